import PyProof.Rows.All
import Wide.All
import OpenK.AllK
import Wide.FinOn
import Lean
import PyProof.EqAt
import PyProof.EqKinds
import PyProof.TupleCall
import KE.KLam
import PyProof.P3Eq
import PyProof.NeData
import PyProof.AttrMissHeap
import KE.KDictOf
import PyProof.DictItems
import PyProof.Rows.Range3
import KE.KEqDict
import PyProof.FactsAll.NoneType_1
import PyProof.FactsAll.bool_1
import KE.KDictSum
import KE.KSorted
import PyProof.ListRange
import PyProof.DictTruth
import PyProof.DictWalks
import PyProof.NeKinds
import KE.KTab
import KE.KTabLook
import PySem.Challenge.RW_boxwright_k05_where_blocks_go
set_option Elab.async false
set_option linter.all false
set_option maxRecDepth 100000
set_option maxHeartbeats 8000000
noncomputable section
local macro_rules | `(tactic| omega) => `(tactic| lia)
open Array renaming length_toList->acW,append_assoc->aft,forIn_toList->afx,toList->afJ
open Bool renaming and_eq_true->aau,false_ne_true->aaJ,or_eq_true->acu,false_eq_true->adi,eq_iff_iff->adK,or_false->aer,false_and->aff,and_self->afw
open Classical renaming propDecidable->aey
open Decidable renaming isFalse->aal,isTrue->aaH
open False renaming elim->adF
open ForInStep renaming yield->abZ
open Function renaming comp->afy
open Int renaming toNat_natCast->ael,zero_add->afL
open List renaming getElem?_eq_some_iff->aac,length_map->aag,getElem?_map->aak,size_toArray->aao,mem_singleton->aar,mem_cons->aav,replicate->aay,map_cons->aaB,length_append->aaI,mem_of_getElem?->aaK,lookup_cons->aaL,mem_cons_of_mem->aaN,getElem?_eq_getElem->aaO,range->aaP,mem_append_right->aaT,getElem?_append_left->aaU,length_range->aaZ,all_eq_true->abn,any_cons->abp,mem_append->abt,mem_range->abx,mem_cons_self->aby,length_set->abA,length_take->abD,length_cons->abE,getElem?_set_self->abF,replicate_succ->abJ,find?_cons->abM,all_cons->abU,nodup_cons->abW,getElem?_range->abX,getElem?_concat_length->acd,getD_eq_getElem?_getD->acf,getElem?_set_ne->acn,flatten_cons->acq,filterMap_cons->acv,forIn_cons->acA,map_append->acH,append_assoc->acI,mem_of_mem_take->acL,nodup_nil->acO,getElem?_zip_eq_some->acQ,mem_nil_iff->acS,mem_map->acY,mem_filter->acZ,length_zip->adh,map_nil->adq,getElem?_eq_none->adt,set_append_right->adu,map_map->adw,any_eq_true->adx,append_nil->adH,lookup->adJ,getElem_of_mem->adL,map_congr_left->adQ,getElem?_append_right->adS,mem_filterMap->adW,getElem_range->adX,pairwise_cons->adY,forIn_nil->aec,nodup_append->aeo,map_take->aex,length_drop->aez,all_toArray->aeB,take_length->aeC,drop_eq_nil_of_le->aeH,pairwise_lt_range->aeK,of_mem_zip->aeP,length_singleton->aeS,mem_append_left->afc,mem_of_mem_drop->afd,drop_drop->afh,any_map->afK
open List.Pairwise renaming filter->acK
open List.cons renaming inj->afv
open Nat renaming le_refl->aaj,lt_of_lt_of_le->aan,ne_of_lt->aaQ,le_trans->abl,le_of_ble_eq_true->abm,ne_of_gt->abw,zero_le->abB,lt_irrefl->abK,lt_succ_self->abQ,zero_add->acC,le_of_lt->ado,le_succ->adI,min_eq_left->adN,le_add_right->aeD,add_comm->aeT
open Nat.succ renaming inj->aeW
open Ne renaming symm->abL
open Option renaming map_eq_some_iff->aap,map_some->aaM,bind_some->abe,isSome_iff_exists->abh,some->acj,isSome_map->aek,getD_some->aeA
open Option.some renaming inj->abd
open PyProof.Rows renaming callWith_type1->aaW,boot_list->abr,slot_tuple_getitem->aco,boot_str->adv,subscriptTail->aeq,boot_bool->aeJ,AllBare->aeM,IntsAre->aeR,boot_all->aeX,boot_int->aeY,envOfC->afg
open PyProof.Rows.IntsAre renaming length->afj
open PySem renaming wpAny_bind->aaa,Shared->aaf,wpAny_pure->aai,mainGlobals->aam,sizeLine->aas,starEach->aaA,boot_len->aaG,FuncData->aaS,compareOp->aaX,wpAny_field->aaY,Program->aba,wpAny_callSpecial?_slot->abb,foldedSetIterable->abf,wpAny_holding->abg,bootBuiltins->abk,wpAny_truthy_bool->abo,wpAny_seqItems->abu,wpAny_call_entry->abv,behindInMarks->abz,assignEach->abH,wpAny_newObj_type->abI,wpAny_mono->abO,wpAny_setField_rec->abP,IsPair->abS,sysModules->acg,Around->acm,mem_of_lookup->acw,codeAny_builtin->acB,PyData->acN,binaryOp->acR,ZipApart->acT,wpAny_pyIter_zip->acU,swapsWith->ada,wpAny_passesOwn->adb,NameKind->ade,wpAny_Call_Name_kw->adf,tupleKind_room_in1->adg,Paired->adj,wpAny_nextOf_list_item->adl,sliceBounds->adm,backTo->adp,lookup_relabel_local->adz,wpAny_updateSeq_pair->adA,plainId_quiet->adC,builtinsNs->adE,letOwnedTupleGo->adG,wpAny_specialOf->adM,wpAny_updateSeq->adP,pyNext->adU,wpAny_pyIter_tuple->adV,slot_dict_contains->adZ,wpAny_letOwnedTupleGo_zip->aed,rawInt->aeh,wpAny_pyIter_list->aei,slot_dict_getitem->aen,attributeBase->aes,wpAny_onRaise->aev,wpAny_attempt->aew,wpAny_execs_nil->aeN,lastMarks->aeO,wpAny_typeOf->aeQ,codeAny_mono->aeU,call_meets->aeZ,wpAny_rule->afa,assign->afe,holding->afk,getItem->afl,subscripted->afm,Builtin->afn,wpAny_letGo->afo,tupleKind->afr,codeAny->afB,typeLookup->afC,PlainAttrs->afE,valueAt->afF,IsPart->afQ
open PySem.Around renaming under_plainId->abR
open PySem.Builtin.Dict renaming updateFrom->aeu,pairItems->aeG
open PySem.Builtin.List renaming listTooLong->acr,listExtendWith->acE,listSameRef->aem,listItems->aeI
open PySem.Builtin.Slice renaming slicePlaces->aci,sliceAdjust->acM,sliceApplied->adT
open PySem.Builtin.SmallTypes renaming nextOf->aaE,ownedTupleIsFree->aaF,ownedTupleHandOut->acP
open PySem.Builtin.Str renaming occurrences->abT
open PySem.Builtin.Tuple renaming tupleExact->acp
open PySem.Calls renaming Name_function_global->adR,spliced_cons->afu
open PySem.F renaming slot_list_append->abi,type_list_append->abj,plainAttrs_list->abq,slot_zip_next->acb,slot_tuple_iterator_next->ace,plain_extend_loop->acl,plainAttrs_str->acy,slot_str_join->acF,type_str_join->acG,slot_list_getattribute->acX,args_zip_next_1->adn,entry_zip_next->ady,args_tuple_iterator_next_1->adD,entry_tuple_iterator_next->adO,entry_extend_loop->aee,args_tuple_add_2->aej,entry_tuple_add->aep,slot_tuple_add->aeF
open PySem.Heap renaming get?_push_of_some->aad,lt_size->aah,get?_push_size->aat,get?_update_other->abG,size_push->ack,SameBut->acz,IsTuple->acD,get?_update_self->ads,get?_none_of_le->afb
open PySem.Heap.DictOf renaming new->afR
open PySem.Heap.SameBut renaming update->aca
open PySem.NameKind renaming free->aaC,cell->abV,globalImplicit->aet
open PySem.Obj renaming mapSeq->abC
open PySem.Paired renaming length->adB
open PySem.PyData renaming eqv->aaV,strOk->ach,eqvAll->acJ,canLay0->aea,canLayAll0->afH,str->afI,int->afS
open PySem.SeqAt renaming EqAt->afD
open PySem.SeqAt.EqAt renaming int_str->afp,str_int->afq
open PySem.Str renaming ofString->aae,ofString_eq_toList->adk
open PySem.Txt renaming join->afN
open PySem.Value renaming ref->abc,none->abN,type->aef,int->afO,str->afP
open PySem.W renaming Frag->aab,nsIn->aaq,mg_of->aaw,keepIn->aax,codeIn->aaz,fnOf->aaD,mg_none_of->aaR,kia_one->abY,tabObj->acx,hideAll_get->acV,CodeHd->aeb,methodObj->aeg,cellsFrom_some->aeE,hideAll->aeL,OpenLaw->aeV,noTabs->afi,of_hideAll->afs,kitx_dict->afG,kdl_dict->afM
open Sum renaming inl->afz,inr->afA
open True renaming intro->acs
namespace L2
open PySem PySem.Spec PyProof.Rows
abbrev Key:=Sum Int Str
noncomputable def mw:Key->Value->Bool
 | .inl k,v=>Value.isInt k v
 | .inr x,v=>Value.isStrOf x v
noncomputable def yc(w:World):Key->Int
 | .inl k=>hashInt k
 | .inr x=>hashStr w x
theorem ic:∀{k:Key} {v:Value},mw k v=true->(∃i t,k=afz i/\v=afO i t)\/(∃x t,k=afA x/\v=afP x t)
 | .inl i,v,h=>by
  obtain⟨t,e⟩:=Value.isInt_shape (k:=i) (v:=v) h;exact .inl ⟨i,t,rfl,e⟩
 | .inr x,v,h=>by
  obtain⟨t,e⟩:=Value.isStrOf_shape (x:=x) (v:=v) h;exact .inr ⟨x,t,rfl,e⟩
theorem OX(i:Int)(t:Tok):mw (.inl i) (.int i t)=true:=by simp[mw,Value.isInt]
theorem OY(x:Str)(t:Tok):mw (.inr x) (.str x t)=true:=by simp[mw,Value.isStrOf]
theorem S5(a b:Int):decide ((afz a:Key)=afz b)=(a==b):=by
 by_cases e:a=b
 ·subst e;simp
 ·have h:¬(afz a:Key)=afz b:=fun q=>e (Sum.inl.inj q)
  rw[decide_eq_false h];exact(beq_eq_false_iff_ne.mpr e).symm
theorem S6(a b:Str):decide ((afA a:Key)=afA b)=decide (a=b):=by
 by_cases e:a=b
 ·subst e;simp
 ·have h:¬(afA a:Key)=afA b:=fun q=>e (Sum.inr.inj q)
  rw[decide_eq_false h,decide_eq_false e]
theorem S7(a:Int)(b:Str):decide ((afz a:Key)=afA b)=false:=decide_eq_false (fun q=>nomatch q)
theorem S8(a:Str)(b:Int):decide ((afA a:Key)=afz b)=false:=decide_eq_false (fun q=>nomatch q)
noncomputable def cL(prog:aba)(w:World):PySem.KeyKind prog w Key where
 is:=mw
 hash:=yc w
 inj:=fun v a b ha hb=>by
  rcases ic ha with⟨i,t,rfl,rfl⟩ | ⟨x,t,rfl,rfl⟩
  ·rcases ic hb with⟨j,u,rfl,e⟩ | ⟨y,u,rfl,e⟩
   ·injection e with e1 _;rw[e1]
   ·exact nomatch e
  ·rcases ic hb with⟨j,u,rfl,e⟩ | ⟨y,u,rfl,e⟩
   ·exact nomatch e
   ·injection e with e1 _;rw[e1]
 byValue:=fun k v h=>by
  rcases ic h with⟨i,t,rfl,rfl⟩ | ⟨x,t,rfl,rfl⟩ <;> rfl
 pyHash:=fun hv h=>by
  rcases ic hv with⟨i,t,rfl,rfl⟩ | ⟨x,t,rfl,rfl⟩
  ·exact wpAny_pyHash_int h
  ·exact wpAny_pyHash_str h
 eqBool:=fun hu hv h=>by
  rcases ic hu with⟨i,t,rfl,rfl⟩ | ⟨x,t,rfl,rfl⟩
  ·rcases ic hv with⟨j,u,rfl,rfl⟩ | ⟨y,u,rfl,rfl⟩
   ·rw[S5] at h;exact wpAny_eqBool_int h
   ·rw[S7] at h;exact afp i t y u _ _ _ _ h
  ·rcases ic hv with⟨j,u,rfl,rfl⟩ | ⟨y,u,rfl,rfl⟩
   ·rw[S8] at h;exact afq x t j u _ _ _ _ h
   ·rw[S6] at h;exact wpAny_eqBool_str h
 «strs»:=fun k x t v h=>by
  rcases ic h with⟨i,u,rfl,e⟩ | ⟨y,u,rfl,e⟩
  ·exact nomatch e
  ·injection e with e1 _
   subst e1;cases v <;> rfl
theorem M9(prog:aba)(w:World)(i:Int)(t:Tok):(cL prog w).is (.inl i) (.int i t)=true:=OX i t
theorem Na(prog:aba)(w:World)(x:Str)(t:Tok):(cL prog w).is (.inr x) (.str x t)=true:=OY x t
inductive V where
 | aO | bl (b:Bool) | int (i:Int) | str (x:Str) | o5 (b:Array UInt8) | yu (b:UInt64) | ref (a:Addr) | ty (n:String)
 deriving DecidableEq
noncomputable def RelV:V->Value->Prop
 | .aO,u=>u=abN
 | .bl b,u=>u=Value.bool b
 | .int i,u=>∃t,u=afO i t
 | .str x,u=>∃t,u=afP x t
 | .o5 b,u=>∃t,u=Value.bytes b t
 | .yu b,u=>∃t,u=Value.float b t
 | .ref a,u=>u=abc a
 | .ty n,u=>u=aef n
abbrev Vals:List V->List Value->Prop:=adj RelV
theorem Vals.length{xs:List V}{us:List Value}(r:Vals xs us):xs.length=us.length:=adB r
theorem Vals.get:∀{xs:List V} {us:List Value} {i:Nat} {x:V},Vals xs us->xs[i]? =some x->∃u,us[i]? =some u/\RelV x u
 | _,_,_,_,.nil,e=>by simp at e
 | _,_,0,_,.cons r _,e=>by simp at e;subst e;exact⟨_,rfl,r⟩
 | _,_,i+1,x,.cons _ t,e=>by
  obtain⟨u,h1,h2⟩:=Vals.get (i:=i) (x:=x) t (by simpa using e);exact⟨u,by simpa using h1,h2⟩
theorem Vals.set{x:V}{u:Value}(r:RelV x u):∀{xs:List V} {us:List Value} (i:Nat),Vals xs us->Vals (xs.set i x) (us.set i u)
 | _,_,_,.nil=>.nil
 | _,_,0,.cons _ t=>.cons r t
 | _,_,i+1,.cons q t=>.cons q (Vals.set r i t)
theorem Vals.append:∀{xs ys:List V} {us ws:List Value},Vals xs us->Vals ys ws->Vals (xs++ys) (us++ws)
 | _,_,_,_,.nil,s=>s
 | _,_,_,_,.cons r t,s=>.cons r (Vals.append t s)
theorem Vals.take:∀{xs:List V} {us:List Value} (n:Nat),Vals xs us->Vals (xs.take n) (us.take n)
 | _,_,0,_=>.nil
 | _,_,_+1,.nil=>.nil
 | _,_,n+1,.cons r t=>.cons r (Vals.take n t)
theorem Vals.drop:∀{xs:List V} {us:List Value} (n:Nat),Vals xs us->Vals (xs.drop n) (us.drop n)
 | _,_,0,r=>r
 | _,_,_+1,.nil=>.nil
 | _,_,n+1,.cons _ t=>Vals.drop n t
noncomputable def ix:Option V->Option Value->Prop
 | some v,some u=>RelV v u
 | none,none=>True
 | _,_=>False
noncomputable def KV{κ:Type}:List (κ×V)->List (κ×Value)->Prop:=adj fun(p:κ×V) (q:κ×Value)=>p.1=q.1/\RelV p.2 q.2
noncomputable def kV:Key->V
 | .inl i=>.int i
 | .inr x=>.str x
noncomputable def uA:V->Option Key
 | .int i=>some (.inl i)
 | .bl b=>some (.inl (if b then 1 else 0))
 | .str x=>some (.inr x)
 | _=>none
noncomputable def Ft:List V->Option (List Key)
 | []=>some []
 | v::vs=>match uA v,Ft vs with
  | some k,some ks=>some (k::ks)
  | _,_=>none
inductive HO where
  | lst (xs:List V)
  | tup (xs:List V)
  | dK (kvs:List (Key×V)) | dT (kvs:List (List Key×V))
  | dU (kvs:List (V×V))
  | set (S:Int->Bool) (n:Nat)
  | ins (C dx:Addr) (fs:List (Str×V))
  | own (x:Addr)
  | xd (fs:List (Str×V))
  | met (f x:Addr)
  | yv (lo hi:Int)
  | bL (o:Obj) (u:HO)
  | fT (ps:Array Value)
  | ext (φ:Heap->Prop)
abbrev Hp:=Addr->Option HO
noncomputable def upd(H:Hp)(a:Addr)(o:HO):Hp:=fun b=>if b=a then some o else H b
variable{H:Hp}{a:Addr}{o:HO}
theorem bF:upd H a o a=some o:=by unfold upd;rw[if_pos rfl]
variable{b:Addr}
theorem aW(h:b≠a):upd H a o b=H b:=by unfold upd;rw[if_neg h]
variable{u:HO}
theorem iS:upd (upd H a o) a u=upd H a u:=by
 funext b;unfold upd;split <;> rfl
theorem il(h:H a=some o)(h':H b=some u)(d:o≠u):a≠b:=by
 intro e;subst e;rw[h] at h';exact d (abd h')
theorem dS(h:H a=some o)(h':H b=none):a≠b:=by
 intro e;subst e;rw[h] at h';cases h'
section
variable(P:aba)(w:World)
noncomputable def cI(H:Hp)(h:Heap)(a:Addr):HO->Prop
 | .lst xs=>xs.length<=aas/\∃(its:List Value) (n:Nat),Vals xs its/\h.get? a=some { cls:=.type "list",data:=.seq its.toArray n }
 | .tup xs=>xs.length<=aas/\∃its:List Value,Vals xs its/\IsTup h a its.toArray
 | .dK kvs=>kvs.length<=aas/\(a==acg)=false/\∃vs,KV kvs vs/\h.DictOf (cL P w) a vs
 | .dT kvs=>kvs.length<=aas/\(a==acg)=false/\∃xs:List (List Key×Addr×Value),
   adj (fun(p:List Key×V) (q:List Key×Addr×Value)=>p.1=q.1/\H q.2.1=some (.tup (p.1.map kV))/\RelV p.2 q.2.2) kvs xs /\
   ∃o es ep,h.get? a=some o/\o.ExactDict/\o.data=.dict es ep/\es.toList=xs.map (entryOfKey (afr (cL P w)))/\(xs.map (·.1)).Nodup
 | .dU kvs=>kvs.length<=aas/\(a==acg)=false/\∃o es ep,h.get? a=some o/\o.ExactDict/\o.data=.dict es ep/\adj (fun(p:V×V) (e:DictEntry)=>RelV p.1 e.key/\RelV p.2 e.val /\
   ((∃k,uA p.1=some k/\e.hash=yc w k)\/∃b ts ks,p.1=.ref b/\H b=some (.tup ts)/\Ft ts=some ks/\e.hash=tupleKeyHash (cL P w) ks)) kvs es.toList
 | .set S n=>h.SetOf (intKind P w) a S n
 | .ins C dx fs=>H dx=some (.own a)/\fs.length<=1000/\dx≠a/\h.get? a=some (PySem.W.instObj C dx) /\
   ∃mA,h.Ns1 dx mA/\(∀f,ix (fs.lookup f) (mA f))/\PySem.Within mA (fs.map (·.1))
 | .own _=>∃o,h.get? a=some o
 | .xd fs=>∃mA,h.Ns1 a mA/\∀f,ix (fs.lookup f) (mA f)
 | .yv lo hi=>∃t u v,h.get? a=some { cls:=.type "range",data:=.fields #[.int lo t,.int hi u,.int 1 v] }
 | .bL o u=>h.get? a=some o/\cI H h a u
 | .fT ps=>h.get? a=some { cls:=.none,data:=.fields ps }
 | .met f x=>h.get? a=some (aeg (.ref f) (.ref x))
 | .ext φ=>φ h/\(∃o,h.get? a=some o)/\∀h1 h2:Heap,φ h1->(∀o,h1.get? a=some o->h2.get? a=some o)->φ h2
noncomputable def cc(H:Hp)(h:Heap):Prop:=∀a o,H a=some o->cI P w H h a o
end
section
variable{P:aba}{w:World}{H H':Hp}{h h':Heap}{a:Addr}{o:HO}
theorem cI.lt(x:cI P w H h a o):a<h.objs.size:=by
 cases o with
 | lst xs=>obtain⟨_,_,_,_,e⟩:=x;exact aah e
 | tup xs=>obtain⟨_,_,_,p⟩:=x;exact p.lt
 | dK kvs=>obtain⟨_,_,_,_,o,_,_,e,_⟩:=x;exact aah e
 | dT kvs=>obtain⟨_,_,_,_,o,_,_,e,_⟩:=x;exact aah e
 | dU kvs=>obtain⟨_,_,o,_,_,e,_⟩:=x;exact aah e
 | set S n=>obtain⟨o,_,_,_,e,_⟩:=x;exact aah e
 | ins C dx fs=>obtain⟨_,_,_,e,_⟩:=x;exact aah e
 | own y=>obtain⟨_,e⟩:=x;exact aah e
 | xd fs=>obtain⟨_,⟨_,_,_,e,_⟩,_⟩:=x;exact aah e
 | yv lo hi=>obtain⟨_,_,_,e⟩:=x;exact aah e
 | bL ob u=>obtain⟨e,_⟩:=x;exact aah e
 | fT ps=>exact aah (show h.get? a=some _ from x)
 | met f y=>exact aah (show h.get? a=some _ from x)
 | ext φ=>obtain⟨_,⟨_,e⟩,_⟩:=x;exact aah e
theorem adj.jG{α β:Type}{F G:α->β->Prop}:∀{GL:List α} {GN:List β},adj F GL GN->(∀a b,F a b->G a b)->adj G GL GN
 | _,_,.nil,_=>.nil
 | _,_,.cons r t,f=>.cons (f _ _ r) (adj.jG t f)
theorem cI.i4(x:cI P w H h a o)(k:∀b u,(b=a\/H b=some (.own a))->h.get? b=some u->h'.get? b=some u)
  (ho:∀b,H b=some (.own a)->H' b=some (.own a)) (ht:∀b xs,H b=some (.tup xs)->H' b=some (.tup xs)):cI P w H' h' a o:=by
 induction o with
 | lst xs=>obtain⟨z,its,n,r,e⟩:=x;exact⟨z,its,n,r,k _ _ (.inl rfl) e⟩
 | tup xs=>obtain⟨z,its,r,ob,e,c⟩:=x;exact⟨z,its,r,ob,k _ _ (.inl rfl) e,c⟩
 | dK kvs=>obtain⟨z,y,vs,r,ob,es,ep,e,c⟩:=x;exact⟨z,y,vs,r,ob,es,ep,k _ _ (.inl rfl) e,c⟩
 | dT kvs=>
  obtain⟨z,y,xs,r,ob,es,ep,e,c⟩:=x;exact⟨z,y,xs,adj.jG r fun p q z=>⟨z.1,ht _ _ z.2.1,z.2.2⟩,ob,es,ep,k _ _ (.inl rfl) e,c⟩
 | dU kvs=>
  obtain⟨z,y,ob,es,ep,e,c1,c2,r⟩:=x;exact⟨z,y,ob,es,ep,k _ _ (.inl rfl) e,c1,c2,adj.jG r fun p q z=>⟨z.1,z.2.1,z.2.2.imp_right fun⟨b,ts,ks,h1,h2,h3⟩=>⟨b,ts,ks,h1,ht _ _ h2,h3⟩⟩⟩
 | set S n=>obtain⟨ob,es,ep,t,e,c⟩:=x;exact⟨ob,es,ep,t,k _ _ (.inl rfl) e,c⟩
 | ins C dx fs=>
  obtain⟨d,z,ne,e,mA,⟨od,es,ep,e2,c⟩,r⟩:=x;exact⟨ho _ d,z,ne,k _ _ (.inl rfl) e,mA,⟨od,es,ep,k _ _ (.inr d) e2,c⟩,r⟩
 | own y=>obtain⟨ob,e⟩:=x;exact⟨ob,k _ _ (.inl rfl) e⟩
 | xd fs=>obtain⟨mA,⟨od,es,ep,e,c⟩,r⟩:=x;exact⟨mA,⟨od,es,ep,k _ _ (.inl rfl) e,c⟩,r⟩
 | yv lo hi=>obtain⟨t,u,v,e⟩:=x;exact⟨t,u,v,k _ _ (.inl rfl) e⟩
 | bL ob u ih=>obtain⟨e,q⟩:=x;exact⟨k _ _ (.inl rfl) e,ih q⟩
 | fT ps=>
  have e:h.get? a=some { cls:=.none,data:=.fields ps }:=x;show h'.get? a=some { cls:=.none,data:=.fields ps };exact k a _ (.inl rfl) e
 | met f y=>
  have e:h.get? a=some (aeg (.ref f) (.ref y)):=x;show h'.get? a=some (aeg (.ref f) (.ref y));exact k a _ (.inl rfl) e
 | ext φ=>obtain⟨p,⟨o,e⟩,st⟩:=x;exact⟨st _ _ p fun o q=>k _ _ (.inl rfl) q,⟨o,k _ _ (.inl rfl) e⟩,st⟩
theorem cc.lt(x:cc P w H h)(e:H a=some o):a<h.objs.size:=(x a o e).lt
theorem cc.fresh(x:cc P w H h)(e:h.objs.size<=a):H a=none:=by
 cases q:H a with
 | none=>rfl
 | some u=>exact absurd (aan (x.lt q) e) (abK _)
theorem cc.kept(x:cc P w H h)(k:∀b u,h.get? b=some u->h'.get? b=some u):cc P w H h':=fun a o e=>
 (x a o e).i4 (fun b u _ q=>k b u q) (fun _ q=>q) fun _ _ q=>q
theorem cc.laid(x:cc P w H h)(k:∀b u,h.get? b=some u->h'.get? b=some u)(hp:h.objs.size<=a)(new:cI P w (upd H a o) h' a o):cc P w (upd H a o) h':=fun b u e=>by
 have hn:=x.fresh hp;by_cases hb:b=a
 ·subst hb;rw[bF] at e;cases e;exact new
 ·rw[aW hb] at e;exact(x b u e).i4 (fun c v _ q=>k c v q) (fun c q=>by rw[aW (dS q hn)];exact q) fun c xs q=>by rw[aW (dS q hn)];exact q
end
noncomputable def Rd(H:Hp)(a:Addr)(u:HO):Prop:=H a=some u\/∃o,H a=some (.bL o u)
variable{P:aba}{h:Heap}
theorem Rd.ok{w:World}(r:Rd H a u)(x:cc P w H h):cI P w H h a u:=by
 rcases r with r | ⟨o,r⟩
 ·exact x a u r
 ·obtain⟨_,q⟩:=x a _ r;exact q
noncomputable def jc:Option HO->Prop
 | some (.lst _)=>True
 | some (.dK _)=>True
 | some (.dT _)=>True
 | some (.dU _)=>True
 | some (.set _ _)=>True
 | some (.ins _ _ _)=>True
 | some (.ext _)=>True
 | _=>False
section
variable{P:aba}{w:World}{H:Hp}{h h':Heap}{x e:Addr}{o':HO}
theorem cc.write(ok:cc P w H h)(mu:jc (H x))(he:e=x\/H e=some (.own x))(k:∀b u,b≠e->h.get? b=some u->h'.get? b=some u)(m8:∃u,h'.get? e=some u)
  (new:cI P w (upd H x o') h' x o'):cc P w (upd H x o') h':=fun b u q=>by
 have EE:∀c y,H c=some (.own y)->c≠x:=fun c y r z=>by subst z;rw[r] at mu;exact mu
 have WT:∀c xs,H c=some (.tup xs)->c≠x:=fun c xs r z=>by subst z;rw[r] at mu;exact mu
 by_cases hb:b=x
 ·subst hb;rw[bF] at q;cases q;exact new
 ·rw[aW hb] at q;by_cases k8:b=e
  ·have q':H b=some (.own x):=by
    rcases he with z | z
    ·exact absurd (k8.trans z) hb
    ·rw[k8];exact z
   rw[q] at q';cases q';obtain⟨v,hv⟩:=m8;exact⟨v,by rw[k8];exact hv⟩
  ·refine(ok b u q).i4 (fun c v hc r=>k c v ?_ r) (fun c r=>by rw[aW (EE c b r)];exact r) fun c xs r=>by rw[aW (WT c xs r)];exact r
   rcases hc with rfl | hc
   ·exact k8
   ·rintro rfl
    rcases he with z | z
    ·exact EE c b hc z
    ·rw[hc] at z;cases z;exact hb rfl
end
structure Un(fs ex:List Addr)(H H':Hp)(h h':Heap):Prop where
 keep:∀b o,h.get? b=some o->H b=none->b∉fs->b∉ex->h'.get? b=some o
 slot:∀b o,h.get? b=some o->H b=none->b∈fs->b∉ex->∃sl,h'.get? b=some { o with slots:=sl }
 free:∀b o,h.get? b=some o->H b=none->b∉ex->H' b=none
 there:∀b o,h.get? b=some o->b∉ex->∃o',h'.get? b=some o'
 fP:∀b xs,H b=some (.tup xs)->H' b=some (.tup xs)
 el:∀b o u,H b=some (.bL o u)->H' b=some (.bL o u)
 fv:∀b ps,H b=some (.fT ps)->∃more,H' b=some (.fT (ps++more))
section
variable{fs ZK ex ZM:List Addr}{H H1 H2:Hp}{h h1 h2 h':Heap}{a x e:Addr}{o:HO}
theorem Un.any(u:Un fs ex H H1 h h1){b:Addr}{ob:Obj}(q:h.get? b=some ob)(n:H b=none)(hx:b∉ex):∃sl,h1.get? b=some { ob with slots:=sl }:=by
 by_cases hb:b∈fs
 ·exact u.slot b ob q n hb hx
 ·exact⟨ob.slots,u.keep b ob q n hb hx⟩
theorem Un.kept(k:∀b u,h.get? b=some u->h'.get? b=some u):Un fs ex H H h h':=
 ⟨fun b ob q _ _ _=>k b ob q,fun b ob q _ _ _=>⟨ob.slots,k b ob q⟩,fun _ _ _ n _=>n,fun b ob q _=>⟨ob,k b ob q⟩,fun _ _ q=>q,fun _ _ _ q=>q,fun _ ps q=>⟨#[],by rw[q];simp⟩⟩
theorem Un.refl:Un fs ex H H h h:=Un.kept fun _ _ q=>q
theorem Un.laid(k:∀b u,h.get? b=some u->h'.get? b=some u)(hp:h.objs.size<=a)(hn:H a=none):Un fs ex H (upd H a o) h h' where
 keep:=fun b u q _ _ _=>k b u q
 slot:=fun b u q _ _ _=>⟨u.slots,k b u q⟩
 free:=fun b u q n _=>by rw[aW (aaQ (aan (aah q) hp))];exact n
 there:=fun b u q _=>⟨u,k b u q⟩
 fP:=fun b xs q=>by rw[aW (dS q hn)];exact q
 el:=fun b u xs q=>by rw[aW (dS q hn)];exact q
 fv:=fun b ps q=>⟨#[],by rw[aW (dS q hn),q];simp⟩
theorem Un.write(mu:jc (H x))(he:e=x\/H e=some (.own x))(k:∀b u,b≠e->h.get? b=some u->h'.get? b=some u)(m8:∃u,h'.get? e=some u):Un fs ex H (upd H x o) h h':=by
 have hx:∀b,H b=none->b≠x:=fun b n z=>by subst z;rw[n] at mu;exact mu
 have hb:∀b,H b=none->b≠e:=fun b n z=>by
  subst z
  rcases he with r | r
  ·exact hx b n r
  ·rw[n] at r;cases r
 have hm:∀b u,H b=some u->¬jc (some u)->b≠x:=fun b u q nm z=>by subst z;rw[q] at mu;exact nm mu
 refine⟨fun b u q n _ _=>k b u (hb b n) q,fun b u q n _ _=>⟨u.slots,k b u (hb b n) q⟩,fun b u q n _=>by rw[aW (hx b n)];exact n,fun b u q _=>?_,
  fun b xs q=>by rw[aW (hm b _ q fun z=>z)];exact q,fun b u xs q=>by rw[aW (hm b _ q fun z=>z)];exact q,fun b ps q=>⟨#[],by rw[aW (hm b _ q fun z=>z),q];simp⟩⟩
 by_cases k8:b=e
 ·subst k8;exact m8
 ·exact⟨u,k b u k8 q⟩
end
noncomputable def tX(h:Heap)(H:Hp):List Addr:=(aaP h.objs.size).filter fun a=>(H a).isSome
noncomputable def i5(h:Heap)(H:Hp):Heap:=aeL h (tX h H)
theorem OZ(h:Heap)(H:Hp):(i5 h H).objs.size=h.objs.size:=PySem.W.hideAll_size _ _
theorem Ql{o:Obj}(e:h.get? b=some o)(n:H b=none):(i5 h H).get? b=some o:=
 acV _ e fun hm=>by
  have q:(H b).isSome=true:=(acZ.mp hm).2;rw[n] at q;simp at q
theorem Q8{o:Obj}(e:(i5 h H).get? b=some o):h.get? b=some o/\H b=none:=by
 have e':h.get? b=some o:=afs (tX h H) e;refine⟨e',?_⟩;cases q:H b with
 | none=>rfl
 | some x=>
  have hm:b∈tX h H:=acZ.mpr ⟨abx.mpr (aah e'),by simp[q]⟩;have z:(i5 h H).get? b=none:=PySem.W.hideAll_none (tX h H) hm;rw[z] at e;cases e
noncomputable def Q9(g h:Heap)(L:Addr):List (Addr×Obj):=(aaP h.objs.size).filterMap fun a=>if a=L\/(g.get? a).isSome=true then none else(h.get? a).map fun o=>(a,o)
noncomputable def rest(g h:Heap)(L d:Addr):List (Addr×Obj):=(Q9 g h L).filter fun p=>decide (p.1≠d)
structure Mod(K:aab)(mg:Str->Option Value)(base:Heap):Prop where
 yw:K.In base
 glob:base.Ns aam mg
 blt:∃mb,base.Ns adE mb/\∀x:Str,x≠"__name__"->mb x=abk x
 nolimit:base.NoLimit
 bm:∃bm ob,mg "__builtins__"=some (.ref bm)/\bm≠adE/\base.get? bm=some ob/\ob.cls=.type "module"/\ob.dict=some adE/\ob.data=.plain
structure Cx where
 prog:aba
 w:World
 K:aab
 mg:Str->Option Value
 base:Heap
 A:acm
 N:List Str
 aE:aaf
 aL:Hp
 env:Env
 outer:List Env
 stack:List Env
 ex:List Addr
 fn:Str->Bool
 calm:Bool
 pn:List (Addr×Obj)
 xe:Value->aaf->Prop
 kp:List (Option V)->Prop
noncomputable def dP(l:List Env):List Addr:=l.filterMap (·.frame)
abbrev Cx.fs(X:Cx):List Addr:=dP X.outer
noncomputable def aH(sc:Scope)(x:Str):Prop:=sc.names.lookup x=some .local\/sc.names.lookup x=some .cell\/sc.names.lookup x=some .free
noncomputable def Loc(sc:Scope)(x:Str):Prop:=sc.names.lookup x=some .local\/sc.names.lookup x=some .cell
noncomputable def Look(env:Env)(h:Heap)(m:Str->Option Value)(x:Str)(u:Value):Prop:=
 (env.kindOf x=some .local/\m x=some u)\/((env.kindOf x=some .cell\/env.kindOf x=some .free)/\∃c,env.cells.lookup x=some c/\h.IsCell c (some u))
structure Cx.Ok(X:Cx):Prop where
 mod:Mod X.K X.mg X.base
 kind:X.env.scope.kind=.function
 glob:X.env.globals=aam
 blt:X.env.builtins=adE
 above:X.aE.heap.objs.size<=X.env.locals
 inj:∀x y c,X.env.cells.lookup x=some c->X.env.cells.lookup y=some c->x=y
 has:∀x,(X.env.kindOf x=some .cell\/X.env.kindOf x=some .free)->∃c,X.env.cells.lookup x=some c
 tY:∀x c,X.fn x=true->X.env.cells.lookup x=some c->X.aE.heap.objs.size<=c
 hd:X.calm=true->X.A.handled=none
 frames:X.A.frames=some X.stack
 yx:X.stack=X.outer\/(X.stack=X.env::X.outer/\X.env.frame=some X.env.locals)
 XN:∀b∈X.ex,b≠X.env.locals/\∀x c,X.env.cells.lookup x=some c->c≠b
 bs:∀b o,X.base.get? b=some o->X.aE.heap.get? b=some o/\X.aL b=none
 m9:X.base.objs.size<=X.aE.heap.objs.size
 sW:∀b o,X.base.get? b=some o->b∉X.ex
 sX:∀b∈X.ex,b∉X.fs
 gi:X.aE.heap.FunFrames X.base X.outer
 pd:∀b∈X.fs,X.aL b=none
structure Inv(X:Cx)(pins:List (Addr×Obj))(σ:List (Option V))(H:Hp)(s:aaf):Prop where
 ok:X.Ok
 os:s.os=X.aE.os
 bare:aeM s.gens
 base:Un X.fs X.ex X.aL H X.aE.heap s.heap
 loc:∃m,s.heap.Ns X.env.locals m/\∀(i:Nat) (x:Str) (v:V),X.N[i]? =some x->σ[i]? =some (some v)->aH X.env.scope x->∃u,RelV v u/\Look X.env s.heap m x u
 cell:∀x c,X.env.cells.lookup x=some c->∃v,s.heap.IsCell c v
 free:H X.env.locals=none
 jB:∀x c,X.env.cells.lookup x=some c->(X.fn x=true->H c=none)/\(H c=none\/∃o,H c=some (.bL o (.ext fun _=>True)))
 pin:∀p∈X.pn++pins,s.heap.get? p.1=some p.2/\H p.1=none/\p.1≠X.env.locals/\p.1∉X.fs/\∀v,p.2.data≠.cell v
 aG:cc X.prog X.w H s.heap
 lk:σ.length=X.N.length/\X.kp σ
variable{X:Cx}
theorem Inv.len{pins:List (Addr×Obj)}{σ:List (Option V)}{s:aaf}(I:Inv X pins σ H s):σ.length=X.N.length:=I.lk.1
noncomputable def iy(X:Cx)(x:Str):Prop:=∀i,X.N[i]? =some x->∀(σ:List (Option V)) (o:Option V),X.kp σ->X.kp (σ.set i o)
section
variable{X:Cx}{pins:List (Addr×Obj)}{σ:List (Option V)}{H H':Hp}{s:aaf}{h':Heap}
theorem Cx.Ok.WU(ok:X.Ok){b:Addr}{o:Obj}(e:X.base.get? b=some o):b∉X.fs:=fun hb=>by
 have:=(ok.gi.mem hb).1;rw[e] at this;cases this
theorem Inv.bs(I:Inv X pins σ H s):∀b o,X.base.get? b=some o->s.heap.get? b=some o/\H b=none:=fun b o e=>
 ⟨I.base.keep b o (I.ok.bs b o e).1 (I.ok.bs b o e).2 (I.ok.WU e) (I.ok.sW b o e),I.base.free b o (I.ok.bs b o e).1 (I.ok.bs b o e).2 (I.ok.sW b o e)⟩
theorem Inv.bk(I:Inv X pins σ H s):∀b o,X.base.get? b=some o->s.heap.get? b=some o:=fun b o e=>(I.bs b o e).1
theorem Inv.mod(I:Inv X pins σ H s):Mod X.K X.mg X.base:=I.ok.mod
theorem Inv.eF(I:Inv X pins σ H s):X.K.In s.heap:=I.ok.mod.yw.keeps I.bk
theorem Inv.lt(I:Inv X pins σ H s):X.env.locals<s.heap.objs.size:=let ⟨_,hn,_⟩:=I.loc;hn.lt
theorem Inv.sz(I:Inv X pins σ H s):X.aE.heap.objs.size<=s.heap.objs.size:=abl I.ok.above (ado I.lt)
theorem Inv.WV(I:Inv X pins σ H s){a:Addr}(h:s.heap.objs.size<=a):a∉X.fs:=fun hb=>by
 obtain⟨_,o,ho,_⟩:=I.ok.gi.mem hb;exact absurd (aan (aah ho) (abl I.sz h)) (abK _)
theorem Inv.k9(I:Inv X pins σ H s):∀x c,X.env.cells.lookup x=some c->c≠X.env.locals:=fun x c e z=>by
 obtain⟨v,o,ho,hd⟩:=I.cell x c e;obtain⟨m,⟨o',es,ep,dY,lc,_⟩,_⟩:=I.loc;rw[z,dY] at ho;cases ho;rw[lc] at hd;cases hd
theorem Inv.gi(I:Inv X pins σ H s):s.heap.FunFrames X.base X.outer:=by
 have all:∀(l:List Env),(∀b∈dP l,b∈X.fs)->X.aE.heap.FunFrames X.base l->s.heap.FunFrames X.base l:=by
  intro l
  induction l with
  | nil=>intro _ _;trivial
  | cons env r ih=>
   intro hs hl;obtain⟨hk,⟨L,o,hf,hn,ho,hd⟩,hr⟩:=hl;have hL:L∈X.fs:=hs L (by unfold dP;rw[acv,hf];exact aby);obtain⟨sl,e⟩:=I.base.slot L o ho (I.ok.pd L hL) hL fun z=>I.ok.sX L z hL
   exact⟨hk,⟨L,_,hf,hn,e,hd⟩,ih (fun b hb=>hs b (by unfold dP;rw[acv,hf];exact aaN _ hb)) hr⟩
 exact all X.outer (fun _ hb=>hb) I.ok.gi
theorem Inv.stack(I:Inv X pins σ H s):s.heap.FunFrames X.base X.stack:=by
 rcases I.ok.yx with e | ⟨e,hf⟩
 ·rw[e];exact I.gi
 ·rw[e];obtain⟨m,hn,_⟩:=I.loc;refine .cons (by rw[I.ok.kind];decide) hf hn ?_ I.gi;exact afb (abl I.ok.m9 I.ok.above)
theorem Inv.wO(I:Inv X pins σ H s):∀b∈dP X.stack,b∈X.env.locals::X.fs:=fun b hb=>by
 rcases I.ok.yx with e | ⟨e,hf⟩
 ·rw[e] at hb;exact aaN _ hb
 ·rw[e] at hb;unfold dP at hb;rw[acv,hf] at hb;exact hb
theorem Inv.wq(I:Inv X pins σ H s):∀b∈dP X.stack,H b=none:=fun b hb=>by
 rcases aav.mp (I.wO b hb) with e | hb
 ·rw[e];exact I.free
 ·obtain⟨_,o,ho,_⟩:=I.ok.gi.mem hb;exact I.base.free b o ho (I.ok.pd b hb) fun z=>I.ok.sX b z hb
variable{t':Nat}{ch:List Addr}
theorem Inv.step{g':Array GenState}{d':Drawn}(I:Inv X pins σ H s)
  (iD:∀b∈ch,(b∈X.ex\/X.aE.heap.objs.size<=b)/\b≠X.env.locals/\(∀x c,X.env.cells.lookup x=some c->c≠b)/\∀p∈X.pn++pins,p.1≠b)
  (keep:∀b o,b≠X.env.locals->b∉X.fs->b∉ch->s.heap.get? b=some o->H b=none->h'.get? b=some o)
  (slot:∀b o,b≠X.env.locals->b∈X.fs->b∉ch->s.heap.get? b=some o->H b=none->∃sl,h'.get? b=some { o with slots:=sl }) (free:∀b o,b∉ch->s.heap.get? b=some o->H b=none->H' b=none)
  (there:∀b o,b∉ch->s.heap.get? b=some o->∃o',h'.get? b=some o')
  (fP:∀b xs,H b=some (.tup xs)->H' b=some (.tup xs)) (el:∀b o u,H b=some (.bL o u)->H' b=some (.bL o u)) (fv:∀b ps,H b=some (.fT ps)->∃more,H' b=some (.fT (ps++more)))
  (ns:∀m,s.heap.Ns X.env.locals m->h'.Ns X.env.locals m) (aG:cc X.prog X.w H' h') (hg:aeM g') :
  Inv X pins σ H' { s with heap:=h',gens:=g',drawn:=d',toks:=t' }:=by
 have pe:∀b o,X.aE.heap.get? b=some o->b≠X.env.locals:=fun b o e=>aaQ (aan (aah e) I.ok.above)
 have lg:∀b o,X.aE.heap.get? b=some o->b∉X.ex->b∉ch:=fun b o e hx hb=>by
  rcases(iD b hb).1 with z | z
  ·exact hx z
  ·exact absurd (aan (aah e) z) (abK _)
 have cellK:∀x c,X.env.cells.lookup x=some c->∀v,s.heap.IsCell c v->h'.IsCell c v:=fun x c e v ⟨o,ho,hd⟩=>by
  have jX:c∉ch:=fun z=>(iD c z).2.2.1 x c e rfl
  rcases(I.jB x c e).2 with fr | ⟨ob,fr⟩
  ·by_cases hc:c∈X.fs
   ·obtain⟨sl,q⟩:=slot c o (I.k9 x c e) hc jX ho fr;exact⟨_,q,hd⟩
   ·exact⟨o,keep c o (I.k9 x c e) hc jX ho fr,hd⟩
  ·have e1:s.heap.get? c=some ob:=(I.aG c _ fr).1;have e2:h'.get? c=some ob:=(aG c _ (el c _ _ fr)).1;rw[ho] at e1;cases e1;exact⟨o,e2,hd⟩
 refine⟨I.ok,I.os,hg,⟨fun b o e n hb hx=>?_,fun b o e n hb hx=>?_,fun b o e n hx=>?_,fun b o e hx=>?_,fun b xs e=>fP b xs (I.base.fP b xs e),fun b o xs e=>el b o xs (I.base.el b o xs e),fun b ps e=>?_⟩,?_,fun x c e=>?_,?_,fun x c e=>?_,fun p hp=>?_,aG,I.lk⟩
 ·exact keep b o (pe b o e) hb (lg b o e hx) (I.base.keep b o e n hb hx) (I.base.free b o e n hx)
 ·obtain⟨sl,e1⟩:=I.base.slot b o e n hb hx;obtain⟨XO,e2⟩:=slot b _ (pe b o e) hb (lg b o e hx) e1 (I.base.free b o e n hx);exact⟨XO,e2⟩
 ·obtain⟨o',e1⟩:=I.base.there b o e hx;exact free b o' (lg b o e hx) e1 (I.base.free b o e n hx)
 ·obtain⟨o',e1⟩:=I.base.there b o e hx;exact there b o' (lg b o e hx) e1
 ·obtain⟨m1,e1⟩:=I.base.fv b ps e;obtain⟨m2,e2⟩:=fv b _ e1;exact⟨m1++m2,by rw[e2,aft]⟩
 ·obtain⟨m,hn,hl⟩:=I.loc;refine⟨m,ns m hn,fun i x v e1 e2 e3=>?_⟩;obtain⟨u,r,l⟩:=hl i x v e1 e2 e3;refine⟨u,r,?_⟩
  rcases l with l | ⟨k,c,e,z⟩
  ·exact .inl l
  ·exact .inr ⟨k,c,e,cellK x c e _ z⟩
 ·obtain⟨v,z⟩:=I.cell x c e;exact⟨v,cellK x c e v z⟩
 ·obtain⟨m,⟨o,_,_,ho,_⟩,_⟩:=I.loc;exact free _ o (fun z=>(iD _ z).2.1 rfl) ho I.free
 ·obtain⟨v,o,ho,hd⟩:=I.cell x c e;have jX:c∉ch:=fun z=>(iD c z).2.2.1 x c e rfl
  exact⟨fun hf=>free c o jX ho ((I.jB x c e).1 hf),(I.jB x c e).2.imp (fun fr=>free c o jX ho fr) fun⟨ob,fr⟩=>⟨ob,el c _ _ fr⟩⟩
 ·obtain⟨e,n,ne,nf,d⟩:=I.pin p hp;have jX:p.1∉ch:=fun z=>(iD p.1 z).2.2.2 p hp rfl
  exact⟨keep p.1 p.2 ne nf jX e n,free p.1 p.2 jX e n,ne,nf,d⟩
theorem Inv.un(I:Inv X pins σ H s)(u:Un X.fs [] H H' s.heap h')(aG:cc X.prog X.w H' h'):Inv X pins σ H' { s with heap:=h',toks:=t' }:=by
 obtain⟨m,⟨o,es,ep,ho,r⟩,_⟩:=id I.loc;obtain⟨sl,hL⟩:=u.any ho I.free (by simp);exact I.step (g':=s.gens) (d':=s.drawn) (ch:=[]) (fun _ z=>nomatch z) (fun b o _ hb _ e n=>u.keep b o e n hb (by simp)) (fun b o _ hb _ e n=>u.slot b o e n hb (by simp)) (fun b o _ e n=>u.free b o e n (by simp)) (fun b o _ e=>u.there b o e (by simp)) u.fP u.el u.fv (fun m' hm=>by
  obtain⟨o',yy,yz,dY,r'⟩:=hm;rw[ho] at dY;cases dY;exact⟨_,yy,yz,hL,r'⟩) aG I.bare
theorem Inv.call{g':Array GenState}{d':Drawn}(I:Inv X pins σ H s)(u:Un (dP X.stack) ch H H' s.heap h')(aG:cc X.prog X.w H' h')(hg:aeM g')
  (iD:∀b∈ch,(b∈X.ex\/X.aE.heap.objs.size<=b)/\b≠X.env.locals/\(∀x c,X.env.cells.lookup x=some c->c≠b)/\∀p∈X.pn++pins,p.1≠b) :
  Inv X pins σ H' { s with heap:=h',gens:=g',drawn:=d',toks:=t' }:=by
 obtain⟨m,⟨o,es,ep,ho,r⟩,_⟩:=id I.loc;obtain⟨sl,hL⟩:=u.any ho I.free fun z=>(iD _ z).2.1 rfl
 exact I.step (ch:=ch) iD (fun b o hL hb hc e n=>u.keep b o e n (fun z=>(aav.mp (I.wO b z)).elim hL hb) hc) (fun b o _ _ hc e n=>u.any e n hc) (fun b o hc e n=>u.free b o e n hc) (fun b o hc e=>u.there b o e hc) u.fP u.el u.fv (fun m' hm=>by
  obtain⟨o',yy,yz,dY,r'⟩:=hm;rw[ho] at dY;cases dY;exact⟨_,yy,yz,hL,r'⟩) aG hg
theorem Inv.turned{it:Addr}(I:Inv X pins σ H s)(k:∀b o,b≠it->s.heap.get? b=some o->h'.get? b=some o)(hn:H it=none)(hL:it≠X.env.locals)
  (h1:it∈X.ex\/X.aE.heap.objs.size<=it) (h2:∀x c,X.env.cells.lookup x=some c->c≠it) (h3:∀p∈X.pn++pins,p.1≠it):Inv X pins σ H { s with heap:=h',toks:=t' }:=by
 have jY:∀b u,H b=some u->b≠it:=fun b u e z=>by rw[z,hn] at e;cases e
 refine I.step (g':=s.gens) (d':=s.drawn) (ch:=[it]) (fun b hb=>?_) (fun b o _ _ hc e _=>k b o (fun z=>hc (by simp[z])) e) (fun b o _ _ hc e _=>⟨o.slots,k b o (fun z=>hc (by simp[z])) e⟩) (fun _ _ _ _ n=>n)
  (fun b o hc e=>⟨o,k b o (fun z=>hc (by simp[z])) e⟩) (fun _ _ e=>e) (fun _ _ _ e=>e) (fun b ps e=>⟨#[],by rw[e];simp⟩) (fun m hm=>?_) (fun b u e=>?_) I.bare
 ·have e:b=it:=by simpa using hb
  subst e;exact⟨h1,hL,h2,h3⟩
 ·obtain⟨o,es,ep,ho,r⟩:=hm;exact⟨o,es,ep,k _ o (abL hL) ho,r⟩
 ·refine(I.aG b u e).i4 (fun c v hc q=>k c v ?_ q) (fun _ q=>q) fun _ _ q=>q
  rcases hc with z | z
  ·rw[z];exact jY b u e
  ·exact jY c _ z
theorem Inv.tok(I:Inv X pins σ H s)(t:Nat):Inv X pins σ H { s with toks:=t }:=I.un (h':=s.heap) (t':=t) Un.refl I.aG
theorem Inv.kept{t':Nat}(I:Inv X pins σ H s)(k:∀b u,s.heap.get? b=some u->h'.get? b=some u):Inv X pins σ H { s with heap:=h',toks:=t' }:=I.un (Un.kept k) (I.aG.kept k)
theorem Inv.laid{a:Addr}{o:HO}{t':Nat}(I:Inv X pins σ H s)(k:∀b u,s.heap.get? b=some u->h'.get? b=some u)(hp:s.heap.objs.size<=a)(new:cI X.prog X.w (upd H a o) h' a o) :
  Inv X pins σ (upd H a o) { s with heap:=h',toks:=t' }:=I.un (Un.laid k hp (I.aG.fresh hp)) (I.aG.laid k hp new)
theorem Inv.write{x e:Addr}{o:HO}{t':Nat}(I:Inv X pins σ H s)(mu:jc (H x))(he:e=x\/H e=some (.own x))(k:∀b u,b≠e->s.heap.get? b=some u->h'.get? b=some u)(m8:∃u,h'.get? e=some u)
  (new:cI X.prog X.w (upd H x o) h' x o):Inv X pins σ (upd H x o) { s with heap:=h',toks:=t' }:=I.un (Un.write mu he k m8) (I.aG.write mu he k m8 new)
theorem Inv.Ca{DX:List (Addr×Obj)}(I:Inv X pins σ H s)(h:∀p∈DX,s.heap.get? p.1=some p.2/\H p.1=none/\p.1≠X.env.locals/\p.1∉X.fs/\∀v,p.2.data≠.cell v):Inv X DX σ H s:=
 ⟨I.ok,I.os,I.bare,I.base,I.loc,I.cell,I.free,I.jB,fun p hp=>(abt.mp hp).elim (fun z=>I.pin p (afc _ z)) (h p),I.aG,I.lk⟩
variable{i:Nat}
theorem Bu{N:List Str}(hN:N.Nodup){j:Nat}{x:Str}(a:N[i]? =some x)(b:N[j]? =some x):i=j:=by
 obtain⟨h1,e1⟩:=aac.mp a;obtain⟨h2,e2⟩:=aac.mp b;exact(List.getElem_inj hN).mp (e1.trans e2.symm)
theorem AX{M:Model}{A:acm}{E:Value->aaf->Prop}{x:Str}{v:V}{u:Value}{Q:Unit->aaf->Prop}(I:Inv X pins σ H s)(hN:X.N.Nodup)(hi:X.N[i]? =some x)(hx:Loc X.env.scope x)(r:RelV v u)
  (h:∀s',Inv X pins (σ.set i (some v)) H s'->(∃a,acz a s.heap s'.heap/\(a=X.env.locals\/X.env.cells.lookup x=some a))->Q () s') (hf:(X.fn x=true\/X.env.scope.names.lookup x=some .local)/\iy X x):wpAny M A (storeName X.env x u) Q E s:=by
 obtain⟨m,hn,hl⟩:=id I.loc;have WW:(X.env.scope.kind==.class||(X.env.scope.kind==.module&&X.env.locals != X.env.globals))=false:=by rw[I.ok.kind];rfl
 have Fu:i<σ.length:=by rw[I.len];exact(aac.mp hi).1
 have k9:=I.k9;have tracked:∀{a:Addr} {h':Heap},(∃o,s.heap.get? a=some o/\H a=none)->acz a s.heap h'->cc X.prog X.w H h':=fun{a h'} ha hs b ob e=>by
  obtain⟨_,_,DY⟩:=ha;refine(I.aG b ob e).i4 (fun c w' hc q=>(hs.2 c ?_).trans q) (fun _ q=>q) fun _ _ q=>q
  rintro rfl
  rcases hc with rfl | hc
  ·rw[DY] at e;cases e
  ·rw[DY] at hc;cases hc
 rcases hx with hk | hk
 ·refine wpAny_storeName_local hk hn (fun h' XQ hs=>?_) WW;obtain⟨oL,_,_,XR,_⟩:=id hn;refine h _ ⟨I.ok,I.os,I.bare,⟨fun b o e n hb hx=>?_,fun b o e n hb hx=>?_,I.base.free,fun b o e hx=>?_,I.base.fP,I.base.el,I.base.fv⟩,⟨_,XQ,fun j y v' e1 e2 e3=>?_⟩,fun y c e=>?_,I.free,I.jB,fun p hp=>?_,tracked ⟨oL,XR,I.free⟩ hs,⟨by simpa using I.len,hf.2 i hi σ (some v) I.lk.2⟩⟩ ⟨_,hs,.inl rfl⟩
  ·exact(hs.2 b (aaQ (aan (aah e) I.ok.above))).trans (I.base.keep b o e n hb hx)
  ·obtain⟨sl,e1⟩:=I.base.slot b o e n hb hx;exact⟨sl,(hs.2 b (aaQ (aan (aah e) I.ok.above))).trans e1⟩
  ·obtain⟨o',e1⟩:=I.base.there b o e hx;exact⟨o',(hs.2 b (aaQ (aan (aah e) I.ok.above))).trans e1⟩
  ·by_cases hj:j=i
   ·subst hj;rw[hi] at e1;cases e1;rw[abF Fu] at e2;cases e2;exact⟨u,r,.inl ⟨hk,by simp⟩⟩
   ·rw[acn (abL hj)] at e2;obtain⟨u',r',q⟩:=hl j y v' e1 e2 e3;refine⟨u',r',?_⟩
    rcases q with⟨k,e⟩ | ⟨k,c,e,z⟩
    ·refine .inl ⟨k,?_⟩;have:y≠x:=fun e=>hj (Bu hN e1 (e▸hi))
     simp[this,e]
    ·exact .inr ⟨k,c,e,z.sameBut hs (k9 y c e)⟩
  ·obtain⟨w',z⟩:=I.cell y c e;exact⟨w',z.sameBut hs (k9 y c e)⟩
  ·obtain⟨e,n,ne,nf,d⟩:=I.pin p hp;exact⟨(hs.2 p.1 ne).trans e,n,ne,nf,d⟩
 ·have tZ:X.fn x=true:=by
   rcases hf.1 with z | z
   ·exact z
   ·rw[z] at hk;cases hk
  obtain⟨c,hc⟩:=I.ok.has x (.inl hk);obtain⟨w',z⟩:=I.cell x c hc;refine wpAny_storeName_cell I.ok.kind hk hc z (fun h' gX hs=>?_);obtain⟨oc,Fv,WX⟩:=id z;refine h { s with heap:=h' } ⟨I.ok,I.os,I.bare,⟨fun b o e n hb hx=>?_,fun b o e n hb hx=>?_,I.base.free,fun b o e hx=>?_,I.base.fP,I.base.el,I.base.fv⟩,⟨m,hn.sameBut hs (abL (k9 x c hc)),fun j y v' e1 e2 e3=>?_⟩,fun y c' e=>?_,I.free,I.jB,fun p hp=>?_,tracked ⟨oc,Fv,(I.jB x c hc).1 tZ⟩ hs,⟨by simpa using I.len,hf.2 i hi σ (some v) I.lk.2⟩⟩ ⟨c,hs,.inr hc⟩
  ·exact(hs.2 b (aaQ (aan (aah e) (I.ok.tY x c tZ hc)))).trans (I.base.keep b o e n hb hx)
  ·obtain⟨sl,e1⟩:=I.base.slot b o e n hb hx;exact⟨sl,(hs.2 b (aaQ (aan (aah e) (I.ok.tY x c tZ hc)))).trans e1⟩
  ·obtain⟨o',e1⟩:=I.base.there b o e hx;exact⟨o',(hs.2 b (aaQ (aan (aah e) (I.ok.tY x c tZ hc)))).trans e1⟩
  ·by_cases hj:j=i
   ·subst hj;rw[hi] at e1;cases e1;rw[abF Fu] at e2;cases e2;exact⟨u,r,.inr ⟨.inl hk,c,hc,gX⟩⟩
   ·rw[acn (abL hj)] at e2;obtain⟨u',r',q⟩:=hl j y v' e1 e2 e3;refine⟨u',r',?_⟩
    rcases q with q | ⟨k,c',e,z'⟩
    ·exact .inl q
    ·refine .inr ⟨k,c',e,z'.sameBut hs ?_⟩;rintro rfl;exact hj (Bu hN e1 (I.ok.inj _ _ _ e hc▸hi))
  ·by_cases Fw:c'=c
   ·subst Fw;exact⟨_,gX⟩
   ·obtain⟨w2,z2⟩:=I.cell y c' e;exact⟨w2,z2.sameBut hs Fw⟩
  ·obtain⟨e,n,ne,nf,d⟩:=I.pin p hp;refine⟨(hs.2 p.1 ?_).trans e,n,ne,nf,d⟩;intro q;rw[q,Fv] at e;have q':oc=p.2:=abd e;exact d w' (by rw[<- q'];exact WX)
theorem Bv{M:Model}{A:acm}{E:Value->aaf->Prop}{x:Str}{v:V}{u:Value}{Q:Unit->aaf->Prop}(I:Inv X pins σ H s)(hN:X.N.Nodup)(hi:X.N[i]? =some x)(hx:Loc X.env.scope x)(r:RelV v u)
  (h:∀s',Inv X pins (σ.set i (some v)) H s'->Q () s') (hf:(X.fn x=true\/X.env.scope.names.lookup x=some .local)/\iy X x):wpAny M A (storeName X.env x u) Q E s:=
 AX I hN hi hx r (fun s' I' _=>h s' I') hf
theorem Inv.VG{s':aaf}(I:Inv X pins σ H s)(ho:s'.os=s.os)(u:Un (dP X.stack) ch H H' s.heap s'.heap)(aG:cc X.prog X.w H' s'.heap)(hg:aeM s'.gens)
  (iD:∀b∈ch,(b∈X.ex\/X.aE.heap.objs.size<=b)/\b≠X.env.locals/\(∀x c,X.env.cells.lookup x=some c->c≠b)/\∀p∈X.pn++pins,p.1≠b):Inv X pins σ H' s':=by
 obtain⟨h',g',d',t',o'⟩:=s';have e:o'=s.os:=ho;subst e;exact I.call (g':=g') (t':=t') (d':=d') u aG hg iD
end
abbrev XK:=Value->Option Addr->Hp->Prop
abbrev St:=List (Option V)
abbrev VK:=V->Hp->Prop
abbrev TE:=St->Hp->VK->Prop
abbrev TT:=St->Hp->(Bool->Hp->Prop)->Prop
abbrev TA:=St->Hp->(List V->Hp->Prop)->Prop
structure Ends where
 nx:St->Hp->Prop
 rt:VK
 bk:St->Hp->Prop:=fun _ _=>False
 ct:St->Hp->Prop:=fun _ _=>False
abbrev TS:=Ends->St->Hp->Prop
noncomputable def EP(X:Cx)(pins:List (Addr×Obj))(σ:St)(Q:VK)(u:Value)(s':aaf):Prop:=∃v H',Inv X pins σ H' s'/\RelV v u/\Q v H'
noncomputable def TP(X:Cx)(pins:List (Addr×Obj))(σ:St)(Q:Bool->Hp->Prop)(b:Bool)(s':aaf):Prop:=∃H',Inv X pins σ H' s'/\Q b H'
noncomputable def AP(X:Cx)(pins:List (Addr×Obj))(σ:St)(Q:List V->Hp->Prop)(us:List Value)(s':aaf):Prop:=∃vs H',Inv X pins σ H' s'/\Vals vs us/\Q vs H'
noncomputable def SP(X:Cx)(pins:List (Addr×Obj))(D:Ends)(f:Flow)(s':aaf):Prop:=
 match f with
 | .next=>∃aC H',Inv X pins aC H' s'/\D.nx aC H'
 | .brk=>∃aC H',Inv X pins aC H' s'/\D.bk aC H'
 | .cont=>∃aC H',Inv X pins aC H' s'/\D.ct aC H'
 | .ret u=>∃v aC H',Inv X pins aC H' s'/\RelV v u/\D.rt v H'
noncomputable def PE(X:Cx)(e:Expr)(t:TE):Prop:=
 ∀(pins:List (Addr×Obj)) (s:aaf) (σ:St) (H:Hp) (Q:VK),Inv X pins σ H s->t σ H Q->wpAny (model X.prog X.w) X.A (eval e X.env) (EP X pins σ Q) X.xe s
noncomputable def PT(X:Cx)(e:Expr)(t:TT):Prop:=
 ∀(pins:List (Addr×Obj)) (s:aaf) (σ:St) (H:Hp) (Q:Bool->Hp->Prop),Inv X pins σ H s->t σ H Q->wpAny (model X.prog X.w) X.A (isTrue e X.env (eval e X.env)) (TP X pins σ Q) X.xe s
noncomputable def PW(X:Cx)(e:Expr)(t:TT):Prop:=
 ∀(whole:Sem Value) (pins:List (Addr×Obj)) (s:aaf) (σ:St) (H:Hp) (Q:Bool->Hp->Prop),Inv X pins σ H s->t σ H Q->wpAny (model X.prog X.w) X.A (isTrue e X.env whole) (TP X pins σ Q) X.xe s
theorem PW.pt{e:Expr}{t:TT}(h:PW X e t):PT X e t:=h _
noncomputable def PA(X:Cx)(es:List Expr)(t:TA):Prop:=
 ∀(pos:Pos) (pins:List (Addr×Obj)) (s:aaf) (σ:St) (H:Hp) (Q:List V->Hp->Prop),Inv X pins σ H s->t σ H Q->wpAny (model X.prog X.w) X.A (spliced (adp pos (aaA es X.env))) (AP X pins σ Q) X.xe s
noncomputable def PS(X:Cx)(st:Stmt)(t:TS):Prop:=
 ∀(pins:List (Addr×Obj)) (s:aaf) (σ:St) (H:Hp) (D:Ends),Inv X pins σ H s->t D σ H->wpAny (model X.prog X.w) X.A (exec st X.env) (SP X pins D) X.xe s
noncomputable def fB(X:Cx)(st:List Stmt)(t:TS):Prop:=
 ∀(pins:List (Addr×Obj)) (s:aaf) (σ:St) (H:Hp) (D:Ends),Inv X pins σ H s->t D σ H->wpAny (model X.prog X.w) X.A (execs st X.env) (SP X pins D) X.xe s
variable{A:acm}
theorem aS{α:Type}{t:Sem α}{Q Q':α->aaf->Prop}{M:Model}{E:Value->aaf->Prop}{s:aaf}(h:wpAny M A t Q E s)(hQ:∀a s,Q a s->Q' a s):wpAny M A t Q' E s:=abO h hQ fun _ _ x=>x
section
variable{X:Cx}
variable{σ:St}{H:Hp}
theorem bin{a b:Expr}{ta tb:TE}(ha:PE X a ta)(hb:PE X b tb){pins:List (Addr×Obj)}{s:aaf}{R:V->V->Hp->Prop}(I:Inv X pins σ H s)(h:ta σ H fun x H1=>tb σ H1 fun y H2=>R x y H2)
  {α:Type} {Q:α->aaf->Prop} {f:Value->Value->Sem α}
  (hf:∀v u s2 x y H2,Inv X pins σ H2 s2->RelV x v->RelV y u->R x y H2->wpAny (model X.prog X.w) X.A (f v u) Q X.xe s2) :
  wpAny (model X.prog X.w) X.A (eval a X.env) (fun v bv=>wpAny (model X.prog X.w) X.A (eval b X.env) (fun u pU=>wpAny (model X.prog X.w) X.A (f v u) Q X.xe pU) X.xe bv) X.xe s:=by
 refine aS (ha pins s σ H _ I h) fun v s1 ⟨x,H1,I1,r1,q1⟩=>?_
 refine aS (hb pins s1 σ H1 _ I1 q1) fun u s2 ⟨y,H2,I2,r2,q2⟩=>?_
 exact hf v u s2 x y H2 I2 r1 r2 q2
noncomputable def WY(i:Nat):TE:=fun σ H Q=>∃v,σ[i]? =some (some v)/\Q v H
noncomputable def tC(v:V):TE:=fun _ H Q=>Q v H
theorem S9{i:Nat}{x:Str}{pos:Pos}(hN:X.N[i]? =some x)(hv:aH X.env.scope x)(hd:(x==("__debug__":Str))=false:=by decide)(hcd:(x==("__classdict__":Str))=false:=by decide):PE X (.Name x pos) (WY i):=by
 intro pins s σ H Q I h;obtain⟨v,e,h⟩:=h;obtain⟨m,hn,hl⟩:=I.loc;obtain⟨u,r,l⟩:=hl i x v hN e hv;have fin:EP X pins σ Q u s:=⟨v,H,I,r,h⟩
 rcases l with⟨hk,hm⟩ | ⟨hk,c,hc,sh⟩
 ·exact wpAny_Name (wpAny_loadName_local I.ok.kind hk hn hm fin) hd
 ·rcases hk with hk | hk
  ·exact wpAny_Name (wpAny_loadName_cell I.ok.kind hk hc sh fin) hd
  ·exact wpAny_Name (wpAny_loadName_free I.ok.kind hk hc sh fin hcd) hd
theorem Ta{i j pos}:PE X (.Constant (.int i) j pos) (tC (.int i)):=fun _ _ _ H _ I h=>wpAny_Constant_int ⟨.int i,H,I.tok _,⟨_,rfl⟩,h⟩
theorem VH{b j pos}:PE X (.Constant (.bool b) j pos) (tC (.bl b)):=fun _ _ _ H _ I h=>Constant_bool ⟨.bl b,H,I,rfl,h⟩
theorem Tb{x j pos}:PE X (.Constant (.str x) j pos) (tC (.str x)):=fun _ _ _ H _ I h=>Calls.Constant_str ⟨.str x,H,I.tok _,⟨_,rfl⟩,h⟩
noncomputable def Gl(X:Cx)(x:Str):Prop:=X.env.kindOf x=some .globalImplicit
variable{u:Value}
theorem Cb{E:Value->aaf->Prop}{pins:List (Addr×Obj)}{s:aaf}{x:Str}{pos:Pos}{Q:Value->aaf->Prop}(I:Inv X pins σ H s)(hg:Gl X x)(hm:X.mg x=some u)(h:Q u s)
  (hd:(x==("__debug__":Str))=false:=by decide):wpAny (model X.prog X.w) X.A (eval (.Name x pos) X.env) Q E s:=
 adR I.ok.kind hg (Calls.loadGlobal_global (by rw[I.ok.glob];exact I.mod.glob.keeps I.bk) hm h) hd
theorem iV{E:Value->aaf->Prop}{pins:List (Addr×Obj)}{s:aaf}{x:Str}{pos:Pos}{Q:Value->aaf->Prop}(I:Inv X pins σ H s)(hg:Gl X x)(hm:X.mg x=none)(hv:abk x=some u)(h:Q u s)
  (hn:x≠"__name__":=by decide) (hd:(x==("__debug__":Str))=false:=by decide):wpAny (model X.prog X.w) X.A (eval (.Name x pos) X.env) Q E s:=by
 obtain⟨mb,h1,h2⟩:=I.mod.blt;exact adR I.ok.kind hg (Calls.loadGlobal_builtin (by rw[I.ok.glob];exact I.mod.glob.keeps I.bk) hm (by rw[I.ok.blt];exact h1.keeps I.bk) ((h2 x hn).trans hv) h) hd
theorem nQ{x:Str}{v:V}{pos:Pos}(hg:Gl X x)(hm:X.mg x=some u)(r:RelV v u)(hd:(x==("__debug__":Str))=false:=by decide):PE X (.Name x pos) (tC v):=
 fun _ _ _ H _ I h=>Cb I hg hm ⟨v,H,I,r,h⟩ hd
theorem Ra{x:Str}{v:V}{pos:Pos}(hg:Gl X x)(hm:X.mg x=none)(hv:abk x=some u)(r:RelV v u)(hn:x≠"__name__":=by decide)(hd:(x==("__debug__":Str))=false:=by decide):PE X (.Name x pos) (tC v):=
 fun _ _ _ H _ I h=>iV I hg hm hv ⟨v,H,I,r,h⟩ hn hd
variable{a b:Expr}{ta tb:TE}{pos:Pos}
noncomputable def tB(t:TE):TT:=fun σ H Q=>t σ H fun x H1=>∃c,x=.bl c/\Q c H1
variable{tA t6:TT}{rest:List Expr}
noncomputable def EF(t u:TT):TT:=fun σ H Q=>t σ H fun c H1=>if c=true then u σ H1 Q else Q false H1
noncomputable def Fx(t u:TT):TT:=fun σ H Q=>t σ H fun c H1=>if c=true then Q true H1 else u σ H1 Q
noncomputable def WZ(t:TT):TT:=fun σ H Q=>t σ H fun c H1=>Q (!c) H1
theorem Rb(ha:PT X a tA):PW X (.BoolOp .And [a] pos) tA:=by
 intro wh pins s σ H Q I h;refine isTrue_and (aS (ha pins s σ H Q I h) fun c s1 e=>?_);cases c with
 | true=>exact isTrue_and_nil e
 | false=>exact e
theorem Tc(ha:PT X a tA):PW X (.BoolOp .Or [a] pos) tA:=by
 intro wh pins s σ H Q I h;refine isTrue_or (aS (ha pins s σ H Q I h) fun c s1 e=>?_);cases c with
 | false=>exact isTrue_or_nil e
 | true=>exact e
theorem Td(ha:PT X a tA)(hb:PW X (.BoolOp .And (b::rest) pos) t6):PW X (.BoolOp .And (a::b::rest) pos) (EF tA t6):=by
 intro wh pins s σ H Q I h;refine isTrue_and (aS (ha pins s σ H _ I h) fun c s1 ⟨H1,I1,q1⟩=>?_);cases c with
 | true=>exact hb wh pins s1 σ H1 Q I1 q1
 | false=>exact⟨H1,I1,q1⟩
theorem VI(ha:PT X a tA)(hb:PW X (.BoolOp .Or (b::rest) pos) t6):PW X (.BoolOp .Or (a::b::rest) pos) (Fx tA t6):=by
 intro wh pins s σ H Q I h;refine isTrue_or (aS (ha pins s σ H _ I h) fun c s1 ⟨H1,I1,q1⟩=>?_);cases c with
 | true=>exact⟨H1,I1,q1⟩
 | false=>exact hb wh pins s1 σ H1 Q I1 q1
theorem Te(ha:PT X a tA):PT X (.UnaryOp .Not a pos) (WZ tA):=by
 intro pins s σ H Q I h;exact isTrue_not (ha pins s σ H (fun c H1=>Q (!c) H1) I h)
noncomputable def VJ(ta tb:TE):TE:=fun σ H Q=>ta σ H fun x H1=>∃c,x=.bl c/\if c=true then tb σ H1 Q else Q (.bl false) H1
noncomputable def VL(ta:TE):TE:=fun σ H Q=>ta σ H fun x H1=>∃c,x=.bl c/\Q (.bl (!c)) H1
theorem Tf{op}{t:TE}(h:PE X a t):PE X (.BoolOp op [a] pos) t:=fun pins s σ H Q I hw=>BoolOp_one (h pins s σ H Q I hw)
theorem Tg(ha:PE X a ta)(hb:PE X (.BoolOp .And (b::rest) pos) tb):PE X (.BoolOp .And (a::b::rest) pos) (VJ ta tb):=by
 intro pins s σ H Q I h;refine BoolOp_and (aS (ha pins s σ H _ I h) fun v s1 ⟨x,H1,I1,r1,q1⟩=>?_);obtain⟨c,rfl,q1⟩:=q1;cases r1;refine abo ?_;cases c with
 | true=>exact hb pins s1 σ H1 Q I1 q1
 | false=>exact⟨.bl false,H1,I1,rfl,q1⟩
theorem Th(ha:PE X a ta):PE X (.UnaryOp .Not a pos) (VL ta):=by
 intro pins s σ H Q I h;refine UnaryOp_ (aS (ha pins s σ H _ I h) fun v s1 ⟨x,H1,I1,r1,q1⟩=>?_);obtain⟨c,rfl,q1⟩:=q1;cases r1;exact not_of (abo ⟨.bl (!c),H1,I1,rfl,q1⟩)
end
noncomputable def aP(K:aab)(H:Hp)(a:Addr)(xs:List V):Prop:=
 Rd H a (.lst xs) \/
  ∃(o:Obj) (its:Array Value) (n:Nat),K.lookup a=some o/\o.cls=.type "list"/\o.dict=none/\o.data=.seq its n/\its.size<=aas/\Vals xs its.toList
noncomputable def bz(K:aab)(H:Hp)(a:Addr)(xs:List V):Prop:=
 Rd H a (.tup xs) \/
  ∃(o:Obj) (its:Array Value) (n:Nat),K.lookup a=some o/\o.cls=.type "tuple"/\o.data=.seq its n/\its.size<=aas/\Vals xs its.toList
noncomputable def W0:Value->Option V
 | .none=>some .aO
 | .bool b=>some (.bl b)
 | .int i _=>some (.int i)
 | .str x _=>some (.str x)
 | .bytes b _=>some (.o5 b)
 | .float b _=>some (.yu b)
 | .ref a=>some (.ref a)
 | .type n=>some (.ty n)
 | _=>none
theorem RelV.abs{x:V}{u:Value}(r:RelV x u):W0 u=some x:=by
 cases x with
 | aO=>cases r;rfl
 | bl _=>cases r;rfl
 | int _=>obtain⟨t,rfl⟩:=r;rfl
 | str _=>obtain⟨t,rfl⟩:=r;rfl
 | o5 _=>obtain⟨t,rfl⟩:=r;rfl
 | yu _=>obtain⟨t,rfl⟩:=r;rfl
 | ref _=>cases r;rfl
 | ty _=>cases r;rfl
theorem RelV.inj{x y:V}{u:Value}(r:RelV x u)(q:RelV y u):x=y:=abd (r.abs.symm.trans q.abs)
theorem Vals.inj:∀{xs ys:List V} {us:List Value},Vals xs us->Vals ys us->xs=ys
 | _,_,_,.nil,.nil=>rfl
 | _,_,_,.cons r t,.cons r' t'=>by rw[r.inj r',Vals.inj t t']
section
variable{X:Cx}{pins:List (Addr×Obj)}{σ:St}{H:Hp}{s:aaf}{a:Addr}{xs ys:List V}
theorem aP.of{K:aab}(h:H a=some (.lst xs)):aP K H a xs:=.inl (.inl h)
theorem bz.of{K:aab}(h:H a=some (.tup xs)):bz K H a xs:=.inl (.inl h)
theorem Inv.list(I:Inv X pins σ H s)(h:aP X.K H a xs):∃its:List Value,Vals xs its/\PlainL s.heap a its.toArray/\xs.length<=sizeLine:=by
 rcases h with h | ⟨o,its,n,hk,hc,hd,hs,hz,r⟩
 ·obtain⟨z,its,n,r,e⟩:=h.ok I.aG;exact⟨its,r,⟨_,n,e,rfl,rfl,rfl⟩,z⟩
 ·refine⟨its.toList,r,⟨o,n,I.eF a o hk,hc,hd,by simpa using hs⟩,?_⟩;have e:=r.length;simp only[acW] at e;omega
theorem Inv.tuple(I:Inv X pins σ H s)(h:bz X.K H a xs):∃its:List Value,Vals xs its/\IsTup s.heap a its.toArray/\xs.length<=sizeLine:=by
 rcases h with h | ⟨o,its,n,hk,hc,hs,hz,r⟩
 ·obtain⟨z,its,r,p⟩:=h.ok I.aG;exact⟨its,r,p,z⟩
 ·refine⟨its.toList,r,⟨o,I.eF a o hk,hc,n,by simpa using hs⟩,?_⟩;have e:=r.length;simp only[acW] at e;omega
theorem Inv.qZ(I:Inv X pins σ H s)(h:aP X.K H a xs)(h':aP X.K H a ys):xs=ys:=by
 obtain⟨its,r,⟨o,n,e,_,_,d⟩,_⟩:=I.list h;obtain⟨its',r',⟨o',n',e',_,_,d'⟩,_⟩:=I.list h';rw[e] at e';cases e';rw[d] at d';injection d' with d1 _
 have:its=its':=by simpa using congrArg afJ d1
 subst this;exact r.inj r'
theorem Inv.vB(I:Inv X pins σ H s)(h:bz X.K H a xs)(h':bz X.K H a ys):xs=ys:=by
 obtain⟨its,r,⟨o,e,_,n,d⟩,_⟩:=I.tuple h;obtain⟨its',r',⟨o',e',_,n',d'⟩,_⟩:=I.tuple h';rw[e] at e';cases e';rw[d] at d';injection d' with d1 _
 have:its=its':=by simpa using congrArg afJ d1
 subst this;exact r.inj r'
end
section
variable{X:Cx}{st:Stmt}{rest:List Stmt}{t u:TS}{e:Expr}{te:TE}{pos:Pos}
noncomputable def VM:TS:=fun D σ H=>D.nx σ H
noncomputable def EG(t u:TS):TS:=fun D σ H=>t { D with nx:=u D } σ H
theorem Rc:fB X [] VM:=fun _ _ σ H _ I h=>aeN ⟨σ,H,I,h⟩
theorem Qm(h1:PS X st t)(h2:fB X rest u):fB X (st::rest) (EG t u):=by
 intro pins s σ H D I h;refine wpAny_execs_cons (aS (h1 pins s σ H { D with nx:=u D } I h) fun f s1 q=>?_);cases f with
 | next=>
  obtain⟨aC,H',I',q⟩:=q;exact h2 pins s1 aC H' D I' q
 | ret v=>exact q
 | brk=>exact q
 | cont=>exact q
theorem Rf(h1:PS X st t):fB X [st] t:=by
 intro pins s σ H D I h;refine wpAny_execs_cons (aS (h1 pins s σ H D I h) fun f s1 q=>?_);cases f with
 | next=>exact aeN q
 | ret v=>exact q
 | brk=>exact q
 | cont=>exact q
theorem Inv.quiet{pins:List (Addr×Obj)}{σ:St}{H:Hp}{s:aaf}(I:Inv X pins σ H s):interactive X.env=false:=by simp[interactive,I.ok.kind]
noncomputable def VN(te:TE):TS:=fun D σ H=>te σ H fun _ H1=>D.nx σ H1
theorem Rg(he:PE X e te)(hs:ada e none pos.line X.env=pure false:=by rfl):PS X (.Expr e pos) (VN te):=by
 intro pins s σ H D I h;exact wpAny_Expr_any (aS (he pins s σ H _ I h) fun v s1 ⟨x,H1,I1,r1,q1⟩=>⟨σ,H1,I1,q1⟩) I.quiet hs
noncomputable def W2(te:TE):TS:=fun D σ H=>te σ H D.rt
theorem Ti(he:PE X e te):PS X (.Return (some e) pos) (W2 te):=by
 intro pins s σ H D I h;exact wpAny_Return_some (aS (he pins s σ H _ I h) fun v s1 ⟨x,H1,I1,r1,q1⟩=>⟨x,σ,H1,I1,r1,q1⟩)
noncomputable def W3(c:TT)(t u:TS):TS:=fun D σ H=>c σ H fun b H1=>if b=true then t D σ H1 else u D σ H1
theorem VO{c:Expr}{a b:List Stmt}{tc:TT}(hc:PT X c tc)(ha:fB X a t)(hb:fB X b u):PS X (.If c a b pos) (W3 tc t u):=by
 intro pins s σ H D I h;refine wpAny_If (aS (hc pins s σ H _ I h) fun d s1 ⟨H1,I1,q1⟩=>?_);cases d with
 | true=>exact ha pins s1 σ H1 D I1 q1
 | false=>exact hb pins s1 σ H1 D I1 q1
noncomputable def Tj:TS:=fun _ _ _=>False
theorem Qn:PS X st Tj:=fun _ _ _ _ _ _ h=>h.elim
end
abbrev TG:=V->St->Hp->(St->Hp->Prop)->Prop
abbrev jd:=List V->St->Hp->(St->Hp->Prop)->Prop
noncomputable def PG(X:Cx)(target:Expr)(t:TG):Prop:=
 ∀(pins:List (Addr×Obj)) (s:aaf) (σ:St) (H:Hp) (v:V) (u:Value) (Q:St->Hp->Prop),Inv X pins σ H s->RelV v u->t v σ H Q →
  wpAny (model X.prog X.w) X.A (afe target X.env u) (fun _ s'=>∃aC H',Inv X pins aC H' s'/\Q aC H') X.xe s
noncomputable def fC(X:Cx)(ts:List Expr)(t:jd):Prop:=
 ∀(pins:List (Addr×Obj)) (s:aaf) (σ:St) (H:Hp) (vs:List V) (us:List Value) (Q:St->Hp->Prop),Inv X pins σ H s->Vals vs us->t vs σ H Q →
  wpAny (model X.prog X.w) X.A (assignInOrder ((abH ts X.env).map (·.2)) us) (fun _ s'=>∃aC H',Inv X pins aC H' s'/\Q aC H') X.xe s
abbrev sY:=V->V->V->Hp->(Hp->Prop)->Prop
noncomputable def jH(X:Cx)(t:sY):Prop:=
 ∀(pins:List (Addr×Obj)) (s:aaf) (σ:St) (H:Hp) (o i v:V) (ov iv u:Value) (Q:Hp->Prop),Inv X pins σ H s->RelV o ov->RelV i iv->RelV v u->t o i v H Q →
  wpAny (model X.prog X.w) X.A (setItem ov iv u) (fun _ s'=>∃H',Inv X pins σ H' s'/\Q H') X.xe s
section
variable{X:Cx}{pos:Pos}
noncomputable def xx(i:Nat):TG:=fun v σ H Q=>Q (σ.set i (some v)) H
theorem Rh{i:Nat}{x:Str}(hN:X.N.Nodup)(hi:X.N[i]? =some x)(hx:Loc X.env.scope x)(hf:(X.fn x=true\/X.env.scope.names.lookup x=some .local)/\iy X x):PG X (.Name x pos) (xx i):=by
 intro pins s σ H v u Q I r h;exact wpAny_assign_Name (Bv I hN hi hx r (fun s' I'=>⟨_,H,I',h⟩) hf)
noncomputable def W4:jd:=fun vs σ H Q=>vs=[]/\Q σ H
noncomputable def VP(t:TG)(u:jd):jd:=fun vs σ H Q=>∃v r,vs=v::r/\t v σ H fun aC H'=>u r aC H' Q
theorem Ri:fC X [] W4:=by
 intro pins s σ H vs us Q I r h;obtain⟨e,h⟩:=h;subst e;cases r;exact assignInOrder_nil ⟨σ,H,I,h⟩
theorem Qo{e:Expr}{es:List Expr}{t:TG}{u:jd}(h1:PG X e t)(h2:fC X es u)
  (hs:(abH (e::es) X.env).map (·.2)=afe e X.env::(abH es X.env).map (·.2):=by rfl):fC X (e::es) (VP t u):=by
 intro pins s σ H vs us Q I r h;obtain⟨v,vr,e1,h⟩:=h;subst e1;cases r with
 | cons r rr=>
  rw[hs];refine assignInOrder_cons (aS (h1 pins s σ H _ _ _ I r h) fun _ s1 ⟨σ1,H1,I1,q1⟩=>?_);exact h2 pins s1 σ1 H1 _ _ Q I1 rr q1
noncomputable def W5(K:aab)(n:Nat)(t:jd):TG:=fun v σ H Q=>∃a xs,v=.ref a/\bz K H a xs/\xs.length=n/\t xs σ H Q
theorem Tn{es:List Expr}{k:Nat}{t:jd}{n:Nat}(hc:X.calm=true)(h:fC X es t)
  (hn:(abH es X.env).length=n:=by rfl) (fU:(abH es X.env).findIdx? (·.1)=none:=by rfl):PG X (.Tuple es k pos) (W5 X.K n t):=by
 intro pins s σ H v u Q I r hw;obtain⟨a,xs,e1,hq,hl,hw⟩:=hw;subst e1;cases r;obtain⟨its,rv,ht,hz⟩:=I.tuple hq;refine assign_Tuple_tuple (I.ok.hd hc) ht (by simp[hn,<- hl,rv.length]) fU fun h' hx=>?_
 have I1:Inv X pins σ H { s with heap:=h' }:=I.kept (t':=s.toks) fun b o e=>hx b o (aaQ (aah e)) e
 exact h pins _ σ H xs _ Q I1 (by simpa using rv) hw
noncomputable def W7(to ti:TE)(t:sY):TG:=fun v σ H Q=>to σ H fun o H1=>ti σ H1 fun i H2=>t o i v H2 fun H3=>Q σ H3
theorem To{o i:Expr}{to ti:TE}{t:sY}(ho:PE X o to)(hi:PE X i ti)(hs:jH X t)
  (ha:∀v,afe (.Subscript o i pos) X.env v=(do
   let ov <- afk [v] (eval o X.env)
   let iv <- afk [v,ov] (eval i X.env)
   standAt pos
   afk [v,ov,iv] (setItem ov iv v)
   release [v,ov,iv] []):=by intro _;rfl):PG X (.Subscript o i pos) (W7 to ti t):=by
 intro pins s σ H v u Q I r h;rw[ha];refine aaa (abg (aS (ho pins s σ H _ I h) fun ov s1 ⟨x,H1,I1,r1,q1⟩=>?_));refine aaa (abg (aS (hi pins s1 σ H1 _ I1 q1) fun iv s2 ⟨y,H2,I2,r2,q2⟩=>?_));refine aaa (wpAny_standAt (aaa (abg (aS (hs pins s2 σ H2 x y v ov iv u _ I2 r1 r2 r q2) fun _ s3 ⟨H3,I3,q3⟩=>?_))));exact wpAny_release ⟨σ,H3,I3,q3⟩
noncomputable def sZ(te:TE)(g:TG):TS:=fun D σ H=>te σ H fun x H1=>g x σ H1 D.nx
theorem Tp{tg e:Expr}{te:TE}{g:TG}(he:PE X e te)(hg:PG X tg g)(hs:swapsWithSole [tg] e pos.line X.env=pure false:=by rfl)(hw:swappedStores [tg] e X.env=pure none:=by rfl)
  (h1:(abH [tg] X.env).map (·.2)=[afe tg X.env]:=by rfl):PS X (.Assign [tg] e pos) (sZ te g):=by
 intro pins s σ H D I h;refine wpAny_Assign_stores (aS (he pins s σ H _ I h) fun v s1 ⟨x,H1,I1,r1,q1⟩=>?_) hs hw;rw[h1];exact aS (hg pins s1 σ H1 x v _ I1 r1 q1) fun _ s2 q=>q
theorem Tq{i:Nat}{x:Str}{e:Expr}{te:TE}{pos':Pos}(hN:X.N.Nodup)(hi:X.N[i]? =some x)(hx:Loc X.env.scope x)(he:PE X e te)(hs:ada e (some (.Name x pos')) pos.line X.env=pure false:=by rfl)(hf:(X.fn x=true\/X.env.scope.names.lookup x=some .local)/\iy X x) :
  PS X (.Assign [.Name x pos'] e pos) (sZ te (xx i)):=by
 intro pins s σ H D I h;refine wpAny_Assign_Name (aS (he pins s σ H _ I h) fun v s1 ⟨y,H1,I1,r1,q1⟩=>?_) hs;exact Bv I1 hN hi hx r1 (fun s2 I2=>⟨_,H1,I2,q1⟩) hf
end
structure It where
 go:Nat->Hp->Prop
 pf:Nat->Hp->V->Hp->Prop
 stop:Nat->Hp->Prop
noncomputable def eo(X:Cx)(pins:List (Addr×Obj))(H:Hp)(b:Addr):Prop:=
 H b=none/\b≠X.env.locals/\b∉X.fs/\(b∈X.ex\/X.aE.heap.objs.size<=b)/\(∀x c,X.env.cells.lookup x=some c->c≠b)/\∀p∈X.pn++pins,p.1≠b
theorem Inv.i6{pins:List (Addr×Obj)}{σ:St}{H':Hp}{s:aaf}(I:Inv X pins σ H s)(hb:s.heap.objs.size<=b)(hn:H' b=none):eo X pins H' b:=by
 refine⟨hn,abw (aan I.lt hb),I.WV hb,.inr (abl I.sz hb),fun x c e z=>?_,fun p hp z=>?_⟩
 ·obtain⟨v,q⟩:=I.cell x c e;exact absurd (aan q.lt (by rw[z];exact hb)) (abK _)
 ·exact absurd (aan (aah (I.pin p hp).1) (by rw[z];exact hb)) (abK _)
structure Turn(P:aba)(w:World)(K:aab)(tg:Expr)(J:It)(fp:List Addr)(it:Addr)(tn:Nat->Heap->Prop):Prop where
 mem:it∈fp
 obj:∀i h,tn i h->∀b∈fp,∃o,h.get? b=some o/\∀v,o.data≠.cell v
 keep:∀i h h',tn i h->(∀b∈fp,∀o,h.get? b=some o->h'.get? b=some o)->tn i h'
 item:∀(X:Cx),X.prog=P->X.w=w->X.K=K->X.calm=true->∀(i:Nat) (pins:List (Addr×Obj)) (s:aaf) (σ:St) (H:Hp) (E:Value->aaf->Prop),Inv X pins σ H s->(∀b∈fp,eo X pins H b)->tn i s.heap->J.go i H →
  wpAny (model P w) X.A (adU (.ref it)) (fun r s1=>∃u,r=some u /\
   wpAny (model P w) X.A (adG tg (.ref it) u) (fun _ s2=>∃x H',Inv X pins σ H' s2/\RelV x u/\J.pf i H x H'/\tn (i+1) s2.heap/\∀b∈fp,H' b=none) E s1) E s
 done:∀(X:Cx),X.prog=P->X.w=w->X.K=K->X.calm=true->∀(i:Nat) (pins:List (Addr×Obj)) (s:aaf) (σ:St) (H:Hp) (E:Value->aaf->Prop),Inv X pins σ H s->(∀b∈fp,eo X pins H b)->tn i s.heap->J.stop i H →
  wpAny (model P w) X.A (adU (.ref it)) (fun r s1=>r=none/\Inv X pins σ H s1) E s
 self:∀(A:acm) (i:Nat) (s:aaf) (Q:Value->aaf->Prop) (E:Value->aaf->Prop),tn i s.heap->Q (.ref it) s->wpAny (model P w) A (pyIter (.ref it)) Q E s
abbrev TI:=St->Hp->(It->Hp->Prop)->Prop
noncomputable def Fy(X:Cx)(pins:List (Addr×Obj))(σ:St)(tg:Expr)(R:It->Hp->Prop)(yA:Value)(s2:aaf):Prop:=
 ∃(it:Addr) (fp:List Addr) (tn:Nat->Heap->Prop) (J:It) (H':Hp),yA=.ref it/\Inv X pins σ H' s2/\Turn X.prog X.w X.K tg J fp it tn/\tn 0 s2.heap/\(∀b∈fp,eo X pins H' b)/\R J H'
noncomputable def PI(X:Cx)(tg iter:Expr)(wi:TI):Prop:=
 ∀(pins:List (Addr×Obj)) (s:aaf) (σ:St) (H:Hp) (R:It->Hp->Prop),Inv X pins σ H s->wi σ H R →
  wpAny (model X.prog X.w) X.A (eval iter X.env) (fun v s1=>wpAny (model X.prog X.w) X.A (pyIter v) (Fy X pins σ tg R) X.xe s1) X.xe s
variable{tg:Expr}
theorem sj {M : Model} {E : Value -> aaf -> Prop} {s : aaf} {it : Addr} {u : Value} {o : Obj} {n : String} {vs : Array Value} {Q : Unit -> aaf -> Prop} (ho : s.heap.get? it = some o) (hc : o.cls = .type n) (hd : o.data = .fields vs)
    (hn : ["enumerate", "zip", "dict_itemiterator", "dict_reverseitemiterator", "odict_iterator", "itertools.zip_longest", "itertools.pairwise"].contains n = false) (hQ : Q () s) : wpAny M A (adG tg (.ref it) u) Q E s := by
  unfold adG;cases tg <;> first
    | exact aai hQ
    | (cases u <;> first
        | exact aai hQ
        | (refine aaa (wpAny_load ho ?_)
           rw [hc, hd];show wpAny M A (if (["enumerate", "zip", "dict_itemiterator", "dict_reverseitemiterator", "odict_iterator", "itertools.zip_longest", "itertools.pairwise"].contains n && vs[0]? == some (aeh _)) = true then _ else _) Q E s;rw [if_neg (by intro h; rw [hn, aff] at h; cases h)];exact aai hQ))
noncomputable def Fz(K:aab)(a:Addr):It:=
 ⟨fun i H=>∃xs x,aP K H a xs/\xs[i]? =some x,fun i H x H'=>H'=H/\∀xs,aP K H a xs->xs[i]? =some x,fun i H=>∃xs,aP K H a xs/\xs.length<=i⟩
noncomputable def FA(K:aab)(a:Addr):It:=
 ⟨fun i H=>∃xs x,bz K H a xs/\xs[i]? =some x,fun i H x H'=>H'=H/\∀xs,bz K H a xs->xs[i]? =some x,fun i H=>∃xs,bz K H a xs/\xs.length<=i⟩
noncomputable def t7(lo:Int)(n:Nat):It:=⟨fun i _=>i<n,fun i H x H'=>H'=H/\x=.int (lo+i),fun i _=>n<=i⟩
variable{K:aab}
theorem O0{w:World}(a it:Addr):Turn P w K tg (Fz K a) [it] it (fun i h=>h.IsListIter it a i) where
 mem:=by simp
 obj:=fun i h st b hb=>by
  have e:b=it:=by simpa using hb
  subst e;obtain⟨o,e,c,d⟩:=st;exact⟨o,e,fun v z=>by rw[d] at z;cases z⟩
 keep:=fun i h h' st k=>st.at fun o e=>k it (by simp) o e
 item:=by
  intro X hP hw hK hc i pins s σ H E I hf st hg;subst hP hw hK;obtain⟨xs,x,hq,hx⟩:=hg;obtain⟨its,rv,p,hz⟩:=I.list hq;obtain⟨u,hu,ru⟩:=rv.get hx;obtain⟨f0,f1,f2,f3,f4,f5⟩:=hf it (by simp);refine wpAny_pyNext_list_item st p.isList (x:=u) (by simpa using hu) fun h' cP sb=>?_
  have I1:Inv X pins σ H { s with heap:=h' }:=I.turned (t':=s.toks) (fun b o hb e=>(sb.2 b hb).trans e) f0 f1 f3 f4 f5;obtain⟨o,e,c,d⟩:=id cP;exact⟨u,rfl,sj (s:={ s with heap:=h' }) e c d (by decide) ⟨x,H,I1,ru,⟨rfl,fun ys hy=>by rw[I.qZ hy hq];exact hx⟩,cP,fun b hb=>(hf b hb).1⟩⟩
 done:=by
  intro X hP hw hK hc i pins s σ H E I hf st hg;subst hP hw hK;obtain⟨xs,hq,hx⟩:=hg;obtain⟨its,rv,p,hz⟩:=I.list hq;obtain⟨f0,f1,f2,f3,f4,f5⟩:=hf it (by simp);have hl:=rv.length;exact wpAny_pyNext_list_end (I.ok.hd hc) st p.isList (by simp;omega) fun h' eb=>⟨rfl,I.turned (t':=s.toks) (fun b o hb e=>eb b o hb e) f0 f1 f3 f4 f5⟩
 self:=fun _ _ _ _ _ st h=>wpAny_pyIter_listiter st h
theorem NB{w:World}(a it:Addr):Turn P w K tg (FA K a) [it] it (fun i h=>h.IsTupleIter it a i) where
 mem:=by simp
 obj:=fun i h st b hb=>by
  have e:b=it:=by simpa using hb
  subst e;obtain⟨o,e,c,d⟩:=st;exact⟨o,e,fun v z=>by rw[d] at z;cases z⟩
 keep:=fun i h h' st k=>st.at fun o e=>k it (by simp) o e
 item:=by
  intro X hP hw hK hc i pins s σ H E I hf st hg;subst hP hw hK;obtain⟨xs,x,hq,hx⟩:=hg;obtain⟨its,rv,p,hz⟩:=I.tuple hq;obtain⟨u,hu,ru⟩:=rv.get hx;obtain⟨f0,f1,f2,f3,f4,f5⟩:=hf it (by simp);refine wpAny_pyNext_tuple_item st (show s.heap.IsTuple a its.toArray from p) (x:=u) (by simpa using hu) fun h' cP sb=>?_
  have I1:Inv X pins σ H { s with heap:=h' }:=I.turned (t':=s.toks) (fun b o hb e=>(sb.2 b hb).trans e) f0 f1 f3 f4 f5;obtain⟨o,e,c,d⟩:=id cP;exact⟨u,rfl,sj (s:={ s with heap:=h' }) e c d (by decide) ⟨x,H,I1,ru,⟨rfl,fun ys hy=>by rw[I.vB hy hq];exact hx⟩,cP,fun b hb=>(hf b hb).1⟩⟩
 done:=by
  intro X hP hw hK hc i pins s σ H E I hf st hg;subst hP hw hK;obtain⟨xs,hq,hx⟩:=hg;obtain⟨its,rv,p,hz⟩:=I.tuple hq;obtain⟨f0,f1,f2,f3,f4,f5⟩:=hf it (by simp);have hl:=rv.length;exact wpAny_pyNext_tuple_end (I.ok.hd hc) st (show s.heap.IsTuple a its.toArray from p) (by simp;omega) fun h' eb=>⟨rfl,I.turned (t':=s.toks) (fun b o hb e=>eb b o hb e) f0 f1 f3 f4 f5⟩
 self:=fun _ _ _ _ _ st h=>wpAny_pyIter_tupleiter st h
theorem NC{w:World}(it:Addr)(lo:Int)(n:Nat):Turn P w K tg (t7 lo n) [it] it (fun i h=>IsRangeIter h it (lo+(i:Nat)*1) ((n:Int)-(i:Nat)) 1) where
 mem:=by simp
 obj:=fun i h st b hb=>by
  have e:b=it:=by simpa using hb
  subst e;exact⟨_,st,fun v z=>by
   have z':Data.fields _=Data.cell v:=z;cases z'⟩
 keep:=fun i h h' st k=>k it (by simp) _ st
 item:=by
  intro X hP hw hK hc i pins s σ H E I hf st hg;subst hP hw hK;obtain⟨f0,f1,f2,f3,f4,f5⟩:=hf it (by simp);have W:=Walks.range (prog:=X.prog) (w:=X.w) (I.ok.hd hc) it lo 1 n;refine W.item i s _ _ hg st fun v h' tk hv cP kk=>?_
  obtain⟨t,rfl⟩:=hv;have I1:Inv X pins σ H { s with heap:=h',toks:=tk }:=I.turned (fun b o hb e=>kk b o (by simpa using hb) e) f0 f1 f3 f4 f5;refine⟨_,rfl,sj (s:={ s with heap:=h',toks:=tk }) (n:="range_iterator") cP rfl rfl (by decide) ⟨.int (lo+i),H,I1,⟨t,?_⟩,⟨rfl,rfl⟩,cP,fun b hb=>(hf b hb).1⟩⟩;rw[Int.mul_one]
 done:=by
  intro X hP hw hK hc i pins s σ H E I hf st hg;subst hP hw hK;obtain⟨f0,f1,f2,f3,f4,f5⟩:=hf it (by simp);exact wpAny_pyNext_range_end (I.ok.hd hc) st (by have:n<=i:=hg;omega) fun h' eb=>⟨rfl,I.turned (t':=s.toks) (fun b o hb e=>eb b o hb e) f0 f1 f3 f4 f5⟩
 self:=fun _ _ _ _ _ st h=>wpAny_pyIter_rangeiter st h
section
variable{X:Cx}{tg:Expr}
noncomputable def VQ(K:aab)(tl:TE):TI:=fun σ H R=>tl σ H fun x H1=>∃a,x=.ref a/\(∃xs,aP K H1 a xs)/\R (Fz K a) H1
noncomputable def W9(K:aab)(tl:TE):TI:=fun σ H R=>tl σ H fun x H1=>∃a,x=.ref a/\(∃xs,bz K H1 a xs)/\R (FA K a) H1
theorem Rj{l:Expr}{tl:TE}(hl:PE X l tl):PI X tg l (VQ X.K tl):=by
 intro pins s σ H R I h;refine aS (hl pins s σ H _ I h) fun v s1 ⟨x,H1,I1,r1,q1⟩=>?_
 obtain⟨a,e,⟨xs,hq⟩,q⟩:=q1;subst e;cases r1;obtain⟨its,rv,p,hz⟩:=I1.list hq;refine aei p.isList ?_;refine⟨s1.heap.objs.size,[s1.heap.objs.size],_,_,H1,rfl,I1.kept (t':=s1.toks) fun b o e=>aad _ e,O0 a _,⟨_,aat _ rfl,rfl,rfl⟩,fun b hb=>?_,q⟩;have e:b=s1.heap.objs.size:=by simpa using hb
 subst e;exact I1.i6 (aaj _) (I1.aG.fresh (aaj _))
theorem Tr{l:Expr}{tl:TE}(hl:PE X l tl):PI X tg l (W9 X.K tl):=by
 intro pins s σ H R I h;refine aS (hl pins s σ H _ I h) fun v s1 ⟨x,H1,I1,r1,q1⟩=>?_
 obtain⟨a,e,⟨xs,hq⟩,q⟩:=q1;subst e;cases r1;obtain⟨its,rv,p,hz⟩:=I1.tuple hq;refine adV (show s1.heap.IsTuple a its.toArray from p) ?_;refine⟨s1.heap.objs.size,[s1.heap.objs.size],_,_,H1,rfl,I1.kept (t':=s1.toks) fun b o e=>aad _ e,NB a _,⟨_,aat _ rfl,rfl,rfl⟩,fun b hb=>?_,q⟩;have e:b=s1.heap.objs.size:=by simpa using hb
 subst e;exact I1.i6 (aaj _) (I1.aG.fresh (aaj _))
variable{σ:St}{H:Hp}
theorem Qp{pins:List (Addr×Obj)}{s:aaf}{R:It->Hp->Prop}{E:Value->aaf->Prop}{lo hi:Int}{t u v:Tok}{tk:Nat}(I:Inv X pins σ H s)(h1: -(2 ^ 62)<=lo)(h2:lo<2 ^ 62)(h3: -(2 ^ 62)<=hi)(h4:hi<2 ^ 62)
  (q:R (t7 lo (hi-lo).toNat) H):wpAny (model X.prog X.w) X.A (pyIter (.ref s.heap.objs.size)) (Fy X pins σ tg R) E { s with heap:=s.heap.push { cls:=.type "range",data:=.fields #[.int lo t,.int hi u,.int 1 v] },toks:=tk }:=by
 refine wpAny_pyIter_range (IsRange.new ..) (small_one h1 h2 h3 h4) ?_;have I1:Inv X pins σ H { s with heap:=s.heap.push { cls:=.type "range",data:=.fields #[.int lo t,.int hi u,.int 1 v] },toks:=tk }:=I.kept fun b o e=>aad _ e
 refine⟨(s.heap.push { cls:=.type "range",data:=.fields #[.int lo t,.int hi u,.int 1 v] }).objs.size,[(s.heap.push { cls:=.type "range",data:=.fields #[.int lo t,.int hi u,.int 1 v] }).objs.size],_,_,H,rfl,
  I1.kept (t':=tk) fun b o e=>aad _ e,NC _ lo (hi-lo).toNat,?_,fun b hb=>?_,q⟩
 ·have e1:lo+((0:Nat):Int)*1=lo:=by simp
  have e2:(((hi-lo).toNat:Nat):Int)-((0:Nat):Int)=Builtin.Range.rangeSize lo hi 1:=by rw[rangeSize_one];split <;> omega
  show IsRangeIter _ _ (lo+((0:Nat):Int)*1) ((((hi-lo).toNat:Nat):Int)-((0:Nat):Int)) 1;rw[e1,e2];exact aat _ rfl
 ·have e:b=(s.heap.push { cls:=.type "range",data:=.fields #[.int lo t,.int hi u,.int 1 v] }).objs.size:=by simpa using hb
  subst e;exact I1.i6 (aaj _) (I1.aG.fresh (aaj _))
noncomputable def VR(ta:TA):TI:=fun σ H R=>ta σ H fun vs H1=>∃j:Int,vs=[.int j]/\ -(2 ^ 62)<=j/\j<2 ^ 62/\R (t7 0 j.toNat) H1
theorem O1{a:Expr}{ta:TA}{p pos:Pos}(hg:Gl X "range")(hm:X.mg "range"=none)(ha:PA X [a] ta)(hs:aaA [a] X.env=[(false,eval a X.env)]:=by rfl):PI X tg (.Call (.Name "range" p) [a] [] pos) (VR ta):=by
 intro pins s σ H R I h;refine Call_ (iV I hg hm boot_range (aaW (aS (ha pos pins s σ H _ I h) fun us s1 ⟨vs,H1,I1,r1,q1⟩=>?_) hs rfl));obtain⟨j,e,q1,q2,q⟩:=q1;subst e;cases r1 with
 | cons r rr=>
  cases rr;obtain⟨t,rfl⟩:=r;exact call_range_1 (Qp I1 (by omega) (by omega) q1 q2 (by simpa using q))
noncomputable def EH(wi:TI)(g:TG)(tb:TS):TS:=fun D σ H=>wi σ H fun J H1=>∃W:Nat->Nat->St->Hp->Prop,(∃m,W 0 m σ H1)/\∀i m σ H,W i m σ H →
 (J.stop i H/\D.nx σ H)\/(J.go i H/\∃N:St->Hp->Prop,(∀aC H',N aC H'->∃m',m'<m/\W (i+1) m' aC H')/\∀x H',J.pf i H x H'->g x σ H' fun bJ H2=>tb { D with nx:=N,ct:=N,bk:=D.nx } bJ H2)
noncomputable def nZ(fp:List Addr)(h:Heap):List (Addr×Obj):=fp.filterMap fun b=>(h.get? b).map fun o=>(b,o)
variable{fp:List Addr}
theorem qI{h:Heap}{b:Addr}{o:Obj}(hb:b∈fp)(e:h.get? b=some o):(b,o)∈nZ fp h:=adW.mpr ⟨b,hb,by rw[e];rfl⟩
theorem O2{h:Heap}{p:Addr×Obj}(hp:p∈nZ fp h):p.1∈fp/\h.get? p.1=some p.2:=by
 obtain⟨b,hb,e⟩:=adW.mp hp;cases q:h.get? b with
 | none=>rw[q] at e;cases e
 | some o=>
  rw[q] at e;have e':(b,o)=p:=abd e;subst e';exact⟨hb,q⟩
theorem Inv.pinned{pins:List (Addr×Obj)}{s:aaf}(I:Inv X pins σ H s)(hf:∀b∈fp,eo X pins H b)(ho:∀b∈fp,∃o,s.heap.get? b=some o/\∀v,o.data≠.cell v):Inv X (pins++nZ fp s.heap) σ H s:=
 I.Ca fun p hp=>(abt.mp hp).elim (fun z=>I.pin p (aaT _ z)) fun z=>by
  obtain⟨hb,e⟩:=O2 z;obtain⟨f0,f1,f2,_⟩:=hf p.1 hb;obtain⟨o,e',d⟩:=ho p.1 hb;rw[e] at e';cases e';exact⟨e,f0,f1,f2,d⟩
theorem Inv.q0{pins pl:List (Addr×Obj)}{s:aaf}(I:Inv X (pins++pl) σ H s):Inv X pins σ H s:=I.Ca fun p hp=>I.pin p (aaT _ (afc _ hp))
theorem Ts{iter:Expr}{body:List Stmt}{wi:TI}{g:TG}{tb:TS}{pos:Pos}(hp:PassesOwn (model X.prog X.w) X.A X.env X.xe)(hc:X.calm=true)(hi:PI X tg iter wi)(hg:PG X tg g)(hb:fB X body tb)
  (hs:∀x,abf iter X.env x=pure x:=by intro _;rfl):PS X (.For tg iter body [] pos) (EH wi g tb):=by
 intro pins s σ H D I h;refine wpAny_For (aS (hi pins s σ H _ I h) fun v s1 h1=>aS h1 fun yA s2 h2=>?_) hs;obtain⟨it,fp,tn,J,H2,e,I2,T,gp,f2,W,⟨m0,w0⟩,turn⟩:=h2;subst e;have yd:∀{H':Hp},(∀b∈fp,H' b=none)->∀b∈fp,eo X pins H' b:=fun hn b hb=>⟨hn b hb,(f2 b hb).2⟩
 refine codeAny_forLoop_any (fun n s'=>∃i aC H',Inv X pins aC H' s'/\tn i s'.heap/\(∀b∈fp,H' b=none)/\W i n aC H') ?_ m0 ⟨0,σ,H2,I2,gp,fun b hb=>(f2 b hb).1,w0⟩;rintro n s3 ⟨i,hX,H3,I3,FC,FD,w3⟩
 rcases turn i n hX H3 w3 with⟨stop,qn⟩ | ⟨go,N,hN,step⟩
 ·refine adb hp (aS (T.done X rfl rfl rfl hc i pins s3 hX H3 X.xe I3 (yd FD) FC stop) fun r s4 ⟨hr,I4⟩=>?_);subst hr;exact aeN ⟨hX,H3,I4,qn⟩
 ·refine adb hp (aS (T.item X rfl rfl rfl hc i pins s3 hX H3 X.xe I3 (yd FD) FC go) fun r s4 ⟨u,hr,h4⟩=>?_);subst hr;refine adb hp (aS h4 fun _ s5 ⟨x,H5,I5,r5,y5,nc,t8⟩=>?_);have XS:=I5.pinned (yd t8) (T.obj _ _ nc);refine adb hp (aS (hg _ s5 hX H5 x u _ XS r5 (step x H5 y5)) fun _ s6 ⟨pV,H6,I6,q6⟩=>?_);refine adb hp (aS (hb _ s6 pV H6 _ I6 q6) fun f s7 q7=>?_);have again:∀{hZ:St} {H7:Hp},Inv X (pins++nZ fp s5.heap) hZ H7 s7->N hZ H7->∃m,m<n/\∃i aC H',Inv X pins aC H' s7/\tn i s7.heap/\(∀b∈fp,H' b=none)/\W i m aC H':=fun{hZ H7} I7 n7=>by
   obtain⟨m',hm,w7⟩:=hN hZ H7 n7;refine⟨m',hm,i+1,hZ,H7,I7.q0,T.keep _ _ _ nc fun b hb o e=>(I7.pin (b,o) (aaT _ (aaT _ (qI hb e)))).1,fun b hb=>?_,w7⟩;obtain⟨o,e,d⟩:=T.obj _ _ nc b hb;exact(I7.pin (b,o) (aaT _ (aaT _ (qI hb e)))).2.1
  cases f with
  | next=>obtain⟨hZ,H7,I7,n7⟩:=q7;exact again I7 n7
  | cont=>obtain⟨hZ,H7,I7,n7⟩:=q7;exact again I7 n7
  | brk=>obtain⟨hZ,H7,I7,q7⟩:=q7;exact⟨hZ,H7,I7.q0,q7⟩
  | ret v=>obtain⟨x7,hZ,H7,I7,r7,q7⟩:=q7;exact⟨x7,hZ,H7,I7.q0,r7,q7⟩
end
abbrev R2:=V->V->Hp->VK->Prop
noncomputable def bf(X:Cx)(f:Value->Value->Sem Value)(r:R2):Prop:=
 ∀(pins:List (Addr×Obj)) (s:aaf) (σ:St) (H:Hp) (x y:V) (v u:Value) (Q:VK),Inv X pins σ H s->RelV x v->RelV y u->r x y H Q →
  wpAny (model X.prog X.w) X.A (f v u) (EP X pins σ Q) X.xe s
noncomputable def t9(X:Cx)(f:Value->Sem Value)(r:V->Hp->VK->Prop):Prop:=
 ∀(pins:List (Addr×Obj)) (s:aaf) (σ:St) (H:Hp) (x:V) (v:Value) (Q:VK),Inv X pins σ H s->RelV x v->r x H Q →
  wpAny (model X.prog X.w) X.A (f v) (EP X pins σ Q) X.xe s
noncomputable def cy(X:Cx)(f:Value)(r:List V->Hp->VK->Prop):Prop:=
 ∀(pins:List (Addr×Obj)) (s:aaf) (σ:St) (H:Hp) (xs:List V) (us:List Value) (Q:VK),Inv X pins σ H s->Vals xs us->r xs H Q →
  wpAny (model X.prog X.w) X.A (call f us) (EP X pins σ Q) X.xe s
noncomputable def Xa(X:Cx)(r:V->Hp->(Bool->Hp->Prop)->Prop):Prop:=
 ∀(pins:List (Addr×Obj)) (s:aaf) (σ:St) (H:Hp) (x:V) (v:Value) (Q:Bool->Hp->Prop),Inv X pins σ H s->RelV x v->r x H Q →
  wpAny (model X.prog X.w) X.A (truthy v) (TP X pins σ Q) X.xe s
noncomputable def lh(r:R2)(ta tb:TE):TE:=fun σ H Q=>ta σ H fun x H1=>tb σ H1 fun y H2=>r x y H2 Q
noncomputable def XT(r:V->Hp->VK->Prop)(ta:TE):TE:=fun σ H Q=>ta σ H fun x H1=>r x H1 Q
noncomputable def rI(C:Int->Int->Prop)(g:Int->Int->V):R2:=fun x y H Q=>∃i j,x=.int i/\y=.int j/\C i j/\Q (g i j) H
noncomputable def gY(g:Int->Int->V):R2:=fun x y H Q=>∃i j,x=.int i/\y=.int j/\Q (g i j) H
noncomputable def rU(g:Int->V):V->Hp->VK->Prop:=fun x H Q=>∃i,x=.int i/\Q (g i) H
section
variable{X:Cx}{a b c:Expr}{ta tb tc:TE}{pos:Pos}
theorem td(ha:PE X a ta)(hb:PE X b tb){pins:List (Addr×Obj)}{s:aaf}{σ:St}{H:Hp}{R:V->V->Hp->Prop}(I:Inv X pins σ H s)
  (h:ta σ H fun x H1=>tb σ H1 fun y H2=>R x y H2) {Q:Value->aaf->Prop} {f:Value->Value->Sem Value}
  (hf:∀v u s2 x y H2,Inv X pins σ H2 s2->RelV x v->RelV y u->R x y H2->wpAny (model X.prog X.w) X.A (f v u) Q X.xe s2) :
  wpAny (model X.prog X.w) X.A (eval a X.env) (fun v bv=>wpAny (model X.prog X.w) X.A (eval b X.env) (fun u pU=>wpAny (model X.prog X.w) X.A (f v u) Q X.xe pU) X.xe bv) X.xe s:=by
 refine aS (ha pins s σ H _ I h) fun v s1 ⟨x,H1,I1,r1,q1⟩=>?_
 refine aS (hb pins s1 σ H1 _ I1 q1) fun u s2 ⟨y,H2,I2,r2,q2⟩=>?_
 exact hf v u s2 x y H2 I2 r1 r2 q2
theorem VS{op:Operator}{r:R2}(ho:bf X (acR op) r)(ha:PE X a ta)(hb:PE X b tb):PE X (.BinOp a op b pos) (lh r ta tb):=by
 intro pins s σ H Q I h;exact wpAny_BinOp (td ha hb I h fun v u s2 x y H2 I2 rx ry q=>ho pins s2 σ H2 x y v u Q I2 rx ry q)
theorem VT{op:UnaryOp}{r:V->Hp->VK->Prop}(ho:t9 X (unaryOp op) r)(ha:PE X a ta):PE X (.UnaryOp op a pos) (XT r ta):=by
 intro pins s σ H Q I h;exact UnaryOp_ (aS (ha pins s σ H _ I h) fun v s1 ⟨x,H1,I1,r1,q1⟩=>ho pins s1 σ H1 x v Q I1 r1 q1)
variable{f:Value->Value->Sem Value}
theorem yB{C:Int->Int->Prop}{g:Int->Int->Int}
  (rule:∀(i j:Int) (t u:Tok) (s:aaf) (Q:Value->aaf->Prop) (E:Value->aaf->Prop),C i j->Q (.int (g i j) s.toks) { s with toks:=s.toks+1 }->wpAny (model X.prog X.w) X.A (f (.int i t) (.int j u)) Q E s) :
  bf X f (rI C fun i j=>.int (g i j)):=by
 intro pins s σ H x y v u Q I rx ry h;obtain⟨i,j,rfl,rfl,hc,q⟩:=h;obtain⟨t,rfl⟩:=rx;obtain⟨t',rfl⟩:=ry;exact rule i j t t' s _ _ hc ⟨.int (g i j),H,I.tok _,⟨_,rfl⟩,q⟩
theorem EI{g:Int->Int->Int}
  (rule:∀(i j:Int) (t u:Tok) (s:aaf) (Q:Value->aaf->Prop) (E:Value->aaf->Prop),Q (.int (g i j) s.toks) { s with toks:=s.toks+1 }->wpAny (model X.prog X.w) X.A (f (.int i t) (.int j u)) Q E s) :
  bf X f (gY fun i j=>.int (g i j)):=by
 intro pins s σ H x y v u Q I rx ry h;obtain⟨i,j,rfl,rfl,q⟩:=h;obtain⟨t,rfl⟩:=rx;obtain⟨t',rfl⟩:=ry;exact rule i j t t' s _ _ ⟨.int (g i j),H,I.tok _,⟨_,rfl⟩,q⟩
theorem ye{g:Int->Int->Bool}
  (rule:∀(i j:Int) (t u:Tok) (s:aaf) (Q:Value->aaf->Prop) (E:Value->aaf->Prop),Q (.bool (g i j)) s->wpAny (model X.prog X.w) X.A (f (.int i t) (.int j u)) Q E s) :
  bf X f (gY fun i j=>.bl (g i j)):=by
 intro pins s σ H x y v u Q I rx ry h;obtain⟨i,j,rfl,rfl,q⟩:=h;obtain⟨t,rfl⟩:=rx;obtain⟨t',rfl⟩:=ry;exact rule i j t t' s _ _ ⟨.bl (g i j),H,I,rfl,q⟩
noncomputable def oK(i j:Int):Prop:=(-(2 ^ 64)<i/\i<2 ^ 64)\/(-(2 ^ 64)<j/\j<2 ^ 64)
theorem oK.ok{i j:Int}(h:oK i j):IntMulOk i j:=by
 rcases h with⟨h1,h2⟩ | ⟨h1,h2⟩
 ·exact .of_left (intBits_le_64 h1 h2)
 ·exact .of_right (intBits_le_64 h1 h2)
theorem Tt:bf X (acR .Add) (gY fun i j=>.int (i+j)):=EI fun _ _ _ _ _ _ _ q=>add_int q
theorem Tu:bf X (acR .Sub) (gY fun i j=>.int (i-j)):=EI fun _ _ _ _ _ _ _ q=>sub_int q
theorem Tv:bf X (acR .Mult) (rI oK fun i j=>.int (i*j)):=yB fun _ _ _ _ _ _ _ hc q=>mul_int q hc.ok
theorem Rk:bf X (acR .Mod) (rI (fun _ j=>j≠0) fun i j=>.int (i.fmod j)):=yB fun _ _ _ _ _ _ _ hc q=>mod_int' hc q
theorem XU{f:Value->Sem Value}{g:Int->Int}
  (rule:∀(i:Int) (t:Tok) (s:aaf) (Q:Value->aaf->Prop) (E:Value->aaf->Prop),Q (.int (g i) s.toks) { s with toks:=s.toks+1 }->wpAny (model X.prog X.w) X.A (f (.int i t)) Q E s) :
  t9 X f (rU fun i=>.int (g i)):=by
 intro pins s σ H x v Q I rx h;obtain⟨i,rfl,q⟩:=h;obtain⟨t,rfl⟩:=rx;exact rule i t s _ _ ⟨.int (g i),H,I.tok _,⟨_,rfl⟩,q⟩
theorem Tw:t9 X (unaryOp .USub) (rU fun i=>.int (-i)):=XU fun _ _ _ _ _ q=>neg_int q
end
section
variable{X:Cx}{a b c:Expr}{ta tb tc:TE}{pos:Pos}
theorem Tz{pins:List (Addr×Obj)}{σ:St}{H:Hp}{s:aaf}{Q:VK}{k k':Bool}(I:Inv X pins σ H s)(q:Q (.bl k) H)(e:k=k'):EP X pins σ Q (.bool k') s:=by
 subst e;exact⟨.bl k,H,I,rfl,q⟩
theorem VU:bf X (aaX .Lt) (gY fun i j=>.bl (decide (i<j))):=ye fun _ _ _ _ _ _ _ q=>lt_int q
theorem VW:bf X (aaX .LtE) (gY fun i j=>.bl (decide (i<=j))):=ye fun _ _ _ _ _ _ _ q=>le_int q
theorem VX:bf X (aaX .Gt) (gY fun i j=>.bl (decide (j<i))):=ye fun _ _ _ _ _ _ _ q=>gt_int q
theorem O3:bf X (aaX .In) (fun x y H Q=>∃i j,x=.str i/\y=.str j/\Q (.bl (!(abT j i 0 j.length 1).isEmpty)) H):=by
 intro pins s σ H x y v u Q I rx ry h;obtain⟨i,j,rfl,rfl,q⟩:=h;obtain⟨t,rfl⟩:=rx;obtain⟨t',rfl⟩:=ry;exact in_str (Tz I q rfl)
variable{r r':R2}
theorem bf.or{f:Value->Value->Sem Value}(h:bf X f r)(h':bf X f r'):bf X f (fun x y H Q=>r x y H Q\/r' x y H Q):=by
 intro pins s σ H x y v u Q I rx ry q
 rcases q with q | q
 ·exact h pins s σ H x y v u Q I rx ry q
 ·exact h' pins s σ H x y v u Q I rx ry q
theorem n0(b:Expr){op:CmpOp}(h:op≠.In:=by decide)(h2:op≠.NotIn:=by decide):abz op b=false:=by
 have e1:(op==CmpOp.In)=false:=by cases op <;> first | rfl | exact absurd rfl h
 have e2:(op==CmpOp.NotIn)=false:=by cases op <;> first | rfl | exact absurd rfl h2
 cases b <;> simp[abz,e1,e2]
theorem Rl{op:CmpOp}(ho:bf X (aaX op) r)(ha:PE X a ta)(hb:PE X b tb)(hm:abz op b=false):PE X (.Compare a [op] [b] pos) (lh r ta tb):=by
 intro pins s σ H Q I h;exact wpAny_Compare1 (td ha hb I h fun v u s2 x y H2 I2 rx ry q=>ho pins s2 σ H2 x y v u Q I2 rx ry q) hm
noncomputable def xy(t:TE):TT:=fun σ H Q=>t σ H fun x H'=>∃k,x=.bl k/\Q k H'
theorem Cc{op:CmpOp}(ho:bf X (aaX op) r)(ha:PE X a ta)(hb:PE X b tb)(hm:abz op b=false):PT X (.Compare a [op] [b] pos) (xy (lh r ta tb)):=by
 intro pins s σ H Q I h;refine wpAny_isTrue_Compare1 (aS (ha pins s σ H _ I h) fun v s1 ⟨x,H1,I1,r1,q1⟩=>aS (hb pins s1 σ H1 _ I1 q1) fun u s2 ⟨y,H2,I2,r2,q2⟩=>
  aS (ho pins s2 σ H2 x y v u _ I2 r1 r2 q2) fun c s3 ⟨z,H3,I3,r3,k,e,q3⟩=>?_) hm
 subst e;cases r3;exact abo ⟨H3,I3,q3⟩
noncomputable def wQ(r r':R2)(ta tb tc:TE):TE:=fun σ H Q=>ta σ H fun x H1=>tb σ H1 fun y H2=>r x y H2 fun z H3=>∃k,z=.bl k /\
 (if k=true then tc σ H3 fun w' H4=>r' y w' H4 Q else Q (.bl false) H3)
theorem Qq{op de:CmpOp}(ho:bf X (aaX op) r)(dY:bf X (aaX de) r')(ha:PE X a ta)(hb:PE X b tb)(hc:PE X c tc)
  (hm:aeO [op,de] [b,c]=false:=by with_unfolding_all rfl):PE X (.Compare a [op,de] [b,c] pos) (wQ r r' ta tb tc):=by
 intro pins s σ H Q I h;refine Compare_chain (aS (ha pins s σ H _ I h) fun v s1 ⟨x,H1,I1,r1,q1⟩=>chain_link (aS (hb pins s1 σ H1 _ I1 q1) fun u s2 ⟨y,H2,I2,r2,q2⟩=>
  aS (ho pins s2 σ H2 x y v u _ I2 r1 r2 q2) fun d s3 ⟨z,H3,I3,r3,k,e,q3⟩=>?_)) hm
 subst e;cases r3;refine abo ?_;cases k with
 | false=>exact ite_ff ⟨.bl false,H3,I3,rfl,q3⟩
 | true=>exact ite_tt (chain_last (aS (hc pins s3 σ H3 _ I3 q3) fun w' s4 ⟨z',H4,I4,r4,q4⟩=>dY pins s4 σ H4 y z' u w' Q I4 r2 r4 q4))
theorem Qr{op de:CmpOp}(ho:bf X (aaX op) r)(dY:bf X (aaX de) r')(ha:PE X a ta)(hb:PE X b tb)(hc:PE X c tc)
  (hm:aeO [op,de] [b,c]=false:=by with_unfolding_all rfl):PT X (.Compare a [op,de] [b,c] pos) (xy (wQ r r' ta tb tc)):=by
 intro pins s σ H Q I h;refine isTrue_chain (aS (ha pins s σ H _ I h) fun v s1 ⟨x,H1,I1,r1,q1⟩=>test_link (aS (hb pins s1 σ H1 _ I1 q1) fun u s2 ⟨y,H2,I2,r2,q2⟩=>
  aS (ho pins s2 σ H2 x y v u _ I2 r1 r2 q2) fun d s3 ⟨z,H3,I3,r3,k,e,q3⟩=>?_)) hm
 subst e;cases r3;refine abo ?_;cases k with
 | false=>
  obtain⟨k',e',q'⟩:=q3;cases e';exact ite_ff ⟨H3,I3,q'⟩
 | true=>
  refine ite_tt (test_last (aS (hc pins s3 σ H3 _ I3 q3) fun w' s4 ⟨z',H4,I4,r4,q4⟩=>aS (dY pins s4 σ H4 y z' u w' _ I4 r2 r4 q4) fun d' s5 ⟨z2,H5,I5,r5,k2,e2,q5⟩=>?_));subst e2;cases r5;exact abo ⟨H5,I5,q5⟩
noncomputable def EJ(K:aab)(x:V)(H:Hp)(k:Bool):Prop:=
 match x with
 | .aO=>k=false
 | .bl b=>k=b
 | .int i=>k=(i != 0)
 | .str y=>y.length<=aas/\k=((y.length:Int) != 0)
 | .o5 y=>y.size<=aas/\k=((y.size:Int) != 0)
 | .ref p=>(∃xs,aP K H p xs/\k= !xs.isEmpty)\/(∃xs,bz K H p xs/\k= !xs.isEmpty)\/∃kvs,H p=some (.dK kvs)/\k= !kvs.isEmpty
 | _=>False
theorem ND{κ:Type}{kvs:List (κ×V)}{vs:List (κ×Value)}(r:KV kvs vs):(!vs.isEmpty)= !kvs.isEmpty:=by
 cases r <;> rfl
theorem AF{xs:List V}{its:List Value}(r:Vals xs its):(!its.toArray.isEmpty)= !xs.isEmpty:=by
 cases r <;> simp
theorem kJ:(aas:Nat)<2 ^ 63:=by rw[sizeLine_eq];decide
theorem TB:Xa X (fun x H Q=>∃k,EJ X.K x H k/\Q k H):=by
 intro pins s σ H x v Q I rx h;obtain⟨k,e,q⟩:=h;have hl:=kJ;have hs:aas=16777216:=sizeLine_eq;cases x with
 | aO=>
  cases rx;have e':k=false:=e;subst e';exact truthy_none ⟨H,I,q⟩
 | bl b=>
  cases rx;have e':k=b:=e;subst e';exact abo ⟨H,I,q⟩
 | int i=>
  obtain⟨t,rfl⟩:=rx;have e':k=(i != 0):=e;subst e';exact PySem.P.truthy_int ⟨H,I,q⟩
 | str y=>
  obtain⟨t,rfl⟩:=rx;obtain⟨hy,e'⟩:y.length<=aas/\k=((y.length:Int) != 0):=e;subst e';exact PySem.P.truthy_str (by omega) ⟨H,I.tok _,q⟩
 | o5 y=>
  obtain⟨t,rfl⟩:=rx;obtain⟨hy,e'⟩:y.size<=aas/\k=((y.size:Int) != 0):=e;subst e';exact PySem.W.truthy_bytes (by omega) ⟨H,I.tok _,q⟩
 | ref p=>
  cases rx;have e':(∃xs,aP X.K H p xs/\k= !xs.isEmpty)\/(∃xs,bz X.K H p xs/\k= !xs.isEmpty)\/∃kvs,H p=some (.dK kvs)/\k= !kvs.isEmpty:=e
  rcases e' with⟨xs,hx,e'⟩ | ⟨xs,hx,e'⟩ | ⟨kvs,hx,e'⟩
  ·subst e';obtain⟨its,r,pl,hz⟩:=I.list hx;have bU:=r.length;exact wpAny_truthy_list pl.isList (by simp only[aao];omega) ⟨H,I.tok _,by rw[AF r];exact q⟩
  ·subst e';obtain⟨its,r,pl,hz⟩:=I.tuple hx;have bU:=r.length;exact truthy_tuple pl (by simp only[aao];omega) ⟨H,I.tok _,by rw[AF r];exact q⟩
  ·subst e';obtain⟨hz,hS,vs,r,m⟩:kvs.length<=aas/\(p==acg)=false/\∃vs,KV kvs vs/\s.heap.DictOf (cL X.prog X.w) p vs:=I.aG p _ hx;have bU:kvs.length=vs.length:=adB r;exact wpAny_truthy_dict hS m (by omega) ⟨H,I.tok _,by rw[ND r];exact q⟩
 | _=>exact(show False from e).elim
theorem Qs(ha:PE X a ta)(he:∀whole,isTrue a X.env whole=(do let v <- whole;standAt a.pos;afk [v] (truthy v))) :
  PT X a (fun σ H Q=>ta σ H fun x H'=>∃k,EJ X.K x H' k/\Q k H'):=by
 intro pins s σ H Q I h;exact isTrue_plain (aS (ha pins s σ H _ I h) fun v s1 ⟨x,H1,I1,r1,q1⟩=>TB pins s1 σ H1 x v Q I1 r1 q1) (he _)
theorem NE:bf X (acR .Add) (fun x y H Q=>∃i j,x=.str i/\y=.str j/\i.length+j.length<=aas/\Q (.str (i++j)) H):=by
 intro pins s σ H x y v u Q I rx ry h;obtain⟨i,j,rfl,rfl,hz,q⟩:=h;obtain⟨t,rfl⟩:=rx;obtain⟨t',rfl⟩:=ry;exact add_str (fun t' tk=>⟨.str (i++j),H,I.tok _,⟨_,rfl⟩,q⟩) hz
theorem vals1{x:V}{us:List Value}(r:Vals [x] us):∃u,us=[u]/\RelV x u:=by
 cases r with
 | cons r1 r2=>cases r2;exact⟨_,rfl,r1⟩
end
theorem ix.some_of{v:V}{o:Option Value}(r:ix (some v) o):∃u,o=some u/\RelV v u:=by
 cases o with
 | none=>exact(show False from r).elim
 | some u=>exact⟨u,rfl,r⟩
structure dq(k:Nat)(A:acm):Prop where
 hd:A.handled=none
 dp:A.depth+3*k+5<recursionLimit
 un:A.units+16*k+200<cLine
theorem dq.mono{j k:Nat}(r:dq k A)(h:j<=k):dq j A:=⟨r.hd,by have:=r.dp;omega,by have:=r.un;omega⟩
theorem dq.deeper{k:Nat}{A:acm}(r:dq (k+1) A)(env:Env):dq k (A.deeper env):=
 ⟨r.hd,by have:=r.dp;show A.depth+1+3*k+5<_;omega,by have:=r.un;show A.units+3+16*k+200<_;omega⟩
theorem dq.depth{k:Nat}{A:acm}(r:dq k A):A.depth<recursionLimit:=by have:=r.dp;omega
theorem dq.units{k:Nat}{A:acm}(r:dq k A):A.units+64<cLine:=by have:=r.un;omega
noncomputable def Xb:TA:=fun _ H Q=>Q [] H
noncomputable def VY(ta:TE)(tr:TA):TA:=fun σ H Q=>ta σ H fun x H1=>tr σ H1 fun xs H2=>Q (x::xs) H2
section
variable{X:Cx}{e:Expr}{es:List Expr}{te:TE}{t:TA}{pos:Pos}
theorem C7:PA X [] Xb:=fun _ _ _ _ H Q I h=>Calls.spliced_nil ⟨[],H,I,.nil,h⟩
theorem wt(ha:PE X e te)(hr:PA X es t)(hs:aaA (e::es) X.env=(false,eval e X.env)::aaA es X.env:=by rfl):PA X (e::es) (VY te t):=by
 intro pos pins s σ H Q I h;rw[hs];show wpAny _ _ (spliced ((false,eval e X.env)::adp pos (aaA es X.env))) _ _ s;refine afu (aS (ha pins s σ H _ I h) fun u s1 ⟨x,H1,I1,r1,q1⟩=>?_);exact aS (hr pos pins s1 σ H1 _ I1 q1) fun us s2 ⟨xs,H2,I2,r2,q2⟩=>⟨x::xs,H2,I2,.cons r1 r2,q2⟩
noncomputable def Xc(t:TA):TE:=fun σ H Q=>t σ H fun xs H1=>xs.length<=aas/\∀p,H1 p=none->Q (.ref p) (upd H1 p (.tup xs))
noncomputable def Xd(t:TA):TE:=fun σ H Q=>t σ H fun xs H1=>xs.length<=aas/\∀p,H1 p=none->Q (.ref p) (upd H1 p (.lst xs))
theorem TC{x1}(h:PA X es t):PE X (.Tuple es x1 pos) (Xc t):=by
 intro pins s σ H Q I hq;refine wpAny_Tuple_spliced (aS (h pos pins s σ H _ I hq) fun us s1 ⟨xs,H1,I1,r,z,q⟩=>⟨by rw[<- r.length];exact z,?_⟩);have hf:H1 s1.heap.objs.size=none:=I1.aG.fresh (aaj _);refine⟨.ref s1.heap.objs.size,upd H1 s1.heap.objs.size (.tup xs),I1.laid (t':=s1.toks) (fun b u e=>aad _ e) (aaj _) ?_,rfl,q _ hf⟩;exact⟨z,us,r,⟨_,aat _ rfl,rfl,_,rfl⟩⟩
theorem TF(h:PA X es t):PE X (.List es pos) (Xd t):=by
 intro pins s σ H Q I hq;refine wpAny_List_spliced (aS (h pos pins s σ H _ I hq) fun us s1 ⟨xs,H1,I1,r,z,q⟩=>⟨by rw[<- r.length];exact z,?_⟩);have hf:H1 s1.heap.objs.size=none:=I1.aG.fresh (aaj _);refine⟨.ref s1.heap.objs.size,upd H1 s1.heap.objs.size (.lst xs),I1.laid (t':=s1.toks) (fun b u e=>aad _ e) (aaj _) ?_,rfl,q _ hf⟩;exact⟨z,us,0,r,aat _ rfl⟩
end
abbrev Sp:=List V->Hp->VK->XK->Prop
abbrev li:=List Env->Hp->aaf->XK->Value->aaf->Prop
structure tf(P:aba)(w:World)(K:aab)(mg:Str->Option Value)(base:Heap)(A:acm)(outer:List Env)(s:aaf)(H:Hp):Prop where
 frames:A.frames=some outer
 mod:Mod K mg base
 bs:∀b o,base.get? b=some o->s.heap.get? b=some o/\H b=none
 m9:base.objs.size<=s.heap.objs.size
 gi:s.heap.FunFrames base outer
 pd:∀b∈dP outer,H b=none
 aG:cc P w H s.heap
 bare:aeM s.gens
noncomputable def CE(outer:List Env)(P:aba)(w:World)(H:Hp)(s:aaf)(Q:VK)(u:Value)(s':aaf):Prop:=
 ∃v H',s'.os=s.os/\aeM s'.gens/\Un (dP outer) [] H H' s.heap s'.heap/\cc P w H' s'.heap/\RelV v u/\Q v H'
noncomputable def CR(CX:li)(outer:List Env)(P:aba)(w:World)(H:Hp)(s:aaf)(Q:VK)(E:XK)(r:Result)(s':aaf):Prop:=
 match r with
 | .ok (.ret u)=>CE outer P w H s Q u s'
 | .ok _=>False
 | .error e=>CX outer H s E e s'
structure bY(P:aba)(w:World)(K:aab)(mg:Str->Option Value)(base:Heap)(CX:li)(k:Nat)(f:Addr)(fd:aaS)(ps:List Str)(sp:Sp):Prop where
 len:∀vs H Q E,sp vs H Q E->vs.length=ps.length
 run:∀(A:acm) (outer:List Env) (s:aaf) (H:Hp) (args:Args) (us:List Value) (vs:List V) (Q:VK) (E:XK),dq k A->tf P w K mg base A outer s H->BindsTo s fd args (ps.zip us)->Vals vs us->sp vs H Q E →
  afB (model P w) A (.call (.ref f) args) (CR CX outer P w H s Q E) s
section
variable{X:Cx}{pins:List (Addr×Obj)}{σ:St}{H:Hp}{s s':aaf}
theorem Inv.Xe(I:Inv X pins σ H s):tf X.prog X.w X.K X.mg X.base X.A X.stack s H:=
 ⟨I.ok.frames,I.ok.mod,I.bs,abl I.ok.m9 I.sz,I.stack,I.wq,I.aG,I.bare⟩
theorem Inv.after{Q:VK}{u:Value}(I:Inv X pins σ H s)(h:CE X.stack X.prog X.w H s Q u s'):EP X pins σ Q u s':=by
 obtain⟨v,H',os,bare,un,aG,r,q⟩:=h;obtain⟨hh,g,d,t,XW⟩:=s';obtain rfl:XW=s.os:=os;exact⟨v,H',I.call (h':=hh) (g':=g) (d':=d) (t':=t) (ch:=[]) un aG bare (fun b z=>absurd z (by simp)),r,q⟩
end
noncomputable def Binds(K:aab)(fd:aaS)(ps:List Str)(ds:List Value):Prop:=
 ∀(s:aaf) (us:List Value),K.In s.heap->(us++ds).length=ps.length->BindsTo s fd ⟨us,[]⟩ (ps.zip (us++ds))
theorem Binds.all{fd:aaS}{ps:List Str}(h:∀us:List Value,us.length=ps.length->bindArgs fd ⟨us,[]⟩=pure (ps.zip us)):Binds K fd ps []:=fun s us _ hl=>by
 rw[adH] at hl ⊢;exact .of_eq (h us hl)
structure cA(N P:List Str)(sc:Scope):Prop where
 kind:sc.kind=.function
 co:sc.isCoroutine=false
 gen:sc.isGenerator=false
 nd:N.Nodup
 pre:N.take P.length=P
 FE:∀x∈P,sc.names.lookup x=some .local\/sc.names.lookup x=some .cell
 TH:∀y∈sc.names,y.2≠.free
theorem AY{kindOf:Str->Option ade}{x:Str}:∀{binds:List (Str×Value)} {m:Str->Option Value},(∀v,(x,v)∉binds)->bindL kindOf binds m x=m x
 | [],_,_=>rfl
 | (n,v)::r,m,h=>by
  unfold bindL;rw[AY fun w hw=>h w (aaN _ hw)];split
  ·have:x≠n:=by rintro rfl;exact h v aby
   simp[this]
  ·rfl
theorem AZ{kindOf:Str->Option ade}{x:Str}:∀{binds:List (Str×Value)} {m:Str->Option Value},(∀v,(x,v)∉binds)->bindC kindOf binds m x=m x
 | [],_,_=>rfl
 | (n,v)::r,m,h=>by
  unfold bindC;rw[AZ fun w hw=>h w (aaN _ hw)];split
  ·rfl
  ·have:x≠n:=by rintro rfl;exact h v aby
   simp[this]
theorem A0{kindOf:Str->Option ade}{x:Str}{v:Value}:∀{P:List Str} {vs:List Value} {i:Nat} {m:Str->Option Value},P.Nodup->P[i]? =some x->vs[i]? =some v->kindOf x=some .local →
  bindL kindOf (P.zip vs) m x=some v
 | [],_,_,_,_,h,_,_=>by simp at h
 | _::_,[],_,_,_,_,h,_=>by simp at h
 | p::P,w::vs,0,m,nd,h1,h2,hk=>by
  simp at h1 h2;subst h1;subst h2
  show bindL kindOf ((p,w)::P.zip vs) m p=_;unfold bindL;rw[AY fun v hv=>(abW.mp nd).1 (aeP hv).1,if_pos hk];simp
 | p::P,w::vs,i+1,m,nd,h1,h2,hk=>by
  show bindL kindOf ((p,w)::P.zip vs) m x=_;unfold bindL;exact A0 (i:=i) (abW.mp nd).2 (by simpa using h1) (by simpa using h2) hk
theorem A1{kindOf:Str->Option ade}{x:Str}{v:Value}:∀{P:List Str} {vs:List Value} {i:Nat} {m:Str->Option Value},P.Nodup->P[i]? =some x->vs[i]? =some v->kindOf x≠some .local →
  bindC kindOf (P.zip vs) m x=some v
 | [],_,_,_,_,h,_,_=>by simp at h
 | _::_,[],_,_,_,_,h,_=>by simp at h
 | p::P,w::vs,0,m,nd,h1,h2,hk=>by
  simp at h1 h2;subst h1;subst h2
  show bindC kindOf ((p,w)::P.zip vs) m p=_;unfold bindC;rw[AZ fun v hv=>(abW.mp nd).1 (aeP hv).1,if_neg hk];simp
 | p::P,w::vs,i+1,m,nd,h1,h2,hk=>by
  show bindC kindOf ((p,w)::P.zip vs) m x=_;unfold bindC;exact A1 (i:=i) (abW.mp nd).2 (by simpa using h1) (by simpa using h2) hk
noncomputable def start(N:List Str)(vs:List V):St:=vs.map some++aay (N.length-vs.length) none
noncomputable def i7(CX:li)(P:aba)(w:World)(K:aab)(mg:Str->Option Value)(base:Heap)(N:List Str)(qual:Str)(scope:Scope)(f:Addr)(cd:Value)(A:acm)(outer:List Env)(s:aaf)(H:Hp)(E:XK):Cx where
 prog:=P
 w:=w
 K:=K
 mg:=mg
 base:=base
 A:=A.deeper (afg qual scope s.heap.objs.size f cd)
 N:=N
 aE:=s
 aL:=H
 env:=afg qual scope s.heap.objs.size f cd
 outer:=outer
 stack:=afg qual scope s.heap.objs.size f cd::outer
 ex:=[]
 calm:=true
 fn:=fun _=>true
 pn:=[]
 kp:=fun _=>True
 xe:=fun e s'=>wpAny (model P w) (A.deeper (afg qual scope s.heap.objs.size f cd)) (leaving (afg qual scope s.heap.objs.size f cd) e) (fun _ gq=>CX outer H s E e gq) (fun e' gq=>CX outer H s E e' gq) s'
theorem Bw{sc:Scope}{n:Nat}{x:Str}(h:sc.names.lookup x=some .cell):∃c,(cellsFrom n sc.names []).lookup x=some c:=by
 have q:=aeE sc.names n [] (.inl h);exact abh.mp q
theorem O4{CX:li}{w:World}{mg:Str->Option Value}{base:Heap}{N ps:List Str}{qual:Str}{scope:Scope}{f:Addr}{cd:Value}{outer:List Env}{s s1:aaf}{E:XK}{us:List Value}{vs:List V}
  (S:cA N ps scope) (hd:A.handled=none) (e0:tf P w K mg base A outer s H) (hl:vs.length=ps.length) (r:Vals vs us)
  (x:InCallC s s.heap.objs.size (bindL (afg qual scope s.heap.objs.size f cd).kindOf (ps.zip us) fun _=>none) (cellsFrom (s.heap.objs.size+1) scope.names []) (bindC (afg qual scope s.heap.objs.size f cd).kindOf (ps.zip us) fun _=>none) s1) :
  Inv (i7 CX P w K mg base N qual scope f cd A outer s H E) [] (start N vs) H s1:=by
 have hpl:ps.length<=N.length:=by have:=congrArg List.length S.pre;rw[abD] at this;omega
 obtain⟨h1,tk,rfl,hk⟩:=x.done;have yC:∀b:Addr,b∉(i7 CX P w K mg base N qual scope f cd A outer s H E).ex:=fun b z=>absurd (show b∈([]:List Addr) from z) (by simp)
 refine⟨⟨e0.mod,S.kind,rfl,rfl,aaj _,fun y z c h1 h2=>?_,fun y hy=>?_,fun y c _ h=>?_,fun _=>hd,Around.frames_deeper e0.frames,.inr ⟨rfl,rfl⟩,fun b z=>absurd z (yC b),e0.bs,e0.m9,fun b _ _=>yC b,fun b z=>absurd z (yC b),e0.gi,e0.pd⟩,
  rfl,e0.bare,Un.kept hk,⟨_,x.toInCall.ns,fun i y v h1 h2 h3=>?_⟩,fun y c h=>⟨_,x.cell y c h⟩,e0.aG.fresh (aaj _),fun y c h=>?_,fun p hp=>absurd (show p∈([]:List (Addr×Obj)) from hp) (by simp),e0.aG.kept hk,⟨?_,trivial⟩⟩
 ·exact name_of_addr x.apart (acw h1) (acw h2)
 ·have hy:scope.names.lookup y=some .cell\/scope.names.lookup y=some .free:=hy
  rcases hy with hy | hy
  ·exact Bw hy
  ·exact absurd rfl (S.TH _ (acw hy))
 ·exact ado (x.above y c (acw h))
 ·have hi:i<vs.length:=by
   unfold start at h2;by_cases hi:i<vs.length
   ·exact hi
   ·rw[adS (by simpa using hi)] at h2;rw[List.getElem?_replicate] at h2;split at h2 <;> cases h2
  have ha:vs[i]? =some v:=by
   unfold start at h2;rw[aaU (by simpa using hi),aak] at h2;cases e:vs[i]? with
   | none=>rw[e] at h2;cases h2
   | some a=>rw[e] at h2;cases h2;rfl
  obtain⟨u,hu,rv⟩:=r.get ha;have hp:ps[i]? =some y:=by
   rw[<- S.pre,List.getElem?_take_of_lt (by omega)];exact h1
  have FF:ps.Nodup:=by rw[<- S.pre];exact S.nd.sublist (List.take_sublist _ _)
  refine⟨u,rv,?_⟩
  rcases S.FE y (aaK hp) with k | k
  ·exact .inl ⟨k,A0 FF hp hu k⟩
  ·obtain⟨c,e⟩:=Bw (n:=s.heap.objs.size+1) k;refine .inr ⟨.inl k,c,e,?_⟩;have q:=x.cell y c e;rw[A1 FF hp hu (by show scope.names.lookup y≠_;rw[k];decide)] at q;exact q
 ·have z:=e0.aG.fresh (ado (x.above y c (acw h)));exact⟨fun _=>z,.inl z⟩
 ·unfold start;show _=N.length;rw[aaI,aag,List.length_replicate];omega
theorem VZ{CX:li}{w:World}{mg:Str->Option Value}{base:Heap}{k:Nat}{f:Addr}{name qual:Str}{params:Arguments}{body:List Stmt}{scope:Scope}{dV kV doc pm cj ct oc:Value}{an od:Option Addr}
  {jZ:Array (Option Value)} {N ps:List Str} {sp:Sp} (lk:K.lookup f=some ⟨oc,od,.func (aaD name qual params body scope dV kV doc pm an cj ct),jZ⟩) (hcd:aaz K cj qual=true) (S:cA N ps scope)
  (len:∀vs H Q E,sp vs H Q E->vs.length=ps.length)
  (oi:∀(A:acm) (outer:List Env) (s:aaf) (H:Hp) (vs:List V) (Q:VK) (E:XK),dq k (A.deeper (afg qual scope s.heap.objs.size f cj))->sp vs H Q E →
   ∃t,fB (i7 CX P w K mg base N qual scope f cj A outer s H E) body t/\t { nx:=fun _ H'=>Q .aO H',rt:=Q } (start N vs) H) :
  bY P w K mg base CX (k+1) f (aaD name qual params body scope dV kV doc pm an cj ct) ps sp:=by
 refine⟨len,fun A outer s H args us vs Q E hr e0 hb r ua=>?_⟩;have hl:=len _ _ _ _ ua;have KX:K.In s.heap:=e0.mod.yw.keeps fun b o e=>(e0.bs b o e).1
 have lim:s.heap.NoLimit:=e0.mod.nolimit.keeps fun b o e=>(e0.bs b o e).1
 have V0:∀y∈ps.zip us,scope.names.lookup y.1=some .local\/(scope.names.lookup y.1=some .cell/\((cellsFrom (s.heap.objs.size+1) scope.names []).lookup y.1).isSome=true):=fun⟨n,v⟩ hy=>by
  rcases S.FE n (aeP hy).1 with q | q
  ·exact .inl q
  ·exact .inr ⟨q,aeE _ _ _ (.inl q)⟩
 refine codeAny_call_function hr.depth (KX _ _ lk) rfl S.co S.gen rfl (PySem.W.codeRec_of KX hcd) (hb _ _ _ _ ?_);refine wpAny_newFunctionEnv_cells S.kind V0 fun env he s1 x=>?_
 subst he;refine⟨lim.keeps x.toInCall.keep,codeAny_func ?_⟩;obtain⟨t,ht,hq⟩:=oi A outer s H vs Q E (hr.deeper _) ua;have I:Inv (i7 CX P w K mg base N qual scope f cj A outer s H E) [] (start N vs) H s1:=O4 S hr.hd e0 hl r x;refine abO (ht [] s1 (start N vs) H _ I hq) (fun fl s' hs=>?_) fun e s' hs=>hs
 have fin:∀{aC:St} {H':Hp} {v:V} {u:Value},Inv (i7 CX P w K mg base N qual scope f cj A outer s H E) [] aC H' s'->RelV v u->Q v H'->CE outer P w H s Q u s':=
  fun{aC H' v u} J rv q=>⟨v,H',J.os,J.bare,J.base,J.aG,rv,q⟩
 cases fl with
 | ret u=>
  obtain⟨v,aC,H',J,rv,q⟩:=hs;exact fin J rv q
 | next=>
  obtain⟨aC,H',J,q⟩:=hs;exact fin (v:=V.aO) (u:=abN) J rfl q
 | brk=>
  obtain⟨_,_,_,q⟩:=hs;exact adF q
 | cont=>
  obtain⟨_,_,_,q⟩:=hs;exact adF q
section
variable{X:Cx}{x:Str}{p pos:Pos}{e:Expr}{es:List Expr}{t:TA}{id T:String}{r:List V->Hp->VK->Prop}
noncomputable def yD(r:List V->Hp->VK->Prop)(t:TA):TE:=fun σ H Q=>t σ H fun vs H1=>r vs H1 Q
theorem Bx(hc:cy X (.builtin id) r)(hg:Gl X x)(hm:X.mg x=none)(hv:abk x=some (.builtin id))(ha:PA X (e::es) t)(hn:x≠"__name__":=by decide)(du:(x==("__debug__":Str))=false:=by decide)
  (he:aaA (e::es) X.env=(false,eval e X.env)::aaA es X.env:=by rfl) (hpl:(adp pos (aaA es X.env)).any (·.1)=false:=by rfl):PE X (.Call (.Name x p) (e::es) [] pos) (yD r t):=by
 intro pins s σ H Q I h;refine adf (iV I hg hm hv ?_ hn du);exact PyProof.Rows.callWith_builtin1 (aS (ha pos pins s σ H _ I h) fun us s1 ⟨vs,H1,I1,r1,q1⟩=>hc pins s1 σ H1 vs us Q I1 r1 q1) he hpl
theorem O5(hc:cy X (.type T) r)(hg:Gl X x)(hm:X.mg x=none)(hv:abk x=some (.type T))(ha:PA X (e::es) t)(hn:x≠"__name__":=by decide)(du:(x==("__debug__":Str))=false:=by decide)
  (he:aaA (e::es) X.env=(false,eval e X.env)::aaA es X.env:=by rfl) (hpl:(adp pos (aaA es X.env)).any (·.1)=false:=by rfl):PE X (.Call (.Name x p) (e::es) [] pos) (yD r t):=by
 intro pins s σ H Q I h;refine adf (iV I hg hm hv ?_ hn du);exact aaW (aS (ha pos pins s σ H _ I h) fun us s1 ⟨vs,H1,I1,r1,q1⟩=>hc pins s1 σ H1 vs us Q I1 r1 q1) he hpl
end
end L2
namespace HT
open PySem PyProof.Rows
section
open PySem.SeqAt
open PySem.AutoSeq1 (wpAny_loadPart')
open PySem.MeetsSeq PySem.MeetsSeq2 PySem.MeetsSeq3
end
section
variable{prog:aba}{w:World}{A:acm}{E:Value->aaf->Prop}{s:aaf}
theorem Rm{t b:Addr}{vs ws:List Value}{Q:Value->aaf->Prop}(ht:IsTup s.heap t vs.toArray)(hb:IsTup s.heap b ws.toArray)(hv:vs≠[])
  (h1:ws=[]->Q (.ref t) s) (h2:ws≠[]->Q (.ref s.heap.objs.size) { s with heap:=s.heap.push { cls:=.type "tuple",data:=.seq (vs++ws).toArray } })
  (hsz:vs.length+ws.length<=aas):wpAny (model prog w) A (acR .Add (.ref t) (.ref b)) Q E s:=by
 obtain⟨⟨cls,dd,data,sl⟩,ho,hc,n,hd⟩:=id ht;obtain⟨⟨ZE,FG,data2,pg⟩,ub,uc,n2,hd2⟩:=id hb;simp only at hc hd uc hd2;subst hc hd uc hd2;have e:vs.toArray++ws.toArray=(vs++ws).toArray:=by simp
 by_cases hw:ws=[]
 ·exact concat_meets ⟨_,ho,rfl⟩ ⟨_,ub,rfl⟩ noFill_tuple_add seq_tuple_add aeF aep (aej _ _)
   (tuple_addW1 t b vs.toArray ws.toArray n n2 dd FG sl pg (by simpa using hv) (by simp[hw])) ⟨ho,ub,h1 hw⟩
 ·refine concat_meets ⟨_,ho,rfl⟩ ⟨_,ub,rfl⟩ noFill_tuple_add seq_tuple_add aeF aep (aej _ _)
   (tuple_addW2 t b vs.toArray ws.toArray n n2 dd FG sl pg (by simpa using hv) (by simpa using hw) (by rw[aao,aao];exact hsz)) ⟨ho,ub,?_⟩
  rw[e];exact h2 hw
noncomputable def aV(n d:Nat):Option Int->Nat
 | none=>d
 | some v=>if v<0 then(v+(n:Int)).toNat else min v.toNat n
theorem TJ(n d:Nat)(hd:d<=n)(o:Option Int):aV n d o<=n:=by
 cases o with
 | none=>exact hd
 | some v=>
  show(if v<0 then(v+(n:Int)).toNat else min v.toNat n)<=n;by_cases hv:v<0
  ·rw[if_pos hv];omega
  ·rw[if_neg hv];exact Nat.min_le_right _ _
theorem Cd(v:Int)(n d:Nat):(if v<0 then max (v+(n:Int)) 0 else min v (n:Int))=((aV n d (some v):Nat):Int):=by
 show(if v<0 then max (v+(n:Int)) 0 else min v (n:Int))=(((if v<0 then(v+(n:Int)).toNat else min v.toNat n):Nat):Int);by_cases hv:v<0
 ·simp only[if_pos hv];omega
 ·simp only[if_neg hv];omega
theorem NF(lo hi:Option Int)(n:Nat):acM lo hi 1 (n:Int)=(((aV n 0 lo:Nat):Int),((aV n n hi:Nat):Int)):=by
 have h1:¬((1:Int)<0):=by omega
 unfold acM;simp only[h1,if_false];refine Prod.ext ?_ ?_
 ·cases lo with
  | none=>rfl
  | some v=>exact Cd v n 0
 ·cases hi with
  | none=>rfl
  | some v=>exact Cd v n n
theorem NG(i j:Nat):aci (i:Int) (j:Int) 1=j-i:=by
 unfold aci;have h1:(1:Int)>0:=by omega
 simp only[h1,if_true,Int.ediv_one];split <;> omega
theorem AG{v:Value}{o:Option Int}{Q:Option Int->aaf->Prop}(p:afQ v o)(h:Q o s):wpAny (model prog w) A (Builtin.Slice.slicePartIndex v) Q E s:=by
 cases p with
 | none=>exact slicePart_none h
 | int i t=>exact slicePart_int h
theorem Jg{sl:Addr}{vl vu:Value}{lo hi:Option Int}{n:Nat}{Q:Int×Int×Nat->aaf->Prop}(hs:s.heap.IsSliceOf sl vl vu .none)(pl:afQ vl lo)(pu:afQ vu hi)
  (h:Q (((aV n 0 lo:Nat):Int),1,aV n n hi-aV n 0 lo) s):wpAny (model prog w) A (adT (.ref sl) (pure (n:Int))) Q E s:=by
 obtain⟨os,pj,FH,ud⟩:=id hs;unfold adT Builtin.Slice.sliceFields;refine aaa (aaa (aaY pj ud (x:=vl) rfl (aaa (aaY pj ud (x:=vu) rfl (aaa (aaY pj ud (x:=.none) rfl (aai ?_)))))));refine aaa (slicePart_none ?_);show wpAny _ _ (if((1:Int)==0)=true then _ else _) _ _ s;rw[if_neg (by decide)];refine aaa (AG pl (aaa (AG pu (aaa (aai ?_)))));show wpAny _ _ (match acM lo hi 1 (n:Int) with | (lo,hi)=>pure (lo,(1:Int),aci lo hi 1)) _ _ s;rw[NF lo hi n];show wpAny _ _ (pure (((aV n 0 lo:Nat):Int),(1:Int),aci ((aV n 0 lo:Nat):Int) ((aV n n hi:Nat):Int) 1)) _ _ s;rw[NG];exact aai h
theorem Qt(xs:Array Value)(i k:Nat):((aaP k).filterMap fun(m:Nat)=>xs[((i:Int)+(m:Int)*1).toNat]?).toArray=((xs.toList.drop i).take k).toArray:=by
 have e:(fun(m:Nat)=>xs[((i:Int)+(m:Int)*1).toNat]?)=fun m=>xs[i+m]? :=by
  funext m
  have:((i:Int)+(m:Int)*1).toNat=i+m:=by omega
  rw[this]
 rw[e];have:=pick_run xs i k;rw[List.filterMap_map] at this;have e2:((fun x=>xs[x]?)∘fun x=>i+x)=fun m=>xs[i+m]? :=rfl
 rw[e2] at this;rw[this]
theorem Iu{t sl:Addr}{items:Array Value}{vl vu:Value}{lo hi:Option Int}{Q:Value->aaf->Prop}(ht:IsTup s.heap t items)(hs:s.heap.IsSliceOf sl vl vu .none)(pl:afQ vl lo)(pu:afQ vu hi)
  (hw:¬(aV items.size 0 lo=0/\aV items.size items.size hi=items.size))
  (h:Q (.ref s.heap.objs.size) { s with heap:=s.heap.push { cls:=.type "tuple",data:=.seq ((items.toList.drop (aV items.size 0 lo)).take (aV items.size items.size hi-aV items.size 0 lo)).toArray } })
  (hsz:items.size<=aas):wpAny (model prog w) A (afl (.ref t) (.ref sl)) Q E s:=by
 have sk:sizeOk (.seq ((items.toList.drop (aV items.size 0 lo)).take (aV items.size items.size hi-aV items.size 0 lo)).toArray):=by
  show((items.toList.drop (aV items.size 0 lo)).take (aV items.size items.size hi-aV items.size 0 lo)).toArray.size<=aas;rw[aao,abD,aez,acW];omega
 have hj:aV items.size items.size hi<=items.size:=TJ _ _ (aaj _) hi;obtain⟨os,pj,FH,ud⟩:=id hs;have XX:s.TypeIs (.ref sl) "slice":=⟨os,pj,FH⟩
 unfold afl
 try with_reducible refine abg ?_
 first | refine aaa (aai ?_) | skip
 refine aaa (wpAny_sequenceKey ht.typeIs (by decide) ?_);refine aaa (abb (name:=aae "__getitem__") ht.typeIs aco
  (abv aco ht.typeIs entry_tuple_getitem ?_ (args_tuple_getitem _ _)))
 show wpAny _ _ (Builtin.Tuple.tupleItemsOf (.ref t) >>= _) _ _ s;refine aaa (tupleItemsOf_ ht ?_);refine aaa (aeQ XX ?_);rw[if_pos (by decide)];refine aaa (Jg hs pl pu ?_);have yE:¬((((aV items.size 0 lo:Nat):Int)==0&&(1:Int)==1&&(aV items.size items.size hi-aV items.size 0 lo)==items.size)=true):=by
  intro q;rw[aau,aau] at q;have q1:((aV items.size 0 lo:Nat):Int)=0:=eq_of_beq q.1.1;have q2:aV items.size items.size hi-aV items.size 0 lo=items.size:=eq_of_beq q.2;exact hw ⟨by omega,by omega⟩
 show wpAny _ _ (if(((aV items.size 0 lo:Nat):Int)==0&&(1:Int)==1&&(aV items.size items.size hi-aV items.size 0 lo)==items.size)=true then _ else _) _ _ s;rw[if_neg yE,Qt]
 first
  | exact aaa (m:=acp _) (abI (aai ⟨_,rfl,aai h⟩) sk)
  | exact aaa (m:=acp _) (abI (aaa (aai (aai ⟨_,rfl,aai h⟩))) sk)
  | exact aaa (aaa (m:=acp _) (abI (aai (aai ⟨_,rfl,aai h⟩)) sk))
  | exact aaa (aaa (m:=acp _) (abI (aai ⟨_,rfl,aai h⟩) sk))
end
end HT
namespace L2
open PySem PySem.Spec PyProof.Rows
abbrev TO:=St->Hp->(Option Int->Hp->Prop)->Prop
noncomputable def PO(X:Cx)(e:Option Expr)(t:TO):Prop:=
 ∀(pins:List (Addr×Obj)) (s:aaf) (σ:St) (H:Hp) (Q:Option Int->Hp->Prop),Inv X pins σ H s->t σ H Q →
  wpAny (model X.prog X.w) X.A (evalPart e X.env) (fun u s'=>∃o H',Inv X pins σ H' s'/\afQ u o/\Q o H') X.xe s
noncomputable def Rn:TO:=fun _ H Q=>Q none H
noncomputable def V1(t:TE):TO:=fun σ H Q=>t σ H fun x H1=>∃i,x=.int i/\Q (some i) H1
theorem intsAre_of{ns:List Int}:∀{us:List Value},Vals (ns.map V.int) us->aeR us ns:=by
 induction ns with
 | nil=>intro us r;rw[adq] at r;cases r;exact .nil
 | cons n ns ih=>
  intro us r;rw[aaB] at r;cases r with
  | cons r1 r2=>
   obtain⟨t,e⟩:=r1;subst e;exact .cons n t (ih r2)
section
variable{X:Cx}{e:Expr}{te:TE}{lo hi:Option Expr}{tl th:TO}{pos p2:Pos}
theorem Ro:PO X none Rn:=by
 intro pins s σ H Q I h;rw[evalPart_none];exact aai ⟨none,H,I,.none,h⟩
theorem Rp(h:PE X e te):PO X (some e) (V1 te):=by
 intro pins s σ H Q I hw;rw[evalPart_some];refine aS (h pins s σ H _ I hw) fun u s1 ⟨x,H1,I1,r1,q1⟩=>?_
 obtain⟨i,rfl,q⟩:=q1;obtain⟨t,rfl⟩:=r1;exact⟨some i,H1,I1,.int i t,q⟩
noncomputable def j0(X:Cx)(r:V->Option Int->Option Int->Hp->VK->Prop):Prop:=
 ∀(pins:List (Addr×Obj)) (s:aaf) (σ:St) (H:Hp) (x:V) (v vl vu:Value) (lo hi:Option Int) (sl:Addr) (Q:VK),Inv X pins σ H s->RelV x v->s.heap.IsSliceOf sl vl vu .none->afQ vl lo->afQ vu hi->r x lo hi H Q →
  ∃T id,afC (.type T) "__getitem__"=pure (some (.builtin id))/\s.TypeIs v T/\wpAny (model X.prog X.w) X.A (afl v (.ref sl)) (EP X pins σ Q) X.xe s
theorem j0.or{r r':V->Option Int->Option Int->Hp->VK->Prop}(h:j0 X r)(h':j0 X r'):j0 X (fun x lo hi H Q=>r x lo hi H Q\/r' x lo hi H Q):=by
 intro pins s σ H x v vl vu lo hi sl Q I rx hs pl pu q
 rcases q with q | q
 ·exact h pins s σ H x v vl vu lo hi sl Q I rx hs pl pu q
 ·exact h' pins s σ H x v vl vu lo hi sl Q I rx hs pl pu q
noncomputable def XY(r:V->Option Int->Option Int->Hp->VK->Prop)(te:TE)(tl th:TO):TE:=fun σ H Q=>te σ H fun x H1=>tl σ H1 fun l H2=>th σ H2 fun u H3=>r x l u H3 Q
theorem Qu{r:V->Option Int->Option Int->Hp->VK->Prop}(hr:j0 X r)(he:PE X e te)(hl:PO X lo tl)(hu:PO X hi th):PE X (.Subscript e (.Slice lo hi none p2) pos) (XY r te tl th):=by
 intro pins s σ H Q I h;refine Subscript_ (aS (he pins s σ H _ I h) fun v s1 ⟨x,H1,I1,r1,q1⟩=>?_);refine wpAny_Slice (aS (hl pins s1 σ H1 _ I1 q1) fun vl s2 ⟨l,H2,I2,pl,q2⟩=>aS (hu pins s2 σ H2 _ I2 q2) fun vu s3 ⟨u,H3,I3,pu,q3⟩=>?_);rw[evalPart_none];refine aai ?_;have I4:Inv X pins σ H3 { s3 with heap:=s3.heap.push { cls:=.type "slice",data:=.fields #[vl,vu,.none] } }:=I3.kept (t':=s3.toks) fun b ob q=>aad _ q
 obtain⟨T,id,hT,ht,hg⟩:=hr pins { s3 with heap:=s3.heap.push { cls:=.type "slice",data:=.fields #[vl,vu,.none] } } σ H3 x v vl vu l u s3.heap.objs.size Q I4 r1 (Heap.IsSliceOf.new ..) pl pu q3;show wpAny (model X.prog X.w) X.A (aeq e (.Slice lo hi none p2) v (.ref s3.heap.objs.size)) (EP X pins σ Q) X.xe { s3 with heap:=s3.heap.push { cls:=.type "slice",data:=.fields #[vl,vu,.none] } };exact tail_any (ops:=[.ref s3.heap.objs.size,v]) ht hT hg (by with_unfolding_all rfl)
noncomputable def jI(xs:List V)(lo hi:Option Int):List V:=(xs.drop (HT.aV xs.length 0 lo)).take (HT.aV xs.length xs.length hi-HT.aV xs.length 0 lo)
theorem Au(xs:List V)(lo hi:Option Int):(jI xs lo hi).length<=xs.length:=by
 unfold jI;rw[abD,aez];omega
noncomputable def Xf(K:aab):V->Option Int->Option Int->Hp->VK->Prop:=fun x lo hi H Q=>∃a xs,x=.ref a/\bz K H a xs /\
 ¬(HT.aV xs.length 0 lo=0/\HT.aV xs.length xs.length hi=xs.length)/\∀p,H p=none->Q (.ref p) (upd H p (.tup (jI xs lo hi)))
theorem rO:j0 X (Xf X.K):=by
 intro pins s σ H x v vl vu lo hi sl Q I rx hs pl pu h;obtain⟨a,xs,rfl,hx,hw,q⟩:=h;cases rx;obtain⟨its,r,ht,hz⟩:=I.tuple hx;have bU:its.toArray.size=xs.length:=by rw[aao];exact r.length.symm
 refine⟨"tuple",_,aco.lookup,ht.typeIs,?_⟩;refine HT.Iu ht hs pl pu (by rw[bU];exact hw) ?_ (by rw[bU];exact hz);rw[bU];refine⟨.ref s.heap.objs.size,_,I.laid (t':=s.toks) (o:=.tup (jI xs lo hi)) (fun b ob q=>aad _ q) (aaj _) ?_,rfl,q _ (I.aG.fresh (aaj _))⟩;exact⟨abl (Au xs lo hi) hz,_,(r.drop (HT.aV xs.length 0 lo)).take (HT.aV xs.length xs.length hi-HT.aV xs.length 0 lo),IsTup.new _ _⟩
noncomputable def DZ(K:aab):R2:=fun x y H Q=>∃a b xs ys,x=.ref a/\y=.ref b/\bz K H a xs/\bz K H b ys/\xs≠[]/\xs.length+ys.length<=aas /\
 (ys=[]->Q (.ref a) H)/\(ys≠[]->∀p,H p=none->Q (.ref p) (upd H p (.tup (xs++ys))))
theorem Vals.wu{xs:List V}{us:List Value}(r:Vals xs us):us=[]↔xs=[]:=by
 cases r with
 | nil=>simp
 | cons _ _=>simp
theorem Rq:bf X (acR .Add) (DZ X.K):=by
 intro pins s σ H x y v u Q I rx ry h;obtain⟨a,b,xs,ys,rfl,rfl,ha,hb,hx,hz,q1,q2⟩:=h;cases rx;cases ry;obtain⟨its,r1,p1,_⟩:=I.tuple ha;obtain⟨iz,r2,p2,_⟩:=I.tuple hb;refine HT.Rm p1 p2 (fun z=>hx (r1.wu.mp z)) (fun z=>⟨.ref a,H,I,rfl,q1 (r2.wu.mp z)⟩) (fun z=>?_) (by rw[<- r1.length,<- r2.length];exact hz);refine⟨.ref s.heap.objs.size,_,I.laid (t':=s.toks) (o:=.tup (xs++ys)) (fun b ob q=>aad _ q) (aaj _) ?_,rfl,q2 (fun w=>z (r2.wu.mpr w)) _ (I.aG.fresh (aaj _))⟩;exact⟨by rw[aaI];exact hz,_,r1.append r2,IsTup.new _ _⟩
end
noncomputable def fD(n:Nat)(i:Int):Option Nat:=if 0<=i then(if i<n then some i.toNat else none) else if -(n:Int)<=i then some (i+n).toNat else none
noncomputable def ck{α:Type}(xs:List α)(i:Int):Option α:=(fD xs.length i).bind fun j=>xs[j]?
theorem Ce{n:Nat}{i:Int}{j:Nat}(h:fD n i=some j):seqIndex? i n=some j/\j<n/\ -(n:Int)<=i/\i<n:=by
 unfold fD at h;by_cases h0:0<=i
 ·rw[if_pos h0] at h;by_cases h1:i<n
  ·rw[if_pos h1] at h;have e:i.toNat=j:=abd h;exact⟨by rw[seqIndex_of h0 h1,e],by omega,by omega,h1⟩
  ·rw[if_neg h1] at h;cases h
 ·rw[if_neg h0] at h;by_cases h1: -(n:Int)<=i
  ·rw[if_pos h1] at h;have e:(i+n).toNat=j:=abd h;exact⟨by rw[seqIndex_neg (by omega) h1,e],by omega,h1,by omega⟩
  ·rw[if_neg h1] at h;cases h
theorem wz{α:Type}{xs:List α}{i:Int}{v:α}(h:ck xs i=some v):∃j,seqIndex? i xs.length=some j/\xs[j]? =some v/\j<xs.length/\ -(xs.length:Int)<=i/\i<xs.length:=by
 unfold ck at h;cases e:fD xs.length i with
 | none=>rw[e] at h;cases h
 | some j=>
  rw[e] at h;obtain⟨h1,h2,h3,h4⟩:=Ce e;exact⟨j,h1,h,h2,h3,h4⟩
noncomputable def rA(b:Expr):Prop:=∀o i,afm b false o i=operate [o,i] (afl o i)
noncomputable def gZ(X:Cx)(r:R2):Prop:=
 ∀(value slice:Expr) (pins:List (Addr×Obj)) (s:aaf) (σ:St) (H:Hp) (x y:V) (v u:Value) (Q:VK),Inv X pins σ H s->RelV x v->RelV y u->r x y H Q →
  afm slice false v u=operate [v,u] (afl v u)->wpAny (model X.prog X.w) X.A (aeq value slice v u) (EP X pins σ Q) X.xe s
noncomputable def pk(X:Cx)(id:String)(r:V->List V->Hp->VK->Prop):Prop:=
 ∀(pins:List (Addr×Obj)) (s:aaf) (σ:St) (H:Hp) (x:V) (xs:List V) (v:Value) (us:List Value) (Q:VK),Inv X pins σ H s->RelV x v->Vals xs us->r x xs H Q →
  wpAny (model X.prog X.w) X.A (call (.builtin id) (v::us)) (EP X pins σ Q) X.xe s
section
variable{X:Cx}{a b:Expr}{ta tb:TE}{pos:Pos}
theorem gZ.or{r r':R2}(h:gZ X r)(h':gZ X r'):gZ X (fun x y H Q=>r x y H Q\/r' x y H Q):=by
 intro value slice pins s σ H x y v u Q I rx ry q hs
 rcases q with q | q
 ·exact h value slice pins s σ H x y v u Q I rx ry q hs
 ·exact h' value slice pins s σ H x y v u Q I rx ry q hs
theorem V2{r:R2}(hr:gZ X r)(ha:PE X a ta)(hb:PE X b tb)(hs:rA b):PE X (.Subscript a b pos) (lh r ta tb):=by
 intro pins s σ H Q I h;exact Subscript_ (td ha hb I h fun v u s2 x y H2 I2 rx ry q=>hr a b pins s2 σ H2 x y v u Q I2 rx ry q (hs _ _))
noncomputable def EK(K:aab):R2:=fun x y H Q=>∃p xs i v,x=.ref p/\y=.int i/\aP K H p xs/\ck xs i=some v/\Q v H
noncomputable def EL(K:aab):R2:=fun x y H Q=>∃p xs i v,x=.ref p/\y=.int i/\bz K H p xs/\ck xs i=some v/\Q v H
noncomputable def EN:R2:=fun x y H Q=>∃z i c,x=.str z/\y=.int i/\z.length<=aas/\ck z.cps.toList i=some c/\Q (.str ⟨#[c]⟩) H
theorem Rr:gZ X (EK X.K):=by
 intro value slice pins s σ H x y v u Q I rx ry h hs;obtain⟨p,xs,i,z,rfl,rfl,hq,he,q⟩:=h;cases rx;obtain⟨t,rfl⟩:=ry;obtain⟨its,r,pl,hz⟩:=I.list hq;obtain⟨j,h1,h2,h3,h4,h5⟩:=wz he;obtain⟨w,ew,eZ⟩:=r.get h2;have hl:=r.length;have hn:=kJ;have fin:EP X pins σ Q w s:=⟨z,H,I,eZ,q⟩
 by_cases h0:0<=i
 ·have hj:i.toNat=j:=by
   rw[seqIndex_of h0 h5] at h1;exact abd h1
  exact item_listR pl.isList h0 (by omega) (by rw[hj];simpa using ew) fin hs
 ·have hj:(i+(its.toArray.size:Int)).toNat=j:=by
   rw[seqIndex_neg (by omega) h4] at h1;rw[aao,<- hl];exact abd h1
  exact subscriptTail_builtinR (x:=w) pl.isList.typeIs slot_list_getitem.lookup
   (wpAny_getItem_list_neg (Q:=fun r s'=>r=w/\EP X pins σ Q r s') pl.isList (by omega) (by rw[aao] <;> omega) (by omega) (by rw[hj];simpa using ew) ⟨rfl,fin⟩) hs
theorem TK:gZ X (EL X.K):=by
 intro value slice pins s σ H x y v u Q I rx ry h hs;obtain⟨p,xs,i,z,rfl,rfl,hq,he,q⟩:=h;cases rx;obtain⟨t,rfl⟩:=ry;obtain⟨its,r,pl,hz⟩:=I.tuple hq;obtain⟨j,h1,h2,h3,h4,h5⟩:=wz he;obtain⟨w,ew,eZ⟩:=r.get h2;have hl:=r.length;have hn:=kJ;have fin:EP X pins σ Q w s:=⟨z,H,I,eZ,q⟩
 exact subscriptTail_builtinR (x:=w) pl.typeIs slot_tuple_getitem.lookup
  (getItem_tuple (j:=j) (Q:=fun r s'=>r=w/\EP X pins σ Q r s') pl (by omega) (by omega) (by rw[aao,<- hl];exact h1) (by simpa using ew) ⟨rfl,fin⟩) hs
theorem TN:gZ X EN:=by
 intro value slice pins s σ H x y v u Q I rx ry h hs;obtain⟨z,i,c,rfl,rfl,hz,he,q⟩:=h;obtain⟨t,rfl⟩:=rx;obtain⟨t',rfl⟩:=ry;obtain⟨j,h1,h2,h3,h4,h5⟩:=wz he;have hl:z.cps.toList.length=z.length:=by simp[Str.length]
 rw[hl] at h1 h4 h5;have hn:=kJ;exact tail_any (typeIs_str s z t) slot_str_getitem.lookup (getItem_str (c:=c) (by
  have e1:decide (i< -(2 ^ 63:Int))=false:=decide_eq_false (by omega);have e2:decide (i >= 2 ^ 63)=false:=decide_eq_false (by omega);rw[e1,e2,aer]) (by rw[h1];simpa using h2) ⟨.str ⟨#[c]⟩,H,I.tok _,⟨_,rfl⟩,q⟩) hs
noncomputable def yF(K:aab):R2:=fun x y H Q=>EK K x y H Q\/EL K x y H Q\/EN x y H Q
theorem TQ:gZ X (yF X.K):=Rr.or (TK.or TN)
theorem NH(its:List Value)(n j:Nat)(u:Value):abC (·.setIfInBounds j u) { cls:=.type "list",data:=.seq its.toArray n }={ cls:=.type "list",data:=.seq (its.set j u).toArray n }:=by
 simp[abC]
variable{σ:St}{H:Hp}
theorem Inv.lst{pins:List (Addr×Obj)}{s:aaf}{p:Addr}{xs:List V}(I:Inv X pins σ H s)(h:H p=some (.lst xs)) :
  ∃(its:List Value) (n:Nat),Vals xs its/\s.heap.get? p=some { cls:=.type "list",data:=.seq its.toArray n }/\xs.length<=sizeLine:=by
 obtain⟨z,its,n,r,e⟩:=I.aG p _ h;exact⟨its,n,r,e,z⟩
theorem Inv.TR{pins:List (Addr×Obj)}{s:aaf}{p:Addr}{xs ys:List V}{its its':List Value}{n n':Nat}{f:Obj->Obj}(I:Inv X pins σ H s)(h:H p=some (.lst xs))
  (ho:s.heap.get? p=some { cls:=.type "list",data:=.seq its.toArray n }) (hf:f { cls:=.type "list",data:=.seq its.toArray n }={ cls:=.type "list",data:=.seq its'.toArray n' }) (r:Vals ys its') (hz:ys.length<=aas) (t:Nat) :
  Inv X pins σ (upd H p (.lst ys)) { s with heap:=s.heap.update p f,toks:=t }:=by
 have e:(s.heap.update p f).get? p=some { cls:=.type "list",data:=.seq its'.toArray n' }:=by
  rw[ads f ho (by rw[hf] <;> rfl),hf]
 refine I.write (x:=p) (e:=p) (by rw[h];trivial) (.inl rfl) (fun b u hb q=>(abG _ _ (abL hb)).trans q) ⟨_,e⟩ ?_;exact⟨hz,its',n',r,e⟩
noncomputable def V3:V->V->V->Hp->(Hp->Prop)->Prop:=fun o i v H Q=>∃p xs k j,o=.ref p/\i=.int k/\H p=some (.lst xs)/\fD xs.length k=some j/\Q (upd H p (.lst (xs.set j v)))
theorem set_list:jH X V3:=by
 intro pins s σ H o i v ov iv u Q I ro ri rv h;obtain⟨p,xs,k,j,rfl,rfl,hp,hj,q⟩:=h;cases ro;obtain⟨t,rfl⟩:=ri;obtain⟨its,n,r,ho,hz⟩:=I.lst hp;obtain⟨h1,h2,h3,h4⟩:=Ce hj;have hl:=r.length;have hn:=kJ;have I':Inv X pins σ (upd H p (.lst (xs.set j v))) { s with heap:=s.heap.update p (abC (·.setIfInBounds j u)) }:=
  I.TR hp ho (NH its n j u) (r.set rv j) (by rw[abA];exact hz) s.toks
 by_cases h0:0<=k
 ·have hk:k.toNat=j:=by
   rw[seqIndex_of h0 h4] at h1;exact abd h1
  exact PySem.W.ki_setAt ho h0 (by omega) (by rw[aao,<- hl];exact h4) (by rw[hk];exact⟨_,I',q⟩)
 ·have hk:(k+(its.toArray.size:Int)).toNat=j:=by
   rw[seqIndex_neg (by omega) h3] at h1;rw[aao,<- hl];exact abd h1
  exact PySem.W.ki_setBack ho (by omega) (by rw[aao,<- hl];exact h3) (by omega) (by rw[hk];exact⟨_,I',q⟩)
theorem Mv(lo hi:Option Int)(n:Nat):(adm lo hi none n).1=((HT.aV n 0 lo:Nat):Int)/\(adm lo hi none n).2.1=((HT.aV n n hi:Nat):Int)/\(adm lo hi none n).2.2=1:=by
 refine⟨?_,?_,rfl⟩
 ·cases lo with
  | none=>simp[adm,HT.aV]
  | some i=>
   simp only[adm,HT.aV,Option.getD_none,show(1:Int)>0 by decide,if_true];by_cases h:i<0
   ·simp only[h,if_true] <;> omega
   ·simp only[h,if_false] <;> omega
 ·cases hi with
  | none=>simp[adm,HT.aV]
  | some i=>
   simp only[adm,HT.aV,Option.getD_none,show(1:Int)>0 by decide,if_true];by_cases h:i<0
   ·simp only[h,if_true] <;> omega
   ·simp only[h,if_false] <;> omega
theorem LL(its:List Value)(lo hi:Option Int):slicePick its.toArray lo hi none=((its.drop (HT.aV its.length 0 lo)).take (HT.aV its.length its.length hi-HT.aV its.length 0 lo)).toArray:=by
 obtain⟨h1,h2,h3⟩:=Mv lo hi its.toArray.size;unfold slicePick;rw[h1,h2,h3];simp only[sliceRange_one,pick_run,aao] <;> rfl
noncomputable def Xg(K:aab):V->Option Int->Option Int->Hp->VK->Prop:=fun x lo hi H Q=>∃a xs,x=.ref a/\aP K H a xs/\∀p,H p=none->Q (.ref p) (upd H p (.lst (jI xs lo hi)))
theorem Rt:j0 X (Xg X.K):=by
 intro pins s σ H x v vl vu lo hi sl Q I rx hs pl pu h;obtain⟨a,xs,rfl,hx,q⟩:=h;cases rx;obtain⟨its,r,ht,hz⟩:=I.list hx;have bU:=r.length;refine⟨"list",_,slot_list_getitem.lookup,ht.isList.typeIs,?_⟩;refine wpAny_getItem_list_slice ht.isList hs pl pu .none (by simp) ?_ (by rw[aao] <;> omega);rw[LL,<- bU];refine⟨.ref s.heap.objs.size,_,I.laid (t':=s.toks) (o:=.lst (jI xs lo hi)) (fun b ob q=>aad _ q) (aaj _) ?_,rfl,q _ (I.aG.fresh (aaj _))⟩;exact⟨abl (Au xs lo hi) hz,_,0,(r.drop (HT.aV xs.length 0 lo)).take (HT.aV xs.length xs.length hi-HT.aV xs.length 0 lo),aat _ rfl⟩
noncomputable def iZ:V->Bool
 | .aO=>true
 | .bl _=>true
 | .int _=>true
 | .str _=>true
 | _=>false
noncomputable def j1:V->V->Bool
 | .aO,.aO=>true
 | .bl a,.bl b=>a==b
 | .bl a,.int b=>(if a then 1 else 0)==b
 | .int a,.bl b=>a==(if b then 1 else 0)
 | .int a,.int b=>a==b
 | .str a,.str b=>a==b
 | _,_=>false
theorem TU{A:acm}{s:aaf}{y x:V}{u v:Value}(ry:RelV y u)(rx:RelV x v)(fy:iZ y=true)(fx:iZ x=true):afD A s u v (j1 y x):=by
 cases y with
 | aO=>
  cases ry;cases x with
  | aO=>cases rx;exact SeqAt.EqAt.same _
  | bl b=>cases rx;exact SeqAt.EqAt.none_bool b
  | int b=>obtain⟨t,rfl⟩:=rx;exact SeqAt.EqAt.none_int b t
  | str b=>obtain⟨t,rfl⟩:=rx;exact SeqAt.EqAt.none_str b t
  | _=>exact absurd (show false=true from fx) aaJ
 | bl a=>
  cases ry;cases x with
  | aO=>cases rx;exact SeqAt.EqAt.bool_none a
  | bl b=>cases rx;exact SeqAt.EqAt.bool_bool a b
  | int b=>obtain⟨t,rfl⟩:=rx;exact SeqAt.EqAt.bool_int a b t
  | str b=>obtain⟨t,rfl⟩:=rx;exact SeqAt.EqAt.bool_str a b t
  | _=>exact absurd (show false=true from fx) aaJ
 | int a=>
  obtain⟨t',rfl⟩:=ry;cases x with
  | aO=>cases rx;exact SeqAt.EqAt.int_none a t'
  | bl b=>cases rx;exact SeqAt.EqAt.int_bool a t' b
  | int b=>obtain⟨t,rfl⟩:=rx;exact SeqAt.EqAt.int_int a t' b t
  | str b=>obtain⟨t,rfl⟩:=rx;exact afp a t' b t
  | _=>exact absurd (show false=true from fx) aaJ
 | str a=>
  obtain⟨t',rfl⟩:=ry;cases x with
  | aO=>cases rx;exact SeqAt.EqAt.str_none a t'
  | bl b=>cases rx;exact SeqAt.EqAt.str_bool a t' b
  | int b=>obtain⟨t,rfl⟩:=rx;exact afq a t' b t
  | str b=>obtain⟨t,rfl⟩:=rx;exact SeqAt.EqAt.str_str a t' b t
  | _=>exact absurd (show false=true from fx) aaJ
 | _=>exact absurd (show false=true from fy) aaJ
noncomputable def je(x:V)(u:Value):Bool:=match u with
 | .none=>j1 .aO x
 | .bool b=>j1 (.bl b) x
 | .int i _=>j1 (.int i) x
 | .str z _=>j1 (.str z) x
 | _=>false
theorem C8{x y:V}{u:Value}(r:RelV y u)(f:iZ y=true):je x u=j1 y x:=by
 cases y with
 | aO=>cases r;rfl
 | bl b=>cases r;rfl
 | int i=>obtain⟨t,rfl⟩:=r;rfl
 | str z=>obtain⟨t,rfl⟩:=r;rfl
 | _=>exact absurd (show false=true from f) aaJ
theorem wA{x:V}:∀{xs:List V} {us:List Value},Vals xs us->xs.all iZ=true->us.any (je x)=xs.any fun y=>j1 y x
 | _,_,.nil,_=>rfl
 | y::xs,u::us,.cons r t,f=>by
  rw[abU,aau] at f;rw[abp,abp,C8 r f.1,wA t f.2]
theorem vL{A:acm}{s:aaf}{x:V}{v:Value}(rx:RelV x v)(fx:iZ x=true):∀{xs:List V} {us:List Value},Vals xs us->xs.all iZ=true->∀u∈us,afD A s u v (je x u)
 | _,_,.nil,_=>fun u hu=>by cases hu
 | y::xs,u::us,.cons r t,f=>fun u' hu=>by
  rw[abU,aau] at f
  rcases aav.mp hu with rfl | hu
  ·rw[C8 r f.1];exact TU r rx f.1 fx
  ·exact vL rx fx t f.2 u' hu
noncomputable def fV(x:V)(xs:List V):Bool:=xs.any fun y=>j1 y x
noncomputable def FJ(K:aab)(neg:Bool):R2:=fun x y H Q=>∃p xs,y=.ref p/\(aP K H p xs\/bz K H p xs)/\iZ x=true/\xs.all iZ=true/\Q (.bl (if neg then !fV x xs else fV x xs)) H
theorem O6:bf X (aaX .In) (FJ X.K false):=by
 intro pins s σ H x y v u Q I rx ry h;obtain⟨p,xs,rfl,hq,fx,fs,q⟩:=h;cases ry
 rcases hq with hq | hq
 ·obtain⟨its,r,pl,hz⟩:=I.list hq;refine SeqAt.in_listAt (je x) pl.isList (fun w hw=>vL rx fx r fs w (by simpa using hw)) ⟨.bl _,H,I,rfl,?_⟩;rw[show its.toArray.any (je x)=its.any (je x) by simp,wA r fs];exact q
 ·obtain⟨its,r,pl,hz⟩:=I.tuple hq;refine SeqAt.in_tupleAt (je x) pl (fun w hw=>vL rx fx r fs w (by simpa using hw)) ⟨.bl _,H,I,rfl,?_⟩;rw[show its.toArray.any (je x)=its.any (je x) by simp,wA r fs];exact q
theorem Mw:cy X (.builtin "len") (fun xs H Q=>∃p ys,xs=[.ref p]/\(aP X.K H p ys\/bz X.K H p ys)/\Q (.int ys.length) H):=by
 intro pins s σ H xs us Q I r h;obtain⟨p,ys,rfl,hq,q⟩:=h;obtain⟨u,rfl,rx⟩:=vals1 r;cases rx;have hn:=kJ
 rcases hq with hq | hq
 ·obtain⟨its,r',pl,hz⟩:=I.list hq;have bU:=r'.length;exact Calls.call_len_list pl.isList (by simp only[aao] <;> omega) ⟨.int ys.length,H,I.tok _,⟨s.toks+1,by rw[aao,bU]⟩,q⟩
 ·obtain⟨its,r',pl,hz⟩:=I.tuple hq;have bU:=r'.length;exact len_tuple pl (by simp only[aao] <;> omega) ⟨.int ys.length,H,I.tok _,⟨s.toks+1,by rw[aao,bU]⟩,q⟩
theorem Mx:cy X (.builtin "len") (fun xs H Q=>∃z,xs=[.str z]/\z.length<=aas/\Q (.int z.length) H):=by
 intro pins s σ H xs us Q I r h;obtain⟨z,rfl,hz,q⟩:=h;obtain⟨u,rfl,t,rfl⟩:=vals1 r;have hn:=kJ;exact len_str (by omega) ⟨.int z.length,H,I.tok _,⟨_,rfl⟩,q⟩
theorem cy.or{f:Value}{r r':List V->Hp->VK->Prop}(h:cy X f r)(h':cy X f r'):cy X f (fun xs H Q=>r xs H Q\/r' xs H Q):=by
 intro pins s σ H xs us Q I rs q
 rcases q with q | q
 ·exact h pins s σ H xs us Q I rs q
 ·exact h' pins s σ H xs us Q I rs q
theorem My:cy X (.type "list") (fun xs H Q=>∃p ys,xs=[.ref p]/\(aP X.K H p ys\/bz X.K H p ys)/\∀l,H l=none->Q (.ref l) (upd H l (.lst ys))):=by
 intro pins s σ H xs us Q I r h;obtain⟨p,ys,rfl,hq,q⟩:=h;obtain⟨u,rfl,rx⟩:=vals1 r;cases rx;have fin:∀(its:List Value),Vals ys its->ys.length<=aas->∀(h':Heap) (c':Nat),(∀b o',s.heap.get? b=some o'->h'.get? b=some o') →
   h'.get? s.heap.objs.size=some { cls:=.type "list",dict:=none,data:=.seq its.toArray c',slots:= #[] }->EP X pins σ Q (.ref s.heap.objs.size) { s with heap:=h' }:=fun its r' hz h' c' kp e=>
  ⟨.ref s.heap.objs.size,_,I.laid (t':=s.toks) kp (aaj _) (show cI X.prog X.w _ h' _ (.lst ys) from⟨hz,its,c',r',e⟩),rfl,q _ (I.aG.fresh (aaj _))⟩
 rcases hq with hq | hq
 ·obtain⟨its,r',pl,hz⟩:=I.list hq;have bU:=r'.length;obtain⟨o,ho,hc,n,hd⟩:=pl.isList;exact call_list_seq p (.inl rfl) ho hc hd (fun h' c' kp e=>fin its r' hz h' c' kp e) (by simp only[aao] <;> omega)
 ·obtain⟨its,r',pl,hz⟩:=I.tuple hq;have bU:=r'.length;obtain⟨o,ho,hc,n,hd⟩:=pl;exact call_list_seq p (.inr rfl) ho hc hd (fun h' c' kp e=>fin its r' hz h' c' kp e) (by simp only[aao] <;> omega)
noncomputable def yG(K:aab)(T:String)(x:V)(H:Hp):Prop:=match x with
 | .str _=>T="str"
 | .int _=>T="int"
 | .ref p=>(T="list"/\∃xs,aP K H p xs)\/(T="tuple"/\∃o,K.lookup p=some o/\o.cls=.type "tuple"/\o.dict=none) \/
   (T="dict"/\((∃kvs,H p=some (.dK kvs))\/∃kvs,H p=some (.dT kvs)))\/(T="set"/\∃S n,H p=some (.set S n))\/(T="dict"/\∃kvs,H p=some (.dU kvs))
 | _=>False
theorem TV{pins:List (Addr×Obj)}{s:aaf}{T:String}{x:V}{v:Value}(I:Inv X pins σ H s)(r:RelV x v)(ty:yG X.K T x H) :
  s.TypeIs v T/\∀a,v=.ref a->∃ob,s.heap.get? a=some ob/\ob.dict=none:=by
 cases x with
 | str z=>
  obtain⟨t,rfl⟩:=r;cases(show T="str" from ty);exact⟨typeIs_str s z t,fun _ e=>nomatch e⟩
 | int i=>
  obtain⟨t,rfl⟩:=r;cases(show T="int" from ty);exact⟨typeIs_int s i t,fun _ e=>nomatch e⟩
 | ref p=>
  cases r
  rcases ty with⟨rfl,xs,hq⟩ | ⟨rfl,o,hk,hc,hd⟩ | ⟨rfl,hk⟩ | ⟨rfl,S,n,hk⟩ | ⟨rfl,kvs,hk⟩
  ·obtain⟨its,_,pl,_⟩:=I.list hq;refine⟨pl.isList.typeIs,fun a e=>?_⟩;cases e;obtain⟨o,n,e,c,hd,_⟩:=pl;exact⟨o,e,hd⟩
  ·refine⟨⟨o,I.eF p o hk,hc⟩,fun a e=>?_⟩;cases e;exact⟨o,I.eF _ o hk,hd⟩
  ·have z:∃o,s.heap.get? p=some o/\o.ExactDict:=by
    rcases hk with⟨kvs,hk⟩ | ⟨kvs,hk⟩
    ·obtain⟨_,_,_,_,o,_,_,e,ex,_⟩:=I.aG p _ hk;exact⟨o,e,ex⟩
    ·obtain⟨_,_,_,_,o,_,_,e,ex,_⟩:=I.aG p _ hk;exact⟨o,e,ex⟩
   obtain⟨o,e,ex⟩:=z;refine⟨⟨o,e,ex.1⟩,fun a e2=>?_⟩;cases e2;exact⟨o,e,ex.2.1⟩
  ·obtain⟨o,_,_,_,e,ex,_⟩:=I.aG p _ hk;refine⟨⟨o,e,ex.1⟩,fun a e2=>?_⟩;cases e2;exact⟨o,e,ex.2.1⟩
  ·obtain⟨_,_,o,_,_,e,ex,_⟩:=I.aG p _ hk;refine⟨⟨o,e,ex.1⟩,fun a e2=>?_⟩;cases e2;exact⟨o,e,ex.2.1⟩
 | _=>exact adF ty
noncomputable def FK(K:aab)(T:String)(r:V->List V->Hp->VK->Prop)(to:TE)(t:TA):TE:=fun σ H Q=>to σ H fun x H1=>yG K T x H1/\t σ H1 fun xs H2=>r x xs H2 Q
variable{o e:Expr}{es:List Expr}{to:TE}{t:TA}{name:Str}{apos dW:Pos}{T id:String}{r:V->List V->Hp->VK->Prop}
theorem V4(pa:afE T)(slot:Slot T name id)(lj:typeOf (.builtin id)=pure (.type "method_descriptor"))(hm:pk X id r)(ho:PE X o to)(ha:PA X (e::es) t)
  (kO:aes o name X.env (eval o X.env)=eval o X.env:=by rfl)
  (yf:((adp dW (aaA (e::es) X.env)).all (fun x=> !x.1)&&(backToKw dW (keywordEach [] X.env)).all (fun x=>x.1.isSome)
   && decide ((e::es).length+([]:List Keyword).length+(if([]:List Keyword).isEmpty then 0 else 1)<30))=true:=by rfl)
  (kP:(apos.endLine==dW.line)=true:=by rfl) (hs:aaA (e::es) X.env=(false,eval e X.env)::aaA es X.env:=by rfl) (wR:(adp dW (aaA es X.env)).any (·.1)=false:=by rfl) :
  PE X (.Call (.Attribute o name apos) (e::es) [] dW) (FK X.K T r to t):=by
 intro pins s σ H Q I h;refine wpAny_Call_method_late kO yf kP rfl (aS (ho pins s σ H _ I h) fun v s1 ⟨x,H1,I1,r1,ty,q1⟩=>?_);obtain⟨h1,h2⟩:=TV I1 r1 ty;refine⟨T,id,pa,slot,lj,h1,h2,?_⟩;have hA:=ha dW pins s1 σ H1 _ I1 q1;rw[hs] at hA ⊢;refine Calls.callWith_builtin (by show(false||(adp dW (aaA es X.env)).any (·.1))=false;rw[wR] <;> rfl) (Calls.evalArgs_plain ?_);exact aS hA fun us s2 ⟨vs,H2,I2,r2,q2⟩=>hm pins s2 σ H2 x vs v us Q I2 r1 r2 q2
end
noncomputable def FL(X:Cx)(id:String)(r:V->List V->Hp->VK->Prop):Prop:=
 ∀(pins:List (Addr×Obj)) (s:aaf) (σ:St) (H:Hp) (x:V) (xs:List V) (v:Value) (us:List Value) (Q:VK),Inv X pins σ H s->RelV x v->Vals xs us->r x xs H Q →
  wpAny (model X.prog X.w) X.A (call (.builtin id) (v::us)) (EP X pins σ Q) X.xe s
theorem Vals.one{x:V}{us:List Value}(h:Vals [x] us):∃u,us=[u]/\RelV x u:=by
 cases h with
 | cons r t=>cases t;exact⟨_,rfl,r⟩
theorem Vals.two{x y:V}{us:List Value}(h:Vals [x,y] us):∃u v,us=[u,v]/\RelV x u/\RelV y v:=by
 cases h with
 | cons r t=>
  obtain⟨v,e,q⟩:=Vals.one t;subst e;exact⟨_,_,rfl,r,q⟩
theorem Vals.rep{xs:List V}{us:List Value}(h:Vals xs us):∀k:Nat,Vals (aay k xs).flatten (aay k us).flatten
 | 0=>.nil
 | k+1=>by
  rw[abJ,abJ,acq,acq];exact Vals.append h (Vals.rep h k)
theorem foldl_rep(its:List Value):∀(k:Nat) (acc:List Value),
  List.foldl (fun x1 x2=>x1++x2) acc.toArray (aay k its.toArray)=(acc++(aay k its).flatten).toArray
 | 0,acc=>by simp
 | k+1,acc=>by
  have e:acc.toArray++its.toArray=(acc++its).toArray:=by simp
  have e2:(acc++its)++(aay k its).flatten=acc++(aay (k+1) its).flatten:=by
   rw[abJ,acq,acI]
  rw[<- e2,<- foldl_rep its k (acc++its),<- e,abJ,List.foldl_cons]
section
variable{X:Cx}{pins:List (Addr×Obj)}{σ:St}{H:Hp}{s:aaf}{l b:Addr}{xs ys zs:List V}
theorem Inv.mI{its its':List Value}{n:Nat}{f:Array Value->Array Value}{t':Nat}(I:Inv X pins σ H s)(hH:H l=some (.lst xs))
  (e:s.heap.get? l=some { cls:=.type "list",data:=.seq its.toArray n }) (hf:f its.toArray=its'.toArray) (hv:Vals ys its') (hz:ys.length<=aas) :
  Inv X pins σ (upd H l (.lst ys)) { s with heap:=s.heap.update l (abC f),toks:=t' }:=by
 have q:=PySem.IsL.update e f;rw[hf] at q;refine I.write (x:=l) (e:=l) (by rw[hH];exact trivial) (.inl rfl) (fun b' u hb hu=>(abG s.heap (abC f) (abL hb)).trans hu) ⟨_,q⟩ ?_;exact⟨hz,its',_,hv,q⟩
theorem Inv.tj{its:List Value}{t':Nat}(I:Inv X pins σ H s)(hv:Vals ys its)(hz:ys.length<=aas) :
  Inv X pins σ (upd H s.heap.objs.size (.lst ys)) { s with heap:=s.heap.push { cls:=.type "list",data:=.seq its.toArray },toks:=t' }:=
 I.laid (fun _ _ q=>aad _ q) (aaj _) ⟨hz,its,0,hv,aat _ rfl⟩
theorem Inv.fresh(I:Inv X pins σ H s):H s.heap.objs.size=none:=I.aG.fresh (aaj _)
theorem Inv.mJ(I:Inv X pins σ H s)(hH:H l=some (.lst xs)):xs.length<=aas/\∃(its:List Value) (n:Nat),Vals xs its/\xs.length=its.length/\s.heap.get? l=some { cls:=.type "list",data:=.seq its.toArray n }:=by
 obtain⟨z,its,n,r,e⟩:=I.aG l _ hH;exact⟨z,its,n,r,r.length,e⟩
theorem By{n:Nat}(h:n<=aas):acr n=false:=by
 unfold acr;exact decide_eq_false (by omega)
end
section
variable{X:Cx}
noncomputable def Cf:V->List V->Hp->VK->Prop:=fun x vs H Q=>∃l xs y,x=.ref l/\vs=[y]/\H l=some (.lst xs)/\xs.length<aas/\Q .aO (upd H l (.lst (xs++[y])))
theorem js:FL X "list.append" Cf:=by
 intro pins s σ H x vs v us Q I rx rv h;obtain⟨l,xs,y,rfl,rfl,hH,hz,q⟩:=h;cases rx;obtain⟨u,rfl,ru⟩:=rv.one;obtain⟨z,its,n,r,hl,e⟩:=I.mJ hH;refine aeZ F.slot_list_append ⟨_,e,rfl⟩ F.entry_list_append (F.args_list_append_2 _ _) (PySem.list_append l its.toArray n u (by rw[aao];omega)) ⟨e,?_⟩;refine⟨.aO,_,I.mI (its':=its++[u]) hH e (by simp) (r.append (.cons ru .nil)) ?_,rfl,q⟩;rw[aaI,aeS];omega
noncomputable def Ru:V->List V->Hp->VK->Prop:=fun x vs H Q=>∃l b xs zs,x=.ref l/\vs=[.ref b]/\H l=some (.lst xs)/\H b=some (.lst zs)/\xs.length+zs.length<=aas/\Q .aO (upd H l (.lst (xs++zs)))
theorem Zz:FL X "list.extend" Ru:=by
 intro pins s σ H x vs v us Q I rx rv h;obtain⟨l,b,xs,zs,rfl,rfl,hH,hB,hz,q⟩:=h;cases rx;obtain⟨u,rfl,ru⟩:=rv.one;cases ru;obtain⟨z,its,n,r,hl,e⟩:=I.mJ hH;obtain⟨z2,iz,n2,r2,ce,e2⟩:=I.mJ hB;have hsz:its.toArray.size+iz.toArray.size<=sizeLine:=by rw[aao,aao];omega
 have xA:¬(!its.toArray.isEmpty&&acr (its.toArray.size+iz.toArray.size))=true:=by
  rw[By hsz,Bool.and_false];exact aaJ
 refine aeZ F.slot_list_extend ⟨_,e,rfl⟩ F.entry_list_extend (F.args_list_extend_2 _ _)
  (AutoSeq1.list_extend_list_list_0 l its.toArray n b iz.toArray n2 xA (by rw[aao];omega) (by omega)) ⟨e,e2,?_⟩
 refine⟨.aO,_,I.mI (its':=its++iz) hH e (by simp) (r.append r2) ?_,rfl,q⟩;rw[aaI];omega
noncomputable def EO:R2:=fun x y H Q=>∃l b xs zs,x=.ref l/\y=.ref b/\H l=some (.lst xs)/\H b=some (.lst zs)/\xs.length+zs.length<=aas/\∀p,H p=none->Q (.ref p) (upd H p (.lst (xs++zs)))
theorem TX:bf X (acR .Add) EO:=by
 intro pins s σ H x y v u Q I rx ry h;obtain⟨l,b,xs,zs,rfl,rfl,hH,hB,hz,q⟩:=h;cases rx;cases ry;obtain⟨z,its,n,r,hl,e⟩:=I.mJ hH;obtain⟨z2,iz,n2,r2,ce,e2⟩:=I.mJ hB;refine PySem.P.add_list e e2 ?_ (by rw[aao,aao];omega);have ea:its.toArray++iz.toArray=(its++iz).toArray:=by simp
 rw[ea];exact⟨.ref _,_,I.tj (t':=s.toks) (r.append r2) (by rw[aaI];omega),rfl,q _ I.fresh⟩
noncomputable def EQ:R2:=fun x y H Q=>∃l k xs,x=.ref l/\y=.int k/\H l=some (.lst xs)/\ -(2 ^ 63)<=k/\k<2 ^ 63/\xs.length*k.toNat<=aas /\
 ∀p,H p=none->Q (.ref p) (upd H p (.lst (aay k.toNat xs).flatten))
theorem len_rep{α:Type}(xs:List α)(k:Nat):(aay k xs).flatten.length=k*xs.length:=by
 induction k with
 | zero=>simp
 | succ k ih=>rw[abJ,acq,aaI,ih,Nat.succ_mul,aeT]
theorem TY:bf X (acR .Mult) EQ:=by
 intro pins s σ H x y v u Q I rx ry h;obtain⟨l,k,xs,rfl,rfl,hH,h1,h2,hz,q⟩:=h;cases rx;obtain⟨t,rfl⟩:=ry;obtain⟨z,its,n,r,hl,e⟩:=I.mJ hH;have bU:its.toArray.size*k.toNat<=sizeLine:=by rw[aao,<- hl];exact hz
 have Xh:¬its.toArray.size*k.toNat>(2 ^ 63-1) / 8:=by
  have:(aas:Nat)<=(2 ^ 63-1) / 8:=by decide
  omega
 have Xi:¬(!Builtin.List.listFitsIndex k)=true:=by
  rw[fitsIndex_both h1 h2];exact aaJ
 have xA:¬acr (its.toArray.size*k.toNat)=true:=by
  rw[By bU];exact aaJ
 have oM:List.foldl (fun x1 x2=>x1++x2) #[] (aay (if its.toArray.isEmpty=true then 0 else k.toNat) its.toArray)=(aay k.toNat its).flatten.toArray:=by
  have f0:∀m:Nat,List.foldl (fun x1 x2=>x1++x2) #[] (aay m its.toArray)=(aay m its).flatten.toArray:=fun m=>by
   have:=foldl_rep its m [];rw[List.nil_append] at this;exact this
  rw[f0];cases its with
  | nil=>simp
  | cons a r'=>rw[if_neg (by simp)]
 refine wpAny_binaryOp_repeat_ref (T:="list") (U:="int") (by decide) ⟨_,e,rfl⟩ (fun s'=>typeIs_int s' k t) noFill_list_mul F.fills_int_mul F.slot_int_rmul repeat_list F.slot_int_index.lookup
  (aeZ F.slot_int_rmul (typeIs_int s k t) F.entry_int_rmul (F.args_int_rmul_2 _ _) (int___rmul___int_list k t l its.toArray n)
   ⟨e,rfl,⟨_,e,rfl⟩,aeZ F.slot_list_mul ⟨_,e,rfl⟩ F.entry_list_mul (F.args_list_mul_2 _ _) (AutoListH.list___mul___list_int_3 l its.toArray n k t Xi Xh xA) ⟨e,?_⟩⟩)
 rw[oM];exact⟨.ref _,_,I.tj (t':=s.toks) (r.rep k.toNat) (by rw[len_rep,Nat.mul_comm];exact hz),rfl,q _ I.fresh⟩
end
end L2
namespace FN
open PySem PySem.W PySem.Calls PyProof.Rows
theorem Kr{P:Params}{h:Heap}:∀(ns:List Int) (vs:List Value),WellAll P h vs (ns.map WData.int)->aeR vs ns:=by
 intro ns
 induction ns with
 | nil=>
  intro vs w;rw[adq] at w;cases w;exact .nil
 | cons n ns ih=>
  intro vs w;rw[aaB] at w;cases w with
  | cons a b=>
   cases a;exact .cons _ _ (ih _ b)
theorem O7{l:OpenLaw}{n:Nat}(hn:l.most=some n){P:Params}{h:Heap}{args:List WData}{vals:List Value}
  (tm:l.row.toRowW.claim.pre args=true) (ng:WellAll P h vals args) :
  ∃a vs ns,vals=[abc a]/\args=[WData.list (ns.map WData.int)]/\h.get? a=some { cls:=.type "list",data:=.seq vs.toArray }/\aeR vs ns/\ns.length<=n:=by
 have XZ:WShape.hasAll [] args [.list .int]=true:=(pre_splitW tm).1;have hc:l.pre.holds [] { args:=args }=true:=(pre_splitW tm).2;obtain⟨d,r,rfl,h1,h2⟩:=hasAllW_cons XZ;obtain rfl:=hasAllW_nil h2;obtain⟨xs,rfl,h3⟩:=hasW_list h1;obtain⟨ns,rfl⟩:=items_int h3;have bU:ns.length<=n:=by
  unfold OpenLaw.pre at hc;have h4:(WTm.not (.lt (.lit (.int n)) (.len (.arg 0)))).holds [] { args:=[.list (ns.map .int)] }=true:=by
   have h4:=(holds_andW hc).1;rw[hn] at h4;exact h4
  have h5:=condW_of h4 (w_not (w_lt w_lit (w_len_list (w_arg rfl))));rw[aag] at h5;refine Nat.le_of_not_lt fun q=>?_
  have q':(n:Int)<((ns.length:Nat):Int):=by omega
  first
   | (rw[decide_eq_true q'] at h5;exact absurd h5 (by decide))
   | (simp at h5;omega)
 cases ng with
 | cons w1 w2=>
  cases w2;cases w1 with
  | list ho oN=>exact⟨_,_,ns,rfl,rfl,ho,Kr ns _ oN,bU⟩
theorem O8(l:OpenLaw)(args:List WData):l.row.toRowW.claim.post args (.bool true) args=true:=
 postW_of (r:=l.row.toRowW) (X:=(true==true))
  (show WShape.has [] (.bool true) .bool=true by first | rfl | decide | simp[WShape.has,WShape.arms,WShape.armsAll])
  (show(WTm.eq .res (.lit (.bool true))).value [] { args:=args,res:=some (.bool true),after:=args }=some (.bool (true==true)) from w_eq_bool (w_res rfl) w_lit) rfl
theorem Nb{l:OpenLaw}{n:Nat}{q:aba}{loose:List Str}{XP:(Str->Option Value)->Heap->Prop}{YP:World->Heap->Prop}{d:DefRec}
  (hn:l.most=some n) (pq:d.params.defaults=[])
  (call:∀(w:World) (aE bv:aaf) (mg mb:Str->Option Value) (fa:Addr) (o:Obj) (pm cd doc:Value) (a:Addr) (vs:List Value) (ns:List Int),
   Ground q loose [] XP w aE mg mb bv.heap->YP w bv.heap →
   bv.heap.get? fa=some o->o.data=.func (docDef d.name d.params d.body d.scope pm cd doc)->bv.heap.CodeRec cd d.name->mg d.name=some (.ref fa) →
   bv.heap.get? a=some { cls:=.type "list",data:=.seq vs.toArray }->aeR vs ns->ns.length<=n->bv.gens= #[] →
   afB (model l.prog w) callerA (.call (.ref fa) ⟨[.ref a],[]⟩) (fun r s'=>r=.ok (.ret (.bool true))/\OldK bv.heap s'.heap/\s'.os=bv.os/\aeM s'.gens) bv) :
  WalkO q loose XP YP l.row.toRowW d [] (fun f vs=>PySem.call f vs):=by
 intro w aE bv mg mb G Y fa o pm cd doc dV kV ho hd hcd hD hmg hg args vals as tm ZF ZN ng X0;obtain rfl:dV=.none:=Dflts.none hD pq;obtain rfl:kV=.none:=Dflts.noKw hD;obtain⟨a,vs,ns,rfl,rfl,yg,xB,bU⟩:=O7 hn tm ng;refine enter_call (aeU (call w aE bv mg mb fa o pm cd doc a vs ns G Y ho (fd_plain hd) hcd hmg yg xB bU hg) fun r s' hq=>?_);obtain⟨rfl,h2,h3,h4⟩:=hq;exact⟨.inl ⟨.bool true,.bool true,[],rfl,fun _=>rfl,.bool true,O8 l _,fun _=>⟨List.Pairwise.nil,fun _ hm=>(nomatch hm)⟩⟩,h2,h3,h4⟩
end FN
namespace L2
open PySem PySem.Spec PyProof.Rows
theorem A2:∀{vs:List Value} {ns:List Int},aeR vs ns->Vals (ns.map V.int) vs
 | _,_,.nil=>.nil
 | _,_,.cons n t h=>.cons ⟨t,rfl⟩ (A2 h)
noncomputable def cx(s:Stmt):Arguments:=match s with
 | .FunctionDef _ a _ _ _ _ _ _ _ _=>a
 | _=>{ posonlyargs:=[],args:=[],vararg:=none,kwonlyargs:=[],kw_defaults:=[],kwarg:=none,defaults:=[] }
noncomputable def bg(s:Stmt):List Stmt:=match s with
 | .FunctionDef _ _ b _ _ _ _ _ _ _=>b
 | _=>[]
noncomputable def ag(s:Stmt):Scope:=match s with
 | .FunctionDef _ _ _ _ _ _ sc _ _ _=>sc
 | _=>{ kind:=.function,names:=[],isGenerator:=false,isCoroutine:=false }
structure cz(K:aab)(x qual:Str)(st:Stmt)(f:Addr)(fd:aaS):Prop where
 ex:∃(oc:Value) (od:Option Addr) (kV doc pm:Value) (an:Option Addr) (cj ct:Value) (jZ:Array (Option Value)),
  fd=aaD x qual (cx st) (bg st) (ag st) .none kV doc pm an cj ct/\K.lookup f=some ⟨oc,od,.func fd,jZ⟩/\aaz K cj qual=true
 kp:aax K (.ref f)=true
section
variable{P:aba}{w:World}{K:aab}{mg:Str->Option Value}{base:Heap}
theorem cz.binds{x qual:Str}{st:Stmt}{f:Addr}{fd:aaS}{ps:List Str}(F:cz K x qual st f fd)
  (h:∀(kV doc pm:Value) (an:Option Addr) (cj ct:Value) (us:List Value),us.length=ps.length->bindArgs (aaD x qual (cx st) (bg st) (ag st) .none kV doc pm an cj ct) ⟨us,[]⟩=pure (ps.zip us)):Binds K fd ps []:=by
 obtain⟨oc,od,kV,doc,pm,an,cj,ct,jZ,rfl,lk,hcd⟩:=F.ex;exact .all (h kV doc pm an cj ct)
theorem cY{x qual:Str}{st:Stmt}{f:Addr}{oc:Value}{od an:Option Addr}{jZ:Array (Option Value)}{kV doc pm cj ct:Value}(l:K.lookup f=some ⟨oc,od,.func (aaD x qual (cx st) (bg st) (ag st) .none kV doc pm an cj ct),jZ⟩)
  (c:aaz K cj qual=true) (k:aax K (.ref f)=true):cz K x qual st f (aaD x qual (cx st) (bg st) (ag st) .none kV doc pm an cj ct):=⟨⟨oc,od,kV,doc,pm,an,cj,ct,jZ,rfl,l,c⟩,k⟩
end
theorem su{A:acm}{k:Nat}(hr:dq k A):A.units+1<cLine:=Nat.lt_of_le_of_lt (Nat.add_le_add_left (by decide:1<=64) _) hr.units
theorem mK{A B:Prop}(h:B):if false=true then A else B:=by
 rw[if_neg aaJ];exact h
theorem mL{A B:Prop}(h:A):if true=true then A else B:=by
 rw[if_pos rfl];exact h
section
variable{κ:Type}[DecidableEq κ]
noncomputable def gj(kvs:List (κ×V))(k:κ):Option V:=(kvs.find? fun kv=>decide (kv.1=k)).map (·.2)
noncomputable def putK(kvs:List (κ×V))(k:κ)(v:V):List (κ×V):=
 if(kvs.any fun kv=>decide (kv.1=k))=true then kvs.map (fun kv=>if kv.1=k then(kv.1,v) else kv) else kvs++[(k,v)]
theorem nM{p:κ×V}{r:List (κ×V)}{k:κ}(e:p.1=k):gj (p::r) k=some p.2:=by simp[gj,abM,e]
theorem nN{p:κ×V}{r:List (κ×V)}{k:κ}(e:¬p.1=k):gj (p::r) k=gj r k:=by simp[gj,abM,e]
theorem Bz(k:κ):∀kvs:List (κ×V),(kvs.any fun kv=>decide (kv.1=k))=(gj kvs k).isSome
 | []=>rfl
 | p::r=>by
  rw[abp];by_cases e:p.1=k
  ·simp only[nM e,decide_eq_true e,Bool.true_or,Option.isSome_some]
  ·rw[nN e,decide_eq_false e,Bool.false_or];exact Bz k r
theorem nE(kvs:List (κ×V))(k:κ)(v:V):(putK kvs k v).length<=kvs.length+1:=by
 unfold putK;split
 ·rw[aag];omega
 ·rw[aaI,abE,List.length_nil];omega
theorem ix.nI{o:Option V}{u:Option Value}(r:ix o u):o.isSome=u.isSome:=by
 cases o with
 | none=>cases u with
  | none=>rfl
  | some _=>exact(show False from r).elim
 | some _=>cases u with
  | none=>exact(show False from r).elim
  | some _=>rfl
theorem KV.val{kvs:List (κ×V)}{vs:List (κ×Value)}(r:KV kvs vs)(k:κ):ix (gj kvs k) (afF vs k):=by
 unfold KV at r
 induction r with
 | nil=>exact acs
 | @cons p q ps qs h t ih=>
  obtain⟨h1,h2⟩:=h;by_cases e:p.1=k
  ·have e':q.1=k:=h1.symm.trans e;have b:afF (q::qs) k=some q.2:=by simp[afF,abM,e']
   rw[nM e,b];exact h2
  ·have e':¬q.1=k:=fun z=>e (h1.trans z)
   have b:afF (q::qs) k=afF qs k:=by simp[afF,abM,e']
   rw[nN e,b];exact ih
theorem KV.any{kvs:List (κ×V)}{vs:List (κ×Value)}(r:KV kvs vs)(k:κ):(kvs.any fun kv=>decide (kv.1=k))=vs.any fun kv=>decide (kv.1=k):=by
 unfold KV at r
 induction r with
 | nil=>rfl
 | cons h t ih=>rw[abp,abp,ih,h.1]
theorem KV.gQ{kvs:List (κ×V)}{vs:List (κ×Value)}(r:KV kvs vs)(k:κ){y:V}{u:Value}(ry:RelV y u) :
  KV (kvs.map fun kv=>if kv.1=k then(kv.1,y) else kv) (vs.map fun kv=>if kv.1=k then(kv.1,u) else kv):=by
 unfold KV at r ⊢
 induction r with
 | nil=>exact .nil
 | @cons p q ps qs h t ih=>
  rw[aaB,aaB];refine .cons ?_ ih;obtain⟨h1,h2⟩:=h;by_cases e:p.1=k
  ·rw[if_pos e,if_pos (h1.symm.trans e)];exact⟨h1,ry⟩
  ·rw[if_neg e,if_neg (fun z=>e (h1.trans z))];exact⟨h1,h2⟩
theorem KV.put{kvs:List (κ×V)}{vs:List (κ×Value)}(r:KV kvs vs)(k:κ){y:V}{u:Value}(ry:RelV y u):KV (putK kvs k y) (stored vs k u):=by
 unfold putK stored;rw[r.any k];by_cases e:(vs.any fun kv=>decide (kv.1=k))=true
 ·rw[if_pos e,if_pos e];exact r.gQ k ry
 ·rw[if_neg e,if_neg e];exact Paired.snoc r ⟨rfl,ry⟩
theorem KV.keys{kvs:List (κ×V)}{vs:List (κ×Value)}(r:KV kvs vs):kvs.map (·.1)=vs.map (·.1):=by
 unfold KV at r
 induction r with
 | nil=>rfl
 | cons h t ih=>rw[aaB,aaB,ih,h.1]
theorem KV.length{kvs:List (κ×V)}{vs:List (κ×Value)}(r:KV kvs vs):kvs.length=vs.length:=adB r
end
variable{u:Value}
theorem kQ{P:aba}{w:World}{k:Key}(r:RelV (kV k) u):(cL P w).is k u=true:=by
 cases k with
 | inl i=>obtain⟨t,e⟩:=(show ∃t,u=afO i t from r);subst e;exact M9 P w i t
 | inr x=>obtain⟨t,e⟩:=(show ∃t,u=afP x t from r);subst e;exact Na P w x t
theorem A3{P:aba}{w:World}:∀{ks:List Key} {us:List Value},Vals (ks.map kV) us->ItemsAre (cL P w) ks us
 | [],_,r=>by rw[adq] at r;cases r;exact .nil
 | k::ks,_,r=>by
  rw[aaB] at r;cases r with
  | cons h t=>exact .cons (kQ h) (A3 t)
abbrev KT(H:Hp):List (List Key×V)->List (List Key×Addr×Value)->Prop:=adj fun p q=>p.1=q.1/\H q.2.1=some (.tup (p.1.map kV))/\RelV p.2 q.2.2
variable{H:Hp}{kvs:List (List Key×V)}{xs:List (List Key×Addr×Value)}
theorem KT.val(r:KT H kvs xs)(k:List Key):ix (gj kvs k) ((atKey xs k).map (·.2)):=by
 induction r with
 | nil=>exact acs
 | @cons p q ps qs h t ih=>
  obtain⟨h1,_,h2⟩:=h;by_cases e:p.1=k
  ·have e':q.1=k:=h1.symm.trans e;have b:atKey (q::qs) k=some q.2:=by simp[atKey,abM,e']
   rw[nM e,b];exact h2
  ·have e':¬q.1=k:=fun z=>e (h1.trans z)
   have b:atKey (q::qs) k=atKey qs k:=by simp[atKey,abM,e']
   rw[nN e,b];exact ih
variable{y:V}
theorem KT.gQ(r:KT H kvs xs)(k:List Key)(ry:RelV y u) :
  KT H (kvs.map fun kv=>if kv.1=k then(kv.1,y) else kv) (xs.map (putAt k u)):=by
 induction r with
 | nil=>exact .nil
 | @cons p q ps qs h t ih=>
  rw[aaB,aaB];refine .cons ?_ ih;obtain⟨h1,h2,h3⟩:=h;unfold putAt;by_cases e:p.1=k
  ·rw[if_pos e,if_pos (h1.symm.trans e)];exact⟨h1,h2,ry⟩
  ·rw[if_neg e,if_neg (fun z=>e (h1.trans z))];exact⟨h1,h2,h3⟩
theorem KT.put(r:KT H kvs xs)(k:List Key){b:Addr}(hb:H b=some (.tup (k.map kV)))(ry:RelV y u) :
  KT H (putK kvs k y) (storedH xs k b u):=by
 have e:(kvs.any fun kv=>decide (kv.1=k))=(atKey xs k).isSome:=by
  rw[Bz,(r.val k).nI,aek]
 unfold putK storedH;rw[e];by_cases q:(atKey xs k).isSome=true
 ·rw[if_pos q,if_pos q];exact r.gQ k ry
 ·rw[if_neg q,if_neg q];exact Paired.snoc r ⟨rfl,hb,ry⟩
theorem KT.keeps{H':Hp}(r:KT H kvs xs)(ht:∀b ys,H b=some (.tup ys)->H' b=some (.tup ys)):KT H' kvs xs:=
 adj.jG r fun _ _ z=>⟨z.1,ht _ _ z.2.1,z.2.2⟩
section
variable{P:aba}{w:World}{H:Hp}{h:Heap}{a:Addr}
theorem D0{u:HO}(ok:cc P w H h)(e:Rd H a u):cI P w H h a u:=e.ok ok
theorem oj{kvs:List (Key×V)}(ok:cc P w H h)(e:Rd H a (.dK kvs)):kvs.length<=aas/\(a==acg)=false/\∃vs,KV kvs vs/\h.DictOf (cL P w) a vs:=
 show cI P w H h a (.dK kvs) from D0 ok e
theorem kR{kvs:List (Key×V)}(ok:cc P w H h)(e:H a=some (.dK kvs)):kvs.length<=aas/\(a==acg)=false/\∃vs,KV kvs vs/\h.DictOf (cL P w) a vs:=oj ok (.inl e)
theorem me{ks:List Key}(ok:cc P w H h)(e:H a=some (.tup (ks.map kV))):(afr (cL P w)).is h ks a:=by
 obtain⟨_,its,r,o,h1,h2,n,h3⟩:=(show cI P w H h a (.tup (ks.map kV)) from ok a _ e)
 exact⟨o,its.toArray,n,h1,h2,h3,by simpa using A3 r⟩
theorem om{kvs:List (List Key×V)}(ok:cc P w H h)(e:Rd H a (.dT kvs)):kvs.length<=aas/\(a==acg)=false /\
  ∃xs,KT H kvs xs/\h.DictOfH (afr (cL P w)) a xs:=by
 obtain⟨z,y,xs,r,o,es,ep,h1,h2,h3,h4,h5⟩:=(show cI P w H h a (.dT kvs) from D0 ok e)
 refine⟨z,y,xs,r,o,es,ep,h1,h2,h3,h4,fun x hx=>?_,h5⟩;have all:∀{l:List (List Key×V)} {m:List (List Key×Addr×Value)},KT H l m->∀x∈m,(afr (cL P w)).is h x.1 x.2.1:=by
  intro l m q
  induction q with
  | nil=>intro x hx;exact nomatch hx
  | @cons p q ps qs hq t ih=>
   intro x hx
   rcases aav.mp hx with e | hx
   ·subst e;exact me ok (by rw[<- hq.1];exact hq.2.1)
   ·exact ih x hx
 exact all r x hx
theorem sx{kvs:List (List Key×V)}(ok:cc P w H h)(e:H a=some (.dT kvs)):kvs.length<=aas/\(a==acg)=false /\
  ∃xs,KT H kvs xs/\h.DictOfH (afr (cL P w)) a xs:=om ok (.inl e)
end
noncomputable def gR(H:Hp)(a:Addr)(y:V)(r:Option V):Prop:=
 (∃kvs k,Rd H a (.dK kvs)/\y=kV k/\r=gj kvs k)\/∃kvs k b,Rd H a (.dT kvs)/\y=.ref b/\H b=some (.tup (k.map kV))/\r=gj kvs k
noncomputable def k4(H:Hp)(a:Addr)(y v:V)(H':Hp):Prop:=
 (∃kvs k,H a=some (.dK kvs)/\y=kV k/\kvs.length<aas/\H'=upd H a (.dK (putK kvs k v))) \/
 ∃kvs k b,H a=some (.dT kvs)/\y=.ref b/\H b=some (.tup (k.map kV))/\kvs.length<aas/\H'=upd H a (.dT (putK kvs k v))
section
variable{X:Cx}{pins:List (Addr×Obj)}{σ:St}{H:Hp}{s:aaf}{a:Addr}{y v:V}{u r:Value}{o:Option V}{A:acm}{E:Value->aaf->Prop}
theorem Inv.big(I:Inv X pins σ H s):acg<s.heap.objs.size:=by
 have h:aam<s.heap.objs.size:=(I.mod.glob.keeps I.bk).lt;exact Nat.lt_trans (by decide) h
variable{Q:Value->aaf->Prop}
theorem O9(hu:A.units+1<cLine)(I:Inv X pins σ H s)(g:gR H a y (some v))(ry:RelV y u)(h:∀w' s',Inv X pins σ H s'->RelV v w'->Q w' s') :
  wpAny (model X.prog X.w) A (afl (.ref a) u) Q E s:=by
 rcases g with⟨kvs,k,e,ey,l⟩ | ⟨kvs,k,b,e,ey,eb,l⟩
 ·subst ey;obtain⟨z,hd,vs,rel,dd⟩:=oj I.aG e;obtain⟨w',hw,eZ⟩:=ix.some_of (v:=v) (o:=afF vs k) (by rw[l];exact rel.val k);exact wpAny_getItem_of (kQ ry) dd.mapOf hw (h w' _ (I.tok _) eZ)
 ·subst ey;cases(show u=abc b from ry);obtain⟨z,hd,xs,rel,dd⟩:=om I.aG e;obtain⟨w',hw,eZ⟩:=ix.some_of (v:=v) (o:=(atKey xs k).map (·.2)) (by rw[l];exact rel.val k);obtain⟨p,hp,X1⟩:=aap.mp hw;refine wpAny_getItem_heap (adg hu) (me I.aG eb) dd hp ?_;rw[X1];exact h w' _ (I.tok _) eZ
theorem yh(hu:A.units+1<cLine)(I:Inv X pins σ H s)(g:gR H a y o)(ry:RelV y u)(h:∀s',Inv X pins σ H s'->Q (.bool o.isSome) s') :
  wpAny (model X.prog X.w) A (aaX .In u (.ref a)) Q E s:=by
 rcases g with⟨kvs,k,e,ey,l⟩ | ⟨kvs,k,b,e,ey,eb,l⟩
 ·subst ey;obtain⟨z,hd,vs,rel,dd⟩:=oj I.aG e;refine wpAny_in_of (kQ ry) hd dd.mapOf ?_;rw[<- (rel.val k).nI,<- l];exact h _ (I.tok _)
 ·subst ey;cases(show u=abc b from ry);obtain⟨z,hd,xs,rel,dd⟩:=om I.aG e;refine wpAny_in_heap (adg hu) (me I.aG eb) hd dd ?_;have q:=(rel.val k).nI;rw[aek] at q;rw[<- q,<- l];exact h _ (I.tok _)
theorem wB(hu:A.units+1<cLine)(I:Inv X pins σ H s)(g:gR H a y o)(ry:RelV y u)(h:∀s',Inv X pins σ H s'->Q (.bool (!o.isSome)) s') :
  wpAny (model X.prog X.w) A (aaX .NotIn u (.ref a)) Q E s:=by
 rcases g with⟨kvs,k,e,ey,l⟩ | ⟨kvs,k,b,e,ey,eb,l⟩
 ·subst ey;obtain⟨z,hd,vs,rel,dd⟩:=oj I.aG e;refine wpAny_notIn_of (kQ ry) hd dd.mapOf ?_;rw[<- (rel.val k).nI,<- l];exact h _ (I.tok _)
 ·subst ey;cases(show u=abc b from ry);obtain⟨z,hd,xs,rel,dd⟩:=om I.aG e;refine wpAny_notIn_heap (adg hu) (me I.aG eb) hd dd ?_;have q:=(rel.val k).nI;rw[aek] at q;rw[<- q,<- l];exact h _ (I.tok _)
theorem nR{h':Heap}{t':Nat}{ob:HO}(I:Inv X pins σ H s)(mu:jc (H a))(hs:acz a s.heap h')(he:∃q,h'.get? a=some q)(new:cI X.prog X.w (upd H a ob) h' a ob) :
  Inv X pins σ (upd H a ob) { s with heap:=h',toks:=t' }:=
 I.write (x:=a) (e:=a) mu (.inl rfl) (fun b q hb z=>(hs.2 b hb).trans z) he new
theorem wU{P:aba}{w:World}{H':Hp}{h':Heap}{kvs:List (Key×V)}{vs:List (Key×Value)}(z:kvs.length<=aas)(hd:(a==acg)=false)(rel:KV kvs vs)(dd:h'.DictOf (cL P w) a vs) :
  cI P w H' h' a (.dK kvs):=⟨z,hd,vs,rel,dd⟩
theorem vC{H':Hp}{Q:Unit->aaf->Prop}(hu:A.units+1<cLine)(I:Inv X pins σ H s)(g:k4 H a y v H')(ry:RelV y u)(rv:RelV v r)(h:∀s',Inv X pins σ H' s'->Q () s') :
  wpAny (model X.prog X.w) A (setItem (.ref a) u r) Q E s:=by
 rcases g with⟨kvs,k,e,ey,l,eH⟩ | ⟨kvs,k,b,e,ey,eb,l,eH⟩
 ·subst ey eH;obtain⟨z,hd,vs,rel,dd⟩:=kR I.aG e;have hz:vs.length<=sizeLine:=by rw[<- rel.length];exact z
  have hl:(putK kvs k v).length<=sizeLine:=by have:=nE kvs k v;omega
  refine wpAny_setItem_pairs (hsz:=hz) (kQ ry) dd fun h' gu hs=>h _ ?_
  have he:∃q,h'.get? a=some q:=let ⟨q,_,_,hq,_⟩:=gu;⟨q,hq⟩
  exact nR I (by rw[e];exact acs) hs he (wU hl hd (rel.put k rv) gu)
 ·subst ey eH;cases(show u=abc b from ry);obtain⟨z,hd,xs,rel,dd⟩:=sx I.aG e;have hz:xs.length<=sizeLine:=by rw[<- adB rel];exact z
  have hl:(putK kvs k v).length<=sizeLine:=by have:=nE kvs k v;omega
  refine wpAny_setItem_heap (hsz:=hz) (adg hu) (me I.aG eb) dd fun h' gu hs=>h _ ?_
  obtain⟨q,es,ep,hq,h2,h3,h4,_,h5⟩:=gu;refine nR I (by rw[e];exact acs) hs ⟨q,hq⟩ ⟨hl,hd,_,(rel.put k eb rv).keeps fun c ys ec=>?_,q,es,ep,hq,h2,h3,h4,h5⟩;rw[aW (il ec e (fun z=>nomatch z))];exact ec
end
variable{X:Cx}
theorem Nc{pins:List (Addr×Obj)}{σ:St}{s:aaf}{a:Addr}{o:Option V}(I:Inv X pins σ H s)(g:gR H a y o):s.TypeIs (.ref a) "dict":=by
 rcases g with⟨kvs,k,e,_,_⟩ | ⟨kvs,k,b,e,_,_,_⟩
 ·obtain⟨_,_,vs,_,dd⟩:=oj I.aG e;exact dd.typeIs
 ·obtain⟨_,_,xs,_,dd⟩:=om I.aG e;exact dd.typeIs
theorem Qv{P:aba}{w:World}(h:Heap)(hb:acg<h.objs.size):cI P w H (h.push { cls:=.type "dict",data:=.dict #[] }) h.objs.size (.dK []):=
 ⟨abB _,beq_eq_false_iff_ne.mpr (abL (aaQ hb)),[],.nil,afR h⟩
noncomputable def wV:List (TE×TE)->St->Hp->(List (V×V)->Hp->Prop)->Prop
 | [],_,H,Q=>Q [] H
 | (tk,tv)::r,σ,H,Q=>tk σ H fun x H1=>tv σ H1 fun y H2=>wV r σ H2 fun ps H3=>Q ((x,y)::ps) H3
abbrev VV:List (V×V)->List (Value×Value)->Prop:=adj fun p q=>RelV p.1 q.1/\RelV p.2 q.2
noncomputable def ue(X:Cx)(pos:Pos)(keys:List (Option Expr))(values:List Expr)(trs:List (TE×TE)):Prop:=
 ∀(pins:List (Addr×Obj)) (s:aaf) (σ:St) (H:Hp) (Q:List (V×V)->Hp->Prop),Inv X pins σ H s->wV trs σ H Q →
  wpAny (model X.prog X.w) X.A (evalPairs (pairTrees keys values X.env pos)) (fun vs s'=>∃ps H',Inv X pins σ H' s'/\VV ps vs/\Q ps H') X.xe s
theorem Rv{pos:Pos}:ue X pos [] [] []:=fun pins s σ H Q I h=>pairTrees_nil_walk ⟨[],H,I,.nil,h⟩
theorem BA{pos:Pos}{k v:Expr}{ks:List (Option Expr)}{vs:List Expr}{tk tv:TE}{trs:List (TE×TE)}(hk:PE X k tk)(hv:PE X v tv)(hr:ue X pos ks vs trs) :
  ue X pos (some k::ks) (v::vs) ((tk,tv)::trs):=fun pins s σ H Q I h=>
 pairTrees_cons_walk (aS (hk pins s σ H _ I h) fun u s1 ⟨x,H1,I1,rx,q1⟩=>aS (hv pins s1 σ H1 _ I1 q1) fun w2 s2 ⟨y,H2,I2,ry,q2⟩=>
  aS (hr pins s2 σ H2 _ I2 q2) fun ws s3 ⟨ps,H3,I3,rel,q3⟩=>⟨(x,y)::ps,H3,I3,.cons ⟨rx,ry⟩ rel,q3⟩)
noncomputable def n4(kvs more:List (Key×V)):List (Key×V):=more.foldl (fun acc kv=>putK acc kv.1 kv.2) kvs
theorem KV.merge:∀{more:List (Key×V)} {rs:List (Key×Value)} {kvs:List (Key×V)} {vs:List (Key×Value)},KV more rs->KV kvs vs->KV (n4 kvs more) (merged vs rs):=by
 intro more rs kvs vs r;unfold KV at r
 induction r generalizing kvs vs with
 | nil=>intro q;exact q
 | @cons p q ps qs h t ih=>
  intro r0;have e:KV (putK kvs p.1 p.2) (stored vs q.1 q.2):=by
   have:=r0.put p.1 h.2;rw[<- h.1];exact this
  exact ih e
theorem Ad:∀(more kvs:List (Key×V)),(n4 kvs more).length<=kvs.length+more.length
 | [],kvs=>by show kvs.length<=kvs.length+0;omega
 | p::r,kvs=>by
  have h1:=Ad r (putK kvs p.1 p.2);have h2:=nE kvs p.1 p.2;show(n4 (putK kvs p.1 p.2) r).length<=_;rw[abE];omega
theorem AH{P:aba}{w:World}:∀{kvs:List (Key×V)} {ws:List (Value×Value)},VV (kvs.map fun kv=>(kV kv.1,kv.2)) ws->∃rs,Carries (cL P w) ws rs/\KV kvs rs
 | [],_,r=>by rw[adq] at r;cases r;exact⟨[],acs,.nil⟩
 | p::kvs,_,r=>by
  rw[aaB] at r;cases r with
  | @cons a b as bs h t=>
   obtain⟨rs,c,q⟩:=AH (P:=P) (w:=w) t;obtain⟨b1,b2⟩:=b;exact⟨(p.1,b2)::rs,⟨kQ h.1,rfl,c⟩,.cons ⟨rfl,h.2⟩ q⟩
end L2
namespace IL
open PySem PySem.Spec PyProof.Rows L2
inductive W where
 | aO | bl (b:Bool) | int (i:Int) | str (x:Str) | tup (ws:List W) | fl (ws:List W) | ref (i:Nat) | exc (c:Str) (ns:List Str) (ws:List W) | fn (x:Str) (ws:List W) | kt (ws:List W)
mutual
noncomputable def W.dec:(a b:W)->Decidable (a=b)
 | .aO,.aO=>aaH rfl
 | .bl a,.bl b=>if h:a=b then aaH (by rw[h]) else aal (fun e=>h (W.bl.inj e))
 | .int a,.int b=>if h:a=b then aaH (by rw[h]) else aal (fun e=>h (W.int.inj e))
 | .str a,.str b=>if h:a=b then aaH (by rw[h]) else aal (fun e=>h (W.str.inj e))
 | .tup a,.tup b=>match W.mM a b with
  | aaH h=>aaH (by rw[h])
  | aal h=>aal (fun e=>h (W.tup.inj e))
 | .fl a,.fl b=>match W.mM a b with
  | aaH h=>aaH (by rw[h])
  | aal h=>aal (fun e=>h (W.fl.inj e))
 | .ref a,.ref b=>if h:a=b then aaH (by rw[h]) else aal (fun e=>h (W.ref.inj e))
 | .exc c ns a,.exc c' fW b=>match W.mM a b with
  | aaH h=>if h1:c=c' then if h2:ns=fW then aaH (by rw[h,h1,h2]) else aal (fun e=>h2 (W.exc.inj e).2.1) else aal (fun e=>h1 (W.exc.inj e).1)
  | aal h=>aal (fun e=>h (W.exc.inj e).2.2)
 | .fn c a,.fn c' b=>match W.mM a b with
  | aaH h=>if h1:c=c' then aaH (by rw[h,h1]) else aal (fun e=>h1 (W.fn.inj e).1)
  | aal h=>aal (fun e=>h (W.fn.inj e).2)
 | .kt a,.kt b=>match W.mM a b with
  | aaH h=>aaH (by rw[h])
  | aal h=>aal (fun e=>h (W.kt.inj e))
 | .aO,.bl _ | .aO,.int _ | .aO,.str _ | .aO,.tup _ | .aO,.fl _ | .aO,.ref _ | .aO,.exc _ _ _=>aal (fun e=>nomatch e)
 | .bl _,.aO | .bl _,.int _ | .bl _,.str _ | .bl _,.tup _ | .bl _,.fl _ | .bl _,.ref _ | .bl _,.exc _ _ _=>aal (fun e=>nomatch e)
 | .int _,.aO | .int _,.bl _ | .int _,.str _ | .int _,.tup _ | .int _,.fl _ | .int _,.ref _ | .int _,.exc _ _ _=>aal (fun e=>nomatch e)
 | .str _,.aO | .str _,.bl _ | .str _,.int _ | .str _,.tup _ | .str _,.fl _ | .str _,.ref _ | .str _,.exc _ _ _=>aal (fun e=>nomatch e)
 | .tup _,.aO | .tup _,.bl _ | .tup _,.int _ | .tup _,.str _ | .tup _,.fl _ | .tup _,.ref _ | .tup _,.exc _ _ _=>aal (fun e=>nomatch e)
 | .fl _,.aO | .fl _,.bl _ | .fl _,.int _ | .fl _,.str _ | .fl _,.tup _ | .fl _,.ref _ | .fl _,.exc _ _ _=>aal (fun e=>nomatch e)
 | .ref _,.aO | .ref _,.bl _ | .ref _,.int _ | .ref _,.str _ | .ref _,.tup _ | .ref _,.fl _ | .ref _,.exc _ _ _=>aal (fun e=>nomatch e)
 | .exc _ _ _,.aO | .exc _ _ _,.bl _ | .exc _ _ _,.int _ | .exc _ _ _,.str _ | .exc _ _ _,.tup _ | .exc _ _ _,.fl _ | .exc _ _ _,.ref _=>aal (fun e=>nomatch e)
 | .aO,.fn _ _ | .bl _,.fn _ _ | .int _,.fn _ _ | .str _,.fn _ _ | .tup _,.fn _ _ | .fl _,.fn _ _ | .ref _,.fn _ _ | .exc _ _ _,.fn _ _=>aal (fun e=>nomatch e)
 | .fn _ _,.aO | .fn _ _,.bl _ | .fn _ _,.int _ | .fn _ _,.str _ | .fn _ _,.tup _ | .fn _ _,.fl _ | .fn _ _,.ref _ | .fn _ _,.exc _ _ _=>aal (fun e=>nomatch e)
 | .aO,.kt _ | .bl _,.kt _ | .int _,.kt _ | .str _,.kt _ | .tup _,.kt _ | .fl _,.kt _ | .ref _,.kt _ | .exc _ _ _,.kt _ | .fn _ _,.kt _=>aal (fun e=>nomatch e)
 | .kt _,.aO | .kt _,.bl _ | .kt _,.int _ | .kt _,.str _ | .kt _,.tup _ | .kt _,.fl _ | .kt _,.ref _ | .kt _,.exc _ _ _ | .kt _,.fn _ _=>aal (fun e=>nomatch e)
noncomputable def W.mM:(a b:List W)->Decidable (a=b)
 | [],[]=>aaH rfl
 | a::as,b::bs=>match W.dec a b,W.mM as bs with
  | aaH h,aaH h'=>aaH (by rw[h,h'])
  | aal h,_=>aal (fun e=>h (afv e).1)
  | _,aal h=>aal (fun e=>h (afv e).2)
 | [],_::_ | _::_,[]=>aal (fun e=>nomatch e)
end
instance:DecidableEq W:=W.dec
inductive PO where
 | lst (ws:List W)
 | a8 (kvs:List (W×W))
 | obj (c:Str) (fs:List (Str×W))
 | pv (kvs:List (W×W))
 | uf (kvs:List (W×W))
 deriving DecidableEq
noncomputable def PO.fz:PO->Bool
 | .pv _=>true
 | _=>false
abbrev PH:=List PO
abbrev Po(α:Type):=PH->Option (α×PH)
variable{α:Type}
noncomputable def ret(a:α):Po α:=fun ph=>some (a,ph)
noncomputable def d9:Po α:=fun _=>none
structure XC where
 cls:Str
 fs:List (Str×W)
inductive Out(α:Type) where
 | ok (a:α) (ph:PH)
 | ex (x:XC) (ph:PH)
 | no
noncomputable def Out.Run(r:Out α)(N:α->PH->Prop)(E:XC->PH->Prop):Prop:=match r with
 | .ok a ph=>N a ph
 | .ex x ph=>E x ph
 | .no=>False
variable{E:XC->PH->Prop}
theorem Out.Run.mono{r:Out α}{N N':α->PH->Prop}{E':XC->PH->Prop}(h:r.Run N E)(hn:∀a ph,N a ph->N' a ph)(he:∀x ph,E x ph->E' x ph):r.Run N' E':=by
 cases r with
 | ok a ph=>exact hn a ph h
 | ex x ph=>exact he x ph h
 | no=>exact h
abbrev Mo(α:Type):=PH->Out α
noncomputable def aA(a:α):Mo α:=fun ph=>.ok a ph
noncomputable def ed:Mo α:=fun _=>.no
noncomputable def lift(o:Po α):Mo α:=fun ph=>match o ph with
 | some p=>.ok p.1 p.2
 | none=>.no
noncomputable def aq{β:Type}(m:Mo α)(f:α->Mo β):Mo β:=fun ph=>match m ph with
 | .ok a ph'=>f a ph'
 | .ex x ph'=>.ex x ph'
 | .no=>.no
variable{ph:PH}
theorem cV{β:Type}{m:Mo α}{f:α->Mo β}{N:β->PH->Prop}:(aq m f ph).Run N E=(m ph).Run (fun a ph1=>(f a ph1).Run N E) E:=by
 unfold aq;cases m ph <;> rfl
theorem run_lift{o:Po α}{N:α->PH->Prop}(h:(lift o ph).Run N E):∃a ph',o ph=some (a,ph')/\N a ph':=by
 unfold lift at h;cases e:o ph with
 | none=>rw[e] at h;exact h.elim
 | some p=>rw[e] at h;exact⟨p.1,p.2,rfl,h⟩
abbrev aI:=List (Option W)
abbrev EM:=aI->Mo W
abbrev TM:=aI->Mo Bool
abbrev AM:=aI->Mo (List W)
inductive Fl where
 | nx (σ:aI) | rt (w:W) | bk (σ:aI) | ct (σ:aI)
abbrev SM:=aI->Mo Fl
noncomputable def KL(K:aab)(a:Addr)(xs:List V):Prop:=
 ∃(o:Obj) (its:Array Value) (n:Nat),K.lookup a=some o/\o.cls=.type "list"/\o.dict=none/\o.data=.seq its n/\its.size<=aas/\Vals xs its.toList
noncomputable def tq(K:aab)(H:Hp)(a:Addr)(xs:List V):Prop:=(∃o,H a=some (.bL o (.lst xs)))\/KL K a xs
variable{K:aab}{H:Hp}{a:Addr}
theorem tq.sq{xs:List V}(h:tq K H a xs):aP K H a xs:=by
 rcases h with⟨o,h⟩ | h
 ·exact .inl (.inr ⟨o,h⟩)
 ·exact .inr h
noncomputable def tu(H:Hp)(o:Obj)(ns:List Str)(vs:List V):Prop:=(ns=[]/\vs=[])\/∃d od,o.dict=some d/\ns.length=vs.length/\H d=some (.bL od (.xd (ns.zip vs)))
abbrev ip:HO:=.ext fun _=>True
structure yH where
 ar:Arguments
 bd:Expr
 sc:Scope
 pos:Pos
noncomputable def Xj:Stmt->Option yH
 | .Return (some (.Call _ [_,.Lambda a b s p] _ _)) _=>some ⟨a,b,s,p⟩
 | .Assign _ (.Call _ [.Call _ [_,.Lambda a b s p] _ _] _ _) _=>some ⟨a,b,s,p⟩
 | _=>none
noncomputable def Xk(l:List Stmt):Option yH:=l.findSome? Xj
noncomputable def D1(K:aab)(x:Str):Option yH:=match aaq K aam x with
 | some (some (.ref f))=>(match K.lookup f with
  | some ⟨_,_,.func fd,_⟩=>(match fd.body with
   | .stmts b=>Xk b
   | _=>none)
  | _=>none)
 | _=>none
noncomputable def ig(K:aab):List (Str×Addr×Addr):=match K.lookup aam with
 | some ⟨_,_,.dict es _,_⟩=>es.toList.filterMap fun e=>match e.key with
  | .str x _=>if(D1 K x).isSome then(PySem.W.tabIn K x).map (x,·) else none
  | _=>none
 | _=>[]
noncomputable def ER(x:Str):Str:=(x++".<locals>.")++"<lambda>"
noncomputable def oo(H:Hp)(v:Value)(x:Str):Prop:=∃c oc vs t,v=.ref c/\H c=some (.bL oc ip)/\oc.data=.fields vs/\vs[1]? =some (.str (ER x) t)
noncomputable def jJ(H:Hp)(x:Str)(P:Addr):Prop:=∃ps,H P=some (.fT ps)/\PySem.TriplesOk ps.toList/\∀pos v,codeAmong pos ps.toList=some v->oo H v x
noncomputable def tw(K:aab)(H:Hp)(x:Str)(o:Obj)(cl:List (Str×Addr)):Prop:=∃L pm v yI,D1 K x=some L/\o={ cls:=.type "function",data:=.func (PySem.W.kla_fn "<lambda>" (ER x) L.ar L.bd L.sc cl pm v yI) }/\oo H v x /\
 ∀y,L.sc.names.lookup y=some .free->∃c,cl.lookup y=some c
noncomputable def mf(H:Hp):List (Str×Addr)->List V->Prop
 | [],[]=>True
 | p::cl,v::vs=>(∃oc u,H p.2=some (.bL oc ip)/\oc.data=.cell (some u)/\RelV v u)/\mf H cl vs
 | _,_=>False
noncomputable def k5(K:aab)(a:Addr)(vs:List V):Prop:=∃(o:Obj) (its:Array Value) (n:Nat),K.lookup a=some o/\o.cls=.type "tuple"/\o.data=.seq its n/\its.size<=aas/\Vals vs its.toList
mutual
inductive aJ(K:aab)(φ:Nat->Addr)(n:Nat)(H:Hp):W->V->Prop where
 | aO:aJ K φ n H .aO .aO
 | bl (b:Bool):aJ K φ n H (.bl b) (.bl b)
 | int (i:Int):aJ K φ n H (.int i) (.int i)
 | str (x:Str):aJ K φ n H (.str x) (.str x)
 | tup {ws:List W} {a:Addr} {vs:List V} (h:H a=some (.tup vs)) (r:aM K φ n H ws vs):aJ K φ n H (.tup ws) (.ref a)
 | fl {ws:List W} {a:Addr} {vs:List V} (h:tq K H a vs) (r:aM K φ n H ws vs):aJ K φ n H (.fl ws) (.ref a)
 | ref {i:Nat} (h:i<n):aJ K φ n H (.ref i) (.ref (φ i))
 | exc {c:Str} {ns:List Str} {ws:List W} {a C:Addr} {vs:List V} {o:Obj} {u:HO} (h:H a=some (.bL o u)) (hc:o.cls=.ref C) (hn:aaq K aam c=some (some (.ref C))) (hk:PySem.W.notCls o=true) (hf:tu H o ns vs) (r:aM K φ n H ws vs):aJ K φ n H (.exc c ns ws) (.ref a)
 | fn {x:Str} {ws:List W} {a:Addr} {vs:List V} {o:Obj} {cl:List (Str×Addr)} (h:H a=some (.bL o ip)) (hl:tw K H x o cl) (hc:mf H cl vs) (r:aM K φ n H ws vs):aJ K φ n H (.fn x ws) (.ref a)
 | kt {ws:List W} {a:Addr} {vs:List V} (h:k5 K a vs) (r:aM K φ n H ws vs):aJ K φ n H (.kt ws) (.ref a)
inductive aM(K:aab)(φ:Nat->Addr)(n:Nat)(H:Hp):List W->List V->Prop where
 | nil:aM K φ n H [] []
 | cons {w:W} {v:V} {ws:List W} {vs:List V} (h:aJ K φ n H w v) (r:aM K φ n H ws vs):aM K φ n H (w::ws) (v::vs)
end
structure Step(K:aab)(φ:Nat->Addr)(n:Nat)(H:Hp)(ap:Nat->Addr)(n':Nat)(H':Hp):Prop where
 le:n<=n'
 eq:∀i,i<n->ap i=φ i
 tup:∀a xs,H a=some (.tup xs)->H' a=some (.tup xs)
 bL:∀a o u,H a=some (.bL o u)->H' a=some (.bL o u)
section
variable{K:aab}{φ ap yJ:Nat->Addr}{n n' yK:Nat}{H H' eh:Hp}
theorem Step.refl:Step K φ n H φ n H:=⟨aaj _,fun _ _=>rfl,fun _ _ h=>h,fun _ _ _ h=>h⟩
theorem Step.trans(a:Step K φ n H ap n' H')(b:Step K ap n' H' yJ yK eh):Step K φ n H yJ yK eh:=
 ⟨abl a.le b.le,fun i h=>(b.eq i (aan h a.le)).trans (a.eq i h),fun c xs h=>b.tup c xs (a.tup c xs h),fun c o u h=>b.bL c o u (a.bL c o u h)⟩
theorem tu.mono(s:Step K φ n H ap n' H'){o:Obj}{ns:List Str}{vs:List V}(h:tu H o ns vs):tu H' o ns vs:=
 h.imp_right fun⟨d,od,e1,e2,e3⟩=>⟨d,od,e1,e2,s.bL _ _ _ e3⟩
theorem oo.mono{v:Value}{x:Str}(h:oo H v x)(s:∀a o,H a=some (.bL o ip)->H' a=some (.bL o ip)):oo H' v x:=
 let ⟨c,oc,vs,t,e1,e2,e3⟩:=h;⟨c,oc,vs,t,e1,s _ _ e2,e3⟩
theorem tw.mono{x:Str}{o:Obj}{cl:List (Str×Addr)}(h:tw K H x o cl)(s:∀a o,H a=some (.bL o ip)->H' a=some (.bL o ip)):tw K H' x o cl:=
 let ⟨L,pm,v,yI,e1,e2,e3,e4⟩:=h;⟨L,pm,v,yI,e1,e2,e3.mono s,e4⟩
theorem mf.mono(s:∀a o,H a=some (.bL o ip)->H' a=some (.bL o ip)):∀{cl:List (Str×Addr)} {vs:List V},mf H cl vs->mf H' cl vs
 | [],[],_=>trivial
 | _::_,_::_,⟨⟨oc,u,e1,e2⟩,r⟩=>⟨⟨oc,u,s _ _ e1,e2⟩,mf.mono s r⟩
 | [],_::_,h=>h.elim
 | _::_,[],h=>h.elim
mutual
theorem aJ.mono(s:Step K φ n H ap n' H'):∀{w:W} {v:V},aJ K φ n H w v->aJ K ap n' H' w v
 | _,_,.aO=>.aO
 | _,_,.bl b=>.bl b
 | _,_,.int i=>.int i
 | _,_,.str x=>.str x
 | _,_,.tup h r=>.tup (s.tup _ _ h) (aM.mono s r)
 | _,_,.fl h r=>.fl (h.elim (fun⟨o,e⟩=>.inl ⟨o,s.bL _ _ _ e⟩) .inr) (aM.mono s r)
 | _,_,.ref (i:=i) h=>(s.eq i h)▸.ref (aan h s.le)
 | _,_,.exc h hc hn hk hf r=>.exc (s.bL _ _ _ h) hc hn hk (hf.mono s) (aM.mono s r)
 | _,_,.fn h hl hc r=>.fn (s.bL _ _ _ h) (hl.mono fun a o z=>s.bL a o _ z) (hc.mono fun a o z=>s.bL a o _ z) (aM.mono s r)
 | _,_,.kt h r=>.kt h (aM.mono s r)
theorem aM.mono(s:Step K φ n H ap n' H'):∀{ws:List W} {vs:List V},aM K φ n H ws vs->aM K ap n' H' ws vs
 | _,_,.nil=>.nil
 | _,_,.cons h r=>.cons (aJ.mono s h) (aM.mono s r)
end
theorem aM.length:∀{ws:List W} {vs:List V},aM K φ n H ws vs->ws.length=vs.length
 | _,_,.nil=>rfl
 | _,_,.cons _ r=>by simp[aM.length r]
theorem aM.get:∀{ws:List W} {vs:List V} {i:Nat} {w:W},aM K φ n H ws vs->ws[i]? =some w->∃v,vs[i]? =some v/\aJ K φ n H w v
 | _,_,_,_,.nil,e=>by simp at e
 | _,_,0,_,.cons h _,e=>by simp at e;subst e;exact⟨_,rfl,h⟩
 | _,_,i+1,w,.cons _ r,e=>by
  obtain⟨u,h1,h2⟩:=aM.get (i:=i) (w:=w) r (by simpa using e);exact⟨u,by simpa using h1,h2⟩
theorem aM.append:∀{ws xs:List W} {vs us:List V},aM K φ n H ws vs->aM K φ n H xs us->aM K φ n H (ws++xs) (vs++us)
 | _,_,_,_,.nil,s=>s
 | _,_,_,_,.cons h r,s=>.cons h (aM.append r s)
theorem aM.take:∀{ws:List W} {vs:List V} (k:Nat),aM K φ n H ws vs->aM K φ n H (ws.take k) (vs.take k)
 | _,_,0,_=>.nil
 | _,_,_+1,.nil=>.nil
 | _,_,k+1,.cons h r=>.cons h (aM.take k r)
theorem aM.drop:∀{ws:List W} {vs:List V} (k:Nat),aM K φ n H ws vs->aM K φ n H (ws.drop k) (vs.drop k)
 | _,_,0,r=>r
 | _,_,_+1,.nil=>.nil
 | _,_,k+1,.cons h r=>aM.drop k r
theorem aM.set{w:W}{v:V}(q:aJ K φ n H w v):∀{ws:List W} {vs:List V} (i:Nat),aM K φ n H ws vs->aM K φ n H (ws.set i w) (vs.set i v)
 | _,_,_,.nil=>.nil
 | _,_,0,.cons _ r=>.cons q r
 | _,_,i+1,.cons h r=>.cons h (aM.set q i r)
end
noncomputable def bD:Key->W
 | .inl i=>.int i
 | .inr x=>.str x
inductive bW(K:aab)(φ:Nat->Addr)(n:Nat)(H:Hp):List (W×W)->List (Key×V)->Prop where
 | nil:bW K φ n H [] []
 | cons {k:Key} {w:W} {v:V} {kws:List (W×W)} {kvs:List (Key×V)} (h:aJ K φ n H w v) (r:bW K φ n H kws kvs):bW K φ n H ((bD k,w)::kws) ((k,v)::kvs)
inductive b8(K:aab)(φ:Nat->Addr)(n:Nat)(H:Hp):List (W×W)->List (List Key×V)->Prop where
 | nil:b8 K φ n H [] []
 | cons {k:List Key} {w:W} {v:V} {kws:List (W×W)} {kvs:List (List Key×V)} (h:aJ K φ n H w v) (r:b8 K φ n H kws kvs):b8 K φ n H ((.tup (k.map bD),w)::kws) ((k,v)::kvs)
theorem bW.mono{K:aab}{φ ap:Nat->Addr}{n n':Nat}{H H':Hp}(s:Step K φ n H ap n' H'):∀{ws:List (W×W)} {vs:List (Key×V)},bW K φ n H ws vs->bW K ap n' H' ws vs
 | _,_,.nil=>.nil
 | _,_,.cons h r=>.cons (h.mono s) (bW.mono s r)
theorem b8.mono{K:aab}{φ ap:Nat->Addr}{n n':Nat}{H H':Hp}(s:Step K φ n H ap n' H'):∀{ws:List (W×W)} {vs:List (List Key×V)},b8 K φ n H ws vs->b8 K ap n' H' ws vs
 | _,_,.nil=>.nil
 | _,_,.cons h r=>.cons (h.mono s) (b8.mono s r)
inductive jK(K:aab)(φ:Nat->Addr)(n:Nat)(H:Hp):List (W×W)->List (V×V)->Prop where
 | nil:jK K φ n H [] []
 | cons {k w:W} {u v:V} {kws:List (W×W)} {kvs:List (V×V)} (hk:aJ K φ n H k u) (h:aJ K φ n H w v) (r:jK K φ n H kws kvs):jK K φ n H ((k,w)::kws) ((u,v)::kvs)
theorem jK.mono{K:aab}{φ ap:Nat->Addr}{n n':Nat}{H H':Hp}(s:Step K φ n H ap n' H'):∀{ws:List (W×W)} {vs:List (V×V)},jK K φ n H ws vs->jK K ap n' H' ws vs
 | _,_,.nil=>.nil
 | _,_,.cons hk h r=>.cons (hk.mono s) (h.mono s) (jK.mono s r)
inductive jL(K:aab)(φ:Nat->Addr)(n:Nat)(H:Hp):List (Str×W)->List (Str×V)->Prop where
 | nil:jL K φ n H [] []
 | cons {f:Str} {w:W} {v:V} {fs:List (Str×W)} {vs:List (Str×V)} (h:aJ K φ n H w v) (r:jL K φ n H fs vs):jL K φ n H ((f,w)::fs) ((f,v)::vs)
theorem jL.mono{K:aab}{φ ap:Nat->Addr}{n n':Nat}{H H':Hp}(s:Step K φ n H ap n' H'):∀{ws:List (Str×W)} {vs:List (Str×V)},jL K φ n H ws vs->jL K ap n' H' ws vs
 | _,_,.nil=>.nil
 | _,_,.cons h r=>.cons (h.mono s) (jL.mono s r)
noncomputable def jC(K:aab)(φ:Nat->Addr)(n:Nat)(H:Hp)(o:PO)(a:Addr):Prop:=match o with
 | .lst ws=>∃vs,H a=some (.lst vs)/\aM K φ n H ws vs
 | .a8 kws=>(∃kvs,H a=some (.dK kvs)/\bW K φ n H kws kvs)\/∃kvs,H a=some (.dT kvs)/\b8 K φ n H kws kvs
 | .obj c fs=>∃C dx vs,aaq K aam c=some (some (.ref C))/\H a=some (.ins C dx vs)/\jL K φ n H fs vs
 | .uf kws=>∃kvs,H a=some (.dU kvs)/\jK K φ n H kws kvs/\(kws.map (·.1)).Nodup
 | .pv kws=>∃o,o.cls=.type "dict"/\((∃kvs,H a=some (.bL o (.dK kvs))/\bW K φ n H kws kvs)\/∃kvs,H a=some (.bL o (.dT kvs))/\b8 K φ n H kws kvs)
structure aD(K:aab)(φ:Nat->Addr)(ph:PH)(H:Hp):Prop where
 hp:∀i o,ph[i]? =some o->jC K φ ph.length H o (φ i)
 inj:∀i j,i<ph.length->j<ph.length->φ i=φ j->i=j
 tb:∀p∈ig K,jJ H p.1 p.2.2
theorem jJ.upd{H:Hp}{x:Str}{P a:Addr}{o:HO}(h:jJ H x P)(n1:∀ps,H a≠some (.fT ps))(n2:∀oc,H a≠some (.bL oc ip)):jJ (upd H a o) x P:=by
 obtain⟨ps,e1,e2,e3⟩:=h;refine⟨ps,?_,e2,fun pos v e=>?_⟩
 ·rw[aW (fun z=>n1 ps (by rw[<- z];exact e1))];exact e1
 ·obtain⟨c,oc,vs,t,f1,f2,f3⟩:=e3 pos v e;refine⟨c,oc,vs,t,f1,?_,f3⟩;rw[aW (fun z=>n2 oc (by rw[<- z];exact f2))];exact f2
theorem jJ.new{x:Str}{P:Addr}{o:HO}(h:jJ H x P)(hn:H a=none):jJ (L2.upd H a o) x P:=h.upd (fun _ z=>by rw[hn] at z;cases z) fun _ z=>by rw[hn] at z;cases z
inductive bc(K:aab)(φ:Nat->Addr)(n:Nat)(H:Hp):aI->L2.St->Prop where
 | nil:bc K φ n H [] []
 | sm {w:W} {v:V} {ws:aI} {vs:L2.St} (h:aJ K φ n H w v) (r:bc K φ n H ws vs):bc K φ n H (some w::ws) (some v::vs)
 | nn {v:Option V} {ws:aI} {vs:L2.St} (r:bc K φ n H ws vs):bc K φ n H (none::ws) (v::vs)
section
variable{K:aab}{φ ap yJ:Nat->Addr}{n n' yK:Nat}{H H' eh:Hp}{ph:PH}
theorem bc.mono(s:Step K φ n H ap n' H'):∀{ws:aI} {vs:L2.St},bc K φ n H ws vs->bc K ap n' H' ws vs
 | _,_,.nil=>.nil
 | _,_,.sm h r=>.sm (h.mono s) (bc.mono s r)
 | _,_,.nn r=>.nn (bc.mono s r)
theorem bc.get:∀{ws:aI} {vs:L2.St} {i:Nat} {w:W},bc K φ n H ws vs->ws[i]? =some (some w)->∃v,vs[i]? =some (some v)/\aJ K φ n H w v
 | _,_,_,_,.nil,e=>by simp at e
 | _,_,0,_,.sm h _,e=>by simp at e;subst e;exact⟨_,rfl,h⟩
 | _,_,0,_,.nn _,e=>by simp at e
 | _,_,i+1,w,.sm _ r,e=>by
  obtain⟨u,h1,h2⟩:=bc.get (i:=i) (w:=w) r (by simpa using e);exact⟨u,by simpa using h1,h2⟩
 | _,_,i+1,w,.nn r,e=>by
  obtain⟨u,h1,h2⟩:=bc.get (i:=i) (w:=w) r (by simpa using e);exact⟨u,by simpa using h1,h2⟩
theorem bc.set{w:W}{v:V}(q:aJ K φ n H w v):∀{ws:aI} {vs:L2.St} (i:Nat),bc K φ n H ws vs->bc K φ n H (ws.set i (acj w)) (vs.set i (acj v))
 | _,_,_,.nil=>.nil
 | _,_,0,.sm _ r=>.sm q r
 | _,_,0,.nn r=>.sm q r
 | _,_,i+1,.sm h r=>.sm h (bc.set q i r)
 | _,_,i+1,.nn r=>.nn (bc.set q i r)
theorem bc.start:∀{ws:List W} {vs:List V} (k:Nat),aM K φ n H ws vs->bc K φ n H (ws.map acj++aay k Option.none) (vs.map acj++aay k Option.none)
 | _,_,0,.nil=>.nil
 | _,_,k+1,.nil=>.nn (bc.start k .nil)
 | _,_,k,.cons h r=>.sm h (bc.start k r)
theorem jC.some{o:PO}{a:Addr}(h:jC K φ n H o a):∃x,H a=acj x/\(o.fz=false->jc (acj x)):=by
 cases o with
 | lst ws=>obtain⟨vs,e,_⟩:=h;exact⟨_,e,fun _=>trivial⟩
 | a8 kws=>
  rcases h with⟨vs,e,_⟩ | ⟨vs,e,_⟩
  ·exact⟨_,e,fun _=>trivial⟩
  ·exact⟨_,e,fun _=>trivial⟩
 | obj c fs=>obtain⟨C,dx,vs,_,e,_⟩:=h;exact⟨_,e,fun _=>trivial⟩
 | uf kws=>obtain⟨kvs,e,_⟩:=h;exact⟨_,e,fun _=>trivial⟩
 | pv kws=>
  obtain⟨o,_,⟨vs,e,_⟩ | ⟨vs,e,_⟩⟩:=h
  ·exact⟨_,e,fun z=>nomatch z⟩
  ·exact⟨_,e,fun z=>nomatch z⟩
theorem jC.mono{o:PO}{a:Addr}(s:Step K φ n H ap n' H')(e:H' a=H a)(h:jC K φ n H o a):jC K ap n' H' o a:=by
 cases o with
 | lst ws=>obtain⟨vs,q,r⟩:=h;exact⟨vs,e.trans q,r.mono s⟩
 | a8 kws=>
  rcases h with⟨vs,q,r⟩ | ⟨vs,q,r⟩
  ·exact .inl ⟨vs,e.trans q,r.mono s⟩
  ·exact .inr ⟨vs,e.trans q,r.mono s⟩
 | obj c fs=>obtain⟨C,dx,vs,q1,q2,r⟩:=h;exact⟨C,dx,vs,q1,e.trans q2,r.mono s⟩
 | uf kws=>obtain⟨kvs,q,r,nd⟩:=h;exact⟨kvs,e.trans q,r.mono s,nd⟩
 | pv kws=>
  obtain⟨o,hc,⟨vs,q,r⟩ | ⟨vs,q,r⟩⟩:=h
  ·exact⟨o,hc,.inl ⟨vs,e.trans q,r.mono s⟩⟩
  ·exact⟨o,hc,.inr ⟨vs,e.trans q,r.mono s⟩⟩
variable{i:Nat}
theorem aD.at(h:aD K φ ph H)(hi:i<ph.length):∃x,H (φ i)=acj x/\(ph[i].fz=false->jc (acj x)):=(h.hp i ph[i] (by simp[hi])).some
theorem aD.mu(h:aD K φ ph H){o:PO}(hw:ph[i]? =acj o)(hz:o.fz=false):∃x,H (φ i)=acj x/\jc (acj x):=let ⟨x,e,k⟩:=(h.hp i o hw).some;⟨x,e,k hz⟩
variable{p:Addr}
theorem dj{xs:List V}(hp:H p=none):Step K φ n H φ n (upd H p (.tup xs)):=by
 refine⟨aaj _,fun _ _=>rfl,fun a ys h=>?_,fun a o u h=>?_⟩
 ·rw[aW (dS h hp)];exact h
 ·rw[aW (dS h hp)];exact h
theorem aD.tup{p:Addr}{xs:List V}(h:aD K φ ph H)(hp:H p=none):aD K φ ph (upd H p (.tup xs)):=by
 refine⟨fun i o e=>?_,h.inj,fun p hm=>(h.tb p hm).new hp⟩;have hi:i<ph.length:=(aac.mp e).1;obtain⟨x,ex,_⟩:=h.at hi;exact(h.hp i o e).mono (dj hp) (aW (dS ex hp))
noncomputable def ext(φ:Nat->Addr)(n:Nat)(p:Addr):Nat->Addr:=fun i=>if i=n then p else φ i
theorem mj(h:i<n):ext φ n p i=φ i:=by unfold ext;rw[if_neg (by omega)]
theorem iW:ext φ n p n=p:=by unfold ext;rw[if_pos rfl]
theorem vM{o:HO}(hp:H p=none):Step K φ n H (ext φ n p) (n+1) (upd H p o):=by
 refine⟨adI _,fun i h=>mj h,fun a ys h=>?_,fun a o u h=>?_⟩
 ·rw[aW (dS h hp)];exact h
 ·rw[aW (dS h hp)];exact h
theorem aD.new{p:Addr}{x:HO}{o:PO}(h:aD K φ ph H)(hp:H p=none)(r:jC K (ext φ ph.length p) (ph.length+1) (upd H p x) o p) :
  aD K (ext φ ph.length p) (ph++[o]) (upd H p x):=by
 refine⟨fun i o' e=>?_,fun i j hi hj e=>?_,fun p hm=>(h.tb p hm).new hp⟩
 ·rw[aaI];by_cases hi:i<ph.length
  ·rw[aaU hi] at e;obtain⟨y,ey,_⟩:=h.at hi;rw[mj hi];exact(h.hp i o' e).mono (vM hp) (aW (dS ey hp))
  ·have hl:=(aac.mp e).1;simp at hl;have:i=ph.length:=by omega
   subst this;simp at e;subst e;rw[iW];exact r
 ·simp at hi hj
  have key:∀k,k<ph.length->φ k≠p:=fun k hk z=>by
   obtain⟨y,ey,_⟩:=h.at hk;rw[z,hp] at ey;cases ey
  by_cases h1:i<ph.length <;> by_cases h2:j<ph.length
  ·rw[mj h1,mj h2] at e;exact h.inj i j h1 h2 e
  ·have:j=ph.length:=by omega
   subst this;rw[mj h1,iW] at e;exact(key i h1 e).elim
  ·have:i=ph.length:=by omega
   subst this;rw[mj h2,iW] at e;exact(key j h2 e.symm).elim
  ·omega
theorem kB{a:Addr}{x y:HO}(ha:H a=some x)(mx:jc (some x)):Step K φ n H φ n (upd H a y):=by
 refine⟨aaj _,fun _ _=>rfl,fun c ys h=>?_,fun c o u h=>?_⟩
 ·rw[aW (il h ha (by rintro rfl;exact mx))];exact h
 ·rw[aW (il h ha (by rintro rfl;exact mx))];exact h
theorem aD.put{x:HO}{o o0:PO}(h:aD K φ ph H)(hw:ph[i]? =some o0)(hz:o0.fz=false)(r:jC K φ ph.length (upd H (φ i) x) o (φ i)):aD K φ (ph.set i o) (upd H (φ i) x):=by
 have hi:i<ph.length:=(aac.mp hw).1;obtain⟨y,ey,my⟩:=h.mu hw hz;refine⟨fun j o' e=>?_,fun j k hj hk e=>?_,fun p hm=>(h.tb p hm).upd (fun ps z=>?_) fun oc z=>?_⟩
 ·rw[abA];by_cases hj:j=i
  ·subst hj;rw[abF hi] at e;cases e;exact r
  ·rw[acn (abL hj)] at e;have jf:=(aac.mp e).1;exact(h.hp j o' e).mono (kB ey my) (aW fun z=>hj (h.inj j i jf hi z))
 ·rw[abA] at hj hk;exact h.inj j k hj hk e
 ·rw[ey] at z;cases z;exact my
 ·rw[ey] at z;cases z;exact my
end
noncomputable def Made(X:Cx)(C:Addr)(H':Hp)(e:Value)(s':aaf):Prop:=
 ∃pins σ s vs h' a,e=.ref a/\s'={ s with heap:=h' }/\Inv X pins σ H' s/\Heap.MadeExcOf s.heap h' a (.ref C) vs
structure X2(fs:List Addr)(H H':Hp)(h B h':Heap):Prop where
 keep:∀b o,h.get? b=some o->H b=none->b∉fs->B.get? b=some o
 slot:∀b o,h.get? b=some o->H b=none->b∈fs->∃sl,h'.get? b=some { o with slots:=sl }
 free:∀b o,h.get? b=some o->H b=none->H' b=none
 there:∀b o,h.get? b=some o->b∉fs->∃o',B.get? b=some o'
 fP:∀b xs,H b=some (.tup xs)->H' b=some (.tup xs)
 el:∀b o u,H b=some (.bL o u)->H' b=some (.bL o u)
 fv:∀b ps,H b=some (.fT ps)->∃more,H' b=some (.fT (ps++more))
noncomputable def Flew(P:aba)(w:World)(l:List Env)(H:Hp)(s:aaf)(C:Addr)(H':Hp)(e:Value)(s':aaf):Prop:=
 ∃a a0 B,e=.ref a/\s'.os=s.os/\aeM s'.gens/\Heap.FlyingW B l a (.ref C) a0 s'.heap/\cc P w H' B/\X2 (dP l) H H' s.heap B s'.heap
noncomputable def X3(X:Cx)(x:XC)(H':Hp)(e:Value)(s':aaf):Prop:=∃C,X.mg x.cls=some (.ref C)/\x.fs=[]/\(Made X C H' e s'\/∃pins σ H s,Inv X pins σ H s/\Flew X.prog X.w X.stack H s C H' e s')
noncomputable def XE(X:Cx)(φ:Nat->Addr)(n:Nat)(H:Hp):XC->PH->Prop:=fun x ph'=>∀ap H' e s',aD X.K ap ph' H'->Step X.K φ n H ap ph'.length H'->X3 X x H' e s'->X.xe e s'
variable{X:Cx}{φ:Nat->Addr}{n:Nat}{ph':PH}
theorem XE.step{au:Nat->Addr}{n1:Nat}{H1:Hp}{x:XC}(h:XE X φ n H x ph')(s:Step X.K φ n H au n1 H1):XE X au n1 H1 x ph':=fun ap H' e s' r t q=>h ap H' e s' r (s.trans t) q
noncomputable def tM(X:Cx)(m:EM):TE:=fun σ H Q=>∃φ ph ws,aD X.K φ ph H/\bc X.K φ ph.length H ws σ/\(m ws ph).Run (fun w ph'=>
 ∀ap H' v,aD X.K ap ph' H'->Step X.K φ ph.length H ap ph'.length H'->aJ X.K ap ph'.length H' w v->Q v H') (XE X φ ph.length H)
noncomputable def tT(X:Cx)(m:TM):TT:=fun σ H Q=>∃φ ph ws,aD X.K φ ph H/\bc X.K φ ph.length H ws σ/\(m ws ph).Run (fun b ph'=>
 ∀ap H',aD X.K ap ph' H'->Step X.K φ ph.length H ap ph'.length H'->Q b H') (XE X φ ph.length H)
noncomputable def tA(X:Cx)(m:AM):TA:=fun σ H Q=>∃φ ph ws,aD X.K φ ph H/\bc X.K φ ph.length H ws σ/\(m ws ph).Run (fun xs ph'=>
 ∀ap H' vs,aD X.K ap ph' H'->Step X.K φ ph.length H ap ph'.length H'->aM X.K ap ph'.length H' xs vs->Q vs H') (XE X φ ph.length H)
noncomputable def tD(X:Cx)(D:Ends)(ap:Nat->Addr)(ph':PH)(H':Hp)(f:Fl):Prop:=match f with
 | .nx cQ=>∀aC,bc X.K ap ph'.length H' cQ aC->D.nx aC H'
 | .bk cQ=>∀aC,bc X.K ap ph'.length H' cQ aC->D.bk aC H'
 | .ct cQ=>∀aC,bc X.K ap ph'.length H' cQ aC->D.ct aC H'
 | .rt w=>∀v,aJ X.K ap ph'.length H' w v->D.rt v H'
noncomputable def tS(X:Cx)(m:SM):TS:=fun D σ H=>∃φ ph ws,aD X.K φ ph H/\bc X.K φ ph.length H ws σ/\(m ws ph).Run (fun f ph'=>
 ∀ap H',aD X.K ap ph' H'->Step X.K φ ph.length H ap ph'.length H'->tD X D ap ph' H' f) (XE X φ ph.length H)
section
variable{X:Cx}{e:Expr}
theorem PE.imp{t t':TE}(h:PE X e t)(k:∀σ H Q,t' σ H Q->t σ H Q):PE X e t':=fun pins s σ H Q I q=>h pins s σ H Q I (k σ H Q q)
theorem PT.imp{t t':TT}(h:PT X e t)(k:∀σ H Q,t' σ H Q->t σ H Q):PT X e t':=fun pins s σ H Q I q=>h pins s σ H Q I (k σ H Q q)
theorem PA.imp{es:List Expr}{t t':TA}(h:PA X es t)(k:∀σ H Q,t' σ H Q->t σ H Q):PA X es t':=fun pos pins s σ H Q I q=>h pos pins s σ H Q I (k σ H Q q)
theorem PS.imp{st:Stmt}{t t':TS}(h:PS X st t)(k:∀D σ H,t' D σ H->t D σ H):PS X st t':=fun pins s σ H D I q=>h pins s σ H D I (k D σ H q)
theorem fB.imp{st:List Stmt}{t t':TS}(h:fB X st t)(k:∀D σ H,t' D σ H->t D σ H):fB X st t':=fun pins s σ H D I q=>h pins s σ H D I (k D σ H q)
abbrev IE(X:Cx)(e:Expr)(m:EM):Prop:=PE X e (tM X m)
abbrev IT(X:Cx)(e:Expr)(m:TM):Prop:=PT X e (tT X m)
abbrev IA(X:Cx)(es:List Expr)(m:AM):Prop:=PA X es (tA X m)
abbrev IS(X:Cx)(st:Stmt)(m:SM):Prop:=PS X st (tS X m)
abbrev iE(X:Cx)(st:List Stmt)(m:SM):Prop:=fB X st (tS X m)
end
noncomputable def ae(i:Nat):EM:=fun σ=>lift fun ph=>match σ[i]? with
 | some (some w)=>some (w,ph)
 | _=>none
noncomputable def eC(w:W):EM:=fun _=>aA w
noncomputable def af(f:W->W->Po W)(a b:EM):EM:=fun σ=>aq (a σ) fun x=>aq (b σ) fun y=>lift (f x y)
noncomputable def jg(f:W->Po W)(a:EM):EM:=fun σ=>aq (a σ) fun x=>lift (f x)
noncomputable def cm(K:aab)(r:R2)(f:W->W->Po W):Prop:=∀{φ:Nat->Addr} {ph:PH} {H:Hp} {x y:W} {vx vy:V} {w:W} {ph':PH} {Q:VK},aD K φ ph H->aJ K φ ph.length H x vx->aJ K φ ph.length H y vy->f x y ph=some (w,ph') →
 (∀ap H' v,aD K ap ph' H'->Step K φ ph.length H ap ph'.length H'->aJ K ap ph'.length H' w v->Q v H')->r vx vy H Q
noncomputable def FO(K:aab)(r:V->Hp->VK->Prop)(f:W->Po W):Prop:=∀{φ:Nat->Addr} {ph:PH} {H:Hp} {x:W} {vx:V} {w:W} {ph':PH} {Q:VK},aD K φ ph H->aJ K φ ph.length H x vx->f x ph=some (w,ph') →
 (∀ap H' v,aD K ap ph' H'->Step K φ ph.length H ap ph'.length H'->aJ K ap ph'.length H' w v->Q v H')->r vx H Q
section
variable{X:Cx}{a b c:Expr}{ma mb mc:EM}{pos:Pos}
theorem TZ(i:Nat){x:Str}(hN:X.N[i]? =some x:=by rfl)(hv:aH X.env.scope x:=by first | exact Or.inl rfl | exact Or.inr (Or.inl rfl) | exact Or.inr (Or.inr rfl))(hd:(x==("__debug__":Str))=false:=by decide)
  (hcd:(x==("__classdict__":Str))=false:=by decide):IE X (.Name x pos) (ae i):=by
 refine PE.imp (S9 hN hv hd hcd) fun σ H Q h=>?_
 obtain⟨φ,ph,ws,hH,hS,h⟩:=h;obtain⟨w,ph',e,k⟩:=run_lift h;split at e
 ·rename_i w' ew;cases e;obtain⟨v,ev,rv⟩:=hS.get ew;exact⟨v,ev,k φ H v hH Step.refl rv⟩
 ·cases e
theorem mN{t:V}{w:W}(h:PE X a (tC t))(r:∀φ n H,aJ X.K φ n H w t):IE X a (eC w):=by
 refine PE.imp h fun σ H Q h=>?_
 obtain⟨φ,ph,ws,hH,hS,h⟩:=h;exact h φ H _ hH Step.refl (r _ _ _)
variable{j:Nat}
theorem T1{i:Int}:IE X (.Constant (.int i) j pos) (eC (.int i)):=mN Ta fun _ _ _=>.int i
theorem T2{x:Str}:IE X (.Constant (.str x) j pos) (eC (.str x)):=mN Tb fun _ _ _=>.str x
theorem V5{x:Bool}:IE X (.Constant (.bool x) j pos) (eC (.bl x)):=mN VH fun _ _ _=>.bl x
variable{β:Type}{σ:L2.St}{H:Hp}{φ:Nat->Addr}{ph:PH}{ws:aI}
theorem tM.bind{m:EM}{Q:VK}{f:W->Mo β}{N:β->PH->Prop}(hH:aD X.K φ ph H)(hS:bc X.K φ ph.length H ws σ)(h:(aq (m ws) f ph).Run N (XE X φ ph.length H))
  (k:∀w ph1 au H1 v,aD X.K au ph1 H1->Step X.K φ ph.length H au ph1.length H1->aJ X.K au ph1.length H1 w v->(f w ph1).Run N (XE X au ph1.length H1)->Q v H1):tM X m σ H Q:=by
 rw[cV] at h;exact⟨φ,ph,ws,hH,hS,h.mono (fun w ph1 h1 au H1 v ax s1 r1=>k w ph1 au H1 v ax s1 r1 (h1.mono (fun _ _ z=>z) fun _ _ z=>z.step s1)) fun _ _ z=>z⟩
theorem tT.bind{m:TM}{Q:Bool->Hp->Prop}{f:Bool->Mo β}{N:β->PH->Prop}(hH:aD X.K φ ph H)(hS:bc X.K φ ph.length H ws σ)(h:(aq (m ws) f ph).Run N (XE X φ ph.length H))
  (k:∀b ph1 au H1,aD X.K au ph1 H1->Step X.K φ ph.length H au ph1.length H1->(f b ph1).Run N (XE X au ph1.length H1)->Q b H1):tT X m σ H Q:=by
 rw[cV] at h;exact⟨φ,ph,ws,hH,hS,h.mono (fun b ph1 h1 au H1 ax s1=>k b ph1 au H1 ax s1 (h1.mono (fun _ _ z=>z) fun _ _ z=>z.step s1)) fun _ _ z=>z⟩
theorem tA.bind{m:AM}{Q:List V->Hp->Prop}{f:List W->Mo β}{N:β->PH->Prop}(hH:aD X.K φ ph H)(hS:bc X.K φ ph.length H ws σ)(h:(aq (m ws) f ph).Run N (XE X φ ph.length H))
  (k:∀xs ph1 au H1 vs,aD X.K au ph1 H1->Step X.K φ ph.length H au ph1.length H1->aM X.K au ph1.length H1 xs vs->(f xs ph1).Run N (XE X au ph1.length H1)->Q vs H1):tA X m σ H Q:=by
 rw[cV] at h;exact⟨φ,ph,ws,hH,hS,h.mono (fun w ph1 h1 au H1 v ax s1 r1=>k w ph1 au H1 v ax s1 r1 (h1.mono (fun _ _ z=>z) fun _ _ z=>z.step s1)) fun _ _ z=>z⟩
variable{r:R2}{f:W->W->Po W}
theorem rB(hi:cm X.K r f){Q:VK}(h:tM X (af f ma mb) σ H Q):lh r (tM X ma) (tM X mb) σ H Q:=by
 obtain⟨φ,ph,ws,hH,hS,h⟩:=h;refine tM.bind hH hS h fun x ph1 au H1 vx ax s1 rx h=>tM.bind ax (hS.mono s1) h fun y ph2 ba H2 vy aU s2 ry h=>?_
 obtain⟨w,ph',e,k⟩:=run_lift h;exact hi aU (rx.mono s2) ry e fun fg H3 v dQ s3 r3=>k fg H3 v dQ ((s1.trans s2).trans s3) r3
theorem ou{op:Operator}(ho:bf X (acR op) r)(hi:cm X.K r f)(ha:IE X a ma)(hb:IE X b mb):IE X (.BinOp a op b pos) (af f ma mb):=
 PE.imp (VS ho ha hb) fun _ _ _ h=>rB hi h
theorem V6{op:UnaryOp}{r:V->Hp->VK->Prop}{f:W->Po W}(ho:t9 X (unaryOp op) r)(hi:FO X.K r f)(ha:IE X a ma):IE X (.UnaryOp op a pos) (jg f ma):=by
 refine PE.imp (VT ho ha) fun σ H Q h=>?_
 obtain⟨φ,ph,ws,hH,hS,h⟩:=h;refine tM.bind hH hS h fun x ph1 au H1 vx ax s1 rx h=>?_
 obtain⟨w,ph',e,k⟩:=run_lift h;exact hi ax rx e fun fg H3 v dQ s3 r3=>k fg H3 v dQ (s1.trans s3) r3
theorem T3{op:CmpOp}(ho:bf X (aaX op) r)(hi:cm X.K r f)(ha:IE X a ma)(hb:IE X b mb)(hm:abz op b=false):IE X (.Compare a [op] [b] pos) (af f ma mb):=
 PE.imp (Rl ho ha hb hm) fun _ _ _ h=>rB hi h
noncomputable def eT(m:EM):TM:=fun σ=>aq (m σ) fun w=>lift (match w with
 | .bl b=>ret b
 | _=>d9)
theorem T4{op:CmpOp}(ho:bf X (aaX op) r)(hi:cm X.K r f)(ha:IE X a ma)(hb:IE X b mb)(hm:abz op b=false):IT X (.Compare a [op] [b] pos) (eT (af f ma mb)):=by
 refine PT.imp (Cc ho ha hb hm) fun σ H Q h=>?_
 obtain⟨φ,ph,ws,hH,hS,h⟩:=h;refine rB hi (tM.bind hH hS h fun x ph1 au H1 vx ax s1 rx h=>?_);obtain⟨w,ph',e,k⟩:=run_lift h;split at e
 ·cases e;cases rx;exact⟨_,rfl,k au H1 ax s1⟩
 ·cases e
end
noncomputable def yL(g:Int->Int->Int):W->W->Po W:=fun x y=>match x,y with
 | .int i,.int j=>ret (.int (g i j))
 | _,_=>d9
noncomputable def mO(c:Int->Int->Bool)(g:Int->Int->Int):W->W->Po W:=fun x y=>match x,y with
 | .int i,.int j=>if c i j=true then ret (.int (g i j)) else d9
 | _,_=>d9
noncomputable def mP(g:Int->Int->Bool):W->W->Po W:=fun x y=>match x,y with
 | .int i,.int j=>ret (.bl (g i j))
 | _,_=>d9
theorem V7{g:Int->Int->Int}:cm K (gY fun i j=>.int (g i j)) (yL g):=by
 intro φ ph H x y vx vy w ph' Q hH rx ry e k;unfold yL at e;split at e
 ·cases e;cases rx;cases ry;exact⟨_,_,rfl,rfl,k φ H _ hH Step.refl (.int _)⟩
 ·cases e
theorem C9{C:Int->Int->Prop}{c:Int->Int->Bool}{g:Int->Int->Int}(hc:∀i j,c i j=true->C i j):cm K (rI C fun i j=>.int (g i j)) (mO c g):=by
 intro φ ph H x y vx vy w ph' Q hH rx ry e k;unfold mO at e;split at e
 ·split at e
  ·cases e;cases rx;cases ry;exact⟨_,_,rfl,rfl,hc _ _ (by assumption),k φ H _ hH Step.refl (.int _)⟩
  ·cases e
 ·cases e
theorem wW{g:Int->Int->Bool}:cm K (gY fun i j=>.bl (g i j)) (mP g):=by
 intro φ ph H x y vx vy w ph' Q hH rx ry e k;unfold mP at e;split at e
 ·cases e;cases rx;cases ry;exact⟨_,_,rfl,rfl,k φ H _ hH Step.refl (.bl _)⟩
 ·cases e
noncomputable def i0(a b:TM):TM:=fun σ=>aq (a σ) fun c=>if c=true then b σ else aA false
noncomputable def er(a b:TM):TM:=fun σ=>aq (a σ) fun c=>if c=true then aA true else b σ
noncomputable def eU(a:TM):TM:=fun σ=>aq (a σ) fun c=>aA (!c)
noncomputable def k6(a b:EM):EM:=fun σ=>aq (a σ) fun w=>match w with
 | .bl c=>if c=true then b σ else aA (.bl false)
 | _=>ed
noncomputable def X4(a b:EM):EM:=fun σ=>aq (a σ) fun w=>match w with
 | .bl c=>if c=true then aA (.bl true) else b σ
 | _=>ed
noncomputable def tE(a:EM):EM:=fun σ=>aq (a σ) fun w=>match w with
 | .bl c=>aA (.bl (!c))
 | _=>ed
noncomputable def X5(t:TM)(a b:EM):EM:=fun σ=>aq (t σ) fun c=>if c=true then a σ else b σ
section
variable{X:Cx}{a b c:Expr}{rest:List Expr}{ma mb mc:EM}{ta tb:TM}{pos:Pos}
theorem T5(ha:IT X a ta):IT X (.UnaryOp .Not a pos) (eU ta):=by
 refine PT.imp (Te ha) fun σ H Q h=>?_
 obtain⟨φ,ph,ws,hH,hS,h⟩:=h;exact tT.bind hH hS h fun x ph1 au H1 ax s1 h=>h au H1 ax s1
variable{H:Hp}
theorem and_imp{σ:L2.St}{Q:Bool->Hp->Prop}(h:tT X (i0 ta tb) σ H Q):EF (tT X ta) (tT X tb) σ H Q:=by
 obtain⟨φ,ph,ws,hH,hS,h⟩:=h;refine tT.bind hH hS h fun x ph1 au H1 ax s1 h=>?_
 cases x with
 | true=>exact mL ⟨au,ph1,ws,ax,hS.mono s1,h.mono (fun _ _ k ba H2 aU s2=>k ba H2 aU (s1.trans s2)) fun _ _ z=>z⟩
 | false=>exact mK (h au H1 ax s1)
theorem or_imp{σ:L2.St}{Q:Bool->Hp->Prop}(h:tT X (er ta tb) σ H Q):Fx (tT X ta) (tT X tb) σ H Q:=by
 obtain⟨φ,ph,ws,hH,hS,h⟩:=h;refine tT.bind hH hS h fun x ph1 au H1 ax s1 h=>?_
 cases x with
 | false=>exact mK ⟨au,ph1,ws,ax,hS.mono s1,h.mono (fun _ _ k ba H2 aU s2=>k ba H2 aU (s1.trans s2)) fun _ _ z=>z⟩
 | true=>exact mL (h au H1 ax s1)
theorem T6{op:BoolOp}(ha:IT X a ta):PW X (.BoolOp op [a] pos) (tT X ta):=by
 cases op with
 | And=>exact Rb ha
 | Or=>exact Tc ha
theorem T7(ha:IT X a ta)(hb:PW X (.BoolOp .And (b::rest) pos) (tT X tb)):PW X (.BoolOp .And (a::b::rest) pos) (tT X (i0 ta tb)):=
 fun wh pins s σ H Q I h=>Td ha hb wh pins s σ H Q I (and_imp h)
theorem V8(ha:IT X a ta)(hb:PW X (.BoolOp .Or (b::rest) pos) (tT X tb)):PW X (.BoolOp .Or (a::b::rest) pos) (tT X (er ta tb)):=
 fun wh pins s σ H Q I h=>VI ha hb wh pins s σ H Q I (or_imp h)
theorem T8(ha:IE X a ma)(hb:IE X (.BoolOp .And (b::rest) pos) mb):IE X (.BoolOp .And (a::b::rest) pos) (k6 ma mb):=by
 refine PE.imp (Tg ha hb) fun σ H Q h=>?_
 obtain⟨φ,ph,ws,hH,hS,h⟩:=h;refine tM.bind hH hS h fun x ph1 au H1 vx ax s1 rx h=>?_
 cases rx with
 | bl c=>
  refine⟨c,rfl,?_⟩;cases c with
  | true=>exact mL ⟨au,ph1,ws,ax,hS.mono s1,h.mono (fun _ _ k ba H2 v aU s2 r2=>k ba H2 v aU (s1.trans s2) r2) fun _ _ z=>z⟩
  | false=>exact mK (h au H1 _ ax s1 (.bl false))
 | _=>exact h.elim
theorem T9{op:BoolOp}(ha:IE X a ma):IE X (.BoolOp op [a] pos) ma:=Tf ha
theorem Ua(ha:IE X a ma):IE X (.UnaryOp .Not a pos) (tE ma):=by
 refine PE.imp (Th ha) fun σ H Q h=>?_
 obtain⟨φ,ph,ws,hH,hS,h⟩:=h;refine tM.bind hH hS h fun x ph1 au H1 vx ax s1 rx h=>?_
 cases rx with
 | bl c=>exact⟨_,rfl,h au H1 _ ax s1 (.bl _)⟩
 | _=>exact h.elim
noncomputable def mQ(w:W):Po Bool:=fun ph=>match w with
 | .aO=>some (false,ph)
 | .bl b=>some (b,ph)
 | .int i=>some (i != 0,ph)
 | .str y=>if y.length<=aas then some ((y.length:Int) != 0,ph) else none
 | .tup ws=>some (!ws.isEmpty,ph)
 | .fl ws=>some (!ws.isEmpty,ph)
 | .ref i=>match ph[i]? with
  | some (.lst ws)=>some (!ws.isEmpty,ph)
  | _=>none
 | .exc .. =>none
 | .fn .. =>none
 | .kt .. =>none
noncomputable def eX(m:EM):TM:=fun σ=>aq (m σ) fun w=>lift (mQ w)
theorem wX{K:aab}{φ:Nat->Addr}{n:Nat}{ws:List W}{vs:List V}(r:aM K φ n H ws vs):(!vs.isEmpty)= !ws.isEmpty:=by cases r <;> rfl
theorem Ub(ha:IE X a ma)(he:∀whole,isTrue a X.env whole=(do let v <- whole;standAt a.pos;afk [v] (truthy v)):=by intro _;rfl):IT X a (eX ma):=by
 refine PT.imp (Qs ha he) fun σ H Q h=>?_
 obtain⟨φ,ph,ws,hH,hS,h⟩:=h;refine tM.bind hH hS h fun x ph1 au H1 vx ax s1 rx h=>?_
 obtain⟨b,ph2,e,k⟩:=run_lift h;unfold mQ at e;cases rx with
 | aO=>cases e;exact⟨_,rfl,k au H1 ax s1⟩
 | bl b=>cases e;exact⟨_,rfl,k au H1 ax s1⟩
 | int i=>cases e;exact⟨_,rfl,k au H1 ax s1⟩
 | str y=>
  simp only at e;split at e
  ·rename_i hy;cases e;exact⟨_,⟨hy,rfl⟩,k au H1 ax s1⟩
  ·cases e
 | tup hq r=>cases e;exact⟨_,.inr (.inl ⟨_,bz.of hq,rfl⟩),by rw[wX r];exact k au H1 ax s1⟩
 | fl hq r=>cases e;exact⟨_,.inl ⟨_,hq.sq,rfl⟩,by rw[wX r];exact k au H1 ax s1⟩
 | ref hi=>
  simp only at e;split at e
  ·rename_i cQ hw;cases e;obtain⟨vs,hv,r⟩:=ax.hp _ _ hw;exact⟨_,.inl ⟨vs,aP.of hv,rfl⟩,by rw[wX r];exact k au H1 ax s1⟩
  ·cases e
 | exc=>cases e
 | fn=>cases e
 | kt _ _=>cases e
end
noncomputable def bB:SM:=fun σ=>aA (.nx σ)
noncomputable def aF(a b:SM):SM:=fun σ=>aq (a σ) fun f=>match f with
 | .nx aC=>b aC
 | f=>aA f
noncomputable def eV(e:EM):SM:=fun σ=>aq (e σ) fun _=>aA (.nx σ)
noncomputable def aT(e:EM):SM:=fun σ=>aq (e σ) fun w=>aA (.rt w)
noncomputable def bp(t:TM)(a b:SM):SM:=fun σ=>aq (t σ) fun c=>if c=true then a σ else b σ
noncomputable def n5:SM:=fun _=>ed
abbrev GM:=W->aI->Mo aI
noncomputable def gN(i:Nat):GM:=fun w σ=>aA (σ.set i (some w))
noncomputable def aX(e:EM)(g:GM):SM:=fun σ=>aq (e σ) fun w=>aq (g w σ) fun aC=>aA (.nx aC)
noncomputable def tG(X:Cx)(g:GM):TG:=fun v σ H Q=>∃φ ph ws w,aD X.K φ ph H/\bc X.K φ ph.length H ws σ/\aJ X.K φ ph.length H w v/\(g w ws ph).Run (fun cQ ph'=>
 ∀ap H' aC,aD X.K ap ph' H'->Step X.K φ ph.length H ap ph'.length H'->bc X.K ap ph'.length H' cQ aC->Q aC H') (XE X φ ph.length H)
abbrev IG(X:Cx)(tg:Expr)(g:GM):Prop:=PG X tg (tG X g)
section
variable{X:Cx}{e c:Expr}{m:EM}{t:TM}{a b:SM}{st:Stmt}{as bs rest:List Stmt}{pos:Pos}{tg:Expr}{g:GM}
theorem PG.imp{t t':TG}(h:PG X tg t)(k:∀v σ H Q,t' v σ H Q->t v σ H Q):PG X tg t':=fun pins s σ H v u Q I r q=>h pins s σ H v u Q I r (k v σ H Q q)
theorem Rw:iE X [] bB:=fB.imp Rc fun D σ H h=>by
 obtain⟨φ,ph,ws,hH,hS,h⟩:=h;exact h φ H hH Step.refl σ hS
variable{σ:L2.St}{H:Hp}
theorem Rx{D:Ends}(h:tS X (aF a b) D σ H):EG (tS X a) (tS X b) D σ H:=by
 obtain⟨φ,ph,ws,hH,hS,h⟩:=h;unfold aF at h;rw[cV] at h;refine⟨φ,ph,ws,hH,hS,h.mono (fun f ph1 h au H1 ax s1=>?_) fun _ _ z=>z⟩;cases f with
 | nx iF=>exact fun σ1 eG=>⟨au,ph1,iF,ax,eG,h.mono (fun f ph2 k ba H2 aU s2=>k ba H2 aU (s1.trans s2)) fun _ _ z=>z.step s1⟩
 | bk iF=>exact h au H1 ax s1
 | ct iF=>exact h au H1 ax s1
 | rt w=>exact h au H1 ax s1
theorem Qw(h1:IS X st a)(h2:iE X rest b):iE X (st::rest) (aF a b):=fB.imp (Qm h1 h2) fun _ _ _ h=>Rx h
theorem Ry(h1:IS X st a):iE X [st] a:=Rf h1
theorem Qx:IS X st n5:=PS.imp Qn fun D σ H h=>by
 obtain⟨φ,ph,ws,hH,hS,h⟩:=h;exact h
theorem Rz(he:IE X e m)(hs:ada e none pos.line X.env=pure false:=by rfl):IS X (.Expr e pos) (eV m):=PS.imp (Rg he hs) fun D σ H h=>by
 obtain⟨φ,ph,ws,hH,hS,h⟩:=h;exact tM.bind hH hS h fun w ph1 au H1 v ax s1 r1 h=>h au H1 ax s1 σ (hS.mono s1)
theorem Uc(he:IE X e m):IS X (.Return (some e) pos) (aT m):=PS.imp (Ti he) fun D σ H h=>by
 obtain⟨φ,ph,ws,hH,hS,h⟩:=h;exact tM.bind hH hS h fun w ph1 au H1 v ax s1 r1 h=>h au H1 ax s1 v r1
theorem V9(hc:IT X c t)(ha:iE X as a)(hb:iE X bs b):IS X (.If c as bs pos) (bp t a b):=PS.imp (VO hc ha hb) fun D σ H h=>by
 obtain⟨φ,ph,ws,hH,hS,h⟩:=h;refine tT.bind hH hS h fun x ph1 au H1 ax s1 h=>?_
 cases x with
 | true=>exact mL ⟨au,ph1,ws,ax,hS.mono s1,h.mono (fun _ _ k ba H2 aU s2=>k ba H2 aU (s1.trans s2)) fun _ _ z=>z⟩
 | false=>exact mK ⟨au,ph1,ws,ax,hS.mono s1,h.mono (fun _ _ k ba H2 aU s2=>k ba H2 aU (s1.trans s2)) fun _ _ z=>z⟩
theorem RA{i:Nat}{x:Str}(hN:X.N.Nodup)(hi:X.N[i]? =some x)(hx:Loc X.env.scope x)(hf:(X.fn x=true\/X.env.scope.names.lookup x=some .local)/\iy X x):IG X (.Name x pos) (gN i):=
 PG.imp (Rh hN hi hx hf) fun v σ H Q h=>by
  obtain⟨φ,ph,ws,w,hH,hS,eZ,h⟩:=h;exact h φ H _ hH Step.refl (hS.set eZ i)
theorem tG.bind{β:Type}{g:GM}{Q:L2.St->Hp->Prop}{φ:Nat->Addr}{ph:PH}{ws:aI}{w:W}{v:V}{f:aI->Mo β}{N:β->PH->Prop}(hH:aD X.K φ ph H)(hS:bc X.K φ ph.length H ws σ)(eZ:aJ X.K φ ph.length H w v)(h:(aq (g w ws) f ph).Run N (XE X φ ph.length H))
  (k:∀iF ph1 au H1 σ1,aD X.K au ph1 H1->Step X.K φ ph.length H au ph1.length H1->bc X.K au ph1.length H1 iF σ1->(f iF ph1).Run N (XE X au ph1.length H1)->Q σ1 H1):tG X g v σ H Q:=by
 rw[cV] at h;exact⟨φ,ph,ws,w,hH,hS,eZ,h.mono (fun iF ph1 h1 au H1 σ1 ax s1 r1=>k iF ph1 au H1 σ1 ax s1 r1 (h1.mono (fun _ _ z=>z) fun _ _ z=>z.step s1)) fun _ _ z=>z⟩
theorem RB{D:Ends}(h:tS X (aX m g) D σ H):sZ (tM X m) (tG X g) D σ H:=by
 obtain⟨φ,ph,ws,hH,hS,h⟩:=h;refine tM.bind hH hS h fun w ph1 au H1 v ax s1 r1 h=>?_
 exact tG.bind ax (hS.mono s1) r1 h fun iG ph2 ba H2 bJ aU s2 nh h=>h ba H2 aU (s1.trans s2) bJ nh
theorem Ud{i:Nat}{x:Str}{pos':Pos}(hN:X.N.Nodup)(hi:X.N[i]? =some x)(hx:Loc X.env.scope x)(he:IE X e m)(hs:ada e (some (.Name x pos')) pos.line X.env=pure false:=by rfl)
  (hf:(X.fn x=true\/X.env.scope.names.lookup x=some .local)/\iy X x):IS X (.Assign [.Name x pos'] e pos) (aX m (gN i)):=
 PS.imp (Tq hN hi hx he hs hf) fun D σ H h=>by
  obtain⟨φ,ph,ws,hH,hS,h⟩:=h;exact tM.bind hH hS h fun w ph1 au H1 v ax s1 r1 h=>h au H1 ax s1 _ ((hS.mono s1).set r1 i)
theorem Ue(he:IE X e m)(hg:IG X tg g)(hs:swapsWithSole [tg] e pos.line X.env=pure false:=by rfl)(hw:swappedStores [tg] e X.env=pure none:=by rfl)
  (h1:(abH [tg] X.env).map (·.2)=[afe tg X.env]:=by rfl):IS X (.Assign [tg] e pos) (aX m g):=PS.imp (Tp he hg hs hw h1) fun _ _ _ h=>RB h
end
abbrev IM:=aI->Mo (List W×(PH->Bool))
noncomputable def dB(chk:PH->Bool)(g:GM)(b:SM):List W->SM
 | [],σ=>fun ph=>if chk ph=true then .ok (.nx σ) ph else .no
 | x::xs,σ=>fun ph=>if chk ph=true then aq (g x σ) (fun σ1=>aq (b σ1) fun f=>match f with
   | .nx aC=>dB chk g b xs aC
   | .ct aC=>dB chk g b xs aC
   | .bk aC=>aA (.nx aC)
   | .rt w=>aA (.rt w)) ph else .no
noncomputable def eA(im:IM)(g:GM)(b:SM):SM:=fun σ=>aq (im σ) fun r=>dB r.2 g b r.1 σ
noncomputable def yM(K:aab)(J:It)(items:List W)(chk:PH->Bool)(φ:Nat->Addr)(n:Nat)(H:Hp):Prop:=
 ∀ap ph' H',aD K ap ph' H'->Step K φ n H ap ph'.length H'->chk ph'=true->∀i:Nat,
  (∀w,items[i]? =some w->J.go i H'/\∀x eh,J.pf i H' x eh->aD K ap ph' eh/\Step K ap ph'.length H' ap ph'.length eh/\aJ K ap ph'.length eh w x)/\(items[i]? =none->J.stop i H')
noncomputable def tI(X:Cx)(im:IM):TI:=fun σ H R=>∃φ ph ws,aD X.K φ ph H/\bc X.K φ ph.length H ws σ/\(im ws ph).Run (fun r ph'=>
 ∀ap H' J,aD X.K ap ph' H'->Step X.K φ ph.length H ap ph'.length H'->yM X.K J r.1 r.2 ap ph'.length H'->R J H') (XE X φ ph.length H)
abbrev II(X:Cx)(tg iter:Expr)(im:IM):Prop:=PI X tg iter (tI X im)
section
variable{X:Cx}{iter tg c:Expr}{im:IM}{g:GM}{b:SM}{t:TM}{body:List Stmt}{pos:Pos}
theorem RC{D:Ends}{σ:L2.St}{H:Hp}(h:tS X (eA im g b) D σ H):EH (tI X im) (tG X g) (tS X b) D σ H:=by
 obtain⟨φ,ph,ws,hH,hS,h⟩:=h;unfold eA at h;rw[cV] at h;refine⟨φ,ph,ws,hH,hS,h.mono (fun r ph1 h au H1 J ax s1 hJ=>?_) fun _ _ z=>z⟩;obtain⟨items,chk⟩:=r;refine⟨fun i m bJ H2=>∃ba ph2 iG,m=(items.drop i).length/\aD X.K ba ph2 H2/\bc X.K ba ph2.length H2 iG bJ/\Step X.K au ph1.length H1 ba ph2.length H2 /\
   (dB chk g b (items.drop i) iG ph2).Run (fun f ph'=>∀ap H',aD X.K ap ph' H'->Step X.K ba ph2.length H2 ap ph'.length H'->tD X D ap ph' H' f) (XE X ba ph2.length H2),
  ⟨_,au,ph1,ws,rfl,ax,hS.mono s1,Step.refl,h.mono (fun f ph' k ap H' r' s'=>k ap H' r' (s1.trans s')) fun _ _ z=>z.step s1⟩,?_⟩
 rintro i m bJ H2 ⟨ba,ph2,iG,rfl,aU,nh,s2,h2⟩;cases hd:items.drop i with
 | nil=>
  rw[hd] at h2;unfold dB at h2;split at h2
  ·rename_i hc;have hn:items[i]? =none:=by
    have:items.length<=i:=by simpa using hd
    simpa using this
   exact .inl ⟨(hJ ba _ H2 aU s2 hc i).2 hn,h2 ba H2 aU Step.refl bJ nh⟩
  ·exact h2.elim
 | cons x xs=>
  rw[hd] at h2;unfold dB at h2;split at h2
  ·rename_i hc;have hx:items[i]? =some x:=by
    have:=congrArg (fun l=>l[0]?) hd
    simpa using this
   have ll:items.drop (i+1)=xs:=by
    have:=congrArg (fun l=>l.drop 1) hd
    simpa[afh,aeT] using this
   obtain⟨yN,hy⟩:=(hJ ba _ H2 aU s2 hc i).1 x hx;refine .inr ⟨yN,fun aC H'=>∃ap jM cQ,aD X.K ap jM H'/\bc X.K ap jM.length H' cQ aC/\Step X.K au ph1.length H1 ap jM.length H' /\
     (dB chk g b xs cQ jM).Run (fun f p'=>∀fg H3,aD X.K fg p' H3->Step X.K ap jM.length H' fg p'.length H3->tD X D fg p' H3 f) (XE X ap jM.length H'),
    fun aC H' ⟨ap,jM,cQ,q1,q2,q3,q4⟩=>⟨xs.length,by simp,ap,jM,cQ,by rw[ll],q1,q2,q3,by rw[ll];exact q4⟩,fun v H3 y=>?_⟩
   obtain⟨dQ,s3,rv⟩:=hy v H3 y;have yO:(aq (g x iG) (fun σ1=>aq (b σ1) fun f=>match f with
    | .nx aC=>dB chk g b xs aC
    | .ct aC=>dB chk g b xs aC
    | .bk aC=>aA (.nx aC)
    | .rt w=>aA (.rt w)) ph2).Run (fun f ph'=>∀ap H',aD X.K ap ph' H'->Step X.K ba ph2.length H2 ap ph'.length H'->tD X D ap ph' H' f) (XE X ba ph2.length H3):=Out.Run.mono h2 (fun _ _ z=>z) fun _ _ z=>z.step s3
   refine tG.bind dQ (nh.mono s3) rv yO fun X6 g6 jo H4 fJ lm s4 X7 h4=>?_
   rw[cV] at h4;refine⟨jo,g6,X6,lm,X7,h4.mono (fun f ug h5 j8 H5 j2 s5=>?_) fun _ _ z=>z⟩;have oO:=((s2.trans s3).trans s4).trans s5;have uh:=(s3.trans s4).trans s5;cases f with
   | nx g7=>exact fun iL iH=>⟨j8,ug,g7,j2,iH,oO,h5.mono (fun f p' k ap H' r' s'=>k ap H' r' (uh.trans s')) fun _ _ z=>z.step s5⟩
   | ct g7=>exact fun iL iH=>⟨j8,ug,g7,j2,iH,oO,h5.mono (fun f p' k ap H' r' s'=>k ap H' r' (uh.trans s')) fun _ _ z=>z.step s5⟩
   | bk g7=>exact fun iL iH=>h5 j8 H5 j2 uh iL iH
   | rt w=>exact fun v hv=>h5 j8 H5 j2 uh v hv
  ·exact h2.elim
theorem PI.imp{t t':TI}(h:PI X tg iter t)(k:∀σ H R,t' σ H R->t σ H R):PI X tg iter t':=fun pins s σ H R I q=>h pins s σ H R I (k σ H R q)
theorem Ug(hp:PassesOwn (model X.prog X.w) X.A X.env X.xe)(hc:X.calm=true)(hi:II X tg iter im)(hg:IG X tg g)(hb:iE X body b)(hs:∀x,abf iter X.env x=pure x:=by intro _;rfl) :
  IS X (.For tg iter body [] pos) (eA im g b):=PS.imp (Ts hp hc hi hg hb hs) fun _ _ _ h=>RC h
noncomputable def jN(w:W):Po (List W×(PH->Bool)):=fun ph=>match w with
 | .ref i=>match ph[i]? with
  | some (.lst ws)=>some ((ws,fun ph'=>decide (ph'[i]? =some (.lst ws))),ph)
  | _=>none
 | .fl ws=>some ((ws,fun _=>true),ph)
 | _=>none
noncomputable def tupI(w:W):Po (List W×(PH->Bool)):=fun ph=>match w with
 | .tup ws=>some ((ws,fun _=>true),ph)
 | _=>none
noncomputable def tH(m:EM):IM:=fun σ=>aq (m σ) fun w=>lift (jN w)
noncomputable def xC(m:EM):IM:=fun σ=>aq (m σ) fun w=>lift (tupI w)
theorem RD{l:Expr}{m:EM}(hl:IE X l m):II X tg l (tH m):=by
 refine PI.imp (Rj hl) fun σ H R h=>?_
 obtain⟨φ,ph,ws,hH,hS,h⟩:=h;refine tM.bind hH hS h fun w ph1 au H1 v ax s1 r1 h=>?_
 obtain⟨r,ph',e,k⟩:=run_lift h;unfold jN at e;cases r1 with
 | ref hi=>
  rename_i i;simp only at e;split at e
  ·rename_i items hw;cases e;obtain⟨vs,hv,r⟩:=ax.hp _ _ hw;refine⟨_,rfl,⟨vs,aP.of hv⟩,k au H1 _ ax s1 ?_⟩;intro ba ph2 H2 aU s2 hc j;have gX:ph2[i]? =some (.lst items):=of_decide_eq_true hc;obtain⟨us,hu,ru⟩:=aU.hp _ _ gX;rw[s2.eq i hi] at hu;refine⟨fun w c7=>?_,fun hn=>?_⟩
   ·obtain⟨u,eu,g8⟩:=ru.get c7;refine⟨⟨us,u,aP.of hu,eu⟩,fun x eh hy=>?_⟩;obtain⟨rfl,hy⟩:=hy;have:=hy us (aP.of hu);rw[eu] at this;cases this;exact⟨aU,Step.refl,g8⟩
   ·refine⟨us,aP.of hu,?_⟩;rw[<- ru.length]
    simpa using hn
  ·cases e
 | fl hq r=>
  cases e;refine⟨_,rfl,⟨_,hq.sq⟩,k au H1 _ ax s1 ?_⟩;intro ba ph2 H2 aU s2 hc j;have h2:=aJ.mono s2 (.fl hq r);cases h2 with
  | fl h2 r2=>
   refine⟨fun w c7=>?_,fun hn=>?_⟩
   ·obtain⟨u,eu,g8⟩:=r2.get c7;refine⟨⟨_,u,h2.sq,eu⟩,fun x eh hy=>?_⟩;obtain⟨rfl,hy⟩:=hy;have:=hy _ h2.sq;rw[eu] at this;cases this;exact⟨aU,Step.refl,g8⟩
   ·refine⟨_,h2.sq,?_⟩;rw[<- r2.length]
    simpa using hn
 | _=>cases e
theorem Uh{l:Expr}{m:EM}(hl:IE X l m):II X tg l (xC m):=by
 refine PI.imp (Tr hl) fun σ H R h=>?_
 obtain⟨φ,ph,ws,hH,hS,h⟩:=h;refine tM.bind hH hS h fun w ph1 au H1 v ax s1 r1 h=>?_
 obtain⟨r,ph',e,k⟩:=run_lift h;unfold tupI at e;cases r1 with
 | tup hq r=>
  cases e;refine⟨_,rfl,⟨_,bz.of hq⟩,k au H1 _ ax s1 ?_⟩;intro ba ph2 H2 aU s2 hc j;have h2:=bz.of (K:=X.K) (s2.tup _ _ hq);have r2:=r.mono s2;refine⟨fun w c7=>?_,fun hn=>?_⟩
  ·obtain⟨u,eu,g8⟩:=r2.get c7;refine⟨⟨_,u,h2,eu⟩,fun x eh hy=>?_⟩;obtain⟨rfl,hy⟩:=hy;have:=hy _ h2;rw[eu] at this;cases this;exact⟨aU,Step.refl,g8⟩
  ·refine⟨_,h2,?_⟩;rw[<- r2.length]
   simpa using hn
 | _=>cases e
noncomputable def fw(lo:Int)(n:Nat):List W:=(aaP n).map fun i:Nat=>.int (lo+((i:Nat):Int))
noncomputable def yi(xs:List W):Po (List W×(PH->Bool)):=fun ph=>match xs with
 | [.int j]=>if -(2 ^ 62)<=j/\j<2 ^ 62 then some ((fw 0 j.toNat,fun _=>true),ph) else none
 | _=>none
noncomputable def fX(m:AM):IM:=fun σ=>aq (m σ) fun xs=>lift (yi xs)
theorem Ui{K:aab}{lo:Int}{n:Nat}{chk:PH->Bool}{φ:Nat->Addr}{k:Nat}{H:Hp}:yM K (t7 lo n) (fw lo n) chk φ k H:=by
 intro ba ph2 H2 aU s2 hc j;unfold fw;refine⟨fun w c7=>?_,fun hn=>?_⟩
 ·rw[aak] at c7;have hj:j<n:=by
   by_cases hj:j<n
   ·exact hj
   ·rw[adt (by simpa using hj)] at c7;cases c7
  rw[abX hj] at c7;cases c7;refine⟨hj,fun x eh hy=>?_⟩;obtain⟨rfl,rfl⟩:=hy;exact⟨aU,Step.refl,.int _⟩
 ·have:n<=j:=by simpa using hn
  exact this
theorem Pa{a:Expr}{m:AM}{p:Pos}(hg:Gl X "range")(hm:X.mg "range"=none)(ha:IA X [a] m)(hs:aaA [a] X.env=[(false,eval a X.env)]:=by rfl):II X tg (.Call (.Name "range" p) [a] [] pos) (fX m):=by
 refine PI.imp (O1 hg hm ha hs) fun σ H R h=>?_
 obtain⟨φ,ph,ws,hH,hS,h⟩:=h;refine tA.bind hH hS h fun xs ph1 au H1 vs ax s1 r1 h=>?_
 obtain⟨r,ph',e,k⟩:=run_lift h;unfold yi at e;split at e
 ·split at e
  ·rename_i hc;cases e;cases r1 with
   | cons r r'=>cases r;cases r';exact⟨_,rfl,hc.1,hc.2,k au H1 _ ax s1 Ui⟩
  ·cases e
 ·cases e
end
noncomputable def aj:AM:=fun _=>aA []
noncomputable def ah(e:EM)(r:AM):AM:=fun σ=>aq (e σ) fun w=>aq (r σ) fun ws=>aA (w::ws)
noncomputable def iA(ws:List W):Po W:=fun ph=>if ws.length<=aas then some (.tup ws,ph) else none
noncomputable def oP(ws:List W):Po W:=fun ph=>if ws.length<=aas then some (.ref ph.length,ph++[.lst ws]) else none
noncomputable def c6(a:AM):EM:=fun σ=>aq (a σ) fun ws=>lift (iA ws)
noncomputable def bP(a:AM):EM:=fun σ=>aq (a σ) fun ws=>lift (oP ws)
section
variable{X:Cx}{e:Expr}{es:List Expr}{m:EM}{a:AM}{pos:Pos}
theorem Uj:IA X [] aj:=PA.imp C7 fun σ H Q h=>by
 obtain⟨φ,ph,ws,hH,hS,h⟩:=h;exact h φ H [] hH Step.refl .nil
theorem RE(he:IE X e m)(hr:IA X es a)(hs:aaA (e::es) X.env=(false,eval e X.env)::aaA es X.env:=by rfl):IA X (e::es) (ah m a):=PA.imp (wt he hr hs) fun σ H Q h=>by
 obtain⟨φ,ph,ws,hH,hS,h⟩:=h;refine tM.bind hH hS h fun w ph1 au H1 v ax s1 r1 h=>tA.bind ax (hS.mono s1) h fun ys ph2 ba H2 vs aU s2 r2 h=>?_
 exact h ba H2 _ aU (s1.trans s2) (.cons (r1.mono s2) r2)
theorem Uk{x1:Nat}(h:IA X es a):IE X (.Tuple es x1 pos) (c6 a):=PE.imp (TC h) fun σ H Q h=>by
 obtain⟨φ,ph,ws,hH,hS,h⟩:=h;refine tA.bind hH hS h fun xs ph1 au H1 vs ax s1 r1 h=>?_
 obtain⟨w,ph',e,k⟩:=run_lift h;unfold iA at e;split at e
 ·rename_i hz;cases e;refine⟨by rw[<- r1.length];exact hz,fun p hp=>?_⟩;exact k au _ _ (ax.tup hp) (s1.trans (dj hp)) (.tup bF (r1.mono (dj hp)))
 ·cases e
theorem gE{K:aab}{φ:Nat->Addr}{ph:PH}{H:Hp}{p:Addr}{ws:List W}{vs:List V}(hH:aD K φ ph H)(r:aM K φ ph.length H ws vs)(hp:H p=none) :
  aD K (ext φ ph.length p) (ph++[.lst ws]) (upd H p (.lst vs))/\Step K φ ph.length H (ext φ ph.length p) (ph++[PO.lst ws]).length (upd H p (.lst vs))/\aJ K (ext φ ph.length p) (ph++[PO.lst ws]).length (upd H p (.lst vs)) (.ref ph.length) (.ref p):=by
 have hl:(ph++[PO.lst ws]).length=ph.length+1:=by simp
 rw[hl];have s:=vM (K:=K) (φ:=φ) (n:=ph.length) (o:=HO.lst vs) hp;refine⟨hH.new hp ⟨vs,bF,r.mono s⟩,s,?_⟩;have q:aJ K (ext φ ph.length p) (ph.length+1) (upd H p (.lst vs)) (.ref ph.length) (.ref (ext φ ph.length p ph.length)):=.ref (abQ _);rw[iW] at q;exact q
theorem Ul(h:IA X es a):IE X (.List es pos) (bP a):=PE.imp (TF h) fun σ H Q h=>by
 obtain⟨φ,ph,ws,hH,hS,h⟩:=h;refine tA.bind hH hS h fun xs ph1 au H1 vs ax s1 r1 h=>?_
 obtain⟨w,ph',e,k⟩:=run_lift h;unfold oP at e;split at e
 ·rename_i hz;cases e;refine⟨by rw[<- r1.length];exact hz,fun p hp=>?_⟩;obtain⟨q1,q2,q3⟩:=gE ax r1 hp;exact k _ _ _ q1 (s1.trans q2) q3
 ·cases e
end
noncomputable def bw(f:List W->Mo W)(a:AM):EM:=fun σ=>aq (a σ) f
noncomputable def dX:Fl->Mo W
 | .rt w=>aA w
 | .nx _=>aA .aO
 | _=>ed
noncomputable def fM(body:SM)(n np:Nat)(args:List W):Mo W:=if args.length=np then aq (body (args.map some++aay (n-args.length) none)) dX else ed
theorem b6{body:SM}{np:Nat}{xs:List W}(h:xs.length≠np):fM body n np xs ph=.no:=by
 unfold fM;rw[if_neg h];rfl
noncomputable def bS(P:aba)(w:World):li:=fun l H s E e s'=>∃C H',Flew P w l H s C H' e s'/\E (.ref C) none H'
noncomputable def cf(K:aab)(mg:Str->Option Value)(np:Nat)(f:List W->Mo W):Sp:=fun vs H Q E=>vs.length=np/\∃φ ph args,aD K φ ph H/\aM K φ ph.length H args vs/\(f args ph).Run (fun w ph'=>
 ∀ap H' v,aD K ap ph' H'->Step K φ ph.length H ap ph'.length H'->aJ K ap ph'.length H' w v->Q v H') (fun x ph'=>
 ∀ap H' C,aD K ap ph' H'->Step K φ ph.length H ap ph'.length H'->mg x.cls=some (.ref C)->x.fs=[]->E (.ref C) none H')
section
variable{X:Cx}{k:Nat}{f:Addr}{fd:aaS}{ps:List Str}{fm:List W->Mo W}{x:Str}{p pos:Pos}{e:Expr}{es:List Expr}{a:AM}
theorem RF{CX:li}{sp:Sp}{E:XK}{pins:List (Addr×Obj)}{σ:L2.St}{H:Hp}{s:aaf}{Q:VK}{us:List Value}{vs:List V}(F:bY X.prog X.w X.K X.mg X.base CX k f fd ps sp)(hr:dq k X.A)(hb:Binds X.K fd ps [])
  (I:Inv X pins σ H s) (r:Vals vs us) (h:sp vs H Q E) (hx:∀e s',CX X.stack H s E e s'->X.xe e s'):wpAny (model X.prog X.w) X.A (call (.ref f) us) (EP X pins σ Q) X.xe s:=by
 have hl:(us++[]).length=ps.length:=by rw[adH,<- r.length];exact F.len _ _ _ _ h
 have ui:=hb s us I.eF hl;rw[adH] at ui;refine wpAny_call (aeU (F.run X.A X.stack s H ⟨us,[]⟩ us vs Q E hr I.Xe ui r h) fun r s' hq=>?_);cases r with
 | error e=>exact hx e s' hq
 | ok fl=>
  cases fl with
  | ret u=>exact I.after hq
  | _=>exact adF hq
theorem RG(F:bY X.prog X.w X.K X.mg X.base (bS X.prog X.w) k f fd ps (cf X.K X.mg ps.length fm))(hl:∀{xs:List W} {ph:PH},xs.length≠ps.length->fm xs ph=.no)(hr:dq k X.A)(hg:Gl X x)(hm:X.mg x=some (.ref f))
  (hk:aax X.K (.ref f)=true) (hb:Binds X.K fd ps []) (ha:IA X (e::es) a) (du:(x==("__debug__":Str))=false:=by decide) (he:aaA (e::es) X.env=(false,eval e X.env)::aaA es X.env:=by rfl) (hpl:(adp pos (aaA es X.env)).any (·.1)=false:=by rfl) :
  IE X (.Call (.Name x p) (e::es) [] pos) (bw fm a):=by
 intro pins s σ H Q I h;obtain⟨φ,ph,ws,hH,hS,h⟩:=h;have hA:tA X a σ H (fun vs H1=>∃au ph1 xs,aD X.K au ph1 H1/\aM X.K au ph1.length H1 xs vs/\(fm xs ph1).Run (fun w ph'=>∀ap H' v,aD X.K ap ph' H'->Step X.K au ph1.length H1 ap ph'.length H'->aJ X.K ap ph'.length H' w v->Q v H') (XE X au ph1.length H1)):=
  tA.bind hH hS h fun xs ph1 au H1 vs ax s1 r1 h=>⟨au,ph1,xs,ax,r1,h.mono (fun w ph' k ap H' v r' s' q=>k ap H' v r' (s1.trans s') q) fun _ _ z=>z⟩
 refine adf (Cb I hg hm (PySem.W.callWith_K (h₀:=X.base) I.ok.mod.yw hk (aS (ha pos pins s σ H _ I hA) fun us s1 ⟨vs,H1,I1,r,q⟩=>⟨I1.eF,?_⟩) he hpl) du);obtain⟨au,ph1,xs,ax,r1,h1⟩:=q;have bU:vs.length=ps.length:=by
  rw[<- r1.length];by_cases z:xs.length=ps.length
  ·exact z
  ·rw[hl z] at h1;exact h1.elim
 refine RF (E:=fun c _ H'=>∃x ph' ap,fm xs ph1=.ex x ph'/\aD X.K ap ph' H'/\Step X.K au ph1.length H1 ap ph'.length H'/\∃C,c=.ref C/\X.mg x.cls=some (.ref C)/\x.fs=[]) F hr hb I1 r ⟨bU,au,ph1,xs,ax,r1,?_⟩ fun e s' hx=>?_
 ·cases q:fm xs ph1 with
  | ok w ph'=>rw[q] at h1;exact h1
  | ex x ph'=>exact fun ap H' C hr hs hm hf=>⟨x,ph',ap,rfl,hr,hs,C,rfl,hm,hf⟩
  | no=>rw[q] at h1;exact h1
 ·obtain⟨C,H',nj,x,ph',ap,ef,X8,X9,C',ec,Ya,Yb⟩:=hx;cases ec;rw[ef] at h1;exact h1 ap H' e s' X8 X9 ⟨C,Ya,Yb,.inr ⟨pins,σ,H1,s1,I1,nj⟩⟩
end
section
variable{P:aba}{w:World}{K:aab}{mg:Str->Option Value}{base:Heap}
variable{H':Hp}
theorem RH{h:Heap}{fr:List Addr}(aG:cc P w H' h)(hf:∀b∈fr,H' b=none):cc P w H' (aeL h fr):=fun a o e=>by
 refine(aG a o e).i4 (fun b u hb q=>acV _ q fun hm=>?_) (fun _ q=>q) fun _ _ q=>q
 have:=hf b hm
 rcases hb with z | z
 ·rw[z,e] at this;cases this
 ·rw[z] at this;cases this
theorem vN{env:Env}{l:List Env}(hf:env.frame=some env.locals):dP (env::l)=env.locals::dP l:=by
 unfold dP;rw[acv,hf]
theorem NI{X:Cx}{C:Addr}{e:Value}{s':aaf}{E:Value->aaf->Prop}(fU:X.stack=X.env::X.outer)(hf:X.env.frame=some X.env.locals)(hex:X.ex=[])(hm:Made X C H' e s') :
  wpAny (model X.prog X.w) X.A (leaving X.env e) (fun _ gq=>Flew X.prog X.w X.outer X.aL X.aE C H' e gq) E s':=by
 obtain⟨pins,σ,s,vs,h',a,rfl,rfl,I,hx⟩:=hm;have sf:=I.wq;have hl:=I.stack;rw[fU] at sf hl;have Yc:∀env∈X.env::X.outer,∀b,env.frame=some b->b∈dP (X.env::X.outer):=fun env he b hb=>adW.mpr ⟨env,he,hb⟩
 have gv:∀b:Addr,b∉X.ex:=fun b z=>by rw[hex] at z;exact nomatch z
 have out:∀b o,X.aE.heap.get? b=some o->b∉X.fs->b∉dP (X.env::X.outer):=fun b o e hb hm=>by
  rw[vN hf] at hm
  rcases aav.mp hm with z | z
  ·exact absurd (aan (aah e) I.ok.above) (by rw[z];exact abK _)
  ·exact hb z
 refine wpAny_leaves_madeW (base:=aeL s.heap (dP (X.env::X.outer))) (h:=s.heap) (by rw[I.ok.frames,fU]) hf (fun b o q=>afs _ q) (PySem.W.funFrames_hide hl Yc) hx fun Yd t f1 f2 f3 f4=>?_
 refine⟨a,.ref t,_,rfl,I.os,I.bare,f1,RH I.aG sf,⟨fun b o e n hb=>acV _ (I.base.keep b o e n hb (gv b)) (out b o e hb),fun b o e n hb=>?_,fun b o e n=>I.base.free b o e n (gv b),fun b o e hb=>?_,I.base.fP,I.base.el,I.base.fv⟩⟩
 ·obtain⟨sl,e1⟩:=I.base.slot b o e n hb (gv b);obtain⟨_,o',ho,hd⟩:=I.ok.gi.mem hb;rw[e] at ho;cases ho;obtain⟨pg,e2⟩:=f4 b _ (hx.keeps b _ e1) hd;exact⟨pg,e2⟩
 ·obtain⟨o',e1⟩:=I.base.there b o e (gv b);exact⟨o',acV _ e1 (out b o e hb)⟩
theorem NJ{X:Cx}{C:Addr}{H0:Hp}{e:Value}{s s':aaf}{pins:List (Addr×Obj)}{σ:L2.St}{E:Value->aaf->Prop}(fU:X.stack=X.env::X.outer)(hf:X.env.frame=some X.env.locals)(hex:X.ex=[])(I:Inv X pins σ H0 s)
  (hm:Flew X.prog X.w X.stack H0 s C H' e s'):wpAny (model X.prog X.w) X.A (leaving X.env e) (fun _ gq=>Flew X.prog X.w X.outer X.aL X.aE C H' e gq) E s':=by
 obtain⟨a,a0,B,rfl,ho,Wa,nj,aG,u⟩:=hm;rw[fU] at nj u;have gv:∀b:Addr,b∉X.ex:=fun b z=>by rw[hex] at z;exact nomatch z
 have out:∀b o,X.aE.heap.get? b=some o->b∉X.fs->b∉dP (X.env::X.outer):=fun b o e hb hm=>by
  rw[vN hf] at hm
  rcases aav.mp hm with z | z
  ·exact absurd (aan (aah e) I.ok.above) (by rw[z];exact abK _)
  ·exact hb z
 refine wpAny_leaves_onW (by rw[I.ok.frames,fU]) hf nj fun Yd f1 f4=>?_
 refine⟨a,a0,B,rfl,ho.trans I.os,Wa,f1,aG,⟨fun b o e n hb=>u.keep b o (I.base.keep b o e n hb (gv b)) (I.base.free b o e n (gv b)) (out b o e hb),fun b o e n hb=>?_,fun b o e n=>?_,fun b o e hb=>?_,
  fun b xs e=>u.fP b xs (I.base.fP b xs e),fun b ob xs e=>u.el b ob xs (I.base.el b ob xs e),fun b ps e=>?_⟩⟩
 ·obtain⟨sl,e1⟩:=I.base.slot b o e n hb (gv b);obtain⟨_,o',dY,hd⟩:=I.ok.gi.mem hb;rw[e] at dY;cases dY;obtain⟨pg,e2⟩:=u.slot b _ e1 (I.base.free b o e n (gv b)) (by rw[vN hf];exact aaN _ hb);obtain⟨Ye,e3⟩:=f4 b _ e2 hd;exact⟨Ye,e3⟩
 ·obtain⟨o',e1⟩:=I.base.there b o e (gv b);exact u.free b o' e1 (I.base.free b o e n (gv b))
 ·obtain⟨o',e1⟩:=I.base.there b o e (gv b);exact u.there b o' e1 (out b o e hb)
 ·obtain⟨m1,e1⟩:=I.base.fv b ps e;obtain⟨m2,e2⟩:=u.fv b _ e1;exact⟨m1++m2,by rw[e2,aft]⟩
theorem Um{x qual:Str}{st:Stmt}{f:Addr}{fd:aaS}{N ps:List Str}{k:Nat}{body:SM}(F:cz K x qual st f fd)(S:cA N ps (ag st))
  (oi:∀(cj:Value) (A:acm) (outer:List Env) (s:aaf) (H:Hp) (E:XK),dq k (A.deeper (afg qual (ag st) s.heap.objs.size f cj)) →
   iE (i7 (bS P w) P w K mg base N qual (ag st) f cj A outer s H E) (bg st) body):bY P w K mg base (bS P w) (k+1) f fd ps (cf K mg ps.length (fM body N.length ps.length)):=by
 obtain⟨oc,od,kV,doc,pm,an,cj,ct,jZ,rfl,lk,hcd⟩:=F.ex;refine VZ lk hcd S (fun vs H Q E h=>h.1) fun A outer s H vs Q E hr h=>?_
 obtain⟨hl,φ,ph,args,hH,ra,h⟩:=h;refine⟨_,oi cj A outer s H E hr,?_⟩;have FP:args.length=vs.length:=ra.length;unfold fM at h;rw[if_pos (FP.trans hl),cV,FP] at h;refine⟨φ,ph,_,hH,bc.start (N.length-vs.length) ra,h.mono (fun fl ph' h au H1 ax s1=>?_) fun x ph' h ap H' e s' r' cP th=>?_⟩
 ·cases fl with
  | rt w=>exact fun v rv=>h au H1 v ax s1 rv
  | nx aC=>exact fun σ1 eG=>h au H1 .aO ax s1 .aO
  | bk aC=>exact h.elim
  | ct aC=>exact h.elim
 ·obtain⟨C,hm,Yf,th⟩:=th;have hE:=h ap H' C r' cP hm Yf;have key:wpAny (model P w) (A.deeper (afg qual (ag st) s.heap.objs.size f cj)) (leaving (afg qual (ag st) s.heap.objs.size f cj) e) (fun _ gq=>Flew P w outer H s C H' e gq) (fun e' gq=>bS P w outer H s E e' gq) s':=by
   rcases th with th | ⟨pins,σ,H0,s0,I0,th⟩
   ·exact NI (X:=i7 (bS P w) P w K mg base N qual (ag st) f cj A outer s H E) rfl rfl rfl th
   ·exact NJ (X:=i7 (bS P w) P w K mg base N qual (ag st) f cj A outer s H E) rfl rfl rfl I0 th
  exact abO key (fun _ gq q=>⟨C,H',q,hE⟩) fun _ _ q=>q
end
theorem Cg{K:aab}{φ:Nat->Addr}{n:Nat}{H:Hp}:∀(ns:List Int),aM K φ n H (ns.map W.int) (ns.map V.int)
 | []=>.nil
 | n::ns=>.cons (.int n) (Cg ns)
theorem bf.or{f:Value->Value->Sem Value}{r r':R2}(h:bf X f r)(h':bf X f r'):bf X f (fun x y H Q=>r x y H Q\/r' x y H Q):=by
 intro pins s σ H x y v u Q I rx ry q
 rcases q with q | q
 ·exact h pins s σ H x y v u Q I rx ry q
 ·exact h' pins s σ H x y v u Q I rx ry q
noncomputable def cB(w:W)(ph:PH):Option (List W):=match w with
 | .tup ws=>some ws
 | .fl ws=>some ws
 | .ref i=>match ph[i]? with
  | some (.lst ws)=>some ws
  | _=>none
 | _=>none
variable{v:V}{ws:List W}
theorem vO{w:W}(hH:aD K φ ph H)(r:aJ K φ ph.length H w v)(e:cB w ph=some ws) :
  ∃a vs,v=.ref a/\(aP K H a vs\/bz K H a vs)/\aM K φ ph.length H ws vs:=by
 unfold cB at e;cases r with
 | tup h r=>cases e;exact⟨_,_,rfl,.inr (bz.of h),r⟩
 | fl h r=>cases e;exact⟨_,_,rfl,.inl h.sq,r⟩
 | ref hi=>
  simp only at e;split at e
  ·rename_i cQ hw;cases e;obtain⟨vs,hv,r⟩:=hH.hp _ _ hw;exact⟨_,vs,rfl,.inl (aP.of hv),r⟩
  ·cases e
 | _=>cases e
variable{vs:List V}
theorem Ci{i:Int}{w:W}(r:aM K φ n H ws vs)(e:ck ws i=some w):∃v,ck vs i=some v/\aJ K φ n H w v:=by
 unfold ck at e ⊢;rw[r.length] at e;cases q:fD vs.length i with
 | none=>rw[q] at e;cases e
 | some j=>
  rw[q] at e;exact r.get e
noncomputable def df:W->W->Po W:=fun x y ph=>match y with
 | .int i=>match x with
  | .str z=>if z.length<=aas then(ck z.cps.toList i).map fun c=>(.str ⟨#[c]⟩,ph) else none
  | x=>(cB x ph).bind fun ws=>(ck ws i).map fun w=>(w,ph)
 | _=>none
theorem Wb : cm K (yF K) df := by
  intro φ ph H x y vx vy w ph' Q hH rx ry e k;unfold df at e;cases ry with
  | int i =>
    cases rx with
    | str z =>
      simp only at e;split at e
      · rename_i hz
        cases q : ck z.cps.toList i with
        | none => rw [q] at e; cases e
        | some c =>
          rw [q] at e;cases e;exact .inr (.inr ⟨z, i, c, rfl, rfl, hz, q, k φ H _ hH Step.refl (.str _)⟩)
      · cases e
    | _ =>
      all_goals
        first
          | (cases e; done)
          | (rename_i h r
             simp only [cB, Option.bind] at e;cases q : ck _ i with
             | none => rw [q] at e; cases e
             | some c =>
               rw [q] at e;cases e;obtain ⟨v, ev, rv⟩ := Ci r q
               first
                 | exact .inr (.inl ⟨_, _, i, v, rfl, rfl, bz.of h, ev, k φ H _ hH Step.refl rv⟩)
                 | exact .inl ⟨_, _, i, v, rfl, rfl, h.sq, ev, k φ H _ hH Step.refl rv⟩)
          | (rename_i hi
             simp only [cB] at e;split at e
             · rename_i cQ hw
               simp only [Option.bind] at e;cases q : ck cQ i with
               | none => rw [q] at e; cases e
               | some c =>
                 rw [q] at e;cases e;obtain ⟨vs, hv, r⟩ := hH.hp _ _ hw;obtain ⟨v, ev, rv⟩ := Ci r q;exact .inl ⟨_, _, i, v, rfl, rfl, aP.of hv, ev, k φ H _ hH Step.refl rv⟩
             · cases e)
  | _ => cases e
noncomputable def fN(K:aab)(r:List V->Hp->VK->Prop)(f:List W->Po W):Prop:=∀{φ:Nat->Addr} {ph:PH} {H:Hp} {xs:List W} {vs:List V} {w:W} {ph':PH} {Q:VK},aD K φ ph H->aM K φ ph.length H xs vs->f xs ph=some (w,ph') →
 (∀ap H' v,aD K ap ph' H'->Step K φ ph.length H ap ph'.length H'->aJ K ap ph'.length H' w v->Q v H')->r vs H Q
noncomputable def bo(f:List W->Po W)(a:AM):EM:=fun σ=>aq (a σ) fun xs=>lift (f xs)
section
variable{X:Cx}{x:Str}{p pos:Pos}{e:Expr}{es:List Expr}{t:AM}{id T:String}{r:List V->Hp->VK->Prop}{f:List W->Po W}
theorem BB(hi:fN X.K r f){σ:L2.St}{H:Hp}{Q:VK}(h:tM X (bo f t) σ H Q):yD r (tA X t) σ H Q:=by
 obtain⟨φ,ph,ws,hH,hS,h⟩:=h;refine tA.bind hH hS h fun xs ph1 au H1 vs ax s1 r1 h=>?_
 obtain⟨w,ph',e,k⟩:=run_lift h;exact hi ax r1 e fun ba H2 v aU s2 r2=>k ba H2 v aU (s1.trans s2) r2
theorem Qy(hc:cy X (.builtin id) r)(hi:fN X.K r f)(hg:Gl X x)(hm:X.mg x=none)(hv:abk x=some (.builtin id))(ha:IA X (e::es) t)(hn:x≠"__name__":=by decide)(du:(x==("__debug__":Str))=false:=by decide)
  (he:aaA (e::es) X.env=(false,eval e X.env)::aaA es X.env:=by rfl) (hpl:(adp pos (aaA es X.env)).any (·.1)=false:=by rfl):IE X (.Call (.Name x p) (e::es) [] pos) (bo f t):=
 PE.imp (Bx hc hg hm hv ha hn du he hpl) fun _ _ _ h=>BB hi h
theorem Pb(hc:cy X (.type T) r)(hi:fN X.K r f)(hg:Gl X x)(hm:X.mg x=none)(hv:abk x=some (.type T))(ha:IA X (e::es) t)(hn:x≠"__name__":=by decide)(du:(x==("__debug__":Str))=false:=by decide)
  (he:aaA (e::es) X.env=(false,eval e X.env)::aaA es X.env:=by rfl) (hpl:(adp pos (aaA es X.env)).any (·.1)=false:=by rfl):IE X (.Call (.Name x p) (e::es) [] pos) (bo f t):=
 PE.imp (O5 hc hg hm hv ha hn du he hpl) fun _ _ _ h=>BB hi h
end
theorem cy.or{f:Value}{r r':List V->Hp->VK->Prop}(h:cy X f r)(h':cy X f r'):cy X f (fun xs H Q=>r xs H Q\/r' xs H Q):=by
 intro pins s σ H xs us Q I rx q
 rcases q with q | q
 ·exact h pins s σ H xs us Q I rx q
 ·exact h' pins s σ H xs us Q I rx q
noncomputable def bG:List W->Po W:=fun xs ph=>match xs with
 | [.str z]=>if z.length<=aas then some (.int z.length,ph) else none
 | [.kt ws]=>some (.int ws.length,ph)
 | [w]=>(cB w ph).map fun ws=>(.int ws.length,ph)
 | _=>none
abbrev ES(K:aab):List V->Hp->VK->Prop:=fun xs H Q=>(∃p ys,xs=[.ref p]/\(aP K H p ys\/bz K H p ys)/\Q (.int ys.length) H)\/(∃z,xs=[.str z]/\z.length<=aas/\Q (.int z.length) H)
theorem cZ:fN K (ES K) bG:=by
 intro φ ph H xs vs w ph' Q hH r e k;unfold bG at e;split at e
 ·split at e
  ·rename_i hz;cases e;cases r with
   | cons r r'=>cases r;cases r';exact .inr ⟨_,rfl,hz,k φ H _ hH Step.refl (.int _)⟩
  ·cases e
 ·cases e;cases r with
  | cons r r'=>
   cases r';cases r with
   | kt h rs=>exact .inl ⟨_,_,rfl,.inr (.inr h),by rw[<- rs.length];exact k φ H _ hH Step.refl (.int _)⟩
 ·rename_i w0 yP tJ;cases r with
  | cons r r'=>
   cases r';cases q:cB w0 ph with
   | none=>rw[q] at e;cases e
   | some ws=>
    rw[q] at e;cases e;obtain⟨a,ys,rfl,hs,rs⟩:=vO hH r q;exact .inl ⟨a,ys,rfl,hs,by rw[<- rs.length];exact k φ H _ hH Step.refl (.int _)⟩
 ·cases e
theorem cT:cy X (.builtin "len") (ES X.K):=cy.or Mw Mx
noncomputable def nu(K:aab)(T:String)(r:V->List V->Hp->VK->Prop)(f:W->List W->Po W):Prop:=∀{φ:Nat->Addr} {ph:PH} {H:Hp} {x:W} {xs:List W} {vx:V} {vs:List V} {w:W} {ph':PH} {Q:VK},
 aD K φ ph H->aJ K φ ph.length H x vx->aM K φ ph.length H xs vs->f x xs ph=some (w,ph') →
 (∀ap H' v,aD K ap ph' H'->Step K φ ph.length H ap ph'.length H'->aJ K ap ph'.length H' w v->Q v H')->r vx vs H Q
noncomputable def nv(K:aab)(T:String)(ty:W->PH->Bool):Prop:=∀{φ:Nat->Addr} {ph:PH} {H:Hp} {x:W} {vx:V},aD K φ ph H->aJ K φ ph.length H x vx->ty x ph=true->yG K T vx H
noncomputable def oQ(b:PH->Bool):Po Unit:=fun ph=>if b ph=true then some ((),ph) else none
noncomputable def cJ(ty:W->PH->Bool)(f:W->List W->Po W)(o:EM)(a:AM):EM:=fun σ=>aq (o σ) fun x=>aq (lift (oQ (ty x))) fun _=>aq (a σ) fun xs=>lift (f x xs)
noncomputable def dF(w:W)(ph:PH):Bool:=match w with
 | .ref i=>match ph[i]? with
  | some (.lst _)=>true
  | _=>false
 | .fl _=>true
 | _=>false
theorem kS:nv K "list" dF:=by
 intro φ ph H x vx hH rx e;unfold dF at e;cases rx with
 | ref hi=>
  simp only at e;split at e
  ·rename_i cQ hw;obtain⟨vs,hv,r⟩:=hH.hp _ _ hw;exact .inl ⟨rfl,vs,aP.of hv⟩
  ·cases e
 | fl h r=>exact .inl ⟨rfl,_,h.sq⟩
 | _=>cases e
section
variable{X:Cx}{o e:Expr}{es:List Expr}{mo:EM}{t:AM}{name:Str}{apos dW:Pos}{T id:String}{r:V->List V->Hp->VK->Prop}{ty:W->PH->Bool}{f:W->List W->Po W}
theorem Qz(ht:nv X.K T ty)(hi:nu X.K T r f){σ:L2.St}{H:Hp}{Q:VK}(h:tM X (cJ ty f mo t) σ H Q):FK X.K T r (tM X mo) (tA X t) σ H Q:=by
 obtain⟨φ,ph,ws,hH,hS,h⟩:=h;refine tM.bind hH hS h fun x ph1 au H1 v ax s1 r1 h=>?_
 rw[cV] at h;obtain⟨_,ph2,e2,h⟩:=run_lift h;unfold oQ at e2;split at e2
 ·rename_i hy;cases e2;refine⟨ht ax r1 hy,tA.bind ax (hS.mono s1) h fun xs ph2 ba H2 vs aU s2 r2 h=>?_⟩;obtain⟨w,ph',e,k⟩:=run_lift h;exact hi aU (r1.mono s2) r2 e fun fg H3 v dQ s3 r3=>k fg H3 v dQ ((s1.trans s2).trans s3) r3
 ·cases e2
theorem Wc(pa:afE T)(slot:Slot T name id)(lj:typeOf (.builtin id)=pure (.type "method_descriptor"))(hm:pk X id r)(ht:nv X.K T ty)(hi:nu X.K T r f)(ho:IE X o mo)(ha:IA X (e::es) t)
  (kO:aes o name X.env (eval o X.env)=eval o X.env:=by rfl)
  (yf:((adp dW (aaA (e::es) X.env)).all (fun x=> !x.1)&&(backToKw dW (keywordEach [] X.env)).all (fun x=>x.1.isSome)
   && decide ((e::es).length+([]:List Keyword).length+(if([]:List Keyword).isEmpty then 0 else 1)<30))=true:=by rfl)
  (kP:(apos.endLine==dW.line)=true:=by rfl) (hs:aaA (e::es) X.env=(false,eval e X.env)::aaA es X.env:=by rfl) (wR:(adp dW (aaA es X.env)).any (·.1)=false:=by rfl) :
  IE X (.Call (.Attribute o name apos) (e::es) [] dW) (cJ ty f mo t):=
 PE.imp (V4 pa slot lj hm ho ha kO yf kP hs wR) fun _ _ _ h=>Qz ht hi h
end
variable{i:Nat}
theorem vP{lp:List W}(hH:aD K φ ph H)(hi:ph[i]? =some (.lst lp))(r:aM K φ ph.length H ws vs) :
  aD K φ (ph.set i (.lst ws)) (upd H (φ i) (.lst vs))/\Step K φ ph.length H φ (ph.set i (.lst ws)).length (upd H (φ i) (.lst vs)):=by
 obtain⟨y,ey,my⟩:=hH.mu hi rfl;have s:=kB (K:=K) (φ:=φ) (n:=ph.length) (y:=HO.lst vs) ey my;rw[abA];exact⟨hH.put hi rfl ⟨vs,bF,r.mono s⟩,s⟩
noncomputable def dJ:W->List W->Po W:=fun x xs ph=>match x,xs with
 | .ref i,[y]=>match ph[i]? with
  | some (.lst ws)=>if ws.length<aas then some (.aO,ph.set i (.lst (ws++[y]))) else none
  | _=>none
 | _,_=>none
theorem ku:nu K "list" Cf dJ:=by
 intro φ ph H x xs vx vs w ph' Q hH rx rs e k;unfold dJ at e;split at e
 ·rename_i i y;split at e
  ·rename_i ws hw;split at e
   ·rename_i hz;cases e;cases rx with
    | ref hi=>
     cases rs with
     | cons ry rr=>
      cases rr;obtain⟨us,hv,r⟩:=hH.hp _ _ hw;obtain⟨q1,q2⟩:=vP hH hw (r.append (.cons ry .nil));exact⟨_,us,_,rfl,rfl,hv,by rw[<- r.length];exact hz,k φ _ _ q1 q2 .aO⟩
   ·cases e
  ·cases e
 ·cases e
noncomputable def iB:W->Po W:=fun x=>match x with
 | .int i=>ret (.int (-i))
 | _=>d9
theorem Uo:FO K (rU fun i=>.int (-i)) iB:=by
 intro φ ph H x vx w ph' Q hH rx e k;unfold iB at e;split at e
 ·cases e;cases rx;exact⟨_,rfl,k φ H _ hH Step.refl (.int _)⟩
 ·cases e
noncomputable def eY:W->W->Po W:=yL fun i j=>i-j
theorem Up:cm K (gY fun i j=>.int (i-j)) eY:=V7
noncomputable def aZ:W->W->Po W:=mO (fun _ j=>decide (j≠0)) fun i j=>i.fmod j
theorem Uq:cm K (rI (fun _ j=>j≠0) fun i j=>.int (i.fmod j)) aZ:=C9 fun i j h=>by simpa using h
noncomputable def D2(i j:Int):Prop:=j≠0/\j.natAbs<2 ^ 64
theorem QA:bf X (acR .FloorDiv) (rI D2 fun i j=>.int (i.fdiv j)):=yB fun i j _ _ _ _ _ hc q=>floordiv_int hc.1 q (.inl (PyProof.noPylong_of_log2 (by
 have h0:j.natAbs≠0:=by have:=hc.1;omega
 have:=(Nat.log2_lt h0).mpr hc.2;omega)))
noncomputable def bx:W->W->Po W:=mO (fun _ j=>decide (j≠0)&&decide (j.natAbs<2 ^ 64)) fun i j=>i.fdiv j
theorem Ur:cm K (rI D2 fun i j=>.int (i.fdiv j)) bx:=C9 fun i j h=>by
 rw[aau] at h;exact⟨of_decide_eq_true h.1,of_decide_eq_true h.2⟩
noncomputable def iI:W->W->Po W:=mP fun i j=>decide (i<j)
noncomputable def jh:W->W->Po W:=mP fun i j=>decide (i<=j)
noncomputable def uj:W->W->Po W:=mP fun i j=>decide (j<i)
noncomputable def Yg:W->W->Po W:=mP fun i j=>decide (j<=i)
noncomputable def mulC(i j:Int):Bool:=(decide (-(2 ^ 64)<i)&&decide (i<2 ^ 64))||(decide (-(2 ^ 64)<j)&&decide (j<2 ^ 64))
noncomputable def mR:W->W->Po W:=fun x y=>match x,y with
 | .int i,.int j=>if mulC i j=true then ret (.int (i*j)) else d9
 | _,_=>d9
theorem Us:cm K (rI oK fun i j=>.int (i*j)) mR:=by
 intro φ ph H x y vx vy w ph' Q hH rx ry e k;unfold mR at e;split at e
 ·split at e
  ·rename_i hc;cases e;cases rx;cases ry;refine⟨_,_,rfl,rfl,?_,k φ H _ hH Step.refl (.int _)⟩;unfold mulC at hc;simp only[acu,aau,decide_eq_true_eq] at hc;exact hc
  ·cases e
 ·cases e
noncomputable def addW:W->W->Po W:=fun x y ph=>match x,y with
 | .int i,.int j=>some (.int (i+j),ph)
 | .str i,.str j=>if i.length+j.length<=aas then some (.str (i++j),ph) else none
 | .ref a,.ref b=>match ph[a]?,ph[b]? with
  | some (.lst xs),some (.lst ys)=>if xs.length+ys.length<=aas then some (.ref ph.length,ph++[.lst (xs++ys)]) else none
  | _,_=>none
 | .tup xs,.tup ys=>if xs≠[]/\xs.length+ys.length<=aas then some (.tup (xs++ys),ph) else none
 | _,_=>none
abbrev D3(K:aab):R2:=fun x y H Q=>((gY fun i j=>.int (i+j)) x y H Q\/∃i j,x=.str i/\y=.str j/\i.length+j.length<=aas/\Q (.str (i++j)) H)\/(EO x y H Q\/DZ K x y H Q)
theorem RI:bf X (acR .Add) (D3 X.K):=bf.or (bf.or Tt NE) (bf.or TX Rq)
theorem Ut:cm K (D3 K) addW:=by
 intro φ ph H x y vx vy w ph' Q hH rx ry e k;unfold addW at e;split at e
 ·cases e;cases rx;cases ry;exact .inl (.inl ⟨_,_,rfl,rfl,k φ H _ hH Step.refl (.int _)⟩)
 ·split at e
  ·rename_i hz;cases e;cases rx;cases ry;exact .inl (.inr ⟨_,_,rfl,rfl,hz,k φ H _ hH Step.refl (.str _)⟩)
  ·cases e
 ·split at e
  ·rename_i xs ys hx hy;split at e
   ·rename_i hz;cases e;cases rx;cases ry;obtain⟨us,hu,ru⟩:=hH.hp _ _ hx;obtain⟨vs,hv,rv⟩:=hH.hp _ _ hy;refine .inr (.inl ⟨_,_,us,vs,rfl,rfl,hu,hv,by rw[<- ru.length,<- rv.length];exact hz,fun p hp=>?_⟩);obtain⟨q1,q2,q3⟩:=gE hH (ru.append rv) hp;exact k _ _ _ q1 q2 q3
   ·cases e
  ·cases e
 ·split at e
  ·rename_i xs ys hz;cases e;cases rx with
   | tup hx rx=>
    cases ry with
    | tup hy ry=>
     rename_i a us b vs;refine .inr (.inr ⟨a,b,us,vs,rfl,rfl,bz.of hx,bz.of hy,?_,by rw[<- rx.length,<- ry.length];exact hz.2,fun he=>?_,fun hn p hp=>?_⟩)
     ·rintro rfl;cases rx;exact hz.1 rfl
     ·subst he;cases ry;refine k φ H _ hH Step.refl ?_;rw[adH];exact .tup hx rx
     ·exact k φ _ _ (hH.tup hp) (dj hp) (.tup bF ((rx.append ry).mono (dj hp)))
  ·cases e
 ·cases e
noncomputable def ET:W->W->Po W:=fun x y=>match y with
 | .aO=>ret (.bl (decide (x=.aO)))
 | _=>d9
noncomputable def D4:W->W->Po W:=fun x y=>match y with
 | .aO=>ret (.bl (!decide (x=.aO)))
 | _=>d9
noncomputable def EU:List W->Po W:=fun xs=>match xs with
 | [.int i]=>ret (.int i)
 | [.bl b]=>ret (.int (if b then 1 else 0))
 | _=>d9
noncomputable def Xl:List W->Po W:=fun xs=>match xs with
 | [.int i]=>ret (.int (if i<0 then -i else i))
 | _=>d9
noncomputable def ox(w:W)(ph:PH):Option String:=match w with
 | .aO=>some "NoneType"
 | .bl _=>some "bool"
 | .int _=>some "int"
 | .str _=>some "str"
 | .tup _=>some "tuple"
 | .fl _=>some "list"
 | .ref i=>match ph[i]? with
  | some (.lst _)=>some "list"
  | some (.a8 _)=>some "dict"
  | _=>none
 | .exc .. =>none
 | .fn .. =>none
 | .kt .. =>none
noncomputable def dC(t c:String):Bool:=t==c||(t=="bool"&&c=="int")
noncomputable def gx(c:String)(w:W):Po W:=fun ph=>match ox w ph with
 | some t=>some (.bl (dC t c),ph)
 | none=>none
noncomputable def fE(c:String)(m:EM):EM:=fun σ=>aq (m σ) fun w=>lift (gx c w)
inductive iq(K:aab)(H:Hp):V->String->Prop where
 | aO:iq K H .aO "NoneType"
 | bl (x:Bool):iq K H (.bl x) "bool"
 | int (i:Int):iq K H (.int i) "int"
 | str (x:Str):iq K H (.str x) "str"
 | lst {a:Addr} {xs:List V} (e:aP K H a xs):iq K H (.ref a) "list"
 | tup {a:Addr} {xs:List V} (e:bz K H a xs):iq K H (.ref a) "tuple"
 | dk {a:Addr} {kvs:List (Key×V)} (e:H a=some (.dK kvs)):iq K H (.ref a) "dict"
 | dt {a:Addr} {kvs:List (List Key×V)} (e:H a=some (.dT kvs)):iq K H (.ref a) "dict"
theorem RJ{w:W}{t:String}(hH:aD K φ ph H)(r:aJ K φ ph.length H w v)(e:ox w ph=some t):iq K H v t:=by
 unfold ox at e;cases r with
 | aO=>cases e;exact .aO
 | bl b=>cases e;exact .bl b
 | int b=>cases e;exact .int b
 | str b=>cases e;exact .str b
 | tup h r=>cases e;exact .tup (bz.of h)
 | fl h r=>cases e;exact .lst h.sq
 | ref hi=>
  simp only at e;split at e
  ·rename_i ws hw;cases e;obtain⟨vs,hv,_⟩:=hH.hp _ _ hw;exact .lst (aP.of hv)
  ·rename_i ws hw;cases e
   rcases hH.hp _ _ hw with⟨kvs,q,_⟩ | ⟨kvs,q,_⟩
   ·exact .dk q
   ·exact .dt q
  ·cases e
 | exc=>cases e
 | fn=>cases e
 | kt=>cases e
noncomputable def jO(K:aab)(c:String):Prop:=∀t∈["NoneType","bool","int","str","list","tuple","dict"],PySem.W.kitOne K (.type t) (.type c)=some (dC t c)
noncomputable def Yh(K:aab)(c:String):List V->Hp->VK->Prop:=fun xs H Q=>∃x t,xs=[x,.ty c]/\iq K H x t/\Q (.bl (dC t c)) H
theorem RK{c:String}(hk:jO X.K c):cy X (.builtin "isinstance") (Yh X.K c):=by
 intro pins s σ H xs us Q I r h;obtain⟨x,t,rfl,kv,q⟩:=h;obtain⟨u,u2,rfl,rx,rc⟩:=Vals.two r;obtain rfl:u2=aef c:=rc;have fin:∀tk,EP X pins σ Q (.bool (dC t c)) { s with toks:=tk }:=fun tk=>⟨.bl _,H,I.tok tk,rfl,q⟩
 cases kv with
 | aO=>cases(show u=abN from rx);exact abY PySem.W.kitx_none I.eF acs (hk _ (by decide)) (fun z=>nomatch z) fin
 | bl y=>cases(show u=Value.bool y from rx);exact abY PySem.W.kitx_bool I.eF acs (hk _ (by decide)) (fun z=>nomatch z) fin
 | int i=>obtain⟨t,rfl⟩:=(show ∃t,u=afO i t from rx);exact abY PySem.W.kitx_int I.eF acs (hk _ (by decide)) (fun z=>nomatch z) fin
 | str y=>obtain⟨t,rfl⟩:=(show ∃t,u=afP y t from rx);exact abY PySem.W.kitx_str I.eF acs (hk _ (by decide)) (fun z=>nomatch z) fin
 | @lst a ys e=>
  cases(show u=abc a from rx);obtain⟨its,_,⟨o,n,h1,h2,_⟩,_⟩:=I.list e;exact abY PySem.W.kitx_list I.eF ⟨_,h1,h2⟩ (hk _ (by decide)) (fun z=>nomatch z) fin
 | @tup a ys e=>
  cases(show u=abc a from rx);obtain⟨its,_,⟨o,h1,h2,_⟩,_⟩:=I.tuple e;exact abY PySem.W.kitx_tuple I.eF ⟨_,h1,h2⟩ (hk _ (by decide)) (fun z=>nomatch z) fin
 | @dk a kvs e=>
  cases(show u=abc a from rx);obtain⟨_,_,vs,_,ob,_,_,h1,h2,_⟩:=kR I.aG e;exact abY afG I.eF ⟨_,h1,h2.1⟩ (hk _ (by decide)) (fun z=>nomatch z) fin
 | @dt a kvs e=>
  cases(show u=abc a from rx);obtain⟨_,_,xs,_,ob,_,_,h1,h2,_⟩:=sx I.aG e;exact abY afG I.eF ⟨_,h1,h2.1⟩ (hk _ (by decide)) (fun z=>nomatch z) fin
section
variable{X:Cx}{e:Expr}{m:EM}{p p2 pos:Pos}
theorem We{c:Str}{cn:String}(hk:jO X.K cn)(hv:abk c=some (.type cn))(hg:Gl X "isinstance")(hm:X.mg "isinstance"=none)(yQ:Gl X c)(yR:X.mg c=none)(he:IE X e m)
  (hn:c≠"__name__":=by decide) (hd:(c==("__debug__":Str))=false:=by decide)
  (hs:aaA [e,.Name c p2] X.env=[(false,eval e X.env),(false,eval (.Name c p2) X.env)]:=by rfl) (bQ:aaA [.Name c p2] X.env=[(false,eval (.Name c p2) X.env)]:=by rfl)
  (hpl:(adp pos (aaA [.Name c p2] X.env)).any (·.1)=false:=by rfl) :
  IE X (.Call (.Name "isinstance" p) [e,.Name c p2] [] pos) (fE cn m):=by
 refine PE.imp (Bx (RK hk) hg hm PyProof.Rows.boot_isinstance (wt he (wt (Ra (v:=.ty cn) yQ yR hv rfl hn hd) C7 (by rw[bQ];rfl)) (by rw[hs,bQ])) (he:=by rw[hs,bQ]) (hpl:=hpl)) fun σ H Q h=>?_
 obtain⟨φ,ph,ws,hH,hS,h⟩:=h;refine tM.bind hH hS h fun x ph1 au H1 vx ax s1 rx h=>?_
 obtain⟨w,ph',e,k⟩:=run_lift h;unfold gx at e;split at e
 ·rename_i t ht;cases e;exact⟨vx,t,rfl,RJ ax rx ht,k au H1 _ ax s1 (.bl _)⟩
 ·cases e
end
theorem BC:jO K "int":=by
 intro t ht;simp only[aav,acS,or_false] at ht
 rcases ht with rfl | rfl | rfl | rfl | rfl | rfl | rfl <;> rfl
theorem A4:jO K "bool":=by
 intro t ht;simp only[aav,acS,or_false] at ht
 rcases ht with rfl | rfl | rfl | rfl | rfl | rfl | rfl <;> rfl
theorem vQ:jO K "str":=by
 intro t ht;simp only[aav,acS,or_false] at ht
 rcases ht with rfl | rfl | rfl | rfl | rfl | rfl | rfl <;> rfl
theorem vD:jO K "list":=by
 intro t ht;simp only[aav,acS,or_false] at ht
 rcases ht with rfl | rfl | rfl | rfl | rfl | rfl | rfl <;> rfl
theorem NK:jO K "tuple":=by
 intro t ht;simp only[aav,acS,or_false] at ht
 rcases ht with rfl | rfl | rfl | rfl | rfl | rfl | rfl <;> rfl
noncomputable def a9{α β:Type}(f:α->Option β):List α->Option (List β)
 | []=>some []
 | a::as=>match f a,a9 f as with
  | some b,some bs=>some (b::bs)
  | _,_=>none
noncomputable def dat(ph:PH):Nat->W->Option acN
 | _,.aO=>some .none
 | _,.bl b=>some (.bool b)
 | _,.int i=>some (.int i)
 | _,.str x=>if ach x=true then some (.str x) else none
 | n+1,.tup ws=>(a9 (dat ph n) ws).map .tuple
 | n+1,.fl ws=>(a9 (dat ph n) ws).map .list
 | n+1,.ref i=>match ph[i]? with
  | some (.lst ws)=>(a9 (dat ph n) ws).map .list
  | _=>none
 | _,_=>none
section
variable{X:Cx}{pins:List (Addr×Obj)}{σ:L2.St}{H:Hp}{s:aaf}{φ:Nat->Addr}{ph:PH}
noncomputable def j3(s:aaf)(n:Nat)(u:Value)(d:acN):Prop:=(∃as,Reads s.heap u d as)/\d.canLay0=true/\d.depth<=n
theorem vq{n:Nat}(ih:∀{w:W} {v:V} {u:Value} {d:acN},aJ X.K φ ph.length H w v->RelV v u->dat ph n w=some d->j3 s n u d) :
  ∀{ws:List W} {vs:List V} {us:List Value} {ds:List acN},aM X.K φ ph.length H ws vs->Vals vs us->a9 (dat ph n) ws=some ds →
   (∃as,ReadsAll s.heap us ds as)/\afH ds=true/\PyData.depthAll ds<=n
 | _,_,_,_,.nil,.nil,e=>by cases e;exact⟨⟨_,.nil⟩,rfl,abB _⟩
 | w::ws,_,_,ds,.cons h r,.cons hv rv,e=>by
  unfold a9 at e;split at e
  ·rename_i b bs e1 e2;cases e;obtain⟨⟨as,r1⟩,c1,d1⟩:=ih h hv e1;obtain⟨⟨FQ,r2⟩,c2,d2⟩:=vq ih r rv e2;refine⟨⟨_,.cons r1 r2⟩,?_,?_⟩
   ·simp only[afH,c1,c2,afw]
   ·simp only[PyData.depthAll];omega
  ·cases e
theorem lR(I:Inv X pins σ H s)(hH:aD X.K φ ph H):∀(n:Nat) {w:W} {v:V} {u:Value} {d:acN},aJ X.K φ ph.length H w v->RelV v u->dat ph n w=some d->j3 s n u d:=by
 have yj:∀(n:Nat) (ih:∀{w:W} {v:V} {u:Value} {d:acN},aJ X.K φ ph.length H w v->RelV v u->dat ph n w=some d->j3 s n u d) {ws:List W} {vs:List V} {d:acN} {a:Addr},
   aM X.K φ ph.length H ws vs->((aP X.K H a vs/\(a9 (dat ph n) ws).map PyData.list=some d)\/(bz X.K H a vs/\(a9 (dat ph n) ws).map PyData.tuple=some d))->j3 s (n+1) (.ref a) d:=by
  intro n ih ws vs d a r h
  rcases h with⟨hq,e⟩ | ⟨hq,e⟩
  ·obtain⟨its,rv,⟨o,k,h1,h2,h3,h4⟩,_⟩:=I.list hq;obtain⟨ds,e1,e2⟩:=aap.mp e;subst e2;obtain⟨⟨as,r1⟩,c1,d1⟩:=vq ih r rv e1;refine⟨⟨_,.list h1 h2 h4 (by simpa using r1)⟩,by simpa only[aea] using c1,?_⟩;simp only[PyData.depth];omega
  ·obtain⟨its,rv,⟨o,h1,h2,k,h4⟩,_⟩:=I.tuple hq;obtain⟨ds,e1,e2⟩:=aap.mp e;subst e2;obtain⟨⟨as,r1⟩,c1,d1⟩:=vq ih r rv e1;refine⟨⟨_,.tuple h1 h2 h4 (by simpa using r1)⟩,by simpa only[aea] using c1,?_⟩;simp only[PyData.depth];omega
 intro n
 induction n with
 | zero=>
  intro w v u d r rv e;cases r with
  | aO=>cases rv;cases e;exact⟨⟨_,.none⟩,rfl,aaj _⟩
  | bl b=>cases rv;cases e;exact⟨⟨_,.bool b⟩,rfl,aaj _⟩
  | int i=>obtain⟨t,rfl⟩:=rv;cases e;exact⟨⟨_,.int i t⟩,rfl,aaj _⟩
  | str x=>
   obtain⟨t,rfl⟩:=rv;unfold dat at e;split at e
   ·rename_i hx;cases e;exact⟨⟨_,.str x t⟩,by simpa only[aea] using hx,aaj _⟩
   ·cases e
  | _=>cases e
 | succ n ih=>
  intro w v u d r rv e;cases r with
  | aO=>cases rv;cases e;exact⟨⟨_,.none⟩,rfl,abB _⟩
  | bl b=>cases rv;cases e;exact⟨⟨_,.bool b⟩,rfl,abB _⟩
  | int i=>obtain⟨t,rfl⟩:=rv;cases e;exact⟨⟨_,.int i t⟩,rfl,abB _⟩
  | str x=>
   obtain⟨t,rfl⟩:=rv;unfold dat at e;split at e
   ·rename_i hx;cases e;exact⟨⟨_,.str x t⟩,by simpa only[aea] using hx,abB _⟩
   ·cases e
  | tup h r=>cases rv;exact yj n ih r (.inr ⟨bz.of h,e⟩)
  | exc=>unfold dat at e;cases e
  | fn=>unfold dat at e;cases e
  | kt=>unfold dat at e;cases e
  | fl h r=>cases rv;exact yj n ih r (.inl ⟨h.sq,e⟩)
  | ref hi=>
   cases rv;unfold dat at e;split at e
   ·rename_i ws hw;obtain⟨vs,hv,r⟩:=hH.hp _ _ hw;exact yj n ih r (.inl ⟨aP.of hv,e⟩)
   ·cases e
end
noncomputable def dR(ph:PH)(x y:W):Option Bool:=match dat ph 40 x,dat ph 40 y with
 | some a,some b=>some (aaV a b)
 | _,_=>none
noncomputable def bA:W->W->Po W:=fun x y ph=>(dR ph x y).map fun b=>(.bl b,ph)
noncomputable def dg:W->W->Po W:=fun x y ph=>(dR ph x y).map fun b=>(.bl (!b),ph)
noncomputable def rD(K:aab)(f:Bool->Bool):R2:=fun x y H Q=>∃φ ph wx wy b,aD K φ ph H/\aJ K φ ph.length H wx x/\aJ K φ ph.length H wy y/\dR ph wx wy=some b/\Q (.bl (f b)) H
variable{y:W}{b:Bool}
theorem BD{x:W}(h:dR ph x y=some b):∃dx dy,dat ph 40 x=some dx/\dat ph 40 y=some dy/\b=aaV dx dy:=by
 unfold dR at h;split at h
 ·rename_i dx dy h1 h2;cases h;exact⟨dx,dy,h1,h2,rfl⟩
 ·cases h
theorem Uu(hu:X.A.units+64<cLine):bf X (aaX .Eq) (rD X.K fun b=>b):=by
 intro pins s σ H x y v u Q I rx ry h;obtain⟨φ,ph,wx,wy,b,hH,r1,r2,e,q⟩:=h;obtain⟨dx,dy,e1,e2,rfl⟩:=BD e;obtain⟨⟨as,k1⟩,c1,l1⟩:=lR I hH 40 r1 rx e1;obtain⟨⟨bs,k2⟩,c2,l2⟩:=lR I hH 40 r2 ry e2;exact SeqAt.compareEq_reads k1 k2 c1 c2 (by omega) ⟨.bl _,H,I,rfl,q⟩
theorem Uv(hu:X.A.units+64<cLine):bf X (aaX .NotEq) (rD X.K fun b=> !b):=by
 intro pins s σ H x y v u Q I rx ry h;obtain⟨φ,ph,wx,wy,b,hH,r1,r2,e,q⟩:=h;obtain⟨dx,dy,e1,e2,rfl⟩:=BD e;obtain⟨⟨as,k1⟩,c1,l1⟩:=lR I hH 40 r1 rx e1;obtain⟨⟨bs,k2⟩,c2,l2⟩:=lR I hH 40 r2 ry e2;exact SeqAt.compareNe_reads k1 k2 c1 c2 (by omega) ⟨.bl _,H,I,rfl,q⟩
theorem Wf:cm K (rD K fun b=>b) bA:=by
 intro φ ph H x y vx vy w ph' Q hH rx ry e k;obtain⟨b,e1,e2⟩:=aap.mp e;cases e2;exact⟨φ,ph,x,y,b,hH,rx,ry,e1,k φ H _ hH Step.refl (.bl _)⟩
theorem Wg:cm K (rD K fun b=> !b) dg:=by
 intro φ ph H x y vx vy w ph' Q hH rx ry e k;obtain⟨b,e1,e2⟩:=aap.mp e;cases e2;exact⟨φ,ph,x,y,b,hH,rx,ry,e1,k φ H _ hH Step.refl (.bl _)⟩
noncomputable def inD(ph:PH)(x y:W):Option Bool:=match cB y ph,dat ph 40 x with
 | some ws,some dx=>(a9 (dat ph 40) ws).map fun ds=>ds.any fun d=>aaV d dx
 | _,_=>none
noncomputable def ji:W->W->Po W:=fun x y ph=>(inD ph x y).map fun b=>(.bl b,ph)
noncomputable def tK:W->W->Po W:=fun x y ph=>(inD ph x y).map fun b=>(.bl (!b),ph)
noncomputable def mS(K:aab)(f:Bool->Bool):R2:=fun x y H Q=>∃φ ph wx wy b,aD K φ ph H/\aJ K φ ph.length H wx x/\aJ K φ ph.length H wy y/\inD ph wx wy=some b/\Q (.bl (f b)) H
open Classical in
noncomputable def kT(s:aaf)(dx:acN)(u:Value):Bool:=if h:∃d,j3 s 40 u d then aaV h.choose dx else false
theorem BE{s:aaf}{dx d:acN}{u:Value}(h:j3 s 40 u d):kT s dx u=aaV d dx:=by
 unfold kT;have hx:∃d,j3 s 40 u d:=⟨d,h⟩
 rw[dif_pos hx];obtain⟨⟨as,r⟩,c,_⟩:=h;obtain⟨⟨ZO,r'⟩,c',_⟩:=hx.choose_spec;rw[SeqAt.Reads.unique _ _ _ _ _ c' r' r]
section
variable{X:Cx}{pins:List (Addr×Obj)}{σ:L2.St}{H:Hp}{s:aaf}{φ:Nat->Addr}{ph:PH}
theorem Cj(I:Inv X pins σ H s)(hH:aD X.K φ ph H){dx:acN}:∀{ws:List W} {vs:List V} {us:List Value} {ds:List acN},aM X.K φ ph.length H ws vs->Vals vs us->a9 (dat ph 40) ws=some ds →
  (us.any (kT s dx)=ds.any fun d=>aaV d dx)/\∀u∈us,∃d,j3 s 40 u d
 | _,_,_,_,.nil,.nil,e=>by cases e;exact⟨rfl,fun _ h=>nomatch h⟩
 | w::ws,_,_,ds,.cons h r,.cons hv rv,e=>by
  unfold a9 at e;split at e
  ·rename_i b bs e1 e2;cases e;have q:=lR I hH 40 h hv e1;obtain⟨r1,r2⟩:=Cj I hH (dx:=dx) r rv e2;refine⟨by rw[abp,abp,r1,BE q],fun u hu=>?_⟩
   rcases aav.mp hu with rfl | hu
   ·exact⟨_,q⟩
   ·exact r2 u hu
  ·cases e
theorem Ck(I:Inv X pins σ H s)(hH:aD X.K φ ph H){wx wy:W}{x y:V}{v u:Value}{b:Bool}(hu:X.A.units+64<cLine)(r1:aJ X.K φ ph.length H wx x)(r2:aJ X.K φ ph.length H wy y)(rx:RelV x v)(ry:RelV y u)(e:inD ph wx wy=some b) :
  ∃(a:Addr) (its:List Value) (f:Value->Bool),u=.ref a/\(s.heap.IsList a its.toArray\/s.heap.IsTuple a its.toArray)/\(∀z,z∈its.toArray->afD X.A.in1 s z v (f z))/\its.toArray.any f=b:=by
 unfold inD at e;split at e
 ·rename_i ws dx hs hd;obtain⟨ds,e1,e2⟩:=aap.mp e;obtain⟨a,vs,rfl,hq,rs⟩:=vO hH r2 hs;cases ry;obtain⟨⟨as,k1⟩,c1,l1⟩:=lR I hH 40 r1 rx hd;have fin:∀{its:List Value},Vals vs its->(∀z,z∈its.toArray->afD X.A.in1 s z v (kT s dx z))/\its.toArray.any (kT s dx)=b:=fun{its} rv=>by
   obtain⟨q1,q2⟩:=Cj I hH (dx:=dx) rs rv e1;refine⟨fun z hz=>?_,by rw[show its.toArray.any (kT s dx)=its.any (kT s dx) by simp,q1,e2]⟩;obtain⟨d,hd⟩:=q2 z (by simpa using hz);rw[BE hd];obtain⟨⟨bs,k2⟩,c2,l2⟩:=hd;intro prog w E Q hQ;exact SeqAt.eqBoolOverData prog w _ E s z v d dx bs as Q k2 k1 c2 c1 (by show X.A.units+1+_<_;omega) hQ
  rcases hq with hq | hq
  ·obtain⟨its,rv,pl,_⟩:=I.list hq;obtain⟨f1,f2⟩:=fin rv;exact⟨a,its,_,rfl,.inl pl.isList,f1,f2⟩
  ·obtain⟨its,rv,pl,_⟩:=I.tuple hq;obtain⟨f1,f2⟩:=fin rv;exact⟨a,its,_,rfl,.inr pl,f1,f2⟩
 ·cases e
end
theorem Uw(hu:X.A.units+64<cLine):bf X (aaX .In) (mS X.K fun b=>b):=by
 intro pins s σ H x y v u Q I rx ry h;obtain⟨φ,ph,wx,wy,b,hH,r1,r2,e,q⟩:=h;obtain⟨a,its,f,rfl,hq,hf,hb⟩:=Ck I hH hu r1 r2 rx ry e;subst hb
 rcases hq with hq | hq
 ·exact SeqAt.in_listAt f hq hf ⟨.bl _,H,I,rfl,q⟩
 ·exact SeqAt.in_tupleAt f hq hf ⟨.bl _,H,I,rfl,q⟩
theorem RL(hu:X.A.units+64<cLine):bf X (aaX .NotIn) (mS X.K fun b=> !b):=by
 intro pins s σ H x y v u Q I rx ry h;obtain⟨φ,ph,wx,wy,b,hH,r1,r2,e,q⟩:=h;obtain⟨a,its,f,rfl,hq,hf,hb⟩:=Ck I hH hu r1 r2 rx ry e;subst hb
 rcases hq with hq | hq
 ·exact SeqAt.notIn_listAt f hq hf ⟨.bl _,H,I,rfl,q⟩
 ·exact SeqAt.notIn_tupleAt f hq hf ⟨.bl _,H,I,rfl,q⟩
theorem Wh:cm K (mS K fun b=>b) ji:=by
 intro φ ph H x y vx vy w ph' Q hH rx ry e k;obtain⟨b,e1,e2⟩:=aap.mp e;cases e2;exact⟨φ,ph,x,y,b,hH,rx,ry,e1,k φ H _ hH Step.refl (.bl _)⟩
theorem Ux:cm K (mS K fun b=> !b) tK:=by
 intro φ ph H x y vx vy w ph' Q hH rx ry e k;obtain⟨b,e1,e2⟩:=aap.mp e;cases e2;exact⟨φ,ph,x,y,b,hH,rx,ry,e1,k φ H _ hH Step.refl (.bl _)⟩
noncomputable def lY(env:Env)(x:Str×ade)(s:List (Str×Addr)):Sem (ForInStep (List (Str×Addr))):=
 if(x.2==aaC)=true then do
  let a <- cellOf env x.1
  pure (abZ ((x.1,a)::s))
 else pure (abZ s)
theorem vR(env:Env):∀(names:List (Str×ade)) (acc:List (Str×Addr)),(∀y∈names,y.2=.free->∃c,env.cells.lookup y.1=some c) →
  ∃cl,(forIn names acc (lY env):Sem (List (Str×Addr)))=pure cl/\(∀x c,cl.lookup x=some c->acc.lookup x=some c\/(env.cells.lookup x=some c/\(x,aaC)∈names)) /\
   (∀x,((∃c,acc.lookup x=some c)\/(x,aaC)∈names)->∃c,cl.lookup x=some c)
 | [],acc,_=>⟨acc,rfl,fun x c h=>.inl h,fun x h=>h.elim id fun z=>nomatch z⟩
 | (n,k)::r,acc,h=>by
  by_cases hk:k=.free
  ·subst hk;obtain⟨c,hc⟩:=h (n,.free) aby rfl;obtain⟨cl,e,h1,h2⟩:=vR env r ((n,c)::acc) fun y hy=>h y (aaN _ hy)
   refine⟨cl,?_,fun x c' hx=>?_,fun x hx=>h2 x ?_⟩
   ·rw[acA];have eb:lY env (n,.free) acc=pure (abZ ((n,c)::acc)):=by
     unfold lY;rw[if_pos (by rfl)];unfold cellOf;rw[hc];rfl
    rw[eb];exact e
   ·rcases h1 x c' hx with z | z
    ·rw[aaL] at z;cases q:x==n with
     | true=>
      rw[q] at z;cases z;have:x=n:=eq_of_beq q;subst this;exact .inr ⟨hc,aby⟩
     | false=>rw[q] at z;exact .inl z
    ·exact .inr ⟨z.1,aaN _ z.2⟩
   ·rcases hx with⟨c',hx⟩ | hx
    ·rw[aaL];cases q:x==n with
     | true=>exact .inl ⟨c,rfl⟩
     | false=>exact .inl ⟨c',hx⟩
    ·rcases aav.mp hx with z | z
     ·cases z;exact .inl ⟨c,by rw[aaL];simp⟩
     ·exact .inr z
  ·obtain⟨cl,e,h1,h2⟩:=vR env r acc fun y hy=>h y (aaN _ hy)
   refine⟨cl,?_,fun x c' hx=>?_,fun x hx=>h2 x ?_⟩
   ·rw[acA];have eb:lY env (n,k) acc=pure (abZ acc):=by
     unfold lY;rw[if_neg (by simpa using hk)]
    rw[eb];exact e
   ·rcases h1 x c' hx with z | z
    ·exact .inl z
    ·exact .inr ⟨z.1,aaN _ z.2⟩
   ·rcases hx with hx | hx
    ·exact .inl hx
    ·rcases aav.mp hx with z | z
     ·cases z;exact absurd rfl hk
     ·exact .inr z
variable{env:Env}
theorem RM{scope:Scope}(h:∀y∈scope.names,y.2=.free->∃c,env.cells.lookup y.1=some c) :
  ∃cl,closureFor scope env=pure cl/\(∀x c,cl.lookup x=some c->env.cells.lookup x=some c/\(x,aaC)∈scope.names)/\(∀x,(x,aaC)∈scope.names->∃c,cl.lookup x=some c):=by
 obtain⟨cl,e,h1,h2⟩:=vR env scope.names [] h;refine⟨cl,?_,fun x c hx=>?_,fun x hx=>h2 x (.inr hx)⟩
 ·unfold closureFor;show(forIn scope.names [] (lY env) >>= fun s=>pure s)=pure cl;rw[e];rfl
 ·rcases h1 x c hx with z | z
  ·cases z
  ·exact z
noncomputable def bH(X:Cx)(N:List Str)(scope:Scope)(cl:List (Str×Addr))(C:Addr)(aE:aaf)(aL:Hp)(ex:List Addr):Cx:=
 { X with N:=N,aE:=aE,aL:=aL,env:=compEnvC scope cl C X.env,outer:=X.stack,stack:=X.stack,ex:=ex,fn:=fun _=>false,pn:=[],xe:=fun _ _=>False,kp:=fun _=>True }
noncomputable def i8(cap:List (Option Nat))(σ:L2.St):L2.St:=cap.map fun o=>o.bind fun i=>(σ[i]?).join
noncomputable def sy(wi:TI)(cap:List (Option Nat))(g:TG)(tc:TT)(te:TE):TE:=fun σ H Q=>wi σ H fun J H1=>∀D,H1 D=none->∃W:Nat->Nat->L2.St->Hp->Prop,(∃m,W 0 m (i8 cap σ) (upd H1 D (.lst []))) /\
 ∀i m bJ H2,W i m bJ H2->(J.stop i H2/\Q (.ref D) H2)\/(J.go i H2/\∀x H3,J.pf i H2 x H3->g x bJ H3 fun fJ H4=>tc fJ H4 fun b H5=>
  if b=true then te fJ H5 fun v H6=>∃xs,H6 D=some (.lst xs)/\xs.length<aas/\∃m',m'<m/\W (i+1) m' fJ (upd H6 D (.lst (xs++[v]))) else ∃m',m'<m/\W (i+1) m' fJ H5)
noncomputable def PF(X:Cx)(ifs:List Expr)(t:TT):Prop:=
 ∀(pins:List (Addr×Obj)) (s:aaf) (σ:L2.St) (H:Hp) (Q:Bool->Hp->Prop),Inv X pins σ H s->t σ H Q →
  wpAny (model X.prog X.w) X.A (forIn ifs true fun c r=>if r=true then do let ok <- isTrue c X.env (eval c X.env);pure (abZ ok) else pure (abZ r)) (TP X pins σ Q) X.xe s
theorem Uy:PF X [] (fun _ H Q=>Q true H):=fun pins s σ H Q I h=>wpAny_tests_nil ⟨H,I,h⟩
theorem Uz{c:Expr}{t:TT}(h:PT X c t):PF X [c] t:=fun pins s σ H Q I q=>wpAny_tests_one (h pins s σ H Q I q)
theorem uO{env:Env}{x:Str}:∀{names:List (Str×ade)},names.lookup x=some .free →
  (names.map fun(n,k)=>if(k==aaC&&env.scope.kind==.function&&env.kindOf n==some .cell) then(n,abV) else(n,k)).lookup x=some .cell \/
  (names.map fun(n,k)=>if(k==aaC&&env.scope.kind==.function&&env.kindOf n==some .cell) then(n,abV) else(n,k)).lookup x=some .free
 | [],h=>by cases h
 | (n,k)::r,h=>by
  rw[aaB];cases q:x==n with
  | true=>
   rw[aaL,q] at h;cases h;by_cases hc:(aaC==aaC&&env.scope.kind==.function&&env.kindOf n==some .cell)=true
   ·left
    show adJ x ((if(aaC==aaC&&env.scope.kind==.function&&env.kindOf n==some .cell)=true then(n,abV) else(n,aaC))::_)=_;rw[if_pos hc,aaL,q]
   ·right
    show adJ x ((if(aaC==aaC&&env.scope.kind==.function&&env.kindOf n==some .cell)=true then(n,abV) else(n,aaC))::_)=_;rw[if_neg hc,aaL,q]
  | false=>
   rw[aaL,q] at h;have ih:=uO (env:=env) h;show adJ x ((if(k==aaC&&env.scope.kind==.function&&env.kindOf n==some .cell)=true then(n,abV) else(n,k))::_)=_\/adJ x ((if(k==aaC&&env.scope.kind==.function&&env.kindOf n==some .cell)=true then(n,abV) else(n,k))::_)=_;by_cases hc:(k==aaC&&env.scope.kind==.function&&env.kindOf n==some .cell)=true
   ·rw[if_pos hc,aaL,q];exact ih
   ·rw[if_neg hc,aaL,q];exact ih
theorem vg{env:Env}{x:Str}{k':ade}(lq:k'=.cell\/k'=.free):∀{names:List (Str×ade)},(∀y∈names,y.2≠.cell) →
  (names.map fun(n,k)=>if(k==aaC&&env.scope.kind==.function&&env.kindOf n==some .cell) then(n,abV) else(n,k)).lookup x=some k'->names.lookup x=some .free
 | [],_,h=>by cases h
 | (n,k)::r,hc,h=>by
  have h':adJ x ((if(k==aaC&&env.scope.kind==.function&&env.kindOf n==some .cell)=true then(n,abV) else(n,k))::r.map _)=some k':=h;rw[aaL];cases q:x==n with
  | true=>
   by_cases hb:(k==aaC&&env.scope.kind==.function&&env.kindOf n==some .cell)=true
   ·simp only[aau] at hb;have:k=.free:=by simpa using hb.1.1
    rw[this]
   ·rw[if_neg hb,aaL,q] at h';cases h'
    rcases lq with z | z
    ·exact absurd z (hc (n,k') aby)
    ·rw[z]
  | false=>
   refine vg (env:=env) lq (names:=r) (fun y hy=>hc y (aaN _ hy)) ?_;by_cases hb:(k==aaC&&env.scope.kind==.function&&env.kindOf n==some .cell)=true
   ·rw[if_pos hb,aaL,q] at h';exact h'
   ·rw[if_neg hb,aaL,q] at h';exact h'
theorem mem_lookup{x:Str}{k:ade}:∀{names:List (Str×ade)},names.lookup x=some k->(x,k)∈names
 | [],h=>by cases h
 | (n,j)::r,h=>by
  rw[aaL] at h;cases q:x==n with
  | true=>rw[q] at h;cases h;rw[eq_of_beq q];exact aby
  | false=>rw[q] at h;exact aaN _ (mem_lookup h)
structure jj(X:Cx)(N:List Str)(cap:List (Option Nat))(scope:Scope):Prop where
 len:cap.length=N.length
 at_:∀(i j:Nat) (x:Str),N[i]? =some x->cap[i]? =some (some j)->X.N[j]? =some x/\scope.names.lookup x=some .free/\(X.env.kindOf x=some .cell\/X.env.kindOf x=some .free)
 free:∀y∈scope.names,y.2=.free->X.env.kindOf y.1=some .cell\/X.env.kindOf y.1=some .free
 cell:∀y∈scope.names,y.2≠.cell
 kind:scope.kind=.function
 loc:∀y∈scope.names,y.2=.local->scope.names.lookup y.1=some .local
section
variable{X:Cx}{pins:List (Addr×Obj)}{σ:L2.St}{H:Hp}{s:aaf}{N:List Str}{cap:List (Option Nat)}{scope:Scope}{cl:List (Str×Addr)}{fp:List Addr}
theorem RN (I : Inv X pins σ H s) (c : jj X N cap scope) (hG : ∀ x c, cl.lookup x = some c -> X.env.cells.lookup x = some c /\ (x, aaC) ∈ scope.names) (tL : ∀ x, (x, aaC) ∈ scope.names -> ∃ c, cl.lookup x = some c)
    (hf : ∀ b ∈ fp, b < s.heap.objs.size /\ b ≠ X.env.locals /\ b ∉ X.fs /\ (b ∈ X.ex \/ X.aE.heap.objs.size <= b) /\ (∀ x c, X.env.cells.lookup x = some c -> c ≠ b)) {fh : Heap} {m : Str -> Option Value} {tk : Nat}
    (bT : fh.Ns s.heap.objs.size m) (hk : ∀ b o, s.heap.get? b = some o -> fh.get? b = some o) : Inv (bH X N scope cl s.heap.objs.size s H fp) [] (i8 cap σ) H { s with heap := fh, toks := tk } := by
  have Xm : ∀ {x : Str}, ((bH X N scope cl s.heap.objs.size s H fp).env.kindOf x = some .cell \/ (bH X N scope cl s.heap.objs.size s H fp).env.kindOf x = some .free) -> scope.names.lookup x = some .free := fun {x} hx => by
    rcases hx with hx | hx
    · exact vg (env := X.env) (.inl rfl) c.cell hx
    · exact vg (env := X.env) (.inr rfl) c.cell hx
  have ok : (bH X N scope cl s.heap.objs.size s H fp).Ok :=
    { mod := I.ok.mod
      kind := c.kind
      glob := I.ok.glob
      blt := I.ok.blt
      above := aaj _
      inj := fun x y d h1 h2 => I.ok.inj x y d (hG x d h1).1 (hG y d h2).1
      has := fun x hx => tL x (mem_lookup (Xm hx))
      tY := fun x d hz => nomatch hz
      hd := I.ok.hd
      frames := I.ok.frames
      yx := .inl rfl
      XN := fun b hb => ⟨aaQ (hf b hb).1, fun x d hd => (hf b hb).2.2.2.2 x d (hG x d hd).1⟩
      bs := I.bs
      m9 := abl I.ok.m9 I.sz
      sW := fun b o e hb => by
        rcases (hf b hb).2.2.2.1 with z | z
        · exact I.ok.sW b o e z
        · exact absurd (aan (aah (I.ok.bs b o e).1) z) (abK _)
      sX := fun b hb hz => by
        rcases aav.mp (I.wO b hz) with e | e
        · exact (hf b hb).2.1 e
        · exact (hf b hb).2.2.1 e
      gi := I.stack
      pd := I.wq }
  refine ⟨ok, rfl, I.bare, Un.kept hk, ⟨m, bT, fun i x v e1 e2 _ => ?_⟩, fun x d e => ?_, I.aG.fresh (aaj _), fun x d e => ⟨(fun z => nomatch z), (I.jB x d (hG x d e).1).2⟩, (fun p hp => nomatch hp), I.aG.kept hk, ⟨?_, trivial⟩⟩
  · unfold i8 at e2
    rw [aak] at e2;cases q : cap[i]? with
    | none => rw [q] at e2; cases e2
    | some o =>
      rw [q] at e2;cases o with
      | none => cases e2
      | some j =>
        have e3 : (σ[j]?).join = some v := abd e2;have e4 : σ[j]? = some (some v) := by
          cases z : σ[j]? with
          | none => rw [z] at e3; cases e3
          | some w => rw [z] at e3; exact congrArg some e3
        obtain ⟨h1, h2, h3⟩ := c.at_ i j x e1 q;obtain ⟨m0, _, hl⟩ := I.loc;obtain ⟨u, ru, lk⟩ := hl j x v h1 e4 (.inr h3);refine ⟨u, ru, ?_⟩
        rcases lk with ⟨z, _⟩ | ⟨_, d, hd, sh⟩
        · rcases h3 with z' | z' <;> (rw [z] at z'; cases z')
        · obtain ⟨d', lc⟩ := tL x (mem_lookup h2)
          have e5 := (hG x d' lc).1;rw [hd] at e5;cases e5;obtain ⟨ob, ho, yk⟩ := sh;exact .inr ⟨uO (env := X.env) h2, d, lc, ob, hk _ _ ho, yk⟩
  · obtain ⟨v, ob, ho, yk⟩ := I.cell x d (hG x d e).1
    exact ⟨v, ob, hk _ _ ho, yk⟩
  · show (i8 cap σ).length = N.length
    unfold i8;rw [aag];exact c.len
theorem Un.but{fs ex:List Addr}{H H':Hp}{h h1 h2:Heap}{C:Addr}(u:Un fs ex H H' h h1)(sb:∀b,b≠C->h2.get? b=h1.get? b)(hC:h.get? C=none):Un fs ex H H' h h2:=by
 have ne:∀b o,h.get? b=some o->b≠C:=fun b o e z=>by rw[z,hC] at e;cases e
 exact⟨fun b o e n h1 h2=>(sb b (ne b o e)).trans (u.keep b o e n h1 h2),fun b o e n h1 h2=>by
  obtain⟨sl,q⟩:=u.slot b o e n h1 h2;exact⟨sl,(sb b (ne b o e)).trans q⟩,u.free,fun b o e h1=>by
  obtain⟨o',q⟩:=u.there b o e h1;exact⟨o',(sb b (ne b o e)).trans q⟩,u.fP,u.el,u.fv⟩
theorem Cm{aC:L2.St}{H':Hp}{s':aaf}{h':Heap}(I:Inv X pins σ H s)(J:Inv (bH X N scope cl s.heap.objs.size s H fp) [] aC H' s')(sb:acz s.heap.objs.size s'.heap h')
  (hf:∀b∈fp,eo X pins H b):Inv X pins σ H' { s' with heap:=h' }:=by
 have hC:H' s.heap.objs.size=none:=J.free;refine I.VG (ch:=fp) J.os (Un.but J.base sb.2 (afb (aaj _))) (fun a o e=>?_) J.bare fun b hb=>⟨(hf b hb).2.2.2.1,(hf b hb).2.1,(hf b hb).2.2.2.2.1,(hf b hb).2.2.2.2.2⟩
 refine(J.aG a o e).i4 (fun b u hb q=>(sb.2 b ?_).trans q) (fun _ q=>q) fun _ _ q=>q
 rintro rfl
 rcases hb with z | z
 ·rw[<- z,hC] at e;cases e
 ·rw[hC] at z;cases z
end
section
variable{prog:aba}{w:World}{A:acm}{R:Result->aaf->Prop}{s:aaf}
theorem Pc{elt target iter:Expr}{ifs:List Expr}{scope:Scope}{pos:Pos}{it acc:Value}{env:Env}(J:Nat->aaf->Prop)
  (turn:∀k s,J k s->wpAny (model prog w) A (adU it) (fun r s1=>match r with
   | none=>R (.ok .next) s1
   | some v=>wpAny (model prog w) A (adG target it v) (fun _ s2=>wpAny (model prog w) A (afe target env v) (fun _ s3=>
     wpAny (model prog w) A (forIn ifs true fun c r=>if r=true then do let ok <- isTrue c env (eval c env);pure (abZ ok) else pure (abZ r)) (fun ok s4=>
      if ok=true then wpAny (model prog w) A (eval elt env) (fun x s5=>wpAny (model prog w) A (call (.builtin "list.append") [acc,x]) (fun _ s6=>∃j,j<k/\J j s6) (fun _ _=>False) s5) (fun _ _=>False) s4
      else ∃j,j<k/\J j s4) (fun _ _=>False) s3) (fun _ _=>False) s2) (fun _ _=>False) s1) (fun _ _=>False) s)
  (k:Nat) (h:J k s):afB (model prog w) A (.compLoop (.ListComp elt [⟨target,iter,ifs,0⟩] scope pos) 0 it acc env) R s:=by
 have no:∀{E:Value->aaf->Prop} (e:Value) (s:aaf),False->E e s:=fun _ _ z=>z.elim
 refine codeAny_loop (c:=.compLoop (.ListComp elt [⟨target,iter,ifs,0⟩] scope pos) 0 it acc env) rfl J (fun k s hJ=>?_) k h;show wpAny (model prog w) A ((compTurn (.ListComp elt [⟨target,iter,ifs,0⟩] scope pos) 0 it acc env).onRaise fun x=>do noteFrame x env;theTreesLotGoes x) _ _ s;refine wpAny_noted ?_;rw[compTurn_list];refine aaa (wpAny_standAt (aaa (abO (turn k s hJ) (fun r s1 h1=>?_) no)));cases r with
 | none=>exact aai h1
 | some v=>
  refine aaa (abO h1 (fun _ s2 h2=>aaa (abO h2 (fun _ s3 h3=>aaa (abO h3 (fun ok s4 h4=>?_) no)) no)) no);cases ok with
  | false=>exact aai ⟨rfl,h4⟩
  | true=>exact aaa (aaa (abO h4 (fun x s5 h5=>aaa (abO h5 (fun _ s6 h6=>aai (aai ⟨rfl,h6⟩)) no)) no))
end
section
variable{X:Cx}{tg iter elt:Expr}{ifs:List Expr}{scope:Scope}{pos:Pos}{N:List Str}{cap:List (Option Nat)}{wi:TI}{g:TG}{tc:TT}{te:TE}
theorem A5{use:Option (Value->Sem Unit)}{Q':Value->aaf->Prop}{pins:List (Addr×Obj)}{s:aaf}{σ:L2.St}{H:Hp}{Q:VK}{p0:Pos}(hc:X.calm=true)(c:jj X N cap scope)(hi:PI X tg iter wi)(hg:∀cl C aE aL ex,PG (bH X N scope cl C aE aL ex) tg g)(ht:∀cl C aE aL ex,PF (bH X N scope cl C aE aL ex) ifs tc)
  (he:∀cl C aE aL ex,PE (bH X N scope cl C aE aL ex) elt te) (hs:∀x,abf iter X.env x=pure x) (I:Inv X pins σ H s) (h:sy wi cap g tc te σ H Q)
  (fin:∀(s3 s6:aaf) (H3 H6:Hp) (fp:List Addr) (pV:L2.St) (cl:List (Str×Addr)) (D:Addr),Inv X pins σ H3 s3->(∀b∈fp,eo X pins H3 b)->Inv (bH X N scope cl s3.heap.objs.size s3 H3 fp) [] pV H6 s6->Q (.ref D) H6 →
   compPost (model X.prog X.w) X.A X.xe use Q' (.ref D) s3.heap.objs.size (.ok .next) s6) :
  wpAny (model X.prog X.w) X.A (comprehension (.ListComp elt [⟨tg,iter,ifs,0⟩] scope pos) scope X.env p0 (newList []) false (eval iter X.env) use) Q' X.xe s:=by
 obtain⟨cl,Wi,hG,tL⟩:=RM (scope:=scope) (env:=X.env) fun y hy hf=>I.ok.has y.1 (c.free y hy hf)
 refine wpAny_comprehension_free (use:=use) rfl hs Wi c.kind c.loc (abO (hi pins s σ H _ I h) (fun v s1 h1=>abO h1 (fun yA s2 h2=>?_) fun _ _ z=>z) fun _ _ z=>z);obtain⟨it,fp,tn,J,H2,rfl,I2,T,gp,f2,h2⟩:=h2;refine abI (wpAny_newFunctionEnv c.cell (by intro y hy;simp at hy) (fun fh bT yS=>?_) c.kind);have hD:H2 s2.heap.objs.size=none:=I2.fresh;obtain⟨W,⟨m0,w0⟩,turn⟩:=h2 s2.heap.objs.size hD;have I3:=I2.tj (its:=[]) (ys:=[]) (t':=s2.toks) .nil (abB _);have hO:∀b∈fp,eo X pins (upd H2 s2.heap.objs.size (.lst [])) b:=fun b hb=>by
  obtain⟨a1,a2⟩:=f2 b hb;refine⟨?_,a2⟩;obtain⟨o,ho,_⟩:=T.obj 0 _ gp b hb;rw[aW (aaQ (aah ho))];exact a1
 have FR:∀b∈fp,b<s2.heap.objs.size:=fun b hb=>by
  obtain⟨o,ho,_⟩:=T.obj 0 _ gp b hb;exact aah ho
 revert bT yS
 generalize Yi:({ s2 with heap:=s2.heap.push { cls:=.type "list",data:=.seq ([]:List Value).toArray },toks:=s2.toks }:aaf)=s3 at I3;intro bT yS;have FT:s3.heap=s2.heap.push { cls:=.type "list",data:=.seq ([]:List Value).toArray }:=by rw[<- Yi]
 have e3:s3.heap.objs.size=s2.heap.objs.size+1:=by rw[FT,ack]
 have FU:∀b o,s2.heap.get? b=some o->s3.heap.get? b=some o:=fun b o e=>by rw[FT];exact aad _ e
 have yT:∀b o,s3.heap.get? b=some o->fh.get? b=some o:=fun b o e=>yS.extBut b o (aaQ (aah e)) (aad _ e)
 have Xn:fh.Ns s3.heap.objs.size (fun x=>([]:List (Str×Value)).reverse.lookup x):=bT;have I4:=RN (fp:=fp) (tk:=s3.toks+([]:List (Str×Value)).length) I3 c hG tL (fun b hb=>⟨by rw[e3];exact Nat.lt_succ_of_lt (FR b hb),(hO b hb).2.1,(hO b hb).2.2.1,(hO b hb).2.2.2.1,(hO b hb).2.2.2.2.1⟩) Xn yT;have loop:∀s4:aaf,s4={ s3 with heap:=fh,toks:=s3.toks+([]:List (Str×Value)).length } →
   afB (model X.prog X.w) X.A (.compLoop (.ListComp elt [⟨tg,iter,ifs,0⟩] scope pos) 0 (.ref it) (.ref s2.heap.objs.size) (compEnvC scope cl s3.heap.objs.size X.env))
    (compPost (model X.prog X.w) X.A X.xe use Q' (.ref s2.heap.objs.size) s3.heap.objs.size) s4:=by
  rintro s4 rfl;refine Pc (fun m s=>∃i bJ yU,Inv (bH X N scope cl s3.heap.objs.size s3 (upd H2 s2.heap.objs.size (.lst [])) fp) [] bJ yU s/\tn i s.heap/\(∀b∈fp,yU b=none)/\W i m bJ yU) ?_ m0
   ⟨0,i8 cap σ,_,I4,T.keep _ _ _ gp fun b hb o e=>yT b o (FU b o e),fun b hb=>(hO b hb).1,w0⟩
  rintro k s5 ⟨i,iL,H5,I5,nc,t8,w5⟩;have yV:∀{H':Hp} {ps:List (Addr×Obj)},(∀b∈fp,H' b=none)->(∀p∈ps,∀b∈fp,p.1≠b)->∀b∈fp,eo (bH X N scope cl s3.heap.objs.size s3 (upd H2 s2.heap.objs.size (.lst [])) fp) ps H' b:=fun{H' ps} hn hp b hb=>
   ⟨hn b hb,(fun z=>by have q:=FR b hb;have z':b=s3.heap.objs.size:=z;rw[z',e3] at q;exact absurd q (Nat.not_lt.mpr (adI _))),I5.ok.sX b hb,.inl hb,fun x d hd=>(hO b hb).2.2.2.2.1 x d (hG x d hd).1,fun p ls=>hp p (by simpa[bH] using ls) b hb⟩
  rcases turn i k iL H5 w5 with⟨stop,qn⟩ | ⟨go,step⟩
  ·refine abO (T.done (bH X N scope cl s3.heap.objs.size s3 (upd H2 s2.heap.objs.size (.lst [])) fp) rfl rfl rfl hc i [] s5 iL H5 _ I5 (yV t8 (fun _ z=>nomatch z)) nc stop) (fun r s6 hr=>?_) fun _ _ z=>z
   obtain⟨rfl,I6⟩:=hr;exact fin s3 s6 _ H5 fp iL cl _ I3 hO I6 qn
  ·refine abO (T.item (bH X N scope cl s3.heap.objs.size s3 (upd H2 s2.heap.objs.size (.lst [])) fp) rfl rfl rfl hc i [] s5 iL H5 _ I5 (yV t8 (fun _ z=>nomatch z)) nc go) (fun r s6 hr=>?_) fun _ _ z=>z
   obtain⟨u,rfl,h6⟩:=hr;refine abO h6 (fun _ s7 ⟨x,H7,I7,rx,y7,yW,Yj⟩=>?_) fun _ _ z=>z
   have Yk:=I7.pinned (yV Yj (fun _ z=>nomatch z)) (T.obj _ _ yW);have back:∀{iM:L2.St} {H8:Hp} {s8:aaf},Inv (bH X N scope cl s3.heap.objs.size s3 (upd H2 s2.heap.objs.size (.lst [])) fp) ([]++nZ fp s7.heap) iM H8 s8 →
     Inv (bH X N scope cl s3.heap.objs.size s3 (upd H2 s2.heap.objs.size (.lst [])) fp) [] iM H8 s8/\tn (i+1) s8.heap/\∀b∈fp,H8 b=none:=fun{iM H8 s8} I8=>by
    refine⟨I8.q0,T.keep _ _ _ yW fun b hb o e=>(I8.pin (b,o) (aaT _ (aaT _ (qI hb e)))).1,fun b hb=>?_⟩;obtain⟨o,e,d⟩:=T.obj _ _ yW b hb;exact(I8.pin (b,o) (aaT _ (aaT _ (qI hb e)))).2.1
   refine aS (hg cl _ _ _ fp _ s7 iL H7 x u _ Yk rx (step x H7 y7)) fun _ s8 ⟨iM,H8,I8,q8⟩=>?_
   refine aS (ht cl _ _ _ fp _ s8 iM H8 _ I8 q8) fun ok s9 ⟨H9,I9,q9⟩=>?_
   cases ok with
   | false=>
    obtain⟨m',hm,w9⟩:=q9;obtain⟨a1,a2,a3⟩:=back I9;exact⟨m',hm,i+1,iM,H9,a1,a2,a3,w9⟩
   | true=>
    refine aS (he cl _ _ _ fp _ s9 iM H9 _ I9 q9) fun y Yl ⟨pw,Ym,Yn,Yo,xs,hx,hz,m',hm,Yp⟩=>?_
    refine aS (js (X:=bH X N scope cl s3.heap.objs.size s3 (upd H2 s2.heap.objs.size (.lst [])) fp) _ Yl iM Ym (.ref s2.heap.objs.size) [pw] (.ref s2.heap.objs.size) [y] (fun _ H'=>W (i+1) m' iM H') Yn rfl (.cons Yo .nil) ⟨_,xs,_,rfl,rfl,hx,hz,Yp⟩) fun _ ZP ⟨_,Yq,Yr,_,Ys⟩=>?_
    obtain⟨a1,a2,a3⟩:=back Yr;exact⟨m',hm,i+1,iM,Yq,a1,a2,a3,Ys⟩
 exact codeAny_compStart_list (loop _ rfl) (T.self _ 0 _ _ _ (T.keep _ _ _ gp fun b hb o e=>yT b o (FU b o e)) (loop _ rfl))
theorem RO(hc:X.calm=true)(c:jj X N cap scope)(hi:PI X tg iter wi)(hg:∀cl C aE aL ex,PG (bH X N scope cl C aE aL ex) tg g)(ht:∀cl C aE aL ex,PF (bH X N scope cl C aE aL ex) ifs tc)
  (he:∀cl C aE aL ex,PE (bH X N scope cl C aE aL ex) elt te) (hs:∀x,abf iter X.env x=pure x:=by intro _;rfl):PE X (.ListComp elt [⟨tg,iter,ifs,0⟩] scope pos) (sy wi cap g tc te):=by
 intro pins s σ H Q I h;rw[eval_ListComp];refine A5 hc c hi hg ht he hs I h fun s3 s6 H3 H6 fp pV cl D I3 hO I6 q=>?_
 obtain⟨m6,yX,_⟩:=I6.loc;exact⟨m6,yX,fun h' sb=>⟨.ref D,H6,Cm I3 I6 sb hO,rfl,q⟩⟩
theorem RP{i:Nat}{x:Str}{pos' fQ:Pos}(hN:X.N.Nodup)(fF:X.N[i]? =some x)(pz:iy X x)(hx:X.env.scope.names.lookup x=some .local)(pA:ada (.ListComp elt [⟨tg,iter,ifs,0⟩] scope pos) (some (.Name x pos')) fQ.line X.env=pure true)
  (hc:X.calm=true) (c:jj X N cap scope) (hi:PI X tg iter wi) (hg:∀cl C aE aL ex,PG (bH X N scope cl C aE aL ex) tg g) (ht:∀cl C aE aL ex,PF (bH X N scope cl C aE aL ex) ifs tc)
  (he:∀cl C aE aL ex,PE (bH X N scope cl C aE aL ex) elt te) (hs:∀x,abf iter X.env x=pure x:=by intro _;rfl) :
  PS X (.Assign [.Name x pos'] (.ListComp elt [⟨tg,iter,ifs,0⟩] scope pos) fQ) (sZ (sy wi cap g tc te) (xx i)):=by
 intro pins s σ H D I h;rw[exec_Assign_Name_used x pos' _ fQ pA];refine aaa (wpAny_standAt (aaa ?_));show wpAny (model X.prog X.w) X.A (comprehension (.ListComp elt [⟨tg,iter,ifs,0⟩] scope pos) scope X.env _ (newList []) false (eval iter X.env) (some (afe (.Name x pos') X.env)) >>= fun _=>pure ()) _ _ s;refine aaa (A5 hc c hi hg ht he hs I h fun s3 s6 H3 H6 fp pV cl Dl I3 hO I6 q=>?_);obtain⟨m6,yX,_⟩:=I6.loc;have Xo:s6.heap.Ns s3.heap.objs.size m6:=yX;have I7:Inv X pins σ H6 s6:=Cm (h':=s6.heap) I3 I6 ⟨rfl,fun _ _=>rfl⟩ hO;refine wpAny_assign_Name (AX I7 hN fF (.inl hx) (v:=.ref Dl) rfl (fun s8 I8 h8=>?_) ⟨.inr hx,pz⟩);obtain⟨a,Yt,ha⟩:=h8;have fresh:H6 s3.heap.objs.size=none:=I6.free;have pe:s3.heap.objs.size≠X.env.locals:=abw I3.lt;have lg:∀y d,X.env.cells.lookup y=some d->d≠s3.heap.objs.size:=fun y d e=>by
  obtain⟨v,o,ho,_⟩:=I3.cell y d e;exact aaQ (aah ho)
 have Yu:∀p∈X.pn++pins,p.1≠s3.heap.objs.size:=fun p hp=>aaQ (aah (I3.pin p hp).1)
 have Yv:s3.heap.objs.size≠a:=by
  rcases ha with z | z
  ·rw[z];exact pe
  ·exact abL (lg x a z)
 refine⟨m6,Xo.sameBut Yt Yv,fun h' sb=>aai (aai ⟨_,H6,?_,q⟩)⟩;exact I8.turned (t':=s8.toks) (fun b o hb e=>(sb.2 b hb).trans e) fresh pe (.inr I3.sz) lg Yu
end
noncomputable def fA(cap:List (Option Nat))(σ:aI):aI:=cap.map fun o=>o.bind fun i=>(σ[i]?).join
noncomputable def fR(m:Mo α):Mo α:=fun ph=>match m ph with
 | .ok a ph'=>.ok a ph'
 | _=>.no
theorem vS{m:Mo α}{N:α->PH->Prop}{E':XC->PH->Prop}(h:(fR m ph).Run N E):(m ph).Run N E':=by
 unfold fR at h;cases e:m ph with
 | ok a ph'=>rw[e] at h;exact h
 | ex x ph'=>rw[e] at h;exact h.elim
 | no=>rw[e] at h;exact h
noncomputable def dM(chk:PH->Bool)(g:GM)(c:TM)(e:EM)(L:Nat):List W->aI->Mo Unit
 | [],_=>fun ph=>if chk ph=true then .ok () ph else .no
 | x::xs,σ=>fun ph=>if chk ph=true then aq (fR (g x σ)) (fun σ1=>aq (fR (c σ1)) fun t=>if t=true then aq (fR (e σ1)) fun w=>aq (lift (dJ (.ref L) [w])) fun _=>dM chk g c e L xs σ1 else dM chk g c e L xs σ1) ph else .no
noncomputable def dn(im:IM)(cap:List (Option Nat))(g:GM)(c:TM)(e:EM):EM:=fun σ=>aq (im σ) fun r ph=>aq (dM r.2 g c e ph.length r.1 (fA cap σ)) (fun _=>aA (.ref ph.length)) (ph++[.lst []])
section
variable{K:aab}{φ:Nat->Addr}{n:Nat}{H:Hp}
theorem bc.cap{ws:aI}{σ:L2.St}(h:bc K φ n H ws σ):∀(cap:List (Option Nat)),bc K φ n H (fA cap ws) (i8 cap σ)
 | []=>.nil
 | o::r=>by
  have ih:=bc.cap h r;unfold fA i8 at ih ⊢;rw[aaB,aaB];cases o with
  | none=>exact .nn ih
  | some i=>
   cases q:ws[i]? with
   | none=>simp only[abe,q,Option.join_none];exact .nn ih
   | some o=>
    cases o with
    | none=>simp only[abe,q,Option.join_some];exact .nn ih
    | some w=>
     obtain⟨v,ev,rv⟩:=h.get q;simp only[abe,q,ev,Option.join_some];exact .sm rv ih
theorem Nd{L:Nat}{w u:W}{ph ph':PH}(h:dJ (.ref L) [w] ph=some (u,ph')):∃ws,ph[L]? =some (.lst ws)/\ws.length<aas/\ph'=ph.set L (.lst (ws++[w])):=by
 unfold dJ at h;simp only at h;split at h
 ·rename_i ws hw;split at h
  ·rename_i hz;cases h;exact⟨ws,hw,hz,rfl⟩
  ·cases h
 ·cases h
end
noncomputable def yY(K:aab)(m:EM):TE:=fun σ H Q=>∃φ ph ws,aD K φ ph H/\bc K φ ph.length H ws σ/\(m ws ph).Run (fun w ph'=>
 ∀ap H' v,aD K ap ph' H'->Step K φ ph.length H ap ph'.length H'->aJ K ap ph'.length H' w v->Q v H') (fun _ _=>False)
noncomputable def j4(K:aab)(m:TM):TT:=fun σ H Q=>∃φ ph ws,aD K φ ph H/\bc K φ ph.length H ws σ/\(m ws ph).Run (fun b ph'=>
 ∀ap H',aD K ap ph' H'->Step K φ ph.length H ap ph'.length H'->Q b H') (fun _ _=>False)
noncomputable def yZ(K:aab)(g:GM):TG:=fun v σ H Q=>∃φ ph ws w,aD K φ ph H/\bc K φ ph.length H ws σ/\aJ K φ ph.length H w v/\(g w ws ph).Run (fun cQ ph'=>
 ∀ap H' aC,aD K ap ph' H'->Step K φ ph.length H ap ph'.length H'->bc K ap ph'.length H' cQ aC->Q aC H') (fun _ _=>False)
section
variable{X:Cx}{e:Expr}
theorem e0{m:EM}(h:IE X e m):PE X e (yY X.K m):=PE.imp h fun _ _ _ ⟨φ,ph,ws,a,b,c⟩=>⟨φ,ph,ws,a,b,c.mono (fun _ _ z=>z) fun _ _ z=>z.elim⟩
theorem t0{m:TM}(h:IT X e m):PT X e (j4 X.K m):=PT.imp h fun _ _ _ ⟨φ,ph,ws,a,b,c⟩=>⟨φ,ph,ws,a,b,c.mono (fun _ _ z=>z) fun _ _ z=>z.elim⟩
theorem g0{g:GM}(h:IG X e g):PG X e (yZ X.K g):=PG.imp h fun _ _ _ _ ⟨φ,ph,ws,w,a,b,r,c⟩=>⟨φ,ph,ws,w,a,b,r,c.mono (fun _ _ z=>z) fun _ _ z=>z.elim⟩
end
section
variable{X:Cx}{tg iter elt:Expr}{ifs:List Expr}{scope:Scope}{pos:Pos}{N:List Str}{cap:List (Option Nat)}{im:IM}{g:GM}{c:TM}{e:EM}
theorem Pd{σ:L2.St}{Q:VK}{au:Nat->Addr}{ph1:PH}{H1:Hp}{ws:aI}{J:It}{items:List W}{chk:PH->Bool}{D:Addr}(ax:aD X.K au ph1 H1)(hS:bc X.K au ph1.length H1 ws σ)(hJ:yM X.K J items chk au ph1.length H1)(hD:H1 D=none)
  (h:(dM chk g c e ph1.length items (fA cap ws) (ph1++[.lst []])).Run (fun _ ph'=>∀ap H' v,aD X.K ap ph' H'->Step X.K au ph1.length H1 ap ph'.length H'->aJ X.K ap ph'.length H' (.ref ph1.length) v->Q v H') (fun _ _=>True)) :
  ∃W:Nat->Nat->L2.St->Hp->Prop,(∃m,W 0 m (i8 cap σ) (upd H1 D (.lst []))) /\
   ∀i m bJ H2,W i m bJ H2->(J.stop i H2/\Q (.ref D) H2)\/(J.go i H2/\∀x H3,J.pf i H2 x H3->yZ X.K g x bJ H3 fun fJ H4=>j4 X.K c fJ H4 fun b H5=>
    if b=true then yY X.K e fJ H5 fun v H6=>∃xs,H6 D=some (.lst xs)/\xs.length<aas/\∃m',m'<m/\W (i+1) m' fJ (upd H6 D (.lst (xs++[v]))) else ∃m',m'<m/\W (i+1) m' fJ H5):=by
 have nl:=gE (ws:=[]) (vs:=[]) ax .nil hD;have hl:(ph1++[PO.lst []]).length=ph1.length+1:=by simp
 rw[hl] at nl;obtain⟨aU,s2,_⟩:=nl;refine⟨fun i m bJ H2=>∃ba ph2 iG,m=(items.drop i).length/\aD X.K ba ph2 H2/\bc X.K ba ph2.length H2 iG bJ/\Step X.K (ext au ph1.length D) (ph1.length+1) (upd H1 D (.lst [])) ba ph2.length H2 /\
   (dM chk g c e ph1.length (items.drop i) iG ph2).Run (fun _ ph'=>∀ap H' v,aD X.K ap ph' H'->Step X.K ba ph2.length H2 ap ph'.length H'->aJ X.K ap ph'.length H' (.ref ph1.length) v->Q v H') (fun _ _=>True),
  ⟨_,ext au ph1.length D,ph1++[PO.lst []],fA cap ws,rfl,aU,?_,by rw[hl];exact Step.refl,?_⟩,?_⟩
 ·rw[hl];exact(bc.cap (hS.mono s2) cap)
 ·exact Out.Run.mono h (fun _ ph' k ap H' v r' cP rv=>k ap H' v r' (s2.trans (by rw[hl] at cP;exact cP)) rv) fun _ _ _=>trivial
 rintro i m bJ H2 ⟨ba,ph2,iG,rfl,y4,nh,gp,h4⟩;have Xp:ba ph1.length=D:=by rw[gp.eq _ (abQ _),iW]
 cases hd:items.drop i with
 | nil=>
  rw[hd] at h4;unfold dM at h4;split at h4
  ·rename_i hc;have hn:items[i]? =none:=by
    have:items.length<=i:=by simpa using hd
    simpa using this
   refine .inl ⟨(hJ ba _ H2 y4 (s2.trans gp) hc i).2 hn,h4 ba H2 _ y4 Step.refl ?_⟩;rw[<- Xp];exact .ref (aan (abQ _) gp.le)
  ·exact h4.elim
 | cons x xs=>
  rw[hd] at h4;unfold dM at h4;split at h4
  ·rename_i hc;have hx:items[i]? =some x:=by
    have:=congrArg (fun l=>l[0]?) hd
    simpa using this
   have ll:items.drop (i+1)=xs:=by
    have:=congrArg (fun l=>l.drop 1) hd
    simpa[afh,aeT] using this
   obtain⟨yN,hy⟩:=(hJ ba _ H2 y4 (s2.trans gp) hc i).1 x hx;refine .inr ⟨yN,fun v H3 y=>?_⟩;obtain⟨dQ,s3,rv⟩:=hy v H3 y;rw[cV] at h4;refine⟨ba,ph2,iG,x,dQ,nh.mono s3,rv,(vS h4).mono (fun g7 ug h5 j8 H5 iL j2 s5 iH=>?_) fun _ _ z=>z⟩;rw[cV] at h5;refine⟨j8,ug,g7,j2,iH,(vS h5).mono (fun t y6 h6 GO H6 FV s6=>?_) fun _ _ z=>z⟩;have y8:=(s3.trans s5).trans s6;have oO:=gp.trans y8;cases t with
   | false=>
    refine mK ⟨xs.length,by simp,GO,y6,g7,by rw[ll],FV,iH.mono s6,oO,?_⟩;rw[ll];exact Out.Run.mono h6 (fun _ ph' k ap H' v r' cP q=>k ap H' v r' (y8.trans cP) q) fun _ _ z=>z
   | true=>
    have FW:(aq (fR (e g7)) (fun w=>aq (lift (dJ (.ref ph1.length) [w])) fun _=>dM chk g c e ph1.length xs g7) y6).Run _ _:=h6;rw[cV] at FW;refine mL ⟨GO,y6,g7,FV,iH.mono s6,(vS FW).mono (fun w7 Yw h7 GP H7 v7 FX s7 r7=>?_) fun _ _ z=>z⟩;rw[cV] at h7;obtain⟨u8,ZQ,e8,h8⟩:=run_lift h7;obtain⟨ZR,hL,hz,rfl⟩:=Nd e8;have Yx:=y8.trans s7;have D5:=oO.trans s7;have Wj:GP ph1.length=D:=by rw[D5.eq _ (abQ _),iW]
    obtain⟨vs,hv,FY⟩:=FX.hp _ _ hL;have fc:ph1.length<Yw.length:=(aac.mp hL).1;obtain⟨q1,q2⟩:=vP FX hL (FY.append (.cons r7 .nil));rw[Wj] at hv q1 q2;refine⟨vs,hv,by rw[<- FY.length];exact hz,xs.length,by simp,GP,_,g7,by rw[ll],q1,((iH.mono s6).mono s7).mono q2,D5.trans q2,?_⟩;rw[ll];exact Out.Run.mono h8 (fun _ ph' k ap H' v r' cP q=>k ap H' v r' ((Yx.trans q2).trans cP) q) fun _ _ z=>z
  ·exact h4.elim
theorem BF{σ:L2.St}{H:Hp}{Q:VK}(h:tM X (dn im cap g c e) σ H Q):sy (tI X im) cap (yZ X.K g) (j4 X.K c) (yY X.K e) σ H Q:=by
 obtain⟨φ,ph,ws,hH,hS,h⟩:=h;unfold dn at h;rw[cV] at h;refine⟨φ,ph,ws,hH,hS,h.mono (fun r ph1 h au H1 J ax s1 hJ D hD=>?_) fun _ _ z=>z⟩;rw[cV] at h;exact Pd ax (hS.mono s1) hJ hD (Out.Run.mono h (fun _ ph' k ap H' v r' cP rv=>k ap H' v r' (s1.trans cP) rv) fun _ _ _=>trivial)
theorem PF.imp{t t':TT}(h:PF X ifs t)(k:∀σ H Q,t' σ H Q->t σ H Q):PF X ifs t':=fun pins s σ H Q I q=>h pins s σ H Q I (k σ H Q q)
noncomputable def dN:TM:=fun _=>aA true
theorem UA:PF X [] (j4 X.K dN):=PF.imp Uy fun σ H Q h=>by
 obtain⟨φ,ph,ws,hH,hS,h⟩:=h;exact h φ H hH Step.refl
theorem UB{cd:Expr}(h:IT X cd c):PF X [cd] (j4 X.K c):=Uz (t0 h)
theorem RQ(hc:X.calm=true)(cp:jj X N cap scope)(hi:II X tg iter im)(hg:∀cl C aE aL ex,IG (bH X N scope cl C aE aL ex) tg g)(ht:∀cl C aE aL ex,PF (bH X N scope cl C aE aL ex) ifs (j4 X.K c))
  (he:∀cl C aE aL ex,IE (bH X N scope cl C aE aL ex) elt e) (hs:∀x,abf iter X.env x=pure x:=by intro _;rfl):IE X (.ListComp elt [⟨tg,iter,ifs,0⟩] scope pos) (dn im cap g c e):=
 PE.imp (RO hc cp hi (fun cl C aE aL ex=>g0 (hg cl C aE aL ex)) ht (fun cl C aE aL ex=>e0 (he cl C aE aL ex)) hs) fun _ _ _ h=>BF h
theorem RR{i:Nat}{x:Str}{pos' fQ:Pos}(hN:X.N.Nodup)(fF:X.N[i]? =some x)(pz:iy X x)(hx:X.env.scope.names.lookup x=some .local)
  (hc:X.calm=true) (cp:jj X N cap scope) (hi:II X tg iter im) (hg:∀cl C aE aL ex,IG (bH X N scope cl C aE aL ex) tg g) (ht:∀cl C aE aL ex,PF (bH X N scope cl C aE aL ex) ifs (j4 X.K c))
  (he:∀cl C aE aL ex,IE (bH X N scope cl C aE aL ex) elt e) (pA:ada (.ListComp elt [⟨tg,iter,ifs,0⟩] scope pos) (some (.Name x pos')) fQ.line X.env=pure true:=by rfl) (hs:∀x,abf iter X.env x=pure x:=by intro _;rfl) :
  IS X (.Assign [.Name x pos'] (.ListComp elt [⟨tg,iter,ifs,0⟩] scope pos) fQ) (aX (dn im cap g c e) (gN i)):=
 PS.imp (RP hN fF pz hx pA hc cp hi (fun cl C aE aL ex=>g0 (hg cl C aE aL ex)) ht (fun cl C aE aL ex=>e0 (he cl C aE aL ex)) hs) fun D σ H h=>by
  obtain⟨φ,ph,ws,hH,hS,h⟩:=h;unfold aX at h;rw[cV] at h;exact BF ⟨φ,ph,ws,hH,hS,h.mono (fun w ph1 h au H1 v ax s1 r1=>h au H1 ax s1 _ ((hS.mono s1).set r1 i)) fun _ _ z=>z⟩
end
noncomputable def tN:List GM->List W->aI->Mo aI
 | [],[],σ=>aA σ
 | g::gs,w::ws,σ=>aq (g w σ) fun aC=>tN gs ws aC
 | _,_,_=>ed
noncomputable def gT(gs:List GM):GM:=fun w σ=>match w with
 | .tup ws=>tN gs ws σ
 | _=>ed
noncomputable def pB(X:Cx)(gs:List GM):jd:=fun vs σ H Q=>∃φ ph ws xs,aD X.K φ ph H/\bc X.K φ ph.length H ws σ/\aM X.K φ ph.length H xs vs/\(tN gs xs ws ph).Run (fun cQ ph'=>
 ∀ap H' aC,aD X.K ap ph' H'->Step X.K φ ph.length H ap ph'.length H'->bc X.K ap ph'.length H' cQ aC->Q aC H') (XE X φ ph.length H)
noncomputable def eD(n:Nat)(gs:List GM):GM:=fun w σ=>match w with
 | .tup ws=>if ws.length=n then tN gs ws σ else ed
 | _=>ed
section
variable{X:Cx}{tg:Expr}{es:List Expr}{g:GM}{gs:List GM}{pos:Pos}
theorem fC.imp{t t':jd}(h:fC X es t)(k:∀v σ H Q,t' v σ H Q->t v σ H Q):fC X es t':=fun pins s σ H v u Q I r q=>h pins s σ H v u Q I r (k v σ H Q q)
theorem RS:fC X [] (pB X []):=fC.imp Ri fun vs σ H Q h=>by
 obtain⟨φ,ph,ws,xs,hH,hS,r,h⟩:=h;cases r with
 | nil=>exact⟨rfl,h φ H σ hH Step.refl hS⟩
 | cons _ _=>exact h.elim
theorem QB{e:Expr}(h1:IG X e g)(h2:fC X es (pB X gs))(hs:(abH (e::es) X.env).map (·.2)=afe e X.env::(abH es X.env).map (·.2):=by rfl):fC X (e::es) (pB X (g::gs)):=
 fC.imp (Qo h1 h2 hs) fun vs σ H Q h=>by
  obtain⟨φ,ph,ws,xs,hH,hS,r,h⟩:=h;cases r with
  | nil=>exact h.elim
  | cons eZ rr=>
   refine⟨_,_,rfl,tG.bind hH hS eZ h fun iF ph1 au H1 σ1 ax s1 eG h1=>?_⟩;exact⟨au,ph1,iF,_,ax,eG,rr.mono s1,h1.mono (fun cQ ph' k ap H' aC r' s' q=>k ap H' aC r' (s1.trans s') q) fun _ _ z=>z⟩
theorem UC{k n:Nat}(hc:X.calm=true)(h:fC X es (pB X gs))(hn:(abH es X.env).length=n:=by rfl)(fU:(abH es X.env).findIdx? (·.1)=none:=by rfl):IG X (.Tuple es k pos) (eD n gs):=
 PG.imp (Tn hc h hn fU) fun v σ H Q h=>by
  obtain⟨φ,ph,ws,w,hH,hS,r,h⟩:=h;unfold eD at h;cases r with
  | tup hq r=>
   simp only at h;split at h
   ·rename_i hl;exact⟨_,_,rfl,bz.of hq,by rw[<- r.length];exact hl,φ,ph,ws,_,hH,hS,r,h⟩
   ·exact h.elim
  | _=>exact h.elim
noncomputable def EV(o i v:W):Po Unit:=fun ph=>match o,i with
 | .ref r,.int k=>match ph[r]? with
  | some (.lst ws)=>match fD ws.length k with
   | some j=>some ((),ph.set r (.lst (ws.set j v)))
   | none=>none
  | _=>none
 | _,_=>none
end
noncomputable def fS(ws:List W)(lo hi:Option Int):List W:=(ws.drop (HT.aV ws.length 0 lo)).take (HT.aV ws.length ws.length hi-HT.aV ws.length 0 lo)
theorem wC(r:aM K φ n H ws vs)(lo hi:Option Int):aM K φ n H (fS ws lo hi) (jI vs lo hi):=by
 unfold fS jI;rw[r.length];exact(r.drop _).take _
noncomputable def hU(w:W)(lo hi:Option Int):Po W:=fun ph=>match w with
 | .tup ws=>if HT.aV ws.length 0 lo=0/\HT.aV ws.length ws.length hi=ws.length then none else some (.tup (fS ws lo hi),ph)
 | .fl ws=>some (.ref ph.length,ph++[.lst (fS ws lo hi)])
 | .ref i=>match ph[i]? with
  | some (.lst ws)=>some (.ref ph.length,ph++[.lst (fS ws lo hi)])
  | _=>none
 | _=>none
abbrev OM:=aI->Mo (Option Int)
noncomputable def dA:OM:=fun _=>aA none
noncomputable def cE(m:EM):OM:=fun σ=>aq (m σ) fun w=>lift (match w with
 | .int i=>ret (some i)
 | _=>d9)
noncomputable def cR(m:EM)(lo hi:OM):EM:=fun σ=>aq (m σ) fun w=>aq (lo σ) fun l=>aq (hi σ) fun h=>lift (hU w l h)
noncomputable def tO(X:Cx)(m:OM):TO:=fun σ H Q=>∃φ ph ws,aD X.K φ ph H/\bc X.K φ ph.length H ws σ/\(m ws ph).Run (fun o ph'=>
 ∀ap H',aD X.K ap ph' H'->Step X.K φ ph.length H ap ph'.length H'->Q o H') (XE X φ ph.length H)
abbrev pC(X:Cx)(e:Option Expr)(m:OM):Prop:=L2.PO X e (tO X m)
section
variable{X:Cx}{e:Expr}{lo hi:Option Expr}{m:EM}{ml mh:OM}{pos p2:Pos}
theorem RT:pC X none dA:=fun pins s σ H Q I ⟨φ,ph,ws,hH,hS,h⟩=>Ro pins s σ H Q I (h φ H hH Step.refl)
theorem RU(he:IE X e m):pC X (some e) (cE m):=fun pins s σ H Q I ⟨φ,ph,ws,hH,hS,h⟩=>Rp he pins s σ H Q I (tM.bind hH hS h fun w ph1 au H1 v ax s1 r1 h=>by
 obtain⟨o,ph',e,k⟩:=run_lift h;split at e
 ·cases e;cases r1;exact⟨_,rfl,k au H1 ax s1⟩
 ·cases e)
theorem tO.bind{β:Type}{m:OM}{σ:L2.St}{H:Hp}{Q:Option Int->Hp->Prop}{φ:Nat->Addr}{ph:PH}{ws:aI}{f:Option Int->Mo β}{N:β->PH->Prop}(hH:aD X.K φ ph H)(hS:bc X.K φ ph.length H ws σ)(h:(aq (m ws) f ph).Run N (XE X φ ph.length H))
  (k:∀b ph1 au H1,aD X.K au ph1 H1->Step X.K φ ph.length H au ph1.length H1->(f b ph1).Run N (XE X au ph1.length H1)->Q b H1):tO X m σ H Q:=by
 rw[cV] at h;exact⟨φ,ph,ws,hH,hS,h.mono (fun b ph1 h1 au H1 ax s1=>k b ph1 au H1 ax s1 (h1.mono (fun _ _ z=>z) fun _ _ z=>z.step s1)) fun _ _ z=>z⟩
theorem Wk(he:IE X e m)(hl:pC X lo ml)(hh:pC X hi mh):IE X (.Subscript e (.Slice lo hi none p2) pos) (cR m ml mh):=
 PE.imp (Qu (j0.or rO Rt) he hl hh) fun σ H Q h=>by
  obtain⟨φ,ph,ws,hH,hS,h⟩:=h;refine tM.bind hH hS h fun w ph1 au H1 v ax s1 r1 h=>tO.bind ax (hS.mono s1) h fun l ph2 ba H2 aU s2 h=>tO.bind aU ((hS.mono s1).mono s2) h fun u gy fg H3 dQ s3 h=>?_
  obtain⟨w',ph',e,k⟩:=run_lift h;have r3:=(r1.mono s2).mono s3;have y9:=(s1.trans s2).trans s3;unfold hU at e;cases r3 with
  | tup hq r=>
   simp only at e;split at e
   ·cases e
   ·rename_i hw;cases e;refine .inl ⟨_,_,rfl,bz.of hq,by rw[<- r.length];exact hw,fun p hp=>?_⟩;exact k fg _ _ (dQ.tup hp) (y9.trans (dj hp)) (.tup bF ((wC r l u).mono (dj hp)))
  | fl hq r=>
   cases e;refine .inr ⟨_,_,rfl,hq.sq,fun p hp=>?_⟩;obtain⟨q1,q2,q3⟩:=gE dQ (wC r l u) hp;exact k _ _ _ q1 (y9.trans q2) q3
  | ref fF=>
   simp only at e;split at e
   ·rename_i cQ hw;cases e;obtain⟨vs,hv,r⟩:=dQ.hp _ _ hw;refine .inr ⟨_,_,rfl,aP.of hv,fun p hp=>?_⟩;obtain⟨q1,q2,q3⟩:=gE dQ (wC r l u) hp;exact k _ _ _ q1 (y9.trans q2) q3
   ·cases e
  | _=>cases e
end
noncomputable def mz:List W->Po W:=fun xs ph=>match xs with
 | [w]=>match cB w ph with
  | some ws=>some (.ref ph.length,ph++[.lst ws])
  | none=>none
 | _=>none
theorem RV:fN K (fun xs H Q=>∃p ys,xs=[.ref p]/\(aP K H p ys\/bz K H p ys)/\∀l,H l=none->Q (.ref l) (upd H l (.lst ys))) mz:=by
 intro φ ph H xs vs w ph' Q hH r e k;unfold mz at e;split at e
 ·split at e
  ·rename_i w0 ws hw;cases e;cases r with
   | cons r r'=>
    cases r';obtain⟨a,ys,rfl,hs,rs⟩:=vO hH r hw;refine⟨a,ys,rfl,hs,fun l hl=>?_⟩;obtain⟨q1,q2,q3⟩:=gE hH rs hl;exact k _ _ _ q1 q2 q3
  ·cases e
 ·cases e
noncomputable def Wl:List W->Po W:=fun xs=>match xs with
 | [.int i,.int j]=>ret (.int (if j>i then j else i))
 | _=>d9
noncomputable def Wm:List W->Po W:=fun xs=>match xs with
 | [.int i,.int j]=>ret (.int (if j<i then j else i))
 | _=>d9
noncomputable def gG(f f':W->W->Po W)(a b c:EM):EM:=fun σ=>aq (a σ) fun x=>aq (b σ) fun y=>aq (lift (f x y)) fun z=>match z with
 | .bl k=>if k=true then aq (c σ) fun u=>lift (f' y u) else aA (.bl false)
 | _=>ed
section
variable{X:Cx}{a b c:Expr}{ma mb mc:EM}{pos:Pos}{op de:CmpOp}{r r':R2}{f f':W->W->Po W}
theorem A6(hi:cm X.K r f)(fF:cm X.K r' f'){σ:L2.St}{H:Hp}{Q:VK}(h:tM X (gG f f' ma mb mc) σ H Q):wQ r r' (tM X ma) (tM X mb) (tM X mc) σ H Q:=by
 obtain⟨φ,ph,ws,hH,hS,h⟩:=h;refine tM.bind hH hS h fun x ph1 au H1 vx ax s1 rx h=>tM.bind ax (hS.mono s1) h fun y ph2 ba H2 vy aU s2 ry h=>?_
 rw[cV] at h;obtain⟨z,gy,e,h⟩:=run_lift h;refine hi aU (rx.mono s2) ry e fun fg H3 vz dQ s3 rz=>?_
 have Yy:=((hS.mono s1).mono s2).mono s3;cases rz with
 | bl k=>
  refine⟨k,rfl,?_⟩;cases k with
  | false=>exact mK (h fg H3 _ dQ ((s1.trans s2).trans s3) (.bl false))
  | true=>
   have h':(aq (mc ws) (fun u=>lift (f' y u)) gy).Run (fun w ph'=>∀ap H' v,aD X.K ap ph' H'->Step X.K φ ph.length H ap ph'.length H'->aJ X.K ap ph'.length H' w v->Q v H') (XE X fg gy.length H3):=Out.Run.mono h (fun _ _ z=>z) fun _ _ z=>z.step s3
   refine mL (tM.bind dQ Yy h' fun u g6 jo H4 vu lm s4 ru h=>?_);obtain⟨w,ph',e',k'⟩:=run_lift h;exact fF lm ((ry.mono s3).mono s4) ru e' fun j8 H5 v j2 s5 r5=>k' j8 H5 v j2 ((((s1.trans s2).trans s3).trans s4).trans s5) r5
 | _=>exact h.elim
theorem QC(ho:bf X (aaX op) r)(hi:cm X.K r f)(dY:bf X (aaX de) r')(fF:cm X.K r' f')(ha:IE X a ma)(hb:IE X b mb)(hc:IE X c mc)(hm:aeO [op,de] [b,c]=false:=by with_unfolding_all rfl) :
  IE X (.Compare a [op,de] [b,c] pos) (gG f f' ma mb mc):=PE.imp (Qq ho dY ha hb hc hm) fun _ _ _ h=>A6 hi fF h
theorem QD(ho:bf X (aaX op) r)(hi:cm X.K r f)(dY:bf X (aaX de) r')(fF:cm X.K r' f')(ha:IE X a ma)(hb:IE X b mb)(hc:IE X c mc)(hm:aeO [op,de] [b,c]=false:=by with_unfolding_all rfl) :
  IT X (.Compare a [op,de] [b,c] pos) (eT (gG f f' ma mb mc)):=PT.imp (Qr ho dY ha hb hc hm) fun σ H Q h=>by
 obtain⟨φ,ph,ws,hH,hS,h⟩:=h;refine A6 hi fF (tM.bind hH hS h fun x ph1 au H1 vx ax s1 rx h=>?_);obtain⟨w,ph',e,k⟩:=run_lift h;split at e
 ·cases e;cases rx;exact⟨_,rfl,k au H1 ax s1⟩
 ·cases e
end
structure fe(X:Cx)(N:List Str)(sc:Scope):Prop where
 hN:X.N=N
 FZ:∀x,aH sc x->aH X.env.scope x
 loc:∀x,Loc sc x->Loc X.env.scope x
 gl:∀x,sc.names.lookup x=some .globalImplicit->Gl X x
 fn:∀x,Loc sc x->(X.fn x=true\/X.env.scope.names.lookup x=some .local)/\iy X x
 nd:N.Nodup
structure ff(X:Cx)(N:List Str)(sc:Scope)(k:Nat):Prop extends fe X N sc where
 calm:X.calm=true
 room:dq k X.A
structure Bd(X:Cx)(N:List Str)(sc:Scope)(k:Nat):Prop extends ff X N sc k where
 EW:PassesOwn (model X.prog X.w) X.A X.env X.xe
section
variable{X:Cx}{N:List Str}{sc:Scope}{k:Nat}{pos:Pos}
theorem fe.var(B:fe X N sc)(i:Nat){x:Str}(hN:N[i]? =some x)(hv:aH sc x)(hd:(x==("__debug__":Str))=false)(hcd:(x==("__classdict__":Str))=false):IE X (.Name x pos) (ae i):=
 TZ i (hN:=by rw[B.hN];exact hN) (hv:=B.FZ x hv) (hd:=hd) (hcd:=hcd)
theorem fe.name(B:fe X N sc)(i:Nat){x:Str}(hN:N[i]? =some x)(hl:Loc sc x):IG X (.Name x pos) (gN i):=
 RA (by rw[B.hN];exact B.nd) (by rw[B.hN];exact hN) (B.loc x hl) (B.fn x hl)
theorem fe.set(B:fe X N sc)(i:Nat){x:Str}{e:Expr}{m:EM}{pos':Pos}(hN:N[i]? =some x)(hl:Loc sc x)(he:IE X e m)(hs:ada e (some (.Name x pos')) pos.line X.env=pure false:=by rfl):IS X (.Assign [.Name x pos'] e pos) (aX m (gN i)):=
 Ud (by rw[B.hN];exact B.nd) (by rw[B.hN];exact hN) (B.loc x hl) he hs (B.fn x hl)
theorem Bd.Xq(B:Bd X N sc k){iter tg:Expr}{im:IM}{g:GM}{b:SM}{body:List Stmt}(hi:II X tg iter im)(hg:IG X tg g)(hb:iE X body b)(hs:∀x,abf iter X.env x=pure x:=by intro _;rfl):IS X (.For tg iter body [] pos) (eA im g b):=
 Ug B.EW B.calm hi hg hb hs
theorem zH{env:Env}{x:Str}:∀{names:List (Str×ade)},names.lookup x=some .globalImplicit →
  (names.map fun(n,k)=>if(k==aaC&&env.scope.kind==.function&&env.kindOf n==some .cell) then(n,abV) else(n,k)).lookup x=some .globalImplicit
 | [],h=>by cases h
 | (n,k)::r,h=>by
  show adJ x ((if(k==aaC&&env.scope.kind==.function&&env.kindOf n==some .cell)=true then(n,abV) else(n,k))::_)=_;rw[aaL] at h;cases q:x==n with
  | true=>
   rw[q] at h;cases h;have yE:¬((aet==aaC&&env.scope.kind==.function&&env.kindOf n==some .cell)=true):=by
    rw[show(aet==aaC)=false from rfl,aff,aff];exact aaJ
   rw[if_neg yE,aaL,q]
  | false=>
   rw[q] at h;have ih:=zH (env:=env) h;split
   ·rw[aaL,q];exact ih
   ·rw[aaL,q];exact ih
theorem Bd.bH(B:Bd X N sc k){N':List Str}{scope:Scope}{cl:List (Str×Addr)}{C:Addr}{aE:aaf}{aL:Hp}{ex:List Addr}(hc:∀y∈scope.names,y.2≠.cell)(nd:N'.Nodup):Bd (bH X N' scope cl C aE aL ex) N' scope k where
 hN:=rfl
 FZ:=fun x h=>by
  rcases h with h | h | h
  ·exact .inl (adz (env:=X.env) h)
  ·exact absurd rfl (hc _ (mem_lookup h))
  ·exact .inr (uO (env:=X.env) h)
 loc:=fun x h=>by
  rcases h with h | h
  ·exact .inl (adz (env:=X.env) h)
  ·exact absurd rfl (hc _ (mem_lookup h))
 gl:=fun x h=>zH (env:=X.env) h
 calm:=B.calm
 room:=B.room
 fn:=fun x h=>by
  rcases h with h | h
  ·exact⟨.inr (adz (env:=X.env) h),fun _ _ _ _ _=>trivial⟩
  ·exact absurd rfl (hc _ (mem_lookup h))
 EW:=PassesOwn.never
 nd:=nd
noncomputable def D6(sc scope:Scope)(N N':List Str)(cap:List (Option Nat)):Bool:=
 cap.length==N'.length&&(aaP N'.length).all (fun i=>match cap[i]? with
  | some (some j)=>(match N'[i]? with
   | some x=>N[j]? ==some x&&scope.names.lookup x==some .free&&(sc.names.lookup x==some .cell||sc.names.lookup x==some .free)
   | none=>false)
  | _=>true)&&scope.names.all (fun y=>y.2 != .cell&&(y.2 != .free||sc.names.lookup y.1==some .cell||sc.names.lookup y.1==some .free)&&(y.2 != .local||scope.names.lookup y.1==some .local))&&scope.kind==.function
theorem Bd.cap(hN:X.N=N)(aK:X.env.scope=sc){N':List Str}{scope:Scope}{cap:List (Option Nat)}(h:D6 sc scope N N' cap=true):jj X N' cap scope:=by
 unfold D6 at h;simp only[aau,abn,beq_iff_eq,bne_iff_ne,acu,ne_eq] at h;obtain⟨⟨⟨h1,h2⟩,h3⟩,h4⟩:=h;have hk:∀x,X.env.kindOf x=sc.names.lookup x:=fun x=>by unfold Env.kindOf;rw[aK]
 refine⟨h1,fun i j x e1 e2=>?_,fun y hy hf=>?_,fun y hy=>(h3 y hy).1.1,h4,fun y hy hl=>?_⟩
 ·have hi:i<N'.length:=(aac.mp e1).1;have:=h2 i (abx.mpr hi);rw[e2,e1] at this;simp only[aau,beq_iff_eq,acu] at this;obtain⟨⟨a1,a2⟩,a3⟩:=this;rw[hN,hk];exact⟨a1,a2,a3⟩
 ·rw[hk]
  rcases(h3 y hy).1.2 with(z | z) | z
  ·exact absurd hf z
  ·exact .inl z
  ·exact .inr z
 ·rcases(h3 y hy).2 with z | z
  ·exact absurd hl z
  ·exact z
end
noncomputable def isStar:Expr->Bool
 | .Starred .. =>true
 | _=>false
theorem cU{e:Expr}{es:List Expr}(h:isStar e=false):aaA (e::es) env=(false,eval e env)::aaA es env:=by
 cases e <;> first | rfl | cases h
noncomputable def ek(es:List Expr):Bool:=es.all fun e=> !isStar e
theorem any_none{env:Env}{pos:Pos}:∀{es:List Expr},ek es=true->(adp pos (aaA es env)).any (·.1)=false
 | [],_=>rfl
 | e::es,h=>by
  unfold ek at h;rw[abU,aau] at h;have h1:isStar e=false:=by simpa using h.1
  rw[cU h1];show(false||(adp pos (aaA es env)).any (·.1))=false;rw[any_none (es:=es) h.2];rfl
theorem all_none{env:Env}{pos:Pos}:∀{es:List Expr},ek es=true->(adp pos (aaA es env)).all (fun x=> !x.1)=true
 | [],_=>rfl
 | e::es,h=>by
  unfold ek at h;rw[abU,aau] at h;have h1:isStar e=false:=by simpa using h.1
  rw[cU h1];show(!false&&(adp pos (aaA es env)).all (fun x=> !x.1))=true;rw[all_none (es:=es) h.2];rfl
section
variable{X:Cx}{e:Expr}{es:List Expr}{m:EM}{a:AM}{pos:Pos}
theorem Xr(h:isStar e=false)(he:IE X e m)(hr:IA X es a):IA X (e::es) (ah m a):=RE he hr (cU h)
end
section
variable{X:Cx}{k:Nat}{f:Addr}{fd:aaS}{ps:List Str}{fm:List W->Mo W}{x:Str}{p pos:Pos}{e:Expr}{es:List Expr}{a:AM}
theorem UD(hn:ek (e::es)=true)(du:(x==("__debug__":Str))=false)(F:bY X.prog X.w X.K X.mg X.base (bS X.prog X.w) k f fd ps (cf X.K X.mg ps.length fm))(hl:∀{xs:List W} {ph:PH},xs.length≠ps.length->fm xs ph=.no)(hr:dq k X.A)(hg:Gl X x)(hm:X.mg x=some (.ref f))
  (hk:aax X.K (.ref f)=true) (hb:Binds X.K fd ps []) (ha:IA X (e::es) a):IE X (.Call (.Name x p) (e::es) [] pos) (bw fm a):=by
 unfold ek at hn;rw[abU,aau] at hn;exact RG F hl hr hg hm hk hb ha du (cU (by simpa using hn.1)) (any_none hn.2)
variable{t:AM}{id T:String}{r:List V->Hp->VK->Prop}{fp:List W->Po W}
theorem UE(bT:ek (e::es)=true)(hn:x≠"__name__")(du:(x==("__debug__":Str))=false)(hc:cy X (.builtin id) r)(hi:fN X.K r fp)(hg:Gl X x)(hm:X.mg x=none)(hv:abk x=some (.builtin id))(ha:IA X (e::es) t):IE X (.Call (.Name x p) (e::es) [] pos) (bo fp t):=by
 unfold ek at bT;rw[abU,aau] at bT;exact Qy hc hi hg hm hv ha hn du (cU (by simpa using bT.1)) (any_none bT.2)
theorem UG(bT:ek (e::es)=true)(hn:x≠"__name__")(du:(x==("__debug__":Str))=false)(hc:cy X (.type T) r)(hi:fN X.K r fp)(hg:Gl X x)(hm:X.mg x=none)(hv:abk x=some (.type T))(ha:IA X (e::es) t):IE X (.Call (.Name x p) (e::es) [] pos) (bo fp t):=by
 unfold ek at bT;rw[abU,aau] at bT;exact Pb hc hi hg hm hv ha hn du (cU (by simpa using bT.1)) (any_none bT.2)
end
section
variable{X:Cx}{o e:Expr}{es:List Expr}{mo:EM}{t:AM}{name:Str}{apos dW:Pos}{T id:String}{r:V->List V->Hp->VK->Prop}{ty:W->PH->Bool}{f:W->List W->Po W}
theorem UH(bT:ek (e::es)=true)(bU:decide ((e::es).length<30)=true)(pa:afE T)(slot:Slot T name id)(lj:typeOf (.builtin id)=pure (.type "method_descriptor"))(hm:pk X id r)(ht:nv X.K T ty)(hi:nu X.K T r f)(ho:IE X o mo)(ha:IA X (e::es) t)
  (kO:aes o name X.env (eval o X.env)=eval o X.env:=by rfl) (kP:(apos.endLine==dW.line)=true:=by rfl):IE X (.Call (.Attribute o name apos) (e::es) [] dW) (cJ ty f mo t):=by
 have oN:=all_none (env:=X.env) (pos:=dW) bT;unfold ek at bT;rw[abU,aau] at bT;refine Wc pa slot lj hm ht hi ho ha kO ?_ kP (cU (by simpa using bT.1)) (any_none bT.2);rw[oN,show(backToKw dW (keywordEach [] X.env)).all (fun x=>x.1.isSome)=true from rfl]
 simpa using bU
end
structure JE(X:Cx)(e:Expr)(m:EM):Prop where
 h:IE X e m
structure JT(X:Cx)(e:Expr)(m:TM):Prop where
 h:IT X e m
structure JW(X:Cx)(e:Expr)(m:TM):Prop where
 h:PW X e (tT X m)
structure JA(X:Cx)(es:List Expr)(m:AM):Prop where
 h:IA X es m
structure JS(X:Cx)(st:Stmt)(m:SM):Prop where
 h:IS X st m
structure JB(X:Cx)(st:List Stmt)(m:SM):Prop where
 h:iE X st m
structure JG(X:Cx)(e:Expr)(g:GM):Prop where
 h:IG X e g
structure ul(X:Cx)(es:List Expr)(gs:List GM):Prop where
 h:fC X es (pB X gs)
structure JI(X:Cx)(tg iter:Expr)(im:IM):Prop where
 h:II X tg iter im
structure JO(X:Cx)(e:Option Expr)(m:OM):Prop where
 h:pC X e m
structure JF(X:Cx)(ifs:List Expr)(c:TM):Prop where
 h:PF X ifs (j4 X.K c)
section
variable{X:Cx}{N:List Str}{sc:Scope}{k:Nat}{a b c e o:Expr}{es rest:List Expr}{ma mb mc m mo:EM}{ta tb t:TM}{am:AM}{sa sb:SM}{st:Stmt}{as bs body:List Stmt}{p p2 pos pos':Pos}{g:GM}{gs:List GM}{im:IM}{tg iter:Expr}
theorem fe.Xs(B:fe X N sc)(i:Nat){x:Str}(hN:N[i]? =some x)(hv:aH sc x)(hd:(x==("__debug__":Str))=false)(hcd:(x==("__classdict__":Str))=false):JE X (.Name x pos) (ae i):=⟨B.var i hN hv hd hcd⟩
variable{j:Nat}
theorem aw{i:Int}:JE X (.Constant (.int i) j pos) (eC (.int i)):=⟨T1⟩
theorem bM{x:Str}:JE X (.Constant (.str x) j pos) (eC (.str x)):=⟨T2⟩
theorem ft{x:Bool}:JE X (.Constant (.bool x) j pos) (eC (.bl x)):=⟨V5⟩
theorem nT{x:Str}{i:Int}{tk:Tok}(hg:Gl X x)(hm:X.mg x=some (.int i tk))(hd:(x==("__debug__":Str))=false):JE X (.Name x pos) (eC (.int i)):=⟨mN (nQ (v:=.int i) hg hm ⟨_,rfl⟩ hd) fun _ _ _=>.int i⟩
theorem RW{x y:Str}{tk:Tok}(hg:Gl X x)(hm:X.mg x=some (.str y tk))(hd:(x==("__debug__":Str))=false):JE X (.Name x pos) (eC (.str y)):=⟨mN (nQ (v:=.str y) hg hm ⟨_,rfl⟩ hd) fun _ _ _=>.str y⟩
theorem n6(ha:JE X a ma):JE X (.UnaryOp .USub a pos) (jg iB ma):=⟨V6 Tw Uo ha.h⟩
theorem UI(ha:JE X a ma):JE X (.UnaryOp .Not a pos) (tE ma):=⟨Ua ha.h⟩
theorem dm(ha:JE X a ma)(hb:JE X b mb):JE X (.BinOp a .Add b pos) (af addW ma mb):=⟨ou RI Ut ha.h hb.h⟩
theorem jw(ha:JE X a ma)(hb:JE X b mb):JE X (.BinOp a .Sub b pos) (af eY ma mb):=⟨ou Tu Up ha.h hb.h⟩
theorem cb(ha:JE X a ma)(hb:JE X b mb):JE X (.BinOp a .Mod b pos) (af aZ ma mb):=⟨ou Rk Uq ha.h hb.h⟩
theorem cM(ha:JE X a ma)(hb:JE X b mb):JE X (.BinOp a .FloorDiv b pos) (af bx ma mb):=⟨ou QA Ur ha.h hb.h⟩
structure Cp(X:Cx)(op:CmpOp)(b:Expr)(f:W->W->Po W):Prop where
 ex:∃r,bf X (aaX op) r/\cm X.K r f
 bm:abz op b=false
theorem kU:Cp X .Lt b iI:=⟨⟨_,VU,wW⟩,n0 _⟩
theorem kW:Cp X .LtE b jh:=⟨⟨_,VW,wW⟩,n0 _⟩
theorem D7:Cp X .Gt b uj:=⟨⟨_,VX,wW⟩,n0 _⟩
theorem ff.eq(B:ff X N sc k):Cp X .Eq b bA:=⟨⟨_,Uu B.room.units,Wf⟩,n0 _⟩
theorem ff.ne(B:ff X N sc k):Cp X .NotEq b dg:=⟨⟨_,Uv B.room.units,Wg⟩,n0 _⟩
variable{f:W->W->Po W}
theorem wY{op:CmpOp}(hc:Cp X op b f)(ha:JE X a ma)(hb:JE X b mb):JE X (.Compare a [op] [b] pos) (af f ma mb):=let ⟨_,h1,h2⟩:=hc.ex;⟨T3 h1 h2 ha.h hb.h hc.bm⟩
theorem bN{op:CmpOp}(hc:Cp X op b f)(ha:JE X a ma)(hb:JE X b mb):JT X (.Compare a [op] [b] pos) (eT (af f ma mb)):=let ⟨_,h1,h2⟩:=hc.ex;⟨T4 h1 h2 ha.h hb.h hc.bm⟩
theorem BG{op de:CmpOp}{f':W->W->Po W}(h1:Cp X op b f)(h2:Cp X de c f')(hm:aeO [op,de] [b,c]=false)(ha:JE X a ma)(hb:JE X b mb)(hc:JE X c mc):JE X (.Compare a [op,de] [b,c] pos) (gG f f' ma mb mc):=
 let ⟨_,q1,q2⟩:=h1.ex;let ⟨_,q3,q4⟩:=h2.ex;⟨QC q1 q2 q3 q4 ha.h hb.h hc.h hm⟩
theorem BH{op de:CmpOp}{f':W->W->Po W}(h1:Cp X op b f)(h2:Cp X de c f')(hm:aeO [op,de] [b,c]=false)(ha:JE X a ma)(hb:JE X b mb)(hc:JE X c mc):JT X (.Compare a [op,de] [b,c] pos) (eT (gG f f' ma mb mc)):=
 let ⟨_,q1,q2⟩:=h1.ex;let ⟨_,q3,q4⟩:=h2.ex;⟨QD q1 q2 q3 q4 ha.h hb.h hc.h hm⟩
theorem wZ{op:BoolOp}(ha:JE X a ma):JE X (.BoolOp op [a] pos) ma:=⟨T9 ha.h⟩
theorem w8(ha:JE X a ma)(hb:JE X (.BoolOp .And (b::rest) pos) mb):JE X (.BoolOp .And (a::b::rest) pos) (k6 ma mb):=⟨T8 ha.h hb.h⟩
theorem gH{op:BoolOp}(ha:JT X a ta):JW X (.BoolOp op [a] pos) ta:=⟨T6 ha.h⟩
theorem Dc(ha:JT X a ta)(hb:JW X (.BoolOp .And (b::rest) pos) tb):JW X (.BoolOp .And (a::b::rest) pos) (i0 ta tb):=⟨T7 ha.h hb.h⟩
theorem gM(ha:JT X a ta)(hb:JW X (.BoolOp .Or (b::rest) pos) tb):JW X (.BoolOp .Or (a::b::rest) pos) (er ta tb):=⟨V8 ha.h hb.h⟩
theorem gS(h:JW X a ta):JT X a ta:=⟨h.h.pt⟩
theorem gI(ha:JT X a ta):JT X (.UnaryOp .Not a pos) (eU ta):=⟨T5 ha.h⟩
noncomputable def plainT:Expr->Bool
 | .Name .. =>true | .Call .. =>true | .Subscript .. =>true | .Constant .. =>true | .BinOp .. =>true
 | _=>false
theorem gJ(hp:plainT a=true)(ha:JE X a ma):JT X a (eX ma):=⟨by
 cases a <;> first | cases hp;done | exact Ub ha.h⟩
theorem ay:JA X [] aj:=⟨Uj⟩
theorem ak(h:isStar e=false)(he:JE X e m)(hr:JA X es am):JA X (e::es) (ah m am):=⟨Xr h he.h hr.h⟩
theorem eQ{x1:Nat}(h:JA X es am):JE X (.Tuple es x1 pos) (c6 am):=⟨Uk h.h⟩
theorem da(h:JA X es am):JE X (.List es pos) (bP am):=⟨Ul h.h⟩
theorem kG:JO X none dA:=⟨RT⟩
theorem iT(he:JE X e m):JO X (some e) (cE m):=⟨RU he.h⟩
theorem jD{lo hi:Option Expr}{ml mh:OM}(he:JE X e m)(hl:JO X lo ml)(hh:JO X hi mh):JE X (.Subscript e (.Slice lo hi none p2) pos) (cR m ml mh):=⟨Wk he.h hl.h hh.h⟩
theorem bR:JB X [] bB:=⟨Rw⟩
theorem aN{rs:List Stmt}(h1:JS X st sa)(h2:JB X rs sb):JB X (st::rs) (aF sa sb):=⟨Qw h1.h h2.h⟩
theorem aR(h1:JS X st sa):JB X [st] sa:=⟨Ry h1.h⟩
theorem vT:JS X st n5:=⟨Qx⟩
theorem bh(he:JE X e m):JS X (.Return (some e) pos) (aT m):=⟨Uc he.h⟩
noncomputable def xb:Expr->Bool
 | .ListComp .. =>false | .SetComp .. =>false | .DictComp .. =>false
 | _=>true
theorem BJ{x:Option Expr}{n:Nat}{env:Env}(h:xb e=true):ada e x n env=pure false:=by
 cases e <;> first | rfl | cases h
theorem jt(hn:xb e=true)(he:JE X e m):JS X (.Expr e pos) (eV m):=⟨Rz he.h (BJ hn)⟩
theorem bO(hc:JT X c t)(ha:JB X as sa)(hb:JB X bs sb):JS X (.If c as bs pos) (bp t sa sb):=⟨V9 hc.h ha.h hb.h⟩
theorem fe.bZ(B:fe X N sc)(i:Nat){x:Str}(hN:N[i]? =some x)(hl:Loc sc x)(hn:xb e=true)(he:JE X e m):JS X (.Assign [.Name x pos'] e pos) (aX m (gN i)):=⟨B.set i hN hl he.h (BJ hn)⟩
theorem Dd(he:JE X e m)(hg:JG X tg g)(hs:swapsWithSole [tg] e pos.line X.env=pure false:=by rfl)(hw:swappedStores [tg] e X.env=pure none:=by rfl)
  (h1:(abH [tg] X.env).map (·.2)=[afe tg X.env]:=by rfl):JS X (.Assign [tg] e pos) (aX m g):=⟨Ue he.h hg.h hs hw h1⟩
theorem fe.c5(B:fe X N sc)(i:Nat){x:Str}(hN:N[i]? =some x)(hl:Loc sc x):JG X (.Name x pos) (gN i):=⟨B.name i hN hl⟩
theorem l5:ul X [] []:=⟨RS⟩
theorem gc(h1:JG X e g)(h2:ul X es gs)(hs:(abH (e::es) X.env).map (·.2)=afe e X.env::(abH es X.env).map (·.2):=by rfl):ul X (e::es) (g::gs):=⟨QB h1.h h2.h hs⟩
theorem mm{n:Nat}(hc:X.calm=true)(h:ul X es gs)(hn:(abH es X.env).length=n:=by rfl)(fU:(abH es X.env).findIdx? (·.1)=none:=by rfl):JG X (.Tuple es j pos) (eD n gs):=⟨UC hc h.h hn fU⟩
theorem Bd.i9(B:Bd X N sc k)(hi:JI X tg iter im)(hg:JG X tg g)(hb:JB X body sb)(hs:∀x,abf iter X.env x=pure x:=by intro _;rfl):JS X (.For tg iter body [] pos) (eA im g sb):=⟨B.Xq hi.h hg.h hb.h hs⟩
theorem nJ(hg:Gl X "range")(hm:X.mg "range"=none)(hn:isStar a=false)(ha:JA X [a] am):JI X tg (.Call (.Name "range" p) [a] [] pos) (fX am):=⟨Pa hg hm ha.h (cU hn)⟩
theorem b7{k:Nat}{f:Addr}{fd:aaS}{ps:List Str}{fm:List W->Mo W}{x:Str}(hn:ek (e::es)=true)(du:(x==("__debug__":Str))=false)(F:bY X.prog X.w X.K X.mg X.base (bS X.prog X.w) k f fd ps (cf X.K X.mg ps.length fm))(hl:∀{xs:List W} {ph:PH},xs.length≠ps.length->fm xs ph=.no)(hr:dq k X.A)(hg:Gl X x)(hm:X.mg x=some (.ref f))
  (hk:aax X.K (.ref f)=true) (hb:Binds X.K fd ps []) (ha:JA X (e::es) am):JE X (.Call (.Name x p) (e::es) [] pos) (bw fm am):=⟨UD hn du F hl hr hg hm hk hb ha.h⟩
theorem cD{x:Str}{id:String}{r:List V->Hp->VK->Prop}{fp:List W->Po W}(bT:ek (e::es)=true)(hn:x≠"__name__")(du:(x==("__debug__":Str))=false)(hc:cy X (.builtin id) r)(hi:fN X.K r fp)(hg:Gl X x)(hm:X.mg x=none)(hv:abk x=some (.builtin id))(ha:JA X (e::es) am):JE X (.Call (.Name x p) (e::es) [] pos) (bo fp am):=⟨UE bT hn du hc hi hg hm hv ha.h⟩
theorem rP{x:Str}{T:String}{r:List V->Hp->VK->Prop}{fp:List W->Po W}(bT:ek (e::es)=true)(hn:x≠"__name__")(du:(x==("__debug__":Str))=false)(hc:cy X (.type T) r)(hi:fN X.K r fp)(hg:Gl X x)(hm:X.mg x=none)(hv:abk x=some (.type T))(ha:JA X (e::es) am):JE X (.Call (.Name x p) (e::es) [] pos) (bo fp am):=⟨UG bT hn du hc hi hg hm hv ha.h⟩
theorem gK{name:Str}{T id:String}{r:V->List V->Hp->VK->Prop}{ty:W->PH->Bool}{f:W->List W->Po W}(bT:ek (e::es)=true)(bU:decide ((e::es).length<30)=true)(pa:afE T)(slot:Slot T name id)(lj:typeOf (.builtin id)=pure (.type "method_descriptor"))(hm:pk X id r)(ht:nv X.K T ty)(hi:nu X.K T r f)(ho:JE X o mo)(ha:JA X (e::es) am)
  (kO:aes o name X.env (eval o X.env)=eval o X.env:=by rfl) (kP:(p.endLine==pos.line)=true:=by rfl):JE X (.Call (.Attribute o name p) (e::es) [] pos) (cJ ty f mo am):=⟨UH bT bU pa slot lj hm ht hi ho.h ha.h kO kP⟩
theorem gO{c:Str}{cn:String}{p2:Pos}(hk:jO X.K cn)(hv:abk c=some (.type cn))(hn:c≠"__name__")(hd:(c==("__debug__":Str))=false)(fU:isStar e=false)(hg:Gl X "isinstance")(hm:X.mg "isinstance"=none)(yQ:Gl X c)(yR:X.mg c=none)(he:JE X e m) :
  JE X (.Call (.Name "isinstance" p) [e,.Name c p2] [] pos) (fE cn m):=⟨We hk hv hg hm yQ yR he.h hn hd (by rw[cU fU,cU rfl];rfl) (cU rfl) (any_none rfl)⟩
theorem kK:JF X [] dN:=⟨UA⟩
theorem UJ(h:JT X c t):JF X [c] t:=⟨UB h.h⟩
theorem l6{scope:Scope}{ifs:List Expr}{N':List Str}{cap:List (Option Nat)}(hc:X.calm=true)(cp:jj X N' cap scope)(hi:JI X tg iter im)(hg:∀cl C aE aL ex,JG (bH X N' scope cl C aE aL ex) tg g)(ht:∀cl C aE aL ex,JF (bH X N' scope cl C aE aL ex) ifs t)
  (he:∀cl C aE aL ex,JE (bH X N' scope cl C aE aL ex) e m) (hs:∀x,abf iter X.env x=pure x:=by intro _;rfl):JE X (.ListComp e [⟨tg,iter,ifs,0⟩] scope pos) (dn im cap g t m):=
 ⟨RQ hc cp hi.h (fun cl C aE aL ex=>(hg cl C aE aL ex).h) (fun cl C aE aL ex=>(ht cl C aE aL ex).h) (fun cl C aE aL ex=>(he cl C aE aL ex).h) hs⟩
theorem Cn{scope:Scope}{ifs:List Expr}{N':List Str}{cap:List (Option Nat)}{i:Nat}{x:Str}(hN:X.N.Nodup)(fF:X.N[i]? =some x)(pz:iy X x)(hx:X.env.scope.names.lookup x=some .local)
  (hc:X.calm=true) (cp:jj X N' cap scope) (hi:JI X tg iter im) (hg:∀cl C aE aL ex,JG (bH X N' scope cl C aE aL ex) tg g) (ht:∀cl C aE aL ex,JF (bH X N' scope cl C aE aL ex) ifs t)
  (he:∀cl C aE aL ex,JE (bH X N' scope cl C aE aL ex) e m) (pA:ada (.ListComp e [⟨tg,iter,ifs,0⟩] scope p) (some (.Name x pos')) pos.line X.env=pure true) (hs:∀x,abf iter X.env x=pure x:=by intro _;rfl) :
  JS X (.Assign [.Name x pos'] (.ListComp e [⟨tg,iter,ifs,0⟩] scope p) pos) (aX (dn im cap g t m) (gN i)):=
 ⟨RR hN fF pz hx hc cp hi.h (fun cl C aE aL ex=>(hg cl C aE aL ex).h) (fun cl C aE aL ex=>(ht cl C aE aL ex).h) (fun cl C aE aL ex=>(he cl C aE aL ex).h) pA hs⟩
end
open PySem PySem.Spec PyProof.Rows L2 PySem.W Builtin.ObjectAttr Builtin.Getset_descriptor
noncomputable def za(x:XC):Mo α:=fun ph=>.ex x ph
open PySem PySem.Spec PyProof.Rows L2 PySem.W
structure cO(X:Cx):Prop where
 st:X.stack=X.env::X.outer
 fr:X.env.frame=some X.env.locals
 ex:X.ex=[]
variable{P:aba}
theorem cW{w:World}{mg:Str->Option Value}{base:Heap}{x qual:Str}{st:Stmt}{f:Addr}{fd:aaS}{N ps:List Str}{k np:Nat}{body:SM}(hn:N.length=n)(hp:ps.length=np)(F:cz K x qual st f fd)(S:cA N ps (ag st))
  (oi:∀{X:Cx},X.prog=P->X.w=w->X.K=K->X.mg=mg->X.base=base->Bd X N (ag st) k->cO X->X.env.scope=ag st->JB X (bg st) body):bY P w K mg base (bS P w) (k+1) f fd ps (cf K mg np (fM body n np)):=by
 subst hn hp;exact Um F S fun cj A outer s H E hr=>(oi (X:=i7 (bS P w) P w K mg base N qual (ag st) f cj A outer s H E) rfl rfl rfl rfl rfl ⟨⟨⟨rfl,fun _ z=>z,fun _ z=>z,fun _ z=>z,fun _ _=>⟨.inl rfl,fun _ _ _ _ _=>trivial⟩,S.nd⟩,rfl,hr⟩,PassesOwn.leaving⟩ ⟨rfl,rfl,rfl⟩ rfl).h
noncomputable def kX(K:aab)(b:Addr):Bool:=(ig K).any fun p=>p.2.2==b
theorem BK{b:Addr}(h:kX K b=true):∃p∈ig K,p.2.2=b:=by
 obtain⟨p,h1,h2⟩:=adx.mp h;exact⟨p,h1,eq_of_beq h2⟩
theorem Pe{p:Str×Addr×Addr}(h:p∈ig K):kX K p.2.2=true:=adx.mpr ⟨p,h,beq_self_eq_true _⟩
noncomputable def H0(K:aab)(a:Addr)(o:Obj)(xs:List V):Hp:=fun b=>if kX K b=true then some (.fT #[]) else if b=a/\K.lookup a=none then some (.bL o (.lst xs)) else none
section
variable{Pg:aba}{w:World}{K:aab}{mg mb:Str->Option Value}{k:Nat}{fa a:Addr}{fd:aaS}{x:Str}{bv:aaf}{vs:List Value}{ns:List Int}{fm:List W->Mo W}
theorem QE(KX:K.In bv.heap)(bT:bv.heap.Ns aam mg)(hb:bv.heap.Ns adE mb)(ui:∀x:Str,x≠"__name__"->mb x=abk x)(Xt:bv.heap.NoLimit)
  (Yz:∃bm ob,mg "__builtins__"=some (.ref bm)/\bm≠adE/\bv.heap.get? bm=some ob/\ob.cls=.type "module"/\ob.dict=some adE/\ob.data=.plain) (hg:bv.gens= #[])
  (hT:∀p∈ig K,aeb bv.heap p.2.1 p.2.2/\bv.heap.get? p.2.2=some (acx #[])) (hK:afi K=true)
  (ha:bv.heap.get? a=some { cls:=.type "list",data:=.seq vs.toArray }) (hi:aeR vs ns) (hl:ns.length<=63) (hr:dq k callerA)
  (F:∀base:Heap,K.In base->base.Ns aam mg->bY Pg w K mg base (bS Pg w) k fa fd [x] (cf K mg 1 fm)) (Wn:∀(s:aaf) (u:Value),BindsTo s fd ⟨[u],[]⟩ [(x,u)])
  (good:∃ph',fm [.fl (ns.map W.int)] []=.ok (.bl true) ph') :
  afB (model Pg w) callerA (.call (.ref fa) ⟨[.ref a],[]⟩) (fun r s'=>r=.ok (.ret (.bool true))/\OldK bv.heap s'.heap/\s'.os=bv.os/\aeM s'.gens) bv:=by
 have rv:=A2 hi;have Xu:=hi.length;have ce:ns.length<=sizeLine:=abl hl (by decide);have tabOf:∀{b:Addr},kX K b=true->bv.heap.get? b=some (acx #[]):=fun h=>by
  obtain⟨p,h1,rfl⟩:=BK h;exact(hT p h1).2
 have free:∀{b:Addr} {o:Obj},bv.heap.get? b=some o->o≠acx #[]->(b=a->K.lookup a≠none)->H0 K a { cls:=.type "list",data:=.seq vs.toArray } (ns.map V.int) b=none:=fun{b o} e n1 n2=>by
  unfold H0;rw[if_neg (fun h=>n1 (abd (e.symm.trans (tabOf h)))),if_neg (fun h=>n2 h.1 h.2)]
 have xD:∀{b:Addr} {o:Obj},bv.heap.get? b=some o->o.cls≠.none->o.cls≠.type "list"->H0 K a { cls:=.type "list",data:=.seq vs.toArray } (ns.map V.int) b=none:=fun{b o} e n1 n2=>free e (fun z=>n1 (by rw[z])) fun z=>by
  subst z;rw[ha] at e;cases e;exact absurd rfl n2
 have xE:∀{b:Addr} {o:Obj} {es:Array DictEntry} {ep:Nat},bv.heap.get? b=some o->o.data=.dict es ep->H0 K a { cls:=.type "list",data:=.seq vs.toArray } (ns.map V.int) b=none:=fun{b o es ep} e d=>free e (fun z=>by rw[z] at d;cases d) fun z=>by
  subst z;rw[ha] at e;cases e;have d':Data.seq vs.toArray _=Data.dict es ep:=d;cases d'
 have na:kX K a=false:=by
  cases q:kX K a with
  | false=>rfl
  | true=>have:=tabOf q;rw[ha] at this;cases this
 revert free xD xE
 generalize eH:H0 K a { cls:=.type "list",data:=.seq vs.toArray } (ns.map V.int)=H;intro free xD xE;have De:∀b u,H b=some u->(kX K b=true/\u=.fT #[])\/(b=a/\u=.bL { cls:=.type "list",data:=.seq vs.toArray } (.lst (ns.map V.int))):=fun b u e=>by
  rw[<- eH] at e;unfold H0 at e;split at e
  ·rename_i h;cases e;exact .inl ⟨h,rfl⟩
  ·split at e
   ·rename_i h;cases e;exact .inr ⟨h.1,rfl⟩
   ·cases e
 have aG:cc Pg w H bv.heap:=fun b u e=>by
  rcases De b u e with⟨h,rfl⟩ | ⟨rfl,rfl⟩
  ·exact tabOf h
  ·exact⟨ha,by rw[aag];exact ce,vs,_,rv,ha⟩
 have tb:∀p∈ig K,jJ H p.1 p.2.2:=fun p hp=>⟨#[],by rw[<- eH];exact if_pos (Pe hp),trivial,fun pos v e=>nomatch e⟩
 have hS:tq K H a (ns.map V.int):=by
  cases q:K.lookup a with
  | some o=>
   have e:=KX a o q;rw[ha] at e;cases e;exact .inr ⟨_,vs.toArray,_,q,rfl,rfl,rfl,by rw[aao,Xu];exact ce,by simpa using rv⟩
  | none=>exact .inl ⟨_,by rw[<- eH];unfold H0;rw[if_neg (by rw[na];simp),if_pos ⟨rfl,q⟩]⟩
 have zb:∀{b:Addr} {o:Obj},bv.heap.get? b=some o->H b=none->(i5 bv.heap H).get? b=some o:=fun e n=>Ql e n
 have um:∀{b:Addr} {m:Str->Option Value},bv.heap.Ns b m->(i5 bv.heap H).Ns b m:=fun{b m} ⟨o,es,ep,e,d,r⟩=>⟨o,es,ep,zb e (xE e d),d,r⟩
 have F1:K.In (i5 bv.heap H):=fun b o e=>zb (KX b o e) (free (KX b o e) (fun z=>by
  have h2:=abn.mp hK (b,o) (PySem.W.mem_of_lookupK e);subst z;exact absurd (show false=true from h2) aaJ) fun z q=>by rw[<- z,e] at q;cases q)
 have hM:Mod K mg (i5 bv.heap H):=⟨F1,um bT,⟨mb,um hb,ui⟩,let ⟨mc,h1,h2⟩:=Xt;⟨mc,um h1,h2⟩,
  let ⟨bm,ob,b1,b2,b3,b4,b5⟩:=Yz;⟨bm,ob,b1,b2,zb b3 (xD b3 (by rw[b4];exact fun z=>nomatch z) (by rw[b4];exact fun z=>absurd (Value.type.inj z) (by decide))),b4,b5⟩⟩
 have e0:tf Pg w K mg (i5 bv.heap H) callerA [] bv H:=⟨rfl,hM,fun b o e=>Q8 e,Nat.le_of_eq (OZ _ _),trivial,fun b hb=>absurd (show b∈([]:List Addr) from hb) (by simp),aG,.of_eq hg⟩
 obtain⟨ph',eg⟩:=good;refine aeU ((F _ F1 (um bT)).run callerA [] bv H ⟨[.ref a],[]⟩ [.ref a] [.ref a] (fun v _=>v=.bl true) (fun _ _ _=>False) hr e0 (Wn bv (.ref a)) (.cons rfl .nil)
  ⟨rfl,fun _=>0,[],[.fl (ns.map W.int)],⟨fun i o e=>by simp at e,fun i j hi=>absurd hi (by simp),tb⟩,.cons (.fl hS (Cg ns)) .nil,?_⟩) fun r s' h=>?_
 ·rw[eg];intro ap H' v _ _ r;cases r;rfl
 ·cases r with
  | error e=>obtain⟨_,_,_,z⟩:=h;exact z.elim
  | ok fl=>
   cases fl with
   | next=>exact adF h
   | brk=>exact adF h
   | cont=>exact adF h
   | ret u=>
    obtain⟨v,H',os,bare,un,EX,r',q⟩:=h;have q':v=.bl true:=q;subst q';obtain rfl:u=Value.bool true:=r';refine⟨rfl,⟨fun b o e=>?_,fun b o e=>un.there b o e (by simp)⟩,os,bare⟩;cases q:H b with
    | none=>exact .inl (un.keep b o e q (fun z=>absurd (show b∈([]:List Addr) from z) (by simp)) (by simp))
    | some u=>
     rcases De b u q with⟨h1,rfl⟩ | ⟨rfl,rfl⟩
     ·obtain⟨more,z⟩:=un.fv b _ q;have e2:s'.heap.get? b=some (acx (#[]++more)):=EX b _ z;obtain⟨p,hp,rfl⟩:=BK h1;have e3:=(hT p hp).2;rw[e] at e3;cases e3;exact .inr (.inl ⟨((hT p hp).1.tab (hT p hp).2).isCodeTable,rfl,#[],more,rfl,e2⟩)
     ·obtain⟨e2,_⟩:=EX _ _ (un.el _ _ _ q);rw[ha] at e;cases e;exact .inl e2
end
theorem RX{l:aeV}{q:aba}{loose:List Str}{XP:(Str->Option Value)->Heap->Prop}{YP:World->Heap->Prop}{d:DefRec}{K:Params->aab}{x:Str}{fm:List W->Mo W}(k:Nat)
  (good:∀ns:List Int,ns.length<=63->∃ph',fm [.fl (ns.map W.int)] []=.ok (.bl true) ph') (hn:l.most=some 63) (pq:d.params.defaults=[]) (hr:dq k callerA) (hY:∀(w:World) (h:Heap),YP w h->(K w.params).In h)
  (hK:∀w:World,afi (K w.params)=true) (hT:∀(w:World) (h:Heap),YP w h->∀p∈ig (K w.params),aeb h p.2.1 p.2.2/\h.get? p.2.2=some (acx #[]))
  (F:∀(w:World) (mg:Str->Option Value) (fa:Addr) (h:Heap),(K w.params).In h->h.Ns aam mg->mg d.name=some (.ref fa) →
   ∃fd:aaS,(∀(s:aaf) (u:Value),BindsTo s fd ⟨[u],[]⟩ [(x,u)])/\∀base:Heap,(K w.params).In base->base.Ns aam mg->bY l.prog w (K w.params) mg base (bS l.prog w) k fa fd [x] (cf (K w.params) mg 1 fm)) :
  PySem.W.WalkO q loose XP YP l.row.toRowW d [] (fun f vs=>PySem.call f vs):=by
 refine FN.Nb hn pq fun w aE bv mg mb fa o pm cd doc a vs ns G Y ho hd hcd hmg yg xB bU hg=>?_
 have KX:=hY w _ Y;obtain⟨fd,hb,hF⟩:=F w mg fa _ KX G.T.g hmg;exact QE KX G.T.g G.T.b G.T.builtins G.T.nolimit G.T.bmain hg (hT w _ Y) (hK w) yg xB bU hr hF hb (good ns bU)
noncomputable def uo:W->Option Bool
 | .bl b=>some b
 | _=>none
noncomputable def mT(w:W)(ph:PH):Option (List Bool):=if dF w ph=true then(cB w ph).bind (a9 uo) else none
noncomputable def ZG:List W->Po W:=fun xs ph=>match xs with
 | [w]=>(mT w ph).map fun bs=>(.bl (bs.any id),ph)
 | _=>none
noncomputable def k7:List W->Po W:=fun xs ph=>match xs with
 | [w]=>(mT w ph).map fun bs=>(.bl (bs.all id),ph)
 | _=>none
section
variable{X:Cx}
theorem RY(bs:List Bool):((aaP bs.length).all fun i=>(bs[i]?).getD true)=bs.all id:=by
 rw[adK,abn,abn];constructor
 ·intro h b hb;obtain⟨i,hi,q⟩:=adL hb;have:=h i (abx.mpr hi);simp only[aaO hi,aeA,q] at this;exact this
 ·intro h i hi;have hi:=abx.mp hi;simp only[aaO hi,aeA];exact h _ (List.getElem_mem hi)
theorem QF{h h':Heap}{o:Obj}(hk:∀b x,b∉[h.objs.size]->(h.push o).get? b=some x->h'.get? b=some x):∀b x,h.get? b=some x->h'.get? b=some x:=
 fun b x e=>hk b x (fun hm=>by rw[aar.mp hm] at e;exact abK _ (aah e)) (aad _ e)
theorem AI(hc:X.calm=true):cy X (.builtin "all") (fun xs H Q=>∃p,∃bs:List Bool,xs=[.ref p]/\aP X.K H p (bs.map V.bl)/\Q (.bl (bs.all id)) H):=by
 intro pins s σ H xs us Q I r h;obtain⟨p,bs,rfl,hq,q⟩:=h;obtain⟨u,rfl,rx⟩:=vals1 r;cases rx;obtain⟨its,r',pl,hz⟩:=I.list hq;have bU:=r'.length;rw[aag] at bU;have fc:p<s.heap.objs.size:=by obtain⟨_,e,_⟩:=pl.isList;exact aah e
 refine call_all_walk (aei pl.isList ?_);refine⟨s.heap.objs.size,[s.heap.objs.size,p],[s.heap.objs.size],its.toArray.size,_,_,fun i=>(bs[i]?).getD true,rfl,Walks.list (A:=X.A.in1) (I.ok.hd hc) _ p (aaQ fc) its.toArray,
  ⟨⟨_,aat _ rfl,rfl,rfl⟩,pl.isList.push _⟩,fun i v s' Q' E' hP hQ=>?_,fun h' tk hk=>?_⟩
 ·have hP:its[i]? =some v:=by simpa using hP
  have hi:i<bs.length:=by rw[bU];exact(aac.mp hP).1
  obtain⟨u,hu,ru⟩:=r'.get (i:=i) (x:=.bl bs[i]) (by simp[hi]);rw[hP] at hu;cases hu;have ru:v=.bool bs[i]:=ru;subst ru;simp only[aaO hi,aeA] at hQ;exact abo hQ
 ·rw[aao,<- bU,RY];exact⟨.bl _,H,I.kept (QF hk),rfl,q⟩
theorem wD{K:aab}{φ:Nat->Addr}{n:Nat}{H:Hp}:∀{ws:List W} {vs:List V} {bs:List Bool},aM K φ n H ws vs->a9 uo ws=some bs->vs=bs.map V.bl
 | _,_,_,.nil,e=>by cases e;rfl
 | w::ws,_,bs,.cons h r,e=>by
  unfold a9 at e;split at e
  ·rename_i b FQ e1 e2;cases e;have q:=wD r e2;unfold uo at e1;cases h <;> cases e1
   rw[q];rfl
  ·cases e
theorem QG{K:aab}{φ:Nat->Addr}{ph:PH}{H:Hp}{w:W}{v:V}{bs:List Bool}(hH:aD K φ ph H)(r:aJ K φ ph.length H w v)(e:mT w ph=some bs):∃p,v=.ref p/\aP K H p (bs.map V.bl):=by
 unfold mT at e;split at e
 ·rename_i hL;cases r with
  | ref hi=>
   unfold dF at hL;simp only at hL;split at hL
   ·rename_i ws hw;obtain⟨vs,hv,rs⟩:=hH.hp _ _ hw;simp only[cB,hw,abe] at e;rw[wD rs e] at hv;exact⟨_,rfl,aP.of hv⟩
   ·cases hL
  | fl h rs=>
   simp only[cB,abe] at e;have q:=wD rs e;subst q;exact⟨_,rfl,h.sq⟩
  | _=>cases hL
 ·cases e
theorem Df{K:aab}:fN K (fun xs H Q=>∃p,∃bs:List Bool,xs=[.ref p]/\aP K H p (bs.map V.bl)/\Q (.bl (bs.all id)) H) k7:=by
 intro φ ph H xs vs w ph' Q hH r e k;unfold k7 at e;split at e
 ·rename_i x;cases q:mT x ph with
  | none=>rw[q] at e;cases e
  | some bs=>
   rw[q] at e;cases e;cases r with
   | cons r r'=>
    cases r';obtain⟨p,rfl,hs⟩:=QG hH r q;exact⟨p,bs,rfl,hs,k φ H _ hH Step.refl (.bl _)⟩
 ·cases e
end
noncomputable def sA(w:W):Po (List W×(PH->Bool)):=fun ph=>match w with
 | .tup ws=>some ((ws,fun _=>true),ph)
 | w=>jN w ph
noncomputable def fO(m:EM):IM:=fun σ=>aq (m σ) fun w=>lift (sA w)
variable{m:EM}
theorem Wo{σ:L2.St}{R:It->Hp->Prop}(h:tI X (fO m) σ H R):tI X (tH m) σ H R\/tI X (xC m) σ H R:=by
 obtain⟨φ,ph,ws,hH,hS,h⟩:=h;unfold fO at h;rw[cV] at h;cases q:m ws ph with
 | no=>rw[q] at h;exact h.elim
 | ex x ph'=>
  refine .inl ⟨φ,ph,ws,hH,hS,?_⟩;unfold tH;rw[cV,q];rw[q] at h;exact h
 | ok w ph'=>
  rw[q] at h;have h:(lift (sA w) ph').Run _ _:=h;by_cases hw:∃us,w=.tup us
  ·obtain⟨us,rfl⟩:=hw;refine .inr ⟨φ,ph,ws,hH,hS,?_⟩;unfold xC;rw[cV,q];exact h
  ·refine .inl ⟨φ,ph,ws,hH,hS,?_⟩;unfold tH;rw[cV,q];have e:sA w=jN w:=by
    funext p
    cases w <;> first | rfl | exact absurd ⟨_,rfl⟩ hw
   rw[e] at h;exact h
theorem nU{tg e:Expr}(hl:JE X e m):JI X tg e (fO m):=⟨by
 intro pins s σ H R I h
 rcases Wo h with h | h
 ·exact RD hl.h pins s σ H R I h
 ·exact Uh hl.h pins s σ H R I h⟩
section
variable{X:Cx}{pins:List (Addr×Obj)}{σ:L2.St}{H:Hp}{s:aaf}{h':Heap}
theorem rC{t':Nat}{fp:List Addr}{T:Addr}{o:HO}(I:Inv X pins σ H s)(k:∀b u,b∉fp->s.heap.get? b=some u->h'.get? b=some u)(hf:∀b∈fp,eo X pins H b)(hp:s.heap.objs.size<=T)
  (new:cI X.prog X.w (upd H T o) h' T o):Inv X pins σ (upd H T o) { s with heap:=h',toks:=t' }:=by
 have hn:=I.aG.fresh hp;have neT:∀b u,s.heap.get? b=some u->b≠T:=fun b u e=>aaQ (aan (aah e) hp)
 have jY:∀b u,H b=some u->b∉fp:=fun b u e z=>by rw[(hf b z).1] at e;cases e
 refine I.step (g':=s.gens) (d':=s.drawn) (ch:=fp) (fun b hb=>?_) (fun b u _ _ hc e _=>k b u hc e) (fun b u _ _ hc e _=>⟨u.slots,k b u hc e⟩) (fun b u _ e n=>by rw[aW (neT b u e)];exact n)
  (fun b u hc e=>⟨u,k b u hc e⟩) (fun b xs e=>by rw[aW (dS e hn)];exact e) (fun b u v e=>by rw[aW (dS e hn)];exact e) (fun b ps e=>⟨#[],by rw[aW (dS e hn),e];simp⟩) (fun m hm=>?_) (fun b u e=>?_) I.bare
 ·obtain⟨_,f1,_,f3,f4,f5⟩:=hf b hb;exact⟨f3,f1,f4,f5⟩
 ·obtain⟨u,es,ep,ho,r⟩:=hm;exact⟨u,es,ep,k _ u (fun z=>(hf _ z).2.1 rfl) ho,r⟩
 ·by_cases hb:b=T
  ·subst hb;rw[bF] at e;cases e;exact new
  ·rw[aW hb] at e;refine(I.aG b u e).i4 (fun c v hc q=>k c v ?_ q) (fun c q=>by rw[aW (dS q hn)];exact q) fun c xs q=>by rw[aW (dS q hn)];exact q
   rcases hc with z | z
   ·rw[z];exact jY b u e
   ·exact jY c _ z
theorem nV{t':Nat}{fp:List Addr}(I:Inv X pins σ H s)(k:∀b u,b∉fp->s.heap.get? b=some u->h'.get? b=some u)(hf:∀b∈fp,eo X pins H b):Inv X pins σ H { s with heap:=h',toks:=t' }:=by
 have jY:∀b u,H b=some u->b∉fp:=fun b u e z=>by rw[(hf b z).1] at e;cases e
 refine I.step (g':=s.gens) (d':=s.drawn) (ch:=fp) (fun b hb=>?_) (fun b u _ _ hc e _=>k b u hc e) (fun b u _ _ hc e _=>⟨u.slots,k b u hc e⟩) (fun b u _ e n=>n)
  (fun b u hc e=>⟨u,k b u hc e⟩) (fun b xs e=>e) (fun b u v e=>e) (fun b ps e=>⟨#[],by rw[e];simp⟩) (fun m hm=>?_) (fun b u e=>?_) I.bare
 ·obtain⟨_,f1,_,f3,f4,f5⟩:=hf b hb;exact⟨f3,f1,f4,f5⟩
 ·obtain⟨u,es,ep,ho,r⟩:=hm;exact⟨u,es,ep,k _ u (fun z=>(hf _ z).2.1 rfl) ho,r⟩
 ·refine(I.aG b u e).i4 (fun c v hc q=>k c v ?_ q) (fun _ q=>q) fun _ _ q=>q
  rcases hc with z | z
  ·rw[z];exact jY b u e
  ·exact jY c _ z
end
noncomputable def F2(K:aab)(a:Addr):It:=
 ⟨fun i H=>∃xs x,aP K H a xs/\xs[i]? =some x,fun i H x H'=>∃T y,x=.ref T/\H T=none/\H'=upd H T (.tup [.int i,y])/\∀xs,aP K H a xs->xs[i]? =some y,fun i H=>∃xs,aP K H a xs/\xs.length<=i⟩
variable{j:Nat}{pos:Pos}
theorem Pf{w:World}{dr:List Expr}(a e it:Addr)(F3:e≠it):Turn P w K (.Tuple dr j pos) (F2 K a) [e,it] e (fun i h=>(∃old,IsEnum h e it (i:Int) old)/\h.IsListIter it a i) where
 mem:=by simp
 obj:=fun i h st b hb=>by
  obtain⟨⟨old,he⟩,o,e1,c,d⟩:=st
  rcases aav.mp hb with rfl | hb
  ·exact⟨_,he,fun v z=>by cases z⟩
  ·have:b=it:=by simpa using hb
   subst this;exact⟨o,e1,fun v z=>by rw[d] at z;cases z⟩
 keep:=fun i h h' st k=>⟨let ⟨old,he⟩:=st.1;⟨old,k e (by simp) _ he⟩,st.2.at fun o q=>k it (by simp) o q⟩
 item:=by
  intro X hP hw hK hc i pins s σ H E I hf st hg;subst hP hw hK;obtain⟨⟨old,he⟩,hit⟩:=st;obtain⟨xs,x,hq,hx⟩:=hg;obtain⟨its,rv,p,hz⟩:=I.list hq;obtain⟨u,hu,ru⟩:=rv.get hx;refine wpAny_pyNext_enum_item he hit p.isList (x:=u) (by simpa using hu) F3 fun h1 ho Xv hT hsz hk=>⟨_,rfl,?_⟩
  refine wpAny_letOwnedTupleGo_enum ho fun h2 YA bQ=>?_
  have kk:∀b o,b∉[e,it]->s.heap.get? b=some o->h2.get? b=some o:=fun b o hb q=>by
   have F4:b≠e:=fun z=>hb (by simp[z])
   have YB:b≠it:=fun z=>hb (by simp[z])
   exact(bQ.2 b F4).trans (hk b o F4 YB q)
  have F5:s.heap.objs.size≠e:=abw (aah he);have new:cI X.prog X.w (upd H s.heap.objs.size (.tup [.int i,x])) h2 s.heap.objs.size (.tup [.int i,x]):=
   ⟨by show 2<=aas;decide,[.int i s.toks,u],.cons ⟨_,rfl⟩ (.cons ru .nil),_,(bQ.2 _ F5).trans hT,rfl,_,rfl⟩
  refine⟨.ref s.heap.objs.size,_,rC (s:=s) (h':=h2) (t':=s.toks+1) I kk hf (aaj _) new,rfl,⟨_,x,rfl,I.aG.fresh (aaj _),rfl,fun ys hy=>by rw[I.qZ hy hq];exact hx⟩,⟨⟨_,by simpa using YA⟩,Xv.at fun o q=>(bQ.2 it F3.symm).trans q⟩,fun b hb=>?_⟩;rw[aW (fun z=>?_)]
  ·exact(hf b hb).1
  ·subst z
   rcases aav.mp hb with z | z
   ·exact F5 z
   ·have z:s.heap.objs.size=it:=by simpa using z
    obtain⟨o,e1,_⟩:=hit;exact abw (aah e1) z
 done:=by
  intro X hP hw hK hc i pins s σ H E I hf st hg;subst hP hw hK;obtain⟨⟨old,he⟩,hit⟩:=st;obtain⟨xs,hq,hx⟩:=hg;obtain⟨its,rv,p,hz⟩:=I.list hq;have hl:=rv.length;exact wpAny_pyNext_enum_end (I.ok.hd hc) he hit p.isList (by simp;omega) fun h1 eb=>⟨rfl,nV (t':=s.toks) I (fun b o hb q=>eb b o (fun z=>hb (by simp[z])) q) hf⟩
 self:=fun _ _ _ _ _ st h=>let ⟨_,he⟩:=st.1;wpAny_pyIter_enum he h
noncomputable def Xw(K:aab)(ta:TA):TI:=fun σ H R=>ta σ H fun vs H1=>∃a,vs=[.ref a]/\(∃xs,aP K H1 a xs)/\R (F2 K a) H1
variable{p:Pos}
theorem RZ{a:Expr}{ta:TA}{dr:List Expr}{tp:Pos}(hg:Gl X "enumerate")(hm:X.mg "enumerate"=none)(ha:PA X [a] ta)(hs:aaA [a] X.env=[(false,eval a X.env)]:=by rfl) :
  PI X (.Tuple dr j tp) (.Call (.Name "enumerate" p) [a] [] pos) (Xw X.K ta):=by
 intro pins s σ H R I h;refine Call_ (iV I hg hm PyProof.Rows.boot_enumerate (aaW (aS (ha pos pins s σ H _ I h) fun us s1 ⟨vs,H1,I1,r1,q1⟩=>?_) hs rfl));obtain⟨a,e,⟨xs,hq⟩,q⟩:=q1;subst e;cases r1 with
 | cons r rr=>
  cases rr;cases r;obtain⟨its,rv,pl,hz⟩:=I1.list hq;refine call_enumerate_list pl.isList fun h' he hit hsz hk=>?_
  refine wpAny_pyIter_enum he ?_;have I2:Inv X pins σ H1 { s1 with heap:=h' }:=I1.kept (t':=s1.toks) hk;refine⟨s1.heap.objs.size+1,[s1.heap.objs.size+1,s1.heap.objs.size],_,_,H1,rfl,I2,Pf a _ _ (Nat.succ_ne_self _),⟨⟨_,by simpa using he⟩,hit⟩,fun b hb=>?_,q⟩;have hb:s1.heap.objs.size<=b:=by
   rcases aav.mp hb with rfl | hb
   ·exact adI _
   ·have:b=s1.heap.objs.size:=by simpa using hb
    exact Nat.le_of_eq this.symm
  exact I1.i6 hb (I1.aG.fresh hb)
noncomputable def d5(ws:List W):List W:=(aaP ws.length).map fun(i:Nat)=>.tup [.int ((i:Nat):Int),ws.getD i .aO]
noncomputable def xF(xs:List W):Po (List W×(PH->Bool)):=fun ph=>match xs with
 | [w]=>(jN w ph).map fun r=>((d5 r.1.1,r.1.2),r.2)
 | _=>none
noncomputable def gP(m:AM):IM:=fun σ=>aq (m σ) fun xs=>lift (xF xs)
theorem A7{w:W}(h:(d5 ws)[i]? =some w):∃x,ws[i]? =some x/\w=.tup [.int i,x]:=by
 unfold d5 at h;rw[aak] at h;cases q:(aaP ws.length)[i]? with
 | none=>rw[q] at h;cases h
 | some k=>
  rw[q] at h;obtain⟨hi,e⟩:=aac.mp q;rw[adX] at e;subst e;rw[aaZ] at hi;cases h;exact⟨ws[i],by simp[hi],by simp[hi]⟩
theorem AJ(h:(d5 ws)[i]? =none):ws.length<=i:=by
 unfold d5 at h
 simpa using h
theorem R0{a:Expr}{am:AM}{dr:List Expr}{tp:Pos}(hg:Gl X "enumerate")(hm:X.mg "enumerate"=none)(ha:IA X [a] am)(hs:aaA [a] X.env=[(false,eval a X.env)]:=by rfl) :
  II X (.Tuple dr j tp) (.Call (.Name "enumerate" p) [a] [] pos) (gP am):=by
 refine PI.imp (RZ hg hm ha hs) fun σ H R h=>?_
 obtain⟨φ,ph,ws,hH,hS,h⟩:=h;refine tA.bind hH hS h fun xs ph1 au H1 vs ax s1 r1 h=>?_
 obtain⟨r,ph',e,k⟩:=run_lift h;unfold xF at e;split at e
 ·rename_i w;cases r1 with
  | cons r1 rr=>
   cases rr;unfold jN at e;cases r1 with
   | ref hi=>
    rename_i i;simp only at e;cases q:ph1[i]? with
    | none=>rw[q] at e;cases e
    | some o=>
     cases o with
     | a8 _=>rw[q] at e;cases e
     | obj _ _=>rw[q] at e;cases e
     | pv _=>rw[q] at e;cases e
     | uf _=>rw[q] at e;cases e
     | lst items=>
      rw[q] at e;simp only[aaM] at e;cases e;obtain⟨vs,hv,r⟩:=ax.hp _ _ q;refine⟨_,rfl,⟨vs,aP.of hv⟩,k au H1 _ ax s1 ?_⟩;intro ba ph2 H2 aU s2 hc j;have gX:ph2[i]? =some (.lst items):=of_decide_eq_true hc;obtain⟨us,hu,ru⟩:=aU.hp _ _ gX;rw[s2.eq i hi] at hu;refine⟨fun w c7=>?_,fun hn=>?_⟩
      ·obtain⟨x,hx,rfl⟩:=A7 c7;obtain⟨u,eu,g8⟩:=ru.get hx;refine⟨⟨us,u,aP.of hu,eu⟩,fun y eh hy=>?_⟩;obtain⟨T,z,rfl,hT,rfl,hy⟩:=hy;have:=hy us (aP.of hu);rw[eu] at this;cases this;exact⟨aU.tup hT,dj hT,.tup bF (.cons (.int _) (.cons (g8.mono (dj hT)) .nil))⟩
      ·refine⟨us,aP.of hu,?_⟩;rw[<- ru.length];exact AJ hn
   | fl hq r=>
    simp only[aaM] at e;cases e;refine⟨_,rfl,⟨_,hq.sq⟩,k au H1 _ ax s1 ?_⟩;intro ba ph2 H2 aU s2 hc j;have h2:=aJ.mono s2 (.fl hq r);cases h2 with
    | fl h2 r2=>
     refine⟨fun w c7=>?_,fun hn=>?_⟩
     ·obtain⟨x,hx,rfl⟩:=A7 c7;obtain⟨u,eu,g8⟩:=r2.get hx;refine⟨⟨_,u,h2.sq,eu⟩,fun y eh hy=>?_⟩;obtain⟨T,z,rfl,hT,rfl,hy⟩:=hy;have:=hy _ h2.sq;rw[eu] at this;cases this;exact⟨aU.tup hT,dj hT,.tup bF (.cons (.int _) (.cons (g8.mono (dj hT)) .nil))⟩
     ·refine⟨_,h2.sq,?_⟩;rw[<- r2.length];exact AJ hn
   | _=>cases e
 ·cases e
theorem wF{a:Expr}{am:AM}{dr:List Expr}{tp:Pos}(hg:Gl X "enumerate")(hm:X.mg "enumerate"=none)(hn:isStar a=false)(ha:JA X [a] am) :
  JI X (.Tuple dr j tp) (.Call (.Name "enumerate" p) [a] [] pos) (gP am):=⟨R0 hg hm ha.h (cU hn)⟩
theorem A8{e:Expr}{gens:List Comprehension}{scope:Scope}{pos':Pos}{x:Str}{line:Nat}(hk:env.scope.kind=.function)(hx:env.scope.names.lookup x=some .local)(hl:(pos'.line==p.line)=true)
  (hn:(scope.names.any fun y=>y.1==x&&(y.2==.local||y.2==.cell))=false):ada (.ListComp e gens scope p) (some (.Name x pos')) line env=pure true:=by
 have e1:(env.kindOf x==some .local)=true:=by unfold Env.kindOf;rw[hx];rfl
 have e2:(env.blockKind==.function)=true:=by unfold Env.blockKind;rw[hk];rfl
 show pure (env.blockKind==.function&&env.kindOf x==some .local&&pos'.line==p.line&& !(scope.names.any fun y=>y.1==x&&(y.2==.local||y.2==.cell)))=_;rw[e1,e2,hl,hn];rfl
noncomputable def newD:Po W:=fun ph=>some (.ref ph.length,ph++[.a8 []])
noncomputable def EY:EM:=fun _=>lift newD
theorem BL{p:Addr}(hH:aD K φ ph H)(hp:H p=none) :
  aD K (ext φ ph.length p) (ph++[.a8 []]) (upd H p (.dK []))/\Step K φ ph.length H (ext φ ph.length p) (ph++[PO.a8 []]).length (upd H p (.dK []))/\aJ K (ext φ ph.length p) (ph++[PO.a8 []]).length (upd H p (.dK [])) (.ref ph.length) (.ref p):=by
 have hl:(ph++[PO.a8 []]).length=ph.length+1:=by simp
 rw[hl];have s:=vM (K:=K) (φ:=φ) (n:=ph.length) (o:=HO.dK []) hp;refine⟨hH.new hp (.inl ⟨[],bF,.nil⟩),s,?_⟩;have q:aJ K (ext φ ph.length p) (ph.length+1) (upd H p (.dK [])) (.ref ph.length) (.ref (ext φ ph.length p ph.length)):=.ref (abQ _);rw[iW] at q;exact q
theorem rf{a b:Key}(h:bD a=bD b):a=b:=by
 cases a <;> cases b <;> simp_all [bD]
theorem qP:∀{a b:List Key},a.map bD=b.map bD->a=b
 | [],[],_=>rfl
 | [],_::_,e=>by simp at e
 | _::_,[],e=>by simp at e
 | x::xs,y::ys,e=>by
  rw[aaB,aaB] at e;injection e with e1 e2
  rw[rf e1,qP e2]
noncomputable def ja:W->Option Key
 | .int i=>some (.inl i)
 | .str x=>some (.inr x)
 | _=>none
noncomputable def yl:W->Option (List Key)
 | .tup ws=>a9 ja ws
 | _=>none
variable{k:Key}
theorem nW{w:W}(h:ja w=some k):w=bD k:=by
 cases w <;> simp only[ja] at h <;> first | (cases h;done) | (cases h;rfl)
theorem BM:∀{ws:List W} {ks:List Key},a9 ja ws=some ks->ws=ks.map bD
 | [],ks,h=>by cases h;rfl
 | w::ws,ks,h=>by
  unfold a9 at h;split at h
  ·rename_i b bs e1 e2;cases h;rw[nW e1,BM e2];rfl
  ·cases h
theorem Co{w:W}{ks:List Key}(h:yl w=some ks):w=.tup (ks.map bD):=by
 cases w <;> simp only[yl] at h <;> first | (cases h;done) | rw[BM h]
theorem oy(r:aJ K φ n H (bD k) v):v=kV k:=by
 cases k with
 | inl i=>cases r;rfl
 | inr x=>cases r;rfl
theorem Dg{K:aab}{φ:Nat->Addr}{n:Nat}{H:Hp}:∀{ks:List Key} {vs:List V},aM K φ n H (ks.map bD) vs->vs=ks.map kV
 | [],_,r=>by cases r;rfl
 | k::ks,_,r=>by
  cases r with
  | cons h r=>rw[oy h,Dg r];rfl
theorem Dh{ks:List Key}(r:aJ K φ n H (.tup (ks.map bD)) v):∃b,v=.ref b/\H b=some (.tup (ks.map kV)):=by
 cases r with
 | tup h r=>rw[Dg r] at h;exact⟨_,rfl,h⟩
noncomputable def gh(kws:List (W×W))(k:W):Option W:=(kws.find? fun p=>decide (p.1=k)).map (·.2)
noncomputable def dc(kws:List (W×W))(k w:W):List (W×W):=if(kws.any fun p=>decide (p.1=k))=true then kws.map (fun p=>if p.1=k then(p.1,w) else p) else kws++[(k,w)]
noncomputable def oR(K:aab)(φ:Nat->Addr)(n:Nat)(H:Hp):Option W->Option V->Prop
 | none,none=>True
 | some w,some v=>aJ K φ n H w v
 | _,_=>False
section
variable{K:aab}{φ:Nat->Addr}{n:Nat}{H:Hp}
theorem UK{a b:Key}:decide (bD a=bD b)=decide (a=b):=by
 rw[decide_eq_decide];exact⟨rf,fun e=>by rw[e]⟩
theorem R1{a b:List Key}:decide (W.tup (a.map bD)=W.tup (b.map bD))=decide (a=b):=by
 rw[decide_eq_decide];exact⟨fun e=>qP (W.tup.inj e),fun e=>by rw[e]⟩
theorem bW.val(k:Key):∀{kws:List (W×W)} {kvs:List (Key×V)},bW K φ n H kws kvs->oR K φ n H (gh kws (bD k)) (gj kvs k)
 | _,_,.nil=>trivial
 | _,_,.cons (k:=j) (w:=w) (v:=v) h r=>by
  unfold gh;rw[abM];by_cases e:j=k
  ·rw[decide_eq_true (congrArg bD e),nM (p:=(j,v)) e];exact h
  ·rw[decide_eq_false (fun z=>e (rf z)),nN (p:=(j,v)) e];exact bW.val k r
theorem b8.val(k:List Key):∀{kws:List (W×W)} {kvs:List (List Key×V)},b8 K φ n H kws kvs->oR K φ n H (gh kws (.tup (k.map bD))) (gj kvs k)
 | _,_,.nil=>trivial
 | _,_,.cons (k:=j) (w:=w) (v:=v) h r=>by
  unfold gh;rw[abM];by_cases e:j=k
  ·rw[decide_eq_true (by rw[e]),nM (p:=(j,v)) e];exact h
  ·rw[decide_eq_false (fun z=>e (qP (W.tup.inj z))),nN (p:=(j,v)) e];exact b8.val k r
theorem bW.len:∀{kws:List (W×W)} {kvs:List (Key×V)},bW K φ n H kws kvs->kws.length=kvs.length
 | _,_,.nil=>rfl
 | _,_,.cons _ r=>by rw[abE,abE,bW.len r]
theorem b8.len:∀{kws:List (W×W)} {kvs:List (List Key×V)},b8 K φ n H kws kvs->kws.length=kvs.length
 | _,_,.nil=>rfl
 | _,_,.cons _ r=>by rw[abE,abE,b8.len r]
theorem bW.any(k:Key):∀{kws:List (W×W)} {kvs:List (Key×V)},bW K φ n H kws kvs->(kws.any fun p=>decide (p.1=bD k))=kvs.any fun p=>decide (p.1=k)
 | _,_,.nil=>rfl
 | _,_,.cons (k:=j) _ r=>by
  rw[abp,abp,bW.any k r];show(decide (bD j=bD k)||_)=(decide (j=k)||_);rw[UK]
theorem b8.any(k:List Key):∀{kws:List (W×W)} {kvs:List (List Key×V)},b8 K φ n H kws kvs->(kws.any fun p=>decide (p.1=.tup (k.map bD)))=kvs.any fun p=>decide (p.1=k)
 | _,_,.nil=>rfl
 | _,_,.cons (k:=j) _ r=>by
  rw[abp,abp,b8.any k r];show(decide (W.tup (j.map bD)=W.tup (k.map bD))||_)=(decide (j=k)||_);rw[R1]
theorem bW.gQ(k:Key){w:W}{v:V}(q:aJ K φ n H w v):∀{kws:List (W×W)} {kvs:List (Key×V)},bW K φ n H kws kvs->bW K φ n H (kws.map fun p=>if p.1=bD k then(p.1,w) else p) (kvs.map fun p=>if p.1=k then(p.1,v) else p)
 | _,_,.nil=>.nil
 | _,_,.cons (k:=j) h r=>by
  rw[aaB,aaB];by_cases e:j=k
  ·rw[if_pos (show bD j=bD k by rw[e]),if_pos (show j=k from e)];exact .cons q (bW.gQ k q r)
  ·rw[if_neg (show ¬bD j=bD k from fun z=>e (rf z)),if_neg (show ¬j=k from e)];exact .cons h (bW.gQ k q r)
theorem b8.gQ(k:List Key){w:W}{v:V}(q:aJ K φ n H w v):∀{kws:List (W×W)} {kvs:List (List Key×V)},b8 K φ n H kws kvs->b8 K φ n H (kws.map fun p=>if p.1=.tup (k.map bD) then(p.1,w) else p) (kvs.map fun p=>if p.1=k then(p.1,v) else p)
 | _,_,.nil=>.nil
 | _,_,.cons (k:=j) h r=>by
  rw[aaB,aaB];by_cases e:j=k
  ·rw[if_pos (show W.tup (j.map bD)=W.tup (k.map bD) by rw[e]),if_pos (show j=k from e)];exact .cons q (b8.gQ k q r)
  ·rw[if_neg (show ¬W.tup (j.map bD)=W.tup (k.map bD) from fun z=>e (qP (W.tup.inj z))),if_neg (show ¬j=k from e)];exact .cons h (b8.gQ k q r)
theorem bW.snoc(k:Key){w:W}{v:V}(q:aJ K φ n H w v):∀{kws:List (W×W)} {kvs:List (Key×V)},bW K φ n H kws kvs->bW K φ n H (kws++[(bD k,w)]) (kvs++[(k,v)])
 | _,_,.nil=>.cons q .nil
 | _,_,.cons h r=>.cons h (bW.snoc k q r)
theorem b8.snoc(k:List Key){w:W}{v:V}(q:aJ K φ n H w v):∀{kws:List (W×W)} {kvs:List (List Key×V)},b8 K φ n H kws kvs->b8 K φ n H (kws++[(.tup (k.map bD),w)]) (kvs++[(k,v)])
 | _,_,.nil=>.cons q .nil
 | _,_,.cons h r=>.cons h (b8.snoc k q r)
theorem bW.put(k:Key){w:W}{v:V}(q:aJ K φ n H w v){kws:List (W×W)}{kvs:List (Key×V)}(r:bW K φ n H kws kvs):bW K φ n H (dc kws (bD k) w) (putK kvs k v):=by
 unfold dc putK;rw[r.any k];by_cases e:(kvs.any fun kv=>decide (kv.1=k))=true
 ·rw[if_pos e,if_pos e];exact r.gQ k q
 ·rw[if_neg e,if_neg e];exact r.snoc k q
theorem b8.put(k:List Key){w:W}{v:V}(q:aJ K φ n H w v){kws:List (W×W)}{kvs:List (List Key×V)}(r:b8 K φ n H kws kvs):b8 K φ n H (dc kws (.tup (k.map bD)) w) (putK kvs k v):=by
 unfold dc putK;rw[r.any k];by_cases e:(kvs.any fun kv=>decide (kv.1=k))=true
 ·rw[if_pos e,if_pos e];exact r.gQ k q
 ·rw[if_neg e,if_neg e];exact r.snoc k q
end
section
variable{X:Cx}{pins:List (Addr×Obj)}{σ:L2.St}{H:Hp}{s:aaf}{a:Addr}
theorem mn(I:Inv X pins σ H s)(e:H a=some (.dK [])):Inv X pins σ (upd H a (.dT [])) s:=by
 obtain⟨z,hd,vs,rel,o,es,ep,h1,h2,h3,h4,h5,h6⟩:=kR I.aG e;cases rel;have he:es.toList=[]:=by
  generalize es.toList=l at h5;cases h5;rfl
 exact I.write (x:=a) (e:=a) (h':=s.heap) (t':=s.toks) (o:=.dT []) (by rw[e];trivial) (.inl rfl) (fun _ _ _ q=>q) ⟨o,h1⟩ ⟨abB _,hd,[],.nil,o,es,ep,h1,h2,h3,by rw[he];rfl,acO⟩
theorem jx(I:Inv X pins σ H s)(e:H a=some (.dT [])):Inv X pins σ (upd H a (.dK [])) s:=by
 obtain⟨z,hd,xs,rel,o,es,ep,h1,h2,h3,h4,h5,h6⟩:=sx I.aG e;cases rel;have he:es= #[]:=by
  have:es.toList=[]:=h4
  simpa using this
 subst he;exact I.write (x:=a) (e:=a) (h':=s.heap) (t':=s.toks) (o:=.dK []) (by rw[e];trivial) (.inl rfl) (fun _ _ _ q=>q) ⟨o,h1⟩ ⟨abB _,hd,[],.nil,o,#[],ep,h1,h2,h3,fun x hx=>by simp at hx,.nil,acO⟩
theorem rg{o u:HO}(e:H a=some o):upd (upd H a u) a o=H:=by
 rw[iS]
 funext b
 unfold upd;split
 ·rename_i q;rw[q,e]
 ·rfl
end
noncomputable def oz(H:Hp)(a:Addr)(y:V)(o:Option V):Prop:=gR H a y o\/(o=none/\((H a=some (.dK [])/\∃(k:List Key) (b:Addr),y=.ref b/\H b=some (.tup (k.map kV)))\/(H a=some (.dT [])/\∃k:Key,y=kV k)))
noncomputable def ir(H:Hp)(a:Addr)(y v:V)(H':Hp):Prop:=k4 H a y v H'\/(H a=some (.dK [])/\∃(k:List Key) (b:Addr),y=.ref b/\H b=some (.tup (k.map kV))/\H'=upd H a (.dT [(k,v)]))\/(H a=some (.dT [])/\∃k:Key,y=kV k/\H'=upd H a (.dK [(k,v)]))
section
variable{X:Cx}
theorem UL(hu:X.A.units+1<cLine):bf X (aaX .In) (fun y x H Q=>∃a o,x=.ref a/\oz H a y o/\Q (.bl o.isSome) H):=by
 intro pins s σ H y x u v Q I ry rx h;obtain⟨a,o,rfl,g,q⟩:=h;cases rx
 rcases g with g | ⟨rfl,⟨e,k,b,ey,eb⟩ | ⟨e,k,ey⟩⟩
 ·exact yh hu I g ry fun s3 I3=>⟨.bl o.isSome,H,I3,rfl,q⟩
 ·subst ey;have g:gR (upd H a (.dT [])) a (.ref b) none:=.inr ⟨[],k,b,.inl bF,rfl,by rw[aW (il eb e (fun z=>nomatch z))];exact eb,rfl⟩;exact yh hu (mn I e) g ry fun s3 I3=>⟨.bl false,H,by have:=jx I3 bF;rwa [rg e] at this,rfl,q⟩
 ·subst ey;have g:gR (upd H a (.dK [])) a (kV k) none:=.inl ⟨[],k,.inl bF,rfl,rfl⟩;exact yh hu (jx I e) g ry fun s3 I3=>⟨.bl false,H,by have:=mn I3 bF;rwa [rg e] at this,rfl,q⟩
theorem R3(hu:X.A.units+1<cLine):bf X (aaX .NotIn) (fun y x H Q=>∃a o,x=.ref a/\oz H a y o/\Q (.bl (!o.isSome)) H):=by
 intro pins s σ H y x u v Q I ry rx h;obtain⟨a,o,rfl,g,q⟩:=h;cases rx
 rcases g with g | ⟨rfl,⟨e,k,b,ey,eb⟩ | ⟨e,k,ey⟩⟩
 ·exact wB hu I g ry fun s3 I3=>⟨.bl (!o.isSome),H,I3,rfl,q⟩
 ·subst ey;have g:gR (upd H a (.dT [])) a (.ref b) none:=.inr ⟨[],k,b,.inl bF,rfl,by rw[aW (il eb e (fun z=>nomatch z))];exact eb,rfl⟩;exact wB hu (mn I e) g ry fun s3 I3=>⟨.bl true,H,by have:=jx I3 bF;rwa [rg e] at this,rfl,q⟩
 ·subst ey;have g:gR (upd H a (.dK [])) a (kV k) none:=.inl ⟨[],k,.inl bF,rfl,rfl⟩;exact wB hu (jx I e) g ry fun s3 I3=>⟨.bl true,H,by have:=mn I3 bF;rwa [rg e] at this,rfl,q⟩
theorem set_dict(hu:X.A.units+1<cLine):jH X (fun o i v H Q=>∃a H',o=.ref a/\ir H a i v H'/\Q H'):=by
 intro pins s σ H o i v ov iv u Q I ro ri rv h;obtain⟨a,H',rfl,g,q⟩:=h;cases ro
 rcases g with g | ⟨e,k,b,ey,eb,eH⟩ | ⟨e,k,ey,eH⟩
 ·exact vC hu I g ri rv fun s3 I3=>⟨H',I3,q⟩
 ·subst ey eH;have g:k4 (upd H a (.dT [])) a (.ref b) v (upd (upd H a (.dT [])) a (.dT (putK [] k v))):=.inr ⟨[],k,b,bF,rfl,by rw[aW (il eb e (fun z=>nomatch z))];exact eb,by decide,rfl⟩;refine vC hu (mn I e) g ri rv fun s3 I3=>⟨_,?_,q⟩
  rw[iS] at I3;exact I3
 ·subst ey eH;have g:k4 (upd H a (.dK [])) a (kV k) v (upd (upd H a (.dK [])) a (.dK (putK [] k v))):=.inl ⟨[],k,bF,rfl,by decide,rfl⟩;refine vC hu (jx I e) g ri rv fun s3 I3=>⟨_,?_,q⟩
  rw[iS] at I3;exact I3
theorem R4(hu:X.A.units+1<cLine):gZ X (fun x y H Q=>∃a v,x=.ref a/\gR H a y (some v)/\Q v H):=by
 intro value slice pins s σ H x y v u Q I rx ry h hs;obtain⟨a,w,rfl,g,q⟩:=h;cases rx;have hT:=Nc I g;unfold aeq;refine aaa ?_;rw[getitemInPython_of_ne hT.not_modules];refine aaa (adM hT PySem.F.slot_dict_getitem.lookup ?_);have fin:wpAny (model X.prog X.w) X.A (afm slice false (.ref a) u) (fun r Zw=>wpAny (model X.prog X.w) X.A (letTemporaryGo value (.ref a) r >>= fun _=>pure r) (EP X pins σ Q) X.xe Zw) X.xe s:=by
  rw[hs];exact wpAny_operating (O9 hu I g ry fun w' s3 I3 eZ=>aaa (wpAny_letTemporaryGo (aai ⟨w,H,I3,eZ,q⟩)))
 first
  | exact aai (aaa fin)
  | exact aaa (aai (aaa fin))
  | exact aaa fin
end
noncomputable def eJ:W->Bool
 | .tup _=>true
 | _=>false
noncomputable def d7(kws:List (W×W))(x:W):Bool:=((ja x).isSome&&kws.all fun p=> !eJ p.1)||((yl x).isSome&&kws.all fun p=>eJ p.1)
noncomputable def eW(y:W)(ph:PH):Option (Nat×List (W×W)):=match y with
 | .ref i=>match ph[i]? with
  | some (.a8 kws)=>some (i,kws)
  | _=>none
 | _=>none
section
variable{K:aab}{φ:Nat->Addr}{ph:PH}{H:Hp}
variable{kws:List (W×W)}
theorem bW.F6{kvs:List (Key×V)}{n:Nat}(r:bW K φ n H kws kvs)(h:kws.all (fun p=>eJ p.1)=true):kws=[]/\kvs=[]:=by
 cases r with
 | nil=>exact⟨rfl,rfl⟩
 | cons h' r=>
  rename_i k w v kws kvs;rw[abU] at h;have:eJ (bD k)=true:=by simp only[aau] at h;exact h.1
  cases k <;> cases this
theorem b8.ym{kvs:List (List Key×V)}{n:Nat}(r:b8 K φ n H kws kvs)(h:kws.all (fun p=> !eJ p.1)=true):kws=[]/\kvs=[]:=by
 cases r with
 | nil=>exact⟨rfl,rfl⟩
 | cons h' r=>
  rw[abU] at h;have h:=(aau _ _▸h).1;cases h
variable{v:V}{i:Nat}
theorem nK{y:W}(hH:aD K φ ph H)(r:aJ K φ ph.length H y v)(e:eW y ph=some (i,kws)):y=.ref i/\i<ph.length/\ph[i]? =some (.a8 kws)/\v=.ref (φ i):=by
 unfold eW at e;cases r with
 | ref hi=>
  simp only at e;split at e
  ·rename_i ZH hw;cases e;exact⟨rfl,hi,hw,rfl⟩
  ·cases e
 | _=>cases e
theorem vU{x:W}(hH:aD K φ ph H)(hd:ph[i]? =some (.a8 kws))(r:aJ K φ ph.length H x v)(hk:d7 kws x=true):∃o,oz H (φ i) v o/\oR K φ ph.length H (gh kws x) o:=by
 unfold d7 at hk;rw[acu,aau,aau] at hk
 rcases hk with⟨h1,h2⟩ | ⟨h1,h2⟩
 ·obtain⟨k,hk⟩:=abh.mp h1;have:=nW hk;subst this;have:=oy r;subst this
  rcases hH.hp _ _ hd with⟨kvs,q,rd⟩ | ⟨kvs,q,rd⟩
  ·exact⟨_,.inl (.inl ⟨kvs,k,.inl q,rfl,rfl⟩),rd.val k⟩
  ·obtain⟨rfl,rfl⟩:=rd.ym h2;exact⟨none,.inr ⟨rfl,.inr ⟨q,k,rfl⟩⟩,trivial⟩
 ·obtain⟨ks,hk⟩:=abh.mp h1;have:=Co hk;subst this;obtain⟨b,rfl,hb⟩:=Dh r
  rcases hH.hp _ _ hd with⟨kvs,q,rd⟩ | ⟨kvs,q,rd⟩
  ·obtain⟨rfl,rfl⟩:=rd.F6 h2;exact⟨none,.inr ⟨rfl,.inl ⟨q,ks,b,rfl,hb⟩⟩,trivial⟩
  ·exact⟨_,.inl (.inr ⟨kvs,ks,b,.inl q,rfl,hb,rfl⟩),rd.val ks⟩
theorem BN{x w:W}{u:V}(hH:aD K φ ph H)(hi:i<ph.length)(hd:ph[i]? =some (.a8 kws))(r:aJ K φ ph.length H x v)(rw:aJ K φ ph.length H w u)(hk:d7 kws x=true)(hz:kws.length<aas) :
  ∃H',ir H (φ i) v u H'/\aD K φ (ph.set i (.a8 (dc kws x w))) H'/\Step K φ ph.length H φ (ph.set i (.a8 (dc kws x w))).length H':=by
 obtain⟨y,ey,my⟩:=hH.mu hd rfl;rw[abA];unfold d7 at hk;rw[acu,aau,aau] at hk
 rcases hk with⟨h1,h2⟩ | ⟨h1,h2⟩
 ·obtain⟨k,hk⟩:=abh.mp h1;have:=nW hk;subst this;have:=oy r;subst this
  rcases hH.hp _ _ hd with⟨kvs,q,rd⟩ | ⟨kvs,q,rd⟩
  ·have s:=kB (K:=K) (φ:=φ) (n:=ph.length) (y:=HO.dK (putK kvs k u)) ey my;exact⟨_,.inl (.inl ⟨kvs,k,q,rfl,by rw[<- rd.len];exact hz,rfl⟩),hH.put hd rfl (.inl ⟨_,bF,(rd.put k rw).mono s⟩),s⟩
  ·obtain⟨rfl,rfl⟩:=rd.ym h2;have s:=kB (K:=K) (φ:=φ) (n:=ph.length) (y:=HO.dK [(k,u)]) ey my;exact⟨_,.inr (.inr ⟨q,k,rfl,rfl⟩),hH.put hd rfl (.inl ⟨_,bF,((bW.nil).put k rw).mono s⟩),s⟩
 ·obtain⟨ks,hk⟩:=abh.mp h1;have:=Co hk;subst this;obtain⟨b,rfl,hb⟩:=Dh r
  rcases hH.hp _ _ hd with⟨kvs,q,rd⟩ | ⟨kvs,q,rd⟩
  ·obtain⟨rfl,rfl⟩:=rd.F6 h2;have s:=kB (K:=K) (φ:=φ) (n:=ph.length) (y:=HO.dT [(ks,u)]) ey my;exact⟨_,.inr (.inl ⟨q,ks,b,rfl,hb,rfl⟩),hH.put hd rfl (.inr ⟨_,bF,((b8.nil).put ks rw).mono s⟩),s⟩
  ·have s:=kB (K:=K) (φ:=φ) (n:=ph.length) (y:=HO.dT (putK kvs ks u)) ey my;exact⟨_,.inl (.inr ⟨kvs,ks,b,q,rfl,hb,by rw[<- rd.len];exact hz,rfl⟩),hH.put hd rfl (.inr ⟨_,bF,(rd.put ks rw).mono s⟩),s⟩
end
noncomputable def fV:W->W->Po W:=fun x y ph=>match eW y ph with
 | some p=>if d7 p.2 x=true then some (.bl (gh p.2 x).isSome,ph) else none
 | none=>ji x y ph
noncomputable def jb:W->W->Po W:=fun x y ph=>match eW y ph with
 | some p=>if d7 p.2 x=true then some (.bl (!(gh p.2 x).isSome),ph) else none
 | none=>tK x y ph
noncomputable def ao:W->W->Po W:=fun x y ph=>match eW x ph with
 | some p=>if d7 p.2 y=true then(gh p.2 y).map fun w=>(w,ph) else none
 | none=>df x y ph
noncomputable def oT(o i v:W):Po Unit:=fun ph=>match eW o ph with
 | some p=>if d7 p.2 i=true/\p.2.length<aas then some ((),ph.set p.1 (.a8 (dc p.2 i v))) else none
 | none=>EV o i v ph
theorem oR.isSome{K:aab}{φ:Nat->Addr}{n:Nat}{H:Hp}{a:Option W}{b:Option V}(h:oR K φ n H a b):a.isSome=b.isSome:=by
 cases a <;> cases b <;> first | rfl | exact h.elim
theorem Wq:cm K (fun x y H Q=>mS K (fun b=>b) x y H Q\/∃a o,y=.ref a/\oz H a x o/\Q (.bl o.isSome) H) fV:=by
 intro φ ph H x y vx vy w ph' Q hH rx ry e k;unfold fV at e;split at e
 ·rename_i p hp;obtain⟨i,kws⟩:=p;obtain⟨rfl,hi,hd,rfl⟩:=nK hH ry hp;split at e
  ·rename_i hk;cases e;obtain⟨o,g,ro⟩:=vU hH hd rx hk;exact .inr ⟨_,o,rfl,g,by rw[<- ro.isSome];exact k φ H _ hH Step.refl (.bl _)⟩
  ·cases e
 ·exact .inl (Wh hH rx ry e k)
theorem UM:cm K (fun x y H Q=>mS K (fun b=> !b) x y H Q\/∃a o,y=.ref a/\oz H a x o/\Q (.bl (!o.isSome)) H) jb:=by
 intro φ ph H x y vx vy w ph' Q hH rx ry e k;unfold jb at e;split at e
 ·rename_i p hp;obtain⟨i,kws⟩:=p;obtain⟨rfl,hi,hd,rfl⟩:=nK hH ry hp;split at e
  ·rename_i hk;cases e;obtain⟨o,g,ro⟩:=vU hH hd rx hk;exact .inr ⟨_,o,rfl,g,by rw[<- ro.isSome];exact k φ H _ hH Step.refl (.bl _)⟩
  ·cases e
 ·exact .inl (Ux hH rx ry e k)
theorem Wr:cm K (fun x y H Q=>yF K x y H Q\/∃a v,x=.ref a/\gR H a y (some v)/\Q v H) ao:=by
 intro φ ph H x y vx vy w ph' Q hH rx ry e k;unfold ao at e;split at e
 ·rename_i p hp;obtain⟨i,kws⟩:=p;obtain⟨rfl,hi,hd,rfl⟩:=nK hH rx hp;split at e
  ·rename_i hk;cases q:gh kws y with
   | none=>rw[q] at e;cases e
   | some u=>
    rw[q] at e;cases e;obtain⟨o,g,ro⟩:=vU hH hd ry hk;rw[q] at ro;cases o with
    | none=>exact ro.elim
    | some v=>
     rcases g with g | ⟨z,_⟩
     ·exact .inr ⟨_,v,rfl,g,k φ H _ hH Step.refl ro⟩
     ·cases z
  ·cases e
 ·exact .inl (Wb hH rx ry e k)
section
variable{X:Cx}{a b o i:Expr}{ma mb mo mi:EM}{pos:Pos}{N:List Str}{sc:Scope}{k:Nat}
theorem ff.UN(B:ff X N sc k)(hp:rA b)(ha:JE X a ma)(hb:JE X b mb):JE X (.Subscript a b pos) (af ao ma mb):=
 ⟨PE.imp (V2 (gZ.or TQ (R4 (su B.room))) ha.h hb.h hp) fun _ _ _ h=>rB Wr h⟩
theorem ff.Xx(B:ff X N sc k)(h:abz .In b=false):Cp X .In b fV:=⟨⟨_,bf.or (Uw B.room.units) (UL (su B.room)),Wq⟩,h⟩
theorem ff.Ws(B:ff X N sc k)(h:abz .NotIn b=false):Cp X .NotIn b jb:=⟨⟨_,bf.or (RL B.room.units) (R3 (su B.room)),UM⟩,h⟩
theorem jH.or{t t':sY}(h:jH X t)(h':jH X t'):jH X (fun o i v H Q=>t o i v H Q\/t' o i v H Q):=by
 intro pins s σ H o i v ov iv u Q I ro ri rv q
 rcases q with q | q
 ·exact h pins s σ H o i v ov iv u Q I ro ri rv q
 ·exact h' pins s σ H o i v ov iv u Q I ro ri rv q
noncomputable def oA(o i:EM):GM:=fun v σ=>aq (o σ) fun ow=>aq (i σ) fun iw=>aq (lift (oT ow iw v)) fun _=>aA σ
theorem ff.Cq(B:ff X N sc k)(ho:JE X o mo)(hi:JE X i mi)(ha:∀v,afe (.Subscript o i pos) X.env v=(do
   let ov <- afk [v] (eval o X.env)
   let iv <- afk [v,ov] (eval i X.env)
   standAt pos
   afk [v,ov,iv] (setItem ov iv v)
   release [v,ov,iv] []):=by intro _;rfl):JG X (.Subscript o i pos) (oA mo mi):=
 ⟨PG.imp (To ho.h hi.h (jH.or set_list (set_dict (su B.room))) ha) fun v σ H Q h=>by
  obtain⟨φ,ph,ws,w,hH,hS,rv,h⟩:=h;refine tM.bind hH hS h fun ow ph1 au H1 vo ax s1 ro h=>tM.bind ax (hS.mono s1) h fun iw ph2 ba H2 vi aU s2 ri h=>?_
  rw[cV] at h;obtain⟨_,gy,e,k⟩:=run_lift h;have F7:=ro.mono s2;have uq:=(rv.mono s1).mono s2;unfold oT at e;split at e
  ·rename_i p hp;obtain⟨r,kws⟩:=p;obtain⟨rfl,hr,hd,rfl⟩:=nK aU F7 hp;split at e
   ·rename_i hk;cases e;obtain⟨H',g,q1,q2⟩:=BN aU hr hd ri uq hk.1 hk.2;exact .inr ⟨_,H',rfl,g,k ba _ σ q1 ((s1.trans s2).trans q2) (((hS.mono s1).mono s2).mono q2)⟩
   ·cases e
  ·unfold EV at e;split at e
   ·rename_i r k';split at e
    ·rename_i cQ hw;split at e
     ·rename_i j hj;cases e;cases F7 with
      | ref fc=>
       cases ri;obtain⟨us,hu,ru⟩:=aU.hp _ _ hw;obtain⟨q1,q2⟩:=vP aU hw (ru.set uq j);exact .inl ⟨_,us,_,j,rfl,rfl,hu,by rw[<- ru.length];exact hj,k ba _ σ q1 ((s1.trans s2).trans q2) (((hS.mono s1).mono s2).mono q2)⟩
     ·cases e
    ·cases e
   ·cases e⟩
end
noncomputable def mU:W->Option Int
 | .int i=>some i
 | _=>none
noncomputable def xG(w:W)(ph:PH):Option (List Int):=if dF w ph=true then(cB w ph).bind (a9 mU) else none
noncomputable def oB(f:Nat->Int):Nat->Int
 | 0=>f 0
 | k+1=>if f (k+1)<oB f k then f (k+1) else oB f k
section
variable{X:Cx}
theorem QH(f:Nat->Int):∀k,f (argBest (fun i j=>decide (f i<f j)) k)=oB f k
 | 0=>rfl
 | k+1=>by
  have ih:=QH f k;unfold argBest oB;rw[ih];by_cases h:f (k+1)<oB f k
  ·simp[h]
  ·simp[h,ih]
theorem rh{K:aab}{φ:Nat->Addr}{n:Nat}{H:Hp}:∀{ws:List W} {vs:List V} {ns:List Int},aM K φ n H ws vs->a9 mU ws=some ns->vs=ns.map V.int
 | _,_,_,.nil,e=>by cases e;rfl
 | w::ws,_,bs,.cons h r,e=>by
  unfold a9 at e;split at e
  ·rename_i b FQ e1 e2;cases e;have q:=rh r e2;unfold mU at e1;cases h <;> cases e1
   rw[q];rfl
  ·cases e
theorem Ph{K:aab}{φ:Nat->Addr}{ph:PH}{H:Hp}{w:W}{v:V}{ns:List Int}(hH:aD K φ ph H)(r:aJ K φ ph.length H w v)(e:xG w ph=some ns):∃p,v=.ref p/\aP K H p (ns.map V.int):=by
 unfold xG at e;split at e
 ·rename_i hL;cases r with
  | ref hi=>
   unfold dF at hL;simp only at hL;split at hL
   ·rename_i ws hw;obtain⟨vs,hv,rs⟩:=hH.hp _ _ hw;simp only[cB,hw,abe] at e;rw[rh rs e] at hv;exact⟨_,rfl,aP.of hv⟩
   ·cases hL
  | fl h rs=>
   simp only[cB,abe] at e;have q:=rh rs e;subst q;exact⟨_,rfl,h.sq⟩
  | _=>cases hL
 ·cases e
end
noncomputable def eE:W->W->Po W:=fun x y ph=>match x,y with
 | .ref i,.int k=>match ph[i]? with
  | some (.lst ws)=>if -(2 ^ 63)<=k/\k<2 ^ 63/\ws.length*k.toNat<=aas then some (.ref ph.length,ph++[.lst (aay k.toNat ws).flatten]) else none
  | _=>none
 | x,y=>mR x y ph
theorem aM.rep{K:aab}{φ:Nat->Addr}{n:Nat}{H:Hp}{ws:List W}{vs:List V}(r:aM K φ n H ws vs):∀k:Nat,aM K φ n H (aay k ws).flatten (aay k vs).flatten
 | 0=>.nil
 | k+1=>by
  rw[abJ,abJ,acq,acq];exact r.append (aM.rep r k)
theorem UO:cm K (fun x y H Q=>(rI oK fun i j=>.int (i*j)) x y H Q\/EQ x y H Q) eE:=by
 intro φ ph H x y vx vy w ph' Q hH rx ry e k;unfold eE at e;split at e
 ·rename_i i j;split at e
  ·rename_i ws hw;split at e
   ·rename_i hz;cases e;cases rx with
    | ref hi=>
     cases ry;obtain⟨us,hu,ru⟩:=hH.hp _ _ hw;refine .inr ⟨_,_,us,rfl,rfl,hu,hz.1,hz.2.1,by rw[<- ru.length];exact hz.2.2,fun p hp=>?_⟩;obtain⟨q1,q2,q3⟩:=gE hH (ru.rep j.toNat) hp;exact k _ _ _ q1 q2 q3
   ·cases e
  ·cases e
 ·exact .inl (Us hH rx ry e k)
theorem nX{a b:Expr}{ma mb:EM}(ha:JE X a ma)(hb:JE X b mb):JE X (.BinOp a .Mult b pos) (af eE ma mb):=⟨ou (bf.or Tv TY) UO ha.h hb.h⟩
section
variable{prog:aba}{w:World}{A:acm}{E:Value->aaf->Prop}{s:aaf}{a:Addr}
theorem Mz:afC (.type "list") "keys"=pure none:=am_miss_of_fast (by decide +kernel)
theorem R5{o:Obj}{xs:Array Value}{k:Nat}{Q:Option Value->aaf->Prop}(hx:s.heap.get? a=some o)(hc:o.cls=.type "list")(EZ:o.data=.seq xs k)(hd:o.dict=none)(hA:A.handled=none)
  (h:∀h' tk,(∀b ob,s.heap.get? b=some ob->h'.get? b=some ob)->Q none { s with heap:=h',toks:=tk }):wpAny (model prog w) A (getAttr? (.ref a) "keys") Q E s:=by
 obtain⟨c,a8,dat,sl⟩:=o;simp only at hc EZ hd;subst hc EZ hd;obtain⟨hp,g,d,tk,os⟩:=s;have hT:∀F8,(⟨hp,g,d,F8,os⟩:aaf).TypeIs (.ref a) "list":=fun _=>⟨_,hx,rfl⟩
 have f1:=sub_AttributeError;have f3:=acX.lookup;have f4:=acX.bind (.ref a);have f5:=am_list_getattr_none;unfold getAttr? getAttrBy? getAttrBy
 repeat (any_goals (first | assumption | exact hT _ | ((with_reducible show wpAny _ _ (call (Value.builtin "list.__getattribute__") _ _) _ _ _);refine aeZ acX (hT _) am_entry_list_getattribute (F.args_list_getattribute_2 _ _) (meets_getattribute_miss_list a xs k sl "keys" _ Mz (by decide)) ⟨hx,hA,fun h' F8 e F9=>?_⟩) | wp_step))
 obtain⟨t',u',he⟩:=F9.there;show wpAny _ _ (getattributeRaised _ _ _ _ _ _ _) _ _ _;unfold getattributeRaised
 repeat (any_goals (first | assumption | wp_step))
 exact h _ _ F9.keeps
end
noncomputable def sC(d:Addr):Hp->List (V×V)->Hp->Prop
 | H,[],H'=>H'=H
 | H,p::r,H'=>∃H1,ir H d p.1 p.2 H1/\sC d H1 r H'
abbrev xc(H:Hp):List V->List (V×V)->Prop:=adj fun v p=>∃T,v=.ref T/\H T=some (.tup [p.1,p.2])
variable{H':Hp}
theorem ir.other{b:Addr}{y:V}(h:ir H a y v H')(hb:b≠a):H' b=H b:=by
 rcases h with(⟨_,_,_,_,_,e⟩ | ⟨_,_,_,_,_,_,_,e⟩) | ⟨_,_,_,_,_,e⟩ | ⟨_,_,_,e⟩ <;> rw[e,aW hb]
theorem ir.dict{y:V}(h:ir H a y v H'):(∃kvs,H a=some (.dK kvs))\/∃kvs,H a=some (.dT kvs):=by
 rcases h with(⟨_,_,e,_⟩ | ⟨_,_,_,e,_⟩) | ⟨e,_⟩ | ⟨e,_⟩
 ·exact .inl ⟨_,e⟩
 ·exact .inr ⟨_,e⟩
 ·exact .inl ⟨_,e⟩
 ·exact .inr ⟨_,e⟩
theorem ir.ne{b:Addr}{y:V}{o:HO}(h:ir H a y v H')(hb:H b=some o)(h1:∀kvs,o≠.dK kvs)(h2:∀kvs,o≠.dT kvs):b≠a:=by
 rcases h.dict with⟨kvs,e⟩ | ⟨kvs,e⟩
 ·exact il hb e (h1 _)
 ·exact il hb e (h2 _)
section
variable{X:Cx}{pins:List (Addr×Obj)}{σ:L2.St}{H:Hp}{s:aaf}{a:Addr}{y v:V}{u r:Value}{A:acm}{E:Value->aaf->Prop}
theorem xI{H':Hp}{Q:Unit->aaf->Prop}(hu:A.units<cLine)(I:Inv X pins σ H s)(g:k4 H a y v H')(ry:RelV y u)(rv:RelV v r)
  (h:∀h' t,Inv X pins σ H' { s with heap:=h',toks:=t }->acz a s.heap h'->Q () { s with heap:=h',toks:=t }):wpAny (model X.prog X.w) A (dictSet a u r) Q E s:=by
 rcases g with⟨kvs,k,e,ey,l,eH⟩ | ⟨kvs,k,b,e,ey,eb,l,eH⟩
 ·subst ey eH;obtain⟨z,hd,vs,rel,dd⟩:=kR I.aG e;have hz:vs.length<=sizeLine:=by rw[<- rel.length];exact z
  have hl:(putK kvs k v).length<=sizeLine:=by have:=nE kvs k v;omega
  refine wpAny_dictSet_pairs (hsz:=hz) (kQ ry) dd fun h' gu hs=>h _ _ ?_ hs
  have he:∃q,h'.get? a=some q:=let ⟨q,_,_,hq,_⟩:=gu;⟨q,hq⟩
  exact nR I (by rw[e];exact acs) hs he (wU hl hd (rel.put k rv) gu)
 ·subst ey eH;cases(show u=abc b from ry);obtain⟨z,hd,xs,rel,dd⟩:=sx I.aG e;have hz:xs.length<=sizeLine:=by rw[<- adB rel];exact z
  have hl:(putK kvs k v).length<=sizeLine:=by have:=nE kvs k v;omega
  refine wpAny_dictSet_heap (hsz:=hz) hu (me I.aG eb) dd fun h' gu hs=>h _ _ ?_ hs
  obtain⟨q,es,ep,hq,h2,h3,h4,_,h5⟩:=gu;refine nR I (by rw[e];exact acs) hs ⟨q,hq⟩ ⟨hl,hd,_,(rel.put k eb rv).keeps fun c ys ec=>?_,q,es,ep,hq,h2,h3,h4,h5⟩;rw[aW (il ec e (fun z=>nomatch z))];exact ec
theorem UP{H':Hp}{Q:Unit->aaf->Prop}(hu:A.units<cLine)(I:Inv X pins σ H s)(g:ir H a y v H')(ry:RelV y u)(rv:RelV v r)
  (h:∀h' t,Inv X pins σ H' { s with heap:=h',toks:=t }->acz a s.heap h'->Q () { s with heap:=h',toks:=t }):wpAny (model X.prog X.w) A (dictSet a u r) Q E s:=by
 rcases g with g | ⟨e,k,b,ey,eb,eH⟩ | ⟨e,k,ey,eH⟩
 ·exact xI hu I g ry rv h
 ·subst ey eH;have g:k4 (upd H a (.dT [])) a (.ref b) v (upd (upd H a (.dT [])) a (.dT (putK [] k v))):=.inr ⟨[],k,b,bF,rfl,by rw[aW (il eb e (fun z=>nomatch z))];exact eb,by decide,rfl⟩;refine xI hu (mn I e) g ry rv fun h' t I3 hs=>h h' t ?_ hs
  rw[iS] at I3;exact I3
 ·subst ey eH;have g:k4 (upd H a (.dK [])) a (kV k) v (upd (upd H a (.dK [])) a (.dK (putK [] k v))):=.inl ⟨[],k,bF,rfl,by decide,rfl⟩;refine xI hu (jx I e) g ry rv fun h' t I3 hs=>h h' t ?_ hs
  rw[iS] at I3;exact I3
end
theorem zX:entryFor table "dict.update.loop"=some afn.«dict.update.loop»:=entryFor_of_tree (by kernel_rfl)
theorem qh:plainId "dict.update.loop"=true:=by decide +kernel
section
variable{X:Cx}{pins:List (Addr×Obj)}{σ:L2.St}{A:acm}{R:Result->aaf->Prop}
theorem Cr{H:Hp}{s:aaf}{h':Heap}{it:Addr}(I:Inv X pins σ H s)(k:∀b u,b≠it->s.heap.get? b=some u->h'.get? b=some u)(hf:eo X pins H it):Inv X pins σ H { s with heap:=h' }:=
 nV (s:=s) (h':=h') (t':=s.toks) (fp:=[it]) I (fun b o hb q=>k b o (fun z=>hb (by simp[z])) q) (fun b hb=>by
  have:b=it:=by simpa using hb
  subst this;exact hf)
theorem pair_items{T:Addr}{ot:Obj}{uk uv:Value}{nt:Nat}{s:aaf}{E:Value->aaf->Prop}{Q:List Value->aaf->Prop}(ur:s.heap.get? T=some ot)(zc:ot.cls=.type "tuple")(zd:ot.data=.seq #[uk,uv] nt)(h:Q [uk,uv] s) :
  wpAny (model X.prog X.w) A (aeG (.ref T)) Q E s:=by
 unfold aeG;refine aaa (aeQ (T:="tuple") ⟨_,ur,zc⟩ ?_);rw[if_pos (by decide)];exact aaa (abu ur zd (aai h))
theorem A9(hA:A.handled=none)(hu:A.units+1<cLine){d it l:Addr}{xs:List V}:∀(ps:List (V×V)) (i:Nat) (t:Tok) (s:aaf) (H H':Hp),Inv X pins σ H s->H l=some (.lst xs)->eo X pins H it->it≠d->s.heap.IsListIter it l i →
  xc H (xs.drop i) ps->sC d H ps H'->(∀s',Inv X pins σ H' s'->R (.ok (.ret .none)) s')->afB (model X.prog X.w) A (.builtin "dict.update.loop" ⟨[.ref d,.ref it,.int i t,.none],[]⟩) R s
 | [],i,t,s,H,H',I,hl,hf,yP,hit,hp,hF,k=>by
  obtain rfl:H'=H:=hF;obtain⟨its,rv,pl,hz⟩:=I.list (aP.of hl);have hd:xs.drop i=[]:=by
   generalize xs.drop i=z at hp;cases hp;rfl
  have ZS:xs.length<=i:=by simpa using hd
  refine acB zX ?_;rw[abR qh _];show wpAny _ A.in1 (adU (.ref it) >>= _) _ _ s;refine aaa (wpAny_pyNext_list_end (A:=A.in1) hA hit pl.isList (by have:=rv.length;simp;omega) fun h' eb=>?_);show wpAny _ A.in1 (Builtin.Dict.addKeywords d [] >>= fun _=>PySem.ret abN) _ _ _;refine aaa (aai ?_);refine aai (k _ ?_);exact Cr I (fun b o hb q=>eb b o hb q) hf
 | p::ps,i,t,s,H,H',I,hl,hf,yP,hit,hp,hF,k=>by
  obtain⟨H1,mV,hF⟩:=hF;obtain⟨its,rv,pl,hz⟩:=I.list (aP.of hl);cases hd:xs.drop i with
  | nil=>rw[hd] at hp;cases hp
  | cons x ys=>
   rw[hd] at hp;cases hp with
   | cons hx hp=>
    obtain⟨T,rfl,hT⟩:=hx;have YC:xs[i]? =some (.ref T):=by
     have:=congrArg (fun l=>l[0]?) hd
     simpa using this
    have YD:xs.drop (i+1)=ys:=by
     have:=congrArg (fun l=>l.drop 1) hd
     simpa[afh,aeT] using this
    obtain⟨u,ze,ru⟩:=rv.get YC;obtain rfl:u=abc T:=ru;refine acB zX ?_;rw[abR qh _];show wpAny _ A.in1 (adU (.ref it) >>= _) _ _ s;refine aaa (wpAny_pyNext_list_item hit pl.isList (x:=.ref T) (by simpa using ze) fun h1 Xy YE=>?_);have I1:Inv X pins σ H { s with heap:=h1 }:=Cr I (fun b o hb q=>YE.extBut b o hb q) hf;obtain⟨iz,Ga,pt,_⟩:=I1.tuple (bz.of hT);obtain⟨uk,uv,e2,rk,YF⟩:=Vals.two Ga;subst e2;obtain⟨ot,ur,zc,nt,zd⟩:=pt;have tJ:it≠d:=yP;simp only[];refine aaa (abg (aaa (wpAny_tryCatch (pair_items ur zc zd ?_))));simp only[];refine abg (UP hu I1 mV rk YF fun h2 t2 I2 bQ=>?_);refine aai ⟨adC qh _,?_⟩;have YG:l≠d:=mV.ne hl (fun _ z=>nomatch z) (fun _ z=>nomatch z);refine A9 hA hu ps (i+1) 0 _ H1 H' I2 (by rw[mV.other YG];exact hl) ⟨by rw[mV.other tJ];exact hf.1,hf.2⟩ tJ (Xy.at fun o q=>(bQ.2 it tJ).trans q) ?_ hF k;rw[YD];exact adj.jG hp fun _ _ ⟨T',e1,e2⟩=>⟨T',e1,by rw[mV.other (mV.ne e2 (fun _ z=>nomatch z) (fun _ z=>nomatch z))];exact e2⟩
end
noncomputable def D8:List V->Hp->VK->Prop:=fun xs H Q=>∃l vs ps,xs=[.ref l]/\H l=some (.lst vs)/\xc H vs ps/\∀d,H d=none->∃H',sC d (upd H d (.dK [])) ps H'/\Q (.ref d) H'
section
variable{X:Cx}
theorem Pj(hc:X.calm=true)(hu:X.A.units+64<cLine):cy X (.type "dict") D8:=by
 intro pins s σ H xs us Q I r h;obtain⟨l,vs,ps,rfl,hl,hp,h⟩:=h;obtain⟨u,rfl,rx⟩:=vals1 r;obtain rfl:u=abc l:=rx;have hA:X.A.handled=none:=I.ok.hd hc;have hn:=I.aG.fresh (aaj s.heap.objs.size);obtain⟨H',hF,hq⟩:=h s.heap.objs.size hn;refine callType_codes (Q₁:=fun obj bv=>obj=.ref s.heap.objs.size/\bv={ s with heap:=s.heap.push { cls:=.type "dict",data:=.dict #[] } }) F.kt_called_dict (F.kt_typeCall_dict_1 _) F.entry_dict_init (kt_code_dict_new _ ⟨rfl,rfl⟩) ?_;rintro obj bv ⟨rfl,rfl⟩;have oM:(s.heap.push { cls:=.type "dict",data:=.dict #[] }).DictOf (cL X.prog X.w) s.heap.objs.size []:=afR s.heap;have Xz:(s.heap.objs.size==acg)=false:=beq_eq_false_iff_ne.mpr (abw I.big);have I1:Inv X pins σ (upd H s.heap.objs.size (.dK [])) { s with heap:=s.heap.push { cls:=.type "dict",data:=.dict #[] } }:=
  I.laid (t':=s.toks) (fun b u q=>aad _ q) (aaj _) ⟨abB _,Xz,[],.nil,oM⟩
 refine⟨oM.typeIs,F.args_dict_init_2 _ _,?_⟩;have pD:l≠s.heap.objs.size:=dS hl hn;have cu:upd H s.heap.objs.size (.dK []) l=some (.lst vs):=by rw[aW pD];exact hl
 obtain⟨its,rv,pl,hz⟩:=I1.list (aP.of cu);unfold afn.«dict.__init__»;refine aaa ?_;unfold Builtin.Dict.selfAndRest;refine aaa (wpAny_notOrdered_dict oM.typeIs ?_);show wpAny _ _ (pure (s.heap.objs.size,[abc l])) _ _ _;refine aai ?_;show wpAny _ _ (aeu "dict.__init__" s.heap.objs.size (.ref l) [] .none) _ _ _;unfold aeu;obtain⟨ol,pE,hG,n,ut⟩:=pl.isList;have hT:({ s with heap:=s.heap.push { cls:=.type "dict",data:=.dict #[] } }:aaf).TypeIs (.ref l) "list":=⟨_,pE,hG⟩
 refine aaa (aeQ hT ?_);rw[if_pos (by decide)];obtain⟨oq,nq,YH,YI,YJ,YK⟩:=pl;refine aaa ((R5 (A:=X.A.in1.in1) YH YI YK YJ hA fun h1 t1 k1=>?_));simp only[Option.isNone_none,if_true];refine aaa (afa ?_);have I2:Inv X pins σ (upd H s.heap.objs.size (.dK [])) { s with heap:=h1,toks:=t1 }:=I1.kept (t':=t1) k1;obtain⟨iz,Ga,YL,zf⟩:=I2.list (aP.of cu);refine aaa (aei YL.isList ?_);refine aai ⟨adC qh _,?_⟩;have hd:s.heap.objs.size<h1.objs.size:=aah (k1 _ _ (aat _ rfl));have I3:Inv X pins σ (upd H s.heap.objs.size (.dK [])) { s with heap:=h1.push { cls:=.type "list_iterator",data:=.fields #[.ref l,.int 0 0] },toks:=t1 }:=I2.kept (t':=t1) fun b u q=>aad _ q
 refine A9 (X:=X) (pins:=pins) (σ:=σ) (A:=X.A.in1) hA (by show X.A.units+1+1<cLine;omega) ps 0 0 _ _ H' I3 cu (I2.i6 (aaj _) (I2.aG.fresh (aaj _))) (abw hd) ⟨_,aat _ rfl,rfl,rfl⟩ ?_ hF fun s' I'=>?_
 ·exact adj.jG hp fun _ _ ⟨T',e1,e2⟩=>⟨T',e1,by rw[aW (dS e2 hn)];exact e2⟩
 ·exact⟨rfl,.ref s.heap.objs.size,H',I',rfl,hq⟩
end
noncomputable def i3:List (W×W)->List (W×W)->Option (List (W×W))
 | d,[]=>some d
 | d,p::r=>if d7 d p.1=true/\d.length<aas then i3 (dc d p.1 p.2) r else none
noncomputable def mB:W->Option (W×W)
 | .tup [a,b]=>some (a,b)
 | _=>none
noncomputable def mC:List W->Po W:=fun xs ph=>match xs with
 | [.ref i]=>match ph[i]? with
  | some (.lst ws)=>match a9 mB ws with
   | some ps=>match i3 [] ps with
    | some d=>some (.ref ph.length,ph++[.a8 d])
    | none=>none
   | none=>none
  | _=>none
 | _=>none
abbrev D9(K:aab)(φ:Nat->Addr)(n:Nat)(H:Hp):List (W×W)->List (V×V)->Prop:=adj fun p q=>aJ K φ n H p.1 q.1/\aJ K φ n H p.2 q.2
theorem BO{K:aab}{φ:Nat->Addr}{i:Nat}:∀{ps:List (W×W)} {qs:List (V×V)} {ph:PH} {H:Hp} {d d':List (W×W)},aD K φ ph H->i<ph.length->ph[i]? =some (.a8 d)->D9 K φ ph.length H ps qs->i3 d ps=some d' →
  ∃H',sC (φ i) H qs H'/\aD K φ (ph.set i (.a8 d')) H'/\Step K φ ph.length H φ ph.length H'
 | [],qs,ph,H,d,d',hH,hi,hd,hr,e=>by
  cases hr;cases e;refine⟨H,rfl,?_,Step.refl⟩;have:ph.set i (.a8 d)=ph:=by
   apply List.ext_getElem?
   intro j;by_cases hj:i=j
   ·subst hj;rw[abF hi,hd]
   ·rw[acn hj]
  rw[this];exact hH
 | p::ps,qs,ph,H,d,d',hH,hi,hd,hr,e=>by
  cases hr with
  | cons h r=>
   unfold i3 at e;split at e
   ·rename_i hk;obtain⟨H1,hp,ax,s1⟩:=BN hH hi hd h.1 h.2 hk.1 hk.2;rw[abA] at s1;have hl:(ph.set i (.a8 (dc d p.1 p.2))).length=ph.length:=abA ..;obtain⟨H2,hF,aU,s2⟩:=BO (ph:=ph.set i (.a8 (dc d p.1 p.2))) ax (by rw[hl];exact hi) (abF hi) (by rw[hl];exact adj.jG r fun _ _ z=>⟨z.1.mono s1,z.2.mono s1⟩) e;rw[hl] at s2;rw[List.set_set] at aU;exact⟨H2,⟨H1,hp,hF⟩,aU,s1.trans s2⟩
   ·cases e
theorem Ba{K:aab}{φ:Nat->Addr}{n:Nat}{H:Hp}:∀{ws:List W} {vs:List V} {ps:List (W×W)},aM K φ n H ws vs->a9 mB ws=some ps->∃qs,xc H vs qs/\D9 K φ n H ps qs
 | _,_,ps,.nil,e=>by cases e;exact⟨[],.nil,.nil⟩
 | _,_,ps,.cons h r,e=>by
  unfold a9 at e;split at e
  ·rename_i b bs e1 e2;cases e;obtain⟨qs,h1,h2⟩:=Ba r e2;unfold mB at e1;split at e1
   ·cases e1;cases h with
    | tup hT rt=>
     cases rt with
     | cons ra rt=>
      cases rt with
      | cons rb rt=>
       cases rt;exact⟨(_,_)::qs,.cons ⟨_,rfl,hT⟩ h1,.cons ⟨ra,rb⟩ h2⟩
   ·cases e1
  ·cases e
theorem R6:fN K D8 mC:=by
 intro φ ph H xs vs w ph' Q hH r e k;unfold mC at e;split at e
 ·rename_i i;split at e
  ·rename_i ws hw;split at e
   ·rename_i ps YM;split at e
    ·rename_i d hd;cases e;cases r with
     | cons r rr=>
      cases rr;cases r with
      | ref hi=>
       obtain⟨us,hu,ru⟩:=hH.hp _ _ hw;obtain⟨qs,h1,h2⟩:=Ba ru YM;refine⟨_,us,qs,rfl,hu,h1,fun p hp=>?_⟩;obtain⟨q1,q2,q3⟩:=BL hH hp;have hl:(ph++[PO.a8 []]).length=ph.length+1:=by simp
       obtain⟨H',hF,Gb,s'⟩:=BO (i:=ph.length) (d:=[]) q1 (by rw[hl];exact abQ _) (by simp) (adj.jG h2 fun _ _ z=>⟨z.1.mono q2,z.2.mono q2⟩) hd;have he:(ph++[PO.a8 []]).set ph.length (.a8 d)=ph++[.a8 d]:=by simp
       have ce:(ph++[PO.a8 d]).length=(ph++[PO.a8 []]).length:=by simp
       rw[he] at Gb;rw[iW] at hF;refine⟨H',hF,k _ H' _ Gb (by rw[ce];exact q2.trans s') (by rw[ce];exact q3.mono s')⟩
    ·cases e
   ·cases e
  ·cases e
 ·cases e
noncomputable def Wt:HO->Prop
 | .dK _=>True
 | .dT _=>True
 | _=>False
section
variable{K:aab}{φ:Nat->Addr}{n:Nat}{H:Hp}{d:Addr}{o:Obj}{u:HO}(e:H d=some (.bL o u))(hu:Wt u)(hc:o.cls=.type "dict")
include e hu hc
omit hc in
end
noncomputable def bu(x:Str):Bool:= !(x==("__debug__":Str))&& !(x==("__classdict__":Str))
section
variable{X:Cx}{N:List Str}{sc:Scope}{k:Nat}{b:Expr}
theorem fe.jv{pos:Pos}(B:fe X N sc)(i:Nat){x:Str}(hN:N[i]? =some x)(hv:aH sc x)(hk:bu x=true):JE X (.Name x pos) (ae i):=by
 unfold bu at hk;rw[aau] at hk;exact B.Xs i hN hv (by simpa using hk.1) (by simpa using hk.2)
theorem ff.ao{pos:Pos}{a:Expr}{ma mb:EM}(B:ff X N sc k)(ha:JE X a ma)(hb:JE X b mb)(hp:rA b:=by intro _ _;rfl):JE X (.Subscript a b pos) (af ao ma mb):=B.UN hp ha hb
end
noncomputable def hQ(P:aba)(w:World):Option (Key ⊕ List Key)->Int
 | none=>0xFCA86420
 | some (.inl k)=>yc w k
 | some (.inr ks)=>tupleKeyHash (cL P w) ks
theorem vV:∀{xs:List V} {us:List Value},xs.length=us.length->(∀(j:Nat) x u,xs[j]? =some x->us[j]? =some u->L2.RelV x u)->Vals xs us
 | [],[],_,_=>.nil
 | [],_::_,h,_=>by simp at h
 | _::_,[],h,_=>by simp at h
 | x::xs,u::us,h,k=>.cons (k 0 x u rfl rfl) (vV (by simpa using h) fun j y v h1 h2=>k (j+1) y v (by simpa using h1) (by simpa using h2))
theorem Pk{w:World}{u:Value}(h:(cL P w).is k u=true):L2.RelV (kV k) u:=by
 rcases ic h with⟨i,t,rfl,rfl⟩ | ⟨x,t,rfl,rfl⟩
 ·exact⟨t,rfl⟩
 ·exact⟨t,rfl⟩
section
variable{X:Cx}{pins:List (Addr×Obj)}{σ:L2.St}{H:Hp}{s:aaf}
theorem Cs(I:Inv X pins σ H s){d:Addr}{kvs:List (Key×V)}(hd:H d=some (.dK kvs)\/(H d=some (.dT [])/\kvs=[])):∃vs,KV kvs vs/\s.heap.DictOf (cL X.prog X.w) d vs/\(d==acg)=false/\kvs.length<=sizeLine:=by
 rcases hd with e | ⟨e,rfl⟩
 ·obtain⟨z,y,vs,rel,dd⟩:=kR I.aG e;exact⟨vs,rel,dd,y,z⟩
 ·obtain⟨z,y,vs,rel,dd⟩:=kR (kvs:=[]) (jx I e).aG bF;exact⟨vs,rel,dd,y,z⟩
theorem Bb{kvs:List (Key×V)}{vs:List (Key×Value)}{acc:Array Value}(rel:KV kvs vs)(mW:ItemsOf (fun i v=>∃k x,vs[i]? =some (k,x)/\(cL X.prog X.w).is k v=true) acc vs.length):Vals (kvs.map fun kv=>kV kv.1) acc.toList:=by
 have hk:=rel.keys;refine vV (by have e1:=rel.length;have e2:=mW.1;have e3:acc.toList.length=acc.size:=acW;rw[aag];omega) fun j x u h1 h2=>?_
 obtain⟨k,y,e,hi⟩:=mW.2 j u (by simpa using h2);rw[aak] at h1;obtain⟨kv,e1,rfl⟩:=aap.mp h1;have e2:(kvs.map (·.1))[j]? =some kv.1:=by rw[aak,e1];rfl
 rw[hk,aak,e] at e2;have e3:k=kv.1:=by simpa using e2
 rw[<- e3];exact Pk hi
end
noncomputable def xg:List V->Hp->VK->Prop:=fun xs H Q=>∃d kvs,xs=[.ref d]/\(H d=some (.dK kvs)\/(H d=some (.dT [])/\kvs=[]))/\∀p,H p=none->Q (.ref p) (upd H p (.lst (kvs.map fun kv=>kV kv.1)))
section
variable{X:Cx}
theorem NL(hc:X.calm=true):cy X (.type "list") xg:=by
 intro pins s σ H xs us Q I r h;obtain⟨d,kvs,rfl,hd,h⟩:=h;obtain⟨u,rfl,rx⟩:=vals1 r;obtain rfl:u=abc d:=rx;obtain⟨vs,rel,dd,y,z⟩:=Cs I hd;obtain⟨ep,jk⟩:=dd.dictAt;refine PySem.W.kdl_call (afM (knd:=cL X.prog X.w) (kvs:=vs) (ep:=ep) y) (I.ok.hd hc) jk (by rw[<- rel.length];exact z) fun h' tk acc c hk hD mW=>⟨.ref s.heap.objs.size,_,I.laid (t':=tk) (a:=s.heap.objs.size) (o:=.lst (kvs.map fun kv=>kV kv.1)) (fun b u q=>hk b u q) (aaj _) ⟨by simpa using z,acc.toList,c,Bb rel mW,by simpa using hD⟩,rfl,h _ (I.aG.fresh (aaj _))⟩
noncomputable def Ea(K:aab):List V->Hp->VK->Prop:=fun xs H Q=>∃(l:Addr) (ns:List Int),xs=[.ref l]/\(aP K H l (ns.map V.int)\/∃kvs:List (Key×V),(H l=some (.dK kvs)\/(H l=some (.dT [])/\kvs=[]))/\(kvs.map fun kv=>kV kv.1)=ns.map V.int)/\ns.length<64 /\
 ∀(p:Addr) (fW:List Int),H p=none->fW.Perm ns->fW.Pairwise (· <= ·)->Q (.ref p) (upd H p (.lst (fW.map V.int)))
theorem Ai:∀{us:List Value} {ns:List Int},aeR us ns->Vals (ns.map V.int) us:=by
 intro us ns h;have hl:=afj h;refine vV (by rw[aag,hl]) fun j x u h1 h2=>?_
 rw[aak] at h1;obtain⟨n,e1,rfl⟩:=aap.mp h1;obtain⟨m,t,e,e3⟩:=IntsAre.at h j u h2;rw[e1] at e3;cases e3;exact⟨t,e⟩
theorem gather{A:acm}{E:Value->aaf->Prop}{s:aaf}{T:String}{r d:Addr}{n:Nat}{P:Nat->Value->Prop}{OK:Heap->Prop}{Y:List Value->aaf->Prop}(src:PySem.W.KdlSrc X.prog X.w T r d n P OK)(calm:A.handled=none)(ok:OK s.heap)(fit:n<=aas)
  (go:∀(h':Heap) (tk:Nat) (acc:Array Value),(∀b o,s.heap.get? b=some o->h'.get? b=some o)->s.heap.objs.size<h'.objs.size->ItemsOf P acc n->Y acc.toList { s with heap:=h',toks:=tk }) :
  wpAny (model X.prog X.w) A (collect (.ref r)) Y E s:=by
 have low:=src.there _ ok;generalize hN:s.heap.objs.size=N at low go;have YN:(s.heap.push { cls:=.type "list",data:=.seq ([]:List Value).toArray }).get? N=some { cls:=.type "list",data:=.seq #[] }:=by rw[<- hN];exact aat _ rfl
 have YO:OK (s.heap.push { cls:=.type "list",data:=.seq ([]:List Value).toArray }):=src.keep _ _ ok fun _ _ _ q=>aad _ q
 unfold collect;refine aaa (wpAny_runValue (acB entry_proto_collect' ?_));rw[abR F.plain_proto_collect _];refine aaa (m:=newList []) (abI (aai ⟨adC F.plain_list_iadd _,acB entry_list_iadd' ?_⟩));rw[abR F.plain_list_iadd _,hN];have main:=PySem.W.kdl_extend (A:=A) (s:={ s with heap:=s.heap.push { cls:=.type "list",data:=.seq ([]:List Value).toArray } }) src calm YO N (abw low.1) (abw low.2) (.ref N) 0 YN
  (R:=fun q s'=>q=.ok (.ret (.ref N))/\∃(h':Heap) (tk:Nat) (acc:Array Value) (c:Nat),s'={ s with heap:=h',toks:=tk }/\(∀b o,s.heap.get? b=some o->h'.get? b=some o)/\h'.get? N=some { cls:=.type "list",dict:=none,data:=.seq acc c,slots:= #[] }/\ItemsOf P acc n)
  (fun h' tk acc c k1 k2 k3=>⟨rfl,h',tk,acc,c,rfl,fun b o q=>k1 b o (by rw[<- hN];exact aaQ (aah q)) (aad _ q),k2,k3⟩) fit
 have last:∀s',(∃(h':Heap) (tk:Nat) (acc:Array Value) (c:Nat),s'={ s with heap:=h',toks:=tk }/\(∀b o,s.heap.get? b=some o->h'.get? b=some o)/\h'.get? N=some { cls:=.type "list",dict:=none,data:=.seq acc c,slots:= #[] }/\ItemsOf P acc n) →
   wpAny (model X.prog X.w) A (do
    let o <- load N
    match o.data with
    | .seq xs _=>pure xs.toList
    | _=>unsupported "internal:collect") Y E s':=by
  rintro s' ⟨h',tk,acc,c,rfl,k1,k2,k3⟩;exact aaa (wpAny_load k2 (aai (go h' tk acc k1 (aah k2) k3)))
 refine abO main (fun fin s' x=>?_) fun e s' x=>nomatch x.1
 cases fin with
 | done f=>
  obtain⟨q,x⟩:=x;cases q;exact last s' x
 | again Z5=>
  refine⟨x.1,aeU x.2 fun q pU y=>?_⟩;obtain⟨rfl,y⟩:=y;exact last pU y
theorem Pl(hc:X.calm=true):cy X (.builtin "sorted") (Ea X.K):=by
 intro pins s σ H xs us Q I r h;obtain⟨l,ns,rfl,hl,uu,h⟩:=h;obtain⟨u,rfl,rx⟩:=vals1 r;obtain rfl:u=abc l:=rx;have ZU:(64:Nat)<=sizeLine:=by decide
 rcases hl with hl | ⟨kvs,hd,YQ⟩
 ·obtain⟨its,rv,pl,hz⟩:=I.list hl;have hi:aeR its ns:=intsAre_of rv;have pD:=afj hi;refine sorted_ints (vs:=its) pl.isList hi (by omega) fun out fW a1 a2 a3=>?_
  obtain⟨e,he⟩:=sortedAll_at s.heap its out;have ce:=a2.length_eq;exact⟨.ref (s.heap.objs.size+1),_,I.laid (t':=s.toks) (a:=s.heap.objs.size+1) (o:=.lst (fW.map V.int)) (fun b u q=>sortedAll_old q) (adI _) ⟨by rw[aag];omega,out.toList,e,Ai a1,by simpa using he⟩,rfl,h _ fW (I.aG.fresh (adI _)) a2 a3⟩
 ·obtain⟨vs,rel,dd,y,z⟩:=Cs I hd;obtain⟨ep,jk⟩:=dd.dictAt;refine Calls.call_function_entry kind_sorted plain_sorted entry_sorted (args_sorted1 _) ?_;unfold afn.«sorted»;refine aaa (m:=checkCount "sorted" 1 1 _) (aai ?_);refine aaa (gather (A:=X.A.in1) (afM (knd:=cL X.prog X.w) (kvs:=vs) (ep:=ep) y) (I.ok.hd hc) jk (by rw[<- rel.length];exact z) fun h' tk acc hk Eb mW=>?_);have rv:=Bb rel mW;rw[YQ] at rv;have hi:aeR acc.toList ns:=intsAre_of rv;have pD:=afj hi;refine aaa (wpAny_newList ?_ (by omega));have ho:(h'.push (seqObj "list" acc.toList.toArray 0)).get? h'.objs.size=some (seqObj "list" acc.toList.toArray 0):=aat _ rfl;refine aaa (abg (abv slot_list_sort ⟨_,ho,rfl⟩ entry_list_sort (list_sort_tree ho hi (by omega) fun out fW a1 a2 a3=>⟨_,rfl,?_⟩) (args_list_sort _)));obtain⟨e,he⟩:=sortedHeap_at (out:=out) ho;have ce:=a2.length_eq;refine aai ⟨_,rfl,.ref h'.objs.size,_,I.laid (t':=tk) (a:=h'.objs.size) (o:=.lst (fW.map V.int)) (fun b u q=>?_) (ado Eb) ⟨by rw[aag];omega,out.toList,e,Ai a1,by simpa using he⟩,rfl,h _ fW (I.aG.fresh (ado Eb)) a2 a3⟩;have hb:=hk b u q;have fc:=aah hb;rw[sortedHeap_old (aaQ fc) (aan fc (by rw[size_push'];exact adI _)),Heap.get?_push_ne _ _ _ (aaQ fc)];exact hb
end
noncomputable def mD(kws:List (W×W)):Option (List W):=if kws.all (fun p=> !eJ p.1)=true then some (kws.map (·.1)) else none
noncomputable def jE:List W->Po W:=fun xs ph=>match xs with
 | [w]=>match eW w ph with
  | some p=>(mD p.2).map fun ks=>(.ref ph.length,ph++[.lst ks])
  | none=>mz [w] ph
 | _=>none
noncomputable def insI(a:Int):List Int->List Int
 | []=>[a]
 | b::l=>if a<=b then a::b::l else b::insI a l
noncomputable def jP:List Int->List Int
 | []=>[]
 | a::l=>insI a (jP l)
noncomputable def mE:List W->Po W:=fun xs ph=>match xs with
 | [w]=>match(match eW w ph with | some p=>(mD p.2).bind (a9 mU) | none=>xG w ph) with
  | some ns=>if ns.length<64 then some (.ref ph.length,ph++[.lst ((jP ns).map W.int)]) else none
  | none=>none
 | _=>none
theorem insI_perm{a:Int}:∀{l:List Int},(insI a l).Perm (a::l)
 | []=>.refl _
 | b::l=>by
  unfold insI;split
  ·exact .refl _
  ·exact(insI_perm.cons b).trans (.swap a b l)
theorem Av{a:Int}:∀{l:List Int},l.Pairwise (· <= ·)->(insI a l).Pairwise (· <= ·)
 | [],_=>List.pairwise_singleton _ _
 | b::l,h=>by
  unfold insI;obtain⟨h1,h2⟩:=adY.mp h;split
  ·rename_i lu;exact adY.mpr ⟨fun c hc=>(aav.mp hc).elim (fun z=>z▸lu) fun z=>Int.le_trans lu (h1 c z),h⟩
  ·rename_i lu;exact adY.mpr ⟨fun c hc=>(aav.mp (insI_perm.mem_iff.mp hc)).elim (fun z=>by omega) fun z=>h1 c z,Av h2⟩
theorem Bc:∀{l:List Int},(jP l).Perm l
 | []=>.refl _
 | a::l=>insI_perm.trans (Bc.cons a)
theorem Aw:∀{l:List Int},(jP l).Pairwise (· <= ·)
 | []=>.nil
 | a::l=>Av Aw
theorem wG{l l':List Int}(p:l'.Perm l)(s:l'.Pairwise (· <= ·)):l'=jP l:=
 List.Perm.eq_of_pairwise (le:=(· <= ·)) (fun a b _ _ h1 h2=>Int.le_antisymm h1 h2) s Aw (p.trans Bc.symm)
section
variable{K:aab}{φ:Nat->Addr}{n:Nat}{H:Hp}
theorem BP:∀{kws:List (W×W)} {kvs:List (Key×V)},bW K φ n H kws kvs->aM K φ n H (kws.map (·.1)) (kvs.map fun kv=>kV kv.1)
 | _,_,.nil=>.nil
 | _,_,.cons (k:=k) h r=>.cons (by cases k with | inl i=>exact .int i | inr x=>exact .str x) (BP r)
theorem Be{ph:PH}{y:W}{v:V}{p:Nat×List (W×W)}{ks:List W}(hH:aD K φ ph H)(r:aJ K φ ph.length H y v)(e:eW y ph=some p)(hk:mD p.2=some ks) :
  ∃d kvs,v=.ref d/\(H d=some (.dK kvs)\/(H d=some (.dT [])/\kvs=[]))/\aM K φ ph.length H ks (kvs.map fun kv=>kV kv.1):=by
 unfold mD at hk;split at hk
 ·rename_i ha;cases hk;obtain⟨rfl,hi,hd,rfl⟩:=nK (i:=p.1) (kws:=p.2) hH r e
  rcases hH.hp _ _ hd with⟨kvs,q,rd⟩ | ⟨kvs,q,rt⟩
  ·exact⟨_,kvs,rfl,.inl q,BP rd⟩
  ·obtain⟨e1,e2⟩:=rt.ym ha;subst e2;rw[e1];exact⟨_,[],rfl,.inr ⟨q,rfl⟩,.nil⟩
 ·cases hk
end
theorem wH:fN K (fun xs H Q=>(∃p ys,xs=[.ref p]/\(aP K H p ys\/bz K H p ys)/\∀l,H l=none->Q (.ref l) (upd H l (.lst ys)))\/xg xs H Q) jE:=by
 intro φ ph H xs vs w ph' Q hH r e k;unfold jE at e;split at e
 ·rename_i x;cases hd:eW x ph with
  | none=>rw[hd] at e;exact .inl (RV hH r e k)
  | some p=>
   rw[hd] at e;obtain⟨ks,hk,e⟩:=aap.mp e;cases e;cases r with
   | cons r rn=>
    cases rn;obtain⟨d,kvs,rfl,zg,rr⟩:=Be hH r hd hk;refine .inr ⟨d,kvs,rfl,zg,fun p hp=>?_⟩;obtain⟨q1,q2,q3⟩:=gE hH rr hp;exact k _ _ _ q1 q2 q3
 ·cases e
theorem vt(hc:X.calm=true):cy X (.type "list") (fun xs H Q=>(∃p ys,xs=[.ref p]/\(aP X.K H p ys\/bz X.K H p ys)/\∀l,H l=none->Q (.ref l) (upd H l (.lst ys)))\/xg xs H Q):=cy.or My (NL hc)
theorem vW{K:aab}{φ:Nat->Addr}{n:Nat}{H:Hp}:∀(ns:List Int),aM K φ n H (ns.map W.int) (ns.map V.int)
 | []=>.nil
 | n::ns=>.cons (.int n) (vW ns)
theorem R7:fN K (Ea K) mE:=by
 intro φ ph H xs vs w ph' Q hH r e k;unfold mE at e;split at e
 ·rename_i x;cases r with
  | cons r rn=>
  cases rn;cases hd:eW x ph with
  | none=>
   rw[hd] at e;simp only at e;split at e
   ·rename_i ns bT;split at e
    ·rename_i uu;cases e;obtain⟨p,rfl,hq⟩:=Ph hH r bT;refine⟨p,ns,rfl,.inl hq,uu,fun q fW hq hp hs=>?_⟩;rw[wG hp hs];obtain⟨q1,q2,q3⟩:=gE hH (vW (jP ns)) hq;exact k _ _ _ q1 q2 q3
    ·cases e
   ·cases e
  | some p=>
   rw[hd] at e;simp only at e;split at e
   ·rename_i ns bT;split at e
    ·rename_i uu;cases e;obtain⟨ks,hk,bT⟩:=Option.bind_eq_some_iff.mp bT;obtain⟨d,kvs,rfl,zg,rr⟩:=Be hH r hd hk;refine⟨d,ns,rfl,.inr ⟨kvs,zg,rh rr bT⟩,uu,fun q fW hq hp hs=>?_⟩;rw[wG hp hs];obtain⟨q1,q2,q3⟩:=gE hH (vW (jP ns)) hq;exact k _ _ _ q1 q2 q3
    ·cases e
   ·cases e
 ·cases e
theorem boot_sorted:abk "sorted"=some (.builtin "sorted"):=by kernel_rfl
open PySem L2
section
variable{α β γ:Type}
theorem kH(a:α)(f:α->Mo β):aq (aA a) f=f a:=rfl
theorem Ct(f:α->Mo β):aq (ed:Mo α) f=ed:=rfl
theorem Cu(x:XC)(f:α->Mo β):aq (za x:Mo α) f=za x:=rfl
theorem eM(m:Mo α)(f:α->Mo β)(g:β->Mo γ):aq (aq m f) g=aq m fun a=>aq (f a) g:=by
 funext ph;unfold aq;cases m ph <;> rfl
theorem Cv{c:Prop}[Decidable c](a b:Mo α)(f:α->Mo β):aq (if c then a else b) f=if c then aq a f else aq b f:=by split <;> rfl
theorem bX{m:Mo α}{f:α->Mo β}{ph ph':PH}{a:α}(h:m ph=.ok a ph'):aq m f ph=f a ph':=by unfold aq;rw[h]
theorem Di(a:α)(ph:PH):aA a ph=.ok a ph:=rfl
theorem Dj(x:XC)(ph:PH):(za x:Mo α) ph=.ex x ph:=rfl
theorem BQ(a:α):lift (ret a)=aA a:=rfl
theorem Dk{c:Prop}[Decidable c](a b:Mo α)(ph:PH):(if c then a else b) ph=if c then a ph else b ph:=by split <;> rfl
end
theorem Dm(w:W)(σ:aI):ae 0 (some w::σ)=aA w:=rfl
theorem Dn(i:Nat)(x:Option W)(σ:aI):ae (i+1) (x::σ)=ae i σ:=rfl
theorem Ec(w:W)(σ:aI):eC w σ=aA w:=rfl
theorem Ed(i:Nat)(w:W)(σ:aI):gN i w σ=aA (σ.set i (some w)):=rfl
theorem n8(f:W->W->Po W)(a b:EM)(σ:aI):af f a b σ=aq (a σ) fun x=>aq (b σ) fun y=>lift (f x y):=rfl
theorem Do(f:W->Po W)(a:EM)(σ:aI):jg f a σ=aq (a σ) fun x=>lift (f x):=rfl
theorem oC(m:EM)(σ:aI):eT m σ=aq (m σ) fun w=>lift (match w with
 | .bl b=>ret b
 | _=>d9):=rfl
theorem Cw(m:EM)(σ:aI):eX m σ=aq (m σ) fun w=>lift (mQ w):=rfl
theorem BR(a b:TM)(σ:aI):i0 a b σ=aq (a σ) fun c=>if c=true then b σ else aA false:=rfl
theorem Cy(a b:TM)(σ:aI):er a b σ=aq (a σ) fun c=>if c=true then aA true else b σ:=rfl
theorem BS(a:TM)(σ:aI):eU a σ=aq (a σ) fun c=>aA (!c):=rfl
theorem Dp(t:TM)(a b:EM)(σ:aI):X5 t a b σ=aq (t σ) fun c=>if c=true then a σ else b σ:=rfl
theorem nY(a b:SM)(σ:aI):aF a b σ=aq (a σ) fun f=>match f with
 | .nx aC=>b aC
 | f=>aA f:=rfl
theorem rQ(t:TM)(a b:SM)(σ:aI):bp t a b σ=aq (t σ) fun c=>if c=true then a σ else b σ:=rfl
theorem rE(e:EM)(σ:aI):aT e σ=aq (e σ) fun w=>aA (.rt w):=rfl
theorem BU(σ:aI):bB σ=aA (.nx σ):=rfl
theorem rj(e:EM)(σ:aI):eV e σ=aq (e σ) fun _=>aA (.nx σ):=rfl
theorem rF(e:EM)(g:GM)(σ:aI):aX e g σ=aq (e σ) fun w=>aq (g w σ) fun aC=>aA (.nx aC):=rfl
theorem BV(f:List W->Mo W)(a:AM)(σ:aI):bw f a σ=aq (a σ) f:=rfl
theorem Bf(f:List W->Po W)(a:AM)(σ:aI):bo f a σ=aq (a σ) fun xs=>lift (f xs):=rfl
theorem rG(σ:aI):aj σ=aA []:=rfl
theorem rl(e:EM)(r:AM)(σ:aI):ah e r σ=aq (e σ) fun w=>aq (r σ) fun ws=>aA (w::ws):=rfl
theorem Cz(a:AM)(σ:aI):c6 a σ=aq (a σ) fun ws=>lift (iA ws):=rfl
theorem wI(a:AM)(σ:aI):bP a σ=aq (a σ) fun ws=>lift (oP ws):=rfl
theorem Dq(c:String)(m:EM)(σ:aI):fE c m σ=aq (m σ) fun w=>lift (gx c w):=rfl
theorem CA(a b:EM)(σ:aI):k6 a b σ=aq (a σ) fun w=>match w with
 | .bl c=>if c=true then b σ else aA (.bl false)
 | _=>ed:=rfl
theorem Dr(a b:EM)(σ:aI):X4 a b σ=aq (a σ) fun w=>match w with
 | .bl c=>if c=true then aA (.bl true) else b σ
 | _=>ed:=rfl
theorem CB(a:EM)(σ:aI):tE a σ=aq (a σ) fun w=>match w with
 | .bl c=>aA (.bl (!c))
 | _=>ed:=rfl
theorem Bh(f f':W->W->Po W)(a b c:EM)(σ:aI):gG f f' a b c σ=aq (a σ) fun x=>aq (b σ) fun y=>aq (lift (f x y)) fun z=>match z with
 | .bl k=>if k=true then aq (c σ) fun u=>lift (f' y u) else aA (.bl false)
 | _=>ed:=rfl
theorem nO(ty:W->PH->Bool)(f:W->List W->Po W)(o:EM)(a:AM)(σ:aI):cJ ty f o a σ=aq (o σ) fun x=>aq (lift (oQ (ty x))) fun _=>aq (a σ) fun xs=>lift (f x xs):=rfl
theorem CC(w:W):dX (.rt w)=aA w:=rfl
theorem CD(σ:aI):dX (.nx σ)=aA .aO:=rfl
theorem gn(b:SM)(n:Nat)(x:W):fM b n 1 [x]=aq (b (some x::aay (n-1) none)) dX:=rfl
theorem jQ(b:SM)(n:Nat)(x y:W):fM b n 2 [x,y]=aq (b (some x::some y::aay (n-2) none)) dX:=rfl
theorem jR(b:SM)(n:Nat)(x y z:W):fM b n 3 [x,y,z]=aq (b (some x::some y::some z::aay (n-3) none)) dX:=rfl
theorem oU(b:SM)(n:Nat)(x y z u:W):fM b n 4 [x,y,z,u]=aq (b (some x::some y::some z::some u::aay (n-4) none)) dX:=rfl
theorem Ee(i j:Int):lift (addW (.int i) (.int j))=aA (.int (i+j)):=rfl
theorem Ef(i j:Int):lift (eY (.int i) (.int j))=aA (.int (i-j)):=rfl
theorem Eg(i:Int):lift (iB (.int i))=aA (.int (-i)):=rfl
theorem Wu{i j:Int}(h:mulC i j=true):lift (mR (.int i) (.int j))=aA (.int (i*j)):=by
 unfold mR;simp only[h,if_true];rfl
theorem Wv{i j:Int}(h:j≠0):lift (aZ (.int i) (.int j))=aA (.int (i.fmod j)):=by
 unfold aZ mO;simp only[ne_eq,h,not_false_eq_true,decide_true,if_true];rfl
theorem Ww{i j:Int}(h:j≠0)(h':j.natAbs<2 ^ 64):lift (bx (.int i) (.int j))=aA (.int (i.fdiv j)):=by
 unfold bx mO;simp only[ne_eq,h,h',not_false_eq_true,decide_true,afw,if_true];rfl
theorem yn(i j:Int):lift (iI (.int i) (.int j))=aA (.bl (decide (i<j))):=rfl
theorem oV(i j:Int):lift (jh (.int i) (.int j))=aA (.bl (decide (i<=j))):=rfl
theorem tP(i j:Int):lift (uj (.int i) (.int j))=aA (.bl (decide (j<i))):=rfl
theorem E0(i j:Int):lift (Yg (.int i) (.int j))=aA (.bl (decide (j<=i))):=rfl
theorem Eh(i:Int):lift (EU [.int i])=aA (.int i):=rfl
theorem Ds(b:Bool):lift (EU [.bl b])=aA (.int (if b then 1 else 0)):=rfl
theorem Ei(i:Int):lift (Xl [.int i])=aA (.int (if i<0 then -i else i)):=rfl
theorem Ej(i j:Int):lift (Wl [.int i,.int j])=aA (.int (if j>i then j else i)):=rfl
theorem Ek(i j:Int):lift (Wm [.int i,.int j])=aA (.int (if j<i then j else i)):=rfl
theorem E1(b:Bool):lift (match W.bl b with
 | .bl b=>ret b
 | _=>d9)=aA b:=rfl
theorem Dt(b:Bool):lift (mQ (.bl b))=aA b:=rfl
theorem Du(i:Int):lift (mQ (.int i))=aA (i != 0):=rfl
theorem Dv(ws:List W):lift (mQ (.tup ws))=aA (!ws.isEmpty):=rfl
theorem sD(i j:Int):lift (bA (.int i) (.int j))=aA (.bl (decide (i=j))):=by
 funext ph;unfold bA dR lift;simp only[dat];rfl
theorem mF(i j:Int):lift (dg (.int i) (.int j))=aA (.bl (!decide (i=j))):=by
 funext ph;unfold dg dR lift;simp only[dat];rfl
theorem so(s:String):ach (aae s)=true:=by
 unfold ach;rw[adk];simp only[aeB,abn,acY,decide_eq_true_eq];rintro n ⟨c,_,rfl⟩;have h:=c.valid;simp only[UInt32.isValidChar,Nat.isValidChar] at h;show c.val.toNat<_;omega
theorem xh{a b:String}:aae a=aae b↔a=b:=by
 constructor
 ·intro h;rw[adk,adk] at h;have h:=congrArg afJ (Str.mk.inj h);simp only[List.toList_toArray] at h;have mi:∀l l':List Char,l.map Char.toNat=l'.map Char.toNat->l=l':=by
   intro l
   induction l with
   | nil=>intro l' h;cases l' with
    | nil=>rfl
    | cons _ _=>cases h
   | cons x l ih=>intro l' h;cases l' with
    | nil=>cases h
    | cons y l'=>
     have:=afv h;rw[ih l' this.2,Char.ext (UInt32.toNat_inj.mp this.1)]
  have q:a.toList=b.toList:=mi _ _ h;exact String.toList_inj.mp q
 ·intro h;rw[h]
theorem Wx{a b:Str}(ha:ach a=true)(hb:ach b=true):lift (bA (.str a) (.str b))=aA (.bl (decide (a=b))):=by
 funext ph;unfold bA dR lift;simp only[dat,ha,hb,if_true];rfl
theorem Wy{a b:Str}(ha:ach a=true)(hb:ach b=true):lift (dg (.str a) (.str b))=aA (.bl (!decide (a=b))):=by
 funext ph;unfold dg dR lift;simp only[dat,ha,hb,if_true];rfl
theorem sE(a b:String):lift (bA (.str (aae a)) (.str (aae b)))=aA (.bl (decide (a=b))):=by
 rw[Wx (so a) (so b)];simp only[xh]
theorem xJ(a b:String):lift (dg (.str (aae a)) (.str (aae b)))=aA (.bl (!decide (a=b))):=by
 rw[Wy (so a) (so b)];simp only[xh]
theorem El(a b:Bool):lift (dg (.bl a) (.bl b))=aA (.bl (!(a==b))):=by
 funext ph;unfold dg dR lift;simp only[dat];rfl
theorem oW(c:String)(w:W)(t:String)(h:∀ph,ox w ph=some t):lift (gx c w)=aA (.bl (dC t c)):=by
 funext ph;unfold lift gx;rw[h];rfl
theorem E2(c:String)(i:Int):lift (gx c (.int i))=aA (.bl (dC "int" c)):=oW _ _ _ fun _=>rfl
theorem E3(c:String)(b:Bool):lift (gx c (.bl b))=aA (.bl (dC "bool" c)):=oW _ _ _ fun _=>rfl
theorem E4(c:String):lift (gx c .aO)=aA (.bl (dC "NoneType" c)):=oW _ _ _ fun _=>rfl
theorem E5(c:String)(x:Str):lift (gx c (.str x))=aA (.bl (dC "str" c)):=oW _ _ _ fun _=>rfl
theorem E6(c:String)(ws:List W):lift (gx c (.tup ws))=aA (.bl (dC "tuple" c)):=oW _ _ _ fun _=>rfl
theorem xi{c:String}(h:ph[i]? =some (.lst ws)):lift (gx c (.ref i)) ph=.ok (.bl (dC "list" c)) ph:=by
 unfold lift gx ox;simp only[h]
theorem E7:dC "int" "int"=true:=by decide +kernel
theorem E8:dC "int" "bool"=false:=by decide +kernel
theorem E9:dC "bool" "int"=true:=by decide +kernel
theorem Fb:dC "bool" "bool"=true:=by decide +kernel
theorem Fc:dC "NoneType" "int"=false:=by decide +kernel
theorem Fd:dC "str" "int"=false:=by decide +kernel
theorem Fe:dC "list" "int"=false:=by decide +kernel
theorem Ff:dC "list" "list"=true:=by decide +kernel
theorem Fg:dC "tuple" "tuple"=true:=by decide +kernel
theorem Dw:lift (iA [])=aA (.tup []):=rfl
theorem Dx(a:W):lift (iA [a])=aA (.tup [a]):=rfl
theorem Dy(a b:W):lift (iA [a,b])=aA (.tup [a,b]):=rfl
theorem Dz(a b c:W):lift (iA [a,b,c])=aA (.tup [a,b,c]):=rfl
theorem DA(a b c d:W):lift (iA [a,b,c,d])=aA (.tup [a,b,c,d]):=rfl
theorem DB(a b c d e:W):lift (iA [a,b,c,d,e])=aA (.tup [a,b,c,d,e]):=rfl
theorem xK(a:W)(l:List W):lift (df (.tup (a::l)) (.int 0))=aA a:=by
 funext ph;unfold lift df ck fD;simp[cB,aA]
theorem Em(a b:W)(l:List W):lift (df (.tup (a::b::l)) (.int 1))=aA b:=by
 funext ph;unfold lift df ck fD;simp[cB,aA];rw[if_pos (by omega)];simp
theorem En(a b c:W)(l:List W):lift (df (.tup (a::b::c::l)) (.int 2))=aA c:=by
 funext ph;unfold lift df ck fD;simp[cB,aA];rw[if_pos (by omega)];simp
theorem Eo(a b c d:W)(l:List W):lift (df (.tup (a::b::c::d::l)) (.int 3))=aA d:=by
 funext ph;unfold lift df ck fD;simp[cB,aA];rw[if_pos (by omega)];simp
theorem Ep(a b c d e:W)(l:List W):lift (df (.tup (a::b::c::d::e::l)) (.int 4))=aA e:=by
 funext ph;unfold lift df ck fD;simp[cB,aA];rw[if_pos (by omega)];simp
noncomputable def mG:W->Bool
 | .aO=>true
 | _=>false
theorem DC(w:W):lift (D4 w .aO)=aA (.bl (!mG w)):=by
 unfold D4;cases w <;> rfl
theorem Er(w:W):lift (ET w .aO)=aA (.bl (mG w)):=by
 unfold ET;cases w <;> rfl
theorem CF(i:Int):mG (.int i)=false:=rfl
theorem CG:mG .aO=true:=rfl
theorem CH(ws:List W):mG (.tup ws)=false:=rfl
theorem CI(i:Nat):mG (.ref i)=false:=rfl
noncomputable def Ex(ph ph':PH):Prop:=∃m,ph'=ph++m
theorem Ex.refl(ph:PH):Ex ph ph:=⟨[],by simp⟩
theorem Ex.trans{a b c:PH}(h:Ex a b)(h':Ex b c):Ex a c:=by
 obtain⟨m,rfl⟩:=h;obtain⟨m',rfl⟩:=h';exact⟨m++m',by simp⟩
theorem Ex.one(ph:PH)(o:PO):Ex ph (ph++[o]):=⟨[o],rfl⟩
theorem Ex.get{a b:PH}(h:Ex a b){o:PO}(e:a[i]? =some o):b[i]? =some o:=by
 obtain⟨m,rfl⟩:=h;rw[aaU (aac.mp e).1];exact e
theorem Ex.len{a b:PH}(h:Ex a b):a.length<=b.length:=by obtain⟨m,rfl⟩:=h;simp
theorem bV(ph:PH)(o:PO):(ph++[o])[ph.length]? =some o:=by simp
theorem small(h:n<=1000000):n<=sizeLine:=abl h (by decide)
section
variable{β:Type}{ph:PH}{i:Nat}{ws:List W}
theorem mr(ws:List W)(ph:PH)(h:ws.length<=aas):lift (oP ws) ph=.ok (.ref ph.length) (ph++[.lst ws]):=by
 unfold lift oP;rw[if_pos h]
theorem UQ(h:ph[i]? =some (.lst ws)){k:Int}{w:W}(hk:ck ws k=some w):lift (df (.ref i) (.int k)) ph=.ok w ph:=by
 unfold lift df;simp only[cB,h,abe,hk,aaM]
theorem fq(h:ph[i]? =some (.lst ws)):lift (bG [.ref i]) ph=.ok (.int ws.length) ph:=by
 unfold lift bG;simp only[cB,h,aaM]
theorem CJ(h:ph[i]? =some (.lst ws)):dF (.ref i) ph=true:=by unfold dF;simp only[h]
theorem CK(h:ph[i]? =some (.lst ws)):lift (oQ (dF (.ref i))) ph=.ok () ph:=by
 unfold lift oQ;rw[if_pos (CJ h)]
theorem vv(h:ph[i]? =some (.lst ws))(hz:ws.length<aas)(w:W):lift (dJ (.ref i) [w]) ph=.ok .aO (ph.set i (.lst (ws++[w]))):=by
 unfold lift dJ;simp only[h,hz,if_true]
theorem QI(h:ph[i]? =some (.lst ws)):lift (mz [.ref i]) ph=.ok (.ref ph.length) (ph++[.lst ws]):=by
 unfold lift mz;simp only[cB,h]
theorem wJ{j:Nat}{us:List W}(h:ph[i]? =some (.lst ws))(h':ph[j]? =some (.lst us))(hz:ws.length+us.length<=aas):lift (addW (.ref i) (.ref j)) ph=.ok (.ref ph.length) (ph++[.lst (ws++us)]):=by
 unfold lift addW;simp only[h,h',hz,if_true]
end
theorem nH(a b:Int)(h:0<b):0<=a.fmod b/\a.fmod b<b:=by
 rw[Int.fmod_eq_emod_of_nonneg _ (by omega)];exact⟨Int.emod_nonneg _ (by omega),Int.emod_lt_of_pos _ h⟩
theorem gg(ws:List α)(k:Nat)(h:k<ws.length):ck ws (k:Int)=ws[k]? :=by
 unfold ck fD;rw[if_pos (by omega),if_pos (by omega)];rfl
theorem XA(ws:List W):lift (bG [.fl ws])=aA (.int ws.length):=by funext ph;rfl
theorem YR{i:Int}{w:W}(h:ck ws i=some w):lift (df (.fl ws) (.int i))=aA w:=by
 funext ph;unfold lift df;simp only[cB,abe,h,aaM];rfl
theorem BW{chk:PH->Bool}{g:GM}{b:SM}(R:W->PH->Prop)(I:Nat->aI->PH->Prop):∀(items:List W) (k:Nat) (σ:aI) (ph:PH),
  (∀j σ ph,I j σ ph->chk ph=true) →
  (∀j x σ ph,items[j]? =some x->I (k+j) σ ph->∃σ1 ph1,g x σ ph=.ok σ1 ph1/\∃f ph2,b σ1 ph1=.ok f ph2/\((∃bJ,(f=.nx bJ\/f=.ct bJ)/\I (k+j+1) bJ ph2)\/∃w,f=.rt w/\R w ph2)) →
  I k σ ph->(∃aC ph',dB chk g b items σ ph=.ok (.nx aC) ph'/\I (k+items.length) aC ph')\/∃w ph',dB chk g b items σ ph=.ok (.rt w) ph'/\R w ph'
 | [],k,σ,ph,hc,hs,h0=>by
  refine .inl ⟨σ,ph,?_,h0⟩;unfold dB;rw[if_pos (hc _ _ _ h0)]
 | x::xs,k,σ,ph,hc,hs,h0=>by
  obtain⟨σ1,ph1,e1,f,ph2,e2,h⟩:=hs 0 x σ ph rfl h0;have e:dB chk g b (x::xs) σ ph=(match f with
   | .nx aC=>dB chk g b xs aC
   | .ct aC=>dB chk g b xs aC
   | .bk aC=>aA (.nx aC)
   | .rt w=>aA (.rt w)) ph2:=by
   conv=>lhs;unfold dB
   rw[if_pos (hc _ _ _ h0),bX e1,bX e2]
   all_goals (cases f <;> rfl)
  rcases h with⟨bJ,hf,hI⟩ | ⟨w,rfl,hR⟩
  ·have e:dB chk g b (x::xs) σ ph=dB chk g b xs bJ ph2:=by
    rcases hf with rfl | rfl <;> exact e
   rw[e];have ih:=BW R I xs (k+1) bJ ph2 hc (fun j y σ ph hj hI=>by
    have:=hs (j+1) y σ ph (by simpa using hj) (by rw[show k+(j+1)=k+1+j by omega];exact hI);rw[show k+(j+1)+1=k+1+j+1 by omega] at this;exact this) hI
   rw[show k+1+xs.length=k+(x::xs).length by simp;omega] at ih;exact ih
  ·exact .inr ⟨w,ph2,e,hR⟩
theorem iQ{chk:PH->Bool}{g:GM}{b:SM}(I:Nat->aI->PH->Prop)(items:List W)(σ:aI)(ph:PH)
  (hc:∀j σ ph,I j σ ph->chk ph=true)
  (hs:∀j x σ ph,items[j]? =some x->I j σ ph->∃σ1 ph1,g x σ ph=.ok σ1 ph1/\∃f ph2,b σ1 ph1=.ok f ph2/\∃bJ,(f=.nx bJ\/f=.ct bJ)/\I (j+1) bJ ph2)
  (h0:I 0 σ ph):∃aC ph',dB chk g b items σ ph=.ok (.nx aC) ph'/\I items.length aC ph':=by
 have:=BW (fun _ _=>False) I items 0 σ ph hc (fun j x σ ph hj hI=>by
  rw[acC] at hI ⊢;obtain⟨σ1,ph1,e1,f,ph2,e2,h⟩:=hs j x σ ph hj hI;exact⟨σ1,ph1,e1,f,ph2,e2,.inl h⟩) h0
 rw[acC] at this
 rcases this with h | ⟨_,_,_,h⟩
 ·exact h
 ·exact h.elim
theorem qQ{chk:PH->Bool}{g:GM}{c:TM}{e:EM}(L:Nat)(I:Nat->List W->aI->PH->Prop):∀(items:List W) (k:Nat) (acc:List W) (σ:aI) (ph:PH),
  (∀j acc σ ph,I j acc σ ph->chk ph=true) →
  (∀j x acc σ ph,items[j]? =some x->I (k+j) acc σ ph->∃σ1 ph1,g x σ ph=.ok σ1 ph1/\∃t ph2,c σ1 ph1=.ok t ph2/\((t=false/\I (k+j+1) acc σ1 ph2)\/(t=true/\∃w gy,e σ1 ph2=.ok w gy/\gy[L]? =some (.lst acc)/\acc.length<aas/\I (k+j+1) (acc++[w]) σ1 (gy.set L (.lst (acc++[w])))))) →
  I k acc σ ph->∃mX aC ph',dM chk g c e L items σ ph=.ok () ph'/\I (k+items.length) mX aC ph'
 | [],k,acc,σ,ph,hc,hs,h0=>by
  refine⟨acc,σ,ph,?_,h0⟩;unfold dM;rw[if_pos (hc _ _ _ _ h0)]
 | x::xs,k,acc,σ,ph,hc,hs,h0=>by
  obtain⟨σ1,ph1,e1,t,ph2,e2,h⟩:=hs 0 x acc σ ph rfl h0;have next:∀yo g6,I (k+1) yo σ1 g6->∃mX aC ph',dM chk g c e L xs σ1 g6=.ok () ph'/\I (k+(x::xs).length) mX aC ph':=fun yo g6 hI=>by
   have ih:=qQ L I xs (k+1) yo σ1 g6 hc (fun j y acc σ ph hj hI=>by
    have:=hs (j+1) y acc σ ph (by simpa using hj) (by rw[show k+(j+1)=k+1+j by omega];exact hI);rw[show k+(j+1)+1=k+1+j+1 by omega] at this;exact this) hI
   rw[show k+1+xs.length=k+(x::xs).length by simp;omega] at ih;exact ih
  have n1:fR (g x σ) ph=.ok σ1 ph1:=by unfold fR;rw[e1]
  have n2:fR (c σ1) ph1=.ok t ph2:=by unfold fR;rw[e2]
  rcases h with⟨rfl,hI⟩ | ⟨rfl,w,gy,e3,hL,hz,hI⟩
  ·have e:dM chk g c e L (x::xs) σ ph=dM chk g c e L xs σ1 ph2:=by
    conv=>lhs;unfold dM
    rw[if_pos (hc _ _ _ _ h0),bX n1,bX n2];rfl
   rw[e];exact next _ _ hI
  ·have n3:fR (e σ1) ph2=.ok w gy:=by unfold fR;rw[e3]
   have e:dM chk g c e L (x::xs) σ ph=dM chk g c e L xs σ1 (gy.set L (.lst (acc++[w]))):=by
    conv=>lhs;unfold dM
    rw[if_pos (hc _ _ _ _ h0),bX n1,bX n2];show aq (fR (e σ1)) _ ph2=_;rw[bX n3];exact bX (vv hL hz w)
   rw[e];exact next _ _ hI
theorem vX(im:IM)(cap:List (Option Nat))(g:GM)(c:TM)(e:EM)(σ:aI):dn im cap g c e σ=aq (im σ) fun r ph=>aq (dM r.2 g c e ph.length r.1 (fA cap σ)) (fun _=>aA (.ref ph.length)) (ph++[.lst []]):=rfl
theorem R8(ph m:PH)(o o':PO):(ph++[o]++m).set ph.length o'=ph++[o']++m:=by
 rw[acI,adu _ _ (aaj _)];simp
variable{σ:aI}
theorem rm(as:List α)(h:α->W){im:IM}{cap:List (Option Nat)}{g:GM}{c:TM}{e:EM}{ph0:PH}{chk:PH->Bool}(lw:im σ ph0=.ok (as.map h,chk) ph)(pF:∀ph',Ex ph ph'->chk ph'=true)(hz:as.length<=aas)
  (F:α->Option W) (S:aI->Prop) (h0:S (fA cap σ))
  (step:∀x∈as,∀σ H,S σ->Ex ph H->∃σ1,g (h x) σ H=.ok σ1 H/\S σ1/\∃t H1,c σ1 H=.ok t H1/\Ex H H1/\((t=false/\F x=none)\/(t=true/\∃w H2,e σ1 H1=.ok w H2/\Ex H1 H2/\F x=some w))) :
  ∃ph',dn im cap g c e σ ph0=.ok (.ref ph.length) ph'/\Ex (ph++[.lst (as.filterMap F)]) ph':=by
 rw[vX,bX lw];have key:=qQ (chk:=chk) (g:=g) (c:=c) (e:=e) ph.length (fun k acc σ H=>S σ/\acc=(as.take k).filterMap F/\Ex (ph++[.lst acc]) H) (as.map h) 0 [] (fA cap σ) (ph++[.lst []])
  (fun j acc σ H hI=>pF _ ((Ex.one _ _).trans hI.2.2))
  (fun j y acc σ H hj hI=>by
   rw[acC] at hI ⊢;obtain⟨hS,ha,hE⟩:=hI;rw[aak] at hj;cases hx:as[j]? with
   | none=>rw[hx] at hj;cases hj
   | some x=>
    rw[hx] at hj;cases hj;have tk:(as.take (j+1)).filterMap F=acc++(F x).toList:=by
     rw[List.take_add_one,hx,List.filterMap_append,ha];cases hF:F x <;> simp[hF]
    obtain⟨σ1,e1,eG,t,H1,e2,x2,h⟩:=step x (aaK hx) σ H hS ((Ex.one _ _).trans hE);refine⟨σ1,H,e1,t,H1,e2,?_⟩
    rcases h with⟨rfl,hF⟩ | ⟨rfl,w,H2,e3,x3,hF⟩
    ·exact .inl ⟨rfl,eG,by rw[tk,hF];simp,hE.trans x2⟩
    ·have x4:=(hE.trans x2).trans x3;refine .inr ⟨rfl,w,H2,e3,x4.get (bV _ _),?_,eG,by rw[tk,hF];rfl,?_⟩
     ·have hl:acc.length<=j:=by
       rw[ha];exact abl (List.length_filterMap_le _ _) (by simp;omega)
      have:=(aac.mp hx).1;omega
     ·obtain⟨m,rfl⟩:=x4;rw[R8];exact⟨m,rfl⟩)
  ⟨h0,by simp,Ex.refl _⟩
 obtain⟨acc,aC,ph',e1,_,ha,hE⟩:=key;refine⟨ph',?_,?_⟩
 ·show aq (dM chk g c e ph.length (as.map h) (fA cap σ)) _ _=_;rw[bX e1];rfl
 ·rw[acC,aag,aeC] at ha;rw[<- ha];exact hE
theorem rH{α β:Type}(f:α->β):∀l:List α,l.filterMap (fun a=>some (f a))=l.map f
 | []=>rfl
 | a::l=>by
  rw[List.filterMap_cons_some (f:=fun a=>some (f a)) (b:=f a) rfl,rH f l];rfl
theorem R9{w:W}(h:(d5 ws)[i]? =some w):∃x,ws[i]? =some x/\w=.tup [.int i,x]:=by
 unfold d5 at h;rw[aak] at h;cases q:(aaP ws.length)[i]? with
 | none=>rw[q] at h;cases h
 | some k=>
  rw[q] at h;obtain⟨hi,e⟩:=aac.mp q;rw[adX] at e;subst e;rw[aaZ] at hi;cases h;exact⟨ws[i],by simp[hi],by simp[hi]⟩
theorem Sa(ws:List W):(d5 ws).length=ws.length:=by unfold d5;simp
theorem qR(h:m σ ph=.ok (.ref i) ph')(hi:ph'[i]? =some (.lst ws)):fO m σ ph=.ok (ws,fun p=>decide (p[i]? =some (.lst ws))) ph':=by
 unfold fO;rw[bX h];unfold lift sA jN;simp only[hi]
theorem rR{m:AM}{j:Int}(h:m σ ph=.ok [.int j] ph')(h1: -(2 ^ 62)<=j)(h2:j<2 ^ 62):fX m σ ph=.ok (fw 0 j.toNat,fun _=>true) ph':=by
 unfold fX;rw[bX h];unfold lift yi;simp only[h1,h2,and_self,if_true]
theorem vE{m:AM}(h:m σ ph=.ok [.ref i] ph')(hi:ph'[i]? =some (.lst ws)):gP m σ ph=.ok (d5 ws,fun p=>decide (p[i]? =some (.lst ws))) ph':=by
 unfold gP;rw[bX h];unfold lift xF jN;simp only[hi,aaM]
theorem vY{lo:Int}{k:Nat}{w:W}(h:(fw lo n)[k]? =some w):k<n/\w=.int (lo+(k:Int)):=by
 unfold fw at h;rw[aak] at h;cases q:(aaP n)[k]? with
 | none=>rw[q] at h;cases h
 | some j=>
  rw[q] at h;obtain⟨hi,e⟩:=aac.mp q;rw[adX] at e;subst e;rw[aaZ] at hi;cases h;exact⟨hi,rfl⟩
theorem vZ(lo:Int)(n:Nat):(fw lo n).length=n:=by unfold fw;simp
variable{ds:List acN}
theorem UR{x:W}{d:acN}(h1:a9 (dat ph 40) ws=some ds)(h2:dat ph 40 x=some d):lift (ji x (.tup ws)) ph=.ok (.bl (ds.any fun e=>aaV e d)) ph:=by
 unfold lift ji inD;simp only[cB,h1,h2,aaM]
theorem xM(a b:Str):aaV (.str a) (.str b)=decide (a=b):=by
 unfold aaV;rfl
theorem iR{α β γ:Type}(f:β->Option γ)(g:α->β)(h:α->γ)(hf:∀a,f (g a)=some (h a)):∀l:List α,a9 f (l.map g)=some (l.map h)
 | []=>rfl
 | a::l=>by
  show a9 f (g a::l.map g)=_;unfold a9;rw[hf a,iR f g h hf l];rfl
theorem CL(x:String)(ss:List String):lift (ji (.str (aae x)) (.tup (ss.map fun s=>.str (aae s))))=aA (.bl (ss.any fun s=>decide (s=x))):=by
 funext ph
 rw[UR (iR _ _ (fun s=>afI (aae s)) (fun s=>by simp only[dat,so,if_true]) ss) (d:=.str (aae x)) (by simp only[dat,so,if_true])];rw[afK];simp only[Function.comp_def,xM,xh];rfl
theorem Es(x a b:String):lift (ji (.str (aae x)) (.tup [.str (aae a),.str (aae b)]))=aA (.bl (decide (a=x)||decide (b=x))):=by
 have:=CL x [a,b];simp only[aaB,adq,abp,List.any_nil,aer] at this;exact this
theorem xN(x a b c:String):lift (ji (.str (aae x)) (.tup [.str (aae a),.str (aae b),.str (aae c)]))=aA (.bl (decide (a=x)||(decide (b=x)||decide (c=x)))):=by
 have:=CL x [a,b,c];simp only[aaB,adq,abp,List.any_nil,aer] at this;exact this
theorem Sb{bs:List Bool}(h:ph[i]? =some (.lst (bs.map W.bl))):lift (k7 [.ref i]) ph=.ok (.bl (bs.all id)) ph:=by
 unfold lift k7 mT;simp only[CJ h,if_true,cB,h,abe,iR uo W.bl id (fun _=>rfl),aaM,List.map_id_fun,id]
theorem xO(ws:List W)(y:W):ao (.tup ws) y=df (.tup ws) y:=rfl
theorem Et(ws:List W)(y:W):ao (.fl ws) y=df (.fl ws) y:=rfl
theorem xP(x:Str)(y:W):ao (.str x) y=df (.str x) y:=rfl
theorem xQ(x:W)(ws:List W):fV x (.tup ws)=ji x (.tup ws):=rfl
theorem Eu(x:W)(ws:List W):fV x (.fl ws)=ji x (.fl ws):=rfl
theorem DD(x:W)(ws:List W):jb x (.tup ws)=tK x (.tup ws):=rfl
theorem xj(i:Int)(y:W):eE (.int i) y=mR (.int i) y:=by
 funext ph;unfold eE;cases y <;> rfl
theorem we(o i:EM)(v:W)(σ:aI):oA o i v σ=aq (o σ) fun ow=>aq (i σ) fun iw=>aq (lift (oT ow iw v)) fun _=>aA σ:=rfl
section
variable{ph:PH}{i:Nat}{ws:List W}{kws:List (W×W)}
theorem xR(h:ph[i]? =some (.lst ws)):eW (.ref i) ph=none:=by unfold eW;simp only[h]
theorem xS(h:ph[i]? =some (.a8 kws)):eW (.ref i) ph=some (i,kws):=by unfold eW;simp only[h]
theorem gF(h:ph[i]? =some (.lst ws)){k:Int}{w:W}(hk:ck ws k=some w):lift (ao (.ref i) (.int k)) ph=.ok w ph:=by
 have:=UQ h hk;unfold lift at this ⊢;unfold ao;rw[xR h];exact this
theorem Sd(h:ph[i]? =some (.a8 kws)){k w:W}(hk:d7 kws k=true)(hw:gh kws k=some w):lift (ao (.ref i) k) ph=.ok w ph:=by
 unfold lift ao;simp only[xS h,hk,if_true,hw,aaM]
theorem QJ{ds:List acN}{x:W}{d:acN}(h:ph[i]? =some (.lst ws))(h1:a9 (dat ph 40) ws=some ds)(h2:dat ph 40 x=some d):lift (jb x (.ref i)) ph=.ok (.bl (!(ds.any fun e=>aaV e d))) ph:=by
 unfold lift jb;rw[xR h];unfold tK inD;simp only[cB,h,h1,h2,aaM]
theorem QK(h:ph[i]? =some (.a8 kws)){k:W}(hk:d7 kws k=true)(hz:kws.length<aas)(v:W):lift (oT (.ref i) k v) ph=.ok () (ph.set i (.a8 (dc kws k v))):=by
 unfold lift oT;simp only[xS h,hk,hz,and_self,if_true]
end
theorem CM(σ:aI):EY σ=lift newD:=rfl
theorem tQ(b:SM)(n:Nat)(x y z u v:W):fM b n 5 [x,y,z,u,v]=aq (b (some x::some y::some z::some u::some v::aay (n-5) none)) dX:=rfl
theorem Fh(b:SM)(n:Nat)(x y z u v w:W):fM b n 6 [x,y,z,u,v,w]=aq (b (some x::some y::some z::some u::some v::some w::aay (n-6) none)) dX:=rfl
theorem oD(ph:PH)(n:Nat)(i:Int):dat ph n (.int i)=some (.int i):=by cases n <;> rfl
theorem Aj:∀ds:List acN,(∀d∈ds,aaV d d=true)->acJ ds ds=true
 | [],_=>by unfold acJ;rfl
 | d::ds,h=>by
  simp only[acJ,h d (by simp),Aj ds (fun e he=>h e (by simp[he])),afw]
theorem BX{α β:Type}{f:α->Option β}:∀{l:List α} {m:List β},a9 f l=some m->∀b∈m,∃a∈l,f a=some b
 | [],m,h,b,hb=>by cases h;cases hb
 | a::l,m,h,b,hb=>by
  unfold a9 at h;split at h
  ·rename_i b' m' e1 e2;cases h
   rcases aav.mp hb with rfl | hb
   ·exact⟨a,by simp,e1⟩
   ·obtain⟨c,hc,e⟩:=BX e2 b hb;exact⟨c,by simp[hc],e⟩
  ·cases h
theorem BY:∀(n:Nat) (w:W) (d:acN),dat ph n w=some d->aaV d d=true:=by
 intro n
 induction n with
 | zero=>
  intro w d h;cases w <;> simp only[dat] at h <;> first | (cases h;simp[aaV];done) | skip
  ·split at h
   ·cases h;simp[aaV]
   ·cases h
  all_goals cases h
 | succ n ih=>
  have key:∀(ws:List W) (ds:List acN),a9 (dat ph n) ws=some ds->acJ ds ds=true:=fun ws ds h=>
   Aj ds fun d hd=>let ⟨w,_,e⟩:=BX h d hd;ih w d e
  intro w d h;cases w with
  | aO=>cases h;simp[aaV]
  | bl b=>cases h;simp[aaV]
  | int i=>cases h;simp[aaV]
  | str x=>
   simp only[dat] at h;split at h
   ·cases h;simp[aaV]
   ·cases h
  | tup ws=>
   simp only[dat] at h;cases q:a9 (dat ph n) ws with
   | none=>rw[q] at h;cases h
   | some ds=>rw[q] at h;cases h;simp only[aaV,key ws ds q]
  | fl ws=>
   simp only[dat] at h;cases q:a9 (dat ph n) ws with
   | none=>rw[q] at h;cases h
   | some ds=>rw[q] at h;cases h;simp only[aaV,key ws ds q]
  | ref i=>
   simp only[dat] at h;split at h
   ·rename_i ws hw;cases q:a9 (dat ph n) ws with
    | none=>rw[q] at h;cases h
    | some ds=>rw[q] at h;cases h;simp only[aaV,key ws ds q]
   ·cases h
  | exc c ns ws=>simp only[dat] at h;cases h
  | fn x ws=>simp only[dat] at h;cases h
  | kt ws=>simp only[dat] at h;cases h
theorem Se(hi:ph[i]? =some (.lst ws))(hj:ph[j]? =some (.lst ws))(hd:a9 (dat ph 39) ws=some ds):dR ph (.ref i) (.ref j)=some true:=by
 unfold dR;have e1:dat ph 40 (.ref i)=some (.list ds):=by simp only[dat,hi,hd,aaM]
 have e2:dat ph 40 (.ref j)=some (.list ds):=by simp only[dat,hj,hd,aaM]
 rw[e1,e2];simp only[BY 40 _ _ e1]
theorem Ew{x:W}(h:dR ph x y=some b):lift (bA x y) ph=.ok (.bl b) ph:=by
 unfold lift bA;simp only[h,aaM]
theorem Ey{x:W}(h:dR ph x y=some b):lift (dg x y) ph=.ok (.bl (!b)) ph:=by
 unfold lift dg;simp only[h,aaM]
theorem US{x:W}{d:acN}(h1:dat ph 40 x=some d)(h2:dat ph 40 y=some d):dR ph x y=some true:=by
 unfold dR;rw[h1,h2];simp only[BY 40 _ _ h1]
theorem eq_nil(hi:ph[i]? =some (.lst ws))(hj:ph[j]? =some (.lst []))(hd:a9 (dat ph 39) ws=some ds):dR ph (.ref i) (.ref j)=some ws.isEmpty:=by
 unfold dR;have e1:dat ph 40 (.ref i)=some (.list ds):=by simp only[dat,hi,hd,aaM]
 have e2:dat ph 40 (.ref j)=some (.list []):=by simp only[dat,hj,a9,aaM]
 rw[e1,e2];cases ws with
 | nil=>cases hd;simp[aaV,acJ]
 | cons w ws=>
  unfold a9 at hd;split at hd
  ·cases hd;simp[aaV,acJ]
  ·cases hd
section
variable{ph:PH}{i:Nat}{c f:Str}{fs:List (Str×W)}{w y:W}{kws:List (W×W)}
theorem QL{ws:List W}{ps d:List (W×W)}(h:ph[i]? =some (.lst ws))(h1:a9 mB ws=some ps)(h2:i3 [] ps=some d):lift (mC [.ref i]) ph=.ok (.ref ph.length) (ph++[.a8 d]):=by
 unfold lift mC;simp only[h,h1,h2]
end
theorem rT(m:EM)(lo hi:OM)(σ:aI):cR m lo hi σ=aq (m σ) fun w=>aq (lo σ) fun l=>aq (hi σ) fun h=>lift (hU w l h):=rfl
theorem UT(h:ph[i]? =some (.lst ws))(k:Nat):lift (hU (.ref i) none (some (k:Int))) ph=.ok (.ref ph.length) (ph++[.lst (ws.take k)]):=by
 have:fS ws none (some (k:Int))=ws.take k:=by
  unfold fS HT.aV;simp;rw[if_neg (by omega)];omega
 unfold lift hU;simp only[h,this]
section
variable{ph:PH}{i:Nat}{kws:List (W×W)}
theorem Sf{ws:List W}(h:ph[i]? =some (.lst ws))(k:Nat):lift (hU (.ref i) (some (k:Int)) none) ph=.ok (.ref ph.length) (ph++[.lst (ws.drop k)]):=by
 have:fS ws (some (k:Int)) none=ws.drop k:=by
  unfold fS HT.aV;simp;rw[if_neg (by omega)];by_cases hk:k<=ws.length
  ·rw[adN hk,List.take_of_length_le (by simp)]
  ·rw[Nat.min_eq_right (by omega),aeH (aaj _),aeH (by omega),List.take_nil]
 unfold lift hU;simp only[h,this]
end
theorem Sg{h:Heap}(e:ig K=[]):∀p∈ig K,aeb h p.2.1 p.2.2/\h.get? p.2.2=some (acx #[]):=fun p hp=>by
 rw[e] at hp;exact nomatch hp
noncomputable def Gd(z:Str):It:=⟨fun i _=>i<z.cps.size,fun i H x H'=>H'=H/\∃c,z.cps[i]? =some c/\x=.str ⟨#[c]⟩,fun i _=>z.cps.size<=i⟩
theorem QM{w:World}{tg:Expr}(z:Str)(t:Tok)(it:Addr):Turn P w K tg (Gd z) [it] it (fun i h=>h.IsStrIter it "str_ascii_iterator" z t i) where
 mem:=by simp
 obj:=fun i h st b hb=>by
  have e:b=it:=by simpa using hb
  subst e;obtain⟨o,e,c,d⟩:=st;exact⟨o,e,fun v z=>by rw[d] at z;cases z⟩
 keep:=fun i h h' st k=>let ⟨o,ho,r⟩:=st;⟨o,k it (by simp) o ho,r⟩
 item:=by
  intro X hP hw hK hc i pins s σ H E I hf st hg;subst hP hw hK;obtain⟨f0,f1,f2,f3,f4,f5⟩:=hf it (by simp);obtain⟨c0,hx⟩:∃c,z.cps[i]? =some c:=⟨_,Array.getElem?_eq_getElem (show i<z.cps.size from hg)⟩
  refine wpAny_pyNext_ascii_item st hx fun h' cP sb=>?_
  have I1:Inv X pins σ H { s with heap:=h',toks:=s.toks+1 }:=I.turned (t':=s.toks+1) (fun b o hb e=>(sb.2 b hb).trans e) f0 f1 f3 f4 f5;obtain⟨o,e,c,d⟩:=id cP;exact⟨_,rfl,sj (s:={ s with heap:=h',toks:=s.toks+1 }) e c d (by decide) ⟨.str ⟨#[c0]⟩,H,I1,⟨_,rfl⟩,⟨rfl,_,hx,rfl⟩,cP,fun b hb=>(hf b hb).1⟩⟩
 done:=by
  intro X hP hw hK hc i pins s σ H E I hf st hg;subst hP hw hK;obtain⟨f0,f1,f2,f3,f4,f5⟩:=hf it (by simp);exact wpAny_pyNext_ascii_end (I.ok.hd hc) st (by simpa using(show z.cps.size<=i from hg)) fun h' eb=>⟨rfl,I.turned (t':=s.toks) (fun b o hb e=>eb b o hb e) f0 f1 f3 f4 f5⟩
 self:=fun _ _ _ _ _ st h=>wpAny_pyIter_striter_ascii st h
section
variable{X:Cx}{tg:Expr}
noncomputable def WA(tl:TE):TI:=fun σ H R=>tl σ H fun v H1=>∃z,v=.str z/\z.cps.all (· <128)=true/\R (Gd z) H1
variable{l:Expr}
theorem UU{tl:TE}(hl:PE X l tl):PI X tg l (WA tl):=by
 intro pins s σ H R I h;refine aS (hl pins s σ H _ I h) fun v s1 ⟨x,H1,I1,r1,q1⟩=>?_
 obtain⟨z,e,ha,q⟩:=q1;subst e;obtain⟨t,rfl⟩:=r1;refine wpAny_pyIter_ascii ha ?_;refine⟨s1.heap.objs.size,[s1.heap.objs.size],_,_,H1,rfl,I1.kept (t':=s1.toks) fun b o e=>aad _ e,QM z t _,⟨_,aat _ rfl,rfl,rfl⟩,fun b hb=>?_,q⟩;have e:b=s1.heap.objs.size:=by simpa using hb
 subst e;exact I1.i6 (aaj _) (I1.aG.fresh (aaj _))
noncomputable def tR(z:Str):List W:=z.cps.toList.map fun c=>.str ⟨#[c]⟩
noncomputable def tU(w:W):Po (List W×(PH->Bool)):=fun ph=>match w with
 | .str z=>if z.cps.all (· <128)=true then some ((tR z,fun _=>true),ph) else none
 | _=>none
noncomputable def oX(m:EM):IM:=fun σ=>aq (m σ) fun w=>lift (tU w)
theorem UV{m:EM}(hl:IE X l m):II X tg l (oX m):=by
 refine PI.imp (UU hl) fun σ H R h=>?_
 obtain⟨φ,ph,ws,hH,hS,h⟩:=h;refine tM.bind hH hS h fun w ph1 au H1 v ax s1 r1 h=>?_
 obtain⟨r,ph',e,k⟩:=run_lift h;unfold tU at e;cases r1 with
 | str z=>
  simp only at e;split at e
  ·rename_i ha;cases e;refine⟨z,rfl,ha,k au H1 _ ax s1 ?_⟩;intro ba ph2 H2 aU s2 hc j;refine⟨fun w c7=>?_,fun hn=>?_⟩
   ·unfold tR at c7;rw[aak] at c7;obtain⟨c,uc,rfl⟩:=aap.mp c7;have Ge:z.cps[j]? =some c:=by rw[<- uc];simp
    refine⟨(Array.getElem?_eq_some_iff.mp Ge).1,fun x eh hy=>?_⟩;obtain⟨rfl,d,hd,rfl⟩:=hy;rw[Ge] at hd;cases hd;exact⟨aU,Step.refl,.str _⟩
   ·unfold tR at hn;show z.cps.size<=j
    simpa using hn
  ·cases e
 | _=>cases e
theorem UW{m:EM}(hl:JE X l m):JI X tg l (oX m):=⟨UV hl.h⟩
end
noncomputable def gU(w:W)(_:PH):Bool:=match w with
 | .str _=>true
 | _=>false
theorem rV:nv K "str" gU:=by
 intro φ ph H x vx hH rx e;unfold gU at e;cases rx with
 | str z=>rfl
 | _=>cases e
noncomputable def strOf:W->Option Str
 | .str z=>some z
 | _=>none
noncomputable def fu:W->List W->Po W:=fun x xs ph=>match x,xs with
 | .str z,[.ref i]=>match ph[i]? with
  | some (.lst ws)=>match a9 strOf ws with
   | some zs=>if zs.length<=1048576/\(∀y∈zs,y.length<=10)/\z.length<=6 then some (.str (afN z zs),ph) else none
   | none=>none
  | _=>none
 | _,_=>none
noncomputable def rJoin(K:aab):V->List V->Hp->VK->Prop:=fun x ys H Q=>∃z p zs,x=.str z/\ys=[.ref p]/\aP K H p (zs.map V.str)/\zs.length<=1048576/\(∀y∈zs,y.length<=10)/\z.length<=6/\Q (.str (afN z zs)) H
theorem Ak:∀{zs:List Str} {us:List Value},Vals (zs.map V.str) us->CarriedAll us (zs.map afI)
 | [],us,r=>by cases r;exact .nil
 | z::zs,us,r=>by
  cases r with
  | cons h r=>
   obtain⟨t,rfl⟩:=h;exact .cons (.str z t) (Ak r)
theorem rJ:pk X "str.join" (rJoin X.K):=by
 intro pins s σ H x xs v us Q I rx rv h;obtain⟨z,p,zs,rfl,rfl,hq,hn,hB,hz,q⟩:=h;obtain⟨t,rfl⟩:=rx;obtain⟨u,rfl,ru⟩:=Vals.one rv;cases ru;obtain⟨its,ri,pl,_⟩:=I.list hq;refine PySem.W.KT.join_B (l:=zs) (g:=fun y=>y) 10 pl.isList (Ak ri) hB hn (by omega) fun t' k=>?_
 rw[List.map_id'];exact⟨.str (afN z zs),H,I.tok k,⟨t',rfl⟩,q⟩
theorem wg{K:aab}{φ:Nat->Addr}{n:Nat}{H:Hp}:∀{ws:List W} {zs:List Str} {vs:List V},a9 strOf ws=some zs->aM K φ n H ws vs->vs=zs.map V.str
 | [],zs,vs,e,r=>by cases r;cases e;rfl
 | w::ws,zs,vs,e,r=>by
  cases r with
  | cons h r=>
   unfold a9 at e;cases h with
   | str z=>
    simp only[strOf] at e;cases q:a9 strOf ws with
    | none=>rw[q] at e;cases e
    | some us=>rw[q] at e;cases e;rw[wg q r];rfl
   | _=>cases e
theorem rK:nu K "str" (rJoin K) fu:=by
 intro φ ph H x xs vx vs w ph' Q hH rx rs e k;unfold fu at e;cases rx with
 | str z=>
  split at e
  ·rename_i z' i hx;cases hx;cases rs with
   | cons r0 rr=>
    cases rr;cases r0 with
    | ref hi=>
     split at e
     ·rename_i ws hw;split at e
      ·rename_i zs YS;split at e
       ·rename_i hc;cases e;obtain⟨vs,hv,r⟩:=hH.hp _ _ hw;rw[wg YS r] at hv;exact⟨z,_,zs,rfl,rfl,aP.of hv,hc.1,hc.2.1,hc.2.2,k φ H _ hH Step.refl (.str _)⟩
       ·cases e
      ·cases e
     ·cases e
  ·cases e
 | _=>cases e
end IL
namespace PySem
open Sem (wp)
namespace ZT
section
variable{prog:aba}{w:World}{A:acm}{E:Value->aaf->Prop}{s:aaf}
variable{xs:Array Value}
theorem NM{h:Heap}{a:Addr}(x:h.IsTuple a xs)(ob:Obj):(h.push ob).IsTuple a xs:=let ⟨o,ho,r⟩:=x;⟨o,aad _ ho,r⟩
variable{Q:Value->aaf->Prop}
theorem uQ{it l:Addr}{i:Nat}{items}{x:Value}(hit:s.heap.IsTupleIter it l i)
  (hl:s.heap.IsTuple l items) (hx:items[i]? =some x)
  (hQ:∀h',h'.IsTupleIter it l (i+1)->acz it s.heap h'->Q x { s with heap:=h' }) :
  wpAny (model prog w) A (aaE (.ref it)) Q E s:=by
 obtain⟨o,ho,hc,hd⟩:=id hit;obtain⟨ol,pE,_,nl,ut⟩:=hl;unfold aaE;refine aaa (abb (name:=aae "__next__") hit.typeIs ace
  (abv ace hit.typeIs adO ?_ (adD _)))
 show wpAny _ _ (field (.ref it) 0 >>= _) _ _ s;refine aaa (aaY ho hd (x:=.ref l) rfl ?_);show wpAny _ _ (if(abc l==abN)=true then _ else _) _ _ s;rw[if_neg (show ¬((abc l==abN)=true) from aaJ)];show wpAny _ _ (field (.ref it) 1 >>= _) _ _ s;refine aaa (aaY ho hd (x:=.int i 0) rfl ?_);show wpAny _ _ (seqItems? (.ref l) >>= _) _ _ s;refine aaa (abu pE ut ?_);simp only[ael,hx];refine aaa (wpAny_setField ho hd (by simp) (aai ⟨x,rfl,aai (hQ _ ?_ (aca ..))⟩));exact⟨_,ads _ ho (Obj.isFreed_of_fields (Obj.data_mapFields hd _)),(Obj.cls_mapFields ..).trans hc,by
  rw[Obj.data_mapFields hd];simp[aeh]⟩
theorem zM{it l:Addr}{i:Nat}{items}(hh:A.handled=none)
  (hit:s.heap.IsTupleIter it l i) (hl:s.heap.IsTuple l items) (hx:items[i]? =none)
  (hE:∀h' e,Heap.ExtBut it s.heap h'->(∃o,h'.get? e=some o/\o.cls=.type "StopIteration")->E (.ref e) { s with heap:=h' }) :
  wpAny (model prog w) A (aaE (.ref it)) Q E s:=by
 obtain⟨o,ho,hc,hd⟩:=id hit;obtain⟨ol,pE,_,nl,ut⟩:=hl;unfold aaE;refine aaa (abb (name:=aae "__next__") hit.typeIs ace
  (abv ace hit.typeIs adO ?_ (adD _)))
 show wpAny _ _ (field (.ref it) 0 >>= _) _ _ s;refine aaa (aaY ho hd (x:=.ref l) rfl ?_);show wpAny _ _ (if(abc l==abN)=true then _ else _) _ _ s;rw[if_neg (show ¬((abc l==abN)=true) from aaJ)];show wpAny _ _ (field (.ref it) 1 >>= _) _ _ s;refine aaa (aaY ho hd (x:=.int i 0) rfl ?_);show wpAny _ _ (seqItems? (.ref l) >>= _) _ _ s;refine aaa (abu pE ut ?_);simp only[ael,hx];refine aaa (afa (aaa (wpAny_setField ho hd (by simp) ?_)));show wpAny _ _ (newExc (.type "StopIteration") [] >>= _) _ _ _;refine aaa ?_;simp only[newExc,newTuple];refine aaa (abI ?_ (by size_fits));refine aaa (m:=firstArgMember _ _) (wpAny_of_eq (a:=abN) (by first | rfl | (simp only[firstArgMember];rfl)) ?_);refine abI ?_ (by size_fits);simp only[raiseNew];refine aaa (wpAny_handled ?_)
 first | rw[show A.in1.handled=none from hh] | rw[hh]
 refine aaa (aai (wpAny_throw ?_));exact hE _ _ (((aca ..).extBut.push _).push _) ⟨_,aat _ rfl,rfl⟩
variable{z i1 i2 l1 l2:Addr}{k1 k2:Nat}{ys:Array Value}{a b:Value}
theorem K4{TI TO:Addr}{x y:Value}(D:acT z TI TO i1 i2 l1 l2)
  (hz:IsZip s.heap z TI TO .none) (bt:abS s.heap TI (.ref i1) (.ref i2)) (bI:abS s.heap TO a b)
  (h1:s.heap.IsTupleIter i1 l1 k1) (h2:s.heap.IsTupleIter i2 l2 k2) (cu:s.heap.IsTuple l1 xs) (ce:s.heap.IsTuple l2 ys) (hx:xs[k1]? =some x) (hy:ys[k2]? =some y)
  (hQ:∀h',IsZip h' z TI TO (aeh s.heap.objs.size)->abS h' TO x y->h'.IsTupleIter i1 l1 (k1+1)->h'.IsTupleIter i2 l2 (k2+1)->abS h' s.heap.objs.size x y->h'.objs.size=s.heap.objs.size+1 →
   (∀c o,c≠z->c≠TO->c≠i1->c≠i2->s.heap.get? c=some o->h'.get? c=some o)->Q (.ref s.heap.objs.size) { s with heap:=h' }) :
  wpAny (model prog w) A (afn.«zip.__next__» ⟨[.ref z],[]⟩) (fun fin s'=>∃v,fin=.done (.ret v)/\Q v s') E s:=by
 show wpAny _ _ (field (.ref z) 2 >>= _) _ _ _;refine aaa (aaY hz rfl (x:=.bool false) rfl ?_);show wpAny _ _ (field (.ref z) 3 >>= _) _ _ _;refine aaa (aaY hz rfl (x:=.ref TI) rfl ?_);refine aaa (abu bt rfl ?_);show wpAny _ _ (aaF (.ref z) >>= _) _ _ _;refine aaa ?_;unfold aaF;refine aaa (aaY hz rfl (x:=.none) rfl (aai ?_));simp only[if_true];refine aaa (afa ?_);refine aaa (aaY hz rfl (x:=.ref TO) rfl ?_);refine aaa (abP hz (by simp) fun fh hV b9=>?_)
 replace hV:IsZip fh z TI TO .ellipsis:=hV
 refine aaa ?_;simp only[List.zipIdx_cons,List.zipIdx_nil,acA,aec];refine aaa (aaa (aev ?_));show wpAny _ _ (aaE (.ref i1) >>= _) _ _ _;refine aaa (uQ (h1.extBut b9.extBut D.i1z) (cu.extBut b9.extBut D.l1z) hx fun jp pG cC=>aai ?_);have oY:abS jp TO a b:=cC.extBut _ _ D.TOi1 (b9.extBut _ _ D.TOz bI);refine aaa (abu oY rfl ?_);refine aaa (adA oY fun gC tV dw=>?_)
 replace tV:abS gC TO x b:=tV
 refine aaa (afo (aai ?_));refine aaa (aaa (aev ?_));show wpAny _ _ (aaE (.ref i2) >>= _) _ _ _;refine aaa (uQ (((h2.extBut b9.extBut D.i2z).extBut cC.extBut D.i12.symm).extBut dw.extBut D.TOi2.symm)
  (((ce.extBut b9.extBut D.l2z).extBut cC.extBut D.l2i1).extBut dw.extBut D.l2TO) hy fun zC YT j5=>aai ?_)
 have Fi:abS zC TO x b:=j5.extBut _ _ D.TOi2 tV;refine aaa (abu Fi rfl ?_);refine aaa (adA Fi fun dH oZ j6=>?_)
 replace oZ:abS dH TO x y:=oZ
 refine aaa (afo (aai (aai ?_)));refine aaa (abu oZ rfl ?_);refine aaa (wpAny_newTuple ?_);have hsz:dH.objs.size=s.heap.objs.size:=by rw[j6.1,j5.1,dw.1,cC.1,b9.1]
 have Gf:IsZip dH z TI TO .ellipsis:=j6.extBut _ _ D.TOz.symm (j5.extBut _ _ D.i2z.symm (dw.extBut _ _ D.TOz.symm (cC.extBut _ _ D.i1z.symm hV)));have YU:∀c o,c≠z->c≠TO->c≠i1->c≠i2->s.heap.get? c=some o->dH.get? c=some o:=fun c o c1 c2 c3 c4 e=>
  j6.extBut _ _ c2 (j5.extBut _ _ c4 (dw.extBut _ _ c2 (cC.extBut _ _ c3 (b9.extBut _ _ c1 e))))
 have Gg:dH.IsTupleIter i1 l1 (k1+1):=((pG.extBut dw.extBut D.TOi1.symm).extBut j5.extBut D.i12).extBut j6.extBut D.TOi1.symm;have Gh:dH.IsTupleIter i2 l2 (k2+1):=YT.extBut j6.extBut D.TOi2.symm;have Fj:z<dH.objs.size:=aah Gf;have ZA:TO<dH.objs.size:=aah oZ;have ZC:i1<dH.objs.size:=by obtain⟨_,e,_⟩:=Gg;exact aah e
 have ZD:i2<dH.objs.size:=by obtain⟨_,e,_⟩:=Gh;exact aah e
 show wpAny _ _ (acP (.ref z) (.ref dH.objs.size) >>= _) _ _ _;refine aaa ?_;unfold acP;have YV:IsZip (dH.push { cls:=.type "tuple",data:=.seq #[x,y] }) z TI TO .ellipsis:=aad _ Gf;refine aaa (abP YV (by simp) fun Zx zh zi=>?_)
 replace zh:IsZip Zx z TI TO (aeh dH.objs.size):=zh
 refine abP zh (by simp) fun pW uw zj=>?_
 replace uw:IsZip pW z TI TO (aeh dH.objs.size):=uw
 have up:∀c o,c≠z->dH.get? c=some o->pW.get? c=some o:=fun c o c1 e=>zj.extBut _ _ c1 (zi.extBut _ _ c1 (aad _ e))
 have Gi:abS pW dH.objs.size x y:=zj.extBut _ _ (abw Fj) (zi.extBut _ _ (abw Fj) (aat _ rfl));have Gj:pW.objs.size=dH.objs.size+1:=by rw[zj.1,zi.1,ack]
 rw[hsz] at uw Gi Gj;refine aai ⟨_,rfl,?_⟩;show Q (.ref dH.objs.size) _;rw[hsz];exact hQ pW uw (up _ _ D.TOz oZ) (Gg.at fun o e=>up _ o D.i1z e) (Gh.at fun o e=>up _ o D.i2z e) Gi Gj fun c o c1 c2 c3 c4 e=>up c o c1 (YU c o c1 c2 c3 c4 e)
theorem LM{TI TO:Addr}{Q:Fin->aaf->Prop}(hh:A.handled=none)(D:acT z TI TO i1 i2 l1 l2)
  (hz:IsZip s.heap z TI TO .none) (bt:abS s.heap TI (.ref i1) (.ref i2)) (bI:abS s.heap TO a b)
  (h1:s.heap.IsTupleIter i1 l1 k1) (h2:s.heap.IsTupleIter i2 l2 k2) (cu:s.heap.IsTuple l1 xs) (ce:s.heap.IsTuple l2 ys) (jS:xs[k1]? =none\/ys[k2]? =none)
  (hE:∀h' e,(∀c o,c≠z->c≠TO->c≠i1->c≠i2->s.heap.get? c=some o->h'.get? c=some o)->(∃o,h'.get? e=some o/\o.cls=.type "StopIteration")->E (.ref e) { s with heap:=h' }) :
  wpAny (model prog w) A (afn.«zip.__next__» ⟨[.ref z],[]⟩) Q E s:=by
 show wpAny _ _ (field (.ref z) 2 >>= _) _ _ _;refine aaa (aaY hz rfl (x:=.bool false) rfl ?_);show wpAny _ _ (field (.ref z) 3 >>= _) _ _ _;refine aaa (aaY hz rfl (x:=.ref TI) rfl ?_);refine aaa (abu bt rfl ?_);show wpAny _ _ (aaF (.ref z) >>= _) _ _ _;refine aaa ?_;unfold aaF;refine aaa (aaY hz rfl (x:=.none) rfl (aai ?_));simp only[if_true];refine aaa (afa ?_);refine aaa (aaY hz rfl (x:=.ref TO) rfl ?_);refine aaa (abP hz (by simp) fun fh hV b9=>?_)
 replace hV:IsZip fh z TI TO .ellipsis:=hV
 refine aaa ?_;simp only[List.zipIdx_cons,List.zipIdx_nil,acA,aec];refine aaa (aaa (aev ?_));show wpAny _ _ (aaE (.ref i1) >>= _) _ _ _;cases hx:xs[k1]? with
 | none=>
  refine aaa (zM hh (h1.extBut b9.extBut D.i1z) (cu.extBut b9.extBut D.l1z) hx fun jp e cC he=>?_);obtain⟨oe,lx,pH⟩:=he;have Gk:IsZip jp z TI TO .ellipsis:=cC _ _ D.i1z.symm hV;have zk:e≠z:=fun x=>by subst x;rw[Gk] at lx;cases lx;simp at pH
  refine abP Gk (by simp) fun gC _ dw=>hE gC e (fun c o c1 _ c3 _ x=>dw.extBut _ _ c1 (cC _ _ c3 (b9.extBut _ _ c1 x))) ⟨oe,dw.extBut _ _ zk lx,pH⟩
 | some x=>
  have hy:ys[k2]? =none:=by rcases jS with h | h;rw[hx] at h;cases h;exact h
  refine aaa (uQ (h1.extBut b9.extBut D.i1z) (cu.extBut b9.extBut D.l1z) hx fun jp pG cC=>aai ?_);have oY:abS jp TO a b:=cC.extBut _ _ D.TOi1 (b9.extBut _ _ D.TOz bI);refine aaa (abu oY rfl ?_);refine aaa (adA oY fun gC tV dw=>?_);refine aaa (afo (aai ?_));refine aaa (aaa (aev ?_));show wpAny _ _ (aaE (.ref i2) >>= _) _ _ _;refine aaa (zM hh (((h2.extBut b9.extBut D.i2z).extBut cC.extBut D.i12.symm).extBut dw.extBut D.TOi2.symm)
   (((ce.extBut b9.extBut D.l2z).extBut cC.extBut D.l2i1).extBut dw.extBut D.l2TO) hy fun zC e j5 he=>?_)
  obtain⟨oe,lx,pH⟩:=he;have Gm:IsZip zC z TI TO .ellipsis:=j5 _ _ D.i2z.symm (dw.extBut _ _ D.TOz.symm (cC.extBut _ _ D.i1z.symm hV));have zk:e≠z:=fun x=>by subst x;rw[Gm] at lx;cases lx;simp at pH
  refine abP Gm (by simp) fun dH _ j6=>hE dH e (fun c o c1 c2 c3 c4 x=>j6.extBut _ _ c1 (j5 _ _ c4 (dw.extBut _ _ c2 (cC.extBut _ _ c3 (b9.extBut _ _ c1 x))))) ⟨oe,j6.extBut _ _ zk lx,pH⟩
theorem Iv{TI TO:Addr}{x y:Value}{Q:Option Value->aaf->Prop}(D:acT z TI TO i1 i2 l1 l2)
  (hz:IsZip s.heap z TI TO .none) (bt:abS s.heap TI (.ref i1) (.ref i2)) (bI:abS s.heap TO a b)
  (h1:s.heap.IsTupleIter i1 l1 k1) (h2:s.heap.IsTupleIter i2 l2 k2) (cu:s.heap.IsTuple l1 xs) (ce:s.heap.IsTuple l2 ys) (hx:xs[k1]? =some x) (hy:ys[k2]? =some y)
  (hQ:∀h',IsZip h' z TI TO (aeh s.heap.objs.size)->abS h' TO x y->h'.IsTupleIter i1 l1 (k1+1)->h'.IsTupleIter i2 l2 (k2+1)->abS h' s.heap.objs.size x y->h'.objs.size=s.heap.objs.size+1 →
   (∀c o,c≠z->c≠TO->c≠i1->c≠i2->s.heap.get? c=some o->h'.get? c=some o)->Q (some (.ref s.heap.objs.size)) { s with heap:=h' }) :
  wpAny (model prog w) A (adU (.ref z)) Q E s:=by
 have hT:s.TypeIs (.ref z) "zip":=⟨_,hz,rfl⟩
 unfold adU;exact aaa (aew (abb (name:=aae "__next__") hT acb
  (abv acb hT ady
   (K4 D hz bt bI h1 h2 cu ce hx hy fun h' a1 a2 a3 a4 a5 a6 a7=>aai (hQ h' a1 a2 a3 a4 a5 a6 a7)) (adn _))))
theorem Jh{TI TO:Addr}{Q:Option Value->aaf->Prop}(hh:A.handled=none)(D:acT z TI TO i1 i2 l1 l2)
  (hz:IsZip s.heap z TI TO .none) (bt:abS s.heap TI (.ref i1) (.ref i2)) (bI:abS s.heap TO a b)
  (h1:s.heap.IsTupleIter i1 l1 k1) (h2:s.heap.IsTupleIter i2 l2 k2) (cu:s.heap.IsTuple l1 xs) (ce:s.heap.IsTuple l2 ys) (jS:xs[k1]? =none\/ys[k2]? =none)
  (hQ:∀h',(∀c o,c≠z->c≠TO->c≠i1->c≠i2->s.heap.get? c=some o->h'.get? c=some o)->Q none { s with heap:=h' }):wpAny (model prog w) A (adU (.ref z)) Q E s:=by
 have hT:s.TypeIs (.ref z) "zip":=⟨_,hz,rfl⟩
 unfold adU;refine aaa (aew (abb (name:=aae "__next__") hT acb
  (abv acb hT ady (LM hh D hz bt bI h1 h2 cu ce jS fun h' e hk he=>?_) (adn _))))
 obtain⟨o,ho,hc⟩:=he;refine aaa (wpAny_isInstance (T:="StopIteration") (b:=true) ⟨o,ho,hc⟩ isSubtype_stop ?_);exact aai (hQ _ hk)
end
abbrev rW(h:Heap)(l1:Addr):Heap:=h.push { cls:=.type "tuple_iterator",data:=.fields #[.ref l1,.int 0 0] }
abbrev rX(h:Heap)(l1 l2:Addr):Heap:=(rW h l1).push { cls:=.type "tuple_iterator",data:=.fields #[.ref l2,.int 0 0] }
abbrev rY(h:Heap)(l1 l2:Addr):Heap:=(rX h l1 l2).push { cls:=.type "tuple",data:=.seq #[.ref h.objs.size,.ref (rW h l1).objs.size] }
abbrev rZ(h:Heap)(l1 l2:Addr):Heap:=(rY h l1 l2).push { cls:=.type "tuple",data:=.seq #[.none,.none] }
abbrev kL(h:Heap)(l1 l2:Addr):Heap:=(rZ h l1 l2).push { cls:=.type "zip",data:=.fields #[.none,.bool false,.bool false,.ref (rX h l1 l2).objs.size,.ref (rY h l1 l2).objs.size] }
theorem K5(l1 l2:Addr)(xs ys:Array Value) :
  Meets (afn.«zip.__new__» ⟨[.type "zip",.ref l1,.ref l2],[]⟩) (fun _ R s=>s.heap.IsTuple l1 xs/\s.heap.IsTuple l2 ys /\
   R (.ok (.ret (.ref (rZ s.heap l1 l2).objs.size))) { s with heap:=kL s.heap l1 l2 }):=
 .of_wp fun prog w A R s h=>by
  obtain⟨hp,g,d,tk,os⟩:=s;obtain⟨cu,ce,h⟩:=h;have ZI:=sub_zip;have YW:acD (Shared.heap ⟨hp,g,d,tk,os⟩) l1 xs:=cu;have YX:acD (Shared.heap ⟨hp.push { cls:=.type "tuple_iterator",data:=.fields #[.ref l1,.int 0 0] },g,d,tk,os⟩) l2 ys:=NM ce _
  wp_walk using adV YW,adV YX
  exact⟨_,rfl,h⟩
section
variable{prog:aba}{w:World}{A:acm}{E:Value->aaf->Prop}{s:aaf}
theorem Nf{l1 l2:Addr}{xs ys:Array Value}{Q:Value->aaf->Prop}(cu:s.heap.IsTuple l1 xs)(ce:s.heap.IsTuple l2 ys)
  (h:∀h',IsZip h' (s.heap.objs.size+4) (s.heap.objs.size+2) (s.heap.objs.size+3) .none->abS h' (s.heap.objs.size+2) (.ref s.heap.objs.size) (.ref (s.heap.objs.size+1)) →
   abS h' (s.heap.objs.size+3) .none .none->h'.IsTupleIter s.heap.objs.size l1 0->h'.IsTupleIter (s.heap.objs.size+1) l2 0->h'.objs.size=s.heap.objs.size+5 →
   (∀c o,s.heap.get? c=some o->h'.get? c=some o)->Q (.ref (s.heap.objs.size+4)) { s with heap:=h' }) :
  wpAny (model prog w) A (call (.type "zip") [.ref l1,.ref l2]) Q E s:=by
 refine callType_new F.called_zip (by decide) (F.typeCall_zip_2 _ _) (F.newCall_zip_2 _ _) (fun obj=>F.args_object_init_3 obj _ _) F.entry_zip_new
  (K5 l1 l2 xs ys) ⟨cu,ce,?_⟩
 have z1:(rW s.heap l1).objs.size=s.heap.objs.size+1:=ack ..;have z2:(rX s.heap l1 l2).objs.size=s.heap.objs.size+2:=by rw[ack,z1]
 have z3:(rY s.heap l1 l2).objs.size=s.heap.objs.size+3:=by rw[ack,z2]
 have z4:(rZ s.heap l1 l2).objs.size=s.heap.objs.size+4:=by rw[ack,z3]
 have z5:(kL s.heap l1 l2).objs.size=s.heap.objs.size+5:=by rw[ack,z4]
 have g5:(kL s.heap l1 l2).get? (rZ s.heap l1 l2).objs.size=some _:=aat _ rfl;have g4:(kL s.heap l1 l2).get? (rY s.heap l1 l2).objs.size=some _:=aad _ (aat _ rfl);have g3:(kL s.heap l1 l2).get? (rX s.heap l1 l2).objs.size=some _:=aad _ (aad _ (aat _ rfl));have g2:(kL s.heap l1 l2).get? (rW s.heap l1).objs.size=some _:=aad _ (aad _ (aad _ (aat _ rfl)));have g1:(kL s.heap l1 l2).get? s.heap.objs.size=some _:=aad _ (aad _ (aad _ (aad _ (aat _ rfl))));show _/\_;rw[z2,z3,z4] at g5;rw[z1,z2] at g3;rw[z3] at g4;rw[z1] at g2;rw[z4];exact⟨⟨_,g5,rfl⟩,h _ g5 g3 g4 ⟨_,g1,rfl,rfl⟩ ⟨_,g2,rfl,rfl⟩ z5 fun c o x=>
  aad _ (aad _ (aad _ (aad _ (aad _ x))))⟩
end
end ZT
end PySem
namespace IL
open PySem PySem.Spec PyProof.Rows L2
theorem vF:abk "zip"=some (.type "zip"):=by kernel_rfl
theorem xk{n a b:Nat}(ha:a<n)(hb:b<n):acT (n+4) (n+2) (n+3) n (n+1) a b:=by
 constructor <;> (intro h;change @Eq Nat _ _ at h;omega)
noncomputable def Fm(K:aab)(a b:Addr):It:=
 ⟨fun i H=>∃xs ys x y,bz K H a xs/\bz K H b ys/\xs[i]? =some x/\ys[i]? =some y,fun i H v H'=>∃T x y,v=.ref T/\H T=none/\H'=upd H T (.tup [x,y])/\∀xs ys,bz K H a xs->bz K H b ys->xs[i]? =some x/\ys[i]? =some y,fun i H=>∃xs ys,bz K H a xs/\bz K H b ys/\(xs.length<=i\/ys.length<=i)⟩
variable{K:aab}{j:Nat}{pos:Pos}
theorem Pm{P:aba}{w:World}{dr:List Expr}(a b z TI TO i1 i2:Addr)(D:acT z TI TO i1 i2 a b):Turn P w K (.Tuple dr j pos) (Fm K a b) [z,TI,TO,i1,i2] z
  (fun i h=>IsZip h z TI TO .none/\abS h TI (.ref i1) (.ref i2)/\(∃x y,abS h TO x y)/\h.IsTupleIter i1 a i/\h.IsTupleIter i2 b i) where
 mem:=by simp
 obj:=fun i h st c hc=>by
  obtain⟨hz,bt,⟨x,y,bI⟩,⟨o1,e1,c1,d1⟩,o2,e2,c2,d2⟩:=st;have:c=z\/c=TI\/c=TO\/c=i1\/c=i2:=by simpa using hc
  rcases this with rfl | rfl | rfl | rfl | rfl
  ·exact⟨_,hz,fun v q=>by cases q⟩
  ·exact⟨_,bt,fun v q=>by cases q⟩
  ·exact⟨_,bI,fun v q=>by cases q⟩
  ·exact⟨_,e1,fun v q=>by rw[d1] at q;cases q⟩
  ·exact⟨_,e2,fun v q=>by rw[d2] at q;cases q⟩
 keep:=fun i h h' st k=>by
  obtain⟨hz,bt,⟨x,y,bI⟩,h1,h2⟩:=st;exact⟨k z (by simp) _ hz,k TI (by simp) _ bt,⟨x,y,k TO (by simp) _ bI⟩,h1.at fun o q=>k i1 (by simp) o q,h2.at fun o q=>k i2 (by simp) o q⟩
 item:=by
  intro X hP hw hK hc i pins s σ H E I hf st hg;subst hP hw hK;obtain⟨hz,bt,⟨x0,y0,bI⟩,h1,h2⟩:=st;obtain⟨xs,ys,x,y,qa,qb,hx,hy⟩:=hg;obtain⟨gz,fG,px,_⟩:=I.tuple qa;obtain⟨gA,fH,py,_⟩:=I.tuple qb;obtain⟨u,hu,ru⟩:=fG.get hx;obtain⟨v,hv,rv⟩:=fH.get hy;refine PySem.ZT.Iv D hz bt bI h1 h2 (show acD _ _ gz.toArray from px) (show acD _ _ gA.toArray from py) (x:=u) (y:=v) (by simpa using hu) (by simpa using hv) fun g1 a1 a2 a3 a4 a5 a6 hk=>⟨_,rfl,?_⟩
  refine aed a1 fun g2 b1 bQ=>?_
  have kk:∀c o,c∉[z,TI,TO,i1,i2]->s.heap.get? c=some o->g2.get? c=some o:=fun c o hc q=>by
   have n:c≠z/\c≠TI/\c≠TO/\c≠i1/\c≠i2:=by simpa using hc
   exact(bQ.2 c n.1).trans (hk c o n.1 n.2.2.1 n.2.2.2.1 n.2.2.2.2 q)
  have lt:∀{c o},s.heap.get? c=some o->s.heap.objs.size≠c:=fun e=>abw (aah e)
  have pI:s.heap.objs.size≠z:=lt hz;have new:cI X.prog X.w (upd H s.heap.objs.size (.tup [x,y])) g2 s.heap.objs.size (.tup [x,y]):=
   ⟨by show 2<=aas;decide,[u,v],.cons ru (.cons rv .nil),_,(bQ.2 _ pI).trans a5,rfl,_,rfl⟩
  refine⟨.ref s.heap.objs.size,_,rC (s:=s) (h':=g2) (t':=s.toks) I kk hf (aaj _) new,rfl,⟨_,x,y,rfl,I.aG.fresh (aaj _),rfl,fun YY YZ h3 h4=>by rw[I.vB h3 qa,I.vB h4 qb];exact⟨hx,hy⟩⟩,
   ⟨b1,bQ.extBut _ _ D.TIz (hk _ _ D.TIz D.TITO D.TIi1 D.TIi2 bt),⟨u,v,bQ.extBut _ _ D.TOz a2⟩,a3.extBut bQ.extBut D.i1z,a4.extBut bQ.extBut D.i2z⟩,fun c hc=>?_⟩
  rw[aW (fun q=>?_)]
  ·exact(hf c hc).1
  ·have:c=z\/c=TI\/c=TO\/c=i1\/c=i2:=by simpa using hc
   rcases this with e | e | e | e | e
   ·exact pI (by rw[<- q,e])
   ·exact lt bt (by rw[<- q,e])
   ·exact lt bI (by rw[<- q,e])
   ·obtain⟨o,e1,_⟩:=h1;exact lt e1 (by rw[<- q,e])
   ·obtain⟨o,e1,_⟩:=h2;exact lt e1 (by rw[<- q,e])
 done:=by
  intro X hP hw hK hc i pins s σ H E I hf st hg;subst hP hw hK;obtain⟨hz,bt,⟨x0,y0,bI⟩,h1,h2⟩:=st;obtain⟨xs,ys,qa,qb,hx⟩:=hg;obtain⟨gz,fG,px,_⟩:=I.tuple qa;obtain⟨gA,fH,py,_⟩:=I.tuple qb;have l1:=fG.length;have l2:=fH.length;refine PySem.ZT.Jh (I.ok.hd hc) D hz bt bI h1 h2 (show acD _ _ gz.toArray from px) (show acD _ _ gA.toArray from py) (hx.elim (fun hx=>.inl (by simp;omega)) fun hx=>.inr (by simp;omega)) fun g1 hk=>⟨rfl,nV (t':=s.toks) I (fun c o hc q=>?_) hf⟩
  have n:c≠z/\c≠TI/\c≠TO/\c≠i1/\c≠i2:=by simpa using hc
  exact hk c o n.1 n.2.2.1 n.2.2.2.1 n.2.2.2.2 q
 self:=fun _ _ _ _ _ st h=>acU st.1 h
noncomputable def UX(K:aab)(ta:TA):TI:=fun σ H R=>ta σ H fun vs H1=>∃a b,vs=[.ref a,.ref b]/\(∃xs,bz K H1 a xs)/\(∃ys,bz K H1 b ys)/\R (Fm K a b) H1
theorem Sh{X:Cx}{a b:Expr}{ta:TA}{dr:List Expr}{tp p:Pos}(hg:Gl X "zip")(hm:X.mg "zip"=none)(ha:PA X [a,b] ta)(hs:aaA [a,b] X.env=[(false,eval a X.env),(false,eval b X.env)]:=by rfl)(bQ:aaA [b] X.env=[(false,eval b X.env)]:=by rfl) :
  PI X (.Tuple dr j tp) (.Call (.Name "zip" p) [a,b] [] pos) (UX X.K ta):=by
 intro pins s σ H R I h;refine Call_ (iV I hg hm vF (aaW (aS (ha pos pins s σ H _ I h) fun us s1 ⟨vs,H1,I1,r1,q1⟩=>?_) (by rw[hs,bQ]) (by rw[bQ];rfl)));obtain⟨a,b,e,⟨xs,qa⟩,⟨ys,qb⟩,q⟩:=q1;subst e;obtain⟨u1,u2,rfl,r1,r2⟩:=Vals.two r1;cases r1;cases r2;obtain⟨gz,fG,px,_⟩:=I1.tuple qa;obtain⟨gA,fH,py,_⟩:=I1.tuple qb;refine PySem.ZT.Nf (show acD _ _ gz.toArray from px) (show acD _ _ gA.toArray from py) fun h' hz bt bI h1 h2 hsz hk=>?_
 refine acU hz ?_;have I2:Inv X pins σ H1 { s1 with heap:=h' }:=I1.kept (t':=s1.toks) hk;have la:a<s1.heap.objs.size:=by obtain⟨o,e,_⟩:=(show s1.heap.IsTuple a gz.toArray from px);exact aah e
 have lb:b<s1.heap.objs.size:=by obtain⟨o,e,_⟩:=(show s1.heap.IsTuple b gA.toArray from py);exact aah e
 refine⟨s1.heap.objs.size+4,[s1.heap.objs.size+4,s1.heap.objs.size+2,s1.heap.objs.size+3,s1.heap.objs.size,s1.heap.objs.size+1],_,_,H1,rfl,I2,
  Pm a b (s1.heap.objs.size+4) (s1.heap.objs.size+2) (s1.heap.objs.size+3) s1.heap.objs.size (s1.heap.objs.size+1) (xk la lb),⟨hz,bt,⟨_,_,bI⟩,h1,h2⟩,fun c hc=>?_,q⟩
 have hc:s1.heap.objs.size<=c:=by
  have:c=s1.heap.objs.size+4\/c=s1.heap.objs.size+2\/c=s1.heap.objs.size+3\/c=s1.heap.objs.size\/c=s1.heap.objs.size+1:=by simpa using hc
  rcases this with e | e | e | e | e <;> rw[e] <;> first | exact aaj _ | exact aeD _ _
 exact I1.i6 hc (I1.aG.fresh hc)
noncomputable def Fn(K:aab)(a b:Addr):It:=
 ⟨fun i H=>∃xs ys x y,aP K H a xs/\aP K H b ys/\xs[i]? =some x/\ys[i]? =some y,fun i H v H'=>∃T x y,v=.ref T/\H T=none/\H'=upd H T (.tup [x,y])/\∀xs ys,aP K H a xs->aP K H b ys->xs[i]? =some x/\ys[i]? =some y,fun i H=>∃xs ys,aP K H a xs/\aP K H b ys/\(xs.length<=i\/ys.length<=i)⟩
theorem Pn{P:aba}{w:World}{dr:List Expr}(a b z TI TO i1 i2:Addr)(D:acT z TI TO i1 i2 a b):Turn P w K (.Tuple dr j pos) (Fn K a b) [z,TI,TO,i1,i2] z
  (fun i h=>IsZip h z TI TO .none/\abS h TI (.ref i1) (.ref i2)/\(∃x y,abS h TO x y)/\h.IsListIter i1 a i/\h.IsListIter i2 b i) where
 mem:=by simp
 obj:=fun i h st c hc=>by
  obtain⟨hz,bt,⟨x,y,bI⟩,⟨o1,e1,c1,d1⟩,o2,e2,c2,d2⟩:=st;have:c=z\/c=TI\/c=TO\/c=i1\/c=i2:=by simpa using hc
  rcases this with rfl | rfl | rfl | rfl | rfl
  ·exact⟨_,hz,fun v q=>by cases q⟩
  ·exact⟨_,bt,fun v q=>by cases q⟩
  ·exact⟨_,bI,fun v q=>by cases q⟩
  ·exact⟨_,e1,fun v q=>by rw[d1] at q;cases q⟩
  ·exact⟨_,e2,fun v q=>by rw[d2] at q;cases q⟩
 keep:=fun i h h' st k=>by
  obtain⟨hz,bt,⟨x,y,bI⟩,h1,h2⟩:=st;exact⟨k z (by simp) _ hz,k TI (by simp) _ bt,⟨x,y,k TO (by simp) _ bI⟩,h1.at fun o q=>k i1 (by simp) o q,h2.at fun o q=>k i2 (by simp) o q⟩
 item:=by
  intro X hP hw hK hc i pins s σ H E I hf st hg;subst hP hw hK;obtain⟨hz,bt,⟨x0,y0,bI⟩,h1,h2⟩:=st;obtain⟨xs,ys,x,y,qa,qb,hx,hy⟩:=hg;obtain⟨gz,fG,px,_⟩:=I.list qa;obtain⟨gA,fH,py,_⟩:=I.list qb;obtain⟨u,hu,ru⟩:=fG.get hx;obtain⟨v,hv,rv⟩:=fH.get hy;refine wpAny_pyNext_zip_item D hz bt bI h1 h2 px.isList py.isList (x:=u) (y:=v) (by simpa using hu) (by simpa using hv) fun g1 a1 a2 a3 a4 a5 a6 hk=>⟨_,rfl,?_⟩
  refine aed a1 fun g2 b1 bQ=>?_
  have kk:∀c o,c∉[z,TI,TO,i1,i2]->s.heap.get? c=some o->g2.get? c=some o:=fun c o hc q=>by
   have n:c≠z/\c≠TI/\c≠TO/\c≠i1/\c≠i2:=by simpa using hc
   exact(bQ.2 c n.1).trans (hk c o n.1 n.2.2.1 n.2.2.2.1 n.2.2.2.2 q)
  have lt:∀{c o},s.heap.get? c=some o->s.heap.objs.size≠c:=fun e=>abw (aah e)
  have pI:s.heap.objs.size≠z:=lt hz;have new:cI X.prog X.w (upd H s.heap.objs.size (.tup [x,y])) g2 s.heap.objs.size (.tup [x,y]):=
   ⟨by show 2<=aas;decide,[u,v],.cons ru (.cons rv .nil),_,(bQ.2 _ pI).trans a5,rfl,_,rfl⟩
  refine⟨.ref s.heap.objs.size,_,rC (s:=s) (h':=g2) (t':=s.toks) I kk hf (aaj _) new,rfl,⟨_,x,y,rfl,I.aG.fresh (aaj _),rfl,fun YY YZ h3 h4=>by rw[I.qZ h3 qa,I.qZ h4 qb];exact⟨hx,hy⟩⟩,
   ⟨b1,bQ.extBut _ _ D.TIz (hk _ _ D.TIz D.TITO D.TIi1 D.TIi2 bt),⟨u,v,bQ.extBut _ _ D.TOz a2⟩,a3.extBut bQ.extBut D.i1z,a4.extBut bQ.extBut D.i2z⟩,fun c hc=>?_⟩
  rw[aW (fun q=>?_)]
  ·exact(hf c hc).1
  ·have:c=z\/c=TI\/c=TO\/c=i1\/c=i2:=by simpa using hc
   rcases this with e | e | e | e | e
   ·exact pI (by rw[<- q,e])
   ·exact lt bt (by rw[<- q,e])
   ·exact lt bI (by rw[<- q,e])
   ·obtain⟨o,e1,_⟩:=h1;exact lt e1 (by rw[<- q,e])
   ·obtain⟨o,e1,_⟩:=h2;exact lt e1 (by rw[<- q,e])
 done:=by
  intro X hP hw hK hc i pins s σ H E I hf st hg;subst hP hw hK;obtain⟨hz,bt,⟨x0,y0,bI⟩,h1,h2⟩:=st;obtain⟨xs,ys,qa,qb,hx⟩:=hg;obtain⟨gz,fG,px,_⟩:=I.list qa;obtain⟨gA,fH,py,_⟩:=I.list qb;have l1:=fG.length;have l2:=fH.length;refine wpAny_pyNext_zip_end (I.ok.hd hc) D hz bt bI h1 h2 px.isList py.isList (hx.elim (fun hx=>.inl (by simp;omega)) fun hx=>.inr (by simp;omega)) fun g1 hk=>⟨rfl,nV (t':=s.toks) I (fun c o hc q=>?_) hf⟩
  have n:c≠z/\c≠TI/\c≠TO/\c≠i1/\c≠i2:=by simpa using hc
  exact hk c o n.1 n.2.2.1 n.2.2.2.1 n.2.2.2.2 q
 self:=fun _ _ _ _ _ st h=>acU st.1 h
noncomputable def UY(K:aab)(ta:TA):TI:=fun σ H R=>ta σ H fun vs H1=>∃a b,vs=[.ref a,.ref b]/\(∃xs,aP K H1 a xs)/\(∃ys,aP K H1 b ys)/\R (Fn K a b) H1
theorem Si{X:Cx}{a b:Expr}{ta:TA}{dr:List Expr}{tp p:Pos}(hg:Gl X "zip")(hm:X.mg "zip"=none)(ha:PA X [a,b] ta)(hs:aaA [a,b] X.env=[(false,eval a X.env),(false,eval b X.env)]:=by rfl)(bQ:aaA [b] X.env=[(false,eval b X.env)]:=by rfl) :
  PI X (.Tuple dr j tp) (.Call (.Name "zip" p) [a,b] [] pos) (UY X.K ta):=by
 intro pins s σ H R I h;refine Call_ (iV I hg hm vF (aaW (aS (ha pos pins s σ H _ I h) fun us s1 ⟨vs,H1,I1,r1,q1⟩=>?_) (by rw[hs,bQ]) (by rw[bQ];rfl)));obtain⟨a,b,e,⟨xs,qa⟩,⟨ys,qb⟩,q⟩:=q1;subst e;obtain⟨u1,u2,rfl,r1,r2⟩:=Vals.two r1;cases r1;cases r2;obtain⟨gz,fG,px,_⟩:=I1.list qa;obtain⟨gA,fH,py,_⟩:=I1.list qb;refine call_zip_2 px.isList py.isList fun h' hz bt bI h1 h2 hsz hk=>?_
 refine acU hz ?_;have I2:Inv X pins σ H1 { s1 with heap:=h' }:=I1.kept (t':=s1.toks) hk;have la:a<s1.heap.objs.size:=by obtain⟨o,e,_⟩:=px.isList;exact aah e
 have lb:b<s1.heap.objs.size:=by obtain⟨o,e,_⟩:=py.isList;exact aah e
 refine⟨s1.heap.objs.size+4,[s1.heap.objs.size+4,s1.heap.objs.size+2,s1.heap.objs.size+3,s1.heap.objs.size,s1.heap.objs.size+1],_,_,H1,rfl,I2,
  Pn a b (s1.heap.objs.size+4) (s1.heap.objs.size+2) (s1.heap.objs.size+3) s1.heap.objs.size (s1.heap.objs.size+1) (xk la lb),⟨hz,bt,⟨_,_,bI⟩,h1,h2⟩,fun c hc=>?_,q⟩
 have hc:s1.heap.objs.size<=c:=by
  have:c=s1.heap.objs.size+4\/c=s1.heap.objs.size+2\/c=s1.heap.objs.size+3\/c=s1.heap.objs.size\/c=s1.heap.objs.size+1:=by simpa using hc
  rcases this with e | e | e | e | e <;> rw[e] <;> first | exact aaj _ | exact aeD _ _
 exact I1.i6 hc (I1.aG.fresh hc)
noncomputable def sF:W->Option (List W)
 | .tup ws=>some ws
 | .kt ws=>some ws
 | _=>none
noncomputable def cq(us vs:List W):List W:=(us.zip vs).map fun p=>.tup [p.1,p.2]
theorem BZ{us vs:List W}{w:W}(h:(cq us vs)[j]? =some w):∃x y,us[j]? =some x/\vs[j]? =some y/\w=.tup [x,y]:=by
 unfold cq at h;rw[aak] at h;obtain⟨p,hp,rfl⟩:=aap.mp h;have:=acQ.mp hp;exact⟨p.1,p.2,this.1,this.2,rfl⟩
theorem Bi{us vs:List W}(h:(cq us vs)[j]? =none):us.length<=j\/vs.length<=j:=by
 unfold cq at h;have:=List.getElem?_eq_none_iff.mp h;rw[aag,adh] at this;omega
theorem Bj{φ:Nat->Addr}{n:Nat}{H:Hp}{w:W}{v:V}{ws:List W}(r:aJ K φ n H w v)(e:sF w=some ws) :
  ∃a vs,v=.ref a/\∀ap n' H',Step K φ n H ap n' H'->bz K H' a vs/\aM K ap n' H' ws vs:=by
 cases r with
 | tup h r=>cases e;exact⟨_,_,rfl,fun ap n' H' s=>⟨bz.of (s.tup _ _ h),r.mono s⟩⟩
 | kt h r=>cases e;exact⟨_,_,rfl,fun ap n' H' s=>⟨.inr h,r.mono s⟩⟩
 | _=>cases e
noncomputable def sG(xs:List W):Po (List W×(PH->Bool)):=fun ph=>match xs with
 | [a,b]=>match sF a,sF b with
  | some us,some vs=>some ((cq us vs,fun _=>true),ph)
  | _,_=>none
 | _=>none
noncomputable def oE(m:AM):IM:=fun σ=>aq (m σ) fun xs=>lift (sG xs)
section
variable{X:Cx}{a b:Expr}{am:AM}{dr:List Expr}{j:Nat}{tp p pos:Pos}
theorem Sj(hg:Gl X "zip")(hm:X.mg "zip"=none)(ha:IA X [a,b] am)(hs:aaA [a,b] X.env=[(false,eval a X.env),(false,eval b X.env)])(bQ:aaA [b] X.env=[(false,eval b X.env)]) :
  II X (.Tuple dr j tp) (.Call (.Name "zip" p) [a,b] [] pos) (oE am):=by
 refine PI.imp (Sh hg hm ha hs bQ) fun σ H R h=>?_
 obtain⟨φ,ph,ws,hH,hS,h⟩:=h;refine tA.bind hH hS h fun xs ph1 au H1 vs ax s1 r1 h=>?_
 obtain⟨r,ph',e,k⟩:=run_lift h;unfold sG at e;split at e
 ·rename_i wa wb;split at e
  ·rename_i us jl qa qb;cases e;cases r1 with
   | cons ra rr=>
    cases rr with
    | cons rb rr=>
     cases rr;obtain⟨aa,va,rfl,fa⟩:=Bj ra qa;obtain⟨bb,vb,rfl,fb⟩:=Bj rb qb;refine⟨aa,bb,rfl,⟨_,(fa _ _ _ Step.refl).1⟩,⟨_,(fb _ _ _ Step.refl).1⟩,k au H1 _ ax s1 ?_⟩;intro ba ph2 H2 aU s2 hc j;obtain⟨sa,pJ⟩:=fa _ _ _ s2;obtain⟨sb,pK⟩:=fb _ _ _ s2;refine⟨fun w c7=>?_,fun hn=>?_⟩
     ·obtain⟨x,y,hx,hy,rfl⟩:=BZ c7;obtain⟨u,eu,ru⟩:=pJ.get hx;obtain⟨v,ev,rv⟩:=pK.get hy;refine⟨⟨_,_,u,v,sa,sb,eu,ev⟩,fun z eh hz=>?_⟩;obtain⟨T,x',y',rfl,hT,rfl,hz⟩:=hz;obtain⟨z1,z2⟩:=hz _ _ sa sb;rw[eu] at z1;cases z1;rw[ev] at z2;cases z2;exact⟨aU.tup hT,dj hT,.tup bF (.cons (ru.mono (dj hT)) (.cons (rv.mono (dj hT)) .nil))⟩
     ·refine⟨_,_,sa,sb,?_⟩;rw[<- pJ.length,<- pK.length];exact Bi hn
  ·cases e
 ·cases e
theorem CN(hg:Gl X "zip")(hm:X.mg "zip"=none)(hn:isStar a=false)(j7:isStar b=false)(ha:JA X [a,b] am):JI X (.Tuple dr j tp) (.Call (.Name "zip" p) [a,b] [] pos) (oE am):=⟨Sj hg hm ha.h (by rw[cU hn,cU j7];rfl) (by rw[cU j7];rfl)⟩
end
noncomputable def sH(xs:List W):Po (List W×(PH->Bool)):=fun ph=>match xs with
 | [.ref a,.ref b]=>match ph[a]?,ph[b]? with
  | some (.lst us),some (.lst vs)=>some ((cq us vs,fun ph'=>decide (ph'[a]? =some (.lst us)/\ph'[b]? =some (.lst vs))),ph)
  | _,_=>none
 | _=>none
noncomputable def sI(m:AM):IM:=fun σ=>aq (m σ) fun xs=>lift (sH xs)
section
variable{X:Cx}{a b:Expr}{am:AM}{dr:List Expr}{j:Nat}{tp p pos:Pos}
theorem Sk(hg:Gl X "zip")(hm:X.mg "zip"=none)(ha:IA X [a,b] am)(hs:aaA [a,b] X.env=[(false,eval a X.env),(false,eval b X.env)])(bQ:aaA [b] X.env=[(false,eval b X.env)]) :
  II X (.Tuple dr j tp) (.Call (.Name "zip" p) [a,b] [] pos) (sI am):=by
 refine PI.imp (Si hg hm ha hs bQ) fun σ H R h=>?_
 obtain⟨φ,ph,ws,hH,hS,h⟩:=h;refine tA.bind hH hS h fun xs ph1 au H1 vs ax s1 r1 h=>?_
 obtain⟨r,ph',e,k⟩:=run_lift h;unfold sH at e;split at e
 ·rename_i wa wb;split at e
  ·rename_i us jl qa qb;cases e;cases r1 with
   | cons ra rr=>
    cases rr with
    | cons rb rr=>
     cases rr;cases ra with
     | ref Gn=>
     cases rb with
     | ref Gp=>
     obtain⟨va,ga,ra⟩:=ax.hp _ _ qa;obtain⟨vb,gb,rb⟩:=ax.hp _ _ qb;refine⟨_,_,rfl,⟨_,aP.of ga⟩,⟨_,aP.of gb⟩,k au H1 _ ax s1 ?_⟩;intro ba ph2 H2 aU s2 hc j;obtain⟨c1,c2⟩:=of_decide_eq_true hc;obtain⟨ZV,Gq,pJ⟩:=aU.hp _ _ c1;obtain⟨ZW,Gr,pK⟩:=aU.hp _ _ c2;rw[s2.eq _ Gn] at Gq;rw[s2.eq _ Gp] at Gr;have sa:=aP.of (K:=X.K) Gq;have sb:=aP.of (K:=X.K) Gr;refine⟨fun w c7=>?_,fun hn=>?_⟩
     ·obtain⟨x,y,hx,hy,rfl⟩:=BZ c7;obtain⟨u,eu,ru⟩:=pJ.get hx;obtain⟨v,ev,rv⟩:=pK.get hy;refine⟨⟨_,_,u,v,sa,sb,eu,ev⟩,fun z eh hz=>?_⟩;obtain⟨T,x',y',rfl,hT,rfl,hz⟩:=hz;obtain⟨z1,z2⟩:=hz _ _ sa sb;rw[eu] at z1;cases z1;rw[ev] at z2;cases z2;exact⟨aU.tup hT,dj hT,.tup bF (.cons (ru.mono (dj hT)) (.cons (rv.mono (dj hT)) .nil))⟩
     ·refine⟨_,_,sa,sb,?_⟩;rw[<- pJ.length,<- pK.length];exact Bi hn
  ·cases e
 ·cases e
theorem Sl(hg:Gl X "zip")(hm:X.mg "zip"=none)(hn:isStar a=false)(j7:isStar b=false)(ha:JA X [a,b] am):JI X (.Tuple dr j tp) (.Call (.Name "zip" p) [a,b] [] pos) (sI am):=⟨Sk hg hm ha.h (by rw[cU hn,cU j7];rfl) (by rw[cU j7];rfl)⟩
end
end IL
namespace PySem
open Sem (wp)
namespace ZL
abbrev kM(h:Heap)(z TI TO:Addr)(f0:Value)(b:Bool):Prop:=
 h.get? z=some { cls:=.type "zip",dict:=none,data:=.fields #[f0,.bool b,.bool false,.ref TI,.ref TO],slots:= #[] }
section
variable{prog:aba}{w:World}{A:acm}{E:Value->aaf->Prop}{s:aaf}
variable{o:Obj}
theorem alive{a:Addr}{Q:Option Obj->aaf->Prop}(ho:s.heap.get? a=some o)(h:Q (some o) s):wpAny (model prog w) A (loadIfAlive a) Q E s:=by
 intro Γ p _;show wp _ _ (Sem.loadIfAlive a Sem.pure) _ _ _ _;rw[Sem.wp_loadIfAlive,ho];exact h
variable{z T:Addr}{b:Bool}
theorem busy{TI TO:Addr}{Q:Bool->aaf->Prop}(hz:kM s.heap z TI TO (aeh T) b)(hT:s.heap.get? T=some o)
  (hQ:∀h',kM h' z TI TO (aeh T) true->acz z s.heap h'->Q false { s with heap:=h' }):wpAny (model prog w) A (aaF (.ref z)) Q E s:=by
 unfold aaF;refine aaa (aaY hz rfl (x:=aeh T) rfl ?_);show wpAny _ _ (loadIfAlive T >>= _) _ _ _;refine aaa (alive hT ?_);show wpAny _ _ (field (.ref z) 1 >>= _) _ _ _;refine aaa (aaY hz rfl (x:=.bool b) rfl ?_);cases b with
 | true=>exact aai (hQ s.heap hz ⟨rfl,fun _ _=>rfl⟩)
 | false=>
  show wpAny _ _ (setField (.ref z) 1 (.bool true) >>= _) _ _ _;exact aaa (abP hz (by simp) fun h' Y0 hs=>aai (hQ h' Y0 hs))
variable{i1 i2 l1 l2:Addr}{k1 k2:Nat}{xs ys:Array Value}
theorem LN{TI TO:Addr}{x y:Value}{Q:Value->aaf->Prop}(D:acT z TI TO i1 i2 l1 l2)
  (hz:kM s.heap z TI TO (aeh T) b) (hT:s.heap.get? T=some o) (bt:abS s.heap TI (.ref i1) (.ref i2))
  (h1:s.heap.IsListIter i1 l1 k1) (h2:s.heap.IsListIter i2 l2 k2) (cu:s.heap.IsList l1 xs) (ce:s.heap.IsList l2 ys) (hx:xs[k1]? =some x) (hy:ys[k2]? =some y)
  (hQ:∀h',kM h' z TI TO (aeh T) true->h'.IsListIter i1 l1 (k1+1)->h'.IsListIter i2 l2 (k2+1)->abS h' s.heap.objs.size x y →
   (∀c o,c≠z->c≠i1->c≠i2->s.heap.get? c=some o->h'.get? c=some o)->Q (.ref s.heap.objs.size) { s with heap:=h' }) :
  wpAny (model prog w) A (afn.«zip.__next__» ⟨[.ref z],[]⟩) (fun fin s'=>∃v,fin=.done (.ret v)/\Q v s') E s:=by
 show wpAny _ _ (field (.ref z) 2 >>= _) _ _ _;refine aaa (aaY hz rfl (x:=.bool false) rfl ?_);show wpAny _ _ (field (.ref z) 3 >>= _) _ _ _;refine aaa (aaY hz rfl (x:=.ref TI) rfl ?_);refine aaa (abu bt rfl ?_);show wpAny _ _ (aaF (.ref z) >>= _) _ _ _;refine aaa (busy hz hT fun fh hV b9=>?_);simp only[adi,if_false];refine aaa ?_;simp only[<- afx,acA,aec];refine aaa (aaa (abg ?_));show wpAny _ _ (aaE (.ref i1) >>= _) _ _ _;refine aaa (adl (h1.extBut b9.extBut D.i1z) (cu.extBut b9.extBut D.l1z) hx fun jp pG cC=>aai ?_);refine aai ?_;refine aaa (aaa (abg ?_));show wpAny _ _ (aaE (.ref i2) >>= _) _ _ _;refine aaa (adl ((h2.extBut b9.extBut D.i2z).extBut cC.extBut D.i12.symm) ((ce.extBut b9.extBut D.l2z).extBut cC.extBut D.l2i1) hy fun gC Y1 dw=>aai ?_);refine aai (aai ?_);refine aaa (wpAny_newTuple (hsz:=(by decide:2<=aas)) ?_);have hsz:gC.objs.size=s.heap.objs.size:=by rw[dw.1,cC.1,b9.1]
 refine aai ⟨_,rfl,?_⟩;show Q (.ref gC.objs.size) _;have Y2:kM gC z TI TO (aeh T) true:=dw.extBut _ _ D.i2z.symm (cC.extBut _ _ D.i1z.symm hV);have up:∀c o,gC.get? c=some o->(gC.push { cls:=.type "tuple",data:=.seq #[x,y] }).get? c=some o:=fun c o e=>aad _ e
 rw[hsz];refine hQ _ (up _ _ Y2) (((pG.extBut dw.extBut D.i12)).at fun o e=>up _ o e) (Y1.at fun o e=>up _ o e) ?_ fun c o c1 c3 c4 e=>up c o (dw.extBut _ _ c4 (cC.extBut _ _ c3 (b9.extBut _ _ c1 e)))
 rw[<- hsz];exact aat _ rfl
theorem MA{TI TO:Addr}{Q:Fin->aaf->Prop}(hh:A.handled=none)(D:acT z TI TO i1 i2 l1 l2)
  (hz:kM s.heap z TI TO (aeh T) b) (hT:s.heap.get? T=some o) (bt:abS s.heap TI (.ref i1) (.ref i2))
  (h1:s.heap.IsListIter i1 l1 k1) (h2:s.heap.IsListIter i2 l2 k2) (cu:s.heap.IsList l1 xs) (ce:s.heap.IsList l2 ys) (jS:xs[k1]? =none\/ys[k2]? =none)
  (hE:∀h' e,(∀c o,c≠z->c≠i1->c≠i2->s.heap.get? c=some o->h'.get? c=some o)->(∃o,h'.get? e=some o/\o.cls=.type "StopIteration")->E (.ref e) { s with heap:=h' }) :
  wpAny (model prog w) A (afn.«zip.__next__» ⟨[.ref z],[]⟩) Q E s:=by
 show wpAny _ _ (field (.ref z) 2 >>= _) _ _ _;refine aaa (aaY hz rfl (x:=.bool false) rfl ?_);show wpAny _ _ (field (.ref z) 3 >>= _) _ _ _;refine aaa (aaY hz rfl (x:=.ref TI) rfl ?_);refine aaa (abu bt rfl ?_);show wpAny _ _ (aaF (.ref z) >>= _) _ _ _;refine aaa (busy hz hT fun fh hV b9=>?_);simp only[adi,if_false];refine aaa ?_;simp only[<- afx,acA,aec];refine aaa (aaa (abg ?_));show wpAny _ _ (aaE (.ref i1) >>= _) _ _ _;cases hx:xs[k1]? with
 | none=>
  refine aaa (wpAny_nextOf_list_end hh (h1.extBut b9.extBut D.i1z) (cu.extBut b9.extBut D.l1z) hx fun jp e cC he=>?_);exact hE jp e (fun c o c1 c3 _ x=>cC _ _ c3 (b9.extBut _ _ c1 x)) he
 | some x=>
  have hy:ys[k2]? =none:=by rcases jS with h | h;rw[hx] at h;cases h;exact h
  refine aaa (adl (h1.extBut b9.extBut D.i1z) (cu.extBut b9.extBut D.l1z) hx fun jp pG cC=>aai ?_);refine aai ?_;refine aaa (aaa (abg ?_));show wpAny _ _ (aaE (.ref i2) >>= _) _ _ _;refine aaa (wpAny_nextOf_list_end hh ((h2.extBut b9.extBut D.i2z).extBut cC.extBut D.i12.symm) ((ce.extBut b9.extBut D.l2z).extBut cC.extBut D.l2i1) hy fun gC e dw he=>?_);exact hE gC e (fun c o c1 c3 c4 x=>dw _ _ c4 (cC.extBut _ _ c3 (b9.extBut _ _ c1 x))) he
noncomputable def ly(h:Heap)(z TI TO i1 i2 S:Addr):Prop:=
 (IsZip h z TI TO .none/\∃a b,abS h TO a b)\/∃(T:Addr) (b:Bool) (o:Obj),kM h z TI TO (aeh T) b/\h.get? T=some o/\T≠z/\T≠TO/\T≠i1/\T≠i2/\T≠S
variable{S:Addr}
theorem ly.keep{h h':Heap}{TI TO:Addr}(st:ly h z TI TO i1 i2 S)(hz:z≠S)(bI:TO≠S)(k:∀c o,c≠S->h.get? c=some o->h'.get? c=some o):ly h' z TI TO i1 i2 S:=by
 rcases st with⟨e,a,b,p⟩ | ⟨T,b,o,e,eT,t1,t2,t3,t4,t5⟩
 ·exact .inl ⟨k _ _ hz e,a,b,k _ _ bI p⟩
 ·exact .inr ⟨T,b,o,k _ _ hz e,k _ _ t5 eT,t1,t2,t3,t4,t5⟩
theorem QN{TI TO:Addr}{oS:Obj}{x y:Value}{Q:Option Value->aaf->Prop}(D:acT z TI TO i1 i2 l1 l2)(st:ly s.heap z TI TO i1 i2 S)(hS:s.heap.get? S=some oS)(fc:TO<s.heap.objs.size)(bt:abS s.heap TI (.ref i1) (.ref i2))
  (h1:s.heap.IsListIter i1 l1 k1) (h2:s.heap.IsListIter i2 l2 k2) (cu:s.heap.IsList l1 xs) (ce:s.heap.IsList l2 ys) (hx:xs[k1]? =some x) (hy:ys[k2]? =some y)
  (hQ:∀h',ly h' z TI TO i1 i2 S->h'.IsListIter i1 l1 (k1+1)->h'.IsListIter i2 l2 (k2+1)->abS h' s.heap.objs.size x y →
   (∀c o,c≠z->c≠TO->c≠i1->c≠i2->s.heap.get? c=some o->h'.get? c=some o)->Q (some (.ref s.heap.objs.size)) { s with heap:=h' }) :
  wpAny (model prog w) A (adU (.ref z)) Q E s:=by
 have lt:∀{c:Addr} {o:Obj},s.heap.get? c=some o->s.heap.objs.size≠c:=fun e=>abw (aah e)
 have n1:s.heap.objs.size≠i1:=by obtain⟨o,e,_⟩:=h1;exact lt e
 have n2:s.heap.objs.size≠i2:=by obtain⟨o,e,_⟩:=h2;exact lt e
 rcases st with⟨hz,a,b,bI⟩ | ⟨T,b,o,hz,hT,t1,t2,t3,t4,t5⟩
 ·refine wpAny_pyNext_zip_item D hz bt bI h1 h2 cu ce hx hy fun h' a1 a2 a3 a4 a5 a6 hk=>?_
  exact hQ h' (.inr ⟨_,false,_,a1,a5,lt hz,lt bI,n1,n2,lt hS⟩) a3 a4 a5 hk
 ·have pL:s.TypeIs (.ref z) "zip":=⟨_,hz,rfl⟩
  unfold adU;exact aaa (aew (abb (name:=aae "__next__") pL acb
   (abv acb pL ady
    (LN D hz hT bt h1 h2 cu ce hx hy fun h' a1 a3 a4 a5 hk=>aai (hQ h' (.inr ⟨T,true,o,a1,hk _ _ t1 t3 t4 hT,t1,t2,t3,t4,t5⟩) a3 a4 a5 fun c o c1 _ c3 c4 e=>hk c o c1 c3 c4 e)) (adn _))))
theorem Sm{TI TO:Addr}{Q:Option Value->aaf->Prop}(hh:A.handled=none)(D:acT z TI TO i1 i2 l1 l2)(st:ly s.heap z TI TO i1 i2 S)(bt:abS s.heap TI (.ref i1) (.ref i2))
  (h1:s.heap.IsListIter i1 l1 k1) (h2:s.heap.IsListIter i2 l2 k2) (cu:s.heap.IsList l1 xs) (ce:s.heap.IsList l2 ys) (jS:xs[k1]? =none\/ys[k2]? =none)
  (hQ:∀h',(∀c o,c≠z->c≠TO->c≠i1->c≠i2->s.heap.get? c=some o->h'.get? c=some o)->Q none { s with heap:=h' }):wpAny (model prog w) A (adU (.ref z)) Q E s:=by
 rcases st with⟨hz,a,b,bI⟩ | ⟨T,b,o,hz,hT,t1,t2,t3,t4,t5⟩
 ·exact wpAny_pyNext_zip_end hh D hz bt bI h1 h2 cu ce jS hQ
 ·have pL:s.TypeIs (.ref z) "zip":=⟨_,hz,rfl⟩
  unfold adU;refine aaa (aew (abb (name:=aae "__next__") pL acb
   (abv acb pL ady (MA hh D hz hT bt h1 h2 cu ce jS fun h' e hk he=>?_) (adn _))))
  obtain⟨o,ho,hc⟩:=he;refine aaa (wpAny_isInstance (T:="StopIteration") (b:=true) ⟨o,ho,hc⟩ isSubtype_stop ?_);exact aai (hQ _ fun c o c1 _ c3 c4 e=>hk c o c1 c3 c4 e)
theorem Pp:afC (.type "zip") "__len__"=pure none:=by rw[typeLookup_type,builtinLookup_eq_fast];kernel_rfl
theorem NN:afC (.type "zip") "__length_hint__"=pure none:=by rw[typeLookup_type,builtinLookup_eq_fast];kernel_rfl
end
end ZL
end PySem
namespace IL
open PySem PySem.Spec PyProof.Rows L2
noncomputable def sJ(xs:List W):Po W:=fun ph=>match xs with
 | [.ref a,.ref b]=>match ph[a]?,ph[b]? with
  | some (.lst us),some (.lst vs)=>some (.ref ph.length,ph++[.lst (cq us vs)])
  | _,_=>none
 | _=>none
noncomputable def sL(m:AM):EM:=fun σ=>aq (m σ) fun xs=>lift (sJ xs)
theorem B0(us vs:List W):(cq us vs).length=min us.length vs.length:=by unfold cq;rw[aag,adh]
theorem Pq{us vs:List W}{i:Nat}{x y:W}(hx:us[i]? =some x)(hy:vs[i]? =some y):(cq us vs).take (i+1)=(cq us vs).take i++[.tup [x,y]]:=by
 have e:(cq us vs)[i]? =some (.tup [x,y]):=by
  unfold cq;rw[aak,acQ (z:=(x,y)) |>.mpr ⟨hx,hy⟩];rfl
 rw[List.take_add_one,e];rfl
theorem Sn{H:Hp}{a b:Addr}{o u o':HO}(h:b≠a):upd (upd (upd H a o) b u) a o'=upd (upd H b u) a o':=by
 funext c
 by_cases h1:c=a
 ·rw[h1,bF,bF]
 ·rw[aW h1,aW h1];by_cases h2:c=b
  ·rw[h2,bF,bF]
  ·rw[aW h2,aW h2,aW h1]
section
variable{X:Cx}{pins:List (Addr×Obj)}{σ:L2.St}
theorem So{A:acm}{R:Result->aaf->Prop}{z TI TO i1 i2 S:Addr}{us vs:List W}{ph:PH}{φ:Nat->Addr}{ia ib:Nat}{res:Value}(hh:A.handled=none)(D:acT z TI TO i1 i2 (φ ia) (φ ib))(hS:S∉[z,TI,TO,i1,i2])
  (qa:ph[ia]? =some (.lst us)) (qb:ph[ib]? =some (.lst vs)) :
  ∀(k i:Nat) (s:aaf) (H0:Hp) (av:List V),(cq us vs).length-i=k->i<=(cq us vs).length->aD X.K φ ph H0->H0 S=none->Inv X pins σ (upd H0 S (.lst av)) s →
   (∀c∈[z,TI,TO,i1,i2],eo X pins (upd H0 S (.lst av)) c/\c<s.heap.objs.size)->ZL.ly s.heap z TI TO i1 i2 S->abS s.heap TI (.ref i1) (.ref i2)->s.heap.IsListIter i1 (φ ia) i->s.heap.IsListIter i2 (φ ib) i →
   aM X.K φ ph.length H0 ((cq us vs).take i) av →
   (∀s' H' iJ,aD X.K φ ph H'->H' S=none->Step X.K φ ph.length H0 φ ph.length H'->Inv X pins σ (upd H' S (.lst iJ)) s'->aM X.K φ ph.length H' (cq us vs) iJ->R (.ok (.ret res)) s') →
   afB (model X.prog X.w) A (.builtin "list.extend.loop" ⟨[.ref S,.ref z,res],[]⟩) R s:=by
 have nS:S≠z/\S≠TI/\S≠TO/\S≠i1/\S≠i2:=by simpa using hS
 intro k
 induction k with
 | zero=>
  intro i s H0 av hk hi hH hn I hf st bt h1 h2 hr hR;obtain⟨va,ga,ra⟩:=hH.hp _ _ qa;obtain⟨vb,gb,rb⟩:=hH.hp _ _ qb;have na:φ ia≠S:=fun e=>by rw[e,hn] at ga;cases ga
  have nb:φ ib≠S:=fun e=>by rw[e,hn] at gb;cases gb
  obtain⟨gz,fG,px,_⟩:=I.list (aP.of (K:=X.K) ((aW na).trans ga));obtain⟨gA,fH,py,_⟩:=I.list (aP.of (K:=X.K) ((aW nb).trans gb));have fF:i=(cq us vs).length:=by omega
  have hl:=B0 us vs;have l1:=ra.length;have l2:=rb.length;have l3:=fG.length;have l4:=fH.length;refine acB aee ?_;rw[abR acl _];show wpAny _ A.in1 (adU (.ref z) >>= _) _ _ s;refine aaa (ZL.Sm hh D st bt h1 h2 px.isList py.isList ?_ fun h' lq=>?_)
  ·by_cases h:us.length<=i
   ·exact .inl (by simp;omega)
   ·exact .inr (by simp;omega)
  ·refine aai (hR _ H0 av hH hn Step.refl (nV (t':=s.toks) I (fun c o hc q=>?_) fun c hc=>(hf c hc).1) ?_)
   ·have n:c≠z/\c≠TI/\c≠TO/\c≠i1/\c≠i2:=by simpa using hc
    exact lq c o n.1 n.2.2.1 n.2.2.2.1 n.2.2.2.2 q
   ·rw[fF,aeC] at hr;exact hr
 | succ k ih=>
  intro i s H0 av hk hi hH hn I hf st bt h1 h2 hr hR;obtain⟨va,ga,ra⟩:=hH.hp _ _ qa;obtain⟨vb,gb,rb⟩:=hH.hp _ _ qb;have na:φ ia≠S:=fun e=>by rw[e,hn] at ga;cases ga
  have nb:φ ib≠S:=fun e=>by rw[e,hn] at gb;cases gb
  obtain⟨gz,fG,px,zx⟩:=I.list (aP.of (K:=X.K) ((aW na).trans ga));obtain⟨gA,fH,py,zy⟩:=I.list (aP.of (K:=X.K) ((aW nb).trans gb));have hl:=B0 us vs;have l1:=ra.length;have l2:=rb.length;obtain⟨x,hx⟩:∃x,us[i]? =some x:=⟨_,aaO (by omega)⟩
  obtain⟨y,hy⟩:∃y,vs[i]? =some y:=⟨_,aaO (by omega)⟩
  obtain⟨u,eu,ru⟩:=ra.get hx;obtain⟨v,ev,rv⟩:=rb.get hy;obtain⟨u',ze,g8⟩:=fG.get eu;obtain⟨v',Y3,uq⟩:=fH.get ev;obtain⟨its,n,rS,eS,hz⟩:=I.lst (p:=S) bF;have lS:=rS.length;have lr:=hr.length;rw[abD,adN (by omega)] at lr;have ZJ:i+1<=sizeLine:=by omega
  have bI:TO<s.heap.objs.size:=(hf TO (by simp)).2;have ux:s.heap.objs.size≠S:=abw (aah eS);have Gs:=I.aG.fresh (aaj s.heap.objs.size);have pM:H0 s.heap.objs.size=none:=by rw[aW ux] at Gs;exact Gs
  refine acB aee ?_;rw[abR acl _];show wpAny _ A.in1 (adU (.ref z) >>= _) _ _ s;refine aaa (ZL.QN D st eS bI bt h1 h2 px.isList py.isList (x:=u') (y:=v') (by simpa using ze) (by simpa using Y3) fun h' cP Y4 yO ls lq=>?_);have kk:∀c o,c∉[z,TI,TO,i1,i2]->s.heap.get? c=some o->h'.get? c=some o:=fun c o hc q=>by
   have n:c≠z/\c≠TI/\c≠TO/\c≠i1/\c≠i2:=by simpa using hc
   exact lq c o n.1 n.2.2.1 n.2.2.2.1 n.2.2.2.2 q
  have new:cI X.prog X.w (upd (upd H0 S (.lst av)) s.heap.objs.size (.tup [u,v])) h' s.heap.objs.size (.tup [u,v]):=
   ⟨by show 2<=aas;decide,[u',v'],.cons g8 (.cons uq .nil),_,ls,rfl,_,rfl⟩
  have I1:=rC (s:=s) (h':=h') (t':=s.toks) I kk (fun c hc=>(hf c hc).1) (aaj _) new;have Gu:h'.get? S=some { cls:=.type "list",data:=.seq its.toArray n }:=kk S _ hS eS;have I2:=I1.mI (l:=S) (its':=its++[abc s.heap.objs.size]) (f:=(·.push (abc s.heap.objs.size))) (t':=s.toks) ((aW (abL ux)).trans bF) Gu (by simp) (ys:=av++[V.ref s.heap.objs.size]) (Vals.append rS (show Vals [V.ref s.heap.objs.size] [abc s.heap.objs.size] from .cons rfl .nil)) (by rw[aaI];show av.length+1<=aas;omega);rw[Sn ux] at I2;have dh:∀c o,c≠S->h'.get? c=some o->(h'.update S (abC (·.push (abc s.heap.objs.size)))).get? c=some o:=fun c o hc q=>(abG _ _ (abL hc)).trans q
  show wpAny _ A.in1 (updateSeq S (·.push (.ref s.heap.objs.size)) >>= _) _ _ _;refine aaa (adP Gu rfl (aai ⟨adC acl _,?_⟩) (by simp;omega) (by simp;omega));have Y5:(h'.update S (abC (·.push (abc s.heap.objs.size)))).objs.size=h'.objs.size:=(aca (h:=h') ..).1;have lt':s.heap.objs.size<h'.objs.size:=aah ls;refine ih (i+1) _ (upd H0 s.heap.objs.size (.tup [u,v])) (av++[V.ref s.heap.objs.size]) (by omega) (by omega) (hH.tup pM) ((aW (abL ux)).trans hn) I2 (fun c hc=>⟨⟨?_,(hf c hc).1.2⟩,?_⟩) (cP.keep (abL nS.1) (abL nS.2.2.1) dh) (dh _ _ (abL nS.2.1) (lq _ _ D.TIz D.TITO D.TIi1 D.TIi2 bt)) (Y4.at fun o e=>dh _ o (abL nS.2.2.2.1) e) (yO.at fun o e=>dh _ o (abL nS.2.2.2.2) e) ?_ fun s' H' iJ q1 q2 q3 q4 q5=>hR s' H' iJ q1 q2 ((dj pM).trans q3) q4 q5
  ·have e:=(hf c hc).1.1;have cS:c≠S:=fun e=>hS (e▸hc)
   rw[aW cS] at e;rw[aW cS,aW (aaQ (hf c hc).2)];exact e
  ·show c<(h'.update S _).objs.size;rw[Y5];exact Nat.lt_trans (hf c hc).2 lt'
  ·rw[Pq hx hy];exact aM.append (hr.mono (dj pM)) (.cons (.tup bF (.cons (ru.mono (dj pM)) (.cons (rv.mono (dj pM)) .nil))) .nil)
theorem QO{E:Value->aaf->Prop}{Q:Value->aaf->Prop}{z TI TO i1 i2:Addr}{us vs:List W}{ph:PH}{φ:Nat->Addr}{ia ib:Nat}{s:aaf}{H:Hp}(hh:X.A.handled=none)(D:acT z TI TO i1 i2 (φ ia) (φ ib))
  (qa:ph[ia]? =some (.lst us)) (qb:ph[ib]? =some (.lst vs)) (hH:aD X.K φ ph H) (I:Inv X pins σ H s) (hf:∀c∈[z,TI,TO,i1,i2],eo X pins H c/\c<s.heap.objs.size)
  (hz:IsZip s.heap z TI TO .none) (bt:abS s.heap TI (.ref i1) (.ref i2)) (bI:∃a b,abS s.heap TO a b) (h1:s.heap.IsListIter i1 (φ ia) 0) (h2:s.heap.IsListIter i2 (φ ib) 0)
  (hQ:∀s' H' iJ S,aD X.K φ ph H'->H' S=none->Step X.K φ ph.length H φ ph.length H'->Inv X pins σ (upd H' S (.lst iJ)) s'->aM X.K φ ph.length H' (cq us vs) iJ->Q (.ref S) s') :
  wpAny (model X.prog X.w) X.A (call (.type "list") [.ref z]) Q E s:=by
 refine callType_codes (Q₁:=fun obj bv=>obj=.ref s.heap.objs.size/\bv={ s with heap:=s.heap.push { cls:=.type "list",data:=.seq #[] } }) PySem.F.called_list (PySem.F.typeCall_list_1 _) PySem.F.entry_list_init
  (code_list_new _ ⟨rfl,rfl⟩) fun obj bv fh=>?_
 obtain⟨rfl,rfl⟩:=fh;have I1:Inv X pins σ (upd H s.heap.objs.size (.lst [])) { s with heap:=s.heap.push { cls:=.type "list",data:=.seq #[] },toks:=s.toks }:=I.tj (its:=[]) .nil (abB _);have hn:=I.aG.fresh (aaj s.heap.objs.size);generalize eS:s.heap.objs.size=S at hn I1;have hS:(s.heap.push { cls:=.type "list",data:=.seq #[] }).get? S=some { cls:=.type "list",data:=.seq #[] }:=by rw[<- eS];exact aat _ rfl
 have fc:∀c∈[z,TI,TO,i1,i2],c<S:=fun c hc=>by rw[<- eS];exact(hf c hc).2
 have Gv:S∉[z,TI,TO,i1,i2]:=fun hm=>abK _ (fc _ hm)
 have nS:S≠z/\S≠TI/\S≠TO/\S≠i1/\S≠i2:=by simpa using Gv
 refine⟨⟨_,hS,rfl⟩,PySem.F.args_list_init_2 _ _,?_⟩;show wpAny _ _ (do let old <- aeI (.ref S);Builtin.List.listUpdate (.ref S) (fun _=> #[]);letGo old.toList.reverse;acE (.ref S) (.ref z) .none) _ _ _;refine aaa ?_;unfold aeI;refine aaa (abu hS rfl (aai ?_));show wpAny _ _ (updateSeq S (fun _=> #[]) >>= fun _=>letGo (#[]:Array Value).toList.reverse >>= fun _=>acE (.ref S) (.ref z) .none) _ _ _;have Y6:(s.heap.push { cls:=.type "list",data:=.seq #[] }).objs.size=S+1:=by rw[ack,eS]
 refine aaa (adP hS rfl ?_);have I2:=I1.mI (l:=S) (its:=[]) (its':=[]) (ys:=[]) (f:=fun _=>(#[]:Array Value)) (t':=s.toks) bF hS rfl .nil (abB _);rw[iS] at I2;have Y7:=ads (abC (fun _=>(#[]:Array Value))) hS rfl;have Gw:((s.heap.push { cls:=.type "list",data:=.seq #[] }).update S (abC (fun _=>(#[]:Array Value)))).objs.size=S+1:=(aca (h:=s.heap.push _) ..).1.trans Y6;have dh:∀b o,b≠S->s.heap.get? b=some o->((s.heap.push { cls:=.type "list",data:=.seq #[] }).update S (abC (fun _=>(#[]:Array Value)))).get? b=some o:=
  fun b o hb e=>(abG _ _ (abL hb)).trans (aad _ e)
 refine aaa (afo ?_);generalize ((s.heap.push { cls:=.type "list",data:=.seq #[] }).update S (abC (fun _=>(#[]:Array Value))))=g2 at Y7 dh I2 Gw;have zf:IsZip g2 z TI TO .none:=dh _ _ (abL nS.1) hz;have tz:({ s with heap:=g2 }:aaf).TypeIs (.ref z) "zip":=⟨_,zf,rfl⟩
 unfold acE;refine aaa (aeQ (T:="zip") tz ?_);have c1:aem (.ref S) (.ref z)=false:=by simp[aem,nS.1]
 have c3:(aef "zip"==aef "list")=false:=by decide
 have c4:(aef "zip"==aef "tuple")=false:=by decide
 simp only[c1,c3,c4,aer,adi,if_false];refine aaa (acU (s:={ s with heap:=g2 }) zf ?_);refine aaa (abg ?_);unfold Builtin.List.listLengthHint;refine aaa (adM tz ZL.Pp ?_);show wpAny _ _ (specialOf (abc z) (aae "__length_hint__") >>= _) _ _ _;refine aaa (adM tz ZL.NN ?_);refine aai ?_;show wpAny _ _ (rule "list.extend.makes-room" >>= fun _=>Builtin.List.listTouch (.ref S) >>= fun _=>again (.builtin "list.extend.loop" ⟨[.ref S,.ref z,.none],[]⟩)) _ _ _;refine aaa (afa ?_);refine aaa ?_;show wpAny _ _ (updateSeq S (·.push .none) >>= fun _=>updateSeq S (·.pop)) _ _ _;obtain⟨its,n,rS,e2,_⟩:=I2.lst (p:=S) bF;cases rS;refine aaa (adP e2 rfl ?_);have I3:=I2.mI (l:=S) (its:=[]) (its':=[abN]) (ys:=[V.aO]) (f:=(·.push abN)) (t':=s.toks) bF e2 rfl (.cons rfl .nil) (by show 1<=aas;decide);rw[iS] at I3;have Gx:(g2.update S (abC (·.push abN))).objs.size=S+1:=(aca (h:=g2) ..).1.trans Gw;have Fo:∀b o,b≠S->s.heap.get? b=some o->(g2.update S (abC (·.push abN))).get? b=some o:=fun b o hb e=>(abG _ _ (abL hb)).trans (dh b o hb e)
 generalize (g2.update S (abC (·.push abN)))=g3 at I3 Fo Gx;obtain⟨its,n,rS,e3,_⟩:=I3.lst (p:=S) bF;cases rS with
 | cons r1 rS=>
 cases rS;refine adP e3 rfl ?_;have I4:=I3.mI (l:=S) (its':=[]) (ys:=[]) (f:=(·.pop)) (t':=s.toks) bF e3 (by simp) .nil (abB _);rw[iS] at I4;have Gy:(g3.update S (abC (·.pop))).objs.size=S+1:=(aca (h:=g3) ..).1.trans Gx;have mY:∀b o,b≠S->s.heap.get? b=some o->(g3.update S (abC (·.pop))).get? b=some o:=fun b o hb e=>(abG _ _ (abL hb)).trans (Fo b o hb e)
 generalize (g3.update S (abC (·.pop)))=g4 at I4 mY Gy;obtain⟨pa,pb,Y8⟩:=bI;refine aai ⟨adC acl _,?_⟩;refine So (X:=X) (A:=X.A.in1) (pins:=pins) (σ:=σ) hh D Gv qa qb _ 0 _ H [] rfl (abB _) hH hn I4 (fun c hc=>⟨⟨?_,(hf c hc).1.2⟩,?_⟩) (.inl ⟨mY _ _ (abL nS.1) hz,pa,pb,mY _ _ (abL nS.2.2.1) Y8⟩) (mY _ _ (abL nS.2.1) bt) (h1.at fun o e=>mY _ o (abL nS.2.2.2.1) e) (h2.at fun o e=>mY _ o (abL nS.2.2.2.2) e) .nil fun s' H' iJ q1 q2 q3 q4 q5=>?_
 ·rw[aW (aaQ (fc c hc))];exact(hf c hc).1.1
 ·show c<g4.objs.size;rw[Gy];exact Nat.lt_succ_of_lt (fc c hc)
 ·exact⟨rfl,hQ s' H' iJ S q1 q2 q3 q4 q5⟩
end
section
variable{X:Cx}{a b:Expr}{am:AM}{p p2 pos fQ:Pos}
theorem Sq(hc:X.calm=true)(hg:Gl X "list")(hm:X.mg "list"=none)(zm:Gl X "zip")(zo:X.mg "zip"=none)(hs:aaA [a,b] X.env=[(false,eval a X.env),(false,eval b X.env)])(bQ:aaA [b] X.env=[(false,eval b X.env)])(ha:IA X [a,b] am) :
  IE X (.Call (.Name "list" p) [.Call (.Name "zip" p2) [a,b] [] fQ] [] pos) (sL am):=by
 intro pins s σ H Q I h;obtain⟨φ,ph,ws,hH,hS,h⟩:=h;refine adf (iV I hg hm abr ?_ (by decide) (by decide));refine aaW ?_ (cU rfl) (any_none rfl);rw[show aaA [.Call (.Name "zip" p2) [a,b] [] fQ] X.env=(false,eval (.Call (.Name "zip" p2) [a,b] [] fQ) X.env)::aaA [] X.env from cU rfl];show wpAny _ _ (spliced ((false,eval (.Call (.Name "zip" p2) [a,b] [] fQ) X.env)::adp pos (aaA [] X.env))) _ _ _;refine afu (Call_ (iV I zm zo vF (aaW (aS (ha fQ pins s σ H (fun vs H1=>∃ia ib us jl ph1 au,vs=[.ref (au ia),.ref (au ib)]/\ph1[ia]? =some (.lst us)/\ph1[ib]? =some (.lst jl)/\aD X.K au ph1 H1/\Step X.K φ ph.length H au ph1.length H1 /\
  ∀ap H' v,aD X.K ap (ph1++[.lst (cq us jl)]) H'->Step X.K φ ph.length H ap (ph1++[PO.lst (cq us jl)]).length H'->aJ X.K ap (ph1++[PO.lst (cq us jl)]).length H' (.ref ph1.length) v->Q v H') I ?_) fun us s1 ⟨vs,H1,I1,r1,q1⟩=>?_) (by rw[hs,bQ]) (by rw[bQ];rfl))))
 ·refine tA.bind hH hS h fun xs ph1 au H1 vs ax s1 r1 h=>?_
  obtain⟨w2,ph2,e,k⟩:=run_lift h;unfold sJ at e;split at e
  ·rename_i wa wb;split at e
   ·rename_i us jl qa qb;cases e;cases r1 with
    | cons ra rr=>
     cases rr with
     | cons rb rr=>
      cases rr;cases ra with
      | ref Gn=>
      cases rb with
      | ref Gp=>
      exact⟨wa,wb,us,jl,ph1,au,rfl,qa,qb,ax,s1,k⟩
   ·cases e
  ·cases e
 ·obtain⟨ia,ib,ZX,jl,ph1,au,e,qa,qb,ax,Y9,hQ⟩:=q1;subst e;obtain⟨u1,u2,rfl,r1,r2⟩:=Vals.two r1;cases r1;cases r2;obtain⟨va,ga,ra⟩:=ax.hp _ _ qa;obtain⟨vb,gb,rb⟩:=ax.hp _ _ qb;obtain⟨gz,fG,px,_⟩:=I1.list (aP.of (K:=X.K) ga);obtain⟨gA,fH,py,_⟩:=I1.list (aP.of (K:=X.K) gb);refine call_zip_2 px.isList py.isList fun h' hz bt bI h1 h2 hsz hk=>?_
  refine Calls.spliced_nil ?_;have I2:Inv X pins σ H1 { s1 with heap:=h' }:=I1.kept (t':=s1.toks) hk;have la:au ia<s1.heap.objs.size:=by obtain⟨o,e,_⟩:=px.isList;exact aah e
  have lb:au ib<s1.heap.objs.size:=by obtain⟨o,e,_⟩:=py.isList;exact aah e
  refine QO (X:=X) (pins:=pins) (σ:=σ) (s:={ s1 with heap:=h' }) (I1.ok.hd hc) (xk la lb) qa qb ax I2 (fun c hc=>?_) hz bt ⟨_,_,bI⟩ h1 h2 fun s' H' iJ S q1 q2 q3 q4 q5=>?_
  ·have gX:c=s1.heap.objs.size+4\/c=s1.heap.objs.size+2\/c=s1.heap.objs.size+3\/c=s1.heap.objs.size\/c=s1.heap.objs.size+1:=by simpa using hc
   have Gz:s1.heap.objs.size<=c:=by rcases gX with e | e | e | e | e <;> rw[e] <;> first | exact aaj _ | exact aeD _ _
   refine⟨I1.i6 Gz (I1.aG.fresh Gz),?_⟩;show c<h'.objs.size;obtain⟨o1,e1,_⟩:=h1;obtain⟨o2,e2,_⟩:=h2
   rcases gX with e | e | e | e | e <;> rw[e]
   ·exact aah hz
   ·exact aah bt
   ·exact aah bI
   ·exact aah e1
   ·exact aah e2
  ·obtain⟨w1,w2,w3⟩:=gE q1 q5 q2;exact⟨.ref S,_,q4,rfl,hQ _ _ _ w1 ((Y9.trans q3).trans w2) w3⟩
theorem Sr(hc:X.calm=true)(hg:Gl X "list")(hm:X.mg "list"=none)(zm:Gl X "zip")(zo:X.mg "zip"=none)(hn:isStar a=false)(j7:isStar b=false)(ha:JA X [a,b] am):JE X (.Call (.Name "list" p) [.Call (.Name "zip" p2) [a,b] [] fQ] [] pos) (sL am):=⟨Sq hc hg hm zm zo (by rw[cU hn,cU j7];rfl) (by rw[cU j7];rfl) ha.h⟩
end
end IL
namespace PyProof.Rows
open PySem PySem.Spec PySem.Calls PyProof.V
namespace KTD
section
variable{prog:aba}{w:World}{A:acm}{E:Value->aaf->Prop}{s:aaf}{δ:Type}{R:δ->Value->Prop}{a:Addr}{D:List (Str×δ)}{k:Str}{tk:Tok}
theorem lA(T:TabOf R s.heap a D):s.TypeIs (.ref a) "dict":=let ⟨_,o,_,_,ho,hc,_⟩:=T;⟨o,ho,hc.1⟩
theorem zY{Q:Option Value->aaf->Prop}(T:TabOf R s.heap a D)(h1:∀d v,datumAt k D=some d->R d v->Q (some v) { s with toks:=s.toks+1 })(h2:datumAt k D=none->Q none { s with toks:=s.toks+1 }) :
  wpAny (model prog w) A (dictGet a (.str k tk)) Q E s:=by
 obtain⟨_,o,es,ep,ho,hc,hd,hr⟩:=T;unfold dictGet
 try with_reducible refine abg ?_
 refine aaa (wpAny_pyHash_str (aaa (kt_dictFind_strs (s:={ s with toks:=s.toks+1 }) ho hd (by obtain⟨l⟩:=es;simpa using hr.exact) ?_)));have hq:Q (findBy (fun k v=>v.isStr k) es k) { s with toks:=s.toks+1 }:=by
  have hf:findBy (fun k v=>v.isStr k) es k=(es.toList.find? fun e=>e.key.isStr k).map (·.val):=by
   obtain⟨l⟩:=es;simp[findBy]
  rw[hf];cases jk:datumAt k D with
  | some d=>obtain⟨v,hv,nj⟩:=hr.find_some jk;rw[hv];exact h1 d v jk nj
  | none=>rw[hr.find_none jk];exact h2 jk
 rw[findBy_of_findIdx?] at hq;cases hi:es.findIdx? fun e=>e.key.isStr k with
 | none=>rw[hi] at hq;exact aai hq
 | some i=>rw[hi] at hq;exact aaa (wpAny_dictEntries (s:={ s with toks:=s.toks+1 }) ho hd (aai hq))
theorem Ng{value slice:Expr}{Q:Value->aaf->Prop}(T:TabOf R s.heap a D)(XB:inKeys k D=true)(h:∀d v,datumAt k D=some d->R d v->Q v { s with toks:=s.toks+1 })
  (hs:afm slice false (.ref a) (.str k tk)=operate [.ref a,.str k tk] (afl (.ref a) (.str k tk)):=by with_unfolding_all rfl) (hg:∀r,letTemporaryGo value (.ref a) r=pure ():=by intro _;with_unfolding_all rfl) :
  wpAny (model prog w) A (aeq value slice (.ref a) (.str k tk)) Q E s:=by
 refine subscriptTail_builtin (lA T) aen.lookup ?_ hs hg;unfold afl
 try with_reducible refine abg ?_
 refine aaa (wpAny_sequenceKey (lA T) (by decide) ?_);refine aaa (abb (name:=aae "__getitem__") (lA T) aen
  (abv aen (lA T) entry_dict_getitem ?_ (args_dict_getitem _ _)))
 show wpAny _ _ (dictGet a (.str k tk) >>= _) _ _ s;exact aaa (zY T (fun d v ha hv=>aai ⟨v,rfl,aai (h d v ha hv)⟩) fun hn=>absurd hn (at_of_mem XB))
theorem MB{Q:Value->aaf->Prop}(T:TabOf R s.heap a D)(h:Q (.bool (!inKeys k D)) { s with toks:=s.toks+1 }):wpAny (model prog w) A (aaX .NotIn (.str k tk) (.ref a)) Q E s:=by
 show wpAny _ _ (do return .bool (!(<- contains (.ref a) (.str k tk)))) Q E s;refine aaa ?_;unfold contains
 try with_reducible refine abg ?_
 refine aaa (adM (lA T) adZ.lookup ?_);show wpAny _ _ (if(some (Value.builtin "dict.__contains__")==some abN)=true then _ else _) _ E s;rw[if_neg (by rw[beq_builtin_none];exact aaJ)];refine aaa (wpAny_callSpecialUnlessNone?_slot (name:=aae "__contains__") (lA T) adZ
  (abv adZ (lA T) entry_dict_contains ?_ (args_dict_contains _ _)))
 show wpAny _ _ (dictGet a (.str k tk) >>= _) _ _ s;refine aaa (zY T (fun d v ha _=>?_) fun hn=>?_)
 ·have hb:inKeys k D=true:=by rw[<- isSome_datumAt,ha];rfl
  rw[hb] at h;show wpAny _ _ (ret (.bool true)) _ _ _;exact aai ⟨_,rfl,abo (aai h)⟩
 ·have hb:inKeys k D=false:=by rw[<- isSome_datumAt,hn];rfl
  rw[hb] at h;show wpAny _ _ (Builtin.Dict.pendingKey? a (.str k tk) >>= _) _ _ _;exact aaa (wpAny_pendingKey_other T.1 (aai ⟨_,rfl,abo (aai h)⟩))
end
end KTD
end PyProof.Rows
namespace PySem.Txt
theorem join_eq(z:Str)(l:List Str):afN z l=Str.join z l:=StrLaws.glued_eq_join z l
end PySem.Txt
namespace IL
open PySem PySem.Spec PyProof.Rows L2
noncomputable def dO(k:Str):List (Str×List Str)->Option (List Str)
 | []=>none
 | (x,d)::D=>if decide (k=x)=true then some d else dO k D
noncomputable def sM(D:List (Str×List Str))(w:W):Po W:=fun ph=>match w with
 | .str k=>(dO k D).map fun l=>(.kt (l.map W.str),ph)
 | _=>none
noncomputable def sN(D:List (Str×List Str))(m:EM):EM:=fun σ=>aq (m σ) fun w=>lift (sM D w)
noncomputable def mZ(f:Bool->Bool)(D:List (Str×List Str))(w:W):Po W:=fun ph=>match w with
 | .str k=>some (.bl (f (dO k D).isSome),ph)
 | _=>none
noncomputable def Ez(D:List (Str×List Str))(m:EM):EM:=fun σ=>aq (m σ) fun w=>lift (mZ (fun b=> !b) D w)
noncomputable def m5(x y:W):Po W:=fun ph=>match x,y with
 | .str k,.kt ws=>(a9 strOf ws).map fun zs=>(.bl (decide (k∈zs)),ph)
 | _,_=>none
noncomputable def m7(x y:W):Po W:=fun ph=>match x,y with
 | .str k,.str z=>some (.bl (!(abT z k 0 z.length 1).isEmpty),ph)
 | _,_=>none
noncomputable def n9(d k1 v1 k2 v2:W):Po W:=fun ph=>match d with
 | .ref i=>match ph[i]? with
  | some (.a8 [])=>if(ja k1).isSome=true/\(ja k2).isSome=true then some (.ref i,ph.set i (.a8 (dc (dc [] k1 v1) k2 v2))) else none
  | _=>none
 | _=>none
noncomputable def xl(k1 v1 k2 v2:EM):EM:=fun σ=>aq (EY σ) fun d=>aq (k1 σ) fun a=>aq (v1 σ) fun b=>aq (k2 σ) fun c=>aq (v2 σ) fun e=>lift (n9 d a b c e)
theorem vw(k:Str):∀D:List (Str×List Str),KTD.datumAt k D=dO k D
 | []=>rfl
 | (x,d)::D=>by unfold KTD.datumAt dO;rw[vw k D]
theorem Bk(k:Str)(D:List (Str×List Str)):KTD.inKeys k D=(dO k D).isSome:=by rw[<- KTD.isSome_datumAt,vw]
noncomputable def kY:List Str->List Value->Bool
 | [],[]=>true
 | x::xs,.str y _::vs=>(y==x)&&kY xs vs
 | _,_=>false
theorem AK:∀{l:List Str} {vs:List Value},kY l vs=true->Vals (l.map V.str) vs
 | [],[],_=>.nil
 | [],_::_,h=>by simp[kY] at h
 | _::_,[],h=>by simp[kY] at h
 | x::xs,v::vs,h=>by
  cases v with
  | str y t=>
   unfold kY at h;rw[aau] at h;obtain⟨h1,h2⟩:=h;obtain rfl:=beq_iff_eq.mp h1;exact .cons ⟨t,rfl⟩ (AK h2)
  | _=>simp[kY] at h
noncomputable def ny(K:aab)(l:List Str)(v:Value):Bool:=match v with
 | .ref a=>match K.lookup a with
  | some o=>(o.cls==.type "tuple")&&(match o.data with
   | .seq its _=>Nat.ble its.size aas&&kY l its.toList
   | _=>false)
  | none=>false
 | _=>false
variable{K:aab}
theorem CO{l:List Str}{a:Addr}(h:ny K l (.ref a)=true):k5 K a (l.map V.str):=by
 unfold ny at h;simp only at h;split at h
 ·rename_i o ho;rw[aau] at h;obtain⟨h1,h2⟩:=h;split at h2
  ·rename_i its n hd;rw[aau] at h2;exact⟨o,its,n,ho,beq_iff_eq.mp h1,hd,abm h2.1,AK h2.2⟩
  ·cases h2
 ·cases h
theorem Ss{l:List Str}{v:Value}(h:ny K l v=true):∃a,v=.ref a/\k5 K a (l.map V.str):=by
 cases v with
 | ref a=>exact⟨a,rfl,CO h⟩
 | _=>cases h
noncomputable def KTab(K:aab)(a:Addr)(D:List (Str×List Str)):Prop:=
 ∀h:Heap,(∀b o,K.lookup b=some o->h.get? b=some o)->KTD.TabOf (fun(l:List Str) v=>∃b,v=.ref b/\k5 K b (l.map V.str)) h a D
theorem Su{a:Addr}{D:List (Str×List Str)}(h:KTD.tabLook (ny K) (fun b=>K.lookup b) a D=true):KTab K a D:=fun _ hg=>KTD.tab_of_look (fun _ _ q=>Ss q) hg h
theorem vG{K:aab}{φ:Nat->Addr}{n:Nat}{H:Hp}:∀{l:List Str},aM K φ n H (l.map W.str) (l.map V.str)
 | []=>.nil
 | x::_=>.cons (.str x) vG
section
variable{X:Cx}{x:Str}{ka:Addr}{D:List (Str×List Str)}{l:List Str}{b:Expr}{m:EM}{p pos:Pos}
theorem UZ(hg:Gl X x)(hm:X.mg x=some (.ref ka))(hk:k5 X.K ka (l.map V.str))(hd:(x==("__debug__":Str))=false):JE X (.Name x pos) (eC (.kt (l.map W.str))):=⟨mN (nQ (v:=.ref ka) hg hm rfl hd) fun _ _ _=>.kt hk vG⟩
theorem CP(hg:Gl X x)(hm:X.mg x=some (.ref ka))(T:KTab X.K ka D)(hd:(x==("__debug__":Str))=false)(hs:rA b)(hb:JE X b m):JE X (.Subscript (.Name x p) b pos) (sN D m):=by
 refine⟨?_⟩;intro pins s σ H Q I h;refine Subscript_ (td (R:=fun x y H2=>x=.ref ka/\∃k l,y=.str k/\dO k D=some l/\∀b,k5 X.K b (l.map V.str)->Q (.ref b) H2) (nQ (v:=.ref ka) hg hm rfl hd) hb.h I ?_ fun v u s2 x y H2 I2 rx ry q=>?_)
 ·obtain⟨φ,ph,ws,hH,hS,h⟩:=h;show tM X m σ H _;refine tM.bind hH hS h fun w ph1 au H1 v ax s1 r1 h=>⟨rfl,?_⟩
  obtain⟨w2,ph2,e,k⟩:=run_lift h;unfold sM at e;cases r1 with
  | str z=>
   simp only at e;cases q:dO z D with
   | none=>rw[q] at e;cases e
   | some l=>rw[q] at e;cases e;exact⟨z,l,rfl,q,fun b hb=>k au H1 _ ax s1 (.kt hb vG)⟩
  | _=>cases e
 ·obtain⟨rfl,k,l,rfl,hl,q⟩:=q;cases rx;obtain⟨t,rfl⟩:=ry;refine KTD.Ng (T s2.heap fun b o e=>I2.eF b o e) (by rw[Bk,hl];rfl) (fun d v lc hv=>?_) (hs _ _);rw[vw,hl] at lc;cases lc;obtain⟨b,rfl,hk⟩:=hv;exact⟨.ref b,H2,I2.tok _,rfl,q b hk⟩
abbrev yp(ka:Addr)(D:List (Str×List Str))(f:Bool->Bool):R2:=fun x y H Q=>∃k,x=.str k/\y=.ref ka/\Q (.bl (f (dO k D).isSome)) H
theorem Sv(T:KTab X.K ka D):bf X (aaX .NotIn) (yp ka D fun b=> !b):=by
 intro pins s σ H x y v u Q I rx ry h;obtain⟨k,rfl,rfl,q⟩:=h;cases ry;obtain⟨t,rfl⟩:=rx;exact KTD.MB (T s.heap fun b o e=>I.eF b o e) ⟨.bl _,H,I.tok _,rfl,by rw[Bk];exact q⟩
theorem Sw{f:Bool->Bool}{σ:L2.St}{H:Hp}{Q:VK}(h:tM X (fun σ=>aq (m σ) fun w=>lift (mZ f D w)) σ H Q):lh (yp ka D f) (tM X m) (tC (.ref ka)) σ H Q:=by
 obtain⟨φ,ph,ws,hH,hS,h⟩:=h;refine tM.bind hH hS h fun w ph1 au H1 v ax s1 r1 h=>?_
 obtain⟨w2,ph2,e,k⟩:=run_lift h;unfold mZ at e;cases r1 with
 | str z=>cases e;exact⟨z,rfl,rfl,k au H1 _ ax s1 (.bl _)⟩
 | _=>cases e
theorem QP{f:Bool->Bool}{σ:L2.St}{H:Hp}{Q:Bool->Hp->Prop}(h:tT X (eT (fun σ=>aq (m σ) fun w=>lift (mZ f D w))) σ H Q):xy (lh (yp ka D f) (tM X m) (tC (.ref ka))) σ H Q:=by
 obtain⟨φ,ph,ws,hH,hS,h⟩:=h;refine Sw (tM.bind hH hS h fun x ph1 au H1 vx ax s1 rx h=>?_);obtain⟨w,ph',e,k⟩:=run_lift h;split at e
 ·cases e;cases rx;exact⟨_,rfl,k au H1 ax s1⟩
 ·cases e
theorem Sx(hg:Gl X x)(hm:X.mg x=some (.ref ka))(T:KTab X.K ka D)(hd:(x==("__debug__":Str))=false)(hk:abz .NotIn (.Name x p)=false)(hb:JE X b m):JT X (.Compare b [.NotIn] [.Name x p] pos) (eT (Ez D m)):=
 ⟨PT.imp (Cc (Sv T) hb.h (nQ (v:=.ref ka) hg hm rfl hd) hk) fun _ _ _ h=>QP h⟩
end
theorem CQ(k:Str):∀zs:List Str,L2.fV (.str k) (zs.map V.str)=decide (k∈zs)
 | []=>rfl
 | z::zs=>by
  have ih:=CQ k zs;unfold L2.fV at ih ⊢;rw[aaB,abp,ih];show((z==k)||_)=_;by_cases h:z=k
  ·subst h;simp
  ·have h':¬k=z:=fun e=>h e.symm
   simp[h,h']
theorem Pr(zs:List Str):(zs.map V.str).all iZ=true:=by
 rw[abn];intro x hx;obtain⟨z,_,rfl⟩:=acY.mp hx;rfl
theorem U0:cm K (FJ K false) m5:=by
 intro φ ph H x y vx vy w ph' Q hH rx ry e k;unfold m5 at e;cases rx with
 | str z=>
  cases ry with
  | kt h r=>
   simp only at e;rename_i ws a vs;cases q:a9 strOf ws with
   | none=>rw[q] at e;cases e
   | some zs=>
    rw[q] at e;cases e;have:=wg q r;subst this;refine⟨a,_,rfl,.inr (.inr h),rfl,Pr zs,?_⟩;have e2:=CQ z zs;simp only[adi,if_false];rw[e2];exact k φ H _ hH Step.refl (.bl _)
  | _=>cases e
 | _=>cases e
theorem U1:cm K (fun x y H Q=>∃i j,x=.str i/\y=.str j/\Q (.bl (!(abT j i 0 j.length 1).isEmpty)) H) m7:=by
 intro φ ph H x y vx vy w ph' Q hH rx ry e k;unfold m7 at e;cases rx with
 | str z=>
  cases ry with
  | str y=>cases e;exact⟨z,y,rfl,rfl,k φ H _ hH Step.refl (.bl _)⟩
  | _=>cases e
 | _=>cases e
variable{X:Cx}
theorem U2{b:Expr}(h:abz .In b=false):Cp X .In b m5:=⟨⟨_,O6,U0⟩,h⟩
theorem U3{b:Expr}(h:abz .In b=false):Cp X .In b m7:=⟨⟨_,O3,U1⟩,h⟩
noncomputable def U4(trs:List (TE×TE)):TE:=fun σ H Q=>∀p,H p=none->wV trs σ (upd H p (.dK [])) fun ps H2=>(H2 p=some (.dK [])\/H2 p=some (.dT []))/\∃kvs:List (Key×V),ps=kvs.map (fun kv=>(kV kv.1,kv.2))/\kvs.length<=15/\Q (.ref p) (upd H2 p (.dK (n4 [] kvs)))
theorem QQ{pos:Pos}{keys:List (Option Expr)}{values:List Expr}{trs:List (TE×TE)}(h:ue X pos keys values trs)(oN:keys.all (·.isSome)=true)(hl:keys.length=values.length)(h0:keys≠[])
  (uy:keys.length<=15):PE X (.Dict keys values pos) (U4 trs):=by
 intro pins s σ H Q I q;have hn:=I.aG.fresh (aaj s.heap.objs.size);have I1:=I.laid (a:=s.heap.objs.size) (o:=.dK []) (h':=s.heap.push { cls:=.type "dict",data:=.dict #[] }) (t':=s.toks) (fun _ _ q=>aad _ q) (aaj _) (Qv s.heap I.big);refine wpAny_Dict_walk (knd:=cL X.prog X.w) oN hl h0 uy (aS (h pins _ σ _ _ I1 (q _ hn)) fun ws s2 ⟨ps,H2,I2,rel,e,kvs,ep,lk,q2⟩=>?_);subst ep;obtain⟨H3,I3,e3,u3⟩:∃H3,Inv X pins σ H3 s2/\H3 s.heap.objs.size=some (.dK [])/\∀o,upd H3 s.heap.objs.size o=upd H2 s.heap.objs.size o:=by
  rcases e with e | e
  ·exact⟨H2,I2,e,fun _=>rfl⟩
  ·exact⟨_,jx I2 e,bF,fun _=>iS⟩
 obtain⟨rs,c,rk⟩:=AH (P:=X.prog) (w:=X.w) rel;obtain⟨z,hd,ZY,r0,dd⟩:=kR I3.aG e3;cases r0;refine⟨rs,c,dd,fun h' gu hs=>⟨.ref s.heap.objs.size,_,?_,rfl,q2⟩⟩;have hz:(n4 [] kvs).length<=sizeLine:=by
  have h1:=Ad kvs [];rw[List.length_nil] at h1;rw[sizeLine_eq];omega
 have he:∃q,h'.get? s.heap.objs.size=some q:=let ⟨q,_,_,hq,_⟩:=gu;⟨q,hq⟩
 rw[<- u3];exact nR I3 (by rw[e3];exact acs) hs he (wU hz hd (rk.merge .nil) gu)
section
variable{X:Cx}{k1 v1 k2 v2:Expr}{m1 m2 m3 m4:EM}{pos:Pos}
theorem QR(h1:JE X k1 m1)(h2:JE X v1 m2)(h3:JE X k2 m3)(h4:JE X v2 m4):JE X (.Dict [some k1,some k2] [v1,v2] pos) (xl m1 m2 m3 m4):=by
 refine⟨PE.imp (QQ (trs:=[(tM X m1,tM X m2),(tM X m3,tM X m4)]) (BA h1.h h2.h (BA h3.h h4.h Rv)) rfl rfl (by simp) (by show 2<=15;decide)) fun σ H Q h p hp=>?_⟩;obtain⟨φ,ph,ws,hH,hS,h⟩:=h;obtain⟨q1,q2,q3⟩:=BL hH hp;have hl:(ph++[PO.a8 []]).length=ph.length+1:=by simp
 have h:((aq (m1 ws) fun a=>aq (m2 ws) fun b=>aq (m3 ws) fun c=>aq (m4 ws) fun e=>lift (n9 (.ref ph.length) a b c e)) (ph++[.a8 []])).Run _ _:=Out.Run.mono h (fun _ _ z=>z) fun _ _ z=>z.step q2
 have eG:=hS.mono q2;show tM X m1 σ (upd H p (.dK [])) _;refine tM.bind q1 eG h fun wa ph1 au H1 va ax s1 r1 h=>?_
 refine tM.bind ax (eG.mono s1) h fun wb ph2 ba H2 vb aU s2 r2 h=>?_
 refine tM.bind aU ((eG.mono s1).mono s2) h fun wc gy fg H3 vc dQ s3 r3 h=>?_
 refine tM.bind dQ (((eG.mono s1).mono s2).mono s3) h fun wd g6 jo H4 vd lm s4 r4 h=>?_
 obtain⟨w,ph',e,k⟩:=run_lift h;have st:=((s1.trans s2).trans s3).trans s4;have ep:jo ph.length=p:=by rw[st.eq _ (by rw[hl];exact abQ _),iW]
 unfold n9 at e;simp only at e;split at e
 ·rename_i hd;split at e
  ·rename_i hk;cases e;obtain⟨lD,e1⟩:=abh.mp hk.1;obtain⟨lE,e2⟩:=abh.mp hk.2;have:=nW e1;subst this;have:=nW e2;subst this;have:=oy r1;subst this;have:=oy r3;subst this;obtain⟨y,ey,my⟩:=lm.mu hd rfl;have rb:=r2.mono (s3.trans s4);have s:=kB (K:=X.K) (φ:=jo) (n:=g6.length) (y:=HO.dK (putK (putK [] lD vb) lE vd)) ey my;refine⟨?_,[(lD,vb),(lE,vd)],rfl,by show 2<=15;decide,?_⟩
   ·rcases lm.hp _ _ hd with⟨kvs,q,rd⟩ | ⟨kvs,q,rd⟩
    ·cases rd;rw[ep] at q;exact .inl q
    ·cases rd;rw[ep] at q;exact .inr q
   ·have hq:=lm.put (x:=HO.dK (putK (putK [] lD vb) lE vd)) (o:=.a8 (dc (dc [] (bD lD) wb) (bD lE) wd)) hd rfl (.inl ⟨_,bF,(((bW.nil).put lD rb).put lE r4).mono s⟩);have lt:ph.length<g6.length:=aan (by rw[hl];exact abQ _) st.le;have rr:aJ X.K jo (g6.set ph.length (PO.a8 (dc (dc [] (bD lD) wb) (bD lE) wd))).length (upd H4 (jo ph.length) (.dK (putK (putK [] lD vb) lE vd))) (.ref ph.length) (.ref (jo ph.length)):=.ref (by rw[abA];exact lt);rw[ep] at hq rr s;exact k jo _ _ hq ((q2.trans st).trans (by rw[abA];exact s)) rr
  ·cases e
 ·cases e
end
end IL
local macro_rules | `(tactic| ac_nf) => `(tactic| try simp only [IL.kH, IL.Cu, IL.Ct, IL.eM, IL.Cv, IL.Dm, IL.Dn, IL.Ec, IL.Ed, IL.n8, IL.Do, IL.oC, IL.Cw, IL.BR, IL.Cy, IL.BS, IL.Dp, IL.nY, IL.rQ, IL.rE, IL.BU, IL.rj, IL.rF, IL.BV, IL.Bf, IL.rG, IL.rl, IL.Cz, IL.wI, IL.Dq, IL.CA, IL.Dr, IL.CB, IL.Bh, IL.nO, IL.CC, IL.CD, IL.gn, IL.jQ, IL.jR, IL.oU, IL.Ee, IL.Ef, IL.Eg, IL.yn, IL.oV, IL.tP, IL.E0, IL.Eh, IL.Ds, IL.Ei, IL.Ej, IL.Ek, IL.E1, IL.Dt, IL.Du, IL.Dv, IL.sD, IL.mF, IL.BQ, IL.Di, IL.Dj, IL.Dk, decide_true, decide_false, Bool.false_eq_true, Bool.not_true, Bool.not_false, IL.sE, IL.xJ, IL.El, IL.E2, IL.E3, IL.E4, IL.E5, IL.E6, IL.E7, IL.E8, IL.E9, IL.Fb, IL.Fc, IL.Fd, IL.Fe, IL.Ff, IL.Fg, IL.Dw, IL.Dx, IL.Dy, IL.Dz, IL.DA, IL.DB, IL.xK, IL.Em, IL.En, IL.Eo, IL.Ep, IL.DC, IL.Er, IL.CF, IL.CG, IL.CH, IL.CI, IL.tQ, IL.Fh, IL.xO, IL.Et, IL.xP, IL.xQ, IL.Eu, IL.DD, IL.xj, IL.we, IL.CM, IL.Es, IL.xN, Bool.or_false, Bool.false_or, Bool.or_true, Bool.true_or, Bool.and_true, Bool.true_and, Bool.and_false, Bool.false_and, Nat.reduceSub, List.reduceReplicate, List.set_cons_zero, List.set_cons_succ, if_true, if_false, ↓reduceIte, String.reduceEq, reduceCtorEq])
local macro_rules | `(tactic| push_cast [$as:simpLemma,*]) => `(tactic| try simp only [IL.kH, IL.Cu, IL.Ct, IL.eM, IL.Cv, IL.Dm, IL.Dn, IL.Ec, IL.Ed, IL.n8, IL.Do, IL.oC, IL.Cw, IL.BR, IL.Cy, IL.BS, IL.Dp, IL.nY, IL.rQ, IL.rE, IL.BU, IL.rj, IL.rF, IL.BV, IL.Bf, IL.rG, IL.rl, IL.Cz, IL.wI, IL.Dq, IL.CA, IL.Dr, IL.CB, IL.Bh, IL.nO, IL.CC, IL.CD, IL.gn, IL.jQ, IL.jR, IL.oU, IL.Ee, IL.Ef, IL.Eg, IL.yn, IL.oV, IL.tP, IL.E0, IL.Eh, IL.Ds, IL.Ei, IL.Ej, IL.Ek, IL.E1, IL.Dt, IL.Du, IL.Dv, IL.sD, IL.mF, IL.BQ, IL.Di, IL.Dj, IL.Dk, decide_true, decide_false, Bool.false_eq_true, Bool.not_true, Bool.not_false, IL.sE, IL.xJ, IL.El, IL.E2, IL.E3, IL.E4, IL.E5, IL.E6, IL.E7, IL.E8, IL.E9, IL.Fb, IL.Fc, IL.Fd, IL.Fe, IL.Ff, IL.Fg, IL.Dw, IL.Dx, IL.Dy, IL.Dz, IL.DA, IL.DB, IL.xK, IL.Em, IL.En, IL.Eo, IL.Ep, IL.DC, IL.Er, IL.CF, IL.CG, IL.CH, IL.CI, IL.tQ, IL.Fh, IL.xO, IL.Et, IL.xP, IL.xQ, IL.Eu, IL.DD, IL.xj, IL.we, IL.CM, IL.Es, IL.xN, Bool.or_false, Bool.false_or, Bool.or_true, Bool.true_or, Bool.and_true, Bool.true_and, Bool.and_false, Bool.false_and, Nat.reduceSub, List.reduceReplicate, List.set_cons_zero, List.set_cons_succ, if_true, if_false, ↓reduceIte, String.reduceEq, reduceCtorEq, $as,*])
local macro_rules | `(term| nofun) => `(by decide +kernel)
namespace IL.K05
open PySem PySem.Spec PyProof.Rows L2
theorem gV(us:List Value)(hl:us.length=1):∃a,us=[a]:=List.length_eq_one_iff.mp hl
theorem jT(us:List Value)(hl:us.length=2):∃a1 a2,us=[a1,a2]:=by
 cases us with
 | nil=>cases hl
 | cons a1 us=>
  obtain⟨a2,rfl⟩:=gV us (aeW hl);exact⟨a1,a2,rfl⟩
theorem tW(us:List Value)(hl:us.length=3):∃a1 a2 a3,us=[a1,a2,a3]:=by
 cases us with
 | nil=>cases hl
 | cons a1 us=>
  obtain⟨a2,a3,rfl⟩:=jT us (aeW hl);exact⟨a1,a2,a3,rfl⟩
theorem yq(us:List Value)(hl:us.length=4):∃a1 a2 a3 a4,us=[a1,a2,a3,a4]:=by
 cases us with
 | nil=>cases hl
 | cons a1 us=>
  obtain⟨a2,a3,a4,rfl⟩:=tW us (aeW hl);exact⟨a1,a2,a3,a4,rfl⟩
theorem XD(us:List Value)(hl:us.length=5):∃a1 a2 a3 a4 a5,us=[a1,a2,a3,a4,a5]:=by
 cases us with
 | nil=>cases hl
 | cons a1 us=>
  obtain⟨a2,a3,a4,a5,rfl⟩:=yq us (aeW hl);exact⟨a1,a2,a3,a4,a5,rfl⟩
def top(i:Nat):Stmt:=PySem.Challenge.pw_boxwright_k05_where_blocks_go.main.body.getD i (.Pass ⟨0,0,0,0⟩)
abbrev fZ:Stmt:=top 28
abbrev cw:Stmt:=top 29
abbrev h9:Stmt:=top 30
abbrev fk:Stmt:=top 31
abbrev cg:Stmt:=top 32
abbrev c8:Stmt:=top 33
abbrev eN:Stmt:=top 13
abbrev fo:Stmt:=top 6
abbrev fL:Stmt:=top 14
abbrev f9:Stmt:=top 15
abbrev ej:Stmt:=top 16
abbrev dI:Stmt:=top 17
abbrev fY:Stmt:=top 18
abbrev fj:Stmt:=top 19
abbrev d0:Stmt:=top 20
abbrev cH:Stmt:=top 21
abbrev c9:Stmt:=top 23
abbrev d8:Stmt:=top 24
abbrev eO:Stmt:=top 25
abbrev d3:Stmt:=top 26
abbrev eP:Stmt:=top 35
abbrev fK:Stmt:=top 34
abbrev bC:Stmt:=top 36
noncomputable def cX:List (Str×List Str):=[("set",["name","number"]),("copy",["name","name"]),("do",["name","word","name","name"]),("take",["name"]),("tell",["name"]),("turn",[]),("if",["name","place"]),("go",["place"]),("end",[])]
noncomputable def ju:List Str:=["sum","less","times","part","below","alike"]
noncomputable def f6:SM:=(aF (bp (eT (af iI (ae 1) (bo bG (ah (ae 0) aj)))) (aT (af ao (ae 0) (ae 1))) bB) (aT (eC (.int (0)))))
noncomputable def eL:List W->Mo W:=fM f6 2 2
noncomputable def uT:SM:=(aF (aX (dn (fX (ah (eC (.int (6))) aj)) [none,some 2,some 6,some 0] (gN 0) dN (af ao (ae 1) (af aZ (af addW (af addW (af bx (ae 3) (eC (.int (18)))) (af eE (eC (.int (5))) (ae 0))) (af bx (ae 2) (eC (.int (6))))) (eC (.int (26)))))) (gN 7)) (bp (eT (af bA (af aZ (ae 0) (eC (.int (3)))) (eC (.int (0))))) (eV (cJ dF dJ (ae 5) (ah (cJ gU fu (eC (.str "")) (ah (cR (ae 7) dA (cE (af addW (eC (.int (1))) (af aZ (af addW (af bx (ae 0) (eC (.int (3)))) (ae 6)) (eC (.int (6))))))) aj)) aj))) (bp (eT (af bA (af aZ (ae 0) (eC (.int (3)))) (eC (.int (1))))) (aF (aX (dn (fX (ah (eC (.int (6))) aj)) [none,some 2,some 0] (gN 0) dN (af ao (ae 1) (af aZ (af addW (af bx (ae 2) (eC (.int (18)))) (af eE (eC (.int (5))) (ae 0))) (eC (.int (26)))))) (gN 7)) (aF (aX (af ao (ae 2) (af aZ (af addW (af bx (ae 0) (eC (.int (108)))) (ae 6)) (eC (.int (26))))) (gN 8)) (aF (aX (cJ gU fu (eC (.str "")) (ah (cR (ae 7) (cE (af addW (ae 4) (eC (.int (1))))) (cE (ae 3))) aj)) (gN 9)) (eV (cJ dF dJ (ae 5) (ah (af addW (af addW (cJ gU fu (eC (.str "")) (ah (cR (ae 7) dA (cE (ae 4))) aj)) (ae 8)) (ae 9)) aj)))))) (eV (cJ dF dJ (ae 5) (ah (cJ gU fu (eC (.str "")) (ah (af addW (cR (ae 7) (cE (af aZ (ae 6) (eC (.int (6))))) dA) (cR (ae 7) dA (cE (af aZ (ae 6) (eC (.int (6))))))) aj)) aj))))))
noncomputable def kf:SM:=(aF (aX (eC (.str "abcdefghijklmnopqrstuvwxyz")) (gN 2)) (aF (aX (af addW (eC (.int (1))) (af aZ (af bx (ae 0) (eC (.int (3)))) (eC (.int (6))))) (gN 3)) (aF (aX (af aZ (af bx (ae 0) (eC (.int (18)))) (ae 3)) (gN 4)) (aF (aX (bP aj) (gN 5)) (aF (eA (fX (ah (ae 1) aj)) (gN 6) uT) (aT (ae 5)))))))
noncomputable def u4:List W->Mo W:=fM kf 10 2
noncomputable def kb:SM:=(aF (bp (eT (af bA (af aZ (ae 0) (eC (.int (4)))) (eC (.int (3))))) (aT (af ao (bP (ah (eC (.int (2147483647))) (ah (jg iB (eC (.int (2147483648)))) (ah (eC (.int (65536))) (ah (jg iB (eC (.int (1)))) (ah (eC (.int (46341))) (ah (jg iB (eC (.int (65537)))) (ah (eC (.int (1))) (ah (eC (.int (0))) aj))))))))) (af aZ (af bx (ae 0) (eC (.int (4)))) (eC (.int (8)))))) bB) (aF (bp (eT (af bA (af aZ (ae 0) (eC (.int (4)))) (eC (.int (2))))) (aT (af eY (af aZ (af eE (af bx (ae 0) (eC (.int (4)))) (eC (.int (48271)))) (eC (.int (4294967296)))) (eC (.int (2147483648))))) bB) (aF (bp (eT (af bA (af aZ (ae 0) (eC (.int (4)))) (eC (.int (1))))) (aT (af eY (af aZ (af bx (ae 0) (eC (.int (4)))) (eC (.int (100003)))) (eC (.int (1000))))) bB) (aT (af eY (af aZ (af bx (ae 0) (eC (.int (4)))) (eC (.int (19)))) (eC (.int (6))))))))
noncomputable def uX:List W->Mo W:=fM kb 1 1
noncomputable def iO:SM:=(aF (bp (i0 (eT (af dg (ae 3) (bP aj))) (eT (af bA (af aZ (ae 0) (eC (.int (2)))) (eC (.int (1)))))) (aT (af ao (ae 3) (af aZ (af bx (ae 0) (eC (.int (2)))) (bo bG (ah (ae 3) aj))))) bB) (aT (af addW (af addW (ae 1) (eC (.int (1)))) (af aZ (af bx (ae 0) (eC (.int (2)))) (af eY (ae 2) (ae 1))))))
noncomputable def kh:List W->Mo W:=fM iO 4 4
noncomputable def km:SM:=(aF (aX (af aZ (af eE (ae 0) (eC (.int (48271)))) (eC (.int (2147483647)))) (gN 0)) (aF (aX (af bx (ae 0) (eC (.int (16)))) (gN 5)) (aF (aX (af ao (ae 3) (af aZ (ae 5) (bo bG (ah (ae 3) aj)))) (gN 6)) (aF (aX (af ao (ae 3) (af aZ (af bx (ae 5) (eC (.int (6)))) (bo bG (ah (ae 3) aj)))) (gN 7)) (aF (aX (af ao (ae 3) (af aZ (af bx (ae 5) (eC (.int (36)))) (bo bG (ah (ae 3) aj)))) (gN 8)) (aF (aX (af aZ (ae 0) (eC (.int (16)))) (gN 9)) (aF (bp (eT (af iI (ae 9) (eC (.int (3))))) (aT (af ao (bP (ah (c6 (ah (eC (.str "set")) (ah (ae 6) (ah (bw uX (ah (af bx (ae 5) (eC (.int (6)))) aj)) aj)))) (ah (c6 (ah (eC (.str "copy")) (ah (ae 6) (ah (ae 7) aj)))) (ah (c6 (ah (eC (.str "tell")) (ah (ae 6) aj))) aj)))) (ae 9))) bB) (aF (bp (eT (af iI (ae 9) (eC (.int (8))))) (aF (aX (af ao (bP (ah (eC (.str "sum")) (ah (eC (.str "less")) (ah (eC (.str "times")) (ah (eC (.str "part")) (ah (eC (.str "below")) (ah (eC (.str "alike")) aj))))))) (af aZ (af bx (ae 5) (eC (.int (216)))) (eC (.int (6))))) (gN 10)) (aT (c6 (ah (eC (.str "do")) (ah (ae 6) (ah (ae 10) (ah (ae 7) (ah (ae 8) aj)))))))) bB) (aF (bp (eT (af iI (ae 9) (eC (.int (10))))) (aT (af ao (bP (ah (c6 (ah (eC (.str "take")) (ah (ae 6) aj))) (ah (c6 (ah (eC (.str "turn")) aj)) aj))) (af eY (ae 9) (eC (.int (8)))))) bB) (aF (bp (eT (af iI (ae 9) (eC (.int (14))))) (aT (c6 (ah (eC (.str "if")) (ah (ae 6) (ah (bw kh (ah (af bx (ae 5) (eC (.int (6)))) (ah (ae 1) (ah (ae 2) (ah (ae 4) aj))))) aj))))) bB) (aF (bp (eT (af bA (ae 9) (eC (.int (14))))) (aT (c6 (ah (eC (.str "go")) (ah (bw kh (ah (af bx (ae 5) (eC (.int (6)))) (ah (ae 1) (ah (ae 2) (ah (ae 4) aj))))) aj)))) bB) (aT (af ao (bP (ah (c6 (ah (eC (.str "end")) aj)) (ah (c6 (ah (eC (.str "tell")) (ah (ae 6) aj))) (ah (c6 (ah (eC (.str "turn")) aj)) aj)))) (af aZ (af bx (ae 5) (eC (.int (6)))) (eC (.int (3)))))))))))))))))
noncomputable def qv:List W->Mo W:=fM km 11 5
noncomputable def pZ:SM:=(aF (eV (cJ dF dJ (ae 4) (ah (bw qv (ah (af addW (bw eL (ah (ae 0) (ah (af addW (ae 1) (af aZ (ae 6) (eC (.int (24))))) aj))) (af eE (eC (.int (7919))) (ae 6))) (ah (ae 6) (ah (ae 2) (ah (ae 3) (ah (ae 5) aj)))))) aj))) (bp (eT (af bA (af ao (ae 4) (jg iB (eC (.int (1))))) (c6 (ah (eC (.str "turn")) aj)))) (eV (cJ dF dJ (ae 5) (ah (ae 6) aj))) bB))
noncomputable def ki:SM:=(aF (aX (bP aj) (gN 4)) (aF (aX (bP aj) (gN 5)) (aF (eA (fX (ah (ae 2) aj)) (gN 6) pZ) (aT (ae 4)))))
noncomputable def u6:List W->Mo W:=fM ki 7 4
noncomputable def kx:SM:=(aF (bp (er (eU (eX (fE "str" (ae 0)))) (eU (eT (gG jh jh (eC (.int (1))) (bo bG (ah (ae 0) aj)) (eC (.int (6))))))) (aT (eC (.bl false))) bB) (aT (bo k7 (ah (dn (oX (ae 0)) [none] (gN 0) dN (af m7 (ae 0) (eC (.str "abcdefghijklmnopqrstuvwxyz")))) aj))))
noncomputable def vH:List W->Mo W:=fM kx 1 1
noncomputable def jr:SM:=(aF (bp (er (eU (eX (fE "int" (ae 0)))) (eX (fE "bool" (ae 0)))) (aT (eC (.bl false))) bB) (aT (gG jh iI (jg iB (eC (.int (2147483648)))) (ae 0) (eC (.int (2147483648))))))
noncomputable def qC:List W->Mo W:=fM jr 1 1
noncomputable def ky:SM:=(aT (k6 (fE "str" (ae 0)) (af m5 (ae 0) (eC (.kt (ju.map W.str))))))
noncomputable def vI:List W->Mo W:=fM ky 1 1
noncomputable def kr:SM:=(aT (k6 (bw qC (ah (ae 0) aj)) (gG jh jh (eC (.int (0))) (ae 0) (ae 1))))
noncomputable def vA:List W->Mo W:=fM kr 2 2
noncomputable def ie:SM:=(aF (bp (eT (af bA (ae 0) (eC (.str "name")))) (aT (bw vH (ah (ae 1) aj))) bB) (aF (bp (eT (af bA (ae 0) (eC (.str "number")))) (aT (bw qC (ah (ae 1) aj))) bB) (aF (bp (eT (af bA (ae 0) (eC (.str "word")))) (aT (bw vI (ah (ae 1) aj))) bB) (aT (bw vA (ah (ae 1) (ah (ae 2) aj)))))))
noncomputable def iP:List W->Mo W:=fM ie 3 3
noncomputable def kC:SM:=(aF (bp (er (eU (eX (fE "tuple" (ae 0)))) (eT (af bA (bo bG (ah (ae 0) aj)) (eC (.int (0)))))) (aT (eC (.bl false))) bB) (aF (bp (er (eU (eX (fE "str" (af ao (ae 0) (eC (.int (0))))))) (eT (Ez cX (af ao (ae 0) (eC (.int (0))))))) (aT (eC (.bl false))) bB) (aF (aX (sN cX (af ao (ae 0) (eC (.int (0))))) (gN 2)) (aF (bp (eT (af dg (bo bG (ah (ae 0) aj)) (af addW (bo bG (ah (ae 2) aj)) (eC (.int (1)))))) (aT (eC (.bl false))) bB) (aT (bo k7 (ah (dn (oE (ah (ae 2) (ah (cR (ae 0) (cE (eC (.int (1)))) dA) aj))) [none,none,some 1] (eD 2 [(gN 0),(gN 1)]) dN (bw iP (ah (ae 0) (ah (ae 1) (ah (ae 2) aj))))) aj)))))))
noncomputable def wj:List W->Mo W:=fM kC 3 2
noncomputable def iN:SM:=(aT (dn (oE (ah (sN cX (af ao (ae 0) (eC (.int (0))))) (ah (cR (ae 0) (cE (eC (.int (1)))) dA) aj))) [none,none,some 1] (eD 2 [(gN 0),(gN 1)]) (eT (af bA (ae 0) (ae 2))) (ae 1)))
noncomputable def kc:List W->Mo W:=fM iN 2 2
noncomputable def uM:SM:=(bp (i0 (eT (af jh (ae 2) (ae 1))) (eT (af dg (af ao (af ao (ae 0) (ae 2)) (eC (.int (0)))) (eC (.str "turn"))))) (aT (eC (.bl true))) bB)
noncomputable def j9:SM:=(aF (eA (fO (bw kc (ah (af ao (ae 0) (ae 1)) (ah (eC (.str "place")) aj)))) (gN 2) uM) (aT (eC (.bl false))))
noncomputable def uR:List W->Mo W:=fM j9 3 2
noncomputable def uS:SM:=(bp (eT (af jb (ae 3) (ae 2))) (eV (cJ dF dJ (ae 2) (ah (ae 3) aj))) bB)
noncomputable def ke:SM:=(aF (aX (bo jE (ah (ae 1) aj)) (gN 2)) (aF (eA (fO (bw kc (ah (ae 0) (ah (eC (.str "name")) aj)))) (gN 3) uS) (aT (ae 2))))
noncomputable def uY:List W->Mo W:=fM ke 4 2
noncomputable def uU:SM:=(aF (bp (er (eU (eX (bw wj (ah (ae 3) (ah (bo bG (ah (ae 0) aj)) aj))))) (eX (bw uR (ah (ae 0) (ah (ae 2) aj))))) n5 bB) (aF (aX (bw uY (ah (ae 3) (ah (ae 1) aj))) (gN 1)) (bp (eT (af uj (bo bG (ah (ae 1) aj)) (eC (.int (12))))) n5 bB)))
noncomputable def kg:SM:=(aF (bp (er (eU (eX (fE "list" (ae 0)))) (eT (af uj (bo bG (ah (ae 0) aj)) (eC (.int (60)))))) n5 bB) (aF (aX (bP aj) (gN 1)) (aF (eA (gP (ah (ae 0) aj)) (eD 2 [(gN 2),(gN 3)]) uU) (aT (ae 1)))))
noncomputable def u5:List W->Mo W:=fM kg 4 1
noncomputable def uZ:SM:=(aX (eC (.bl true)) (oA (ae 1) (ae 4)))
noncomputable def u0:SM:=(aF (eA (fO (bw kc (ah (ae 3) (ah (eC (.str "place")) aj)))) (gN 4) uZ) (bp (eT (af fV (af ao (ae 3) (eC (.int (0)))) (c6 (ah (eC (.str "if")) (ah (eC (.str "go")) (ah (eC (.str "end")) aj)))))) (aX (eC (.bl true)) (oA (ae 1) (af addW (ae 2) (eC (.int (1)))))) bB))
noncomputable def kn:SM:=(aF (aX (xl (eC (.int (0))) (eC (.bl true)) (bo bG (ah (ae 0) aj)) (eC (.bl true))) (gN 1)) (aF (eA (gP (ah (ae 0) aj)) (eD 2 [(gN 2),(gN 3)]) u0) (aT (bo mE (ah (ae 1) aj)))))
noncomputable def vh:List W->Mo W:=fM kn 5 1
noncomputable def jF:SM:=(aF (eV (bw u5 (ah (ae 0) aj))) (aF (aX (bw vh (ah (ae 0) aj)) (gN 1)) (aT (af addW (sL (ah (ae 1) (ah (cR (ae 1) (cE (eC (.int (1)))) dA) aj))) (bP (ah (c6 (ah (bo bG (ah (ae 0) aj)) (ah (bo bG (ah (ae 0) aj)) aj))) aj))))))
noncomputable def sO:List W->Mo W:=fM jF 2 1
noncomputable def kz:SM:=(aF (bp (eT (af bA (af ao (ae 1) (eC (.int (0)))) (bo bG (ah (ae 0) aj)))) (aT (bP aj)) bB) (aF (aX (af ao (ae 0) (af eY (af ao (ae 1) (eC (.int (1)))) (eC (.int (1))))) (gN 3)) (aF (bp (eT (af bA (af ao (ae 3) (eC (.int (0)))) (eC (.str "if")))) (aT (bP (ah (af ao (ae 2) (af ao (ae 3) (eC (.int (2))))) (ah (af ao (ae 2) (af ao (ae 1) (eC (.int (1))))) aj)))) bB) (aF (bp (eT (af bA (af ao (ae 3) (eC (.int (0)))) (eC (.str "go")))) (aT (bP (ah (af ao (ae 2) (af ao (ae 3) (eC (.int (1))))) aj))) bB) (aF (bp (eT (af bA (af ao (ae 3) (eC (.int (0)))) (eC (.str "end")))) (aT (bP aj)) bB) (aT (bP (ah (af ao (ae 2) (af ao (ae 1) (eC (.int (1))))) aj))))))))
noncomputable def qS:List W->Mo W:=fM kz 4 3
noncomputable def jy:SM:=(aF (aX (bw sO (ah (ae 0) aj)) (gN 1)) (aF (aX (bo mC (ah (dn (gP (ah (ae 1) aj)) [none,none] (eD 2 [(gN 0),(gN 1)]) dN (c6 (ah (af ao (ae 1) (eC (.int (0)))) (ah (ae 0) aj)))) aj)) (gN 2)) (aT (dn (fO (ae 1)) [none,some 0,some 2] (gN 0) dN (bw qS (ah (ae 1) (ah (ae 0) (ah (ae 2) aj))))))))
noncomputable def r6:List W->Mo W:=fM jy 3 1
noncomputable def kA:SM:=(aF (bp (eT (af bA (ae 2) (af eY (bo bG (ah (ae 1) aj)) (eC (.int (1)))))) (aT (bP aj)) bB) (aF (aX (af ao (ae 0) (af eY (af ao (af ao (ae 1) (ae 2)) (eC (.int (1)))) (eC (.int (1))))) (gN 3)) (aF (bp (eT (af bA (af ao (ae 3) (eC (.int (0)))) (eC (.str "end")))) (aT (bP aj)) bB) (aF (bp (eT (af bA (af ao (ae 3) (eC (.int (0)))) (eC (.str "if")))) (aT (bP (ah (af ao (ae 3) (eC (.int (2)))) (ah (af ao (af ao (ae 1) (ae 2)) (eC (.int (1)))) aj)))) bB) (aF (bp (eT (af bA (af ao (ae 3) (eC (.int (0)))) (eC (.str "go")))) (aT (bP (ah (af ao (ae 3) (eC (.int (1)))) aj))) bB) (aT (bP (ah (af ao (af ao (ae 1) (ae 2)) (eC (.int (1)))) aj))))))))
noncomputable def vJ:List W->Mo W:=fM kA 4 3
noncomputable def ko:SM:=(aT (k6 (fE "int" (ae 0)) (tE (fE "bool" (ae 0)))))
noncomputable def vk:List W->Mo W:=fM ko 1 1
noncomputable def wm:SM:=(bp (er (eU (eX (bw vk (ah (ae 9) aj)))) (er (eU (eT (gG jh iI (eC (.int (0))) (ae 9) (bo bG (ah (ae 4) aj))))) (eT (af dg (af ao (af ao (ae 4) (ae 9)) (eC (.int (0)))) (ae 10))))) (aT (eC (.bl false))) bB)
noncomputable def rp:SM:=(aF (aX (bw vJ (ah (ae 3) (ah (ae 4) (ah (ae 7) aj)))) (gN 8)) (aF (bp (er (eU (eX (fE "list" (af ao (ae 6) (ae 7))))) (eT (af dg (bo bG (ah (af ao (ae 6) (ae 7)) aj)) (bo bG (ah (ae 8) aj))))) (aT (eC (.bl false))) bB) (aF (eA (sI (ah (af ao (ae 6) (ae 7)) (ah (ae 8) aj))) (eD 2 [(gN 9),(gN 10)]) wm) (eV (cJ dF dJ (af ao (ae 6) (ae 7)) (ah (eC (.int (0))) aj))))))
noncomputable def mH:SM:=(aF (aX (bw u4 (ah (bw eL (ah (ae 0) (ah (eC (.int (0))) aj))) (ah (af addW (eC (.int (1))) (af aZ (bw eL (ah (ae 0) (ah (eC (.int (1))) aj))) (eC (.int (6))))) aj))) (gN 1)) (aF (aX (af aZ (af bx (bw eL (ah (ae 0) (ah (eC (.int (1))) aj))) (eC (.int (6)))) (eC (.int (25)))) (gN 2)) (aF (bp (eT (af bA (af aZ (af bx (bw eL (ah (ae 0) (ah (eC (.int (1))) aj))) (eC (.int (150)))) (eC (.int (8)))) (eC (.int (1))))) (aX (af addW (eC (.int (25))) (af aZ (af bx (bw eL (ah (ae 0) (ah (eC (.int (1))) aj))) (eC (.int (1200)))) (eC (.int (36))))) (gN 2)) bB) (aF (aX (bw u6 (ah (ae 0) (ah (eC (.int (3))) (ah (ae 2) (ah (ae 1) aj))))) (gN 3)) (aF (aX (bw sO (ah (bo jE (ah (ae 3) aj)) aj)) (gN 4)) (aF (aX (bo jE (ah (ae 3) aj)) (gN 5)) (aF (aX (bw r6 (ah (ae 5) aj)) (gN 6)) (aF (bp (er (eU (eX (fE "list" (ae 6)))) (er (eT (af dg (bo bG (ah (ae 6) aj)) (bo bG (ah (ae 4) aj)))) (eT (af dg (ae 5) (ae 3))))) (aT (eC (.bl false))) bB) (aF (eA (fX (ah (bo bG (ah (ae 4) aj)) aj)) (gN 7) rp) (aF (aX (bw r6 (ah (ae 5) aj)) (gN 11)) (aT (af bA (dn (fO (ae 11)) [none] (gN 0) dN (af addW (ae 0) (bP (ah (eC (.int (0))) aj)))) (ae 6)))))))))))))
noncomputable def oG:List W->Mo W:=fM mH 12 1
set_option genInjectivity false in
structure Tx(K:aab)(mg:Str->Option Value) where
 a_law_cell_at:Addr
 qp:aaS
 gD:cz K "_law_cell_at" "_law_cell_at" fZ a_law_cell_at qp
 kj:mg "_law_cell_at"=some (.ref a_law_cell_at)
 f6:Binds K qp ["_law_script","_law_k"] []
 a_law_names_by:Addr
 qi:aaS
 lI:cz K "_law_names_by" "_law_names_by" cw a_law_names_by qi
 zZ:mg "_law_names_by"=some (.ref a_law_names_by)
 kf:Binds K qi ["_law_n","_law_many"] []
 a_law_number_by:Addr
 p6:aaS
 lG:cz K "_law_number_by" "_law_number_by" h9 a_law_number_by p6
 zS:mg "_law_number_by"=some (.ref a_law_number_by)
 kb:Binds K p6 ["_law_cell"] []
 a_law_jump_by:Addr
 qq:aaS
 kl:cz K "_law_jump_by" "_law_jump_by" fk a_law_jump_by qq
 u7:mg "_law_jump_by"=some (.ref a_law_jump_by)
 iO:Binds K qq ["_law_more","_law_place","_law_many","_law_turns"] []
 a_law_row_by:Addr
 qw:aaS
 lM:cz K "_law_row_by" "_law_row_by" cg a_law_row_by qw
 Al:mg "_law_row_by"=some (.ref a_law_row_by)
 km:Binds K qw ["_law_cell","_law_place","_law_many","_law_names","_law_turns"] []
 a_law_rows_by:Addr
 qr:aaS
 lL:cz K "_law_rows_by" "_law_rows_by" c8 a_law_rows_by qr
 Ae:mg "_law_rows_by"=some (.ref a_law_rows_by)
 ki:Binds K qr ["_law_script","_law_first","_law_many","_law_names"] []
 a_is_name:Addr
 qT:aaS
 lT:cz K "is_name" "is_name" eN a_is_name qT
 Bl:mg "is_name"=some (.ref a_is_name)
 kx:Binds K qT ["thing"] []
 a_is_number:Addr
 qD:aaS
 kq:cz K "is_number" "is_number" fo a_is_number qD
 vm:mg "is_number"=some (.ref a_is_number)
 jr:Binds K qD ["thing"] []
 a_is_word:Addr
 qU:aaS
 lU:cz K "is_word" "is_word" fL a_is_word qU
 Bm:mg "is_word"=some (.ref a_is_word)
 ky:Binds K qU ["thing"] []
 a_is_place:Addr
 qJ:aaS
 lP:cz K "is_place" "is_place" f9 a_is_place qJ
 AL:mg "is_place"=some (.ref a_is_place)
 kr:Binds K qJ ["thing","last_place"] []
 a_is_part:Addr
 qV:aaS
 lV:cz K "is_part" "is_part" ej a_is_part qV
 Bn:mg "is_part"=some (.ref a_is_part)
 ie:Binds K qV ["kind","thing","last_place"] []
 a_is_row:Addr
 rq:aaS
 lZ:cz K "is_row" "is_row" dI a_is_row rq
 B1:mg "is_row"=some (.ref a_is_row)
 kC:Binds K rq ["row","last_place"] []
 a_parts_of_kind:Addr
 qc:aaS
 jq:cz K "parts_of_kind" "parts_of_kind" fY a_parts_of_kind qc
 qd:mg "parts_of_kind"=some (.ref a_parts_of_kind)
 iN:Binds K qc ["row","wanted"] []
 a_jumps_back_badly:Addr
 pY:aaS
 lF:cz K "jumps_back_badly" "jumps_back_badly" fj a_jumps_back_badly pY
 zJ:mg "jumps_back_badly"=some (.ref a_jumps_back_badly)
 j9:Binds K pY ["rows","at"] []
 a_with_names_of:Addr
 qe:aaS
 lH:cz K "with_names_of" "with_names_of" d0 a_with_names_of qe
 zT:mg "with_names_of"=some (.ref a_with_names_of)
 ke:Binds K qe ["row","names"] []
 a_need_program:Addr
 qj:aaS
 lJ:cz K "need_program" "need_program" cH a_need_program qj
 z6:mg "need_program"=some (.ref a_need_program)
 kg:Binds K qj ["rows"] []
 a_beginnings:Addr
 qx:aaS
 lN:cz K "beginnings" "beginnings" c9 a_beginnings qx
 Am:mg "beginnings"=some (.ref a_beginnings)
 kn:Binds K qx ["rows"] []
 a_cut:Addr
 sP:aaS
 kZ:cz K "cut" "cut" d8 a_cut sP
 xT:mg "cut"=some (.ref a_cut)
 jF:Binds K sP ["rows"] []
 a_goes_on:Addr
 qW:aaS
 lW:cz K "goes_on" "goes_on" eO a_goes_on qW
 Bo:mg "goes_on"=some (.ref a_goes_on)
 kz:Binds K qW ["rows","span","numbers"] []
 a_goes:Addr
 r8:aaS
 kN:cz K "goes" "goes" d3 a_goes r8
 xm:mg "goes"=some (.ref a_goes)
 jy:Binds K r8 ["rows"] []
 a_law_due:Addr
 qX:aaS
 lX:cz K "_law_due" "_law_due" eP a_law_due qX
 Bp:mg "_law_due"=some (.ref a_law_due)
 kA:Binds K qX ["_law_rows","_law_blocks","_law_k"] []
 a_law_whole:Addr
 qE:aaS
 lO:cz K "_law_whole" "_law_whole" fK a_law_whole qE
 Ax:mg "_law_whole"=some (.ref a_law_whole)
 ko:Binds K qE ["_law_found"] []
 a_law:Addr
 sQ:aaS
 oH:cz K "law" "law" bC a_law sQ
 WB:mg "law"=some (.ref a_law)
 mH:Binds K sQ ["_law_script"] []
 xU:mg "all"=none
 xn:mg "bool"=none
 DE:mg "dict"=none
 qF:mg "enumerate"=none
 xV:mg "int"=none
 f7:mg "isinstance"=none
 cN:mg "len"=none
 jz:mg "list"=none
 l7:mg "range"=none
 B2:mg "sorted"=none
 sR:mg "str"=none
 CS:mg "tuple"=none
 oI:mg "zip"=none
 kD:Addr
 rL:mg "FORMS"=some (.ref kD)
 cX:KTab K kD cX
 oa:Tok
 xo:mg "HALF"=some (.int (2147483648) oa)
 nL:Tok
 Bq:mg "LETTERS"=some (.str "abcdefghijklmnopqrstuvwxyz" nL)
 nC:Tok
 z7:mg "MOST_LETTERS"=some (.int (6) nC)
 nD:Tok
 An:mg "MOST_NAMES"=some (.int (12) nD)
 nF:Tok
 Ay:mg "MOST_ROWS"=some (.int (60) nF)
 kE:Addr
 CT:mg "WORDS"=some (.ref kE)
 ju:k5 K kE (ju.map V.str)
variable{X:Cx}{N N':List Str}{sc:Scope}{k:Nat}{g:GM}
theorem jU{scope:Scope}{tg:Expr}(B:Bd X N sc k)(T:Tx X.K X.mg)(hc:∀y∈scope.names,y.2≠.cell)(nd:N'.Nodup)(h:∀{Y:Cx},Bd Y N' scope k->Tx Y.K Y.mg->JG Y tg g)(cl:List (Str×Addr))(C:Addr)(aE:aaf)(aL:Hp)(ex:List Addr):JG (bH X N' scope cl C aE aL ex) tg g:=h (B.bH hc nd) T
variable{t:TM}
theorem jV{scope:Scope}{ifs:List Expr}(B:Bd X N sc k)(T:Tx X.K X.mg)(hc:∀y∈scope.names,y.2≠.cell)(nd:N'.Nodup)(h:∀{Y:Cx},Bd Y N' scope k->Tx Y.K Y.mg->JF Y ifs t)(cl:List (Str×Addr))(C:Addr)(aE:aaf)(aL:Hp)(ex:List Addr):JF (bH X N' scope cl C aE aL ex) ifs t:=h (B.bH hc nd) T
variable{m:EM}
theorem jW{scope:Scope}{e:Expr}(B:Bd X N sc k)(T:Tx X.K X.mg)(hc:∀y∈scope.names,y.2≠.cell)(nd:N'.Nodup)(h:∀{Y:Cx},Bd Y N' scope k->Tx Y.K Y.mg->JE Y e m)(cl:List (Str×Addr))(C:Addr)(aE:aaf)(aL:Hp)(ex:List Addr):JE (bH X N' scope cl C aE aL ex) e m:=h (B.bH hc nd) T
theorem u9:bu "_law_script"=true:=nofun
theorem nP:bu "_law_k"=true:=nofun
theorem wo:bu "_law_n"=true:=nofun
theorem nG:bu "_law_many"=true:=nofun
theorem vn:bu "_law_some"=true:=nofun
theorem Nh:bu "_law_size"=true:=nofun
theorem Pt:bu "_law_at"=true:=nofun
theorem qy:bu "_law_names"=true:=nofun
theorem Az:bu "_law_word"=true:=nofun
theorem Ni:bu "_law_sign"=true:=nofun
theorem Nj:bu "_law_back"=true:=nofun
theorem B3:bu "_law_j"=true:=nofun
theorem AA:bu "_law_cell"=true:=nofun
theorem AB:bu "_law_more"=true:=nofun
theorem qz:bu "_law_place"=true:=nofun
theorem vj:bu "_law_turns"=true:=nofun
theorem AN:bu "_law_one"=true:=nofun
theorem Ao:bu "_law_other"=true:=nofun
theorem MC:bu "_law_third"=true:=nofun
theorem Nk:bu "_law_kind"=true:=nofun
theorem MD:bu "_law_first"=true:=nofun
theorem vp:bu "_law_rows"=true:=nofun
theorem kF:bu "thing"=true:=nofun
theorem Sy:bu "sign"=true:=nofun
theorem ve:bu "last_place"=true:=nofun
theorem wK:bu "kind"=true:=nofun
theorem og:bu "row"=true:=nofun
theorem QS:bu "kinds"=true:=nofun
theorem Pu:bu "wanted"=true:=nofun
theorem kI:bu "rows"=true:=nofun
theorem xW:bu "at"=true:=nofun
theorem B4:bu "place"=true:=nofun
theorem B5:bu "names"=true:=nofun
theorem U5:bu "met"=true:=nofun
theorem Sz:bu "name"=true:=nofun
theorem QT:bu "found"=true:=nofun
theorem Pw:bu "firsts"=true:=nofun
theorem wL:bu "span"=true:=nofun
theorem AO:bu "numbers"=true:=nofun
theorem SA:bu "last"=true:=nofun
theorem QU:bu "spans"=true:=nofun
theorem Px:bu "number"=true:=nofun
theorem Af:bu "_law_blocks"=true:=nofun
theorem NO:bu "_law_row"=true:=nofun
theorem Ap:bu "_law_found"=true:=nofun
theorem LO:bu "_law_handed"=true:=nofun
theorem Ks:bu "_law_due_here"=true:=nofun
theorem ME:bu "_law_again"=true:=nofun
theorem Iw:aH (ag fZ) "_law_script":=.inl nofun
theorem Iy:aH (ag fZ) "_law_k":=.inl nofun
theorem HI:(ag fZ).names.lookup ("len":Str)=some .globalImplicit:=nofun
theorem HJ:aH (ag cw) "_law_n":=.inr (.inl nofun)
theorem HK:aH (ag cw) "_law_many":=.inl nofun
theorem HL:aH (ag cw) "_law_some":=.inr (.inl nofun)
theorem HM:Loc (ag cw) "_law_some":=.inr nofun
theorem HN:aH (ag cw) "_law_size":=.inl nofun
theorem HP:Loc (ag cw) "_law_size":=.inl nofun
theorem HQ:aH (ag cw) "_law_at":=.inl nofun
theorem HR:Loc (ag cw) "_law_at":=.inl nofun
theorem HS:aH (ag cw) "_law_names":=.inl nofun
theorem HU:Loc (ag cw) "_law_names":=.inl nofun
theorem HV:aH (ag cw) "_law_k":=.inr (.inl nofun)
theorem HW:Loc (ag cw) "_law_k":=.inr nofun
theorem HX:aH (ag cw) "_law_word":=.inl nofun
theorem zK:Loc (ag cw) "_law_word":=.inl nofun
theorem HY:aH (ag cw) "_law_sign":=.inl nofun
theorem HZ:Loc (ag cw) "_law_sign":=.inl nofun
theorem Ia:aH (ag cw) "_law_back":=.inl nofun
theorem Ib:Loc (ag cw) "_law_back":=.inl nofun
theorem uN:(ag cw).names.lookup ("range":Str)=some .globalImplicit:=nofun
theorem Hm:aH (ag h9) "_law_cell":=.inl nofun
theorem Iz:aH (ag fk) "_law_more":=.inl nofun
theorem IB:aH (ag fk) "_law_place":=.inl nofun
theorem IC:aH (ag fk) "_law_many":=.inl nofun
theorem ID:aH (ag fk) "_law_turns":=.inl nofun
theorem Ic:(ag fk).names.lookup ("len":Str)=some .globalImplicit:=nofun
theorem Ji:aH (ag cg) "_law_cell":=.inl nofun
theorem Jj:Loc (ag cg) "_law_cell":=.inl nofun
theorem Jk:aH (ag cg) "_law_place":=.inl nofun
theorem Jl:aH (ag cg) "_law_many":=.inl nofun
theorem Jm:aH (ag cg) "_law_names":=.inl nofun
theorem Jn:aH (ag cg) "_law_turns":=.inl nofun
theorem Jo:aH (ag cg) "_law_more":=.inl nofun
theorem Jp:Loc (ag cg) "_law_more":=.inl nofun
theorem Jq:aH (ag cg) "_law_one":=.inl nofun
theorem Jr:Loc (ag cg) "_law_one":=.inl nofun
theorem Js:aH (ag cg) "_law_other":=.inl nofun
theorem Jt:Loc (ag cg) "_law_other":=.inl nofun
theorem Ju:aH (ag cg) "_law_third":=.inl nofun
theorem Jv:Loc (ag cg) "_law_third":=.inl nofun
theorem Jw:aH (ag cg) "_law_kind":=.inl nofun
theorem Jx:Loc (ag cg) "_law_kind":=.inl nofun
theorem IF:aH (ag cg) "_law_word":=.inl nofun
theorem IH:Loc (ag cg) "_law_word":=.inl nofun
theorem uV:(ag cg).names.lookup ("len":Str)=some .globalImplicit:=nofun
theorem GV:(ag cg).names.lookup ("_law_number_by":Str)=some .globalImplicit:=nofun
theorem zD:(ag cg).names.lookup ("_law_jump_by":Str)=some .globalImplicit:=nofun
theorem IJ:aH (ag c8) "_law_script":=.inl nofun
theorem IK:aH (ag c8) "_law_first":=.inl nofun
theorem IP:aH (ag c8) "_law_many":=.inl nofun
theorem IQ:aH (ag c8) "_law_names":=.inl nofun
theorem IR:aH (ag c8) "_law_rows":=.inl nofun
theorem IU:Loc (ag c8) "_law_rows":=.inl nofun
theorem IV:aH (ag c8) "_law_turns":=.inl nofun
theorem IW:Loc (ag c8) "_law_turns":=.inl nofun
theorem IX:aH (ag c8) "_law_place":=.inl nofun
theorem IY:Loc (ag c8) "_law_place":=.inl nofun
theorem Hh:(ag c8).names.lookup ("range":Str)=some .globalImplicit:=nofun
theorem GX:(ag c8).names.lookup ("_law_cell_at":Str)=some .globalImplicit:=nofun
theorem G1:(ag c8).names.lookup ("_law_row_by":Str)=some .globalImplicit:=nofun
theorem LP:aH (ag eN) "thing":=.inl nofun
theorem Hc:(ag eN).names.lookup ("isinstance":Str)=some .globalImplicit:=nofun
theorem K6:(ag eN).names.lookup ("str":Str)=some .globalImplicit:=nofun
theorem K7:(ag eN).names.lookup ("len":Str)=some .globalImplicit:=nofun
theorem G4:(ag eN).names.lookup ("MOST_LETTERS":Str)=some .globalImplicit:=nofun
theorem K8:(ag eN).names.lookup ("all":Str)=some .globalImplicit:=nofun
theorem Kt:aH (ag fo) "thing":=.inl nofun
theorem zE:(ag fo).names.lookup ("isinstance":Str)=some .globalImplicit:=nofun
theorem Jy:(ag fo).names.lookup ("int":Str)=some .globalImplicit:=nofun
theorem IZ:(ag fo).names.lookup ("bool":Str)=some .globalImplicit:=nofun
theorem zN:(ag fo).names.lookup ("HALF":Str)=some .globalImplicit:=nofun
theorem LQ:aH (ag fL) "thing":=.inl nofun
theorem Hd:(ag fL).names.lookup ("isinstance":Str)=some .globalImplicit:=nofun
theorem K9:(ag fL).names.lookup ("str":Str)=some .globalImplicit:=nofun
theorem Jz:(ag fL).names.lookup ("WORDS":Str)=some .globalImplicit:=nofun
theorem La:aH (ag f9) "thing":=.inl nofun
theorem Lb:aH (ag f9) "last_place":=.inl nofun
theorem He:(ag f9).names.lookup ("is_number":Str)=some .globalImplicit:=nofun
theorem LR:aH (ag ej) "kind":=.inl nofun
theorem LS:aH (ag ej) "thing":=.inl nofun
theorem LU:aH (ag ej) "last_place":=.inl nofun
theorem Ie:(ag ej).names.lookup ("is_name":Str)=some .globalImplicit:=nofun
theorem Hi:(ag ej).names.lookup ("is_number":Str)=some .globalImplicit:=nofun
theorem Ig:(ag ej).names.lookup ("is_word":Str)=some .globalImplicit:=nofun
theorem Hn:(ag ej).names.lookup ("is_place":Str)=some .globalImplicit:=nofun
theorem MF:aH (ag dI) "row":=.inl nofun
theorem MG:aH (ag dI) "kinds":=.inl nofun
theorem MH:Loc (ag dI) "kinds":=.inl nofun
theorem zG:(ag dI).names.lookup ("isinstance":Str)=some .globalImplicit:=nofun
theorem Ku:(ag dI).names.lookup ("tuple":Str)=some .globalImplicit:=nofun
theorem vf:(ag dI).names.lookup ("len":Str)=some .globalImplicit:=nofun
theorem LV:(ag dI).names.lookup ("str":Str)=some .globalImplicit:=nofun
theorem zU:(ag dI).names.lookup ("FORMS":Str)=some .globalImplicit:=nofun
theorem LW:(ag dI).names.lookup ("zip":Str)=some .globalImplicit:=nofun
theorem LX:(ag dI).names.lookup ("all":Str)=some .globalImplicit:=nofun
theorem Ho:aH (ag fY) "row":=.inl nofun
theorem G6:(ag fY).names.lookup ("FORMS":Str)=some .globalImplicit:=nofun
theorem Hj:(ag fY).names.lookup ("zip":Str)=some .globalImplicit:=nofun
theorem G7:aH (ag fj) "rows":=.inl nofun
theorem G8:aH (ag fj) "at":=.inl nofun
theorem G9:aH (ag fj) "place":=.inl nofun
theorem Ha:Loc (ag fj) "place":=.inl nofun
theorem GQ:(ag fj).names.lookup ("parts_of_kind":Str)=some .globalImplicit:=nofun
theorem Hq:aH (ag d0) "row":=.inl nofun
theorem Hr:aH (ag d0) "names":=.inl nofun
theorem Hs:aH (ag d0) "met":=.inl nofun
theorem Ht:Loc (ag d0) "met":=.inl nofun
theorem Hu:aH (ag d0) "name":=.inl nofun
theorem Hv:Loc (ag d0) "name":=.inl nofun
theorem Hf:(ag d0).names.lookup ("list":Str)=some .globalImplicit:=nofun
theorem GS:(ag d0).names.lookup ("parts_of_kind":Str)=some .globalImplicit:=nofun
theorem Ih:aH (ag cH) "rows":=.inl nofun
theorem Ii:aH (ag cH) "names":=.inl nofun
theorem zL:Loc (ag cH) "names":=.inl nofun
theorem Ij:aH (ag cH) "at":=.inl nofun
theorem Ik:Loc (ag cH) "at":=.inl nofun
theorem Il:aH (ag cH) "row":=.inl nofun
theorem Im:Loc (ag cH) "row":=.inl nofun
theorem GY:(ag cH).names.lookup ("isinstance":Str)=some .globalImplicit:=nofun
theorem Hk:(ag cH).names.lookup ("list":Str)=some .globalImplicit:=nofun
theorem uP:(ag cH).names.lookup ("len":Str)=some .globalImplicit:=nofun
theorem G2:(ag cH).names.lookup ("MOST_ROWS":Str)=some .globalImplicit:=nofun
theorem G3:(ag cH).names.lookup ("enumerate":Str)=some .globalImplicit:=nofun
theorem Hb:(ag cH).names.lookup ("is_row":Str)=some .globalImplicit:=nofun
theorem GR:(ag cH).names.lookup ("jumps_back_badly":Str)=some .globalImplicit:=nofun
theorem GU:(ag cH).names.lookup ("with_names_of":Str)=some .globalImplicit:=nofun
theorem GZ:(ag cH).names.lookup ("MOST_NAMES":Str)=some .globalImplicit:=nofun
theorem JC:aH (ag c9) "rows":=.inl nofun
theorem JD:aH (ag c9) "found":=.inl nofun
theorem JH:Loc (ag c9) "found":=.inl nofun
theorem JJ:aH (ag c9) "at":=.inl nofun
theorem JK:Loc (ag c9) "at":=.inl nofun
theorem JL:aH (ag c9) "row":=.inl nofun
theorem JM:Loc (ag c9) "row":=.inl nofun
theorem JN:aH (ag c9) "place":=.inl nofun
theorem JP:Loc (ag c9) "place":=.inl nofun
theorem Ja:(ag c9).names.lookup ("len":Str)=some .globalImplicit:=nofun
theorem G5:(ag c9).names.lookup ("enumerate":Str)=some .globalImplicit:=nofun
theorem GW:(ag c9).names.lookup ("parts_of_kind":Str)=some .globalImplicit:=nofun
theorem Hl:(ag c9).names.lookup ("sorted":Str)=some .globalImplicit:=nofun
theorem Py:aH (ag d8) "rows":=.inl nofun
theorem Pz:aH (ag d8) "firsts":=.inl nofun
theorem PB:Loc (ag d8) "firsts":=.inl nofun
theorem Hw:(ag d8).names.lookup ("need_program":Str)=some .globalImplicit:=nofun
theorem Jb:(ag d8).names.lookup ("beginnings":Str)=some .globalImplicit:=nofun
theorem Nl:(ag d8).names.lookup ("list":Str)=some .globalImplicit:=nofun
theorem NP:(ag d8).names.lookup ("zip":Str)=some .globalImplicit:=nofun
theorem AQ:(ag d8).names.lookup ("len":Str)=some .globalImplicit:=nofun
theorem LY:aH (ag eO) "rows":=.inl nofun
theorem LZ:aH (ag eO) "span":=.inl nofun
theorem L0:aH (ag eO) "numbers":=.inl nofun
theorem L1:aH (ag eO) "last":=.inl nofun
theorem L3:Loc (ag eO) "last":=.inl nofun
theorem Lc:(ag eO).names.lookup ("len":Str)=some .globalImplicit:=nofun
theorem NQ:aH (ag d3) "rows":=.inr (.inl nofun)
theorem NR:aH (ag d3) "spans":=.inl nofun
theorem NT:Loc (ag d3) "spans":=.inl nofun
theorem Zy:aH (ag d3) "numbers":=.inr (.inl nofun)
theorem NU:Loc (ag d3) "numbers":=.inr nofun
theorem Nn:(ag d3).names.lookup ("cut":Str)=some .globalImplicit:=nofun
theorem Jc:(ag d3).names.lookup ("enumerate":Str)=some .globalImplicit:=nofun
theorem MI:(ag d3).names.lookup ("dict":Str)=some .globalImplicit:=nofun
theorem L4:aH (ag eP) "_law_rows":=.inl nofun
theorem L5:aH (ag eP) "_law_blocks":=.inl nofun
theorem L6:aH (ag eP) "_law_k":=.inl nofun
theorem L7:aH (ag eP) "_law_row":=.inl nofun
theorem L8:Loc (ag eP) "_law_row":=.inl nofun
theorem Ld:(ag eP).names.lookup ("len":Str)=some .globalImplicit:=nofun
theorem Kv:aH (ag fK) "_law_found":=.inl nofun
theorem zF:(ag fK).names.lookup ("isinstance":Str)=some .globalImplicit:=nofun
theorem JQ:(ag fK).names.lookup ("int":Str)=some .globalImplicit:=nofun
theorem Jd:(ag fK).names.lookup ("bool":Str)=some .globalImplicit:=nofun
theorem PC:aH (ag bC) "_law_script":=.inl nofun
theorem PD:aH (ag bC) "_law_names":=.inl nofun
theorem PJ:Loc (ag bC) "_law_names":=.inl nofun
theorem PK:aH (ag bC) "_law_many":=.inl nofun
theorem Br:Loc (ag bC) "_law_many":=.inl nofun
theorem PL:aH (ag bC) "_law_rows":=.inl nofun
theorem PM:Loc (ag bC) "_law_rows":=.inl nofun
theorem PN:aH (ag bC) "_law_blocks":=.inl nofun
theorem PP:Loc (ag bC) "_law_blocks":=.inl nofun
theorem PQ:aH (ag bC) "_law_handed":=.inl nofun
theorem PR:Loc (ag bC) "_law_handed":=.inl nofun
theorem PU:aH (ag bC) "_law_found":=.inl nofun
theorem PV:Loc (ag bC) "_law_found":=.inl nofun
theorem PX:aH (ag bC) "_law_k":=.inl nofun
theorem PY:Loc (ag bC) "_law_k":=.inl nofun
theorem PZ:aH (ag bC) "_law_due_here":=.inl nofun
theorem P0:Loc (ag bC) "_law_due_here":=.inl nofun
theorem P1:aH (ag bC) "_law_other":=.inl nofun
theorem P2:Loc (ag bC) "_law_other":=.inl nofun
theorem NV:aH (ag bC) "_law_place":=.inl nofun
theorem NW:Loc (ag bC) "_law_place":=.inl nofun
theorem NX:aH (ag bC) "_law_again":=.inl nofun
theorem NY:Loc (ag bC) "_law_again":=.inl nofun
theorem nB:(ag bC).names.lookup ("_law_cell_at":Str)=some .globalImplicit:=nofun
theorem Hx:(ag bC).names.lookup ("_law_names_by":Str)=some .globalImplicit:=nofun
theorem Io:(ag bC).names.lookup ("_law_rows_by":Str)=some .globalImplicit:=nofun
theorem qG:(ag bC).names.lookup ("list":Str)=some .globalImplicit:=nofun
theorem NZ:(ag bC).names.lookup ("cut":Str)=some .globalImplicit:=nofun
theorem AD:(ag bC).names.lookup ("goes":Str)=some .globalImplicit:=nofun
theorem zO:(ag bC).names.lookup ("isinstance":Str)=some .globalImplicit:=nofun
theorem lQ:(ag bC).names.lookup ("len":Str)=some .globalImplicit:=nofun
theorem MJ:(ag bC).names.lookup ("range":Str)=some .globalImplicit:=nofun
theorem Le:(ag bC).names.lookup ("_law_due":Str)=some .globalImplicit:=nofun
theorem N0:(ag bC).names.lookup ("zip":Str)=some .globalImplicit:=nofun
theorem JR:(ag bC).names.lookup ("_law_whole":Str)=some .globalImplicit:=nofun
section
variable{P:aba}{w:World}{K:aab}{mg:Str->Option Value}{base:Heap}
theorem Lf:cA ["_law_script","_law_k"] ["_law_script","_law_k"] (ag fZ):=⟨rfl,rfl,rfl,nofun,rfl,nofun,nofun⟩
variable{X:Cx}
theorem JU(T:Tx X.K X.mg)(B:Bd X ["_law_script","_law_k"] (ag fZ) 0)(hF:cO X)(aK:X.env.scope=ag fZ):JB X (bg fZ) f6:=
 have v0 {p:Pos}:JE X (.Name "_law_script" p) (ae 0):=B.jv 0 rfl Iw u9;have v1 {p:Pos}:JE X (.Name "_law_k" p) (ae 1):=B.jv 1 rfl Iy nP
 (aN (bO (bN kU v1 (cD rfl nofun nofun cT cZ (B.gl _ HI) T.cN aaG (ak rfl v0 ay))) (aR (bh (B.ao v0 v1))) bR) (aR (bh aw)))
theorem lK(T:Tx K mg):bY P w K mg base (bS P w) 1 T.a_law_cell_at T.qp ["_law_script","_law_k"] (cf K mg 2 (fM f6 2 2)):=cW rfl rfl T.gD Lf fun{X} h1 h2 h3 h4 h5 B hF aK=>by subst h3 h4;exact JU T B hF aK
theorem Kw:cA ["_law_n","_law_many","_law_some","_law_size","_law_at","_law_names","_law_k","_law_word","_law_sign","_law_back"] ["_law_n","_law_many"] (ag cw):=⟨rfl,rfl,rfl,nofun,rfl,nofun,nofun⟩
theorem Je(T:Tx X.K X.mg)(B:Bd X ["_law_n","_law_many","_law_some","_law_size","_law_at","_law_names","_law_k","_law_word","_law_sign","_law_back"] (ag cw) 0)(hF:cO X)(aK:X.env.scope=ag cw):JB X (bg cw) kf:=
 have v0 {p:Pos}:JE X (.Name "_law_n" p) (ae 0):=B.jv 0 rfl HJ wo;have v1 {p:Pos}:JE X (.Name "_law_many" p) (ae 1):=B.jv 1 rfl HK nG;have v2 {p:Pos}:JE X (.Name "_law_some" p) (ae 2):=B.jv 2 rfl HL vn;have v3 {p:Pos}:JE X (.Name "_law_size" p) (ae 3):=B.jv 3 rfl HN Nh;have v4 {p:Pos}:JE X (.Name "_law_at" p) (ae 4):=B.jv 4 rfl HQ Pt;have v5 {p:Pos}:JE X (.Name "_law_names" p) (ae 5):=B.jv 5 rfl HS qy;have v6 {p:Pos}:JE X (.Name "_law_k" p) (ae 6):=B.jv 6 rfl HV nP;have v7 {p:Pos}:JE X (.Name "_law_word" p) (ae 7):=B.jv 7 rfl HX Az;have v8 {p:Pos}:JE X (.Name "_law_sign" p) (ae 8):=B.jv 8 rfl HY Ni;have v9 {p:Pos}:JE X (.Name "_law_back" p) (ae 9):=B.jv 9 rfl Ia Nj
 (aN (B.bZ 2 rfl HM rfl bM) (aN (B.bZ 3 rfl HP rfl (dm aw (cb (cM v0 aw) aw))) (aN (B.bZ 4 rfl HR rfl (cb (cM v0 aw) v3)) (aN (B.bZ 5 rfl HU rfl (da ay)) (aN (B.i9 (nJ (B.gl _ uN) T.l7 rfl (ak rfl v1 ay)) (B.c5 6 rfl HW) (aN (Cn (i:=7) (by rw[B.hN];exact B.nd) (by rw[B.hN];rfl) (B.fn _ zK).2 (by rw[aK];decide +kernel) B.calm (N':=["_law_j","_law_some","_law_k","_law_n"]) (Bd.cap B.hN aK nofun) (nJ (B.gl _ uN) T.l7 rfl (ak rfl aw ay)) (jU B T nofun nofun fun{X} B T=>(B.c5 0 rfl (.inl rfl))) (jV B T nofun nofun fun{X} B T=>kK) (jW B T nofun nofun fun{X} B T=>(B.ao (B.jv 1 rfl (.inr (.inr rfl)) vn) (cb (dm (dm (cM (B.jv 3 rfl (.inr (.inr rfl)) wo) aw) (nX aw (B.jv 0 rfl (.inl rfl) B3))) (cM (B.jv 2 rfl (.inr (.inr rfl)) nP) aw)) aw))) (A8 (by rw[aK];rfl) (by rw[aK];decide +kernel) rfl nofun)) (aR (bO (bN B.eq (cb v0 aw) aw) (aR (jt rfl (gK rfl rfl abq abi abj js kS ku v5 (ak rfl (gK rfl rfl acy acF acG rJ rV rK bM (ak rfl (jD v7 kG (iT (dm aw (cb (dm (cM v0 aw) v6) aw)))) ay)) ay)))) (aR (bO (bN B.eq (cb v0 aw) aw) (aN (Cn (i:=7) (by rw[B.hN];exact B.nd) (by rw[B.hN];rfl) (B.fn _ zK).2 (by rw[aK];decide +kernel) B.calm (N':=["_law_j","_law_some","_law_n"]) (Bd.cap B.hN aK nofun) (nJ (B.gl _ uN) T.l7 rfl (ak rfl aw ay)) (jU B T nofun nofun fun{X} B T=>(B.c5 0 rfl (.inl rfl))) (jV B T nofun nofun fun{X} B T=>kK) (jW B T nofun nofun fun{X} B T=>(B.ao (B.jv 1 rfl (.inr (.inr rfl)) vn) (cb (dm (cM (B.jv 2 rfl (.inr (.inr rfl)) wo) aw) (nX aw (B.jv 0 rfl (.inl rfl) B3))) aw))) (A8 (by rw[aK];rfl) (by rw[aK];decide +kernel) rfl nofun)) (aN (B.bZ 8 rfl HZ rfl (B.ao v2 (cb (dm (cM v0 aw) v6) aw))) (aN (B.bZ 9 rfl Ib rfl (gK rfl rfl acy acF acG rJ rV rK bM (ak rfl (jD v7 (iT (dm v4 aw)) (iT v3)) ay))) (aR (jt rfl (gK rfl rfl abq abi abj js kS ku v5 (ak rfl (dm (dm (gK rfl rfl acy acF acG rJ rV rK bM (ak rfl (jD v7 kG (iT v4)) ay)) v8) v9) ay))))))) (aR (jt rfl (gK rfl rfl abq abi abj js kS ku v5 (ak rfl (gK rfl rfl acy acF acG rJ rV rK bM (ak rfl (dm (jD v7 (iT (cb v6 aw)) kG) (jD v7 kG (iT (cb v6 aw)))) ay)) ay)))))))))) (aR (bh v5)))))))
theorem Kx(T:Tx K mg):bY P w K mg base (bS P w) 1 T.a_law_names_by T.qi ["_law_n","_law_many"] (cf K mg 2 (fM kf 10 2)):=cW rfl rfl T.lI Kw fun{X} h1 h2 h3 h4 h5 B hF aK=>by subst h3 h4;exact Je T B hF aK
theorem JV:cA ["_law_cell"] ["_law_cell"] (ag h9):=⟨rfl,rfl,rfl,nofun,rfl,nofun,nofun⟩
theorem Ip(T:Tx X.K X.mg)(B:Bd X ["_law_cell"] (ag h9) 0)(hF:cO X)(aK:X.env.scope=ag h9):JB X (bg h9) kb:=
 have v0 {p:Pos}:JE X (.Name "_law_cell" p) (ae 0):=B.jv 0 rfl Hm AA
 (aN (bO (bN B.eq (cb v0 aw) aw) (aR (bh (B.ao (da (ak rfl aw (ak rfl (n6 aw) (ak rfl aw (ak rfl (n6 aw) (ak rfl aw (ak rfl (n6 aw) (ak rfl aw (ak rfl aw ay))))))))) (cb (cM v0 aw) aw)))) bR) (aN (bO (bN B.eq (cb v0 aw) aw) (aR (bh (jw (cb (nX (cM v0 aw) aw) aw) aw))) bR) (aN (bO (bN B.eq (cb v0 aw) aw) (aR (bh (jw (cb (cM v0 aw) aw) aw))) bR) (aR (bh (jw (cb (cM v0 aw) aw) aw))))))
theorem JX(T:Tx K mg):bY P w K mg base (bS P w) 1 T.a_law_number_by T.p6 ["_law_cell"] (cf K mg 1 (fM kb 1 1)):=cW rfl rfl T.lG JV fun{X} h1 h2 h3 h4 h5 B hF aK=>by subst h3 h4;exact Ip T B hF aK
theorem Lg:cA ["_law_more","_law_place","_law_many","_law_turns"] ["_law_more","_law_place","_law_many","_law_turns"] (ag fk):=⟨rfl,rfl,rfl,nofun,rfl,nofun,nofun⟩
theorem JY(T:Tx X.K X.mg)(B:Bd X ["_law_more","_law_place","_law_many","_law_turns"] (ag fk) 0)(hF:cO X)(aK:X.env.scope=ag fk):JB X (bg fk) iO:=
 have v0 {p:Pos}:JE X (.Name "_law_more" p) (ae 0):=B.jv 0 rfl Iz AB;have v1 {p:Pos}:JE X (.Name "_law_place" p) (ae 1):=B.jv 1 rfl IB qz;have v2 {p:Pos}:JE X (.Name "_law_many" p) (ae 2):=B.jv 2 rfl IC nG;have v3 {p:Pos}:JE X (.Name "_law_turns" p) (ae 3):=B.jv 3 rfl ID vj
 (aN (bO (gS (Dc (bN B.ne v3 (da ay)) (gH (bN B.eq (cb v0 aw) aw)))) (aR (bh (B.ao v3 (cb (cM v0 aw) (cD rfl nofun nofun cT cZ (B.gl _ Ic) T.cN aaG (ak rfl v3 ay)))))) bR) (aR (bh (dm (dm v1 aw) (cb (cM v0 aw) (jw v2 v1))))))
theorem z8(T:Tx K mg):bY P w K mg base (bS P w) 1 T.a_law_jump_by T.qq ["_law_more","_law_place","_law_many","_law_turns"] (cf K mg 4 (fM iO 4 4)):=cW rfl rfl T.kl Lg fun{X} h1 h2 h3 h4 h5 B hF aK=>by subst h3 h4;exact JY T B hF aK
theorem L9:cA ["_law_cell","_law_place","_law_many","_law_names","_law_turns","_law_more","_law_one","_law_other","_law_third","_law_kind","_law_word"] ["_law_cell","_law_place","_law_many","_law_names","_law_turns"] (ag cg):=⟨rfl,rfl,rfl,nofun,rfl,nofun,nofun⟩
theorem Ky(T:Tx X.K X.mg)(B:Bd X ["_law_cell","_law_place","_law_many","_law_names","_law_turns","_law_more","_law_one","_law_other","_law_third","_law_kind","_law_word"] (ag cg) 1)(hF:cO X)(aK:X.env.scope=ag cg):JB X (bg cg) km:=
 have v0 {p:Pos}:JE X (.Name "_law_cell" p) (ae 0):=B.jv 0 rfl Ji AA;have v1 {p:Pos}:JE X (.Name "_law_place" p) (ae 1):=B.jv 1 rfl Jk qz;have v2 {p:Pos}:JE X (.Name "_law_many" p) (ae 2):=B.jv 2 rfl Jl nG;have v3 {p:Pos}:JE X (.Name "_law_names" p) (ae 3):=B.jv 3 rfl Jm qy;have v4 {p:Pos}:JE X (.Name "_law_turns" p) (ae 4):=B.jv 4 rfl Jn vj;have v5 {p:Pos}:JE X (.Name "_law_more" p) (ae 5):=B.jv 5 rfl Jo AB;have v6 {p:Pos}:JE X (.Name "_law_one" p) (ae 6):=B.jv 6 rfl Jq AN;have v7 {p:Pos}:JE X (.Name "_law_other" p) (ae 7):=B.jv 7 rfl Js Ao;have v8 {p:Pos}:JE X (.Name "_law_third" p) (ae 8):=B.jv 8 rfl Ju MC;have v9 {p:Pos}:JE X (.Name "_law_kind" p) (ae 9):=B.jv 9 rfl Jw Nk;have pw {p:Pos}:JE X (.Name "_law_word" p) (ae 10):=B.jv 10 rfl IF Az
 (aN (B.bZ 0 rfl Jj rfl (cb (nX v0 aw) aw)) (aN (B.bZ 5 rfl Jp rfl (cM v0 aw)) (aN (B.bZ 6 rfl Jr rfl (B.ao v3 (cb v5 (cD rfl nofun nofun cT cZ (B.gl _ uV) T.cN aaG (ak rfl v3 ay))))) (aN (B.bZ 7 rfl Jt rfl (B.ao v3 (cb (cM v5 aw) (cD rfl nofun nofun cT cZ (B.gl _ uV) T.cN aaG (ak rfl v3 ay))))) (aN (B.bZ 8 rfl Jv rfl (B.ao v3 (cb (cM v5 aw) (cD rfl nofun nofun cT cZ (B.gl _ uV) T.cN aaG (ak rfl v3 ay))))) (aN (B.bZ 9 rfl Jx rfl (cb v0 aw)) (aN (bO (bN kU v9 aw) (aR (bh (B.ao (da (ak rfl (eQ (ak rfl bM (ak rfl v6 (ak rfl (b7 rfl nofun (JX T) b6 (B.room.mono (by decide)) (B.gl _ GV) T.zS T.lG.kp T.kb (ak rfl (cM v5 aw) ay)) ay)))) (ak rfl (eQ (ak rfl bM (ak rfl v6 (ak rfl v7 ay)))) (ak rfl (eQ (ak rfl bM (ak rfl v6 ay))) ay)))) v9))) bR) (aN (bO (bN kU v9 aw) (aN (B.bZ 10 rfl IH rfl (B.ao (da (ak rfl bM (ak rfl bM (ak rfl bM (ak rfl bM (ak rfl bM (ak rfl bM ay))))))) (cb (cM v5 aw) aw))) (aR (bh (eQ (ak rfl bM (ak rfl v6 (ak rfl pw (ak rfl v7 (ak rfl v8 ay))))))))) bR) (aN (bO (bN kU v9 aw) (aR (bh (B.ao (da (ak rfl (eQ (ak rfl bM (ak rfl v6 ay))) (ak rfl (eQ (ak rfl bM ay)) ay))) (jw v9 aw)))) bR) (aN (bO (bN kU v9 aw) (aR (bh (eQ (ak rfl bM (ak rfl v6 (ak rfl (b7 rfl nofun (z8 T) b6 (B.room.mono (by decide)) (B.gl _ zD) T.u7 T.kl.kp T.iO (ak rfl (cM v5 aw) (ak rfl v1 (ak rfl v2 (ak rfl v4 ay))))) ay)))))) bR) (aN (bO (bN B.eq v9 aw) (aR (bh (eQ (ak rfl bM (ak rfl (b7 rfl nofun (z8 T) b6 (B.room.mono (by decide)) (B.gl _ zD) T.u7 T.kl.kp T.iO (ak rfl (cM v5 aw) (ak rfl v1 (ak rfl v2 (ak rfl v4 ay))))) ay))))) bR) (aR (bh (B.ao (da (ak rfl (eQ (ak rfl bM ay)) (ak rfl (eQ (ak rfl bM (ak rfl v6 ay))) (ak rfl (eQ (ak rfl bM ay)) ay)))) (cb (cM v5 aw) aw)))))))))))))))
theorem Ma(T:Tx K mg):bY P w K mg base (bS P w) 2 T.a_law_row_by T.qw ["_law_cell","_law_place","_law_many","_law_names","_law_turns"] (cf K mg 5 (fM km 11 5)):=cW rfl rfl T.lM L9 fun{X} h1 h2 h3 h4 h5 B hF aK=>by subst h3 h4;exact Ky T B hF aK
theorem Lh:cA ["_law_script","_law_first","_law_many","_law_names","_law_rows","_law_turns","_law_place"] ["_law_script","_law_first","_law_many","_law_names"] (ag c8):=⟨rfl,rfl,rfl,nofun,rfl,nofun,nofun⟩
theorem JZ(T:Tx X.K X.mg)(B:Bd X ["_law_script","_law_first","_law_many","_law_names","_law_rows","_law_turns","_law_place"] (ag c8) 2)(hF:cO X)(aK:X.env.scope=ag c8):JB X (bg c8) ki:=
 have v0 {p:Pos}:JE X (.Name "_law_script" p) (ae 0):=B.jv 0 rfl IJ u9;have v1 {p:Pos}:JE X (.Name "_law_first" p) (ae 1):=B.jv 1 rfl IK MD;have v2 {p:Pos}:JE X (.Name "_law_many" p) (ae 2):=B.jv 2 rfl IP nG;have v3 {p:Pos}:JE X (.Name "_law_names" p) (ae 3):=B.jv 3 rfl IQ qy;have v4 {p:Pos}:JE X (.Name "_law_rows" p) (ae 4):=B.jv 4 rfl IR vp;have v5 {p:Pos}:JE X (.Name "_law_turns" p) (ae 5):=B.jv 5 rfl IV vj;have v6 {p:Pos}:JE X (.Name "_law_place" p) (ae 6):=B.jv 6 rfl IX qz
 (aN (B.bZ 4 rfl IU rfl (da ay)) (aN (B.bZ 5 rfl IW rfl (da ay)) (aN (B.i9 (nJ (B.gl _ Hh) T.l7 rfl (ak rfl v2 ay)) (B.c5 6 rfl IY) (aN (jt rfl (gK rfl rfl abq abi abj js kS ku v4 (ak rfl (b7 rfl nofun (Ma T) b6 (B.room.mono (by decide)) (B.gl _ G1) T.Al T.lM.kp T.km (ak rfl (dm (b7 rfl nofun (lK T) b6 (B.room.mono (by decide)) (B.gl _ GX) T.kj T.gD.kp T.f6 (ak rfl v0 (ak rfl (dm v1 (cb v6 aw)) ay))) (nX aw v6)) (ak rfl v6 (ak rfl v2 (ak rfl v3 (ak rfl v5 ay)))))) ay))) (aR (bO (bN B.eq (B.ao v4 (n6 aw)) (eQ (ak rfl bM ay))) (aR (jt rfl (gK rfl rfl abq abi abj js kS ku v5 (ak rfl v6 ay)))) bR)))) (aR (bh v4)))))
theorem Li(T:Tx K mg):bY P w K mg base (bS P w) 3 T.a_law_rows_by T.qr ["_law_script","_law_first","_law_many","_law_names"] (cf K mg 4 (fM ki 7 4)):=cW rfl rfl T.lL Lh fun{X} h1 h2 h3 h4 h5 B hF aK=>by subst h3 h4;exact JZ T B hF aK
theorem N1:cA ["thing"] ["thing"] (ag eN):=⟨rfl,rfl,rfl,nofun,rfl,nofun,nofun⟩
theorem MK(T:Tx X.K X.mg)(B:Bd X ["thing"] (ag eN) 0)(hF:cO X)(aK:X.env.scope=ag eN):JB X (bg eN) kx:=
 have v0 {p:Pos}:JE X (.Name "thing" p) (ae 0):=B.jv 0 rfl LP kF
 (aN (bO (gS (gM (gI (gJ rfl (gO vQ adv nofun nofun rfl (B.gl _ Hc) T.f7 (B.gl _ K6) T.sR v0))) (gH (gI (BH kW kW (by with_unfolding_all rfl) aw (cD rfl nofun nofun cT cZ (B.gl _ K7) T.cN aaG (ak rfl v0 ay)) (nT (B.gl _ G4) T.z7 nofun)))))) (aR (bh ft)) bR) (aR (bh (cD rfl nofun nofun (AI B.calm) Df (B.gl _ K8) T.xU aeX (ak rfl (l6 B.calm (N':=["sign"]) (Bd.cap B.hN aK nofun) (UW v0) (jU B T nofun nofun fun{X} B T=>(B.c5 0 rfl (.inl rfl))) (jV B T nofun nofun fun{X} B T=>kK) (jW B T nofun nofun fun{X} B T=>(wY (U3 (by with_unfolding_all rfl)) (B.jv 0 rfl (.inl rfl) Sy) (RW (B.gl _ rfl) T.Bq nofun)))) ay)))))
theorem N2(T:Tx K mg):bY P w K mg base (bS P w) 1 T.a_is_name T.qT ["thing"] (cf K mg 1 (fM kx 1 1)):=cW rfl rfl T.lT N1 fun{X} h1 h2 h3 h4 h5 B hF aK=>by subst h3 h4;exact MK T B hF aK
theorem ML:cA ["thing"] ["thing"] (ag fo):=⟨rfl,rfl,rfl,nofun,rfl,nofun,nofun⟩
theorem Lj(T:Tx X.K X.mg)(B:Bd X ["thing"] (ag fo) 0)(hF:cO X)(aK:X.env.scope=ag fo):JB X (bg fo) jr:=
 have v0 {p:Pos}:JE X (.Name "thing" p) (ae 0):=B.jv 0 rfl Kt kF
 (aN (bO (gS (gM (gI (gJ rfl (gO BC aeY nofun nofun rfl (B.gl _ zE) T.f7 (B.gl _ Jy) T.xV v0))) (gH (gJ rfl (gO A4 aeJ nofun nofun rfl (B.gl _ zE) T.f7 (B.gl _ IZ) T.xn v0))))) (aR (bh ft)) bR) (aR (bh (BG kW kU (by with_unfolding_all rfl) (n6 (nT (B.gl _ zN) T.xo nofun)) v0 (nT (B.gl _ zN) T.xo nofun)))))
theorem Aq(T:Tx K mg):bY P w K mg base (bS P w) 1 T.a_is_number T.qD ["thing"] (cf K mg 1 (fM jr 1 1)):=cW rfl rfl T.kq ML fun{X} h1 h2 h3 h4 h5 B hF aK=>by subst h3 h4;exact Lj T B hF aK
theorem N3:cA ["thing"] ["thing"] (ag fL):=⟨rfl,rfl,rfl,nofun,rfl,nofun,nofun⟩
theorem MM(T:Tx X.K X.mg)(B:Bd X ["thing"] (ag fL) 0)(hF:cO X)(aK:X.env.scope=ag fL):JB X (bg fL) ky:=
 have v0 {p:Pos}:JE X (.Name "thing" p) (ae 0):=B.jv 0 rfl LQ kF
 (aR (bh (w8 (gO vQ adv nofun nofun rfl (B.gl _ Hd) T.f7 (B.gl _ K9) T.sR v0) (wZ (wY (U2 (by with_unfolding_all rfl)) v0 (UZ (B.gl _ Jz) T.CT T.ju nofun))))))
theorem N4(T:Tx K mg):bY P w K mg base (bS P w) 1 T.a_is_word T.qU ["thing"] (cf K mg 1 (fM ky 1 1)):=cW rfl rfl T.lU N3 fun{X} h1 h2 h3 h4 h5 B hF aK=>by subst h3 h4;exact MM T B hF aK
theorem Np:cA ["thing","last_place"] ["thing","last_place"] (ag f9):=⟨rfl,rfl,rfl,nofun,rfl,nofun,nofun⟩
theorem Mb(T:Tx X.K X.mg)(B:Bd X ["thing","last_place"] (ag f9) 1)(hF:cO X)(aK:X.env.scope=ag f9):JB X (bg f9) kr:=
 have v0 {p:Pos}:JE X (.Name "thing" p) (ae 0):=B.jv 0 rfl La kF;have v1 {p:Pos}:JE X (.Name "last_place" p) (ae 1):=B.jv 1 rfl Lb ve
 (aR (bh (w8 (b7 rfl nofun (Aq T) b6 (B.room.mono (by decide)) (B.gl _ He) T.vm T.kq.kp T.jr (ak rfl v0 ay)) (wZ (BG kW kW (by with_unfolding_all rfl) aw v0 v1)))))
theorem Nq(T:Tx K mg):bY P w K mg base (bS P w) 2 T.a_is_place T.qJ ["thing","last_place"] (cf K mg 2 (fM kr 2 2)):=cW rfl rfl T.lP Np fun{X} h1 h2 h3 h4 h5 B hF aK=>by subst h3 h4;exact Mb T B hF aK
theorem N5:cA ["kind","thing","last_place"] ["kind","thing","last_place"] (ag ej):=⟨rfl,rfl,rfl,nofun,rfl,nofun,nofun⟩
theorem MN(T:Tx X.K X.mg)(B:Bd X ["kind","thing","last_place"] (ag ej) 2)(hF:cO X)(aK:X.env.scope=ag ej):JB X (bg ej) ie:=
 have v0 {p:Pos}:JE X (.Name "kind" p) (ae 0):=B.jv 0 rfl LR wK;have v1 {p:Pos}:JE X (.Name "thing" p) (ae 1):=B.jv 1 rfl LS kF;have v2 {p:Pos}:JE X (.Name "last_place" p) (ae 2):=B.jv 2 rfl LU ve
 (aN (bO (bN B.eq v0 bM) (aR (bh (b7 rfl nofun (N2 T) b6 (B.room.mono (by decide)) (B.gl _ Ie) T.Bl T.lT.kp T.kx (ak rfl v1 ay)))) bR) (aN (bO (bN B.eq v0 bM) (aR (bh (b7 rfl nofun (Aq T) b6 (B.room.mono (by decide)) (B.gl _ Hi) T.vm T.kq.kp T.jr (ak rfl v1 ay)))) bR) (aN (bO (bN B.eq v0 bM) (aR (bh (b7 rfl nofun (N4 T) b6 (B.room.mono (by decide)) (B.gl _ Ig) T.Bm T.lU.kp T.ky (ak rfl v1 ay)))) bR) (aR (bh (b7 rfl nofun (Nq T) b6 (B.room.mono (by decide)) (B.gl _ Hn) T.AL T.lP.kp T.kr (ak rfl v1 (ak rfl v2 ay))))))))
theorem N6(T:Tx K mg):bY P w K mg base (bS P w) 3 T.a_is_part T.qV ["kind","thing","last_place"] (cf K mg 3 (fM ie 3 3)):=cW rfl rfl T.lV N5 fun{X} h1 h2 h3 h4 h5 B hF aK=>by subst h3 h4;exact MN T B hF aK
theorem P4:cA ["row","last_place","kinds"] ["row","last_place"] (ag dI):=⟨rfl,rfl,rfl,nofun,rfl,nofun,nofun⟩
theorem Nr(T:Tx X.K X.mg)(B:Bd X ["row","last_place","kinds"] (ag dI) 3)(hF:cO X)(aK:X.env.scope=ag dI):JB X (bg dI) kC:=
 have v0 {p:Pos}:JE X (.Name "row" p) (ae 0):=B.jv 0 rfl MF og;have v2 {p:Pos}:JE X (.Name "kinds" p) (ae 2):=B.jv 2 rfl MG QS
 (aN (bO (gS (gM (gI (gJ rfl (gO NK PyProof.Rows.boot_tuple nofun nofun rfl (B.gl _ zG) T.f7 (B.gl _ Ku) T.CS v0))) (gH (bN B.eq (cD rfl nofun nofun cT cZ (B.gl _ vf) T.cN aaG (ak rfl v0 ay)) aw)))) (aR (bh ft)) bR) (aN (bO (gS (gM (gI (gJ rfl (gO vQ adv nofun nofun rfl (B.gl _ zG) T.f7 (B.gl _ LV) T.sR (B.ao v0 aw)))) (gH (Sx (B.gl _ zU) T.rL T.cX nofun (by with_unfolding_all rfl) (B.ao v0 aw))))) (aR (bh ft)) bR) (aN (B.bZ 2 rfl MH rfl (CP (B.gl _ zU) T.rL T.cX nofun (by intro _ _;rfl) (B.ao v0 aw))) (aN (bO (bN B.ne (cD rfl nofun nofun cT cZ (B.gl _ vf) T.cN aaG (ak rfl v0 ay)) (dm (cD rfl nofun nofun cT cZ (B.gl _ vf) T.cN aaG (ak rfl v2 ay)) aw)) (aR (bh ft)) bR) (aR (bh (cD rfl nofun nofun (AI B.calm) Df (B.gl _ LX) T.xU aeX (ak rfl (l6 B.calm (N':=["kind","thing","last_place"]) (Bd.cap B.hN aK nofun) (CN (B.gl _ LW) T.oI rfl rfl (ak rfl v2 (ak rfl (jD v0 (iT aw) kG) ay))) (jU B T nofun nofun fun{X} B T=>(mm B.calm (gc (B.c5 0 rfl (.inl rfl)) (gc (B.c5 1 rfl (.inl rfl)) l5)))) (jV B T nofun nofun fun{X} B T=>kK) (jW B T nofun nofun fun{X} B T=>(b7 rfl nofun (N6 T) b6 (B.room.mono (by decide)) (B.gl _ rfl) T.Bn T.lV.kp T.ie (ak rfl (B.jv 0 rfl (.inl rfl) wK) (ak rfl (B.jv 1 rfl (.inl rfl) kF) (ak rfl (B.jv 2 rfl (.inr (.inr rfl)) ve) ay)))))) ay))))))))
theorem P5(T:Tx K mg):bY P w K mg base (bS P w) 4 T.a_is_row T.rq ["row","last_place"] (cf K mg 2 (fM kC 3 2)):=cW rfl rfl T.lZ P4 fun{X} h1 h2 h3 h4 h5 B hF aK=>by subst h3 h4;exact Nr T B hF aK
theorem J0:cA ["row","wanted"] ["row","wanted"] (ag fY):=⟨rfl,rfl,rfl,nofun,rfl,nofun,nofun⟩
theorem Iq(T:Tx X.K X.mg)(B:Bd X ["row","wanted"] (ag fY) 0)(hF:cO X)(aK:X.env.scope=ag fY):JB X (bg fY) iN:=
 have v0 {p:Pos}:JE X (.Name "row" p) (ae 0):=B.jv 0 rfl Ho og
 (aR (bh (l6 B.calm (N':=["kind","thing","wanted"]) (Bd.cap B.hN aK nofun) (CN (B.gl _ Hj) T.oI rfl rfl (ak rfl (CP (B.gl _ G6) T.rL T.cX nofun (by intro _ _;rfl) (B.ao v0 aw)) (ak rfl (jD v0 (iT aw) kG) ay))) (jU B T nofun nofun fun{X} B T=>(mm B.calm (gc (B.c5 0 rfl (.inl rfl)) (gc (B.c5 1 rfl (.inl rfl)) l5)))) (jV B T nofun nofun fun{X} B T=>(UJ (bN B.eq (B.jv 0 rfl (.inl rfl) wK) (B.jv 2 rfl (.inr (.inr rfl)) Pu)))) (jW B T nofun nofun fun{X} B T=>(B.jv 1 rfl (.inl rfl) kF)))))
theorem uW(T:Tx K mg):bY P w K mg base (bS P w) 1 T.a_parts_of_kind T.qc ["row","wanted"] (cf K mg 2 (fM iN 2 2)):=cW rfl rfl T.jq J0 fun{X} h1 h2 h3 h4 h5 B hF aK=>by subst h3 h4;exact Iq T B hF aK
theorem Hy:cA ["rows","at","place"] ["rows","at"] (ag fj):=⟨rfl,rfl,rfl,nofun,rfl,nofun,nofun⟩
theorem Hg(T:Tx X.K X.mg)(B:Bd X ["rows","at","place"] (ag fj) 1)(hF:cO X)(aK:X.env.scope=ag fj):JB X (bg fj) j9:=
 have v0 {p:Pos}:JE X (.Name "rows" p) (ae 0):=B.jv 0 rfl G7 kI;have v1 {p:Pos}:JE X (.Name "at" p) (ae 1):=B.jv 1 rfl G8 xW;have v2 {p:Pos}:JE X (.Name "place" p) (ae 2):=B.jv 2 rfl G9 B4
 (aN (B.i9 (nU (b7 rfl nofun (uW T) b6 (B.room.mono (by decide)) (B.gl _ GQ) T.qd T.jq.kp T.iN (ak rfl (B.ao v0 v1) (ak rfl bM ay)))) (B.c5 2 rfl Ha) (aR (bO (gS (Dc (bN kW v2 v1) (gH (bN B.ne (B.ao (B.ao v0 v2) aw) bM)))) (aR (bh ft)) bR))) (aR (bh ft)))
theorem Hz(T:Tx K mg):bY P w K mg base (bS P w) 2 T.a_jumps_back_badly T.pY ["rows","at"] (cf K mg 2 (fM j9 3 2)):=cW rfl rfl T.lF Hy fun{X} h1 h2 h3 h4 h5 B hF aK=>by subst h3 h4;exact Hg T B hF aK
theorem J1:cA ["row","names","met","name"] ["row","names"] (ag d0):=⟨rfl,rfl,rfl,nofun,rfl,nofun,nofun⟩
theorem Ir(T:Tx X.K X.mg)(B:Bd X ["row","names","met","name"] (ag d0) 1)(hF:cO X)(aK:X.env.scope=ag d0):JB X (bg d0) ke:=
 have v0 {p:Pos}:JE X (.Name "row" p) (ae 0):=B.jv 0 rfl Hq og;have v1 {p:Pos}:JE X (.Name "names" p) (ae 1):=B.jv 1 rfl Hr B5;have v2 {p:Pos}:JE X (.Name "met" p) (ae 2):=B.jv 2 rfl Hs U5;have v3 {p:Pos}:JE X (.Name "name" p) (ae 3):=B.jv 3 rfl Hu Sz
 (aN (B.bZ 2 rfl Ht rfl (rP rfl nofun nofun (vt B.calm) wH (B.gl _ Hf) T.jz abr (ak rfl v1 ay))) (aN (B.i9 (nU (b7 rfl nofun (uW T) b6 (B.room.mono (by decide)) (B.gl _ GS) T.qd T.jq.kp T.iN (ak rfl v0 (ak rfl bM ay)))) (B.c5 3 rfl Hv) (aR (bO (bN (B.Ws (by with_unfolding_all rfl)) v3 v2) (aR (jt rfl (gK rfl rfl abq abi abj js kS ku v2 (ak rfl v3 ay)))) bR))) (aR (bh v2))))
theorem J2(T:Tx K mg):bY P w K mg base (bS P w) 2 T.a_with_names_of T.qe ["row","names"] (cf K mg 2 (fM ke 4 2)):=cW rfl rfl T.lH J1 fun{X} h1 h2 h3 h4 h5 B hF aK=>by subst h3 h4;exact Ir T B hF aK
theorem Kz:cA ["rows","names","at","row"] ["rows"] (ag cH):=⟨rfl,rfl,rfl,nofun,rfl,nofun,nofun⟩
theorem Jf(T:Tx X.K X.mg)(B:Bd X ["rows","names","at","row"] (ag cH) 4)(hF:cO X)(aK:X.env.scope=ag cH):JB X (bg cH) kg:=
 have v0 {p:Pos}:JE X (.Name "rows" p) (ae 0):=B.jv 0 rfl Ih kI;have v1 {p:Pos}:JE X (.Name "names" p) (ae 1):=B.jv 1 rfl Ii B5;have v2 {p:Pos}:JE X (.Name "at" p) (ae 2):=B.jv 2 rfl Ij xW;have v3 {p:Pos}:JE X (.Name "row" p) (ae 3):=B.jv 3 rfl Il og
 (aN (bO (gS (gM (gI (gJ rfl (gO vD abr nofun nofun rfl (B.gl _ GY) T.f7 (B.gl _ Hk) T.jz v0))) (gH (bN D7 (cD rfl nofun nofun cT cZ (B.gl _ uP) T.cN aaG (ak rfl v0 ay)) (nT (B.gl _ G2) T.Ay nofun))))) (aR vT) bR) (aN (B.bZ 1 rfl zL rfl (da ay)) (aN (B.i9 (wF (B.gl _ G3) T.qF rfl (ak rfl v0 ay)) (mm B.calm (gc (B.c5 2 rfl Ik) (gc (B.c5 3 rfl Im) l5))) (aN (bO (gS (gM (gI (gJ rfl (b7 rfl nofun (P5 T) b6 (B.room.mono (by decide)) (B.gl _ Hb) T.B1 T.lZ.kp T.kC (ak rfl v3 (ak rfl (cD rfl nofun nofun cT cZ (B.gl _ uP) T.cN aaG (ak rfl v0 ay)) ay))))) (gH (gJ rfl (b7 rfl nofun (Hz T) b6 (B.room.mono (by decide)) (B.gl _ GR) T.zJ T.lF.kp T.j9 (ak rfl v0 (ak rfl v2 ay))))))) (aR vT) bR) (aN (B.bZ 1 rfl zL rfl (b7 rfl nofun (J2 T) b6 (B.room.mono (by decide)) (B.gl _ GU) T.zT T.lH.kp T.ke (ak rfl v3 (ak rfl v1 ay)))) (aR (bO (bN D7 (cD rfl nofun nofun cT cZ (B.gl _ uP) T.cN aaG (ak rfl v1 ay)) (nT (B.gl _ GZ) T.An nofun)) (aR vT) bR))))) (aR (bh v1)))))
theorem KA(T:Tx K mg):bY P w K mg base (bS P w) 5 T.a_need_program T.qj ["rows"] (cf K mg 1 (fM kg 4 1)):=cW rfl rfl T.lJ Kz fun{X} h1 h2 h3 h4 h5 B hF aK=>by subst h3 h4;exact Jf T B hF aK
theorem Mc:cA ["rows","found","at","row","place"] ["rows"] (ag c9):=⟨rfl,rfl,rfl,nofun,rfl,nofun,nofun⟩
theorem KC(T:Tx X.K X.mg)(B:Bd X ["rows","found","at","row","place"] (ag c9) 1)(hF:cO X)(aK:X.env.scope=ag c9):JB X (bg c9) kn:=
 have v0 {p:Pos}:JE X (.Name "rows" p) (ae 0):=B.jv 0 rfl JC kI;have v1 {p:Pos}:JE X (.Name "found" p) (ae 1):=B.jv 1 rfl JD QT;have v2 {p:Pos}:JE X (.Name "at" p) (ae 2):=B.jv 2 rfl JJ xW;have v3 {p:Pos}:JE X (.Name "row" p) (ae 3):=B.jv 3 rfl JL og;have v4 {p:Pos}:JE X (.Name "place" p) (ae 4):=B.jv 4 rfl JN B4
 (aN (B.bZ 1 rfl JH rfl (QR aw ft (cD rfl nofun nofun cT cZ (B.gl _ Ja) T.cN aaG (ak rfl v0 ay)) ft)) (aN (B.i9 (wF (B.gl _ G5) T.qF rfl (ak rfl v0 ay)) (mm B.calm (gc (B.c5 2 rfl JK) (gc (B.c5 3 rfl JM) l5))) (aN (B.i9 (nU (b7 rfl nofun (uW T) b6 (B.room.mono (by decide)) (B.gl _ GW) T.qd T.jq.kp T.iN (ak rfl v3 (ak rfl bM ay)))) (B.c5 4 rfl JP) (aR (Dd ft (B.Cq v1 v4)))) (aR (bO (bN (B.Xx (by with_unfolding_all rfl)) (B.ao v3 aw) (eQ (ak rfl bM (ak rfl bM (ak rfl bM ay))))) (aR (Dd ft (B.Cq v1 (dm v2 aw)))) bR)))) (aR (bh (cD rfl nofun nofun (Pl B.calm) R7 (B.gl _ Hl) T.B2 boot_sorted (ak rfl v1 ay))))))
theorem Md(T:Tx K mg):bY P w K mg base (bS P w) 2 T.a_beginnings T.qx ["rows"] (cf K mg 1 (fM kn 5 1)):=cW rfl rfl T.lN Mc fun{X} h1 h2 h3 h4 h5 B hF aK=>by subst h3 h4;exact KC T B hF aK
theorem U6:cA ["rows","firsts"] ["rows"] (ag d8):=⟨rfl,rfl,rfl,nofun,rfl,nofun,nofun⟩
theorem QV(T:Tx X.K X.mg)(B:Bd X ["rows","firsts"] (ag d8) 5)(hF:cO X)(aK:X.env.scope=ag d8):JB X (bg d8) jF:=
 have v0 {p:Pos}:JE X (.Name "rows" p) (ae 0):=B.jv 0 rfl Py kI;have v1 {p:Pos}:JE X (.Name "firsts" p) (ae 1):=B.jv 1 rfl Pz Pw
 (aN (jt rfl (b7 rfl nofun (KA T) b6 (B.room.mono (by decide)) (B.gl _ Hw) T.z6 T.lJ.kp T.kg (ak rfl v0 ay))) (aN (B.bZ 1 rfl PB rfl (b7 rfl nofun (Md T) b6 (B.room.mono (by decide)) (B.gl _ Jb) T.Am T.lN.kp T.kn (ak rfl v0 ay))) (aR (bh (dm (Sr B.calm (B.gl _ Nl) T.jz (B.gl _ NP) T.oI rfl rfl (ak rfl v1 (ak rfl (jD v1 (iT aw) kG) ay))) (da (ak rfl (eQ (ak rfl (cD rfl nofun nofun cT cZ (B.gl _ AQ) T.cN aaG (ak rfl v0 ay)) (ak rfl (cD rfl nofun nofun cT cZ (B.gl _ AQ) T.cN aaG (ak rfl v0 ay)) ay))) ay)))))))
theorem DF(T:Tx K mg):bY P w K mg base (bS P w) 6 T.a_cut T.sP ["rows"] (cf K mg 1 (fM jF 2 1)):=cW rfl rfl T.kZ U6 fun{X} h1 h2 h3 h4 h5 B hF aK=>by subst h3 h4;exact QV T B hF aK
theorem N7:cA ["rows","span","numbers","last"] ["rows","span","numbers"] (ag eO):=⟨rfl,rfl,rfl,nofun,rfl,nofun,nofun⟩
theorem MO(T:Tx X.K X.mg)(B:Bd X ["rows","span","numbers","last"] (ag eO) 0)(hF:cO X)(aK:X.env.scope=ag eO):JB X (bg eO) kz:=
 have v0 {p:Pos}:JE X (.Name "rows" p) (ae 0):=B.jv 0 rfl LY kI;have v1 {p:Pos}:JE X (.Name "span" p) (ae 1):=B.jv 1 rfl LZ wL;have v2 {p:Pos}:JE X (.Name "numbers" p) (ae 2):=B.jv 2 rfl L0 AO;have v3 {p:Pos}:JE X (.Name "last" p) (ae 3):=B.jv 3 rfl L1 SA
 (aN (bO (bN B.eq (B.ao v1 aw) (cD rfl nofun nofun cT cZ (B.gl _ Lc) T.cN aaG (ak rfl v0 ay))) (aR (bh (da ay))) bR) (aN (B.bZ 3 rfl L3 rfl (B.ao v0 (jw (B.ao v1 aw) aw))) (aN (bO (bN B.eq (B.ao v3 aw) bM) (aR (bh (da (ak rfl (B.ao v2 (B.ao v3 aw)) (ak rfl (B.ao v2 (B.ao v1 aw)) ay))))) bR) (aN (bO (bN B.eq (B.ao v3 aw) bM) (aR (bh (da (ak rfl (B.ao v2 (B.ao v3 aw)) ay)))) bR) (aN (bO (bN B.eq (B.ao v3 aw) bM) (aR (bh (da ay))) bR) (aR (bh (da (ak rfl (B.ao v2 (B.ao v1 aw)) ay)))))))))
theorem N8(T:Tx K mg):bY P w K mg base (bS P w) 1 T.a_goes_on T.qW ["rows","span","numbers"] (cf K mg 3 (fM kz 4 3)):=cW rfl rfl T.lW N7 fun{X} h1 h2 h3 h4 h5 B hF aK=>by subst h3 h4;exact MO T B hF aK
theorem SD:cA ["rows","spans","numbers"] ["rows"] (ag d3):=⟨rfl,rfl,rfl,nofun,rfl,nofun,nofun⟩
theorem P6(T:Tx X.K X.mg)(B:Bd X ["rows","spans","numbers"] (ag d3) 6)(hF:cO X)(aK:X.env.scope=ag d3):JB X (bg d3) jy:=
 have v0 {p:Pos}:JE X (.Name "rows" p) (ae 0):=B.jv 0 rfl NQ kI;have v1 {p:Pos}:JE X (.Name "spans" p) (ae 1):=B.jv 1 rfl NR QU
 (aN (B.bZ 1 rfl NT rfl (b7 rfl nofun (DF T) b6 (B.room.mono (by decide)) (B.gl _ Nn) T.xT T.kZ.kp T.jF (ak rfl v0 ay))) (aN (B.bZ 2 rfl NU rfl (rP rfl nofun nofun (Pj B.calm B.room.units) R6 (B.gl _ MI) T.DE PyProof.Rows.boot_dict (ak rfl (l6 B.calm (N':=["number","span"]) (Bd.cap B.hN aK nofun) (wF (B.gl _ Jc) T.qF rfl (ak rfl v1 ay)) (jU B T nofun nofun fun{X} B T=>(mm B.calm (gc (B.c5 0 rfl (.inl rfl)) (gc (B.c5 1 rfl (.inl rfl)) l5)))) (jV B T nofun nofun fun{X} B T=>kK) (jW B T nofun nofun fun{X} B T=>(eQ (ak rfl (B.ao (B.jv 1 rfl (.inl rfl) wL) aw) (ak rfl (B.jv 0 rfl (.inl rfl) Px) ay))))) ay))) (aR (bh (l6 B.calm (N':=["span","rows","numbers"]) (Bd.cap B.hN aK nofun) (nU v1) (jU B T nofun nofun fun{X} B T=>(B.c5 0 rfl (.inl rfl))) (jV B T nofun nofun fun{X} B T=>kK) (jW B T nofun nofun fun{X} B T=>(b7 rfl nofun (N8 T) b6 (B.room.mono (by decide)) (B.gl _ rfl) T.Bo T.lW.kp T.kz (ak rfl (B.jv 1 rfl (.inr (.inr rfl)) kI) (ak rfl (B.jv 0 rfl (.inl rfl) wL) (ak rfl (B.jv 2 rfl (.inr (.inr rfl)) AO) ay))))))))))
theorem CU(T:Tx K mg):bY P w K mg base (bS P w) 7 T.a_goes T.r8 ["rows"] (cf K mg 1 (fM jy 3 1)):=cW rfl rfl T.kN SD fun{X} h1 h2 h3 h4 h5 B hF aK=>by subst h3 h4;exact P6 T B hF aK
theorem N9:cA ["_law_rows","_law_blocks","_law_k","_law_row"] ["_law_rows","_law_blocks","_law_k"] (ag eP):=⟨rfl,rfl,rfl,nofun,rfl,nofun,nofun⟩
theorem MP(T:Tx X.K X.mg)(B:Bd X ["_law_rows","_law_blocks","_law_k","_law_row"] (ag eP) 0)(hF:cO X)(aK:X.env.scope=ag eP):JB X (bg eP) kA:=
 have v0 {p:Pos}:JE X (.Name "_law_rows" p) (ae 0):=B.jv 0 rfl L4 vp;have v1 {p:Pos}:JE X (.Name "_law_blocks" p) (ae 1):=B.jv 1 rfl L5 Af;have v2 {p:Pos}:JE X (.Name "_law_k" p) (ae 2):=B.jv 2 rfl L6 nP;have v3 {p:Pos}:JE X (.Name "_law_row" p) (ae 3):=B.jv 3 rfl L7 NO
 (aN (bO (bN B.eq v2 (jw (cD rfl nofun nofun cT cZ (B.gl _ Ld) T.cN aaG (ak rfl v1 ay)) aw)) (aR (bh (da ay))) bR) (aN (B.bZ 3 rfl L8 rfl (B.ao v0 (jw (B.ao (B.ao v1 v2) aw) aw))) (aN (bO (bN B.eq (B.ao v3 aw) bM) (aR (bh (da ay))) bR) (aN (bO (bN B.eq (B.ao v3 aw) bM) (aR (bh (da (ak rfl (B.ao v3 aw) (ak rfl (B.ao (B.ao v1 v2) aw) ay))))) bR) (aN (bO (bN B.eq (B.ao v3 aw) bM) (aR (bh (da (ak rfl (B.ao v3 aw) ay)))) bR) (aR (bh (da (ak rfl (B.ao (B.ao v1 v2) aw) ay)))))))))
theorem Oa(T:Tx K mg):bY P w K mg base (bS P w) 1 T.a_law_due T.qX ["_law_rows","_law_blocks","_law_k"] (cf K mg 3 (fM kA 4 3)):=cW rfl rfl T.lX N9 fun{X} h1 h2 h3 h4 h5 B hF aK=>by subst h3 h4;exact MP T B hF aK
theorem MQ:cA ["_law_found"] ["_law_found"] (ag fK):=⟨rfl,rfl,rfl,nofun,rfl,nofun,nofun⟩
theorem Lk(T:Tx X.K X.mg)(B:Bd X ["_law_found"] (ag fK) 0)(hF:cO X)(aK:X.env.scope=ag fK):JB X (bg fK) ko:=
 have v0 {p:Pos}:JE X (.Name "_law_found" p) (ae 0):=B.jv 0 rfl Kv Ap
 (aR (bh (w8 (gO BC aeY nofun nofun rfl (B.gl _ zF) T.f7 (B.gl _ JQ) T.xV v0) (wZ (UI (gO A4 aeJ nofun nofun rfl (B.gl _ zF) T.f7 (B.gl _ Jd) T.xn v0))))))
theorem MR(T:Tx K mg):bY P w K mg base (bS P w) 1 T.a_law_whole T.qE ["_law_found"] (cf K mg 1 (fM ko 1 1)):=cW rfl rfl T.lO MQ fun{X} h1 h2 h3 h4 h5 B hF aK=>by subst h3 h4;exact Lk T B hF aK
theorem U7:cA ["_law_script","_law_names","_law_many","_law_rows","_law_blocks","_law_handed","_law_found","_law_k","_law_due_here","_law_other","_law_place","_law_again"] ["_law_script"] (ag bC):=⟨rfl,rfl,rfl,nofun,rfl,nofun,nofun⟩
theorem QW(T:Tx X.K X.mg)(B:Bd X ["_law_script","_law_names","_law_many","_law_rows","_law_blocks","_law_handed","_law_found","_law_k","_law_due_here","_law_other","_law_place","_law_again"] (ag bC) 7)(hF:cO X)(aK:X.env.scope=ag bC):JB X (bg bC) mH:=
 have v0 {p:Pos}:JE X (.Name "_law_script" p) (ae 0):=B.jv 0 rfl PC u9;have v1 {p:Pos}:JE X (.Name "_law_names" p) (ae 1):=B.jv 1 rfl PD qy;have v2 {p:Pos}:JE X (.Name "_law_many" p) (ae 2):=B.jv 2 rfl PK nG;have v3 {p:Pos}:JE X (.Name "_law_rows" p) (ae 3):=B.jv 3 rfl PL vp;have v4 {p:Pos}:JE X (.Name "_law_blocks" p) (ae 4):=B.jv 4 rfl PN Af;have v5 {p:Pos}:JE X (.Name "_law_handed" p) (ae 5):=B.jv 5 rfl PQ LO;have v6 {p:Pos}:JE X (.Name "_law_found" p) (ae 6):=B.jv 6 rfl PU Ap;have v7 {p:Pos}:JE X (.Name "_law_k" p) (ae 7):=B.jv 7 rfl PX nP;have v8 {p:Pos}:JE X (.Name "_law_due_here" p) (ae 8):=B.jv 8 rfl PZ Ks;have v9 {p:Pos}:JE X (.Name "_law_other" p) (ae 9):=B.jv 9 rfl P1 Ao;have pw {p:Pos}:JE X (.Name "_law_place" p) (ae 10):=B.jv 10 rfl NV qz;have Za {p:Pos}:JE X (.Name "_law_again" p) (ae 11):=B.jv 11 rfl NX ME
 (aN (B.bZ 1 rfl PJ rfl (b7 rfl nofun (Kx T) b6 (B.room.mono (by decide)) (B.gl _ Hx) T.zZ T.lI.kp T.kf (ak rfl (b7 rfl nofun (lK T) b6 (B.room.mono (by decide)) (B.gl _ nB) T.kj T.gD.kp T.f6 (ak rfl v0 (ak rfl aw ay))) (ak rfl (dm aw (cb (b7 rfl nofun (lK T) b6 (B.room.mono (by decide)) (B.gl _ nB) T.kj T.gD.kp T.f6 (ak rfl v0 (ak rfl aw ay))) aw)) ay)))) (aN (B.bZ 2 rfl Br rfl (cb (cM (b7 rfl nofun (lK T) b6 (B.room.mono (by decide)) (B.gl _ nB) T.kj T.gD.kp T.f6 (ak rfl v0 (ak rfl aw ay))) aw) aw)) (aN (bO (bN B.eq (cb (cM (b7 rfl nofun (lK T) b6 (B.room.mono (by decide)) (B.gl _ nB) T.kj T.gD.kp T.f6 (ak rfl v0 (ak rfl aw ay))) aw) aw) aw) (aR (B.bZ 2 rfl Br rfl (dm aw (cb (cM (b7 rfl nofun (lK T) b6 (B.room.mono (by decide)) (B.gl _ nB) T.kj T.gD.kp T.f6 (ak rfl v0 (ak rfl aw ay))) aw) aw)))) bR) (aN (B.bZ 3 rfl PM rfl (b7 rfl nofun (Li T) b6 (B.room.mono (by decide)) (B.gl _ Io) T.Ae T.lL.kp T.ki (ak rfl v0 (ak rfl aw (ak rfl v2 (ak rfl v1 ay)))))) (aN (B.bZ 4 rfl PP rfl (b7 rfl nofun (DF T) b6 (B.room.mono (by decide)) (B.gl _ NZ) T.xT T.kZ.kp T.jF (ak rfl (rP rfl nofun nofun (vt B.calm) wH (B.gl _ qG) T.jz abr (ak rfl v3 ay)) ay))) (aN (B.bZ 5 rfl PR rfl (rP rfl nofun nofun (vt B.calm) wH (B.gl _ qG) T.jz abr (ak rfl v3 ay))) (aN (B.bZ 6 rfl PV rfl (b7 rfl nofun (CU T) b6 (B.room.mono (by decide)) (B.gl _ AD) T.xm T.kN.kp T.jy (ak rfl v5 ay))) (aN (bO (gS (gM (gI (gJ rfl (gO vD abr nofun nofun rfl (B.gl _ zO) T.f7 (B.gl _ qG) T.jz v6))) (gM (bN B.ne (cD rfl nofun nofun cT cZ (B.gl _ lQ) T.cN aaG (ak rfl v6 ay)) (cD rfl nofun nofun cT cZ (B.gl _ lQ) T.cN aaG (ak rfl v4 ay))) (gH (bN B.ne v5 v3))))) (aR (bh ft)) bR) (aN (B.i9 (nJ (B.gl _ MJ) T.l7 rfl (ak rfl (cD rfl nofun nofun cT cZ (B.gl _ lQ) T.cN aaG (ak rfl v4 ay)) ay)) (B.c5 7 rfl PY) (aN (B.bZ 8 rfl P0 rfl (b7 rfl nofun (Oa T) b6 (B.room.mono (by decide)) (B.gl _ Le) T.Bp T.lX.kp T.kA (ak rfl v3 (ak rfl v4 (ak rfl v7 ay))))) (aN (bO (gS (gM (gI (gJ rfl (gO vD abr nofun nofun rfl (B.gl _ zO) T.f7 (B.gl _ qG) T.jz (B.ao v6 v7)))) (gH (bN B.ne (cD rfl nofun nofun cT cZ (B.gl _ lQ) T.cN aaG (ak rfl (B.ao v6 v7) ay)) (cD rfl nofun nofun cT cZ (B.gl _ lQ) T.cN aaG (ak rfl v8 ay)))))) (aR (bh ft)) bR) (aN (B.i9 (Sl (B.gl _ N0) T.oI rfl rfl (ak rfl (B.ao v6 v7) (ak rfl v8 ay))) (mm B.calm (gc (B.c5 9 rfl P2) (gc (B.c5 10 rfl NW) l5))) (aR (bO (gS (gM (gI (gJ rfl (b7 rfl nofun (MR T) b6 (B.room.mono (by decide)) (B.gl _ JR) T.Ax T.lO.kp T.ko (ak rfl v9 ay)))) (gM (gI (BH kW kU (by with_unfolding_all rfl) aw v9 (cD rfl nofun nofun cT cZ (B.gl _ lQ) T.cN aaG (ak rfl v4 ay)))) (gH (bN B.ne (B.ao (B.ao v4 v9) aw) pw))))) (aR (bh ft)) bR))) (aR (jt rfl (gK rfl rfl abq abi abj js kS ku (B.ao v6 v7) (ak rfl aw ay)))))))) (aN (B.bZ 11 rfl NY rfl (b7 rfl nofun (CU T) b6 (B.room.mono (by decide)) (B.gl _ AD) T.xm T.kN.kp T.jy (ak rfl v5 ay))) (aR (bh (wY B.eq (l6 B.calm (N':=["_law_one"]) (Bd.cap B.hN aK nofun) (nU Za) (jU B T nofun nofun fun{X} B T=>(B.c5 0 rfl (.inl rfl))) (jV B T nofun nofun fun{X} B T=>kK) (jW B T nofun nofun fun{X} B T=>(dm (B.jv 0 rfl (.inl rfl) AN) (da (ak rfl aw ay))))) v6)))))))))))))
theorem U8(T:Tx K mg):bY P w K mg base (bS P w) 8 T.a_law T.sQ ["_law_script"] (cf K mg 1 (fM mH 12 1)):=cW rfl rfl T.oH U7 fun{X} h1 h2 h3 h4 h5 B hF aK=>by subst h3 h4;exact QW T B hF aK
end
theorem all_mk{l:aeV}{w:World}{K:aab}{h:Heap}{mg:Str->Option Value}{fa:Addr}(KX:K.In h)(G:h.Ns aam mg)(Zb:mg "law"=some (.ref fa))
  {ql:Addr} {Ll Lm:Option Addr} {Ln:Array (Option Value)} {Lo Lp Lq Lr z9 Ls:Value}
  {qf:Addr} {KD KG:Option Addr} {KH:Array (Option Value)} {KI KJ KN KO zV KP:Value}
  {p3:Addr} {J3 J4:Option Addr} {J5:Array (Option Value)} {J6 J7 J8 J9 zP Ka:Value}
  {qm:Addr} {Lu Lv:Option Addr} {Lw:Array (Option Value)} {Lx Ly Lz LA Aa LB:Value}
  {qt:Addr} {Me Mf:Option Addr} {Mg:Array (Option Value)} {Mh Mi Mj Mk Ag Ml:Value}
  {qo:Addr} {LC LD:Option Addr} {LF:Array (Option Value)} {LG LH LI LJ Ac LK:Value}
  {qK:Addr} {Ob Oc:Option Addr} {Od:Array (Option Value)} {Oe Of Og Oh AR Oi:Value}
  {qA:Addr} {MT MU:Option Addr} {MV:Array (Option Value)} {MW MX MY MZ Ar M0:Value}
  {qL:Addr} {Oj Ol:Option Addr} {Om:Array (Option Value)} {Oo Oq Ot Ou AS Ov:Value}
  {qH:Addr} {Nt Nu:Option Addr} {Nv:Array (Option Value)} {Nw Nx Ny Nz AE NA:Value}
  {qM:Addr} {Ow Ox:Option Addr} {Oy:Array (Option Value)} {Oz OA OB OC AU OD:Value}
  {qY:Addr} {P7 P8:Option Addr} {P9:Array (Option Value)} {Qa Qb Qc Qd Bs Qe:Value}
  {p4:Addr} {Kb Kc:Option Addr} {Kd:Array (Option Value)} {Ke Kf Kg Kh zQ Ki:Value}
  {pX:Addr} {HA HB:Option Addr} {HC:Array (Option Value)} {HD HE HF HG zI HH:Value}
  {p5:Addr} {Kj Kk:Option Addr} {Kl:Array (Option Value)} {Km Kn Ko Kp zR Kq:Value}
  {qg:Addr} {KQ KR:Option Addr} {KS:Array (Option Value)} {KU KW KY KZ zW K0:Value}
  {qu:Addr} {Mm Mn:Option Addr} {Mp:Array (Option Value)} {Mq Mr Ms Mt Ah Mu:Value}
  {r9:Addr} {U9 Va:Option Addr} {Vb:Array (Option Value)} {Vc Vd Ve Vf DG Vg:Value}
  {qN:Addr} {OE OF:Option Addr} {OG:Array (Option Value)} {OH OI OJ OL AV ON:Value}
  {rM:Addr} {SE SF:Option Addr} {SG:Array (Option Value)} {SH SI SJ SK CV SN:Value}
  {qO:Addr} {OO OP:Option Addr} {OQ:Array (Option Value)} {OR OS OT OU AW OV:Value}
  {qB:Addr} {M1 M2:Option Addr} {M3:Array (Option Value)} {M4 M5 M6 M7 As M8:Value}
  {xp:Addr} {Vh DH:Option Addr} {Vi:Array (Option Value)} {Vj DI DJ DK xq DL:Value}
  {kD:Addr}
  {oa:Tok}
  {nL:Tok}
  {nC:Tok}
  {nD:Tok}
  {nF:Tok}
  {kE:Addr}
  (a_law_cell_at:aaq K aam "_law_cell_at"=some (some (.ref ql)))
  (l_law_cell_at:K.lookup ql=some ⟨Lo,Ll,.func (aaD "_law_cell_at" "_law_cell_at" (cx fZ) (bg fZ) (ag fZ) .none Lp Lq Lr Lm z9 Ls),Ln⟩)
  (c_law_cell_at:aaz K z9 "_law_cell_at"=true)
  (k_law_cell_at:aax K (.ref ql)=true)
  (a_law_names_by:aaq K aam "_law_names_by"=some (some (.ref qf)))
  (l_law_names_by:K.lookup qf=some ⟨KI,KD,.func (aaD "_law_names_by" "_law_names_by" (cx cw) (bg cw) (ag cw) .none KJ KN KO KG zV KP),KH⟩)
  (c_law_names_by:aaz K zV "_law_names_by"=true)
  (k_law_names_by:aax K (.ref qf)=true)
  (a_law_number_by:aaq K aam "_law_number_by"=some (some (.ref p3)))
  (l_law_number_by:K.lookup p3=some ⟨J6,J3,.func (aaD "_law_number_by" "_law_number_by" (cx h9) (bg h9) (ag h9) .none J7 J8 J9 J4 zP Ka),J5⟩)
  (c_law_number_by:aaz K zP "_law_number_by"=true)
  (k_law_number_by:aax K (.ref p3)=true)
  (a_law_jump_by:aaq K aam "_law_jump_by"=some (some (.ref qm)))
  (l_law_jump_by:K.lookup qm=some ⟨Lx,Lu,.func (aaD "_law_jump_by" "_law_jump_by" (cx fk) (bg fk) (ag fk) .none Ly Lz LA Lv Aa LB),Lw⟩)
  (c_law_jump_by:aaz K Aa "_law_jump_by"=true)
  (k_law_jump_by:aax K (.ref qm)=true)
  (a_law_row_by:aaq K aam "_law_row_by"=some (some (.ref qt)))
  (l_law_row_by:K.lookup qt=some ⟨Mh,Me,.func (aaD "_law_row_by" "_law_row_by" (cx cg) (bg cg) (ag cg) .none Mi Mj Mk Mf Ag Ml),Mg⟩)
  (c_law_row_by:aaz K Ag "_law_row_by"=true)
  (k_law_row_by:aax K (.ref qt)=true)
  (a_law_rows_by:aaq K aam "_law_rows_by"=some (some (.ref qo)))
  (l_law_rows_by:K.lookup qo=some ⟨LG,LC,.func (aaD "_law_rows_by" "_law_rows_by" (cx c8) (bg c8) (ag c8) .none LH LI LJ LD Ac LK),LF⟩)
  (c_law_rows_by:aaz K Ac "_law_rows_by"=true)
  (k_law_rows_by:aax K (.ref qo)=true)
  (a_is_name:aaq K aam "is_name"=some (some (.ref qK)))
  (l_is_name:K.lookup qK=some ⟨Oe,Ob,.func (aaD "is_name" "is_name" (cx eN) (bg eN) (ag eN) .none Of Og Oh Oc AR Oi),Od⟩)
  (c_is_name:aaz K AR "is_name"=true)
  (k_is_name:aax K (.ref qK)=true)
  (a_is_number:aaq K aam "is_number"=some (some (.ref qA)))
  (l_is_number:K.lookup qA=some ⟨MW,MT,.func (aaD "is_number" "is_number" (cx fo) (bg fo) (ag fo) .none MX MY MZ MU Ar M0),MV⟩)
  (c_is_number:aaz K Ar "is_number"=true)
  (k_is_number:aax K (.ref qA)=true)
  (a_is_word:aaq K aam "is_word"=some (some (.ref qL)))
  (l_is_word:K.lookup qL=some ⟨Oo,Oj,.func (aaD "is_word" "is_word" (cx fL) (bg fL) (ag fL) .none Oq Ot Ou Ol AS Ov),Om⟩)
  (c_is_word:aaz K AS "is_word"=true)
  (k_is_word:aax K (.ref qL)=true)
  (a_is_place:aaq K aam "is_place"=some (some (.ref qH)))
  (l_is_place:K.lookup qH=some ⟨Nw,Nt,.func (aaD "is_place" "is_place" (cx f9) (bg f9) (ag f9) .none Nx Ny Nz Nu AE NA),Nv⟩)
  (c_is_place:aaz K AE "is_place"=true)
  (k_is_place:aax K (.ref qH)=true)
  (a_is_part:aaq K aam "is_part"=some (some (.ref qM)))
  (l_is_part:K.lookup qM=some ⟨Oz,Ow,.func (aaD "is_part" "is_part" (cx ej) (bg ej) (ag ej) .none OA OB OC Ox AU OD),Oy⟩)
  (c_is_part:aaz K AU "is_part"=true)
  (k_is_part:aax K (.ref qM)=true)
  (a_is_row:aaq K aam "is_row"=some (some (.ref qY)))
  (l_is_row:K.lookup qY=some ⟨Qa,P7,.func (aaD "is_row" "is_row" (cx dI) (bg dI) (ag dI) .none Qb Qc Qd P8 Bs Qe),P9⟩)
  (c_is_row:aaz K Bs "is_row"=true)
  (k_is_row:aax K (.ref qY)=true)
  (a_parts_of_kind:aaq K aam "parts_of_kind"=some (some (.ref p4)))
  (l_parts_of_kind:K.lookup p4=some ⟨Ke,Kb,.func (aaD "parts_of_kind" "parts_of_kind" (cx fY) (bg fY) (ag fY) .none Kf Kg Kh Kc zQ Ki),Kd⟩)
  (c_parts_of_kind:aaz K zQ "parts_of_kind"=true)
  (k_parts_of_kind:aax K (.ref p4)=true)
  (a_jumps_back_badly:aaq K aam "jumps_back_badly"=some (some (.ref pX)))
  (l_jumps_back_badly:K.lookup pX=some ⟨HD,HA,.func (aaD "jumps_back_badly" "jumps_back_badly" (cx fj) (bg fj) (ag fj) .none HE HF HG HB zI HH),HC⟩)
  (c_jumps_back_badly:aaz K zI "jumps_back_badly"=true)
  (k_jumps_back_badly:aax K (.ref pX)=true)
  (a_with_names_of:aaq K aam "with_names_of"=some (some (.ref p5)))
  (l_with_names_of:K.lookup p5=some ⟨Km,Kj,.func (aaD "with_names_of" "with_names_of" (cx d0) (bg d0) (ag d0) .none Kn Ko Kp Kk zR Kq),Kl⟩)
  (c_with_names_of:aaz K zR "with_names_of"=true)
  (k_with_names_of:aax K (.ref p5)=true)
  (a_need_program:aaq K aam "need_program"=some (some (.ref qg)))
  (l_need_program:K.lookup qg=some ⟨KU,KQ,.func (aaD "need_program" "need_program" (cx cH) (bg cH) (ag cH) .none KW KY KZ KR zW K0),KS⟩)
  (c_need_program:aaz K zW "need_program"=true)
  (k_need_program:aax K (.ref qg)=true)
  (a_beginnings:aaq K aam "beginnings"=some (some (.ref qu)))
  (l_beginnings:K.lookup qu=some ⟨Mq,Mm,.func (aaD "beginnings" "beginnings" (cx c9) (bg c9) (ag c9) .none Mr Ms Mt Mn Ah Mu),Mp⟩)
  (c_beginnings:aaz K Ah "beginnings"=true)
  (k_beginnings:aax K (.ref qu)=true)
  (a_cut:aaq K aam "cut"=some (some (.ref r9)))
  (l_cut:K.lookup r9=some ⟨Vc,U9,.func (aaD "cut" "cut" (cx d8) (bg d8) (ag d8) .none Vd Ve Vf Va DG Vg),Vb⟩)
  (c_cut:aaz K DG "cut"=true)
  (k_cut:aax K (.ref r9)=true)
  (a_goes_on:aaq K aam "goes_on"=some (some (.ref qN)))
  (l_goes_on:K.lookup qN=some ⟨OH,OE,.func (aaD "goes_on" "goes_on" (cx eO) (bg eO) (ag eO) .none OI OJ OL OF AV ON),OG⟩)
  (c_goes_on:aaz K AV "goes_on"=true)
  (k_goes_on:aax K (.ref qN)=true)
  (a_goes:aaq K aam "goes"=some (some (.ref rM)))
  (l_goes:K.lookup rM=some ⟨SH,SE,.func (aaD "goes" "goes" (cx d3) (bg d3) (ag d3) .none SI SJ SK SF CV SN),SG⟩)
  (c_goes:aaz K CV "goes"=true)
  (k_goes:aax K (.ref rM)=true)
  (a_law_due:aaq K aam "_law_due"=some (some (.ref qO)))
  (l_law_due:K.lookup qO=some ⟨OR,OO,.func (aaD "_law_due" "_law_due" (cx eP) (bg eP) (ag eP) .none OS OT OU OP AW OV),OQ⟩)
  (c_law_due:aaz K AW "_law_due"=true)
  (k_law_due:aax K (.ref qO)=true)
  (a_law_whole:aaq K aam "_law_whole"=some (some (.ref qB)))
  (l_law_whole:K.lookup qB=some ⟨M4,M1,.func (aaD "_law_whole" "_law_whole" (cx fK) (bg fK) (ag fK) .none M5 M6 M7 M2 As M8),M3⟩)
  (c_law_whole:aaz K As "_law_whole"=true)
  (k_law_whole:aax K (.ref qB)=true)
  (a_law:aaq K aam "law"=some (some (.ref xp)))
  (l_law:K.lookup xp=some ⟨Vj,Vh,.func (aaD "law" "law" (cx bC) (bg bC) (ag bC) .none DI DJ DK DH xq DL),Vi⟩)
  (c_law:aaz K xq "law"=true)
  (k_law:aax K (.ref xp)=true)
  (z_all:aaq K aam "all"=some none)
  (z_bool:aaq K aam "bool"=some none)
  (z_dict:aaq K aam "dict"=some none)
  (z_enumerate:aaq K aam "enumerate"=some none)
  (z_int:aaq K aam "int"=some none)
  (z_isinstance:aaq K aam "isinstance"=some none)
  (z_len:aaq K aam "len"=some none)
  (z_list:aaq K aam "list"=some none)
  (z_range:aaq K aam "range"=some none)
  (z_sorted:aaq K aam "sorted"=some none)
  (z_str:aaq K aam "str"=some none)
  (z_tuple:aaq K aam "tuple"=some none)
  (z_zip:aaq K aam "zip"=some none)
  (g_FORMS:aaq K aam "FORMS"=some (some (.ref kD)))
  (gk_FORMS:PyProof.Rows.KTD.tabLook (ny K) (fun b=>K.lookup b) kD cX=true)
  (g_HALF:aaq K aam "HALF"=some (some (.int (2147483648) oa)))
  (g_LETTERS:aaq K aam "LETTERS"=some (some (.str "abcdefghijklmnopqrstuvwxyz" nL)))
  (g_MOST_LETTERS:aaq K aam "MOST_LETTERS"=some (some (.int (6) nC)))
  (g_MOST_NAMES:aaq K aam "MOST_NAMES"=some (some (.int (12) nD)))
  (g_MOST_ROWS:aaq K aam "MOST_ROWS"=some (some (.int (60) nF)))
  (g_WORDS:aaq K aam "WORDS"=some (some (.ref kE)))
  (gk_WORDS:ny K ju (.ref kE)=true)
  : ∃fd:aaS,(∀(s:aaf) (v:Value),BindsTo s fd ⟨[v],[]⟩ [("_law_script",v)])/\∀base:Heap,K.In base->base.Ns aam mg->bY l.prog w K mg base (bS l.prog w) 8 fa fd ["_law_script"] (cf K mg 1 oG):=by
 have e:=Zb.symm.trans (aaw KX G a_law);cases e;have gD:=cY (st:=fZ) l_law_cell_at c_law_cell_at k_law_cell_at;have lI:=cY (st:=cw) l_law_names_by c_law_names_by k_law_names_by;have lG:=cY (st:=h9) l_law_number_by c_law_number_by k_law_number_by;have kl:=cY (st:=fk) l_law_jump_by c_law_jump_by k_law_jump_by;have lM:=cY (st:=cg) l_law_row_by c_law_row_by k_law_row_by;have lL:=cY (st:=c8) l_law_rows_by c_law_rows_by k_law_rows_by;have lT:=cY (st:=eN) l_is_name c_is_name k_is_name;have kq:=cY (st:=fo) l_is_number c_is_number k_is_number;have lU:=cY (st:=fL) l_is_word c_is_word k_is_word;have lP:=cY (st:=f9) l_is_place c_is_place k_is_place;have lV:=cY (st:=ej) l_is_part c_is_part k_is_part;have lZ:=cY (st:=dI) l_is_row c_is_row k_is_row;have jq:=cY (st:=fY) l_parts_of_kind c_parts_of_kind k_parts_of_kind;have lF:=cY (st:=fj) l_jumps_back_badly c_jumps_back_badly k_jumps_back_badly;have lH:=cY (st:=d0) l_with_names_of c_with_names_of k_with_names_of;have lJ:=cY (st:=cH) l_need_program c_need_program k_need_program;have lN:=cY (st:=c9) l_beginnings c_beginnings k_beginnings;have kZ:=cY (st:=d8) l_cut c_cut k_cut;have lW:=cY (st:=eO) l_goes_on c_goes_on k_goes_on;have kN:=cY (st:=d3) l_goes c_goes k_goes;have lX:=cY (st:=eP) l_law_due c_law_due k_law_due;have lO:=cY (st:=fK) l_law_whole c_law_whole k_law_whole;have oH:=cY (st:=bC) l_law c_law k_law
 let T:Tx K mg:={
  a_law_cell_at:=ql,qp:=_,gD:=gD,kj:=aaw KX G a_law_cell_at,f6:=gD.binds (ps:=["_law_script","_law_k"]) (fun _ _ _ _ _ _ us hl=>by obtain⟨_,_,rfl⟩:=jT us hl;rfl),
  a_law_names_by:=qf,qi:=_,lI:=lI,zZ:=aaw KX G a_law_names_by,kf:=lI.binds (ps:=["_law_n","_law_many"]) (fun _ _ _ _ _ _ us hl=>by obtain⟨_,_,rfl⟩:=jT us hl;rfl),
  a_law_number_by:=p3,p6:=_,lG:=lG,zS:=aaw KX G a_law_number_by,kb:=lG.binds (ps:=["_law_cell"]) (fun _ _ _ _ _ _ us hl=>by obtain⟨_,rfl⟩:=gV us hl;rfl),
  a_law_jump_by:=qm,qq:=_,kl:=kl,u7:=aaw KX G a_law_jump_by,iO:=kl.binds (ps:=["_law_more","_law_place","_law_many","_law_turns"]) (fun _ _ _ _ _ _ us hl=>by obtain⟨_,_,_,_,rfl⟩:=yq us hl;rfl),
  a_law_row_by:=qt,qw:=_,lM:=lM,Al:=aaw KX G a_law_row_by,km:=lM.binds (ps:=["_law_cell","_law_place","_law_many","_law_names","_law_turns"]) (fun _ _ _ _ _ _ us hl=>by obtain⟨_,_,_,_,_,rfl⟩:=XD us hl;rfl),
  a_law_rows_by:=qo,qr:=_,lL:=lL,Ae:=aaw KX G a_law_rows_by,ki:=lL.binds (ps:=["_law_script","_law_first","_law_many","_law_names"]) (fun _ _ _ _ _ _ us hl=>by obtain⟨_,_,_,_,rfl⟩:=yq us hl;rfl),
  a_is_name:=qK,qT:=_,lT:=lT,Bl:=aaw KX G a_is_name,kx:=lT.binds (ps:=["thing"]) (fun _ _ _ _ _ _ us hl=>by obtain⟨_,rfl⟩:=gV us hl;rfl),
  a_is_number:=qA,qD:=_,kq:=kq,vm:=aaw KX G a_is_number,jr:=kq.binds (ps:=["thing"]) (fun _ _ _ _ _ _ us hl=>by obtain⟨_,rfl⟩:=gV us hl;rfl),
  a_is_word:=qL,qU:=_,lU:=lU,Bm:=aaw KX G a_is_word,ky:=lU.binds (ps:=["thing"]) (fun _ _ _ _ _ _ us hl=>by obtain⟨_,rfl⟩:=gV us hl;rfl),
  a_is_place:=qH,qJ:=_,lP:=lP,AL:=aaw KX G a_is_place,kr:=lP.binds (ps:=["thing","last_place"]) (fun _ _ _ _ _ _ us hl=>by obtain⟨_,_,rfl⟩:=jT us hl;rfl),
  a_is_part:=qM,qV:=_,lV:=lV,Bn:=aaw KX G a_is_part,ie:=lV.binds (ps:=["kind","thing","last_place"]) (fun _ _ _ _ _ _ us hl=>by obtain⟨_,_,_,rfl⟩:=tW us hl;rfl),
  a_is_row:=qY,rq:=_,lZ:=lZ,B1:=aaw KX G a_is_row,kC:=lZ.binds (ps:=["row","last_place"]) (fun _ _ _ _ _ _ us hl=>by obtain⟨_,_,rfl⟩:=jT us hl;rfl),
  a_parts_of_kind:=p4,qc:=_,jq:=jq,qd:=aaw KX G a_parts_of_kind,iN:=jq.binds (ps:=["row","wanted"]) (fun _ _ _ _ _ _ us hl=>by obtain⟨_,_,rfl⟩:=jT us hl;rfl),
  a_jumps_back_badly:=pX,pY:=_,lF:=lF,zJ:=aaw KX G a_jumps_back_badly,j9:=lF.binds (ps:=["rows","at"]) (fun _ _ _ _ _ _ us hl=>by obtain⟨_,_,rfl⟩:=jT us hl;rfl),
  a_with_names_of:=p5,qe:=_,lH:=lH,zT:=aaw KX G a_with_names_of,ke:=lH.binds (ps:=["row","names"]) (fun _ _ _ _ _ _ us hl=>by obtain⟨_,_,rfl⟩:=jT us hl;rfl),
  a_need_program:=qg,qj:=_,lJ:=lJ,z6:=aaw KX G a_need_program,kg:=lJ.binds (ps:=["rows"]) (fun _ _ _ _ _ _ us hl=>by obtain⟨_,rfl⟩:=gV us hl;rfl),
  a_beginnings:=qu,qx:=_,lN:=lN,Am:=aaw KX G a_beginnings,kn:=lN.binds (ps:=["rows"]) (fun _ _ _ _ _ _ us hl=>by obtain⟨_,rfl⟩:=gV us hl;rfl),
  a_cut:=r9,sP:=_,kZ:=kZ,xT:=aaw KX G a_cut,jF:=kZ.binds (ps:=["rows"]) (fun _ _ _ _ _ _ us hl=>by obtain⟨_,rfl⟩:=gV us hl;rfl),
  a_goes_on:=qN,qW:=_,lW:=lW,Bo:=aaw KX G a_goes_on,kz:=lW.binds (ps:=["rows","span","numbers"]) (fun _ _ _ _ _ _ us hl=>by obtain⟨_,_,_,rfl⟩:=tW us hl;rfl),
  a_goes:=rM,r8:=_,kN:=kN,xm:=aaw KX G a_goes,jy:=kN.binds (ps:=["rows"]) (fun _ _ _ _ _ _ us hl=>by obtain⟨_,rfl⟩:=gV us hl;rfl),
  a_law_due:=qO,qX:=_,lX:=lX,Bp:=aaw KX G a_law_due,kA:=lX.binds (ps:=["_law_rows","_law_blocks","_law_k"]) (fun _ _ _ _ _ _ us hl=>by obtain⟨_,_,_,rfl⟩:=tW us hl;rfl),
  a_law_whole:=qB,qE:=_,lO:=lO,Ax:=aaw KX G a_law_whole,ko:=lO.binds (ps:=["_law_found"]) (fun _ _ _ _ _ _ us hl=>by obtain⟨_,rfl⟩:=gV us hl;rfl),
  a_law:=fa,sQ:=_,oH:=oH,WB:=aaw KX G a_law,mH:=oH.binds (ps:=["_law_script"]) (fun _ _ _ _ _ _ us hl=>by obtain⟨_,rfl⟩:=gV us hl;rfl),
  xU:=aaR KX G z_all,
  xn:=aaR KX G z_bool,
  DE:=aaR KX G z_dict,
  qF:=aaR KX G z_enumerate,
  xV:=aaR KX G z_int,
  f7:=aaR KX G z_isinstance,
  cN:=aaR KX G z_len,
  jz:=aaR KX G z_list,
  l7:=aaR KX G z_range,
  B2:=aaR KX G z_sorted,
  sR:=aaR KX G z_str,
  CS:=aaR KX G z_tuple,
  oI:=aaR KX G z_zip,
  kD:=kD,rL:=aaw KX G g_FORMS,cX:=Su gk_FORMS,
  oa:=oa,xo:=aaw KX G g_HALF,
  nL:=nL,Bq:=aaw KX G g_LETTERS,
  nC:=nC,z7:=aaw KX G g_MOST_LETTERS,
  nD:=nD,An:=aaw KX G g_MOST_NAMES,
  nF:=nF,Ay:=aaw KX G g_MOST_ROWS,
  kE:=kE,CT:=aaw KX G g_WORDS,ju:=CO gk_WORDS }
 exact⟨aaD "law" "law" (cx bC) (bg bC) (ag bC) .none DI DJ DK DH xq DL,fun s v=>.of_eq rfl,fun base _ _=>U8 T⟩
theorem QX{l:aeV}{q:aba}{loose:List Str}{XP:(Str->Option Value)->Heap->Prop}{YP:World->Heap->Prop}{d:DefRec}{K:Params->aab}(good:∀ns:List Int,ns.length<=63->∃ph',oG [.fl (ns.map W.int)] []=.ok (.bl true) ph')(hn:l.most=some 63)(pq:d.params.defaults=[])
  (hY:∀(w:World) (h:Heap),YP w h->(K w.params).In h) (hK:∀w:World,afi (K w.params)=true) (hT:∀(w:World) (h:Heap),YP w h->∀p∈ig (K w.params),aeb h p.2.1 p.2.2/\h.get? p.2.2=some (acx #[]))
  (F:∀(w:World) (mg:Str->Option Value) (fa:Addr) (h:Heap),(K w.params).In h->h.Ns aam mg->mg d.name=some (.ref fa)->∃fd:aaS,(∀(s:aaf) (u:Value),BindsTo s fd ⟨[u],[]⟩ [("_law_script",u)])/\∀base:Heap,(K w.params).In base->base.Ns aam mg->bY l.prog w (K w.params) mg base (bS l.prog w) 8 fa fd ["_law_script"] (cf (K w.params) mg 1 oG)) :
  PySem.W.WalkO q loose XP YP l.row.toRowW d [] (fun f vs=>PySem.call f vs):=RX 8 good hn pq ⟨rfl,by decide,by decide⟩ hY hK hT F
open PySem L2
variable{α β:Type}{ph:PH}
theorem aB{m:Mo α}{f:α->Mo β}{ph':PH}{a:α}{r:Out β}(h:m ph=.ok a ph')(k:f a ph'=r):aq m f ph=r:=by
 unfold aq;rw[h];exact k
variable{j:Nat}
theorem k0{l:List α}(h:j<l.length):∃x,l[j]? =some x:=⟨l[j],aaO h⟩
theorem DM{a b:Int}(h1: -(2 ^ 64)<b)(h2:b<2 ^ 64):mulC a b=true:=by
 unfold mulC;rw[decide_eq_true h1,decide_eq_true h2];simp
theorem xr{a b:Int}(h1: -(2 ^ 64)<a)(h2:a<2 ^ 64):mulC a b=true:=by
 unfold mulC;rw[decide_eq_true h1,decide_eq_true h2];simp
theorem Ex.set{a b:PH}(h:Ex a b){i:Nat}(hi:a.length<=i)(o:PO):Ex a (b.set i o):=by
 obtain⟨m,rfl⟩:=h;exact⟨m.set (i-a.length) o,by rw[adu _ _ hi]⟩
variable{i:Nat}
theorem iX{o:PO}(h:i≠j):(ph.set i o)[j]? =ph[j]? :=acn h
theorem iY{o o':PO}(h:ph[i]? =some o):(ph.set i o')[i]? =some o':=abF (aac.mp h).1
theorem EA{o:PO}(h:ph[i]? =some o):i<ph.length:=(aac.mp h).1
variable{im:IM}{σ:aI}{ph1:PH}{chk:PH->Bool}
theorem ij{b:SM}{items:List W}{r:Out Fl}(h:im σ ph=.ok (items,chk) ph1)(h2:dB chk g b items σ ph1=r):eA im g b σ ph=r:=by
 unfold eA;refine aB h ?_;exact h2
variable{σ1:aI}
theorem XF{a b:SM}{k:Fl->Mo W}{P:Out W->Prop}(h:a σ ph=.ok (.nx σ1) ph1)(h2:P (aq (b σ1) k ph1)):P (aq (aF a b σ) k ph):=by
 have e:aq (aF a b σ) k ph=aq (b σ1) k ph1:=by
  rw[nY,eM,bX h]
 rw[e];exact h2
def iw(l:List Nat):List W:=l.map fun x:Nat=>W.int x
theorem jA(l:List Nat):(iw l).length=l.length:=by simp[iw]
theorem xt(l m:List Nat):iw (l++m)=iw l++iw m:=by simp[iw]
variable{l:List Nat}
theorem DN{w:W}(h:(iw l)[j]? =some w):∃x,l[j]? =some x/\w=.int x:=by
 unfold iw at h;rw[aak] at h;obtain⟨x,e,rfl⟩:=aap.mp h;exact⟨x,e,rfl⟩
theorem WC{x:Nat}(h:l[j]? =some x):ck (iw l) (j:Int)=some (.int x):=by
 have:=(aac.mp h).1;rw[gg _ _ (by rw[jA];exact this)];unfold iw;rw[aak,h];rfl
theorem SO(ns:List Int)(k:Nat)(ph:PH):eL [.fl (ns.map W.int),.int k] ph=.ok (.int (ns.getD k 0)) ph:=by
 unfold eL f6
 push_cast [XA]
 by_cases h:k<ns.length
 ·have e:ck (ns.map W.int) (k:Int)=some (.int (ns.getD k 0)):=by
   rw[gg _ _ (by simpa using h)];simp[h]
  rw[YR e];simp[h,aA,dX,aq]
 ·have e:ns.getD k 0=0:=by simp[Nat.le_of_not_lt h]
  simp[h,aA,dX,aq,e]
theorem WD(ns:List Int)(k:Nat):eL [.fl (ns.map W.int),.int k]=aA (.int (ns.getD k 0)):=funext fun ph=>SO ns k ph
theorem sq{a b:SM}{r:Out Fl}(h:a σ ph=.ok (.nx σ1) ph1)(h2:b σ1 ph1=r):aF a b σ ph=r:=by
 rw[nY,bX h];exact h2
theorem bq{a b:SM}{k:Fl->Mo W}{r:Out W}(h:a σ ph=.ok (.nx σ1) ph1)(h2:aq (b σ1) k ph1=r):aq (aF a b σ) k ph=r:=XF (P:=fun q=>q=r) h h2
theorem br{e:EM}{w:W}(h:e σ ph=.ok w ph1):aq (aT e σ) dX ph=.ok w ph1:=by
 rw[rE,eM,bX h];rfl
theorem asg{e:EM}{w:W}(h:e σ ph=.ok w ph1):aX e (gN i) σ ph=.ok (.nx (σ.set i (some w))) ph1:=by
 rw[rF,bX h];rfl
theorem cF{a b:SM}{r:Out Fl}(h:t σ ph=.ok true ph1)(h2:a σ ph1=r):bp t a b σ ph=r:=by
 rw[rQ,bX h];exact h2
theorem aY{a b:SM}{r:Out Fl}(h:t σ ph=.ok false ph1)(h2:b σ ph1=r):bp t a b σ ph=r:=by
 rw[rQ,bX h];exact h2
theorem retS{e:EM}{w:W}(h:e σ ph=.ok w ph1):aT e σ ph=.ok (.rt w) ph1:=by
 rw[rE,bX h];rfl
variable{o:EM}{ws:List W}
theorem uz{e:EM}{w:W}(ho:o σ=aA (.ref i))(zp:∃lp,ph[i]? =some (.lst lp))(he:e σ ph=.ok w ph1)(hi:ph1[i]? =some (.lst ws))(hz:ws.length<1000000):eV (cJ dF dJ o (ah e aj)) σ ph=.ok (.nx σ) (ph1.set i (.lst (ws++[w]))):=by
 obtain⟨lp,h0⟩:=zp;rw[rj,nO,ho];rw[eM,kH,eM,bX (CK h0),eM,rl,eM,bX he];rw[rG,kH,kH,bX (vv hi (aan hz (by decide)) w)];rfl
theorem dG{a b:SM}{w:W}(h:a σ ph=.ok (.rt w) ph1):aq (aF a b σ) dX ph=.ok w ph1:=by
 rw[nY,eM,bX h];rfl
inductive Wd where
 | sum | less | times | part | below | alike
variable{ph2:PH}
theorem az{e:EM}{r:AM}{w:W}(h:e σ ph=.ok w ph1)(h2:r σ ph1=.ok ws ph2):ah e r σ ph=.ok (w::ws) ph2:=aB h (aB h2 rfl)
theorem tF{a b:TM}(h:a σ ph=.ok false ph1):i0 a b σ ph=.ok false ph1:=aB h rfl
theorem tT{a b:TM}{r:Out Bool}(h:a σ ph=.ok true ph1)(h2:b σ ph1=r):i0 a b σ ph=r:=aB h h2
def pN(v:Int):Prop:= -2147483648<=v/\v<=2147483647
def Wd.s:Wd->String
 | .sum=>"sum"
 | .less=>"less"
 | .times=>"times"
 | .part=>"part"
 | .below=>"below"
 | .alike=>"alike"
variable{c:Bool}
theorem wv(x:String){y:String}(h:ae i σ=aA (.str x))(hc:decide (x=y)=c):eT (af bA (ae i) (eC (.str y))) σ ph=.ok c ph:=by
 rw[oC,n8,h,<- hc];ac_nf
theorem eI{g z:Int}{e:EM}(h:e σ ph=.ok (.int g) ph1)(hc:decide (g=z)=c):eT (af bA e (eC (.int z))) σ ph=.ok c ph1:=by
 rw[oC,n8,eM,bX h,<- hc];ac_nf
variable{a b:EM}
theorem op{f:W->W->Po W}{x y:W}{r:Out W}(ha:a σ ph=.ok x ph1)(hb:b σ ph1=.ok y ph2)(hf:lift (f x y) ph2=r):af f a b σ ph=r:=aB ha (aB hb hf)
theorem md{i j:Int}(ha:a σ ph=.ok (.int i) ph1)(hb:b σ ph1=.ok (.int j) ph2)(h:j≠0):af aZ a b σ ph=.ok (.int (i.fmod j)) ph2:=op ha hb (congrFun (Wv h) ph2)
theorem dv{i j:Int}(ha:a σ ph=.ok (.int i) ph1)(hb:b σ ph1=.ok (.int j) ph2)(h:j≠0)(h':j.natAbs<2 ^ 64):af bx a b σ ph=.ok (.int (i.fdiv j)) ph2:=op ha hb (congrFun (Ww h h') ph2)
theorem ad{i j:Int}(ha:a σ ph=.ok (.int i) ph1)(hb:b σ ph1=.ok (.int j) ph2):af addW a b σ ph=.ok (.int (i+j)) ph2:=op ha hb rfl
theorem sb{i j:Int}(ha:a σ ph=.ok (.int i) ph1)(hb:b σ ph1=.ok (.int j) ph2):af eY a b σ ph=.ok (.int (i-j)) ph2:=op ha hb rfl
theorem ml{i j:Int}(ha:a σ ph=.ok (.int i) ph1)(hb:b σ ph1=.ok (.int j) ph2)(h:mulC i j=true):af eE a b σ ph=.ok (.int (i*j)) ph2:=op ha hb (by rw[xj];exact congrFun (Wu h) ph2)
theorem ltI{i z:Int}{e:EM}(h:e σ ph=.ok (.int i) ph1)(hc:decide (i<z)=c):eT (af iI e (eC (.int z))) σ ph=.ok c ph1:=by
 rw[oC,n8,eM,bX h,<- hc];rfl
theorem oh{w:W}{m:AM}{e:EM}{i:Int}(hm:m σ ph=.ok ws ph1)(hz:ws.length<=1000000)(he:e σ (ph1++[.lst ws])=.ok (.int i) (ph1++[.lst ws]))(hi:ck ws i=some w):af ao (bP m) e σ ph=.ok w (ph1++[.lst ws]):=by
 refine op (x:=.ref ph1.length) (ph1:=ph1++[.lst ws]) ?_ he (gF (bV _ _) hi);rw[wI];exact aB hm (mr ws ph1 (small hz))
theorem eR{a n:Int}(hn:0<n):∃m:Nat,(m:Int)<n/\a.fmod n=(m:Int):=by
 have q:=nH a n hn;exact⟨(a.fmod n).toNat,by omega,by omega⟩
theorem sd{v:Int}(h1: -2147483648<=v)(h2:v<=2147483647):pN v:=⟨by omega,by omega⟩
theorem WE(c:Int)(ph:PH):∃v ph',uX [.int c] ph=.ok (.int v) ph'/\Ex ph ph'/\pN v:=by
 unfold uX kb;rw[gn];have m4:∀{σ:aI} {H:PH},ae 0 σ=aA (.int c)->af aZ (ae 0) (eC (.int (4))) σ H=.ok (.int (c.fmod 4)) H:=fun{σ H} h=>md (by rw[h];rfl) rfl (by decide)
 have d4:∀{σ:aI} {H:PH},ae 0 σ=aA (.int c)->af bx (ae 0) (eC (.int (4))) σ H=.ok (.int (c.fdiv 4)) H:=fun{σ H} h=>dv (by rw[h];rfl) rfl (by decide) (by decide)
 by_cases h3:c.fmod 4=3
 ·obtain⟨m,hm,em⟩:=eR (a:=c.fdiv 4) (n:=8) (by decide);obtain⟨v,hv,sv⟩:∃v,[(2147483647:Int),-2147483648,65536,-1,46341,-65537,1,0][m]? =some v/\pN v:=by
   have:m=0\/m=1\/m=2\/m=3\/m=4\/m=5\/m=6\/m=7:=by omega
   rcases this with rfl | rfl | rfl | rfl | rfl | rfl | rfl | rfl <;> exact⟨_,rfl,sd (by decide) (by decide)⟩
  refine⟨v,_,dG (cF (eI (m4 rfl) (decide_eq_true h3)) (retS (oh (ws:=[(2147483647:Int),-2147483648,65536,-1,46341,-65537,1,0].map W.int) (i:=(m:Int)) (ph1:=ph) rfl (abm rfl) ?_ ?_))),Ex.one _ _,sv⟩
  ·rw[<- em];exact md (d4 rfl) rfl (by decide)
  ·rw[gg _ _ (by simp;omega),aak,hv];rfl
 ·by_cases h2:c.fmod 4=2
  ·refine⟨_,ph,bq (aY (eI (m4 rfl) (decide_eq_false h3)) rfl) (dG (cF (eI (m4 rfl) (decide_eq_true h2)) (retS (sb (md (ml (d4 rfl) rfl (DM (by decide) (by decide))) rfl (by decide)) rfl)))),Ex.refl _,?_⟩;have q:=nH (c.fdiv 4*48271) 4294967296 (by decide);exact sd (by omega) (by omega)
  ·by_cases h1:c.fmod 4=1
   ·refine⟨_,ph,bq (aY (eI (m4 rfl) (decide_eq_false h3)) rfl) (bq (aY (eI (m4 rfl) (decide_eq_false h2)) rfl) (dG (cF (eI (m4 rfl) (decide_eq_true h1)) (retS (sb (md (d4 rfl) rfl (by decide)) rfl))))),Ex.refl _,?_⟩;have q:=nH (c.fdiv 4) 100003 (by decide);exact sd (by omega) (by omega)
   ·refine⟨_,ph,bq (aY (eI (m4 rfl) (decide_eq_false h3)) rfl) (bq (aY (eI (m4 rfl) (decide_eq_false h2)) rfl) (bq (aY (eI (m4 rfl) (decide_eq_false h1)) rfl) (br (sb (md (d4 rfl) rfl (by decide)) rfl)))),Ex.refl _,?_⟩;have q:=nH (c.fdiv 4) 19 (by decide);exact sd (by omega) (by omega)
theorem tB{e:EM}(h:e σ ph=.ok (.bl c) ph1):eT e σ ph=.ok c ph1:=aB h rfl
theorem tQ(b:SM)(n:Nat)(x y z u v:W):fM b n 5 [x,y,z,u,v]=aq (b (some x::some y::some z::some u::some v::aay (n-5) none)) dX:=(rfl)
variable{H:PH}
theorem WG{x:Nat}(h:H[i]? =some (.lst (iw l)))(hk:l[k]? =some x):lift (ao (.ref i) (.int k)) H=.ok (.int x) H:=gF h (WC hk)
theorem WH(ph:PH)(s:String):dat ph 40 (.str (aae s))=some (.str (aae s)):=by
 unfold dat;rw[if_pos (so s)]
theorem ik(H:PH)(n:Nat)(s:String):dat H n (.str (aae s))=some (.str (aae s)):=by
 have:=WH H s;cases n <;> exact this
variable{n:Nat}
theorem iU{ds:List acN}(h:a9 (dat H n) ws=some ds):dat H (n+1) (.tup ws)=some (.tuple ds):=by
 show(a9 (dat H n) ws).map PyData.tuple=_;rw[h];rfl
theorem CW{ds:List acN}(hi:H[i]? =some (.lst ws))(h:a9 (dat H n) ws=some ds):dat H (n+1) (.ref i)=some (.list ds):=by
 unfold dat;simp only[hi,h];rfl
theorem mc{f:α->Option β}{a:α}{l:List α}{b:β}{m:List β}(h:f a=some b)(h2:a9 f l=some m):a9 f (a::l)=some (b::m):=by
 unfold a9;rw[h,h2]
theorem WI(ns:List Int)(i:Int)(h:0<=i):eL [.fl (ns.map W.int),.int i]=aA (.int (ns.getD i.toNat 0)):=by
 have:=WD ns i.toNat;rw[Int.toNat_of_nonneg h] at this;exact this
theorem cl{ns:List Int}{i:Int}(ha:a σ ph=.ok (.fl (ns.map W.int)) ph1)(hb:b σ ph1=.ok (.int i) ph2)(h:0<=i):bw eL (ah a (ah b aj)) σ ph=.ok (.int (ns.getD i.toNat 0)) ph2:=aB (az ha (az hb rfl)) (congrFun (WI ns i h) ph2)
theorem vK(h:ph[i]? =some (.lst ws)):lift (jE [.ref i]) ph=.ok (.ref ph.length) (ph++[.lst ws]):=by
 have e:jE [.ref i] ph=mz [.ref i] ph:=by
  unfold jE;simp only[xR h]
 have:=QI h;unfold lift at this ⊢;rw[e];exact this
theorem DO{l:List α}{x y:α}(h:(l++[x])[i]? =some y):(i<l.length/\l[i]? =some y)\/(i=l.length/\y=x):=by
 by_cases hi:i<l.length
 ·rw[aaU hi] at h;exact .inl ⟨hi,h⟩
 ·have:=(aac.mp h).1;simp at this;have:i=l.length:=by omega
  subst this;rw[acd] at h;cases h;exact .inr ⟨rfl,rfl⟩
theorem SQ(n:Nat):fw 0 n=(aaP n).map fun i:Nat=>W.int i:=by
 unfold fw;apply adQ;intro i _;simp
theorem CY(as:List α)(h:α->W){cap:List (Option Nat)}{e:EM}{ph0:PH}(lw:im σ ph0=.ok (as.map h,chk) ph)(pF:∀ph',Ex ph ph'->chk ph'=true)(hz:as.length<=1000)
  (P:Nat->W->PH->Prop) (hP:∀j w H H',P j w H->(∀r o,r≠ph.length->H[r]? =some o->H'[r]? =some o)->P j w H') (S:aI->Prop) (h0:S (fA cap σ))
  (step:∀j x,as[j]? =some x->∀σ H,S σ->Ex ph H->ph.length<H.length->∃σ1,g (h x) σ H=.ok σ1 H/\S σ1/\∃w H2,e σ1 H=.ok w H2/\Ex H H2/\P j w H2) :
  ∃ph' ws,dn im cap g dN e σ ph0=.ok (.ref ph.length) ph'/\Ex ph ph'/\ph'[ph.length]? =some (.lst ws)/\ws.length=as.length/\∀j w,ws[j]? =some w->P j w ph':=by
 rw[vX,bX lw];obtain⟨mX,aC,ph',ec,hS,x1,x2,x3,x4⟩:=qQ (chk:=chk) (g:=g) (c:=dN) (e:=e) ph.length
  (fun k acc σ H=>S σ/\Ex ph H/\H[ph.length]? =some (.lst acc)/\acc.length=k/\∀(j:Nat) w,acc[j]? =some w->P j w H)
  (as.map h) 0 [] (fA cap σ) (ph++[.lst []]) (fun j acc σ H hI=>pF _ hI.2.1)
  (fun j y acc σ H hj hI=>by
   rw[acC] at hI ⊢;obtain⟨hS,x1,x2,x3,x4⟩:=hI;rw[aak] at hj;obtain⟨x,hx,rfl⟩:=aap.mp hj;have jf:=(aac.mp hx).1;obtain⟨σ1,e1,eG,w,H2,e2,y1,y2⟩:=step j x hx σ H hS x1 (EA x2);have keep:∀r o,r≠ph.length->H2[r]? =some o->(H2.set ph.length (.lst (acc++[w])))[r]? =some o:=fun r o hr ho=>(iX (abL hr)).trans ho
   refine⟨σ1,H,e1,true,H,rfl,.inr ⟨rfl,w,H2,e2,y1.get x2,aan (by omega:acc.length<1001) (by decide),eG,Ex.set (x1.trans y1) (aaj _) _,iY (y1.get x2),by simp[x3],fun i w' Zc=>?_⟩⟩
   rcases DO Zc with⟨_,z⟩ | ⟨z0,z⟩
   ·exact hP i w' H _ (x4 i w' z) fun r o hr ho=>keep r o hr (y1.get ho)
   ·rw[z,z0,x3];exact hP j w H2 _ y2 keep)
  ⟨h0,Ex.one _ _,bV _ _,rfl,fun j w z=>by simp at z⟩
 rw[acC,aag] at x3;exact⟨ph',mX,bX ec,x1,x2,x3,x4⟩
theorem QY{ws:List β}{f:α->β}{Q:Nat->α->Prop}(h:∀(j:Nat) w,ws[j]? =some w->∃d,w=f d/\Q j d):∃D:List α,ws=D.map f/\∀(j:Nat) d,D[j]? =some d->Q j d:=by
 induction ws generalizing Q with
 | nil=>exact⟨[],rfl,fun j d z=>by simp at z⟩
 | cons w ws ih=>
  obtain⟨d,e,q⟩:=h 0 w rfl;obtain⟨D,e2,q2⟩:=ih (Q:=fun j=>Q (j+1)) fun j w hw=>h (j+1) w (by simpa using hw)
  refine⟨d::D,by rw[e,e2];rfl,fun j d' hd=>?_⟩;cases j with
  | zero=>cases hd;exact q
  | succ j=>exact q2 j d' (by simpa using hd)
def up(L:List Nat)(n:Nat):List Nat:=(aaP n).filter fun k=>decide (k∈L)
theorem Vk{L:List Nat}(hn:L.Nodup)(hl:∀x∈L,x<n):jP (L.map fun k:Nat=>(k:Int))=(up L n).map fun k:Nat=>(k:Int):=by
 refine(wG (List.Perm.map _ ?_) ?_).symm
 ·refine(List.perm_ext_iff_of_nodup (acK _ List.nodup_range) hn).mpr fun a=>?_
  rw[acZ,abx,decide_eq_true_eq];exact⟨fun h=>h.2,fun h=>⟨hl a h,h⟩⟩
 ·exact List.Pairwise.map _ (fun a b h=>by omega) (acK _ aeK)
theorem CZ(f:Nat->W):∀(l acc:List Nat),(acc++l).Nodup->(acc++l).length<=100->i3 (acc.map fun b:Nat=>(W.int b,f b)) (l.map fun b:Nat=>(W.int b,f b))=some ((acc++l).map fun b:Nat=>(W.int b,f b))
 | [],acc,_,_=>by simp[i3]
 | b::l,acc,hn,hl=>by
  have hb:b∉acc:=fun z=>by
   rw[aeo] at hn;exact hn.2.2 b z b (by simp) rfl
  rw[aaB];unfold i3;have h1:d7 (acc.map fun b:Nat=>(W.int b,f b)) (W.int b)=true:=by
   unfold d7;rw[acu]
   left
   simp[ja,eJ]
  have h2:(acc.map fun b:Nat=>(W.int b,f b)).length<sizeLine:=by
   rw[aag];simp at hl;exact aan (by omega:acc.length<101) (by decide)
  rw[if_pos ⟨h1,h2⟩];have h3:dc (acc.map fun b:Nat=>(W.int b,f b)) (W.int b) (f b)=(acc++[b]).map fun b:Nat=>(W.int b,f b):=by
   unfold dc;have:((acc.map fun b:Nat=>(W.int b,f b)).any fun p=>decide (p.1=W.int b))=false:=by
    rw[List.any_eq_false];intro p hp;obtain⟨c,hc,rfl⟩:=acY.mp hp;rw[decide_eq_true_eq];intro z;have:=W.int.inj z;exact hb (by rw[show b=c by omega];exact hc)
   rw[this];simp
  rw[h3,CZ f l (acc++[b]) (by rw[acI];exact hn) (by rw[acI];exact hl),acI];rfl
def sg(c:Nat):Str:=⟨#[c]⟩
def tx(cs:List Nat):Str:=⟨cs.toArray⟩
def cK(c:Nat):W:=.str (sg c)
def Ab(c:Nat):Prop:=97<=c/\c<123
structure dD(cs:List Nat):Prop where
 lo:1<=cs.length
 hi:cs.length<=6
 ab:∀c∈cs,Ab c
theorem DP(a b:List Nat):tx a++tx b=tx (a++b):=by
 show Str.append _ _=_;unfold Str.append tx;simp
theorem SR:∀cs:List Nat,afN (aae "") (cs.map sg)=tx cs:=by
 intro cs;rw[Txt.join_eq]
 induction cs with
 | nil=>rfl
 | cons c cs ih=>
  cases cs with
  | nil=>rfl
  | cons d cs=>
   have e:Str.join (aae "") ((c::d::cs).map sg)=sg c++aae ""++Str.join (aae "") ((d::cs).map sg):=rfl;rw[e,ih];have e2:sg c++aae ""=tx [c]:=rfl;rw[e2,DP];rfl
variable{cs:List Nat}
theorem Vl(h:H[i]? =some (.lst (cs.map cK)))(hl:cs.length<=6):lift (fu (.str "") [.ref i]) H=.ok (.str (tx cs)) H:=by
 have e:a9 strOf (cs.map cK)=some (cs.map sg):=iR strOf cK sg (fun _=>rfl) cs;have e2:fu (.str "") [.ref i] H=some (.str (tx cs),H):=by
  unfold fu;simp only[h,e];rw[if_pos,SR];refine⟨by rw[aag];omega,fun y hy=>?_,nofun⟩;obtain⟨c,_,rfl⟩:=acY.mp hy;show(1:Nat)<=10;omega
 unfold lift;rw[e2]
theorem jn{e:EM}(he:e σ ph=.ok (.ref i) ph1)(h:ph1[i]? =some (.lst (cs.map cK)))(hl:cs.length<=6):cJ gU fu (eC (.str "")) (ah e aj) σ ph=.ok (.str (tx cs)) ph1:=by
 rw[nO];exact aB rfl (aB rfl (aB (az he rfl) (Vl h hl)))
theorem WJ:(aae "abcdefghijklmnopqrstuvwxyz").cps.toList=(aaP 26).map (97+ ·):=nofun
theorem Vm{m:Nat}(h:m<26)(H:PH):lift (ao (.str "abcdefghijklmnopqrstuvwxyz") (.int m)) H=.ok (cK (97+m)) H:=by
 have e:df (.str (aae "abcdefghijklmnopqrstuvwxyz")) (.int m) H=some (cK (97+m),H):=by
  unfold df;simp only[];rw[if_pos nofun,WJ,gg _ _ (by simpa using h)];rw[aak,abX h];rfl
 rw[xP];unfold lift;rw[e]
theorem xX{i:Int}(ha:a σ ph=.ok (.str "abcdefghijklmnopqrstuvwxyz") ph)(hb:b σ ph=.ok (.int i) ph):∃c,Ab c/\af ao a (af aZ b (eC (.int 26))) σ ph=.ok (cK c) ph:=by
 obtain⟨m,hm,em⟩:=eR (a:=i) (n:=26) (by decide);refine⟨97+m,⟨by omega,by omega⟩,op ha (md hb rfl (by decide)) ?_⟩;rw[em];exact Vm (by omega) ph
theorem DQ{cap:List (Option Nat)}{e:EM}(S:aI->Prop)(h0:S (fA cap σ))
  (step:∀(j:Nat) σ H,S σ->∃σ1,gN 0 (.int j) σ H=.ok σ1 H/\S σ1/\∃c,Ab c/\e σ1 H=.ok (cK c) H) :
  ∃(cs:List Nat) (ph':PH),dn (fX (ah (eC (.int (6))) aj)) cap (gN 0) dN e σ ph=.ok (.ref ph.length) ph'/\Ex ph ph'/\ph'[ph.length]? =some (.lst (cs.map cK))/\cs.length=6/\∀c∈cs,Ab c:=by
 obtain⟨ph',ws,e1,x1,h1,h2,h3⟩:=CY (aaP 6) (fun j:Nat=>W.int j) (im:=fX (ah (eC (.int (6))) aj)) (cap:=cap) (g:=gN 0) (e:=e) (σ:=σ) (ph:=ph) (ph0:=ph) (chk:=fun _=>true) (by rw[<- SQ];exact rR (j:=6) rfl (by decide) (by decide)) (fun _ _=>rfl) (by simp)
  (fun _ w _=>∃c,w=cK c/\Ab c) (fun _ _ _ _ h _=>h) S h0 (fun j x _ σ H hS _ _=>by
   obtain⟨σ1,q1,q2,c,hc,q3⟩:=step x σ H hS;exact⟨σ1,q1,q2,_,H,q3,Ex.refl _,c,rfl,hc⟩)
 obtain⟨cs,rfl,hq⟩:=QY (f:=cK) (Q:=fun _ c=>Ab c) h3;refine⟨cs,ph',e1,x1,h1,by simpa using h2,fun c hc=>?_⟩;obtain⟨j,hj,rfl⟩:=adL hc;exact hq j _ (aaO hj)
theorem Vn(h:ph[i]? =some (.lst ws))(a b:Nat)(lu:a<=b)(hb:b<=ws.length):lift (hU (.ref i) (some (a:Int)) (some (b:Int))) ph=.ok (.ref ph.length) (ph++[.lst ((ws.drop a).take (b-a))]):=by
 have:fS ws (some (a:Int)) (some (b:Int))=(ws.drop a).take (b-a):=by
  unfold fS HT.aV;simp only[show ¬((a:Int)<0) by omega,show ¬((b:Int)<0) by omega,if_false,ael,adN hb,adN (abl lu hb)]
 unfold lift hU;simp only[h,this]
theorem zq(hm:m σ ph=.ok (.ref i) ph)(hi:ph[i]? =some (.lst ws))(ho:o σ ph=.ok (.int k) ph):cR m dA (cE o) σ ph=.ok (.ref ph.length) (ph++[.lst (ws.take k)]):=by
 rw[rT];exact aB hm (aB rfl (aB (aB ho rfl) (UT hi k)))
theorem GA(hm:m σ ph=.ok (.ref i) ph)(hi:ph[i]? =some (.lst ws))(ho:o σ ph=.ok (.int k) ph):cR m (cE o) dA σ ph=.ok (.ref ph.length) (ph++[.lst (ws.drop k)]):=by
 rw[rT];exact aB hm (aB (aB ho rfl) (aB rfl (Sf hi k)))
theorem Zd{p:EM}{a b:Nat}(hm:m σ ph=.ok (.ref i) ph)(hi:ph[i]? =some (.lst ws))(ho:o σ ph=.ok (.int a) ph)(hp:p σ ph=.ok (.int b) ph)(lu:a<=b)(hb:b<=ws.length):cR m (cE o) (cE p) σ ph=.ok (.ref ph.length) (ph++[.lst ((ws.drop a).take (b-a))]):=by
 rw[rT];exact aB hm (aB (aB ho rfl) (aB (aB hp rfl) (Vn hi a b lu hb)))
theorem DR{x y:List Nat}(ha:a σ ph=.ok (.str (tx x)) ph1)(hb:b σ ph1=.ok (.str (tx y)) ph2)(hl:x.length+y.length<=100):af addW a b σ ph=.ok (.str (tx (x++y))) ph2:=by
 refine op ha hb ?_;have e:addW (.str (tx x)) (.str (tx y)) ph2=some (.str (tx x++tx y),ph2):=by
  unfold addW;simp only[];rw[if_pos];show(x.toArray).size+(y.toArray).size<=aas;simp only[aao];exact abl hl (by decide)
 unfold lift;rw[e,DP]
def aQ(cs:List Nat):W:=.str (tx cs)
theorem SS(n:Int)(many:Nat)(hm:many<=12)(ph:PH):∃(NS:List (List Nat)) (H':PH),u4 [.int n,.int many] ph=.ok (.ref ph.length) H'/\Ex ph H'/\H'[ph.length]? =some (.lst (NS.map aQ))/\NS.length=many/\∀cs∈NS,dD cs:=by
 obtain⟨z,hz,ez⟩:=eR (a:=n.fdiv 3) (n:=6) (by decide);obtain⟨at_,jk,Ze⟩:=eR (a:=n.fdiv 18) (n:=1+(z:Int)) (by omega);obtain⟨st,cv⟩:∃st:W->Option W->Option W->Option W->Option W->aI,st=fun nl o6 o7 o8 o9=>[some (.int n),some (.int many),some (.str "abcdefghijklmnopqrstuvwxyz"),some (.int (1+(z:Int))),some (.int at_),some nl,o6,o7,o8,o9]:=⟨_,rfl⟩
 have key:=iQ (chk:=fun _=>true) (g:=gN 6) (b:=uT) (fun k σ H=>∃(NS:List (List Nat)) (o6 o7 o8 o9:Option W),σ=st (.ref ph.length) o6 o7 o8 o9/\Ex ph H/\H[ph.length]? =some (.lst (NS.map aQ))/\NS.length=k/\k<=many/\∀cs∈NS,dD cs)
  (fw 0 many) (st (.ref ph.length) none none none none) (ph++[.lst []]) (fun _ _ _ _=>rfl) (fun j x σ H hj hI=>by
   obtain⟨NS,o6,o7,o8,o9,rfl,xH,hN,hl,hk,ok⟩:=hI;obtain⟨ZZ,rfl⟩:=vY hj;rw[afL];refine⟨st (.ref ph.length) (some (.int j)) o7 o8 o9,H,by rw[cv];rfl,?_⟩;obtain⟨cs,H1,e1,x1,g1,l1,a1⟩:=DQ (ph:=H) (σ:=st (.ref ph.length) (some (.int j)) o7 o8 o9) (cap:=[none,some 2,some 6,some 0]) (e:=(af ao (ae 1) (af aZ (af addW (af addW (af bx (ae 3) (eC (.int (18)))) (af eE (eC (.int (5))) (ae 0))) (af bx (ae 2) (eC (.int (6))))) (eC (.int (26))))))
    (fun σ=>∃o,σ=[o,some (.str "abcdefghijklmnopqrstuvwxyz"),some (.int j),some (.int n)]) ⟨none,by rw[cv];rfl⟩ (fun i σ H2 hS=>by
     obtain⟨o,rfl⟩:=hS;refine⟨_,rfl,⟨_,rfl⟩,xX rfl (ad (ad (dv rfl rfl (by decide) (by decide)) (ml rfl rfl (xr (by decide) (by decide)))) (dv rfl rfl (by decide) (by decide)))⟩)
   obtain⟨σ1,bK⟩:∃σ1,σ1=st (.ref ph.length) (some (.int j)) (some (.ref H.length)) o8 o9:=⟨_,rfl⟩
   have a7:aX (dn (fX (ah (eC (.int (6))) aj)) [none,some 2,some 6,some 0] (gN 0) dN (af ao (ae 1) (af aZ (af addW (af addW (af bx (ae 3) (eC (.int (18)))) (af eE (eC (.int (5))) (ae 0))) (af bx (ae 2) (eC (.int (6))))) (eC (.int (26)))))) (gN 7) (st (.ref ph.length) (some (.int j)) o7 o8 o9) H=.ok (.nx σ1) H1:=by
    rw[bK,asg e1,cv];rfl
   have fin:∀{e:EM} {bJ:aI} {H2 H3:PH} {cs:List Nat} {p7 p8 p9:Option W},bJ=st (.ref ph.length) (some (.int j)) p7 p8 p9->Ex H H2->e bJ H2=.ok (aQ cs) H3->Ex H2 H3->dD cs->eV (cJ dF dJ (ae 5) (ah e aj)) bJ H2=.ok (.nx bJ) (H3.set ph.length (.lst (NS.map aQ++[aQ cs]))) /\
     ∃(zr:List (List Nat)) (o6 o7 o8 o9:Option W),bJ=st (.ref ph.length) o6 o7 o8 o9/\Ex ph (H3.set ph.length (.lst (NS.map aQ++[aQ cs])))/\(H3.set ph.length (.lst (NS.map aQ++[aQ cs])))[ph.length]? =some (.lst (zr.map aQ))/\zr.length=j+1/\j+1<=many/\∀cs∈zr,dD cs:=by
    intro e bJ H2 H3 cs p7 p8 p9 h2 y2 he y3 hc;have g3:=y3.get (y2.get hN);refine⟨uz (by rw[h2,cv];rfl) ⟨_,y2.get hN⟩ he g3 (by rw[aag];omega),NS++[cs],_,_,_,_,h2,Ex.set ((xH.trans y2).trans y3) (aaj _) _,?_,by simp;omega,by omega,fun c gX=>?_⟩
    ·rw[iY g3];simp
    ·rcases abt.mp gX with q | q
     ·exact ok c q
     ·rw[aar.mp q];exact hc
   have m3:∀{H2:PH},af aZ (ae 0) (eC (.int (3))) σ1 H2=.ok (.int (n.fmod 3)) H2:=fun{H2}=>by rw[bK,cv];exact md rfl rfl (by decide)
   unfold uT;by_cases h0:n.fmod 3=0
   ·obtain⟨q,hq,eq⟩:=eR (a:=n.fdiv 3+(j:Int)) (n:=6) (by decide);obtain⟨f1,f2⟩:=fin (cs:=cs.take (1+q)) (e:=cJ gU fu (eC (.str "")) (ah (cR (ae 7) dA (cE (af addW (eC (.int (1))) (af aZ (af addW (af bx (ae 0) (eC (.int (3)))) (ae 6)) (eC (.int (6))))))) aj)) bK x1 (H3:=H1++[.lst ((cs.take (1+q)).map cK)])
     (jn (i:=H1.length) (by
      rw[aex];refine zq (i:=H.length) (by rw[bK,cv];rfl) g1 ?_;have:=ad (a:=eC (.int (1))) (b:=af aZ (af addW (af bx (ae 0) (eC (.int (3)))) (ae 6)) (eC (.int (6)))) (σ:=σ1) (ph:=H1) (ph1:=H1) (ph2:=H1) (i:=1) rfl (md (ad (dv (by rw[bK,cv];rfl) rfl (by decide) (by decide)) (by rw[bK,cv];rfl)) rfl (by decide));rw[this,eq];rfl) (bV _ _) (by rw[abD];omega)) (Ex.one _ _) ⟨by rw[abD];omega,by rw[abD];omega,fun c hc=>a1 c (acL hc)⟩
    exact⟨_,_,sq a7 (cF (eI m3 (decide_eq_true h0)) f1),_,.inl rfl,f2⟩
   ·by_cases h1:n.fmod 3=1
    ·obtain⟨ds,H2,e2,x2,g2,l2,a2⟩:=DQ (ph:=H1) (σ:=σ1) (cap:=[none,some 2,some 0]) (e:=(af ao (ae 1) (af aZ (af addW (af bx (ae 2) (eC (.int (18)))) (af eE (eC (.int (5))) (ae 0))) (eC (.int (26))))))
      (fun σ=>∃o,σ=[o,some (.str "abcdefghijklmnopqrstuvwxyz"),some (.int n)]) ⟨none,by rw[bK,cv];rfl⟩ (fun i σ H2 hS=>by
       obtain⟨o,rfl⟩:=hS;refine⟨_,rfl,⟨_,rfl⟩,xX rfl (ad (dv rfl rfl (by decide) (by decide)) (ml rfl rfl (xr (by decide) (by decide))))⟩)
     obtain⟨bJ,pO⟩:∃bJ,bJ=st (.ref ph.length) (some (.int j)) (some (.ref H1.length)) o8 o9:=⟨_,rfl⟩
     obtain⟨c,hc,ec⟩:=xX (a:=ae 2) (b:=af addW (af bx (ae 0) (eC (.int (108)))) (ae 6)) (σ:=bJ) (ph:=H2) (by rw[pO,cv];rfl) (ad (dv (by rw[pO,cv];rfl) rfl (by decide) (by decide)) (by rw[pO,cv];rfl));obtain⟨hX,pP⟩:∃hX,hX=st (.ref ph.length) (some (.int j)) (some (.ref H1.length)) (some (cK c)) o9:=⟨_,rfl⟩
     obtain⟨bk,zt⟩:∃bk,bk=(ds.drop (at_+1)).take (1+z-(at_+1)):=⟨_,rfl⟩
     have Z0:bk.length=z-at_:=by rw[zt,abD,aez];omega
     obtain⟨H3,e3⟩:∃H3,H3=H2++[PO.lst (bk.map cK)]:=⟨_,rfl⟩
     obtain⟨fJ,nz⟩:∃fJ,fJ=st (.ref ph.length) (some (.int j)) (some (.ref H1.length)) (some (cK c)) (some (aQ bk)):=⟨_,rfl⟩
     obtain⟨H4,e4⟩:∃H4,H4=H3++[PO.lst ((ds.take at_).map cK)]:=⟨_,rfl⟩
     have x3:Ex H2 H3:=e3▸Ex.one _ _;have x4:Ex H3 H4:=e4▸Ex.one _ _;have b1:aX (cJ gU fu (eC (.str "")) (ah (cR (ae 7) (cE (af addW (ae 4) (eC (.int (1))))) (cE (ae 3))) aj)) (gN 9) hX H2=.ok (.nx fJ) H3:=by
      refine(asg (w:=aQ bk) (ph1:=H3) (jn (i:=H2.length) ?_ (by rw[e3];exact bV _ _) (by omega))).trans (by rw[pP,nz,cv];rfl);have:=Zd (m:=ae 7) (o:=af addW (ae 4) (eC (.int (1)))) (p:=ae 3) (σ:=hX) (ph:=H2) (i:=H1.length) (a:=at_+1) (b:=1+z) (by rw[pP,cv];rfl) g2 (by rw[pP,cv];rfl) (by rw[pP,cv];rfl) (by omega) (by rw[aag];omega);rw[this,e3,zt,aex,List.map_drop]
     obtain⟨f1,f2⟩:=fin (cs:=ds.take at_++[c]++bk) (e:=af addW (af addW (cJ gU fu (eC (.str "")) (ah (cR (ae 7) dA (cE (ae 4))) aj)) (ae 8)) (ae 9)) nz ((x1.trans x2).trans x3) (H3:=H4)
      (DR (x:=ds.take at_++[c]) (y:=bk) (ph1:=H4) (DR (x:=ds.take at_) (y:=[c]) (ph1:=H4) (jn (i:=H3.length) (by
       rw[e4,aex];exact zq (i:=H1.length) (by rw[nz,cv];rfl) (x3.get g2) (by rw[nz,cv];rfl)) (by rw[e4];exact bV _ _) (by rw[abD];omega)) (by rw[nz,cv];rfl) (by simp;omega)) (by rw[nz,cv];rfl) (by simp;omega)) x4
      ⟨by simp;omega,by simp;omega,fun d hd=>by
       rcases abt.mp hd with q | q
       ·rcases abt.mp q with q | q
        ·exact a2 d (acL q)
        ·rw[aar.mp q];exact hc
       ·rw[zt] at q;exact a2 d (afd (acL q))⟩
     refine⟨_,_,sq a7 (aY (eI m3 (decide_eq_false h0)) (cF (eI m3 (decide_eq_true h1)) (sq (σ1:=bJ) (ph1:=H2) ?_ (sq (σ1:=hX) (ph1:=H2) ?_ (sq b1 f1))))),_,.inl rfl,f2⟩
     ·rw[asg e2,bK,pO,cv];rfl
     ·rw[asg ec,pO,pP,cv];rfl
    ·obtain⟨q,hq,eq⟩:=eR (a:=(j:Int)) (n:=6) (by decide);have mq:∀{H2:PH},af aZ (ae 6) (eC (.int (6))) σ1 H2=.ok (.int q) H2:=fun{H2}=>by
      rw[<- eq,bK,cv];exact md rfl rfl (by decide)
     obtain⟨H2,e2⟩:∃H2,H2=H1++[PO.lst ((cs.drop q).map cK)]:=⟨_,rfl⟩
     obtain⟨H3,e3⟩:∃H3,H3=H2++[PO.lst ((cs.take q).map cK)]:=⟨_,rfl⟩
     obtain⟨H4,e4⟩:∃H4,H4=H3++[PO.lst ((cs.drop q++cs.take q).map cK)]:=⟨_,rfl⟩
     have x2:Ex H1 H2:=e2▸Ex.one _ _;have x3:Ex H2 H3:=e3▸Ex.one _ _;have x4:Ex H3 H4:=e4▸Ex.one _ _;have g2:H2[H1.length]? =some (PO.lst ((cs.drop q).map cK)):=by rw[e2];exact bV _ _
     have g3:H3[H2.length]? =some (PO.lst ((cs.take q).map cK)):=by rw[e3];exact bV _ _
     obtain⟨f1,f2⟩:=fin (cs:=cs.drop q++cs.take q) (e:=cJ gU fu (eC (.str "")) (ah (af addW (cR (ae 7) (cE (af aZ (ae 6) (eC (.int (6))))) dA) (cR (ae 7) dA (cE (af aZ (ae 6) (eC (.int (6))))))) aj)) bK x1 (H3:=H4)
      (jn (i:=H3.length) (op (x:=.ref H1.length) (ph1:=H2) (y:=.ref H2.length) (ph2:=H3) (by
       rw[e2,List.map_drop];exact GA (i:=H.length) (by rw[bK,cv];rfl) g1 mq) (by
       rw[e3,aex];exact zq (i:=H.length) (by rw[bK,cv];rfl) (x2.get g1) mq) (by
       rw[wJ (x3.get g2) g3 (small (by simp;omega)),e4,acH])) (by rw[e4];exact bV _ _) (by simp;omega)) ((x2.trans x3).trans x4)
      ⟨by simp;omega,by simp;omega,fun d hd=>by
       rcases abt.mp hd with r | r
       ·exact a1 d (afd r)
       ·exact a1 d (acL r)⟩
     exact⟨_,_,sq a7 (aY (eI m3 (decide_eq_false h0)) (aY (eI m3 (decide_eq_false h1)) f1)),_,.inl rfl,f2⟩)
  ⟨[],none,none,none,none,rfl,Ex.one _ _,bV _ _,rfl,by omega,fun _ h=>nomatch h⟩
 obtain⟨aC,H',e,NS,o6,o7,o8,o9,rfl,xH,hN,hl,_,ok⟩:=key;rw[vZ] at hl;refine⟨NS,H',?_,xH,hN,hl,ok⟩;unfold u4 kf;rw[jQ];have Zf:fX (ah (ae 1) aj) (st (.ref ph.length) none none none none) (ph++[.lst []])=.ok (fw 0 many,fun _=>true) (ph++[.lst []]):=rR (j:=(many:Int)) (by rw[cv];rfl) (by omega) (by omega);refine bq (σ1:=[some (.int n),some (.int many),some (.str "abcdefghijklmnopqrstuvwxyz"),none,none,none,none,none,none,none]) rfl (bq (ph1:=ph) (σ1:=[some (.int n),some (.int many),some (.str "abcdefghijklmnopqrstuvwxyz"),some (.int (1+(z:Int))),none,none,none,none,none,none]) ?_ (bq (ph1:=ph) (σ1:=[some (.int n),some (.int many),some (.str "abcdefghijklmnopqrstuvwxyz"),some (.int (1+(z:Int))),some (.int at_),none,none,none,none,none]) ?_ (bq (ph1:=ph++[.lst []]) (σ1:=st (.ref ph.length) none none none none) ?_ (bq (ij Zf e) (br ?_)))))
 ·rw[<- ez];exact asg (ad rfl (md (dv rfl rfl (by decide) (by decide)) rfl (by decide)))
 ·rw[<- Ze];exact asg (md (dv rfl rfl (by decide) (by decide)) rfl (by omega))
 ·rw[cv];exact asg rfl
 ·rw[cv];rfl
abbrev Nm:=List Nat
inductive Row where
 | set (a:Nm) (n:Int)
 | copy (a b:Nm)
 | gW (a:Nm) (w:Wd) (b c:Nm)
 | take (a:Nm)
 | tell (a:Nm)
 | turn
 | iff (a:Nm) (p:Nat)
 | go (p:Nat)
 | fin
def Row.w:Row->W
 | .set a n=>.tup [.str "set",aQ a,.int n]
 | .copy a b=>.tup [.str "copy",aQ a,aQ b]
 | .gW a w b c=>.tup [.str "do",aQ a,.str w.s,aQ b,aQ c]
 | .take a=>.tup [.str "take",aQ a]
 | .tell a=>.tup [.str "tell",aQ a]
 | .turn=>.tup [.str "turn"]
 | .iff a p=>.tup [.str "if",aQ a,.int p]
 | .go p=>.tup [.str "go",.int p]
 | .fin=>.tup [.str "end"]
def Row.to:Row->List Nat
 | .iff _ p=>[p]
 | .go p=>[p]
 | _=>[]
def Row.nm:Row->List Nm
 | .set a _=>[a]
 | .copy a b=>[a,b]
 | .gW a _ b c=>[a,b,c]
 | .take a=>[a]
 | .tell a=>[a]
 | .iff a _=>[a]
 | _=>[]
def iu(NS:List Nm)(r:Row):Prop:=(∀a∈r.nm,a∈NS)/\∀a n,r=.set a n->pN n
def Gl(n p:Nat)(TL:List Nat)(g:Nat):Prop:=(p<g/\g<=n)\/g∈TL
variable{p:Nat}{TL:List Nat}
theorem Vo{ti:Nat}(mo:Int)(ht:ph[ti]? =some (.lst (iw TL)))(hp:p<n):∃g H',kh [.int mo,.int p,.int n,.ref ti] ph=.ok (.int ((g:Nat):Int)) H'/\Ex ph H'/\Gl n p TL g:=by
 obtain⟨H1,e1⟩:∃H1,H1=ph++[PO.lst []]:=⟨_,rfl⟩
 have x1:Ex ph H1:=e1▸Ex.one _ _;have g1:=x1.get ht;have et:eT (af dg (ae 3) (bP aj)) [some (.int mo),some (.int p),some (.int n),some (.ref ti)] ph=.ok (!(iw TL).isEmpty) H1:=tB (op (x:=.ref ti) (y:=.ref ph.length) (ph2:=H1) rfl (by rw[e1];rfl) (Ey (eq_nil g1 (by rw[e1];exact bV _ _) (iR (dat _ 39) (fun x:Nat=>W.int x) (fun x:Nat=>afS (x:Int)) (fun x=>oD _ 39 x) TL))));have m2:eT (af bA (af aZ (ae 0) (eC (.int (2)))) (eC (.int (1)))) [some (.int mo),some (.int p),some (.int n),some (.ref ti)] H1=.ok (decide (mo.fmod 2=1)) H1:=eI (md rfl rfl (by decide)) rfl;have d2:af bx (ae 0) (eC (.int (2))) [some (.int mo),some (.int p),some (.int n),some (.ref ti)] H1=.ok (.int (mo.fdiv 2)) H1:=dv rfl rfl (by decide) (by decide);have away:∀{H2:PH},i0 (eT (af dg (ae 3) (bP aj))) (eT (af bA (af aZ (ae 0) (eC (.int (2)))) (eC (.int (1))))) [some (.int mo),some (.int p),some (.int n),some (.ref ti)] ph=.ok false H1->∃g H',kh [.int mo,.int p,.int n,.ref ti] ph=.ok (.int ((g:Nat):Int)) H'/\Ex ph H'/\Gl n p TL g:=fun{H2} t=>by
  obtain⟨m,hm,em⟩:=eR (a:=mo.fdiv 2) (n:=(n:Int)-(p:Int)) (by omega);refine⟨p+1+m,H1,?_,x1,.inl ⟨by omega,by omega⟩⟩;unfold kh iO;rw[oU];rw[show((p+1+m:Nat):Int)=(p:Int)+1+(m:Int) by omega,<- em];exact bq (aY t rfl) (br (ad (ad rfl rfl) (md d2 (sb rfl rfl) (by omega))))
 cases TL with
 | nil=>exact away (H2:=ph) (tF et)
 | cons a TL=>
  by_cases h1:mo.fmod 2=1
  ·rw[decide_eq_true h1] at m2;obtain⟨m,hm,em⟩:=eR (a:=mo.fdiv 2) (n:=((a::TL).length:Int)) (by simp);obtain⟨g,hg⟩:∃g,(a::TL)[m]? =some g:=k0 (by omega);refine⟨g,H1,?_,x1,.inr (aaK hg)⟩;unfold kh iO;rw[oU];refine dG (cF (tT et m2) (retS (op (y:=.int m) rfl ?_ (WG g1 hg))));rw[<- em];exact md d2 (aB (az rfl rfl) ((fq g1).trans (by rw[jA]))) (by simp;omega)
  ·rw[decide_eq_false h1] at m2;exact away (H2:=ph) (tT et m2)
theorem tp{m:AM}(h:m σ ph=.ok ws ph1)(hn:lift (iA ws) ph1=.ok (.tup ws) ph1):c6 m σ ph=.ok (.tup ws) ph1:=aB h hn
variable{ni:Nat}{NS:List Nm}
theorem xY{e:EM}{i:Int}(hN:H[ni]? =some (.lst (NS.map aQ)))(h0:NS≠[])(hv:∀{K:PH},ae 3 σ K=.ok (.ref ni) K)(he:e σ H=.ok (.int i) H):∃a,a∈NS/\af ao (ae 3) (af aZ e (bo bG (ah (ae 3) aj))) σ H=.ok (aQ a) H:=by
 have hp:0<NS.length:=List.length_pos_iff.mpr h0;obtain⟨m,hm,em⟩:=eR (a:=i) (n:=(NS.length:Int)) (by omega);obtain⟨a,ha⟩:∃a,NS[m]? =some a:=k0 (by omega);refine⟨a,aaK ha,op hv (md (j:=(NS.length:Int)) he (aB (az hv rfl) ((fq hN).trans (by rw[aag]))) (by omega)) ?_⟩;rw[em];exact gF hN (by rw[gg _ _ (by rw[aag];omega),aak,ha];rfl)
theorem Vp{ti:Nat}(c:Int)(hN:H[ni]? =some (.lst (NS.map aQ)))(h0:NS≠[])(ht:H[ti]? =some (.lst (iw TL)))(hp:p<n) :
  ∃r H',qv [.int c,.int p,.int n,.ref ni,.ref ti] H=.ok (Row.w r) H'/\Ex H H'/\iu NS r/\∀k∈r.to,Gl n p TL k:=by
 obtain⟨d,hd⟩:∃d,d=(c*48271).fmod 2147483647:=⟨_,rfl⟩
 obtain⟨mo,Zg⟩:∃mo,mo=d.fdiv 16:=⟨_,rfl⟩
 obtain⟨s1,uB⟩:∃s1:aI,s1=[some (.int d),some (.int p),some (.int n),some (.ref ni),some (.ref ti),some (.int mo),none,none,none,none,none]:=⟨_,rfl⟩
 obtain⟨a,ha,ea⟩:=xY (e:=ae 5) (σ:=s1) (i:=mo) hN h0 (by rw[uB];intro K;rfl) (by rw[uB];rfl);obtain⟨s2,uC⟩:∃s2:aI,s2=[some (.int d),some (.int p),some (.int n),some (.ref ni),some (.ref ti),some (.int mo),some (aQ a),none,none,none,none]:=⟨_,rfl⟩
 obtain⟨b,hb,eb⟩:=xY (e:=af bx (ae 5) (eC (.int (6)))) (σ:=s2) (i:=mo.fdiv 6) hN h0 (by rw[uC];intro K;rfl) (dv (by rw[uC];rfl) rfl (by decide) (by decide));obtain⟨s3,pQ⟩:∃s3:aI,s3=[some (.int d),some (.int p),some (.int n),some (.ref ni),some (.ref ti),some (.int mo),some (aQ a),some (aQ b),none,none,none]:=⟨_,rfl⟩
 obtain⟨e,he,ee⟩:=xY (e:=af bx (ae 5) (eC (.int (36)))) (σ:=s3) (i:=mo.fdiv 36) hN h0 (by rw[pQ];intro K;rfl) (dv (by rw[pQ];rfl) rfl (by decide) (by decide));obtain⟨σ,bK⟩:∃σ:aI,σ=[some (.int d),some (.int p),some (.int n),some (.ref ni),some (.ref ti),some (.int mo),some (aQ a),some (aQ b),some (aQ e),some (.int (d.fmod 16)),none]:=⟨_,rfl⟩
 have pre:∀{q:SM} {r:Out W},aq (q σ) dX H=r->aq (aF (aX (af aZ (af eE (ae 0) (eC (.int (48271)))) (eC (.int (2147483647)))) (gN 0)) (aF (aX (af bx (ae 0) (eC (.int (16)))) (gN 5)) (aF (aX (af ao (ae 3) (af aZ (ae 5) (bo bG (ah (ae 3) aj)))) (gN 6)) (aF (aX (af ao (ae 3) (af aZ (af bx (ae 5) (eC (.int (6)))) (bo bG (ah (ae 3) aj)))) (gN 7)) (aF (aX (af ao (ae 3) (af aZ (af bx (ae 5) (eC (.int (36)))) (bo bG (ah (ae 3) aj)))) (gN 8)) (aF (aX (af aZ (ae 0) (eC (.int (16)))) (gN 9)) q))))) [some (.int c),some (.int p),some (.int n),some (.ref ni),some (.ref ti),none,none,none,none,none,none]) dX H=r:=fun{q r} h=>by
  refine bq (ph1:=H) (σ1:=[some (.int d),some (.int p),some (.int n),some (.ref ni),some (.ref ti),none,none,none,none,none,none]) (by rw[hd];exact asg (md (ml rfl rfl (DM (by decide) (by decide))) rfl (by decide))) (bq (ph1:=H) (σ1:=s1) (by rw[uB,Zg];exact asg (dv rfl rfl (by decide) (by decide))) (bq (ph1:=H) (σ1:=s2) ((asg ea).trans (by rw[uB,uC];rfl)) (bq (ph1:=H) (σ1:=s3) ((asg eb).trans (by rw[uC,pQ];rfl)) (bq (ph1:=H) (σ1:=s3.set 8 (some (aQ e))) (asg ee) (bq (ph1:=H) (σ1:=σ) ?_ h)))));refine(asg (w:=.int (d.fmod 16)) (ph1:=H) (md (i:=d) (by rw[pQ];rfl) rfl (by decide))).trans ?_;rw[pQ,bK];rfl
 have v1:∀{K:PH},ae 1 σ K=.ok (.int p) K:=by rw[bK];intro K;rfl
 have v2:∀{K:PH},ae 2 σ K=.ok (.int n) K:=by rw[bK];intro K;rfl
 have v4:∀{K:PH},ae 4 σ K=.ok (.ref ti) K:=by rw[bK];intro K;rfl
 have v5:∀{K:PH},ae 5 σ K=.ok (.int mo) K:=by rw[bK];intro K;rfl
 have v6:∀{K:PH},ae 6 σ K=.ok (aQ a) K:=by rw[bK];intro K;rfl
 have v7:∀{K:PH},ae 7 σ K=.ok (aQ b) K:=by rw[bK];intro K;rfl
 have v8:∀{K:PH},ae 8 σ K=.ok (aQ e) K:=by rw[bK];intro K;rfl
 have v9:∀{K:PH},ae 9 σ K=.ok (.int (d.fmod 16)) K:=by rw[bK];intro K;rfl
 have d6:∀{K:PH},af bx (ae 5) (eC (.int (6))) σ K=.ok (.int (mo.fdiv 6)) K:=dv v5 rfl (by decide) (by decide);have qk:=nH d 16 (by decide);have na:∀{x:Nm},x∈[a]->x∈NS:=fun h=>by rw[aar.mp h];exact ha
 have GB:∀{K:PH},K[ti]? =some (.lst (iw TL))->∃(g:Nat) (K':PH),bw kh (ah (af bx (ae 5) (eC (.int (6)))) (ah (ae 1) (ah (ae 2) (ah (ae 4) aj)))) σ K=.ok (.int g) K'/\Ex K K'/\Gl n p TL g:=fun{K} hK=>by
  obtain⟨g,K',e1,x1,hg⟩:=Vo (mo.fdiv 6) hK hp;exact⟨g,K',aB (az d6 (az v1 (az v2 (az v4 rfl)))) e1,x1,hg⟩
 unfold qv km;rw[tQ];by_cases h3:d.fmod 16<3
 ·obtain⟨m,em⟩:∃m:Nat,d.fmod 16=(m:Int):=⟨(d.fmod 16).toNat,by omega⟩
  obtain⟨v,H1,e1,x1,sv⟩:=WE (mo.fdiv 6) H;obtain⟨r,hr,ok,to⟩:∃r:Row,[(Row.set a v).w,(Row.copy a b).w,(Row.tell a).w][m]? =some r.w/\iu NS r/\r.to=[]:=by
   have:m=0\/m=1\/m=2:=by omega
   rcases this with rfl | rfl | rfl
   ·exact⟨.set a v,rfl,⟨fun x h=>na h,fun _ _ z=>by cases z;exact sv⟩,rfl⟩
   ·refine⟨.copy a b,rfl,⟨fun x h=>?_,fun _ _ z=>by cases z⟩,rfl⟩
    rcases aav.mp h with z | z
    ·rw[z];exact ha
    ·rw[aar.mp z];exact hb
   ·exact⟨.tell a,rfl,⟨fun x h=>na h,fun _ _ z=>by cases z⟩,rfl⟩
  refine⟨r,H1++[.lst [(Row.set a v).w,(Row.copy a b).w,(Row.tell a).w]],pre (dG (cF (ltI v9 (decide_eq_true h3)) (retS (oh (ph1:=H1) (i:=(m:Int)) (az (w:=(Row.set a v).w) (ph1:=H1) (tp (az rfl (az v6 (az (aB (az d6 rfl) e1) rfl))) rfl) (az (w:=(Row.copy a b).w) (ph1:=H1) (tp (az rfl (az v6 (az v7 rfl))) rfl) (az (w:=(Row.tell a).w) (ph1:=H1) (tp (az rfl (az v6 rfl)) rfl) rfl))) (abm rfl) (by rw[<- em];exact v9) ?_)))),x1.trans (Ex.one _ _),ok,fun k hk=>by rw[to] at hk;cases hk⟩;rw[gg _ _ (by simp;omega)];exact hr
 by_cases h8:d.fmod 16<8
 ·obtain⟨m,hm,em⟩:=eR (a:=mo.fdiv 216) (n:=6) (by decide);obtain⟨wd,hw⟩:∃wd:Wd,[(.str "sum":W),.str "less",.str "times",.str "part",.str "below",.str "alike"][m]? =some (.str wd.s):=by
   have:m=0\/m=1\/m=2\/m=3\/m=4\/m=5:=by omega
   rcases this with rfl | rfl | rfl | rfl | rfl | rfl
   ·exact⟨.sum,rfl⟩
   ·exact⟨.less,rfl⟩
   ·exact⟨.times,rfl⟩
   ·exact⟨.part,rfl⟩
   ·exact⟨.below,rfl⟩
   ·exact⟨.alike,rfl⟩
  refine⟨.gW a wd b e,H++[PO.lst [.str "sum",.str "less",.str "times",.str "part",.str "below",.str "alike"]],pre (bq (aY (ltI v9 (decide_eq_false h3)) rfl) (dG (cF (ltI v9 (decide_eq_true h8)) (sq (asg (oh (ws:=[.str "sum",.str "less",.str "times",.str "part",.str "below",.str "alike"]) (w:=.str wd.s) (i:=(m:Int)) (ph1:=H) rfl (abm rfl) ?_ ?_)) (retS ?_))))),Ex.one _ _,⟨fun x h=>?_,fun _ _ z=>by cases z⟩,fun k hk=>nomatch hk⟩
  ·rw[<- em];exact md (dv v5 rfl (by decide) (by decide)) rfl (by decide)
  ·rw[gg _ _ (by simp;omega)];exact hw
  ·rw[bK];exact aB (az rfl (az rfl (az rfl (az rfl (az rfl rfl))))) rfl
  ·rcases aav.mp h with z | h
   ·rw[z];exact ha
   rcases aav.mp h with z | h
   ·rw[z];exact hb
   ·rw[aar.mp h];exact he
 by_cases uD:d.fmod 16<10
 ·obtain⟨m,em⟩:∃m:Nat,d.fmod 16-8=(m:Int):=⟨(d.fmod 16-8).toNat,by omega⟩
  obtain⟨r,hr,ok,to⟩:∃r:Row,[(Row.take a).w,Row.turn.w][m]? =some r.w/\iu NS r/\r.to=[]:=by
   have:m=0\/m=1:=by omega
   rcases this with rfl | rfl
   ·exact⟨.take a,rfl,⟨fun x h=>na h,fun _ _ z=>by cases z⟩,rfl⟩
   ·exact⟨.turn,rfl,⟨(fun x h=>nomatch h),fun _ _ z=>by cases z⟩,rfl⟩
  refine⟨r,H++[.lst [(Row.take a).w,Row.turn.w]],pre (bq (aY (ltI v9 (decide_eq_false h3)) rfl) (bq (aY (ltI v9 (decide_eq_false h8)) rfl) (dG (cF (ltI v9 (decide_eq_true uD)) (retS (oh (ph1:=H) (i:=(m:Int)) (az (w:=(Row.take a).w) (ph1:=H) (tp (az rfl (az v6 rfl)) rfl) (az (w:=Row.turn.w) (ph1:=H) rfl rfl)) (abm rfl) (by rw[<- em];exact sb v9 rfl) ?_)))))),Ex.one _ _,ok,fun k hk=>by rw[to] at hk;cases hk⟩;rw[gg _ _ (by simp;omega)];exact hr
 by_cases zu:d.fmod 16<14
 ·obtain⟨g,H1,e1,x1,hg⟩:=GB ht;exact⟨.iff a g,H1,pre (bq (aY (ltI v9 (decide_eq_false h3)) rfl) (bq (aY (ltI v9 (decide_eq_false h8)) rfl) (bq (aY (ltI v9 (decide_eq_false uD)) rfl) (dG (cF (ltI v9 (decide_eq_true zu)) (retS (tp (az rfl (az v6 (az e1 rfl))) rfl))))))),x1,⟨fun x h=>na h,fun _ _ z=>by cases z⟩,fun k hk=>by cases aar.mp hk;exact hg⟩
 by_cases uy:d.fmod 16=14
 ·obtain⟨g,H1,e1,x1,hg⟩:=GB ht;exact⟨.go g,H1,pre (bq (aY (ltI v9 (decide_eq_false h3)) rfl) (bq (aY (ltI v9 (decide_eq_false h8)) rfl) (bq (aY (ltI v9 (decide_eq_false uD)) rfl) (bq (aY (ltI v9 (decide_eq_false zu)) rfl) (dG (cF (eI v9 (decide_eq_true uy)) (retS (tp (az rfl (az e1 rfl)) rfl)))))))),x1,⟨(fun x h=>nomatch h),fun _ _ z=>by cases z⟩,fun k hk=>by cases aar.mp hk;exact hg⟩
 ·obtain⟨m,hm,em⟩:=eR (a:=mo.fdiv 6) (n:=3) (by decide);obtain⟨r,hr,ok,to⟩:∃r:Row,[Row.fin.w,(Row.tell a).w,Row.turn.w][m]? =some r.w/\iu NS r/\r.to=[]:=by
   have:m=0\/m=1\/m=2:=by omega
   rcases this with rfl | rfl | rfl
   ·exact⟨.fin,rfl,⟨(fun x h=>nomatch h),fun _ _ z=>by cases z⟩,rfl⟩
   ·exact⟨.tell a,rfl,⟨fun x h=>na h,fun _ _ z=>by cases z⟩,rfl⟩
   ·exact⟨.turn,rfl,⟨(fun x h=>nomatch h),fun _ _ z=>by cases z⟩,rfl⟩
  refine⟨r,H++[.lst [Row.fin.w,(Row.tell a).w,Row.turn.w]],pre (bq (aY (ltI v9 (decide_eq_false h3)) rfl) (bq (aY (ltI v9 (decide_eq_false h8)) rfl) (bq (aY (ltI v9 (decide_eq_false uD)) rfl) (bq (aY (ltI v9 (decide_eq_false zu)) rfl) (bq (aY (eI v9 (decide_eq_false uy)) rfl) (br (oh (ph1:=H) (i:=(m:Int)) (az (w:=Row.fin.w) (ph1:=H) rfl (az (w:=(Row.tell a).w) (ph1:=H) (tp (az rfl (az v6 rfl)) rfl) (az (w:=Row.turn.w) (ph1:=H) rfl rfl))) (abm rfl) (by rw[<- em];exact md d6 rfl (by decide)) ?_))))))),Ex.one _ _,ok,fun k hk=>by rw[to] at hk;cases hk⟩;rw[gg _ _ (by simp;omega)];exact hr
theorem WK(h:dD cs):ach (tx cs)=true:=by
 unfold ach tx;rw[aeB,abn];intro c hc;have:=(h.ab c hc).2;exact decide_eq_true (by omega)
theorem gL(h:dD cs)(H:PH)(n:Nat):dat H n (aQ cs)=some (.str (tx cs)):=by
 have:(if ach (tx cs)=true then some (afI (tx cs)) else none)=some (.str (tx cs)):=if_pos (WK h);cases n <;> exact this
def Row.d:Row->acN
 | .set a n=>.tuple [.str (aae "set"),.str (tx a),.int n]
 | .copy a b=>.tuple [.str (aae "copy"),.str (tx a),.str (tx b)]
 | .gW a w b c=>.tuple [.str (aae "do"),.str (tx a),.str (aae w.s),.str (tx b),.str (tx c)]
 | .take a=>.tuple [.str (aae "take"),.str (tx a)]
 | .tell a=>.tuple [.str (aae "tell"),.str (tx a)]
 | .turn=>.tuple [.str (aae "turn")]
 | .iff a p=>.tuple [.str (aae "if"),.str (tx a),.int p]
 | .go p=>.tuple [.str (aae "go"),.int p]
 | .fin=>.tuple [.str (aae "end")]
variable{r:Row}
theorem wM(H:PH)(n:Nat)(h:∀a∈r.nm,dD a):dat H (n+1) r.w=some r.d:=by
 cases r with
 | set a m=>exact iU (mc (ik H n "set") (mc (gL (h a (by simp[Row.nm])) H n) (mc (oD ..) rfl)))
 | copy a b=>exact iU (mc (ik H n "copy") (mc (gL (h a (by simp[Row.nm])) H n) (mc (gL (h b (by simp[Row.nm])) H n) rfl)))
 | gW a w b c=>exact iU (mc (ik H n "do") (mc (gL (h a (by simp[Row.nm])) H n) (mc (ik H n w.s) (mc (gL (h b (by simp[Row.nm])) H n) (mc (gL (h c (by simp[Row.nm])) H n) rfl)))))
 | take a=>exact iU (mc (ik H n "take") (mc (gL (h a (by simp[Row.nm])) H n) rfl))
 | tell a=>exact iU (mc (ik H n "tell") (mc (gL (h a (by simp[Row.nm])) H n) rfl))
 | turn=>exact iU (mc (ik H n "turn") rfl)
 | iff a p=>exact iU (mc (ik H n "if") (mc (gL (h a (by simp[Row.nm])) H n) (mc (oD ..) rfl)))
 | go p=>exact iU (mc (ik H n "go") (mc (oD ..) rfl))
 | fin=>exact iU (mc (ik H n "end") rfl)
def Row.eJ:Row->Bool
 | .turn=>true
 | _=>false
theorem QZ(r:Row):aaV r.d Row.turn.d=r.eJ:=by
 cases r <;> simp only[Row.d,Row.eJ,aaV,acJ,Bool.and_false] <;> decide +kernel
theorem Vq(h:r.eJ=true):r=.turn:=by cases r <;> first | rfl | cases h
structure GI(ph H:PH)(NS:List Nm)(n j:Nat)(R:List Row)(TL:List Nat):Prop where
 ex:Ex ph H
 r:H[ph.length]? =some (.lst (R.map Row.w))
 t:H[ph.length+1]? =some (.lst (iw TL))
 len:R.length=j
 tl:TL.length<=j
 pR:∀t∈TL,R[t]? =some .turn
 ok:∀r∈R,iu NS r
 jm:∀(p:Nat) y,R[p]? =some y->∀k∈y.to,(p<k/\k<=n)\/R[k]? =some .turn
abbrev sr(ns:List Int)(n ni p:Nat)(o:Option W):aI:=[some (.fl (ns.map W.int)),some (.int 3),some (.int n),some (.ref ni),some (.ref p),some (.ref (p+1)),o]
variable{R:List Row}
theorem Vr(ns:List Int)(hN:ph[ni]? =some (.lst (NS.map aQ)))(h0:NS≠[])(nk:∀a∈NS,dD a)(G:GI ph H NS n j R TL)(hj:j<n)(hn:n<=60) :
  ∃H' R' zv,pZ (sr ns n ni ph.length (some (.int j))) H=.ok (.nx (sr ns n ni ph.length (some (.int j)))) H'/\GI ph H' NS n (j+1) R' zv:=by
 have hl:=G.len;have Z1:=G.tl;obtain⟨m,hm,em⟩:=eR (a:=(j:Int)) (n:=24) (by decide);obtain⟨r,H1,e1,x1,ok,jm⟩:=Vp (ns.getD (3+(m:Int)).toNat 0+7919*(j:Int)) (G.ex.get hN) h0 G.t hj;obtain⟨H2,uE⟩:∃H2,H2=H1.set ph.length (.lst (R.map Row.w++[r.w])):=⟨_,rfl⟩
 have gr:=x1.get G.r;have gt:=x1.get G.t;have a1:eV (cJ dF dJ (ae 4) (ah (bw qv (ah (af addW (bw eL (ah (ae 0) (ah (af addW (ae 1) (af aZ (ae 6) (eC (.int (24))))) aj))) (af eE (eC (.int (7919))) (ae 6))) (ah (ae 6) (ah (ae 2) (ah (ae 3) (ah (ae 5) aj)))))) aj)) (sr ns n ni ph.length (some (.int j))) H=.ok (.nx (sr ns n ni ph.length (some (.int j)))) H2:=by
  rw[uE];refine uz rfl ⟨_,G.r⟩ (aB (az (ad (cl rfl (ad rfl (md rfl rfl (by decide))) (by rw[em];omega)) (ml rfl rfl (xr (by decide) (by decide)))) (az rfl (az rfl (az rfl (az rfl rfl))))) ?_) gr (by rw[aag];omega);rw[em];exact e1
 have g4:H2[ph.length]? =some (.lst ((R++[r]).map Row.w)):=by rw[uE,iY gr,acH];rfl
 have g5:H2[ph.length+1]? =some (.lst (iw TL)):=by rw[uE];exact(iX (by omega)).trans gt
 have nr:∀a∈r.nm,dD a:=fun a ha=>nk a (ok.1 a ha)
 have fI:eT (af bA (af ao (ae 4) (jg iB (eC (.int (1))))) (c6 (ah (eC (.str "turn")) aj))) (sr ns n ni ph.length (some (.int j))) H2=.ok r.eJ H2:=by
  refine tB (op (x:=r.w) (y:=Row.turn.w) (op (x:=.ref ph.length) (y:=.int (-1)) rfl rfl (gF g4 ?_)) rfl (Ew ?_))
  ·unfold ck fD;rw[if_neg (by omega),if_pos (by simp;omega)];have:((-1:Int)+(((R++[r]).map Row.w).length:Nat)).toNat=R.length:=by simp;omega
   simp only[abe,this];rw[aak,acd];rfl
  ·unfold dR;rw[wM H2 39 nr,wM H2 39 (r:=.turn) (fun a ha=>nomatch ha)];simp only[QZ]
 have Fp:Ex ph H2:=by rw[uE];exact Ex.set (G.ex.trans x1) (aaj _) _
 have pR:∀t∈TL,(R++[r])[t]? =some .turn:=fun t ht=>by
  have:=G.pR t ht;rw[aaU (aac.mp this).1];exact this
 have uF:∀y∈R++[r],iu NS y:=fun y hy=>by
  rcases abt.mp hy with z | z
  ·exact G.ok y z
  ·rw[aar.mp z];exact ok
 have GC:∀(p:Nat) y,(R++[r])[p]? =some y->∀k∈y.to,(p<k/\k<=n)\/(R++[r])[k]? =some .turn:=fun p y hy k hk=>by
  rcases DO hy with⟨hp,z⟩ | ⟨z0,z⟩
  ·rcases G.jm p y z k hk with q | q
   ·exact .inl q
   ·refine .inr ?_;rw[aaU (aac.mp q).1];exact q
  ·subst z
   rcases jm k hk with q | q
   ·exact .inl ⟨by omega,q.2⟩
   ·exact .inr (pR k q)
 unfold pZ;cases ht:r.eJ with
 | false=>
  rw[ht] at fI;exact⟨H2,R++[r],TL,sq a1 (aY fI rfl),Fp,g4,g5,by rw[aaI,hl];rfl,by omega,pR,uF,GC⟩
 | true=>
  rw[ht] at fI;refine⟨H2.set (ph.length+1) (.lst (iw TL++[.int j])),R++[r],TL++[j],sq a1 (cF fI (uz rfl ⟨_,g5⟩ rfl g5 (by rw[jA];omega))),Ex.set Fp (by omega) _,(iX (by omega)).trans g4,(iY g5).trans (by rw[xt];rfl),by rw[aaI,hl];rfl,by simp;omega,fun t h=>?_,uF,GC⟩
  rcases abt.mp h with z | z
  ·exact pR t z
  ·rw[aar.mp z,<- hl,acd,Vq ht]
structure iC(NS:List Nm)(R:List Row):Prop where
 ok:∀r∈R,iu NS r
 jm:∀(p:Nat) y,R[p]? =some y->∀k∈y.to,k<=R.length/\(k<=p->R[k]? =some .turn)
theorem Vs(ns:List Int)(hN:ph[ni]? =some (.lst (NS.map aQ)))(h0:NS≠[])(nk:∀a∈NS,dD a)(hn:n<=60) :
  ∃R H',u6 [.fl (ns.map W.int),.int 3,.int n,.ref ni] ph=.ok (.ref ph.length) H'/\Ex ph H'/\H'[ph.length]? =some (.lst (R.map Row.w))/\R.length=n/\iC NS R:=by
 obtain⟨H0,eH⟩:∃H0,H0=ph++[PO.lst []]++[PO.lst []]:=⟨_,rfl⟩
 have G0:GI ph H0 NS n 0 [] []:=by
  subst eH;refine⟨(Ex.one _ _).trans (Ex.one _ _),(Ex.one _ _).get (bV _ _),?_,rfl,aaj _,fun _ h=>(nomatch h),fun _ h=>(nomatch h),fun p y h=>by simp at h⟩;have:=bV (ph++[PO.lst []]) (PO.lst []);rw[aaI] at this;exact this
 obtain⟨aC,H',e,R,TL,⟨o,rfl⟩,G⟩:=iQ (chk:=fun _=>true) (g:=gN 6) (b:=pZ) (fun j σ H=>∃R TL,(∃o,σ=sr ns n ni ph.length o)/\GI ph H NS n j R TL)
  (fw 0 n) (sr ns n ni ph.length none) H0 (fun _ _ _ _=>rfl) (fun j x σ H hj hI=>by
   obtain⟨R,TL,⟨o,rfl⟩,G⟩:=hI;obtain⟨Zh,rfl⟩:=vY hj;rw[afL];obtain⟨H',R',zv,e1,G'⟩:=Vr ns hN h0 nk G Zh hn;exact⟨_,_,rfl,_,_,e1,_,.inl rfl,R',zv,⟨_,rfl⟩,G'⟩) ⟨[],[],⟨none,rfl⟩,G0⟩
 rw[vZ] at G;refine⟨R,H',?_,G.ex,G.r,G.len,G.ok,fun p y hy k hk=>?_⟩
 ·unfold u6 ki;rw[oU];refine bq (ph1:=ph++[.lst []]) (σ1:=[some (.fl (ns.map W.int)),some (.int 3),some (.int n),some (.ref ni),some (.ref ph.length),none,none]) rfl (bq (ph1:=H0) (σ1:=sr ns n ni ph.length none) ?_ (bq (ij (rR (j:=(n:Int)) rfl (by omega) (by omega)) e) (br rfl)));refine(asg (w:=.ref (ph.length+1)) (ph1:=H0) ?_).trans rfl;rw[eH];show Out.ok (W.ref (ph++[PO.lst []]).length) _=_;rw[aaI];rfl
 ·have hl:=G.len
  rcases G.jm p y hy k hk with q | q
  ·exact⟨by omega,fun z=>by omega⟩
  ·exact⟨ado (aac.mp q).1,fun _=>q⟩
theorem Vt:∀m:Fin 26,(!(abT (aae "abcdefghijklmnopqrstuvwxyz") (sg (97+m.1)) 0 (aae "abcdefghijklmnopqrstuvwxyz").length 1).isEmpty)=true:=nofun
theorem Vu{c:Nat}(h:Ab c)(H:PH):lift (m7 (cK c) (.str "abcdefghijklmnopqrstuvwxyz")) H=.ok (.bl true) H:=by
 have:=Vt ⟨c-97,by have:=h.1;have:=h.2;omega⟩;rw[show 97+(c-97)=c by have:=h.1;omega] at this;show Out.ok (W.bl (!(abT _ (sg c) 0 _ 1).isEmpty)) H=_;rw[this]
theorem hW{a:TM}(h:a σ ph=.ok c ph1):eU a σ ph=.ok (!c) ph1:=aB h rfl
theorem eB{e:EM}(h:e σ ph=.ok (.bl c) ph1):eX e σ ph=.ok c ph1:=aB h rfl
theorem oF{a b:TM}{r:Out Bool}(h:a σ ph=.ok false ph1)(h2:b σ ph1=r):er a b σ ph=r:=aB h h2
theorem EB{l:List α}(h:H[i]? =some (.lst (l.map fun _=>W.bl true))):lift (k7 [.ref i]) H=.ok (.bl true) H:=by
 have e:(l.map fun _=>W.bl true)=(l.map fun _=>true).map W.bl:=by rw[adw];rfl
 rw[e] at h;rw[Sb h]
 congr 2
 rw[abn];intro x hx;obtain⟨_,_,rfl⟩:=acY.mp hx;rfl
theorem rN{f f':W->W->Po W}{c:EM}{x y u:W}{k:Bool}(ha:a σ ph=.ok x ph)(hb:b σ ph=.ok y ph)(h1:lift (f x y) ph=.ok (.bl true) ph)(hc:c σ ph=.ok u ph)(h2:lift (f' y u) ph=.ok (.bl k) ph):gG f f' a b c σ ph=.ok (.bl k) ph:=
 aB ha (aB hb (aB h1 (aB hc h2)))
theorem Qf(h:dD cs)(H:PH):∃H',vH [aQ cs] H=.ok (.bl true) H'/\Ex H H':=by
 have X0:=h.lo;have Zi:=h.hi;have hsz:(tx cs).length=cs.length:=by show cs.toArray.size=_;simp
 have bU:lift (bG [aQ cs]) H=.ok (.int cs.length) H:=by
  have e:bG [aQ cs] H=some (.int cs.length,H):=by
   unfold bG aQ;simp only[];rw[hsz,if_pos (abl Zi (by decide))]
  unfold lift;rw[e]
 have XG:(tx cs).cps.all (· <128)=true:=by
  unfold tx;rw[aeB,abn];intro c hc;have:=(h.ab c hc).2;exact decide_eq_true (by omega)
 have lw:oX (ae 0) [some (aQ cs)] H=.ok (cs.map cK,fun _=>true) H:=by
  refine aB (a:=aQ cs) (ph':=H) rfl ?_;have e:tU (aQ cs) H=some ((cs.map cK,fun _=>true),H):=by
   unfold tU aQ;simp only[];rw[if_pos XG];unfold tR tx;simp only[];rfl
  unfold lift;rw[e]
 obtain⟨H1,e1,x1⟩:=rm cs cK (im:=oX (ae 0)) (cap:=[none]) (g:=gN 0) (c:=dN) (e:=af m7 (ae 0) (eC (.str "abcdefghijklmnopqrstuvwxyz"))) lw (fun _ _=>rfl) (small (by omega)) (fun _=>some (.bl true)) (fun σ=>∃o,σ=[o]) ⟨none,rfl⟩
  (fun c hc σ K hS _=>by
   obtain⟨o,rfl⟩:=hS;exact⟨_,rfl,⟨_,rfl⟩,true,K,rfl,Ex.refl _,.inr ⟨rfl,_,K,op rfl rfl (Vu (h.ab c hc) K),Ex.refl _,rfl⟩⟩)
 rw[rH] at x1;refine⟨H1,?_,(Ex.one _ _).trans x1⟩;unfold vH kx;rw[gn];refine bq (ph1:=H) (aY (oF (hW (eB (c:=true) (aB (a:=aQ cs) (ph':=H) rfl rfl))) (hW (c:=true) (tB ?_))) rfl) (br (aB (az e1 rfl) (EB (x1.get (bV _ _)))));refine rN rfl (aB (az (w:=aQ cs) rfl rfl) bU) ?_ rfl ?_
 ·show Out.ok (W.bl (decide ((1:Int)<=(cs.length:Int)))) H=_;rw[decide_eq_true (by omega)]
 ·show Out.ok (W.bl (decide ((cs.length:Int)<=6))) H=_;rw[decide_eq_true (by omega)]
theorem B6{n:Int}(h:pN n)(H:PH):qC [.int n] H=.ok (.bl true) H:=by
 obtain⟨h1,h2⟩:=h;unfold qC jr;rw[gn];refine bq (ph1:=H) (aY (oF (hW (eB (c:=true) rfl)) (eB (c:=false) rfl)) rfl) (br (rN rfl rfl ?_ rfl ?_))
 ·show Out.ok (W.bl (decide (-2147483648<=n))) H=_;rw[decide_eq_true h1]
 ·show Out.ok (W.bl (decide (n<2147483648))) H=_;rw[decide_eq_true (by omega)]
theorem zw{r:Out W}(ha:a σ ph=.ok (.bl true) ph)(hb:b σ ph=r):k6 a b σ ph=r:=aB ha (aB rfl hb)
theorem Qg(w:Wd)(H:PH):vI [.str w.s] H=.ok (.bl true) H:=by
 unfold vI ky;rw[gn];refine br (zw rfl (op rfl rfl ?_));have e:m5 (.str w.s) (.kt (ju.map W.str)) H=some (.bl true,H):=by
  unfold m5;simp only[iR strOf W.str id (fun _=>rfl),List.map_id_fun,id,aaM];rw[decide_eq_true];cases w <;> unfold ju Wd.s <;> decide +kernel
 unfold lift;rw[e]
theorem OW(h:k<=n)(hn:n<=60)(H:PH):vA [.int k,.int n] H=.ok (.bl true) H:=by
 unfold vA kr;rw[jQ];refine br (zw (aB (az rfl rfl) (B6 ⟨by omega,by omega⟩ H)) (rN rfl rfl ?_ rfl ?_))
 ·show Out.ok (W.bl (decide ((0:Int)<=(k:Int)))) H=_;rw[decide_eq_true (by omega)]
 ·show Out.ok (W.bl (decide ((k:Int)<=(n:Int)))) H=_;rw[decide_eq_true (by omega)]
def Row.ks:Row->List (String×W)
 | .set a n=>[("name",aQ a),("number",.int n)]
 | .copy a b=>[("name",aQ a),("name",aQ b)]
 | .gW a w b c=>[("name",aQ a),("word",.str w.s),("name",aQ b),("name",aQ c)]
 | .take a=>[("name",aQ a)]
 | .tell a=>[("name",aQ a)]
 | .turn=>[]
 | .iff a p=>[("name",aQ a),("place",.int p)]
 | .go p=>[("place",.int p)]
 | .fin=>[]
def Row.x:Row->String
 | .set _ _=>"set"
 | .copy _ _=>"copy"
 | .gW _ _ _ _=>"do"
 | .take _=>"take"
 | .tell _=>"tell"
 | .turn=>"turn"
 | .iff _ _=>"if"
 | .go _=>"go"
 | .fin=>"end"
theorem sS(r:Row):r.w=.tup (.str r.x::r.ks.map (·.2)):=by cases r <;> rfl
theorem Q0:dO "set" cX=some (["name","number"]:List Str):=nofun
theorem Qh:dO "copy" cX=some (["name","name"]:List Str):=nofun
theorem SU:dO "do" cX=some (["name","word","name","name"]:List Str):=nofun
theorem Qi:dO "take" cX=some (["name"]:List Str):=nofun
theorem Qj:dO "tell" cX=some (["name"]:List Str):=nofun
theorem Qk:dO "turn" cX=some []:=nofun
theorem SV:dO "if" cX=some (["name","place"]:List Str):=nofun
theorem SW:dO "go" cX=some (["place"]:List Str):=nofun
theorem Q1:dO "end" cX=some []:=nofun
theorem B7(r:Row):dO (aae r.x) cX=some (r.ks.map fun p=>aae p.1):=by
 cases r with
 | set a n=>exact Q0
 | copy a b=>exact Qh
 | gW a w b c=>exact SU
 | take a=>exact Qi
 | tell a=>exact Qj
 | turn=>exact Qk
 | iff a p=>exact SV
 | go p=>exact SW
 | fin=>exact Q1
theorem B8(r:Row){e:EM}(h:e σ H=.ok (.str r.x) H):sN cX e σ H=.ok (.kt (r.ks.map fun p=>W.str (aae p.1))) H:=by
 refine aB h ?_;have e:sM cX (.str r.x) H=some (.kt (r.ks.map fun p=>W.str (aae p.1)),H):=by
  unfold sM;simp only[B7,aaM,adw];rfl
 unfold lift;rw[e]
theorem rO{e:EM}{a:W}{l:List W}(h:e σ H=.ok (.tup (a::l)) H):cR e (cE (eC (.int (1)))) dA σ H=.ok (.tup l) H:=by
 rw[rT];refine aB h (aB (a:=some 1) (ph':=H) rfl (aB (a:=none) (ph':=H) rfl ?_));have e:hU (.tup (a::l)) (some 1) none H=some (.tup l,H):=by
  unfold hU;have c1:HT.aV (a::l).length 0 (some 1)=1:=by
   unfold HT.aV;simp
  have c2:fS (a::l) (some 1) none=l:=by
   unfold fS;rw[c1];unfold HT.aV;simp
  simp only[c1,c2];rw[if_neg (fun z=>absurd z.1 (by decide))]
 unfold lift;rw[e]
def pS(p:String×W):W:=.tup [.str p.1,p.2]
theorem Vv(l:List (String×W)):cq (l.map fun p=>W.str (aae p.1)) (l.map (·.2))=l.map pS:=by
 induction l with
 | nil=>rfl
 | cons p l ih=>
  unfold cq at ih ⊢;rw[aaB,aaB,List.zip_cons_cons,aaB,ih];rfl
theorem C0(r:Row)(ha:a σ H=.ok (.kt (r.ks.map fun p=>W.str (aae p.1))) H)(hb:b σ H=.ok (.tup (r.ks.map (·.2))) H):oE (ah a (ah b aj)) σ H=.ok (r.ks.map pS,fun _=>true) H:=by
 refine aB (az ha (az hb rfl)) ?_;have e:sG [.kt (r.ks.map fun p=>W.str (aae p.1)),.tup (r.ks.map (·.2))] H=some ((r.ks.map pS,fun _=>true),H):=by
  unfold sG;simp only[sF,Vv]
 unfold lift;rw[e]
theorem Vw(nk:∀a∈NS,dD a)(ok:iu NS r)(hp:∀k∈r.to,k<=n)(hn:n<=60){p:String×W}(h:p∈r.ks)(H:PH):∃H',iP [.str p.1,p.2,.int n] H=.ok (.bl true) H'/\Ex H H':=by
 have nm:∀{a:Nm},a∈r.nm->∃H',iP [.str "name",aQ a,.int n] H=.ok (.bl true) H'/\Ex H H':=fun{a} ha=>by
  obtain⟨H',e,x⟩:=Qf (nk a (ok.1 a ha)) H;refine⟨H',?_,x⟩;unfold iP ie;rw[jR];exact dG (cF (wv "name" rfl rfl) (retS (aB (az rfl rfl) e)))
 have pl:∀{k:Nat},k∈r.to->∃H',iP [.str "place",.int k,.int n] H=.ok (.bl true) H'/\Ex H H':=fun{k} hk=>by
  refine⟨H,?_,Ex.refl _⟩;unfold iP ie;rw[jR];exact bq (aY (wv "place" rfl rfl) rfl) (bq (aY (wv "place" rfl rfl) rfl) (bq (aY (wv "place" rfl rfl) rfl) (br (aB (az rfl (az rfl rfl)) (OW (hp k hk) hn H)))))
 cases r with
 | set a m=>
  rcases aav.mp h with rfl | h
  ·exact nm (by simp[Row.nm])
  ·cases aar.mp h;refine⟨H,?_,Ex.refl _⟩;unfold iP ie;rw[jR];exact bq (aY (wv "number" rfl rfl) rfl) (dG (cF (wv "number" rfl rfl) (retS (aB (az rfl rfl) (B6 (ok.2 a m rfl) H)))))
 | copy a b=>
  rcases aav.mp h with rfl | h
  ·exact nm (by simp[Row.nm])
  ·cases aar.mp h;exact nm (by simp[Row.nm])
 | gW a w b c=>
  rcases aav.mp h with rfl | h
  ·exact nm (by simp[Row.nm])
  rcases aav.mp h with rfl | h
  ·refine⟨H,?_,Ex.refl _⟩;unfold iP ie;rw[jR];exact bq (aY (wv "word" rfl rfl) rfl) (bq (aY (wv "word" rfl rfl) rfl) (dG (cF (wv "word" rfl rfl) (retS (aB (az rfl rfl) (Qg w H))))))
  rcases aav.mp h with rfl | h
  ·exact nm (by simp[Row.nm])
  ·cases aar.mp h;exact nm (by simp[Row.nm])
 | take a=>
  cases aar.mp h;exact nm (by simp[Row.nm])
 | tell a=>
  cases aar.mp h;exact nm (by simp[Row.nm])
 | turn=>cases h
 | iff a p=>
  rcases aav.mp h with rfl | h
  ·exact nm (by simp[Row.nm])
  ·cases aar.mp h;exact pl (by simp[Row.to])
 | go p=>
  cases aar.mp h;exact pl (by simp[Row.to])
 | fin=>cases h
theorem oJ{e:EM}(h:e σ H=.ok r.w H):af ao e (eC (.int (0))) σ H=.ok (.str r.x) H:=by
 rw[sS] at h;exact op h rfl (by rw[xO,xK];rfl)
theorem DS(r:Row):r.ks.length<=4:=by cases r <;> exact abm rfl
theorem Q2(nk:∀a∈NS,dD a)(ok:iu NS r)(hp:∀k∈r.to,k<=n)(hn:n<=60)(H:PH):∃H',wj [r.w,.int n] H=.ok (.bl true) H'/\Ex H H':=by
 have hk:=DS r;obtain⟨σ,bK⟩:∃σ:aI,σ=[some r.w,some (.int n),some (.kt (r.ks.map fun p=>W.str (aae p.1)))]:=⟨_,rfl⟩
 have hs:cR (ae 0) (cE (eC (.int (1)))) dA σ H=.ok (.tup (r.ks.map (·.2))) H:=rO (a:=.str r.x) (by rw[bK,<- sS];rfl);obtain⟨H1,e1,x1⟩:=rm r.ks pS (cap:=[none,none,some 1]) (g:=eD 2 [(gN 0),(gN 1)]) (c:=dN) (e:=bw iP (ah (ae 0) (ah (ae 1) (ah (ae 2) aj)))) (C0 r (a:=ae 2) (b:=cR (ae 0) (cE (eC (.int (1)))) dA) (σ:=σ) (by rw[bK];rfl) hs) (fun _ _=>rfl) (small (by omega)) (fun _=>some (.bl true)) (fun σ=>∃o o',σ=[o,o',some (.int n)]) ⟨none,none,by rw[bK];rfl⟩
  (fun p ls σ K hS _=>by
   obtain⟨o,o',rfl⟩:=hS;obtain⟨K',e2,x2⟩:=Vw nk ok hp hn ls K;exact⟨_,rfl,⟨_,_,rfl⟩,true,K,rfl,Ex.refl _,.inr ⟨rfl,_,K',aB (az rfl (az rfl (az rfl rfl))) e2,x2,rfl⟩⟩)
 rw[rH] at x1;refine⟨H1,?_,(Ex.one _ _).trans x1⟩;have hw:=sS r;have l0:bo bG (ah (ae 0) aj) [some r.w,some (.int n),none] H=.ok (.int ((r.ks.length+1:Nat):Int)) H:=by
  rw[hw];refine aB (az rfl rfl) ?_;show Out.ok (W.int (((W.str r.x::r.ks.map (·.2)).length:Nat):Int)) H=_;rw[abE,aag]
 have l1:bo bG (ah (ae 0) aj) σ H=.ok (.int ((r.ks.length+1:Nat):Int)) H:=by
  rw[bK,hw];refine aB (az rfl rfl) ?_;show Out.ok (W.int (((W.str r.x::r.ks.map (·.2)).length:Nat):Int)) H=_;rw[abE,aag]
 have r0:af ao (ae 0) (eC (.int (0))) [some r.w,some (.int n),none] H=.ok (.str r.x) H:=oJ rfl;unfold wj kC;rw[jQ];refine bq (ph1:=H) (aY (oF (hW (eB (c:=true) ?_)) (eI l0 (decide_eq_false (by omega)))) rfl) (bq (ph1:=H) (aY (oF (hW (eB (c:=true) (aB r0 rfl))) (tB (aB r0 ?_))) rfl) (bq (ph1:=H) (σ1:=σ) ((asg (B8 r r0)).trans (by rw[bK];rfl)) (bq (ph1:=H) (aY (tB (op (f:=dg) (ph2:=H) l1 (ad (i:=(r.ks.length:Int)) (j:=1) ?_ rfl) ?_)) rfl) (br (aB (az e1 rfl) (EB (x1.get (bV _ _))))))))
 ·rw[hw];rfl
 ·have e:mZ (fun b=> !b) cX (.str r.x) H=some (.bl false,H):=by
   unfold mZ;simp only[B7];rfl
  unfold lift;rw[e]
 ·rw[bK];refine aB (az rfl rfl) ?_;show Out.ok (W.int (((r.ks.map fun p=>W.str (aae p.1)).length:Nat):Int)) H=_;rw[aag]
 ·rw[mF,decide_eq_true (by omega)];rfl
theorem Bt{α β:Type}(c:α->Bool)(f:α->β):∀l:List α,l.filterMap (fun a=>if c a=true then some (f a) else none)=(l.filter c).map f
 | []=>rfl
 | a::l=>by
  rw[acv,List.filter_cons,Bt c f l];cases c a <;> rfl
theorem C1(r:Row)(k:String)(H:PH):∃H',kc [r.w,.str k] H=.ok (.ref H.length) H'/\Ex (H++[.lst ((r.ks.filter fun p=>decide (p.1=k)).map (·.2))]) H':=by
 have hk:=DS r;have r0:af ao (ae 0) (eC (.int (0))) [some r.w,some (.str k)] H=.ok (.str r.x) H:=oJ rfl;have hs:cR (ae 0) (cE (eC (.int (1)))) dA [some r.w,some (.str k)] H=.ok (.tup (r.ks.map (·.2))) H:=rO (a:=.str r.x) (by rw[<- sS];rfl);obtain⟨H1,e1,x1⟩:=rm r.ks pS (cap:=[none,none,some 1]) (g:=eD 2 [(gN 0),(gN 1)]) (c:=eT (af bA (ae 0) (ae 2))) (e:=ae 1) (C0 r (B8 r r0) hs) (fun _ _=>rfl) (small (by omega)) (fun p=>if decide (p.1=k)=true then some p.2 else none) (fun σ=>∃o o',σ=[o,o',some (.str k)]) ⟨none,none,rfl⟩
  (fun p ls σ K hS _=>by
   obtain⟨o,o',rfl⟩:=hS;refine⟨_,rfl,⟨_,_,rfl⟩,decide (p.1=k),K,tB (op (x:=.str p.1) (y:=.str k) rfl rfl (by rw[sE];rfl)),Ex.refl _,?_⟩;cases decide (p.1=k) with
   | false=>exact .inl ⟨rfl,rfl⟩
   | true=>exact .inr ⟨rfl,_,K,rfl,Ex.refl _,rfl⟩)
 rw[Bt (fun p:String×W=>decide (p.1=k))] at x1;refine⟨H1,?_,x1⟩;unfold kc iN;rw[jQ];exact br e1
theorem Q3(r:Row):(r.ks.filter fun p=>decide (p.1="place")).map (·.2)=iw r.to:=by cases r <;> simp[Row.ks,Row.to,iw]
theorem SX(r:Row):(r.ks.filter fun p=>decide (p.1="name")).map (·.2)=r.nm.map aQ:=by cases r <;> simp[Row.ks,Row.nm]
theorem C2(r:Row){e:EM}(h:e σ H=.ok r.w H):∃H',fO (bw kc (ah e (ah (eC (.str "place")) aj))) σ H=.ok (iw r.to,fun p=>decide (p[H.length]? =some (.lst (iw r.to)))) H'/\Ex H H'/\H'[H.length]? =some (.lst (iw r.to)):=by
 obtain⟨H',e1,x1⟩:=C1 r "place" H;rw[Q3] at x1;have g:=x1.get (bV _ _);exact⟨H',qR (aB (az h (az rfl rfl)) e1) g,(Ex.one _ _).trans x1,g⟩
theorem Vx(r:Row){e:EM}(h:e σ H=.ok r.w H):∃H',fO (bw kc (ah e (ah (eC (.str "name")) aj))) σ H=.ok (r.nm.map aQ,fun p=>decide (p[H.length]? =some (.lst (r.nm.map aQ)))) H'/\Ex H H'/\H'[H.length]? =some (.lst (r.nm.map aQ)):=by
 obtain⟨H',e1,x1⟩:=C1 r "name" H;rw[SX] at x1;have g:=x1.get (bV _ _);exact⟨H',qR (aB (az h (az rfl rfl)) e1) g,(Ex.one _ _).trans x1,g⟩
theorem sT(h:R[k]? =some r):ck (R.map Row.w) (k:Int)=some r.w:=by
 rw[gg _ _ (by rw[aag];exact(aac.mp h).1),aak,h];rfl
variable{ri:Nat}
theorem SY(hR:H[ri]? =some (.lst (R.map Row.w)))(hp:R[p]? =some r)(jm:∀k∈r.to,k<=R.length/\(k<=p->R[k]? =some .turn)):∃H',uR [.ref ri,.int p] H=.ok (.bl false) H'/\Ex H H':=by
 obtain⟨H1,e1,x1,g1⟩:=C2 r (e:=af ao (ae 0) (ae 1)) (σ:=[some (.ref ri),some (.int p),none]) (H:=H) (op rfl rfl (gF hR (sT hp)));obtain⟨aC,H2,e2,⟨o,rfl⟩,x2⟩:=iQ (chk:=fun p=>decide (p[H.length]? =some (.lst (iw r.to)))) (g:=gN 2) (b:=uM) (fun _ σ K=>(∃o,σ=[some (.ref ri),some (.int p),o])/\Ex H1 K) (iw r.to) [some (.ref ri),some (.int p),none] H1
  (fun _ _ _ h=>decide_eq_true (h.2.get g1)) (fun j x σ K hj hI=>by
   obtain⟨⟨o,rfl⟩,y⟩:=hI;obtain⟨k,hk,rfl⟩:=DN hj;obtain⟨k1,k2⟩:=jm k (aaK hk);refine⟨_,_,rfl,?_⟩;unfold uM;refine⟨_,K,aY ?_ rfl,_,.inl rfl,⟨_,rfl⟩,y⟩;by_cases h:k<=p
   ·have hw:af ao (ae 0) (ae 2) [some (.ref ri),some (.int p),some (.int k)] K=.ok Row.turn.w K:=op rfl rfl (gF (y.get (x1.get hR)) (sT (k2 h)));refine tT (tB (op rfl rfl ?_)) (tB (op (oJ hw) rfl ?_))
    ·rw[oV,decide_eq_true (by omega)];rfl
    ·show lift (dg (.str (aae "turn")) (.str (aae "turn"))) K=_;rw[xJ];rfl
   ·refine tF (tB (op rfl rfl ?_));rw[oV,decide_eq_false (by omega)];rfl) ⟨⟨none,rfl⟩,Ex.refl _⟩
 refine⟨H2,?_,x1.trans x2⟩;unfold uR j9;rw[jQ];exact bq (ij e1 e2) (br rfl)
theorem Vy{a b:List Nat}(h:tx a=tx b):a=b:=by
 unfold tx at h;injection h with h
 simpa using h
theorem Vz{MS:List Nm}{a:Nm}(h:H[i]? =some (.lst (MS.map aQ)))(nk:∀b∈MS,dD b)(na:dD a):lift (jb (aQ a) (.ref i)) H=.ok (.bl (!decide (a∈MS))) H:=by
 have e:a9 (dat H 40) (MS.map aQ)=some (MS.map fun b=>afI (tx b)):=by
  clear h
  induction MS with
  | nil=>rfl
  | cons b MS ih=>exact mc (gL (nk b (by simp)) H 40) (ih fun c hc=>nk c (aaN _ hc))
 rw[QJ h e (gL na H 40),afK]
 congr 3
 rw[adK,adx,decide_eq_true_eq];constructor
 ·rintro⟨b,hb,q⟩;simp only[afy,xM,decide_eq_true_eq] at q;exact Vy q▸hb
 ·intro hk;exact⟨a,hk,by simp only[afy,xM,decide_true]⟩
theorem ms{α:Type}[DecidableEq α]:∀{M N:List α},M.Nodup->(∀a∈M,a∈N)->M.length<=N.length
 | [],_,_,_=>abB _
 | a::M,N,nd,h=>by
  have ha:=h a aby;have nA:=abW.mp nd;have:=ms (N:=N.erase a) nA.2 fun b hb=>(List.mem_erase_of_ne (fun z:b=a=>nA.1 (z▸hb))).mpr (h b (aaN _ hb))
  rw[List.length_erase_of_mem ha] at this;have:0<N.length:=List.length_pos_of_mem ha;rw[abE];omega
theorem VA{MS:List Nm}(hM:H[ni]? =some (.lst (MS.map aQ)))(nd:MS.Nodup)(sb:∀a∈MS,a∈NS)(nk:∀a∈NS,dD a)(hN:NS.length<=12)(ok:iu NS r) :
  ∃(ei:List Nm) (i:Nat) (H':PH),uY [r.w,.ref ni] H=.ok (.ref i) H'/\Ex H H'/\H'[i]? =some (.lst (ei.map aQ))/\ei.Nodup/\∀a∈ei,a∈NS:=by
 obtain⟨H1,gB⟩:∃H1,H1=H++[PO.lst (MS.map aQ)]:=⟨_,rfl⟩
 have x1:Ex H H1:=gB▸Ex.one _ _;have g1:H1[H.length]? =some (.lst (MS.map aQ)):=by rw[gB];exact bV _ _
 obtain⟨H2,e2,x2,g2⟩:=Vx r (e:=ae 0) (σ:=[some r.w,some (.ref ni),some (.ref H.length),none]) (H:=H1) rfl;have cu:H1.length=H.length+1:=by rw[gB];simp
 obtain⟨aC,H3,e3,ei,⟨o,rfl⟩,x3,g3,uG,uH,_⟩:=iQ (chk:=fun p=>decide (p[H1.length]? =some (.lst (r.nm.map aQ)))) (g:=gN 3) (b:=uS) (fun _ σ K=>∃ei:List Nm,(∃o,σ=[some r.w,some (.ref ni),some (.ref H.length),o])/\Ex H K/\K[H.length]? =some (.lst (ei.map aQ))/\ei.Nodup/\(∀a∈ei,a∈NS)/\K[H1.length]? =some (.lst (r.nm.map aQ))) (r.nm.map aQ) [some r.w,some (.ref ni),some (.ref H.length),none] H2
  (fun _ _ _ h=>by obtain⟨_,_,_,_,_,_,q⟩:=h;exact decide_eq_true q) (fun j x σ K hj hI=>by
   obtain⟨ei,⟨o,rfl⟩,y,gm,nA,uI,gk⟩:=hI;rw[aak] at hj;obtain⟨a,ha,rfl⟩:=aap.mp hj;have GD:=ok.1 a (aaK ha);have hl:=ms nA uI;refine⟨_,_,rfl,?_⟩;unfold uS;have fI:eT (af jb (ae 3) (ae 2)) [some r.w,some (.ref ni),some (.ref H.length),some (aQ a)] K=.ok (!decide (a∈ei)) K:=tB (op rfl rfl (Vz gm (fun b hb=>nk b (uI b hb)) (nk a GD)));by_cases h:a∈ei
   ·rw[decide_eq_true h] at fI;exact⟨_,K,aY fI rfl,_,.inl rfl,ei,⟨_,rfl⟩,y,gm,nA,uI,gk⟩
   ·rw[decide_eq_false h] at fI;refine⟨_,_,cF fI (uz rfl ⟨_,gm⟩ rfl gm (by rw[aag];omega)),_,.inl rfl,ei++[a],⟨_,rfl⟩,Ex.set y (aaj _) _,(iY gm).trans (by rw[acH];rfl),?_,fun b hb=>?_,(iX (by omega)).trans gk⟩
    ·rw[aeo];refine⟨nA,abW.mpr ⟨fun z=>(nomatch z),acO⟩,fun b hb c hc z=>?_⟩;rw[aar] at hc;exact h (hc▸z▸hb)
    ·rcases abt.mp hb with z | z
     ·exact uI b z
     ·rw[aar.mp z];exact GD) ⟨MS,⟨none,rfl⟩,x1.trans x2,x2.get g1,nd,sb,g2⟩
 refine⟨ei,H.length,H3,?_,x3,g3,uG,uH⟩;unfold uY ke;rw[jQ];refine bq (ph1:=H1) (σ1:=[some r.w,some (.ref ni),some (.ref H.length),none]) ?_ (bq (ij e2 e3) (br rfl));rw[gB];exact asg (aB (az rfl rfl) (vK hM))
theorem GF(R:List Row):∀{j:Nat} {w:W},(d5 (R.map Row.w))[j]? =some w->∃r,R[j]? =some r/\w=.tup [.int j,r.w]:=by
 intro j w h;obtain⟨x,h1,h2⟩:=R9 h;rw[aak] at h1;obtain⟨r,hr,rfl⟩:=aap.mp h1;exact⟨r,hr,h2⟩
theorem VB(hR:H[ri]? =some (.lst (R.map Row.w)))(nk:∀a∈NS,dD a)(hN:NS.length<=12)(ok:iC NS R)(hn:R.length<=60):∃w H',u5 [.ref ri] H=.ok w H'/\Ex H H':=by
 obtain⟨H1,gB⟩:∃H1,H1=H++[PO.lst []]:=⟨_,rfl⟩
 have x1:Ex H H1:=gB▸Ex.one _ _;have g1:H1[H.length]? =some (.lst (([]:List Nm).map aQ)):=by rw[gB];exact bV _ _
 have en:gP (ah (ae 0) aj) [some (.ref ri),some (.ref H.length),none,none] H1=.ok (d5 (R.map Row.w),fun p=>decide (p[ri]? =some (.lst (R.map Row.w)))) H1:=vE rfl (x1.get hR);obtain⟨aC,H2,e2,MS,ni,o2,o3,rfl,x2,g2,nd,sb⟩:=iQ (chk:=fun p=>decide (p[ri]? =some (.lst (R.map Row.w)))) (g:=eD 2 [(gN 2),(gN 3)]) (b:=uU) (fun _ σ K=>∃(MS:List Nm) (ni:Nat) (o2 o3:Option W),σ=[some (.ref ri),some (.ref ni),o2,o3]/\Ex H K/\K[ni]? =some (.lst (MS.map aQ))/\MS.Nodup/\∀a∈MS,a∈NS) (d5 (R.map Row.w)) [some (.ref ri),some (.ref H.length),none,none] H1
  (fun _ _ _ h=>by obtain⟨_,_,_,_,_,q,_⟩:=h;exact decide_eq_true (q.get hR)) (fun j x σ K hj hI=>by
   obtain⟨MS,ni,o2,o3,rfl,y,gm,nd,sb⟩:=hI;obtain⟨r,hr,rfl⟩:=GF R hj;have GG:=ok.ok r (aaK hr);refine⟨[some (.ref ri),some (.ref ni),some (.int j),some r.w],K,rfl,?_⟩;obtain⟨K1,f1,z1⟩:=Q2 nk GG (fun k hk=>(ok.jm j r hr k hk).1) hn K;obtain⟨K2,f2,z2⟩:=SY (H:=K1) (z1.get (y.get hR)) hr (ok.jm j r hr);obtain⟨ei,i,K3,f3,z3,g3,uG,uH⟩:=VA (H:=K2) (z2.get (z1.get gm)) nd sb nk hN GG;have hl:=ms uG uH;have len:bo bG (ah (ae 0) aj) [some (.ref ri),some (.ref ni),some (.int j),some r.w] K=.ok (.int R.length) K:=aB (az rfl rfl) ((fq (y.get hR)).trans (by rw[aag]));unfold uU;refine⟨_,K3,sq (aY (oF (hW (c:=true) (eB (aB (az rfl (az len rfl)) f1))) (eB (aB (az rfl (az rfl rfl)) f2))) rfl) (sq (asg (aB (az rfl (az rfl rfl)) f3)) (aY (tB (op (x:=.int ei.length) (y:=.int 12) (aB (az (w:=.ref i) rfl rfl) ((fq g3).trans (by rw[aag]))) rfl ?_)) rfl)),_,.inl rfl,ei,i,_,_,rfl,((y.trans z1).trans z2).trans z3,g3,uG,uH⟩;rw[tP,decide_eq_false (by omega)];rfl) ⟨[],H.length,none,none,rfl,x1,g1,acO,fun _ h=>nomatch h⟩
 refine⟨.ref ni,H2,?_,x2⟩;unfold u5 kg;rw[gn];refine bq (ph1:=H) (aY (oF (hW (c:=true) (eB (aB rfl (xi hR)))) (tB (op (x:=.int R.length) (y:=.int 60) (aB (az rfl rfl) ((fq hR).trans (by rw[aag]))) rfl ?_))) rfl) (bq (ph1:=H1) (σ1:=[some (.ref ri),some (.ref H.length),none,none]) (by rw[gB];exact asg rfl) (bq (ij en e2) (br rfl)));rw[tP,decide_eq_false (by omega)];rfl
def kd(K:List Nat):List (W×W):=K.map fun k:Nat=>(W.int k,W.bl true)
def ins(K:List Nat)(k:Nat):List Nat:=if k∈K then K else K++[k]
variable{K:List Nat}
theorem l8{x:Nat}:x∈ins K k↔x∈K\/x=k:=by
 unfold ins;split
 ·exact⟨.inl,fun h=>h.elim id fun z=>z▸(by assumption)⟩
 ·rw[abt,aar]
theorem xu(h:K.Nodup):(ins K k).Nodup:=by
 unfold ins;split
 ·exact h
 ·rename_i hk;rw[aeo];refine⟨h,abW.mpr ⟨fun z=>(nomatch z),acO⟩,fun b hb c hc z=>?_⟩;rw[aar] at hc;exact hk (hc▸z▸hb)
theorem WL(a k:Nat):decide (W.int a=W.int k)=decide (a=k):=decide_eq_decide.mpr ⟨fun z=>by have:=W.int.inj z;omega,fun z=>z▸rfl⟩
theorem DT(K:List Nat)(k:Nat):dc (kd K) (.int k) (.bl true)=kd (ins K k):=by
 unfold dc ins;have e:((kd K).any fun p=>decide (p.1=.int k))=decide (k∈K):=by
  unfold kd;rw[afK,adK,adx,decide_eq_true_eq];simp only[afy,WL,decide_eq_true_eq];exact⟨fun⟨x,hx,z⟩=>z▸hx,fun h=>⟨k,h,rfl⟩⟩
 rw[e];by_cases h:k∈K
 ·rw[if_pos (decide_eq_true h),if_pos h];unfold kd;rw[adw];apply adQ;intro x _;show(if W.int x=W.int k then(W.int x,W.bl true) else(W.int x,W.bl true))=_;split <;> rfl
 ·rw[if_neg (by rw[decide_eq_false h];exact aaJ),if_neg h];unfold kd;rw[acH];rfl
theorem WM(K:List Nat)(k:Int):d7 (kd K) (.int k)=true:=by
 unfold d7;have:(kd K).all (fun p=> !eJ p.1)=true:=by
  rw[abn];intro p hp;obtain⟨x,_,rfl⟩:=acY.mp hp;rfl
 rw[this];rfl
theorem DU{d:Nat}{i:EM}(hd:H[d]? =some (.a8 (kd K)))(hl:K.length<=100)(ho:o σ H=.ok (.ref d) H)(hi:i σ H=.ok (.int k) H):aX (eC (.bl true)) (oA o i) σ H=.ok (.nx σ) (H.set d (.a8 (kd (ins K k)))):=by
 rw[rF];refine aB (a:=.bl true) (ph':=H) rfl ?_;rw[we];refine aB (aB ho (aB hi (aB (QK hd (WM K k) (by unfold kd;rw[aag];exact Nat.lt_of_le_of_lt hl (by decide)) _) rfl))) ?_;rw[DT];rfl
variable{di:Nat}
theorem S0(hd:H[di]? =some (.a8 (kd K)))(nd:K.Nodup)(hl:∀x∈K,x<n)(hn:n<=61):lift (mE [.ref di]) H=.ok (.ref H.length) (H++[.lst (iw (up K n))]):=by
 have h1:mD (kd K)=some (K.map fun x:Nat=>W.int x):=by
  unfold mD;have:((kd K).all fun p=> !eJ p.1)=true:=by
   rw[abn];intro p hp;obtain⟨x,_,rfl⟩:=acY.mp hp;rfl
  rw[if_pos this];unfold kd;rw[adw];rfl
 have h2:a9 mU (K.map fun x:Nat=>W.int x)=some (K.map fun x:Nat=>(x:Int)):=iR mU (fun x:Nat=>W.int x) (fun x:Nat=>(x:Int)) (fun _=>rfl) K;have bU:K.length<=n:=by
  have:=ms (N:=aaP n) nd fun a ha=>abx.mpr (hl a ha)
  rwa [aaZ] at this
 have h3:mE [.ref di] H=some (.ref H.length,H++[.lst (iw (up K n))]):=by
  unfold mE;simp only[xS hd,h1,abe,h2];rw[if_pos (by rw[aag];omega),Vk nd hl];unfold iw;rw[adw];rfl
 unfold lift;rw[h3]
def Row.cl:Row->Bool
 | .iff _ _=>true
 | .go _=>true
 | .fin=>true
 | _=>false
def Bg(R:List Row)(j k:Nat):Prop:=k=0\/k=R.length\/∃p r,p<j/\R[p]? =some r/\(k∈r.to\/(r.cl=true/\k=p+1))
theorem XH(r:Row){e:EM}(h:e σ H=.ok r.w H):eT (af fV (af ao e (eC (.int (0)))) (c6 (ah (eC (.str "if")) (ah (eC (.str "go")) (ah (eC (.str "end")) aj))))) σ H=.ok r.cl H:=by
 refine tB (op (oJ h) rfl ?_);show lift (fV (.str (aae r.x)) (.tup [.str (aae "if"),.str (aae "go"),.str (aae "end")])) H=_;rw[xQ,xN];cases r <;> rfl
theorem VC(ha:∀K,Ex H K->a σ K=.ok (.int n) K):xl (eC (.int (0))) (eC (.bl true)) a (eC (.bl true)) σ H=.ok (.ref H.length) (H++[.a8 (kd (ins [0] n))]):=by
 refine aB (a:=.ref H.length) (ph':=H++[.a8 []]) rfl (aB (a:=.int 0) (ph':=H++[.a8 []]) rfl (aB (a:=.bl true) (ph':=H++[.a8 []]) rfl (aB (ha _ (Ex.one _ _)) (aB (a:=.bl true) (ph':=H++[.a8 []]) rfl ?_))));have e:n9 (.ref H.length) (.int 0) (.bl true) (.int n) (.bl true) (H++[.a8 []])=some (.ref H.length,H++[.a8 (kd (ins [0] n))]):=by
  unfold n9;simp only[bV];rw[if_pos ⟨rfl,rfl⟩];have e0:dc [] (.int 0) (.bl true)=kd [0]:=rfl;rw[e0,DT,adu _ _ (aaj _)];simp
 unfold lift;rw[e]
structure BI(H K:PH)(ri:Nat)(R:List Row)(j:Nat)(L:List Nat):Prop where
 ex:Ex H K
 d:K[H.length]? =some (.a8 (kd L))
 nd:L.Nodup
 lt:∀x∈L,x<R.length+1
 mem:∀k,k∈L↔Bg R j k
theorem WN(hR:H[ri]? =some (.lst (R.map Row.w)))(ok:iC NS R)(hn:R.length<=60):∃L i H',vh [.ref ri] H=.ok (.ref i) H'/\Ex H H'/\H'[i]? =some (.lst (iw (up L (R.length+1))))/\∀k,k∈L↔Bg R R.length k:=by
 obtain⟨H1,gB⟩:∃H1,H1=H++[PO.a8 (kd (ins [0] R.length))]:=⟨_,rfl⟩
 have x1:Ex H H1:=gB▸Ex.one _ _;have g1:H1[H.length]? =some (.a8 (kd (ins [0] R.length))):=by rw[gB];exact bV _ _
 have b0:BI H H1 ri R 0 (ins [0] R.length):=by
  refine⟨x1,g1,xu (abW.mpr ⟨fun z=>(nomatch z),acO⟩),fun x hx=>?_,fun k=>?_⟩
  ·rcases l8.mp hx with z | z
   ·rw[aar.mp z];omega
   ·omega
  ·rw[l8,aar];constructor
   ·rintro(z | z)
    ·exact .inl z
    ·exact .inr (.inl z)
   ·rintro(z | z | ⟨p,r,h,_⟩)
    ·exact .inl z
    ·exact .inr z
    ·omega
 obtain⟨aC,H2,e2,L,o2,o3,o4,rfl,b⟩:=iQ (chk:=fun p=>decide (p[ri]? =some (.lst (R.map Row.w)))) (g:=eD 2 [(gN 2),(gN 3)]) (b:=u0) (fun j σ K=>∃(L:List Nat) (o2 o3 o4:Option W),σ=[some (.ref ri),some (.ref H.length),o2,o3,o4]/\BI H K ri R j L) (d5 (R.map Row.w)) [some (.ref ri),some (.ref H.length),none,none,none] H1
  (fun _ _ _ h=>by obtain⟨_,_,_,_,_,b⟩:=h;exact decide_eq_true (b.ex.get hR)) (fun j x σ K hj hI=>by
   obtain⟨L,o2,o3,o4,rfl,b⟩:=hI;obtain⟨r,hr,rfl⟩:=GF R hj;have jf:=(aac.mp hr).1;refine⟨[some (.ref ri),some (.ref H.length),some (.int j),some r.w,o4],K,rfl,?_⟩;obtain⟨K1,f1,z1,h1⟩:=C2 r (e:=ae 3) (σ:=[some (.ref ri),some (.ref H.length),some (.int j),some r.w,o4]) (H:=K) rfl;have fc:H.length<K.length:=EA b.d;obtain⟨bJ,K2,f2,L2,⟨o,rfl⟩,w1,w2,w3,w4,w5,w6⟩:=iQ (chk:=fun p=>decide (p[K.length]? =some (.lst (iw r.to)))) (g:=gN 4) (b:=uZ)
    (fun i σ K'=>∃L2:List Nat,(∃o,σ=[some (.ref ri),some (.ref H.length),some (.int j),some r.w,o])/\Ex H K'/\K'[H.length]? =some (.a8 (kd L2))/\L2.Nodup/\(∀x∈L2,x<R.length+1)/\(∀k,k∈L2↔Bg R j k\/k∈r.to.take i)/\K'[K.length]? =some (.lst (iw r.to))) (iw r.to) [some (.ref ri),some (.ref H.length),some (.int j),some r.w,o4] K1
    (fun _ _ _ h=>by obtain⟨_,_,_,_,_,_,_,q⟩:=h;exact decide_eq_true q) (fun i x σ K' hi hI=>by
     obtain⟨L2,⟨o,rfl⟩,w1,w2,w3,w4,w5,w6⟩:=hI;obtain⟨k,hk,rfl⟩:=DN hi;have pD:L2.length<=R.length+1:=by
      have:=ms (N:=aaP (R.length+1)) w3 fun a ha=>abx.mpr (w4 a ha)
      rwa [aaZ] at this
     refine⟨_,_,rfl,?_⟩;unfold uZ;refine⟨_,_,DU w2 (by omega) rfl rfl,_,.inl rfl,ins L2 k,⟨_,rfl⟩,Ex.set w1 (aaj _) _,iY w2,xu w3,fun x hx=>?_,fun x=>?_,(iX (by omega)).trans w6⟩
     ·rcases l8.mp hx with z | z
      ·exact w4 x z
      ·have:=(ok.jm j r hr k (aaK hk)).1;omega
     ·rw[l8,w5,List.take_succ,hk];simp only[abt,Option.toList_some,aar];constructor
      ·rintro((z | z) | z)
       ·exact .inl z
       ·exact .inr (.inl z)
       ·exact .inr (.inr z)
      ·rintro(z | z | z)
       ·exact .inl (.inl z)
       ·exact .inl (.inr z)
       ·exact .inr z)
    ⟨L,⟨_,rfl⟩,b.ex.trans z1,z1.get b.d,b.nd,b.lt,fun k=>by rw[b.mem];simp,h1⟩
   rw[jA,aeC] at w5;have nx:∀k,Bg R (j+1) k↔(Bg R j k\/k∈r.to)\/(r.cl=true/\k=j+1):=fun k=>by
    unfold Bg;constructor
    ·rintro(z | z | ⟨p,r',h1,h2,h3⟩)
     ·exact .inl (.inl (.inl z))
     ·exact .inl (.inl (.inr (.inl z)))
     ·by_cases hp:p=j
      ·subst hp;rw[hr] at h2;cases h2
       rcases h3 with z | z
       ·exact .inl (.inr z)
       ·exact .inr z
      ·exact .inl (.inl (.inr (.inr ⟨p,r',by omega,h2,h3⟩)))
    ·rintro(((z | z | ⟨p,r',h1,h2,h3⟩) | z) | z)
     ·exact .inl z
     ·exact .inr (.inl z)
     ·exact .inr (.inr ⟨p,r',by omega,h2,h3⟩)
     ·exact .inr (.inr ⟨j,r,by omega,hr,.inl z⟩)
     ·exact .inr (.inr ⟨j,r,by omega,hr,.inr z⟩)
   have pD:L2.length<=R.length+1:=by
    have:=ms (N:=aaP (R.length+1)) w3 fun a ha=>abx.mpr (w4 a ha)
    rwa [aaZ] at this
   unfold u0;have fI:=XH r (e:=ae 3) (σ:=[some (.ref ri),some (.ref H.length),some (.int j),some r.w,o]) (H:=K2) rfl;cases hc:r.cl with
   | false=>
    rw[hc] at fI;refine⟨_,K2,sq (ij f1 f2) (aY fI rfl),_,.inl rfl,L2,_,_,_,rfl,w1,w2,w3,w4,fun k=>?_⟩;rw[w5,nx,hc];simp
   | true=>
    rw[hc] at fI;refine⟨_,_,sq (ij f1 f2) (cF fI (DU (k:=j+1) w2 (by omega) rfl rfl)),_,.inl rfl,ins L2 (j+1),_,_,_,rfl,Ex.set w1 (aaj _) _,iY w2,xu w3,fun x hx=>?_,fun k=>?_⟩
    ·rcases l8.mp hx with z | z
     ·exact w4 x z
     ·omega
    ·rw[l8,w5,nx,hc];simp) ⟨_,none,none,none,rfl,b0⟩
 rw[Sa,aag] at b;refine⟨L,H2.length,H2++[.lst (iw (up L (R.length+1)))],?_,b.ex.trans (Ex.one _ _),bV _ _,b.mem⟩;unfold vh kn;rw[gn];have en:gP (ah (ae 0) aj) [some (.ref ri),some (.ref H.length),none,none,none] H1=.ok (d5 (R.map Row.w),fun p=>decide (p[ri]? =some (.lst (R.map Row.w)))) H1:=vE rfl (x1.get hR);refine bq (ph1:=H1) (σ1:=[some (.ref ri),some (.ref H.length),none,none,none]) ?_ (bq (ij en e2) (br (aB (az rfl rfl) (S0 b.d b.nd b.lt (by omega)))));rw[gB];refine(asg (VC (n:=R.length) fun K hK=>aB (az rfl rfl) ((fq (hK.get hR)).trans (by rw[aag])))).trans rfl
noncomputable def uJ(R:List Row)(k:Nat):Bool:= @decide (Bg R R.length k) (aey _)
theorem xZ:uJ R k=true↔Bg R R.length k:= @decide_eq_true_iff _ (aey _)
noncomputable def bj(R:List Row):List Nat:=(aaP (R.length+1)).filter (uJ R)
theorem WO{L:List Nat}(h:∀k,k∈L↔Bg R R.length k):up L (R.length+1)=bj R:=by
 unfold up bj;apply List.filter_congr;intro k _;rw[adK,decide_eq_true_eq,xZ];exact h k
theorem xv:k∈bj R↔k<=R.length/\Bg R R.length k:=by
 unfold bj;rw[acZ,abx,xZ];exact⟨fun h=>⟨by omega,h.2⟩,fun h=>⟨by omega,h.2⟩⟩
theorem WP(R:List Row):(bj R).Pairwise (· < ·):=acK _ aeK
theorem EC(R:List Row):(bj R).Nodup:=acK _ List.nodup_range
theorem se(R:List Row):(bj R).length<=R.length+1:=by
 unfold bj;have:=List.length_filter_le (uJ R) (aaP (R.length+1))
 rwa [aaZ] at this
theorem C3(R:List Row):∃b,bj R=b++[R.length]/\∀x∈b,x<R.length:=by
 refine⟨(aaP R.length).filter (uJ R),?_,fun x hx=>abx.mp (acZ.mp hx).1⟩;unfold bj;rw[List.range_succ,List.filter_append]
 congr 1
 rw[List.filter_cons,if_pos (xZ.mpr (.inr (.inl rfl)))];rfl
def spans(bs:List Nat)(n:Nat):List (Nat×Nat):=bs.zip bs.tail++[(n,n)]
def cG(p:Nat×Nat):W:=.tup [.int p.1,.int p.2]
noncomputable def bE(R:List Row):List (Nat×Nat):=spans (bj R) R.length
theorem VD(R:List Row):0<(bj R).length:=by
 obtain⟨b,e,_⟩:=C3 R;rw[e];simp
theorem mv(R:List Row):(bE R).length=(bj R).length:=by
 have:=VD R;unfold bE spans;rw[aaI,adh,List.length_tail,aeS];omega
theorem sU{s:Nat×Nat}(h:(bE R)[i]? =some s):(bj R)[i]? =some s.1/\((i+1<(bj R).length/\(bj R)[i+1]? =some s.2/\s.1<R.length)\/(i+1=(bj R).length/\s=(R.length,R.length))):=by
 obtain⟨b,e,hb⟩:=C3 R;have hl:(bj R).length=b.length+1:=by rw[e];simp
 have hz:((bj R).zip (bj R).tail).length=b.length:=by rw[adh,List.length_tail];omega
 by_cases hi:i<b.length
 ·have h':((bj R).zip (bj R).tail)[i]? =some s:=by
   rw[<- h];unfold bE spans;rw[aaU (by omega)]
  obtain⟨h1,h2⟩:=acQ.mp h';rw[List.getElem?_tail] at h2;refine⟨h1,.inl ⟨by omega,h2,?_⟩⟩;rw[e,aaU hi] at h1;exact hb _ (aaK h1)
 ·have Zj:i<(bE R).length:=(aac.mp h).1;rw[mv] at Zj;have:i=b.length:=by omega
  have h':some s=some (R.length,R.length):=by
   rw[<- h];unfold bE spans;rw[adS (by omega),show i-((bj R).zip (bj R).tail).length=0 by omega];rfl
  cases h';refine⟨?_,.inr ⟨by omega,rfl⟩⟩;rw[this,e,acd]
theorem VE(bs:List Nat):cq (iw bs) ((iw bs).drop 1)=(bs.zip bs.tail).map cG:=by
 unfold cq iw;rw[List.drop_one,<- List.map_tail,List.zip_map,adw];rfl
theorem ED(hR:H[ri]? =some (.lst (R.map Row.w)))(nk:∀a∈NS,dD a)(hN:NS.length<=12)(ok:iC NS R)(hn:R.length<=60):∃i H',sO [.ref ri] H=.ok (.ref i) H'/\Ex H H'/\H'[i]? =some (.lst ((bE R).map cG)):=by
 obtain⟨w,H1,e1,x1⟩:=VB hR nk hN ok hn;obtain⟨L,bi,H2,e2,x2,g2,hL⟩:=WN (x1.get hR) ok hn;rw[WO hL] at g2;have zz:=se R;obtain⟨H3,lB⟩:∃H3,H3=H2++[PO.lst ((iw (bj R)).drop 1)]:=⟨_,rfl⟩
 obtain⟨H4,zA⟩:∃H4,H4=H3++[PO.lst (((bj R).zip (bj R).tail).map cG)]:=⟨_,rfl⟩
 obtain⟨H5,lC⟩:∃H5,H5=H4++[PO.lst [cG (R.length,R.length)]]:=⟨_,rfl⟩
 have x3:Ex H2 H3:=lB▸Ex.one _ _;have x4:Ex H3 H4:=zA▸Ex.one _ _;have x5:Ex H4 H5:=lC▸Ex.one _ _;have g3:H3[H2.length]? =some (PO.lst ((iw (bj R)).drop 1)):=by rw[lB];exact bV _ _
 have g4:H4[H3.length]? =some (PO.lst (((bj R).zip (bj R).tail).map cG)):=by rw[zA];exact bV _ _
 have g5:H5[H4.length]? =some (PO.lst [cG (R.length,R.length)]):=by rw[lC];exact bV _ _
 have xa:Ex H H4:=((x1.trans x2).trans x3).trans x4;refine⟨H5.length,H5++[.lst ((bE R).map cG)],?_,(xa.trans x5).trans (Ex.one _ _),bV _ _⟩;unfold sO jF;rw[gn];have lz:sL (ah (ae 1) (ah (cR (ae 1) (cE (eC (.int (1)))) dA) aj)) [some (.ref ri),some (.ref bi)] H2=.ok (.ref H3.length) H4:=by
  refine aB (az (w:=.ref bi) (ph1:=H2) rfl (az (w:=.ref H2.length) (ph1:=H3) (by rw[lB];exact GA rfl g2 rfl) rfl)) ?_;have e:sJ [.ref bi,.ref H2.length] H3=some (.ref H3.length,H4):=by
   unfold sJ;simp only[x3.get g2,g3,VE];rw[zA]
  unfold lift;rw[e]
 have ln:bo bG (ah (ae 0) aj) [some (.ref ri),some (.ref bi)] H4=.ok (.int R.length) H4:=aB (az rfl rfl) ((fq (xa.get hR)).trans (by rw[aag]));refine bq (ph1:=H1) (σ1:=[some (.ref ri),none]) (aB (aB (az rfl rfl) e1) rfl) (bq (ph1:=H2) (σ1:=[some (.ref ri),some (.ref bi)]) (asg (aB (az rfl rfl) e2)) (br (op (x:=.ref H3.length) (ph1:=H4) (y:=.ref H4.length) (ph2:=H5) lz ?_ ?_)))
 ·rw[lC];refine aB (az (tp (az ln (az ln rfl)) rfl) rfl) (mr _ H4 (small (by simp)))
 ·rw[wJ (x5.get g4) g5 (small (by rw[aag,adh];simp;omega))];unfold bE spans;rw[acH];rfl
abbrev rk(q:List Nat)(b:Nat):Nat:=q.idxOf b
variable{q:List Nat}
theorem WQ{b:Nat}(h:b∈q):q[rk q b]? =some b:=by
 have:=List.idxOf_lt_length_of_mem h;rw[aaO this,List.getElem_idxOf]
theorem WR(hn:q.Nodup){b:Nat}(h:q[i]? =some b):rk q b=i:=by
 obtain⟨h1,rfl⟩:=aac.mp h;exact hn.idxOf_getElem i h1
def iK(q:List Nat):List (W×W):=q.map fun b:Nat=>(W.int b,W.int (rk q b:Int))
theorem uF(q:List Nat)(k:Int):d7 (iK q) (.int k)=true:=by
 unfold d7 iK;rw[acu]
 left
 simp[ja,eJ]
theorem C4(f:Nat->W):∀{l:List Nat} {b:Nat},b∈l->gh (l.map fun b:Nat=>(W.int b,f b)) (.int b)=some (f b)
 | c::l,b,h=>by
  have ih:=C4 f (l:=l) (b:=b);unfold gh at ih ⊢;rw[aaB,abM];by_cases e:c=b
  ·subst e;simp
  ·have:decide (W.int c=W.int b)=false:=decide_eq_false fun z=>e (by have:=W.int.inj z;omega)
   simp only[this];exact ih (by rcases aav.mp h with z | z;exact absurd z.symm e;exact z)
theorem xw{b:Nat}(hd:H[di]? =some (.a8 (iK q)))(h:b∈q):lift (ao (.ref di) (.int b)) H=.ok (.int (rk q b:Int)) H:=Sd hd (uF q _) (C4 _ h)
def yr(m:Nat):Row->List Nat
 | .iff _ p=>[p,m]
 | .go p=>[p]
 | .fin=>[]
 | _=>[m]
def dz(R:List Row)(s:Nat×Nat):List Nat:=if s.1=R.length then[] else yr s.2 (R.getD (s.2-1) .fin)
theorem ya{s:Nat×Nat}(h:R[s.2-1]? =some r)(hs:s.1≠R.length):dz R s=yr s.2 r:=by
 unfold dz;rw[if_neg hs,acf,h];rfl
structure yt(R:List Row)(s:Nat×Nat):Prop where
 le:s.1<=R.length
 nx:s.1<R.length->∃r,R[s.2-1]? =some r/\0<s.2/\s.2∈bj R
theorem yb{s:Nat×Nat}(h:(bE R)[i]? =some s):yt R s:=by
 obtain⟨h1,h2⟩:=sU h;refine⟨(xv.mp (aaK h1)).1,fun hs=>?_⟩
 rcases h2 with⟨a,b,_⟩ | ⟨_,b⟩
 ·have hm:=aaK b;have Zk:=(xv.mp hm).1;have fc:s.1<s.2:=by
   have p:=WP R;rw[List.pairwise_iff_getElem] at p;obtain⟨u1,u2⟩:=aac.mp h1;obtain⟨v1,v2⟩:=aac.mp b;have:=p i (i+1) u1 v1 (by omega);rw[u2,v2] at this;exact this
  obtain⟨r,hr⟩:∃r,R[s.2-1]? =some r:=k0 (by omega);exact⟨r,hr,by omega,hm⟩
 ·rw[b] at hs;exact absurd hs (abK _)
theorem sV(ok:iC NS R)(hr:R[p]? =some r)(hk:k∈r.to):k∈bj R:=xv.mpr ⟨(ok.jm p r hr k hk).1,.inr (.inr ⟨p,r,(aac.mp hr).1,hr,.inl hk⟩)⟩
theorem VF(ok:iC NS R){s:Nat×Nat}(so:yt R s):∀k∈dz R s,k∈bj R:=fun k hk=>by
 by_cases hs:s.1=R.length
 ·unfold dz at hk;rw[if_pos hs] at hk;cases hk
 ·obtain⟨r,hr,h0,hm⟩:=so.nx (by have:=so.le;omega);rw[ya hr hs] at hk;cases r with
  | iff a p=>
   rcases aav.mp hk with z | z
   ·rw[z];exact sV ok hr (by simp[Row.to])
   ·rw[aar.mp z];exact hm
  | go p=>rw[aar.mp hk];exact sV ok hr (by simp[Row.to])
  | fin=>cases hk
  | _=>rw[aar.mp hk];exact hm
noncomputable def way(R:List Row)(s:Nat×Nat):List Nat:=(dz R s).map (rk (bj R))
theorem dZ{e:EM}{s:String}(h:e σ H=.ok r.w H)(hc:decide (r.x=s)=c):eT (af bA (af ao e (eC (.int (0)))) (eC (.str s))) σ H=.ok c H:=by
 refine tB (op (oJ h) rfl ?_);rw[<- hc,sE];rfl
theorem Fq(h:r.cl=false):decide (r.x="if")=false/\decide (r.x="go")=false/\decide (r.x="end")=false:=by cases r <;> first | (cases h;done) | exact⟨rfl,rfl,rfl⟩
theorem XI{s:Nat×Nat}(hR:H[ri]? =some (.lst (R.map Row.w)))(ok:iC NS R)(hd:H[di]? =some (.a8 (iK (bj R))))(so:yt R s):qS [.ref ri,cG s,.ref di] H=.ok (.ref H.length) (H++[.lst (iw (way R s))]):=by
 have Zk:=so.le;have ln:∀{o:Option W},bo bG (ah (ae 0) aj) [some (.ref ri),some (cG s),some (.ref di),o] H=.ok (.int R.length) H:=aB (az rfl rfl) ((fq hR).trans (by rw[aag]));have t0:∀{c:Bool},decide (s.1=R.length)=c->eT (af bA (af ao (ae 1) (eC (.int (0)))) (bo bG (ah (ae 0) aj))) [some (.ref ri),some (cG s),some (.ref di),none] H=.ok c H:=fun{c} hc=>by
  refine tB (op (x:=.int s.1) rfl ln ?_);rw[sD,<- hc]
  congr 2
  exact decide_eq_decide.mpr (by omega)
 unfold qS kz;rw[jR];by_cases h1:s.1=R.length
 ·have:way R s=[]:=by unfold way dz;rw[if_pos h1];rfl
  rw[this];exact dG (cF (t0 (decide_eq_true h1)) (retS rfl))
 ·obtain⟨r,hr,h0,hm⟩:=so.nx (by omega);obtain⟨σ,bK⟩:∃σ:aI,σ=[some (.ref ri),some (cG s),some (.ref di),some r.w]:=⟨_,rfl⟩
  have a1:aX (af ao (ae 0) (af eY (af ao (ae 1) (eC (.int (1)))) (eC (.int (1))))) (gN 3) [some (.ref ri),some (cG s),some (.ref di),none] H=.ok (.nx σ) H:=by
   refine(asg (w:=r.w) (ph1:=H) (op (y:=.int ((s.2-1:Nat):Int)) rfl ?_ (gF hR (sT hr)))).trans (by rw[bK];rfl);rw[show((s.2-1:Nat):Int)=(s.2:Int)-1 by omega];exact sb (i:=(s.2:Int)) (j:=1) rfl rfl
  have v3:∀{K:PH},ae 3 σ K=.ok r.w K:=by rw[bK];intro K;rfl
  have v2:∀{K:PH},ae 2 σ K=.ok (.ref di) K:=by rw[bK];intro K;rfl
  have n2:af ao (ae 2) (af ao (ae 1) (eC (.int (1)))) σ H=.ok (.int (rk (bj R) s.2:Int)) H:=op (y:=.int s.2) v2 (by rw[bK];rfl) (xw hd hm);have hw:way R s=(yr s.2 r).map (rk (bj R)):=by
   unfold way;rw[ya hr h1]
  have l1:∀{e:EM} {k:Nat},e σ H=.ok (.int k) H->bP (ah e aj) σ H=.ok (.ref H.length) (H++[.lst (iw [k])]):=fun{e k} h=>aB (az h rfl) (mr _ H (small (by simp)))
  refine bq (aY (t0 (decide_eq_false h1)) rfl) (bq a1 ?_);rw[hw];have dh:r.cl=false->aq (aF (bp (eT (af bA (af ao (ae 3) (eC (.int (0)))) (eC (.str "if")))) (aT (bP (ah (af ao (ae 2) (af ao (ae 3) (eC (.int (2))))) (ah (af ao (ae 2) (af ao (ae 1) (eC (.int (1))))) aj)))) bB) (aF (bp (eT (af bA (af ao (ae 3) (eC (.int (0)))) (eC (.str "go")))) (aT (bP (ah (af ao (ae 2) (af ao (ae 3) (eC (.int (1))))) aj))) bB) (aF (bp (eT (af bA (af ao (ae 3) (eC (.int (0)))) (eC (.str "end")))) (aT (bP aj)) bB) (aT (bP (ah (af ao (ae 2) (af ao (ae 1) (eC (.int (1))))) aj))))) σ) dX H=.ok (.ref H.length) (H++[.lst (iw [rk (bj R) s.2])]):=fun hc=>by
   obtain⟨q1,q2,q3⟩:=Fq hc;exact bq (aY (dZ v3 q1) rfl) (bq (aY (dZ v3 q2) rfl) (bq (aY (dZ v3 q3) rfl) (br (l1 n2))))
  cases r with
  | iff a p=>
   have hp:p∈bj R:=sV ok hr (by simp[Row.to]);refine dG (cF (dZ v3 rfl) (retS (aB (az (op (y:=.int p) v2 (by rw[bK];rfl) (xw hd hp)) (az n2 rfl)) (mr _ H (small (by simp))))))
  | go p=>
   have hp:p∈bj R:=sV ok hr (by simp[Row.to]);exact bq (aY (dZ v3 rfl) rfl) (dG (cF (dZ v3 rfl) (retS (l1 (op (y:=.int p) v2 (by rw[bK];rfl) (xw hd hp))))))
  | fin=>exact bq (aY (dZ v3 rfl) rfl) (bq (aY (dZ v3 rfl) rfl) (dG (cF (dZ v3 rfl) (retS rfl))))
  | set a n=>exact dh rfl
  | copy a b=>exact dh rfl
  | gW a w b c=>exact dh rfl
  | take a=>exact dh rfl
  | tell a=>exact dh rfl
  | turn=>exact dh rfl
theorem Q4(as:List α)(h:α->W){cap:List (Option Nat)}{e:EM}{ph0:PH}(lw:im σ ph0=.ok (as.map h,chk) ph)(pF:∀ph',Ex ph ph'->chk ph'=true)(hz:as.length<=1000)
  (F:α->List W) (S:aI->Prop) (h0:S (fA cap σ)) (step:∀x∈as,∀σ H,S σ->Ex ph H->∃σ1,g (h x) σ H=.ok σ1 H/\S σ1/\e σ1 H=.ok (.ref H.length) (H++[.lst (F x)])) :
  ∃ph',dn im cap g dN e σ ph0=.ok (.ref ph.length) ph'/\Ex ph ph'/\ph'[ph.length]? =some (.lst ((aaP as.length).map fun j=>.ref (ph.length+1+j)))/\∀(j:Nat) x,as[j]? =some x->ph'[ph.length+1+j]? =some (.lst (F x)):=by
 rw[vX,bX lw];obtain⟨mX,aC,ph',ec,hS,x1,x2,x3,x4,x5⟩:=qQ (chk:=chk) (g:=g) (c:=dN) (e:=e) ph.length
  (fun k acc σ H=>S σ/\Ex ph H/\H[ph.length]? =some (.lst acc)/\acc=(aaP k).map (fun j=>.ref (ph.length+1+j))/\H.length=ph.length+1+k/\∀(j:Nat) x,j<k->as[j]? =some x->H[ph.length+1+j]? =some (.lst (F x)))
  (as.map h) 0 [] (fA cap σ) (ph++[.lst []]) (fun j acc σ H hI=>pF _ hI.2.1)
  (fun j y acc σ H hj hI=>by
   rw[acC] at hI ⊢;obtain⟨hS,x1,x2,x3,x4,x5⟩:=hI;rw[aak] at hj;obtain⟨x,hx,rfl⟩:=aap.mp hj;have jf:=(aac.mp hx).1;obtain⟨σ1,e1,eG,e2⟩:=step x (aaK hx) σ H hS x1;have y1:Ex H (H++[.lst (F x)]):=Ex.one _ _;refine⟨σ1,H,e1,true,H,rfl,.inr ⟨rfl,_,_,e2,y1.get x2,?_,eG,Ex.set (x1.trans y1) (aaj _) _,iY (y1.get x2),?_,?_,fun i z hi hz=>?_⟩⟩
   ·rw[x3,aag,aaZ];exact aan (by omega:j<1001) (by decide)
   ·rw[List.range_succ,acH,x3,x4];rfl
   ·rw[abA,aaI,x4];rfl
   ·rw[iX (by omega)];by_cases Zl:i=j
    ·subst Zl;rw[hx] at hz;cases hz;rw[<- x4];exact bV _ _
    ·exact y1.get (x5 i z (by omega) hz))
  ⟨h0,Ex.one _ _,bV _ _,rfl,by simp,fun j x hj=>absurd hj (Nat.not_lt_zero _)⟩
 rw[acC,aag] at x3 x5;exact⟨ph',bX ec,x1,x2.trans (by rw[x3]),fun j x hx=>x5 j x (aac.mp hx).1 hx⟩
theorem S1(S:List (Nat×Nat)):d5 (S.map cG)=(aaP S.length).map fun i:Nat=>W.tup [.int i,cG (S.getD i (0,0))]:=by
 unfold d5;rw[aag];apply adQ;intro i hi;have hi:=abx.mp hi;rw[acf,acf,aak,aaO hi];rfl
theorem Q5{si:Nat}(hs:H[si]? =some (.lst ((bE R).map cG)))(hv:∀{K:PH},ae 1 σ K=.ok (.ref si) K)(hn:R.length<=60):∃di H',bo mC (ah (dn (gP (ah (ae 1) aj)) [none,none] (eD 2 [(gN 0),(gN 1)]) dN (c6 (ah (af ao (ae 1) (eC (.int (0)))) (ah (ae 0) aj)))) aj) σ H=.ok (.ref di) H'/\Ex H H'/\H'[di]? =some (.a8 (iK (bj R))):=by
 have zz:=se R;have uK:=mv R;obtain⟨H1,e1,x1⟩:=rm (aaP (bE R).length) (fun i:Nat=>W.tup [.int i,cG ((bE R).getD i (0,0))]) (im:=gP (ah (ae 1) aj)) (ph:=H) (ph0:=H) (chk:=fun p=>decide (p[si]? =some (.lst ((bE R).map cG)))) (σ:=σ) (cap:=[none,none]) (g:=eD 2 [(gN 0),(gN 1)]) (c:=dN) (e:=c6 (ah (af ao (ae 1) (eC (.int (0)))) (ah (ae 0) aj))) (by rw[<- S1];exact vE (az hv rfl) hs) (fun p y=>decide_eq_true (y.get hs)) (small (by simp;omega))
  (fun i:Nat=>some (W.tup [.int (((bE R).getD i (0,0)).1:Int),.int i])) (fun σ=>∃a b,σ=[a,b]) ⟨none,none,rfl⟩
  (fun i hi σ K hS x1=>by
   obtain⟨a,b,rfl⟩:=hS;exact⟨_,rfl,⟨_,_,rfl⟩,true,K,rfl,Ex.refl _,.inr ⟨rfl,_,K,rfl,Ex.refl _,rfl⟩⟩)
 rw[rH] at x1;have hw:=x1.get (bV H _);have hp:a9 mB ((aaP (bE R).length).map fun i:Nat=>W.tup [.int (((bE R).getD i (0,0)).1:Int),.int i])=some (iK (bj R)):=by
  rw[iR mB (fun i:Nat=>W.tup [.int (((bE R).getD i (0,0)).1:Int),.int i]) (fun i:Nat=>(W.int (((bE R).getD i (0,0)).1:Int),W.int i)) (fun _=>rfl)]
  congr 1
  apply List.ext_getElem?
  intro i;unfold iK;rw[aak,aak];by_cases hi:i<(bE R).length
  ·obtain⟨s,hs⟩:∃s,(bE R)[i]? =some s:=k0 hi;have hb:=(sU hs).1;rw[abX hi,hb];have:(bE R).getD i (0,0)=s:=by rw[acf,hs];rfl
   simp only[aaM,this,WR (EC R) hb]
  ·rw[adt (by simp;omega),adt (by omega)];rfl
 have hf:i3 [] (iK (bj R))=some (iK (bj R)):=CZ (fun b=>W.int (rk (bj R) b:Int)) (bj R) [] (EC R) (by rw[List.nil_append];omega);exact⟨H1.length,H1++[.a8 (iK (bj R))],aB (az e1 rfl) (QL hw hp hf),((Ex.one _ _).trans x1).trans (Ex.one _ _),bV _ _⟩
structure Wz(H:PH)(i:Nat)(G:List (List Nat)):Prop where
 l:H[i]? =some (.lst ((aaP G.length).map fun j=>.ref (i+1+j)))
 at_:∀(j:Nat) g,G[j]? =some g->H[i+1+j]? =some (.lst (iw g))
noncomputable def dE(R:List Row):List (List Nat):=(bE R).map (way R)
theorem C5{g:List Nat}(h:(dE R)[j]? =some g):∃s,(bE R)[j]? =some s/\g=way R s:=by
 unfold dE at h;rw[aak] at h;obtain⟨s,hs,rfl⟩:=aap.mp h;exact⟨s,hs,rfl⟩
theorem DV(hR:H[ri]? =some (.lst (R.map Row.w)))(nk:∀a∈NS,dD a)(hN:NS.length<=12)(ok:iC NS R)(hn:R.length<=60):∃i H',r6 [.ref ri] H=.ok (.ref i) H'/\Ex H H'/\Wz H' i (dE R)/\H.length<=i:=by
 have zz:=se R;have uK:=mv R;obtain⟨si,H1,e1,x1,g1⟩:=ED hR nk hN ok hn;obtain⟨di,H2,e2,x2,g2⟩:=Q5 (σ:=[some (.ref ri),some (.ref si),none]) g1 (fun{K}=>rfl) hn;have Zm:=x2.get (x1.get hR);obtain⟨H3,e3,x3,g3,q3⟩:=Q4 (bE R) cG (σ:=[some (.ref ri),some (.ref si),some (.ref di)]) (cap:=[none,some 0,some 2]) (g:=gN 0) (e:=bw qS (ah (ae 1) (ah (ae 0) (ah (ae 2) aj)))) (qR (m:=ae 1) (ph:=H2) (ph':=H2) rfl (x2.get g1)) (fun p y=>decide_eq_true (y.get (x2.get g1))) (by omega)
  (fun s=>iw (way R s)) (fun σ=>∃o,σ=[o,some (.ref ri),some (.ref di)]) ⟨none,rfl⟩ (fun s hs σ K hS y=>by
   obtain⟨o,rfl⟩:=hS;obtain⟨j,hj,rfl⟩:=adL hs;exact⟨_,rfl,⟨_,rfl⟩,aB (az rfl (az rfl (az rfl rfl))) (XI (y.get Zm) ok (y.get g2) (yb (aaO hj)))⟩)
 refine⟨H2.length,H3,?_,(x1.trans x2).trans x3,⟨?_,fun j g hg=>?_⟩,abl x1.len x2.len⟩
 ·unfold r6 jy;rw[gn];exact bq (ph1:=H1) (asg (aB (az rfl rfl) e1)) (bq (ph1:=H2) (asg e2) (br e3))
 ·rw[g3];unfold dE;rw[aag]
 ·obtain⟨s,hs,rfl⟩:=C5 hg;exact q3 j s hs
theorem Fs{s:Nat×Nat}(h:(bE R)[k]? =some s):ck ((bE R).map cG) (k:Int)=some (cG s):=by
 rw[gg _ _ (by rw[aag];exact(aac.mp h).1),aak,h];rfl
theorem WS{bi:Nat}{s:Nat×Nat}(hR:H[ri]? =some (.lst (R.map Row.w)))(hb:H[bi]? =some (.lst ((bE R).map cG)))(hs:(bE R)[k]? =some s):vJ [.ref ri,.ref bi,.int k] H=.ok (.ref H.length) (H++[.lst (iw (dz R s))]):=by
 obtain⟨_,hq⟩:=sU hs;have uK:=mv R;have so:=yb hs;have t0:∀{c:Bool},decide ((k:Int)=((bE R).length:Int)-1)=c->eT (af bA (ae 2) (af eY (bo bG (ah (ae 1) aj)) (eC (.int (1))))) [some (.ref ri),some (.ref bi),some (.int k),none] H=.ok c H:=fun{c} hc=>by
  refine tB (op rfl (sb (i:=((bE R).length:Int)) (aB (az rfl rfl) ((fq hb).trans (by rw[aag]))) rfl) ?_);rw[sD,hc];rfl
 unfold vJ kA;rw[jR]
 rcases hq with⟨h1,h2,h3⟩ | ⟨h1,h2⟩
 ·obtain⟨r,hr,h0,hm⟩:=so.nx h3;rw[ya hr (by omega)];have bk:∀{o:Option W},af ao (af ao (ae 1) (ae 2)) (eC (.int (1))) [some (.ref ri),some (.ref bi),some (.int k),o] H=.ok (.int s.2) H:=fun{o}=>op (x:=cG s) (op rfl rfl (gF hb (Fs hs))) rfl rfl
  obtain⟨σ,bK⟩:∃σ:aI,σ=[some (.ref ri),some (.ref bi),some (.int k),some r.w]:=⟨_,rfl⟩
  have a1:aX (af ao (ae 0) (af eY (af ao (af ao (ae 1) (ae 2)) (eC (.int (1)))) (eC (.int (1))))) (gN 3) [some (.ref ri),some (.ref bi),some (.int k),none] H=.ok (.nx σ) H:=by
   refine(asg (w:=r.w) (ph1:=H) (op (y:=.int ((s.2-1:Nat):Int)) rfl ?_ (gF hR (sT hr)))).trans (by rw[bK];rfl);rw[show((s.2-1:Nat):Int)=(s.2:Int)-1 by omega];exact sb bk rfl
  have v3:∀{K:PH},ae 3 σ K=.ok r.w K:=by rw[bK];intro K;rfl
  have GH:af ao (af ao (ae 1) (ae 2)) (eC (.int (1))) σ H=.ok (.int s.2) H:=by rw[bK];exact bk
  have l1:∀{e:EM} {k:Nat},e σ H=.ok (.int k) H->bP (ah e aj) σ H=.ok (.ref H.length) (H++[.lst (iw [k])]):=fun{e k} h=>aB (az h rfl) (mr _ H (small (by simp)))
  refine bq (aY (t0 (decide_eq_false (by omega))) rfl) (bq a1 ?_);have dh:r.cl=false->aq (aF (bp (eT (af bA (af ao (ae 3) (eC (.int (0)))) (eC (.str "end")))) (aT (bP aj)) bB) (aF (bp (eT (af bA (af ao (ae 3) (eC (.int (0)))) (eC (.str "if")))) (aT (bP (ah (af ao (ae 3) (eC (.int (2)))) (ah (af ao (af ao (ae 1) (ae 2)) (eC (.int (1)))) aj)))) bB) (aF (bp (eT (af bA (af ao (ae 3) (eC (.int (0)))) (eC (.str "go")))) (aT (bP (ah (af ao (ae 3) (eC (.int (1)))) aj))) bB) (aT (bP (ah (af ao (af ao (ae 1) (ae 2)) (eC (.int (1)))) aj))))) σ) dX H=.ok (.ref H.length) (H++[.lst (iw [s.2])]):=fun hc=>by
   obtain⟨q1,q2,q3⟩:=Fq hc;exact bq (aY (dZ v3 q3) rfl) (bq (aY (dZ v3 q1) rfl) (bq (aY (dZ v3 q2) rfl) (br (l1 GH))))
  cases r with
  | iff a p=>exact bq (aY (dZ v3 rfl) rfl) (dG (cF (dZ v3 rfl) (retS (aB (az (w:=.int p) (by rw[bK];rfl) (az GH rfl)) (mr _ H (small (by simp)))))))
  | go p=>exact bq (aY (dZ v3 rfl) rfl) (bq (aY (dZ v3 rfl) rfl) (dG (cF (dZ v3 rfl) (retS (l1 (by rw[bK];rfl))))))
  | fin=>exact dG (cF (dZ v3 rfl) (retS rfl))
  | set a n=>exact dh rfl
  | copy a b=>exact dh rfl
  | gW a w b c=>exact dh rfl
  | take a=>exact dh rfl
  | tell a=>exact dh rfl
  | turn=>exact dh rfl
 ·have:dz R s=[]:=by unfold dz;rw[h2,if_pos rfl]
  rw[this];exact dG (cF (t0 (decide_eq_true (by omega))) (retS rfl))
theorem wN{α β:Type}{f:α->Option β}:∀{l:List α} {D:List β},l.length=D.length->(∀(j:Nat) a d,l[j]? =some a->D[j]? =some d->f a=some d)->a9 f l=some D
 | [],[],_,_=>rfl
 | [],_::_,h,_=>by simp at h
 | _::_,[],h,_=>by simp at h
 | a::l,d::D,h,k=>mc (k 0 a d rfl rfl) (wN (by simpa using h) fun j x y hx hy=>k (j+1) x y (by simpa using hx) (by simpa using hy))
theorem XJ{e:EM}{w:W}(ho:o σ ph=.ok (.ref i) ph)(zp:∃lp,ph[i]? =some (.lst lp))(he:e σ ph=.ok w ph1)(hi:ph1[i]? =some (.lst ws))(hz:ws.length<1000000):eV (cJ dF dJ o (ah e aj)) σ ph=.ok (.nx σ) (ph1.set i (.lst (ws++[w]))):=by
 obtain⟨lp,h0⟩:=zp;rw[rj,nO,eM,bX ho];rw[eM,bX (CK h0),eM,rl,eM,bX he];rw[rG,kH,kH,bX (vv hi (aan hz (by decide)) w)];rfl
theorem S2(v:Int)(H:PH):vk [.int v] H=.ok (.bl true) H:=by
 unfold vk ko;rw[gn];exact br (zw rfl rfl)
theorem Q6(nk:∀a∈NS,dD a)(ok:iC NS R)(H:PH)(n:Nat):a9 (dat H (n+1)) (R.map Row.w)=some (R.map Row.d):=by
 refine wN (by simp) fun j a d ha hd=>?_
 rw[aak] at ha hd;obtain⟨r,hr,rfl⟩:=aap.mp ha;rw[hr] at hd;cases hd;exact wM H n fun a ha=>nk a ((ok.ok r (aaK hr)).1 a ha)
theorem C6(R:List Row)(s:Nat×Nat):(way R s).length=(dz R s).length:=by unfold way;rw[aag]
theorem DW(R:List Row)(s:Nat×Nat):(dz R s).length<=2:=by
 unfold dz;split
 ·decide
 ·cases R.getD (s.2-1) .fin <;> exact abm rfl
abbrev sl(ns:List Int)(n ni n2 ri bi hi fi:Nat)(o7 o8 o9 o10 o11:Option W):aI:=[some (.fl (ns.map W.int)),some (.ref ni),some (.int n2),some (.ref ri),some (.ref bi),some (.ref hi),some (.ref fi),o7,o8,o9,o10,o11]
structure FI(H K:PH)(fi k:Nat)(G:List (List Nat)):Prop where
 ex:Ex H K
 l:K[fi]? =some (.lst ((aaP G.length).map fun j=>.ref (fi+1+j)))
 a:∀(j:Nat) g,G[j]? =some g->j<k->K[fi+1+j]? =some (.lst (iw (g++[0])))
 b:∀(j:Nat) g,G[j]? =some g->k<=j->K[fi+1+j]? =some (.lst (iw g))
theorem S3{b:Nat}(h:j<n):ck ((aaP n).map fun j=>W.ref (b+j)) (j:Int)=some (.ref (b+j)):=by
 rw[gg _ _ (by simp;exact h),aak,abX h];rfl
theorem S4(R:List Row)(l:List Nat):cq (iw (l.map (rk (bj R)))) (iw l)=l.map fun p:Nat=>W.tup [.int (rk (bj R) p:Int),.int p]:=by
 induction l with
 | nil=>rfl
 | cons p l ih=>
  unfold cq iw at ih ⊢;simp only[aaB,List.zip_cons_cons] at ih ⊢;rw[ih]
theorem Q7{K:PH}{ns:List Int}{n2 bi hi fi:Nat}{o8 o9 o10 o11:Option W}(hR:H[ri]? =some (.lst (R.map Row.w)))(hb:H[bi]? =some (.lst ((bE R).map cG)))(ok:iC NS R)(hn:R.length<=60)(hf:H.length<=fi)(F:FI H K fi k (dE R))(hk:k<(bE R).length) :
  ∃K' Zn Zo XM,rp (sl ns n ni n2 ri bi hi fi (some (.int k)) o8 o9 o10 o11) K=.ok (.nx (sl ns n ni n2 ri bi hi fi (some (.int k)) Zn Zo XM o11)) K'/\FI H K' fi (k+1) (dE R):=by
 obtain⟨s,hs⟩:∃s,(bE R)[k]? =some s:=k0 hk;have ng:(dE R).length=(bE R).length:=by unfold dE;rw[aag]
 have hg:(dE R)[k]? =some (way R s):=by unfold dE;rw[aak,hs];rfl
 have cu:=C6 R s;have ce:=DW R s;have uK:=mv R;obtain⟨K1,eK⟩:∃K1,K1=K++[PO.lst (iw (dz R s))]:=⟨_,rfl⟩
 have x1:Ex K K1:=eK▸Ex.one _ _;have gd:K1[K.length]? =some (.lst (iw (dz R s))):=by rw[eK];exact bV _ _
 have gf:=x1.get F.l;have gw:=x1.get (F.b k _ hg (aaj _));have gb:=x1.get (F.ex.get hb);have lb:∀{σ:aI} {K2:PH},K2[bi]? =some (.lst ((bE R).map cG))->ae 4 σ=aA (.ref bi)->bo bG (ah (ae 4) aj) σ K2=.ok (.int ((bE R).length:Int)) K2:=fun{σ K2} h4 hv=>aB (az (w:=.ref bi) (ph1:=K2) (by rw[hv];rfl) rfl) ((fq h4).trans (by rw[aag]))
 have wk:∀{o9 o10:Option W},af ao (ae 6) (ae 7) (sl ns n ni n2 ri bi hi fi (some (.int k)) (some (.ref K.length)) o9 o10 o11) K1=.ok (.ref (fi+1+k)) K1:=fun{o9 o10}=>op rfl rfl (gF gf (S3 (by omega)))
 obtain⟨aC,K2,e2,p9,pT,rfl,rfl⟩:=iQ (chk:=fun ph'=>decide (ph'[fi+1+k]? =some (.lst (iw (way R s)))/\ph'[K.length]? =some (.lst (iw (dz R s))))) (g:=eD 2 [(gN 9),(gN 10)]) (b:=wm)
  (fun _ σ K2=>∃p9 pT:Option W,σ=sl ns n ni n2 ri bi hi fi (some (.int k)) (some (.ref K.length)) p9 pT o11/\K2=K1) ((dz R s).map fun p:Nat=>W.tup [.int (rk (bj R) p:Int),.int p]) (sl ns n ni n2 ri bi hi fi (some (.int k)) (some (.ref K.length)) o9 o10 o11) K1
  (fun _ _ _ h=>by obtain⟨_,_,_,rfl⟩:=h;exact decide_eq_true ⟨gw,gd⟩) (fun j x σ K2 hj hI=>by
   obtain⟨p9,pT,rfl,rfl⟩:=hI;rw[aak] at hj;obtain⟨p,hp,rfl⟩:=aap.mp hj;have Zp:=VF ok (yb hs) p (aaK hp);have hr:=WQ Zp;have Z2:=(aac.mp hr).1;obtain⟨s2,bQ⟩:∃s2,(bE R)[rk (bj R) p]? =some s2:=k0 (by omega);have ua:s2.1=p:=by
    have:=(sU bQ).1;rw[hr] at this;exact(abd this).symm
   refine⟨sl ns n ni n2 ri bi hi fi (some (.int k)) (some (.ref K.length)) (some (.int (rk (bj R) p:Int))) (some (.int p)) o11,_,rfl,?_⟩;unfold wm;refine⟨_,_,aY (oF (hW (c:=true) (eB (aB (az rfl rfl) (S2 _ _)))) (oF (hW (c:=true) (tB (rN rfl rfl ?_ (lb gb rfl) ?_))) (tB (op (ph1:=K2) (ph2:=K2) (x:=.int p) (y:=.int p) (op (x:=cG s2) (op rfl rfl (gF gb (Fs bQ))) rfl ?_) rfl ?_)))) rfl,_,.inl rfl,_,_,rfl,rfl⟩
   ·rw[oV,decide_eq_true (by omega)];rfl
   ·rw[yn,decide_eq_true (by omega)];rfl
   ·rw[<- ua];rfl
   ·rw[mF,decide_eq_true rfl];rfl) ⟨_,_,rfl,rfl⟩
 refine⟨K2.set (fi+1+k) (.lst (iw (way R s)++[.int 0])),some (.ref K.length),p9,pT,?_,Ex.set (F.ex.trans x1) (by omega) _,(iX (by omega)).trans gf,fun j g hj Zq=>?_,fun j g hj Zq=>?_⟩
 ·unfold rp;have zl:sI (ah (af ao (ae 6) (ae 7)) (ah (ae 8) aj)) (sl ns n ni n2 ri bi hi fi (some (.int k)) (some (.ref K.length)) o9 o10 o11) K2=.ok ((dz R s).map (fun p:Nat=>W.tup [.int (rk (bj R) p:Int),.int p]),fun ph'=>decide (ph'[fi+1+k]? =some (.lst (iw (way R s)))/\ph'[K.length]? =some (.lst (iw (dz R s))))) K2:=by
   refine aB (az wk (az rfl rfl)) ?_;have e:sH [.ref (fi+1+k),.ref K.length] K2=some ((cq (iw (way R s)) (iw (dz R s)),fun ph'=>decide (ph'[fi+1+k]? =some (.lst (iw (way R s)))/\ph'[K.length]? =some (.lst (iw (dz R s))))),K2):=by
    unfold sH;simp only[gw,gd]
   unfold lift;rw[e];unfold way;rw[S4]
  refine sq (σ1:=sl ns n ni n2 ri bi hi fi (some (.int k)) (some (.ref K.length)) o9 o10 o11) (ph1:=K2) ?_ (sq (aY (oF (hW (c:=true) (eB (aB wk (xi gw)))) (tB (op (x:=.int ((way R s).length:Int)) (y:=.int ((dz R s).length:Int)) (aB (az wk rfl) ((fq gw).trans (by rw[jA]))) (aB (az (w:=.ref K.length) rfl rfl) ((fq gd).trans (by rw[jA]))) ?_))) rfl) (sq (ij zl e2) (XJ wk ⟨_,gw⟩ rfl gw (by rw[jA];omega))))
  ·rw[eK];exact asg (aB (az rfl (az rfl (az rfl rfl))) (WS (F.ex.get hR) (F.ex.get hb) hs))
  ·rw[mF,decide_eq_true (by omega)];rfl
 ·by_cases Zr:j=k
  ·subst Zr;rw[hg] at hj;cases hj;rw[iY gw,xt];rfl
  ·rw[iX (by omega)];exact x1.get (F.a j g hj (by omega))
 ·rw[iX (by omega)];exact x1.get (F.b j g hj (by omega))
theorem B9{G:List (List Nat)}(hi:H[i]? =some (.lst ws))(hl:ws.length=G.length)(h:∀(j:Nat) w g,ws[j]? =some w->G[j]? =some g->∃r,w=.ref r/\H[r]? =some (.lst (iw (g++[0])))):dat H 40 (.ref i)=some (.list (G.map fun g=>.list ((g++[0]).map fun x:Nat=>afS (x:Int)))):=by
 refine CW hi (wN (by rw[hl,aag]) fun j w d hw hd=>?_);rw[aak] at hd;obtain⟨g,hg,rfl⟩:=aap.mp hd;obtain⟨r,rfl,hr⟩:=h j w g hw hg;exact CW hr (iR (dat H 38) (fun x:Nat=>W.int x) (fun x:Nat=>afS (x:Int)) (fun x=>oD H 38 x) _)
theorem good(ns:List Int)(bT:ns.length<=63):∃ph',oG [.fl (ns.map W.int)] []=.ok (.bl true) ph':=by
 obtain⟨m,hm,em⟩:=eR (a:=ns.getD 1 0) (n:=6) (by decide);obtain⟨NS,H1,e1,x1,g1,l1,nk⟩:=SS (ns.getD 0 0) (m+1) (by omega) [];have zB:NS.length<=12:=by omega
 have Zs:NS≠[]:=fun z=>by rw[z] at l1;simp at l1
 obtain⟨q,hq,eq⟩:=eR (a:=(ns.getD 1 0).fdiv 6) (n:=25) (by decide);obtain⟨q2,Z3,eq2⟩:=eR (a:=(ns.getD 1 0).fdiv 1200) (n:=36) (by decide);obtain⟨n,hn,h3⟩:∃n:Nat,n<=60/\(bp (eT (af bA (af aZ (af bx (bw eL (ah (ae 0) (ah (eC (.int (1))) aj))) (eC (.int (150)))) (eC (.int (8)))) (eC (.int (1))))) (aX (af addW (eC (.int (25))) (af aZ (af bx (bw eL (ah (ae 0) (ah (eC (.int (1))) aj))) (eC (.int (1200)))) (eC (.int (36))))) (gN 2)) bB) [some (.fl (ns.map W.int)),some (.ref 0),some (.int q),none,none,none,none,none,none,none,none,none] H1=.ok (.nx [some (.fl (ns.map W.int)),some (.ref 0),some (.int n),none,none,none,none,none,none,none,none,none]) H1:=by
  have c1:∀{o:Option W},bw eL (ah (ae 0) (ah (eC (.int (1))) aj)) [some (.fl (ns.map W.int)),some (.ref 0),o,none,none,none,none,none,none,none,none,none] H1=.ok (.int (ns.getD 1 0)) H1:=fun{o}=>cl (i:=1) rfl rfl (by decide)
  by_cases h:((ns.getD 1 0).fdiv 150).fmod 8=1
  ·refine⟨25+q2,by omega,cF (eI (md (dv c1 rfl (by decide) (by decide)) rfl (by decide)) (decide_eq_true h)) ?_⟩;rw[show((25+q2:Nat):Int)=25+(q2:Int) by omega,<- eq2];exact asg (ad rfl (md (dv c1 rfl (by decide) (by decide)) rfl (by decide)))
  ·exact⟨q,by omega,aY (eI (md (dv c1 rfl (by decide) (by decide)) rfl (by decide)) (decide_eq_false h)) rfl⟩
 obtain⟨R,H2,e2,x2,g2,l2,ok⟩:=Vs ns (ni:=0) (n:=n) g1 Zs nk hn;have uL:R.length<=60:=by omega
 obtain⟨H3,lB⟩:∃H3,H3=H2++[PO.lst (R.map Row.w)]:=⟨_,rfl⟩
 have x3:Ex H2 H3:=lB▸Ex.one _ _;obtain⟨bi,H4,e4,x4,g4⟩:=ED (H:=H3) (ri:=H2.length) (by rw[lB];exact bV _ _) nk zB ok uL;obtain⟨H5,lC⟩:∃H5,H5=H4++[PO.lst (R.map Row.w)]:=⟨_,rfl⟩
 have x5:Ex H4 H5:=lC▸Ex.one _ _;have g5:H5[H4.length]? =some (.lst (R.map Row.w)):=by rw[lC];exact bV _ _
 obtain⟨fi,H6,e6,x6,W6,Zt⟩:=DV (H:=H5) (ri:=H4.length) g5 nk zB ok uL;have GJ:H5[H1.length]? =some (.lst (R.map Row.w)):=x5.get (x4.get (x3.get g2));have GK:H5[bi]? =some (.lst ((bE R).map cG)):=x5.get g4;have ng:(dE R).length=(bE R).length:=by unfold dE;rw[aag]
 have uK:=mv R;have zz:=se R;have F0:FI H5 H6 fi 0 (dE R):=⟨x6,W6.l,fun j g _ h=>absurd h (Nat.not_lt_zero _),fun j g h _=>W6.at_ j g h⟩
 obtain⟨st,cv⟩:∃st:Option W->Option W->Option W->Option W->Option W->aI,st=sl ns n 0 n H1.length bi H4.length fi:=⟨_,rfl⟩
 have lb:∀{K:PH} {o7 o8 o9 o10 o11:Option W},Ex H5 K->bo bG (ah (ae 4) aj) (sl ns n 0 n H1.length bi H4.length fi o7 o8 o9 o10 o11) K=.ok (.int ((bE R).length:Int)) K:=fun{K o7 o8 o9 o10 o11} x=>aB (az rfl rfl) ((fq (x.get GK)).trans (by rw[aag]))
 obtain⟨aC,H7,e7,o7,o8,o9,o10,rfl,F⟩:=iQ (chk:=fun _=>true) (g:=gN 7) (b:=rp) (fun k σ K=>∃o7 o8 o9 o10:Option W,σ=sl ns n 0 n H1.length bi H4.length fi o7 o8 o9 o10 none/\FI H5 K fi k (dE R)) (fw 0 (bE R).length) (sl ns n 0 n H1.length bi H4.length fi none none none none none) H6
  (fun _ _ _ _=>rfl) (fun k x σ K hk hI=>by
   obtain⟨o7,o8,o9,o10,rfl,F⟩:=hI;obtain⟨Zu,rfl⟩:=vY hk;rw[afL];obtain⟨K',p8,p9,pT,e,F'⟩:=Q7 (ns:=ns) (n:=n) (ni:=0) (n2:=n) (hi:=H4.length) (o8:=o8) (o9:=o9) (o10:=o10) (o11:=none) GJ GK ok uL Zt F Zu;exact⟨_,K,rfl,_,K',e,_,.inl rfl,_,_,_,_,rfl,F'⟩) ⟨none,none,none,none,rfl,F0⟩
 rw[vZ] at F;obtain⟨ai,H8,e8,x8,W8,_⟩:=DV (H:=H7) (ri:=H4.length) (F.ex.get g5) nk zB ok uL;obtain⟨H9,ws,e9,x9,g9,l9,q9⟩:=CY (aaP (dE R).length) (fun j=>W.ref (ai+1+j)) (im:=fO (ae 11)) (cap:=[none]) (g:=gN 0) (e:=af addW (ae 0) (bP (ah (eC (.int (0))) aj))) (σ:=sl ns n 0 n H1.length bi H4.length fi o7 o8 o9 o10 (some (.ref ai))) (ph:=H8) (ph0:=H8) (qR rfl W8.l) (fun p y=>decide_eq_true (y.get W8.l)) (by rw[aaZ];omega)
  (fun j w H=>∃g r,(dE R)[j]? =some g/\w=.ref r/\H[r]? =some (.lst (iw (g++[0])))/\r≠H8.length) (fun j w H H' h k=>by
   obtain⟨g,r,h1,h2,h3,h4⟩:=h;exact⟨g,r,h1,h2,k r _ h4 h3,h4⟩) (fun σ=>∃o,σ=[o]) ⟨none,rfl⟩ (fun j x hx σ K hS y fc=>by
   obtain⟨o,rfl⟩:=hS;have jf:j<(dE R).length:=by have:=(aac.mp hx).1;rwa [aaZ] at this
   rw[abX jf] at hx;cases hx;obtain⟨g,hg⟩:∃g,(dE R)[j]? =some g:=k0 jf;obtain⟨s,_,Zv⟩:=C5 hg;have Z4:g.length<=2:=by rw[Zv,C6];exact DW R s
   have gk:=y.get (W8.at_ j g hg);have y1:Ex K (K++[.lst [.int 0]]):=Ex.one _ _;refine⟨_,rfl,⟨_,rfl⟩,.ref (K++[PO.lst [.int 0]]).length,(K++[PO.lst [.int 0]])++[.lst (iw g++[.int 0])],op (x:=.ref (ai+1+j)) (ph1:=K) (y:=.ref K.length) (ph2:=K++[.lst [.int 0]]) rfl rfl (wJ (y1.get gk) (bV _ _) (small (by rw[jA];simp;omega))),y1.trans (Ex.one _ _),g,_,hg,rfl,?_,?_⟩
   ·rw[bV,xt];rfl
   ·rw[aaI];simp;omega)
 rw[aaZ] at l9;have xf:Ex H7 H9:=x8.trans x9;have d1:=B9 (H:=H9) (G:=dE R) g9 l9 (fun j w g hw hg=>by
  obtain⟨g',r,h1,h2,h3,_⟩:=q9 j w hw;rw[hg] at h1;cases h1;exact⟨r,h2,h3⟩)
 have d2:=B9 (H:=H9) (G:=dE R) (i:=fi) (xf.get F.l) (by simp) (fun j w g hw hg=>by
  have jf:=(aac.mp hg).1;rw[aak,abX jf] at hw;cases hw;exact⟨_,rfl,xf.get (F.a j g hg (by omega))⟩)
 refine⟨H9,?_⟩;unfold oG mH;rw[gn];refine bq (ph1:=H1) (σ1:=[some (.fl (ns.map W.int)),some (.ref 0),none,none,none,none,none,none,none,none,none,none]) ?_ (bq (ph1:=H1) (σ1:=[some (.fl (ns.map W.int)),some (.ref 0),some (.int q),none,none,none,none,none,none,none,none,none]) ?_ (bq h3 (bq (ph1:=H2) (σ1:=[some (.fl (ns.map W.int)),some (.ref 0),some (.int n),some (.ref H1.length),none,none,none,none,none,none,none,none]) (asg (aB (az rfl (az rfl (az rfl (az rfl rfl)))) e2)) (bq (ph1:=H4) (σ1:=[some (.fl (ns.map W.int)),some (.ref 0),some (.int n),some (.ref H1.length),some (.ref bi),none,none,none,none,none,none,none]) (asg (aB (az (w:=.ref H2.length) (ph1:=H3) (by rw[lB];exact aB (az rfl rfl) (vK g2)) rfl) e4)) (bq (ph1:=H5) (σ1:=[some (.fl (ns.map W.int)),some (.ref 0),some (.int n),some (.ref H1.length),some (.ref bi),some (.ref H4.length),none,none,none,none,none,none]) (by rw[lC];exact asg (aB (az rfl rfl) (vK (x4.get (x3.get g2))))) (bq (ph1:=H6) (σ1:=sl ns n 0 n H1.length bi H4.length fi none none none none none) (asg (aB (az rfl rfl) e6)) (bq (ph1:=H6) (aY (oF (hW (c:=true) (eB (aB rfl (xi W6.l)))) (oF (tB (op (x:=.int ((bE R).length:Int)) (y:=.int ((bE R).length:Int)) (aB (az rfl rfl) ((fq W6.l).trans ?_)) (lb x6) ?_)) (tB (op rfl rfl (Ey (Se (x6.get g5) (x6.get GJ) (Q6 nk ok H6 38))))))) rfl) (bq (ij (rR (j:=((bE R).length:Int)) (az (lb x6) rfl) (by omega) (by omega)) e7) (bq (ph1:=H8) (σ1:=sl ns n 0 n H1.length bi H4.length fi o7 o8 o9 o10 (some (.ref ai))) (asg (aB (az rfl rfl) e8)) (br (op e9 rfl (Ew (US d1 d2)))))))))))))
 ·refine asg (aB (az (cl (i:=0) rfl rfl (by decide)) (az (w:=.int ((m+1:Nat):Int)) ?_ rfl)) e1);rw[show((m+1:Nat):Int)=1+(m:Int) by omega,<- em];exact ad rfl (md (cl (i:=1) rfl rfl (by decide)) rfl (by decide))
 ·rw[<- eq];exact asg (md (dv (cl (i:=1) rfl rfl (by decide)) rfl (by decide) (by decide)) rfl (by decide))
 ·rw[aag,aaZ,ng]
 ·rw[mF,decide_eq_true rfl];rfl
end IL.K05
open PySem PySem.W PyProof.Rows
set_option maxHeartbeats 0 in
theorem PySem.Challenge.cw_boxwright_k05_where_blocks_go_holds : PySem.Challenge.rw_boxwright_k05_where_blocks_go.Holds := by
 w_on
 o_law
 k_head
 (case hw=>w_witness2)
 k_fill
 refine IL.K05.QX (l:=PySem.Challenge.rw_boxwright_k05_where_blocks_go) (fun ns hn=>IL.K05.good ns hn) rfl rfl (fun w h Y=>PySem.W.kIn_of Y) ?K ?T ?F
 case K=>intro w;kernel_rfl
 case T=>
  intro w h Y;refine IL.Sg ?_
  kernel_rfl
 case F=>
  intro w mg fa h KX G hmg;refine' IL.K05.all_mk KX G hmg ?a_law_cell_at ?l_law_cell_at ?c_law_cell_at ?k_law_cell_at ?a_law_names_by ?l_law_names_by ?c_law_names_by ?k_law_names_by ?a_law_number_by ?l_law_number_by ?c_law_number_by ?k_law_number_by ?a_law_jump_by ?l_law_jump_by ?c_law_jump_by ?k_law_jump_by ?a_law_row_by ?l_law_row_by ?c_law_row_by ?k_law_row_by ?a_law_rows_by ?l_law_rows_by ?c_law_rows_by ?k_law_rows_by ?a_is_name ?l_is_name ?c_is_name ?k_is_name ?a_is_number ?l_is_number ?c_is_number ?k_is_number ?a_is_word ?l_is_word ?c_is_word ?k_is_word ?a_is_place ?l_is_place ?c_is_place ?k_is_place ?a_is_part ?l_is_part ?c_is_part ?k_is_part ?a_is_row ?l_is_row ?c_is_row ?k_is_row ?a_parts_of_kind ?l_parts_of_kind ?c_parts_of_kind ?k_parts_of_kind ?a_jumps_back_badly ?l_jumps_back_badly ?c_jumps_back_badly ?k_jumps_back_badly ?a_with_names_of ?l_with_names_of ?c_with_names_of ?k_with_names_of ?a_need_program ?l_need_program ?c_need_program ?k_need_program ?a_beginnings ?l_beginnings ?c_beginnings ?k_beginnings ?a_cut ?l_cut ?c_cut ?k_cut ?a_goes_on ?l_goes_on ?c_goes_on ?k_goes_on ?a_goes ?l_goes ?c_goes ?k_goes ?a_law_due ?l_law_due ?c_law_due ?k_law_due ?a_law_whole ?l_law_whole ?c_law_whole ?k_law_whole ?a_law ?l_law ?c_law ?k_law ?z_all ?z_bool ?z_dict ?z_enumerate ?z_int ?z_isinstance ?z_len ?z_list ?z_range ?z_sorted ?z_str ?z_tuple ?z_zip ?g_FORMS ?gk_FORMS ?g_HALF ?g_LETTERS ?g_MOST_LETTERS ?g_MOST_NAMES ?g_MOST_ROWS ?g_WORDS ?gk_WORDS
  (case a_law_cell_at=>k_is)
  (case l_law_cell_at=>k_is)
  (case c_law_cell_at=>k_is)
  (case k_law_cell_at=>k_is)
  (case a_law_names_by=>k_is)
  (case l_law_names_by=>k_is)
  (case c_law_names_by=>k_is)
  (case k_law_names_by=>k_is)
  (case a_law_number_by=>k_is)
  (case l_law_number_by=>k_is)
  (case c_law_number_by=>k_is)
  (case k_law_number_by=>k_is)
  (case a_law_jump_by=>k_is)
  (case l_law_jump_by=>k_is)
  (case c_law_jump_by=>k_is)
  (case k_law_jump_by=>k_is)
  (case a_law_row_by=>k_is)
  (case l_law_row_by=>k_is)
  (case c_law_row_by=>k_is)
  (case k_law_row_by=>k_is)
  (case a_law_rows_by=>k_is)
  (case l_law_rows_by=>k_is)
  (case c_law_rows_by=>k_is)
  (case k_law_rows_by=>k_is)
  (case a_is_name=>k_is)
  (case l_is_name=>k_is)
  (case c_is_name=>k_is)
  (case k_is_name=>k_is)
  (case a_is_number=>k_is)
  (case l_is_number=>k_is)
  (case c_is_number=>k_is)
  (case k_is_number=>k_is)
  (case a_is_word=>k_is)
  (case l_is_word=>k_is)
  (case c_is_word=>k_is)
  (case k_is_word=>k_is)
  (case a_is_place=>k_is)
  (case l_is_place=>k_is)
  (case c_is_place=>k_is)
  (case k_is_place=>k_is)
  (case a_is_part=>k_is)
  (case l_is_part=>k_is)
  (case c_is_part=>k_is)
  (case k_is_part=>k_is)
  (case a_is_row=>k_is)
  (case l_is_row=>k_is)
  (case c_is_row=>k_is)
  (case k_is_row=>k_is)
  (case a_parts_of_kind=>k_is)
  (case l_parts_of_kind=>k_is)
  (case c_parts_of_kind=>k_is)
  (case k_parts_of_kind=>k_is)
  (case a_jumps_back_badly=>k_is)
  (case l_jumps_back_badly=>k_is)
  (case c_jumps_back_badly=>k_is)
  (case k_jumps_back_badly=>k_is)
  (case a_with_names_of=>k_is)
  (case l_with_names_of=>k_is)
  (case c_with_names_of=>k_is)
  (case k_with_names_of=>k_is)
  (case a_need_program=>k_is)
  (case l_need_program=>k_is)
  (case c_need_program=>k_is)
  (case k_need_program=>k_is)
  (case a_beginnings=>k_is)
  (case l_beginnings=>k_is)
  (case c_beginnings=>k_is)
  (case k_beginnings=>k_is)
  (case a_cut=>k_is)
  (case l_cut=>k_is)
  (case c_cut=>k_is)
  (case k_cut=>k_is)
  (case a_goes_on=>k_is)
  (case l_goes_on=>k_is)
  (case c_goes_on=>k_is)
  (case k_goes_on=>k_is)
  (case a_goes=>k_is)
  (case l_goes=>k_is)
  (case c_goes=>k_is)
  (case k_goes=>k_is)
  (case a_law_due=>k_is)
  (case l_law_due=>k_is)
  (case c_law_due=>k_is)
  (case k_law_due=>k_is)
  (case a_law_whole=>k_is)
  (case l_law_whole=>k_is)
  (case c_law_whole=>k_is)
  (case k_law_whole=>k_is)
  (case a_law=>k_is)
  (case l_law=>k_is)
  (case c_law=>k_is)
  (case k_law=>k_is)
  (case z_all=>k_is)
  (case z_bool=>k_is)
  (case z_dict=>k_is)
  (case z_enumerate=>k_is)
  (case z_int=>k_is)
  (case z_isinstance=>k_is)
  (case z_len=>k_is)
  (case z_list=>k_is)
  (case z_range=>k_is)
  (case z_sorted=>k_is)
  (case z_str=>k_is)
  (case z_tuple=>k_is)
  (case z_zip=>k_is)
  (case g_FORMS=>k_is)
  (case gk_FORMS=>kernel_rfl)
  (case g_HALF=>k_is)
  (case g_LETTERS=>k_is)
  (case g_MOST_LETTERS=>k_is)
  (case g_MOST_NAMES=>k_is)
  (case g_MOST_ROWS=>k_is)
  (case g_WORDS=>k_is)
  (case gk_WORDS=>kernel_rfl)
