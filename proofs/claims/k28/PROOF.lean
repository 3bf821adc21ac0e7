import PyProof.Rows.All
import Wide.All
import OpenK.AllK
import Wide.FinOn
import Lean
import PyProof.EqAt
import PyProof.EqKinds
import PyProof.TupleCall
import KE.KLam
import PyProof.P3Eq
import PyProof.NeData
import PyProof.AttrMissHeap
import KE.KDictOf
import PyProof.DictItems
import PyProof.Rows.Range3
import KE.KEqDict
import PyProof.FactsAll.NoneType_1
import PyProof.FactsAll.bool_1
import KE.KDictSum
import KE.KSorted
import PyProof.ListRange
import PyProof.DictTruth
import PyProof.DictWalks
import PyProof.NeKinds
import PySem.Challenge.RW_boxwright_k28_whole_laid_runs
set_option Elab.async false
set_option linter.all false
set_option maxRecDepth 100000
set_option maxHeartbeats 8000000
noncomputable section
local macro_rules | `(tactic| omega) => `(tactic| lia)
open Array renaming length_toList->afn,append_assoc->afw,toList->agX
open Bool renaming and_eq_true->aco,false_ne_true->acF,or_eq_true->adE,false_and->aeZ,eq_iff_iff->aft,or_false->agI,and_self->agL
open Decidable renaming isFalse->ack,isTrue->acO
open False renaming elim->aeu
open ForInStep renaming yield->adP
open Function renaming comp->aeT,comp_def->agU
open Int renaming fmod_eq_emod_of_nonneg->afv,zero_add->agu,le_refl->agF
open List renaming getElem?_eq_some_iff->abV,length_map->abX,getElem?_map->abY,mem_of_getElem?->acd,replicate->acf,length_append->acg,lookup_cons->acm,mem_map->acq,size_toArray->acs,range->acC,mem_cons->acD,getElem?_append_left->acE,mem_singleton->acG,mem_cons_of_mem->acH,length_range->acI,mem_iff_getElem?->acJ,map_cons->acK,mem_append_right->acR,getElem?_eq_none->acZ,mem_append->adb,mem_range->ade,getElem?_set_self->adg,replicate_succ->adh,map_map->adi,length_cons->adj,all_eq_true->adk,mem_cons_self->adn,append_nil->adp,length_set->adq,mem_filter->adu,find?_cons->adv,mem_append_left->adw,getElem?_set_ne->adx,getD_eq_getElem?_getD->adz,any_cons->adC,map_append->adF,getElem?_eq_getElem->adH,flatten_cons->adN,mem_map_of_mem->adQ,getElem?_append_right->adR,all_cons->adW,getElem?_replicate->aed,getElem_range->aei,nodup_cons->ael,of_mem_zip->aem,length_nil->aen,lookup->aep,idxOf_lt_length_of_mem->aer,ext_getElem?->aew,mem_of_find?_eq_some->aeE,take_length->aeH,filterMap_cons->aeJ,map_congr_left->aeK,nil_append->aeR,nodup_append->aeX,flatMap_cons->aeY,length_replicate->afc,map_nil->afe,length_filter_le->afh,any_eq_true->afj,getElem?_range->afq,getElem?_concat_length->afs,mem_filterMap->afx,pairwise_cons->afz,getLast?_eq_getElem?->afC,append_assoc->afG,find?_isSome->afK,any_eq_false->afL,getElem?_cons_succ->afV,getElem?_cons_zero->afW,getLast?_cons_cons->afX,filter_cons->afY,zipWith_map_right->agd,set_append_right->agm,length_zip->agq,zipWith_map_left->agr,filterMap_eq_map->ags,filterMap_filter->agt,mem_of_getLast?->agA,drop_drop->agC,any_map->agY
open List.Pairwise renaming filter->aez,map->agV
open List.cons renaming inj->agJ
open Nat renaming le_refl->abZ,lt_of_lt_of_le->aca,le_trans->acl,ne_of_lt->acL,zero_add->acX,zero_le->adI,lt_irrefl->adJ,ne_of_gt->adL,lt_succ_self->adS,lt_of_le_of_lt->adU,le_of_ble_eq_true->adX,mul_le_mul->aeF,le_of_lt->aeL,le_succ->aeW,succ_mul->aff,le_succ_of_le->afJ,add_comm->agh,strongRecOn->agn,not_lt_zero->agp,mul_le_mul_right->agz
open Nat.succ renaming inj->ago
open Ne renaming symm->aej
open Option renaming map_eq_some_iff->ace,map_some->acS,isSome_iff_exists->ads,bind_some->ady,some->adY,isSome_map->aec,bind_eq_some_iff->afT
open Option.some renaming inj->acY
open PyProof.Rows renaming callWith_type1->aek,boot_int->aeq,envOfC->aeB,AllBare->afN,boot_list->agc,IntsAre->agg
open PyProof.Rows.IntsAre renaming length->agE
open PySem renaming Shared->acb,mainGlobals->ach,sizeLine->acv,wpAny_bind->acx,starEach->acM,FuncData->acP,wpAny_pure->ada,foldedSetIterable->adf,Program->adl,wpAny_mono->adm,compareOp->ado,boot_len->adt,assignEach->adA,mem_of_lookup->adB,bootBuiltins->adD,behindInMarks->adT,tupleKind_room_in1->adV,sysModules->adZ,wpAny_passesOwn->aea,Around->aeg,wpAny_Call_Name_kw->aeh,TriplesOk->aeo,wpAny_truthy_bool->aes,NameKind->aet,closureFor->aev,wpAny_newFunctionEnv_cells->aex,swapsWith->aeA,PyData->aeC,binaryOp->aeG,wpAny_holding->aeQ,sliceBounds->aeV,Paired->afa,codeAny_call_function->afd,codeAny_mono->afg,wpAny_execs_cons->afi,backTo->afk,lookup_relabel_local->afl,builtinsNs->afm,wpAny_execs_nil->afo,letOwnedTupleGo->afp,codeAny_builtin->afr,tupleKind->afD,call_meets->afH,attributeBase->afP,cellsFrom->agf,call_meetsIn->agi,codeAmong->agj,assign->agB,PassesOwn->agH,PlainAttrs->agP,valueAt->agQ,defaultsOf->agT
open PySem.Around renaming under_plainId->aey,frames_deeper->agx
open PySem.Builtin.Dict renaming updateFrom->afU,pairItems->agb
open PySem.Builtin.List renaming listTooLong->aeb
open PySem.Calls renaming Name_function_global->afu
open PySem.F renaming plainAttrs_list->acz,slot_dict_get->acB,plainAttrs_dict->acQ,slot_list_append->acT,type_list_append->acU,type_dict_get->acV,entry_dict_get->aef,slot_list_getattribute->aeN,slot_list_extend->aeO,type_list_extend->aeP,args_tuple_add_2->afF,entry_tuple_add->afO,args_dict_get_2->afQ,args_dict_get_3->afR,slot_tuple_add->afZ
open PySem.Heap renaming get?_push_of_some->aci,lt_size->acj,get?_push_size->acN,SameBut->afb,get?_update_other->aga,get?_none_of_le->agw
open PySem.Heap.DictOf renaming new->ahb
open PySem.NameKind renaming free->acy,cell->adK,globalImplicit->afS
open PySem.Obj renaming mapSeq->agv
open PySem.Paired renaming length->afM
open PySem.PassesOwn renaming never->agk,leaving->agS
open PySem.PyData renaming eqv->acW,strOk->aeM,eqvAll->aeS,canLay0->afB,canLayAll0->agR,int->agW
open PySem.SeqAt renaming eqBoolOverData->agy
open PySem.Str renaming ofString->acu,ofString_eq_toList->aeU
open PySem.Value renaming ref->adO,none->agO
open PySem.W renaming Frag->abW,keepIn->acn,nsIn->acp,codeIn->acr,fnOf->acw,mg_of->acA,mg_none_of->adG,tabObj->adM,cellsFrom_some->aee,CodeHd->aeD,hideAll_get->aeI,codeRec_of->afy,kla_fn->afA,methodObj->afE,hideAll->age,OpenLaw->agl,noTabs->agD,of_hideAll->agG,callWith_K->agK,kdl_dict->agZ,km_in_of->aha
open Sum renaming inl->agM,inr->agN
open True renaming intro->afI
namespace L2
open PySem PySem.Spec PyProof.Rows
abbrev Key:=Sum Int Str
noncomputable def pF:Key->Value->Bool
 | .inl k,v=>Value.isInt k v
 | .inr x,v=>Value.isStrOf x v
noncomputable def Ac(w:World):Key->Int
 | .inl k=>hashInt k
 | .inr x=>hashStr w x
theorem jD:∀{k:Key} {v:Value},pF k v=true->(∃i t,k=agM i/\v=Value.int i t)\/(∃x t,k=agN x/\v=Value.str x t)
 | .inl i,v,h=>by
  obtain⟨t,e⟩:=Value.isInt_shape (k:=i) (v:=v) h;exact .inl ⟨i,t,rfl,e⟩
 | .inr x,v,h=>by
  obtain⟨t,e⟩:=Value.isStrOf_shape (x:=x) (v:=v) h;exact .inr ⟨x,t,rfl,e⟩
theorem S3(i:Int)(t:Tok):pF (.inl i) (.int i t)=true:=by simp[pF,Value.isInt]
theorem S4(x:Str)(t:Tok):pF (.inr x) (.str x t)=true:=by simp[pF,Value.isStrOf]
theorem Xh(a b:Int):decide ((agM a:Key)=agM b)=(a==b):=by
 by_cases e:a=b
 ·subst e;simp
 ·have h:¬(agM a:Key)=agM b:=fun q=>e (Sum.inl.inj q)
  rw[decide_eq_false h];exact(beq_eq_false_iff_ne.mpr e).symm
theorem Xi(a b:Str):decide ((agN a:Key)=agN b)=decide (a=b):=by
 by_cases e:a=b
 ·subst e;simp
 ·have h:¬(agN a:Key)=agN b:=fun q=>e (Sum.inr.inj q)
  rw[decide_eq_false h,decide_eq_false e]
theorem Xj(a:Int)(b:Str):decide ((agM a:Key)=agN b)=false:=decide_eq_false (fun q=>nomatch q)
theorem Xk(a:Str)(b:Int):decide ((agN a:Key)=agM b)=false:=decide_eq_false (fun q=>nomatch q)
noncomputable def dr(prog:adl)(w:World):PySem.KeyKind prog w Key where
 is:=pF
 hash:=Ac w
 inj:=fun v a b ha hb=>by
  rcases jD ha with⟨i,t,rfl,rfl⟩ | ⟨x,t,rfl,rfl⟩
  ·rcases jD hb with⟨j,u,rfl,e⟩ | ⟨y,u,rfl,e⟩
   ·injection e with e1 _;rw[e1]
   ·exact nomatch e
  ·rcases jD hb with⟨j,u,rfl,e⟩ | ⟨y,u,rfl,e⟩
   ·exact nomatch e
   ·injection e with e1 _;rw[e1]
 byValue:=fun k v h=>by
  rcases jD h with⟨i,t,rfl,rfl⟩ | ⟨x,t,rfl,rfl⟩ <;> rfl
 pyHash:=fun hv h=>by
  rcases jD hv with⟨i,t,rfl,rfl⟩ | ⟨x,t,rfl,rfl⟩
  ·exact wpAny_pyHash_int h
  ·exact wpAny_pyHash_str h
 eqBool:=fun hu hv h=>by
  rcases jD hu with⟨i,t,rfl,rfl⟩ | ⟨x,t,rfl,rfl⟩
  ·rcases jD hv with⟨j,u,rfl,rfl⟩ | ⟨y,u,rfl,rfl⟩
   ·rw[Xh] at h;exact wpAny_eqBool_int h
   ·rw[Xj] at h;exact SeqAt.EqAt.int_str i t y u _ _ _ _ h
  ·rcases jD hv with⟨j,u,rfl,rfl⟩ | ⟨y,u,rfl,rfl⟩
   ·rw[Xk] at h;exact SeqAt.EqAt.str_int x t j u _ _ _ _ h
   ·rw[Xi] at h;exact wpAny_eqBool_str h
 «strs»:=fun k x t v h=>by
  rcases jD h with⟨i,u,rfl,e⟩ | ⟨y,u,rfl,e⟩
  ·exact nomatch e
  ·injection e with e1 _
   subst e1;cases v <;> rfl
theorem Ru(prog:adl)(w:World)(i:Int)(t:Tok):(dr prog w).is (.inl i) (.int i t)=true:=S3 i t
theorem Rv(prog:adl)(w:World)(x:Str)(t:Tok):(dr prog w).is (.inr x) (.str x t)=true:=S4 x t
inductive V where
 | aI | bl (b:Bool) | int (i:Int) | str (x:Str) | AD (b:Array UInt8) | AE (b:UInt64) | ref (a:Addr) | ty (n:String)
 deriving DecidableEq
noncomputable def RelV:V->Value->Prop
 | .aI,u=>u=agO
 | .bl b,u=>u=Value.bool b
 | .int i,u=>∃t,u=Value.int i t
 | .str x,u=>∃t,u=Value.str x t
 | .AD b,u=>∃t,u=Value.bytes b t
 | .AE b,u=>∃t,u=Value.float b t
 | .ref a,u=>u=adO a
 | .ty n,u=>u=Value.type n
abbrev Vals:List V->List Value->Prop:=afa RelV
theorem Vals.length{xs:List V}{us:List Value}(r:Vals xs us):xs.length=us.length:=afM r
theorem Vals.get:∀{xs:List V} {us:List Value} {i:Nat} {x:V},Vals xs us->xs[i]? =some x->∃u,us[i]? =some u/\RelV x u
 | _,_,_,_,.nil,e=>by simp at e
 | _,_,0,_,.cons r _,e=>by simp at e;subst e;exact⟨_,rfl,r⟩
 | _,_,i+1,x,.cons _ t,e=>by
  obtain⟨u,h1,h2⟩:=Vals.get (i:=i) (x:=x) t (by simpa using e);exact⟨u,by simpa using h1,h2⟩
theorem Vals.set{x:V}{u:Value}(r:RelV x u):∀{xs:List V} {us:List Value} (i:Nat),Vals xs us->Vals (xs.set i x) (us.set i u)
 | _,_,_,.nil=>.nil
 | _,_,0,.cons _ t=>.cons r t
 | _,_,i+1,.cons q t=>.cons q (Vals.set r i t)
theorem Vals.append:∀{xs ys:List V} {us ws:List Value},Vals xs us->Vals ys ws->Vals (xs++ys) (us++ws)
 | _,_,_,_,.nil,s=>s
 | _,_,_,_,.cons r t,s=>.cons r (Vals.append t s)
theorem Vals.take:∀{xs:List V} {us:List Value} (n:Nat),Vals xs us->Vals (xs.take n) (us.take n)
 | _,_,0,_=>.nil
 | _,_,_+1,.nil=>.nil
 | _,_,n+1,.cons r t=>.cons r (Vals.take n t)
theorem Vals.drop:∀{xs:List V} {us:List Value} (n:Nat),Vals xs us->Vals (xs.drop n) (us.drop n)
 | _,_,0,r=>r
 | _,_,_+1,.nil=>.nil
 | _,_,n+1,.cons _ t=>Vals.drop n t
noncomputable def iq:Option V->Option Value->Prop
 | some v,some u=>RelV v u
 | none,none=>True
 | _,_=>False
noncomputable def KV{κ:Type}:List (κ×V)->List (κ×Value)->Prop:=afa fun(p:κ×V) (q:κ×Value)=>p.1=q.1/\RelV p.2 q.2
noncomputable def kV:Key->V
 | .inl i=>.int i
 | .inr x=>.str x
noncomputable def uA:V->Option Key
 | .int i=>some (.inl i)
 | .bl b=>some (.inl (if b then 1 else 0))
 | .str x=>some (.inr x)
 | _=>none
noncomputable def Iw:List V->Option (List Key)
 | []=>some []
 | v::vs=>match uA v,Iw vs with
  | some k,some ks=>some (k::ks)
  | _,_=>none
inductive HO where
  | lst (xs:List V)
  | tup (xs:List V)
  | dK (kvs:List (Key×V)) | dT (kvs:List (List Key×V))
  | dU (kvs:List (V×V))
  | set (S:Int->Bool) (n:Nat)
  | ins (C dx:Addr) (fs:List (Str×V))
  | own (x:Addr)
  | xd (fs:List (Str×V))
  | met (f x:Addr)
  | AF (lo hi:Int)
  | aV (o:Obj) (u:HO)
  | c4 (ps:Array Value)
  | ext (φ:Heap->Prop)
abbrev Hp:=Addr->Option HO
noncomputable def upd(H:Hp)(a:Addr)(o:HO):Hp:=fun b=>if b=a then some o else H b
variable{H:Hp}{a:Addr}{o:HO}
theorem bQ:upd H a o a=some o:=by unfold upd;rw[if_pos rfl]
variable{b:Addr}
theorem aT(h:b≠a):upd H a o b=H b:=by unfold upd;rw[if_neg h]
variable{u:HO}
theorem rh:upd (upd H a o) a u=upd H a u:=by
 funext b;unfold upd;split <;> rfl
theorem ij(h:H a=some o)(h':H b=some u)(d:o≠u):a≠b:=by
 intro e;subst e;rw[h] at h';exact d (acY h')
theorem ce(h:H a=some o)(h':H b=none):a≠b:=by
 intro e;subst e;rw[h] at h';cases h'
section
variable(P:adl)(w:World)
noncomputable def dG(H:Hp)(h:Heap)(a:Addr):HO->Prop
 | .lst xs=>xs.length<=acv/\∃(its:List Value) (n:Nat),Vals xs its/\h.get? a=some { cls:=.type "list",data:=.seq its.toArray n }
 | .tup xs=>xs.length<=acv/\∃its:List Value,Vals xs its/\IsTup h a its.toArray
 | .dK kvs=>kvs.length<=acv/\(a==adZ)=false/\∃vs,KV kvs vs/\h.DictOf (dr P w) a vs
 | .dT kvs=>kvs.length<=acv/\(a==adZ)=false/\∃xs:List (List Key×Addr×Value),
   afa (fun(p:List Key×V) (q:List Key×Addr×Value)=>p.1=q.1/\H q.2.1=some (.tup (p.1.map kV))/\RelV p.2 q.2.2) kvs xs /\
   ∃o es ep,h.get? a=some o/\o.ExactDict/\o.data=.dict es ep/\es.toList=xs.map (entryOfKey (afD (dr P w)))/\(xs.map (·.1)).Nodup
 | .dU kvs=>kvs.length<=acv/\(a==adZ)=false/\∃o es ep,h.get? a=some o/\o.ExactDict/\o.data=.dict es ep/\afa (fun(p:V×V) (e:DictEntry)=>RelV p.1 e.key/\RelV p.2 e.val /\
   ((∃k,uA p.1=some k/\e.hash=Ac w k)\/∃b ts ks,p.1=.ref b/\H b=some (.tup ts)/\Iw ts=some ks/\e.hash=tupleKeyHash (dr P w) ks)) kvs es.toList
 | .set S n=>h.SetOf (intKind P w) a S n
 | .ins C dx fs=>H dx=some (.own a)/\fs.length<=1000/\dx≠a/\h.get? a=some (PySem.W.instObj C dx) /\
   ∃mA,h.Ns1 dx mA/\(∀f,iq (fs.lookup f) (mA f))/\PySem.Within mA (fs.map (·.1))
 | .own _=>∃o,h.get? a=some o
 | .xd fs=>∃mA,h.Ns1 a mA/\∀f,iq (fs.lookup f) (mA f)
 | .AF lo hi=>∃t u v,h.get? a=some { cls:=.type "range",data:=.fields #[.int lo t,.int hi u,.int 1 v] }
 | .aV o u=>h.get? a=some o/\dG H h a u
 | .c4 ps=>h.get? a=some { cls:=.none,data:=.fields ps }
 | .met f x=>h.get? a=some (afE (.ref f) (.ref x))
 | .ext φ=>φ h/\(∃o,h.get? a=some o)/\∀h1 h2:Heap,φ h1->(∀o,h1.get? a=some o->h2.get? a=some o)->φ h2
noncomputable def cj(H:Hp)(h:Heap):Prop:=∀a o,H a=some o->dG P w H h a o
end
section
variable{P:adl}{w:World}{H H':Hp}{h h':Heap}{a:Addr}{o:HO}
theorem dG.lt(x:dG P w H h a o):a<h.objs.size:=by
 cases o with
 | lst xs=>obtain⟨_,_,_,_,e⟩:=x;exact acj e
 | tup xs=>obtain⟨_,_,_,p⟩:=x;exact p.lt
 | dK kvs=>obtain⟨_,_,_,_,o,_,_,e,_⟩:=x;exact acj e
 | dT kvs=>obtain⟨_,_,_,_,o,_,_,e,_⟩:=x;exact acj e
 | dU kvs=>obtain⟨_,_,o,_,_,e,_⟩:=x;exact acj e
 | set S n=>obtain⟨o,_,_,_,e,_⟩:=x;exact acj e
 | ins C dx fs=>obtain⟨_,_,_,e,_⟩:=x;exact acj e
 | own y=>obtain⟨_,e⟩:=x;exact acj e
 | xd fs=>obtain⟨_,⟨_,_,_,e,_⟩,_⟩:=x;exact acj e
 | AF lo hi=>obtain⟨_,_,_,e⟩:=x;exact acj e
 | aV ob u=>obtain⟨e,_⟩:=x;exact acj e
 | c4 ps=>exact acj (show h.get? a=some _ from x)
 | met f y=>exact acj (show h.get? a=some _ from x)
 | ext φ=>obtain⟨_,⟨_,e⟩,_⟩:=x;exact acj e
theorem afa.lw{α β:Type}{F G:α->β->Prop}:∀{Ka:List α} {Kb:List β},afa F Ka Kb->(∀a b,F a b->G a b)->afa G Ka Kb
 | _,_,.nil,_=>.nil
 | _,_,.cons r t,f=>.cons (f _ _ r) (afa.lw t f)
theorem dG.ir(x:dG P w H h a o)(k:∀b u,(b=a\/H b=some (.own a))->h.get? b=some u->h'.get? b=some u)
  (ho:∀b,H b=some (.own a)->H' b=some (.own a)) (ht:∀b xs,H b=some (.tup xs)->H' b=some (.tup xs)):dG P w H' h' a o:=by
 induction o with
 | lst xs=>obtain⟨z,its,n,r,e⟩:=x;exact⟨z,its,n,r,k _ _ (.inl rfl) e⟩
 | tup xs=>obtain⟨z,its,r,ob,e,c⟩:=x;exact⟨z,its,r,ob,k _ _ (.inl rfl) e,c⟩
 | dK kvs=>obtain⟨z,y,vs,r,ob,es,ep,e,c⟩:=x;exact⟨z,y,vs,r,ob,es,ep,k _ _ (.inl rfl) e,c⟩
 | dT kvs=>
  obtain⟨z,y,xs,r,ob,es,ep,e,c⟩:=x;exact⟨z,y,xs,afa.lw r fun p q z=>⟨z.1,ht _ _ z.2.1,z.2.2⟩,ob,es,ep,k _ _ (.inl rfl) e,c⟩
 | dU kvs=>
  obtain⟨z,y,ob,es,ep,e,c1,c2,r⟩:=x;exact⟨z,y,ob,es,ep,k _ _ (.inl rfl) e,c1,c2,afa.lw r fun p q z=>⟨z.1,z.2.1,z.2.2.imp_right fun⟨b,ts,ks,h1,h2,h3⟩=>⟨b,ts,ks,h1,ht _ _ h2,h3⟩⟩⟩
 | set S n=>obtain⟨ob,es,ep,t,e,c⟩:=x;exact⟨ob,es,ep,t,k _ _ (.inl rfl) e,c⟩
 | ins C dx fs=>
  obtain⟨d,z,ne,e,mA,⟨od,es,ep,e2,c⟩,r⟩:=x;exact⟨ho _ d,z,ne,k _ _ (.inl rfl) e,mA,⟨od,es,ep,k _ _ (.inr d) e2,c⟩,r⟩
 | own y=>obtain⟨ob,e⟩:=x;exact⟨ob,k _ _ (.inl rfl) e⟩
 | xd fs=>obtain⟨mA,⟨od,es,ep,e,c⟩,r⟩:=x;exact⟨mA,⟨od,es,ep,k _ _ (.inl rfl) e,c⟩,r⟩
 | AF lo hi=>obtain⟨t,u,v,e⟩:=x;exact⟨t,u,v,k _ _ (.inl rfl) e⟩
 | aV ob u ih=>obtain⟨e,q⟩:=x;exact⟨k _ _ (.inl rfl) e,ih q⟩
 | c4 ps=>
  have e:h.get? a=some { cls:=.none,data:=.fields ps }:=x;show h'.get? a=some { cls:=.none,data:=.fields ps };exact k a _ (.inl rfl) e
 | met f y=>
  have e:h.get? a=some (afE (.ref f) (.ref y)):=x;show h'.get? a=some (afE (.ref f) (.ref y));exact k a _ (.inl rfl) e
 | ext φ=>obtain⟨p,⟨o,e⟩,st⟩:=x;exact⟨st _ _ p fun o q=>k _ _ (.inl rfl) q,⟨o,k _ _ (.inl rfl) e⟩,st⟩
theorem cj.lt(x:cj P w H h)(e:H a=some o):a<h.objs.size:=(x a o e).lt
theorem cj.fresh(x:cj P w H h)(e:h.objs.size<=a):H a=none:=by
 cases q:H a with
 | none=>rfl
 | some u=>exact absurd (aca (x.lt q) e) (adJ _)
theorem cj.kept(x:cj P w H h)(k:∀b u,h.get? b=some u->h'.get? b=some u):cj P w H h':=fun a o e=>
 (x a o e).ir (fun b u _ q=>k b u q) (fun _ q=>q) fun _ _ q=>q
theorem cj.laid(x:cj P w H h)(k:∀b u,h.get? b=some u->h'.get? b=some u)(hp:h.objs.size<=a)(new:dG P w (upd H a o) h' a o):cj P w (upd H a o) h':=fun b u e=>by
 have hn:=x.fresh hp;by_cases hb:b=a
 ·subst hb;rw[bQ] at e;cases e;exact new
 ·rw[aT hb] at e;exact(x b u e).ir (fun c v _ q=>k c v q) (fun c q=>by rw[aT (ce q hn)];exact q) fun c xs q=>by rw[aT (ce q hn)];exact q
end
noncomputable def Rd(H:Hp)(a:Addr)(u:HO):Prop:=H a=some u\/∃o,H a=some (.aV o u)
variable{P:adl}{h:Heap}
theorem Rd.ok{w:World}(r:Rd H a u)(x:cj P w H h):dG P w H h a u:=by
 rcases r with r | ⟨o,r⟩
 ·exact x a u r
 ·obtain⟨_,q⟩:=x a _ r;exact q
noncomputable def ky:Option HO->Prop
 | some (.lst _)=>True
 | some (.dK _)=>True
 | some (.dT _)=>True
 | some (.dU _)=>True
 | some (.set _ _)=>True
 | some (.ins _ _ _)=>True
 | some (.ext _)=>True
 | _=>False
section
variable{P:adl}{w:World}{H:Hp}{h h':Heap}{x e:Addr}{o':HO}
theorem cj.write(ok:cj P w H h)(mu:ky (H x))(he:e=x\/H e=some (.own x))(k:∀b u,b≠e->h.get? b=some u->h'.get? b=some u)(qg:∃u,h'.get? e=some u)
  (new:dG P w (upd H x o') h' x o'):cj P w (upd H x o') h':=fun b u q=>by
 have Hw:∀c y,H c=some (.own y)->c≠x:=fun c y r z=>by subst z;rw[r] at mu;exact mu
 have aaH:∀c xs,H c=some (.tup xs)->c≠x:=fun c xs r z=>by subst z;rw[r] at mu;exact mu
 by_cases hb:b=x
 ·subst hb;rw[bQ] at q;cases q;exact new
 ·rw[aT hb] at q;by_cases nW:b=e
  ·have q':H b=some (.own x):=by
    rcases he with z | z
    ·exact absurd (nW.trans z) hb
    ·rw[nW];exact z
   rw[q] at q';cases q';obtain⟨v,hv⟩:=qg;exact⟨v,by rw[nW];exact hv⟩
  ·refine(ok b u q).ir (fun c v hc r=>k c v ?_ r) (fun c r=>by rw[aT (Hw c b r)];exact r) fun c xs r=>by rw[aT (aaH c xs r)];exact r
   rcases hc with rfl | hc
   ·exact nW
   ·rintro rfl
    rcases he with z | z
    ·exact Hw c b hc z
    ·rw[hc] at z;cases z;exact hb rfl
end
structure Un(fs ex:List Addr)(H H':Hp)(h h':Heap):Prop where
 keep:∀b o,h.get? b=some o->H b=none->b∉fs->b∉ex->h'.get? b=some o
 slot:∀b o,h.get? b=some o->H b=none->b∈fs->b∉ex->∃sl,h'.get? b=some { o with slots:=sl }
 free:∀b o,h.get? b=some o->H b=none->b∉ex->H' b=none
 there:∀b o,h.get? b=some o->b∉ex->∃o',h'.get? b=some o'
 fk:∀b xs,H b=some (.tup xs)->H' b=some (.tup xs)
 er:∀b o u,H b=some (.aV o u)->H' b=some (.aV o u)
 fq:∀b ps,H b=some (.c4 ps)->∃more,H' b=some (.c4 (ps++more))
section
variable{fs fs' ex ex':List Addr}{H H1 H2:Hp}{h h1 h2 h':Heap}{a x e:Addr}{o:HO}
theorem Un.any(u:Un fs ex H H1 h h1){b:Addr}{ob:Obj}(q:h.get? b=some ob)(n:H b=none)(hx:b∉ex):∃sl,h1.get? b=some { ob with slots:=sl }:=by
 by_cases hb:b∈fs
 ·exact u.slot b ob q n hb hx
 ·exact⟨ob.slots,u.keep b ob q n hb hx⟩
theorem Un.kept(k:∀b u,h.get? b=some u->h'.get? b=some u):Un fs ex H H h h':=
 ⟨fun b ob q _ _ _=>k b ob q,fun b ob q _ _ _=>⟨ob.slots,k b ob q⟩,fun _ _ _ n _=>n,fun b ob q _=>⟨ob,k b ob q⟩,fun _ _ q=>q,fun _ _ _ q=>q,fun _ ps q=>⟨#[],by rw[q];simp⟩⟩
theorem Un.refl:Un fs ex H H h h:=Un.kept fun _ _ q=>q
theorem Un.laid(k:∀b u,h.get? b=some u->h'.get? b=some u)(hp:h.objs.size<=a)(hn:H a=none):Un fs ex H (upd H a o) h h' where
 keep:=fun b u q _ _ _=>k b u q
 slot:=fun b u q _ _ _=>⟨u.slots,k b u q⟩
 free:=fun b u q n _=>by rw[aT (acL (aca (acj q) hp))];exact n
 there:=fun b u q _=>⟨u,k b u q⟩
 fk:=fun b xs q=>by rw[aT (ce q hn)];exact q
 er:=fun b u xs q=>by rw[aT (ce q hn)];exact q
 fq:=fun b ps q=>⟨#[],by rw[aT (ce q hn),q];simp⟩
theorem Un.write(mu:ky (H x))(he:e=x\/H e=some (.own x))(k:∀b u,b≠e->h.get? b=some u->h'.get? b=some u)(qg:∃u,h'.get? e=some u):Un fs ex H (upd H x o) h h':=by
 have hx:∀b,H b=none->b≠x:=fun b n z=>by subst z;rw[n] at mu;exact mu
 have hb:∀b,H b=none->b≠e:=fun b n z=>by
  subst z
  rcases he with r | r
  ·exact hx b n r
  ·rw[n] at r;cases r
 have hm:∀b u,H b=some u->¬ky (some u)->b≠x:=fun b u q nm z=>by subst z;rw[q] at mu;exact nm mu
 refine⟨fun b u q n _ _=>k b u (hb b n) q,fun b u q n _ _=>⟨u.slots,k b u (hb b n) q⟩,fun b u q n _=>by rw[aT (hx b n)];exact n,fun b u q _=>?_,
  fun b xs q=>by rw[aT (hm b _ q fun z=>z)];exact q,fun b u xs q=>by rw[aT (hm b _ q fun z=>z)];exact q,fun b ps q=>⟨#[],by rw[aT (hm b _ q fun z=>z),q];simp⟩⟩
 by_cases nW:b=e
 ·subst nW;exact qg
 ·exact⟨u,k b u nW q⟩
end
noncomputable def wL(h:Heap)(H:Hp):List Addr:=(acC h.objs.size).filter fun a=>(H a).isSome
noncomputable def ko(h:Heap)(H:Hp):Heap:=age h (wL h H)
theorem S5(h:Heap)(H:Hp):(ko h H).objs.size=h.objs.size:=PySem.W.hideAll_size _ _
theorem Uu{o:Obj}(e:h.get? b=some o)(n:H b=none):(ko h H).get? b=some o:=
 aeI _ e fun hm=>by
  have q:(H b).isSome=true:=(adu.mp hm).2;rw[n] at q;simp at q
theorem Vs{o:Obj}(e:(ko h H).get? b=some o):h.get? b=some o/\H b=none:=by
 have e':h.get? b=some o:=agG (wL h H) e;refine⟨e',?_⟩;cases q:H b with
 | none=>rfl
 | some x=>
  have hm:b∈wL h H:=adu.mpr ⟨ade.mpr (acj e'),by simp[q]⟩;have z:(ko h H).get? b=none:=PySem.W.hideAll_none (wL h H) hm;rw[z] at e;cases e
noncomputable def Vt(g h:Heap)(L:Addr):List (Addr×Obj):=(acC h.objs.size).filterMap fun a=>if a=L\/(g.get? a).isSome=true then none else(h.get? a).map fun o=>(a,o)
noncomputable def rest(g h:Heap)(L d:Addr):List (Addr×Obj):=(Vt g h L).filter fun p=>decide (p.1≠d)
structure Mod(K:abW)(mg:Str->Option Value)(base:Heap):Prop where
 qh:K.In base
 glob:base.Ns ach mg
 blt:∃mb,base.Ns afm mb/\∀x:Str,x≠"__name__"->mb x=adD x
 nolimit:base.NoLimit
 bm:∃bm ob,mg "__builtins__"=some (.ref bm)/\bm≠afm/\base.get? bm=some ob/\ob.cls=.type "module"/\ob.dict=some afm/\ob.data=.plain
structure Cx where
 prog:adl
 w:World
 K:abW
 mg:Str->Option Value
 base:Heap
 A:aeg
 N:List Str
 aK:acb
 aR:Hp
 env:Env
 outer:List Env
 stack:List Env
 ex:List Addr
 fn:Str->Bool
 calm:Bool
 pn:List (Addr×Obj)
 xe:Value->acb->Prop
noncomputable def dZ(l:List Env):List Addr:=l.filterMap (·.frame)
abbrev Cx.fs(X:Cx):List Addr:=dZ X.outer
noncomputable def aA(sc:Scope)(x:Str):Prop:=sc.names.lookup x=some .local\/sc.names.lookup x=some .cell\/sc.names.lookup x=some .free
noncomputable def Loc(sc:Scope)(x:Str):Prop:=sc.names.lookup x=some .local\/sc.names.lookup x=some .cell
noncomputable def Look(env:Env)(h:Heap)(m:Str->Option Value)(x:Str)(u:Value):Prop:=
 (env.kindOf x=some .local/\m x=some u)\/((env.kindOf x=some .cell\/env.kindOf x=some .free)/\∃c,env.cells.lookup x=some c/\h.IsCell c (some u))
structure Cx.Ok(X:Cx):Prop where
 mod:Mod X.K X.mg X.base
 kind:X.env.scope.kind=.function
 glob:X.env.globals=ach
 blt:X.env.builtins=afm
 above:X.aK.heap.objs.size<=X.env.locals
 inj:∀x y c,X.env.cells.lookup x=some c->X.env.cells.lookup y=some c->x=y
 has:∀x,(X.env.kindOf x=some .cell\/X.env.kindOf x=some .free)->∃c,X.env.cells.lookup x=some c
 qj:∀x c,X.fn x=true->X.env.cells.lookup x=some c->X.aK.heap.objs.size<=c
 hd:X.calm=true->X.A.handled=none
 frames:X.A.frames=some X.stack
 sj:X.stack=X.outer\/(X.stack=X.env::X.outer/\X.env.frame=some X.env.locals)
 AG:∀b∈X.ex,b≠X.env.locals/\∀x c,X.env.cells.lookup x=some c->c≠b
 bs:∀b o,X.base.get? b=some o->X.aK.heap.get? b=some o/\X.aR b=none
 jS:X.base.objs.size<=X.aK.heap.objs.size
 pP:∀b o,X.base.get? b=some o->b∉X.ex
 pQ:∀b∈X.ex,b∉X.fs
 fF:X.aK.heap.FunFrames X.base X.outer
 lM:∀b∈X.fs,X.aR b=none
structure Inv(X:Cx)(pins:List (Addr×Obj))(σ:List (Option V))(H:Hp)(s:acb):Prop where
 ok:X.Ok
 os:s.os=X.aK.os
 bare:afN s.gens
 base:Un X.fs X.ex X.aR H X.aK.heap s.heap
 loc:∃m,s.heap.Ns X.env.locals m/\∀(i:Nat) (x:Str) (v:V),X.N[i]? =some x->σ[i]? =some (some v)->aA X.env.scope x->∃u,RelV v u/\Look X.env s.heap m x u
 cell:∀x c,X.env.cells.lookup x=some c->∃v,s.heap.IsCell c v
 free:H X.env.locals=none
 gO:∀x c,X.env.cells.lookup x=some c->(X.fn x=true->H c=none)/\(H c=none\/∃o,H c=some (.aV o (.ext fun _=>True)))
 pin:∀p∈X.pn++pins,s.heap.get? p.1=some p.2/\H p.1=none/\p.1≠X.env.locals/\p.1∉X.fs/\∀v,p.2.data≠.cell v
 aG:cj X.prog X.w H s.heap
 len:σ.length=X.N.length
section
variable{X:Cx}{pins:List (Addr×Obj)}{σ:List (Option V)}{H H':Hp}{s:acb}{h':Heap}
theorem Cx.Ok.aaI(ok:X.Ok){b:Addr}{o:Obj}(e:X.base.get? b=some o):b∉X.fs:=fun hb=>by
 have:=(ok.fF.mem hb).1;rw[e] at this;cases this
theorem Inv.bs(I:Inv X pins σ H s):∀b o,X.base.get? b=some o->s.heap.get? b=some o/\H b=none:=fun b o e=>
 ⟨I.base.keep b o (I.ok.bs b o e).1 (I.ok.bs b o e).2 (I.ok.aaI e) (I.ok.pP b o e),I.base.free b o (I.ok.bs b o e).1 (I.ok.bs b o e).2 (I.ok.pP b o e)⟩
theorem Inv.bk(I:Inv X pins σ H s):∀b o,X.base.get? b=some o->s.heap.get? b=some o:=fun b o e=>(I.bs b o e).1
theorem Inv.mod(I:Inv X pins σ H s):Mod X.K X.mg X.base:=I.ok.mod
theorem Inv.kA(I:Inv X pins σ H s):X.K.In s.heap:=I.ok.mod.qh.keeps I.bk
theorem Inv.nolimit(I:Inv X pins σ H s):s.heap.NoLimit:=I.ok.mod.nolimit.keeps I.bk
theorem Inv.lt(I:Inv X pins σ H s):X.env.locals<s.heap.objs.size:=let ⟨_,hn,_⟩:=I.loc;hn.lt
theorem Inv.sz(I:Inv X pins σ H s):X.aK.heap.objs.size<=s.heap.objs.size:=acl I.ok.above (aeL I.lt)
theorem Inv.aaJ(I:Inv X pins σ H s){a:Addr}(h:s.heap.objs.size<=a):a∉X.fs:=fun hb=>by
 obtain⟨_,o,ho,_⟩:=I.ok.fF.mem hb;exact absurd (aca (acj ho) (acl I.sz h)) (adJ _)
theorem Inv.kB(I:Inv X pins σ H s):∀x c,X.env.cells.lookup x=some c->c≠X.env.locals:=fun x c e z=>by
 obtain⟨v,o,ho,hd⟩:=I.cell x c e;obtain⟨m,⟨o',es,ep,eB,kC,_⟩,_⟩:=I.loc;rw[z,eB] at ho;cases ho;rw[kC] at hd;cases hd
theorem Inv.fF(I:Inv X pins σ H s):s.heap.FunFrames X.base X.outer:=by
 have all:∀(l:List Env),(∀b∈dZ l,b∈X.fs)->X.aK.heap.FunFrames X.base l->s.heap.FunFrames X.base l:=by
  intro l
  induction l with
  | nil=>intro _ _;trivial
  | cons env r ih=>
   intro hs hl;obtain⟨hk,⟨L,o,hf,hn,ho,hd⟩,hr⟩:=hl;have hL:L∈X.fs:=hs L (by unfold dZ;rw[aeJ,hf];exact adn);obtain⟨sl,e⟩:=I.base.slot L o ho (I.ok.lM L hL) hL fun z=>I.ok.pQ L z hL
   exact⟨hk,⟨L,_,hf,hn,e,hd⟩,ih (fun b hb=>hs b (by unfold dZ;rw[aeJ,hf];exact acH _ hb)) hr⟩
 exact all X.outer (fun _ hb=>hb) I.ok.fF
theorem Inv.stack(I:Inv X pins σ H s):s.heap.FunFrames X.base X.stack:=by
 rcases I.ok.sj with e | ⟨e,hf⟩
 ·rw[e];exact I.fF
 ·rw[e];obtain⟨m,hn,_⟩:=I.loc;refine .cons (by rw[I.ok.kind];decide) hf hn ?_ I.fF;exact agw (acl I.ok.jS I.ok.above)
theorem Inv.rE(I:Inv X pins σ H s):∀b∈dZ X.stack,b∈X.env.locals::X.fs:=fun b hb=>by
 rcases I.ok.sj with e | ⟨e,hf⟩
 ·rw[e] at hb;exact acH _ hb
 ·rw[e] at hb;unfold dZ at hb;rw[aeJ,hf] at hb;exact hb
theorem Inv.vG(I:Inv X pins σ H s):∀b∈dZ X.stack,H b=none:=fun b hb=>by
 rcases acD.mp (I.rE b hb) with e | hb
 ·rw[e];exact I.free
 ·obtain⟨_,o,ho,_⟩:=I.ok.fF.mem hb;exact I.base.free b o ho (I.ok.lM b hb) fun z=>I.ok.pQ b z hb
variable{t':Nat}{ch:List Addr}
theorem Inv.step{g':Array GenState}{d':Drawn}(I:Inv X pins σ H s)
  (jT:∀b∈ch,(b∈X.ex\/X.aK.heap.objs.size<=b)/\b≠X.env.locals/\(∀x c,X.env.cells.lookup x=some c->c≠b)/\∀p∈X.pn++pins,p.1≠b)
  (keep:∀b o,b≠X.env.locals->b∉X.fs->b∉ch->s.heap.get? b=some o->H b=none->h'.get? b=some o)
  (slot:∀b o,b≠X.env.locals->b∈X.fs->b∉ch->s.heap.get? b=some o->H b=none->∃sl,h'.get? b=some { o with slots:=sl }) (free:∀b o,b∉ch->s.heap.get? b=some o->H b=none->H' b=none)
  (there:∀b o,b∉ch->s.heap.get? b=some o->∃o',h'.get? b=some o')
  (fk:∀b xs,H b=some (.tup xs)->H' b=some (.tup xs)) (er:∀b o u,H b=some (.aV o u)->H' b=some (.aV o u)) (fq:∀b ps,H b=some (.c4 ps)->∃more,H' b=some (.c4 (ps++more)))
  (ns:∀m,s.heap.Ns X.env.locals m->h'.Ns X.env.locals m) (aG:cj X.prog X.w H' h') (hg:afN g') :
  Inv X pins σ H' { s with heap:=h',gens:=g',drawn:=d',toks:=t' }:=by
 have sk:∀b o,X.aK.heap.get? b=some o->b≠X.env.locals:=fun b o e=>acL (aca (acj e) I.ok.above)
 have nX:∀b o,X.aK.heap.get? b=some o->b∉X.ex->b∉ch:=fun b o e hx hb=>by
  rcases(jT b hb).1 with z | z
  ·exact hx z
  ·exact absurd (aca (acj e) z) (adJ _)
 have cellK:∀x c,X.env.cells.lookup x=some c->∀v,s.heap.IsCell c v->h'.IsCell c v:=fun x c e v ⟨o,ho,hd⟩=>by
  have lN:c∉ch:=fun z=>(jT c z).2.2.1 x c e rfl
  rcases(I.gO x c e).2 with fr | ⟨ob,fr⟩
  ·by_cases hc:c∈X.fs
   ·obtain⟨sl,q⟩:=slot c o (I.kB x c e) hc lN ho fr;exact⟨_,q,hd⟩
   ·exact⟨o,keep c o (I.kB x c e) hc lN ho fr,hd⟩
  ·have e1:s.heap.get? c=some ob:=(I.aG c _ fr).1;have e2:h'.get? c=some ob:=(aG c _ (er c _ _ fr)).1;rw[ho] at e1;cases e1;exact⟨o,e2,hd⟩
 refine⟨I.ok,I.os,hg,⟨fun b o e n hb hx=>?_,fun b o e n hb hx=>?_,fun b o e n hx=>?_,fun b o e hx=>?_,fun b xs e=>fk b xs (I.base.fk b xs e),fun b o xs e=>er b o xs (I.base.er b o xs e),fun b ps e=>?_⟩,?_,fun x c e=>?_,?_,fun x c e=>?_,fun p hp=>?_,aG,I.len⟩
 ·exact keep b o (sk b o e) hb (nX b o e hx) (I.base.keep b o e n hb hx) (I.base.free b o e n hx)
 ·obtain⟨sl,e1⟩:=I.base.slot b o e n hb hx;obtain⟨sl',e2⟩:=slot b _ (sk b o e) hb (nX b o e hx) e1 (I.base.free b o e n hx);exact⟨sl',e2⟩
 ·obtain⟨o',e1⟩:=I.base.there b o e hx;exact free b o' (nX b o e hx) e1 (I.base.free b o e n hx)
 ·obtain⟨o',e1⟩:=I.base.there b o e hx;exact there b o' (nX b o e hx) e1
 ·obtain⟨m1,e1⟩:=I.base.fq b ps e;obtain⟨m2,e2⟩:=fq b _ e1;exact⟨m1++m2,by rw[e2,afw]⟩
 ·obtain⟨m,hn,hl⟩:=I.loc;refine⟨m,ns m hn,fun i x v e1 e2 e3=>?_⟩;obtain⟨u,r,l⟩:=hl i x v e1 e2 e3;refine⟨u,r,?_⟩
  rcases l with l | ⟨k,c,e,z⟩
  ·exact .inl l
  ·exact .inr ⟨k,c,e,cellK x c e _ z⟩
 ·obtain⟨v,z⟩:=I.cell x c e;exact⟨v,cellK x c e v z⟩
 ·obtain⟨m,⟨o,_,_,ho,_⟩,_⟩:=I.loc;exact free _ o (fun z=>(jT _ z).2.1 rfl) ho I.free
 ·obtain⟨v,o,ho,hd⟩:=I.cell x c e;have lN:c∉ch:=fun z=>(jT c z).2.2.1 x c e rfl
  exact⟨fun hf=>free c o lN ho ((I.gO x c e).1 hf),(I.gO x c e).2.imp (fun fr=>free c o lN ho fr) fun⟨ob,fr⟩=>⟨ob,er c _ _ fr⟩⟩
 ·obtain⟨e,n,ne,nf,d⟩:=I.pin p hp;have lN:p.1∉ch:=fun z=>(jT p.1 z).2.2.2 p hp rfl
  exact⟨keep p.1 p.2 ne nf lN e n,free p.1 p.2 lN e n,ne,nf,d⟩
theorem Inv.un(I:Inv X pins σ H s)(u:Un X.fs [] H H' s.heap h')(aG:cj X.prog X.w H' h'):Inv X pins σ H' { s with heap:=h',toks:=t' }:=by
 obtain⟨m,⟨o,es,ep,ho,r⟩,_⟩:=id I.loc;obtain⟨sl,hL⟩:=u.any ho I.free (by simp);exact I.step (g':=s.gens) (d':=s.drawn) (ch:=[]) (fun _ z=>nomatch z) (fun b o _ hb _ e n=>u.keep b o e n hb (by simp)) (fun b o _ hb _ e n=>u.slot b o e n hb (by simp)) (fun b o _ e n=>u.free b o e n (by simp)) (fun b o _ e=>u.there b o e (by simp)) u.fk u.er u.fq (fun m' hm=>by
  obtain⟨o',AH,AI,eB,r'⟩:=hm;rw[ho] at eB;cases eB;exact⟨_,AH,AI,hL,r'⟩) aG I.bare
theorem Inv.call{g':Array GenState}{d':Drawn}(I:Inv X pins σ H s)(u:Un (dZ X.stack) ch H H' s.heap h')(aG:cj X.prog X.w H' h')(hg:afN g')
  (jT:∀b∈ch,(b∈X.ex\/X.aK.heap.objs.size<=b)/\b≠X.env.locals/\(∀x c,X.env.cells.lookup x=some c->c≠b)/\∀p∈X.pn++pins,p.1≠b) :
  Inv X pins σ H' { s with heap:=h',gens:=g',drawn:=d',toks:=t' }:=by
 obtain⟨m,⟨o,es,ep,ho,r⟩,_⟩:=id I.loc;obtain⟨sl,hL⟩:=u.any ho I.free fun z=>(jT _ z).2.1 rfl
 exact I.step (ch:=ch) jT (fun b o hL hb hc e n=>u.keep b o e n (fun z=>(acD.mp (I.rE b z)).elim hL hb) hc) (fun b o _ _ hc e n=>u.any e n hc) (fun b o hc e n=>u.free b o e n hc) (fun b o hc e=>u.there b o e hc) u.fk u.er u.fq (fun m' hm=>by
  obtain⟨o',AH,AI,eB,r'⟩:=hm;rw[ho] at eB;cases eB;exact⟨_,AH,AI,hL,r'⟩) aG hg
theorem Inv.turned{it:Addr}(I:Inv X pins σ H s)(k:∀b o,b≠it->s.heap.get? b=some o->h'.get? b=some o)(hn:H it=none)(hL:it≠X.env.locals)
  (h1:it∈X.ex\/X.aK.heap.objs.size<=it) (h2:∀x c,X.env.cells.lookup x=some c->c≠it) (h3:∀p∈X.pn++pins,p.1≠it):Inv X pins σ H { s with heap:=h',toks:=t' }:=by
 have lO:∀b u,H b=some u->b≠it:=fun b u e z=>by rw[z,hn] at e;cases e
 refine I.step (g':=s.gens) (d':=s.drawn) (ch:=[it]) (fun b hb=>?_) (fun b o _ _ hc e _=>k b o (fun z=>hc (by simp[z])) e) (fun b o _ _ hc e _=>⟨o.slots,k b o (fun z=>hc (by simp[z])) e⟩) (fun _ _ _ _ n=>n)
  (fun b o hc e=>⟨o,k b o (fun z=>hc (by simp[z])) e⟩) (fun _ _ e=>e) (fun _ _ _ e=>e) (fun b ps e=>⟨#[],by rw[e];simp⟩) (fun m hm=>?_) (fun b u e=>?_) I.bare
 ·have e:b=it:=by simpa using hb
  subst e;exact⟨h1,hL,h2,h3⟩
 ·obtain⟨o,es,ep,ho,r⟩:=hm;exact⟨o,es,ep,k _ o (aej hL) ho,r⟩
 ·refine(I.aG b u e).ir (fun c v hc q=>k c v ?_ q) (fun _ q=>q) fun _ _ q=>q
  rcases hc with z | z
  ·rw[z];exact lO b u e
  ·exact lO c _ z
theorem Inv.tok(I:Inv X pins σ H s)(t:Nat):Inv X pins σ H { s with toks:=t }:=I.un (h':=s.heap) (t':=t) Un.refl I.aG
theorem Inv.kept{t':Nat}(I:Inv X pins σ H s)(k:∀b u,s.heap.get? b=some u->h'.get? b=some u):Inv X pins σ H { s with heap:=h',toks:=t' }:=I.un (Un.kept k) (I.aG.kept k)
theorem Inv.laid{a:Addr}{o:HO}{t':Nat}(I:Inv X pins σ H s)(k:∀b u,s.heap.get? b=some u->h'.get? b=some u)(hp:s.heap.objs.size<=a)(new:dG X.prog X.w (upd H a o) h' a o) :
  Inv X pins σ (upd H a o) { s with heap:=h',toks:=t' }:=I.un (Un.laid k hp (I.aG.fresh hp)) (I.aG.laid k hp new)
theorem Inv.write{x e:Addr}{o:HO}{t':Nat}(I:Inv X pins σ H s)(mu:ky (H x))(he:e=x\/H e=some (.own x))(k:∀b u,b≠e->s.heap.get? b=some u->h'.get? b=some u)(qg:∃u,h'.get? e=some u)
  (new:dG X.prog X.w (upd H x o) h' x o):Inv X pins σ (upd H x o) { s with heap:=h',toks:=t' }:=I.un (Un.write mu he k qg) (I.aG.write mu he k qg new)
theorem Inv.EF{GD:List (Addr×Obj)}(I:Inv X pins σ H s)(h:∀p∈GD,s.heap.get? p.1=some p.2/\H p.1=none/\p.1≠X.env.locals/\p.1∉X.fs/\∀v,p.2.data≠.cell v):Inv X GD σ H s:=
 ⟨I.ok,I.os,I.bare,I.base,I.loc,I.cell,I.free,I.gO,fun p hp=>(adb.mp hp).elim (fun z=>I.pin p (adw _ z)) (h p),I.aG,I.len⟩
variable{i:Nat}
theorem D3{N:List Str}(hN:N.Nodup){j:Nat}{x:Str}(a:N[i]? =some x)(b:N[j]? =some x):i=j:=by
 obtain⟨h1,e1⟩:=abV.mp a;obtain⟨h2,e2⟩:=abV.mp b;exact(List.getElem_inj hN).mp (e1.trans e2.symm)
theorem Dz{M:Model}{A:aeg}{E:Value->acb->Prop}{x:Str}{v:V}{u:Value}{Q:Unit->acb->Prop}(I:Inv X pins σ H s)(hN:X.N.Nodup)(hi:X.N[i]? =some x)(hx:Loc X.env.scope x)(r:RelV v u)
  (h:∀s',Inv X pins (σ.set i (some v)) H s'->(∃a,afb a s.heap s'.heap/\(a=X.env.locals\/X.env.cells.lookup x=some a))->Q () s') (hf:X.fn x=true\/X.env.scope.names.lookup x=some .local:=by first | exact .inl rfl | exact .inr rfl | assumption):wpAny M A (storeName X.env x u) Q E s:=by
 obtain⟨m,hn,hl⟩:=id I.loc;have aaK:(X.env.scope.kind==.class||(X.env.scope.kind==.module&&X.env.locals != X.env.globals))=false:=by rw[I.ok.kind];rfl
 have Iy:i<σ.length:=by rw[I.len];exact(abV.mp hi).1
 have kB:=I.kB;have tracked:∀{a:Addr} {h':Heap},(∃o,s.heap.get? a=some o/\H a=none)->afb a s.heap h'->cj X.prog X.w H h':=fun{a h'} ha hs b ob e=>by
  obtain⟨_,_,GF⟩:=ha;refine(I.aG b ob e).ir (fun c w' hc q=>(hs.2 c ?_).trans q) (fun _ q=>q) fun _ _ q=>q
  rintro rfl
  rcases hc with rfl | hc
  ·rw[GF] at e;cases e
  ·rw[GF] at hc;cases hc
 rcases hx with hk | hk
 ·refine wpAny_storeName_local hk hn (fun h' hn' hs=>?_) aaK;obtain⟨oL,_,_,hoL,_⟩:=id hn;refine h _ ⟨I.ok,I.os,I.bare,⟨fun b o e n hb hx=>?_,fun b o e n hb hx=>?_,I.base.free,fun b o e hx=>?_,I.base.fk,I.base.er,I.base.fq⟩,⟨_,hn',fun j y v' e1 e2 e3=>?_⟩,fun y c e=>?_,I.free,I.gO,fun p hp=>?_,tracked ⟨oL,hoL,I.free⟩ hs,by simpa using I.len⟩ ⟨_,hs,.inl rfl⟩
  ·exact(hs.2 b (acL (aca (acj e) I.ok.above))).trans (I.base.keep b o e n hb hx)
  ·obtain⟨sl,e1⟩:=I.base.slot b o e n hb hx;exact⟨sl,(hs.2 b (acL (aca (acj e) I.ok.above))).trans e1⟩
  ·obtain⟨o',e1⟩:=I.base.there b o e hx;exact⟨o',(hs.2 b (acL (aca (acj e) I.ok.above))).trans e1⟩
  ·by_cases hj:j=i
   ·subst hj;rw[hi] at e1;cases e1;rw[adg Iy] at e2;cases e2;exact⟨u,r,.inl ⟨hk,by simp⟩⟩
   ·rw[adx (aej hj)] at e2;obtain⟨u',r',q⟩:=hl j y v' e1 e2 e3;refine⟨u',r',?_⟩
    rcases q with⟨k,e⟩ | ⟨k,c,e,z⟩
    ·refine .inl ⟨k,?_⟩;have:y≠x:=fun e=>hj (D3 hN e1 (e▸hi))
     simp[this,e]
    ·exact .inr ⟨k,c,e,z.sameBut hs (kB y c e)⟩
  ·obtain⟨w',z⟩:=I.cell y c e;exact⟨w',z.sameBut hs (kB y c e)⟩
  ·obtain⟨e,n,ne,nf,d⟩:=I.pin p hp;exact⟨(hs.2 p.1 ne).trans e,n,ne,nf,d⟩
 ·have iG:X.fn x=true:=by
   rcases hf with z | z
   ·exact z
   ·rw[z] at hk;cases hk
  obtain⟨c,hc⟩:=I.ok.has x (.inl hk);obtain⟨w',z⟩:=I.cell x c hc;refine wpAny_storeName_cell I.ok.kind hk hc z (fun h' fJ hs=>?_);obtain⟨oc,Iz,aaL⟩:=id z;refine h { s with heap:=h' } ⟨I.ok,I.os,I.bare,⟨fun b o e n hb hx=>?_,fun b o e n hb hx=>?_,I.base.free,fun b o e hx=>?_,I.base.fk,I.base.er,I.base.fq⟩,⟨m,hn.sameBut hs (aej (kB x c hc)),fun j y v' e1 e2 e3=>?_⟩,fun y c' e=>?_,I.free,I.gO,fun p hp=>?_,tracked ⟨oc,Iz,(I.gO x c hc).1 iG⟩ hs,by simpa using I.len⟩ ⟨c,hs,.inr hc⟩
  ·exact(hs.2 b (acL (aca (acj e) (I.ok.qj x c iG hc)))).trans (I.base.keep b o e n hb hx)
  ·obtain⟨sl,e1⟩:=I.base.slot b o e n hb hx;exact⟨sl,(hs.2 b (acL (aca (acj e) (I.ok.qj x c iG hc)))).trans e1⟩
  ·obtain⟨o',e1⟩:=I.base.there b o e hx;exact⟨o',(hs.2 b (acL (aca (acj e) (I.ok.qj x c iG hc)))).trans e1⟩
  ·by_cases hj:j=i
   ·subst hj;rw[hi] at e1;cases e1;rw[adg Iy] at e2;cases e2;exact⟨u,r,.inr ⟨.inl hk,c,hc,fJ⟩⟩
   ·rw[adx (aej hj)] at e2;obtain⟨u',r',q⟩:=hl j y v' e1 e2 e3;refine⟨u',r',?_⟩
    rcases q with q | ⟨k,c',e,z'⟩
    ·exact .inl q
    ·refine .inr ⟨k,c',e,z'.sameBut hs ?_⟩;rintro rfl;exact hj (D3 hN e1 (I.ok.inj _ _ _ e hc▸hi))
  ·by_cases qm:c'=c
   ·subst qm;exact⟨_,fJ⟩
   ·obtain⟨w2,z2⟩:=I.cell y c' e;exact⟨w2,z2.sameBut hs qm⟩
  ·obtain⟨e,n,ne,nf,d⟩:=I.pin p hp;refine⟨(hs.2 p.1 ?_).trans e,n,ne,nf,d⟩;intro q;rw[q,Iz] at e;have q':oc=p.2:=acY e;exact d w' (by rw[<- q'];exact aaL)
theorem yx{M:Model}{A:aeg}{E:Value->acb->Prop}{x:Str}{v:V}{u:Value}{Q:Unit->acb->Prop}(I:Inv X pins σ H s)(hN:X.N.Nodup)(hi:X.N[i]? =some x)(hx:Loc X.env.scope x)(r:RelV v u)
  (h:∀s',Inv X pins (σ.set i (some v)) H s'->Q () s') (hf:X.fn x=true\/X.env.scope.names.lookup x=some .local:=by first | exact .inl rfl | exact .inr rfl | assumption):wpAny M A (storeName X.env x u) Q E s:=
 Dz I hN hi hx r (fun s' I' _=>h s' I') hf
theorem Inv.Zw{s':acb}(I:Inv X pins σ H s)(ho:s'.os=s.os)(u:Un (dZ X.stack) ch H H' s.heap s'.heap)(aG:cj X.prog X.w H' s'.heap)(hg:afN s'.gens)
  (jT:∀b∈ch,(b∈X.ex\/X.aK.heap.objs.size<=b)/\b≠X.env.locals/\(∀x c,X.env.cells.lookup x=some c->c≠b)/\∀p∈X.pn++pins,p.1≠b):Inv X pins σ H' s':=by
 obtain⟨h',g',d',t',o'⟩:=s';have e:o'=s.os:=ho;subst e;exact I.call (g':=g') (t':=t') (d':=d') u aG hg jT
end
abbrev XK:=Value->Option Addr->Hp->Prop
abbrev St:=List (Option V)
abbrev VK:=V->Hp->Prop
abbrev TE:=St->Hp->VK->Prop
abbrev TT:=St->Hp->(Bool->Hp->Prop)->Prop
abbrev TA:=St->Hp->(List V->Hp->Prop)->Prop
structure Ends where
 nx:St->Hp->Prop
 rt:VK
 bk:St->Hp->Prop:=fun _ _=>False
 ct:St->Hp->Prop:=fun _ _=>False
abbrev TS:=Ends->St->Hp->Prop
noncomputable def EP(X:Cx)(pins:List (Addr×Obj))(σ:St)(Q:VK)(u:Value)(s':acb):Prop:=∃v H',Inv X pins σ H' s'/\RelV v u/\Q v H'
noncomputable def TP(X:Cx)(pins:List (Addr×Obj))(σ:St)(Q:Bool->Hp->Prop)(b:Bool)(s':acb):Prop:=∃H',Inv X pins σ H' s'/\Q b H'
noncomputable def AP(X:Cx)(pins:List (Addr×Obj))(σ:St)(Q:List V->Hp->Prop)(us:List Value)(s':acb):Prop:=∃vs H',Inv X pins σ H' s'/\Vals vs us/\Q vs H'
noncomputable def SP(X:Cx)(pins:List (Addr×Obj))(D:Ends)(f:Flow)(s':acb):Prop:=
 match f with
 | .next=>∃ao H',Inv X pins ao H' s'/\D.nx ao H'
 | .brk=>∃ao H',Inv X pins ao H' s'/\D.bk ao H'
 | .cont=>∃ao H',Inv X pins ao H' s'/\D.ct ao H'
 | .ret u=>∃v ao H',Inv X pins ao H' s'/\RelV v u/\D.rt v H'
noncomputable def PE(X:Cx)(e:Expr)(t:TE):Prop:=
 ∀(pins:List (Addr×Obj)) (s:acb) (σ:St) (H:Hp) (Q:VK),Inv X pins σ H s->t σ H Q->wpAny (model X.prog X.w) X.A (eval e X.env) (EP X pins σ Q) X.xe s
noncomputable def PT(X:Cx)(e:Expr)(t:TT):Prop:=
 ∀(pins:List (Addr×Obj)) (s:acb) (σ:St) (H:Hp) (Q:Bool->Hp->Prop),Inv X pins σ H s->t σ H Q->wpAny (model X.prog X.w) X.A (isTrue e X.env (eval e X.env)) (TP X pins σ Q) X.xe s
noncomputable def PW(X:Cx)(e:Expr)(t:TT):Prop:=
 ∀(whole:Sem Value) (pins:List (Addr×Obj)) (s:acb) (σ:St) (H:Hp) (Q:Bool->Hp->Prop),Inv X pins σ H s->t σ H Q->wpAny (model X.prog X.w) X.A (isTrue e X.env whole) (TP X pins σ Q) X.xe s
theorem PW.pt{X:Cx}{e:Expr}{t:TT}(h:PW X e t):PT X e t:=h _
noncomputable def PA(X:Cx)(es:List Expr)(t:TA):Prop:=
 ∀(pos:Pos) (pins:List (Addr×Obj)) (s:acb) (σ:St) (H:Hp) (Q:List V->Hp->Prop),Inv X pins σ H s->t σ H Q->wpAny (model X.prog X.w) X.A (spliced (afk pos (acM es X.env))) (AP X pins σ Q) X.xe s
noncomputable def PS(X:Cx)(st:Stmt)(t:TS):Prop:=
 ∀(pins:List (Addr×Obj)) (s:acb) (σ:St) (H:Hp) (D:Ends),Inv X pins σ H s->t D σ H->wpAny (model X.prog X.w) X.A (exec st X.env) (SP X pins D) X.xe s
noncomputable def fV(X:Cx)(st:List Stmt)(t:TS):Prop:=
 ∀(pins:List (Addr×Obj)) (s:acb) (σ:St) (H:Hp) (D:Ends),Inv X pins σ H s->t D σ H->wpAny (model X.prog X.w) X.A (execs st X.env) (SP X pins D) X.xe s
variable{A:aeg}
theorem a7{α:Type}{t:Sem α}{Q Q':α->acb->Prop}{M:Model}{E:Value->acb->Prop}{s:acb}(h:wpAny M A t Q E s)(hQ:∀a s,Q a s->Q' a s):wpAny M A t Q' E s:=adm h hQ fun _ _ x=>x
section
variable{X:Cx}
variable{σ:St}{H:Hp}
theorem bin{a b:Expr}{ta tb:TE}(ha:PE X a ta)(hb:PE X b tb){pins:List (Addr×Obj)}{s:acb}{R:V->V->Hp->Prop}(I:Inv X pins σ H s)(h:ta σ H fun x H1=>tb σ H1 fun y H2=>R x y H2)
  {α:Type} {Q:α->acb->Prop} {f:Value->Value->Sem α}
  (hf:∀v u s2 x y H2,Inv X pins σ H2 s2->RelV x v->RelV y u->R x y H2->wpAny (model X.prog X.w) X.A (f v u) Q X.xe s2) :
  wpAny (model X.prog X.w) X.A (eval a X.env) (fun v bM=>wpAny (model X.prog X.w) X.A (eval b X.env) (fun u oF=>wpAny (model X.prog X.w) X.A (f v u) Q X.xe oF) X.xe bM) X.xe s:=by
 refine a7 (ha pins s σ H _ I h) fun v s1 ⟨x,H1,I1,r1,q1⟩=>?_
 refine a7 (hb pins s1 σ H1 _ I1 q1) fun u s2 ⟨y,H2,I2,r2,q2⟩=>?_
 exact hf v u s2 x y H2 I2 r1 r2 q2
noncomputable def aaM(i:Nat):TE:=fun σ H Q=>∃v,σ[i]? =some (some v)/\Q v H
noncomputable def tC(v:V):TE:=fun _ H Q=>Q v H
theorem FD{i:Nat}{x:Str}{pos:Pos}(hN:X.N[i]? =some x)(hv:aA X.env.scope x)(hd:(x==("__debug__":Str))=false:=by decide)(hcd:(x==("__classdict__":Str))=false:=by decide):PE X (.Name x pos) (aaM i):=by
 intro pins s σ H Q I h;obtain⟨v,e,h⟩:=h;obtain⟨m,hn,hl⟩:=I.loc;obtain⟨u,r,l⟩:=hl i x v hN e hv;have fin:EP X pins σ Q u s:=⟨v,H,I,r,h⟩
 rcases l with⟨hk,hm⟩ | ⟨hk,c,hc,jL⟩
 ·exact wpAny_Name (wpAny_loadName_local I.ok.kind hk hn hm fin) hd
 ·rcases hk with hk | hk
  ·exact wpAny_Name (wpAny_loadName_cell I.ok.kind hk hc jL fin) hd
  ·exact wpAny_Name (wpAny_loadName_free I.ok.kind hk hc jL fin hcd) hd
theorem Xl{i j pos}:PE X (.Constant (.int i) j pos) (tC (.int i)):=fun _ _ _ H _ I h=>wpAny_Constant_int ⟨.int i,H,I.tok _,⟨_,rfl⟩,h⟩
theorem Zx{b j pos}:PE X (.Constant (.bool b) j pos) (tC (.bl b)):=fun _ _ _ H _ I h=>Constant_bool ⟨.bl b,H,I,rfl,h⟩
theorem Xm{j pos}:PE X (.Constant .none j pos) (tC .aI):=fun _ _ _ H _ I h=>Constant_none ⟨.aI,H,I,rfl,h⟩
theorem Xn{x j pos}:PE X (.Constant (.str x) j pos) (tC (.str x)):=fun _ _ _ H _ I h=>Calls.Constant_str ⟨.str x,H,I.tok _,⟨_,rfl⟩,h⟩
noncomputable def Gl(X:Cx)(x:Str):Prop:=X.env.kindOf x=some .globalImplicit
theorem EG{E:Value->acb->Prop}{pins:List (Addr×Obj)}{s:acb}{x:Str}{u:Value}{pos:Pos}{Q:Value->acb->Prop}(I:Inv X pins σ H s)(hg:Gl X x)(hm:X.mg x=some u)(h:Q u s)
  (hd:(x==("__debug__":Str))=false:=by decide):wpAny (model X.prog X.w) X.A (eval (.Name x pos) X.env) Q E s:=
 afu I.ok.kind hg (Calls.loadGlobal_global (by rw[I.ok.glob];exact I.mod.glob.keeps I.bk) hm h) hd
theorem vO{E:Value->acb->Prop}{pins:List (Addr×Obj)}{s:acb}{x:Str}{u:Value}{pos:Pos}{Q:Value->acb->Prop}(I:Inv X pins σ H s)(hg:Gl X x)(hm:X.mg x=none)(hv:adD x=some u)(h:Q u s)
  (hn:x≠"__name__":=by decide) (hd:(x==("__debug__":Str))=false:=by decide):wpAny (model X.prog X.w) X.A (eval (.Name x pos) X.env) Q E s:=by
 obtain⟨mb,h1,h2⟩:=I.mod.blt;exact afu I.ok.kind hg (Calls.loadGlobal_builtin (by rw[I.ok.glob];exact I.mod.glob.keeps I.bk) hm (by rw[I.ok.blt];exact h1.keeps I.bk) ((h2 x hn).trans hv) h) hd
variable{a b:Expr}{ta tb:TE}{pos:Pos}
noncomputable def tB(t:TE):TT:=fun σ H Q=>t σ H fun x H1=>∃c,x=.bl c/\Q c H1
variable{tA wM:TT}{rest:List Expr}
noncomputable def wg(t u:TT):TT:=fun σ H Q=>t σ H fun c H1=>if c=true then u σ H1 Q else Q false H1
noncomputable def jU(t u:TT):TT:=fun σ H Q=>t σ H fun c H1=>if c=true then Q true H1 else u σ H1 Q
noncomputable def aaN(t:TT):TT:=fun σ H Q=>t σ H fun c H1=>Q (!c) H1
theorem Vu(ha:PT X a tA):PW X (.BoolOp .And [a] pos) tA:=by
 intro wh pins s σ H Q I h;refine isTrue_and (a7 (ha pins s σ H Q I h) fun c s1 e=>?_);cases c with
 | true=>exact isTrue_and_nil e
 | false=>exact e
theorem Xo(ha:PT X a tA):PW X (.BoolOp .Or [a] pos) tA:=by
 intro wh pins s σ H Q I h;refine isTrue_or (a7 (ha pins s σ H Q I h) fun c s1 e=>?_);cases c with
 | false=>exact isTrue_or_nil e
 | true=>exact e
theorem Xp(ha:PT X a tA)(hb:PW X (.BoolOp .And (b::rest) pos) wM):PW X (.BoolOp .And (a::b::rest) pos) (wg tA wM):=by
 intro wh pins s σ H Q I h;refine isTrue_and (a7 (ha pins s σ H _ I h) fun c s1 ⟨H1,I1,q1⟩=>?_);cases c with
 | true=>exact hb wh pins s1 σ H1 Q I1 q1
 | false=>exact⟨H1,I1,q1⟩
theorem Zy(ha:PT X a tA)(hb:PW X (.BoolOp .Or (b::rest) pos) wM):PW X (.BoolOp .Or (a::b::rest) pos) (jU tA wM):=by
 intro wh pins s σ H Q I h;refine isTrue_or (a7 (ha pins s σ H _ I h) fun c s1 ⟨H1,I1,q1⟩=>?_);cases c with
 | true=>exact⟨H1,I1,q1⟩
 | false=>exact hb wh pins s1 σ H1 Q I1 q1
theorem Xq(ha:PT X a tA):PT X (.UnaryOp .Not a pos) (aaN tA):=by
 intro pins s σ H Q I h;exact isTrue_not (ha pins s σ H (fun c H1=>Q (!c) H1) I h)
noncomputable def Zz(ta tb:TE):TE:=fun σ H Q=>ta σ H fun x H1=>∃c,x=.bl c/\if c=true then tb σ H1 Q else Q (.bl false) H1
noncomputable def aaO(ta tb:TE):TE:=fun σ H Q=>ta σ H fun x H1=>∃c,x=.bl c/\if c=true then Q (.bl true) H1 else tb σ H1 Q
theorem Xr{op}{t:TE}(h:PE X a t):PE X (.BoolOp op [a] pos) t:=fun pins s σ H Q I hw=>BoolOp_one (h pins s σ H Q I hw)
theorem Xs(ha:PE X a ta)(hb:PE X (.BoolOp .And (b::rest) pos) tb):PE X (.BoolOp .And (a::b::rest) pos) (Zz ta tb):=by
 intro pins s σ H Q I h;refine BoolOp_and (a7 (ha pins s σ H _ I h) fun v s1 ⟨x,H1,I1,r1,q1⟩=>?_);obtain⟨c,rfl,q1⟩:=q1;cases r1;refine aes ?_;cases c with
 | true=>exact hb pins s1 σ H1 Q I1 q1
 | false=>exact⟨.bl false,H1,I1,rfl,q1⟩
theorem ZA(ha:PE X a ta)(hb:PE X (.BoolOp .Or (b::rest) pos) tb):PE X (.BoolOp .Or (a::b::rest) pos) (aaO ta tb):=by
 intro pins s σ H Q I h;refine BoolOp_or (a7 (ha pins s σ H _ I h) fun v s1 ⟨x,H1,I1,r1,q1⟩=>?_);obtain⟨c,rfl,q1⟩:=q1;cases r1;refine aes ?_;cases c with
 | false=>exact hb pins s1 σ H1 Q I1 q1
 | true=>exact⟨.bl true,H1,I1,rfl,q1⟩
end
noncomputable def bP(K:abW)(H:Hp)(a:Addr)(xs:List V):Prop:=
 Rd H a (.lst xs) \/
  ∃(o:Obj) (its:Array Value) (n:Nat),K.lookup a=some o/\o.cls=.type "list"/\o.dict=none/\o.data=.seq its n/\its.size<=acv/\Vals xs its.toList
noncomputable def cN(K:abW)(H:Hp)(a:Addr)(xs:List V):Prop:=
 Rd H a (.tup xs) \/
  ∃(o:Obj) (its:Array Value) (n:Nat),K.lookup a=some o/\o.cls=.type "tuple"/\o.data=.seq its n/\its.size<=acv/\Vals xs its.toList
noncomputable def aaP:Value->Option V
 | .none=>some .aI
 | .bool b=>some (.bl b)
 | .int i _=>some (.int i)
 | .str x _=>some (.str x)
 | .bytes b _=>some (.AD b)
 | .float b _=>some (.AE b)
 | .ref a=>some (.ref a)
 | .type n=>some (.ty n)
 | _=>none
theorem RelV.abs{x:V}{u:Value}(r:RelV x u):aaP u=some x:=by
 cases x with
 | aI=>cases r;rfl
 | bl _=>cases r;rfl
 | int _=>obtain⟨t,rfl⟩:=r;rfl
 | str _=>obtain⟨t,rfl⟩:=r;rfl
 | AD _=>obtain⟨t,rfl⟩:=r;rfl
 | AE _=>obtain⟨t,rfl⟩:=r;rfl
 | ref _=>cases r;rfl
 | ty _=>cases r;rfl
theorem RelV.inj{x y:V}{u:Value}(r:RelV x u)(q:RelV y u):x=y:=acY (r.abs.symm.trans q.abs)
theorem Vals.inj:∀{xs ys:List V} {us:List Value},Vals xs us->Vals ys us->xs=ys
 | _,_,_,.nil,.nil=>rfl
 | _,_,_,.cons r t,.cons r' t'=>by rw[r.inj r',Vals.inj t t']
section
variable{X:Cx}{pins:List (Addr×Obj)}{σ:St}{H:Hp}{s:acb}{a:Addr}{xs ys:List V}
theorem bP.of{K:abW}(h:H a=some (.lst xs)):bP K H a xs:=.inl (.inl h)
theorem cN.of{K:abW}(h:H a=some (.tup xs)):cN K H a xs:=.inl (.inl h)
theorem Inv.list(I:Inv X pins σ H s)(h:bP X.K H a xs):∃its:List Value,Vals xs its/\PlainL s.heap a its.toArray/\xs.length<=sizeLine:=by
 rcases h with h | ⟨o,its,n,hk,hc,hd,hs,hz,r⟩
 ·obtain⟨z,its,n,r,e⟩:=h.ok I.aG;exact⟨its,r,⟨_,n,e,rfl,rfl,rfl⟩,z⟩
 ·refine⟨its.toList,r,⟨o,n,I.kA a o hk,hc,hd,by simpa using hs⟩,?_⟩;have e:=r.length;simp only[afn] at e;omega
theorem Inv.tuple(I:Inv X pins σ H s)(h:cN X.K H a xs):∃its:List Value,Vals xs its/\IsTup s.heap a its.toArray/\xs.length<=sizeLine:=by
 rcases h with h | ⟨o,its,n,hk,hc,hs,hz,r⟩
 ·obtain⟨z,its,r,p⟩:=h.ok I.aG;exact⟨its,r,p,z⟩
 ·refine⟨its.toList,r,⟨o,I.kA a o hk,hc,n,by simpa using hs⟩,?_⟩;have e:=r.length;simp only[afn] at e;omega
theorem Inv.D4(I:Inv X pins σ H s)(h:bP X.K H a xs)(h':bP X.K H a ys):xs=ys:=by
 obtain⟨its,r,⟨o,n,e,_,_,d⟩,_⟩:=I.list h;obtain⟨its',r',⟨o',n',e',_,_,d'⟩,_⟩:=I.list h';rw[e] at e';cases e';rw[d] at d';injection d' with d1 _
 have:its=its':=by simpa using congrArg agX d1
 subst this;exact r.inj r'
theorem Inv.S6(I:Inv X pins σ H s)(h:cN X.K H a xs)(h':cN X.K H a ys):xs=ys:=by
 obtain⟨its,r,⟨o,e,_,n,d⟩,_⟩:=I.tuple h;obtain⟨its',r',⟨o',e',_,n',d'⟩,_⟩:=I.tuple h';rw[e] at e';cases e';rw[d] at d';injection d' with d1 _
 have:its=its':=by simpa using congrArg agX d1
 subst this;exact r.inj r'
end
section
variable{X:Cx}{st:Stmt}{rest:List Stmt}{t u:TS}{e:Expr}{te:TE}{pos:Pos}
noncomputable def ZC:TS:=fun D σ H=>D.nx σ H
noncomputable def Hx(t u:TS):TS:=fun D σ H=>t { D with nx:=u D } σ H
theorem Vv:fV X [] ZC:=fun _ _ σ H _ I h=>afo ⟨σ,H,I,h⟩
theorem Uv(h1:PS X st t)(h2:fV X rest u):fV X (st::rest) (Hx t u):=by
 intro pins s σ H D I h;refine afi (a7 (h1 pins s σ H { D with nx:=u D } I h) fun f s1 q=>?_);cases f with
 | next=>
  obtain⟨ao,H',I',q⟩:=q;exact h2 pins s1 ao H' D I' q
 | ret v=>exact q
 | brk=>exact q
 | cont=>exact q
theorem Vw(h1:PS X st t):fV X [st] t:=by
 intro pins s σ H D I h;refine afi (a7 (h1 pins s σ H D I h) fun f s1 q=>?_);cases f with
 | next=>exact afo q
 | ret v=>exact q
 | brk=>exact q
 | cont=>exact q
theorem Inv.quiet{pins:List (Addr×Obj)}{σ:St}{H:Hp}{s:acb}(I:Inv X pins σ H s):interactive X.env=false:=by simp[interactive,I.ok.kind]
noncomputable def ZD(te:TE):TS:=fun D σ H=>te σ H fun _ H1=>D.nx σ H1
theorem Vx(he:PE X e te)(hs:aeA e none pos.line X.env=pure false:=by rfl):PS X (.Expr e pos) (ZD te):=by
 intro pins s σ H D I h;exact wpAny_Expr_any (a7 (he pins s σ H _ I h) fun v s1 ⟨x,H1,I1,r1,q1⟩=>⟨σ,H1,I1,q1⟩) I.quiet hs
noncomputable def aaQ(te:TE):TS:=fun D σ H=>te σ H D.rt
theorem Xt(he:PE X e te):PS X (.Return (some e) pos) (aaQ te):=by
 intro pins s σ H D I h;exact wpAny_Return_some (a7 (he pins s σ H _ I h) fun v s1 ⟨x,H1,I1,r1,q1⟩=>⟨x,σ,H1,I1,r1,q1⟩)
noncomputable def aaR(c:TT)(t u:TS):TS:=fun D σ H=>c σ H fun b H1=>if b=true then t D σ H1 else u D σ H1
theorem ZE{c:Expr}{a b:List Stmt}{tc:TT}(hc:PT X c tc)(ha:fV X a t)(hb:fV X b u):PS X (.If c a b pos) (aaR tc t u):=by
 intro pins s σ H D I h;refine wpAny_If (a7 (hc pins s σ H _ I h) fun d s1 ⟨H1,I1,q1⟩=>?_);cases d with
 | true=>exact ha pins s1 σ H1 D I1 q1
 | false=>exact hb pins s1 σ H1 D I1 q1
end
abbrev TG:=V->St->Hp->(St->Hp->Prop)->Prop
abbrev kD:=List V->St->Hp->(St->Hp->Prop)->Prop
noncomputable def PG(X:Cx)(target:Expr)(t:TG):Prop:=
 ∀(pins:List (Addr×Obj)) (s:acb) (σ:St) (H:Hp) (v:V) (u:Value) (Q:St->Hp->Prop),Inv X pins σ H s->RelV v u->t v σ H Q →
  wpAny (model X.prog X.w) X.A (agB target X.env u) (fun _ s'=>∃ao H',Inv X pins ao H' s'/\Q ao H') X.xe s
noncomputable def gw(X:Cx)(ts:List Expr)(t:kD):Prop:=
 ∀(pins:List (Addr×Obj)) (s:acb) (σ:St) (H:Hp) (vs:List V) (us:List Value) (Q:St->Hp->Prop),Inv X pins σ H s->Vals vs us->t vs σ H Q →
  wpAny (model X.prog X.w) X.A (assignInOrder ((adA ts X.env).map (·.2)) us) (fun _ s'=>∃ao H',Inv X pins ao H' s'/\Q ao H') X.xe s
abbrev wj:=V->V->V->Hp->(Hp->Prop)->Prop
noncomputable def lx(X:Cx)(t:wj):Prop:=
 ∀(pins:List (Addr×Obj)) (s:acb) (σ:St) (H:Hp) (o i v:V) (ov iv u:Value) (Q:Hp->Prop),Inv X pins σ H s->RelV o ov->RelV i iv->RelV v u->t o i v H Q →
  wpAny (model X.prog X.w) X.A (setItem ov iv u) (fun _ s'=>∃H',Inv X pins σ H' s'/\Q H') X.xe s
abbrev wN:=V->V->Hp->VK->Prop
noncomputable def IB(X:Cx)(op:Operator)(t:wN):Prop:=
 ∀(pins:List (Addr×Obj)) (s:acb) (σ:St) (H:Hp) (x y:V) (v u:Value) (Q:VK),Inv X pins σ H s->RelV x v->RelV y u->t x y H Q →
  wpAny (model X.prog X.w) X.A (inplaceOp op v u) (EP X pins σ Q) X.xe s
section
variable{X:Cx}{pos:Pos}
noncomputable def zI(i:Nat):TG:=fun v σ H Q=>Q (σ.set i (some v)) H
variable{i:Nat}
theorem Vy{x:Str}(hN:X.N.Nodup)(hi:X.N[i]? =some x)(hx:Loc X.env.scope x)(hf:X.fn x=true\/X.env.scope.names.lookup x=some .local:=by first | exact .inl rfl | exact .inr rfl | assumption):PG X (.Name x pos) (zI i):=by
 intro pins s σ H v u Q I r h;exact wpAny_assign_Name (yx I hN hi hx r (fun s' I'=>⟨_,H,I',h⟩) hf)
noncomputable def aaS:kD:=fun vs σ H Q=>vs=[]/\Q σ H
noncomputable def ZF(t:TG)(u:kD):kD:=fun vs σ H Q=>∃v r,vs=v::r/\t v σ H fun ao H'=>u r ao H' Q
theorem Vz:gw X [] aaS:=by
 intro pins s σ H vs us Q I r h;obtain⟨e,h⟩:=h;subst e;cases r;exact assignInOrder_nil ⟨σ,H,I,h⟩
theorem Uw{e:Expr}{es:List Expr}{t:TG}{u:kD}(h1:PG X e t)(h2:gw X es u)
  (hs:(adA (e::es) X.env).map (·.2)=agB e X.env::(adA es X.env).map (·.2):=by rfl):gw X (e::es) (ZF t u):=by
 intro pins s σ H vs us Q I r h;obtain⟨v,vr,e1,h⟩:=h;subst e1;cases r with
 | cons r rr=>
  rw[hs];refine assignInOrder_cons (a7 (h1 pins s σ H _ _ _ I r h) fun _ s1 ⟨σ1,H1,I1,q1⟩=>?_);exact h2 pins s1 σ1 H1 _ _ Q I1 rr q1
noncomputable def aaT(K:abW)(n:Nat)(t:kD):TG:=fun v σ H Q=>∃a xs,v=.ref a/\cN K H a xs/\xs.length=n/\t xs σ H Q
theorem Xu{es:List Expr}{k:Nat}{t:kD}{n:Nat}(hc:X.calm=true)(h:gw X es t)
  (hn:(adA es X.env).length=n:=by rfl) (d5:(adA es X.env).findIdx? (·.1)=none:=by rfl):PG X (.Tuple es k pos) (aaT X.K n t):=by
 intro pins s σ H v u Q I r hw;obtain⟨a,xs,e1,hq,hl,hw⟩:=hw;subst e1;cases r;obtain⟨its,rv,ht,hz⟩:=I.tuple hq;refine assign_Tuple_tuple (I.ok.hd hc) ht (by simp[hn,<- hl,rv.length]) d5 fun h' hx=>?_
 have I1:Inv X pins σ H { s with heap:=h' }:=I.kept (t':=s.toks) fun b o e=>hx b o (acL (acj e)) e
 exact h pins _ σ H xs _ Q I1 (by simpa using rv) hw
noncomputable def aaU(to ti:TE)(t:wj):TG:=fun v σ H Q=>to σ H fun o H1=>ti σ H1 fun i H2=>t o i v H2 fun H3=>Q σ H3
theorem Xv{o i:Expr}{to ti:TE}{t:wj}(ho:PE X o to)(hi:PE X i ti)(hs:lx X t)
  (ha:∀v,agB (.Subscript o i pos) X.env v=(do
   let ov <- holding [v] (eval o X.env)
   let iv <- holding [v,ov] (eval i X.env)
   standAt pos
   holding [v,ov,iv] (setItem ov iv v)
   release [v,ov,iv] []):=by intro _;rfl):PG X (.Subscript o i pos) (aaU to ti t):=by
 intro pins s σ H v u Q I r h;rw[ha];refine acx (aeQ (a7 (ho pins s σ H _ I h) fun ov s1 ⟨x,H1,I1,r1,q1⟩=>?_));refine acx (aeQ (a7 (hi pins s1 σ H1 _ I1 q1) fun iv s2 ⟨y,H2,I2,r2,q2⟩=>?_));refine acx (wpAny_standAt (acx (aeQ (a7 (hs pins s2 σ H2 x y v ov iv u _ I2 r1 r2 r q2) fun _ s3 ⟨H3,I3,q3⟩=>?_))));exact wpAny_release ⟨σ,H3,I3,q3⟩
noncomputable def wk(te:TE)(g:TG):TS:=fun D σ H=>te σ H fun x H1=>g x σ H1 D.nx
variable{te:TE}
theorem Xw{tg e:Expr}{g:TG}(he:PE X e te)(hg:PG X tg g)(hs:swapsWithSole [tg] e pos.line X.env=pure false:=by rfl)(hw:swappedStores [tg] e X.env=pure none:=by rfl)
  (h1:(adA [tg] X.env).map (·.2)=[agB tg X.env]:=by rfl):PS X (.Assign [tg] e pos) (wk te g):=by
 intro pins s σ H D I h;refine wpAny_Assign_stores (a7 (he pins s σ H _ I h) fun v s1 ⟨x,H1,I1,r1,q1⟩=>?_) hs hw;rw[h1];exact a7 (hg pins s1 σ H1 x v _ I1 r1 q1) fun _ s2 q=>q
theorem Xx{x:Str}{e:Expr}{pos':Pos}(hN:X.N.Nodup)(hi:X.N[i]? =some x)(hx:Loc X.env.scope x)(he:PE X e te)(hs:aeA e (some (.Name x pos')) pos.line X.env=pure false:=by rfl)(hf:X.fn x=true\/X.env.scope.names.lookup x=some .local:=by first | exact .inl rfl | exact .inr rfl | assumption) :
  PS X (.Assign [.Name x pos'] e pos) (wk te (zI i)):=by
 intro pins s σ H D I h;refine wpAny_Assign_Name (a7 (he pins s σ H _ I h) fun v s1 ⟨y,H1,I1,r1,q1⟩=>?_) hs;exact yx I1 hN hi hx r1 (fun s2 I2=>⟨_,H1,I2,q1⟩) hf
noncomputable def Hy(i:Nat)(te:TE)(ti:wN):TS:=fun D σ H=>∃x,σ[i]? =some (some x)/\te σ H fun y H1=>ti x y H1 fun z H2=>D.nx (σ.set i (some z)) H2
theorem Xy{x:Str}{e:Expr}{op:Operator}{ti:wN}{pos':Pos}(hN:X.N.Nodup)(hi:X.N[i]? =some x)(hx:Loc X.env.scope x)(he:PE X e te)(ho:IB X op ti)(hf:X.fn x=true\/X.env.scope.names.lookup x=some .local:=by first | exact .inl rfl | exact .inr rfl | assumption) :
  PS X (.AugAssign (.Name x pos') op e pos) (Hy i te ti):=by
 intro pins s σ H D I h;obtain⟨v,e1,h⟩:=h;obtain⟨m,hn,hl⟩:=I.loc;have jV:aA X.env.scope x:=by rcases hx with k | k;exact .inl k;exact .inr (.inl k)
 obtain⟨u,r,l⟩:=hl i x v hi e1 jV;refine wpAny_AugAssign_Name ?_;have go:wpAny (model X.prog X.w) X.A (eval e X.env) (fun w oF=>wpAny (model X.prog X.w) X.A (inplaceOp op u w) (fun r B2=>wpAny (model X.prog X.w) X.A (storeName X.env x r) (fun _=>SP X pins D .next) X.xe B2) X.xe oF) X.xe s:=by
  refine a7 (he pins s σ H _ I h) fun w s1 ⟨y,H1,I1,r1,q1⟩=>?_
  refine a7 (ho pins s1 σ H1 v y u w _ I1 r r1 q1) fun z s2 ⟨zv,H2,I2,r2,q2⟩=>?_
  exact yx I2 hN hi hx r2 (fun s3 I3=>⟨_,H2,I3,q2⟩) hf
 rcases l with⟨hk,hm⟩ | ⟨hk,c,hc,jL⟩
 ·exact wpAny_loadName_local I.ok.kind hk hn hm go
 ·rcases hk with hk | hk
  ·exact wpAny_loadName_cell I.ok.kind hk hc jL go
  ·rcases hx with k | k
   ·have:X.env.scope.names.lookup x=some .free:=hk;rw[k] at this;cases this
   ·have:X.env.scope.names.lookup x=some .free:=hk;rw[k] at this;cases this
noncomputable def IC(f:Int->Int->Int):wN:=fun x y H Q=>∃i j,x=.int i/\y=.int j/\Q (.int (f i j)) H
theorem Xz:IB X .Add (IC fun i j=>i+j):=by
 intro pins s σ H x y v u Q I r1 r2 h;obtain⟨i,j,e1,e2,q⟩:=h;subst e1;subst e2;obtain⟨t,rfl⟩:=r1;obtain⟨t',rfl⟩:=r2;exact iadd_int ⟨.int _,H,I.tok _,⟨_,rfl⟩,q⟩
end
section
variable{X:Cx}{pos:Pos}
noncomputable def FE(c:TT)(tb:TS):TS:=fun D σ H=>∃W:Nat->St->Hp->Prop,(∃m,W m σ H)/\∀m σ H,W m σ H →
 c σ H fun b H1=>if b=true then ∃N:St->Hp->Prop,(∀ao H',N ao H'->∃m',m'<m/\W m' ao H')/\tb { D with nx:=N,ct:=N,bk:=D.nx } σ H1 else D.nx σ H1
theorem Ux{c:Expr}{body:List Stmt}{tc:TT}{tb:TS}(hp:agH (model X.prog X.w) X.A X.env X.xe)(hc:PT X c tc)(hb:fV X body tb):PS X (.While c body [] pos) (FE tc tb):=by
 intro pins s σ H D I h;obtain⟨W,⟨m0,w0⟩,turn⟩:=h;refine wpAny_While (codeAny_whileLoop (fun n s'=>∃ao H',Inv X pins ao H' s'/\W n ao H') ?_ m0 ⟨σ,H,I,w0⟩);rintro n s1 ⟨σ1,H1,I1,w1⟩;refine aea hp (a7 (hc pins s1 σ1 H1 _ I1 (turn n σ1 H1 w1)) fun b s2 ⟨H2,I2,q2⟩=>?_);cases b with
 | true=>
  obtain⟨N,hN,q2⟩:=q2;rw[if_pos rfl];refine aea hp (a7 (hb pins s2 σ1 H2 _ I2 q2) fun f s3 q3=>?_);cases f with
  | next=>
   obtain⟨jy,H3,I3,n3⟩:=q3;obtain⟨m',hm,w3⟩:=hN jy H3 n3;exact⟨m',hm,jy,H3,I3,w3⟩
  | cont=>
   obtain⟨jy,H3,I3,n3⟩:=q3;obtain⟨m',hm,w3⟩:=hN jy H3 n3;exact⟨m',hm,jy,H3,I3,w3⟩
  | brk=>exact q3
  | ret v=>exact q3
 | false=>
  rw[if_neg acF];exact afo ⟨σ1,H2,I2,q2⟩
end
structure It where
 go:Nat->Hp->Prop
 sr:Nat->Hp->V->Hp->Prop
 stop:Nat->Hp->Prop
noncomputable def gn(X:Cx)(pins:List (Addr×Obj))(H:Hp)(b:Addr):Prop:=
 H b=none/\b≠X.env.locals/\b∉X.fs/\(b∈X.ex\/X.aK.heap.objs.size<=b)/\(∀x c,X.env.cells.lookup x=some c->c≠b)/\∀p∈X.pn++pins,p.1≠b
theorem Inv.rV{X:Cx}{pins:List (Addr×Obj)}{σ:St}{H':Hp}{s:acb}(I:Inv X pins σ H s)(hb:s.heap.objs.size<=b)(hn:H' b=none):gn X pins H' b:=by
 refine⟨hn,adL (aca I.lt hb),I.aaJ hb,.inr (acl I.sz hb),fun x c e z=>?_,fun p hp z=>?_⟩
 ·obtain⟨v,q⟩:=I.cell x c e;exact absurd (aca q.lt (by rw[z];exact hb)) (adJ _)
 ·exact absurd (aca (acj (I.pin p hp).1) (by rw[z];exact hb)) (adJ _)
structure Turn(P:adl)(w:World)(K:abW)(tg:Expr)(J:It)(fp:List Addr)(it:Addr)(tn:Nat->Heap->Prop):Prop where
 mem:it∈fp
 obj:∀i h,tn i h->∀b∈fp,∃o,h.get? b=some o/\∀v,o.data≠.cell v
 keep:∀i h h',tn i h->(∀b∈fp,∀o,h.get? b=some o->h'.get? b=some o)->tn i h'
 item:∀(X:Cx),X.prog=P->X.w=w->X.K=K->X.calm=true->∀(i:Nat) (pins:List (Addr×Obj)) (s:acb) (σ:St) (H:Hp) (E:Value->acb->Prop),Inv X pins σ H s->(∀b∈fp,gn X pins H b)->tn i s.heap->J.go i H →
  wpAny (model P w) X.A (pyNext (.ref it)) (fun r s1=>∃u,r=some u /\
   wpAny (model P w) X.A (afp tg (.ref it) u) (fun _ s2=>∃x H',Inv X pins σ H' s2/\RelV x u/\J.sr i H x H'/\tn (i+1) s2.heap/\∀b∈fp,H' b=none) E s1) E s
 done:∀(X:Cx),X.prog=P->X.w=w->X.K=K->X.calm=true->∀(i:Nat) (pins:List (Addr×Obj)) (s:acb) (σ:St) (H:Hp) (E:Value->acb->Prop),Inv X pins σ H s->(∀b∈fp,gn X pins H b)->tn i s.heap->J.stop i H →
  wpAny (model P w) X.A (pyNext (.ref it)) (fun r s1=>r=none/\Inv X pins σ H s1) E s
 self:∀(A:aeg) (i:Nat) (s:acb) (Q:Value->acb->Prop) (E:Value->acb->Prop),tn i s.heap->Q (.ref it) s->wpAny (model P w) A (pyIter (.ref it)) Q E s
abbrev TI:=St->Hp->(It->Hp->Prop)->Prop
noncomputable def ID(X:Cx)(pins:List (Addr×Obj))(σ:St)(tg:Expr)(R:It->Hp->Prop)(AJ:Value)(s2:acb):Prop:=
 ∃(it:Addr) (fp:List Addr) (tn:Nat->Heap->Prop) (J:It) (H':Hp),AJ=.ref it/\Inv X pins σ H' s2/\Turn X.prog X.w X.K tg J fp it tn/\tn 0 s2.heap/\(∀b∈fp,gn X pins H' b)/\R J H'
noncomputable def PI(X:Cx)(tg iter:Expr)(wi:TI):Prop:=
 ∀(pins:List (Addr×Obj)) (s:acb) (σ:St) (H:Hp) (R:It->Hp->Prop),Inv X pins σ H s->wi σ H R →
  wpAny (model X.prog X.w) X.A (eval iter X.env) (fun v s1=>wpAny (model X.prog X.w) X.A (pyIter v) (ID X pins σ tg R) X.xe s1) X.xe s
variable{tg:Expr}
theorem zJ {M : Model} {E : Value -> acb -> Prop} {s : acb} {it : Addr} {u : Value} {o : Obj} {n : String} {vs : Array Value} {Q : Unit -> acb -> Prop} (ho : s.heap.get? it = some o) (hc : o.cls = .type n) (hd : o.data = .fields vs)
    (hn : ["enumerate", "zip", "dict_itemiterator", "dict_reverseitemiterator", "odict_iterator", "itertools.zip_longest", "itertools.pairwise"].contains n = false) (hQ : Q () s) : wpAny M A (afp tg (.ref it) u) Q E s := by
  unfold afp;cases tg <;> first
    | exact ada hQ
    | (cases u <;> first
        | exact ada hQ
        | (refine acx (wpAny_load ho ?_)
           rw [hc, hd];show wpAny M A (if (["enumerate", "zip", "dict_itemiterator", "dict_reverseitemiterator", "odict_iterator", "itertools.zip_longest", "itertools.pairwise"].contains n && vs[0]? == some (rawInt _)) = true then _ else _) Q E s;rw [if_neg (by intro h; rw [hn, aeZ] at h; cases h)];exact ada hQ))
noncomputable def IF(K:abW)(a:Addr):It:=
 ⟨fun i H=>∃xs x,bP K H a xs/\xs[i]? =some x,fun i H x H'=>H'=H/\∀xs,bP K H a xs->xs[i]? =some x,fun i H=>∃xs,bP K H a xs/\xs.length<=i⟩
noncomputable def IH(K:abW)(a:Addr):It:=
 ⟨fun i H=>∃xs x,cN K H a xs/\xs[i]? =some x,fun i H x H'=>H'=H/\∀xs,cN K H a xs->xs[i]? =some x,fun i H=>∃xs,cN K H a xs/\xs.length<=i⟩
noncomputable def wO(lo:Int)(n:Nat):It:=⟨fun i _=>i<n,fun i H x H'=>H'=H/\x=.int (lo+i),fun i _=>n<=i⟩
variable{K:abW}
theorem S7{w:World}(a it:Addr):Turn P w K tg (IF K a) [it] it (fun i h=>h.IsListIter it a i) where
 mem:=by simp
 obj:=fun i h st b hb=>by
  have e:b=it:=by simpa using hb
  subst e;obtain⟨o,e,c,d⟩:=st;exact⟨o,e,fun v z=>by rw[d] at z;cases z⟩
 keep:=fun i h h' st k=>st.at fun o e=>k it (by simp) o e
 item:=by
  intro X hP hw hK hc i pins s σ H E I hf st hg;subst hP hw hK;obtain⟨xs,x,hq,hx⟩:=hg;obtain⟨its,rv,p,hz⟩:=I.list hq;obtain⟨u,hu,ru⟩:=rv.get hx;obtain⟨f0,f1,f2,f3,f4,f5⟩:=hf it (by simp);refine wpAny_pyNext_list_item st p.isList (x:=u) (by simpa using hu) fun h' d6 sb=>?_
  have I1:Inv X pins σ H { s with heap:=h' }:=I.turned (t':=s.toks) (fun b o hb e=>(sb.2 b hb).trans e) f0 f1 f3 f4 f5;obtain⟨o,e,c,d⟩:=id d6;exact⟨u,rfl,zJ (s:={ s with heap:=h' }) e c d (by decide) ⟨x,H,I1,ru,⟨rfl,fun ys hy=>by rw[I.D4 hy hq];exact hx⟩,d6,fun b hb=>(hf b hb).1⟩⟩
 done:=by
  intro X hP hw hK hc i pins s σ H E I hf st hg;subst hP hw hK;obtain⟨xs,hq,hx⟩:=hg;obtain⟨its,rv,p,hz⟩:=I.list hq;obtain⟨f0,f1,f2,f3,f4,f5⟩:=hf it (by simp);have hl:=rv.length;exact wpAny_pyNext_list_end (I.ok.hd hc) st p.isList (by simp;omega) fun h' eb=>⟨rfl,I.turned (t':=s.toks) (fun b o hb e=>eb b o hb e) f0 f1 f3 f4 f5⟩
 self:=fun _ _ _ _ _ st h=>wpAny_pyIter_listiter st h
theorem Sn{w:World}(a it:Addr):Turn P w K tg (IH K a) [it] it (fun i h=>h.IsTupleIter it a i) where
 mem:=by simp
 obj:=fun i h st b hb=>by
  have e:b=it:=by simpa using hb
  subst e;obtain⟨o,e,c,d⟩:=st;exact⟨o,e,fun v z=>by rw[d] at z;cases z⟩
 keep:=fun i h h' st k=>st.at fun o e=>k it (by simp) o e
 item:=by
  intro X hP hw hK hc i pins s σ H E I hf st hg;subst hP hw hK;obtain⟨xs,x,hq,hx⟩:=hg;obtain⟨its,rv,p,hz⟩:=I.tuple hq;obtain⟨u,hu,ru⟩:=rv.get hx;obtain⟨f0,f1,f2,f3,f4,f5⟩:=hf it (by simp);refine wpAny_pyNext_tuple_item st (show s.heap.IsTuple a its.toArray from p) (x:=u) (by simpa using hu) fun h' d6 sb=>?_
  have I1:Inv X pins σ H { s with heap:=h' }:=I.turned (t':=s.toks) (fun b o hb e=>(sb.2 b hb).trans e) f0 f1 f3 f4 f5;obtain⟨o,e,c,d⟩:=id d6;exact⟨u,rfl,zJ (s:={ s with heap:=h' }) e c d (by decide) ⟨x,H,I1,ru,⟨rfl,fun ys hy=>by rw[I.S6 hy hq];exact hx⟩,d6,fun b hb=>(hf b hb).1⟩⟩
 done:=by
  intro X hP hw hK hc i pins s σ H E I hf st hg;subst hP hw hK;obtain⟨xs,hq,hx⟩:=hg;obtain⟨its,rv,p,hz⟩:=I.tuple hq;obtain⟨f0,f1,f2,f3,f4,f5⟩:=hf it (by simp);have hl:=rv.length;exact wpAny_pyNext_tuple_end (I.ok.hd hc) st (show s.heap.IsTuple a its.toArray from p) (by simp;omega) fun h' eb=>⟨rfl,I.turned (t':=s.toks) (fun b o hb e=>eb b o hb e) f0 f1 f3 f4 f5⟩
 self:=fun _ _ _ _ _ st h=>wpAny_pyIter_tupleiter st h
theorem So{w:World}(it:Addr)(lo:Int)(n:Nat):Turn P w K tg (wO lo n) [it] it (fun i h=>IsRangeIter h it (lo+(i:Nat)*1) ((n:Int)-(i:Nat)) 1) where
 mem:=by simp
 obj:=fun i h st b hb=>by
  have e:b=it:=by simpa using hb
  subst e;exact⟨_,st,fun v z=>by
   have z':Data.fields _=Data.cell v:=z;cases z'⟩
 keep:=fun i h h' st k=>k it (by simp) _ st
 item:=by
  intro X hP hw hK hc i pins s σ H E I hf st hg;subst hP hw hK;obtain⟨f0,f1,f2,f3,f4,f5⟩:=hf it (by simp);have W:=Walks.range (prog:=X.prog) (w:=X.w) (I.ok.hd hc) it lo 1 n;refine W.item i s _ _ hg st fun v h' tk hv d6 kk=>?_
  obtain⟨t,rfl⟩:=hv;have I1:Inv X pins σ H { s with heap:=h',toks:=tk }:=I.turned (fun b o hb e=>kk b o (by simpa using hb) e) f0 f1 f3 f4 f5;refine⟨_,rfl,zJ (s:={ s with heap:=h',toks:=tk }) (n:="range_iterator") d6 rfl rfl (by decide) ⟨.int (lo+i),H,I1,⟨t,?_⟩,⟨rfl,rfl⟩,d6,fun b hb=>(hf b hb).1⟩⟩;rw[Int.mul_one]
 done:=by
  intro X hP hw hK hc i pins s σ H E I hf st hg;subst hP hw hK;obtain⟨f0,f1,f2,f3,f4,f5⟩:=hf it (by simp);exact wpAny_pyNext_range_end (I.ok.hd hc) st (by have:n<=i:=hg;omega) fun h' eb=>⟨rfl,I.turned (t':=s.toks) (fun b o hb e=>eb b o hb e) f0 f1 f3 f4 f5⟩
 self:=fun _ _ _ _ _ st h=>wpAny_pyIter_rangeiter st h
section
variable{X:Cx}{tg:Expr}
noncomputable def ZG(K:abW)(tl:TE):TI:=fun σ H R=>tl σ H fun x H1=>∃a,x=.ref a/\(∃xs,bP K H1 a xs)/\R (IF K a) H1
noncomputable def aaV(K:abW)(tl:TE):TI:=fun σ H R=>tl σ H fun x H1=>∃a,x=.ref a/\(∃xs,cN K H1 a xs)/\R (IH K a) H1
theorem VA{l:Expr}{tl:TE}(hl:PE X l tl):PI X tg l (ZG X.K tl):=by
 intro pins s σ H R I h;refine a7 (hl pins s σ H _ I h) fun v s1 ⟨x,H1,I1,r1,q1⟩=>?_
 obtain⟨a,e,⟨xs,hq⟩,q⟩:=q1;subst e;cases r1;obtain⟨its,rv,p,hz⟩:=I1.list hq;refine wpAny_pyIter_list p.isList ?_;refine⟨s1.heap.objs.size,[s1.heap.objs.size],_,_,H1,rfl,I1.kept (t':=s1.toks) fun b o e=>aci _ e,S7 a _,⟨_,acN _ rfl,rfl,rfl⟩,fun b hb=>?_,q⟩;have e:b=s1.heap.objs.size:=by simpa using hb
 subst e;exact I1.rV (abZ _) (I1.aG.fresh (abZ _))
theorem XA{l:Expr}{tl:TE}(hl:PE X l tl):PI X tg l (aaV X.K tl):=by
 intro pins s σ H R I h;refine a7 (hl pins s σ H _ I h) fun v s1 ⟨x,H1,I1,r1,q1⟩=>?_
 obtain⟨a,e,⟨xs,hq⟩,q⟩:=q1;subst e;cases r1;obtain⟨its,rv,p,hz⟩:=I1.tuple hq;refine wpAny_pyIter_tuple (show s1.heap.IsTuple a its.toArray from p) ?_;refine⟨s1.heap.objs.size,[s1.heap.objs.size],_,_,H1,rfl,I1.kept (t':=s1.toks) fun b o e=>aci _ e,Sn a _,⟨_,acN _ rfl,rfl,rfl⟩,fun b hb=>?_,q⟩;have e:b=s1.heap.objs.size:=by simpa using hb
 subst e;exact I1.rV (abZ _) (I1.aG.fresh (abZ _))
variable{σ:St}{H:Hp}
theorem Uy{pins:List (Addr×Obj)}{s:acb}{R:It->Hp->Prop}{E:Value->acb->Prop}{lo hi:Int}{t u v:Tok}{tk:Nat}(I:Inv X pins σ H s)(h1: -(2 ^ 62)<=lo)(h2:lo<2 ^ 62)(h3: -(2 ^ 62)<=hi)(h4:hi<2 ^ 62)
  (q:R (wO lo (hi-lo).toNat) H):wpAny (model X.prog X.w) X.A (pyIter (.ref s.heap.objs.size)) (ID X pins σ tg R) E { s with heap:=s.heap.push { cls:=.type "range",data:=.fields #[.int lo t,.int hi u,.int 1 v] },toks:=tk }:=by
 refine wpAny_pyIter_range (IsRange.new ..) (small_one h1 h2 h3 h4) ?_;have I1:Inv X pins σ H { s with heap:=s.heap.push { cls:=.type "range",data:=.fields #[.int lo t,.int hi u,.int 1 v] },toks:=tk }:=I.kept fun b o e=>aci _ e
 refine⟨(s.heap.push { cls:=.type "range",data:=.fields #[.int lo t,.int hi u,.int 1 v] }).objs.size,[(s.heap.push { cls:=.type "range",data:=.fields #[.int lo t,.int hi u,.int 1 v] }).objs.size],_,_,H,rfl,
  I1.kept (t':=tk) fun b o e=>aci _ e,So _ lo (hi-lo).toNat,?_,fun b hb=>?_,q⟩
 ·have e1:lo+((0:Nat):Int)*1=lo:=by simp
  have e2:(((hi-lo).toNat:Nat):Int)-((0:Nat):Int)=Builtin.Range.rangeSize lo hi 1:=by rw[rangeSize_one];split <;> omega
  show IsRangeIter _ _ (lo+((0:Nat):Int)*1) ((((hi-lo).toNat:Nat):Int)-((0:Nat):Int)) 1;rw[e1,e2];exact acN _ rfl
 ·have e:b=(s.heap.push { cls:=.type "range",data:=.fields #[.int lo t,.int hi u,.int 1 v] }).objs.size:=by simpa using hb
  subst e;exact I1.rV (abZ _) (I1.aG.fresh (abZ _))
noncomputable def ZH(ta:TA):TI:=fun σ H R=>ta σ H fun vs H1=>∃j:Int,vs=[.int j]/\ -(2 ^ 62)<=j/\j<2 ^ 62/\R (wO 0 j.toNat) H1
theorem S8{a:Expr}{ta:TA}{p pos:Pos}(hg:Gl X "range")(hm:X.mg "range"=none)(ha:PA X [a] ta)(hs:acM [a] X.env=[(false,eval a X.env)]:=by rfl):PI X tg (.Call (.Name "range" p) [a] [] pos) (ZH ta):=by
 intro pins s σ H R I h;refine Call_ (vO I hg hm boot_range (aek (a7 (ha pos pins s σ H _ I h) fun us s1 ⟨vs,H1,I1,r1,q1⟩=>?_) hs rfl));obtain⟨j,e,q1,q2,q⟩:=q1;subst e;cases r1 with
 | cons r rr=>
  cases rr;obtain⟨t,rfl⟩:=r;exact call_range_1 (Uy I1 (by omega) (by omega) q1 q2 (by simpa using q))
noncomputable def Hz(wi:TI)(g:TG)(tb:TS):TS:=fun D σ H=>wi σ H fun J H1=>∃W:Nat->Nat->St->Hp->Prop,(∃m,W 0 m σ H1)/\∀i m σ H,W i m σ H →
 (J.stop i H/\D.nx σ H)\/(J.go i H/\∃N:St->Hp->Prop,(∀ao H',N ao H'->∃m',m'<m/\W (i+1) m' ao H')/\∀x H',J.sr i H x H'->g x σ H' fun bY H2=>tb { D with nx:=N,ct:=N,bk:=D.nx } bY H2)
noncomputable def rF(fp:List Addr)(h:Heap):List (Addr×Obj):=fp.filterMap fun b=>(h.get? b).map fun o=>(b,o)
variable{fp:List Addr}
theorem uV{h:Heap}{b:Addr}{o:Obj}(hb:b∈fp)(e:h.get? b=some o):(b,o)∈rF fp h:=afx.mpr ⟨b,hb,by rw[e];rfl⟩
theorem S9{h:Heap}{p:Addr×Obj}(hp:p∈rF fp h):p.1∈fp/\h.get? p.1=some p.2:=by
 obtain⟨b,hb,e⟩:=afx.mp hp;cases q:h.get? b with
 | none=>rw[q] at e;cases e
 | some o=>
  rw[q] at e;have e':(b,o)=p:=acY e;subst e';exact⟨hb,q⟩
theorem Inv.pinned{pins:List (Addr×Obj)}{s:acb}(I:Inv X pins σ H s)(hf:∀b∈fp,gn X pins H b)(ho:∀b∈fp,∃o,s.heap.get? b=some o/\∀v,o.data≠.cell v):Inv X (pins++rF fp s.heap) σ H s:=
 I.EF fun p hp=>(adb.mp hp).elim (fun z=>I.pin p (acR _ z)) fun z=>by
  obtain⟨hb,e⟩:=S9 z;obtain⟨f0,f1,f2,_⟩:=hf p.1 hb;obtain⟨o,e',d⟩:=ho p.1 hb;rw[e] at e';cases e';exact⟨e,f0,f1,f2,d⟩
theorem Inv.vk{pins pl:List (Addr×Obj)}{s:acb}(I:Inv X (pins++pl) σ H s):Inv X pins σ H s:=I.EF fun p hp=>I.pin p (acR _ (adw _ hp))
theorem XB{iter:Expr}{body:List Stmt}{wi:TI}{g:TG}{tb:TS}{pos:Pos}(hp:agH (model X.prog X.w) X.A X.env X.xe)(hc:X.calm=true)(hi:PI X tg iter wi)(hg:PG X tg g)(hb:fV X body tb)
  (hs:∀x,adf iter X.env x=pure x:=by intro _;rfl):PS X (.For tg iter body [] pos) (Hz wi g tb):=by
 intro pins s σ H D I h;refine wpAny_For (a7 (hi pins s σ H _ I h) fun v s1 h1=>a7 h1 fun AJ s2 h2=>?_) hs;obtain⟨it,fp,tn,J,H2,e,I2,T,bE,f2,W,⟨m0,w0⟩,turn⟩:=h2;subst e;have Ad:∀{H':Hp},(∀b∈fp,H' b=none)->∀b∈fp,gn X pins H' b:=fun hn b hb=>⟨hn b hb,(f2 b hb).2⟩
 refine codeAny_forLoop_any (fun n s'=>∃i ao H',Inv X pins ao H' s'/\tn i s'.heap/\(∀b∈fp,H' b=none)/\W i n ao H') ?_ m0 ⟨0,σ,H2,I2,bE,fun b hb=>(f2 b hb).1,w0⟩;rintro n s3 ⟨i,jy,H3,I3,fW,IJ,w3⟩
 rcases turn i n jy H3 w3 with⟨stop,qn⟩ | ⟨go,N,hN,step⟩
 ·refine aea hp (a7 (T.done X rfl rfl rfl hc i pins s3 jy H3 X.xe I3 (Ad IJ) fW stop) fun r s4 ⟨hr,I4⟩=>?_);subst hr;exact afo ⟨jy,H3,I4,qn⟩
 ·refine aea hp (a7 (T.item X rfl rfl rfl hc i pins s3 jy H3 X.xe I3 (Ad IJ) fW go) fun r s4 ⟨u,hr,h4⟩=>?_);subst hr;refine aea hp (a7 h4 fun _ s5 ⟨x,H5,I5,r5,y5,qo,wQ⟩=>?_);have I5':=I5.pinned (Ad wQ) (T.obj _ _ qo);refine aea hp (a7 (hg _ s5 jy H5 x u _ I5' r5 (step x H5 y5)) fun _ s6 ⟨tv,H6,I6,q6⟩=>?_);refine aea hp (a7 (hb _ s6 tv H6 _ I6 q6) fun f s7 q7=>?_);have again:∀{jz:St} {H7:Hp},Inv X (pins++rF fp s5.heap) jz H7 s7->N jz H7->∃m,m<n/\∃i ao H',Inv X pins ao H' s7/\tn i s7.heap/\(∀b∈fp,H' b=none)/\W i m ao H':=fun{jz H7} I7 n7=>by
   obtain⟨m',hm,w7⟩:=hN jz H7 n7;refine⟨m',hm,i+1,jz,H7,I7.vk,T.keep _ _ _ qo fun b hb o e=>(I7.pin (b,o) (acR _ (acR _ (uV hb e)))).1,fun b hb=>?_,w7⟩;obtain⟨o,e,d⟩:=T.obj _ _ qo b hb;exact(I7.pin (b,o) (acR _ (acR _ (uV hb e)))).2.1
  cases f with
  | next=>obtain⟨jz,H7,I7,n7⟩:=q7;exact again I7 n7
  | cont=>obtain⟨jz,H7,I7,n7⟩:=q7;exact again I7 n7
  | brk=>obtain⟨jz,H7,I7,q7⟩:=q7;exact⟨jz,H7,I7.vk,q7⟩
  | ret v=>obtain⟨x7,jz,H7,I7,r7,q7⟩:=q7;exact⟨x7,jz,H7,I7.vk,r7,q7⟩
end
abbrev R2:=V->V->Hp->VK->Prop
noncomputable def bJ(X:Cx)(f:Value->Value->Sem Value)(r:R2):Prop:=
 ∀(pins:List (Addr×Obj)) (s:acb) (σ:St) (H:Hp) (x y:V) (v u:Value) (Q:VK),Inv X pins σ H s->RelV x v->RelV y u->r x y H Q →
  wpAny (model X.prog X.w) X.A (f v u) (EP X pins σ Q) X.xe s
noncomputable def wR(X:Cx)(f:Value->Sem Value)(r:V->Hp->VK->Prop):Prop:=
 ∀(pins:List (Addr×Obj)) (s:acb) (σ:St) (H:Hp) (x:V) (v:Value) (Q:VK),Inv X pins σ H s->RelV x v->r x H Q →
  wpAny (model X.prog X.w) X.A (f v) (EP X pins σ Q) X.xe s
noncomputable def c9(X:Cx)(f:Value)(r:List V->Hp->VK->Prop):Prop:=
 ∀(pins:List (Addr×Obj)) (s:acb) (σ:St) (H:Hp) (xs:List V) (us:List Value) (Q:VK),Inv X pins σ H s->Vals xs us->r xs H Q →
  wpAny (model X.prog X.w) X.A (call f us) (EP X pins σ Q) X.xe s
noncomputable def su(r:R2)(ta tb:TE):TE:=fun σ H Q=>ta σ H fun x H1=>tb σ H1 fun y H2=>r x y H2 Q
noncomputable def tUn(r:V->Hp->VK->Prop)(ta:TE):TE:=fun σ H Q=>ta σ H fun x H1=>r x H1 Q
noncomputable def rI(C:Int->Int->Prop)(g:Int->Int->V):R2:=fun x y H Q=>∃i j,x=.int i/\y=.int j/\C i j/\Q (g i j) H
noncomputable def jm(g:Int->Int->V):R2:=fun x y H Q=>∃i j,x=.int i/\y=.int j/\Q (g i j) H
noncomputable def rU(g:Int->V):V->Hp->VK->Prop:=fun x H Q=>∃i,x=.int i/\Q (g i) H
section
variable{X:Cx}{a b c:Expr}{ta tb tc:TE}{pos:Pos}
theorem Ae(ha:PE X a ta)(hb:PE X b tb){pins:List (Addr×Obj)}{s:acb}{σ:St}{H:Hp}{R:V->V->Hp->Prop}(I:Inv X pins σ H s)
  (h:ta σ H fun x H1=>tb σ H1 fun y H2=>R x y H2) {Q:Value->acb->Prop} {f:Value->Value->Sem Value}
  (hf:∀v u s2 x y H2,Inv X pins σ H2 s2->RelV x v->RelV y u->R x y H2->wpAny (model X.prog X.w) X.A (f v u) Q X.xe s2) :
  wpAny (model X.prog X.w) X.A (eval a X.env) (fun v bM=>wpAny (model X.prog X.w) X.A (eval b X.env) (fun u oF=>wpAny (model X.prog X.w) X.A (f v u) Q X.xe oF) X.xe bM) X.xe s:=by
 refine a7 (ha pins s σ H _ I h) fun v s1 ⟨x,H1,I1,r1,q1⟩=>?_
 refine a7 (hb pins s1 σ H1 _ I1 q1) fun u s2 ⟨y,H2,I2,r2,q2⟩=>?_
 exact hf v u s2 x y H2 I2 r1 r2 q2
theorem ZI{op:Operator}{r:R2}(ho:bJ X (aeG op) r)(ha:PE X a ta)(hb:PE X b tb):PE X (.BinOp a op b pos) (su r ta tb):=by
 intro pins s σ H Q I h;exact wpAny_BinOp (Ae ha hb I h fun v u s2 x y H2 I2 rx ry q=>ho pins s2 σ H2 x y v u Q I2 rx ry q)
theorem ZJ{op:UnaryOp}{r:V->Hp->VK->Prop}(ho:wR X (unaryOp op) r)(ha:PE X a ta):PE X (.UnaryOp op a pos) (tUn r ta):=by
 intro pins s σ H Q I h;exact UnaryOp_ (a7 (ha pins s σ H _ I h) fun v s1 ⟨x,H1,I1,r1,q1⟩=>ho pins s1 σ H1 x v Q I1 r1 q1)
variable{f:Value->Value->Sem Value}
theorem AK{C:Int->Int->Prop}{g:Int->Int->Int}
  (rule:∀(i j:Int) (t u:Tok) (s:acb) (Q:Value->acb->Prop) (E:Value->acb->Prop),C i j->Q (.int (g i j) s.toks) { s with toks:=s.toks+1 }->wpAny (model X.prog X.w) X.A (f (.int i t) (.int j u)) Q E s) :
  bJ X f (rI C fun i j=>.int (g i j)):=by
 intro pins s σ H x y v u Q I rx ry h;obtain⟨i,j,rfl,rfl,hc,q⟩:=h;obtain⟨t,rfl⟩:=rx;obtain⟨t',rfl⟩:=ry;exact rule i j t t' s _ _ hc ⟨.int (g i j),H,I.tok _,⟨_,rfl⟩,q⟩
theorem HA{g:Int->Int->Int}
  (rule:∀(i j:Int) (t u:Tok) (s:acb) (Q:Value->acb->Prop) (E:Value->acb->Prop),Q (.int (g i j) s.toks) { s with toks:=s.toks+1 }->wpAny (model X.prog X.w) X.A (f (.int i t) (.int j u)) Q E s) :
  bJ X f (jm fun i j=>.int (g i j)):=by
 intro pins s σ H x y v u Q I rx ry h;obtain⟨i,j,rfl,rfl,q⟩:=h;obtain⟨t,rfl⟩:=rx;obtain⟨t',rfl⟩:=ry;exact rule i j t t' s _ _ ⟨.int (g i j),H,I.tok _,⟨_,rfl⟩,q⟩
theorem Af{g:Int->Int->Bool}
  (rule:∀(i j:Int) (t u:Tok) (s:acb) (Q:Value->acb->Prop) (E:Value->acb->Prop),Q (.bool (g i j)) s->wpAny (model X.prog X.w) X.A (f (.int i t) (.int j u)) Q E s) :
  bJ X f (jm fun i j=>.bl (g i j)):=by
 intro pins s σ H x y v u Q I rx ry h;obtain⟨i,j,rfl,rfl,q⟩:=h;obtain⟨t,rfl⟩:=rx;obtain⟨t',rfl⟩:=ry;exact rule i j t t' s _ _ ⟨.bl (g i j),H,I,rfl,q⟩
noncomputable def rW(i j:Int):Prop:=(-(2 ^ 64)<i/\i<2 ^ 64)\/(-(2 ^ 64)<j/\j<2 ^ 64)
theorem rW.ok{i j:Int}(h:rW i j):IntMulOk i j:=by
 rcases h with⟨h1,h2⟩ | ⟨h1,h2⟩
 ·exact .of_left (intBits_le_64 h1 h2)
 ·exact .of_right (intBits_le_64 h1 h2)
theorem XD:bJ X (aeG .Add) (jm fun i j=>.int (i+j)):=HA fun _ _ _ _ _ _ _ q=>add_int q
theorem XF:bJ X (aeG .Sub) (jm fun i j=>.int (i-j)):=HA fun _ _ _ _ _ _ _ q=>sub_int q
theorem XG:bJ X (aeG .Mult) (rI rW fun i j=>.int (i*j)):=AK fun _ _ _ _ _ _ _ hc q=>mul_int q hc.ok
theorem VB:bJ X (aeG .Mod) (rI (fun _ j=>j≠0) fun i j=>.int (i.fmod j)):=AK fun _ _ _ _ _ _ _ hc q=>mod_int' hc q
theorem unI{f:Value->Sem Value}{g:Int->Int}
  (rule:∀(i:Int) (t:Tok) (s:acb) (Q:Value->acb->Prop) (E:Value->acb->Prop),Q (.int (g i) s.toks) { s with toks:=s.toks+1 }->wpAny (model X.prog X.w) X.A (f (.int i t)) Q E s) :
  wR X f (rU fun i=>.int (g i)):=by
 intro pins s σ H x v Q I rx h;obtain⟨i,rfl,q⟩:=h;obtain⟨t,rfl⟩:=rx;exact rule i t s _ _ ⟨.int (g i),H,I.tok _,⟨_,rfl⟩,q⟩
theorem XH:wR X (unaryOp .USub) (rU fun i=>.int (-i)):=unI fun _ _ _ _ _ q=>neg_int q
end
section
variable{X:Cx}{a b c:Expr}{ta tb tc:TE}{pos:Pos}
theorem FF{pins:List (Addr×Obj)}{σ:St}{H:Hp}{s:acb}{Q:VK}{k k':Bool}(I:Inv X pins σ H s)(q:Q (.bl k) H)(e:k=k'):EP X pins σ Q (.bool k') s:=by
 subst e;exact⟨.bl k,H,I,rfl,q⟩
theorem ZK:bJ X (ado .Lt) (jm fun i j=>.bl (decide (i<j))):=Af fun _ _ _ _ _ _ _ q=>lt_int q
theorem ZL:bJ X (ado .LtE) (jm fun i j=>.bl (decide (i<=j))):=Af fun _ _ _ _ _ _ _ q=>le_int q
theorem ZM:bJ X (ado .Gt) (jm fun i j=>.bl (decide (j<i))):=Af fun _ _ _ _ _ _ _ q=>gt_int q
theorem XI:bJ X (ado .Is) (fun x y H Q=>y=.aI/\Q (.bl (decide (x=.aI))) H):=by
 intro pins s σ H x y v u Q I rx ry h;obtain⟨rfl,q⟩:=h;cases ry;refine is_none_gen (FF I q ?_);cases x <;> first
  | (cases rx;rfl)
  | (obtain⟨t,rfl⟩:=rx;rfl)
theorem VC:bJ X (ado .IsNot) (fun x y H Q=>y=.aI/\Q (.bl (!decide (x=.aI))) H):=by
 intro pins s σ H x y v u Q I rx ry h;obtain⟨rfl,q⟩:=h;cases ry;refine isnot_none_gen (FF I q ?_);cases x <;> first
  | (cases rx;rfl)
  | (obtain⟨t,rfl⟩:=rx;rfl)
variable{r:R2}
theorem bJ.or{f:Value->Value->Sem Value}{r':R2}(h:bJ X f r)(h':bJ X f r'):bJ X f (fun x y H Q=>r x y H Q\/r' x y H Q):=by
 intro pins s σ H x y v u Q I rx ry q
 rcases q with q | q
 ·exact h pins s σ H x y v u Q I rx ry q
 ·exact h' pins s σ H x y v u Q I rx ry q
theorem m9(b:Expr){op:CmpOp}(h:op≠.In:=by decide)(h2:op≠.NotIn:=by decide):adT op b=false:=by
 have e1:(op==CmpOp.In)=false:=by cases op <;> first | rfl | exact absurd rfl h
 have e2:(op==CmpOp.NotIn)=false:=by cases op <;> first | rfl | exact absurd rfl h2
 cases b <;> simp[adT,e1,e2]
theorem VD{op:CmpOp}(ho:bJ X (ado op) r)(ha:PE X a ta)(hb:PE X b tb)(hm:adT op b=false):PE X (.Compare a [op] [b] pos) (su r ta tb):=by
 intro pins s σ H Q I h;exact wpAny_Compare1 (Ae ha hb I h fun v u s2 x y H2 I2 rx ry q=>ho pins s2 σ H2 x y v u Q I2 rx ry q) hm
noncomputable def GG(t:TE):TT:=fun σ H Q=>t σ H fun x H'=>∃k,x=.bl k/\Q k H'
theorem VE{op:CmpOp}(ho:bJ X (ado op) r)(ha:PE X a ta)(hb:PE X b tb)(hm:adT op b=false):PT X (.Compare a [op] [b] pos) (GG (su r ta tb)):=by
 intro pins s σ H Q I h;refine wpAny_isTrue_Compare1 (a7 (ha pins s σ H _ I h) fun v s1 ⟨x,H1,I1,r1,q1⟩=>a7 (hb pins s1 σ H1 _ I1 q1) fun u s2 ⟨y,H2,I2,r2,q2⟩=>
  a7 (ho pins s2 σ H2 x y v u _ I2 r1 r2 q2) fun c s3 ⟨z,H3,I3,r3,k,e,q3⟩=>?_) hm
 subst e;cases r3;exact aes ⟨H3,I3,q3⟩
noncomputable def FG(r r':R2)(ta tb tc:TE):TE:=fun σ H Q=>ta σ H fun x H1=>tb σ H1 fun y H2=>r x y H2 fun z H3=>∃k,z=.bl k /\
 (if k=true then tc σ H3 fun w' H4=>r' y w' H4 Q else Q (.bl false) H3)
theorem Uz{op jn:CmpOp}{r':R2}(ho:bJ X (ado op) r)(eB:bJ X (ado jn) r')(ha:PE X a ta)(hb:PE X b tb)(hc:PE X c tc)
  (hm:lastMarks [op,jn] [b,c]=false:=by with_unfolding_all rfl):PT X (.Compare a [op,jn] [b,c] pos) (GG (FG r r' ta tb tc)):=by
 intro pins s σ H Q I h;refine isTrue_chain (a7 (ha pins s σ H _ I h) fun v s1 ⟨x,H1,I1,r1,q1⟩=>test_link (a7 (hb pins s1 σ H1 _ I1 q1) fun u s2 ⟨y,H2,I2,r2,q2⟩=>
  a7 (ho pins s2 σ H2 x y v u _ I2 r1 r2 q2) fun d s3 ⟨z,H3,I3,r3,k,e,q3⟩=>?_)) hm
 subst e;cases r3;refine aes ?_;cases k with
 | false=>
  obtain⟨k',e',q'⟩:=q3;cases e';exact ite_ff ⟨H3,I3,q'⟩
 | true=>
  refine ite_tt (test_last (a7 (hc pins s3 σ H3 _ I3 q3) fun w' s4 ⟨z',H4,I4,r4,q4⟩=>a7 (eB pins s4 σ H4 y z' u w' _ I4 r2 r4 q4) fun d' s5 ⟨z2,H5,I5,r5,k2,e2,q5⟩=>?_));subst e2;cases r5;exact aes ⟨H5,I5,q5⟩
theorem pz:(acv:Nat)<2 ^ 63:=by rw[sizeLine_eq];decide
theorem Sq:bJ X (aeG .Add) (fun x y H Q=>∃i j,x=.str i/\y=.str j/\i.length+j.length<=acv/\Q (.str (i++j)) H):=by
 intro pins s σ H x y v u Q I rx ry h;obtain⟨i,j,rfl,rfl,hz,q⟩:=h;obtain⟨t,rfl⟩:=rx;obtain⟨t',rfl⟩:=ry;exact add_str (fun t' tk=>⟨.str (i++j),H,I.tok _,⟨_,rfl⟩,q⟩) hz
theorem vals1{x:V}{us:List Value}(r:Vals [x] us):∃u,us=[u]/\RelV x u:=by
 cases r with
 | cons r1 r2=>cases r2;exact⟨_,rfl,r1⟩
theorem u6:c9 X (.type "int") (fun xs H Q=>(∃i,xs=[.int i]/\Q (.int i) H)\/∃k,xs=[.bl k]/\Q (.int (if k then 1 else 0)) H):=by
 intro pins s σ H xs us Q I r h
 rcases h with⟨i,rfl,q⟩ | ⟨k,rfl,q⟩
 ·obtain⟨u,rfl,t,rfl⟩:=vals1 r;exact call_int_int ⟨.int i,H,I,⟨_,rfl⟩,q⟩
 ·obtain⟨u,rfl,r1⟩:=vals1 r;cases r1;exact call_int_bool ⟨.int (if k then 1 else 0),H,I.tok _,⟨_,rfl⟩,q⟩
end
theorem iq.some_of{v:V}{o:Option Value}(r:iq (some v) o):∃u,o=some u/\RelV v u:=by
 cases o with
 | none=>exact(show False from r).elim
 | some u=>exact⟨u,rfl,r⟩
structure cS(k:Nat)(A:aeg):Prop where
 hd:A.handled=none
 dp:A.depth+3*k+5<recursionLimit
 un:A.units+16*k+200<cLine
theorem cS.mono{j k:Nat}(r:cS k A)(h:j<=k):cS j A:=⟨r.hd,by have:=r.dp;omega,by have:=r.un;omega⟩
theorem cS.deeper{k:Nat}{A:aeg}(r:cS (k+1) A)(env:Env):cS k (A.deeper env):=
 ⟨r.hd,by have:=r.dp;show A.depth+1+3*k+5<_;omega,by have:=r.un;show A.units+3+16*k+200<_;omega⟩
theorem cS.depth{k:Nat}{A:aeg}(r:cS k A):A.depth<recursionLimit:=by have:=r.dp;omega
theorem cS.units{k:Nat}{A:aeg}(r:cS k A):A.units+64<cLine:=by have:=r.un;omega
noncomputable def aaW:TA:=fun _ H Q=>Q [] H
noncomputable def ZN(ta:TE)(tr:TA):TA:=fun σ H Q=>ta σ H fun x H1=>tr σ H1 fun xs H2=>Q (x::xs) H2
section
variable{X:Cx}{e:Expr}{es:List Expr}{te:TE}{t:TA}{pos:Pos}
theorem FH:PA X [] aaW:=fun _ _ _ _ H Q I h=>Calls.spliced_nil ⟨[],H,I,.nil,h⟩
theorem yS(ha:PE X e te)(hr:PA X es t)(hs:acM (e::es) X.env=(false,eval e X.env)::acM es X.env:=by rfl):PA X (e::es) (ZN te t):=by
 intro pos pins s σ H Q I h;rw[hs];show wpAny _ _ (spliced ((false,eval e X.env)::afk pos (acM es X.env))) _ _ s;refine Calls.spliced_cons (a7 (ha pins s σ H _ I h) fun u s1 ⟨x,H1,I1,r1,q1⟩=>?_);exact a7 (hr pos pins s1 σ H1 _ I1 q1) fun us s2 ⟨xs,H2,I2,r2,q2⟩=>⟨x::xs,H2,I2,.cons r1 r2,q2⟩
noncomputable def aaX(t:TA):TE:=fun σ H Q=>t σ H fun xs H1=>xs.length<=acv/\∀p,H1 p=none->Q (.ref p) (upd H1 p (.tup xs))
noncomputable def aaY(t:TA):TE:=fun σ H Q=>t σ H fun xs H1=>xs.length<=acv/\∀p,H1 p=none->Q (.ref p) (upd H1 p (.lst xs))
theorem XJ{x1}(h:PA X es t):PE X (.Tuple es x1 pos) (aaX t):=by
 intro pins s σ H Q I hq;refine wpAny_Tuple_spliced (a7 (h pos pins s σ H _ I hq) fun us s1 ⟨xs,H1,I1,r,z,q⟩=>⟨by rw[<- r.length];exact z,?_⟩);have hf:H1 s1.heap.objs.size=none:=I1.aG.fresh (abZ _);refine⟨.ref s1.heap.objs.size,upd H1 s1.heap.objs.size (.tup xs),I1.laid (t':=s1.toks) (fun b u e=>aci _ e) (abZ _) ?_,rfl,q _ hf⟩;exact⟨z,us,r,⟨_,acN _ rfl,rfl,_,rfl⟩⟩
theorem XM(h:PA X es t):PE X (.List es pos) (aaY t):=by
 intro pins s σ H Q I hq;refine wpAny_List_spliced (a7 (h pos pins s σ H _ I hq) fun us s1 ⟨xs,H1,I1,r,z,q⟩=>⟨by rw[<- r.length];exact z,?_⟩);have hf:H1 s1.heap.objs.size=none:=I1.aG.fresh (abZ _);refine⟨.ref s1.heap.objs.size,upd H1 s1.heap.objs.size (.lst xs),I1.laid (t':=s1.toks) (fun b u e=>aci _ e) (abZ _) ?_,rfl,q _ hf⟩;exact⟨z,us,0,r,acN _ rfl⟩
end
abbrev Sp:=List V->Hp->VK->XK->Prop
abbrev lP:=List Env->Hp->acb->XK->Value->acb->Prop
structure rX(P:adl)(w:World)(K:abW)(mg:Str->Option Value)(base:Heap)(A:aeg)(outer:List Env)(s:acb)(H:Hp):Prop where
 frames:A.frames=some outer
 mod:Mod K mg base
 bs:∀b o,base.get? b=some o->s.heap.get? b=some o/\H b=none
 jS:base.objs.size<=s.heap.objs.size
 fF:s.heap.FunFrames base outer
 lM:∀b∈dZ outer,H b=none
 aG:cj P w H s.heap
 bare:afN s.gens
noncomputable def CE(outer:List Env)(P:adl)(w:World)(H:Hp)(s:acb)(Q:VK)(u:Value)(s':acb):Prop:=
 ∃v H',s'.os=s.os/\afN s'.gens/\Un (dZ outer) [] H H' s.heap s'.heap/\cj P w H' s'.heap/\RelV v u/\Q v H'
noncomputable def CR(CX:lP)(outer:List Env)(P:adl)(w:World)(H:Hp)(s:acb)(Q:VK)(E:XK)(r:Result)(s':acb):Prop:=
 match r with
 | .ok (.ret u)=>CE outer P w H s Q u s'
 | .ok _=>False
 | .error e=>CX outer H s E e s'
structure bT(P:adl)(w:World)(K:abW)(mg:Str->Option Value)(base:Heap)(CX:lP)(k:Nat)(f:Addr)(fd:acP)(ps:List Str)(sp:Sp):Prop where
 len:∀vs H Q E,sp vs H Q E->vs.length=ps.length
 run:∀(A:aeg) (outer:List Env) (s:acb) (H:Hp) (args:Args) (us:List Value) (vs:List V) (Q:VK) (E:XK),cS k A->rX P w K mg base A outer s H->BindsTo s fd args (ps.zip us)->Vals vs us->sp vs H Q E →
  codeAny (model P w) A (.call (.ref f) args) (CR CX outer P w H s Q E) s
section
variable{X:Cx}{pins:List (Addr×Obj)}{σ:St}{H:Hp}{s s':acb}
theorem Inv.HB(I:Inv X pins σ H s):rX X.prog X.w X.K X.mg X.base X.A X.stack s H:=
 ⟨I.ok.frames,I.ok.mod,I.bs,acl I.ok.jS I.sz,I.stack,I.vG,I.aG,I.bare⟩
theorem Inv.after{Q:VK}{u:Value}(I:Inv X pins σ H s)(h:CE X.stack X.prog X.w H s Q u s'):EP X pins σ Q u s':=by
 obtain⟨v,H',os,bare,un,aG,r,q⟩:=h;obtain⟨hh,g,d,t,os'⟩:=s';obtain rfl:os'=s.os:=os;exact⟨v,H',I.call (h':=hh) (g':=g) (d':=d) (t':=t) (ch:=[]) un aG bare (fun b z=>absurd z (by simp)),r,q⟩
end
noncomputable def Binds(K:abW)(fd:acP)(ps:List Str)(ds:List Value):Prop:=
 ∀(s:acb) (us:List Value),K.In s.heap->(us++ds).length=ps.length->BindsTo s fd ⟨us,[]⟩ (ps.zip (us++ds))
theorem Binds.all{fd:acP}{ps:List Str}(h:∀us:List Value,us.length=ps.length->bindArgs fd ⟨us,[]⟩=pure (ps.zip us)):Binds K fd ps []:=fun s us _ hl=>by
 rw[adp] at hl ⊢;exact .of_eq (h us hl)
structure cu(N P:List Str)(sc:Scope):Prop where
 kind:sc.kind=.function
 co:sc.isCoroutine=false
 gen:sc.isGenerator=false
 nd:N.Nodup
 pre:N.take P.length=P
 jW:∀x∈P,sc.names.lookup x=some .local\/sc.names.lookup x=some .cell
 XN:∀y∈sc.names,y.2≠.free
theorem DA{kindOf:Str->Option aet}{x:Str}:∀{binds:List (Str×Value)} {m:Str->Option Value},(∀v,(x,v)∉binds)->bindL kindOf binds m x=m x
 | [],_,_=>rfl
 | (n,v)::r,m,h=>by
  unfold bindL;rw[DA fun w hw=>h w (acH _ hw)];split
  ·have:x≠n:=by rintro rfl;exact h v adn
   simp[this]
  ·rfl
theorem DC{kindOf:Str->Option aet}{x:Str}:∀{binds:List (Str×Value)} {m:Str->Option Value},(∀v,(x,v)∉binds)->bindC kindOf binds m x=m x
 | [],_,_=>rfl
 | (n,v)::r,m,h=>by
  unfold bindC;rw[DC fun w hw=>h w (acH _ hw)];split
  ·rfl
  ·have:x≠n:=by rintro rfl;exact h v adn
   simp[this]
theorem DD{kindOf:Str->Option aet}{x:Str}{v:Value}:∀{P:List Str} {vs:List Value} {i:Nat} {m:Str->Option Value},P.Nodup->P[i]? =some x->vs[i]? =some v->kindOf x=some .local →
  bindL kindOf (P.zip vs) m x=some v
 | [],_,_,_,_,h,_,_=>by simp at h
 | _::_,[],_,_,_,_,h,_=>by simp at h
 | p::P,w::vs,0,m,nd,h1,h2,hk=>by
  simp at h1 h2;subst h1;subst h2
  show bindL kindOf ((p,w)::P.zip vs) m p=_;unfold bindL;rw[DA fun v hv=>(ael.mp nd).1 (aem hv).1,if_pos hk];simp
 | p::P,w::vs,i+1,m,nd,h1,h2,hk=>by
  show bindL kindOf ((p,w)::P.zip vs) m x=_;unfold bindL;exact DD (i:=i) (ael.mp nd).2 (by simpa using h1) (by simpa using h2) hk
theorem DE{kindOf:Str->Option aet}{x:Str}{v:Value}:∀{P:List Str} {vs:List Value} {i:Nat} {m:Str->Option Value},P.Nodup->P[i]? =some x->vs[i]? =some v->kindOf x≠some .local →
  bindC kindOf (P.zip vs) m x=some v
 | [],_,_,_,_,h,_,_=>by simp at h
 | _::_,[],_,_,_,_,h,_=>by simp at h
 | p::P,w::vs,0,m,nd,h1,h2,hk=>by
  simp at h1 h2;subst h1;subst h2
  show bindC kindOf ((p,w)::P.zip vs) m p=_;unfold bindC;rw[DC fun v hv=>(ael.mp nd).1 (aem hv).1,if_neg hk];simp
 | p::P,w::vs,i+1,m,nd,h1,h2,hk=>by
  show bindC kindOf ((p,w)::P.zip vs) m x=_;unfold bindC;exact DE (i:=i) (ael.mp nd).2 (by simpa using h1) (by simpa using h2) hk
noncomputable def start(N:List Str)(vs:List V):St:=vs.map some++acf (N.length-vs.length) none
noncomputable def dJ(CX:lP)(P:adl)(w:World)(K:abW)(mg:Str->Option Value)(base:Heap)(N:List Str)(qual:Str)(scope:Scope)(f:Addr)(cd:Value)(A:aeg)(outer:List Env)(s:acb)(H:Hp)(E:XK):Cx where
 prog:=P
 w:=w
 K:=K
 mg:=mg
 base:=base
 A:=A.deeper (aeB qual scope s.heap.objs.size f cd)
 N:=N
 aK:=s
 aR:=H
 env:=aeB qual scope s.heap.objs.size f cd
 outer:=outer
 stack:=aeB qual scope s.heap.objs.size f cd::outer
 ex:=[]
 calm:=true
 fn:=fun _=>true
 pn:=[]
 xe:=fun e s'=>wpAny (model P w) (A.deeper (aeB qual scope s.heap.objs.size f cd)) (leaving (aeB qual scope s.heap.objs.size f cd) e) (fun _ fu=>CX outer H s E e fu) (fun e' fu=>CX outer H s E e' fu) s'
theorem D5{sc:Scope}{n:Nat}{x:Str}(h:sc.names.lookup x=some .cell):∃c,(agf n sc.names []).lookup x=some c:=by
 have q:=aee sc.names n [] (.inl h);exact ads.mp q
theorem yh{CX:lP}{w:World}{mg:Str->Option Value}{base:Heap}{N ps:List Str}{qual:Str}{scope:Scope}{f:Addr}{cd:Value}{outer:List Env}{s s1:acb}{E:XK}{us:List Value}{vs:List V}
  (S:cu N ps scope) (hd:A.handled=none) (e0:rX P w K mg base A outer s H) (hl:vs.length=ps.length) (r:Vals vs us)
  (x:InCallC s s.heap.objs.size (bindL (aeB qual scope s.heap.objs.size f cd).kindOf (ps.zip us) fun _=>none) (agf (s.heap.objs.size+1) scope.names []) (bindC (aeB qual scope s.heap.objs.size f cd).kindOf (ps.zip us) fun _=>none) s1) :
  Inv (dJ CX P w K mg base N qual scope f cd A outer s H E) [] (start N vs) H s1:=by
 have gx:ps.length<=N.length:=by have:=congrArg List.length S.pre;rw[List.length_take] at this;omega
 obtain⟨h1,tk,rfl,hk⟩:=x.done;have AL:∀b:Addr,b∉(dJ CX P w K mg base N qual scope f cd A outer s H E).ex:=fun b z=>absurd (show b∈([]:List Addr) from z) (by simp)
 refine⟨⟨e0.mod,S.kind,rfl,rfl,abZ _,fun y z c h1 h2=>?_,fun y hy=>?_,fun y c _ h=>?_,fun _=>hd,agx e0.frames,.inr ⟨rfl,rfl⟩,fun b z=>absurd z (AL b),e0.bs,e0.jS,fun b _ _=>AL b,fun b z=>absurd z (AL b),e0.fF,e0.lM⟩,
  rfl,e0.bare,Un.kept hk,⟨_,x.toInCall.ns,fun i y v h1 h2 h3=>?_⟩,fun y c h=>⟨_,x.cell y c h⟩,e0.aG.fresh (abZ _),fun y c h=>?_,fun p hp=>absurd (show p∈([]:List (Addr×Obj)) from hp) (by simp),e0.aG.kept hk,?_⟩
 ·exact name_of_addr x.apart (adB h1) (adB h2)
 ·have hy:scope.names.lookup y=some .cell\/scope.names.lookup y=some .free:=hy
  rcases hy with hy | hy
  ·exact D5 hy
  ·exact absurd rfl (S.XN _ (adB hy))
 ·exact aeL (x.above y c (adB h))
 ·have hi:i<vs.length:=by
   unfold start at h2;by_cases hi:i<vs.length
   ·exact hi
   ·rw[adR (by simpa using hi)] at h2;rw[aed] at h2;split at h2 <;> cases h2
  have ha:vs[i]? =some v:=by
   unfold start at h2;rw[acE (by simpa using hi),abY] at h2;cases e:vs[i]? with
   | none=>rw[e] at h2;cases h2
   | some a=>rw[e] at h2;cases h2;rfl
  obtain⟨u,hu,rv⟩:=r.get ha;have hp:ps[i]? =some y:=by
   rw[<- S.pre,List.getElem?_take_of_lt (by omega)];exact h1
  have IK:ps.Nodup:=by rw[<- S.pre];exact S.nd.sublist (List.take_sublist _ _)
  refine⟨u,rv,?_⟩
  rcases S.jW y (acd hp) with k | k
  ·exact .inl ⟨k,DD IK hp hu k⟩
  ·obtain⟨c,e⟩:=D5 (n:=s.heap.objs.size+1) k;refine .inr ⟨.inl k,c,e,?_⟩;have q:=x.cell y c e;rw[DE IK hp hu (by show scope.names.lookup y≠_;rw[k];decide)] at q;exact q
 ·have z:=e0.aG.fresh (aeL (x.above y c (adB h)));exact⟨fun _=>z,.inl z⟩
 ·unfold start;show _=N.length;rw[acg,abX,afc];omega
theorem ZO{CX:lP}{w:World}{mg:Str->Option Value}{base:Heap}{k:Nat}{f:Addr}{name qual:Str}{params:Arguments}{body:List Stmt}{scope:Scope}{dV kV doc pm bG ct oc:Value}{an od:Option Addr}
  {fX:Array (Option Value)} {N ps:List Str} {sp:Sp} (lk:K.lookup f=some ⟨oc,od,.func (acw name qual params body scope dV kV doc pm an bG ct),fX⟩) (hcd:acr K bG qual=true) (S:cu N ps scope)
  (len:∀vs H Q E,sp vs H Q E->vs.length=ps.length)
  (kh:∀(A:aeg) (outer:List Env) (s:acb) (H:Hp) (vs:List V) (Q:VK) (E:XK),cS k (A.deeper (aeB qual scope s.heap.objs.size f bG))->sp vs H Q E →
   ∃t,fV (dJ CX P w K mg base N qual scope f bG A outer s H E) body t/\t { nx:=fun _ H'=>Q .aI H',rt:=Q } (start N vs) H) :
  bT P w K mg base CX (k+1) f (acw name qual params body scope dV kV doc pm an bG ct) ps sp:=by
 refine⟨len,fun A outer s H args us vs Q E hr e0 hb r nY=>?_⟩;have hl:=len _ _ _ _ nY;have KX:K.In s.heap:=e0.mod.qh.keeps fun b o e=>(e0.bs b o e).1
 have lim:s.heap.NoLimit:=e0.mod.nolimit.keeps fun b o e=>(e0.bs b o e).1
 have rG:∀y∈ps.zip us,scope.names.lookup y.1=some .local\/(scope.names.lookup y.1=some .cell/\((agf (s.heap.objs.size+1) scope.names []).lookup y.1).isSome=true):=fun⟨n,v⟩ hy=>by
  rcases S.jW n (aem hy).1 with q | q
  ·exact .inl q
  ·exact .inr ⟨q,aee _ _ _ (.inl q)⟩
 refine afd hr.depth (KX _ _ lk) rfl S.co S.gen rfl (afy KX hcd) (hb _ _ _ _ ?_);refine aex S.kind rG fun env he s1 x=>?_
 subst he;refine⟨lim.keeps x.toInCall.keep,codeAny_func ?_⟩;obtain⟨t,ht,hq⟩:=kh A outer s H vs Q E (hr.deeper _) nY;have I:Inv (dJ CX P w K mg base N qual scope f bG A outer s H E) [] (start N vs) H s1:=yh S hr.hd e0 hl r x;refine adm (ht [] s1 (start N vs) H _ I hq) (fun fl s' hs=>?_) fun e s' hs=>hs
 have fin:∀{ao:St} {H':Hp} {v:V} {u:Value},Inv (dJ CX P w K mg base N qual scope f bG A outer s H E) [] ao H' s'->RelV v u->Q v H'->CE outer P w H s Q u s':=
  fun{ao H' v u} J rv q=>⟨v,H',J.os,J.bare,J.base,J.aG,rv,q⟩
 cases fl with
 | ret u=>
  obtain⟨v,ao,H',J,rv,q⟩:=hs;exact fin J rv q
 | next=>
  obtain⟨ao,H',J,q⟩:=hs;exact fin (v:=V.aI) (u:=agO) J rfl q
 | brk=>
  obtain⟨_,_,_,q⟩:=hs;exact aeu q
 | cont=>
  obtain⟨_,_,_,q⟩:=hs;exact aeu q
section
variable{X:Cx}{x:Str}{p pos:Pos}{e:Expr}{es:List Expr}{t:TA}{id T:String}{r:List V->Hp->VK->Prop}
noncomputable def AN(r:List V->Hp->VK->Prop)(t:TA):TE:=fun σ H Q=>t σ H fun vs H1=>r vs H1 Q
theorem UA(hc:c9 X (.builtin id) r)(hg:Gl X x)(hm:X.mg x=none)(hv:adD x=some (.builtin id))(ha:PA X (e::es) t)(hn:x≠"__name__":=by decide)(dE:(x==("__debug__":Str))=false:=by decide)
  (he:acM (e::es) X.env=(false,eval e X.env)::acM es X.env:=by rfl) (gx:(afk pos (acM es X.env)).any (·.1)=false:=by rfl):PE X (.Call (.Name x p) (e::es) [] pos) (AN r t):=by
 intro pins s σ H Q I h;refine aeh (vO I hg hm hv ?_ hn dE);exact PyProof.Rows.callWith_builtin1 (a7 (ha pos pins s σ H _ I h) fun us s1 ⟨vs,H1,I1,r1,q1⟩=>hc pins s1 σ H1 vs us Q I1 r1 q1) he gx
theorem Ta(hc:c9 X (.type T) r)(hg:Gl X x)(hm:X.mg x=none)(hv:adD x=some (.type T))(ha:PA X (e::es) t)(hn:x≠"__name__":=by decide)(dE:(x==("__debug__":Str))=false:=by decide)
  (he:acM (e::es) X.env=(false,eval e X.env)::acM es X.env:=by rfl) (gx:(afk pos (acM es X.env)).any (·.1)=false:=by rfl):PE X (.Call (.Name x p) (e::es) [] pos) (AN r t):=by
 intro pins s σ H Q I h;refine aeh (vO I hg hm hv ?_ hn dE);exact aek (a7 (ha pos pins s σ H _ I h) fun us s1 ⟨vs,H1,I1,r1,q1⟩=>hc pins s1 σ H1 vs us Q I1 r1 q1) he gx
end
end L2
namespace HT
open PySem PyProof.Rows
section
open PySem.SeqAt
open PySem.AutoSeq1 (wpAny_loadPart')
open PySem.MeetsSeq PySem.MeetsSeq2 PySem.MeetsSeq3
end
section
variable{prog:adl}{w:World}{A:aeg}{E:Value->acb->Prop}{s:acb}
theorem VF{t b:Addr}{vs ws:List Value}{Q:Value->acb->Prop}(ht:IsTup s.heap t vs.toArray)(hb:IsTup s.heap b ws.toArray)(hv:vs≠[])
  (h1:ws=[]->Q (.ref t) s) (h2:ws≠[]->Q (.ref s.heap.objs.size) { s with heap:=s.heap.push { cls:=.type "tuple",data:=.seq (vs++ws).toArray } })
  (hsz:vs.length+ws.length<=acv):wpAny (model prog w) A (aeG .Add (.ref t) (.ref b)) Q E s:=by
 obtain⟨⟨cls,dd,data,sl⟩,ho,hc,n,hd⟩:=id ht;obtain⟨⟨abO,sx,data2,nZ⟩,wU,IP,n2,hd2⟩:=id hb;simp only at hc hd IP hd2;subst hc hd IP hd2;have e:vs.toArray++ws.toArray=(vs++ws).toArray:=by simp
 by_cases hw:ws=[]
 ·exact concat_meets ⟨_,ho,rfl⟩ ⟨_,wU,rfl⟩ noFill_tuple_add seq_tuple_add afZ afO (afF _ _)
   (tuple_addW1 t b vs.toArray ws.toArray n n2 dd sx sl nZ (by simpa using hv) (by simp[hw])) ⟨ho,wU,h1 hw⟩
 ·refine concat_meets ⟨_,ho,rfl⟩ ⟨_,wU,rfl⟩ noFill_tuple_add seq_tuple_add afZ afO (afF _ _)
   (tuple_addW2 t b vs.toArray ws.toArray n n2 dd sx sl nZ (by simpa using hv) (by simpa using hw) (by rw[acs,acs];exact hsz)) ⟨ho,wU,?_⟩
  rw[e];exact h2 hw
noncomputable def fY(n d:Nat):Option Int->Nat
 | none=>d
 | some v=>if v<0 then(v+(n:Int)).toNat else min v.toNat n
end
end HT
namespace L2
open PySem PySem.Spec PyProof.Rows
abbrev TO:=St->Hp->(Option Int->Hp->Prop)->Prop
theorem intsAre_of{ns:List Int}:∀{us:List Value},Vals (ns.map V.int) us->agg us ns:=by
 induction ns with
 | nil=>intro us r;rw[afe] at r;cases r;exact .nil
 | cons n ns ih=>
  intro us r;rw[acK] at r;cases r with
  | cons r1 r2=>
   obtain⟨t,e⟩:=r1;subst e;exact .cons n t (ih r2)
section
variable{X:Cx}{e:Expr}{te:TE}{lo hi:Option Expr}{tl th:TO}{pos p2:Pos}
noncomputable def SlR(X:Cx)(r:V->Option Int->Option Int->Hp->VK->Prop):Prop:=
 ∀(pins:List (Addr×Obj)) (s:acb) (σ:St) (H:Hp) (x:V) (v vl vu:Value) (lo hi:Option Int) (sl:Addr) (Q:VK),Inv X pins σ H s->RelV x v->s.heap.IsSliceOf sl vl vu .none->IsPart vl lo->IsPart vu hi->r x lo hi H Q →
  ∃T id,typeLookup (.type T) "__getitem__"=pure (some (.builtin id))/\s.TypeIs v T/\wpAny (model X.prog X.w) X.A (getItem v (.ref sl)) (EP X pins σ Q) X.xe s
noncomputable def wm(xs:List V)(lo hi:Option Int):List V:=(xs.drop (HT.fY xs.length 0 lo)).take (HT.fY xs.length xs.length hi-HT.fY xs.length 0 lo)
theorem Rw(xs:List V)(lo hi:Option Int):(wm xs lo hi).length<=xs.length:=by
 unfold wm;rw[List.length_take,List.length_drop];omega
noncomputable def GH(K:abW):R2:=fun x y H Q=>∃a b xs ys,x=.ref a/\y=.ref b/\cN K H a xs/\cN K H b ys/\xs≠[]/\xs.length+ys.length<=acv /\
 (ys=[]->Q (.ref a) H)/\(ys≠[]->∀p,H p=none->Q (.ref p) (upd H p (.tup (xs++ys))))
theorem Vals.yT{xs:List V}{us:List Value}(r:Vals xs us):us=[]↔xs=[]:=by
 cases r with
 | nil=>simp
 | cons _ _=>simp
theorem VG:bJ X (aeG .Add) (GH X.K):=by
 intro pins s σ H x y v u Q I rx ry h;obtain⟨a,b,xs,ys,rfl,rfl,ha,hb,hx,hz,q1,q2⟩:=h;cases rx;cases ry;obtain⟨its,r1,p1,_⟩:=I.tuple ha;obtain⟨jO,r2,p2,_⟩:=I.tuple hb;refine HT.VF p1 p2 (fun z=>hx (r1.yT.mp z)) (fun z=>⟨.ref a,H,I,rfl,q1 (r2.yT.mp z)⟩) (fun z=>?_) (by rw[<- r1.length,<- r2.length];exact hz);refine⟨.ref s.heap.objs.size,_,I.laid (t':=s.toks) (o:=.tup (xs++ys)) (fun b ob q=>aci _ q) (abZ _) ?_,rfl,q2 (fun w=>z (r2.yT.mpr w)) _ (I.aG.fresh (abZ _))⟩;exact⟨by rw[acg];exact hz,_,r1.append r2,IsTup.new _ _⟩
end
noncomputable def gy(n:Nat)(i:Int):Option Nat:=if 0<=i then(if i<n then some i.toNat else none) else if -(n:Int)<=i then some (i+n).toNat else none
noncomputable def ck{α:Type}(xs:List α)(i:Int):Option α:=(gy xs.length i).bind fun j=>xs[j]?
theorem EH{n:Nat}{i:Int}{j:Nat}(h:gy n i=some j):seqIndex? i n=some j/\j<n/\ -(n:Int)<=i/\i<n:=by
 unfold gy at h;by_cases h0:0<=i
 ·rw[if_pos h0] at h;by_cases h1:i<n
  ·rw[if_pos h1] at h;have e:i.toNat=j:=acY h;exact⟨by rw[seqIndex_of h0 h1,e],by omega,by omega,h1⟩
  ·rw[if_neg h1] at h;cases h
 ·rw[if_neg h0] at h;by_cases h1: -(n:Int)<=i
  ·rw[if_pos h1] at h;have e:(i+n).toNat=j:=acY h;exact⟨by rw[seqIndex_neg (by omega) h1,e],by omega,h1,by omega⟩
  ·rw[if_neg h1] at h;cases h
theorem yU{α:Type}{xs:List α}{i:Int}{v:α}(h:ck xs i=some v):∃j,seqIndex? i xs.length=some j/\xs[j]? =some v/\j<xs.length/\ -(xs.length:Int)<=i/\i<xs.length:=by
 unfold ck at h;cases e:gy xs.length i with
 | none=>rw[e] at h;cases h
 | some j=>
  rw[e] at h;obtain⟨h1,h2,h3,h4⟩:=EH e;exact⟨j,h1,h,h2,h3,h4⟩
noncomputable def yV(b:Expr):Prop:=∀o i,subscripted b false o i=operate [o,i] (getItem o i)
noncomputable def jo(X:Cx)(r:R2):Prop:=
 ∀(value slice:Expr) (pins:List (Addr×Obj)) (s:acb) (σ:St) (H:Hp) (x y:V) (v u:Value) (Q:VK),Inv X pins σ H s->RelV x v->RelV y u->r x y H Q →
  subscripted slice false v u=operate [v,u] (getItem v u)->wpAny (model X.prog X.w) X.A (subscriptTail value slice v u) (EP X pins σ Q) X.xe s
noncomputable def qp(X:Cx)(id:String)(r:V->List V->Hp->VK->Prop):Prop:=
 ∀(pins:List (Addr×Obj)) (s:acb) (σ:St) (H:Hp) (x:V) (xs:List V) (v:Value) (us:List Value) (Q:VK),Inv X pins σ H s->RelV x v->Vals xs us->r x xs H Q →
  wpAny (model X.prog X.w) X.A (call (.builtin id) (v::us)) (EP X pins σ Q) X.xe s
section
variable{X:Cx}{a b:Expr}{ta tb:TE}{pos:Pos}
theorem jo.or{r r':R2}(h:jo X r)(h':jo X r'):jo X (fun x y H Q=>r x y H Q\/r' x y H Q):=by
 intro value slice pins s σ H x y v u Q I rx ry q hs
 rcases q with q | q
 ·exact h value slice pins s σ H x y v u Q I rx ry q hs
 ·exact h' value slice pins s σ H x y v u Q I rx ry q hs
theorem ZP{r:R2}(hr:jo X r)(ha:PE X a ta)(hb:PE X b tb)(hs:yV b):PE X (.Subscript a b pos) (su r ta tb):=by
 intro pins s σ H Q I h;exact Subscript_ (Ae ha hb I h fun v u s2 x y H2 I2 rx ry q=>hr a b pins s2 σ H2 x y v u Q I2 rx ry q (hs _ _))
noncomputable def HC(K:abW):R2:=fun x y H Q=>∃p xs i v,x=.ref p/\y=.int i/\bP K H p xs/\ck xs i=some v/\Q v H
noncomputable def HD(K:abW):R2:=fun x y H Q=>∃p xs i v,x=.ref p/\y=.int i/\cN K H p xs/\ck xs i=some v/\Q v H
noncomputable def HE:R2:=fun x y H Q=>∃z i c,x=.str z/\y=.int i/\z.length<=acv/\ck z.cps.toList i=some c/\Q (.str ⟨#[c]⟩) H
theorem VH:jo X (HC X.K):=by
 intro value slice pins s σ H x y v u Q I rx ry h hs;obtain⟨p,xs,i,z,rfl,rfl,hq,he,q⟩:=h;cases rx;obtain⟨t,rfl⟩:=ry;obtain⟨its,r,pl,hz⟩:=I.list hq;obtain⟨j,h1,h2,h3,h4,h5⟩:=yU he;obtain⟨w,ew,fZ⟩:=r.get h2;have hl:=r.length;have hn:=pz;have fin:EP X pins σ Q w s:=⟨z,H,I,fZ,q⟩
 by_cases h0:0<=i
 ·have hj:i.toNat=j:=by
   rw[seqIndex_of h0 h5] at h1;exact acY h1
  exact item_listR pl.isList h0 (by omega) (by rw[hj];simpa using ew) fin hs
 ·have hj:(i+(its.toArray.size:Int)).toNat=j:=by
   rw[seqIndex_neg (by omega) h4] at h1;rw[acs,<- hl];exact acY h1
  exact subscriptTail_builtinR (x:=w) pl.isList.typeIs slot_list_getitem.lookup
   (wpAny_getItem_list_neg (Q:=fun r s'=>r=w/\EP X pins σ Q r s') pl.isList (by omega) (by rw[acs] <;> omega) (by omega) (by rw[hj];simpa using ew) ⟨rfl,fin⟩) hs
theorem XO:jo X (HD X.K):=by
 intro value slice pins s σ H x y v u Q I rx ry h hs;obtain⟨p,xs,i,z,rfl,rfl,hq,he,q⟩:=h;cases rx;obtain⟨t,rfl⟩:=ry;obtain⟨its,r,pl,hz⟩:=I.tuple hq;obtain⟨j,h1,h2,h3,h4,h5⟩:=yU he;obtain⟨w,ew,fZ⟩:=r.get h2;have hl:=r.length;have hn:=pz;have fin:EP X pins σ Q w s:=⟨z,H,I,fZ,q⟩
 exact subscriptTail_builtinR (x:=w) pl.typeIs slot_tuple_getitem.lookup
  (getItem_tuple (j:=j) (Q:=fun r s'=>r=w/\EP X pins σ Q r s') pl (by omega) (by omega) (by rw[acs,<- hl];exact h1) (by simpa using ew) ⟨rfl,fin⟩) hs
theorem XQ:jo X HE:=by
 intro value slice pins s σ H x y v u Q I rx ry h hs;obtain⟨z,i,c,rfl,rfl,hz,he,q⟩:=h;obtain⟨t,rfl⟩:=rx;obtain⟨t',rfl⟩:=ry;obtain⟨j,h1,h2,h3,h4,h5⟩:=yU he;have hl:z.cps.toList.length=z.length:=by simp[Str.length]
 rw[hl] at h1 h4 h5;have hn:=pz;exact tail_any (typeIs_str s z t) slot_str_getitem.lookup (getItem_str (c:=c) (by
  have e1:decide (i< -(2 ^ 63:Int))=false:=decide_eq_false (by omega);have e2:decide (i >= 2 ^ 63)=false:=decide_eq_false (by omega);rw[e1,e2,agI]) (by rw[h1];simpa using h2) ⟨.str ⟨#[c]⟩,H,I.tok _,⟨_,rfl⟩,q⟩) hs
noncomputable def AO(K:abW):R2:=fun x y H Q=>HC K x y H Q\/HD K x y H Q\/HE x y H Q
theorem XR:jo X (AO X.K):=VH.or (XO.or XQ)
theorem Sr(its:List Value)(n j:Nat)(u:Value):agv (·.setIfInBounds j u) { cls:=.type "list",data:=.seq its.toArray n }={ cls:=.type "list",data:=.seq (its.set j u).toArray n }:=by
 simp[agv]
variable{σ:St}{H:Hp}
theorem Inv.lst{pins:List (Addr×Obj)}{s:acb}{p:Addr}{xs:List V}(I:Inv X pins σ H s)(h:H p=some (.lst xs)) :
  ∃(its:List Value) (n:Nat),Vals xs its/\s.heap.get? p=some { cls:=.type "list",data:=.seq its.toArray n }/\xs.length<=sizeLine:=by
 obtain⟨z,its,n,r,e⟩:=I.aG p _ h;exact⟨its,n,r,e,z⟩
theorem Inv.XS{pins:List (Addr×Obj)}{s:acb}{p:Addr}{xs ys:List V}{its its':List Value}{n n':Nat}{f:Obj->Obj}(I:Inv X pins σ H s)(h:H p=some (.lst xs))
  (ho:s.heap.get? p=some { cls:=.type "list",data:=.seq its.toArray n }) (hf:f { cls:=.type "list",data:=.seq its.toArray n }={ cls:=.type "list",data:=.seq its'.toArray n' }) (r:Vals ys its') (hz:ys.length<=acv) (t:Nat) :
  Inv X pins σ (upd H p (.lst ys)) { s with heap:=s.heap.update p f,toks:=t }:=by
 have e:(s.heap.update p f).get? p=some { cls:=.type "list",data:=.seq its'.toArray n' }:=by
  rw[Heap.get?_update_self f ho (by rw[hf] <;> rfl),hf]
 refine I.write (x:=p) (e:=p) (by rw[h];trivial) (.inl rfl) (fun b u hb q=>(aga _ _ (aej hb)).trans q) ⟨_,e⟩ ?_;exact⟨hz,its',n',r,e⟩
noncomputable def ZQ:V->V->V->Hp->(Hp->Prop)->Prop:=fun o i v H Q=>∃p xs k j,o=.ref p/\i=.int k/\H p=some (.lst xs)/\gy xs.length k=some j/\Q (upd H p (.lst (xs.set j v)))
theorem set_list:lx X ZQ:=by
 intro pins s σ H o i v ov iv u Q I ro ri rv h;obtain⟨p,xs,k,j,rfl,rfl,hp,hj,q⟩:=h;cases ro;obtain⟨t,rfl⟩:=ri;obtain⟨its,n,r,ho,hz⟩:=I.lst hp;obtain⟨h1,h2,h3,h4⟩:=EH hj;have hl:=r.length;have hn:=pz;have I':Inv X pins σ (upd H p (.lst (xs.set j v))) { s with heap:=s.heap.update p (agv (·.setIfInBounds j u)) }:=
  I.XS hp ho (Sr its n j u) (r.set rv j) (by rw[adq];exact hz) s.toks
 by_cases h0:0<=k
 ·have hk:k.toNat=j:=by
   rw[seqIndex_of h0 h4] at h1;exact acY h1
  exact PySem.W.ki_setAt ho h0 (by omega) (by rw[acs,<- hl];exact h4) (by rw[hk];exact⟨_,I',q⟩)
 ·have hk:(k+(its.toArray.size:Int)).toNat=j:=by
   rw[seqIndex_neg (by omega) h3] at h1;rw[acs,<- hl];exact acY h1
  exact PySem.W.ki_setBack ho (by omega) (by rw[acs,<- hl];exact h3) (by omega) (by rw[hk];exact⟨_,I',q⟩)
theorem Q4(lo hi:Option Int)(n:Nat):(aeV lo hi none n).1=((HT.fY n 0 lo:Nat):Int)/\(aeV lo hi none n).2.1=((HT.fY n n hi:Nat):Int)/\(aeV lo hi none n).2.2=1:=by
 refine⟨?_,?_,rfl⟩
 ·cases lo with
  | none=>simp[aeV,HT.fY]
  | some i=>
   simp only[aeV,HT.fY,Option.getD_none,show(1:Int)>0 by decide,if_true];by_cases h:i<0
   ·simp only[h,if_true] <;> omega
   ·simp only[h,if_false] <;> omega
 ·cases hi with
  | none=>simp[aeV,HT.fY]
  | some i=>
   simp only[aeV,HT.fY,Option.getD_none,show(1:Int)>0 by decide,if_true];by_cases h:i<0
   ·simp only[h,if_true] <;> omega
   ·simp only[h,if_false] <;> omega
theorem Qu(its:List Value)(lo hi:Option Int):slicePick its.toArray lo hi none=((its.drop (HT.fY its.length 0 lo)).take (HT.fY its.length its.length hi-HT.fY its.length 0 lo)).toArray:=by
 obtain⟨h1,h2,h3⟩:=Q4 lo hi its.toArray.size;unfold slicePick;rw[h1,h2,h3];simp only[sliceRange_one,pick_run,acs] <;> rfl
noncomputable def aaZ(K:abW):V->Option Int->Option Int->Hp->VK->Prop:=fun x lo hi H Q=>∃a xs,x=.ref a/\bP K H a xs/\∀p,H p=none->Q (.ref p) (upd H p (.lst (wm xs lo hi)))
theorem abJ:SlR X (aaZ X.K):=by
 intro pins s σ H x v vl vu lo hi sl Q I rx hs pl pu h;obtain⟨a,xs,rfl,hx,q⟩:=h;cases rx;obtain⟨its,r,ht,hz⟩:=I.list hx;have cL:=r.length;refine⟨"list",_,slot_list_getitem.lookup,ht.isList.typeIs,?_⟩;refine wpAny_getItem_list_slice ht.isList hs pl pu .none (by simp) ?_ (by rw[acs] <;> omega);rw[Qu,<- cL];refine⟨.ref s.heap.objs.size,_,I.laid (t':=s.toks) (o:=.lst (wm xs lo hi)) (fun b ob q=>aci _ q) (abZ _) ?_,rfl,q _ (I.aG.fresh (abZ _))⟩;exact⟨acl (Rw xs lo hi) hz,_,0,(r.drop (HT.fY xs.length 0 lo)).take (HT.fY xs.length xs.length hi-HT.fY xs.length 0 lo),acN _ rfl⟩
theorem Q5:c9 X (.builtin "len") (fun xs H Q=>∃p ys,xs=[.ref p]/\(bP X.K H p ys\/cN X.K H p ys)/\Q (.int ys.length) H):=by
 intro pins s σ H xs us Q I r h;obtain⟨p,ys,rfl,hq,q⟩:=h;obtain⟨u,rfl,rx⟩:=vals1 r;cases rx;have hn:=pz
 rcases hq with hq | hq
 ·obtain⟨its,r',pl,hz⟩:=I.list hq;have cL:=r'.length;exact Calls.call_len_list pl.isList (by simp only[acs] <;> omega) ⟨.int ys.length,H,I.tok _,⟨s.toks+1,by rw[acs,cL]⟩,q⟩
 ·obtain⟨its,r',pl,hz⟩:=I.tuple hq;have cL:=r'.length;exact len_tuple pl (by simp only[acs] <;> omega) ⟨.int ys.length,H,I.tok _,⟨s.toks+1,by rw[acs,cL]⟩,q⟩
theorem Q6:c9 X (.builtin "len") (fun xs H Q=>∃z,xs=[.str z]/\z.length<=acv/\Q (.int z.length) H):=by
 intro pins s σ H xs us Q I r h;obtain⟨z,rfl,hz,q⟩:=h;obtain⟨u,rfl,t,rfl⟩:=vals1 r;have hn:=pz;exact len_str (by omega) ⟨.int z.length,H,I.tok _,⟨_,rfl⟩,q⟩
theorem c9.or{f:Value}{r r':List V->Hp->VK->Prop}(h:c9 X f r)(h':c9 X f r'):c9 X f (fun xs H Q=>r xs H Q\/r' xs H Q):=by
 intro pins s σ H xs us Q I rs q
 rcases q with q | q
 ·exact h pins s σ H xs us Q I rs q
 ·exact h' pins s σ H xs us Q I rs q
theorem Q7:c9 X (.type "list") (fun xs H Q=>∃p ys,xs=[.ref p]/\(bP X.K H p ys\/cN X.K H p ys)/\∀l,H l=none->Q (.ref l) (upd H l (.lst ys))):=by
 intro pins s σ H xs us Q I r h;obtain⟨p,ys,rfl,hq,q⟩:=h;obtain⟨u,rfl,rx⟩:=vals1 r;cases rx;have fin:∀(its:List Value),Vals ys its->ys.length<=acv->∀(h':Heap) (c':Nat),(∀b o',s.heap.get? b=some o'->h'.get? b=some o') →
   h'.get? s.heap.objs.size=some { cls:=.type "list",dict:=none,data:=.seq its.toArray c',slots:= #[] }->EP X pins σ Q (.ref s.heap.objs.size) { s with heap:=h' }:=fun its r' hz h' c' kp e=>
  ⟨.ref s.heap.objs.size,_,I.laid (t':=s.toks) kp (abZ _) (show dG X.prog X.w _ h' _ (.lst ys) from⟨hz,its,c',r',e⟩),rfl,q _ (I.aG.fresh (abZ _))⟩
 rcases hq with hq | hq
 ·obtain⟨its,r',pl,hz⟩:=I.list hq;have cL:=r'.length;obtain⟨o,ho,hc,n,hd⟩:=pl.isList;exact call_list_seq p (.inl rfl) ho hc hd (fun h' c' kp e=>fin its r' hz h' c' kp e) (by simp only[acs] <;> omega)
 ·obtain⟨its,r',pl,hz⟩:=I.tuple hq;have cL:=r'.length;obtain⟨o,ho,hc,n,hd⟩:=pl;exact call_list_seq p (.inr rfl) ho hc hd (fun h' c' kp e=>fin its r' hz h' c' kp e) (by simp only[acs] <;> omega)
noncomputable def AQ(K:abW)(T:String)(x:V)(H:Hp):Prop:=match x with
 | .str _=>T="str"
 | .int _=>T="int"
 | .ref p=>(T="list"/\∃xs,bP K H p xs)\/(T="tuple"/\∃o,K.lookup p=some o/\o.cls=.type "tuple"/\o.dict=none) \/
   (T="dict"/\((∃kvs,H p=some (.dK kvs))\/∃kvs,H p=some (.dT kvs)))\/(T="set"/\∃S n,H p=some (.set S n))\/(T="dict"/\∃kvs,H p=some (.dU kvs))
 | _=>False
theorem XT{pins:List (Addr×Obj)}{s:acb}{T:String}{x:V}{v:Value}(I:Inv X pins σ H s)(r:RelV x v)(ty:AQ X.K T x H) :
  s.TypeIs v T/\∀a,v=.ref a->∃ob,s.heap.get? a=some ob/\ob.dict=none:=by
 cases x with
 | str z=>
  obtain⟨t,rfl⟩:=r;cases(show T="str" from ty);exact⟨typeIs_str s z t,fun _ e=>nomatch e⟩
 | int i=>
  obtain⟨t,rfl⟩:=r;cases(show T="int" from ty);exact⟨typeIs_int s i t,fun _ e=>nomatch e⟩
 | ref p=>
  cases r
  rcases ty with⟨rfl,xs,hq⟩ | ⟨rfl,o,hk,hc,hd⟩ | ⟨rfl,hk⟩ | ⟨rfl,S,n,hk⟩ | ⟨rfl,kvs,hk⟩
  ·obtain⟨its,_,pl,_⟩:=I.list hq;refine⟨pl.isList.typeIs,fun a e=>?_⟩;cases e;obtain⟨o,n,e,c,hd,_⟩:=pl;exact⟨o,e,hd⟩
  ·refine⟨⟨o,I.kA p o hk,hc⟩,fun a e=>?_⟩;cases e;exact⟨o,I.kA _ o hk,hd⟩
  ·have z:∃o,s.heap.get? p=some o/\o.ExactDict:=by
    rcases hk with⟨kvs,hk⟩ | ⟨kvs,hk⟩
    ·obtain⟨_,_,_,_,o,_,_,e,ex,_⟩:=I.aG p _ hk;exact⟨o,e,ex⟩
    ·obtain⟨_,_,_,_,o,_,_,e,ex,_⟩:=I.aG p _ hk;exact⟨o,e,ex⟩
   obtain⟨o,e,ex⟩:=z;refine⟨⟨o,e,ex.1⟩,fun a e2=>?_⟩;cases e2;exact⟨o,e,ex.2.1⟩
  ·obtain⟨o,_,_,_,e,ex,_⟩:=I.aG p _ hk;refine⟨⟨o,e,ex.1⟩,fun a e2=>?_⟩;cases e2;exact⟨o,e,ex.2.1⟩
  ·obtain⟨_,_,o,_,_,e,ex,_⟩:=I.aG p _ hk;refine⟨⟨o,e,ex.1⟩,fun a e2=>?_⟩;cases e2;exact⟨o,e,ex.2.1⟩
 | _=>exact aeu ty
noncomputable def IQ(K:abW)(T:String)(r:V->List V->Hp->VK->Prop)(to:TE)(t:TA):TE:=fun σ H Q=>to σ H fun x H1=>AQ K T x H1/\t σ H1 fun xs H2=>r x xs H2 Q
variable{o e:Expr}{es:List Expr}{to:TE}{t:TA}{name:Str}{apos eV:Pos}{T id:String}{r:V->List V->Hp->VK->Prop}
theorem ZR(pa:agP T)(slot:Slot T name id)(n6:typeOf (.builtin id)=pure (.type "method_descriptor"))(hm:qp X id r)(ho:PE X o to)(ha:PA X (e::es) t)
  (nB:afP o name X.env (eval o X.env)=eval o X.env:=by rfl)
  (Ag:((afk eV (acM (e::es) X.env)).all (fun x=> !x.1)&&(backToKw eV (keywordEach [] X.env)).all (fun x=>x.1.isSome)
   && decide ((e::es).length+([]:List Keyword).length+(if([]:List Keyword).isEmpty then 0 else 1)<30))=true:=by rfl)
  (nC:(apos.endLine==eV.line)=true:=by rfl) (hs:acM (e::es) X.env=(false,eval e X.env)::acM es X.env:=by rfl) (ze:(afk eV (acM es X.env)).any (·.1)=false:=by rfl) :
  PE X (.Call (.Attribute o name apos) (e::es) [] eV) (IQ X.K T r to t):=by
 intro pins s σ H Q I h;refine wpAny_Call_method_late nB Ag nC rfl (a7 (ho pins s σ H _ I h) fun v s1 ⟨x,H1,I1,r1,ty,q1⟩=>?_);obtain⟨h1,h2⟩:=XT I1 r1 ty;refine⟨T,id,pa,slot,n6,h1,h2,?_⟩;have hA:=ha eV pins s1 σ H1 _ I1 q1;rw[hs] at hA ⊢;refine Calls.callWith_builtin (by show(false||(afk eV (acM es X.env)).any (·.1))=false;rw[ze] <;> rfl) (Calls.evalArgs_plain ?_);exact a7 hA fun us s2 ⟨vs,H2,I2,r2,q2⟩=>hm pins s2 σ H2 x vs v us Q I2 r1 r2 q2
end
noncomputable def IR(X:Cx)(id:String)(r:V->List V->Hp->VK->Prop):Prop:=
 ∀(pins:List (Addr×Obj)) (s:acb) (σ:St) (H:Hp) (x:V) (xs:List V) (v:Value) (us:List Value) (Q:VK),Inv X pins σ H s->RelV x v->Vals xs us->r x xs H Q →
  wpAny (model X.prog X.w) X.A (call (.builtin id) (v::us)) (EP X pins σ Q) X.xe s
theorem Vals.one{x:V}{us:List Value}(h:Vals [x] us):∃u,us=[u]/\RelV x u:=by
 cases h with
 | cons r t=>cases t;exact⟨_,rfl,r⟩
theorem Vals.two{x y:V}{us:List Value}(h:Vals [x,y] us):∃u v,us=[u,v]/\RelV x u/\RelV y v:=by
 cases h with
 | cons r t=>
  obtain⟨v,e,q⟩:=Vals.one t;subst e;exact⟨_,_,rfl,r,q⟩
theorem Vals.rep{xs:List V}{us:List Value}(h:Vals xs us):∀k:Nat,Vals (acf k xs).flatten (acf k us).flatten
 | 0=>.nil
 | k+1=>by
  rw[adh,adh,adN,adN];exact Vals.append h (Vals.rep h k)
theorem foldl_rep(its:List Value):∀(k:Nat) (acc:List Value),
  List.foldl (fun x1 x2=>x1++x2) acc.toArray (acf k its.toArray)=(acc++(acf k its).flatten).toArray
 | 0,acc=>by simp
 | k+1,acc=>by
  have e:acc.toArray++its.toArray=(acc++its).toArray:=by simp
  have e2:(acc++its)++(acf k its).flatten=acc++(acf (k+1) its).flatten:=by
   rw[adh,adN,afG]
  rw[<- e2,<- foldl_rep its k (acc++its),<- e,adh,List.foldl_cons]
section
variable{X:Cx}{pins:List (Addr×Obj)}{σ:St}{H:Hp}{s:acb}{l b:Addr}{xs ys zs:List V}
theorem Inv.HF{its its':List Value}{n:Nat}{f:Array Value->Array Value}{t':Nat}(I:Inv X pins σ H s)(hH:H l=some (.lst xs))
  (e:s.heap.get? l=some { cls:=.type "list",data:=.seq its.toArray n }) (hf:f its.toArray=its'.toArray) (hv:Vals ys its') (hz:ys.length<=acv) :
  Inv X pins σ (upd H l (.lst ys)) { s with heap:=s.heap.update l (agv f),toks:=t' }:=by
 have q:=PySem.IsL.update e f;rw[hf] at q;refine I.write (x:=l) (e:=l) (by rw[hH];exact trivial) (.inl rfl) (fun b' u hb hu=>(aga s.heap (agv f) (aej hb)).trans hu) ⟨_,q⟩ ?_;exact⟨hz,its',_,hv,q⟩
theorem Inv.Ah{its:List Value}{t':Nat}(I:Inv X pins σ H s)(hv:Vals ys its)(hz:ys.length<=acv) :
  Inv X pins σ (upd H s.heap.objs.size (.lst ys)) { s with heap:=s.heap.push { cls:=.type "list",data:=.seq its.toArray },toks:=t' }:=
 I.laid (fun _ _ q=>aci _ q) (abZ _) ⟨hz,its,0,hv,acN _ rfl⟩
theorem Inv.fresh(I:Inv X pins σ H s):H s.heap.objs.size=none:=I.aG.fresh (abZ _)
theorem Inv.pR(I:Inv X pins σ H s)(hH:H l=some (.lst xs)):xs.length<=acv/\∃(its:List Value) (n:Nat),Vals xs its/\xs.length=its.length/\s.heap.get? l=some { cls:=.type "list",data:=.seq its.toArray n }:=by
 obtain⟨z,its,n,r,e⟩:=I.aG l _ hH;exact⟨z,its,n,r,r.length,e⟩
theorem D6{n:Nat}(h:n<=acv):aeb n=false:=by
 unfold aeb;exact decide_eq_false (by omega)
end
section
variable{X:Cx}
noncomputable def EI:V->List V->Hp->VK->Prop:=fun x vs H Q=>∃l xs y,x=.ref l/\vs=[y]/\H l=some (.lst xs)/\xs.length<acv/\Q .aI (upd H l (.lst (xs++[y])))
theorem iT:IR X "list.append" EI:=by
 intro pins s σ H x vs v us Q I rx rv h;obtain⟨l,xs,y,rfl,rfl,hH,hz,q⟩:=h;cases rx;obtain⟨u,rfl,ru⟩:=rv.one;obtain⟨z,its,n,r,hl,e⟩:=I.pR hH;refine afH F.slot_list_append ⟨_,e,rfl⟩ F.entry_list_append (F.args_list_append_2 _ _) (PySem.list_append l its.toArray n u (by rw[acs];omega)) ⟨e,?_⟩;refine⟨.aI,_,I.HF (its':=its++[u]) hH e (by simp) (r.append (.cons ru .nil)) ?_,rfl,q⟩;rw[acg,List.length_singleton];omega
noncomputable def EJ:V->List V->Hp->VK->Prop:=fun x vs H Q=>∃l b xs zs,x=.ref l/\vs=[.ref b]/\H l=some (.lst xs)/\H b=some (.lst zs)/\xs.length+zs.length<=acv/\Q .aI (upd H l (.lst (xs++zs)))
theorem yi:IR X "list.extend" EJ:=by
 intro pins s σ H x vs v us Q I rx rv h;obtain⟨l,b,xs,zs,rfl,rfl,hH,hB,hz,q⟩:=h;cases rx;obtain⟨u,rfl,ru⟩:=rv.one;cases ru;obtain⟨z,its,n,r,hl,e⟩:=I.pR hH;obtain⟨z2,jO,n2,r2,gz,e2⟩:=I.pR hB;have hsz:its.toArray.size+jO.toArray.size<=sizeLine:=by rw[acs,acs];omega
 have zK:¬(!its.toArray.isEmpty&&aeb (its.toArray.size+jO.toArray.size))=true:=by
  rw[D6 hsz,Bool.and_false];exact acF
 refine afH F.slot_list_extend ⟨_,e,rfl⟩ F.entry_list_extend (F.args_list_extend_2 _ _)
  (AutoSeq1.list_extend_list_list_0 l its.toArray n b jO.toArray n2 zK (by rw[acs];omega) (by omega)) ⟨e,e2,?_⟩
 refine⟨.aI,_,I.HF (its':=its++jO) hH e (by simp) (r.append r2) ?_,rfl,q⟩;rw[acg];omega
noncomputable def HG:R2:=fun x y H Q=>∃l b xs zs,x=.ref l/\y=.ref b/\H l=some (.lst xs)/\H b=some (.lst zs)/\xs.length+zs.length<=acv/\∀p,H p=none->Q (.ref p) (upd H p (.lst (xs++zs)))
theorem XU:bJ X (aeG .Add) HG:=by
 intro pins s σ H x y v u Q I rx ry h;obtain⟨l,b,xs,zs,rfl,rfl,hH,hB,hz,q⟩:=h;cases rx;cases ry;obtain⟨z,its,n,r,hl,e⟩:=I.pR hH;obtain⟨z2,jO,n2,r2,gz,e2⟩:=I.pR hB;refine PySem.P.add_list e e2 ?_ (by rw[acs,acs];omega);have ea:its.toArray++jO.toArray=(its++jO).toArray:=by simp
 rw[ea];exact⟨.ref _,_,I.Ah (t':=s.toks) (r.append r2) (by rw[acg];omega),rfl,q _ I.fresh⟩
noncomputable def HH:R2:=fun x y H Q=>∃l k xs,x=.ref l/\y=.int k/\H l=some (.lst xs)/\ -(2 ^ 63)<=k/\k<2 ^ 63/\xs.length*k.toNat<=acv /\
 ∀p,H p=none->Q (.ref p) (upd H p (.lst (acf k.toNat xs).flatten))
theorem len_rep{α:Type}(xs:List α)(k:Nat):(acf k xs).flatten.length=k*xs.length:=by
 induction k with
 | zero=>simp
 | succ k ih=>rw[adh,adN,acg,ih,aff,agh]
theorem XW:bJ X (aeG .Mult) HH:=by
 intro pins s σ H x y v u Q I rx ry h;obtain⟨l,k,xs,rfl,rfl,hH,h1,h2,hz,q⟩:=h;cases rx;obtain⟨t,rfl⟩:=ry;obtain⟨z,its,n,r,hl,e⟩:=I.pR hH;have cL:its.toArray.size*k.toNat<=sizeLine:=by rw[acs,<- hl];exact hz
 have aa0:¬its.toArray.size*k.toNat>(2 ^ 63-1) / 8:=by
  have:(acv:Nat)<=(2 ^ 63-1) / 8:=by decide
  omega
 have aa1:¬(!Builtin.List.listFitsIndex k)=true:=by
  rw[fitsIndex_both h1 h2];exact acF
 have zK:¬aeb (its.toArray.size*k.toNat)=true:=by
  rw[D6 cL];exact acF
 have gQ:List.foldl (fun x1 x2=>x1++x2) #[] (acf (if its.toArray.isEmpty=true then 0 else k.toNat) its.toArray)=(acf k.toNat its).flatten.toArray:=by
  have f0:∀m:Nat,List.foldl (fun x1 x2=>x1++x2) #[] (acf m its.toArray)=(acf m its).flatten.toArray:=fun m=>by
   have:=foldl_rep its m [];rw[aeR] at this;exact this
  rw[f0];cases its with
  | nil=>simp
  | cons a r'=>rw[if_neg (by simp)]
 refine wpAny_binaryOp_repeat_ref (T:="list") (U:="int") (by decide) ⟨_,e,rfl⟩ (fun s'=>typeIs_int s' k t) noFill_list_mul F.fills_int_mul F.slot_int_rmul repeat_list F.slot_int_index.lookup
  (afH F.slot_int_rmul (typeIs_int s k t) F.entry_int_rmul (F.args_int_rmul_2 _ _) (int___rmul___int_list k t l its.toArray n)
   ⟨e,rfl,⟨_,e,rfl⟩,afH F.slot_list_mul ⟨_,e,rfl⟩ F.entry_list_mul (F.args_list_mul_2 _ _) (AutoListH.list___mul___list_int_3 l its.toArray n k t aa1 aa0 zK) ⟨e,?_⟩⟩)
 rw[gQ];exact⟨.ref _,_,I.Ah (t':=s.toks) (r.rep k.toNat) (by rw[len_rep,Nat.mul_comm];exact hz),rfl,q _ I.fresh⟩
end
end L2
namespace IU
open PySem PySem.W PySem.Calls PyProof.Rows
theorem OW{P:Params}{h:Heap}:∀(ns:List Int) (vs:List Value),WellAll P h vs (ns.map WData.int)->agg vs ns:=by
 intro ns
 induction ns with
 | nil=>
  intro vs w;rw[afe] at w;cases w;exact .nil
 | cons n ns ih=>
  intro vs w;rw[acK] at w;cases w with
  | cons a b=>
   cases a;exact .cons _ _ (ih _ b)
theorem Tc{l:OpenLaw}{n:Nat}(hn:l.most=some n){P:Params}{h:Heap}{args:List WData}{vals:List Value}
  (wo:l.row.toRowW.claim.pre args=true) (jX:WellAll P h vals args) :
  ∃a vs ns,vals=[adO a]/\args=[WData.list (ns.map WData.int)]/\h.get? a=some { cls:=.type "list",data:=.seq vs.toArray }/\agg vs ns/\ns.length<=n:=by
 have hsh:WShape.hasAll [] args [.list .int]=true:=(pre_splitW wo).1;have hc:l.pre.holds [] { args:=args }=true:=(pre_splitW wo).2;obtain⟨d,r,rfl,h1,h2⟩:=hasAllW_cons hsh;obtain rfl:=hasAllW_nil h2;obtain⟨xs,rfl,h3⟩:=hasW_list h1;obtain⟨ns,rfl⟩:=items_int h3;have cL:ns.length<=n:=by
  unfold OpenLaw.pre at hc;have h4:(WTm.not (.lt (.lit (.int n)) (.len (.arg 0)))).holds [] { args:=[.list (ns.map .int)] }=true:=by
   have h4:=(holds_andW hc).1;rw[hn] at h4;exact h4
  have h5:=condW_of h4 (w_not (w_lt w_lit (w_len_list (w_arg rfl))));rw[abX] at h5;refine Nat.le_of_not_lt fun q=>?_
  have q':(n:Int)<((ns.length:Nat):Int):=by omega
  first
   | (rw[decide_eq_true q'] at h5;exact absurd h5 (by decide))
   | (simp at h5;omega)
 cases jX with
 | cons w1 w2=>
  cases w2;cases w1 with
  | list ho jf=>exact⟨_,_,ns,rfl,rfl,ho,OW ns _ jf,cL⟩
theorem Td(l:OpenLaw)(args:List WData):l.row.toRowW.claim.post args (.bool true) args=true:=
 postW_of (r:=l.row.toRowW) (X:=(true==true))
  (show WShape.has [] (.bool true) .bool=true by first | rfl | decide | simp[WShape.has,WShape.arms,WShape.armsAll])
  (show(WTm.eq .res (.lit (.bool true))).value [] { args:=args,res:=some (.bool true),after:=args }=some (.bool (true==true)) from w_eq_bool (w_res rfl) w_lit) rfl
theorem Rx{l:OpenLaw}{n:Nat}{q:adl}{loose:List Str}{XP:(Str->Option Value)->Heap->Prop}{YP:World->Heap->Prop}{d:DefRec}
  (hn:l.most=some n) (sy:d.params.defaults=[])
  (call:∀(w:World) (aK bM:acb) (mg mb:Str->Option Value) (fa:Addr) (o:Obj) (pm cd doc:Value) (a:Addr) (vs:List Value) (ns:List Int),
   Ground q loose [] XP w aK mg mb bM.heap->YP w bM.heap →
   bM.heap.get? fa=some o->o.data=.func (docDef d.name d.params d.body d.scope pm cd doc)->bM.heap.CodeRec cd d.name->mg d.name=some (.ref fa) →
   bM.heap.get? a=some { cls:=.type "list",data:=.seq vs.toArray }->agg vs ns->ns.length<=n->bM.gens= #[] →
   codeAny (model l.prog w) callerA (.call (.ref fa) ⟨[.ref a],[]⟩) (fun r s'=>r=.ok (.ret (.bool true))/\OldK bM.heap s'.heap/\s'.os=bM.os/\afN s'.gens) bM) :
  WalkO q loose XP YP l.row.toRowW d [] (fun f vs=>PySem.call f vs):=by
 intro w aK bM mg mb G Y fa o pm cd doc dV kV ho hd hcd hD hmg hg args vals as wo abP AR jX jY;obtain rfl:dV=.none:=Dflts.none hD sy;obtain rfl:kV=.none:=Dflts.noKw hD;obtain⟨a,vs,ns,rfl,rfl,Ai,zL,cL⟩:=Tc hn wo jX;refine enter_call (afg (call w aK bM mg mb fa o pm cd doc a vs ns G Y ho (fd_plain hd) hcd hmg Ai zL cL hg) fun r s' hq=>?_);obtain⟨rfl,h2,h3,h4⟩:=hq;exact⟨.inl ⟨.bool true,.bool true,[],rfl,fun _=>rfl,.bool true,Td l _,fun _=>⟨List.Pairwise.nil,fun _ hm=>(nomatch hm)⟩⟩,h2,h3,h4⟩
end IU
namespace L2
open PySem PySem.Spec PyProof.Rows
theorem DF:∀{vs:List Value} {ns:List Int},agg vs ns->Vals (ns.map V.int) vs
 | _,_,.nil=>.nil
 | _,_,.cons n t h=>.cons ⟨t,rfl⟩ (DF h)
noncomputable def cz(s:Stmt):Arguments:=match s with
 | .FunctionDef _ a _ _ _ _ _ _ _ _=>a
 | _=>{ posonlyargs:=[],args:=[],vararg:=none,kwonlyargs:=[],kw_defaults:=[],kwarg:=none,defaults:=[] }
noncomputable def aY(s:Stmt):List Stmt:=match s with
 | .FunctionDef _ _ b _ _ _ _ _ _ _=>b
 | _=>[]
noncomputable def af(s:Stmt):Scope:=match s with
 | .FunctionDef _ _ _ _ _ _ sc _ _ _=>sc
 | _=>{ kind:=.function,names:=[],isGenerator:=false,isCoroutine:=false }
structure cm(K:abW)(x qual:Str)(st:Stmt)(f:Addr)(fd:acP):Prop where
 ex:∃(oc:Value) (od:Option Addr) (kV doc pm:Value) (an:Option Addr) (bG ct:Value) (fX:Array (Option Value)),
  fd=acw x qual (cz st) (aY st) (af st) .none kV doc pm an bG ct/\K.lookup f=some ⟨oc,od,.func fd,fX⟩/\acr K bG qual=true
 kp:acn K (.ref f)=true
section
variable{P:adl}{w:World}{K:abW}{mg:Str->Option Value}{base:Heap}
theorem cm.binds{x qual:Str}{st:Stmt}{f:Addr}{fd:acP}{ps:List Str}(F:cm K x qual st f fd)
  (h:∀(kV doc pm:Value) (an:Option Addr) (bG ct:Value) (us:List Value),us.length=ps.length->bindArgs (acw x qual (cz st) (aY st) (af st) .none kV doc pm an bG ct) ⟨us,[]⟩=pure (ps.zip us)):Binds K fd ps []:=by
 obtain⟨oc,od,kV,doc,pm,an,bG,ct,fX,rfl,lk,hcd⟩:=F.ex;exact .all (h kV doc pm an bG ct)
theorem c8{x qual:Str}{st:Stmt}{f:Addr}{oc:Value}{od an:Option Addr}{fX:Array (Option Value)}{kV doc pm bG ct:Value}(l:K.lookup f=some ⟨oc,od,.func (acw x qual (cz st) (aY st) (af st) .none kV doc pm an bG ct),fX⟩)
  (c:acr K bG qual=true) (k:acn K (.ref f)=true):cm K x qual st f (acw x qual (cz st) (aY st) (af st) .none kV doc pm an bG ct):=⟨⟨oc,od,kV,doc,pm,an,bG,ct,fX,rfl,l,c⟩,k⟩
end
theorem fT{A:aeg}{k:Nat}(hr:cS k A):A.units+1<cLine:=adU (Nat.add_le_add_left (by decide:1<=64) _) hr.units
theorem lA{A B:Prop}(h:B):if false=true then A else B:=by
 rw[if_neg acF];exact h
theorem lB{A B:Prop}(h:A):if true=true then A else B:=by
 rw[if_pos rfl];exact h
section
variable{κ:Type}[DecidableEq κ]
noncomputable def iu(kvs:List (κ×V))(k:κ):Option V:=(kvs.find? fun kv=>decide (kv.1=k)).map (·.2)
noncomputable def putK(kvs:List (κ×V))(k:κ)(v:V):List (κ×V):=
 if(kvs.any fun kv=>decide (kv.1=k))=true then kvs.map (fun kv=>if kv.1=k then(kv.1,v) else kv) else kvs++[(k,v)]
theorem qU{p:κ×V}{r:List (κ×V)}{k:κ}(e:p.1=k):iu (p::r) k=some p.2:=by simp[iu,adv,e]
theorem qV{p:κ×V}{r:List (κ×V)}{k:κ}(e:¬p.1=k):iu (p::r) k=iu r k:=by simp[iu,adv,e]
theorem D7(k:κ):∀kvs:List (κ×V),(kvs.any fun kv=>decide (kv.1=k))=(iu kvs k).isSome
 | []=>rfl
 | p::r=>by
  rw[adC];by_cases e:p.1=k
  ·simp only[qU e,decide_eq_true e,Bool.true_or,Option.isSome_some]
  ·rw[qV e,decide_eq_false e,Bool.false_or];exact D7 k r
theorem uN(kvs:List (κ×V))(k:κ)(v:V):(putK kvs k v).length<=kvs.length+1:=by
 unfold putK;split
 ·rw[abX];omega
 ·rw[acg,adj,aen];omega
theorem iq.qO{o:Option V}{u:Option Value}(r:iq o u):o.isSome=u.isSome:=by
 cases o with
 | none=>cases u with
  | none=>rfl
  | some _=>exact(show False from r).elim
 | some _=>cases u with
  | none=>exact(show False from r).elim
  | some _=>rfl
theorem iq.getD{o:Option V}{u:Option Value}{d:V}{d':Value}(r:iq o u)(rd:RelV d d'):RelV (o.getD d) (u.getD d'):=by
 cases o with
 | none=>cases u with
  | none=>exact rd
  | some _=>exact(show False from r).elim
 | some _=>cases u with
  | none=>exact(show False from r).elim
  | some _=>exact r
theorem KV.val{kvs:List (κ×V)}{vs:List (κ×Value)}(r:KV kvs vs)(k:κ):iq (iu kvs k) (agQ vs k):=by
 unfold KV at r
 induction r with
 | nil=>exact afI
 | @cons p q ps qs h t ih=>
  obtain⟨h1,h2⟩:=h;by_cases e:p.1=k
  ·have e':q.1=k:=h1.symm.trans e;have b:agQ (q::qs) k=some q.2:=by simp[agQ,adv,e']
   rw[qU e,b];exact h2
  ·have e':¬q.1=k:=fun z=>e (h1.trans z)
   have b:agQ (q::qs) k=agQ qs k:=by simp[agQ,adv,e']
   rw[qV e,b];exact ih
theorem KV.any{kvs:List (κ×V)}{vs:List (κ×Value)}(r:KV kvs vs)(k:κ):(kvs.any fun kv=>decide (kv.1=k))=vs.any fun kv=>decide (kv.1=k):=by
 unfold KV at r
 induction r with
 | nil=>rfl
 | cons h t ih=>rw[adC,adC,ih,h.1]
theorem KV.jg{kvs:List (κ×V)}{vs:List (κ×Value)}(r:KV kvs vs)(k:κ){y:V}{u:Value}(ry:RelV y u) :
  KV (kvs.map fun kv=>if kv.1=k then(kv.1,y) else kv) (vs.map fun kv=>if kv.1=k then(kv.1,u) else kv):=by
 unfold KV at r ⊢
 induction r with
 | nil=>exact .nil
 | @cons p q ps qs h t ih=>
  rw[acK,acK];refine .cons ?_ ih;obtain⟨h1,h2⟩:=h;by_cases e:p.1=k
  ·rw[if_pos e,if_pos (h1.symm.trans e)];exact⟨h1,ry⟩
  ·rw[if_neg e,if_neg (fun z=>e (h1.trans z))];exact⟨h1,h2⟩
theorem KV.put{kvs:List (κ×V)}{vs:List (κ×Value)}(r:KV kvs vs)(k:κ){y:V}{u:Value}(ry:RelV y u):KV (putK kvs k y) (stored vs k u):=by
 unfold putK stored;rw[r.any k];by_cases e:(vs.any fun kv=>decide (kv.1=k))=true
 ·rw[if_pos e,if_pos e];exact r.jg k ry
 ·rw[if_neg e,if_neg e];exact Paired.snoc r ⟨rfl,ry⟩
theorem KV.keys{kvs:List (κ×V)}{vs:List (κ×Value)}(r:KV kvs vs):kvs.map (·.1)=vs.map (·.1):=by
 unfold KV at r
 induction r with
 | nil=>rfl
 | cons h t ih=>rw[acK,acK,ih,h.1]
theorem KV.length{kvs:List (κ×V)}{vs:List (κ×Value)}(r:KV kvs vs):kvs.length=vs.length:=afM r
end
variable{u:Value}
theorem lm{P:adl}{w:World}{k:Key}(r:RelV (kV k) u):(dr P w).is k u=true:=by
 cases k with
 | inl i=>obtain⟨t,e⟩:=(show ∃t,u=Value.int i t from r);subst e;exact Ru P w i t
 | inr x=>obtain⟨t,e⟩:=(show ∃t,u=Value.str x t from r);subst e;exact Rv P w x t
theorem DG{P:adl}{w:World}:∀{ks:List Key} {us:List Value},Vals (ks.map kV) us->ItemsAre (dr P w) ks us
 | [],_,r=>by rw[afe] at r;cases r;exact .nil
 | k::ks,_,r=>by
  rw[acK] at r;cases r with
  | cons h t=>exact .cons (lm h) (DG t)
abbrev KT(H:Hp):List (List Key×V)->List (List Key×Addr×Value)->Prop:=afa fun p q=>p.1=q.1/\H q.2.1=some (.tup (p.1.map kV))/\RelV p.2 q.2.2
variable{H:Hp}{kvs:List (List Key×V)}{xs:List (List Key×Addr×Value)}
theorem KT.val(r:KT H kvs xs)(k:List Key):iq (iu kvs k) ((atKey xs k).map (·.2)):=by
 induction r with
 | nil=>exact afI
 | @cons p q ps qs h t ih=>
  obtain⟨h1,_,h2⟩:=h;by_cases e:p.1=k
  ·have e':q.1=k:=h1.symm.trans e;have b:atKey (q::qs) k=some q.2:=by simp[atKey,adv,e']
   rw[qU e,b];exact h2
  ·have e':¬q.1=k:=fun z=>e (h1.trans z)
   have b:atKey (q::qs) k=atKey qs k:=by simp[atKey,adv,e']
   rw[qV e,b];exact ih
variable{y:V}
theorem KT.jg(r:KT H kvs xs)(k:List Key)(ry:RelV y u) :
  KT H (kvs.map fun kv=>if kv.1=k then(kv.1,y) else kv) (xs.map (putAt k u)):=by
 induction r with
 | nil=>exact .nil
 | @cons p q ps qs h t ih=>
  rw[acK,acK];refine .cons ?_ ih;obtain⟨h1,h2,h3⟩:=h;unfold putAt;by_cases e:p.1=k
  ·rw[if_pos e,if_pos (h1.symm.trans e)];exact⟨h1,h2,ry⟩
  ·rw[if_neg e,if_neg (fun z=>e (h1.trans z))];exact⟨h1,h2,h3⟩
theorem KT.put(r:KT H kvs xs)(k:List Key){b:Addr}(hb:H b=some (.tup (k.map kV)))(ry:RelV y u) :
  KT H (putK kvs k y) (storedH xs k b u):=by
 have e:(kvs.any fun kv=>decide (kv.1=k))=(atKey xs k).isSome:=by
  rw[D7,(r.val k).qO,aec]
 unfold putK storedH;rw[e];by_cases q:(atKey xs k).isSome=true
 ·rw[if_pos q,if_pos q];exact r.jg k ry
 ·rw[if_neg q,if_neg q];exact Paired.snoc r ⟨rfl,hb,ry⟩
theorem KT.keeps{H':Hp}(r:KT H kvs xs)(ht:∀b ys,H b=some (.tup ys)->H' b=some (.tup ys)):KT H' kvs xs:=
 afa.lw r fun _ _ z=>⟨z.1,ht _ _ z.2.1,z.2.2⟩
section
variable{P:adl}{w:World}{H:Hp}{h:Heap}{a:Addr}
theorem GI{u:HO}(ok:cj P w H h)(e:Rd H a u):dG P w H h a u:=e.ok ok
theorem nD{kvs:List (Key×V)}(ok:cj P w H h)(e:Rd H a (.dK kvs)):kvs.length<=acv/\(a==adZ)=false/\∃vs,KV kvs vs/\h.DictOf (dr P w) a vs:=
 show dG P w H h a (.dK kvs) from GI ok e
theorem rH{kvs:List (Key×V)}(ok:cj P w H h)(e:H a=some (.dK kvs)):kvs.length<=acv/\(a==adZ)=false/\∃vs,KV kvs vs/\h.DictOf (dr P w) a vs:=nD ok (.inl e)
theorem lc{ks:List Key}(ok:cj P w H h)(e:H a=some (.tup (ks.map kV))):(afD (dr P w)).is h ks a:=by
 obtain⟨_,its,r,o,h1,h2,n,h3⟩:=(show dG P w H h a (.tup (ks.map kV)) from ok a _ e)
 exact⟨o,its.toArray,n,h1,h2,h3,by simpa using DG r⟩
theorem nE{kvs:List (List Key×V)}(ok:cj P w H h)(e:Rd H a (.dT kvs)):kvs.length<=acv/\(a==adZ)=false /\
  ∃xs,KT H kvs xs/\h.DictOfH (afD (dr P w)) a xs:=by
 obtain⟨z,y,xs,r,o,es,ep,h1,h2,h3,h4,h5⟩:=(show dG P w H h a (.dT kvs) from GI ok e)
 refine⟨z,y,xs,r,o,es,ep,h1,h2,h3,h4,fun x hx=>?_,h5⟩;have all:∀{l:List (List Key×V)} {m:List (List Key×Addr×Value)},KT H l m->∀x∈m,(afD (dr P w)).is h x.1 x.2.1:=by
  intro l m q
  induction q with
  | nil=>intro x hx;exact nomatch hx
  | @cons p q ps qs hq t ih=>
   intro x hx
   rcases acD.mp hx with e | hx
   ·subst e;exact lc ok (by rw[<- hq.1];exact hq.2.1)
   ·exact ih x hx
 exact all r x hx
theorem zM{kvs:List (List Key×V)}(ok:cj P w H h)(e:H a=some (.dT kvs)):kvs.length<=acv/\(a==adZ)=false /\
  ∃xs,KT H kvs xs/\h.DictOfH (afD (dr P w)) a xs:=nE ok (.inl e)
end
noncomputable def ft(H:Hp)(a:Addr)(y:V)(r:Option V):Prop:=
 (∃kvs k,Rd H a (.dK kvs)/\y=kV k/\r=iu kvs k)\/∃kvs k b,Rd H a (.dT kvs)/\y=.ref b/\H b=some (.tup (k.map kV))/\r=iu kvs k
noncomputable def nK(H:Hp)(a:Addr)(y v:V)(H':Hp):Prop:=
 (∃kvs k,H a=some (.dK kvs)/\y=kV k/\kvs.length<acv/\H'=upd H a (.dK (putK kvs k v))) \/
 ∃kvs k b,H a=some (.dT kvs)/\y=.ref b/\H b=some (.tup (k.map kV))/\kvs.length<acv/\H'=upd H a (.dT (putK kvs k v))
section
variable{X:Cx}{pins:List (Addr×Obj)}{σ:St}{H:Hp}{s:acb}{a:Addr}{y v:V}{u r:Value}{o:Option V}{A:aeg}{E:Value->acb->Prop}
theorem Inv.big(I:Inv X pins σ H s):adZ<s.heap.objs.size:=by
 have h:ach<s.heap.objs.size:=(I.mod.glob.keeps I.bk).lt;exact Nat.lt_trans (by decide) h
variable{Q:Value->acb->Prop}
theorem Te(hu:A.units+1<cLine)(I:Inv X pins σ H s)(g:ft H a y (some v))(ry:RelV y u)(h:∀w' s',Inv X pins σ H s'->RelV v w'->Q w' s') :
  wpAny (model X.prog X.w) A (getItem (.ref a) u) Q E s:=by
 rcases g with⟨kvs,k,e,ey,l⟩ | ⟨kvs,k,b,e,ey,eb,l⟩
 ·subst ey;obtain⟨z,hd,vs,rel,dd⟩:=nD I.aG e;obtain⟨w',hw,fZ⟩:=iq.some_of (v:=v) (o:=agQ vs k) (by rw[l];exact rel.val k);exact wpAny_getItem_of (lm ry) dd.mapOf hw (h w' _ (I.tok _) fZ)
 ·subst ey;cases(show u=adO b from ry);obtain⟨z,hd,xs,rel,dd⟩:=nE I.aG e;obtain⟨w',hw,fZ⟩:=iq.some_of (v:=v) (o:=(atKey xs k).map (·.2)) (by rw[l];exact rel.val k);obtain⟨p,hp,kE⟩:=ace.mp hw;refine wpAny_getItem_heap (adV hu) (lc I.aG eb) dd hp ?_;rw[kE];exact h w' _ (I.tok _) fZ
theorem Aj(hu:A.units+1<cLine)(I:Inv X pins σ H s)(g:ft H a y o)(ry:RelV y u)(h:∀s',Inv X pins σ H s'->Q (.bool o.isSome) s') :
  wpAny (model X.prog X.w) A (ado .In u (.ref a)) Q E s:=by
 rcases g with⟨kvs,k,e,ey,l⟩ | ⟨kvs,k,b,e,ey,eb,l⟩
 ·subst ey;obtain⟨z,hd,vs,rel,dd⟩:=nD I.aG e;refine wpAny_in_of (lm ry) hd dd.mapOf ?_;rw[<- (rel.val k).qO,<- l];exact h _ (I.tok _)
 ·subst ey;cases(show u=adO b from ry);obtain⟨z,hd,xs,rel,dd⟩:=nE I.aG e;refine wpAny_in_heap (adV hu) (lc I.aG eb) hd dd ?_;have q:=(rel.val k).qO;rw[aec] at q;rw[<- q,<- l];exact h _ (I.tok _)
theorem yW(hu:A.units+1<cLine)(I:Inv X pins σ H s)(g:ft H a y o)(ry:RelV y u)(h:∀s',Inv X pins σ H s'->Q (.bool (!o.isSome)) s') :
  wpAny (model X.prog X.w) A (ado .NotIn u (.ref a)) Q E s:=by
 rcases g with⟨kvs,k,e,ey,l⟩ | ⟨kvs,k,b,e,ey,eb,l⟩
 ·subst ey;obtain⟨z,hd,vs,rel,dd⟩:=nD I.aG e;refine wpAny_notIn_of (lm ry) hd dd.mapOf ?_;rw[<- (rel.val k).qO,<- l];exact h _ (I.tok _)
 ·subst ey;cases(show u=adO b from ry);obtain⟨z,hd,xs,rel,dd⟩:=nE I.aG e;refine wpAny_notIn_heap (adV hu) (lc I.aG eb) hd dd ?_;have q:=(rel.val k).qO;rw[aec] at q;rw[<- q,<- l];exact h _ (I.tok _)
theorem vH{h':Heap}{t':Nat}{ob:HO}(I:Inv X pins σ H s)(mu:ky (H a))(hs:afb a s.heap h')(he:∃q,h'.get? a=some q)(new:dG X.prog X.w (upd H a ob) h' a ob) :
  Inv X pins σ (upd H a ob) { s with heap:=h',toks:=t' }:=
 I.write (x:=a) (e:=a) mu (.inl rfl) (fun b q hb z=>(hs.2 b hb).trans z) he new
theorem FI{P:adl}{w:World}{H':Hp}{h':Heap}{kvs:List (Key×V)}{vs:List (Key×Value)}(z:kvs.length<=acv)(hd:(a==adZ)=false)(rel:KV kvs vs)(dd:h'.DictOf (dr P w) a vs) :
  dG P w H' h' a (.dK kvs):=⟨z,hd,vs,rel,dd⟩
theorem yj{H':Hp}{Q:Unit->acb->Prop}(hu:A.units+1<cLine)(I:Inv X pins σ H s)(g:nK H a y v H')(ry:RelV y u)(rv:RelV v r)(h:∀s',Inv X pins σ H' s'->Q () s') :
  wpAny (model X.prog X.w) A (setItem (.ref a) u r) Q E s:=by
 rcases g with⟨kvs,k,e,ey,l,eH⟩ | ⟨kvs,k,b,e,ey,eb,l,eH⟩
 ·subst ey eH;obtain⟨z,hd,vs,rel,dd⟩:=rH I.aG e;have hz:vs.length<=sizeLine:=by rw[<- rel.length];exact z
  have hl:(putK kvs k v).length<=sizeLine:=by have:=uN kvs k v;omega
  refine wpAny_setItem_pairs (hsz:=hz) (lm ry) dd fun h' kF hs=>h _ ?_
  have he:∃q,h'.get? a=some q:=let ⟨q,_,_,hq,_⟩:=kF;⟨q,hq⟩
  exact vH I (by rw[e];exact afI) hs he (FI hl hd (rel.put k rv) kF)
 ·subst ey eH;cases(show u=adO b from ry);obtain⟨z,hd,xs,rel,dd⟩:=zM I.aG e;have hz:xs.length<=sizeLine:=by rw[<- afM rel];exact z
  have hl:(putK kvs k v).length<=sizeLine:=by have:=uN kvs k v;omega
  refine wpAny_setItem_heap (hsz:=hz) (adV hu) (lc I.aG eb) dd fun h' kF hs=>h _ ?_
  obtain⟨q,es,ep,hq,h2,h3,h4,_,h5⟩:=kF;refine vH I (by rw[e];exact afI) hs ⟨q,hq⟩ ⟨hl,hd,_,(rel.put k eb rv).keeps fun c ys ec=>?_,q,es,ep,hq,h2,h3,h4,h5⟩;rw[aT (ij ec e (fun z=>nomatch z))];exact ec
end
theorem Ry{X:Cx}{pins:List (Addr×Obj)}{σ:St}{s:acb}{a:Addr}{o:Option V}(I:Inv X pins σ H s)(g:ft H a y o):s.TypeIs (.ref a) "dict":=by
 rcases g with⟨kvs,k,e,_,_⟩ | ⟨kvs,k,b,e,_,_,_⟩
 ·obtain⟨_,_,vs,_,dd⟩:=nD I.aG e;exact dd.typeIs
 ·obtain⟨_,_,xs,_,dd⟩:=nE I.aG e;exact dd.typeIs
theorem UB{P:adl}{w:World}(h:Heap)(hb:adZ<h.objs.size):dG P w H (h.push { cls:=.type "dict",data:=.dict #[] }) h.objs.size (.dK []):=
 ⟨adI _,beq_eq_false_iff_ne.mpr (aej (acL hb)),[],.nil,ahb h⟩
noncomputable def XX:TE:=fun _ H Q=>∀p,H p=none->Q (.ref p) (upd H p (.dK []))
section
variable{X:Cx}{pos:Pos}
theorem UC:PE X (.Dict [] [] pos) XX:=fun pins s σ H Q I h=>
 wpAny_Dict_empty ⟨.ref s.heap.objs.size,_,I.laid (a:=s.heap.objs.size) (o:=.dK []) (t':=s.toks) (fun _ _ q=>aci _ q) (abZ _) (UB s.heap I.big),rfl,h _ (I.aG.fresh (abZ _))⟩
end
section
variable{X:Cx}{pins:List (Addr×Obj)}{σ:St}{H:Hp}{s:acb}{a:Addr}{y d:V}{u r:Value}{o:Option V}{A:aeg}{E:Value->acb->Prop}
theorem zf{Q:Value->acb->Prop}(hu:A.units+1<cLine)(I:Inv X pins σ H s)(g:ft H a y o)(ry:RelV y u)(h:∀w' s',Inv X pins σ H s'->RelV (o.getD .aI) w'->Q w' s') :
  wpAny (model X.prog X.w) A (call (.builtin "dict.get") [.ref a,u]) Q E s:=by
 rcases g with⟨kvs,k,e,ey,l⟩ | ⟨kvs,k,b,e,ey,eb,l⟩
 ·subst ey;obtain⟨z,hd,vs,rel,dd⟩:=nD I.aG e;refine agi acB dd.typeIs aef (afQ _ _) (meets_dict_get (dr X.prog X.w) a (lm ry) hd) ⟨_,dd.mapOf,h _ _ (I.tok _) ?_⟩;rw[l];exact(rel.val k).getD rfl
 ·subst ey;cases(show u=adO b from ry);obtain⟨z,hd,xs,rel,dd⟩:=nE I.aG e;refine agi acB dd.typeIs aef (afQ _ _) (meetsH_dict_get (afD (dr X.prog X.w)) a b hd) ⟨adV hu,k,xs,lc I.aG eb,dd,h _ _ (I.tok _) ?_⟩;rw[l];exact(rel.val k).getD rfl
theorem zg{Q:Value->acb->Prop}(hu:A.units+1<cLine)(I:Inv X pins σ H s)(g:ft H a y o)(ry:RelV y u)(rd:RelV d r)(h:∀w' s',Inv X pins σ H s'->RelV (o.getD d) w'->Q w' s') :
  wpAny (model X.prog X.w) A (call (.builtin "dict.get") [.ref a,u,r]) Q E s:=by
 rcases g with⟨kvs,k,e,ey,l⟩ | ⟨kvs,k,b,e,ey,eb,l⟩
 ·subst ey;obtain⟨z,hd,vs,rel,dd⟩:=nD I.aG e;refine agi acB dd.typeIs aef (afR _ _ _) (meets_dict_get_default (dr X.prog X.w) a (lm ry) hd r) ⟨_,dd.mapOf,h _ _ (I.tok _) ?_⟩;rw[l];exact(rel.val k).getD rd
 ·subst ey;cases(show u=adO b from ry);obtain⟨z,hd,xs,rel,dd⟩:=nE I.aG e;refine agi acB dd.typeIs aef (afR _ _ _) (meetsH_dict_get_default (afD (dr X.prog X.w)) a b hd r) ⟨adV hu,k,xs,lc I.aG eb,dd,h _ _ (I.tok _) ?_⟩;rw[l];exact(rel.val k).getD rd
end
end L2
namespace IL
open PySem PySem.Spec PyProof.Rows L2
inductive W where
 | aI | bl (b:Bool) | int (i:Int) | str (x:Str) | tup (ws:List W) | fl (ws:List W) | ref (i:Nat) | exc (c:Str) (ns:List Str) (ws:List W) | fn (x:Str) (ws:List W)
mutual
noncomputable def W.dec:(a b:W)->Decidable (a=b)
 | .aI,.aI=>acO rfl
 | .bl a,.bl b=>if h:a=b then acO (by rw[h]) else ack (fun e=>h (W.bl.inj e))
 | .int a,.int b=>if h:a=b then acO (by rw[h]) else ack (fun e=>h (W.int.inj e))
 | .str a,.str b=>if h:a=b then acO (by rw[h]) else ack (fun e=>h (W.str.inj e))
 | .tup a,.tup b=>match W.rY a b with
  | acO h=>acO (by rw[h])
  | ack h=>ack (fun e=>h (W.tup.inj e))
 | .fl a,.fl b=>match W.rY a b with
  | acO h=>acO (by rw[h])
  | ack h=>ack (fun e=>h (W.fl.inj e))
 | .ref a,.ref b=>if h:a=b then acO (by rw[h]) else ack (fun e=>h (W.ref.inj e))
 | .exc c ns a,.exc c' gU b=>match W.rY a b with
  | acO h=>if h1:c=c' then if h2:ns=gU then acO (by rw[h,h1,h2]) else ack (fun e=>h2 (W.exc.inj e).2.1) else ack (fun e=>h1 (W.exc.inj e).1)
  | ack h=>ack (fun e=>h (W.exc.inj e).2.2)
 | .fn c a,.fn c' b=>match W.rY a b with
  | acO h=>if h1:c=c' then acO (by rw[h,h1]) else ack (fun e=>h1 (W.fn.inj e).1)
  | ack h=>ack (fun e=>h (W.fn.inj e).2)
 | .aI,.bl _ | .aI,.int _ | .aI,.str _ | .aI,.tup _ | .aI,.fl _ | .aI,.ref _ | .aI,.exc _ _ _=>ack (fun e=>nomatch e)
 | .bl _,.aI | .bl _,.int _ | .bl _,.str _ | .bl _,.tup _ | .bl _,.fl _ | .bl _,.ref _ | .bl _,.exc _ _ _=>ack (fun e=>nomatch e)
 | .int _,.aI | .int _,.bl _ | .int _,.str _ | .int _,.tup _ | .int _,.fl _ | .int _,.ref _ | .int _,.exc _ _ _=>ack (fun e=>nomatch e)
 | .str _,.aI | .str _,.bl _ | .str _,.int _ | .str _,.tup _ | .str _,.fl _ | .str _,.ref _ | .str _,.exc _ _ _=>ack (fun e=>nomatch e)
 | .tup _,.aI | .tup _,.bl _ | .tup _,.int _ | .tup _,.str _ | .tup _,.fl _ | .tup _,.ref _ | .tup _,.exc _ _ _=>ack (fun e=>nomatch e)
 | .fl _,.aI | .fl _,.bl _ | .fl _,.int _ | .fl _,.str _ | .fl _,.tup _ | .fl _,.ref _ | .fl _,.exc _ _ _=>ack (fun e=>nomatch e)
 | .ref _,.aI | .ref _,.bl _ | .ref _,.int _ | .ref _,.str _ | .ref _,.tup _ | .ref _,.fl _ | .ref _,.exc _ _ _=>ack (fun e=>nomatch e)
 | .exc _ _ _,.aI | .exc _ _ _,.bl _ | .exc _ _ _,.int _ | .exc _ _ _,.str _ | .exc _ _ _,.tup _ | .exc _ _ _,.fl _ | .exc _ _ _,.ref _=>ack (fun e=>nomatch e)
 | .aI,.fn _ _ | .bl _,.fn _ _ | .int _,.fn _ _ | .str _,.fn _ _ | .tup _,.fn _ _ | .fl _,.fn _ _ | .ref _,.fn _ _ | .exc _ _ _,.fn _ _=>ack (fun e=>nomatch e)
 | .fn _ _,.aI | .fn _ _,.bl _ | .fn _ _,.int _ | .fn _ _,.str _ | .fn _ _,.tup _ | .fn _ _,.fl _ | .fn _ _,.ref _ | .fn _ _,.exc _ _ _=>ack (fun e=>nomatch e)
noncomputable def W.rY:(a b:List W)->Decidable (a=b)
 | [],[]=>acO rfl
 | a::as,b::bs=>match W.dec a b,W.rY as bs with
  | acO h,acO h'=>acO (by rw[h,h'])
  | ack h,_=>ack (fun e=>h (agJ e).1)
  | _,ack h=>ack (fun e=>h (agJ e).2)
 | [],_::_ | _::_,[]=>ack (fun e=>nomatch e)
end
instance:DecidableEq W:=W.dec
inductive PO where
 | lst (ws:List W)
 | aD (kvs:List (W×W))
 | obj (c:Str) (fs:List (Str×W))
 | kG (kvs:List (W×W))
 | qq (kvs:List (W×W))
 deriving DecidableEq
noncomputable def PO.fz:PO->Bool
 | .kG _=>true
 | _=>false
abbrev PH:=List PO
abbrev Po(α:Type):=PH->Option (α×PH)
variable{α:Type}
noncomputable def ret(a:α):Po α:=fun ph=>some (a,ph)
noncomputable def fG:Po α:=fun _=>none
structure XC where
 cls:Str
 fs:List (Str×W)
inductive Out(α:Type) where
 | ok (a:α) (ph:PH)
 | ex (x:XC) (ph:PH)
 | no
noncomputable def Out.Run(r:Out α)(N:α->PH->Prop)(E:XC->PH->Prop):Prop:=match r with
 | .ok a ph=>N a ph
 | .ex x ph=>E x ph
 | .no=>False
variable{E:XC->PH->Prop}
theorem Out.Run.mono{r:Out α}{N N':α->PH->Prop}{E':XC->PH->Prop}(h:r.Run N E)(hn:∀a ph,N a ph->N' a ph)(he:∀x ph,E x ph->E' x ph):r.Run N' E':=by
 cases r with
 | ok a ph=>exact hn a ph h
 | ex x ph=>exact he x ph h
 | no=>exact h
abbrev Mo(α:Type):=PH->Out α
noncomputable def ax(a:α):Mo α:=fun ph=>.ok a ph
noncomputable def dC:Mo α:=fun _=>.no
noncomputable def lift(o:Po α):Mo α:=fun ph=>match o ph with
 | some p=>.ok p.1 p.2
 | none=>.no
noncomputable def au{β:Type}(m:Mo α)(f:α->Mo β):Mo β:=fun ph=>match m ph with
 | .ok a ph'=>f a ph'
 | .ex x ph'=>.ex x ph'
 | .no=>.no
variable{ph:PH}
theorem cW{β:Type}{m:Mo α}{f:α->Mo β}{N:β->PH->Prop}:(au m f ph).Run N E=(m ph).Run (fun a ph1=>(f a ph1).Run N E) E:=by
 unfold au;cases m ph <;> rfl
theorem run_lift{o:Po α}{N:α->PH->Prop}(h:(lift o ph).Run N E):∃a ph',o ph=some (a,ph')/\N a ph':=by
 unfold lift at h;cases e:o ph with
 | none=>rw[e] at h;exact h.elim
 | some p=>rw[e] at h;exact⟨p.1,p.2,rfl,h⟩
abbrev aQ:=List (Option W)
abbrev EM:=aQ->Mo W
abbrev TM:=aQ->Mo Bool
abbrev AM:=aQ->Mo (List W)
inductive Fl where
 | nx (σ:aQ) | rt (w:W) | bk (σ:aQ) | ct (σ:aQ)
abbrev SM:=aQ->Mo Fl
noncomputable def KL(K:abW)(a:Addr)(xs:List V):Prop:=
 ∃(o:Obj) (its:Array Value) (n:Nat),K.lookup a=some o/\o.cls=.type "list"/\o.dict=none/\o.data=.seq its n/\its.size<=acv/\Vals xs its.toList
noncomputable def wt(K:abW)(H:Hp)(a:Addr)(xs:List V):Prop:=(∃o,H a=some (.aV o (.lst xs)))\/KL K a xs
variable{K:abW}{H:Hp}{a:Addr}
theorem wt.sq{xs:List V}(h:wt K H a xs):bP K H a xs:=by
 rcases h with⟨o,h⟩ | h
 ·exact .inl (.inr ⟨o,h⟩)
 ·exact .inr h
noncomputable def wu(H:Hp)(o:Obj)(ns:List Str)(vs:List V):Prop:=(ns=[]/\vs=[])\/∃d od,o.dict=some d/\ns.length=vs.length/\H d=some (.aV od (.xd (ns.zip vs)))
abbrev cX:HO:=.ext fun _=>True
structure gA where
 ar:Arguments
 bd:Expr
 sc:Scope
 pos:Pos
noncomputable def aa2:Stmt->Option gA
 | .Return (some (.Call _ [_,.Lambda a b s p] _ _)) _=>some ⟨a,b,s,p⟩
 | .Assign _ (.Call _ [.Call _ [_,.Lambda a b s p] _ _] _ _) _=>some ⟨a,b,s,p⟩
 | _=>none
noncomputable def Ak(l:List Stmt):Option gA:=l.findSome? aa2
noncomputable def ik(K:abW)(x:Str):Option gA:=match acp K ach x with
 | some (some (.ref f))=>(match K.lookup f with
  | some ⟨_,_,.func fd,_⟩=>(match fd.body with
   | .stmts b=>Ak b
   | _=>none)
  | _=>none)
 | _=>none
noncomputable def dP(K:abW):List (Str×Addr×Addr):=match K.lookup ach with
 | some ⟨_,_,.dict es _,_⟩=>es.toList.filterMap fun e=>match e.key with
  | .str x _=>if(ik K x).isSome then(PySem.W.tabIn K x).map (x,·) else none
  | _=>none
 | _=>[]
noncomputable def rZ(x:Str):Str:=(x++".<locals>.")++"<lambda>"
noncomputable def pG(H:Hp)(v:Value)(x:Str):Prop:=∃c oc vs t,v=.ref c/\H c=some (.aV oc cX)/\oc.data=.fields vs/\vs[1]? =some (.str (rZ x) t)
noncomputable def jh(H:Hp)(x:Str)(P:Addr):Prop:=∃ps,H P=some (.c4 ps)/\aeo ps.toList/\∀pos v,agj pos ps.toList=some v->pG H v x
noncomputable def nL(K:abW)(H:Hp)(x:Str)(o:Obj)(cl:List (Str×Addr)):Prop:=∃L pm v gV,ik K x=some L/\o={ cls:=.type "function",data:=.func (afA "<lambda>" (rZ x) L.ar L.bd L.sc cl pm v gV) }/\pG H v x /\
 ∀y,L.sc.names.lookup y=some .free->∃c,cl.lookup y=some c
noncomputable def jJ(H:Hp):List (Str×Addr)->List V->Prop
 | [],[]=>True
 | p::cl,v::vs=>(∃oc u,H p.2=some (.aV oc cX)/\oc.data=.cell (some u)/\RelV v u)/\jJ H cl vs
 | _,_=>False
mutual
inductive aO(K:abW)(φ:Nat->Addr)(n:Nat)(H:Hp):W->V->Prop where
 | aI:aO K φ n H .aI .aI
 | bl (b:Bool):aO K φ n H (.bl b) (.bl b)
 | int (i:Int):aO K φ n H (.int i) (.int i)
 | str (x:Str):aO K φ n H (.str x) (.str x)
 | tup {ws:List W} {a:Addr} {vs:List V} (h:H a=some (.tup vs)) (r:a9 K φ n H ws vs):aO K φ n H (.tup ws) (.ref a)
 | fl {ws:List W} {a:Addr} {vs:List V} (h:wt K H a vs) (r:a9 K φ n H ws vs):aO K φ n H (.fl ws) (.ref a)
 | ref {i:Nat} (h:i<n):aO K φ n H (.ref i) (.ref (φ i))
 | exc {c:Str} {ns:List Str} {ws:List W} {a C:Addr} {vs:List V} {o:Obj} {u:HO} (h:H a=some (.aV o u)) (hc:o.cls=.ref C) (hn:acp K ach c=some (some (.ref C))) (hk:PySem.W.notCls o=true) (hf:wu H o ns vs) (r:a9 K φ n H ws vs):aO K φ n H (.exc c ns ws) (.ref a)
 | fn {x:Str} {ws:List W} {a:Addr} {vs:List V} {o:Obj} {cl:List (Str×Addr)} (h:H a=some (.aV o cX)) (hl:nL K H x o cl) (hc:jJ H cl vs) (r:a9 K φ n H ws vs):aO K φ n H (.fn x ws) (.ref a)
inductive a9(K:abW)(φ:Nat->Addr)(n:Nat)(H:Hp):List W->List V->Prop where
 | nil:a9 K φ n H [] []
 | cons {w:W} {v:V} {ws:List W} {vs:List V} (h:aO K φ n H w v) (r:a9 K φ n H ws vs):a9 K φ n H (w::ws) (v::vs)
end
structure Step(K:abW)(φ:Nat->Addr)(n:Nat)(H:Hp)(aq:Nat->Addr)(n':Nat)(H':Hp):Prop where
 le:n<=n'
 eq:∀i,i<n->aq i=φ i
 tup:∀a xs,H a=some (.tup xs)->H' a=some (.tup xs)
 aV:∀a o u,H a=some (.aV o u)->H' a=some (.aV o u)
section
variable{K:abW}{φ aq AS:Nat->Addr}{n n' AU:Nat}{H H' gB:Hp}
theorem Step.refl:Step K φ n H φ n H:=⟨abZ _,fun _ _=>rfl,fun _ _ h=>h,fun _ _ _ h=>h⟩
theorem Step.trans(a:Step K φ n H aq n' H')(b:Step K aq n' H' AS AU gB):Step K φ n H AS AU gB:=
 ⟨acl a.le b.le,fun i h=>(b.eq i (aca h a.le)).trans (a.eq i h),fun c xs h=>b.tup c xs (a.tup c xs h),fun c o u h=>b.aV c o u (a.aV c o u h)⟩
theorem wu.mono(s:Step K φ n H aq n' H'){o:Obj}{ns:List Str}{vs:List V}(h:wu H o ns vs):wu H' o ns vs:=
 h.imp_right fun⟨d,od,e1,e2,e3⟩=>⟨d,od,e1,e2,s.aV _ _ _ e3⟩
theorem pG.mono{v:Value}{x:Str}(h:pG H v x)(s:∀a o,H a=some (.aV o cX)->H' a=some (.aV o cX)):pG H' v x:=
 let ⟨c,oc,vs,t,e1,e2,e3⟩:=h;⟨c,oc,vs,t,e1,s _ _ e2,e3⟩
theorem nL.mono{x:Str}{o:Obj}{cl:List (Str×Addr)}(h:nL K H x o cl)(s:∀a o,H a=some (.aV o cX)->H' a=some (.aV o cX)):nL K H' x o cl:=
 let ⟨L,pm,v,gV,e1,e2,e3,e4⟩:=h;⟨L,pm,v,gV,e1,e2,e3.mono s,e4⟩
theorem jJ.mono(s:∀a o,H a=some (.aV o cX)->H' a=some (.aV o cX)):∀{cl:List (Str×Addr)} {vs:List V},jJ H cl vs->jJ H' cl vs
 | [],[],_=>trivial
 | _::_,_::_,⟨⟨oc,u,e1,e2⟩,r⟩=>⟨⟨oc,u,s _ _ e1,e2⟩,jJ.mono s r⟩
 | [],_::_,h=>h.elim
 | _::_,[],h=>h.elim
mutual
theorem aO.mono(s:Step K φ n H aq n' H'):∀{w:W} {v:V},aO K φ n H w v->aO K aq n' H' w v
 | _,_,.aI=>.aI
 | _,_,.bl b=>.bl b
 | _,_,.int i=>.int i
 | _,_,.str x=>.str x
 | _,_,.tup h r=>.tup (s.tup _ _ h) (a9.mono s r)
 | _,_,.fl h r=>.fl (h.elim (fun⟨o,e⟩=>.inl ⟨o,s.aV _ _ _ e⟩) .inr) (a9.mono s r)
 | _,_,.ref (i:=i) h=>(s.eq i h)▸.ref (aca h s.le)
 | _,_,.exc h hc hn hk hf r=>.exc (s.aV _ _ _ h) hc hn hk (hf.mono s) (a9.mono s r)
 | _,_,.fn h hl hc r=>.fn (s.aV _ _ _ h) (hl.mono fun a o z=>s.aV a o _ z) (hc.mono fun a o z=>s.aV a o _ z) (a9.mono s r)
theorem a9.mono(s:Step K φ n H aq n' H'):∀{ws:List W} {vs:List V},a9 K φ n H ws vs->a9 K aq n' H' ws vs
 | _,_,.nil=>.nil
 | _,_,.cons h r=>.cons (aO.mono s h) (a9.mono s r)
end
theorem a9.length:∀{ws:List W} {vs:List V},a9 K φ n H ws vs->ws.length=vs.length
 | _,_,.nil=>rfl
 | _,_,.cons _ r=>by simp[a9.length r]
theorem a9.get:∀{ws:List W} {vs:List V} {i:Nat} {w:W},a9 K φ n H ws vs->ws[i]? =some w->∃v,vs[i]? =some v/\aO K φ n H w v
 | _,_,_,_,.nil,e=>by simp at e
 | _,_,0,_,.cons h _,e=>by simp at e;subst e;exact⟨_,rfl,h⟩
 | _,_,i+1,w,.cons _ r,e=>by
  obtain⟨u,h1,h2⟩:=a9.get (i:=i) (w:=w) r (by simpa using e);exact⟨u,by simpa using h1,h2⟩
theorem a9.append:∀{ws xs:List W} {vs us:List V},a9 K φ n H ws vs->a9 K φ n H xs us->a9 K φ n H (ws++xs) (vs++us)
 | _,_,_,_,.nil,s=>s
 | _,_,_,_,.cons h r,s=>.cons h (a9.append r s)
theorem a9.set{w:W}{v:V}(q:aO K φ n H w v):∀{ws:List W} {vs:List V} (i:Nat),a9 K φ n H ws vs->a9 K φ n H (ws.set i w) (vs.set i v)
 | _,_,_,.nil=>.nil
 | _,_,0,.cons _ r=>.cons q r
 | _,_,i+1,.cons h r=>.cons h (a9.set q i r)
end
noncomputable def bU:Key->W
 | .inl i=>.int i
 | .inr x=>.str x
inductive cx(K:abW)(φ:Nat->Addr)(n:Nat)(H:Hp):List (W×W)->List (Key×V)->Prop where
 | nil:cx K φ n H [] []
 | cons {k:Key} {w:W} {v:V} {kws:List (W×W)} {kvs:List (Key×V)} (h:aO K φ n H w v) (r:cx K φ n H kws kvs):cx K φ n H ((bU k,w)::kws) ((k,v)::kvs)
inductive cC(K:abW)(φ:Nat->Addr)(n:Nat)(H:Hp):List (W×W)->List (List Key×V)->Prop where
 | nil:cC K φ n H [] []
 | cons {k:List Key} {w:W} {v:V} {kws:List (W×W)} {kvs:List (List Key×V)} (h:aO K φ n H w v) (r:cC K φ n H kws kvs):cC K φ n H ((.tup (k.map bU),w)::kws) ((k,v)::kvs)
theorem cx.mono{K:abW}{φ aq:Nat->Addr}{n n':Nat}{H H':Hp}(s:Step K φ n H aq n' H'):∀{ws:List (W×W)} {vs:List (Key×V)},cx K φ n H ws vs->cx K aq n' H' ws vs
 | _,_,.nil=>.nil
 | _,_,.cons h r=>.cons (h.mono s) (cx.mono s r)
theorem cC.mono{K:abW}{φ aq:Nat->Addr}{n n':Nat}{H H':Hp}(s:Step K φ n H aq n' H'):∀{ws:List (W×W)} {vs:List (List Key×V)},cC K φ n H ws vs->cC K aq n' H' ws vs
 | _,_,.nil=>.nil
 | _,_,.cons h r=>.cons (h.mono s) (cC.mono s r)
inductive lC(K:abW)(φ:Nat->Addr)(n:Nat)(H:Hp):List (W×W)->List (V×V)->Prop where
 | nil:lC K φ n H [] []
 | cons {k w:W} {u v:V} {kws:List (W×W)} {kvs:List (V×V)} (hk:aO K φ n H k u) (h:aO K φ n H w v) (r:lC K φ n H kws kvs):lC K φ n H ((k,w)::kws) ((u,v)::kvs)
theorem lC.mono{K:abW}{φ aq:Nat->Addr}{n n':Nat}{H H':Hp}(s:Step K φ n H aq n' H'):∀{ws:List (W×W)} {vs:List (V×V)},lC K φ n H ws vs->lC K aq n' H' ws vs
 | _,_,.nil=>.nil
 | _,_,.cons hk h r=>.cons (hk.mono s) (h.mono s) (lC.mono s r)
inductive lD(K:abW)(φ:Nat->Addr)(n:Nat)(H:Hp):List (Str×W)->List (Str×V)->Prop where
 | nil:lD K φ n H [] []
 | cons {f:Str} {w:W} {v:V} {fs:List (Str×W)} {vs:List (Str×V)} (h:aO K φ n H w v) (r:lD K φ n H fs vs):lD K φ n H ((f,w)::fs) ((f,v)::vs)
theorem lD.mono{K:abW}{φ aq:Nat->Addr}{n n':Nat}{H H':Hp}(s:Step K φ n H aq n' H'):∀{ws:List (Str×W)} {vs:List (Str×V)},lD K φ n H ws vs->lD K aq n' H' ws vs
 | _,_,.nil=>.nil
 | _,_,.cons h r=>.cons (h.mono s) (lD.mono s r)
noncomputable def lp(K:abW)(φ:Nat->Addr)(n:Nat)(H:Hp)(o:PO)(a:Addr):Prop:=match o with
 | .lst ws=>∃vs,H a=some (.lst vs)/\a9 K φ n H ws vs
 | .aD kws=>(∃kvs,H a=some (.dK kvs)/\cx K φ n H kws kvs)\/∃kvs,H a=some (.dT kvs)/\cC K φ n H kws kvs
 | .obj c fs=>∃C dx vs,acp K ach c=some (some (.ref C))/\H a=some (.ins C dx vs)/\lD K φ n H fs vs
 | .qq kws=>∃kvs,H a=some (.dU kvs)/\lC K φ n H kws kvs/\(kws.map (·.1)).Nodup
 | .kG kws=>∃o,o.cls=.type "dict"/\((∃kvs,H a=some (.aV o (.dK kvs))/\cx K φ n H kws kvs)\/∃kvs,H a=some (.aV o (.dT kvs))/\cC K φ n H kws kvs)
structure aN(K:abW)(φ:Nat->Addr)(ph:PH)(H:Hp):Prop where
 hp:∀i o,ph[i]? =some o->lp K φ ph.length H o (φ i)
 inj:∀i j,i<ph.length->j<ph.length->φ i=φ j->i=j
 tb:∀p∈dP K,jh H p.1 p.2.2
theorem jh.upd{H:Hp}{x:Str}{P a:Addr}{o:HO}(h:jh H x P)(n1:∀ps,H a≠some (.c4 ps))(n2:∀oc,H a≠some (.aV oc cX)):jh (upd H a o) x P:=by
 obtain⟨ps,e1,e2,e3⟩:=h;refine⟨ps,?_,e2,fun pos v e=>?_⟩
 ·rw[aT (fun z=>n1 ps (by rw[<- z];exact e1))];exact e1
 ·obtain⟨c,oc,vs,t,f1,f2,f3⟩:=e3 pos v e;refine⟨c,oc,vs,t,f1,?_,f3⟩;rw[aT (fun z=>n2 oc (by rw[<- z];exact f2))];exact f2
variable{o:HO}
theorem jh.new{x:Str}{P:Addr}(h:jh H x P)(hn:H a=none):jh (L2.upd H a o) x P:=h.upd (fun _ z=>by rw[hn] at z;cases z) fun _ z=>by rw[hn] at z;cases z
inductive bh(K:abW)(φ:Nat->Addr)(n:Nat)(H:Hp):aQ->L2.St->Prop where
 | nil:bh K φ n H [] []
 | sm {w:W} {v:V} {ws:aQ} {vs:L2.St} (h:aO K φ n H w v) (r:bh K φ n H ws vs):bh K φ n H (some w::ws) (some v::vs)
 | nn {v:Option V} {ws:aQ} {vs:L2.St} (r:bh K φ n H ws vs):bh K φ n H (none::ws) (v::vs)
section
variable{K:abW}{φ aq AS:Nat->Addr}{n n' AU:Nat}{H H' gB:Hp}{ph:PH}
theorem bh.mono(s:Step K φ n H aq n' H'):∀{ws:aQ} {vs:L2.St},bh K φ n H ws vs->bh K aq n' H' ws vs
 | _,_,.nil=>.nil
 | _,_,.sm h r=>.sm (h.mono s) (bh.mono s r)
 | _,_,.nn r=>.nn (bh.mono s r)
theorem bh.get:∀{ws:aQ} {vs:L2.St} {i:Nat} {w:W},bh K φ n H ws vs->ws[i]? =some (some w)->∃v,vs[i]? =some (some v)/\aO K φ n H w v
 | _,_,_,_,.nil,e=>by simp at e
 | _,_,0,_,.sm h _,e=>by simp at e;subst e;exact⟨_,rfl,h⟩
 | _,_,0,_,.nn _,e=>by simp at e
 | _,_,i+1,w,.sm _ r,e=>by
  obtain⟨u,h1,h2⟩:=bh.get (i:=i) (w:=w) r (by simpa using e);exact⟨u,by simpa using h1,h2⟩
 | _,_,i+1,w,.nn r,e=>by
  obtain⟨u,h1,h2⟩:=bh.get (i:=i) (w:=w) r (by simpa using e);exact⟨u,by simpa using h1,h2⟩
theorem bh.set{w:W}{v:V}(q:aO K φ n H w v):∀{ws:aQ} {vs:L2.St} (i:Nat),bh K φ n H ws vs->bh K φ n H (ws.set i (adY w)) (vs.set i (adY v))
 | _,_,_,.nil=>.nil
 | _,_,0,.sm _ r=>.sm q r
 | _,_,0,.nn r=>.sm q r
 | _,_,i+1,.sm h r=>.sm h (bh.set q i r)
 | _,_,i+1,.nn r=>.nn (bh.set q i r)
theorem bh.start:∀{ws:List W} {vs:List V} (k:Nat),a9 K φ n H ws vs->bh K φ n H (ws.map adY++acf k Option.none) (vs.map adY++acf k Option.none)
 | _,_,0,.nil=>.nil
 | _,_,k+1,.nil=>.nn (bh.start k .nil)
 | _,_,k,.cons h r=>.sm h (bh.start k r)
theorem lp.some{o:PO}{a:Addr}(h:lp K φ n H o a):∃x,H a=adY x/\(o.fz=false->ky (adY x)):=by
 cases o with
 | lst ws=>obtain⟨vs,e,_⟩:=h;exact⟨_,e,fun _=>trivial⟩
 | aD kws=>
  rcases h with⟨vs,e,_⟩ | ⟨vs,e,_⟩
  ·exact⟨_,e,fun _=>trivial⟩
  ·exact⟨_,e,fun _=>trivial⟩
 | obj c fs=>obtain⟨C,dx,vs,_,e,_⟩:=h;exact⟨_,e,fun _=>trivial⟩
 | qq kws=>obtain⟨kvs,e,_⟩:=h;exact⟨_,e,fun _=>trivial⟩
 | kG kws=>
  obtain⟨o,_,⟨vs,e,_⟩ | ⟨vs,e,_⟩⟩:=h
  ·exact⟨_,e,fun z=>nomatch z⟩
  ·exact⟨_,e,fun z=>nomatch z⟩
theorem lp.mono{o:PO}{a:Addr}(s:Step K φ n H aq n' H')(e:H' a=H a)(h:lp K φ n H o a):lp K aq n' H' o a:=by
 cases o with
 | lst ws=>obtain⟨vs,q,r⟩:=h;exact⟨vs,e.trans q,r.mono s⟩
 | aD kws=>
  rcases h with⟨vs,q,r⟩ | ⟨vs,q,r⟩
  ·exact .inl ⟨vs,e.trans q,r.mono s⟩
  ·exact .inr ⟨vs,e.trans q,r.mono s⟩
 | obj c fs=>obtain⟨C,dx,vs,q1,q2,r⟩:=h;exact⟨C,dx,vs,q1,e.trans q2,r.mono s⟩
 | qq kws=>obtain⟨kvs,q,r,nd⟩:=h;exact⟨kvs,e.trans q,r.mono s,nd⟩
 | kG kws=>
  obtain⟨o,hc,⟨vs,q,r⟩ | ⟨vs,q,r⟩⟩:=h
  ·exact⟨o,hc,.inl ⟨vs,e.trans q,r.mono s⟩⟩
  ·exact⟨o,hc,.inr ⟨vs,e.trans q,r.mono s⟩⟩
variable{i:Nat}
theorem aN.at(h:aN K φ ph H)(hi:i<ph.length):∃x,H (φ i)=adY x/\(ph[i].fz=false->ky (adY x)):=(h.hp i ph[i] (by simp[hi])).some
theorem aN.mu(h:aN K φ ph H){o:PO}(hw:ph[i]? =adY o)(hz:o.fz=false):∃x,H (φ i)=adY x/\ky (adY x):=let ⟨x,e,k⟩:=(h.hp i o hw).some;⟨x,e,k hz⟩
variable{p:Addr}
theorem kc{xs:List V}(hp:H p=none):Step K φ n H φ n (upd H p (.tup xs)):=by
 refine⟨abZ _,fun _ _=>rfl,fun a ys h=>?_,fun a o u h=>?_⟩
 ·rw[aT (ce h hp)];exact h
 ·rw[aT (ce h hp)];exact h
theorem aN.tup{p:Addr}{xs:List V}(h:aN K φ ph H)(hp:H p=none):aN K φ ph (upd H p (.tup xs)):=by
 refine⟨fun i o e=>?_,h.inj,fun p hm=>(h.tb p hm).new hp⟩;have hi:i<ph.length:=(abV.mp e).1;obtain⟨x,ex,_⟩:=h.at hi;exact(h.hp i o e).mono (kc hp) (aT (ce ex hp))
noncomputable def ext(φ:Nat->Addr)(n:Nat)(p:Addr):Nat->Addr:=fun i=>if i=n then p else φ i
theorem pA(h:i<n):ext φ n p i=φ i:=by unfold ext;rw[if_neg (by omega)]
theorem lg:ext φ n p n=p:=by unfold ext;rw[if_pos rfl]
theorem yz{o:HO}(hp:H p=none):Step K φ n H (ext φ n p) (n+1) (upd H p o):=by
 refine⟨aeW _,fun i h=>pA h,fun a ys h=>?_,fun a o u h=>?_⟩
 ·rw[aT (ce h hp)];exact h
 ·rw[aT (ce h hp)];exact h
theorem aN.new{p:Addr}{x:HO}{o:PO}(h:aN K φ ph H)(hp:H p=none)(r:lp K (ext φ ph.length p) (ph.length+1) (upd H p x) o p) :
  aN K (ext φ ph.length p) (ph++[o]) (upd H p x):=by
 refine⟨fun i o' e=>?_,fun i j hi hj e=>?_,fun p hm=>(h.tb p hm).new hp⟩
 ·rw[acg];by_cases hi:i<ph.length
  ·rw[acE hi] at e;obtain⟨y,ey,_⟩:=h.at hi;rw[pA hi];exact(h.hp i o' e).mono (yz hp) (aT (ce ey hp))
  ·have hl:=(abV.mp e).1;simp at hl;have:i=ph.length:=by omega
   subst this;simp at e;subst e;rw[lg];exact r
 ·simp at hi hj
  have key:∀k,k<ph.length->φ k≠p:=fun k hk z=>by
   obtain⟨y,ey,_⟩:=h.at hk;rw[z,hp] at ey;cases ey
  by_cases h1:i<ph.length <;> by_cases h2:j<ph.length
  ·rw[pA h1,pA h2] at e;exact h.inj i j h1 h2 e
  ·have:j=ph.length:=by omega
   subst this;rw[pA h1,lg] at e;exact(key i h1 e).elim
  ·have:i=ph.length:=by omega
   subst this;rw[pA h2,lg] at e;exact(key j h2 e.symm).elim
  ·omega
theorem oZ{a:Addr}{x y:HO}(ha:H a=some x)(mx:ky (some x)):Step K φ n H φ n (upd H a y):=by
 refine⟨abZ _,fun _ _=>rfl,fun c ys h=>?_,fun c o u h=>?_⟩
 ·rw[aT (ij h ha (by rintro rfl;exact mx))];exact h
 ·rw[aT (ij h ha (by rintro rfl;exact mx))];exact h
theorem aN.put{x:HO}{o o0:PO}(h:aN K φ ph H)(hw:ph[i]? =some o0)(hz:o0.fz=false)(r:lp K φ ph.length (upd H (φ i) x) o (φ i)):aN K φ (ph.set i o) (upd H (φ i) x):=by
 have hi:i<ph.length:=(abV.mp hw).1;obtain⟨y,ey,my⟩:=h.mu hw hz;refine⟨fun j o' e=>?_,fun j k hj hk e=>?_,fun p hm=>(h.tb p hm).upd (fun ps z=>?_) fun oc z=>?_⟩
 ·rw[adq];by_cases hj:j=i
  ·subst hj;rw[adg hi] at e;cases e;exact r
  ·rw[adx (aej hj)] at e;have iH:=(abV.mp e).1;exact(h.hp j o' e).mono (oZ ey my) (aT fun z=>hj (h.inj j i iH hi z))
 ·rw[adq] at hj hk;exact h.inj j k hj hk e
 ·rw[ey] at z;cases z;exact my
 ·rw[ey] at z;cases z;exact my
end
noncomputable def Made(X:Cx)(C:Addr)(H':Hp)(e:Value)(s':acb):Prop:=
 ∃pins σ s vs h' a,e=.ref a/\s'={ s with heap:=h' }/\Inv X pins σ H' s/\Heap.MadeExcOf s.heap h' a (.ref C) vs
structure UnB(fs:List Addr)(H H':Hp)(h B h':Heap):Prop where
 keep:∀b o,h.get? b=some o->H b=none->b∉fs->B.get? b=some o
 slot:∀b o,h.get? b=some o->H b=none->b∈fs->∃sl,h'.get? b=some { o with slots:=sl }
 free:∀b o,h.get? b=some o->H b=none->H' b=none
 there:∀b o,h.get? b=some o->b∉fs->∃o',B.get? b=some o'
 fk:∀b xs,H b=some (.tup xs)->H' b=some (.tup xs)
 er:∀b o u,H b=some (.aV o u)->H' b=some (.aV o u)
 fq:∀b ps,H b=some (.c4 ps)->∃more,H' b=some (.c4 (ps++more))
noncomputable def Flew(P:adl)(w:World)(l:List Env)(H:Hp)(s:acb)(C:Addr)(H':Hp)(e:Value)(s':acb):Prop:=
 ∃a a0 B,e=.ref a/\s'.os=s.os/\afN s'.gens/\Heap.FlyingW B l a (.ref C) a0 s'.heap/\cj P w H' B/\UnB (dZ l) H H' s.heap B s'.heap
noncomputable def sA(X:Cx)(x:XC)(H':Hp)(e:Value)(s':acb):Prop:=∃C,X.mg x.cls=some (.ref C)/\x.fs=[]/\(Made X C H' e s'\/∃pins σ H s,Inv X pins σ H s/\Flew X.prog X.w X.stack H s C H' e s')
noncomputable def XE(X:Cx)(φ:Nat->Addr)(n:Nat)(H:Hp):XC->PH->Prop:=fun x ph'=>∀aq H' e s',aN X.K aq ph' H'->Step X.K φ n H aq ph'.length H'->sA X x H' e s'->X.xe e s'
variable{X:Cx}{φ:Nat->Addr}{n:Nat}{ph':PH}
theorem XE.step{aB:Nat->Addr}{n1:Nat}{H1:Hp}{x:XC}(h:XE X φ n H x ph')(s:Step X.K φ n H aB n1 H1):XE X aB n1 H1 x ph':=fun aq H' e s' r t q=>h aq H' e s' r (s.trans t) q
noncomputable def tM(X:Cx)(m:EM):TE:=fun σ H Q=>∃φ ph ws,aN X.K φ ph H/\bh X.K φ ph.length H ws σ/\(m ws ph).Run (fun w ph'=>
 ∀aq H' v,aN X.K aq ph' H'->Step X.K φ ph.length H aq ph'.length H'->aO X.K aq ph'.length H' w v->Q v H') (XE X φ ph.length H)
noncomputable def tT(X:Cx)(m:TM):TT:=fun σ H Q=>∃φ ph ws,aN X.K φ ph H/\bh X.K φ ph.length H ws σ/\(m ws ph).Run (fun b ph'=>
 ∀aq H',aN X.K aq ph' H'->Step X.K φ ph.length H aq ph'.length H'->Q b H') (XE X φ ph.length H)
noncomputable def tA(X:Cx)(m:AM):TA:=fun σ H Q=>∃φ ph ws,aN X.K φ ph H/\bh X.K φ ph.length H ws σ/\(m ws ph).Run (fun xs ph'=>
 ∀aq H' vs,aN X.K aq ph' H'->Step X.K φ ph.length H aq ph'.length H'->a9 X.K aq ph'.length H' xs vs->Q vs H') (XE X φ ph.length H)
noncomputable def nM(X:Cx)(D:Ends)(aq:Nat->Addr)(ph':PH)(H':Hp)(f:Fl):Prop:=match f with
 | .nx dn=>∀ao,bh X.K aq ph'.length H' dn ao->D.nx ao H'
 | .bk dn=>∀ao,bh X.K aq ph'.length H' dn ao->D.bk ao H'
 | .ct dn=>∀ao,bh X.K aq ph'.length H' dn ao->D.ct ao H'
 | .rt w=>∀v,aO X.K aq ph'.length H' w v->D.rt v H'
noncomputable def tS(X:Cx)(m:SM):TS:=fun D σ H=>∃φ ph ws,aN X.K φ ph H/\bh X.K φ ph.length H ws σ/\(m ws ph).Run (fun f ph'=>
 ∀aq H',aN X.K aq ph' H'->Step X.K φ ph.length H aq ph'.length H'->nM X D aq ph' H' f) (XE X φ ph.length H)
section
variable{X:Cx}{e:Expr}
theorem PE.imp{t t':TE}(h:PE X e t)(k:∀σ H Q,t' σ H Q->t σ H Q):PE X e t':=fun pins s σ H Q I q=>h pins s σ H Q I (k σ H Q q)
theorem PT.imp{t t':TT}(h:PT X e t)(k:∀σ H Q,t' σ H Q->t σ H Q):PT X e t':=fun pins s σ H Q I q=>h pins s σ H Q I (k σ H Q q)
theorem PA.imp{es:List Expr}{t t':TA}(h:PA X es t)(k:∀σ H Q,t' σ H Q->t σ H Q):PA X es t':=fun pos pins s σ H Q I q=>h pos pins s σ H Q I (k σ H Q q)
theorem PS.imp{st:Stmt}{t t':TS}(h:PS X st t)(k:∀D σ H,t' D σ H->t D σ H):PS X st t':=fun pins s σ H D I q=>h pins s σ H D I (k D σ H q)
theorem fV.imp{st:List Stmt}{t t':TS}(h:fV X st t)(k:∀D σ H,t' D σ H->t D σ H):fV X st t':=fun pins s σ H D I q=>h pins s σ H D I (k D σ H q)
abbrev IE(X:Cx)(e:Expr)(m:EM):Prop:=PE X e (tM X m)
abbrev IT(X:Cx)(e:Expr)(m:TM):Prop:=PT X e (tT X m)
abbrev IA(X:Cx)(es:List Expr)(m:AM):Prop:=PA X es (tA X m)
abbrev IS(X:Cx)(st:Stmt)(m:SM):Prop:=PS X st (tS X m)
abbrev iI(X:Cx)(st:List Stmt)(m:SM):Prop:=fV X st (tS X m)
end
noncomputable def aa(i:Nat):EM:=fun σ=>lift fun ph=>match σ[i]? with
 | some (some w)=>some (w,ph)
 | _=>none
noncomputable def eC(w:W):EM:=fun _=>ax w
noncomputable def ab(f:W->W->Po W)(a b:EM):EM:=fun σ=>au (a σ) fun x=>au (b σ) fun y=>lift (f x y)
noncomputable def fv(f:W->Po W)(a:EM):EM:=fun σ=>au (a σ) fun x=>lift (f x)
noncomputable def c5(K:abW)(r:R2)(f:W->W->Po W):Prop:=∀{φ:Nat->Addr} {ph:PH} {H:Hp} {x y:W} {vx vy:V} {w:W} {ph':PH} {Q:VK},aN K φ ph H->aO K φ ph.length H x vx->aO K φ ph.length H y vy->f x y ph=some (w,ph') →
 (∀aq H' v,aN K aq ph' H'->Step K φ ph.length H aq ph'.length H'->aO K aq ph'.length H' w v->Q v H')->r vx vy H Q
noncomputable def IV(K:abW)(r:V->Hp->VK->Prop)(f:W->Po W):Prop:=∀{φ:Nat->Addr} {ph:PH} {H:Hp} {x:W} {vx:V} {w:W} {ph':PH} {Q:VK},aN K φ ph H->aO K φ ph.length H x vx->f x ph=some (w,ph') →
 (∀aq H' v,aN K aq ph' H'->Step K φ ph.length H aq ph'.length H'->aO K aq ph'.length H' w v->Q v H')->r vx H Q
section
variable{X:Cx}{a b c:Expr}{ma mb mc:EM}{pos:Pos}
theorem XY(i:Nat){x:Str}(hN:X.N[i]? =some x:=by rfl)(hv:aA X.env.scope x:=by first | exact Or.inl rfl | exact Or.inr (Or.inl rfl) | exact Or.inr (Or.inr rfl))(hd:(x==("__debug__":Str))=false:=by decide)
  (hcd:(x==("__classdict__":Str))=false:=by decide):IE X (.Name x pos) (aa i):=by
 refine PE.imp (FD hN hv hd hcd) fun σ H Q h=>?_
 obtain⟨φ,ph,ws,hH,hS,h⟩:=h;obtain⟨w,ph',e,k⟩:=run_lift h;split at e
 ·rename_i w' ew;cases e;obtain⟨v,ev,rv⟩:=hS.get ew;exact⟨v,ev,k φ H v hH Step.refl rv⟩
 ·cases e
theorem wz{t:V}{w:W}(h:PE X a (tC t))(r:∀φ n H,aO X.K φ n H w t):IE X a (eC w):=by
 refine PE.imp h fun σ H Q h=>?_
 obtain⟨φ,ph,ws,hH,hS,h⟩:=h;exact h φ H _ hH Step.refl (r _ _ _)
variable{j:Nat}
theorem XZ{i:Int}:IE X (.Constant (.int i) j pos) (eC (.int i)):=wz Xl fun _ _ _=>.int i
theorem X0{x:Str}:IE X (.Constant (.str x) j pos) (eC (.str x)):=wz Xn fun _ _ _=>.str x
theorem ZS{x:Bool}:IE X (.Constant (.bool x) j pos) (eC (.bl x)):=wz Zx fun _ _ _=>.bl x
theorem X1:IE X (.Constant .none j pos) (eC .aI):=wz Xm fun _ _ _=>.aI
variable{β:Type}{σ:L2.St}{H:Hp}{φ:Nat->Addr}{ph:PH}{ws:aQ}
theorem tM.bind{m:EM}{Q:VK}{f:W->Mo β}{N:β->PH->Prop}(hH:aN X.K φ ph H)(hS:bh X.K φ ph.length H ws σ)(h:(au (m ws) f ph).Run N (XE X φ ph.length H))
  (k:∀w ph1 aB H1 v,aN X.K aB ph1 H1->Step X.K φ ph.length H aB ph1.length H1->aO X.K aB ph1.length H1 w v->(f w ph1).Run N (XE X aB ph1.length H1)->Q v H1):tM X m σ H Q:=by
 rw[cW] at h;exact⟨φ,ph,ws,hH,hS,h.mono (fun w ph1 h1 aB H1 v aL s1 r1=>k w ph1 aB H1 v aL s1 r1 (h1.mono (fun _ _ z=>z) fun _ _ z=>z.step s1)) fun _ _ z=>z⟩
theorem tT.bind{m:TM}{Q:Bool->Hp->Prop}{f:Bool->Mo β}{N:β->PH->Prop}(hH:aN X.K φ ph H)(hS:bh X.K φ ph.length H ws σ)(h:(au (m ws) f ph).Run N (XE X φ ph.length H))
  (k:∀b ph1 aB H1,aN X.K aB ph1 H1->Step X.K φ ph.length H aB ph1.length H1->(f b ph1).Run N (XE X aB ph1.length H1)->Q b H1):tT X m σ H Q:=by
 rw[cW] at h;exact⟨φ,ph,ws,hH,hS,h.mono (fun b ph1 h1 aB H1 aL s1=>k b ph1 aB H1 aL s1 (h1.mono (fun _ _ z=>z) fun _ _ z=>z.step s1)) fun _ _ z=>z⟩
theorem tA.bind{m:AM}{Q:List V->Hp->Prop}{f:List W->Mo β}{N:β->PH->Prop}(hH:aN X.K φ ph H)(hS:bh X.K φ ph.length H ws σ)(h:(au (m ws) f ph).Run N (XE X φ ph.length H))
  (k:∀xs ph1 aB H1 vs,aN X.K aB ph1 H1->Step X.K φ ph.length H aB ph1.length H1->a9 X.K aB ph1.length H1 xs vs->(f xs ph1).Run N (XE X aB ph1.length H1)->Q vs H1):tA X m σ H Q:=by
 rw[cW] at h;exact⟨φ,ph,ws,hH,hS,h.mono (fun w ph1 h1 aB H1 v aL s1 r1=>k w ph1 aB H1 v aL s1 r1 (h1.mono (fun _ _ z=>z) fun _ _ z=>z.step s1)) fun _ _ z=>z⟩
variable{r:R2}{f:W->W->Po W}
theorem vI(hi:c5 X.K r f){Q:VK}(h:tM X (ab f ma mb) σ H Q):su r (tM X ma) (tM X mb) σ H Q:=by
 obtain⟨φ,ph,ws,hH,hS,h⟩:=h;refine tM.bind hH hS h fun x ph1 aB H1 vx aL s1 rx h=>tM.bind aL (hS.mono s1) h fun y ph2 bc H2 vy ba s2 ry h=>?_
 obtain⟨w,ph',e,k⟩:=run_lift h;exact hi ba (rx.mono s2) ry e fun gf H3 v f6 s3 r3=>k gf H3 v f6 ((s1.trans s2).trans s3) r3
theorem rJ{op:Operator}(ho:bJ X (aeG op) r)(hi:c5 X.K r f)(ha:IE X a ma)(hb:IE X b mb):IE X (.BinOp a op b pos) (ab f ma mb):=
 PE.imp (ZI ho ha hb) fun _ _ _ h=>vI hi h
theorem ZT{op:UnaryOp}{r:V->Hp->VK->Prop}{f:W->Po W}(ho:wR X (unaryOp op) r)(hi:IV X.K r f)(ha:IE X a ma):IE X (.UnaryOp op a pos) (fv f ma):=by
 refine PE.imp (ZJ ho ha) fun σ H Q h=>?_
 obtain⟨φ,ph,ws,hH,hS,h⟩:=h;refine tM.bind hH hS h fun x ph1 aB H1 vx aL s1 rx h=>?_
 obtain⟨w,ph',e,k⟩:=run_lift h;exact hi aL rx e fun gf H3 v f6 s3 r3=>k gf H3 v f6 (s1.trans s3) r3
theorem X2{op:CmpOp}(ho:bJ X (ado op) r)(hi:c5 X.K r f)(ha:IE X a ma)(hb:IE X b mb)(hm:adT op b=false):IE X (.Compare a [op] [b] pos) (ab f ma mb):=
 PE.imp (VD ho ha hb hm) fun _ _ _ h=>vI hi h
noncomputable def eT(m:EM):TM:=fun σ=>au (m σ) fun w=>lift (match w with
 | .bl b=>ret b
 | _=>fG)
theorem X3{op:CmpOp}(ho:bJ X (ado op) r)(hi:c5 X.K r f)(ha:IE X a ma)(hb:IE X b mb)(hm:adT op b=false):IT X (.Compare a [op] [b] pos) (eT (ab f ma mb)):=by
 refine PT.imp (VE ho ha hb hm) fun σ H Q h=>?_
 obtain⟨φ,ph,ws,hH,hS,h⟩:=h;refine vI hi (tM.bind hH hS h fun x ph1 aB H1 vx aL s1 rx h=>?_);obtain⟨w,ph',e,k⟩:=run_lift h;split at e
 ·cases e;cases rx;exact⟨_,rfl,k aB H1 aL s1⟩
 ·cases e
end
noncomputable def qr(g:Int->Int->Int):W->W->Po W:=fun x y=>match x,y with
 | .int i,.int j=>ret (.int (g i j))
 | _,_=>fG
noncomputable def pS(c:Int->Int->Bool)(g:Int->Int->Int):W->W->Po W:=fun x y=>match x,y with
 | .int i,.int j=>if c i j=true then ret (.int (g i j)) else fG
 | _,_=>fG
noncomputable def pT(g:Int->Int->Bool):W->W->Po W:=fun x y=>match x,y with
 | .int i,.int j=>ret (.bl (g i j))
 | _,_=>fG
theorem ZU{g:Int->Int->Int}:c5 K (jm fun i j=>.int (g i j)) (qr g):=by
 intro φ ph H x y vx vy w ph' Q hH rx ry e k;unfold qr at e;split at e
 ·cases e;cases rx;cases ry;exact⟨_,_,rfl,rfl,k φ H _ hH Step.refl (.int _)⟩
 ·cases e
theorem FJ{C:Int->Int->Prop}{c:Int->Int->Bool}{g:Int->Int->Int}(hc:∀i j,c i j=true->C i j):c5 K (rI C fun i j=>.int (g i j)) (pS c g):=by
 intro φ ph H x y vx vy w ph' Q hH rx ry e k;unfold pS at e;split at e
 ·split at e
  ·cases e;cases rx;cases ry;exact⟨_,_,rfl,rfl,hc _ _ (by assumption),k φ H _ hH Step.refl (.int _)⟩
  ·cases e
 ·cases e
theorem zh{g:Int->Int->Bool}:c5 K (jm fun i j=>.bl (g i j)) (pT g):=by
 intro φ ph H x y vx vy w ph' Q hH rx ry e k;unfold pT at e;split at e
 ·cases e;cases rx;cases ry;exact⟨_,_,rfl,rfl,k φ H _ hH Step.refl (.bl _)⟩
 ·cases e
noncomputable def cQ(a b:TM):TM:=fun σ=>au (a σ) fun c=>if c=true then b σ else ax false
noncomputable def dj(a b:TM):TM:=fun σ=>au (a σ) fun c=>if c=true then ax true else b σ
noncomputable def rK(a:TM):TM:=fun σ=>au (a σ) fun c=>ax (!c)
noncomputable def pU(a b:EM):EM:=fun σ=>au (a σ) fun w=>match w with
 | .bl c=>if c=true then b σ else ax (.bl false)
 | _=>dC
noncomputable def wV(a b:EM):EM:=fun σ=>au (a σ) fun w=>match w with
 | .bl c=>if c=true then ax (.bl true) else b σ
 | _=>dC
noncomputable def aa3(a:EM):EM:=fun σ=>au (a σ) fun w=>match w with
 | .bl c=>ax (.bl (!c))
 | _=>dC
noncomputable def eIf(t:TM)(a b:EM):EM:=fun σ=>au (t σ) fun c=>if c=true then a σ else b σ
section
variable{X:Cx}{a b c:Expr}{rest:List Expr}{ma mb mc:EM}{ta tb:TM}{pos:Pos}
theorem X4(ha:IT X a ta):IT X (.UnaryOp .Not a pos) (rK ta):=by
 refine PT.imp (Xq ha) fun σ H Q h=>?_
 obtain⟨φ,ph,ws,hH,hS,h⟩:=h;exact tT.bind hH hS h fun x ph1 aB H1 aL s1 h=>h aB H1 aL s1
theorem and_imp{σ:L2.St}{H:Hp}{Q:Bool->Hp->Prop}(h:tT X (cQ ta tb) σ H Q):wg (tT X ta) (tT X tb) σ H Q:=by
 obtain⟨φ,ph,ws,hH,hS,h⟩:=h;refine tT.bind hH hS h fun x ph1 aB H1 aL s1 h=>?_
 cases x with
 | true=>exact lB ⟨aB,ph1,ws,aL,hS.mono s1,h.mono (fun _ _ k bc H2 ba s2=>k bc H2 ba (s1.trans s2)) fun _ _ z=>z⟩
 | false=>exact lA (h aB H1 aL s1)
theorem or_imp{σ:L2.St}{H:Hp}{Q:Bool->Hp->Prop}(h:tT X (dj ta tb) σ H Q):jU (tT X ta) (tT X tb) σ H Q:=by
 obtain⟨φ,ph,ws,hH,hS,h⟩:=h;refine tT.bind hH hS h fun x ph1 aB H1 aL s1 h=>?_
 cases x with
 | false=>exact lA ⟨aB,ph1,ws,aL,hS.mono s1,h.mono (fun _ _ k bc H2 ba s2=>k bc H2 ba (s1.trans s2)) fun _ _ z=>z⟩
 | true=>exact lB (h aB H1 aL s1)
theorem X5{op:BoolOp}(ha:IT X a ta):PW X (.BoolOp op [a] pos) (tT X ta):=by
 cases op with
 | And=>exact Vu ha
 | Or=>exact Xo ha
theorem X6(ha:IT X a ta)(hb:PW X (.BoolOp .And (b::rest) pos) (tT X tb)):PW X (.BoolOp .And (a::b::rest) pos) (tT X (cQ ta tb)):=
 fun wh pins s σ H Q I h=>Xp ha hb wh pins s σ H Q I (and_imp h)
theorem ZV(ha:IT X a ta)(hb:PW X (.BoolOp .Or (b::rest) pos) (tT X tb)):PW X (.BoolOp .Or (a::b::rest) pos) (tT X (dj ta tb)):=
 fun wh pins s σ H Q I h=>Zy ha hb wh pins s σ H Q I (or_imp h)
theorem X7(ha:IE X a ma)(hb:IE X (.BoolOp .And (b::rest) pos) mb):IE X (.BoolOp .And (a::b::rest) pos) (pU ma mb):=by
 refine PE.imp (Xs ha hb) fun σ H Q h=>?_
 obtain⟨φ,ph,ws,hH,hS,h⟩:=h;refine tM.bind hH hS h fun x ph1 aB H1 vx aL s1 rx h=>?_
 cases rx with
 | bl c=>
  refine⟨c,rfl,?_⟩;cases c with
  | true=>exact lB ⟨aB,ph1,ws,aL,hS.mono s1,h.mono (fun _ _ k bc H2 v ba s2 r2=>k bc H2 v ba (s1.trans s2) r2) fun _ _ z=>z⟩
  | false=>exact lA (h aB H1 _ aL s1 (.bl false))
 | _=>exact h.elim
theorem ZW(ha:IE X a ma)(hb:IE X (.BoolOp .Or (b::rest) pos) mb):IE X (.BoolOp .Or (a::b::rest) pos) (wV ma mb):=by
 refine PE.imp (ZA ha hb) fun σ H Q h=>?_
 obtain⟨φ,ph,ws,hH,hS,h⟩:=h;refine tM.bind hH hS h fun x ph1 aB H1 vx aL s1 rx h=>?_
 cases rx with
 | bl c=>
  refine⟨c,rfl,?_⟩;cases c with
  | false=>exact lA ⟨aB,ph1,ws,aL,hS.mono s1,h.mono (fun _ _ k bc H2 v ba s2 r2=>k bc H2 v ba (s1.trans s2) r2) fun _ _ z=>z⟩
  | true=>exact lB (h aB H1 _ aL s1 (.bl true))
 | _=>exact h.elim
theorem X8{op:BoolOp}(ha:IE X a ma):IE X (.BoolOp op [a] pos) ma:=Xr ha
noncomputable def r6(w:W):Po Bool:=fun ph=>match w with
 | .aI=>some (false,ph)
 | .bl b=>some (b,ph)
 | .int i=>some (i != 0,ph)
 | .str y=>if y.length<=acv then some ((y.length:Int) != 0,ph) else none
 | .tup ws=>some (!ws.isEmpty,ph)
 | .fl ws=>some (!ws.isEmpty,ph)
 | .ref i=>match ph[i]? with
  | some (.lst ws)=>some (!ws.isEmpty,ph)
  | _=>none
 | .exc .. =>none
 | .fn .. =>none
noncomputable def aa4(m:EM):TM:=fun σ=>au (m σ) fun w=>lift (r6 w)
end
noncomputable def bN:SM:=fun σ=>ax (.nx σ)
noncomputable def ay(a b:SM):SM:=fun σ=>au (a σ) fun f=>match f with
 | .nx ao=>b ao
 | f=>ax f
noncomputable def da(e:EM):SM:=fun σ=>au (e σ) fun _=>ax (.nx σ)
noncomputable def aZ(e:EM):SM:=fun σ=>au (e σ) fun w=>ax (.rt w)
noncomputable def aW(t:TM)(a b:SM):SM:=fun σ=>au (t σ) fun c=>if c=true then a σ else b σ
abbrev GM:=W->aQ->Mo aQ
noncomputable def gN(i:Nat):GM:=fun w σ=>ax (σ.set i (some w))
noncomputable def aE(e:EM)(g:GM):SM:=fun σ=>au (e σ) fun w=>au (g w σ) fun ao=>ax (.nx ao)
noncomputable def tG(X:Cx)(g:GM):TG:=fun v σ H Q=>∃φ ph ws w,aN X.K φ ph H/\bh X.K φ ph.length H ws σ/\aO X.K φ ph.length H w v/\(g w ws ph).Run (fun dn ph'=>
 ∀aq H' ao,aN X.K aq ph' H'->Step X.K φ ph.length H aq ph'.length H'->bh X.K aq ph'.length H' dn ao->Q ao H') (XE X φ ph.length H)
abbrev IG(X:Cx)(tg:Expr)(g:GM):Prop:=PG X tg (tG X g)
section
variable{X:Cx}{e c:Expr}{m:EM}{t:TM}{a b:SM}{st:Stmt}{as bs rest:List Stmt}{pos:Pos}{tg:Expr}{g:GM}
theorem PG.imp{t t':TG}(h:PG X tg t)(k:∀v σ H Q,t' v σ H Q->t v σ H Q):PG X tg t':=fun pins s σ H v u Q I r q=>h pins s σ H v u Q I r (k v σ H Q q)
theorem VI:iI X [] bN:=fV.imp Vv fun D σ H h=>by
 obtain⟨φ,ph,ws,hH,hS,h⟩:=h;exact h φ H hH Step.refl σ hS
variable{σ:L2.St}{H:Hp}
theorem EK{D:Ends}(h:tS X (ay a b) D σ H):Hx (tS X a) (tS X b) D σ H:=by
 obtain⟨φ,ph,ws,hH,hS,h⟩:=h;unfold ay at h;rw[cW] at h;refine⟨φ,ph,ws,hH,hS,h.mono (fun f ph1 h aB H1 aL s1=>?_) fun _ _ z=>z⟩;cases f with
 | nx jZ=>exact fun σ1 iJ=>⟨aB,ph1,jZ,aL,iJ,h.mono (fun f ph2 k bc H2 ba s2=>k bc H2 ba (s1.trans s2)) fun _ _ z=>z.step s1⟩
 | bk jZ=>exact h aB H1 aL s1
 | ct jZ=>exact h aB H1 aL s1
 | rt w=>exact h aB H1 aL s1
theorem UD(h1:IS X st a)(h2:iI X rest b):iI X (st::rest) (ay a b):=fV.imp (Uv h1 h2) fun _ _ _ h=>EK h
theorem VJ(h1:IS X st a):iI X [st] a:=Vw h1
theorem VL(he:IE X e m)(hs:aeA e none pos.line X.env=pure false:=by rfl):IS X (.Expr e pos) (da m):=PS.imp (Vx he hs) fun D σ H h=>by
 obtain⟨φ,ph,ws,hH,hS,h⟩:=h;exact tM.bind hH hS h fun w ph1 aB H1 v aL s1 r1 h=>h aB H1 aL s1 σ (hS.mono s1)
theorem X9(he:IE X e m):IS X (.Return (some e) pos) (aZ m):=PS.imp (Xt he) fun D σ H h=>by
 obtain⟨φ,ph,ws,hH,hS,h⟩:=h;exact tM.bind hH hS h fun w ph1 aB H1 v aL s1 r1 h=>h aB H1 aL s1 v r1
theorem ZX(hc:IT X c t)(ha:iI X as a)(hb:iI X bs b):IS X (.If c as bs pos) (aW t a b):=PS.imp (ZE hc ha hb) fun D σ H h=>by
 obtain⟨φ,ph,ws,hH,hS,h⟩:=h;refine tT.bind hH hS h fun x ph1 aB H1 aL s1 h=>?_
 cases x with
 | true=>exact lB ⟨aB,ph1,ws,aL,hS.mono s1,h.mono (fun _ _ k bc H2 ba s2=>k bc H2 ba (s1.trans s2)) fun _ _ z=>z⟩
 | false=>exact lA ⟨aB,ph1,ws,aL,hS.mono s1,h.mono (fun _ _ k bc H2 ba s2=>k bc H2 ba (s1.trans s2)) fun _ _ z=>z⟩
theorem VM{i:Nat}{x:Str}(hN:X.N.Nodup)(hi:X.N[i]? =some x)(hx:Loc X.env.scope x)(hf:X.fn x=true\/X.env.scope.names.lookup x=some .local:=by first | exact .inl rfl | exact .inr rfl | assumption):IG X (.Name x pos) (gN i):=
 PG.imp (Vy hN hi hx hf) fun v σ H Q h=>by
  obtain⟨φ,ph,ws,w,hH,hS,fZ,h⟩:=h;exact h φ H _ hH Step.refl (hS.set fZ i)
theorem tG.bind{β:Type}{g:GM}{Q:L2.St->Hp->Prop}{φ:Nat->Addr}{ph:PH}{ws:aQ}{w:W}{v:V}{f:aQ->Mo β}{N:β->PH->Prop}(hH:aN X.K φ ph H)(hS:bh X.K φ ph.length H ws σ)(fZ:aO X.K φ ph.length H w v)(h:(au (g w ws) f ph).Run N (XE X φ ph.length H))
  (k:∀jZ ph1 aB H1 σ1,aN X.K aB ph1 H1->Step X.K φ ph.length H aB ph1.length H1->bh X.K aB ph1.length H1 jZ σ1->(f jZ ph1).Run N (XE X aB ph1.length H1)->Q σ1 H1):tG X g v σ H Q:=by
 rw[cW] at h;exact⟨φ,ph,ws,w,hH,hS,fZ,h.mono (fun jZ ph1 h1 aB H1 σ1 aL s1 r1=>k jZ ph1 aB H1 σ1 aL s1 r1 (h1.mono (fun _ _ z=>z) fun _ _ z=>z.step s1)) fun _ _ z=>z⟩
theorem VN{D:Ends}(h:tS X (aE m g) D σ H):wk (tM X m) (tG X g) D σ H:=by
 obtain⟨φ,ph,ws,hH,hS,h⟩:=h;refine tM.bind hH hS h fun w ph1 aB H1 v aL s1 r1 h=>?_
 exact tG.bind aL (hS.mono s1) r1 h fun fK ph2 bc H2 bY ba s2 j0 h=>h bc H2 ba (s1.trans s2) bY j0
theorem Ya{i:Nat}{x:Str}{pos':Pos}(hN:X.N.Nodup)(hi:X.N[i]? =some x)(hx:Loc X.env.scope x)(he:IE X e m)(hs:aeA e (some (.Name x pos')) pos.line X.env=pure false:=by rfl)
  (hf:X.fn x=true\/X.env.scope.names.lookup x=some .local:=by first | exact .inl rfl | exact .inr rfl | assumption):IS X (.Assign [.Name x pos'] e pos) (aE m (gN i)):=
 PS.imp (Xx hN hi hx he hs hf) fun D σ H h=>by
  obtain⟨φ,ph,ws,hH,hS,h⟩:=h;exact tM.bind hH hS h fun w ph1 aB H1 v aL s1 r1 h=>h aB H1 aL s1 _ ((hS.mono s1).set r1 i)
theorem Yb(he:IE X e m)(hg:IG X tg g)(hs:swapsWithSole [tg] e pos.line X.env=pure false:=by rfl)(hw:swappedStores [tg] e X.env=pure none:=by rfl)
  (h1:(adA [tg] X.env).map (·.2)=[agB tg X.env]:=by rfl):IS X (.Assign [tg] e pos) (aE m g):=PS.imp (Xw he hg hs hw h1) fun _ _ _ h=>VN h
end
abbrev IM:=aQ->Mo (List W×(PH->Bool))
noncomputable def dk(chk:PH->Bool)(g:GM)(b:SM):List W->SM
 | [],σ=>fun ph=>if chk ph=true then .ok (.nx σ) ph else .no
 | x::xs,σ=>fun ph=>if chk ph=true then au (g x σ) (fun σ1=>au (b σ1) fun f=>match f with
   | .nx ao=>dk chk g b xs ao
   | .ct ao=>dk chk g b xs ao
   | .bk ao=>ax (.nx ao)
   | .rt w=>ax (.rt w)) ph else .no
noncomputable def dM(im:IM)(g:GM)(b:SM):SM:=fun σ=>au (im σ) fun r=>dk r.2 g b r.1 σ
noncomputable def AV(K:abW)(J:It)(items:List W)(chk:PH->Bool)(φ:Nat->Addr)(n:Nat)(H:Hp):Prop:=
 ∀aq ph' H',aN K aq ph' H'->Step K φ n H aq ph'.length H'->chk ph'=true->∀i:Nat,
  (∀w,items[i]? =some w->J.go i H'/\∀x gB,J.sr i H' x gB->aN K aq ph' gB/\Step K aq ph'.length H' aq ph'.length gB/\aO K aq ph'.length gB w x)/\(items[i]? =none->J.stop i H')
noncomputable def tI(X:Cx)(im:IM):TI:=fun σ H R=>∃φ ph ws,aN X.K φ ph H/\bh X.K φ ph.length H ws σ/\(im ws ph).Run (fun r ph'=>
 ∀aq H' J,aN X.K aq ph' H'->Step X.K φ ph.length H aq ph'.length H'->AV X.K J r.1 r.2 aq ph'.length H'->R J H') (XE X φ ph.length H)
abbrev II(X:Cx)(tg iter:Expr)(im:IM):Prop:=PI X tg iter (tI X im)
section
variable{X:Cx}{iter tg c:Expr}{im:IM}{g:GM}{b:SM}{t:TM}{body:List Stmt}{pos:Pos}
variable{H:Hp}
theorem VO{D:Ends}{σ:L2.St}(h:tS X (dM im g b) D σ H):Hz (tI X im) (tG X g) (tS X b) D σ H:=by
 obtain⟨φ,ph,ws,hH,hS,h⟩:=h;unfold dM at h;rw[cW] at h;refine⟨φ,ph,ws,hH,hS,h.mono (fun r ph1 h aB H1 J aL s1 hJ=>?_) fun _ _ z=>z⟩;obtain⟨items,chk⟩:=r;refine⟨fun i m bY H2=>∃bc ph2 fK,m=(items.drop i).length/\aN X.K bc ph2 H2/\bh X.K bc ph2.length H2 fK bY/\Step X.K aB ph1.length H1 bc ph2.length H2 /\
   (dk chk g b (items.drop i) fK ph2).Run (fun f ph'=>∀aq H',aN X.K aq ph' H'->Step X.K bc ph2.length H2 aq ph'.length H'->nM X D aq ph' H' f) (XE X bc ph2.length H2),
  ⟨_,aB,ph1,ws,rfl,aL,hS.mono s1,Step.refl,h.mono (fun f ph' k aq H' r' s'=>k aq H' r' (s1.trans s')) fun _ _ z=>z.step s1⟩,?_⟩
 rintro i m bY H2 ⟨bc,ph2,fK,rfl,ba,j0,s2,h2⟩;cases hd:items.drop i with
 | nil=>
  rw[hd] at h2;unfold dk at h2;split at h2
  ·rename_i hc;have hn:items[i]? =none:=by
    have:items.length<=i:=by simpa using hd
    simpa using this
   exact .inl ⟨(hJ bc _ H2 ba s2 hc i).2 hn,h2 bc H2 ba Step.refl bY j0⟩
  ·exact h2.elim
 | cons x xs=>
  rw[hd] at h2;unfold dk at h2;split at h2
  ·rename_i hc;have hx:items[i]? =some x:=by
    have:=congrArg (fun l=>l[0]?) hd
    simpa using this
   have n8:items.drop (i+1)=xs:=by
    have:=congrArg (fun l=>l.drop 1) hd
    simpa[agC,agh] using this
   obtain⟨jp,hy⟩:=(hJ bc _ H2 ba s2 hc i).1 x hx;refine .inr ⟨jp,fun ao H'=>∃aq gp dn,aN X.K aq gp H'/\bh X.K aq gp.length H' dn ao/\Step X.K aB ph1.length H1 aq gp.length H' /\
     (dk chk g b xs dn gp).Run (fun f p'=>∀gf H3,aN X.K gf p' H3->Step X.K aq gp.length H' gf p'.length H3->nM X D gf p' H3 f) (XE X aq gp.length H'),
    fun ao H' ⟨aq,gp,dn,q1,q2,q3,q4⟩=>⟨xs.length,by simp,aq,gp,dn,by rw[n8],q1,q2,q3,by rw[n8];exact q4⟩,fun v H3 y=>?_⟩
   obtain⟨f6,s3,rv⟩:=hy v H3 y;have h2':(au (g x fK) (fun σ1=>au (b σ1) fun f=>match f with
    | .nx ao=>dk chk g b xs ao
    | .ct ao=>dk chk g b xs ao
    | .bk ao=>ax (.nx ao)
    | .rt w=>ax (.rt w)) ph2).Run (fun f ph'=>∀aq H',aN X.K aq ph' H'->Step X.K bc ph2.length H2 aq ph'.length H'->nM X D aq ph' H' f) (XE X bc ph2.length H3):=Out.Run.mono h2 (fun _ _ z=>z) fun _ _ z=>z.step s3
   refine tG.bind f6 (j0.mono s3) rv h2' fun ws4 n9 qH H4 j8 AW s4 hS4 h4=>?_
   rw[cW] at h4;refine⟨qH,n9,ws4,AW,hS4,h4.mono (fun f oa h5 hX H5 gW s5=>?_) fun _ _ z=>z⟩;have r8:=((s2.trans s3).trans s4).trans s5;have kH:=(s3.trans s4).trans s5;cases f with
   | nx fL=>exact fun eN fN=>⟨hX,oa,fL,gW,fN,r8,h5.mono (fun f p' k aq H' r' s'=>k aq H' r' (kH.trans s')) fun _ _ z=>z.step s5⟩
   | ct fL=>exact fun eN fN=>⟨hX,oa,fL,gW,fN,r8,h5.mono (fun f p' k aq H' r' s'=>k aq H' r' (kH.trans s')) fun _ _ z=>z.step s5⟩
   | bk fL=>exact fun eN fN=>h5 hX H5 gW kH eN fN
   | rt w=>exact fun v hv=>h5 hX H5 gW kH v hv
  ·exact h2.elim
theorem PI.imp{t t':TI}(h:PI X tg iter t)(k:∀σ H R,t' σ H R->t σ H R):PI X tg iter t':=fun pins s σ H R I q=>h pins s σ H R I (k σ H R q)
theorem Yc(hp:agH (model X.prog X.w) X.A X.env X.xe)(hc:X.calm=true)(hi:II X tg iter im)(hg:IG X tg g)(hb:iI X body b)(hs:∀x,adf iter X.env x=pure x:=by intro _;rfl) :
  IS X (.For tg iter body [] pos) (dM im g b):=PS.imp (XB hp hc hi hg hb hs) fun _ _ _ h=>VO h
noncomputable def lE(w:W):Po (List W×(PH->Bool)):=fun ph=>match w with
 | .ref i=>match ph[i]? with
  | some (.lst ws)=>some ((ws,fun ph'=>decide (ph'[i]? =some (.lst ws))),ph)
  | _=>none
 | .fl ws=>some ((ws,fun _=>true),ph)
 | _=>none
noncomputable def tupI(w:W):Po (List W×(PH->Bool)):=fun ph=>match w with
 | .tup ws=>some ((ws,fun _=>true),ph)
 | _=>none
noncomputable def wA(m:EM):IM:=fun σ=>au (m σ) fun w=>lift (lE w)
noncomputable def zN(m:EM):IM:=fun σ=>au (m σ) fun w=>lift (tupI w)
theorem VP{l:Expr}{m:EM}(hl:IE X l m):II X tg l (wA m):=by
 refine PI.imp (VA hl) fun σ H R h=>?_
 obtain⟨φ,ph,ws,hH,hS,h⟩:=h;refine tM.bind hH hS h fun w ph1 aB H1 v aL s1 r1 h=>?_
 obtain⟨r,ph',e,k⟩:=run_lift h;unfold lE at e;cases r1 with
 | ref hi=>
  rename_i i;simp only at e;split at e
  ·rename_i items hw;cases e;obtain⟨vs,hv,r⟩:=aL.hp _ _ hw;refine⟨_,rfl,⟨vs,bP.of hv⟩,k aB H1 _ aL s1 ?_⟩;intro bc ph2 H2 ba s2 hc j;have fJ:ph2[i]? =some (.lst items):=of_decide_eq_true hc;obtain⟨us,hu,ru⟩:=ba.hp _ _ fJ;rw[s2.eq i hi] at hu;refine⟨fun w fx=>?_,fun hn=>?_⟩
   ·obtain⟨u,eu,kI⟩:=ru.get fx;refine⟨⟨us,u,bP.of hu,eu⟩,fun x gB hy=>?_⟩;obtain⟨rfl,hy⟩:=hy;have:=hy us (bP.of hu);rw[eu] at this;cases this;exact⟨ba,Step.refl,kI⟩
   ·refine⟨us,bP.of hu,?_⟩;rw[<- ru.length]
    simpa using hn
  ·cases e
 | fl hq r=>
  cases e;refine⟨_,rfl,⟨_,hq.sq⟩,k aB H1 _ aL s1 ?_⟩;intro bc ph2 H2 ba s2 hc j;have h2:=aO.mono s2 (.fl hq r);cases h2 with
  | fl h2 r2=>
   refine⟨fun w fx=>?_,fun hn=>?_⟩
   ·obtain⟨u,eu,kI⟩:=r2.get fx;refine⟨⟨_,u,h2.sq,eu⟩,fun x gB hy=>?_⟩;obtain⟨rfl,hy⟩:=hy;have:=hy _ h2.sq;rw[eu] at this;cases this;exact⟨ba,Step.refl,kI⟩
   ·refine⟨_,h2.sq,?_⟩;rw[<- r2.length]
    simpa using hn
 | _=>cases e
theorem Yd{l:Expr}{m:EM}(hl:IE X l m):II X tg l (zN m):=by
 refine PI.imp (XA hl) fun σ H R h=>?_
 obtain⟨φ,ph,ws,hH,hS,h⟩:=h;refine tM.bind hH hS h fun w ph1 aB H1 v aL s1 r1 h=>?_
 obtain⟨r,ph',e,k⟩:=run_lift h;unfold tupI at e;cases r1 with
 | tup hq r=>
  cases e;refine⟨_,rfl,⟨_,cN.of hq⟩,k aB H1 _ aL s1 ?_⟩;intro bc ph2 H2 ba s2 hc j;have h2:=cN.of (K:=X.K) (s2.tup _ _ hq);have r2:=r.mono s2;refine⟨fun w fx=>?_,fun hn=>?_⟩
  ·obtain⟨u,eu,kI⟩:=r2.get fx;refine⟨⟨_,u,h2,eu⟩,fun x gB hy=>?_⟩;obtain⟨rfl,hy⟩:=hy;have:=hy _ h2;rw[eu] at this;cases this;exact⟨ba,Step.refl,kI⟩
  ·refine⟨_,h2,?_⟩;rw[<- r2.length]
   simpa using hn
 | _=>cases e
noncomputable def dB(lo:Int)(n:Nat):List W:=(acC n).map fun i:Nat=>.int (lo+((i:Nat):Int))
noncomputable def Al(xs:List W):Po (List W×(PH->Bool)):=fun ph=>match xs with
 | [.int j]=>if -(2 ^ 62)<=j/\j<2 ^ 62 then some ((dB 0 j.toNat,fun _=>true),ph) else none
 | _=>none
noncomputable def cD(m:AM):IM:=fun σ=>au (m σ) fun xs=>lift (Al xs)
theorem Ye{K:abW}{lo:Int}{n:Nat}{chk:PH->Bool}{φ:Nat->Addr}{k:Nat}:AV K (wO lo n) (dB lo n) chk φ k H:=by
 intro bc ph2 H2 ba s2 hc j;unfold dB;refine⟨fun w fx=>?_,fun hn=>?_⟩
 ·rw[abY] at fx;have hj:j<n:=by
   by_cases hj:j<n
   ·exact hj
   ·rw[acZ (by simpa using hj)] at fx;cases fx
  rw[afq hj] at fx;cases fx;refine⟨hj,fun x gB hy=>?_⟩;obtain⟨rfl,rfl⟩:=hy;exact⟨ba,Step.refl,.int _⟩
 ·have:n<=j:=by simpa using hn
  exact this
theorem Tf{a:Expr}{m:AM}{p:Pos}(hg:Gl X "range")(hm:X.mg "range"=none)(ha:IA X [a] m)(hs:acM [a] X.env=[(false,eval a X.env)]:=by rfl):II X tg (.Call (.Name "range" p) [a] [] pos) (cD m):=by
 refine PI.imp (S8 hg hm ha hs) fun σ H R h=>?_
 obtain⟨φ,ph,ws,hH,hS,h⟩:=h;refine tA.bind hH hS h fun xs ph1 aB H1 vs aL s1 r1 h=>?_
 obtain⟨r,ph',e,k⟩:=run_lift h;unfold Al at e;split at e
 ·split at e
  ·rename_i hc;cases e;cases r1 with
   | cons r r'=>cases r;cases r';exact⟨_,rfl,hc.1,hc.2,k aB H1 _ aL s1 Ye⟩
  ·cases e
 ·cases e
noncomputable def dz(t:TM)(b:SM):Nat->SM
 | 0=>fun _=>dC
 | n+1=>fun σ=>au (t σ) fun c=>if c=true then au (b σ) fun f=>match f with
   | .nx ao=>dz t b n ao
   | .ct ao=>dz t b n ao
   | .bk ao=>ax (.nx ao)
   | .rt w=>ax (.rt w)
  else ax (.nx σ)
noncomputable def Out.jP{α:Type}:Out α->Bool
 | .no=>true
 | _=>false
open Classical in
noncomputable def iY(t:TM)(b:SM):SM:=fun σ ph=>if h:∃n,(dz t b n σ ph).jP=false then dz t b h.choose σ ph else .no
theorem Tg{D:Ends}{σ:L2.St}(h:tS X (iY t b) D σ H):FE (tT X t) (tS X b) D σ H:=by
 obtain⟨φ,ph,ws,hH,hS,h⟩:=h;have⟨n,h⟩:∃n,(dz t b n ws ph).Run (fun f ph'=>∀aq H',aN X.K aq ph' H'->Step X.K φ ph.length H aq ph'.length H'->nM X D aq ph' H' f) (XE X φ ph.length H):=by
  unfold iY at h;split at h
  ·exact⟨_,h⟩
  ·exact h.elim
 refine⟨fun m bY H2=>∃bc ph2 fK,aN X.K bc ph2 H2/\bh X.K bc ph2.length H2 fK bY /\
  (dz t b m fK ph2).Run (fun f ph'=>∀aq H',aN X.K aq ph' H'->Step X.K bc ph2.length H2 aq ph'.length H'->nM X D aq ph' H' f) (XE X bc ph2.length H2),⟨n,φ,ph,ws,hH,hS,h⟩,?_⟩
 rintro m bY H2 ⟨bc,ph2,fK,ba,j0,h2⟩;cases m with
 | zero=>exact h2.elim
 | succ m=>
  refine tT.bind ba j0 h2 fun c gX gf H3 f6 s3 h3=>?_
  cases c with
  | false=>exact lA (h3 gf H3 f6 s3 bY (j0.mono s3))
  | true=>
   have IW:(au (b fK) (fun f=>match f with
    | .nx ao=>dz t b m ao
    | .ct ao=>dz t b m ao
    | .bk ao=>ax (.nx ao)
    | .rt w=>ax (.rt w)) gX).Run _ _:=h3
   rw[cW] at IW;refine lB ⟨fun ao H'=>∃aq gp dn,aN X.K aq gp H'/\bh X.K aq gp.length H' dn ao /\
    (dz t b m dn gp).Run (fun f p'=>∀qH H4,aN X.K qH p' H4->Step X.K aq gp.length H' qH p'.length H4->nM X D qH p' H4 f) (XE X aq gp.length H'),fun ao H' q=>⟨m,adS _,q⟩,?_⟩
   refine⟨gf,gX,fK,f6,j0.mono s3,IW.mono (fun f oa h5 hX H5 gW s5=>?_) fun _ _ z=>z⟩;have kH:=s3.trans s5;cases f with
   | nx fL=>exact fun eN fN=>⟨hX,oa,fL,gW,fN,h5.mono (fun f p' k aq H' r' s'=>k aq H' r' (kH.trans s')) fun _ _ z=>z.step s5⟩
   | ct fL=>exact fun eN fN=>⟨hX,oa,fL,gW,fN,h5.mono (fun f p' k aq H' r' s'=>k aq H' r' (kH.trans s')) fun _ _ z=>z.step s5⟩
   | bk fL=>exact fun eN fN=>h5 hX H5 gW kH eN fN
   | rt w=>exact fun v hv=>h5 hX H5 gW kH v hv
theorem UE(hp:agH (model X.prog X.w) X.A X.env X.xe)(hc:IT X c t)(hb:iI X body b):IS X (.While c body [] pos) (iY t b):=
 PS.imp (Ux hp hc hb) fun _ _ _ h=>Tg h
end
noncomputable def ah:AM:=fun _=>ax []
noncomputable def ae(e:EM)(r:AM):AM:=fun σ=>au (e σ) fun w=>au (r σ) fun ws=>ax (w::ws)
noncomputable def kq(ws:List W):Po W:=fun ph=>if ws.length<=acv then some (.tup ws,ph) else none
noncomputable def r9(ws:List W):Po W:=fun ph=>if ws.length<=acv then some (.ref ph.length,ph++[.lst ws]) else none
noncomputable def bB(a:AM):EM:=fun σ=>au (a σ) fun ws=>lift (kq ws)
noncomputable def bI(a:AM):EM:=fun σ=>au (a σ) fun ws=>lift (r9 ws)
section
variable{X:Cx}{e:Expr}{es:List Expr}{m:EM}{a:AM}{pos:Pos}
theorem Yf:IA X [] ah:=PA.imp FH fun σ H Q h=>by
 obtain⟨φ,ph,ws,hH,hS,h⟩:=h;exact h φ H [] hH Step.refl .nil
theorem VQ(he:IE X e m)(hr:IA X es a)(hs:acM (e::es) X.env=(false,eval e X.env)::acM es X.env:=by rfl):IA X (e::es) (ae m a):=PA.imp (yS he hr hs) fun σ H Q h=>by
 obtain⟨φ,ph,ws,hH,hS,h⟩:=h;refine tM.bind hH hS h fun w ph1 aB H1 v aL s1 r1 h=>tA.bind aL (hS.mono s1) h fun ys ph2 bc H2 vs ba s2 r2 h=>?_
 exact h bc H2 _ ba (s1.trans s2) (.cons (r1.mono s2) r2)
theorem Yg{x1:Nat}(h:IA X es a):IE X (.Tuple es x1 pos) (bB a):=PE.imp (XJ h) fun σ H Q h=>by
 obtain⟨φ,ph,ws,hH,hS,h⟩:=h;refine tA.bind hH hS h fun xs ph1 aB H1 vs aL s1 r1 h=>?_
 obtain⟨w,ph',e,k⟩:=run_lift h;unfold kq at e;split at e
 ·rename_i hz;cases e;refine⟨by rw[<- r1.length];exact hz,fun p hp=>?_⟩;exact k aB _ _ (aL.tup hp) (s1.trans (kc hp)) (.tup bQ (r1.mono (kc hp)))
 ·cases e
theorem k5{K:abW}{φ:Nat->Addr}{ph:PH}{H:Hp}{p:Addr}{ws:List W}{vs:List V}(hH:aN K φ ph H)(r:a9 K φ ph.length H ws vs)(hp:H p=none) :
  aN K (ext φ ph.length p) (ph++[.lst ws]) (upd H p (.lst vs))/\Step K φ ph.length H (ext φ ph.length p) (ph++[PO.lst ws]).length (upd H p (.lst vs))/\aO K (ext φ ph.length p) (ph++[PO.lst ws]).length (upd H p (.lst vs)) (.ref ph.length) (.ref p):=by
 have hl:(ph++[PO.lst ws]).length=ph.length+1:=by simp
 rw[hl];have s:=yz (K:=K) (φ:=φ) (n:=ph.length) (o:=HO.lst vs) hp;refine⟨hH.new hp ⟨vs,bQ,r.mono s⟩,s,?_⟩;have q:aO K (ext φ ph.length p) (ph.length+1) (upd H p (.lst vs)) (.ref ph.length) (.ref (ext φ ph.length p ph.length)):=.ref (adS _);rw[lg] at q;exact q
theorem Yh(h:IA X es a):IE X (.List es pos) (bI a):=PE.imp (XM h) fun σ H Q h=>by
 obtain⟨φ,ph,ws,hH,hS,h⟩:=h;refine tA.bind hH hS h fun xs ph1 aB H1 vs aL s1 r1 h=>?_
 obtain⟨w,ph',e,k⟩:=run_lift h;unfold r9 at e;split at e
 ·rename_i hz;cases e;refine⟨by rw[<- r1.length];exact hz,fun p hp=>?_⟩;obtain⟨q1,q2,q3⟩:=k5 aL r1 hp;exact k _ _ _ q1 (s1.trans q2) q3
 ·cases e
end
noncomputable def aX(f:List W->Mo W)(a:AM):EM:=fun σ=>au (a σ) f
noncomputable def dS:Fl->Mo W
 | .rt w=>ax w
 | .nx _=>ax .aI
 | _=>dC
noncomputable def fM(body:SM)(n np:Nat)(args:List W):Mo W:=if args.length=np then au (body (args.map some++acf (n-args.length) none)) dS else dC
theorem b8{body:SM}{np:Nat}{xs:List W}(h:xs.length≠np):fM body n np xs ph=.no:=by
 unfold fM;rw[if_neg h];rfl
noncomputable def bp(P:adl)(w:World):lP:=fun l H s E e s'=>∃C H',Flew P w l H s C H' e s'/\E (.ref C) none H'
noncomputable def b7(K:abW)(mg:Str->Option Value)(np:Nat)(f:List W->Mo W):Sp:=fun vs H Q E=>vs.length=np/\∃φ ph args,aN K φ ph H/\a9 K φ ph.length H args vs/\(f args ph).Run (fun w ph'=>
 ∀aq H' v,aN K aq ph' H'->Step K φ ph.length H aq ph'.length H'->aO K aq ph'.length H' w v->Q v H') (fun x ph'=>
 ∀aq H' C,aN K aq ph' H'->Step K φ ph.length H aq ph'.length H'->mg x.cls=some (.ref C)->x.fs=[]->E (.ref C) none H')
section
variable{X:Cx}{k:Nat}{f:Addr}{fd:acP}{ps:List Str}{fm:List W->Mo W}{x:Str}{p pos:Pos}{e:Expr}{es:List Expr}{a:AM}
theorem VR{CX:lP}{sp:Sp}{E:XK}{pins:List (Addr×Obj)}{σ:L2.St}{H:Hp}{s:acb}{Q:VK}{us:List Value}{vs:List V}(F:bT X.prog X.w X.K X.mg X.base CX k f fd ps sp)(hr:cS k X.A)(hb:Binds X.K fd ps [])
  (I:Inv X pins σ H s) (r:Vals vs us) (h:sp vs H Q E) (hx:∀e s',CX X.stack H s E e s'->X.xe e s'):wpAny (model X.prog X.w) X.A (call (.ref f) us) (EP X pins σ Q) X.xe s:=by
 have hl:(us++[]).length=ps.length:=by rw[adp,<- r.length];exact F.len _ _ _ _ h
 have oe:=hb s us I.kA hl;rw[adp] at oe;refine wpAny_call (afg (F.run X.A X.stack s H ⟨us,[]⟩ us vs Q E hr I.HB oe r h) fun r s' hq=>?_);cases r with
 | error e=>exact hx e s' hq
 | ok fl=>
  cases fl with
  | ret u=>exact I.after hq
  | _=>exact aeu hq
theorem VS(F:bT X.prog X.w X.K X.mg X.base (bp X.prog X.w) k f fd ps (b7 X.K X.mg ps.length fm))(hl:∀{xs:List W} {ph:PH},xs.length≠ps.length->fm xs ph=.no)(hr:cS k X.A)(hg:Gl X x)(hm:X.mg x=some (.ref f))
  (hk:acn X.K (.ref f)=true) (hb:Binds X.K fd ps []) (ha:IA X (e::es) a) (dE:(x==("__debug__":Str))=false:=by decide) (he:acM (e::es) X.env=(false,eval e X.env)::acM es X.env:=by rfl) (gx:(afk pos (acM es X.env)).any (·.1)=false:=by rfl) :
  IE X (.Call (.Name x p) (e::es) [] pos) (aX fm a):=by
 intro pins s σ H Q I h;obtain⟨φ,ph,ws,hH,hS,h⟩:=h;have hA:tA X a σ H (fun vs H1=>∃aB ph1 xs,aN X.K aB ph1 H1/\a9 X.K aB ph1.length H1 xs vs/\(fm xs ph1).Run (fun w ph'=>∀aq H' v,aN X.K aq ph' H'->Step X.K aB ph1.length H1 aq ph'.length H'->aO X.K aq ph'.length H' w v->Q v H') (XE X aB ph1.length H1)):=
  tA.bind hH hS h fun xs ph1 aB H1 vs aL s1 r1 h=>⟨aB,ph1,xs,aL,r1,h.mono (fun w ph' k aq H' v r' s' q=>k aq H' v r' (s1.trans s') q) fun _ _ z=>z⟩
 refine aeh (EG I hg hm (agK (h₀:=X.base) I.ok.mod.qh hk (a7 (ha pos pins s σ H _ I hA) fun us s1 ⟨vs,H1,I1,r,q⟩=>⟨I1.kA,?_⟩) he gx) dE);obtain⟨aB,ph1,xs,aL,r1,h1⟩:=q;have cL:vs.length=ps.length:=by
  rw[<- r1.length];by_cases z:xs.length=ps.length
  ·exact z
  ·rw[hl z] at h1;exact h1.elim
 refine VR (E:=fun c _ H'=>∃x ph' aq,fm xs ph1=.ex x ph'/\aN X.K aq ph' H'/\Step X.K aB ph1.length H1 aq ph'.length H'/\∃C,c=.ref C/\X.mg x.cls=some (.ref C)/\x.fs=[]) F hr hb I1 r ⟨cL,aB,ph1,xs,aL,r1,?_⟩ fun e s' hx=>?_
 ·cases q:fm xs ph1 with
  | ok w ph'=>rw[q] at h1;exact h1
  | ex x ph'=>exact fun aq H' C hr hs hm hf=>⟨x,ph',aq,rfl,hr,hs,C,rfl,hm,hf⟩
  | no=>rw[q] at h1;exact h1
 ·obtain⟨C,H',wW,x,ph',aq,ef,lQ,hs',C',ec,hm',hf'⟩:=hx;cases ec;rw[ef] at h1;exact h1 aq H' e s' lQ hs' ⟨C,hm',hf',.inr ⟨pins,σ,H1,s1,I1,wW⟩⟩
end
section
variable{P:adl}{w:World}{K:abW}{mg:Str->Option Value}{base:Heap}
variable{H':Hp}
theorem VT{h:Heap}{fr:List Addr}(aG:cj P w H' h)(hf:∀b∈fr,H' b=none):cj P w H' (age h fr):=fun a o e=>by
 refine(aG a o e).ir (fun b u hb q=>aeI _ q fun hm=>?_) (fun _ q=>q) fun _ _ q=>q
 have:=hf b hm
 rcases hb with z | z
 ·rw[z,e] at this;cases this
 ·rw[z] at this;cases this
theorem vm{env:Env}{l:List Env}(hf:env.frame=some env.locals):dZ (env::l)=env.locals::dZ l:=by
 unfold dZ;rw[aeJ,hf]
theorem Dm{X:Cx}{C:Addr}{e:Value}{s':acb}{E:Value->acb->Prop}(d5:X.stack=X.env::X.outer)(hf:X.env.frame=some X.env.locals)(hex:X.ex=[])(hm:Made X C H' e s') :
  wpAny (model X.prog X.w) X.A (leaving X.env e) (fun _ fu=>Flew X.prog X.w X.outer X.aR X.aK C H' e fu) E s':=by
 obtain⟨pins,σ,s,vs,h',a,rfl,rfl,I,hx⟩:=hm;have sf:=I.vG;have hl:=I.stack;rw[d5] at sf hl;have hin:∀env∈X.env::X.outer,∀b,env.frame=some b->b∈dZ (X.env::X.outer):=fun env he b hb=>afx.mpr ⟨env,he,hb⟩
 have iK:∀b:Addr,b∉X.ex:=fun b z=>by rw[hex] at z;exact nomatch z
 have out:∀b o,X.aK.heap.get? b=some o->b∉X.fs->b∉dZ (X.env::X.outer):=fun b o e hb hm=>by
  rw[vm hf] at hm
  rcases acD.mp hm with z | z
  ·exact absurd (aca (acj e) I.ok.above) (by rw[z];exact adJ _)
  ·exact hb z
 refine wpAny_leaves_madeW (base:=age s.heap (dZ (X.env::X.outer))) (h:=s.heap) (by rw[I.ok.frames,d5]) hf (fun b o q=>agG _ q) (PySem.W.funFrames_hide hl hin) hx fun h'' t f1 f2 f3 f4=>?_
 refine⟨a,.ref t,_,rfl,I.os,I.bare,f1,VT I.aG sf,⟨fun b o e n hb=>aeI _ (I.base.keep b o e n hb (iK b)) (out b o e hb),fun b o e n hb=>?_,fun b o e n=>I.base.free b o e n (iK b),fun b o e hb=>?_,I.base.fk,I.base.er,I.base.fq⟩⟩
 ·obtain⟨sl,e1⟩:=I.base.slot b o e n hb (iK b);obtain⟨_,o',ho,hd⟩:=I.ok.fF.mem hb;rw[e] at ho;cases ho;obtain⟨nZ,e2⟩:=f4 b _ (hx.keeps b _ e1) hd;exact⟨nZ,e2⟩
 ·obtain⟨o',e1⟩:=I.base.there b o e (iK b);exact⟨o',aeI _ e1 (out b o e hb)⟩
theorem Dn{X:Cx}{C:Addr}{H0:Hp}{e:Value}{s s':acb}{pins:List (Addr×Obj)}{σ:L2.St}{E:Value->acb->Prop}(d5:X.stack=X.env::X.outer)(hf:X.env.frame=some X.env.locals)(hex:X.ex=[])(I:Inv X pins σ H0 s)
  (hm:Flew X.prog X.w X.stack H0 s C H' e s'):wpAny (model X.prog X.w) X.A (leaving X.env e) (fun _ fu=>Flew X.prog X.w X.outer X.aR X.aK C H' e fu) E s':=by
 obtain⟨a,a0,B,rfl,ho,ZY,wW,aG,u⟩:=hm;rw[d5] at wW u;have iK:∀b:Addr,b∉X.ex:=fun b z=>by rw[hex] at z;exact nomatch z
 have out:∀b o,X.aK.heap.get? b=some o->b∉X.fs->b∉dZ (X.env::X.outer):=fun b o e hb hm=>by
  rw[vm hf] at hm
  rcases acD.mp hm with z | z
  ·exact absurd (aca (acj e) I.ok.above) (by rw[z];exact adJ _)
  ·exact hb z
 refine wpAny_leaves_onW (by rw[I.ok.frames,d5]) hf wW fun h'' f1 f4=>?_
 refine⟨a,a0,B,rfl,ho.trans I.os,ZY,f1,aG,⟨fun b o e n hb=>u.keep b o (I.base.keep b o e n hb (iK b)) (I.base.free b o e n (iK b)) (out b o e hb),fun b o e n hb=>?_,fun b o e n=>?_,fun b o e hb=>?_,
  fun b xs e=>u.fk b xs (I.base.fk b xs e),fun b ob xs e=>u.er b ob xs (I.base.er b ob xs e),fun b ps e=>?_⟩⟩
 ·obtain⟨sl,e1⟩:=I.base.slot b o e n hb (iK b);obtain⟨_,o',eB,hd⟩:=I.ok.fF.mem hb;rw[e] at eB;cases eB;obtain⟨nZ,e2⟩:=u.slot b _ e1 (I.base.free b o e n (iK b)) (by rw[vm hf];exact acH _ hb);obtain⟨sl3,e3⟩:=f4 b _ e2 hd;exact⟨sl3,e3⟩
 ·obtain⟨o',e1⟩:=I.base.there b o e (iK b);exact u.free b o' e1 (I.base.free b o e n (iK b))
 ·obtain⟨o',e1⟩:=I.base.there b o e (iK b);exact u.there b o' e1 (out b o e hb)
 ·obtain⟨m1,e1⟩:=I.base.fq b ps e;obtain⟨m2,e2⟩:=u.fq b _ e1;exact⟨m1++m2,by rw[e2,afw]⟩
theorem Yi{x qual:Str}{st:Stmt}{f:Addr}{fd:acP}{N ps:List Str}{k:Nat}{body:SM}(F:cm K x qual st f fd)(S:cu N ps (af st))
  (kh:∀(bG:Value) (A:aeg) (outer:List Env) (s:acb) (H:Hp) (E:XK),cS k (A.deeper (aeB qual (af st) s.heap.objs.size f bG)) →
   iI (dJ (bp P w) P w K mg base N qual (af st) f bG A outer s H E) (aY st) body):bT P w K mg base (bp P w) (k+1) f fd ps (b7 K mg ps.length (fM body N.length ps.length)):=by
 obtain⟨oc,od,kV,doc,pm,an,bG,ct,fX,rfl,lk,hcd⟩:=F.ex;refine ZO lk hcd S (fun vs H Q E h=>h.1) fun A outer s H vs Q E hr h=>?_
 obtain⟨hl,φ,ph,args,hH,ra,h⟩:=h;refine⟨_,kh bG A outer s H E hr,?_⟩;have sC:args.length=vs.length:=ra.length;unfold fM at h;rw[if_pos (sC.trans hl),cW,sC] at h;refine⟨φ,ph,_,hH,bh.start (N.length-vs.length) ra,h.mono (fun fl ph' h aB H1 aL s1=>?_) fun x ph' h aq H' e s' r' d6 th=>?_⟩
 ·cases fl with
  | rt w=>exact fun v rv=>h aB H1 v aL s1 rv
  | nx ao=>exact fun σ1 iJ=>h aB H1 .aI aL s1 .aI
  | bk ao=>exact h.elim
  | ct ao=>exact h.elim
 ·obtain⟨C,hm,AX,th⟩:=th;have hE:=h aq H' C r' d6 hm AX;have key:wpAny (model P w) (A.deeper (aeB qual (af st) s.heap.objs.size f bG)) (leaving (aeB qual (af st) s.heap.objs.size f bG) e) (fun _ fu=>Flew P w outer H s C H' e fu) (fun e' fu=>bp P w outer H s E e' fu) s':=by
   rcases th with th | ⟨pins,σ,H0,s0,I0,th⟩
   ·exact Dm (X:=dJ (bp P w) P w K mg base N qual (af st) f bG A outer s H E) rfl rfl rfl th
   ·exact Dn (X:=dJ (bp P w) P w K mg base N qual (af st) f bG A outer s H E) rfl rfl rfl I0 th
  exact adm key (fun _ fu q=>⟨C,H',q,hE⟩) fun _ _ q=>q
end
theorem EL{K:abW}{φ:Nat->Addr}{n:Nat}{H:Hp}:∀(ns:List Int),a9 K φ n H (ns.map W.int) (ns.map V.int)
 | []=>.nil
 | n::ns=>.cons (.int n) (EL ns)
theorem bJ.or{f:Value->Value->Sem Value}{r r':R2}(h:bJ X f r)(h':bJ X f r'):bJ X f (fun x y H Q=>r x y H Q\/r' x y H Q):=by
 intro pins s σ H x y v u Q I rx ry q
 rcases q with q | q
 ·exact h pins s σ H x y v u Q I rx ry q
 ·exact h' pins s σ H x y v u Q I rx ry q
noncomputable def cT(w:W)(ph:PH):Option (List W):=match w with
 | .tup ws=>some ws
 | .fl ws=>some ws
 | .ref i=>match ph[i]? with
  | some (.lst ws)=>some ws
  | _=>none
 | _=>none
variable{v:V}{ws:List W}
theorem yA{w:W}(hH:aN K φ ph H)(r:aO K φ ph.length H w v)(e:cT w ph=some ws) :
  ∃a vs,v=.ref a/\(bP K H a vs\/cN K H a vs)/\a9 K φ ph.length H ws vs:=by
 unfold cT at e;cases r with
 | tup h r=>cases e;exact⟨_,_,rfl,.inr (cN.of h),r⟩
 | fl h r=>cases e;exact⟨_,_,rfl,.inl h.sq,r⟩
 | ref hi=>
  simp only at e;split at e
  ·rename_i dn hw;cases e;obtain⟨vs,hv,r⟩:=hH.hp _ _ hw;exact⟨_,vs,rfl,.inl (bP.of hv),r⟩
  ·cases e
 | _=>cases e
theorem EN{vs:List V}{i:Int}{w:W}(r:a9 K φ n H ws vs)(e:ck ws i=some w):∃v,ck vs i=some v/\aO K φ n H w v:=by
 unfold ck at e ⊢;rw[r.length] at e;cases q:gy vs.length i with
 | none=>rw[q] at e;cases e
 | some j=>
  rw[q] at e;exact r.get e
noncomputable def eD:W->W->Po W:=fun x y ph=>match y with
 | .int i=>match x with
  | .str z=>if z.length<=acv then(ck z.cps.toList i).map fun c=>(.str ⟨#[c]⟩,ph) else none
  | x=>(cT x ph).bind fun ws=>(ck ws i).map fun w=>(w,ph)
 | _=>none
theorem ZZ : c5 K (AO K) eD := by
  intro φ ph H x y vx vy w ph' Q hH rx ry e k;unfold eD at e;cases ry with
  | int i =>
    cases rx with
    | str z =>
      simp only at e;split at e
      · rename_i hz
        cases q : ck z.cps.toList i with
        | none => rw [q] at e; cases e
        | some c =>
          rw [q] at e;cases e;exact .inr (.inr ⟨z, i, c, rfl, rfl, hz, q, k φ H _ hH Step.refl (.str _)⟩)
      · cases e
    | _ =>
      all_goals
        first
          | (cases e; done)
          | (rename_i h r
             simp only [cT, Option.bind] at e;cases q : ck _ i with
             | none => rw [q] at e; cases e
             | some c =>
               rw [q] at e;cases e;obtain ⟨v, ev, rv⟩ := EN r q
               first
                 | exact .inr (.inl ⟨_, _, i, v, rfl, rfl, cN.of h, ev, k φ H _ hH Step.refl rv⟩)
                 | exact .inl ⟨_, _, i, v, rfl, rfl, h.sq, ev, k φ H _ hH Step.refl rv⟩)
          | (rename_i hi
             simp only [cT] at e;split at e
             · rename_i dn hw
               simp only [Option.bind] at e;cases q : ck dn i with
               | none => rw [q] at e; cases e
               | some c =>
                 rw [q] at e;cases e;obtain ⟨vs, hv, r⟩ := hH.hp _ _ hw;obtain ⟨v, ev, rv⟩ := EN r q;exact .inl ⟨_, _, i, v, rfl, rfl, bP.of hv, ev, k φ H _ hH Step.refl rv⟩
             · cases e)
  | _ => cases e
noncomputable def gP(K:abW)(r:List V->Hp->VK->Prop)(f:List W->Po W):Prop:=∀{φ:Nat->Addr} {ph:PH} {H:Hp} {xs:List W} {vs:List V} {w:W} {ph':PH} {Q:VK},aN K φ ph H->a9 K φ ph.length H xs vs->f xs ph=some (w,ph') →
 (∀aq H' v,aN K aq ph' H'->Step K φ ph.length H aq ph'.length H'->aO K aq ph'.length H' w v->Q v H')->r vs H Q
noncomputable def bv(f:List W->Po W)(a:AM):EM:=fun σ=>au (a σ) fun xs=>lift (f xs)
section
variable{X:Cx}{x:Str}{p pos:Pos}{e:Expr}{es:List Expr}{t:AM}{id T:String}{r:List V->Hp->VK->Prop}{f:List W->Po W}
theorem D8(hi:gP X.K r f){σ:L2.St}{H:Hp}{Q:VK}(h:tM X (bv f t) σ H Q):AN r (tA X t) σ H Q:=by
 obtain⟨φ,ph,ws,hH,hS,h⟩:=h;refine tA.bind hH hS h fun xs ph1 aB H1 vs aL s1 r1 h=>?_
 obtain⟨w,ph',e,k⟩:=run_lift h;exact hi aL r1 e fun bc H2 v ba s2 r2=>k bc H2 v ba (s1.trans s2) r2
theorem UG(hc:c9 X (.builtin id) r)(hi:gP X.K r f)(hg:Gl X x)(hm:X.mg x=none)(hv:adD x=some (.builtin id))(ha:IA X (e::es) t)(hn:x≠"__name__":=by decide)(dE:(x==("__debug__":Str))=false:=by decide)
  (he:acM (e::es) X.env=(false,eval e X.env)::acM es X.env:=by rfl) (gx:(afk pos (acM es X.env)).any (·.1)=false:=by rfl):IE X (.Call (.Name x p) (e::es) [] pos) (bv f t):=
 PE.imp (UA hc hg hm hv ha hn dE he gx) fun _ _ _ h=>D8 hi h
theorem Th(hc:c9 X (.type T) r)(hi:gP X.K r f)(hg:Gl X x)(hm:X.mg x=none)(hv:adD x=some (.type T))(ha:IA X (e::es) t)(hn:x≠"__name__":=by decide)(dE:(x==("__debug__":Str))=false:=by decide)
  (he:acM (e::es) X.env=(false,eval e X.env)::acM es X.env:=by rfl) (gx:(afk pos (acM es X.env)).any (·.1)=false:=by rfl):IE X (.Call (.Name x p) (e::es) [] pos) (bv f t):=
 PE.imp (Ta hc hg hm hv ha hn dE he gx) fun _ _ _ h=>D8 hi h
end
theorem c9.or{f:Value}{r r':List V->Hp->VK->Prop}(h:c9 X f r)(h':c9 X f r'):c9 X f (fun xs H Q=>r xs H Q\/r' xs H Q):=by
 intro pins s σ H xs us Q I rx q
 rcases q with q | q
 ·exact h pins s σ H xs us Q I rx q
 ·exact h' pins s σ H xs us Q I rx q
noncomputable def cc:List W->Po W:=fun xs ph=>match xs with
 | [.str z]=>if z.length<=acv then some (.int z.length,ph) else none
 | [w]=>(cT w ph).map fun ws=>(.int ws.length,ph)
 | _=>none
abbrev HI(K:abW):List V->Hp->VK->Prop:=fun xs H Q=>(∃p ys,xs=[.ref p]/\(bP K H p ys\/cN K H p ys)/\Q (.int ys.length) H)\/(∃z,xs=[.str z]/\z.length<=acv/\Q (.int z.length) H)
theorem iZ:gP K (HI K) cc:=by
 intro φ ph H xs vs w ph' Q hH r e k;unfold cc at e;split at e
 ·split at e
  ·rename_i hz;cases e;cases r with
   | cons r r'=>cases r;cases r';exact .inr ⟨_,rfl,hz,k φ H _ hH Step.refl (.int _)⟩
  ·cases e
 ·rename_i w0 fO;cases r with
  | cons r r'=>
   cases r';cases q:cT w0 ph with
   | none=>rw[q] at e;cases e
   | some ws=>
    rw[q] at e;cases e;obtain⟨a,ys,rfl,hs,rs⟩:=yA hH r q;exact .inl ⟨a,ys,rfl,hs,by rw[<- rs.length];exact k φ H _ hH Step.refl (.int _)⟩
 ·cases e
theorem iU:c9 X (.builtin "len") (HI X.K):=c9.or Q5 Q6
noncomputable def lR(K:abW)(T:String)(r:V->List V->Hp->VK->Prop)(f:W->List W->Po W):Prop:=∀{φ:Nat->Addr} {ph:PH} {H:Hp} {x:W} {xs:List W} {vx:V} {vs:List V} {w:W} {ph':PH} {Q:VK},
 aN K φ ph H->aO K φ ph.length H x vx->a9 K φ ph.length H xs vs->f x xs ph=some (w,ph') →
 (∀aq H' v,aN K aq ph' H'->Step K φ ph.length H aq ph'.length H'->aO K aq ph'.length H' w v->Q v H')->r vx vs H Q
noncomputable def qt(K:abW)(T:String)(ty:W->PH->Bool):Prop:=∀{φ:Nat->Addr} {ph:PH} {H:Hp} {x:W} {vx:V},aN K φ ph H->aO K φ ph.length H x vx->ty x ph=true->AQ K T vx H
noncomputable def jQ(b:PH->Bool):Po Unit:=fun ph=>if b ph=true then some ((),ph) else none
noncomputable def bR(ty:W->PH->Bool)(f:W->List W->Po W)(o:EM)(a:AM):EM:=fun σ=>au (o σ) fun x=>au (lift (jQ (ty x))) fun _=>au (a σ) fun xs=>lift (f x xs)
noncomputable def b9(w:W)(ph:PH):Bool:=match w with
 | .ref i=>match ph[i]? with
  | some (.lst _)=>true
  | _=>false
 | .fl _=>true
 | _=>false
theorem gm:qt K "list" b9:=by
 intro φ ph H x vx hH rx e;unfold b9 at e;cases rx with
 | ref hi=>
  simp only at e;split at e
  ·rename_i dn hw;obtain⟨vs,hv,r⟩:=hH.hp _ _ hw;exact .inl ⟨rfl,vs,bP.of hv⟩
  ·cases e
 | fl h r=>exact .inl ⟨rfl,_,h.sq⟩
 | _=>cases e
section
variable{X:Cx}{o e:Expr}{es:List Expr}{mo:EM}{t:AM}{name:Str}{apos eV:Pos}{T id:String}{r:V->List V->Hp->VK->Prop}{ty:W->PH->Bool}{f:W->List W->Po W}
theorem UH(ht:qt X.K T ty)(hi:lR X.K T r f){σ:L2.St}{H:Hp}{Q:VK}(h:tM X (bR ty f mo t) σ H Q):IQ X.K T r (tM X mo) (tA X t) σ H Q:=by
 obtain⟨φ,ph,ws,hH,hS,h⟩:=h;refine tM.bind hH hS h fun x ph1 aB H1 v aL s1 r1 h=>?_
 rw[cW] at h;obtain⟨_,ph2,e2,h⟩:=run_lift h;unfold jQ at e2;split at e2
 ·rename_i hy;cases e2;refine⟨ht aL r1 hy,tA.bind aL (hS.mono s1) h fun xs ph2 bc H2 vs ba s2 r2 h=>?_⟩;obtain⟨w,ph',e,k⟩:=run_lift h;exact hi ba (r1.mono s2) r2 e fun gf H3 v f6 s3 r3=>k gf H3 v f6 ((s1.trans s2).trans s3) r3
 ·cases e2
theorem Z0(pa:agP T)(slot:Slot T name id)(n6:typeOf (.builtin id)=pure (.type "method_descriptor"))(hm:qp X id r)(ht:qt X.K T ty)(hi:lR X.K T r f)(ho:IE X o mo)(ha:IA X (e::es) t)
  (nB:afP o name X.env (eval o X.env)=eval o X.env:=by rfl)
  (Ag:((afk eV (acM (e::es) X.env)).all (fun x=> !x.1)&&(backToKw eV (keywordEach [] X.env)).all (fun x=>x.1.isSome)
   && decide ((e::es).length+([]:List Keyword).length+(if([]:List Keyword).isEmpty then 0 else 1)<30))=true:=by rfl)
  (nC:(apos.endLine==eV.line)=true:=by rfl) (hs:acM (e::es) X.env=(false,eval e X.env)::acM es X.env:=by rfl) (ze:(afk eV (acM es X.env)).any (·.1)=false:=by rfl) :
  IE X (.Call (.Attribute o name apos) (e::es) [] eV) (bR ty f mo t):=
 PE.imp (ZR pa slot n6 hm ho ha nB Ag nC hs ze) fun _ _ _ h=>UH ht hi h
end
variable{i:Nat}
theorem vn{og:List W}{vs:List V}(hH:aN K φ ph H)(hi:ph[i]? =some (.lst og))(r:a9 K φ ph.length H ws vs) :
  aN K φ (ph.set i (.lst ws)) (upd H (φ i) (.lst vs))/\Step K φ ph.length H φ (ph.set i (.lst ws)).length (upd H (φ i) (.lst vs)):=by
 obtain⟨y,ey,my⟩:=hH.mu hi rfl;have s:=oZ (K:=K) (φ:=φ) (n:=ph.length) (y:=HO.lst vs) ey my;rw[adq];exact⟨hH.put hi rfl ⟨vs,bQ,r.mono s⟩,s⟩
noncomputable def dt:W->List W->Po W:=fun x xs ph=>match x,xs with
 | .ref i,[y]=>match ph[i]? with
  | some (.lst ws)=>if ws.length<acv then some (.aI,ph.set i (.lst (ws++[y]))) else none
  | _=>none
 | _,_=>none
theorem jE:lR K "list" EI dt:=by
 intro φ ph H x xs vx vs w ph' Q hH rx rs e k;unfold dt at e;split at e
 ·rename_i i y;split at e
  ·rename_i ws hw;split at e
   ·rename_i hz;cases e;cases rx with
    | ref hi=>
     cases rs with
     | cons ry rr=>
      cases rr;obtain⟨us,hv,r⟩:=hH.hp _ _ hw;obtain⟨q1,q2⟩:=vn hH hw (r.append (.cons ry .nil));exact⟨_,us,_,rfl,rfl,hv,by rw[<- r.length];exact hz,k φ _ _ q1 q2 .aI⟩
   ·cases e
  ·cases e
 ·cases e
noncomputable def eW:W->Po W:=fun x=>match x with
 | .int i=>ret (.int (-i))
 | _=>fG
theorem Yj:IV K (rU fun i=>.int (-i)) eW:=by
 intro φ ph H x vx w ph' Q hH rx e k;unfold eW at e;split at e
 ·cases e;cases rx;exact⟨_,rfl,k φ H _ hH Step.refl (.int _)⟩
 ·cases e
noncomputable def fU:W->W->Po W:=qr fun i j=>i-j
theorem Yk:c5 K (jm fun i j=>.int (i-j)) fU:=ZU
noncomputable def bC:W->W->Po W:=pS (fun _ j=>decide (j≠0)) fun i j=>i.fmod j
theorem Yl:c5 K (rI (fun _ j=>j≠0) fun i j=>.int (i.fmod j)) bC:=FJ fun i j h=>by simpa using h
noncomputable def GJ(i j:Int):Prop:=j≠0/\j.natAbs<2 ^ 64
theorem UI:bJ X (aeG .FloorDiv) (rI GJ fun i j=>.int (i.fdiv j)):=AK fun i j _ _ _ _ _ hc q=>floordiv_int hc.1 q (.inl (PyProof.noPylong_of_log2 (by
 have h0:j.natAbs≠0:=by have:=hc.1;omega
 have:=(Nat.log2_lt h0).mpr hc.2;omega)))
noncomputable def cy:W->W->Po W:=pS (fun _ j=>decide (j≠0)&&decide (j.natAbs<2 ^ 64)) fun i j=>i.fdiv j
theorem Ym:c5 K (rI GJ fun i j=>.int (i.fdiv j)) cy:=FJ fun i j h=>by
 rw[aco] at h;exact⟨of_decide_eq_true h.1,of_decide_eq_true h.2⟩
noncomputable def gC:W->W->Po W:=pT fun i j=>decide (i<j)
noncomputable def sD:W->W->Po W:=pT fun i j=>decide (i<=j)
noncomputable def gY:W->W->Po W:=pT fun i j=>decide (j<i)
noncomputable def geW:W->W->Po W:=pT fun i j=>decide (j<=i)
noncomputable def mulC(i j:Int):Bool:=(decide (-(2 ^ 64)<i)&&decide (i<2 ^ 64))||(decide (-(2 ^ 64)<j)&&decide (j<2 ^ 64))
noncomputable def pV:W->W->Po W:=fun x y=>match x,y with
 | .int i,.int j=>if mulC i j=true then ret (.int (i*j)) else fG
 | _,_=>fG
theorem Yn:c5 K (rI rW fun i j=>.int (i*j)) pV:=by
 intro φ ph H x y vx vy w ph' Q hH rx ry e k;unfold pV at e;split at e
 ·split at e
  ·rename_i hc;cases e;cases rx;cases ry;refine⟨_,_,rfl,rfl,?_,k φ H _ hH Step.refl (.int _)⟩;unfold mulC at hc;simp only[adE,aco,decide_eq_true_eq] at hc;exact hc
  ·cases e
 ·cases e
noncomputable def addW:W->W->Po W:=fun x y ph=>match x,y with
 | .int i,.int j=>some (.int (i+j),ph)
 | .str i,.str j=>if i.length+j.length<=acv then some (.str (i++j),ph) else none
 | .ref a,.ref b=>match ph[a]?,ph[b]? with
  | some (.lst xs),some (.lst ys)=>if xs.length+ys.length<=acv then some (.ref ph.length,ph++[.lst (xs++ys)]) else none
  | _,_=>none
 | .tup xs,.tup ys=>if xs≠[]/\xs.length+ys.length<=acv then some (.tup (xs++ys),ph) else none
 | _,_=>none
abbrev GK(K:abW):R2:=fun x y H Q=>((jm fun i j=>.int (i+j)) x y H Q\/∃i j,x=.str i/\y=.str j/\i.length+j.length<=acv/\Q (.str (i++j)) H)\/(HG x y H Q\/GH K x y H Q)
theorem VU:bJ X (aeG .Add) (GK X.K):=bJ.or (bJ.or XD Sq) (bJ.or XU VG)
theorem Yo:c5 K (GK K) addW:=by
 intro φ ph H x y vx vy w ph' Q hH rx ry e k;unfold addW at e;split at e
 ·cases e;cases rx;cases ry;exact .inl (.inl ⟨_,_,rfl,rfl,k φ H _ hH Step.refl (.int _)⟩)
 ·split at e
  ·rename_i hz;cases e;cases rx;cases ry;exact .inl (.inr ⟨_,_,rfl,rfl,hz,k φ H _ hH Step.refl (.str _)⟩)
  ·cases e
 ·split at e
  ·rename_i xs ys hx hy;split at e
   ·rename_i hz;cases e;cases rx;cases ry;obtain⟨us,hu,ru⟩:=hH.hp _ _ hx;obtain⟨vs,hv,rv⟩:=hH.hp _ _ hy;refine .inr (.inl ⟨_,_,us,vs,rfl,rfl,hu,hv,by rw[<- ru.length,<- rv.length];exact hz,fun p hp=>?_⟩);obtain⟨q1,q2,q3⟩:=k5 hH (ru.append rv) hp;exact k _ _ _ q1 q2 q3
   ·cases e
  ·cases e
 ·split at e
  ·rename_i xs ys hz;cases e;cases rx with
   | tup hx rx=>
    cases ry with
    | tup hy ry=>
     rename_i a us b vs;refine .inr (.inr ⟨a,b,us,vs,rfl,rfl,cN.of hx,cN.of hy,?_,by rw[<- rx.length,<- ry.length];exact hz.2,fun he=>?_,fun hn p hp=>?_⟩)
     ·rintro rfl;cases rx;exact hz.1 rfl
     ·subst he;cases ry;refine k φ H _ hH Step.refl ?_;rw[adp];exact .tup hx rx
     ·exact k φ _ _ (hH.tup hp) (kc hp) (.tup bQ ((rx.append ry).mono (kc hp)))
  ·cases e
 ·cases e
noncomputable def iy:W->W->Po W:=fun x y=>match y with
 | .aI=>ret (.bl (decide (x=.aI)))
 | _=>fG
noncomputable def lr:W->W->Po W:=fun x y=>match y with
 | .aI=>ret (.bl (!decide (x=.aI)))
 | _=>fG
theorem EO{x:W}(r:aO K φ n H x v):decide (x=.aI)=decide (v=.aI):=by
 cases r <;> simp
theorem Yp:c5 K (fun x y H Q=>y=.aI/\Q (.bl (decide (x=.aI))) H) iy:=by
 intro φ ph H x y vx vy w ph' Q hH rx ry e k;unfold iy at e;split at e
 ·cases e;cases ry;exact⟨rfl,by rw[<- EO rx];exact k φ H _ hH Step.refl (.bl _)⟩
 ·cases e
theorem VV:c5 K (fun x y H Q=>y=.aI/\Q (.bl (!decide (x=.aI))) H) lr:=by
 intro φ ph H x y vx vy w ph' Q hH rx ry e k;unfold lr at e;split at e
 ·cases e;cases ry;exact⟨rfl,by rw[<- EO rx];exact k φ H _ hH Step.refl (.bl _)⟩
 ·cases e
noncomputable def iz:List W->Po W:=fun xs=>match xs with
 | [.int i]=>ret (.int i)
 | [.bl b]=>ret (.int (if b then 1 else 0))
 | _=>fG
theorem vP:gP K (fun xs H Q=>(∃i,xs=[.int i]/\Q (.int i) H)\/∃k,xs=[.bl k]/\Q (.int (if k then 1 else 0)) H) iz:=by
 intro φ ph H xs vs w ph' Q hH r e k;unfold iz at e;split at e
 ·cases e;cases r with
  | cons r r'=>cases r;cases r';exact .inl ⟨_,rfl,k φ H _ hH Step.refl (.int _)⟩
 ·cases e;cases r with
  | cons r r'=>cases r;cases r';exact .inr ⟨_,rfl,k φ H _ hH Step.refl (.int _)⟩
 ·cases e
noncomputable def aa5:List W->Po W:=fun xs=>match xs with
 | [.int i]=>ret (.int (if i<0 then -i else i))
 | _=>fG
noncomputable def GL(w:W)(ph:PH):Option String:=match w with
 | .aI=>some "NoneType"
 | .bl _=>some "bool"
 | .int _=>some "int"
 | .str _=>some "str"
 | .tup _=>some "tuple"
 | .fl _=>some "list"
 | .ref i=>match ph[i]? with
  | some (.lst _)=>some "list"
  | some (.aD _)=>some "dict"
  | _=>none
 | .exc .. =>none
 | .fn .. =>none
noncomputable def fH(t c:String):Bool:=t==c||(t=="bool"&&c=="int")
noncomputable def kJ(c:String)(w:W):Po W:=fun ph=>match GL w ph with
 | some t=>some (.bl (fH t c),ph)
 | none=>none
noncomputable def eIs(c:String)(m:EM):EM:=fun σ=>au (m σ) fun w=>lift (kJ c w)
noncomputable def bD{α β:Type}(f:α->Option β):List α->Option (List β)
 | []=>some []
 | a::as=>match f a,bD f as with
  | some b,some bs=>some (b::bs)
  | _,_=>none
noncomputable def dat(ph:PH):Nat->W->Option aeC
 | _,.aI=>some .none
 | _,.bl b=>some (.bool b)
 | _,.int i=>some (.int i)
 | _,.str x=>if aeM x=true then some (.str x) else none
 | n+1,.tup ws=>(bD (dat ph n) ws).map .tuple
 | n+1,.fl ws=>(bD (dat ph n) ws).map .list
 | n+1,.ref i=>match ph[i]? with
  | some (.lst ws)=>(bD (dat ph n) ws).map .list
  | _=>none
 | _,_=>none
section
variable{X:Cx}{pins:List (Addr×Obj)}{σ:L2.St}{H:Hp}{s:acb}{φ:Nat->Addr}{ph:PH}
noncomputable def lS(s:acb)(n:Nat)(u:Value)(d:aeC):Prop:=(∃as,Reads s.heap u d as)/\d.canLay0=true/\d.depth<=n
theorem yc{n:Nat}(ih:∀{w:W} {v:V} {u:Value} {d:aeC},aO X.K φ ph.length H w v->RelV v u->dat ph n w=some d->lS s n u d) :
  ∀{ws:List W} {vs:List V} {us:List Value} {ds:List aeC},a9 X.K φ ph.length H ws vs->Vals vs us->bD (dat ph n) ws=some ds →
   (∃as,ReadsAll s.heap us ds as)/\agR ds=true/\PyData.depthAll ds<=n
 | _,_,_,_,.nil,.nil,e=>by cases e;exact⟨⟨_,.nil⟩,rfl,adI _⟩
 | w::ws,_,_,ds,.cons h r,.cons hv rv,e=>by
  unfold bD at e;split at e
  ·rename_i b bs e1 e2;cases e;obtain⟨⟨as,r1⟩,c1,d1⟩:=ih h hv e1;obtain⟨⟨bs',r2⟩,c2,d2⟩:=yc ih r rv e2;refine⟨⟨_,.cons r1 r2⟩,?_,?_⟩
   ·simp only[agR,c1,c2,agL]
   ·simp only[PyData.depthAll];omega
  ·cases e
theorem kZ(I:Inv X pins σ H s)(hH:aN X.K φ ph H):∀(n:Nat) {w:W} {v:V} {u:Value} {d:aeC},aO X.K φ ph.length H w v->RelV v u->dat ph n w=some d->lS s n u d:=by
 have Am:∀(n:Nat) (ih:∀{w:W} {v:V} {u:Value} {d:aeC},aO X.K φ ph.length H w v->RelV v u->dat ph n w=some d->lS s n u d) {ws:List W} {vs:List V} {d:aeC} {a:Addr},
   a9 X.K φ ph.length H ws vs->((bP X.K H a vs/\(bD (dat ph n) ws).map PyData.list=some d)\/(cN X.K H a vs/\(bD (dat ph n) ws).map PyData.tuple=some d))->lS s (n+1) (.ref a) d:=by
  intro n ih ws vs d a r h
  rcases h with⟨hq,e⟩ | ⟨hq,e⟩
  ·obtain⟨its,rv,⟨o,k,h1,h2,h3,h4⟩,_⟩:=I.list hq;obtain⟨ds,e1,e2⟩:=ace.mp e;subst e2;obtain⟨⟨as,r1⟩,c1,d1⟩:=yc ih r rv e1;refine⟨⟨_,.list h1 h2 h4 (by simpa using r1)⟩,by simpa only[afB] using c1,?_⟩;simp only[PyData.depth];omega
  ·obtain⟨its,rv,⟨o,h1,h2,k,h4⟩,_⟩:=I.tuple hq;obtain⟨ds,e1,e2⟩:=ace.mp e;subst e2;obtain⟨⟨as,r1⟩,c1,d1⟩:=yc ih r rv e1;refine⟨⟨_,.tuple h1 h2 h4 (by simpa using r1)⟩,by simpa only[afB] using c1,?_⟩;simp only[PyData.depth];omega
 intro n
 induction n with
 | zero=>
  intro w v u d r rv e;cases r with
  | aI=>cases rv;cases e;exact⟨⟨_,.none⟩,rfl,abZ _⟩
  | bl b=>cases rv;cases e;exact⟨⟨_,.bool b⟩,rfl,abZ _⟩
  | int i=>obtain⟨t,rfl⟩:=rv;cases e;exact⟨⟨_,.int i t⟩,rfl,abZ _⟩
  | str x=>
   obtain⟨t,rfl⟩:=rv;unfold dat at e;split at e
   ·rename_i hx;cases e;exact⟨⟨_,.str x t⟩,by simpa only[afB] using hx,abZ _⟩
   ·cases e
  | _=>cases e
 | succ n ih=>
  intro w v u d r rv e;cases r with
  | aI=>cases rv;cases e;exact⟨⟨_,.none⟩,rfl,adI _⟩
  | bl b=>cases rv;cases e;exact⟨⟨_,.bool b⟩,rfl,adI _⟩
  | int i=>obtain⟨t,rfl⟩:=rv;cases e;exact⟨⟨_,.int i t⟩,rfl,adI _⟩
  | str x=>
   obtain⟨t,rfl⟩:=rv;unfold dat at e;split at e
   ·rename_i hx;cases e;exact⟨⟨_,.str x t⟩,by simpa only[afB] using hx,adI _⟩
   ·cases e
  | tup h r=>cases rv;exact Am n ih r (.inr ⟨cN.of h,e⟩)
  | exc=>unfold dat at e;cases e
  | fn=>unfold dat at e;cases e
  | fl h r=>cases rv;exact Am n ih r (.inl ⟨h.sq,e⟩)
  | ref hi=>
   cases rv;unfold dat at e;split at e
   ·rename_i ws hw;obtain⟨vs,hv,r⟩:=hH.hp _ _ hw;exact Am n ih r (.inl ⟨bP.of hv,e⟩)
   ·cases e
end
noncomputable def f7(ph:PH)(x y:W):Option Bool:=match dat ph 40 x,dat ph 40 y with
 | some a,some b=>some (acW a b)
 | _,_=>none
noncomputable def aH:W->W->Po W:=fun x y ph=>(f7 ph x y).map fun b=>(.bl b,ph)
noncomputable def fy:W->W->Po W:=fun x y ph=>(f7 ph x y).map fun b=>(.bl (!b),ph)
noncomputable def rD(K:abW)(f:Bool->Bool):R2:=fun x y H Q=>∃φ ph wx wy b,aN K φ ph H/\aO K φ ph.length H wx x/\aO K φ ph.length H wy y/\f7 ph wx wy=some b/\Q (.bl (f b)) H
variable{y:W}
theorem D9{x:W}{b:Bool}(h:f7 ph x y=some b):∃dx dy,dat ph 40 x=some dx/\dat ph 40 y=some dy/\b=acW dx dy:=by
 unfold f7 at h;split at h
 ·rename_i dx dy h1 h2;cases h;exact⟨dx,dy,h1,h2,rfl⟩
 ·cases h
theorem Yq(hu:X.A.units+64<cLine):bJ X (ado .Eq) (rD X.K fun b=>b):=by
 intro pins s σ H x y v u Q I rx ry h;obtain⟨φ,ph,wx,wy,b,hH,r1,r2,e,q⟩:=h;obtain⟨dx,dy,e1,e2,rfl⟩:=D9 e;obtain⟨⟨as,k1⟩,c1,l1⟩:=kZ I hH 40 r1 rx e1;obtain⟨⟨bs,k2⟩,c2,l2⟩:=kZ I hH 40 r2 ry e2;exact SeqAt.compareEq_reads k1 k2 c1 c2 (by omega) ⟨.bl _,H,I,rfl,q⟩
theorem Yr(hu:X.A.units+64<cLine):bJ X (ado .NotEq) (rD X.K fun b=> !b):=by
 intro pins s σ H x y v u Q I rx ry h;obtain⟨φ,ph,wx,wy,b,hH,r1,r2,e,q⟩:=h;obtain⟨dx,dy,e1,e2,rfl⟩:=D9 e;obtain⟨⟨as,k1⟩,c1,l1⟩:=kZ I hH 40 r1 rx e1;obtain⟨⟨bs,k2⟩,c2,l2⟩:=kZ I hH 40 r2 ry e2;exact SeqAt.compareNe_reads k1 k2 c1 c2 (by omega) ⟨.bl _,H,I,rfl,q⟩
theorem Z1:c5 K (rD K fun b=>b) aH:=by
 intro φ ph H x y vx vy w ph' Q hH rx ry e k;obtain⟨b,e1,e2⟩:=ace.mp e;cases e2;exact⟨φ,ph,x,y,b,hH,rx,ry,e1,k φ H _ hH Step.refl (.bl _)⟩
theorem Z2:c5 K (rD K fun b=> !b) fy:=by
 intro φ ph H x y vx vy w ph' Q hH rx ry e k;obtain⟨b,e1,e2⟩:=ace.mp e;cases e2;exact⟨φ,ph,x,y,b,hH,rx,ry,e1,k φ H _ hH Step.refl (.bl _)⟩
noncomputable def inD(ph:PH)(x y:W):Option Bool:=match cT y ph,dat ph 40 x with
 | some ws,some dx=>(bD (dat ph 40) ws).map fun ds=>ds.any fun d=>acW d dx
 | _,_=>none
noncomputable def iL:W->W->Po W:=fun x y ph=>(inD ph x y).map fun b=>(.bl b,ph)
noncomputable def wC:W->W->Po W:=fun x y ph=>(inD ph x y).map fun b=>(.bl (!b),ph)
noncomputable def pW(K:abW)(f:Bool->Bool):R2:=fun x y H Q=>∃φ ph wx wy b,aN K φ ph H/\aO K φ ph.length H wx x/\aO K φ ph.length H wy y/\inD ph wx wy=some b/\Q (.bl (f b)) H
open Classical in
noncomputable def ki(s:acb)(dx:aeC)(u:Value):Bool:=if h:∃d,lS s 40 u d then acW h.choose dx else false
variable{d:aeC}
theorem vp{s:acb}{dx:aeC}{u:Value}(h:lS s 40 u d):ki s dx u=acW d dx:=by
 unfold ki;have hx:∃d,lS s 40 u d:=⟨d,h⟩
 rw[dif_pos hx];obtain⟨⟨as,r⟩,c,_⟩:=h;obtain⟨⟨as',r'⟩,c',_⟩:=hx.choose_spec;rw[SeqAt.Reads.unique _ _ _ _ _ c' r' r]
section
variable{X:Cx}{pins:List (Addr×Obj)}{σ:L2.St}{H:Hp}{s:acb}{φ:Nat->Addr}{ph:PH}
theorem yX(I:Inv X pins σ H s)(hH:aN X.K φ ph H){dx:aeC}:∀{ws:List W} {vs:List V} {us:List Value} {ds:List aeC},a9 X.K φ ph.length H ws vs->Vals vs us->bD (dat ph 40) ws=some ds →
  (us.any (ki s dx)=ds.any fun d=>acW d dx)/\∀u∈us,∃d,lS s 40 u d
 | _,_,_,_,.nil,.nil,e=>by cases e;exact⟨rfl,fun _ h=>nomatch h⟩
 | w::ws,_,_,ds,.cons h r,.cons hv rv,e=>by
  unfold bD at e;split at e
  ·rename_i b bs e1 e2;cases e;have q:=kZ I hH 40 h hv e1;obtain⟨r1,r2⟩:=yX I hH (dx:=dx) r rv e2;refine⟨by rw[adC,adC,r1,vp q],fun u hu=>?_⟩
   rcases acD.mp hu with rfl | hu
   ·exact⟨_,q⟩
   ·exact r2 u hu
  ·cases e
theorem EQ(I:Inv X pins σ H s)(hH:aN X.K φ ph H){wx wy:W}{x y:V}{v u:Value}{b:Bool}(hu:X.A.units+64<cLine)(r1:aO X.K φ ph.length H wx x)(r2:aO X.K φ ph.length H wy y)(rx:RelV x v)(ry:RelV y u)(e:inD ph wx wy=some b) :
  ∃(a:Addr) (its:List Value) (f:Value->Bool),u=.ref a/\(s.heap.IsList a its.toArray\/s.heap.IsTuple a its.toArray)/\(∀z,z∈its.toArray->SeqAt.EqAt X.A.in1 s z v (f z))/\its.toArray.any f=b:=by
 unfold inD at e;split at e
 ·rename_i ws dx hs hd;obtain⟨ds,e1,e2⟩:=ace.mp e;obtain⟨a,vs,rfl,hq,rs⟩:=yA hH r2 hs;cases ry;obtain⟨⟨as,k1⟩,c1,l1⟩:=kZ I hH 40 r1 rx hd;have fin:∀{its:List Value},Vals vs its->(∀z,z∈its.toArray->SeqAt.EqAt X.A.in1 s z v (ki s dx z))/\its.toArray.any (ki s dx)=b:=fun{its} rv=>by
   obtain⟨q1,q2⟩:=yX I hH (dx:=dx) rs rv e1;refine⟨fun z hz=>?_,by rw[show its.toArray.any (ki s dx)=its.any (ki s dx) by simp,q1,e2]⟩;obtain⟨d,hd⟩:=q2 z (by simpa using hz);rw[vp hd];obtain⟨⟨bs,k2⟩,c2,l2⟩:=hd;intro prog w E Q hQ;exact agy prog w _ E s z v d dx bs as Q k2 k1 c2 c1 (by show X.A.units+1+_<_;omega) hQ
  rcases hq with hq | hq
  ·obtain⟨its,rv,pl,_⟩:=I.list hq;obtain⟨f1,f2⟩:=fin rv;exact⟨a,its,_,rfl,.inl pl.isList,f1,f2⟩
  ·obtain⟨its,rv,pl,_⟩:=I.tuple hq;obtain⟨f1,f2⟩:=fin rv;exact⟨a,its,_,rfl,.inr pl,f1,f2⟩
 ·cases e
end
theorem Ys(hu:X.A.units+64<cLine):bJ X (ado .In) (pW X.K fun b=>b):=by
 intro pins s σ H x y v u Q I rx ry h;obtain⟨φ,ph,wx,wy,b,hH,r1,r2,e,q⟩:=h;obtain⟨a,its,f,rfl,hq,hf,hb⟩:=EQ I hH hu r1 r2 rx ry e;subst hb
 rcases hq with hq | hq
 ·exact SeqAt.in_listAt f hq hf ⟨.bl _,H,I,rfl,q⟩
 ·exact SeqAt.in_tupleAt f hq hf ⟨.bl _,H,I,rfl,q⟩
theorem VW(hu:X.A.units+64<cLine):bJ X (ado .NotIn) (pW X.K fun b=> !b):=by
 intro pins s σ H x y v u Q I rx ry h;obtain⟨φ,ph,wx,wy,b,hH,r1,r2,e,q⟩:=h;obtain⟨a,its,f,rfl,hq,hf,hb⟩:=EQ I hH hu r1 r2 rx ry e;subst hb
 rcases hq with hq | hq
 ·exact SeqAt.notIn_listAt f hq hf ⟨.bl _,H,I,rfl,q⟩
 ·exact SeqAt.notIn_tupleAt f hq hf ⟨.bl _,H,I,rfl,q⟩
theorem Z3:c5 K (pW K fun b=>b) iL:=by
 intro φ ph H x y vx vy w ph' Q hH rx ry e k;obtain⟨b,e1,e2⟩:=ace.mp e;cases e2;exact⟨φ,ph,x,y,b,hH,rx,ry,e1,k φ H _ hH Step.refl (.bl _)⟩
theorem Yt:c5 K (pW K fun b=> !b) wC:=by
 intro φ ph H x y vx vy w ph' Q hH rx ry e k;obtain⟨b,e1,e2⟩:=ace.mp e;cases e2;exact⟨φ,ph,x,y,b,hH,rx,ry,e1,k φ H _ hH Step.refl (.bl _)⟩
noncomputable def pb(env:Env)(x:Str×aet)(s:List (Str×Addr)):Sem (ForInStep (List (Str×Addr))):=
 if(x.2==acy)=true then do
  let a <- cellOf env x.1
  pure (adP ((x.1,a)::s))
 else pure (adP s)
theorem yB(env:Env):∀(names:List (Str×aet)) (acc:List (Str×Addr)),(∀y∈names,y.2=.free->∃c,env.cells.lookup y.1=some c) →
  ∃cl,(forIn names acc (pb env):Sem (List (Str×Addr)))=pure cl/\(∀x c,cl.lookup x=some c->acc.lookup x=some c\/(env.cells.lookup x=some c/\(x,acy)∈names)) /\
   (∀x,((∃c,acc.lookup x=some c)\/(x,acy)∈names)->∃c,cl.lookup x=some c)
 | [],acc,_=>⟨acc,rfl,fun x c h=>.inl h,fun x h=>h.elim id fun z=>nomatch z⟩
 | (n,k)::r,acc,h=>by
  by_cases hk:k=.free
  ·subst hk;obtain⟨c,hc⟩:=h (n,.free) adn rfl;obtain⟨cl,e,h1,h2⟩:=yB env r ((n,c)::acc) fun y hy=>h y (acH _ hy)
   refine⟨cl,?_,fun x c' hx=>?_,fun x hx=>h2 x ?_⟩
   ·rw[List.forIn_cons];have eb:pb env (n,.free) acc=pure (adP ((n,c)::acc)):=by
     unfold pb;rw[if_pos (by rfl)];unfold cellOf;rw[hc];rfl
    rw[eb];exact e
   ·rcases h1 x c' hx with z | z
    ·rw[acm] at z;cases q:x==n with
     | true=>
      rw[q] at z;cases z;have:x=n:=eq_of_beq q;subst this;exact .inr ⟨hc,adn⟩
     | false=>rw[q] at z;exact .inl z
    ·exact .inr ⟨z.1,acH _ z.2⟩
   ·rcases hx with⟨c',hx⟩ | hx
    ·rw[acm];cases q:x==n with
     | true=>exact .inl ⟨c,rfl⟩
     | false=>exact .inl ⟨c',hx⟩
    ·rcases acD.mp hx with z | z
     ·cases z;exact .inl ⟨c,by rw[acm];simp⟩
     ·exact .inr z
  ·obtain⟨cl,e,h1,h2⟩:=yB env r acc fun y hy=>h y (acH _ hy)
   refine⟨cl,?_,fun x c' hx=>?_,fun x hx=>h2 x ?_⟩
   ·rw[List.forIn_cons];have eb:pb env (n,k) acc=pure (adP acc):=by
     unfold pb;rw[if_neg (by simpa using hk)]
    rw[eb];exact e
   ·rcases h1 x c' hx with z | z
    ·exact .inl z
    ·exact .inr ⟨z.1,acH _ z.2⟩
   ·rcases hx with hx | hx
    ·exact .inl hx
    ·rcases acD.mp hx with z | z
     ·cases z;exact absurd rfl hk
     ·exact .inr z
variable{env:Env}
theorem VX{scope:Scope}(h:∀y∈scope.names,y.2=.free->∃c,env.cells.lookup y.1=some c) :
  ∃cl,aev scope env=pure cl/\(∀x c,cl.lookup x=some c->env.cells.lookup x=some c/\(x,acy)∈scope.names)/\(∀x,(x,acy)∈scope.names->∃c,cl.lookup x=some c):=by
 obtain⟨cl,e,h1,h2⟩:=yB env scope.names [] h;refine⟨cl,?_,fun x c hx=>?_,fun x hx=>h2 x (.inr hx)⟩
 ·unfold aev;show(forIn scope.names [] (pb env) >>= fun s=>pure s)=pure cl;rw[e];rfl
 ·rcases h1 x c hx with z | z
  ·cases z
  ·exact z
noncomputable def blk(X:Cx)(N:List Str)(scope:Scope)(cl:List (Str×Addr))(C:Addr)(aK:acb)(aR:Hp)(ex:List Addr):Cx:=
 { X with N:=N,aK:=aK,aR:=aR,env:=compEnvC scope cl C X.env,outer:=X.stack,stack:=X.stack,ex:=ex,fn:=fun _=>false,pn:=[],xe:=fun _ _=>False }
noncomputable def kr(cap:List (Option Nat))(σ:L2.St):L2.St:=cap.map fun o=>o.bind fun i=>(σ[i]?).join
noncomputable def vV(wi:TI)(cap:List (Option Nat))(g:TG)(tc:TT)(te:TE):TE:=fun σ H Q=>wi σ H fun J H1=>∀D,H1 D=none->∃W:Nat->Nat->L2.St->Hp->Prop,(∃m,W 0 m (kr cap σ) (upd H1 D (.lst []))) /\
 ∀i m bY H2,W i m bY H2->(J.stop i H2/\Q (.ref D) H2)\/(J.go i H2/\∀x H3,J.sr i H2 x H3->g x bY H3 fun j8 H4=>tc j8 H4 fun b H5=>
  if b=true then te j8 H5 fun v H6=>∃xs,H6 D=some (.lst xs)/\xs.length<acv/\∃m',m'<m/\W (i+1) m' j8 (upd H6 D (.lst (xs++[v]))) else ∃m',m'<m/\W (i+1) m' j8 H5)
noncomputable def PF(X:Cx)(ifs:List Expr)(t:TT):Prop:=
 ∀(pins:List (Addr×Obj)) (s:acb) (σ:L2.St) (H:Hp) (Q:Bool->Hp->Prop),Inv X pins σ H s->t σ H Q →
  wpAny (model X.prog X.w) X.A (forIn ifs true fun c r=>if r=true then do let ok <- isTrue c X.env (eval c X.env);pure (adP ok) else pure (adP r)) (TP X pins σ Q) X.xe s
theorem Yu:PF X [] (fun _ H Q=>Q true H):=fun pins s σ H Q I h=>wpAny_tests_nil ⟨H,I,h⟩
theorem Yv{c:Expr}{t:TT}(h:PT X c t):PF X [c] t:=fun pins s σ H Q I q=>wpAny_tests_one (h pins s σ H Q I q)
theorem xA{env:Env}{x:Str}:∀{names:List (Str×aet)},names.lookup x=some .free →
  (names.map fun(n,k)=>if(k==acy&&env.scope.kind==.function&&env.kindOf n==some .cell) then(n,adK) else(n,k)).lookup x=some .cell \/
  (names.map fun(n,k)=>if(k==acy&&env.scope.kind==.function&&env.kindOf n==some .cell) then(n,adK) else(n,k)).lookup x=some .free
 | [],h=>by cases h
 | (n,k)::r,h=>by
  rw[acK];cases q:x==n with
  | true=>
   rw[acm,q] at h;cases h;by_cases hc:(acy==acy&&env.scope.kind==.function&&env.kindOf n==some .cell)=true
   ·left
    show aep x ((if(acy==acy&&env.scope.kind==.function&&env.kindOf n==some .cell)=true then(n,adK) else(n,acy))::_)=_;rw[if_pos hc,acm,q]
   ·right
    show aep x ((if(acy==acy&&env.scope.kind==.function&&env.kindOf n==some .cell)=true then(n,adK) else(n,acy))::_)=_;rw[if_neg hc,acm,q]
  | false=>
   rw[acm,q] at h;have ih:=xA (env:=env) h;show aep x ((if(k==acy&&env.scope.kind==.function&&env.kindOf n==some .cell)=true then(n,adK) else(n,k))::_)=_\/aep x ((if(k==acy&&env.scope.kind==.function&&env.kindOf n==some .cell)=true then(n,adK) else(n,k))::_)=_;by_cases hc:(k==acy&&env.scope.kind==.function&&env.kindOf n==some .cell)=true
   ·rw[if_pos hc,acm,q];exact ih
   ·rw[if_neg hc,acm,q];exact ih
theorem xO{env:Env}{x:Str}{k':aet}(wX:k'=.cell\/k'=.free):∀{names:List (Str×aet)},(∀y∈names,y.2≠.cell) →
  (names.map fun(n,k)=>if(k==acy&&env.scope.kind==.function&&env.kindOf n==some .cell) then(n,adK) else(n,k)).lookup x=some k'->names.lookup x=some .free
 | [],_,h=>by cases h
 | (n,k)::r,hc,h=>by
  have h':aep x ((if(k==acy&&env.scope.kind==.function&&env.kindOf n==some .cell)=true then(n,adK) else(n,k))::r.map _)=some k':=h;rw[acm];cases q:x==n with
  | true=>
   by_cases hb:(k==acy&&env.scope.kind==.function&&env.kindOf n==some .cell)=true
   ·simp only[aco] at hb;have:k=.free:=by simpa using hb.1.1
    rw[this]
   ·rw[if_neg hb,acm,q] at h';cases h'
    rcases wX with z | z
    ·exact absurd z (hc (n,k') adn)
    ·rw[z]
  | false=>
   refine xO (env:=env) wX (names:=r) (fun y hy=>hc y (acH _ hy)) ?_;by_cases hb:(k==acy&&env.scope.kind==.function&&env.kindOf n==some .cell)=true
   ·rw[if_pos hb,acm,q] at h';exact h'
   ·rw[if_neg hb,acm,q] at h';exact h'
theorem mem_lookup{x:Str}{k:aet}:∀{names:List (Str×aet)},names.lookup x=some k->(x,k)∈names
 | [],h=>by cases h
 | (n,j)::r,h=>by
  rw[acm] at h;cases q:x==n with
  | true=>rw[q] at h;cases h;rw[eq_of_beq q];exact adn
  | false=>rw[q] at h;exact acH _ (mem_lookup h)
structure kK(X:Cx)(N:List Str)(cap:List (Option Nat))(scope:Scope):Prop where
 len:cap.length=N.length
 at_:∀(i j:Nat) (x:Str),N[i]? =some x->cap[i]? =some (some j)->X.N[j]? =some x/\scope.names.lookup x=some .free/\(X.env.kindOf x=some .cell\/X.env.kindOf x=some .free)
 free:∀y∈scope.names,y.2=.free->X.env.kindOf y.1=some .cell\/X.env.kindOf y.1=some .free
 cell:∀y∈scope.names,y.2≠.cell
 kind:scope.kind=.function
 loc:∀y∈scope.names,y.2=.local->scope.names.lookup y.1=some .local
section
variable{X:Cx}{pins:List (Addr×Obj)}{σ:L2.St}{H:Hp}{s:acb}{N:List Str}{cap:List (Option Nat)}{scope:Scope}{cl:List (Str×Addr)}{fp:List Addr}
theorem VY (I : Inv X pins σ H s) (c : kK X N cap scope) (eZ : ∀ x c, cl.lookup x = some c -> X.env.cells.lookup x = some c /\ (x, acy) ∈ scope.names) (wD : ∀ x, (x, acy) ∈ scope.names -> ∃ c, cl.lookup x = some c)
    (hf : ∀ b ∈ fp, b < s.heap.objs.size /\ b ≠ X.env.locals /\ b ∉ X.fs /\ (b ∈ X.ex \/ X.aK.heap.objs.size <= b) /\ (∀ x c, X.env.cells.lookup x = some c -> c ≠ b)) {gH : Heap} {m : Str -> Option Value} {tk : Nat}
    (bX : gH.Ns s.heap.objs.size m) (hk : ∀ b o, s.heap.get? b = some o -> gH.get? b = some o) : Inv (blk X N scope cl s.heap.objs.size s H fp) [] (kr cap σ) H { s with heap := gH, toks := tk } := by
  have aa6 : ∀ {x : Str}, ((blk X N scope cl s.heap.objs.size s H fp).env.kindOf x = some .cell \/ (blk X N scope cl s.heap.objs.size s H fp).env.kindOf x = some .free) -> scope.names.lookup x = some .free := fun {x} hx => by
    rcases hx with hx | hx
    · exact xO (env := X.env) (.inl rfl) c.cell hx
    · exact xO (env := X.env) (.inr rfl) c.cell hx
  have ok : (blk X N scope cl s.heap.objs.size s H fp).Ok :=
    { mod := I.ok.mod
      kind := c.kind
      glob := I.ok.glob
      blt := I.ok.blt
      above := abZ _
      inj := fun x y d h1 h2 => I.ok.inj x y d (eZ x d h1).1 (eZ y d h2).1
      has := fun x hx => wD x (mem_lookup (aa6 hx))
      qj := fun x d hz => nomatch hz
      hd := I.ok.hd
      frames := I.ok.frames
      sj := .inl rfl
      AG := fun b hb => ⟨acL (hf b hb).1, fun x d hd => (hf b hb).2.2.2.2 x d (eZ x d hd).1⟩
      bs := I.bs
      jS := acl I.ok.jS I.sz
      pP := fun b o e hb => by
        rcases (hf b hb).2.2.2.1 with z | z
        · exact I.ok.pP b o e z
        · exact absurd (aca (acj (I.ok.bs b o e).1) z) (adJ _)
      pQ := fun b hb hz => by
        rcases acD.mp (I.rE b hz) with e | e
        · exact (hf b hb).2.1 e
        · exact (hf b hb).2.2.1 e
      fF := I.stack
      lM := I.vG }
  refine ⟨ok, rfl, I.bare, Un.kept hk, ⟨m, bX, fun i x v e1 e2 _ => ?_⟩, fun x d e => ?_, I.aG.fresh (abZ _), fun x d e => ⟨(fun z => nomatch z), (I.gO x d (eZ x d e).1).2⟩, (fun p hp => nomatch hp), I.aG.kept hk, ?_⟩
  · unfold kr at e2
    rw [abY] at e2;cases q : cap[i]? with
    | none => rw [q] at e2; cases e2
    | some o =>
      rw [q] at e2;cases o with
      | none => cases e2
      | some j =>
        have e3 : (σ[j]?).join = some v := acY e2;have e4 : σ[j]? = some (some v) := by
          cases z : σ[j]? with
          | none => rw [z] at e3; cases e3
          | some w => rw [z] at e3; exact congrArg some e3
        obtain ⟨h1, h2, h3⟩ := c.at_ i j x e1 q;obtain ⟨m0, _, hl⟩ := I.loc;obtain ⟨u, ru, lk⟩ := hl j x v h1 e4 (.inr h3);refine ⟨u, ru, ?_⟩
        rcases lk with ⟨z, _⟩ | ⟨_, d, hd, jL⟩
        · rcases h3 with z' | z' <;> (rw [z] at z'; cases z')
        · obtain ⟨d', kC⟩ := wD x (mem_lookup h2)
          have e5 := (eZ x d' kC).1;rw [hd] at e5;cases e5;obtain ⟨ob, ho, An⟩ := jL;exact .inr ⟨xA (env := X.env) h2, d, kC, ob, hk _ _ ho, An⟩
  · obtain ⟨v, ob, ho, An⟩ := I.cell x d (eZ x d e).1
    exact ⟨v, ob, hk _ _ ho, An⟩
  · show (kr cap σ).length = N.length
    unfold kr;rw [abX];exact c.len
theorem Un.but{fs ex:List Addr}{H H':Hp}{h h1 h2:Heap}{C:Addr}(u:Un fs ex H H' h h1)(sb:∀b,b≠C->h2.get? b=h1.get? b)(hC:h.get? C=none):Un fs ex H H' h h2:=by
 have ne:∀b o,h.get? b=some o->b≠C:=fun b o e z=>by rw[z,hC] at e;cases e
 exact⟨fun b o e n h1 h2=>(sb b (ne b o e)).trans (u.keep b o e n h1 h2),fun b o e n h1 h2=>by
  obtain⟨sl,q⟩:=u.slot b o e n h1 h2;exact⟨sl,(sb b (ne b o e)).trans q⟩,u.free,fun b o e h1=>by
  obtain⟨o',q⟩:=u.there b o e h1;exact⟨o',(sb b (ne b o e)).trans q⟩,u.fk,u.er,u.fq⟩
theorem ER{ao:L2.St}{H':Hp}{s':acb}{h':Heap}(I:Inv X pins σ H s)(J:Inv (blk X N scope cl s.heap.objs.size s H fp) [] ao H' s')(sb:afb s.heap.objs.size s'.heap h')
  (hf:∀b∈fp,gn X pins H b):Inv X pins σ H' { s' with heap:=h' }:=by
 have hC:H' s.heap.objs.size=none:=J.free;refine I.Zw (ch:=fp) J.os (Un.but J.base sb.2 (agw (abZ _))) (fun a o e=>?_) J.bare fun b hb=>⟨(hf b hb).2.2.2.1,(hf b hb).2.1,(hf b hb).2.2.2.2.1,(hf b hb).2.2.2.2.2⟩
 refine(J.aG a o e).ir (fun b u hb q=>(sb.2 b ?_).trans q) (fun _ q=>q) fun _ _ q=>q
 rintro rfl
 rcases hb with z | z
 ·rw[<- z,hC] at e;cases e
 ·rw[hC] at z;cases z
end
section
variable{prog:adl}{w:World}{A:aeg}{R:Result->acb->Prop}{s:acb}
theorem Ti{elt target iter:Expr}{ifs:List Expr}{scope:Scope}{pos:Pos}{it acc:Value}{env:Env}(J:Nat->acb->Prop)
  (turn:∀k s,J k s->wpAny (model prog w) A (pyNext it) (fun r s1=>match r with
   | none=>R (.ok .next) s1
   | some v=>wpAny (model prog w) A (afp target it v) (fun _ s2=>wpAny (model prog w) A (agB target env v) (fun _ s3=>
     wpAny (model prog w) A (forIn ifs true fun c r=>if r=true then do let ok <- isTrue c env (eval c env);pure (adP ok) else pure (adP r)) (fun ok s4=>
      if ok=true then wpAny (model prog w) A (eval elt env) (fun x s5=>wpAny (model prog w) A (call (.builtin "list.append") [acc,x]) (fun _ s6=>∃j,j<k/\J j s6) (fun _ _=>False) s5) (fun _ _=>False) s4
      else ∃j,j<k/\J j s4) (fun _ _=>False) s3) (fun _ _=>False) s2) (fun _ _=>False) s1) (fun _ _=>False) s)
  (k:Nat) (h:J k s):codeAny (model prog w) A (.compLoop (.ListComp elt [⟨target,iter,ifs,0⟩] scope pos) 0 it acc env) R s:=by
 have no:∀{E:Value->acb->Prop} (e:Value) (s:acb),False->E e s:=fun _ _ z=>z.elim
 refine codeAny_loop (c:=.compLoop (.ListComp elt [⟨target,iter,ifs,0⟩] scope pos) 0 it acc env) rfl J (fun k s hJ=>?_) k h;show wpAny (model prog w) A ((compTurn (.ListComp elt [⟨target,iter,ifs,0⟩] scope pos) 0 it acc env).onRaise fun x=>do noteFrame x env;theTreesLotGoes x) _ _ s;refine wpAny_noted ?_;rw[compTurn_list];refine acx (wpAny_standAt (acx (adm (turn k s hJ) (fun r s1 h1=>?_) no)));cases r with
 | none=>exact ada h1
 | some v=>
  refine acx (adm h1 (fun _ s2 h2=>acx (adm h2 (fun _ s3 h3=>acx (adm h3 (fun ok s4 h4=>?_) no)) no)) no);cases ok with
  | false=>exact ada ⟨rfl,h4⟩
  | true=>exact acx (acx (adm h4 (fun x s5 h5=>acx (adm h5 (fun _ s6 h6=>ada (ada ⟨rfl,h6⟩)) no)) no))
end
section
variable{X:Cx}{tg iter elt:Expr}{ifs:List Expr}{scope:Scope}{pos:Pos}{N:List Str}{cap:List (Option Nat)}{wi:TI}{g:TG}{tc:TT}{te:TE}
theorem DH{use:Option (Value->Sem Unit)}{Q':Value->acb->Prop}{pins:List (Addr×Obj)}{s:acb}{σ:L2.St}{H:Hp}{Q:VK}{p0:Pos}(hc:X.calm=true)(c:kK X N cap scope)(hi:PI X tg iter wi)(hg:∀cl C aK aR ex,PG (blk X N scope cl C aK aR ex) tg g)(ht:∀cl C aK aR ex,PF (blk X N scope cl C aK aR ex) ifs tc)
  (he:∀cl C aK aR ex,PE (blk X N scope cl C aK aR ex) elt te) (hs:∀x,adf iter X.env x=pure x) (I:Inv X pins σ H s) (h:vV wi cap g tc te σ H Q)
  (fin:∀(s3 s6:acb) (H3 H6:Hp) (fp:List Addr) (tv:L2.St) (cl:List (Str×Addr)) (D:Addr),Inv X pins σ H3 s3->(∀b∈fp,gn X pins H3 b)->Inv (blk X N scope cl s3.heap.objs.size s3 H3 fp) [] tv H6 s6->Q (.ref D) H6 →
   compPost (model X.prog X.w) X.A X.xe use Q' (.ref D) s3.heap.objs.size (.ok .next) s6) :
  wpAny (model X.prog X.w) X.A (comprehension (.ListComp elt [⟨tg,iter,ifs,0⟩] scope pos) scope X.env p0 (newList []) false (eval iter X.env) use) Q' X.xe s:=by
 obtain⟨cl,Z4,eZ,wD⟩:=VX (scope:=scope) (env:=X.env) fun y hy hf=>I.ok.has y.1 (c.free y hy hf)
 refine wpAny_comprehension_free (use:=use) rfl hs Z4 c.kind c.loc (adm (hi pins s σ H _ I h) (fun v s1 h1=>adm h1 (fun AJ s2 h2=>?_) fun _ _ z=>z) fun _ _ z=>z);obtain⟨it,fp,tn,J,H2,rfl,I2,T,bE,f2,h2⟩:=h2;refine wpAny_newObj_type (wpAny_newFunctionEnv c.cell (by intro y hy;simp at hy) (fun gH bX qu=>?_) c.kind);have hD:H2 s2.heap.objs.size=none:=I2.fresh;obtain⟨W,⟨m0,w0⟩,turn⟩:=h2 s2.heap.objs.size hD;have I3:=I2.Ah (its:=[]) (ys:=[]) (t':=s2.toks) .nil (adI _);have jq:∀b∈fp,gn X pins (upd H2 s2.heap.objs.size (.lst [])) b:=fun b hb=>by
  obtain⟨a1,a2⟩:=f2 b hb;refine⟨?_,a2⟩;obtain⟨o,ho,_⟩:=T.obj 0 _ bE b hb;rw[aT (acL (acj ho))];exact a1
 have IX:∀b∈fp,b<s2.heap.objs.size:=fun b hb=>by
  obtain⟨o,ho,_⟩:=T.obj 0 _ bE b hb;exact acj ho
 revert bX qu
 generalize hs3:({ s2 with heap:=s2.heap.push { cls:=.type "list",data:=.seq ([]:List Value).toArray },toks:=s2.toks }:acb)=s3 at I3;intro bX qu;have IY:s3.heap=s2.heap.push { cls:=.type "list",data:=.seq ([]:List Value).toArray }:=by rw[<- hs3]
 have e3:s3.heap.objs.size=s2.heap.objs.size+1:=by rw[IY,Heap.size_push]
 have IZ:∀b o,s2.heap.get? b=some o->s3.heap.get? b=some o:=fun b o e=>by rw[IY];exact aci _ e
 have AY:∀b o,s3.heap.get? b=some o->gH.get? b=some o:=fun b o e=>qu.extBut b o (acL (acj e)) (aci _ e)
 have aa7:gH.Ns s3.heap.objs.size (fun x=>([]:List (Str×Value)).reverse.lookup x):=bX;have I4:=VY (fp:=fp) (tk:=s3.toks+([]:List (Str×Value)).length) I3 c eZ wD (fun b hb=>⟨by rw[e3];exact Nat.lt_succ_of_lt (IX b hb),(jq b hb).2.1,(jq b hb).2.2.1,(jq b hb).2.2.2.1,(jq b hb).2.2.2.2.1⟩) aa7 AY;have loop:∀s4:acb,s4={ s3 with heap:=gH,toks:=s3.toks+([]:List (Str×Value)).length } →
   codeAny (model X.prog X.w) X.A (.compLoop (.ListComp elt [⟨tg,iter,ifs,0⟩] scope pos) 0 (.ref it) (.ref s2.heap.objs.size) (compEnvC scope cl s3.heap.objs.size X.env))
    (compPost (model X.prog X.w) X.A X.xe use Q' (.ref s2.heap.objs.size) s3.heap.objs.size) s4:=by
  rintro s4 rfl;refine Ti (fun m s=>∃i bY AZ,Inv (blk X N scope cl s3.heap.objs.size s3 (upd H2 s2.heap.objs.size (.lst [])) fp) [] bY AZ s/\tn i s.heap/\(∀b∈fp,AZ b=none)/\W i m bY AZ) ?_ m0
   ⟨0,kr cap σ,_,I4,T.keep _ _ _ bE fun b hb o e=>AY b o (IZ b o e),fun b hb=>(jq b hb).1,w0⟩
  rintro k s5 ⟨i,eN,H5,I5,qo,wQ,w5⟩;have A0:∀{H':Hp} {ps:List (Addr×Obj)},(∀b∈fp,H' b=none)->(∀p∈ps,∀b∈fp,p.1≠b)->∀b∈fp,gn (blk X N scope cl s3.heap.objs.size s3 (upd H2 s2.heap.objs.size (.lst [])) fp) ps H' b:=fun{H' ps} hn hp b hb=>
   ⟨hn b hb,(fun z=>by have q:=IX b hb;have z':b=s3.heap.objs.size:=z;rw[z',e3] at q;exact absurd q (Nat.not_lt.mpr (aeW _))),I5.ok.pQ b hb,.inl hb,fun x d hd=>(jq b hb).2.2.2.2.1 x d (eZ x d hd).1,fun p hp'=>hp p (by simpa[blk] using hp') b hb⟩
  rcases turn i k eN H5 w5 with⟨stop,qn⟩ | ⟨go,step⟩
  ·refine adm (T.done (blk X N scope cl s3.heap.objs.size s3 (upd H2 s2.heap.objs.size (.lst [])) fp) rfl rfl rfl hc i [] s5 eN H5 _ I5 (A0 wQ (fun _ z=>nomatch z)) qo stop) (fun r s6 hr=>?_) fun _ _ z=>z
   obtain⟨rfl,I6⟩:=hr;exact fin s3 s6 _ H5 fp eN cl _ I3 jq I6 qn
  ·refine adm (T.item (blk X N scope cl s3.heap.objs.size s3 (upd H2 s2.heap.objs.size (.lst [])) fp) rfl rfl rfl hc i [] s5 eN H5 _ I5 (A0 wQ (fun _ z=>nomatch z)) qo go) (fun r s6 hr=>?_) fun _ _ z=>z
   obtain⟨u,rfl,h6⟩:=hr;refine adm h6 (fun _ s7 ⟨x,H7,I7,rx,y7,A1,fr7⟩=>?_) fun _ _ z=>z
   have I7':=I7.pinned (A0 fr7 (fun _ z=>nomatch z)) (T.obj _ _ A1);have back:∀{j9:L2.St} {H8:Hp} {s8:acb},Inv (blk X N scope cl s3.heap.objs.size s3 (upd H2 s2.heap.objs.size (.lst [])) fp) ([]++rF fp s7.heap) j9 H8 s8 →
     Inv (blk X N scope cl s3.heap.objs.size s3 (upd H2 s2.heap.objs.size (.lst [])) fp) [] j9 H8 s8/\tn (i+1) s8.heap/\∀b∈fp,H8 b=none:=fun{j9 H8 s8} I8=>by
    refine⟨I8.vk,T.keep _ _ _ A1 fun b hb o e=>(I8.pin (b,o) (acR _ (acR _ (uV hb e)))).1,fun b hb=>?_⟩;obtain⟨o,e,d⟩:=T.obj _ _ A1 b hb;exact(I8.pin (b,o) (acR _ (acR _ (uV hb e)))).2.1
   refine a7 (hg cl _ _ _ fp _ s7 eN H7 x u _ I7' rx (step x H7 y7)) fun _ s8 ⟨j9,H8,I8,q8⟩=>?_
   refine a7 (ht cl _ _ _ fp _ s8 j9 H8 _ I8 q8) fun ok s9 ⟨H9,I9,q9⟩=>?_
   cases ok with
   | false=>
    obtain⟨m',hm,w9⟩:=q9;obtain⟨a1,a2,a3⟩:=back I9;exact⟨m',hm,i+1,j9,H9,a1,a2,a3,w9⟩
   | true=>
    refine a7 (he cl _ _ _ fp _ s9 j9 H9 _ I9 q9) fun y s10 ⟨jr,H10,I10,r10,xs,hx,hz,m',hm,w10⟩=>?_
    refine a7 (iT (X:=blk X N scope cl s3.heap.objs.size s3 (upd H2 s2.heap.objs.size (.lst [])) fp) _ s10 j9 H10 (.ref s2.heap.objs.size) [jr] (.ref s2.heap.objs.size) [y] (fun _ H'=>W (i+1) m' j9 H') I10 rfl (.cons r10 .nil) ⟨_,xs,_,rfl,rfl,hx,hz,w10⟩) fun _ s11 ⟨_,H11,I11,_,w11⟩=>?_
    obtain⟨a1,a2,a3⟩:=back I11;exact⟨m',hm,i+1,j9,H11,a1,a2,a3,w11⟩
 exact codeAny_compStart_list (loop _ rfl) (T.self _ 0 _ _ _ (T.keep _ _ _ bE fun b hb o e=>AY b o (IZ b o e)) (loop _ rfl))
theorem VZ(hc:X.calm=true)(c:kK X N cap scope)(hi:PI X tg iter wi)(hg:∀cl C aK aR ex,PG (blk X N scope cl C aK aR ex) tg g)(ht:∀cl C aK aR ex,PF (blk X N scope cl C aK aR ex) ifs tc)
  (he:∀cl C aK aR ex,PE (blk X N scope cl C aK aR ex) elt te) (hs:∀x,adf iter X.env x=pure x:=by intro _;rfl):PE X (.ListComp elt [⟨tg,iter,ifs,0⟩] scope pos) (vV wi cap g tc te):=by
 intro pins s σ H Q I h;rw[eval_ListComp];refine DH hc c hi hg ht he hs I h fun s3 s6 H3 H6 fp tv cl D I3 jq I6 q=>?_
 obtain⟨m6,A2,_⟩:=I6.loc;exact⟨m6,A2,fun h' sb=>⟨.ref D,H6,ER I3 I6 sb jq,rfl,q⟩⟩
theorem V0{i:Nat}{x:Str}{pos' pX:Pos}(hN:X.N.Nodup)(iM:X.N[i]? =some x)(hx:X.env.scope.names.lookup x=some .local)(sE:aeA (.ListComp elt [⟨tg,iter,ifs,0⟩] scope pos) (some (.Name x pos')) pX.line X.env=pure true)
  (hc:X.calm=true) (c:kK X N cap scope) (hi:PI X tg iter wi) (hg:∀cl C aK aR ex,PG (blk X N scope cl C aK aR ex) tg g) (ht:∀cl C aK aR ex,PF (blk X N scope cl C aK aR ex) ifs tc)
  (he:∀cl C aK aR ex,PE (blk X N scope cl C aK aR ex) elt te) (hs:∀x,adf iter X.env x=pure x:=by intro _;rfl) :
  PS X (.Assign [.Name x pos'] (.ListComp elt [⟨tg,iter,ifs,0⟩] scope pos) pX) (wk (vV wi cap g tc te) (zI i)):=by
 intro pins s σ H D I h;rw[exec_Assign_Name_used x pos' _ pX sE];refine acx (wpAny_standAt (acx ?_));show wpAny (model X.prog X.w) X.A (comprehension (.ListComp elt [⟨tg,iter,ifs,0⟩] scope pos) scope X.env _ (newList []) false (eval iter X.env) (some (agB (.Name x pos') X.env)) >>= fun _=>pure ()) _ _ s;refine acx (DH hc c hi hg ht he hs I h fun s3 s6 H3 H6 fp tv cl Dl I3 jq I6 q=>?_);obtain⟨m6,A2,_⟩:=I6.loc;have aa8:s6.heap.Ns s3.heap.objs.size m6:=A2;have I7:Inv X pins σ H6 s6:=ER (h':=s6.heap) I3 I6 ⟨rfl,fun _ _=>rfl⟩ jq;refine wpAny_assign_Name (Dz I7 hN iM (.inl hx) (v:=.ref Dl) rfl (fun s8 I8 h8=>?_) (.inr hx));obtain⟨a,sb8,ha⟩:=h8;have fresh:H6 s3.heap.objs.size=none:=I6.free;have sk:s3.heap.objs.size≠X.env.locals:=adL I3.lt;have nX:∀y d,X.env.cells.lookup y=some d->d≠s3.heap.objs.size:=fun y d e=>by
  obtain⟨v,o,ho,_⟩:=I3.cell y d e;exact acL (acj ho)
 have neP:∀p∈X.pn++pins,p.1≠s3.heap.objs.size:=fun p hp=>acL (acj (I3.pin p hp).1)
 have neA:s3.heap.objs.size≠a:=by
  rcases ha with z | z
  ·rw[z];exact sk
  ·exact aej (nX x a z)
 refine⟨m6,aa8.sameBut sb8 neA,fun h' sb=>ada (ada ⟨_,H6,?_,q⟩)⟩;exact I8.turned (t':=s8.toks) (fun b o hb e=>(sb.2 b hb).trans e) fresh sk (.inr I3.sz) nX neP
end
noncomputable def gq(cap:List (Option Nat))(σ:aQ):aQ:=cap.map fun o=>o.bind fun i=>(σ[i]?).join
noncomputable def dm(m:Mo α):Mo α:=fun ph=>match m ph with
 | .ok a ph'=>.ok a ph'
 | _=>.no
theorem yC{m:Mo α}{N:α->PH->Prop}{E':XC->PH->Prop}(h:(dm m ph).Run N E):(m ph).Run N E':=by
 unfold dm at h;cases e:m ph with
 | ok a ph'=>rw[e] at h;exact h
 | ex x ph'=>rw[e] at h;exact h.elim
 | no=>rw[e] at h;exact h
noncomputable def eh(chk:PH->Bool)(g:GM)(c:TM)(e:EM)(L:Nat):List W->aQ->Mo Unit
 | [],_=>fun ph=>if chk ph=true then .ok () ph else .no
 | x::xs,σ=>fun ph=>if chk ph=true then au (dm (g x σ)) (fun σ1=>au (dm (c σ1)) fun t=>if t=true then au (dm (e σ1)) fun w=>au (lift (dt (.ref L) [w])) fun _=>eh chk g c e L xs σ1 else eh chk g c e L xs σ1) ph else .no
noncomputable def cB(im:IM)(cap:List (Option Nat))(g:GM)(c:TM)(e:EM):EM:=fun σ=>au (im σ) fun r ph=>au (eh r.2 g c e ph.length r.1 (gq cap σ)) (fun _=>ax (.ref ph.length)) (ph++[.lst []])
section
variable{K:abW}{φ:Nat->Addr}{n:Nat}{H:Hp}
theorem bh.cap{ws:aQ}{σ:L2.St}(h:bh K φ n H ws σ):∀(cap:List (Option Nat)),bh K φ n H (gq cap ws) (kr cap σ)
 | []=>.nil
 | o::r=>by
  have ih:=bh.cap h r;unfold gq kr at ih ⊢;rw[acK,acK];cases o with
  | none=>exact .nn ih
  | some i=>
   cases q:ws[i]? with
   | none=>simp only[ady,q,Option.join_none];exact .nn ih
   | some o=>
    cases o with
    | none=>simp only[ady,q,Option.join_some];exact .nn ih
    | some w=>
     obtain⟨v,ev,rv⟩:=h.get q;simp only[ady,q,ev,Option.join_some];exact .sm rv ih
theorem Rz{L:Nat}{w u:W}{ph ph':PH}(h:dt (.ref L) [w] ph=some (u,ph')):∃ws,ph[L]? =some (.lst ws)/\ws.length<acv/\ph'=ph.set L (.lst (ws++[w])):=by
 unfold dt at h;simp only at h;split at h
 ·rename_i ws hw;split at h
  ·rename_i hz;cases h;exact⟨ws,hw,hz,rfl⟩
  ·cases h
 ·cases h
end
noncomputable def A3(K:abW)(m:EM):TE:=fun σ H Q=>∃φ ph ws,aN K φ ph H/\bh K φ ph.length H ws σ/\(m ws ph).Run (fun w ph'=>
 ∀aq H' v,aN K aq ph' H'->Step K φ ph.length H aq ph'.length H'->aO K aq ph'.length H' w v->Q v H') (fun _ _=>False)
noncomputable def lT(K:abW)(m:TM):TT:=fun σ H Q=>∃φ ph ws,aN K φ ph H/\bh K φ ph.length H ws σ/\(m ws ph).Run (fun b ph'=>
 ∀aq H',aN K aq ph' H'->Step K φ ph.length H aq ph'.length H'->Q b H') (fun _ _=>False)
noncomputable def A4(K:abW)(g:GM):TG:=fun v σ H Q=>∃φ ph ws w,aN K φ ph H/\bh K φ ph.length H ws σ/\aO K φ ph.length H w v/\(g w ws ph).Run (fun dn ph'=>
 ∀aq H' ao,aN K aq ph' H'->Step K φ ph.length H aq ph'.length H'->bh K aq ph'.length H' dn ao->Q ao H') (fun _ _=>False)
section
variable{X:Cx}{e:Expr}
theorem e0{m:EM}(h:IE X e m):PE X e (A3 X.K m):=PE.imp h fun _ _ _ ⟨φ,ph,ws,a,b,c⟩=>⟨φ,ph,ws,a,b,c.mono (fun _ _ z=>z) fun _ _ z=>z.elim⟩
theorem t0{m:TM}(h:IT X e m):PT X e (lT X.K m):=PT.imp h fun _ _ _ ⟨φ,ph,ws,a,b,c⟩=>⟨φ,ph,ws,a,b,c.mono (fun _ _ z=>z) fun _ _ z=>z.elim⟩
theorem g0{g:GM}(h:IG X e g):PG X e (A4 X.K g):=PG.imp h fun _ _ _ _ ⟨φ,ph,ws,w,a,b,r,c⟩=>⟨φ,ph,ws,w,a,b,r,c.mono (fun _ _ z=>z) fun _ _ z=>z.elim⟩
end
section
variable{X:Cx}{tg iter elt:Expr}{ifs:List Expr}{scope:Scope}{pos:Pos}{N:List Str}{cap:List (Option Nat)}{im:IM}{g:GM}{c:TM}{e:EM}
theorem Tj{σ:L2.St}{Q:VK}{aB:Nat->Addr}{ph1:PH}{H1:Hp}{ws:aQ}{J:It}{items:List W}{chk:PH->Bool}{D:Addr}(aL:aN X.K aB ph1 H1)(hS:bh X.K aB ph1.length H1 ws σ)(hJ:AV X.K J items chk aB ph1.length H1)(hD:H1 D=none)
  (h:(eh chk g c e ph1.length items (gq cap ws) (ph1++[.lst []])).Run (fun _ ph'=>∀aq H' v,aN X.K aq ph' H'->Step X.K aB ph1.length H1 aq ph'.length H'->aO X.K aq ph'.length H' (.ref ph1.length) v->Q v H') (fun _ _=>True)) :
  ∃W:Nat->Nat->L2.St->Hp->Prop,(∃m,W 0 m (kr cap σ) (upd H1 D (.lst []))) /\
   ∀i m bY H2,W i m bY H2->(J.stop i H2/\Q (.ref D) H2)\/(J.go i H2/\∀x H3,J.sr i H2 x H3->A4 X.K g x bY H3 fun j8 H4=>lT X.K c j8 H4 fun b H5=>
    if b=true then A3 X.K e j8 H5 fun v H6=>∃xs,H6 D=some (.lst xs)/\xs.length<acv/\∃m',m'<m/\W (i+1) m' j8 (upd H6 D (.lst (xs++[v]))) else ∃m',m'<m/\W (i+1) m' j8 H5):=by
 have nl:=k5 (ws:=[]) (vs:=[]) aL .nil hD;have hl:(ph1++[PO.lst []]).length=ph1.length+1:=by simp
 rw[hl] at nl;obtain⟨ba,s2,_⟩:=nl;refine⟨fun i m bY H2=>∃bc ph2 fK,m=(items.drop i).length/\aN X.K bc ph2 H2/\bh X.K bc ph2.length H2 fK bY/\Step X.K (ext aB ph1.length D) (ph1.length+1) (upd H1 D (.lst [])) bc ph2.length H2 /\
   (eh chk g c e ph1.length (items.drop i) fK ph2).Run (fun _ ph'=>∀aq H' v,aN X.K aq ph' H'->Step X.K bc ph2.length H2 aq ph'.length H'->aO X.K aq ph'.length H' (.ref ph1.length) v->Q v H') (fun _ _=>True),
  ⟨_,ext aB ph1.length D,ph1++[PO.lst []],gq cap ws,rfl,ba,?_,by rw[hl];exact Step.refl,?_⟩,?_⟩
 ·rw[hl];exact(bh.cap (hS.mono s2) cap)
 ·exact Out.Run.mono h (fun _ ph' k aq H' v r' d6 rv=>k aq H' v r' (s2.trans (by rw[hl] at d6;exact d6)) rv) fun _ _ _=>trivial
 rintro i m bY H2 ⟨bc,ph2,fK,rfl,A5,j0,bE,h4⟩;have aa9:bc ph1.length=D:=by rw[bE.eq _ (adS _),lg]
 cases hd:items.drop i with
 | nil=>
  rw[hd] at h4;unfold eh at h4;split at h4
  ·rename_i hc;have hn:items[i]? =none:=by
    have:items.length<=i:=by simpa using hd
    simpa using this
   refine .inl ⟨(hJ bc _ H2 A5 (s2.trans bE) hc i).2 hn,h4 bc H2 _ A5 Step.refl ?_⟩;rw[<- aa9];exact .ref (aca (adS _) bE.le)
  ·exact h4.elim
 | cons x xs=>
  rw[hd] at h4;unfold eh at h4;split at h4
  ·rename_i hc;have hx:items[i]? =some x:=by
    have:=congrArg (fun l=>l[0]?) hd
    simpa using this
   have n8:items.drop (i+1)=xs:=by
    have:=congrArg (fun l=>l.drop 1) hd
    simpa[agC,agh] using this
   obtain⟨jp,hy⟩:=(hJ bc _ H2 A5 (s2.trans bE) hc i).1 x hx;refine .inr ⟨jp,fun v H3 y=>?_⟩;obtain⟨f6,s3,rv⟩:=hy v H3 y;rw[cW] at h4;refine⟨bc,ph2,fK,x,f6,j0.mono s3,rv,(yC h4).mono (fun fL oa h5 hX H5 eN gW s5 fN=>?_) fun _ _ z=>z⟩;rw[cW] at h5;refine⟨hX,oa,fL,gW,fN,(yC h5).mono (fun t A6 h6 Kc H6 Ja s6=>?_) fun _ _ z=>z⟩;have A7:=(s3.trans s5).trans s6;have r8:=bE.trans A7;cases t with
   | false=>
    refine lA ⟨xs.length,by simp,Kc,A6,fL,by rw[n8],Ja,fN.mono s6,r8,?_⟩;rw[n8];exact Out.Run.mono h6 (fun _ ph' k aq H' v r' d6 q=>k aq H' v r' (A7.trans d6) q) fun _ _ z=>z
   | true=>
    have Jb:(au (dm (e fL)) (fun w=>au (lift (dt (.ref ph1.length) [w])) fun _=>eh chk g c e ph1.length xs fL) A6).Run _ _:=h6;rw[cW] at Jb;refine lB ⟨Kc,A6,fL,Ja,fN.mono s6,(yC Jb).mono (fun w7 ph7 h7 Kd H7 v7 Jc s7 r7=>?_) fun _ _ z=>z⟩;rw[cW] at h7;obtain⟨u8,ph8,e8,h8⟩:=run_lift h7;obtain⟨wsL,hL,hz,rfl⟩:=Rz e8;have s27:=A7.trans s7;have GN:=r8.trans s7;have Z5:Kd ph1.length=D:=by rw[GN.eq _ (adS _),lg]
    obtain⟨vs,hv,qv⟩:=Jc.hp _ _ hL;have cE:ph1.length<ph7.length:=(abV.mp hL).1;obtain⟨q1,q2⟩:=vn Jc hL (qv.append (.cons r7 .nil));rw[Z5] at hv q1 q2;refine⟨vs,hv,by rw[<- qv.length];exact hz,xs.length,by simp,Kd,_,fL,by rw[n8],q1,((fN.mono s6).mono s7).mono q2,GN.trans q2,?_⟩;rw[n8];exact Out.Run.mono h8 (fun _ ph' k aq H' v r' d6 q=>k aq H' v r' ((s27.trans q2).trans d6) q) fun _ _ z=>z
  ·exact h4.elim
theorem Ea{σ:L2.St}{H:Hp}{Q:VK}(h:tM X (cB im cap g c e) σ H Q):vV (tI X im) cap (A4 X.K g) (lT X.K c) (A3 X.K e) σ H Q:=by
 obtain⟨φ,ph,ws,hH,hS,h⟩:=h;unfold cB at h;rw[cW] at h;refine⟨φ,ph,ws,hH,hS,h.mono (fun r ph1 h aB H1 J aL s1 hJ D hD=>?_) fun _ _ z=>z⟩;rw[cW] at h;exact Tj aL (hS.mono s1) hJ hD (Out.Run.mono h (fun _ ph' k aq H' v r' d6 rv=>k aq H' v r' (s1.trans d6) rv) fun _ _ _=>trivial)
theorem PF.imp{t t':TT}(h:PF X ifs t)(k:∀σ H Q,t' σ H Q->t σ H Q):PF X ifs t':=fun pins s σ H Q I q=>h pins s σ H Q I (k σ H Q q)
noncomputable def cJ:TM:=fun _=>ax true
theorem Yw:PF X [] (lT X.K cJ):=PF.imp Yu fun σ H Q h=>by
 obtain⟨φ,ph,ws,hH,hS,h⟩:=h;exact h φ H hH Step.refl
theorem Yx{cd:Expr}(h:IT X cd c):PF X [cd] (lT X.K c):=Yv (t0 h)
theorem V1(hc:X.calm=true)(cp:kK X N cap scope)(hi:II X tg iter im)(hg:∀cl C aK aR ex,IG (blk X N scope cl C aK aR ex) tg g)(ht:∀cl C aK aR ex,PF (blk X N scope cl C aK aR ex) ifs (lT X.K c))
  (he:∀cl C aK aR ex,IE (blk X N scope cl C aK aR ex) elt e) (hs:∀x,adf iter X.env x=pure x:=by intro _;rfl):IE X (.ListComp elt [⟨tg,iter,ifs,0⟩] scope pos) (cB im cap g c e):=
 PE.imp (VZ hc cp hi (fun cl C aK aR ex=>g0 (hg cl C aK aR ex)) ht (fun cl C aK aR ex=>e0 (he cl C aK aR ex)) hs) fun _ _ _ h=>Ea h
theorem V2{i:Nat}{x:Str}{pos' pX:Pos}(hN:X.N.Nodup)(iM:X.N[i]? =some x)(hx:X.env.scope.names.lookup x=some .local)
  (hc:X.calm=true) (cp:kK X N cap scope) (hi:II X tg iter im) (hg:∀cl C aK aR ex,IG (blk X N scope cl C aK aR ex) tg g) (ht:∀cl C aK aR ex,PF (blk X N scope cl C aK aR ex) ifs (lT X.K c))
  (he:∀cl C aK aR ex,IE (blk X N scope cl C aK aR ex) elt e) (sE:aeA (.ListComp elt [⟨tg,iter,ifs,0⟩] scope pos) (some (.Name x pos')) pX.line X.env=pure true:=by rfl) (hs:∀x,adf iter X.env x=pure x:=by intro _;rfl) :
  IS X (.Assign [.Name x pos'] (.ListComp elt [⟨tg,iter,ifs,0⟩] scope pos) pX) (aE (cB im cap g c e) (gN i)):=
 PS.imp (V0 hN iM hx sE hc cp hi (fun cl C aK aR ex=>g0 (hg cl C aK aR ex)) ht (fun cl C aK aR ex=>e0 (he cl C aK aR ex)) hs) fun D σ H h=>by
  obtain⟨φ,ph,ws,hH,hS,h⟩:=h;unfold aE at h;rw[cW] at h;exact Ea ⟨φ,ph,ws,hH,hS,h.mono (fun w ph1 h aB H1 v aL s1 r1=>h aB H1 aL s1 _ ((hS.mono s1).set r1 i)) fun _ _ z=>z⟩
end
noncomputable def wF:List GM->List W->aQ->Mo aQ
 | [],[],σ=>ax σ
 | g::gs,w::ws,σ=>au (g w σ) fun ao=>wF gs ws ao
 | _,_,_=>dC
noncomputable def gT(gs:List GM):GM:=fun w σ=>match w with
 | .tup ws=>wF gs ws σ
 | _=>dC
noncomputable def sF(X:Cx)(gs:List GM):kD:=fun vs σ H Q=>∃φ ph ws xs,aN X.K φ ph H/\bh X.K φ ph.length H ws σ/\a9 X.K φ ph.length H xs vs/\(wF gs xs ws ph).Run (fun dn ph'=>
 ∀aq H' ao,aN X.K aq ph' H'->Step X.K φ ph.length H aq ph'.length H'->bh X.K aq ph'.length H' dn ao->Q ao H') (XE X φ ph.length H)
noncomputable def ji(n:Nat)(gs:List GM):GM:=fun w σ=>match w with
 | .tup ws=>if ws.length=n then wF gs ws σ else dC
 | _=>dC
section
variable{X:Cx}{tg:Expr}{es:List Expr}{g:GM}{gs:List GM}{pos:Pos}
theorem gw.imp{t t':kD}(h:gw X es t)(k:∀v σ H Q,t' v σ H Q->t v σ H Q):gw X es t':=fun pins s σ H v u Q I r q=>h pins s σ H v u Q I r (k v σ H Q q)
theorem V3:gw X [] (sF X []):=gw.imp Vz fun vs σ H Q h=>by
 obtain⟨φ,ph,ws,xs,hH,hS,r,h⟩:=h;cases r with
 | nil=>exact⟨rfl,h φ H σ hH Step.refl hS⟩
 | cons _ _=>exact h.elim
theorem UJ{e:Expr}(h1:IG X e g)(h2:gw X es (sF X gs))(hs:(adA (e::es) X.env).map (·.2)=agB e X.env::(adA es X.env).map (·.2):=by rfl):gw X (e::es) (sF X (g::gs)):=
 gw.imp (Uw h1 h2 hs) fun vs σ H Q h=>by
  obtain⟨φ,ph,ws,xs,hH,hS,r,h⟩:=h;cases r with
  | nil=>exact h.elim
  | cons fZ rr=>
   refine⟨_,_,rfl,tG.bind hH hS fZ h fun jZ ph1 aB H1 σ1 aL s1 iJ h1=>?_⟩;exact⟨aB,ph1,jZ,_,aL,iJ,rr.mono s1,h1.mono (fun dn ph' k aq H' ao r' s' q=>k aq H' ao r' (s1.trans s') q) fun _ _ z=>z⟩
theorem Yy{k n:Nat}(hc:X.calm=true)(h:gw X es (sF X gs))(hn:(adA es X.env).length=n:=by rfl)(d5:(adA es X.env).findIdx? (·.1)=none:=by rfl):IG X (.Tuple es k pos) (ji n gs):=
 PG.imp (Xu hc h hn d5) fun v σ H Q h=>by
  obtain⟨φ,ph,ws,w,hH,hS,r,h⟩:=h;unfold ji at h;cases r with
  | tup hq r=>
   simp only at h;split at h
   ·rename_i hl;exact⟨_,_,rfl,cN.of hq,by rw[<- r.length];exact hl,φ,ph,ws,_,hH,hS,r,h⟩
   ·exact h.elim
  | _=>exact h.elim
noncomputable def HJ(o i v:W):Po Unit:=fun ph=>match o,i with
 | .ref r,.int k=>match ph[r]? with
  | some (.lst ws)=>match gy ws.length k with
   | some j=>some ((),ph.set r (.lst (ws.set j v)))
   | none=>none
  | _=>none
 | _,_=>none
end
abbrev OM:=aQ->Mo (Option Int)
noncomputable def pH:List W->Po W:=fun xs ph=>match xs with
 | [w]=>match cT w ph with
  | some ws=>some (.ref ph.length,ph++[.lst ws])
  | none=>none
 | _=>none
theorem V4:gP K (fun xs H Q=>∃p ys,xs=[.ref p]/\(bP K H p ys\/cN K H p ys)/\∀l,H l=none->Q (.ref l) (upd H l (.lst ys))) pH:=by
 intro φ ph H xs vs w ph' Q hH r e k;unfold pH at e;split at e
 ·split at e
  ·rename_i w0 ws hw;cases e;cases r with
   | cons r r'=>
    cases r';obtain⟨a,ys,rfl,hs,rs⟩:=yA hH r hw;refine⟨a,ys,rfl,hs,fun l hl=>?_⟩;obtain⟨q1,q2,q3⟩:=k5 hH rs hl;exact k _ _ _ q1 q2 q3
  ·cases e
 ·cases e
noncomputable def Z6:List W->Po W:=fun xs=>match xs with
 | [.int i,.int j]=>ret (.int (if j>i then j else i))
 | _=>fG
noncomputable def Z7:List W->Po W:=fun xs=>match xs with
 | [.int i,.int j]=>ret (.int (if j<i then j else i))
 | _=>fG
noncomputable def ng(f f':W->W->Po W)(a b c:EM):EM:=fun σ=>au (a σ) fun x=>au (b σ) fun y=>au (lift (f x y)) fun z=>match z with
 | .bl k=>if k=true then au (c σ) fun u=>lift (f' y u) else ax (.bl false)
 | _=>dC
section
variable{X:Cx}{a b c:Expr}{ma mb mc:EM}{pos:Pos}{op jn:CmpOp}{r r':R2}{f f':W->W->Po W}
theorem Tn(hi:c5 X.K r f)(iM:c5 X.K r' f'){σ:L2.St}{H:Hp}{Q:VK}(h:tM X (ng f f' ma mb mc) σ H Q):FG r r' (tM X ma) (tM X mb) (tM X mc) σ H Q:=by
 obtain⟨φ,ph,ws,hH,hS,h⟩:=h;refine tM.bind hH hS h fun x ph1 aB H1 vx aL s1 rx h=>tM.bind aL (hS.mono s1) h fun y ph2 bc H2 vy ba s2 ry h=>?_
 rw[cW] at h;obtain⟨z,gX,e,h⟩:=run_lift h;refine hi ba (rx.mono s2) ry e fun gf H3 vz f6 s3 rz=>?_
 have hS3:=((hS.mono s1).mono s2).mono s3;cases rz with
 | bl k=>
  refine⟨k,rfl,?_⟩;cases k with
  | false=>exact lA (h gf H3 _ f6 ((s1.trans s2).trans s3) (.bl false))
  | true=>
   have h':(au (mc ws) (fun u=>lift (f' y u)) gX).Run (fun w ph'=>∀aq H' v,aN X.K aq ph' H'->Step X.K φ ph.length H aq ph'.length H'->aO X.K aq ph'.length H' w v->Q v H') (XE X gf gX.length H3):=Out.Run.mono h (fun _ _ z=>z) fun _ _ z=>z.step s3
   refine lB (tM.bind f6 hS3 h' fun u n9 qH H4 vu AW s4 ru h=>?_);obtain⟨w,ph',e',k'⟩:=run_lift h;exact iM AW ((ry.mono s3).mono s4) ru e' fun hX H5 v gW s5 r5=>k' hX H5 v gW ((((s1.trans s2).trans s3).trans s4).trans s5) r5
 | _=>exact h.elim
theorem UK(ho:bJ X (ado op) r)(hi:c5 X.K r f)(eB:bJ X (ado jn) r')(iM:c5 X.K r' f')(ha:IE X a ma)(hb:IE X b mb)(hc:IE X c mc)(hm:lastMarks [op,jn] [b,c]=false:=by with_unfolding_all rfl) :
  IT X (.Compare a [op,jn] [b,c] pos) (eT (ng f f' ma mb mc)):=PT.imp (Uz ho eB ha hb hc hm) fun σ H Q h=>by
 obtain⟨φ,ph,ws,hH,hS,h⟩:=h;refine Tn hi iM (tM.bind hH hS h fun x ph1 aB H1 vx aL s1 rx h=>?_);obtain⟨w,ph',e,k⟩:=run_lift h;split at e
 ·cases e;cases rx;exact⟨_,rfl,k aB H1 aL s1⟩
 ·cases e
end
structure eK(X:Cx)(N:List Str)(sc:Scope):Prop where
 hN:X.N=N
 jV:∀x,aA sc x->aA X.env.scope x
 loc:∀x,Loc sc x->Loc X.env.scope x
 gl:∀x,sc.names.lookup x=some .globalImplicit->Gl X x
 fn:∀x,Loc sc x->X.fn x=true\/X.env.scope.names.lookup x=some .local
 nd:N.Nodup
structure f9(X:Cx)(N:List Str)(sc:Scope)(k:Nat):Prop extends eK X N sc where
 calm:X.calm=true
 room:cS k X.A
structure Bd(X:Cx)(N:List Str)(sc:Scope)(k:Nat):Prop extends f9 X N sc k where
 Ao:agH (model X.prog X.w) X.A X.env X.xe
section
variable{X:Cx}{N:List Str}{sc:Scope}{k:Nat}{pos:Pos}
theorem eK.var(B:eK X N sc)(i:Nat){x:Str}(hN:N[i]? =some x)(hv:aA sc x)(hd:(x==("__debug__":Str))=false)(hcd:(x==("__classdict__":Str))=false):IE X (.Name x pos) (aa i):=
 XY i (hN:=by rw[B.hN];exact hN) (hv:=B.jV x hv) (hd:=hd) (hcd:=hcd)
theorem eK.name(B:eK X N sc)(i:Nat){x:Str}(hN:N[i]? =some x)(hl:Loc sc x):IG X (.Name x pos) (gN i):=
 VM (by rw[B.hN];exact B.nd) (by rw[B.hN];exact hN) (B.loc x hl) (B.fn x hl)
theorem eK.set(B:eK X N sc)(i:Nat){x:Str}{e:Expr}{m:EM}{pos':Pos}(hN:N[i]? =some x)(hl:Loc sc x)(he:IE X e m)(hs:aeA e (some (.Name x pos')) pos.line X.env=pure false:=by rfl):IS X (.Assign [.Name x pos'] e pos) (aE m (gN i)):=
 Ya (by rw[B.hN];exact B.nd) (by rw[B.hN];exact hN) (B.loc x hl) he hs (B.fn x hl)
theorem Bd.aba(B:Bd X N sc k){iter tg:Expr}{im:IM}{g:GM}{b:SM}{body:List Stmt}(hi:II X tg iter im)(hg:IG X tg g)(hb:iI X body b)(hs:∀x,adf iter X.env x=pure x:=by intro _;rfl):IS X (.For tg iter body [] pos) (dM im g b):=
 Yc B.Ao B.calm hi hg hb hs
theorem Bd.Yz(B:Bd X N sc k){c:Expr}{t:TM}{b:SM}{body:List Stmt}(hc:IT X c t)(hb:iI X body b):IS X (.While c body [] pos) (iY t b):=UE B.Ao hc hb
theorem B6{env:Env}{x:Str}:∀{names:List (Str×aet)},names.lookup x=some .globalImplicit →
  (names.map fun(n,k)=>if(k==acy&&env.scope.kind==.function&&env.kindOf n==some .cell) then(n,adK) else(n,k)).lookup x=some .globalImplicit
 | [],h=>by cases h
 | (n,k)::r,h=>by
  show aep x ((if(k==acy&&env.scope.kind==.function&&env.kindOf n==some .cell)=true then(n,adK) else(n,k))::_)=_;rw[acm] at h;cases q:x==n with
  | true=>
   rw[q] at h;cases h;have sG:¬((afS==acy&&env.scope.kind==.function&&env.kindOf n==some .cell)=true):=by
    rw[show(afS==acy)=false from rfl,aeZ,aeZ];exact acF
   rw[if_neg sG,acm,q]
  | false=>
   rw[q] at h;have ih:=B6 (env:=env) h;split
   ·rw[acm,q];exact ih
   ·rw[acm,q];exact ih
theorem Bd.blk(B:Bd X N sc k){N':List Str}{scope:Scope}{cl:List (Str×Addr)}{C:Addr}{aK:acb}{aR:Hp}{ex:List Addr}(hc:∀y∈scope.names,y.2≠.cell)(nd:N'.Nodup):Bd (blk X N' scope cl C aK aR ex) N' scope k where
 hN:=rfl
 jV:=fun x h=>by
  rcases h with h | h | h
  ·exact .inl (afl (env:=X.env) h)
  ·exact absurd rfl (hc _ (mem_lookup h))
  ·exact .inr (xA (env:=X.env) h)
 loc:=fun x h=>by
  rcases h with h | h
  ·exact .inl (afl (env:=X.env) h)
  ·exact absurd rfl (hc _ (mem_lookup h))
 gl:=fun x h=>B6 (env:=X.env) h
 calm:=B.calm
 room:=B.room
 fn:=fun x h=>by
  rcases h with h | h
  ·exact .inr (afl (env:=X.env) h)
  ·exact absurd rfl (hc _ (mem_lookup h))
 Ao:=agk
 nd:=nd
noncomputable def GO(sc scope:Scope)(N N':List Str)(cap:List (Option Nat)):Bool:=
 cap.length==N'.length&&(acC N'.length).all (fun i=>match cap[i]? with
  | some (some j)=>(match N'[i]? with
   | some x=>N[j]? ==some x&&scope.names.lookup x==some .free&&(sc.names.lookup x==some .cell||sc.names.lookup x==some .free)
   | none=>false)
  | _=>true)&&scope.names.all (fun y=>y.2 != .cell&&(y.2 != .free||sc.names.lookup y.1==some .cell||sc.names.lookup y.1==some .free)&&(y.2 != .local||scope.names.lookup y.1==some .local))&&scope.kind==.function
theorem Bd.cap(hN:X.N=N)(aF:X.env.scope=sc){N':List Str}{scope:Scope}{cap:List (Option Nat)}(h:GO sc scope N N' cap=true):kK X N' cap scope:=by
 unfold GO at h;simp only[aco,adk,beq_iff_eq,bne_iff_ne,adE,ne_eq] at h;obtain⟨⟨⟨h1,h2⟩,h3⟩,h4⟩:=h;have hk:∀x,X.env.kindOf x=sc.names.lookup x:=fun x=>by unfold Env.kindOf;rw[aF]
 refine⟨h1,fun i j x e1 e2=>?_,fun y hy hf=>?_,fun y hy=>(h3 y hy).1.1,h4,fun y hy hl=>?_⟩
 ·have hi:i<N'.length:=(abV.mp e1).1;have:=h2 i (ade.mpr hi);rw[e2,e1] at this;simp only[aco,beq_iff_eq,adE] at this;obtain⟨⟨a1,a2⟩,a3⟩:=this;rw[hN,hk];exact⟨a1,a2,a3⟩
 ·rw[hk]
  rcases(h3 y hy).1.2 with(z | z) | z
  ·exact absurd hf z
  ·exact .inl z
  ·exact .inr z
 ·rcases(h3 y hy).2 with z | z
  ·exact absurd hl z
  ·exact z
end
noncomputable def isStar:Expr->Bool
 | .Starred .. =>true
 | _=>false
theorem jF{e:Expr}{es:List Expr}(h:isStar e=false):acM (e::es) env=(false,eval e env)::acM es env:=by
 cases e <;> first | rfl | cases h
noncomputable def eR(es:List Expr):Bool:=es.all fun e=> !isStar e
theorem any_none{env:Env}{pos:Pos}:∀{es:List Expr},eR es=true->(afk pos (acM es env)).any (·.1)=false
 | [],_=>rfl
 | e::es,h=>by
  unfold eR at h;rw[adW,aco] at h;have h1:isStar e=false:=by simpa using h.1
  rw[jF h1];show(false||(afk pos (acM es env)).any (·.1))=false;rw[any_none (es:=es) h.2];rfl
theorem all_none{env:Env}{pos:Pos}:∀{es:List Expr},eR es=true->(afk pos (acM es env)).all (fun x=> !x.1)=true
 | [],_=>rfl
 | e::es,h=>by
  unfold eR at h;rw[adW,aco] at h;have h1:isStar e=false:=by simpa using h.1
  rw[jF h1];show(!false&&(afk pos (acM es env)).all (fun x=> !x.1))=true;rw[all_none (es:=es) h.2];rfl
section
variable{X:Cx}{e:Expr}{es:List Expr}{m:EM}{a:AM}{pos:Pos}
theorem abb(h:isStar e=false)(he:IE X e m)(hr:IA X es a):IA X (e::es) (ae m a):=VQ he hr (jF h)
end
section
variable{X:Cx}{k:Nat}{f:Addr}{fd:acP}{ps:List Str}{fm:List W->Mo W}{x:Str}{p pos:Pos}{e:Expr}{es:List Expr}{a:AM}
theorem YA(hn:eR (e::es)=true)(dE:(x==("__debug__":Str))=false)(F:bT X.prog X.w X.K X.mg X.base (bp X.prog X.w) k f fd ps (b7 X.K X.mg ps.length fm))(hl:∀{xs:List W} {ph:PH},xs.length≠ps.length->fm xs ph=.no)(hr:cS k X.A)(hg:Gl X x)(hm:X.mg x=some (.ref f))
  (hk:acn X.K (.ref f)=true) (hb:Binds X.K fd ps []) (ha:IA X (e::es) a):IE X (.Call (.Name x p) (e::es) [] pos) (aX fm a):=by
 unfold eR at hn;rw[adW,aco] at hn;exact VS F hl hr hg hm hk hb ha dE (jF (by simpa using hn.1)) (any_none hn.2)
variable{t:AM}{id T:String}{r:List V->Hp->VK->Prop}{fp:List W->Po W}
theorem YB(bX:eR (e::es)=true)(hn:x≠"__name__")(dE:(x==("__debug__":Str))=false)(hc:c9 X (.builtin id) r)(hi:gP X.K r fp)(hg:Gl X x)(hm:X.mg x=none)(hv:adD x=some (.builtin id))(ha:IA X (e::es) t):IE X (.Call (.Name x p) (e::es) [] pos) (bv fp t):=by
 unfold eR at bX;rw[adW,aco] at bX;exact UG hc hi hg hm hv ha hn dE (jF (by simpa using bX.1)) (any_none bX.2)
theorem YC(bX:eR (e::es)=true)(hn:x≠"__name__")(dE:(x==("__debug__":Str))=false)(hc:c9 X (.type T) r)(hi:gP X.K r fp)(hg:Gl X x)(hm:X.mg x=none)(hv:adD x=some (.type T))(ha:IA X (e::es) t):IE X (.Call (.Name x p) (e::es) [] pos) (bv fp t):=by
 unfold eR at bX;rw[adW,aco] at bX;exact Th hc hi hg hm hv ha hn dE (jF (by simpa using bX.1)) (any_none bX.2)
end
section
variable{X:Cx}{o e:Expr}{es:List Expr}{mo:EM}{t:AM}{name:Str}{apos eV:Pos}{T id:String}{r:V->List V->Hp->VK->Prop}{ty:W->PH->Bool}{f:W->List W->Po W}
theorem YD(bX:eR (e::es)=true)(cL:decide ((e::es).length<30)=true)(pa:agP T)(slot:Slot T name id)(n6:typeOf (.builtin id)=pure (.type "method_descriptor"))(hm:qp X id r)(ht:qt X.K T ty)(hi:lR X.K T r f)(ho:IE X o mo)(ha:IA X (e::es) t)
  (nB:afP o name X.env (eval o X.env)=eval o X.env:=by rfl) (nC:(apos.endLine==eV.line)=true:=by rfl):IE X (.Call (.Attribute o name apos) (e::es) [] eV) (bR ty f mo t):=by
 have jf:=all_none (env:=X.env) (pos:=eV) bX;unfold eR at bX;rw[adW,aco] at bX;refine Z0 pa slot n6 hm ht hi ho ha nB ?_ nC (jF (by simpa using bX.1)) (any_none bX.2);rw[jf,show(backToKw eV (keywordEach [] X.env)).all (fun x=>x.1.isSome)=true from rfl]
 simpa using cL
end
structure JE(X:Cx)(e:Expr)(m:EM):Prop where
 h:IE X e m
structure JT(X:Cx)(e:Expr)(m:TM):Prop where
 h:IT X e m
structure JW(X:Cx)(e:Expr)(m:TM):Prop where
 h:PW X e (tT X m)
structure JA(X:Cx)(es:List Expr)(m:AM):Prop where
 h:IA X es m
structure JS(X:Cx)(st:Stmt)(m:SM):Prop where
 h:IS X st m
structure JB(X:Cx)(st:List Stmt)(m:SM):Prop where
 h:iI X st m
structure JG(X:Cx)(e:Expr)(g:GM):Prop where
 h:IG X e g
structure wY(X:Cx)(es:List Expr)(gs:List GM):Prop where
 h:gw X es (sF X gs)
structure JI(X:Cx)(tg iter:Expr)(im:IM):Prop where
 h:II X tg iter im
structure JF(X:Cx)(ifs:List Expr)(c:TM):Prop where
 h:PF X ifs (lT X.K c)
section
variable{X:Cx}{N:List Str}{sc:Scope}{k:Nat}{a b c e o:Expr}{es rest:List Expr}{ma mb mc m mo:EM}{ta tb t:TM}{am:AM}{sa sb:SM}{st:Stmt}{as bs body:List Stmt}{p p2 pos pos':Pos}{g:GM}{gs:List GM}{im:IM}{tg iter:Expr}
theorem eK.abc(B:eK X N sc)(i:Nat){x:Str}(hN:N[i]? =some x)(hv:aA sc x)(hd:(x==("__debug__":Str))=false)(hcd:(x==("__classdict__":Str))=false):JE X (.Name x pos) (aa i):=⟨B.var i hN hv hd hcd⟩
variable{j:Nat}
theorem ak{i:Int}:JE X (.Constant (.int i) j pos) (eC (.int i)):=⟨XZ⟩
theorem aS{x:Str}:JE X (.Constant (.str x) j pos) (eC (.str x)):=⟨X0⟩
theorem rL{x:Bool}:JE X (.Constant (.bool x) j pos) (eC (.bl x)):=⟨ZS⟩
theorem nh:JE X (.Constant .none j pos) (eC .aI):=⟨X1⟩
theorem nj(ha:JE X a ma):JE X (.UnaryOp .USub a pos) (fv eW ma):=⟨ZT XH Yj ha.h⟩
theorem dD(ha:JE X a ma)(hb:JE X b mb):JE X (.BinOp a .Add b pos) (ab addW ma mb):=⟨rJ VU Yo ha.h hb.h⟩
theorem lh(ha:JE X a ma)(hb:JE X b mb):JE X (.BinOp a .Sub b pos) (ab fU ma mb):=⟨rJ XF Yk ha.h hb.h⟩
theorem cO(ha:JE X a ma)(hb:JE X b mb):JE X (.BinOp a .Mod b pos) (ab bC ma mb):=⟨rJ VB Yl ha.h hb.h⟩
theorem ee(ha:JE X a ma)(hb:JE X b mb):JE X (.BinOp a .FloorDiv b pos) (ab cy ma mb):=⟨rJ UI Ym ha.h hb.h⟩
structure Cp(X:Cx)(op:CmpOp)(b:Expr)(f:W->W->Po W):Prop where
 ex:∃r,bJ X (ado op) r/\c5 X.K r f
 bm:adT op b=false
theorem pI:Cp X .Lt b gC:=⟨⟨_,ZK,zh⟩,m9 _⟩
theorem Z8:Cp X .LtE b sD:=⟨⟨_,ZL,zh⟩,m9 _⟩
theorem zO:Cp X .Gt b gY:=⟨⟨_,ZM,zh⟩,m9 _⟩
theorem f9.eq(B:f9 X N sc k):Cp X .Eq b aH:=⟨⟨_,Yq B.room.units,Z1⟩,m9 _⟩
theorem f9.ne(B:f9 X N sc k):Cp X .NotEq b fy:=⟨⟨_,Yr B.room.units,Z2⟩,m9 _⟩
theorem GP:Cp X .Is b iy:=⟨⟨_,XI,Yp⟩,m9 _⟩
theorem YE:Cp X .IsNot b lr:=⟨⟨_,VC,VV⟩,m9 _⟩
variable{f:W->W->Po W}
theorem lj{op:CmpOp}(hc:Cp X op b f)(ha:JE X a ma)(hb:JE X b mb):JE X (.Compare a [op] [b] pos) (ab f ma mb):=let ⟨_,h1,h2⟩:=hc.ex;⟨X2 h1 h2 ha.h hb.h hc.bm⟩
theorem aU{op:CmpOp}(hc:Cp X op b f)(ha:JE X a ma)(hb:JE X b mb):JT X (.Compare a [op] [b] pos) (eT (ab f ma mb)):=let ⟨_,h1,h2⟩:=hc.ex;⟨X3 h1 h2 ha.h hb.h hc.bm⟩
theorem UL{op jn:CmpOp}{f':W->W->Po W}(h1:Cp X op b f)(h2:Cp X jn c f')(hm:lastMarks [op,jn] [b,c]=false)(ha:JE X a ma)(hb:JE X b mb)(hc:JE X c mc):JT X (.Compare a [op,jn] [b,c] pos) (eT (ng f f' ma mb mc)):=
 let ⟨_,q1,q2⟩:=h1.ex;let ⟨_,q3,q4⟩:=h2.ex;⟨UK q1 q2 q3 q4 ha.h hb.h hc.h hm⟩
theorem vQ{op:BoolOp}(ha:JE X a ma):JE X (.BoolOp op [a] pos) ma:=⟨X8 ha.h⟩
theorem zi(ha:JE X a ma)(hb:JE X (.BoolOp .And (b::rest) pos) mb):JE X (.BoolOp .And (a::b::rest) pos) (pU ma mb):=⟨X7 ha.h hb.h⟩
theorem Z9(ha:JE X a ma)(hb:JE X (.BoolOp .Or (b::rest) pos) mb):JE X (.BoolOp .Or (a::b::rest) pos) (wV ma mb):=⟨ZW ha.h hb.h⟩
theorem fD{op:BoolOp}(ha:JT X a ta):JW X (.BoolOp op [a] pos) ta:=⟨X5 ha.h⟩
theorem i0(ha:JT X a ta)(hb:JW X (.BoolOp .And (b::rest) pos) tb):JW X (.BoolOp .And (a::b::rest) pos) (cQ ta tb):=⟨X6 ha.h hb.h⟩
theorem kj(ha:JT X a ta)(hb:JW X (.BoolOp .Or (b::rest) pos) tb):JW X (.BoolOp .Or (a::b::rest) pos) (dj ta tb):=⟨ZV ha.h hb.h⟩
theorem fI(h:JW X a ta):JT X a ta:=⟨h.h.pt⟩
theorem YF(ha:JT X a ta):JT X (.UnaryOp .Not a pos) (rK ta):=⟨X4 ha.h⟩
theorem av:JA X [] ah:=⟨Yf⟩
theorem aj(h:isStar e=false)(he:JE X e m)(hr:JA X es am):JA X (e::es) (ae m am):=⟨abb h he.h hr.h⟩
theorem cH{x1:Nat}(h:JA X es am):JE X (.Tuple es x1 pos) (bB am):=⟨Yg h.h⟩
theorem de(h:JA X es am):JE X (.List es pos) (bI am):=⟨Yh h.h⟩
theorem cb:JB X [] bN:=⟨VI⟩
theorem aJ{rs:List Stmt}(h1:JS X st sa)(h2:JB X rs sb):JB X (st::rs) (ay sa sb):=⟨UD h1.h h2.h⟩
theorem aM(h1:JS X st sa):JB X [st] sa:=⟨VJ h1.h⟩
theorem bo(he:JE X e m):JS X (.Return (some e) pos) (aZ m):=⟨X9 he.h⟩
noncomputable def zj:Expr->Bool
 | .ListComp .. =>false | .SetComp .. =>false | .DictComp .. =>false
 | _=>true
theorem Eb{x:Option Expr}{n:Nat}{env:Env}(h:zj e=true):aeA e x n env=pure false:=by
 cases e <;> first | rfl | cases h
theorem fR(hn:zj e=true)(he:JE X e m):JS X (.Expr e pos) (da m):=⟨VL he.h (Eb hn)⟩
theorem bH(hc:JT X c t)(ha:JB X as sa)(hb:JB X bs sb):JS X (.If c as bs pos) (aW t sa sb):=⟨ZX hc.h ha.h hb.h⟩
theorem eK.a8(B:eK X N sc)(i:Nat){x:Str}(hN:N[i]? =some x)(hl:Loc sc x)(hn:zj e=true)(he:JE X e m):JS X (.Assign [.Name x pos'] e pos) (aE m (gN i)):=⟨B.set i hN hl he.h (Eb hn)⟩
theorem i6(he:JE X e m)(hg:JG X tg g)(hs:swapsWithSole [tg] e pos.line X.env=pure false:=by rfl)(hw:swappedStores [tg] e X.env=pure none:=by rfl)
  (h1:(adA [tg] X.env).map (·.2)=[agB tg X.env]:=by rfl):JS X (.Assign [tg] e pos) (aE m g):=⟨Yb he.h hg.h hs hw h1⟩
theorem eK.cK(B:eK X N sc)(i:Nat){x:Str}(hN:N[i]? =some x)(hl:Loc sc x):JG X (.Name x pos) (gN i):=⟨B.name i hN hl⟩
theorem yY:wY X [] []:=⟨V3⟩
theorem pe(h1:JG X e g)(h2:wY X es gs)(hs:(adA (e::es) X.env).map (·.2)=agB e X.env::(adA es X.env).map (·.2):=by rfl):wY X (e::es) (g::gs):=⟨UJ h1.h h2.h hs⟩
theorem zk{n:Nat}(hc:X.calm=true)(h:wY X es gs)(hn:(adA es X.env).length=n:=by rfl)(d5:(adA es X.env).findIdx? (·.1)=none:=by rfl):JG X (.Tuple es j pos) (ji n gs):=⟨Yy hc h.h hn d5⟩
theorem Bd.gR(B:Bd X N sc k)(hi:JI X tg iter im)(hg:JG X tg g)(hb:JB X body sb)(hs:∀x,adf iter X.env x=pure x:=by intro _;rfl):JS X (.For tg iter body [] pos) (dM im g sb):=⟨B.aba hi.h hg.h hb.h hs⟩
theorem Bd.zl(B:Bd X N sc k)(hc:JT X c t)(hb:JB X body sb):JS X (.While c body [] pos) (iY t sb):=⟨B.Yz hc.h hb.h⟩
theorem ia(hg:Gl X "range")(hm:X.mg "range"=none)(hn:isStar a=false)(ha:JA X [a] am):JI X tg (.Call (.Name "range" p) [a] [] pos) (cD am):=⟨Tf hg hm ha.h (jF hn)⟩
theorem bZ{k:Nat}{f:Addr}{fd:acP}{ps:List Str}{fm:List W->Mo W}{x:Str}(hn:eR (e::es)=true)(dE:(x==("__debug__":Str))=false)(F:bT X.prog X.w X.K X.mg X.base (bp X.prog X.w) k f fd ps (b7 X.K X.mg ps.length fm))(hl:∀{xs:List W} {ph:PH},xs.length≠ps.length->fm xs ph=.no)(hr:cS k X.A)(hg:Gl X x)(hm:X.mg x=some (.ref f))
  (hk:acn X.K (.ref f)=true) (hb:Binds X.K fd ps []) (ha:JA X (e::es) am):JE X (.Call (.Name x p) (e::es) [] pos) (aX fm am):=⟨YA hn dE F hl hr hg hm hk hb ha.h⟩
theorem gL{x:Str}{id:String}{r:List V->Hp->VK->Prop}{fp:List W->Po W}(bX:eR (e::es)=true)(hn:x≠"__name__")(dE:(x==("__debug__":Str))=false)(hc:c9 X (.builtin id) r)(hi:gP X.K r fp)(hg:Gl X x)(hm:X.mg x=none)(hv:adD x=some (.builtin id))(ha:JA X (e::es) am):JE X (.Call (.Name x p) (e::es) [] pos) (bv fp am):=⟨YB bX hn dE hc hi hg hm hv ha.h⟩
theorem nr{x:Str}{T:String}{r:List V->Hp->VK->Prop}{fp:List W->Po W}(bX:eR (e::es)=true)(hn:x≠"__name__")(dE:(x==("__debug__":Str))=false)(hc:c9 X (.type T) r)(hi:gP X.K r fp)(hg:Gl X x)(hm:X.mg x=none)(hv:adD x=some (.type T))(ha:JA X (e::es) am):JE X (.Call (.Name x p) (e::es) [] pos) (bv fp am):=⟨YC bX hn dE hc hi hg hm hv ha.h⟩
theorem dw{name:Str}{T id:String}{r:V->List V->Hp->VK->Prop}{ty:W->PH->Bool}{f:W->List W->Po W}(bX:eR (e::es)=true)(cL:decide ((e::es).length<30)=true)(pa:agP T)(slot:Slot T name id)(n6:typeOf (.builtin id)=pure (.type "method_descriptor"))(hm:qp X id r)(ht:qt X.K T ty)(hi:lR X.K T r f)(ho:JE X o mo)(ha:JA X (e::es) am)
  (nB:afP o name X.env (eval o X.env)=eval o X.env:=by rfl) (nC:(p.endLine==pos.line)=true:=by rfl):JE X (.Call (.Attribute o name p) (e::es) [] pos) (bR ty f mo am):=⟨YD bX cL pa slot n6 hm ht hi ho.h ha.h nB nC⟩
theorem i7:JF X [] cJ:=⟨Yw⟩
theorem zm(h:JT X c t):JF X [c] t:=⟨Yx h.h⟩
theorem k8{scope:Scope}{ifs:List Expr}{N':List Str}{cap:List (Option Nat)}(hc:X.calm=true)(cp:kK X N' cap scope)(hi:JI X tg iter im)(hg:∀cl C aK aR ex,JG (blk X N' scope cl C aK aR ex) tg g)(ht:∀cl C aK aR ex,JF (blk X N' scope cl C aK aR ex) ifs t)
  (he:∀cl C aK aR ex,JE (blk X N' scope cl C aK aR ex) e m) (hs:∀x,adf iter X.env x=pure x:=by intro _;rfl):JE X (.ListComp e [⟨tg,iter,ifs,0⟩] scope pos) (cB im cap g t m):=
 ⟨V1 hc cp hi.h (fun cl C aK aR ex=>(hg cl C aK aR ex).h) (fun cl C aK aR ex=>(ht cl C aK aR ex).h) (fun cl C aK aR ex=>(he cl C aK aR ex).h) hs⟩
theorem pj{scope:Scope}{ifs:List Expr}{N':List Str}{cap:List (Option Nat)}{i:Nat}{x:Str}(hN:X.N.Nodup)(iM:X.N[i]? =some x)(hx:X.env.scope.names.lookup x=some .local)
  (hc:X.calm=true) (cp:kK X N' cap scope) (hi:JI X tg iter im) (hg:∀cl C aK aR ex,JG (blk X N' scope cl C aK aR ex) tg g) (ht:∀cl C aK aR ex,JF (blk X N' scope cl C aK aR ex) ifs t)
  (he:∀cl C aK aR ex,JE (blk X N' scope cl C aK aR ex) e m) (sE:aeA (.ListComp e [⟨tg,iter,ifs,0⟩] scope p) (some (.Name x pos')) pos.line X.env=pure true) (hs:∀x,adf iter X.env x=pure x:=by intro _;rfl) :
  JS X (.Assign [.Name x pos'] (.ListComp e [⟨tg,iter,ifs,0⟩] scope p) pos) (aE (cB im cap g t m) (gN i)):=
 ⟨V2 hN iM hx hc cp hi.h (fun cl C aK aR ex=>(hg cl C aK aR ex).h) (fun cl C aK aR ex=>(ht cl C aK aR ex).h) (fun cl C aK aR ex=>(he cl C aK aR ex).h) sE hs⟩
end
open PySem PySem.Spec PyProof.Rows L2 PySem.W Builtin.ObjectAttr Builtin.Getset_descriptor
noncomputable def A8(x:XC):Mo α:=fun ph=>.ex x ph
open PySem PySem.Spec PyProof.Rows L2 PySem.W
structure cU(X:Cx):Prop where
 st:X.stack=X.env::X.outer
 fr:X.env.frame=some X.env.locals
 ex:X.ex=[]
theorem UM(ha:H a=none):Step K φ n H φ n (upd H a o):=by
 refine⟨abZ _,fun _ _=>rfl,fun c xs h=>?_,fun c ob u h=>by rw[aT (fun z=>by rw[z,ha] at h;cases h)];exact h⟩;rw[aT (fun z=>by rw[z,ha] at h;cases h)];exact h
theorem Ec(h:aN K φ ph H)(ha:H a=none):aN K φ ph (upd H a o):=
 ⟨fun i p e=>by
  obtain⟨x,hx,_⟩:=h.at (abV.mp e).1;exact(h.hp i p e).mono (UM ha) (aT fun z=>by rw[z,ha] at hx;cases hx),h.inj,fun p hm=>(h.tb p hm).new ha⟩
noncomputable def sH(ph:PH)(x y:W):Option Nat:=match(if b9 x ph=true then cT x ph else none),dat ph 40 y with
 | some ws,some dy=>(bD (dat ph 40) ws).bind fun ds=>ds.findIdx? fun d=>acW d dy
 | _,_=>none
noncomputable def pB(x:W)(ys:List W):Po W:=fun ph=>match ys with
 | [y]=>(sH ph x y).map fun(j:Nat)=>(W.int ((j:Nat):Int),ph)
 | _=>none
noncomputable def FK(K:abW):V->List V->Hp->VK->Prop:=fun x ys H Q=>∃(φ:Nat->Addr) (ph:PH) (wx wy:W) (y:V) (j:Nat),ys=[y]/\aN K φ ph H/\aO K φ ph.length H wx x/\aO K φ ph.length H wy y/\sH ph wx wy=some j/\Q (.int j) H
theorem FL{X:Cx}{pins:List (Addr×Obj)}{σ:L2.St}{H:Hp}{s:acb}{φ:Nat->Addr}{ph:PH}(I:Inv X pins σ H s)(hH:aN X.K φ ph H){dx:aeC}:∀{ws:List W} {vs:List V} {us:List Value} {ds:List aeC},a9 X.K φ ph.length H ws vs->Vals vs us->bD (dat ph 40) ws=some ds →
  us.findIdx? (ki s dx)=ds.findIdx? fun d=>acW d dx
 | _,_,_,_,.nil,.nil,e=>by cases e;rfl
 | w::ws,_,_,ds,.cons h r,.cons hv rv,e=>by
  unfold bD at e;split at e
  ·rename_i b bs e1 e2;cases e;have q:=kZ I hH 40 h hv e1;rw[List.findIdx?_cons,List.findIdx?_cons,FL I hH r rv e2,vp q]
  ·cases e
theorem V5{x:W}(hH:aN K φ ph H)(r:aO K φ ph.length H x v)(h:b9 x ph=true)(e:cT x ph=some ws):∃a vs,v=.ref a/\bP K H a vs/\a9 K φ ph.length H ws vs:=by
 unfold b9 at h;unfold cT at e;cases r with
 | fl hq r=>cases e;exact⟨_,_,rfl,hq.sq,r⟩
 | ref hi=>
  simp only at e;split at e
  ·rename_i dn hw;cases e;obtain⟨vs,hv,r⟩:=hH.hp _ _ hw;exact⟨_,vs,rfl,bP.of hv,r⟩
  ·cases e
 | _=>cases h
theorem UN(hu:X.A.units+64<cLine):qp X "list.index" (FK X.K):=by
 intro pins s σ H x xs v us Q I rx rv h;obtain⟨φ,ph,wx,wy,y,j,rfl,hH,r1,r2,e,q⟩:=h;obtain⟨u,rfl,ru⟩:=rv.one;unfold sH at e;split at e
 ·rename_i ws dy hs hd;have hL:b9 wx ph=true:=by
   cases z:b9 wx ph with
   | true=>rfl
   | false=>rw[z,if_neg acF] at hs;cases hs
  rw[if_pos hL] at hs;obtain⟨ds,e1,e2⟩:=afT.mp e;obtain⟨a,vs,rfl,hq,rs⟩:=V5 hH r1 hL hs;cases rx;obtain⟨its,qv,⟨o,n,ho,hc,hdn,sI⟩,hz⟩:=I.list hq;obtain⟨oc,od,odt,fX⟩:=o;cases(show oc=_ from hc);cases(show odt=_ from sI);obtain⟨⟨as,k1⟩,c1,l1⟩:=kZ I hH 40 r2 ru hd;have q2:=(yX I hH (dx:=dy) rs qv e1).2;rw[<- FL I hH rs qv e1,List.findIdx?_eq_some_iff_getElem] at e2;obtain⟨hj,hit,sG⟩:=e2;have cL:its.length<=sizeLine:=by rw[<- qv.length];exact hz
  refine afH F.slot_list_index ⟨_,ho,rfl⟩ F.entry_list_index (F.args_list_index_2 _ _) (SeqAt.list_indexAt a its.toArray n od fX u (ki s dy) j (by simpa using hj) ?_ (by simpa using hit) fun m hm hmj=>?_) ⟨ho,fun z A9=>?_,.int _,H,I.tok _,⟨_,rfl⟩,q⟩
  ·have:(j:Int)<its.length:=by exact_mod_cast hj
   have h2:((its.length:Nat):Int)<=(acv:Nat):=by exact_mod_cast cL
   have h3:((acv:Nat):Int)<=2 ^ 62:=by rw[sizeLine_eq];decide
   omega
  ·have:=sG m hmj
   simpa using this
  ·obtain⟨d,kC⟩:=q2 z (by simpa using A9);rw[vp kC];obtain⟨⟨bs,k2⟩,c2,l2⟩:=kC;intro prog w E Q hQ;exact agy prog w _ E s z u d dy bs as Q k2 k1 c2 c1 (by show X.A.units+1+_<_;omega) hQ
 ·cases e
theorem UO:lR K "list" (FK K) pB:=by
 intro φ ph H x xs vx vs w ph' Q hH rx rs e k;unfold pB at e;split at e
 ·obtain⟨j,e1,e2⟩:=ace.mp e;cases e2;cases rs with
  | cons r0 r1=>
   cases r1;exact⟨φ,ph,x,_,_,j,rfl,hH,rx,r0,e1,k φ H _ hH Step.refl (.int _)⟩
 ·cases e
variable{P:adl}
theorem du{w:World}{mg:Str->Option Value}{base:Heap}{x qual:Str}{st:Stmt}{f:Addr}{fd:acP}{N ps:List Str}{k np:Nat}{body:SM}(hn:N.length=n)(hp:ps.length=np)(F:cm K x qual st f fd)(S:cu N ps (af st))
  (kh:∀{X:Cx},X.prog=P->X.w=w->X.K=K->X.mg=mg->X.base=base->Bd X N (af st) k->cU X->X.env.scope=af st->JB X (aY st) body):bT P w K mg base (bp P w) (k+1) f fd ps (b7 K mg np (fM body n np)):=by
 subst hn hp;exact Yi F S fun bG A outer s H E hr=>(kh (X:=dJ (bp P w) P w K mg base N qual (af st) f bG A outer s H E) rfl rfl rfl rfl rfl ⟨⟨⟨rfl,fun _ z=>z,fun _ z=>z,fun _ z=>z,fun _ _=>.inl rfl,S.nd⟩,rfl,hr⟩,agS⟩ ⟨rfl,rfl,rfl⟩ rfl).h
noncomputable def iW(o:Obj):Option Addr:=match o.cls,o.data with
 | .type t,.fields vs=>if t="code" then(match(vs[11]? :Option Value),vs.getD 18 .none,vs.getD 7 .none,vs.getD 9 .none,vs.getD 10 .none with
  | some (.ref P),.str _ _,.int _ _,.bool _,.int _ _=>some P
  | _,_,_,_,_=>none) else none
 | _,_=>none
theorem DI{h:Heap}{c P:Addr}{o:Obj}(e:h.get? c=some o)(t:iW o=some P)(hn:c≠P):aeD h c P:=by
 unfold iW at t;split at t
 ·rename_i t0 vs h1 h2;split at t
  ·rename_i ht;split at t
   ·rename_i P' f tf fl tg b tx tt g1 g2 g3 g4 g5;cases t;refine⟨o,vs,f,tf,fl,tg,b,tx,tt,e,by rw[h1,ht],h2,g1,?_,g2,g3,g4,g5,hn⟩;rw[Array.getD_eq_getD_getElem?,g1];rfl
   ·cases t
  ·cases t
 ·cases t
noncomputable def nF(K:abW)(b:Addr):Bool:=(dP K).any fun p=>p.2.2==b
theorem Ed{b:Addr}(h:nF K b=true):∃p∈dP K,p.2.2=b:=by
 obtain⟨p,h1,h2⟩:=afj.mp h;exact⟨p,h1,eq_of_beq h2⟩
theorem To{p:Str×Addr×Addr}(h:p∈dP K):nF K p.2.2=true:=afj.mpr ⟨p,h,beq_self_eq_true _⟩
noncomputable def H0(K:abW)(a:Addr)(o:Obj)(xs:List V):Hp:=fun b=>if nF K b=true then some (.c4 #[]) else if b=a/\K.lookup a=none then some (.aV o (.lst xs)) else none
section
variable{Pg:adl}{w:World}{K:abW}{mg mb:Str->Option Value}{k:Nat}{fa a:Addr}{fd:acP}{x:Str}{bM:acb}{vs:List Value}{ns:List Int}{fm:List W->Mo W}
theorem UP(KX:K.In bM.heap)(bX:bM.heap.Ns ach mg)(hb:bM.heap.Ns afm mb)(oe:∀x:Str,x≠"__name__"->mb x=adD x)(abd:bM.heap.NoLimit)
  (hbm:∃bm ob,mg "__builtins__"=some (.ref bm)/\bm≠afm/\bM.heap.get? bm=some ob/\ob.cls=.type "module"/\ob.dict=some afm/\ob.data=.plain) (hg:bM.gens= #[])
  (hT:∀p∈dP K,aeD bM.heap p.2.1 p.2.2/\bM.heap.get? p.2.2=some (adM #[])) (hK:agD K=true)
  (ha:bM.heap.get? a=some { cls:=.type "list",data:=.seq vs.toArray }) (hi:agg vs ns) (hl:ns.length<=63) (hr:cS k callerA)
  (F:∀base:Heap,K.In base->base.Ns ach mg->bT Pg w K mg base (bp Pg w) k fa fd [x] (b7 K mg 1 fm)) (aaa:∀(s:acb) (u:Value),BindsTo s fd ⟨[u],[]⟩ [(x,u)])
  (good:∃ph',fm [.fl (ns.map W.int)] []=.ok (.bl true) ph') :
  codeAny (model Pg w) callerA (.call (.ref fa) ⟨[.ref a],[]⟩) (fun r s'=>r=.ok (.ret (.bool true))/\OldK bM.heap s'.heap/\s'.os=bM.os/\afN s'.gens) bM:=by
 have rv:=DF hi;have abe:=hi.length;have gz:ns.length<=sizeLine:=acl hl (by decide);have tabOf:∀{b:Addr},nF K b=true->bM.heap.get? b=some (adM #[]):=fun h=>by
  obtain⟨p,h1,rfl⟩:=Ed h;exact(hT p h1).2
 have free:∀{b:Addr} {o:Obj},bM.heap.get? b=some o->o≠adM #[]->(b=a->K.lookup a≠none)->H0 K a { cls:=.type "list",data:=.seq vs.toArray } (ns.map V.int) b=none:=fun{b o} e n1 n2=>by
  unfold H0;rw[if_neg (fun h=>n1 (acY (e.symm.trans (tabOf h)))),if_neg (fun h=>n2 h.1 h.2)]
 have zP:∀{b:Addr} {o:Obj},bM.heap.get? b=some o->o.cls≠.none->o.cls≠.type "list"->H0 K a { cls:=.type "list",data:=.seq vs.toArray } (ns.map V.int) b=none:=fun{b o} e n1 n2=>free e (fun z=>n1 (by rw[z])) fun z=>by
  subst z;rw[ha] at e;cases e;exact absurd rfl n2
 have zQ:∀{b:Addr} {o:Obj} {es:Array DictEntry} {ep:Nat},bM.heap.get? b=some o->o.data=.dict es ep->H0 K a { cls:=.type "list",data:=.seq vs.toArray } (ns.map V.int) b=none:=fun{b o es ep} e d=>free e (fun z=>by rw[z] at d;cases d) fun z=>by
  subst z;rw[ha] at e;cases e;have d':Data.seq vs.toArray _=Data.dict es ep:=d;cases d'
 have na:nF K a=false:=by
  cases q:nF K a with
  | false=>rfl
  | true=>have:=tabOf q;rw[ha] at this;cases this
 revert free zP zQ
 generalize eH:H0 K a { cls:=.type "list",data:=.seq vs.toArray } (ns.map V.int)=H;intro free zP zQ;have FN:∀b u,H b=some u->(nF K b=true/\u=.c4 #[])\/(b=a/\u=.aV { cls:=.type "list",data:=.seq vs.toArray } (.lst (ns.map V.int))):=fun b u e=>by
  rw[<- eH] at e;unfold H0 at e;split at e
  ·rename_i h;cases e;exact .inl ⟨h,rfl⟩
  ·split at e
   ·rename_i h;cases e;exact .inr ⟨h.1,rfl⟩
   ·cases e
 have aG:cj Pg w H bM.heap:=fun b u e=>by
  rcases FN b u e with⟨h,rfl⟩ | ⟨rfl,rfl⟩
  ·exact tabOf h
  ·exact⟨ha,by rw[abX];exact gz,vs,_,rv,ha⟩
 have tb:∀p∈dP K,jh H p.1 p.2.2:=fun p hp=>⟨#[],by rw[<- eH];exact if_pos (To hp),trivial,fun pos v e=>nomatch e⟩
 have hS:wt K H a (ns.map V.int):=by
  cases q:K.lookup a with
  | some o=>
   have e:=KX a o q;rw[ha] at e;cases e;exact .inr ⟨_,vs.toArray,_,q,rfl,rfl,rfl,by rw[acs,abe];exact gz,by simpa using rv⟩
  | none=>exact .inl ⟨_,by rw[<- eH];unfold H0;rw[if_neg (by rw[na];simp),if_pos ⟨rfl,q⟩]⟩
 have Bb:∀{b:Addr} {o:Obj},bM.heap.get? b=some o->H b=none->(ko bM.heap H).get? b=some o:=fun e n=>Uu e n
 have wZ:∀{b:Addr} {m:Str->Option Value},bM.heap.Ns b m->(ko bM.heap H).Ns b m:=fun{b m} ⟨o,es,ep,e,d,r⟩=>⟨o,es,ep,Bb e (zQ e d),d,r⟩
 have Jd:K.In (ko bM.heap H):=fun b o e=>Bb (KX b o e) (free (KX b o e) (fun z=>by
  have h2:=adk.mp hK (b,o) (PySem.W.mem_of_lookupK e);subst z;exact absurd (show false=true from h2) acF) fun z q=>by rw[<- z,e] at q;cases q)
 have hM:Mod K mg (ko bM.heap H):=⟨Jd,wZ bX,⟨mb,wZ hb,oe⟩,let ⟨mc,h1,h2⟩:=abd;⟨mc,wZ h1,h2⟩,
  let ⟨bm,ob,b1,b2,b3,b4,b5⟩:=hbm;⟨bm,ob,b1,b2,Bb b3 (zP b3 (by rw[b4];exact fun z=>nomatch z) (by rw[b4];exact fun z=>absurd (Value.type.inj z) (by decide))),b4,b5⟩⟩
 have e0:rX Pg w K mg (ko bM.heap H) callerA [] bM H:=⟨rfl,hM,fun b o e=>Vs e,Nat.le_of_eq (S5 _ _),trivial,fun b hb=>absurd (show b∈([]:List Addr) from hb) (by simp),aG,.of_eq hg⟩
 obtain⟨ph',eg⟩:=good;refine afg ((F _ Jd (wZ bX)).run callerA [] bM H ⟨[.ref a],[]⟩ [.ref a] [.ref a] (fun v _=>v=.bl true) (fun _ _ _=>False) hr e0 (aaa bM (.ref a)) (.cons rfl .nil)
  ⟨rfl,fun _=>0,[],[.fl (ns.map W.int)],⟨fun i o e=>by simp at e,fun i j hi=>absurd hi (by simp),tb⟩,.cons (.fl hS (EL ns)) .nil,?_⟩) fun r s' h=>?_
 ·rw[eg];intro aq H' v _ _ r;cases r;rfl
 ·cases r with
  | error e=>obtain⟨_,_,_,z⟩:=h;exact z.elim
  | ok fl=>
   cases fl with
   | next=>exact aeu h
   | brk=>exact aeu h
   | cont=>exact aeu h
   | ret u=>
    obtain⟨v,H',os,bare,un,wG,r',q⟩:=h;have q':v=.bl true:=q;subst q';obtain rfl:u=Value.bool true:=r';refine⟨rfl,⟨fun b o e=>?_,fun b o e=>un.there b o e (by simp)⟩,os,bare⟩;cases q:H b with
    | none=>exact .inl (un.keep b o e q (fun z=>absurd (show b∈([]:List Addr) from z) (by simp)) (by simp))
    | some u=>
     rcases FN b u q with⟨h1,rfl⟩ | ⟨rfl,rfl⟩
     ·obtain⟨more,z⟩:=un.fq b _ q;have e2:s'.heap.get? b=some (adM (#[]++more)):=wG b _ z;obtain⟨p,hp,rfl⟩:=Ed h1;have e3:=(hT p hp).2;rw[e] at e3;cases e3;exact .inr (.inl ⟨((hT p hp).1.tab (hT p hp).2).isCodeTable,rfl,#[],more,rfl,e2⟩)
     ·obtain⟨e2,_⟩:=wG _ _ (un.er _ _ _ q);rw[ha] at e;cases e;exact .inl e2
end
noncomputable def YG(K:abW)(ts:List Addr):Bool:=(dP K).all fun p=>ts.contains p.2.2&&(match K.lookup p.2.1 with
 | some o=>iW o==some p.2.2
 | none=>false)&& !(p.2.1==p.2.2)
theorem V6{ts:List Addr}{h:Heap}(hT:YG K ts=true)(KX:K.In h)(hP:∀P∈ts,h.get? P=some (adM #[]))(p:Str×Addr×Addr)(hp:p∈dP K):aeD h p.2.1 p.2.2/\h.get? p.2.2=some (adM #[]):=by
 have z:=adk.mp hT p hp;rw[aco,aco] at z;obtain⟨⟨z1,z2⟩,z3⟩:=z;refine⟨?_,hP _ (List.contains_iff_mem.mp z1)⟩;cases e:K.lookup p.2.1 with
 | none=>rw[e] at z2;cases z2
 | some o=>
  rw[e] at z2;exact DI (KX _ _ e) (eq_of_beq z2) fun q=>by rw[q] at z3;simp at z3
theorem V7{l:agl}{q:adl}{loose:List Str}{XP:(Str->Option Value)->Heap->Prop}{YP:World->Heap->Prop}{d:DefRec}{K:Params->abW}{x:Str}{fm:List W->Mo W}(k:Nat)
  (good:∀ns:List Int,ns.length<=63->∃ph',fm [.fl (ns.map W.int)] []=.ok (.bl true) ph') (hn:l.most=some 63) (sy:d.params.defaults=[]) (hr:cS k callerA) (hY:∀(w:World) (h:Heap),YP w h->(K w.params).In h)
  (hK:∀w:World,agD (K w.params)=true) (hT:∀(w:World) (h:Heap),YP w h->∀p∈dP (K w.params),aeD h p.2.1 p.2.2/\h.get? p.2.2=some (adM #[]))
  (F:∀(w:World) (mg:Str->Option Value) (fa:Addr) (h:Heap),(K w.params).In h->h.Ns ach mg->mg d.name=some (.ref fa) →
   ∃fd:acP,(∀(s:acb) (u:Value),BindsTo s fd ⟨[u],[]⟩ [(x,u)])/\∀base:Heap,(K w.params).In base->base.Ns ach mg->bT l.prog w (K w.params) mg base (bp l.prog w) k fa fd [x] (b7 (K w.params) mg 1 fm)) :
  PySem.W.WalkO q loose XP YP l.row.toRowW d [] (fun f vs=>PySem.call f vs):=by
 refine IU.Rx hn sy fun w aK bM mg mb fa o pm cd doc a vs ns G Y ho hd hcd hmg Ai zL cL hg=>?_
 have KX:=hY w _ Y;obtain⟨fd,hb,hF⟩:=F w mg fa _ KX G.T.g hmg;exact UP KX G.T.g G.T.b G.T.builtins G.T.nolimit G.T.bmain hg (hT w _ Y) (hK w) Ai zL cL hr hF hb (good ns cL)
noncomputable def blW:W->Option Bool
 | .bl b=>some b
 | _=>none
noncomputable def abf(w:W)(ph:PH):Option (List Bool):=if b9 w ph=true then(cT w ph).bind (bD blW) else none
noncomputable def abQ:List W->Po W:=fun xs ph=>match xs with
 | [w]=>(abf w ph).map fun bs=>(.bl (bs.any id),ph)
 | _=>none
noncomputable def jI:W->List W->Po W:=fun x xs ph=>match x,xs with
 | .ref i,[.ref j]=>match ph[i]?,ph[j]? with
  | some (.lst ws),some (.lst us)=>if ws.length+us.length<=acv then some (.aI,ph.set i (.lst (ws++us))) else none
  | _,_=>none
 | _,_=>none
theorem yk:lR K "list" EJ jI:=by
 intro φ ph H x xs vx vs w ph' Q hH rx rs e k;unfold jI at e;split at e
 ·rename_i i j;split at e
  ·rename_i ws us hw hu;split at e
   ·rename_i hz;cases e;cases rx with
    | ref hi=>
     cases rs with
     | cons ry rr=>
      cases rr;cases ry with
      | ref hj=>
       obtain⟨xs,hv,r⟩:=hH.hp _ _ hw;obtain⟨ys,Bc,r'⟩:=hH.hp _ _ hu;obtain⟨q1,q2⟩:=vn hH hw (r.append r');exact⟨_,_,xs,ys,rfl,rfl,hv,Bc,by rw[<- r.length,<- r'.length];exact hz,k φ _ _ q1 q2 .aI⟩
   ·cases e
  ·cases e
 ·cases e
noncomputable def vW(w:W):Po (List W×(PH->Bool)):=fun ph=>match w with
 | .tup ws=>some ((ws,fun _=>true),ph)
 | w=>lE w ph
noncomputable def cY(m:EM):IM:=fun σ=>au (m σ) fun w=>lift (vW w)
variable{m:EM}
theorem aab{σ:L2.St}{R:It->Hp->Prop}(h:tI X (cY m) σ H R):tI X (wA m) σ H R\/tI X (zN m) σ H R:=by
 obtain⟨φ,ph,ws,hH,hS,h⟩:=h;unfold cY at h;rw[cW] at h;cases q:m ws ph with
 | no=>rw[q] at h;exact h.elim
 | ex x ph'=>
  refine .inl ⟨φ,ph,ws,hH,hS,?_⟩;unfold wA;rw[cW,q];rw[q] at h;exact h
 | ok w ph'=>
  rw[q] at h;have h:(lift (vW w) ph').Run _ _:=h;by_cases hw:∃us,w=.tup us
  ·obtain⟨us,rfl⟩:=hw;refine .inr ⟨φ,ph,ws,hH,hS,?_⟩;unfold zN;rw[cW,q];exact h
  ·refine .inl ⟨φ,ph,ws,hH,hS,?_⟩;unfold wA;rw[cW,q];have e:vW w=lE w:=by
    funext p
    cases w <;> first | rfl | exact absurd ⟨_,rfl⟩ hw
   rw[e] at h;exact h
theorem gJ{tg e:Expr}(hl:JE X e m):JI X tg e (cY m):=⟨by
 intro pins s σ H R I h
 rcases aab h with h | h
 ·exact VP hl.h pins s σ H R I h
 ·exact Yd hl.h pins s σ H R I h⟩
section
variable{X:Cx}{pins:List (Addr×Obj)}{σ:L2.St}{H:Hp}{s:acb}{h':Heap}
theorem V8{t':Nat}{fp:List Addr}{T:Addr}{o:HO}(I:Inv X pins σ H s)(k:∀b u,b∉fp->s.heap.get? b=some u->h'.get? b=some u)(hf:∀b∈fp,gn X pins H b)(hp:s.heap.objs.size<=T)
  (new:dG X.prog X.w (upd H T o) h' T o):Inv X pins σ (upd H T o) { s with heap:=h',toks:=t' }:=by
 have hn:=I.aG.fresh hp;have neT:∀b u,s.heap.get? b=some u->b≠T:=fun b u e=>acL (aca (acj e) hp)
 have lO:∀b u,H b=some u->b∉fp:=fun b u e z=>by rw[(hf b z).1] at e;cases e
 refine I.step (g':=s.gens) (d':=s.drawn) (ch:=fp) (fun b hb=>?_) (fun b u _ _ hc e _=>k b u hc e) (fun b u _ _ hc e _=>⟨u.slots,k b u hc e⟩) (fun b u _ e n=>by rw[aT (neT b u e)];exact n)
  (fun b u hc e=>⟨u,k b u hc e⟩) (fun b xs e=>by rw[aT (ce e hn)];exact e) (fun b u v e=>by rw[aT (ce e hn)];exact e) (fun b ps e=>⟨#[],by rw[aT (ce e hn),e];simp⟩) (fun m hm=>?_) (fun b u e=>?_) I.bare
 ·obtain⟨_,f1,_,f3,f4,f5⟩:=hf b hb;exact⟨f3,f1,f4,f5⟩
 ·obtain⟨u,es,ep,ho,r⟩:=hm;exact⟨u,es,ep,k _ u (fun z=>(hf _ z).2.1 rfl) ho,r⟩
 ·by_cases hb:b=T
  ·subst hb;rw[bQ] at e;cases e;exact new
  ·rw[aT hb] at e;refine(I.aG b u e).ir (fun c v hc q=>k c v ?_ q) (fun c q=>by rw[aT (ce q hn)];exact q) fun c xs q=>by rw[aT (ce q hn)];exact q
   rcases hc with z | z
   ·rw[z];exact lO b u e
   ·exact lO c _ z
theorem ES{t':Nat}{fp:List Addr}(I:Inv X pins σ H s)(k:∀b u,b∉fp->s.heap.get? b=some u->h'.get? b=some u)(hf:∀b∈fp,gn X pins H b):Inv X pins σ H { s with heap:=h',toks:=t' }:=by
 have lO:∀b u,H b=some u->b∉fp:=fun b u e z=>by rw[(hf b z).1] at e;cases e
 refine I.step (g':=s.gens) (d':=s.drawn) (ch:=fp) (fun b hb=>?_) (fun b u _ _ hc e _=>k b u hc e) (fun b u _ _ hc e _=>⟨u.slots,k b u hc e⟩) (fun b u _ e n=>n)
  (fun b u hc e=>⟨u,k b u hc e⟩) (fun b xs e=>e) (fun b u v e=>e) (fun b ps e=>⟨#[],by rw[e];simp⟩) (fun m hm=>?_) (fun b u e=>?_) I.bare
 ·obtain⟨_,f1,_,f3,f4,f5⟩:=hf b hb;exact⟨f3,f1,f4,f5⟩
 ·obtain⟨u,es,ep,ho,r⟩:=hm;exact⟨u,es,ep,k _ u (fun z=>(hf _ z).2.1 rfl) ho,r⟩
 ·refine(I.aG b u e).ir (fun c v hc q=>k c v ?_ q) (fun _ q=>q) fun _ _ q=>q
  rcases hc with z | z
  ·rw[z];exact lO b u e
  ·exact lO c _ z
end
noncomputable def Je(K:abW)(a:Addr):It:=
 ⟨fun i H=>∃xs x,bP K H a xs/\xs[i]? =some x,fun i H x H'=>∃T y,x=.ref T/\H T=none/\H'=upd H T (.tup [.int i,y])/\∀xs,bP K H a xs->xs[i]? =some y,fun i H=>∃xs,bP K H a xs/\xs.length<=i⟩
variable{j:Nat}{pos:Pos}
theorem Tp{w:World}{nN:List Expr}(a e it:Addr)(Jf:e≠it):Turn P w K (.Tuple nN j pos) (Je K a) [e,it] e (fun i h=>(∃old,IsEnum h e it (i:Int) old)/\h.IsListIter it a i) where
 mem:=by simp
 obj:=fun i h st b hb=>by
  obtain⟨⟨old,he⟩,o,e1,c,d⟩:=st
  rcases acD.mp hb with rfl | hb
  ·exact⟨_,he,fun v z=>by cases z⟩
  ·have:b=it:=by simpa using hb
   subst this;exact⟨o,e1,fun v z=>by rw[d] at z;cases z⟩
 keep:=fun i h h' st k=>⟨let ⟨old,he⟩:=st.1;⟨old,k e (by simp) _ he⟩,st.2.at fun o q=>k it (by simp) o q⟩
 item:=by
  intro X hP hw hK hc i pins s σ H E I hf st hg;subst hP hw hK;obtain⟨⟨old,he⟩,hit⟩:=st;obtain⟨xs,x,hq,hx⟩:=hg;obtain⟨its,rv,p,hz⟩:=I.list hq;obtain⟨u,hu,ru⟩:=rv.get hx;refine wpAny_pyNext_enum_item he hit p.isList (x:=u) (by simpa using hu) Jf fun h1 ho abg hT hsz hk=>⟨_,rfl,?_⟩
  refine wpAny_letOwnedTupleGo_enum ho fun h2 he2 sJ=>?_
  have kk:∀b o,b∉[e,it]->s.heap.get? b=some o->h2.get? b=some o:=fun b o hb q=>by
   have gD:b≠e:=fun z=>hb (by simp[z])
   have kL:b≠it:=fun z=>hb (by simp[z])
   exact(sJ.2 b gD).trans (hk b o gD kL q)
  have Jg:s.heap.objs.size≠e:=adL (acj he);have new:dG X.prog X.w (upd H s.heap.objs.size (.tup [.int i,x])) h2 s.heap.objs.size (.tup [.int i,x]):=
   ⟨by show 2<=acv;decide,[.int i s.toks,u],.cons ⟨_,rfl⟩ (.cons ru .nil),_,(sJ.2 _ Jg).trans hT,rfl,_,rfl⟩
  refine⟨.ref s.heap.objs.size,_,V8 (s:=s) (h':=h2) (t':=s.toks+1) I kk hf (abZ _) new,rfl,⟨_,x,rfl,I.aG.fresh (abZ _),rfl,fun ys hy=>by rw[I.D4 hy hq];exact hx⟩,⟨⟨_,by simpa using he2⟩,abg.at fun o q=>(sJ.2 it Jf.symm).trans q⟩,fun b hb=>?_⟩;rw[aT (fun z=>?_)]
  ·exact(hf b hb).1
  ·subst z
   rcases acD.mp hb with z | z
   ·exact Jg z
   ·have z:s.heap.objs.size=it:=by simpa using z
    obtain⟨o,e1,_⟩:=hit;exact adL (acj e1) z
 done:=by
  intro X hP hw hK hc i pins s σ H E I hf st hg;subst hP hw hK;obtain⟨⟨old,he⟩,hit⟩:=st;obtain⟨xs,hq,hx⟩:=hg;obtain⟨its,rv,p,hz⟩:=I.list hq;have hl:=rv.length;exact wpAny_pyNext_enum_end (I.ok.hd hc) he hit p.isList (by simp;omega) fun h1 eb=>⟨rfl,ES (t':=s.toks) I (fun b o hb q=>eb b o (fun z=>hb (by simp[z])) q) hf⟩
 self:=fun _ _ _ _ _ st h=>let ⟨_,he⟩:=st.1;wpAny_pyIter_enum he h
noncomputable def abh(K:abW)(ta:TA):TI:=fun σ H R=>ta σ H fun vs H1=>∃a,vs=[.ref a]/\(∃xs,bP K H1 a xs)/\R (Je K a) H1
variable{tp p:Pos}
theorem V9{a:Expr}{ta:TA}{nN:List Expr}(hg:Gl X "enumerate")(hm:X.mg "enumerate"=none)(ha:PA X [a] ta)(hs:acM [a] X.env=[(false,eval a X.env)]:=by rfl) :
  PI X (.Tuple nN j tp) (.Call (.Name "enumerate" p) [a] [] pos) (abh X.K ta):=by
 intro pins s σ H R I h;refine Call_ (vO I hg hm PyProof.Rows.boot_enumerate (aek (a7 (ha pos pins s σ H _ I h) fun us s1 ⟨vs,H1,I1,r1,q1⟩=>?_) hs rfl));obtain⟨a,e,⟨xs,hq⟩,q⟩:=q1;subst e;cases r1 with
 | cons r rr=>
  cases rr;cases r;obtain⟨its,rv,pl,hz⟩:=I1.list hq;refine call_enumerate_list pl.isList fun h' he hit hsz hk=>?_
  refine wpAny_pyIter_enum he ?_;have I2:Inv X pins σ H1 { s1 with heap:=h' }:=I1.kept (t':=s1.toks) hk;refine⟨s1.heap.objs.size+1,[s1.heap.objs.size+1,s1.heap.objs.size],_,_,H1,rfl,I2,Tp a _ _ (Nat.succ_ne_self _),⟨⟨_,by simpa using he⟩,hit⟩,fun b hb=>?_,q⟩;have hb:s1.heap.objs.size<=b:=by
   rcases acD.mp hb with rfl | hb
   ·exact aeW _
   ·have:b=s1.heap.objs.size:=by simpa using hb
    exact Nat.le_of_eq this.symm
  exact I1.rV hb (I1.aG.fresh hb)
noncomputable def il(ws:List W):List W:=(acC ws.length).map fun(i:Nat)=>.tup [.int ((i:Nat):Int),ws.getD i .aI]
noncomputable def zR(xs:List W):Po (List W×(PH->Bool)):=fun ph=>match xs with
 | [w]=>(lE w ph).map fun r=>((il r.1.1,r.1.2),r.2)
 | _=>none
noncomputable def lu(m:AM):IM:=fun σ=>au (m σ) fun xs=>lift (zR xs)
theorem DJ{w:W}(h:(il ws)[i]? =some w):∃x,ws[i]? =some x/\w=.tup [.int i,x]:=by
 unfold il at h;rw[abY] at h;cases q:(acC ws.length)[i]? with
 | none=>rw[q] at h;cases h
 | some k=>
  rw[q] at h;obtain⟨hi,e⟩:=abV.mp q;rw[aei] at e;subst e;rw[acI] at hi;cases h;exact⟨ws[i],by simp[hi],by simp[hi]⟩
theorem Do(h:(il ws)[i]? =none):ws.length<=i:=by
 unfold il at h
 simpa using h
theorem Wa{a:Expr}{am:AM}{nN:List Expr}(hg:Gl X "enumerate")(hm:X.mg "enumerate"=none)(ha:IA X [a] am)(hs:acM [a] X.env=[(false,eval a X.env)]:=by rfl) :
  II X (.Tuple nN j tp) (.Call (.Name "enumerate" p) [a] [] pos) (lu am):=by
 refine PI.imp (V9 hg hm ha hs) fun σ H R h=>?_
 obtain⟨φ,ph,ws,hH,hS,h⟩:=h;refine tA.bind hH hS h fun xs ph1 aB H1 vs aL s1 r1 h=>?_
 obtain⟨r,ph',e,k⟩:=run_lift h;unfold zR at e;split at e
 ·rename_i w;cases r1 with
  | cons r1 rr=>
   cases rr;unfold lE at e;cases r1 with
   | ref hi=>
    rename_i i;simp only at e;cases q:ph1[i]? with
    | none=>rw[q] at e;cases e
    | some o=>
     cases o with
     | aD _=>rw[q] at e;cases e
     | obj _ _=>rw[q] at e;cases e
     | kG _=>rw[q] at e;cases e
     | qq _=>rw[q] at e;cases e
     | lst items=>
      rw[q] at e;simp only[acS] at e;cases e;obtain⟨vs,hv,r⟩:=aL.hp _ _ q;refine⟨_,rfl,⟨vs,bP.of hv⟩,k aB H1 _ aL s1 ?_⟩;intro bc ph2 H2 ba s2 hc j;have fJ:ph2[i]? =some (.lst items):=of_decide_eq_true hc;obtain⟨us,hu,ru⟩:=ba.hp _ _ fJ;rw[s2.eq i hi] at hu;refine⟨fun w fx=>?_,fun hn=>?_⟩
      ·obtain⟨x,hx,rfl⟩:=DJ fx;obtain⟨u,eu,kI⟩:=ru.get hx;refine⟨⟨us,u,bP.of hu,eu⟩,fun y gB hy=>?_⟩;obtain⟨T,z,rfl,hT,rfl,hy⟩:=hy;have:=hy us (bP.of hu);rw[eu] at this;cases this;exact⟨ba.tup hT,kc hT,.tup bQ (.cons (.int _) (.cons (kI.mono (kc hT)) .nil))⟩
      ·refine⟨us,bP.of hu,?_⟩;rw[<- ru.length];exact Do hn
   | fl hq r=>
    simp only[acS] at e;cases e;refine⟨_,rfl,⟨_,hq.sq⟩,k aB H1 _ aL s1 ?_⟩;intro bc ph2 H2 ba s2 hc j;have h2:=aO.mono s2 (.fl hq r);cases h2 with
    | fl h2 r2=>
     refine⟨fun w fx=>?_,fun hn=>?_⟩
     ·obtain⟨x,hx,rfl⟩:=DJ fx;obtain⟨u,eu,kI⟩:=r2.get hx;refine⟨⟨_,u,h2.sq,eu⟩,fun y gB hy=>?_⟩;obtain⟨T,z,rfl,hT,rfl,hy⟩:=hy;have:=hy _ h2.sq;rw[eu] at this;cases this;exact⟨ba.tup hT,kc hT,.tup bQ (.cons (.int _) (.cons (kI.mono (kc hT)) .nil))⟩
     ·refine⟨_,h2.sq,?_⟩;rw[<- r2.length];exact Do hn
   | _=>cases e
 ·cases e
theorem ET{a:Expr}{am:AM}{nN:List Expr}(hg:Gl X "enumerate")(hm:X.mg "enumerate"=none)(hn:isStar a=false)(ha:JA X [a] am) :
  JI X (.Tuple nN j tp) (.Call (.Name "enumerate" p) [a] [] pos) (lu am):=⟨Wa hg hm ha.h (jF hn)⟩
theorem oY{e:Expr}{gens:List Comprehension}{scope:Scope}{pos':Pos}{x:Str}{line:Nat}(hk:env.scope.kind=.function)(hx:env.scope.names.lookup x=some .local)(hl:(pos'.line==p.line)=true)
  (hn:(scope.names.any fun y=>y.1==x&&(y.2==.local||y.2==.cell))=false):aeA (.ListComp e gens scope p) (some (.Name x pos')) line env=pure true:=by
 have e1:(env.kindOf x==some .local)=true:=by unfold Env.kindOf;rw[hx];rfl
 have e2:(env.blockKind==.function)=true:=by unfold Env.blockKind;rw[hk];rfl
 show pure (env.blockKind==.function&&env.kindOf x==some .local&&pos'.line==p.line&& !(scope.names.any fun y=>y.1==x&&(y.2==.local||y.2==.cell)))=_;rw[e1,e2,hl,hn];rfl
noncomputable def newD:Po W:=fun ph=>some (.ref ph.length,ph++[.aD []])
noncomputable def ku:EM:=fun _=>lift newD
theorem Ee{p:Addr}(hH:aN K φ ph H)(hp:H p=none) :
  aN K (ext φ ph.length p) (ph++[.aD []]) (upd H p (.dK []))/\Step K φ ph.length H (ext φ ph.length p) (ph++[PO.aD []]).length (upd H p (.dK []))/\aO K (ext φ ph.length p) (ph++[PO.aD []]).length (upd H p (.dK [])) (.ref ph.length) (.ref p):=by
 have hl:(ph++[PO.aD []]).length=ph.length+1:=by simp
 rw[hl];have s:=yz (K:=K) (φ:=φ) (n:=ph.length) (o:=HO.dK []) hp;refine⟨hH.new hp (.inl ⟨[],bQ,.nil⟩),s,?_⟩;have q:aO K (ext φ ph.length p) (ph.length+1) (upd H p (.dK [])) (.ref ph.length) (.ref (ext φ ph.length p ph.length)):=.ref (adS _);rw[lg] at q;exact q
theorem nu:JE X (.Dict [] [] pos) ku:=⟨PE.imp UC fun σ H Q h p hp=>by
 obtain⟨φ,ph,ws,hH,hS,h⟩:=h;obtain⟨w,ph',e,k⟩:=run_lift h;cases e;obtain⟨q1,q2,q3⟩:=Ee hH hp;exact k _ _ _ q1 q2 q3⟩
theorem vq{a b:Key}(h:bU a=bU b):a=b:=by
 cases a <;> cases b <;> simp_all [bU]
theorem u7:∀{a b:List Key},a.map bU=b.map bU->a=b
 | [],[],_=>rfl
 | [],_::_,e=>by simp at e
 | _::_,[],e=>by simp at e
 | x::xs,y::ys,e=>by
  rw[acK,acK] at e;injection e with e1 e2
  rw[vq e1,u7 e2]
noncomputable def pY:W->Option Key
 | .int i=>some (.inl i)
 | .str x=>some (.inr x)
 | _=>none
noncomputable def Ap:W->Option (List Key)
 | .tup ws=>bD pY ws
 | _=>none
variable{k:Key}
theorem yZ{w:W}(h:pY w=some k):w=bU k:=by
 cases w <;> simp only[pY] at h <;> first | (cases h;done) | (cases h;rfl)
theorem Ef:∀{ws:List W} {ks:List Key},bD pY ws=some ks->ws=ks.map bU
 | [],ks,h=>by cases h;rfl
 | w::ws,ks,h=>by
  unfold bD at h;split at h
  ·rename_i b bs e1 e2;cases h;rw[yZ e1,Ef e2];rfl
  ·cases h
theorem EU{w:W}{ks:List Key}(h:Ap w=some ks):w=.tup (ks.map bU):=by
 cases w <;> simp only[Ap] at h <;> first | (cases h;done) | rw[Ef h]
theorem zS(r:aO K φ n H (bU k) v):v=kV k:=by
 cases k with
 | inl i=>cases r;rfl
 | inr x=>cases r;rfl
theorem FO{K:abW}{φ:Nat->Addr}{n:Nat}{H:Hp}:∀{ks:List Key} {vs:List V},a9 K φ n H (ks.map bU) vs->vs=ks.map kV
 | [],_,r=>by cases r;rfl
 | k::ks,_,r=>by
  cases r with
  | cons h r=>rw[zS h,FO r];rfl
theorem FP{ks:List Key}(r:aO K φ n H (.tup (ks.map bU)) v):∃b,v=.ref b/\H b=some (.tup (ks.map kV)):=by
 cases r with
 | tup h r=>rw[FO r] at h;exact⟨_,rfl,h⟩
noncomputable def dh(kws:List (W×W))(k:W):Option W:=(kws.find? fun p=>decide (p.1=k)).map (·.2)
noncomputable def dH(kws:List (W×W))(k w:W):List (W×W):=if(kws.any fun p=>decide (p.1=k))=true then kws.map (fun p=>if p.1=k then(p.1,w) else p) else kws++[(k,w)]
noncomputable def nQ(K:abW)(φ:Nat->Addr)(n:Nat)(H:Hp):Option W->Option V->Prop
 | none,none=>True
 | some w,some v=>aO K φ n H w v
 | _,_=>False
section
variable{K:abW}{φ:Nat->Addr}{n:Nat}{H:Hp}
theorem YH{a b:Key}:decide (bU a=bU b)=decide (a=b):=by
 rw[decide_eq_decide];exact⟨vq,fun e=>by rw[e]⟩
theorem Wb{a b:List Key}:decide (W.tup (a.map bU)=W.tup (b.map bU))=decide (a=b):=by
 rw[decide_eq_decide];exact⟨fun e=>u7 (W.tup.inj e),fun e=>by rw[e]⟩
theorem cx.val(k:Key):∀{kws:List (W×W)} {kvs:List (Key×V)},cx K φ n H kws kvs->nQ K φ n H (dh kws (bU k)) (iu kvs k)
 | _,_,.nil=>trivial
 | _,_,.cons (k:=j) (w:=w) (v:=v) h r=>by
  unfold dh;rw[adv];by_cases e:j=k
  ·rw[decide_eq_true (congrArg bU e),qU (p:=(j,v)) e];exact h
  ·rw[decide_eq_false (fun z=>e (vq z)),qV (p:=(j,v)) e];exact cx.val k r
theorem cC.val(k:List Key):∀{kws:List (W×W)} {kvs:List (List Key×V)},cC K φ n H kws kvs->nQ K φ n H (dh kws (.tup (k.map bU))) (iu kvs k)
 | _,_,.nil=>trivial
 | _,_,.cons (k:=j) (w:=w) (v:=v) h r=>by
  unfold dh;rw[adv];by_cases e:j=k
  ·rw[decide_eq_true (by rw[e]),qU (p:=(j,v)) e];exact h
  ·rw[decide_eq_false (fun z=>e (u7 (W.tup.inj z))),qV (p:=(j,v)) e];exact cC.val k r
theorem cx.len:∀{kws:List (W×W)} {kvs:List (Key×V)},cx K φ n H kws kvs->kws.length=kvs.length
 | _,_,.nil=>rfl
 | _,_,.cons _ r=>by rw[adj,adj,cx.len r]
theorem cC.len:∀{kws:List (W×W)} {kvs:List (List Key×V)},cC K φ n H kws kvs->kws.length=kvs.length
 | _,_,.nil=>rfl
 | _,_,.cons _ r=>by rw[adj,adj,cC.len r]
theorem cx.any(k:Key):∀{kws:List (W×W)} {kvs:List (Key×V)},cx K φ n H kws kvs->(kws.any fun p=>decide (p.1=bU k))=kvs.any fun p=>decide (p.1=k)
 | _,_,.nil=>rfl
 | _,_,.cons (k:=j) _ r=>by
  rw[adC,adC,cx.any k r];show(decide (bU j=bU k)||_)=(decide (j=k)||_);rw[YH]
theorem cC.any(k:List Key):∀{kws:List (W×W)} {kvs:List (List Key×V)},cC K φ n H kws kvs->(kws.any fun p=>decide (p.1=.tup (k.map bU)))=kvs.any fun p=>decide (p.1=k)
 | _,_,.nil=>rfl
 | _,_,.cons (k:=j) _ r=>by
  rw[adC,adC,cC.any k r];show(decide (W.tup (j.map bU)=W.tup (k.map bU))||_)=(decide (j=k)||_);rw[Wb]
theorem cx.jg(k:Key){w:W}{v:V}(q:aO K φ n H w v):∀{kws:List (W×W)} {kvs:List (Key×V)},cx K φ n H kws kvs->cx K φ n H (kws.map fun p=>if p.1=bU k then(p.1,w) else p) (kvs.map fun p=>if p.1=k then(p.1,v) else p)
 | _,_,.nil=>.nil
 | _,_,.cons (k:=j) h r=>by
  rw[acK,acK];by_cases e:j=k
  ·rw[if_pos (show bU j=bU k by rw[e]),if_pos (show j=k from e)];exact .cons q (cx.jg k q r)
  ·rw[if_neg (show ¬bU j=bU k from fun z=>e (vq z)),if_neg (show ¬j=k from e)];exact .cons h (cx.jg k q r)
theorem cC.jg(k:List Key){w:W}{v:V}(q:aO K φ n H w v):∀{kws:List (W×W)} {kvs:List (List Key×V)},cC K φ n H kws kvs->cC K φ n H (kws.map fun p=>if p.1=.tup (k.map bU) then(p.1,w) else p) (kvs.map fun p=>if p.1=k then(p.1,v) else p)
 | _,_,.nil=>.nil
 | _,_,.cons (k:=j) h r=>by
  rw[acK,acK];by_cases e:j=k
  ·rw[if_pos (show W.tup (j.map bU)=W.tup (k.map bU) by rw[e]),if_pos (show j=k from e)];exact .cons q (cC.jg k q r)
  ·rw[if_neg (show ¬W.tup (j.map bU)=W.tup (k.map bU) from fun z=>e (u7 (W.tup.inj z))),if_neg (show ¬j=k from e)];exact .cons h (cC.jg k q r)
theorem cx.snoc(k:Key){w:W}{v:V}(q:aO K φ n H w v):∀{kws:List (W×W)} {kvs:List (Key×V)},cx K φ n H kws kvs->cx K φ n H (kws++[(bU k,w)]) (kvs++[(k,v)])
 | _,_,.nil=>.cons q .nil
 | _,_,.cons h r=>.cons h (cx.snoc k q r)
theorem cC.snoc(k:List Key){w:W}{v:V}(q:aO K φ n H w v):∀{kws:List (W×W)} {kvs:List (List Key×V)},cC K φ n H kws kvs->cC K φ n H (kws++[(.tup (k.map bU),w)]) (kvs++[(k,v)])
 | _,_,.nil=>.cons q .nil
 | _,_,.cons h r=>.cons h (cC.snoc k q r)
theorem cx.put(k:Key){w:W}{v:V}(q:aO K φ n H w v){kws:List (W×W)}{kvs:List (Key×V)}(r:cx K φ n H kws kvs):cx K φ n H (dH kws (bU k) w) (putK kvs k v):=by
 unfold dH putK;rw[r.any k];by_cases e:(kvs.any fun kv=>decide (kv.1=k))=true
 ·rw[if_pos e,if_pos e];exact r.jg k q
 ·rw[if_neg e,if_neg e];exact r.snoc k q
theorem cC.put(k:List Key){w:W}{v:V}(q:aO K φ n H w v){kws:List (W×W)}{kvs:List (List Key×V)}(r:cC K φ n H kws kvs):cC K φ n H (dH kws (.tup (k.map bU)) w) (putK kvs k v):=by
 unfold dH putK;rw[r.any k];by_cases e:(kvs.any fun kv=>decide (kv.1=k))=true
 ·rw[if_pos e,if_pos e];exact r.jg k q
 ·rw[if_neg e,if_neg e];exact r.snoc k q
end
section
variable{X:Cx}{pins:List (Addr×Obj)}{σ:L2.St}{H:Hp}{s:acb}{a:Addr}
theorem jK(I:Inv X pins σ H s)(e:H a=some (.dK [])):Inv X pins σ (upd H a (.dT [])) s:=by
 obtain⟨z,hd,vs,rel,o,es,ep,h1,h2,h3,h4,h5,h6⟩:=rH I.aG e;cases rel;have he:es.toList=[]:=by
  generalize es.toList=l at h5;cases h5;rfl
 exact I.write (x:=a) (e:=a) (h':=s.heap) (t':=s.toks) (o:=.dT []) (by rw[e];trivial) (.inl rfl) (fun _ _ _ q=>q) ⟨o,h1⟩ ⟨adI _,hd,[],.nil,o,es,ep,h1,h2,h3,by rw[he];rfl,List.nodup_nil⟩
theorem i8(I:Inv X pins σ H s)(e:H a=some (.dT [])):Inv X pins σ (upd H a (.dK [])) s:=by
 obtain⟨z,hd,xs,rel,o,es,ep,h1,h2,h3,h4,h5,h6⟩:=zM I.aG e;cases rel;have he:es= #[]:=by
  have:es.toList=[]:=h4
  simpa using this
 subst he;exact I.write (x:=a) (e:=a) (h':=s.heap) (t':=s.toks) (o:=.dK []) (by rw[e];trivial) (.inl rfl) (fun _ _ _ q=>q) ⟨o,h1⟩ ⟨adI _,hd,[],.nil,o,#[],ep,h1,h2,h3,fun x hx=>by simp at hx,.nil,List.nodup_nil⟩
theorem k6{o u:HO}(e:H a=some o):upd (upd H a u) a o=H:=by
 rw[rh]
 funext b
 unfold upd;split
 ·rename_i q;rw[q,e]
 ·rfl
end
noncomputable def pJ(H:Hp)(a:Addr)(y:V)(o:Option V):Prop:=ft H a y o\/(o=none/\((H a=some (.dK [])/\∃(k:List Key) (b:Addr),y=.ref b/\H b=some (.tup (k.map kV)))\/(H a=some (.dT [])/\∃k:Key,y=kV k)))
noncomputable def jM(H:Hp)(a:Addr)(y v:V)(H':Hp):Prop:=nK H a y v H'\/(H a=some (.dK [])/\∃(k:List Key) (b:Addr),y=.ref b/\H b=some (.tup (k.map kV))/\H'=upd H a (.dT [(k,v)]))\/(H a=some (.dT [])/\∃k:Key,y=kV k/\H'=upd H a (.dK [(k,v)]))
section
variable{X:Cx}
theorem YI(hu:X.A.units+1<cLine):bJ X (ado .In) (fun y x H Q=>∃a o,x=.ref a/\pJ H a y o/\Q (.bl o.isSome) H):=by
 intro pins s σ H y x u v Q I ry rx h;obtain⟨a,o,rfl,g,q⟩:=h;cases rx
 rcases g with g | ⟨rfl,⟨e,k,b,ey,eb⟩ | ⟨e,k,ey⟩⟩
 ·exact Aj hu I g ry fun s3 I3=>⟨.bl o.isSome,H,I3,rfl,q⟩
 ·subst ey;have g:ft (upd H a (.dT [])) a (.ref b) none:=.inr ⟨[],k,b,.inl bQ,rfl,by rw[aT (ij eb e (fun z=>nomatch z))];exact eb,rfl⟩;exact Aj hu (jK I e) g ry fun s3 I3=>⟨.bl false,H,by have:=i8 I3 bQ;rwa [k6 e] at this,rfl,q⟩
 ·subst ey;have g:ft (upd H a (.dK [])) a (kV k) none:=.inl ⟨[],k,.inl bQ,rfl,rfl⟩;exact Aj hu (i8 I e) g ry fun s3 I3=>⟨.bl false,H,by have:=jK I3 bQ;rwa [k6 e] at this,rfl,q⟩
theorem Wc(hu:X.A.units+1<cLine):bJ X (ado .NotIn) (fun y x H Q=>∃a o,x=.ref a/\pJ H a y o/\Q (.bl (!o.isSome)) H):=by
 intro pins s σ H y x u v Q I ry rx h;obtain⟨a,o,rfl,g,q⟩:=h;cases rx
 rcases g with g | ⟨rfl,⟨e,k,b,ey,eb⟩ | ⟨e,k,ey⟩⟩
 ·exact yW hu I g ry fun s3 I3=>⟨.bl (!o.isSome),H,I3,rfl,q⟩
 ·subst ey;have g:ft (upd H a (.dT [])) a (.ref b) none:=.inr ⟨[],k,b,.inl bQ,rfl,by rw[aT (ij eb e (fun z=>nomatch z))];exact eb,rfl⟩;exact yW hu (jK I e) g ry fun s3 I3=>⟨.bl true,H,by have:=i8 I3 bQ;rwa [k6 e] at this,rfl,q⟩
 ·subst ey;have g:ft (upd H a (.dK [])) a (kV k) none:=.inl ⟨[],k,.inl bQ,rfl,rfl⟩;exact yW hu (i8 I e) g ry fun s3 I3=>⟨.bl true,H,by have:=jK I3 bQ;rwa [k6 e] at this,rfl,q⟩
theorem set_dict(hu:X.A.units+1<cLine):lx X (fun o i v H Q=>∃a H',o=.ref a/\jM H a i v H'/\Q H'):=by
 intro pins s σ H o i v ov iv u Q I ro ri rv h;obtain⟨a,H',rfl,g,q⟩:=h;cases ro
 rcases g with g | ⟨e,k,b,ey,eb,eH⟩ | ⟨e,k,ey,eH⟩
 ·exact yj hu I g ri rv fun s3 I3=>⟨H',I3,q⟩
 ·subst ey eH;have g:nK (upd H a (.dT [])) a (.ref b) v (upd (upd H a (.dT [])) a (.dT (putK [] k v))):=.inr ⟨[],k,b,bQ,rfl,by rw[aT (ij eb e (fun z=>nomatch z))];exact eb,by decide,rfl⟩;refine yj hu (jK I e) g ri rv fun s3 I3=>⟨_,?_,q⟩
  rw[rh] at I3;exact I3
 ·subst ey eH;have g:nK (upd H a (.dK [])) a (kV k) v (upd (upd H a (.dK [])) a (.dK (putK [] k v))):=.inl ⟨[],k,bQ,rfl,by decide,rfl⟩;refine yj hu (i8 I e) g ri rv fun s3 I3=>⟨_,?_,q⟩
  rw[rh] at I3;exact I3
theorem We(hu:X.A.units+1<cLine):jo X (fun x y H Q=>∃a v,x=.ref a/\ft H a y (some v)/\Q v H):=by
 intro value slice pins s σ H x y v u Q I rx ry h hs;obtain⟨a,w,rfl,g,q⟩:=h;cases rx;have hT:=Ry I g;unfold subscriptTail;refine acx ?_;rw[getitemInPython_of_ne hT.not_modules];refine acx (wpAny_specialOf hT PySem.F.slot_dict_getitem.lookup ?_);have fin:wpAny (model X.prog X.w) X.A (subscripted slice false (.ref a) u) (fun r B2=>wpAny (model X.prog X.w) X.A (letTemporaryGo value (.ref a) r >>= fun _=>pure r) (EP X pins σ Q) X.xe B2) X.xe s:=by
  rw[hs];exact wpAny_operating (Te hu I g ry fun w' s3 I3 fZ=>acx (wpAny_letTemporaryGo (ada ⟨w,H,I3,fZ,q⟩)))
 first
  | exact ada (acx fin)
  | exact acx (ada (acx fin))
  | exact acx fin
end
noncomputable def j7:W->Bool
 | .tup _=>true
 | _=>false
noncomputable def cZ(kws:List (W×W))(x:W):Bool:=((pY x).isSome&&kws.all fun p=> !j7 p.1)||((Ap x).isSome&&kws.all fun p=>j7 p.1)
noncomputable def eJ(y:W)(ph:PH):Option (Nat×List (W×W)):=match y with
 | .ref i=>match ph[i]? with
  | some (.aD kws)=>some (i,kws)
  | _=>none
 | _=>none
section
variable{K:abW}{φ:Nat->Addr}{ph:PH}{H:Hp}
variable{kws:List (W×W)}
theorem cx.Jh{kvs:List (Key×V)}{n:Nat}(r:cx K φ n H kws kvs)(h:kws.all (fun p=>j7 p.1)=true):kws=[]/\kvs=[]:=by
 cases r with
 | nil=>exact⟨rfl,rfl⟩
 | cons h' r=>
  rename_i k w v kws kvs;rw[adW] at h;have:j7 (bU k)=true:=by simp only[aco] at h;exact h.1
  cases k <;> cases this
theorem cC.Aq{kvs:List (List Key×V)}{n:Nat}(r:cC K φ n H kws kvs)(h:kws.all (fun p=> !j7 p.1)=true):kws=[]/\kvs=[]:=by
 cases r with
 | nil=>exact⟨rfl,rfl⟩
 | cons h' r=>
  rw[adW] at h;have h:=(aco _ _▸h).1;cases h
variable{v:V}{i:Nat}
theorem mS{y:W}(hH:aN K φ ph H)(r:aO K φ ph.length H y v)(e:eJ y ph=some (i,kws)):y=.ref i/\i<ph.length/\ph[i]? =some (.aD kws)/\v=.ref (φ i):=by
 unfold eJ at e;cases r with
 | ref hi=>
  simp only at e;split at e
  ·rename_i abR hw;cases e;exact⟨rfl,hi,hw,rfl⟩
  ·cases e
 | _=>cases e
theorem qW{x:W}(hH:aN K φ ph H)(hd:ph[i]? =some (.aD kws))(r:aO K φ ph.length H x v)(hk:cZ kws x=true):∃o,pJ H (φ i) v o/\nQ K φ ph.length H (dh kws x) o:=by
 unfold cZ at hk;rw[adE,aco,aco] at hk
 rcases hk with⟨h1,h2⟩ | ⟨h1,h2⟩
 ·obtain⟨k,hk⟩:=ads.mp h1;have:=yZ hk;subst this;have:=zS r;subst this
  rcases hH.hp _ _ hd with⟨kvs,q,rd⟩ | ⟨kvs,q,rd⟩
  ·exact⟨_,.inl (.inl ⟨kvs,k,.inl q,rfl,rfl⟩),rd.val k⟩
  ·obtain⟨rfl,rfl⟩:=rd.Aq h2;exact⟨none,.inr ⟨rfl,.inr ⟨q,k,rfl⟩⟩,trivial⟩
 ·obtain⟨ks,hk⟩:=ads.mp h1;have:=EU hk;subst this;obtain⟨b,rfl,hb⟩:=FP r
  rcases hH.hp _ _ hd with⟨kvs,q,rd⟩ | ⟨kvs,q,rd⟩
  ·obtain⟨rfl,rfl⟩:=rd.Jh h2;exact⟨none,.inr ⟨rfl,.inl ⟨q,ks,b,rfl,hb⟩⟩,trivial⟩
  ·exact⟨_,.inl (.inr ⟨kvs,ks,b,.inl q,rfl,hb,rfl⟩),rd.val ks⟩
theorem Eg{x w:W}{u:V}(hH:aN K φ ph H)(hi:i<ph.length)(hd:ph[i]? =some (.aD kws))(r:aO K φ ph.length H x v)(rw:aO K φ ph.length H w u)(hk:cZ kws x=true)(hz:kws.length<acv) :
  ∃H',jM H (φ i) v u H'/\aN K φ (ph.set i (.aD (dH kws x w))) H'/\Step K φ ph.length H φ (ph.set i (.aD (dH kws x w))).length H':=by
 obtain⟨y,ey,my⟩:=hH.mu hd rfl;rw[adq];unfold cZ at hk;rw[adE,aco,aco] at hk
 rcases hk with⟨h1,h2⟩ | ⟨h1,h2⟩
 ·obtain⟨k,hk⟩:=ads.mp h1;have:=yZ hk;subst this;have:=zS r;subst this
  rcases hH.hp _ _ hd with⟨kvs,q,rd⟩ | ⟨kvs,q,rd⟩
  ·have s:=oZ (K:=K) (φ:=φ) (n:=ph.length) (y:=HO.dK (putK kvs k u)) ey my;exact⟨_,.inl (.inl ⟨kvs,k,q,rfl,by rw[<- rd.len];exact hz,rfl⟩),hH.put hd rfl (.inl ⟨_,bQ,(rd.put k rw).mono s⟩),s⟩
  ·obtain⟨rfl,rfl⟩:=rd.Aq h2;have s:=oZ (K:=K) (φ:=φ) (n:=ph.length) (y:=HO.dK [(k,u)]) ey my;exact⟨_,.inr (.inr ⟨q,k,rfl,rfl⟩),hH.put hd rfl (.inl ⟨_,bQ,((cx.nil).put k rw).mono s⟩),s⟩
 ·obtain⟨ks,hk⟩:=ads.mp h1;have:=EU hk;subst this;obtain⟨b,rfl,hb⟩:=FP r
  rcases hH.hp _ _ hd with⟨kvs,q,rd⟩ | ⟨kvs,q,rd⟩
  ·obtain⟨rfl,rfl⟩:=rd.Jh h2;have s:=oZ (K:=K) (φ:=φ) (n:=ph.length) (y:=HO.dT [(ks,u)]) ey my;exact⟨_,.inr (.inl ⟨q,ks,b,rfl,hb,rfl⟩),hH.put hd rfl (.inr ⟨_,bQ,((cC.nil).put ks rw).mono s⟩),s⟩
  ·have s:=oZ (K:=K) (φ:=φ) (n:=ph.length) (y:=HO.dT (putK kvs ks u)) ey my;exact⟨_,.inl (.inr ⟨kvs,ks,b,q,rfl,hb,by rw[<- rd.len];exact hz,rfl⟩),hH.put hd rfl (.inr ⟨_,bQ,(rd.put ks rw).mono s⟩),s⟩
end
noncomputable def cV:W->W->Po W:=fun x y ph=>match eJ y ph with
 | some p=>if cZ p.2 x=true then some (.bl (dh p.2 x).isSome,ph) else none
 | none=>iL x y ph
noncomputable def ez:W->W->Po W:=fun x y ph=>match eJ y ph with
 | some p=>if cZ p.2 x=true then some (.bl (!(dh p.2 x).isSome),ph) else none
 | none=>wC x y ph
noncomputable def ag:W->W->Po W:=fun x y ph=>match eJ x ph with
 | some p=>if cZ p.2 y=true then(dh p.2 y).map fun w=>(w,ph) else none
 | none=>eD x y ph
noncomputable def pZ(o i v:W):Po Unit:=fun ph=>match eJ o ph with
 | some p=>if cZ p.2 i=true/\p.2.length<acv then some ((),ph.set p.1 (.aD (dH p.2 i v))) else none
 | none=>HJ o i v ph
theorem nQ.isSome{K:abW}{φ:Nat->Addr}{n:Nat}{H:Hp}{a:Option W}{b:Option V}(h:nQ K φ n H a b):a.isSome=b.isSome:=by
 cases a <;> cases b <;> first | rfl | exact h.elim
theorem aac:c5 K (fun x y H Q=>pW K (fun b=>b) x y H Q\/∃a o,y=.ref a/\pJ H a x o/\Q (.bl o.isSome) H) cV:=by
 intro φ ph H x y vx vy w ph' Q hH rx ry e k;unfold cV at e;split at e
 ·rename_i p hp;obtain⟨i,kws⟩:=p;obtain⟨rfl,hi,hd,rfl⟩:=mS hH ry hp;split at e
  ·rename_i hk;cases e;obtain⟨o,g,ro⟩:=qW hH hd rx hk;exact .inr ⟨_,o,rfl,g,by rw[<- ro.isSome];exact k φ H _ hH Step.refl (.bl _)⟩
  ·cases e
 ·exact .inl (Z3 hH rx ry e k)
theorem YJ:c5 K (fun x y H Q=>pW K (fun b=> !b) x y H Q\/∃a o,y=.ref a/\pJ H a x o/\Q (.bl (!o.isSome)) H) ez:=by
 intro φ ph H x y vx vy w ph' Q hH rx ry e k;unfold ez at e;split at e
 ·rename_i p hp;obtain⟨i,kws⟩:=p;obtain⟨rfl,hi,hd,rfl⟩:=mS hH ry hp;split at e
  ·rename_i hk;cases e;obtain⟨o,g,ro⟩:=qW hH hd rx hk;exact .inr ⟨_,o,rfl,g,by rw[<- ro.isSome];exact k φ H _ hH Step.refl (.bl _)⟩
  ·cases e
 ·exact .inl (Yt hH rx ry e k)
theorem aad:c5 K (fun x y H Q=>AO K x y H Q\/∃a v,x=.ref a/\ft H a y (some v)/\Q v H) ag:=by
 intro φ ph H x y vx vy w ph' Q hH rx ry e k;unfold ag at e;split at e
 ·rename_i p hp;obtain⟨i,kws⟩:=p;obtain⟨rfl,hi,hd,rfl⟩:=mS hH rx hp;split at e
  ·rename_i hk;cases q:dh kws y with
   | none=>rw[q] at e;cases e
   | some u=>
    rw[q] at e;cases e;obtain⟨o,g,ro⟩:=qW hH hd ry hk;rw[q] at ro;cases o with
    | none=>exact ro.elim
    | some v=>
     rcases g with g | ⟨z,_⟩
     ·exact .inr ⟨_,v,rfl,g,k φ H _ hH Step.refl ro⟩
     ·cases z
  ·cases e
 ·exact .inl (ZZ hH rx ry e k)
section
variable{X:Cx}{a b o i:Expr}{ma mb mo mi:EM}{pos:Pos}{N:List Str}{sc:Scope}{k:Nat}
theorem f9.YK(B:f9 X N sc k)(hp:yV b)(ha:JE X a ma)(hb:JE X b mb):JE X (.Subscript a b pos) (ab ag ma mb):=
 ⟨PE.imp (ZP (jo.or XR (We (fT B.room))) ha.h hb.h hp) fun _ _ _ h=>vI aad h⟩
theorem f9.p7(B:f9 X N sc k)(h:adT .In b=false):Cp X .In b cV:=⟨⟨_,bJ.or (Ys B.room.units) (YI (fT B.room)),aac⟩,h⟩
theorem f9.rM(B:f9 X N sc k)(h:adT .NotIn b=false):Cp X .NotIn b ez:=⟨⟨_,bJ.or (VW B.room.units) (Wc (fT B.room)),YJ⟩,h⟩
theorem lx.or{t t':wj}(h:lx X t)(h':lx X t'):lx X (fun o i v H Q=>t o i v H Q\/t' o i v H Q):=by
 intro pins s σ H o i v ov iv u Q I ro ri rv q
 rcases q with q | q
 ·exact h pins s σ H o i v ov iv u Q I ro ri rv q
 ·exact h' pins s σ H o i v ov iv u Q I ro ri rv q
noncomputable def eU(o i:EM):GM:=fun v σ=>au (o σ) fun ow=>au (i σ) fun iw=>au (lift (pZ ow iw v)) fun _=>ax σ
theorem f9.iX(B:f9 X N sc k)(ho:JE X o mo)(hi:JE X i mi)(ha:∀v,agB (.Subscript o i pos) X.env v=(do
   let ov <- holding [v] (eval o X.env)
   let iv <- holding [v,ov] (eval i X.env)
   standAt pos
   holding [v,ov,iv] (setItem ov iv v)
   release [v,ov,iv] []):=by intro _;rfl):JG X (.Subscript o i pos) (eU mo mi):=
 ⟨PG.imp (Xv ho.h hi.h (lx.or set_list (set_dict (fT B.room))) ha) fun v σ H Q h=>by
  obtain⟨φ,ph,ws,w,hH,hS,rv,h⟩:=h;refine tM.bind hH hS h fun ow ph1 aB H1 vo aL s1 ro h=>tM.bind aL (hS.mono s1) h fun iw ph2 bc H2 vi ba s2 ri h=>?_
  rw[cW] at h;obtain⟨_,gX,e,k⟩:=run_lift h;have Ji:=ro.mono s2;have w4:=(rv.mono s1).mono s2;unfold pZ at e;split at e
  ·rename_i p hp;obtain⟨r,kws⟩:=p;obtain⟨rfl,hr,hd,rfl⟩:=mS ba Ji hp;split at e
   ·rename_i hk;cases e;obtain⟨H',g,q1,q2⟩:=Eg ba hr hd ri w4 hk.1 hk.2;exact .inr ⟨_,H',rfl,g,k bc _ σ q1 ((s1.trans s2).trans q2) (((hS.mono s1).mono s2).mono q2)⟩
   ·cases e
  ·unfold HJ at e;split at e
   ·rename_i r k';split at e
    ·rename_i dn hw;split at e
     ·rename_i j hj;cases e;cases Ji with
      | ref cE=>
       cases ri;obtain⟨us,hu,ru⟩:=ba.hp _ _ hw;obtain⟨q1,q2⟩:=vn ba hw (ru.set w4 j);exact .inl ⟨_,us,_,j,rfl,rfl,hu,by rw[<- ru.length];exact hj,k bc _ σ q1 ((s1.trans s2).trans q2) (((hS.mono s1).mono s2).mono q2)⟩
     ·cases e
    ·cases e
   ·cases e⟩
end
noncomputable def p8:W->Option Int
 | .int i=>some i
 | _=>none
noncomputable def zT(w:W)(ph:PH):Option (List Int):=if b9 w ph=true then(cT w ph).bind (bD p8) else none
noncomputable def rN(f:Nat->Int):Nat->Int
 | 0=>f 0
 | k+1=>if f (k+1)<rN f k then f (k+1) else rN f k
section
variable{X:Cx}
theorem UQ(f:Nat->Int):∀k,f (argBest (fun i j=>decide (f i<f j)) k)=rN f k
 | 0=>rfl
 | k+1=>by
  have ih:=UQ f k;unfold argBest rN;rw[ih];by_cases h:f (k+1)<rN f k
  ·simp[h]
  ·simp[h,ih]
theorem vt{K:abW}{φ:Nat->Addr}{n:Nat}{H:Hp}:∀{ws:List W} {vs:List V} {ns:List Int},a9 K φ n H ws vs->bD p8 ws=some ns->vs=ns.map V.int
 | _,_,_,.nil,e=>by cases e;rfl
 | w::ws,_,bs,.cons h r,e=>by
  unfold bD at e;split at e
  ·rename_i b bs' e1 e2;cases e;have q:=vt r e2;unfold p8 at e1;cases h <;> cases e1
   rw[q];rfl
  ·cases e
theorem Tq{K:abW}{φ:Nat->Addr}{ph:PH}{H:Hp}{w:W}{v:V}{ns:List Int}(hH:aN K φ ph H)(r:aO K φ ph.length H w v)(e:zT w ph=some ns):∃p,v=.ref p/\bP K H p (ns.map V.int):=by
 unfold zT at e;split at e
 ·rename_i hL;cases r with
  | ref hi=>
   unfold b9 at hL;simp only at hL;split at hL
   ·rename_i ws hw;obtain⟨vs,hv,rs⟩:=hH.hp _ _ hw;simp only[cT,hw,ady] at e;rw[vt rs e] at hv;exact⟨_,rfl,bP.of hv⟩
   ·cases hL
  | fl h rs=>
   simp only[cT,ady] at e;have q:=vt rs e;subst q;exact⟨_,rfl,h.sq⟩
  | _=>cases hL
 ·cases e
end
noncomputable def bV:W->W->Po W:=fun x y ph=>match x,y with
 | .ref i,.int k=>match ph[i]? with
  | some (.lst ws)=>if -(2 ^ 63)<=k/\k<2 ^ 63/\ws.length*k.toNat<=acv then some (.ref ph.length,ph++[.lst (acf k.toNat ws).flatten]) else none
  | _=>none
 | x,y=>pV x y ph
theorem a9.rep{K:abW}{φ:Nat->Addr}{n:Nat}{H:Hp}{ws:List W}{vs:List V}(r:a9 K φ n H ws vs):∀k:Nat,a9 K φ n H (acf k ws).flatten (acf k vs).flatten
 | 0=>.nil
 | k+1=>by
  rw[adh,adh,adN,adN];exact r.append (a9.rep r k)
theorem YL:c5 K (fun x y H Q=>(rI rW fun i j=>.int (i*j)) x y H Q\/HH x y H Q) bV:=by
 intro φ ph H x y vx vy w ph' Q hH rx ry e k;unfold bV at e;split at e
 ·rename_i i j;split at e
  ·rename_i ws hw;split at e
   ·rename_i hz;cases e;cases rx with
    | ref hi=>
     cases ry;obtain⟨us,hu,ru⟩:=hH.hp _ _ hw;refine .inr ⟨_,_,us,rfl,rfl,hu,hz.1,hz.2.1,by rw[<- ru.length];exact hz.2.2,fun p hp=>?_⟩;obtain⟨q1,q2,q3⟩:=k5 hH (ru.rep j.toNat) hp;exact k _ _ _ q1 q2 q3
   ·cases e
  ·cases e
 ·exact .inl (Yn hH rx ry e k)
theorem fS{a b:Expr}{ma mb:EM}(ha:JE X a ma)(hb:JE X b mb):JE X (.BinOp a .Mult b pos) (ab bV ma mb):=⟨rJ (bJ.or XG XW) YL ha.h hb.h⟩
theorem Ss{e:Expr}{gens:List Comprehension}{scope:Scope}{pos':Pos}{x:Str}{line:Nat}(hx:env.scope.names.lookup x=some .cell):aeA (.ListComp e gens scope p) (some (.Name x pos')) line env=pure false:=by
 have e1:(env.kindOf x==some .local)=false:=by unfold Env.kindOf;rw[hx];rfl
 show pure (env.blockKind==.function&&env.kindOf x==some .local&&pos'.line==p.line&& !(scope.names.any fun y=>y.1==x&&(y.2==.local||y.2==.cell)))=_;rw[e1,Bool.and_false,aeZ,aeZ]
theorem eK.zU{N:List Str}{sc:Scope}(B:eK X N sc)(i:Nat){x:Str}{e:Expr}{gens:List Comprehension}{scope:Scope}{pos':Pos}(hN:N[i]? =some x)(hl:Loc sc x)(hx:X.env.scope.names.lookup x=some .cell)(he:JE X (.ListComp e gens scope p) m):JS X (.Assign [.Name x pos'] (.ListComp e gens scope p) pos) (aE m (gN i)):=⟨B.set i hN hl he.h (Ss hx)⟩
section
variable{prog:adl}{w:World}{A:aeg}{E:Value->acb->Prop}{s:acb}{a:Addr}
theorem Q8:typeLookup (.type "list") "keys"=pure none:=am_miss_of_fast (by decide +kernel)
theorem Wf{o:Obj}{xs:Array Value}{k:Nat}{Q:Option Value->acb->Prop}(hx:s.heap.get? a=some o)(hc:o.cls=.type "list")(HK:o.data=.seq xs k)(hd:o.dict=none)(hA:A.handled=none)
  (h:∀h' tk,(∀b ob,s.heap.get? b=some ob->h'.get? b=some ob)->Q none { s with heap:=h',toks:=tk }):wpAny (model prog w) A (getAttr? (.ref a) "keys") Q E s:=by
 obtain⟨c,aD,dat,sl⟩:=o;simp only at hc HK hd;subst hc HK hd;obtain⟨hp,g,d,tk,os⟩:=s;have hT:∀Jj,(⟨hp,g,d,Jj,os⟩:acb).TypeIs (.ref a) "list":=fun _=>⟨_,hx,rfl⟩
 have f1:=sub_AttributeError;have f3:=aeN.lookup;have f4:=aeN.bind (.ref a);have f5:=am_list_getattr_none;unfold getAttr? getAttrBy? getAttrBy
 repeat (any_goals (first | assumption | exact hT _ | ((with_reducible show wpAny _ _ (call (Value.builtin "list.__getattribute__") _ _) _ _ _);refine afH aeN (hT _) am_entry_list_getattribute (F.args_list_getattribute_2 _ _) (meets_getattribute_miss_list a xs k sl "keys" _ Q8 (by decide)) ⟨hx,hA,fun h' Jj e gE=>?_⟩) | wp_step))
 obtain⟨t',u',he⟩:=gE.there;show wpAny _ _ (getattributeRaised _ _ _ _ _ _ _) _ _ _;unfold getattributeRaised
 repeat (any_goals (first | assumption | wp_step))
 exact h _ _ gE.keeps
end
noncomputable def vX(d:Addr):Hp->List (V×V)->Hp->Prop
 | H,[],H'=>H'=H
 | H,p::r,H'=>∃H1,jM H d p.1 p.2 H1/\vX d H1 r H'
abbrev zo(H:Hp):List V->List (V×V)->Prop:=afa fun v p=>∃T,v=.ref T/\H T=some (.tup [p.1,p.2])
variable{H':Hp}
theorem jM.other{b:Addr}{y:V}(h:jM H a y v H')(hb:b≠a):H' b=H b:=by
 rcases h with(⟨_,_,_,_,_,e⟩ | ⟨_,_,_,_,_,_,_,e⟩) | ⟨_,_,_,_,_,e⟩ | ⟨_,_,_,e⟩ <;> rw[e,aT hb]
theorem jM.dict{y:V}(h:jM H a y v H'):(∃kvs,H a=some (.dK kvs))\/∃kvs,H a=some (.dT kvs):=by
 rcases h with(⟨_,_,e,_⟩ | ⟨_,_,_,e,_⟩) | ⟨e,_⟩ | ⟨e,_⟩
 ·exact .inl ⟨_,e⟩
 ·exact .inr ⟨_,e⟩
 ·exact .inl ⟨_,e⟩
 ·exact .inr ⟨_,e⟩
theorem jM.ne{b:Addr}{y:V}(h:jM H a y v H')(hb:H b=some o)(h1:∀kvs,o≠.dK kvs)(h2:∀kvs,o≠.dT kvs):b≠a:=by
 rcases h.dict with⟨kvs,e⟩ | ⟨kvs,e⟩
 ·exact ij hb e (h1 _)
 ·exact ij hb e (h2 _)
section
variable{X:Cx}{pins:List (Addr×Obj)}{σ:L2.St}{H:Hp}{s:acb}{a:Addr}{y v:V}{u r:Value}{A:aeg}{E:Value->acb->Prop}
theorem zV{H':Hp}{Q:Unit->acb->Prop}(hu:A.units<cLine)(I:Inv X pins σ H s)(g:nK H a y v H')(ry:RelV y u)(rv:RelV v r)
  (h:∀h' t,Inv X pins σ H' { s with heap:=h',toks:=t }->afb a s.heap h'->Q () { s with heap:=h',toks:=t }):wpAny (model X.prog X.w) A (dictSet a u r) Q E s:=by
 rcases g with⟨kvs,k,e,ey,l,eH⟩ | ⟨kvs,k,b,e,ey,eb,l,eH⟩
 ·subst ey eH;obtain⟨z,hd,vs,rel,dd⟩:=rH I.aG e;have hz:vs.length<=sizeLine:=by rw[<- rel.length];exact z
  have hl:(putK kvs k v).length<=sizeLine:=by have:=uN kvs k v;omega
  refine wpAny_dictSet_pairs (hsz:=hz) (lm ry) dd fun h' kF hs=>h _ _ ?_ hs
  have he:∃q,h'.get? a=some q:=let ⟨q,_,_,hq,_⟩:=kF;⟨q,hq⟩
  exact vH I (by rw[e];exact afI) hs he (FI hl hd (rel.put k rv) kF)
 ·subst ey eH;cases(show u=adO b from ry);obtain⟨z,hd,xs,rel,dd⟩:=zM I.aG e;have hz:xs.length<=sizeLine:=by rw[<- afM rel];exact z
  have hl:(putK kvs k v).length<=sizeLine:=by have:=uN kvs k v;omega
  refine wpAny_dictSet_heap (hsz:=hz) hu (lc I.aG eb) dd fun h' kF hs=>h _ _ ?_ hs
  obtain⟨q,es,ep,hq,h2,h3,h4,_,h5⟩:=kF;refine vH I (by rw[e];exact afI) hs ⟨q,hq⟩ ⟨hl,hd,_,(rel.put k eb rv).keeps fun c ys ec=>?_,q,es,ep,hq,h2,h3,h4,h5⟩;rw[aT (ij ec e (fun z=>nomatch z))];exact ec
theorem YM{H':Hp}{Q:Unit->acb->Prop}(hu:A.units<cLine)(I:Inv X pins σ H s)(g:jM H a y v H')(ry:RelV y u)(rv:RelV v r)
  (h:∀h' t,Inv X pins σ H' { s with heap:=h',toks:=t }->afb a s.heap h'->Q () { s with heap:=h',toks:=t }):wpAny (model X.prog X.w) A (dictSet a u r) Q E s:=by
 rcases g with g | ⟨e,k,b,ey,eb,eH⟩ | ⟨e,k,ey,eH⟩
 ·exact zV hu I g ry rv h
 ·subst ey eH;have g:nK (upd H a (.dT [])) a (.ref b) v (upd (upd H a (.dT [])) a (.dT (putK [] k v))):=.inr ⟨[],k,b,bQ,rfl,by rw[aT (ij eb e (fun z=>nomatch z))];exact eb,by decide,rfl⟩;refine zV hu (jK I e) g ry rv fun h' t I3 hs=>h h' t ?_ hs
  rw[rh] at I3;exact I3
 ·subst ey eH;have g:nK (upd H a (.dK [])) a (kV k) v (upd (upd H a (.dK [])) a (.dK (putK [] k v))):=.inl ⟨[],k,bQ,rfl,by decide,rfl⟩;refine zV hu (i8 I e) g ry rv fun h' t I3 hs=>h h' t ?_ hs
  rw[rh] at I3;exact I3
end
theorem CC:entryFor table "dict.update.loop"=some Builtin.«dict.update.loop»:=entryFor_of_tree (by kernel_rfl)
theorem ul:plainId "dict.update.loop"=true:=by decide +kernel
section
variable{X:Cx}{pins:List (Addr×Obj)}{σ:L2.St}{A:aeg}{R:Result->acb->Prop}
theorem EV{H:Hp}{s:acb}{h':Heap}{it:Addr}(I:Inv X pins σ H s)(k:∀b u,b≠it->s.heap.get? b=some u->h'.get? b=some u)(hf:gn X pins H it):Inv X pins σ H { s with heap:=h' }:=
 ES (s:=s) (h':=h') (t':=s.toks) (fp:=[it]) I (fun b o hb q=>k b o (fun z=>hb (by simp[z])) q) (fun b hb=>by
  have:b=it:=by simpa using hb
  subst this;exact hf)
theorem pair_items{T:Addr}{ot:Obj}{uk uv:Value}{nt:Nat}{s:acb}{E:Value->acb->Prop}{Q:List Value->acb->Prop}(qw:s.heap.get? T=some ot)(Be:ot.cls=.type "tuple")(sI:ot.data=.seq #[uk,uv] nt)(h:Q [uk,uv] s) :
  wpAny (model X.prog X.w) A (agb (.ref T)) Q E s:=by
 unfold agb;refine acx (wpAny_typeOf (T:="tuple") ⟨_,qw,Be⟩ ?_);rw[if_pos (by decide)];exact acx (wpAny_seqItems qw sI (ada h))
theorem DK(hA:A.handled=none)(hu:A.units+1<cLine){d it l:Addr}{xs:List V}:∀(ps:List (V×V)) (i:Nat) (t:Tok) (s:acb) (H H':Hp),Inv X pins σ H s->H l=some (.lst xs)->gn X pins H it->it≠d->s.heap.IsListIter it l i →
  zo H (xs.drop i) ps->vX d H ps H'->(∀s',Inv X pins σ H' s'->R (.ok (.ret .none)) s')->codeAny (model X.prog X.w) A (.builtin "dict.update.loop" ⟨[.ref d,.ref it,.int i t,.none],[]⟩) R s
 | [],i,t,s,H,H',I,hl,hf,fO,hit,hp,hF,k=>by
  obtain rfl:H'=H:=hF;obtain⟨its,rv,pl,hz⟩:=I.list (bP.of hl);have hd:xs.drop i=[]:=by
   generalize xs.drop i=z at hp;cases hp;rfl
  have qx:xs.length<=i:=by simpa using hd
  refine afr CC ?_;rw[aey ul _];show wpAny _ A.in1 (pyNext (.ref it) >>= _) _ _ s;refine acx (wpAny_pyNext_list_end (A:=A.in1) hA hit pl.isList (by have:=rv.length;simp;omega) fun h' eb=>?_);show wpAny _ A.in1 (Builtin.Dict.addKeywords d [] >>= fun _=>PySem.ret agO) _ _ _;refine acx (ada ?_);refine ada (k _ ?_);exact EV I (fun b o hb q=>eb b o hb q) hf
 | p::ps,i,t,s,H,H',I,hl,hf,fO,hit,hp,hF,k=>by
  obtain⟨H1,p9,hF⟩:=hF;obtain⟨its,rv,pl,hz⟩:=I.list (bP.of hl);cases hd:xs.drop i with
  | nil=>rw[hd] at hp;cases hp
  | cons x ys=>
   rw[hd] at hp;cases hp with
   | cons hx hp=>
    obtain⟨T,rfl,hT⟩:=hx;have hxi:xs[i]? =some (.ref T):=by
     have:=congrArg (fun l=>l[0]?) hd
     simpa using this
    have hys:xs.drop (i+1)=ys:=by
     have:=congrArg (fun l=>l.drop 1) hd
     simpa[agC,agh] using this
    obtain⟨u,hu',ru⟩:=rv.get hxi;obtain rfl:u=adO T:=ru;refine afr CC ?_;rw[aey ul _];show wpAny _ A.in1 (pyNext (.ref it) >>= _) _ _ s;refine acx (wpAny_pyNext_list_item hit pl.isList (x:=.ref T) (by simpa using hu') fun h1 abi Bg=>?_);have I1:Inv X pins σ H { s with heap:=h1 }:=EV I (fun b o hb q=>Bg.extBut b o hb q) hf;obtain⟨jO,Jk,pt,_⟩:=I1.tuple (cN.of hT);obtain⟨uk,uv,e2,rk,rw2⟩:=Vals.two Jk;subst e2;obtain⟨ot,qw,Be,nt,sI⟩:=pt;have Ar:it≠d:=fO;simp only[];refine acx (aeQ (acx (wpAny_tryCatch (pair_items qw Be sI ?_))));simp only[];refine aeQ (YM hu I1 p9 rk rw2 fun h2 t2 I2 sJ=>?_);refine ada ⟨plainId_quiet ul _,?_⟩;have hnl:l≠d:=p9.ne hl (fun _ z=>nomatch z) (fun _ z=>nomatch z);refine DK hA hu ps (i+1) 0 _ H1 H' I2 (by rw[p9.other hnl];exact hl) ⟨by rw[p9.other Ar];exact hf.1,hf.2⟩ Ar (abi.at fun o q=>(sJ.2 it Ar).trans q) ?_ hF k;rw[hys];exact afa.lw hp fun _ _ ⟨T',e1,e2⟩=>⟨T',e1,by rw[p9.other (p9.ne e2 (fun _ z=>nomatch z) (fun _ z=>nomatch z))];exact e2⟩
end
noncomputable def GQ:List V->Hp->VK->Prop:=fun xs H Q=>∃l vs ps,xs=[.ref l]/\H l=some (.lst vs)/\zo H vs ps/\∀d,H d=none->∃H',vX d (upd H d (.dK [])) ps H'/\Q (.ref d) H'
section
variable{X:Cx}
theorem Tr(hc:X.calm=true)(hu:X.A.units+64<cLine):c9 X (.type "dict") GQ:=by
 intro pins s σ H xs us Q I r h;obtain⟨l,vs,ps,rfl,hl,hp,h⟩:=h;obtain⟨u,rfl,rx⟩:=vals1 r;obtain rfl:u=adO l:=rx;have hA:X.A.handled=none:=I.ok.hd hc;have hn:=I.aG.fresh (abZ s.heap.objs.size);obtain⟨H',hF,hq⟩:=h s.heap.objs.size hn;refine callType_codes (Q₁:=fun obj bM=>obj=.ref s.heap.objs.size/\bM={ s with heap:=s.heap.push { cls:=.type "dict",data:=.dict #[] } }) F.kt_called_dict (F.kt_typeCall_dict_1 _) F.entry_dict_init (kt_code_dict_new _ ⟨rfl,rfl⟩) ?_;rintro obj bM ⟨rfl,rfl⟩;have gQ:(s.heap.push { cls:=.type "dict",data:=.dict #[] }).DictOf (dr X.prog X.w) s.heap.objs.size []:=ahb s.heap;have abj:(s.heap.objs.size==adZ)=false:=beq_eq_false_iff_ne.mpr (adL I.big);have I1:Inv X pins σ (upd H s.heap.objs.size (.dK [])) { s with heap:=s.heap.push { cls:=.type "dict",data:=.dict #[] } }:=
  I.laid (t':=s.toks) (fun b u q=>aci _ q) (abZ _) ⟨adI _,abj,[],.nil,gQ⟩
 refine⟨gQ.typeIs,F.args_dict_init_2 _ _,?_⟩;have lU:l≠s.heap.objs.size:=ce hl hn;have lV:upd H s.heap.objs.size (.dK []) l=some (.lst vs):=by rw[aT lU];exact hl
 obtain⟨its,rv,pl,hz⟩:=I1.list (bP.of lV);unfold Builtin.«dict.__init__»;refine acx ?_;unfold Builtin.Dict.selfAndRest;refine acx (wpAny_notOrdered_dict gQ.typeIs ?_);show wpAny _ _ (pure (s.heap.objs.size,[adO l])) _ _ _;refine ada ?_;show wpAny _ _ (afU "dict.__init__" s.heap.objs.size (.ref l) [] .none) _ _ _;unfold afU;obtain⟨ol,hol,eZ,n,hdl⟩:=pl.isList;have hT:({ s with heap:=s.heap.push { cls:=.type "dict",data:=.dict #[] } }:acb).TypeIs (.ref l) "list":=⟨_,hol,eZ⟩
 refine acx (wpAny_typeOf hT ?_);rw[if_pos (by decide)];obtain⟨oq,nq,h1q,h2q,h3q,h4q⟩:=pl;refine acx ((Wf (A:=X.A.in1.in1) h1q h2q h4q h3q hA fun h1 t1 k1=>?_));simp only[Option.isNone_none,if_true];refine acx (wpAny_rule ?_);have I2:Inv X pins σ (upd H s.heap.objs.size (.dK [])) { s with heap:=h1,toks:=t1 }:=I1.kept (t':=t1) k1;obtain⟨jO,Jk,pl2,hz2⟩:=I2.list (bP.of lV);refine acx (wpAny_pyIter_list pl2.isList ?_);refine ada ⟨plainId_quiet ul _,?_⟩;have hd:s.heap.objs.size<h1.objs.size:=acj (k1 _ _ (acN _ rfl));have I3:Inv X pins σ (upd H s.heap.objs.size (.dK [])) { s with heap:=h1.push { cls:=.type "list_iterator",data:=.fields #[.ref l,.int 0 0] },toks:=t1 }:=I2.kept (t':=t1) fun b u q=>aci _ q
 refine DK (X:=X) (pins:=pins) (σ:=σ) (A:=X.A.in1) hA (by show X.A.units+1+1<cLine;omega) ps 0 0 _ _ H' I3 lV (I2.rV (abZ _) (I2.aG.fresh (abZ _))) (adL hd) ⟨_,acN _ rfl,rfl,rfl⟩ ?_ hF fun s' I'=>?_
 ·exact afa.lw hp fun _ _ ⟨T',e1,e2⟩=>⟨T',e1,by rw[aT (ce e2 hn)];exact e2⟩
 ·exact⟨rfl,.ref s.heap.objs.size,H',I',rfl,hq⟩
end
noncomputable def nG:List (W×W)->List (W×W)->Option (List (W×W))
 | d,[]=>some d
 | d,p::r=>if cZ d p.1=true/\d.length<acv then nG (dH d p.1 p.2) r else none
noncomputable def rO:W->Option (W×W)
 | .tup [a,b]=>some (a,b)
 | _=>none
noncomputable def pK:List W->Po W:=fun xs ph=>match xs with
 | [.ref i]=>match ph[i]? with
  | some (.lst ws)=>match bD rO ws with
   | some ps=>match nG [] ps with
    | some d=>some (.ref ph.length,ph++[.aD d])
    | none=>none
   | none=>none
  | _=>none
 | _=>none
abbrev GR(K:abW)(φ:Nat->Addr)(n:Nat)(H:Hp):List (W×W)->List (V×V)->Prop:=afa fun p q=>aO K φ n H p.1 q.1/\aO K φ n H p.2 q.2
theorem Eh{K:abW}{φ:Nat->Addr}{i:Nat}:∀{ps:List (W×W)} {qs:List (V×V)} {ph:PH} {H:Hp} {d d':List (W×W)},aN K φ ph H->i<ph.length->ph[i]? =some (.aD d)->GR K φ ph.length H ps qs->nG d ps=some d' →
  ∃H',vX (φ i) H qs H'/\aN K φ (ph.set i (.aD d')) H'/\Step K φ ph.length H φ ph.length H'
 | [],qs,ph,H,d,d',hH,hi,hd,hr,e=>by
  cases hr;cases e;refine⟨H,rfl,?_,Step.refl⟩;have:ph.set i (.aD d)=ph:=by
   apply aew
   intro j;by_cases hj:i=j
   ·subst hj;rw[adg hi,hd]
   ·rw[adx hj]
  rw[this];exact hH
 | p::ps,qs,ph,H,d,d',hH,hi,hd,hr,e=>by
  cases hr with
  | cons h r=>
   unfold nG at e;split at e
   ·rename_i hk;obtain⟨H1,hp,aL,s1⟩:=Eg hH hi hd h.1 h.2 hk.1 hk.2;rw[adq] at s1;have hl:(ph.set i (.aD (dH d p.1 p.2))).length=ph.length:=adq ..;obtain⟨H2,hF,ba,s2⟩:=Eh (ph:=ph.set i (.aD (dH d p.1 p.2))) aL (by rw[hl];exact hi) (adg hi) (by rw[hl];exact afa.lw r fun _ _ z=>⟨z.1.mono s1,z.2.mono s1⟩) e;rw[hl] at s2;rw[List.set_set] at ba;exact⟨H2,⟨H1,hp,hF⟩,ba,s1.trans s2⟩
   ·cases e
theorem DL{K:abW}{φ:Nat->Addr}{n:Nat}{H:Hp}:∀{ws:List W} {vs:List V} {ps:List (W×W)},a9 K φ n H ws vs->bD rO ws=some ps->∃qs,zo H vs qs/\GR K φ n H ps qs
 | _,_,ps,.nil,e=>by cases e;exact⟨[],.nil,.nil⟩
 | _,_,ps,.cons h r,e=>by
  unfold bD at e;split at e
  ·rename_i b bs e1 e2;cases e;obtain⟨qs,h1,h2⟩:=DL r e2;unfold rO at e1;split at e1
   ·cases e1;cases h with
    | tup hT rt=>
     cases rt with
     | cons ra rt=>
      cases rt with
      | cons rb rt=>
       cases rt;exact⟨(_,_)::qs,.cons ⟨_,rfl,hT⟩ h1,.cons ⟨ra,rb⟩ h2⟩
   ·cases e1
  ·cases e
theorem Wg:gP K GQ pK:=by
 intro φ ph H xs vs w ph' Q hH r e k;unfold pK at e;split at e
 ·rename_i i;split at e
  ·rename_i ws hw;split at e
   ·rename_i ps hps;split at e
    ·rename_i d hd;cases e;cases r with
     | cons r rr=>
      cases rr;cases r with
      | ref hi=>
       obtain⟨us,hu,ru⟩:=hH.hp _ _ hw;obtain⟨qs,h1,h2⟩:=DL ru hps;refine⟨_,us,qs,rfl,hu,h1,fun p hp=>?_⟩;obtain⟨q1,q2,q3⟩:=Ee hH hp;have hl:(ph++[PO.aD []]).length=ph.length+1:=by simp
       obtain⟨H',hF,Jl,s'⟩:=Eh (i:=ph.length) (d:=[]) q1 (by rw[hl];exact adS _) (by simp) (afa.lw h2 fun _ _ z=>⟨z.1.mono q2,z.2.mono q2⟩) hd;have he:(ph++[PO.aD []]).set ph.length (.aD d)=ph++[.aD d]:=by simp
       have gz:(ph++[PO.aD d]).length=(ph++[PO.aD []]).length:=by simp
       rw[he] at Jl;rw[lg] at hF;refine⟨H',hF,k _ H' _ Jl (by rw[gz];exact q2.trans s') (by rw[gz];exact q3.mono s')⟩
    ·cases e
   ·cases e
  ·cases e
 ·cases e
noncomputable def aae:HO->Prop
 | .dK _=>True
 | .dT _=>True
 | _=>False
section
variable{K:abW}{φ:Nat->Addr}{n:Nat}{H:Hp}{d:Addr}{o:Obj}{u:HO}(e:H d=some (.aV o u))(hu:aae u)(hc:o.cls=.type "dict")
include e hu hc
omit hc in
end
noncomputable def YN(kws:List (W×W)):List W:=kws.map fun p=>.tup [p.1,p.2]
noncomputable def aaf(i:Nat)(kws:List (W×W))(L:Nat):Mo W:=fun ph=>if ph[i]? =some (.kG kws) then .ok (.ref L) (ph.set i (.aD kws)) else .no
noncomputable def abK(m:EM)(cap:List (Option Nat))(g:GM)(c:TM)(e:EM):EM:=fun σ=>au (m σ) fun w ph=>match eJ w ph with
 | some p=>au (eh (fun _=>true) g c e ph.length (YN p.2) (gq cap σ)) (fun _=>aaf p.1 p.2 ph.length) (ph.set p.1 (.kG p.2)++[.lst []])
 | none=>.no
noncomputable def dW(w:W)(ph:PH):Bool:=(eJ w ph).isSome
theorem i9:qt K "dict" dW:=by
 intro φ ph H x vx hH rx e;unfold dW at e;obtain⟨⟨i,kws⟩,hp⟩:=ads.mp e;obtain⟨rfl,hi,hd,rfl⟩:=mS hH rx hp
 rcases hH.hp i _ hd with⟨kvs,q,_⟩ | ⟨kvs,q,_⟩
 ·exact .inr (.inr (.inl ⟨rfl,.inl ⟨kvs,q⟩⟩))
 ·exact .inr (.inr (.inl ⟨rfl,.inr ⟨kvs,q⟩⟩))
noncomputable def HL:V->List V->Hp->VK->Prop:=fun x ys H Q=>∃a y o,x=.ref a/\pJ H a y o/\((ys=[y]/\Q (o.getD .aI) H)\/∃d,ys=[y,d]/\Q (o.getD d) H)
noncomputable def dX:W->List W->Po W:=fun x xs ph=>match eJ x ph with
 | some p=>match xs with
  | [y]=>if cZ p.2 y=true then some ((dh p.2 y).getD .aI,ph) else none
  | [y,z]=>if cZ p.2 y=true then some ((dh p.2 y).getD z,ph) else none
  | _=>none
 | none=>none
theorem nQ.getD{K:abW}{φ:Nat->Addr}{n:Nat}{H:Hp}{a:Option W}{b:Option V}{z:W}{y:V}(h:nQ K φ n H a b)(r:aO K φ n H z y):aO K φ n H (a.getD z) (b.getD y):=by
 cases a <;> cases b <;> first | exact r | exact h | exact h.elim
theorem ja(hu:X.A.units+1<cLine):qp X "dict.get" HL:=by
 intro pins s σ H x xs v us Q I rx rv h;obtain⟨a,y,o,rfl,g,h⟩:=h;obtain rfl:v=adO a:=rx
 rcases h with⟨rfl,q⟩ | ⟨d,rfl,q⟩
 ·obtain⟨u,rfl,ru⟩:=rv.one
  rcases g with g | ⟨rfl,⟨e,k,b,ey,eb⟩ | ⟨e,k,ey⟩⟩
  ·exact zf hu I g ru fun w' s' I' r'=>⟨_,H,I',r',q⟩
  ·subst ey;have g:ft (upd H a (.dT [])) a (.ref b) none:=.inr ⟨[],k,b,.inl bQ,rfl,by rw[aT (ij eb e (fun z=>nomatch z))];exact eb,rfl⟩;exact zf hu (jK I e) g ru fun w' s3 I3 r'=>⟨_,H,by have:=i8 I3 bQ;rwa [k6 e] at this,r',q⟩
  ·subst ey;have g:ft (upd H a (.dK [])) a (kV k) none:=.inl ⟨[],k,.inl bQ,rfl,rfl⟩;exact zf hu (i8 I e) g ru fun w' s3 I3 r'=>⟨_,H,by have:=jK I3 bQ;rwa [k6 e] at this,r',q⟩
 ·obtain⟨u,u2,rfl,ru,rd⟩:=Vals.two rv
  rcases g with g | ⟨rfl,⟨e,k,b,ey,eb⟩ | ⟨e,k,ey⟩⟩
  ·exact zg hu I g ru rd fun w' s' I' r'=>⟨_,H,I',r',q⟩
  ·subst ey;have g:ft (upd H a (.dT [])) a (.ref b) none:=.inr ⟨[],k,b,.inl bQ,rfl,by rw[aT (ij eb e (fun z=>nomatch z))];exact eb,rfl⟩;exact zg hu (jK I e) g ru rd fun w' s3 I3 r'=>⟨_,H,by have:=i8 I3 bQ;rwa [k6 e] at this,r',q⟩
  ·subst ey;have g:ft (upd H a (.dK [])) a (kV k) none:=.inl ⟨[],k,.inl bQ,rfl,rfl⟩;exact zg hu (i8 I e) g ru rd fun w' s3 I3 r'=>⟨_,H,by have:=jK I3 bQ;rwa [k6 e] at this,r',q⟩
theorem jb:lR K "dict" HL dX:=by
 intro φ ph H x xs vx vs w ph' Q hH rx rs e k;unfold dX at e;split at e
 ·rename_i p hp;obtain⟨i,kws⟩:=p;obtain⟨rfl,hi,hd,rfl⟩:=mS hH rx hp;split at e
  ·split at e
   ·rename_i hk;cases e;cases rs with
    | cons r0 rr=>
     cases rr;obtain⟨o,g,ro⟩:=qW hH hd r0 hk;exact⟨_,_,o,rfl,g,.inl ⟨rfl,k φ H _ hH Step.refl (ro.getD .aI)⟩⟩
   ·cases e
  ·split at e
   ·rename_i hk;cases e;cases rs with
    | cons r0 rr=>
     cases rr with
     | cons r1 rr=>
      cases rr;obtain⟨o,g,ro⟩:=qW hH hd r0 hk;exact⟨_,_,o,rfl,g,.inr ⟨_,rfl,k φ H _ hH Step.refl (ro.getD r1)⟩⟩
   ·cases e
  ·cases e
 ·cases e
noncomputable def HM:W->W->Po W:=qr fun i j=>i+j
section
variable{X:Cx}{N:List Str}{sc:Scope}{e:Expr}{m:EM}{pos pos':Pos}
theorem Wh{i:Nat}{g:Int->Int->Int}{D:Ends}{σ:L2.St}{H:Hp}(h:tS X (aE (ab (qr g) (aa i) m) (gN i)) D σ H):Hy i (tM X m) (IC g) D σ H:=by
 obtain⟨φ,ph,ws,hH,hS,h⟩:=h;unfold aE ab at h;rw[cW,cW] at h;obtain⟨w,ph',e,k⟩:=run_lift h;split at e
 ·rename_i w' ew;cases e;obtain⟨v,ev,rv⟩:=hS.get ew;refine⟨v,ev,?_⟩;rw[cW] at k;refine⟨φ,ph,ws,hH,hS,k.mono (fun y ph1 k aB H1 vy aL s1 ry=>?_) fun _ _ z=>z⟩;obtain⟨z,ph2,e,k⟩:=run_lift k;have w4:=rv.mono s1;unfold qr at e;split at e
  ·cases e;cases w4;cases ry;refine⟨_,_,rfl,rfl,?_⟩;exact k aB H1 aL s1 _ ((hS.mono s1).set (.int _) i)
  ·cases e
 ·cases e
theorem eK.aag(B:eK X N sc)(i:Nat){x:Str}(hN:N[i]? =some x)(hl:Loc sc x)(he:JE X e m):JS X (.AugAssign (.Name x pos') .Add e pos) (aE (ab HM (aa i) m) (gN i)):=
 ⟨PS.imp (Xy (by rw[B.hN];exact B.nd) (by rw[B.hN];exact hN) (B.loc x hl) he.h Xz (B.fn x hl)) fun _ _ _ h=>Wh h⟩
end
noncomputable def bg(x:Str):Bool:= !(x==("__debug__":Str))&& !(x==("__classdict__":Str))
section
variable{X:Cx}{N:List Str}{sc:Scope}{k:Nat}{b:Expr}
theorem eK.jv{pos:Pos}(B:eK X N sc)(i:Nat){x:Str}(hN:N[i]? =some x)(hv:aA sc x)(hk:bg x=true):JE X (.Name x pos) (aa i):=by
 unfold bg at hk;rw[aco] at hk;exact B.abc i hN hv (by simpa using hk.1) (by simpa using hk.2)
theorem f9.ag{pos:Pos}{a:Expr}{ma mb:EM}(B:f9 X N sc k)(ha:JE X a ma)(hb:JE X b mb)(hp:yV b:=by intro _ _;rfl):JE X (.Subscript a b pos) (ab ag ma mb):=B.YK hp ha hb
end
noncomputable def hQ(P:adl)(w:World):Option (Key ⊕ List Key)->Int
 | none=>0xFCA86420
 | some (.inl k)=>Ac w k
 | some (.inr ks)=>tupleKeyHash (dr P w) ks
theorem yD:∀{xs:List V} {us:List Value},xs.length=us.length->(∀(j:Nat) x u,xs[j]? =some x->us[j]? =some u->L2.RelV x u)->Vals xs us
 | [],[],_,_=>.nil
 | [],_::_,h,_=>by simp at h
 | _::_,[],h,_=>by simp at h
 | x::xs,u::us,h,k=>.cons (k 0 x u rfl rfl) (yD (by simpa using h) fun j y v h1 h2=>k (j+1) y v (by simpa using h1) (by simpa using h2))
theorem Ts{w:World}{u:Value}(h:(dr P w).is k u=true):L2.RelV (kV k) u:=by
 rcases jD h with⟨i,t,rfl,rfl⟩ | ⟨x,t,rfl,rfl⟩
 ·exact⟨t,rfl⟩
 ·exact⟨t,rfl⟩
section
variable{X:Cx}{pins:List (Addr×Obj)}{σ:L2.St}{H:Hp}{s:acb}
theorem EW(I:Inv X pins σ H s){d:Addr}{kvs:List (Key×V)}(hd:H d=some (.dK kvs)\/(H d=some (.dT [])/\kvs=[])):∃vs,KV kvs vs/\s.heap.DictOf (dr X.prog X.w) d vs/\(d==adZ)=false/\kvs.length<=sizeLine:=by
 rcases hd with e | ⟨e,rfl⟩
 ·obtain⟨z,y,vs,rel,dd⟩:=rH I.aG e;exact⟨vs,rel,dd,y,z⟩
 ·obtain⟨z,y,vs,rel,dd⟩:=rH (kvs:=[]) (i8 I e).aG bQ;exact⟨vs,rel,dd,y,z⟩
theorem DM{kvs:List (Key×V)}{vs:List (Key×Value)}{acc:Array Value}(rel:KV kvs vs)(qa:ItemsOf (fun i v=>∃k x,vs[i]? =some (k,x)/\(dr X.prog X.w).is k v=true) acc vs.length):Vals (kvs.map fun kv=>kV kv.1) acc.toList:=by
 have hk:=rel.keys;refine yD (by have e1:=rel.length;have e2:=qa.1;have e3:acc.toList.length=acc.size:=afn;rw[abX];omega) fun j x u h1 h2=>?_
 obtain⟨k,y,e,hi⟩:=qa.2 j u (by simpa using h2);rw[abY] at h1;obtain⟨kv,e1,rfl⟩:=ace.mp h1;have e2:(kvs.map (·.1))[j]? =some kv.1:=by rw[abY,e1];rfl
 rw[hk,abY,e] at e2;have e3:k=kv.1:=by simpa using e2
 rw[<- e3];exact Ts hi
end
noncomputable def zp:List V->Hp->VK->Prop:=fun xs H Q=>∃d kvs,xs=[.ref d]/\(H d=some (.dK kvs)\/(H d=some (.dT [])/\kvs=[]))/\∀p,H p=none->Q (.ref p) (upd H p (.lst (kvs.map fun kv=>kV kv.1)))
section
variable{X:Cx}
theorem Su(hc:X.calm=true):c9 X (.type "list") zp:=by
 intro pins s σ H xs us Q I r h;obtain⟨d,kvs,rfl,hd,h⟩:=h;obtain⟨u,rfl,rx⟩:=vals1 r;obtain rfl:u=adO d:=rx;obtain⟨vs,rel,dd,y,z⟩:=EW I hd;obtain⟨ep,fA⟩:=dd.dictAt;refine PySem.W.kdl_call (agZ (knd:=dr X.prog X.w) (kvs:=vs) (ep:=ep) y) (I.ok.hd hc) fA (by rw[<- rel.length];exact z) fun h' tk acc c hk hD qa=>⟨.ref s.heap.objs.size,_,I.laid (t':=tk) (a:=s.heap.objs.size) (o:=.lst (kvs.map fun kv=>kV kv.1)) (fun b u q=>hk b u q) (abZ _) ⟨by simpa using z,acc.toList,c,DM rel qa,by simpa using hD⟩,rfl,h _ (I.aG.fresh (abZ _))⟩
noncomputable def GS(K:abW):List V->Hp->VK->Prop:=fun xs H Q=>∃(l:Addr) (ns:List Int),xs=[.ref l]/\(bP K H l (ns.map V.int)\/∃kvs:List (Key×V),(H l=some (.dK kvs)\/(H l=some (.dT [])/\kvs=[]))/\(kvs.map fun kv=>kV kv.1)=ns.map V.int)/\ns.length<64 /\
 ∀(p:Addr) (gU:List Int),H p=none->gU.Perm ns->gU.Pairwise (· <= ·)->Q (.ref p) (upd H p (.lst (gU.map V.int)))
theorem CT:∀{us:List Value} {ns:List Int},agg us ns->Vals (ns.map V.int) us:=by
 intro us ns h;have hl:=agE h;refine yD (by rw[abX,hl]) fun j x u h1 h2=>?_
 rw[abY] at h1;obtain⟨n,e1,rfl⟩:=ace.mp h1;obtain⟨m,t,e,e3⟩:=IntsAre.at h j u h2;rw[e1] at e3;cases e3;exact⟨t,e⟩
theorem gather{A:aeg}{E:Value->acb->Prop}{s:acb}{T:String}{r d:Addr}{n:Nat}{P:Nat->Value->Prop}{OK:Heap->Prop}{Y:List Value->acb->Prop}(src:PySem.W.KdlSrc X.prog X.w T r d n P OK)(calm:A.handled=none)(ok:OK s.heap)(fit:n<=acv)
  (go:∀(h':Heap) (tk:Nat) (acc:Array Value),(∀b o,s.heap.get? b=some o->h'.get? b=some o)->s.heap.objs.size<h'.objs.size->ItemsOf P acc n->Y acc.toList { s with heap:=h',toks:=tk }) :
  wpAny (model X.prog X.w) A (collect (.ref r)) Y E s:=by
 have low:=src.there _ ok;generalize hN:s.heap.objs.size=N at low go;have at0:(s.heap.push { cls:=.type "list",data:=.seq ([]:List Value).toArray }).get? N=some { cls:=.type "list",data:=.seq #[] }:=by rw[<- hN];exact acN _ rfl
 have ok1:OK (s.heap.push { cls:=.type "list",data:=.seq ([]:List Value).toArray }):=src.keep _ _ ok fun _ _ _ q=>aci _ q
 unfold collect;refine acx (wpAny_runValue (afr entry_proto_collect' ?_));rw[aey F.plain_proto_collect _];refine acx (m:=newList []) (wpAny_newObj_type (ada ⟨plainId_quiet F.plain_list_iadd _,afr entry_list_iadd' ?_⟩));rw[aey F.plain_list_iadd _,hN];have main:=PySem.W.kdl_extend (A:=A) (s:={ s with heap:=s.heap.push { cls:=.type "list",data:=.seq ([]:List Value).toArray } }) src calm ok1 N (adL low.1) (adL low.2) (.ref N) 0 at0
  (R:=fun q s'=>q=.ok (.ret (.ref N))/\∃(h':Heap) (tk:Nat) (acc:Array Value) (c:Nat),s'={ s with heap:=h',toks:=tk }/\(∀b o,s.heap.get? b=some o->h'.get? b=some o)/\h'.get? N=some { cls:=.type "list",dict:=none,data:=.seq acc c,slots:= #[] }/\ItemsOf P acc n)
  (fun h' tk acc c k1 k2 k3=>⟨rfl,h',tk,acc,c,rfl,fun b o q=>k1 b o (by rw[<- hN];exact acL (acj q)) (aci _ q),k2,k3⟩) fit
 have last:∀s',(∃(h':Heap) (tk:Nat) (acc:Array Value) (c:Nat),s'={ s with heap:=h',toks:=tk }/\(∀b o,s.heap.get? b=some o->h'.get? b=some o)/\h'.get? N=some { cls:=.type "list",dict:=none,data:=.seq acc c,slots:= #[] }/\ItemsOf P acc n) →
   wpAny (model X.prog X.w) A (do
    let o <- load N
    match o.data with
    | .seq xs _=>pure xs.toList
    | _=>unsupported "internal:collect") Y E s':=by
  rintro s' ⟨h',tk,acc,c,rfl,k1,k2,k3⟩;exact acx (wpAny_load k2 (ada (go h' tk acc k1 (acj k2) k3)))
 refine adm main (fun fin s' x=>?_) fun e s' x=>nomatch x.1
 cases fin with
 | done f=>
  obtain⟨q,x⟩:=x;cases q;exact last s' x
 | again abU=>
  refine⟨x.1,afg x.2 fun q oF y=>?_⟩;obtain⟨rfl,y⟩:=y;exact last oF y
theorem DN(hc:X.calm=true):c9 X (.builtin "sorted") (GS X.K):=by
 intro pins s σ H xs us Q I r h;obtain⟨l,ns,rfl,hl,w8,h⟩:=h;obtain⟨u,rfl,rx⟩:=vals1 r;obtain rfl:u=adO l:=rx;have z64:(64:Nat)<=sizeLine:=by decide
 rcases hl with hl | ⟨kvs,hd,hkv⟩
 ·obtain⟨its,rv,pl,hz⟩:=I.list hl;have hi:agg its ns:=intsAre_of rv;have lU:=agE hi;refine sorted_ints (vs:=its) pl.isList hi (by omega) fun out gU a1 a2 a3=>?_
  obtain⟨e,he⟩:=sortedAll_at s.heap its out;have gz:=a2.length_eq;exact⟨.ref (s.heap.objs.size+1),_,I.laid (t':=s.toks) (a:=s.heap.objs.size+1) (o:=.lst (gU.map V.int)) (fun b u q=>sortedAll_old q) (aeW _) ⟨by rw[abX];omega,out.toList,e,CT a1,by simpa using he⟩,rfl,h _ gU (I.aG.fresh (aeW _)) a2 a3⟩
 ·obtain⟨vs,rel,dd,y,z⟩:=EW I hd;obtain⟨ep,fA⟩:=dd.dictAt;refine Calls.call_function_entry kind_sorted plain_sorted entry_sorted (args_sorted1 _) ?_;unfold Builtin.«sorted»;refine acx (m:=checkCount "sorted" 1 1 _) (ada ?_);refine acx (gather (A:=X.A.in1) (agZ (knd:=dr X.prog X.w) (kvs:=vs) (ep:=ep) y) (I.ok.hd hc) fA (by rw[<- rel.length];exact z) fun h' tk acc hk GU qa=>?_);have rv:=DM rel qa;rw[hkv] at rv;have hi:agg acc.toList ns:=intsAre_of rv;have lU:=agE hi;refine acx (wpAny_newList ?_ (by omega));have ho:(h'.push (seqObj "list" acc.toList.toArray 0)).get? h'.objs.size=some (seqObj "list" acc.toList.toArray 0):=acN _ rfl;refine acx (aeQ (wpAny_call_entry slot_list_sort ⟨_,ho,rfl⟩ entry_list_sort (list_sort_tree ho hi (by omega) fun out gU a1 a2 a3=>⟨_,rfl,?_⟩) (args_list_sort _)));obtain⟨e,he⟩:=sortedHeap_at (out:=out) ho;have gz:=a2.length_eq;refine ada ⟨_,rfl,.ref h'.objs.size,_,I.laid (t':=tk) (a:=h'.objs.size) (o:=.lst (gU.map V.int)) (fun b u q=>?_) (aeL GU) ⟨by rw[abX];omega,out.toList,e,CT a1,by simpa using he⟩,rfl,h _ gU (I.aG.fresh (aeL GU)) a2 a3⟩;have hb:=hk b u q;have cE:=acj hb;rw[sortedHeap_old (acL cE) (aca cE (by rw[size_push'];exact aeW _)),Heap.get?_push_ne _ _ _ (acL cE)];exact hb
end
theorem vv{m:Mo α}{N:α->PH->Prop}(h:(dm m ph).Run N E):∃a ph',m ph=.ok a ph'/\N a ph':=by
 unfold dm at h;cases e:m ph with
 | ok a ph'=>rw[e] at h;exact⟨a,ph',rfl,h⟩
 | ex x ph'=>rw[e] at h;exact h.elim
 | no=>rw[e] at h;exact h.elim
noncomputable def sL(body:EM)(cs args:List W):Mo W:=match args,cs with
 | [a],[c]=>dm (body [some a,some c])
 | _,_=>dC
noncomputable def wH(x:Str)(k:List W->Mo W):W->Mo W
 | .fn z cs=>if z=x then k cs else dC
 | _=>dC
noncomputable def jk(x:Str)(body:EM)(i:Nat)(a:AM):EM:=fun σ=>match σ[i]? with
 | some (some w)=>wH x (fun cs=>au (a σ) fun ws=>sL body cs ws) w
 | _=>dC
structure qb(L:gA)(p q:Str):Prop where
 kind:L.sc.kind=.function
 co:L.sc.isCoroutine=false
 gen:L.sc.isGenerator=false
 cell:∀y∈L.sc.names,y.2≠.cell
 jW:L.sc.names.lookup p=some .local
 cap:L.sc.names.lookup q=some .free
 only:∀y,L.sc.names.lookup y=some .free->y=q
 bind:∀qual cl pm v gV u,bindArgs (afA "<lambda>" qual L.ar L.bd L.sc cl pm v gV) ⟨[u],[]⟩=pure [(p,u)]
noncomputable def jR(X:Cx)(p q:Str)(L:gA)(x:Str)(a:Addr)(v:Value)(cl:List (Str×Addr))(s:acb)(H:Hp):Cx:=
 let env:=PySem.W.envX (rZ x) L.sc s.heap.objs.size a v cl
 { X with A:=X.A.deeper env,N:=[p,q],aK:=s,aR:=H,env:=env,outer:=X.stack,stack:=env::X.stack,ex:=[],calm:=true,fn:=fun _=>false,pn:=[],xe:=fun _ _=>False }
section
variable{X:Cx}{pins:List (Addr×Obj)}{σ:L2.St}{H:Hp}{s:acb}
theorem Wj {p q x : Str} {L : gA} {a c : Addr} {v : Value} {u : Value} {va vc : V} {oc : Obj} {uc : Value} {gH : Heap} {tk : Nat} (I : Inv X pins σ H s) (S : qb L p q) (hr : X.A.handled = none) (hc : H c = some (.aV oc cX)) (hcd : oc.data = .cell (some uc))
    (rc : RelV vc uc) (ra : RelV va u) (bX : gH.Ns s.heap.objs.size (fun y => [(p, u)].reverse.lookup y)) (hk : ∀ b o, s.heap.get? b = some o -> gH.get? b = some o) :
    Inv (jR X p q L x a v [(q, c)] s H) [] [some va, some vc] H { s with heap := gH, toks := tk } := by
  have Jm : gH.IsCell c (some uc) := ⟨oc, hk _ _ (I.aG c _ hc).1, hcd⟩
  have lk : ∀ y d, aep y [(q, c)] = some d -> y = q /\ d = c := fun y d e => by
    rw [acm] at e;split at e
    · rename_i z; cases e; exact ⟨eq_of_beq z, rfl⟩
    · cases e
  have ok : (jR X p q L x a v [(q, c)] s H).Ok :=
    { mod := I.ok.mod
      kind := S.kind
      glob := rfl
      blt := rfl
      above := abZ _
      inj := fun y z d h1 h2 => (lk y d h1).1.trans (lk z d h2).1.symm
      has := fun y hy => by
        have hy : L.sc.names.lookup y = some .cell \/ L.sc.names.lookup y = some .free := hy
        rcases hy with hy | hy
        · exact absurd rfl (S.cell _ (adB hy))
        · exact ⟨c, by show aep y [(q, c)] = _; rw [S.only y hy, acm]; simp⟩
      qj := fun y d hz => nomatch hz
      hd := fun _ => hr
      frames := agx I.ok.frames
      sj := .inr ⟨rfl, rfl⟩
      AG := fun b hb => nomatch hb
      bs := I.bs
      jS := acl I.ok.jS I.sz
      pP := fun b o e hb => nomatch hb
      pQ := fun b hb => nomatch hb
      fF := I.stack
      lM := I.vG }
  refine ⟨ok, rfl, I.bare, Un.kept hk, ⟨_, bX, fun i y w e1 e2 _ => ?_⟩, fun y d e => ?_, I.aG.fresh (abZ _), fun y d e => ⟨(fun z => nomatch z), .inr ?_⟩, (fun p hp => nomatch hp), I.aG.kept hk, rfl⟩
  · match i, e1, e2 with
    | 0, e1, e2 =>
      cases e1;cases e2;exact ⟨u, ra, .inl ⟨S.jW, by simp⟩⟩
    | 1, e1, e2 =>
      cases e1;cases e2;exact ⟨uc, rc, .inr ⟨.inr S.cap, c, by show aep _ [(_, c)] = _; rw [acm]; simp, Jm⟩⟩
    | i + 2, e1, e2 => cases e1
  · obtain ⟨rfl, rfl⟩ := lk y d e
    exact ⟨_, Jm⟩
  · obtain ⟨rfl, rfl⟩ := lk y d e
    exact ⟨oc, hc⟩
theorem Tt{H:Hp}{cl:List (Str×Addr)}{v:V}(h:jJ H cl [v]):∃q c oc u,cl=[(q,c)]/\H c=some (.aV oc cX)/\oc.data=.cell (some u)/\RelV v u:=by
 cases cl with
 | nil=>exact h.elim
 | cons a cl=>
  cases cl with
  | nil=>obtain⟨⟨oc,u,h1,h2,h3⟩,_⟩:=h;exact⟨a.1,a.2,oc,u,rfl,h1,h2,h3⟩
  | cons b cl=>exact h.2.elim
theorem YO{x y p q:Str}{L:gA}{i k:Nat}{e:Expr}{a:AM}{body:EM}{pp pos:Pos}(hl:ik X.K x=some L)(S:qb L p q)(hr:cS (k+1) X.A)(hN:X.N[i]? =some y)(hv:aA X.env.scope y)
  (hb:∀a v cl s H,cS k (jR X p q L x a v cl s H).A->IE (jR X p q L x a v cl s H) L.bd body) (ha:IA X [e] a)
  (hd:(y==("__debug__":Str))=false:=by decide) (hcd:(y==("__classdict__":Str))=false:=by decide) (he:acM [e] X.env=(false,eval e X.env)::acM [] X.env:=by rfl) (gx:(afk pos (acM [] X.env)).any (·.1)=false:=by rfl) :
  IE X (.Call (.Name y pp) [e] [] pos) (jk x body i a):=by
 intro pins s σ H Q I h;obtain⟨φ,ph,ws,hH,hS,h⟩:=h;unfold jk at h;cases ew:ws[i]? with
 | none=>simp only[ew] at h;exact h.elim
 | some ow=>
 cases ow with
 | none=>simp only[ew] at h;exact h.elim
 | some w0=>
 simp only[ew] at h;cases w0 with
 | fn z cs=>
  simp only[wH] at h;by_cases hz:z=x
  ·rw[if_pos hz] at h;subst hz;obtain⟨vf,ev,rf⟩:=hS.get ew;cases rf with
   | fn hf As hcs rcs=>
   rename_i fa vs o cl;refine aeh (a7 (FD hN hv hd hcd pins s σ H (fun v H'=>v=.ref fa/\H'=H) I ⟨_,ev,rfl,rfl⟩) fun uf s0 ⟨v0,H0,I0,r0,e0⟩=>?_);obtain⟨e01,e02⟩:=e0;subst e01;subst e02;obtain rfl:uf=adO fa:=r0;obtain⟨L',pm,cv,gV,el,eo,Bh,abk⟩:=As;rw[hl] at el;cases el;have HN:∀{ao:L2.St} {H':Hp} {s':acb},Inv X pins ao H' s'->H' fa=some (.aV o cX)->PySem.W.FnAt fa s'.heap:=fun J hz=>by
    have:=(J.aG fa _ hz).1;rw[eo] at this;exact⟨_,_,_,_,this⟩
   refine PySem.W.callWith_F (HN I0 hf) (a7 (ha pos pins s0 σ H0 (fun Bj H1=>∃aB ph1 xs,aN X.K aB ph1 H1/\Step X.K φ ph.length H0 aB ph1.length H1/\a9 X.K aB ph1.length H1 xs Bj/\(sL body cs xs ph1).Run (fun w ph'=>
    ∀aq H' v,aN X.K aq ph' H'->Step X.K φ ph.length H0 aq ph'.length H'->aO X.K aq ph'.length H' w v->Q v H') (XE X aB ph1.length H1)) I0
    (tA.bind hH hS h fun xs ph1 aB H1 Bj aL s1 r1 h=>⟨aB,ph1,xs,aL,s1,r1,h⟩)) fun us s1 ⟨Bj,H1,I1,r1,aB,ph1,xs,aL,lW,rx,eY⟩=>⟨HN I1 (lW.aV _ _ _ hf),?_⟩) he gx
   unfold sL at eY;split at eY
   ·rename_i wa wc;cases rx with
    | cons ra rn=>
    cases rn;cases rcs with
    | cons rc rn2=>
    cases rn2;rename_i va vc;obtain⟨u,rfl,rau⟩:=Vals.one r1;obtain⟨q',c,oc,uc,rfl,qm,abl,rcu⟩:=Tt hcs;have qm:=lW.aV _ _ _ qm;have Bh:=Bh.mono fun a o z=>lW.aV a o _ z
    obtain⟨c',Jo,Bk,t',rfl,fJ,kC,Bc⟩:=Bh;obtain⟨cq,hq⟩:=abk q S.cap;have eq1:q'=q:=by
     rw[acm] at hq;split at hq
     ·rename_i z;exact(eq_of_beq z).symm
     ·cases hq
    subst eq1;obtain⟨w,ph',aah,hQ⟩:=vv eY;have ho:=(I1.aG fa _ (lW.aV _ _ _ hf)).1;rw[eo] at ho;show wpAny (model X.prog X.w) X.A (call (.ref fa) [u]) _ _ _;refine wpAny_call (afg (R:=fun r s'=>match r with | .ok (.ret v)=>CE X.stack X.prog X.w H1 s1 Q v s' | _=>False) ?_ fun r s' hq=>?_)
    ·refine PySem.W.kla_callFunE (hr.depth) ho rfl S.co S.gen rfl ⟨c',Jo,Bk,t',rfl,(I1.aG c' _ fJ).1,kC,Bc⟩ ?_;rw[S.bind];refine ada (wpAny_newFunctionEnv S.cell (fun y hy=>by rw[acG.mp hy];exact S.jW) (fun gH bX qu=>⟨I1.nolimit.fresh _ qu,?_⟩) S.kind);have aby:∀b o,s1.heap.get? b=some o->gH.get? b=some o:=fun b o e=>qu.extBut b o (acL (acj e)) (aci _ e)
     refine PySem.W.kla_codeExpr ?_;have J:=Wj (x:=z) (a:=fa) (v:=.ref c') (tk:=s1.toks+[(p,u)].length) I1 S hr.hd qm abl rcu rau bX aby;refine adm (hb fa (.ref c') [(q',c)] s1 H1 (hr.deeper _) [] _ _ H1 Q J ⟨aB,ph1,_,aL,.sm ra (.sm (rc.mono lW) .nil),?_⟩) (fun v s' hv=>?_) fun e s' hz=>hz.elim
     ·rw[aah];exact fun aq H' v r1 s1 r2=>hQ aq H' v r1 (lW.trans s1) r2
     ·obtain⟨v0,H',J',rv,q0⟩:=hv;exact⟨v0,H',J'.os,J'.bare,J'.base,J'.aG,rv,q0⟩
    ·cases r with
     | error e=>exact hq.elim
     | ok fl=>
      cases fl with
      | ret u=>exact I1.after hq
      | _=>exact hq.elim
   ·exact eY.elim
  ·rw[if_neg hz] at h;exact h.elim
 | _=>exact h.elim
end
noncomputable def abm(K:abW)(x:Str)(P:Addr)(cl:List (Str×Addr)):TE:=fun σ H Q=>jh H x P/\∀a o H2,H a=none->H2 a=some (.aV o cX)->nL K H2 x o cl->(∀b u,H b=some u->(∀ps,u≠.c4 ps)->H2 b=some u) →
 (∀b ps,b≠P->H b=some (.c4 ps)->H2 b=some (.c4 ps))->jh H2 x P->Q (.ref a) H2
theorem RA:∀{l:List Value} {i j:Int} {t u:Tok} {v:Value},aeo l->aeo (l++[.int i t,.int j u,v]):=by
 intro l i j t u v h
 fun_induction aeo l with
 | case1=>exact trivial
 | case2 a b c d e rest ih=>exact ih h
 | case3=>exact h.elim
theorem Tu{w:Value}:∀{l:List Value} {i j:Int} {t u:Tok} {v:Value},aeo l->agj pos (l++[.int i t,.int j u,v])=some w->agj pos l=some w\/w=v:=by
 intro l i j t u v h e
 fun_induction aeo l with
 | case1=>
  simp only[aeR,agj] at e;split at e
  ·cases e;exact .inr rfl
  ·cases e
 | case2 a b c d e' rest ih=>
  simp only[List.cons_append,agj] at e ⊢;split at e
  ·rename_i hz;rw[if_pos hz];exact .inl e
  ·rename_i hz;rw[if_neg hz];exact ih h e
 | case3=>exact h.elim
section
variable{X:Cx}
theorem FQ{x:Str}{L:gA}{c P:Addr}{oc:Obj}{cl:List (Str×Addr)}(hl:ik X.K x=some L)(hq:X.env.qual=x++".<locals>.")(xa:X.env.globals=ach)(pL:X.env.code=.ref c)(oh:X.K.lookup c=some oc)(hP:iW oc=some P)(oi:c≠P)
  (lF:aev L.sc X.env=pure cl) (lX:∀y,L.sc.names.lookup y=some .free->∃c,cl.lookup y=some c) (nR:agT L.ar X.env=([],[])):PE X (.Lambda L.ar L.bd L.sc L.pos) (abm X.K x P cl):=by
 intro pins s σ H Q I h;obtain⟨⟨ps,hT,sM,hG⟩,h⟩:=h;have C:aeD s.heap c P:=DI (I.kA _ _ oh) hP oi;have sN:s.heap.get? P=some (adM ps):=I.aG P _ hT;have xb:s.heap.Ns ach X.mg:=I.ok.mod.glob.keeps I.bk;obtain⟨bm,ob,b1,b2,b3,b4,b5,b6⟩:=I.ok.mod.bm;have sO:=I.bk _ _ b3;have hgP:ach≠P:=fun z=>by
  obtain⟨o,es,ep,e,hd,_⟩:=xb;rw[z,sN] at e;cases e;cases hd
 have hbP:bm≠P:=fun z=>by rw[z,sN] at sO;cases sO;cases b4
 have hbG:bm≠mainGlobals:=fun z=>by
  obtain⟨o,es,ep,e,hd,_⟩:=xb;rw[z,e] at sO;cases sO;rw[hd] at b6;cases b6
 have hB:s.heap.BuiltinsAt X.mg P:=⟨bm,ob,b1,b2,hbG,hbP,sO,b4,b5,b6⟩
 refine PySem.W.kla_eval nR ?_;rw[hq];cases hf:agj L.pos ps.toList with
 | some cv=>
  refine PySem.W.kla_makeFunctionHit lF xa xb pL C sN sM hf hB fun gV h' tk hk hsz=>?_
  have gQ:H h'.objs.size=none:=I.aG.fresh hsz;have hCG:=hG _ _ hf;refine⟨.ref h'.objs.size,_,I.laid (a:=h'.objs.size) (o:=.aV { cls:=.type "function",data:=.func (afA "<lambda>" (rZ x) L.ar L.bd L.sc cl ((X.mg "__name__").getD .none) cv gV) } cX) (t':=tk) (fun b u e=>aci _ (hk b u e)) hsz ⟨acN _ rfl,trivial,⟨_,acN _ rfl⟩,fun _ _ _ _=>trivial⟩,rfl,h _ _ _ gQ bQ ?_ (fun b u e _=>?_) (fun b ps' _ e=>?_) ?_⟩
  ·exact⟨L,_,cv,gV,hl,rfl,hCG.mono fun a o z=>by rw[aT (ce z gQ)];exact z,lX⟩
  ·rw[aT (ce e gQ)];exact e
  ·rw[aT (ce e gQ)];exact e
  ·exact jh.new ⟨ps,hT,sM,hG⟩ gQ
 | none=>
  refine PySem.W.kla_makeFunction lF xa xb pL C sN sM hf hgP hB fun c' gV h' tk hx qx cE abn sP=>?_
  obtain⟨c2,Bl,Jp,t2,e2,HP,hd2,hv2⟩:=abn;cases e2;have hPs:P<s.heap.objs.size:=acj sN;have nc:H c'=none:=I.aG.fresh qx;have na:H h'.objs.size=none:=I.aG.fresh (acl qx (aeL cE));have Pc:P<c':=aca hPs qx;have cP:c'≠P:=adL Pc;have aP:h'.objs.size≠P:=adL (Nat.lt_trans Pc cE);have ac:h'.objs.size≠c':=adL cE;have keep:∀{ob:Obj} (b:Addr) (u:Obj),b≠P->s.heap.get? b=some u->(h'.push ob).get? b=some u:=fun b u n e=>aci _ (hx b u n e)
  have lt:∀{b:Addr} {u:Obj},s.heap.get? b=some u->b≠c'/\b≠h'.objs.size:=fun{b u} e=>⟨acL (aca (acj e) qx),acL (aca (acj e) (acl qx (aeL cE)))⟩
  obtain⟨fo,Bm⟩:∃fo:Obj,fo={ cls:=.type "function",data:=.func (afA "<lambda>" (rZ x) L.ar L.bd L.sc cl ((X.mg "__name__").getD .none) (.ref c') gV) }:=⟨_,rfl⟩
  obtain⟨qy,Bn⟩:∃qy:Array Value,qy=ps++ #[rawInt L.pos.line,rawInt L.pos.col,.ref c']:=⟨_,rfl⟩
  rw[<- Bn] at sP;obtain⟨H2,eH⟩:∃H2:Hp,H2=upd (upd (upd H P (.c4 qy)) c' (.aV Bl cX)) h'.objs.size (.aV fo cX):=⟨_,rfl⟩
  have qz:H2 h'.objs.size=some (.aV fo cX):=by rw[eH];exact bQ
  have Jq:H2 c'=some (.aV Bl cX):=by rw[eH,aT (aej ac)];exact bQ
  have Bo:H2 P=some (.c4 qy):=by rw[eH,aT (aej aP),aT (aej cP)];exact bQ
  have Bp:∀b,b≠h'.objs.size->b≠c'->b≠P->H2 b=H b:=fun b n1 n2 n3=>by rw[eH,aT n1,aT n2,aT n3]
  have nP:∀b u,H b=some u->(∀ps,u≠.c4 ps)->b≠P:=fun b u e n z=>by rw[z,hT] at e;cases e;exact n _ rfl
  have old:∀b u,H b=some u->b≠P->H2 b=some u:=fun b u e n=>(Bp b (ce e na) (ce e nc) n).trans e
  have abo:cj X.prog X.w H2 (h'.push fo):=fun b u e=>by
   by_cases gD:b=h'.objs.size
   ·subst gD;rw[qz] at e;cases e;have hz:(h'.push fo).get? h'.objs.size=some fo:=acN _ (by rw[Bm];rfl);exact⟨hz,trivial,⟨_,hz⟩,fun _ _ _ _=>trivial⟩
   by_cases kL:b=c'
   ·subst kL;rw[Jq] at e;cases e;exact⟨aci _ HP,trivial,⟨_,aci _ HP⟩,fun _ _ _ _=>trivial⟩
   by_cases Bq:b=P
   ·subst Bq;rw[Bo] at e;cases e;exact aci _ sP
   rw[Bp b gD kL Bq] at e;refine(I.aG b u e).ir (fun d v hd q=>keep d v ?_ q) (fun d q=>old d _ q (nP d _ q fun _ z=>nomatch z)) fun d xs q=>old d _ q (nP d _ q fun _ z=>nomatch z)
   rcases hd with rfl | hd
   ·exact Bq
   ·exact nP d _ hd fun _ z=>nomatch z
  have un:Un X.fs [] H H2 s.heap (h'.push fo):=by
   refine⟨fun b o e n _ _=>keep b o (fun z=>by rw[z,hT] at n;cases n) e,fun b o e n _ _=>⟨o.slots,keep b o (fun z=>by rw[z,hT] at n;cases n) e⟩,fun b o e n _=>?_,fun b o e _=>?_,fun b xs e=>old b _ e (nP b _ e fun _ z=>nomatch z),fun b o u e=>old b _ e (nP b _ e fun _ z=>nomatch z),fun b ps0 e=>?_⟩
   ·rw[Bp b (lt e).2 (lt e).1 (fun z=>by rw[z,hT] at n;cases n)];exact n
   ·by_cases hb:b=P
    ·exact⟨_,by rw[hb];exact aci _ sP⟩
    ·exact⟨o,keep b o hb e⟩
   ·by_cases hb:b=P
    ·subst hb;rw[hT] at e;cases e;exact⟨_,by rw[Bo,Bn]⟩
    ·exact⟨#[],by rw[old b _ e hb];simp⟩
  have xc:qy.toList=ps.toList++[rawInt L.pos.line,rawInt L.pos.col,.ref c']:=by rw[Bn];simp
  have cg:pG H2 (.ref c') x:=⟨c',Bl,Jp,t2,rfl,Jq,hd2,hv2⟩
  show EP X pins σ Q (.ref h'.objs.size) { s with heap:=h'.push _,toks:=tk };rw[show(PySem.W.kla_obj "<lambda>" ((x++".<locals>.")++"<lambda>") L.ar L.bd L.sc cl ((X.mg "__name__").getD .none) c' gV)=fo from Bm.symm];refine⟨.ref h'.objs.size,H2,I.un (t':=tk) un abo,rfl,h _ fo H2 na qz ⟨L,_,_,gV,hl,Bm,cg,lX⟩ (fun b u e n=>old b u e (nP b u e n)) (fun b ps' n e=>old b _ e n) ⟨qy,Bo,by rw[xc];exact RA sM,fun pos v e=>?_⟩⟩;rw[xc] at e
  rcases Tu sM e with e | rfl
  ·exact(hG pos v e).mono fun a o z=>old a _ z (nP a _ z fun _ y=>nomatch y)
  ·exact cg
end
noncomputable def sd(x:Str)(m1:EM)(fm:List W->Mo W)(args:List W):Mo W:=match args with
 | [a]=>au (dm (m1 [some a])) fun w1=>dm (fm [w1,.fn x [a]])
 | _=>dC
section
variable{Pg:adl}{w:World}{K:abW}{mg:Str->Option Value}{base:Heap}
theorem Ei{x qual:Str}{st:Stmt}{f:Addr}{fd:acP}(F:cm K x qual st f fd)(hn:acp K ach x=some (some (.ref f))):ik K x=Ak (aY st):=by
 obtain⟨oc,od,kV,doc,pm,an,bG,ct,fX,rfl,lk,hcd⟩:=F.ex;unfold ik;simp only[hn,lk]
theorem Wk{x g n:Str}{st:Stmt}{f fg c P:Addr}{fd gd:acP}{xf:List Str}{k:Nat}{m1:EM}{fm:List W->Mo W}{e1:Expr}{L:gA}{p1 p2 p3:Pos}{oc:Obj}(F:cm K x x st f fd)(S:cu [n] [n] (af st))
  (d5:aY st=[.Return (some (.Call (.Name g p1) [e1,.Lambda L.ar L.bd L.sc L.pos] [] p2)) p3]) (eZ:∀j,agf j (af st).names []=[(n,j)]) (Jr:(af st).names.lookup n=some .cell) (pL:fd.code=.ref c) (oh:K.lookup c=some oc) (hP:iW oc=some P) (oi:c≠P)
  (hm:(x,c,P)∈dP K) (nS:∀p∈dP K,p.2.2=P->p.1=x) (hl:ik K x=some L) (lF:∀L0 fa cd,aev L.sc (aeB x (af st) L0 fa cd)=pure [(n,L0+1)]) (lX:∀y,L.sc.names.lookup y=some .free->y=n)
  (nR:∀env,agT L.ar env=([],[])) (Js:∀env,acM [e1,.Lambda L.ar L.bd L.sc L.pos] env=(false,eval e1 env)::acM [.Lambda L.ar L.bd L.sc L.pos] env) (hgl:(af st).names.lookup g=some .globalImplicit) (dE:(g==("__debug__":Str))=false)
  (G:bT Pg w K mg base (bp Pg w) k fg gd xf (b7 K mg 2 fm)) (hmg:mg g=some (.ref fg)) (hkp:acn K (.ref fg)=true) (hbg:Binds K gd xf []) (abp:xf.length=2)
  (Br:∀(bG:Value) (A:aeg) (outer:List Env) (s:acb) (H:Hp) (E:XK),cS k (A.deeper (aeB x (af st) s.heap.objs.size f bG))->IE (dJ (bp Pg w) Pg w K mg base [n] x (af st) f bG A outer s H E) e1 m1) :
  bT Pg w K mg base (bp Pg w) (k+1) f fd [n] (b7 K mg 1 (sd x m1 fm)):=by
 obtain⟨Jo,od,kV,doc,pm,an,bG,ct,fX,rfl,lk,hcd⟩:=F.ex;obtain rfl:bG=.ref c:=pL;refine⟨fun vs H Q E h=>h.1,fun A outer s H args us vs Q E hr e0 hb r nY=>?_⟩;obtain⟨cL,φ,ph,ws,hH,rws,eY⟩:=nY;have KX:K.In s.heap:=e0.mod.qh.keeps fun b o e=>(e0.bs b o e).1
 have lim:s.heap.NoLimit:=e0.mod.nolimit.keeps fun b o e=>(e0.bs b o e).1
 have rG:∀y∈[n].zip us,(af st).names.lookup y.1=some .local\/((af st).names.lookup y.1=some .cell/\((agf (s.heap.objs.size+1) (af st).names []).lookup y.1).isSome=true):=fun⟨m,v⟩ hy=>by
  rcases S.jW m (aem hy).1 with q | q
  ·exact .inl q
  ·exact .inr ⟨q,aee _ _ _ (.inl q)⟩
 refine afd hr.depth (KX _ _ lk) rfl S.co S.gen rfl (afy KX hcd) (hb _ _ _ _ ?_);refine aex S.kind rG fun env he s1 y=>?_
 subst he;refine⟨lim.keeps y.toInCall.keep,codeAny_func ?_⟩;have I:Inv (dJ (bp Pg w) Pg w K mg base [n] x (af st) f (.ref c) A outer s H E) [] (start [n] vs) H s1:=yh S hr.hd e0 cL r y;have Jt:cS k (A.deeper (aeB x (af st) s.heap.objs.size f (.ref c))):=hr.deeper _;have Br:=Br (.ref c) A outer s H E Jt;show wpAny _ _ (execs (aY st) _) _ _ _;rw[d5];cases rws with
 | nil=>exact absurd cL (by decide)
 | cons ra rn=>
 cases rn with
 | cons _ _=>exact absurd cL (by simp)
 | nil=>
 rename_i wa va;unfold sd at eY;rw[cW] at eY;obtain⟨w1,ph1,ew1,eY⟩:=vv eY;obtain⟨wr,ph2,ewr,hQ⟩:=vv eY;have est:start [n] [va]=[some va]:=rfl;rw[est] at I;obtain⟨X,eX⟩:∃X,X=dJ (bp Pg w) Pg w K mg base [n] x (af st) f (.ref c) A outer s H E:=⟨_,rfl⟩
 have key:wpAny (model Pg w) X.A (eval (.Call (.Name g p1) [e1,.Lambda L.ar L.bd L.sc L.pos] [] p2) X.env) (fun u s'=>CE outer Pg w H s Q u s') X.xe s1:=by
  subst eX;have aai:=FQ (X:=dJ (bp Pg w) Pg w K mg base [n] x (af st) f (.ref c) A outer s H E) (cl:=[(n,s.heap.objs.size+1)]) hl rfl rfl rfl oh hP oi (lF _ _ _) (fun y hy=>⟨s.heap.objs.size+1,by rw[lX y hy,acm];simp⟩) (nR _);have hPA:=yS (hs:=Js _) Br (yS (hs:=rfl) aai FH);refine aeh (EG I hgl hmg (agK (h₀:=base) e0.mod.qh hkp (a7 (hPA p2 [] s1 [some va] H (fun Bk H2=>∃v1 a o aB,Bk=[v1,.ref a]/\aN K aB ph1 H2/\Step K φ ph.length H aB ph1.length H2/\aO K aB ph1.length H2 w1 v1 /\
   H2 a=some (.aV o cX)/\nL K H2 x o [(n,s.heap.objs.size+1)]) I ⟨φ,ph,[some wa],hH,.sm ra .nil,?_⟩) fun xg s2 ⟨Jp,H2,I2,r2,v1,a,o,aB,e2,ba,bE,Bs,sQ,jY⟩=>⟨I2.kA,?_⟩) (Js _) rfl) dE)
  ·rw[ew1];intro aB H1 v1 aL lW Bs;refine⟨aL.tb _ hm,fun a o H2 na qz jY hold Au Bt=>?_⟩;have se:∀b o u,H1 b=some (.aV o u)->H2 b=some (.aV o u):=fun b o u z=>hold b _ z fun _ y=>nomatch y
   have bE:Step K aB ph1.length H1 aB ph1.length H2:=⟨abZ _,fun _ _=>rfl,(fun b xs z=>hold b _ z fun _ y=>nomatch y),se⟩
   refine⟨v1,a,o,aB,rfl,⟨fun i p e=>?_,aL.inj,fun p hp=>?_⟩,lW.trans bE,Bs.mono bE,qz,jY⟩
   ·obtain⟨z,hz,mz⟩:=aL.at (abV.mp e).1;have Bu:∀ps,z≠.c4 ps:=fun ps q=>by
     subst q;have q:=aL.hp i p e;cases p with
     | lst _=>obtain⟨_,q,_⟩:=q;rw[hz] at q;cases q
     | aD _=>rcases q with⟨_,q,_⟩ | ⟨_,q,_⟩ <;> (rw[hz] at q;cases q)
     | obj _ _=>obtain⟨_,_,_,_,q,_⟩:=q;rw[hz] at q;cases q
     | qq _=>obtain⟨_,q,_⟩:=q;rw[hz] at q;cases q
     | kG _=>obtain⟨_,_,⟨_,q,_⟩ | ⟨_,q,_⟩⟩:=q <;> (rw[hz] at q;cases q)
    exact(aL.hp i p e).mono bE ((hold _ _ hz Bu).trans hz.symm)
   ·by_cases kE:p.2.2=P
    ·rw[kE,nS p hp kE];exact Bt
    ·obtain⟨ps,e1,e2,e3⟩:=aL.tb p hp;exact⟨ps,Au _ _ kE e1,e2,fun pos v e=>(e3 pos v e).mono fun b o z=>se b o _ z⟩
  ·subst e2;obtain⟨c0,Bv⟩:∃c0,c0=s.heap.objs.size+1:=⟨_,rfl⟩
   rw[<- Bv] at jY;have YQ:(dJ (bp Pg w) Pg w K mg base [n] x (af st) f (.ref c) A outer s H E).env.cells=[(n,c0)]:=by rw[Bv];exact eZ _
   have Av:(dJ (bp Pg w) Pg w K mg base [n] x (af st) f (.ref c) A outer s H E).env.cells.lookup n=some c0:=by rw[YQ,acm];simp
   have fB:H2 c0=none:=(I2.gO n c0 Av).1 rfl;have jL:∃eE u0,s2.heap.get? c0=some eE/\eE.data=.cell (some u0)/\RelV va u0:=by
    obtain⟨m,hn,Bw⟩:=I2.loc;obtain⟨u0,lY,Bx⟩:=Bw 0 n va rfl rfl (.inr (.inl Jr))
    rcases Bx with⟨kz,_⟩ | ⟨_,c1,sR,eE,g1,g2⟩
    ·have kz:(af st).names.lookup n=some .local:=kz;rw[Jr] at kz;cases kz
    ·rw[Av] at sR;cases sR;exact⟨eE,u0,g1,g2,lY⟩
   obtain⟨eE,u0,g1,g2,lY⟩:=jL;have qA:s.heap.objs.size<=c0:=by rw[Bv];omega
   have fO:∀b o,s.heap.get? b=some o->b≠c0:=fun b o e=>acL (aca (acj e) qA)
   have ok3:cj Pg w (upd H2 c0 (.aV eE cX)) s2.heap:=fun b u e=>by
    by_cases hb:b=c0
    ·subst hb;rw[bQ] at e;cases e;exact⟨g1,trivial,⟨_,g1⟩,fun _ _ _ _=>trivial⟩
    ·rw[aT hb] at e;exact(I2.aG b u e).ir (fun _ _ _ q=>q) (fun d q=>by rw[aT (ce q fB)];exact q) fun d xs q=>by rw[aT (ce q fB)];exact q
   have E2:=I2.HB;have e03:rX Pg w K mg base (A.deeper (aeB x (af st) s.heap.objs.size f (.ref c))) (aeB x (af st) s.heap.objs.size f (.ref c)::outer) s2 (upd H2 c0 (.aV eE cX)):=
    ⟨E2.frames,E2.mod,fun b o e=>⟨(E2.bs b o e).1,by rw[aT (fO b o (e0.bs b o e).1)];exact(E2.bs b o e).2⟩,E2.jS,E2.fF,fun b hb=>by
     rw[aT (fun z=>?_)]
     ·exact E2.lM b hb
     ·subst z
      rcases acD.mp (I2.rE b hb) with z | z
      ·exact I2.kB n b Av z
      ·obtain⟨_,o',eB,_⟩:=e0.fF.mem z;exact fO b o' eB rfl,ok3,E2.bare⟩
   have hlb:(xg++[]).length=xf.length:=by rw[adp,<- r2.length];exact abp.symm
   have oe:=hbg s2 xg I2.kA hlb;rw[adp] at oe;have fW:Step K aB ph1.length H2 aB ph1.length (upd H2 c0 (.aV eE cX)):=⟨abZ _,fun _ _=>rfl,fun b xs z=>by rw[aT (ce z fB)];exact z,fun b o u z=>by rw[aT (ce z fB)];exact z⟩
   refine wpAny_call (afg (G.run _ _ s2 (upd H2 c0 (.aV eE cX)) ⟨xg,[]⟩ xg [v1,.ref a] Q (fun _ _ _=>False) Jt e03 oe r2
    ⟨rfl,aB,ph1,[w1,.fn x [wa]],Ec ba fB,.cons (Bs.mono fW) (.cons (.fn (fW.aV _ _ _ sQ) (jY.mono fun b o z=>fW.aV b o _ z) (show jJ _ [(n,c0)] [va] from⟨⟨eE,u0,bQ,g2,lY⟩,trivial⟩) (.cons ((ra.mono bE).mono fW) .nil)) .nil),?_⟩) fun r s' hq=>?_)
   ·rw[ewr];exact fun aq H' v h1 h2 h3=>hQ aq H' v h1 ((bE.trans fW).trans h2) h3
   ·cases r with
    | error e=>obtain⟨_,_,_,z⟩:=hq;exact z.elim
    | ok fl=>
     cases fl with
     | ret u=>
      obtain⟨v,H',os,bare,un,wG,rv,q⟩:=hq;refine⟨v,H',os.trans I2.os,bare,?_,wG,rv,q⟩;have B:=I2.base;have frees:∀b o,s.heap.get? b=some o->H b=none->upd H2 c0 (.aV eE cX) b=none:=fun b o e n=>by rw[aT (fO b o e)];exact B.free b o e n (fun z=>nomatch z)
      have hLn:∀b o,s.heap.get? b=some o->b∉dZ outer->b∉dZ (aeB x (af st) s.heap.objs.size f (.ref c)::outer):=fun b o e hb hz=>by
       rcases acD.mp (I2.rE b hz) with z | z
       ·have z:b=s.heap.objs.size:=z;exact absurd (acj e) (by rw[z];exact adJ _)
       ·exact hb z
      refine⟨fun b o e n hb _=>un.keep b o (B.keep b o e n hb (fun z=>nomatch z)) (frees b o e n) (hLn b o e hb) (fun z=>nomatch z),fun b o e n hb _=>?_,fun b o e n _=>?_,fun b o e _=>?_,fun b xs e=>?_,fun b o u e=>?_,fun b ps e=>?_⟩
      ·obtain⟨sl,e1⟩:=B.slot b o e n hb (fun z=>nomatch z);obtain⟨nZ,e2⟩:=un.slot b _ e1 (frees b o e n) (by rw[vm rfl];exact acH _ hb) (fun z=>nomatch z);exact⟨nZ,e2⟩
      ·obtain⟨o',e1⟩:=B.there b o e (fun z=>nomatch z);exact un.free b o' e1 (frees b o e n) (fun z=>nomatch z)
      ·obtain⟨o',e1⟩:=B.there b o e (fun z=>nomatch z);exact un.there b o' e1 (fun z=>nomatch z)
      ·exact un.fk b xs (fW.tup b xs (B.fk b xs e))
      ·exact un.er b o u (fW.aV b o u (B.er b o u e))
      ·obtain⟨m1,e1⟩:=B.fq b ps e;obtain⟨m2,e2⟩:=un.fq b (ps++m1) (by rw[aT (ce e1 fB)];exact e1);exact⟨m1++m2,by rw[e2,afw]⟩
     | _=>exact aeu hq
 subst eX;exact afi (wpAny_Return_some (adm key (fun u s' hq=>hq) fun e s' hz=>hz))
end
noncomputable def pM(kws:List (W×W)):Option (List W):=if kws.all (fun p=> !j7 p.1)=true then some (kws.map (·.1)) else none
noncomputable def km:List W->Po W:=fun xs ph=>match xs with
 | [w]=>match eJ w ph with
  | some p=>(pM p.2).map fun ks=>(.ref ph.length,ph++[.lst ks])
  | none=>pH [w] ph
 | _=>none
noncomputable def insI(a:Int):List Int->List Int
 | []=>[a]
 | b::l=>if a<=b then a::b::l else b::insI a l
noncomputable def lG:List Int->List Int
 | []=>[]
 | a::l=>insI a (lG l)
noncomputable def nH:List W->Po W:=fun xs ph=>match xs with
 | [w]=>match(match eJ w ph with | some p=>(pM p.2).bind (bD p8) | none=>zT w ph) with
  | some ns=>if ns.length<64 then some (.ref ph.length,ph++[.lst ((lG ns).map W.int)]) else none
  | none=>none
 | _=>none
theorem insI_perm{a:Int}:∀{l:List Int},(insI a l).Perm (a::l)
 | []=>.refl _
 | b::l=>by
  unfold insI;split
  ·exact .refl _
  ·exact(insI_perm.cons b).trans (.swap a b l)
theorem C5{a:Int}:∀{l:List Int},l.Pairwise (· <= ·)->(insI a l).Pairwise (· <= ·)
 | [],_=>List.pairwise_singleton _ _
 | b::l,h=>by
  unfold insI;obtain⟨h1,h2⟩:=afz.mp h;split
  ·rename_i kM;exact afz.mpr ⟨fun c hc=>(acD.mp hc).elim (fun z=>z▸kM) fun z=>Int.le_trans kM (h1 c z),h⟩
  ·rename_i kM;exact afz.mpr ⟨fun c hc=>(acD.mp (insI_perm.mem_iff.mp hc)).elim (fun z=>by omega) fun z=>h1 c z,C5 h2⟩
theorem DO:∀{l:List Int},(lG l).Perm l
 | []=>.refl _
 | a::l=>insI_perm.trans (DO.cons a)
theorem C6:∀{l:List Int},(lG l).Pairwise (· <= ·)
 | []=>.nil
 | a::l=>C5 C6
theorem y3{l l':List Int}(p:l'.Perm l)(s:l'.Pairwise (· <= ·)):l'=lG l:=
 List.Perm.eq_of_pairwise (le:=(· <= ·)) (fun a b _ _ h1 h2=>Int.le_antisymm h1 h2) s C6 (p.trans DO.symm)
section
variable{K:abW}{φ:Nat->Addr}{n:Nat}{H:Hp}
theorem Ej:∀{kws:List (W×W)} {kvs:List (Key×V)},cx K φ n H kws kvs->a9 K φ n H (kws.map (·.1)) (kvs.map fun kv=>kV kv.1)
 | _,_,.nil=>.nil
 | _,_,.cons (k:=k) h r=>.cons (by cases k with | inl i=>exact .int i | inr x=>exact .str x) (Ej r)
theorem DP{ph:PH}{y:W}{v:V}{p:Nat×List (W×W)}{ks:List W}(hH:aN K φ ph H)(r:aO K φ ph.length H y v)(e:eJ y ph=some p)(hk:pM p.2=some ks) :
  ∃d kvs,v=.ref d/\(H d=some (.dK kvs)\/(H d=some (.dT [])/\kvs=[]))/\a9 K φ ph.length H ks (kvs.map fun kv=>kV kv.1):=by
 unfold pM at hk;split at hk
 ·rename_i ha;cases hk;obtain⟨rfl,hi,hd,rfl⟩:=mS (i:=p.1) (kws:=p.2) hH r e
  rcases hH.hp _ _ hd with⟨kvs,q,rd⟩ | ⟨kvs,q,rt⟩
  ·exact⟨_,kvs,rfl,.inl q,Ej rd⟩
  ·obtain⟨e1,e2⟩:=rt.Aq ha;subst e2;rw[e1];exact⟨_,[],rfl,.inr ⟨q,rfl⟩,.nil⟩
 ·cases hk
end
theorem EX:gP K (fun xs H Q=>(∃p ys,xs=[.ref p]/\(bP K H p ys\/cN K H p ys)/\∀l,H l=none->Q (.ref l) (upd H l (.lst ys)))\/zp xs H Q) km:=by
 intro φ ph H xs vs w ph' Q hH r e k;unfold km at e;split at e
 ·rename_i x;cases hd:eJ x ph with
  | none=>rw[hd] at e;exact .inl (V4 hH r e k)
  | some p=>
   rw[hd] at e;obtain⟨ks,hk,e⟩:=ace.mp e;cases e;cases r with
   | cons r rn=>
    cases rn;obtain⟨d,kvs,rfl,By,rr⟩:=DP hH r hd hk;refine .inr ⟨d,kvs,rfl,By,fun p hp=>?_⟩;obtain⟨q1,q2,q3⟩:=k5 hH rr hp;exact k _ _ _ q1 q2 q3
 ·cases e
theorem Dp(hc:X.calm=true):c9 X (.type "list") (fun xs H Q=>(∃p ys,xs=[.ref p]/\(bP X.K H p ys\/cN X.K H p ys)/\∀l,H l=none->Q (.ref l) (upd H l (.lst ys)))\/zp xs H Q):=c9.or Q7 (Su hc)
theorem yE{K:abW}{φ:Nat->Addr}{n:Nat}{H:Hp}:∀(ns:List Int),a9 K φ n H (ns.map W.int) (ns.map V.int)
 | []=>.nil
 | n::ns=>.cons (.int n) (yE ns)
theorem EY:gP K (GS K) nH:=by
 intro φ ph H xs vs w ph' Q hH r e k;unfold nH at e;split at e
 ·rename_i x;cases r with
  | cons r rn=>
  cases rn;cases hd:eJ x ph with
  | none=>
   rw[hd] at e;simp only at e;split at e
   ·rename_i ns bX;split at e
    ·rename_i w8;cases e;obtain⟨p,rfl,hq⟩:=Tq hH r bX;refine⟨p,ns,rfl,.inl hq,w8,fun q gU hq hp hs=>?_⟩;rw[y3 hp hs];obtain⟨q1,q2,q3⟩:=k5 hH (yE (lG ns)) hq;exact k _ _ _ q1 q2 q3
    ·cases e
   ·cases e
  | some p=>
   rw[hd] at e;simp only at e;split at e
   ·rename_i ns bX;split at e
    ·rename_i w8;cases e;obtain⟨ks,hk,bX⟩:=afT.mp bX;obtain⟨d,kvs,rfl,By,rr⟩:=DP hH r hd hk;refine⟨d,ns,rfl,.inr ⟨kvs,By,vt rr bX⟩,w8,fun q gU hq hp hs=>?_⟩;rw[y3 hp hs];obtain⟨q1,q2,q3⟩:=k5 hH (yE (lG ns)) hq;exact k _ _ _ q1 q2 q3
    ·cases e
   ·cases e
 ·cases e
theorem boot_sorted:adD "sorted"=some (.builtin "sorted"):=by kernel_rfl
section
variable{X:Cx}{x y p q:Str}{L:gA}{i k:Nat}{e:Expr}{a:AM}{body:EM}{pp pos:Pos}
theorem FR(hl:ik X.K x=some L)(S:qb L p q)(hr:cS (k+1) X.A)(hN:X.N[i]? =some y)(hv:aA X.env.scope y)
  (hb:∀a v cl s H,cS k (jR X p q L x a v cl s H).A->JE (jR X p q L x a v cl s H) L.bd body) (d5:eR [e]=true) (ha:JA X [e] a)
  (hd:(y==("__debug__":Str))=false) (hcd:(y==("__classdict__":Str))=false):JE X (.Call (.Name y pp) [e] [] pos) (jk x body i a):=
 ⟨YO hl S hr hN hv (fun a v cl s H hr=>(hb a v cl s H hr).h) ha.h hd hcd (jF (by unfold eR at d5;rw[adW,aco] at d5;simpa using d5.1)) (any_none rfl)⟩
theorem FT{l:List (Str×aet)}{c:Str}:∀{y:Str},(l.all fun p=> !(p.2==.free)||p.1==c)=true->l.lookup y=some .free->y=c:=by
 intro y h e;have m:=adB e;have:=adk.mp h _ m
 simpa using this
theorem Bd.Ju{N:List Str}{sc:Scope}(B:Bd X N sc (k+1))(S:qb L p q)(nd:[p,q].Nodup)(a:Addr)(v:Value)(cl:List (Str×Addr))(s:acb)(H:Hp)(hr:cS k (jR X p q L x a v cl s H).A):Bd (jR X p q L x a v cl s H) [p,q] L.sc k:=
 ⟨⟨⟨rfl,fun _ z=>z,fun _ z=>z,fun _ z=>z,fun y z=>.inr (z.elim (fun z=>z) fun z=>absurd rfl (S.cell _ (mem_lookup z))),nd⟩,rfl,hr⟩,agk⟩
theorem UR{m1:EM}{fm:List W->Mo W}{xs:List W}{ph:PH}(h:xs.length≠1):sd x m1 fm xs ph=.no:=by
 unfold sd;split
 ·exact absurd rfl h
 ·rfl
noncomputable def iA(st:Stmt):gA:=match Ak (aY st) with
 | some L=>L
 | none=>⟨cz st,.Constant .none 0 ⟨0,0,0,0⟩,af st,⟨0,0,0,0⟩⟩
end
open PySem L2
section
variable{α β γ:Type}
theorem k9(a:α)(f:α->Mo β):au (ax a) f=f a:=rfl
theorem EZ(f:α->Mo β):au (dC:Mo α) f=dC:=rfl
theorem E0(x:XC)(f:α->Mo β):au (A8 x:Mo α) f=A8 x:=rfl
theorem d9(m:Mo α)(f:α->Mo β)(g:β->Mo γ):au (au m f) g=au m fun a=>au (f a) g:=by
 funext ph;unfold au;cases m ph <;> rfl
theorem E1{c:Prop}[Decidable c](a b:Mo α)(f:α->Mo β):au (if c then a else b) f=if c then au a f else au b f:=by split <;> rfl
theorem bf{m:Mo α}{f:α->Mo β}{ph ph':PH}{a:α}(h:m ph=.ok a ph'):au m f ph=f a ph':=by unfold au;rw[h]
theorem FU(a:α)(ph:PH):ax a ph=.ok a ph:=rfl
theorem FV(x:XC)(ph:PH):(A8 x:Mo α) ph=.ex x ph:=rfl
theorem Ek(a:α):lift (ret a)=ax a:=rfl
theorem FW{c:Prop}[Decidable c](a b:Mo α)(ph:PH):(if c then a else b) ph=if c then a ph else b ph:=by split <;> rfl
end
theorem FX(w:W)(σ:aQ):aa 0 (some w::σ)=ax w:=rfl
theorem FY(i:Nat)(x:Option W)(σ:aQ):aa (i+1) (x::σ)=aa i σ:=rfl
theorem zW(w:W)(σ:aQ):eC w σ=ax w:=rfl
theorem GV(i:Nat)(w:W)(σ:aQ):gN i w σ=ax (σ.set i (some w)):=rfl
theorem df(f:W->W->Po W)(a b:EM)(σ:aQ):ab f a b σ=au (a σ) fun x=>au (b σ) fun y=>lift (f x y):=rfl
theorem FZ(f:W->Po W)(a:EM)(σ:aQ):fv f a σ=au (a σ) fun x=>lift (f x):=rfl
theorem fE(m:EM)(σ:aQ):eT m σ=au (m σ) fun w=>lift (match w with
 | .bl b=>ret b
 | _=>fG):=rfl
theorem E3(m:EM)(σ:aQ):aa4 m σ=au (m σ) fun w=>lift (r6 w):=rfl
theorem yF(a b:TM)(σ:aQ):cQ a b σ=au (a σ) fun c=>if c=true then b σ else ax false:=rfl
theorem la(a b:TM)(σ:aQ):dj a b σ=au (a σ) fun c=>if c=true then ax true else b σ:=rfl
theorem yG(a:TM)(σ:aQ):rK a σ=au (a σ) fun c=>ax (!c):=rfl
theorem F0(t:TM)(a b:EM)(σ:aQ):eIf t a b σ=au (t σ) fun c=>if c=true then a σ else b σ:=rfl
theorem pk(a b:SM)(σ:aQ):ay a b σ=au (a σ) fun f=>match f with
 | .nx ao=>b ao
 | f=>ax f:=rfl
theorem vR(t:TM)(a b:SM)(σ:aQ):aW t a b σ=au (t σ) fun c=>if c=true then a σ else b σ:=rfl
theorem vJ(e:EM)(σ:aQ):aZ e σ=au (e σ) fun w=>ax (.rt w):=rfl
theorem El(σ:aQ):bN σ=ax (.nx σ):=rfl
theorem vw(e:EM)(σ:aQ):da e σ=au (e σ) fun _=>ax (.nx σ):=rfl
theorem pq(e:EM)(g:GM)(σ:aQ):aE e g σ=au (e σ) fun w=>au (g w σ) fun ao=>ax (.nx ao):=rfl
theorem yH(f:List W->Mo W)(a:AM)(σ:aQ):aX f a σ=au (a σ) f:=rfl
theorem yl(f:List W->Po W)(a:AM)(σ:aQ):bv f a σ=au (a σ) fun xs=>lift (f xs):=rfl
theorem rm(σ:aQ):ah σ=ax []:=rfl
theorem qX(e:EM)(r:AM)(σ:aQ):ae e r σ=au (e σ) fun w=>au (r σ) fun ws=>ax (w::ws):=rfl
theorem E4(a:AM)(σ:aQ):bB a σ=au (a σ) fun ws=>lift (kq ws):=rfl
theorem pv(a:AM)(σ:aQ):bI a σ=au (a σ) fun ws=>lift (r9 ws):=rfl
theorem F1(c:String)(m:EM)(σ:aQ):eIs c m σ=au (m σ) fun w=>lift (kJ c w):=rfl
theorem y4(a b:EM)(σ:aQ):pU a b σ=au (a σ) fun w=>match w with
 | .bl c=>if c=true then b σ else ax (.bl false)
 | _=>dC:=rfl
theorem F2(a b:EM)(σ:aQ):wV a b σ=au (a σ) fun w=>match w with
 | .bl c=>if c=true then ax (.bl true) else b σ
 | _=>dC:=rfl
theorem E5(a:EM)(σ:aQ):aa3 a σ=au (a σ) fun w=>match w with
 | .bl c=>ax (.bl (!c))
 | _=>dC:=rfl
theorem ym(f f':W->W->Po W)(a b c:EM)(σ:aQ):ng f f' a b c σ=au (a σ) fun x=>au (b σ) fun y=>au (lift (f x y)) fun z=>match z with
 | .bl k=>if k=true then au (c σ) fun u=>lift (f' y u) else ax (.bl false)
 | _=>dC:=rfl
theorem pf(ty:W->PH->Bool)(f:W->List W->Po W)(o:EM)(a:AM)(σ:aQ):bR ty f o a σ=au (o σ) fun x=>au (lift (jQ (ty x))) fun _=>au (a σ) fun xs=>lift (f x xs):=rfl
theorem E6(w:W):dS (.rt w)=ax w:=rfl
theorem E7(σ:aQ):dS (.nx σ)=ax .aI:=rfl
theorem jl(b:SM)(n:Nat)(x:W):fM b n 1 [x]=au (b (some x::acf (n-1) none)) dS:=rfl
theorem lH(b:SM)(n:Nat)(x y:W):fM b n 2 [x,y]=au (b (some x::some y::acf (n-2) none)) dS:=rfl
theorem nT(b:SM)(n:Nat)(x y z:W):fM b n 3 [x,y,z]=au (b (some x::some y::some z::acf (n-3) none)) dS:=rfl
theorem wI(b:SM)(n:Nat)(x y z u:W):fM b n 4 [x,y,z,u]=au (b (some x::some y::some z::some u::acf (n-4) none)) dS:=rfl
theorem GW(i j:Int):lift (addW (.int i) (.int j))=ax (.int (i+j)):=rfl
theorem GX(i j:Int):lift (fU (.int i) (.int j))=ax (.int (i-j)):=rfl
theorem GY(i:Int):lift (eW (.int i))=ax (.int (-i)):=rfl
theorem zX{i j:Int}(h:mulC i j=true):lift (pV (.int i) (.int j))=ax (.int (i*j)):=by
 unfold pV;simp only[h,if_true];rfl
theorem aaj{i j:Int}(h:j≠0):lift (bC (.int i) (.int j))=ax (.int (i.fmod j)):=by
 unfold bC pS;simp only[ne_eq,h,not_false_eq_true,decide_true,if_true];rfl
theorem zY{i j:Int}(h:j≠0)(h':j.natAbs<2 ^ 64):lift (cy (.int i) (.int j))=ax (.int (i.fdiv j)):=by
 unfold cy pS;simp only[ne_eq,h,h',not_false_eq_true,decide_true,agL,if_true];rfl
theorem HQ(i j:Int):lift (gC (.int i) (.int j))=ax (.bl (decide (i<j))):=rfl
theorem HR(i j:Int):lift (sD (.int i) (.int j))=ax (.bl (decide (i<=j))):=rfl
theorem HS(i j:Int):lift (gY (.int i) (.int j))=ax (.bl (decide (j<i))):=rfl
theorem HU(i j:Int):lift (geW (.int i) (.int j))=ax (.bl (decide (j<=i))):=rfl
theorem GZ(i:Int):lift (iz [.int i])=ax (.int i):=rfl
theorem F3(b:Bool):lift (iz [.bl b])=ax (.int (if b then 1 else 0)):=rfl
theorem G0(i:Int):lift (aa5 [.int i])=ax (.int (if i<0 then -i else i)):=rfl
theorem G1(i j:Int):lift (Z6 [.int i,.int j])=ax (.int (if j>i then j else i)):=rfl
theorem G2(i j:Int):lift (Z7 [.int i,.int j])=ax (.int (if j<i then j else i)):=rfl
theorem HV(b:Bool):lift (match W.bl b with
 | .bl b=>ret b
 | _=>fG)=ax b:=rfl
theorem F4(b:Bool):lift (r6 (.bl b))=ax b:=rfl
theorem F5(i:Int):lift (r6 (.int i))=ax (i != 0):=rfl
theorem F6(ws:List W):lift (r6 (.tup ws))=ax (!ws.isEmpty):=rfl
theorem zZ(i j:Int):lift (aH (.int i) (.int j))=ax (.bl (decide (i=j))):=by
 funext ph;unfold aH f7 lift;simp only[dat];rfl
theorem z4(i j:Int):lift (fy (.int i) (.int j))=ax (.bl (!decide (i=j))):=by
 funext ph;unfold fy f7 lift;simp only[dat];rfl
theorem so(s:String):aeM (acu s)=true:=by
 unfold aeM;rw[aeU];simp only[List.all_toArray,adk,acq,decide_eq_true_eq];rintro n ⟨c,_,rfl⟩;have h:=c.valid;simp only[UInt32.isValidChar,Nat.isValidChar] at h;show c.val.toNat<_;omega
theorem vS{a b:String}:acu a=acu b↔a=b:=by
 constructor
 ·intro h;rw[aeU,aeU] at h;have h:=congrArg agX (Str.mk.inj h);simp only[List.toList_toArray] at h;have mi:∀l l':List Char,l.map Char.toNat=l'.map Char.toNat->l=l':=by
   intro l
   induction l with
   | nil=>intro l' h;cases l' with
    | nil=>rfl
    | cons _ _=>cases h
   | cons x l ih=>intro l' h;cases l' with
    | nil=>cases h
    | cons y l'=>
     have:=agJ h;rw[ih l' this.2,Char.ext (UInt32.toNat_inj.mp this.1)]
  have q:a.toList=b.toList:=mi _ _ h;exact String.toList_inj.mp q
 ·intro h;rw[h]
theorem aak{a b:Str}(ha:aeM a=true)(hb:aeM b=true):lift (aH (.str a) (.str b))=ax (.bl (decide (a=b))):=by
 funext ph;unfold aH f7 lift;simp only[dat,ha,hb,if_true];rfl
theorem aal{a b:Str}(ha:aeM a=true)(hb:aeM b=true):lift (fy (.str a) (.str b))=ax (.bl (!decide (a=b))):=by
 funext ph;unfold fy f7 lift;simp only[dat,ha,hb,if_true];rfl
theorem G3(a b:String):lift (aH (.str (acu a)) (.str (acu b)))=ax (.bl (decide (a=b))):=by
 rw[aak (so a) (so b)];simp only[vS]
theorem G4(a b:String):lift (fy (.str (acu a)) (.str (acu b)))=ax (.bl (!decide (a=b))):=by
 rw[aal (so a) (so b)];simp only[vS]
theorem G5(a b:Bool):lift (fy (.bl a) (.bl b))=ax (.bl (!(a==b))):=by
 funext ph;unfold fy f7 lift;simp only[dat];rfl
theorem sg(c:String)(w:W)(t:String)(h:∀ph,GL w ph=some t):lift (kJ c w)=ax (.bl (fH t c)):=by
 funext ph;unfold lift kJ;rw[h];rfl
theorem HW(c:String)(i:Int):lift (kJ c (.int i))=ax (.bl (fH "int" c)):=sg _ _ _ fun _=>rfl
theorem HX(c:String)(b:Bool):lift (kJ c (.bl b))=ax (.bl (fH "bool" c)):=sg _ _ _ fun _=>rfl
theorem HY(c:String):lift (kJ c .aI)=ax (.bl (fH "NoneType" c)):=sg _ _ _ fun _=>rfl
theorem HZ(c:String)(x:Str):lift (kJ c (.str x))=ax (.bl (fH "str" c)):=sg _ _ _ fun _=>rfl
theorem Ia(c:String)(ws:List W):lift (kJ c (.tup ws))=ax (.bl (fH "tuple" c)):=sg _ _ _ fun _=>rfl
theorem Ib:fH "int" "int"=true:=by decide +kernel
theorem Ic:fH "int" "bool"=false:=by decide +kernel
theorem Ie:fH "bool" "int"=true:=by decide +kernel
theorem Ig:fH "bool" "bool"=true:=by decide +kernel
theorem Ih:fH "NoneType" "int"=false:=by decide +kernel
theorem Ii:fH "str" "int"=false:=by decide +kernel
theorem Ij:fH "list" "int"=false:=by decide +kernel
theorem Ik:fH "list" "list"=true:=by decide +kernel
theorem Il:fH "tuple" "tuple"=true:=by decide +kernel
theorem F7:lift (kq [])=ax (.tup []):=rfl
theorem F8(a:W):lift (kq [a])=ax (.tup [a]):=rfl
theorem F9(a b:W):lift (kq [a,b])=ax (.tup [a,b]):=rfl
theorem Ga(a b c:W):lift (kq [a,b,c])=ax (.tup [a,b,c]):=rfl
theorem Gb(a b c d:W):lift (kq [a,b,c,d])=ax (.tup [a,b,c,d]):=rfl
theorem Gd(a b c d e:W):lift (kq [a,b,c,d,e])=ax (.tup [a,b,c,d,e]):=rfl
theorem G6(a:W)(l:List W):lift (eD (.tup (a::l)) (.int 0))=ax a:=by
 funext ph;unfold lift eD ck gy;simp[cT,ax]
theorem G7(a b:W)(l:List W):lift (eD (.tup (a::b::l)) (.int 1))=ax b:=by
 funext ph;unfold lift eD ck gy;simp[cT,ax];rw[if_pos (by omega)];simp
theorem G8(a b c:W)(l:List W):lift (eD (.tup (a::b::c::l)) (.int 2))=ax c:=by
 funext ph;unfold lift eD ck gy;simp[cT,ax];rw[if_pos (by omega)];simp
theorem G9(a b c d:W)(l:List W):lift (eD (.tup (a::b::c::d::l)) (.int 3))=ax d:=by
 funext ph;unfold lift eD ck gy;simp[cT,ax];rw[if_pos (by omega)];simp
theorem Ha(a b c d e:W)(l:List W):lift (eD (.tup (a::b::c::d::e::l)) (.int 4))=ax e:=by
 funext ph;unfold lift eD ck gy;simp[cT,ax];rw[if_pos (by omega)];simp
noncomputable def pN:W->Bool
 | .aI=>true
 | _=>false
theorem Ge(w:W):lift (lr w .aI)=ax (.bl (!pN w)):=by
 unfold lr;cases w <;> rfl
theorem Hb(w:W):lift (iy w .aI)=ax (.bl (pN w)):=by
 unfold iy;cases w <;> rfl
theorem E8(i:Int):pN (.int i)=false:=rfl
theorem E9:pN .aI=true:=rfl
theorem Fb(ws:List W):pN (.tup ws)=false:=rfl
theorem Fc(i:Nat):pN (.ref i)=false:=rfl
noncomputable def Ex(ph ph':PH):Prop:=∃m,ph'=ph++m
theorem Ex.refl(ph:PH):Ex ph ph:=⟨[],by simp⟩
theorem Ex.trans{a b c:PH}(h:Ex a b)(h':Ex b c):Ex a c:=by
 obtain⟨m,rfl⟩:=h;obtain⟨m',rfl⟩:=h';exact⟨m++m',by simp⟩
theorem Ex.one(ph:PH)(o:PO):Ex ph (ph++[o]):=⟨[o],rfl⟩
theorem Ex.get{a b:PH}(h:Ex a b){o:PO}(e:a[i]? =some o):b[i]? =some o:=by
 obtain⟨m,rfl⟩:=h;rw[acE (abV.mp e).1];exact e
theorem Ex.len{a b:PH}(h:Ex a b):a.length<=b.length:=by obtain⟨m,rfl⟩:=h;simp
theorem bu(ph:PH)(o:PO):(ph++[o])[ph.length]? =some o:=by simp
theorem small(h:n<=1000000):n<=sizeLine:=acl h (by decide)
section
variable{β:Type}{ph:PH}{i:Nat}{ws:List W}
theorem zq(ws:List W)(ph:PH)(h:ws.length<=acv):lift (r9 ws) ph=.ok (.ref ph.length) (ph++[.lst ws]):=by
 unfold lift r9;rw[if_pos h]
theorem YR(h:ph[i]? =some (.lst ws)){k:Int}{w:W}(hk:ck ws k=some w):lift (eD (.ref i) (.int k)) ph=.ok w ph:=by
 unfold lift eD;simp only[cT,h,ady,hk,acS]
theorem lb(h:ph[i]? =some (.lst ws)):lift (cc [.ref i]) ph=.ok (.int ws.length) ph:=by
 unfold lift cc;simp only[cT,h,acS]
theorem Fe(h:ph[i]? =some (.lst ws)):b9 (.ref i) ph=true:=by unfold b9;simp only[h]
theorem rp(h:ph[i]? =some (.lst ws)):lift (jQ (b9 (.ref i))) ph=.ok () ph:=by
 unfold lift jQ;rw[if_pos (Fe h)]
theorem uW(h:ph[i]? =some (.lst ws))(hz:ws.length<acv)(w:W):lift (dt (.ref i) [w]) ph=.ok .aI (ph.set i (.lst (ws++[w]))):=by
 unfold lift dt;simp only[h,hz,if_true]
theorem Sv{j:Nat}{us:List W}(h:ph[i]? =some (.lst ws))(h':ph[j]? =some (.lst us))(hz:ws.length+us.length<=acv):lift (jI (.ref i) [.ref j]) ph=.ok .aI (ph.set i (.lst (ws++us))):=by
 unfold lift jI;simp only[h,h',hz,if_true]
theorem US(h:ph[i]? =some (.lst ws)):lift (pH [.ref i]) ph=.ok (.ref ph.length) (ph++[.lst ws]):=by
 unfold lift pH;simp only[cT,h]
theorem Ff{j:Nat}{us:List W}(h:ph[i]? =some (.lst ws))(h':ph[j]? =some (.lst us))(hz:ws.length+us.length<=acv):lift (addW (.ref i) (.ref j)) ph=.ok (.ref ph.length) (ph++[.lst (ws++us)]):=by
 unfold lift addW;simp only[h,h',hz,if_true]
end
theorem mM(a b:Int)(h:0<b):0<=a.fmod b/\a.fmod b<b:=by
 rw[afv _ (by omega)];exact⟨Int.emod_nonneg _ (by omega),Int.emod_lt_of_pos _ h⟩
theorem fc(ws:List α)(k:Nat)(h:k<ws.length):ck ws (k:Int)=ws[k]? :=by
 unfold ck gy;rw[if_pos (by omega),if_pos (by omega)];rfl
theorem abq(ws:List W):lift (cc [.fl ws])=ax (.int ws.length):=by funext ph;rfl
theorem ixF{i:Int}{w:W}(h:ck ws i=some w):lift (eD (.fl ws) (.int i))=ax w:=by
 funext ph;unfold lift eD;simp only[cT,ady,h,acS];rfl
theorem mW{chk:PH->Bool}{g:GM}{b:SM}(R:W->PH->Prop)(I:Nat->aQ->PH->Prop):∀(items:List W) (k:Nat) (σ:aQ) (ph:PH),
  (∀j σ ph,I j σ ph->chk ph=true) →
  (∀j x σ ph,items[j]? =some x->I (k+j) σ ph->∃σ1 ph1,g x σ ph=.ok σ1 ph1/\∃f ph2,b σ1 ph1=.ok f ph2/\((∃bY,(f=.nx bY\/f=.ct bY)/\I (k+j+1) bY ph2)\/∃w,f=.rt w/\R w ph2)) →
  I k σ ph->(∃ao ph',dk chk g b items σ ph=.ok (.nx ao) ph'/\I (k+items.length) ao ph')\/∃w ph',dk chk g b items σ ph=.ok (.rt w) ph'/\R w ph'
 | [],k,σ,ph,hc,hs,h0=>by
  refine .inl ⟨σ,ph,?_,h0⟩;unfold dk;rw[if_pos (hc _ _ _ h0)]
 | x::xs,k,σ,ph,hc,hs,h0=>by
  obtain⟨σ1,ph1,e1,f,ph2,e2,h⟩:=hs 0 x σ ph rfl h0;have e:dk chk g b (x::xs) σ ph=(match f with
   | .nx ao=>dk chk g b xs ao
   | .ct ao=>dk chk g b xs ao
   | .bk ao=>ax (.nx ao)
   | .rt w=>ax (.rt w)) ph2:=by
   conv=>lhs;unfold dk
   rw[if_pos (hc _ _ _ h0),bf e1,bf e2]
   all_goals (cases f <;> rfl)
  rcases h with⟨bY,hf,hI⟩ | ⟨w,rfl,hR⟩
  ·have e:dk chk g b (x::xs) σ ph=dk chk g b xs bY ph2:=by
    rcases hf with rfl | rfl <;> exact e
   rw[e];have ih:=mW R I xs (k+1) bY ph2 hc (fun j y σ ph hj hI=>by
    have:=hs (j+1) y σ ph (by simpa using hj) (by rw[show k+(j+1)=k+1+j by omega];exact hI);rw[show k+(j+1)+1=k+1+j+1 by omega] at this;exact this) hI
   rw[show k+1+xs.length=k+(x::xs).length by simp;omega] at ih;exact ih
  ·exact .inr ⟨w,ph2,e,hR⟩
variable{b:SM}
theorem mX{chk:PH->Bool}{g:GM}(I:Nat->aQ->PH->Prop)(items:List W)(σ:aQ)(ph:PH)
  (hc:∀j σ ph,I j σ ph->chk ph=true)
  (hs:∀j x σ ph,items[j]? =some x->I j σ ph->∃σ1 ph1,g x σ ph=.ok σ1 ph1/\∃f ph2,b σ1 ph1=.ok f ph2/\∃bY,(f=.nx bY\/f=.ct bY)/\I (j+1) bY ph2)
  (h0:I 0 σ ph):∃ao ph',dk chk g b items σ ph=.ok (.nx ao) ph'/\I items.length ao ph':=by
 have:=mW (fun _ _=>False) I items 0 σ ph hc (fun j x σ ph hj hI=>by
  rw[acX] at hI ⊢;obtain⟨σ1,ph1,e1,f,ph2,e2,h⟩:=hs j x σ ph hj hI;exact⟨σ1,ph1,e1,f,ph2,e2,.inl h⟩) h0
 rw[acX] at this
 rcases this with h | ⟨_,_,_,h⟩
 ·exact h
 ·exact h.elim
theorem u9{chk:PH->Bool}{g:GM}{c:TM}{e:EM}(L:Nat)(I:Nat->List W->aQ->PH->Prop):∀(items:List W) (k:Nat) (acc:List W) (σ:aQ) (ph:PH),
  (∀j acc σ ph,I j acc σ ph->chk ph=true) →
  (∀j x acc σ ph,items[j]? =some x->I (k+j) acc σ ph->∃σ1 ph1,g x σ ph=.ok σ1 ph1/\∃t ph2,c σ1 ph1=.ok t ph2/\((t=false/\I (k+j+1) acc σ1 ph2)\/(t=true/\∃w gX,e σ1 ph2=.ok w gX/\gX[L]? =some (.lst acc)/\acc.length<acv/\I (k+j+1) (acc++[w]) σ1 (gX.set L (.lst (acc++[w])))))) →
  I k acc σ ph->∃nU ao ph',eh chk g c e L items σ ph=.ok () ph'/\I (k+items.length) nU ao ph'
 | [],k,acc,σ,ph,hc,hs,h0=>by
  refine⟨acc,σ,ph,?_,h0⟩;unfold eh;rw[if_pos (hc _ _ _ _ h0)]
 | x::xs,k,acc,σ,ph,hc,hs,h0=>by
  obtain⟨σ1,ph1,e1,t,ph2,e2,h⟩:=hs 0 x acc σ ph rfl h0;have next:∀Aw n9,I (k+1) Aw σ1 n9->∃nU ao ph',eh chk g c e L xs σ1 n9=.ok () ph'/\I (k+(x::xs).length) nU ao ph':=fun Aw n9 hI=>by
   have ih:=u9 L I xs (k+1) Aw σ1 n9 hc (fun j y acc σ ph hj hI=>by
    have:=hs (j+1) y acc σ ph (by simpa using hj) (by rw[show k+(j+1)=k+1+j by omega];exact hI);rw[show k+(j+1)+1=k+1+j+1 by omega] at this;exact this) hI
   rw[show k+1+xs.length=k+(x::xs).length by simp;omega] at ih;exact ih
  have n1:dm (g x σ) ph=.ok σ1 ph1:=by unfold dm;rw[e1]
  have n2:dm (c σ1) ph1=.ok t ph2:=by unfold dm;rw[e2]
  rcases h with⟨rfl,hI⟩ | ⟨rfl,w,gX,e3,hL,hz,hI⟩
  ·have e:eh chk g c e L (x::xs) σ ph=eh chk g c e L xs σ1 ph2:=by
    conv=>lhs;unfold eh
    rw[if_pos (hc _ _ _ _ h0),bf n1,bf n2];rfl
   rw[e];exact next _ _ hI
  ·have n3:dm (e σ1) ph2=.ok w gX:=by unfold dm;rw[e3]
   have e:eh chk g c e L (x::xs) σ ph=eh chk g c e L xs σ1 (gX.set L (.lst (acc++[w]))):=by
    conv=>lhs;unfold eh
    rw[if_pos (hc _ _ _ _ h0),bf n1,bf n2];show au (dm (e σ1)) _ ph2=_;rw[bf n3];exact bf (uW hL hz w)
   rw[e];exact next _ _ hI
theorem yI(im:IM)(cap:List (Option Nat))(g:GM)(c:TM)(e:EM)(σ:aQ):cB im cap g c e σ=au (im σ) fun r ph=>au (eh r.2 g c e ph.length r.1 (gq cap σ)) (fun _=>ax (.ref ph.length)) (ph++[.lst []]):=rfl
theorem Wl(ph m:PH)(o o':PO):(ph++[o]++m).set ph.length o'=ph++[o']++m:=by
 rw[afG,agm _ _ (abZ _)];simp
variable{σ:aQ}
theorem ke(as:List α)(h:α->W){im:IM}{cap:List (Option Nat)}{g:GM}{c:TM}{e:EM}{ph0:PH}{chk:PH->Bool}(sS:im σ ph0=.ok (as.map h,chk) ph)(sT:∀ph',Ex ph ph'->chk ph'=true)(hz:as.length<=acv)
  (F:α->Option W) (S:aQ->Prop) (h0:S (gq cap σ))
  (step:∀x∈as,∀σ H,S σ->Ex ph H->∃σ1,g (h x) σ H=.ok σ1 H/\S σ1/\∃t H1,c σ1 H=.ok t H1/\Ex H H1/\((t=false/\F x=none)\/(t=true/\∃w H2,e σ1 H1=.ok w H2/\Ex H1 H2/\F x=some w))) :
  ∃ph',cB im cap g c e σ ph0=.ok (.ref ph.length) ph'/\Ex (ph++[.lst (as.filterMap F)]) ph':=by
 rw[yI,bf sS];have key:=u9 (chk:=chk) (g:=g) (c:=c) (e:=e) ph.length (fun k acc σ H=>S σ/\acc=(as.take k).filterMap F/\Ex (ph++[.lst acc]) H) (as.map h) 0 [] (gq cap σ) (ph++[.lst []])
  (fun j acc σ H hI=>sT _ ((Ex.one _ _).trans hI.2.2))
  (fun j y acc σ H hj hI=>by
   rw[acX] at hI ⊢;obtain⟨hS,ha,hE⟩:=hI;rw[abY] at hj;cases hx:as[j]? with
   | none=>rw[hx] at hj;cases hj
   | some x=>
    rw[hx] at hj;cases hj;have tk:(as.take (j+1)).filterMap F=acc++(F x).toList:=by
     rw[List.take_add_one,hx,List.filterMap_append,ha];cases hF:F x <;> simp[hF]
    obtain⟨σ1,e1,iJ,t,H1,e2,x2,h⟩:=step x (acd hx) σ H hS ((Ex.one _ _).trans hE);refine⟨σ1,H,e1,t,H1,e2,?_⟩
    rcases h with⟨rfl,hF⟩ | ⟨rfl,w,H2,e3,x3,hF⟩
    ·exact .inl ⟨rfl,iJ,by rw[tk,hF];simp,hE.trans x2⟩
    ·have x4:=(hE.trans x2).trans x3;refine .inr ⟨rfl,w,H2,e3,x4.get (bu _ _),?_,iJ,by rw[tk,hF];rfl,?_⟩
     ·have hl:acc.length<=j:=by
       rw[ha];exact acl (List.length_filterMap_le _ _) (by simp;omega)
      have:=(abV.mp hx).1;omega
     ·obtain⟨m,rfl⟩:=x4;rw[Wl];exact⟨m,rfl⟩)
  ⟨h0,by simp,Ex.refl _⟩
 obtain⟨acc,ao,ph',e1,_,ha,hE⟩:=key;refine⟨ph',?_,?_⟩
 ·show au (eh chk g c e ph.length (as.map h) (gq cap σ)) _ _=_;rw[bf e1];rfl
 ·rw[acX,abX,aeH] at ha;rw[<- ha];exact hE
theorem m7{α β:Type}(f:α->β):∀l:List α,l.filterMap (fun a=>some (f a))=l.map f
 | []=>rfl
 | a::l=>by
  rw[List.filterMap_cons_some (f:=fun a=>some (f a)) (b:=f a) rfl,m7 f l];rfl
theorem Wm{w:W}(h:(il ws)[i]? =some w):∃x,ws[i]? =some x/\w=.tup [.int i,x]:=by
 unfold il at h;rw[abY] at h;cases q:(acC ws.length)[i]? with
 | none=>rw[q] at h;cases h
 | some k=>
  rw[q] at h;obtain⟨hi,e⟩:=abV.mp q;rw[aei] at e;subst e;rw[acI] at hi;cases h;exact⟨ws[i],by simp[hi],by simp[hi]⟩
theorem Wn(ws:List W):(il ws).length=ws.length:=by unfold il;simp
theorem gk(h:m σ ph=.ok (.ref i) ph')(hi:ph'[i]? =some (.lst ws)):cY m σ ph=.ok (ws,fun p=>decide (p[i]? =some (.lst ws))) ph':=by
 unfold cY;rw[bf h];unfold lift vW lE;simp only[hi]
theorem ie{m:AM}{j:Int}(h:m σ ph=.ok [.int j] ph')(h1: -(2 ^ 62)<=j)(h2:j<2 ^ 62):cD m σ ph=.ok (dB 0 j.toNat,fun _=>true) ph':=by
 unfold cD;rw[bf h];unfold lift Al;simp only[h1,h2,and_self,if_true]
theorem DQ{m:AM}(h:m σ ph=.ok [.ref i] ph')(hi:ph'[i]? =some (.lst ws)):lu m σ ph=.ok (il ws,fun p=>decide (p[i]? =some (.lst ws))) ph':=by
 unfold lu;rw[bf h];unfold lift zR lE;simp only[hi,acS]
theorem vA{lo:Int}{k:Nat}{w:W}(h:(dB lo n)[k]? =some w):k<n/\w=.int (lo+(k:Int)):=by
 unfold dB at h;rw[abY] at h;cases q:(acC n)[k]? with
 | none=>rw[q] at h;cases h
 | some j=>
  rw[q] at h;obtain⟨hi,e⟩:=abV.mp q;rw[aei] at e;subst e;rw[acI] at hi;cases h;exact⟨hi,rfl⟩
theorem kf(lo:Int)(n:Nat):(dB lo n).length=n:=by unfold dB;simp
variable{ds:List aeC}
theorem YS{x:W}(h:ph[i]? =some (.lst ws))(h1:bD (dat ph 40) ws=some ds)(h2:dat ph 40 x=some d):lift (iL x (.ref i)) ph=.ok (.bl (ds.any fun e=>acW e d)) ph:=by
 unfold lift iL inD;simp only[cT,h,h1,h2,acS]
theorem YT{x:W}(h1:bD (dat ph 40) ws=some ds)(h2:dat ph 40 x=some d):lift (iL x (.tup ws)) ph=.ok (.bl (ds.any fun e=>acW e d)) ph:=by
 unfold lift iL inD;simp only[cT,h1,h2,acS]
theorem Hc(a b:Str):acW (.str a) (.str b)=decide (a=b):=by
 unfold acW;rfl
theorem Hd(a b:Int):acW (.int a) (.int b)=decide (a=b):=by
 unfold acW;rfl
theorem k7{α β γ:Type}(f:β->Option γ)(g:α->β)(h:α->γ)(hf:∀a,f (g a)=some (h a)):∀l:List α,bD f (l.map g)=some (l.map h)
 | []=>rfl
 | a::l=>by
  show bD f (g a::l.map g)=_;unfold bD;rw[hf a,k7 f g h hf l];rfl
theorem y6(x:String)(ss:List String):lift (iL (.str (acu x)) (.tup (ss.map fun s=>.str (acu s))))=ax (.bl (ss.any fun s=>decide (s=x))):=by
 funext ph
 rw[YT (k7 _ _ (fun s=>PyData.str (acu s)) (fun s=>by simp only[dat,so,if_true]) ss) (d:=.str (acu x)) (by simp only[dat,so,if_true])];rw[agY];simp only[agU,Hc,vS];rfl
theorem He(x a b:String):lift (iL (.str (acu x)) (.tup [.str (acu a),.str (acu b)]))=ax (.bl (decide (a=x)||decide (b=x))):=by
 have:=y6 x [a,b];simp only[acK,afe,adC,List.any_nil,agI] at this;exact this
theorem Hf(x a b c:String):lift (iL (.str (acu x)) (.tup [.str (acu a),.str (acu b),.str (acu c)]))=ax (.bl (decide (a=x)||(decide (b=x)||decide (c=x)))):=by
 have:=y6 x [a,b,c];simp only[acK,afe,adC,List.any_nil,agI] at this;exact this
theorem Hg(ws:List W)(y:W):ag (.tup ws) y=eD (.tup ws) y:=rfl
theorem Hh(ws:List W)(y:W):ag (.fl ws) y=eD (.fl ws) y:=rfl
theorem Hi(x:Str)(y:W):ag (.str x) y=eD (.str x) y:=rfl
theorem Hj(x:W)(ws:List W):cV x (.tup ws)=iL x (.tup ws):=rfl
theorem Hk(x:W)(ws:List W):cV x (.fl ws)=iL x (.fl ws):=rfl
theorem Gf(x:W)(ws:List W):ez x (.tup ws)=wC x (.tup ws):=rfl
theorem zr(i:Int)(y:W):bV (.int i) y=pV (.int i) y:=by
 funext ph;unfold bV;cases y <;> rfl
theorem qY(o i:EM)(v:W)(σ:aQ):eU o i v σ=au (o σ) fun ow=>au (i σ) fun iw=>au (lift (pZ ow iw v)) fun _=>ax σ:=rfl
section
variable{ph:PH}{i:Nat}{ws:List W}{kws:List (W×W)}
theorem z5(h:ph[i]? =some (.lst ws)):eJ (.ref i) ph=none:=by unfold eJ;simp only[h]
theorem nI(h:ph[i]? =some (.aD kws)):eJ (.ref i) ph=some (i,kws):=by unfold eJ;simp only[h]
theorem ed(h:ph[i]? =some (.lst ws)){k:Int}{w:W}(hk:ck ws k=some w):lift (ag (.ref i) (.int k)) ph=.ok w ph:=by
 have:=YR h hk;unfold lift at this ⊢;unfold ag;rw[z5 h];exact this
variable{k:W}
theorem Fg(h:ph[i]? =some (.aD kws)){w:W}(hk:cZ kws k=true)(hw:dh kws k=some w):lift (ag (.ref i) k) ph=.ok w ph:=by
 unfold lift ag;simp only[nI h,hk,if_true,hw,acS]
theorem Fh(h:ph[i]? =some (.aD kws))(hk:cZ kws k=true):lift (cV k (.ref i)) ph=.ok (.bl (dh kws k).isSome) ph:=by
 unfold lift cV;simp only[nI h,hk,if_true]
theorem yJ(h:ph[i]? =some (.aD kws))(hk:cZ kws k=true):lift (ez k (.ref i)) ph=.ok (.bl (!(dh kws k).isSome)) ph:=by
 unfold lift ez;simp only[nI h,hk,if_true]
theorem Wo{ds:List aeC}{x:W}{d:aeC}(h:ph[i]? =some (.lst ws))(h1:bD (dat ph 40) ws=some ds)(h2:dat ph 40 x=some d):lift (cV x (.ref i)) ph=.ok (.bl (ds.any fun e=>acW e d)) ph:=by
 have:=YS h h1 h2;unfold lift at this ⊢;unfold cV;rw[z5 h];exact this
theorem vB(h:ph[i]? =some (.aD kws))(hk:cZ kws k=true)(hz:kws.length<acv)(v:W):lift (pZ (.ref i) k v) ph=.ok () (ph.set i (.aD (dH kws k v))):=by
 unfold lift pZ;simp only[nI h,hk,hz,and_self,if_true]
theorem yK(h:ph[i]? =some (.lst ws)){k:Int}(h1: -(2 ^ 63)<=k)(h2:k<2 ^ 63)(hz:ws.length*k.toNat<=acv):lift (bV (.ref i) (.int k)) ph=.ok (.ref ph.length) (ph++[.lst (acf k.toNat ws).flatten]):=by
 unfold lift bV;simp only[h,h1,h2,hz,and_self,if_true]
end
theorem Fi(σ:aQ):ku σ=lift newD:=rfl
theorem sh(b:SM)(n:Nat)(x y z u v:W):fM b n 5 [x,y,z,u,v]=au (b (some x::some y::some z::some u::some v::acf (n-5) none)) dS:=rfl
theorem Im(b:SM)(n:Nat)(x y z u v w:W):fM b n 6 [x,y,z,u,v,w]=au (b (some x::some y::some z::some u::some v::some w::acf (n-6) none)) dS:=rfl
theorem yL{t:TM}{b:SM}:∀(n:Nat) (σ:aQ) (ph:PH),(dz t b n σ ph).jP=false->dz t b (n+1) σ ph=dz t b n σ ph
 | 0,σ,ph,h=>by cases h
 | n+1,σ,ph,h=>by
  have h':(au (t σ) (fun c=>if c=true then au (b σ) fun f=>match f with
   | .nx ao=>dz t b n ao
   | .ct ao=>dz t b n ao
   | .bk ao=>ax (.nx ao)
   | .rt w=>ax (.rt w)
   else ax (.nx σ)) ph).jP=false:=h
  show au (t σ) (fun c=>if c=true then au (b σ) fun f=>match f with
   | .nx ao=>dz t b (n+1) ao
   | .ct ao=>dz t b (n+1) ao
   | .bk ao=>ax (.nx ao)
   | .rt w=>ax (.rt w)
   else ax (.nx σ)) ph=au (t σ) (fun c=>if c=true then au (b σ) fun f=>match f with
   | .nx ao=>dz t b n ao
   | .ct ao=>dz t b n ao
   | .bk ao=>ax (.nx ao)
   | .rt w=>ax (.rt w)
   else ax (.nx σ)) ph
  cases e1:t σ ph with
  | no=>unfold au;rw[e1]
  | ex x p=>unfold au;rw[e1]
  | ok c p=>
   rw[bf e1] at h' ⊢;rw[bf e1];cases c with
   | false=>rfl
   | true=>
    simp only[if_true] at h' ⊢;cases e2:b σ p with
    | no=>unfold au;rw[e2]
    | ex x q=>unfold au;rw[e2]
    | ok f q=>
     rw[bf e2] at h' ⊢;rw[bf e2];cases f with
     | nx ao=>exact yL n ao q h'
     | ct ao=>exact yL n ao q h'
     | bk ao=>rfl
     | rt w=>rfl
variable{t:TM}
theorem Gg{m:Nat}(hm:n<=m)(h:(dz t b n σ ph).jP=false):dz t b m σ ph=dz t b n σ ph:=by
 induction m with
 | zero=>
  have:n=0:=by omega
  rw[this]
 | succ m ih=>
  by_cases e:n=m+1
  ·rw[e]
  ·have:=ih (by omega);rw[yL m σ ph (by rw[this];exact h),this]
theorem Tv{f:Fl}(h:dz t b n σ ph=.ok f ph'):iY t b σ ph=.ok f ph':=by
 have hn:(dz t b n σ ph).jP=false:=by rw[h];rfl
 have he:∃n,(dz t b n σ ph).jP=false:=⟨n,hn⟩
 unfold iY;rw[dif_pos he];have hc:=he.choose_spec;by_cases Jv:n<=he.choose
 ·rw[Gg Jv hn,h]
 ·rw[<- Gg (Nat.le_of_not_le Jv) hc,h]
theorem yn(I:Nat->aQ->PH->Prop)(D:aQ->PH->Prop)
  (step:∀k σ ph,I k σ ph->(∃ph1,t σ ph=.ok false ph1/\D σ ph1)\/∃ph1,t σ ph=.ok true ph1/\∃f ph2,b σ ph1=.ok f ph2/\∃bY,(f=.nx bY\/f=.ct bY)/\∃k',k'<k/\I k' bY ph2) :
  ∀k σ ph,I k σ ph->∃ao ph',iY t b σ ph=.ok (.nx ao) ph'/\D ao ph':=by
 have key:∀k σ ph,I k σ ph->∃n ao ph',dz t b n σ ph=.ok (.nx ao) ph'/\D ao ph':=by
  intro k
  induction k using agn with
  | ind k ih=>
   intro σ ph h
   rcases step k σ ph h with⟨ph1,e1,hD⟩ | ⟨ph1,e1,f,ph2,e2,bY,hf,k',hk,hI⟩
   ·refine⟨1,σ,ph1,?_,hD⟩;show au (t σ) _ ph=_;rw[bf e1];rfl
   ·obtain⟨n,ao,ph',e3,hD⟩:=ih k' hk bY ph2 hI;refine⟨n+1,ao,ph',?_,hD⟩;show au (t σ) _ ph=_;rw[bf e1];simp only[if_true];rw[bf e2]
    rcases hf with rfl | rfl <;> exact e3
 intro k σ ph h;obtain⟨n,ao,ph',e,hD⟩:=key k σ ph h;exact⟨ao,ph',Tv e,hD⟩
theorem dR(ph:PH)(n:Nat)(i:Int):dat ph n (.int i)=some (.int i):=by cases n <;> rfl
theorem CU:∀ds:List aeC,(∀d∈ds,acW d d=true)->aeS ds ds=true
 | [],_=>by unfold aeS;rfl
 | d::ds,h=>by
  simp only[aeS,h d (by simp),CU ds (fun e he=>h e (by simp[he])),agL]
theorem Em{α β:Type}{f:α->Option β}:∀{l:List α} {m:List β},bD f l=some m->∀b∈m,∃a∈l,f a=some b
 | [],m,h,b,hb=>by cases h;cases hb
 | a::l,m,h,b,hb=>by
  unfold bD at h;split at h
  ·rename_i b' m' e1 e2;cases h
   rcases acD.mp hb with rfl | hb
   ·exact⟨a,by simp,e1⟩
   ·obtain⟨c,hc,e⟩:=Em e2 b hb;exact⟨c,by simp[hc],e⟩
  ·cases h
theorem UT:∀(n:Nat) (w:W) (d:aeC),dat ph n w=some d->acW d d=true:=by
 intro n
 induction n with
 | zero=>
  intro w d h;cases w <;> simp only[dat] at h <;> first | (cases h;simp[acW];done) | skip
  ·split at h
   ·cases h;simp[acW]
   ·cases h
  all_goals cases h
 | succ n ih=>
  have key:∀(ws:List W) (ds:List aeC),bD (dat ph n) ws=some ds->aeS ds ds=true:=fun ws ds h=>
   CU ds fun d hd=>let ⟨w,_,e⟩:=Em h d hd;ih w d e
  intro w d h;cases w with
  | aI=>cases h;simp[acW]
  | bl b=>cases h;simp[acW]
  | int i=>cases h;simp[acW]
  | str x=>
   simp only[dat] at h;split at h
   ·cases h;simp[acW]
   ·cases h
  | tup ws=>
   simp only[dat] at h;cases q:bD (dat ph n) ws with
   | none=>rw[q] at h;cases h
   | some ds=>rw[q] at h;cases h;simp only[acW,key ws ds q]
  | fl ws=>
   simp only[dat] at h;cases q:bD (dat ph n) ws with
   | none=>rw[q] at h;cases h
   | some ds=>rw[q] at h;cases h;simp only[acW,key ws ds q]
  | ref i=>
   simp only[dat] at h;split at h
   ·rename_i ws hw;cases q:bD (dat ph n) ws with
    | none=>rw[q] at h;cases h
    | some ds=>rw[q] at h;cases h;simp only[acW,key ws ds q]
   ·cases h
  | exc c ns ws=>simp only[dat] at h;cases h
  | fn x ws=>simp only[dat] at h;cases h
theorem z6{x:W}{b:Bool}(h:f7 ph x y=some b):lift (aH x y) ph=.ok (.bl b) ph:=by
 unfold lift aH;simp only[h,acS]
theorem Fj{α β:Type}{f:α->Option β}:∀l:List α,(∀a∈l,∃b,f a=some b)->∃m,bD f l=some m
 | [],_=>⟨[],rfl⟩
 | a::l,h=>by
  obtain⟨b,e⟩:=h a (by simp);obtain⟨m,e'⟩:=Fj l fun c hc=>h c (by simp[hc])
  exact⟨b::m,by unfold bD;rw[e,e']⟩
theorem YU{x:W}(h1:dat ph 40 x=some d)(h2:dat ph 40 y=some d):f7 ph x y=some true:=by
 unfold f7;rw[h1,h2];simp only[UT 40 _ _ h1]
theorem eq_nil(hi:ph[i]? =some (.lst ws))(hj:ph[j]? =some (.lst []))(hd:bD (dat ph 39) ws=some ds):f7 ph (.ref i) (.ref j)=some ws.isEmpty:=by
 unfold f7;have e1:dat ph 40 (.ref i)=some (.list ds):=by simp only[dat,hi,hd,acS]
 have e2:dat ph 40 (.ref j)=some (.list []):=by simp only[dat,hj,bD,acS]
 rw[e1,e2];cases ws with
 | nil=>cases hd;simp[acW,aeS]
 | cons w ws=>
  unfold bD at hd;split at hd
  ·cases hd;simp[acW,aeS]
  ·cases hd
section
variable{ph:PH}{i:Nat}{c f:Str}{fs:List (Str×W)}{w y:W}{kws:List (W×W)}
theorem Wq(h:ph[i]? =some (.aD kws)):lift (jQ (dW (.ref i))) ph=.ok () ph:=by
 unfold lift jQ dW;rw[nI h];rfl
theorem Wr(h:ph[i]? =some (.aD kws)){k z:W}(hk:cZ kws k=true):lift (dX (.ref i) [k,z]) ph=.ok ((dh kws k).getD z) ph:=by
 unfold lift dX;simp only[nI h,hk,if_true]
theorem UU{ws:List W}{ps d:List (W×W)}(h:ph[i]? =some (.lst ws))(h1:bD rO ws=some ps)(h2:nG [] ps=some d):lift (pK [.ref i]) ph=.ok (.ref ph.length) (ph++[.aD d]):=by
 unfold lift pK;simp only[h,h1,h2]
end
theorem Sw(x:String)(ss:List String)(h:ph[i]? =some (.lst (ss.map fun s=>.str (acu s))))(hj:ss.findIdx? (fun s=>decide (s=x))=some j):lift (pB (.ref i) [.str (acu x)]) ph=.ok (.int j) ph:=by
 have e1:cT (.ref i) ph=some (ss.map fun s=>W.str (acu s)):=by unfold cT;simp only[h]
 have e2:bD (dat ph 40) (ss.map fun s=>W.str (acu s))=some (ss.map fun s=>PyData.str (acu s)):=k7 _ _ _ (fun s=>by simp only[dat,so,if_true]) ss;have e3:dat ph 40 (.str (acu x))=some (.str (acu x)):=by simp only[dat,so,if_true]
 have e4:sH ph (.ref i) (.str (acu x))=some j:=by
  unfold sH;rw[if_pos (Fe h),e1,e3];simp only[e2,ady];rw[List.findIdx?_map,<- hj]
  congr 1
  funext s
  simp only[agU,Hc,vS]
 unfold lift pB;simp only[e4,acS]
noncomputable def vY(x:Str)(i:Nat):EM:=fun σ=>match σ[i]? with
 | some (some w)=>ax (.fn x [w])
 | _=>dC
noncomputable def rP(x:Str)(i:Nat)(m n:EM):EM:=fun σ=>match σ[i]? with
 | some (some (.fn z _))=>if z=x then m σ else n σ
 | _=>dC
noncomputable def z7(m:SM):SM:=fun σ=>dm (m σ)
section
variable{X:Cx}{pins:List (Addr×Obj)}{σ:L2.St}{H:Hp}{s:acb}
variable{i:Nat}
theorem Ws{x:Str}{m n:EM}{e:Expr}(h1:IE X e m)(h2:IE X e n):IE X e (rP x i m n):=by
 intro pins s σ H Q I h;obtain⟨φ,ph,ws,hH,hS,h⟩:=h;unfold rP at h;cases ew:ws[i]? with
 | none=>simp only[ew] at h;exact h.elim
 | some ow=>
 cases ow with
 | none=>simp only[ew] at h;exact h.elim
 | some w0=>
 simp only[ew] at h;cases w0 with
 | fn z cs=>
  simp only at h;by_cases hz:z=x
  ·rw[if_pos hz] at h;exact h1 pins s σ H Q I ⟨φ,ph,ws,hH,hS,h⟩
  ·rw[if_neg hz] at h;exact h2 pins s σ H Q I ⟨φ,ph,ws,hH,hS,h⟩
 | _=>exact h.elim
theorem Wt{x:Str}{m n:EM}{e:Expr}(h1:JE X e m)(h2:JE X e n):JE X e (rP x i m n):=⟨Ws h1.h h2.h⟩
variable{n:Str}{c0:Addr}{oc:Obj}
theorem UV{v:Option Value}(I:Inv X pins σ H s)(iG:X.fn n=false)(fB:X.env.cells.lookup n=some c0)(kM:X.aK.heap.objs.size<=c0)(hn:H c0=none)(hg:s.heap.get? c0=some oc)(hcd:oc.data=.cell v):Inv X pins σ (upd H c0 (.aV oc cX)) s:=by
 have B:=I.base;refine⟨I.ok,I.os,I.bare,⟨B.keep,B.slot,fun b o e nn hx=>?_,B.there,fun b xs e=>?_,fun b o u e=>?_,fun b ps e=>?_⟩,I.loc,I.cell,?_,fun y d e=>?_,fun p hp=>?_,fun b u e=>?_,I.len⟩
 ·rw[aT (acL (aca (acj e) kM))];exact B.free b o e nn hx
 ·rw[aT (ce (B.fk b xs e) hn)];exact B.fk b xs e
 ·rw[aT (ce (B.er b o u e) hn)];exact B.er b o u e
 ·obtain⟨m,q⟩:=B.fq b ps e;exact⟨m,by rw[aT (ce q hn)];exact q⟩
 ·rw[aT (aej (I.kB n c0 fB))];exact I.free
 ·by_cases hd:d=c0
  ·subst hd;rw[I.ok.inj y n d e fB];exact⟨fun z=>absurd (show X.fn n=true from z) (by rw[iG];exact acF),.inr ⟨oc,bQ⟩⟩
  ·rw[aT hd];exact I.gO y d e
 ·obtain⟨q1,q2,q3,q4,q5⟩:=I.pin p hp;have fO:p.1≠c0:=fun z=>by rw[z,hg] at q1;cases q1;exact q5 v hcd
  exact⟨q1,by rw[aT fO];exact q2,q3,q4,q5⟩
 ·by_cases hb:b=c0
  ·subst hb;rw[bQ] at e;cases e;exact⟨hg,trivial,⟨_,hg⟩,fun _ _ _ _=>trivial⟩
  ·rw[aT hb] at e;exact(I.aG b u e).ir (fun _ _ _ q=>q) (fun d q=>by rw[aT (ce q hn)];exact q) fun d xs q=>by rw[aT (ce q hn)];exact q
theorem YV{x:Str}{L:gA}{c P:Addr}(iG:X.fn n=false)(hN:X.N[i]? =some n)(hk:X.env.scope.names.lookup n=some .cell)(fB:X.env.cells.lookup n=some c0)(kM:X.aK.heap.objs.size<=c0)(hl:ik X.K x=some L)(hq:X.env.qual=x++".<locals>.")(xa:X.env.globals=ach)(pL:X.env.code=.ref c)
  (oh:X.K.lookup c=some oc) (hP:iW oc=some P) (oi:c≠P) (hm:(x,c,P)∈dP X.K) (nS:∀p∈dP X.K,p.2.2=P->p.1=x) (lF:aev L.sc X.env=pure [(n,c0)]) (lX:∀y,L.sc.names.lookup y=some .free->y=n) (nR:agT L.ar X.env=([],[])):IE X (.Lambda L.ar L.bd L.sc L.pos) (vY x i):=by
 intro pins s σ H Q I h;obtain⟨φ,ph,ws,hH,hS,h⟩:=h;unfold vY at h;cases ew:ws[i]? with
 | none=>simp only[ew] at h;exact h.elim
 | some ow=>
 cases ow with
 | none=>simp only[ew] at h;exact h.elim
 | some wa=>
 simp only[ew] at h;obtain⟨va,ev,ra⟩:=hS.get ew;have As:=FQ (X:=X) (cl:=[(n,c0)]) hl hq xa pL oh hP oi lF (fun y hy=>⟨c0,by rw[lX y hy,acm];simp⟩) nR;refine a7 (As pins s σ H (fun v H2=>∃a o,v=.ref a/\aN X.K φ ph H2/\Step X.K φ ph.length H φ ph.length H2/\H2 a=some (.aV o cX)/\nL X.K H2 x o [(n,c0)]) I ⟨hH.tb _ hm,fun a o H2 na qz jY hold Au Bt=>?_⟩) fun u s2 zz=>?_
 ·have se:∀b o u,H b=some (.aV o u)->H2 b=some (.aV o u):=fun b o u z=>hold b _ z fun _ y=>nomatch y
  have bE:Step X.K φ ph.length H φ ph.length H2:=⟨abZ _,fun _ _=>rfl,(fun b xs z=>hold b _ z fun _ y=>nomatch y),se⟩
  refine⟨a,o,rfl,⟨fun i p e=>?_,hH.inj,fun p hp=>?_⟩,bE,qz,jY⟩
  ·obtain⟨z,hz,mz⟩:=hH.at (abV.mp e).1;have Bu:∀ps,z≠.c4 ps:=fun ps q=>by
    subst q;have q:=hH.hp i p e;cases p with
    | lst _=>obtain⟨_,q,_⟩:=q;rw[hz] at q;cases q
    | aD _=>rcases q with⟨_,q,_⟩ | ⟨_,q,_⟩ <;> (rw[hz] at q;cases q)
    | obj _ _=>obtain⟨_,_,_,_,q,_⟩:=q;rw[hz] at q;cases q
    | qq _=>obtain⟨_,q,_⟩:=q;rw[hz] at q;cases q
    | kG _=>obtain⟨_,_,⟨_,q,_⟩ | ⟨_,q,_⟩⟩:=q <;> (rw[hz] at q;cases q)
   exact(hH.hp i p e).mono bE ((hold _ _ hz Bu).trans hz.symm)
  ·by_cases kE:p.2.2=P
   ·rw[kE,nS p hp kE];exact Bt
   ·obtain⟨ps,e1,e2,e3⟩:=hH.tb p hp;exact⟨ps,Au _ _ kE e1,e2,fun pos v e=>(e3 pos v e).mono fun b o z=>se b o _ z⟩
 ·obtain⟨v,H2,I2,r2,a,o,e2,ba,bE,sQ,jY⟩:=zz;subst e2;have jL:∃eE u0,s2.heap.get? c0=some eE/\eE.data=.cell (some u0)/\RelV va u0:=by
   obtain⟨m,hn,Bw⟩:=I2.loc;obtain⟨u0,lY,Bx⟩:=Bw i n va hN ev (.inr (.inl hk))
   rcases Bx with⟨kz,_⟩ | ⟨_,c1,sR,eE,g1,g2⟩
   ·have kz:X.env.scope.names.lookup n=some .local:=kz;rw[hk] at kz;cases kz
   ·rw[fB] at sR;cases sR;exact⟨eE,u0,g1,g2,lY⟩
  obtain⟨eE,u0,g1,g2,lY⟩:=jL
  rcases(I2.gO n c0 fB).2 with fr | ⟨ob,fr⟩
  ·have fW:Step X.K φ ph.length H2 φ ph.length (upd H2 c0 (.aV eE cX)):=⟨abZ _,fun _ _=>rfl,fun b xs z=>by rw[aT (ce z fr)];exact z,fun b o u z=>by rw[aT (ce z fr)];exact z⟩
   exact⟨.ref a,_,UV I2 iG fB kM fr g1 g2,r2,h φ _ (.ref a) (Ec ba fr) (bE.trans fW) (.fn (fW.aV _ _ _ sQ) (jY.mono fun b o z=>fW.aV b o _ z) (show jJ _ [(n,c0)] [va] from⟨⟨eE,u0,bQ,g2,lY⟩,trivial⟩) (.cons ((ra.mono bE).mono fW) .nil))⟩
  ·have e:ob=eE:=by
    have:=(I2.aG c0 _ fr).1;rw[g1] at this;exact(acY this).symm
   subst e;exact⟨.ref a,H2,I2,r2,h φ _ (.ref a) ba bE (.fn sQ jY (show jJ _ [(n,c0)] [va] from⟨⟨ob,u0,fr,g2,lY⟩,trivial⟩) (.cons (ra.mono bE) .nil))⟩
theorem YW{x:Str}{L:gA}{c P:Addr}(iG:X.fn n=false)(hN:X.N[i]? =some n)(hk:X.env.scope.names.lookup n=some .cell)(fB:X.env.cells.lookup n=some c0/\X.aK.heap.objs.size<=c0/\aev L.sc X.env=pure [(n,c0)])(hl:ik X.K x=some L)(he:X.env.qual=x++".<locals>."/\X.env.globals=ach/\X.env.code=.ref c)
  (oh:X.K.lookup c=some oc) (hP:iW oc=some P) (oi:c≠P) (hm:(x,c,P)∈dP X.K) (nS:∀p∈dP X.K,p.2.2=P->p.1=x) (lX:∀y,L.sc.names.lookup y=some .free->y=n) (nR:agT L.ar X.env=([],[])):JE X (.Lambda L.ar L.bd L.sc L.pos) (vY x i):=
 ⟨YV iG hN hk fB.1 fB.2.1 hl he.1 he.2.1 he.2.2 oh hP oi hm nS fB.2.2 lX nR⟩
structure qc(X:Cx)(H:Hp)(s:acb):Prop where
 os:s.os=X.aK.os
 bare:afN s.gens
 base:Un X.fs X.ex X.aR H X.aK.heap s.heap
 aG:cj X.prog X.w H s.heap
theorem nJ(I:Inv X pins σ H s):qc X H s:=⟨I.os,I.bare,I.base,I.aG⟩
noncomputable def Jw(X:Cx)(D:Ends)(f:Flow)(s':acb):Prop:=match f with
 | .next=>∃ao H',qc X H' s'/\D.nx ao H'
 | .brk=>∃ao H',qc X H' s'/\D.bk ao H'
 | .cont=>∃ao H',qc X H' s'/\D.ct ao H'
 | .ret u=>∃v H',qc X H' s'/\RelV v u/\D.rt v H'
theorem abr{D:Ends}{f:Flow}{s':acb}(h:SP X pins D f s'):Jw X D f s':=by
 cases f with
 | next=>obtain⟨ao,H',I,q⟩:=h;exact⟨ao,H',nJ I,q⟩
 | brk=>obtain⟨ao,H',I,q⟩:=h;exact⟨ao,H',nJ I,q⟩
 | cont=>obtain⟨ao,H',I,q⟩:=h;exact⟨ao,H',nJ I,q⟩
 | ret u=>obtain⟨v,ao,H',I,r,q⟩:=h;exact⟨v,H',nJ I,r,q⟩
structure JR(X:Cx)(st:List Stmt)(m:SM):Prop where
 h:∀(pins:List (Addr×Obj)) (s:acb) (σ:L2.St) (H:Hp) (D:Ends),Inv X pins σ H s->tS X m D σ H->wpAny (model X.prog X.w) X.A (execs st X.env) (Jw X D) X.xe s
theorem Fm{st:Stmt}{rs:List Stmt}{a b:SM}(h1:JS X st a)(h2:JR X rs b):JR X (st::rs) (ay a b):=⟨fun pins s σ H D I h=>by
 refine afi (a7 (h1.h pins s σ H { D with nx:=tS X b D } I (EK h)) fun f s1 q=>?_);cases f with
 | next=>
  obtain⟨ao,H',I',q⟩:=q;exact h2.h pins s1 ao H' D I' q
 | ret v=>obtain⟨v,ao,H',I,r,q⟩:=q;exact⟨v,H',nJ I,r,q⟩
 | brk=>obtain⟨ao,H',I,q⟩:=q;exact⟨ao,H',nJ I,q⟩
 | cont=>obtain⟨ao,H',I,q⟩:=q;exact⟨ao,H',nJ I,q⟩⟩
noncomputable def nV(X:Cx)(n:Str):Cx:={ X with fn:=fun y=>X.fn y&& !(y==n),xe:=fun _ _=>False }
theorem UW(I:Inv X pins σ H s):Inv (nV X n) pins σ H s:=
 ⟨⟨I.ok.mod,I.ok.kind,I.ok.glob,I.ok.blt,I.ok.above,I.ok.inj,I.ok.has,fun x c e=>I.ok.qj x c (aco _ _▸e:_/\_).1,I.ok.hd,I.ok.frames,I.ok.sj,I.ok.AG,I.ok.bs,I.ok.jS,I.ok.pP,I.ok.pQ,I.ok.fF,I.ok.lM⟩,I.os,I.bare,I.base,I.loc,I.cell,I.free,fun x c e=>⟨fun z=>(I.gO x c e).1 (aco _ _▸z:_/\_).1,(I.gO x c e).2⟩,I.pin,I.aG,I.len⟩
theorem Wu{rs:List Stmt}{m:SM}(h1:JB (nV X n) rs m):JR X rs (z7 m):=⟨fun pins s σ H D I h=>by
 obtain⟨φ,ph,ws,hH,hS,h⟩:=h;obtain⟨f,ph',e,h⟩:=vv h;refine adm (h1.h pins s σ H D (UW I) ⟨φ,ph,ws,hH,hS,?_⟩) (fun fl s' q=>?_) fun _ _ z=>z.elim
 ·rw[e];exact h
 ·have q:=abr q;cases fl with
  | next=>obtain⟨ao,H',I,q⟩:=q;exact⟨ao,H',⟨I.os,I.bare,I.base,I.aG⟩,q⟩
  | brk=>obtain⟨ao,H',I,q⟩:=q;exact⟨ao,H',⟨I.os,I.bare,I.base,I.aG⟩,q⟩
  | cont=>obtain⟨ao,H',I,q⟩:=q;exact⟨ao,H',⟨I.os,I.bare,I.base,I.aG⟩,q⟩
  | ret u=>obtain⟨v,H',I,r,q⟩:=q;exact⟨v,H',⟨I.os,I.bare,I.base,I.aG⟩,r,q⟩⟩
theorem Wv:(nV X n).fn n=false:=by
 show(X.fn n&& !(n==n))=false;simp
noncomputable def eL(sc:Scope)(n:Str):Scope:={ sc with names:=sc.names.map fun p=>if p.1==n then(p.1,.free) else p }
theorem Dq{n x:Str}:∀{l:List (Str×aet)},(l.map fun p=>if p.1==n then(p.1,acy) else p).lookup x=if x==n then(l.lookup x).map fun _=>.free else l.lookup x
 | []=>by simp
 | p::l=>by
  rw[acK];obtain⟨y,k⟩:=p;have ih:=Dq (n:=n) (x:=x) (l:=l);by_cases hy:y=n
  ·subst hy;simp only[beq_self_eq_true,if_true];rw[acm,acm,ih];by_cases hx:x=y
   ·subst hx;simp
   ·have:(x==y)=false:=by simpa using hx
    simp[this]
  ·have Jx:(y==n)=false:=by simpa using hy
   simp only[Jx,Bool.false_eq_true,if_false];rw[acm,acm,ih];by_cases hx:x=y
   ·subst hx;simp[Jx]
   ·have:(x==y)=false:=by simpa using hx
    simp[this]
theorem Bd.nV{N:List Str}{sc:Scope}{k:Nat}{n:Str}(B:Bd X N sc k)(hn:sc.names.lookup n=some .cell):Bd (nV X n) N (eL sc n) k:=by
 have q:∀x kd,(eL sc n).names.lookup x=some kd->(x=n/\kd=.free)\/(x≠n/\sc.names.lookup x=some kd):=fun x kd h=>by
  unfold eL at h;simp only[Dq] at h;by_cases hx:x=n
  ·subst hx;rw[hn] at h;simp at h;exact .inl ⟨rfl,h.symm⟩
  ·have:(x==n)=false:=by simpa using hx
   rw[this] at h;exact .inr ⟨hx,h⟩
 have ql:∀x,Loc (eL sc n) x->x≠n/\Loc sc x:=fun x h=>by
  rcases h with h | h
  ·rcases q x _ h with⟨_,z⟩ | ⟨z,h⟩
   ·cases z
   ·exact⟨z,.inl h⟩
  ·rcases q x _ h with⟨_,z⟩ | ⟨z,h⟩
   ·cases z
   ·exact⟨z,.inr h⟩
 exact⟨⟨⟨B.hN,fun x h=>by
   rcases h with h | h | h
   ·rcases q x _ h with⟨_,z⟩ | ⟨_,h⟩
    ·cases z
    ·exact B.jV x (.inl h)
   ·rcases q x _ h with⟨_,z⟩ | ⟨_,h⟩
    ·cases z
    ·exact B.jV x (.inr (.inl h))
   ·rcases q x _ h with⟨z,_⟩ | ⟨_,h⟩
    ·rw[z];exact B.jV n (.inr (.inl hn))
    ·exact B.jV x (.inr (.inr h)),fun x h=>B.loc x (ql x h).2,fun x h=>by
   rcases q x _ h with⟨_,z⟩ | ⟨_,h⟩
   ·cases z
   ·exact B.gl x h,fun x h=>by
   have:=(ql x h).1
   rcases B.fn x (ql x h).2 with z | z
   ·left
    show(X.fn x&& !(x==n))=true;rw[z]
    simpa using this
   ·exact .inr z,B.nd⟩,B.calm,B.room⟩,agk⟩
end
section
variable{P:adl}{w:World}{K:abW}{mg:Str->Option Value}{base:Heap}
theorem YX{CX:lP}{k:Nat}{f:Addr}{name qual:Str}{params:Arguments}{body:List Stmt}{scope:Scope}{dV kV doc pm bG ct oc:Value}{an od:Option Addr}
  {fX:Array (Option Value)} {N ps:List Str} {sp:Sp} (lk:K.lookup f=some ⟨oc,od,.func (acw name qual params body scope dV kV doc pm an bG ct),fX⟩) (hcd:acr K bG qual=true) (S:cu N ps scope)
  (len:∀vs H Q E,sp vs H Q E->vs.length=ps.length)
  (kh:∀(A:aeg) (outer:List Env) (s:acb) (H:Hp) (vs:List V) (Q:VK) (E:XK),cS k (A.deeper (aeB qual scope s.heap.objs.size f bG))->sp vs H Q E →
   ∃m,JR (dJ CX P w K mg base N qual scope f bG A outer s H E) body m/\tS (dJ CX P w K mg base N qual scope f bG A outer s H E) m { nx:=fun _ H'=>Q .aI H',rt:=Q } (start N vs) H) :
  bT P w K mg base CX (k+1) f (acw name qual params body scope dV kV doc pm an bG ct) ps sp:=by
 refine⟨len,fun A outer s H args us vs Q E hr e0 hb r nY=>?_⟩;have hl:=len _ _ _ _ nY;have KX:K.In s.heap:=e0.mod.qh.keeps fun b o e=>(e0.bs b o e).1
 have lim:s.heap.NoLimit:=e0.mod.nolimit.keeps fun b o e=>(e0.bs b o e).1
 have rG:∀y∈ps.zip us,scope.names.lookup y.1=some .local\/(scope.names.lookup y.1=some .cell/\((agf (s.heap.objs.size+1) scope.names []).lookup y.1).isSome=true):=fun⟨n,v⟩ hy=>by
  rcases S.jW n (aem hy).1 with q | q
  ·exact .inl q
  ·exact .inr ⟨q,aee _ _ _ (.inl q)⟩
 refine afd hr.depth (KX _ _ lk) rfl S.co S.gen rfl (afy KX hcd) (hb _ _ _ _ ?_);refine aex S.kind rG fun env he s1 x=>?_
 subst he;refine⟨lim.keeps x.toInCall.keep,codeAny_func ?_⟩;obtain⟨t,ht,hq⟩:=kh A outer s H vs Q E (hr.deeper _) nY;have I:Inv (dJ CX P w K mg base N qual scope f bG A outer s H E) [] (start N vs) H s1:=yh S hr.hd e0 hl r x;refine adm (ht.h [] s1 (start N vs) H _ I hq) (fun fl s' hs=>?_) fun e s' hs=>hs
 have fin:∀{H':Hp} {v:V} {u:Value},qc (dJ CX P w K mg base N qual scope f bG A outer s H E) H' s'->RelV v u->Q v H'->CE outer P w H s Q u s':=
  fun{H' v u} J rv q=>⟨v,H',J.os,J.bare,J.base,J.aG,rv,q⟩
 cases fl with
 | ret u=>
  obtain⟨v,H',J,rv,q⟩:=hs;exact fin J rv q
 | next=>
  obtain⟨ao,H',J,q⟩:=hs;exact fin (v:=V.aI) (u:=agO) J rfl q
 | brk=>
  obtain⟨_,_,_,q⟩:=hs;exact aeu q
 | cont=>
  obtain⟨_,_,_,q⟩:=hs;exact aeu q
theorem Ww{x qual:Str}{st:Stmt}{f:Addr}{fd:acP}{N ps:List Str}{k n np:Nat}{body:SM}{cn:Str}{L:gA}(hn:N.length=n)(hp:ps.length=np)(F:cm K x qual st f fd)(S:cu N ps (af st))
  (lF:∀L0 fa cd,∃c0,(aeB qual (af st) L0 fa cd).cells.lookup cn=some c0/\L0<=c0/\aev L.sc (aeB qual (af st) L0 fa cd)=pure [(cn,c0)])
  (kh:∀{X:Cx},X.prog=P->X.w=w->X.K=K->X.mg=mg->X.base=base->Bd X N (af st) k->cU X->X.env.scope=af st->X.env.qual=qual++".<locals>."/\X.env.globals=ach/\X.env.code=fd.code->(∃c0,X.env.cells.lookup cn=some c0/\X.aK.heap.objs.size<=c0/\aev L.sc X.env=pure [(cn,c0)])->JR X (aY st) body) :
  bT P w K mg base (bp P w) (k+1) f fd ps (b7 K mg np (fM body n np)):=by
 subst hn hp;obtain⟨oc,od,kV,doc,pm,an,bG,ct,fX,rfl,lk,hcd⟩:=F.ex;refine YX lk hcd S (fun vs H Q E h=>h.1) fun A outer s H vs Q E hr h=>?_
 obtain⟨hl,φ,ph,args,hH,ra,h⟩:=h;refine⟨body,kh (X:=dJ (bp P w) P w K mg base N qual (af st) f bG A outer s H E) rfl rfl rfl rfl rfl ⟨⟨⟨rfl,fun _ z=>z,fun _ z=>z,fun _ z=>z,fun _ _=>.inl rfl,S.nd⟩,rfl,hr⟩,agS⟩ ⟨rfl,rfl,rfl⟩ rfl ⟨rfl,rfl,rfl⟩ (lF _ _ _),?_⟩;have sC:args.length=vs.length:=ra.length;unfold fM at h;rw[if_pos (sC.trans hl),cW,sC] at h;refine⟨φ,ph,_,hH,bh.start (N.length-vs.length) ra,h.mono (fun fl ph' h aB H1 aL s1=>?_) fun x ph' h aq H' e s' r' d6 th=>?_⟩
 ·cases fl with
  | rt w=>exact fun v rv=>h aB H1 v aL s1 rv
  | nx ao=>exact fun σ1 iJ=>h aB H1 .aI aL s1 .aI
  | bk ao=>exact h.elim
  | ct ao=>exact h.elim
 ·obtain⟨C,hm,AX,th⟩:=th;have hE:=h aq H' C r' d6 hm AX;have key:wpAny (model P w) (A.deeper (aeB qual (af st) s.heap.objs.size f bG)) (leaving (aeB qual (af st) s.heap.objs.size f bG) e) (fun _ fu=>Flew P w outer H s C H' e fu) (fun e' fu=>bp P w outer H s E e' fu) s':=by
   rcases th with th | ⟨pins,σ,H0,s0,I0,th⟩
   ·exact Dm (X:=dJ (bp P w) P w K mg base N qual (af st) f bG A outer s H E) rfl rfl rfl th
   ·exact Dn (X:=dJ (bp P w) P w K mg base N qual (af st) f bG A outer s H E) rfl rfl rfl I0 th
  exact adm key (fun _ fu q=>⟨C,H',q,hE⟩) fun _ _ q=>q
end
end IL
local macro_rules | `(tactic| ac_nf) => `(tactic| try simp only [IL.k9, IL.E0, IL.EZ, IL.d9, IL.E1, IL.FX, IL.FY, IL.zW, IL.GV, IL.df, IL.FZ, IL.fE, IL.E3, IL.yF, IL.la, IL.yG, IL.F0, IL.pk, IL.vR, IL.vJ, IL.El, IL.vw, IL.pq, IL.yH, IL.yl, IL.rm, IL.qX, IL.E4, IL.pv, IL.F1, IL.y4, IL.F2, IL.E5, IL.ym, IL.pf, IL.E6, IL.E7, IL.jl, IL.lH, IL.nT, IL.wI, IL.GW, IL.GX, IL.GY, IL.HQ, IL.HR, IL.HS, IL.HU, IL.GZ, IL.F3, IL.G0, IL.G1, IL.G2, IL.HV, IL.F4, IL.F5, IL.F6, IL.zZ, IL.z4, IL.Ek, IL.FU, IL.FV, IL.FW, decide_true, decide_false, Bool.false_eq_true, Bool.not_true, Bool.not_false, IL.G3, IL.G4, IL.G5, IL.HW, IL.HX, IL.HY, IL.HZ, IL.Ia, IL.Ib, IL.Ic, IL.Ie, IL.Ig, IL.Ih, IL.Ii, IL.Ij, IL.Ik, IL.Il, IL.F7, IL.F8, IL.F9, IL.Ga, IL.Gb, IL.Gd, IL.G6, IL.G7, IL.G8, IL.G9, IL.Ha, IL.Ge, IL.Hb, IL.E8, IL.E9, IL.Fb, IL.Fc, IL.sh, IL.Im, IL.Hg, IL.Hh, IL.Hi, IL.Hj, IL.Hk, IL.Gf, IL.zr, IL.qY, IL.Fi, IL.He, IL.Hf, Bool.or_false, Bool.false_or, Bool.or_true, Bool.true_or, Bool.and_true, Bool.true_and, Bool.and_false, Bool.false_and, Nat.reduceSub, List.reduceReplicate, List.set_cons_zero, List.set_cons_succ, if_true, if_false, ↓reduceIte, String.reduceEq, reduceCtorEq])
local macro_rules | `(tactic| push_cast [$as:simpLemma,*]) => `(tactic| try simp only [IL.k9, IL.E0, IL.EZ, IL.d9, IL.E1, IL.FX, IL.FY, IL.zW, IL.GV, IL.df, IL.FZ, IL.fE, IL.E3, IL.yF, IL.la, IL.yG, IL.F0, IL.pk, IL.vR, IL.vJ, IL.El, IL.vw, IL.pq, IL.yH, IL.yl, IL.rm, IL.qX, IL.E4, IL.pv, IL.F1, IL.y4, IL.F2, IL.E5, IL.ym, IL.pf, IL.E6, IL.E7, IL.jl, IL.lH, IL.nT, IL.wI, IL.GW, IL.GX, IL.GY, IL.HQ, IL.HR, IL.HS, IL.HU, IL.GZ, IL.F3, IL.G0, IL.G1, IL.G2, IL.HV, IL.F4, IL.F5, IL.F6, IL.zZ, IL.z4, IL.Ek, IL.FU, IL.FV, IL.FW, decide_true, decide_false, Bool.false_eq_true, Bool.not_true, Bool.not_false, IL.G3, IL.G4, IL.G5, IL.HW, IL.HX, IL.HY, IL.HZ, IL.Ia, IL.Ib, IL.Ic, IL.Ie, IL.Ig, IL.Ih, IL.Ii, IL.Ij, IL.Ik, IL.Il, IL.F7, IL.F8, IL.F9, IL.Ga, IL.Gb, IL.Gd, IL.G6, IL.G7, IL.G8, IL.G9, IL.Ha, IL.Ge, IL.Hb, IL.E8, IL.E9, IL.Fb, IL.Fc, IL.sh, IL.Im, IL.Hg, IL.Hh, IL.Hi, IL.Hj, IL.Hk, IL.Gf, IL.zr, IL.qY, IL.Fi, IL.He, IL.Hf, Bool.or_false, Bool.false_or, Bool.or_true, Bool.true_or, Bool.and_true, Bool.true_and, Bool.and_false, Bool.false_and, Nat.reduceSub, List.reduceReplicate, List.set_cons_zero, List.set_cons_succ, if_true, if_false, ↓reduceIte, String.reduceEq, reduceCtorEq, $as,*])
local macro_rules | `(term| nofun) => `(by decide +kernel)
namespace IL.K28
open PySem PySem.Spec PyProof.Rows L2
theorem iB(us:List Value)(hl:us.length=1):∃a,us=[a]:=List.length_eq_one_iff.mp hl
theorem lI(us:List Value)(hl:us.length=2):∃a1 a2,us=[a1,a2]:=by
 cases us with
 | nil=>cases hl
 | cons a1 us=>
  obtain⟨a2,rfl⟩:=iB us (ago hl);exact⟨a1,a2,rfl⟩
theorem qd(us:List Value)(hl:us.length=3):∃a1 a2 a3,us=[a1,a2,a3]:=by
 cases us with
 | nil=>cases hl
 | cons a1 us=>
  obtain⟨a2,a3,rfl⟩:=lI us (ago hl);exact⟨a1,a2,a3,rfl⟩
theorem Ax(us:List Value)(hl:us.length=4):∃a1 a2 a3 a4,us=[a1,a2,a3,a4]:=by
 cases us with
 | nil=>cases hl
 | cons a1 us=>
  obtain⟨a2,a3,a4,rfl⟩:=qd us (ago hl);exact⟨a1,a2,a3,a4,rfl⟩
theorem Io(us:List Value)(hl:us.length=5):∃a1 a2 a3 a4 a5,us=[a1,a2,a3,a4,a5]:=by
 cases us with
 | nil=>cases hl
 | cons a1 us=>
  obtain⟨a2,a3,a4,a5,rfl⟩:=Ax us (ago hl);exact⟨a1,a2,a3,a4,a5,rfl⟩
def top(i:Nat):Stmt:=PySem.Challenge.pw_boxwright_k28_whole_laid_runs.main.body.getD i (.Pass ⟨0,0,0,0⟩)
abbrev hZ:Stmt:=top 19
abbrev jC:Stmt:=top 20
abbrev c7:Stmt:=top 21
abbrev gh:Stmt:=top 22
abbrev d8:Stmt:=top 23
abbrev c6:Stmt:=top 24
abbrev jG:Stmt:=top 25
abbrev gj:Stmt:=top 26
abbrev gI:Stmt:=top 27
abbrev cG:Stmt:=top 28
abbrev eP:Stmt:=top 13
abbrev iR:Stmt:=top 14
abbrev jB:Stmt:=top 11
abbrev dA:Stmt:=top 7
abbrev ib:Stmt:=top 8
abbrev fe:Stmt:=top 9
abbrev eG:Stmt:=top 15
abbrev eO:Stmt:=top 16
abbrev bS:Stmt:=top 17
abbrev jA:Stmt:=top 1
abbrev gg:Stmt:=top 3
abbrev fP:Stmt:=top 2
abbrev iS:Stmt:=top 4
abbrev dF:Stmt:=top 5
abbrev fC:Stmt:=top 30
abbrev cI:Stmt:=top 29
abbrev cw:Stmt:=top 31
noncomputable def h9:SM:=(ay (aW (eT (ab gC (aa 1) (bv cc (ae (aa 0) ah)))) (aZ (ab ag (aa 0) (aa 1))) bN) (aZ (eC (.int (0)))))
noncomputable def fQ:List W->Mo W:=fM h9 2 2
noncomputable def kS:SM:=(ay (aW (eT (ab aH (ab bC (aa 0) (eC (.int (4)))) (eC (.int (3))))) (aZ (ab ag (bI (ae (eC (.int (2147483647))) (ae (fv eW (eC (.int (2147483648)))) (ae (eC (.int (65536))) (ae (fv eW (eC (.int (1)))) (ae (eC (.int (46341))) (ae (fv eW (eC (.int (65537)))) (ae (eC (.int (1))) (ae (eC (.int (0))) ah))))))))) (ab bC (ab cy (aa 0) (eC (.int (4)))) (eC (.int (8)))))) bN) (ay (aW (eT (ab aH (ab bC (aa 0) (eC (.int (4)))) (eC (.int (2))))) (aZ (ab fU (ab bC (ab bV (ab cy (aa 0) (eC (.int (4)))) (eC (.int (48271)))) (eC (.int (4294967296)))) (eC (.int (2147483648))))) bN) (ay (aW (eT (ab aH (ab bC (aa 0) (eC (.int (4)))) (eC (.int (1))))) (aZ (ab fU (ab bC (ab cy (aa 0) (eC (.int (4)))) (eC (.int (100003)))) (eC (.int (1000))))) bN) (aZ (ab fU (ab bC (ab cy (aa 0) (eC (.int (4)))) (eC (.int (19)))) (eC (.int (6))))))))
noncomputable def oM:List W->Mo W:=fM kS 1 1
noncomputable def mF:SM:=(ay (aE (ab bC (aa 0) (eC (.int (12)))) (gN 3)) (ay (aE (ab bC (ab bV (ab cy (aa 0) (eC (.int (12)))) (eC (.int (48271)))) (eC (.int (2147483647)))) (gN 4)) (ay (aE (ab bC (aa 4) (aa 1)) (gN 5)) (ay (aE (ab bC (ab cy (aa 4) (eC (.int (9)))) (aa 1)) (gN 6)) (ay (aE (ab bC (ab cy (aa 4) (eC (.int (81)))) (aa 2)) (gN 7)) (ay (aW (eT (ab gC (aa 3) (eC (.int (5))))) (ay (aE (ab ag (bI (ae (eC (.str "sum")) (ae (eC (.str "less")) (ae (eC (.str "times")) (ae (eC (.str "part")) (ae (eC (.str "below")) (ae (eC (.str "alike")) ah))))))) (ab bC (ab cy (aa 4) (eC (.int (486)))) (eC (.int (6))))) (gN 8)) (aZ (bB (ae (eC (.str "do")) (ae (aa 5) (ae (aa 8) (ae (aa 6) (ae (ab bC (ab cy (aa 4) (eC (.int (2916)))) (aa 1)) ah)))))))) bN) (ay (aE (bI (ae (bB (ae (eC (.str "put")) (ae (aa 5) (ae (aX oM (ae (ab cy (aa 4) (eC (.int (9)))) ah)) ah)))) (ae (bB (ae (eC (.str "move")) (ae (aa 5) (ae (aa 6) ah)))) (ae (bB (ae (eC (.str "pull")) (ae (aa 5) (ae (aa 7) ah)))) (ae (bB (ae (eC (.str "push")) (ae (aa 7) (ae (aa 5) ah)))) ah))))) (gN 9)) (ay (aE (ab addW (aa 9) (bI (ae (bB (ae (eC (.str "take")) (ae (aa 5) ah))) (ae (bB (ae (eC (.str "tell")) (ae (aa 5) ah))) (ae (bB (ae (eC (.str "turn")) ah)) ah))))) (gN 9)) (aZ (ab ag (aa 9) (ab fU (aa 3) (eC (.int (5))))))))))))))
noncomputable def xP:List W->Mo W:=fM mF 10 3
noncomputable def kT:SM:=(ay (aE (cB (cD (ae (aa 2) ah)) [none,some 1,some 3] (gN 0) (dj (eT (ab gY (aa 0) (aa 1))) (dj (eT (ab cV (aa 0) (aa 2))) (cQ (eT (ab aH (aa 0) (eC (.int (0))))) (eT (ab cV (aa 1) (aa 2)))))) (aa 0)) (gN 4)) (ay (aW (eT (ab aH (aa 4) (bI ah))) (aZ (eC .aI)) bN) (aZ (ab ag (aa 4) (ab bC (aa 0) (bv cc (ae (aa 4) ah)))))))
noncomputable def oT:List W->Mo W:=fM kT 5 4
noncomputable def mG:SM:=(ay (aE (ab bC (ab bV (aa 0) (eC (.int (48271)))) (eC (.int (2147483647)))) (gN 0)) (ay (aE (aX oT (ae (ab cy (aa 0) (eC (.int (8)))) (ae (aa 1) (ae (aa 2) (ae (aa 3) ah))))) (gN 5)) (ay (aE (aX oT (ae (ab cy (aa 0) (eC (.int (800)))) (ae (aa 1) (ae (aa 2) (ae (aa 3) ah))))) (gN 6)) (ay (aW (dj (eT (ab iy (aa 5) (eC .aI))) (eT (ab aH (ab bC (aa 0) (eC (.int (8)))) (eC (.int (0)))))) (aZ (bB (ae (eC (.str "end")) ah))) bN) (ay (aW (eT (ab gC (ab bC (aa 0) (eC (.int (8)))) (eC (.int (4))))) (aZ (bB (ae (eC (.str "if")) (ae (ab bC (ab cy (aa 0) (eC (.int (80000)))) (aa 4)) (ae (aa 5) (ae (aa 6) ah)))))) bN) (aZ (bB (ae (eC (.str "go")) (ae (aa 5) ah)))))))))
noncomputable def xQ:List W->Mo W:=fM mG 7 5
noncomputable def xC:SM:=(da (bR b9 dt (aa 9) (ae (aX xP (ae (ab addW (ab bV (ab ag (aa 5) (ab addW (ab addW (ab bV (eC (.int (4))) (aa 8)) (eC (.int (1)))) (ab bC (aa 10) (eC (.int (2)))))) (ab addW (eC (.int (1))) (aa 10))) (aa 8)) (ae (aa 3) (ae (aa 4) ah)))) ah)))
noncomputable def tH:SM:=(ay (aE (ab bV (bI (ae (bB (ae (eC (.str "turn")) ah)) ah)) (bv iz (ae (ab cV (aa 8) (aa 6)) ah))) (gN 9)) (ay (dM (cD (ae (ab ag (bI (ae (eC (.int (0))) (ae (eC (.int (0))) (ae (eC (.int (1))) (ae (eC (.int (2))) (ae (eC (.int (3))) ah)))))) (ab bC (ab cy (ab ag (aa 5) (ab bV (eC (.int (4))) (aa 8))) (eC (.int (4)))) (eC (.int (5))))) ah)) (gN 10) xC) (da (bR b9 dt (aa 7) (ae (bB (ae (aa 9) (ae (aX xQ (ae (ab addW (ab ag (aa 5) (ab addW (ab bV (eC (.int (4))) (aa 8)) (eC (.int (3))))) (aa 8)) (ae (aa 8) (ae (aa 2) (ae (aa 6) (ae (aa 3) ah)))))) ah))) ah)))))
noncomputable def mq:SM:=(ay (aE (cB (cD (ae (ab bV (eC (.int (4))) (aa 2)) ah)) [none,some 0,some 1] (gN 0) cJ (ab addW (aX fQ (ae (aa 1) (ae (ab addW (aa 2) (ab bC (aa 0) (eC (.int (40))))) ah))) (ab bV (eC (.int (91))) (ab cy (aa 0) (eC (.int (40))))))) (gN 5)) (ay (aE (cB (cD (ae (aa 2) ah)) [none,some 5] (gN 0) (eT (ab aH (ab bC (ab ag (aa 1) (ab bV (eC (.int (4))) (aa 0))) (eC (.int (4)))) (eC (.int (1))))) (aa 0)) (gN 6)) (ay (aE (bI ah) (gN 7)) (ay (dM (cD (ae (aa 2) ah)) (gN 8) tH) (aZ (aa 7))))))
noncomputable def xH:List W->Mo W:=fM mq 11 5
noncomputable def k4:SM:=(aZ (ab fU (aa 0) (ab bV (ab cy (ab addW (aa 0) (eC (.int (2147483648)))) (eC (.int (4294967296)))) (eC (.int (4294967296))))))
noncomputable def qP:List W->Mo W:=fM k4 1 1
noncomputable def mN:SM:=(ay (aW (dj (eT (ab aH (aa 0) (eC (.str "below")))) (eT (ab aH (aa 0) (eC (.str "alike"))))) (aZ (bv iz (ae (wV (pU (ab gC (aa 1) (aa 2)) (ab aH (aa 0) (eC (.str "below")))) (pU (ab aH (aa 1) (aa 2)) (ab aH (aa 0) (eC (.str "alike"))))) ah))) bN) (ay (aW (eT (ab aH (aa 0) (eC (.str "part")))) (aZ (aX qP (ae (ab cy (aa 1) (aa 2)) ah))) bN) (aZ (aX qP (ae (ab ag (bI (ae (ab addW (aa 1) (aa 2)) (ae (ab fU (aa 1) (aa 2)) (ae (ab bV (aa 1) (aa 2)) ah)))) (bR b9 pB (bI (ae (eC (.str "sum")) (ae (eC (.str "less")) (ae (eC (.str "times")) ah)))) (ae (aa 0) ah))) ah)))))
noncomputable def yd:List W->Mo W:=fM mN 3 3
noncomputable def kU:SM:=(aW (eT (ab aH (ab ag (aa 0) (eC (.int (0)))) (eC (.str "put")))) (aE (ab ag (aa 0) (eC (.int (2)))) (eU (aa 1) (ab ag (aa 0) (eC (.int (1)))))) (aW (eT (ab aH (ab ag (aa 0) (eC (.int (0)))) (eC (.str "move")))) (aE (bR dW dX (aa 1) (ae (ab ag (aa 0) (eC (.int (2)))) (ae (eC (.int (0))) ah))) (eU (aa 1) (ab ag (aa 0) (eC (.int (1)))))) (aW (eT (ab aH (ab ag (aa 0) (eC (.int (0)))) (eC (.str "pull")))) (aE (bR dW dX (aa 2) (ae (ab ag (aa 0) (eC (.int (2)))) (ae (eC (.int (0))) ah))) (eU (aa 1) (ab ag (aa 0) (eC (.int (1)))))) (aW (eT (ab aH (ab ag (aa 0) (eC (.int (0)))) (eC (.str "push")))) (aE (bR dW dX (aa 1) (ae (ab ag (aa 0) (eC (.int (2)))) (ae (eC (.int (0))) ah))) (eU (aa 2) (ab ag (aa 0) (eC (.int (1)))))) (aE (aX yd (ae (ab ag (aa 0) (eC (.int (2)))) (ae (bR dW dX (aa 1) (ae (ab ag (aa 0) (eC (.int (3)))) (ae (eC (.int (0))) ah))) (ae (bR dW dX (aa 1) (ae (ab ag (aa 0) (eC (.int (4)))) (ae (eC (.int (0))) ah))) ah)))) (eU (aa 1) (ab ag (aa 0) (eC (.int (1))))))))))
noncomputable def kW:List W->Mo W:=fM kU 3 3
noncomputable def me:SM:=(ay (aW (cQ (eT (ab aH (ab ag (aa 9) (eC (.int (0)))) (eC (.str "turn")))) (eT (ab aH (aa 2) (eC (.int (0)))))) (aZ (bB (ae (eC (.str "dry")) (ae (aa 5) (ae (aa 6) ah))))) bN) (ay (aW (cQ (eT (ab aH (ab ag (aa 9) (eC (.int (0)))) (eC (.str "do")))) (cQ (eT (ab aH (ab ag (aa 9) (eC (.int (2)))) (eC (.str "part")))) (eT (ab aH (bR dW dX (aa 3) (ae (ab ag (aa 9) (eC (.int (4)))) (ae (eC (.int (0))) ah))) (eC (.int (0))))))) (aZ (bB (ae (eC (.str "nought")) (ae (aa 5) (ae (aa 6) ah))))) bN) (aW (eT (ab aH (ab ag (aa 9) (eC (.int (0)))) (eC (.str "turn")))) (aE (ab fU (aa 2) (eC (.int (1)))) (gN 2)) (aW (eT (ab aH (ab ag (aa 9) (eC (.int (0)))) (eC (.str "take")))) (ay (aE (ab ag (ab addW (aa 1) (ab bV (bI (ae (eC (.int (0))) ah)) (ab addW (aa 6) (eC (.int (1)))))) (aa 6)) (eU (aa 3) (ab ag (aa 9) (eC (.int (1)))))) (aE (ab addW (aa 6) (eC (.int (1)))) (gN 6))) (aW (eT (ab aH (ab ag (aa 9) (eC (.int (0)))) (eC (.str "tell")))) (da (bR b9 dt (aa 5) (ae (bR dW dX (aa 3) (ae (ab ag (aa 9) (eC (.int (1)))) (ae (eC (.int (0))) ah))) ah))) (da (aX kW (ae (aa 9) (ae (aa 3) (ae (aa 4) ah))))))))))
noncomputable def oG:SM:=(ay (dM (cY (ab ag (ab ag (aa 0) (aa 7)) (eC (.int (0))))) (gN 9) me) (ay (aE (ab ag (ab ag (aa 0) (aa 7)) (eC (.int (1)))) (gN 10)) (ay (aW (eT (ab aH (ab ag (aa 10) (eC (.int (0)))) (eC (.str "end")))) (aZ (bB (ae (eC (.str "done")) (ae (aa 5) (ae (aa 6) ah))))) bN) (ay (aE (ab ag (aa 10) (eC (.int (1)))) (gN 7)) (aW (eT (ab aH (ab ag (aa 10) (eC (.int (0)))) (eC (.str "if")))) (aE (ab ag (bI (ae (ab ag (aa 10) (eC (.int (3)))) (ae (ab ag (aa 10) (eC (.int (2)))) ah))) (bv iz (ae (ab fy (bR dW dX (aa 3) (ae (ab ag (aa 10) (eC (.int (1)))) (ae (eC (.int (0))) ah))) (eC (.int (0)))) ah))) (gN 7)) bN)))))
noncomputable def mr:SM:=(ay (aE ku (gN 3)) (ay (aE ku (gN 4)) (ay (aE (bI ah) (gN 5)) (ay (aE (eC (.int (0))) (gN 6)) (ay (aE (eC (.int (0))) (gN 7)) (ay (dM (cD (ae (eC (.int (1000))) ah)) (gN 8) oG) (aZ (bB (ae (eC (.str "long")) (ae (aa 5) (ae (aa 6) ah)))))))))))
noncomputable def t9:List W->Mo W:=fM mr 11 3
noncomputable def xS:SM:=(ay (aE (ab ag (aa 0) (aa 1)) (gN 3)) (ay (aW (dj (eT (ab gY (bv cc (ae (ab ag (aa 3) (eC (.int (0)))) ah)) (eC (.int (0))))) (eT (ab fy (ab ag (ab ag (aa 3) (eC (.int (1)))) (eC (.int (0)))) (eC (.str "go"))))) (aZ (aa 1)) bN) (aE (ab ag (ab ag (aa 3) (eC (.int (1)))) (eC (.int (1)))) (gN 1))))
noncomputable def mY:SM:=(ay (dM (cD (ae (bv cc (ae (aa 0) ah)) ah)) (gN 2) xS) (aZ (aa 1)))
noncomputable def qZ:List W->Mo W:=fM mY 4 2
noncomputable def kY:SM:=(ay (aW (eT (ab aH (ab ag (aa 0) (eC (.int (0)))) (eC (.str "go")))) (aZ (bB (ae (eC (.str "go")) (ae (ab ag (aa 1) (ab ag (aa 0) (eC (.int (1))))) ah)))) bN) (ay (aW (eT (ab aH (ab ag (aa 0) (eC (.int (0)))) (eC (.str "if")))) (aZ (bB (ae (eC (.str "if")) (ae (ab ag (aa 0) (eC (.int (1)))) (ae (ab ag (aa 1) (ab ag (aa 0) (eC (.int (2))))) (ae (ab ag (aa 1) (ab ag (aa 0) (eC (.int (3))))) ah)))))) bN) (aZ (aa 0))))
noncomputable def mJ:List W->Mo W:=fM kY 2 2
noncomputable def kR:SM:=(ay (aW (eT (ab aH (ab ag (aa 0) (eC (.int (0)))) (eC (.str "go")))) (aZ (bI (ae (ab ag (aa 0) (eC (.int (1)))) ah))) bN) (ay (aW (eT (ab aH (ab ag (aa 0) (eC (.int (0)))) (eC (.str "if")))) (aZ (bI (ae (ab ag (aa 0) (eC (.int (2)))) (ae (ab ag (aa 0) (eC (.int (3)))) ah)))) bN) (aZ (bI ah))))
noncomputable def qI:List W->Mo W:=fM kR 1 1
noncomputable def l_aheads:EM:=(ab ag (aa 1) (aa 0))
noncomputable def l_threaded:EM:=(aX qI (ae (ab ag (aa 1) (aa 0)) ah))
noncomputable def xI:SM:=(aW (eT (ab ez (aa 4) (aa 2))) (ay (aE (eC .aI) (eU (aa 2) (aa 4))) (da (bR b9 dt (aa 3) (ae (aa 4) ah)))) bN)
noncomputable def ua:SM:=(aW (eT (ab ez (aa 7) (aa 2))) (ay (aE (aa 6) (eU (aa 2) (aa 7))) (da (bR b9 dt (aa 3) (ae (aa 7) ah)))) bN)
noncomputable def ub:SM:=(ay (aE (ab ag (aa 3) (aa 5)) (gN 6)) (ay (aE (ab HM (aa 5) (eC (.int (1)))) (gN 5)) (dM (cY (rP "aheads" 1 (jk "aheads" l_aheads 1 (ae (aa 6) ah)) (jk "threaded" l_threaded 1 (ae (aa 6) ah)))) (gN 7) ua)))
noncomputable def kX:SM:=(ay (aE ku (gN 2)) (ay (aE (bI ah) (gN 3)) (ay (dM (cY (aa 0)) (gN 4) xI) (ay (aE (eC (.int (0))) (gN 5)) (ay (iY (eT (ab gC (aa 5) (bv cc (ae (aa 3) ah)))) ub) (aZ (aa 2)))))))
noncomputable def qJ:List W->Mo W:=fM kX 8 2
noncomputable def yM:List W->Mo W:=sd "aheads" (bI (ae (eC (.int (0))) ah)) qJ
noncomputable def ye:SM:=(da (bR b9 dt (ab ag (aa 1) (aa 3)) (ae (aa 2) ah)))
noncomputable def uX:SM:=(dM (cY (ab ag (aa 0) (aa 2))) (gN 3) ye)
noncomputable def m8:SM:=(ay (aE (cB (cY (aa 0)) [none] (gN 0) cJ (bI ah)) (gN 1)) (ay (dM (cY (bv nH (ae (aX yM (ae (aa 0) ah)) ah))) (gN 2) uX) (aZ (aa 1))))
noncomputable def y8:List W->Mo W:=fM m8 4 1
noncomputable def xy:SM:=(aW (cQ (eT (ab gY (aa 2) (eC (.int (0))))) (cQ (eT (ab aH (bv cc (ae (aa 3) ah)) (eC (.int (1))))) (eT (ab aH (ab ag (ab ag (aa 0) (ab ag (aa 3) (eC (.int (0))))) (eC (.int (0)))) (eC (.str "go")))))) (aE (eC (.bl true)) (eU (aa 1) (aa 2))) bN)
noncomputable def mf:SM:=(ay (aE ku (gN 1)) (ay (dM (lu (ae (aX y8 (ae (cB (cY (aa 0)) [none] (gN 0) cJ (aX qI (ae (aa 0) ah))) ah)) ah)) (ji 2 [(gN 2),(gN 3)]) xy) (aZ (aa 1))))
noncomputable def xE:List W->Mo W:=fM mf 4 1
noncomputable def tO:SM:=(ay (da (bR b9 jI (aa 4) (ae (ab ag (ab ag (aa 0) (ab ag (aa 5) (eC (.int (1))))) (eC (.int (0)))) ah))) (aE (ab ag (aa 1) (ab ag (aa 5) (eC (.int (1))))) (gN 5)))
noncomputable def mv:SM:=(ay (aE (bv km (ae (ab ag (ab ag (aa 0) (aa 3)) (eC (.int (0)))) ah)) (gN 4)) (ay (aE (ab ag (aa 1) (aa 3)) (gN 5)) (ay (iY (cQ (eT (ab aH (ab ag (aa 5) (eC (.int (0)))) (eC (.str "go")))) (eT (ab cV (ab ag (aa 5) (eC (.int (1)))) (aa 2)))) tO) (aZ (bB (ae (aa 4) (ae (aa 5) ah)))))))
noncomputable def um:List W->Mo W:=fM mv 6 4
noncomputable def xT:SM:=(ay (aE (aX xE (ae (aa 2) ah)) (gN 3)) (ay (aE (bv nH (ae (aX qJ (ae (bI (ae (eC (.int (0))) ah)) (ae (vY "threaded" 2) ah))) ah)) (gN 4)) (ay (aE (cB (cY (aa 4)) [none,some 3] (gN 0) (eT (ab ez (aa 0) (aa 1))) (aa 0)) (gN 5)) (ay (aE (bv pK (ae (cB (lu (ae (aa 5) ah)) [none,none] (ji 2 [(gN 0),(gN 1)]) cJ (bB (ae (aa 1) (ae (aa 0) ah)))) ah)) (gN 6)) (ay (aE (cB (cY (aa 5)) [none,some 0,some 2,some 3] (gN 0) cJ (aX um (ae (aa 1) (ae (aa 2) (ae (aa 3) (ae (aa 0) ah)))))) (gN 7)) (aZ (cB (cY (aa 7)) [none,some 6] (gN 0) cJ (bB (ae (ab ag (aa 0) (eC (.int (0)))) (ae (aX mJ (ae (ab ag (aa 0) (eC (.int (1)))) (ae (aa 1) ah))) ah))))))))))
noncomputable def mO:SM:=(ay (aE (cB (cD (ae (bv cc (ae (aa 0) ah)) ah)) [none,some 0] (gN 0) cJ (aX qZ (ae (aa 1) (ae (aa 0) ah)))) (gN 1)) (ay (aE (cB (cY (aa 0)) [none,some 1] (gN 0) cJ (aX mJ (ae (ab ag (aa 0) (eC (.int (1)))) (ae (aa 1) ah)))) (gN 2)) (z7 xT)))
noncomputable def yf:List W->Mo W:=fM mO 8 1
noncomputable def ka:SM:=(ay (aW (eT (ab aH (ab ag (aa 0) (eC (.int (0)))) (eC (.str "go")))) (aZ (ab ag (aa 0) (eC (.int (1))))) bN) (ay (aW (eT (ab aH (ab ag (aa 0) (eC (.int (0)))) (eC (.str "if")))) (aZ (ab ag (aa 0) (eC (.int (3))))) bN) (aZ (eC .aI))))
noncomputable def mh:List W->Mo W:=fM ka 1 1
noncomputable def mw:SM:=(ay (aE (bI ah) (gN 2)) (ay (aW (eT (ab aH (ab ag (aa 0) (eC (.int (0)))) (eC (.str "if")))) (da (bR b9 dt (aa 2) (ae (bB (ae (eC (.str "if")) (ae (ab ag (aa 0) (eC (.int (1)))) (ae (ab ag (aa 0) (eC (.int (2)))) ah)))) ah))) bN) (ay (aW (eT (ab aH (ab ag (aa 0) (eC (.int (0)))) (eC (.str "end")))) (da (bR b9 dt (aa 2) (ae (aa 0) ah))) (aW (eT (ab cV (aX mh (ae (aa 0) ah)) (aa 1))) (da (bR b9 dt (aa 2) (ae (bB (ae (eC (.str "go")) (ae (aX mh (ae (aa 0) ah)) ah))) ah))) bN)) (aZ (aa 2)))))
noncomputable def uo:List W->Mo W:=fM mw 3 2
noncomputable def B7:SM:=(aW (eT (ab ez (aa 2) (aa 1))) (aZ (aa 2)) bN)
noncomputable def mj:SM:=(ay (dM (cD (ae (bv cc (ae (aa 0) ah)) ah)) (gN 2) B7) (aZ (eC .aI)))
noncomputable def tX:List W->Mo W:=fM mj 3 2
noncomputable def mP:SM:=(ay (aW (eT (ab aH (ab ag (aa 0) (eC (.int (0)))) (eC (.str "go")))) (aZ (bB (ae (eC (.str "go")) (ae (ab ag (aa 1) (ab ag (aa 0) (eC (.int (1))))) ah)))) bN) (ay (aW (eT (ab aH (ab ag (aa 0) (eC (.int (0)))) (eC (.str "if")))) (aZ (bB (ae (eC (.str "if")) (ae (ab ag (aa 0) (eC (.int (1)))) (ae (ab ag (aa 1) (ab ag (aa 0) (eC (.int (2))))) ah))))) bN) (aZ (aa 0))))
noncomputable def uY:List W->Mo W:=fM mP 2 2
noncomputable def vd:SM:=(ay (aE (bv cc (ae (aa 2) ah)) (eU (aa 1) (aa 3))) (ay (aE (ab ag (ab ag (aa 0) (aa 3)) (eC (.int (1)))) (gN 4)) (ay (da (bR b9 jI (aa 2) (ae (ab ag (ab ag (aa 0) (aa 3)) (eC (.int (0)))) ah))) (ay (da (bR b9 jI (aa 2) (ae (aX uo (ae (aa 4) (ae (aa 1) ah))) ah))) (ay (aE (aX mh (ae (aa 4) ah)) (gN 3)) (aW (dj (eT (ab iy (aa 3) (eC .aI))) (eT (ab cV (aa 3) (aa 1)))) (aE (aX tX (ae (aa 0) (ae (aa 1) ah))) (gN 3)) bN))))))
noncomputable def nv:SM:=(ay (aE ku (gN 1)) (ay (aE (bI ah) (gN 2)) (ay (aE (eC (.int (0))) (gN 3)) (ay (iY (eT (ab lr (aa 3) (eC .aI))) vd) (aZ (cB (cY (aa 2)) [none,some 1] (gN 0) cJ (aX uY (ae (aa 0) (ae (aa 1) ah)))))))))
noncomputable def zt:List W->Mo W:=fM nv 5 1
noncomputable def tE:SM:=(ay (aE (ab ag (aa 0) (aa 1)) (gN 2)) (aW (dj (eT (ab aH (ab ag (aa 2) (eC (.int (0)))) (eC (.str "go")))) (eT (ab aH (ab ag (aa 2) (eC (.int (0)))) (eC (.str "if"))))) (ay (aW (dj (rK (eT (ng sD gC (eC (.int (0))) (ab ag (aa 2) (fv eW (eC (.int (1))))) (bv cc (ae (aa 0) ah))))) (eT (ab aH (ab ag (ab ag (aa 0) (ab ag (aa 2) (fv eW (eC (.int (1)))))) (eC (.int (0)))) (eC (.str "go"))))) (aZ (eC (.bl false))) bN) (aW (cQ (eT (ab aH (ab ag (aa 2) (eC (.int (0)))) (eC (.str "go")))) (eT (ab aH (ab ag (aa 2) (fv eW (eC (.int (1))))) (ab addW (aa 1) (eC (.int (1))))))) (aZ (eC (.bl false))) bN)) bN))
noncomputable def mm:SM:=(ay (aW (dj (eT (ab aH (aa 0) (bI ah))) (eT (ab ez (ab ag (ab ag (aa 0) (fv eW (eC (.int (1))))) (eC (.int (0)))) (bB (ae (eC (.str "end")) (ae (eC (.str "go")) ah)))))) (aZ (eC (.bl false))) bN) (ay (dM (cD (ae (bv cc (ae (aa 0) ah)) ah)) (gN 1) tE) (aZ (eC (.bl true)))))
noncomputable def xF:List W->Mo W:=fM mm 3 1
noncomputable def oH:SM:=(ay (aE (ab ag (aa 0) (aa 7)) (gN 9)) (ay (aE (ab addW (aa 7) (eC (.int (1)))) (gN 7)) (ay (aW (eT (ab aH (ab ag (aa 9) (eC (.int (0)))) (eC (.str "end")))) (aZ (bB (ae (eC (.str "done")) (ae (aa 5) (ae (aa 6) ah))))) bN) (ay (aW (cQ (eT (ab aH (ab ag (aa 9) (eC (.int (0)))) (eC (.str "turn")))) (eT (ab aH (aa 2) (eC (.int (0)))))) (aZ (bB (ae (eC (.str "dry")) (ae (aa 5) (ae (aa 6) ah))))) bN) (ay (aW (cQ (eT (ab aH (ab ag (aa 9) (eC (.int (0)))) (eC (.str "do")))) (cQ (eT (ab aH (ab ag (aa 9) (eC (.int (2)))) (eC (.str "part")))) (eT (ab aH (bR dW dX (aa 3) (ae (ab ag (aa 9) (eC (.int (4)))) (ae (eC (.int (0))) ah))) (eC (.int (0))))))) (aZ (bB (ae (eC (.str "nought")) (ae (aa 5) (ae (aa 6) ah))))) bN) (aW (eT (ab aH (ab ag (aa 9) (eC (.int (0)))) (eC (.str "turn")))) (aE (ab fU (aa 2) (eC (.int (1)))) (gN 2)) (aW (eT (ab aH (ab ag (aa 9) (eC (.int (0)))) (eC (.str "take")))) (ay (aE (ab ag (ab addW (aa 1) (ab bV (bI (ae (eC (.int (0))) ah)) (ab addW (aa 6) (eC (.int (1)))))) (aa 6)) (eU (aa 3) (ab ag (aa 9) (eC (.int (1)))))) (aE (ab addW (aa 6) (eC (.int (1)))) (gN 6))) (aW (eT (ab aH (ab ag (aa 9) (eC (.int (0)))) (eC (.str "tell")))) (da (bR b9 dt (aa 5) (ae (bR dW dX (aa 3) (ae (ab ag (aa 9) (eC (.int (1)))) (ae (eC (.int (0))) ah))) ah))) (aW (eT (ab aH (ab ag (aa 9) (eC (.int (0)))) (eC (.str "go")))) (aE (ab ag (aa 9) (eC (.int (1)))) (gN 7)) (aW (eT (ab aH (ab ag (aa 9) (eC (.int (0)))) (eC (.str "if")))) (aE (ab ag (bI (ae (aa 7) (ae (ab ag (aa 9) (eC (.int (2)))) ah))) (bv iz (ae (ab fy (bR dW dX (aa 3) (ae (ab ag (aa 9) (eC (.int (1)))) (ae (eC (.int (0))) ah))) (eC (.int (0)))) ah))) (gN 7)) (da (aX kW (ae (aa 9) (ae (aa 3) (ae (aa 4) ah)))))))))))))))
noncomputable def mB:SM:=(ay (aE ku (gN 3)) (ay (aE ku (gN 4)) (ay (aE (bI ah) (gN 5)) (ay (aE (eC (.int (0))) (gN 6)) (ay (aE (eC (.int (0))) (gN 7)) (ay (dM (cD (ae (eC (.int (9000))) ah)) (gN 8) oH) (aZ (bB (ae (eC (.str "long")) (ae (aa 5) (ae (aa 6) ah)))))))))))
noncomputable def uq:List W->Mo W:=fM mB 10 3
noncomputable def pO:SM:=(ay (aE (ab addW (eC (.int (1))) (ab bC (aX fQ (ae (aa 0) (ae (eC (.int (0))) ah))) (eC (.int (6))))) (gN 1)) (ay (aE (ab addW (eC (.int (2))) (ab bC (aX fQ (ae (aa 0) (ae (eC (.int (1))) ah))) (eC (.int (8))))) (gN 2)) (ay (aE (aX xH (ae (aa 0) (ae (eC (.int (2))) (ae (aa 1) (ae (aa 2) (ae (ab addW (eC (.int (1))) (ab bC (ab cy (aX fQ (ae (aa 0) (ae (eC (.int (1))) ah))) (eC (.int (8)))) (eC (.int (12))))) ah)))))) (gN 3)) (ay (aE (aX fQ (ae (aa 0) (ae (eC (.int (30))) ah))) (gN 4)) (ay (aE (cB (cD (ae (ab bC (aa 4) (eC (.int (6)))) ah)) [none,some 0] (gN 0) cJ (aX oM (ae (aX fQ (ae (aa 1) (ae (ab addW (eC (.int (31))) (aa 0)) ah))) ah))) (gN 5)) (ay (aE (aX t9 (ae (aa 3) (ae (aa 5) (ae (ab bC (ab cy (aa 4) (eC (.int (6)))) (eC (.int (6)))) ah)))) (gN 6)) (ay (aE (aX zt (ae (aX yf (ae (cB (cY (aa 3)) [none,none] (ji 2 [(gN 0),(gN 1)]) cJ (bB (ae (bv km (ae (aa 0) ah)) (ae (aa 1) ah)))) ah)) ah)) (gN 7)) (aZ (pU (aX xF (ae (aa 7) ah)) (ab aH (aX uq (ae (aa 7) (ae (aa 5) (ae (ab bC (ab cy (aa 4) (eC (.int (6)))) (eC (.int (6)))) ah)))) (aa 6)))))))))))
noncomputable def rQ:List W->Mo W:=fM pO 8 1
set_option genInjectivity false in
structure Tx(K:abW)(mg:Str->Option Value) where
 a_law_cell_at:Addr
 uB:acP
 iQ:cm K "_law_cell_at" "_law_cell_at" hZ a_law_cell_at uB
 mC:mg "_law_cell_at"=some (.ref a_law_cell_at)
 h9:Binds K uB ["_law_script","_law_k"] []
 a_law_number_by:Addr
 ud:acP
 ms:cm K "_law_number_by" "_law_number_by" jC a_law_number_by ud
 xJ:mg "_law_number_by"=some (.ref a_law_number_by)
 kS:Binds K ud ["_law_cell"] []
 a_law_row_by:Addr
 uI:acP
 oU:cm K "_law_row_by" "_law_row_by" c7 a_law_row_by uI
 CV:mg "_law_row_by"=some (.ref a_law_row_by)
 mF:Binds K uI ["_law_cell","_law_boxes","_law_slots"] []
 a_law_goal_by:Addr
 uC:acP
 mD:cm K "_law_goal_by" "_law_goal_by" gh a_law_goal_by uC
 xK:mg "_law_goal_by"=some (.ref a_law_goal_by)
 kT:Binds K uC ["_law_more","_law_block","_law_many","_law_turning"] []
 a_law_end_by:Addr
 uJ:acP
 oV:cm K "_law_end_by" "_law_end_by" d8 a_law_end_by uJ
 CW:mg "_law_end_by"=some (.ref a_law_end_by)
 mG:Binds K uJ ["_law_cell","_law_block","_law_many","_law_turning","_law_boxes"] []
 a_law_blocks_by:Addr
 ue:acP
 oN:cm K "_law_blocks_by" "_law_blocks_by" c6 a_law_blocks_by ue
 Cw:mg "_law_blocks_by"=some (.ref a_law_blocks_by)
 mq:Binds K ue ["_law_script","_law_first","_law_many","_law_boxes","_law_slots"] []
 a_law_fit:Addr
 ve:acP
 mT:cm K "_law_fit" "_law_fit" jG a_law_fit ve
 yo:mg "_law_fit"=some (.ref a_law_fit)
 k4:Binds K ve ["_law_number"] []
 a_law_deed:Addr
 uZ:acP
 oW:cm K "_law_deed" "_law_deed" gj a_law_deed uZ
 Dr:mg "_law_deed"=some (.ref a_law_deed)
 mN:Binds K uZ ["_law_word","_law_one","_law_other"] []
 a_law_box_row:Addr
 uD:acP
 mE:cm K "_law_box_row" "_law_box_row" gI a_law_box_row uD
 xM:mg "_law_box_row"=some (.ref a_law_box_row)
 kU:Binds K uD ["_law_row","_law_boxes","_law_slots"] []
 a_law_boxed_run:Addr
 ug:acP
 oO:cm K "_law_boxed_run" "_law_boxed_run" cG a_law_boxed_run ug
 Cy:mg "_law_boxed_run"=some (.ref a_law_boxed_run)
 mr:Binds K ug ["_law_blocks","_law_inputs","_law_turns"] []
 a_led_on:Addr
 vC:acP
 pg:cm K "led_on" "led_on" eP a_led_on vC
 Eo:mg "led_on"=some (.ref a_led_on)
 mY:Binds K vC ["blocks","number"] []
 a_with_ways:Addr
 uO:acP
 mK:cm K "with_ways" "with_ways" iR a_with_ways uO
 xU:mg "with_ways"=some (.ref a_with_ways)
 kY:Binds K uO ["end","told"] []
 a_further_blocks:Addr
 tY:acP
 mn:cm K "further_blocks" "further_blocks" jB a_further_blocks tY
 xG:mg "further_blocks"=some (.ref a_further_blocks)
 kR:Binds K tY ["end"] []
 a_found_from:Addr
 uK:acP
 mH:cm K "found_from" "found_from" dA a_found_from uK
 xR:mg "found_from"=some (.ref a_found_from)
 kX:Binds K uK ["starts","further"] []
 a_aheads:Addr
 rg:acP
 mZ:cm K "aheads" "aheads" ib a_aheads rg
 Ep:mg "aheads"=some (.ref a_aheads)
 Er:Binds K rg ["ways"] []
 a_comes:Addr
 vK:acP
 px:cm K "comes" "comes" fe a_comes vK
 Fn:mg "comes"=some (.ref a_comes)
 m8:Binds K vK ["ways"] []
 a_standing_within:Addr
 tP:acP
 oI:cm K "standing_within" "standing_within" eG a_standing_within tP
 Ce:mg "standing_within"=some (.ref a_standing_within)
 mf:Binds K tP ["ends"] []
 a_joined_block:Addr
 ur:acP
 oP:cm K "joined_block" "joined_block" eO a_joined_block ur
 CD:mg "joined_block"=some (.ref a_joined_block)
 mv:Binds K ur ["blocks","ends","within","number"] []
 a_threaded:Addr
 mQ:acP
 mR:cm K "threaded" "threaded" bS a_threaded mQ
 Ds:mg "threaded"=some (.ref a_threaded)
 mO:Binds K mQ ["blocks"] []
 a_straight_behind:Addr
 tQ:acP
 kQ:cm K "straight_behind" "straight_behind" jA a_straight_behind tQ
 tR:mg "straight_behind"=some (.ref a_straight_behind)
 ka:Binds K tQ ["end"] []
 a_rows_for_end:Addr
 ut:acP
 oQ:cm K "rows_for_end" "rows_for_end" gg a_rows_for_end ut
 CF:mg "rows_for_end"=some (.ref a_rows_for_end)
 mw:Binds K ut ["end","places"] []
 a_least_not_laid:Addr
 tZ:acP
 oJ:cm K "least_not_laid" "least_not_laid" fP a_least_not_laid tZ
 Ck:mg "least_not_laid"=some (.ref a_least_not_laid)
 mj:Binds K tZ ["blocks","places"] []
 a_by_place:Addr
 u1:acP
 oX:cm K "by_place" "by_place" iS a_by_place u1
 Dt:mg "by_place"=some (.ref a_by_place)
 mP:Binds K u1 ["row","places"] []
 a_laid:Addr
 vT:acP
 pC:cm K "laid" "laid" dF a_laid vT
 Gh:mg "laid"=some (.ref a_laid)
 nv:Binds K vT ["blocks"] []
 a_law_jumps_good:Addr
 t4:acP
 oK:cm K "_law_jumps_good" "_law_jumps_good" fC a_law_jumps_good t4
 Cm:mg "_law_jumps_good"=some (.ref a_law_jumps_good)
 mm:Binds K t4 ["_law_rows"] []
 a_law_last_run:Addr
 uu:acP
 oR:cm K "_law_last_run" "_law_last_run" cI a_law_last_run uu
 CG:mg "_law_last_run"=some (.ref a_law_last_run)
 mB:Binds K uu ["_law_rows","_law_inputs","_law_turns"] []
 a_law:Addr
 vZ:acP
 rR:cm K "law" "law" cw a_law vZ
 aam:mg "law"=some (.ref a_law)
 pO:Binds K vZ ["_law_script"] []
 qQ:Addr
 qR:Addr
 yp:Obj
 DR:rg.code=.ref qQ
 DS:K.lookup qQ=some yp
 DT:iW yp=some qR
 DU:qQ≠qR
 DV:(("aheads":Str),qQ,qR)∈dP K
 DW:∀p∈dP K,p.2.2=qR->p.1="aheads"
 yq:ik K "aheads"=some (iA ib)
 qL:Addr
 qM:Addr
 xV:Obj
 C7:mQ.code=.ref qL
 C8:K.lookup qL=some xV
 C9:iW xV=some qM
 Dd:qL≠qM
 De:(("threaded":Str),qL,qM)∈dP K
 Df:∀p∈dP K,p.2.2=qM->p.1="threaded"
 xW:ik K "threaded"=some (iA bS)
 Gi:mg "dict"=none
 xX:mg "enumerate"=none
 rS:mg "int"=none
 ip:mg "len"=none
 zu:mg "list"=none
 gK:mg "range"=none
 yN:mg "sorted"=none
variable{X:Cx}{N N':List Str}{sc:Scope}{k:Nat}
theorem gr{scope:Scope}{tg:Expr}{g:GM}(B:Bd X N sc k)(T:Tx X.K X.mg)(hc:∀y∈scope.names,y.2≠.cell)(nd:N'.Nodup)(h:∀{Y:Cx},Bd Y N' scope k->Tx Y.K Y.mg->JG Y tg g)(cl:List (Str×Addr))(C:Addr)(aK:acb)(aR:Hp)(ex:List Addr):JG (blk X N' scope cl C aK aR ex) tg g:=h (B.blk hc nd) T
theorem gu{scope:Scope}{ifs:List Expr}{t:TM}(B:Bd X N sc k)(T:Tx X.K X.mg)(hc:∀y∈scope.names,y.2≠.cell)(nd:N'.Nodup)(h:∀{Y:Cx},Bd Y N' scope k->Tx Y.K Y.mg->JF Y ifs t)(cl:List (Str×Addr))(C:Addr)(aK:acb)(aR:Hp)(ex:List Addr):JF (blk X N' scope cl C aK aR ex) ifs t:=h (B.blk hc nd) T
theorem gv{scope:Scope}{e:Expr}{m:EM}(B:Bd X N sc k)(T:Tx X.K X.mg)(hc:∀y∈scope.names,y.2≠.cell)(nd:N'.Nodup)(h:∀{Y:Cx},Bd Y N' scope k->Tx Y.K Y.mg->JE Y e m)(cl:List (Str×Addr))(C:Addr)(aK:acb)(aR:Hp)(ex:List Addr):JE (blk X N' scope cl C aK aR ex) e m:=h (B.blk hc nd) T
theorem uE:bg "_law_script"=true:=nofun
theorem iV:bg "_law_k"=true:=nofun
theorem uP:bg "_law_cell"=true:=nofun
theorem mI:bg "_law_boxes"=true:=nofun
theorem qK:bg "_law_slots"=true:=nofun
theorem RB:bg "_law_kind"=true:=nofun
theorem Dg:bg "_law_more"=true:=nofun
theorem Du:bg "_law_one"=true:=nofun
theorem CY:bg "_law_other"=true:=nofun
theorem RC:bg "_law_slot"=true:=nofun
theorem Dh:bg "_law_word"=true:=nofun
theorem xY:bg "_law_some"=true:=nofun
theorem uL:bg "_law_block"=true:=nofun
theorem uQ:bg "_law_many"=true:=nofun
theorem uw:bg "_law_turning"=true:=nofun
theorem Sx:bg "_law_yes"=true:=nofun
theorem Tw:bg "_law_no"=true:=nofun
theorem Q9:bg "_law_first"=true:=nofun
theorem CZ:bg "_law_cells"=true:=nofun
theorem CM:bg "_law_blocks"=true:=nofun
theorem uR:bg "_law_rows"=true:=nofun
theorem UX:bg "_law_j"=true:=nofun
theorem Qv:bg "_law_number"=true:=nofun
theorem u4:bg "_law_row"=true:=nofun
theorem xN:bg "_law_inputs"=true:=nofun
theorem C0:bg "_law_turns"=true:=nofun
theorem Di:bg "_law_told"=true:=nofun
theorem C1:bg "_law_taken"=true:=nofun
theorem Dv:bg "_law_end"=true:=nofun
theorem mU:bg "blocks"=true:=nofun
theorem jH:bg "number"=true:=nofun
theorem m5:bg "block"=true:=nofun
theorem ny:bg "end"=true:=nofun
theorem Fo:bg "told"=true:=nofun
theorem Tz:bg "starts"=true:=nofun
theorem Sy:bg "further"=true:=nofun
theorem yO:bg "found"=true:=nofun
theorem UY:bg "queue"=true:=nofun
theorem UZ:bg "start"=true:=nofun
theorem Wx:bg "done"=true:=nofun
theorem U0:bg "thing"=true:=nofun
theorem U1:bg "other"=true:=nofun
theorem Fp:bg "ways"=true:=nofun
theorem rq:bg "ends"=true:=nofun
theorem RD:bg "arrivals"=true:=nofun
theorem yr:bg "within"=true:=nofun
theorem y9:bg "rows"=true:=nofun
theorem U2:bg "leads"=true:=nofun
theorem Wz:bg "left"=true:=nofun
theorem WA:bg "anew"=true:=nofun
theorem TB:bg "joined"=true:=nofun
theorem U3:bg "place"=true:=nofun
theorem qS:bg "places"=true:=nofun
theorem Gj:bg "row"=true:=nofun
theorem C2:bg "_law_place"=true:=nofun
theorem Sz:bg "_law_old"=true:=nofun
theorem SA:bg "_law_due"=true:=nofun
theorem yt:qb (iA ib) "block" "ways":=⟨rfl,rfl,rfl,nofun,nofun,nofun,(fun y h=>FT (l:=(iA ib).sc.names) nofun h),fun _ _ _ _ _ _=>rfl⟩
theorem xZ:qb (iA bS) "number" "ends":=⟨rfl,rfl,rfl,nofun,nofun,nofun,(fun y h=>FT (l:=(iA bS).sc.names) nofun h),fun _ _ _ _ _ _=>rfl⟩
theorem MP:aA (af hZ) "_law_script":=.inl nofun
theorem MQ:aA (af hZ) "_law_k":=.inl nofun
theorem LX:(af hZ).names.lookup ("len":Str)=some .globalImplicit:=nofun
theorem Li:aA (af jC) "_law_cell":=.inl nofun
theorem Nz:aA (af c7) "_law_cell":=.inl nofun
theorem NA:aA (af c7) "_law_boxes":=.inl nofun
theorem NC:aA (af c7) "_law_slots":=.inl nofun
theorem ND:aA (af c7) "_law_kind":=.inl nofun
theorem NE:Loc (af c7) "_law_kind":=.inl nofun
theorem NF:aA (af c7) "_law_more":=.inl nofun
theorem NG:Loc (af c7) "_law_more":=.inl nofun
theorem NH:aA (af c7) "_law_one":=.inl nofun
theorem NI:Loc (af c7) "_law_one":=.inl nofun
theorem NJ:aA (af c7) "_law_other":=.inl nofun
theorem NK:Loc (af c7) "_law_other":=.inl nofun
theorem NL:aA (af c7) "_law_slot":=.inl nofun
theorem NM:Loc (af c7) "_law_slot":=.inl nofun
theorem NN:aA (af c7) "_law_word":=.inl nofun
theorem NO:Loc (af c7) "_law_word":=.inl nofun
theorem NP:aA (af c7) "_law_some":=.inl nofun
theorem Cn:Loc (af c7) "_law_some":=.inl nofun
theorem Kh:(af c7).names.lookup ("_law_number_by":Str)=some .globalImplicit:=nofun
theorem MR:aA (af gh) "_law_more":=.inl nofun
theorem MS:aA (af gh) "_law_many":=.inl nofun
theorem MT:aA (af gh) "_law_some":=.inl nofun
theorem KJ:(af gh).names.lookup ("range":Str)=some .globalImplicit:=nofun
theorem LY:(af gh).names.lookup ("len":Str)=some .globalImplicit:=nofun
theorem NQ:aA (af d8) "_law_cell":=.inl nofun
theorem NR:Loc (af d8) "_law_cell":=.inl nofun
theorem NS:aA (af d8) "_law_block":=.inl nofun
theorem NT:aA (af d8) "_law_many":=.inl nofun
theorem NU:aA (af d8) "_law_turning":=.inl nofun
theorem NV:aA (af d8) "_law_boxes":=.inl nofun
theorem NW:aA (af d8) "_law_yes":=.inl nofun
theorem NX:Loc (af d8) "_law_yes":=.inl nofun
theorem NY:aA (af d8) "_law_no":=.inl nofun
theorem NZ:Loc (af d8) "_law_no":=.inl nofun
theorem B4:(af d8).names.lookup ("_law_goal_by":Str)=some .globalImplicit:=nofun
theorem Lj:aA (af c6) "_law_many":=.inl nofun
theorem Lk:aA (af c6) "_law_boxes":=.inl nofun
theorem Ll:aA (af c6) "_law_slots":=.inl nofun
theorem Lm:aA (af c6) "_law_cells":=.inr (.inl nofun)
theorem Ln:Loc (af c6) "_law_cells":=.inr nofun
theorem Lo:aA (af c6) "_law_turning":=.inl nofun
theorem Lp:aA (af c6) "_law_blocks":=.inl nofun
theorem Lq:Loc (af c6) "_law_blocks":=.inl nofun
theorem Lr:aA (af c6) "_law_k":=.inl nofun
theorem Ls:Loc (af c6) "_law_k":=.inl nofun
theorem Lu:aA (af c6) "_law_rows":=.inl nofun
theorem Lv:Loc (af c6) "_law_rows":=.inl nofun
theorem KN:aA (af c6) "_law_j":=.inl nofun
theorem KO:Loc (af c6) "_law_j":=.inl nofun
theorem tD:(af c6).names.lookup ("range":Str)=some .globalImplicit:=nofun
theorem KP:(af c6).names.lookup ("int":Str)=some .globalImplicit:=nofun
theorem Ki:(af c6).names.lookup ("_law_row_by":Str)=some .globalImplicit:=nofun
theorem Kj:(af c6).names.lookup ("_law_end_by":Str)=some .globalImplicit:=nofun
theorem Qw:aA (af jG) "_law_number":=.inl nofun
theorem PP:aA (af gj) "_law_word":=.inl nofun
theorem PQ:aA (af gj) "_law_one":=.inl nofun
theorem PR:aA (af gj) "_law_other":=.inl nofun
theorem OX:(af gj).names.lookup ("int":Str)=some .globalImplicit:=nofun
theorem B8:(af gj).names.lookup ("_law_fit":Str)=some .globalImplicit:=nofun
theorem MU:aA (af gI) "_law_row":=.inl nofun
theorem MV:aA (af gI) "_law_boxes":=.inl nofun
theorem MW:aA (af gI) "_law_slots":=.inl nofun
theorem Kn:(af gI).names.lookup ("_law_deed":Str)=some .globalImplicit:=nofun
theorem Lw:aA (af cG) "_law_blocks":=.inl nofun
theorem Lx:aA (af cG) "_law_inputs":=.inl nofun
theorem Lz:aA (af cG) "_law_turns":=.inl nofun
theorem LA:Loc (af cG) "_law_turns":=.inl nofun
theorem LB:aA (af cG) "_law_boxes":=.inl nofun
theorem LC:Loc (af cG) "_law_boxes":=.inl nofun
theorem LF:aA (af cG) "_law_slots":=.inl nofun
theorem LG:Loc (af cG) "_law_slots":=.inl nofun
theorem LH:aA (af cG) "_law_told":=.inl nofun
theorem LJ:Loc (af cG) "_law_told":=.inl nofun
theorem LK:aA (af cG) "_law_taken":=.inl nofun
theorem B9:Loc (af cG) "_law_taken":=.inl nofun
theorem LM:aA (af cG) "_law_block":=.inl nofun
theorem xB:Loc (af cG) "_law_block":=.inl nofun
theorem abz:aA (af cG) "_law_step":=.inl nofun
theorem LN:Loc (af cG) "_law_step":=.inl nofun
theorem LO:aA (af cG) "_law_row":=.inl nofun
theorem LP:Loc (af cG) "_law_row":=.inl nofun
theorem KQ:aA (af cG) "_law_end":=.inl nofun
theorem KR:Loc (af cG) "_law_end":=.inl nofun
theorem Ks:(af cG).names.lookup ("range":Str)=some .globalImplicit:=nofun
theorem Kf:(af cG).names.lookup ("_law_box_row":Str)=some .globalImplicit:=nofun
theorem KS:(af cG).names.lookup ("int":Str)=some .globalImplicit:=nofun
theorem Ra:aA (af eP) "blocks":=.inl nofun
theorem Rb:aA (af eP) "number":=.inl nofun
theorem Rc:Loc (af eP) "number":=.inl nofun
theorem abH:aA (af eP) "step":=.inl nofun
theorem Rf:Loc (af eP) "step":=.inl nofun
theorem Rg:aA (af eP) "block":=.inl nofun
theorem Rh:Loc (af eP) "block":=.inl nofun
theorem CN:(af eP).names.lookup ("len":Str)=some .globalImplicit:=nofun
theorem OY:(af eP).names.lookup ("range":Str)=some .globalImplicit:=nofun
theorem OZ:aA (af iR) "end":=.inl nofun
theorem O0:aA (af iR) "told":=.inl nofun
theorem KU:aA (af jB) "end":=.inl nofun
theorem N0:aA (af dA) "starts":=.inl nofun
theorem Co:aA (af dA) "further":=.inl nofun
theorem N1:aA (af dA) "found":=.inl nofun
theorem N2:Loc (af dA) "found":=.inl nofun
theorem N3:aA (af dA) "queue":=.inl nofun
theorem N4:Loc (af dA) "queue":=.inl nofun
theorem N5:aA (af dA) "start":=.inl nofun
theorem N6:Loc (af dA) "start":=.inl nofun
theorem N7:aA (af dA) "done":=.inl nofun
theorem Cq:Loc (af dA) "done":=.inl nofun
theorem N8:aA (af dA) "thing":=.inl nofun
theorem N9:Loc (af dA) "thing":=.inl nofun
theorem Oa:aA (af dA) "other":=.inl nofun
theorem Ob:Loc (af dA) "other":=.inl nofun
theorem MX:(af dA).names.lookup ("len":Str)=some .globalImplicit:=nofun
theorem abI:aA (af ib) "ways":=.inr (.inl nofun)
theorem RE:aA (af fe) "ways":=.inl nofun
theorem RF:aA (af fe) "told":=.inl nofun
theorem RG:aA (af fe) "block":=.inl nofun
theorem RH:Loc (af fe) "block":=.inl nofun
theorem RJ:aA (af fe) "further":=.inl nofun
theorem RK:Loc (af fe) "further":=.inl nofun
theorem O1:(af fe).names.lookup ("aheads":Str)=some .globalImplicit:=nofun
theorem O2:(af fe).names.lookup ("sorted":Str)=some .globalImplicit:=nofun
theorem Kv:aA (af eG) "ends":=.inl nofun
theorem Kw:aA (af eG) "found":=.inl nofun
theorem Kx:Loc (af eG) "found":=.inl nofun
theorem Ky:aA (af eG) "block":=.inl nofun
theorem Kz:Loc (af eG) "block":=.inl nofun
theorem KA:aA (af eG) "arrivals":=.inl nofun
theorem KC:Loc (af eG) "arrivals":=.inl nofun
theorem Kl:(af eG).names.lookup ("comes":Str)=some .globalImplicit:=nofun
theorem Kg:(af eG).names.lookup ("enumerate":Str)=some .globalImplicit:=nofun
theorem Kt:(af eG).names.lookup ("len":Str)=some .globalImplicit:=nofun
theorem LZ:aA (af eO) "blocks":=.inl nofun
theorem L1:aA (af eO) "ends":=.inl nofun
theorem L3:aA (af eO) "within":=.inl nofun
theorem L4:aA (af eO) "number":=.inl nofun
theorem L5:aA (af eO) "rows":=.inl nofun
theorem L6:Loc (af eO) "rows":=.inl nofun
theorem L7:aA (af eO) "end":=.inl nofun
theorem Ca:Loc (af eO) "end":=.inl nofun
theorem KW:(af eO).names.lookup ("list":Str)=some .globalImplicit:=nofun
theorem PU:aA (af bS) "blocks":=.inr (.inl nofun)
theorem abD:aA (af bS) "leads":=.inr (.inl nofun)
theorem PV:Loc (af bS) "leads":=.inr nofun
theorem abE:aA (af bS) "ends":=.inr (.inl nofun)
theorem PX:Loc (af bS) "ends":=.inr nofun
theorem abF:aA (af bS) "left":=.inl nofun
theorem abG:aA (af bS) "joined":=.inl nofun
theorem O3:(af bS).names.lookup ("len":Str)=some .globalImplicit:=nofun
theorem MY:(af bS).names.lookup ("range":Str)=some .globalImplicit:=nofun
theorem Oc:aA (eL (af bS) "ends") "ends":=.inr (.inr nofun)
theorem abB:aA (eL (af bS) "ends") "within":=.inr (.inl nofun)
theorem Od:Loc (eL (af bS) "ends") "within":=.inr nofun
theorem Oe:aA (eL (af bS) "ends") "found":=.inl nofun
theorem Of:Loc (eL (af bS) "ends") "found":=.inl nofun
theorem Og:aA (eL (af bS) "ends") "left":=.inl nofun
theorem abC:aA (eL (af bS) "ends") "anew":=.inr (.inl nofun)
theorem Oh:Loc (eL (af bS) "ends") "anew":=.inr nofun
theorem Oi:aA (eL (af bS) "ends") "joined":=.inl nofun
theorem Ke:(eL (af bS) "ends").names.lookup ("standing_within":Str)=some .globalImplicit:=nofun
theorem Km:(eL (af bS) "ends").names.lookup ("found_from":Str)=some .globalImplicit:=nofun
theorem KY:(eL (af bS) "ends").names.lookup ("sorted":Str)=some .globalImplicit:=nofun
theorem Ko:(eL (af bS) "ends").names.lookup ("enumerate":Str)=some .globalImplicit:=nofun
theorem L8:(eL (af bS) "ends").names.lookup ("dict":Str)=some .globalImplicit:=nofun
theorem KD:aA (af jA) "end":=.inl nofun
theorem L9:aA (af gg) "end":=.inl nofun
theorem Ma:aA (af gg) "places":=.inl nofun
theorem Mb:aA (af gg) "rows":=.inl nofun
theorem Mc:Loc (af gg) "rows":=.inl nofun
theorem B3:(af gg).names.lookup ("straight_behind":Str)=some .globalImplicit:=nofun
theorem KZ:aA (af fP) "blocks":=.inl nofun
theorem K0:aA (af fP) "places":=.inl nofun
theorem K6:aA (af fP) "number":=.inl nofun
theorem K7:Loc (af fP) "number":=.inl nofun
theorem KG:(af fP).names.lookup ("len":Str)=some .globalImplicit:=nofun
theorem Kp:(af fP).names.lookup ("range":Str)=some .globalImplicit:=nofun
theorem PY:aA (af iS) "row":=.inl nofun
theorem PZ:aA (af iS) "places":=.inl nofun
theorem SD:aA (af dF) "blocks":=.inl nofun
theorem SE:aA (af dF) "places":=.inr (.inl nofun)
theorem SF:Loc (af dF) "places":=.inr nofun
theorem SG:aA (af dF) "rows":=.inl nofun
theorem SH:Loc (af dF) "rows":=.inl nofun
theorem SI:aA (af dF) "number":=.inl nofun
theorem yg:Loc (af dF) "number":=.inl nofun
theorem SJ:aA (af dF) "end":=.inl nofun
theorem SK:Loc (af dF) "end":=.inl nofun
theorem RL:(af dF).names.lookup ("len":Str)=some .globalImplicit:=nofun
theorem K8:(af dF).names.lookup ("rows_for_end":Str)=some .globalImplicit:=nofun
theorem Kq:(af dF).names.lookup ("straight_behind":Str)=some .globalImplicit:=nofun
theorem Ku:(af dF).names.lookup ("least_not_laid":Str)=some .globalImplicit:=nofun
theorem K9:aA (af fC) "_law_rows":=.inl nofun
theorem La:aA (af fC) "_law_place":=.inl nofun
theorem Lb:Loc (af fC) "_law_place":=.inl nofun
theorem Lc:aA (af fC) "_law_row":=.inl nofun
theorem Ld:Loc (af fC) "_law_row":=.inl nofun
theorem B5:(af fC).names.lookup ("len":Str)=some .globalImplicit:=nofun
theorem Kr:(af fC).names.lookup ("range":Str)=some .globalImplicit:=nofun
theorem Md:aA (af cI) "_law_rows":=.inl nofun
theorem Me:aA (af cI) "_law_inputs":=.inl nofun
theorem Mf:aA (af cI) "_law_turns":=.inl nofun
theorem Mg:Loc (af cI) "_law_turns":=.inl nofun
theorem Mh:aA (af cI) "_law_boxes":=.inl nofun
theorem Mi:Loc (af cI) "_law_boxes":=.inl nofun
theorem Mj:aA (af cI) "_law_slots":=.inl nofun
theorem Mk:Loc (af cI) "_law_slots":=.inl nofun
theorem Ml:aA (af cI) "_law_told":=.inl nofun
theorem Mm:Loc (af cI) "_law_told":=.inl nofun
theorem Mn:aA (af cI) "_law_taken":=.inl nofun
theorem Cb:Loc (af cI) "_law_taken":=.inl nofun
theorem Mp:aA (af cI) "_law_place":=.inl nofun
theorem tJ:Loc (af cI) "_law_place":=.inl nofun
theorem abA:aA (af cI) "_law_step":=.inl nofun
theorem Mq:Loc (af cI) "_law_step":=.inl nofun
theorem Mr:aA (af cI) "_law_row":=.inl nofun
theorem Ms:Loc (af cI) "_law_row":=.inl nofun
theorem KH:(af cI).names.lookup ("range":Str)=some .globalImplicit:=nofun
theorem LQ:(af cI).names.lookup ("int":Str)=some .globalImplicit:=nofun
theorem Kk:(af cI).names.lookup ("_law_box_row":Str)=some .globalImplicit:=nofun
theorem TC:aA (af cw) "_law_script":=.inr (.inl nofun)
theorem TF:aA (af cw) "_law_many":=.inl nofun
theorem TH:Loc (af cw) "_law_many":=.inl nofun
theorem TJ:aA (af cw) "_law_boxes":=.inl nofun
theorem TK:Loc (af cw) "_law_boxes":=.inl nofun
theorem TN:aA (af cw) "_law_old":=.inl nofun
theorem TQ:Loc (af cw) "_law_old":=.inl nofun
theorem TR:aA (af cw) "_law_cell":=.inl nofun
theorem TU:Loc (af cw) "_law_cell":=.inl nofun
theorem TV:aA (af cw) "_law_inputs":=.inl nofun
theorem TX:aA (af cw) "_law_due":=.inl nofun
theorem TY:Loc (af cw) "_law_due":=.inl nofun
theorem TZ:aA (af cw) "_law_rows":=.inl nofun
theorem T1:Loc (af cw) "_law_rows":=.inl nofun
theorem tK:(af cw).names.lookup ("_law_cell_at":Str)=some .globalImplicit:=nofun
theorem Le:(af cw).names.lookup ("_law_blocks_by":Str)=some .globalImplicit:=nofun
theorem Ri:(af cw).names.lookup ("range":Str)=some .globalImplicit:=nofun
theorem Lf:(af cw).names.lookup ("_law_boxed_run":Str)=some .globalImplicit:=nofun
theorem O4:(af cw).names.lookup ("threaded":Str)=some .globalImplicit:=nofun
theorem RM:(af cw).names.lookup ("laid":Str)=some .globalImplicit:=nofun
theorem KI:(af cw).names.lookup ("_law_jumps_good":Str)=some .globalImplicit:=nofun
theorem LS:(af cw).names.lookup ("_law_last_run":Str)=some .globalImplicit:=nofun
section
variable{P:adl}{w:World}{K:abW}{mg:Str->Option Value}{base:Heap}
theorem P0:cu ["_law_script","_law_k"] ["_law_script","_law_k"] (af hZ):=⟨rfl,rfl,rfl,nofun,rfl,nofun,nofun⟩
variable{X:Cx}
theorem Oj(T:Tx X.K X.mg)(B:Bd X ["_law_script","_law_k"] (af hZ) 0)(hF:cU X)(aF:X.env.scope=af hZ):JB X (aY hZ) h9:=
 have v0 {p:Pos}:JE X (.Name "_law_script" p) (aa 0):=B.jv 0 rfl MP uE;have v1 {p:Pos}:JE X (.Name "_law_k" p) (aa 1):=B.jv 1 rfl MQ iV
 (aJ (bH (aU pI v1 (gL rfl nofun nofun iU iZ (B.gl _ LX) T.ip adt (aj rfl v0 av))) (aM (bo (B.ag v0 v1))) cb) (aM (bo ak)))
theorem oS(T:Tx K mg):bT P w K mg base (bp P w) 1 T.a_law_cell_at T.uB ["_law_script","_law_k"] (b7 K mg 2 (fM h9 2 2)):=du rfl rfl T.iQ P0 fun{X} h1 h2 h3 h4 h5 B hF aF=>by subst h3 h4;exact Oj T B hF aF
theorem Ol:cu ["_law_cell"] ["_law_cell"] (af jC):=⟨rfl,rfl,rfl,nofun,rfl,nofun,nofun⟩
theorem Mt(T:Tx X.K X.mg)(B:Bd X ["_law_cell"] (af jC) 0)(hF:cU X)(aF:X.env.scope=af jC):JB X (aY jC) kS:=
 have v0 {p:Pos}:JE X (.Name "_law_cell" p) (aa 0):=B.jv 0 rfl Li uP
 (aJ (bH (aU B.eq (cO v0 ak) ak) (aM (bo (B.ag (de (aj rfl ak (aj rfl (nj ak) (aj rfl ak (aj rfl (nj ak) (aj rfl ak (aj rfl (nj ak) (aj rfl ak (aj rfl ak av))))))))) (cO (ee v0 ak) ak)))) cb) (aJ (bH (aU B.eq (cO v0 ak) ak) (aM (bo (lh (cO (fS (ee v0 ak) ak) ak) ak))) cb) (aJ (bH (aU B.eq (cO v0 ak) ak) (aM (bo (lh (cO (ee v0 ak) ak) ak))) cb) (aM (bo (lh (cO (ee v0 ak) ak) ak))))))
theorem Cr(T:Tx K mg):bT P w K mg base (bp P w) 1 T.a_law_number_by T.ud ["_law_cell"] (b7 K mg 1 (fM kS 1 1)):=du rfl rfl T.ms Ol fun{X} h1 h2 h3 h4 h5 B hF aF=>by subst h3 h4;exact Mt T B hF aF
theorem Qx:cu ["_law_cell","_law_boxes","_law_slots","_law_kind","_law_more","_law_one","_law_other","_law_slot","_law_word","_law_some"] ["_law_cell","_law_boxes","_law_slots"] (af c7):=⟨rfl,rfl,rfl,nofun,rfl,nofun,nofun⟩
theorem O5(T:Tx X.K X.mg)(B:Bd X ["_law_cell","_law_boxes","_law_slots","_law_kind","_law_more","_law_one","_law_other","_law_slot","_law_word","_law_some"] (af c7) 1)(hF:cU X)(aF:X.env.scope=af c7):JB X (aY c7) mF:=
 have v0 {p:Pos}:JE X (.Name "_law_cell" p) (aa 0):=B.jv 0 rfl Nz uP;have v1 {p:Pos}:JE X (.Name "_law_boxes" p) (aa 1):=B.jv 1 rfl NA mI;have v2 {p:Pos}:JE X (.Name "_law_slots" p) (aa 2):=B.jv 2 rfl NC qK;have v3 {p:Pos}:JE X (.Name "_law_kind" p) (aa 3):=B.jv 3 rfl ND RB;have v4 {p:Pos}:JE X (.Name "_law_more" p) (aa 4):=B.jv 4 rfl NF Dg;have v5 {p:Pos}:JE X (.Name "_law_one" p) (aa 5):=B.jv 5 rfl NH Du;have v6 {p:Pos}:JE X (.Name "_law_other" p) (aa 6):=B.jv 6 rfl NJ CY;have v7 {p:Pos}:JE X (.Name "_law_slot" p) (aa 7):=B.jv 7 rfl NL RC;have v8 {p:Pos}:JE X (.Name "_law_word" p) (aa 8):=B.jv 8 rfl NN Dh;have v9 {p:Pos}:JE X (.Name "_law_some" p) (aa 9):=B.jv 9 rfl NP xY
 (aJ (B.a8 3 rfl NE rfl (cO v0 ak)) (aJ (B.a8 4 rfl NG rfl (cO (fS (ee v0 ak) ak) ak)) (aJ (B.a8 5 rfl NI rfl (cO v4 v1)) (aJ (B.a8 6 rfl NK rfl (cO (ee v4 ak) v1)) (aJ (B.a8 7 rfl NM rfl (cO (ee v4 ak) v2)) (aJ (bH (aU pI v3 ak) (aJ (B.a8 8 rfl NO rfl (B.ag (de (aj rfl aS (aj rfl aS (aj rfl aS (aj rfl aS (aj rfl aS (aj rfl aS av))))))) (cO (ee v4 ak) ak))) (aM (bo (cH (aj rfl aS (aj rfl v5 (aj rfl v8 (aj rfl v6 (aj rfl (cO (ee v4 ak) v1) av))))))))) cb) (aJ (B.a8 9 rfl Cn rfl (de (aj rfl (cH (aj rfl aS (aj rfl v5 (aj rfl (bZ rfl nofun (Cr T) b8 (B.room.mono (by decide)) (B.gl _ Kh) T.xJ T.ms.kp T.kS (aj rfl (ee v4 ak) av)) av)))) (aj rfl (cH (aj rfl aS (aj rfl v5 (aj rfl v6 av)))) (aj rfl (cH (aj rfl aS (aj rfl v5 (aj rfl v7 av)))) (aj rfl (cH (aj rfl aS (aj rfl v7 (aj rfl v5 av)))) av)))))) (aJ (B.a8 9 rfl Cn rfl (dD v9 (de (aj rfl (cH (aj rfl aS (aj rfl v5 av))) (aj rfl (cH (aj rfl aS (aj rfl v5 av))) (aj rfl (cH (aj rfl aS av)) av)))))) (aM (bo (B.ag v9 (lh v3 ak))))))))))))
theorem Qy(T:Tx K mg):bT P w K mg base (bp P w) 2 T.a_law_row_by T.uI ["_law_cell","_law_boxes","_law_slots"] (b7 K mg 3 (fM mF 10 3)):=du rfl rfl T.oU Qx fun{X} h1 h2 h3 h4 h5 B hF aF=>by subst h3 h4;exact O5 T B hF aF
theorem P1:cu ["_law_more","_law_block","_law_many","_law_turning","_law_some"] ["_law_more","_law_block","_law_many","_law_turning"] (af gh):=⟨rfl,rfl,rfl,nofun,rfl,nofun,nofun⟩
theorem Om(T:Tx X.K X.mg)(B:Bd X ["_law_more","_law_block","_law_many","_law_turning","_law_some"] (af gh) 0)(hF:cU X)(aF:X.env.scope=af gh):JB X (aY gh) kT:=
 have v0 {p:Pos}:JE X (.Name "_law_more" p) (aa 0):=B.jv 0 rfl MR Dg;have v2 {p:Pos}:JE X (.Name "_law_many" p) (aa 2):=B.jv 2 rfl MS uQ;have v4 {p:Pos}:JE X (.Name "_law_some" p) (aa 4):=B.jv 4 rfl MT xY
 (aJ (pj (i:=4) (by rw[B.hN];exact B.nd) (by rw[B.hN];rfl) (by rw[aF];decide +kernel) B.calm (N':=["_law_k","_law_block","_law_turning"]) (Bd.cap B.hN aF nofun) (ia (B.gl _ KJ) T.gK rfl (aj rfl v2 av)) (gr B T nofun nofun fun{X} B T=>(B.cK 0 rfl (.inl rfl))) (gu B T nofun nofun fun{X} B T=>(zm (fI (kj (aU zO (B.jv 0 rfl (.inl rfl) iV) (B.jv 1 rfl (.inr (.inr rfl)) uL)) (kj (aU (B.p7 (by with_unfolding_all rfl)) (B.jv 0 rfl (.inl rfl) iV) (B.jv 2 rfl (.inr (.inr rfl)) uw)) (fD (fI (i0 (aU B.eq (B.jv 0 rfl (.inl rfl) iV) ak) (fD (aU (B.p7 (by with_unfolding_all rfl)) (B.jv 1 rfl (.inr (.inr rfl)) uL) (B.jv 2 rfl (.inr (.inr rfl)) uw))))))))))) (gv B T nofun nofun fun{X} B T=>(B.jv 0 rfl (.inl rfl) iV)) (oY (by rw[aF];rfl) (by rw[aF];decide +kernel) rfl nofun)) (aJ (bH (aU B.eq v4 (de av)) (aM (bo nh)) cb) (aM (bo (B.ag v4 (cO v0 (gL rfl nofun nofun iU iZ (B.gl _ LY) T.ip adt (aj rfl v4 av))))))))
theorem CH(T:Tx K mg):bT P w K mg base (bp P w) 1 T.a_law_goal_by T.uC ["_law_more","_law_block","_law_many","_law_turning"] (b7 K mg 4 (fM kT 5 4)):=du rfl rfl T.mD P1 fun{X} h1 h2 h3 h4 h5 B hF aF=>by subst h3 h4;exact Om T B hF aF
theorem Qz:cu ["_law_cell","_law_block","_law_many","_law_turning","_law_boxes","_law_yes","_law_no"] ["_law_cell","_law_block","_law_many","_law_turning","_law_boxes"] (af d8):=⟨rfl,rfl,rfl,nofun,rfl,nofun,nofun⟩
theorem O6(T:Tx X.K X.mg)(B:Bd X ["_law_cell","_law_block","_law_many","_law_turning","_law_boxes","_law_yes","_law_no"] (af d8) 1)(hF:cU X)(aF:X.env.scope=af d8):JB X (aY d8) mG:=
 have v0 {p:Pos}:JE X (.Name "_law_cell" p) (aa 0):=B.jv 0 rfl NQ uP;have v1 {p:Pos}:JE X (.Name "_law_block" p) (aa 1):=B.jv 1 rfl NS uL;have v2 {p:Pos}:JE X (.Name "_law_many" p) (aa 2):=B.jv 2 rfl NT uQ;have v3 {p:Pos}:JE X (.Name "_law_turning" p) (aa 3):=B.jv 3 rfl NU uw;have v4 {p:Pos}:JE X (.Name "_law_boxes" p) (aa 4):=B.jv 4 rfl NV mI;have v5 {p:Pos}:JE X (.Name "_law_yes" p) (aa 5):=B.jv 5 rfl NW Sx;have v6 {p:Pos}:JE X (.Name "_law_no" p) (aa 6):=B.jv 6 rfl NY Tw
 (aJ (B.a8 0 rfl NR rfl (cO (fS v0 ak) ak)) (aJ (B.a8 5 rfl NX rfl (bZ rfl nofun (CH T) b8 (B.room.mono (by decide)) (B.gl _ B4) T.xK T.mD.kp T.kT (aj rfl (ee v0 ak) (aj rfl v1 (aj rfl v2 (aj rfl v3 av)))))) (aJ (B.a8 6 rfl NZ rfl (bZ rfl nofun (CH T) b8 (B.room.mono (by decide)) (B.gl _ B4) T.xK T.mD.kp T.kT (aj rfl (ee v0 ak) (aj rfl v1 (aj rfl v2 (aj rfl v3 av)))))) (aJ (bH (fI (kj (aU GP v5 nh) (fD (aU B.eq (cO v0 ak) ak)))) (aM (bo (cH (aj rfl aS av)))) cb) (aJ (bH (aU pI (cO v0 ak) ak) (aM (bo (cH (aj rfl aS (aj rfl (cO (ee v0 ak) v4) (aj rfl v5 (aj rfl v6 av))))))) cb) (aM (bo (cH (aj rfl aS (aj rfl v5 av))))))))))
theorem QA(T:Tx K mg):bT P w K mg base (bp P w) 2 T.a_law_end_by T.uJ ["_law_cell","_law_block","_law_many","_law_turning","_law_boxes"] (b7 K mg 5 (fM mG 7 5)):=du rfl rfl T.oV Qz fun{X} h1 h2 h3 h4 h5 B hF aF=>by subst h3 h4;exact O6 T B hF aF
theorem Oo:cu ["_law_script","_law_first","_law_many","_law_boxes","_law_slots","_law_cells","_law_turning","_law_blocks","_law_k","_law_rows","_law_j"] ["_law_script","_law_first","_law_many","_law_boxes","_law_slots"] (af c6):=⟨rfl,rfl,rfl,nofun,rfl,nofun,nofun⟩
theorem Mu(T:Tx X.K X.mg)(B:Bd X ["_law_script","_law_first","_law_many","_law_boxes","_law_slots","_law_cells","_law_turning","_law_blocks","_law_k","_law_rows","_law_j"] (af c6) 2)(hF:cU X)(aF:X.env.scope=af c6):JB X (aY c6) mq:=
 have v2 {p:Pos}:JE X (.Name "_law_many" p) (aa 2):=B.jv 2 rfl Lj uQ;have v3 {p:Pos}:JE X (.Name "_law_boxes" p) (aa 3):=B.jv 3 rfl Lk mI;have v4 {p:Pos}:JE X (.Name "_law_slots" p) (aa 4):=B.jv 4 rfl Ll qK;have v5 {p:Pos}:JE X (.Name "_law_cells" p) (aa 5):=B.jv 5 rfl Lm CZ;have v6 {p:Pos}:JE X (.Name "_law_turning" p) (aa 6):=B.jv 6 rfl Lo uw;have v7 {p:Pos}:JE X (.Name "_law_blocks" p) (aa 7):=B.jv 7 rfl Lp CM;have v8 {p:Pos}:JE X (.Name "_law_k" p) (aa 8):=B.jv 8 rfl Lr iV;have v9 {p:Pos}:JE X (.Name "_law_rows" p) (aa 9):=B.jv 9 rfl Lu uR;have jr {p:Pos}:JE X (.Name "_law_j" p) (aa 10):=B.jv 10 rfl KN UX
 (aJ (B.zU 5 rfl Ln (by rw[aF];decide +kernel) (k8 B.calm (N':=["_law_k","_law_script","_law_first"]) (Bd.cap B.hN aF nofun) (ia (B.gl _ tD) T.gK rfl (aj rfl (fS ak v2) av)) (gr B T nofun nofun fun{X} B T=>(B.cK 0 rfl (.inl rfl))) (gu B T nofun nofun fun{X} B T=>i7) (gv B T nofun nofun fun{X} B T=>(dD (bZ rfl nofun (oS T) b8 (B.room.mono (by decide)) (B.gl _ rfl) T.mC T.iQ.kp T.h9 (aj rfl (B.jv 1 rfl (.inr (.inr rfl)) uE) (aj rfl (dD (B.jv 2 rfl (.inr (.inr rfl)) Q9) (cO (B.jv 0 rfl (.inl rfl) iV) ak)) av))) (fS ak (ee (B.jv 0 rfl (.inl rfl) iV) ak)))))) (aJ (pj (i:=6) (by rw[B.hN];exact B.nd) (by rw[B.hN];rfl) (by rw[aF];decide +kernel) B.calm (N':=["_law_k","_law_cells"]) (Bd.cap B.hN aF nofun) (ia (B.gl _ tD) T.gK rfl (aj rfl v2 av)) (gr B T nofun nofun fun{X} B T=>(B.cK 0 rfl (.inl rfl))) (gu B T nofun nofun fun{X} B T=>(zm (aU B.eq (cO (B.ag (B.jv 1 rfl (.inr (.inr rfl)) CZ) (fS ak (B.jv 0 rfl (.inl rfl) iV))) ak) ak))) (gv B T nofun nofun fun{X} B T=>(B.jv 0 rfl (.inl rfl) iV)) (oY (by rw[aF];rfl) (by rw[aF];decide +kernel) rfl nofun)) (aJ (B.a8 7 rfl Lq rfl (de av)) (aJ (B.gR (ia (B.gl _ tD) T.gK rfl (aj rfl v2 av)) (B.cK 8 rfl Ls) (aJ (B.a8 9 rfl Lv rfl (fS (de (aj rfl (cH (aj rfl aS av)) av)) (nr rfl nofun nofun u6 vP (B.gl _ KP) T.rS aeq (aj rfl (lj (B.p7 (by with_unfolding_all rfl)) v8 v6) av)))) (aJ (B.gR (ia (B.gl _ tD) T.gK rfl (aj rfl (B.ag (de (aj rfl ak (aj rfl ak (aj rfl ak (aj rfl ak (aj rfl ak av)))))) (cO (ee (B.ag v5 (fS ak v8)) ak) ak)) av)) (B.cK 10 rfl KO) (aM (fR rfl (dw rfl rfl acz acT acU iT gm jE v9 (aj rfl (bZ rfl nofun (Qy T) b8 (B.room.mono (by decide)) (B.gl _ Ki) T.CV T.oU.kp T.mF (aj rfl (dD (fS (B.ag v5 (dD (dD (fS ak v8) ak) (cO jr ak))) (dD ak jr)) v8) (aj rfl v3 (aj rfl v4 av)))) av))))) (aM (fR rfl (dw rfl rfl acz acT acU iT gm jE v7 (aj rfl (cH (aj rfl v9 (aj rfl (bZ rfl nofun (QA T) b8 (B.room.mono (by decide)) (B.gl _ Kj) T.CW T.oV.kp T.mG (aj rfl (dD (B.ag v5 (dD (fS ak v8) ak)) v8) (aj rfl v8 (aj rfl v2 (aj rfl v6 (aj rfl v3 av)))))) av))) av))))))) (aM (bo v7))))))
theorem Oq(T:Tx K mg):bT P w K mg base (bp P w) 3 T.a_law_blocks_by T.ue ["_law_script","_law_first","_law_many","_law_boxes","_law_slots"] (b7 K mg 5 (fM mq 11 5)):=du rfl rfl T.oN Oo fun{X} h1 h2 h3 h4 h5 B hF aF=>by subst h3 h4;exact Mu T B hF aF
theorem SN:cu ["_law_number"] ["_law_number"] (af jG):=⟨rfl,rfl,rfl,nofun,rfl,nofun,nofun⟩
theorem Rj(T:Tx X.K X.mg)(B:Bd X ["_law_number"] (af jG) 0)(hF:cU X)(aF:X.env.scope=af jG):JB X (aY jG) k4:=
 have v0 {p:Pos}:JE X (.Name "_law_number" p) (aa 0):=B.jv 0 rfl Qw Qv
 (aM (bo (lh v0 (fS (ee (dD v0 ak) ak) ak))))
theorem Dw(T:Tx K mg):bT P w K mg base (bp P w) 1 T.a_law_fit T.ve ["_law_number"] (b7 K mg 1 (fM k4 1 1)):=du rfl rfl T.mT SN fun{X} h1 h2 h3 h4 h5 B hF aF=>by subst h3 h4;exact Rj T B hF aF
theorem RN:cu ["_law_word","_law_one","_law_other"] ["_law_word","_law_one","_law_other"] (af gj):=⟨rfl,rfl,rfl,nofun,rfl,nofun,nofun⟩
theorem QB(T:Tx X.K X.mg)(B:Bd X ["_law_word","_law_one","_law_other"] (af gj) 1)(hF:cU X)(aF:X.env.scope=af gj):JB X (aY gj) mN:=
 have v0 {p:Pos}:JE X (.Name "_law_word" p) (aa 0):=B.jv 0 rfl PP Dh;have v1 {p:Pos}:JE X (.Name "_law_one" p) (aa 1):=B.jv 1 rfl PQ Du;have v2 {p:Pos}:JE X (.Name "_law_other" p) (aa 2):=B.jv 2 rfl PR CY
 (aJ (bH (fI (kj (aU B.eq v0 aS) (fD (aU B.eq v0 aS)))) (aM (bo (nr rfl nofun nofun u6 vP (B.gl _ OX) T.rS aeq (aj rfl (Z9 (zi (lj pI v1 v2) (vQ (lj B.eq v0 aS))) (vQ (zi (lj B.eq v1 v2) (vQ (lj B.eq v0 aS))))) av)))) cb) (aJ (bH (aU B.eq v0 aS) (aM (bo (bZ rfl nofun (Dw T) b8 (B.room.mono (by decide)) (B.gl _ B8) T.yo T.mT.kp T.k4 (aj rfl (ee v1 v2) av)))) cb) (aM (bo (bZ rfl nofun (Dw T) b8 (B.room.mono (by decide)) (B.gl _ B8) T.yo T.mT.kp T.k4 (aj rfl (B.ag (de (aj rfl (dD v1 v2) (aj rfl (lh v1 v2) (aj rfl (fS v1 v2) av)))) (dw rfl rfl acz PySem.F.slot_list_index PySem.F.type_list_index (UN B.room.units) gm UO (de (aj rfl aS (aj rfl aS (aj rfl aS av)))) (aj rfl v0 av))) av))))))
theorem RO(T:Tx K mg):bT P w K mg base (bp P w) 2 T.a_law_deed T.uZ ["_law_word","_law_one","_law_other"] (b7 K mg 3 (fM mN 3 3)):=du rfl rfl T.oW RN fun{X} h1 h2 h3 h4 h5 B hF aF=>by subst h3 h4;exact QB T B hF aF
theorem P2:cu ["_law_row","_law_boxes","_law_slots"] ["_law_row","_law_boxes","_law_slots"] (af gI):=⟨rfl,rfl,rfl,nofun,rfl,nofun,nofun⟩
theorem Ot(T:Tx X.K X.mg)(B:Bd X ["_law_row","_law_boxes","_law_slots"] (af gI) 2)(hF:cU X)(aF:X.env.scope=af gI):JB X (aY gI) kU:=
 have v0 {p:Pos}:JE X (.Name "_law_row" p) (aa 0):=B.jv 0 rfl MU u4;have v1 {p:Pos}:JE X (.Name "_law_boxes" p) (aa 1):=B.jv 1 rfl MV mI;have v2 {p:Pos}:JE X (.Name "_law_slots" p) (aa 2):=B.jv 2 rfl MW qK
 (aM (bH (aU B.eq (B.ag v0 ak) aS) (aM (i6 (B.ag v0 ak) (B.iX v1 (B.ag v0 ak)))) (aM (bH (aU B.eq (B.ag v0 ak) aS) (aM (i6 (dw rfl rfl acQ acB acV (ja (fT B.room)) i9 jb v1 (aj rfl (B.ag v0 ak) (aj rfl ak av))) (B.iX v1 (B.ag v0 ak)))) (aM (bH (aU B.eq (B.ag v0 ak) aS) (aM (i6 (dw rfl rfl acQ acB acV (ja (fT B.room)) i9 jb v2 (aj rfl (B.ag v0 ak) (aj rfl ak av))) (B.iX v1 (B.ag v0 ak)))) (aM (bH (aU B.eq (B.ag v0 ak) aS) (aM (i6 (dw rfl rfl acQ acB acV (ja (fT B.room)) i9 jb v1 (aj rfl (B.ag v0 ak) (aj rfl ak av))) (B.iX v2 (B.ag v0 ak)))) (aM (i6 (bZ rfl nofun (RO T) b8 (B.room.mono (by decide)) (B.gl _ Kn) T.Dr T.oW.kp T.mN (aj rfl (B.ag v0 ak) (aj rfl (dw rfl rfl acQ acB acV (ja (fT B.room)) i9 jb v1 (aj rfl (B.ag v0 ak) (aj rfl ak av))) (aj rfl (dw rfl rfl acQ acB acV (ja (fT B.room)) i9 jb v1 (aj rfl (B.ag v0 ak) (aj rfl ak av))) av)))) (B.iX v1 (B.ag v0 ak))))))))))))
theorem CI(T:Tx K mg):bT P w K mg base (bp P w) 3 T.a_law_box_row T.uD ["_law_row","_law_boxes","_law_slots"] (b7 K mg 3 (fM kU 3 3)):=du rfl rfl T.mE P2 fun{X} h1 h2 h3 h4 h5 B hF aF=>by subst h3 h4;exact Ot T B hF aF
theorem Ou:cu ["_law_blocks","_law_inputs","_law_turns","_law_boxes","_law_slots","_law_told","_law_taken","_law_block","_law_step","_law_row","_law_end"] ["_law_blocks","_law_inputs","_law_turns"] (af cG):=⟨rfl,rfl,rfl,nofun,rfl,nofun,nofun⟩
theorem Mv(T:Tx X.K X.mg)(B:Bd X ["_law_blocks","_law_inputs","_law_turns","_law_boxes","_law_slots","_law_told","_law_taken","_law_block","_law_step","_law_row","_law_end"] (af cG) 3)(hF:cU X)(aF:X.env.scope=af cG):JB X (aY cG) mr:=
 have v0 {p:Pos}:JE X (.Name "_law_blocks" p) (aa 0):=B.jv 0 rfl Lw CM;have v1 {p:Pos}:JE X (.Name "_law_inputs" p) (aa 1):=B.jv 1 rfl Lx xN;have v2 {p:Pos}:JE X (.Name "_law_turns" p) (aa 2):=B.jv 2 rfl Lz C0;have v3 {p:Pos}:JE X (.Name "_law_boxes" p) (aa 3):=B.jv 3 rfl LB mI;have v4 {p:Pos}:JE X (.Name "_law_slots" p) (aa 4):=B.jv 4 rfl LF qK;have v5 {p:Pos}:JE X (.Name "_law_told" p) (aa 5):=B.jv 5 rfl LH Di;have v6 {p:Pos}:JE X (.Name "_law_taken" p) (aa 6):=B.jv 6 rfl LK C1;have v7 {p:Pos}:JE X (.Name "_law_block" p) (aa 7):=B.jv 7 rfl LM uL;have v9 {p:Pos}:JE X (.Name "_law_row" p) (aa 9):=B.jv 9 rfl LO u4;have jr {p:Pos}:JE X (.Name "_law_end" p) (aa 10):=B.jv 10 rfl KQ Dv
 (aJ (B.a8 3 rfl LC rfl nu) (aJ (B.a8 4 rfl LG rfl nu) (aJ (B.a8 5 rfl LJ rfl (de av)) (aJ (B.a8 6 rfl B9 rfl ak) (aJ (B.a8 7 rfl xB rfl ak) (aJ (B.gR (ia (B.gl _ Ks) T.gK rfl (aj rfl ak av)) (B.cK 8 rfl LN) (aJ (B.gR (gJ (B.ag (B.ag v0 v7) ak)) (B.cK 9 rfl LP) (aJ (bH (fI (i0 (aU B.eq (B.ag v9 ak) aS) (fD (aU B.eq v2 ak)))) (aM (bo (cH (aj rfl aS (aj rfl v5 (aj rfl v6 av)))))) cb) (aJ (bH (fI (i0 (aU B.eq (B.ag v9 ak) aS) (i0 (aU B.eq (B.ag v9 ak) aS) (fD (aU B.eq (dw rfl rfl acQ acB acV (ja (fT B.room)) i9 jb v3 (aj rfl (B.ag v9 ak) (aj rfl ak av))) ak))))) (aM (bo (cH (aj rfl aS (aj rfl v5 (aj rfl v6 av)))))) cb) (aM (bH (aU B.eq (B.ag v9 ak) aS) (aM (B.a8 2 rfl LA rfl (lh v2 ak))) (aM (bH (aU B.eq (B.ag v9 ak) aS) (aJ (i6 (B.ag (dD v1 (fS (de (aj rfl ak av)) (dD v6 ak))) v6) (B.iX v3 (B.ag v9 ak))) (aM (B.a8 6 rfl B9 rfl (dD v6 ak)))) (aM (bH (aU B.eq (B.ag v9 ak) aS) (aM (fR rfl (dw rfl rfl acz acT acU iT gm jE v5 (aj rfl (dw rfl rfl acQ acB acV (ja (fT B.room)) i9 jb v3 (aj rfl (B.ag v9 ak) (aj rfl ak av))) av)))) (aM (fR rfl (bZ rfl nofun (CI T) b8 (B.room.mono (by decide)) (B.gl _ Kf) T.xM T.mE.kp T.kU (aj rfl v9 (aj rfl v3 (aj rfl v4 av))))))))))))))) (aJ (B.a8 10 rfl KR rfl (B.ag (B.ag v0 v7) ak)) (aJ (bH (aU B.eq (B.ag jr ak) aS) (aM (bo (cH (aj rfl aS (aj rfl v5 (aj rfl v6 av)))))) cb) (aJ (B.a8 7 rfl xB rfl (B.ag jr ak)) (aM (bH (aU B.eq (B.ag jr ak) aS) (aM (B.a8 7 rfl xB rfl (B.ag (de (aj rfl (B.ag jr ak) (aj rfl (B.ag jr ak) av))) (nr rfl nofun nofun u6 vP (B.gl _ KS) T.rS aeq (aj rfl (lj B.ne (dw rfl rfl acQ acB acV (ja (fT B.room)) i9 jb v3 (aj rfl (B.ag jr ak) (aj rfl ak av))) ak) av))))) cb))))))) (aM (bo (cH (aj rfl aS (aj rfl v5 (aj rfl v6 av))))))))))))
theorem Ov(T:Tx K mg):bT P w K mg base (bp P w) 4 T.a_law_boxed_run T.ug ["_law_blocks","_law_inputs","_law_turns"] (b7 K mg 3 (fM mr 11 3)):=du rfl rfl T.oO Ou fun{X} h1 h2 h3 h4 h5 B hF aF=>by subst h3 h4;exact Mv T B hF aF
theorem T2:cu ["blocks","number","step","block"] ["blocks","number"] (af eP):=⟨rfl,rfl,rfl,nofun,rfl,nofun,nofun⟩
theorem RP(T:Tx X.K X.mg)(B:Bd X ["blocks","number","step","block"] (af eP) 0)(hF:cU X)(aF:X.env.scope=af eP):JB X (aY eP) mY:=
 have v0 {p:Pos}:JE X (.Name "blocks" p) (aa 0):=B.jv 0 rfl Ra mU;have v1 {p:Pos}:JE X (.Name "number" p) (aa 1):=B.jv 1 rfl Rb jH;have v3 {p:Pos}:JE X (.Name "block" p) (aa 3):=B.jv 3 rfl Rg m5
 (aJ (B.gR (ia (B.gl _ OY) T.gK rfl (aj rfl (gL rfl nofun nofun iU iZ (B.gl _ CN) T.ip adt (aj rfl v0 av)) av)) (B.cK 2 rfl Rf) (aJ (B.a8 3 rfl Rh rfl (B.ag v0 v1)) (aJ (bH (fI (kj (aU zO (gL rfl nofun nofun iU iZ (B.gl _ CN) T.ip adt (aj rfl (B.ag v3 ak) av)) ak) (fD (aU B.ne (B.ag (B.ag v3 ak) ak) aS)))) (aM (bo v1)) cb) (aM (B.a8 1 rfl Rc rfl (B.ag (B.ag v3 ak) ak)))))) (aM (bo v1)))
theorem T3(T:Tx K mg):bT P w K mg base (bp P w) 1 T.a_led_on T.vC ["blocks","number"] (b7 K mg 2 (fM mY 4 2)):=du rfl rfl T.pg T2 fun{X} h1 h2 h3 h4 h5 B hF aF=>by subst h3 h4;exact RP T B hF aF
theorem Rk:cu ["end","told"] ["end","told"] (af iR):=⟨rfl,rfl,rfl,nofun,rfl,nofun,nofun⟩
theorem P4(T:Tx X.K X.mg)(B:Bd X ["end","told"] (af iR) 0)(hF:cU X)(aF:X.env.scope=af iR):JB X (aY iR) kY:=
 have v0 {p:Pos}:JE X (.Name "end" p) (aa 0):=B.jv 0 rfl OZ ny;have v1 {p:Pos}:JE X (.Name "told" p) (aa 1):=B.jv 1 rfl O0 Fo
 (aJ (bH (aU B.eq (B.ag v0 ak) aS) (aM (bo (cH (aj rfl aS (aj rfl (B.ag v1 (B.ag v0 ak)) av))))) cb) (aJ (bH (aU B.eq (B.ag v0 ak) aS) (aM (bo (cH (aj rfl aS (aj rfl (B.ag v0 ak) (aj rfl (B.ag v1 (B.ag v0 ak)) (aj rfl (B.ag v1 (B.ag v0 ak)) av))))))) cb) (aM (bo v0))))
theorem C3(T:Tx K mg):bT P w K mg base (bp P w) 1 T.a_with_ways T.uO ["end","told"] (b7 K mg 2 (fM kY 2 2)):=du rfl rfl T.mK Rk fun{X} h1 h2 h3 h4 h5 B hF aF=>by subst h3 h4;exact P4 T B hF aF
theorem MZ:cu ["end"] ["end"] (af jB):=⟨rfl,rfl,rfl,nofun,rfl,nofun,nofun⟩
theorem LU(T:Tx X.K X.mg)(B:Bd X ["end"] (af jB) 0)(hF:cU X)(aF:X.env.scope=af jB):JB X (aY jB) kR:=
 have v0 {p:Pos}:JE X (.Name "end" p) (aa 0):=B.jv 0 rfl KU ny
 (aJ (bH (aU B.eq (B.ag v0 ak) aS) (aM (bo (de (aj rfl (B.ag v0 ak) av)))) cb) (aJ (bH (aU B.eq (B.ag v0 ak) aS) (aM (bo (de (aj rfl (B.ag v0 ak) (aj rfl (B.ag v0 ak) av))))) cb) (aM (bo (de av)))))
theorem Cf(T:Tx K mg):bT P w K mg base (bp P w) 1 T.a_further_blocks T.tY ["end"] (b7 K mg 1 (fM kR 1 1)):=du rfl rfl T.mn MZ fun{X} h1 h2 h3 h4 h5 B hF aF=>by subst h3 h4;exact LU T B hF aF
theorem QC:cu ["starts","further","found","queue","start","done","thing","other"] ["starts","further"] (af dA):=⟨rfl,rfl,rfl,nofun,rfl,nofun,nofun⟩
theorem O7(T:Tx X.K X.mg)(B:Bd X ["starts","further","found","queue","start","done","thing","other"] (af dA) 2)(hF:cU X)(aF:X.env.scope=af dA):JB X (aY dA) kX:=
 have v0 {p:Pos}:JE X (.Name "starts" p) (aa 0):=B.jv 0 rfl N0 Tz;have v2 {p:Pos}:JE X (.Name "found" p) (aa 2):=B.jv 2 rfl N1 yO;have v3 {p:Pos}:JE X (.Name "queue" p) (aa 3):=B.jv 3 rfl N3 UY;have v4 {p:Pos}:JE X (.Name "start" p) (aa 4):=B.jv 4 rfl N5 UZ;have v5 {p:Pos}:JE X (.Name "done" p) (aa 5):=B.jv 5 rfl N7 Wx;have v6 {p:Pos}:JE X (.Name "thing" p) (aa 6):=B.jv 6 rfl N8 U0;have v7 {p:Pos}:JE X (.Name "other" p) (aa 7):=B.jv 7 rfl Oa U1
 (aJ (B.a8 2 rfl N2 rfl nu) (aJ (B.a8 3 rfl N4 rfl (de av)) (aJ (B.gR (gJ v0) (B.cK 4 rfl N6) (aM (bH (aU (B.rM (by with_unfolding_all rfl)) v4 v2) (aJ (i6 nh (B.iX v2 v4)) (aM (fR rfl (dw rfl rfl acz acT acU iT gm jE v3 (aj rfl v4 av))))) cb))) (aJ (B.a8 5 rfl Cq rfl ak) (aJ (B.zl (aU pI v5 (gL rfl nofun nofun iU iZ (B.gl _ MX) T.ip adt (aj rfl v3 av))) (aJ (B.a8 6 rfl N9 rfl (B.ag v3 v5)) (aJ (B.aag 5 rfl Cq ak) (aM (B.gR (gJ (Wt (FR T.yq yt B.room (by rw[B.hN];rfl) (B.jV _ Co) (fun a v cl s H hr=>(fun{X} (T:Tx X.K X.mg) (B:Bd X _ _ _)=>((B.ag (B.jv 1 rfl (.inr (.inr rfl)) Fp) (B.jv 0 rfl (.inl rfl) m5)):JE X (iA ib).bd l_aheads)) (X:=jR X _ _ _ _ a v cl s H) T (Bd.Ju B yt nofun a v cl s H hr)) rfl (aj rfl v6 av) nofun nofun) (FR T.xW xZ B.room (by rw[B.hN];rfl) (B.jV _ Co) (fun a v cl s H hr=>(fun{X} (T:Tx X.K X.mg) (B:Bd X _ _ _)=>((bZ rfl nofun (Cf T) b8 (B.room.mono (by decide)) (B.gl _ rfl) T.xG T.mn.kp T.kR (aj rfl (B.ag (B.jv 1 rfl (.inr (.inr rfl)) rq) (B.jv 0 rfl (.inl rfl) jH)) av)):JE X (iA bS).bd l_threaded)) (X:=jR X _ _ _ _ a v cl s H) T (Bd.Ju B xZ nofun a v cl s H hr)) rfl (aj rfl v6 av) nofun nofun))) (B.cK 7 rfl Ob) (aM (bH (aU (B.rM (by with_unfolding_all rfl)) v7 v2) (aJ (i6 v6 (B.iX v2 v7)) (aM (fR rfl (dw rfl rfl acz acT acU iT gm jE v3 (aj rfl v7 av))))) cb))))))) (aM (bo v2)))))))
theorem CO(T:Tx K mg):bT P w K mg base (bp P w) 3 T.a_found_from T.uK ["starts","further"] (b7 K mg 2 (fM kX 8 2)):=du rfl rfl T.mH QC fun{X} h1 h2 h3 h4 h5 B hF aF=>by subst h3 h4;exact O7 T B hF aF
theorem T4:cu ["ways"] ["ways"] (af ib):=⟨rfl,rfl,rfl,nofun,rfl,nofun,nofun⟩
theorem T5(T:Tx K mg):bT P w K mg base (bp P w) 4 T.a_aheads T.rg ["ways"] (b7 K mg 1 yM):=Wk (L:=iA ib) T.mZ T4 rfl (fun _=>rfl) nofun T.DR T.DS T.DT T.DU T.DV T.DW T.yq (fun _ _ _=>rfl) yt.only (fun _=>rfl) (fun _=>rfl) nofun nofun (CO T) T.xR T.mH.kp T.kX rfl fun _ _ _ _ _ _ _=>JE.h (de (aj rfl ak av))
theorem U4:cu ["ways","told","block","further"] ["ways"] (af fe):=⟨rfl,rfl,rfl,nofun,rfl,nofun,nofun⟩
theorem SO(T:Tx X.K X.mg)(B:Bd X ["ways","told","block","further"] (af fe) 4)(hF:cU X)(aF:X.env.scope=af fe):JB X (aY fe) m8:=
 have v0 {p:Pos}:JE X (.Name "ways" p) (aa 0):=B.jv 0 rfl RE Fp;have v1 {p:Pos}:JE X (.Name "told" p) (aa 1):=B.jv 1 rfl RF Fo;have v2 {p:Pos}:JE X (.Name "block" p) (aa 2):=B.jv 2 rfl RG m5;have v3 {p:Pos}:JE X (.Name "further" p) (aa 3):=B.jv 3 rfl RJ Sy
 (aJ (pj (i:=1) (by rw[B.hN];exact B.nd) (by rw[B.hN];rfl) (by rw[aF];decide +kernel) B.calm (N':=["block"]) (Bd.cap B.hN aF nofun) (gJ v0) (gr B T nofun nofun fun{X} B T=>(B.cK 0 rfl (.inl rfl))) (gu B T nofun nofun fun{X} B T=>i7) (gv B T nofun nofun fun{X} B T=>(de av)) (oY (by rw[aF];rfl) (by rw[aF];decide +kernel) rfl nofun)) (aJ (B.gR (gJ (gL rfl nofun nofun (DN B.calm) EY (B.gl _ O2) T.yN boot_sorted (aj rfl (bZ rfl nofun (T5 T) UR (B.room.mono (by decide)) (B.gl _ O1) T.Ep T.mZ.kp T.Er (aj rfl v0 av)) av))) (B.cK 2 rfl RH) (aM (B.gR (gJ (B.ag v0 v2)) (B.cK 3 rfl RK) (aM (fR rfl (dw rfl rfl acz acT acU iT gm jE (B.ag v1 v3) (aj rfl v2 av))))))) (aM (bo v1))))
theorem U5(T:Tx K mg):bT P w K mg base (bp P w) 5 T.a_comes T.vK ["ways"] (b7 K mg 1 (fM m8 4 1)):=du rfl rfl T.px U4 fun{X} h1 h2 h3 h4 h5 B hF aF=>by subst h3 h4;exact SO T B hF aF
theorem Mw:cu ["ends","found","block","arrivals"] ["ends"] (af eG):=⟨rfl,rfl,rfl,nofun,rfl,nofun,nofun⟩
theorem Lg(T:Tx X.K X.mg)(B:Bd X ["ends","found","block","arrivals"] (af eG) 5)(hF:cU X)(aF:X.env.scope=af eG):JB X (aY eG) mf:=
 have v0 {p:Pos}:JE X (.Name "ends" p) (aa 0):=B.jv 0 rfl Kv rq;have v1 {p:Pos}:JE X (.Name "found" p) (aa 1):=B.jv 1 rfl Kw yO;have v2 {p:Pos}:JE X (.Name "block" p) (aa 2):=B.jv 2 rfl Ky m5;have v3 {p:Pos}:JE X (.Name "arrivals" p) (aa 3):=B.jv 3 rfl KA RD
 (aJ (B.a8 1 rfl Kx rfl nu) (aJ (B.gR (ET (B.gl _ Kg) T.xX rfl (aj rfl (bZ rfl nofun (U5 T) b8 (B.room.mono (by decide)) (B.gl _ Kl) T.Fn T.px.kp T.m8 (aj rfl (k8 B.calm (N':=["end"]) (Bd.cap B.hN aF nofun) (gJ v0) (gr B T nofun nofun fun{X} B T=>(B.cK 0 rfl (.inl rfl))) (gu B T nofun nofun fun{X} B T=>i7) (gv B T nofun nofun fun{X} B T=>(bZ rfl nofun (Cf T) b8 (B.room.mono (by decide)) (B.gl _ rfl) T.xG T.mn.kp T.kR (aj rfl (B.jv 0 rfl (.inl rfl) ny) av)))) av)) av)) (zk B.calm (pe (B.cK 2 rfl Kz) (pe (B.cK 3 rfl KC) yY))) (aM (bH (fI (i0 (aU zO v2 ak) (i0 (aU B.eq (gL rfl nofun nofun iU iZ (B.gl _ Kt) T.ip adt (aj rfl v3 av)) ak) (fD (aU B.eq (B.ag (B.ag v0 (B.ag v3 ak)) ak) aS))))) (aM (i6 rL (B.iX v1 v2))) cb))) (aM (bo v1))))
theorem Mx(T:Tx K mg):bT P w K mg base (bp P w) 6 T.a_standing_within T.tP ["ends"] (b7 K mg 1 (fM mf 4 1)):=du rfl rfl T.oI Mw fun{X} h1 h2 h3 h4 h5 B hF aF=>by subst h3 h4;exact Lg T B hF aF
theorem O8:cu ["blocks","ends","within","number","rows","end"] ["blocks","ends","within","number"] (af eO):=⟨rfl,rfl,rfl,nofun,rfl,nofun,nofun⟩
theorem M0(T:Tx X.K X.mg)(B:Bd X ["blocks","ends","within","number","rows","end"] (af eO) 0)(hF:cU X)(aF:X.env.scope=af eO):JB X (aY eO) mv:=
 have v0 {p:Pos}:JE X (.Name "blocks" p) (aa 0):=B.jv 0 rfl LZ mU;have v1 {p:Pos}:JE X (.Name "ends" p) (aa 1):=B.jv 1 rfl L1 rq;have v2 {p:Pos}:JE X (.Name "within" p) (aa 2):=B.jv 2 rfl L3 yr;have v3 {p:Pos}:JE X (.Name "number" p) (aa 3):=B.jv 3 rfl L4 jH;have v4 {p:Pos}:JE X (.Name "rows" p) (aa 4):=B.jv 4 rfl L5 y9;have v5 {p:Pos}:JE X (.Name "end" p) (aa 5):=B.jv 5 rfl L7 ny
 (aJ (B.a8 4 rfl L6 rfl (nr rfl nofun nofun (Dp B.calm) EX (B.gl _ KW) T.zu agc (aj rfl (B.ag (B.ag v0 v3) ak) av))) (aJ (B.a8 5 rfl Ca rfl (B.ag v1 v3)) (aJ (B.zl (fI (i0 (aU B.eq (B.ag v5 ak) aS) (fD (aU (B.p7 (by with_unfolding_all rfl)) (B.ag v5 ak) v2)))) (aJ (fR rfl (dw rfl rfl acz aeO aeP yi gm yk v4 (aj rfl (B.ag (B.ag v0 (B.ag v5 ak)) ak) av))) (aM (B.a8 5 rfl Ca rfl (B.ag v1 (B.ag v5 ak)))))) (aM (bo (cH (aj rfl v4 (aj rfl v5 av))))))))
theorem O9(T:Tx K mg):bT P w K mg base (bp P w) 1 T.a_joined_block T.ur ["blocks","ends","within","number"] (b7 K mg 4 (fM mv 6 4)):=du rfl rfl T.oP O8 fun{X} h1 h2 h3 h4 h5 B hF aF=>by subst h3 h4;exact M0 T B hF aF
theorem RQ:cu ["blocks","leads","ends","within","found","left","anew","joined"] ["blocks"] (af bS):=⟨rfl,rfl,rfl,nofun,rfl,nofun,nofun⟩
theorem P5(T:Tx X.K X.mg)(B:Bd X ["blocks","leads","ends","within","found","left","anew","joined"] (eL (af bS) "ends") 6)(hF:cU X)(aF:X.env.scope=af bS)(iG:X.fn "ends"=false)(he:X.env.qual=("threaded":Str)++".<locals>."/\X.env.globals=ach/\X.env.code=T.mQ.code)(hc:∃c0,X.env.cells.lookup ("ends":Str)=some c0/\X.aK.heap.objs.size<=c0/\aev (iA bS).sc X.env=pure [(("ends":Str),c0)]):JB X ((aY bS).drop 2) xT:=
 have v2 {p:Pos}:JE X (.Name "ends" p) (aa 2):=B.jv 2 rfl Oc rq;have v4 {p:Pos}:JE X (.Name "found" p) (aa 4):=B.jv 4 rfl Oe yO;have v5 {p:Pos}:JE X (.Name "left" p) (aa 5):=B.jv 5 rfl Og Wz;have v7 {p:Pos}:JE X (.Name "joined" p) (aa 7):=B.jv 7 rfl Oi TB
 (aJ (B.a8 3 rfl Od rfl (bZ rfl nofun (Mx T) b8 (B.room.mono (by decide)) (B.gl _ Ke) T.Ce T.oI.kp T.mf (aj rfl v2 av))) (aJ (B.a8 4 rfl Of rfl (gL rfl nofun nofun (DN B.calm) EY (B.gl _ KY) T.yN boot_sorted (aj rfl (bZ rfl nofun (CO T) b8 (B.room.mono (by decide)) (B.gl _ Km) T.xR T.mH.kp T.kX (aj rfl (de (aj rfl ak av)) (aj rfl (YW iG (by rw[B.hN];rfl) (by rw[aF];decide +kernel) hc.choose_spec T.xW ⟨he.1,he.2.1,he.2.2.trans T.C7⟩ T.C8 T.C9 T.Dd T.De T.Df xZ.only rfl) av))) av))) (aJ (pj (i:=5) (by rw[B.hN];exact B.nd) (by rw[B.hN];rfl) (by rw[aF];decide +kernel) B.calm (N':=["number","within"]) (Bd.cap B.hN aF nofun) (gJ v4) (gr B T nofun nofun fun{X} B T=>(B.cK 0 rfl (.inl rfl))) (gu B T nofun nofun fun{X} B T=>(zm (aU (B.rM (by with_unfolding_all rfl)) (B.jv 0 rfl (.inl rfl) jH) (B.jv 1 rfl (.inr (.inr rfl)) yr)))) (gv B T nofun nofun fun{X} B T=>(B.jv 0 rfl (.inl rfl) jH)) (oY (by rw[aF];rfl) (by rw[aF];decide +kernel) rfl nofun)) (aJ (B.a8 6 rfl Oh rfl (nr rfl nofun nofun (Tr B.calm B.room.units) Wg (B.gl _ L8) T.Gi PyProof.Rows.boot_dict (aj rfl (k8 B.calm (N':=["place","number"]) (Bd.cap B.hN aF nofun) (ET (B.gl _ Ko) T.xX rfl (aj rfl v5 av)) (gr B T nofun nofun fun{X} B T=>(zk B.calm (pe (B.cK 0 rfl (.inl rfl)) (pe (B.cK 1 rfl (.inl rfl)) yY)))) (gu B T nofun nofun fun{X} B T=>i7) (gv B T nofun nofun fun{X} B T=>(cH (aj rfl (B.jv 1 rfl (.inl rfl) jH) (aj rfl (B.jv 0 rfl (.inl rfl) U3) av))))) av))) (aJ (pj (i:=7) (by rw[B.hN];exact B.nd) (by rw[B.hN];rfl) (by rw[aF];decide +kernel) B.calm (N':=["number","blocks","ends","within"]) (Bd.cap B.hN aF nofun) (gJ v5) (gr B T nofun nofun fun{X} B T=>(B.cK 0 rfl (.inl rfl))) (gu B T nofun nofun fun{X} B T=>i7) (gv B T nofun nofun fun{X} B T=>(bZ rfl nofun (O9 T) b8 (B.room.mono (by decide)) (B.gl _ rfl) T.CD T.oP.kp T.mv (aj rfl (B.jv 1 rfl (.inr (.inr rfl)) mU) (aj rfl (B.jv 2 rfl (.inr (.inr rfl)) rq) (aj rfl (B.jv 3 rfl (.inr (.inr rfl)) yr) (aj rfl (B.jv 0 rfl (.inl rfl) jH) av)))))) (oY (by rw[aF];rfl) (by rw[aF];decide +kernel) rfl nofun)) (aM (bo (k8 B.calm (N':=["block","anew"]) (Bd.cap B.hN aF nofun) (gJ v7) (gr B T nofun nofun fun{X} B T=>(B.cK 0 rfl (.inl rfl))) (gu B T nofun nofun fun{X} B T=>i7) (gv B T nofun nofun fun{X} B T=>(cH (aj rfl (B.ag (B.jv 0 rfl (.inl rfl) m5) ak) (aj rfl (bZ rfl nofun (C3 T) b8 (B.room.mono (by decide)) (B.gl _ rfl) T.xU T.mK.kp T.kY (aj rfl (B.ag (B.jv 0 rfl (.inl rfl) m5) ak) (aj rfl (B.jv 1 rfl (.inr (.inr rfl)) WA) av))) av))))))))))))
theorem QD(T:Tx X.K X.mg)(B:Bd X ["blocks","leads","ends","within","found","left","anew","joined"] (af bS) 6)(hF:cU X)(aF:X.env.scope=af bS)(he:X.env.qual=("threaded":Str)++".<locals>."/\X.env.globals=ach/\X.env.code=T.mQ.code)(hc:∃c0,X.env.cells.lookup ("ends":Str)=some c0/\X.aK.heap.objs.size<=c0/\aev (iA bS).sc X.env=pure [(("ends":Str),c0)]):JR X (aY bS) mO:=
 have v0 {p:Pos}:JE X (.Name "blocks" p) (aa 0):=B.jv 0 rfl PU mU
 (Fm (B.zU 1 rfl PV (by rw[aF];decide +kernel) (k8 B.calm (N':=["number","blocks"]) (Bd.cap B.hN aF nofun) (ia (B.gl _ MY) T.gK rfl (aj rfl (gL rfl nofun nofun iU iZ (B.gl _ O3) T.ip adt (aj rfl v0 av)) av)) (gr B T nofun nofun fun{X} B T=>(B.cK 0 rfl (.inl rfl))) (gu B T nofun nofun fun{X} B T=>i7) (gv B T nofun nofun fun{X} B T=>(bZ rfl nofun (T3 T) b8 (B.room.mono (by decide)) (B.gl _ rfl) T.Eo T.pg.kp T.mY (aj rfl (B.jv 1 rfl (.inr (.inr rfl)) mU) (aj rfl (B.jv 0 rfl (.inl rfl) jH) av)))))) (Fm (B.zU 2 rfl PX (by rw[aF];decide +kernel) (k8 B.calm (N':=["block","leads"]) (Bd.cap B.hN aF nofun) (gJ v0) (gr B T nofun nofun fun{X} B T=>(B.cK 0 rfl (.inl rfl))) (gu B T nofun nofun fun{X} B T=>i7) (gv B T nofun nofun fun{X} B T=>(bZ rfl nofun (C3 T) b8 (B.room.mono (by decide)) (B.gl _ rfl) T.xU T.mK.kp T.kY (aj rfl (B.ag (B.jv 0 rfl (.inl rfl) m5) ak) (aj rfl (B.jv 1 rfl (.inr (.inr rfl)) U2) av)))))) (Wu (n:="ends") (P5 (X:=nV X "ends") T (B.nV nofun) ⟨hF.st,hF.fr,hF.ex⟩ aF Wv he hc))))
theorem RR(T:Tx K mg):bT P w K mg base (bp P w) 7 T.a_threaded T.mQ ["blocks"] (b7 K mg 1 (fM mO 8 1)):=Ww (L:=iA bS) (cn:="ends") rfl rfl T.mR RQ (fun L0 _ _=>by refine⟨_,rfl,?_,rfl⟩;repeat (first | exact abZ _ | apply afJ)) fun{X} h1 h2 h3 h4 h5 B hF aF he hc=>by subst h3 h4;exact QD T B hF aF he hc
theorem My:cu ["end"] ["end"] (af jA):=⟨rfl,rfl,rfl,nofun,rfl,nofun,nofun⟩
theorem Lh(T:Tx X.K X.mg)(B:Bd X ["end"] (af jA) 0)(hF:cU X)(aF:X.env.scope=af jA):JB X (aY jA) ka:=
 have v0 {p:Pos}:JE X (.Name "end" p) (aa 0):=B.jv 0 rfl KD ny
 (aJ (bH (aU B.eq (B.ag v0 ak) aS) (aM (bo (B.ag v0 ak))) cb) (aJ (bH (aU B.eq (B.ag v0 ak) aS) (aM (bo (B.ag v0 ak))) cb) (aM (bo nh))))
theorem xD(T:Tx K mg):bT P w K mg base (bp P w) 1 T.a_straight_behind T.tQ ["end"] (b7 K mg 1 (fM ka 1 1)):=du rfl rfl T.kQ My fun{X} h1 h2 h3 h4 h5 B hF aF=>by subst h3 h4;exact Lh T B hF aF
theorem Pa:cu ["end","places","rows"] ["end","places"] (af gg):=⟨rfl,rfl,rfl,nofun,rfl,nofun,nofun⟩
theorem M1(T:Tx X.K X.mg)(B:Bd X ["end","places","rows"] (af gg) 1)(hF:cU X)(aF:X.env.scope=af gg):JB X (aY gg) mw:=
 have v0 {p:Pos}:JE X (.Name "end" p) (aa 0):=B.jv 0 rfl L9 ny;have v1 {p:Pos}:JE X (.Name "places" p) (aa 1):=B.jv 1 rfl Ma qS;have v2 {p:Pos}:JE X (.Name "rows" p) (aa 2):=B.jv 2 rfl Mb y9
 (aJ (B.a8 2 rfl Mc rfl (de av)) (aJ (bH (aU B.eq (B.ag v0 ak) aS) (aM (fR rfl (dw rfl rfl acz acT acU iT gm jE v2 (aj rfl (cH (aj rfl aS (aj rfl (B.ag v0 ak) (aj rfl (B.ag v0 ak) av)))) av)))) cb) (aJ (bH (aU B.eq (B.ag v0 ak) aS) (aM (fR rfl (dw rfl rfl acz acT acU iT gm jE v2 (aj rfl v0 av)))) (aM (bH (aU (B.p7 (by with_unfolding_all rfl)) (bZ rfl nofun (xD T) b8 (B.room.mono (by decide)) (B.gl _ B3) T.tR T.kQ.kp T.ka (aj rfl v0 av)) v1) (aM (fR rfl (dw rfl rfl acz acT acU iT gm jE v2 (aj rfl (cH (aj rfl aS (aj rfl (bZ rfl nofun (xD T) b8 (B.room.mono (by decide)) (B.gl _ B3) T.tR T.kQ.kp T.ka (aj rfl v0 av)) av))) av)))) cb))) (aM (bo v2)))))
theorem Pb(T:Tx K mg):bT P w K mg base (bp P w) 2 T.a_rows_for_end T.ut ["end","places"] (b7 K mg 2 (fM mw 3 2)):=du rfl rfl T.oQ Pa fun{X} h1 h2 h3 h4 h5 B hF aF=>by subst h3 h4;exact M1 T B hF aF
theorem M2:cu ["blocks","places","number"] ["blocks","places"] (af fP):=⟨rfl,rfl,rfl,nofun,rfl,nofun,nofun⟩
theorem LV(T:Tx X.K X.mg)(B:Bd X ["blocks","places","number"] (af fP) 0)(hF:cU X)(aF:X.env.scope=af fP):JB X (aY fP) mj:=
 have v0 {p:Pos}:JE X (.Name "blocks" p) (aa 0):=B.jv 0 rfl KZ mU;have v1 {p:Pos}:JE X (.Name "places" p) (aa 1):=B.jv 1 rfl K0 qS;have v2 {p:Pos}:JE X (.Name "number" p) (aa 2):=B.jv 2 rfl K6 jH
 (aJ (B.gR (ia (B.gl _ Kp) T.gK rfl (aj rfl (gL rfl nofun nofun iU iZ (B.gl _ KG) T.ip adt (aj rfl v0 av)) av)) (B.cK 2 rfl K7) (aM (bH (aU (B.rM (by with_unfolding_all rfl)) v2 v1) (aM (bo v2)) cb))) (aM (bo nh)))
theorem M3(T:Tx K mg):bT P w K mg base (bp P w) 1 T.a_least_not_laid T.tZ ["blocks","places"] (b7 K mg 2 (fM mj 3 2)):=du rfl rfl T.oJ M2 fun{X} h1 h2 h3 h4 h5 B hF aF=>by subst h3 h4;exact LV T B hF aF
theorem RS:cu ["row","places"] ["row","places"] (af iS):=⟨rfl,rfl,rfl,nofun,rfl,nofun,nofun⟩
theorem QE(T:Tx X.K X.mg)(B:Bd X ["row","places"] (af iS) 0)(hF:cU X)(aF:X.env.scope=af iS):JB X (aY iS) mP:=
 have v0 {p:Pos}:JE X (.Name "row" p) (aa 0):=B.jv 0 rfl PY Gj;have v1 {p:Pos}:JE X (.Name "places" p) (aa 1):=B.jv 1 rfl PZ qS
 (aJ (bH (aU B.eq (B.ag v0 ak) aS) (aM (bo (cH (aj rfl aS (aj rfl (B.ag v1 (B.ag v0 ak)) av))))) cb) (aJ (bH (aU B.eq (B.ag v0 ak) aS) (aM (bo (cH (aj rfl aS (aj rfl (B.ag v0 ak) (aj rfl (B.ag v1 (B.ag v0 ak)) av)))))) cb) (aM (bo v0))))
theorem RT(T:Tx K mg):bT P w K mg base (bp P w) 1 T.a_by_place T.u1 ["row","places"] (b7 K mg 2 (fM mP 2 2)):=du rfl rfl T.oX RS fun{X} h1 h2 h3 h4 h5 B hF aF=>by subst h3 h4;exact QE T B hF aF
theorem WB:cu ["blocks","places","rows","number","end"] ["blocks"] (af dF):=⟨rfl,rfl,rfl,nofun,rfl,nofun,nofun⟩
theorem T6(T:Tx X.K X.mg)(B:Bd X ["blocks","places","rows","number","end"] (af dF) 2)(hF:cU X)(aF:X.env.scope=af dF):JB X (aY dF) nv:=
 have v0 {p:Pos}:JE X (.Name "blocks" p) (aa 0):=B.jv 0 rfl SD mU;have v1 {p:Pos}:JE X (.Name "places" p) (aa 1):=B.jv 1 rfl SE qS;have v2 {p:Pos}:JE X (.Name "rows" p) (aa 2):=B.jv 2 rfl SG y9;have v3 {p:Pos}:JE X (.Name "number" p) (aa 3):=B.jv 3 rfl SI jH;have v4 {p:Pos}:JE X (.Name "end" p) (aa 4):=B.jv 4 rfl SJ ny
 (aJ (B.a8 1 rfl SF rfl nu) (aJ (B.a8 2 rfl SH rfl (de av)) (aJ (B.a8 3 rfl yg rfl ak) (aJ (B.zl (aU YE v3 nh) (aJ (i6 (gL rfl nofun nofun iU iZ (B.gl _ RL) T.ip adt (aj rfl v2 av)) (B.iX v1 v3)) (aJ (B.a8 4 rfl SK rfl (B.ag (B.ag v0 v3) ak)) (aJ (fR rfl (dw rfl rfl acz aeO aeP yi gm yk v2 (aj rfl (B.ag (B.ag v0 v3) ak) av))) (aJ (fR rfl (dw rfl rfl acz aeO aeP yi gm yk v2 (aj rfl (bZ rfl nofun (Pb T) b8 (B.room.mono (by decide)) (B.gl _ K8) T.CF T.oQ.kp T.mw (aj rfl v4 (aj rfl v1 av))) av))) (aJ (B.a8 3 rfl yg rfl (bZ rfl nofun (xD T) b8 (B.room.mono (by decide)) (B.gl _ Kq) T.tR T.kQ.kp T.ka (aj rfl v4 av))) (aM (bH (fI (kj (aU GP v3 nh) (fD (aU (B.p7 (by with_unfolding_all rfl)) v3 v1)))) (aM (B.a8 3 rfl yg rfl (bZ rfl nofun (M3 T) b8 (B.room.mono (by decide)) (B.gl _ Ku) T.Ck T.oJ.kp T.mj (aj rfl v0 (aj rfl v1 av))))) cb)))))))) (aM (bo (k8 B.calm (N':=["row","places"]) (Bd.cap B.hN aF nofun) (gJ v2) (gr B T nofun nofun fun{X} B T=>(B.cK 0 rfl (.inl rfl))) (gu B T nofun nofun fun{X} B T=>i7) (gv B T nofun nofun fun{X} B T=>(bZ rfl nofun (RT T) b8 (B.room.mono (by decide)) (B.gl _ rfl) T.Dt T.oX.kp T.mP (aj rfl (B.jv 0 rfl (.inl rfl) Gj) (aj rfl (B.jv 1 rfl (.inr (.inr rfl)) qS) av)))))))))))
theorem WC(T:Tx K mg):bT P w K mg base (bp P w) 3 T.a_laid T.vT ["blocks"] (b7 K mg 1 (fM nv 5 1)):=du rfl rfl T.pC WB fun{X} h1 h2 h3 h4 h5 B hF aF=>by subst h3 h4;exact T6 T B hF aF
theorem M4:cu ["_law_rows","_law_place","_law_row"] ["_law_rows"] (af fC):=⟨rfl,rfl,rfl,nofun,rfl,nofun,nofun⟩
theorem LW(T:Tx X.K X.mg)(B:Bd X ["_law_rows","_law_place","_law_row"] (af fC) 0)(hF:cU X)(aF:X.env.scope=af fC):JB X (aY fC) mm:=
 have v0 {p:Pos}:JE X (.Name "_law_rows" p) (aa 0):=B.jv 0 rfl K9 uR;have v1 {p:Pos}:JE X (.Name "_law_place" p) (aa 1):=B.jv 1 rfl La C2;have v2 {p:Pos}:JE X (.Name "_law_row" p) (aa 2):=B.jv 2 rfl Lc u4
 (aJ (bH (fI (kj (aU B.eq v0 (de av)) (fD (aU (B.rM (by with_unfolding_all rfl)) (B.ag (B.ag v0 (nj ak)) ak) (cH (aj rfl aS (aj rfl aS av))))))) (aM (bo rL)) cb) (aJ (B.gR (ia (B.gl _ Kr) T.gK rfl (aj rfl (gL rfl nofun nofun iU iZ (B.gl _ B5) T.ip adt (aj rfl v0 av)) av)) (B.cK 1 rfl Lb) (aJ (B.a8 2 rfl Ld rfl (B.ag v0 v1)) (aM (bH (fI (kj (aU B.eq (B.ag v2 ak) aS) (fD (aU B.eq (B.ag v2 ak) aS)))) (aJ (bH (fI (kj (YF (UL Z8 pI (by with_unfolding_all rfl) ak (B.ag v2 (nj ak)) (gL rfl nofun nofun iU iZ (B.gl _ B5) T.ip adt (aj rfl v0 av)))) (fD (aU B.eq (B.ag (B.ag v0 (B.ag v2 (nj ak))) ak) aS)))) (aM (bo rL)) cb) (aM (bH (fI (i0 (aU B.eq (B.ag v2 ak) aS) (fD (aU B.eq (B.ag v2 (nj ak)) (dD v1 ak))))) (aM (bo rL)) cb))) cb)))) (aM (bo rL))))
theorem M5(T:Tx K mg):bT P w K mg base (bp P w) 1 T.a_law_jumps_good T.t4 ["_law_rows"] (b7 K mg 1 (fM mm 3 1)):=du rfl rfl T.oK M4 fun{X} h1 h2 h3 h4 h5 B hF aF=>by subst h3 h4;exact LW T B hF aF
theorem Pd:cu ["_law_rows","_law_inputs","_law_turns","_law_boxes","_law_slots","_law_told","_law_taken","_law_place","_law_step","_law_row"] ["_law_rows","_law_inputs","_law_turns"] (af cI):=⟨rfl,rfl,rfl,nofun,rfl,nofun,nofun⟩
theorem M6(T:Tx X.K X.mg)(B:Bd X ["_law_rows","_law_inputs","_law_turns","_law_boxes","_law_slots","_law_told","_law_taken","_law_place","_law_step","_law_row"] (af cI) 3)(hF:cU X)(aF:X.env.scope=af cI):JB X (aY cI) mB:=
 have v0 {p:Pos}:JE X (.Name "_law_rows" p) (aa 0):=B.jv 0 rfl Md uR;have v1 {p:Pos}:JE X (.Name "_law_inputs" p) (aa 1):=B.jv 1 rfl Me xN;have v2 {p:Pos}:JE X (.Name "_law_turns" p) (aa 2):=B.jv 2 rfl Mf C0;have v3 {p:Pos}:JE X (.Name "_law_boxes" p) (aa 3):=B.jv 3 rfl Mh mI;have v4 {p:Pos}:JE X (.Name "_law_slots" p) (aa 4):=B.jv 4 rfl Mj qK;have v5 {p:Pos}:JE X (.Name "_law_told" p) (aa 5):=B.jv 5 rfl Ml Di;have v6 {p:Pos}:JE X (.Name "_law_taken" p) (aa 6):=B.jv 6 rfl Mn C1;have v7 {p:Pos}:JE X (.Name "_law_place" p) (aa 7):=B.jv 7 rfl Mp C2;have v9 {p:Pos}:JE X (.Name "_law_row" p) (aa 9):=B.jv 9 rfl Mr u4
 (aJ (B.a8 3 rfl Mi rfl nu) (aJ (B.a8 4 rfl Mk rfl nu) (aJ (B.a8 5 rfl Mm rfl (de av)) (aJ (B.a8 6 rfl Cb rfl ak) (aJ (B.a8 7 rfl tJ rfl ak) (aJ (B.gR (ia (B.gl _ KH) T.gK rfl (aj rfl ak av)) (B.cK 8 rfl Mq) (aJ (B.a8 9 rfl Ms rfl (B.ag v0 v7)) (aJ (B.a8 7 rfl tJ rfl (dD v7 ak)) (aJ (bH (aU B.eq (B.ag v9 ak) aS) (aM (bo (cH (aj rfl aS (aj rfl v5 (aj rfl v6 av)))))) cb) (aJ (bH (fI (i0 (aU B.eq (B.ag v9 ak) aS) (fD (aU B.eq v2 ak)))) (aM (bo (cH (aj rfl aS (aj rfl v5 (aj rfl v6 av)))))) cb) (aJ (bH (fI (i0 (aU B.eq (B.ag v9 ak) aS) (i0 (aU B.eq (B.ag v9 ak) aS) (fD (aU B.eq (dw rfl rfl acQ acB acV (ja (fT B.room)) i9 jb v3 (aj rfl (B.ag v9 ak) (aj rfl ak av))) ak))))) (aM (bo (cH (aj rfl aS (aj rfl v5 (aj rfl v6 av)))))) cb) (aM (bH (aU B.eq (B.ag v9 ak) aS) (aM (B.a8 2 rfl Mg rfl (lh v2 ak))) (aM (bH (aU B.eq (B.ag v9 ak) aS) (aJ (i6 (B.ag (dD v1 (fS (de (aj rfl ak av)) (dD v6 ak))) v6) (B.iX v3 (B.ag v9 ak))) (aM (B.a8 6 rfl Cb rfl (dD v6 ak)))) (aM (bH (aU B.eq (B.ag v9 ak) aS) (aM (fR rfl (dw rfl rfl acz acT acU iT gm jE v5 (aj rfl (dw rfl rfl acQ acB acV (ja (fT B.room)) i9 jb v3 (aj rfl (B.ag v9 ak) (aj rfl ak av))) av)))) (aM (bH (aU B.eq (B.ag v9 ak) aS) (aM (B.a8 7 rfl tJ rfl (B.ag v9 ak))) (aM (bH (aU B.eq (B.ag v9 ak) aS) (aM (B.a8 7 rfl tJ rfl (B.ag (de (aj rfl v7 (aj rfl (B.ag v9 ak) av))) (nr rfl nofun nofun u6 vP (B.gl _ LQ) T.rS aeq (aj rfl (lj B.ne (dw rfl rfl acQ acB acV (ja (fT B.room)) i9 jb v3 (aj rfl (B.ag v9 ak) (aj rfl ak av))) ak) av))))) (aM (fR rfl (bZ rfl nofun (CI T) b8 (B.room.mono (by decide)) (B.gl _ Kk) T.xM T.mE.kp T.kU (aj rfl v9 (aj rfl v3 (aj rfl v4 av)))))))))))))))))))))) (aM (bo (cH (aj rfl aS (aj rfl v5 (aj rfl v6 av))))))))))))
theorem Pe(T:Tx K mg):bT P w K mg base (bp P w) 4 T.a_law_last_run T.uu ["_law_rows","_law_inputs","_law_turns"] (b7 K mg 3 (fM mB 10 3)):=du rfl rfl T.oR Pd fun{X} h1 h2 h3 h4 h5 B hF aF=>by subst h3 h4;exact M6 T B hF aF
theorem YY:cu ["_law_script","_law_many","_law_boxes","_law_old","_law_cell","_law_inputs","_law_due","_law_rows"] ["_law_script"] (af cw):=⟨rfl,rfl,rfl,nofun,rfl,nofun,nofun⟩
theorem U6(T:Tx X.K X.mg)(B:Bd X ["_law_script","_law_many","_law_boxes","_law_old","_law_cell","_law_inputs","_law_due","_law_rows"] (af cw) 7)(hF:cU X)(aF:X.env.scope=af cw):JB X (aY cw) pO:=
 have v0 {p:Pos}:JE X (.Name "_law_script" p) (aa 0):=B.jv 0 rfl TC uE;have v1 {p:Pos}:JE X (.Name "_law_many" p) (aa 1):=B.jv 1 rfl TF uQ;have v2 {p:Pos}:JE X (.Name "_law_boxes" p) (aa 2):=B.jv 2 rfl TJ mI;have v3 {p:Pos}:JE X (.Name "_law_old" p) (aa 3):=B.jv 3 rfl TN Sz;have v4 {p:Pos}:JE X (.Name "_law_cell" p) (aa 4):=B.jv 4 rfl TR uP;have v5 {p:Pos}:JE X (.Name "_law_inputs" p) (aa 5):=B.jv 5 rfl TV xN;have v6 {p:Pos}:JE X (.Name "_law_due" p) (aa 6):=B.jv 6 rfl TX SA;have v7 {p:Pos}:JE X (.Name "_law_rows" p) (aa 7):=B.jv 7 rfl TZ uR
 (aJ (B.a8 1 rfl TH rfl (dD ak (cO (bZ rfl nofun (oS T) b8 (B.room.mono (by decide)) (B.gl _ tK) T.mC T.iQ.kp T.h9 (aj rfl v0 (aj rfl ak av))) ak))) (aJ (B.a8 2 rfl TK rfl (dD ak (cO (bZ rfl nofun (oS T) b8 (B.room.mono (by decide)) (B.gl _ tK) T.mC T.iQ.kp T.h9 (aj rfl v0 (aj rfl ak av))) ak))) (aJ (B.a8 3 rfl TQ rfl (bZ rfl nofun (Oq T) b8 (B.room.mono (by decide)) (B.gl _ Le) T.Cw T.oN.kp T.mq (aj rfl v0 (aj rfl ak (aj rfl v1 (aj rfl v2 (aj rfl (dD ak (cO (ee (bZ rfl nofun (oS T) b8 (B.room.mono (by decide)) (B.gl _ tK) T.mC T.iQ.kp T.h9 (aj rfl v0 (aj rfl ak av))) ak) ak)) av))))))) (aJ (B.a8 4 rfl TU rfl (bZ rfl nofun (oS T) b8 (B.room.mono (by decide)) (B.gl _ tK) T.mC T.iQ.kp T.h9 (aj rfl v0 (aj rfl ak av)))) (aJ (pj (i:=5) (by rw[B.hN];exact B.nd) (by rw[B.hN];rfl) (by rw[aF];decide +kernel) B.calm (N':=["_law_k","_law_script"]) (Bd.cap B.hN aF nofun) (ia (B.gl _ Ri) T.gK rfl (aj rfl (cO v4 ak) av)) (gr B T nofun nofun fun{X} B T=>(B.cK 0 rfl (.inl rfl))) (gu B T nofun nofun fun{X} B T=>i7) (gv B T nofun nofun fun{X} B T=>(bZ rfl nofun (Cr T) b8 (B.room.mono (by decide)) (B.gl _ rfl) T.xJ T.ms.kp T.kS (aj rfl (bZ rfl nofun (oS T) b8 (B.room.mono (by decide)) (B.gl _ rfl) T.mC T.iQ.kp T.h9 (aj rfl (B.jv 1 rfl (.inr (.inr rfl)) uE) (aj rfl (dD ak (B.jv 0 rfl (.inl rfl) iV)) av))) av))) (oY (by rw[aF];rfl) (by rw[aF];decide +kernel) rfl nofun)) (aJ (B.a8 6 rfl TY rfl (bZ rfl nofun (Ov T) b8 (B.room.mono (by decide)) (B.gl _ Lf) T.Cy T.oO.kp T.mr (aj rfl v3 (aj rfl v5 (aj rfl (cO (ee v4 ak) ak) av))))) (aJ (B.a8 7 rfl T1 rfl (bZ rfl nofun (WC T) b8 (B.room.mono (by decide)) (B.gl _ RM) T.Gh T.pC.kp T.nv (aj rfl (bZ rfl nofun (RR T) b8 (B.room.mono (by decide)) (B.gl _ O4) T.Ds T.mR.kp T.mO (aj rfl (k8 B.calm (N':=["_law_some","_law_end"]) (Bd.cap B.hN aF nofun) (gJ v3) (gr B T nofun nofun fun{X} B T=>(zk B.calm (pe (B.cK 0 rfl (.inl rfl)) (pe (B.cK 1 rfl (.inl rfl)) yY)))) (gu B T nofun nofun fun{X} B T=>i7) (gv B T nofun nofun fun{X} B T=>(cH (aj rfl (nr rfl nofun nofun (Dp B.calm) EX (B.gl _ rfl) T.zu agc (aj rfl (B.jv 0 rfl (.inl rfl) xY) av)) (aj rfl (B.jv 1 rfl (.inl rfl) Dv) av))))) av)) av))) (aM (bo (zi (bZ rfl nofun (M5 T) b8 (B.room.mono (by decide)) (B.gl _ KI) T.Cm T.oK.kp T.mm (aj rfl v7 av)) (vQ (lj B.eq (bZ rfl nofun (Pe T) b8 (B.room.mono (by decide)) (B.gl _ LS) T.CG T.oR.kp T.mB (aj rfl v7 (aj rfl v5 (aj rfl (cO (ee v4 ak) ak) av)))) v6))))))))))))
theorem YZ(T:Tx K mg):bT P w K mg base (bp P w) 8 T.a_law T.vZ ["_law_script"] (b7 K mg 1 (fM pO 8 1)):=du rfl rfl T.rR YY fun{X} h1 h2 h3 h4 h5 B hF aF=>by subst h3 h4;exact U6 T B hF aF
end
theorem all_mk{l:agl}{w:World}{K:abW}{h:Heap}{mg:Str->Option Value}{fa:Addr}(KX:K.In h)(G:h.Ns ach mg)(hfa:mg "law"=some (.ref fa))
  {ux:Addr} {P6 P7:Option Addr} {P8:Array (Option Value)} {P9 Qa Qb Qc CJ Qd:Value}
  {t5:Addr} {Ow Ox:Option Addr} {Oy:Array (Option Value)} {Oz OA OB OC Ct OD:Value}
  {uF:Addr} {QF QG:Option Addr} {QH:Array (Option Value)} {QI QJ QK QL CP QM:Value}
  {uy:Addr} {Qe Qf:Option Addr} {Qg:Array (Option Value)} {Qh Qi Qj Qk CK Ql:Value}
  {uG:Addr} {QN QO:Option Addr} {QP:Array (Option Value)} {QQ QR QS QT CQ QU:Value}
  {t6:Addr} {OE OF:Option Addr} {OG:Array (Option Value)} {OH OI OJ OL Cu ON:Value}
  {u5:Addr} {SQ SR:Option Addr} {SS:Array (Option Value)} {SU SV SW SX Dx SY:Value}
  {uS:Addr} {RU RV:Option Addr} {RW:Array (Option Value)} {RX RY RZ R3 Dj R4:Value}
  {uz:Addr} {Qm Qn:Option Addr} {Qo:Array (Option Value)} {Qp Qq Qr Qs CL Qt:Value}
  {t7:Addr} {OO OP:Option Addr} {OQ:Array (Option Value)} {OR OS OT OU Cv OV:Value}
  {vg:Addr} {T7 T8:Option Addr} {T9:Array (Option Value)} {Ua Ub Uc Ud DX Ue:Value}
  {uM:Addr} {Rl Rm:Option Addr} {Rn:Array (Option Value)} {Ro Rp Rq Rr C4 Rt:Value}
  {tU:Addr} {M7 M8:Option Addr} {M9:Array (Option Value)} {Na Nb Nc Nf Cg Ng:Value}
  {uH:Addr} {QV QW:Option Addr} {QX:Array (Option Value)} {QY QZ Q0 Q2 CS Q3:Value}
  {vh:Addr} {Ug Uh:Option Addr} {Ui:Array (Option Value)} {Uj Uk Ul Um yu Uo:Value}
  {vD:Addr} {U7 U8:Option Addr} {U9:Array (Option Value)} {Va Vb Vc Vd Es Ve:Value}
  {tL:Addr} {Mz MA:Option Addr} {MB:Array (Option Value)} {MC MD ME MF Cc MG:Value}
  {uh:Addr} {Pf Ph:Option Addr} {Pj:Array (Option Value)} {Pk Pl Pm Pn Cz Pp:Value}
  {uT:Addr} {R5 R6:Option Addr} {R7:Array (Option Value)} {R8 R9 Sa Sb ya Sd:Value}
  {tN:Addr} {MH MI:Option Addr} {MJ:Array (Option Value)} {MK ML MM MN Cd MO:Value}
  {ui:Addr} {Pq Pr:Option Addr} {Pt:Array (Option Value)} {Pu Pw Px Py CA Pz:Value}
  {tV:Addr} {Nh Ni:Option Addr} {Nj:Array (Option Value)} {Nk Nl Nm Nn Ci Np:Value}
  {uU:Addr} {Se Sf:Option Addr} {Sg:Array (Option Value)} {Sh Si Sj Sk Dk Sl:Value}
  {vL:Addr} {WD WE:Option Addr} {WG:Array (Option Value)} {WH WI WJ WK Fq WL:Value}
  {tW:Addr} {Nq Nr:Option Addr} {Nt:Array (Option Value)} {Nu Nv Nw Nx Cj Ny:Value}
  {uj:Addr} {PB PC:Option Addr} {PD:Array (Option Value)} {PJ PK PL PM CB PN:Value}
  {zw:Addr} {Y0 Gk:Option Addr} {Y1:Array (Option Value)} {Y2 Gm Gn Gp zx Gq:Value}
  {qT mV:Addr} {yv:Obj}
  {qN mL:Addr} {yb:Obj}
  (a_law_cell_at:acp K ach "_law_cell_at"=some (some (.ref ux)))
  (l_law_cell_at:K.lookup ux=some ⟨P9,P6,.func (acw "_law_cell_at" "_law_cell_at" (cz hZ) (aY hZ) (af hZ) .none Qa Qb Qc P7 CJ Qd),P8⟩)
  (c_law_cell_at:acr K CJ "_law_cell_at"=true)
  (k_law_cell_at:acn K (.ref ux)=true)
  (a_law_number_by:acp K ach "_law_number_by"=some (some (.ref t5)))
  (l_law_number_by:K.lookup t5=some ⟨Oz,Ow,.func (acw "_law_number_by" "_law_number_by" (cz jC) (aY jC) (af jC) .none OA OB OC Ox Ct OD),Oy⟩)
  (c_law_number_by:acr K Ct "_law_number_by"=true)
  (k_law_number_by:acn K (.ref t5)=true)
  (a_law_row_by:acp K ach "_law_row_by"=some (some (.ref uF)))
  (l_law_row_by:K.lookup uF=some ⟨QI,QF,.func (acw "_law_row_by" "_law_row_by" (cz c7) (aY c7) (af c7) .none QJ QK QL QG CP QM),QH⟩)
  (c_law_row_by:acr K CP "_law_row_by"=true)
  (k_law_row_by:acn K (.ref uF)=true)
  (a_law_goal_by:acp K ach "_law_goal_by"=some (some (.ref uy)))
  (l_law_goal_by:K.lookup uy=some ⟨Qh,Qe,.func (acw "_law_goal_by" "_law_goal_by" (cz gh) (aY gh) (af gh) .none Qi Qj Qk Qf CK Ql),Qg⟩)
  (c_law_goal_by:acr K CK "_law_goal_by"=true)
  (k_law_goal_by:acn K (.ref uy)=true)
  (a_law_end_by:acp K ach "_law_end_by"=some (some (.ref uG)))
  (l_law_end_by:K.lookup uG=some ⟨QQ,QN,.func (acw "_law_end_by" "_law_end_by" (cz d8) (aY d8) (af d8) .none QR QS QT QO CQ QU),QP⟩)
  (c_law_end_by:acr K CQ "_law_end_by"=true)
  (k_law_end_by:acn K (.ref uG)=true)
  (a_law_blocks_by:acp K ach "_law_blocks_by"=some (some (.ref t6)))
  (l_law_blocks_by:K.lookup t6=some ⟨OH,OE,.func (acw "_law_blocks_by" "_law_blocks_by" (cz c6) (aY c6) (af c6) .none OI OJ OL OF Cu ON),OG⟩)
  (c_law_blocks_by:acr K Cu "_law_blocks_by"=true)
  (k_law_blocks_by:acn K (.ref t6)=true)
  (a_law_fit:acp K ach "_law_fit"=some (some (.ref u5)))
  (l_law_fit:K.lookup u5=some ⟨SU,SQ,.func (acw "_law_fit" "_law_fit" (cz jG) (aY jG) (af jG) .none SV SW SX SR Dx SY),SS⟩)
  (c_law_fit:acr K Dx "_law_fit"=true)
  (k_law_fit:acn K (.ref u5)=true)
  (a_law_deed:acp K ach "_law_deed"=some (some (.ref uS)))
  (l_law_deed:K.lookup uS=some ⟨RX,RU,.func (acw "_law_deed" "_law_deed" (cz gj) (aY gj) (af gj) .none RY RZ R3 RV Dj R4),RW⟩)
  (c_law_deed:acr K Dj "_law_deed"=true)
  (k_law_deed:acn K (.ref uS)=true)
  (a_law_box_row:acp K ach "_law_box_row"=some (some (.ref uz)))
  (l_law_box_row:K.lookup uz=some ⟨Qp,Qm,.func (acw "_law_box_row" "_law_box_row" (cz gI) (aY gI) (af gI) .none Qq Qr Qs Qn CL Qt),Qo⟩)
  (c_law_box_row:acr K CL "_law_box_row"=true)
  (k_law_box_row:acn K (.ref uz)=true)
  (a_law_boxed_run:acp K ach "_law_boxed_run"=some (some (.ref t7)))
  (l_law_boxed_run:K.lookup t7=some ⟨OR,OO,.func (acw "_law_boxed_run" "_law_boxed_run" (cz cG) (aY cG) (af cG) .none OS OT OU OP Cv OV),OQ⟩)
  (c_law_boxed_run:acr K Cv "_law_boxed_run"=true)
  (k_law_boxed_run:acn K (.ref t7)=true)
  (a_led_on:acp K ach "led_on"=some (some (.ref vg)))
  (l_led_on:K.lookup vg=some ⟨Ua,T7,.func (acw "led_on" "led_on" (cz eP) (aY eP) (af eP) .none Ub Uc Ud T8 DX Ue),T9⟩)
  (c_led_on:acr K DX "led_on"=true)
  (k_led_on:acn K (.ref vg)=true)
  (a_with_ways:acp K ach "with_ways"=some (some (.ref uM)))
  (l_with_ways:K.lookup uM=some ⟨Ro,Rl,.func (acw "with_ways" "with_ways" (cz iR) (aY iR) (af iR) .none Rp Rq Rr Rm C4 Rt),Rn⟩)
  (c_with_ways:acr K C4 "with_ways"=true)
  (k_with_ways:acn K (.ref uM)=true)
  (a_further_blocks:acp K ach "further_blocks"=some (some (.ref tU)))
  (l_further_blocks:K.lookup tU=some ⟨Na,M7,.func (acw "further_blocks" "further_blocks" (cz jB) (aY jB) (af jB) .none Nb Nc Nf M8 Cg Ng),M9⟩)
  (c_further_blocks:acr K Cg "further_blocks"=true)
  (k_further_blocks:acn K (.ref tU)=true)
  (a_found_from:acp K ach "found_from"=some (some (.ref uH)))
  (l_found_from:K.lookup uH=some ⟨QY,QV,.func (acw "found_from" "found_from" (cz dA) (aY dA) (af dA) .none QZ Q0 Q2 QW CS Q3),QX⟩)
  (c_found_from:acr K CS "found_from"=true)
  (k_found_from:acn K (.ref uH)=true)
  (a_aheads:acp K ach "aheads"=some (some (.ref vh)))
  (l_aheads:K.lookup vh=some ⟨Uj,Ug,.func (acw "aheads" "aheads" (cz ib) (aY ib) (af ib) .none Uk Ul Um Uh yu Uo),Ui⟩)
  (c_aheads:acr K yu "aheads"=true)
  (k_aheads:acn K (.ref vh)=true)
  (a_comes:acp K ach "comes"=some (some (.ref vD)))
  (l_comes:K.lookup vD=some ⟨Va,U7,.func (acw "comes" "comes" (cz fe) (aY fe) (af fe) .none Vb Vc Vd U8 Es Ve),U9⟩)
  (c_comes:acr K Es "comes"=true)
  (k_comes:acn K (.ref vD)=true)
  (a_standing_within:acp K ach "standing_within"=some (some (.ref tL)))
  (l_standing_within:K.lookup tL=some ⟨MC,Mz,.func (acw "standing_within" "standing_within" (cz eG) (aY eG) (af eG) .none MD ME MF MA Cc MG),MB⟩)
  (c_standing_within:acr K Cc "standing_within"=true)
  (k_standing_within:acn K (.ref tL)=true)
  (a_joined_block:acp K ach "joined_block"=some (some (.ref uh)))
  (l_joined_block:K.lookup uh=some ⟨Pk,Pf,.func (acw "joined_block" "joined_block" (cz eO) (aY eO) (af eO) .none Pl Pm Pn Ph Cz Pp),Pj⟩)
  (c_joined_block:acr K Cz "joined_block"=true)
  (k_joined_block:acn K (.ref uh)=true)
  (a_threaded:acp K ach "threaded"=some (some (.ref uT)))
  (l_threaded:K.lookup uT=some ⟨R8,R5,.func (acw "threaded" "threaded" (cz bS) (aY bS) (af bS) .none R9 Sa Sb R6 ya Sd),R7⟩)
  (c_threaded:acr K ya "threaded"=true)
  (k_threaded:acn K (.ref uT)=true)
  (a_straight_behind:acp K ach "straight_behind"=some (some (.ref tN)))
  (l_straight_behind:K.lookup tN=some ⟨MK,MH,.func (acw "straight_behind" "straight_behind" (cz jA) (aY jA) (af jA) .none ML MM MN MI Cd MO),MJ⟩)
  (c_straight_behind:acr K Cd "straight_behind"=true)
  (k_straight_behind:acn K (.ref tN)=true)
  (a_rows_for_end:acp K ach "rows_for_end"=some (some (.ref ui)))
  (l_rows_for_end:K.lookup ui=some ⟨Pu,Pq,.func (acw "rows_for_end" "rows_for_end" (cz gg) (aY gg) (af gg) .none Pw Px Py Pr CA Pz),Pt⟩)
  (c_rows_for_end:acr K CA "rows_for_end"=true)
  (k_rows_for_end:acn K (.ref ui)=true)
  (a_least_not_laid:acp K ach "least_not_laid"=some (some (.ref tV)))
  (l_least_not_laid:K.lookup tV=some ⟨Nk,Nh,.func (acw "least_not_laid" "least_not_laid" (cz fP) (aY fP) (af fP) .none Nl Nm Nn Ni Ci Np),Nj⟩)
  (c_least_not_laid:acr K Ci "least_not_laid"=true)
  (k_least_not_laid:acn K (.ref tV)=true)
  (a_by_place:acp K ach "by_place"=some (some (.ref uU)))
  (l_by_place:K.lookup uU=some ⟨Sh,Se,.func (acw "by_place" "by_place" (cz iS) (aY iS) (af iS) .none Si Sj Sk Sf Dk Sl),Sg⟩)
  (c_by_place:acr K Dk "by_place"=true)
  (k_by_place:acn K (.ref uU)=true)
  (a_laid:acp K ach "laid"=some (some (.ref vL)))
  (l_laid:K.lookup vL=some ⟨WH,WD,.func (acw "laid" "laid" (cz dF) (aY dF) (af dF) .none WI WJ WK WE Fq WL),WG⟩)
  (c_laid:acr K Fq "laid"=true)
  (k_laid:acn K (.ref vL)=true)
  (a_law_jumps_good:acp K ach "_law_jumps_good"=some (some (.ref tW)))
  (l_law_jumps_good:K.lookup tW=some ⟨Nu,Nq,.func (acw "_law_jumps_good" "_law_jumps_good" (cz fC) (aY fC) (af fC) .none Nv Nw Nx Nr Cj Ny),Nt⟩)
  (c_law_jumps_good:acr K Cj "_law_jumps_good"=true)
  (k_law_jumps_good:acn K (.ref tW)=true)
  (a_law_last_run:acp K ach "_law_last_run"=some (some (.ref uj)))
  (l_law_last_run:K.lookup uj=some ⟨PJ,PB,.func (acw "_law_last_run" "_law_last_run" (cz cI) (aY cI) (af cI) .none PK PL PM PC CB PN),PD⟩)
  (c_law_last_run:acr K CB "_law_last_run"=true)
  (k_law_last_run:acn K (.ref uj)=true)
  (a_law:acp K ach "law"=some (some (.ref zw)))
  (l_law:K.lookup zw=some ⟨Y2,Y0,.func (acw "law" "law" (cz cw) (aY cw) (af cw) .none Gm Gn Gp Gk zx Gq),Y1⟩)
  (c_law:acr K zx "law"=true)
  (k_law:acn K (.ref zw)=true)
  (w1_aheads:yu=.ref qT) (w2_aheads:K.lookup qT=some yv) (w3_aheads:iW yv=some mV) (w4_aheads:(qT==mV)=false)
  (w1_threaded:ya=.ref qN) (w2_threaded:K.lookup qN=some yb) (w3_threaded:iW yb=some mL) (w4_threaded:(qN==mL)=false)
  (w5_aheads:dP K=[(("aheads":Str),qT,mV),(("threaded":Str),qN,mL)])
  (w6:(mV==mL)=false)
  (z_dict:acp K ach "dict"=some none)
  (z_enumerate:acp K ach "enumerate"=some none)
  (z_int:acp K ach "int"=some none)
  (z_len:acp K ach "len"=some none)
  (z_list:acp K ach "list"=some none)
  (z_range:acp K ach "range"=some none)
  (z_sorted:acp K ach "sorted"=some none)
  : ∃fd:acP,(∀(s:acb) (v:Value),BindsTo s fd ⟨[v],[]⟩ [("_law_script",v)])/\∀base:Heap,K.In base->base.Ns ach mg->bT l.prog w K mg base (bp l.prog w) 8 fa fd ["_law_script"] (b7 K mg 1 rQ):=by
 have e:=hfa.symm.trans (acA KX G a_law);cases e;have iQ:=c8 (st:=hZ) l_law_cell_at c_law_cell_at k_law_cell_at;have ms:=c8 (st:=jC) l_law_number_by c_law_number_by k_law_number_by;have oU:=c8 (st:=c7) l_law_row_by c_law_row_by k_law_row_by;have mD:=c8 (st:=gh) l_law_goal_by c_law_goal_by k_law_goal_by;have oV:=c8 (st:=d8) l_law_end_by c_law_end_by k_law_end_by;have oN:=c8 (st:=c6) l_law_blocks_by c_law_blocks_by k_law_blocks_by;have mT:=c8 (st:=jG) l_law_fit c_law_fit k_law_fit;have oW:=c8 (st:=gj) l_law_deed c_law_deed k_law_deed;have mE:=c8 (st:=gI) l_law_box_row c_law_box_row k_law_box_row;have oO:=c8 (st:=cG) l_law_boxed_run c_law_boxed_run k_law_boxed_run;have pg:=c8 (st:=eP) l_led_on c_led_on k_led_on;have mK:=c8 (st:=iR) l_with_ways c_with_ways k_with_ways;have mn:=c8 (st:=jB) l_further_blocks c_further_blocks k_further_blocks;have mH:=c8 (st:=dA) l_found_from c_found_from k_found_from;have mZ:=c8 (st:=ib) l_aheads c_aheads k_aheads;have px:=c8 (st:=fe) l_comes c_comes k_comes;have oI:=c8 (st:=eG) l_standing_within c_standing_within k_standing_within;have oP:=c8 (st:=eO) l_joined_block c_joined_block k_joined_block;have mR:=c8 (st:=bS) l_threaded c_threaded k_threaded;have kQ:=c8 (st:=jA) l_straight_behind c_straight_behind k_straight_behind;have oQ:=c8 (st:=gg) l_rows_for_end c_rows_for_end k_rows_for_end;have oJ:=c8 (st:=fP) l_least_not_laid c_least_not_laid k_least_not_laid;have oX:=c8 (st:=iS) l_by_place c_by_place k_by_place;have pC:=c8 (st:=dF) l_laid c_laid k_laid;have oK:=c8 (st:=fC) l_law_jumps_good c_law_jumps_good k_law_jumps_good;have oR:=c8 (st:=cI) l_law_last_run c_law_last_run k_law_last_run;have rR:=c8 (st:=cw) l_law c_law k_law
 let T:Tx K mg:={
  a_law_cell_at:=ux,uB:=_,iQ:=iQ,mC:=acA KX G a_law_cell_at,h9:=iQ.binds (ps:=["_law_script","_law_k"]) (fun _ _ _ _ _ _ us hl=>by obtain⟨_,_,rfl⟩:=lI us hl;rfl),
  a_law_number_by:=t5,ud:=_,ms:=ms,xJ:=acA KX G a_law_number_by,kS:=ms.binds (ps:=["_law_cell"]) (fun _ _ _ _ _ _ us hl=>by obtain⟨_,rfl⟩:=iB us hl;rfl),
  a_law_row_by:=uF,uI:=_,oU:=oU,CV:=acA KX G a_law_row_by,mF:=oU.binds (ps:=["_law_cell","_law_boxes","_law_slots"]) (fun _ _ _ _ _ _ us hl=>by obtain⟨_,_,_,rfl⟩:=qd us hl;rfl),
  a_law_goal_by:=uy,uC:=_,mD:=mD,xK:=acA KX G a_law_goal_by,kT:=mD.binds (ps:=["_law_more","_law_block","_law_many","_law_turning"]) (fun _ _ _ _ _ _ us hl=>by obtain⟨_,_,_,_,rfl⟩:=Ax us hl;rfl),
  a_law_end_by:=uG,uJ:=_,oV:=oV,CW:=acA KX G a_law_end_by,mG:=oV.binds (ps:=["_law_cell","_law_block","_law_many","_law_turning","_law_boxes"]) (fun _ _ _ _ _ _ us hl=>by obtain⟨_,_,_,_,_,rfl⟩:=Io us hl;rfl),
  a_law_blocks_by:=t6,ue:=_,oN:=oN,Cw:=acA KX G a_law_blocks_by,mq:=oN.binds (ps:=["_law_script","_law_first","_law_many","_law_boxes","_law_slots"]) (fun _ _ _ _ _ _ us hl=>by obtain⟨_,_,_,_,_,rfl⟩:=Io us hl;rfl),
  a_law_fit:=u5,ve:=_,mT:=mT,yo:=acA KX G a_law_fit,k4:=mT.binds (ps:=["_law_number"]) (fun _ _ _ _ _ _ us hl=>by obtain⟨_,rfl⟩:=iB us hl;rfl),
  a_law_deed:=uS,uZ:=_,oW:=oW,Dr:=acA KX G a_law_deed,mN:=oW.binds (ps:=["_law_word","_law_one","_law_other"]) (fun _ _ _ _ _ _ us hl=>by obtain⟨_,_,_,rfl⟩:=qd us hl;rfl),
  a_law_box_row:=uz,uD:=_,mE:=mE,xM:=acA KX G a_law_box_row,kU:=mE.binds (ps:=["_law_row","_law_boxes","_law_slots"]) (fun _ _ _ _ _ _ us hl=>by obtain⟨_,_,_,rfl⟩:=qd us hl;rfl),
  a_law_boxed_run:=t7,ug:=_,oO:=oO,Cy:=acA KX G a_law_boxed_run,mr:=oO.binds (ps:=["_law_blocks","_law_inputs","_law_turns"]) (fun _ _ _ _ _ _ us hl=>by obtain⟨_,_,_,rfl⟩:=qd us hl;rfl),
  a_led_on:=vg,vC:=_,pg:=pg,Eo:=acA KX G a_led_on,mY:=pg.binds (ps:=["blocks","number"]) (fun _ _ _ _ _ _ us hl=>by obtain⟨_,_,rfl⟩:=lI us hl;rfl),
  a_with_ways:=uM,uO:=_,mK:=mK,xU:=acA KX G a_with_ways,kY:=mK.binds (ps:=["end","told"]) (fun _ _ _ _ _ _ us hl=>by obtain⟨_,_,rfl⟩:=lI us hl;rfl),
  a_further_blocks:=tU,tY:=_,mn:=mn,xG:=acA KX G a_further_blocks,kR:=mn.binds (ps:=["end"]) (fun _ _ _ _ _ _ us hl=>by obtain⟨_,rfl⟩:=iB us hl;rfl),
  a_found_from:=uH,uK:=_,mH:=mH,xR:=acA KX G a_found_from,kX:=mH.binds (ps:=["starts","further"]) (fun _ _ _ _ _ _ us hl=>by obtain⟨_,_,rfl⟩:=lI us hl;rfl),
  a_aheads:=vh,rg:=_,mZ:=mZ,Ep:=acA KX G a_aheads,Er:=mZ.binds (ps:=["ways"]) (fun _ _ _ _ _ _ us hl=>by obtain⟨_,rfl⟩:=iB us hl;rfl),
  a_comes:=vD,vK:=_,px:=px,Fn:=acA KX G a_comes,m8:=px.binds (ps:=["ways"]) (fun _ _ _ _ _ _ us hl=>by obtain⟨_,rfl⟩:=iB us hl;rfl),
  a_standing_within:=tL,tP:=_,oI:=oI,Ce:=acA KX G a_standing_within,mf:=oI.binds (ps:=["ends"]) (fun _ _ _ _ _ _ us hl=>by obtain⟨_,rfl⟩:=iB us hl;rfl),
  a_joined_block:=uh,ur:=_,oP:=oP,CD:=acA KX G a_joined_block,mv:=oP.binds (ps:=["blocks","ends","within","number"]) (fun _ _ _ _ _ _ us hl=>by obtain⟨_,_,_,_,rfl⟩:=Ax us hl;rfl),
  a_threaded:=uT,mQ:=_,mR:=mR,Ds:=acA KX G a_threaded,mO:=mR.binds (ps:=["blocks"]) (fun _ _ _ _ _ _ us hl=>by obtain⟨_,rfl⟩:=iB us hl;rfl),
  a_straight_behind:=tN,tQ:=_,kQ:=kQ,tR:=acA KX G a_straight_behind,ka:=kQ.binds (ps:=["end"]) (fun _ _ _ _ _ _ us hl=>by obtain⟨_,rfl⟩:=iB us hl;rfl),
  a_rows_for_end:=ui,ut:=_,oQ:=oQ,CF:=acA KX G a_rows_for_end,mw:=oQ.binds (ps:=["end","places"]) (fun _ _ _ _ _ _ us hl=>by obtain⟨_,_,rfl⟩:=lI us hl;rfl),
  a_least_not_laid:=tV,tZ:=_,oJ:=oJ,Ck:=acA KX G a_least_not_laid,mj:=oJ.binds (ps:=["blocks","places"]) (fun _ _ _ _ _ _ us hl=>by obtain⟨_,_,rfl⟩:=lI us hl;rfl),
  a_by_place:=uU,u1:=_,oX:=oX,Dt:=acA KX G a_by_place,mP:=oX.binds (ps:=["row","places"]) (fun _ _ _ _ _ _ us hl=>by obtain⟨_,_,rfl⟩:=lI us hl;rfl),
  a_laid:=vL,vT:=_,pC:=pC,Gh:=acA KX G a_laid,nv:=pC.binds (ps:=["blocks"]) (fun _ _ _ _ _ _ us hl=>by obtain⟨_,rfl⟩:=iB us hl;rfl),
  a_law_jumps_good:=tW,t4:=_,oK:=oK,Cm:=acA KX G a_law_jumps_good,mm:=oK.binds (ps:=["_law_rows"]) (fun _ _ _ _ _ _ us hl=>by obtain⟨_,rfl⟩:=iB us hl;rfl),
  a_law_last_run:=uj,uu:=_,oR:=oR,CG:=acA KX G a_law_last_run,mB:=oR.binds (ps:=["_law_rows","_law_inputs","_law_turns"]) (fun _ _ _ _ _ _ us hl=>by obtain⟨_,_,_,rfl⟩:=qd us hl;rfl),
  a_law:=fa,vZ:=_,rR:=rR,aam:=acA KX G a_law,pO:=rR.binds (ps:=["_law_script"]) (fun _ _ _ _ _ _ us hl=>by obtain⟨_,rfl⟩:=iB us hl;rfl),
  qQ:=qT,qR:=mV,yp:=yv,DR:=w1_aheads,DS:=w2_aheads,DT:=w3_aheads,DU:=(fun z=>absurd (z▸w4_aheads:(mV==mV)=false) (by simp)),
  DV:=(by rw[w5_aheads];exact adn),DW:=(fun p hp e=>by rw[w5_aheads] at hp;exact(acD.mp hp).elim (fun z=>by rw[z]) (fun z=>by rw[acG.mp z] at e;exact absurd ((beq_iff_eq ..).mpr e.symm) (by rw[w6];exact acF))),
  yq:=((Ei mZ a_aheads).trans rfl),
  qL:=qN,qM:=mL,xV:=yb,C7:=w1_threaded,C8:=w2_threaded,C9:=w3_threaded,Dd:=(fun z=>absurd (z▸w4_threaded:(mL==mL)=false) (by simp)),
  De:=(by rw[w5_aheads];exact acH _ adn),Df:=(fun p hp e=>by rw[w5_aheads] at hp;exact(acD.mp hp).elim (fun z=>by rw[z] at e;exact absurd ((beq_iff_eq ..).mpr e) (by rw[w6];exact acF)) (fun z=>by rw[acG.mp z])),
  xW:=((Ei mR a_threaded).trans rfl),
  Gi:=adG KX G z_dict,
  xX:=adG KX G z_enumerate,
  rS:=adG KX G z_int,
  ip:=adG KX G z_len,
  zu:=adG KX G z_list,
  gK:=adG KX G z_range,
  yN:=adG KX G z_sorted }
 exact⟨acw "law" "law" (cz cw) (aY cw) (af cw) .none Gm Gn Gp Gk zx Gq,fun s v=>.of_eq rfl,fun base _ _=>YZ T⟩
theorem Vf{l:agl}{q:adl}{loose:List Str}{XP:(Str->Option Value)->Heap->Prop}{YP:World->Heap->Prop}{d:DefRec}{K:Params->abW}(good:∀ns:List Int,ns.length<=63->∃ph',rQ [.fl (ns.map W.int)] []=.ok (.bl true) ph')(hn:l.most=some 63)(sy:d.params.defaults=[])
  (hY:∀(w:World) (h:Heap),YP w h->(K w.params).In h) (hK:∀w:World,agD (K w.params)=true) (hT:∀(w:World) (h:Heap),YP w h->∀p∈dP (K w.params),aeD h p.2.1 p.2.2/\h.get? p.2.2=some (adM #[]))
  (F:∀(w:World) (mg:Str->Option Value) (fa:Addr) (h:Heap),(K w.params).In h->h.Ns ach mg->mg d.name=some (.ref fa)->∃fd:acP,(∀(s:acb) (u:Value),BindsTo s fd ⟨[u],[]⟩ [("_law_script",u)])/\∀base:Heap,(K w.params).In base->base.Ns ach mg->bT l.prog w (K w.params) mg base (bp l.prog w) 8 fa fd ["_law_script"] (b7 (K w.params) mg 1 rQ)) :
  PySem.W.WalkO q loose XP YP l.row.toRowW d [] (fun f vs=>PySem.call f vs):=V7 8 good hn sy ⟨rfl,by decide,by decide⟩ hY hK hT F
open PySem L2
variable{α β:Type}{ph ph':PH}
theorem aw{m:Mo α}{f:α->Mo β}{a:α}{r:Out β}(h:m ph=.ok a ph')(k:f a ph'=r):au m f ph=r:=by
 unfold au;rw[h];exact k
variable{j:Nat}
theorem bW{l:List α}(h:j<l.length):∃x,l[j]? =some x:=⟨l[j],adH h⟩
theorem pD{a b:Int}(h1: -(2 ^ 64)<b)(h2:b<2 ^ 64):mulC a b=true:=by
 unfold mulC;rw[decide_eq_true h1,decide_eq_true h2];simp
theorem zy{a b:Int}(h1: -(2 ^ 64)<a)(h2:a<2 ^ 64):mulC a b=true:=by
 unfold mulC;rw[decide_eq_true h1,decide_eq_true h2];simp
theorem Ex.set{a b:PH}(h:Ex a b){i:Nat}(hi:a.length<=i)(o:PO):Ex a (b.set i o):=by
 obtain⟨m,rfl⟩:=h;exact⟨m.set (i-a.length) o,by rw[agm _ _ hi]⟩
variable{i:Nat}
theorem dg{o:PO}(h:i≠j):(ph.set i o)[j]? =ph[j]? :=adx h
theorem dQ{o o':PO}(h:ph[i]? =some o):(ph.set i o')[i]? =some o':=adg (abV.mp h).1
theorem je{o:PO}(h:ph[i]? =some o):i<ph.length:=(abV.mp h).1
variable{im:IM}{σ:aQ}{ph1:PH}{chk:PH->Bool}{r:Out Fl}
theorem ff{g:GM}{b:SM}{items:List W}(h:im σ ph=.ok (items,chk) ph1)(h2:dk chk g b items σ ph1=r):dM im g b σ ph=r:=by
 unfold dM;refine aw h ?_;exact h2
variable{σ1:aQ}
theorem lJ{a b:SM}{k:Fl->Mo W}{P:Out W->Prop}(h:a σ ph=.ok (.nx σ1) ph1)(h2:P (au (b σ1) k ph1)):P (au (ay a b σ) k ph):=by
 have e:au (ay a b σ) k ph=au (b σ1) k ph1:=by
  rw[pk,d9,bf h]
 rw[e];exact h2
def iw(l:List Nat):List W:=l.map fun x:Nat=>W.int x
theorem jd(l:List Nat):(iw l).length=l.length:=by simp[iw]
theorem Gr(l m:List Nat):iw (l++m)=iw l++iw m:=by simp[iw]
variable{l:List Nat}
theorem zA{w:W}(h:(iw l)[j]? =some w):∃x,l[j]? =some x/\w=.int x:=by
 unfold iw at h;rw[abY] at h;obtain⟨x,e,rfl⟩:=ace.mp h;exact⟨x,e,rfl⟩
theorem Hl{x:Nat}(h:l[j]? =some x):ck (iw l) (j:Int)=some (.int x):=by
 have:=(abV.mp h).1;rw[fc _ _ (by rw[jd];exact this)];unfold iw;rw[abY,h];rfl
def Wy(ph:PH)(i:Nat)(G:List (List Nat)):Prop:=∃rs:List Nat,ph[i]? =some (.lst (rs.map W.ref))/\rs.length=G.length/\∀(k r:Nat) g,rs[k]? =some r->G[k]? =some g->ph[r]? =some (.lst (iw g))
variable{G:List (List Nat)}
theorem Wy.mono(h:Wy ph i G)(x:Ex ph ph'):Wy ph' i G:=by
 obtain⟨rs,h1,h2,h3⟩:=h;exact⟨rs,x.get h1,h2,fun k r g a b=>x.get (h3 k r g a b)⟩
structure Ok(G:List (List Nat)):Prop where
 pos:0<G.length
 top:G.length<=61
 lt:∀g∈G,∀x∈g,x<G.length
 few:∀g∈G,g.length<=3
theorem WM(ns:List Int)(k:Nat)(ph:PH):fQ [.fl (ns.map W.int),.int k] ph=.ok (.int (ns.getD k 0)) ph:=by
 unfold fQ h9
 push_cast [abq]
 by_cases h:k<ns.length
 ·have e:ck (ns.map W.int) (k:Int)=some (.int (ns.getD k 0)):=by
   rw[fc _ _ (by simpa using h)];simp[h]
  rw[ixF e];simp[h,ax,dS,au]
 ·have e:ns.getD k 0=0:=by simp[Nat.le_of_not_lt h]
  simp[h,ax,dS,au,e]
theorem aan(ns:List Int)(k:Nat):fQ [.fl (ns.map W.int),.int k]=ax (.int (ns.getD k 0)):=funext fun ph=>WM ns k ph
structure Nd where
 k:Nat
 p:Option Nat
 d:Nat
def pw:Option Nat->W
 | none=>.aI
 | some q=>.int q
def dc(L:List Nd):List (W×W):=L.map fun x=>(W.int x.k,pw x.p)
abbrev ks(L:List Nd):List Nat:=L.map (·.k)
theorem Jy(L:List Nd)(k:Int):cZ (dc L) (.int k)=true:=by
 unfold cZ dc;rw[adE]
 left
 simp[pY,j7]
theorem WN(L:List Nd)(k:Nat):dh (dc L) (.int k)=(L.find? fun y=>decide (y.k=k)).map fun y=>pw y.p:=by
 unfold dh dc;rw[List.find?_map];rw[Option.map_map];have:((fun p:W×W=>decide (p.1=W.int k))∘fun x:Nd=>(W.int x.k,pw x.p))=fun y:Nd=>decide (y.k=k):=by
  funext y
  simp only[aeT];by_cases h:y.k=k
  ·simp[h]
  ·have h2:¬W.int y.k=W.int k:=fun z=>h (by have:=W.int.inj z;omega)
   simp[h,h2]
 rw[this];rfl
theorem aao(L:List Nd)(k:Nat):(dh (dc L) (.int k)).isSome=decide (k∈ks L):=by
 rw[WN,aec];by_cases h:k∈ks L
 ·obtain⟨x,hx,rfl⟩:=acq.mp h;rw[decide_eq_true h,afK];exact⟨x,hx,by simp⟩
 ·rw[decide_eq_false h];cases e:L.find? (fun y=>decide (y.k=k)) with
  | none=>rfl
  | some x=>
   have h1:=List.find?_some e;have h2:=aeE e;exact absurd (acq.mpr ⟨x,h2,by simpa using h1⟩) h
theorem Y3(L:List Nd)(x:Nd)(h:x.k∉ks L):dH (dc L) (.int x.k) (pw x.p)=dc (L++[x]):=by
 unfold dH;have:((dc L).any fun q=>decide (q.1=W.int x.k))=false:=by
  rw[afL];intro q hq;unfold dc at hq;obtain⟨r,hr,rfl⟩:=acq.mp hq;rw[decide_eq_true_eq];intro z;have:=W.int.inj z;exact h (acq.mpr ⟨r,hr,by omega⟩)
 rw[this];unfold dc;simp
structure Ba(G:List (List Nat))(L:List Nd):Prop where
 zero:L[0]? =some ⟨0,none,0⟩
 nd:(ks L).Nodup
 lt:∀x∈L,x.k<G.length
 jW:∀(i:Nat) (x:Nd),L[i]? =some x->i≠0->∃j y g,j<i/\L[j]? =some y/\x.p=some y.k/\x.d=y.d+1/\G[y.k]? =some g/\x.k∈g
 mono:∀(i j:Nat) (x y:Nd),i<=j->L[i]? =some x->L[j]? =some y->x.d<=y.d
structure Bf(G:List (List Nat))(L:List Nd)(c:Nat):Prop extends Ba G L where
 bound:∀t,L[c]? =some t->∀x∈L,x.d<=t.d+1
 closed:∀j y g,j<c->L[j]? =some y->G[y.k]? =some g->∀o∈g,∃x∈L,x.k=o/\x.d<=y.d+1
structure Bi(G:List (List Nat))(L:List Nd)(c:Nat)(t:Nd)(g:List Nat)(m:Nat):Prop extends Ba G L where
 at_:L[c]? =some t
 hg:G[t.k]? =some g
 bound:∀x∈L,x.d<=t.d+1
 closed:∀j y g,j<c->L[j]? =some y->G[y.k]? =some g->∀o∈g,∃x∈L,x.k=o/\x.d<=y.d+1
 part:∀o∈g.take m,o∈ks L
theorem Bf.start(G:List (List Nat))(h:0<G.length):Bf G [⟨0,none,0⟩] 0:=by
 have one:∀{i:Nat} {x:Nd},[(⟨0,none,0⟩:Nd)][i]? =some x->i=0/\x=⟨0,none,0⟩:=fun{i x} e=>by
  cases i with
  | zero=>cases e;exact⟨rfl,rfl⟩
  | succ i=>cases e
 refine⟨⟨rfl,by simp,fun x hx=>?_,fun i x e n=>absurd (one e).1 n,fun i j x y _ e1 e2=>?_⟩,fun t _ x hx=>?_,fun j y g hj=>absurd hj (agp _)⟩
 ·rw[acG.mp hx];exact h
 ·rw[(one e1).2,(one e2).2];exact abZ _
 ·rw[acG.mp hx];exact adI _
variable{L:List Nd}{t:Nd}{g:List Nat}
theorem Bf.enter{c:Nat}(b:Bf G L c)(h:L[c]? =some t)(hg:G[t.k]? =some g):Bi G L c t g 0:=
 ⟨b.toBa,h,hg,b.bound t h,b.closed,fun o ho=>by simp at ho⟩
theorem Bi.leave{c:Nat}(b:Bi G L c t g g.length):Bf G L (c+1):=by
 refine⟨b.toBa,fun t' e x hx=>?_,fun j y g' hj e hg o ho=>?_⟩
 ·have:=b.mono c (c+1) t t' (aeW _) b.at_ e;have:=b.bound x hx;omega
 ·by_cases hjc:j<c
  ·exact b.closed j y g' hjc e hg o ho
  ·have:j=c:=by omega
   subst this;rw[b.at_] at e;cases e;rw[b.hg] at hg;cases hg;obtain⟨x,hx,rfl⟩:=acq.mp (b.part o (by rw[aeH];exact ho));exact⟨x,hx,rfl,b.bound x hx⟩
variable{m o:Nat}
theorem Et{o':Nat}(e:g[m]? =some o)(h:o'∈g.take (m+1)):o'∈g.take m\/o'=o:=by
 rw[List.take_succ,e] at h
 rcases adb.mp h with z | z
 ·exact .inl z
 ·exact .inr (by simpa using z)
theorem Bi.skip{c:Nat}(b:Bi G L c t g m)(e:g[m]? =some o)(h:o∈ks L):Bi G L c t g (m+1):=
 ⟨b.toBa,b.at_,b.hg,b.bound,b.closed,fun o' ho=>(Et e ho).elim (b.part o') fun z=>z▸h⟩
theorem rA{x y:Nd}(h:(L++[x])[i]? =some y):L[i]? =some y\/(i=L.length/\y=x):=by
 by_cases hi:i<L.length
 ·rw[acE hi] at h;exact .inl h
 ·have:=(abV.mp h).1;simp at this;have:i=L.length:=by omega
  subst this;rw[afs] at h;cases h;exact .inr ⟨rfl,rfl⟩
theorem vM{x y:Nd}(h:L[i]? =some y):(L++[x])[i]? =some y:=by
 rw[acE (abV.mp h).1];exact h
theorem Bi.add{c:Nat}(b:Bi G L c t g m)(e:g[m]? =some o)(h:o∉ks L)(ho:o<G.length):Bi G (L++[⟨o,some t.k,t.d+1⟩]) c t g (m+1):=by
 have eZ:c<L.length:=(abV.mp b.at_).1;refine⟨⟨vM b.zero,?_,fun x hx=>?_,fun i x ei ni=>?_,fun i j x y hij e1 e2=>?_⟩,vM b.at_,b.hg,fun x hx=>?_,fun j y g' hj ej hg o' eB=>?_,fun o' eB=>?_⟩
 ·unfold ks;rw[adF,aeX];refine⟨b.nd,by simp,fun a ha c hc=>?_⟩;have:c=o:=by simpa using hc
  rintro rfl;exact h (this▸ha)
 ·rcases adb.mp hx with z | z
  ·exact b.lt x z
  ·rw[acG.mp z];exact ho
 ·rcases rA ei with z | ⟨rfl,rfl⟩
  ·obtain⟨j,y,g',h1,h2,h3⟩:=b.jW i x z ni;exact⟨j,y,g',h1,vM h2,h3⟩
  ·exact⟨c,t,g,eZ,vM b.at_,rfl,rfl,b.hg,acd e⟩
 ·rcases rA e1 with z1 | ⟨rfl,rfl⟩
  ·rcases rA e2 with z2 | ⟨rfl,rfl⟩
   ·exact b.mono i j x y hij z1 z2
   ·exact b.bound x (acd z1)
  ·rcases rA e2 with z2 | ⟨rfl,rfl⟩
   ·have:=(abV.mp z2).1;omega
   ·exact abZ _
 ·rcases adb.mp hx with z | z
  ·exact b.bound x z
  ·rw[acG.mp z];exact abZ _
 ·have iH:j<L.length:=by omega
  have ej':L[j]? =some y:=by
   rcases rA ej with z | ⟨z,_⟩
   ·exact z
   ·omega
  obtain⟨x,hx,h3⟩:=b.closed j y g' hj ej' hg o' eB;exact⟨x,adw _ hx,h3⟩
 ·unfold ks;rw[adF]
  rcases Et e eB with z | rfl
  ·exact adw _ (b.part o' z)
  ·exact acR _ (by simp)
theorem kb:∀{n:Nat} {S:List Nat},S.Nodup->(∀x∈S,x<n)->S.length<=n
 | 0,S,_,h=>by
  cases S with
  | nil=>simp
  | cons x S=>exact absurd (h x (by simp)) (by omega)
 | n+1,S,hd,h=>by
  by_cases hm:n∈S
  ·have:=kb (n:=n) (hd.erase n) fun x hx=>by
    have:=h x (hd.mem_erase_iff.mp hx).2;have:x≠n:=(hd.mem_erase_iff.mp hx).1;omega
   rw[List.length_erase_of_mem hm] at this;omega
  ·have:=kb (n:=n) hd fun x hx=>by
    have:=h x hx;have:x≠n:=fun z=>hm (z▸hx)
    omega
   omega
theorem Ba.len(b:Ba G L):L.length<=G.length:=by
 have:=kb b.nd (n:=G.length) fun x hx=>by obtain⟨y,hy,rfl⟩:=acq.mp hx;exact b.lt y hy
 simpa using this
theorem sq{a b:SM}(h:a σ ph=.ok (.nx σ1) ph1)(h2:b σ1 ph1=r):ay a b σ ph=r:=by
 rw[pk,bf h];exact h2
theorem bq{a b:SM}{k:Fl->Mo W}{r:Out W}(h:a σ ph=.ok (.nx σ1) ph1)(h2:au (b σ1) k ph1=r):au (ay a b σ) k ph=r:=lJ (P:=fun q=>q=r) h h2
theorem br{e:EM}{w:W}(h:e σ ph=.ok w ph1):au (aZ e σ) dS ph=.ok w ph1:=by
 rw[vJ,d9,bf h];rfl
theorem asg{e:EM}{w:W}(h:e σ ph=.ok w ph1):aE e (gN i) σ ph=.ok (.nx (σ.set i (some w))) ph1:=by
 rw[pq,bf h];rfl
theorem bK{t:TM}{a b:SM}(h:t σ ph=.ok true ph1)(h2:a σ ph1=r):aW t a b σ ph=r:=by
 rw[vR,bf h];exact h2
theorem az{t:TM}{a b:SM}(h:t σ ph=.ok false ph1)(h2:b σ ph1=r):aW t a b σ ph=r:=by
 rw[vR,bf h];exact h2
theorem retS{e:EM}{w:W}(h:e σ ph=.ok w ph1):aZ e σ ph=.ok (.rt w) ph1:=by
 rw[vJ,bf h];rfl
variable{ws:List W}
theorem sU{o:EM}{e:EM}{w:W}(ho:o σ=ax (.ref i))(Bz:∃og,ph[i]? =some (.lst og))(he:e σ ph=.ok w ph1)(hi:ph1[i]? =some (.lst ws))(hz:ws.length<1000000):da (bR b9 dt o (ae e ah)) σ ph=.ok (.nx σ) (ph1.set i (.lst (ws++[w]))):=by
 obtain⟨og,h0⟩:=Bz;rw[vw,pf,ho];rw[d9,k9,d9,bf (rp h0),d9,qX,d9,bf he];rw[rm,k9,k9,bf (uW hi (aca hz (by decide)) w)];rfl
theorem dN{a b:SM}{w:W}(h:a σ ph=.ok (.rt w) ph1):au (ay a b σ) dS ph=.ok w ph1:=by
 rw[pk,d9,bf h];rfl
variable{wi:Nat}
theorem Hm{b:Nat}(h:Wy ph wi G)(e:G[b]? =some g):∃r,(∀ph',Ex ph ph'->lift (ag (.ref wi) (.int b)) ph'=.ok (.ref r) ph')/\ph[r]? =some (.lst (iw g)):=by
 obtain⟨rs,h1,h2,h3⟩:=h;have hb:b<rs.length:=by rw[h2];exact(abV.mp e).1
 obtain⟨r,hr⟩:∃r,rs[b]? =some r:=bW hb;refine⟨r,fun ph' x=>ed (x.get h1) ?_,h3 b r g hr e⟩;rw[fc _ _ (by rw[abX];exact hb),abY,hr];rfl
structure Fd(ph H:PH)(di qi:Nat)(L:List Nd):Prop where
 ex:Ex ph H
 ld:ph.length<=di
 lq:ph.length<=qi
 ne:di≠qi
 d:H[di]? =some (.aD (dc L))
 q:H[qi]? =some (.lst (iw (ks L)))
variable{H:PH}{di qi:Nat}
theorem Fd.add(f:Fd ph H di qi L)(x:Nd):Fd ph ((H.set di (.aD (dc (L++[x])))).set qi (.lst (iw (ks (L++[x]))))) di qi (L++[x]):=by
 refine⟨Ex.set (Ex.set f.ex f.ld _) f.lq _,f.ld,f.lq,f.ne,?_,?_⟩
 ·rw[dg (aej f.ne)];exact dQ f.d
 ·exact dQ (by rw[dg f.ne];exact f.q)
theorem Ip{x:Nd}(f:Fd ph H di qi L)(hx:x.k∉ks L)(hl:L.length<100) :
  lift (pZ (.ref di) (.int x.k) (pw x.p)) H=.ok () (H.set di (.aD (dc (L++[x]))))/\lift (jQ (b9 (.ref qi))) (H.set di (.aD (dc (L++[x]))))=.ok () (H.set di (.aD (dc (L++[x])))) /\
   lift (dt (.ref qi) [.int x.k]) (H.set di (.aD (dc (L++[x]))))=.ok .aI ((H.set di (.aD (dc (L++[x])))).set qi (.lst (iw (ks (L++[x]))))):=by
 have h2:(H.set di (.aD (dc (L++[x]))))[qi]? =some (.lst (iw (ks L))):=by rw[dg f.ne];exact f.q
 refine⟨?_,rp h2,?_⟩
 ·rw[vB f.d (Jy L _) (by unfold dc;rw[abX];exact aca hl (by decide)),Y3 L x hx]
 ·rw[uW h2 (by rw[jd,abX];exact aca hl (by decide))];simp[ks,iw]
theorem zB(f:Fd ph H di qi L)(k:Nat):lift (ez (.int k) (.ref di)) H=.ok (.bl (!decide (k∈ks L))) H:=by
 rw[yJ f.d (Jy L _),aao]
variable{s0 s1 s4 s5:Option W}
theorem Y4{c:Nat}(f:Fd ph H di qi L)(b:Bi G L c t g m)(e:g[m]? =some o)(hG:Ok G)(ho:o<G.length) :
  ∃H' L',ua [s0,s1,some (.ref di),some (.ref qi),s4,s5,some (.int t.k),some (.int o)] H=.ok (.nx [s0,s1,some (.ref di),some (.ref qi),s4,s5,some (.int t.k),some (.int o)]) H'/\Fd ph H' di qi L'/\Bi G L' c t g (m+1)/\∀r,r≠di->r≠qi->H'[r]? =H[r]? :=by
 have hl:L.length<100:=by have:=b.len;have:=hG.top;omega
 unfold ua;by_cases h:o∈ks L
 ·refine⟨H,L,?_,f,b.skip e h,fun _ _ _=>rfl⟩;ac_nf;rw[bf (zB f o)];simp only[decide_eq_true h];ac_nf
 ·obtain⟨p1,p2,p3⟩:=Ip (x:=⟨o,some t.k,t.d+1⟩) f h hl
  dsimp only[pw] at p1 p3
  refine⟨_,_,?_,f.add ⟨o,some t.k,t.d+1⟩,b.add e h ho,fun r h1 h2=>by rw[dg (aej h2),dg (aej h1)]⟩;ac_nf;rw[bf (zB f o)];simp only[decide_eq_false h];ac_nf;rw[bf p1];ac_nf;rw[bf p2,bf p3];rfl
def wJ(ph:PH)(G:List (List Nat))(fw:W):Prop:=∀(s0 s2 s3 s4 s5 s7:Option W) (H:PH) (tk:Nat) (g:List Nat),Ex ph H->G[tk]? =some g →
 ∃r H1,rP "aheads" 1 (jk "aheads" l_aheads 1 (ae (aa 6) ah)) (jk "threaded" l_threaded 1 (ae (aa 6) ah)) [s0,some fw,s2,s3,s4,s5,some (.int tk),s7] H=.ok (.ref r) H1/\Ex H H1/\H1[r]? =some (.lst (iw g))/\(r<ph.length\/H.length<=r)
theorem S0(hw:Wy ph wi G):wJ ph G (.fn "aheads" [.ref wi]):=fun s0 s2 s3 s4 s5 s7 H tk g x hg=>by
 obtain⟨r,h,hr⟩:=Hm hw hg;refine⟨r,H,?_,Ex.refl _,x.get hr,.inl (je hr)⟩;show jk "aheads" l_aheads 1 (ae (aa 6) ah) [s0,some (.fn "aheads" [.ref wi]),s2,s3,s4,s5,some (.int tk),s7] H=_;have e2:l_aheads [some (.int tk),some (.ref wi)] H=.ok (.ref r) H:=by
  unfold l_aheads;ac_nf;exact h H x
 unfold jk;simp only[afV,afW,wH,if_true];ac_nf;unfold sL dm;simp only[e2]
variable{H1:PH}
theorem Fd.mono(f:Fd ph H di qi L)(x:Ex H H1):Fd ph H1 di qi L:=⟨f.ex.trans x,f.ld,f.lq,f.ne,x.get f.d,x.get f.q⟩
variable{s6 s7:Option W}
theorem Y5{fw:W}{c:Nat}(hw:wJ ph G fw)(hG:Ok G)(f:Fd ph H di qi L)(b:Bf G L c)(hc:L[c]? =some t) :
  ∃H' L' BA lZ,ub [s0,some fw,some (.ref di),some (.ref qi),s4,some (.int c),s6,s7] H =
   .ok (.nx [s0,some fw,some (.ref di),some (.ref qi),s4,some (.int ((c+1:Nat):Int)),BA,lZ]) H'/\Fd ph H' di qi L'/\Bf G L' (c+1)/\c<L'.length:=by
 have ht:t.k<G.length:=b.lt t (acd hc);obtain⟨g,hg⟩:∃g,G[t.k]? =some g:=bW ht;obtain⟨r,H1,hr,x1,sV,hro⟩:=hw s0 (some (.ref di)) (some (.ref qi)) s4 (some (.int ((c:Int)+1))) s7 H t.k g f.ex hg;have hq:ck (iw (ks L)) (c:Int)=some (.int t.k):=Hl (by unfold ks;rw[abY,hc];rfl);have oj:g∈G:=acd hg;have f1:=f.mono x1;have d1:=je f.d;have d2:=je f.q;have AR:r≠di/\r≠qi:=by have:=f.ld;have:=f.lq;omega
 obtain⟨ao,H',e,L',lZ,rfl,f',b',lQ⟩:=mX (chk:=fun p=>decide (p[r]? =some (.lst (iw g)))) (g:=gN 7) (b:=ua)
  (fun m σ H=>∃L' lZ,σ=[s0,some fw,some (.ref di),some (.ref qi),s4,some (.int ((c:Int)+1)),some (.int t.k),lZ]/\Fd ph H di qi L'/\Bi G L' c t g m/\H[r]? =some (.lst (iw g)))
  (iw g) [s0,some fw,some (.ref di),some (.ref qi),s4,some (.int ((c:Int)+1)),some (.int t.k),s7] H1
  (fun m σ H BB=>by obtain⟨_,_,_,_,_,q⟩:=BB;exact decide_eq_true q)
  (fun m x σ H hm BC=>by
   obtain⟨L',lZ,e,f,b,q⟩:=BC;subst e;obtain⟨o,ho,rfl⟩:=zA hm;obtain⟨H',L2,e1,f1,b1,q1⟩:=Y4 (s0:=s0) (s1:=some fw) (s4:=s4) (s5:=some (.int ((c:Int)+1))) f b ho hG (hG.lt g oj o (acd ho));exact⟨_,_,rfl,_,_,e1,_,.inl rfl,L2,_,rfl,f1,b1,by rw[q1 r AR.1 AR.2];exact q⟩)
  ⟨L,s7,rfl,f1,b.enter hc hg,sV⟩
 rw[jd] at b';refine⟨H',L',some (.int t.k),lZ,?_,f',b'.leave,(abV.mp b'.at_).1⟩;unfold ub;refine sq (σ1:=[s0,some fw,some (.ref di),some (.ref qi),s4,some (.int c),some (.int t.k),s7]) (asg (ed f.q hq)) (sq (σ1:=[s0,some fw,some (.ref di),some (.ref qi),s4,some (.int ((c:Int)+1)),some (.int t.k),s7]) rfl ?_);rw[ff (gk hr sV) e];rfl
def Found(ph:PH)(G:List (List Nat))(r:Out W):Prop:=∃di ph' L,r=.ok (.ref di) ph'/\Ex ph ph'/\ph'[di]? =some (.aD (dc L))/\Bf G L L.length
theorem Fs{fw:W}{si:Nat}(hw:wJ ph G fw)(hG:Ok G)(hs:ph[si]? =some (.lst [.int 0])):Found ph G (qJ [.ref si,fw] ph):=by
 unfold qJ kX;rw[lH];refine lJ (P:=Found ph G) (σ1:=[some (.ref si),some fw,some (.ref ph.length),none,none,none,none,none]) (ph1:=ph++[.aD []]) rfl ?_;refine lJ (σ1:=[some (.ref si),some fw,some (.ref ph.length),some (.ref (ph++[PO.aD []]).length),none,none,none,none]) (ph1:=ph++[.aD []]++[.lst []]) rfl ?_;have f0:Fd ph (ph++[.aD []]++[.lst []]) ph.length (ph++[PO.aD []]).length []:=⟨(Ex.one _ _).trans (Ex.one _ _),abZ _,by simp,by simp,(Ex.one _ _).get (bu _ _),bu _ _⟩
 generalize hqi:(ph++[PO.aD []]).length=qi at f0;generalize (ph++[.aD []]++[.lst []])=H0 at f0;have f1:=f0.add ⟨0,none,0⟩;obtain⟨p1,p2,p3⟩:=Ip (x:=⟨0,none,0⟩) f0 (by simp) (by simp)
 dsimp only[pw] at p1 p3
 rw[show((0:Nat):Int)=0 from rfl] at p1 p3;have qA:H0[si]? =some (.lst [.int 0]):=f0.ex.get hs;have e1:dk (fun p=>decide (p[si]? =some (.lst [W.int 0]))) (gN 4) xI [.int 0] [some (.ref si),some fw,some (.ref ph.length),some (.ref qi),none,none,none,none] H0 =
   .ok (.nx [some (.ref si),some fw,some (.ref ph.length),some (.ref qi),some (.int 0),none,none,none]) ((H0.set ph.length (.aD (dc ([]++[⟨0,none,0⟩])))).set qi (.lst (iw (ks ([]++[⟨0,none,0⟩]))))):=by
  unfold dk;simp only[qA,decide_true,if_true];unfold xI;have n0:=zB f0 0;rw[show((0:Nat):Int)=0 from rfl] at n0;ac_nf;rw[bf n0];ac_nf;simp only[afe,List.not_mem_nil,decide_false,Bool.not_false,if_true];rw[bf p1];ac_nf;rw[bf p2,bf p3];have Bg:=f1.ex.get hs;unfold dk;rw[if_pos (decide_eq_true Bg)]
 refine lJ (ff (gk rfl qA) e1) ?_;refine lJ (σ1:=[some (.ref si),some fw,some (.ref ph.length),some (.ref qi),some (.int 0),some (.int 0),none,none]) rfl ?_;generalize ((H0.set ph.length (.aD (dc ([]++[⟨0,none,0⟩])))).set qi (.lst (iw (ks ([]++[⟨0,none,0⟩])))))=H1 at f1;obtain⟨ao,H',e,L,s6,s7,c,rfl,f,b,eZ⟩:=yn (t:=eT (ab gC (aa 5) (bv cc (ae (aa 3) ah)))) (b:=ub)
  (fun k σ H=>∃L s6 s7 c,σ=[some (.ref si),some fw,some (.ref ph.length),some (.ref qi),some (.int 0),some (.int ((c:Nat):Int)),s6,s7]/\Fd ph H ph.length qi L/\Bf G L c/\k+c=G.length/\c<=L.length)
  (fun σ H=>∃L s6 s7 c,σ=[some (.ref si),some fw,some (.ref ph.length),some (.ref qi),some (.int 0),some (.int ((c:Nat):Int)),s6,s7]/\Fd ph H ph.length qi L/\Bf G L c/\c=L.length)
  (fun k σ H BD=>by
   obtain⟨L,s6,s7,c,e,f,b,hk,eZ⟩:=BD;subst e;have et:eT (ab gC (aa 5) (bv cc (ae (aa 3) ah))) [some (.ref si),some fw,some (.ref ph.length),some (.ref qi),some (.int 0),some (.int ((c:Nat):Int)),s6,s7] H=.ok (decide (c<L.length)) H:=by
    ac_nf
    rw[bf (lb f.q)];ac_nf;rw[jd,abX]
    congr 1
    simp
   by_cases h:c<L.length
   ·right
    obtain⟨t,ht⟩:∃t,L[c]? =some t:=bW h;obtain⟨H',L',BA,lZ,e1,f1,b1,sW⟩:=Y5 (s0:=some (.ref si)) (s4:=some (.int 0)) (s6:=s6) (s7:=s7) hw hG f b ht;have:=b.len;refine⟨H,by rw[et,decide_eq_true h],_,H',e1,_,.inl rfl,k-1,by omega,L',BA,lZ,c+1,rfl,f1,b1,by omega,sW⟩
   ·left
    exact⟨H,by rw[et,decide_eq_false h],L,s6,s7,c,rfl,f,b,by omega⟩)
  G.length _ H1 ⟨[]++[⟨0,none,0⟩],none,none,0,rfl,f1,Bf.start G hG.pos,by omega,adI _⟩
 refine lJ e ?_;exact⟨ph.length,H',L,rfl,f.ex,f.d,eZ▸b⟩
def qe(H:PH)(i lo hi:Nat)(e:Option (List W))(w:W):Prop:=match e with
 | none=>w=.aI
 | some c=>∃r,w=.ref r/\lo<=r/\r<hi/\r≠i/\H[r]? =some (.lst c)
structure TbW(H:PH)(i lo hi:Nat)(ws:List W)(E:List (Option (List W))):Prop where
 at_:H[i]? =some (.lst ws)
 len:ws.length=E.length
 li:lo<=i
 ih:i<hi
 ent:∀(k:Nat) w e,ws[k]? =some w->E[k]? =some e->qe H i lo hi e w
 inj:∀(k k' r:Nat),ws[k]? =some (.ref r)->ws[k']? =some (.ref r)->k=k'
def Tb(H:PH)(i lo hi:Nat)(E:List (Option (List W))):Prop:=∃ws,TbW H i lo hi ws E
variable{H':PH}{lo hi:Nat}
theorem qe.mono{Jz iM:Nat}{e:Option (List W)}{w:W}(h:qe H i lo hi e w)(k:∀j,lo<=j->j<hi->H'[j]? =H[j]?)(h1:Jz<=lo)(h2:hi<=iM):qe H' i Jz iM e w:=by
 cases e with
 | none=>exact h
 | some c=>obtain⟨r,e1,e2,e3,e4,e5⟩:=h;exact⟨r,e1,by omega,by omega,e4,by rw[k r e2 e3];exact e5⟩
theorem Tb.mono{H H':PH}{i lo hi:Nat}{E:List (Option (List W))}(t:Tb H i lo hi E)(k:∀j,lo<=j->j<hi->H'[j]? =H[j]?):Tb H' i lo hi E:=by
 obtain⟨ws,t⟩:=t;exact⟨ws,by rw[k i t.li t.ih];exact t.at_,t.len,t.li,t.ih,fun j w e a b=>(t.ent j w e a b).mono k (abZ _) (abZ _),t.inj⟩
theorem aap(x:Ex H H')(h:hi<=H.length):∀j,j<hi->H'[j]? =H[j]? :=fun j hj=>by
 obtain⟨m,rfl⟩:=x;rw[acE (by omega)]
theorem Tb.ex{E:List (Option (List W))}(t:Tb H i lo hi E)(x:Ex H H')(h:hi<=H.length):Tb H' i lo hi E:=t.mono fun j _ hj=>aap x h j hj
theorem Tb.put{E:List (Option (List W))}{c:List W}(t:Tb H i lo hi E)(h:E[k]? =some (some c)):∃r,lift (ag (.ref i) (.int k)) H=.ok (.ref r) H/\H[r]? =some (.lst c)/\lo<=r/\r<hi/\r≠i/\∀c',Tb (H.set r (.lst c')) i lo hi (E.set k (some c')):=by
 obtain⟨ws,t⟩:=t;have hk:k<ws.length:=by rw[t.len];exact(abV.mp h).1
 obtain⟨w,hw⟩:∃w,ws[k]? =some w:=bW hk;obtain⟨r,rfl,h1,h2,h3,h4⟩:=t.ent k w _ hw h;refine⟨r,ed t.at_ (by rw[fc _ _ hk];exact hw),h4,h1,h2,h3,fun c'=>⟨ws,by rw[dg h3];exact t.at_,by rw[adq];exact t.len,t.li,t.ih,fun j w' e a b=>?_,t.inj⟩⟩;by_cases hj:j=k
 ·subst hj;rw[hw] at a;cases a;rw[adg (by rw[<- t.len];exact hk)] at b;cases b;exact⟨r,rfl,h1,h2,h3,dQ h4⟩
 ·rw[adx (aej hj)] at b;have q:=t.ent j w' e a b;cases e with
  | none=>exact q
  | some c2=>
   obtain⟨r',rfl,q1,q2,q3,q4⟩:=q;refine⟨r',rfl,q1,q2,q3,?_⟩;rw[dg (fun z=>hj (t.inj j k r (by rw[z];exact a) hw))];exact q4
theorem ig{l:List α}{x y:α}(h:(l++[x])[i]? =some y):(i<l.length/\l[i]? =some y)\/(i=l.length/\y=x):=by
 by_cases hi:i<l.length
 ·rw[acE hi] at h;exact .inl ⟨hi,h⟩
 ·have:=(abV.mp h).1;simp at this;have:i=l.length:=by omega
  subst this;rw[afs] at h;cases h;exact .inr ⟨rfl,rfl⟩
theorem Ft(as:List α)(h:α->W){cap:List (Option Nat)}{g:GM}{e:EM}{ph0:PH}(sS:im σ ph0=.ok (as.map h,chk) ph)(sT:∀ph',Ex ph ph'->chk ph'=true)(hz:as.length<=1000)
  (P:Nat->Option (List W)->Prop) (S:aQ->Prop) (h0:S (gq cap σ))
  (step:∀j x,as[j]? =some x->∀σ H,S σ->Ex ph H->ph.length<H.length->∃σ1,g (h x) σ H=.ok σ1 H/\S σ1/\∃w H2 c,e σ1 H=.ok w H2/\Ex H H2/\P j c/\qe H2 ph.length H.length H2.length c w) :
  ∃ph' E,cB im cap g cJ e σ ph0=.ok (.ref ph.length) ph'/\Ex ph ph'/\E.length=as.length/\(∀j c,E[j]? =some c->P j c)/\Tb ph' ph.length ph.length ph'.length E:=by
 rw[yI,bf sS];obtain⟨nU,ao,ph',ec,hS,x1,x2,x3,x5,E,x6,x7,x4⟩:=u9 (chk:=chk) (g:=g) (c:=cJ) (e:=e) ph.length
  (fun k acc σ H=>S σ/\Ex ph H/\H[ph.length]? =some (.lst acc)/\acc.length=k/\(∀(a b r:Nat),acc[a]? =some (.ref r)->acc[b]? =some (.ref r)->a=b) /\
   ∃E:List (Option (List W)),E.length=k/\(∀(j:Nat) c,E[j]? =some c->P j c)/\∀(j:Nat) w c,acc[j]? =some w->E[j]? =some c->qe H ph.length ph.length H.length c w)
  (as.map h) 0 [] (gq cap σ) (ph++[.lst []]) (fun j acc σ H hI=>sT _ hI.2.1)
  (fun j y acc σ H hj hI=>by
   rw[acX] at hI ⊢;obtain⟨hS,x1,x2,x3,x5,E,x6,x7,x4⟩:=hI;rw[abY] at hj;obtain⟨x,hx,rfl⟩:=ace.mp hj;have iH:=(abV.mp hx).1;have gx:=je x2;obtain⟨σ1,e1,iJ,w,H2,c,e2,y1,hP,y2⟩:=step j x hx σ H hS x1 gx;have y1l:=y1.len;have old:∀k,ph.length<k->(H2.set ph.length (.lst (acc++[w])))[k]? =H2[k]? :=fun k hk=>dg (by omega)
   have fresh:∀{a r:Nat},acc[a]? =some (.ref r)->w=.ref r->False:=fun{a r} ha hw=>by
    have hal:=(abV.mp ha).1;obtain⟨ca,hca⟩:∃ca,E[a]? =some ca:=bW (by omega);have q:=x4 a _ ca ha hca;subst hw;cases ca with
    | none=>cases q
    | some c0=>
     obtain⟨r',q1,q2,q3,_⟩:=q;cases q1;cases c with
     | none=>cases y2
     | some c2=>
      obtain⟨r',z1,z2,_⟩:=y2;cases z1;omega
   refine⟨σ1,H,e1,true,H,rfl,.inr ⟨rfl,w,H2,e2,y1.get x2,aca (by omega:acc.length<1001) (by decide),iJ,Ex.set (x1.trans y1) (abZ _) _,dQ (y1.get x2),by simp[x3],fun a b r ha hb=>?_,E++[c],by simp[x6],fun i c' fJ=>?_,fun i w' c' BE fJ=>?_⟩⟩
   ·rcases ig ha with⟨_,sX⟩ | ⟨ha0,sX⟩
    ·rcases ig hb with⟨_,gD⟩ | ⟨qB,gD⟩
     ·exact x5 a b r sX gD
     ·exact(fresh sX gD.symm).elim
    ·rcases ig hb with⟨_,gD⟩ | ⟨qB,gD⟩
     ·exact(fresh gD sX.symm).elim
     ·rw[ha0,qB]
   ·rcases ig fJ with⟨_,z⟩ | ⟨z0,z⟩
    ·exact x7 i c' z
    ·rw[z,z0,x6];exact hP
   ·rw[adq]
    rcases ig BE with⟨hi,js⟩ | ⟨hi,js⟩
    ·rcases ig fJ with⟨_,sW⟩ | ⟨z,_⟩
     ·have q:=x4 i w' c' js sW;cases c' with
      | none=>exact q
      | some c0=>
       obtain⟨r,q1,q2,q3,q4,q5⟩:=q;refine⟨r,q1,q2,by omega,q4,?_⟩;rw[old r (by omega)];exact y1.get q5
     ·omega
    ·rcases ig fJ with⟨z,_⟩ | ⟨_,sW⟩
     ·omega
     ·rw[js,sW];cases c with
      | none=>exact y2
      | some c0=>
       obtain⟨r,q1,q2,q3,q4,q5⟩:=y2;exact⟨r,q1,by omega,q3,q4,by rw[old r (by omega)];exact q5⟩)
  ⟨h0,Ex.one _ _,bu _ _,rfl,fun a b r z=>by simp at z,[],rfl,fun j c z=>by simp at z,fun j w c z=>by simp at z⟩
 rw[acX,abX] at x3 x6;exact⟨ph',E,bf ec,x1,x6,x7,nU,x2,by rw[x3,x6],abZ _,je x2,x4,x5⟩
theorem Fu{m:Mo α}{a:α}(h:m ph=.ok a ph'):dm m ph=.ok a ph':=by
 unfold dm;rw[h]
theorem Vg(hw:Wy ph wi G)(hG:Ok G):Found ph G (yM [.ref wi] ph):=by
 show Found ph G (au (dm ((bI (ae (eC (.int (0))) ah)) [some (.ref wi)])) (fun w1=>dm (qJ [w1,.fn "aheads" [.ref wi]])) ph);have e1:dm ((bI (ae (eC (.int (0))) ah)) [some (.ref wi)]) ph=.ok (.ref ph.length) (ph++[.lst [.int 0]]):=rfl;rw[bf e1];obtain⟨di,ph',L,e,x,h1,h2⟩:=Fs (S0 (hw.mono (Ex.one ph (.lst [.int 0])))) hG (bu ph (.lst [.int 0]));exact⟨di,ph',L,Fu e,(Ex.one _ _).trans x,h1,h2⟩
theorem rB(n:Nat):dB 0 n=(acC n).map fun i:Nat=>W.int i:=by
 unfold dB;apply aeK;intro i _;simp
def iC(E:List (List Nat))(o b:Nat):List (List Nat):=match E[o]? with
 | some c=>E.set o (c++[b])
 | none=>E
def kx(E:List (List Nat))(b:Nat)(g:List Nat):List (List Nat):=g.foldl (fun E o=>iC E o b) E
def EE(E:List (List Nat)):List (Option (List W)):=E.map fun l=>some (iw l)
theorem Vh(E:List (List Nat))(o b:Nat):(iC E o b).length=E.length:=by
 unfold iC;split
 ·rw[adq]
 ·rfl
theorem zC{E:List (List Nat)}{c:List Nat}(h:E[k]? =some c):(EE E)[k]? =some (some (iw c)):=by
 unfold EE;rw[abY,h];rfl
def Sm(E:List (List Nat))(N:Nat):Prop:=∀l∈E,l.length<=N
theorem Sm.add{E:List (List Nat)}{N b:Nat}(h:Sm E N):Sm (iC E o b) (N+1):=fun l hl=>by
 unfold iC at hl;split at hl
 ·rename_i c hc
  rcases List.mem_or_eq_of_mem_set hl with z | z
  ·exact afJ (h l z)
  ·rw[z];have:=h c (acd hc);simp;omega
 ·exact afJ (h l hl)
theorem Y6{b:Nat}{E:List (List Nat)}{N:Nat}(t:Tb H i lo hi (EE E))(ho:o<E.length)(hN:Sm E N)(hN2:N<1000)(x:Ex ph H)(hl:ph.length<=lo):∃r H',lift (ag (.ref i) (.int o)) H=.ok (.ref r) H/\lift (jQ (b9 (.ref r))) H=.ok () H/\lift (dt (.ref r) [.int b]) H=.ok .aI H' /\
  Tb H' i lo hi (EE (iC E o b))/\Ex ph H'/\H'.length=H.length/\∀j,(j<lo\/hi<=j)->H'[j]? =H[j]? :=by
 obtain⟨c,hc⟩:∃c,E[o]? =some c:=bW ho;obtain⟨r,h1,h2,h3,h4,h5,h6⟩:=t.put (zC hc);have hz:=hN c (acd hc);refine⟨r,_,h1,rp h2,uW h2 (by rw[jd];exact aca (by omega:c.length<1000) (by decide)) _,?_,Ex.set x (by omega) _,by rw[adq],fun j hj=>dg (by omega)⟩;have:=h6 (iw (c++[b]));rw[Gr] at this;unfold iC;simp only[hc];unfold EE at this ⊢;rw[List.map_set,Gr];exact this
def up(L:List Nat)(n:Nat):List Nat:=(acC n).filter fun k=>decide (k∈L)
variable{n:Nat}
theorem Y7{L:List Nat}(hn:L.Nodup)(hl:∀x∈L,x<n):lG (L.map fun k:Nat=>(k:Int))=(up L n).map fun k:Nat=>(k:Int):=by
 refine(y3 (List.Perm.map _ ?_) ?_).symm
 ·refine(List.perm_ext_iff_of_nodup (aez _ List.nodup_range) hn).mpr fun a=>?_
  rw[adu,ade,decide_eq_true_eq];exact⟨fun h=>h.2,fun h=>⟨hl a h,h⟩⟩
 ·exact agV _ (fun a b h=>by omega) (aez _ List.pairwise_lt_range)
theorem Gs(b:Ba G L)(hG:Ok G)(hd:H[di]? =some (.aD (dc L))):lift (nH [.ref di]) H=.ok (.ref H.length) (H++[.lst (iw (up (ks L) G.length))]):=by
 have h1:pM (dc L)=some (L.map fun x=>W.int x.k):=by
  unfold pM;have:((dc L).all fun p=> !j7 p.1)=true:=by
   rw[adk];intro p hp;unfold dc at hp;obtain⟨x,_,rfl⟩:=acq.mp hp;rfl
  rw[if_pos this];unfold dc;rw[adi];rfl
 have h2:bD p8 (L.map fun x=>W.int x.k)=some (L.map fun x=>(x.k:Int)):=k7 p8 (fun x:Nd=>W.int x.k) (fun x:Nd=>(x.k:Int)) (fun _=>rfl) L;have hl:=b.len;have ht:=hG.top;have h3:nH [.ref di] H=some (.ref H.length,H++[.lst (iw (up (ks L) G.length))]):=by
  unfold nH;simp only[nI hd,h1,ady,h2];rw[if_pos (by rw[abX];omega)];have e:(L.map fun x=>(x.k:Int))=(ks L).map fun k:Nat=>(k:Int):=by unfold ks;rw[adi];rfl
  rw[e,Y7 b.nd (fun x hx=>by obtain⟨y,hy,rfl⟩:=acq.mp hx;exact b.lt y hy)];unfold iw;rw[adi];rfl
 unfold lift;rw[h3]
theorem yw{l:List α}{o:α}(e:l[m]? =some o):l.take (m+1)=l.take m++[o]:=by
 rw[List.take_succ,e];rfl
def gc(G:List (List Nat))(b:Nat):List Nat:=G[b]?.getD []
def kn(G E:List (List Nat))(bs:List Nat):List (List Nat):=bs.foldl (fun E b=>kx E b (gc G b)) E
theorem Up(E:List (List Nat))(b o:Nat)(g:List Nat):kx E b (g++[o])=iC (kx E b g) o b:=by unfold kx;rw[List.foldl_append];rfl
theorem Eu(E:List (List Nat))(b:Nat):∀g:List Nat,(kx E b g).length=E.length:=by
 intro g
 induction g generalizing E with
 | nil=>rfl
 | cons o g ih=>exact(ih (iC E o b)).trans (Vh E o b)
theorem S1(G E:List (List Nat))(b:Nat)(bs:List Nat):kn G E (bs++[b])=kx (kn G E bs) b (gc G b):=by unfold kn;rw[List.foldl_append];rfl
theorem DY(G:List (List Nat)):∀(bs:List Nat) (E:List (List Nat)),(kn G E bs).length=E.length:=by
 intro bs
 induction bs with
 | nil=>intro E;rfl
 | cons b bs ih=>intro E;exact(ih _).trans (Eu E b _)
structure lK(ph H0 H:PH)(i lo hi:Nat)(E:List (List Nat))(N:Nat):Prop where
 t:Tb H i lo hi (EE E)
 sm:Sm E N
 ex:Ex ph H
 out:∀j,(j<lo\/hi<=j)->H[j]? =H0[j]?
 ln:H.length=H0.length
theorem lK.add{ph H0 H:PH}{i lo hi o b N:Nat}{E:List (List Nat)}(k:lK ph H0 H i lo hi E N)(ho:o<E.length)(hN:N<1000)(hl:ph.length<=lo):∃r H',lift (ag (.ref i) (.int o)) H=.ok (.ref r) H/\lift (jQ (b9 (.ref r))) H=.ok () H/\lift (dt (.ref r) [.int b]) H=.ok .aI H'/\lK ph H0 H' i lo hi (iC E o b) (N+1):=by
 obtain⟨r,H',h1,h2,h3,h4,h5,h6,h7⟩:=Y6 (b:=b) k.t ho k.sm hN k.ex hl;exact⟨r,H',h1,h2,h3,h4,k.sm.add,h5,fun j hj=>(h7 j hj).trans (k.out j hj),h6.trans k.ln⟩
theorem Y8{E:List (Option (List W))}(hl:E.length=n)(h:∀(j:Nat) c,E[j]? =some c->c=some []):E=EE (acf n []):=by
 apply aew
 intro j;unfold EE;rw[abY,aed];by_cases hj:j<n
 ·obtain⟨c,hc⟩:∃c,E[j]? =some c:=bW (by omega);rw[hc,h j c hc,if_pos hj];rfl
 ·rw[if_neg hj,acZ (by omega)];rfl
theorem WO{m:EM}(hw:Wy ph wi G)(hG:Ok G)(hm:m σ ph=.ok (.ref wi) ph):∃ph',cB (cY m) [none] (gN 0) cJ (bI ah) σ ph=.ok (.ref ph.length) ph'/\Ex ph ph'/\Tb ph' ph.length ph.length ph'.length (EE (acf G.length [])):=by
 obtain⟨rs,h1,h2,h3⟩:=hw;have ht:=hG.top;obtain⟨ph',E,e,x,hE,hP,t⟩:=Ft rs W.ref (cap:=[none]) (g:=gN 0) (e:=bI ah) (gk hm h1) (fun p x=>decide_eq_true (x.get h1)) (by omega) (fun _ c=>c=some []) (fun σ=>∃o,σ=[o]) ⟨none,rfl⟩
  (fun j r hj σ H hS y cE=>by
   obtain⟨o,rfl⟩:=hS;refine⟨_,rfl,⟨_,rfl⟩,.ref H.length,H++[.lst []],some [],rfl,Ex.one _ _,rfl,H.length,rfl,abZ _,by simp,by omega,bu _ _⟩)
 refine⟨ph',e,x,?_⟩;rw[<- Y8 (by rw[hE,h2]) hP];exact t
theorem Sm.rep(n:Nat):Sm (acf n []) 0:=fun l hl=>by rw[List.eq_of_mem_replicate hl];exact abZ _
variable{ti:Nat}{o3:Option W}
theorem Vi{H0:PH}{b N:Nat}{E:List (List Nat)}(hG:Ok G)(hw:Wy ph wi G)(hb:b<G.length)(k:lK ph H0 H ti lo hi E N)(hE:E.length=G.length)(hN:N+3<1000)(hl:ph.length<=lo) :
  ∃H' l5 N',uX [some (.ref wi),some (.ref ti),some (.int b),o3] H=.ok (.nx [some (.ref wi),some (.ref ti),some (.int b),l5]) H'/\N'<=N+3/\lK ph H0 H' ti lo hi (kx E b (gc G b)) N':=by
 obtain⟨g,hg⟩:∃g,G[b]? =some g:=bW hb;have jp:gc G b=g:=by unfold gc;rw[hg];rfl
 have oj:=acd hg;obtain⟨r,hr,sV⟩:=Hm hw hg;have hf:=hG.few g oj;obtain⟨ao,H',e,l5,rfl,k'⟩:=mX (chk:=fun p=>decide (p[r]? =some (.lst (iw g)))) (g:=gN 3) (b:=ye)
  (fun m σ H=>∃l5,σ=[some (.ref wi),some (.ref ti),some (.int b),l5]/\lK ph H0 H ti lo hi (kx E b (g.take m)) (N+m))
  (iw g) [some (.ref wi),some (.ref ti),some (.int b),o3] H (fun m σ H BB=>by obtain⟨_,_,k⟩:=BB;exact decide_eq_true (k.ex.get sV))
  (fun m x σ H hm BC=>by
   obtain⟨l5,e,k⟩:=BC;subst e;obtain⟨o,ho,rfl⟩:=zA hm;have hml:=(abV.mp ho).1;obtain⟨r2,H',h1,h2,h3,k'⟩:=k.add (o:=o) (b:=b) (by rw[Eu,hE];exact hG.lt g oj o (acd ho)) (by omega) hl;rw[<- Up,<- yw ho] at k';refine⟨_,_,rfl,.nx [some (.ref wi),some (.ref ti),some (.int b),some (.int o)],H',?_,_,.inl rfl,some (.int o),rfl,k'⟩;unfold ye;ac_nf;refine aw h1 (aw h2 (aw h3 ?_));rfl)
  ⟨o3,rfl,by rw[List.take_zero];exact k⟩
 rw[jd,aeH] at k';rw[jp];refine⟨H',l5,N+g.length,?_,by omega,k'⟩;unfold uX;rw[ff (gk (i:=r) (by
  rw[df];show lift (ag (.ref wi) (.int b)) H=_;exact hr H k.ex) (k.ex.get sV)) e]
theorem WP(hw:Wy ph wi G)(hG:Ok G):∃(i:Nat) (L:List Nd) (ph':PH),y8 [.ref wi] ph=.ok (.ref i) ph'/\Ex ph ph'/\Bf G L L.length/\Tb ph' i ph.length ph'.length (EE (kn G (acf G.length []) (up (ks L) G.length)))/\Sm (kn G (acf G.length []) (up (ks L) G.length)) 200:=by
 obtain⟨H1,e1,x1,t1⟩:=WO (m:=aa 0) (σ:=[some (.ref wi),none,none,none]) hw hG rfl;obtain⟨di,H2,L,e2,x2,hd,b⟩:=Vg (hw.mono x1) hG;have e3:=Gs b.toBa hG hd;have ht:=hG.top;generalize xj:up (ks L) G.length=bs at e3;have hbs:∀x∈bs,x<G.length:=fun x hx=>by
  rw[<- xj] at hx;unfold up at hx;exact ade.mp (adu.mp hx).1
 have BF:bs.length<=61:=by
  rw[<- xj];unfold up;have:=afh (fun k=>decide (k∈ks L)) (acC G.length);rw[acI] at this;omega
 have x3:Ex H2 (H2++[.lst (iw bs)]):=Ex.one _ _;have l1:=x1.len;have l2:=x2.len;have k0:lK ph (H2++[.lst (iw bs)]) (H2++[.lst (iw bs)]) ph.length ph.length H1.length (acf G.length []) 0:=
  ⟨(t1.ex x2 (abZ _)).ex x3 (by omega),Sm.rep _,(x1.trans x2).trans x3,fun _ _=>rfl,rfl⟩
 have hq:(H2++[PO.lst (iw bs)])[H2.length]? =some (.lst (iw bs)):=bu _ _;obtain⟨ao,H',e4,o2,o3,N,rfl,hN,k⟩:=mX (chk:=fun p=>decide (p[H2.length]? =some (.lst (iw bs)))) (g:=gN 2) (b:=uX)
  (fun j σ H=>∃o2 o3 N,σ=[some (.ref wi),some (.ref ph.length),o2,o3]/\N<=3*j/\lK ph (H2++[.lst (iw bs)]) H ph.length ph.length H1.length (kn G (acf G.length []) (bs.take j)) N)
  (iw bs) [some (.ref wi),some (.ref ph.length),none,none] (H2++[.lst (iw bs)])
  (fun j σ H BD=>by obtain⟨_,_,_,_,_,k⟩:=BD;exact decide_eq_true (by rw[k.out _ (.inr l2)];exact hq))
  (fun j x σ H hj zz4=>by
   obtain⟨o2,o3,N,e,hN,k⟩:=zz4;subst e;obtain⟨bb,hb,rfl⟩:=zA hj;have iH:=(abV.mp hb).1;obtain⟨H',l5,N',e,hN',k'⟩:=Vi (o3:=o3) hG hw (hbs bb (acd hb)) k (by rw[DY,afc]) (by omega) (abZ _);rw[<- S1,<- yw hb] at k';exact⟨_,_,rfl,_,_,e,_,.inl rfl,_,l5,N',rfl,by omega,k'⟩)
  ⟨none,none,0,rfl,abZ _,k0⟩
 rw[jd] at hN k;rw[aeH] at k;have kl:=k.ln;refine⟨ph.length,L,H',?_,k.ex,b,?_,fun l hl=>acl (k.sm l (by rw[<- xj];exact hl)) (by omega)⟩
 ·unfold y8 m8;rw[jl];refine lJ (P:=fun r=>r=.ok (.ref ph.length) H') (σ1:=[some (.ref wi),some (.ref ph.length),none,none]) (ph1:=H1) ?_ ?_
  ·exact(bf e1).trans rfl
  ·refine lJ (P:=fun r=>r=.ok (.ref ph.length) H') (ff (gk (i:=H2.length) ?_ hq) e4) rfl;ac_nf;refine aw e2 ?_;ac_nf;exact e3
 ·rw[xj];obtain⟨ws,t⟩:=k.t;have hh:H1.length<=H'.length:=by rw[kl];simp;omega
  exact⟨ws,t.at_,t.len,t.li,by have:=t.ih;omega,fun k w c hw hc=>(t.ent k w c hw hc).mono (fun _ _ _=>rfl) (abZ _) hh,t.inj⟩
inductive Wd where
 | sum | less | times | part | below | alike
inductive Row where
 | dY (a:Int) (w:Wd) (b c:Int)
 | put (a n:Int)
 | move (a b:Int)
 | pull (a b:Int)
 | push (a b:Int)
 | take (a:Int)
 | tell (a:Int)
 | turn
inductive En where
 | go (k:Nat)
 | iff (v:Int) (a b:Nat)
 | fin
structure bt where
 rs:List Row
 en:En
abbrev Dc:=List (Int×Int)
def gt(l:Dc)(k:Int):Int:=((l.find? fun p=>decide (p.1=k)).map (·.2)).getD 0
def pt(l:Dc)(k v:Int):Dc:=if l.any (fun p=>decide (p.1=k)) then l.map (fun p=>if p.1=k then(p.1,v) else p) else l++[(k,v)]
structure S where
 bx:Dc
 sl:Dc
 told:List Int
 tk:Nat
 tn:Int
abbrev Rs:=String×List Int×Nat
def S.by(s:S)(x:String):Rs:=(x,s.told,s.tk)
def lL(n:Int):Int:=n-(n+2147483648).fdiv 4294967296*4294967296
def dd:Wd->Int->Int->Int
 | .sum,a,b=>lL (a+b)
 | .less,a,b=>lL (a-b)
 | .times,a,b=>lL (a*b)
 | .part,a,b=>lL (a.fdiv b)
 | .below,a,b=>if a<b then 1 else 0
 | .alike,a,b=>if a=b then 1 else 0
def cM(I:List Int)(s:S):Row->Sum Rs S
 | .turn=>if s.tn=0 then .inl (s.by "dry") else .inr { s with tn:=s.tn-1 }
 | .dY a .part b c=>if gt s.bx c=0 then .inl (s.by "nought") else .inr { s with bx:=pt s.bx a (dd .part (gt s.bx b) (gt s.bx c)) }
 | .dY a w b c=>.inr { s with bx:=pt s.bx a (dd w (gt s.bx b) (gt s.bx c)) }
 | .put a n=>.inr { s with bx:=pt s.bx a n }
 | .move a b=>.inr { s with bx:=pt s.bx a (gt s.bx b) }
 | .pull a b=>.inr { s with bx:=pt s.bx a (gt s.sl b) }
 | .push a b=>.inr { s with sl:=pt s.sl a (gt s.bx b) }
 | .take a=>.inr { s with bx:=pt s.bx a (I.getD s.tk 0),tk:=s.tk+1 }
 | .tell a=>.inr { s with told:=s.told++[gt s.bx a] }
def cR(I:List Int):List Row->S->Sum Rs S
 | [],s=>.inr s
 | r::rs,s=>match cM I s r with
  | .inl x=>.inl x
  | .inr s=>cR I rs s
def eA(s:S):En->Option Nat
 | .go k=>some k
 | .iff v a b=>some (if gt s.bx v=0 then b else a)
 | .fin=>none
def run(I:List Int)(B:List bt):Nat->Nat->S->Rs
 | 0,_,s=>s.by "long"
 | f+1,k,s=>match B[k]? with
  | none=>s.by "long"
  | some b=>match cR I b.rs s with
   | .inl r=>r
   | .inr s=>match eA s b.en with
    | none=>s.by "done"
    | some k=>run I B f k s
def En.to:En->List Nat
 | .go k=>[k]
 | .iff _ a b=>[a,b]
 | .fin=>[]
def En.mp(h:Nat->Nat):En->En
 | .go k=>.go (h k)
 | .iff v a b=>.iff v (h a) (h b)
 | .fin=>.fin
theorem zD(s:S)(h:Nat->Nat)(e:En):eA s (e.mp h)=(eA s e).map h:=by
 cases e with
 | go k=>rfl
 | fin=>rfl
 | iff v a b=>
  simp only[eA,En.mp,acS];split <;> rfl
theorem Gu{s:S}{e:En}(h:eA s e=some k):k∈e.to:=by
 cases e with
 | go j=>cases h;simp[En.to]
 | fin=>cases h
 | iff v a b=>
  simp only[eA,Option.some.injEq] at h;rw[<- h];split <;> simp[En.to]
theorem vE(I:List Int):∀(xs ys:List Row) (s:S),cR I (xs++ys) s=match cR I xs s with | .inl r=>.inl r | .inr s=>cR I ys s
 | [],ys,s=>rfl
 | x::xs,ys,s=>by
  simp only[List.cons_append,cR];cases cM I s x with
  | inl r=>rfl
  | inr s'=>exact vE I xs ys s'
def iD(r:Rs):Prop:=r.1≠"long"
theorem yP{I:List Int}{B:List bt}:∀{f:Nat} {k:Nat} {s:S} {r:Rs},run I B f k s=r->iD r->∀g,f<=g->run I B g k s=r
 | 0,k,s,r,h,hr,g,_=>absurd (by rw[<- h];rfl) hr
 | f+1,k,s,r,h,hr,g,hg=>by
  obtain⟨g,rfl⟩:∃g',g=g'+1:=⟨g-1,by omega⟩
  unfold run at h ⊢;cases hb:B[k]? with
  | none=>simp only[hb] at h ⊢;exact h
  | some b=>
   simp only[hb] at h ⊢;cases lQ:cR I b.rs s with
   | inl x=>simp only[lQ] at h ⊢;exact h
   | inr s'=>
    simp only[lQ] at h ⊢;cases he:eA s' b.en with
    | none=>simp only[he] at h ⊢;exact h
    | some k'=>simp only[he] at h ⊢;exact yP h hr g (by omega)
def cf(B:List bt):Nat->Nat->Nat
 | 0,k=>k
 | f+1,k=>match B[k]? with
  | some ⟨[],.go j⟩=>cf B f j
  | _=>k
theorem za{I:List Int}{B:List bt}:∀{n f k:Nat} {s:S} {r:Rs},run I B f k s=r->iD r->∃g,g<=f/\run I B g (cf B n k) s=r
 | 0,f,k,s,r,h,_=>⟨f,abZ _,h⟩
 | n+1,f,k,s,r,h,hr=>by
  unfold cf;split
  ·rename_i j hb;cases f with
   | zero=>exact absurd (by rw[<- h];rfl) hr
   | succ f=>
    unfold run at h;simp only[hb,cR,eA] at h;obtain⟨g,hg,e⟩:=za (n:=n) h hr;exact⟨g,by omega,e⟩
  ·exact⟨f,abZ _,h⟩
theorem Gv{B:List bt}(hB:∀(k:Nat) b,B[k]? =some b->∀j∈b.en.to,j<B.length):∀{n k:Nat},k<B.length->cf B n k<B.length
 | 0,k,h=>h
 | n+1,k,h=>by
  unfold cf;split
  ·rename_i j hb;exact Gv hB (hB k _ hb j (by simp[En.to]))
  ·exact h
def Way(E:List En):List Nat->Prop
 | []=>False
 | [_]=>True
 | k::j::l=>E[k]? =some (.go j)/\Way E (j::l)
def rowsOf(B:List bt)(l:List Nat):List Row:=l.flatMap fun k=>match B[k]? with | some b=>b.rs | none=>[]
def fh(B:List bt):List En:=B.map fun b=>b.en.mp (cf B B.length)
variable{B:List bt}
theorem rC{b:bt}(h:B[k]? =some b):(fh B)[k]? =some (b.en.mp (cf B B.length)):=by
 unfold fh;rw[abY,h];rfl
theorem Fv{I:List Int}{B:List bt}:∀{l:List Nat} {f k z:Nat} {s:S} {r:Rs},Way (fh B) (k::l)->(∀x∈k::l,x<B.length)->(k::l).getLast? =some z->run I B f k s=r->iD r →
  cR I (rowsOf B (k::l)) s=.inl r\/∃s' e g,cR I (rowsOf B (k::l)) s=.inr s'/\(fh B)[z]? =some e/\g<f/\match eA s' e with | none=>r=s'.by "done" | some t=>run I B g t s'=r
 | [],f,k,z,s,r,hw,cE,hz,h,hr=>by
  have hz:z=k:=by simpa using hz.symm
  subst hz;cases f with
  | zero=>exact absurd (by rw[<- h];rfl) hr
  | succ f=>
   obtain⟨b,hb⟩:∃b,B[z]? =some b:=bW (cE z (by simp));unfold run at h;simp only[hb] at h;simp only[rowsOf,aeY,List.flatMap_nil,hb,adp];cases hq:cR I b.rs s with
   | inl x=>simp only[hq] at h;exact .inl (by rw[h])
   | inr s'=>
    simp only[hq] at h
    right
    cases he:eA s' b.en with
    | none=>
     simp only[he] at h;exact⟨s',_,f,rfl,rC hb,by omega,by rw[zD,he];exact h.symm⟩
    | some t=>
     simp only[he] at h;obtain⟨g,hg,e⟩:=za (n:=B.length) h hr;exact⟨s',_,g,rfl,rC hb,by omega,by rw[zD,he];exact e⟩
 | j::l,f,k,z,s,r,hw,cE,hz,h,hr=>by
  cases f with
  | zero=>exact absurd (by rw[<- h];rfl) hr
  | succ f=>
   obtain⟨b,hb⟩:∃b,B[k]? =some b:=bW (cE k (by simp));obtain⟨js,fx⟩:=hw;have A9:(j::l).getLast? =some z:=by simpa[afX] using hz
   have e0:rowsOf B (k::j::l)=b.rs++rowsOf B (j::l):=by unfold rowsOf;rw[aeY,hb]
   rw[e0,vE];unfold run at h;simp only[hb] at h;cases hq:cR I b.rs s with
   | inl x=>simp only[hq] at h;exact .inl (by rw[h])
   | inr s'=>
    simp only[hq] at h;rw[rC hb] at js;cases he:b.en with
    | go t=>
     rw[he] at js h;simp only[eA] at h;have et:cf B B.length t=j:=by simpa[En.mp] using js
     obtain⟨g,hg,e⟩:=za (n:=B.length) h hr;rw[et] at e
     rcases Fv fx (fun x hx=>cE x (acH _ hx)) A9 e hr with q | ⟨s2,e2,g2,q1,q2,q3,q4⟩
     ·exact .inl q
     ·exact .inr ⟨s2,e2,g2,q1,q2,by omega,q4⟩
    | iff v a c=>rw[he] at js;simp[En.mp] at js
    | fin=>rw[he] at js;simp[En.mp] at js
structure sA(B NB:List bt)(J:List (List Nat))(h:Nat->Nat):Prop where
 len:NB.length=J.length
 blk:∀(j:Nat) l,J[j]? =some l->∃k l' z e,l=k::l'/\Way (fh B) l/\(∀x∈l,x<B.length)/\l.getLast? =some z/\(fh B)[z]? =some e/\NB[j]? =some ⟨rowsOf B l,e.mp h⟩/\∀t∈e.to,∃l2,J[h t]? =some (t::l2)
 zero:∃l,J[0]? =some (0::l)
variable{I:List Int}{NB:List bt}{h:Nat->Nat}
theorem WQ{J:List (List Nat)}(T:sA B NB J h):∀(f:Nat) {k j:Nat} {l:List Nat} {s:S} {r:Rs},J[j]? =some (k::l)->run I B f k s=r->iD r->run I NB f j s=r:=by
 intro f
 induction f using agn with
 | ind f ih=>
  intro k j l s r hJ eY hr;obtain⟨k2,l2,z,e,e1,hw,cE,hz,he,hn,ht⟩:=T.blk j _ hJ;cases f with
  | zero=>exact absurd (by rw[<- eY];rfl) hr
  | succ f=>
   unfold run;simp only[hn]
   rcases Fv hw cE hz eY hr with q | ⟨s',e',g,q1,q2,q3,q4⟩
   ·simp only[q]
   ·rw[he] at q2;cases q2;simp only[q1,zD];cases hq:eA s' e with
    | none=>rw[hq] at q4;simp only[Option.map_none];exact q4.symm
    | some t=>
     rw[hq] at q4;simp only[acS];obtain⟨l3,xc⟩:=ht t (Gu hq);exact yP (ih g q3 xc q4 hr) hr f (by omega)
variable{s':S}
theorem Gw{s:S}{r:Row}(h:cM I s r=.inr s')(h0:0<=s.tn):s'.tn<=s.tn/\0<=s'.tn/\(r=.turn->s'.tn<=s.tn-1):=by
 cases r with
 | turn=>
  simp only[cM] at h;split at h
  ·cases h
  ·cases h;refine⟨?_,?_,fun _=>?_⟩ <;> simp only <;> omega
 | dY a w b c=>
  cases w <;> simp only[cM] at h
  case part=>
   split at h
   ·cases h
   ·cases h;exact⟨agF _,h0,fun z=>nomatch z⟩
  all_goals cases h;exact⟨agF _,h0,fun z=>nomatch z⟩
 | _=>cases h;exact⟨agF _,h0,fun z=>nomatch z⟩
theorem zb{I:List Int}:∀{rs:List Row} {s s':S},cR I rs s=.inr s'->0<=s.tn->s'.tn<=s.tn/\0<=s'.tn
 | [],s,s',h,h0=>by cases h;exact⟨agF _,h0⟩
 | r::rs,s,s',h,h0=>by
  unfold cR at h;cases hq:cM I s r with
  | inl x=>rw[hq] at h;cases h
  | inr s1=>
   rw[hq] at h;have a:=Gw hq h0;have b:=zb h a.2.1;exact⟨by omega,b.2⟩
theorem WR{rs:List Row}{s:S}(h:cR I (.turn::rs) s=.inr s')(h0:0<=s.tn):s'.tn<=s.tn-1/\0<=s'.tn:=by
 unfold cR at h;cases hq:cM I s .turn with
 | inl x=>rw[hq] at h;cases h
 | inr s1=>
  rw[hq] at h;have a:=Gw hq h0;have b:=zb h a.2.1;exact⟨by have:=a.2.2 rfl;omega,b.2⟩
theorem zc(s:S){x:String}(h:x≠"long"):iD (s.by x):=h
theorem Vj{s:S}{r:Row}{x:Rs}(h:cM I s r=.inl x):iD x:=by
 cases r with
 | turn=>
  simp only[cM] at h;split at h
  ·cases h;exact zc s (by decide)
  ·cases h
 | dY a w b c=>
  cases w <;> simp only[cM] at h
  case part=>
   split at h
   ·cases h;exact zc s (by decide)
   ·cases h
  all_goals cases h
 | _=>cases h
theorem DZ{I:List Int}:∀{rs:List Row} {s:S} {x:Rs},cR I rs s=.inl x->iD x
 | [],s,x,h=>by cases h
 | r::rs,s,x,h=>by
  unfold cR at h;cases hq:cM I s r with
  | inl y=>rw[hq] at h;cases h;exact Vj hq
  | inr s1=>rw[hq] at h;exact DZ h
def om(b:bt):Prop:=∃rs,b.rs=.turn::rs
def xk(B:List bt):Prop:=∀(k:Nat) b,B[k]? =some b->∀j∈b.en.to,j<B.length/\(k<j\/(∃c,B[j]? =some c/\om c)\/om b)
open Classical in
noncomputable def left(B:List bt)(k:Nat)(s:S):Nat:=(2*s.tn.toNat+if ∃b,B[k]? =some b/\om b then 0 else 1)*(B.length+1)+(B.length-k)
theorem Ew{I:List Int}{B:List bt}(hF:xk B):∀(f:Nat) {k:Nat} {s:S},k<B.length->0<=s.tn->left B k s<f->iD (run I B f k s)
 | 0,k,s,_,_,h=>absurd h (agp _)
 | f+1,k,s,hk,h0,h=>by
  obtain⟨b,hb⟩:∃b,B[k]? =some b:=bW hk;unfold run;simp only[hb];cases hq:cR I b.rs s with
  | inl x=>exact DZ hq
  | inr s'=>
   simp only;have t1:=zb hq h0;cases he:eA s' b.en with
   | none=>exact zc s' (by decide)
   | some j=>
    obtain⟨hj,BG⟩:=hF k b hb j (Gu he);refine Ew hF f hj t1.2 ?_;unfold left at h ⊢;have key:∀{a a' N x x':Nat},a'<a->x'<=N->a*(N+1)+x<f+1->a'*(N+1)+x'<f:=fun{a a' N x x'} h1 h2 h3=>by
     have:=agz (N+1) (Nat.succ_le_of_lt h1);rw[aff] at this;omega
    by_cases kL:om b
    ·obtain⟨rs,oo⟩:=kL;rw[oo] at hq;have t2:=WR hq h0;refine key ?_ (Nat.sub_le _ _) h;split <;> split <;> omega
    ·have n1:¬ ∃b,B[k]? =some b/\om b:=fun⟨c,e,z⟩=>by rw[hb] at e;cases e;exact kL z
     rw[if_neg n1] at h;by_cases hc:∃c,B[j]? =some c/\om c
     ·rw[if_pos hc];exact key (by omega) (Nat.sub_le _ _) h
     ·rw[if_neg hc];have JH:k<j:=by
       rcases BG with z | z | z
       ·exact z
       ·exact absurd z hc
       ·exact absurd z kL
      have:(2*s'.tn.toNat+1)*(B.length+1)<=(2*s.tn.toNat+1)*(B.length+1):=agz _ (by omega);omega
variable{ph2:PH}
theorem aC{e:EM}{r:AM}{w:W}(h:e σ ph=.ok w ph1)(h2:r σ ph1=.ok ws ph2):ae e r σ ph=.ok (w::ws) ph2:=aw h (aw h2 rfl)
variable{c:Bool}
theorem wq(x:String){y:String}(h:aa i σ=ax (.tup (.str x::ws)))(hc:decide (x=y)=c):eT (ab aH (ab ag (aa i) (eC (.int 0))) (eC (.str y))) σ ph=.ok c ph:=by
 rw[fE,df,df,h,<- hc];ac_nf
theorem tF{a b:TM}(h:a σ ph=.ok false ph1):cQ a b σ ph=.ok false ph1:=aw h rfl
theorem tT{a b:TM}{r:Out Bool}(h:a σ ph=.ok true ph1)(h2:b σ ph1=r):cQ a b σ ph=r:=aw h h2
def dI(l:Dc):List (W×W):=l.map fun p=>(W.int p.1,W.int p.2)
theorem JJ(l:Dc)(k:Int):cZ (dI l) (.int k)=true:=by
 unfold cZ;have:(dI l).all (fun p=> !j7 p.1)=true:=by
  rw[adk];intro p hp;obtain⟨x,_,rfl⟩:=acq.mp hp;rfl
 rw[this];rfl
theorem Hn(a k:Int):decide (W.int a=W.int k)=decide (a=k):=decide_eq_decide.mpr ⟨fun z=>W.int.inj z,fun z=>z▸rfl⟩
theorem Y9(l:Dc)(k:Int):(dh (dI l) (.int k)).getD (.int 0)=.int (gt l k):=by
 unfold dh dI gt;rw[List.find?_map,Option.map_map];have:((fun p:W×W=>decide (p.1=W.int k))∘fun p:Int×Int=>(W.int p.1,W.int p.2))=fun p:Int×Int=>decide (p.1=k):=by
  funext p
  exact Hn p.1 k
 rw[this];cases l.find? fun p=>decide (p.1=k) <;> rfl
theorem Za(l:Dc)(k v:Int):dH (dI l) (.int k) (.int v)=dI (pt l k v):=by
 unfold dH pt;have e:((dI l).any fun p=>decide (p.1=.int k))=l.any fun p=>decide (p.1=k):=by
  unfold dI;rw[agY]
  congr 1
  funext p
  exact Hn p.1 k
 rw[e];split
 ·unfold dI;rw[adi,adi];apply aeK;intro p _;simp only[aeT];by_cases h:p.1=k
  ·rw[if_pos (by rw[h]),if_pos h]
  ·rw[if_neg (fun z=>h (W.int.inj z)),if_neg h]
 ·unfold dI;rw[adF];rfl
def eF(v:Int):Prop:= -(2 ^ 32)<=v/\v<=2 ^ 32
def ou(l:Dc):Prop:=∀p∈l,eF p.2
theorem ou.gt{l:Dc}(h:ou l)(k:Int):eF (gt l k):=by
 unfold K28.gt;cases e:l.find? fun p=>decide (p.1=k) with
 | none=>exact⟨by decide,by decide⟩
 | some p=>exact h p (aeE e)
theorem ou.pt{l:Dc}(h:ou l){k v:Int}(hv:eF v):ou (pt l k v):=fun p hp=>by
 unfold K28.pt at hp;split at hp
 ·obtain⟨q,hq,rfl⟩:=acq.mp hp;split
  ·exact hv
  ·exact h q hq
 ·rcases adb.mp hp with z | z
  ·exact h p z
  ·rw[acG.mp z];exact hv
theorem Gx(l:Dc)(k v:Int):(pt l k v).length<=l.length+1:=by
 unfold pt;split
 ·rw[abX];omega
 ·simp
variable{d:Nat}
theorem ju{l:Dc}{k:Int}{o e:EM}(hd:H[d]? =some (.aD (dI l)))(ho:o σ H=.ok (.ref d) H)(he:e σ H=.ok (.int k) H):bR dW dX o (ae e (ae (eC (.int 0)) ah)) σ H=.ok (.int (gt l k)) H:=by
 rw[pf];refine aw ho (aw (Wq hd) (aw (aC he rfl) ?_));rw[Wr hd (JJ l k),Y9]
theorem ox{l:Dc}{k v:Int}{o i e:EM}(he:e σ H=.ok (.int v) H1)(hd:H1[d]? =some (.aD (dI l)))(hl:l.length<1000000)(ho:o σ H1=.ok (.ref d) H1)(hi:i σ H1=.ok (.int k) H1):aE e (eU o i) σ H=.ok (.nx σ) (H1.set d (.aD (dI (pt l k v)))):=by
 rw[pq];refine aw he ?_;rw[qY];refine aw (aw ho (aw hi (aw (vB hd (JJ l k) (by unfold dI;rw[abX];exact aca hl (by decide)) _) rfl))) ?_;rw[Za];rfl
theorem WS(n:Int):eF (lL n):=by
 have q:=mM (n+2147483648) 4294967296 (by decide);have:=Int.mul_fdiv_add_fmod (n+2147483648) 4294967296;unfold lL eF;omega
theorem Zb(w:Wd)(a b:Int):eF (dd w a b):=by
 cases w
 case below=>
  show eF (if a<b then 1 else 0);by_cases h:a<b
  ·rw[if_pos h];exact⟨by decide,by decide⟩
  ·rw[if_neg h];exact⟨by decide,by decide⟩
 case alike=>
  show eF (if a=b then 1 else 0);by_cases h:a=b
  ·rw[if_pos h];exact⟨by decide,by decide⟩
  ·rw[if_neg h];exact⟨by decide,by decide⟩
 all_goals exact WS _
theorem Ho(n:Int):qP [.int n]=ax (.int (lL n)):=by
 unfold qP k4
 push_cast [zY (show(4294967296:Int)≠0 by decide) (by decide),zX (pD (a:=(n+2147483648).fdiv 4294967296) (b:=4294967296) (by decide) (by decide))]
 rfl
def Wd.s:Wd->String
 | .sum=>"sum"
 | .less=>"less"
 | .times=>"times"
 | .part=>"part"
 | .below=>"below"
 | .alike=>"alike"
theorem wv(x:String){y:String}(h:aa i σ=ax (.str x))(hc:decide (x=y)=c):eT (ab aH (aa i) (eC (.str y))) σ ph=.ok c ph:=by
 rw[fE,df,h,<- hc];ac_nf
theorem Zc(w:Wd){a b:Int}(ha:eF a)(hb:eF b)(h0:w=.part->b≠0)(H:PH):∃H',yd [.str w.s,.int a,.int b] H=.ok (.int (dd w a b)) H'/\Ex H H':=by
 obtain⟨sX,sQ⟩:=ha;obtain⟨gD,kL⟩:=hb;have o1:∀(x:String) {y z:String} {c:Bool} {σ:aQ},aa 0 σ=ax (.str x)->(decide (x=y)||decide (x=z))=c->dj (eT (ab aH (aa 0) (eC (.str y)))) (eT (ab aH (aa 0) (eC (.str z)))) σ H=.ok c H:=fun x {y z c σ} h hc=>by
  rw[la,bf (wv x h rfl),<- hc];cases decide (x=y)
  ·exact wv x h rfl
  ·rfl
 have lst:∀(x:String) (j:Nat) (v:Int),["sum","less","times"].findIdx? (fun s=>decide (s=x))=some j->[a+b,a-b,a*b][j]? =some v->∃H',aX qP (ae (ab ag (bI (ae (ab addW (aa 1) (aa 2)) (ae (ab fU (aa 1) (aa 2)) (ae (ab bV (aa 1) (aa 2)) ah)))) (bR b9 pB (bI (ae (eC (.str "sum")) (ae (eC (.str "less")) (ae (eC (.str "times")) ah)))) (ae (aa 0) ah))) ah) [some (.str x),some (.int a),some (.int b)] H=.ok (.int (lL v)) H'/\Ex H H':=fun x j v hj hv=>by
  obtain⟨H1,e1⟩:∃H1,H1=H++[PO.lst ([a+b,a-b,a*b].map W.int)]:=⟨_,rfl⟩
  obtain⟨H2,e2⟩:∃H2,H2=H1++[PO.lst (["sum","less","times"].map fun s=>.str (acu s))]:=⟨_,rfl⟩
  have g1:H2[H.length]? =some (PO.lst ([a+b,a-b,a*b].map W.int)):=by
   rw[e2];exact(Ex.one _ _).get (by rw[e1];exact bu _ _)
  have g2:H2[H1.length]? =some (PO.lst (["sum","less","times"].map fun s=>.str (acu s))):=by rw[e2];exact bu _ _
  have fA:ck ([a+b,a-b,a*b].map W.int) (j:Int)=some (.int v):=by
   have:=(abV.mp hv).1;rw[fc _ _ (by rw[abX];exact this),abY,hv];rfl
  refine⟨H2,?_,by rw[e2,e1];exact(Ex.one _ _).trans (Ex.one _ _)⟩;rw[yH];refine aw (aC (w:=.int v) (ph1:=H2) ?_ rfl) (by rw[Ho];rfl);rw[df];refine aw (ph':=H1) (a:=.ref H.length) ?_ (aw (ph':=H2) (a:=.int j) ?_ (ed g1 fA))
  ·rw[pv];refine aw (aC (ph1:=H) (w:=.int (a+b)) rfl (aC (ph1:=H) (w:=.int (a-b)) rfl (aC (ph1:=H) (w:=.int (a*b)) ?_ rfl))) (by rw[e1];exact zq [.int (a+b),.int (a-b),.int (a*b)] H (small (by simp)))
   push_cast [zX (pD (a:=a) (b:=b) (by omega) (by omega))]
  ·rw[pf];refine aw (ph':=H2) (a:=.ref H1.length) (by rw[e2];rfl) (aw (rp g2) (aw (aC rfl rfl) (Sw x ["sum","less","times"] g2 hj)))
 unfold yd mN;rw[nT];cases w with
 | below=>exact⟨H,dN (bK (o1 "below" rfl rfl) (retS (by unfold dd Wd.s;ac_nf;by_cases h:a<b <;> simp[h] <;> rfl))),Ex.refl _⟩
 | alike=>exact⟨H,dN (bK (o1 "alike" rfl rfl) (retS (by unfold dd Wd.s;ac_nf;by_cases h:a=b <;> by_cases h2:a<b <;> simp[h,h2] <;> rfl))),Ex.refl _⟩
 | part=>
  refine⟨H,bq (az (o1 "part" rfl rfl) rfl) (dN (bK (wv "part" rfl rfl) (retS ?_))),Ex.refl _⟩
  push_cast [zY (h0 rfl) (show b.natAbs<2 ^ 64 by omega),Ho]
  rfl
 | sum=>
  obtain⟨H',e,x⟩:=lst "sum" 0 _ (by decide) rfl;exact⟨H',bq (az (o1 "sum" rfl rfl) rfl) (bq (az (wv "sum" rfl rfl) rfl) (br e)),x⟩
 | less=>
  obtain⟨H',e,x⟩:=lst "less" 1 _ (by decide) rfl;exact⟨H',bq (az (o1 "less" rfl rfl) rfl) (bq (az (wv "less" rfl rfl) rfl) (br e)),x⟩
 | times=>
  obtain⟨H',e,x⟩:=lst "times" 2 _ (by decide) rfl;exact⟨H',bq (az (o1 "times" rfl rfl) rfl) (bq (az (wv "times" rfl rfl) rfl) (br e)),x⟩
def Row.w:Row->W
 | .dY a w b c=>.tup [.str "do",.int a,.str w.s,.int b,.int c]
 | .put a n=>.tup [.str "put",.int a,.int n]
 | .move a b=>.tup [.str "move",.int a,.int b]
 | .pull a b=>.tup [.str "pull",.int a,.int b]
 | .push a b=>.tup [.str "push",.int a,.int b]
 | .take a=>.tup [.str "take",.int a]
 | .tell a=>.tup [.str "tell",.int a]
 | .turn=>.tup [.str "turn"]
def En.w:En->W
 | .go k=>.tup [.str "go",.int k]
 | .iff v a b=>.tup [.str "if",.int v,.int a,.int b]
 | .fin=>.tup [.str "end"]
def fj:Row->Prop
 | .put _ n=>eF n
 | _=>True
theorem kN{a b:SM}{w:W}(h:a σ ph=.ok (.rt w) ph1):ay a b σ ph=.ok (.rt w) ph1:=by
 rw[pk,bf h];rfl
theorem eS(x:String){y:String}{e:EM}(h:e σ=ax (.str x))(hc:decide (x=y)=c):eT (ab aH e (eC (.str y))) σ ph=.ok c ph:=by
 rw[fE,df,h,<- hc];ac_nf
theorem eI{g z:Int}{e:EM}(h:e σ ph=.ok (.int g) ph1)(hc:decide (g=z)=c):eT (ab aH e (eC (.int z))) σ ph=.ok c ph1:=by
 rw[fE,df,d9,bf h,<- hc];ac_nf
structure RI(ph H:PH)(m:Nat)(s:S):Prop where
 ex:Ex ph H
 b:H[ph.length]? =some (.aD (dI s.bx))
 l:H[ph.length+1]? =some (.aD (dI s.sl))
 t:H[ph.length+2]? =some (.lst (s.told.map W.int))
 nb:s.bx.length<=m
 nl:s.sl.length<=m
 nt:s.told.length<=m
 nk:s.tk<=m
 vb:ou s.bx
 vl:ou s.sl
theorem RI.mono{s:S}(R:RI ph H m s)(x:Ex H H1):RI ph H1 m s:=⟨R.ex.trans x,x.get R.b,x.get R.l,x.get R.t,R.nb,R.nl,R.nt,R.nk,R.vb,R.vl⟩
theorem RI.bx{ph H:PH}{m:Nat}{s:S}(R:RI ph H m s){k v:Int}(hv:eF v):RI ph (H.set ph.length (.aD (dI (pt s.bx k v)))) (m+1) { s with bx:=pt s.bx k v }:=by
 have n1:=R.nb;have n2:=R.nl;have n3:=R.nt;have n4:=R.nk;have n5:=Gx s.bx k v;exact⟨Ex.set R.ex (abZ _) _,dQ R.b,(dg (by omega)).trans R.l,(dg (by omega)).trans R.t,by simp only;omega,by simp only;omega,by simp only;omega,by simp only;omega,R.vb.pt hv,R.vl⟩
theorem RI.sl{ph H:PH}{m:Nat}{s:S}(R:RI ph H m s){k v:Int}(hv:eF v):RI ph (H.set (ph.length+1) (.aD (dI (pt s.sl k v)))) (m+1) { s with sl:=pt s.sl k v }:=by
 have n1:=R.nb;have n2:=R.nl;have n3:=R.nt;have n4:=R.nk;have n5:=Gx s.sl k v;exact⟨Ex.set R.ex (by omega) _,(dg (by omega)).trans R.b,dQ R.l,(dg (by omega)).trans R.t,by simp only;omega,by simp only;omega,by simp only;omega,by simp only;omega,R.vb,R.vl.pt hv⟩
abbrev st(bi ii p:Nat)(s:S)(o7 o8 o9 o10:Option W):aQ:=[some (.ref bi),some (.ref ii),some (.int s.tn),some (.ref p),some (.ref (p+1)),some (.ref (p+2)),some (.int s.tk),o7,o8,o9,o10]
def iE(p:Nat)(y:String)(s:S):W:=.tup [.str y,.ref (p+2),.int s.tk]
structure gS(ph:PH)(ii:Nat)(I:List Int):Prop where
 at_:ph[ii]? =some (.lst (I.map W.int))
 len:I.length<=10
 JK:∀x∈I,eF x
variable{ii:Nat}
theorem gS.get(h:gS ph ii I)(k:Nat):eF (I.getD k 0):=by
 rw[adz];cases e:I[k]? with
 | none=>exact⟨by decide,by decide⟩
 | some x=>exact h.JK x (acd e)
theorem jN{s:S}{r:Row}(R:RI ph H m s)(hr:fj r)(hm:m<100000)(h:cM I s r=.inr s')(hn:match r with | .turn=>False | .take _=>False | .tell _=>False | _=>True) :
  ∃H',kW [r.w,.ref ph.length,.ref (ph.length+1)] H=.ok .aI H'/\RI ph H' (m+1) s'/\s'.tn=s.tn/\s'.tk=s.tk:=by
 have hb:s.bx.length<1000000:=adU R.nb (by omega);have hl:s.sl.length<1000000:=adU R.nl (by omega);have fin:∀{a:SM} {σ ao:aQ} {H H':PH},a σ H=.ok (.nx ao) H'->au (a σ) dS H=.ok .aI H':=fun h=>aw h rfl
 unfold kW kU;rw[nT];cases r with
 | turn=>exact hn.elim
 | take a=>exact hn.elim
 | tell a=>exact hn.elim
 | put a n=>
  cases h;exact⟨_,fin (bK (wq "put" rfl rfl) (ox rfl R.b hb rfl rfl)),R.bx hr,rfl,rfl⟩
 | move a b=>
  cases h;exact⟨_,fin (az (wq "move" rfl rfl) (bK (wq "move" rfl rfl) (ox (ju R.b rfl rfl) R.b hb rfl rfl))),R.bx (R.vb.gt _),rfl,rfl⟩
 | pull a b=>
  cases h;exact⟨_,fin (az (wq "pull" rfl rfl) (az (wq "pull" rfl rfl) (bK (wq "pull" rfl rfl) (ox (ju R.l rfl rfl) R.b hb rfl rfl)))),R.bx (R.vl.gt _),rfl,rfl⟩
 | push a b=>
  cases h;exact⟨_,fin (az (wq "push" rfl rfl) (az (wq "push" rfl rfl) (az (wq "push" rfl rfl) (bK (wq "push" rfl rfl) (ox (ju R.b rfl rfl) R.l hl rfl rfl))))),R.sl (R.vb.gt _),rfl,rfl⟩
 | dY a w b c=>
  have h0:w=.part->gt s.bx c≠0:=fun z e=>by
   subst z;simp only[cM,e,if_true] at h;cases h
  obtain⟨H1,e1,x1⟩:=Zc w (R.vb.gt b) (R.vb.gt c) h0 H;have es:s'={ s with bx:=pt s.bx a (dd w (gt s.bx b) (gt s.bx c)) }:=by
   cases w <;> simp only[cM] at h
   case part=>rw[if_neg (h0 rfl)] at h;cases h;rfl
   all_goals cases h;rfl
  subst es;exact⟨_,fin (az (wq "do" rfl rfl) (az (wq "do" rfl rfl) (az (wq "do" rfl rfl) (az (wq "do" rfl rfl) (ox (aw (aC rfl (aC (ju R.b rfl rfl) (aC (ju R.b rfl rfl) rfl))) e1) (x1.get R.b) hb rfl rfl))))),(R.mono x1).bx (Zb _ _ _),rfl,rfl⟩
variable{bi:Nat}{o7 o8 o9 o10:Option W}
theorem Gy{s:S}(R:RI ph H m s)(hI:gS ph ii I)(hm:m<100000) :
  ∃H',ab ag (ab addW (aa 1) (ab bV (bI (ae (eC (.int (0))) ah)) (ab addW (aa 6) (eC (.int (1)))))) (aa 6) (st bi ii ph.length s o7 o8 o9 o10) H=.ok (.int (I.getD s.tk 0)) H'/\Ex H H':=by
 have hk:=R.nk;have hi:=hI.len;obtain⟨H1,e1⟩:∃H1,H1=H++[PO.lst [.int 0]]:=⟨_,rfl⟩
 obtain⟨H2,e2⟩:∃H2,H2=H1++[PO.lst (acf (s.tk+1) [W.int 0]).flatten]:=⟨_,rfl⟩
 obtain⟨H3,e3⟩:∃H3,H3=H2++[PO.lst (I.map W.int++(acf (s.tk+1) [W.int 0]).flatten)]:=⟨_,rfl⟩
 have x1:Ex H H1:=e1▸Ex.one _ _;have x2:Ex H1 H2:=e2▸Ex.one _ _;have x3:Ex H2 H3:=e3▸Ex.one _ _;have g1:H1[H.length]? =some (.lst [.int 0]):=by rw[e1];exact bu _ _
 have g2:H2[H1.length]? =some (PO.lst (acf (s.tk+1) [W.int 0]).flatten):=by rw[e2];exact bu _ _
 have g3:H3[H2.length]? =some (PO.lst (I.map W.int++(acf (s.tk+1) [W.int 0]).flatten)):=by rw[e3];exact bu _ _
 have gi:H2[ii]? =some (.lst (I.map W.int)):=x2.get (x1.get (R.ex.get hI.at_));have fl:∀n:Nat,(acf n [W.int 0]).flatten=acf n (W.int 0):=fun n=>by
  induction n with
  | zero=>rfl
  | succ n ih=>rw[adh,adN,ih,adh];rfl
 have tn:((s.tk:Int)+1).toNat=s.tk+1:=by omega
 have fA:ck (I.map W.int++(acf (s.tk+1) [W.int 0]).flatten) (s.tk:Int)=some (.int (I.getD s.tk 0)):=by
  rw[fl,fc _ _ (by simp;omega)];by_cases h:s.tk<I.length
  ·rw[acE (by simpa using h),abY,adz,adH h];rfl
  ·rw[adR (by simpa using h),aed,if_pos (by simp;omega),adz,acZ (by omega)];rfl
 refine⟨H3,?_,(x1.trans x2).trans x3⟩;rw[df];refine aw (ph':=H3) (a:=.ref H2.length) ?_ (aw (ph':=H3) (a:=.int s.tk) rfl (ed g3 fA));rw[df];refine aw (ph':=H) (a:=.ref ii) rfl (aw (ph':=H2) (a:=.ref H1.length) ?_ ?_)
 ·rw[df];refine aw (ph':=H1) (a:=.ref H.length) (by rw[e1];rfl) (aw (ph':=H1) (a:=.int ((s.tk:Int)+1)) rfl ?_);rw[yK g1 (by omega) (by omega) (small (by simp only[adj,aen];omega)),tn,e2]
 ·rw[Ff gi g2 (small (by rw[fl];simp;omega)),e3]
theorem aaq{s:S}(r:Row)(R:RI ph H m s)(hr:fj r)(hI:gS ph ii I)(hm:m<100000) :
  (∃y,cM I s r=.inl (s.by y)/\me (st bi ii ph.length s o7 o8 (some r.w) o10) H=.ok (.rt (iE ph.length y s)) H) \/
  (∃s' H',cM I s r=.inr s'/\me (st bi ii ph.length s o7 o8 (some r.w) o10) H=.ok (.nx (st bi ii ph.length s' o7 o8 (some r.w) o10)) H'/\RI ph H' (m+1) s'):=by
 have hb:s.bx.length<1000000:=adU R.nb (by omega);have n1:=R.nb;have n2:=R.nl;have n3:=R.nt;have n4:=R.nk;have bx:∀{x:String} {ws:List W} {H':PH},x≠"turn"->x≠"take"->x≠"tell"->kW [.tup (.str x::ws),.ref ph.length,.ref (ph.length+1)] H=.ok .aI H' →
   (aW (eT (ab aH (ab ag (aa 9) (eC (.int (0)))) (eC (.str "turn")))) (aE (ab fU (aa 2) (eC (.int (1)))) (gN 2)) (aW (eT (ab aH (ab ag (aa 9) (eC (.int (0)))) (eC (.str "take")))) (ay (aE (ab ag (ab addW (aa 1) (ab bV (bI (ae (eC (.int (0))) ah)) (ab addW (aa 6) (eC (.int (1)))))) (aa 6)) (eU (aa 3) (ab ag (aa 9) (eC (.int (1)))))) (aE (ab addW (aa 6) (eC (.int (1)))) (gN 6))) (aW (eT (ab aH (ab ag (aa 9) (eC (.int (0)))) (eC (.str "tell")))) (da (bR b9 dt (aa 5) (ae (bR dW dX (aa 3) (ae (ab ag (aa 9) (eC (.int (1)))) (ae (eC (.int (0))) ah))) ah))) (da (aX kW (ae (aa 9) (ae (aa 3) (ae (aa 4) ah))))))))
    (st bi ii ph.length s o7 o8 (some (.tup (.str x::ws))) o10) H=.ok (.nx (st bi ii ph.length s o7 o8 (some (.tup (.str x::ws))) o10)) H':=fun{x ws H'} h1 h2 h3 h=>
  az (wq x rfl (decide_eq_false h1)) (az (wq x rfl (decide_eq_false h2)) (az (wq x rfl (decide_eq_false h3)) (aw (aw (aC rfl (aC rfl (aC rfl rfl))) h) rfl)))
 unfold me;cases r with
 | turn=>
  by_cases h:s.tn=0
  ·exact .inl ⟨"dry",by simp only[cM,h,if_true],kN (bK (tT (wq "turn" rfl rfl) (eI rfl (decide_eq_true h))) (retS rfl))⟩
  ·exact .inr ⟨{ s with tn:=s.tn-1 },H,by simp only[cM,h,if_false],sq (az (tT (wq "turn" rfl rfl) (eI rfl (decide_eq_false h))) rfl) (sq (az (tF (wq "turn" rfl rfl)) rfl) (bK (wq "turn" rfl rfl) rfl)),R.ex,R.b,R.l,R.t,by simp only;omega,by simp only;omega,by simp only;omega,by simp only;omega,R.vb,R.vl⟩
 | take a=>
  obtain⟨H1,e1,x1⟩:=Gy (bi:=bi) (o7:=o7) (o8:=o8) (o9:=some (Row.take a).w) (o10:=o10) R hI hm;have R1:=R.mono x1;have R2:=R1.bx (k:=a) (hI.get s.tk);exact .inr ⟨{ s with bx:=pt s.bx a (I.getD s.tk 0),tk:=s.tk+1 },_,rfl,sq (az (tF (wq "take" rfl rfl)) rfl) (sq (az (tF (wq "take" rfl rfl)) rfl) (az (wq "take" rfl rfl) (bK (wq "take" rfl rfl) (sq (ox e1 R1.b hb rfl rfl) rfl)))),R2.ex,R2.b,R2.l,R2.t,R2.nb,R2.nl,R2.nt,by simp only;omega,R2.vb,R2.vl⟩
 | tell a=>
  refine .inr ⟨{ s with told:=s.told++[gt s.bx a] },H.set (ph.length+2) (.lst (s.told.map W.int++[.int (gt s.bx a)])),rfl,sq (az (tF (wq "tell" rfl rfl)) rfl) (sq (az (tF (wq "tell" rfl rfl)) rfl) (az (wq "tell" rfl rfl) (az (wq "tell" rfl rfl) (bK (wq "tell" rfl rfl) (sU rfl ⟨_,R.t⟩ (ju R.b rfl rfl) R.t (by rw[abX];omega)))))),?_⟩;exact⟨Ex.set R.ex (by omega) _,(dg (by omega)).trans R.b,(dg (by omega)).trans R.l,by rw[dQ R.t];simp,by simp only;omega,by simp only;omega,by simp only[acg,adj,aen];omega,by simp only;omega,R.vb,R.vl⟩
 | dY a w b c=>
  have hg:=ju (o:=aa 3) (e:=ab ag (aa 9) (eC (.int (4)))) (σ:=st bi ii ph.length s o7 o8 (some (Row.dY a w b c).w) o10) (k:=c) R.b rfl rfl;by_cases h:w=.part/\gt s.bx c=0
  ·obtain⟨rfl,h⟩:=h;exact .inl ⟨"nought",by simp only[cM,h,if_true],sq (az (tF (wq "do" rfl rfl)) rfl) (kN (bK (tT (wq "do" rfl rfl) (tT (eS "part" rfl rfl) (eI hg (decide_eq_true h)))) (retS rfl)))⟩
  ·obtain⟨s',hs⟩:∃s',cM I s (.dY a w b c)=.inr s':=by
    cases w
    case part=>
     have h:¬gt s.bx c=0:=fun z=>h ⟨rfl,z⟩
     exact⟨_,if_neg h⟩
    all_goals exact⟨_,rfl⟩
   obtain⟨H',e,R',t1,t2⟩:=jN R hr hm hs trivial;have d5:st bi ii ph.length s o7 o8 (some (Row.dY a w b c).w) o10=st bi ii ph.length s' o7 o8 (some (Row.dY a w b c).w) o10:=by unfold st;rw[t1,t2]
   refine .inr ⟨s',H',hs,sq (az (tF (wq "do" rfl rfl)) rfl) (sq (az (tT (wq "do" rfl rfl) ?_) rfl) ((bx (by decide) (by decide) (by decide) e).trans (by rw[<- d5];rfl))),R'⟩;by_cases hw:w.s="part"
   ·refine tT (eS w.s rfl (decide_eq_true hw)) (eI hg (decide_eq_false fun z=>h ⟨?_,z⟩));cases w <;> first | rfl | exact absurd hw (by decide)
   ·exact tF (eS w.s rfl (decide_eq_false hw))
 | put a n=>
  obtain⟨H',e,R',t1,t2⟩:=jN (I:=I) R hr hm rfl trivial;exact .inr ⟨_,H',rfl,sq (az (tF (wq "put" rfl rfl)) rfl) (sq (az (tF (wq "put" rfl rfl)) rfl) (bx (by decide) (by decide) (by decide) e)),R'⟩
 | move a b=>
  obtain⟨H',e,R',t1,t2⟩:=jN (I:=I) R hr hm rfl trivial;exact .inr ⟨_,H',rfl,sq (az (tF (wq "move" rfl rfl)) rfl) (sq (az (tF (wq "move" rfl rfl)) rfl) (bx (by decide) (by decide) (by decide) e)),R'⟩
 | pull a b=>
  obtain⟨H',e,R',t1,t2⟩:=jN (I:=I) R hr hm rfl trivial;exact .inr ⟨_,H',rfl,sq (az (tF (wq "pull" rfl rfl)) rfl) (sq (az (tF (wq "pull" rfl rfl)) rfl) (bx (by decide) (by decide) (by decide) e)),R'⟩
 | push a b=>
  obtain⟨H',e,R',t1,t2⟩:=jN (I:=I) R hr hm rfl trivial;exact .inr ⟨_,H',rfl,sq (az (tF (wq "push" rfl rfl)) rfl) (sq (az (tF (wq "push" rfl rfl)) rfl) (bx (by decide) (by decide) (by decide) e)),R'⟩
def bw(rs:List Nat)(B:List bt):List W:=List.zipWith (fun r b=>W.tup [.ref r,b.en.w]) rs B
structure Iq(H:PH)(i:Nat)(rs:List Nat)(B:List bt):Prop where
 at_:H[i]? =some (.lst (bw rs B))
 len:rs.length=B.length
 xl:∀(k r:Nat) b,rs[k]? =some r->B[k]? =some b->H[r]? =some (.lst (b.rs.map Row.w))
def d7(H:PH)(i:Nat)(B:List bt):Prop:=∃rs,Iq H i rs B
theorem d7.mono(h:d7 H i B)(x:Ex H H'):d7 H' i B:=by
 obtain⟨rs,h⟩:=h;exact⟨rs,x.get h.at_,h.len,fun k r b a c=>x.get (h.xl k r b a c)⟩
variable{rs:List Nat}
theorem zE(h:rs.length=B.length):(bw rs B).length=B.length:=by
 unfold bw;rw[List.length_zipWith,h,Nat.min_self]
theorem aar{r:Nat}{b:bt}(h1:rs[k]? =some r)(h2:B[k]? =some b):(bw rs B)[k]? =some (W.tup [.ref r,b.en.w]):=by
 unfold bw;rw[List.getElem?_zipWith,h1,h2]
theorem d7.ix{b:bt}(h:d7 H i B)(hb:B[k]? =some b):∃r,(∀H',Ex H H'->lift (ag (.ref i) (.int k)) H'=.ok (.tup [.ref r,b.en.w]) H')/\H[r]? =some (.lst (b.rs.map Row.w)):=by
 obtain⟨rs,h⟩:=h;have hk:k<B.length:=(abV.mp hb).1;obtain⟨r,hr⟩:∃r,rs[k]? =some r:=bW (by rw[h.len];exact hk);refine⟨r,fun H' x=>ed (x.get h.at_) ?_,h.xl k r b hr hb⟩;rw[fc _ _ (by rw[zE h.len];exact hk)];exact aar hr hb
theorem d7.cc{H:PH}{i:Nat}{B:List bt}(h:d7 H i B):lift (cc [.ref i]) H=.ok (.int B.length) H:=by
 obtain⟨rs,h⟩:=h;rw[lb h.at_,zE h.len]
structure gF(M:Nat)(B:List bt):Prop where
 pos:0<B.length
 top:B.length<=60
 lt:∀(k:Nat) b,B[k]? =some b->∀j∈b.en.to,j<B.length
 rows:∀b∈B,b.rs.length<=M/\∀r∈b.rs,fj r
variable{ri:Nat}
theorem Zd{s:S}{rs:List Row}(R:RI ph H m s)(hr:∀r∈rs,fj r)(hI:gS ph ii I)(hm:m+rs.length<=100000)(gZ:ph[ri]? =some (.lst (rs.map Row.w))) :
  (∃y s' H',cR I rs s=.inl (s'.by y)/\dk (fun p=>decide (p[ri]? =some (.lst (rs.map Row.w)))) (gN 9) me (rs.map Row.w) (st bi ii ph.length s o7 o8 o9 o10) H=.ok (.rt (iE ph.length y s')) H'/\RI ph H' (m+rs.length) s') \/
  (∃s' H' hO,cR I rs s=.inr s'/\dk (fun p=>decide (p[ri]? =some (.lst (rs.map Row.w)))) (gN 9) me (rs.map Row.w) (st bi ii ph.length s o7 o8 o9 o10) H=.ok (.nx (st bi ii ph.length s' o7 o8 hO o10)) H'/\RI ph H' (m+rs.length) s'):=by
 have up:∀{H:PH} {a b:Nat} {s:S},a<=b->RI ph H a s->RI ph H b s:=fun h R=>⟨R.ex,R.b,R.l,R.t,acl R.nb h,acl R.nl h,acl R.nt h,acl R.nk h,R.vb,R.vl⟩
 rcases mW (chk:=fun p=>decide (p[ri]? =some (.lst (rs.map Row.w)))) (g:=gN 9) (b:=me)
  (fun w H=>∃y s',w=iE ph.length y s'/\cR I rs s=.inl (s'.by y)/\RI ph H (m+rs.length) s')
  (fun j σ H=>∃s' hO,σ=st bi ii ph.length s' o7 o8 hO o10/\cR I (rs.take j) s=.inr s'/\RI ph H (m+j) s')
  (rs.map Row.w) 0 (st bi ii ph.length s o7 o8 o9 o10) H
  (fun j σ H zz=>by obtain⟨_,_,_,_,R⟩:=zz;exact decide_eq_true (R.ex.get gZ))
  (fun j x σ H hj zz=>by
   obtain⟨s',hO,e,hs,R⟩:=zz;subst e;rw[acX] at hs R;rw[abY] at hj;obtain⟨r,oy,rfl⟩:=ace.mp hj;have iH:=(abV.mp oy).1;have qC:rs.take (j+1)=rs.take j++[r]:=yw oy;refine⟨_,_,rfl,?_⟩
   rcases aaq (bi:=bi) (ii:=ii) (o7:=o7) (o8:=o8) (o10:=o10) r R (hr r (acd oy)) hI (by omega) with⟨y,h1,h2⟩ | ⟨s2,H2,h1,h2,R2⟩
   ·refine⟨_,_,h2,.inr ⟨_,rfl,y,s',rfl,?_,up (by omega) R⟩⟩;have e:rs=rs.take j++r::rs.drop (j+1):=by
     conv=>lhs;rw[<- List.take_append_drop j rs]
     rw[List.drop_eq_getElem_cons iH]
     congr 2
     rw[adH iH] at oy;exact acY oy
    rw[e,vE,hs];simp only[cR,h1]
   ·refine⟨_,_,h2,.inl ⟨_,.inl rfl,s2,_,rfl,?_,up (by omega) R2⟩⟩;rw[acX,qC,vE,hs];simp only[cR,h1])
  ⟨s,o9,rfl,rfl,R⟩ with⟨ao,H',e,s',hO,rfl,hs,R'⟩ | ⟨w,H',e,y,s',rfl,hs,R'⟩
 ·rw[acX,abX,aeH] at hs;rw[acX,abX] at R';exact .inr ⟨s',H',hO,hs,e,R'⟩
 ·exact .inl ⟨y,s',H',hs,e,R'⟩
theorem JL{g:Int}{e:EM}(h:e σ ph=.ok (.int g) ph):bv iz (ae (ab fy e (eC (.int 0))) ah) σ ph=.ok (.int (if g=0 then 0 else 1)) ph:=by
 rw[yl];refine aw (aC (w:=.bl (!decide (g=0))) (ph1:=ph) (by rw[df];exact aw h (aw rfl (congrFun (z4 g 0) ph))) rfl) ?_;by_cases hg:g=0
 ·rw[if_pos hg,decide_eq_true hg];rfl
 ·rw[if_neg hg,decide_eq_false hg];rfl
variable{M:Nat}
theorem aas{s:S}{b:bt}(R:RI ph H m s)(hB:gF M B)(hA:d7 ph bi B)(hb:B[k]? =some b)(hI:gS ph ii I)(hm:m+M<=100000) :
  (∃y s' H',(∀f,run I B (f+1) k s=s'.by y)/\oG (st bi ii ph.length s (some (.int k)) o8 o9 o10) H=.ok (.rt (iE ph.length y s')) H'/\RI ph H' (m+M) s') \/
  (∃s' H' j hO iF,(∀f,run I B (f+1) k s=run I B f j s')/\j<B.length/\oG (st bi ii ph.length s (some (.int k)) o8 o9 o10) H=.ok (.nx (st bi ii ph.length s' (some (.int j)) o8 hO iF)) H'/\RI ph H' (m+M) s'):=by
 have up:∀{H:PH} {a b:Nat} {s:S},a<=b->RI ph H a s->RI ph H b s:=fun h R=>⟨R.ex,R.b,R.l,R.t,acl R.nb h,acl R.nl h,acl R.nt h,acl R.nk h,R.vb,R.vl⟩
 obtain⟨ri,kO,gZ⟩:=hA.ix hb;obtain⟨BF,BH⟩:=hB.rows b (acd hb);have hit:∀{σ:aQ} {H:PH},Ex ph H->aa 0 σ=ax (.ref bi)->aa 7 σ=ax (.int k)->ab ag (aa 0) (aa 7) σ H=.ok (.tup [.ref ri,b.en.w]) H:=fun{σ H} x h1 h2=>by
  rw[df,h1,h2];exact kO H x
 have h1:∀{H:PH} {s:S} {o9 o10:Option W},Ex ph H->ab ag (ab ag (aa 0) (aa 7)) (eC (.int (0))) (st bi ii ph.length s (some (.int k)) o8 o9 o10) H=.ok (.ref ri) H:=fun x=>aw (hit x rfl rfl) rfl
 have h2:∀{H:PH} {s:S} {o9 o10:Option W},Ex ph H->ab ag (ab ag (aa 0) (aa 7)) (eC (.int (1))) (st bi ii ph.length s (some (.int k)) o8 o9 o10) H=.ok b.en.w H:=fun x=>aw (hit x rfl rfl) rfl
 unfold oG;have eY:∀f,run I B (f+1) k s=match cR I b.rs s with
   | .inl r=>r
   | .inr s=>match eA s b.en with
    | none=>s.by "done"
    | some k=>run I B f k s:=fun f=>by
  conv=>lhs;unfold run
  simp only[hb]
  all_goals rfl
 rcases Zd (bi:=bi) (o7:=some (.int k)) (o8:=o8) (o9:=o9) (o10:=o10) R BH hI (by omega) gZ with⟨y,s',H',q1,q2,R'⟩ | ⟨s',H',hO,q1,q2,R'⟩
 ·exact .inl ⟨y,s',H',fun f=>by rw[eY,q1],kN (ff (gk (h1 R.ex) (R.ex.get gZ)) q2),up (by omega) R'⟩
 ·have R2:RI ph H' (m+M) s':=up (by omega) R';have fr:=ff (gk (h1 (s:=s) (o9:=o9) (o10:=o10) R.ex) (R.ex.get gZ)) q2;cases he:b.en with
  | fin=>
   rw[he] at h2;exact .inl ⟨"done",s',H',fun f=>by rw[eY,q1];simp only[he,eA],sq fr (sq (asg (h2 R'.ex)) (kN (bK (wq "end" rfl rfl) (retS rfl)))),R2⟩
  | go j=>
   rw[he] at h2;exact .inr ⟨s',H',j,hO,some (En.go j).w,fun f=>by rw[eY,q1];simp only[he,eA],hB.lt k b hb j (by rw[he];simp[En.to]),sq fr (sq (asg (h2 R'.ex)) (sq (az (wq "go" rfl rfl) rfl) (sq (asg rfl) (az (wq "go" rfl rfl) rfl)))),R2⟩
  | iff v x z=>
   rw[he] at h2;obtain⟨H2,e2⟩:∃H2,H2=H'++[PO.lst [.int z,.int x]]:=⟨_,rfl⟩
   have x2:Ex H' H2:=e2▸Ex.one _ _;have hl:H2[H'.length]? =some (.lst [.int z,.int x]):=by rw[e2];exact bu _ _
   have hg:=ju (o:=aa 3) (e:=ab ag (aa 10) (eC (.int (1)))) (σ:=st bi ii ph.length s' (some (.int v)) o8 hO (some (En.iff v x z).w)) (k:=v) (x2.get R'.b) rfl rfl;refine .inr ⟨s',H2,if gt s'.bx v=0 then z else x,hO,some (En.iff v x z).w,fun f=>by rw[eY,q1];simp only[he,eA],hB.lt k b hb _ (by rw[he];split <;> simp[En.to]),sq fr (sq (asg (h2 R'.ex)) (sq (az (wq "if" rfl rfl) rfl) (sq (asg (w:=.int v) (ph1:=H') rfl) (bK (wq "if" rfl rfl) ((asg (w:=.int ((if gt s'.bx v=0 then z else x:Nat):Int)) (ph1:=H2) ?_).trans rfl))))),R2.mono x2⟩;rw[df];refine aw (ph':=H2) (a:=.ref H'.length) (by rw[e2];rfl) (aw (JL hg) (ed hl ?_));by_cases hz:gt s'.bx v=0
   ·rw[if_pos hz,if_pos hz];rfl
   ·rw[if_neg hz,if_neg hz];rfl
theorem aat{tn:Int}(hB:gF M B)(hM:M<=100)(hA:d7 ph bi B)(hI:gS ph ii I) :
  ∃H' y s',t9 [.ref bi,.ref ii,.int tn] ph=.ok (iE ph.length y s') H'/\Ex ph H'/\H'[ph.length+2]? =some (.lst (s'.told.map W.int))/\s'.told.length<=100000/\run I B 1000 0 ⟨[],[],[],0,tn⟩=s'.by y:=by
 have up:∀{H:PH} {a b:Nat} {s:S},a<=b->RI ph H a s->RI ph H b s:=fun h R=>⟨R.ex,R.b,R.l,R.t,acl R.nb h,acl R.nl h,acl R.nt h,acl R.nk h,R.vb,R.vl⟩
 obtain⟨s0,es⟩:∃s0:S,s0=⟨[],[],[],0,tn⟩:=⟨_,rfl⟩
 have R0:RI ph (ph++[.aD []]++[.aD []]++[.lst []]) 0 s0:=by
  subst es;refine⟨((Ex.one _ _).trans (Ex.one _ _)).trans (Ex.one _ _),((Ex.one _ _).trans (Ex.one _ _)).get (bu _ _),(Ex.one _ _).get ?_,?_,abZ _,abZ _,abZ _,abZ _,fun p hp=>(nomatch hp),fun p hp=>(nomatch hp)⟩
  ·have:=bu (ph++[PO.aD []]) (PO.aD []);rw[acg] at this;exact this
  ·have:=bu (ph++[PO.aD []]++[PO.aD []]) (PO.lst []);rw[acg,acg] at this;exact this
 obtain⟨H0,eH⟩:∃H0,H0=ph++[PO.aD []]++[PO.aD []]++[PO.lst []]:=⟨_,rfl⟩
 rw[<- eH] at R0;have et:s0.tn=tn:=by rw[es]
 have iN:cD (ae (eC (.int (1000))) ah) (st bi ii ph.length s0 (some (.int ((0:Nat):Int))) none none none) H0=.ok (dB 0 1000,fun _=>true) H0:=ie (j:=1000) rfl (by decide) (by decide);have pre:∀{r:Out W},au (ay (dM (cD (ae (eC (.int (1000))) ah)) (gN 8) oG) (aZ (bB (ae (eC (.str "long")) (ae (aa 5) (ae (aa 6) ah))))) (st bi ii ph.length s0 (some (.int ((0:Nat):Int))) none none none)) dS H0=r->t9 [.ref bi,.ref ii,.int tn] ph=r:=fun{r} h=>by
  unfold t9 mr;rw[nT];refine bq (ph1:=ph++[.aD []]) (σ1:=[some (.ref bi),some (.ref ii),some (.int tn),some (.ref ph.length),none,none,none,none,none,none,none]) rfl (bq (ph1:=ph++[.aD []]++[.aD []]) (σ1:=[some (.ref bi),some (.ref ii),some (.int tn),some (.ref ph.length),some (.ref (ph.length+1)),none,none,none,none,none,none]) ?_ (bq (ph1:=H0) (σ1:=[some (.ref bi),some (.ref ii),some (.int tn),some (.ref ph.length),some (.ref (ph.length+1)),some (.ref (ph.length+2)),none,none,none,none,none]) ?_ (bq rfl (bq rfl ?_))))
  ·refine(asg (w:=.ref (ph.length+1)) (ph1:=ph++[.aD []]++[.aD []]) ?_).trans rfl;show Out.ok (W.ref (ph++[PO.aD []]).length) _=_;rw[acg];rfl
  ·refine(asg (w:=.ref (ph.length+2)) (ph1:=H0) ?_).trans rfl;rw[eH];show Out.ok (W.ref (ph++[PO.aD []]++[PO.aD []]).length) _=_;rw[acg,acg];rfl
  ·rw[<- h,es];rfl
 rcases mW (chk:=fun _=>true) (g:=gN 8) (b:=oG)
  (fun w H=>∃y s',w=iE ph.length y s'/\run I B 1000 0 s0=s'.by y/\RI ph H 100000 s')
  (fun j σ H=>∃(s':S) (k:Nat) (o8 o9 o10:Option W),σ=st bi ii ph.length s' (some (.int k)) o8 o9 o10/\k<B.length/\j<=1000/\run I B 1000 0 s0=run I B (1000-j) k s'/\RI ph H (j*M) s')
  (dB 0 1000) 0 (st bi ii ph.length s0 (some (.int ((0:Nat):Int))) none none none) H0 (fun _ _ _ _=>rfl)
  (fun j x σ H hj zz=>by
   obtain⟨s',k,o8,o9,o10,e,hk,l6,hs,R⟩:=zz;subst e;rw[acX] at hs R l6 ⊢;have iH:j<1000:=by have:=(abV.mp hj).1;rw[kf] at this;exact this
   obtain⟨b,hb⟩:∃b,B[k]? =some b:=bW hk;have BI:j*M+M<=100000:=by
    have:=aeF (show j+1<=1000 by omega) hM;rw[aff] at this;omega
   have e1:1000-j=(1000-(j+1))+1:=by omega
   rw[e1] at hs;refine⟨_,_,rfl,?_⟩
   rcases aas (o8:=some x) (o9:=o9) (o10:=o10) R hB hA hb hI BI with⟨y,s2,H2,q1,q2,R2⟩ | ⟨s2,H2,k2,hO,iF,q1,q0,q2,R2⟩
   ·exact⟨_,_,q2,.inr ⟨_,rfl,y,s2,rfl,by rw[hs,q1],up BI R2⟩⟩
   ·exact⟨_,_,q2,.inl ⟨_,.inl rfl,s2,k2,_,_,_,rfl,q0,by omega,by rw[hs,q1],by rw[aff];exact R2⟩⟩)
  ⟨s0,0,none,none,none,rfl,hB.pos,by omega,rfl,by rw[Nat.zero_mul];exact R0⟩ with⟨ao,H',e,s',k,o8,o9,o10,rfl,_,_,hs,R⟩ | ⟨w,H',e,y,s',rfl,hs,R⟩
 ·rw[kf,acX] at hs R;have R:=up (b:=100000) (by have:=Nat.mul_le_mul_left 1000 hM;omega) R;exact⟨H',"long",s',pre (bq (ff iN e) (br rfl)),R.ex,R.t,R.nt,by rw[<- es,hs];rfl⟩
 ·exact⟨H',y,s',pre (dN (ff iN e)),R.ex,R.t,R.nt,by rw[<- es,hs]⟩
theorem Vk{E:List (List Nat)}{b x:Nat}{c:List Nat}(h:E[k]? =some c):∃c',(iC E o b)[k]? =some c'/\(x∈c'↔x∈c\/(k=o/\x=b)):=by
 unfold iC;cases e:E[o]? with
 | none=>
  refine⟨c,h,⟨.inl,fun z=>z.elim id fun z=>?_⟩⟩;rw[z.1,e] at h;cases h
 | some d=>
  simp only;by_cases hk:o=k
  ·subst hk;rw[e] at h;cases h;refine⟨c++[b],adg (abV.mp e).1,?_⟩;simp
  ·refine⟨c,by rw[adx hk];exact h,⟨.inl,fun z=>z.elim id fun z=>absurd z.1.symm hk⟩⟩
theorem Ey{b k x:Nat}:∀{g:List Nat} {E:List (List Nat)} {c:List Nat},E[k]? =some c->∃c',(kx E b g)[k]? =some c'/\(x∈c'↔x∈c\/(k∈g/\x=b))
 | [],E,c,h=>⟨c,h,by simp⟩
 | o::g,E,c,h=>by
  obtain⟨c1,h1,e1⟩:=Vk (o:=o) (b:=b) (x:=x) h;obtain⟨c2,h2,e2⟩:=Ey (b:=b) (x:=x) (g:=g) h1;refine⟨c2,h2,e2.trans ?_⟩;rw[e1,acD];constructor
  ·rintro((h | ⟨h,h'⟩) | ⟨h,h'⟩)
   ·exact .inl h
   ·exact .inr ⟨.inl h,h'⟩
   ·exact .inr ⟨.inr h,h'⟩
  ·rintro(h | ⟨h | h,h'⟩)
   ·exact .inl (.inl h)
   ·exact .inl (.inr ⟨h,h'⟩)
   ·exact .inr ⟨h,h'⟩
theorem Ez{G:List (List Nat)}{k x:Nat}:∀{bs:List Nat} {E:List (List Nat)} {c:List Nat},E[k]? =some c->∃c',(kn G E bs)[k]? =some c'/\(x∈c'↔x∈c\/(x∈bs/\k∈gc G x))
 | [],E,c,h=>⟨c,h,by simp⟩
 | b::bs,E,c,h=>by
  obtain⟨c1,h1,e1⟩:=Ey (b:=b) (x:=x) (g:=gc G b) h;obtain⟨c2,h2,e2⟩:=Ez (G:=G) (x:=x) (bs:=bs) h1;refine⟨c2,h2,e2.trans ?_⟩;rw[e1,acD];constructor
  ·rintro((h | ⟨h,h'⟩) | ⟨h,h'⟩)
   ·exact .inl h
   ·exact .inr ⟨.inl h',h'▸h⟩
   ·exact .inr ⟨.inr h,h'⟩
  ·rintro(h | ⟨h | h,h'⟩)
   ·exact .inl (.inl h)
   ·exact .inl (.inr ⟨h▸h',h⟩)
   ·exact .inr ⟨h,h'⟩
theorem Tb.wy(t:Tb H i lo hi (EE G)):Wy H i G:=by
 obtain⟨ws,t⟩:=t;have hl:ws.length=G.length:=by rw[t.len];unfold EE;rw[abX]
 have fA:∀(k:Nat) w,ws[k]? =some w->∃r g,w=.ref r/\G[k]? =some g/\H[r]? =some (.lst (iw g)):=fun k w hw=>by
  have hk:=(abV.mp hw).1;obtain⟨g,hg⟩:∃g,G[k]? =some g:=bW (by omega);obtain⟨r,e,_,_,_,hr⟩:=t.ent k w _ hw (zC hg);exact⟨r,g,e,hg,hr⟩
 have oo:ws=(ws.map fun w=>match w with | .ref r=>r | _=>0).map W.ref:=by
  rw[adi]
  conv=>lhs;rw[<- List.map_id' ws]
  apply aeK
  intro w hw;obtain⟨k,hk⟩:=acJ.mp hw;obtain⟨r,g,rfl,_⟩:=fA k w hk;rfl
 refine⟨_,by rw[t.at_,<- oo],by rw[abX];exact hl,fun k r g hr hg=>?_⟩;rw[abY] at hr;obtain⟨w,hw,rfl⟩:=ace.mp hr;obtain⟨r,g',rfl,qD,h⟩:=fA k w hw;rw[hg] at qD;cases qD;exact h
theorem aau{E:List (Option (List W))}(hl:E.length=G.length)(h:∀(j:Nat) c,E[j]? =some c->c=some (iw (gc G j))):E=EE G:=by
 apply aew
 intro j;unfold EE;rw[abY];by_cases hj:j<G.length
 ·obtain⟨c,hc⟩:∃c,E[j]? =some c:=bW (by omega);obtain⟨g,hg⟩:∃g,G[j]? =some g:=bW hj;rw[hc,h j c hc,hg];unfold gc;rw[hg];rfl
 ·rw[acZ (by omega),acZ (by omega)];rfl
theorem ext{o:EM}{e:EM}{us:List W}(ho:o σ=ax (.ref i))(Bz:∃og,ph[i]? =some (.lst og))(he:e σ ph=.ok (.ref j) ph1)(hi:ph1[i]? =some (.lst ws))(hj:ph1[j]? =some (.lst us))(hz:ws.length+us.length<=10000000):da (bR b9 jI o (ae e ah)) σ ph=.ok (.nx σ) (ph1.set i (.lst (ws++us))):=by
 obtain⟨og,h0⟩:=Bz;rw[vw,pf,ho];rw[d9,k9,d9,bf (rp h0),d9,qX,d9,bf he];rw[rm,k9,k9,bf (Sv hi hj (acl hz (by decide)))];rfl
def mk(l:List Nat):List (W×W):=l.map fun k:Nat=>(W.int k,W.bl true)
theorem z8(l:List Nat)(k:Int):cZ (mk l) (.int k)=true:=by
 unfold cZ;have:(mk l).all (fun p=> !j7 p.1)=true:=by
  rw[adk];intro p hp;obtain⟨x,_,rfl⟩:=acq.mp hp;rfl
 rw[this];rfl
theorem Hq(l:List Nat)(k:Nat):(dh (mk l) (.int k)).isSome=decide (k∈l):=by
 unfold dh mk;rw[aec,aft,afK];simp only[decide_eq_true_eq];constructor
 ·rintro⟨p,hp,e⟩;obtain⟨x,hx,rfl⟩:=acq.mp hp;injection e with e
  have:x=k:=by omega
  rw[<- this];exact hx
 ·intro h;exact⟨_,adQ h,rfl⟩
def ins(l:List Nat)(k:Nat):List Nat:=if k∈l then l else l++[k]
theorem Ze(l:List Nat)(k:Nat):dH (mk l) (.int k) (.bl true)=mk (ins l k):=by
 unfold dH ins;have e:((mk l).any fun p=>decide (p.1=.int k))=decide (k∈l):=by
  rw[aft,afj];simp only[decide_eq_true_eq];constructor
  ·rintro⟨p,hp,e⟩;obtain⟨x,hx,rfl⟩:=acq.mp hp;injection e with e
   have:x=k:=by omega
   rw[<- this];exact hx
  ·intro h;exact⟨_,adQ h,rfl⟩
 rw[e];by_cases h:k∈l
 ·rw[if_pos (decide_eq_true h),if_pos h];unfold mk;rw[adi];apply aeK;intro x _;simp only[aeT];split
  ·rfl
  ·rfl
 ·rw[if_neg (by rw[decide_eq_false h];exact acF),if_neg h];unfold mk;rw[adF];rfl
theorem JN{e:EM}(h:e σ ph=.ok (.int n) ph):eT (ab gY e (eC (.int 0))) σ ph=.ok (decide (0<n)) ph:=by
 rw[fE,df,d9,bf h];ac_nf
 congr 1
 exact decide_eq_decide.mpr (by omega)
theorem neS(x:String){y:String}{e:EM}(h:e σ ph=.ok (.str x) ph)(hc:(!decide (x=y))=c):eT (ab fy e (eC (.str y))) σ ph=.ok c ph:=by
 rw[fE,df,d9,bf h,<- hc];ac_nf
def En.x:En->String
 | .go _=>"go"
 | .iff _ _ _=>"if"
 | .fin=>"end"
theorem Ay(e:En)(H:PH):lift (ag e.w (.int 0)) H=.ok (.str e.x) H:=by cases e <;> rfl
theorem aav(hB:gF M B)(hA:d7 ph bi B)(hk:k<B.length):qZ [.ref bi,.int k] ph=.ok (.int ((cf B B.length k:Nat):Int)) ph:=by
 have ht:=hB.top;have iN:cD (ae (bv cc (ae (aa 0) ah)) ah) [some (.ref bi),some (.int k),none,none] ph=.ok (dB 0 B.length,fun _=>true) ph:=ie (j:=B.length) (aC (aw (aC rfl rfl) hA.cc) rfl) (by omega) (by omega);unfold qZ mY;rw[lH]
 rcases mW (chk:=fun _=>true) (g:=gN 2) (b:=xS)
  (fun w H=>w=.int ((cf B B.length k:Nat):Int)/\H=ph)
  (fun j σ H=>∃(k':Nat) (o2 o3:Option W),σ=[some (.ref bi),some (.int k'),o2,o3]/\H=ph/\k'<B.length/\j<=B.length/\cf B B.length k=cf B (B.length-j) k')
  (dB 0 B.length) 0 [some (.ref bi),some (.int k),none,none] ph (fun _ _ _ _=>rfl)
  (fun j x σ H hj zz=>by
   obtain⟨k',o2,o3,rfl,rfl,wX,_,hl⟩:=zz;rw[acX] at hl ⊢;have iH:j<B.length:=by have:=(abV.mp hj).1;rw[kf] at this;exact this
   obtain⟨b,hb⟩:∃b,B[k']? =some b:=bW wX;obtain⟨ri,kO,gZ⟩:=hA.ix hb;have e1:B.length-j=(B.length-(j+1))+1:=by omega
   refine⟨_,_,rfl,?_⟩;have a1:aE (ab ag (aa 0) (aa 1)) (gN 3) [some (.ref bi),some (.int k'),some x,o3] H=.ok (.nx [some (.ref bi),some (.int k'),some x,some (.tup [.ref ri,b.en.w])]) H:=asg (kO H (Ex.refl _));have t1:eT (ab gY (bv cc (ae (ab ag (aa 3) (eC (.int (0)))) ah)) (eC (.int (0)))) [some (.ref bi),some (.int k'),some x,some (.tup [.ref ri,b.en.w])] H=.ok (decide (0<b.rs.length)) H:=JN (aw (aC rfl rfl) ((lb gZ).trans (by rw[abX])));have t2:∀{c:Bool},(!decide (b.en.x="go"))=c->eT (ab fy (ab ag (ab ag (aa 3) (eC (.int (1)))) (eC (.int (0)))) (eC (.str "go"))) [some (.ref bi),some (.int k'),some x,some (.tup [.ref ri,b.en.w])] H=.ok c H:=fun hc=>neS b.en.x (Ay b.en H) hc
   unfold xS;obtain⟨rs,en⟩:=b;cases rs with
   | cons r rs=>
    refine⟨_,_,sq a1 (kN (bK (by rw[la];exact aw t1 rfl) (retS rfl))),.inr ⟨_,rfl,?_,rfl⟩⟩;rw[hl,e1];unfold cf;rw[hb]
   | nil=>
    have stop:cf B (B.length-j) k'=k'->(!decide (En.x en="go"))=true->∃f ph2,ay (aE (ab ag (aa 0) (aa 1)) (gN 3)) (ay (aW (dj (eT (ab gY (bv cc (ae (ab ag (aa 3) (eC (.int (0)))) ah)) (eC (.int (0))))) (eT (ab fy (ab ag (ab ag (aa 3) (eC (.int (1)))) (eC (.int (0)))) (eC (.str "go"))))) (aZ (aa 1)) bN) (aE (ab ag (ab ag (aa 3) (eC (.int (1)))) (eC (.int (1)))) (gN 1))) [some (.ref bi),some (.int k'),some x,o3] H=.ok f ph2/\f=.rt (.int ((cf B B.length k:Nat):Int))/\ph2=H:=fun q1 q2=>
     ⟨_,_,sq a1 (kN (bK (by rw[la];exact aw t1 (t2 q2)) (retS rfl))),by rw[hl,q1],rfl⟩
    cases en with
    | go g=>
     refine⟨_,_,sq a1 (sq (az (by rw[la];exact aw t1 (t2 rfl)) rfl) (asg (w:=.int g) rfl)),.inl ⟨_,.inl rfl,g,_,_,rfl,rfl,hB.lt k' _ hb g (by simp[En.to]),by omega,?_⟩⟩;rw[hl,e1]
     conv=>lhs;unfold cf
     rw[hb]
    | iff v a c=>
     obtain⟨f,ph2,q1,q2,q3⟩:=stop (by rw[e1];unfold cf;rw[hb]) rfl;exact⟨f,ph2,q1,.inr ⟨_,q2,rfl,q3⟩⟩
    | fin=>
     obtain⟨f,ph2,q1,q2,q3⟩:=stop (by rw[e1];unfold cf;rw[hb]) rfl;exact⟨f,ph2,q1,.inr ⟨_,q2,rfl,q3⟩⟩)
  ⟨k,none,none,rfl,rfl,hk,by omega,rfl⟩ with⟨ao,H',e,k',o2,o3,rfl,rfl,_,_,hl⟩ | ⟨w,H',e,rfl,rfl⟩
 ·rw[kf,acX,Nat.sub_self] at hl;refine bq (ff iN e) (br ?_);rw[hl];rfl
 ·exact dN (ff iN e)
theorem Gz{tw:W}(e:En)(h:Nat->Nat)(ht:∀t∈e.to,lift (ag tw (.int t)) H=.ok (.int (h t:Int)) H):mJ [e.w,tw] H=.ok (e.mp h).w H:=by
 unfold mJ kY;rw[lH];cases e with
 | go k=>exact dN (bK (wq "go" rfl rfl) (retS (aw (aC rfl (aC (ht k (by simp[En.to])) rfl)) rfl)))
 | iff v a b=>exact bq (az (wq "if" rfl rfl) rfl) (dN (bK (wq "if" rfl rfl) (retS (aw (aC rfl (aC rfl (aC (ht a (by simp[En.to])) (aC (ht b (by simp[En.to])) rfl)))) rfl))))
 | fin=>exact bq (az (wq "end" rfl rfl) rfl) (bq (az (wq "end" rfl rfl) rfl) rfl)
theorem D0(e:En)(ph:PH):qI [e.w] ph=.ok (.ref ph.length) (ph++[.lst (iw e.to)]):=by
 unfold qI kR;rw[jl];cases e with
 | go k=>exact dN (bK (wq "go" rfl rfl) (retS rfl))
 | iff v a b=>exact bq (az (wq "if" rfl rfl) rfl) (dN (bK (wq "if" rfl rfl) (retS rfl)))
 | fin=>exact bq (az (wq "end" rfl rfl) rfl) (bq (az (wq "end" rfl rfl) rfl) rfl)
theorem zd(as:List α)(h:α->W){cap:List (Option Nat)}{g:GM}{e:EM}{ph0:PH}(sS:im σ ph0=.ok (as.map h,chk) ph)(sT:∀ph',Ex ph ph'->chk ph'=true)(hz:as.length<=1000)
  (P:Nat->W->PH->Prop) (hP:∀j w H H',P j w H->(∀r o,r≠ph.length->H[r]? =some o->H'[r]? =some o)->P j w H') (S:aQ->Prop) (h0:S (gq cap σ))
  (step:∀j x,as[j]? =some x->∀σ H,S σ->Ex ph H->ph.length<H.length->∃σ1,g (h x) σ H=.ok σ1 H/\S σ1/\∃w H2,e σ1 H=.ok w H2/\Ex H H2/\P j w H2) :
  ∃ph' ws,cB im cap g cJ e σ ph0=.ok (.ref ph.length) ph'/\Ex ph ph'/\ph'[ph.length]? =some (.lst ws)/\ws.length=as.length/\∀j w,ws[j]? =some w->P j w ph':=by
 rw[yI,bf sS];obtain⟨nU,ao,ph',ec,hS,x1,x2,x3,x4⟩:=u9 (chk:=chk) (g:=g) (c:=cJ) (e:=e) ph.length
  (fun k acc σ H=>S σ/\Ex ph H/\H[ph.length]? =some (.lst acc)/\acc.length=k/\∀(j:Nat) w,acc[j]? =some w->P j w H)
  (as.map h) 0 [] (gq cap σ) (ph++[.lst []]) (fun j acc σ H hI=>sT _ hI.2.1)
  (fun j y acc σ H hj hI=>by
   rw[acX] at hI ⊢;obtain⟨hS,x1,x2,x3,x4⟩:=hI;rw[abY] at hj;obtain⟨x,hx,rfl⟩:=ace.mp hj;have iH:=(abV.mp hx).1;obtain⟨σ1,e1,iJ,w,H2,e2,y1,y2⟩:=step j x hx σ H hS x1 (je x2);have keep:∀r o,r≠ph.length->H2[r]? =some o->(H2.set ph.length (.lst (acc++[w])))[r]? =some o:=fun r o hr ho=>(dg (aej hr)).trans ho
   refine⟨σ1,H,e1,true,H,rfl,.inr ⟨rfl,w,H2,e2,y1.get x2,aca (by omega:acc.length<1001) (by decide),iJ,Ex.set (x1.trans y1) (abZ _) _,dQ (y1.get x2),by simp[x3],fun i w' BE=>?_⟩⟩
   rcases ig BE with⟨_,z⟩ | ⟨z0,z⟩
   ·exact hP i w' H _ (x4 i w' z) fun r o hr ho=>keep r o hr (y1.get ho)
   ·rw[z,z0,x3];exact hP j w H2 _ y2 keep)
  ⟨h0,Ex.one _ _,bu _ _,rfl,fun j w z=>by simp at z⟩
 rw[acX,abX] at x3;exact⟨ph',nU,bf ec,x1,x2,x3,x4⟩
theorem set_same{o:PO}(h:H[i]? =some o):H.set i o=H:=by
 obtain⟨hl,e⟩:=abV.mp h;rw[<- e];exact List.set_getElem_self hl
def wB(T:List (List Nat))(E:List En)(k:Nat):Bool:=match T[k]? with
 | some [b]=>decide (0<k)&&(match E[b]? with
  | some (.go _)=>true
  | _=>false)
 | _=>false
def wl(T:List (List Nat))(E:List En)(n:Nat):List Nat:=(acC n).filter (wB T E)
def dq(E:List En):List (List Nat):=E.map En.to
def c4(G:List (List Nat))(L:List Nd):List (List Nat):=kn G (acf G.length []) (up (ks L) G.length)
theorem Fw(T:List (List Nat))(E:List En)(j:Nat):wl T E (j+1)=if wB T E j=true then wl T E j++[j] else wl T E j:=by
 unfold wl;rw[List.range_succ,List.filter_append];simp only[afY,List.filter_nil];split
 ·rfl
 ·rw[adp]
variable{E:List En}
theorem z9{T:List (List Nat)}(h:k∈wl T E n):k<n/\wB T E k=true:=by
 unfold wl at h;have:=adu.mp h;exact⟨ade.mp this.1,this.2⟩
theorem Fx{x:Nat}(hk:k<G.length):∃c,(c4 G L)[k]? =some c/\(x∈c↔x∈up (ks L) G.length/\k∈gc G x):=by
 obtain⟨c,h1,h2⟩:=Ez (G:=G) (k:=k) (x:=x) (bs:=up (ks L) G.length) (E:=acf G.length []) (c:=[]) (by rw[aed,if_pos hk]);exact⟨c,h1,by rw[h2];simp⟩
theorem pE{L:List Nat}:k∈up L n↔k<n/\k∈L:=by
 unfold up;rw[adu,ade,decide_eq_true_eq]
variable{ei:Nat}
theorem Zf{r:Nat}{T:List (List Nat)}{c:List Nat}{o1:Option W}(hE:H[ei]? =some (.lst (E.map En.w)))(hr:H[r]? =some (.lst (iw c)))(hc:T[k]? =some c)(cE:∀b∈c,b<E.length) :
  cQ (eT (ab gY (aa 2) (eC (.int (0))))) (cQ (eT (ab aH (bv cc (ae (aa 3) ah)) (eC (.int (1))))) (eT (ab aH (ab ag (ab ag (aa 0) (ab ag (aa 3) (eC (.int (0))))) (eC (.int (0)))) (eC (.str "go"))))) [some (.ref ei),o1,some (.int k),some (.ref r)] H=.ok (wB T E k) H:=by
 have t1:eT (ab gY (aa 2) (eC (.int (0)))) [some (.ref ei),o1,some (.int k),some (.ref r)] H=.ok (decide (0<k)) H:=JN rfl;unfold wB;rw[hc];by_cases hk:0<k
 ·rw[decide_eq_true hk] at t1;refine tT t1 ?_;have t2:∀(d:Bool),decide ((c.length:Int)=1)=d->eT (ab aH (bv cc (ae (aa 3) ah)) (eC (.int (1)))) [some (.ref ei),o1,some (.int k),some (.ref r)] H=.ok d H:=fun d hd=>eI (aw (aC rfl rfl) ((lb hr).trans (by rw[jd]))) hd
  match c,hr,cE,t2 with
  | [],_,_,t2=>exact tF (t2 _ rfl)
  | _::_::l,_,_,t2=>exact tF (t2 _ (decide_eq_false (by simp only[adj];omega)))
  | [b],hr,cE,t2=>
   refine tT (t2 _ rfl) ?_;have hb:=cE b (by simp);obtain⟨e,he⟩:∃e,E[b]? =some e:=bW hb;have i1:ab ag (aa 3) (eC (.int (0))) [some (.ref ei),o1,some (.int k),some (.ref r)] H=.ok (.int b) H:=aw rfl (aw rfl (ed hr rfl));have i2:ab ag (aa 0) (ab ag (aa 3) (eC (.int (0)))) [some (.ref ei),o1,some (.int k),some (.ref r)] H=.ok e.w H:=aw rfl (aw i1 (ed hE (by rw[fc _ _ (by rw[abX];exact hb),abY,he];rfl)));have i3:ab ag (ab ag (aa 0) (ab ag (aa 3) (eC (.int (0))))) (eC (.int (0))) [some (.ref ei),o1,some (.int k),some (.ref r)] H=.ok (.str e.x) H:=aw i2 (aw rfl (Ay e H));simp only[he,decide_eq_true hk,Bool.true_and];rw[fE,df,d9,bf i3];ac_nf
   congr 1
   cases e <;> rfl
 ·rw[decide_eq_false hk] at t1;have:(match some c with
   | some [b]=>decide (0<k)&&(match E[b]? with
    | some (.go _)=>true
    | _=>false)
   | _=>false)=false:=by
   rw[decide_eq_false hk];split <;> simp
  exact(tF t1).trans (by rw[this])
theorem Vl(hE:ph[ei]? =some (.lst (E.map En.w)))(hG:Ok (dq E)) :
  ∃ph' L,xE [.ref ei] ph=.ok (.ref ph.length) ph'/\Ex ph ph'/\Bf (dq E) L L.length/\ph'[ph.length]? =some (.aD (mk (wl (c4 (dq E) L) E E.length))):=by
 have hn:(dq E).length=E.length:=abX _;have ht:=hG.top;obtain⟨H1,e1⟩:∃H1,H1=ph++[PO.aD []]:=⟨_,rfl⟩
 have x1:Ex ph H1:=e1▸Ex.one _ _;have l1:H1.length=ph.length+1:=by rw[e1];simp
 have BJ:=x1.get hE;obtain⟨H2,EE2,e2,x2,gz,hP2,t2⟩:=Ft E En.w (ph:=H1) (cap:=[none]) (g:=gN 0) (e:=aX qI (ae (aa 0) ah)) (σ:=[some (.ref ei),some (.ref ph.length),none,none]) (gk (m:=aa 0) (ph:=H1) rfl BJ) (fun p x=>decide_eq_true (x.get BJ)) (by omega) (fun j c=>c=some (iw (gc (dq E) j))) (fun σ=>∃o,σ=[o]) ⟨none,rfl⟩
  (fun j e hj σ H hS y cE=>by
   obtain⟨o,rfl⟩:=hS;refine⟨_,rfl,⟨_,rfl⟩,.ref H.length,(H++[PO.lst (iw e.to)]:PH),some (iw e.to),aw (aC rfl rfl) (D0 e H),Ex.one _ _,by unfold gc dq;rw[abY,hj];rfl,H.length,rfl,abZ _,by simp,by omega,bu _ _⟩)
 rw[aau (by rw[gz,hn]) hP2] at t2;obtain⟨ti,L,H3,e3,x3,b,tt,sm⟩:=WP t2.wy hG;have l2:=x2.len;have l3:=x3.len;obtain⟨T,xm⟩:∃T,T=c4 (dq E) L:=⟨_,rfl⟩
 have sY:T.length=E.length:=by rw[xm];unfold c4;rw[DY,afc,hn]
 have tt:Tb H3 ti H2.length H3.length (EE T):=by rw[xm];exact tt
 obtain⟨ws,tw⟩:=tt;have hE3:H3[ei]? =some (.lst (E.map En.w)):=x3.get (x2.get BJ);have abS:=je hE;have BK:H3[ph.length]? =some (.aD []):=x3.get (x2.get (by rw[e1];exact bu _ _));have hti:=tw.li;obtain⟨ao,H',e4,o2,o3,rfl,rfl⟩:=mX (chk:=fun p=>decide (p[ti]? =some (.lst ws))) (g:=ji 2 [gN 2,gN 3]) (b:=xy)
  (fun j σ H=>∃o2 o3,σ=[some (.ref ei),some (.ref ph.length),o2,o3]/\H=H3.set ph.length (.aD (mk (wl T E j))))
  (il ws) [some (.ref ei),some (.ref ph.length),none,none] H3
  (fun j σ H zz=>by obtain⟨_,_,_,rfl⟩:=zz;exact decide_eq_true ((dg (by omega)).trans tw.at_))
  (fun j x σ H hj zz=>by
   obtain⟨o2,o3,rfl,rfl⟩:=zz;obtain⟨w,hw,rfl⟩:=Wm hj;have iH:j<E.length:=by rw[<- sY];have:=(abV.mp hw).1;have:=tw.len;unfold EE at this;rw[abX] at this;omega
   obtain⟨c,hc⟩:∃c,T[j]? =some c:=bW (by omega);obtain⟨r,rfl,r1,r2,r3,r4⟩:=tw.ent j w _ hw (zC hc);refine⟨_,_,rfl,?_⟩;have cE:∀b∈c,b<E.length:=fun b hb=>by
    obtain⟨c',fJ,q⟩:=Fx (G:=dq E) (L:=L) (k:=j) (x:=b) (by omega);rw[<- xm,hc] at fJ;cases fJ;have:=(pE.mp (q.mp hb).1).1;omega
   have test:=Zf (o1:=some (.ref ph.length)) (H:=H3.set ph.length (.aD (mk (wl T E j)))) (ei:=ei) (r:=r) (k:=j) (E:=E) (T:=T) (c:=c) ((dg (by omega)).trans hE3) ((dg (by omega)).trans r4) hc cE;unfold xy;by_cases hw:wB T E j=true
   ·rw[hw] at test;have ha:aE (eC (.bl true)) (eU (aa 1) (aa 2)) [some (.ref ei),some (.ref ph.length),some (.int j),some (.ref r)] (H3.set ph.length (.aD (mk (wl T E j))))=.ok (.nx [some (.ref ei),some (.ref ph.length),some (.int j),some (.ref r)]) ((H3.set ph.length (.aD (mk (wl T E j)))).set ph.length (.aD (dH (mk (wl T E j)) (.int j) (.bl true)))):=by
     rw[pq];refine aw rfl ?_;rw[qY];refine aw (aw rfl (aw rfl (aw (vB (dQ BK) (z8 _ _) (by unfold mk;rw[abX];unfold wl;exact adU (afh _ _) (by rw[acI];exact aca (show j<1000 by omega) (by decide))) _) rfl))) rfl
    refine⟨_,_,bK test ha,_,.inl rfl,some (.int j),some (.ref r),rfl,?_⟩;rw[Ze,List.set_set,Fw,if_pos hw]
    congr 3
    unfold ins;rw[if_neg (fun z=>absurd (z9 z).1 (adJ _))]
   ·have hw:wB T E j=false:=by simpa using hw
    rw[hw] at test;refine⟨_,_,az test rfl,_,.inl rfl,some (.int j),some (.ref r),rfl,?_⟩;rw[Fw,if_neg (by rw[hw];exact acF)])
  ⟨none,none,rfl,by
   rw[show mk (wl T E 0)=[] from rfl];exact(set_same BK).symm⟩
 have jX:ws.length=E.length:=by have:=tw.len;unfold EE at this;rw[abX] at this;omega
 rw[Wn,jX] at e4;refine⟨_,L,?_,Ex.set (x1.trans (x2.trans x3)) (abZ _) _,b,by rw[<- xm];exact dQ BK⟩;unfold xE mf;rw[jl];refine bq (ph1:=H1) (σ1:=[some (.ref ei),some (.ref ph.length),none,none]) (by rw[e1];rfl) (bq (ff (DQ (i:=ti) (ws:=ws) (ph':=H3) ?_ tw.at_) e4) rfl);exact aC (aw (aC e2 rfl) e3) rfl
theorem D1(h:ph[i]? =some (.lst ws)):lift (km [.ref i]) ph=.ok (.ref ph.length) (ph++[.lst ws]):=by
 have e:km [.ref i] ph=pH [.ref i] ph:=by
  unfold km;simp only[z5 h]
 have:=US h;unfold lift at this ⊢;rw[e];exact this
theorem WT(hE:ph[ei]? =some (.lst (E.map En.w))):wJ ph (dq E) (.fn "threaded" [.ref ei]):=fun s0 s2 s3 s4 s5 s7 H tk g x hg=>by
 have qD:∃e,E[tk]? =some e/\e.to=g:=by
  unfold dq at hg;rw[abY] at hg;exact ace.mp hg
 obtain⟨e,he,rfl⟩:=qD;refine⟨H.length,H++[.lst (iw e.to)],?_,Ex.one _ _,bu _ _,.inr (abZ _)⟩;have fA:ck (E.map En.w) (tk:Int)=some e.w:=by rw[fc _ _ (by rw[abX];exact(abV.mp he).1),abY,he];rfl
 have e2:l_threaded [some (.int tk),some (.ref ei)] H=.ok (.ref H.length) (H++[.lst (iw e.to)]):=by
  unfold l_threaded;exact aw (aC (aw rfl (aw rfl (ed (x.get hE) fA))) rfl) (D0 e H)
 show jk "threaded" l_threaded 1 (ae (aa 6) ah) [s0,some (.fn "threaded" [.ref ei]),s2,s3,s4,s5,some (.int tk),s7] H=_;unfold jk;simp only[afV,afW,wH,if_true];refine aw (aC rfl rfl) ?_;unfold sL dm;simp only[e2]
theorem D2{L':List Nd}(b:Bf G L L.length)(b':Bf G L' L'.length):∀x∈ks L,x∈ks L':=by
 have key:∀(i:Nat) x,L[i]? =some x->x.k∈ks L':=fun i=>by
  induction i using agn with
  | ind i ih=>
   intro x hx;by_cases hi:i=0
   ·subst hi;rw[b.zero] at hx;cases hx;exact acq.mpr ⟨_,acd b'.zero,rfl⟩
   ·obtain⟨j,y,g,h1,h2,_,_,h5,h6⟩:=b.jW i x hx hi;obtain⟨y',hy',e⟩:=acq.mp (ih j h1 y h2);obtain⟨j',l7⟩:=acJ.mp hy';obtain⟨x',gE,e',_⟩:=b'.closed j' y' g (abV.mp l7).1 l7 (by rw[e];exact h5) x.k h6;exact acq.mpr ⟨x',gE,e'⟩
 intro x hx;obtain⟨y,hy,rfl⟩:=acq.mp hx;obtain⟨i,hi⟩:=acJ.mp hy;exact key i y hi
theorem up_eq{L':List Nd}(b:Bf G L L.length)(b':Bf G L' L'.length):up (ks L) G.length=up (ks L') G.length:=by
 unfold up;apply List.filter_congr;intro k _;exact decide_eq_decide.mpr ⟨D2 b b' k,D2 b' b k⟩
structure Wi(E:List En)(F W:List Nat):Prop where
 lt:∀x∈F,x<E.length
 nd:F.Nodup
 cl:∀x∈F,∀e,E[x]? =some e->∀t∈e.to,t∈F
 one:∀k∈W,∃b∈F,E[b]? =some (.go k)/\∀b'∈F,∀e,E[b']? =some e->k∈e.to->b'=b
 zero:0∈F/\0∉W
theorem aaw(hG:Ok (dq E))(b:Bf (dq E) L L.length):Wi E (up (ks L) E.length) (wl (c4 (dq E) L) E E.length):=by
 have hn:(dq E).length=E.length:=abX _;have sZ:∀{x:Nat} {e:En},E[x]? =some e->(dq E)[x]? =some e.to:=fun{x e} h=>by unfold dq;rw[abY,h];rfl
 refine⟨fun x hx=>(pE.mp hx).1,?_,fun x hx e he t ht=>?_,fun k hk=>?_,?_,?_⟩
 ·unfold up;exact aez _ List.nodup_range
 ·obtain⟨h1,h2⟩:=pE.mp hx;obtain⟨y,hy,rfl⟩:=acq.mp h2;obtain⟨i,hi⟩:=acJ.mp hy;obtain⟨x',gE,e',_⟩:=b.closed i y _ (abV.mp hi).1 hi (sZ he) t ht;have:=b.lt x' gE;exact pE.mpr ⟨by omega,acq.mpr ⟨x',gE,e'⟩⟩
 ·obtain⟨h1,h2⟩:=z9 hk;unfold wB at h2;split at h2
  ·rename_i b0 hT;rw[aco] at h2;have mem:∀x,x∈[b0]↔x∈up (ks L) E.length/\k∈gc (dq E) x:=fun x=>by
    obtain⟨c,hc,q⟩:=Fx (G:=dq E) (L:=L) (k:=k) (x:=x) (by omega);rw[hT] at hc;cases hc;rw[<- hn];exact q
   obtain⟨m1,m2⟩:=(mem b0).mp (by simp);refine⟨b0,m1,?_,fun b' hb' e he hke=>?_⟩
   ·cases he:E[b0]? with
    | none=>rw[he] at h2;cases h2.2
    | some e=>
     rw[he] at h2;cases e with
     | go j=>
      unfold gc at m2;rw[sZ he] at m2;have:k=j:=by simpa[En.to] using m2
      rw[this]
     | iff v a c=>cases h2.2
     | fin=>cases h2.2
   ·have:=(mem b').mpr ⟨hb',by unfold gc;rw[sZ he];exact hke⟩
    simpa using this
  ·cases h2
 ·exact pE.mpr ⟨by have:=hG.pos;omega,acq.mpr ⟨_,acd b.zero,rfl⟩⟩
 ·intro z;have h2:=(z9 z).2;unfold wB at h2;split at h2
  ·simp at h2
  ·cases h2
theorem EA{E:List En}:∀{l:List Nat} {z j:Nat},Way E l->l.getLast? =some z->E[z]? =some (.go j)->Way E (l++[j])
 | [k],z,j,h,hz,he=>by
  have:k=z:=by simpa using hz
  subst this;exact⟨he,trivial⟩
 | k::k2::l,z,j,h,hz,he=>⟨h.1,EA (l:=k2::l) h.2 (by simpa[afX] using hz) he⟩
theorem GA{E:List En}:∀{l:List Nat} {i x y:Nat},Way E l->l[i]? =some x->l[i+1]? =some y->E[x]? =some (.go y)
 | [k],i,x,y,h,h1,h2=>by cases h2
 | k::k2::l,0,x,y,h,h1,h2=>by
  cases h1;cases h2;exact h.1
 | k::k2::l,i+1,x,y,h,h1,h2=>GA (l:=k2::l) h.2 h1 h2
variable{F:List Nat}{k0:Nat}
theorem WU{W:List Nat}(w:Wi E F W){z:Nat}(h:Way E l)(hF:∀x∈l,x∈F)(h0:l[0]? =some k0)(oz:k0∉W)(hn:l.Nodup)(hz:l.getLast? =some z)(he:E[z]? =some (.go j))(hj:j∈W):j∉l:=fun hm=>by
 obtain⟨i,hi⟩:=acJ.mp hm;have hil:=(abV.mp hi).1;cases i with
 | zero=>rw[h0] at hi;cases hi;exact oz hj
 | succ i=>
  obtain⟨x,hx⟩:∃x,l[i]? =some x:=bW (by omega);obtain⟨b,_,_,hb⟩:=w.one j hj;have e1:x=b:=hb x (hF x (acd hx)) _ (GA h hx hi) (by simp[En.to]);have JO:l[l.length-1]? =some z:=by rw[<- afC];exact hz
  have e2:z=b:=hb z (hF z (acd JO)) _ he (by simp[En.to]);have gE:=hx;rw[e1,<- e2] at gE;obtain⟨q1,q2⟩:=abV.mp gE;obtain⟨q3,q4⟩:=abV.mp JO;have:=(List.getElem_inj hn).mp (q2.trans q4.symm);omega
structure Jn(E:List En)(F W:List Nat)(k:Nat)(l:List Nat):Prop where
 way:Way E l
 oA:∀x∈l,x∈F
 hd:l[0]? =some k
 nd:l.Nodup
theorem Uq(B:List bt)(l:List Nat){b:bt}(h:B[j]? =some b):rowsOf B (l++[j])=rowsOf B l++b.rs:=by
 unfold rowsOf;rw[List.flatMap_append];simp[h]
theorem yQ{B:List bt}{M:Nat}(hB:gF M B):∀(l:List Nat),(rowsOf B l).length<=M*l.length
 | []=>by simp[rowsOf]
 | k::l=>by
  have ih:=yQ hB l;unfold rowsOf at ih ⊢;rw[aeY,acg,adj,Nat.mul_succ];cases h:B[k]? with
  | none=>simp only[aen];omega
  | some b=>
   have:=(hB.rows b (acd h)).1;simp only;omega
theorem WV(hB:gF M B):∀r∈rowsOf B l,fj r:=fun r hr=>by
 unfold rowsOf at hr;obtain⟨k,_,hk⟩:=List.mem_flatMap.mp hr;cases h:B[k]? with
 | none=>rw[h] at hk;cases hk
 | some b=>rw[h] at hk;exact(hB.rows b (acd h)).2 r hk
structure JC(ph:PH)(bi ei wi M:Nat)(B:List bt)(E:List En)(W:List Nat):Prop where
 ok:gF M B
 hM:M<=100
 at_:d7 ph bi B
 ends:ph[ei]? =some (.lst (E.map En.w))
 el:E.length=B.length
 win:ph[wi]? =some (.aD (mk W))
theorem Vm{W:List Nat}(c:JC ph bi ei wi M B E W)(w:Wi E F W)(x:Ex ph H)(hk:k∈F)(oz:k∉W) :
  ∃H' l z e,um [.ref bi,.ref ei,.ref wi,.int k] H=.ok (.tup [.ref H.length,e.w]) H'/\Ex H H'/\H'[H.length]? =some (.lst ((rowsOf B l).map Row.w))/\Jn E F W k l/\l.getLast? =some z/\E[z]? =some e/\∀j,e=.go j->j∉W:=by
 have hkE:=w.lt k hk;have ht:=c.ok.top;have hel:=c.el;obtain⟨b,hb⟩:∃b,B[k]? =some b:=bW (by omega);obtain⟨e0,JP⟩:∃e0,E[k]? =some e0:=bW hkE;obtain⟨ri,kO,gZ⟩:=c.at_.ix hb;have endAt:∀{j:Nat} {e:En} {H:PH},Ex ph H->E[j]? =some e->lift (ag (.ref ei) (.int j)) H=.ok e.w H:=fun{j e H} x he=>ed (x.get c.ends) (by rw[fc _ _ (by rw[abX];exact(abV.mp he).1),abY,he];rfl)
 obtain⟨H1,e1⟩:∃H1,H1=H++[PO.lst (b.rs.map Row.w)]:=⟨_,rfl⟩
 have x1:Ex H H1:=e1▸Ex.one _ _;have g1:H1[H.length]? =some (.lst (b.rs.map Row.w)):=by rw[e1];exact bu _ _
 have abL:F.length<=E.length:=by
  have:=kb w.nd w.lt;exact this
 obtain⟨ao,H',e,l,z,en,rfl,j1,j2,j3,j4,j5,j6⟩:=yn (t:=cQ (eT (ab aH (ab ag (aa 5) (eC (.int (0)))) (eC (.str "go")))) (eT (ab cV (ab ag (aa 5) (eC (.int (1)))) (aa 2)))) (b:=tO)
  (fun m σ K=>∃l z en,σ=[some (.ref bi),some (.ref ei),some (.ref wi),some (.int k),some (.ref H.length),some (En.w en)]/\Jn E F W k l/\l.getLast? =some z/\E[z]? =some en/\Ex H K/\K[H.length]? =some (.lst ((rowsOf B l).map Row.w))/\m+l.length=E.length+1)
  (fun σ K=>∃l z en,σ=[some (.ref bi),some (.ref ei),some (.ref wi),some (.int k),some (.ref H.length),some (En.w en)]/\Jn E F W k l/\l.getLast? =some z/\E[z]? =some en/\Ex H K/\K[H.length]? =some (.lst ((rowsOf B l).map Row.w))/\∀j,en=.go j->j∉W)
  (fun m σ K zz=>by
   obtain⟨l,z,en,rfl,j1,j2,j3,j4,j5,j6⟩:=zz;have td:z∈F:=j1.oA z (agA j2);have lU:l.length<=E.length:=acl (kb j1.nd fun y hy=>w.lt y (j1.oA y hy)) (abZ _);have t1:∀(d:Bool),decide (en.x="go")=d->eT (ab aH (ab ag (aa 5) (eC (.int (0)))) (eC (.str "go"))) [some (.ref bi),some (.ref ei),some (.ref wi),some (.int k),some (.ref H.length),some (En.w en)] K=.ok d K:=fun d hd=>by
    rw[fE,df,d9,bf (show ab ag (aa 5) (eC (.int (0))) [some (.ref bi),some (.ref ei),some (.ref wi),some (.int k),some (.ref H.length),some (En.w en)] K=.ok (.str en.x) K from Ay en K),<- hd];ac_nf
   cases en with
   | go j=>
    have BL:j∈F:=w.cl z td _ j3 j (by simp[En.to]);have t2:eT (ab cV (ab ag (aa 5) (eC (.int (1)))) (aa 2)) [some (.ref bi),some (.ref ei),some (.ref wi),some (.int k),some (.ref H.length),some (En.go j).w] K=.ok (decide (j∈W)) K:=by
     rw[fE,df];refine aw (aw rfl (aw rfl (Fh ((x.trans j4).get c.win) (z8 W _)))) ?_;rw[Hq];rfl
    by_cases hj:j∈W
    ·right
     have gQ:=WU w j1.way j1.oA j1.hd oz j1.nd j2 j3 hj;obtain⟨bj,iP⟩:∃bj,B[j]? =some bj:=bW (by have:=w.lt j BL;omega);obtain⟨ej,JQ⟩:∃ej,E[j]? =some ej:=bW (w.lt j BL);obtain⟨rj,abt,oy⟩:=c.at_.ix iP;rw[decide_eq_true hj] at t2;have abM:=yQ c.ok l;have abN:=(c.ok.rows bj (acd iP)).1;have hM:=c.hM;have gD:(rowsOf B l).length<=6100:=by
      have:=aeF hM (show l.length<=61 by omega);omega
     have body:tO [some (.ref bi),some (.ref ei),some (.ref wi),some (.int k),some (.ref H.length),some (En.go j).w] K=.ok (.nx [some (.ref bi),some (.ref ei),some (.ref wi),some (.int k),some (.ref H.length),some ej.w]) (K.set H.length (.lst ((rowsOf B l).map Row.w++bj.rs.map Row.w))):=by
      unfold tO;refine sq (ext (j:=rj) rfl ⟨_,j5⟩ (ph1:=K) (aw (aw rfl (aw rfl (abt K (x.trans j4)))) rfl) j5 ((x.trans j4).get oy) (by rw[abX,abX];omega)) (asg (aw rfl (aw rfl (endAt (Ex.set (x.trans j4) x.len _) JQ))))
     refine⟨K,tT (t1 _ rfl) t2,_,_,body,_,.inl rfl,m-1,by omega,l++[j],j,ej,rfl,⟨EA j1.way j2 j3,fun y hy=>?_,?_,?_⟩,by simp,JQ,Ex.set j4 (abZ _) _,?_,by simp;omega⟩
     ·rcases adb.mp hy with q | q
      ·exact j1.oA y q
      ·rw[acG.mp q];exact BL
     ·rw[acE (abV.mp j1.hd).1];exact j1.hd
     ·rw[aeX];exact⟨j1.nd,by simp,fun a ha d hd=>by rw[acG.mp hd];exact fun q=>gQ (q▸ha)⟩
     ·rw[dQ j5,Uq B l iP,adF]
    ·left
     rw[decide_eq_false hj] at t2;exact⟨K,tT (t1 _ rfl) t2,l,z,_,rfl,j1,j2,j3,j4,j5,fun j' l7=>by cases l7;exact hj⟩
   | iff v a d=>
    left
    exact⟨K,tF (t1 _ rfl),l,z,_,rfl,j1,j2,j3,j4,j5,fun j' l7=>nomatch l7⟩
   | fin=>
    left
    exact⟨K,tF (t1 _ rfl),l,z,_,rfl,j1,j2,j3,j4,j5,fun j' l7=>nomatch l7⟩)
  E.length [some (.ref bi),some (.ref ei),some (.ref wi),some (.int k),some (.ref H.length),some (En.w e0)] H1 ⟨[k],k,e0,rfl,⟨trivial,fun y hy=>by rw[acG.mp hy];exact hk,rfl,by simp⟩,by simp,JP,x1,by rw[g1];simp[rowsOf,hb],by simp⟩
 refine⟨H',l,z,en,?_,j4,j5,j1,j2,j3,j6⟩;unfold um mv;rw[wI];refine bq (ph1:=H1) (σ1:=[some (.ref bi),some (.ref ei),some (.ref wi),some (.int k),some (.ref H.length),none]) ?_ (bq (ph1:=H1) (σ1:=[some (.ref bi),some (.ref ei),some (.ref wi),some (.int k),some (.ref H.length),some (En.w e0)]) (asg (aw rfl (aw rfl (endAt (x.trans x1) JP)))) (bq e rfl));refine asg (aw (aC (aw (aw rfl (aw rfl (kO H x))) rfl) rfl) ?_);rw[e1];exact D1 (x.get gZ)
theorem GB(rs:List Nat)(B:List bt):bw rs B=(rs.zip B).map fun p=>W.tup [.ref p.1,p.2.en.w]:=by
 unfold bw;rw[List.zip,List.map_zipWith]
theorem WW(h:rs.length=B.length)(f:bt->α):(rs.zip B).map (fun p=>f p.2)=B.map f:=by
 rw[show(fun p:Nat×bt=>f p.2)=f∘Prod.snd from rfl,<- adi,List.map_snd_zip (by omega)]
theorem WX (hB : gF M B) : Ok (dq (fh B)) := by
  have hl : (dq (fh B)).length = B.length := by unfold dq fh; rw [abX, abX]
  have := hB.pos;have := hB.top;refine ⟨by omega, by omega, fun g hg x hx => ?_, fun g hg => ?_⟩
  · unfold dq fh at hg
    rw [adi] at hg;obtain ⟨b, hb, rfl⟩ := acq.mp hg;obtain ⟨k, hk⟩ := acJ.mp hb;have key : ∀ t ∈ b.en.to, cf B B.length t < B.length := fun t ht => Gv hB.lt (hB.lt k b hk t ht)
    rw [hl];simp only [aeT] at hx;cases he : b.en with
    | go j => rw [he] at hx key; have : x = cf B B.length j := by simpa [En.mp, En.to] using hx
              rw [this]; exact key j (by simp [En.to])
    | iff v a c =>
      rw [he] at hx key;have : x = cf B B.length a \/ x = cf B B.length c := by simpa [En.mp, En.to] using hx
      rcases this with z | z
      · rw [z]; exact key a (by simp [En.to])
      · rw [z]; exact key c (by simp [En.to])
    | fin => rw [he] at hx; simp [En.mp, En.to] at hx
  · unfold dq at hg
    obtain ⟨e, _, rfl⟩ := acq.mp hg;cases e <;> simp [En.to]
variable{o2 o4:Option W}
theorem WY{o1 o5 o6:Option W}(hB:gF M B)(hA:d7 ph bi B) :
  ∃ph',cB (cD (ae (bv cc (ae (aa 0) ah)) ah)) [none,some 0] (gN 0) cJ (aX qZ (ae (aa 1) (ae (aa 0) ah))) [some (.ref bi),o1,o2,o3,o4,o5,o6,o7] ph=.ok (.ref ph.length) ph'/\Ex ph ph'/\ph'[ph.length]? =some (.lst (iw ((acC B.length).map (cf B B.length)))):=by
 have ht:=hB.top;obtain⟨ph',e,x⟩:=ke (acC B.length) (fun i:Nat=>W.int i) (im:=cD (ae (bv cc (ae (aa 0) ah)) ah)) (cap:=[none,some 0]) (g:=gN 0) (c:=cJ) (e:=aX qZ (ae (aa 1) (ae (aa 0) ah))) (σ:=[some (.ref bi),o1,o2,o3,o4,o5,o6,o7]) (ph0:=ph) (ph:=ph) (chk:=fun _=>true)
  (by rw[<- rB];exact ie (j:=B.length) (aC (aw (aC rfl rfl) hA.cc) rfl) (by omega) (by omega)) (fun _ _=>rfl) (by rw[acI];exact acl ht (by decide))
  (fun k=>some (.int ((cf B B.length k:Nat):Int))) (fun σ=>∃o,σ=[o,some (.ref bi)]) ⟨none,rfl⟩
  (fun k hk σ K zz hx=>by
   obtain⟨o,rfl⟩:=zz;exact⟨_,rfl,⟨_,rfl⟩,true,K,rfl,Ex.refl _,.inr ⟨rfl,_,K,aw (aC rfl (aC rfl rfl)) (aav hB (hA.mono hx) (ade.mp hk)),Ex.refl _,rfl⟩⟩)
 rw[m7] at x;refine⟨ph',e,(Ex.one _ _).trans x,?_⟩;have:=x.get (bu ph _);rw[this];unfold iw;rw[adi];rfl
theorem Hr{x:Nat}(h:H[i]? =some (.lst (iw l)))(hk:l[k]? =some x):lift (ag (.ref i) (.int k)) H=.ok (.int x) H:=ed h (Hl hk)
theorem Zg{li:Nat}{o5 o6:Option W}(hB:gF M B)(hA:d7 ph bi B)(hl:ph[li]? =some (.lst (iw ((acC B.length).map (cf B B.length))))) :
  ∃ph',cB (cY (aa 0)) [none,some 1] (gN 0) cJ (aX mJ (ae (ab ag (aa 0) (eC (.int (1)))) (ae (aa 1) ah))) [some (.ref bi),some (.ref li),o2,o3,o4,o5,o6,o7] ph=.ok (.ref ph.length) ph'/\Ex ph ph'/\ph'[ph.length]? =some (.lst ((fh B).map En.w)):=by
 have ht:=hB.top;obtain⟨rs,h⟩:=hA;obtain⟨ph',e,x⟩:=ke (rs.zip B) (fun p=>W.tup [.ref p.1,p.2.en.w]) (im:=cY (aa 0)) (cap:=[none,some 1]) (g:=gN 0) (c:=cJ) (e:=aX mJ (ae (ab ag (aa 0) (eC (.int (1)))) (ae (aa 1) ah))) (σ:=[some (.ref bi),some (.ref li),o2,o3,o4,o5,o6,o7]) (ph0:=ph) (ph:=ph) (chk:=fun p=>decide (p[bi]? =some (.lst (bw rs B))))
  (by rw[<- GB];exact gk rfl h.at_) (fun p x=>decide_eq_true (x.get h.at_)) (by rw[agq];exact acl (Nat.min_le_right _ _) (acl ht (by decide)))
  (fun p=>some (p.2.en.mp (cf B B.length)).w) (fun σ=>∃o,σ=[o,some (.ref li)]) ⟨none,rfl⟩
  (fun p hp σ K zz hx=>by
   obtain⟨o,rfl⟩:=zz;obtain⟨k,hk⟩:=acJ.mp (aem hp).2;refine⟨_,rfl,⟨_,rfl⟩,true,K,rfl,Ex.refl _,.inr ⟨rfl,_,K,aw (aC rfl (aC rfl rfl)) (Gz p.2.en (cf B B.length) fun t ht=>Hr (hx.get hl) ?_),Ex.refl _,rfl⟩⟩;rw[abY,afq (hB.lt k _ hk t ht)];rfl)
 rw[m7,WW h.len (fun b=>(b.en.mp (cf B B.length)).w)] at x;refine⟨ph',e,(Ex.one _ _).trans x,?_⟩;rw[x.get (bu ph _)];unfold fh;rw[adi];rfl
theorem EB:∀(ps d:List (W×W)),(∀p∈d++ps,∃k:Int,p.1=.int k)->((d++ps).map (·.1)).Nodup->(d++ps).length<=1000->nG d ps=some (d++ps)
 | [],d,_,_,_=>by rw[adp];rfl
 | p::ps,d,h1,h2,h3=>by
  have hk:cZ d p.1=true:=by
   obtain⟨k,hk⟩:=h1 p (by simp);unfold cZ;rw[hk,adE]
   left
   rw[aco,adk];refine⟨rfl,fun q hq=>?_⟩;obtain⟨j,hj⟩:=h1 q (adw _ hq);rw[hj];rfl
  have hp:dH d p.1 p.2=d++[p]:=by
   unfold dH;have:(d.any fun q=>decide (q.1=p.1))=false:=by
    rw[afL];intro q hq;rw[decide_eq_true_eq];intro z;rw[adF,aeX] at h2;exact h2.2.2 q.1 (adQ hq) p.1 (by simp) z
   rw[this];rfl
  unfold nG;rw[if_pos ⟨hk,aca (show d.length<1001 by simp at h3;omega) (by decide)⟩,hp];have e:d++p::ps=d++[p]++ps:=by simp
  rw[e] at h1 h2 h3 ⊢;exact EB ps (d++[p]) h1 h2 h3
theorem Fy{ps:List (W×W)}(hn:(ps.map (·.1)).Nodup){k v:W}(h:(k,v)∈ps):dh ps k=some v:=by
 unfold dh
 induction ps with
 | nil=>cases h
 | cons p ps ih=>
  rw[acK,ael] at hn;rw[adv]
  rcases acD.mp h with rfl | h
  ·simp
  ·have:¬p.1=k:=fun z=>hn.1 (z▸adQ (f:=(·.1)) h)
   simp only[this,decide_false];exact ih hn.2 h
def hU(l:List Nat):List (W×W):=(acC l.length).map fun i=>((iw l).getD i .aI,W.int i)
theorem zF(h:l[i]? =some k):(hU l)[i]? =some (W.int k,W.int i):=by
 have hi:=(abV.mp h).1;unfold hU;rw[abY,afq hi];simp only[acS];rw[adz];unfold iw;rw[abY,h];rfl
theorem Fz{p:W×W}(h:p∈hU l):∃i k:Nat,l[i]? =some k/\p=(W.int k,W.int i):=by
 obtain⟨i,hi⟩:=acJ.mp h;have hl:i<l.length:=by have:=(abV.mp hi).1;unfold hU at this;rw[abX,acI] at this;exact this
 obtain⟨k,hk⟩:∃k,l[i]? =some k:=bW hl;rw[zF hk] at hi;exact⟨i,k,hk,(acY hi).symm⟩
theorem FA(l:List Nat):(hU l).length=l.length:=by unfold hU;rw[abX,acI]
theorem EC(l:List Nat):(hU l).map (·.1)=iw l:=by
 apply aew
 intro i;by_cases hi:i<l.length
 ·obtain⟨k,hk⟩:∃k,l[i]? =some k:=bW hi;rw[abY,zF hk];unfold iw;rw[abY,hk];rfl
 ·rw[acZ (by rw[abX,FA];omega),acZ (by rw[jd];omega)]
theorem Aa(h:l.Nodup):(iw l).Nodup:=by
 unfold iw;exact agV _ (fun a b kM z=>kM (by have:=W.int.inj z;omega)) h
theorem Zh(l:List Nat)(k:Int):cZ (hU l) (.int k)=true:=by
 unfold cZ;rw[adE]
 left
 rw[aco,adk];refine⟨rfl,fun q hq=>?_⟩;obtain⟨i,j,_,rfl⟩:=Fz hq;rfl
variable{s2 s3:Option W}
theorem Zi{fi:Nat}(hl:ph[fi]? =some (.lst (iw l)))(hn:l.Nodup)(hz:l.length<=100) :
  ∃di ph',bv pK (ae (cB (lu (ae (aa 5) ah)) [none,none] (ji 2 [(gN 0),(gN 1)]) cJ (bB (ae (aa 1) (ae (aa 0) ah)))) ah) [s0,s1,s2,s3,s4,some (.ref fi),s6,s7] ph=.ok (.ref di) ph'/\Ex ph ph'/\ph'[di]? =some (.aD (hU l)):=by
 obtain⟨ph1,e,x⟩:=ke (acC l.length) (fun i:Nat=>W.tup [.int i,(iw l).getD i .aI]) (im:=lu (ae (aa 5) ah)) (cap:=[none,none]) (g:=ji 2 [(gN 0),(gN 1)]) (c:=cJ) (e:=bB (ae (aa 1) (ae (aa 0) ah))) (σ:=[s0,s1,s2,s3,s4,some (.ref fi),s6,s7]) (ph0:=ph) (ph:=ph) (chk:=fun p=>decide (p[fi]? =some (.lst (iw l))))
  (by
   rw[DQ (i:=fi) (ws:=iw l) (ph':=ph) rfl hl];unfold il;rw[jd]) (fun p x=>decide_eq_true (x.get hl)) (by rw[acI];exact acl hz (by decide))
  (fun i=>some (.tup [(iw l).getD i .aI,.int i])) (fun σ=>∃a b,σ=[a,b]) ⟨none,none,rfl⟩
  (fun i hi σ K zz hx=>by
   obtain⟨a,b,rfl⟩:=zz;exact⟨_,rfl,⟨_,_,rfl⟩,true,K,rfl,Ex.refl _,.inr ⟨rfl,_,K,rfl,Ex.refl _,rfl⟩⟩)
 rw[m7] at x;have h1:=x.get (bu ph _);refine⟨ph1.length,ph1++[.aD (hU l)],aw (aC e rfl) (UU (ps:=hU l) h1 ?_ ?_),((Ex.one _ _).trans x).trans (Ex.one _ _),bu _ _⟩
 ·exact k7 rO (fun i:Nat=>W.tup [(iw l).getD i .aI,.int i]) (fun i:Nat=>((iw l).getD i .aI,W.int i)) (fun _=>rfl) (acC l.length)
 ·refine EB (hU l) [] (fun p hp=>?_) (by rw[aeR,EC];exact Aa hn) (by rw[aeR,FA];omega);obtain⟨i,k,_,rfl⟩:=Fz hp;exact⟨_,rfl⟩
theorem WZ(h:H[di]? =some (.aD (hU l)))(hn:l.Nodup)(hk:l[i]? =some k):lift (ag (.ref di) (.int k)) H=.ok (.int i) H:=
 Fg h (Zh l _) (Fy (by rw[EC];exact Aa hn) (acd (zF hk)))
theorem yR{ws:List β}{f:α->β}{Q:Nat->α->Prop}(h:∀(j:Nat) w,ws[j]? =some w->∃d,w=f d/\Q j d):∃D:List α,ws=D.map f/\∀(j:Nat) d,D[j]? =some d->Q j d:=by
 induction ws generalizing Q with
 | nil=>exact⟨[],rfl,fun j d z=>by simp at z⟩
 | cons w ws ih=>
  obtain⟨d,e,q⟩:=h 0 w rfl;obtain⟨D,e2,q2⟩:=ih (Q:=fun j=>Q (j+1)) fun j w hw=>h (j+1) w (by simpa using hw)
  refine⟨d::D,by rw[e,e2];rfl,fun j d' hd=>?_⟩;cases j with
  | zero=>cases hd;exact q
  | succ j=>exact q2 j d' (by simpa using hd)
structure JD where
 r:Nat
 l:List Nat
 e:En
def JD.w(d:JD):W:=.tup [.ref d.r,d.e.w]
variable{W0:List Nat}{a b:EM}
theorem abu(h:H[i]? =some (.aD (mk W0)))(ha:a σ=ax (.int j))(hb:b σ=ax (.ref i)):eT (ab ez a b) σ H=.ok (!decide (j∈W0)) H:=by
 rw[fE,df,ha,hb];refine aw (aw rfl (aw rfl (yJ h (z8 W0 _)))) ?_;rw[Hq];rfl
def l8(F W0:List Nat):List Nat:=F.filter fun k=> !decide (k∈W0)
theorem vN:k∈l8 F W0↔k∈F/\k∉W0:=by
 unfold l8;rw[adu];simp
theorem Zj{fi:Nat}(hf:ph[fi]? =some (.lst (iw F)))(hw:ph[wi]? =some (.aD (mk W0)))(hz:F.length<=100) :
  ∃ph',cB (cY (aa 4)) [none,some 3] (gN 0) (eT (ab ez (aa 0) (aa 1))) (aa 0) [s0,s1,s2,some (.ref wi),some (.ref fi),s5,s6,s7] ph=.ok (.ref ph.length) ph'/\Ex ph ph'/\ph'[ph.length]? =some (.lst (iw (l8 F W0))):=by
 obtain⟨ph',e,x⟩:=ke F (fun i:Nat=>W.int i) (im:=cY (aa 4)) (cap:=[none,some 3]) (g:=gN 0) (c:=eT (ab ez (aa 0) (aa 1))) (e:=aa 0) (σ:=[s0,s1,s2,some (.ref wi),some (.ref fi),s5,s6,s7]) (ph0:=ph) (ph:=ph) (chk:=fun p=>decide (p[fi]? =some (.lst (iw F))))
  (gk rfl hf) (fun p x=>decide_eq_true (x.get hf)) (acl hz (by decide))
  (fun k=>if k∈W0 then none else some (.int k)) (fun σ=>∃o,σ=[o,some (.ref wi)]) ⟨none,rfl⟩
  (fun k hk σ K zz hx=>by
   obtain⟨o,rfl⟩:=zz;have t:=abu (a:=aa 0) (b:=aa 1) (j:=k) (σ:=[some (.int k),some (.ref wi)]) (hx.get hw) rfl rfl;refine⟨_,rfl,⟨_,rfl⟩,_,K,t,Ex.refl _,?_⟩;by_cases hk:k∈W0
   ·exact .inl ⟨by rw[decide_eq_true hk];rfl,if_pos hk⟩
   ·exact .inr ⟨by rw[decide_eq_false hk];rfl,_,K,rfl,Ex.refl _,if_neg hk⟩)
 refine⟨ph',e,(Ex.one _ _).trans x,?_⟩;rw[x.get (bu ph _)]
 congr 2
 unfold iw l8
 clear x e hf hw hz
 induction F with
 | nil=>rfl
 | cons k F ih=>
  by_cases hk:k∈W0
  ·simp[hk,ih]
  ·simp[hk,ih]
theorem W2(w:Wi E F W0){z t:Nat}{e:En}(hz:z∈F)(he:E[z]? =some e)(hg:∀j,e=.go j->j∉W0)(ht:t∈e.to):t∈l8 F W0:=by
 refine vN.mpr ⟨w.cl z hz e he t ht,fun hW=>?_⟩;obtain⟨b,hb,jp,nS⟩:=w.one t hW;have:=nS z hz e he ht;subst this;rw[he] at jp;cases jp;exact hg t rfl hW
theorem Vn{m:SM}{w:W}(h:m σ ph=.ok (.rt w) ph1):z7 m σ ph=.ok (.rt w) ph1:=Fu h
theorem Vo{L:List Nat}(hn:0<n)(h0:0∈L)(hw:0∉W0):(l8 (up L n) W0)[0]? =some 0:=by
 obtain⟨m,rfl⟩:∃m,n=m+1:=⟨n-1,by omega⟩
 unfold l8 up;rw[List.range_succ_eq_map,afY,if_pos (decide_eq_true h0),afY,if_pos (by rw[decide_eq_false hw];rfl)];rfl
theorem S2 (hB : gF M B) (hM : M <= 100) (hA : d7 ph bi B) :
    ∃ nb ph' NB J h, yf [.ref bi] ph = .ok (.ref nb) ph' /\ Ex ph ph' /\ d7 ph' nb NB /\ sA B NB J h /\ gF (M * B.length) NB := by
  have ht := hB.top;have hp := hB.pos;have hG := WX hB;have xn : (fh B).length = B.length := by unfold fh; rw [abX]
  have sY : (dq (fh B)).length = B.length := by unfold dq; rw [abX, xn]
  obtain ⟨E, hE⟩ : ∃ E, E = fh B := ⟨_, rfl⟩
  obtain ⟨H1, e1, x1, g1⟩ := WY (o1 := none) (o2 := none) (o3 := none) (o4 := none) (o5 := none) (o6 := none) (o7 := none) hB hA;obtain ⟨H2, e2, x2, g2⟩ := Zg (o2 := none) (o3 := none) (o4 := none) (o5 := none) (o6 := none) (o7 := none) hB (hA.mono x1) g1;rw [<- hE] at g2 hG xn sY;obtain ⟨H3, L, e3, x3, bL, g3⟩ := Vl g2 hG;obtain ⟨W0, hW⟩ : ∃ W0, W0 = wl (c4 (dq E) L) E E.length := ⟨_, rfl⟩
  obtain ⟨F, hF⟩ : ∃ F, F = up (ks L) E.length := ⟨_, rfl⟩
  have w := aaw hG bL;rw [<- hW, <- hF] at w;rw [<- hW] at g3;have JU := x3.get g2
  -- found
  obtain ⟨di, H4, L', e4, x4, d4, JV⟩ := Fs (WT (ph := H3 ++ [.lst [.int 0]]) ((Ex.one _ _).get JU)) hG (bu H3 (.lst [.int 0]));have e5 := Gs JV.toBa hG d4;rw [up_eq JV bL, sY, <- xn, <- hF] at e5;obtain ⟨H5, BM⟩ : ∃ H5, H5 = H4 ++ [PO.lst (iw F)] := ⟨_, rfl⟩
  have x5 : Ex H3 H5 := BM ▸ ((Ex.one _ _).trans x4).trans (Ex.one _ _);have g5 : H5[H4.length]? = some (.lst (iw F)) := by rw [BM]; exact bu _ _
  rw [<- BM] at e5;have hFl : F.length <= 100 := by have := kb w.nd w.lt; omega
  -- left
  obtain ⟨H6, e6, x6, g6⟩ := Zj (s0 := some (.ref bi)) (s1 := some (.ref ph.length)) (s2 := some (.ref H1.length)) (s5 := none) (s6 := none) (s7 := none) g5 (x5.get g3) hFl;obtain ⟨lf, oB⟩ : ∃ lf, lf = l8 F W0 := ⟨_, rfl⟩
  rw [<- oB] at g6;have BN : lf.Nodup := by rw [oB]; exact aez _ w.nd
  have lU : lf.length <= E.length := by
    have := kb BN (n := E.length) fun x hx => by rw [oB] at hx; exact w.lt x (vN.mp hx).1
    exact this
  -- anew
  obtain ⟨ai, H7, e7, x7, g7⟩ := Zi (s0 := some (.ref bi)) (s1 := some (.ref ph.length)) (s2 := some (.ref H1.length)) (s3 := some (.ref H2.length)) (s4 := some (.ref H4.length)) (s6 := none) (s7 := none) g6 BN (by omega);have xo : Ex H3 H7 := (x5.trans x6).trans x7;have jc : JC H7 bi H1.length H2.length M B E W0 := ⟨hB, hM, hA.mono (((x1.trans x2).trans x3).trans xo), xo.get JU, xn, xo.get g3⟩
  -- joined
  obtain ⟨H8, ws, e8, x8, g8, jX, hP⟩ := zd lf (fun i : Nat => W.int (i : Int)) (ph := H7) (ph0 := H7) (im := cY (aa 5)) (cap := [none, some 0, some 2, some 3]) (g := gN 0) (e := aX um (ae (aa 1) (ae (aa 2) (ae (aa 3) (ae (aa 0) ah))))) (σ := [some (.ref bi), some (.ref ph.length), some (.ref H1.length), some (.ref H2.length), some (.ref H4.length), some (.ref H5.length), some (.ref ai), none]) (chk := fun p => decide (p[H5.length]? = some (.lst (iw lf))))
    (gk rfl (x7.get g6)) (fun p x => decide_eq_true (x.get (x7.get g6))) (by omega)
    (fun j w0 H => ∃ d : JD, w0 = d.w /\ d.r ≠ H7.length /\ H[d.r]? = some (.lst ((rowsOf B d.l).map Row.w)) /\ ∃ k z, lf[j]? = some k /\ Jn E F W0 k d.l /\ d.l.getLast? = some z /\ E[z]? = some d.e /\ ∀ j, d.e = .go j -> j ∉ W0)
    (fun j w0 H H' q keep => by
      obtain ⟨d, q1, q2, q3, q4⟩ := q;exact ⟨d, q1, q2, keep d.r _ q2 q3, q4⟩)
    (fun σ => ∃ o, σ = [o, some (.ref bi), some (.ref H1.length), some (.ref H2.length)]) ⟨none, rfl⟩
    (fun j k hj σ H hS y cE => by
      obtain ⟨o, rfl⟩ := hS;have hk := acd hj;rw [oB] at hk;obtain ⟨oC, oD⟩ := vN.mp hk;obtain ⟨H', l, z, e, q1, q2, q3, q4, q5, q6, q7⟩ := Vm jc w y oC oD;exact ⟨_, rfl, ⟨_, rfl⟩, _, H', aw (aC rfl (aC rfl (aC rfl (aC rfl rfl)))) q1, q2, ⟨H.length, l, e⟩, rfl, by show H.length ≠ H7.length; omega, q3, k, z, hj, q4, q5, q6, q7⟩)
  obtain ⟨D, hD, qE⟩ := yR (f := JD.w) (Q := fun j (d : JD) => H8[d.r]? = some (.lst ((rowsOf B d.l).map Row.w)) /\ ∃ k z, lf[j]? = some k /\ Jn E F W0 k d.l /\ d.l.getLast? = some z /\ E[z]? = some d.e /\ ∀ j, d.e = .go j -> j ∉ W0) fun j w0 hw0 => by
    obtain ⟨d, q1, _, q3, q4⟩ := hP j w0 hw0;exact ⟨d, q1, q3, q4⟩
  have xp : D.length = lf.length := by rw [<- jX, hD, abX]
  subst hD;have td : ∀ {j : Nat} {d : JD}, D[j]? = some d -> ∀ t ∈ d.e.to, t ∈ lf := fun {j d} hd t ht => by
    obtain ⟨_, k, z, q1, q2, q3, q4, q5⟩ := qE j d hd;rw [oB];exact W2 w (q2.oA z (agA q3)) q4 q5 ht
  have idx : ∀ {t : Nat}, t ∈ lf -> lf[lf.idxOf t]? = some t := fun {t} h => by
    rw [adH (aer h), List.getElem_idxOf]
  -- the blocks anew
  obtain ⟨H9, e9, x9⟩ := ke D JD.w (im := cY (aa 7)) (cap := [none, some 6]) (g := gN 0) (c := cJ) (e := bB (ae (ab ag (aa 0) (eC (.int (0)))) (ae (aX mJ (ae (ab ag (aa 0) (eC (.int (1)))) (ae (aa 1) ah))) ah))) (σ := [some (.ref bi), some (.ref ph.length), some (.ref H1.length), some (.ref H2.length), some (.ref H4.length), some (.ref H5.length), some (.ref ai), some (.ref H7.length)]) (ph0 := H8) (ph := H8) (chk := fun p => decide (p[H7.length]? = some (.lst (D.map JD.w))))
    (gk rfl g8) (fun p x => decide_eq_true (x.get g8)) (by exact acl (show D.length <= 1000 by omega) (by decide))
    (fun d => some (.tup [.ref d.r, (d.e.mp (lf.idxOf ·)).w])) (fun σ => ∃ o, σ = [o, some (.ref ai)]) ⟨none, rfl⟩
    (fun d hd σ K zz hx => by
      obtain ⟨o, rfl⟩ := zz;obtain ⟨j, hj⟩ := acJ.mp hd;exact ⟨_, rfl, ⟨_, rfl⟩, true, K, rfl, Ex.refl _, .inr ⟨rfl, _, K, aw (aC rfl (aC (aw (aC rfl (aC rfl rfl)) (Gz d.e (lf.idxOf ·) fun t ht => WZ ((x8.trans hx).get g7) BN (idx (td hj t ht)))) rfl)) rfl, Ex.refl _, rfl⟩⟩)
  rw [m7] at x9;have g9 := x9.get (bu H8 _);have JX : Ex H8 H9 := (Ex.one _ _).trans x9;refine ⟨H8.length, H9, D.map fun d => ⟨rowsOf B d.l, d.e.mp (lf.idxOf ·)⟩, D.map JD.l, (lf.idxOf ·), ?_, ((((x1.trans x2).trans x3).trans xo).trans x8).trans JX, ?_, ?_, ?_⟩
  · unfold yf mO
    rw [jl];refine bq (asg e1) (bq (asg e2) (aw (Vn ?_) rfl));unfold xT;refine sq (asg (aw (aC rfl rfl) e3)) (sq (asg (ph1 := H5) (aw (aC (aw (aC (ph1 := H3 ++ [.lst [.int 0]]) rfl (aC rfl rfl)) e4) rfl) e5)) (sq (asg e6) (sq (asg e7) (sq (asg e8) (retS e9)))))
  · refine ⟨D.map JD.r, ?_, by rw [abX, abX], fun k r b hr hb => ?_⟩
    · rw [g9]
      congr 2
      unfold bw;rw [agr, agd, List.zipWith_self]
    · rw [abY] at hr hb
      obtain ⟨d, hd, rfl⟩ := ace.mp hr;rw [hd] at hb;cases hb;exact JX.get (qE k d hd).1
  · have jat : ∀ {t : Nat}, t ∈ lf -> ∃ l2, (D.map JD.l)[lf.idxOf t]? = some (t :: l2) := fun {t} h => by
      obtain ⟨d, hd⟩ : ∃ d, D[lf.idxOf t]? = some d := bW (by rw [xp]; exact aer h);obtain ⟨_, k, z, q1, q2, _⟩ := qE _ d hd;rw [idx h] at q1;cases q1;rw [abY, hd];have := q2.hd;cases hl : d.l with
      | nil => rw [hl] at this; cases this
      | cons a l2 => rw [hl] at this; cases this; exact ⟨l2, by rw [acS, hl]⟩
    refine ⟨by rw [abX, abX], fun j l hl => ?_, ?_⟩
    · rw [abY] at hl
      obtain ⟨d, hd, rfl⟩ := ace.mp hl;obtain ⟨_, k, z, q1, q2, q3, q4, q5⟩ := qE j d hd;have hh := q2.hd;cases hl : d.l with
      | nil => rw [hl] at hh; cases hh
      | cons a l2 =>
        refine ⟨a, l2, z, d.e, rfl, ?_, fun x hx => ?_, ?_, ?_, ?_, fun t ht => jat (td hd t ht)⟩
        · rw [<- hE, <- hl]; exact q2.way
        · rw [<- hl] at hx; have := w.lt x (q2.oA x hx); omega
        · rw [<- hl]; exact q3
        · rw [<- hE]; exact q4
        · rw [abY, hd, <- hl]; rfl
    · have h0 : lf[0]? = some 0 := by
        rw [oB, hF];exact Vo (by omega) (by have := w.zero.1; rw [hF] at this; exact (pE.mp this).2) w.zero.2
      obtain ⟨d, hd⟩ : ∃ d, D[0]? = some d := bW (by have := (abV.mp h0).1; omega);obtain ⟨_, k, z, q1, q2, _⟩ := qE 0 d hd;rw [h0] at q1;cases q1;have := q2.hd;rw [abY, hd];cases hl : d.l with
      | nil => rw [hl] at this; cases this
      | cons a l2 => rw [hl] at this; cases this; exact ⟨l2, by rw [acS, hl]⟩
  · have qf : 0 ∈ lf := by rw [oB]; exact vN.mpr w.zero
    have abv : 0 < lf.length := List.length_pos_of_mem qf;refine ⟨by rw [abX]; omega, by rw [abX]; omega, fun k b hb j hj => ?_, fun b hb => ?_⟩
    · rw [abY] at hb
      obtain ⟨d, hd, rfl⟩ := ace.mp hb;rw [abX, xp];have hj : j ∈ (d.e.mp (lf.idxOf ·)).to := hj;have key : ∀ t ∈ d.e.to, lf.idxOf t < lf.length := fun t ht => aer (td hd t ht)
      cases he : d.e with
      | go t => rw [he] at hj key; have : j = lf.idxOf t := by simpa [En.mp, En.to] using hj
                rw [this]; exact key t (by simp [En.to])
      | iff v a c =>
        rw [he] at hj key;have : j = lf.idxOf a \/ j = lf.idxOf c := by simpa [En.mp, En.to] using hj
        rcases this with z | z
        · rw [z]; exact key a (by simp [En.to])
        · rw [z]; exact key c (by simp [En.to])
      | fin => rw [he] at hj; simp [En.mp, En.to] at hj
    · obtain ⟨d, hd, rfl⟩ := acq.mp hb
      obtain ⟨j, hj⟩ := acJ.mp hd;obtain ⟨_, k, z, q1, q2, _⟩ := qE j d hj;have h1 := yQ hB d.l;have h2 : d.l.length <= B.length := by
        have := kb q2.nd (n := E.length) fun x hx => w.lt x (q2.oA x hx)
        omega
      exact ⟨acl h1 (Nat.mul_le_mul_left _ h2), WV hB⟩
theorem op{f:W->W->Po W}{x y:W}{r:Out W}(ha:a σ ph=.ok x ph1)(hb:b σ ph1=.ok y ph2)(hf:lift (f x y) ph2=r):ab f a b σ ph=r:=aw ha (aw hb hf)
theorem md{i j:Int}(ha:a σ ph=.ok (.int i) ph1)(hb:b σ ph1=.ok (.int j) ph2)(h:j≠0):ab bC a b σ ph=.ok (.int (i.fmod j)) ph2:=op ha hb (congrFun (aaj h) ph2)
theorem dv{i j:Int}(ha:a σ ph=.ok (.int i) ph1)(hb:b σ ph1=.ok (.int j) ph2)(h:j≠0)(h':j.natAbs<2 ^ 64):ab cy a b σ ph=.ok (.int (i.fdiv j)) ph2:=op ha hb (congrFun (zY h h') ph2)
theorem ad{i j:Int}(ha:a σ ph=.ok (.int i) ph1)(hb:b σ ph1=.ok (.int j) ph2):ab addW a b σ ph=.ok (.int (i+j)) ph2:=op ha hb rfl
theorem sb{i j:Int}(ha:a σ ph=.ok (.int i) ph1)(hb:b σ ph1=.ok (.int j) ph2):ab fU a b σ ph=.ok (.int (i-j)) ph2:=op ha hb rfl
theorem ml{i j:Int}(ha:a σ ph=.ok (.int i) ph1)(hb:b σ ph1=.ok (.int j) ph2)(h:mulC i j=true):ab bV a b σ ph=.ok (.int (i*j)) ph2:=op ha hb (by rw[zr];exact congrFun (zX h) ph2)
theorem ltI{i z:Int}{e:EM}(h:e σ ph=.ok (.int i) ph1)(hc:decide (i<z)=c):eT (ab gC e (eC (.int z))) σ ph=.ok c ph1:=by
 rw[fE,df,d9,bf h,<- hc];rfl
theorem zG{w:W}{m:AM}{e:EM}{i:Int}(hm:m σ ph=.ok ws ph1)(hz:ws.length<=1000000)(he:e σ (ph1++[.lst ws])=.ok (.int i) (ph1++[.lst ws]))(hi:ck ws i=some w):ab ag (bI m) e σ ph=.ok w (ph1++[.lst ws]):=by
 refine op (x:=.ref ph1.length) (ph1:=ph1++[.lst ws]) ?_ he (ed (bu _ _) hi);rw[pv];exact aw hm (zq ws ph1 (small hz))
theorem kg{a n:Int}(hn:0<n):∃m:Nat,(m:Int)<n/\a.fmod n=(m:Int):=by
 have q:=mM a n hn;exact⟨(a.fmod n).toNat,by omega,by omega⟩
theorem vU{v:Int}(h1: -4294967296<=v)(h2:v<=4294967296):eF v:=⟨by omega,by omega⟩
theorem Hs(c:Int)(ph:PH):∃v ph',oM [.int c] ph=.ok (.int v) ph'/\Ex ph ph'/\eF v:=by
 unfold oM kS;rw[jl];have m4:∀{σ:aQ} {H:PH},aa 0 σ=ax (.int c)->ab bC (aa 0) (eC (.int (4))) σ H=.ok (.int (c.fmod 4)) H:=fun{σ H} h=>md (by rw[h];rfl) rfl (by decide)
 have d4:∀{σ:aQ} {H:PH},aa 0 σ=ax (.int c)->ab cy (aa 0) (eC (.int (4))) σ H=.ok (.int (c.fdiv 4)) H:=fun{σ H} h=>dv (by rw[h];rfl) rfl (by decide) (by decide)
 by_cases h3:c.fmod 4=3
 ·obtain⟨m,hm,em⟩:=kg (a:=c.fdiv 4) (n:=8) (by decide);obtain⟨v,hv,sv⟩:∃v,[(2147483647:Int),-2147483648,65536,-1,46341,-65537,1,0][m]? =some v/\eF v:=by
   have:m=0\/m=1\/m=2\/m=3\/m=4\/m=5\/m=6\/m=7:=by omega
   rcases this with rfl | rfl | rfl | rfl | rfl | rfl | rfl | rfl <;> exact⟨_,rfl,vU (by decide) (by decide)⟩
  refine⟨v,_,dN (bK (eI (m4 rfl) (decide_eq_true h3)) (retS (zG (ws:=[(2147483647:Int),-2147483648,65536,-1,46341,-65537,1,0].map W.int) (i:=(m:Int)) (ph1:=ph) rfl (adX rfl) ?_ ?_))),Ex.one _ _,sv⟩
  ·rw[<- em];exact md (d4 rfl) rfl (by decide)
  ·rw[fc _ _ (by simp;omega),abY,hv];rfl
 ·by_cases h2:c.fmod 4=2
  ·refine⟨_,ph,bq (az (eI (m4 rfl) (decide_eq_false h3)) rfl) (dN (bK (eI (m4 rfl) (decide_eq_true h2)) (retS (sb (md (ml (d4 rfl) rfl (pD (by decide) (by decide))) rfl (by decide)) rfl)))),Ex.refl _,?_⟩;have q:=mM (c.fdiv 4*48271) 4294967296 (by decide);exact vU (by omega) (by omega)
  ·by_cases h1:c.fmod 4=1
   ·refine⟨_,ph,bq (az (eI (m4 rfl) (decide_eq_false h3)) rfl) (bq (az (eI (m4 rfl) (decide_eq_false h2)) rfl) (dN (bK (eI (m4 rfl) (decide_eq_true h1)) (retS (sb (md (d4 rfl) rfl (by decide)) rfl))))),Ex.refl _,?_⟩;have q:=mM (c.fdiv 4) 100003 (by decide);exact vU (by omega) (by omega)
   ·refine⟨_,ph,bq (az (eI (m4 rfl) (decide_eq_false h3)) rfl) (bq (az (eI (m4 rfl) (decide_eq_false h2)) rfl) (bq (az (eI (m4 rfl) (decide_eq_false h1)) rfl) (br (sb (md (d4 rfl) rfl (by decide)) rfl)))),Ex.refl _,?_⟩;have q:=mM (c.fdiv 4) 19 (by decide);exact vU (by omega) (by omega)
theorem Zk(c:Int){bx sl:Int}(hb:0<bx/\bx<100)(hs:0<sl/\sl<100)(ph:PH):∃r ph',xP [.int c,.int bx,.int sl] ph=.ok (Row.w r) ph'/\Ex ph ph'/\fj r:=by
 have qB:bx≠0:=by omega
 have qA:sl≠0:=by omega
 obtain⟨kd,JY⟩:∃kd,kd=c.fmod 12:=⟨_,rfl⟩
 obtain⟨mo,hmo⟩:∃mo,mo=(c.fdiv 12*48271).fmod 2147483647:=⟨_,rfl⟩
 obtain⟨on,hon⟩:∃on,on=mo.fmod bx:=⟨_,rfl⟩
 obtain⟨ot,qw⟩:∃ot,ot=(mo.fdiv 9).fmod bx:=⟨_,rfl⟩
 obtain⟨so,hso⟩:∃so,so=(mo.fdiv 81).fmod sl:=⟨_,rfl⟩
 obtain⟨eN,e5⟩:∃eN:aQ,eN=[some (.int c),some (.int bx),some (.int sl),some (.int kd),some (.int mo),some (.int on),some (.int ot),some (.int so),none,none]:=⟨_,rfl⟩
 have pre:∀{b:SM} {r:Out W},au (b eN) dS ph=r->au (ay (aE (ab bC (aa 0) (eC (.int (12)))) (gN 3)) (ay (aE (ab bC (ab bV (ab cy (aa 0) (eC (.int (12)))) (eC (.int (48271)))) (eC (.int (2147483647)))) (gN 4)) (ay (aE (ab bC (aa 4) (aa 1)) (gN 5)) (ay (aE (ab bC (ab cy (aa 4) (eC (.int (9)))) (aa 1)) (gN 6)) (ay (aE (ab bC (ab cy (aa 4) (eC (.int (81)))) (aa 2)) (gN 7)) b)))) [some (.int c),some (.int bx),some (.int sl),none,none,none,none,none,none,none]) dS ph=r:=fun{b r} h=>by
  refine bq (σ1:=[some (.int c),some (.int bx),some (.int sl),some (.int kd),none,none,none,none,none,none]) (by rw[JY];exact asg (md rfl rfl (by decide))) (bq (σ1:=[some (.int c),some (.int bx),some (.int sl),some (.int kd),some (.int mo),none,none,none,none,none]) (by rw[hmo];exact asg (md (ml (dv rfl rfl (by decide) (by decide)) rfl (pD (by decide) (by decide))) rfl (by decide))) (bq (σ1:=[some (.int c),some (.int bx),some (.int sl),some (.int kd),some (.int mo),some (.int on),none,none,none,none]) (by rw[hon];exact asg (md rfl rfl qB)) (bq (σ1:=[some (.int c),some (.int bx),some (.int sl),some (.int kd),some (.int mo),some (.int on),some (.int ot),none,none,none]) (by rw[qw];exact asg (md (dv rfl rfl (by decide) (by decide)) rfl qB)) (bq (σ1:=eN) (by rw[e5,hso];exact asg (md (dv rfl rfl (by decide) (by decide)) rfl qA)) h))))
 have qk:=mM c 12 (by decide);rw[<- JY] at qk;unfold xP mF;rw[nT];by_cases h5:kd<5
 ·obtain⟨m,hm,em⟩:=kg (a:=mo.fdiv 486) (n:=6) (by decide);obtain⟨wd,hw⟩:∃wd:Wd,[(.str "sum":W),.str "less",.str "times",.str "part",.str "below",.str "alike"][m]? =some (.str wd.s):=by
   have:m=0\/m=1\/m=2\/m=3\/m=4\/m=5:=by omega
   rcases this with rfl | rfl | rfl | rfl | rfl | rfl
   ·exact⟨.sum,rfl⟩
   ·exact⟨.less,rfl⟩
   ·exact⟨.times,rfl⟩
   ·exact⟨.part,rfl⟩
   ·exact⟨.below,rfl⟩
   ·exact⟨.alike,rfl⟩
  refine⟨.dY on wd ot ((mo.fdiv 2916).fmod bx),ph++[PO.lst [.str "sum",.str "less",.str "times",.str "part",.str "below",.str "alike"]],pre ?_,Ex.one _ _,trivial⟩;subst e5;refine dN (bK (ltI rfl (decide_eq_true h5)) (sq (asg (zG (ws:=[.str "sum",.str "less",.str "times",.str "part",.str "below",.str "alike"]) (w:=.str wd.s) (i:=(m:Int)) (ph1:=ph) rfl (adX rfl) ?_ ?_)) (retS (aw (aC rfl (aC rfl (aC rfl (aC rfl (aC (md (dv rfl rfl (by decide) (by decide)) rfl qB) rfl))))) rfl))))
  ·rw[<- em];exact md (dv rfl rfl (by decide) (by decide)) rfl (by decide)
  ·rw[fc _ _ (by simp;omega)];exact hw
 ·obtain⟨v,H1,e1,x1,sv⟩:=Hs (mo.fdiv 9) ph;obtain⟨m,em⟩:∃m:Nat,kd-5=(m:Int):=⟨(kd-5).toNat,by omega⟩
  obtain⟨r,hr,ok⟩:∃r:Row,[(Row.put on v).w,(Row.move on ot).w,(Row.pull on so).w,(Row.push so on).w,(Row.take on).w,(Row.tell on).w,Row.turn.w][m]? =some r.w/\fj r:=by
   have:m=0\/m=1\/m=2\/m=3\/m=4\/m=5\/m=6:=by omega
   rcases this with rfl | rfl | rfl | rfl | rfl | rfl | rfl
   ·exact⟨_,rfl,sv⟩
   all_goals exact⟨_,rfl,trivial⟩
  obtain⟨H2,e2⟩:∃H2,H2=H1++[PO.lst [(Row.put on v).w,(Row.move on ot).w,(Row.pull on so).w,(Row.push so on).w]]:=⟨_,rfl⟩
  obtain⟨H3,e3⟩:∃H3,H3=H2++[PO.lst [(Row.take on).w,(Row.tell on).w,Row.turn.w]]:=⟨_,rfl⟩
  obtain⟨H4,e4⟩:∃H4,H4=H3++[PO.lst [(Row.put on v).w,(Row.move on ot).w,(Row.pull on so).w,(Row.push so on).w,(Row.take on).w,(Row.tell on).w,Row.turn.w]]:=⟨_,rfl⟩
  have x2:Ex H1 H2:=e2▸Ex.one _ _;have x3:Ex H2 H3:=e3▸Ex.one _ _;have x4:Ex H3 H4:=e4▸Ex.one _ _;have g2:H2[H1.length]? =some (PO.lst [(Row.put on v).w,(Row.move on ot).w,(Row.pull on so).w,(Row.push so on).w]):=by rw[e2];exact bu _ _
  have g3:H3[H2.length]? =some (PO.lst [(Row.take on).w,(Row.tell on).w,Row.turn.w]):=by rw[e3];exact bu _ _
  have g4:H4[H3.length]? =some (PO.lst [(Row.put on v).w,(Row.move on ot).w,(Row.pull on so).w,(Row.push so on).w,(Row.take on).w,(Row.tell on).w,Row.turn.w]):=by rw[e4];exact bu _ _
  refine⟨r,H4,pre ?_,((x1.trans x2).trans x3).trans x4,ok⟩;subst e5;refine bq (az (ltI rfl (decide_eq_false h5)) rfl) (bq (ph1:=H2) (σ1:=[some (.int c),some (.int bx),some (.int sl),some (.int kd),some (.int mo),some (.int on),some (.int ot),some (.int so),none,some (.ref H1.length)]) ?_ (bq (ph1:=H4) (σ1:=[some (.int c),some (.int bx),some (.int sl),some (.int kd),some (.int mo),some (.int on),some (.int ot),some (.int so),none,some (.ref H3.length)]) ?_ (br ?_)))
  ·refine(asg (w:=.ref H1.length) (ph1:=H2) ?_).trans rfl;rw[pv];refine aw (aC (w:=(Row.put on v).w) (ph1:=H1) (aw (aC rfl (aC rfl (aC (aw (aC (dv rfl rfl (by decide) (by decide)) rfl) e1) rfl))) rfl) (aC (w:=(Row.move on ot).w) (ph1:=H1) rfl (aC (w:=(Row.pull on so).w) (ph1:=H1) rfl (aC (w:=(Row.push so on).w) (ph1:=H1) rfl rfl)))) ?_;rw[e2];exact zq _ H1 (small (by simp))
  ·refine(asg (w:=.ref H3.length) (ph1:=H4) (op (x:=.ref H1.length) (ph1:=H2) (y:=.ref H2.length) (ph2:=H3) rfl ?_ ?_)).trans rfl
   ·rw[e3];rfl
   ·rw[Ff (x3.get g2) g3 (small (by simp)),e4];rfl
  ·refine op (x:=.ref H3.length) (ph1:=H4) (y:=.int m) (ph2:=H4) rfl (by rw[<- em];exact sb rfl rfl) (ed g4 ?_);have:=(abV.mp hr).1;rw[fc _ _ this];exact hr
theorem BO(h:H[i]? =some (.lst (iw l)))(ha:a σ H=.ok (.int k) H)(hb:b σ H=.ok (.ref i) H):ab cV a b σ H=.ok (.bl (decide (k∈l))) H:=by
 refine op ha hb ?_;rw[Wo h (k7 (dat H 40) (fun x:Nat=>W.int x) (fun x:Nat=>agW (x:Int)) (fun x=>dR H 40 x) l) (dR H 40 k),agY]
 congr 2
 rw[aft,afj,decide_eq_true_eq];constructor
 ·rintro⟨x,hx,e⟩;simp only[aeT,Hd,decide_eq_true_eq] at e;have:x=k:=by omega
  exact this▸hx
 ·intro hk;exact⟨k,hk,by simp only[aeT,Hd,decide_true]⟩
theorem tB{e:EM}(h:e σ ph=.ok (.bl c) ph1):eT e σ ph=.ok c ph1:=aw h rfl
theorem jU{a b:TM}{x y:Bool}(ha:a σ ph=.ok x ph)(hb:b σ ph=.ok y ph):dj a b σ ph=.ok (x||y) ph:=by
 rw[la];refine aw ha ?_;cases x
 ·exact hb
 ·rfl
theorem wg{a b:TM}{x y:Bool}(ha:a σ ph=.ok x ph)(hb:b σ ph=.ok y ph):cQ a b σ ph=.ok (x&&y) ph:=by
 rw[yF];refine aw ha ?_;cases x
 ·rfl
 ·exact hb
theorem sh(b:SM)(n:Nat)(x y z u v:W):fM b n 5 [x,y,z,u,v]=au (b (some x::some y::some z::some u::some v::acf (n-5) none)) dS:=(rfl)
def Gl(n blk:Nat)(TL:List Nat)(g:Nat):Prop:=g<n/\(blk<g\/g∈TL\/blk∈TL)
variable{TL:List Nat}
theorem GC{blk:Nat}(mo:Int)(ht:ph[ti]? =some (.lst (iw TL)))(hn:n<=60) :
  ∃o ph',oT [.int mo,.int blk,.int n,.ref ti] ph=.ok (pw o) ph'/\Ex ph ph'/\(∀g,o=some g->Gl n blk TL g)/\(o=none↔∀g,g<n->¬(blk<g\/g∈TL\/(g=0/\blk∈TL))):=by
 obtain⟨p,hp⟩:∃p:Nat->Bool,p=fun g=>decide (blk<g)||(decide (g∈TL)||(decide (g=0)&&decide (blk∈TL))):=⟨_,rfl⟩
 have pt:∀g,p g=true↔(blk<g\/g∈TL\/(g=0/\blk∈TL)):=fun g=>by rw[hp];simp
 obtain⟨H1,e1,x1⟩:=ke (acC n) (fun i:Nat=>W.int i) (im:=cD (ae (aa 2) ah)) (cap:=[none,some 1,some 3]) (g:=gN 0) (c:=dj (eT (ab gY (aa 0) (aa 1))) (dj (eT (ab cV (aa 0) (aa 2))) (cQ (eT (ab aH (aa 0) (eC (.int (0))))) (eT (ab cV (aa 1) (aa 2)))))) (e:=aa 0) (σ:=[some (.int mo),some (.int blk),some (.int n),some (.ref ti),none]) (ph0:=ph) (ph:=ph) (chk:=fun _=>true)
  (by rw[<- rB];exact ie (j:=n) rfl (by omega) (by omega)) (fun _ _=>rfl) (by rw[acI];exact acl hn (by decide))
  (fun g=>if p g=true then some (.int g) else none) (fun σ=>∃o,σ=[o,some (.int blk),some (.ref ti)]) ⟨none,rfl⟩
  (fun g hg σ K zz hx=>by
   obtain⟨o,rfl⟩:=zz;have hT:=hx.get ht;have i1:eT (ab gY (aa 0) (aa 1)) [some (.int g),some (.int blk),some (.ref ti)] K=.ok (decide (blk<g)) K:=by
    refine tB (op rfl rfl ?_);show Out.ok (W.bl (decide ((blk:Int)<(g:Int)))) K=_
    congr 2
    exact decide_eq_decide.mpr (by omega)
   have i2:eT (ab cV (aa 0) (aa 2)) [some (.int g),some (.int blk),some (.ref ti)] K=.ok (decide (g∈TL)) K:=tB (BO hT rfl rfl);have i3:eT (ab aH (aa 0) (eC (.int (0)))) [some (.int g),some (.int blk),some (.ref ti)] K=.ok (decide (g=0)) K:=eI (z:=0) rfl (decide_eq_decide.mpr (by omega));have i4:eT (ab cV (aa 1) (aa 2)) [some (.int g),some (.int blk),some (.ref ti)] K=.ok (decide (blk∈TL)) K:=tB (BO hT rfl rfl);have tt:(dj (eT (ab gY (aa 0) (aa 1))) (dj (eT (ab cV (aa 0) (aa 2))) (cQ (eT (ab aH (aa 0) (eC (.int (0))))) (eT (ab cV (aa 1) (aa 2)))))) [some (.int g),some (.int blk),some (.ref ti)] K=.ok (p g) K:=by
    have e:p g=(decide (blk<g)||(decide (g∈TL)||(decide (g=0)&&decide (blk∈TL)))):=by rw[hp]
    rw[e];exact jU i1 (jU i2 (wg i3 i4))
   refine⟨_,rfl,⟨_,rfl⟩,_,K,tt,Ex.refl _,?_⟩;cases hpg:p g
   ·exact .inl ⟨rfl,if_neg acF⟩
   ·exact .inr ⟨rfl,_,K,rfl,Ex.refl _,if_pos rfl⟩)
 obtain⟨l,hl⟩:∃l,l=(acC n).filter p:=⟨_,rfl⟩
 have BP:(acC n).filterMap (fun g=>if p g=true then some (W.int g) else none)=iw l:=by
  rw[hl];unfold iw;rw[<- ags,agt];rfl
 rw[BP] at x1;have g1:H1[ph.length]? =some (.lst (iw l)):=x1.get (bu ph _);have JZ:Ex ph H1:=(Ex.one _ _).trans x1;have hln:l.length<=60:=by rw[hl];have:=afh p (acC n);rw[acI] at this;omega
 have g2:(H1++[PO.lst []])[ph.length]? =some (.lst (iw l)):=(Ex.one _ _).get g1;have et:eT (ab aH (aa 4) (bI ah)) [some (.int mo),some (.int blk),some (.int n),some (.ref ti),some (.ref ph.length)] H1=.ok (iw l).isEmpty (H1++[.lst []]):=tB (op (x:=.ref ph.length) (y:=.ref H1.length) (ph2:=H1++[.lst []]) rfl rfl (z6 (eq_nil g2 (bu _ _) (k7 (dat _ 39) (fun x:Nat=>W.int x) (fun x:Nat=>agW (x:Int)) (fun x=>dR _ 39 x) l))));unfold oT kT;rw[wI];cases hc:l with
 | nil=>
  rw[hc] at et;refine⟨none,H1++[.lst []],bq (asg e1) (dN (bK et (retS rfl))),JZ.trans (Ex.one _ _),fun g hg=>(nomatch hg),⟨fun _ g hg q=>?_,fun _=>rfl⟩⟩;have:g∈l:=by rw[hl];exact adu.mpr ⟨ade.mpr hg,(pt g).mpr q⟩
  rw[hc] at this;cases this
 | cons a l2=>
  have abv:0<l.length:=by rw[hc];simp
  obtain⟨m,hm,em⟩:=kg (a:=mo) (n:=(l.length:Int)) (by omega);obtain⟨g,hg⟩:∃g,l[m]? =some g:=bW (by omega);have oj:=acd hg;rw[hl] at oj;obtain⟨q1,q2⟩:=adu.mp oj;have q1:=ade.mp q1;have q2:=(pt g).mp q2;have et:eT (ab aH (aa 4) (bI ah)) [some (.int mo),some (.int blk),some (.int n),some (.ref ti),some (.ref ph.length)] H1=.ok false (H1++[.lst []]):=by rw[et,hc];rfl
  refine⟨some g,H1++[.lst []],bq (asg e1) (bq (az et rfl) (br (op (x:=.ref ph.length) (y:=.int m) (ph2:=H1++[.lst []]) rfl ?_ (Hr g2 hg)))),JZ.trans (Ex.one _ _),fun g' qD=>?_,⟨fun z=>(nomatch z),fun z=>absurd q2 (z g q1)⟩⟩
  ·rw[<- em];refine md rfl (aw (aC rfl rfl) ((lb g2).trans (by rw[jd]))) (by omega)
  ·cases qD;exact⟨q1,q2.imp id fun z=>z.imp id fun z=>z.2⟩
theorem jP{o:Option Nat}(h:aa i σ=ax (pw o)):eT (ab iy (aa i) (eC .aI)) σ ph=.ok o.isNone ph:=by
 rw[fE,df,h];cases o <;> rfl
theorem aax{blk:Nat}(c:Int){bx:Int}(hb:0<bx/\bx<100)(ht:ph[ti]? =some (.lst (iw TL)))(hn:n<=60) :
  ∃e ph',xQ [.int c,.int blk,.int n,.ref ti,.int bx] ph=.ok (En.w e) ph'/\Ex ph ph'/\∀g∈e.to,Gl n blk TL g:=by
 obtain⟨d,hd⟩:∃d,d=(c*48271).fmod 2147483647:=⟨_,rfl⟩
 obtain⟨o1,H1,e1,x1,q1,z1⟩:=GC (blk:=blk) (n:=n) (d.fdiv 8) ht hn;obtain⟨o2,H2,e2,x2,q2,z2⟩:=GC (blk:=blk) (n:=n) (d.fdiv 800) (x1.get ht) hn;have hz:o1=none↔o2=none:=z1.trans z2.symm;have BQ:=x1.trans x2;have t1:eT (ab aH (ab bC (aa 0) (eC (.int (8)))) (eC (.int (0)))) [some (.int d),some (.int blk),some (.int n),some (.ref ti),some (.int bx),some (pw o1),some (pw o2)] H2=.ok (decide (d.fmod 8=0)) H2:=eI (md rfl rfl (by decide)) rfl;have tt:dj (eT (ab iy (aa 5) (eC .aI))) (eT (ab aH (ab bC (aa 0) (eC (.int (8)))) (eC (.int (0))))) [some (.int d),some (.int blk),some (.int n),some (.ref ti),some (.int bx),some (pw o1),some (pw o2)] H2=.ok (o1.isNone||decide (d.fmod 8=0)) H2:=by
  exact jU (jP rfl) t1
 have pre:∀{b:SM} {r:Out W},au (b [some (.int d),some (.int blk),some (.int n),some (.ref ti),some (.int bx),some (pw o1),some (pw o2)]) dS H2=r->au (ay (aE (ab bC (ab bV (aa 0) (eC (.int (48271)))) (eC (.int (2147483647)))) (gN 0)) (ay (aE (aX oT (ae (ab cy (aa 0) (eC (.int (8)))) (ae (aa 1) (ae (aa 2) (ae (aa 3) ah))))) (gN 5)) (ay (aE (aX oT (ae (ab cy (aa 0) (eC (.int (800)))) (ae (aa 1) (ae (aa 2) (ae (aa 3) ah))))) (gN 6)) b)) [some (.int c),some (.int blk),some (.int n),some (.ref ti),some (.int bx),none,none]) dS ph=r:=fun{b r} h=>
  bq (σ1:=[some (.int d),some (.int blk),some (.int n),some (.ref ti),some (.int bx),none,none]) (by rw[hd];exact asg (md (ml rfl rfl (pD (by decide) (by decide))) rfl (by decide))) (bq (asg (aw (aC (dv rfl rfl (by decide) (by decide)) (aC rfl (aC rfl (aC rfl rfl)))) e1)) (bq (asg (aw (aC (dv rfl rfl (by decide) (by decide)) (aC rfl (aC rfl (aC rfl rfl)))) e2)) h))
 unfold xQ mG;rw[sh];by_cases h0:o1.isNone=true\/d.fmod 8=0
 ·refine⟨.fin,H2,pre (dN (bK (tt.trans ?_) (retS rfl))),BQ,fun g hg=>by cases hg⟩
  rcases h0 with h | h
  ·rw[h];rfl
  ·rw[decide_eq_true h,Bool.or_true]
 ·obtain⟨g1,J0⟩:∃g1,o1=some g1:=by
   cases o1 with
   | none=>exact absurd (.inl rfl) h0
   | some g=>exact⟨g,rfl⟩
  obtain⟨g2,hg2⟩:∃g2,o2=some g2:=by
   cases o2 with
   | none=>rw[J0] at hz;exact absurd (hz.mpr rfl) (fun z=>nomatch z)
   | some g=>exact⟨g,rfl⟩
  have hd8:¬d.fmod 8=0:=fun z=>h0 (.inr z)
  subst J0 hg2;have tt:dj (eT (ab iy (aa 5) (eC .aI))) (eT (ab aH (ab bC (aa 0) (eC (.int (8)))) (eC (.int (0))))) [some (.int d),some (.int blk),some (.int n),some (.ref ti),some (.int bx),some (pw (some g1)),some (pw (some g2))] H2=.ok false H2:=tt.trans (by rw[decide_eq_false hd8];rfl);by_cases h4:d.fmod 8<4
  ·refine⟨.iff ((d.fdiv 80000).fmod bx) g1 g2,H2,pre (bq (az tt rfl) (dN (bK (ltI (md rfl rfl (by decide)) (decide_eq_true h4)) (retS (aw (aC rfl (aC (md (dv rfl rfl (by decide) (by decide)) rfl (by omega)) (aC rfl (aC rfl rfl)))) rfl))))),BQ,fun g hg=>?_⟩;have:g=g1\/g=g2:=by simpa[En.to] using hg
   rcases this with rfl | rfl
   ·exact q1 _ rfl
   ·exact q2 _ rfl
  ·refine⟨.go g1,H2,pre (bq (az tt rfl) (bq (az (ltI (md rfl rfl (by decide)) (decide_eq_false h4)) rfl) (br rfl))),BQ,fun g hg=>?_⟩;have:g=g1:=by simpa[En.to] using hg
   rw[this];exact q1 _ rfl
theorem aay(ns:List Int)(i:Int)(h:0<=i):fQ [.fl (ns.map W.int),.int i]=ax (.int (ns.getD i.toNat 0)):=by
 have:=aan ns i.toNat;rw[Int.toNat_of_nonneg h] at this;exact this
variable{ns:List Int}
theorem cl{i:Int}(ha:a σ ph=.ok (.fl (ns.map W.int)) ph1)(hb:b σ ph1=.ok (.int i) ph2)(h:0<=i):aX fQ (ae a (ae b ah)) σ ph=.ok (.int (ns.getD i.toNat 0)) ph2:=aw (aC ha (aC hb rfl)) (congrFun (aay ns i h) ph2)
def cv(ns:List Int)(k:Nat):Int:=ns.getD (2+(k:Int).fmod 40).toNat 0+91*(k:Int).fdiv 40
def Cs(ns:List Int)(n:Nat):List Int:=(acC (4*n)).map (cv ns)
theorem Zl(ns:List Int)(n:Nat):(Cs ns n).length=4*n:=by unfold Cs;rw[abX,acI]
theorem wb{l:List Int}{x:Int}(h:H[i]? =some (.lst (l.map W.int)))(hk:l[k]? =some x)(ha:a σ ph=.ok (.ref i) H)(hb:b σ H=.ok (.int k) H):ab ag a b σ ph=.ok (.int x) H:=by
 refine op ha hb (ed h ?_);have:=(abV.mp hk).1;rw[fc _ _ (by rw[abX];exact this),abY,hk];rfl
theorem W3{bx sl:Int}(hn:n<=60) :
  ∃ph',cB (cD (ae (ab bV (eC (.int (4))) (aa 2)) ah)) [none,some 0,some 1] (gN 0) cJ (ab addW (aX fQ (ae (aa 1) (ae (ab addW (aa 2) (ab bC (aa 0) (eC (.int (40))))) ah))) (ab bV (eC (.int (91))) (ab cy (aa 0) (eC (.int (40)))))) [some (.fl (ns.map W.int)),some (.int 2),some (.int n),some (.int bx),some (.int sl),none,none,none,none,none,none] ph=.ok (.ref ph.length) ph'/\Ex ph ph'/\ph'[ph.length]? =some (.lst ((Cs ns n).map W.int)):=by
 obtain⟨ph',e,x⟩:=ke (acC (4*n)) (fun i:Nat=>W.int i) (im:=cD (ae (ab bV (eC (.int (4))) (aa 2)) ah)) (cap:=[none,some 0,some 1]) (g:=gN 0) (c:=cJ) (e:=ab addW (aX fQ (ae (aa 1) (ae (ab addW (aa 2) (ab bC (aa 0) (eC (.int (40))))) ah))) (ab bV (eC (.int (91))) (ab cy (aa 0) (eC (.int (40)))))) (σ:=[some (.fl (ns.map W.int)),some (.int 2),some (.int n),some (.int bx),some (.int sl),none,none,none,none,none,none]) (ph0:=ph) (ph:=ph) (chk:=fun _=>true)
  (by
   rw[<- rB];have:=ie (m:=ae (ab bV (eC (.int (4))) (aa 2)) ah) (σ:=[some (.fl (ns.map W.int)),some (.int 2),some (.int n),some (.int bx),some (.int sl),none,none,none,none,none,none]) (ph:=ph) (ph':=ph) (j:=4*(n:Int)) (aC (ml rfl rfl (zy (by decide) (by decide))) rfl) (by omega) (by omega);rw[show(4*(n:Int)).toNat=4*n by omega] at this;exact this) (fun _ _=>rfl) (by rw[acI];exact acl (show 4*n<=240 by omega) (by decide))
  (fun k=>some (.int (cv ns k))) (fun σ=>∃o,σ=[o,some (.fl (ns.map W.int)),some (.int 2)]) ⟨none,rfl⟩
  (fun k hk σ K zz hx=>by
   obtain⟨o,rfl⟩:=zz;have q:=mM (k:Int) 40 (by decide);refine⟨_,rfl,⟨_,rfl⟩,true,K,rfl,Ex.refl _,.inr ⟨rfl,_,K,ad (cl rfl (ad rfl (md rfl rfl (by decide))) (by omega)) (ml rfl (dv rfl rfl (by decide) (by decide)) (zy (by decide) (by decide))),Ex.refl _,rfl⟩⟩)
 rw[m7] at x;refine⟨ph',e,(Ex.one _ _).trans x,?_⟩;rw[x.get (bu ph _)];unfold Cs;rw[adi];rfl
def tj(C:List Int)(n:Nat):List Nat:=(acC n).filter fun k=>decide ((C.getD (4*k) 0).fmod 4=1)
theorem four(hb:b σ ph=.ok (.int k) ph):ab bV (eC (.int (4))) b σ ph=.ok (.int ((4*k:Nat):Int)) ph:=by
 rw[ml rfl hb (zy (by decide) (by decide)),Int.natCast_mul];rfl
variable{ci:Nat}
theorem Ur{C:List Int}(hn:n<=60)(hc:ph[ci]? =some (.lst (C.map W.int)))(hl:C.length=4*n) :
  ∃ph',cB (cD (ae (aa 2) ah)) [none,some 5] (gN 0) (eT (ab aH (ab bC (ab ag (aa 1) (ab bV (eC (.int (4))) (aa 0))) (eC (.int (4)))) (eC (.int (1))))) (aa 0) [s0,s1,some (.int n),s3,s4,some (.ref ci),none,none,none,none,none] ph=.ok (.ref ph.length) ph'/\Ex ph ph'/\ph'[ph.length]? =some (.lst (iw (tj C n))):=by
 obtain⟨ph',e,x⟩:=ke (acC n) (fun i:Nat=>W.int i) (im:=cD (ae (aa 2) ah)) (cap:=[none,some 5]) (g:=gN 0) (c:=eT (ab aH (ab bC (ab ag (aa 1) (ab bV (eC (.int (4))) (aa 0))) (eC (.int (4)))) (eC (.int (1))))) (e:=aa 0) (σ:=[s0,s1,some (.int n),s3,s4,some (.ref ci),none,none,none,none,none]) (ph0:=ph) (ph:=ph) (chk:=fun _=>true)
  (by rw[<- rB];exact ie (j:=n) rfl (by omega) (by omega)) (fun _ _=>rfl) (by rw[acI];exact acl hn (by decide))
  (fun k=>if(C.getD (4*k) 0).fmod 4=1 then some (.int k) else none) (fun σ=>∃o,σ=[o,some (.ref ci)]) ⟨none,rfl⟩
  (fun k hk σ K zz hx=>by
   obtain⟨o,rfl⟩:=zz;have hk:=ade.mp hk;have hC:C[4*k]? =some (C.getD (4*k) 0):=by rw[adz,adH (by omega)];rfl
   refine⟨_,rfl,⟨_,rfl⟩,_,K,eI (md (wb (hx.get hc) hC rfl (four rfl)) rfl (by decide)) rfl,Ex.refl _,?_⟩;by_cases h:(C.getD (4*k) 0).fmod 4=1
   ·exact .inr ⟨decide_eq_true h,_,K,rfl,Ex.refl _,if_pos h⟩
   ·exact .inl ⟨decide_eq_false h,if_neg h⟩)
 have BP:(acC n).filterMap (fun k=>if(C.getD (4*k) 0).fmod 4=1 then some (W.int k) else none)=iw (tj C n):=by
  unfold iw tj;rw[<- ags,agt];refine congrArg (fun F=>List.filterMap F (acC n)) (funext fun k=>?_);by_cases h:(C.getD (4*k) 0).fmod 4=1
  ·rw[if_pos h,if_pos (decide_eq_true h)];rfl
  ·rw[if_neg h,if_neg (by rw[decide_eq_false h];exact acF)]
 rw[BP] at x;exact⟨ph',e,(Ex.one _ _).trans x,x.get (bu ph _)⟩
structure DB(n:Nat)(TL:List Nat)(k:Nat)(b:bt):Prop where
 rl:b.rs.length<=4
 ro:∀r∈b.rs,fj r
 tr:k∈TL->om b
 gl:∀j∈b.en.to,Gl n k TL j
abbrev gG(ns:List Int)(n:Nat)(bx sl:Int)(ci ti bi:Nat)(o8 o9 o10:Option W):aQ:=[some (.fl (ns.map W.int)),some (.int 2),some (.int n),some (.int bx),some (.int sl),some (.ref ci),some (.ref ti),some (.ref bi),o8,o9,o10]
theorem W4{K1 K:PH}{bx sl:Int}{C:List Int}{pre:List Row}(hb:0<bx/\bx<100)(hs:0<sl/\sl<100)(hC:K1[ci]? =some (.lst (C.map W.int)))(hl:C.length=4*n)(hk:k<n)(gZ:K1.length<=ri)(x:Ex K1 K)(hr:K[ri]? =some (.lst (pre.map Row.w)))(hm:m<=3)(hp:pre.length<=1)(hpo:∀r∈pre,fj r) :
  ∃K' rs iF,dk (fun _=>true) (gN 10) xC (dB 0 m) (gG ns n bx sl ci ti bi (some (.int k)) (some (.ref ri)) o10) K=.ok (.nx (gG ns n bx sl ci ti bi (some (.int k)) (some (.ref ri)) iF)) K'/\Ex K1 K'/\K'[ri]? =some (.lst ((pre++rs).map Row.w))/\rs.length=m/\∀r∈pre++rs,fj r:=by
 obtain⟨ao,K',e,rs,iF,rfl,q1,q2,q3,q4⟩:=mX (chk:=fun _=>true) (g:=gN 10) (b:=xC)
  (fun j σ K=>∃rs iF,σ=gG ns n bx sl ci ti bi (some (.int k)) (some (.ref ri)) iF/\Ex K1 K/\K[ri]? =some (.lst ((pre++rs).map Row.w))/\rs.length=j/\∀r∈pre++rs,fj r)
  (dB 0 m) (gG ns n bx sl ci ti bi (some (.int k)) (some (.ref ri)) o10) K (fun _ _ _ _=>rfl)
  (fun j y σ K hj zz=>by
   obtain⟨rs,iF,rfl,q1,q2,q3,q4⟩:=zz;obtain⟨l6,rfl⟩:=vA hj;rw[agu];have BI:j % 2<2:=Nat.mod_lt _ (by decide);obtain⟨v,hv⟩:∃v,C[4*k+1+j % 2]? =some v:=bW (by omega);have fm:((j:Int)).fmod 2=((j % 2:Nat):Int):=by
    rw[afv _ (by decide)];rfl
   obtain⟨r,K2,e1,x1,ok⟩:=Zk (v*(1+(j:Int))+(k:Int)) hb hs K;refine⟨_,_,rfl,_,_,sU rfl ⟨_,q2⟩ (aw (aC (ad (ml (wb (k:=4*k+1+j % 2) (q1.get hC) hv rfl ?_) (ad rfl rfl) (pD (by omega) (by omega))) rfl) (aC rfl (aC rfl rfl))) e1) (x1.get q2) (by rw[abX,acg];omega),_,.inl rfl,rs++[r],_,rfl,Ex.set (q1.trans x1) gZ _,?_,by simp[q3],fun r' lQ=>?_⟩
   ·refine(ad (ad (four rfl) rfl) (md rfl rfl (by decide))).trans ?_;rw[fm];rfl
   ·rw[dQ (x1.get q2)];simp
   ·rw[<- afG] at lQ
    rcases adb.mp lQ with z | z
    ·exact q4 r' z
    ·rw[acG.mp z];exact ok)
  ⟨[],o10,rfl,x,by rw[adp];exact hr,rfl,by rw[adp];exact hpo⟩
 rw[kf] at q3;exact⟨K',rs,iF,e,q1,q2,q3,q4⟩
theorem W5(h:rs.length=B.length)(r:Nat)(b:bt):bw (rs++[r]) (B++[b])=bw rs B++[W.tup [.ref r,b.en.w]]:=by
 unfold bw;rw[List.zipWith_append h];rfl
theorem aaz{bx sl:Int}(ht:H[ti]? =some (.lst (iw TL))) :
  ∃pre H',ab bV (bI (ae (bB (ae (eC (.str "turn")) ah)) ah)) (bv iz (ae (ab cV (aa 8) (aa 6)) ah)) (gG ns n bx sl ci ti bi (some (.int k)) o9 o10) H=.ok (.ref (H.length+1)) H'/\Ex (H++[.lst [Row.turn.w]]) H'/\H'[H.length+1]? =some (.lst (List.map Row.w pre))/\pre.length<=1/\(∀r∈pre,fj r)/\(k∈TL->pre=[.turn]):=by
 obtain⟨H1,e1⟩:∃H1,H1=H++[PO.lst [Row.turn.w]]:=⟨_,rfl⟩
 have x1:Ex H H1:=e1▸Ex.one _ _;have g1:H1[H.length]? =some (PO.lst [Row.turn.w]):=by rw[e1];exact bu _ _
 have l1:H1.length=H.length+1:=by rw[e1];simp
 have i1:bv iz (ae (ab cV (aa 8) (aa 6)) ah) (gG ns n bx sl ci ti bi (some (.int k)) o9 o10) H1=.ok (.int (if k∈TL then 1 else 0)) H1:=by
  refine aw (aC (BO (x1.get ht) rfl rfl) rfl) ?_;by_cases h:k∈TL
  ·rw[decide_eq_true h,if_pos h];rfl
  ·rw[decide_eq_false h,if_neg h];rfl
 have e2:bI (ae (bB (ae (eC (.str "turn")) ah)) ah) (gG ns n bx sl ci ti bi (some (.int k)) o9 o10) H=.ok (.ref H.length) H1:=by rw[e1];rfl
 by_cases h:k∈TL
 ·rw[if_pos h] at i1;refine⟨[.turn],H1++[.lst [Row.turn.w]],op e2 i1 ?_,by rw[<- e1];exact Ex.one _ _,by rw[<- l1];exact bu _ _,abZ _,fun r hr=>by rw[acG.mp hr];trivial,fun _=>rfl⟩;rw[yK g1 (by decide) (by decide) (small (adX rfl)),<- l1];rfl
 ·rw[if_neg h] at i1;refine⟨[],H1++[.lst []],op e2 i1 ?_,by rw[<- e1];exact Ex.one _ _,by rw[<- l1];exact bu _ _,adI _,fun r hr=>(nomatch hr),fun z=>absurd z h⟩;rw[yK g1 (by decide) (by decide) (small (adX rfl)),<- l1];rfl
theorem Vp(ns:List Int){bx sl:Int}(hn:n<=60)(hn0:0<n)(hb:0<bx/\bx<100)(hs:0<sl/\sl<100) :
  ∃bi ph' B,xH [.fl (ns.map W.int),.int 2,.int n,.int bx,.int sl] ph=.ok (.ref bi) ph'/\Ex ph ph'/\d7 ph' bi B/\B.length=n/\gF 4 B/\xk B:=by
 obtain⟨H1,e1,x1,g1⟩:=W3 (ph:=ph) (ns:=ns) (bx:=bx) (sl:=sl) hn;have BR:=Zl ns n;obtain⟨C,hC⟩:∃C,C=Cs ns n:=⟨_,rfl⟩
 rw[<- hC] at g1 BR;obtain⟨H2,e2,x2,g2⟩:=Ur (s0:=some (.fl (ns.map W.int))) (s1:=some (.int 2)) (s3:=some (.int bx)) (s4:=some (.int sl)) hn g1 BR;obtain⟨TL,hT⟩:∃TL,TL=tj C n:=⟨_,rfl⟩
 rw[<- hT] at g2;have BS:=x2.get g1;obtain⟨H3,e3⟩:∃H3,H3=H2++[PO.lst []]:=⟨_,rfl⟩
 have x3:Ex H2 H3:=e3▸Ex.one _ _;have g3:H3[H2.length]? =some (PO.lst []):=by rw[e3];exact bu _ _
 obtain⟨ao,H',e4,B,rs,o8,o9,o10,rfl,xh,jw,tm,oo,l9⟩:=mX (chk:=fun _=>true) (g:=gN 8) (b:=tH)
  (fun k σ H=>∃B rs o8 o9 o10,σ=gG ns n bx sl ph.length H1.length H2.length o8 o9 o10/\Ex H2 H/\Iq H H2.length rs B/\B.length=k/\(∀r∈rs,H2.length<r)/\∀(j:Nat) b,B[j]? =some b->DB n TL j b)
  (dB 0 n) (gG ns n bx sl ph.length H1.length H2.length none none none) H3 (fun _ _ _ _=>rfl)
  (fun k y σ H hk zz=>by
   obtain⟨B,rs,o8,o9,o10,rfl,xh,jw,tm,oo,l9⟩:=zz;obtain⟨oC,rfl⟩:=vA hk;rw[agu];have BF:=je jw.at_;obtain⟨pre,K2,p1,p2,p3,p4,p5,p6⟩:=aaz (ns:=ns) (n:=n) (bx:=bx) (sl:=sl) (ci:=ph.length) (bi:=H2.length) (o9:=o9) (o10:=o10) (k:=k) (xh.get g2);obtain⟨K1,BU⟩:∃K1,K1=H++[PO.lst [Row.turn.w]]:=⟨_,rfl⟩
   rw[<- BU] at p2;have l1:K1.length=H.length+1:=by rw[BU];simp
   have tq:Ex H K1:=BU▸Ex.one _ _;obtain⟨v,hv⟩:∃v,C[4*k]? =some v:=bW (by omega);obtain⟨K3,BV⟩:∃K3,K3=K2++[PO.lst ([(0:Int),0,1,2,3].map W.int)]:=⟨_,rfl⟩
   have BW:Ex K2 K3:=BV▸Ex.one _ _;obtain⟨q,hq,eq⟩:=kg (a:=v.fdiv 4) (n:=5) (by decide);obtain⟨m,hm,hm3⟩:∃m:Nat,[(0:Int),0,1,2,3][q]? =some (m:Int)/\m<=3:=by
    have:q=0\/q=1\/q=2\/q=3\/q=4:=by omega
    rcases this with rfl | rfl | rfl | rfl | rfl
    ·exact⟨0,rfl,by omega⟩
    ·exact⟨0,rfl,by omega⟩
    ·exact⟨1,rfl,by omega⟩
    ·exact⟨2,rfl,by omega⟩
    ·exact⟨3,rfl,by omega⟩
   have xx:Ex H2 K3:=((xh.trans tq).trans p2).trans BW;have im:cD (ae (ab ag (bI (ae (eC (.int (0))) (ae (eC (.int (0))) (ae (eC (.int (1))) (ae (eC (.int (2))) (ae (eC (.int (3))) ah)))))) (ab bC (ab cy (ab ag (aa 5) (ab bV (eC (.int (4))) (aa 8))) (eC (.int (4)))) (eC (.int (5))))) ah) (gG ns n bx sl ph.length H1.length H2.length (some (.int k)) (some (.ref (H.length+1))) o10) K2=.ok (dB 0 m,fun _=>true) K3:=by
    refine ie (j:=(m:Int)) (aC ?_ rfl) (by omega) (by omega);rw[BV];refine zG (ws:=[(0:Int),0,1,2,3].map W.int) (i:=(q:Int)) (ph1:=K2) rfl (adX rfl) ?_ ?_
    ·rw[<- BV,<- eq];exact md (dv (wb (k:=4*k) (xx.get BS) hv rfl (four rfl)) rfl (by decide) (by decide)) rfl (by decide)
    ·rw[fc _ _ (by simp;omega),abY,hm];rfl
   obtain⟨K4,J1,iF,i1,i2,i3,i4,i5⟩:=W4 (ns:=ns) (n:=n) (k:=k) (ti:=H1.length) (bi:=H2.length) (o10:=o10) hb hs ((xh.trans tq).get BS) BR oC (ri:=H.length+1) (by omega) (p2.trans BW) (BW.get p3) hm3 p4 p5;have J3:Ex H2 K4:=(xh.trans tq).trans i2;obtain⟨v3,hv3⟩:∃v3,C[4*k+3]? =some v3:=bW (by omega);obtain⟨en,K5,n1,n2,n3⟩:=aax (ti:=H1.length) (blk:=k) (n:=n) (v3+(k:Int)) hb (J3.get g2) hn;have BX:Ex H K5:=(tq.trans i2).trans n2;have gb:K5[H2.length]? =some (.lst (bw rs B)):=BX.get jw.at_;have kO:ab addW (ab ag (aa 5) (ab addW (ab bV (eC (.int (4))) (aa 8)) (eC (.int (3))))) (aa 8) (gG ns n bx sl ph.length H1.length H2.length (some (.int k)) (some (.ref (H.length+1))) iF) K4=.ok (.int (v3+(k:Int))) K4:=ad (wb (k:=4*k+3) (J3.get BS) hv3 rfl ((ad (four rfl) rfl).trans rfl)) rfl;have body:tH (gG ns n bx sl ph.length H1.length H2.length (some (.int k)) o9 o10) H=.ok (.nx (gG ns n bx sl ph.length H1.length H2.length (some (.int k)) (some (.ref (H.length+1))) iF)) (K5.set H2.length (.lst (bw rs B++[W.tup [.ref (H.length+1),en.w]]))):=by
    unfold tH;exact sq (asg p1) (sq (ff im i1) (sU rfl ⟨_,i2.get (tq.get jw.at_)⟩ (aw (aC rfl (aC (aw (aC kO (aC rfl (aC rfl (aC rfl (aC rfl rfl))))) n1) rfl)) rfl) gb (by rw[zE jw.len];omega)))
   refine⟨_,_,rfl,_,_,body,_,.inl rfl,B++[⟨pre++J1,en⟩],rs++[H.length+1],_,_,_,rfl,Ex.set (xh.trans BX) (abZ _) _,⟨?_,by simp[jw.len],fun j r b hr iP=>?_⟩,by simp[tm],fun r hr=>?_,fun j b iP=>?_⟩
   ·rw[dQ gb,W5 jw.len]
   ·rcases ig hr with⟨hj,hr⟩ | ⟨hj,rfl⟩
    ·rcases ig iP with⟨_,iP⟩ | ⟨BG,_⟩
     ·rw[dg (acL (oo r (acd hr)))];exact BX.get (jw.xl j r b hr iP)
     ·have:=jw.len;omega
    ·rcases ig iP with⟨BG,_⟩ | ⟨_,rfl⟩
     ·have:=jw.len;omega
     ·rw[dg (by omega)];exact n2.get i3
   ·rcases adb.mp hr with z | z
    ·exact oo r z
    ·rw[acG.mp z];omega
   ·rcases ig iP with⟨_,iP⟩ | ⟨hj,rfl⟩
    ·exact l9 j b iP
    ·rw[hj,tm];exact⟨by simp only[acg];omega,i5,fun hk=>⟨J1,by rw[p6 hk];rfl⟩,n3⟩)
  ⟨[],[],none,none,none,rfl,x3,⟨g3,rfl,fun k r b z=>by simp at z⟩,rfl,fun r hr=>(nomatch hr),fun j b z=>by simp at z⟩
 rw[kf] at tm;have abT:∀j∈TL,j<n:=fun j hj=>by rw[hT] at hj;unfold tj at hj;exact ade.mp (adu.mp hj).1
 refine⟨H2.length,H',B,?_,(x1.trans x2).trans xh,⟨rs,jw⟩,tm,⟨by omega,by omega,fun k b dO j hj=>?_,fun b hb=>?_⟩,fun k b dO j hj=>?_⟩
 ·unfold xH mq;rw[sh];exact bq (asg e1) (bq (asg e2) (bq (ph1:=H3) (σ1:=gG ns n bx sl ph.length H1.length H2.length none none none) (by rw[e3];rfl) (bq (ff (ie (j:=n) rfl (by omega) (by omega)) e4) rfl)))
 ·have:=((l9 k b dO).gl j hj).1;omega
 ·obtain⟨k,hk⟩:=acJ.mp hb;exact⟨(l9 k b hk).rl,(l9 k b hk).ro⟩
 ·obtain⟨q1,q2⟩:=(l9 k b dO).gl j hj;refine⟨by omega,?_⟩
  rcases q2 with z | z | z
  ·exact .inl z
  ·obtain⟨c,hc⟩:∃c,B[j]? =some c:=bW (by omega);exact .inr (.inl ⟨c,hc,(l9 j c hc).tr z⟩)
  ·exact .inr (.inr ((l9 k b dO).tr z))
theorem aaA(ph:PH)(s:String):dat ph 40 (.str (acu s))=some (.str (acu s)):=by
 unfold dat;rw[if_pos (so s)]
theorem gM(H:PH)(n:Nat)(s:String):dat H n (.str (acu s))=some (.str (acu s)):=by
 have:=aaA H s;cases n <;> exact this
theorem ic{ds:List aeC}(h:bD (dat H n) ws=some ds):dat H (n+1) (.tup ws)=some (.tuple ds):=by
 show(bD (dat H n) ws).map PyData.tuple=_;rw[h];rfl
theorem W6{ds:List aeC}(hi:H[i]? =some (.lst ws))(h:bD (dat H n) ws=some ds):dat H (n+1) (.ref i)=some (.list ds):=by
 unfold dat;simp only[hi,h];rfl
theorem mc{f:α->Option β}{a:α}{l:List α}{b:β}{m:List β}(h:f a=some b)(h2:bD f l=some m):bD f (a::l)=some (b::m):=by
 unfold bD;rw[h,h2]
variable{p:Nat}
theorem FC{y:String}{s:S}(h:H[p+2]? =some (.lst (s.told.map W.int))):dat H 40 (iE p y s)=some (.tuple [.str (acu y),.list (s.told.map agW),.int s.tk]):=
 ic (mc (gM H 39 y) (mc (W6 h (k7 (dat H 38) W.int agW (fun x=>dR H 38 x) s.told)) (mc (dR ..) rfl)))
theorem Vq{c:Int}(hm:m<=10)(ec:c.fmod 6=(m:Int)) :
  ∃ph' I,cB (cD (ae (ab bC (aa 4) (eC (.int (6)))) ah)) [none,some 0] (gN 0) cJ (aX oM (ae (aX fQ (ae (aa 1) (ae (ab addW (eC (.int (31))) (aa 0)) ah))) ah)) [some (.fl (ns.map W.int)),s1,s2,s3,some (.int c),s5,s6,s7] ph=.ok (.ref ph.length) ph'/\Ex ph ph'/\gS ph' ph.length I:=by
 obtain⟨ph',ws,e,x,g,hl,hP⟩:=zd (acC m) (fun i:Nat=>W.int i) (ph:=ph) (ph0:=ph) (im:=cD (ae (ab bC (aa 4) (eC (.int (6)))) ah)) (cap:=[none,some 0]) (g:=gN 0) (e:=aX oM (ae (aX fQ (ae (aa 1) (ae (ab addW (eC (.int (31))) (aa 0)) ah))) ah)) (σ:=[some (.fl (ns.map W.int)),s1,s2,s3,some (.int c),s5,s6,s7]) (chk:=fun _=>true)
  (by rw[<- rB];exact ie (j:=(m:Int)) (aC ((md rfl rfl (by decide)).trans (by rw[ec])) rfl) (by omega) (by omega)) (fun _ _=>rfl) (by rw[acI];omega)
  (fun j w H=>∃v,w=W.int v/\eF v) (fun j w H H' h _=>h) (fun σ=>∃o,σ=[o,some (.fl (ns.map W.int))]) ⟨none,rfl⟩
  (fun j k hj σ H hS y cE=>by
   obtain⟨o,rfl⟩:=hS;obtain⟨v,H2,e2,x2,sv⟩:=Hs (ns.getD (31+(k:Int)).toNat 0) H;exact⟨_,rfl,⟨_,rfl⟩,_,H2,aw (aC (cl rfl (ad rfl rfl) (by omega)) rfl) e2,x2,v,rfl,sv⟩)
 obtain⟨I,hI,hQ⟩:=yR (f:=W.int) (Q:=fun _ v=>eF v) fun j w hw=>hP j w hw
 refine⟨ph',I,e,x,by rw[g,hI],?_,fun v hv=>?_⟩
 ·rw[hI,abX,acI] at hl;omega
 ·obtain⟨j,hj⟩:=acJ.mp hv;exact hQ j v hj
theorem Zm(hA:d7 ph bi B)(hl:B.length<=60) :
  ∃ph',cB (cY (aa 3)) [none,none] (ji 2 [(gN 0),(gN 1)]) cJ (bB (ae (bv km (ae (aa 0) ah)) (ae (aa 1) ah))) [s0,s1,s2,some (.ref bi),s4,s5,s6,s7] ph=.ok (.ref ph.length) ph'/\Ex ph ph'/\d7 ph' ph.length B:=by
 obtain⟨rs,h⟩:=hA;obtain⟨ph',ws,e,x,g,jX,hP⟩:=zd (rs.zip B) (fun p=>W.tup [.ref p.1,p.2.en.w]) (ph:=ph) (ph0:=ph) (im:=cY (aa 3)) (cap:=[none,none]) (g:=ji 2 [(gN 0),(gN 1)]) (e:=bB (ae (bv km (ae (aa 0) ah)) (ae (aa 1) ah))) (σ:=[s0,s1,s2,some (.ref bi),s4,s5,s6,s7]) (chk:=fun p=>decide (p[bi]? =some (.lst (bw rs B))))
  (by rw[<- GB];exact gk rfl h.at_) (fun p x=>decide_eq_true (x.get h.at_)) (by rw[agq];omega)
  (fun j w H=>∃d:Nat×bt,w=W.tup [.ref d.1,d.2.en.w]/\d.1≠ph.length/\H[d.1]? =some (.lst (d.2.rs.map Row.w))/\B[j]? =some d.2)
  (fun j w H H' q keep=>by
   obtain⟨d,q1,q2,q3,q4⟩:=q;exact⟨d,q1,q2,keep d.1 _ q2 q3,q4⟩)
  (fun σ=>∃a b,σ=[a,b]) ⟨none,none,rfl⟩
  (fun j p hj σ H hS y cE=>by
   obtain⟨a,b,rfl⟩:=hS;have hz:=List.getElem?_zip_eq_some.mp hj;exact⟨_,rfl,⟨_,_,rfl⟩,_,_,aw (aC (aw (aC rfl rfl) (D1 (y.get (h.xl j p.1 p.2 hz.1 hz.2)))) (aC rfl rfl)) rfl,Ex.one _ _,(H.length,p.2),rfl,by show H.length≠ph.length;omega,bu _ _,hz.2⟩)
 obtain⟨D,hD,hQ⟩:=yR (f:=fun d:Nat×bt=>W.tup [.ref d.1,d.2.en.w]) (Q:=fun j (d:Nat×bt)=>ph'[d.1]? =some (.lst (d.2.rs.map Row.w))/\B[j]? =some d.2) fun j w hw=>by
  obtain⟨d,q1,_,q3,q4⟩:=hP j w hw;exact⟨d,q1,q3,q4⟩
 have xp:D.length=B.length:=by
  rw[hD,abX,agq,h.len,Nat.min_self] at jX;exact jX
 have hB:B=D.map Prod.snd:=by
  apply aew
  intro j;rw[abY];by_cases hj:j<D.length
  ·obtain⟨d,hd⟩:∃d,D[j]? =some d:=bW hj;rw[hd,(hQ j d hd).2];rfl
  ·rw[acZ (by omega),acZ (by omega)];rfl
 refine⟨ph',e,x,D.map Prod.fst,?_,by rw[abX,xp],fun k r b hr hb=>?_⟩
 ·rw[g,hD]
  congr 2
  unfold bw;rw[hB,agr,agd,List.zipWith_self]
 ·rw[abY] at hr;obtain⟨d,hd,rfl⟩:=ace.mp hr;have:=(hQ k d hd).2;rw[hb] at this;cases this;exact(hQ k d hd).1
def tu(b:bt):Prop:=b.rs=[]/\∃j,b.en=.go j
theorem ED{B:List bt}(hF:xk B):∀{f k:Nat} {b:bt},k<B.length->B.length<=k+f->B[cf B f k]? =some b->¬tu b
 | 0,k,b,hk,hf,_=>by omega
 | f+1,k,b,hk,hf,hb=>by
  obtain⟨c,hc⟩:∃c,B[k]? =some c:=bW hk;obtain⟨rs,en⟩:=c;cases rs with
  | cons r rs=>
   unfold cf at hb;rw[hc] at hb;simp only at hb;rw[hc] at hb;cases hb;exact fun z=>absurd z.1 (by simp)
  | nil=>
   cases en with
   | go j=>
    unfold cf at hb;rw[hc] at hb;simp only at hb;obtain⟨h1,h2⟩:=hF k _ hc j (by simp[En.to])
    rcases h2 with z | ⟨c2,z1,rs2,z2⟩ | ⟨rs2,z⟩
    ·exact ED hF h1 (by omega) hb
    ·have:cf B f j=j:=by
      cases f with
      | zero=>rfl
      | succ f=>
       unfold cf;obtain⟨r2,e2⟩:=c2;cases z2;rw[z1]
     rw[this,z1] at hb;cases hb;exact fun z=>by have:=z.1;rw[z2] at this;cases this
    ·exact absurd z (by simp)
   | iff v a d=>
    unfold cf at hb;rw[hc] at hb;simp only at hb;rw[hc] at hb;cases hb;exact fun z=>by obtain⟨_,j,z⟩:=z;cases z
   | fin=>
    unfold cf at hb;rw[hc] at hb;simp only at hb;rw[hc] at hb;cases hb;exact fun z=>by obtain⟨_,j,z⟩:=z;cases z
theorem Ht{e:En}{t:Nat}(ht:t∈(e.mp h).to):∃x∈e.to,t=h x:=by
 cases e with
 | go j=>exact⟨j,by simp[En.to],by simpa[En.mp,En.to] using ht⟩
 | iff v a b=>
  have:t=h a\/t=h b:=by simpa[En.mp,En.to] using ht
  rcases this with z | z
  ·exact⟨a,by simp[En.to],z⟩
  ·exact⟨b,by simp[En.to],z⟩
 | fin=>simp[En.mp,En.to] at ht
theorem Us{b:bt}(h:B[k]? =some b):rowsOf B (k::l)=b.rs++rowsOf B l:=by
 unfold rowsOf;rw[aeY,h]
theorem W7{J:List (List Nat)}(hF:xk B)(T:sA B NB J h):∀(j:Nat) b,NB[j]? =some b->∀t∈b.en.to,t<NB.length/\∀c,NB[t]? =some c->¬tu c:=fun j b hb t ht=>by
 have hj:j<J.length:=by rw[<- T.len];exact(abV.mp hb).1
 obtain⟨l,hl⟩:∃l,J[j]? =some l:=bW hj;obtain⟨k,l',z,e,rfl,hw,cE,hz,he,hn,sZ⟩:=T.blk j l hl;rw[hb] at hn;cases hn;obtain⟨x,hx,rfl⟩:=Ht ht;obtain⟨l2,gz⟩:=sZ x hx;refine⟨by rw[T.len];exact(abV.mp gz).1,fun c hc hE=>?_⟩;obtain⟨k2,l3,z2,e2,q1,q2,q3,q4,q5,q6,q7⟩:=T.blk (h x) _ gz;cases q1;rw[hc] at q6;cases q6;have hxB:=q3 x (by simp);obtain⟨bx,xq⟩:∃bx,B[x]? =some bx:=bW hxB;have sG:¬tu bx:=by
  unfold fh at he;rw[abY] at he;obtain⟨bz,hbz,rfl⟩:=ace.mp he;obtain⟨y,hy,rfl⟩:=Ht hx;have hyB:=(hF z bz hbz y hy).1;exact ED hF hyB (by omega) xq
 obtain⟨h1,jj,h2⟩:=hE;have h1:rowsOf B (x::l2)=[]:=h1;rw[Us xq] at h1;have h3:=(List.append_eq_nil_iff.mp h1).1;have jp:∀jx,bx.en≠.go jx:=fun jx z=>sG ⟨h3,jx,z⟩
 cases l2 with
 | nil=>
  have:x=z2:=by simpa using q4
  subst this;rw[rC xq] at q5;cases q5;cases oE:bx.en with
  | go jx=>exact jp jx oE
  | iff v a d=>rw[oE] at h2;cases h2
  | fin=>rw[oE] at h2;cases h2
 | cons y l4=>
  have:=q2.1;rw[rC xq] at this;cases oE:bx.en with
  | go jx=>exact jp jx oE
  | iff v a d=>rw[oE] at this;cases this
  | fin=>rw[oE] at this;cases this
inductive LR where
 | r (x:Row)
 | iff (v:Int) (k:Nat)
 | go (k:Nat)
 | fin
def LR.mp(h:Nat->Nat):LR->LR
 | .r x=>.r x
 | .iff v k=>.iff v (h k)
 | .go k=>.go (h k)
 | .fin=>.fin
def c3(I:List Int)(R:List LR):Nat->Nat->S->Rs
 | 0,_,s=>s.by "long"
 | f+1,p,s=>match R[p]? with
  | none=>s.by "long"
  | some (.r x)=>match cM I s x with
   | .inl r=>r
   | .inr s=>c3 I R f (p+1) s
  | some (.iff v k)=>c3 I R f (if gt s.bx v=0 then p+1 else k) s
  | some (.go k)=>c3 I R f k s
  | some .fin=>s.by "done"
theorem Hu{I:List Int}{R:List LR}:∀{rs:List Row} {p g:Nat} {s:S},(∀(j:Nat) x,rs[j]? =some x->R[p+j]? =some (.r x))->c3 I R (rs.length+g) p s=match cR I rs s with
  | .inl r=>r
  | .inr s=>c3 I R g (p+rs.length) s
 | [],p,g,s,_=>by
  rw[aen,acX];rfl
 | x::rs,p,g,s,h=>by
  have h0:=h 0 x rfl;rw[Nat.add_zero] at h0;rw[adj,Nat.add_right_comm]
  conv=>lhs;unfold c3
  rw[h0]
  conv=>rhs;unfold cR
  simp only;cases cM I s x with
  | inl r=>rfl
  | inr s'=>
   simp only;rw[Hu (rs:=rs) (p:=p+1) fun j y hy=>by
    have:=h (j+1) y (by simpa using hy);rw[show p+1+j=p+(j+1) by omega];exact this]
   rw[show p+1+rs.length=p+(rs.length+1) by omega]
structure Laid(NB:List bt)(R:List LR)(pl:Nat->Nat):Prop where
 row:∀(k:Nat) b,NB[k]? =some b->∀(j:Nat) x,b.rs[j]? =some x->R[pl k+j]? =some (.r x)
 fin:∀(k:Nat) b,NB[k]? =some b->b.en=.fin->R[pl k+b.rs.length]? =some .fin
 go:∀(k:Nat) b t,NB[k]? =some b->b.en=.go t->R[pl k+b.rs.length]? =some (.go (pl t))\/pl k+b.rs.length=pl t
 iff:∀(k:Nat) b v a c,NB[k]? =some b->b.en=.iff v a c->R[pl k+b.rs.length]? =some (.iff v (pl a))/\(R[pl k+b.rs.length+1]? =some (.go (pl c))\/pl k+b.rs.length+1=pl c)
theorem vF{I:List Int}{NB:List bt}{R:List LR}{pl:Nat->Nat}{M:Nat}(L:Laid NB R pl)(hM:∀b∈NB,b.rs.length<=M):∀{f k:Nat} {s:S} {r:Rs},run I NB f k s=r->iD r->∀g,f*(M+3)<=g->c3 I R g (pl k) s=r
 | 0,k,s,r,h,hr,g,_=>absurd (by rw[<- h];rfl) hr
 | f+1,k,s,r,h,hr,g,hg=>by
  rw[aff] at hg;unfold run at h;cases hb:NB[k]? with
  | none=>simp only[hb] at h;exact absurd (by rw[<- h];rfl) hr
  | some b=>
   have hm:=hM b (acd hb);obtain⟨g',rfl⟩:∃g',g=b.rs.length+(g'+2):=⟨g-b.rs.length-2,by omega⟩
   rw[Hu (L.row k b hb)];simp only[hb] at h;cases hq:cR I b.rs s with
   | inl x=>simp only[hq] at h ⊢;exact h
   | inr s'=>
    simp only[hq] at h ⊢;have step:∀{t p m:Nat},run I NB f t s'=r->(R[p]? =some (.go (pl t))\/p=pl t)->g'+1<=m+1->c3 I R (m+1) p s'=r:=fun{t p m} h1 h2 h3=>by
     rcases h2 with z | z
     ·unfold c3;rw[z];simp only;exact vF L hM h1 hr m (by omega)
     ·rw[z];exact vF L hM h1 hr (m+1) (by omega)
    cases he:b.en with
    | fin=>
     simp only[he,eA] at h;unfold c3;rw[L.fin k b hb he];simp only;exact h
    | go t=>
     simp only[he,eA] at h;exact step h (L.go k b t hb he) (by omega)
    | iff v a c=>
     simp only[he,eA] at h;obtain⟨q1,q2⟩:=L.iff k b v a c hb he;unfold c3;rw[q1];simp only;by_cases hz:gt s'.bx v=0
     ·rw[if_pos hz] at h ⊢;exact step h q2 (by omega)
     ·rw[if_neg hz] at h ⊢;exact vF L hM h hr (g'+1) (by omega)
abbrev fb:=List (Nat×Nat)
def En.sb:En->Option Nat
 | .go k=>some k
 | .iff _ _ b=>some b
 | .fin=>none
def cF(l:fb):List Nat:=l.map (·.1)
def tl(e:En)(ks:List Nat):List LR:=match e with
 | .fin=>[.fin]
 | .go t=>if t∈ks then[.go t] else[]
 | .iff v a c=>.iff v a::(if c∈ks then[.go c] else[])
structure Ly(NB:List bt)(l:fb)(Q:List LR)(x:Option Nat):Prop where
 nd:(cF l).Nodup
 off:∀p∈l,p.1<NB.length/\p.2<=Q.length
 row:∀(k o:Nat) (b:bt),(k,o)∈l->NB[k]? =some b->∀(j:Nat) y,b.rs[j]? =some y->Q[o+j]? =some (.r y)
 fin:∀(k o:Nat) (b:bt),(k,o)∈l->NB[k]? =some b->b.en=.fin->Q[o+b.rs.length]? =some .fin
 go:∀(k o:Nat) (b:bt) (t:Nat),(k,o)∈l->NB[k]? =some b->b.en=.go t->Q[o+b.rs.length]? =some (.go t)\/(t,o+b.rs.length)∈l\/(x=some t/\o+b.rs.length=Q.length)
 iff:∀(k o:Nat) (b:bt) (v:Int) (a c:Nat),(k,o)∈l->NB[k]? =some b->b.en=.iff v a c->Q[o+b.rs.length]? =some (.iff v a)/\(Q[o+b.rs.length+1]? =some (.go c)\/(c,o+b.rs.length+1)∈l\/(x=some c/\o+b.rs.length+1=Q.length))
 J4:∀(p:Nat) t,Q[p]? =some (.go t)->∃o,(t,o)∈l/\o<=p
 xr:∀(p:Nat) y,Q[p]? =some y->match y with | .go t=>∃(k:Nat) (b:bt),NB[k]? =some b/\t∈b.en.to | .iff _ t=>∃(k:Nat) (b:bt),NB[k]? =some b/\t∈b.en.to | _=>True
 nx:∀k,x=some k->k<NB.length/\k∉cF l
 last:x=none->∃y,Q.getLast? =some y/\(y=.fin\/∃k,y=.go k)
theorem Ly.start(h:0<NB.length):Ly NB [] [] (some 0):=
 ⟨by simp[cF],fun p hp=>(nomatch hp),fun k o b hp=>(nomatch hp),fun k o b hp=>(nomatch hp),fun k o b t hp=>(nomatch hp),fun k o b v a c hp=>(nomatch hp),fun p t hp=>by simp at hp,fun p y hp=>by simp at hp,fun k hk=>by cases hk;exact⟨h,by simp[cF]⟩,fun h=>(nomatch h)⟩
def kP(n:Nat)(e:En)(ks:List Nat):Option Nat:=match e.sb with
 | some t=>if t∈ks then(acC n).find? (fun k=> !decide (k∈ks)) else some t
 | none=>(acC n).find? (fun k=> !decide (k∈ks))
theorem Ab{l m:List α}{y:α}(h:l[i]? =some y):(l++m)[i]? =some y:=by
 rw[acE (abV.mp h).1];exact h
theorem rT{l m:List α}{y:α}(h:m[i]? =some y):(l++m)[l.length+i]? =some y:=by
 rw[adR (by omega),Nat.add_sub_cancel_left];exact h
theorem vj{l m:List α}{y:α}(h:(l++m)[i]? =some y):l[i]? =some y\/∃j,i=l.length+j/\m[j]? =some y:=by
 by_cases hi:i<l.length
 ·rw[acE hi] at h;exact .inl h
 ·rw[adR (by omega)] at h;exact .inr ⟨i-l.length,by omega,h⟩
variable{Q:List LR}
theorem Ly.step{l:fb}{b0:bt}(L:Ly NB l Q (some k0))(hb:NB[k0]? =some b0)(cE:∀t∈b0.en.to,t<NB.length):Ly NB (l++[(k0,Q.length)]) (Q++b0.rs.map LR.r++tl b0.en (cF (l++[(k0,Q.length)]))) (kP NB.length b0.en (cF (l++[(k0,Q.length)]))):=by
 obtain⟨oz,oC⟩:=L.nx k0 rfl;obtain⟨hV,BY⟩:∃hV,hV=cF (l++[(k0,Q.length)]):=⟨_,rfl⟩
 obtain⟨Q1,qF⟩:∃Q1,Q1=Q++b0.rs.map LR.r:=⟨_,rfl⟩
 obtain⟨T,hT⟩:∃T,T=tl b0.en hV:=⟨_,rfl⟩
 have lV:Q1.length=Q.length+b0.rs.length:=by rw[qF];simp
 rw[<- BY,<- qF,<- hT];have old:∀{i:Nat} {y:LR},Q[i]? =some y->(Q1++T)[i]? =some y:=fun h=>Ab (by rw[qF];exact Ab h)
 have inl:∀{p:Nat×Nat},p∈l->p∈l++[(k0,Q.length)]:=fun h=>adw _ h
 have J5:(k0,Q.length)∈l++[(k0,Q.length)]:=acR _ (by simp);have qf:∀{k o:Nat},(k,o)∈l++[(k0,Q.length)]->(k,o)∈l\/(k=k0/\o=Q.length):=fun{k o} h=>by
  rcases adb.mp h with z | z
  ·exact .inl z
  ·have:=acG.mp z;cases this;exact .inr ⟨rfl,rfl⟩
 have ksm:∀{t:Nat},t∈hV->∃o,(t,o)∈l++[(k0,Q.length)]:=fun{t} h=>by
  rw[BY] at h;obtain⟨p,hp,rfl⟩:=acq.mp h;exact⟨p.2,hp⟩
 have Az:∀p∈l++[(k0,Q.length)],p.1<NB.length/\p.2<=Q.length:=fun p hp=>by
  rcases adb.mp hp with z | z
  ·exact L.off p z
  ·rw[acG.mp z];exact⟨oz,abZ _⟩
 have J6:∀{j t:Nat},T[j]? =some (.go t)->t∈hV/\t∈b0.en.to:=fun{j t} h=>by
  rw[hT] at h;have h:=acd h;unfold tl at h;cases he:b0.en with
  | fin=>rw[he] at h;simp at h
  | go u=>
   rw[he] at h;simp only at h;by_cases hu:u∈hV
   ·rw[if_pos hu] at h;have:t=u:=by simpa using h
    subst this;exact⟨hu,by simp[En.to]⟩
   ·rw[if_neg hu] at h;cases h
  | iff v a c=>
   rw[he] at h;simp only at h;by_cases hc:c∈hV
   ·rw[if_pos hc] at h;have:t=c:=by simpa using h
    subst this;exact⟨hc,by simp[En.to]⟩
   ·rw[if_neg hc] at h;simp at h
 have tif:∀{j t:Nat} {v:Int},T[j]? =some (.iff v t)->t∈b0.en.to:=fun{j t v} h=>by
  rw[hT] at h;have h:=acd h;unfold tl at h;cases he:b0.en with
  | fin=>rw[he] at h;simp at h
  | go u=>rw[he] at h;simp only at h;split at h <;> simp at h
  | iff v2 a c=>
   rw[he] at h;simp only at h;have:t=a:=by
    rcases acD.mp h with z | z
    ·cases z;rfl
    ·split at z <;> simp at z
   rw[this];simp[En.to]
 have J7:∀{j:Nat} {y:LR},(b0.rs.map LR.r)[j]? =some y->∃r,y=.r r:=fun{j y} h=>by
  rw[abY] at h;obtain⟨r,_,rfl⟩:=ace.mp h;exact⟨r,rfl⟩
 refine⟨?_,fun p hp=>⟨(Az p hp).1,?_⟩,fun k o b hp dO j y hy=>?_,fun k o b hp dO he=>?_,fun k o b t hp dO he=>?_,fun k o b v a c hp dO he=>?_,fun p t hq=>?_,fun p y hq=>?_,fun k hk=>?_,fun hx=>?_⟩
 ·unfold cF;rw[adF,aeX];refine⟨L.nd,by simp,fun a ha d hd z=>?_⟩;have:d=k0:=by simpa using hd
  rw[z,this] at ha;exact oC ha
 ·have:=(Az p hp).2;rw[acg,lV];omega
 ·rcases qf hp with z | ⟨rfl,rfl⟩
  ·exact old (L.row k o b z dO j y hy)
  ·rw[hb] at dO;cases dO;refine Ab ?_;rw[qF];exact rT (by rw[abY,hy];rfl)
 ·rcases qf hp with z | ⟨rfl,rfl⟩
  ·exact old (L.fin k o b z dO he)
  ·rw[hb] at dO;cases dO;rw[<- lV,hT,he];exact rT (i:=0) rfl
 ·rcases qf hp with z | ⟨rfl,rfl⟩
  ·rcases L.go k o b t z dO he with q | q | ⟨q,q2⟩
   ·exact .inl (old q)
   ·exact .inr (.inl (inl q))
   ·cases q;rw[q2];exact .inr (.inl J5)
  ·rw[hb] at dO;cases dO;rw[<- lV,hT,he];unfold tl kP En.sb;simp only;by_cases ht:t∈hV
   ·rw[if_pos ht];exact .inl (rT (i:=0) rfl)
   ·rw[if_neg ht,if_neg ht];exact .inr (.inr ⟨rfl,by simp⟩)
 ·rcases qf hp with z | ⟨rfl,rfl⟩
  ·obtain⟨q0,q⟩:=L.iff k o b v a c z dO he;refine⟨old q0,?_⟩
   rcases q with q | q | ⟨q,q2⟩
   ·exact .inl (old q)
   ·exact .inr (.inl (inl q))
   ·cases q;rw[q2];exact .inr (.inl J5)
  ·rw[hb] at dO;cases dO;rw[<- lV,hT,he];unfold tl kP En.sb;simp only;refine⟨rT (i:=0) rfl,?_⟩;by_cases ht:c∈hV
   ·rw[if_pos ht];exact .inl (rT (i:=1) rfl)
   ·rw[if_neg ht,if_neg ht];exact .inr (.inr ⟨rfl,by simp⟩)
 ·rcases vj hq with q | ⟨j,e,q⟩
  ·rw[qF] at q
   rcases vj q with q | ⟨j,e,q⟩
   ·obtain⟨o,h1,h2⟩:=L.J4 p t q;exact⟨o,inl h1,h2⟩
   ·obtain⟨r,z⟩:=J7 q;cases z
  ·obtain⟨o,ho⟩:=ksm (J6 q).1;have:=(Az _ ho).2;exact⟨o,ho,by simp only at this;omega⟩
 ·rcases vj hq with q | ⟨j,e,q⟩
  ·rw[qF] at q
   rcases vj q with q | ⟨j,e,q⟩
   ·exact L.xr p y q
   ·obtain⟨r,rfl⟩:=J7 q
    trivial
  ·cases y with
   | go t=>exact⟨k0,b0,hb,(J6 q).2⟩
   | iff v t=>exact⟨k0,b0,hb,tif q⟩
   | _=>trivial
 ·have BZ:(acC NB.length).find? (fun k=> !decide (k∈hV))=some k->k<NB.length/\k∉hV:=fun h=>by
   have h1:=List.find?_some h;have h2:=aeE h;exact⟨ade.mp h2,by simpa using h1⟩
  rw[BY] at hk BZ;unfold kP at hk;cases hs:b0.en.sb with
  | none=>rw[hs] at hk;exact BZ hk
  | some t=>
   rw[hs] at hk;simp only at hk;by_cases ht:t∈cF (l++[(k0,Q.length)])
   ·rw[if_pos ht] at hk;exact BZ hk
   ·rw[if_neg ht] at hk;cases hk;refine⟨cE k ?_,ht⟩;cases he:b0.en with
    | fin=>rw[he] at hs;cases hs
    | go u=>rw[he] at hs;cases hs;simp[En.to]
    | iff v a c=>rw[he] at hs;cases hs;simp[En.to]
 ·have fO:∀{m:List LR} {y:LR},m.getLast? =some y->(Q1++m).getLast? =some y:=fun{m y} h=>by
   rw[List.getLast?_append,h];rfl
  rw[hT];unfold kP at hx;cases he:b0.en with
  | fin=>exact⟨.fin,fO rfl,.inl rfl⟩
  | go t=>
   rw[he] at hx;simp only[En.sb] at hx;by_cases ht:t∈hV
   ·exact⟨.go t,fO (by unfold tl;simp only;rw[if_pos ht];rfl),.inr ⟨t,rfl⟩⟩
   ·rw[if_neg ht] at hx;cases hx
  | iff v a c=>
   rw[he] at hx;simp only[En.sb] at hx;by_cases ht:c∈hV
   ·exact⟨.go c,fO (by unfold tl;simp only;rw[if_pos ht];rfl),.inr ⟨c,rfl⟩⟩
   ·rw[if_neg ht] at hx;cases hx
def eM(l:fb)(k:Nat):Nat:=((l.find? fun p=>decide (p.1=k)).map (·.2)).getD 0
theorem nz{l:fb}(hn:(cF l).Nodup)(h:(k,o)∈l):eM l k=o:=by
 unfold eM
 induction l with
 | nil=>cases h
 | cons p l ih=>
  unfold cF at hn;rw[acK,ael] at hn;rw[adv]
  rcases acD.mp h with rfl | h
  ·simp
  ·have:¬p.1=k:=fun z=>hn.1 (z▸adQ (f:=(·.1)) h)
   simp only[this,decide_false];exact ih hn.2 h
theorem Ly.laid{l:fb}(L:Ly NB l Q none)(jf:∀k,k<NB.length->k∈cF l):Laid NB (Q.map (LR.mp (eM l))) (eM l):=by
 have at_:∀{k:Nat} {b:bt},NB[k]? =some b->(k,eM l k)∈l:=fun{k b} h=>by
  obtain⟨p,hp,e⟩:=acq.mp (jf k (abV.mp h).1);subst e;have:eM l p.1=p.2:=nz L.nd hp;rw[this];exact hp
 have mp:∀{i:Nat} {y:LR},Q[i]? =some y->(Q.map (LR.mp (eM l)))[i]? =some (y.mp (eM l)):=fun h=>by rw[abY,h];rfl
 refine⟨fun k b hb j x hx=>mp (L.row k _ b (at_ hb) hb j x hx),fun k b hb he=>mp (L.fin k _ b (at_ hb) hb he),fun k b t hb he=>?_,fun k b v a c hb he=>?_⟩
 ·rcases L.go k _ b t (at_ hb) hb he with q | q | ⟨q,_⟩
  ·exact .inl (mp q)
  ·exact .inr (nz L.nd q).symm
  ·cases q
 ·obtain⟨q0,q⟩:=L.iff k _ b v a c (at_ hb) hb he;refine⟨mp q0,?_⟩
  rcases q with q | q | ⟨q,_⟩
  ·exact .inl (mp q)
  ·exact .inr (nz L.nd q).symm
  ·cases q
structure xt(R:List LR):Prop where
 last:∃y,R.getLast? =some y/\(y=.fin\/∃k,y=.go k)
 go:∀(p:Nat) k,R[p]? =some (.go k)->k≠p+1/\∃y,R[k]? =some y/\∀j,y≠.go j
 iff:∀(p:Nat) v k,R[p]? =some (.iff v k)->∃y,R[k]? =some y/\∀j,y≠.go j
theorem Ly.jmp{l:fb}(L:Ly NB l Q none)(jf:∀k,k<NB.length->k∈cF l)(aaB:∀(j:Nat) b,NB[j]? =some b->∀t∈b.en.to,t<NB.length/\∀c,NB[t]? =some c->¬tu c):xt (Q.map (LR.mp (eM l))):=by
 have LL:=L.laid jf;have J8:∀{k:Nat} {b:bt} {t:Nat},NB[k]? =some b->t∈b.en.to->∃y,(Q.map (LR.mp (eM l)))[eM l t]? =some y/\∀j,y≠.go j:=fun{k b t} hb ht=>by
  obtain⟨h1,h2⟩:=aaB k b hb t ht;obtain⟨c,hc⟩:∃c,NB[t]? =some c:=bW h1;have hE:=h2 c hc;cases hr:c.rs with
  | cons r rs=>
   have:=LL.row t c hc 0 r (by rw[hr];rfl);exact⟨_,this,fun j z=>nomatch z⟩
  | nil=>
   cases he:c.en with
   | go j=>exact absurd ⟨hr,j,he⟩ hE
   | fin=>
    have:=LL.fin t c hc he;rw[hr] at this;exact⟨_,this,fun j z=>nomatch z⟩
   | iff v a d=>
    have:=(LL.iff t c v a d hc he).1;rw[hr] at this;exact⟨_,this,fun j z=>nomatch z⟩
 have un:∀{p:Nat} {y:LR},(Q.map (LR.mp (eM l)))[p]? =some y->∃y0,Q[p]? =some y0/\y0.mp (eM l)=y:=fun h=>by
  rw[abY] at h;exact ace.mp h
 refine⟨?_,fun p k h=>?_,fun p v k h=>?_⟩
 ·obtain⟨y,h1,h2⟩:=L.last rfl;refine⟨y.mp (eM l),by rw[List.getLast?_map,h1];rfl,?_⟩
  rcases h2 with rfl | ⟨k,rfl⟩
  ·exact .inl rfl
  ·exact .inr ⟨_,rfl⟩
 ·obtain⟨y0,h1,h2⟩:=un h;cases y0 with
  | go t=>
   cases h2;obtain⟨o,h3,h4⟩:=L.J4 p t h1;obtain⟨kk,b,h5,h6⟩:=L.xr p _ h1;rw[nz L.nd h3];have:=J8 h5 h6;rw[nz L.nd h3] at this;exact⟨by omega,this⟩
  | _=>cases h2
 ·obtain⟨y0,h1,h2⟩:=un h;cases y0 with
  | iff v2 t=>
   cases h2;obtain⟨kk,b,h5,h6⟩:=L.xr p _ h1;exact J8 h5 h6
  | _=>cases h2
def LR.w:LR->W
 | .r x=>x.w
 | .iff v k=>.tup [.str "if",.int v,.int k]
 | .go k=>.tup [.str "go",.int k]
 | .fin=>.tup [.str "end"]
theorem Dy(e:En)(ph:PH):mh [e.w] ph=.ok (pw e.sb) ph:=by
 unfold mh ka;rw[jl];cases e with
 | go k=>exact dN (bK (wq "go" rfl rfl) (retS rfl))
 | iff v a b=>exact bq (az (wq "if" rfl rfl) rfl) (dN (bK (wq "if" rfl rfl) (retS rfl)))
 | fin=>exact bq (az (wq "end" rfl rfl) rfl) (bq (az (wq "end" rfl rfl) rfl) rfl)
def pd(l:fb):List (W×W):=l.map fun p=>(W.int p.1,W.int p.2)
theorem W8(l:fb):(pd l).map (·.1)=iw (cF l):=by
 unfold pd cF iw;rw[adi,adi];rfl
theorem we(l:fb)(k:Int):cZ (pd l) (.int k)=true:=by
 unfold cZ;rw[adE]
 left
 rw[aco,adk];refine⟨rfl,fun q hq=>?_⟩;obtain⟨p,_,rfl⟩:=acq.mp hq;rfl
theorem Hv(l:fb)(k:Nat):(dh (pd l) (.int k)).isSome=decide (k∈cF l):=by
 unfold dh;rw[aec,aft,afK,decide_eq_true_eq];constructor
 ·rintro⟨p,hp,e⟩;obtain⟨q,hq,rfl⟩:=acq.mp hp;have e:=W.int.inj (of_decide_eq_true e);have:q.1=k:=by omega
  exact acq.mpr ⟨q,hq,this⟩
 ·intro h;obtain⟨q,hq,rfl⟩:=acq.mp h;exact⟨_,adQ hq,decide_eq_true rfl⟩
theorem Zn{l:fb}(o:Nat)(h:k∉cF l):dH (pd l) (.int k) (.int o)=pd (l++[(k,o)]):=by
 unfold dH;have:((pd l).any fun q=>decide (q.1=W.int k))=false:=by
  rw[afL];intro q hq;obtain⟨r,hr,rfl⟩:=acq.mp hq;rw[decide_eq_true_eq];intro z;have:=W.int.inj z;exact h (acq.mpr ⟨r,hr,by omega⟩)
 rw[this];unfold pd;simp
theorem aaC{l:fb}(h:H[d]? =some (.aD (pd l)))(hn:(cF l).Nodup)(hm:(k,o)∈l):lift (ag (.ref d) (.int k)) H=.ok (.int o) H:=
 Fg h (we l _) (Fy (by rw[W8];exact Aa hn) (acq.mpr ⟨_,hm,rfl⟩))
theorem AA{l:fb}(h:H[d]? =some (.aD (pd l)))(ha:a σ ph=.ok (.int k) H)(hb:b σ H=.ok (.ref d) H):eT (ab cV a b) σ ph=.ok (decide (k∈cF l)) H:=by
 refine tB (op ha hb ?_);rw[Fh h (we l _),Hv]
theorem Zo{l:fb}(e:En)(h:H[d]? =some (.aD (pd l))):∃H',uo [e.w,.ref d] H=.ok (.ref H.length) H'/\Ex H H'/\H'[H.length]? =some (.lst ((tl e (cF l)).map LR.w)):=by
 obtain⟨H1,e1⟩:∃H1,H1=H++[PO.lst []]:=⟨_,rfl⟩
 have x1:Ex H H1:=e1▸Ex.one _ _;have g1:H1[H.length]? =some (.lst []):=by rw[e1];exact bu _ _
 have hd:=je h;have s1:aE (bI ah) (gN 2) [some e.w,some (.ref d),none] H=.ok (.nx [some e.w,some (.ref d),some (.ref H.length)]) H1:=by rw[e1];rfl
 have ap:∀{K:PH} {ws:List W} {w:W} {a:EM},K[H.length]? =some (.lst ws)->ws.length<10->a [some e.w,some (.ref d),some (.ref H.length)] K=.ok w K->da (bR b9 dt (aa 2) (ae a ah)) [some e.w,some (.ref d),some (.ref H.length)] K=.ok (.nx [some e.w,some (.ref d),some (.ref H.length)]) (K.set H.length (.lst (ws++[w]))):=fun hK hz ha=>sU rfl ⟨_,hK⟩ ha hK (by omega)
 have qG:∀{K:PH},aX mh (ae (aa 0) ah) [some e.w,some (.ref d),some (.ref H.length)] K=.ok (pw e.sb) K:=fun{K}=>aw (aC rfl rfl) (Dy e K)
 unfold uo mw;rw[lH];cases he:e with
 | fin=>
  rw[he] at s1 ap;exact⟨_,bq s1 (bq (az (wq "end" rfl rfl) rfl) (bq (bK (wq "end" rfl rfl) (ap g1 (by simp) rfl)) rfl)),Ex.set x1 (abZ _) _,dQ g1⟩
 | go t=>
  rw[he] at s1 ap qG;have tt:=AA (k:=t) (b:=aa 1) (σ:=[some (En.go t).w,some (.ref d),some (.ref H.length)]) (x1.get h) qG rfl;unfold tl;simp only;by_cases ht:t∈cF l
  ·rw[if_pos ht];rw[decide_eq_true ht] at tt;exact⟨_,bq s1 (bq (az (wq "go" rfl rfl) rfl) (bq (az (wq "go" rfl rfl) (bK tt (ap g1 (by simp) (aw (aC rfl (aC qG rfl)) rfl)))) rfl)),Ex.set x1 (abZ _) _,dQ g1⟩
  ·rw[if_neg ht];rw[decide_eq_false ht] at tt;exact⟨_,bq s1 (bq (az (wq "go" rfl rfl) rfl) (bq (az (wq "go" rfl rfl) (az tt rfl)) rfl)),x1,g1⟩
 | iff v a c=>
  rw[he] at s1 ap qG;obtain⟨H2,e2⟩:∃H2,H2=H1.set H.length (.lst [(LR.iff v a).w]):=⟨_,rfl⟩
  have x2:Ex H H2:=by rw[e2];exact Ex.set x1 (abZ _) _
  have g2:H2[H.length]? =some (.lst [(LR.iff v a).w]):=by rw[e2];exact dQ g1
  have a2:=ap (a:=bB (ae (eC (.str "if")) (ae (ab ag (aa 0) (eC (.int (1)))) (ae (ab ag (aa 0) (eC (.int (2)))) ah)))) (w:=(LR.iff v a).w) g1 (by simp) rfl;rw[aeR,<- e2] at a2;have tt:=AA (k:=c) (b:=aa 1) (σ:=[some (En.iff v a c).w,some (.ref d),some (.ref H.length)]) (x2.get h) qG rfl;unfold tl;simp only;by_cases ht:c∈cF l
  ·rw[if_pos ht];rw[decide_eq_true ht] at tt;exact⟨_,bq s1 (bq (bK (wq "if" rfl rfl) a2) (bq (az (wq "if" rfl rfl) (bK tt (ap g2 (by simp) (aw (aC rfl (aC qG rfl)) rfl)))) rfl)),Ex.set x2 (abZ _) _,dQ g2⟩
  ·rw[if_neg ht];rw[decide_eq_false ht] at tt;exact⟨_,bq s1 (bq (bK (wq "if" rfl rfl) a2) (bq (az (wq "if" rfl rfl) (az tt rfl)) rfl)),x2,g2⟩
theorem W9{p:Nat->Bool}(hj:j<n)(h1:p j=true)(h2:∀k,k<j->p k=false):(acC n).find? p=some j:=by
 rw[List.find?_eq_some_iff_getElem];exact⟨h1,j,by rw[acI];exact hj,aei _,fun i hi=>by rw[aei];simp[h2 i hi]⟩
theorem Xa{p:Nat->Bool}(h:∀k,k<n->p k=false):(acC n).find? p=none:=by
 rw[List.find?_eq_none];intro k hk;rw[h k (ade.mp hk)];exact acF
theorem Xb{l:fb}(hA:d7 H bi NB)(hl:NB.length<=60)(h:H[d]? =some (.aD (pd l))):tX [.ref bi,.ref d] H=.ok (pw ((acC NB.length).find? fun k=> !decide (k∈cF l))) H:=by
 have iN:cD (ae (bv cc (ae (aa 0) ah)) ah) [some (.ref bi),some (.ref d),none] H=.ok (dB 0 NB.length,fun _=>true) H:=ie (j:=NB.length) (aC (aw (aC rfl rfl) hA.cc) rfl) (by omega) (by omega);unfold tX mj;rw[lH]
 rcases mW (chk:=fun _=>true) (g:=gN 2) (b:=B7)
  (fun w K=>w=pw ((acC NB.length).find? fun k=> !decide (k∈cF l))/\K=H)
  (fun j σ K=>∃o2,σ=[some (.ref bi),some (.ref d),o2]/\K=H/\∀k,k<j->k∈cF l)
  (dB 0 NB.length) 0 [some (.ref bi),some (.ref d),none] H (fun _ _ _ _=>rfl)
  (fun j y σ K hj zz=>by
   obtain⟨o2,rfl,rfl,hk⟩:=zz;rw[acX] at hk ⊢;obtain⟨l6,rfl⟩:=vA hj;rw[agu];have tt:eT (ab ez (aa 2) (aa 1)) [some (.ref bi),some (.ref d),some (.int j)] K=.ok (!decide (j∈cF l)) K:=by
    refine tB (op rfl rfl ?_);rw[yJ h (we l _),Hv]
   refine⟨_,_,rfl,?_⟩;by_cases xu:j∈cF l
   ·rw[decide_eq_true xu] at tt;refine⟨_,_,az tt rfl,.inl ⟨_,.inl rfl,_,rfl,rfl,fun k oD=>?_⟩⟩;by_cases JH:k=j
    ·rw[JH];exact xu
    ·exact hk k (by omega)
   ·rw[decide_eq_false xu] at tt;refine⟨_,_,bK tt (retS rfl),.inr ⟨_,rfl,?_,rfl⟩⟩;rw[W9 l6 (by rw[decide_eq_false xu];rfl) fun k oD=>by rw[decide_eq_true (hk k oD)];rfl];rfl)
  ⟨none,rfl,rfl,fun k hk=>absurd hk (agp _)⟩ with⟨ao,H',e,o2,rfl,rfl,hk⟩ | ⟨w,H',e,rfl,rfl⟩
 ·rw[kf,acX] at hk;refine bq (ff iN e) ?_;rw[Xa fun k oD=>by rw[decide_eq_true (hk k oD)];rfl];rfl
 ·exact dN (ff iN e)
theorem Xc{pl:Nat->Nat}(y:LR)(h:∀t,(y=.go t\/∃v,y=.iff v t)->lift (ag (.ref d) (.int t)) H=.ok (.int (pl t:Int)) H):uY [y.w,.ref d] H=.ok (y.mp pl).w H:=by
 unfold uY mP;rw[lH];cases y with
 | go t=>exact dN (bK (wq "go" rfl rfl) (retS (aw (aC rfl (aC (h t (.inl rfl)) rfl)) rfl)))
 | iff v t=>exact bq (az (wq "if" rfl rfl) rfl) (dN (bK (wq "if" rfl rfl) (retS (aw (aC rfl (aC rfl (aC (h t (.inr ⟨v,rfl⟩)) rfl))) rfl))))
 | fin=>exact bq (az (wq "end" rfl rfl) rfl) (bq (az (wq "end" rfl rfl) rfl) rfl)
 | r x=>
  cases x with
  | dY a w b c=>exact bq (az (wq "do" rfl rfl) rfl) (bq (az (wq "do" rfl rfl) rfl) rfl)
  | put a n=>exact bq (az (wq "put" rfl rfl) rfl) (bq (az (wq "put" rfl rfl) rfl) rfl)
  | move a b=>exact bq (az (wq "move" rfl rfl) rfl) (bq (az (wq "move" rfl rfl) rfl) rfl)
  | pull a b=>exact bq (az (wq "pull" rfl rfl) rfl) (bq (az (wq "pull" rfl rfl) rfl) rfl)
  | push a b=>exact bq (az (wq "push" rfl rfl) rfl) (bq (az (wq "push" rfl rfl) rfl) rfl)
  | take a=>exact bq (az (wq "take" rfl rfl) rfl) (bq (az (wq "take" rfl rfl) rfl) rfl)
  | tell a=>exact bq (az (wq "tell" rfl rfl) rfl) (bq (az (wq "tell" rfl rfl) rfl) rfl)
  | turn=>exact bq (az (wq "turn" rfl rfl) rfl) (bq (az (wq "turn" rfl rfl) rfl) rfl)
theorem Vr{e:En}{ks:List Nat}(h:kP n e ks=none):∀k,k<n->k∈ks:=fun k hk=>by
 have fn:(acC n).find? (fun k=> !decide (k∈ks))=none->k∈ks:=fun h=>by
  have:=List.find?_eq_none.mp h k (ade.mpr hk)
  simpa using this
 unfold kP at h;cases hs:e.sb with
 | none=>rw[hs] at h;exact fn h
 | some t=>
  rw[hs] at h;simp only at h;split at h
  ·exact fn h
  ·cases h
theorem Ir{o:Option Nat}(h:aa i σ=ax (pw o)):eT (ab lr (aa i) (eC .aI)) σ ph=.ok o.isSome ph:=by
 rw[fE,df,h];cases o <;> rfl
theorem Zp(e:En)(ks:List Nat):(tl e ks).length<=2:=by
 unfold tl;cases e with
 | fin=>simp
 | go t=>simp only;split <;> simp
 | iff v a c=>simp only;split <;> simp
theorem abw{e:En}{ks:List Nat}{x:Row}:LR.r x∉tl e ks:=fun h=>by
 unfold tl at h;cases e with
 | fin=>simp at h
 | go t=>simp only at h;split at h <;> simp at h
 | iff v a c=>
  simp only at h
  rcases acD.mp h with z | z
  ·cases z
  ·split at z <;> simp at z
structure LI(ph H:PH)(M:Nat)(NB:List bt)(l:fb)(Q:List LR)(x:Option Nat):Prop where
 ex:Ex ph H
 d:H[ph.length]? =some (.aD (pd l))
 q:H[ph.length+1]? =some (.lst (Q.map LR.w))
 ly:Ly NB l Q x
 all:x=none->∀k,k<NB.length->k∈cF l
 len:Q.length<=l.length*(M+2)
 ll:l.length<=NB.length
 z:(l=[]/\Q=[]/\x=some 0)\/(0,0)∈l
 ok:∀r,LR.r r∈Q->fj r
theorem Ut{l:fb}(hB:gF M NB)(hM:M<=100)(hA:d7 ph bi NB)(I:LI ph H M NB l Q (some k0)) :
  ∃H' l' Q' x' B0,vd [some (.ref bi),some (.ref ph.length),some (.ref (ph.length+1)),some (.int k0),o4] H=.ok (.nx [some (.ref bi),some (.ref ph.length),some (.ref (ph.length+1)),some (pw x'),B0]) H'/\LI ph H' M NB l' Q' x'/\l'.length=l.length+1:=by
 have ht:=hB.top;obtain⟨oz,oC⟩:=I.ly.nx k0 rfl;obtain⟨b,hb⟩:∃b,NB[k0]? =some b:=bW oz;obtain⟨ri,kO,gZ⟩:=hA.ix hb;obtain⟨BF,BH⟩:=hB.rows b (acd hb);have cE:=hB.lt k0 b hb;obtain⟨l',xv⟩:∃l',l'=l++[(k0,Q.length)]:=⟨_,rfl⟩
 have lU:l'.length=l.length+1:=by rw[xv];simp
 have S:=I.ly.step hb cE;rw[<- xv] at S;have l2:l'.length<=NB.length:=by
  have:=kb S.nd (n:=NB.length) fun x hx=>by
   obtain⟨p,hp,rfl⟩:=acq.mp hx;exact(S.off p hp).1
  unfold cF at this;rw[abX] at this;exact this
 have hQ:=I.len;have hq1:l.length*(M+2)<=60*102:=aeF (by omega) (by omega);have hld:=je I.d;have hlq:=je I.q;obtain⟨H1,e1⟩:∃H1,H1=H.set ph.length (.aD (pd l')):=⟨_,rfl⟩
 have a1:aE (bv cc (ae (aa 2) ah)) (eU (aa 1) (aa 3)) [some (.ref bi),some (.ref ph.length),some (.ref (ph.length+1)),some (.int k0),o4] H=.ok (.nx [some (.ref bi),some (.ref ph.length),some (.ref (ph.length+1)),some (.int k0),o4]) H1:=by
  rw[pq];refine aw (a:=.int Q.length) (ph':=H) (aw (aC rfl rfl) ((lb I.q).trans (by rw[abX]))) ?_;rw[qY];refine aw (aw rfl (aw rfl (aw (vB I.d (we l _) (by unfold pd;rw[abX];exact aca (show l.length<1000 by omega) (by decide)) _) rfl))) ?_;rw[Zn _ oC,<- xv,<- e1];rfl
 have x1:Ex ph H1:=by rw[e1];exact Ex.set I.ex (abZ _) _
 have d1:H1[ph.length]? =some (.aD (pd l')):=by rw[e1];exact dQ I.d
 have q1:H1[ph.length+1]? =some (.lst (Q.map LR.w)):=by rw[e1];exact(dg (by omega)).trans I.q
 obtain⟨H2,e2⟩:∃H2,H2=H1.set (ph.length+1) (.lst (Q.map LR.w++b.rs.map Row.w)):=⟨_,rfl⟩
 have x2:Ex ph H2:=by rw[e2];exact Ex.set x1 (by omega) _
 have d2:H2[ph.length]? =some (.aD (pd l')):=by rw[e2];exact(dg (by omega)).trans d1
 have q2:H2[ph.length+1]? =some (.lst (Q.map LR.w++b.rs.map Row.w)):=by rw[e2];exact dQ q1
 have it:∀{K:PH} {o4:Option W},Ex ph K->ab ag (aa 0) (aa 3) [some (.ref bi),some (.ref ph.length),some (.ref (ph.length+1)),some (.int k0),o4] K=.ok (.tup [.ref ri,b.en.w]) K:=fun x=>aw rfl (aw rfl (kO _ x))
 have a3:da (bR b9 jI (aa 2) (ae (ab ag (ab ag (aa 0) (aa 3)) (eC (.int (0)))) ah)) [some (.ref bi),some (.ref ph.length),some (.ref (ph.length+1)),some (.int k0),some b.en.w] H1=.ok (.nx [some (.ref bi),some (.ref ph.length),some (.ref (ph.length+1)),some (.int k0),some b.en.w]) H2:=by
  rw[e2];exact ext (j:=ri) rfl ⟨_,q1⟩ (ph1:=H1) (aw (it x1) rfl) q1 (x1.get gZ) (by rw[abX,abX];omega)
 obtain⟨H3,t1,x3,t2⟩:=Zo b.en d2;have q3:=x3.get q2;have d3:=x3.get d2;obtain⟨T,hT⟩:∃T,T=tl b.en (cF l'):=⟨_,rfl⟩
 have sY:T.length<=2:=by rw[hT];exact Zp _ _
 rw[<- hT] at t2 S;obtain⟨Q',xw⟩:∃Q',Q'=Q++b.rs.map LR.r++T:=⟨_,rfl⟩
 rw[<- xw] at S;have eQ:Q.map LR.w++b.rs.map Row.w++T.map LR.w=Q'.map LR.w:=by
  rw[xw,adF,adF,adi];rfl
 obtain⟨H4,e4⟩:∃H4,H4=H3.set (ph.length+1) (.lst (Q'.map LR.w)):=⟨_,rfl⟩
 have a4:da (bR b9 jI (aa 2) (ae (aX uo (ae (aa 4) (ae (aa 1) ah))) ah)) [some (.ref bi),some (.ref ph.length),some (.ref (ph.length+1)),some (.int k0),some b.en.w] H2=.ok (.nx [some (.ref bi),some (.ref ph.length),some (.ref (ph.length+1)),some (.int k0),some b.en.w]) H4:=by
  rw[e4,<- eQ];exact ext (j:=H2.length) rfl ⟨_,q2⟩ (ph1:=H3) (aw (aC rfl (aC rfl rfl)) t1) q3 t2 (by rw[acg,abX,abX,abX];omega)
 have x4:Ex ph H4:=by rw[e4];exact Ex.set (x2.trans x3) (by omega) _
 have d4:H4[ph.length]? =some (.aD (pd l')):=by rw[e4];exact(dg (by omega)).trans d3
 have q4:H4[ph.length+1]? =some (.lst (Q'.map LR.w)):=by rw[e4];exact dQ q3
 obtain⟨x',gE⟩:∃x',x'=kP NB.length b.en (cF l'):=⟨_,rfl⟩
 rw[<- gE] at S;have a5:aE (aX mh (ae (aa 4) ah)) (gN 3) [some (.ref bi),some (.ref ph.length),some (.ref (ph.length+1)),some (.int k0),some b.en.w] H4=.ok (.nx [some (.ref bi),some (.ref ph.length),some (.ref (ph.length+1)),some (pw b.en.sb),some b.en.w]) H4:=asg (aw (aC rfl rfl) (Dy b.en H4));have ls:=Xb (hA.mono x4) ht d4;have a6:aW (dj (eT (ab iy (aa 3) (eC .aI))) (eT (ab cV (aa 3) (aa 1)))) (aE (aX tX (ae (aa 0) (ae (aa 1) ah))) (gN 3)) bN [some (.ref bi),some (.ref ph.length),some (.ref (ph.length+1)),some (pw b.en.sb),some b.en.w] H4=.ok (.nx [some (.ref bi),some (.ref ph.length),some (.ref (ph.length+1)),some (pw x'),some b.en.w]) H4:=by
  rw[gE];unfold kP;cases hs:b.en.sb with
  | none=>
   refine bK ?_ (asg (aw (aC rfl (aC rfl rfl)) ls));rw[la];exact aw (jP (o:=none) rfl) rfl
  | some t=>
   simp only;have tt:dj (eT (ab iy (aa 3) (eC .aI))) (eT (ab cV (aa 3) (aa 1))) [some (.ref bi),some (.ref ph.length),some (.ref (ph.length+1)),some (pw (some t)),some b.en.w] H4=.ok (decide (t∈cF l')) H4:=jU (x:=false) (jP (o:=some t) rfl) (AA (k:=t) d4 rfl rfl);by_cases qC:t∈cF l'
   ·rw[decide_eq_true qC] at tt;rw[if_pos qC];exact bK tt (asg (aw (aC rfl (aC rfl rfl)) ls))
   ·rw[decide_eq_false qC] at tt;rw[if_neg qC];exact az tt rfl
 refine⟨H4,l',Q',x',some b.en.w,?_,⟨x4,d4,q4,S,fun z=>Vr (gE▸z),?_,l2,.inr ?_,fun r hr=>?_⟩,lU⟩
 ·unfold vd;exact sq a1 (sq (asg (aw (it x1) rfl)) (sq a3 (sq a4 (sq a5 a6))))
 ·rw[lU,aff,xw,acg,acg,abX];omega
 ·rw[xv]
  rcases I.z with⟨z1,z2,z3⟩ | z
  ·cases z3;rw[z1,z2];simp
  ·exact adw _ z
 ·rw[xw] at hr
  rcases adb.mp hr with z | z
  ·rcases adb.mp z with z | z
   ·exact I.ok r z
   ·obtain⟨y,hy,e⟩:=acq.mp z;cases e;exact BH r hy
  ·rw[hT] at z;exact absurd z abw
theorem Zq(hB:gF M NB)(hM:M<=100)(hA:d7 ph bi NB) :
  ∃ri ph' R pl,zt [.ref bi] ph=.ok (.ref ri) ph'/\Ex ph ph'/\ph'[ri]? =some (.lst (R.map LR.w))/\Laid NB R pl/\pl 0=0/\R.length<=6120/\(∀r,LR.r r∈R->fj r)/\((∀(j:Nat) b,NB[j]? =some b->∀t∈b.en.to,t<NB.length/\∀c,NB[t]? =some c->¬tu c)->xt R):=by
 have ht:=hB.top;have hp:=hB.pos;have d0:(ph++[PO.aD []]++[PO.lst []])[ph.length]? =some (.aD (pd [])):=(Ex.one _ _).get (bu _ _);have q0:(ph++[PO.aD []]++[PO.lst []])[ph.length+1]? =some (.lst (([]:List LR).map LR.w)):=by
  have:=bu (ph++[PO.aD []]) (PO.lst []);rw[acg] at this;exact this
 obtain⟨H0,eH⟩:∃H0,H0=ph++[PO.aD []]++[PO.lst []]:=⟨_,rfl⟩
 have x0:Ex ph H0:=eH▸(Ex.one _ _).trans (Ex.one _ _);rw[<- eH] at d0 q0;have I0:LI ph H0 M NB [] [] (some 0):=⟨x0,d0,q0,Ly.start hp,fun z=>(nomatch z),by simp,by simp,.inl ⟨rfl,rfl,rfl⟩,fun r hr=>(nomatch hr)⟩
 obtain⟨ao,H1,e1,l,Q,o4,rfl,I1⟩:=yn (t:=eT (ab lr (aa 3) (eC .aI))) (b:=vd)
  (fun m σ H=>∃l Q x o4,σ=[some (.ref bi),some (.ref ph.length),some (.ref (ph.length+1)),some (pw x),o4]/\LI ph H M NB l Q x/\m+l.length=NB.length+1)
  (fun σ H=>∃l Q o4,σ=[some (.ref bi),some (.ref ph.length),some (.ref (ph.length+1)),some .aI,o4]/\LI ph H M NB l Q none)
  (fun m σ H zz=>by
   obtain⟨l,Q,x,o4,rfl,I,hm⟩:=zz;cases x with
   | none=>
    left
    exact⟨H,Ir (o:=none) rfl,l,Q,o4,rfl,I⟩
   | some k0=>
    right
    obtain⟨H',l',Q',x',B0,q1,q2,q3⟩:=Ut (o4:=o4) hB hM hA I;have:=q2.ll;exact⟨H,Ir (o:=some k0) rfl,_,H',q1,_,.inl rfl,m-1,by omega,l',Q',x',B0,rfl,q2,by omega⟩)
  (NB.length+1) [some (.ref bi),some (.ref ph.length),some (.ref (ph.length+1)),some (.int 0),none] H0 ⟨[],[],some 0,none,rfl,I0,by simp⟩
 have jf:=I1.all rfl;have L:=I1.ly;have aaD:∀{t:Nat},t<NB.length->(t,eM l t)∈l:=fun{t} h=>by
  obtain⟨p,hp,e⟩:=acq.mp (jf t h);subst e;have:eM l p.1=p.2:=nz L.nd hp;rw[this];exact hp
 obtain⟨H2,e2,x2⟩:=ke Q LR.w (im:=cY (aa 2)) (cap:=[none,some 1]) (g:=gN 0) (c:=cJ) (e:=aX uY (ae (aa 0) (ae (aa 1) ah))) (σ:=[some (.ref bi),some (.ref ph.length),some (.ref (ph.length+1)),some .aI,o4]) (ph0:=H1) (ph:=H1) (chk:=fun p=>decide (p[ph.length+1]? =some (.lst (Q.map LR.w))))
  (gk rfl I1.q) (fun p x=>decide_eq_true (x.get I1.q)) (by
   have:=I1.len;have h2:l.length*(M+2)<=60*102:=aeF (by have:=I1.ll;omega) (by omega);exact acl (show Q.length<=10000 by omega) (by decide))
  (fun y=>some (y.mp (eM l)).w) (fun σ=>∃o,σ=[o,some (.ref ph.length)]) ⟨none,rfl⟩
  (fun y hy σ K zz hx=>by
   obtain⟨o,rfl⟩:=zz;obtain⟨p,hp⟩:=acJ.mp hy;have jt:=L.xr p y hp;refine⟨_,rfl,⟨_,rfl⟩,true,K,rfl,Ex.refl _,.inr ⟨rfl,_,K,aw (aC rfl (aC rfl rfl)) (Xc y fun t hyt=>?_),Ex.refl _,rfl⟩⟩;have:∃(k:Nat) (b:bt),NB[k]? =some b/\t∈b.en.to:=by
    rcases hyt with rfl | ⟨v,rfl⟩
    ·exact jt
    ·exact jt
   obtain⟨k,b,dO,sP⟩:=this;exact aaC (hx.get I1.d) L.nd (aaD (hB.lt k b dO t sP)))
 rw[m7] at x2;have g2:=x2.get (bu H1 _);have hQl:Q.length<=6120:=by
  have:=I1.len;have h2:l.length*(M+2)<=60*102:=aeF (by have:=I1.ll;omega) (by omega);omega
 refine⟨H1.length,H2,Q.map (LR.mp (eM l)),eM l,?_,(I1.ex.trans (Ex.one _ _)).trans x2,by rw[g2,adi];rfl,L.laid jf,?_,by rw[abX];exact hQl,fun r hr=>?_,fun hl=>L.jmp jf hl⟩
 ·unfold zt nv;rw[jl];refine bq (ph1:=ph++[PO.aD []]) (σ1:=[some (.ref bi),some (.ref ph.length),none,none,none]) rfl (bq (ph1:=H0) (σ1:=[some (.ref bi),some (.ref ph.length),some (.ref (ph.length+1)),none,none]) ?_ (bq rfl (bq e1 (br e2))));rw[eH];refine(asg (w:=.ref (ph.length+1)) (ph1:=ph++[PO.aD []]++[PO.lst []]) ?_).trans rfl;show Out.ok (W.ref (ph++[PO.aD []]).length) _=_;rw[acg];rfl
 ·rcases I1.z with⟨_,_,z⟩ | z
  ·cases z
  ·exact nz L.nd z
 ·obtain⟨y,hy,e⟩:=acq.mp hr;cases y with
  | r x=>cases e;exact I1.ok r hy
  | _=>cases e
theorem Zr{s:S}(h1:aa 1 σ=ax (.ref ii))(h6:aa 6 σ=ax (.int s.tk))(R:RI ph H m s)(hI:gS ph ii I)(hm:m<100000) :
  ∃H',ab ag (ab addW (aa 1) (ab bV (bI (ae (eC (.int (0))) ah)) (ab addW (aa 6) (eC (.int (1)))))) (aa 6) σ H=.ok (.int (I.getD s.tk 0)) H'/\Ex H H':=by
 obtain⟨H',e,x⟩:=Gy (bi:=0) (o7:=none) (o8:=none) (o9:=none) (o10:=none) R hI hm;refine⟨H',Eq.trans ?_ e,x⟩;have a1:aa 1 (st 0 ii ph.length s none none none none)=ax (.ref ii):=rfl;have a6:aa 6 (st 0 ii ph.length s none none none none)=ax (.int s.tk):=rfl;simp only[df,pv,qX,rm,zW,h1,h6,a1,a6]
abbrev bE(ri ii p:Nat)(s:S)(o7 o8 o9:Option W):aQ:=[some (.ref ri),some (.ref ii),some (.int s.tn),some (.ref p),some (.ref (p+1)),some (.ref (p+2)),some (.int s.tk),o7,o8,o9]
noncomputable def zH:SM:=(aW (eT (ab aH (ab ag (aa 9) (eC (.int (0)))) (eC (.str "turn")))) (aE (ab fU (aa 2) (eC (.int (1)))) (gN 2)) (aW (eT (ab aH (ab ag (aa 9) (eC (.int (0)))) (eC (.str "take")))) (ay (aE (ab ag (ab addW (aa 1) (ab bV (bI (ae (eC (.int (0))) ah)) (ab addW (aa 6) (eC (.int (1)))))) (aa 6)) (eU (aa 3) (ab ag (aa 9) (eC (.int (1)))))) (aE (ab addW (aa 6) (eC (.int (1)))) (gN 6))) (aW (eT (ab aH (ab ag (aa 9) (eC (.int (0)))) (eC (.str "tell")))) (da (bR b9 dt (aa 5) (ae (bR dW dX (aa 3) (ae (ab ag (aa 9) (eC (.int (1)))) (ae (eC (.int (0))) ah))) ah))) (aW (eT (ab aH (ab ag (aa 9) (eC (.int (0)))) (eC (.str "go")))) (aE (ab ag (aa 9) (eC (.int (1)))) (gN 7)) (aW (eT (ab aH (ab ag (aa 9) (eC (.int (0)))) (eC (.str "if")))) (aE (ab ag (bI (ae (aa 7) (ae (ab ag (aa 9) (eC (.int (2)))) ah))) (bv iz (ae (ab fy (bR dW dX (aa 3) (ae (ab ag (aa 9) (eC (.int (1)))) (ae (eC (.int (0))) ah))) (eC (.int (0)))) ah))) (gN 7)) (da (aX kW (ae (aa 9) (ae (aa 3) (ae (aa 4) ah))))))))))
theorem Zs{s:S}(r:Row)(R:RI ph H m s)(hr:fj r)(hI:gS ph ii I)(hm:m<100000) :
  (∃y,cM I s r=.inl (s.by y)/\(ay (aW (cQ (eT (ab aH (ab ag (aa 9) (eC (.int (0)))) (eC (.str "turn")))) (eT (ab aH (aa 2) (eC (.int (0)))))) (aZ (bB (ae (eC (.str "dry")) (ae (aa 5) (ae (aa 6) ah))))) bN) (ay (aW (cQ (eT (ab aH (ab ag (aa 9) (eC (.int (0)))) (eC (.str "do")))) (cQ (eT (ab aH (ab ag (aa 9) (eC (.int (2)))) (eC (.str "part")))) (eT (ab aH (bR dW dX (aa 3) (ae (ab ag (aa 9) (eC (.int (4)))) (ae (eC (.int (0))) ah))) (eC (.int (0))))))) (aZ (bB (ae (eC (.str "nought")) (ae (aa 5) (ae (aa 6) ah))))) bN) zH)) (bE ri ii ph.length s o7 o8 (some r.w)) H=.ok (.rt (iE ph.length y s)) H) \/
  (∃s' H',cM I s r=.inr s'/\(ay (aW (cQ (eT (ab aH (ab ag (aa 9) (eC (.int (0)))) (eC (.str "turn")))) (eT (ab aH (aa 2) (eC (.int (0)))))) (aZ (bB (ae (eC (.str "dry")) (ae (aa 5) (ae (aa 6) ah))))) bN) (ay (aW (cQ (eT (ab aH (ab ag (aa 9) (eC (.int (0)))) (eC (.str "do")))) (cQ (eT (ab aH (ab ag (aa 9) (eC (.int (2)))) (eC (.str "part")))) (eT (ab aH (bR dW dX (aa 3) (ae (ab ag (aa 9) (eC (.int (4)))) (ae (eC (.int (0))) ah))) (eC (.int (0))))))) (aZ (bB (ae (eC (.str "nought")) (ae (aa 5) (ae (aa 6) ah))))) bN) zH)) (bE ri ii ph.length s o7 o8 (some r.w)) H=.ok (.nx (bE ri ii ph.length s' o7 o8 (some r.w))) H'/\RI ph H' (m+1) s'):=by
 have hb:s.bx.length<1000000:=adU R.nb (by omega);have n1:=R.nb;have n2:=R.nl;have n3:=R.nt;have n4:=R.nk;have bx:∀{x:String} {ws:List W} {H':PH},x≠"turn"->x≠"take"->x≠"tell"->x≠"go"->x≠"if"->kW [.tup (.str x::ws),.ref ph.length,.ref (ph.length+1)] H=.ok .aI H' →
   zH (bE ri ii ph.length s o7 o8 (some (.tup (.str x::ws)))) H=.ok (.nx (bE ri ii ph.length s o7 o8 (some (.tup (.str x::ws))))) H':=fun{x ws H'} h1 h2 h3 h4 h5 h=>
  az (wq x rfl (decide_eq_false h1)) (az (wq x rfl (decide_eq_false h2)) (az (wq x rfl (decide_eq_false h3)) (az (wq x rfl (decide_eq_false h4)) (az (wq x rfl (decide_eq_false h5)) (aw (aw (aC rfl (aC rfl (aC rfl rfl))) h) rfl)))))
 cases r with
 | turn=>
  by_cases h:s.tn=0
  ·exact .inl ⟨"dry",by simp only[cM,h,if_true],kN (bK (tT (wq "turn" rfl rfl) (eI rfl (decide_eq_true h))) (retS rfl))⟩
  ·exact .inr ⟨{ s with tn:=s.tn-1 },H,by simp only[cM,h,if_false],sq (az (tT (wq "turn" rfl rfl) (eI rfl (decide_eq_false h))) rfl) (sq (az (tF (wq "turn" rfl rfl)) rfl) (bK (wq "turn" rfl rfl) rfl)),R.ex,R.b,R.l,R.t,by simp only;omega,by simp only;omega,by simp only;omega,by simp only;omega,R.vb,R.vl⟩
 | take a=>
  obtain⟨H1,e1,x1⟩:=Zr (σ:=bE ri ii ph.length s o7 o8 (some (Row.take a).w)) rfl rfl R hI hm;have R1:=R.mono x1;have R2:=R1.bx (k:=a) (hI.get s.tk);exact .inr ⟨{ s with bx:=pt s.bx a (I.getD s.tk 0),tk:=s.tk+1 },_,rfl,sq (az (tF (wq "take" rfl rfl)) rfl) (sq (az (tF (wq "take" rfl rfl)) rfl) (az (wq "take" rfl rfl) (bK (wq "take" rfl rfl) (sq (ox e1 R1.b hb rfl rfl) rfl)))),R2.ex,R2.b,R2.l,R2.t,R2.nb,R2.nl,R2.nt,by simp only;omega,R2.vb,R2.vl⟩
 | tell a=>
  refine .inr ⟨{ s with told:=s.told++[gt s.bx a] },H.set (ph.length+2) (.lst (s.told.map W.int++[.int (gt s.bx a)])),rfl,sq (az (tF (wq "tell" rfl rfl)) rfl) (sq (az (tF (wq "tell" rfl rfl)) rfl) (az (wq "tell" rfl rfl) (az (wq "tell" rfl rfl) (bK (wq "tell" rfl rfl) (sU rfl ⟨_,R.t⟩ (ju R.b rfl rfl) R.t (by rw[abX];omega)))))),?_⟩;exact⟨Ex.set R.ex (by omega) _,(dg (by omega)).trans R.b,(dg (by omega)).trans R.l,by rw[dQ R.t];simp,by simp only;omega,by simp only;omega,by simp only[acg,adj,aen];omega,by simp only;omega,R.vb,R.vl⟩
 | dY a w b c=>
  have hg:=ju (o:=aa 3) (e:=ab ag (aa 9) (eC (.int (4)))) (σ:=bE ri ii ph.length s o7 o8 (some (Row.dY a w b c).w)) (k:=c) R.b rfl rfl;by_cases h:w=.part/\gt s.bx c=0
  ·obtain⟨rfl,h⟩:=h;exact .inl ⟨"nought",by simp only[cM,h,if_true],sq (az (tF (wq "do" rfl rfl)) rfl) (kN (bK (tT (wq "do" rfl rfl) (tT (eS "part" rfl rfl) (eI hg (decide_eq_true h)))) (retS rfl)))⟩
  ·obtain⟨s',hs⟩:∃s',cM I s (.dY a w b c)=.inr s':=by
    cases w
    case part=>
     have h:¬gt s.bx c=0:=fun z=>h ⟨rfl,z⟩
     exact⟨_,if_neg h⟩
    all_goals exact⟨_,rfl⟩
   obtain⟨H',e,R',t1,t2⟩:=jN R hr hm hs trivial;have d5:bE ri ii ph.length s o7 o8 (some (Row.dY a w b c).w)=bE ri ii ph.length s' o7 o8 (some (Row.dY a w b c).w):=by unfold bE;rw[t1,t2]
   refine .inr ⟨s',H',hs,sq (az (tF (wq "do" rfl rfl)) rfl) (sq (az (tT (wq "do" rfl rfl) ?_) rfl) ((bx (by decide) (by decide) (by decide) (by decide) (by decide) e).trans (by rw[<- d5];rfl))),R'⟩;by_cases hw:w.s="part"
   ·refine tT (eS w.s rfl (decide_eq_true hw)) (eI hg (decide_eq_false fun z=>h ⟨?_,z⟩));cases w <;> first | rfl | exact absurd hw (by decide)
   ·exact tF (eS w.s rfl (decide_eq_false hw))
 | put a n=>
  obtain⟨H',e,R',t1,t2⟩:=jN (I:=I) R hr hm rfl trivial;exact .inr ⟨_,H',rfl,sq (az (tF (wq "put" rfl rfl)) rfl) (sq (az (tF (wq "put" rfl rfl)) rfl) (bx (by decide) (by decide) (by decide) (by decide) (by decide) e)),R'⟩
 | move a b=>
  obtain⟨H',e,R',t1,t2⟩:=jN (I:=I) R hr hm rfl trivial;exact .inr ⟨_,H',rfl,sq (az (tF (wq "move" rfl rfl)) rfl) (sq (az (tF (wq "move" rfl rfl)) rfl) (bx (by decide) (by decide) (by decide) (by decide) (by decide) e)),R'⟩
 | pull a b=>
  obtain⟨H',e,R',t1,t2⟩:=jN (I:=I) R hr hm rfl trivial;exact .inr ⟨_,H',rfl,sq (az (tF (wq "pull" rfl rfl)) rfl) (sq (az (tF (wq "pull" rfl rfl)) rfl) (bx (by decide) (by decide) (by decide) (by decide) (by decide) e)),R'⟩
 | push a b=>
  obtain⟨H',e,R',t1,t2⟩:=jN (I:=I) R hr hm rfl trivial;exact .inr ⟨_,H',rfl,sq (az (tF (wq "push" rfl rfl)) rfl) (sq (az (tF (wq "push" rfl rfl)) rfl) (bx (by decide) (by decide) (by decide) (by decide) (by decide) e)),R'⟩
theorem Xd(r:Row):∃(x:String) (ws:List W),r.w=.tup (.str x::ws)/\x≠"end":=by
 cases r with
 | dY a w b c=>exact⟨"do",_,rfl,by decide⟩
 | put a n=>exact⟨"put",_,rfl,by decide⟩
 | move a b=>exact⟨"move",_,rfl,by decide⟩
 | pull a b=>exact⟨"pull",_,rfl,by decide⟩
 | push a b=>exact⟨"push",_,rfl,by decide⟩
 | take a=>exact⟨"take",_,rfl,by decide⟩
 | tell a=>exact⟨"tell",_,rfl,by decide⟩
 | turn=>exact⟨"turn",_,rfl,by decide⟩
def aaE(I:List Int)(R:List LR)(f p:Nat)(s:S):LR->Rs
 | .r x=>(match cM I s x with
  | .inl r=>r
  | .inr s=>c3 I R f (p+1) s)
 | .iff v k=>c3 I R f (if gt s.bx v=0 then p+1 else k) s
 | .go k=>c3 I R f k s
 | .fin=>s.by "done"
variable{R:List LR}{y:LR}
theorem Xe{f:Nat}{s:S}(hy:R[p]? =some y):c3 I R (f+1) p s=aaE I R f p s y:=by
 conv=>lhs;unfold c3
 rw[hy];cases y <;> rfl
theorem abx{s:S}(hR:ph[ri]? =some (.lst (R.map LR.w)))(ok:∀r,LR.r r∈R->fj r)(J:RI ph H m s)(hy:R[p]? =some y)(hI:gS ph ii I)(hm:m<100000) :
  (∃x,(∀f,c3 I R (f+1) p s=s.by x)/\oH (bE ri ii ph.length s (some (.int p)) o8 o9) H=.ok (.rt (iE ph.length x s)) H) \/
  (∃s' H' p',(∀f,c3 I R (f+1) p s=c3 I R f p' s')/\oH (bE ri ii ph.length s (some (.int p)) o8 o9) H=.ok (.nx (bE ri ii ph.length s' (some (.int p')) o8 (some y.w))) H'/\RI ph H' (m+1) s'):=by
 have n1:=J.nb;have n2:=J.nl;have n3:=J.nt;have n4:=J.nk;have fA:ck (R.map LR.w) (p:Int)=some y.w:=by rw[fc _ _ (by rw[abX];exact(abV.mp hy).1),abY,hy];rfl
 have a1:aE (ab ag (aa 0) (aa 7)) (gN 9) (bE ri ii ph.length s (some (.int p)) o8 o9) H=.ok (.nx (bE ri ii ph.length s (some (.int p)) o8 (some y.w))) H:=asg (op rfl rfl (ed (J.ex.get hR) fA));have a2:aE (ab addW (aa 7) (eC (.int (1)))) (gN 7) (bE ri ii ph.length s (some (.int p)) o8 (some y.w)) H=.ok (.nx (bE ri ii ph.length s (some (.int ((p+1:Nat):Int))) o8 (some y.w))) H:=asg ((ad (i:=(p:Int)) (j:=1) rfl rfl).trans rfl);have hl:=fun f=>Xe (I:=I) (s:=s) (f:=f) hy
 have up:RI ph H (m+1) s:=⟨J.ex,J.b,J.l,J.t,by omega,by omega,by omega,by omega,J.vb,J.vl⟩
 unfold oH;cases y with
 | fin=>exact .inl ⟨"done",fun f=>hl f,sq a1 (sq a2 (kN (bK (wq "end" rfl rfl) (retS rfl))))⟩
 | go k=>exact .inr ⟨s,H,k,fun f=>hl f,sq a1 (sq a2 (sq (az (wq "go" rfl rfl) rfl) (sq (az (tF (wq "go" rfl rfl)) rfl) (sq (az (tF (wq "go" rfl rfl)) rfl) (az (wq "go" rfl rfl) (az (wq "go" rfl rfl) (az (wq "go" rfl rfl) (bK (wq "go" rfl rfl) (asg rfl))))))))),up⟩
 | iff v k=>
  obtain⟨H2,e2⟩:∃H2,H2=H++[PO.lst [.int ((p+1:Nat):Int),.int k]]:=⟨_,rfl⟩
  have x2:Ex H H2:=e2▸Ex.one _ _;have g2:H2[H.length]? =some (.lst [.int ((p+1:Nat):Int),.int k]):=by rw[e2];exact bu _ _
  have hg:=ju (o:=aa 3) (e:=ab ag (aa 9) (eC (.int (1)))) (σ:=bE ri ii ph.length s (some (.int ((p+1:Nat):Int))) o8 (some (LR.iff v k).w)) (k:=v) (x2.get J.b) rfl rfl;refine .inr ⟨s,H2,if gt s.bx v=0 then p+1 else k,fun f=>hl f,sq a1 (sq a2 (sq (az (wq "if" rfl rfl) rfl) (sq (az (tF (wq "if" rfl rfl)) rfl) (sq (az (tF (wq "if" rfl rfl)) rfl) (az (wq "if" rfl rfl) (az (wq "if" rfl rfl) (az (wq "if" rfl rfl) (az (wq "if" rfl rfl) (bK (wq "if" rfl rfl) ((asg (w:=.int ((if gt s.bx v=0 then p+1 else k:Nat):Int)) (ph1:=H2) ?_).trans rfl)))))))))),up.mono x2⟩;refine op (x:=.ref H.length) (ph1:=H2) (by rw[e2];rfl) (JL hg) (ed g2 ?_);by_cases hz:gt s.bx v=0
  ·rw[if_pos hz,if_pos hz];rfl
  ·rw[if_neg hz,if_neg hz];rfl
 | r x=>
  have hl:∀f,c3 I R (f+1) p s=match cM I s x with
    | .inl r=>r
    | .inr s=>c3 I R f (p+1) s:=fun f=>hl f
  obtain⟨z,ws,q1,q2⟩:=Xd x;have e0:eT (ab aH (ab ag (aa 9) (eC (.int (0)))) (eC (.str "end"))) (bE ri ii ph.length s (some (.int ((p+1:Nat):Int))) o8 (some x.w)) H=.ok false H:=wq z (ws:=ws) (by rw[q1];rfl) (decide_eq_false q2)
  rcases Zs (ri:=ri) (o7:=some (.int ((p+1:Nat):Int))) (o8:=o8) x J (ok x (acd hy)) hI hm with⟨yy,h1,h2⟩ | ⟨s',H',h1,h2,J'⟩
  ·exact .inl ⟨yy,fun f=>by rw[hl,h1],sq a1 (sq a2 (sq (az e0 rfl) h2))⟩
  ·exact .inr ⟨s',H',p+1,fun f=>by rw[hl,h1],sq a1 (sq a2 (sq (az e0 rfl) h2)),J'⟩
theorem Zt{tn:Int}(hR:ph[ri]? =some (.lst (R.map LR.w)))(ok:∀r,LR.r r∈R->fj r)(hI:gS ph ii I)(hF:iD (c3 I R 9000 0 ⟨[],[],[],0,tn⟩)) :
  ∃H' y s',uq [.ref ri,.ref ii,.int tn] ph=.ok (iE ph.length y s') H'/\Ex ph H'/\H'[ph.length+2]? =some (.lst (s'.told.map W.int))/\c3 I R 9000 0 ⟨[],[],[],0,tn⟩=s'.by y:=by
 have up:∀{H:PH} {a b:Nat} {s:S},a<=b->RI ph H a s->RI ph H b s:=fun h R=>⟨R.ex,R.b,R.l,R.t,acl R.nb h,acl R.nl h,acl R.nt h,acl R.nk h,R.vb,R.vl⟩
 obtain⟨s0,es⟩:∃s0:S,s0=⟨[],[],[],0,tn⟩:=⟨_,rfl⟩
 rw[<- es] at hF;have R0:RI ph (ph++[.aD []]++[.aD []]++[.lst []]) 0 s0:=by
  subst es;refine⟨((Ex.one _ _).trans (Ex.one _ _)).trans (Ex.one _ _),((Ex.one _ _).trans (Ex.one _ _)).get (bu _ _),(Ex.one _ _).get ?_,?_,abZ _,abZ _,abZ _,abZ _,fun p hp=>(nomatch hp),fun p hp=>(nomatch hp)⟩
  ·have:=bu (ph++[PO.aD []]) (PO.aD []);rw[acg] at this;exact this
  ·have:=bu (ph++[PO.aD []]++[PO.aD []]) (PO.lst []);rw[acg,acg] at this;exact this
 obtain⟨H0,eH⟩:∃H0,H0=ph++[PO.aD []]++[PO.aD []]++[PO.lst []]:=⟨_,rfl⟩
 rw[<- eH] at R0;have iN:cD (ae (eC (.int (9000))) ah) (bE ri ii ph.length s0 (some (.int ((0:Nat):Int))) none none) H0=.ok (dB 0 9000,fun _=>true) H0:=ie (j:=9000) rfl (by decide) (by decide);have pre:∀{r:Out W},au (ay (dM (cD (ae (eC (.int (9000))) ah)) (gN 8) oH) (aZ (bB (ae (eC (.str "long")) (ae (aa 5) (ae (aa 6) ah))))) (bE ri ii ph.length s0 (some (.int ((0:Nat):Int))) none none)) dS H0=r->uq [.ref ri,.ref ii,.int tn] ph=r:=fun{r} h=>by
  unfold uq mB;rw[nT];refine bq (ph1:=ph++[.aD []]) (σ1:=[some (.ref ri),some (.ref ii),some (.int tn),some (.ref ph.length),none,none,none,none,none,none]) rfl (bq (ph1:=ph++[.aD []]++[.aD []]) (σ1:=[some (.ref ri),some (.ref ii),some (.int tn),some (.ref ph.length),some (.ref (ph.length+1)),none,none,none,none,none]) ?_ (bq (ph1:=H0) (σ1:=[some (.ref ri),some (.ref ii),some (.int tn),some (.ref ph.length),some (.ref (ph.length+1)),some (.ref (ph.length+2)),none,none,none,none]) ?_ (bq rfl (bq rfl ?_))))
  ·refine(asg (w:=.ref (ph.length+1)) (ph1:=ph++[.aD []]++[.aD []]) ?_).trans rfl;show Out.ok (W.ref (ph++[PO.aD []]).length) _=_;rw[acg];rfl
  ·refine(asg (w:=.ref (ph.length+2)) (ph1:=H0) ?_).trans rfl;rw[eH];show Out.ok (W.ref (ph++[PO.aD []]++[PO.aD []]).length) _=_;rw[acg,acg];rfl
  ·rw[<- h,es];rfl
 rcases mW (chk:=fun _=>true) (g:=gN 8) (b:=oH)
  (fun w H=>∃y s',w=iE ph.length y s'/\c3 I R 9000 0 s0=s'.by y/\RI ph H 100000 s')
  (fun j σ H=>∃(s':S) (p:Nat) (o8 o9:Option W),σ=bE ri ii ph.length s' (some (.int p)) o8 o9/\j<=9000/\c3 I R 9000 0 s0=c3 I R (9000-j) p s'/\RI ph H j s')
  (dB 0 9000) 0 (bE ri ii ph.length s0 (some (.int ((0:Nat):Int))) none none) H0 (fun _ _ _ _=>rfl)
  (fun j x σ H hj zz=>by
   obtain⟨s',p,o8,o9,rfl,l6,hs,J⟩:=zz;rw[acX] at hs J l6 ⊢;have iH:j<9000:=by have:=(abV.mp hj).1;rw[kf] at this;exact this
   obtain⟨f,ef⟩:∃f,9000-j=f+1:=⟨9000-(j+1),by omega⟩
   rw[ef] at hs;have ef':9000-(j+1)=f:=by omega
   obtain⟨y,hy⟩:∃y,R[p]? =some y:=by
    cases h:R[p]? with
    | none=>
     refine absurd ?_ hF;rw[hs];unfold c3;rw[h];rfl
    | some y=>exact⟨y,rfl⟩
   refine⟨_,_,rfl,?_⟩
   rcases abx (ri:=ri) (o8:=some x) (o9:=o9) hR ok J hy hI (by omega) with⟨yy,q1,q2⟩ | ⟨s2,H2,p2,q1,q2,J2⟩
   ·exact⟨_,_,q2,.inr ⟨_,rfl,yy,s',rfl,by rw[hs,q1],up (by omega) J⟩⟩
   ·exact⟨_,_,q2,.inl ⟨_,.inl rfl,s2,p2,_,_,rfl,by omega,by rw[hs,q1,ef'],J2⟩⟩)
  ⟨s0,0,none,none,rfl,by omega,rfl,R0⟩ with⟨ao,H',e,s',p,o8,o9,rfl,_,hs,J⟩ | ⟨w,H',e,y,s',rfl,hs,J⟩
 ·rw[kf,acX,Nat.sub_self] at hs;exact absurd (by rw[hs];rfl) hF
 ·exact⟨H',y,s',pre (dN (ff iN e)),J.ex,J.t,by rw[<- es,hs]⟩
theorem Xf{ws:List α}{w:α}(h:ws.getLast? =some w):ck ws (-1)=some w:=by
 rw[afC] at h;have hl:=(abV.mp h).1;unfold ck gy;rw[if_neg (by decide),if_pos (by omega)];rw[show(-1+(ws.length:Int)).toNat=ws.length-1 by omega];exact h
def LR.x:LR->String
 | .r (.dY _ _ _ _)=>"do"
 | .r (.put _ _)=>"put"
 | .r (.move _ _)=>"move"
 | .r (.pull _ _)=>"pull"
 | .r (.push _ _)=>"push"
 | .r (.take _)=>"take"
 | .r (.tell _)=>"tell"
 | .r .turn=>"turn"
 | .iff _ _=>"if"
 | .go _=>"go"
 | .fin=>"end"
theorem AB:y.x="go"↔∃k,y=.go k:=by
 cases y with
 | r x=>cases x <;> exact⟨fun z=>absurd z (by simp[LR.x]),fun⟨k,z⟩=>nomatch z⟩
 | go k=>exact⟨fun _=>⟨k,rfl⟩,fun _=>rfl⟩
 | iff v k=>exact⟨fun z=>absurd z (by simp[LR.x]),fun⟨k,z⟩=>nomatch z⟩
 | fin=>exact⟨fun z=>absurd z (by simp[LR.x]),fun⟨k,z⟩=>nomatch z⟩
theorem Iu:y.x="if"↔∃v k,y=.iff v k:=by
 cases y with
 | r x=>cases x <;> exact⟨fun z=>absurd z (by simp[LR.x]),fun⟨v,k,z⟩=>nomatch z⟩
 | go k=>exact⟨fun z=>absurd z (by simp[LR.x]),fun⟨v,k,z⟩=>nomatch z⟩
 | iff v k=>exact⟨fun _=>⟨v,k,rfl⟩,fun _=>rfl⟩
 | fin=>exact⟨fun z=>absurd z (by simp[LR.x]),fun⟨v,k,z⟩=>nomatch z⟩
theorem Iv(y:LR)(H:PH):lift (ag y.w (.int 0)) H=.ok (.str y.x) H:=by
 cases y with
 | r x=>cases x <;> rfl
 | _=>rfl
theorem J9{e:EM}{s:String}(h:e σ H=.ok y.w H)(hc:decide (y.x=s)=c):eT (ab aH (ab ag e (eC (.int 0))) (eC (.str s))) σ H=.ok c H:=by
 have h2:ab ag e (eC (.int 0)) σ H=.ok (.str y.x) H:=op h rfl (Iv y H);rw[fE,df,d9,bf h2,<- hc];ac_nf
theorem Zu(H:PH)(n:Nat)(y:LR):∃d,dat H (n+1) y.w=some d:=by
 cases y with
 | r x=>
  cases x with
  | dY a w b c=>exact⟨_,ic (mc (gM H n "do") (mc (dR ..) (mc (gM H n w.s) (mc (dR ..) (mc (dR ..) rfl)))))⟩
  | put a b=>exact⟨_,ic (mc (gM H n "put") (mc (dR ..) (mc (dR ..) rfl)))⟩
  | move a b=>exact⟨_,ic (mc (gM H n "move") (mc (dR ..) (mc (dR ..) rfl)))⟩
  | pull a b=>exact⟨_,ic (mc (gM H n "pull") (mc (dR ..) (mc (dR ..) rfl)))⟩
  | push a b=>exact⟨_,ic (mc (gM H n "push") (mc (dR ..) (mc (dR ..) rfl)))⟩
  | take a=>exact⟨_,ic (mc (gM H n "take") (mc (dR ..) rfl))⟩
  | tell a=>exact⟨_,ic (mc (gM H n "tell") (mc (dR ..) rfl))⟩
  | turn=>exact⟨_,ic (mc (gM H n "turn") rfl)⟩
 | iff v k=>exact⟨_,ic (mc (gM H n "if") (mc (dR ..) (mc (dR ..) rfl)))⟩
 | go k=>exact⟨_,ic (mc (gM H n "go") (mc (dR ..) rfl))⟩
 | fin=>exact⟨_,ic (mc (gM H n "end") rfl)⟩
theorem Zv{K:PH}(hR:K[ri]? =some (.lst (R.map LR.w)))(hJ:xt R)(hy:R[p]? =some y)(hl:R.length<=100000):∃B1,tE [some (.ref ri),some (.int p),o2] K=.ok (.nx [some (.ref ri),some (.int p),B1]) K:=by
 have fA:∀{k:Nat} {y:LR},R[k]? =some y->ck (R.map LR.w) (k:Int)=some y.w:=fun{k y} h=>by rw[fc _ _ (by rw[abX];exact(abV.mp h).1),abY,h];rfl
 refine⟨some y.w,?_⟩;unfold tE;refine sq (asg (op rfl rfl (ed hR (fA hy)))) ?_;have t1:∀{s:String} {c:Bool},decide (y.x=s)=c->eT (ab aH (ab ag (aa 2) (eC (.int 0))) (eC (.str s))) [some (.ref ri),some (.int p),some y.w] K=.ok c K:=fun hc=>J9 rfl hc
 by_cases hg:(∃k,y=.go k)\/∃v k,y=.iff v k
 ·obtain⟨k,hk,z,hz,hzg⟩:∃k:Nat,ab ag (aa 2) (fv eW (eC (.int 1))) [some (.ref ri),some (.int p),some y.w] K=.ok (.int k) K/\∃z,R[k]? =some z/\∀j,z≠.go j:=by
   rcases hg with⟨k,rfl⟩ | ⟨v,k,rfl⟩
   ·exact⟨k,rfl,(hJ.go p k hy).2⟩
   ·exact⟨k,rfl,hJ.iff p v k hy⟩
  have hkl:=(abV.mp hz).1;have tor:dj (eT (ab aH (ab ag (aa 2) (eC (.int 0))) (eC (.str "go")))) (eT (ab aH (ab ag (aa 2) (eC (.int 0))) (eC (.str "if")))) [some (.ref ri),some (.int p),some y.w] K=.ok true K:=by
   refine(jU (t1 rfl) (t1 rfl)).trans ?_
   rcases hg with h | h
   ·rw[decide_eq_true (AB.mpr h)];rfl
   ·rw[decide_eq_true (Iu.mpr h),Bool.or_true]
  refine bK tor ?_;have ch:eT (ng sD gC (eC (.int (0))) (ab ag (aa 2) (fv eW (eC (.int (1))))) (bv cc (ae (aa 0) ah))) [some (.ref ri),some (.int p),some y.w] K=.ok true K:=by
   have cL:bv cc (ae (aa 0) ah) [some (.ref ri),some (.int p),some y.w] K=.ok (.int R.length) K:=aw (aC rfl rfl) ((lb hR).trans (by rw[abX]));refine tB ?_;rw[ym];refine aw rfl (aw hk ?_);refine aw (a:=W.bl true) (ph':=K) ?_ (Eq.trans (b:=au (bv cc (ae (aa 0) ah) [some (.ref ri),some (.int p),some y.w]) (fun u=>lift (gC (.int k) u)) K) rfl (aw cL ?_))
   ·show Out.ok (W.bl (decide ((0:Int)<=(k:Int)))) K=_;rw[decide_eq_true (by omega)]
   show Out.ok (W.bl (decide ((k:Int)<(R.length:Int)))) K=_;rw[decide_eq_true (by omega)]
  have i2:ab ag (aa 0) (ab ag (aa 2) (fv eW (eC (.int (1))))) [some (.ref ri),some (.int p),some y.w] K=.ok z.w K:=op rfl hk (ed hR (fA hz));have n1:rK (eT (ng sD gC (eC (.int (0))) (ab ag (aa 2) (fv eW (eC (.int (1))))) (bv cc (ae (aa 0) ah)))) [some (.ref ri),some (.int p),some y.w] K=.ok false K:=by
   rw[yG];exact aw ch rfl
  refine sq (az ((jU n1 (J9 i2 (decide_eq_false fun q=>by obtain⟨j,q⟩:=AB.mp q;exact hzg j q))).trans rfl) rfl) (az ?_ rfl)
  rcases hg with⟨k2,rfl⟩ | ⟨v,k2,rfl⟩
  ·have oD:k2=k:=by
    have:(.ok (.int k2) K:Out W)=.ok (.int k) K:=hk;injection this with a b
    have:=W.int.inj a;omega
   have fO:=(hJ.go p k2 hy).1;refine(tT (t1 rfl) (tB (op hk (ad rfl rfl) ?_)));rw[zZ];show Out.ok (W.bl (decide ((k:Int)=(p:Int)+1))) K=_;rw[decide_eq_false (by omega)]
  ·exact tF (t1 rfl)
 ·refine az ((jU (t1 rfl) (t1 rfl)).trans ?_) rfl;rw[decide_eq_false (fun q=>hg (.inl (AB.mp q))),decide_eq_false (fun q=>hg (.inr (Iu.mp q)))];rfl
theorem Xg(hR:H[ri]? =some (.lst (R.map LR.w)))(hJ:xt R)(hl:R.length<=100000):∃H',xF [.ref ri] H=.ok (.bl true) H'/\Ex H H':=by
 obtain⟨y,hy,hyg⟩:=hJ.last;have fO:R≠[]:=fun z=>by rw[z] at hy;cases hy
 obtain⟨H1,e1⟩:∃H1,H1=H++[PO.lst []]:=⟨_,rfl⟩
 have x1:Ex H H1:=e1▸Ex.one _ _;have g1:=x1.get hR;obtain⟨ds,hds⟩:=Fj (f:=dat H1 39) (R.map LR.w) fun w hw=>by
  obtain⟨z,_,rfl⟩:=acq.mp hw;exact Zu H1 38 z
 have t1:eT (ab aH (aa 0) (bI ah)) [some (.ref ri),none,none] H=.ok false H1:=by
  refine tB (op (x:=.ref ri) (y:=.ref H.length) (ph2:=H1) rfl (by rw[e1];rfl) ?_);rw[z6 (eq_nil g1 (by rw[e1];exact bu _ _) hds)];cases R with
  | nil=>exact absurd rfl fO
  | cons a R=>rfl
 have aaF:ck (R.map LR.w) (-1)=some y.w:=Xf (by rw[List.getLast?_map,hy];rfl);have i1:ab ag (ab ag (aa 0) (fv eW (eC (.int (1))))) (eC (.int (0))) [some (.ref ri),none,none] H1=.ok (.str y.x) H1:=by
  exact op (x:=y.w) (op rfl rfl (ed g1 aaF)) rfl (Iv y H1)
 have t2:eT (ab ez (ab ag (ab ag (aa 0) (fv eW (eC (.int (1))))) (eC (.int (0)))) (bB (ae (eC (.str "end")) (ae (eC (.str "go")) ah)))) [some (.ref ri),none,none] H1=.ok false H1:=by
  have nl:∀x:String,lift (ez (.str (acu x)) (.tup (["end","go"].map fun s=>.str (acu s)))) H1=.ok (.bl (!(["end","go"].any fun s=>decide (s=x)))) H1:=fun x=>by
   have a:=congrFun (y6 x ["end","go"]) H1;unfold lift iL at a;unfold lift ez wC;simp only[eJ];cases q:IL.inD H1 (.str (acu x)) (.tup (["end","go"].map fun s=>.str (acu s))) with
   | none=>rw[q] at a;cases a
   | some b=>
    rw[q] at a;have a:(Out.ok (W.bl b) H1:Out W)=.ok (.bl (["end","go"].any fun s=>decide (s=x))) H1:=a;injection a with a _
    have a:=W.bl.inj a;rw[a];rfl
  refine tB (op i1 rfl ((nl y.x).trans ?_))
  rcases hyg with rfl | ⟨k,rfl⟩ <;> rfl
 have t12:dj (eT (ab aH (aa 0) (bI ah))) (eT (ab ez (ab ag (ab ag (aa 0) (fv eW (eC (.int (1))))) (eC (.int (0)))) (bB (ae (eC (.str "end")) (ae (eC (.str "go")) ah))))) [some (.ref ri),none,none] H=.ok false H1:=aw t1 t2;have iN:cD (ae (bv cc (ae (aa 0) ah)) ah) [some (.ref ri),none,none] H1=.ok (dB 0 R.length,fun _=>true) H1:=ie (j:=R.length) (aC (aw (aC rfl rfl) ((lb g1).trans (by rw[abX]))) rfl) (by omega) (by omega);obtain⟨ao,H',e,o1,o2,rfl,rfl⟩:=mX (chk:=fun _=>true) (g:=gN 1) (b:=tE)
  (fun j σ K=>∃o1 o2,σ=[some (.ref ri),o1,o2]/\K=H1)
  (dB 0 R.length) [some (.ref ri),none,none] H1 (fun _ _ _ _=>rfl)
  (fun j x σ K hj zz=>by
   obtain⟨o1,o2,rfl,rfl⟩:=zz;obtain⟨l6,rfl⟩:=vA hj;rw[agu];obtain⟨y,hy⟩:∃y,R[j]? =some y:=bW l6;obtain⟨B1,q⟩:=Zv (o2:=o2) g1 hJ hy hl;exact⟨_,_,rfl,_,_,q,_,.inl rfl,_,B1,rfl,rfl⟩)
  ⟨none,none,rfl,rfl⟩
 refine⟨H',?_,x1⟩;unfold xF mm;rw[jl];exact bq (az t12 rfl) (bq (ff iN e) rfl)
theorem good(ns:List Int)(h:ns.length<=63):∃ph',rQ [.fl (ns.map W.int)] []=.ok (.bl true) ph':=by
 obtain⟨m0,h0,e0⟩:=kg (a:=ns.getD 0 0) (n:=6) (by decide);obtain⟨m1,h1,e1⟩:=kg (a:=ns.getD 1 0) (n:=8) (by decide);obtain⟨m2,h2,e2⟩:=kg (a:=(ns.getD 1 0).fdiv 8) (n:=12) (by decide);obtain⟨c,hc⟩:∃c,c=ns.getD (30:Int).toNat 0:=⟨_,rfl⟩
 obtain⟨m3,h3,e3⟩:=kg (a:=c) (n:=6) (by decide);obtain⟨m4,h4,e4⟩:=kg (a:=c.fdiv 6) (n:=6) (by decide);obtain⟨bi,H1,B,b1,x1,bA,bl,bO,bF⟩:=Vp (ph:=[]) ns (n:=1+m0) (bx:=2+(m1:Int)) (sl:=1+(m2:Int)) (by omega) (by omega) (by omega) (by omega);obtain⟨H2,I,i1,x2,iO⟩:=Vq (ph:=H1) (ns:=ns) (m:=m3) (c:=c) (s1:=some (.int ((1+m0:Nat):Int))) (s2:=some (.int (2+(m1:Int)))) (s3:=some (.ref bi)) (s5:=none) (s6:=none) (s7:=none) (by omega) e3;obtain⟨H3,y,s,r1,x3,t3,l3,u3⟩:=aat (tn:=(m4:Int)) bO (by decide) (bA.mono x2) iO;obtain⟨H4,c1,x4,cA⟩:=Zm (s0:=some (.fl (ns.map W.int))) (s1:=some (.int ((1+m0:Nat):Int))) (s2:=some (.int (2+(m1:Int)))) (s4:=some (.int c)) (s5:=some (.ref H1.length)) (s6:=some (iE H2.length y s)) (s7:=none) ((bA.mono x2).mono x3) (by omega);obtain⟨nb,H5,NB,J,hh,n1,x5,nA,T,nO⟩:=S2 bO (by decide) cA;obtain⟨ri,H6,R,pl,d1,x6,g6,LD,pl0,hRl,rok,hJ⟩:=Zq nO (by rw[bl];omega) nA;have JM:=hJ (W7 bF T);obtain⟨H7,j1,x7⟩:=Xg g6 JM (by omega);have xi:Ex H2 H7:=(((x3.trans x4).trans x5).trans x6).trans x7;have iO7:gS H7 H1.length I:=⟨xi.get iO.at_,iO.len,iO.JK⟩
 have small:left B 0 ⟨[],[],[],0,(m4:Int)⟩<200:=by
  unfold left;have:∀{x:Nat},x<=1->(2*((m4:Int)).toNat+x)*(B.length+1)+(B.length-0)<200:=fun{x} hx=>by
   have:=aeF (show 2*((m4:Int)).toNat+x<=11 by omega) (show B.length+1<=7 by omega);omega
  refine this ?_;split <;> omega
 have wK:iD (run I B 200 0 ⟨[],[],[],0,(m4:Int)⟩):=Ew bF 200 bO.pos (by simp only;omega) small;obtain⟨l0,hl0⟩:=T.zero;have same:=WQ T 200 hl0 rfl wK;have more:=yP (I:=I) (B:=B) rfl wK 1000 (by decide);have lz:=vF (M:=24) LD (fun b hb=>by
  have:=(nO.rows b hb).1;rw[bl] at this;omega) same wK 9000 (by decide)
 rw[pl0,<- more,u3] at lz;have aaG:iD (c3 I R 9000 0 ⟨[],[],[],0,(m4:Int)⟩):=by
  rw[lz,<- u3,more];exact wK
 obtain⟨H8,y',s',r2,x8,t8,u8⟩:=Zt (x7.get g6) rok iO7 aaG;rw[u8] at lz;have ey:y'=y/\s'.told=s.told/\s'.tk=s.tk:=by
  unfold S.by at lz;injection lz with a b
  injection b with b c
  exact⟨a,b,c⟩
 obtain⟨rfl,et,ek⟩:=ey;have dd1:=FC (y:=y') (s:=s) ((x4.trans (x5.trans (x6.trans (x7.trans x8)))).get t3);have sx:=FC (y:=y') (s:=s') t8;rw[et,ek] at sx;refine⟨H8,?_⟩;unfold rQ pO;rw[jl];have q0:(1:Int)+(m0:Int)=((1+m0:Nat):Int):=by omega
 refine bq (σ1:=[some (.fl (ns.map W.int)),some (.int ((1+m0:Nat):Int)),none,none,none,none,none,none]) (ph1:=[]) ?_ (bq (σ1:=[some (.fl (ns.map W.int)),some (.int ((1+m0:Nat):Int)),some (.int (2+(m1:Int))),none,none,none,none,none]) (ph1:=[]) ?_ (bq (asg (aw (aC rfl (aC rfl (aC rfl (aC rfl (aC ?_ rfl))))) b1)) (bq (σ1:=[some (.fl (ns.map W.int)),some (.int ((1+m0:Nat):Int)),some (.int (2+(m1:Int))),some (.ref bi),some (.int c),none,none,none]) (ph1:=H1) ?_ (bq (asg i1) (bq (asg (aw (aC rfl (aC rfl (aC ?_ rfl))) r1)) (bq (asg (aw (aC (aw (aC c1 rfl) n1) rfl) d1)) (br ?_)))))))
 ·rw[<- q0,<- e0];exact asg (ad rfl (md (cl (i:=0) rfl rfl (by decide)) rfl (by decide)))
 ·rw[<- e1];exact asg (ad rfl (md (cl (i:=1) rfl rfl (by decide)) rfl (by decide)))
 ·rw[<- e2];exact ad rfl (md (dv (cl (i:=1) rfl rfl (by decide)) rfl (by decide) (by decide)) rfl (by decide))
 ·rw[hc];exact asg (cl (i:=30) rfl rfl (by decide))
 ·rw[<- e4];exact md (dv rfl rfl (by decide) (by decide)) rfl (by decide)
 ·rw[y4];refine aw (aw (aC rfl rfl) j1) (op (aw (aC rfl (aC rfl (aC ?_ rfl))) r2) rfl (z6 (YU sx dd1)));rw[<- e4];exact md (dv rfl rfl (by decide) (by decide)) rfl (by decide)
end IL.K28
open PySem PySem.W PyProof.Rows
set_option maxHeartbeats 0 in
theorem PySem.Challenge.cw_boxwright_k28_whole_laid_runs_holds : PySem.Challenge.rw_boxwright_k28_whole_laid_runs.Holds := by
 w_on
 o_law
 k_head
 (case hw=>w_witness2)
 k_fill
 refine IL.K28.Vf (l:=PySem.Challenge.rw_boxwright_k28_whole_laid_runs) (fun ns hn=>IL.K28.good ns hn) rfl rfl (fun w h Y=>aha Y) ?K ?T ?F
 case K=>intro w;kernel_rfl
 case T=>
  intro w h Y;refine IL.V6 ?_ (aha Y) (PySem.W.km_tabs_of Y)
  kernel_rfl
 case F=>
  intro w mg fa h KX G hmg;refine' IL.K28.all_mk KX G hmg ?a_law_cell_at ?l_law_cell_at ?c_law_cell_at ?k_law_cell_at ?a_law_number_by ?l_law_number_by ?c_law_number_by ?k_law_number_by ?a_law_row_by ?l_law_row_by ?c_law_row_by ?k_law_row_by ?a_law_goal_by ?l_law_goal_by ?c_law_goal_by ?k_law_goal_by ?a_law_end_by ?l_law_end_by ?c_law_end_by ?k_law_end_by ?a_law_blocks_by ?l_law_blocks_by ?c_law_blocks_by ?k_law_blocks_by ?a_law_fit ?l_law_fit ?c_law_fit ?k_law_fit ?a_law_deed ?l_law_deed ?c_law_deed ?k_law_deed ?a_law_box_row ?l_law_box_row ?c_law_box_row ?k_law_box_row ?a_law_boxed_run ?l_law_boxed_run ?c_law_boxed_run ?k_law_boxed_run ?a_led_on ?l_led_on ?c_led_on ?k_led_on ?a_with_ways ?l_with_ways ?c_with_ways ?k_with_ways ?a_further_blocks ?l_further_blocks ?c_further_blocks ?k_further_blocks ?a_found_from ?l_found_from ?c_found_from ?k_found_from ?a_aheads ?l_aheads ?c_aheads ?k_aheads ?a_comes ?l_comes ?c_comes ?k_comes ?a_standing_within ?l_standing_within ?c_standing_within ?k_standing_within ?a_joined_block ?l_joined_block ?c_joined_block ?k_joined_block ?a_threaded ?l_threaded ?c_threaded ?k_threaded ?a_straight_behind ?l_straight_behind ?c_straight_behind ?k_straight_behind ?a_rows_for_end ?l_rows_for_end ?c_rows_for_end ?k_rows_for_end ?a_least_not_laid ?l_least_not_laid ?c_least_not_laid ?k_least_not_laid ?a_by_place ?l_by_place ?c_by_place ?k_by_place ?a_laid ?l_laid ?c_laid ?k_laid ?a_law_jumps_good ?l_law_jumps_good ?c_law_jumps_good ?k_law_jumps_good ?a_law_last_run ?l_law_last_run ?c_law_last_run ?k_law_last_run ?a_law ?l_law ?c_law ?k_law ?w1_aheads ?w2_aheads ?w3_aheads ?w4_aheads ?w1_threaded ?w2_threaded ?w3_threaded ?w4_threaded ?w5_aheads ?w6 ?z_dict ?z_enumerate ?z_int ?z_len ?z_list ?z_range ?z_sorted
  (case a_law_cell_at=>k_is)
  (case l_law_cell_at=>k_is)
  (case c_law_cell_at=>k_is)
  (case k_law_cell_at=>k_is)
  (case a_law_number_by=>k_is)
  (case l_law_number_by=>k_is)
  (case c_law_number_by=>k_is)
  (case k_law_number_by=>k_is)
  (case a_law_row_by=>k_is)
  (case l_law_row_by=>k_is)
  (case c_law_row_by=>k_is)
  (case k_law_row_by=>k_is)
  (case a_law_goal_by=>k_is)
  (case l_law_goal_by=>k_is)
  (case c_law_goal_by=>k_is)
  (case k_law_goal_by=>k_is)
  (case a_law_end_by=>k_is)
  (case l_law_end_by=>k_is)
  (case c_law_end_by=>k_is)
  (case k_law_end_by=>k_is)
  (case a_law_blocks_by=>k_is)
  (case l_law_blocks_by=>k_is)
  (case c_law_blocks_by=>k_is)
  (case k_law_blocks_by=>k_is)
  (case a_law_fit=>k_is)
  (case l_law_fit=>k_is)
  (case c_law_fit=>k_is)
  (case k_law_fit=>k_is)
  (case a_law_deed=>k_is)
  (case l_law_deed=>k_is)
  (case c_law_deed=>k_is)
  (case k_law_deed=>k_is)
  (case a_law_box_row=>k_is)
  (case l_law_box_row=>k_is)
  (case c_law_box_row=>k_is)
  (case k_law_box_row=>k_is)
  (case a_law_boxed_run=>k_is)
  (case l_law_boxed_run=>k_is)
  (case c_law_boxed_run=>k_is)
  (case k_law_boxed_run=>k_is)
  (case a_led_on=>k_is)
  (case l_led_on=>k_is)
  (case c_led_on=>k_is)
  (case k_led_on=>k_is)
  (case a_with_ways=>k_is)
  (case l_with_ways=>k_is)
  (case c_with_ways=>k_is)
  (case k_with_ways=>k_is)
  (case a_further_blocks=>k_is)
  (case l_further_blocks=>k_is)
  (case c_further_blocks=>k_is)
  (case k_further_blocks=>k_is)
  (case a_found_from=>k_is)
  (case l_found_from=>k_is)
  (case c_found_from=>k_is)
  (case k_found_from=>k_is)
  (case a_aheads=>k_is)
  (case l_aheads=>k_is)
  (case c_aheads=>k_is)
  (case k_aheads=>k_is)
  (case a_comes=>k_is)
  (case l_comes=>k_is)
  (case c_comes=>k_is)
  (case k_comes=>k_is)
  (case a_standing_within=>k_is)
  (case l_standing_within=>k_is)
  (case c_standing_within=>k_is)
  (case k_standing_within=>k_is)
  (case a_joined_block=>k_is)
  (case l_joined_block=>k_is)
  (case c_joined_block=>k_is)
  (case k_joined_block=>k_is)
  (case a_threaded=>k_is)
  (case l_threaded=>k_is)
  (case c_threaded=>k_is)
  (case k_threaded=>k_is)
  (case a_straight_behind=>k_is)
  (case l_straight_behind=>k_is)
  (case c_straight_behind=>k_is)
  (case k_straight_behind=>k_is)
  (case a_rows_for_end=>k_is)
  (case l_rows_for_end=>k_is)
  (case c_rows_for_end=>k_is)
  (case k_rows_for_end=>k_is)
  (case a_least_not_laid=>k_is)
  (case l_least_not_laid=>k_is)
  (case c_least_not_laid=>k_is)
  (case k_least_not_laid=>k_is)
  (case a_by_place=>k_is)
  (case l_by_place=>k_is)
  (case c_by_place=>k_is)
  (case k_by_place=>k_is)
  (case a_laid=>k_is)
  (case l_laid=>k_is)
  (case c_laid=>k_is)
  (case k_laid=>k_is)
  (case a_law_jumps_good=>k_is)
  (case l_law_jumps_good=>k_is)
  (case c_law_jumps_good=>k_is)
  (case k_law_jumps_good=>k_is)
  (case a_law_last_run=>k_is)
  (case l_law_last_run=>k_is)
  (case c_law_last_run=>k_is)
  (case k_law_last_run=>k_is)
  (case a_law=>k_is)
  (case l_law=>k_is)
  (case c_law=>k_is)
  (case k_law=>k_is)
  (case w1_aheads=>exact rfl)
  (case w2_aheads=>k_is)
  (case w3_aheads=>exact rfl)
  (case w4_aheads=>exact rfl)
  (case w1_threaded=>exact rfl)
  (case w2_threaded=>k_is)
  (case w3_threaded=>exact rfl)
  (case w4_threaded=>exact rfl)
  (case w5_aheads=>kernel_rfl)
  (case w6=>exact rfl)
  (case z_dict=>k_is)
  (case z_enumerate=>k_is)
  (case z_int=>k_is)
  (case z_len=>k_is)
  (case z_list=>k_is)
  (case z_range=>k_is)
  (case z_sorted=>k_is)
