import PyProof.Rows.All
import Wide.All
import OpenK.AllK
import Wide.FinOn
import Lean
import PyProof.EqAt
import PyProof.EqKinds
import PyProof.TupleCall
import KE.KLam
import PyProof.P3Eq
import PyProof.NeData
import PyProof.AttrMissHeap
import KE.KDictOf
import PyProof.DictItems
import PyProof.Rows.Range3
import KE.KEqDict
import PyProof.FactsAll.NoneType_1
import PyProof.FactsAll.bool_1
import KE.KDictSum
import KE.KSorted
import PyProof.ListRange
import PyProof.DictTruth
import PyProof.DictWalks
import PyProof.NeKinds
import PySem.Challenge.RW_boxwright_k26_whole_threaded_runs
set_option Elab.async false
set_option linter.all false
set_option maxRecDepth 100000
set_option maxHeartbeats 8000000
noncomputable section
local macro_rules | `(tactic| omega) => `(tactic| lia)
open Array renaming length_toList->acf,append_assoc->acq,toList->adY
open Bool renaming and_eq_true->Zr,false_ne_true->ZG,or_eq_true->aaN,false_and->abQ,eq_iff_iff->adp,or_false->adJ,and_self->adM
open Decidable renaming isFalse->Zm,isTrue->ZJ
open False renaming elim->abo
open ForInStep renaming yield->aaO
open Function renaming comp->abM,comp_def->adV
open Int renaming fmod_eq_emod_of_nonneg->acp,le_refl->adG
open List renaming getElem?_eq_some_iff->Zb,length_map->Zd,getElem?_map->Ze,replicate->Zi,mem_of_getElem?->Zj,lookup_cons->Zp,size_toArray->Zs,length_append->Zz,mem_cons_of_mem->ZD,length_range->ZI,mem_cons->ZK,map_cons->ZL,mem_map->ZO,mem_iff_getElem?->ZP,mem_singleton->ZQ,range->ZS,mem_append_right->ZT,getElem?_append_left->ZU,getElem?_eq_none->ZY,getElem?_set_self->aad,replicate_succ->aae,mem_cons_self->aaj,append_nil->aak,length_set->aal,all_eq_true->aam,mem_range->aaq,mem_filter->aar,getElem?_set_ne->aas,length_cons->aat,getD_eq_getElem?_getD->aav,any_cons->aay,mem_append->aaA,find?_cons->aaB,map_map->aaC,getElem?_eq_getElem->aaE,flatten_cons->aaK,all_cons->aaS,mem_append_left->aaV,getElem?_replicate->aaZ,of_mem_zip->abi,lookup->abk,map_append->abl,idxOf_lt_length_of_mem->abm,ext_getElem?->abr,take_length->abB,filterMap_cons->abD,map_congr_left->abE,mem_map_of_mem->abF,nodup_cons->abK,length_replicate->abT,map_nil->abV,length_filter_le->abY,any_eq_true->aca,nil_append->aci,length_nil->acj,getElem?_range->ack,getElem?_concat_length->acm,getElem?_append_right->aco,mem_filterMap->acr,getElem_range->acu,pairwise_cons->acv,mem_of_find?_eq_some->acy,append_assoc->acD,nodup_append->acH,flatMap_cons->acI,getElem?_cons_succ->acS,getElem?_cons_zero->acT,getLast?_cons_cons->acU,filter_cons->acV,zipWith_map_right->ada,set_append_right->adm,length_zip->adq,zipWith_map_left->ads,filterMap_eq_map->adt,filterMap_filter->adu,mem_of_getLast?->adA,drop_drop->adC,any_map->adZ
open List.Pairwise renaming filter->abv,map->adW
open List.cons renaming inj->adK
open Nat renaming le_refl->Zf,lt_of_lt_of_le->Zg,le_trans->Zq,ne_of_lt->ZE,zero_add->aaf,zero_le->aaF,lt_irrefl->aaG,ne_of_gt->aaI,lt_succ_self->aaP,le_of_ble_eq_true->aaT,lt_of_le_of_lt->abf,le_of_lt->abG,le_succ->abP,le_succ_of_le->acG,succ_mul->adg,add_comm->adh,strongRecOn->adn,mul_le_mul_right->adz,mul_le_mul->adF
open Nat.succ renaming inj->ado
open Ne renaming symm->abg
open Option renaming map_eq_some_iff->Zn,map_some->ZN,isSome_iff_exists->aan,bind_some->aau,some->aaU,isSome_map->abp,bind_eq_some_iff->acQ
open Option.some renaming inj->ZX
open PyProof.Rows renaming callWith_type1->abh,envOfC->abx,boot_int->abX,AllBare->acK,boot_list->acZ,IntsAre->adf
open PyProof.Rows.IntsAre renaming length->adE
open PySem renaming Shared->Zh,mainGlobals->Zo,sizeLine->Zt,wpAny_bind->Zu,starEach->ZF,FuncData->ZW,wpAny_pure->ZZ,foldedSetIterable->aac,Program->aah,wpAny_mono->aai,assignEach->aaw,mem_of_lookup->aax,bootBuiltins->aaz,compareOp->aaM,behindInMarks->aaQ,tupleKind_room_in1->aaR,sysModules->aaW,wpAny_passesOwn->aaX,boot_len->aba,Around->abd,wpAny_Call_Name_kw->abe,TriplesOk->abj,NameKind->abn,closureFor->abq,wpAny_newFunctionEnv_cells->abt,swapsWith->abw,PyData->aby,binaryOp->abA,wpAny_holding->abJ,sliceBounds->abO,Paired->abR,codeAny_call_function->abU,codeAny_mono->abW,wpAny_execs_cons->abZ,backTo->acb,lookup_relabel_local->acd,builtinsNs->ace,wpAny_execs_nil->acg,letOwnedTupleGo->ach,codeAny_builtin->acl,tupleKind->acz,wpAny_truthy_bool->acB,call_meets->acE,attributeBase->acM,cellsFrom->ade,call_meetsIn->adi,codeAmong->adj,assign->adB,PassesOwn->adI,PlainAttrs->adQ,valueAt->adR,defaultsOf->adU
open PySem.Around renaming under_plainId->abu,frames_deeper->adx
open PySem.Builtin.Dict renaming updateFrom->acR,pairItems->acY
open PySem.Builtin.List renaming listTooLong->aaY
open PySem.Calls renaming Name_function_global->acn
open PySem.F renaming slot_dict_get->ZM,plainAttrs_list->aaa,plainAttrs_dict->aab,type_dict_get->aag,slot_list_append->aao,type_list_append->aap,entry_dict_get->abc,slot_list_getattribute->abI,args_tuple_add_2->acC,entry_tuple_add->acL,args_dict_get_2->acN,args_dict_get_3->acO,slot_tuple_add->acW
open PySem.Heap renaming get?_push_of_some->Zk,lt_size->Zl,get?_push_size->ZH,SameBut->abS,get?_update_other->acX,get?_none_of_le->adw
open PySem.Heap.DictOf renaming new->aec
open PySem.NameKind renaming free->Zw,cell->aaH,globalImplicit->acP
open PySem.Obj renaming mapSeq->adv
open PySem.Paired renaming length->acJ
open PySem.PassesOwn renaming never->adk,leaving->adT
open PySem.PyData renaming eqv->ZV,strOk->abH,eqvAll->abL,canLay0->acx,canLayAll0->adS,int->adX
open PySem.SeqAt renaming eqBoolOverData->ady
open PySem.Str renaming ofString->Zv,ofString_eq_toList->abN
open PySem.Value renaming ref->aaL,none->adP
open PySem.W renaming Frag->Zc,keepIn->Zx,nsIn->Zy,codeIn->ZA,fnOf->ZC,mg_of->ZR,mg_none_of->aaD,tabObj->aaJ,cellsFrom_some->abb,CodeHd->abz,hideAll_get->abC,codeRec_of->acs,kla_fn->acw,methodObj->acA,hideAll->adb,OpenLaw->adl,noTabs->adD,of_hideAll->adH,callWith_K->adL,kdl_dict->aea,km_in_of->aeb
open Sum renaming inl->adN,inr->adO
open True renaming intro->acF
namespace L2
open PySem PySem.Spec PyProof.Rows
abbrev Key:=Sum Int Str
noncomputable def nv:Key->Value->Bool
 | .inl k,v=>Value.isInt k v
 | .inr x,v=>Value.isStrOf x v
noncomputable def xC(w:World):Key->Int
 | .inl k=>hashInt k
 | .inr x=>hashStr w x
theorem ig:∀{k:Key} {v:Value},nv k v=true->(∃i t,k=adN i/\v=Value.int i t)\/(∃x t,k=adO x/\v=Value.str x t)
 | .inl i,v,h=>by
  obtain⟨t,e⟩:=Value.isInt_shape (k:=i) (v:=v) h;exact .inl ⟨i,t,rfl,e⟩
 | .inr x,v,h=>by
  obtain⟨t,e⟩:=Value.isStrOf_shape (x:=x) (v:=v) h;exact .inr ⟨x,t,rfl,e⟩
theorem NQ(i:Int)(t:Tok):nv (.inl i) (.int i t)=true:=by simp[nv,Value.isInt]
theorem NR(x:Str)(t:Tok):nv (.inr x) (.str x t)=true:=by simp[nv,Value.isStrOf]
theorem RF(a b:Int):decide ((adN a:Key)=adN b)=(a==b):=by
 by_cases e:a=b
 ·subst e;simp
 ·have h:¬(adN a:Key)=adN b:=fun q=>e (Sum.inl.inj q)
  rw[decide_eq_false h];exact(beq_eq_false_iff_ne.mpr e).symm
theorem RG(a b:Str):decide ((adO a:Key)=adO b)=decide (a=b):=by
 by_cases e:a=b
 ·subst e;simp
 ·have h:¬(adO a:Key)=adO b:=fun q=>e (Sum.inr.inj q)
  rw[decide_eq_false h,decide_eq_false e]
theorem RH(a:Int)(b:Str):decide ((adN a:Key)=adO b)=false:=decide_eq_false (fun q=>nomatch q)
theorem RJ(a:Str)(b:Int):decide ((adO a:Key)=adN b)=false:=decide_eq_false (fun q=>nomatch q)
noncomputable def cX(prog:aah)(w:World):PySem.KeyKind prog w Key where
 is:=nv
 hash:=xC w
 inj:=fun v a b ha hb=>by
  rcases ig ha with⟨i,t,rfl,rfl⟩ | ⟨x,t,rfl,rfl⟩
  ·rcases ig hb with⟨j,u,rfl,e⟩ | ⟨y,u,rfl,e⟩
   ·injection e with e1 _;rw[e1]
   ·exact nomatch e
  ·rcases ig hb with⟨j,u,rfl,e⟩ | ⟨y,u,rfl,e⟩
   ·exact nomatch e
   ·injection e with e1 _;rw[e1]
 byValue:=fun k v h=>by
  rcases ig h with⟨i,t,rfl,rfl⟩ | ⟨x,t,rfl,rfl⟩ <;> rfl
 pyHash:=fun hv h=>by
  rcases ig hv with⟨i,t,rfl,rfl⟩ | ⟨x,t,rfl,rfl⟩
  ·exact wpAny_pyHash_int h
  ·exact wpAny_pyHash_str h
 eqBool:=fun hu hv h=>by
  rcases ig hu with⟨i,t,rfl,rfl⟩ | ⟨x,t,rfl,rfl⟩
  ·rcases ig hv with⟨j,u,rfl,rfl⟩ | ⟨y,u,rfl,rfl⟩
   ·rw[RF] at h;exact wpAny_eqBool_int h
   ·rw[RH] at h;exact SeqAt.EqAt.int_str i t y u _ _ _ _ h
  ·rcases ig hv with⟨j,u,rfl,rfl⟩ | ⟨y,u,rfl,rfl⟩
   ·rw[RJ] at h;exact SeqAt.EqAt.str_int x t j u _ _ _ _ h
   ·rw[RG] at h;exact wpAny_eqBool_str h
 «strs»:=fun k x t v h=>by
  rcases ig h with⟨i,u,rfl,e⟩ | ⟨y,u,rfl,e⟩
  ·exact nomatch e
  ·injection e with e1 _
   subst e1;cases v <;> rfl
theorem MJ(prog:aah)(w:World)(i:Int)(t:Tok):(cX prog w).is (.inl i) (.int i t)=true:=NQ i t
theorem MK(prog:aah)(w:World)(x:Str)(t:Tok):(cX prog w).is (.inr x) (.str x t)=true:=NR x t
inductive V where
 | aG | bl (b:Bool) | int (i:Int) | str (x:Str) | ya (b:Array UInt8) | yb (b:UInt64) | ref (a:Addr) | ty (n:String)
 deriving DecidableEq
noncomputable def RelV:V->Value->Prop
 | .aG,u=>u=adP
 | .bl b,u=>u=Value.bool b
 | .int i,u=>∃t,u=Value.int i t
 | .str x,u=>∃t,u=Value.str x t
 | .ya b,u=>∃t,u=Value.bytes b t
 | .yb b,u=>∃t,u=Value.float b t
 | .ref a,u=>u=aaL a
 | .ty n,u=>u=Value.type n
abbrev Vals:List V->List Value->Prop:=abR RelV
theorem Vals.length{xs:List V}{us:List Value}(r:Vals xs us):xs.length=us.length:=acJ r
theorem Vals.get:∀{xs:List V} {us:List Value} {i:Nat} {x:V},Vals xs us->xs[i]? =some x->∃u,us[i]? =some u/\RelV x u
 | _,_,_,_,.nil,e=>by simp at e
 | _,_,0,_,.cons r _,e=>by simp at e;subst e;exact⟨_,rfl,r⟩
 | _,_,i+1,x,.cons _ t,e=>by
  obtain⟨u,h1,h2⟩:=Vals.get (i:=i) (x:=x) t (by simpa using e);exact⟨u,by simpa using h1,h2⟩
theorem Vals.set{x:V}{u:Value}(r:RelV x u):∀{xs:List V} {us:List Value} (i:Nat),Vals xs us->Vals (xs.set i x) (us.set i u)
 | _,_,_,.nil=>.nil
 | _,_,0,.cons _ t=>.cons r t
 | _,_,i+1,.cons q t=>.cons q (Vals.set r i t)
theorem Vals.append:∀{xs ys:List V} {us ws:List Value},Vals xs us->Vals ys ws->Vals (xs++ys) (us++ws)
 | _,_,_,_,.nil,s=>s
 | _,_,_,_,.cons r t,s=>.cons r (Vals.append t s)
theorem Vals.take:∀{xs:List V} {us:List Value} (n:Nat),Vals xs us->Vals (xs.take n) (us.take n)
 | _,_,0,_=>.nil
 | _,_,_+1,.nil=>.nil
 | _,_,n+1,.cons r t=>.cons r (Vals.take n t)
theorem Vals.drop:∀{xs:List V} {us:List Value} (n:Nat),Vals xs us->Vals (xs.drop n) (us.drop n)
 | _,_,0,r=>r
 | _,_,_+1,.nil=>.nil
 | _,_,n+1,.cons _ t=>Vals.drop n t
noncomputable def gr:Option V->Option Value->Prop
 | some v,some u=>RelV v u
 | none,none=>True
 | _,_=>False
noncomputable def KV{κ:Type}:List (κ×V)->List (κ×Value)->Prop:=abR fun(p:κ×V) (q:κ×Value)=>p.1=q.1/\RelV p.2 q.2
noncomputable def kV:Key->V
 | .inl i=>.int i
 | .inr x=>.str x
noncomputable def uA:V->Option Key
 | .int i=>some (.inl i)
 | .bl b=>some (.inl (if b then 1 else 0))
 | .str x=>some (.inr x)
 | _=>none
noncomputable def Fz:List V->Option (List Key)
 | []=>some []
 | v::vs=>match uA v,Fz vs with
  | some k,some ks=>some (k::ks)
  | _,_=>none
inductive HO where
  | lst (xs:List V)
  | tup (xs:List V)
  | dK (kvs:List (Key×V)) | dT (kvs:List (List Key×V))
  | dU (kvs:List (V×V))
  | set (S:Int->Bool) (n:Nat)
  | ins (C dx:Addr) (fs:List (Str×V))
  | own (x:Addr)
  | xd (fs:List (Str×V))
  | met (f x:Addr)
  | yc (lo hi:Int)
  | aO (o:Obj) (u:HO)
  | cx (ps:Array Value)
  | ext (φ:Heap->Prop)
abbrev Hp:=Addr->Option HO
noncomputable def upd(H:Hp)(a:Addr)(o:HO):Hp:=fun b=>if b=a then some o else H b
variable{H:Hp}{a:Addr}{o:HO}
theorem bp:upd H a o a=some o:=by unfold upd;rw[if_pos rfl]
variable{b:Addr}
theorem aM(h:b≠a):upd H a o b=H b:=by unfold upd;rw[if_neg h]
variable{u:HO}
theorem pg:upd (upd H a o) a u=upd H a u:=by
 funext b;unfold upd;split <;> rfl
theorem gk(h:H a=some o)(h':H b=some u)(d:o≠u):a≠b:=by
 intro e;subst e;rw[h] at h';exact d (ZX h')
theorem bN(h:H a=some o)(h':H b=none):a≠b:=by
 intro e;subst e;rw[h] at h';cases h'
section
variable(P:aah)(w:World)
noncomputable def de(H:Hp)(h:Heap)(a:Addr):HO->Prop
 | .lst xs=>xs.length<=Zt/\∃(its:List Value) (n:Nat),Vals xs its/\h.get? a=some { cls:=.type "list",data:=.seq its.toArray n }
 | .tup xs=>xs.length<=Zt/\∃its:List Value,Vals xs its/\IsTup h a its.toArray
 | .dK kvs=>kvs.length<=Zt/\(a==aaW)=false/\∃vs,KV kvs vs/\h.DictOf (cX P w) a vs
 | .dT kvs=>kvs.length<=Zt/\(a==aaW)=false/\∃xs:List (List Key×Addr×Value),
   abR (fun(p:List Key×V) (q:List Key×Addr×Value)=>p.1=q.1/\H q.2.1=some (.tup (p.1.map kV))/\RelV p.2 q.2.2) kvs xs /\
   ∃o es ep,h.get? a=some o/\o.ExactDict/\o.data=.dict es ep/\es.toList=xs.map (entryOfKey (acz (cX P w)))/\(xs.map (·.1)).Nodup
 | .dU kvs=>kvs.length<=Zt/\(a==aaW)=false/\∃o es ep,h.get? a=some o/\o.ExactDict/\o.data=.dict es ep/\abR (fun(p:V×V) (e:DictEntry)=>RelV p.1 e.key/\RelV p.2 e.val /\
   ((∃k,uA p.1=some k/\e.hash=xC w k)\/∃b ts ks,p.1=.ref b/\H b=some (.tup ts)/\Fz ts=some ks/\e.hash=tupleKeyHash (cX P w) ks)) kvs es.toList
 | .set S n=>h.SetOf (intKind P w) a S n
 | .ins C dx fs=>H dx=some (.own a)/\fs.length<=1000/\dx≠a/\h.get? a=some (PySem.W.instObj C dx) /\
   ∃mA,h.Ns1 dx mA/\(∀f,gr (fs.lookup f) (mA f))/\PySem.Within mA (fs.map (·.1))
 | .own _=>∃o,h.get? a=some o
 | .xd fs=>∃mA,h.Ns1 a mA/\∀f,gr (fs.lookup f) (mA f)
 | .yc lo hi=>∃t u v,h.get? a=some { cls:=.type "range",data:=.fields #[.int lo t,.int hi u,.int 1 v] }
 | .aO o u=>h.get? a=some o/\de H h a u
 | .cx ps=>h.get? a=some { cls:=.none,data:=.fields ps }
 | .met f x=>h.get? a=some (acA (.ref f) (.ref x))
 | .ext φ=>φ h/\(∃o,h.get? a=some o)/\∀h1 h2:Heap,φ h1->(∀o,h1.get? a=some o->h2.get? a=some o)->φ h2
noncomputable def bQ(H:Hp)(h:Heap):Prop:=∀a o,H a=some o->de P w H h a o
end
section
variable{P:aah}{w:World}{H H':Hp}{h h':Heap}{a:Addr}{o:HO}
theorem de.lt(x:de P w H h a o):a<h.objs.size:=by
 cases o with
 | lst xs=>obtain⟨_,_,_,_,e⟩:=x;exact Zl e
 | tup xs=>obtain⟨_,_,_,p⟩:=x;exact p.lt
 | dK kvs=>obtain⟨_,_,_,_,o,_,_,e,_⟩:=x;exact Zl e
 | dT kvs=>obtain⟨_,_,_,_,o,_,_,e,_⟩:=x;exact Zl e
 | dU kvs=>obtain⟨_,_,o,_,_,e,_⟩:=x;exact Zl e
 | set S n=>obtain⟨o,_,_,_,e,_⟩:=x;exact Zl e
 | ins C dx fs=>obtain⟨_,_,_,e,_⟩:=x;exact Zl e
 | own y=>obtain⟨_,e⟩:=x;exact Zl e
 | xd fs=>obtain⟨_,⟨_,_,_,e,_⟩,_⟩:=x;exact Zl e
 | yc lo hi=>obtain⟨_,_,_,e⟩:=x;exact Zl e
 | aO ob u=>obtain⟨e,_⟩:=x;exact Zl e
 | cx ps=>exact Zl (show h.get? a=some _ from x)
 | met f y=>exact Zl (show h.get? a=some _ from x)
 | ext φ=>obtain⟨_,⟨_,e⟩,_⟩:=x;exact Zl e
theorem abR.j9{α β:Type}{F G:α->β->Prop}:∀{GH:List α} {GI:List β},abR F GH GI->(∀a b,F a b->G a b)->abR G GH GI
 | _,_,.nil,_=>.nil
 | _,_,.cons r t,f=>.cons (f _ _ r) (abR.j9 t f)
theorem de.gu(x:de P w H h a o)(k:∀b u,(b=a\/H b=some (.own a))->h.get? b=some u->h'.get? b=some u)
  (ho:∀b,H b=some (.own a)->H' b=some (.own a)) (ht:∀b xs,H b=some (.tup xs)->H' b=some (.tup xs)):de P w H' h' a o:=by
 induction o with
 | lst xs=>obtain⟨z,its,n,r,e⟩:=x;exact⟨z,its,n,r,k _ _ (.inl rfl) e⟩
 | tup xs=>obtain⟨z,its,r,ob,e,c⟩:=x;exact⟨z,its,r,ob,k _ _ (.inl rfl) e,c⟩
 | dK kvs=>obtain⟨z,y,vs,r,ob,es,ep,e,c⟩:=x;exact⟨z,y,vs,r,ob,es,ep,k _ _ (.inl rfl) e,c⟩
 | dT kvs=>
  obtain⟨z,y,xs,r,ob,es,ep,e,c⟩:=x;exact⟨z,y,xs,abR.j9 r fun p q z=>⟨z.1,ht _ _ z.2.1,z.2.2⟩,ob,es,ep,k _ _ (.inl rfl) e,c⟩
 | dU kvs=>
  obtain⟨z,y,ob,es,ep,e,c1,c2,r⟩:=x;exact⟨z,y,ob,es,ep,k _ _ (.inl rfl) e,c1,c2,abR.j9 r fun p q z=>⟨z.1,z.2.1,z.2.2.imp_right fun⟨b,ts,ks,h1,h2,h3⟩=>⟨b,ts,ks,h1,ht _ _ h2,h3⟩⟩⟩
 | set S n=>obtain⟨ob,es,ep,t,e,c⟩:=x;exact⟨ob,es,ep,t,k _ _ (.inl rfl) e,c⟩
 | ins C dx fs=>
  obtain⟨d,z,ne,e,mA,⟨od,es,ep,e2,c⟩,r⟩:=x;exact⟨ho _ d,z,ne,k _ _ (.inl rfl) e,mA,⟨od,es,ep,k _ _ (.inr d) e2,c⟩,r⟩
 | own y=>obtain⟨ob,e⟩:=x;exact⟨ob,k _ _ (.inl rfl) e⟩
 | xd fs=>obtain⟨mA,⟨od,es,ep,e,c⟩,r⟩:=x;exact⟨mA,⟨od,es,ep,k _ _ (.inl rfl) e,c⟩,r⟩
 | yc lo hi=>obtain⟨t,u,v,e⟩:=x;exact⟨t,u,v,k _ _ (.inl rfl) e⟩
 | aO ob u ih=>obtain⟨e,q⟩:=x;exact⟨k _ _ (.inl rfl) e,ih q⟩
 | cx ps=>
  have e:h.get? a=some { cls:=.none,data:=.fields ps }:=x;show h'.get? a=some { cls:=.none,data:=.fields ps };exact k a _ (.inl rfl) e
 | met f y=>
  have e:h.get? a=some (acA (.ref f) (.ref y)):=x;show h'.get? a=some (acA (.ref f) (.ref y));exact k a _ (.inl rfl) e
 | ext φ=>obtain⟨p,⟨o,e⟩,st⟩:=x;exact⟨st _ _ p fun o q=>k _ _ (.inl rfl) q,⟨o,k _ _ (.inl rfl) e⟩,st⟩
theorem bQ.lt(x:bQ P w H h)(e:H a=some o):a<h.objs.size:=(x a o e).lt
theorem bQ.fresh(x:bQ P w H h)(e:h.objs.size<=a):H a=none:=by
 cases q:H a with
 | none=>rfl
 | some u=>exact absurd (Zg (x.lt q) e) (aaG _)
theorem bQ.kept(x:bQ P w H h)(k:∀b u,h.get? b=some u->h'.get? b=some u):bQ P w H h':=fun a o e=>
 (x a o e).gu (fun b u _ q=>k b u q) (fun _ q=>q) fun _ _ q=>q
theorem bQ.laid(x:bQ P w H h)(k:∀b u,h.get? b=some u->h'.get? b=some u)(hp:h.objs.size<=a)(new:de P w (upd H a o) h' a o):bQ P w (upd H a o) h':=fun b u e=>by
 have hn:=x.fresh hp;by_cases hb:b=a
 ·subst hb;rw[bp] at e;cases e;exact new
 ·rw[aM hb] at e;exact(x b u e).gu (fun c v _ q=>k c v q) (fun c q=>by rw[aM (bN q hn)];exact q) fun c xs q=>by rw[aM (bN q hn)];exact q
end
noncomputable def Rd(H:Hp)(a:Addr)(u:HO):Prop:=H a=some u\/∃o,H a=some (.aO o u)
variable{P:aah}{h:Heap}
theorem Rd.ok{w:World}(r:Rd H a u)(x:bQ P w H h):de P w H h a u:=by
 rcases r with r | ⟨o,r⟩
 ·exact x a u r
 ·obtain⟨_,q⟩:=x a _ r;exact q
noncomputable def jm:Option HO->Prop
 | some (.lst _)=>True
 | some (.dK _)=>True
 | some (.dT _)=>True
 | some (.dU _)=>True
 | some (.set _ _)=>True
 | some (.ins _ _ _)=>True
 | some (.ext _)=>True
 | _=>False
section
variable{P:aah}{w:World}{H:Hp}{h h':Heap}{x e:Addr}{o':HO}
theorem bQ.write(ok:bQ P w H h)(mu:jm (H x))(he:e=x\/H e=some (.own x))(k:∀b u,b≠e->h.get? b=some u->h'.get? b=some u)(n8:∃u,h'.get? e=some u)
  (new:de P w (upd H x o') h' x o'):bQ P w (upd H x o') h':=fun b u q=>by
 have EK:∀c y,H c=some (.own y)->c≠x:=fun c y r z=>by subst z;rw[r] at mu;exact mu
 have Vk:∀c xs,H c=some (.tup xs)->c≠x:=fun c xs r z=>by subst z;rw[r] at mu;exact mu
 by_cases hb:b=x
 ·subst hb;rw[bp] at q;cases q;exact new
 ·rw[aM hb] at q;by_cases lY:b=e
  ·have q':H b=some (.own x):=by
    rcases he with z | z
    ·exact absurd (lY.trans z) hb
    ·rw[lY];exact z
   rw[q] at q';cases q';obtain⟨v,hv⟩:=n8;exact⟨v,by rw[lY];exact hv⟩
  ·refine(ok b u q).gu (fun c v hc r=>k c v ?_ r) (fun c r=>by rw[aM (EK c b r)];exact r) fun c xs r=>by rw[aM (Vk c xs r)];exact r
   rcases hc with rfl | hc
   ·exact lY
   ·rintro rfl
    rcases he with z | z
    ·exact EK c b hc z
    ·rw[hc] at z;cases z;exact hb rfl
end
structure Un(fs ex:List Addr)(H H':Hp)(h h':Heap):Prop where
 keep:∀b o,h.get? b=some o->H b=none->b∉fs->b∉ex->h'.get? b=some o
 slot:∀b o,h.get? b=some o->H b=none->b∈fs->b∉ex->∃sl,h'.get? b=some { o with slots:=sl }
 free:∀b o,h.get? b=some o->H b=none->b∉ex->H' b=none
 there:∀b o,h.get? b=some o->b∉ex->∃o',h'.get? b=some o'
 ed:∀b xs,H b=some (.tup xs)->H' b=some (.tup xs)
 dz:∀b o u,H b=some (.aO o u)->H' b=some (.aO o u)
 ee:∀b ps,H b=some (.cx ps)->∃more,H' b=some (.cx (ps++more))
section
variable{fs YI ex YJ:List Addr}{H H1 H2:Hp}{h h1 h2 h':Heap}{a x e:Addr}{o:HO}
theorem Un.any(u:Un fs ex H H1 h h1){b:Addr}{ob:Obj}(q:h.get? b=some ob)(n:H b=none)(hx:b∉ex):∃sl,h1.get? b=some { ob with slots:=sl }:=by
 by_cases hb:b∈fs
 ·exact u.slot b ob q n hb hx
 ·exact⟨ob.slots,u.keep b ob q n hb hx⟩
theorem Un.kept(k:∀b u,h.get? b=some u->h'.get? b=some u):Un fs ex H H h h':=
 ⟨fun b ob q _ _ _=>k b ob q,fun b ob q _ _ _=>⟨ob.slots,k b ob q⟩,fun _ _ _ n _=>n,fun b ob q _=>⟨ob,k b ob q⟩,fun _ _ q=>q,fun _ _ _ q=>q,fun _ ps q=>⟨#[],by rw[q];simp⟩⟩
theorem Un.refl:Un fs ex H H h h:=Un.kept fun _ _ q=>q
theorem Un.laid(k:∀b u,h.get? b=some u->h'.get? b=some u)(hp:h.objs.size<=a)(hn:H a=none):Un fs ex H (upd H a o) h h' where
 keep:=fun b u q _ _ _=>k b u q
 slot:=fun b u q _ _ _=>⟨u.slots,k b u q⟩
 free:=fun b u q n _=>by rw[aM (ZE (Zg (Zl q) hp))];exact n
 there:=fun b u q _=>⟨u,k b u q⟩
 ed:=fun b xs q=>by rw[aM (bN q hn)];exact q
 dz:=fun b u xs q=>by rw[aM (bN q hn)];exact q
 ee:=fun b ps q=>⟨#[],by rw[aM (bN q hn),q];simp⟩
theorem Un.write(mu:jm (H x))(he:e=x\/H e=some (.own x))(k:∀b u,b≠e->h.get? b=some u->h'.get? b=some u)(n8:∃u,h'.get? e=some u):Un fs ex H (upd H x o) h h':=by
 have hx:∀b,H b=none->b≠x:=fun b n z=>by subst z;rw[n] at mu;exact mu
 have hb:∀b,H b=none->b≠e:=fun b n z=>by
  subst z
  rcases he with r | r
  ·exact hx b n r
  ·rw[n] at r;cases r
 have hm:∀b u,H b=some u->¬jm (some u)->b≠x:=fun b u q nm z=>by subst z;rw[q] at mu;exact nm mu
 refine⟨fun b u q n _ _=>k b u (hb b n) q,fun b u q n _ _=>⟨u.slots,k b u (hb b n) q⟩,fun b u q n _=>by rw[aM (hx b n)];exact n,fun b u q _=>?_,
  fun b xs q=>by rw[aM (hm b _ q fun z=>z)];exact q,fun b u xs q=>by rw[aM (hm b _ q fun z=>z)];exact q,fun b ps q=>⟨#[],by rw[aM (hm b _ q fun z=>z),q];simp⟩⟩
 by_cases lY:b=e
 ·subst lY;exact n8
 ·exact⟨u,k b u lY q⟩
end
noncomputable def t4(h:Heap)(H:Hp):List Addr:=(ZS h.objs.size).filter fun a=>(H a).isSome
noncomputable def jd(h:Heap)(H:Hp):Heap:=adb h (t4 h H)
theorem NS(h:Heap)(H:Hp):(jd h H).objs.size=h.objs.size:=PySem.W.hideAll_size _ _
theorem O1{o:Obj}(e:h.get? b=some o)(n:H b=none):(jd h H).get? b=some o:=
 abC _ e fun hm=>by
  have q:(H b).isSome=true:=(aar.mp hm).2;rw[n] at q;simp at q
theorem Qb{o:Obj}(e:(jd h H).get? b=some o):h.get? b=some o/\H b=none:=by
 have e':h.get? b=some o:=adH (t4 h H) e;refine⟨e',?_⟩;cases q:H b with
 | none=>rfl
 | some x=>
  have hm:b∈t4 h H:=aar.mpr ⟨aaq.mpr (Zl e'),by simp[q]⟩;have z:(jd h H).get? b=none:=PySem.W.hideAll_none (t4 h H) hm;rw[z] at e;cases e
noncomputable def Qc(g h:Heap)(L:Addr):List (Addr×Obj):=(ZS h.objs.size).filterMap fun a=>if a=L\/(g.get? a).isSome=true then none else(h.get? a).map fun o=>(a,o)
noncomputable def rest(g h:Heap)(L d:Addr):List (Addr×Obj):=(Qc g h L).filter fun p=>decide (p.1≠d)
structure Mod(K:Zc)(mg:Str->Option Value)(base:Heap):Prop where
 n9:K.In base
 glob:base.Ns Zo mg
 blt:∃mb,base.Ns ace mb/\∀x:Str,x≠"__name__"->mb x=aaz x
 nolimit:base.NoLimit
 bm:∃bm ob,mg "__builtins__"=some (.ref bm)/\bm≠ace/\base.get? bm=some ob/\ob.cls=.type "module"/\ob.dict=some ace/\ob.data=.plain
structure Cx where
 prog:aah
 w:World
 K:Zc
 mg:Str->Option Value
 base:Heap
 A:abd
 N:List Str
 aA:Zh
 aL:Hp
 env:Env
 outer:List Env
 stack:List Env
 ex:List Addr
 fn:Str->Bool
 calm:Bool
 pn:List (Addr×Obj)
 xe:Value->Zh->Prop
noncomputable def dk(l:List Env):List Addr:=l.filterMap (·.frame)
abbrev Cx.fs(X:Cx):List Addr:=dk X.outer
noncomputable def az(sc:Scope)(x:Str):Prop:=sc.names.lookup x=some .local\/sc.names.lookup x=some .cell\/sc.names.lookup x=some .free
noncomputable def Loc(sc:Scope)(x:Str):Prop:=sc.names.lookup x=some .local\/sc.names.lookup x=some .cell
noncomputable def Look(env:Env)(h:Heap)(m:Str->Option Value)(x:Str)(u:Value):Prop:=
 (env.kindOf x=some .local/\m x=some u)\/((env.kindOf x=some .cell\/env.kindOf x=some .free)/\∃c,env.cells.lookup x=some c/\h.IsCell c (some u))
structure Cx.Ok(X:Cx):Prop where
 mod:Mod X.K X.mg X.base
 kind:X.env.scope.kind=.function
 glob:X.env.globals=Zo
 blt:X.env.builtins=ace
 above:X.aA.heap.objs.size<=X.env.locals
 inj:∀x y c,X.env.cells.lookup x=some c->X.env.cells.lookup y=some c->x=y
 has:∀x,(X.env.kindOf x=some .cell\/X.env.kindOf x=some .free)->∃c,X.env.cells.lookup x=some c
 oa:∀x c,X.fn x=true->X.env.cells.lookup x=some c->X.aA.heap.objs.size<=c
 hd:X.calm=true->X.A.handled=none
 frames:X.A.frames=some X.stack
 qd:X.stack=X.outer\/(X.stack=X.env::X.outer/\X.env.frame=some X.env.locals)
 yd:∀b∈X.ex,b≠X.env.locals/\∀x c,X.env.cells.lookup x=some c->c≠b
 bs:∀b o,X.base.get? b=some o->X.aA.heap.get? b=some o/\X.aL b=none
 iF:X.base.objs.size<=X.aA.heap.objs.size
 nH:∀b o,X.base.get? b=some o->b∉X.ex
 nI:∀b∈X.ex,b∉X.fs
 eF:X.aA.heap.FunFrames X.base X.outer
 kq:∀b∈X.fs,X.aL b=none
structure Inv(X:Cx)(pins:List (Addr×Obj))(σ:List (Option V))(H:Hp)(s:Zh):Prop where
 ok:X.Ok
 os:s.os=X.aA.os
 bare:acK s.gens
 base:Un X.fs X.ex X.aL H X.aA.heap s.heap
 loc:∃m,s.heap.Ns X.env.locals m/\∀(i:Nat) (x:Str) (v:V),X.N[i]? =some x->σ[i]? =some (some v)->az X.env.scope x->∃u,RelV v u/\Look X.env s.heap m x u
 cell:∀x c,X.env.cells.lookup x=some c->∃v,s.heap.IsCell c v
 free:H X.env.locals=none
 fP:∀x c,X.env.cells.lookup x=some c->(X.fn x=true->H c=none)/\(H c=none\/∃o,H c=some (.aO o (.ext fun _=>True)))
 pin:∀p∈X.pn++pins,s.heap.get? p.1=some p.2/\H p.1=none/\p.1≠X.env.locals/\p.1∉X.fs/\∀v,p.2.data≠.cell v
 ay:bQ X.prog X.w H s.heap
 len:σ.length=X.N.length
section
variable{X:Cx}{pins:List (Addr×Obj)}{σ:List (Option V)}{H H':Hp}{s:Zh}{h':Heap}
theorem Cx.Ok.Vl(ok:X.Ok){b:Addr}{o:Obj}(e:X.base.get? b=some o):b∉X.fs:=fun hb=>by
 have:=(ok.eF.mem hb).1;rw[e] at this;cases this
theorem Inv.bs(I:Inv X pins σ H s):∀b o,X.base.get? b=some o->s.heap.get? b=some o/\H b=none:=fun b o e=>
 ⟨I.base.keep b o (I.ok.bs b o e).1 (I.ok.bs b o e).2 (I.ok.Vl e) (I.ok.nH b o e),I.base.free b o (I.ok.bs b o e).1 (I.ok.bs b o e).2 (I.ok.nH b o e)⟩
theorem Inv.bk(I:Inv X pins σ H s):∀b o,X.base.get? b=some o->s.heap.get? b=some o:=fun b o e=>(I.bs b o e).1
theorem Inv.mod(I:Inv X pins σ H s):Mod X.K X.mg X.base:=I.ok.mod
theorem Inv.jn(I:Inv X pins σ H s):X.K.In s.heap:=I.ok.mod.n9.keeps I.bk
theorem Inv.nolimit(I:Inv X pins σ H s):s.heap.NoLimit:=I.ok.mod.nolimit.keeps I.bk
theorem Inv.lt(I:Inv X pins σ H s):X.env.locals<s.heap.objs.size:=let ⟨_,hn,_⟩:=I.loc;hn.lt
theorem Inv.sz(I:Inv X pins σ H s):X.aA.heap.objs.size<=s.heap.objs.size:=Zq I.ok.above (abG I.lt)
theorem Inv.Vm(I:Inv X pins σ H s){a:Addr}(h:s.heap.objs.size<=a):a∉X.fs:=fun hb=>by
 obtain⟨_,o,ho,_⟩:=I.ok.eF.mem hb;exact absurd (Zg (Zl ho) (Zq I.sz h)) (aaG _)
theorem Inv.jo(I:Inv X pins σ H s):∀x c,X.env.cells.lookup x=some c->c≠X.env.locals:=fun x c e z=>by
 obtain⟨v,o,ho,hd⟩:=I.cell x c e;obtain⟨m,⟨o',es,ep,eK,jp,_⟩,_⟩:=I.loc;rw[z,eK] at ho;cases ho;rw[jp] at hd;cases hd
theorem Inv.eF(I:Inv X pins σ H s):s.heap.FunFrames X.base X.outer:=by
 have all:∀(l:List Env),(∀b∈dk l,b∈X.fs)->X.aA.heap.FunFrames X.base l->s.heap.FunFrames X.base l:=by
  intro l
  induction l with
  | nil=>intro _ _;trivial
  | cons env r ih=>
   intro hs hl;obtain⟨hk,⟨L,o,hf,hn,ho,hd⟩,hr⟩:=hl;have hL:L∈X.fs:=hs L (by unfold dk;rw[abD,hf];exact aaj);obtain⟨sl,e⟩:=I.base.slot L o ho (I.ok.kq L hL) hL fun z=>I.ok.nI L z hL
   exact⟨hk,⟨L,_,hf,hn,e,hd⟩,ih (fun b hb=>hs b (by unfold dk;rw[abD,hf];exact ZD _ hb)) hr⟩
 exact all X.outer (fun _ hb=>hb) I.ok.eF
theorem Inv.stack(I:Inv X pins σ H s):s.heap.FunFrames X.base X.stack:=by
 rcases I.ok.qd with e | ⟨e,hf⟩
 ·rw[e];exact I.eF
 ·rw[e];obtain⟨m,hn,_⟩:=I.loc;refine .cons (by rw[I.ok.kind];decide) hf hn ?_ I.eF;exact adw (Zq I.ok.iF I.ok.above)
theorem Inv.pB(I:Inv X pins σ H s):∀b∈dk X.stack,b∈X.env.locals::X.fs:=fun b hb=>by
 rcases I.ok.qd with e | ⟨e,hf⟩
 ·rw[e] at hb;exact ZD _ hb
 ·rw[e] at hb;unfold dk at hb;rw[abD,hf] at hb;exact hb
theorem Inv.sM(I:Inv X pins σ H s):∀b∈dk X.stack,H b=none:=fun b hb=>by
 rcases ZK.mp (I.pB b hb) with e | hb
 ·rw[e];exact I.free
 ·obtain⟨_,o,ho,_⟩:=I.ok.eF.mem hb;exact I.base.free b o ho (I.ok.kq b hb) fun z=>I.ok.nI b z hb
variable{t':Nat}{ch:List Addr}
theorem Inv.step{g':Array GenState}{d':Drawn}(I:Inv X pins σ H s)
  (iG:∀b∈ch,(b∈X.ex\/X.aA.heap.objs.size<=b)/\b≠X.env.locals/\(∀x c,X.env.cells.lookup x=some c->c≠b)/\∀p∈X.pn++pins,p.1≠b)
  (keep:∀b o,b≠X.env.locals->b∉X.fs->b∉ch->s.heap.get? b=some o->H b=none->h'.get? b=some o)
  (slot:∀b o,b≠X.env.locals->b∈X.fs->b∉ch->s.heap.get? b=some o->H b=none->∃sl,h'.get? b=some { o with slots:=sl }) (free:∀b o,b∉ch->s.heap.get? b=some o->H b=none->H' b=none)
  (there:∀b o,b∉ch->s.heap.get? b=some o->∃o',h'.get? b=some o')
  (ed:∀b xs,H b=some (.tup xs)->H' b=some (.tup xs)) (dz:∀b o u,H b=some (.aO o u)->H' b=some (.aO o u)) (ee:∀b ps,H b=some (.cx ps)->∃more,H' b=some (.cx (ps++more)))
  (ns:∀m,s.heap.Ns X.env.locals m->h'.Ns X.env.locals m) (ay:bQ X.prog X.w H' h') (hg:acK g') :
  Inv X pins σ H' { s with heap:=h',gens:=g',drawn:=d',toks:=t' }:=by
 have qe:∀b o,X.aA.heap.get? b=some o->b≠X.env.locals:=fun b o e=>ZE (Zg (Zl e) I.ok.above)
 have lZ:∀b o,X.aA.heap.get? b=some o->b∉X.ex->b∉ch:=fun b o e hx hb=>by
  rcases(iG b hb).1 with z | z
  ·exact hx z
  ·exact absurd (Zg (Zl e) z) (aaG _)
 have cellK:∀x c,X.env.cells.lookup x=some c->∀v,s.heap.IsCell c v->h'.IsCell c v:=fun x c e v ⟨o,ho,hd⟩=>by
  have kr:c∉ch:=fun z=>(iG c z).2.2.1 x c e rfl
  rcases(I.fP x c e).2 with fr | ⟨ob,fr⟩
  ·by_cases hc:c∈X.fs
   ·obtain⟨sl,q⟩:=slot c o (I.jo x c e) hc kr ho fr;exact⟨_,q,hd⟩
   ·exact⟨o,keep c o (I.jo x c e) hc kr ho fr,hd⟩
  ·have e1:s.heap.get? c=some ob:=(I.ay c _ fr).1;have e2:h'.get? c=some ob:=(ay c _ (dz c _ _ fr)).1;rw[ho] at e1;cases e1;exact⟨o,e2,hd⟩
 refine⟨I.ok,I.os,hg,⟨fun b o e n hb hx=>?_,fun b o e n hb hx=>?_,fun b o e n hx=>?_,fun b o e hx=>?_,fun b xs e=>ed b xs (I.base.ed b xs e),fun b o xs e=>dz b o xs (I.base.dz b o xs e),fun b ps e=>?_⟩,?_,fun x c e=>?_,?_,fun x c e=>?_,fun p hp=>?_,ay,I.len⟩
 ·exact keep b o (qe b o e) hb (lZ b o e hx) (I.base.keep b o e n hb hx) (I.base.free b o e n hx)
 ·obtain⟨sl,e1⟩:=I.base.slot b o e n hb hx;obtain⟨Wa,e2⟩:=slot b _ (qe b o e) hb (lZ b o e hx) e1 (I.base.free b o e n hx);exact⟨Wa,e2⟩
 ·obtain⟨o',e1⟩:=I.base.there b o e hx;exact free b o' (lZ b o e hx) e1 (I.base.free b o e n hx)
 ·obtain⟨o',e1⟩:=I.base.there b o e hx;exact there b o' (lZ b o e hx) e1
 ·obtain⟨m1,e1⟩:=I.base.ee b ps e;obtain⟨m2,e2⟩:=ee b _ e1;exact⟨m1++m2,by rw[e2,acq]⟩
 ·obtain⟨m,hn,hl⟩:=I.loc;refine⟨m,ns m hn,fun i x v e1 e2 e3=>?_⟩;obtain⟨u,r,l⟩:=hl i x v e1 e2 e3;refine⟨u,r,?_⟩
  rcases l with l | ⟨k,c,e,z⟩
  ·exact .inl l
  ·exact .inr ⟨k,c,e,cellK x c e _ z⟩
 ·obtain⟨v,z⟩:=I.cell x c e;exact⟨v,cellK x c e v z⟩
 ·obtain⟨m,⟨o,_,_,ho,_⟩,_⟩:=I.loc;exact free _ o (fun z=>(iG _ z).2.1 rfl) ho I.free
 ·obtain⟨v,o,ho,hd⟩:=I.cell x c e;have kr:c∉ch:=fun z=>(iG c z).2.2.1 x c e rfl
  exact⟨fun hf=>free c o kr ho ((I.fP x c e).1 hf),(I.fP x c e).2.imp (fun fr=>free c o kr ho fr) fun⟨ob,fr⟩=>⟨ob,dz c _ _ fr⟩⟩
 ·obtain⟨e,n,ne,nf,d⟩:=I.pin p hp;have kr:p.1∉ch:=fun z=>(iG p.1 z).2.2.2 p hp rfl
  exact⟨keep p.1 p.2 ne nf kr e n,free p.1 p.2 kr e n,ne,nf,d⟩
theorem Inv.un(I:Inv X pins σ H s)(u:Un X.fs [] H H' s.heap h')(ay:bQ X.prog X.w H' h'):Inv X pins σ H' { s with heap:=h',toks:=t' }:=by
 obtain⟨m,⟨o,es,ep,ho,r⟩,_⟩:=id I.loc;obtain⟨sl,hL⟩:=u.any ho I.free (by simp);exact I.step (g':=s.gens) (d':=s.drawn) (ch:=[]) (fun _ z=>nomatch z) (fun b o _ hb _ e n=>u.keep b o e n hb (by simp)) (fun b o _ hb _ e n=>u.slot b o e n hb (by simp)) (fun b o _ e n=>u.free b o e n (by simp)) (fun b o _ e=>u.there b o e (by simp)) u.ed u.dz u.ee (fun m' hm=>by
  obtain⟨o',ye,yf,eK,r'⟩:=hm;rw[ho] at eK;cases eK;exact⟨_,ye,yf,hL,r'⟩) ay I.bare
theorem Inv.call{g':Array GenState}{d':Drawn}(I:Inv X pins σ H s)(u:Un (dk X.stack) ch H H' s.heap h')(ay:bQ X.prog X.w H' h')(hg:acK g')
  (iG:∀b∈ch,(b∈X.ex\/X.aA.heap.objs.size<=b)/\b≠X.env.locals/\(∀x c,X.env.cells.lookup x=some c->c≠b)/\∀p∈X.pn++pins,p.1≠b) :
  Inv X pins σ H' { s with heap:=h',gens:=g',drawn:=d',toks:=t' }:=by
 obtain⟨m,⟨o,es,ep,ho,r⟩,_⟩:=id I.loc;obtain⟨sl,hL⟩:=u.any ho I.free fun z=>(iG _ z).2.1 rfl
 exact I.step (ch:=ch) iG (fun b o hL hb hc e n=>u.keep b o e n (fun z=>(ZK.mp (I.pB b z)).elim hL hb) hc) (fun b o _ _ hc e n=>u.any e n hc) (fun b o hc e n=>u.free b o e n hc) (fun b o hc e=>u.there b o e hc) u.ed u.dz u.ee (fun m' hm=>by
  obtain⟨o',ye,yf,eK,r'⟩:=hm;rw[ho] at eK;cases eK;exact⟨_,ye,yf,hL,r'⟩) ay hg
theorem Inv.turned{it:Addr}(I:Inv X pins σ H s)(k:∀b o,b≠it->s.heap.get? b=some o->h'.get? b=some o)(hn:H it=none)(hL:it≠X.env.locals)
  (h1:it∈X.ex\/X.aA.heap.objs.size<=it) (h2:∀x c,X.env.cells.lookup x=some c->c≠it) (h3:∀p∈X.pn++pins,p.1≠it):Inv X pins σ H { s with heap:=h',toks:=t' }:=by
 have ku:∀b u,H b=some u->b≠it:=fun b u e z=>by rw[z,hn] at e;cases e
 refine I.step (g':=s.gens) (d':=s.drawn) (ch:=[it]) (fun b hb=>?_) (fun b o _ _ hc e _=>k b o (fun z=>hc (by simp[z])) e) (fun b o _ _ hc e _=>⟨o.slots,k b o (fun z=>hc (by simp[z])) e⟩) (fun _ _ _ _ n=>n)
  (fun b o hc e=>⟨o,k b o (fun z=>hc (by simp[z])) e⟩) (fun _ _ e=>e) (fun _ _ _ e=>e) (fun b ps e=>⟨#[],by rw[e];simp⟩) (fun m hm=>?_) (fun b u e=>?_) I.bare
 ·have e:b=it:=by simpa using hb
  subst e;exact⟨h1,hL,h2,h3⟩
 ·obtain⟨o,es,ep,ho,r⟩:=hm;exact⟨o,es,ep,k _ o (abg hL) ho,r⟩
 ·refine(I.ay b u e).gu (fun c v hc q=>k c v ?_ q) (fun _ q=>q) fun _ _ q=>q
  rcases hc with z | z
  ·rw[z];exact ku b u e
  ·exact ku c _ z
theorem Inv.tok(I:Inv X pins σ H s)(t:Nat):Inv X pins σ H { s with toks:=t }:=I.un (h':=s.heap) (t':=t) Un.refl I.ay
theorem Inv.kept{t':Nat}(I:Inv X pins σ H s)(k:∀b u,s.heap.get? b=some u->h'.get? b=some u):Inv X pins σ H { s with heap:=h',toks:=t' }:=I.un (Un.kept k) (I.ay.kept k)
theorem Inv.laid{a:Addr}{o:HO}{t':Nat}(I:Inv X pins σ H s)(k:∀b u,s.heap.get? b=some u->h'.get? b=some u)(hp:s.heap.objs.size<=a)(new:de X.prog X.w (upd H a o) h' a o) :
  Inv X pins σ (upd H a o) { s with heap:=h',toks:=t' }:=I.un (Un.laid k hp (I.ay.fresh hp)) (I.ay.laid k hp new)
theorem Inv.write{x e:Addr}{o:HO}{t':Nat}(I:Inv X pins σ H s)(mu:jm (H x))(he:e=x\/H e=some (.own x))(k:∀b u,b≠e->s.heap.get? b=some u->h'.get? b=some u)(n8:∃u,h'.get? e=some u)
  (new:de X.prog X.w (upd H x o) h' x o):Inv X pins σ (upd H x o) { s with heap:=h',toks:=t' }:=I.un (Un.write mu he k n8) (I.ay.write mu he k n8 new)
theorem Inv.BZ{DP:List (Addr×Obj)}(I:Inv X pins σ H s)(h:∀p∈DP,s.heap.get? p.1=some p.2/\H p.1=none/\p.1≠X.env.locals/\p.1∉X.fs/\∀v,p.2.data≠.cell v):Inv X DP σ H s:=
 ⟨I.ok,I.os,I.bare,I.base,I.loc,I.cell,I.free,I.fP,fun p hp=>(aaA.mp hp).elim (fun z=>I.pin p (aaV _ z)) (h p),I.ay,I.len⟩
variable{i:Nat}
theorem Bo{N:List Str}(hN:N.Nodup){j:Nat}{x:Str}(a:N[i]? =some x)(b:N[j]? =some x):i=j:=by
 obtain⟨h1,e1⟩:=Zb.mp a;obtain⟨h2,e2⟩:=Zb.mp b;exact(List.getElem_inj hN).mp (e1.trans e2.symm)
theorem AN{M:Model}{A:abd}{E:Value->Zh->Prop}{x:Str}{v:V}{u:Value}{Q:Unit->Zh->Prop}(I:Inv X pins σ H s)(hN:X.N.Nodup)(hi:X.N[i]? =some x)(hx:Loc X.env.scope x)(r:RelV v u)
  (h:∀s',Inv X pins (σ.set i (some v)) H s'->(∃a,abS a s.heap s'.heap/\(a=X.env.locals\/X.env.cells.lookup x=some a))->Q () s') (hf:X.fn x=true\/X.env.scope.names.lookup x=some .local:=by first | exact .inl rfl | exact .inr rfl | assumption):wpAny M A (storeName X.env x u) Q E s:=by
 obtain⟨m,hn,hl⟩:=id I.loc;have Vn:(X.env.scope.kind==.class||(X.env.scope.kind==.module&&X.env.locals != X.env.globals))=false:=by rw[I.ok.kind];rfl
 have FA:i<σ.length:=by rw[I.len];exact(Zb.mp hi).1
 have jo:=I.jo;have tracked:∀{a:Addr} {h':Heap},(∃o,s.heap.get? a=some o/\H a=none)->abS a s.heap h'->bQ X.prog X.w H h':=fun{a h'} ha hs b ob e=>by
  obtain⟨_,_,DQ⟩:=ha;refine(I.ay b ob e).gu (fun c w' hc q=>(hs.2 c ?_).trans q) (fun _ q=>q) fun _ _ q=>q
  rintro rfl
  rcases hc with rfl | hc
  ·rw[DQ] at e;cases e
  ·rw[DQ] at hc;cases hc
 rcases hx with hk | hk
 ·refine wpAny_storeName_local hk hn (fun h' Wb hs=>?_) Vn;obtain⟨oL,_,_,Wc,_⟩:=id hn;refine h _ ⟨I.ok,I.os,I.bare,⟨fun b o e n hb hx=>?_,fun b o e n hb hx=>?_,I.base.free,fun b o e hx=>?_,I.base.ed,I.base.dz,I.base.ee⟩,⟨_,Wb,fun j y v' e1 e2 e3=>?_⟩,fun y c e=>?_,I.free,I.fP,fun p hp=>?_,tracked ⟨oL,Wc,I.free⟩ hs,by simpa using I.len⟩ ⟨_,hs,.inl rfl⟩
  ·exact(hs.2 b (ZE (Zg (Zl e) I.ok.above))).trans (I.base.keep b o e n hb hx)
  ·obtain⟨sl,e1⟩:=I.base.slot b o e n hb hx;exact⟨sl,(hs.2 b (ZE (Zg (Zl e) I.ok.above))).trans e1⟩
  ·obtain⟨o',e1⟩:=I.base.there b o e hx;exact⟨o',(hs.2 b (ZE (Zg (Zl e) I.ok.above))).trans e1⟩
  ·by_cases hj:j=i
   ·subst hj;rw[hi] at e1;cases e1;rw[aad FA] at e2;cases e2;exact⟨u,r,.inl ⟨hk,by simp⟩⟩
   ·rw[aas (abg hj)] at e2;obtain⟨u',r',q⟩:=hl j y v' e1 e2 e3;refine⟨u',r',?_⟩
    rcases q with⟨k,e⟩ | ⟨k,c,e,z⟩
    ·refine .inl ⟨k,?_⟩;have:y≠x:=fun e=>hj (Bo hN e1 (e▸hi))
     simp[this,e]
    ·exact .inr ⟨k,c,e,z.sameBut hs (jo y c e)⟩
  ·obtain⟨w',z⟩:=I.cell y c e;exact⟨w',z.sameBut hs (jo y c e)⟩
  ·obtain⟨e,n,ne,nf,d⟩:=I.pin p hp;exact⟨(hs.2 p.1 ne).trans e,n,ne,nf,d⟩
 ·have gA:X.fn x=true:=by
   rcases hf with z | z
   ·exact z
   ·rw[z] at hk;cases hk
  obtain⟨c,hc⟩:=I.ok.has x (.inl hk);obtain⟨w',z⟩:=I.cell x c hc;refine wpAny_storeName_cell I.ok.kind hk hc z (fun h' eL hs=>?_);obtain⟨oc,FC,Vo⟩:=id z;refine h { s with heap:=h' } ⟨I.ok,I.os,I.bare,⟨fun b o e n hb hx=>?_,fun b o e n hb hx=>?_,I.base.free,fun b o e hx=>?_,I.base.ed,I.base.dz,I.base.ee⟩,⟨m,hn.sameBut hs (abg (jo x c hc)),fun j y v' e1 e2 e3=>?_⟩,fun y c' e=>?_,I.free,I.fP,fun p hp=>?_,tracked ⟨oc,FC,(I.fP x c hc).1 gA⟩ hs,by simpa using I.len⟩ ⟨c,hs,.inr hc⟩
  ·exact(hs.2 b (ZE (Zg (Zl e) (I.ok.oa x c gA hc)))).trans (I.base.keep b o e n hb hx)
  ·obtain⟨sl,e1⟩:=I.base.slot b o e n hb hx;exact⟨sl,(hs.2 b (ZE (Zg (Zl e) (I.ok.oa x c gA hc)))).trans e1⟩
  ·obtain⟨o',e1⟩:=I.base.there b o e hx;exact⟨o',(hs.2 b (ZE (Zg (Zl e) (I.ok.oa x c gA hc)))).trans e1⟩
  ·by_cases hj:j=i
   ·subst hj;rw[hi] at e1;cases e1;rw[aad FA] at e2;cases e2;exact⟨u,r,.inr ⟨.inl hk,c,hc,eL⟩⟩
   ·rw[aas (abg hj)] at e2;obtain⟨u',r',q⟩:=hl j y v' e1 e2 e3;refine⟨u',r',?_⟩
    rcases q with q | ⟨k,c',e,z'⟩
    ·exact .inl q
    ·refine .inr ⟨k,c',e,z'.sameBut hs ?_⟩;rintro rfl;exact hj (Bo hN e1 (I.ok.inj _ _ _ e hc▸hi))
  ·by_cases oe:c'=c
   ·subst oe;exact⟨_,eL⟩
   ·obtain⟨w2,z2⟩:=I.cell y c' e;exact⟨w2,z2.sameBut hs oe⟩
  ·obtain⟨e,n,ne,nf,d⟩:=I.pin p hp;refine⟨(hs.2 p.1 ?_).trans e,n,ne,nf,d⟩;intro q;rw[q,FC] at e;have q':oc=p.2:=ZX e;exact d w' (by rw[<- q'];exact Vo)
theorem vA{M:Model}{A:abd}{E:Value->Zh->Prop}{x:Str}{v:V}{u:Value}{Q:Unit->Zh->Prop}(I:Inv X pins σ H s)(hN:X.N.Nodup)(hi:X.N[i]? =some x)(hx:Loc X.env.scope x)(r:RelV v u)
  (h:∀s',Inv X pins (σ.set i (some v)) H s'->Q () s') (hf:X.fn x=true\/X.env.scope.names.lookup x=some .local:=by first | exact .inl rfl | exact .inr rfl | assumption):wpAny M A (storeName X.env x u) Q E s:=
 AN I hN hi hx r (fun s' I' _=>h s' I') hf
theorem Inv.Uc{s':Zh}(I:Inv X pins σ H s)(ho:s'.os=s.os)(u:Un (dk X.stack) ch H H' s.heap s'.heap)(ay:bQ X.prog X.w H' s'.heap)(hg:acK s'.gens)
  (iG:∀b∈ch,(b∈X.ex\/X.aA.heap.objs.size<=b)/\b≠X.env.locals/\(∀x c,X.env.cells.lookup x=some c->c≠b)/\∀p∈X.pn++pins,p.1≠b):Inv X pins σ H' s':=by
 obtain⟨h',g',d',t',o'⟩:=s';have e:o'=s.os:=ho;subst e;exact I.call (g':=g') (t':=t') (d':=d') u ay hg iG
end
abbrev XK:=Value->Option Addr->Hp->Prop
abbrev St:=List (Option V)
abbrev VK:=V->Hp->Prop
abbrev TE:=St->Hp->VK->Prop
abbrev TT:=St->Hp->(Bool->Hp->Prop)->Prop
abbrev TA:=St->Hp->(List V->Hp->Prop)->Prop
structure Ends where
 nx:St->Hp->Prop
 rt:VK
 bk:St->Hp->Prop:=fun _ _=>False
 ct:St->Hp->Prop:=fun _ _=>False
abbrev TS:=Ends->St->Hp->Prop
noncomputable def EP(X:Cx)(pins:List (Addr×Obj))(σ:St)(Q:VK)(u:Value)(s':Zh):Prop:=∃v H',Inv X pins σ H' s'/\RelV v u/\Q v H'
noncomputable def TP(X:Cx)(pins:List (Addr×Obj))(σ:St)(Q:Bool->Hp->Prop)(b:Bool)(s':Zh):Prop:=∃H',Inv X pins σ H' s'/\Q b H'
noncomputable def AP(X:Cx)(pins:List (Addr×Obj))(σ:St)(Q:List V->Hp->Prop)(us:List Value)(s':Zh):Prop:=∃vs H',Inv X pins σ H' s'/\Vals vs us/\Q vs H'
noncomputable def SP(X:Cx)(pins:List (Addr×Obj))(D:Ends)(f:Flow)(s':Zh):Prop:=
 match f with
 | .next=>∃aj H',Inv X pins aj H' s'/\D.nx aj H'
 | .brk=>∃aj H',Inv X pins aj H' s'/\D.bk aj H'
 | .cont=>∃aj H',Inv X pins aj H' s'/\D.ct aj H'
 | .ret u=>∃v aj H',Inv X pins aj H' s'/\RelV v u/\D.rt v H'
noncomputable def PE(X:Cx)(e:Expr)(t:TE):Prop:=
 ∀(pins:List (Addr×Obj)) (s:Zh) (σ:St) (H:Hp) (Q:VK),Inv X pins σ H s->t σ H Q->wpAny (model X.prog X.w) X.A (eval e X.env) (EP X pins σ Q) X.xe s
noncomputable def PT(X:Cx)(e:Expr)(t:TT):Prop:=
 ∀(pins:List (Addr×Obj)) (s:Zh) (σ:St) (H:Hp) (Q:Bool->Hp->Prop),Inv X pins σ H s->t σ H Q->wpAny (model X.prog X.w) X.A (isTrue e X.env (eval e X.env)) (TP X pins σ Q) X.xe s
noncomputable def PW(X:Cx)(e:Expr)(t:TT):Prop:=
 ∀(whole:Sem Value) (pins:List (Addr×Obj)) (s:Zh) (σ:St) (H:Hp) (Q:Bool->Hp->Prop),Inv X pins σ H s->t σ H Q->wpAny (model X.prog X.w) X.A (isTrue e X.env whole) (TP X pins σ Q) X.xe s
theorem PW.pt{X:Cx}{e:Expr}{t:TT}(h:PW X e t):PT X e t:=h _
noncomputable def PA(X:Cx)(es:List Expr)(t:TA):Prop:=
 ∀(pos:Pos) (pins:List (Addr×Obj)) (s:Zh) (σ:St) (H:Hp) (Q:List V->Hp->Prop),Inv X pins σ H s->t σ H Q->wpAny (model X.prog X.w) X.A (spliced (acb pos (ZF es X.env))) (AP X pins σ Q) X.xe s
noncomputable def PS(X:Cx)(st:Stmt)(t:TS):Prop:=
 ∀(pins:List (Addr×Obj)) (s:Zh) (σ:St) (H:Hp) (D:Ends),Inv X pins σ H s->t D σ H->wpAny (model X.prog X.w) X.A (exec st X.env) (SP X pins D) X.xe s
noncomputable def eW(X:Cx)(st:List Stmt)(t:TS):Prop:=
 ∀(pins:List (Addr×Obj)) (s:Zh) (σ:St) (H:Hp) (D:Ends),Inv X pins σ H s->t D σ H->wpAny (model X.prog X.w) X.A (execs st X.env) (SP X pins D) X.xe s
variable{A:abd}
theorem aU{α:Type}{t:Sem α}{Q Q':α->Zh->Prop}{M:Model}{E:Value->Zh->Prop}{s:Zh}(h:wpAny M A t Q E s)(hQ:∀a s,Q a s->Q' a s):wpAny M A t Q' E s:=aai h hQ fun _ _ x=>x
section
variable{X:Cx}
variable{σ:St}{H:Hp}
theorem bin{a b:Expr}{ta tb:TE}(ha:PE X a ta)(hb:PE X b tb){pins:List (Addr×Obj)}{s:Zh}{R:V->V->Hp->Prop}(I:Inv X pins σ H s)(h:ta σ H fun x H1=>tb σ H1 fun y H2=>R x y H2)
  {α:Type} {Q:α->Zh->Prop} {f:Value->Value->Sem α}
  (hf:∀v u s2 x y H2,Inv X pins σ H2 s2->RelV x v->RelV y u->R x y H2->wpAny (model X.prog X.w) X.A (f v u) Q X.xe s2) :
  wpAny (model X.prog X.w) X.A (eval a X.env) (fun v bg=>wpAny (model X.prog X.w) X.A (eval b X.env) (fun u mC=>wpAny (model X.prog X.w) X.A (f v u) Q X.xe mC) X.xe bg) X.xe s:=by
 refine aU (ha pins s σ H _ I h) fun v s1 ⟨x,H1,I1,r1,q1⟩=>?_
 refine aU (hb pins s1 σ H1 _ I1 q1) fun u s2 ⟨y,H2,I2,r2,q2⟩=>?_
 exact hf v u s2 x y H2 I2 r1 r2 q2
noncomputable def Vp(i:Nat):TE:=fun σ H Q=>∃v,σ[i]? =some (some v)/\Q v H
noncomputable def tC(v:V):TE:=fun _ H Q=>Q v H
theorem CQ{i:Nat}{x:Str}{pos:Pos}(hN:X.N[i]? =some x)(hv:az X.env.scope x)(hd:(x==("__debug__":Str))=false:=by decide)(hcd:(x==("__classdict__":Str))=false:=by decide):PE X (.Name x pos) (Vp i):=by
 intro pins s σ H Q I h;obtain⟨v,e,h⟩:=h;obtain⟨m,hn,hl⟩:=I.loc;obtain⟨u,r,l⟩:=hl i x v hN e hv;have fin:EP X pins σ Q u s:=⟨v,H,I,r,h⟩
 rcases l with⟨hk,hm⟩ | ⟨hk,c,hc,iy⟩
 ·exact wpAny_Name (wpAny_loadName_local I.ok.kind hk hn hm fin) hd
 ·rcases hk with hk | hk
  ·exact wpAny_Name (wpAny_loadName_cell I.ok.kind hk hc iy fin) hd
  ·exact wpAny_Name (wpAny_loadName_free I.ok.kind hk hc iy fin hcd) hd
theorem RK{i j pos}:PE X (.Constant (.int i) j pos) (tC (.int i)):=fun _ _ _ H _ I h=>wpAny_Constant_int ⟨.int i,H,I.tok _,⟨_,rfl⟩,h⟩
theorem Ud{b j pos}:PE X (.Constant (.bool b) j pos) (tC (.bl b)):=fun _ _ _ H _ I h=>Constant_bool ⟨.bl b,H,I,rfl,h⟩
theorem RL{j pos}:PE X (.Constant .none j pos) (tC .aG):=fun _ _ _ H _ I h=>Constant_none ⟨.aG,H,I,rfl,h⟩
theorem RM{x j pos}:PE X (.Constant (.str x) j pos) (tC (.str x)):=fun _ _ _ H _ I h=>Calls.Constant_str ⟨.str x,H,I.tok _,⟨_,rfl⟩,h⟩
noncomputable def Gl(X:Cx)(x:Str):Prop:=X.env.kindOf x=some .globalImplicit
theorem B0{E:Value->Zh->Prop}{pins:List (Addr×Obj)}{s:Zh}{x:Str}{u:Value}{pos:Pos}{Q:Value->Zh->Prop}(I:Inv X pins σ H s)(hg:Gl X x)(hm:X.mg x=some u)(h:Q u s)
  (hd:(x==("__debug__":Str))=false:=by decide):wpAny (model X.prog X.w) X.A (eval (.Name x pos) X.env) Q E s:=
 acn I.ok.kind hg (Calls.loadGlobal_global (by rw[I.ok.glob];exact I.mod.glob.keeps I.bk) hm h) hd
theorem sU{E:Value->Zh->Prop}{pins:List (Addr×Obj)}{s:Zh}{x:Str}{u:Value}{pos:Pos}{Q:Value->Zh->Prop}(I:Inv X pins σ H s)(hg:Gl X x)(hm:X.mg x=none)(hv:aaz x=some u)(h:Q u s)
  (hn:x≠"__name__":=by decide) (hd:(x==("__debug__":Str))=false:=by decide):wpAny (model X.prog X.w) X.A (eval (.Name x pos) X.env) Q E s:=by
 obtain⟨mb,h1,h2⟩:=I.mod.blt;exact acn I.ok.kind hg (Calls.loadGlobal_builtin (by rw[I.ok.glob];exact I.mod.glob.keeps I.bk) hm (by rw[I.ok.blt];exact h1.keeps I.bk) ((h2 x hn).trans hv) h) hd
variable{a b:Expr}{ta tb:TE}{pos:Pos}
noncomputable def tB(t:TE):TT:=fun σ H Q=>t σ H fun x H1=>∃c,x=.bl c/\Q c H1
variable{tA t5:TT}{rest:List Expr}
noncomputable def tE(t u:TT):TT:=fun σ H Q=>t σ H fun c H1=>if c=true then u σ H1 Q else Q false H1
noncomputable def og(t u:TT):TT:=fun σ H Q=>t σ H fun c H1=>if c=true then Q true H1 else u σ H1 Q
theorem Qd(ha:PT X a tA):PW X (.BoolOp .And [a] pos) tA:=by
 intro wh pins s σ H Q I h;refine isTrue_and (aU (ha pins s σ H Q I h) fun c s1 e=>?_);cases c with
 | true=>exact isTrue_and_nil e
 | false=>exact e
theorem RN(ha:PT X a tA):PW X (.BoolOp .Or [a] pos) tA:=by
 intro wh pins s σ H Q I h;refine isTrue_or (aU (ha pins s σ H Q I h) fun c s1 e=>?_);cases c with
 | false=>exact isTrue_or_nil e
 | true=>exact e
theorem RO(ha:PT X a tA)(hb:PW X (.BoolOp .And (b::rest) pos) t5):PW X (.BoolOp .And (a::b::rest) pos) (tE tA t5):=by
 intro wh pins s σ H Q I h;refine isTrue_and (aU (ha pins s σ H _ I h) fun c s1 ⟨H1,I1,q1⟩=>?_);cases c with
 | true=>exact hb wh pins s1 σ H1 Q I1 q1
 | false=>exact⟨H1,I1,q1⟩
theorem Ue(ha:PT X a tA)(hb:PW X (.BoolOp .Or (b::rest) pos) t5):PW X (.BoolOp .Or (a::b::rest) pos) (og tA t5):=by
 intro wh pins s σ H Q I h;refine isTrue_or (aU (ha pins s σ H _ I h) fun c s1 ⟨H1,I1,q1⟩=>?_);cases c with
 | true=>exact⟨H1,I1,q1⟩
 | false=>exact hb wh pins s1 σ H1 Q I1 q1
noncomputable def Ug(ta tb:TE):TE:=fun σ H Q=>ta σ H fun x H1=>∃c,x=.bl c/\if c=true then tb σ H1 Q else Q (.bl false) H1
noncomputable def Vq(ta tb:TE):TE:=fun σ H Q=>ta σ H fun x H1=>∃c,x=.bl c/\if c=true then Q (.bl true) H1 else tb σ H1 Q
theorem RP{op}{t:TE}(h:PE X a t):PE X (.BoolOp op [a] pos) t:=fun pins s σ H Q I hw=>BoolOp_one (h pins s σ H Q I hw)
theorem RQ(ha:PE X a ta)(hb:PE X (.BoolOp .And (b::rest) pos) tb):PE X (.BoolOp .And (a::b::rest) pos) (Ug ta tb):=by
 intro pins s σ H Q I h;refine BoolOp_and (aU (ha pins s σ H _ I h) fun v s1 ⟨x,H1,I1,r1,q1⟩=>?_);obtain⟨c,rfl,q1⟩:=q1;cases r1;refine acB ?_;cases c with
 | true=>exact hb pins s1 σ H1 Q I1 q1
 | false=>exact⟨.bl false,H1,I1,rfl,q1⟩
theorem Uh(ha:PE X a ta)(hb:PE X (.BoolOp .Or (b::rest) pos) tb):PE X (.BoolOp .Or (a::b::rest) pos) (Vq ta tb):=by
 intro pins s σ H Q I h;refine BoolOp_or (aU (ha pins s σ H _ I h) fun v s1 ⟨x,H1,I1,r1,q1⟩=>?_);obtain⟨c,rfl,q1⟩:=q1;cases r1;refine acB ?_;cases c with
 | false=>exact hb pins s1 σ H1 Q I1 q1
 | true=>exact⟨.bl true,H1,I1,rfl,q1⟩
end
noncomputable def bo(K:Zc)(H:Hp)(a:Addr)(xs:List V):Prop:=
 Rd H a (.lst xs) \/
  ∃(o:Obj) (its:Array Value) (n:Nat),K.lookup a=some o/\o.cls=.type "list"/\o.dict=none/\o.data=.seq its n/\its.size<=Zt/\Vals xs its.toList
noncomputable def b8(K:Zc)(H:Hp)(a:Addr)(xs:List V):Prop:=
 Rd H a (.tup xs) \/
  ∃(o:Obj) (its:Array Value) (n:Nat),K.lookup a=some o/\o.cls=.type "tuple"/\o.data=.seq its n/\its.size<=Zt/\Vals xs its.toList
noncomputable def Vr:Value->Option V
 | .none=>some .aG
 | .bool b=>some (.bl b)
 | .int i _=>some (.int i)
 | .str x _=>some (.str x)
 | .bytes b _=>some (.ya b)
 | .float b _=>some (.yb b)
 | .ref a=>some (.ref a)
 | .type n=>some (.ty n)
 | _=>none
theorem RelV.abs{x:V}{u:Value}(r:RelV x u):Vr u=some x:=by
 cases x with
 | aG=>cases r;rfl
 | bl _=>cases r;rfl
 | int _=>obtain⟨t,rfl⟩:=r;rfl
 | str _=>obtain⟨t,rfl⟩:=r;rfl
 | ya _=>obtain⟨t,rfl⟩:=r;rfl
 | yb _=>obtain⟨t,rfl⟩:=r;rfl
 | ref _=>cases r;rfl
 | ty _=>cases r;rfl
theorem RelV.inj{x y:V}{u:Value}(r:RelV x u)(q:RelV y u):x=y:=ZX (r.abs.symm.trans q.abs)
theorem Vals.inj:∀{xs ys:List V} {us:List Value},Vals xs us->Vals ys us->xs=ys
 | _,_,_,.nil,.nil=>rfl
 | _,_,_,.cons r t,.cons r' t'=>by rw[r.inj r',Vals.inj t t']
section
variable{X:Cx}{pins:List (Addr×Obj)}{σ:St}{H:Hp}{s:Zh}{a:Addr}{xs ys:List V}
theorem bo.of{K:Zc}(h:H a=some (.lst xs)):bo K H a xs:=.inl (.inl h)
theorem b8.of{K:Zc}(h:H a=some (.tup xs)):b8 K H a xs:=.inl (.inl h)
theorem Inv.list(I:Inv X pins σ H s)(h:bo X.K H a xs):∃its:List Value,Vals xs its/\PlainL s.heap a its.toArray/\xs.length<=sizeLine:=by
 rcases h with h | ⟨o,its,n,hk,hc,hd,hs,hz,r⟩
 ·obtain⟨z,its,n,r,e⟩:=h.ok I.ay;exact⟨its,r,⟨_,n,e,rfl,rfl,rfl⟩,z⟩
 ·refine⟨its.toList,r,⟨o,n,I.jn a o hk,hc,hd,by simpa using hs⟩,?_⟩;have e:=r.length;simp only[acf] at e;omega
theorem Inv.tuple(I:Inv X pins σ H s)(h:b8 X.K H a xs):∃its:List Value,Vals xs its/\IsTup s.heap a its.toArray/\xs.length<=sizeLine:=by
 rcases h with h | ⟨o,its,n,hk,hc,hs,hz,r⟩
 ·obtain⟨z,its,r,p⟩:=h.ok I.ay;exact⟨its,r,p,z⟩
 ·refine⟨its.toList,r,⟨o,I.jn a o hk,hc,n,by simpa using hs⟩,?_⟩;have e:=r.length;simp only[acf] at e;omega
theorem Inv.Bp(I:Inv X pins σ H s)(h:bo X.K H a xs)(h':bo X.K H a ys):xs=ys:=by
 obtain⟨its,r,⟨o,n,e,_,_,d⟩,_⟩:=I.list h;obtain⟨its',r',⟨o',n',e',_,_,d'⟩,_⟩:=I.list h';rw[e] at e';cases e';rw[d] at d';injection d' with d1 _
 have:its=its':=by simpa using congrArg adY d1
 subst this;exact r.inj r'
theorem Inv.NT(I:Inv X pins σ H s)(h:b8 X.K H a xs)(h':b8 X.K H a ys):xs=ys:=by
 obtain⟨its,r,⟨o,e,_,n,d⟩,_⟩:=I.tuple h;obtain⟨its',r',⟨o',e',_,n',d'⟩,_⟩:=I.tuple h';rw[e] at e';cases e';rw[d] at d';injection d' with d1 _
 have:its=its':=by simpa using congrArg adY d1
 subst this;exact r.inj r'
end
section
variable{X:Cx}{st:Stmt}{rest:List Stmt}{t u:TS}{e:Expr}{te:TE}{pos:Pos}
noncomputable def Ui:TS:=fun D σ H=>D.nx σ H
noncomputable def EL(t u:TS):TS:=fun D σ H=>t { D with nx:=u D } σ H
theorem Qe:eW X [] Ui:=fun _ _ σ H _ I h=>acg ⟨σ,H,I,h⟩
theorem O2(h1:PS X st t)(h2:eW X rest u):eW X (st::rest) (EL t u):=by
 intro pins s σ H D I h;refine abZ (aU (h1 pins s σ H { D with nx:=u D } I h) fun f s1 q=>?_);cases f with
 | next=>
  obtain⟨aj,H',I',q⟩:=q;exact h2 pins s1 aj H' D I' q
 | ret v=>exact q
 | brk=>exact q
 | cont=>exact q
theorem Qf(h1:PS X st t):eW X [st] t:=by
 intro pins s σ H D I h;refine abZ (aU (h1 pins s σ H D I h) fun f s1 q=>?_);cases f with
 | next=>exact acg q
 | ret v=>exact q
 | brk=>exact q
 | cont=>exact q
theorem Inv.quiet{pins:List (Addr×Obj)}{σ:St}{H:Hp}{s:Zh}(I:Inv X pins σ H s):interactive X.env=false:=by simp[interactive,I.ok.kind]
noncomputable def Uj(te:TE):TS:=fun D σ H=>te σ H fun _ H1=>D.nx σ H1
theorem Qg(he:PE X e te)(hs:abw e none pos.line X.env=pure false:=by rfl):PS X (.Expr e pos) (Uj te):=by
 intro pins s σ H D I h;exact wpAny_Expr_any (aU (he pins s σ H _ I h) fun v s1 ⟨x,H1,I1,r1,q1⟩=>⟨σ,H1,I1,q1⟩) I.quiet hs
noncomputable def Vs(te:TE):TS:=fun D σ H=>te σ H D.rt
theorem RR(he:PE X e te):PS X (.Return (some e) pos) (Vs te):=by
 intro pins s σ H D I h;exact wpAny_Return_some (aU (he pins s σ H _ I h) fun v s1 ⟨x,H1,I1,r1,q1⟩=>⟨x,σ,H1,I1,r1,q1⟩)
noncomputable def Vt(c:TT)(t u:TS):TS:=fun D σ H=>c σ H fun b H1=>if b=true then t D σ H1 else u D σ H1
theorem Uk{c:Expr}{a b:List Stmt}{tc:TT}(hc:PT X c tc)(ha:eW X a t)(hb:eW X b u):PS X (.If c a b pos) (Vt tc t u):=by
 intro pins s σ H D I h;refine wpAny_If (aU (hc pins s σ H _ I h) fun d s1 ⟨H1,I1,q1⟩=>?_);cases d with
 | true=>exact ha pins s1 σ H1 D I1 q1
 | false=>exact hb pins s1 σ H1 D I1 q1
end
abbrev TG:=V->St->Hp->(St->Hp->Prop)->Prop
abbrev jq:=List V->St->Hp->(St->Hp->Prop)->Prop
noncomputable def PG(X:Cx)(target:Expr)(t:TG):Prop:=
 ∀(pins:List (Addr×Obj)) (s:Zh) (σ:St) (H:Hp) (v:V) (u:Value) (Q:St->Hp->Prop),Inv X pins σ H s->RelV v u->t v σ H Q →
  wpAny (model X.prog X.w) X.A (adB target X.env u) (fun _ s'=>∃aj H',Inv X pins aj H' s'/\Q aj H') X.xe s
noncomputable def fD(X:Cx)(ts:List Expr)(t:jq):Prop:=
 ∀(pins:List (Addr×Obj)) (s:Zh) (σ:St) (H:Hp) (vs:List V) (us:List Value) (Q:St->Hp->Prop),Inv X pins σ H s->Vals vs us->t vs σ H Q →
  wpAny (model X.prog X.w) X.A (assignInOrder ((aaw ts X.env).map (·.2)) us) (fun _ s'=>∃aj H',Inv X pins aj H' s'/\Q aj H') X.xe s
abbrev tH:=V->V->V->Hp->(Hp->Prop)->Prop
noncomputable def ka(X:Cx)(t:tH):Prop:=
 ∀(pins:List (Addr×Obj)) (s:Zh) (σ:St) (H:Hp) (o i v:V) (ov iv u:Value) (Q:Hp->Prop),Inv X pins σ H s->RelV o ov->RelV i iv->RelV v u->t o i v H Q →
  wpAny (model X.prog X.w) X.A (setItem ov iv u) (fun _ s'=>∃H',Inv X pins σ H' s'/\Q H') X.xe s
abbrev t7:=V->V->Hp->VK->Prop
noncomputable def FD(X:Cx)(op:Operator)(t:t7):Prop:=
 ∀(pins:List (Addr×Obj)) (s:Zh) (σ:St) (H:Hp) (x y:V) (v u:Value) (Q:VK),Inv X pins σ H s->RelV x v->RelV y u->t x y H Q →
  wpAny (model X.prog X.w) X.A (inplaceOp op v u) (EP X pins σ Q) X.xe s
section
variable{X:Cx}{pos:Pos}
noncomputable def w8(i:Nat):TG:=fun v σ H Q=>Q (σ.set i (some v)) H
variable{i:Nat}
theorem Qh{x:Str}(hN:X.N.Nodup)(hi:X.N[i]? =some x)(hx:Loc X.env.scope x)(hf:X.fn x=true\/X.env.scope.names.lookup x=some .local:=by first | exact .inl rfl | exact .inr rfl | assumption):PG X (.Name x pos) (w8 i):=by
 intro pins s σ H v u Q I r h;exact wpAny_assign_Name (vA I hN hi hx r (fun s' I'=>⟨_,H,I',h⟩) hf)
noncomputable def Vu:jq:=fun vs σ H Q=>vs=[]/\Q σ H
noncomputable def Ul(t:TG)(u:jq):jq:=fun vs σ H Q=>∃v r,vs=v::r/\t v σ H fun aj H'=>u r aj H' Q
theorem Qi:fD X [] Vu:=by
 intro pins s σ H vs us Q I r h;obtain⟨e,h⟩:=h;subst e;cases r;exact assignInOrder_nil ⟨σ,H,I,h⟩
theorem O3{e:Expr}{es:List Expr}{t:TG}{u:jq}(h1:PG X e t)(h2:fD X es u)
  (hs:(aaw (e::es) X.env).map (·.2)=adB e X.env::(aaw es X.env).map (·.2):=by rfl):fD X (e::es) (Ul t u):=by
 intro pins s σ H vs us Q I r h;obtain⟨v,vr,e1,h⟩:=h;subst e1;cases r with
 | cons r rr=>
  rw[hs];refine assignInOrder_cons (aU (h1 pins s σ H _ _ _ I r h) fun _ s1 ⟨σ1,H1,I1,q1⟩=>?_);exact h2 pins s1 σ1 H1 _ _ Q I1 rr q1
noncomputable def Vv(K:Zc)(n:Nat)(t:jq):TG:=fun v σ H Q=>∃a xs,v=.ref a/\b8 K H a xs/\xs.length=n/\t xs σ H Q
theorem RS{es:List Expr}{k:Nat}{t:jq}{n:Nat}(hc:X.calm=true)(h:fD X es t)
  (hn:(aaw es X.env).length=n:=by rfl) (dM:(aaw es X.env).findIdx? (·.1)=none:=by rfl):PG X (.Tuple es k pos) (Vv X.K n t):=by
 intro pins s σ H v u Q I r hw;obtain⟨a,xs,e1,hq,hl,hw⟩:=hw;subst e1;cases r;obtain⟨its,rv,ht,hz⟩:=I.tuple hq;refine assign_Tuple_tuple (I.ok.hd hc) ht (by simp[hn,<- hl,rv.length]) dM fun h' hx=>?_
 have I1:Inv X pins σ H { s with heap:=h' }:=I.kept (t':=s.toks) fun b o e=>hx b o (ZE (Zl e)) e
 exact h pins _ σ H xs _ Q I1 (by simpa using rv) hw
noncomputable def Vw(to ti:TE)(t:tH):TG:=fun v σ H Q=>to σ H fun o H1=>ti σ H1 fun i H2=>t o i v H2 fun H3=>Q σ H3
theorem RT{o i:Expr}{to ti:TE}{t:tH}(ho:PE X o to)(hi:PE X i ti)(hs:ka X t)
  (ha:∀v,adB (.Subscript o i pos) X.env v=(do
   let ov <- holding [v] (eval o X.env)
   let iv <- holding [v,ov] (eval i X.env)
   standAt pos
   holding [v,ov,iv] (setItem ov iv v)
   release [v,ov,iv] []):=by intro _;rfl):PG X (.Subscript o i pos) (Vw to ti t):=by
 intro pins s σ H v u Q I r h;rw[ha];refine Zu (abJ (aU (ho pins s σ H _ I h) fun ov s1 ⟨x,H1,I1,r1,q1⟩=>?_));refine Zu (abJ (aU (hi pins s1 σ H1 _ I1 q1) fun iv s2 ⟨y,H2,I2,r2,q2⟩=>?_));refine Zu (wpAny_standAt (Zu (abJ (aU (hs pins s2 σ H2 x y v ov iv u _ I2 r1 r2 r q2) fun _ s3 ⟨H3,I3,q3⟩=>?_))));exact wpAny_release ⟨σ,H3,I3,q3⟩
noncomputable def tJ(te:TE)(g:TG):TS:=fun D σ H=>te σ H fun x H1=>g x σ H1 D.nx
variable{te:TE}
theorem RU{tg e:Expr}{g:TG}(he:PE X e te)(hg:PG X tg g)(hs:swapsWithSole [tg] e pos.line X.env=pure false:=by rfl)(hw:swappedStores [tg] e X.env=pure none:=by rfl)
  (h1:(aaw [tg] X.env).map (·.2)=[adB tg X.env]:=by rfl):PS X (.Assign [tg] e pos) (tJ te g):=by
 intro pins s σ H D I h;refine wpAny_Assign_stores (aU (he pins s σ H _ I h) fun v s1 ⟨x,H1,I1,r1,q1⟩=>?_) hs hw;rw[h1];exact aU (hg pins s1 σ H1 x v _ I1 r1 q1) fun _ s2 q=>q
theorem RV{x:Str}{e:Expr}{pos':Pos}(hN:X.N.Nodup)(hi:X.N[i]? =some x)(hx:Loc X.env.scope x)(he:PE X e te)(hs:abw e (some (.Name x pos')) pos.line X.env=pure false:=by rfl)(hf:X.fn x=true\/X.env.scope.names.lookup x=some .local:=by first | exact .inl rfl | exact .inr rfl | assumption) :
  PS X (.Assign [.Name x pos'] e pos) (tJ te (w8 i)):=by
 intro pins s σ H D I h;refine wpAny_Assign_Name (aU (he pins s σ H _ I h) fun v s1 ⟨y,H1,I1,r1,q1⟩=>?_) hs;exact vA I1 hN hi hx r1 (fun s2 I2=>⟨_,H1,I2,q1⟩) hf
noncomputable def EN(i:Nat)(te:TE)(ti:t7):TS:=fun D σ H=>∃x,σ[i]? =some (some x)/\te σ H fun y H1=>ti x y H1 fun z H2=>D.nx (σ.set i (some z)) H2
theorem RW{x:Str}{e:Expr}{op:Operator}{ti:t7}{pos':Pos}(hN:X.N.Nodup)(hi:X.N[i]? =some x)(hx:Loc X.env.scope x)(he:PE X e te)(ho:FD X op ti)(hf:X.fn x=true\/X.env.scope.names.lookup x=some .local:=by first | exact .inl rfl | exact .inr rfl | assumption) :
  PS X (.AugAssign (.Name x pos') op e pos) (EN i te ti):=by
 intro pins s σ H D I h;obtain⟨v,e1,h⟩:=h;obtain⟨m,hn,hl⟩:=I.loc;have iH:az X.env.scope x:=by rcases hx with k | k;exact .inl k;exact .inr (.inl k)
 obtain⟨u,r,l⟩:=hl i x v hi e1 iH;refine wpAny_AugAssign_Name ?_;have go:wpAny (model X.prog X.w) X.A (eval e X.env) (fun w mC=>wpAny (model X.prog X.w) X.A (inplaceOp op u w) (fun r zA=>wpAny (model X.prog X.w) X.A (storeName X.env x r) (fun _=>SP X pins D .next) X.xe zA) X.xe mC) X.xe s:=by
  refine aU (he pins s σ H _ I h) fun w s1 ⟨y,H1,I1,r1,q1⟩=>?_
  refine aU (ho pins s1 σ H1 v y u w _ I1 r r1 q1) fun z s2 ⟨zv,H2,I2,r2,q2⟩=>?_
  exact vA I2 hN hi hx r2 (fun s3 I3=>⟨_,H2,I3,q2⟩) hf
 rcases l with⟨hk,hm⟩ | ⟨hk,c,hc,iy⟩
 ·exact wpAny_loadName_local I.ok.kind hk hn hm go
 ·rcases hk with hk | hk
  ·exact wpAny_loadName_cell I.ok.kind hk hc iy go
  ·rcases hx with k | k
   ·have:X.env.scope.names.lookup x=some .free:=hk;rw[k] at this;cases this
   ·have:X.env.scope.names.lookup x=some .free:=hk;rw[k] at this;cases this
noncomputable def FE(f:Int->Int->Int):t7:=fun x y H Q=>∃i j,x=.int i/\y=.int j/\Q (.int (f i j)) H
theorem RX:FD X .Add (FE fun i j=>i+j):=by
 intro pins s σ H x y v u Q I r1 r2 h;obtain⟨i,j,e1,e2,q⟩:=h;subst e1;subst e2;obtain⟨t,rfl⟩:=r1;obtain⟨t',rfl⟩:=r2;exact iadd_int ⟨.int _,H,I.tok _,⟨_,rfl⟩,q⟩
end
section
variable{X:Cx}{pos:Pos}
noncomputable def CS(c:TT)(tb:TS):TS:=fun D σ H=>∃W:Nat->St->Hp->Prop,(∃m,W m σ H)/\∀m σ H,W m σ H →
 c σ H fun b H1=>if b=true then ∃N:St->Hp->Prop,(∀aj H',N aj H'->∃m',m'<m/\W m' aj H')/\tb { D with nx:=N,ct:=N,bk:=D.nx } σ H1 else D.nx σ H1
theorem O4{c:Expr}{body:List Stmt}{tc:TT}{tb:TS}(hp:adI (model X.prog X.w) X.A X.env X.xe)(hc:PT X c tc)(hb:eW X body tb):PS X (.While c body [] pos) (CS tc tb):=by
 intro pins s σ H D I h;obtain⟨W,⟨m0,w0⟩,turn⟩:=h;refine wpAny_While (codeAny_whileLoop (fun n s'=>∃aj H',Inv X pins aj H' s'/\W n aj H') ?_ m0 ⟨σ,H,I,w0⟩);rintro n s1 ⟨σ1,H1,I1,w1⟩;refine aaX hp (aU (hc pins s1 σ1 H1 _ I1 (turn n σ1 H1 w1)) fun b s2 ⟨H2,I2,q2⟩=>?_);cases b with
 | true=>
  obtain⟨N,hN,q2⟩:=q2;rw[if_pos rfl];refine aaX hp (aU (hb pins s2 σ1 H2 _ I2 q2) fun f s3 q3=>?_);cases f with
  | next=>
   obtain⟨h9,H3,I3,n3⟩:=q3;obtain⟨m',hm,w3⟩:=hN h9 H3 n3;exact⟨m',hm,h9,H3,I3,w3⟩
  | cont=>
   obtain⟨h9,H3,I3,n3⟩:=q3;obtain⟨m',hm,w3⟩:=hN h9 H3 n3;exact⟨m',hm,h9,H3,I3,w3⟩
  | brk=>exact q3
  | ret v=>exact q3
 | false=>
  rw[if_neg ZG];exact acg ⟨σ1,H2,I2,q2⟩
end
structure It where
 go:Nat->Hp->Prop
 qf:Nat->Hp->V->Hp->Prop
 stop:Nat->Hp->Prop
noncomputable def fx(X:Cx)(pins:List (Addr×Obj))(H:Hp)(b:Addr):Prop:=
 H b=none/\b≠X.env.locals/\b∉X.fs/\(b∈X.ex\/X.aA.heap.objs.size<=b)/\(∀x c,X.env.cells.lookup x=some c->c≠b)/\∀p∈X.pn++pins,p.1≠b
theorem Inv.pQ{X:Cx}{pins:List (Addr×Obj)}{σ:St}{H':Hp}{s:Zh}(I:Inv X pins σ H s)(hb:s.heap.objs.size<=b)(hn:H' b=none):fx X pins H' b:=by
 refine⟨hn,aaI (Zg I.lt hb),I.Vm hb,.inr (Zq I.sz hb),fun x c e z=>?_,fun p hp z=>?_⟩
 ·obtain⟨v,q⟩:=I.cell x c e;exact absurd (Zg q.lt (by rw[z];exact hb)) (aaG _)
 ·exact absurd (Zg (Zl (I.pin p hp).1) (by rw[z];exact hb)) (aaG _)
structure Turn(P:aah)(w:World)(K:Zc)(tg:Expr)(J:It)(fp:List Addr)(it:Addr)(tn:Nat->Heap->Prop):Prop where
 mem:it∈fp
 obj:∀i h,tn i h->∀b∈fp,∃o,h.get? b=some o/\∀v,o.data≠.cell v
 keep:∀i h h',tn i h->(∀b∈fp,∀o,h.get? b=some o->h'.get? b=some o)->tn i h'
 item:∀(X:Cx),X.prog=P->X.w=w->X.K=K->X.calm=true->∀(i:Nat) (pins:List (Addr×Obj)) (s:Zh) (σ:St) (H:Hp) (E:Value->Zh->Prop),Inv X pins σ H s->(∀b∈fp,fx X pins H b)->tn i s.heap->J.go i H →
  wpAny (model P w) X.A (pyNext (.ref it)) (fun r s1=>∃u,r=some u /\
   wpAny (model P w) X.A (ach tg (.ref it) u) (fun _ s2=>∃x H',Inv X pins σ H' s2/\RelV x u/\J.qf i H x H'/\tn (i+1) s2.heap/\∀b∈fp,H' b=none) E s1) E s
 done:∀(X:Cx),X.prog=P->X.w=w->X.K=K->X.calm=true->∀(i:Nat) (pins:List (Addr×Obj)) (s:Zh) (σ:St) (H:Hp) (E:Value->Zh->Prop),Inv X pins σ H s->(∀b∈fp,fx X pins H b)->tn i s.heap->J.stop i H →
  wpAny (model P w) X.A (pyNext (.ref it)) (fun r s1=>r=none/\Inv X pins σ H s1) E s
 self:∀(A:abd) (i:Nat) (s:Zh) (Q:Value->Zh->Prop) (E:Value->Zh->Prop),tn i s.heap->Q (.ref it) s->wpAny (model P w) A (pyIter (.ref it)) Q E s
abbrev TI:=St->Hp->(It->Hp->Prop)->Prop
noncomputable def FF(X:Cx)(pins:List (Addr×Obj))(σ:St)(tg:Expr)(R:It->Hp->Prop)(yg:Value)(s2:Zh):Prop:=
 ∃(it:Addr) (fp:List Addr) (tn:Nat->Heap->Prop) (J:It) (H':Hp),yg=.ref it/\Inv X pins σ H' s2/\Turn X.prog X.w X.K tg J fp it tn/\tn 0 s2.heap/\(∀b∈fp,fx X pins H' b)/\R J H'
noncomputable def PI(X:Cx)(tg iter:Expr)(wi:TI):Prop:=
 ∀(pins:List (Addr×Obj)) (s:Zh) (σ:St) (H:Hp) (R:It->Hp->Prop),Inv X pins σ H s->wi σ H R →
  wpAny (model X.prog X.w) X.A (eval iter X.env) (fun v s1=>wpAny (model X.prog X.w) X.A (pyIter v) (FF X pins σ tg R) X.xe s1) X.xe s
variable{tg:Expr}
theorem xa {M : Model} {E : Value -> Zh -> Prop} {s : Zh} {it : Addr} {u : Value} {o : Obj} {n : String} {vs : Array Value} {Q : Unit -> Zh -> Prop} (ho : s.heap.get? it = some o) (hc : o.cls = .type n) (hd : o.data = .fields vs)
    (hn : ["enumerate", "zip", "dict_itemiterator", "dict_reverseitemiterator", "odict_iterator", "itertools.zip_longest", "itertools.pairwise"].contains n = false) (hQ : Q () s) : wpAny M A (ach tg (.ref it) u) Q E s := by
  unfold ach;cases tg <;> first
    | exact ZZ hQ
    | (cases u <;> first
        | exact ZZ hQ
        | (refine Zu (wpAny_load ho ?_)
           rw [hc, hd];show wpAny M A (if (["enumerate", "zip", "dict_itemiterator", "dict_reverseitemiterator", "odict_iterator", "itertools.zip_longest", "itertools.pairwise"].contains n && vs[0]? == some (rawInt _)) = true then _ else _) Q E s;rw [if_neg (by intro h; rw [hn, abQ] at h; cases h)];exact ZZ hQ))
noncomputable def FG(K:Zc)(a:Addr):It:=
 ⟨fun i H=>∃xs x,bo K H a xs/\xs[i]? =some x,fun i H x H'=>H'=H/\∀xs,bo K H a xs->xs[i]? =some x,fun i H=>∃xs,bo K H a xs/\xs.length<=i⟩
noncomputable def FH(K:Zc)(a:Addr):It:=
 ⟨fun i H=>∃xs x,b8 K H a xs/\xs[i]? =some x,fun i H x H'=>H'=H/\∀xs,b8 K H a xs->xs[i]? =some x,fun i H=>∃xs,b8 K H a xs/\xs.length<=i⟩
noncomputable def t8(lo:Int)(n:Nat):It:=⟨fun i _=>i<n,fun i H x H'=>H'=H/\x=.int (lo+i),fun i _=>n<=i⟩
variable{K:Zc}
theorem NU{w:World}(a it:Addr):Turn P w K tg (FG K a) [it] it (fun i h=>h.IsListIter it a i) where
 mem:=by simp
 obj:=fun i h st b hb=>by
  have e:b=it:=by simpa using hb
  subst e;obtain⟨o,e,c,d⟩:=st;exact⟨o,e,fun v z=>by rw[d] at z;cases z⟩
 keep:=fun i h h' st k=>st.at fun o e=>k it (by simp) o e
 item:=by
  intro X hP hw hK hc i pins s σ H E I hf st hg;subst hP hw hK;obtain⟨xs,x,hq,hx⟩:=hg;obtain⟨its,rv,p,hz⟩:=I.list hq;obtain⟨u,hu,ru⟩:=rv.get hx;obtain⟨f0,f1,f2,f3,f4,f5⟩:=hf it (by simp);refine wpAny_pyNext_list_item st p.isList (x:=u) (by simpa using hu) fun h' dm sb=>?_
  have I1:Inv X pins σ H { s with heap:=h' }:=I.turned (t':=s.toks) (fun b o hb e=>(sb.2 b hb).trans e) f0 f1 f3 f4 f5;obtain⟨o,e,c,d⟩:=id dm;exact⟨u,rfl,xa (s:={ s with heap:=h' }) e c d (by decide) ⟨x,H,I1,ru,⟨rfl,fun ys hy=>by rw[I.Bp hy hq];exact hx⟩,dm,fun b hb=>(hf b hb).1⟩⟩
 done:=by
  intro X hP hw hK hc i pins s σ H E I hf st hg;subst hP hw hK;obtain⟨xs,hq,hx⟩:=hg;obtain⟨its,rv,p,hz⟩:=I.list hq;obtain⟨f0,f1,f2,f3,f4,f5⟩:=hf it (by simp);have hl:=rv.length;exact wpAny_pyNext_list_end (I.ok.hd hc) st p.isList (by simp;omega) fun h' eb=>⟨rfl,I.turned (t':=s.toks) (fun b o hb e=>eb b o hb e) f0 f1 f3 f4 f5⟩
 self:=fun _ _ _ _ _ st h=>wpAny_pyIter_listiter st h
theorem Nn{w:World}(a it:Addr):Turn P w K tg (FH K a) [it] it (fun i h=>h.IsTupleIter it a i) where
 mem:=by simp
 obj:=fun i h st b hb=>by
  have e:b=it:=by simpa using hb
  subst e;obtain⟨o,e,c,d⟩:=st;exact⟨o,e,fun v z=>by rw[d] at z;cases z⟩
 keep:=fun i h h' st k=>st.at fun o e=>k it (by simp) o e
 item:=by
  intro X hP hw hK hc i pins s σ H E I hf st hg;subst hP hw hK;obtain⟨xs,x,hq,hx⟩:=hg;obtain⟨its,rv,p,hz⟩:=I.tuple hq;obtain⟨u,hu,ru⟩:=rv.get hx;obtain⟨f0,f1,f2,f3,f4,f5⟩:=hf it (by simp);refine wpAny_pyNext_tuple_item st (show s.heap.IsTuple a its.toArray from p) (x:=u) (by simpa using hu) fun h' dm sb=>?_
  have I1:Inv X pins σ H { s with heap:=h' }:=I.turned (t':=s.toks) (fun b o hb e=>(sb.2 b hb).trans e) f0 f1 f3 f4 f5;obtain⟨o,e,c,d⟩:=id dm;exact⟨u,rfl,xa (s:={ s with heap:=h' }) e c d (by decide) ⟨x,H,I1,ru,⟨rfl,fun ys hy=>by rw[I.NT hy hq];exact hx⟩,dm,fun b hb=>(hf b hb).1⟩⟩
 done:=by
  intro X hP hw hK hc i pins s σ H E I hf st hg;subst hP hw hK;obtain⟨xs,hq,hx⟩:=hg;obtain⟨its,rv,p,hz⟩:=I.tuple hq;obtain⟨f0,f1,f2,f3,f4,f5⟩:=hf it (by simp);have hl:=rv.length;exact wpAny_pyNext_tuple_end (I.ok.hd hc) st (show s.heap.IsTuple a its.toArray from p) (by simp;omega) fun h' eb=>⟨rfl,I.turned (t':=s.toks) (fun b o hb e=>eb b o hb e) f0 f1 f3 f4 f5⟩
 self:=fun _ _ _ _ _ st h=>wpAny_pyIter_tupleiter st h
theorem Np{w:World}(it:Addr)(lo:Int)(n:Nat):Turn P w K tg (t8 lo n) [it] it (fun i h=>IsRangeIter h it (lo+(i:Nat)*1) ((n:Int)-(i:Nat)) 1) where
 mem:=by simp
 obj:=fun i h st b hb=>by
  have e:b=it:=by simpa using hb
  subst e;exact⟨_,st,fun v z=>by
   have z':Data.fields _=Data.cell v:=z;cases z'⟩
 keep:=fun i h h' st k=>k it (by simp) _ st
 item:=by
  intro X hP hw hK hc i pins s σ H E I hf st hg;subst hP hw hK;obtain⟨f0,f1,f2,f3,f4,f5⟩:=hf it (by simp);have W:=Walks.range (prog:=X.prog) (w:=X.w) (I.ok.hd hc) it lo 1 n;refine W.item i s _ _ hg st fun v h' tk hv dm kk=>?_
  obtain⟨t,rfl⟩:=hv;have I1:Inv X pins σ H { s with heap:=h',toks:=tk }:=I.turned (fun b o hb e=>kk b o (by simpa using hb) e) f0 f1 f3 f4 f5;refine⟨_,rfl,xa (s:={ s with heap:=h',toks:=tk }) (n:="range_iterator") dm rfl rfl (by decide) ⟨.int (lo+i),H,I1,⟨t,?_⟩,⟨rfl,rfl⟩,dm,fun b hb=>(hf b hb).1⟩⟩;rw[Int.mul_one]
 done:=by
  intro X hP hw hK hc i pins s σ H E I hf st hg;subst hP hw hK;obtain⟨f0,f1,f2,f3,f4,f5⟩:=hf it (by simp);exact wpAny_pyNext_range_end (I.ok.hd hc) st (by have:n<=i:=hg;omega) fun h' eb=>⟨rfl,I.turned (t':=s.toks) (fun b o hb e=>eb b o hb e) f0 f1 f3 f4 f5⟩
 self:=fun _ _ _ _ _ st h=>wpAny_pyIter_rangeiter st h
section
variable{X:Cx}{tg:Expr}
noncomputable def Um(K:Zc)(tl:TE):TI:=fun σ H R=>tl σ H fun x H1=>∃a,x=.ref a/\(∃xs,bo K H1 a xs)/\R (FG K a) H1
noncomputable def Vx(K:Zc)(tl:TE):TI:=fun σ H R=>tl σ H fun x H1=>∃a,x=.ref a/\(∃xs,b8 K H1 a xs)/\R (FH K a) H1
theorem Qj{l:Expr}{tl:TE}(hl:PE X l tl):PI X tg l (Um X.K tl):=by
 intro pins s σ H R I h;refine aU (hl pins s σ H _ I h) fun v s1 ⟨x,H1,I1,r1,q1⟩=>?_
 obtain⟨a,e,⟨xs,hq⟩,q⟩:=q1;subst e;cases r1;obtain⟨its,rv,p,hz⟩:=I1.list hq;refine wpAny_pyIter_list p.isList ?_;refine⟨s1.heap.objs.size,[s1.heap.objs.size],_,_,H1,rfl,I1.kept (t':=s1.toks) fun b o e=>Zk _ e,NU a _,⟨_,ZH _ rfl,rfl,rfl⟩,fun b hb=>?_,q⟩;have e:b=s1.heap.objs.size:=by simpa using hb
 subst e;exact I1.pQ (Zf _) (I1.ay.fresh (Zf _))
theorem RY{l:Expr}{tl:TE}(hl:PE X l tl):PI X tg l (Vx X.K tl):=by
 intro pins s σ H R I h;refine aU (hl pins s σ H _ I h) fun v s1 ⟨x,H1,I1,r1,q1⟩=>?_
 obtain⟨a,e,⟨xs,hq⟩,q⟩:=q1;subst e;cases r1;obtain⟨its,rv,p,hz⟩:=I1.tuple hq;refine wpAny_pyIter_tuple (show s1.heap.IsTuple a its.toArray from p) ?_;refine⟨s1.heap.objs.size,[s1.heap.objs.size],_,_,H1,rfl,I1.kept (t':=s1.toks) fun b o e=>Zk _ e,Nn a _,⟨_,ZH _ rfl,rfl,rfl⟩,fun b hb=>?_,q⟩;have e:b=s1.heap.objs.size:=by simpa using hb
 subst e;exact I1.pQ (Zf _) (I1.ay.fresh (Zf _))
variable{σ:St}{H:Hp}
theorem O5{pins:List (Addr×Obj)}{s:Zh}{R:It->Hp->Prop}{E:Value->Zh->Prop}{lo hi:Int}{t u v:Tok}{tk:Nat}(I:Inv X pins σ H s)(h1: -(2 ^ 62)<=lo)(h2:lo<2 ^ 62)(h3: -(2 ^ 62)<=hi)(h4:hi<2 ^ 62)
  (q:R (t8 lo (hi-lo).toNat) H):wpAny (model X.prog X.w) X.A (pyIter (.ref s.heap.objs.size)) (FF X pins σ tg R) E { s with heap:=s.heap.push { cls:=.type "range",data:=.fields #[.int lo t,.int hi u,.int 1 v] },toks:=tk }:=by
 refine wpAny_pyIter_range (IsRange.new ..) (small_one h1 h2 h3 h4) ?_;have I1:Inv X pins σ H { s with heap:=s.heap.push { cls:=.type "range",data:=.fields #[.int lo t,.int hi u,.int 1 v] },toks:=tk }:=I.kept fun b o e=>Zk _ e
 refine⟨(s.heap.push { cls:=.type "range",data:=.fields #[.int lo t,.int hi u,.int 1 v] }).objs.size,[(s.heap.push { cls:=.type "range",data:=.fields #[.int lo t,.int hi u,.int 1 v] }).objs.size],_,_,H,rfl,
  I1.kept (t':=tk) fun b o e=>Zk _ e,Np _ lo (hi-lo).toNat,?_,fun b hb=>?_,q⟩
 ·have e1:lo+((0:Nat):Int)*1=lo:=by simp
  have e2:(((hi-lo).toNat:Nat):Int)-((0:Nat):Int)=Builtin.Range.rangeSize lo hi 1:=by rw[rangeSize_one];split <;> omega
  show IsRangeIter _ _ (lo+((0:Nat):Int)*1) ((((hi-lo).toNat:Nat):Int)-((0:Nat):Int)) 1;rw[e1,e2];exact ZH _ rfl
 ·have e:b=(s.heap.push { cls:=.type "range",data:=.fields #[.int lo t,.int hi u,.int 1 v] }).objs.size:=by simpa using hb
  subst e;exact I1.pQ (Zf _) (I1.ay.fresh (Zf _))
noncomputable def Uo(ta:TA):TI:=fun σ H R=>ta σ H fun vs H1=>∃j:Int,vs=[.int j]/\ -(2 ^ 62)<=j/\j<2 ^ 62/\R (t8 0 j.toNat) H1
theorem NV{a:Expr}{ta:TA}{p pos:Pos}(hg:Gl X "range")(hm:X.mg "range"=none)(ha:PA X [a] ta)(hs:ZF [a] X.env=[(false,eval a X.env)]:=by rfl):PI X tg (.Call (.Name "range" p) [a] [] pos) (Uo ta):=by
 intro pins s σ H R I h;refine Call_ (sU I hg hm boot_range (abh (aU (ha pos pins s σ H _ I h) fun us s1 ⟨vs,H1,I1,r1,q1⟩=>?_) hs rfl));obtain⟨j,e,q1,q2,q⟩:=q1;subst e;cases r1 with
 | cons r rr=>
  cases rr;obtain⟨t,rfl⟩:=r;exact call_range_1 (O5 I1 (by omega) (by omega) q1 q2 (by simpa using q))
noncomputable def EO(wi:TI)(g:TG)(tb:TS):TS:=fun D σ H=>wi σ H fun J H1=>∃W:Nat->Nat->St->Hp->Prop,(∃m,W 0 m σ H1)/\∀i m σ H,W i m σ H →
 (J.stop i H/\D.nx σ H)\/(J.go i H/\∃N:St->Hp->Prop,(∀aj H',N aj H'->∃m',m'<m/\W (i+1) m' aj H')/\∀x H',J.qf i H x H'->g x σ H' fun bE H2=>tb { D with nx:=N,ct:=N,bk:=D.nx } bE H2)
noncomputable def pC(fp:List Addr)(h:Heap):List (Addr×Obj):=fp.filterMap fun b=>(h.get? b).map fun o=>(b,o)
variable{fp:List Addr}
theorem r6{h:Heap}{b:Addr}{o:Obj}(hb:b∈fp)(e:h.get? b=some o):(b,o)∈pC fp h:=acr.mpr ⟨b,hb,by rw[e];rfl⟩
theorem NW{h:Heap}{p:Addr×Obj}(hp:p∈pC fp h):p.1∈fp/\h.get? p.1=some p.2:=by
 obtain⟨b,hb,e⟩:=acr.mp hp;cases q:h.get? b with
 | none=>rw[q] at e;cases e
 | some o=>
  rw[q] at e;have e':(b,o)=p:=ZX e;subst e';exact⟨hb,q⟩
theorem Inv.pinned{pins:List (Addr×Obj)}{s:Zh}(I:Inv X pins σ H s)(hf:∀b∈fp,fx X pins H b)(ho:∀b∈fp,∃o,s.heap.get? b=some o/\∀v,o.data≠.cell v):Inv X (pins++pC fp s.heap) σ H s:=
 I.BZ fun p hp=>(aaA.mp hp).elim (fun z=>I.pin p (ZT _ z)) fun z=>by
  obtain⟨hb,e⟩:=NW z;obtain⟨f0,f1,f2,_⟩:=hf p.1 hb;obtain⟨o,e',d⟩:=ho p.1 hb;rw[e] at e';cases e';exact⟨e,f0,f1,f2,d⟩
theorem Inv.su{pins pl:List (Addr×Obj)}{s:Zh}(I:Inv X (pins++pl) σ H s):Inv X pins σ H s:=I.BZ fun p hp=>I.pin p (ZT _ (aaV _ hp))
theorem RZ{iter:Expr}{body:List Stmt}{wi:TI}{g:TG}{tb:TS}{pos:Pos}(hp:adI (model X.prog X.w) X.A X.env X.xe)(hc:X.calm=true)(hi:PI X tg iter wi)(hg:PG X tg g)(hb:eW X body tb)
  (hs:∀x,aac iter X.env x=pure x:=by intro _;rfl):PS X (.For tg iter body [] pos) (EO wi g tb):=by
 intro pins s σ H D I h;refine wpAny_For (aU (hi pins s σ H _ I h) fun v s1 h1=>aU h1 fun yg s2 h2=>?_) hs;obtain⟨it,fp,tn,J,H2,e,I2,T,cJ,f2,W,⟨m0,w0⟩,turn⟩:=h2;subst e;have xD:∀{H':Hp},(∀b∈fp,H' b=none)->∀b∈fp,fx X pins H' b:=fun hn b hb=>⟨hn b hb,(f2 b hb).2⟩
 refine codeAny_forLoop_any (fun n s'=>∃i aj H',Inv X pins aj H' s'/\tn i s'.heap/\(∀b∈fp,H' b=none)/\W i n aj H') ?_ m0 ⟨0,σ,H2,I2,cJ,fun b hb=>(f2 b hb).1,w0⟩;rintro n s3 ⟨i,h9,H3,I3,eY,FI,w3⟩
 rcases turn i n h9 H3 w3 with⟨stop,qn⟩ | ⟨go,N,hN,step⟩
 ·refine aaX hp (aU (T.done X rfl rfl rfl hc i pins s3 h9 H3 X.xe I3 (xD FI) eY stop) fun r s4 ⟨hr,I4⟩=>?_);subst hr;exact acg ⟨h9,H3,I4,qn⟩
 ·refine aaX hp (aU (T.item X rfl rfl rfl hc i pins s3 h9 H3 X.xe I3 (xD FI) eY go) fun r s4 ⟨u,hr,h4⟩=>?_);subst hr;refine aaX hp (aU h4 fun _ s5 ⟨x,H5,I5,r5,y5,oh,t9⟩=>?_);have We:=I5.pinned (xD t9) (T.obj _ _ oh);refine aaX hp (aU (hg _ s5 h9 H5 x u _ We r5 (step x H5 y5)) fun _ s6 ⟨qK,H6,I6,q6⟩=>?_);refine aaX hp (aU (hb _ s6 qK H6 _ I6 q6) fun f s7 q7=>?_);have again:∀{ia:St} {H7:Hp},Inv X (pins++pC fp s5.heap) ia H7 s7->N ia H7->∃m,m<n/\∃i aj H',Inv X pins aj H' s7/\tn i s7.heap/\(∀b∈fp,H' b=none)/\W i m aj H':=fun{ia H7} I7 n7=>by
   obtain⟨m',hm,w7⟩:=hN ia H7 n7;refine⟨m',hm,i+1,ia,H7,I7.su,T.keep _ _ _ oh fun b hb o e=>(I7.pin (b,o) (ZT _ (ZT _ (r6 hb e)))).1,fun b hb=>?_,w7⟩;obtain⟨o,e,d⟩:=T.obj _ _ oh b hb;exact(I7.pin (b,o) (ZT _ (ZT _ (r6 hb e)))).2.1
  cases f with
  | next=>obtain⟨ia,H7,I7,n7⟩:=q7;exact again I7 n7
  | cont=>obtain⟨ia,H7,I7,n7⟩:=q7;exact again I7 n7
  | brk=>obtain⟨ia,H7,I7,q7⟩:=q7;exact⟨ia,H7,I7.su,q7⟩
  | ret v=>obtain⟨x7,ia,H7,I7,r7,q7⟩:=q7;exact⟨x7,ia,H7,I7.su,r7,q7⟩
end
abbrev R2:=V->V->Hp->VK->Prop
noncomputable def bu(X:Cx)(f:Value->Value->Sem Value)(r:R2):Prop:=
 ∀(pins:List (Addr×Obj)) (s:Zh) (σ:St) (H:Hp) (x y:V) (v u:Value) (Q:VK),Inv X pins σ H s->RelV x v->RelV y u->r x y H Q →
  wpAny (model X.prog X.w) X.A (f v u) (EP X pins σ Q) X.xe s
noncomputable def ua(X:Cx)(f:Value->Sem Value)(r:V->Hp->VK->Prop):Prop:=
 ∀(pins:List (Addr×Obj)) (s:Zh) (σ:St) (H:Hp) (x:V) (v:Value) (Q:VK),Inv X pins σ H s->RelV x v->r x H Q →
  wpAny (model X.prog X.w) X.A (f v) (EP X pins σ Q) X.xe s
noncomputable def cH(X:Cx)(f:Value)(r:List V->Hp->VK->Prop):Prop:=
 ∀(pins:List (Addr×Obj)) (s:Zh) (σ:St) (H:Hp) (xs:List V) (us:List Value) (Q:VK),Inv X pins σ H s->Vals xs us->r xs H Q →
  wpAny (model X.prog X.w) X.A (call f us) (EP X pins σ Q) X.xe s
noncomputable def qg(r:R2)(ta tb:TE):TE:=fun σ H Q=>ta σ H fun x H1=>tb σ H1 fun y H2=>r x y H2 Q
noncomputable def Wf(r:V->Hp->VK->Prop)(ta:TE):TE:=fun σ H Q=>ta σ H fun x H1=>r x H1 Q
noncomputable def rI(C:Int->Int->Prop)(g:Int->Int->V):R2:=fun x y H Q=>∃i j,x=.int i/\y=.int j/\C i j/\Q (g i j) H
noncomputable def iI(g:Int->Int->V):R2:=fun x y H Q=>∃i j,x=.int i/\y=.int j/\Q (g i j) H
noncomputable def rU(g:Int->V):V->Hp->VK->Prop:=fun x H Q=>∃i,x=.int i/\Q (g i) H
section
variable{X:Cx}{a b c:Expr}{ta tb tc:TE}{pos:Pos}
theorem xE(ha:PE X a ta)(hb:PE X b tb){pins:List (Addr×Obj)}{s:Zh}{σ:St}{H:Hp}{R:V->V->Hp->Prop}(I:Inv X pins σ H s)
  (h:ta σ H fun x H1=>tb σ H1 fun y H2=>R x y H2) {Q:Value->Zh->Prop} {f:Value->Value->Sem Value}
  (hf:∀v u s2 x y H2,Inv X pins σ H2 s2->RelV x v->RelV y u->R x y H2->wpAny (model X.prog X.w) X.A (f v u) Q X.xe s2) :
  wpAny (model X.prog X.w) X.A (eval a X.env) (fun v bg=>wpAny (model X.prog X.w) X.A (eval b X.env) (fun u mC=>wpAny (model X.prog X.w) X.A (f v u) Q X.xe mC) X.xe bg) X.xe s:=by
 refine aU (ha pins s σ H _ I h) fun v s1 ⟨x,H1,I1,r1,q1⟩=>?_
 refine aU (hb pins s1 σ H1 _ I1 q1) fun u s2 ⟨y,H2,I2,r2,q2⟩=>?_
 exact hf v u s2 x y H2 I2 r1 r2 q2
theorem Up{op:Operator}{r:R2}(ho:bu X (abA op) r)(ha:PE X a ta)(hb:PE X b tb):PE X (.BinOp a op b pos) (qg r ta tb):=by
 intro pins s σ H Q I h;exact wpAny_BinOp (xE ha hb I h fun v u s2 x y H2 I2 rx ry q=>ho pins s2 σ H2 x y v u Q I2 rx ry q)
theorem Uq{op:UnaryOp}{r:V->Hp->VK->Prop}(ho:ua X (unaryOp op) r)(ha:PE X a ta):PE X (.UnaryOp op a pos) (Wf r ta):=by
 intro pins s σ H Q I h;exact UnaryOp_ (aU (ha pins s σ H _ I h) fun v s1 ⟨x,H1,I1,r1,q1⟩=>ho pins s1 σ H1 x v Q I1 r1 q1)
variable{f:Value->Value->Sem Value}
theorem yh{C:Int->Int->Prop}{g:Int->Int->Int}
  (rule:∀(i j:Int) (t u:Tok) (s:Zh) (Q:Value->Zh->Prop) (E:Value->Zh->Prop),C i j->Q (.int (g i j) s.toks) { s with toks:=s.toks+1 }->wpAny (model X.prog X.w) X.A (f (.int i t) (.int j u)) Q E s) :
  bu X f (rI C fun i j=>.int (g i j)):=by
 intro pins s σ H x y v u Q I rx ry h;obtain⟨i,j,rfl,rfl,hc,q⟩:=h;obtain⟨t,rfl⟩:=rx;obtain⟨t',rfl⟩:=ry;exact rule i j t t' s _ _ hc ⟨.int (g i j),H,I.tok _,⟨_,rfl⟩,q⟩
theorem EQ{g:Int->Int->Int}
  (rule:∀(i j:Int) (t u:Tok) (s:Zh) (Q:Value->Zh->Prop) (E:Value->Zh->Prop),Q (.int (g i j) s.toks) { s with toks:=s.toks+1 }->wpAny (model X.prog X.w) X.A (f (.int i t) (.int j u)) Q E s) :
  bu X f (iI fun i j=>.int (g i j)):=by
 intro pins s σ H x y v u Q I rx ry h;obtain⟨i,j,rfl,rfl,q⟩:=h;obtain⟨t,rfl⟩:=rx;obtain⟨t',rfl⟩:=ry;exact rule i j t t' s _ _ ⟨.int (g i j),H,I.tok _,⟨_,rfl⟩,q⟩
theorem ER{g:Int->Int->Bool}
  (rule:∀(i j:Int) (t u:Tok) (s:Zh) (Q:Value->Zh->Prop) (E:Value->Zh->Prop),Q (.bool (g i j)) s->wpAny (model X.prog X.w) X.A (f (.int i t) (.int j u)) Q E s) :
  bu X f (iI fun i j=>.bl (g i j)):=by
 intro pins s σ H x y v u Q I rx ry h;obtain⟨i,j,rfl,rfl,q⟩:=h;obtain⟨t,rfl⟩:=rx;obtain⟨t',rfl⟩:=ry;exact rule i j t t' s _ _ ⟨.bl (g i j),H,I,rfl,q⟩
noncomputable def pR(i j:Int):Prop:=(-(2 ^ 64)<i/\i<2 ^ 64)\/(-(2 ^ 64)<j/\j<2 ^ 64)
theorem pR.ok{i j:Int}(h:pR i j):IntMulOk i j:=by
 rcases h with⟨h1,h2⟩ | ⟨h1,h2⟩
 ·exact .of_left (intBits_le_64 h1 h2)
 ·exact .of_right (intBits_le_64 h1 h2)
theorem R3:bu X (abA .Add) (iI fun i j=>.int (i+j)):=EQ fun _ _ _ _ _ _ _ q=>add_int q
theorem R4:bu X (abA .Sub) (iI fun i j=>.int (i-j)):=EQ fun _ _ _ _ _ _ _ q=>sub_int q
theorem R5:bu X (abA .Mult) (rI pR fun i j=>.int (i*j)):=yh fun _ _ _ _ _ _ _ hc q=>mul_int q hc.ok
theorem Qk:bu X (abA .Mod) (rI (fun _ j=>j≠0) fun i j=>.int (i.fmod j)):=yh fun _ _ _ _ _ _ _ hc q=>mod_int' hc q
theorem Wg{f:Value->Sem Value}{g:Int->Int}
  (rule:∀(i:Int) (t:Tok) (s:Zh) (Q:Value->Zh->Prop) (E:Value->Zh->Prop),Q (.int (g i) s.toks) { s with toks:=s.toks+1 }->wpAny (model X.prog X.w) X.A (f (.int i t)) Q E s) :
  ua X f (rU fun i=>.int (g i)):=by
 intro pins s σ H x v Q I rx h;obtain⟨i,rfl,q⟩:=h;obtain⟨t,rfl⟩:=rx;exact rule i t s _ _ ⟨.int (g i),H,I.tok _,⟨_,rfl⟩,q⟩
theorem R6:ua X (unaryOp .USub) (rU fun i=>.int (-i)):=Wg fun _ _ _ _ _ q=>neg_int q
end
section
variable{X:Cx}{a b c:Expr}{ta tb tc:TE}{pos:Pos}
theorem R7{pins:List (Addr×Obj)}{σ:St}{H:Hp}{s:Zh}{Q:VK}{k k':Bool}(I:Inv X pins σ H s)(q:Q (.bl k) H)(e:k=k'):EP X pins σ Q (.bool k') s:=by
 subst e;exact⟨.bl k,H,I,rfl,q⟩
theorem Ur:bu X (aaM .Lt) (iI fun i j=>.bl (decide (i<j))):=ER fun _ _ _ _ _ _ _ q=>lt_int q
theorem Us:bu X (aaM .Gt) (iI fun i j=>.bl (decide (j<i))):=ER fun _ _ _ _ _ _ _ q=>gt_int q
theorem R8:bu X (aaM .Is) (fun x y H Q=>y=.aG/\Q (.bl (decide (x=.aG))) H):=by
 intro pins s σ H x y v u Q I rx ry h;obtain⟨rfl,q⟩:=h;cases ry;refine is_none_gen (R7 I q ?_);cases x <;> first
  | (cases rx;rfl)
  | (obtain⟨t,rfl⟩:=rx;rfl)
variable{r:R2}
theorem bu.or{f:Value->Value->Sem Value}{r':R2}(h:bu X f r)(h':bu X f r'):bu X f (fun x y H Q=>r x y H Q\/r' x y H Q):=by
 intro pins s σ H x y v u Q I rx ry q
 rcases q with q | q
 ·exact h pins s σ H x y v u Q I rx ry q
 ·exact h' pins s σ H x y v u Q I rx ry q
theorem pD(b:Expr){op:CmpOp}(h:op≠.In:=by decide)(h2:op≠.NotIn:=by decide):aaQ op b=false:=by
 have e1:(op==CmpOp.In)=false:=by cases op <;> first | rfl | exact absurd rfl h
 have e2:(op==CmpOp.NotIn)=false:=by cases op <;> first | rfl | exact absurd rfl h2
 cases b <;> simp[aaQ,e1,e2]
theorem Ql{op:CmpOp}(ho:bu X (aaM op) r)(ha:PE X a ta)(hb:PE X b tb)(hm:aaQ op b=false):PE X (.Compare a [op] [b] pos) (qg r ta tb):=by
 intro pins s σ H Q I h;exact wpAny_Compare1 (xE ha hb I h fun v u s2 x y H2 I2 rx ry q=>ho pins s2 σ H2 x y v u Q I2 rx ry q) hm
noncomputable def Ut(t:TE):TT:=fun σ H Q=>t σ H fun x H'=>∃k,x=.bl k/\Q k H'
theorem Qm{op:CmpOp}(ho:bu X (aaM op) r)(ha:PE X a ta)(hb:PE X b tb)(hm:aaQ op b=false):PT X (.Compare a [op] [b] pos) (Ut (qg r ta tb)):=by
 intro pins s σ H Q I h;refine wpAny_isTrue_Compare1 (aU (ha pins s σ H _ I h) fun v s1 ⟨x,H1,I1,r1,q1⟩=>aU (hb pins s1 σ H1 _ I1 q1) fun u s2 ⟨y,H2,I2,r2,q2⟩=>
  aU (ho pins s2 σ H2 x y v u _ I2 r1 r2 q2) fun c s3 ⟨z,H3,I3,r3,k,e,q3⟩=>?_) hm
 subst e;cases r3;exact acB ⟨H3,I3,q3⟩
theorem m9:(Zt:Nat)<2 ^ 63:=by rw[sizeLine_eq];decide
theorem Nq:bu X (abA .Add) (fun x y H Q=>∃i j,x=.str i/\y=.str j/\i.length+j.length<=Zt/\Q (.str (i++j)) H):=by
 intro pins s σ H x y v u Q I rx ry h;obtain⟨i,j,rfl,rfl,hz,q⟩:=h;obtain⟨t,rfl⟩:=rx;obtain⟨t',rfl⟩:=ry;exact add_str (fun t' tk=>⟨.str (i++j),H,I.tok _,⟨_,rfl⟩,q⟩) hz
theorem vals1{x:V}{us:List Value}(r:Vals [x] us):∃u,us=[u]/\RelV x u:=by
 cases r with
 | cons r1 r2=>cases r2;exact⟨_,rfl,r1⟩
theorem vg:cH X (.type "int") (fun xs H Q=>(∃i,xs=[.int i]/\Q (.int i) H)\/∃k,xs=[.bl k]/\Q (.int (if k then 1 else 0)) H):=by
 intro pins s σ H xs us Q I r h
 rcases h with⟨i,rfl,q⟩ | ⟨k,rfl,q⟩
 ·obtain⟨u,rfl,t,rfl⟩:=vals1 r;exact call_int_int ⟨.int i,H,I,⟨_,rfl⟩,q⟩
 ·obtain⟨u,rfl,r1⟩:=vals1 r;cases r1;exact call_int_bool ⟨.int (if k then 1 else 0),H,I.tok _,⟨_,rfl⟩,q⟩
end
theorem gr.some_of{v:V}{o:Option Value}(r:gr (some v) o):∃u,o=some u/\RelV v u:=by
 cases o with
 | none=>exact(show False from r).elim
 | some u=>exact⟨u,rfl,r⟩
structure cf(k:Nat)(A:abd):Prop where
 hd:A.handled=none
 dp:A.depth+3*k+5<recursionLimit
 un:A.units+16*k+200<cLine
theorem cf.mono{j k:Nat}(r:cf k A)(h:j<=k):cf j A:=⟨r.hd,by have:=r.dp;omega,by have:=r.un;omega⟩
theorem cf.deeper{k:Nat}{A:abd}(r:cf (k+1) A)(env:Env):cf k (A.deeper env):=
 ⟨r.hd,by have:=r.dp;show A.depth+1+3*k+5<_;omega,by have:=r.un;show A.units+3+16*k+200<_;omega⟩
theorem cf.depth{k:Nat}{A:abd}(r:cf k A):A.depth<recursionLimit:=by have:=r.dp;omega
theorem cf.units{k:Nat}{A:abd}(r:cf k A):A.units+64<cLine:=by have:=r.un;omega
noncomputable def Vy:TA:=fun _ H Q=>Q [] H
noncomputable def Uu(ta:TE)(tr:TA):TA:=fun σ H Q=>ta σ H fun x H1=>tr σ H1 fun xs H2=>Q (x::xs) H2
section
variable{X:Cx}{e:Expr}{es:List Expr}{te:TE}{t:TA}{pos:Pos}
theorem CT:PA X [] Vy:=fun _ _ _ _ H Q I h=>Calls.spliced_nil ⟨[],H,I,.nil,h⟩
theorem vS(ha:PE X e te)(hr:PA X es t)(hs:ZF (e::es) X.env=(false,eval e X.env)::ZF es X.env:=by rfl):PA X (e::es) (Uu te t):=by
 intro pos pins s σ H Q I h;rw[hs];show wpAny _ _ (spliced ((false,eval e X.env)::acb pos (ZF es X.env))) _ _ s;refine Calls.spliced_cons (aU (ha pins s σ H _ I h) fun u s1 ⟨x,H1,I1,r1,q1⟩=>?_);exact aU (hr pos pins s1 σ H1 _ I1 q1) fun us s2 ⟨xs,H2,I2,r2,q2⟩=>⟨x::xs,H2,I2,.cons r1 r2,q2⟩
noncomputable def Vz(t:TA):TE:=fun σ H Q=>t σ H fun xs H1=>xs.length<=Zt/\∀p,H1 p=none->Q (.ref p) (upd H1 p (.tup xs))
noncomputable def VA(t:TA):TE:=fun σ H Q=>t σ H fun xs H1=>xs.length<=Zt/\∀p,H1 p=none->Q (.ref p) (upd H1 p (.lst xs))
theorem R9{x1}(h:PA X es t):PE X (.Tuple es x1 pos) (Vz t):=by
 intro pins s σ H Q I hq;refine wpAny_Tuple_spliced (aU (h pos pins s σ H _ I hq) fun us s1 ⟨xs,H1,I1,r,z,q⟩=>⟨by rw[<- r.length];exact z,?_⟩);have hf:H1 s1.heap.objs.size=none:=I1.ay.fresh (Zf _);refine⟨.ref s1.heap.objs.size,upd H1 s1.heap.objs.size (.tup xs),I1.laid (t':=s1.toks) (fun b u e=>Zk _ e) (Zf _) ?_,rfl,q _ hf⟩;exact⟨z,us,r,⟨_,ZH _ rfl,rfl,_,rfl⟩⟩
theorem Sa(h:PA X es t):PE X (.List es pos) (VA t):=by
 intro pins s σ H Q I hq;refine wpAny_List_spliced (aU (h pos pins s σ H _ I hq) fun us s1 ⟨xs,H1,I1,r,z,q⟩=>⟨by rw[<- r.length];exact z,?_⟩);have hf:H1 s1.heap.objs.size=none:=I1.ay.fresh (Zf _);refine⟨.ref s1.heap.objs.size,upd H1 s1.heap.objs.size (.lst xs),I1.laid (t':=s1.toks) (fun b u e=>Zk _ e) (Zf _) ?_,rfl,q _ hf⟩;exact⟨z,us,0,r,ZH _ rfl⟩
end
abbrev Sp:=List V->Hp->VK->XK->Prop
abbrev kx:=List Env->Hp->Zh->XK->Value->Zh->Prop
structure pS(P:aah)(w:World)(K:Zc)(mg:Str->Option Value)(base:Heap)(A:abd)(outer:List Env)(s:Zh)(H:Hp):Prop where
 frames:A.frames=some outer
 mod:Mod K mg base
 bs:∀b o,base.get? b=some o->s.heap.get? b=some o/\H b=none
 iF:base.objs.size<=s.heap.objs.size
 eF:s.heap.FunFrames base outer
 kq:∀b∈dk outer,H b=none
 ay:bQ P w H s.heap
 bare:acK s.gens
noncomputable def CE(outer:List Env)(P:aah)(w:World)(H:Hp)(s:Zh)(Q:VK)(u:Value)(s':Zh):Prop:=
 ∃v H',s'.os=s.os/\acK s'.gens/\Un (dk outer) [] H H' s.heap s'.heap/\bQ P w H' s'.heap/\RelV v u/\Q v H'
noncomputable def CR(CX:kx)(outer:List Env)(P:aah)(w:World)(H:Hp)(s:Zh)(Q:VK)(E:XK)(r:Result)(s':Zh):Prop:=
 match r with
 | .ok (.ret u)=>CE outer P w H s Q u s'
 | .ok _=>False
 | .error e=>CX outer H s E e s'
structure bP(P:aah)(w:World)(K:Zc)(mg:Str->Option Value)(base:Heap)(CX:kx)(k:Nat)(f:Addr)(fd:ZW)(ps:List Str)(sp:Sp):Prop where
 len:∀vs H Q E,sp vs H Q E->vs.length=ps.length
 run:∀(A:abd) (outer:List Env) (s:Zh) (H:Hp) (args:Args) (us:List Value) (vs:List V) (Q:VK) (E:XK),cf k A->pS P w K mg base A outer s H->BindsTo s fd args (ps.zip us)->Vals vs us->sp vs H Q E →
  codeAny (model P w) A (.call (.ref f) args) (CR CX outer P w H s Q E) s
section
variable{X:Cx}{pins:List (Addr×Obj)}{σ:St}{H:Hp}{s s':Zh}
theorem Inv.ES(I:Inv X pins σ H s):pS X.prog X.w X.K X.mg X.base X.A X.stack s H:=
 ⟨I.ok.frames,I.ok.mod,I.bs,Zq I.ok.iF I.sz,I.stack,I.sM,I.ay,I.bare⟩
theorem Inv.after{Q:VK}{u:Value}(I:Inv X pins σ H s)(h:CE X.stack X.prog X.w H s Q u s'):EP X pins σ Q u s':=by
 obtain⟨v,H',os,bare,un,ay,r,q⟩:=h;obtain⟨hh,g,d,t,Wh⟩:=s';obtain rfl:Wh=s.os:=os;exact⟨v,H',I.call (h':=hh) (g':=g) (d':=d) (t':=t) (ch:=[]) un ay bare (fun b z=>absurd z (by simp)),r,q⟩
end
noncomputable def Binds(K:Zc)(fd:ZW)(ps:List Str)(ds:List Value):Prop:=
 ∀(s:Zh) (us:List Value),K.In s.heap->(us++ds).length=ps.length->BindsTo s fd ⟨us,[]⟩ (ps.zip (us++ds))
theorem Binds.all{fd:ZW}{ps:List Str}(h:∀us:List Value,us.length=ps.length->bindArgs fd ⟨us,[]⟩=pure (ps.zip us)):Binds K fd ps []:=fun s us _ hl=>by
 rw[aak] at hl ⊢;exact .of_eq (h us hl)
structure cF(N P:List Str)(sc:Scope):Prop where
 kind:sc.kind=.function
 co:sc.isCoroutine=false
 gen:sc.isGenerator=false
 nd:N.Nodup
 pre:N.take P.length=P
 iJ:∀x∈P,sc.names.lookup x=some .local\/sc.names.lookup x=some .cell
 Sb:∀y∈sc.names,y.2≠.free
theorem AO{kindOf:Str->Option abn}{x:Str}:∀{binds:List (Str×Value)} {m:Str->Option Value},(∀v,(x,v)∉binds)->bindL kindOf binds m x=m x
 | [],_,_=>rfl
 | (n,v)::r,m,h=>by
  unfold bindL;rw[AO fun w hw=>h w (ZD _ hw)];split
  ·have:x≠n:=by rintro rfl;exact h v aaj
   simp[this]
  ·rfl
theorem AQ{kindOf:Str->Option abn}{x:Str}:∀{binds:List (Str×Value)} {m:Str->Option Value},(∀v,(x,v)∉binds)->bindC kindOf binds m x=m x
 | [],_,_=>rfl
 | (n,v)::r,m,h=>by
  unfold bindC;rw[AQ fun w hw=>h w (ZD _ hw)];split
  ·rfl
  ·have:x≠n:=by rintro rfl;exact h v aaj
   simp[this]
theorem AR{kindOf:Str->Option abn}{x:Str}{v:Value}:∀{P:List Str} {vs:List Value} {i:Nat} {m:Str->Option Value},P.Nodup->P[i]? =some x->vs[i]? =some v->kindOf x=some .local →
  bindL kindOf (P.zip vs) m x=some v
 | [],_,_,_,_,h,_,_=>by simp at h
 | _::_,[],_,_,_,_,h,_=>by simp at h
 | p::P,w::vs,0,m,nd,h1,h2,hk=>by
  simp at h1 h2;subst h1;subst h2
  show bindL kindOf ((p,w)::P.zip vs) m p=_;unfold bindL;rw[AO fun v hv=>(abK.mp nd).1 (abi hv).1,if_pos hk];simp
 | p::P,w::vs,i+1,m,nd,h1,h2,hk=>by
  show bindL kindOf ((p,w)::P.zip vs) m x=_;unfold bindL;exact AR (i:=i) (abK.mp nd).2 (by simpa using h1) (by simpa using h2) hk
theorem AS{kindOf:Str->Option abn}{x:Str}{v:Value}:∀{P:List Str} {vs:List Value} {i:Nat} {m:Str->Option Value},P.Nodup->P[i]? =some x->vs[i]? =some v->kindOf x≠some .local →
  bindC kindOf (P.zip vs) m x=some v
 | [],_,_,_,_,h,_,_=>by simp at h
 | _::_,[],_,_,_,_,h,_=>by simp at h
 | p::P,w::vs,0,m,nd,h1,h2,hk=>by
  simp at h1 h2;subst h1;subst h2
  show bindC kindOf ((p,w)::P.zip vs) m p=_;unfold bindC;rw[AQ fun v hv=>(abK.mp nd).1 (abi hv).1,if_neg hk];simp
 | p::P,w::vs,i+1,m,nd,h1,h2,hk=>by
  show bindC kindOf ((p,w)::P.zip vs) m x=_;unfold bindC;exact AS (i:=i) (abK.mp nd).2 (by simpa using h1) (by simpa using h2) hk
noncomputable def start(N:List Str)(vs:List V):St:=vs.map some++Zi (N.length-vs.length) none
noncomputable def df(CX:kx)(P:aah)(w:World)(K:Zc)(mg:Str->Option Value)(base:Heap)(N:List Str)(qual:Str)(scope:Scope)(f:Addr)(cd:Value)(A:abd)(outer:List Env)(s:Zh)(H:Hp)(E:XK):Cx where
 prog:=P
 w:=w
 K:=K
 mg:=mg
 base:=base
 A:=A.deeper (abx qual scope s.heap.objs.size f cd)
 N:=N
 aA:=s
 aL:=H
 env:=abx qual scope s.heap.objs.size f cd
 outer:=outer
 stack:=abx qual scope s.heap.objs.size f cd::outer
 ex:=[]
 calm:=true
 fn:=fun _=>true
 pn:=[]
 xe:=fun e s'=>wpAny (model P w) (A.deeper (abx qual scope s.heap.objs.size f cd)) (leaving (abx qual scope s.heap.objs.size f cd) e) (fun _ ez=>CX outer H s E e ez) (fun e' ez=>CX outer H s E e' ez) s'
theorem Bq{sc:Scope}{n:Nat}{x:Str}(h:sc.names.lookup x=some .cell):∃c,(ade n sc.names []).lookup x=some c:=by
 have q:=abb sc.names n [] (.inl h);exact aan.mp q
theorem vh{CX:kx}{w:World}{mg:Str->Option Value}{base:Heap}{N ps:List Str}{qual:Str}{scope:Scope}{f:Addr}{cd:Value}{outer:List Env}{s s1:Zh}{E:XK}{us:List Value}{vs:List V}
  (S:cF N ps scope) (hd:A.handled=none) (e0:pS P w K mg base A outer s H) (hl:vs.length=ps.length) (r:Vals vs us)
  (x:InCallC s s.heap.objs.size (bindL (abx qual scope s.heap.objs.size f cd).kindOf (ps.zip us) fun _=>none) (ade (s.heap.objs.size+1) scope.names []) (bindC (abx qual scope s.heap.objs.size f cd).kindOf (ps.zip us) fun _=>none) s1) :
  Inv (df CX P w K mg base N qual scope f cd A outer s H E) [] (start N vs) H s1:=by
 have fE:ps.length<=N.length:=by have:=congrArg List.length S.pre;rw[List.length_take] at this;omega
 obtain⟨h1,tk,rfl,hk⟩:=x.done;have yi:∀b:Addr,b∉(df CX P w K mg base N qual scope f cd A outer s H E).ex:=fun b z=>absurd (show b∈([]:List Addr) from z) (by simp)
 refine⟨⟨e0.mod,S.kind,rfl,rfl,Zf _,fun y z c h1 h2=>?_,fun y hy=>?_,fun y c _ h=>?_,fun _=>hd,adx e0.frames,.inr ⟨rfl,rfl⟩,fun b z=>absurd z (yi b),e0.bs,e0.iF,fun b _ _=>yi b,fun b z=>absurd z (yi b),e0.eF,e0.kq⟩,
  rfl,e0.bare,Un.kept hk,⟨_,x.toInCall.ns,fun i y v h1 h2 h3=>?_⟩,fun y c h=>⟨_,x.cell y c h⟩,e0.ay.fresh (Zf _),fun y c h=>?_,fun p hp=>absurd (show p∈([]:List (Addr×Obj)) from hp) (by simp),e0.ay.kept hk,?_⟩
 ·exact name_of_addr x.apart (aax h1) (aax h2)
 ·have hy:scope.names.lookup y=some .cell\/scope.names.lookup y=some .free:=hy
  rcases hy with hy | hy
  ·exact Bq hy
  ·exact absurd rfl (S.Sb _ (aax hy))
 ·exact abG (x.above y c (aax h))
 ·have hi:i<vs.length:=by
   unfold start at h2;by_cases hi:i<vs.length
   ·exact hi
   ·rw[aco (by simpa using hi)] at h2;rw[aaZ] at h2;split at h2 <;> cases h2
  have ha:vs[i]? =some v:=by
   unfold start at h2;rw[ZU (by simpa using hi),Ze] at h2;cases e:vs[i]? with
   | none=>rw[e] at h2;cases h2
   | some a=>rw[e] at h2;cases h2;rfl
  obtain⟨u,hu,rv⟩:=r.get ha;have hp:ps[i]? =some y:=by
   rw[<- S.pre,List.getElem?_take_of_lt (by omega)];exact h1
  have FJ:ps.Nodup:=by rw[<- S.pre];exact S.nd.sublist (List.take_sublist _ _)
  refine⟨u,rv,?_⟩
  rcases S.iJ y (Zj hp) with k | k
  ·exact .inl ⟨k,AR FJ hp hu k⟩
  ·obtain⟨c,e⟩:=Bq (n:=s.heap.objs.size+1) k;refine .inr ⟨.inl k,c,e,?_⟩;have q:=x.cell y c e;rw[AS FJ hp hu (by show scope.names.lookup y≠_;rw[k];decide)] at q;exact q
 ·have z:=e0.ay.fresh (abG (x.above y c (aax h)));exact⟨fun _=>z,.inl z⟩
 ·unfold start;show _=N.length;rw[Zz,Zd,abT];omega
theorem Uv{CX:kx}{w:World}{mg:Str->Option Value}{base:Heap}{k:Nat}{f:Addr}{name qual:Str}{params:Arguments}{body:List Stmt}{scope:Scope}{dV kV doc pm ba ct oc:Value}{an od:Option Addr}
  {eZ:Array (Option Value)} {N ps:List Str} {sp:Sp} (lk:K.lookup f=some ⟨oc,od,.func (ZC name qual params body scope dV kV doc pm an ba ct),eZ⟩) (hcd:ZA K ba qual=true) (S:cF N ps scope)
  (len:∀vs H Q E,sp vs H Q E->vs.length=ps.length)
  (i8:∀(A:abd) (outer:List Env) (s:Zh) (H:Hp) (vs:List V) (Q:VK) (E:XK),cf k (A.deeper (abx qual scope s.heap.objs.size f ba))->sp vs H Q E →
   ∃t,eW (df CX P w K mg base N qual scope f ba A outer s H E) body t/\t { nx:=fun _ H'=>Q .aG H',rt:=Q } (start N vs) H) :
  bP P w K mg base CX (k+1) f (ZC name qual params body scope dV kV doc pm an ba ct) ps sp:=by
 refine⟨len,fun A outer s H args us vs Q E hr e0 hb r l4=>?_⟩;have hl:=len _ _ _ _ l4;have KX:K.In s.heap:=e0.mod.n9.keeps fun b o e=>(e0.bs b o e).1
 have lim:s.heap.NoLimit:=e0.mod.nolimit.keeps fun b o e=>(e0.bs b o e).1
 have pE:∀y∈ps.zip us,scope.names.lookup y.1=some .local\/(scope.names.lookup y.1=some .cell/\((ade (s.heap.objs.size+1) scope.names []).lookup y.1).isSome=true):=fun⟨n,v⟩ hy=>by
  rcases S.iJ n (abi hy).1 with q | q
  ·exact .inl q
  ·exact .inr ⟨q,abb _ _ _ (.inl q)⟩
 refine abU hr.depth (KX _ _ lk) rfl S.co S.gen rfl (acs KX hcd) (hb _ _ _ _ ?_);refine abt S.kind pE fun env he s1 x=>?_
 subst he;refine⟨lim.keeps x.toInCall.keep,codeAny_func ?_⟩;obtain⟨t,ht,hq⟩:=i8 A outer s H vs Q E (hr.deeper _) l4;have I:Inv (df CX P w K mg base N qual scope f ba A outer s H E) [] (start N vs) H s1:=vh S hr.hd e0 hl r x;refine aai (ht [] s1 (start N vs) H _ I hq) (fun fl s' hs=>?_) fun e s' hs=>hs
 have fin:∀{aj:St} {H':Hp} {v:V} {u:Value},Inv (df CX P w K mg base N qual scope f ba A outer s H E) [] aj H' s'->RelV v u->Q v H'->CE outer P w H s Q u s':=
  fun{aj H' v u} J rv q=>⟨v,H',J.os,J.bare,J.base,J.ay,rv,q⟩
 cases fl with
 | ret u=>
  obtain⟨v,aj,H',J,rv,q⟩:=hs;exact fin J rv q
 | next=>
  obtain⟨aj,H',J,q⟩:=hs;exact fin (v:=V.aG) (u:=adP) J rfl q
 | brk=>
  obtain⟨_,_,_,q⟩:=hs;exact abo q
 | cont=>
  obtain⟨_,_,_,q⟩:=hs;exact abo q
section
variable{X:Cx}{x:Str}{p pos:Pos}{e:Expr}{es:List Expr}{t:TA}{id T:String}{r:List V->Hp->VK->Prop}
noncomputable def yj(r:List V->Hp->VK->Prop)(t:TA):TE:=fun σ H Q=>t σ H fun vs H1=>r vs H1 Q
theorem O6(hc:cH X (.builtin id) r)(hg:Gl X x)(hm:X.mg x=none)(hv:aaz x=some (.builtin id))(ha:PA X (e::es) t)(hn:x≠"__name__":=by decide)(c9:(x==("__debug__":Str))=false:=by decide)
  (he:ZF (e::es) X.env=(false,eval e X.env)::ZF es X.env:=by rfl) (fE:(acb pos (ZF es X.env)).any (·.1)=false:=by rfl):PE X (.Call (.Name x p) (e::es) [] pos) (yj r t):=by
 intro pins s σ H Q I h;refine abe (sU I hg hm hv ?_ hn c9);exact PyProof.Rows.callWith_builtin1 (aU (ha pos pins s σ H _ I h) fun us s1 ⟨vs,H1,I1,r1,q1⟩=>hc pins s1 σ H1 vs us Q I1 r1 q1) he fE
theorem NX(hc:cH X (.type T) r)(hg:Gl X x)(hm:X.mg x=none)(hv:aaz x=some (.type T))(ha:PA X (e::es) t)(hn:x≠"__name__":=by decide)(c9:(x==("__debug__":Str))=false:=by decide)
  (he:ZF (e::es) X.env=(false,eval e X.env)::ZF es X.env:=by rfl) (fE:(acb pos (ZF es X.env)).any (·.1)=false:=by rfl):PE X (.Call (.Name x p) (e::es) [] pos) (yj r t):=by
 intro pins s σ H Q I h;refine abe (sU I hg hm hv ?_ hn c9);exact abh (aU (ha pos pins s σ H _ I h) fun us s1 ⟨vs,H1,I1,r1,q1⟩=>hc pins s1 σ H1 vs us Q I1 r1 q1) he fE
end
end L2
namespace HT
open PySem PyProof.Rows
section
open PySem.SeqAt
open PySem.AutoSeq1 (wpAny_loadPart')
open PySem.MeetsSeq PySem.MeetsSeq2 PySem.MeetsSeq3
end
section
variable{prog:aah}{w:World}{A:abd}{E:Value->Zh->Prop}{s:Zh}
theorem Qn{t b:Addr}{vs ws:List Value}{Q:Value->Zh->Prop}(ht:IsTup s.heap t vs.toArray)(hb:IsTup s.heap b ws.toArray)(hv:vs≠[])
  (h1:ws=[]->Q (.ref t) s) (h2:ws≠[]->Q (.ref s.heap.objs.size) { s with heap:=s.heap.push { cls:=.type "tuple",data:=.seq (vs++ws).toArray } })
  (hsz:vs.length+ws.length<=Zt):wpAny (model prog w) A (abA .Add (.ref t) (.ref b)) Q E s:=by
 obtain⟨⟨cls,dd,data,sl⟩,ho,hc,n,hd⟩:=id ht;obtain⟨⟨YC,FK,data2,l5⟩,ub,FL,n2,hd2⟩:=id hb;simp only at hc hd FL hd2;subst hc hd FL hd2;have e:vs.toArray++ws.toArray=(vs++ws).toArray:=by simp
 by_cases hw:ws=[]
 ·exact concat_meets ⟨_,ho,rfl⟩ ⟨_,ub,rfl⟩ noFill_tuple_add seq_tuple_add acW acL (acC _ _)
   (tuple_addW1 t b vs.toArray ws.toArray n n2 dd FK sl l5 (by simpa using hv) (by simp[hw])) ⟨ho,ub,h1 hw⟩
 ·refine concat_meets ⟨_,ho,rfl⟩ ⟨_,ub,rfl⟩ noFill_tuple_add seq_tuple_add acW acL (acC _ _)
   (tuple_addW2 t b vs.toArray ws.toArray n n2 dd FK sl l5 (by simpa using hv) (by simpa using hw) (by rw[Zs,Zs];exact hsz)) ⟨ho,ub,?_⟩
  rw[e];exact h2 hw
noncomputable def fb(n d:Nat):Option Int->Nat
 | none=>d
 | some v=>if v<0 then(v+(n:Int)).toNat else min v.toNat n
end
end HT
namespace L2
open PySem PySem.Spec PyProof.Rows
abbrev TO:=St->Hp->(Option Int->Hp->Prop)->Prop
theorem intsAre_of{ns:List Int}:∀{us:List Value},Vals (ns.map V.int) us->adf us ns:=by
 induction ns with
 | nil=>intro us r;rw[abV] at r;cases r;exact .nil
 | cons n ns ih=>
  intro us r;rw[ZL] at r;cases r with
  | cons r1 r2=>
   obtain⟨t,e⟩:=r1;subst e;exact .cons n t (ih r2)
section
variable{X:Cx}{e:Expr}{te:TE}{lo hi:Option Expr}{tl th:TO}{pos p2:Pos}
noncomputable def Wj(X:Cx)(r:V->Option Int->Option Int->Hp->VK->Prop):Prop:=
 ∀(pins:List (Addr×Obj)) (s:Zh) (σ:St) (H:Hp) (x:V) (v vl vu:Value) (lo hi:Option Int) (sl:Addr) (Q:VK),Inv X pins σ H s->RelV x v->s.heap.IsSliceOf sl vl vu .none->IsPart vl lo->IsPart vu hi->r x lo hi H Q →
  ∃T id,typeLookup (.type T) "__getitem__"=pure (some (.builtin id))/\s.TypeIs v T/\wpAny (model X.prog X.w) X.A (getItem v (.ref sl)) (EP X pins σ Q) X.xe s
noncomputable def tK(xs:List V)(lo hi:Option Int):List V:=(xs.drop (HT.fb xs.length 0 lo)).take (HT.fb xs.length xs.length hi-HT.fb xs.length 0 lo)
theorem ML(xs:List V)(lo hi:Option Int):(tK xs lo hi).length<=xs.length:=by
 unfold tK;rw[List.length_take,List.length_drop];omega
noncomputable def DR(K:Zc):R2:=fun x y H Q=>∃a b xs ys,x=.ref a/\y=.ref b/\b8 K H a xs/\b8 K H b ys/\xs≠[]/\xs.length+ys.length<=Zt /\
 (ys=[]->Q (.ref a) H)/\(ys≠[]->∀p,H p=none->Q (.ref p) (upd H p (.tup (xs++ys))))
theorem Vals.vT{xs:List V}{us:List Value}(r:Vals xs us):us=[]↔xs=[]:=by
 cases r with
 | nil=>simp
 | cons _ _=>simp
theorem Qo:bu X (abA .Add) (DR X.K):=by
 intro pins s σ H x y v u Q I rx ry h;obtain⟨a,b,xs,ys,rfl,rfl,ha,hb,hx,hz,q1,q2⟩:=h;cases rx;cases ry;obtain⟨its,r1,p1,_⟩:=I.tuple ha;obtain⟨iA,r2,p2,_⟩:=I.tuple hb;refine HT.Qn p1 p2 (fun z=>hx (r1.vT.mp z)) (fun z=>⟨.ref a,H,I,rfl,q1 (r2.vT.mp z)⟩) (fun z=>?_) (by rw[<- r1.length,<- r2.length];exact hz);refine⟨.ref s.heap.objs.size,_,I.laid (t':=s.toks) (o:=.tup (xs++ys)) (fun b ob q=>Zk _ q) (Zf _) ?_,rfl,q2 (fun w=>z (r2.vT.mpr w)) _ (I.ay.fresh (Zf _))⟩;exact⟨by rw[Zz];exact hz,_,r1.append r2,IsTup.new _ _⟩
end
noncomputable def fX(n:Nat)(i:Int):Option Nat:=if 0<=i then(if i<n then some i.toNat else none) else if -(n:Int)<=i then some (i+n).toNat else none
noncomputable def b9{α:Type}(xs:List α)(i:Int):Option α:=(fX xs.length i).bind fun j=>xs[j]?
theorem B1{n:Nat}{i:Int}{j:Nat}(h:fX n i=some j):seqIndex? i n=some j/\j<n/\ -(n:Int)<=i/\i<n:=by
 unfold fX at h;by_cases h0:0<=i
 ·rw[if_pos h0] at h;by_cases h1:i<n
  ·rw[if_pos h1] at h;have e:i.toNat=j:=ZX h;exact⟨by rw[seqIndex_of h0 h1,e],by omega,by omega,h1⟩
  ·rw[if_neg h1] at h;cases h
 ·rw[if_neg h0] at h;by_cases h1: -(n:Int)<=i
  ·rw[if_pos h1] at h;have e:(i+n).toNat=j:=ZX h;exact⟨by rw[seqIndex_neg (by omega) h1,e],by omega,h1,by omega⟩
  ·rw[if_neg h1] at h;cases h
theorem vU{α:Type}{xs:List α}{i:Int}{v:α}(h:b9 xs i=some v):∃j,seqIndex? i xs.length=some j/\xs[j]? =some v/\j<xs.length/\ -(xs.length:Int)<=i/\i<xs.length:=by
 unfold b9 at h;cases e:fX xs.length i with
 | none=>rw[e] at h;cases h
 | some j=>
  rw[e] at h;obtain⟨h1,h2,h3,h4⟩:=B1 e;exact⟨j,h1,h,h2,h3,h4⟩
noncomputable def vV(b:Expr):Prop:=∀o i,subscripted b false o i=operate [o,i] (getItem o i)
noncomputable def gV(X:Cx)(r:R2):Prop:=
 ∀(value slice:Expr) (pins:List (Addr×Obj)) (s:Zh) (σ:St) (H:Hp) (x y:V) (v u:Value) (Q:VK),Inv X pins σ H s->RelV x v->RelV y u->r x y H Q →
  subscripted slice false v u=operate [v,u] (getItem v u)->wpAny (model X.prog X.w) X.A (subscriptTail value slice v u) (EP X pins σ Q) X.xe s
noncomputable def oi(X:Cx)(id:String)(r:V->List V->Hp->VK->Prop):Prop:=
 ∀(pins:List (Addr×Obj)) (s:Zh) (σ:St) (H:Hp) (x:V) (xs:List V) (v:Value) (us:List Value) (Q:VK),Inv X pins σ H s->RelV x v->Vals xs us->r x xs H Q →
  wpAny (model X.prog X.w) X.A (call (.builtin id) (v::us)) (EP X pins σ Q) X.xe s
section
variable{X:Cx}{a b:Expr}{ta tb:TE}{pos:Pos}
theorem gV.or{r r':R2}(h:gV X r)(h':gV X r'):gV X (fun x y H Q=>r x y H Q\/r' x y H Q):=by
 intro value slice pins s σ H x y v u Q I rx ry q hs
 rcases q with q | q
 ·exact h value slice pins s σ H x y v u Q I rx ry q hs
 ·exact h' value slice pins s σ H x y v u Q I rx ry q hs
theorem Uw{r:R2}(hr:gV X r)(ha:PE X a ta)(hb:PE X b tb)(hs:vV b):PE X (.Subscript a b pos) (qg r ta tb):=by
 intro pins s σ H Q I h;exact Subscript_ (xE ha hb I h fun v u s2 x y H2 I2 rx ry q=>hr a b pins s2 σ H2 x y v u Q I2 rx ry q (hs _ _))
noncomputable def ET(K:Zc):R2:=fun x y H Q=>∃p xs i v,x=.ref p/\y=.int i/\bo K H p xs/\b9 xs i=some v/\Q v H
noncomputable def EU(K:Zc):R2:=fun x y H Q=>∃p xs i v,x=.ref p/\y=.int i/\b8 K H p xs/\b9 xs i=some v/\Q v H
noncomputable def EV:R2:=fun x y H Q=>∃z i c,x=.str z/\y=.int i/\z.length<=Zt/\b9 z.cps.toList i=some c/\Q (.str ⟨#[c]⟩) H
theorem Qp:gV X (ET X.K):=by
 intro value slice pins s σ H x y v u Q I rx ry h hs;obtain⟨p,xs,i,z,rfl,rfl,hq,he,q⟩:=h;cases rx;obtain⟨t,rfl⟩:=ry;obtain⟨its,r,pl,hz⟩:=I.list hq;obtain⟨j,h1,h2,h3,h4,h5⟩:=vU he;obtain⟨w,ew,fc⟩:=r.get h2;have hl:=r.length;have hn:=m9;have fin:EP X pins σ Q w s:=⟨z,H,I,fc,q⟩
 by_cases h0:0<=i
 ·have hj:i.toNat=j:=by
   rw[seqIndex_of h0 h5] at h1;exact ZX h1
  exact item_listR pl.isList h0 (by omega) (by rw[hj];simpa using ew) fin hs
 ·have hj:(i+(its.toArray.size:Int)).toNat=j:=by
   rw[seqIndex_neg (by omega) h4] at h1;rw[Zs,<- hl];exact ZX h1
  exact subscriptTail_builtinR (x:=w) pl.isList.typeIs slot_list_getitem.lookup
   (wpAny_getItem_list_neg (Q:=fun r s'=>r=w/\EP X pins σ Q r s') pl.isList (by omega) (by rw[Zs] <;> omega) (by omega) (by rw[hj];simpa using ew) ⟨rfl,fin⟩) hs
theorem Sd:gV X (EU X.K):=by
 intro value slice pins s σ H x y v u Q I rx ry h hs;obtain⟨p,xs,i,z,rfl,rfl,hq,he,q⟩:=h;cases rx;obtain⟨t,rfl⟩:=ry;obtain⟨its,r,pl,hz⟩:=I.tuple hq;obtain⟨j,h1,h2,h3,h4,h5⟩:=vU he;obtain⟨w,ew,fc⟩:=r.get h2;have hl:=r.length;have hn:=m9;have fin:EP X pins σ Q w s:=⟨z,H,I,fc,q⟩
 exact subscriptTail_builtinR (x:=w) pl.typeIs slot_tuple_getitem.lookup
  (getItem_tuple (j:=j) (Q:=fun r s'=>r=w/\EP X pins σ Q r s') pl (by omega) (by omega) (by rw[Zs,<- hl];exact h1) (by simpa using ew) ⟨rfl,fin⟩) hs
theorem Se:gV X EV:=by
 intro value slice pins s σ H x y v u Q I rx ry h hs;obtain⟨z,i,c,rfl,rfl,hz,he,q⟩:=h;obtain⟨t,rfl⟩:=rx;obtain⟨t',rfl⟩:=ry;obtain⟨j,h1,h2,h3,h4,h5⟩:=vU he;have hl:z.cps.toList.length=z.length:=by simp[Str.length]
 rw[hl] at h1 h4 h5;have hn:=m9;exact tail_any (typeIs_str s z t) slot_str_getitem.lookup (getItem_str (c:=c) (by
  have e1:decide (i< -(2 ^ 63:Int))=false:=decide_eq_false (by omega);have e2:decide (i >= 2 ^ 63)=false:=decide_eq_false (by omega);rw[e1,e2,adJ]) (by rw[h1];simpa using h2) ⟨.str ⟨#[c]⟩,H,I.tok _,⟨_,rfl⟩,q⟩) hs
noncomputable def yk(K:Zc):R2:=fun x y H Q=>ET K x y H Q\/EU K x y H Q\/EV x y H Q
theorem Sf:gV X (yk X.K):=Qp.or (Sd.or Se)
theorem Nr(its:List Value)(n j:Nat)(u:Value):adv (·.setIfInBounds j u) { cls:=.type "list",data:=.seq its.toArray n }={ cls:=.type "list",data:=.seq (its.set j u).toArray n }:=by
 simp[adv]
variable{σ:St}{H:Hp}
theorem Inv.lst{pins:List (Addr×Obj)}{s:Zh}{p:Addr}{xs:List V}(I:Inv X pins σ H s)(h:H p=some (.lst xs)) :
  ∃(its:List Value) (n:Nat),Vals xs its/\s.heap.get? p=some { cls:=.type "list",data:=.seq its.toArray n }/\xs.length<=sizeLine:=by
 obtain⟨z,its,n,r,e⟩:=I.ay p _ h;exact⟨its,n,r,e,z⟩
theorem Inv.Sg{pins:List (Addr×Obj)}{s:Zh}{p:Addr}{xs ys:List V}{its its':List Value}{n n':Nat}{f:Obj->Obj}(I:Inv X pins σ H s)(h:H p=some (.lst xs))
  (ho:s.heap.get? p=some { cls:=.type "list",data:=.seq its.toArray n }) (hf:f { cls:=.type "list",data:=.seq its.toArray n }={ cls:=.type "list",data:=.seq its'.toArray n' }) (r:Vals ys its') (hz:ys.length<=Zt) (t:Nat) :
  Inv X pins σ (upd H p (.lst ys)) { s with heap:=s.heap.update p f,toks:=t }:=by
 have e:(s.heap.update p f).get? p=some { cls:=.type "list",data:=.seq its'.toArray n' }:=by
  rw[Heap.get?_update_self f ho (by rw[hf] <;> rfl),hf]
 refine I.write (x:=p) (e:=p) (by rw[h];trivial) (.inl rfl) (fun b u hb q=>(acX _ _ (abg hb)).trans q) ⟨_,e⟩ ?_;exact⟨hz,its',n',r,e⟩
noncomputable def Ux:V->V->V->Hp->(Hp->Prop)->Prop:=fun o i v H Q=>∃p xs k j,o=.ref p/\i=.int k/\H p=some (.lst xs)/\fX xs.length k=some j/\Q (upd H p (.lst (xs.set j v)))
theorem set_list:ka X Ux:=by
 intro pins s σ H o i v ov iv u Q I ro ri rv h;obtain⟨p,xs,k,j,rfl,rfl,hp,hj,q⟩:=h;cases ro;obtain⟨t,rfl⟩:=ri;obtain⟨its,n,r,ho,hz⟩:=I.lst hp;obtain⟨h1,h2,h3,h4⟩:=B1 hj;have hl:=r.length;have hn:=m9;have I':Inv X pins σ (upd H p (.lst (xs.set j v))) { s with heap:=s.heap.update p (adv (·.setIfInBounds j u)) }:=
  I.Sg hp ho (Nr its n j u) (r.set rv j) (by rw[aal];exact hz) s.toks
 by_cases h0:0<=k
 ·have hk:k.toNat=j:=by
   rw[seqIndex_of h0 h4] at h1;exact ZX h1
  exact PySem.W.ki_setAt ho h0 (by omega) (by rw[Zs,<- hl];exact h4) (by rw[hk];exact⟨_,I',q⟩)
 ·have hk:(k+(its.toArray.size:Int)).toNat=j:=by
   rw[seqIndex_neg (by omega) h3] at h1;rw[Zs,<- hl];exact ZX h1
  exact PySem.W.ki_setBack ho (by omega) (by rw[Zs,<- hl];exact h3) (by omega) (by rw[hk];exact⟨_,I',q⟩)
theorem Mj(lo hi:Option Int)(n:Nat):(abO lo hi none n).1=((HT.fb n 0 lo:Nat):Int)/\(abO lo hi none n).2.1=((HT.fb n n hi:Nat):Int)/\(abO lo hi none n).2.2=1:=by
 refine⟨?_,?_,rfl⟩
 ·cases lo with
  | none=>simp[abO,HT.fb]
  | some i=>
   simp only[abO,HT.fb,Option.getD_none,show(1:Int)>0 by decide,if_true];by_cases h:i<0
   ·simp only[h,if_true] <;> omega
   ·simp only[h,if_false] <;> omega
 ·cases hi with
  | none=>simp[abO,HT.fb]
  | some i=>
   simp only[abO,HT.fb,Option.getD_none,show(1:Int)>0 by decide,if_true];by_cases h:i<0
   ·simp only[h,if_true] <;> omega
   ·simp only[h,if_false] <;> omega
theorem LI(its:List Value)(lo hi:Option Int):slicePick its.toArray lo hi none=((its.drop (HT.fb its.length 0 lo)).take (HT.fb its.length its.length hi-HT.fb its.length 0 lo)).toArray:=by
 obtain⟨h1,h2,h3⟩:=Mj lo hi its.toArray.size;unfold slicePick;rw[h1,h2,h3];simp only[sliceRange_one,pick_run,Zs] <;> rfl
noncomputable def VB(K:Zc):V->Option Int->Option Int->Hp->VK->Prop:=fun x lo hi H Q=>∃a xs,x=.ref a/\bo K H a xs/\∀p,H p=none->Q (.ref p) (upd H p (.lst (tK xs lo hi)))
theorem Yx:Wj X (VB X.K):=by
 intro pins s σ H x v vl vu lo hi sl Q I rx hs pl pu h;obtain⟨a,xs,rfl,hx,q⟩:=h;cases rx;obtain⟨its,r,ht,hz⟩:=I.list hx;have cu:=r.length;refine⟨"list",_,slot_list_getitem.lookup,ht.isList.typeIs,?_⟩;refine wpAny_getItem_list_slice ht.isList hs pl pu .none (by simp) ?_ (by rw[Zs] <;> omega);rw[LI,<- cu];refine⟨.ref s.heap.objs.size,_,I.laid (t':=s.toks) (o:=.lst (tK xs lo hi)) (fun b ob q=>Zk _ q) (Zf _) ?_,rfl,q _ (I.ay.fresh (Zf _))⟩;exact⟨Zq (ML xs lo hi) hz,_,0,(r.drop (HT.fb xs.length 0 lo)).take (HT.fb xs.length xs.length hi-HT.fb xs.length 0 lo),ZH _ rfl⟩
theorem Mk:cH X (.builtin "len") (fun xs H Q=>∃p ys,xs=[.ref p]/\(bo X.K H p ys\/b8 X.K H p ys)/\Q (.int ys.length) H):=by
 intro pins s σ H xs us Q I r h;obtain⟨p,ys,rfl,hq,q⟩:=h;obtain⟨u,rfl,rx⟩:=vals1 r;cases rx;have hn:=m9
 rcases hq with hq | hq
 ·obtain⟨its,r',pl,hz⟩:=I.list hq;have cu:=r'.length;exact Calls.call_len_list pl.isList (by simp only[Zs] <;> omega) ⟨.int ys.length,H,I.tok _,⟨s.toks+1,by rw[Zs,cu]⟩,q⟩
 ·obtain⟨its,r',pl,hz⟩:=I.tuple hq;have cu:=r'.length;exact len_tuple pl (by simp only[Zs] <;> omega) ⟨.int ys.length,H,I.tok _,⟨s.toks+1,by rw[Zs,cu]⟩,q⟩
theorem Ml:cH X (.builtin "len") (fun xs H Q=>∃z,xs=[.str z]/\z.length<=Zt/\Q (.int z.length) H):=by
 intro pins s σ H xs us Q I r h;obtain⟨z,rfl,hz,q⟩:=h;obtain⟨u,rfl,t,rfl⟩:=vals1 r;have hn:=m9;exact len_str (by omega) ⟨.int z.length,H,I.tok _,⟨_,rfl⟩,q⟩
theorem cH.or{f:Value}{r r':List V->Hp->VK->Prop}(h:cH X f r)(h':cH X f r'):cH X f (fun xs H Q=>r xs H Q\/r' xs H Q):=by
 intro pins s σ H xs us Q I rs q
 rcases q with q | q
 ·exact h pins s σ H xs us Q I rs q
 ·exact h' pins s σ H xs us Q I rs q
theorem Mm:cH X (.type "list") (fun xs H Q=>∃p ys,xs=[.ref p]/\(bo X.K H p ys\/b8 X.K H p ys)/\∀l,H l=none->Q (.ref l) (upd H l (.lst ys))):=by
 intro pins s σ H xs us Q I r h;obtain⟨p,ys,rfl,hq,q⟩:=h;obtain⟨u,rfl,rx⟩:=vals1 r;cases rx;have fin:∀(its:List Value),Vals ys its->ys.length<=Zt->∀(h':Heap) (c':Nat),(∀b o',s.heap.get? b=some o'->h'.get? b=some o') →
   h'.get? s.heap.objs.size=some { cls:=.type "list",dict:=none,data:=.seq its.toArray c',slots:= #[] }->EP X pins σ Q (.ref s.heap.objs.size) { s with heap:=h' }:=fun its r' hz h' c' kp e=>
  ⟨.ref s.heap.objs.size,_,I.laid (t':=s.toks) kp (Zf _) (show de X.prog X.w _ h' _ (.lst ys) from⟨hz,its,c',r',e⟩),rfl,q _ (I.ay.fresh (Zf _))⟩
 rcases hq with hq | hq
 ·obtain⟨its,r',pl,hz⟩:=I.list hq;have cu:=r'.length;obtain⟨o,ho,hc,n,hd⟩:=pl.isList;exact call_list_seq p (.inl rfl) ho hc hd (fun h' c' kp e=>fin its r' hz h' c' kp e) (by simp only[Zs] <;> omega)
 ·obtain⟨its,r',pl,hz⟩:=I.tuple hq;have cu:=r'.length;obtain⟨o,ho,hc,n,hd⟩:=pl;exact call_list_seq p (.inr rfl) ho hc hd (fun h' c' kp e=>fin its r' hz h' c' kp e) (by simp only[Zs] <;> omega)
noncomputable def yl(K:Zc)(T:String)(x:V)(H:Hp):Prop:=match x with
 | .str _=>T="str"
 | .int _=>T="int"
 | .ref p=>(T="list"/\∃xs,bo K H p xs)\/(T="tuple"/\∃o,K.lookup p=some o/\o.cls=.type "tuple"/\o.dict=none) \/
   (T="dict"/\((∃kvs,H p=some (.dK kvs))\/∃kvs,H p=some (.dT kvs)))\/(T="set"/\∃S n,H p=some (.set S n))\/(T="dict"/\∃kvs,H p=some (.dU kvs))
 | _=>False
theorem Sh{pins:List (Addr×Obj)}{s:Zh}{T:String}{x:V}{v:Value}(I:Inv X pins σ H s)(r:RelV x v)(ty:yl X.K T x H) :
  s.TypeIs v T/\∀a,v=.ref a->∃ob,s.heap.get? a=some ob/\ob.dict=none:=by
 cases x with
 | str z=>
  obtain⟨t,rfl⟩:=r;cases(show T="str" from ty);exact⟨typeIs_str s z t,fun _ e=>nomatch e⟩
 | int i=>
  obtain⟨t,rfl⟩:=r;cases(show T="int" from ty);exact⟨typeIs_int s i t,fun _ e=>nomatch e⟩
 | ref p=>
  cases r
  rcases ty with⟨rfl,xs,hq⟩ | ⟨rfl,o,hk,hc,hd⟩ | ⟨rfl,hk⟩ | ⟨rfl,S,n,hk⟩ | ⟨rfl,kvs,hk⟩
  ·obtain⟨its,_,pl,_⟩:=I.list hq;refine⟨pl.isList.typeIs,fun a e=>?_⟩;cases e;obtain⟨o,n,e,c,hd,_⟩:=pl;exact⟨o,e,hd⟩
  ·refine⟨⟨o,I.jn p o hk,hc⟩,fun a e=>?_⟩;cases e;exact⟨o,I.jn _ o hk,hd⟩
  ·have z:∃o,s.heap.get? p=some o/\o.ExactDict:=by
    rcases hk with⟨kvs,hk⟩ | ⟨kvs,hk⟩
    ·obtain⟨_,_,_,_,o,_,_,e,ex,_⟩:=I.ay p _ hk;exact⟨o,e,ex⟩
    ·obtain⟨_,_,_,_,o,_,_,e,ex,_⟩:=I.ay p _ hk;exact⟨o,e,ex⟩
   obtain⟨o,e,ex⟩:=z;refine⟨⟨o,e,ex.1⟩,fun a e2=>?_⟩;cases e2;exact⟨o,e,ex.2.1⟩
  ·obtain⟨o,_,_,_,e,ex,_⟩:=I.ay p _ hk;refine⟨⟨o,e,ex.1⟩,fun a e2=>?_⟩;cases e2;exact⟨o,e,ex.2.1⟩
  ·obtain⟨_,_,o,_,_,e,ex,_⟩:=I.ay p _ hk;refine⟨⟨o,e,ex.1⟩,fun a e2=>?_⟩;cases e2;exact⟨o,e,ex.2.1⟩
 | _=>exact abo ty
noncomputable def FN(K:Zc)(T:String)(r:V->List V->Hp->VK->Prop)(to:TE)(t:TA):TE:=fun σ H Q=>to σ H fun x H1=>yl K T x H1/\t σ H1 fun xs H2=>r x xs H2 Q
variable{o e:Expr}{es:List Expr}{to:TE}{t:TA}{name:Str}{apos dZ:Pos}{T id:String}{r:V->List V->Hp->VK->Prop}
theorem Uy(pa:adQ T)(slot:Slot T name id)(l7:typeOf (.builtin id)=pure (.type "method_descriptor"))(hm:oi X id r)(ho:PE X o to)(ha:PA X (e::es) t)
  (lD:acM o name X.env (eval o X.env)=eval o X.env:=by rfl)
  (xF:((acb dZ (ZF (e::es) X.env)).all (fun x=> !x.1)&&(backToKw dZ (keywordEach [] X.env)).all (fun x=>x.1.isSome)
   && decide ((e::es).length+([]:List Keyword).length+(if([]:List Keyword).isEmpty then 0 else 1)<30))=true:=by rfl)
  (lE:(apos.endLine==dZ.line)=true:=by rfl) (hs:ZF (e::es) X.env=(false,eval e X.env)::ZF es X.env:=by rfl) (wt:(acb dZ (ZF es X.env)).any (·.1)=false:=by rfl) :
  PE X (.Call (.Attribute o name apos) (e::es) [] dZ) (FN X.K T r to t):=by
 intro pins s σ H Q I h;refine wpAny_Call_method_late lD xF lE rfl (aU (ho pins s σ H _ I h) fun v s1 ⟨x,H1,I1,r1,ty,q1⟩=>?_);obtain⟨h1,h2⟩:=Sh I1 r1 ty;refine⟨T,id,pa,slot,l7,h1,h2,?_⟩;have hA:=ha dZ pins s1 σ H1 _ I1 q1;rw[hs] at hA ⊢;refine Calls.callWith_builtin (by show(false||(acb dZ (ZF es X.env)).any (·.1))=false;rw[wt] <;> rfl) (Calls.evalArgs_plain ?_);exact aU hA fun us s2 ⟨vs,H2,I2,r2,q2⟩=>hm pins s2 σ H2 x vs v us Q I2 r1 r2 q2
end
noncomputable def FO(X:Cx)(id:String)(r:V->List V->Hp->VK->Prop):Prop:=
 ∀(pins:List (Addr×Obj)) (s:Zh) (σ:St) (H:Hp) (x:V) (xs:List V) (v:Value) (us:List Value) (Q:VK),Inv X pins σ H s->RelV x v->Vals xs us->r x xs H Q →
  wpAny (model X.prog X.w) X.A (call (.builtin id) (v::us)) (EP X pins σ Q) X.xe s
theorem Vals.one{x:V}{us:List Value}(h:Vals [x] us):∃u,us=[u]/\RelV x u:=by
 cases h with
 | cons r t=>cases t;exact⟨_,rfl,r⟩
theorem Vals.two{x y:V}{us:List Value}(h:Vals [x,y] us):∃u v,us=[u,v]/\RelV x u/\RelV y v:=by
 cases h with
 | cons r t=>
  obtain⟨v,e,q⟩:=Vals.one t;subst e;exact⟨_,_,rfl,r,q⟩
theorem Vals.rep{xs:List V}{us:List Value}(h:Vals xs us):∀k:Nat,Vals (Zi k xs).flatten (Zi k us).flatten
 | 0=>.nil
 | k+1=>by
  rw[aae,aae,aaK,aaK];exact Vals.append h (Vals.rep h k)
theorem foldl_rep(its:List Value):∀(k:Nat) (acc:List Value),
  List.foldl (fun x1 x2=>x1++x2) acc.toArray (Zi k its.toArray)=(acc++(Zi k its).flatten).toArray
 | 0,acc=>by simp
 | k+1,acc=>by
  have e:acc.toArray++its.toArray=(acc++its).toArray:=by simp
  have e2:(acc++its)++(Zi k its).flatten=acc++(Zi (k+1) its).flatten:=by
   rw[aae,aaK,acD]
  rw[<- e2,<- foldl_rep its k (acc++its),<- e,aae,List.foldl_cons]
section
variable{X:Cx}{pins:List (Addr×Obj)}{σ:St}{H:Hp}{s:Zh}{l b:Addr}{xs ys zs:List V}
theorem Inv.EW{its its':List Value}{n:Nat}{f:Array Value->Array Value}{t':Nat}(I:Inv X pins σ H s)(hH:H l=some (.lst xs))
  (e:s.heap.get? l=some { cls:=.type "list",data:=.seq its.toArray n }) (hf:f its.toArray=its'.toArray) (hv:Vals ys its') (hz:ys.length<=Zt) :
  Inv X pins σ (upd H l (.lst ys)) { s with heap:=s.heap.update l (adv f),toks:=t' }:=by
 have q:=PySem.IsL.update e f;rw[hf] at q;refine I.write (x:=l) (e:=l) (by rw[hH];exact trivial) (.inl rfl) (fun b' u hb hu=>(acX s.heap (adv f) (abg hb)).trans hu) ⟨_,q⟩ ?_;exact⟨hz,its',_,hv,q⟩
theorem Inv.xG{its:List Value}{t':Nat}(I:Inv X pins σ H s)(hv:Vals ys its)(hz:ys.length<=Zt) :
  Inv X pins σ (upd H s.heap.objs.size (.lst ys)) { s with heap:=s.heap.push { cls:=.type "list",data:=.seq its.toArray },toks:=t' }:=
 I.laid (fun _ _ q=>Zk _ q) (Zf _) ⟨hz,its,0,hv,ZH _ rfl⟩
theorem Inv.fresh(I:Inv X pins σ H s):H s.heap.objs.size=none:=I.ay.fresh (Zf _)
theorem Inv.nJ(I:Inv X pins σ H s)(hH:H l=some (.lst xs)):xs.length<=Zt/\∃(its:List Value) (n:Nat),Vals xs its/\xs.length=its.length/\s.heap.get? l=some { cls:=.type "list",data:=.seq its.toArray n }:=by
 obtain⟨z,its,n,r,e⟩:=I.ay l _ hH;exact⟨z,its,n,r,r.length,e⟩
theorem Br{n:Nat}(h:n<=Zt):aaY n=false:=by
 unfold aaY;exact decide_eq_false (by omega)
end
section
variable{X:Cx}
noncomputable def B2:V->List V->Hp->VK->Prop:=fun x vs H Q=>∃l xs y,x=.ref l/\vs=[y]/\H l=some (.lst xs)/\xs.length<Zt/\Q .aG (upd H l (.lst (xs++[y])))
theorem lh:FO X "list.append" B2:=by
 intro pins s σ H x vs v us Q I rx rv h;obtain⟨l,xs,y,rfl,rfl,hH,hz,q⟩:=h;cases rx;obtain⟨u,rfl,ru⟩:=rv.one;obtain⟨z,its,n,r,hl,e⟩:=I.nJ hH;refine acE F.slot_list_append ⟨_,e,rfl⟩ F.entry_list_append (F.args_list_append_2 _ _) (PySem.list_append l its.toArray n u (by rw[Zs];omega)) ⟨e,?_⟩;refine⟨.aG,_,I.EW (its':=its++[u]) hH e (by simp) (r.append (.cons ru .nil)) ?_,rfl,q⟩;rw[Zz,List.length_singleton];omega
noncomputable def B3:V->List V->Hp->VK->Prop:=fun x vs H Q=>∃l b xs zs,x=.ref l/\vs=[.ref b]/\H l=some (.lst xs)/\H b=some (.lst zs)/\xs.length+zs.length<=Zt/\Q .aG (upd H l (.lst (xs++zs)))
theorem NY:FO X "list.extend" B3:=by
 intro pins s σ H x vs v us Q I rx rv h;obtain⟨l,b,xs,zs,rfl,rfl,hH,hB,hz,q⟩:=h;cases rx;obtain⟨u,rfl,ru⟩:=rv.one;cases ru;obtain⟨z,its,n,r,hl,e⟩:=I.nJ hH;obtain⟨z2,iA,n2,r2,gW,e2⟩:=I.nJ hB;have hsz:its.toArray.size+iA.toArray.size<=sizeLine:=by rw[Zs,Zs];omega
 have xb:¬(!its.toArray.isEmpty&&aaY (its.toArray.size+iA.toArray.size))=true:=by
  rw[Br hsz,Bool.and_false];exact ZG
 refine acE F.slot_list_extend ⟨_,e,rfl⟩ F.entry_list_extend (F.args_list_extend_2 _ _)
  (AutoSeq1.list_extend_list_list_0 l its.toArray n b iA.toArray n2 xb (by rw[Zs];omega) (by omega)) ⟨e,e2,?_⟩
 refine⟨.aG,_,I.EW (its':=its++iA) hH e (by simp) (r.append r2) ?_,rfl,q⟩;rw[Zz];omega
noncomputable def EX:R2:=fun x y H Q=>∃l b xs zs,x=.ref l/\y=.ref b/\H l=some (.lst xs)/\H b=some (.lst zs)/\xs.length+zs.length<=Zt/\∀p,H p=none->Q (.ref p) (upd H p (.lst (xs++zs)))
theorem Si:bu X (abA .Add) EX:=by
 intro pins s σ H x y v u Q I rx ry h;obtain⟨l,b,xs,zs,rfl,rfl,hH,hB,hz,q⟩:=h;cases rx;cases ry;obtain⟨z,its,n,r,hl,e⟩:=I.nJ hH;obtain⟨z2,iA,n2,r2,gW,e2⟩:=I.nJ hB;refine PySem.P.add_list e e2 ?_ (by rw[Zs,Zs];omega);have ea:its.toArray++iA.toArray=(its++iA).toArray:=by simp
 rw[ea];exact⟨.ref _,_,I.xG (t':=s.toks) (r.append r2) (by rw[Zz];omega),rfl,q _ I.fresh⟩
noncomputable def EY:R2:=fun x y H Q=>∃l k xs,x=.ref l/\y=.int k/\H l=some (.lst xs)/\ -(2 ^ 63)<=k/\k<2 ^ 63/\xs.length*k.toNat<=Zt /\
 ∀p,H p=none->Q (.ref p) (upd H p (.lst (Zi k.toNat xs).flatten))
theorem len_rep{α:Type}(xs:List α)(k:Nat):(Zi k xs).flatten.length=k*xs.length:=by
 induction k with
 | zero=>simp
 | succ k ih=>rw[aae,aaK,Zz,ih,adg,adh]
theorem Sj:bu X (abA .Mult) EY:=by
 intro pins s σ H x y v u Q I rx ry h;obtain⟨l,k,xs,rfl,rfl,hH,h1,h2,hz,q⟩:=h;cases rx;obtain⟨t,rfl⟩:=ry;obtain⟨z,its,n,r,hl,e⟩:=I.nJ hH;have cu:its.toArray.size*k.toNat<=sizeLine:=by rw[Zs,<- hl];exact hz
 have VC:¬its.toArray.size*k.toNat>(2 ^ 63-1) / 8:=by
  have:(Zt:Nat)<=(2 ^ 63-1) / 8:=by decide
  omega
 have VD:¬(!Builtin.List.listFitsIndex k)=true:=by
  rw[fitsIndex_both h1 h2];exact ZG
 have xb:¬aaY (its.toArray.size*k.toNat)=true:=by
  rw[Br cu];exact ZG
 have fR:List.foldl (fun x1 x2=>x1++x2) #[] (Zi (if its.toArray.isEmpty=true then 0 else k.toNat) its.toArray)=(Zi k.toNat its).flatten.toArray:=by
  have f0:∀m:Nat,List.foldl (fun x1 x2=>x1++x2) #[] (Zi m its.toArray)=(Zi m its).flatten.toArray:=fun m=>by
   have:=foldl_rep its m [];rw[aci] at this;exact this
  rw[f0];cases its with
  | nil=>simp
  | cons a r'=>rw[if_neg (by simp)]
 refine wpAny_binaryOp_repeat_ref (T:="list") (U:="int") (by decide) ⟨_,e,rfl⟩ (fun s'=>typeIs_int s' k t) noFill_list_mul F.fills_int_mul F.slot_int_rmul repeat_list F.slot_int_index.lookup
  (acE F.slot_int_rmul (typeIs_int s k t) F.entry_int_rmul (F.args_int_rmul_2 _ _) (int___rmul___int_list k t l its.toArray n)
   ⟨e,rfl,⟨_,e,rfl⟩,acE F.slot_list_mul ⟨_,e,rfl⟩ F.entry_list_mul (F.args_list_mul_2 _ _) (AutoListH.list___mul___list_int_3 l its.toArray n k t VD VC xb) ⟨e,?_⟩⟩)
 rw[fR];exact⟨.ref _,_,I.xG (t':=s.toks) (r.rep k.toNat) (by rw[len_rep,Nat.mul_comm];exact hz),rfl,q _ I.fresh⟩
end
end L2
namespace FP
open PySem PySem.W PySem.Calls PyProof.Rows
theorem Kw{P:Params}{h:Heap}:∀(ns:List Int) (vs:List Value),WellAll P h vs (ns.map WData.int)->adf vs ns:=by
 intro ns
 induction ns with
 | nil=>
  intro vs w;rw[abV] at w;cases w;exact .nil
 | cons n ns ih=>
  intro vs w;rw[ZL] at w;cases w with
  | cons a b=>
   cases a;exact .cons _ _ (ih _ b)
theorem NZ{l:OpenLaw}{n:Nat}(hn:l.most=some n){P:Params}{h:Heap}{args:List WData}{vals:List Value}
  (tL:l.row.toRowW.claim.pre args=true) (iK:WellAll P h vals args) :
  ∃a vs ns,vals=[aaL a]/\args=[WData.list (ns.map WData.int)]/\h.get? a=some { cls:=.type "list",data:=.seq vs.toArray }/\adf vs ns/\ns.length<=n:=by
 have Wk:WShape.hasAll [] args [.list .int]=true:=(pre_splitW tL).1;have hc:l.pre.holds [] { args:=args }=true:=(pre_splitW tL).2;obtain⟨d,r,rfl,h1,h2⟩:=hasAllW_cons Wk;obtain rfl:=hasAllW_nil h2;obtain⟨xs,rfl,h3⟩:=hasW_list h1;obtain⟨ns,rfl⟩:=items_int h3;have cu:ns.length<=n:=by
  unfold OpenLaw.pre at hc;have h4:(WTm.not (.lt (.lit (.int n)) (.len (.arg 0)))).holds [] { args:=[.list (ns.map .int)] }=true:=by
   have h4:=(holds_andW hc).1;rw[hn] at h4;exact h4
  have h5:=condW_of h4 (w_not (w_lt w_lit (w_len_list (w_arg rfl))));rw[Zd] at h5;refine Nat.le_of_not_lt fun q=>?_
  have q':(n:Int)<((ns.length:Nat):Int):=by omega
  first
   | (rw[decide_eq_true q'] at h5;exact absurd h5 (by decide))
   | (simp at h5;omega)
 cases iK with
 | cons w1 w2=>
  cases w2;cases w1 with
  | list ho xH=>exact⟨_,_,ns,rfl,rfl,ho,Kw ns _ xH,cu⟩
theorem N0(l:OpenLaw)(args:List WData):l.row.toRowW.claim.post args (.bool true) args=true:=
 postW_of (r:=l.row.toRowW) (X:=(true==true))
  (show WShape.has [] (.bool true) .bool=true by first | rfl | decide | simp[WShape.has,WShape.arms,WShape.armsAll])
  (show(WTm.eq .res (.lit (.bool true))).value [] { args:=args,res:=some (.bool true),after:=args }=some (.bool (true==true)) from w_eq_bool (w_res rfl) w_lit) rfl
theorem MM{l:OpenLaw}{n:Nat}{q:aah}{loose:List Str}{XP:(Str->Option Value)->Heap->Prop}{YP:World->Heap->Prop}{d:DefRec}
  (hn:l.most=some n) (qh:d.params.defaults=[])
  (call:∀(w:World) (aA bg:Zh) (mg mb:Str->Option Value) (fa:Addr) (o:Obj) (pm cd doc:Value) (a:Addr) (vs:List Value) (ns:List Int),
   Ground q loose [] XP w aA mg mb bg.heap->YP w bg.heap →
   bg.heap.get? fa=some o->o.data=.func (docDef d.name d.params d.body d.scope pm cd doc)->bg.heap.CodeRec cd d.name->mg d.name=some (.ref fa) →
   bg.heap.get? a=some { cls:=.type "list",data:=.seq vs.toArray }->adf vs ns->ns.length<=n->bg.gens= #[] →
   codeAny (model l.prog w) callerA (.call (.ref fa) ⟨[.ref a],[]⟩) (fun r s'=>r=.ok (.ret (.bool true))/\OldK bg.heap s'.heap/\s'.os=bg.os/\acK s'.gens) bg) :
  WalkO q loose XP YP l.row.toRowW d [] (fun f vs=>PySem.call f vs):=by
 intro w aA bg mg mb G Y fa o pm cd doc dV kV ho hd hcd hD hmg hg args vals as tL YD ym iK iL;obtain rfl:dV=.none:=Dflts.none hD qh;obtain rfl:kV=.none:=Dflts.noKw hD;obtain⟨a,vs,ns,rfl,rfl,xI,xc,cu⟩:=NZ hn tL iK;refine enter_call (abW (call w aA bg mg mb fa o pm cd doc a vs ns G Y ho (fd_plain hd) hcd hmg xI xc cu hg) fun r s' hq=>?_);obtain⟨rfl,h2,h3,h4⟩:=hq;exact⟨.inl ⟨.bool true,.bool true,[],rfl,fun _=>rfl,.bool true,N0 l _,fun _=>⟨List.Pairwise.nil,fun _ hm=>(nomatch hm)⟩⟩,h2,h3,h4⟩
end FP
namespace L2
open PySem PySem.Spec PyProof.Rows
theorem AU:∀{vs:List Value} {ns:List Int},adf vs ns->Vals (ns.map V.int) vs
 | _,_,.nil=>.nil
 | _,_,.cons n t h=>.cons ⟨t,rfl⟩ (AU h)
noncomputable def cL(s:Stmt):Arguments:=match s with
 | .FunctionDef _ a _ _ _ _ _ _ _ _=>a
 | _=>{ posonlyargs:=[],args:=[],vararg:=none,kwonlyargs:=[],kw_defaults:=[],kwarg:=none,defaults:=[] }
noncomputable def a6(s:Stmt):List Stmt:=match s with
 | .FunctionDef _ _ b _ _ _ _ _ _ _=>b
 | _=>[]
noncomputable def af(s:Stmt):Scope:=match s with
 | .FunctionDef _ _ _ _ _ _ sc _ _ _=>sc
 | _=>{ kind:=.function,names:=[],isGenerator:=false,isCoroutine:=false }
structure cy(K:Zc)(x qual:Str)(st:Stmt)(f:Addr)(fd:ZW):Prop where
 ex:∃(oc:Value) (od:Option Addr) (kV doc pm:Value) (an:Option Addr) (ba ct:Value) (eZ:Array (Option Value)),
  fd=ZC x qual (cL st) (a6 st) (af st) .none kV doc pm an ba ct/\K.lookup f=some ⟨oc,od,.func fd,eZ⟩/\ZA K ba qual=true
 kp:Zx K (.ref f)=true
section
variable{P:aah}{w:World}{K:Zc}{mg:Str->Option Value}{base:Heap}
theorem cy.binds{x qual:Str}{st:Stmt}{f:Addr}{fd:ZW}{ps:List Str}(F:cy K x qual st f fd)
  (h:∀(kV doc pm:Value) (an:Option Addr) (ba ct:Value) (us:List Value),us.length=ps.length->bindArgs (ZC x qual (cL st) (a6 st) (af st) .none kV doc pm an ba ct) ⟨us,[]⟩=pure (ps.zip us)):Binds K fd ps []:=by
 obtain⟨oc,od,kV,doc,pm,an,ba,ct,eZ,rfl,lk,hcd⟩:=F.ex;exact .all (h kV doc pm an ba ct)
theorem dq{x qual:Str}{st:Stmt}{f:Addr}{oc:Value}{od an:Option Addr}{eZ:Array (Option Value)}{kV doc pm ba ct:Value}(l:K.lookup f=some ⟨oc,od,.func (ZC x qual (cL st) (a6 st) (af st) .none kV doc pm an ba ct),eZ⟩)
  (c:ZA K ba qual=true) (k:Zx K (.ref f)=true):cy K x qual st f (ZC x qual (cL st) (a6 st) (af st) .none kV doc pm an ba ct):=⟨⟨oc,od,kV,doc,pm,an,ba,ct,eZ,rfl,l,c⟩,k⟩
end
theorem gm{A:abd}{k:Nat}(hr:cf k A):A.units+1<cLine:=abf (Nat.add_le_add_left (by decide:1<=64) _) hr.units
theorem lM{A B:Prop}(h:B):if false=true then A else B:=by
 rw[if_neg ZG];exact h
theorem lN{A B:Prop}(h:A):if true=true then A else B:=by
 rw[if_pos rfl];exact h
section
variable{κ:Type}[DecidableEq κ]
noncomputable def gv(kvs:List (κ×V))(k:κ):Option V:=(kvs.find? fun kv=>decide (kv.1=k)).map (·.2)
noncomputable def putK(kvs:List (κ×V))(k:κ)(v:V):List (κ×V):=
 if(kvs.any fun kv=>decide (kv.1=k))=true then kvs.map (fun kv=>if kv.1=k then(kv.1,v) else kv) else kvs++[(k,v)]
theorem oY{p:κ×V}{r:List (κ×V)}{k:κ}(e:p.1=k):gv (p::r) k=some p.2:=by simp[gv,aaB,e]
theorem oZ{p:κ×V}{r:List (κ×V)}{k:κ}(e:¬p.1=k):gv (p::r) k=gv r k:=by simp[gv,aaB,e]
theorem Bs(k:κ):∀kvs:List (κ×V),(kvs.any fun kv=>decide (kv.1=k))=(gv kvs k).isSome
 | []=>rfl
 | p::r=>by
  rw[aay];by_cases e:p.1=k
  ·simp only[oY e,decide_eq_true e,Bool.true_or,Option.isSome_some]
  ·rw[oZ e,decide_eq_false e,Bool.false_or];exact Bs k r
theorem rT(kvs:List (κ×V))(k:κ)(v:V):(putK kvs k v).length<=kvs.length+1:=by
 unfold putK;split
 ·rw[Zd];omega
 ·rw[Zz,aat,acj];omega
theorem gr.oS{o:Option V}{u:Option Value}(r:gr o u):o.isSome=u.isSome:=by
 cases o with
 | none=>cases u with
  | none=>rfl
  | some _=>exact(show False from r).elim
 | some _=>cases u with
  | none=>exact(show False from r).elim
  | some _=>rfl
theorem gr.getD{o:Option V}{u:Option Value}{d:V}{d':Value}(r:gr o u)(rd:RelV d d'):RelV (o.getD d) (u.getD d'):=by
 cases o with
 | none=>cases u with
  | none=>exact rd
  | some _=>exact(show False from r).elim
 | some _=>cases u with
  | none=>exact(show False from r).elim
  | some _=>exact r
theorem KV.val{kvs:List (κ×V)}{vs:List (κ×Value)}(r:KV kvs vs)(k:κ):gr (gv kvs k) (adR vs k):=by
 unfold KV at r
 induction r with
 | nil=>exact acF
 | @cons p q ps qs h t ih=>
  obtain⟨h1,h2⟩:=h;by_cases e:p.1=k
  ·have e':q.1=k:=h1.symm.trans e;have b:adR (q::qs) k=some q.2:=by simp[adR,aaB,e']
   rw[oY e,b];exact h2
  ·have e':¬q.1=k:=fun z=>e (h1.trans z)
   have b:adR (q::qs) k=adR qs k:=by simp[adR,aaB,e']
   rw[oZ e,b];exact ih
theorem KV.any{kvs:List (κ×V)}{vs:List (κ×Value)}(r:KV kvs vs)(k:κ):(kvs.any fun kv=>decide (kv.1=k))=vs.any fun kv=>decide (kv.1=k):=by
 unfold KV at r
 induction r with
 | nil=>rfl
 | cons h t ih=>rw[aay,aay,ih,h.1]
theorem KV.gQ{kvs:List (κ×V)}{vs:List (κ×Value)}(r:KV kvs vs)(k:κ){y:V}{u:Value}(ry:RelV y u) :
  KV (kvs.map fun kv=>if kv.1=k then(kv.1,y) else kv) (vs.map fun kv=>if kv.1=k then(kv.1,u) else kv):=by
 unfold KV at r ⊢
 induction r with
 | nil=>exact .nil
 | @cons p q ps qs h t ih=>
  rw[ZL,ZL];refine .cons ?_ ih;obtain⟨h1,h2⟩:=h;by_cases e:p.1=k
  ·rw[if_pos e,if_pos (h1.symm.trans e)];exact⟨h1,ry⟩
  ·rw[if_neg e,if_neg (fun z=>e (h1.trans z))];exact⟨h1,h2⟩
theorem KV.put{kvs:List (κ×V)}{vs:List (κ×Value)}(r:KV kvs vs)(k:κ){y:V}{u:Value}(ry:RelV y u):KV (putK kvs k y) (stored vs k u):=by
 unfold putK stored;rw[r.any k];by_cases e:(vs.any fun kv=>decide (kv.1=k))=true
 ·rw[if_pos e,if_pos e];exact r.gQ k ry
 ·rw[if_neg e,if_neg e];exact Paired.snoc r ⟨rfl,ry⟩
theorem KV.keys{kvs:List (κ×V)}{vs:List (κ×Value)}(r:KV kvs vs):kvs.map (·.1)=vs.map (·.1):=by
 unfold KV at r
 induction r with
 | nil=>rfl
 | cons h t ih=>rw[ZL,ZL,ih,h.1]
theorem KV.length{kvs:List (κ×V)}{vs:List (κ×Value)}(r:KV kvs vs):kvs.length=vs.length:=acJ r
end
variable{u:Value}
theorem jX{P:aah}{w:World}{k:Key}(r:RelV (kV k) u):(cX P w).is k u=true:=by
 cases k with
 | inl i=>obtain⟨t,e⟩:=(show ∃t,u=Value.int i t from r);subst e;exact MJ P w i t
 | inr x=>obtain⟨t,e⟩:=(show ∃t,u=Value.str x t from r);subst e;exact MK P w x t
theorem AV{P:aah}{w:World}:∀{ks:List Key} {us:List Value},Vals (ks.map kV) us->ItemsAre (cX P w) ks us
 | [],_,r=>by rw[abV] at r;cases r;exact .nil
 | k::ks,_,r=>by
  rw[ZL] at r;cases r with
  | cons h t=>exact .cons (jX h) (AV t)
abbrev KT(H:Hp):List (List Key×V)->List (List Key×Addr×Value)->Prop:=abR fun p q=>p.1=q.1/\H q.2.1=some (.tup (p.1.map kV))/\RelV p.2 q.2.2
variable{H:Hp}{kvs:List (List Key×V)}{xs:List (List Key×Addr×Value)}
theorem KT.val(r:KT H kvs xs)(k:List Key):gr (gv kvs k) ((atKey xs k).map (·.2)):=by
 induction r with
 | nil=>exact acF
 | @cons p q ps qs h t ih=>
  obtain⟨h1,_,h2⟩:=h;by_cases e:p.1=k
  ·have e':q.1=k:=h1.symm.trans e;have b:atKey (q::qs) k=some q.2:=by simp[atKey,aaB,e']
   rw[oY e,b];exact h2
  ·have e':¬q.1=k:=fun z=>e (h1.trans z)
   have b:atKey (q::qs) k=atKey qs k:=by simp[atKey,aaB,e']
   rw[oZ e,b];exact ih
variable{y:V}
theorem KT.gQ(r:KT H kvs xs)(k:List Key)(ry:RelV y u) :
  KT H (kvs.map fun kv=>if kv.1=k then(kv.1,y) else kv) (xs.map (putAt k u)):=by
 induction r with
 | nil=>exact .nil
 | @cons p q ps qs h t ih=>
  rw[ZL,ZL];refine .cons ?_ ih;obtain⟨h1,h2,h3⟩:=h;unfold putAt;by_cases e:p.1=k
  ·rw[if_pos e,if_pos (h1.symm.trans e)];exact⟨h1,h2,ry⟩
  ·rw[if_neg e,if_neg (fun z=>e (h1.trans z))];exact⟨h1,h2,h3⟩
theorem KT.put(r:KT H kvs xs)(k:List Key){b:Addr}(hb:H b=some (.tup (k.map kV)))(ry:RelV y u) :
  KT H (putK kvs k y) (storedH xs k b u):=by
 have e:(kvs.any fun kv=>decide (kv.1=k))=(atKey xs k).isSome:=by
  rw[Bs,(r.val k).oS,abp]
 unfold putK storedH;rw[e];by_cases q:(atKey xs k).isSome=true
 ·rw[if_pos q,if_pos q];exact r.gQ k ry
 ·rw[if_neg q,if_neg q];exact Paired.snoc r ⟨rfl,hb,ry⟩
theorem KT.keeps{H':Hp}(r:KT H kvs xs)(ht:∀b ys,H b=some (.tup ys)->H' b=some (.tup ys)):KT H' kvs xs:=
 abR.j9 r fun _ _ z=>⟨z.1,ht _ _ z.2.1,z.2.2⟩
section
variable{P:aah}{w:World}{H:Hp}{h:Heap}{a:Addr}
theorem DS{u:HO}(ok:bQ P w H h)(e:Rd H a u):de P w H h a u:=e.ok ok
theorem lF{kvs:List (Key×V)}(ok:bQ P w H h)(e:Rd H a (.dK kvs)):kvs.length<=Zt/\(a==aaW)=false/\∃vs,KV kvs vs/\h.DictOf (cX P w) a vs:=
 show de P w H h a (.dK kvs) from DS ok e
theorem pF{kvs:List (Key×V)}(ok:bQ P w H h)(e:H a=some (.dK kvs)):kvs.length<=Zt/\(a==aaW)=false/\∃vs,KV kvs vs/\h.DictOf (cX P w) a vs:=lF ok (.inl e)
theorem jS{ks:List Key}(ok:bQ P w H h)(e:H a=some (.tup (ks.map kV))):(acz (cX P w)).is h ks a:=by
 obtain⟨_,its,r,o,h1,h2,n,h3⟩:=(show de P w H h a (.tup (ks.map kV)) from ok a _ e)
 exact⟨o,its.toArray,n,h1,h2,h3,by simpa using AV r⟩
theorem lG{kvs:List (List Key×V)}(ok:bQ P w H h)(e:Rd H a (.dT kvs)):kvs.length<=Zt/\(a==aaW)=false /\
  ∃xs,KT H kvs xs/\h.DictOfH (acz (cX P w)) a xs:=by
 obtain⟨z,y,xs,r,o,es,ep,h1,h2,h3,h4,h5⟩:=(show de P w H h a (.dT kvs) from DS ok e)
 refine⟨z,y,xs,r,o,es,ep,h1,h2,h3,h4,fun x hx=>?_,h5⟩;have all:∀{l:List (List Key×V)} {m:List (List Key×Addr×Value)},KT H l m->∀x∈m,(acz (cX P w)).is h x.1 x.2.1:=by
  intro l m q
  induction q with
  | nil=>intro x hx;exact nomatch hx
  | @cons p q ps qs hq t ih=>
   intro x hx
   rcases ZK.mp hx with e | hx
   ·subst e;exact jS ok (by rw[<- hq.1];exact hq.2.1)
   ·exact ih x hx
 exact all r x hx
theorem xf{kvs:List (List Key×V)}(ok:bQ P w H h)(e:H a=some (.dT kvs)):kvs.length<=Zt/\(a==aaW)=false /\
  ∃xs,KT H kvs xs/\h.DictOfH (acz (cX P w)) a xs:=lG ok (.inl e)
end
noncomputable def eh(H:Hp)(a:Addr)(y:V)(r:Option V):Prop:=
 (∃kvs k,Rd H a (.dK kvs)/\y=kV k/\r=gv kvs k)\/∃kvs k b,Rd H a (.dT kvs)/\y=.ref b/\H b=some (.tup (k.map kV))/\r=gv kvs k
noncomputable def lO(H:Hp)(a:Addr)(y v:V)(H':Hp):Prop:=
 (∃kvs k,H a=some (.dK kvs)/\y=kV k/\kvs.length<Zt/\H'=upd H a (.dK (putK kvs k v))) \/
 ∃kvs k b,H a=some (.dT kvs)/\y=.ref b/\H b=some (.tup (k.map kV))/\kvs.length<Zt/\H'=upd H a (.dT (putK kvs k v))
section
variable{X:Cx}{pins:List (Addr×Obj)}{σ:St}{H:Hp}{s:Zh}{a:Addr}{y v:V}{u r:Value}{o:Option V}{A:abd}{E:Value->Zh->Prop}
theorem Inv.big(I:Inv X pins σ H s):aaW<s.heap.objs.size:=by
 have h:Zo<s.heap.objs.size:=(I.mod.glob.keeps I.bk).lt;exact Nat.lt_trans (by decide) h
variable{Q:Value->Zh->Prop}
theorem N1(hu:A.units+1<cLine)(I:Inv X pins σ H s)(g:eh H a y (some v))(ry:RelV y u)(h:∀w' s',Inv X pins σ H s'->RelV v w'->Q w' s') :
  wpAny (model X.prog X.w) A (getItem (.ref a) u) Q E s:=by
 rcases g with⟨kvs,k,e,ey,l⟩ | ⟨kvs,k,b,e,ey,eb,l⟩
 ·subst ey;obtain⟨z,hd,vs,rel,dd⟩:=lF I.ay e;obtain⟨w',hw,fc⟩:=gr.some_of (v:=v) (o:=adR vs k) (by rw[l];exact rel.val k);exact wpAny_getItem_of (jX ry) dd.mapOf hw (h w' _ (I.tok _) fc)
 ·subst ey;cases(show u=aaL b from ry);obtain⟨z,hd,xs,rel,dd⟩:=lG I.ay e;obtain⟨w',hw,fc⟩:=gr.some_of (v:=v) (o:=(atKey xs k).map (·.2)) (by rw[l];exact rel.val k);obtain⟨p,hp,jr⟩:=Zn.mp hw;refine wpAny_getItem_heap (aaR hu) (jS I.ay eb) dd hp ?_;rw[jr];exact h w' _ (I.tok _) fc
theorem xJ(hu:A.units+1<cLine)(I:Inv X pins σ H s)(g:eh H a y o)(ry:RelV y u)(h:∀s',Inv X pins σ H s'->Q (.bool o.isSome) s') :
  wpAny (model X.prog X.w) A (aaM .In u (.ref a)) Q E s:=by
 rcases g with⟨kvs,k,e,ey,l⟩ | ⟨kvs,k,b,e,ey,eb,l⟩
 ·subst ey;obtain⟨z,hd,vs,rel,dd⟩:=lF I.ay e;refine wpAny_in_of (jX ry) hd dd.mapOf ?_;rw[<- (rel.val k).oS,<- l];exact h _ (I.tok _)
 ·subst ey;cases(show u=aaL b from ry);obtain⟨z,hd,xs,rel,dd⟩:=lG I.ay e;refine wpAny_in_heap (aaR hu) (jS I.ay eb) hd dd ?_;have q:=(rel.val k).oS;rw[abp] at q;rw[<- q,<- l];exact h _ (I.tok _)
theorem vW(hu:A.units+1<cLine)(I:Inv X pins σ H s)(g:eh H a y o)(ry:RelV y u)(h:∀s',Inv X pins σ H s'->Q (.bool (!o.isSome)) s') :
  wpAny (model X.prog X.w) A (aaM .NotIn u (.ref a)) Q E s:=by
 rcases g with⟨kvs,k,e,ey,l⟩ | ⟨kvs,k,b,e,ey,eb,l⟩
 ·subst ey;obtain⟨z,hd,vs,rel,dd⟩:=lF I.ay e;refine wpAny_notIn_of (jX ry) hd dd.mapOf ?_;rw[<- (rel.val k).oS,<- l];exact h _ (I.tok _)
 ·subst ey;cases(show u=aaL b from ry);obtain⟨z,hd,xs,rel,dd⟩:=lG I.ay e;refine wpAny_notIn_heap (aaR hu) (jS I.ay eb) hd dd ?_;have q:=(rel.val k).oS;rw[abp] at q;rw[<- q,<- l];exact h _ (I.tok _)
theorem sN{h':Heap}{t':Nat}{ob:HO}(I:Inv X pins σ H s)(mu:jm (H a))(hs:abS a s.heap h')(he:∃q,h'.get? a=some q)(new:de X.prog X.w (upd H a ob) h' a ob) :
  Inv X pins σ (upd H a ob) { s with heap:=h',toks:=t' }:=
 I.write (x:=a) (e:=a) mu (.inl rfl) (fun b q hb z=>(hs.2 b hb).trans z) he new
theorem CU{P:aah}{w:World}{H':Hp}{h':Heap}{kvs:List (Key×V)}{vs:List (Key×Value)}(z:kvs.length<=Zt)(hd:(a==aaW)=false)(rel:KV kvs vs)(dd:h'.DictOf (cX P w) a vs) :
  de P w H' h' a (.dK kvs):=⟨z,hd,vs,rel,dd⟩
theorem vj{H':Hp}{Q:Unit->Zh->Prop}(hu:A.units+1<cLine)(I:Inv X pins σ H s)(g:lO H a y v H')(ry:RelV y u)(rv:RelV v r)(h:∀s',Inv X pins σ H' s'->Q () s') :
  wpAny (model X.prog X.w) A (setItem (.ref a) u r) Q E s:=by
 rcases g with⟨kvs,k,e,ey,l,eH⟩ | ⟨kvs,k,b,e,ey,eb,l,eH⟩
 ·subst ey eH;obtain⟨z,hd,vs,rel,dd⟩:=pF I.ay e;have hz:vs.length<=sizeLine:=by rw[<- rel.length];exact z
  have hl:(putK kvs k v).length<=sizeLine:=by have:=rT kvs k v;omega
  refine wpAny_setItem_pairs (hsz:=hz) (jX ry) dd fun h' js hs=>h _ ?_
  have he:∃q,h'.get? a=some q:=let ⟨q,_,_,hq,_⟩:=js;⟨q,hq⟩
  exact sN I (by rw[e];exact acF) hs he (CU hl hd (rel.put k rv) js)
 ·subst ey eH;cases(show u=aaL b from ry);obtain⟨z,hd,xs,rel,dd⟩:=xf I.ay e;have hz:xs.length<=sizeLine:=by rw[<- acJ rel];exact z
  have hl:(putK kvs k v).length<=sizeLine:=by have:=rT kvs k v;omega
  refine wpAny_setItem_heap (hsz:=hz) (aaR hu) (jS I.ay eb) dd fun h' js hs=>h _ ?_
  obtain⟨q,es,ep,hq,h2,h3,h4,_,h5⟩:=js;refine sN I (by rw[e];exact acF) hs ⟨q,hq⟩ ⟨hl,hd,_,(rel.put k eb rv).keeps fun c ys ec=>?_,q,es,ep,hq,h2,h3,h4,h5⟩;rw[aM (gk ec e (fun z=>nomatch z))];exact ec
end
theorem MN{X:Cx}{pins:List (Addr×Obj)}{σ:St}{s:Zh}{a:Addr}{o:Option V}(I:Inv X pins σ H s)(g:eh H a y o):s.TypeIs (.ref a) "dict":=by
 rcases g with⟨kvs,k,e,_,_⟩ | ⟨kvs,k,b,e,_,_,_⟩
 ·obtain⟨_,_,vs,_,dd⟩:=lF I.ay e;exact dd.typeIs
 ·obtain⟨_,_,xs,_,dd⟩:=lG I.ay e;exact dd.typeIs
theorem O7{P:aah}{w:World}(h:Heap)(hb:aaW<h.objs.size):de P w H (h.push { cls:=.type "dict",data:=.dict #[] }) h.objs.size (.dK []):=
 ⟨aaF _,beq_eq_false_iff_ne.mpr (abg (ZE hb)),[],.nil,aec h⟩
noncomputable def Sk:TE:=fun _ H Q=>∀p,H p=none->Q (.ref p) (upd H p (.dK []))
section
variable{X:Cx}{pos:Pos}
theorem O8:PE X (.Dict [] [] pos) Sk:=fun pins s σ H Q I h=>
 wpAny_Dict_empty ⟨.ref s.heap.objs.size,_,I.laid (a:=s.heap.objs.size) (o:=.dK []) (t':=s.toks) (fun _ _ q=>Zk _ q) (Zf _) (O7 s.heap I.big),rfl,h _ (I.ay.fresh (Zf _))⟩
end
section
variable{X:Cx}{pins:List (Addr×Obj)}{σ:St}{H:Hp}{s:Zh}{a:Addr}{y d:V}{u r:Value}{o:Option V}{A:abd}{E:Value->Zh->Prop}
theorem wu{Q:Value->Zh->Prop}(hu:A.units+1<cLine)(I:Inv X pins σ H s)(g:eh H a y o)(ry:RelV y u)(h:∀w' s',Inv X pins σ H s'->RelV (o.getD .aG) w'->Q w' s') :
  wpAny (model X.prog X.w) A (call (.builtin "dict.get") [.ref a,u]) Q E s:=by
 rcases g with⟨kvs,k,e,ey,l⟩ | ⟨kvs,k,b,e,ey,eb,l⟩
 ·subst ey;obtain⟨z,hd,vs,rel,dd⟩:=lF I.ay e;refine adi ZM dd.typeIs abc (acN _ _) (meets_dict_get (cX X.prog X.w) a (jX ry) hd) ⟨_,dd.mapOf,h _ _ (I.tok _) ?_⟩;rw[l];exact(rel.val k).getD rfl
 ·subst ey;cases(show u=aaL b from ry);obtain⟨z,hd,xs,rel,dd⟩:=lG I.ay e;refine adi ZM dd.typeIs abc (acN _ _) (meetsH_dict_get (acz (cX X.prog X.w)) a b hd) ⟨aaR hu,k,xs,jS I.ay eb,dd,h _ _ (I.tok _) ?_⟩;rw[l];exact(rel.val k).getD rfl
theorem wz{Q:Value->Zh->Prop}(hu:A.units+1<cLine)(I:Inv X pins σ H s)(g:eh H a y o)(ry:RelV y u)(rd:RelV d r)(h:∀w' s',Inv X pins σ H s'->RelV (o.getD d) w'->Q w' s') :
  wpAny (model X.prog X.w) A (call (.builtin "dict.get") [.ref a,u,r]) Q E s:=by
 rcases g with⟨kvs,k,e,ey,l⟩ | ⟨kvs,k,b,e,ey,eb,l⟩
 ·subst ey;obtain⟨z,hd,vs,rel,dd⟩:=lF I.ay e;refine adi ZM dd.typeIs abc (acO _ _ _) (meets_dict_get_default (cX X.prog X.w) a (jX ry) hd r) ⟨_,dd.mapOf,h _ _ (I.tok _) ?_⟩;rw[l];exact(rel.val k).getD rd
 ·subst ey;cases(show u=aaL b from ry);obtain⟨z,hd,xs,rel,dd⟩:=lG I.ay e;refine adi ZM dd.typeIs abc (acO _ _ _) (meetsH_dict_get_default (acz (cX X.prog X.w)) a b hd r) ⟨aaR hu,k,xs,jS I.ay eb,dd,h _ _ (I.tok _) ?_⟩;rw[l];exact(rel.val k).getD rd
end
end L2
namespace IL
open PySem PySem.Spec PyProof.Rows L2
inductive W where
 | aG | bl (b:Bool) | int (i:Int) | str (x:Str) | tup (ws:List W) | fl (ws:List W) | ref (i:Nat) | exc (c:Str) (ns:List Str) (ws:List W) | fn (x:Str) (ws:List W)
mutual
noncomputable def W.dec:(a b:W)->Decidable (a=b)
 | .aG,.aG=>ZJ rfl
 | .bl a,.bl b=>if h:a=b then ZJ (by rw[h]) else Zm (fun e=>h (W.bl.inj e))
 | .int a,.int b=>if h:a=b then ZJ (by rw[h]) else Zm (fun e=>h (W.int.inj e))
 | .str a,.str b=>if h:a=b then ZJ (by rw[h]) else Zm (fun e=>h (W.str.inj e))
 | .tup a,.tup b=>match W.pT a b with
  | ZJ h=>ZJ (by rw[h])
  | Zm h=>Zm (fun e=>h (W.tup.inj e))
 | .fl a,.fl b=>match W.pT a b with
  | ZJ h=>ZJ (by rw[h])
  | Zm h=>Zm (fun e=>h (W.fl.inj e))
 | .ref a,.ref b=>if h:a=b then ZJ (by rw[h]) else Zm (fun e=>h (W.ref.inj e))
 | .exc c ns a,.exc c' fY b=>match W.pT a b with
  | ZJ h=>if h1:c=c' then if h2:ns=fY then ZJ (by rw[h,h1,h2]) else Zm (fun e=>h2 (W.exc.inj e).2.1) else Zm (fun e=>h1 (W.exc.inj e).1)
  | Zm h=>Zm (fun e=>h (W.exc.inj e).2.2)
 | .fn c a,.fn c' b=>match W.pT a b with
  | ZJ h=>if h1:c=c' then ZJ (by rw[h,h1]) else Zm (fun e=>h1 (W.fn.inj e).1)
  | Zm h=>Zm (fun e=>h (W.fn.inj e).2)
 | .aG,.bl _ | .aG,.int _ | .aG,.str _ | .aG,.tup _ | .aG,.fl _ | .aG,.ref _ | .aG,.exc _ _ _=>Zm (fun e=>nomatch e)
 | .bl _,.aG | .bl _,.int _ | .bl _,.str _ | .bl _,.tup _ | .bl _,.fl _ | .bl _,.ref _ | .bl _,.exc _ _ _=>Zm (fun e=>nomatch e)
 | .int _,.aG | .int _,.bl _ | .int _,.str _ | .int _,.tup _ | .int _,.fl _ | .int _,.ref _ | .int _,.exc _ _ _=>Zm (fun e=>nomatch e)
 | .str _,.aG | .str _,.bl _ | .str _,.int _ | .str _,.tup _ | .str _,.fl _ | .str _,.ref _ | .str _,.exc _ _ _=>Zm (fun e=>nomatch e)
 | .tup _,.aG | .tup _,.bl _ | .tup _,.int _ | .tup _,.str _ | .tup _,.fl _ | .tup _,.ref _ | .tup _,.exc _ _ _=>Zm (fun e=>nomatch e)
 | .fl _,.aG | .fl _,.bl _ | .fl _,.int _ | .fl _,.str _ | .fl _,.tup _ | .fl _,.ref _ | .fl _,.exc _ _ _=>Zm (fun e=>nomatch e)
 | .ref _,.aG | .ref _,.bl _ | .ref _,.int _ | .ref _,.str _ | .ref _,.tup _ | .ref _,.fl _ | .ref _,.exc _ _ _=>Zm (fun e=>nomatch e)
 | .exc _ _ _,.aG | .exc _ _ _,.bl _ | .exc _ _ _,.int _ | .exc _ _ _,.str _ | .exc _ _ _,.tup _ | .exc _ _ _,.fl _ | .exc _ _ _,.ref _=>Zm (fun e=>nomatch e)
 | .aG,.fn _ _ | .bl _,.fn _ _ | .int _,.fn _ _ | .str _,.fn _ _ | .tup _,.fn _ _ | .fl _,.fn _ _ | .ref _,.fn _ _ | .exc _ _ _,.fn _ _=>Zm (fun e=>nomatch e)
 | .fn _ _,.aG | .fn _ _,.bl _ | .fn _ _,.int _ | .fn _ _,.str _ | .fn _ _,.tup _ | .fn _ _,.fl _ | .fn _ _,.ref _ | .fn _ _,.exc _ _ _=>Zm (fun e=>nomatch e)
noncomputable def W.pT:(a b:List W)->Decidable (a=b)
 | [],[]=>ZJ rfl
 | a::as,b::bs=>match W.dec a b,W.pT as bs with
  | ZJ h,ZJ h'=>ZJ (by rw[h,h'])
  | Zm h,_=>Zm (fun e=>h (adK e).1)
  | _,Zm h=>Zm (fun e=>h (adK e).2)
 | [],_::_ | _::_,[]=>Zm (fun e=>nomatch e)
end
instance:DecidableEq W:=W.dec
inductive PO where
 | lst (ws:List W)
 | aF (kvs:List (W×W))
 | obj (c:Str) (fs:List (Str×W))
 | jt (kvs:List (W×W))
 | oj (kvs:List (W×W))
 deriving DecidableEq
noncomputable def PO.fz:PO->Bool
 | .jt _=>true
 | _=>false
abbrev PH:=List PO
abbrev Po(α:Type):=PH->Option (α×PH)
variable{α:Type}
noncomputable def ret(a:α):Po α:=fun ph=>some (a,ph)
noncomputable def eG:Po α:=fun _=>none
structure XC where
 cls:Str
 fs:List (Str×W)
inductive Out(α:Type) where
 | ok (a:α) (ph:PH)
 | ex (x:XC) (ph:PH)
 | no
noncomputable def Out.Run(r:Out α)(N:α->PH->Prop)(E:XC->PH->Prop):Prop:=match r with
 | .ok a ph=>N a ph
 | .ex x ph=>E x ph
 | .no=>False
variable{E:XC->PH->Prop}
theorem Out.Run.mono{r:Out α}{N N':α->PH->Prop}{E':XC->PH->Prop}(h:r.Run N E)(hn:∀a ph,N a ph->N' a ph)(he:∀x ph,E x ph->E' x ph):r.Run N' E':=by
 cases r with
 | ok a ph=>exact hn a ph h
 | ex x ph=>exact he x ph h
 | no=>exact h
abbrev Mo(α:Type):=PH->Out α
noncomputable def au(a:α):Mo α:=fun ph=>.ok a ph
noncomputable def c5:Mo α:=fun _=>.no
noncomputable def lift(o:Po α):Mo α:=fun ph=>match o ph with
 | some p=>.ok p.1 p.2
 | none=>.no
noncomputable def aq{β:Type}(m:Mo α)(f:α->Mo β):Mo β:=fun ph=>match m ph with
 | .ok a ph'=>f a ph'
 | .ex x ph'=>.ex x ph'
 | .no=>.no
variable{ph:PH}
theorem cG{β:Type}{m:Mo α}{f:α->Mo β}{N:β->PH->Prop}:(aq m f ph).Run N E=(m ph).Run (fun a ph1=>(f a ph1).Run N E) E:=by
 unfold aq;cases m ph <;> rfl
theorem run_lift{o:Po α}{N:α->PH->Prop}(h:(lift o ph).Run N E):∃a ph',o ph=some (a,ph')/\N a ph':=by
 unfold lift at h;cases e:o ph with
 | none=>rw[e] at h;exact h.elim
 | some p=>rw[e] at h;exact⟨p.1,p.2,rfl,h⟩
abbrev aK:=List (Option W)
abbrev EM:=aK->Mo W
abbrev TM:=aK->Mo Bool
abbrev AM:=aK->Mo (List W)
inductive Fl where
 | nx (σ:aK) | rt (w:W) | bk (σ:aK) | ct (σ:aK)
abbrev SM:=aK->Mo Fl
noncomputable def KL(K:Zc)(a:Addr)(xs:List V):Prop:=
 ∃(o:Obj) (its:Array Value) (n:Nat),K.lookup a=some o/\o.cls=.type "list"/\o.dict=none/\o.data=.seq its n/\its.size<=Zt/\Vals xs its.toList
noncomputable def tN(K:Zc)(H:Hp)(a:Addr)(xs:List V):Prop:=(∃o,H a=some (.aO o (.lst xs)))\/KL K a xs
variable{K:Zc}{H:Hp}{a:Addr}
theorem tN.sq{xs:List V}(h:tN K H a xs):bo K H a xs:=by
 rcases h with⟨o,h⟩ | h
 ·exact .inl (.inr ⟨o,h⟩)
 ·exact .inr h
noncomputable def tO(H:Hp)(o:Obj)(ns:List Str)(vs:List V):Prop:=(ns=[]/\vs=[])\/∃d od,o.dict=some d/\ns.length=vs.length/\H d=some (.aO od (.xd (ns.zip vs)))
abbrev ck:HO:=.ext fun _=>True
structure fF where
 ar:Arguments
 bd:Expr
 sc:Scope
 pos:Pos
noncomputable def VE:Stmt->Option fF
 | .Return (some (.Call _ [_,.Lambda a b s p] _ _)) _=>some ⟨a,b,s,p⟩
 | .Assign _ (.Call _ [.Call _ [_,.Lambda a b s p] _ _] _ _) _=>some ⟨a,b,s,p⟩
 | _=>none
noncomputable def xK(l:List Stmt):Option fF:=l.findSome? VE
noncomputable def gn(K:Zc)(x:Str):Option fF:=match Zy K Zo x with
 | some (some (.ref f))=>(match K.lookup f with
  | some ⟨_,_,.func fd,_⟩=>(match fd.body with
   | .stmts b=>xK b
   | _=>none)
  | _=>none)
 | _=>none
noncomputable def dh(K:Zc):List (Str×Addr×Addr):=match K.lookup Zo with
 | some ⟨_,_,.dict es _,_⟩=>es.toList.filterMap fun e=>match e.key with
  | .str x _=>if(gn K x).isSome then(PySem.W.tabIn K x).map (x,·) else none
  | _=>none
 | _=>[]
noncomputable def pU(x:Str):Str:=(x++".<locals>.")++"<lambda>"
noncomputable def ny(H:Hp)(v:Value)(x:Str):Prop:=∃c oc vs t,v=.ref c/\H c=some (.aO oc ck)/\oc.data=.fields vs/\vs[1]? =some (.str (pU x) t)
noncomputable def gR(H:Hp)(x:Str)(P:Addr):Prop:=∃ps,H P=some (.cx ps)/\abj ps.toList/\∀pos v,adj pos ps.toList=some v->ny H v x
noncomputable def lP(K:Zc)(H:Hp)(x:Str)(o:Obj)(cl:List (Str×Addr)):Prop:=∃L pm v fZ,gn K x=some L/\o={ cls:=.type "function",data:=.func (acw "<lambda>" (pU x) L.ar L.bd L.sc cl pm v fZ) }/\ny H v x /\
 ∀y,L.sc.names.lookup y=some .free->∃c,cl.lookup y=some c
noncomputable def ip(H:Hp):List (Str×Addr)->List V->Prop
 | [],[]=>True
 | p::cl,v::vs=>(∃oc u,H p.2=some (.aO oc ck)/\oc.data=.cell (some u)/\RelV v u)/\ip H cl vs
 | _,_=>False
mutual
inductive aJ(K:Zc)(φ:Nat->Addr)(n:Nat)(H:Hp):W->V->Prop where
 | aG:aJ K φ n H .aG .aG
 | bl (b:Bool):aJ K φ n H (.bl b) (.bl b)
 | int (i:Int):aJ K φ n H (.int i) (.int i)
 | str (x:Str):aJ K φ n H (.str x) (.str x)
 | tup {ws:List W} {a:Addr} {vs:List V} (h:H a=some (.tup vs)) (r:aT K φ n H ws vs):aJ K φ n H (.tup ws) (.ref a)
 | fl {ws:List W} {a:Addr} {vs:List V} (h:tN K H a vs) (r:aT K φ n H ws vs):aJ K φ n H (.fl ws) (.ref a)
 | ref {i:Nat} (h:i<n):aJ K φ n H (.ref i) (.ref (φ i))
 | exc {c:Str} {ns:List Str} {ws:List W} {a C:Addr} {vs:List V} {o:Obj} {u:HO} (h:H a=some (.aO o u)) (hc:o.cls=.ref C) (hn:Zy K Zo c=some (some (.ref C))) (hk:PySem.W.notCls o=true) (hf:tO H o ns vs) (r:aT K φ n H ws vs):aJ K φ n H (.exc c ns ws) (.ref a)
 | fn {x:Str} {ws:List W} {a:Addr} {vs:List V} {o:Obj} {cl:List (Str×Addr)} (h:H a=some (.aO o ck)) (hl:lP K H x o cl) (hc:ip H cl vs) (r:aT K φ n H ws vs):aJ K φ n H (.fn x ws) (.ref a)
inductive aT(K:Zc)(φ:Nat->Addr)(n:Nat)(H:Hp):List W->List V->Prop where
 | nil:aT K φ n H [] []
 | cons {w:W} {v:V} {ws:List W} {vs:List V} (h:aJ K φ n H w v) (r:aT K φ n H ws vs):aT K φ n H (w::ws) (v::vs)
end
structure Step(K:Zc)(φ:Nat->Addr)(n:Nat)(H:Hp)(ao:Nat->Addr)(n':Nat)(H':Hp):Prop where
 le:n<=n'
 eq:∀i,i<n->ao i=φ i
 tup:∀a xs,H a=some (.tup xs)->H' a=some (.tup xs)
 aO:∀a o u,H a=some (.aO o u)->H' a=some (.aO o u)
section
variable{K:Zc}{φ ao yn:Nat->Addr}{n n' yo:Nat}{H H' fG:Hp}
theorem Step.refl:Step K φ n H φ n H:=⟨Zf _,fun _ _=>rfl,fun _ _ h=>h,fun _ _ _ h=>h⟩
theorem Step.trans(a:Step K φ n H ao n' H')(b:Step K ao n' H' yn yo fG):Step K φ n H yn yo fG:=
 ⟨Zq a.le b.le,fun i h=>(b.eq i (Zg h a.le)).trans (a.eq i h),fun c xs h=>b.tup c xs (a.tup c xs h),fun c o u h=>b.aO c o u (a.aO c o u h)⟩
theorem tO.mono(s:Step K φ n H ao n' H'){o:Obj}{ns:List Str}{vs:List V}(h:tO H o ns vs):tO H' o ns vs:=
 h.imp_right fun⟨d,od,e1,e2,e3⟩=>⟨d,od,e1,e2,s.aO _ _ _ e3⟩
theorem ny.mono{v:Value}{x:Str}(h:ny H v x)(s:∀a o,H a=some (.aO o ck)->H' a=some (.aO o ck)):ny H' v x:=
 let ⟨c,oc,vs,t,e1,e2,e3⟩:=h;⟨c,oc,vs,t,e1,s _ _ e2,e3⟩
theorem lP.mono{x:Str}{o:Obj}{cl:List (Str×Addr)}(h:lP K H x o cl)(s:∀a o,H a=some (.aO o ck)->H' a=some (.aO o ck)):lP K H' x o cl:=
 let ⟨L,pm,v,fZ,e1,e2,e3,e4⟩:=h;⟨L,pm,v,fZ,e1,e2,e3.mono s,e4⟩
theorem ip.mono(s:∀a o,H a=some (.aO o ck)->H' a=some (.aO o ck)):∀{cl:List (Str×Addr)} {vs:List V},ip H cl vs->ip H' cl vs
 | [],[],_=>trivial
 | _::_,_::_,⟨⟨oc,u,e1,e2⟩,r⟩=>⟨⟨oc,u,s _ _ e1,e2⟩,ip.mono s r⟩
 | [],_::_,h=>h.elim
 | _::_,[],h=>h.elim
mutual
theorem aJ.mono(s:Step K φ n H ao n' H'):∀{w:W} {v:V},aJ K φ n H w v->aJ K ao n' H' w v
 | _,_,.aG=>.aG
 | _,_,.bl b=>.bl b
 | _,_,.int i=>.int i
 | _,_,.str x=>.str x
 | _,_,.tup h r=>.tup (s.tup _ _ h) (aT.mono s r)
 | _,_,.fl h r=>.fl (h.elim (fun⟨o,e⟩=>.inl ⟨o,s.aO _ _ _ e⟩) .inr) (aT.mono s r)
 | _,_,.ref (i:=i) h=>(s.eq i h)▸.ref (Zg h s.le)
 | _,_,.exc h hc hn hk hf r=>.exc (s.aO _ _ _ h) hc hn hk (hf.mono s) (aT.mono s r)
 | _,_,.fn h hl hc r=>.fn (s.aO _ _ _ h) (hl.mono fun a o z=>s.aO a o _ z) (hc.mono fun a o z=>s.aO a o _ z) (aT.mono s r)
theorem aT.mono(s:Step K φ n H ao n' H'):∀{ws:List W} {vs:List V},aT K φ n H ws vs->aT K ao n' H' ws vs
 | _,_,.nil=>.nil
 | _,_,.cons h r=>.cons (aJ.mono s h) (aT.mono s r)
end
theorem aT.length:∀{ws:List W} {vs:List V},aT K φ n H ws vs->ws.length=vs.length
 | _,_,.nil=>rfl
 | _,_,.cons _ r=>by simp[aT.length r]
theorem aT.get:∀{ws:List W} {vs:List V} {i:Nat} {w:W},aT K φ n H ws vs->ws[i]? =some w->∃v,vs[i]? =some v/\aJ K φ n H w v
 | _,_,_,_,.nil,e=>by simp at e
 | _,_,0,_,.cons h _,e=>by simp at e;subst e;exact⟨_,rfl,h⟩
 | _,_,i+1,w,.cons _ r,e=>by
  obtain⟨u,h1,h2⟩:=aT.get (i:=i) (w:=w) r (by simpa using e);exact⟨u,by simpa using h1,h2⟩
theorem aT.append:∀{ws xs:List W} {vs us:List V},aT K φ n H ws vs->aT K φ n H xs us->aT K φ n H (ws++xs) (vs++us)
 | _,_,_,_,.nil,s=>s
 | _,_,_,_,.cons h r,s=>.cons h (aT.append r s)
theorem aT.set{w:W}{v:V}(q:aJ K φ n H w v):∀{ws:List W} {vs:List V} (i:Nat),aT K φ n H ws vs->aT K φ n H (ws.set i w) (vs.set i v)
 | _,_,_,.nil=>.nil
 | _,_,0,.cons _ r=>.cons q r
 | _,_,i+1,.cons h r=>.cons h (aT.set q i r)
end
noncomputable def bC:Key->W
 | .inl i=>.int i
 | .inr x=>.str x
inductive bS(K:Zc)(φ:Nat->Addr)(n:Nat)(H:Hp):List (W×W)->List (Key×V)->Prop where
 | nil:bS K φ n H [] []
 | cons {k:Key} {w:W} {v:V} {kws:List (W×W)} {kvs:List (Key×V)} (h:aJ K φ n H w v) (r:bS K φ n H kws kvs):bS K φ n H ((bC k,w)::kws) ((k,v)::kvs)
inductive bV(K:Zc)(φ:Nat->Addr)(n:Nat)(H:Hp):List (W×W)->List (List Key×V)->Prop where
 | nil:bV K φ n H [] []
 | cons {k:List Key} {w:W} {v:V} {kws:List (W×W)} {kvs:List (List Key×V)} (h:aJ K φ n H w v) (r:bV K φ n H kws kvs):bV K φ n H ((.tup (k.map bC),w)::kws) ((k,v)::kvs)
theorem bS.mono{K:Zc}{φ ao:Nat->Addr}{n n':Nat}{H H':Hp}(s:Step K φ n H ao n' H'):∀{ws:List (W×W)} {vs:List (Key×V)},bS K φ n H ws vs->bS K ao n' H' ws vs
 | _,_,.nil=>.nil
 | _,_,.cons h r=>.cons (h.mono s) (bS.mono s r)
theorem bV.mono{K:Zc}{φ ao:Nat->Addr}{n n':Nat}{H H':Hp}(s:Step K φ n H ao n' H'):∀{ws:List (W×W)} {vs:List (List Key×V)},bV K φ n H ws vs->bV K ao n' H' ws vs
 | _,_,.nil=>.nil
 | _,_,.cons h r=>.cons (h.mono s) (bV.mono s r)
inductive kb(K:Zc)(φ:Nat->Addr)(n:Nat)(H:Hp):List (W×W)->List (V×V)->Prop where
 | nil:kb K φ n H [] []
 | cons {k w:W} {u v:V} {kws:List (W×W)} {kvs:List (V×V)} (hk:aJ K φ n H k u) (h:aJ K φ n H w v) (r:kb K φ n H kws kvs):kb K φ n H ((k,w)::kws) ((u,v)::kvs)
theorem kb.mono{K:Zc}{φ ao:Nat->Addr}{n n':Nat}{H H':Hp}(s:Step K φ n H ao n' H'):∀{ws:List (W×W)} {vs:List (V×V)},kb K φ n H ws vs->kb K ao n' H' ws vs
 | _,_,.nil=>.nil
 | _,_,.cons hk h r=>.cons (hk.mono s) (h.mono s) (kb.mono s r)
inductive kc(K:Zc)(φ:Nat->Addr)(n:Nat)(H:Hp):List (Str×W)->List (Str×V)->Prop where
 | nil:kc K φ n H [] []
 | cons {f:Str} {w:W} {v:V} {fs:List (Str×W)} {vs:List (Str×V)} (h:aJ K φ n H w v) (r:kc K φ n H fs vs):kc K φ n H ((f,w)::fs) ((f,v)::vs)
theorem kc.mono{K:Zc}{φ ao:Nat->Addr}{n n':Nat}{H H':Hp}(s:Step K φ n H ao n' H'):∀{ws:List (Str×W)} {vs:List (Str×V)},kc K φ n H ws vs->kc K ao n' H' ws vs
 | _,_,.nil=>.nil
 | _,_,.cons h r=>.cons (h.mono s) (kc.mono s r)
noncomputable def jY(K:Zc)(φ:Nat->Addr)(n:Nat)(H:Hp)(o:PO)(a:Addr):Prop:=match o with
 | .lst ws=>∃vs,H a=some (.lst vs)/\aT K φ n H ws vs
 | .aF kws=>(∃kvs,H a=some (.dK kvs)/\bS K φ n H kws kvs)\/∃kvs,H a=some (.dT kvs)/\bV K φ n H kws kvs
 | .obj c fs=>∃C dx vs,Zy K Zo c=some (some (.ref C))/\H a=some (.ins C dx vs)/\kc K φ n H fs vs
 | .oj kws=>∃kvs,H a=some (.dU kvs)/\kb K φ n H kws kvs/\(kws.map (·.1)).Nodup
 | .jt kws=>∃o,o.cls=.type "dict"/\((∃kvs,H a=some (.aO o (.dK kvs))/\bS K φ n H kws kvs)\/∃kvs,H a=some (.aO o (.dT kvs))/\bV K φ n H kws kvs)
structure aD(K:Zc)(φ:Nat->Addr)(ph:PH)(H:Hp):Prop where
 hp:∀i o,ph[i]? =some o->jY K φ ph.length H o (φ i)
 inj:∀i j,i<ph.length->j<ph.length->φ i=φ j->i=j
 tb:∀p∈dh K,gR H p.1 p.2.2
theorem gR.upd{H:Hp}{x:Str}{P a:Addr}{o:HO}(h:gR H x P)(n1:∀ps,H a≠some (.cx ps))(n2:∀oc,H a≠some (.aO oc ck)):gR (upd H a o) x P:=by
 obtain⟨ps,e1,e2,e3⟩:=h;refine⟨ps,?_,e2,fun pos v e=>?_⟩
 ·rw[aM (fun z=>n1 ps (by rw[<- z];exact e1))];exact e1
 ·obtain⟨c,oc,vs,t,f1,f2,f3⟩:=e3 pos v e;refine⟨c,oc,vs,t,f1,?_,f3⟩;rw[aM (fun z=>n2 oc (by rw[<- z];exact f2))];exact f2
variable{o:HO}
theorem gR.new{x:Str}{P:Addr}(h:gR H x P)(hn:H a=none):gR (L2.upd H a o) x P:=h.upd (fun _ z=>by rw[hn] at z;cases z) fun _ z=>by rw[hn] at z;cases z
inductive aY(K:Zc)(φ:Nat->Addr)(n:Nat)(H:Hp):aK->L2.St->Prop where
 | nil:aY K φ n H [] []
 | sm {w:W} {v:V} {ws:aK} {vs:L2.St} (h:aJ K φ n H w v) (r:aY K φ n H ws vs):aY K φ n H (some w::ws) (some v::vs)
 | nn {v:Option V} {ws:aK} {vs:L2.St} (r:aY K φ n H ws vs):aY K φ n H (none::ws) (v::vs)
section
variable{K:Zc}{φ ao yn:Nat->Addr}{n n' yo:Nat}{H H' fG:Hp}{ph:PH}
theorem aY.mono(s:Step K φ n H ao n' H'):∀{ws:aK} {vs:L2.St},aY K φ n H ws vs->aY K ao n' H' ws vs
 | _,_,.nil=>.nil
 | _,_,.sm h r=>.sm (h.mono s) (aY.mono s r)
 | _,_,.nn r=>.nn (aY.mono s r)
theorem aY.get:∀{ws:aK} {vs:L2.St} {i:Nat} {w:W},aY K φ n H ws vs->ws[i]? =some (some w)->∃v,vs[i]? =some (some v)/\aJ K φ n H w v
 | _,_,_,_,.nil,e=>by simp at e
 | _,_,0,_,.sm h _,e=>by simp at e;subst e;exact⟨_,rfl,h⟩
 | _,_,0,_,.nn _,e=>by simp at e
 | _,_,i+1,w,.sm _ r,e=>by
  obtain⟨u,h1,h2⟩:=aY.get (i:=i) (w:=w) r (by simpa using e);exact⟨u,by simpa using h1,h2⟩
 | _,_,i+1,w,.nn r,e=>by
  obtain⟨u,h1,h2⟩:=aY.get (i:=i) (w:=w) r (by simpa using e);exact⟨u,by simpa using h1,h2⟩
theorem aY.set{w:W}{v:V}(q:aJ K φ n H w v):∀{ws:aK} {vs:L2.St} (i:Nat),aY K φ n H ws vs->aY K φ n H (ws.set i (aaU w)) (vs.set i (aaU v))
 | _,_,_,.nil=>.nil
 | _,_,0,.sm _ r=>.sm q r
 | _,_,0,.nn r=>.sm q r
 | _,_,i+1,.sm h r=>.sm h (aY.set q i r)
 | _,_,i+1,.nn r=>.nn (aY.set q i r)
theorem aY.start:∀{ws:List W} {vs:List V} (k:Nat),aT K φ n H ws vs->aY K φ n H (ws.map aaU++Zi k Option.none) (vs.map aaU++Zi k Option.none)
 | _,_,0,.nil=>.nil
 | _,_,k+1,.nil=>.nn (aY.start k .nil)
 | _,_,k,.cons h r=>.sm h (aY.start k r)
theorem jY.some{o:PO}{a:Addr}(h:jY K φ n H o a):∃x,H a=aaU x/\(o.fz=false->jm (aaU x)):=by
 cases o with
 | lst ws=>obtain⟨vs,e,_⟩:=h;exact⟨_,e,fun _=>trivial⟩
 | aF kws=>
  rcases h with⟨vs,e,_⟩ | ⟨vs,e,_⟩
  ·exact⟨_,e,fun _=>trivial⟩
  ·exact⟨_,e,fun _=>trivial⟩
 | obj c fs=>obtain⟨C,dx,vs,_,e,_⟩:=h;exact⟨_,e,fun _=>trivial⟩
 | oj kws=>obtain⟨kvs,e,_⟩:=h;exact⟨_,e,fun _=>trivial⟩
 | jt kws=>
  obtain⟨o,_,⟨vs,e,_⟩ | ⟨vs,e,_⟩⟩:=h
  ·exact⟨_,e,fun z=>nomatch z⟩
  ·exact⟨_,e,fun z=>nomatch z⟩
theorem jY.mono{o:PO}{a:Addr}(s:Step K φ n H ao n' H')(e:H' a=H a)(h:jY K φ n H o a):jY K ao n' H' o a:=by
 cases o with
 | lst ws=>obtain⟨vs,q,r⟩:=h;exact⟨vs,e.trans q,r.mono s⟩
 | aF kws=>
  rcases h with⟨vs,q,r⟩ | ⟨vs,q,r⟩
  ·exact .inl ⟨vs,e.trans q,r.mono s⟩
  ·exact .inr ⟨vs,e.trans q,r.mono s⟩
 | obj c fs=>obtain⟨C,dx,vs,q1,q2,r⟩:=h;exact⟨C,dx,vs,q1,e.trans q2,r.mono s⟩
 | oj kws=>obtain⟨kvs,q,r,nd⟩:=h;exact⟨kvs,e.trans q,r.mono s,nd⟩
 | jt kws=>
  obtain⟨o,hc,⟨vs,q,r⟩ | ⟨vs,q,r⟩⟩:=h
  ·exact⟨o,hc,.inl ⟨vs,e.trans q,r.mono s⟩⟩
  ·exact⟨o,hc,.inr ⟨vs,e.trans q,r.mono s⟩⟩
variable{i:Nat}
theorem aD.at(h:aD K φ ph H)(hi:i<ph.length):∃x,H (φ i)=aaU x/\(ph[i].fz=false->jm (aaU x)):=(h.hp i ph[i] (by simp[hi])).some
theorem aD.mu(h:aD K φ ph H){o:PO}(hw:ph[i]? =aaU o)(hz:o.fz=false):∃x,H (φ i)=aaU x/\jm (aaU x):=let ⟨x,e,k⟩:=(h.hp i o hw).some;⟨x,e,k hz⟩
variable{p:Addr}
theorem iW{xs:List V}(hp:H p=none):Step K φ n H φ n (upd H p (.tup xs)):=by
 refine⟨Zf _,fun _ _=>rfl,fun a ys h=>?_,fun a o u h=>?_⟩
 ·rw[aM (bN h hp)];exact h
 ·rw[aM (bN h hp)];exact h
theorem aD.tup{p:Addr}{xs:List V}(h:aD K φ ph H)(hp:H p=none):aD K φ ph (upd H p (.tup xs)):=by
 refine⟨fun i o e=>?_,h.inj,fun p hm=>(h.tb p hm).new hp⟩;have hi:i<ph.length:=(Zb.mp e).1;obtain⟨x,ex,_⟩:=h.at hi;exact(h.hp i o e).mono (iW hp) (aM (bN ex hp))
noncomputable def ext(φ:Nat->Addr)(n:Nat)(p:Addr):Nat->Addr:=fun i=>if i=n then p else φ i
theorem ng(h:i<n):ext φ n p i=φ i:=by unfold ext;rw[if_neg (by omega)]
theorem jT:ext φ n p n=p:=by unfold ext;rw[if_pos rfl]
theorem vB{o:HO}(hp:H p=none):Step K φ n H (ext φ n p) (n+1) (upd H p o):=by
 refine⟨abP _,fun i h=>ng h,fun a ys h=>?_,fun a o u h=>?_⟩
 ·rw[aM (bN h hp)];exact h
 ·rw[aM (bN h hp)];exact h
theorem aD.new{p:Addr}{x:HO}{o:PO}(h:aD K φ ph H)(hp:H p=none)(r:jY K (ext φ ph.length p) (ph.length+1) (upd H p x) o p) :
  aD K (ext φ ph.length p) (ph++[o]) (upd H p x):=by
 refine⟨fun i o' e=>?_,fun i j hi hj e=>?_,fun p hm=>(h.tb p hm).new hp⟩
 ·rw[Zz];by_cases hi:i<ph.length
  ·rw[ZU hi] at e;obtain⟨y,ey,_⟩:=h.at hi;rw[ng hi];exact(h.hp i o' e).mono (vB hp) (aM (bN ey hp))
  ·have hl:=(Zb.mp e).1;simp at hl;have:i=ph.length:=by omega
   subst this;simp at e;subst e;rw[jT];exact r
 ·simp at hi hj
  have key:∀k,k<ph.length->φ k≠p:=fun k hk z=>by
   obtain⟨y,ey,_⟩:=h.at hk;rw[z,hp] at ey;cases ey
  by_cases h1:i<ph.length <;> by_cases h2:j<ph.length
  ·rw[ng h1,ng h2] at e;exact h.inj i j h1 h2 e
  ·have:j=ph.length:=by omega
   subst this;rw[ng h1,jT] at e;exact(key i h1 e).elim
  ·have:i=ph.length:=by omega
   subst this;rw[ng h2,jT] at e;exact(key j h2 e.symm).elim
  ·omega
theorem mR{a:Addr}{x y:HO}(ha:H a=some x)(mx:jm (some x)):Step K φ n H φ n (upd H a y):=by
 refine⟨Zf _,fun _ _=>rfl,fun c ys h=>?_,fun c o u h=>?_⟩
 ·rw[aM (gk h ha (by rintro rfl;exact mx))];exact h
 ·rw[aM (gk h ha (by rintro rfl;exact mx))];exact h
theorem aD.put{x:HO}{o o0:PO}(h:aD K φ ph H)(hw:ph[i]? =some o0)(hz:o0.fz=false)(r:jY K φ ph.length (upd H (φ i) x) o (φ i)):aD K φ (ph.set i o) (upd H (φ i) x):=by
 have hi:i<ph.length:=(Zb.mp hw).1;obtain⟨y,ey,my⟩:=h.mu hw hz;refine⟨fun j o' e=>?_,fun j k hj hk e=>?_,fun p hm=>(h.tb p hm).upd (fun ps z=>?_) fun oc z=>?_⟩
 ·rw[aal];by_cases hj:j=i
  ·subst hj;rw[aad hi] at e;cases e;exact r
  ·rw[aas (abg hj)] at e;have gX:=(Zb.mp e).1;exact(h.hp j o' e).mono (mR ey my) (aM fun z=>hj (h.inj j i gX hi z))
 ·rw[aal] at hj hk;exact h.inj j k hj hk e
 ·rw[ey] at z;cases z;exact my
 ·rw[ey] at z;cases z;exact my
end
noncomputable def Made(X:Cx)(C:Addr)(H':Hp)(e:Value)(s':Zh):Prop:=
 ∃pins σ s vs h' a,e=.ref a/\s'={ s with heap:=h' }/\Inv X pins σ H' s/\Heap.MadeExcOf s.heap h' a (.ref C) vs
structure Wl(fs:List Addr)(H H':Hp)(h B h':Heap):Prop where
 keep:∀b o,h.get? b=some o->H b=none->b∉fs->B.get? b=some o
 slot:∀b o,h.get? b=some o->H b=none->b∈fs->∃sl,h'.get? b=some { o with slots:=sl }
 free:∀b o,h.get? b=some o->H b=none->H' b=none
 there:∀b o,h.get? b=some o->b∉fs->∃o',B.get? b=some o'
 ed:∀b xs,H b=some (.tup xs)->H' b=some (.tup xs)
 dz:∀b o u,H b=some (.aO o u)->H' b=some (.aO o u)
 ee:∀b ps,H b=some (.cx ps)->∃more,H' b=some (.cx (ps++more))
noncomputable def Flew(P:aah)(w:World)(l:List Env)(H:Hp)(s:Zh)(C:Addr)(H':Hp)(e:Value)(s':Zh):Prop:=
 ∃a a0 B,e=.ref a/\s'.os=s.os/\acK s'.gens/\Heap.FlyingW B l a (.ref C) a0 s'.heap/\bQ P w H' B/\Wl (dk l) H H' s.heap B s'.heap
noncomputable def ud(X:Cx)(x:XC)(H':Hp)(e:Value)(s':Zh):Prop:=∃C,X.mg x.cls=some (.ref C)/\x.fs=[]/\(Made X C H' e s'\/∃pins σ H s,Inv X pins σ H s/\Flew X.prog X.w X.stack H s C H' e s')
noncomputable def XE(X:Cx)(φ:Nat->Addr)(n:Nat)(H:Hp):XC->PH->Prop:=fun x ph'=>∀ao H' e s',aD X.K ao ph' H'->Step X.K φ n H ao ph'.length H'->ud X x H' e s'->X.xe e s'
variable{X:Cx}{φ:Nat->Addr}{n:Nat}{ph':PH}
theorem XE.step{av:Nat->Addr}{n1:Nat}{H1:Hp}{x:XC}(h:XE X φ n H x ph')(s:Step X.K φ n H av n1 H1):XE X av n1 H1 x ph':=fun ao H' e s' r t q=>h ao H' e s' r (s.trans t) q
noncomputable def tM(X:Cx)(m:EM):TE:=fun σ H Q=>∃φ ph ws,aD X.K φ ph H/\aY X.K φ ph.length H ws σ/\(m ws ph).Run (fun w ph'=>
 ∀ao H' v,aD X.K ao ph' H'->Step X.K φ ph.length H ao ph'.length H'->aJ X.K ao ph'.length H' w v->Q v H') (XE X φ ph.length H)
noncomputable def tT(X:Cx)(m:TM):TT:=fun σ H Q=>∃φ ph ws,aD X.K φ ph H/\aY X.K φ ph.length H ws σ/\(m ws ph).Run (fun b ph'=>
 ∀ao H',aD X.K ao ph' H'->Step X.K φ ph.length H ao ph'.length H'->Q b H') (XE X φ ph.length H)
noncomputable def tA(X:Cx)(m:AM):TA:=fun σ H Q=>∃φ ph ws,aD X.K φ ph H/\aY X.K φ ph.length H ws σ/\(m ws ph).Run (fun xs ph'=>
 ∀ao H' vs,aD X.K ao ph' H'->Step X.K φ ph.length H ao ph'.length H'->aT X.K ao ph'.length H' xs vs->Q vs H') (XE X φ ph.length H)
noncomputable def lQ(X:Cx)(D:Ends)(ao:Nat->Addr)(ph':PH)(H':Hp)(f:Fl):Prop:=match f with
 | .nx cU=>∀aj,aY X.K ao ph'.length H' cU aj->D.nx aj H'
 | .bk cU=>∀aj,aY X.K ao ph'.length H' cU aj->D.bk aj H'
 | .ct cU=>∀aj,aY X.K ao ph'.length H' cU aj->D.ct aj H'
 | .rt w=>∀v,aJ X.K ao ph'.length H' w v->D.rt v H'
noncomputable def tS(X:Cx)(m:SM):TS:=fun D σ H=>∃φ ph ws,aD X.K φ ph H/\aY X.K φ ph.length H ws σ/\(m ws ph).Run (fun f ph'=>
 ∀ao H',aD X.K ao ph' H'->Step X.K φ ph.length H ao ph'.length H'->lQ X D ao ph' H' f) (XE X φ ph.length H)
section
variable{X:Cx}{e:Expr}
theorem PE.imp{t t':TE}(h:PE X e t)(k:∀σ H Q,t' σ H Q->t σ H Q):PE X e t':=fun pins s σ H Q I q=>h pins s σ H Q I (k σ H Q q)
theorem PT.imp{t t':TT}(h:PT X e t)(k:∀σ H Q,t' σ H Q->t σ H Q):PT X e t':=fun pins s σ H Q I q=>h pins s σ H Q I (k σ H Q q)
theorem PA.imp{es:List Expr}{t t':TA}(h:PA X es t)(k:∀σ H Q,t' σ H Q->t σ H Q):PA X es t':=fun pos pins s σ H Q I q=>h pos pins s σ H Q I (k σ H Q q)
theorem PS.imp{st:Stmt}{t t':TS}(h:PS X st t)(k:∀D σ H,t' D σ H->t D σ H):PS X st t':=fun pins s σ H D I q=>h pins s σ H D I (k D σ H q)
theorem eW.imp{st:List Stmt}{t t':TS}(h:eW X st t)(k:∀D σ H,t' D σ H->t D σ H):eW X st t':=fun pins s σ H D I q=>h pins s σ H D I (k D σ H q)
abbrev IE(X:Cx)(e:Expr)(m:EM):Prop:=PE X e (tM X m)
abbrev IT(X:Cx)(e:Expr)(m:TM):Prop:=PT X e (tT X m)
abbrev IA(X:Cx)(es:List Expr)(m:AM):Prop:=PA X es (tA X m)
abbrev IS(X:Cx)(st:Stmt)(m:SM):Prop:=PS X st (tS X m)
abbrev gB(X:Cx)(st:List Stmt)(m:SM):Prop:=eW X st (tS X m)
end
noncomputable def aa(i:Nat):EM:=fun σ=>lift fun ph=>match σ[i]? with
 | some (some w)=>some (w,ph)
 | _=>none
noncomputable def eC(w:W):EM:=fun _=>au w
noncomputable def ab(f:W->W->Po W)(a b:EM):EM:=fun σ=>aq (a σ) fun x=>aq (b σ) fun y=>lift (f x y)
noncomputable def om(f:W->Po W)(a:EM):EM:=fun σ=>aq (a σ) fun x=>lift (f x)
noncomputable def da(K:Zc)(r:R2)(f:W->W->Po W):Prop:=∀{φ:Nat->Addr} {ph:PH} {H:Hp} {x y:W} {vx vy:V} {w:W} {ph':PH} {Q:VK},aD K φ ph H->aJ K φ ph.length H x vx->aJ K φ ph.length H y vy->f x y ph=some (w,ph') →
 (∀ao H' v,aD K ao ph' H'->Step K φ ph.length H ao ph'.length H'->aJ K ao ph'.length H' w v->Q v H')->r vx vy H Q
noncomputable def FQ(K:Zc)(r:V->Hp->VK->Prop)(f:W->Po W):Prop:=∀{φ:Nat->Addr} {ph:PH} {H:Hp} {x:W} {vx:V} {w:W} {ph':PH} {Q:VK},aD K φ ph H->aJ K φ ph.length H x vx->f x ph=some (w,ph') →
 (∀ao H' v,aD K ao ph' H'->Step K φ ph.length H ao ph'.length H'->aJ K ao ph'.length H' w v->Q v H')->r vx H Q
section
variable{X:Cx}{a b c:Expr}{ma mb mc:EM}{pos:Pos}
theorem Sl(i:Nat){x:Str}(hN:X.N[i]? =some x:=by rfl)(hv:az X.env.scope x:=by first | exact Or.inl rfl | exact Or.inr (Or.inl rfl) | exact Or.inr (Or.inr rfl))(hd:(x==("__debug__":Str))=false:=by decide)
  (hcd:(x==("__classdict__":Str))=false:=by decide):IE X (.Name x pos) (aa i):=by
 refine PE.imp (CQ hN hv hd hcd) fun σ H Q h=>?_
 obtain⟨φ,ph,ws,hH,hS,h⟩:=h;obtain⟨w,ph',e,k⟩:=run_lift h;split at e
 ·rename_i w' ew;cases e;obtain⟨v,ev,rv⟩:=hS.get ew;exact⟨v,ev,k φ H v hH Step.refl rv⟩
 ·cases e
theorem tP{t:V}{w:W}(h:PE X a (tC t))(r:∀φ n H,aJ X.K φ n H w t):IE X a (eC w):=by
 refine PE.imp h fun σ H Q h=>?_
 obtain⟨φ,ph,ws,hH,hS,h⟩:=h;exact h φ H _ hH Step.refl (r _ _ _)
variable{j:Nat}
theorem Sn{i:Int}:IE X (.Constant (.int i) j pos) (eC (.int i)):=tP RK fun _ _ _=>.int i
theorem So{x:Str}:IE X (.Constant (.str x) j pos) (eC (.str x)):=tP RM fun _ _ _=>.str x
theorem Uz{x:Bool}:IE X (.Constant (.bool x) j pos) (eC (.bl x)):=tP Ud fun _ _ _=>.bl x
theorem Sq:IE X (.Constant .none j pos) (eC .aG):=tP RL fun _ _ _=>.aG
variable{β:Type}{σ:L2.St}{H:Hp}{φ:Nat->Addr}{ph:PH}{ws:aK}
theorem tM.bind{m:EM}{Q:VK}{f:W->Mo β}{N:β->PH->Prop}(hH:aD X.K φ ph H)(hS:aY X.K φ ph.length H ws σ)(h:(aq (m ws) f ph).Run N (XE X φ ph.length H))
  (k:∀w ph1 av H1 v,aD X.K av ph1 H1->Step X.K φ ph.length H av ph1.length H1->aJ X.K av ph1.length H1 w v->(f w ph1).Run N (XE X av ph1.length H1)->Q v H1):tM X m σ H Q:=by
 rw[cG] at h;exact⟨φ,ph,ws,hH,hS,h.mono (fun w ph1 h1 av H1 v aE s1 r1=>k w ph1 av H1 v aE s1 r1 (h1.mono (fun _ _ z=>z) fun _ _ z=>z.step s1)) fun _ _ z=>z⟩
theorem tT.bind{m:TM}{Q:Bool->Hp->Prop}{f:Bool->Mo β}{N:β->PH->Prop}(hH:aD X.K φ ph H)(hS:aY X.K φ ph.length H ws σ)(h:(aq (m ws) f ph).Run N (XE X φ ph.length H))
  (k:∀b ph1 av H1,aD X.K av ph1 H1->Step X.K φ ph.length H av ph1.length H1->(f b ph1).Run N (XE X av ph1.length H1)->Q b H1):tT X m σ H Q:=by
 rw[cG] at h;exact⟨φ,ph,ws,hH,hS,h.mono (fun b ph1 h1 av H1 aE s1=>k b ph1 av H1 aE s1 (h1.mono (fun _ _ z=>z) fun _ _ z=>z.step s1)) fun _ _ z=>z⟩
theorem tA.bind{m:AM}{Q:List V->Hp->Prop}{f:List W->Mo β}{N:β->PH->Prop}(hH:aD X.K φ ph H)(hS:aY X.K φ ph.length H ws σ)(h:(aq (m ws) f ph).Run N (XE X φ ph.length H))
  (k:∀xs ph1 av H1 vs,aD X.K av ph1 H1->Step X.K φ ph.length H av ph1.length H1->aT X.K av ph1.length H1 xs vs->(f xs ph1).Run N (XE X av ph1.length H1)->Q vs H1):tA X m σ H Q:=by
 rw[cG] at h;exact⟨φ,ph,ws,hH,hS,h.mono (fun w ph1 h1 av H1 v aE s1 r1=>k w ph1 av H1 v aE s1 r1 (h1.mono (fun _ _ z=>z) fun _ _ z=>z.step s1)) fun _ _ z=>z⟩
variable{r:R2}{f:W->W->Po W}
theorem sO(hi:da X.K r f){Q:VK}(h:tM X (ab f ma mb) σ H Q):qg r (tM X ma) (tM X mb) σ H Q:=by
 obtain⟨φ,ph,ws,hH,hS,h⟩:=h;refine tM.bind hH hS h fun x ph1 av H1 vx aE s1 rx h=>tM.bind aE (hS.mono s1) h fun y ph2 aV H2 vy aX s2 ry h=>?_
 obtain⟨w,ph',e,k⟩:=run_lift h;exact hi aX (rx.mono s2) ry e fun gI H3 v gC s3 r3=>k gI H3 v gC ((s1.trans s2).trans s3) r3
theorem pG{op:Operator}(ho:bu X (abA op) r)(hi:da X.K r f)(ha:IE X a ma)(hb:IE X b mb):IE X (.BinOp a op b pos) (ab f ma mb):=
 PE.imp (Up ho ha hb) fun _ _ _ h=>sO hi h
theorem UA{op:UnaryOp}{r:V->Hp->VK->Prop}{f:W->Po W}(ho:ua X (unaryOp op) r)(hi:FQ X.K r f)(ha:IE X a ma):IE X (.UnaryOp op a pos) (om f ma):=by
 refine PE.imp (Uq ho ha) fun σ H Q h=>?_
 obtain⟨φ,ph,ws,hH,hS,h⟩:=h;refine tM.bind hH hS h fun x ph1 av H1 vx aE s1 rx h=>?_
 obtain⟨w,ph',e,k⟩:=run_lift h;exact hi aE rx e fun gI H3 v gC s3 r3=>k gI H3 v gC (s1.trans s3) r3
theorem Sr{op:CmpOp}(ho:bu X (aaM op) r)(hi:da X.K r f)(ha:IE X a ma)(hb:IE X b mb)(hm:aaQ op b=false):IE X (.Compare a [op] [b] pos) (ab f ma mb):=
 PE.imp (Ql ho ha hb hm) fun _ _ _ h=>sO hi h
noncomputable def eT(m:EM):TM:=fun σ=>aq (m σ) fun w=>lift (match w with
 | .bl b=>ret b
 | _=>eG)
theorem Ss{op:CmpOp}(ho:bu X (aaM op) r)(hi:da X.K r f)(ha:IE X a ma)(hb:IE X b mb)(hm:aaQ op b=false):IT X (.Compare a [op] [b] pos) (eT (ab f ma mb)):=by
 refine PT.imp (Qm ho ha hb hm) fun σ H Q h=>?_
 obtain⟨φ,ph,ws,hH,hS,h⟩:=h;refine sO hi (tM.bind hH hS h fun x ph1 av H1 vx aE s1 rx h=>?_);obtain⟨w,ph',e,k⟩:=run_lift h;split at e
 ·cases e;cases rx;exact⟨_,rfl,k av H1 aE s1⟩
 ·cases e
end
noncomputable def oo(g:Int->Int->Int):W->W->Po W:=fun x y=>match x,y with
 | .int i,.int j=>ret (.int (g i j))
 | _,_=>eG
noncomputable def nK(c:Int->Int->Bool)(g:Int->Int->Int):W->W->Po W:=fun x y=>match x,y with
 | .int i,.int j=>if c i j=true then ret (.int (g i j)) else eG
 | _,_=>eG
noncomputable def nL(g:Int->Int->Bool):W->W->Po W:=fun x y=>match x,y with
 | .int i,.int j=>ret (.bl (g i j))
 | _,_=>eG
theorem UB{g:Int->Int->Int}:da K (iI fun i j=>.int (g i j)) (oo g):=by
 intro φ ph H x y vx vy w ph' Q hH rx ry e k;unfold oo at e;split at e
 ·cases e;cases rx;cases ry;exact⟨_,_,rfl,rfl,k φ H _ hH Step.refl (.int _)⟩
 ·cases e
theorem CV{C:Int->Int->Prop}{c:Int->Int->Bool}{g:Int->Int->Int}(hc:∀i j,c i j=true->C i j):da K (rI C fun i j=>.int (g i j)) (nK c g):=by
 intro φ ph H x y vx vy w ph' Q hH rx ry e k;unfold nK at e;split at e
 ·split at e
  ·cases e;cases rx;cases ry;exact⟨_,_,rfl,rfl,hc _ _ (by assumption),k φ H _ hH Step.refl (.int _)⟩
  ·cases e
 ·cases e
theorem CW{g:Int->Int->Bool}:da K (iI fun i j=>.bl (g i j)) (nL g):=by
 intro φ ph H x y vx vy w ph' Q hH rx ry e k;unfold nL at e;split at e
 ·cases e;cases rx;cases ry;exact⟨_,_,rfl,rfl,k φ H _ hH Step.refl (.bl _)⟩
 ·cases e
noncomputable def dJ(a b:TM):TM:=fun σ=>aq (a σ) fun c=>if c=true then b σ else au false
noncomputable def d0(a b:TM):TM:=fun σ=>aq (a σ) fun c=>if c=true then au true else b σ
noncomputable def UC(a:TM):TM:=fun σ=>aq (a σ) fun c=>au (!c)
noncomputable def pV(a b:EM):EM:=fun σ=>aq (a σ) fun w=>match w with
 | .bl c=>if c=true then b σ else au (.bl false)
 | _=>c5
noncomputable def ue(a b:EM):EM:=fun σ=>aq (a σ) fun w=>match w with
 | .bl c=>if c=true then au (.bl true) else b σ
 | _=>c5
noncomputable def VF(a:EM):EM:=fun σ=>aq (a σ) fun w=>match w with
 | .bl c=>au (.bl (!c))
 | _=>c5
noncomputable def Wm(t:TM)(a b:EM):EM:=fun σ=>aq (t σ) fun c=>if c=true then a σ else b σ
section
variable{X:Cx}{a b c:Expr}{rest:List Expr}{ma mb mc:EM}{ta tb:TM}{pos:Pos}
theorem and_imp{σ:L2.St}{H:Hp}{Q:Bool->Hp->Prop}(h:tT X (dJ ta tb) σ H Q):tE (tT X ta) (tT X tb) σ H Q:=by
 obtain⟨φ,ph,ws,hH,hS,h⟩:=h;refine tT.bind hH hS h fun x ph1 av H1 aE s1 h=>?_
 cases x with
 | true=>exact lN ⟨av,ph1,ws,aE,hS.mono s1,h.mono (fun _ _ k aV H2 aX s2=>k aV H2 aX (s1.trans s2)) fun _ _ z=>z⟩
 | false=>exact lM (h av H1 aE s1)
theorem or_imp{σ:L2.St}{H:Hp}{Q:Bool->Hp->Prop}(h:tT X (d0 ta tb) σ H Q):og (tT X ta) (tT X tb) σ H Q:=by
 obtain⟨φ,ph,ws,hH,hS,h⟩:=h;refine tT.bind hH hS h fun x ph1 av H1 aE s1 h=>?_
 cases x with
 | false=>exact lM ⟨av,ph1,ws,aE,hS.mono s1,h.mono (fun _ _ k aV H2 aX s2=>k aV H2 aX (s1.trans s2)) fun _ _ z=>z⟩
 | true=>exact lN (h av H1 aE s1)
theorem Su{op:BoolOp}(ha:IT X a ta):PW X (.BoolOp op [a] pos) (tT X ta):=by
 cases op with
 | And=>exact Qd ha
 | Or=>exact RN ha
theorem Sv(ha:IT X a ta)(hb:PW X (.BoolOp .And (b::rest) pos) (tT X tb)):PW X (.BoolOp .And (a::b::rest) pos) (tT X (dJ ta tb)):=
 fun wh pins s σ H Q I h=>RO ha hb wh pins s σ H Q I (and_imp h)
theorem UD(ha:IT X a ta)(hb:PW X (.BoolOp .Or (b::rest) pos) (tT X tb)):PW X (.BoolOp .Or (a::b::rest) pos) (tT X (d0 ta tb)):=
 fun wh pins s σ H Q I h=>Ue ha hb wh pins s σ H Q I (or_imp h)
theorem Sw(ha:IE X a ma)(hb:IE X (.BoolOp .And (b::rest) pos) mb):IE X (.BoolOp .And (a::b::rest) pos) (pV ma mb):=by
 refine PE.imp (RQ ha hb) fun σ H Q h=>?_
 obtain⟨φ,ph,ws,hH,hS,h⟩:=h;refine tM.bind hH hS h fun x ph1 av H1 vx aE s1 rx h=>?_
 cases rx with
 | bl c=>
  refine⟨c,rfl,?_⟩;cases c with
  | true=>exact lN ⟨av,ph1,ws,aE,hS.mono s1,h.mono (fun _ _ k aV H2 v aX s2 r2=>k aV H2 v aX (s1.trans s2) r2) fun _ _ z=>z⟩
  | false=>exact lM (h av H1 _ aE s1 (.bl false))
 | _=>exact h.elim
theorem UE(ha:IE X a ma)(hb:IE X (.BoolOp .Or (b::rest) pos) mb):IE X (.BoolOp .Or (a::b::rest) pos) (ue ma mb):=by
 refine PE.imp (Uh ha hb) fun σ H Q h=>?_
 obtain⟨φ,ph,ws,hH,hS,h⟩:=h;refine tM.bind hH hS h fun x ph1 av H1 vx aE s1 rx h=>?_
 cases rx with
 | bl c=>
  refine⟨c,rfl,?_⟩;cases c with
  | false=>exact lM ⟨av,ph1,ws,aE,hS.mono s1,h.mono (fun _ _ k aV H2 v aX s2 r2=>k aV H2 v aX (s1.trans s2) r2) fun _ _ z=>z⟩
  | true=>exact lN (h av H1 _ aE s1 (.bl true))
 | _=>exact h.elim
theorem Sx{op:BoolOp}(ha:IE X a ma):IE X (.BoolOp op [a] pos) ma:=RP ha
noncomputable def pW(w:W):Po Bool:=fun ph=>match w with
 | .aG=>some (false,ph)
 | .bl b=>some (b,ph)
 | .int i=>some (i != 0,ph)
 | .str y=>if y.length<=Zt then some ((y.length:Int) != 0,ph) else none
 | .tup ws=>some (!ws.isEmpty,ph)
 | .fl ws=>some (!ws.isEmpty,ph)
 | .ref i=>match ph[i]? with
  | some (.lst ws)=>some (!ws.isEmpty,ph)
  | _=>none
 | .exc .. =>none
 | .fn .. =>none
noncomputable def VG(m:EM):TM:=fun σ=>aq (m σ) fun w=>lift (pW w)
end
noncomputable def cM:SM:=fun σ=>au (.nx σ)
noncomputable def aC(a b:SM):SM:=fun σ=>aq (a σ) fun f=>match f with
 | .nx aj=>b aj
 | f=>au f
noncomputable def eV(e:EM):SM:=fun σ=>aq (e σ) fun _=>au (.nx σ)
noncomputable def bt(e:EM):SM:=fun σ=>aq (e σ) fun w=>au (.rt w)
noncomputable def bI(t:TM)(a b:SM):SM:=fun σ=>aq (t σ) fun c=>if c=true then a σ else b σ
abbrev GM:=W->aK->Mo aK
noncomputable def gN(i:Nat):GM:=fun w σ=>au (σ.set i (some w))
noncomputable def aI(e:EM)(g:GM):SM:=fun σ=>aq (e σ) fun w=>aq (g w σ) fun aj=>au (.nx aj)
noncomputable def tG(X:Cx)(g:GM):TG:=fun v σ H Q=>∃φ ph ws w,aD X.K φ ph H/\aY X.K φ ph.length H ws σ/\aJ X.K φ ph.length H w v/\(g w ws ph).Run (fun cU ph'=>
 ∀ao H' aj,aD X.K ao ph' H'->Step X.K φ ph.length H ao ph'.length H'->aY X.K ao ph'.length H' cU aj->Q aj H') (XE X φ ph.length H)
abbrev IG(X:Cx)(tg:Expr)(g:GM):Prop:=PG X tg (tG X g)
section
variable{X:Cx}{e c:Expr}{m:EM}{t:TM}{a b:SM}{st:Stmt}{as bs rest:List Stmt}{pos:Pos}{tg:Expr}{g:GM}
theorem PG.imp{t t':TG}(h:PG X tg t)(k:∀v σ H Q,t' v σ H Q->t v σ H Q):PG X tg t':=fun pins s σ H v u Q I r q=>h pins s σ H v u Q I r (k v σ H Q q)
theorem Qq:gB X [] cM:=eW.imp Qe fun D σ H h=>by
 obtain⟨φ,ph,ws,hH,hS,h⟩:=h;exact h φ H hH Step.refl σ hS
variable{σ:L2.St}{H:Hp}
theorem B4{D:Ends}(h:tS X (aC a b) D σ H):EL (tS X a) (tS X b) D σ H:=by
 obtain⟨φ,ph,ws,hH,hS,h⟩:=h;unfold aC at h;rw[cG] at h;refine⟨φ,ph,ws,hH,hS,h.mono (fun f ph1 h av H1 aE s1=>?_) fun _ _ z=>z⟩;cases f with
 | nx iM=>exact fun σ1 gD=>⟨av,ph1,iM,aE,gD,h.mono (fun f ph2 k aV H2 aX s2=>k aV H2 aX (s1.trans s2)) fun _ _ z=>z.step s1⟩
 | bk iM=>exact h av H1 aE s1
 | ct iM=>exact h av H1 aE s1
 | rt w=>exact h av H1 aE s1
theorem O9(h1:IS X st a)(h2:gB X rest b):gB X (st::rest) (aC a b):=eW.imp (O2 h1 h2) fun _ _ _ h=>B4 h
theorem Qr(h1:IS X st a):gB X [st] a:=Qf h1
theorem Qs(he:IE X e m)(hs:abw e none pos.line X.env=pure false:=by rfl):IS X (.Expr e pos) (eV m):=PS.imp (Qg he hs) fun D σ H h=>by
 obtain⟨φ,ph,ws,hH,hS,h⟩:=h;exact tM.bind hH hS h fun w ph1 av H1 v aE s1 r1 h=>h av H1 aE s1 σ (hS.mono s1)
theorem Sy(he:IE X e m):IS X (.Return (some e) pos) (bt m):=PS.imp (RR he) fun D σ H h=>by
 obtain⟨φ,ph,ws,hH,hS,h⟩:=h;exact tM.bind hH hS h fun w ph1 av H1 v aE s1 r1 h=>h av H1 aE s1 v r1
theorem UG(hc:IT X c t)(ha:gB X as a)(hb:gB X bs b):IS X (.If c as bs pos) (bI t a b):=PS.imp (Uk hc ha hb) fun D σ H h=>by
 obtain⟨φ,ph,ws,hH,hS,h⟩:=h;refine tT.bind hH hS h fun x ph1 av H1 aE s1 h=>?_
 cases x with
 | true=>exact lN ⟨av,ph1,ws,aE,hS.mono s1,h.mono (fun _ _ k aV H2 aX s2=>k aV H2 aX (s1.trans s2)) fun _ _ z=>z⟩
 | false=>exact lM ⟨av,ph1,ws,aE,hS.mono s1,h.mono (fun _ _ k aV H2 aX s2=>k aV H2 aX (s1.trans s2)) fun _ _ z=>z⟩
theorem Qt{i:Nat}{x:Str}(hN:X.N.Nodup)(hi:X.N[i]? =some x)(hx:Loc X.env.scope x)(hf:X.fn x=true\/X.env.scope.names.lookup x=some .local:=by first | exact .inl rfl | exact .inr rfl | assumption):IG X (.Name x pos) (gN i):=
 PG.imp (Qh hN hi hx hf) fun v σ H Q h=>by
  obtain⟨φ,ph,ws,w,hH,hS,fc,h⟩:=h;exact h φ H _ hH Step.refl (hS.set fc i)
theorem tG.bind{β:Type}{g:GM}{Q:L2.St->Hp->Prop}{φ:Nat->Addr}{ph:PH}{ws:aK}{w:W}{v:V}{f:aK->Mo β}{N:β->PH->Prop}(hH:aD X.K φ ph H)(hS:aY X.K φ ph.length H ws σ)(fc:aJ X.K φ ph.length H w v)(h:(aq (g w ws) f ph).Run N (XE X φ ph.length H))
  (k:∀iM ph1 av H1 σ1,aD X.K av ph1 H1->Step X.K φ ph.length H av ph1.length H1->aY X.K av ph1.length H1 iM σ1->(f iM ph1).Run N (XE X av ph1.length H1)->Q σ1 H1):tG X g v σ H Q:=by
 rw[cG] at h;exact⟨φ,ph,ws,w,hH,hS,fc,h.mono (fun iM ph1 h1 av H1 σ1 aE s1 r1=>k iM ph1 av H1 σ1 aE s1 r1 (h1.mono (fun _ _ z=>z) fun _ _ z=>z.step s1)) fun _ _ z=>z⟩
theorem Qu{D:Ends}(h:tS X (aI m g) D σ H):tJ (tM X m) (tG X g) D σ H:=by
 obtain⟨φ,ph,ws,hH,hS,h⟩:=h;refine tM.bind hH hS h fun w ph1 av H1 v aE s1 r1 h=>?_
 exact tG.bind aE (hS.mono s1) r1 h fun eM ph2 aV H2 bE aX s2 iN h=>h aV H2 aX (s1.trans s2) bE iN
theorem Sz{i:Nat}{x:Str}{pos':Pos}(hN:X.N.Nodup)(hi:X.N[i]? =some x)(hx:Loc X.env.scope x)(he:IE X e m)(hs:abw e (some (.Name x pos')) pos.line X.env=pure false:=by rfl)
  (hf:X.fn x=true\/X.env.scope.names.lookup x=some .local:=by first | exact .inl rfl | exact .inr rfl | assumption):IS X (.Assign [.Name x pos'] e pos) (aI m (gN i)):=
 PS.imp (RV hN hi hx he hs hf) fun D σ H h=>by
  obtain⟨φ,ph,ws,hH,hS,h⟩:=h;exact tM.bind hH hS h fun w ph1 av H1 v aE s1 r1 h=>h av H1 aE s1 _ ((hS.mono s1).set r1 i)
theorem SA(he:IE X e m)(hg:IG X tg g)(hs:swapsWithSole [tg] e pos.line X.env=pure false:=by rfl)(hw:swappedStores [tg] e X.env=pure none:=by rfl)
  (h1:(aaw [tg] X.env).map (·.2)=[adB tg X.env]:=by rfl):IS X (.Assign [tg] e pos) (aI m g):=PS.imp (RU he hg hs hw h1) fun _ _ _ h=>Qu h
end
abbrev IM:=aK->Mo (List W×(PH->Bool))
noncomputable def cS(chk:PH->Bool)(g:GM)(b:SM):List W->SM
 | [],σ=>fun ph=>if chk ph=true then .ok (.nx σ) ph else .no
 | x::xs,σ=>fun ph=>if chk ph=true then aq (g x σ) (fun σ1=>aq (b σ1) fun f=>match f with
   | .nx aj=>cS chk g b xs aj
   | .ct aj=>cS chk g b xs aj
   | .bk aj=>au (.nx aj)
   | .rt w=>au (.rt w)) ph else .no
noncomputable def d3(im:IM)(g:GM)(b:SM):SM:=fun σ=>aq (im σ) fun r=>cS r.2 g b r.1 σ
noncomputable def yp(K:Zc)(J:It)(items:List W)(chk:PH->Bool)(φ:Nat->Addr)(n:Nat)(H:Hp):Prop:=
 ∀ao ph' H',aD K ao ph' H'->Step K φ n H ao ph'.length H'->chk ph'=true->∀i:Nat,
  (∀w,items[i]? =some w->J.go i H'/\∀x fG,J.qf i H' x fG->aD K ao ph' fG/\Step K ao ph'.length H' ao ph'.length fG/\aJ K ao ph'.length fG w x)/\(items[i]? =none->J.stop i H')
noncomputable def tI(X:Cx)(im:IM):TI:=fun σ H R=>∃φ ph ws,aD X.K φ ph H/\aY X.K φ ph.length H ws σ/\(im ws ph).Run (fun r ph'=>
 ∀ao H' J,aD X.K ao ph' H'->Step X.K φ ph.length H ao ph'.length H'->yp X.K J r.1 r.2 ao ph'.length H'->R J H') (XE X φ ph.length H)
abbrev II(X:Cx)(tg iter:Expr)(im:IM):Prop:=PI X tg iter (tI X im)
section
variable{X:Cx}{iter tg c:Expr}{im:IM}{g:GM}{b:SM}{t:TM}{body:List Stmt}{pos:Pos}
variable{H:Hp}
theorem Qv{D:Ends}{σ:L2.St}(h:tS X (d3 im g b) D σ H):EO (tI X im) (tG X g) (tS X b) D σ H:=by
 obtain⟨φ,ph,ws,hH,hS,h⟩:=h;unfold d3 at h;rw[cG] at h;refine⟨φ,ph,ws,hH,hS,h.mono (fun r ph1 h av H1 J aE s1 hJ=>?_) fun _ _ z=>z⟩;obtain⟨items,chk⟩:=r;refine⟨fun i m bE H2=>∃aV ph2 eM,m=(items.drop i).length/\aD X.K aV ph2 H2/\aY X.K aV ph2.length H2 eM bE/\Step X.K av ph1.length H1 aV ph2.length H2 /\
   (cS chk g b (items.drop i) eM ph2).Run (fun f ph'=>∀ao H',aD X.K ao ph' H'->Step X.K aV ph2.length H2 ao ph'.length H'->lQ X D ao ph' H' f) (XE X aV ph2.length H2),
  ⟨_,av,ph1,ws,rfl,aE,hS.mono s1,Step.refl,h.mono (fun f ph' k ao H' r' s'=>k ao H' r' (s1.trans s')) fun _ _ z=>z.step s1⟩,?_⟩
 rintro i m bE H2 ⟨aV,ph2,eM,rfl,aX,iN,s2,h2⟩;cases hd:items.drop i with
 | nil=>
  rw[hd] at h2;unfold cS at h2;split at h2
  ·rename_i hc;have hn:items[i]? =none:=by
    have:items.length<=i:=by simpa using hd
    simpa using this
   exact .inl ⟨(hJ aV _ H2 aX s2 hc i).2 hn,h2 aV H2 aX Step.refl bE iN⟩
  ·exact h2.elim
 | cons x xs=>
  rw[hd] at h2;unfold cS at h2;split at h2
  ·rename_i hc;have hx:items[i]? =some x:=by
    have:=congrArg (fun l=>l[0]?) hd
    simpa using this
   have l8:items.drop (i+1)=xs:=by
    have:=congrArg (fun l=>l.drop 1) hd
    simpa[adC,adh] using this
   obtain⟨ky,hy⟩:=(hJ aV _ H2 aX s2 hc i).1 x hx;refine .inr ⟨ky,fun aj H'=>∃ao fy cU,aD X.K ao fy H'/\aY X.K ao fy.length H' cU aj/\Step X.K av ph1.length H1 ao fy.length H' /\
     (cS chk g b xs cU fy).Run (fun f p'=>∀gI H3,aD X.K gI p' H3->Step X.K ao fy.length H' gI p'.length H3->lQ X D gI p' H3 f) (XE X ao fy.length H'),
    fun aj H' ⟨ao,fy,cU,q1,q2,q3,q4⟩=>⟨xs.length,by simp,ao,fy,cU,by rw[l8],q1,q2,q3,by rw[l8];exact q4⟩,fun v H3 y=>?_⟩
   obtain⟨gC,s3,rv⟩:=hy v H3 y;have Wn:(aq (g x eM) (fun σ1=>aq (b σ1) fun f=>match f with
    | .nx aj=>cS chk g b xs aj
    | .ct aj=>cS chk g b xs aj
    | .bk aj=>au (.nx aj)
    | .rt w=>au (.rt w)) ph2).Run (fun f ph'=>∀ao H',aD X.K ao ph' H'->Step X.K aV ph2.length H2 ao ph'.length H'->lQ X D ao ph' H' f) (XE X aV ph2.length H3):=Out.Run.mono h2 (fun _ _ z=>z) fun _ _ z=>z.step s3
   refine tG.bind gC (iN.mono s3) rv Wn fun Wo ou qL H4 iT Wq s4 Wr h4=>?_
   rw[cG] at h4;refine⟨qL,ou,Wo,Wq,Wr,h4.mono (fun f l9 h5 ib H5 gY s5=>?_) fun _ _ z=>z⟩;have pX:=((s2.trans s3).trans s4).trans s5;have ju:=(s3.trans s4).trans s5;cases f with
   | nx eN=>exact fun dP eO=>⟨ib,l9,eN,gY,eO,pX,h5.mono (fun f p' k ao H' r' s'=>k ao H' r' (ju.trans s')) fun _ _ z=>z.step s5⟩
   | ct eN=>exact fun dP eO=>⟨ib,l9,eN,gY,eO,pX,h5.mono (fun f p' k ao H' r' s'=>k ao H' r' (ju.trans s')) fun _ _ z=>z.step s5⟩
   | bk eN=>exact fun dP eO=>h5 ib H5 gY ju dP eO
   | rt w=>exact fun v hv=>h5 ib H5 gY ju v hv
  ·exact h2.elim
theorem PI.imp{t t':TI}(h:PI X tg iter t)(k:∀σ H R,t' σ H R->t σ H R):PI X tg iter t':=fun pins s σ H R I q=>h pins s σ H R I (k σ H R q)
theorem SD(hp:adI (model X.prog X.w) X.A X.env X.xe)(hc:X.calm=true)(hi:II X tg iter im)(hg:IG X tg g)(hb:gB X body b)(hs:∀x,aac iter X.env x=pure x:=by intro _;rfl) :
  IS X (.For tg iter body [] pos) (d3 im g b):=PS.imp (RZ hp hc hi hg hb hs) fun _ _ _ h=>Qv h
noncomputable def ke(w:W):Po (List W×(PH->Bool)):=fun ph=>match w with
 | .ref i=>match ph[i]? with
  | some (.lst ws)=>some ((ws,fun ph'=>decide (ph'[i]? =some (.lst ws))),ph)
  | _=>none
 | .fl ws=>some ((ws,fun _=>true),ph)
 | _=>none
noncomputable def tupI(w:W):Po (List W×(PH->Bool)):=fun ph=>match w with
 | .tup ws=>some ((ws,fun _=>true),ph)
 | _=>none
noncomputable def tQ(m:EM):IM:=fun σ=>aq (m σ) fun w=>lift (ke w)
noncomputable def xg(m:EM):IM:=fun σ=>aq (m σ) fun w=>lift (tupI w)
theorem Qw{l:Expr}{m:EM}(hl:IE X l m):II X tg l (tQ m):=by
 refine PI.imp (Qj hl) fun σ H R h=>?_
 obtain⟨φ,ph,ws,hH,hS,h⟩:=h;refine tM.bind hH hS h fun w ph1 av H1 v aE s1 r1 h=>?_
 obtain⟨r,ph',e,k⟩:=run_lift h;unfold ke at e;cases r1 with
 | ref hi=>
  rename_i i;simp only at e;split at e
  ·rename_i items hw;cases e;obtain⟨vs,hv,r⟩:=aE.hp _ _ hw;refine⟨_,rfl,⟨vs,bo.of hv⟩,k av H1 _ aE s1 ?_⟩;intro aV ph2 H2 aX s2 hc j;have eL:ph2[i]? =some (.lst items):=of_decide_eq_true hc;obtain⟨us,hu,ru⟩:=aX.hp _ _ eL;rw[s2.eq i hi] at hu;refine⟨fun w eA=>?_,fun hn=>?_⟩
   ·obtain⟨u,eu,jw⟩:=ru.get eA;refine⟨⟨us,u,bo.of hu,eu⟩,fun x fG hy=>?_⟩;obtain⟨rfl,hy⟩:=hy;have:=hy us (bo.of hu);rw[eu] at this;cases this;exact⟨aX,Step.refl,jw⟩
   ·refine⟨us,bo.of hu,?_⟩;rw[<- ru.length]
    simpa using hn
  ·cases e
 | fl hq r=>
  cases e;refine⟨_,rfl,⟨_,hq.sq⟩,k av H1 _ aE s1 ?_⟩;intro aV ph2 H2 aX s2 hc j;have h2:=aJ.mono s2 (.fl hq r);cases h2 with
  | fl h2 r2=>
   refine⟨fun w eA=>?_,fun hn=>?_⟩
   ·obtain⟨u,eu,jw⟩:=r2.get eA;refine⟨⟨_,u,h2.sq,eu⟩,fun x fG hy=>?_⟩;obtain⟨rfl,hy⟩:=hy;have:=hy _ h2.sq;rw[eu] at this;cases this;exact⟨aX,Step.refl,jw⟩
   ·refine⟨_,h2.sq,?_⟩;rw[<- r2.length]
    simpa using hn
 | _=>cases e
theorem SE{l:Expr}{m:EM}(hl:IE X l m):II X tg l (xg m):=by
 refine PI.imp (RY hl) fun σ H R h=>?_
 obtain⟨φ,ph,ws,hH,hS,h⟩:=h;refine tM.bind hH hS h fun w ph1 av H1 v aE s1 r1 h=>?_
 obtain⟨r,ph',e,k⟩:=run_lift h;unfold tupI at e;cases r1 with
 | tup hq r=>
  cases e;refine⟨_,rfl,⟨_,b8.of hq⟩,k av H1 _ aE s1 ?_⟩;intro aV ph2 H2 aX s2 hc j;have h2:=b8.of (K:=X.K) (s2.tup _ _ hq);have r2:=r.mono s2;refine⟨fun w eA=>?_,fun hn=>?_⟩
  ·obtain⟨u,eu,jw⟩:=r2.get eA;refine⟨⟨_,u,h2,eu⟩,fun x fG hy=>?_⟩;obtain⟨rfl,hy⟩:=hy;have:=hy _ h2;rw[eu] at this;cases this;exact⟨aX,Step.refl,jw⟩
  ·refine⟨_,h2,?_⟩;rw[<- r2.length]
   simpa using hn
 | _=>cases e
noncomputable def d5(lo:Int)(n:Nat):List W:=(ZS n).map fun i:Nat=>.int (lo+((i:Nat):Int))
noncomputable def xM(xs:List W):Po (List W×(PH->Bool)):=fun ph=>match xs with
 | [.int j]=>if -(2 ^ 62)<=j/\j<2 ^ 62 then some ((d5 0 j.toNat,fun _=>true),ph) else none
 | _=>none
noncomputable def cV(m:AM):IM:=fun σ=>aq (m σ) fun xs=>lift (xM xs)
theorem SF{K:Zc}{lo:Int}{n:Nat}{chk:PH->Bool}{φ:Nat->Addr}{k:Nat}:yp K (t8 lo n) (d5 lo n) chk φ k H:=by
 intro aV ph2 H2 aX s2 hc j;unfold d5;refine⟨fun w eA=>?_,fun hn=>?_⟩
 ·rw[Ze] at eA;have hj:j<n:=by
   by_cases hj:j<n
   ·exact hj
   ·rw[ZY (by simpa using hj)] at eA;cases eA
  rw[ack hj] at eA;cases eA;refine⟨hj,fun x fG hy=>?_⟩;obtain⟨rfl,rfl⟩:=hy;exact⟨aX,Step.refl,.int _⟩
 ·have:n<=j:=by simpa using hn
  exact this
theorem N2{a:Expr}{m:AM}{p:Pos}(hg:Gl X "range")(hm:X.mg "range"=none)(ha:IA X [a] m)(hs:ZF [a] X.env=[(false,eval a X.env)]:=by rfl):II X tg (.Call (.Name "range" p) [a] [] pos) (cV m):=by
 refine PI.imp (NV hg hm ha hs) fun σ H R h=>?_
 obtain⟨φ,ph,ws,hH,hS,h⟩:=h;refine tA.bind hH hS h fun xs ph1 av H1 vs aE s1 r1 h=>?_
 obtain⟨r,ph',e,k⟩:=run_lift h;unfold xM at e;split at e
 ·split at e
  ·rename_i hc;cases e;cases r1 with
   | cons r r'=>cases r;cases r';exact⟨_,rfl,hc.1,hc.2,k av H1 _ aE s1 SF⟩
  ·cases e
 ·cases e
noncomputable def cZ(t:TM)(b:SM):Nat->SM
 | 0=>fun _=>c5
 | n+1=>fun σ=>aq (t σ) fun c=>if c=true then aq (b σ) fun f=>match f with
   | .nx aj=>cZ t b n aj
   | .ct aj=>cZ t b n aj
   | .bk aj=>au (.nx aj)
   | .rt w=>au (.rt w)
  else au (.nx σ)
noncomputable def Out.kf{α:Type}:Out α->Bool
 | .no=>true
 | _=>false
open Classical in
noncomputable def iq(t:TM)(b:SM):SM:=fun σ ph=>if h:∃n,(cZ t b n σ ph).kf=false then cZ t b h.choose σ ph else .no
theorem N3{D:Ends}{σ:L2.St}(h:tS X (iq t b) D σ H):CS (tT X t) (tS X b) D σ H:=by
 obtain⟨φ,ph,ws,hH,hS,h⟩:=h;have⟨n,h⟩:∃n,(cZ t b n ws ph).Run (fun f ph'=>∀ao H',aD X.K ao ph' H'->Step X.K φ ph.length H ao ph'.length H'->lQ X D ao ph' H' f) (XE X φ ph.length H):=by
  unfold iq at h;split at h
  ·exact⟨_,h⟩
  ·exact h.elim
 refine⟨fun m bE H2=>∃aV ph2 eM,aD X.K aV ph2 H2/\aY X.K aV ph2.length H2 eM bE /\
  (cZ t b m eM ph2).Run (fun f ph'=>∀ao H',aD X.K ao ph' H'->Step X.K aV ph2.length H2 ao ph'.length H'->lQ X D ao ph' H' f) (XE X aV ph2.length H2),⟨n,φ,ph,ws,hH,hS,h⟩,?_⟩
 rintro m bE H2 ⟨aV,ph2,eM,aX,iN,h2⟩;cases m with
 | zero=>exact h2.elim
 | succ m=>
  refine tT.bind aX iN h2 fun c iP gI H3 gC s3 h3=>?_
  cases c with
  | false=>exact lM (h3 gI H3 gC s3 bE (iN.mono s3))
  | true=>
   have FR:(aq (b eM) (fun f=>match f with
    | .nx aj=>cZ t b m aj
    | .ct aj=>cZ t b m aj
    | .bk aj=>au (.nx aj)
    | .rt w=>au (.rt w)) iP).Run _ _:=h3
   rw[cG] at FR;refine lN ⟨fun aj H'=>∃ao fy cU,aD X.K ao fy H'/\aY X.K ao fy.length H' cU aj /\
    (cZ t b m cU fy).Run (fun f p'=>∀qL H4,aD X.K qL p' H4->Step X.K ao fy.length H' qL p'.length H4->lQ X D qL p' H4 f) (XE X ao fy.length H'),fun aj H' q=>⟨m,aaP _,q⟩,?_⟩
   refine⟨gI,iP,eM,gC,iN.mono s3,FR.mono (fun f l9 h5 ib H5 gY s5=>?_) fun _ _ z=>z⟩;have ju:=s3.trans s5;cases f with
   | nx eN=>exact fun dP eO=>⟨ib,l9,eN,gY,eO,h5.mono (fun f p' k ao H' r' s'=>k ao H' r' (ju.trans s')) fun _ _ z=>z.step s5⟩
   | ct eN=>exact fun dP eO=>⟨ib,l9,eN,gY,eO,h5.mono (fun f p' k ao H' r' s'=>k ao H' r' (ju.trans s')) fun _ _ z=>z.step s5⟩
   | bk eN=>exact fun dP eO=>h5 ib H5 gY ju dP eO
   | rt w=>exact fun v hv=>h5 ib H5 gY ju v hv
theorem Pa(hp:adI (model X.prog X.w) X.A X.env X.xe)(hc:IT X c t)(hb:gB X body b):IS X (.While c body [] pos) (iq t b):=
 PS.imp (O4 hp hc hb) fun _ _ _ h=>N3 h
end
noncomputable def ak:AM:=fun _=>au []
noncomputable def ae(e:EM)(r:AM):AM:=fun σ=>aq (e σ) fun w=>aq (r σ) fun ws=>au (w::ws)
noncomputable def je(ws:List W):Po W:=fun ph=>if ws.length<=Zt then some (.tup ws,ph) else none
noncomputable def pY(ws:List W):Po W:=fun ph=>if ws.length<=Zt then some (.ref ph.length,ph++[.lst ws]) else none
noncomputable def bT(a:AM):EM:=fun σ=>aq (a σ) fun ws=>lift (je ws)
noncomputable def bJ(a:AM):EM:=fun σ=>aq (a σ) fun ws=>lift (pY ws)
section
variable{X:Cx}{e:Expr}{es:List Expr}{m:EM}{a:AM}{pos:Pos}
theorem SG:IA X [] ak:=PA.imp CT fun σ H Q h=>by
 obtain⟨φ,ph,ws,hH,hS,h⟩:=h;exact h φ H [] hH Step.refl .nil
theorem Qx(he:IE X e m)(hr:IA X es a)(hs:ZF (e::es) X.env=(false,eval e X.env)::ZF es X.env:=by rfl):IA X (e::es) (ae m a):=PA.imp (vS he hr hs) fun σ H Q h=>by
 obtain⟨φ,ph,ws,hH,hS,h⟩:=h;refine tM.bind hH hS h fun w ph1 av H1 v aE s1 r1 h=>tA.bind aE (hS.mono s1) h fun ys ph2 aV H2 vs aX s2 r2 h=>?_
 exact h aV H2 _ aX (s1.trans s2) (.cons (r1.mono s2) r2)
theorem SH{x1:Nat}(h:IA X es a):IE X (.Tuple es x1 pos) (bT a):=PE.imp (R9 h) fun σ H Q h=>by
 obtain⟨φ,ph,ws,hH,hS,h⟩:=h;refine tA.bind hH hS h fun xs ph1 av H1 vs aE s1 r1 h=>?_
 obtain⟨w,ph',e,k⟩:=run_lift h;unfold je at e;split at e
 ·rename_i hz;cases e;refine⟨by rw[<- r1.length];exact hz,fun p hp=>?_⟩;exact k av _ _ (aE.tup hp) (s1.trans (iW hp)) (.tup bp (r1.mono (iW hp)))
 ·cases e
theorem jM{K:Zc}{φ:Nat->Addr}{ph:PH}{H:Hp}{p:Addr}{ws:List W}{vs:List V}(hH:aD K φ ph H)(r:aT K φ ph.length H ws vs)(hp:H p=none) :
  aD K (ext φ ph.length p) (ph++[.lst ws]) (upd H p (.lst vs))/\Step K φ ph.length H (ext φ ph.length p) (ph++[PO.lst ws]).length (upd H p (.lst vs))/\aJ K (ext φ ph.length p) (ph++[PO.lst ws]).length (upd H p (.lst vs)) (.ref ph.length) (.ref p):=by
 have hl:(ph++[PO.lst ws]).length=ph.length+1:=by simp
 rw[hl];have s:=vB (K:=K) (φ:=φ) (n:=ph.length) (o:=HO.lst vs) hp;refine⟨hH.new hp ⟨vs,bp,r.mono s⟩,s,?_⟩;have q:aJ K (ext φ ph.length p) (ph.length+1) (upd H p (.lst vs)) (.ref ph.length) (.ref (ext φ ph.length p ph.length)):=.ref (aaP _);rw[jT] at q;exact q
theorem SI(h:IA X es a):IE X (.List es pos) (bJ a):=PE.imp (Sa h) fun σ H Q h=>by
 obtain⟨φ,ph,ws,hH,hS,h⟩:=h;refine tA.bind hH hS h fun xs ph1 av H1 vs aE s1 r1 h=>?_
 obtain⟨w,ph',e,k⟩:=run_lift h;unfold pY at e;split at e
 ·rename_i hz;cases e;refine⟨by rw[<- r1.length];exact hz,fun p hp=>?_⟩;obtain⟨q1,q2,q3⟩:=jM aE r1 hp;exact k _ _ _ q1 (s1.trans q2) q3
 ·cases e
end
noncomputable def a7(f:List W->Mo W)(a:AM):EM:=fun σ=>aq (a σ) f
noncomputable def dA:Fl->Mo W
 | .rt w=>au w
 | .nx _=>au .aG
 | _=>c5
noncomputable def fM(body:SM)(n np:Nat)(args:List W):Mo W:=if args.length=np then aq (body (args.map some++Zi (n-args.length) none)) dA else c5
theorem cb{body:SM}{np:Nat}{xs:List W}(h:xs.length≠np):fM body n np xs ph=.no:=by
 unfold fM;rw[if_neg h];rfl
noncomputable def bf(P:aah)(w:World):kx:=fun l H s E e s'=>∃C H',Flew P w l H s C H' e s'/\E (.ref C) none H'
noncomputable def bY(K:Zc)(mg:Str->Option Value)(np:Nat)(f:List W->Mo W):Sp:=fun vs H Q E=>vs.length=np/\∃φ ph args,aD K φ ph H/\aT K φ ph.length H args vs/\(f args ph).Run (fun w ph'=>
 ∀ao H' v,aD K ao ph' H'->Step K φ ph.length H ao ph'.length H'->aJ K ao ph'.length H' w v->Q v H') (fun x ph'=>
 ∀ao H' C,aD K ao ph' H'->Step K φ ph.length H ao ph'.length H'->mg x.cls=some (.ref C)->x.fs=[]->E (.ref C) none H')
section
variable{X:Cx}{k:Nat}{f:Addr}{fd:ZW}{ps:List Str}{fm:List W->Mo W}{x:Str}{p pos:Pos}{e:Expr}{es:List Expr}{a:AM}
theorem Qy{CX:kx}{sp:Sp}{E:XK}{pins:List (Addr×Obj)}{σ:L2.St}{H:Hp}{s:Zh}{Q:VK}{us:List Value}{vs:List V}(F:bP X.prog X.w X.K X.mg X.base CX k f fd ps sp)(hr:cf k X.A)(hb:Binds X.K fd ps [])
  (I:Inv X pins σ H s) (r:Vals vs us) (h:sp vs H Q E) (hx:∀e s',CX X.stack H s E e s'->X.xe e s'):wpAny (model X.prog X.w) X.A (call (.ref f) us) (EP X pins σ Q) X.xe s:=by
 have hl:(us++[]).length=ps.length:=by rw[aak,<- r.length];exact F.len _ _ _ _ h
 have me:=hb s us I.jn hl;rw[aak] at me;refine wpAny_call (abW (F.run X.A X.stack s H ⟨us,[]⟩ us vs Q E hr I.ES me r h) fun r s' hq=>?_);cases r with
 | error e=>exact hx e s' hq
 | ok fl=>
  cases fl with
  | ret u=>exact I.after hq
  | _=>exact abo hq
theorem Qz(F:bP X.prog X.w X.K X.mg X.base (bf X.prog X.w) k f fd ps (bY X.K X.mg ps.length fm))(hl:∀{xs:List W} {ph:PH},xs.length≠ps.length->fm xs ph=.no)(hr:cf k X.A)(hg:Gl X x)(hm:X.mg x=some (.ref f))
  (hk:Zx X.K (.ref f)=true) (hb:Binds X.K fd ps []) (ha:IA X (e::es) a) (c9:(x==("__debug__":Str))=false:=by decide) (he:ZF (e::es) X.env=(false,eval e X.env)::ZF es X.env:=by rfl) (fE:(acb pos (ZF es X.env)).any (·.1)=false:=by rfl) :
  IE X (.Call (.Name x p) (e::es) [] pos) (a7 fm a):=by
 intro pins s σ H Q I h;obtain⟨φ,ph,ws,hH,hS,h⟩:=h;have hA:tA X a σ H (fun vs H1=>∃av ph1 xs,aD X.K av ph1 H1/\aT X.K av ph1.length H1 xs vs/\(fm xs ph1).Run (fun w ph'=>∀ao H' v,aD X.K ao ph' H'->Step X.K av ph1.length H1 ao ph'.length H'->aJ X.K ao ph'.length H' w v->Q v H') (XE X av ph1.length H1)):=
  tA.bind hH hS h fun xs ph1 av H1 vs aE s1 r1 h=>⟨av,ph1,xs,aE,r1,h.mono (fun w ph' k ao H' v r' s' q=>k ao H' v r' (s1.trans s') q) fun _ _ z=>z⟩
 refine abe (B0 I hg hm (adL (h₀:=X.base) I.ok.mod.n9 hk (aU (ha pos pins s σ H _ I hA) fun us s1 ⟨vs,H1,I1,r,q⟩=>⟨I1.jn,?_⟩) he fE) c9);obtain⟨av,ph1,xs,aE,r1,h1⟩:=q;have cu:vs.length=ps.length:=by
  rw[<- r1.length];by_cases z:xs.length=ps.length
  ·exact z
  ·rw[hl z] at h1;exact h1.elim
 refine Qy (E:=fun c _ H'=>∃x ph' ao,fm xs ph1=.ex x ph'/\aD X.K ao ph' H'/\Step X.K av ph1.length H1 ao ph'.length H'/\∃C,c=.ref C/\X.mg x.cls=some (.ref C)/\x.fs=[]) F hr hb I1 r ⟨cu,av,ph1,xs,aE,r1,?_⟩ fun e s' hx=>?_
 ·cases q:fm xs ph1 with
  | ok w ph'=>rw[q] at h1;exact h1
  | ex x ph'=>exact fun ao H' C hr hs hm hf=>⟨x,ph',ao,rfl,hr,hs,C,rfl,hm,hf⟩
  | no=>rw[q] at h1;exact h1
 ·obtain⟨C,H',ug,x,ph',ao,ef,kA,Ws,C',ec,Wt,Wu⟩:=hx;cases ec;rw[ef] at h1;exact h1 ao H' e s' kA Ws ⟨C,Wt,Wu,.inr ⟨pins,σ,H1,s1,I1,ug⟩⟩
end
section
variable{P:aah}{w:World}{K:Zc}{mg:Str->Option Value}{base:Heap}
variable{H':Hp}
theorem QA{h:Heap}{fr:List Addr}(ay:bQ P w H' h)(hf:∀b∈fr,H' b=none):bQ P w H' (adb h fr):=fun a o e=>by
 refine(ay a o e).gu (fun b u hb q=>abC _ q fun hm=>?_) (fun _ q=>q) fun _ _ q=>q
 have:=hf b hm
 rcases hb with z | z
 ·rw[z,e] at this;cases this
 ·rw[z] at this;cases this
theorem sx{env:Env}{l:List Env}(hf:env.frame=some env.locals):dk (env::l)=env.locals::dk l:=by
 unfold dk;rw[abD,hf]
theorem Az{X:Cx}{C:Addr}{e:Value}{s':Zh}{E:Value->Zh->Prop}(dM:X.stack=X.env::X.outer)(hf:X.env.frame=some X.env.locals)(hex:X.ex=[])(hm:Made X C H' e s') :
  wpAny (model X.prog X.w) X.A (leaving X.env e) (fun _ ez=>Flew X.prog X.w X.outer X.aL X.aA C H' e ez) E s':=by
 obtain⟨pins,σ,s,vs,h',a,rfl,rfl,I,hx⟩:=hm;have sf:=I.sM;have hl:=I.stack;rw[dM] at sf hl;have Wv:∀env∈X.env::X.outer,∀b,env.frame=some b->b∈dk (X.env::X.outer):=fun env he b hb=>acr.mpr ⟨env,he,hb⟩
 have gE:∀b:Addr,b∉X.ex:=fun b z=>by rw[hex] at z;exact nomatch z
 have out:∀b o,X.aA.heap.get? b=some o->b∉X.fs->b∉dk (X.env::X.outer):=fun b o e hb hm=>by
  rw[sx hf] at hm
  rcases ZK.mp hm with z | z
  ·exact absurd (Zg (Zl e) I.ok.above) (by rw[z];exact aaG _)
  ·exact hb z
 refine wpAny_leaves_madeW (base:=adb s.heap (dk (X.env::X.outer))) (h:=s.heap) (by rw[I.ok.frames,dM]) hf (fun b o q=>adH _ q) (PySem.W.funFrames_hide hl Wv) hx fun Ww t f1 f2 f3 f4=>?_
 refine⟨a,.ref t,_,rfl,I.os,I.bare,f1,QA I.ay sf,⟨fun b o e n hb=>abC _ (I.base.keep b o e n hb (gE b)) (out b o e hb),fun b o e n hb=>?_,fun b o e n=>I.base.free b o e n (gE b),fun b o e hb=>?_,I.base.ed,I.base.dz,I.base.ee⟩⟩
 ·obtain⟨sl,e1⟩:=I.base.slot b o e n hb (gE b);obtain⟨_,o',ho,hd⟩:=I.ok.eF.mem hb;rw[e] at ho;cases ho;obtain⟨l5,e2⟩:=f4 b _ (hx.keeps b _ e1) hd;exact⟨l5,e2⟩
 ·obtain⟨o',e1⟩:=I.base.there b o e (gE b);exact⟨o',abC _ e1 (out b o e hb)⟩
theorem AA{X:Cx}{C:Addr}{H0:Hp}{e:Value}{s s':Zh}{pins:List (Addr×Obj)}{σ:L2.St}{E:Value->Zh->Prop}(dM:X.stack=X.env::X.outer)(hf:X.env.frame=some X.env.locals)(hex:X.ex=[])(I:Inv X pins σ H0 s)
  (hm:Flew X.prog X.w X.stack H0 s C H' e s'):wpAny (model X.prog X.w) X.A (leaving X.env e) (fun _ ez=>Flew X.prog X.w X.outer X.aL X.aA C H' e ez) E s':=by
 obtain⟨a,a0,B,rfl,ho,UH,ug,ay,u⟩:=hm;rw[dM] at ug u;have gE:∀b:Addr,b∉X.ex:=fun b z=>by rw[hex] at z;exact nomatch z
 have out:∀b o,X.aA.heap.get? b=some o->b∉X.fs->b∉dk (X.env::X.outer):=fun b o e hb hm=>by
  rw[sx hf] at hm
  rcases ZK.mp hm with z | z
  ·exact absurd (Zg (Zl e) I.ok.above) (by rw[z];exact aaG _)
  ·exact hb z
 refine wpAny_leaves_onW (by rw[I.ok.frames,dM]) hf ug fun Ww f1 f4=>?_
 refine⟨a,a0,B,rfl,ho.trans I.os,UH,f1,ay,⟨fun b o e n hb=>u.keep b o (I.base.keep b o e n hb (gE b)) (I.base.free b o e n (gE b)) (out b o e hb),fun b o e n hb=>?_,fun b o e n=>?_,fun b o e hb=>?_,
  fun b xs e=>u.ed b xs (I.base.ed b xs e),fun b ob xs e=>u.dz b ob xs (I.base.dz b ob xs e),fun b ps e=>?_⟩⟩
 ·obtain⟨sl,e1⟩:=I.base.slot b o e n hb (gE b);obtain⟨_,o',eK,hd⟩:=I.ok.eF.mem hb;rw[e] at eK;cases eK;obtain⟨l5,e2⟩:=u.slot b _ e1 (I.base.free b o e n (gE b)) (by rw[sx hf];exact ZD _ hb);obtain⟨Wx,e3⟩:=f4 b _ e2 hd;exact⟨Wx,e3⟩
 ·obtain⟨o',e1⟩:=I.base.there b o e (gE b);exact u.free b o' e1 (I.base.free b o e n (gE b))
 ·obtain⟨o',e1⟩:=I.base.there b o e (gE b);exact u.there b o' e1 (out b o e hb)
 ·obtain⟨m1,e1⟩:=I.base.ee b ps e;obtain⟨m2,e2⟩:=u.ee b _ e1;exact⟨m1++m2,by rw[e2,acq]⟩
theorem SJ{x qual:Str}{st:Stmt}{f:Addr}{fd:ZW}{N ps:List Str}{k:Nat}{body:SM}(F:cy K x qual st f fd)(S:cF N ps (af st))
  (i8:∀(ba:Value) (A:abd) (outer:List Env) (s:Zh) (H:Hp) (E:XK),cf k (A.deeper (abx qual (af st) s.heap.objs.size f ba)) →
   gB (df (bf P w) P w K mg base N qual (af st) f ba A outer s H E) (a6 st) body):bP P w K mg base (bf P w) (k+1) f fd ps (bY K mg ps.length (fM body N.length ps.length)):=by
 obtain⟨oc,od,kV,doc,pm,an,ba,ct,eZ,rfl,lk,hcd⟩:=F.ex;refine Uv lk hcd S (fun vs H Q E h=>h.1) fun A outer s H vs Q E hr h=>?_
 obtain⟨hl,φ,ph,args,hH,ra,h⟩:=h;refine⟨_,i8 ba A outer s H E hr,?_⟩;have qj:args.length=vs.length:=ra.length;unfold fM at h;rw[if_pos (qj.trans hl),cG,qj] at h;refine⟨φ,ph,_,hH,aY.start (N.length-vs.length) ra,h.mono (fun fl ph' h av H1 aE s1=>?_) fun x ph' h ao H' e s' r' dm th=>?_⟩
 ·cases fl with
  | rt w=>exact fun v rv=>h av H1 v aE s1 rv
  | nx aj=>exact fun σ1 gD=>h av H1 .aG aE s1 .aG
  | bk aj=>exact h.elim
  | ct aj=>exact h.elim
 ·obtain⟨C,hm,yq,th⟩:=th;have hE:=h ao H' C r' dm hm yq;have key:wpAny (model P w) (A.deeper (abx qual (af st) s.heap.objs.size f ba)) (leaving (abx qual (af st) s.heap.objs.size f ba) e) (fun _ ez=>Flew P w outer H s C H' e ez) (fun e' ez=>bf P w outer H s E e' ez) s':=by
   rcases th with th | ⟨pins,σ,H0,s0,I0,th⟩
   ·exact Az (X:=df (bf P w) P w K mg base N qual (af st) f ba A outer s H E) rfl rfl rfl th
   ·exact AA (X:=df (bf P w) P w K mg base N qual (af st) f ba A outer s H E) rfl rfl rfl I0 th
  exact aai key (fun _ ez q=>⟨C,H',q,hE⟩) fun _ _ q=>q
end
theorem B5{K:Zc}{φ:Nat->Addr}{n:Nat}{H:Hp}:∀(ns:List Int),aT K φ n H (ns.map W.int) (ns.map V.int)
 | []=>.nil
 | n::ns=>.cons (.int n) (B5 ns)
theorem bu.or{f:Value->Value->Sem Value}{r r':R2}(h:bu X f r)(h':bu X f r'):bu X f (fun x y H Q=>r x y H Q\/r' x y H Q):=by
 intro pins s σ H x y v u Q I rx ry q
 rcases q with q | q
 ·exact h pins s σ H x y v u Q I rx ry q
 ·exact h' pins s σ H x y v u Q I rx ry q
noncomputable def cj(w:W)(ph:PH):Option (List W):=match w with
 | .tup ws=>some ws
 | .fl ws=>some ws
 | .ref i=>match ph[i]? with
  | some (.lst ws)=>some ws
  | _=>none
 | _=>none
variable{v:V}{ws:List W}
theorem vC{w:W}(hH:aD K φ ph H)(r:aJ K φ ph.length H w v)(e:cj w ph=some ws) :
  ∃a vs,v=.ref a/\(bo K H a vs\/b8 K H a vs)/\aT K φ ph.length H ws vs:=by
 unfold cj at e;cases r with
 | tup h r=>cases e;exact⟨_,_,rfl,.inr (b8.of h),r⟩
 | fl h r=>cases e;exact⟨_,_,rfl,.inl h.sq,r⟩
 | ref hi=>
  simp only at e;split at e
  ·rename_i cU hw;cases e;obtain⟨vs,hv,r⟩:=hH.hp _ _ hw;exact⟨_,vs,rfl,.inl (bo.of hv),r⟩
  ·cases e
 | _=>cases e
theorem B6{vs:List V}{i:Int}{w:W}(r:aT K φ n H ws vs)(e:b9 ws i=some w):∃v,b9 vs i=some v/\aJ K φ n H w v:=by
 unfold b9 at e ⊢;rw[r.length] at e;cases q:fX vs.length i with
 | none=>rw[q] at e;cases e
 | some j=>
  rw[q] at e;exact r.get e
noncomputable def dC:W->W->Po W:=fun x y ph=>match y with
 | .int i=>match x with
  | .str z=>if z.length<=Zt then(b9 z.cps.toList i).map fun c=>(.str ⟨#[c]⟩,ph) else none
  | x=>(cj x ph).bind fun ws=>(b9 ws i).map fun w=>(w,ph)
 | _=>none
theorem UI : da K (yk K) dC := by
  intro φ ph H x y vx vy w ph' Q hH rx ry e k;unfold dC at e;cases ry with
  | int i =>
    cases rx with
    | str z =>
      simp only at e;split at e
      · rename_i hz
        cases q : b9 z.cps.toList i with
        | none => rw [q] at e; cases e
        | some c =>
          rw [q] at e;cases e;exact .inr (.inr ⟨z, i, c, rfl, rfl, hz, q, k φ H _ hH Step.refl (.str _)⟩)
      · cases e
    | _ =>
      all_goals
        first
          | (cases e; done)
          | (rename_i h r
             simp only [cj, Option.bind] at e;cases q : b9 _ i with
             | none => rw [q] at e; cases e
             | some c =>
               rw [q] at e;cases e;obtain ⟨v, ev, rv⟩ := B6 r q
               first
                 | exact .inr (.inl ⟨_, _, i, v, rfl, rfl, b8.of h, ev, k φ H _ hH Step.refl rv⟩)
                 | exact .inl ⟨_, _, i, v, rfl, rfl, h.sq, ev, k φ H _ hH Step.refl rv⟩)
          | (rename_i hi
             simp only [cj] at e;split at e
             · rename_i cU hw
               simp only [Option.bind] at e;cases q : b9 cU i with
               | none => rw [q] at e; cases e
               | some c =>
                 rw [q] at e;cases e;obtain ⟨vs, hv, r⟩ := hH.hp _ _ hw;obtain ⟨v, ev, rv⟩ := B6 r q;exact .inl ⟨_, _, i, v, rfl, rfl, bo.of hv, ev, k φ H _ hH Step.refl rv⟩
             · cases e)
  | _ => cases e
noncomputable def fQ(K:Zc)(r:List V->Hp->VK->Prop)(f:List W->Po W):Prop:=∀{φ:Nat->Addr} {ph:PH} {H:Hp} {xs:List W} {vs:List V} {w:W} {ph':PH} {Q:VK},aD K φ ph H->aT K φ ph.length H xs vs->f xs ph=some (w,ph') →
 (∀ao H' v,aD K ao ph' H'->Step K φ ph.length H ao ph'.length H'->aJ K ao ph'.length H' w v->Q v H')->r vs H Q
noncomputable def bG(f:List W->Po W)(a:AM):EM:=fun σ=>aq (a σ) fun xs=>lift (f xs)
section
variable{X:Cx}{x:Str}{p pos:Pos}{e:Expr}{es:List Expr}{t:AM}{id T:String}{r:List V->Hp->VK->Prop}{f:List W->Po W}
theorem Bt(hi:fQ X.K r f){σ:L2.St}{H:Hp}{Q:VK}(h:tM X (bG f t) σ H Q):yj r (tA X t) σ H Q:=by
 obtain⟨φ,ph,ws,hH,hS,h⟩:=h;refine tA.bind hH hS h fun xs ph1 av H1 vs aE s1 r1 h=>?_
 obtain⟨w,ph',e,k⟩:=run_lift h;exact hi aE r1 e fun aV H2 v aX s2 r2=>k aV H2 v aX (s1.trans s2) r2
theorem Pb(hc:cH X (.builtin id) r)(hi:fQ X.K r f)(hg:Gl X x)(hm:X.mg x=none)(hv:aaz x=some (.builtin id))(ha:IA X (e::es) t)(hn:x≠"__name__":=by decide)(c9:(x==("__debug__":Str))=false:=by decide)
  (he:ZF (e::es) X.env=(false,eval e X.env)::ZF es X.env:=by rfl) (fE:(acb pos (ZF es X.env)).any (·.1)=false:=by rfl):IE X (.Call (.Name x p) (e::es) [] pos) (bG f t):=
 PE.imp (O6 hc hg hm hv ha hn c9 he fE) fun _ _ _ h=>Bt hi h
theorem N4(hc:cH X (.type T) r)(hi:fQ X.K r f)(hg:Gl X x)(hm:X.mg x=none)(hv:aaz x=some (.type T))(ha:IA X (e::es) t)(hn:x≠"__name__":=by decide)(c9:(x==("__debug__":Str))=false:=by decide)
  (he:ZF (e::es) X.env=(false,eval e X.env)::ZF es X.env:=by rfl) (fE:(acb pos (ZF es X.env)).any (·.1)=false:=by rfl):IE X (.Call (.Name x p) (e::es) [] pos) (bG f t):=
 PE.imp (NX hc hg hm hv ha hn c9 he fE) fun _ _ _ h=>Bt hi h
end
theorem cH.or{f:Value}{r r':List V->Hp->VK->Prop}(h:cH X f r)(h':cH X f r'):cH X f (fun xs H Q=>r xs H Q\/r' xs H Q):=by
 intro pins s σ H xs us Q I rx q
 rcases q with q | q
 ·exact h pins s σ H xs us Q I rx q
 ·exact h' pins s σ H xs us Q I rx q
noncomputable def cY:List W->Po W:=fun xs ph=>match xs with
 | [.str z]=>if z.length<=Zt then some (.int z.length,ph) else none
 | [w]=>(cj w ph).map fun ws=>(.int ws.length,ph)
 | _=>none
abbrev EZ(K:Zc):List V->Hp->VK->Prop:=fun xs H Q=>(∃p ys,xs=[.ref p]/\(bo K H p ys\/b8 K H p ys)/\Q (.int ys.length) H)\/(∃z,xs=[.str z]/\z.length<=Zt/\Q (.int z.length) H)
theorem lz:fQ K (EZ K) cY:=by
 intro φ ph H xs vs w ph' Q hH r e k;unfold cY at e;split at e
 ·split at e
  ·rename_i hz;cases e;cases r with
   | cons r r'=>cases r;cases r';exact .inr ⟨_,rfl,hz,k φ H _ hH Step.refl (.int _)⟩
  ·cases e
 ·rename_i w0 jx;cases r with
  | cons r r'=>
   cases r';cases q:cj w0 ph with
   | none=>rw[q] at e;cases e
   | some ws=>
    rw[q] at e;cases e;obtain⟨a,ys,rfl,hs,rs⟩:=vC hH r q;exact .inl ⟨a,ys,rfl,hs,by rw[<- rs.length];exact k φ H _ hH Step.refl (.int _)⟩
 ·cases e
theorem lj:cH X (.builtin "len") (EZ X.K):=cH.or Mk Ml
noncomputable def kB(K:Zc)(T:String)(r:V->List V->Hp->VK->Prop)(f:W->List W->Po W):Prop:=∀{φ:Nat->Addr} {ph:PH} {H:Hp} {x:W} {xs:List W} {vx:V} {vs:List V} {w:W} {ph':PH} {Q:VK},
 aD K φ ph H->aJ K φ ph.length H x vx->aT K φ ph.length H xs vs->f x xs ph=some (w,ph') →
 (∀ao H' v,aD K ao ph' H'->Step K φ ph.length H ao ph'.length H'->aJ K ao ph'.length H' w v->Q v H')->r vx vs H Q
noncomputable def ox(K:Zc)(T:String)(ty:W->PH->Bool):Prop:=∀{φ:Nat->Addr} {ph:PH} {H:Hp} {x:W} {vx:V},aD K φ ph H->aJ K φ ph.length H x vx->ty x ph=true->yl K T vx H
noncomputable def iB(b:PH->Bool):Po Unit:=fun ph=>if b ph=true then some ((),ph) else none
noncomputable def cI(ty:W->PH->Bool)(f:W->List W->Po W)(o:EM)(a:AM):EM:=fun σ=>aq (o σ) fun x=>aq (lift (iB (ty x))) fun _=>aq (a σ) fun xs=>lift (f x xs)
noncomputable def cz(w:W)(ph:PH):Bool:=match w with
 | .ref i=>match ph[i]? with
  | some (.lst _)=>true
  | _=>false
 | .fl _=>true
 | _=>false
theorem jZ:ox K "list" cz:=by
 intro φ ph H x vx hH rx e;unfold cz at e;cases rx with
 | ref hi=>
  simp only at e;split at e
  ·rename_i cU hw;obtain⟨vs,hv,r⟩:=hH.hp _ _ hw;exact .inl ⟨rfl,vs,bo.of hv⟩
  ·cases e
 | fl h r=>exact .inl ⟨rfl,_,h.sq⟩
 | _=>cases e
section
variable{X:Cx}{o e:Expr}{es:List Expr}{mo:EM}{t:AM}{name:Str}{apos dZ:Pos}{T id:String}{r:V->List V->Hp->VK->Prop}{ty:W->PH->Bool}{f:W->List W->Po W}
theorem Pd(ht:ox X.K T ty)(hi:kB X.K T r f){σ:L2.St}{H:Hp}{Q:VK}(h:tM X (cI ty f mo t) σ H Q):FN X.K T r (tM X mo) (tA X t) σ H Q:=by
 obtain⟨φ,ph,ws,hH,hS,h⟩:=h;refine tM.bind hH hS h fun x ph1 av H1 v aE s1 r1 h=>?_
 rw[cG] at h;obtain⟨_,ph2,e2,h⟩:=run_lift h;unfold iB at e2;split at e2
 ·rename_i hy;cases e2;refine⟨ht aE r1 hy,tA.bind aE (hS.mono s1) h fun xs ph2 aV H2 vs aX s2 r2 h=>?_⟩;obtain⟨w,ph',e,k⟩:=run_lift h;exact hi aX (r1.mono s2) r2 e fun gI H3 v gC s3 r3=>k gI H3 v gC ((s1.trans s2).trans s3) r3
 ·cases e2
theorem UJ(pa:adQ T)(slot:Slot T name id)(l7:typeOf (.builtin id)=pure (.type "method_descriptor"))(hm:oi X id r)(ht:ox X.K T ty)(hi:kB X.K T r f)(ho:IE X o mo)(ha:IA X (e::es) t)
  (lD:acM o name X.env (eval o X.env)=eval o X.env:=by rfl)
  (xF:((acb dZ (ZF (e::es) X.env)).all (fun x=> !x.1)&&(backToKw dZ (keywordEach [] X.env)).all (fun x=>x.1.isSome)
   && decide ((e::es).length+([]:List Keyword).length+(if([]:List Keyword).isEmpty then 0 else 1)<30))=true:=by rfl)
  (lE:(apos.endLine==dZ.line)=true:=by rfl) (hs:ZF (e::es) X.env=(false,eval e X.env)::ZF es X.env:=by rfl) (wt:(acb dZ (ZF es X.env)).any (·.1)=false:=by rfl) :
  IE X (.Call (.Attribute o name apos) (e::es) [] dZ) (cI ty f mo t):=
 PE.imp (Uy pa slot l7 hm ho ha lD xF lE hs wt) fun _ _ _ h=>Pd ht hi h
end
variable{i:Nat}
theorem sy{mf:List W}{vs:List V}(hH:aD K φ ph H)(hi:ph[i]? =some (.lst mf))(r:aT K φ ph.length H ws vs) :
  aD K φ (ph.set i (.lst ws)) (upd H (φ i) (.lst vs))/\Step K φ ph.length H φ (ph.set i (.lst ws)).length (upd H (φ i) (.lst vs)):=by
 obtain⟨y,ey,my⟩:=hH.mu hi rfl;have s:=mR (K:=K) (φ:=φ) (n:=ph.length) (y:=HO.lst vs) ey my;rw[aal];exact⟨hH.put hi rfl ⟨vs,bp,r.mono s⟩,s⟩
noncomputable def dH:W->List W->Po W:=fun x xs ph=>match x,xs with
 | .ref i,[y]=>match ph[i]? with
  | some (.lst ws)=>if ws.length<Zt then some (.aG,ph.set i (.lst (ws++[y]))) else none
  | _=>none
 | _,_=>none
theorem mP:kB K "list" B2 dH:=by
 intro φ ph H x xs vx vs w ph' Q hH rx rs e k;unfold dH at e;split at e
 ·rename_i i y;split at e
  ·rename_i ws hw;split at e
   ·rename_i hz;cases e;cases rx with
    | ref hi=>
     cases rs with
     | cons ry rr=>
      cases rr;obtain⟨us,hv,r⟩:=hH.hp _ _ hw;obtain⟨q1,q2⟩:=sy hH hw (r.append (.cons ry .nil));exact⟨_,us,_,rfl,rfl,hv,by rw[<- r.length];exact hz,k φ _ _ q1 q2 .aG⟩
   ·cases e
  ·cases e
 ·cases e
noncomputable def lR:W->Po W:=fun x=>match x with
 | .int i=>ret (.int (-i))
 | _=>eG
theorem SK:FQ K (rU fun i=>.int (-i)) lR:=by
 intro φ ph H x vx w ph' Q hH rx e k;unfold lR at e;split at e
 ·cases e;cases rx;exact⟨_,rfl,k φ H _ hH Step.refl (.int _)⟩
 ·cases e
noncomputable def fS:W->W->Po W:=oo fun i j=>i-j
theorem SN:da K (iI fun i j=>.int (i-j)) fS:=UB
noncomputable def a9:W->W->Po W:=nK (fun _ j=>decide (j≠0)) fun i j=>i.fmod j
theorem SO:da K (rI (fun _ j=>j≠0) fun i j=>.int (i.fmod j)) a9:=CV fun i j h=>by simpa using h
noncomputable def DT(i j:Int):Prop:=j≠0/\j.natAbs<2 ^ 64
theorem Pe:bu X (abA .FloorDiv) (rI DT fun i j=>.int (i.fdiv j)):=yh fun i j _ _ _ _ _ hc q=>floordiv_int hc.1 q (.inl (PyProof.noPylong_of_log2 (by
 have h0:j.natAbs≠0:=by have:=hc.1;omega
 have:=(Nat.log2_lt h0).mpr hc.2;omega)))
noncomputable def bU:W->W->Po W:=nK (fun _ j=>decide (j≠0)&&decide (j.natAbs<2 ^ 64)) fun i j=>i.fdiv j
theorem SQ:da K (rI DT fun i j=>.int (i.fdiv j)) bU:=CV fun i j h=>by
 rw[Zr] at h;exact⟨of_decide_eq_true h.1,of_decide_eq_true h.2⟩
noncomputable def iQ:W->W->Po W:=nL fun i j=>decide (i<j)
noncomputable def Wz:W->W->Po W:=nL fun i j=>decide (i<=j)
noncomputable def f6:W->W->Po W:=nL fun i j=>decide (j<i)
noncomputable def WA:W->W->Po W:=nL fun i j=>decide (j<=i)
noncomputable def mulC(i j:Int):Bool:=(decide (-(2 ^ 64)<i)&&decide (i<2 ^ 64))||(decide (-(2 ^ 64)<j)&&decide (j<2 ^ 64))
noncomputable def nM:W->W->Po W:=fun x y=>match x,y with
 | .int i,.int j=>if mulC i j=true then ret (.int (i*j)) else eG
 | _,_=>eG
theorem SR:da K (rI pR fun i j=>.int (i*j)) nM:=by
 intro φ ph H x y vx vy w ph' Q hH rx ry e k;unfold nM at e;split at e
 ·split at e
  ·rename_i hc;cases e;cases rx;cases ry;refine⟨_,_,rfl,rfl,?_,k φ H _ hH Step.refl (.int _)⟩;unfold mulC at hc;simp only[aaN,Zr,decide_eq_true_eq] at hc;exact hc
  ·cases e
 ·cases e
noncomputable def addW:W->W->Po W:=fun x y ph=>match x,y with
 | .int i,.int j=>some (.int (i+j),ph)
 | .str i,.str j=>if i.length+j.length<=Zt then some (.str (i++j),ph) else none
 | .ref a,.ref b=>match ph[a]?,ph[b]? with
  | some (.lst xs),some (.lst ys)=>if xs.length+ys.length<=Zt then some (.ref ph.length,ph++[.lst (xs++ys)]) else none
  | _,_=>none
 | .tup xs,.tup ys=>if xs≠[]/\xs.length+ys.length<=Zt then some (.tup (xs++ys),ph) else none
 | _,_=>none
abbrev DU(K:Zc):R2:=fun x y H Q=>((iI fun i j=>.int (i+j)) x y H Q\/∃i j,x=.str i/\y=.str j/\i.length+j.length<=Zt/\Q (.str (i++j)) H)\/(EX x y H Q\/DR K x y H Q)
theorem QB:bu X (abA .Add) (DU X.K):=bu.or (bu.or R3 Nq) (bu.or Si Qo)
theorem SS:da K (DU K) addW:=by
 intro φ ph H x y vx vy w ph' Q hH rx ry e k;unfold addW at e;split at e
 ·cases e;cases rx;cases ry;exact .inl (.inl ⟨_,_,rfl,rfl,k φ H _ hH Step.refl (.int _)⟩)
 ·split at e
  ·rename_i hz;cases e;cases rx;cases ry;exact .inl (.inr ⟨_,_,rfl,rfl,hz,k φ H _ hH Step.refl (.str _)⟩)
  ·cases e
 ·split at e
  ·rename_i xs ys hx hy;split at e
   ·rename_i hz;cases e;cases rx;cases ry;obtain⟨us,hu,ru⟩:=hH.hp _ _ hx;obtain⟨vs,hv,rv⟩:=hH.hp _ _ hy;refine .inr (.inl ⟨_,_,us,vs,rfl,rfl,hu,hv,by rw[<- ru.length,<- rv.length];exact hz,fun p hp=>?_⟩);obtain⟨q1,q2,q3⟩:=jM hH (ru.append rv) hp;exact k _ _ _ q1 q2 q3
   ·cases e
  ·cases e
 ·split at e
  ·rename_i xs ys hz;cases e;cases rx with
   | tup hx rx=>
    cases ry with
    | tup hy ry=>
     rename_i a us b vs;refine .inr (.inr ⟨a,b,us,vs,rfl,rfl,b8.of hx,b8.of hy,?_,by rw[<- rx.length,<- ry.length];exact hz.2,fun he=>?_,fun hn p hp=>?_⟩)
     ·rintro rfl;cases rx;exact hz.1 rfl
     ·subst he;cases ry;refine k φ H _ hH Step.refl ?_;rw[aak];exact .tup hx rx
     ·exact k φ _ _ (hH.tup hp) (iW hp) (.tup bp ((rx.append ry).mono (iW hp)))
  ·cases e
 ·cases e
noncomputable def jf:W->W->Po W:=fun x y=>match y with
 | .aG=>ret (.bl (decide (x=.aG)))
 | _=>eG
noncomputable def DV:W->W->Po W:=fun x y=>match y with
 | .aG=>ret (.bl (!decide (x=.aG)))
 | _=>eG
theorem QC{x:W}(r:aJ K φ n H x v):decide (x=.aG)=decide (v=.aG):=by
 cases r <;> simp
theorem SU:da K (fun x y H Q=>y=.aG/\Q (.bl (decide (x=.aG))) H) jf:=by
 intro φ ph H x y vx vy w ph' Q hH rx ry e k;unfold jf at e;split at e
 ·cases e;cases ry;exact⟨rfl,by rw[<- QC rx];exact k φ H _ hH Step.refl (.bl _)⟩
 ·cases e
noncomputable def iC:List W->Po W:=fun xs=>match xs with
 | [.int i]=>ret (.int i)
 | [.bl b]=>ret (.int (if b then 1 else 0))
 | _=>eG
theorem wA:fQ K (fun xs H Q=>(∃i,xs=[.int i]/\Q (.int i) H)\/∃k,xs=[.bl k]/\Q (.int (if k then 1 else 0)) H) iC:=by
 intro φ ph H xs vs w ph' Q hH r e k;unfold iC at e;split at e
 ·cases e;cases r with
  | cons r r'=>cases r;cases r';exact .inl ⟨_,rfl,k φ H _ hH Step.refl (.int _)⟩
 ·cases e;cases r with
  | cons r r'=>cases r;cases r';exact .inr ⟨_,rfl,k φ H _ hH Step.refl (.int _)⟩
 ·cases e
noncomputable def VH:List W->Po W:=fun xs=>match xs with
 | [.int i]=>ret (.int (if i<0 then -i else i))
 | _=>eG
noncomputable def DW(w:W)(ph:PH):Option String:=match w with
 | .aG=>some "NoneType"
 | .bl _=>some "bool"
 | .int _=>some "int"
 | .str _=>some "str"
 | .tup _=>some "tuple"
 | .fl _=>some "list"
 | .ref i=>match ph[i]? with
  | some (.lst _)=>some "list"
  | some (.aF _)=>some "dict"
  | _=>none
 | .exc .. =>none
 | .fn .. =>none
noncomputable def eJ(t c:String):Bool:=t==c||(t=="bool"&&c=="int")
noncomputable def jy(c:String)(w:W):Po W:=fun ph=>match DW w ph with
 | some t=>some (.bl (eJ t c),ph)
 | none=>none
noncomputable def WB(c:String)(m:EM):EM:=fun σ=>aq (m σ) fun w=>lift (jy c w)
noncomputable def bc{α β:Type}(f:α->Option β):List α->Option (List β)
 | []=>some []
 | a::as=>match f a,bc f as with
  | some b,some bs=>some (b::bs)
  | _,_=>none
noncomputable def dat(ph:PH):Nat->W->Option aby
 | _,.aG=>some .none
 | _,.bl b=>some (.bool b)
 | _,.int i=>some (.int i)
 | _,.str x=>if abH x=true then some (.str x) else none
 | n+1,.tup ws=>(bc (dat ph n) ws).map .tuple
 | n+1,.fl ws=>(bc (dat ph n) ws).map .list
 | n+1,.ref i=>match ph[i]? with
  | some (.lst ws)=>(bc (dat ph n) ws).map .list
  | _=>none
 | _,_=>none
section
variable{X:Cx}{pins:List (Addr×Obj)}{σ:L2.St}{H:Hp}{s:Zh}{φ:Nat->Addr}{ph:PH}
noncomputable def kC(s:Zh)(n:Nat)(u:Value)(d:aby):Prop:=(∃as,Reads s.heap u d as)/\d.canLay0=true/\d.depth<=n
theorem u7{n:Nat}(ih:∀{w:W} {v:V} {u:Value} {d:aby},aJ X.K φ ph.length H w v->RelV v u->dat ph n w=some d->kC s n u d) :
  ∀{ws:List W} {vs:List V} {us:List Value} {ds:List aby},aT X.K φ ph.length H ws vs->Vals vs us->bc (dat ph n) ws=some ds →
   (∃as,ReadsAll s.heap us ds as)/\adS ds=true/\PyData.depthAll ds<=n
 | _,_,_,_,.nil,.nil,e=>by cases e;exact⟨⟨_,.nil⟩,rfl,aaF _⟩
 | w::ws,_,_,ds,.cons h r,.cons hv rv,e=>by
  unfold bc at e;split at e
  ·rename_i b bs e1 e2;cases e;obtain⟨⟨as,r1⟩,c1,d1⟩:=ih h hv e1;obtain⟨⟨WC,r2⟩,c2,d2⟩:=u7 ih r rv e2;refine⟨⟨_,.cons r1 r2⟩,?_,?_⟩
   ·simp only[adS,c1,c2,adM]
   ·simp only[PyData.depthAll];omega
  ·cases e
theorem jI(I:Inv X pins σ H s)(hH:aD X.K φ ph H):∀(n:Nat) {w:W} {v:V} {u:Value} {d:aby},aJ X.K φ ph.length H w v->RelV v u->dat ph n w=some d->kC s n u d:=by
 have xN:∀(n:Nat) (ih:∀{w:W} {v:V} {u:Value} {d:aby},aJ X.K φ ph.length H w v->RelV v u->dat ph n w=some d->kC s n u d) {ws:List W} {vs:List V} {d:aby} {a:Addr},
   aT X.K φ ph.length H ws vs->((bo X.K H a vs/\(bc (dat ph n) ws).map PyData.list=some d)\/(b8 X.K H a vs/\(bc (dat ph n) ws).map PyData.tuple=some d))->kC s (n+1) (.ref a) d:=by
  intro n ih ws vs d a r h
  rcases h with⟨hq,e⟩ | ⟨hq,e⟩
  ·obtain⟨its,rv,⟨o,k,h1,h2,h3,h4⟩,_⟩:=I.list hq;obtain⟨ds,e1,e2⟩:=Zn.mp e;subst e2;obtain⟨⟨as,r1⟩,c1,d1⟩:=u7 ih r rv e1;refine⟨⟨_,.list h1 h2 h4 (by simpa using r1)⟩,by simpa only[acx] using c1,?_⟩;simp only[PyData.depth];omega
  ·obtain⟨its,rv,⟨o,h1,h2,k,h4⟩,_⟩:=I.tuple hq;obtain⟨ds,e1,e2⟩:=Zn.mp e;subst e2;obtain⟨⟨as,r1⟩,c1,d1⟩:=u7 ih r rv e1;refine⟨⟨_,.tuple h1 h2 h4 (by simpa using r1)⟩,by simpa only[acx] using c1,?_⟩;simp only[PyData.depth];omega
 intro n
 induction n with
 | zero=>
  intro w v u d r rv e;cases r with
  | aG=>cases rv;cases e;exact⟨⟨_,.none⟩,rfl,Zf _⟩
  | bl b=>cases rv;cases e;exact⟨⟨_,.bool b⟩,rfl,Zf _⟩
  | int i=>obtain⟨t,rfl⟩:=rv;cases e;exact⟨⟨_,.int i t⟩,rfl,Zf _⟩
  | str x=>
   obtain⟨t,rfl⟩:=rv;unfold dat at e;split at e
   ·rename_i hx;cases e;exact⟨⟨_,.str x t⟩,by simpa only[acx] using hx,Zf _⟩
   ·cases e
  | _=>cases e
 | succ n ih=>
  intro w v u d r rv e;cases r with
  | aG=>cases rv;cases e;exact⟨⟨_,.none⟩,rfl,aaF _⟩
  | bl b=>cases rv;cases e;exact⟨⟨_,.bool b⟩,rfl,aaF _⟩
  | int i=>obtain⟨t,rfl⟩:=rv;cases e;exact⟨⟨_,.int i t⟩,rfl,aaF _⟩
  | str x=>
   obtain⟨t,rfl⟩:=rv;unfold dat at e;split at e
   ·rename_i hx;cases e;exact⟨⟨_,.str x t⟩,by simpa only[acx] using hx,aaF _⟩
   ·cases e
  | tup h r=>cases rv;exact xN n ih r (.inr ⟨b8.of h,e⟩)
  | exc=>unfold dat at e;cases e
  | fn=>unfold dat at e;cases e
  | fl h r=>cases rv;exact xN n ih r (.inl ⟨h.sq,e⟩)
  | ref hi=>
   cases rv;unfold dat at e;split at e
   ·rename_i ws hw;obtain⟨vs,hv,r⟩:=hH.hp _ _ hw;exact xN n ih r (.inl ⟨bo.of hv,e⟩)
   ·cases e
end
noncomputable def fe(ph:PH)(x y:W):Option Bool:=match dat ph 40 x,dat ph 40 y with
 | some a,some b=>some (ZV a b)
 | _,_=>none
noncomputable def aQ:W->W->Po W:=fun x y ph=>(fe ph x y).map fun b=>(.bl b,ph)
noncomputable def ff:W->W->Po W:=fun x y ph=>(fe ph x y).map fun b=>(.bl (!b),ph)
noncomputable def rD(K:Zc)(f:Bool->Bool):R2:=fun x y H Q=>∃φ ph wx wy b,aD K φ ph H/\aJ K φ ph.length H wx x/\aJ K φ ph.length H wy y/\fe ph wx wy=some b/\Q (.bl (f b)) H
variable{y:W}
theorem Bu{x:W}{b:Bool}(h:fe ph x y=some b):∃dx dy,dat ph 40 x=some dx/\dat ph 40 y=some dy/\b=ZV dx dy:=by
 unfold fe at h;split at h
 ·rename_i dx dy h1 h2;cases h;exact⟨dx,dy,h1,h2,rfl⟩
 ·cases h
theorem SV(hu:X.A.units+64<cLine):bu X (aaM .Eq) (rD X.K fun b=>b):=by
 intro pins s σ H x y v u Q I rx ry h;obtain⟨φ,ph,wx,wy,b,hH,r1,r2,e,q⟩:=h;obtain⟨dx,dy,e1,e2,rfl⟩:=Bu e;obtain⟨⟨as,k1⟩,c1,l1⟩:=jI I hH 40 r1 rx e1;obtain⟨⟨bs,k2⟩,c2,l2⟩:=jI I hH 40 r2 ry e2;exact SeqAt.compareEq_reads k1 k2 c1 c2 (by omega) ⟨.bl _,H,I,rfl,q⟩
theorem SW(hu:X.A.units+64<cLine):bu X (aaM .NotEq) (rD X.K fun b=> !b):=by
 intro pins s σ H x y v u Q I rx ry h;obtain⟨φ,ph,wx,wy,b,hH,r1,r2,e,q⟩:=h;obtain⟨dx,dy,e1,e2,rfl⟩:=Bu e;obtain⟨⟨as,k1⟩,c1,l1⟩:=jI I hH 40 r1 rx e1;obtain⟨⟨bs,k2⟩,c2,l2⟩:=jI I hH 40 r2 ry e2;exact SeqAt.compareNe_reads k1 k2 c1 c2 (by omega) ⟨.bl _,H,I,rfl,q⟩
theorem UK:da K (rD K fun b=>b) aQ:=by
 intro φ ph H x y vx vy w ph' Q hH rx ry e k;obtain⟨b,e1,e2⟩:=Zn.mp e;cases e2;exact⟨φ,ph,x,y,b,hH,rx,ry,e1,k φ H _ hH Step.refl (.bl _)⟩
theorem UL:da K (rD K fun b=> !b) ff:=by
 intro φ ph H x y vx vy w ph' Q hH rx ry e k;obtain⟨b,e1,e2⟩:=Zn.mp e;cases e2;exact⟨φ,ph,x,y,b,hH,rx,ry,e1,k φ H _ hH Step.refl (.bl _)⟩
noncomputable def inD(ph:PH)(x y:W):Option Bool:=match cj y ph,dat ph 40 x with
 | some ws,some dx=>(bc (dat ph 40) ws).map fun ds=>ds.any fun d=>ZV d dx
 | _,_=>none
noncomputable def gZ:W->W->Po W:=fun x y ph=>(inD ph x y).map fun b=>(.bl b,ph)
noncomputable def xO:W->W->Po W:=fun x y ph=>(inD ph x y).map fun b=>(.bl (!b),ph)
noncomputable def nN(K:Zc)(f:Bool->Bool):R2:=fun x y H Q=>∃φ ph wx wy b,aD K φ ph H/\aJ K φ ph.length H wx x/\aJ K φ ph.length H wy y/\inD ph wx wy=some b/\Q (.bl (f b)) H
open Classical in
noncomputable def i9(s:Zh)(dx:aby)(u:Value):Bool:=if h:∃d,kC s 40 u d then ZV h.choose dx else false
variable{d:aby}
theorem sA{s:Zh}{dx:aby}{u:Value}(h:kC s 40 u d):i9 s dx u=ZV d dx:=by
 unfold i9;have hx:∃d,kC s 40 u d:=⟨d,h⟩
 rw[dif_pos hx];obtain⟨⟨as,r⟩,c,_⟩:=h;obtain⟨⟨YK,r'⟩,c',_⟩:=hx.choose_spec;rw[SeqAt.Reads.unique _ _ _ _ _ c' r' r]
section
variable{X:Cx}{pins:List (Addr×Obj)}{σ:L2.St}{H:Hp}{s:Zh}{φ:Nat->Addr}{ph:PH}
theorem vX(I:Inv X pins σ H s)(hH:aD X.K φ ph H){dx:aby}:∀{ws:List W} {vs:List V} {us:List Value} {ds:List aby},aT X.K φ ph.length H ws vs->Vals vs us->bc (dat ph 40) ws=some ds →
  (us.any (i9 s dx)=ds.any fun d=>ZV d dx)/\∀u∈us,∃d,kC s 40 u d
 | _,_,_,_,.nil,.nil,e=>by cases e;exact⟨rfl,fun _ h=>nomatch h⟩
 | w::ws,_,_,ds,.cons h r,.cons hv rv,e=>by
  unfold bc at e;split at e
  ·rename_i b bs e1 e2;cases e;have q:=jI I hH 40 h hv e1;obtain⟨r1,r2⟩:=vX I hH (dx:=dx) r rv e2;refine⟨by rw[aay,aay,r1,sA q],fun u hu=>?_⟩
   rcases ZK.mp hu with rfl | hu
   ·exact⟨_,q⟩
   ·exact r2 u hu
  ·cases e
theorem B7(I:Inv X pins σ H s)(hH:aD X.K φ ph H){wx wy:W}{x y:V}{v u:Value}{b:Bool}(hu:X.A.units+64<cLine)(r1:aJ X.K φ ph.length H wx x)(r2:aJ X.K φ ph.length H wy y)(rx:RelV x v)(ry:RelV y u)(e:inD ph wx wy=some b) :
  ∃(a:Addr) (its:List Value) (f:Value->Bool),u=.ref a/\(s.heap.IsList a its.toArray\/s.heap.IsTuple a its.toArray)/\(∀z,z∈its.toArray->SeqAt.EqAt X.A.in1 s z v (f z))/\its.toArray.any f=b:=by
 unfold inD at e;split at e
 ·rename_i ws dx hs hd;obtain⟨ds,e1,e2⟩:=Zn.mp e;obtain⟨a,vs,rfl,hq,rs⟩:=vC hH r2 hs;cases ry;obtain⟨⟨as,k1⟩,c1,l1⟩:=jI I hH 40 r1 rx hd;have fin:∀{its:List Value},Vals vs its->(∀z,z∈its.toArray->SeqAt.EqAt X.A.in1 s z v (i9 s dx z))/\its.toArray.any (i9 s dx)=b:=fun{its} rv=>by
   obtain⟨q1,q2⟩:=vX I hH (dx:=dx) rs rv e1;refine⟨fun z hz=>?_,by rw[show its.toArray.any (i9 s dx)=its.any (i9 s dx) by simp,q1,e2]⟩;obtain⟨d,hd⟩:=q2 z (by simpa using hz);rw[sA hd];obtain⟨⟨bs,k2⟩,c2,l2⟩:=hd;intro prog w E Q hQ;exact ady prog w _ E s z v d dx bs as Q k2 k1 c2 c1 (by show X.A.units+1+_<_;omega) hQ
  rcases hq with hq | hq
  ·obtain⟨its,rv,pl,_⟩:=I.list hq;obtain⟨f1,f2⟩:=fin rv;exact⟨a,its,_,rfl,.inl pl.isList,f1,f2⟩
  ·obtain⟨its,rv,pl,_⟩:=I.tuple hq;obtain⟨f1,f2⟩:=fin rv;exact⟨a,its,_,rfl,.inr pl,f1,f2⟩
 ·cases e
end
theorem SX(hu:X.A.units+64<cLine):bu X (aaM .In) (nN X.K fun b=>b):=by
 intro pins s σ H x y v u Q I rx ry h;obtain⟨φ,ph,wx,wy,b,hH,r1,r2,e,q⟩:=h;obtain⟨a,its,f,rfl,hq,hf,hb⟩:=B7 I hH hu r1 r2 rx ry e;subst hb
 rcases hq with hq | hq
 ·exact SeqAt.in_listAt f hq hf ⟨.bl _,H,I,rfl,q⟩
 ·exact SeqAt.in_tupleAt f hq hf ⟨.bl _,H,I,rfl,q⟩
theorem QD(hu:X.A.units+64<cLine):bu X (aaM .NotIn) (nN X.K fun b=> !b):=by
 intro pins s σ H x y v u Q I rx ry h;obtain⟨φ,ph,wx,wy,b,hH,r1,r2,e,q⟩:=h;obtain⟨a,its,f,rfl,hq,hf,hb⟩:=B7 I hH hu r1 r2 rx ry e;subst hb
 rcases hq with hq | hq
 ·exact SeqAt.notIn_listAt f hq hf ⟨.bl _,H,I,rfl,q⟩
 ·exact SeqAt.notIn_tupleAt f hq hf ⟨.bl _,H,I,rfl,q⟩
theorem UM:da K (nN K fun b=>b) gZ:=by
 intro φ ph H x y vx vy w ph' Q hH rx ry e k;obtain⟨b,e1,e2⟩:=Zn.mp e;cases e2;exact⟨φ,ph,x,y,b,hH,rx,ry,e1,k φ H _ hH Step.refl (.bl _)⟩
theorem SY:da K (nN K fun b=> !b) xO:=by
 intro φ ph H x y vx vy w ph' Q hH rx ry e k;obtain⟨b,e1,e2⟩:=Zn.mp e;cases e2;exact⟨φ,ph,x,y,b,hH,rx,ry,e1,k φ H _ hH Step.refl (.bl _)⟩
noncomputable def mS(env:Env)(x:Str×abn)(s:List (Str×Addr)):Sem (ForInStep (List (Str×Addr))):=
 if(x.2==Zw)=true then do
  let a <- cellOf env x.1
  pure (aaO ((x.1,a)::s))
 else pure (aaO s)
theorem vD(env:Env):∀(names:List (Str×abn)) (acc:List (Str×Addr)),(∀y∈names,y.2=.free->∃c,env.cells.lookup y.1=some c) →
  ∃cl,(forIn names acc (mS env):Sem (List (Str×Addr)))=pure cl/\(∀x c,cl.lookup x=some c->acc.lookup x=some c\/(env.cells.lookup x=some c/\(x,Zw)∈names)) /\
   (∀x,((∃c,acc.lookup x=some c)\/(x,Zw)∈names)->∃c,cl.lookup x=some c)
 | [],acc,_=>⟨acc,rfl,fun x c h=>.inl h,fun x h=>h.elim id fun z=>nomatch z⟩
 | (n,k)::r,acc,h=>by
  by_cases hk:k=.free
  ·subst hk;obtain⟨c,hc⟩:=h (n,.free) aaj rfl;obtain⟨cl,e,h1,h2⟩:=vD env r ((n,c)::acc) fun y hy=>h y (ZD _ hy)
   refine⟨cl,?_,fun x c' hx=>?_,fun x hx=>h2 x ?_⟩
   ·rw[List.forIn_cons];have eb:mS env (n,.free) acc=pure (aaO ((n,c)::acc)):=by
     unfold mS;rw[if_pos (by rfl)];unfold cellOf;rw[hc];rfl
    rw[eb];exact e
   ·rcases h1 x c' hx with z | z
    ·rw[Zp] at z;cases q:x==n with
     | true=>
      rw[q] at z;cases z;have:x=n:=eq_of_beq q;subst this;exact .inr ⟨hc,aaj⟩
     | false=>rw[q] at z;exact .inl z
    ·exact .inr ⟨z.1,ZD _ z.2⟩
   ·rcases hx with⟨c',hx⟩ | hx
    ·rw[Zp];cases q:x==n with
     | true=>exact .inl ⟨c,rfl⟩
     | false=>exact .inl ⟨c',hx⟩
    ·rcases ZK.mp hx with z | z
     ·cases z;exact .inl ⟨c,by rw[Zp];simp⟩
     ·exact .inr z
  ·obtain⟨cl,e,h1,h2⟩:=vD env r acc fun y hy=>h y (ZD _ hy)
   refine⟨cl,?_,fun x c' hx=>?_,fun x hx=>h2 x ?_⟩
   ·rw[List.forIn_cons];have eb:mS env (n,k) acc=pure (aaO acc):=by
     unfold mS;rw[if_neg (by simpa using hk)]
    rw[eb];exact e
   ·rcases h1 x c' hx with z | z
    ·exact .inl z
    ·exact .inr ⟨z.1,ZD _ z.2⟩
   ·rcases hx with hx | hx
    ·exact .inl hx
    ·rcases ZK.mp hx with z | z
     ·cases z;exact absurd rfl hk
     ·exact .inr z
variable{env:Env}
theorem QE{scope:Scope}(h:∀y∈scope.names,y.2=.free->∃c,env.cells.lookup y.1=some c) :
  ∃cl,abq scope env=pure cl/\(∀x c,cl.lookup x=some c->env.cells.lookup x=some c/\(x,Zw)∈scope.names)/\(∀x,(x,Zw)∈scope.names->∃c,cl.lookup x=some c):=by
 obtain⟨cl,e,h1,h2⟩:=vD env scope.names [] h;refine⟨cl,?_,fun x c hx=>?_,fun x hx=>h2 x (.inr hx)⟩
 ·unfold abq;show(forIn scope.names [] (mS env) >>= fun s=>pure s)=pure cl;rw[e];rfl
 ·rcases h1 x c hx with z | z
  ·cases z
  ·exact z
noncomputable def blk(X:Cx)(N:List Str)(scope:Scope)(cl:List (Str×Addr))(C:Addr)(aA:Zh)(aL:Hp)(ex:List Addr):Cx:=
 { X with N:=N,aA:=aA,aL:=aL,env:=compEnvC scope cl C X.env,outer:=X.stack,stack:=X.stack,ex:=ex,fn:=fun _=>false,pn:=[],xe:=fun _ _=>False }
noncomputable def jg(cap:List (Option Nat))(σ:L2.St):L2.St:=cap.map fun o=>o.bind fun i=>(σ[i]?).join
noncomputable def td(wi:TI)(cap:List (Option Nat))(g:TG)(tc:TT)(te:TE):TE:=fun σ H Q=>wi σ H fun J H1=>∀D,H1 D=none->∃W:Nat->Nat->L2.St->Hp->Prop,(∃m,W 0 m (jg cap σ) (upd H1 D (.lst []))) /\
 ∀i m bE H2,W i m bE H2->(J.stop i H2/\Q (.ref D) H2)\/(J.go i H2/\∀x H3,J.qf i H2 x H3->g x bE H3 fun iT H4=>tc iT H4 fun b H5=>
  if b=true then te iT H5 fun v H6=>∃xs,H6 D=some (.lst xs)/\xs.length<Zt/\∃m',m'<m/\W (i+1) m' iT (upd H6 D (.lst (xs++[v]))) else ∃m',m'<m/\W (i+1) m' iT H5)
noncomputable def PF(X:Cx)(ifs:List Expr)(t:TT):Prop:=
 ∀(pins:List (Addr×Obj)) (s:Zh) (σ:L2.St) (H:Hp) (Q:Bool->Hp->Prop),Inv X pins σ H s->t σ H Q →
  wpAny (model X.prog X.w) X.A (forIn ifs true fun c r=>if r=true then do let ok <- isTrue c X.env (eval c X.env);pure (aaO ok) else pure (aaO r)) (TP X pins σ Q) X.xe s
theorem S0:PF X [] (fun _ H Q=>Q true H):=fun pins s σ H Q I h=>wpAny_tests_nil ⟨H,I,h⟩
theorem S1{c:Expr}{t:TT}(h:PT X c t):PF X [c] t:=fun pins s σ H Q I q=>wpAny_tests_one (h pins s σ H Q I q)
theorem uG{env:Env}{x:Str}:∀{names:List (Str×abn)},names.lookup x=some .free →
  (names.map fun(n,k)=>if(k==Zw&&env.scope.kind==.function&&env.kindOf n==some .cell) then(n,aaH) else(n,k)).lookup x=some .cell \/
  (names.map fun(n,k)=>if(k==Zw&&env.scope.kind==.function&&env.kindOf n==some .cell) then(n,aaH) else(n,k)).lookup x=some .free
 | [],h=>by cases h
 | (n,k)::r,h=>by
  rw[ZL];cases q:x==n with
  | true=>
   rw[Zp,q] at h;cases h;by_cases hc:(Zw==Zw&&env.scope.kind==.function&&env.kindOf n==some .cell)=true
   ·left
    show abk x ((if(Zw==Zw&&env.scope.kind==.function&&env.kindOf n==some .cell)=true then(n,aaH) else(n,Zw))::_)=_;rw[if_pos hc,Zp,q]
   ·right
    show abk x ((if(Zw==Zw&&env.scope.kind==.function&&env.kindOf n==some .cell)=true then(n,aaH) else(n,Zw))::_)=_;rw[if_neg hc,Zp,q]
  | false=>
   rw[Zp,q] at h;have ih:=uG (env:=env) h;show abk x ((if(k==Zw&&env.scope.kind==.function&&env.kindOf n==some .cell)=true then(n,aaH) else(n,k))::_)=_\/abk x ((if(k==Zw&&env.scope.kind==.function&&env.kindOf n==some .cell)=true then(n,aaH) else(n,k))::_)=_;by_cases hc:(k==Zw&&env.scope.kind==.function&&env.kindOf n==some .cell)=true
   ·rw[if_pos hc,Zp,q];exact ih
   ·rw[if_neg hc,Zp,q];exact ih
theorem uQ{env:Env}{x:Str}{k':abn}(uh:k'=.cell\/k'=.free):∀{names:List (Str×abn)},(∀y∈names,y.2≠.cell) →
  (names.map fun(n,k)=>if(k==Zw&&env.scope.kind==.function&&env.kindOf n==some .cell) then(n,aaH) else(n,k)).lookup x=some k'->names.lookup x=some .free
 | [],_,h=>by cases h
 | (n,k)::r,hc,h=>by
  have h':abk x ((if(k==Zw&&env.scope.kind==.function&&env.kindOf n==some .cell)=true then(n,aaH) else(n,k))::r.map _)=some k':=h;rw[Zp];cases q:x==n with
  | true=>
   by_cases hb:(k==Zw&&env.scope.kind==.function&&env.kindOf n==some .cell)=true
   ·simp only[Zr] at hb;have:k=.free:=by simpa using hb.1.1
    rw[this]
   ·rw[if_neg hb,Zp,q] at h';cases h'
    rcases uh with z | z
    ·exact absurd z (hc (n,k') aaj)
    ·rw[z]
  | false=>
   refine uQ (env:=env) uh (names:=r) (fun y hy=>hc y (ZD _ hy)) ?_;by_cases hb:(k==Zw&&env.scope.kind==.function&&env.kindOf n==some .cell)=true
   ·rw[if_pos hb,Zp,q] at h';exact h'
   ·rw[if_neg hb,Zp,q] at h';exact h'
theorem mem_lookup{x:Str}{k:abn}:∀{names:List (Str×abn)},names.lookup x=some k->(x,k)∈names
 | [],h=>by cases h
 | (n,j)::r,h=>by
  rw[Zp] at h;cases q:x==n with
  | true=>rw[q] at h;cases h;rw[eq_of_beq q];exact aaj
  | false=>rw[q] at h;exact ZD _ (mem_lookup h)
structure jz(X:Cx)(N:List Str)(cap:List (Option Nat))(scope:Scope):Prop where
 len:cap.length=N.length
 at_:∀(i j:Nat) (x:Str),N[i]? =some x->cap[i]? =some (some j)->X.N[j]? =some x/\scope.names.lookup x=some .free/\(X.env.kindOf x=some .cell\/X.env.kindOf x=some .free)
 free:∀y∈scope.names,y.2=.free->X.env.kindOf y.1=some .cell\/X.env.kindOf y.1=some .free
 cell:∀y∈scope.names,y.2≠.cell
 kind:scope.kind=.function
 loc:∀y∈scope.names,y.2=.local->scope.names.lookup y.1=some .local
section
variable{X:Cx}{pins:List (Addr×Obj)}{σ:L2.St}{H:Hp}{s:Zh}{N:List Str}{cap:List (Option Nat)}{scope:Scope}{cl:List (Str×Addr)}{fp:List Addr}
theorem QF (I : Inv X pins σ H s) (c : jz X N cap scope) (d7 : ∀ x c, cl.lookup x = some c -> X.env.cells.lookup x = some c /\ (x, Zw) ∈ scope.names) (tR : ∀ x, (x, Zw) ∈ scope.names -> ∃ c, cl.lookup x = some c)
    (hf : ∀ b ∈ fp, b < s.heap.objs.size /\ b ≠ X.env.locals /\ b ∉ X.fs /\ (b ∈ X.ex \/ X.aA.heap.objs.size <= b) /\ (∀ x c, X.env.cells.lookup x = some c -> c ≠ b)) {fJ : Heap} {m : Str -> Option Value} {tk : Nat}
    (bD : fJ.Ns s.heap.objs.size m) (hk : ∀ b o, s.heap.get? b = some o -> fJ.get? b = some o) : Inv (blk X N scope cl s.heap.objs.size s H fp) [] (jg cap σ) H { s with heap := fJ, toks := tk } := by
  have VI : ∀ {x : Str}, ((blk X N scope cl s.heap.objs.size s H fp).env.kindOf x = some .cell \/ (blk X N scope cl s.heap.objs.size s H fp).env.kindOf x = some .free) -> scope.names.lookup x = some .free := fun {x} hx => by
    rcases hx with hx | hx
    · exact uQ (env := X.env) (.inl rfl) c.cell hx
    · exact uQ (env := X.env) (.inr rfl) c.cell hx
  have ok : (blk X N scope cl s.heap.objs.size s H fp).Ok :=
    { mod := I.ok.mod
      kind := c.kind
      glob := I.ok.glob
      blt := I.ok.blt
      above := Zf _
      inj := fun x y d h1 h2 => I.ok.inj x y d (d7 x d h1).1 (d7 y d h2).1
      has := fun x hx => tR x (mem_lookup (VI hx))
      oa := fun x d hz => nomatch hz
      hd := I.ok.hd
      frames := I.ok.frames
      qd := .inl rfl
      yd := fun b hb => ⟨ZE (hf b hb).1, fun x d hd => (hf b hb).2.2.2.2 x d (d7 x d hd).1⟩
      bs := I.bs
      iF := Zq I.ok.iF I.sz
      nH := fun b o e hb => by
        rcases (hf b hb).2.2.2.1 with z | z
        · exact I.ok.nH b o e z
        · exact absurd (Zg (Zl (I.ok.bs b o e).1) z) (aaG _)
      nI := fun b hb hz => by
        rcases ZK.mp (I.pB b hz) with e | e
        · exact (hf b hb).2.1 e
        · exact (hf b hb).2.2.1 e
      eF := I.stack
      kq := I.sM }
  refine ⟨ok, rfl, I.bare, Un.kept hk, ⟨m, bD, fun i x v e1 e2 _ => ?_⟩, fun x d e => ?_, I.ay.fresh (Zf _), fun x d e => ⟨(fun z => nomatch z), (I.fP x d (d7 x d e).1).2⟩, (fun p hp => nomatch hp), I.ay.kept hk, ?_⟩
  · unfold jg at e2
    rw [Ze] at e2;cases q : cap[i]? with
    | none => rw [q] at e2; cases e2
    | some o =>
      rw [q] at e2;cases o with
      | none => cases e2
      | some j =>
        have e3 : (σ[j]?).join = some v := ZX e2;have e4 : σ[j]? = some (some v) := by
          cases z : σ[j]? with
          | none => rw [z] at e3; cases e3
          | some w => rw [z] at e3; exact congrArg some e3
        obtain ⟨h1, h2, h3⟩ := c.at_ i j x e1 q;obtain ⟨m0, _, hl⟩ := I.loc;obtain ⟨u, ru, lk⟩ := hl j x v h1 e4 (.inr h3);refine ⟨u, ru, ?_⟩
        rcases lk with ⟨z, _⟩ | ⟨_, d, hd, iy⟩
        · rcases h3 with z' | z' <;> (rw [z] at z'; cases z')
        · obtain ⟨d', jp⟩ := tR x (mem_lookup h2)
          have e5 := (d7 x d' jp).1;rw [hd] at e5;cases e5;obtain ⟨ob, ho, xP⟩ := iy;exact .inr ⟨uG (env := X.env) h2, d, jp, ob, hk _ _ ho, xP⟩
  · obtain ⟨v, ob, ho, xP⟩ := I.cell x d (d7 x d e).1
    exact ⟨v, ob, hk _ _ ho, xP⟩
  · show (jg cap σ).length = N.length
    unfold jg;rw [Zd];exact c.len
theorem Un.but{fs ex:List Addr}{H H':Hp}{h h1 h2:Heap}{C:Addr}(u:Un fs ex H H' h h1)(sb:∀b,b≠C->h2.get? b=h1.get? b)(hC:h.get? C=none):Un fs ex H H' h h2:=by
 have ne:∀b o,h.get? b=some o->b≠C:=fun b o e z=>by rw[z,hC] at e;cases e
 exact⟨fun b o e n h1 h2=>(sb b (ne b o e)).trans (u.keep b o e n h1 h2),fun b o e n h1 h2=>by
  obtain⟨sl,q⟩:=u.slot b o e n h1 h2;exact⟨sl,(sb b (ne b o e)).trans q⟩,u.free,fun b o e h1=>by
  obtain⟨o',q⟩:=u.there b o e h1;exact⟨o',(sb b (ne b o e)).trans q⟩,u.ed,u.dz,u.ee⟩
theorem B8{aj:L2.St}{H':Hp}{s':Zh}{h':Heap}(I:Inv X pins σ H s)(J:Inv (blk X N scope cl s.heap.objs.size s H fp) [] aj H' s')(sb:abS s.heap.objs.size s'.heap h')
  (hf:∀b∈fp,fx X pins H b):Inv X pins σ H' { s' with heap:=h' }:=by
 have hC:H' s.heap.objs.size=none:=J.free;refine I.Uc (ch:=fp) J.os (Un.but J.base sb.2 (adw (Zf _))) (fun a o e=>?_) J.bare fun b hb=>⟨(hf b hb).2.2.2.1,(hf b hb).2.1,(hf b hb).2.2.2.2.1,(hf b hb).2.2.2.2.2⟩
 refine(J.ay a o e).gu (fun b u hb q=>(sb.2 b ?_).trans q) (fun _ q=>q) fun _ _ q=>q
 rintro rfl
 rcases hb with z | z
 ·rw[<- z,hC] at e;cases e
 ·rw[hC] at z;cases z
end
section
variable{prog:aah}{w:World}{A:abd}{R:Result->Zh->Prop}{s:Zh}
theorem N5{elt target iter:Expr}{ifs:List Expr}{scope:Scope}{pos:Pos}{it acc:Value}{env:Env}(J:Nat->Zh->Prop)
  (turn:∀k s,J k s->wpAny (model prog w) A (pyNext it) (fun r s1=>match r with
   | none=>R (.ok .next) s1
   | some v=>wpAny (model prog w) A (ach target it v) (fun _ s2=>wpAny (model prog w) A (adB target env v) (fun _ s3=>
     wpAny (model prog w) A (forIn ifs true fun c r=>if r=true then do let ok <- isTrue c env (eval c env);pure (aaO ok) else pure (aaO r)) (fun ok s4=>
      if ok=true then wpAny (model prog w) A (eval elt env) (fun x s5=>wpAny (model prog w) A (call (.builtin "list.append") [acc,x]) (fun _ s6=>∃j,j<k/\J j s6) (fun _ _=>False) s5) (fun _ _=>False) s4
      else ∃j,j<k/\J j s4) (fun _ _=>False) s3) (fun _ _=>False) s2) (fun _ _=>False) s1) (fun _ _=>False) s)
  (k:Nat) (h:J k s):codeAny (model prog w) A (.compLoop (.ListComp elt [⟨target,iter,ifs,0⟩] scope pos) 0 it acc env) R s:=by
 have no:∀{E:Value->Zh->Prop} (e:Value) (s:Zh),False->E e s:=fun _ _ z=>z.elim
 refine codeAny_loop (c:=.compLoop (.ListComp elt [⟨target,iter,ifs,0⟩] scope pos) 0 it acc env) rfl J (fun k s hJ=>?_) k h;show wpAny (model prog w) A ((compTurn (.ListComp elt [⟨target,iter,ifs,0⟩] scope pos) 0 it acc env).onRaise fun x=>do noteFrame x env;theTreesLotGoes x) _ _ s;refine wpAny_noted ?_;rw[compTurn_list];refine Zu (wpAny_standAt (Zu (aai (turn k s hJ) (fun r s1 h1=>?_) no)));cases r with
 | none=>exact ZZ h1
 | some v=>
  refine Zu (aai h1 (fun _ s2 h2=>Zu (aai h2 (fun _ s3 h3=>Zu (aai h3 (fun ok s4 h4=>?_) no)) no)) no);cases ok with
  | false=>exact ZZ ⟨rfl,h4⟩
  | true=>exact Zu (Zu (aai h4 (fun x s5 h5=>Zu (aai h5 (fun _ s6 h6=>ZZ (ZZ ⟨rfl,h6⟩)) no)) no))
end
section
variable{X:Cx}{tg iter elt:Expr}{ifs:List Expr}{scope:Scope}{pos:Pos}{N:List Str}{cap:List (Option Nat)}{wi:TI}{g:TG}{tc:TT}{te:TE}
theorem AW{use:Option (Value->Sem Unit)}{Q':Value->Zh->Prop}{pins:List (Addr×Obj)}{s:Zh}{σ:L2.St}{H:Hp}{Q:VK}{p0:Pos}(hc:X.calm=true)(c:jz X N cap scope)(hi:PI X tg iter wi)(hg:∀cl C aA aL ex,PG (blk X N scope cl C aA aL ex) tg g)(ht:∀cl C aA aL ex,PF (blk X N scope cl C aA aL ex) ifs tc)
  (he:∀cl C aA aL ex,PE (blk X N scope cl C aA aL ex) elt te) (hs:∀x,aac iter X.env x=pure x) (I:Inv X pins σ H s) (h:td wi cap g tc te σ H Q)
  (fin:∀(s3 s6:Zh) (H3 H6:Hp) (fp:List Addr) (qK:L2.St) (cl:List (Str×Addr)) (D:Addr),Inv X pins σ H3 s3->(∀b∈fp,fx X pins H3 b)->Inv (blk X N scope cl s3.heap.objs.size s3 H3 fp) [] qK H6 s6->Q (.ref D) H6 →
   compPost (model X.prog X.w) X.A X.xe use Q' (.ref D) s3.heap.objs.size (.ok .next) s6) :
  wpAny (model X.prog X.w) X.A (comprehension (.ListComp elt [⟨tg,iter,ifs,0⟩] scope pos) scope X.env p0 (newList []) false (eval iter X.env) use) Q' X.xe s:=by
 obtain⟨cl,UN,d7,tR⟩:=QE (scope:=scope) (env:=X.env) fun y hy hf=>I.ok.has y.1 (c.free y hy hf)
 refine wpAny_comprehension_free (use:=use) rfl hs UN c.kind c.loc (aai (hi pins s σ H _ I h) (fun v s1 h1=>aai h1 (fun yg s2 h2=>?_) fun _ _ z=>z) fun _ _ z=>z);obtain⟨it,fp,tn,J,H2,rfl,I2,T,cJ,f2,h2⟩:=h2;refine wpAny_newObj_type (wpAny_newFunctionEnv c.cell (by intro y hy;simp at hy) (fun fJ bD oy=>?_) c.kind);have hD:H2 s2.heap.objs.size=none:=I2.fresh;obtain⟨W,⟨m0,w0⟩,turn⟩:=h2 s2.heap.objs.size hD;have I3:=I2.xG (its:=[]) (ys:=[]) (t':=s2.toks) .nil (aaF _);have hO:∀b∈fp,fx X pins (upd H2 s2.heap.objs.size (.lst [])) b:=fun b hb=>by
  obtain⟨a1,a2⟩:=f2 b hb;refine⟨?_,a2⟩;obtain⟨o,ho,_⟩:=T.obj 0 _ cJ b hb;rw[aM (ZE (Zl ho))];exact a1
 have FT:∀b∈fp,b<s2.heap.objs.size:=fun b hb=>by
  obtain⟨o,ho,_⟩:=T.obj 0 _ cJ b hb;exact Zl ho
 revert bD oy
 generalize WD:({ s2 with heap:=s2.heap.push { cls:=.type "list",data:=.seq ([]:List Value).toArray },toks:=s2.toks }:Zh)=s3 at I3;intro bD oy;have FU:s3.heap=s2.heap.push { cls:=.type "list",data:=.seq ([]:List Value).toArray }:=by rw[<- WD]
 have e3:s3.heap.objs.size=s2.heap.objs.size+1:=by rw[FU,Heap.size_push]
 have FV:∀b o,s2.heap.get? b=some o->s3.heap.get? b=some o:=fun b o e=>by rw[FU];exact Zk _ e
 have yr:∀b o,s3.heap.get? b=some o->fJ.get? b=some o:=fun b o e=>oy.extBut b o (ZE (Zl e)) (Zk _ e)
 have VJ:fJ.Ns s3.heap.objs.size (fun x=>([]:List (Str×Value)).reverse.lookup x):=bD;have I4:=QF (fp:=fp) (tk:=s3.toks+([]:List (Str×Value)).length) I3 c d7 tR (fun b hb=>⟨by rw[e3];exact Nat.lt_succ_of_lt (FT b hb),(hO b hb).2.1,(hO b hb).2.2.1,(hO b hb).2.2.2.1,(hO b hb).2.2.2.2.1⟩) VJ yr;have loop:∀s4:Zh,s4={ s3 with heap:=fJ,toks:=s3.toks+([]:List (Str×Value)).length } →
   codeAny (model X.prog X.w) X.A (.compLoop (.ListComp elt [⟨tg,iter,ifs,0⟩] scope pos) 0 (.ref it) (.ref s2.heap.objs.size) (compEnvC scope cl s3.heap.objs.size X.env))
    (compPost (model X.prog X.w) X.A X.xe use Q' (.ref s2.heap.objs.size) s3.heap.objs.size) s4:=by
  rintro s4 rfl;refine N5 (fun m s=>∃i bE yt,Inv (blk X N scope cl s3.heap.objs.size s3 (upd H2 s2.heap.objs.size (.lst [])) fp) [] bE yt s/\tn i s.heap/\(∀b∈fp,yt b=none)/\W i m bE yt) ?_ m0
   ⟨0,jg cap σ,_,I4,T.keep _ _ _ cJ fun b hb o e=>yr b o (FV b o e),fun b hb=>(hO b hb).1,w0⟩
  rintro k s5 ⟨i,dP,H5,I5,oh,t9,w5⟩;have yu:∀{H':Hp} {ps:List (Addr×Obj)},(∀b∈fp,H' b=none)->(∀p∈ps,∀b∈fp,p.1≠b)->∀b∈fp,fx (blk X N scope cl s3.heap.objs.size s3 (upd H2 s2.heap.objs.size (.lst [])) fp) ps H' b:=fun{H' ps} hn hp b hb=>
   ⟨hn b hb,(fun z=>by have q:=FT b hb;have z':b=s3.heap.objs.size:=z;rw[z',e3] at q;exact absurd q (Nat.not_lt.mpr (abP _))),I5.ok.nI b hb,.inl hb,fun x d hd=>(hO b hb).2.2.2.2.1 x d (d7 x d hd).1,fun p WE=>hp p (by simpa[blk] using WE) b hb⟩
  rcases turn i k dP H5 w5 with⟨stop,qn⟩ | ⟨go,step⟩
  ·refine aai (T.done (blk X N scope cl s3.heap.objs.size s3 (upd H2 s2.heap.objs.size (.lst [])) fp) rfl rfl rfl hc i [] s5 dP H5 _ I5 (yu t9 (fun _ z=>nomatch z)) oh stop) (fun r s6 hr=>?_) fun _ _ z=>z
   obtain⟨rfl,I6⟩:=hr;exact fin s3 s6 _ H5 fp dP cl _ I3 hO I6 qn
  ·refine aai (T.item (blk X N scope cl s3.heap.objs.size s3 (upd H2 s2.heap.objs.size (.lst [])) fp) rfl rfl rfl hc i [] s5 dP H5 _ I5 (yu t9 (fun _ z=>nomatch z)) oh go) (fun r s6 hr=>?_) fun _ _ z=>z
   obtain⟨u,rfl,h6⟩:=hr;refine aai h6 (fun _ s7 ⟨x,H7,I7,rx,y7,yv,WG⟩=>?_) fun _ _ z=>z
   have WH:=I7.pinned (yu WG (fun _ z=>nomatch z)) (T.obj _ _ yv);have back:∀{iU:L2.St} {H8:Hp} {s8:Zh},Inv (blk X N scope cl s3.heap.objs.size s3 (upd H2 s2.heap.objs.size (.lst [])) fp) ([]++pC fp s7.heap) iU H8 s8 →
     Inv (blk X N scope cl s3.heap.objs.size s3 (upd H2 s2.heap.objs.size (.lst [])) fp) [] iU H8 s8/\tn (i+1) s8.heap/\∀b∈fp,H8 b=none:=fun{iU H8 s8} I8=>by
    refine⟨I8.su,T.keep _ _ _ yv fun b hb o e=>(I8.pin (b,o) (ZT _ (ZT _ (r6 hb e)))).1,fun b hb=>?_⟩;obtain⟨o,e,d⟩:=T.obj _ _ yv b hb;exact(I8.pin (b,o) (ZT _ (ZT _ (r6 hb e)))).2.1
   refine aU (hg cl _ _ _ fp _ s7 dP H7 x u _ WH rx (step x H7 y7)) fun _ s8 ⟨iU,H8,I8,q8⟩=>?_
   refine aU (ht cl _ _ _ fp _ s8 iU H8 _ I8 q8) fun ok s9 ⟨H9,I9,q9⟩=>?_
   cases ok with
   | false=>
    obtain⟨m',hm,w9⟩:=q9;obtain⟨a1,a2,a3⟩:=back I9;exact⟨m',hm,i+1,iU,H9,a1,a2,a3,w9⟩
   | true=>
    refine aU (he cl _ _ _ fp _ s9 iU H9 _ I9 q9) fun y WI ⟨hU,WJ,WK,WL,xs,hx,hz,m',hm,WM⟩=>?_
    refine aU (lh (X:=blk X N scope cl s3.heap.objs.size s3 (upd H2 s2.heap.objs.size (.lst [])) fp) _ WI iU WJ (.ref s2.heap.objs.size) [hU] (.ref s2.heap.objs.size) [y] (fun _ H'=>W (i+1) m' iU H') WK rfl (.cons WL .nil) ⟨_,xs,_,rfl,rfl,hx,hz,WM⟩) fun _ YL ⟨_,WN,WO,_,WP⟩=>?_
    obtain⟨a1,a2,a3⟩:=back WO;exact⟨m',hm,i+1,iU,WN,a1,a2,a3,WP⟩
 exact codeAny_compStart_list (loop _ rfl) (T.self _ 0 _ _ _ (T.keep _ _ _ cJ fun b hb o e=>yr b o (FV b o e)) (loop _ rfl))
theorem QG(hc:X.calm=true)(c:jz X N cap scope)(hi:PI X tg iter wi)(hg:∀cl C aA aL ex,PG (blk X N scope cl C aA aL ex) tg g)(ht:∀cl C aA aL ex,PF (blk X N scope cl C aA aL ex) ifs tc)
  (he:∀cl C aA aL ex,PE (blk X N scope cl C aA aL ex) elt te) (hs:∀x,aac iter X.env x=pure x:=by intro _;rfl):PE X (.ListComp elt [⟨tg,iter,ifs,0⟩] scope pos) (td wi cap g tc te):=by
 intro pins s σ H Q I h;rw[eval_ListComp];refine AW hc c hi hg ht he hs I h fun s3 s6 H3 H6 fp qK cl D I3 hO I6 q=>?_
 obtain⟨m6,yw,_⟩:=I6.loc;exact⟨m6,yw,fun h' sb=>⟨.ref D,H6,B8 I3 I6 sb hO,rfl,q⟩⟩
theorem QH{i:Nat}{x:Str}{pos' nQ:Pos}(hN:X.N.Nodup)(kD:X.N[i]? =some x)(hx:X.env.scope.names.lookup x=some .local)(qm:abw (.ListComp elt [⟨tg,iter,ifs,0⟩] scope pos) (some (.Name x pos')) nQ.line X.env=pure true)
  (hc:X.calm=true) (c:jz X N cap scope) (hi:PI X tg iter wi) (hg:∀cl C aA aL ex,PG (blk X N scope cl C aA aL ex) tg g) (ht:∀cl C aA aL ex,PF (blk X N scope cl C aA aL ex) ifs tc)
  (he:∀cl C aA aL ex,PE (blk X N scope cl C aA aL ex) elt te) (hs:∀x,aac iter X.env x=pure x:=by intro _;rfl) :
  PS X (.Assign [.Name x pos'] (.ListComp elt [⟨tg,iter,ifs,0⟩] scope pos) nQ) (tJ (td wi cap g tc te) (w8 i)):=by
 intro pins s σ H D I h;rw[exec_Assign_Name_used x pos' _ nQ qm];refine Zu (wpAny_standAt (Zu ?_));show wpAny (model X.prog X.w) X.A (comprehension (.ListComp elt [⟨tg,iter,ifs,0⟩] scope pos) scope X.env _ (newList []) false (eval iter X.env) (some (adB (.Name x pos') X.env)) >>= fun _=>pure ()) _ _ s;refine Zu (AW hc c hi hg ht he hs I h fun s3 s6 H3 H6 fp qK cl Dl I3 hO I6 q=>?_);obtain⟨m6,yw,_⟩:=I6.loc;have VL:s6.heap.Ns s3.heap.objs.size m6:=yw;have I7:Inv X pins σ H6 s6:=B8 (h':=s6.heap) I3 I6 ⟨rfl,fun _ _=>rfl⟩ hO;refine wpAny_assign_Name (AN I7 hN kD (.inl hx) (v:=.ref Dl) rfl (fun s8 I8 h8=>?_) (.inr hx));obtain⟨a,WQ,ha⟩:=h8;have fresh:H6 s3.heap.objs.size=none:=I6.free;have qe:s3.heap.objs.size≠X.env.locals:=aaI I3.lt;have lZ:∀y d,X.env.cells.lookup y=some d->d≠s3.heap.objs.size:=fun y d e=>by
  obtain⟨v,o,ho,_⟩:=I3.cell y d e;exact ZE (Zl ho)
 have WR:∀p∈X.pn++pins,p.1≠s3.heap.objs.size:=fun p hp=>ZE (Zl (I3.pin p hp).1)
 have WS:s3.heap.objs.size≠a:=by
  rcases ha with z | z
  ·rw[z];exact qe
  ·exact abg (lZ x a z)
 refine⟨m6,VL.sameBut WQ WS,fun h' sb=>ZZ (ZZ ⟨_,H6,?_,q⟩)⟩;exact I8.turned (t':=s8.toks) (fun b o hb e=>(sb.2 b hb).trans e) fresh qe (.inr I3.sz) lZ WR
end
noncomputable def fA(cap:List (Option Nat))(σ:aK):aK:=cap.map fun o=>o.bind fun i=>(σ[i]?).join
noncomputable def cT(m:Mo α):Mo α:=fun ph=>match m ph with
 | .ok a ph'=>.ok a ph'
 | _=>.no
theorem vE{m:Mo α}{N:α->PH->Prop}{E':XC->PH->Prop}(h:(cT m ph).Run N E):(m ph).Run N E':=by
 unfold cT at h;cases e:m ph with
 | ok a ph'=>rw[e] at h;exact h
 | ex x ph'=>rw[e] at h;exact h.elim
 | no=>rw[e] at h;exact h
noncomputable def du(chk:PH->Bool)(g:GM)(c:TM)(e:EM)(L:Nat):List W->aK->Mo Unit
 | [],_=>fun ph=>if chk ph=true then .ok () ph else .no
 | x::xs,σ=>fun ph=>if chk ph=true then aq (cT (g x σ)) (fun σ1=>aq (cT (c σ1)) fun t=>if t=true then aq (cT (e σ1)) fun w=>aq (lift (dH (.ref L) [w])) fun _=>du chk g c e L xs σ1 else du chk g c e L xs σ1) ph else .no
noncomputable def bX(im:IM)(cap:List (Option Nat))(g:GM)(c:TM)(e:EM):EM:=fun σ=>aq (im σ) fun r ph=>aq (du r.2 g c e ph.length r.1 (fA cap σ)) (fun _=>au (.ref ph.length)) (ph++[.lst []])
section
variable{K:Zc}{φ:Nat->Addr}{n:Nat}{H:Hp}
theorem aY.cap{ws:aK}{σ:L2.St}(h:aY K φ n H ws σ):∀(cap:List (Option Nat)),aY K φ n H (fA cap ws) (jg cap σ)
 | []=>.nil
 | o::r=>by
  have ih:=aY.cap h r;unfold fA jg at ih ⊢;rw[ZL,ZL];cases o with
  | none=>exact .nn ih
  | some i=>
   cases q:ws[i]? with
   | none=>simp only[aau,q,Option.join_none];exact .nn ih
   | some o=>
    cases o with
    | none=>simp only[aau,q,Option.join_some];exact .nn ih
    | some w=>
     obtain⟨v,ev,rv⟩:=h.get q;simp only[aau,q,ev,Option.join_some];exact .sm rv ih
theorem MO{L:Nat}{w u:W}{ph ph':PH}(h:dH (.ref L) [w] ph=some (u,ph')):∃ws,ph[L]? =some (.lst ws)/\ws.length<Zt/\ph'=ph.set L (.lst (ws++[w])):=by
 unfold dH at h;simp only at h;split at h
 ·rename_i ws hw;split at h
  ·rename_i hz;cases h;exact⟨ws,hw,hz,rfl⟩
  ·cases h
 ·cases h
end
noncomputable def yx(K:Zc)(m:EM):TE:=fun σ H Q=>∃φ ph ws,aD K φ ph H/\aY K φ ph.length H ws σ/\(m ws ph).Run (fun w ph'=>
 ∀ao H' v,aD K ao ph' H'->Step K φ ph.length H ao ph'.length H'->aJ K ao ph'.length H' w v->Q v H') (fun _ _=>False)
noncomputable def kE(K:Zc)(m:TM):TT:=fun σ H Q=>∃φ ph ws,aD K φ ph H/\aY K φ ph.length H ws σ/\(m ws ph).Run (fun b ph'=>
 ∀ao H',aD K ao ph' H'->Step K φ ph.length H ao ph'.length H'->Q b H') (fun _ _=>False)
noncomputable def yy(K:Zc)(g:GM):TG:=fun v σ H Q=>∃φ ph ws w,aD K φ ph H/\aY K φ ph.length H ws σ/\aJ K φ ph.length H w v/\(g w ws ph).Run (fun cU ph'=>
 ∀ao H' aj,aD K ao ph' H'->Step K φ ph.length H ao ph'.length H'->aY K ao ph'.length H' cU aj->Q aj H') (fun _ _=>False)
section
variable{X:Cx}{e:Expr}
theorem e0{m:EM}(h:IE X e m):PE X e (yx X.K m):=PE.imp h fun _ _ _ ⟨φ,ph,ws,a,b,c⟩=>⟨φ,ph,ws,a,b,c.mono (fun _ _ z=>z) fun _ _ z=>z.elim⟩
theorem t0{m:TM}(h:IT X e m):PT X e (kE X.K m):=PT.imp h fun _ _ _ ⟨φ,ph,ws,a,b,c⟩=>⟨φ,ph,ws,a,b,c.mono (fun _ _ z=>z) fun _ _ z=>z.elim⟩
theorem g0{g:GM}(h:IG X e g):PG X e (yy X.K g):=PG.imp h fun _ _ _ _ ⟨φ,ph,ws,w,a,b,r,c⟩=>⟨φ,ph,ws,w,a,b,r,c.mono (fun _ _ z=>z) fun _ _ z=>z.elim⟩
end
section
variable{X:Cx}{tg iter elt:Expr}{ifs:List Expr}{scope:Scope}{pos:Pos}{N:List Str}{cap:List (Option Nat)}{im:IM}{g:GM}{c:TM}{e:EM}
theorem N6{σ:L2.St}{Q:VK}{av:Nat->Addr}{ph1:PH}{H1:Hp}{ws:aK}{J:It}{items:List W}{chk:PH->Bool}{D:Addr}(aE:aD X.K av ph1 H1)(hS:aY X.K av ph1.length H1 ws σ)(hJ:yp X.K J items chk av ph1.length H1)(hD:H1 D=none)
  (h:(du chk g c e ph1.length items (fA cap ws) (ph1++[.lst []])).Run (fun _ ph'=>∀ao H' v,aD X.K ao ph' H'->Step X.K av ph1.length H1 ao ph'.length H'->aJ X.K ao ph'.length H' (.ref ph1.length) v->Q v H') (fun _ _=>True)) :
  ∃W:Nat->Nat->L2.St->Hp->Prop,(∃m,W 0 m (jg cap σ) (upd H1 D (.lst []))) /\
   ∀i m bE H2,W i m bE H2->(J.stop i H2/\Q (.ref D) H2)\/(J.go i H2/\∀x H3,J.qf i H2 x H3->yy X.K g x bE H3 fun iT H4=>kE X.K c iT H4 fun b H5=>
    if b=true then yx X.K e iT H5 fun v H6=>∃xs,H6 D=some (.lst xs)/\xs.length<Zt/\∃m',m'<m/\W (i+1) m' iT (upd H6 D (.lst (xs++[v]))) else ∃m',m'<m/\W (i+1) m' iT H5):=by
 have nl:=jM (ws:=[]) (vs:=[]) aE .nil hD;have hl:(ph1++[PO.lst []]).length=ph1.length+1:=by simp
 rw[hl] at nl;obtain⟨aX,s2,_⟩:=nl;refine⟨fun i m bE H2=>∃aV ph2 eM,m=(items.drop i).length/\aD X.K aV ph2 H2/\aY X.K aV ph2.length H2 eM bE/\Step X.K (ext av ph1.length D) (ph1.length+1) (upd H1 D (.lst [])) aV ph2.length H2 /\
   (du chk g c e ph1.length (items.drop i) eM ph2).Run (fun _ ph'=>∀ao H' v,aD X.K ao ph' H'->Step X.K aV ph2.length H2 ao ph'.length H'->aJ X.K ao ph'.length H' (.ref ph1.length) v->Q v H') (fun _ _=>True),
  ⟨_,ext av ph1.length D,ph1++[PO.lst []],fA cap ws,rfl,aX,?_,by rw[hl];exact Step.refl,?_⟩,?_⟩
 ·rw[hl];exact(aY.cap (hS.mono s2) cap)
 ·exact Out.Run.mono h (fun _ ph' k ao H' v r' dm rv=>k ao H' v r' (s2.trans (by rw[hl] at dm;exact dm)) rv) fun _ _ _=>trivial
 rintro i m bE H2 ⟨aV,ph2,eM,rfl,yz,iN,cJ,h4⟩;have VM:aV ph1.length=D:=by rw[cJ.eq _ (aaP _),jT]
 cases hd:items.drop i with
 | nil=>
  rw[hd] at h4;unfold du at h4;split at h4
  ·rename_i hc;have hn:items[i]? =none:=by
    have:items.length<=i:=by simpa using hd
    simpa using this
   refine .inl ⟨(hJ aV _ H2 yz (s2.trans cJ) hc i).2 hn,h4 aV H2 _ yz Step.refl ?_⟩;rw[<- VM];exact .ref (Zg (aaP _) cJ.le)
  ·exact h4.elim
 | cons x xs=>
  rw[hd] at h4;unfold du at h4;split at h4
  ·rename_i hc;have hx:items[i]? =some x:=by
    have:=congrArg (fun l=>l[0]?) hd
    simpa using this
   have l8:items.drop (i+1)=xs:=by
    have:=congrArg (fun l=>l.drop 1) hd
    simpa[adC,adh] using this
   obtain⟨ky,hy⟩:=(hJ aV _ H2 yz (s2.trans cJ) hc i).1 x hx;refine .inr ⟨ky,fun v H3 y=>?_⟩;obtain⟨gC,s3,rv⟩:=hy v H3 y;rw[cG] at h4;refine⟨aV,ph2,eM,x,gC,iN.mono s3,rv,(vE h4).mono (fun eN l9 h5 ib H5 dP gY s5 eO=>?_) fun _ _ z=>z⟩;rw[cG] at h5;refine⟨ib,l9,eN,gY,eO,(vE h5).mono (fun t yA h6 GJ H6 FW s6=>?_) fun _ _ z=>z⟩;have yB:=(s3.trans s5).trans s6;have pX:=cJ.trans yB;cases t with
   | false=>
    refine lM ⟨xs.length,by simp,GJ,yA,eN,by rw[l8],FW,eO.mono s6,pX,?_⟩;rw[l8];exact Out.Run.mono h6 (fun _ ph' k ao H' v r' dm q=>k ao H' v r' (yB.trans dm) q) fun _ _ z=>z
   | true=>
    have FX:(aq (cT (e eN)) (fun w=>aq (lift (dH (.ref ph1.length) [w])) fun _=>du chk g c e ph1.length xs eN) yA).Run _ _:=h6;rw[cG] at FX;refine lN ⟨GJ,yA,eN,FW,eO.mono s6,(vE FX).mono (fun w7 WT h7 GK H7 v7 FY s7 r7=>?_) fun _ _ z=>z⟩;rw[cG] at h7;obtain⟨u8,YM,e8,h8⟩:=run_lift h7;obtain⟨YN,hL,hz,rfl⟩:=MO e8;have WU:=yB.trans s7;have DX:=pX.trans s7;have UO:GK ph1.length=D:=by rw[DX.eq _ (aaP _),jT]
    obtain⟨vs,hv,oz⟩:=FY.hp _ _ hL;have cB:ph1.length<WT.length:=(Zb.mp hL).1;obtain⟨q1,q2⟩:=sy FY hL (oz.append (.cons r7 .nil));rw[UO] at hv q1 q2;refine⟨vs,hv,by rw[<- oz.length];exact hz,xs.length,by simp,GK,_,eN,by rw[l8],q1,((eO.mono s6).mono s7).mono q2,DX.trans q2,?_⟩;rw[l8];exact Out.Run.mono h8 (fun _ ph' k ao H' v r' dm q=>k ao H' v r' ((WU.trans q2).trans dm) q) fun _ _ z=>z
  ·exact h4.elim
theorem Bv{σ:L2.St}{H:Hp}{Q:VK}(h:tM X (bX im cap g c e) σ H Q):td (tI X im) cap (yy X.K g) (kE X.K c) (yx X.K e) σ H Q:=by
 obtain⟨φ,ph,ws,hH,hS,h⟩:=h;unfold bX at h;rw[cG] at h;refine⟨φ,ph,ws,hH,hS,h.mono (fun r ph1 h av H1 J aE s1 hJ D hD=>?_) fun _ _ z=>z⟩;rw[cG] at h;exact N6 aE (hS.mono s1) hJ hD (Out.Run.mono h (fun _ ph' k ao H' v r' dm rv=>k ao H' v r' (s1.trans dm) rv) fun _ _ _=>trivial)
theorem PF.imp{t t':TT}(h:PF X ifs t)(k:∀σ H Q,t' σ H Q->t σ H Q):PF X ifs t':=fun pins s σ H Q I q=>h pins s σ H Q I (k σ H Q q)
noncomputable def cm:TM:=fun _=>au true
theorem S2:PF X [] (kE X.K cm):=PF.imp S0 fun σ H Q h=>by
 obtain⟨φ,ph,ws,hH,hS,h⟩:=h;exact h φ H hH Step.refl
theorem S3{cd:Expr}(h:IT X cd c):PF X [cd] (kE X.K c):=S1 (t0 h)
theorem QI(hc:X.calm=true)(cp:jz X N cap scope)(hi:II X tg iter im)(hg:∀cl C aA aL ex,IG (blk X N scope cl C aA aL ex) tg g)(ht:∀cl C aA aL ex,PF (blk X N scope cl C aA aL ex) ifs (kE X.K c))
  (he:∀cl C aA aL ex,IE (blk X N scope cl C aA aL ex) elt e) (hs:∀x,aac iter X.env x=pure x:=by intro _;rfl):IE X (.ListComp elt [⟨tg,iter,ifs,0⟩] scope pos) (bX im cap g c e):=
 PE.imp (QG hc cp hi (fun cl C aA aL ex=>g0 (hg cl C aA aL ex)) ht (fun cl C aA aL ex=>e0 (he cl C aA aL ex)) hs) fun _ _ _ h=>Bv h
theorem QJ{i:Nat}{x:Str}{pos' nQ:Pos}(hN:X.N.Nodup)(kD:X.N[i]? =some x)(hx:X.env.scope.names.lookup x=some .local)
  (hc:X.calm=true) (cp:jz X N cap scope) (hi:II X tg iter im) (hg:∀cl C aA aL ex,IG (blk X N scope cl C aA aL ex) tg g) (ht:∀cl C aA aL ex,PF (blk X N scope cl C aA aL ex) ifs (kE X.K c))
  (he:∀cl C aA aL ex,IE (blk X N scope cl C aA aL ex) elt e) (qm:abw (.ListComp elt [⟨tg,iter,ifs,0⟩] scope pos) (some (.Name x pos')) nQ.line X.env=pure true:=by rfl) (hs:∀x,aac iter X.env x=pure x:=by intro _;rfl) :
  IS X (.Assign [.Name x pos'] (.ListComp elt [⟨tg,iter,ifs,0⟩] scope pos) nQ) (aI (bX im cap g c e) (gN i)):=
 PS.imp (QH hN kD hx qm hc cp hi (fun cl C aA aL ex=>g0 (hg cl C aA aL ex)) ht (fun cl C aA aL ex=>e0 (he cl C aA aL ex)) hs) fun D σ H h=>by
  obtain⟨φ,ph,ws,hH,hS,h⟩:=h;unfold aI at h;rw[cG] at h;exact Bv ⟨φ,ph,ws,hH,hS,h.mono (fun w ph1 h av H1 v aE s1 r1=>h av H1 aE s1 _ ((hS.mono s1).set r1 i)) fun _ _ z=>z⟩
end
noncomputable def tU:List GM->List W->aK->Mo aK
 | [],[],σ=>au σ
 | g::gs,w::ws,σ=>aq (g w σ) fun aj=>tU gs ws aj
 | _,_,_=>c5
noncomputable def gT(gs:List GM):GM:=fun w σ=>match w with
 | .tup ws=>tU gs ws σ
 | _=>c5
noncomputable def qo(X:Cx)(gs:List GM):jq:=fun vs σ H Q=>∃φ ph ws xs,aD X.K φ ph H/\aY X.K φ ph.length H ws σ/\aT X.K φ ph.length H xs vs/\(tU gs xs ws ph).Run (fun cU ph'=>
 ∀ao H' aj,aD X.K ao ph' H'->Step X.K φ ph.length H ao ph'.length H'->aY X.K ao ph'.length H' cU aj->Q aj H') (XE X φ ph.length H)
noncomputable def gS(n:Nat)(gs:List GM):GM:=fun w σ=>match w with
 | .tup ws=>if ws.length=n then tU gs ws σ else c5
 | _=>c5
section
variable{X:Cx}{tg:Expr}{es:List Expr}{g:GM}{gs:List GM}{pos:Pos}
theorem fD.imp{t t':jq}(h:fD X es t)(k:∀v σ H Q,t' v σ H Q->t v σ H Q):fD X es t':=fun pins s σ H v u Q I r q=>h pins s σ H v u Q I r (k v σ H Q q)
theorem QK:fD X [] (qo X []):=fD.imp Qi fun vs σ H Q h=>by
 obtain⟨φ,ph,ws,xs,hH,hS,r,h⟩:=h;cases r with
 | nil=>exact⟨rfl,h φ H σ hH Step.refl hS⟩
 | cons _ _=>exact h.elim
theorem Pf{e:Expr}(h1:IG X e g)(h2:fD X es (qo X gs))(hs:(aaw (e::es) X.env).map (·.2)=adB e X.env::(aaw es X.env).map (·.2):=by rfl):fD X (e::es) (qo X (g::gs)):=
 fD.imp (O3 h1 h2 hs) fun vs σ H Q h=>by
  obtain⟨φ,ph,ws,xs,hH,hS,r,h⟩:=h;cases r with
  | nil=>exact h.elim
  | cons fc rr=>
   refine⟨_,_,rfl,tG.bind hH hS fc h fun iM ph1 av H1 σ1 aE s1 gD h1=>?_⟩;exact⟨av,ph1,iM,_,aE,gD,rr.mono s1,h1.mono (fun cU ph' k ao H' aj r' s' q=>k ao H' aj r' (s1.trans s') q) fun _ _ z=>z⟩
theorem S4{k n:Nat}(hc:X.calm=true)(h:fD X es (qo X gs))(hn:(aaw es X.env).length=n:=by rfl)(dM:(aaw es X.env).findIdx? (·.1)=none:=by rfl):IG X (.Tuple es k pos) (gS n gs):=
 PG.imp (RS hc h hn dM) fun v σ H Q h=>by
  obtain⟨φ,ph,ws,w,hH,hS,r,h⟩:=h;unfold gS at h;cases r with
  | tup hq r=>
   simp only at h;split at h
   ·rename_i hl;exact⟨_,_,rfl,b8.of hq,by rw[<- r.length];exact hl,φ,ph,ws,_,hH,hS,r,h⟩
   ·exact h.elim
  | _=>exact h.elim
noncomputable def E0(o i v:W):Po Unit:=fun ph=>match o,i with
 | .ref r,.int k=>match ph[r]? with
  | some (.lst ws)=>match fX ws.length k with
   | some j=>some ((),ph.set r (.lst (ws.set j v)))
   | none=>none
  | _=>none
 | _,_=>none
end
abbrev OM:=aK->Mo (Option Int)
noncomputable def nz:List W->Po W:=fun xs ph=>match xs with
 | [w]=>match cj w ph with
  | some ws=>some (.ref ph.length,ph++[.lst ws])
  | none=>none
 | _=>none
theorem QL:fQ K (fun xs H Q=>∃p ys,xs=[.ref p]/\(bo K H p ys\/b8 K H p ys)/\∀l,H l=none->Q (.ref l) (upd H l (.lst ys))) nz:=by
 intro φ ph H xs vs w ph' Q hH r e k;unfold nz at e;split at e
 ·split at e
  ·rename_i w0 ws hw;cases e;cases r with
   | cons r r'=>
    cases r';obtain⟨a,ys,rfl,hs,rs⟩:=vC hH r hw;refine⟨a,ys,rfl,hs,fun l hl=>?_⟩;obtain⟨q1,q2,q3⟩:=jM hH rs hl;exact k _ _ _ q1 q2 q3
  ·cases e
 ·cases e
noncomputable def UP:List W->Po W:=fun xs=>match xs with
 | [.int i,.int j]=>ret (.int (if j>i then j else i))
 | _=>eG
noncomputable def UQ:List W->Po W:=fun xs=>match xs with
 | [.int i,.int j]=>ret (.int (if j<i then j else i))
 | _=>eG
noncomputable def S5(f f':W->W->Po W)(a b c:EM):EM:=fun σ=>aq (a σ) fun x=>aq (b σ) fun y=>aq (lift (f x y)) fun z=>match z with
 | .bl k=>if k=true then aq (c σ) fun u=>lift (f' y u) else au (.bl false)
 | _=>c5
structure dN(X:Cx)(N:List Str)(sc:Scope):Prop where
 hN:X.N=N
 iH:∀x,az sc x->az X.env.scope x
 loc:∀x,Loc sc x->Loc X.env.scope x
 gl:∀x,sc.names.lookup x=some .globalImplicit->Gl X x
 fn:∀x,Loc sc x->X.fn x=true\/X.env.scope.names.lookup x=some .local
 nd:N.Nodup
structure fh(X:Cx)(N:List Str)(sc:Scope)(k:Nat):Prop extends dN X N sc where
 calm:X.calm=true
 room:cf k X.A
structure Bd(X:Cx)(N:List Str)(sc:Scope)(k:Nat):Prop extends fh X N sc k where
 xQ:adI (model X.prog X.w) X.A X.env X.xe
section
variable{X:Cx}{N:List Str}{sc:Scope}{k:Nat}{pos:Pos}
theorem dN.var(B:dN X N sc)(i:Nat){x:Str}(hN:N[i]? =some x)(hv:az sc x)(hd:(x==("__debug__":Str))=false)(hcd:(x==("__classdict__":Str))=false):IE X (.Name x pos) (aa i):=
 Sl i (hN:=by rw[B.hN];exact hN) (hv:=B.iH x hv) (hd:=hd) (hcd:=hcd)
theorem dN.name(B:dN X N sc)(i:Nat){x:Str}(hN:N[i]? =some x)(hl:Loc sc x):IG X (.Name x pos) (gN i):=
 Qt (by rw[B.hN];exact B.nd) (by rw[B.hN];exact hN) (B.loc x hl) (B.fn x hl)
theorem dN.set(B:dN X N sc)(i:Nat){x:Str}{e:Expr}{m:EM}{pos':Pos}(hN:N[i]? =some x)(hl:Loc sc x)(he:IE X e m)(hs:abw e (some (.Name x pos')) pos.line X.env=pure false:=by rfl):IS X (.Assign [.Name x pos'] e pos) (aI m (gN i)):=
 Sz (by rw[B.hN];exact B.nd) (by rw[B.hN];exact hN) (B.loc x hl) he hs (B.fn x hl)
theorem Bd.VN(B:Bd X N sc k){iter tg:Expr}{im:IM}{g:GM}{b:SM}{body:List Stmt}(hi:II X tg iter im)(hg:IG X tg g)(hb:gB X body b)(hs:∀x,aac iter X.env x=pure x:=by intro _;rfl):IS X (.For tg iter body [] pos) (d3 im g b):=
 SD B.xQ B.calm hi hg hb hs
theorem Bd.S6(B:Bd X N sc k){c:Expr}{t:TM}{b:SM}{body:List Stmt}(hc:IT X c t)(hb:gB X body b):IS X (.While c body [] pos) (iq t b):=Pa B.xQ hc hb
theorem zD{env:Env}{x:Str}:∀{names:List (Str×abn)},names.lookup x=some .globalImplicit →
  (names.map fun(n,k)=>if(k==Zw&&env.scope.kind==.function&&env.kindOf n==some .cell) then(n,aaH) else(n,k)).lookup x=some .globalImplicit
 | [],h=>by cases h
 | (n,k)::r,h=>by
  show abk x ((if(k==Zw&&env.scope.kind==.function&&env.kindOf n==some .cell)=true then(n,aaH) else(n,k))::_)=_;rw[Zp] at h;cases q:x==n with
  | true=>
   rw[q] at h;cases h;have yC:¬((acP==Zw&&env.scope.kind==.function&&env.kindOf n==some .cell)=true):=by
    rw[show(acP==Zw)=false from rfl,abQ,abQ];exact ZG
   rw[if_neg yC,Zp,q]
  | false=>
   rw[q] at h;have ih:=zD (env:=env) h;split
   ·rw[Zp,q];exact ih
   ·rw[Zp,q];exact ih
theorem Bd.blk(B:Bd X N sc k){N':List Str}{scope:Scope}{cl:List (Str×Addr)}{C:Addr}{aA:Zh}{aL:Hp}{ex:List Addr}(hc:∀y∈scope.names,y.2≠.cell)(nd:N'.Nodup):Bd (blk X N' scope cl C aA aL ex) N' scope k where
 hN:=rfl
 iH:=fun x h=>by
  rcases h with h | h | h
  ·exact .inl (acd (env:=X.env) h)
  ·exact absurd rfl (hc _ (mem_lookup h))
  ·exact .inr (uG (env:=X.env) h)
 loc:=fun x h=>by
  rcases h with h | h
  ·exact .inl (acd (env:=X.env) h)
  ·exact absurd rfl (hc _ (mem_lookup h))
 gl:=fun x h=>zD (env:=X.env) h
 calm:=B.calm
 room:=B.room
 fn:=fun x h=>by
  rcases h with h | h
  ·exact .inr (acd (env:=X.env) h)
  ·exact absurd rfl (hc _ (mem_lookup h))
 xQ:=adk
 nd:=nd
noncomputable def DY(sc scope:Scope)(N N':List Str)(cap:List (Option Nat)):Bool:=
 cap.length==N'.length&&(ZS N'.length).all (fun i=>match cap[i]? with
  | some (some j)=>(match N'[i]? with
   | some x=>N[j]? ==some x&&scope.names.lookup x==some .free&&(sc.names.lookup x==some .cell||sc.names.lookup x==some .free)
   | none=>false)
  | _=>true)&&scope.names.all (fun y=>y.2 != .cell&&(y.2 != .free||sc.names.lookup y.1==some .cell||sc.names.lookup y.1==some .free)&&(y.2 != .local||scope.names.lookup y.1==some .local))&&scope.kind==.function
theorem Bd.cap(hN:X.N=N)(aH:X.env.scope=sc){N':List Str}{scope:Scope}{cap:List (Option Nat)}(h:DY sc scope N N' cap=true):jz X N' cap scope:=by
 unfold DY at h;simp only[Zr,aam,beq_iff_eq,bne_iff_ne,aaN,ne_eq] at h;obtain⟨⟨⟨h1,h2⟩,h3⟩,h4⟩:=h;have hk:∀x,X.env.kindOf x=sc.names.lookup x:=fun x=>by unfold Env.kindOf;rw[aH]
 refine⟨h1,fun i j x e1 e2=>?_,fun y hy hf=>?_,fun y hy=>(h3 y hy).1.1,h4,fun y hy hl=>?_⟩
 ·have hi:i<N'.length:=(Zb.mp e1).1;have:=h2 i (aaq.mpr hi);rw[e2,e1] at this;simp only[Zr,beq_iff_eq,aaN] at this;obtain⟨⟨a1,a2⟩,a3⟩:=this;rw[hN,hk];exact⟨a1,a2,a3⟩
 ·rw[hk]
  rcases(h3 y hy).1.2 with(z | z) | z
  ·exact absurd hf z
  ·exact .inl z
  ·exact .inr z
 ·rcases(h3 y hy).2 with z | z
  ·exact absurd hl z
  ·exact z
end
noncomputable def isStar:Expr->Bool
 | .Starred .. =>true
 | _=>false
theorem ij{e:Expr}{es:List Expr}(h:isStar e=false):ZF (e::es) env=(false,eval e env)::ZF es env:=by
 cases e <;> first | rfl | cases h
noncomputable def dS(es:List Expr):Bool:=es.all fun e=> !isStar e
theorem any_none{env:Env}{pos:Pos}:∀{es:List Expr},dS es=true->(acb pos (ZF es env)).any (·.1)=false
 | [],_=>rfl
 | e::es,h=>by
  unfold dS at h;rw[aaS,Zr] at h;have h1:isStar e=false:=by simpa using h.1
  rw[ij h1];show(false||(acb pos (ZF es env)).any (·.1))=false;rw[any_none (es:=es) h.2];rfl
theorem all_none{env:Env}{pos:Pos}:∀{es:List Expr},dS es=true->(acb pos (ZF es env)).all (fun x=> !x.1)=true
 | [],_=>rfl
 | e::es,h=>by
  unfold dS at h;rw[aaS,Zr] at h;have h1:isStar e=false:=by simpa using h.1
  rw[ij h1];show(!false&&(acb pos (ZF es env)).all (fun x=> !x.1))=true;rw[all_none (es:=es) h.2];rfl
section
variable{X:Cx}{e:Expr}{es:List Expr}{m:EM}{a:AM}{pos:Pos}
theorem VO(h:isStar e=false)(he:IE X e m)(hr:IA X es a):IA X (e::es) (ae m a):=Qx he hr (ij h)
end
section
variable{X:Cx}{k:Nat}{f:Addr}{fd:ZW}{ps:List Str}{fm:List W->Mo W}{x:Str}{p pos:Pos}{e:Expr}{es:List Expr}{a:AM}
theorem S7(hn:dS (e::es)=true)(c9:(x==("__debug__":Str))=false)(F:bP X.prog X.w X.K X.mg X.base (bf X.prog X.w) k f fd ps (bY X.K X.mg ps.length fm))(hl:∀{xs:List W} {ph:PH},xs.length≠ps.length->fm xs ph=.no)(hr:cf k X.A)(hg:Gl X x)(hm:X.mg x=some (.ref f))
  (hk:Zx X.K (.ref f)=true) (hb:Binds X.K fd ps []) (ha:IA X (e::es) a):IE X (.Call (.Name x p) (e::es) [] pos) (a7 fm a):=by
 unfold dS at hn;rw[aaS,Zr] at hn;exact Qz F hl hr hg hm hk hb ha c9 (ij (by simpa using hn.1)) (any_none hn.2)
variable{t:AM}{id T:String}{r:List V->Hp->VK->Prop}{fp:List W->Po W}
theorem S8(bD:dS (e::es)=true)(hn:x≠"__name__")(c9:(x==("__debug__":Str))=false)(hc:cH X (.builtin id) r)(hi:fQ X.K r fp)(hg:Gl X x)(hm:X.mg x=none)(hv:aaz x=some (.builtin id))(ha:IA X (e::es) t):IE X (.Call (.Name x p) (e::es) [] pos) (bG fp t):=by
 unfold dS at bD;rw[aaS,Zr] at bD;exact Pb hc hi hg hm hv ha hn c9 (ij (by simpa using bD.1)) (any_none bD.2)
theorem S9(bD:dS (e::es)=true)(hn:x≠"__name__")(c9:(x==("__debug__":Str))=false)(hc:cH X (.type T) r)(hi:fQ X.K r fp)(hg:Gl X x)(hm:X.mg x=none)(hv:aaz x=some (.type T))(ha:IA X (e::es) t):IE X (.Call (.Name x p) (e::es) [] pos) (bG fp t):=by
 unfold dS at bD;rw[aaS,Zr] at bD;exact N4 hc hi hg hm hv ha hn c9 (ij (by simpa using bD.1)) (any_none bD.2)
end
section
variable{X:Cx}{o e:Expr}{es:List Expr}{mo:EM}{t:AM}{name:Str}{apos dZ:Pos}{T id:String}{r:V->List V->Hp->VK->Prop}{ty:W->PH->Bool}{f:W->List W->Po W}
theorem Ta(bD:dS (e::es)=true)(cu:decide ((e::es).length<30)=true)(pa:adQ T)(slot:Slot T name id)(l7:typeOf (.builtin id)=pure (.type "method_descriptor"))(hm:oi X id r)(ht:ox X.K T ty)(hi:kB X.K T r f)(ho:IE X o mo)(ha:IA X (e::es) t)
  (lD:acM o name X.env (eval o X.env)=eval o X.env:=by rfl) (lE:(apos.endLine==dZ.line)=true:=by rfl):IE X (.Call (.Attribute o name apos) (e::es) [] dZ) (cI ty f mo t):=by
 have xH:=all_none (env:=X.env) (pos:=dZ) bD;unfold dS at bD;rw[aaS,Zr] at bD;refine UJ pa slot l7 hm ht hi ho ha lD ?_ lE (ij (by simpa using bD.1)) (any_none bD.2);rw[xH,show(backToKw dZ (keywordEach [] X.env)).all (fun x=>x.1.isSome)=true from rfl]
 simpa using cu
end
structure JE(X:Cx)(e:Expr)(m:EM):Prop where
 h:IE X e m
structure JT(X:Cx)(e:Expr)(m:TM):Prop where
 h:IT X e m
structure JW(X:Cx)(e:Expr)(m:TM):Prop where
 h:PW X e (tT X m)
structure JA(X:Cx)(es:List Expr)(m:AM):Prop where
 h:IA X es m
structure JS(X:Cx)(st:Stmt)(m:SM):Prop where
 h:IS X st m
structure JB(X:Cx)(st:List Stmt)(m:SM):Prop where
 h:gB X st m
structure JG(X:Cx)(e:Expr)(g:GM):Prop where
 h:IG X e g
structure ui(X:Cx)(es:List Expr)(gs:List GM):Prop where
 h:fD X es (qo X gs)
structure JI(X:Cx)(tg iter:Expr)(im:IM):Prop where
 h:II X tg iter im
structure JF(X:Cx)(ifs:List Expr)(c:TM):Prop where
 h:PF X ifs (kE X.K c)
section
variable{X:Cx}{N:List Str}{sc:Scope}{k:Nat}{a b c e o:Expr}{es rest:List Expr}{ma mb mc m mo:EM}{ta tb t:TM}{am:AM}{sa sb:SM}{st:Stmt}{as bs body:List Stmt}{p p2 pos pos':Pos}{g:GM}{gs:List GM}{im:IM}{tg iter:Expr}
theorem dN.VP(B:dN X N sc)(i:Nat){x:Str}(hN:N[i]? =some x)(hv:az sc x)(hd:(x==("__debug__":Str))=false)(hcd:(x==("__classdict__":Str))=false):JE X (.Name x pos) (aa i):=⟨B.var i hN hv hd hcd⟩
variable{j:Nat}
theorem ap{i:Int}:JE X (.Constant (.int i) j pos) (eC (.int i)):=⟨Sn⟩
theorem a8{x:Str}:JE X (.Constant (.str x) j pos) (eC (.str x)):=⟨So⟩
theorem UR{x:Bool}:JE X (.Constant (.bool x) j pos) (eC (.bl x)):=⟨Uz⟩
theorem wC:JE X (.Constant .none j pos) (eC .aG):=⟨Sq⟩
theorem wD(ha:JE X a ma):JE X (.UnaryOp .USub a pos) (om lR ma):=⟨UA R6 SK ha.h⟩
theorem dX(ha:JE X a ma)(hb:JE X b mb):JE X (.BinOp a .Add b pos) (ab addW ma mb):=⟨pG QB SS ha.h hb.h⟩
theorem lA(ha:JE X a ma)(hb:JE X b mb):JE X (.BinOp a .Sub b pos) (ab fS ma mb):=⟨pG R4 SN ha.h hb.h⟩
theorem cc(ha:JE X a ma)(hb:JE X b mb):JE X (.BinOp a .Mod b pos) (ab a9 ma mb):=⟨pG Qk SO ha.h hb.h⟩
theorem dr(ha:JE X a ma)(hb:JE X b mb):JE X (.BinOp a .FloorDiv b pos) (ab bU ma mb):=⟨pG Pe SQ ha.h hb.h⟩
structure Cp(X:Cx)(op:CmpOp)(b:Expr)(f:W->W->Po W):Prop where
 ex:∃r,bu X (aaM op) r/\da X.K r f
 bm:aaQ op b=false
theorem pH:Cp X .Lt b iQ:=⟨⟨_,Ur,CW⟩,pD _⟩
theorem xj:Cp X .Gt b f6:=⟨⟨_,Us,CW⟩,pD _⟩
theorem fh.eq(B:fh X N sc k):Cp X .Eq b aQ:=⟨⟨_,SV B.room.units,UK⟩,pD _⟩
theorem fh.ne(B:fh X N sc k):Cp X .NotEq b ff:=⟨⟨_,SW B.room.units,UL⟩,pD _⟩
theorem US:Cp X .Is b jf:=⟨⟨_,R8,SU⟩,pD _⟩
theorem lB{op:CmpOp}{f:W->W->Po W}(hc:Cp X op b f)(ha:JE X a ma)(hb:JE X b mb):JE X (.Compare a [op] [b] pos) (ab f ma mb):=let ⟨_,h1,h2⟩:=hc.ex;⟨Sr h1 h2 ha.h hb.h hc.bm⟩
theorem bh{op:CmpOp}{f:W->W->Po W}(hc:Cp X op b f)(ha:JE X a ma)(hb:JE X b mb):JT X (.Compare a [op] [b] pos) (eT (ab f ma mb)):=let ⟨_,h1,h2⟩:=hc.ex;⟨Ss h1 h2 ha.h hb.h hc.bm⟩
theorem wF{op:BoolOp}(ha:JE X a ma):JE X (.BoolOp op [a] pos) ma:=⟨Sx ha.h⟩
theorem CY(ha:JE X a ma)(hb:JE X (.BoolOp .And (b::rest) pos) mb):JE X (.BoolOp .And (a::b::rest) pos) (pV ma mb):=⟨Sw ha.h hb.h⟩
theorem UT(ha:JE X a ma)(hb:JE X (.BoolOp .Or (b::rest) pos) mb):JE X (.BoolOp .Or (a::b::rest) pos) (ue ma mb):=⟨UE ha.h hb.h⟩
theorem iY{op:BoolOp}(ha:JT X a ta):JW X (.BoolOp op [a] pos) ta:=⟨Su ha.h⟩
theorem lC(ha:JT X a ta)(hb:JW X (.BoolOp .And (b::rest) pos) tb):JW X (.BoolOp .And (a::b::rest) pos) (dJ ta tb):=⟨Sv ha.h hb.h⟩
theorem pI(ha:JT X a ta)(hb:JW X (.BoolOp .Or (b::rest) pos) tb):JW X (.BoolOp .Or (a::b::rest) pos) (d0 ta tb):=⟨UD ha.h hb.h⟩
theorem jh(h:JW X a ta):JT X a ta:=⟨h.h.pt⟩
theorem ax:JA X [] ak:=⟨SG⟩
theorem ah(h:isStar e=false)(he:JE X e m)(hr:JA X es am):JA X (e::es) (ae m am):=⟨VO h he.h hr.h⟩
theorem c7{x1:Nat}(h:JA X es am):JE X (.Tuple es x1 pos) (bT am):=⟨SH h.h⟩
theorem dt(h:JA X es am):JE X (.List es pos) (bJ am):=⟨SI h.h⟩
theorem dc:JB X [] cM:=⟨Qq⟩
theorem aN{rs:List Stmt}(h1:JS X st sa)(h2:JB X rs sb):JB X (st::rs) (aC sa sb):=⟨O9 h1.h h2.h⟩
theorem aR(h1:JS X st sa):JB X [st] sa:=⟨Qr h1.h⟩
theorem bK(he:JE X e m):JS X (.Return (some e) pos) (bt m):=⟨Sy he.h⟩
noncomputable def wG:Expr->Bool
 | .ListComp .. =>false | .SetComp .. =>false | .DictComp .. =>false
 | _=>true
theorem Bw{x:Option Expr}{n:Nat}{env:Env}(h:wG e=true):abw e x n env=pure false:=by
 cases e <;> first | rfl | cases h
theorem jQ(hn:wG e=true)(he:JE X e m):JS X (.Expr e pos) (eV m):=⟨Qs he.h (Bw hn)⟩
theorem ce(hc:JT X c t)(ha:JB X as sa)(hb:JB X bs sb):JS X (.If c as bs pos) (bI t sa sb):=⟨UG hc.h ha.h hb.h⟩
theorem dN.bB(B:dN X N sc)(i:Nat){x:Str}(hN:N[i]? =some x)(hl:Loc sc x)(hn:wG e=true)(he:JE X e m):JS X (.Assign [.Name x pos'] e pos) (aI m (gN i)):=⟨B.set i hN hl he.h (Bw hn)⟩
theorem iZ(he:JE X e m)(hg:JG X tg g)(hs:swapsWithSole [tg] e pos.line X.env=pure false:=by rfl)(hw:swappedStores [tg] e X.env=pure none:=by rfl)
  (h1:(aaw [tg] X.env).map (·.2)=[adB tg X.env]:=by rfl):JS X (.Assign [tg] e pos) (aI m g):=⟨SA he.h hg.h hs hw h1⟩
theorem dN.cN(B:dN X N sc)(i:Nat){x:Str}(hN:N[i]? =some x)(hl:Loc sc x):JG X (.Name x pos) (gN i):=⟨B.name i hN hl⟩
theorem vY:ui X [] []:=⟨QK⟩
theorem mT(h1:JG X e g)(h2:ui X es gs)(hs:(aaw (e::es) X.env).map (·.2)=adB e X.env::(aaw es X.env).map (·.2):=by rfl):ui X (e::es) (g::gs):=⟨Pf h1.h h2.h hs⟩
theorem wH{n:Nat}(hc:X.calm=true)(h:ui X es gs)(hn:(aaw es X.env).length=n:=by rfl)(dM:(aaw es X.env).findIdx? (·.1)=none:=by rfl):JG X (.Tuple es j pos) (gS n gs):=⟨S4 hc h.h hn dM⟩
theorem Bd.iD(B:Bd X N sc k)(hi:JI X tg iter im)(hg:JG X tg g)(hb:JB X body sb)(hs:∀x,aac iter X.env x=pure x:=by intro _;rfl):JS X (.For tg iter body [] pos) (d3 im g sb):=⟨B.VN hi.h hg.h hb.h hs⟩
theorem Bd.CZ(B:Bd X N sc k)(hc:JT X c t)(hb:JB X body sb):JS X (.While c body [] pos) (iq t sb):=⟨B.S6 hc.h hb.h⟩
theorem iV(hg:Gl X "range")(hm:X.mg "range"=none)(hn:isStar a=false)(ha:JA X [a] am):JI X tg (.Call (.Name "range" p) [a] [] pos) (cV am):=⟨N2 hg hm ha.h (ij hn)⟩
theorem b7{k:Nat}{f:Addr}{fd:ZW}{ps:List Str}{fm:List W->Mo W}{x:Str}(hn:dS (e::es)=true)(c9:(x==("__debug__":Str))=false)(F:bP X.prog X.w X.K X.mg X.base (bf X.prog X.w) k f fd ps (bY X.K X.mg ps.length fm))(hl:∀{xs:List W} {ph:PH},xs.length≠ps.length->fm xs ph=.no)(hr:cf k X.A)(hg:Gl X x)(hm:X.mg x=some (.ref f))
  (hk:Zx X.K (.ref f)=true) (hb:Binds X.K fd ps []) (ha:JA X (e::es) am):JE X (.Call (.Name x p) (e::es) [] pos) (a7 fm am):=⟨S7 hn c9 F hl hr hg hm hk hb ha.h⟩
theorem i0{x:Str}{id:String}{r:List V->Hp->VK->Prop}{fp:List W->Po W}(bD:dS (e::es)=true)(hn:x≠"__name__")(c9:(x==("__debug__":Str))=false)(hc:cH X (.builtin id) r)(hi:fQ X.K r fp)(hg:Gl X x)(hm:X.mg x=none)(hv:aaz x=some (.builtin id))(ha:JA X (e::es) am):JE X (.Call (.Name x p) (e::es) [] pos) (bG fp am):=⟨S8 bD hn c9 hc hi hg hm hv ha.h⟩
theorem nh{x:Str}{T:String}{r:List V->Hp->VK->Prop}{fp:List W->Po W}(bD:dS (e::es)=true)(hn:x≠"__name__")(c9:(x==("__debug__":Str))=false)(hc:cH X (.type T) r)(hi:fQ X.K r fp)(hg:Gl X x)(hm:X.mg x=none)(hv:aaz x=some (.type T))(ha:JA X (e::es) am):JE X (.Call (.Name x p) (e::es) [] pos) (bG fp am):=⟨S9 bD hn c9 hc hi hg hm hv ha.h⟩
theorem eD{name:Str}{T id:String}{r:V->List V->Hp->VK->Prop}{ty:W->PH->Bool}{f:W->List W->Po W}(bD:dS (e::es)=true)(cu:decide ((e::es).length<30)=true)(pa:adQ T)(slot:Slot T name id)(l7:typeOf (.builtin id)=pure (.type "method_descriptor"))(hm:oi X id r)(ht:ox X.K T ty)(hi:kB X.K T r f)(ho:JE X o mo)(ha:JA X (e::es) am)
  (lD:acM o name X.env (eval o X.env)=eval o X.env:=by rfl) (lE:(p.endLine==pos.line)=true:=by rfl):JE X (.Call (.Attribute o name p) (e::es) [] pos) (cI ty f mo am):=⟨Ta bD cu pa slot l7 hm ht hi ho.h ha.h lD lE⟩
theorem ir:JF X [] cm:=⟨S2⟩
theorem wI(h:JT X c t):JF X [c] t:=⟨S3 h.h⟩
theorem lw{scope:Scope}{ifs:List Expr}{N':List Str}{cap:List (Option Nat)}(hc:X.calm=true)(cp:jz X N' cap scope)(hi:JI X tg iter im)(hg:∀cl C aA aL ex,JG (blk X N' scope cl C aA aL ex) tg g)(ht:∀cl C aA aL ex,JF (blk X N' scope cl C aA aL ex) ifs t)
  (he:∀cl C aA aL ex,JE (blk X N' scope cl C aA aL ex) e m) (hs:∀x,aac iter X.env x=pure x:=by intro _;rfl):JE X (.ListComp e [⟨tg,iter,ifs,0⟩] scope pos) (bX im cap g t m):=
 ⟨QI hc cp hi.h (fun cl C aA aL ex=>(hg cl C aA aL ex).h) (fun cl C aA aL ex=>(ht cl C aA aL ex).h) (fun cl C aA aL ex=>(he cl C aA aL ex).h) hs⟩
theorem mY{scope:Scope}{ifs:List Expr}{N':List Str}{cap:List (Option Nat)}{i:Nat}{x:Str}(hN:X.N.Nodup)(kD:X.N[i]? =some x)(hx:X.env.scope.names.lookup x=some .local)
  (hc:X.calm=true) (cp:jz X N' cap scope) (hi:JI X tg iter im) (hg:∀cl C aA aL ex,JG (blk X N' scope cl C aA aL ex) tg g) (ht:∀cl C aA aL ex,JF (blk X N' scope cl C aA aL ex) ifs t)
  (he:∀cl C aA aL ex,JE (blk X N' scope cl C aA aL ex) e m) (qm:abw (.ListComp e [⟨tg,iter,ifs,0⟩] scope p) (some (.Name x pos')) pos.line X.env=pure true) (hs:∀x,aac iter X.env x=pure x:=by intro _;rfl) :
  JS X (.Assign [.Name x pos'] (.ListComp e [⟨tg,iter,ifs,0⟩] scope p) pos) (aI (bX im cap g t m) (gN i)):=
 ⟨QJ hN kD hx hc cp hi.h (fun cl C aA aL ex=>(hg cl C aA aL ex).h) (fun cl C aA aL ex=>(ht cl C aA aL ex).h) (fun cl C aA aL ex=>(he cl C aA aL ex).h) qm hs⟩
end
open PySem PySem.Spec PyProof.Rows L2 PySem.W Builtin.ObjectAttr Builtin.Getset_descriptor
noncomputable def yD(x:XC):Mo α:=fun ph=>.ex x ph
open PySem PySem.Spec PyProof.Rows L2 PySem.W
structure dg(X:Cx):Prop where
 st:X.stack=X.env::X.outer
 fr:X.env.frame=some X.env.locals
 ex:X.ex=[]
theorem Ph(ha:H a=none):Step K φ n H φ n (upd H a o):=by
 refine⟨Zf _,fun _ _=>rfl,fun c xs h=>?_,fun c ob u h=>by rw[aM (fun z=>by rw[z,ha] at h;cases h)];exact h⟩;rw[aM (fun z=>by rw[z,ha] at h;cases h)];exact h
theorem Bx(h:aD K φ ph H)(ha:H a=none):aD K φ ph (upd H a o):=
 ⟨fun i p e=>by
  obtain⟨x,hx,_⟩:=h.at (Zb.mp e).1;exact(h.hp i p e).mono (Ph ha) (aM fun z=>by rw[z,ha] at hx;cases hx),h.inj,fun p hm=>(h.tb p hm).new ha⟩
noncomputable def qp(ph:PH)(x y:W):Option Nat:=match(if cz x ph=true then cj x ph else none),dat ph 40 y with
 | some ws,some dy=>(bc (dat ph 40) ws).bind fun ds=>ds.findIdx? fun d=>ZV d dy
 | _,_=>none
noncomputable def nj(x:W)(ys:List W):Po W:=fun ph=>match ys with
 | [y]=>(qp ph x y).map fun(j:Nat)=>(W.int ((j:Nat):Int),ph)
 | _=>none
noncomputable def C0(K:Zc):V->List V->Hp->VK->Prop:=fun x ys H Q=>∃(φ:Nat->Addr) (ph:PH) (wx wy:W) (y:V) (j:Nat),ys=[y]/\aD K φ ph H/\aJ K φ ph.length H wx x/\aJ K φ ph.length H wy y/\qp ph wx wy=some j/\Q (.int j) H
theorem C1{X:Cx}{pins:List (Addr×Obj)}{σ:L2.St}{H:Hp}{s:Zh}{φ:Nat->Addr}{ph:PH}(I:Inv X pins σ H s)(hH:aD X.K φ ph H){dx:aby}:∀{ws:List W} {vs:List V} {us:List Value} {ds:List aby},aT X.K φ ph.length H ws vs->Vals vs us->bc (dat ph 40) ws=some ds →
  us.findIdx? (i9 s dx)=ds.findIdx? fun d=>ZV d dx
 | _,_,_,_,.nil,.nil,e=>by cases e;rfl
 | w::ws,_,_,ds,.cons h r,.cons hv rv,e=>by
  unfold bc at e;split at e
  ·rename_i b bs e1 e2;cases e;have q:=jI I hH 40 h hv e1;rw[List.findIdx?_cons,List.findIdx?_cons,C1 I hH r rv e2,sA q]
  ·cases e
theorem QM{x:W}(hH:aD K φ ph H)(r:aJ K φ ph.length H x v)(h:cz x ph=true)(e:cj x ph=some ws):∃a vs,v=.ref a/\bo K H a vs/\aT K φ ph.length H ws vs:=by
 unfold cz at h;unfold cj at e;cases r with
 | fl hq r=>cases e;exact⟨_,_,rfl,hq.sq,r⟩
 | ref hi=>
  simp only at e;split at e
  ·rename_i cU hw;cases e;obtain⟨vs,hv,r⟩:=hH.hp _ _ hw;exact⟨_,vs,rfl,bo.of hv,r⟩
  ·cases e
 | _=>cases h
theorem Pj(hu:X.A.units+64<cLine):oi X "list.index" (C0 X.K):=by
 intro pins s σ H x xs v us Q I rx rv h;obtain⟨φ,ph,wx,wy,y,j,rfl,hH,r1,r2,e,q⟩:=h;obtain⟨u,rfl,ru⟩:=rv.one;unfold qp at e;split at e
 ·rename_i ws dy hs hd;have hL:cz wx ph=true:=by
   cases z:cz wx ph with
   | true=>rfl
   | false=>rw[z,if_neg ZG] at hs;cases hs
  rw[if_pos hL] at hs;obtain⟨ds,e1,e2⟩:=acQ.mp e;obtain⟨a,vs,rfl,hq,rs⟩:=QM hH r1 hL hs;cases rx;obtain⟨its,oz,⟨o,n,ho,hc,YO,qq⟩,hz⟩:=I.list hq;obtain⟨oc,od,WV,eZ⟩:=o;cases(show oc=_ from hc);cases(show WV=_ from qq);obtain⟨⟨as,k1⟩,c1,l1⟩:=jI I hH 40 r2 ru hd;have q2:=(vX I hH (dx:=dy) rs oz e1).2;rw[<- C1 I hH rs oz e1,List.findIdx?_eq_some_iff_getElem] at e2;obtain⟨hj,hit,yC⟩:=e2;have cu:its.length<=sizeLine:=by rw[<- oz.length];exact hz
  refine acE F.slot_list_index ⟨_,ho,rfl⟩ F.entry_list_index (F.args_list_index_2 _ _) (SeqAt.list_indexAt a its.toArray n od eZ u (i9 s dy) j (by simpa using hj) ?_ (by simpa using hit) fun m hm WW=>?_) ⟨ho,fun z yE=>?_,.int _,H,I.tok _,⟨_,rfl⟩,q⟩
  ·have:(j:Int)<its.length:=by exact_mod_cast hj
   have h2:((its.length:Nat):Int)<=(Zt:Nat):=by exact_mod_cast cu
   have h3:((Zt:Nat):Int)<=2 ^ 62:=by rw[sizeLine_eq];decide
   omega
  ·have:=yC m WW
   simpa using this
  ·obtain⟨d,jp⟩:=q2 z (by simpa using yE);rw[sA jp];obtain⟨⟨bs,k2⟩,c2,l2⟩:=jp;intro prog w E Q hQ;exact ady prog w _ E s z u d dy bs as Q k2 k1 c2 c1 (by show X.A.units+1+_<_;omega) hQ
 ·cases e
theorem Pk:kB K "list" (C0 K) nj:=by
 intro φ ph H x xs vx vs w ph' Q hH rx rs e k;unfold nj at e;split at e
 ·obtain⟨j,e1,e2⟩:=Zn.mp e;cases e2;cases rs with
  | cons r0 r1=>
   cases r1;exact⟨φ,ph,x,_,_,j,rfl,hH,rx,r0,e1,k φ H _ hH Step.refl (.int _)⟩
 ·cases e
variable{P:aah}
theorem dW{w:World}{mg:Str->Option Value}{base:Heap}{x qual:Str}{st:Stmt}{f:Addr}{fd:ZW}{N ps:List Str}{k np:Nat}{body:SM}(hn:N.length=n)(hp:ps.length=np)(F:cy K x qual st f fd)(S:cF N ps (af st))
  (i8:∀{X:Cx},X.prog=P->X.w=w->X.K=K->X.mg=mg->X.base=base->Bd X N (af st) k->dg X->X.env.scope=af st->JB X (a6 st) body):bP P w K mg base (bf P w) (k+1) f fd ps (bY K mg np (fM body n np)):=by
 subst hn hp;exact SJ F S fun ba A outer s H E hr=>(i8 (X:=df (bf P w) P w K mg base N qual (af st) f ba A outer s H E) rfl rfl rfl rfl rfl ⟨⟨⟨rfl,fun _ z=>z,fun _ z=>z,fun _ z=>z,fun _ _=>.inl rfl,S.nd⟩,rfl,hr⟩,adT⟩ ⟨rfl,rfl,rfl⟩ rfl).h
noncomputable def gM(o:Obj):Option Addr:=match o.cls,o.data with
 | .type t,.fields vs=>if t="code" then(match(vs[11]? :Option Value),vs.getD 18 .none,vs.getD 7 .none,vs.getD 9 .none,vs.getD 10 .none with
  | some (.ref P),.str _ _,.int _ _,.bool _,.int _ _=>some P
  | _,_,_,_,_=>none) else none
 | _,_=>none
theorem AX{h:Heap}{c P:Addr}{o:Obj}(e:h.get? c=some o)(t:gM o=some P)(hn:c≠P):abz h c P:=by
 unfold gM at t;split at t
 ·rename_i t0 vs h1 h2;split at t
  ·rename_i ht;split at t
   ·rename_i P' f tf fl tg b tx tt g1 g2 g3 g4 g5;cases t;refine⟨o,vs,f,tf,fl,tg,b,tx,tt,e,by rw[h1,ht],h2,g1,?_,g2,g3,g4,g5,hn⟩;rw[Array.getD_eq_getD_getElem?,g1];rfl
   ·cases t
  ·cases t
 ·cases t
noncomputable def lH(K:Zc)(b:Addr):Bool:=(dh K).any fun p=>p.2.2==b
theorem By{b:Addr}(h:lH K b=true):∃p∈dh K,p.2.2=b:=by
 obtain⟨p,h1,h2⟩:=aca.mp h;exact⟨p,h1,eq_of_beq h2⟩
theorem N7{p:Str×Addr×Addr}(h:p∈dh K):lH K p.2.2=true:=aca.mpr ⟨p,h,beq_self_eq_true _⟩
noncomputable def H0(K:Zc)(a:Addr)(o:Obj)(xs:List V):Hp:=fun b=>if lH K b=true then some (.cx #[]) else if b=a/\K.lookup a=none then some (.aO o (.lst xs)) else none
section
variable{Pg:aah}{w:World}{K:Zc}{mg mb:Str->Option Value}{k:Nat}{fa a:Addr}{fd:ZW}{x:Str}{bg:Zh}{vs:List Value}{ns:List Int}{fm:List W->Mo W}
theorem Pl(KX:K.In bg.heap)(bD:bg.heap.Ns Zo mg)(hb:bg.heap.Ns ace mb)(me:∀x:Str,x≠"__name__"->mb x=aaz x)(VQ:bg.heap.NoLimit)
  (WX:∃bm ob,mg "__builtins__"=some (.ref bm)/\bm≠ace/\bg.heap.get? bm=some ob/\ob.cls=.type "module"/\ob.dict=some ace/\ob.data=.plain) (hg:bg.gens= #[])
  (hT:∀p∈dh K,abz bg.heap p.2.1 p.2.2/\bg.heap.get? p.2.2=some (aaJ #[])) (hK:adD K=true)
  (ha:bg.heap.get? a=some { cls:=.type "list",data:=.seq vs.toArray }) (hi:adf vs ns) (hl:ns.length<=63) (hr:cf k callerA)
  (F:∀base:Heap,K.In base->base.Ns Zo mg->bP Pg w K mg base (bf Pg w) k fa fd [x] (bY K mg 1 fm)) (UU:∀(s:Zh) (u:Value),BindsTo s fd ⟨[u],[]⟩ [(x,u)])
  (good:∃ph',fm [.fl (ns.map W.int)] []=.ok (.bl true) ph') :
  codeAny (model Pg w) callerA (.call (.ref fa) ⟨[.ref a],[]⟩) (fun r s'=>r=.ok (.ret (.bool true))/\OldK bg.heap s'.heap/\s'.os=bg.os/\acK s'.gens) bg:=by
 have rv:=AU hi;have VR:=hi.length;have gW:ns.length<=sizeLine:=Zq hl (by decide);have tabOf:∀{b:Addr},lH K b=true->bg.heap.get? b=some (aaJ #[]):=fun h=>by
  obtain⟨p,h1,rfl⟩:=By h;exact(hT p h1).2
 have free:∀{b:Addr} {o:Obj},bg.heap.get? b=some o->o≠aaJ #[]->(b=a->K.lookup a≠none)->H0 K a { cls:=.type "list",data:=.seq vs.toArray } (ns.map V.int) b=none:=fun{b o} e n1 n2=>by
  unfold H0;rw[if_neg (fun h=>n1 (ZX (e.symm.trans (tabOf h)))),if_neg (fun h=>n2 h.1 h.2)]
 have xk:∀{b:Addr} {o:Obj},bg.heap.get? b=some o->o.cls≠.none->o.cls≠.type "list"->H0 K a { cls:=.type "list",data:=.seq vs.toArray } (ns.map V.int) b=none:=fun{b o} e n1 n2=>free e (fun z=>n1 (by rw[z])) fun z=>by
  subst z;rw[ha] at e;cases e;exact absurd rfl n2
 have xl:∀{b:Addr} {o:Obj} {es:Array DictEntry} {ep:Nat},bg.heap.get? b=some o->o.data=.dict es ep->H0 K a { cls:=.type "list",data:=.seq vs.toArray } (ns.map V.int) b=none:=fun{b o es ep} e d=>free e (fun z=>by rw[z] at d;cases d) fun z=>by
  subst z;rw[ha] at e;cases e;have d':Data.seq vs.toArray _=Data.dict es ep:=d;cases d'
 have na:lH K a=false:=by
  cases q:lH K a with
  | false=>rfl
  | true=>have:=tabOf q;rw[ha] at this;cases this
 revert free xk xl
 generalize eH:H0 K a { cls:=.type "list",data:=.seq vs.toArray } (ns.map V.int)=H;intro free xk xl;have C2:∀b u,H b=some u->(lH K b=true/\u=.cx #[])\/(b=a/\u=.aO { cls:=.type "list",data:=.seq vs.toArray } (.lst (ns.map V.int))):=fun b u e=>by
  rw[<- eH] at e;unfold H0 at e;split at e
  ·rename_i h;cases e;exact .inl ⟨h,rfl⟩
  ·split at e
   ·rename_i h;cases e;exact .inr ⟨h.1,rfl⟩
   ·cases e
 have ay:bQ Pg w H bg.heap:=fun b u e=>by
  rcases C2 b u e with⟨h,rfl⟩ | ⟨rfl,rfl⟩
  ·exact tabOf h
  ·exact⟨ha,by rw[Zd];exact gW,vs,_,rv,ha⟩
 have tb:∀p∈dh K,gR H p.1 p.2.2:=fun p hp=>⟨#[],by rw[<- eH];exact if_pos (N7 hp),trivial,fun pos v e=>nomatch e⟩
 have hS:tN K H a (ns.map V.int):=by
  cases q:K.lookup a with
  | some o=>
   have e:=KX a o q;rw[ha] at e;cases e;exact .inr ⟨_,vs.toArray,_,q,rfl,rfl,rfl,by rw[Zs,VR];exact gW,by simpa using rv⟩
  | none=>exact .inl ⟨_,by rw[<- eH];unfold H0;rw[if_neg (by rw[na];simp),if_pos ⟨rfl,q⟩]⟩
 have yF:∀{b:Addr} {o:Obj},bg.heap.get? b=some o->H b=none->(jd bg.heap H).get? b=some o:=fun e n=>O1 e n
 have uj:∀{b:Addr} {m:Str->Option Value},bg.heap.Ns b m->(jd bg.heap H).Ns b m:=fun{b m} ⟨o,es,ep,e,d,r⟩=>⟨o,es,ep,yF e (xl e d),d,r⟩
 have FZ:K.In (jd bg.heap H):=fun b o e=>yF (KX b o e) (free (KX b o e) (fun z=>by
  have h2:=aam.mp hK (b,o) (PySem.W.mem_of_lookupK e);subst z;exact absurd (show false=true from h2) ZG) fun z q=>by rw[<- z,e] at q;cases q)
 have hM:Mod K mg (jd bg.heap H):=⟨FZ,uj bD,⟨mb,uj hb,me⟩,let ⟨mc,h1,h2⟩:=VQ;⟨mc,uj h1,h2⟩,
  let ⟨bm,ob,b1,b2,b3,b4,b5⟩:=WX;⟨bm,ob,b1,b2,yF b3 (xk b3 (by rw[b4];exact fun z=>nomatch z) (by rw[b4];exact fun z=>absurd (Value.type.inj z) (by decide))),b4,b5⟩⟩
 have e0:pS Pg w K mg (jd bg.heap H) callerA [] bg H:=⟨rfl,hM,fun b o e=>Qb e,Nat.le_of_eq (NS _ _),trivial,fun b hb=>absurd (show b∈([]:List Addr) from hb) (by simp),ay,.of_eq hg⟩
 obtain⟨ph',eg⟩:=good;refine abW ((F _ FZ (uj bD)).run callerA [] bg H ⟨[.ref a],[]⟩ [.ref a] [.ref a] (fun v _=>v=.bl true) (fun _ _ _=>False) hr e0 (UU bg (.ref a)) (.cons rfl .nil)
  ⟨rfl,fun _=>0,[],[.fl (ns.map W.int)],⟨fun i o e=>by simp at e,fun i j hi=>absurd hi (by simp),tb⟩,.cons (.fl hS (B5 ns)) .nil,?_⟩) fun r s' h=>?_
 ·rw[eg];intro ao H' v _ _ r;cases r;rfl
 ·cases r with
  | error e=>obtain⟨_,_,_,z⟩:=h;exact z.elim
  | ok fl=>
   cases fl with
   | next=>exact abo h
   | brk=>exact abo h
   | cont=>exact abo h
   | ret u=>
    obtain⟨v,H',os,bare,un,tV,r',q⟩:=h;have q':v=.bl true:=q;subst q';obtain rfl:u=Value.bool true:=r';refine⟨rfl,⟨fun b o e=>?_,fun b o e=>un.there b o e (by simp)⟩,os,bare⟩;cases q:H b with
    | none=>exact .inl (un.keep b o e q (fun z=>absurd (show b∈([]:List Addr) from z) (by simp)) (by simp))
    | some u=>
     rcases C2 b u q with⟨h1,rfl⟩ | ⟨rfl,rfl⟩
     ·obtain⟨more,z⟩:=un.ee b _ q;have e2:s'.heap.get? b=some (aaJ (#[]++more)):=tV b _ z;obtain⟨p,hp,rfl⟩:=By h1;have e3:=(hT p hp).2;rw[e] at e3;cases e3;exact .inr (.inl ⟨((hT p hp).1.tab (hT p hp).2).isCodeTable,rfl,#[],more,rfl,e2⟩)
     ·obtain⟨e2,_⟩:=tV _ _ (un.dz _ _ _ q);rw[ha] at e;cases e;exact .inl e2
end
noncomputable def Tc(K:Zc)(ts:List Addr):Bool:=(dh K).all fun p=>ts.contains p.2.2&&(match K.lookup p.2.1 with
 | some o=>gM o==some p.2.2
 | none=>false)&& !(p.2.1==p.2.2)
theorem QN{ts:List Addr}{h:Heap}(hT:Tc K ts=true)(KX:K.In h)(hP:∀P∈ts,h.get? P=some (aaJ #[]))(p:Str×Addr×Addr)(hp:p∈dh K):abz h p.2.1 p.2.2/\h.get? p.2.2=some (aaJ #[]):=by
 have z:=aam.mp hT p hp;rw[Zr,Zr] at z;obtain⟨⟨z1,z2⟩,z3⟩:=z;refine⟨?_,hP _ (List.contains_iff_mem.mp z1)⟩;cases e:K.lookup p.2.1 with
 | none=>rw[e] at z2;cases z2
 | some o=>
  rw[e] at z2;exact AX (KX _ _ e) (eq_of_beq z2) fun q=>by rw[q] at z3;simp at z3
theorem QO{l:adl}{q:aah}{loose:List Str}{XP:(Str->Option Value)->Heap->Prop}{YP:World->Heap->Prop}{d:DefRec}{K:Params->Zc}{x:Str}{fm:List W->Mo W}(k:Nat)
  (good:∀ns:List Int,ns.length<=63->∃ph',fm [.fl (ns.map W.int)] []=.ok (.bl true) ph') (hn:l.most=some 63) (qh:d.params.defaults=[]) (hr:cf k callerA) (hY:∀(w:World) (h:Heap),YP w h->(K w.params).In h)
  (hK:∀w:World,adD (K w.params)=true) (hT:∀(w:World) (h:Heap),YP w h->∀p∈dh (K w.params),abz h p.2.1 p.2.2/\h.get? p.2.2=some (aaJ #[]))
  (F:∀(w:World) (mg:Str->Option Value) (fa:Addr) (h:Heap),(K w.params).In h->h.Ns Zo mg->mg d.name=some (.ref fa) →
   ∃fd:ZW,(∀(s:Zh) (u:Value),BindsTo s fd ⟨[u],[]⟩ [(x,u)])/\∀base:Heap,(K w.params).In base->base.Ns Zo mg->bP l.prog w (K w.params) mg base (bf l.prog w) k fa fd [x] (bY (K w.params) mg 1 fm)) :
  PySem.W.WalkO q loose XP YP l.row.toRowW d [] (fun f vs=>PySem.call f vs):=by
 refine FP.MM hn qh fun w aA bg mg mb fa o pm cd doc a vs ns G Y ho hd hcd hmg xI xc cu hg=>?_
 have KX:=hY w _ Y;obtain⟨fd,hb,hF⟩:=F w mg fa _ KX G.T.g hmg;exact Pl KX G.T.g G.T.b G.T.builtins G.T.nolimit G.T.bmain hg (hT w _ Y) (hK w) xI xc cu hr hF hb (good ns cu)
noncomputable def WY:W->Option Bool
 | .bl b=>some b
 | _=>none
noncomputable def VS(w:W)(ph:PH):Option (List Bool):=if cz w ph=true then(cj w ph).bind (bc WY) else none
noncomputable def YE:List W->Po W:=fun xs ph=>match xs with
 | [w]=>(VS w ph).map fun bs=>(.bl (bs.any id),ph)
 | _=>none
noncomputable def mZ:W->List W->Po W:=fun x xs ph=>match x,xs with
 | .ref i,[.ref j]=>match ph[i]?,ph[j]? with
  | some (.lst ws),some (.lst us)=>if ws.length+us.length<=Zt then some (.aG,ph.set i (.lst (ws++us))) else none
  | _,_=>none
 | _,_=>none
theorem N8:kB K "list" B3 mZ:=by
 intro φ ph H x xs vx vs w ph' Q hH rx rs e k;unfold mZ at e;split at e
 ·rename_i i j;split at e
  ·rename_i ws us hw hu;split at e
   ·rename_i hz;cases e;cases rx with
    | ref hi=>
     cases rs with
     | cons ry rr=>
      cases rr;cases ry with
      | ref hj=>
       obtain⟨xs,hv,r⟩:=hH.hp _ _ hw;obtain⟨ys,yG,r'⟩:=hH.hp _ _ hu;obtain⟨q1,q2⟩:=sy hH hw (r.append r');exact⟨_,_,xs,ys,rfl,rfl,hv,yG,by rw[<- r.length,<- r'.length];exact hz,k φ _ _ q1 q2 .aG⟩
   ·cases e
  ·cases e
 ·cases e
noncomputable def tj(w:W):Po (List W×(PH->Bool)):=fun ph=>match w with
 | .tup ws=>some ((ws,fun _=>true),ph)
 | w=>ke w ph
noncomputable def cO(m:EM):IM:=fun σ=>aq (m σ) fun w=>lift (tj w)
variable{m:EM}
theorem UV{σ:L2.St}{R:It->Hp->Prop}(h:tI X (cO m) σ H R):tI X (tQ m) σ H R\/tI X (xg m) σ H R:=by
 obtain⟨φ,ph,ws,hH,hS,h⟩:=h;unfold cO at h;rw[cG] at h;cases q:m ws ph with
 | no=>rw[q] at h;exact h.elim
 | ex x ph'=>
  refine .inl ⟨φ,ph,ws,hH,hS,?_⟩;unfold tQ;rw[cG,q];rw[q] at h;exact h
 | ok w ph'=>
  rw[q] at h;have h:(lift (tj w) ph').Run _ _:=h;by_cases hw:∃us,w=.tup us
  ·obtain⟨us,rfl⟩:=hw;refine .inr ⟨φ,ph,ws,hH,hS,?_⟩;unfold xg;rw[cG,q];exact h
  ·refine .inl ⟨φ,ph,ws,hH,hS,?_⟩;unfold tQ;rw[cG,q];have e:tj w=ke w:=by
    funext p
    cases w <;> first | rfl | exact absurd ⟨_,rfl⟩ hw
   rw[e] at h;exact h
theorem gh{tg e:Expr}(hl:JE X e m):JI X tg e (cO m):=⟨by
 intro pins s σ H R I h
 rcases UV h with h | h
 ·exact Qw hl.h pins s σ H R I h
 ·exact SE hl.h pins s σ H R I h⟩
section
variable{X:Cx}{pins:List (Addr×Obj)}{σ:L2.St}{H:Hp}{s:Zh}{h':Heap}
theorem QP{t':Nat}{fp:List Addr}{T:Addr}{o:HO}(I:Inv X pins σ H s)(k:∀b u,b∉fp->s.heap.get? b=some u->h'.get? b=some u)(hf:∀b∈fp,fx X pins H b)(hp:s.heap.objs.size<=T)
  (new:de X.prog X.w (upd H T o) h' T o):Inv X pins σ (upd H T o) { s with heap:=h',toks:=t' }:=by
 have hn:=I.ay.fresh hp;have neT:∀b u,s.heap.get? b=some u->b≠T:=fun b u e=>ZE (Zg (Zl e) hp)
 have ku:∀b u,H b=some u->b∉fp:=fun b u e z=>by rw[(hf b z).1] at e;cases e
 refine I.step (g':=s.gens) (d':=s.drawn) (ch:=fp) (fun b hb=>?_) (fun b u _ _ hc e _=>k b u hc e) (fun b u _ _ hc e _=>⟨u.slots,k b u hc e⟩) (fun b u _ e n=>by rw[aM (neT b u e)];exact n)
  (fun b u hc e=>⟨u,k b u hc e⟩) (fun b xs e=>by rw[aM (bN e hn)];exact e) (fun b u v e=>by rw[aM (bN e hn)];exact e) (fun b ps e=>⟨#[],by rw[aM (bN e hn),e];simp⟩) (fun m hm=>?_) (fun b u e=>?_) I.bare
 ·obtain⟨_,f1,_,f3,f4,f5⟩:=hf b hb;exact⟨f3,f1,f4,f5⟩
 ·obtain⟨u,es,ep,ho,r⟩:=hm;exact⟨u,es,ep,k _ u (fun z=>(hf _ z).2.1 rfl) ho,r⟩
 ·by_cases hb:b=T
  ·subst hb;rw[bp] at e;cases e;exact new
  ·rw[aM hb] at e;refine(I.ay b u e).gu (fun c v hc q=>k c v ?_ q) (fun c q=>by rw[aM (bN q hn)];exact q) fun c xs q=>by rw[aM (bN q hn)];exact q
   rcases hc with z | z
   ·rw[z];exact ku b u e
   ·exact ku c _ z
theorem B9{t':Nat}{fp:List Addr}(I:Inv X pins σ H s)(k:∀b u,b∉fp->s.heap.get? b=some u->h'.get? b=some u)(hf:∀b∈fp,fx X pins H b):Inv X pins σ H { s with heap:=h',toks:=t' }:=by
 have ku:∀b u,H b=some u->b∉fp:=fun b u e z=>by rw[(hf b z).1] at e;cases e
 refine I.step (g':=s.gens) (d':=s.drawn) (ch:=fp) (fun b hb=>?_) (fun b u _ _ hc e _=>k b u hc e) (fun b u _ _ hc e _=>⟨u.slots,k b u hc e⟩) (fun b u _ e n=>n)
  (fun b u hc e=>⟨u,k b u hc e⟩) (fun b xs e=>e) (fun b u v e=>e) (fun b ps e=>⟨#[],by rw[e];simp⟩) (fun m hm=>?_) (fun b u e=>?_) I.bare
 ·obtain⟨_,f1,_,f3,f4,f5⟩:=hf b hb;exact⟨f3,f1,f4,f5⟩
 ·obtain⟨u,es,ep,ho,r⟩:=hm;exact⟨u,es,ep,k _ u (fun z=>(hf _ z).2.1 rfl) ho,r⟩
 ·refine(I.ay b u e).gu (fun c v hc q=>k c v ?_ q) (fun _ q=>q) fun _ _ q=>q
  rcases hc with z | z
  ·rw[z];exact ku b u e
  ·exact ku c _ z
end
noncomputable def F0(K:Zc)(a:Addr):It:=
 ⟨fun i H=>∃xs x,bo K H a xs/\xs[i]? =some x,fun i H x H'=>∃T y,x=.ref T/\H T=none/\H'=upd H T (.tup [.int i,y])/\∀xs,bo K H a xs->xs[i]? =some y,fun i H=>∃xs,bo K H a xs/\xs.length<=i⟩
variable{j:Nat}{pos:Pos}
theorem N9{w:World}{lS:List Expr}(a e it:Addr)(F1:e≠it):Turn P w K (.Tuple lS j pos) (F0 K a) [e,it] e (fun i h=>(∃old,IsEnum h e it (i:Int) old)/\h.IsListIter it a i) where
 mem:=by simp
 obj:=fun i h st b hb=>by
  obtain⟨⟨old,he⟩,o,e1,c,d⟩:=st
  rcases ZK.mp hb with rfl | hb
  ·exact⟨_,he,fun v z=>by cases z⟩
  ·have:b=it:=by simpa using hb
   subst this;exact⟨o,e1,fun v z=>by rw[d] at z;cases z⟩
 keep:=fun i h h' st k=>⟨let ⟨old,he⟩:=st.1;⟨old,k e (by simp) _ he⟩,st.2.at fun o q=>k it (by simp) o q⟩
 item:=by
  intro X hP hw hK hc i pins s σ H E I hf st hg;subst hP hw hK;obtain⟨⟨old,he⟩,hit⟩:=st;obtain⟨xs,x,hq,hx⟩:=hg;obtain⟨its,rv,p,hz⟩:=I.list hq;obtain⟨u,hu,ru⟩:=rv.get hx;refine wpAny_pyNext_enum_item he hit p.isList (x:=u) (by simpa using hu) F1 fun h1 ho VT hT hsz hk=>⟨_,rfl,?_⟩
  refine wpAny_letOwnedTupleGo_enum ho fun h2 WZ qr=>?_
  have kk:∀b o,b∉[e,it]->s.heap.get? b=some o->h2.get? b=some o:=fun b o hb q=>by
   have fH:b≠e:=fun z=>hb (by simp[z])
   have jA:b≠it:=fun z=>hb (by simp[z])
   exact(qr.2 b fH).trans (hk b o fH jA q)
  have F2:s.heap.objs.size≠e:=aaI (Zl he);have new:de X.prog X.w (upd H s.heap.objs.size (.tup [.int i,x])) h2 s.heap.objs.size (.tup [.int i,x]):=
   ⟨by show 2<=Zt;decide,[.int i s.toks,u],.cons ⟨_,rfl⟩ (.cons ru .nil),_,(qr.2 _ F2).trans hT,rfl,_,rfl⟩
  refine⟨.ref s.heap.objs.size,_,QP (s:=s) (h':=h2) (t':=s.toks+1) I kk hf (Zf _) new,rfl,⟨_,x,rfl,I.ay.fresh (Zf _),rfl,fun ys hy=>by rw[I.Bp hy hq];exact hx⟩,⟨⟨_,by simpa using WZ⟩,VT.at fun o q=>(qr.2 it F1.symm).trans q⟩,fun b hb=>?_⟩;rw[aM (fun z=>?_)]
  ·exact(hf b hb).1
  ·subst z
   rcases ZK.mp hb with z | z
   ·exact F2 z
   ·have z:s.heap.objs.size=it:=by simpa using z
    obtain⟨o,e1,_⟩:=hit;exact aaI (Zl e1) z
 done:=by
  intro X hP hw hK hc i pins s σ H E I hf st hg;subst hP hw hK;obtain⟨⟨old,he⟩,hit⟩:=st;obtain⟨xs,hq,hx⟩:=hg;obtain⟨its,rv,p,hz⟩:=I.list hq;have hl:=rv.length;exact wpAny_pyNext_enum_end (I.ok.hd hc) he hit p.isList (by simp;omega) fun h1 eb=>⟨rfl,B9 (t':=s.toks) I (fun b o hb q=>eb b o (fun z=>hb (by simp[z])) q) hf⟩
 self:=fun _ _ _ _ _ st h=>let ⟨_,he⟩:=st.1;wpAny_pyIter_enum he h
noncomputable def VU(K:Zc)(ta:TA):TI:=fun σ H R=>ta σ H fun vs H1=>∃a,vs=[.ref a]/\(∃xs,bo K H1 a xs)/\R (F0 K a) H1
variable{tp p:Pos}
theorem QQ{a:Expr}{ta:TA}{lS:List Expr}(hg:Gl X "enumerate")(hm:X.mg "enumerate"=none)(ha:PA X [a] ta)(hs:ZF [a] X.env=[(false,eval a X.env)]:=by rfl) :
  PI X (.Tuple lS j tp) (.Call (.Name "enumerate" p) [a] [] pos) (VU X.K ta):=by
 intro pins s σ H R I h;refine Call_ (sU I hg hm PyProof.Rows.boot_enumerate (abh (aU (ha pos pins s σ H _ I h) fun us s1 ⟨vs,H1,I1,r1,q1⟩=>?_) hs rfl));obtain⟨a,e,⟨xs,hq⟩,q⟩:=q1;subst e;cases r1 with
 | cons r rr=>
  cases rr;cases r;obtain⟨its,rv,pl,hz⟩:=I1.list hq;refine call_enumerate_list pl.isList fun h' he hit hsz hk=>?_
  refine wpAny_pyIter_enum he ?_;have I2:Inv X pins σ H1 { s1 with heap:=h' }:=I1.kept (t':=s1.toks) hk;refine⟨s1.heap.objs.size+1,[s1.heap.objs.size+1,s1.heap.objs.size],_,_,H1,rfl,I2,N9 a _ _ (Nat.succ_ne_self _),⟨⟨_,by simpa using he⟩,hit⟩,fun b hb=>?_,q⟩;have hb:s1.heap.objs.size<=b:=by
   rcases ZK.mp hb with rfl | hb
   ·exact abP _
   ·have:b=s1.heap.objs.size:=by simpa using hb
    exact Nat.le_of_eq this.symm
  exact I1.pQ hb (I1.ay.fresh hb)
noncomputable def gp(ws:List W):List W:=(ZS ws.length).map fun(i:Nat)=>.tup [.int ((i:Nat):Int),ws.getD i .aG]
noncomputable def xm(xs:List W):Po (List W×(PH->Bool)):=fun ph=>match xs with
 | [w]=>(ke w ph).map fun r=>((gp r.1.1,r.1.2),r.2)
 | _=>none
noncomputable def j0(m:AM):IM:=fun σ=>aq (m σ) fun xs=>lift (xm xs)
theorem AY{w:W}(h:(gp ws)[i]? =some w):∃x,ws[i]? =some x/\w=.tup [.int i,x]:=by
 unfold gp at h;rw[Ze] at h;cases q:(ZS ws.length)[i]? with
 | none=>rw[q] at h;cases h
 | some k=>
  rw[q] at h;obtain⟨hi,e⟩:=Zb.mp q;rw[acu] at e;subst e;rw[ZI] at hi;cases h;exact⟨ws[i],by simp[hi],by simp[hi]⟩
theorem AB(h:(gp ws)[i]? =none):ws.length<=i:=by
 unfold gp at h
 simpa using h
theorem QR{a:Expr}{am:AM}{lS:List Expr}(hg:Gl X "enumerate")(hm:X.mg "enumerate"=none)(ha:IA X [a] am)(hs:ZF [a] X.env=[(false,eval a X.env)]:=by rfl) :
  II X (.Tuple lS j tp) (.Call (.Name "enumerate" p) [a] [] pos) (j0 am):=by
 refine PI.imp (QQ hg hm ha hs) fun σ H R h=>?_
 obtain⟨φ,ph,ws,hH,hS,h⟩:=h;refine tA.bind hH hS h fun xs ph1 av H1 vs aE s1 r1 h=>?_
 obtain⟨r,ph',e,k⟩:=run_lift h;unfold xm at e;split at e
 ·rename_i w;cases r1 with
  | cons r1 rr=>
   cases rr;unfold ke at e;cases r1 with
   | ref hi=>
    rename_i i;simp only at e;cases q:ph1[i]? with
    | none=>rw[q] at e;cases e
    | some o=>
     cases o with
     | aF _=>rw[q] at e;cases e
     | obj _ _=>rw[q] at e;cases e
     | jt _=>rw[q] at e;cases e
     | oj _=>rw[q] at e;cases e
     | lst items=>
      rw[q] at e;simp only[ZN] at e;cases e;obtain⟨vs,hv,r⟩:=aE.hp _ _ q;refine⟨_,rfl,⟨vs,bo.of hv⟩,k av H1 _ aE s1 ?_⟩;intro aV ph2 H2 aX s2 hc j;have eL:ph2[i]? =some (.lst items):=of_decide_eq_true hc;obtain⟨us,hu,ru⟩:=aX.hp _ _ eL;rw[s2.eq i hi] at hu;refine⟨fun w eA=>?_,fun hn=>?_⟩
      ·obtain⟨x,hx,rfl⟩:=AY eA;obtain⟨u,eu,jw⟩:=ru.get hx;refine⟨⟨us,u,bo.of hu,eu⟩,fun y fG hy=>?_⟩;obtain⟨T,z,rfl,hT,rfl,hy⟩:=hy;have:=hy us (bo.of hu);rw[eu] at this;cases this;exact⟨aX.tup hT,iW hT,.tup bp (.cons (.int _) (.cons (jw.mono (iW hT)) .nil))⟩
      ·refine⟨us,bo.of hu,?_⟩;rw[<- ru.length];exact AB hn
   | fl hq r=>
    simp only[ZN] at e;cases e;refine⟨_,rfl,⟨_,hq.sq⟩,k av H1 _ aE s1 ?_⟩;intro aV ph2 H2 aX s2 hc j;have h2:=aJ.mono s2 (.fl hq r);cases h2 with
    | fl h2 r2=>
     refine⟨fun w eA=>?_,fun hn=>?_⟩
     ·obtain⟨x,hx,rfl⟩:=AY eA;obtain⟨u,eu,jw⟩:=r2.get hx;refine⟨⟨_,u,h2.sq,eu⟩,fun y fG hy=>?_⟩;obtain⟨T,z,rfl,hT,rfl,hy⟩:=hy;have:=hy _ h2.sq;rw[eu] at this;cases this;exact⟨aX.tup hT,iW hT,.tup bp (.cons (.int _) (.cons (jw.mono (iW hT)) .nil))⟩
     ·refine⟨_,h2.sq,?_⟩;rw[<- r2.length];exact AB hn
   | _=>cases e
 ·cases e
theorem Ca{a:Expr}{am:AM}{lS:List Expr}(hg:Gl X "enumerate")(hm:X.mg "enumerate"=none)(hn:isStar a=false)(ha:JA X [a] am) :
  JI X (.Tuple lS j tp) (.Call (.Name "enumerate" p) [a] [] pos) (j0 am):=⟨QR hg hm ha.h (ij hn)⟩
theorem mQ{e:Expr}{gens:List Comprehension}{scope:Scope}{pos':Pos}{x:Str}{line:Nat}(hk:env.scope.kind=.function)(hx:env.scope.names.lookup x=some .local)(hl:(pos'.line==p.line)=true)
  (hn:(scope.names.any fun y=>y.1==x&&(y.2==.local||y.2==.cell))=false):abw (.ListComp e gens scope p) (some (.Name x pos')) line env=pure true:=by
 have e1:(env.kindOf x==some .local)=true:=by unfold Env.kindOf;rw[hx];rfl
 have e2:(env.blockKind==.function)=true:=by unfold Env.blockKind;rw[hk];rfl
 show pure (env.blockKind==.function&&env.kindOf x==some .local&&pos'.line==p.line&& !(scope.names.any fun y=>y.1==x&&(y.2==.local||y.2==.cell)))=_;rw[e1,e2,hl,hn];rfl
noncomputable def newD:Po W:=fun ph=>some (.ref ph.length,ph++[.aF []])
noncomputable def nR:EM:=fun _=>lift newD
theorem Bz{p:Addr}(hH:aD K φ ph H)(hp:H p=none) :
  aD K (ext φ ph.length p) (ph++[.aF []]) (upd H p (.dK []))/\Step K φ ph.length H (ext φ ph.length p) (ph++[PO.aF []]).length (upd H p (.dK []))/\aJ K (ext φ ph.length p) (ph++[PO.aF []]).length (upd H p (.dK [])) (.ref ph.length) (.ref p):=by
 have hl:(ph++[PO.aF []]).length=ph.length+1:=by simp
 rw[hl];have s:=vB (K:=K) (φ:=φ) (n:=ph.length) (o:=HO.dK []) hp;refine⟨hH.new hp (.inl ⟨[],bp,.nil⟩),s,?_⟩;have q:aJ K (ext φ ph.length p) (ph.length+1) (upd H p (.dK [])) (.ref ph.length) (.ref (ext φ ph.length p ph.length)):=.ref (aaP _);rw[jT] at q;exact q
theorem sV:JE X (.Dict [] [] pos) nR:=⟨PE.imp O8 fun σ H Q h p hp=>by
 obtain⟨φ,ph,ws,hH,hS,h⟩:=h;obtain⟨w,ph',e,k⟩:=run_lift h;cases e;obtain⟨q1,q2,q3⟩:=Bz hH hp;exact k _ _ _ q1 q2 q3⟩
theorem sC{a b:Key}(h:bC a=bC b):a=b:=by
 cases a <;> cases b <;> simp_all [bC]
theorem sg:∀{a b:List Key},a.map bC=b.map bC->a=b
 | [],[],_=>rfl
 | [],_::_,e=>by simp at e
 | _::_,[],e=>by simp at e
 | x::xs,y::ys,e=>by
  rw[ZL,ZL] at e;injection e with e1 e2
  rw[sC e1,sg e2]
noncomputable def nS:W->Option Key
 | .int i=>some (.inl i)
 | .str x=>some (.inr x)
 | _=>none
noncomputable def xR:W->Option (List Key)
 | .tup ws=>bc nS ws
 | _=>none
variable{k:Key}
theorem vZ{w:W}(h:nS w=some k):w=bC k:=by
 cases w <;> simp only[nS] at h <;> first | (cases h;done) | (cases h;rfl)
theorem BA:∀{ws:List W} {ks:List Key},bc nS ws=some ks->ws=ks.map bC
 | [],ks,h=>by cases h;rfl
 | w::ws,ks,h=>by
  unfold bc at h;split at h
  ·rename_i b bs e1 e2;cases h;rw[vZ e1,BA e2];rfl
  ·cases h
theorem Cb{w:W}{ks:List Key}(h:xR w=some ks):w=.tup (ks.map bC):=by
 cases w <;> simp only[xR] at h <;> first | (cases h;done) | rw[BA h]
theorem xn(r:aJ K φ n H (bC k) v):v=kV k:=by
 cases k with
 | inl i=>cases r;rfl
 | inr x=>cases r;rfl
theorem C3{K:Zc}{φ:Nat->Addr}{n:Nat}{H:Hp}:∀{ks:List Key} {vs:List V},aT K φ n H (ks.map bC) vs->vs=ks.map kV
 | [],_,r=>by cases r;rfl
 | k::ks,_,r=>by
  cases r with
  | cons h r=>rw[xn h,C3 r];rfl
theorem C4{ks:List Key}(r:aJ K φ n H (.tup (ks.map bC)) v):∃b,v=.ref b/\H b=some (.tup (ks.map kV)):=by
 cases r with
 | tup h r=>rw[C3 r] at h;exact⟨_,rfl,h⟩
noncomputable def c4(kws:List (W×W))(k:W):Option W:=(kws.find? fun p=>decide (p.1=k)).map (·.2)
noncomputable def dw(kws:List (W×W))(k w:W):List (W×W):=if(kws.any fun p=>decide (p.1=k))=true then kws.map (fun p=>if p.1=k then(p.1,w) else p) else kws++[(k,w)]
noncomputable def lT(K:Zc)(φ:Nat->Addr)(n:Nat)(H:Hp):Option W->Option V->Prop
 | none,none=>True
 | some w,some v=>aJ K φ n H w v
 | _,_=>False
section
variable{K:Zc}{φ:Nat->Addr}{n:Nat}{H:Hp}
theorem Td{a b:Key}:decide (bC a=bC b)=decide (a=b):=by
 rw[decide_eq_decide];exact⟨sC,fun e=>by rw[e]⟩
theorem QS{a b:List Key}:decide (W.tup (a.map bC)=W.tup (b.map bC))=decide (a=b):=by
 rw[decide_eq_decide];exact⟨fun e=>sg (W.tup.inj e),fun e=>by rw[e]⟩
theorem bS.val(k:Key):∀{kws:List (W×W)} {kvs:List (Key×V)},bS K φ n H kws kvs->lT K φ n H (c4 kws (bC k)) (gv kvs k)
 | _,_,.nil=>trivial
 | _,_,.cons (k:=j) (w:=w) (v:=v) h r=>by
  unfold c4;rw[aaB];by_cases e:j=k
  ·rw[decide_eq_true (congrArg bC e),oY (p:=(j,v)) e];exact h
  ·rw[decide_eq_false (fun z=>e (sC z)),oZ (p:=(j,v)) e];exact bS.val k r
theorem bV.val(k:List Key):∀{kws:List (W×W)} {kvs:List (List Key×V)},bV K φ n H kws kvs->lT K φ n H (c4 kws (.tup (k.map bC))) (gv kvs k)
 | _,_,.nil=>trivial
 | _,_,.cons (k:=j) (w:=w) (v:=v) h r=>by
  unfold c4;rw[aaB];by_cases e:j=k
  ·rw[decide_eq_true (by rw[e]),oY (p:=(j,v)) e];exact h
  ·rw[decide_eq_false (fun z=>e (sg (W.tup.inj z))),oZ (p:=(j,v)) e];exact bV.val k r
theorem bS.len:∀{kws:List (W×W)} {kvs:List (Key×V)},bS K φ n H kws kvs->kws.length=kvs.length
 | _,_,.nil=>rfl
 | _,_,.cons _ r=>by rw[aat,aat,bS.len r]
theorem bV.len:∀{kws:List (W×W)} {kvs:List (List Key×V)},bV K φ n H kws kvs->kws.length=kvs.length
 | _,_,.nil=>rfl
 | _,_,.cons _ r=>by rw[aat,aat,bV.len r]
theorem bS.any(k:Key):∀{kws:List (W×W)} {kvs:List (Key×V)},bS K φ n H kws kvs->(kws.any fun p=>decide (p.1=bC k))=kvs.any fun p=>decide (p.1=k)
 | _,_,.nil=>rfl
 | _,_,.cons (k:=j) _ r=>by
  rw[aay,aay,bS.any k r];show(decide (bC j=bC k)||_)=(decide (j=k)||_);rw[Td]
theorem bV.any(k:List Key):∀{kws:List (W×W)} {kvs:List (List Key×V)},bV K φ n H kws kvs->(kws.any fun p=>decide (p.1=.tup (k.map bC)))=kvs.any fun p=>decide (p.1=k)
 | _,_,.nil=>rfl
 | _,_,.cons (k:=j) _ r=>by
  rw[aay,aay,bV.any k r];show(decide (W.tup (j.map bC)=W.tup (k.map bC))||_)=(decide (j=k)||_);rw[QS]
theorem bS.gQ(k:Key){w:W}{v:V}(q:aJ K φ n H w v):∀{kws:List (W×W)} {kvs:List (Key×V)},bS K φ n H kws kvs->bS K φ n H (kws.map fun p=>if p.1=bC k then(p.1,w) else p) (kvs.map fun p=>if p.1=k then(p.1,v) else p)
 | _,_,.nil=>.nil
 | _,_,.cons (k:=j) h r=>by
  rw[ZL,ZL];by_cases e:j=k
  ·rw[if_pos (show bC j=bC k by rw[e]),if_pos (show j=k from e)];exact .cons q (bS.gQ k q r)
  ·rw[if_neg (show ¬bC j=bC k from fun z=>e (sC z)),if_neg (show ¬j=k from e)];exact .cons h (bS.gQ k q r)
theorem bV.gQ(k:List Key){w:W}{v:V}(q:aJ K φ n H w v):∀{kws:List (W×W)} {kvs:List (List Key×V)},bV K φ n H kws kvs->bV K φ n H (kws.map fun p=>if p.1=.tup (k.map bC) then(p.1,w) else p) (kvs.map fun p=>if p.1=k then(p.1,v) else p)
 | _,_,.nil=>.nil
 | _,_,.cons (k:=j) h r=>by
  rw[ZL,ZL];by_cases e:j=k
  ·rw[if_pos (show W.tup (j.map bC)=W.tup (k.map bC) by rw[e]),if_pos (show j=k from e)];exact .cons q (bV.gQ k q r)
  ·rw[if_neg (show ¬W.tup (j.map bC)=W.tup (k.map bC) from fun z=>e (sg (W.tup.inj z))),if_neg (show ¬j=k from e)];exact .cons h (bV.gQ k q r)
theorem bS.snoc(k:Key){w:W}{v:V}(q:aJ K φ n H w v):∀{kws:List (W×W)} {kvs:List (Key×V)},bS K φ n H kws kvs->bS K φ n H (kws++[(bC k,w)]) (kvs++[(k,v)])
 | _,_,.nil=>.cons q .nil
 | _,_,.cons h r=>.cons h (bS.snoc k q r)
theorem bV.snoc(k:List Key){w:W}{v:V}(q:aJ K φ n H w v):∀{kws:List (W×W)} {kvs:List (List Key×V)},bV K φ n H kws kvs->bV K φ n H (kws++[(.tup (k.map bC),w)]) (kvs++[(k,v)])
 | _,_,.nil=>.cons q .nil
 | _,_,.cons h r=>.cons h (bV.snoc k q r)
theorem bS.put(k:Key){w:W}{v:V}(q:aJ K φ n H w v){kws:List (W×W)}{kvs:List (Key×V)}(r:bS K φ n H kws kvs):bS K φ n H (dw kws (bC k) w) (putK kvs k v):=by
 unfold dw putK;rw[r.any k];by_cases e:(kvs.any fun kv=>decide (kv.1=k))=true
 ·rw[if_pos e,if_pos e];exact r.gQ k q
 ·rw[if_neg e,if_neg e];exact r.snoc k q
theorem bV.put(k:List Key){w:W}{v:V}(q:aJ K φ n H w v){kws:List (W×W)}{kvs:List (List Key×V)}(r:bV K φ n H kws kvs):bV K φ n H (dw kws (.tup (k.map bC)) w) (putK kvs k v):=by
 unfold dw putK;rw[r.any k];by_cases e:(kvs.any fun kv=>decide (kv.1=k))=true
 ·rw[if_pos e,if_pos e];exact r.gQ k q
 ·rw[if_neg e,if_neg e];exact r.snoc k q
end
section
variable{X:Cx}{pins:List (Addr×Obj)}{σ:L2.St}{H:Hp}{s:Zh}{a:Addr}
theorem iu(I:Inv X pins σ H s)(e:H a=some (.dK [])):Inv X pins σ (upd H a (.dT [])) s:=by
 obtain⟨z,hd,vs,rel,o,es,ep,h1,h2,h3,h4,h5,h6⟩:=pF I.ay e;cases rel;have he:es.toList=[]:=by
  generalize es.toList=l at h5;cases h5;rfl
 exact I.write (x:=a) (e:=a) (h':=s.heap) (t':=s.toks) (o:=.dT []) (by rw[e];trivial) (.inl rfl) (fun _ _ _ q=>q) ⟨o,h1⟩ ⟨aaF _,hd,[],.nil,o,es,ep,h1,h2,h3,by rw[he];rfl,List.nodup_nil⟩
theorem gO(I:Inv X pins σ H s)(e:H a=some (.dT [])):Inv X pins σ (upd H a (.dK [])) s:=by
 obtain⟨z,hd,xs,rel,o,es,ep,h1,h2,h3,h4,h5,h6⟩:=xf I.ay e;cases rel;have he:es= #[]:=by
  have:es.toList=[]:=h4
  simpa using this
 subst he;exact I.write (x:=a) (e:=a) (h':=s.heap) (t':=s.toks) (o:=.dK []) (by rw[e];trivial) (.inl rfl) (fun _ _ _ q=>q) ⟨o,h1⟩ ⟨aaF _,hd,[],.nil,o,#[],ep,h1,h2,h3,fun x hx=>by simp at hx,.nil,List.nodup_nil⟩
theorem jN{o u:HO}(e:H a=some o):upd (upd H a u) a o=H:=by
 rw[pg]
 funext b
 unfold upd;split
 ·rename_i q;rw[q,e]
 ·rfl
end
noncomputable def nB(H:Hp)(a:Addr)(y:V)(o:Option V):Prop:=eh H a y o\/(o=none/\((H a=some (.dK [])/\∃(k:List Key) (b:Addr),y=.ref b/\H b=some (.tup (k.map kV)))\/(H a=some (.dT [])/\∃k:Key,y=kV k)))
noncomputable def iz(H:Hp)(a:Addr)(y v:V)(H':Hp):Prop:=lO H a y v H'\/(H a=some (.dK [])/\∃(k:List Key) (b:Addr),y=.ref b/\H b=some (.tup (k.map kV))/\H'=upd H a (.dT [(k,v)]))\/(H a=some (.dT [])/\∃k:Key,y=kV k/\H'=upd H a (.dK [(k,v)]))
section
variable{X:Cx}
theorem Te(hu:X.A.units+1<cLine):bu X (aaM .In) (fun y x H Q=>∃a o,x=.ref a/\nB H a y o/\Q (.bl o.isSome) H):=by
 intro pins s σ H y x u v Q I ry rx h;obtain⟨a,o,rfl,g,q⟩:=h;cases rx
 rcases g with g | ⟨rfl,⟨e,k,b,ey,eb⟩ | ⟨e,k,ey⟩⟩
 ·exact xJ hu I g ry fun s3 I3=>⟨.bl o.isSome,H,I3,rfl,q⟩
 ·subst ey;have g:eh (upd H a (.dT [])) a (.ref b) none:=.inr ⟨[],k,b,.inl bp,rfl,by rw[aM (gk eb e (fun z=>nomatch z))];exact eb,rfl⟩;exact xJ hu (iu I e) g ry fun s3 I3=>⟨.bl false,H,by have:=gO I3 bp;rwa [jN e] at this,rfl,q⟩
 ·subst ey;have g:eh (upd H a (.dK [])) a (kV k) none:=.inl ⟨[],k,.inl bp,rfl,rfl⟩;exact xJ hu (gO I e) g ry fun s3 I3=>⟨.bl false,H,by have:=iu I3 bp;rwa [jN e] at this,rfl,q⟩
theorem QT(hu:X.A.units+1<cLine):bu X (aaM .NotIn) (fun y x H Q=>∃a o,x=.ref a/\nB H a y o/\Q (.bl (!o.isSome)) H):=by
 intro pins s σ H y x u v Q I ry rx h;obtain⟨a,o,rfl,g,q⟩:=h;cases rx
 rcases g with g | ⟨rfl,⟨e,k,b,ey,eb⟩ | ⟨e,k,ey⟩⟩
 ·exact vW hu I g ry fun s3 I3=>⟨.bl (!o.isSome),H,I3,rfl,q⟩
 ·subst ey;have g:eh (upd H a (.dT [])) a (.ref b) none:=.inr ⟨[],k,b,.inl bp,rfl,by rw[aM (gk eb e (fun z=>nomatch z))];exact eb,rfl⟩;exact vW hu (iu I e) g ry fun s3 I3=>⟨.bl true,H,by have:=gO I3 bp;rwa [jN e] at this,rfl,q⟩
 ·subst ey;have g:eh (upd H a (.dK [])) a (kV k) none:=.inl ⟨[],k,.inl bp,rfl,rfl⟩;exact vW hu (gO I e) g ry fun s3 I3=>⟨.bl true,H,by have:=iu I3 bp;rwa [jN e] at this,rfl,q⟩
theorem set_dict(hu:X.A.units+1<cLine):ka X (fun o i v H Q=>∃a H',o=.ref a/\iz H a i v H'/\Q H'):=by
 intro pins s σ H o i v ov iv u Q I ro ri rv h;obtain⟨a,H',rfl,g,q⟩:=h;cases ro
 rcases g with g | ⟨e,k,b,ey,eb,eH⟩ | ⟨e,k,ey,eH⟩
 ·exact vj hu I g ri rv fun s3 I3=>⟨H',I3,q⟩
 ·subst ey eH;have g:lO (upd H a (.dT [])) a (.ref b) v (upd (upd H a (.dT [])) a (.dT (putK [] k v))):=.inr ⟨[],k,b,bp,rfl,by rw[aM (gk eb e (fun z=>nomatch z))];exact eb,by decide,rfl⟩;refine vj hu (iu I e) g ri rv fun s3 I3=>⟨_,?_,q⟩
  rw[pg] at I3;exact I3
 ·subst ey eH;have g:lO (upd H a (.dK [])) a (kV k) v (upd (upd H a (.dK [])) a (.dK (putK [] k v))):=.inl ⟨[],k,bp,rfl,by decide,rfl⟩;refine vj hu (gO I e) g ri rv fun s3 I3=>⟨_,?_,q⟩
  rw[pg] at I3;exact I3
theorem QU(hu:X.A.units+1<cLine):gV X (fun x y H Q=>∃a v,x=.ref a/\eh H a y (some v)/\Q v H):=by
 intro value slice pins s σ H x y v u Q I rx ry h hs;obtain⟨a,w,rfl,g,q⟩:=h;cases rx;have hT:=MN I g;unfold subscriptTail;refine Zu ?_;rw[getitemInPython_of_ne hT.not_modules];refine Zu (wpAny_specialOf hT PySem.F.slot_dict_getitem.lookup ?_);have fin:wpAny (model X.prog X.w) X.A (subscripted slice false (.ref a) u) (fun r zA=>wpAny (model X.prog X.w) X.A (letTemporaryGo value (.ref a) r >>= fun _=>pure r) (EP X pins σ Q) X.xe zA) X.xe s:=by
  rw[hs];exact wpAny_operating (N1 hu I g ry fun w' s3 I3 fc=>Zu (wpAny_letTemporaryGo (ZZ ⟨w,H,I3,fc,q⟩)))
 first
  | exact ZZ (Zu fin)
  | exact Zu (ZZ (Zu fin))
  | exact Zu fin
end
noncomputable def iR:W->Bool
 | .tup _=>true
 | _=>false
noncomputable def cQ(kws:List (W×W))(x:W):Bool:=((nS x).isSome&&kws.all fun p=> !iR p.1)||((xR x).isSome&&kws.all fun p=>iR p.1)
noncomputable def dY(y:W)(ph:PH):Option (Nat×List (W×W)):=match y with
 | .ref i=>match ph[i]? with
  | some (.aF kws)=>some (i,kws)
  | _=>none
 | _=>none
section
variable{K:Zc}{φ:Nat->Addr}{ph:PH}{H:Hp}
variable{kws:List (W×W)}
theorem bS.F3{kvs:List (Key×V)}{n:Nat}(r:bS K φ n H kws kvs)(h:kws.all (fun p=>iR p.1)=true):kws=[]/\kvs=[]:=by
 cases r with
 | nil=>exact⟨rfl,rfl⟩
 | cons h' r=>
  rename_i k w v kws kvs;rw[aaS] at h;have:iR (bC k)=true:=by simp only[Zr] at h;exact h.1
  cases k <;> cases this
theorem bV.xS{kvs:List (List Key×V)}{n:Nat}(r:bV K φ n H kws kvs)(h:kws.all (fun p=> !iR p.1)=true):kws=[]/\kvs=[]:=by
 cases r with
 | nil=>exact⟨rfl,rfl⟩
 | cons h' r=>
  rw[aaS] at h;have h:=(Zr _ _▸h).1;cases h
variable{v:V}{i:Nat}
theorem ll{y:W}(hH:aD K φ ph H)(r:aJ K φ ph.length H y v)(e:dY y ph=some (i,kws)):y=.ref i/\i<ph.length/\ph[i]? =some (.aF kws)/\v=.ref (φ i):=by
 unfold dY at e;cases r with
 | ref hi=>
  simp only at e;split at e
  ·rename_i YF hw;cases e;exact⟨rfl,hi,hw,rfl⟩
  ·cases e
 | _=>cases e
theorem pb{x:W}(hH:aD K φ ph H)(hd:ph[i]? =some (.aF kws))(r:aJ K φ ph.length H x v)(hk:cQ kws x=true):∃o,nB H (φ i) v o/\lT K φ ph.length H (c4 kws x) o:=by
 unfold cQ at hk;rw[aaN,Zr,Zr] at hk
 rcases hk with⟨h1,h2⟩ | ⟨h1,h2⟩
 ·obtain⟨k,hk⟩:=aan.mp h1;have:=vZ hk;subst this;have:=xn r;subst this
  rcases hH.hp _ _ hd with⟨kvs,q,rd⟩ | ⟨kvs,q,rd⟩
  ·exact⟨_,.inl (.inl ⟨kvs,k,.inl q,rfl,rfl⟩),rd.val k⟩
  ·obtain⟨rfl,rfl⟩:=rd.xS h2;exact⟨none,.inr ⟨rfl,.inr ⟨q,k,rfl⟩⟩,trivial⟩
 ·obtain⟨ks,hk⟩:=aan.mp h1;have:=Cb hk;subst this;obtain⟨b,rfl,hb⟩:=C4 r
  rcases hH.hp _ _ hd with⟨kvs,q,rd⟩ | ⟨kvs,q,rd⟩
  ·obtain⟨rfl,rfl⟩:=rd.F3 h2;exact⟨none,.inr ⟨rfl,.inl ⟨q,ks,b,rfl,hb⟩⟩,trivial⟩
  ·exact⟨_,.inl (.inr ⟨kvs,ks,b,.inl q,rfl,hb,rfl⟩),rd.val ks⟩
theorem BB{x w:W}{u:V}(hH:aD K φ ph H)(hi:i<ph.length)(hd:ph[i]? =some (.aF kws))(r:aJ K φ ph.length H x v)(rw:aJ K φ ph.length H w u)(hk:cQ kws x=true)(hz:kws.length<Zt) :
  ∃H',iz H (φ i) v u H'/\aD K φ (ph.set i (.aF (dw kws x w))) H'/\Step K φ ph.length H φ (ph.set i (.aF (dw kws x w))).length H':=by
 obtain⟨y,ey,my⟩:=hH.mu hd rfl;rw[aal];unfold cQ at hk;rw[aaN,Zr,Zr] at hk
 rcases hk with⟨h1,h2⟩ | ⟨h1,h2⟩
 ·obtain⟨k,hk⟩:=aan.mp h1;have:=vZ hk;subst this;have:=xn r;subst this
  rcases hH.hp _ _ hd with⟨kvs,q,rd⟩ | ⟨kvs,q,rd⟩
  ·have s:=mR (K:=K) (φ:=φ) (n:=ph.length) (y:=HO.dK (putK kvs k u)) ey my;exact⟨_,.inl (.inl ⟨kvs,k,q,rfl,by rw[<- rd.len];exact hz,rfl⟩),hH.put hd rfl (.inl ⟨_,bp,(rd.put k rw).mono s⟩),s⟩
  ·obtain⟨rfl,rfl⟩:=rd.xS h2;have s:=mR (K:=K) (φ:=φ) (n:=ph.length) (y:=HO.dK [(k,u)]) ey my;exact⟨_,.inr (.inr ⟨q,k,rfl,rfl⟩),hH.put hd rfl (.inl ⟨_,bp,((bS.nil).put k rw).mono s⟩),s⟩
 ·obtain⟨ks,hk⟩:=aan.mp h1;have:=Cb hk;subst this;obtain⟨b,rfl,hb⟩:=C4 r
  rcases hH.hp _ _ hd with⟨kvs,q,rd⟩ | ⟨kvs,q,rd⟩
  ·obtain⟨rfl,rfl⟩:=rd.F3 h2;have s:=mR (K:=K) (φ:=φ) (n:=ph.length) (y:=HO.dT [(ks,u)]) ey my;exact⟨_,.inr (.inl ⟨q,ks,b,rfl,hb,rfl⟩),hH.put hd rfl (.inr ⟨_,bp,((bV.nil).put ks rw).mono s⟩),s⟩
  ·have s:=mR (K:=K) (φ:=φ) (n:=ph.length) (y:=HO.dT (putK kvs ks u)) ey my;exact⟨_,.inl (.inr ⟨kvs,ks,b,q,rfl,hb,by rw[<- rd.len];exact hz,rfl⟩),hH.put hd rfl (.inr ⟨_,bp,(rd.put ks rw).mono s⟩),s⟩
end
noncomputable def c6:W->W->Po W:=fun x y ph=>match dY y ph with
 | some p=>if cQ p.2 x=true then some (.bl (c4 p.2 x).isSome,ph) else none
 | none=>gZ x y ph
noncomputable def fT:W->W->Po W:=fun x y ph=>match dY y ph with
 | some p=>if cQ p.2 x=true then some (.bl (!(c4 p.2 x).isSome),ph) else none
 | none=>xO x y ph
noncomputable def ag:W->W->Po W:=fun x y ph=>match dY x ph with
 | some p=>if cQ p.2 y=true then(c4 p.2 y).map fun w=>(w,ph) else none
 | none=>dC x y ph
noncomputable def nT(o i v:W):Po Unit:=fun ph=>match dY o ph with
 | some p=>if cQ p.2 i=true/\p.2.length<Zt then some ((),ph.set p.1 (.aF (dw p.2 i v))) else none
 | none=>E0 o i v ph
theorem lT.isSome{K:Zc}{φ:Nat->Addr}{n:Nat}{H:Hp}{a:Option W}{b:Option V}(h:lT K φ n H a b):a.isSome=b.isSome:=by
 cases a <;> cases b <;> first | rfl | exact h.elim
theorem UW:da K (fun x y H Q=>nN K (fun b=>b) x y H Q\/∃a o,y=.ref a/\nB H a x o/\Q (.bl o.isSome) H) c6:=by
 intro φ ph H x y vx vy w ph' Q hH rx ry e k;unfold c6 at e;split at e
 ·rename_i p hp;obtain⟨i,kws⟩:=p;obtain⟨rfl,hi,hd,rfl⟩:=ll hH ry hp;split at e
  ·rename_i hk;cases e;obtain⟨o,g,ro⟩:=pb hH hd rx hk;exact .inr ⟨_,o,rfl,g,by rw[<- ro.isSome];exact k φ H _ hH Step.refl (.bl _)⟩
  ·cases e
 ·exact .inl (UM hH rx ry e k)
theorem Tf:da K (fun x y H Q=>nN K (fun b=> !b) x y H Q\/∃a o,y=.ref a/\nB H a x o/\Q (.bl (!o.isSome)) H) fT:=by
 intro φ ph H x y vx vy w ph' Q hH rx ry e k;unfold fT at e;split at e
 ·rename_i p hp;obtain⟨i,kws⟩:=p;obtain⟨rfl,hi,hd,rfl⟩:=ll hH ry hp;split at e
  ·rename_i hk;cases e;obtain⟨o,g,ro⟩:=pb hH hd rx hk;exact .inr ⟨_,o,rfl,g,by rw[<- ro.isSome];exact k φ H _ hH Step.refl (.bl _)⟩
  ·cases e
 ·exact .inl (SY hH rx ry e k)
theorem UX:da K (fun x y H Q=>yk K x y H Q\/∃a v,x=.ref a/\eh H a y (some v)/\Q v H) ag:=by
 intro φ ph H x y vx vy w ph' Q hH rx ry e k;unfold ag at e;split at e
 ·rename_i p hp;obtain⟨i,kws⟩:=p;obtain⟨rfl,hi,hd,rfl⟩:=ll hH rx hp;split at e
  ·rename_i hk;cases q:c4 kws y with
   | none=>rw[q] at e;cases e
   | some u=>
    rw[q] at e;cases e;obtain⟨o,g,ro⟩:=pb hH hd ry hk;rw[q] at ro;cases o with
    | none=>exact ro.elim
    | some v=>
     rcases g with g | ⟨z,_⟩
     ·exact .inr ⟨_,v,rfl,g,k φ H _ hH Step.refl ro⟩
     ·cases z
  ·cases e
 ·exact .inl (UI hH rx ry e k)
section
variable{X:Cx}{a b o i:Expr}{ma mb mo mi:EM}{pos:Pos}{N:List Str}{sc:Scope}{k:Nat}
theorem fh.Tg(B:fh X N sc k)(hp:vV b)(ha:JE X a ma)(hb:JE X b mb):JE X (.Subscript a b pos) (ab ag ma mb):=
 ⟨PE.imp (Uw (gV.or Sf (QU (gm B.room))) ha.h hb.h hp) fun _ _ _ h=>sO UX h⟩
theorem fh.tW(B:fh X N sc k)(h:aaQ .In b=false):Cp X .In b c6:=⟨⟨_,bu.or (SX B.room.units) (Te (gm B.room)),UW⟩,h⟩
theorem fh.xo(B:fh X N sc k)(h:aaQ .NotIn b=false):Cp X .NotIn b fT:=⟨⟨_,bu.or (QD B.room.units) (QT (gm B.room)),Tf⟩,h⟩
theorem ka.or{t t':tH}(h:ka X t)(h':ka X t'):ka X (fun o i v H Q=>t o i v H Q\/t' o i v H Q):=by
 intro pins s σ H o i v ov iv u Q I ro ri rv q
 rcases q with q | q
 ·exact h pins s σ H o i v ov iv u Q I ro ri rv q
 ·exact h' pins s σ H o i v ov iv u Q I ro ri rv q
noncomputable def fu(o i:EM):GM:=fun v σ=>aq (o σ) fun ow=>aq (i σ) fun iw=>aq (lift (nT ow iw v)) fun _=>au σ
theorem fh.iX(B:fh X N sc k)(ho:JE X o mo)(hi:JE X i mi)(ha:∀v,adB (.Subscript o i pos) X.env v=(do
   let ov <- holding [v] (eval o X.env)
   let iv <- holding [v,ov] (eval i X.env)
   standAt pos
   holding [v,ov,iv] (setItem ov iv v)
   release [v,ov,iv] []):=by intro _;rfl):JG X (.Subscript o i pos) (fu mo mi):=
 ⟨PG.imp (RT ho.h hi.h (ka.or set_list (set_dict (gm B.room))) ha) fun v σ H Q h=>by
  obtain⟨φ,ph,ws,w,hH,hS,rv,h⟩:=h;refine tM.bind hH hS h fun ow ph1 av H1 vo aE s1 ro h=>tM.bind aE (hS.mono s1) h fun iw ph2 aV H2 vi aX s2 ri h=>?_
  rw[cG] at h;obtain⟨_,iP,e,k⟩:=run_lift h;have F4:=ro.mono s2;have ul:=(rv.mono s1).mono s2;unfold nT at e;split at e
  ·rename_i p hp;obtain⟨r,kws⟩:=p;obtain⟨rfl,hr,hd,rfl⟩:=ll aX F4 hp;split at e
   ·rename_i hk;cases e;obtain⟨H',g,q1,q2⟩:=BB aX hr hd ri ul hk.1 hk.2;exact .inr ⟨_,H',rfl,g,k aV _ σ q1 ((s1.trans s2).trans q2) (((hS.mono s1).mono s2).mono q2)⟩
   ·cases e
  ·unfold E0 at e;split at e
   ·rename_i r k';split at e
    ·rename_i cU hw;split at e
     ·rename_i j hj;cases e;cases F4 with
      | ref cB=>
       cases ri;obtain⟨us,hu,ru⟩:=aX.hp _ _ hw;obtain⟨q1,q2⟩:=sy aX hw (ru.set ul j);exact .inl ⟨_,us,_,j,rfl,rfl,hu,by rw[<- ru.length];exact hj,k aV _ σ q1 ((s1.trans s2).trans q2) (((hS.mono s1).mono s2).mono q2)⟩
     ·cases e
    ·cases e
   ·cases e⟩
end
noncomputable def nU:W->Option Int
 | .int i=>some i
 | _=>none
noncomputable def xp(w:W)(ph:PH):Option (List Int):=if cz w ph=true then(cj w ph).bind (bc nU) else none
noncomputable def pJ(f:Nat->Int):Nat->Int
 | 0=>f 0
 | k+1=>if f (k+1)<pJ f k then f (k+1) else pJ f k
section
variable{X:Cx}
theorem Pm(f:Nat->Int):∀k,f (argBest (fun i j=>decide (f i<f j)) k)=pJ f k
 | 0=>rfl
 | k+1=>by
  have ih:=Pm f k;unfold argBest pJ;rw[ih];by_cases h:f (k+1)<pJ f k
  ·simp[h]
  ·simp[h,ih]
theorem sD{K:Zc}{φ:Nat->Addr}{n:Nat}{H:Hp}:∀{ws:List W} {vs:List V} {ns:List Int},aT K φ n H ws vs->bc nU ws=some ns->vs=ns.map V.int
 | _,_,_,.nil,e=>by cases e;rfl
 | w::ws,_,bs,.cons h r,e=>by
  unfold bc at e;split at e
  ·rename_i b WC e1 e2;cases e;have q:=sD r e2;unfold nU at e1;cases h <;> cases e1
   rw[q];rfl
  ·cases e
theorem Oa{K:Zc}{φ:Nat->Addr}{ph:PH}{H:Hp}{w:W}{v:V}{ns:List Int}(hH:aD K φ ph H)(r:aJ K φ ph.length H w v)(e:xp w ph=some ns):∃p,v=.ref p/\bo K H p (ns.map V.int):=by
 unfold xp at e;split at e
 ·rename_i hL;cases r with
  | ref hi=>
   unfold cz at hL;simp only at hL;split at hL
   ·rename_i ws hw;obtain⟨vs,hv,rs⟩:=hH.hp _ _ hw;simp only[cj,hw,aau] at e;rw[sD rs e] at hv;exact⟨_,rfl,bo.of hv⟩
   ·cases hL
  | fl h rs=>
   simp only[cj,aau] at e;have q:=sD rs e;subst q;exact⟨_,rfl,h.sq⟩
  | _=>cases hL
 ·cases e
end
noncomputable def bH:W->W->Po W:=fun x y ph=>match x,y with
 | .ref i,.int k=>match ph[i]? with
  | some (.lst ws)=>if -(2 ^ 63)<=k/\k<2 ^ 63/\ws.length*k.toNat<=Zt then some (.ref ph.length,ph++[.lst (Zi k.toNat ws).flatten]) else none
  | _=>none
 | x,y=>nM x y ph
theorem aT.rep{K:Zc}{φ:Nat->Addr}{n:Nat}{H:Hp}{ws:List W}{vs:List V}(r:aT K φ n H ws vs):∀k:Nat,aT K φ n H (Zi k ws).flatten (Zi k vs).flatten
 | 0=>.nil
 | k+1=>by
  rw[aae,aae,aaK,aaK];exact r.append (aT.rep r k)
theorem Th:da K (fun x y H Q=>(rI pR fun i j=>.int (i*j)) x y H Q\/EY x y H Q) bH:=by
 intro φ ph H x y vx vy w ph' Q hH rx ry e k;unfold bH at e;split at e
 ·rename_i i j;split at e
  ·rename_i ws hw;split at e
   ·rename_i hz;cases e;cases rx with
    | ref hi=>
     cases ry;obtain⟨us,hu,ru⟩:=hH.hp _ _ hw;refine .inr ⟨_,_,us,rfl,rfl,hu,hz.1,hz.2.1,by rw[<- ru.length];exact hz.2.2,fun p hp=>?_⟩;obtain⟨q1,q2,q3⟩:=jM hH (ru.rep j.toNat) hp;exact k _ _ _ q1 q2 q3
   ·cases e
  ·cases e
 ·exact .inl (SR hH rx ry e k)
theorem ft{a b:Expr}{ma mb:EM}(ha:JE X a ma)(hb:JE X b mb):JE X (.BinOp a .Mult b pos) (ab bH ma mb):=⟨pG (bu.or R5 Sj) Th ha.h hb.h⟩
theorem Nt{e:Expr}{gens:List Comprehension}{scope:Scope}{pos':Pos}{x:Str}{line:Nat}(hx:env.scope.names.lookup x=some .cell):abw (.ListComp e gens scope p) (some (.Name x pos')) line env=pure false:=by
 have e1:(env.kindOf x==some .local)=false:=by unfold Env.kindOf;rw[hx];rfl
 show pure (env.blockKind==.function&&env.kindOf x==some .local&&pos'.line==p.line&& !(scope.names.any fun y=>y.1==x&&(y.2==.local||y.2==.cell)))=_;rw[e1,Bool.and_false,abQ,abQ]
theorem dN.xq{N:List Str}{sc:Scope}(B:dN X N sc)(i:Nat){x:Str}{e:Expr}{gens:List Comprehension}{scope:Scope}{pos':Pos}(hN:N[i]? =some x)(hl:Loc sc x)(hx:X.env.scope.names.lookup x=some .cell)(he:JE X (.ListComp e gens scope p) m):JS X (.Assign [.Name x pos'] (.ListComp e gens scope p) pos) (aI m (gN i)):=⟨B.set i hN hl he.h (Nt hx)⟩
section
variable{prog:aah}{w:World}{A:abd}{E:Value->Zh->Prop}{s:Zh}{a:Addr}
theorem Mn:typeLookup (.type "list") "keys"=pure none:=am_miss_of_fast (by decide +kernel)
theorem QV{o:Obj}{xs:Array Value}{k:Nat}{Q:Option Value->Zh->Prop}(hx:s.heap.get? a=some o)(hc:o.cls=.type "list")(E1:o.data=.seq xs k)(hd:o.dict=none)(hA:A.handled=none)
  (h:∀h' tk,(∀b ob,s.heap.get? b=some ob->h'.get? b=some ob)->Q none { s with heap:=h',toks:=tk }):wpAny (model prog w) A (getAttr? (.ref a) "keys") Q E s:=by
 obtain⟨c,aF,dat,sl⟩:=o;simp only at hc E1 hd;subst hc E1 hd;obtain⟨hp,g,d,tk,os⟩:=s;have hT:∀F5,(⟨hp,g,d,F5,os⟩:Zh).TypeIs (.ref a) "list":=fun _=>⟨_,hx,rfl⟩
 have f1:=sub_AttributeError;have f3:=abI.lookup;have f4:=abI.bind (.ref a);have f5:=am_list_getattr_none;unfold getAttr? getAttrBy? getAttrBy
 repeat (any_goals (first | assumption | exact hT _ | ((with_reducible show wpAny _ _ (call (Value.builtin "list.__getattribute__") _ _) _ _ _);refine acE abI (hT _) am_entry_list_getattribute (F.args_list_getattribute_2 _ _) (meets_getattribute_miss_list a xs k sl "keys" _ Mn (by decide)) ⟨hx,hA,fun h' F5 e iS=>?_⟩) | wp_step))
 obtain⟨t',u',he⟩:=iS.there;show wpAny _ _ (getattributeRaised _ _ _ _ _ _ _) _ _ _;unfold getattributeRaised
 repeat (any_goals (first | assumption | wp_step))
 exact h _ _ iS.keeps
end
noncomputable def tm(d:Addr):Hp->List (V×V)->Hp->Prop
 | H,[],H'=>H'=H
 | H,p::r,H'=>∃H1,iz H d p.1 p.2 H1/\tm d H1 r H'
abbrev wJ(H:Hp):List V->List (V×V)->Prop:=abR fun v p=>∃T,v=.ref T/\H T=some (.tup [p.1,p.2])
variable{H':Hp}
theorem iz.other{b:Addr}{y:V}(h:iz H a y v H')(hb:b≠a):H' b=H b:=by
 rcases h with(⟨_,_,_,_,_,e⟩ | ⟨_,_,_,_,_,_,_,e⟩) | ⟨_,_,_,_,_,e⟩ | ⟨_,_,_,e⟩ <;> rw[e,aM hb]
theorem iz.dict{y:V}(h:iz H a y v H'):(∃kvs,H a=some (.dK kvs))\/∃kvs,H a=some (.dT kvs):=by
 rcases h with(⟨_,_,e,_⟩ | ⟨_,_,_,e,_⟩) | ⟨e,_⟩ | ⟨e,_⟩
 ·exact .inl ⟨_,e⟩
 ·exact .inr ⟨_,e⟩
 ·exact .inl ⟨_,e⟩
 ·exact .inr ⟨_,e⟩
theorem iz.ne{b:Addr}{y:V}(h:iz H a y v H')(hb:H b=some o)(h1:∀kvs,o≠.dK kvs)(h2:∀kvs,o≠.dT kvs):b≠a:=by
 rcases h.dict with⟨kvs,e⟩ | ⟨kvs,e⟩
 ·exact gk hb e (h1 _)
 ·exact gk hb e (h2 _)
section
variable{X:Cx}{pins:List (Addr×Obj)}{σ:L2.St}{H:Hp}{s:Zh}{a:Addr}{y v:V}{u r:Value}{A:abd}{E:Value->Zh->Prop}
theorem xr{H':Hp}{Q:Unit->Zh->Prop}(hu:A.units<cLine)(I:Inv X pins σ H s)(g:lO H a y v H')(ry:RelV y u)(rv:RelV v r)
  (h:∀h' t,Inv X pins σ H' { s with heap:=h',toks:=t }->abS a s.heap h'->Q () { s with heap:=h',toks:=t }):wpAny (model X.prog X.w) A (dictSet a u r) Q E s:=by
 rcases g with⟨kvs,k,e,ey,l,eH⟩ | ⟨kvs,k,b,e,ey,eb,l,eH⟩
 ·subst ey eH;obtain⟨z,hd,vs,rel,dd⟩:=pF I.ay e;have hz:vs.length<=sizeLine:=by rw[<- rel.length];exact z
  have hl:(putK kvs k v).length<=sizeLine:=by have:=rT kvs k v;omega
  refine wpAny_dictSet_pairs (hsz:=hz) (jX ry) dd fun h' js hs=>h _ _ ?_ hs
  have he:∃q,h'.get? a=some q:=let ⟨q,_,_,hq,_⟩:=js;⟨q,hq⟩
  exact sN I (by rw[e];exact acF) hs he (CU hl hd (rel.put k rv) js)
 ·subst ey eH;cases(show u=aaL b from ry);obtain⟨z,hd,xs,rel,dd⟩:=xf I.ay e;have hz:xs.length<=sizeLine:=by rw[<- acJ rel];exact z
  have hl:(putK kvs k v).length<=sizeLine:=by have:=rT kvs k v;omega
  refine wpAny_dictSet_heap (hsz:=hz) hu (jS I.ay eb) dd fun h' js hs=>h _ _ ?_ hs
  obtain⟨q,es,ep,hq,h2,h3,h4,_,h5⟩:=js;refine sN I (by rw[e];exact acF) hs ⟨q,hq⟩ ⟨hl,hd,_,(rel.put k eb rv).keeps fun c ys ec=>?_,q,es,ep,hq,h2,h3,h4,h5⟩;rw[aM (gk ec e (fun z=>nomatch z))];exact ec
theorem Ti{H':Hp}{Q:Unit->Zh->Prop}(hu:A.units<cLine)(I:Inv X pins σ H s)(g:iz H a y v H')(ry:RelV y u)(rv:RelV v r)
  (h:∀h' t,Inv X pins σ H' { s with heap:=h',toks:=t }->abS a s.heap h'->Q () { s with heap:=h',toks:=t }):wpAny (model X.prog X.w) A (dictSet a u r) Q E s:=by
 rcases g with g | ⟨e,k,b,ey,eb,eH⟩ | ⟨e,k,ey,eH⟩
 ·exact xr hu I g ry rv h
 ·subst ey eH;have g:lO (upd H a (.dT [])) a (.ref b) v (upd (upd H a (.dT [])) a (.dT (putK [] k v))):=.inr ⟨[],k,b,bp,rfl,by rw[aM (gk eb e (fun z=>nomatch z))];exact eb,by decide,rfl⟩;refine xr hu (iu I e) g ry rv fun h' t I3 hs=>h h' t ?_ hs
  rw[pg] at I3;exact I3
 ·subst ey eH;have g:lO (upd H a (.dK [])) a (kV k) v (upd (upd H a (.dK [])) a (.dK (putK [] k v))):=.inl ⟨[],k,bp,rfl,by decide,rfl⟩;refine xr hu (gO I e) g ry rv fun h' t I3 hs=>h h' t ?_ hs
  rw[pg] at I3;exact I3
end
theorem zV:entryFor table "dict.update.loop"=some Builtin.«dict.update.loop»:=entryFor_of_tree (by kernel_rfl)
theorem rp:plainId "dict.update.loop"=true:=by decide +kernel
section
variable{X:Cx}{pins:List (Addr×Obj)}{σ:L2.St}{A:abd}{R:Result->Zh->Prop}
theorem Cc{H:Hp}{s:Zh}{h':Heap}{it:Addr}(I:Inv X pins σ H s)(k:∀b u,b≠it->s.heap.get? b=some u->h'.get? b=some u)(hf:fx X pins H it):Inv X pins σ H { s with heap:=h' }:=
 B9 (s:=s) (h':=h') (t':=s.toks) (fp:=[it]) I (fun b o hb q=>k b o (fun z=>hb (by simp[z])) q) (fun b hb=>by
  have:b=it:=by simpa using hb
  subst this;exact hf)
theorem pair_items{T:Addr}{ot:Obj}{uk uv:Value}{nt:Nat}{s:Zh}{E:Value->Zh->Prop}{Q:List Value->Zh->Prop}(oA:s.heap.get? T=some ot)(yH:ot.cls=.type "tuple")(qq:ot.data=.seq #[uk,uv] nt)(h:Q [uk,uv] s) :
  wpAny (model X.prog X.w) A (acY (.ref T)) Q E s:=by
 unfold acY;refine Zu (wpAny_typeOf (T:="tuple") ⟨_,oA,yH⟩ ?_);rw[if_pos (by decide)];exact Zu (wpAny_seqItems oA qq (ZZ h))
theorem AZ(hA:A.handled=none)(hu:A.units+1<cLine){d it l:Addr}{xs:List V}:∀(ps:List (V×V)) (i:Nat) (t:Tok) (s:Zh) (H H':Hp),Inv X pins σ H s->H l=some (.lst xs)->fx X pins H it->it≠d->s.heap.IsListIter it l i →
  wJ H (xs.drop i) ps->tm d H ps H'->(∀s',Inv X pins σ H' s'->R (.ok (.ret .none)) s')->codeAny (model X.prog X.w) A (.builtin "dict.update.loop" ⟨[.ref d,.ref it,.int i t,.none],[]⟩) R s
 | [],i,t,s,H,H',I,hl,hf,jx,hit,hp,hF,k=>by
  obtain rfl:H'=H:=hF;obtain⟨its,rv,pl,hz⟩:=I.list (bo.of hl);have hd:xs.drop i=[]:=by
   generalize xs.drop i=z at hp;cases hp;rfl
  have oB:xs.length<=i:=by simpa using hd
  refine acl zV ?_;rw[abu rp _];show wpAny _ A.in1 (pyNext (.ref it) >>= _) _ _ s;refine Zu (wpAny_pyNext_list_end (A:=A.in1) hA hit pl.isList (by have:=rv.length;simp;omega) fun h' eb=>?_);show wpAny _ A.in1 (Builtin.Dict.addKeywords d [] >>= fun _=>PySem.ret adP) _ _ _;refine Zu (ZZ ?_);refine ZZ (k _ ?_);exact Cc I (fun b o hb q=>eb b o hb q) hf
 | p::ps,i,t,s,H,H',I,hl,hf,jx,hit,hp,hF,k=>by
  obtain⟨H1,nV,hF⟩:=hF;obtain⟨its,rv,pl,hz⟩:=I.list (bo.of hl);cases hd:xs.drop i with
  | nil=>rw[hd] at hp;cases hp
  | cons x ys=>
   rw[hd] at hp;cases hp with
   | cons hx hp=>
    obtain⟨T,rfl,hT⟩:=hx;have W2:xs[i]? =some (.ref T):=by
     have:=congrArg (fun l=>l[0]?) hd
     simpa using this
    have W3:xs.drop (i+1)=ys:=by
     have:=congrArg (fun l=>l.drop 1) hd
     simpa[adC,adh] using this
    obtain⟨u,W4,ru⟩:=rv.get W2;obtain rfl:u=aaL T:=ru;refine acl zV ?_;rw[abu rp _];show wpAny _ A.in1 (pyNext (.ref it) >>= _) _ _ s;refine Zu (wpAny_pyNext_list_item hit pl.isList (x:=.ref T) (by simpa using W4) fun h1 VV yI=>?_);have I1:Inv X pins σ H { s with heap:=h1 }:=Cc I (fun b o hb q=>yI.extBut b o hb q) hf;obtain⟨iA,F6,pt,_⟩:=I1.tuple (b8.of hT);obtain⟨uk,uv,e2,rk,W5⟩:=Vals.two F6;subst e2;obtain⟨ot,oA,yH,nt,qq⟩:=pt;have xT:it≠d:=jx;simp only[];refine Zu (abJ (Zu (wpAny_tryCatch (pair_items oA yH qq ?_))));simp only[];refine abJ (Ti hu I1 nV rk W5 fun h2 t2 I2 qr=>?_);refine ZZ ⟨plainId_quiet rp _,?_⟩;have W6:l≠d:=nV.ne hl (fun _ z=>nomatch z) (fun _ z=>nomatch z);refine AZ hA hu ps (i+1) 0 _ H1 H' I2 (by rw[nV.other W6];exact hl) ⟨by rw[nV.other xT];exact hf.1,hf.2⟩ xT (VV.at fun o q=>(qr.2 it xT).trans q) ?_ hF k;rw[W3];exact abR.j9 hp fun _ _ ⟨T',e1,e2⟩=>⟨T',e1,by rw[nV.other (nV.ne e2 (fun _ z=>nomatch z) (fun _ z=>nomatch z))];exact e2⟩
end
noncomputable def DZ:List V->Hp->VK->Prop:=fun xs H Q=>∃l vs ps,xs=[.ref l]/\H l=some (.lst vs)/\wJ H vs ps/\∀d,H d=none->∃H',tm d (upd H d (.dK [])) ps H'/\Q (.ref d) H'
section
variable{X:Cx}
theorem Ob(hc:X.calm=true)(hu:X.A.units+64<cLine):cH X (.type "dict") DZ:=by
 intro pins s σ H xs us Q I r h;obtain⟨l,vs,ps,rfl,hl,hp,h⟩:=h;obtain⟨u,rfl,rx⟩:=vals1 r;obtain rfl:u=aaL l:=rx;have hA:X.A.handled=none:=I.ok.hd hc;have hn:=I.ay.fresh (Zf s.heap.objs.size);obtain⟨H',hF,hq⟩:=h s.heap.objs.size hn;refine callType_codes (Q₁:=fun obj bg=>obj=.ref s.heap.objs.size/\bg={ s with heap:=s.heap.push { cls:=.type "dict",data:=.dict #[] } }) F.kt_called_dict (F.kt_typeCall_dict_1 _) F.entry_dict_init (kt_code_dict_new _ ⟨rfl,rfl⟩) ?_;rintro obj bg ⟨rfl,rfl⟩;have fR:(s.heap.push { cls:=.type "dict",data:=.dict #[] }).DictOf (cX X.prog X.w) s.heap.objs.size []:=aec s.heap;have VW:(s.heap.objs.size==aaW)=false:=beq_eq_false_iff_ne.mpr (aaI I.big);have I1:Inv X pins σ (upd H s.heap.objs.size (.dK [])) { s with heap:=s.heap.push { cls:=.type "dict",data:=.dict #[] } }:=
  I.laid (t':=s.toks) (fun b u q=>Zk _ q) (Zf _) ⟨aaF _,VW,[],.nil,fR⟩
 refine⟨fR.typeIs,F.args_dict_init_2 _ _,?_⟩;have qt:l≠s.heap.objs.size:=bN hl hn;have yJ:upd H s.heap.objs.size (.dK []) l=some (.lst vs):=by rw[aM qt];exact hl
 obtain⟨its,rv,pl,hz⟩:=I1.list (bo.of yJ);unfold Builtin.«dict.__init__»;refine Zu ?_;unfold Builtin.Dict.selfAndRest;refine Zu (wpAny_notOrdered_dict fR.typeIs ?_);show wpAny _ _ (pure (s.heap.objs.size,[aaL l])) _ _ _;refine ZZ ?_;show wpAny _ _ (acR "dict.__init__" s.heap.objs.size (.ref l) [] .none) _ _ _;unfold acR;obtain⟨ol,W7,d7,n,YQ⟩:=pl.isList;have hT:({ s with heap:=s.heap.push { cls:=.type "dict",data:=.dict #[] } }:Zh).TypeIs (.ref l) "list":=⟨_,W7,d7⟩
 refine Zu (wpAny_typeOf hT ?_);rw[if_pos (by decide)];obtain⟨oq,nq,W8,W9,Xa,Xb⟩:=pl;refine Zu ((QV (A:=X.A.in1.in1) W8 W9 Xb Xa hA fun h1 t1 k1=>?_));simp only[Option.isNone_none,if_true];refine Zu (wpAny_rule ?_);have I2:Inv X pins σ (upd H s.heap.objs.size (.dK [])) { s with heap:=h1,toks:=t1 }:=I1.kept (t':=t1) k1;obtain⟨iA,F6,Xc,YR⟩:=I2.list (bo.of yJ);refine Zu (wpAny_pyIter_list Xc.isList ?_);refine ZZ ⟨plainId_quiet rp _,?_⟩;have hd:s.heap.objs.size<h1.objs.size:=Zl (k1 _ _ (ZH _ rfl));have I3:Inv X pins σ (upd H s.heap.objs.size (.dK [])) { s with heap:=h1.push { cls:=.type "list_iterator",data:=.fields #[.ref l,.int 0 0] },toks:=t1 }:=I2.kept (t':=t1) fun b u q=>Zk _ q
 refine AZ (X:=X) (pins:=pins) (σ:=σ) (A:=X.A.in1) hA (by show X.A.units+1+1<cLine;omega) ps 0 0 _ _ H' I3 yJ (I2.pQ (Zf _) (I2.ay.fresh (Zf _))) (aaI hd) ⟨_,ZH _ rfl,rfl,rfl⟩ ?_ hF fun s' I'=>?_
 ·exact abR.j9 hp fun _ _ ⟨T',e1,e2⟩=>⟨T',e1,by rw[aM (bN e2 hn)];exact e2⟩
 ·exact⟨rfl,.ref s.heap.objs.size,H',I',rfl,hq⟩
end
noncomputable def lI:List (W×W)->List (W×W)->Option (List (W×W))
 | d,[]=>some d
 | d,p::r=>if cQ d p.1=true/\d.length<Zt then lI (dw d p.1 p.2) r else none
noncomputable def pK:W->Option (W×W)
 | .tup [a,b]=>some (a,b)
 | _=>none
noncomputable def nC:List W->Po W:=fun xs ph=>match xs with
 | [.ref i]=>match ph[i]? with
  | some (.lst ws)=>match bc pK ws with
   | some ps=>match lI [] ps with
    | some d=>some (.ref ph.length,ph++[.aF d])
    | none=>none
   | none=>none
  | _=>none
 | _=>none
abbrev D0(K:Zc)(φ:Nat->Addr)(n:Nat)(H:Hp):List (W×W)->List (V×V)->Prop:=abR fun p q=>aJ K φ n H p.1 q.1/\aJ K φ n H p.2 q.2
theorem BC{K:Zc}{φ:Nat->Addr}{i:Nat}:∀{ps:List (W×W)} {qs:List (V×V)} {ph:PH} {H:Hp} {d d':List (W×W)},aD K φ ph H->i<ph.length->ph[i]? =some (.aF d)->D0 K φ ph.length H ps qs->lI d ps=some d' →
  ∃H',tm (φ i) H qs H'/\aD K φ (ph.set i (.aF d')) H'/\Step K φ ph.length H φ ph.length H'
 | [],qs,ph,H,d,d',hH,hi,hd,hr,e=>by
  cases hr;cases e;refine⟨H,rfl,?_,Step.refl⟩;have:ph.set i (.aF d)=ph:=by
   apply abr
   intro j;by_cases hj:i=j
   ·subst hj;rw[aad hi,hd]
   ·rw[aas hj]
  rw[this];exact hH
 | p::ps,qs,ph,H,d,d',hH,hi,hd,hr,e=>by
  cases hr with
  | cons h r=>
   unfold lI at e;split at e
   ·rename_i hk;obtain⟨H1,hp,aE,s1⟩:=BB hH hi hd h.1 h.2 hk.1 hk.2;rw[aal] at s1;have hl:(ph.set i (.aF (dw d p.1 p.2))).length=ph.length:=aal ..;obtain⟨H2,hF,aX,s2⟩:=BC (ph:=ph.set i (.aF (dw d p.1 p.2))) aE (by rw[hl];exact hi) (aad hi) (by rw[hl];exact abR.j9 r fun _ _ z=>⟨z.1.mono s1,z.2.mono s1⟩) e;rw[hl] at s2;rw[List.set_set] at aX;exact⟨H2,⟨H1,hp,hF⟩,aX,s1.trans s2⟩
   ·cases e
theorem A0{K:Zc}{φ:Nat->Addr}{n:Nat}{H:Hp}:∀{ws:List W} {vs:List V} {ps:List (W×W)},aT K φ n H ws vs->bc pK ws=some ps->∃qs,wJ H vs qs/\D0 K φ n H ps qs
 | _,_,ps,.nil,e=>by cases e;exact⟨[],.nil,.nil⟩
 | _,_,ps,.cons h r,e=>by
  unfold bc at e;split at e
  ·rename_i b bs e1 e2;cases e;obtain⟨qs,h1,h2⟩:=A0 r e2;unfold pK at e1;split at e1
   ·cases e1;cases h with
    | tup hT rt=>
     cases rt with
     | cons ra rt=>
      cases rt with
      | cons rb rt=>
       cases rt;exact⟨(_,_)::qs,.cons ⟨_,rfl,hT⟩ h1,.cons ⟨ra,rb⟩ h2⟩
   ·cases e1
  ·cases e
theorem QW:fQ K DZ nC:=by
 intro φ ph H xs vs w ph' Q hH r e k;unfold nC at e;split at e
 ·rename_i i;split at e
  ·rename_i ws hw;split at e
   ·rename_i ps Xd;split at e
    ·rename_i d hd;cases e;cases r with
     | cons r rr=>
      cases rr;cases r with
      | ref hi=>
       obtain⟨us,hu,ru⟩:=hH.hp _ _ hw;obtain⟨qs,h1,h2⟩:=A0 ru Xd;refine⟨_,us,qs,rfl,hu,h1,fun p hp=>?_⟩;obtain⟨q1,q2,q3⟩:=Bz hH hp;have hl:(ph++[PO.aF []]).length=ph.length+1:=by simp
       obtain⟨H',hF,F7,s'⟩:=BC (i:=ph.length) (d:=[]) q1 (by rw[hl];exact aaP _) (by simp) (abR.j9 h2 fun _ _ z=>⟨z.1.mono q2,z.2.mono q2⟩) hd;have he:(ph++[PO.aF []]).set ph.length (.aF d)=ph++[.aF d]:=by simp
       have gW:(ph++[PO.aF d]).length=(ph++[PO.aF []]).length:=by simp
       rw[he] at F7;rw[jT] at hF;refine⟨H',hF,k _ H' _ F7 (by rw[gW];exact q2.trans s') (by rw[gW];exact q3.mono s')⟩
    ·cases e
   ·cases e
  ·cases e
 ·cases e
noncomputable def UY:HO->Prop
 | .dK _=>True
 | .dT _=>True
 | _=>False
section
variable{K:Zc}{φ:Nat->Addr}{n:Nat}{H:Hp}{d:Addr}{o:Obj}{u:HO}(e:H d=some (.aO o u))(hu:UY u)(hc:o.cls=.type "dict")
include e hu hc
omit hc in
end
noncomputable def Tj(kws:List (W×W)):List W:=kws.map fun p=>.tup [p.1,p.2]
noncomputable def UZ(i:Nat)(kws:List (W×W))(L:Nat):Mo W:=fun ph=>if ph[i]? =some (.jt kws) then .ok (.ref L) (ph.set i (.aF kws)) else .no
noncomputable def Yy(m:EM)(cap:List (Option Nat))(g:GM)(c:TM)(e:EM):EM:=fun σ=>aq (m σ) fun w ph=>match dY w ph with
 | some p=>aq (du (fun _=>true) g c e ph.length (Tj p.2) (fA cap σ)) (fun _=>UZ p.1 p.2 ph.length) (ph.set p.1 (.jt p.2)++[.lst []])
 | none=>.no
noncomputable def fB(w:W)(ph:PH):Bool:=(dY w ph).isSome
theorem jU:ox K "dict" fB:=by
 intro φ ph H x vx hH rx e;unfold fB at e;obtain⟨⟨i,kws⟩,hp⟩:=aan.mp e;obtain⟨rfl,hi,hd,rfl⟩:=ll hH rx hp
 rcases hH.hp i _ hd with⟨kvs,q,_⟩ | ⟨kvs,q,_⟩
 ·exact .inr (.inr (.inl ⟨rfl,.inl ⟨kvs,q⟩⟩))
 ·exact .inr (.inr (.inl ⟨rfl,.inr ⟨kvs,q⟩⟩))
noncomputable def E3:V->List V->Hp->VK->Prop:=fun x ys H Q=>∃a y o,x=.ref a/\nB H a y o/\((ys=[y]/\Q (o.getD .aG) H)\/∃d,ys=[y,d]/\Q (o.getD d) H)
noncomputable def fC:W->List W->Po W:=fun x xs ph=>match dY x ph with
 | some p=>match xs with
  | [y]=>if cQ p.2 y=true then some ((c4 p.2 y).getD .aG,ph) else none
  | [y,z]=>if cQ p.2 y=true then some ((c4 p.2 y).getD z,ph) else none
  | _=>none
 | none=>none
theorem lT.getD{K:Zc}{φ:Nat->Addr}{n:Nat}{H:Hp}{a:Option W}{b:Option V}{z:W}{y:V}(h:lT K φ n H a b)(r:aJ K φ n H z y):aJ K φ n H (a.getD z) (b.getD y):=by
 cases a <;> cases b <;> first | exact r | exact h | exact h.elim
theorem jV(hu:X.A.units+1<cLine):oi X "dict.get" E3:=by
 intro pins s σ H x xs v us Q I rx rv h;obtain⟨a,y,o,rfl,g,h⟩:=h;obtain rfl:v=aaL a:=rx
 rcases h with⟨rfl,q⟩ | ⟨d,rfl,q⟩
 ·obtain⟨u,rfl,ru⟩:=rv.one
  rcases g with g | ⟨rfl,⟨e,k,b,ey,eb⟩ | ⟨e,k,ey⟩⟩
  ·exact wu hu I g ru fun w' s' I' r'=>⟨_,H,I',r',q⟩
  ·subst ey;have g:eh (upd H a (.dT [])) a (.ref b) none:=.inr ⟨[],k,b,.inl bp,rfl,by rw[aM (gk eb e (fun z=>nomatch z))];exact eb,rfl⟩;exact wu hu (iu I e) g ru fun w' s3 I3 r'=>⟨_,H,by have:=gO I3 bp;rwa [jN e] at this,r',q⟩
  ·subst ey;have g:eh (upd H a (.dK [])) a (kV k) none:=.inl ⟨[],k,.inl bp,rfl,rfl⟩;exact wu hu (gO I e) g ru fun w' s3 I3 r'=>⟨_,H,by have:=iu I3 bp;rwa [jN e] at this,r',q⟩
 ·obtain⟨u,u2,rfl,ru,rd⟩:=Vals.two rv
  rcases g with g | ⟨rfl,⟨e,k,b,ey,eb⟩ | ⟨e,k,ey⟩⟩
  ·exact wz hu I g ru rd fun w' s' I' r'=>⟨_,H,I',r',q⟩
  ·subst ey;have g:eh (upd H a (.dT [])) a (.ref b) none:=.inr ⟨[],k,b,.inl bp,rfl,by rw[aM (gk eb e (fun z=>nomatch z))];exact eb,rfl⟩;exact wz hu (iu I e) g ru rd fun w' s3 I3 r'=>⟨_,H,by have:=gO I3 bp;rwa [jN e] at this,r',q⟩
  ·subst ey;have g:eh (upd H a (.dK [])) a (kV k) none:=.inl ⟨[],k,.inl bp,rfl,rfl⟩;exact wz hu (gO I e) g ru rd fun w' s3 I3 r'=>⟨_,H,by have:=iu I3 bp;rwa [jN e] at this,r',q⟩
theorem jW:kB K "dict" E3 fC:=by
 intro φ ph H x xs vx vs w ph' Q hH rx rs e k;unfold fC at e;split at e
 ·rename_i p hp;obtain⟨i,kws⟩:=p;obtain⟨rfl,hi,hd,rfl⟩:=ll hH rx hp;split at e
  ·split at e
   ·rename_i hk;cases e;cases rs with
    | cons r0 rr=>
     cases rr;obtain⟨o,g,ro⟩:=pb hH hd r0 hk;exact⟨_,_,o,rfl,g,.inl ⟨rfl,k φ H _ hH Step.refl (ro.getD .aG)⟩⟩
   ·cases e
  ·split at e
   ·rename_i hk;cases e;cases rs with
    | cons r0 rr=>
     cases rr with
     | cons r1 rr=>
      cases rr;obtain⟨o,g,ro⟩:=pb hH hd r0 hk;exact⟨_,_,o,rfl,g,.inr ⟨_,rfl,k φ H _ hH Step.refl (ro.getD r1)⟩⟩
   ·cases e
  ·cases e
 ·cases e
noncomputable def E4:W->W->Po W:=oo fun i j=>i+j
section
variable{X:Cx}{N:List Str}{sc:Scope}{e:Expr}{m:EM}{pos pos':Pos}
theorem QX{i:Nat}{g:Int->Int->Int}{D:Ends}{σ:L2.St}{H:Hp}(h:tS X (aI (ab (oo g) (aa i) m) (gN i)) D σ H):EN i (tM X m) (FE g) D σ H:=by
 obtain⟨φ,ph,ws,hH,hS,h⟩:=h;unfold aI ab at h;rw[cG,cG] at h;obtain⟨w,ph',e,k⟩:=run_lift h;split at e
 ·rename_i w' ew;cases e;obtain⟨v,ev,rv⟩:=hS.get ew;refine⟨v,ev,?_⟩;rw[cG] at k;refine⟨φ,ph,ws,hH,hS,k.mono (fun y ph1 k av H1 vy aE s1 ry=>?_) fun _ _ z=>z⟩;obtain⟨z,ph2,e,k⟩:=run_lift k;have ul:=rv.mono s1;unfold oo at e;split at e
  ·cases e;cases ul;cases ry;refine⟨_,_,rfl,rfl,?_⟩;exact k av H1 aE s1 _ ((hS.mono s1).set (.int _) i)
  ·cases e
 ·cases e
theorem dN.U0(B:dN X N sc)(i:Nat){x:Str}(hN:N[i]? =some x)(hl:Loc sc x)(he:JE X e m):JS X (.AugAssign (.Name x pos') .Add e pos) (aI (ab E4 (aa i) m) (gN i)):=
 ⟨PS.imp (RW (by rw[B.hN];exact B.nd) (by rw[B.hN];exact hN) (B.loc x hl) he.h RX (B.fn x hl)) fun _ _ _ h=>QX h⟩
end
noncomputable def aZ(x:Str):Bool:= !(x==("__debug__":Str))&& !(x==("__classdict__":Str))
section
variable{X:Cx}{N:List Str}{sc:Scope}{k:Nat}{b:Expr}
theorem dN.jv{pos:Pos}(B:dN X N sc)(i:Nat){x:Str}(hN:N[i]? =some x)(hv:az sc x)(hk:aZ x=true):JE X (.Name x pos) (aa i):=by
 unfold aZ at hk;rw[Zr] at hk;exact B.VP i hN hv (by simpa using hk.1) (by simpa using hk.2)
theorem fh.ag{pos:Pos}{a:Expr}{ma mb:EM}(B:fh X N sc k)(ha:JE X a ma)(hb:JE X b mb)(hp:vV b:=by intro _ _;rfl):JE X (.Subscript a b pos) (ab ag ma mb):=B.Tg hp ha hb
end
noncomputable def hQ(P:aah)(w:World):Option (Key ⊕ List Key)->Int
 | none=>0xFCA86420
 | some (.inl k)=>xC w k
 | some (.inr ks)=>tupleKeyHash (cX P w) ks
theorem vF:∀{xs:List V} {us:List Value},xs.length=us.length->(∀(j:Nat) x u,xs[j]? =some x->us[j]? =some u->L2.RelV x u)->Vals xs us
 | [],[],_,_=>.nil
 | [],_::_,h,_=>by simp at h
 | _::_,[],h,_=>by simp at h
 | x::xs,u::us,h,k=>.cons (k 0 x u rfl rfl) (vF (by simpa using h) fun j y v h1 h2=>k (j+1) y v (by simpa using h1) (by simpa using h2))
theorem Oc{w:World}{u:Value}(h:(cX P w).is k u=true):L2.RelV (kV k) u:=by
 rcases ig h with⟨i,t,rfl,rfl⟩ | ⟨x,t,rfl,rfl⟩
 ·exact⟨t,rfl⟩
 ·exact⟨t,rfl⟩
section
variable{X:Cx}{pins:List (Addr×Obj)}{σ:L2.St}{H:Hp}{s:Zh}
theorem Cd(I:Inv X pins σ H s){d:Addr}{kvs:List (Key×V)}(hd:H d=some (.dK kvs)\/(H d=some (.dT [])/\kvs=[])):∃vs,KV kvs vs/\s.heap.DictOf (cX X.prog X.w) d vs/\(d==aaW)=false/\kvs.length<=sizeLine:=by
 rcases hd with e | ⟨e,rfl⟩
 ·obtain⟨z,y,vs,rel,dd⟩:=pF I.ay e;exact⟨vs,rel,dd,y,z⟩
 ·obtain⟨z,y,vs,rel,dd⟩:=pF (kvs:=[]) (gO I e).ay bp;exact⟨vs,rel,dd,y,z⟩
theorem A1{kvs:List (Key×V)}{vs:List (Key×Value)}{acc:Array Value}(rel:KV kvs vs)(nW:ItemsOf (fun i v=>∃k x,vs[i]? =some (k,x)/\(cX X.prog X.w).is k v=true) acc vs.length):Vals (kvs.map fun kv=>kV kv.1) acc.toList:=by
 have hk:=rel.keys;refine vF (by have e1:=rel.length;have e2:=nW.1;have e3:acc.toList.length=acc.size:=acf;rw[Zd];omega) fun j x u h1 h2=>?_
 obtain⟨k,y,e,hi⟩:=nW.2 j u (by simpa using h2);rw[Ze] at h1;obtain⟨kv,e1,rfl⟩:=Zn.mp h1;have e2:(kvs.map (·.1))[j]? =some kv.1:=by rw[Ze,e1];rfl
 rw[hk,Ze,e] at e2;have e3:k=kv.1:=by simpa using e2
 rw[<- e3];exact Oc hi
end
noncomputable def wK:List V->Hp->VK->Prop:=fun xs H Q=>∃d kvs,xs=[.ref d]/\(H d=some (.dK kvs)\/(H d=some (.dT [])/\kvs=[]))/\∀p,H p=none->Q (.ref p) (upd H p (.lst (kvs.map fun kv=>kV kv.1)))
section
variable{X:Cx}
theorem Nu(hc:X.calm=true):cH X (.type "list") wK:=by
 intro pins s σ H xs us Q I r h;obtain⟨d,kvs,rfl,hd,h⟩:=h;obtain⟨u,rfl,rx⟩:=vals1 r;obtain rfl:u=aaL d:=rx;obtain⟨vs,rel,dd,y,z⟩:=Cd I hd;obtain⟨ep,gF⟩:=dd.dictAt;refine PySem.W.kdl_call (aea (knd:=cX X.prog X.w) (kvs:=vs) (ep:=ep) y) (I.ok.hd hc) gF (by rw[<- rel.length];exact z) fun h' tk acc c hk hD nW=>⟨.ref s.heap.objs.size,_,I.laid (t':=tk) (a:=s.heap.objs.size) (o:=.lst (kvs.map fun kv=>kV kv.1)) (fun b u q=>hk b u q) (Zf _) ⟨by simpa using z,acc.toList,c,A1 rel nW,by simpa using hD⟩,rfl,h _ (I.ay.fresh (Zf _))⟩
noncomputable def D1(K:Zc):List V->Hp->VK->Prop:=fun xs H Q=>∃(l:Addr) (ns:List Int),xs=[.ref l]/\(bo K H l (ns.map V.int)\/∃kvs:List (Key×V),(H l=some (.dK kvs)\/(H l=some (.dT [])/\kvs=[]))/\(kvs.map fun kv=>kV kv.1)=ns.map V.int)/\ns.length<64 /\
 ∀(p:Addr) (fY:List Int),H p=none->fY.Perm ns->fY.Pairwise (· <= ·)->Q (.ref p) (upd H p (.lst (fY.map V.int)))
theorem Ad:∀{us:List Value} {ns:List Int},adf us ns->Vals (ns.map V.int) us:=by
 intro us ns h;have hl:=adE h;refine vF (by rw[Zd,hl]) fun j x u h1 h2=>?_
 rw[Ze] at h1;obtain⟨n,e1,rfl⟩:=Zn.mp h1;obtain⟨m,t,e,e3⟩:=IntsAre.at h j u h2;rw[e1] at e3;cases e3;exact⟨t,e⟩
theorem gather{A:abd}{E:Value->Zh->Prop}{s:Zh}{T:String}{r d:Addr}{n:Nat}{P:Nat->Value->Prop}{OK:Heap->Prop}{Y:List Value->Zh->Prop}(src:PySem.W.KdlSrc X.prog X.w T r d n P OK)(calm:A.handled=none)(ok:OK s.heap)(fit:n<=Zt)
  (go:∀(h':Heap) (tk:Nat) (acc:Array Value),(∀b o,s.heap.get? b=some o->h'.get? b=some o)->s.heap.objs.size<h'.objs.size->ItemsOf P acc n->Y acc.toList { s with heap:=h',toks:=tk }) :
  wpAny (model X.prog X.w) A (collect (.ref r)) Y E s:=by
 have low:=src.there _ ok;generalize hN:s.heap.objs.size=N at low go;have Xe:(s.heap.push { cls:=.type "list",data:=.seq ([]:List Value).toArray }).get? N=some { cls:=.type "list",data:=.seq #[] }:=by rw[<- hN];exact ZH _ rfl
 have Xf:OK (s.heap.push { cls:=.type "list",data:=.seq ([]:List Value).toArray }):=src.keep _ _ ok fun _ _ _ q=>Zk _ q
 unfold collect;refine Zu (wpAny_runValue (acl entry_proto_collect' ?_));rw[abu F.plain_proto_collect _];refine Zu (m:=newList []) (wpAny_newObj_type (ZZ ⟨plainId_quiet F.plain_list_iadd _,acl entry_list_iadd' ?_⟩));rw[abu F.plain_list_iadd _,hN];have main:=PySem.W.kdl_extend (A:=A) (s:={ s with heap:=s.heap.push { cls:=.type "list",data:=.seq ([]:List Value).toArray } }) src calm Xf N (aaI low.1) (aaI low.2) (.ref N) 0 Xe
  (R:=fun q s'=>q=.ok (.ret (.ref N))/\∃(h':Heap) (tk:Nat) (acc:Array Value) (c:Nat),s'={ s with heap:=h',toks:=tk }/\(∀b o,s.heap.get? b=some o->h'.get? b=some o)/\h'.get? N=some { cls:=.type "list",dict:=none,data:=.seq acc c,slots:= #[] }/\ItemsOf P acc n)
  (fun h' tk acc c k1 k2 k3=>⟨rfl,h',tk,acc,c,rfl,fun b o q=>k1 b o (by rw[<- hN];exact ZE (Zl q)) (Zk _ q),k2,k3⟩) fit
 have last:∀s',(∃(h':Heap) (tk:Nat) (acc:Array Value) (c:Nat),s'={ s with heap:=h',toks:=tk }/\(∀b o,s.heap.get? b=some o->h'.get? b=some o)/\h'.get? N=some { cls:=.type "list",dict:=none,data:=.seq acc c,slots:= #[] }/\ItemsOf P acc n) →
   wpAny (model X.prog X.w) A (do
    let o <- load N
    match o.data with
    | .seq xs _=>pure xs.toList
    | _=>unsupported "internal:collect") Y E s':=by
  rintro s' ⟨h',tk,acc,c,rfl,k1,k2,k3⟩;exact Zu (wpAny_load k2 (ZZ (go h' tk acc k1 (Zl k2) k3)))
 refine aai main (fun fin s' x=>?_) fun e s' x=>nomatch x.1
 cases fin with
 | done f=>
  obtain⟨q,x⟩:=x;cases q;exact last s' x
 | again Za=>
  refine⟨x.1,abW x.2 fun q mC y=>?_⟩;obtain⟨rfl,y⟩:=y;exact last mC y
theorem A2(hc:X.calm=true):cH X (.builtin "sorted") (D1 X.K):=by
 intro pins s σ H xs us Q I r h;obtain⟨l,ns,rfl,hl,um,h⟩:=h;obtain⟨u,rfl,rx⟩:=vals1 r;obtain rfl:u=aaL l:=rx;have YS:(64:Nat)<=sizeLine:=by decide
 rcases hl with hl | ⟨kvs,hd,Xg⟩
 ·obtain⟨its,rv,pl,hz⟩:=I.list hl;have hi:adf its ns:=intsAre_of rv;have qt:=adE hi;refine sorted_ints (vs:=its) pl.isList hi (by omega) fun out fY a1 a2 a3=>?_
  obtain⟨e,he⟩:=sortedAll_at s.heap its out;have gW:=a2.length_eq;exact⟨.ref (s.heap.objs.size+1),_,I.laid (t':=s.toks) (a:=s.heap.objs.size+1) (o:=.lst (fY.map V.int)) (fun b u q=>sortedAll_old q) (abP _) ⟨by rw[Zd];omega,out.toList,e,Ad a1,by simpa using he⟩,rfl,h _ fY (I.ay.fresh (abP _)) a2 a3⟩
 ·obtain⟨vs,rel,dd,y,z⟩:=Cd I hd;obtain⟨ep,gF⟩:=dd.dictAt;refine Calls.call_function_entry kind_sorted plain_sorted entry_sorted (args_sorted1 _) ?_;unfold Builtin.«sorted»;refine Zu (m:=checkCount "sorted" 1 1 _) (ZZ ?_);refine Zu (gather (A:=X.A.in1) (aea (knd:=cX X.prog X.w) (kvs:=vs) (ep:=ep) y) (I.ok.hd hc) gF (by rw[<- rel.length];exact z) fun h' tk acc hk D2 nW=>?_);have rv:=A1 rel nW;rw[Xg] at rv;have hi:adf acc.toList ns:=intsAre_of rv;have qt:=adE hi;refine Zu (wpAny_newList ?_ (by omega));have ho:(h'.push (seqObj "list" acc.toList.toArray 0)).get? h'.objs.size=some (seqObj "list" acc.toList.toArray 0):=ZH _ rfl;refine Zu (abJ (wpAny_call_entry slot_list_sort ⟨_,ho,rfl⟩ entry_list_sort (list_sort_tree ho hi (by omega) fun out fY a1 a2 a3=>⟨_,rfl,?_⟩) (args_list_sort _)));obtain⟨e,he⟩:=sortedHeap_at (out:=out) ho;have gW:=a2.length_eq;refine ZZ ⟨_,rfl,.ref h'.objs.size,_,I.laid (t':=tk) (a:=h'.objs.size) (o:=.lst (fY.map V.int)) (fun b u q=>?_) (abG D2) ⟨by rw[Zd];omega,out.toList,e,Ad a1,by simpa using he⟩,rfl,h _ fY (I.ay.fresh (abG D2)) a2 a3⟩;have hb:=hk b u q;have cB:=Zl hb;rw[sortedHeap_old (ZE cB) (Zg cB (by rw[size_push'];exact abP _)),Heap.get?_push_ne _ _ _ (ZE cB)];exact hb
end
theorem sE{m:Mo α}{N:α->PH->Prop}(h:(cT m ph).Run N E):∃a ph',m ph=.ok a ph'/\N a ph':=by
 unfold cT at h;cases e:m ph with
 | ok a ph'=>rw[e] at h;exact⟨a,ph',rfl,h⟩
 | ex x ph'=>rw[e] at h;exact h.elim
 | no=>rw[e] at h;exact h.elim
noncomputable def qu(body:EM)(cs args:List W):Mo W:=match args,cs with
 | [a],[c]=>cT (body [some a,some c])
 | _,_=>c5
noncomputable def tX(x:Str)(k:List W->Mo W):W->Mo W
 | .fn z cs=>if z=x then k cs else c5
 | _=>c5
noncomputable def gU(x:Str)(body:EM)(i:Nat)(a:AM):EM:=fun σ=>match σ[i]? with
 | some (some w)=>tX x (fun cs=>aq (a σ) fun ws=>qu body cs ws) w
 | _=>c5
structure nX(L:fF)(p q:Str):Prop where
 kind:L.sc.kind=.function
 co:L.sc.isCoroutine=false
 gen:L.sc.isGenerator=false
 cell:∀y∈L.sc.names,y.2≠.cell
 iJ:L.sc.names.lookup p=some .local
 cap:L.sc.names.lookup q=some .free
 only:∀y,L.sc.names.lookup y=some .free->y=q
 bind:∀qual cl pm v fZ u,bindArgs (acw "<lambda>" qual L.ar L.bd L.sc cl pm v fZ) ⟨[u],[]⟩=pure [(p,u)]
noncomputable def iE(X:Cx)(p q:Str)(L:fF)(x:Str)(a:Addr)(v:Value)(cl:List (Str×Addr))(s:Zh)(H:Hp):Cx:=
 let env:=PySem.W.envX (pU x) L.sc s.heap.objs.size a v cl
 { X with A:=X.A.deeper env,N:=[p,q],aA:=s,aL:=H,env:=env,outer:=X.stack,stack:=env::X.stack,ex:=[],calm:=true,fn:=fun _=>false,pn:=[],xe:=fun _ _=>False }
section
variable{X:Cx}{pins:List (Addr×Obj)}{σ:L2.St}{H:Hp}{s:Zh}
theorem QY {p q x : Str} {L : fF} {a c : Addr} {v : Value} {u : Value} {va vc : V} {oc : Obj} {uc : Value} {fJ : Heap} {tk : Nat} (I : Inv X pins σ H s) (S : nX L p q) (hr : X.A.handled = none) (hc : H c = some (.aO oc ck)) (hcd : oc.data = .cell (some uc))
    (rc : RelV vc uc) (ra : RelV va u) (bD : fJ.Ns s.heap.objs.size (fun y => [(p, u)].reverse.lookup y)) (hk : ∀ b o, s.heap.get? b = some o -> fJ.get? b = some o) :
    Inv (iE X p q L x a v [(q, c)] s H) [] [some va, some vc] H { s with heap := fJ, toks := tk } := by
  have F8 : fJ.IsCell c (some uc) := ⟨oc, hk _ _ (I.ay c _ hc).1, hcd⟩
  have lk : ∀ y d, abk y [(q, c)] = some d -> y = q /\ d = c := fun y d e => by
    rw [Zp] at e;split at e
    · rename_i z; cases e; exact ⟨eq_of_beq z, rfl⟩
    · cases e
  have ok : (iE X p q L x a v [(q, c)] s H).Ok :=
    { mod := I.ok.mod
      kind := S.kind
      glob := rfl
      blt := rfl
      above := Zf _
      inj := fun y z d h1 h2 => (lk y d h1).1.trans (lk z d h2).1.symm
      has := fun y hy => by
        have hy : L.sc.names.lookup y = some .cell \/ L.sc.names.lookup y = some .free := hy
        rcases hy with hy | hy
        · exact absurd rfl (S.cell _ (aax hy))
        · exact ⟨c, by show abk y [(q, c)] = _; rw [S.only y hy, Zp]; simp⟩
      oa := fun y d hz => nomatch hz
      hd := fun _ => hr
      frames := adx I.ok.frames
      qd := .inr ⟨rfl, rfl⟩
      yd := fun b hb => nomatch hb
      bs := I.bs
      iF := Zq I.ok.iF I.sz
      nH := fun b o e hb => nomatch hb
      nI := fun b hb => nomatch hb
      eF := I.stack
      kq := I.sM }
  refine ⟨ok, rfl, I.bare, Un.kept hk, ⟨_, bD, fun i y w e1 e2 _ => ?_⟩, fun y d e => ?_, I.ay.fresh (Zf _), fun y d e => ⟨(fun z => nomatch z), .inr ?_⟩, (fun p hp => nomatch hp), I.ay.kept hk, rfl⟩
  · match i, e1, e2 with
    | 0, e1, e2 =>
      cases e1;cases e2;exact ⟨u, ra, .inl ⟨S.iJ, by simp⟩⟩
    | 1, e1, e2 =>
      cases e1;cases e2;exact ⟨uc, rc, .inr ⟨.inr S.cap, c, by show abk _ [(_, c)] = _; rw [Zp]; simp, F8⟩⟩
    | i + 2, e1, e2 => cases e1
  · obtain ⟨rfl, rfl⟩ := lk y d e
    exact ⟨_, F8⟩
  · obtain ⟨rfl, rfl⟩ := lk y d e
    exact ⟨oc, hc⟩
theorem Od{H:Hp}{cl:List (Str×Addr)}{v:V}(h:ip H cl [v]):∃q c oc u,cl=[(q,c)]/\H c=some (.aO oc ck)/\oc.data=.cell (some u)/\RelV v u:=by
 cases cl with
 | nil=>exact h.elim
 | cons a cl=>
  cases cl with
  | nil=>obtain⟨⟨oc,u,h1,h2,h3⟩,_⟩:=h;exact⟨a.1,a.2,oc,u,rfl,h1,h2,h3⟩
  | cons b cl=>exact h.2.elim
theorem Tn{x y p q:Str}{L:fF}{i k:Nat}{e:Expr}{a:AM}{body:EM}{pp pos:Pos}(hl:gn X.K x=some L)(S:nX L p q)(hr:cf (k+1) X.A)(hN:X.N[i]? =some y)(hv:az X.env.scope y)
  (hb:∀a v cl s H,cf k (iE X p q L x a v cl s H).A->IE (iE X p q L x a v cl s H) L.bd body) (ha:IA X [e] a)
  (hd:(y==("__debug__":Str))=false:=by decide) (hcd:(y==("__classdict__":Str))=false:=by decide) (he:ZF [e] X.env=(false,eval e X.env)::ZF [] X.env:=by rfl) (fE:(acb pos (ZF [] X.env)).any (·.1)=false:=by rfl) :
  IE X (.Call (.Name y pp) [e] [] pos) (gU x body i a):=by
 intro pins s σ H Q I h;obtain⟨φ,ph,ws,hH,hS,h⟩:=h;unfold gU at h;cases ew:ws[i]? with
 | none=>simp only[ew] at h;exact h.elim
 | some ow=>
 cases ow with
 | none=>simp only[ew] at h;exact h.elim
 | some w0=>
 simp only[ew] at h;cases w0 with
 | fn z cs=>
  simp only[tX] at h;by_cases hz:z=x
  ·rw[if_pos hz] at h;subst hz;obtain⟨vf,ev,rf⟩:=hS.get ew;cases rf with
   | fn hf xU Xh Xi=>
   rename_i fa vs o cl;refine abe (aU (CQ hN hv hd hcd pins s σ H (fun v H'=>v=.ref fa/\H'=H) I ⟨_,ev,rfl,rfl⟩) fun uf s0 ⟨v0,H0,I0,r0,e0⟩=>?_);obtain⟨Xj,Xk⟩:=e0;subst Xj;subst Xk;obtain rfl:uf=aaL fa:=r0;obtain⟨L',pm,cv,fZ,el,eo,yK,VX⟩:=xU;rw[hl] at el;cases el;have E5:∀{aj:L2.St} {H':Hp} {s':Zh},Inv X pins aj H' s'->H' fa=some (.aO o ck)->PySem.W.FnAt fa s'.heap:=fun J hz=>by
    have:=(J.ay fa _ hz).1;rw[eo] at this;exact⟨_,_,_,_,this⟩
   refine PySem.W.callWith_F (E5 I0 hf) (aU (ha pos pins s0 σ H0 (fun yL H1=>∃av ph1 xs,aD X.K av ph1 H1/\Step X.K φ ph.length H0 av ph1.length H1/\aT X.K av ph1.length H1 xs yL/\(qu body cs xs ph1).Run (fun w ph'=>
    ∀ao H' v,aD X.K ao ph' H'->Step X.K φ ph.length H0 ao ph'.length H'->aJ X.K ao ph'.length H' w v->Q v H') (XE X av ph1.length H1)) I0
    (tA.bind hH hS h fun xs ph1 av H1 yL aE s1 r1 h=>⟨av,ph1,xs,aE,s1,r1,h⟩)) fun us s1 ⟨yL,H1,I1,r1,av,ph1,xs,aE,kF,rx,d6⟩=>⟨E5 I1 (kF.aO _ _ _ hf),?_⟩) he fE
   unfold qu at d6;split at d6
   ·rename_i wa wc;cases rx with
    | cons ra rn=>
    cases rn;cases Xi with
    | cons rc Xl=>
    cases Xl;rename_i va vc;obtain⟨u,rfl,Xm⟩:=Vals.one r1;obtain⟨q',c,oc,uc,rfl,oe,VY,Xn⟩:=Od Xh;have oe:=kF.aO _ _ _ oe;have yK:=yK.mono fun a o z=>kF.aO a o _ z
    obtain⟨c',F9,yM,t',rfl,eL,jp,yG⟩:=yK;obtain⟨cq,hq⟩:=VX q S.cap;have eq1:q'=q:=by
     rw[Zp] at hq;split at hq
     ·rename_i z;exact(eq_of_beq z).symm
     ·cases hq
    subst eq1;obtain⟨w,ph',U1,hQ⟩:=sE d6;have ho:=(I1.ay fa _ (kF.aO _ _ _ hf)).1;rw[eo] at ho;show wpAny (model X.prog X.w) X.A (call (.ref fa) [u]) _ _ _;refine wpAny_call (abW (R:=fun r s'=>match r with | .ok (.ret v)=>CE X.stack X.prog X.w H1 s1 Q v s' | _=>False) ?_ fun r s' hq=>?_)
    ·refine PySem.W.kla_callFunE (hr.depth) ho rfl S.co S.gen rfl ⟨c',F9,yM,t',rfl,(I1.ay c' _ eL).1,jp,yG⟩ ?_;rw[S.bind];refine ZZ (wpAny_newFunctionEnv S.cell (fun y hy=>by rw[ZQ.mp hy];exact S.iJ) (fun fJ bD oy=>⟨I1.nolimit.fresh _ oy,?_⟩) S.kind);have Xo:∀b o,s1.heap.get? b=some o->fJ.get? b=some o:=fun b o e=>oy.extBut b o (ZE (Zl e)) (Zk _ e)
     refine PySem.W.kla_codeExpr ?_;have J:=QY (x:=z) (a:=fa) (v:=.ref c') (tk:=s1.toks+[(p,u)].length) I1 S hr.hd oe VY Xn Xm bD Xo;refine aai (hb fa (.ref c') [(q',c)] s1 H1 (hr.deeper _) [] _ _ H1 Q J ⟨av,ph1,_,aE,.sm ra (.sm (rc.mono kF) .nil),?_⟩) (fun v s' hv=>?_) fun e s' hz=>hz.elim
     ·rw[U1];exact fun ao H' v r1 s1 r2=>hQ ao H' v r1 (kF.trans s1) r2
     ·obtain⟨v0,H',J',rv,q0⟩:=hv;exact⟨v0,H',J'.os,J'.bare,J'.base,J'.ay,rv,q0⟩
    ·cases r with
     | error e=>exact hq.elim
     | ok fl=>
      cases fl with
      | ret u=>exact I1.after hq
      | _=>exact hq.elim
   ·exact d6.elim
  ·rw[if_neg hz] at h;exact h.elim
 | _=>exact h.elim
end
noncomputable def VZ(K:Zc)(x:Str)(P:Addr)(cl:List (Str×Addr)):TE:=fun σ H Q=>gR H x P/\∀a o H2,H a=none->H2 a=some (.aO o ck)->lP K H2 x o cl->(∀b u,H b=some u->(∀ps,u≠.cx ps)->H2 b=some u) →
 (∀b ps,b≠P->H b=some (.cx ps)->H2 b=some (.cx ps))->gR H2 x P->Q (.ref a) H2
theorem MP:∀{l:List Value} {i j:Int} {t u:Tok} {v:Value},abj l->abj (l++[.int i t,.int j u,v]):=by
 intro l i j t u v h
 fun_induction abj l with
 | case1=>exact trivial
 | case2 a b c d e rest ih=>exact ih h
 | case3=>exact h.elim
theorem Oe{w:Value}:∀{l:List Value} {i j:Int} {t u:Tok} {v:Value},abj l->adj pos (l++[.int i t,.int j u,v])=some w->adj pos l=some w\/w=v:=by
 intro l i j t u v h e
 fun_induction abj l with
 | case1=>
  simp only[aci,adj] at e;split at e
  ·cases e;exact .inr rfl
  ·cases e
 | case2 a b c d e' rest ih=>
  simp only[List.cons_append,adj] at e ⊢;split at e
  ·rename_i hz;rw[if_pos hz];exact .inl e
  ·rename_i hz;rw[if_neg hz];exact ih h e
 | case3=>exact h.elim
section
variable{X:Cx}
theorem C5{x:Str}{L:fF}{c P:Addr}{oc:Obj}{cl:List (Str×Addr)}(hl:gn X.K x=some L)(hq:X.env.qual=x++".<locals>.")(uo:X.env.globals=Zo)(nD:X.env.code=.ref c)(mh:X.K.lookup c=some oc)(hP:gM oc=some P)(mj:c≠P)
  (kg:abq L.sc X.env=pure cl) (kG:∀y,L.sc.names.lookup y=some .free->∃c,cl.lookup y=some c) (lU:adU L.ar X.env=([],[])):PE X (.Lambda L.ar L.bd L.sc L.pos) (VZ X.K x P cl):=by
 intro pins s σ H Q I h;obtain⟨⟨ps,hT,qv,hG⟩,h⟩:=h;have C:abz s.heap c P:=AX (I.jn _ _ mh) hP mj;have qw:s.heap.get? P=some (aaJ ps):=I.ay P _ hT;have uq:s.heap.Ns Zo X.mg:=I.ok.mod.glob.keeps I.bk;obtain⟨bm,ob,b1,b2,b3,b4,b5,b6⟩:=I.ok.mod.bm;have qx:=I.bk _ _ b3;have Xp:Zo≠P:=fun z=>by
  obtain⟨o,es,ep,e,hd,_⟩:=uq;rw[z,qw] at e;cases e;cases hd
 have Xq:bm≠P:=fun z=>by rw[z,qw] at qx;cases qx;cases b4
 have Xr:bm≠mainGlobals:=fun z=>by
  obtain⟨o,es,ep,e,hd,_⟩:=uq;rw[z,e] at qx;cases qx;rw[hd] at b6;cases b6
 have hB:s.heap.BuiltinsAt X.mg P:=⟨bm,ob,b1,b2,Xr,Xq,qx,b4,b5,b6⟩
 refine PySem.W.kla_eval lU ?_;rw[hq];cases hf:adj L.pos ps.toList with
 | some cv=>
  refine PySem.W.kla_makeFunctionHit kg uo uq nD C qw qv hf hB fun fZ h' tk hk hsz=>?_
  have fR:H h'.objs.size=none:=I.ay.fresh hsz;have Xs:=hG _ _ hf;refine⟨.ref h'.objs.size,_,I.laid (a:=h'.objs.size) (o:=.aO { cls:=.type "function",data:=.func (acw "<lambda>" (pU x) L.ar L.bd L.sc cl ((X.mg "__name__").getD .none) cv fZ) } ck) (t':=tk) (fun b u e=>Zk _ (hk b u e)) hsz ⟨ZH _ rfl,trivial,⟨_,ZH _ rfl⟩,fun _ _ _ _=>trivial⟩,rfl,h _ _ _ fR bp ?_ (fun b u e _=>?_) (fun b Xt _ e=>?_) ?_⟩
  ·exact⟨L,_,cv,fZ,hl,rfl,Xs.mono fun a o z=>by rw[aM (bN z fR)];exact z,kG⟩
  ·rw[aM (bN e fR)];exact e
  ·rw[aM (bN e fR)];exact e
  ·exact gR.new ⟨ps,hT,qv,hG⟩ fR
 | none=>
  refine PySem.W.kla_makeFunction kg uo uq nD C qw qv hf Xp hB fun c' fZ h' tk hx oB cB V0 yN=>?_
  obtain⟨c2,yO,Ga,t2,e2,E6,hd2,Xu⟩:=V0;cases e2;have Xv:P<s.heap.objs.size:=Zl qw;have nc:H c'=none:=I.ay.fresh oB;have na:H h'.objs.size=none:=I.ay.fresh (Zq oB (abG cB));have Pc:P<c':=Zg Xv oB;have cP:c'≠P:=aaI Pc;have aP:h'.objs.size≠P:=aaI (Nat.lt_trans Pc cB);have ac:h'.objs.size≠c':=aaI cB;have keep:∀{ob:Obj} (b:Addr) (u:Obj),b≠P->s.heap.get? b=some u->(h'.push ob).get? b=some u:=fun b u n e=>Zk _ (hx b u n e)
  have lt:∀{b:Addr} {u:Obj},s.heap.get? b=some u->b≠c'/\b≠h'.objs.size:=fun{b u} e=>⟨ZE (Zg (Zl e) oB),ZE (Zg (Zl e) (Zq oB (abG cB)))⟩
  obtain⟨fo,yP⟩:∃fo:Obj,fo={ cls:=.type "function",data:=.func (acw "<lambda>" (pU x) L.ar L.bd L.sc cl ((X.mg "__name__").getD .none) (.ref c') fZ) }:=⟨_,rfl⟩
  obtain⟨oC,yQ⟩:∃oC:Array Value,oC=ps++ #[rawInt L.pos.line,rawInt L.pos.col,.ref c']:=⟨_,rfl⟩
  rw[<- yQ] at yN;obtain⟨H2,eH⟩:∃H2:Hp,H2=upd (upd (upd H P (.cx oC)) c' (.aO yO ck)) h'.objs.size (.aO fo ck):=⟨_,rfl⟩
  have oD:H2 h'.objs.size=some (.aO fo ck):=by rw[eH];exact bp
  have Gb:H2 c'=some (.aO yO ck):=by rw[eH,aM (abg ac)];exact bp
  have yR:H2 P=some (.cx oC):=by rw[eH,aM (abg aP),aM (abg cP)];exact bp
  have yS:∀b,b≠h'.objs.size->b≠c'->b≠P->H2 b=H b:=fun b n1 n2 n3=>by rw[eH,aM n1,aM n2,aM n3]
  have nP:∀b u,H b=some u->(∀ps,u≠.cx ps)->b≠P:=fun b u e n z=>by rw[z,hT] at e;cases e;exact n _ rfl
  have old:∀b u,H b=some u->b≠P->H2 b=some u:=fun b u e n=>(yS b (bN e na) (bN e nc) n).trans e
  have V1:bQ X.prog X.w H2 (h'.push fo):=fun b u e=>by
   by_cases fH:b=h'.objs.size
   ·subst fH;rw[oD] at e;cases e;have hz:(h'.push fo).get? h'.objs.size=some fo:=ZH _ (by rw[yP];rfl);exact⟨hz,trivial,⟨_,hz⟩,fun _ _ _ _=>trivial⟩
   by_cases jA:b=c'
   ·subst jA;rw[Gb] at e;cases e;exact⟨Zk _ E6,trivial,⟨_,Zk _ E6⟩,fun _ _ _ _=>trivial⟩
   by_cases yT:b=P
   ·subst yT;rw[yR] at e;cases e;exact Zk _ yN
   rw[yS b fH jA yT] at e;refine(I.ay b u e).gu (fun d v hd q=>keep d v ?_ q) (fun d q=>old d _ q (nP d _ q fun _ z=>nomatch z)) fun d xs q=>old d _ q (nP d _ q fun _ z=>nomatch z)
   rcases hd with rfl | hd
   ·exact yT
   ·exact nP d _ hd fun _ z=>nomatch z
  have un:Un X.fs [] H H2 s.heap (h'.push fo):=by
   refine⟨fun b o e n _ _=>keep b o (fun z=>by rw[z,hT] at n;cases n) e,fun b o e n _ _=>⟨o.slots,keep b o (fun z=>by rw[z,hT] at n;cases n) e⟩,fun b o e n _=>?_,fun b o e _=>?_,fun b xs e=>old b _ e (nP b _ e fun _ z=>nomatch z),fun b o u e=>old b _ e (nP b _ e fun _ z=>nomatch z),fun b YT e=>?_⟩
   ·rw[yS b (lt e).2 (lt e).1 (fun z=>by rw[z,hT] at n;cases n)];exact n
   ·by_cases hb:b=P
    ·exact⟨_,by rw[hb];exact Zk _ yN⟩
    ·exact⟨o,keep b o hb e⟩
   ·by_cases hb:b=P
    ·subst hb;rw[hT] at e;cases e;exact⟨_,by rw[yR,yQ]⟩
    ·exact⟨#[],by rw[old b _ e hb];simp⟩
  have ur:oC.toList=ps.toList++[rawInt L.pos.line,rawInt L.pos.col,.ref c']:=by rw[yQ];simp
  have cg:ny H2 (.ref c') x:=⟨c',yO,Ga,t2,rfl,Gb,hd2,Xu⟩
  show EP X pins σ Q (.ref h'.objs.size) { s with heap:=h'.push _,toks:=tk };rw[show(PySem.W.kla_obj "<lambda>" ((x++".<locals>.")++"<lambda>") L.ar L.bd L.sc cl ((X.mg "__name__").getD .none) c' fZ)=fo from yP.symm];refine⟨.ref h'.objs.size,H2,I.un (t':=tk) un V1,rfl,h _ fo H2 na oD ⟨L,_,_,fZ,hl,yP,cg,kG⟩ (fun b u e n=>old b u e (nP b u e n)) (fun b Xt n e=>old b _ e n) ⟨oC,yR,by rw[ur];exact MP qv,fun pos v e=>?_⟩⟩;rw[ur] at e
  rcases Oe qv e with e | rfl
  ·exact(hG pos v e).mono fun a o z=>old a _ z (nP a _ z fun _ y=>nomatch y)
  ·exact cg
end
noncomputable def pZ(x:Str)(m1:EM)(fm:List W->Mo W)(args:List W):Mo W:=match args with
 | [a]=>aq (cT (m1 [some a])) fun w1=>cT (fm [w1,.fn x [a]])
 | _=>c5
section
variable{Pg:aah}{w:World}{K:Zc}{mg:Str->Option Value}{base:Heap}
theorem BD{x qual:Str}{st:Stmt}{f:Addr}{fd:ZW}(F:cy K x qual st f fd)(hn:Zy K Zo x=some (some (.ref f))):gn K x=xK (a6 st):=by
 obtain⟨oc,od,kV,doc,pm,an,ba,ct,eZ,rfl,lk,hcd⟩:=F.ex;unfold gn;simp only[hn,lk]
theorem QZ{x g n:Str}{st:Stmt}{f fg c P:Addr}{fd gd:ZW}{ut:List Str}{k:Nat}{m1:EM}{fm:List W->Mo W}{e1:Expr}{L:fF}{p1 p2 p3:Pos}{oc:Obj}(F:cy K x x st f fd)(S:cF [n] [n] (af st))
  (dM:a6 st=[.Return (some (.Call (.Name g p1) [e1,.Lambda L.ar L.bd L.sc L.pos] [] p2)) p3]) (d7:∀j,ade j (af st).names []=[(n,j)]) (Gd:(af st).names.lookup n=some .cell) (nD:fd.code=.ref c) (mh:K.lookup c=some oc) (hP:gM oc=some P) (mj:c≠P)
  (hm:(x,c,P)∈dh K) (lV:∀p∈dh K,p.2.2=P->p.1=x) (hl:gn K x=some L) (kg:∀L0 fa cd,abq L.sc (abx x (af st) L0 fa cd)=pure [(n,L0+1)]) (kG:∀y,L.sc.names.lookup y=some .free->y=n)
  (lU:∀env,adU L.ar env=([],[])) (Ge:∀env,ZF [e1,.Lambda L.ar L.bd L.sc L.pos] env=(false,eval e1 env)::ZF [.Lambda L.ar L.bd L.sc L.pos] env) (Xw:(af st).names.lookup g=some .globalImplicit) (c9:(g==("__debug__":Str))=false)
  (G:bP Pg w K mg base (bf Pg w) k fg gd ut (bY K mg 2 fm)) (hmg:mg g=some (.ref fg)) (Xx:Zx K (.ref fg)=true) (Xy:Binds K gd ut []) (V2:ut.length=2)
  (yU:∀(ba:Value) (A:abd) (outer:List Env) (s:Zh) (H:Hp) (E:XK),cf k (A.deeper (abx x (af st) s.heap.objs.size f ba))->IE (df (bf Pg w) Pg w K mg base [n] x (af st) f ba A outer s H E) e1 m1) :
  bP Pg w K mg base (bf Pg w) (k+1) f fd [n] (bY K mg 1 (pZ x m1 fm)):=by
 obtain⟨F9,od,kV,doc,pm,an,ba,ct,eZ,rfl,lk,hcd⟩:=F.ex;obtain rfl:ba=.ref c:=nD;refine⟨fun vs H Q E h=>h.1,fun A outer s H args us vs Q E hr e0 hb r l4=>?_⟩;obtain⟨cu,φ,ph,ws,hH,Xz,d6⟩:=l4;have KX:K.In s.heap:=e0.mod.n9.keeps fun b o e=>(e0.bs b o e).1
 have lim:s.heap.NoLimit:=e0.mod.nolimit.keeps fun b o e=>(e0.bs b o e).1
 have pE:∀y∈[n].zip us,(af st).names.lookup y.1=some .local\/((af st).names.lookup y.1=some .cell/\((ade (s.heap.objs.size+1) (af st).names []).lookup y.1).isSome=true):=fun⟨m,v⟩ hy=>by
  rcases S.iJ m (abi hy).1 with q | q
  ·exact .inl q
  ·exact .inr ⟨q,abb _ _ _ (.inl q)⟩
 refine abU hr.depth (KX _ _ lk) rfl S.co S.gen rfl (acs KX hcd) (hb _ _ _ _ ?_);refine abt S.kind pE fun env he s1 y=>?_
 subst he;refine⟨lim.keeps y.toInCall.keep,codeAny_func ?_⟩;have I:Inv (df (bf Pg w) Pg w K mg base [n] x (af st) f (.ref c) A outer s H E) [] (start [n] vs) H s1:=vh S hr.hd e0 cu r y;have Gf:cf k (A.deeper (abx x (af st) s.heap.objs.size f (.ref c))):=hr.deeper _;have yU:=yU (.ref c) A outer s H E Gf;show wpAny _ _ (execs (a6 st) _) _ _ _;rw[dM];cases Xz with
 | nil=>exact absurd cu (by decide)
 | cons ra rn=>
 cases rn with
 | cons _ _=>exact absurd cu (by simp)
 | nil=>
 rename_i wa va;unfold pZ at d6;rw[cG] at d6;obtain⟨w1,ph1,XA,d6⟩:=sE d6;obtain⟨wr,ph2,XB,hQ⟩:=sE d6;have XD:start [n] [va]=[some va]:=rfl;rw[XD] at I;obtain⟨X,eX⟩:∃X,X=df (bf Pg w) Pg w K mg base [n] x (af st) f (.ref c) A outer s H E:=⟨_,rfl⟩
 have key:wpAny (model Pg w) X.A (eval (.Call (.Name g p1) [e1,.Lambda L.ar L.bd L.sc L.pos] [] p2) X.env) (fun u s'=>CE outer Pg w H s Q u s') X.xe s1:=by
  subst eX;have U2:=C5 (X:=df (bf Pg w) Pg w K mg base [n] x (af st) f (.ref c) A outer s H E) (cl:=[(n,s.heap.objs.size+1)]) hl rfl rfl rfl mh hP mj (kg _ _ _) (fun y hy=>⟨s.heap.objs.size+1,by rw[kG y hy,Zp];simp⟩) (lU _);have XF:=vS (hs:=Ge _) yU (vS (hs:=rfl) U2 CT);refine abe (B0 I Xw hmg (adL (h₀:=base) e0.mod.n9 Xx (aU (XF p2 [] s1 [some va] H (fun yM H2=>∃v1 a o av,yM=[v1,.ref a]/\aD K av ph1 H2/\Step K φ ph.length H av ph1.length H2/\aJ K av ph1.length H2 w1 v1 /\
   H2 a=some (.aO o ck)/\lP K H2 x o [(n,s.heap.objs.size+1)]) I ⟨φ,ph,[some wa],hH,.sm ra .nil,?_⟩) fun uu s2 ⟨Ga,H2,I2,r2,v1,a,o,av,e2,aX,cJ,yV,qy,iL⟩=>⟨I2.jn,?_⟩) (Ge _) rfl) c9)
  ·rw[XA];intro av H1 v1 aE kF yV;refine⟨aE.tb _ hm,fun a o H2 na oD iL hold xV yW=>?_⟩;have p7:∀b o u,H1 b=some (.aO o u)->H2 b=some (.aO o u):=fun b o u z=>hold b _ z fun _ y=>nomatch y
   have cJ:Step K av ph1.length H1 av ph1.length H2:=⟨Zf _,fun _ _=>rfl,(fun b xs z=>hold b _ z fun _ y=>nomatch y),p7⟩
   refine⟨v1,a,o,av,rfl,⟨fun i p e=>?_,aE.inj,fun p hp=>?_⟩,kF.trans cJ,yV.mono cJ,oD,iL⟩
   ·obtain⟨z,hz,mz⟩:=aE.at (Zb.mp e).1;have yX:∀ps,z≠.cx ps:=fun ps q=>by
     subst q;have q:=aE.hp i p e;cases p with
     | lst _=>obtain⟨_,q,_⟩:=q;rw[hz] at q;cases q
     | aF _=>rcases q with⟨_,q,_⟩ | ⟨_,q,_⟩ <;> (rw[hz] at q;cases q)
     | obj _ _=>obtain⟨_,_,_,_,q,_⟩:=q;rw[hz] at q;cases q
     | oj _=>obtain⟨_,q,_⟩:=q;rw[hz] at q;cases q
     | jt _=>obtain⟨_,_,⟨_,q,_⟩ | ⟨_,q,_⟩⟩:=q <;> (rw[hz] at q;cases q)
    exact(aE.hp i p e).mono cJ ((hold _ _ hz yX).trans hz.symm)
   ·by_cases jr:p.2.2=P
    ·rw[jr,lV p hp jr];exact yW
    ·obtain⟨ps,e1,e2,e3⟩:=aE.tb p hp;exact⟨ps,xV _ _ jr e1,e2,fun pos v e=>(e3 pos v e).mono fun b o z=>p7 b o _ z⟩
  ·subst e2;obtain⟨c0,yY⟩:∃c0,c0=s.heap.objs.size+1:=⟨_,rfl⟩
   rw[<- yY] at iL;have To:(df (bf Pg w) Pg w K mg base [n] x (af st) f (.ref c) A outer s H E).env.cells=[(n,c0)]:=by rw[yY];exact d7 _
   have xW:(df (bf Pg w) Pg w K mg base [n] x (af st) f (.ref c) A outer s H E).env.cells.lookup n=some c0:=by rw[To,Zp];simp
   have eB:H2 c0=none:=(I2.fP n c0 xW).1 rfl;have iy:∃dD u0,s2.heap.get? c0=some dD/\dD.data=.cell (some u0)/\RelV va u0:=by
    obtain⟨m,hn,yZ⟩:=I2.loc;obtain⟨u0,kH,y0⟩:=yZ 0 n va rfl rfl (.inr (.inl Gd))
    rcases y0 with⟨kz,_⟩ | ⟨_,c1,qz,dD,g1,g2⟩
    ·have kz:(af st).names.lookup n=some .local:=kz;rw[Gd] at kz;cases kz
    ·rw[xW] at qz;cases qz;exact⟨dD,u0,g1,g2,kH⟩
   obtain⟨dD,u0,g1,g2,kH⟩:=iy;have oE:s.heap.objs.size<=c0:=by rw[yY];omega
   have jx:∀b o,s.heap.get? b=some o->b≠c0:=fun b o e=>ZE (Zg (Zl e) oE)
   have XG:bQ Pg w (upd H2 c0 (.aO dD ck)) s2.heap:=fun b u e=>by
    by_cases hb:b=c0
    ·subst hb;rw[bp] at e;cases e;exact⟨g1,trivial,⟨_,g1⟩,fun _ _ _ _=>trivial⟩
    ·rw[aM hb] at e;exact(I2.ay b u e).gu (fun _ _ _ q=>q) (fun d q=>by rw[aM (bN q eB)];exact q) fun d xs q=>by rw[aM (bN q eB)];exact q
   have E2:=I2.ES;have XH:pS Pg w K mg base (A.deeper (abx x (af st) s.heap.objs.size f (.ref c))) (abx x (af st) s.heap.objs.size f (.ref c)::outer) s2 (upd H2 c0 (.aO dD ck)):=
    ⟨E2.frames,E2.mod,fun b o e=>⟨(E2.bs b o e).1,by rw[aM (jx b o (e0.bs b o e).1)];exact(E2.bs b o e).2⟩,E2.iF,E2.eF,fun b hb=>by
     rw[aM (fun z=>?_)]
     ·exact E2.kq b hb
     ·subst z
      rcases ZK.mp (I2.pB b hb) with z | z
      ·exact I2.jo n b xW z
      ·obtain⟨_,o',eK,_⟩:=e0.eF.mem z;exact jx b o' eK rfl,XG,E2.bare⟩
   have XI:(uu++[]).length=ut.length:=by rw[aak,<- r2.length];exact V2.symm
   have me:=Xy s2 uu I2.jn XI;rw[aak] at me;have eY:Step K av ph1.length H2 av ph1.length (upd H2 c0 (.aO dD ck)):=⟨Zf _,fun _ _=>rfl,fun b xs z=>by rw[aM (bN z eB)];exact z,fun b o u z=>by rw[aM (bN z eB)];exact z⟩
   refine wpAny_call (abW (G.run _ _ s2 (upd H2 c0 (.aO dD ck)) ⟨uu,[]⟩ uu [v1,.ref a] Q (fun _ _ _=>False) Gf XH me r2
    ⟨rfl,av,ph1,[w1,.fn x [wa]],Bx aX eB,.cons (yV.mono eY) (.cons (.fn (eY.aO _ _ _ qy) (iL.mono fun b o z=>eY.aO b o _ z) (show ip _ [(n,c0)] [va] from⟨⟨dD,u0,bp,g2,kH⟩,trivial⟩) (.cons ((ra.mono cJ).mono eY) .nil)) .nil),?_⟩) fun r s' hq=>?_)
   ·rw[XB];exact fun ao H' v h1 h2 h3=>hQ ao H' v h1 ((cJ.trans eY).trans h2) h3
   ·cases r with
    | error e=>obtain⟨_,_,_,z⟩:=hq;exact z.elim
    | ok fl=>
     cases fl with
     | ret u=>
      obtain⟨v,H',os,bare,un,tV,rv,q⟩:=hq;refine⟨v,H',os.trans I2.os,bare,?_,tV,rv,q⟩;have B:=I2.base;have frees:∀b o,s.heap.get? b=some o->H b=none->upd H2 c0 (.aO dD ck) b=none:=fun b o e n=>by rw[aM (jx b o e)];exact B.free b o e n (fun z=>nomatch z)
      have XJ:∀b o,s.heap.get? b=some o->b∉dk outer->b∉dk (abx x (af st) s.heap.objs.size f (.ref c)::outer):=fun b o e hb hz=>by
       rcases ZK.mp (I2.pB b hz) with z | z
       ·have z:b=s.heap.objs.size:=z;exact absurd (Zl e) (by rw[z];exact aaG _)
       ·exact hb z
      refine⟨fun b o e n hb _=>un.keep b o (B.keep b o e n hb (fun z=>nomatch z)) (frees b o e n) (XJ b o e hb) (fun z=>nomatch z),fun b o e n hb _=>?_,fun b o e n _=>?_,fun b o e _=>?_,fun b xs e=>?_,fun b o u e=>?_,fun b ps e=>?_⟩
      ·obtain⟨sl,e1⟩:=B.slot b o e n hb (fun z=>nomatch z);obtain⟨l5,e2⟩:=un.slot b _ e1 (frees b o e n) (by rw[sx rfl];exact ZD _ hb) (fun z=>nomatch z);exact⟨l5,e2⟩
      ·obtain⟨o',e1⟩:=B.there b o e (fun z=>nomatch z);exact un.free b o' e1 (frees b o e n) (fun z=>nomatch z)
      ·obtain⟨o',e1⟩:=B.there b o e (fun z=>nomatch z);exact un.there b o' e1 (fun z=>nomatch z)
      ·exact un.ed b xs (eY.tup b xs (B.ed b xs e))
      ·exact un.dz b o u (eY.aO b o u (B.dz b o u e))
      ·obtain⟨m1,e1⟩:=B.ee b ps e;obtain⟨m2,e2⟩:=un.ee b (ps++m1) (by rw[aM (bN e1 eB)];exact e1);exact⟨m1++m2,by rw[e2,acq]⟩
     | _=>exact abo hq
 subst eX;exact abZ (wpAny_Return_some (aai key (fun u s' hq=>hq) fun e s' hz=>hz))
end
noncomputable def nE(kws:List (W×W)):Option (List W):=if kws.all (fun p=> !iR p.1)=true then some (kws.map (·.1)) else none
noncomputable def ja:List W->Po W:=fun xs ph=>match xs with
 | [w]=>match dY w ph with
  | some p=>(nE p.2).map fun ks=>(.ref ph.length,ph++[.lst ks])
  | none=>nz [w] ph
 | _=>none
noncomputable def insI(a:Int):List Int->List Int
 | []=>[a]
 | b::l=>if a<=b then a::b::l else b::insI a l
noncomputable def kh:List Int->List Int
 | []=>[]
 | a::l=>insI a (kh l)
noncomputable def lJ:List W->Po W:=fun xs ph=>match xs with
 | [w]=>match(match dY w ph with | some p=>(nE p.2).bind (bc nU) | none=>xp w ph) with
  | some ns=>if ns.length<64 then some (.ref ph.length,ph++[.lst ((kh ns).map W.int)]) else none
  | none=>none
 | _=>none
theorem insI_perm{a:Int}:∀{l:List Int},(insI a l).Perm (a::l)
 | []=>.refl _
 | b::l=>by
  unfold insI;split
  ·exact .refl _
  ·exact(insI_perm.cons b).trans (.swap a b l)
theorem Al{a:Int}:∀{l:List Int},l.Pairwise (· <= ·)->(insI a l).Pairwise (· <= ·)
 | [],_=>List.pairwise_singleton _ _
 | b::l,h=>by
  unfold insI;obtain⟨h1,h2⟩:=acv.mp h;split
  ·rename_i jB;exact acv.mpr ⟨fun c hc=>(ZK.mp hc).elim (fun z=>z▸jB) fun z=>Int.le_trans jB (h1 c z),h⟩
  ·rename_i jB;exact acv.mpr ⟨fun c hc=>(ZK.mp (insI_perm.mem_iff.mp hc)).elim (fun z=>by omega) fun z=>h1 c z,Al h2⟩
theorem A3:∀{l:List Int},(kh l).Perm l
 | []=>.refl _
 | a::l=>insI_perm.trans (A3.cons a)
theorem Am:∀{l:List Int},(kh l).Pairwise (· <= ·)
 | []=>.nil
 | a::l=>Al Am
theorem wb{l l':List Int}(p:l'.Perm l)(s:l'.Pairwise (· <= ·)):l'=kh l:=
 List.Perm.eq_of_pairwise (le:=(· <= ·)) (fun a b _ _ h1 h2=>Int.le_antisymm h1 h2) s Am (p.trans A3.symm)
section
variable{K:Zc}{φ:Nat->Addr}{n:Nat}{H:Hp}
theorem BE:∀{kws:List (W×W)} {kvs:List (Key×V)},bS K φ n H kws kvs->aT K φ n H (kws.map (·.1)) (kvs.map fun kv=>kV kv.1)
 | _,_,.nil=>.nil
 | _,_,.cons (k:=k) h r=>.cons (by cases k with | inl i=>exact .int i | inr x=>exact .str x) (BE r)
theorem A4{ph:PH}{y:W}{v:V}{p:Nat×List (W×W)}{ks:List W}(hH:aD K φ ph H)(r:aJ K φ ph.length H y v)(e:dY y ph=some p)(hk:nE p.2=some ks) :
  ∃d kvs,v=.ref d/\(H d=some (.dK kvs)\/(H d=some (.dT [])/\kvs=[]))/\aT K φ ph.length H ks (kvs.map fun kv=>kV kv.1):=by
 unfold nE at hk;split at hk
 ·rename_i ha;cases hk;obtain⟨rfl,hi,hd,rfl⟩:=ll (i:=p.1) (kws:=p.2) hH r e
  rcases hH.hp _ _ hd with⟨kvs,q,rd⟩ | ⟨kvs,q,rt⟩
  ·exact⟨_,kvs,rfl,.inl q,BE rd⟩
  ·obtain⟨e1,e2⟩:=rt.xS ha;subst e2;rw[e1];exact⟨_,[],rfl,.inr ⟨q,rfl⟩,.nil⟩
 ·cases hk
end
theorem Ce:fQ K (fun xs H Q=>(∃p ys,xs=[.ref p]/\(bo K H p ys\/b8 K H p ys)/\∀l,H l=none->Q (.ref l) (upd H l (.lst ys)))\/wK xs H Q) ja:=by
 intro φ ph H xs vs w ph' Q hH r e k;unfold ja at e;split at e
 ·rename_i x;cases hd:dY x ph with
  | none=>rw[hd] at e;exact .inl (QL hH r e k)
  | some p=>
   rw[hd] at e;obtain⟨ks,hk,e⟩:=Zn.mp e;cases e;cases r with
   | cons r rn=>
    cases rn;obtain⟨d,kvs,rfl,y3,rr⟩:=A4 hH r hd hk;refine .inr ⟨d,kvs,rfl,y3,fun p hp=>?_⟩;obtain⟨q1,q2,q3⟩:=jM hH rr hp;exact k _ _ _ q1 q2 q3
 ·cases e
theorem AD(hc:X.calm=true):cH X (.type "list") (fun xs H Q=>(∃p ys,xs=[.ref p]/\(bo X.K H p ys\/b8 X.K H p ys)/\∀l,H l=none->Q (.ref l) (upd H l (.lst ys)))\/wK xs H Q):=cH.or Mm (Nu hc)
theorem vG{K:Zc}{φ:Nat->Addr}{n:Nat}{H:Hp}:∀(ns:List Int),aT K φ n H (ns.map W.int) (ns.map V.int)
 | []=>.nil
 | n::ns=>.cons (.int n) (vG ns)
theorem Cf:fQ K (D1 K) lJ:=by
 intro φ ph H xs vs w ph' Q hH r e k;unfold lJ at e;split at e
 ·rename_i x;cases r with
  | cons r rn=>
  cases rn;cases hd:dY x ph with
  | none=>
   rw[hd] at e;simp only at e;split at e
   ·rename_i ns bD;split at e
    ·rename_i um;cases e;obtain⟨p,rfl,hq⟩:=Oa hH r bD;refine⟨p,ns,rfl,.inl hq,um,fun q fY hq hp hs=>?_⟩;rw[wb hp hs];obtain⟨q1,q2,q3⟩:=jM hH (vG (kh ns)) hq;exact k _ _ _ q1 q2 q3
    ·cases e
   ·cases e
  | some p=>
   rw[hd] at e;simp only at e;split at e
   ·rename_i ns bD;split at e
    ·rename_i um;cases e;obtain⟨ks,hk,bD⟩:=acQ.mp bD;obtain⟨d,kvs,rfl,y3,rr⟩:=A4 hH r hd hk;refine⟨d,ns,rfl,.inr ⟨kvs,y3,sD rr bD⟩,um,fun q fY hq hp hs=>?_⟩;rw[wb hp hs];obtain⟨q1,q2,q3⟩:=jM hH (vG (kh ns)) hq;exact k _ _ _ q1 q2 q3
    ·cases e
   ·cases e
 ·cases e
theorem boot_sorted:aaz "sorted"=some (.builtin "sorted"):=by kernel_rfl
section
variable{X:Cx}{x y p q:Str}{L:fF}{i k:Nat}{e:Expr}{a:AM}{body:EM}{pp pos:Pos}
theorem C6(hl:gn X.K x=some L)(S:nX L p q)(hr:cf (k+1) X.A)(hN:X.N[i]? =some y)(hv:az X.env.scope y)
  (hb:∀a v cl s H,cf k (iE X p q L x a v cl s H).A->JE (iE X p q L x a v cl s H) L.bd body) (dM:dS [e]=true) (ha:JA X [e] a)
  (hd:(y==("__debug__":Str))=false) (hcd:(y==("__classdict__":Str))=false):JE X (.Call (.Name y pp) [e] [] pos) (gU x body i a):=
 ⟨Tn hl S hr hN hv (fun a v cl s H hr=>(hb a v cl s H hr).h) ha.h hd hcd (ij (by unfold dS at dM;rw[aaS,Zr] at dM;simpa using dM.1)) (any_none rfl)⟩
theorem C7{l:List (Str×abn)}{c:Str}:∀{y:Str},(l.all fun p=> !(p.2==.free)||p.1==c)=true->l.lookup y=some .free->y=c:=by
 intro y h e;have m:=aax e;have:=aam.mp h _ m
 simpa using this
theorem Bd.Gg{N:List Str}{sc:Scope}(B:Bd X N sc (k+1))(S:nX L p q)(nd:[p,q].Nodup)(a:Addr)(v:Value)(cl:List (Str×Addr))(s:Zh)(H:Hp)(hr:cf k (iE X p q L x a v cl s H).A):Bd (iE X p q L x a v cl s H) [p,q] L.sc k:=
 ⟨⟨⟨rfl,fun _ z=>z,fun _ z=>z,fun _ z=>z,fun y z=>.inr (z.elim (fun z=>z) fun z=>absurd rfl (S.cell _ (mem_lookup z))),nd⟩,rfl,hr⟩,adk⟩
theorem Pn{m1:EM}{fm:List W->Mo W}{xs:List W}{ph:PH}(h:xs.length≠1):pZ x m1 fm xs ph=.no:=by
 unfold pZ;split
 ·exact absurd rfl h
 ·rfl
noncomputable def gw(st:Stmt):fF:=match xK (a6 st) with
 | some L=>L
 | none=>⟨cL st,.Constant .none 0 ⟨0,0,0,0⟩,af st,⟨0,0,0,0⟩⟩
end
open PySem L2
section
variable{α β γ:Type}
theorem jR(a:α)(f:α->Mo β):aq (au a) f=f a:=rfl
theorem Cg(f:α->Mo β):aq (c5:Mo α) f=c5:=rfl
theorem Ci(x:XC)(f:α->Mo β):aq (yD x:Mo α) f=yD x:=rfl
theorem dG(m:Mo α)(f:α->Mo β)(g:β->Mo γ):aq (aq m f) g=aq m fun a=>aq (f a) g:=by
 funext ph;unfold aq;cases m ph <;> rfl
theorem Cj{c:Prop}[Decidable c](a b:Mo α)(f:α->Mo β):aq (if c then a else b) f=if c then aq a f else aq b f:=by split <;> rfl
theorem aW{m:Mo α}{f:α->Mo β}{ph ph':PH}{a:α}(h:m ph=.ok a ph'):aq m f ph=f a ph':=by unfold aq;rw[h]
theorem C8(a:α)(ph:PH):au a ph=.ok a ph:=rfl
theorem C9(x:XC)(ph:PH):(yD x:Mo α) ph=.ex x ph:=rfl
theorem BF(a:α):lift (ret a)=au a:=rfl
theorem Dd{c:Prop}[Decidable c](a b:Mo α)(ph:PH):(if c then a else b) ph=if c then a ph else b ph:=by split <;> rfl
end
theorem De(w:W)(σ:aK):aa 0 (some w::σ)=au w:=rfl
theorem Df(i:Nat)(x:Option W)(σ:aK):aa (i+1) (x::σ)=aa i σ:=rfl
theorem D3(w:W)(σ:aK):eC w σ=au w:=rfl
theorem D4(i:Nat)(w:W)(σ:aK):gN i w σ=au (σ.set i (some w)):=rfl
theorem c8(f:W->W->Po W)(a b:EM)(σ:aK):ab f a b σ=aq (a σ) fun x=>aq (b σ) fun y=>lift (f x y):=rfl
theorem Dg(f:W->Po W)(a:EM)(σ:aK):om f a σ=aq (a σ) fun x=>lift (f x):=rfl
theorem fv(m:EM)(σ:aK):eT m σ=aq (m σ) fun w=>lift (match w with
 | .bl b=>ret b
 | _=>eG):=rfl
theorem Ck(m:EM)(σ:aK):VG m σ=aq (m σ) fun w=>lift (pW w):=rfl
theorem vH(a b:TM)(σ:aK):dJ a b σ=aq (a σ) fun c=>if c=true then b σ else au false:=rfl
theorem lx(a b:TM)(σ:aK):d0 a b σ=aq (a σ) fun c=>if c=true then au true else b σ:=rfl
theorem BG(a:TM)(σ:aK):UC a σ=aq (a σ) fun c=>au (!c):=rfl
theorem Dh(t:TM)(a b:EM)(σ:aK):Wm t a b σ=aq (t σ) fun c=>if c=true then a σ else b σ:=rfl
theorem m5(a b:SM)(σ:aK):aC a b σ=aq (a σ) fun f=>match f with
 | .nx aj=>b aj
 | f=>au f:=rfl
theorem sW(t:TM)(a b:SM)(σ:aK):bI t a b σ=aq (t σ) fun c=>if c=true then a σ else b σ:=rfl
theorem sP(e:EM)(σ:aK):bt e σ=aq (e σ) fun w=>au (.rt w):=rfl
theorem BH(σ:aK):cM σ=au (.nx σ):=rfl
theorem sF(e:EM)(σ:aK):eV e σ=aq (e σ) fun _=>au (.nx σ):=rfl
theorem pj(e:EM)(g:GM)(σ:aK):aI e g σ=aq (e σ) fun w=>aq (g w σ) fun aj=>au (.nx aj):=rfl
theorem vI(f:List W->Mo W)(a:AM)(σ:aK):a7 f a σ=aq (a σ) f:=rfl
theorem vk(f:List W->Po W)(a:AM)(σ:aK):bG f a σ=aq (a σ) fun xs=>lift (f xs):=rfl
theorem sQ(σ:aK):ak σ=au []:=rfl
theorem sG(e:EM)(r:AM)(σ:aK):ae e r σ=aq (e σ) fun w=>aq (r σ) fun ws=>au (w::ws):=rfl
theorem Cm(a:AM)(σ:aK):bT a σ=aq (a σ) fun ws=>lift (je ws):=rfl
theorem pk(a:AM)(σ:aK):bJ a σ=aq (a σ) fun ws=>lift (pY ws):=rfl
theorem Di(c:String)(m:EM)(σ:aK):WB c m σ=aq (m σ) fun w=>lift (jy c w):=rfl
theorem Cn(a b:EM)(σ:aK):pV a b σ=aq (a σ) fun w=>match w with
 | .bl c=>if c=true then b σ else au (.bl false)
 | _=>c5:=rfl
theorem Dj(a b:EM)(σ:aK):ue a b σ=aq (a σ) fun w=>match w with
 | .bl c=>if c=true then au (.bl true) else b σ
 | _=>c5:=rfl
theorem Co(a:EM)(σ:aK):VF a σ=aq (a σ) fun w=>match w with
 | .bl c=>au (.bl (!c))
 | _=>c5:=rfl
theorem A5(f f':W->W->Po W)(a b c:EM)(σ:aK):S5 f f' a b c σ=aq (a σ) fun x=>aq (b σ) fun y=>aq (lift (f x y)) fun z=>match z with
 | .bl k=>if k=true then aq (c σ) fun u=>lift (f' y u) else au (.bl false)
 | _=>c5:=rfl
theorem mU(ty:W->PH->Bool)(f:W->List W->Po W)(o:EM)(a:AM)(σ:aK):cI ty f o a σ=aq (o σ) fun x=>aq (lift (iB (ty x))) fun _=>aq (a σ) fun xs=>lift (f x xs):=rfl
theorem Cq(w:W):dA (.rt w)=au w:=rfl
theorem Cr(σ:aK):dA (.nx σ)=au .aG:=rfl
theorem ki(b:SM)(n:Nat)(x:W):fM b n 1 [x]=aq (b (some x::Zi (n-1) none)) dA:=rfl
theorem p8(b:SM)(n:Nat)(x y:W):fM b n 2 [x,y]=aq (b (some x::some y::Zi (n-2) none)) dA:=rfl
theorem nY(b:SM)(n:Nat)(x y z:W):fM b n 3 [x,y,z]=aq (b (some x::some y::some z::Zi (n-3) none)) dA:=rfl
theorem tY(b:SM)(n:Nat)(x y z u:W):fM b n 4 [x,y,z,u]=aq (b (some x::some y::some z::some u::Zi (n-4) none)) dA:=rfl
theorem D5(i j:Int):lift (addW (.int i) (.int j))=au (.int (i+j)):=rfl
theorem D6(i j:Int):lift (fS (.int i) (.int j))=au (.int (i-j)):=rfl
theorem D7(i:Int):lift (lR (.int i))=au (.int (-i)):=rfl
theorem xt{i j:Int}(h:mulC i j=true):lift (nM (.int i) (.int j))=au (.int (i*j)):=by
 unfold nM;simp only[h,if_true];rfl
theorem U3{i j:Int}(h:j≠0):lift (a9 (.int i) (.int j))=au (.int (i.fmod j)):=by
 unfold a9 nK;simp only[ne_eq,h,not_false_eq_true,decide_true,if_true];rfl
theorem xu{i j:Int}(h:j≠0)(h':j.natAbs<2 ^ 64):lift (bU (.int i) (.int j))=au (.int (i.fdiv j)):=by
 unfold bU nK;simp only[ne_eq,h,h',not_false_eq_true,decide_true,adM,if_true];rfl
theorem E7(i j:Int):lift (iQ (.int i) (.int j))=au (.bl (decide (i<j))):=rfl
theorem E8(i j:Int):lift (Wz (.int i) (.int j))=au (.bl (decide (i<=j))):=rfl
theorem E9(i j:Int):lift (f6 (.int i) (.int j))=au (.bl (decide (j<i))):=rfl
theorem Fb(i j:Int):lift (WA (.int i) (.int j))=au (.bl (decide (j<=i))):=rfl
theorem D8(i:Int):lift (iC [.int i])=au (.int i):=rfl
theorem Dk(b:Bool):lift (iC [.bl b])=au (.int (if b then 1 else 0)):=rfl
theorem D9(i:Int):lift (VH [.int i])=au (.int (if i<0 then -i else i)):=rfl
theorem Ea(i j:Int):lift (UP [.int i,.int j])=au (.int (if j>i then j else i)):=rfl
theorem Eb(i j:Int):lift (UQ [.int i,.int j])=au (.int (if j<i then j else i)):=rfl
theorem Fc(b:Bool):lift (match W.bl b with
 | .bl b=>ret b
 | _=>eG)=au b:=rfl
theorem Dm(b:Bool):lift (pW (.bl b))=au b:=rfl
theorem Dn(i:Int):lift (pW (.int i))=au (i != 0):=rfl
theorem Do(ws:List W):lift (pW (.tup ws))=au (!ws.isEmpty):=rfl
theorem Ec(i j:Int):lift (aQ (.int i) (.int j))=au (.bl (decide (i=j))):=by
 funext ph;unfold aQ fe lift;simp only[dat];rfl
theorem xv(i j:Int):lift (ff (.int i) (.int j))=au (.bl (!decide (i=j))):=by
 funext ph;unfold ff fe lift;simp only[dat];rfl
theorem so(s:String):abH (Zv s)=true:=by
 unfold abH;rw[abN];simp only[List.all_toArray,aam,ZO,decide_eq_true_eq];rintro n ⟨c,_,rfl⟩;have h:=c.valid;simp only[UInt32.isValidChar,Nat.isValidChar] at h;show c.val.toNat<_;omega
theorem sX{a b:String}:Zv a=Zv b↔a=b:=by
 constructor
 ·intro h;rw[abN,abN] at h;have h:=congrArg adY (Str.mk.inj h);simp only[List.toList_toArray] at h;have mi:∀l l':List Char,l.map Char.toNat=l'.map Char.toNat->l=l':=by
   intro l
   induction l with
   | nil=>intro l' h;cases l' with
    | nil=>rfl
    | cons _ _=>cases h
   | cons x l ih=>intro l' h;cases l' with
    | nil=>cases h
    | cons y l'=>
     have:=adK h;rw[ih l' this.2,Char.ext (UInt32.toNat_inj.mp this.1)]
  have q:a.toList=b.toList:=mi _ _ h;exact String.toList_inj.mp q
 ·intro h;rw[h]
theorem U4{a b:Str}(ha:abH a=true)(hb:abH b=true):lift (aQ (.str a) (.str b))=au (.bl (decide (a=b))):=by
 funext ph;unfold aQ fe lift;simp only[dat,ha,hb,if_true];rfl
theorem U5{a b:Str}(ha:abH a=true)(hb:abH b=true):lift (ff (.str a) (.str b))=au (.bl (!decide (a=b))):=by
 funext ph;unfold ff fe lift;simp only[dat,ha,hb,if_true];rfl
theorem Ed(a b:String):lift (aQ (.str (Zv a)) (.str (Zv b)))=au (.bl (decide (a=b))):=by
 rw[U4 (so a) (so b)];simp only[sX]
theorem Ee(a b:String):lift (ff (.str (Zv a)) (.str (Zv b)))=au (.bl (!decide (a=b))):=by
 rw[U5 (so a) (so b)];simp only[sX]
theorem Ef(a b:Bool):lift (ff (.bl a) (.bl b))=au (.bl (!(a==b))):=by
 funext ph;unfold ff fe lift;simp only[dat];rfl
theorem p9(c:String)(w:W)(t:String)(h:∀ph,DW w ph=some t):lift (jy c w)=au (.bl (eJ t c)):=by
 funext ph;unfold lift jy;rw[h];rfl
theorem Fe(c:String)(i:Int):lift (jy c (.int i))=au (.bl (eJ "int" c)):=p9 _ _ _ fun _=>rfl
theorem Ff(c:String)(b:Bool):lift (jy c (.bl b))=au (.bl (eJ "bool" c)):=p9 _ _ _ fun _=>rfl
theorem Fg(c:String):lift (jy c .aG)=au (.bl (eJ "NoneType" c)):=p9 _ _ _ fun _=>rfl
theorem Fh(c:String)(x:Str):lift (jy c (.str x))=au (.bl (eJ "str" c)):=p9 _ _ _ fun _=>rfl
theorem Fi(c:String)(ws:List W):lift (jy c (.tup ws))=au (.bl (eJ "tuple" c)):=p9 _ _ _ fun _=>rfl
theorem Fj:eJ "int" "int"=true:=by decide +kernel
theorem Fm:eJ "int" "bool"=false:=by decide +kernel
theorem Fn:eJ "bool" "int"=true:=by decide +kernel
theorem Fo:eJ "bool" "bool"=true:=by decide +kernel
theorem Fp:eJ "NoneType" "int"=false:=by decide +kernel
theorem Fq:eJ "str" "int"=false:=by decide +kernel
theorem Fs:eJ "list" "int"=false:=by decide +kernel
theorem Ft:eJ "list" "list"=true:=by decide +kernel
theorem Fu:eJ "tuple" "tuple"=true:=by decide +kernel
theorem Dp:lift (je [])=au (.tup []):=rfl
theorem Dq(a:W):lift (je [a])=au (.tup [a]):=rfl
theorem Dr(a b:W):lift (je [a,b])=au (.tup [a,b]):=rfl
theorem Ds(a b c:W):lift (je [a,b,c])=au (.tup [a,b,c]):=rfl
theorem Dt(a b c d:W):lift (je [a,b,c,d])=au (.tup [a,b,c,d]):=rfl
theorem Du(a b c d e:W):lift (je [a,b,c,d,e])=au (.tup [a,b,c,d,e]):=rfl
theorem Eg(a:W)(l:List W):lift (dC (.tup (a::l)) (.int 0))=au a:=by
 funext ph;unfold lift dC b9 fX;simp[cj,au]
theorem Eh(a b:W)(l:List W):lift (dC (.tup (a::b::l)) (.int 1))=au b:=by
 funext ph;unfold lift dC b9 fX;simp[cj,au];rw[if_pos (by omega)];simp
theorem Ei(a b c:W)(l:List W):lift (dC (.tup (a::b::c::l)) (.int 2))=au c:=by
 funext ph;unfold lift dC b9 fX;simp[cj,au];rw[if_pos (by omega)];simp
theorem Ej(a b c d:W)(l:List W):lift (dC (.tup (a::b::c::d::l)) (.int 3))=au d:=by
 funext ph;unfold lift dC b9 fX;simp[cj,au];rw[if_pos (by omega)];simp
theorem Ek(a b c d e:W)(l:List W):lift (dC (.tup (a::b::c::d::e::l)) (.int 4))=au e:=by
 funext ph;unfold lift dC b9 fX;simp[cj,au];rw[if_pos (by omega)];simp
noncomputable def nF:W->Bool
 | .aG=>true
 | _=>false
theorem Dv(w:W):lift (DV w .aG)=au (.bl (!nF w)):=by
 unfold DV;cases w <;> rfl
theorem El(w:W):lift (jf w .aG)=au (.bl (nF w)):=by
 unfold jf;cases w <;> rfl
theorem Ct(i:Int):nF (.int i)=false:=rfl
theorem Cu:nF .aG=true:=rfl
theorem Cv(ws:List W):nF (.tup ws)=false:=rfl
theorem Cw(i:Nat):nF (.ref i)=false:=rfl
noncomputable def Ex(ph ph':PH):Prop:=∃m,ph'=ph++m
theorem Ex.refl(ph:PH):Ex ph ph:=⟨[],by simp⟩
theorem Ex.trans{a b c:PH}(h:Ex a b)(h':Ex b c):Ex a c:=by
 obtain⟨m,rfl⟩:=h;obtain⟨m',rfl⟩:=h';exact⟨m++m',by simp⟩
theorem Ex.one(ph:PH)(o:PO):Ex ph (ph++[o]):=⟨[o],rfl⟩
theorem Ex.get{a b:PH}(h:Ex a b){o:PO}(e:a[i]? =some o):b[i]? =some o:=by
 obtain⟨m,rfl⟩:=h;rw[ZU (Zb.mp e).1];exact e
theorem Ex.len{a b:PH}(h:Ex a b):a.length<=b.length:=by obtain⟨m,rfl⟩:=h;simp
theorem bz(ph:PH)(o:PO):(ph++[o])[ph.length]? =some o:=by simp
theorem small(h:n<=1000000):n<=sizeLine:=Zq h (by decide)
section
variable{β:Type}{ph:PH}{i:Nat}{ws:List W}
theorem wL(ws:List W)(ph:PH)(h:ws.length<=Zt):lift (pY ws) ph=.ok (.ref ph.length) (ph++[.lst ws]):=by
 unfold lift pY;rw[if_pos h]
theorem Tp(h:ph[i]? =some (.lst ws)){k:Int}{w:W}(hk:b9 ws k=some w):lift (dC (.ref i) (.int k)) ph=.ok w ph:=by
 unfold lift dC;simp only[cj,h,aau,hk,ZN]
theorem pq(h:ph[i]? =some (.lst ws)):lift (cY [.ref i]) ph=.ok (.int ws.length) ph:=by
 unfold lift cY;simp only[cj,h,ZN]
theorem Cy(h:ph[i]? =some (.lst ws)):cz (.ref i) ph=true:=by unfold cz;simp only[h]
theorem pv(h:ph[i]? =some (.lst ws)):lift (iB (cz (.ref i))) ph=.ok () ph:=by
 unfold lift iB;rw[if_pos (Cy h)]
theorem r8(h:ph[i]? =some (.lst ws))(hz:ws.length<Zt)(w:W):lift (dH (.ref i) [w]) ph=.ok .aG (ph.set i (.lst (ws++[w]))):=by
 unfold lift dH;simp only[h,hz,if_true]
theorem Nv{j:Nat}{us:List W}(h:ph[i]? =some (.lst ws))(h':ph[j]? =some (.lst us))(hz:ws.length+us.length<=Zt):lift (mZ (.ref i) [.ref j]) ph=.ok .aG (ph.set i (.lst (ws++us))):=by
 unfold lift mZ;simp only[h,h',hz,if_true]
theorem Pp(h:ph[i]? =some (.lst ws)):lift (nz [.ref i]) ph=.ok (.ref ph.length) (ph++[.lst ws]):=by
 unfold lift nz;simp only[cj,h]
theorem Cz{j:Nat}{us:List W}(h:ph[i]? =some (.lst ws))(h':ph[j]? =some (.lst us))(hz:ws.length+us.length<=Zt):lift (addW (.ref i) (.ref j)) ph=.ok (.ref ph.length) (ph++[.lst (ws++us)]):=by
 unfold lift addW;simp only[h,h',hz,if_true]
end
theorem k9(a b:Int)(h:0<b):0<=a.fmod b/\a.fmod b<b:=by
 rw[acp _ (by omega)];exact⟨Int.emod_nonneg _ (by omega),Int.emod_lt_of_pos _ h⟩
theorem eR(ws:List α)(k:Nat)(h:k<ws.length):b9 ws (k:Int)=ws[k]? :=by
 unfold b9 fX;rw[if_pos (by omega),if_pos (by omega)];rfl
theorem V3(ws:List W):lift (cY [.fl ws])=au (.int ws.length):=by funext ph;rfl
theorem XM{i:Int}{w:W}(h:b9 ws i=some w):lift (dC (.fl ws) (.int i))=au w:=by
 funext ph;unfold lift dC;simp only[cj,aau,h,ZN];rfl
theorem pd{chk:PH->Bool}{g:GM}{b:SM}(R:W->PH->Prop)(I:Nat->aK->PH->Prop):∀(items:List W) (k:Nat) (σ:aK) (ph:PH),
  (∀j σ ph,I j σ ph->chk ph=true) →
  (∀j x σ ph,items[j]? =some x->I (k+j) σ ph->∃σ1 ph1,g x σ ph=.ok σ1 ph1/\∃f ph2,b σ1 ph1=.ok f ph2/\((∃bE,(f=.nx bE\/f=.ct bE)/\I (k+j+1) bE ph2)\/∃w,f=.rt w/\R w ph2)) →
  I k σ ph->(∃aj ph',cS chk g b items σ ph=.ok (.nx aj) ph'/\I (k+items.length) aj ph')\/∃w ph',cS chk g b items σ ph=.ok (.rt w) ph'/\R w ph'
 | [],k,σ,ph,hc,hs,h0=>by
  refine .inl ⟨σ,ph,?_,h0⟩;unfold cS;rw[if_pos (hc _ _ _ h0)]
 | x::xs,k,σ,ph,hc,hs,h0=>by
  obtain⟨σ1,ph1,e1,f,ph2,e2,h⟩:=hs 0 x σ ph rfl h0;have e:cS chk g b (x::xs) σ ph=(match f with
   | .nx aj=>cS chk g b xs aj
   | .ct aj=>cS chk g b xs aj
   | .bk aj=>au (.nx aj)
   | .rt w=>au (.rt w)) ph2:=by
   conv=>lhs;unfold cS
   rw[if_pos (hc _ _ _ h0),aW e1,aW e2]
   all_goals (cases f <;> rfl)
  rcases h with⟨bE,hf,hI⟩ | ⟨w,rfl,hR⟩
  ·have e:cS chk g b (x::xs) σ ph=cS chk g b xs bE ph2:=by
    rcases hf with rfl | rfl <;> exact e
   rw[e];have ih:=pd R I xs (k+1) bE ph2 hc (fun j y σ ph hj hI=>by
    have:=hs (j+1) y σ ph (by simpa using hj) (by rw[show k+(j+1)=k+1+j by omega];exact hI);rw[show k+(j+1)+1=k+1+j+1 by omega] at this;exact this) hI
   rw[show k+1+xs.length=k+(x::xs).length by simp;omega] at ih;exact ih
  ·exact .inr ⟨w,ph2,e,hR⟩
variable{b:SM}
theorem mV{chk:PH->Bool}{g:GM}(I:Nat->aK->PH->Prop)(items:List W)(σ:aK)(ph:PH)
  (hc:∀j σ ph,I j σ ph->chk ph=true)
  (hs:∀j x σ ph,items[j]? =some x->I j σ ph->∃σ1 ph1,g x σ ph=.ok σ1 ph1/\∃f ph2,b σ1 ph1=.ok f ph2/\∃bE,(f=.nx bE\/f=.ct bE)/\I (j+1) bE ph2)
  (h0:I 0 σ ph):∃aj ph',cS chk g b items σ ph=.ok (.nx aj) ph'/\I items.length aj ph':=by
 have:=pd (fun _ _=>False) I items 0 σ ph hc (fun j x σ ph hj hI=>by
  rw[aaf] at hI ⊢;obtain⟨σ1,ph1,e1,f,ph2,e2,h⟩:=hs j x σ ph hj hI;exact⟨σ1,ph1,e1,f,ph2,e2,.inl h⟩) h0
 rw[aaf] at this
 rcases this with h | ⟨_,_,_,h⟩
 ·exact h
 ·exact h.elim
theorem sh{chk:PH->Bool}{g:GM}{c:TM}{e:EM}(L:Nat)(I:Nat->List W->aK->PH->Prop):∀(items:List W) (k:Nat) (acc:List W) (σ:aK) (ph:PH),
  (∀j acc σ ph,I j acc σ ph->chk ph=true) →
  (∀j x acc σ ph,items[j]? =some x->I (k+j) acc σ ph->∃σ1 ph1,g x σ ph=.ok σ1 ph1/\∃t ph2,c σ1 ph1=.ok t ph2/\((t=false/\I (k+j+1) acc σ1 ph2)\/(t=true/\∃w iP,e σ1 ph2=.ok w iP/\iP[L]? =some (.lst acc)/\acc.length<Zt/\I (k+j+1) (acc++[w]) σ1 (iP.set L (.lst (acc++[w])))))) →
  I k acc σ ph->∃lW aj ph',du chk g c e L items σ ph=.ok () ph'/\I (k+items.length) lW aj ph'
 | [],k,acc,σ,ph,hc,hs,h0=>by
  refine⟨acc,σ,ph,?_,h0⟩;unfold du;rw[if_pos (hc _ _ _ _ h0)]
 | x::xs,k,acc,σ,ph,hc,hs,h0=>by
  obtain⟨σ1,ph1,e1,t,ph2,e2,h⟩:=hs 0 x acc σ ph rfl h0;have next:∀xX ou,I (k+1) xX σ1 ou->∃lW aj ph',du chk g c e L xs σ1 ou=.ok () ph'/\I (k+(x::xs).length) lW aj ph':=fun xX ou hI=>by
   have ih:=sh L I xs (k+1) xX σ1 ou hc (fun j y acc σ ph hj hI=>by
    have:=hs (j+1) y acc σ ph (by simpa using hj) (by rw[show k+(j+1)=k+1+j by omega];exact hI);rw[show k+(j+1)+1=k+1+j+1 by omega] at this;exact this) hI
   rw[show k+1+xs.length=k+(x::xs).length by simp;omega] at ih;exact ih
  have n1:cT (g x σ) ph=.ok σ1 ph1:=by unfold cT;rw[e1]
  have n2:cT (c σ1) ph1=.ok t ph2:=by unfold cT;rw[e2]
  rcases h with⟨rfl,hI⟩ | ⟨rfl,w,iP,e3,hL,hz,hI⟩
  ·have e:du chk g c e L (x::xs) σ ph=du chk g c e L xs σ1 ph2:=by
    conv=>lhs;unfold du
    rw[if_pos (hc _ _ _ _ h0),aW n1,aW n2];rfl
   rw[e];exact next _ _ hI
  ·have n3:cT (e σ1) ph2=.ok w iP:=by unfold cT;rw[e3]
   have e:du chk g c e L (x::xs) σ ph=du chk g c e L xs σ1 (iP.set L (.lst (acc++[w]))):=by
    conv=>lhs;unfold du
    rw[if_pos (hc _ _ _ _ h0),aW n1,aW n2];show aq (cT (e σ1)) _ ph2=_;rw[aW n3];exact aW (r8 hL hz w)
   rw[e];exact next _ _ hI
theorem vJ(im:IM)(cap:List (Option Nat))(g:GM)(c:TM)(e:EM)(σ:aK):bX im cap g c e σ=aq (im σ) fun r ph=>aq (du r.2 g c e ph.length r.1 (fA cap σ)) (fun _=>au (.ref ph.length)) (ph++[.lst []]):=rfl
theorem Q0(ph m:PH)(o o':PO):(ph++[o]++m).set ph.length o'=ph++[o']++m:=by
 rw[acD,adm _ _ (Zf _)];simp
variable{σ:aK}
theorem jO(as:List α)(h:α->W){im:IM}{cap:List (Option Nat)}{g:GM}{c:TM}{e:EM}{ph0:PH}{chk:PH->Bool}(qA:im σ ph0=.ok (as.map h,chk) ph)(qB:∀ph',Ex ph ph'->chk ph'=true)(hz:as.length<=Zt)
  (F:α->Option W) (S:aK->Prop) (h0:S (fA cap σ))
  (step:∀x∈as,∀σ H,S σ->Ex ph H->∃σ1,g (h x) σ H=.ok σ1 H/\S σ1/\∃t H1,c σ1 H=.ok t H1/\Ex H H1/\((t=false/\F x=none)\/(t=true/\∃w H2,e σ1 H1=.ok w H2/\Ex H1 H2/\F x=some w))) :
  ∃ph',bX im cap g c e σ ph0=.ok (.ref ph.length) ph'/\Ex (ph++[.lst (as.filterMap F)]) ph':=by
 rw[vJ,aW qA];have key:=sh (chk:=chk) (g:=g) (c:=c) (e:=e) ph.length (fun k acc σ H=>S σ/\acc=(as.take k).filterMap F/\Ex (ph++[.lst acc]) H) (as.map h) 0 [] (fA cap σ) (ph++[.lst []])
  (fun j acc σ H hI=>qB _ ((Ex.one _ _).trans hI.2.2))
  (fun j y acc σ H hj hI=>by
   rw[aaf] at hI ⊢;obtain⟨hS,ha,hE⟩:=hI;rw[Ze] at hj;cases hx:as[j]? with
   | none=>rw[hx] at hj;cases hj
   | some x=>
    rw[hx] at hj;cases hj;have tk:(as.take (j+1)).filterMap F=acc++(F x).toList:=by
     rw[List.take_add_one,hx,List.filterMap_append,ha];cases hF:F x <;> simp[hF]
    obtain⟨σ1,e1,gD,t,H1,e2,x2,h⟩:=step x (Zj hx) σ H hS ((Ex.one _ _).trans hE);refine⟨σ1,H,e1,t,H1,e2,?_⟩
    rcases h with⟨rfl,hF⟩ | ⟨rfl,w,H2,e3,x3,hF⟩
    ·exact .inl ⟨rfl,gD,by rw[tk,hF];simp,hE.trans x2⟩
    ·have x4:=(hE.trans x2).trans x3;refine .inr ⟨rfl,w,H2,e3,x4.get (bz _ _),?_,gD,by rw[tk,hF];rfl,?_⟩
     ·have hl:acc.length<=j:=by
       rw[ha];exact Zq (List.length_filterMap_le _ _) (by simp;omega)
      have:=(Zb.mp hx).1;omega
     ·obtain⟨m,rfl⟩:=x4;rw[Q0];exact⟨m,rfl⟩)
  ⟨h0,by simp,Ex.refl _⟩
 obtain⟨acc,aj,ph',e1,_,ha,hE⟩:=key;refine⟨ph',?_,?_⟩
 ·show aq (du chk g c e ph.length (as.map h) (fA cap σ)) _ _=_;rw[aW e1];rfl
 ·rw[aaf,Zd,abB] at ha;rw[<- ha];exact hE
theorem m7{α β:Type}(f:α->β):∀l:List α,l.filterMap (fun a=>some (f a))=l.map f
 | []=>rfl
 | a::l=>by
  rw[List.filterMap_cons_some (f:=fun a=>some (f a)) (b:=f a) rfl,m7 f l];rfl
theorem Q1{w:W}(h:(gp ws)[i]? =some w):∃x,ws[i]? =some x/\w=.tup [.int i,x]:=by
 unfold gp at h;rw[Ze] at h;cases q:(ZS ws.length)[i]? with
 | none=>rw[q] at h;cases h
 | some k=>
  rw[q] at h;obtain⟨hi,e⟩:=Zb.mp q;rw[acu] at e;subst e;rw[ZI] at hi;cases h;exact⟨ws[i],by simp[hi],by simp[hi]⟩
theorem Q2(ws:List W):(gp ws).length=ws.length:=by unfold gp;simp
theorem fL(h:m σ ph=.ok (.ref i) ph')(hi:ph'[i]? =some (.lst ws)):cO m σ ph=.ok (ws,fun p=>decide (p[i]? =some (.lst ws))) ph':=by
 unfold cO;rw[aW h];unfold lift tj ke;simp only[hi]
theorem i6{m:AM}{j:Int}(h:m σ ph=.ok [.int j] ph')(h1: -(2 ^ 62)<=j)(h2:j<2 ^ 62):cV m σ ph=.ok (d5 0 j.toNat,fun _=>true) ph':=by
 unfold cV;rw[aW h];unfold lift xM;simp only[h1,h2,and_self,if_true]
theorem A6{m:AM}(h:m σ ph=.ok [.ref i] ph')(hi:ph'[i]? =some (.lst ws)):j0 m σ ph=.ok (gp ws,fun p=>decide (p[i]? =some (.lst ws))) ph':=by
 unfold j0;rw[aW h];unfold lift xm ke;simp only[hi,ZN]
theorem BI{lo:Int}{k:Nat}{w:W}(h:(d5 lo n)[k]? =some w):k<n/\w=.int (lo+(k:Int)):=by
 unfold d5 at h;rw[Ze] at h;cases q:(ZS n)[k]? with
 | none=>rw[q] at h;cases h
 | some j=>
  rw[q] at h;obtain⟨hi,e⟩:=Zb.mp q;rw[acu] at e;subst e;rw[ZI] at hi;cases h;exact⟨hi,rfl⟩
theorem mW(lo:Int)(n:Nat):(d5 lo n).length=n:=by unfold d5;simp
variable{ds:List aby}
theorem Tq{x:W}(h:ph[i]? =some (.lst ws))(h1:bc (dat ph 40) ws=some ds)(h2:dat ph 40 x=some d):lift (gZ x (.ref i)) ph=.ok (.bl (ds.any fun e=>ZV e d)) ph:=by
 unfold lift gZ inD;simp only[cj,h,h1,h2,ZN]
theorem Tr{x:W}(h1:bc (dat ph 40) ws=some ds)(h2:dat ph 40 x=some d):lift (gZ x (.tup ws)) ph=.ok (.bl (ds.any fun e=>ZV e d)) ph:=by
 unfold lift gZ inD;simp only[cj,h1,h2,ZN]
theorem Em(a b:Str):ZV (.str a) (.str b)=decide (a=b):=by
 unfold ZV;rfl
theorem Eo(a b:Int):ZV (.int a) (.int b)=decide (a=b):=by
 unfold ZV;rfl
theorem jP{α β γ:Type}(f:β->Option γ)(g:α->β)(h:α->γ)(hf:∀a,f (g a)=some (h a)):∀l:List α,bc f (l.map g)=some (l.map h)
 | []=>rfl
 | a::l=>by
  show bc f (g a::l.map g)=_;unfold bc;rw[hf a,jP f g h hf l];rfl
theorem CA(x:String)(ss:List String):lift (gZ (.str (Zv x)) (.tup (ss.map fun s=>.str (Zv s))))=au (.bl (ss.any fun s=>decide (s=x))):=by
 funext ph
 rw[Tr (jP _ _ (fun s=>PyData.str (Zv s)) (fun s=>by simp only[dat,so,if_true]) ss) (d:=.str (Zv x)) (by simp only[dat,so,if_true])];rw[adZ];simp only[adV,Em,sX];rfl
theorem Ep(x a b:String):lift (gZ (.str (Zv x)) (.tup [.str (Zv a),.str (Zv b)]))=au (.bl (decide (a=x)||decide (b=x))):=by
 have:=CA x [a,b];simp only[ZL,abV,aay,List.any_nil,adJ] at this;exact this
theorem Er(x a b c:String):lift (gZ (.str (Zv x)) (.tup [.str (Zv a),.str (Zv b),.str (Zv c)]))=au (.bl (decide (a=x)||(decide (b=x)||decide (c=x)))):=by
 have:=CA x [a,b,c];simp only[ZL,abV,aay,List.any_nil,adJ] at this;exact this
theorem Es(ws:List W)(y:W):ag (.tup ws) y=dC (.tup ws) y:=rfl
theorem Et(ws:List W)(y:W):ag (.fl ws) y=dC (.fl ws) y:=rfl
theorem Eu(x:Str)(y:W):ag (.str x) y=dC (.str x) y:=rfl
theorem Ew(x:W)(ws:List W):c6 x (.tup ws)=gZ x (.tup ws):=rfl
theorem Ey(x:W)(ws:List W):c6 x (.fl ws)=gZ x (.fl ws):=rfl
theorem Dw(x:W)(ws:List W):fT x (.tup ws)=xO x (.tup ws):=rfl
theorem wM(i:Int)(y:W):bH (.int i) y=nM (.int i) y:=by
 funext ph;unfold bH;cases y <;> rfl
theorem sH(o i:EM)(v:W)(σ:aK):fu o i v σ=aq (o σ) fun ow=>aq (i σ) fun iw=>aq (lift (nT ow iw v)) fun _=>au σ:=rfl
section
variable{ph:PH}{i:Nat}{ws:List W}{kws:List (W×W)}
theorem xw(h:ph[i]? =some (.lst ws)):dY (.ref i) ph=none:=by unfold dY;simp only[h]
theorem lK(h:ph[i]? =some (.aF kws)):dY (.ref i) ph=some (i,kws):=by unfold dY;simp only[h]
theorem eU(h:ph[i]? =some (.lst ws)){k:Int}{w:W}(hk:b9 ws k=some w):lift (ag (.ref i) (.int k)) ph=.ok w ph:=by
 have:=Tp h hk;unfold lift at this ⊢;unfold ag;rw[xw h];exact this
variable{k:W}
theorem Q3(h:ph[i]? =some (.aF kws)){w:W}(hk:cQ kws k=true)(hw:c4 kws k=some w):lift (ag (.ref i) k) ph=.ok w ph:=by
 unfold lift ag;simp only[lK h,hk,if_true,hw,ZN]
theorem Q4(h:ph[i]? =some (.aF kws))(hk:cQ kws k=true):lift (c6 k (.ref i)) ph=.ok (.bl (c4 kws k).isSome) ph:=by
 unfold lift c6;simp only[lK h,hk,if_true]
theorem BJ(h:ph[i]? =some (.aF kws))(hk:cQ kws k=true):lift (fT k (.ref i)) ph=.ok (.bl (!(c4 kws k).isSome)) ph:=by
 unfold lift fT;simp only[lK h,hk,if_true]
theorem Q5{ds:List aby}{x:W}{d:aby}(h:ph[i]? =some (.lst ws))(h1:bc (dat ph 40) ws=some ds)(h2:dat ph 40 x=some d):lift (c6 x (.ref i)) ph=.ok (.bl (ds.any fun e=>ZV e d)) ph:=by
 have:=Tq h h1 h2;unfold lift at this ⊢;unfold c6;rw[xw h];exact this
theorem vK(h:ph[i]? =some (.aF kws))(hk:cQ kws k=true)(hz:kws.length<Zt)(v:W):lift (nT (.ref i) k v) ph=.ok () (ph.set i (.aF (dw kws k v))):=by
 unfold lift nT;simp only[lK h,hk,hz,and_self,if_true]
theorem vL(h:ph[i]? =some (.lst ws)){k:Int}(h1: -(2 ^ 63)<=k)(h2:k<2 ^ 63)(hz:ws.length*k.toNat<=Zt):lift (bH (.ref i) (.int k)) ph=.ok (.ref ph.length) (ph++[.lst (Zi k.toNat ws).flatten]):=by
 unfold lift bH;simp only[h,h1,h2,hz,and_self,if_true]
end
theorem CB(σ:aK):nR σ=lift newD:=rfl
theorem qa(b:SM)(n:Nat)(x y z u v:W):fM b n 5 [x,y,z,u,v]=aq (b (some x::some y::some z::some u::some v::Zi (n-5) none)) dA:=rfl
theorem Fv(b:SM)(n:Nat)(x y z u v w:W):fM b n 6 [x,y,z,u,v,w]=aq (b (some x::some y::some z::some u::some v::some w::Zi (n-6) none)) dA:=rfl
theorem vM{t:TM}{b:SM}:∀(n:Nat) (σ:aK) (ph:PH),(cZ t b n σ ph).kf=false->cZ t b (n+1) σ ph=cZ t b n σ ph
 | 0,σ,ph,h=>by cases h
 | n+1,σ,ph,h=>by
  have h':(aq (t σ) (fun c=>if c=true then aq (b σ) fun f=>match f with
   | .nx aj=>cZ t b n aj
   | .ct aj=>cZ t b n aj
   | .bk aj=>au (.nx aj)
   | .rt w=>au (.rt w)
   else au (.nx σ)) ph).kf=false:=h
  show aq (t σ) (fun c=>if c=true then aq (b σ) fun f=>match f with
   | .nx aj=>cZ t b (n+1) aj
   | .ct aj=>cZ t b (n+1) aj
   | .bk aj=>au (.nx aj)
   | .rt w=>au (.rt w)
   else au (.nx σ)) ph=aq (t σ) (fun c=>if c=true then aq (b σ) fun f=>match f with
   | .nx aj=>cZ t b n aj
   | .ct aj=>cZ t b n aj
   | .bk aj=>au (.nx aj)
   | .rt w=>au (.rt w)
   else au (.nx σ)) ph
  cases e1:t σ ph with
  | no=>unfold aq;rw[e1]
  | ex x p=>unfold aq;rw[e1]
  | ok c p=>
   rw[aW e1] at h' ⊢;rw[aW e1];cases c with
   | false=>rfl
   | true=>
    simp only[if_true] at h' ⊢;cases e2:b σ p with
    | no=>unfold aq;rw[e2]
    | ex x q=>unfold aq;rw[e2]
    | ok f q=>
     rw[aW e2] at h' ⊢;rw[aW e2];cases f with
     | nx aj=>exact vM n aj q h'
     | ct aj=>exact vM n aj q h'
     | bk aj=>rfl
     | rt w=>rfl
variable{t:TM}
theorem Dx{m:Nat}(hm:n<=m)(h:(cZ t b n σ ph).kf=false):cZ t b m σ ph=cZ t b n σ ph:=by
 induction m with
 | zero=>
  have:n=0:=by omega
  rw[this]
 | succ m ih=>
  by_cases e:n=m+1
  ·rw[e]
  ·have:=ih (by omega);rw[vM m σ ph (by rw[this];exact h),this]
theorem Of{f:Fl}(h:cZ t b n σ ph=.ok f ph'):iq t b σ ph=.ok f ph':=by
 have hn:(cZ t b n σ ph).kf=false:=by rw[h];rfl
 have he:∃n,(cZ t b n σ ph).kf=false:=⟨n,hn⟩
 unfold iq;rw[dif_pos he];have hc:=he.choose_spec;by_cases Gh:n<=he.choose
 ·rw[Dx Gh hn,h]
 ·rw[<- Dx (Nat.le_of_not_le Gh) hc,h]
theorem A7(I:Nat->aK->PH->Prop)(D:aK->PH->Prop)
  (step:∀k σ ph,I k σ ph->(∃ph1,t σ ph=.ok false ph1/\D σ ph1)\/∃ph1,t σ ph=.ok true ph1/\∃f ph2,b σ ph1=.ok f ph2/\∃bE,(f=.nx bE\/f=.ct bE)/\∃k',k'<k/\I k' bE ph2) :
  ∀k σ ph,I k σ ph->∃aj ph',iq t b σ ph=.ok (.nx aj) ph'/\D aj ph':=by
 have key:∀k σ ph,I k σ ph->∃n aj ph',cZ t b n σ ph=.ok (.nx aj) ph'/\D aj ph':=by
  intro k
  induction k using adn with
  | ind k ih=>
   intro σ ph h
   rcases step k σ ph h with⟨ph1,e1,hD⟩ | ⟨ph1,e1,f,ph2,e2,bE,hf,k',hk,hI⟩
   ·refine⟨1,σ,ph1,?_,hD⟩;show aq (t σ) _ ph=_;rw[aW e1];rfl
   ·obtain⟨n,aj,ph',e3,hD⟩:=ih k' hk bE ph2 hI;refine⟨n+1,aj,ph',?_,hD⟩;show aq (t σ) _ ph=_;rw[aW e1];simp only[if_true];rw[aW e2]
    rcases hf with rfl | rfl <;> exact e3
 intro k σ ph h;obtain⟨n,aj,ph',e,hD⟩:=key k σ ph h;exact⟨aj,ph',Of e,hD⟩
theorem pL(ph:PH)(n:Nat)(i:Int):dat ph n (.int i)=some (.int i):=by cases n <;> rfl
theorem Ae:∀ds:List aby,(∀d∈ds,ZV d d=true)->abL ds ds=true
 | [],_=>by unfold abL;rfl
 | d::ds,h=>by
  simp only[abL,h d (by simp),Ae ds (fun e he=>h e (by simp[he])),adM]
theorem BK{α β:Type}{f:α->Option β}:∀{l:List α} {m:List β},bc f l=some m->∀b∈m,∃a∈l,f a=some b
 | [],m,h,b,hb=>by cases h;cases hb
 | a::l,m,h,b,hb=>by
  unfold bc at h;split at h
  ·rename_i b' m' e1 e2;cases h
   rcases ZK.mp hb with rfl | hb
   ·exact⟨a,by simp,e1⟩
   ·obtain⟨c,hc,e⟩:=BK e2 b hb;exact⟨c,by simp[hc],e⟩
  ·cases h
theorem Pq:∀(n:Nat) (w:W) (d:aby),dat ph n w=some d->ZV d d=true:=by
 intro n
 induction n with
 | zero=>
  intro w d h;cases w <;> simp only[dat] at h <;> first | (cases h;simp[ZV];done) | skip
  ·split at h
   ·cases h;simp[ZV]
   ·cases h
  all_goals cases h
 | succ n ih=>
  have key:∀(ws:List W) (ds:List aby),bc (dat ph n) ws=some ds->abL ds ds=true:=fun ws ds h=>
   Ae ds fun d hd=>let ⟨w,_,e⟩:=BK h d hd;ih w d e
  intro w d h;cases w with
  | aG=>cases h;simp[ZV]
  | bl b=>cases h;simp[ZV]
  | int i=>cases h;simp[ZV]
  | str x=>
   simp only[dat] at h;split at h
   ·cases h;simp[ZV]
   ·cases h
  | tup ws=>
   simp only[dat] at h;cases q:bc (dat ph n) ws with
   | none=>rw[q] at h;cases h
   | some ds=>rw[q] at h;cases h;simp only[ZV,key ws ds q]
  | fl ws=>
   simp only[dat] at h;cases q:bc (dat ph n) ws with
   | none=>rw[q] at h;cases h
   | some ds=>rw[q] at h;cases h;simp only[ZV,key ws ds q]
  | ref i=>
   simp only[dat] at h;split at h
   ·rename_i ws hw;cases q:bc (dat ph n) ws with
    | none=>rw[q] at h;cases h
    | some ds=>rw[q] at h;cases h;simp only[ZV,key ws ds q]
   ·cases h
  | exc c ns ws=>simp only[dat] at h;cases h
  | fn x ws=>simp only[dat] at h;cases h
theorem Ez{x:W}{b:Bool}(h:fe ph x y=some b):lift (aQ x y) ph=.ok (.bl b) ph:=by
 unfold lift aQ;simp only[h,ZN]
theorem Ts{x:W}(h1:dat ph 40 x=some d)(h2:dat ph 40 y=some d):fe ph x y=some true:=by
 unfold fe;rw[h1,h2];simp only[Pq 40 _ _ h1]
theorem eq_nil(hi:ph[i]? =some (.lst ws))(hj:ph[j]? =some (.lst []))(hd:bc (dat ph 39) ws=some ds):fe ph (.ref i) (.ref j)=some ws.isEmpty:=by
 unfold fe;have e1:dat ph 40 (.ref i)=some (.list ds):=by simp only[dat,hi,hd,ZN]
 have e2:dat ph 40 (.ref j)=some (.list []):=by simp only[dat,hj,bc,ZN]
 rw[e1,e2];cases ws with
 | nil=>cases hd;simp[ZV,abL]
 | cons w ws=>
  unfold bc at hd;split at hd
  ·cases hd;simp[ZV,abL]
  ·cases hd
section
variable{ph:PH}{i:Nat}{c f:Str}{fs:List (Str×W)}{w y:W}{kws:List (W×W)}
theorem Q6(h:ph[i]? =some (.aF kws)):lift (iB (fB (.ref i))) ph=.ok () ph:=by
 unfold lift iB fB;rw[lK h];rfl
theorem Q7(h:ph[i]? =some (.aF kws)){k z:W}(hk:cQ kws k=true):lift (fC (.ref i) [k,z]) ph=.ok ((c4 kws k).getD z) ph:=by
 unfold lift fC;simp only[lK h,hk,if_true]
theorem Pr{ws:List W}{ps d:List (W×W)}(h:ph[i]? =some (.lst ws))(h1:bc pK ws=some ps)(h2:lI [] ps=some d):lift (nC [.ref i]) ph=.ok (.ref ph.length) (ph++[.aF d]):=by
 unfold lift nC;simp only[h,h1,h2]
end
theorem Nw(x:String)(ss:List String)(h:ph[i]? =some (.lst (ss.map fun s=>.str (Zv s))))(hj:ss.findIdx? (fun s=>decide (s=x))=some j):lift (nj (.ref i) [.str (Zv x)]) ph=.ok (.int j) ph:=by
 have e1:cj (.ref i) ph=some (ss.map fun s=>W.str (Zv s)):=by unfold cj;simp only[h]
 have e2:bc (dat ph 40) (ss.map fun s=>W.str (Zv s))=some (ss.map fun s=>PyData.str (Zv s)):=jP _ _ _ (fun s=>by simp only[dat,so,if_true]) ss;have e3:dat ph 40 (.str (Zv x))=some (.str (Zv x)):=by simp only[dat,so,if_true]
 have e4:qp ph (.ref i) (.str (Zv x))=some j:=by
  unfold qp;rw[if_pos (Cy h),e1,e3];simp only[e2,aau];rw[List.findIdx?_map,<- hj]
  congr 1
  funext s
  simp only[adV,Em,sX]
 unfold lift nj;simp only[e4,ZN]
noncomputable def tq(x:Str)(i:Nat):EM:=fun σ=>match σ[i]? with
 | some (some w)=>au (.fn x [w])
 | _=>c5
noncomputable def pM(x:Str)(i:Nat)(m n:EM):EM:=fun σ=>match σ[i]? with
 | some (some (.fn z _))=>if z=x then m σ else n σ
 | _=>c5
noncomputable def xy(m:SM):SM:=fun σ=>cT (m σ)
section
variable{X:Cx}{pins:List (Addr×Obj)}{σ:L2.St}{H:Hp}{s:Zh}
variable{i:Nat}
theorem Q8{x:Str}{m n:EM}{e:Expr}(h1:IE X e m)(h2:IE X e n):IE X e (pM x i m n):=by
 intro pins s σ H Q I h;obtain⟨φ,ph,ws,hH,hS,h⟩:=h;unfold pM at h;cases ew:ws[i]? with
 | none=>simp only[ew] at h;exact h.elim
 | some ow=>
 cases ow with
 | none=>simp only[ew] at h;exact h.elim
 | some w0=>
 simp only[ew] at h;cases w0 with
 | fn z cs=>
  simp only at h;by_cases hz:z=x
  ·rw[if_pos hz] at h;exact h1 pins s σ H Q I ⟨φ,ph,ws,hH,hS,h⟩
  ·rw[if_neg hz] at h;exact h2 pins s σ H Q I ⟨φ,ph,ws,hH,hS,h⟩
 | _=>exact h.elim
theorem Q9{x:Str}{m n:EM}{e:Expr}(h1:JE X e m)(h2:JE X e n):JE X e (pM x i m n):=⟨Q8 h1.h h2.h⟩
variable{n:Str}{c0:Addr}{oc:Obj}
theorem Pt{v:Option Value}(I:Inv X pins σ H s)(gA:X.fn n=false)(eB:X.env.cells.lookup n=some c0)(jB:X.aA.heap.objs.size<=c0)(hn:H c0=none)(hg:s.heap.get? c0=some oc)(hcd:oc.data=.cell v):Inv X pins σ (upd H c0 (.aO oc ck)) s:=by
 have B:=I.base;refine⟨I.ok,I.os,I.bare,⟨B.keep,B.slot,fun b o e nn hx=>?_,B.there,fun b xs e=>?_,fun b o u e=>?_,fun b ps e=>?_⟩,I.loc,I.cell,?_,fun y d e=>?_,fun p hp=>?_,fun b u e=>?_,I.len⟩
 ·rw[aM (ZE (Zg (Zl e) jB))];exact B.free b o e nn hx
 ·rw[aM (bN (B.ed b xs e) hn)];exact B.ed b xs e
 ·rw[aM (bN (B.dz b o u e) hn)];exact B.dz b o u e
 ·obtain⟨m,q⟩:=B.ee b ps e;exact⟨m,by rw[aM (bN q hn)];exact q⟩
 ·rw[aM (abg (I.jo n c0 eB))];exact I.free
 ·by_cases hd:d=c0
  ·subst hd;rw[I.ok.inj y n d e eB];exact⟨fun z=>absurd (show X.fn n=true from z) (by rw[gA];exact ZG),.inr ⟨oc,bp⟩⟩
  ·rw[aM hd];exact I.fP y d e
 ·obtain⟨q1,q2,q3,q4,q5⟩:=I.pin p hp;have jx:p.1≠c0:=fun z=>by rw[z,hg] at q1;cases q1;exact q5 v hcd
  exact⟨q1,by rw[aM jx];exact q2,q3,q4,q5⟩
 ·by_cases hb:b=c0
  ·subst hb;rw[bp] at e;cases e;exact⟨hg,trivial,⟨_,hg⟩,fun _ _ _ _=>trivial⟩
  ·rw[aM hb] at e;exact(I.ay b u e).gu (fun _ _ _ q=>q) (fun d q=>by rw[aM (bN q hn)];exact q) fun d xs q=>by rw[aM (bN q hn)];exact q
theorem Tt{x:Str}{L:fF}{c P:Addr}(gA:X.fn n=false)(hN:X.N[i]? =some n)(hk:X.env.scope.names.lookup n=some .cell)(eB:X.env.cells.lookup n=some c0)(jB:X.aA.heap.objs.size<=c0)(hl:gn X.K x=some L)(hq:X.env.qual=x++".<locals>.")(uo:X.env.globals=Zo)(nD:X.env.code=.ref c)
  (mh:X.K.lookup c=some oc) (hP:gM oc=some P) (mj:c≠P) (hm:(x,c,P)∈dh X.K) (lV:∀p∈dh X.K,p.2.2=P->p.1=x) (kg:abq L.sc X.env=pure [(n,c0)]) (kG:∀y,L.sc.names.lookup y=some .free->y=n) (lU:adU L.ar X.env=([],[])):IE X (.Lambda L.ar L.bd L.sc L.pos) (tq x i):=by
 intro pins s σ H Q I h;obtain⟨φ,ph,ws,hH,hS,h⟩:=h;unfold tq at h;cases ew:ws[i]? with
 | none=>simp only[ew] at h;exact h.elim
 | some ow=>
 cases ow with
 | none=>simp only[ew] at h;exact h.elim
 | some wa=>
 simp only[ew] at h;obtain⟨va,ev,ra⟩:=hS.get ew;have xU:=C5 (X:=X) (cl:=[(n,c0)]) hl hq uo nD mh hP mj kg (fun y hy=>⟨c0,by rw[kG y hy,Zp];simp⟩) lU;refine aU (xU pins s σ H (fun v H2=>∃a o,v=.ref a/\aD X.K φ ph H2/\Step X.K φ ph.length H φ ph.length H2/\H2 a=some (.aO o ck)/\lP X.K H2 x o [(n,c0)]) I ⟨hH.tb _ hm,fun a o H2 na oD iL hold xV yW=>?_⟩) fun u s2 zz=>?_
 ·have p7:∀b o u,H b=some (.aO o u)->H2 b=some (.aO o u):=fun b o u z=>hold b _ z fun _ y=>nomatch y
  have cJ:Step X.K φ ph.length H φ ph.length H2:=⟨Zf _,fun _ _=>rfl,(fun b xs z=>hold b _ z fun _ y=>nomatch y),p7⟩
  refine⟨a,o,rfl,⟨fun i p e=>?_,hH.inj,fun p hp=>?_⟩,cJ,oD,iL⟩
  ·obtain⟨z,hz,mz⟩:=hH.at (Zb.mp e).1;have yX:∀ps,z≠.cx ps:=fun ps q=>by
    subst q;have q:=hH.hp i p e;cases p with
    | lst _=>obtain⟨_,q,_⟩:=q;rw[hz] at q;cases q
    | aF _=>rcases q with⟨_,q,_⟩ | ⟨_,q,_⟩ <;> (rw[hz] at q;cases q)
    | obj _ _=>obtain⟨_,_,_,_,q,_⟩:=q;rw[hz] at q;cases q
    | oj _=>obtain⟨_,q,_⟩:=q;rw[hz] at q;cases q
    | jt _=>obtain⟨_,_,⟨_,q,_⟩ | ⟨_,q,_⟩⟩:=q <;> (rw[hz] at q;cases q)
   exact(hH.hp i p e).mono cJ ((hold _ _ hz yX).trans hz.symm)
  ·by_cases jr:p.2.2=P
   ·rw[jr,lV p hp jr];exact yW
   ·obtain⟨ps,e1,e2,e3⟩:=hH.tb p hp;exact⟨ps,xV _ _ jr e1,e2,fun pos v e=>(e3 pos v e).mono fun b o z=>p7 b o _ z⟩
 ·obtain⟨v,H2,I2,r2,a,o,e2,aX,cJ,qy,iL⟩:=zz;subst e2;have iy:∃dD u0,s2.heap.get? c0=some dD/\dD.data=.cell (some u0)/\RelV va u0:=by
   obtain⟨m,hn,yZ⟩:=I2.loc;obtain⟨u0,kH,y0⟩:=yZ i n va hN ev (.inr (.inl hk))
   rcases y0 with⟨kz,_⟩ | ⟨_,c1,qz,dD,g1,g2⟩
   ·have kz:X.env.scope.names.lookup n=some .local:=kz;rw[hk] at kz;cases kz
   ·rw[eB] at qz;cases qz;exact⟨dD,u0,g1,g2,kH⟩
  obtain⟨dD,u0,g1,g2,kH⟩:=iy
  rcases(I2.fP n c0 eB).2 with fr | ⟨ob,fr⟩
  ·have eY:Step X.K φ ph.length H2 φ ph.length (upd H2 c0 (.aO dD ck)):=⟨Zf _,fun _ _=>rfl,fun b xs z=>by rw[aM (bN z fr)];exact z,fun b o u z=>by rw[aM (bN z fr)];exact z⟩
   exact⟨.ref a,_,Pt I2 gA eB jB fr g1 g2,r2,h φ _ (.ref a) (Bx aX fr) (cJ.trans eY) (.fn (eY.aO _ _ _ qy) (iL.mono fun b o z=>eY.aO b o _ z) (show ip _ [(n,c0)] [va] from⟨⟨dD,u0,bp,g2,kH⟩,trivial⟩) (.cons ((ra.mono cJ).mono eY) .nil))⟩
  ·have e:ob=dD:=by
    have:=(I2.ay c0 _ fr).1;rw[g1] at this;exact(ZX this).symm
   subst e;exact⟨.ref a,H2,I2,r2,h φ _ (.ref a) aX cJ (.fn qy iL (show ip _ [(n,c0)] [va] from⟨⟨ob,u0,fr,g2,kH⟩,trivial⟩) (.cons (ra.mono cJ) .nil))⟩
theorem Tu{x:Str}{L:fF}{c P:Addr}(gA:X.fn n=false)(hN:X.N[i]? =some n)(hk:X.env.scope.names.lookup n=some .cell)(eB:X.env.cells.lookup n=some c0/\X.aA.heap.objs.size<=c0/\abq L.sc X.env=pure [(n,c0)])(hl:gn X.K x=some L)(he:X.env.qual=x++".<locals>."/\X.env.globals=Zo/\X.env.code=.ref c)
  (mh:X.K.lookup c=some oc) (hP:gM oc=some P) (mj:c≠P) (hm:(x,c,P)∈dh X.K) (lV:∀p∈dh X.K,p.2.2=P->p.1=x) (kG:∀y,L.sc.names.lookup y=some .free->y=n) (lU:adU L.ar X.env=([],[])):JE X (.Lambda L.ar L.bd L.sc L.pos) (tq x i):=
 ⟨Tt gA hN hk eB.1 eB.2.1 hl he.1 he.2.1 he.2.2 mh hP mj hm lV eB.2.2 kG lU⟩
structure nZ(X:Cx)(H:Hp)(s:Zh):Prop where
 os:s.os=X.aA.os
 bare:acK s.gens
 base:Un X.fs X.ex X.aL H X.aA.heap s.heap
 ay:bQ X.prog X.w H s.heap
theorem lL(I:Inv X pins σ H s):nZ X H s:=⟨I.os,I.bare,I.base,I.ay⟩
noncomputable def Gi(X:Cx)(D:Ends)(f:Flow)(s':Zh):Prop:=match f with
 | .next=>∃aj H',nZ X H' s'/\D.nx aj H'
 | .brk=>∃aj H',nZ X H' s'/\D.bk aj H'
 | .cont=>∃aj H',nZ X H' s'/\D.ct aj H'
 | .ret u=>∃v H',nZ X H' s'/\RelV v u/\D.rt v H'
theorem V4{D:Ends}{f:Flow}{s':Zh}(h:SP X pins D f s'):Gi X D f s':=by
 cases f with
 | next=>obtain⟨aj,H',I,q⟩:=h;exact⟨aj,H',lL I,q⟩
 | brk=>obtain⟨aj,H',I,q⟩:=h;exact⟨aj,H',lL I,q⟩
 | cont=>obtain⟨aj,H',I,q⟩:=h;exact⟨aj,H',lL I,q⟩
 | ret u=>obtain⟨v,aj,H',I,r,q⟩:=h;exact⟨v,H',lL I,r,q⟩
structure JR(X:Cx)(st:List Stmt)(m:SM):Prop where
 h:∀(pins:List (Addr×Obj)) (s:Zh) (σ:L2.St) (H:Hp) (D:Ends),Inv X pins σ H s->tS X m D σ H->wpAny (model X.prog X.w) X.A (execs st X.env) (Gi X D) X.xe s
theorem CC{st:Stmt}{rs:List Stmt}{a b:SM}(h1:JS X st a)(h2:JR X rs b):JR X (st::rs) (aC a b):=⟨fun pins s σ H D I h=>by
 refine abZ (aU (h1.h pins s σ H { D with nx:=tS X b D } I (B4 h)) fun f s1 q=>?_);cases f with
 | next=>
  obtain⟨aj,H',I',q⟩:=q;exact h2.h pins s1 aj H' D I' q
 | ret v=>obtain⟨v,aj,H',I,r,q⟩:=q;exact⟨v,H',lL I,r,q⟩
 | brk=>obtain⟨aj,H',I,q⟩:=q;exact⟨aj,H',lL I,q⟩
 | cont=>obtain⟨aj,H',I,q⟩:=q;exact⟨aj,H',lL I,q⟩⟩
noncomputable def lX(X:Cx)(n:Str):Cx:={ X with fn:=fun y=>X.fn y&& !(y==n),xe:=fun _ _=>False }
theorem Pu(I:Inv X pins σ H s):Inv (lX X n) pins σ H s:=
 ⟨⟨I.ok.mod,I.ok.kind,I.ok.glob,I.ok.blt,I.ok.above,I.ok.inj,I.ok.has,fun x c e=>I.ok.oa x c (Zr _ _▸e:_/\_).1,I.ok.hd,I.ok.frames,I.ok.qd,I.ok.yd,I.ok.bs,I.ok.iF,I.ok.nH,I.ok.nI,I.ok.eF,I.ok.kq⟩,I.os,I.bare,I.base,I.loc,I.cell,I.free,fun x c e=>⟨fun z=>(I.fP x c e).1 (Zr _ _▸z:_/\_).1,(I.fP x c e).2⟩,I.pin,I.ay,I.len⟩
theorem Ra{rs:List Stmt}{m:SM}(h1:JB (lX X n) rs m):JR X rs (xy m):=⟨fun pins s σ H D I h=>by
 obtain⟨φ,ph,ws,hH,hS,h⟩:=h;obtain⟨f,ph',e,h⟩:=sE h;refine aai (h1.h pins s σ H D (Pu I) ⟨φ,ph,ws,hH,hS,?_⟩) (fun fl s' q=>?_) fun _ _ z=>z.elim
 ·rw[e];exact h
 ·have q:=V4 q;cases fl with
  | next=>obtain⟨aj,H',I,q⟩:=q;exact⟨aj,H',⟨I.os,I.bare,I.base,I.ay⟩,q⟩
  | brk=>obtain⟨aj,H',I,q⟩:=q;exact⟨aj,H',⟨I.os,I.bare,I.base,I.ay⟩,q⟩
  | cont=>obtain⟨aj,H',I,q⟩:=q;exact⟨aj,H',⟨I.os,I.bare,I.base,I.ay⟩,q⟩
  | ret u=>obtain⟨v,H',I,r,q⟩:=q;exact⟨v,H',⟨I.os,I.bare,I.base,I.ay⟩,r,q⟩⟩
theorem Rb:(lX X n).fn n=false:=by
 show(X.fn n&& !(n==n))=false;simp
noncomputable def dO(sc:Scope)(n:Str):Scope:={ sc with names:=sc.names.map fun p=>if p.1==n then(p.1,.free) else p }
theorem AE{n x:Str}:∀{l:List (Str×abn)},(l.map fun p=>if p.1==n then(p.1,Zw) else p).lookup x=if x==n then(l.lookup x).map fun _=>.free else l.lookup x
 | []=>by simp
 | p::l=>by
  rw[ZL];obtain⟨y,k⟩:=p;have ih:=AE (n:=n) (x:=x) (l:=l);by_cases hy:y=n
  ·subst hy;simp only[beq_self_eq_true,if_true];rw[Zp,Zp,ih];by_cases hx:x=y
   ·subst hx;simp
   ·have:(x==y)=false:=by simpa using hx
    simp[this]
  ·have Gj:(y==n)=false:=by simpa using hy
   simp only[Gj,Bool.false_eq_true,if_false];rw[Zp,Zp,ih];by_cases hx:x=y
   ·subst hx;simp[Gj]
   ·have:(x==y)=false:=by simpa using hx
    simp[this]
theorem Bd.lX{N:List Str}{sc:Scope}{k:Nat}{n:Str}(B:Bd X N sc k)(hn:sc.names.lookup n=some .cell):Bd (lX X n) N (dO sc n) k:=by
 have q:∀x kd,(dO sc n).names.lookup x=some kd->(x=n/\kd=.free)\/(x≠n/\sc.names.lookup x=some kd):=fun x kd h=>by
  unfold dO at h;simp only[AE] at h;by_cases hx:x=n
  ·subst hx;rw[hn] at h;simp at h;exact .inl ⟨rfl,h.symm⟩
  ·have:(x==n)=false:=by simpa using hx
   rw[this] at h;exact .inr ⟨hx,h⟩
 have ql:∀x,Loc (dO sc n) x->x≠n/\Loc sc x:=fun x h=>by
  rcases h with h | h
  ·rcases q x _ h with⟨_,z⟩ | ⟨z,h⟩
   ·cases z
   ·exact⟨z,.inl h⟩
  ·rcases q x _ h with⟨_,z⟩ | ⟨z,h⟩
   ·cases z
   ·exact⟨z,.inr h⟩
 exact⟨⟨⟨B.hN,fun x h=>by
   rcases h with h | h | h
   ·rcases q x _ h with⟨_,z⟩ | ⟨_,h⟩
    ·cases z
    ·exact B.iH x (.inl h)
   ·rcases q x _ h with⟨_,z⟩ | ⟨_,h⟩
    ·cases z
    ·exact B.iH x (.inr (.inl h))
   ·rcases q x _ h with⟨z,_⟩ | ⟨_,h⟩
    ·rw[z];exact B.iH n (.inr (.inl hn))
    ·exact B.iH x (.inr (.inr h)),fun x h=>B.loc x (ql x h).2,fun x h=>by
   rcases q x _ h with⟨_,z⟩ | ⟨_,h⟩
   ·cases z
   ·exact B.gl x h,fun x h=>by
   have:=(ql x h).1
   rcases B.fn x (ql x h).2 with z | z
   ·left
    show(X.fn x&& !(x==n))=true;rw[z]
    simpa using this
   ·exact .inr z,B.nd⟩,B.calm,B.room⟩,adk⟩
end
section
variable{P:aah}{w:World}{K:Zc}{mg:Str->Option Value}{base:Heap}
theorem Tv{CX:kx}{k:Nat}{f:Addr}{name qual:Str}{params:Arguments}{body:List Stmt}{scope:Scope}{dV kV doc pm ba ct oc:Value}{an od:Option Addr}
  {eZ:Array (Option Value)} {N ps:List Str} {sp:Sp} (lk:K.lookup f=some ⟨oc,od,.func (ZC name qual params body scope dV kV doc pm an ba ct),eZ⟩) (hcd:ZA K ba qual=true) (S:cF N ps scope)
  (len:∀vs H Q E,sp vs H Q E->vs.length=ps.length)
  (i8:∀(A:abd) (outer:List Env) (s:Zh) (H:Hp) (vs:List V) (Q:VK) (E:XK),cf k (A.deeper (abx qual scope s.heap.objs.size f ba))->sp vs H Q E →
   ∃m,JR (df CX P w K mg base N qual scope f ba A outer s H E) body m/\tS (df CX P w K mg base N qual scope f ba A outer s H E) m { nx:=fun _ H'=>Q .aG H',rt:=Q } (start N vs) H) :
  bP P w K mg base CX (k+1) f (ZC name qual params body scope dV kV doc pm an ba ct) ps sp:=by
 refine⟨len,fun A outer s H args us vs Q E hr e0 hb r l4=>?_⟩;have hl:=len _ _ _ _ l4;have KX:K.In s.heap:=e0.mod.n9.keeps fun b o e=>(e0.bs b o e).1
 have lim:s.heap.NoLimit:=e0.mod.nolimit.keeps fun b o e=>(e0.bs b o e).1
 have pE:∀y∈ps.zip us,scope.names.lookup y.1=some .local\/(scope.names.lookup y.1=some .cell/\((ade (s.heap.objs.size+1) scope.names []).lookup y.1).isSome=true):=fun⟨n,v⟩ hy=>by
  rcases S.iJ n (abi hy).1 with q | q
  ·exact .inl q
  ·exact .inr ⟨q,abb _ _ _ (.inl q)⟩
 refine abU hr.depth (KX _ _ lk) rfl S.co S.gen rfl (acs KX hcd) (hb _ _ _ _ ?_);refine abt S.kind pE fun env he s1 x=>?_
 subst he;refine⟨lim.keeps x.toInCall.keep,codeAny_func ?_⟩;obtain⟨t,ht,hq⟩:=i8 A outer s H vs Q E (hr.deeper _) l4;have I:Inv (df CX P w K mg base N qual scope f ba A outer s H E) [] (start N vs) H s1:=vh S hr.hd e0 hl r x;refine aai (ht.h [] s1 (start N vs) H _ I hq) (fun fl s' hs=>?_) fun e s' hs=>hs
 have fin:∀{H':Hp} {v:V} {u:Value},nZ (df CX P w K mg base N qual scope f ba A outer s H E) H' s'->RelV v u->Q v H'->CE outer P w H s Q u s':=
  fun{H' v u} J rv q=>⟨v,H',J.os,J.bare,J.base,J.ay,rv,q⟩
 cases fl with
 | ret u=>
  obtain⟨v,H',J,rv,q⟩:=hs;exact fin J rv q
 | next=>
  obtain⟨aj,H',J,q⟩:=hs;exact fin (v:=V.aG) (u:=adP) J rfl q
 | brk=>
  obtain⟨_,_,_,q⟩:=hs;exact abo q
 | cont=>
  obtain⟨_,_,_,q⟩:=hs;exact abo q
theorem Rc{x qual:Str}{st:Stmt}{f:Addr}{fd:ZW}{N ps:List Str}{k n np:Nat}{body:SM}{cn:Str}{L:fF}(hn:N.length=n)(hp:ps.length=np)(F:cy K x qual st f fd)(S:cF N ps (af st))
  (kg:∀L0 fa cd,∃c0,(abx qual (af st) L0 fa cd).cells.lookup cn=some c0/\L0<=c0/\abq L.sc (abx qual (af st) L0 fa cd)=pure [(cn,c0)])
  (i8:∀{X:Cx},X.prog=P->X.w=w->X.K=K->X.mg=mg->X.base=base->Bd X N (af st) k->dg X->X.env.scope=af st->X.env.qual=qual++".<locals>."/\X.env.globals=Zo/\X.env.code=fd.code->(∃c0,X.env.cells.lookup cn=some c0/\X.aA.heap.objs.size<=c0/\abq L.sc X.env=pure [(cn,c0)])->JR X (a6 st) body) :
  bP P w K mg base (bf P w) (k+1) f fd ps (bY K mg np (fM body n np)):=by
 subst hn hp;obtain⟨oc,od,kV,doc,pm,an,ba,ct,eZ,rfl,lk,hcd⟩:=F.ex;refine Tv lk hcd S (fun vs H Q E h=>h.1) fun A outer s H vs Q E hr h=>?_
 obtain⟨hl,φ,ph,args,hH,ra,h⟩:=h;refine⟨body,i8 (X:=df (bf P w) P w K mg base N qual (af st) f ba A outer s H E) rfl rfl rfl rfl rfl ⟨⟨⟨rfl,fun _ z=>z,fun _ z=>z,fun _ z=>z,fun _ _=>.inl rfl,S.nd⟩,rfl,hr⟩,adT⟩ ⟨rfl,rfl,rfl⟩ rfl ⟨rfl,rfl,rfl⟩ (kg _ _ _),?_⟩;have qj:args.length=vs.length:=ra.length;unfold fM at h;rw[if_pos (qj.trans hl),cG,qj] at h;refine⟨φ,ph,_,hH,aY.start (N.length-vs.length) ra,h.mono (fun fl ph' h av H1 aE s1=>?_) fun x ph' h ao H' e s' r' dm th=>?_⟩
 ·cases fl with
  | rt w=>exact fun v rv=>h av H1 v aE s1 rv
  | nx aj=>exact fun σ1 gD=>h av H1 .aG aE s1 .aG
  | bk aj=>exact h.elim
  | ct aj=>exact h.elim
 ·obtain⟨C,hm,yq,th⟩:=th;have hE:=h ao H' C r' dm hm yq;have key:wpAny (model P w) (A.deeper (abx qual (af st) s.heap.objs.size f ba)) (leaving (abx qual (af st) s.heap.objs.size f ba) e) (fun _ ez=>Flew P w outer H s C H' e ez) (fun e' ez=>bf P w outer H s E e' ez) s':=by
   rcases th with th | ⟨pins,σ,H0,s0,I0,th⟩
   ·exact Az (X:=df (bf P w) P w K mg base N qual (af st) f ba A outer s H E) rfl rfl rfl th
   ·exact AA (X:=df (bf P w) P w K mg base N qual (af st) f ba A outer s H E) rfl rfl rfl I0 th
  exact aai key (fun _ ez q=>⟨C,H',q,hE⟩) fun _ _ q=>q
end
end IL
local macro_rules | `(tactic| ac_nf) => `(tactic| try simp only [IL.jR, IL.Ci, IL.Cg, IL.dG, IL.Cj, IL.De, IL.Df, IL.D3, IL.D4, IL.c8, IL.Dg, IL.fv, IL.Ck, IL.vH, IL.lx, IL.BG, IL.Dh, IL.m5, IL.sW, IL.sP, IL.BH, IL.sF, IL.pj, IL.vI, IL.vk, IL.sQ, IL.sG, IL.Cm, IL.pk, IL.Di, IL.Cn, IL.Dj, IL.Co, IL.A5, IL.mU, IL.Cq, IL.Cr, IL.ki, IL.p8, IL.nY, IL.tY, IL.D5, IL.D6, IL.D7, IL.E7, IL.E8, IL.E9, IL.Fb, IL.D8, IL.Dk, IL.D9, IL.Ea, IL.Eb, IL.Fc, IL.Dm, IL.Dn, IL.Do, IL.Ec, IL.xv, IL.BF, IL.C8, IL.C9, IL.Dd, decide_true, decide_false, Bool.false_eq_true, Bool.not_true, Bool.not_false, IL.Ed, IL.Ee, IL.Ef, IL.Fe, IL.Ff, IL.Fg, IL.Fh, IL.Fi, IL.Fj, IL.Fm, IL.Fn, IL.Fo, IL.Fp, IL.Fq, IL.Fs, IL.Ft, IL.Fu, IL.Dp, IL.Dq, IL.Dr, IL.Ds, IL.Dt, IL.Du, IL.Eg, IL.Eh, IL.Ei, IL.Ej, IL.Ek, IL.Dv, IL.El, IL.Ct, IL.Cu, IL.Cv, IL.Cw, IL.qa, IL.Fv, IL.Es, IL.Et, IL.Eu, IL.Ew, IL.Ey, IL.Dw, IL.wM, IL.sH, IL.CB, IL.Ep, IL.Er, Bool.or_false, Bool.false_or, Bool.or_true, Bool.true_or, Bool.and_true, Bool.true_and, Bool.and_false, Bool.false_and, Nat.reduceSub, List.reduceReplicate, List.set_cons_zero, List.set_cons_succ, if_true, if_false, ↓reduceIte, String.reduceEq, reduceCtorEq])
local macro_rules | `(tactic| push_cast [$as:simpLemma,*]) => `(tactic| try simp only [IL.jR, IL.Ci, IL.Cg, IL.dG, IL.Cj, IL.De, IL.Df, IL.D3, IL.D4, IL.c8, IL.Dg, IL.fv, IL.Ck, IL.vH, IL.lx, IL.BG, IL.Dh, IL.m5, IL.sW, IL.sP, IL.BH, IL.sF, IL.pj, IL.vI, IL.vk, IL.sQ, IL.sG, IL.Cm, IL.pk, IL.Di, IL.Cn, IL.Dj, IL.Co, IL.A5, IL.mU, IL.Cq, IL.Cr, IL.ki, IL.p8, IL.nY, IL.tY, IL.D5, IL.D6, IL.D7, IL.E7, IL.E8, IL.E9, IL.Fb, IL.D8, IL.Dk, IL.D9, IL.Ea, IL.Eb, IL.Fc, IL.Dm, IL.Dn, IL.Do, IL.Ec, IL.xv, IL.BF, IL.C8, IL.C9, IL.Dd, decide_true, decide_false, Bool.false_eq_true, Bool.not_true, Bool.not_false, IL.Ed, IL.Ee, IL.Ef, IL.Fe, IL.Ff, IL.Fg, IL.Fh, IL.Fi, IL.Fj, IL.Fm, IL.Fn, IL.Fo, IL.Fp, IL.Fq, IL.Fs, IL.Ft, IL.Fu, IL.Dp, IL.Dq, IL.Dr, IL.Ds, IL.Dt, IL.Du, IL.Eg, IL.Eh, IL.Ei, IL.Ej, IL.Ek, IL.Dv, IL.El, IL.Ct, IL.Cu, IL.Cv, IL.Cw, IL.qa, IL.Fv, IL.Es, IL.Et, IL.Eu, IL.Ew, IL.Ey, IL.Dw, IL.wM, IL.sH, IL.CB, IL.Ep, IL.Er, Bool.or_false, Bool.false_or, Bool.or_true, Bool.true_or, Bool.and_true, Bool.true_and, Bool.and_false, Bool.false_and, Nat.reduceSub, List.reduceReplicate, List.set_cons_zero, List.set_cons_succ, if_true, if_false, ↓reduceIte, String.reduceEq, reduceCtorEq, $as,*])
local macro_rules | `(term| nofun) => `(by decide +kernel)
namespace IL.K26
open PySem PySem.Spec PyProof.Rows L2
theorem ji(us:List Value)(hl:us.length=1):∃a,us=[a]:=List.length_eq_one_iff.mp hl
theorem qb(us:List Value)(hl:us.length=2):∃a1 a2,us=[a1,a2]:=by
 cases us with
 | nil=>cases hl
 | cons a1 us=>
  obtain⟨a2,rfl⟩:=ji us (ado hl);exact⟨a1,a2,rfl⟩
theorem qc(us:List Value)(hl:us.length=3):∃a1 a2 a3,us=[a1,a2,a3]:=by
 cases us with
 | nil=>cases hl
 | cons a1 us=>
  obtain⟨a2,a3,rfl⟩:=qb us (ado hl);exact⟨a1,a2,a3,rfl⟩
theorem xY(us:List Value)(hl:us.length=4):∃a1 a2 a3 a4,us=[a1,a2,a3,a4]:=by
 cases us with
 | nil=>cases hl
 | cons a1 us=>
  obtain⟨a2,a3,a4,rfl⟩:=qc us (ado hl);exact⟨a1,a2,a3,a4,rfl⟩
theorem Fw(us:List Value)(hl:us.length=5):∃a1 a2 a3 a4 a5,us=[a1,a2,a3,a4,a5]:=by
 cases us with
 | nil=>cases hl
 | cons a1 us=>
  obtain⟨a2,a3,a4,a5,rfl⟩:=xY us (ado hl);exact⟨a1,a2,a3,a4,a5,rfl⟩
def top(i:Nat):Stmt:=PySem.Challenge.pw_boxwright_k26_whole_threaded_runs.main.body.getD i (.Pass ⟨0,0,0,0⟩)
abbrev gc:Stmt:=top 13
abbrev ie:Stmt:=top 14
abbrev cE:Stmt:=top 15
abbrev fk:Stmt:=top 16
abbrev dn:Stmt:=top 17
abbrev cD:Stmt:=top 18
abbrev ik:Stmt:=top 19
abbrev fq:Stmt:=top 20
abbrev fK:Stmt:=top 21
abbrev bW:Stmt:=top 22
abbrev dR:Stmt:=top 7
abbrev gK:Stmt:=top 8
abbrev ic:Stmt:=top 5
abbrev c3:Stmt:=top 1
abbrev gg:Stmt:=top 2
abbrev d9:Stmt:=top 3
abbrev dF:Stmt:=top 9
abbrev dQ:Stmt:=top 10
abbrev bv:Stmt:=top 11
abbrev bZ:Stmt:=top 23
noncomputable def gf:SM:=(aC (bI (eT (ab iQ (aa 1) (bG cY (ae (aa 0) ak)))) (bt (ab ag (aa 0) (aa 1))) cM) (bt (eC (.int (0)))))
noncomputable def eQ:List W->Mo W:=fM gf 2 2
noncomputable def jD:SM:=(aC (bI (eT (ab aQ (ab a9 (aa 0) (eC (.int (4)))) (eC (.int (3))))) (bt (ab ag (bJ (ae (eC (.int (2147483647))) (ae (om lR (eC (.int (2147483648)))) (ae (eC (.int (65536))) (ae (om lR (eC (.int (1)))) (ae (eC (.int (46341))) (ae (om lR (eC (.int (65537)))) (ae (eC (.int (1))) (ae (eC (.int (0))) ak))))))))) (ab a9 (ab bU (aa 0) (eC (.int (4)))) (eC (.int (8)))))) cM) (aC (bI (eT (ab aQ (ab a9 (aa 0) (eC (.int (4)))) (eC (.int (2))))) (bt (ab fS (ab a9 (ab bH (ab bU (aa 0) (eC (.int (4)))) (eC (.int (48271)))) (eC (.int (4294967296)))) (eC (.int (2147483648))))) cM) (aC (bI (eT (ab aQ (ab a9 (aa 0) (eC (.int (4)))) (eC (.int (1))))) (bt (ab fS (ab a9 (ab bU (aa 0) (eC (.int (4)))) (eC (.int (100003)))) (eC (.int (1000))))) cM) (bt (ab fS (ab a9 (ab bU (aa 0) (eC (.int (4)))) (eC (.int (19)))) (eC (.int (6))))))))
noncomputable def mF:List W->Mo W:=fM jD 1 1
noncomputable def kZ:SM:=(aC (aI (ab a9 (aa 0) (eC (.int (12)))) (gN 3)) (aC (aI (ab a9 (ab bH (ab bU (aa 0) (eC (.int (12)))) (eC (.int (48271)))) (eC (.int (2147483647)))) (gN 4)) (aC (aI (ab a9 (aa 4) (aa 1)) (gN 5)) (aC (aI (ab a9 (ab bU (aa 4) (eC (.int (9)))) (aa 1)) (gN 6)) (aC (aI (ab a9 (ab bU (aa 4) (eC (.int (81)))) (aa 2)) (gN 7)) (aC (bI (eT (ab iQ (aa 3) (eC (.int (5))))) (aC (aI (ab ag (bJ (ae (eC (.str "sum")) (ae (eC (.str "less")) (ae (eC (.str "times")) (ae (eC (.str "part")) (ae (eC (.str "below")) (ae (eC (.str "alike")) ak))))))) (ab a9 (ab bU (aa 4) (eC (.int (486)))) (eC (.int (6))))) (gN 8)) (bt (bT (ae (eC (.str "do")) (ae (aa 5) (ae (aa 8) (ae (aa 6) (ae (ab a9 (ab bU (aa 4) (eC (.int (2916)))) (aa 1)) ak)))))))) cM) (aC (aI (bJ (ae (bT (ae (eC (.str "put")) (ae (aa 5) (ae (a7 mF (ae (ab bU (aa 4) (eC (.int (9)))) ak)) ak)))) (ae (bT (ae (eC (.str "move")) (ae (aa 5) (ae (aa 6) ak)))) (ae (bT (ae (eC (.str "pull")) (ae (aa 5) (ae (aa 7) ak)))) (ae (bT (ae (eC (.str "push")) (ae (aa 7) (ae (aa 5) ak)))) ak))))) (gN 9)) (aC (aI (ab addW (aa 9) (bJ (ae (bT (ae (eC (.str "take")) (ae (aa 5) ak))) (ae (bT (ae (eC (.str "tell")) (ae (aa 5) ak))) (ae (bT (ae (eC (.str "turn")) ak)) ak))))) (gN 9)) (bt (ab ag (aa 9) (ab fS (aa 3) (eC (.int (5))))))))))))))
noncomputable def uR:List W->Mo W:=fM kZ 10 3
noncomputable def jF:SM:=(aC (aI (bX (cV (ae (aa 2) ak)) [none,some 1,some 3] (gN 0) (d0 (eT (ab f6 (aa 0) (aa 1))) (d0 (eT (ab c6 (aa 0) (aa 2))) (dJ (eT (ab aQ (aa 0) (eC (.int (0))))) (eT (ab c6 (aa 1) (aa 2)))))) (aa 0)) (gN 4)) (aC (bI (eT (ab aQ (aa 4) (bJ ak))) (bt (eC .aG)) cM) (bt (ab ag (aa 4) (ab a9 (aa 0) (bG cY (ae (aa 4) ak)))))))
noncomputable def mJ:List W->Mo W:=fM jF 5 4
noncomputable def k4:SM:=(aC (aI (ab a9 (ab bH (aa 0) (eC (.int (48271)))) (eC (.int (2147483647)))) (gN 0)) (aC (aI (a7 mJ (ae (ab bU (aa 0) (eC (.int (8)))) (ae (aa 1) (ae (aa 2) (ae (aa 3) ak))))) (gN 5)) (aC (aI (a7 mJ (ae (ab bU (aa 0) (eC (.int (800)))) (ae (aa 1) (ae (aa 2) (ae (aa 3) ak))))) (gN 6)) (aC (bI (d0 (eT (ab jf (aa 5) (eC .aG))) (eT (ab aQ (ab a9 (aa 0) (eC (.int (8)))) (eC (.int (0)))))) (bt (bT (ae (eC (.str "end")) ak))) cM) (aC (bI (eT (ab iQ (ab a9 (aa 0) (eC (.int (8)))) (eC (.int (4))))) (bt (bT (ae (eC (.str "if")) (ae (ab a9 (ab bU (aa 0) (eC (.int (80000)))) (aa 4)) (ae (aa 5) (ae (aa 6) ak)))))) cM) (bt (bT (ae (eC (.str "go")) (ae (aa 5) ak)))))))))
noncomputable def uS:List W->Mo W:=fM k4 7 5
noncomputable def uI:SM:=(eV (cI cz dH (aa 9) (ae (a7 uR (ae (ab addW (ab bH (ab ag (aa 5) (ab addW (ab addW (ab bH (eC (.int (4))) (aa 8)) (eC (.int (1)))) (ab a9 (aa 10) (eC (.int (2)))))) (ab addW (eC (.int (1))) (aa 10))) (aa 8)) (ae (aa 3) (ae (aa 4) ak)))) ak)))
noncomputable def qN:SM:=(aC (aI (ab bH (bJ (ae (bT (ae (eC (.str "turn")) ak)) ak)) (bG iC (ae (ab c6 (aa 8) (aa 6)) ak))) (gN 9)) (aC (d3 (cV (ae (ab ag (bJ (ae (eC (.int (0))) (ae (eC (.int (0))) (ae (eC (.int (1))) (ae (eC (.int (2))) (ae (eC (.int (3))) ak)))))) (ab a9 (ab bU (ab ag (aa 5) (ab bH (eC (.int (4))) (aa 8))) (eC (.int (4)))) (eC (.int (5))))) ak)) (gN 10) uI) (eV (cI cz dH (aa 7) (ae (bT (ae (aa 9) (ae (a7 uS (ae (ab addW (ab ag (aa 5) (ab addW (ab bH (eC (.int (4))) (aa 8)) (eC (.int (3))))) (aa 8)) (ae (aa 8) (ae (aa 2) (ae (aa 6) (ae (aa 3) ak)))))) ak))) ak)))))
noncomputable def kR:SM:=(aC (aI (bX (cV (ae (ab bH (eC (.int (4))) (aa 2)) ak)) [none,some 0,some 1] (gN 0) cm (ab addW (a7 eQ (ae (aa 1) (ae (ab addW (aa 2) (ab a9 (aa 0) (eC (.int (40))))) ak))) (ab bH (eC (.int (91))) (ab bU (aa 0) (eC (.int (40))))))) (gN 5)) (aC (aI (bX (cV (ae (aa 2) ak)) [none,some 5] (gN 0) (eT (ab aQ (ab a9 (ab ag (aa 1) (ab bH (eC (.int (4))) (aa 0))) (eC (.int (4)))) (eC (.int (1))))) (aa 0)) (gN 6)) (aC (aI (bJ ak) (gN 7)) (aC (d3 (cV (ae (aa 2) ak)) (gN 8) qN) (bt (aa 7))))))
noncomputable def uL:List W->Mo W:=fM kR 11 5
noncomputable def jJ:SM:=(bt (ab fS (aa 0) (ab bH (ab bU (ab addW (aa 0) (eC (.int (2147483648)))) (eC (.int (4294967296)))) (eC (.int (4294967296))))))
noncomputable def oT:List W->Mo W:=fM jJ 1 1
noncomputable def la:SM:=(aC (bI (d0 (eT (ab aQ (aa 0) (eC (.str "below")))) (eT (ab aQ (aa 0) (eC (.str "alike"))))) (bt (bG iC (ae (ue (pV (ab iQ (aa 1) (aa 2)) (ab aQ (aa 0) (eC (.str "below")))) (pV (ab aQ (aa 1) (aa 2)) (ab aQ (aa 0) (eC (.str "alike"))))) ak))) cM) (aC (bI (eT (ab aQ (aa 0) (eC (.str "part")))) (bt (a7 oT (ae (ab bU (aa 1) (aa 2)) ak))) cM) (bt (a7 oT (ae (ab ag (bJ (ae (ab addW (aa 1) (aa 2)) (ae (ab fS (aa 1) (aa 2)) (ae (ab bH (aa 1) (aa 2)) ak)))) (cI cz nj (bJ (ae (eC (.str "sum")) (ae (eC (.str "less")) (ae (eC (.str "times")) ak)))) (ae (aa 0) ak))) ak)))))
noncomputable def u9:List W->Mo W:=fM la 3 3
noncomputable def kW:SM:=(bI (eT (ab aQ (ab ag (aa 0) (eC (.int (0)))) (eC (.str "put")))) (aI (ab ag (aa 0) (eC (.int (2)))) (fu (aa 1) (ab ag (aa 0) (eC (.int (1)))))) (bI (eT (ab aQ (ab ag (aa 0) (eC (.int (0)))) (eC (.str "move")))) (aI (cI fB fC (aa 1) (ae (ab ag (aa 0) (eC (.int (2)))) (ae (eC (.int (0))) ak))) (fu (aa 1) (ab ag (aa 0) (eC (.int (1)))))) (bI (eT (ab aQ (ab ag (aa 0) (eC (.int (0)))) (eC (.str "pull")))) (aI (cI fB fC (aa 2) (ae (ab ag (aa 0) (eC (.int (2)))) (ae (eC (.int (0))) ak))) (fu (aa 1) (ab ag (aa 0) (eC (.int (1)))))) (bI (eT (ab aQ (ab ag (aa 0) (eC (.int (0)))) (eC (.str "push")))) (aI (cI fB fC (aa 1) (ae (ab ag (aa 0) (eC (.int (2)))) (ae (eC (.int (0))) ak))) (fu (aa 2) (ab ag (aa 0) (eC (.int (1)))))) (aI (a7 u9 (ae (ab ag (aa 0) (eC (.int (2)))) (ae (cI fB fC (aa 1) (ae (ab ag (aa 0) (eC (.int (3)))) (ae (eC (.int (0))) ak))) (ae (cI fB fC (aa 1) (ae (ab ag (aa 0) (eC (.int (4)))) (ae (eC (.int (0))) ak))) ak)))) (fu (aa 1) (ab ag (aa 0) (eC (.int (1))))))))))
noncomputable def oN:List W->Mo W:=fM kW 3 3
noncomputable def kO:SM:=(aC (bI (dJ (eT (ab aQ (ab ag (aa 9) (eC (.int (0)))) (eC (.str "turn")))) (eT (ab aQ (aa 2) (eC (.int (0)))))) (bt (bT (ae (eC (.str "dry")) (ae (aa 5) (ae (aa 6) ak))))) cM) (aC (bI (dJ (eT (ab aQ (ab ag (aa 9) (eC (.int (0)))) (eC (.str "do")))) (dJ (eT (ab aQ (ab ag (aa 9) (eC (.int (2)))) (eC (.str "part")))) (eT (ab aQ (cI fB fC (aa 3) (ae (ab ag (aa 9) (eC (.int (4)))) (ae (eC (.int (0))) ak))) (eC (.int (0))))))) (bt (bT (ae (eC (.str "nought")) (ae (aa 5) (ae (aa 6) ak))))) cM) (bI (eT (ab aQ (ab ag (aa 9) (eC (.int (0)))) (eC (.str "turn")))) (aI (ab fS (aa 2) (eC (.int (1)))) (gN 2)) (bI (eT (ab aQ (ab ag (aa 9) (eC (.int (0)))) (eC (.str "take")))) (aC (aI (ab ag (ab addW (aa 1) (ab bH (bJ (ae (eC (.int (0))) ak)) (ab addW (aa 6) (eC (.int (1)))))) (aa 6)) (fu (aa 3) (ab ag (aa 9) (eC (.int (1)))))) (aI (ab addW (aa 6) (eC (.int (1)))) (gN 6))) (bI (eT (ab aQ (ab ag (aa 9) (eC (.int (0)))) (eC (.str "tell")))) (eV (cI cz dH (aa 5) (ae (cI fB fC (aa 3) (ae (ab ag (aa 9) (eC (.int (1)))) (ae (eC (.int (0))) ak))) ak))) (eV (a7 oN (ae (aa 9) (ae (aa 3) (ae (aa 4) ak))))))))))
noncomputable def mD:SM:=(aC (d3 (cO (ab ag (ab ag (aa 0) (aa 7)) (eC (.int (0))))) (gN 9) kO) (aC (aI (ab ag (ab ag (aa 0) (aa 7)) (eC (.int (1)))) (gN 10)) (aC (bI (eT (ab aQ (ab ag (aa 10) (eC (.int (0)))) (eC (.str "end")))) (bt (bT (ae (eC (.str "done")) (ae (aa 5) (ae (aa 6) ak))))) cM) (aC (aI (ab ag (aa 10) (eC (.int (1)))) (gN 7)) (bI (eT (ab aQ (ab ag (aa 10) (eC (.int (0)))) (eC (.str "if")))) (aI (ab ag (bJ (ae (ab ag (aa 10) (eC (.int (3)))) (ae (ab ag (aa 10) (eC (.int (2)))) ak))) (bG iC (ae (ab ff (cI fB fC (aa 3) (ae (ab ag (aa 10) (eC (.int (1)))) (ae (eC (.int (0))) ak))) (eC (.int (0)))) ak))) (gN 7)) cM)))))
noncomputable def jE:SM:=(aC (aI nR (gN 3)) (aC (aI nR (gN 4)) (aC (aI (bJ ak) (gN 5)) (aC (aI (eC (.int (0))) (gN 6)) (aC (aI (eC (.int (0))) (gN 7)) (aC (d3 (cV (ae (eC (.int (1000))) ak)) (gN 8) mD) (bt (bT (ae (eC (.str "long")) (ae (aa 5) (ae (aa 6) ak)))))))))))
noncomputable def oM:List W->Mo W:=fM jE 11 3
noncomputable def uU:SM:=(aC (aI (ab ag (aa 0) (aa 1)) (gN 3)) (aC (bI (d0 (eT (ab f6 (bG cY (ae (ab ag (aa 3) (eC (.int (0)))) ak)) (eC (.int (0))))) (eT (ab ff (ab ag (ab ag (aa 3) (eC (.int (1)))) (eC (.int (0)))) (eC (.str "go"))))) (bt (aa 1)) cM) (aI (ab ag (ab ag (aa 3) (eC (.int (1)))) (eC (.int (1)))) (gN 1))))
noncomputable def lr:SM:=(aC (d3 (cV (ae (bG cY (ae (aa 0) ak)) ak)) (gN 2) uU) (bt (aa 1)))
noncomputable def pe:List W->Mo W:=fM lr 4 2
noncomputable def jH:SM:=(aC (bI (eT (ab aQ (ab ag (aa 0) (eC (.int (0)))) (eC (.str "go")))) (bt (bT (ae (eC (.str "go")) (ae (ab ag (aa 1) (ab ag (aa 0) (eC (.int (1))))) ak)))) cM) (aC (bI (eT (ab aQ (ab ag (aa 0) (eC (.int (0)))) (eC (.str "if")))) (bt (bT (ae (eC (.str "if")) (ae (ab ag (aa 0) (eC (.int (1)))) (ae (ab ag (aa 1) (ab ag (aa 0) (eC (.int (2))))) (ae (ab ag (aa 1) (ab ag (aa 0) (eC (.int (3))))) ak)))))) cM) (bt (aa 0))))
noncomputable def k6:List W->Mo W:=fM jH 2 2
noncomputable def jC:SM:=(aC (bI (eT (ab aQ (ab ag (aa 0) (eC (.int (0)))) (eC (.str "go")))) (bt (bJ (ae (ab ag (aa 0) (eC (.int (1)))) ak))) cM) (aC (bI (eT (ab aQ (ab ag (aa 0) (eC (.int (0)))) (eC (.str "if")))) (bt (bJ (ae (ab ag (aa 0) (eC (.int (2)))) (ae (ab ag (aa 0) (eC (.int (3)))) ak)))) cM) (bt (bJ ak))))
noncomputable def oK:List W->Mo W:=fM jC 1 1
noncomputable def l_aheads:EM:=(ab ag (aa 1) (aa 0))
noncomputable def l_threaded:EM:=(a7 oK (ae (ab ag (aa 1) (aa 0)) ak))
noncomputable def uM:SM:=(bI (eT (ab fT (aa 4) (aa 2))) (aC (aI (eC .aG) (fu (aa 2) (aa 4))) (eV (cI cz dH (aa 3) (ae (aa 4) ak)))) cM)
noncomputable def qX:SM:=(bI (eT (ab fT (aa 7) (aa 2))) (aC (aI (aa 6) (fu (aa 2) (aa 7))) (eV (cI cz dH (aa 3) (ae (aa 7) ak)))) cM)
noncomputable def qY:SM:=(aC (aI (ab ag (aa 3) (aa 5)) (gN 6)) (aC (aI (ab E4 (aa 5) (eC (.int (1)))) (gN 5)) (d3 (cO (pM "aheads" 1 (gU "aheads" l_aheads 1 (ae (aa 6) ak)) (gU "threaded" l_threaded 1 (ae (aa 6) ak)))) (gN 7) qX)))
noncomputable def jG:SM:=(aC (aI nR (gN 2)) (aC (aI (bJ ak) (gN 3)) (aC (d3 (cO (aa 0)) (gN 4) uM) (aC (aI (eC (.int (0))) (gN 5)) (aC (iq (eT (ab iQ (aa 5) (bG cY (ae (aa 3) ak)))) qY) (bt (aa 2)))))))
noncomputable def oO:List W->Mo W:=fM jG 8 2
noncomputable def vN:List W->Mo W:=pZ "aheads" (bJ (ae (eC (.int (0))) ak)) oO
noncomputable def vd:SM:=(eV (cI cz dH (ab ag (aa 1) (aa 3)) (ae (aa 2) ak)))
noncomputable def r9:SM:=(d3 (cO (ab ag (aa 0) (aa 2))) (gN 3) vd)
noncomputable def ly:SM:=(aC (aI (bX (cO (aa 0)) [none] (gN 0) cm (bJ ak)) (gN 1)) (aC (d3 (cO (bG lJ (ae (a7 vN (ae (aa 0) ak)) ak))) (gN 2) r9) (bt (aa 1))))
noncomputable def we:List W->Mo W:=fM ly 4 1
noncomputable def uF:SM:=(bI (dJ (eT (ab f6 (aa 2) (eC (.int (0))))) (dJ (eT (ab aQ (bG cY (ae (aa 3) ak)) (eC (.int (1))))) (eT (ab aQ (ab ag (ab ag (aa 0) (ab ag (aa 3) (eC (.int (0))))) (eC (.int (0)))) (eC (.str "go")))))) (aI (eC (.bl true)) (fu (aa 1) (aa 2))) cM)
noncomputable def kP:SM:=(aC (aI nR (gN 1)) (aC (d3 (j0 (ae (a7 we (ae (bX (cO (aa 0)) [none] (gN 0) cm (a7 oK (ae (aa 0) ak))) ak)) ak)) (gS 2 [(gN 2),(gN 3)]) uF) (bt (aa 1))))
noncomputable def uJ:List W->Mo W:=fM kP 4 1
noncomputable def qQ:SM:=(aC (eV (cI cz mZ (aa 4) (ae (ab ag (ab ag (aa 0) (ab ag (aa 5) (eC (.int (1))))) (eC (.int (0)))) ak))) (aI (ab ag (aa 1) (ab ag (aa 5) (eC (.int (1))))) (gN 5)))
noncomputable def kU:SM:=(aC (aI (bG ja (ae (ab ag (ab ag (aa 0) (aa 3)) (eC (.int (0)))) ak)) (gN 4)) (aC (aI (ab ag (aa 1) (aa 3)) (gN 5)) (aC (iq (dJ (eT (ab aQ (ab ag (aa 5) (eC (.int (0)))) (eC (.str "go")))) (eT (ab c6 (ab ag (aa 5) (eC (.int (1)))) (aa 2)))) qQ) (bt (bT (ae (aa 4) (ae (aa 5) ak)))))))
noncomputable def rq:List W->Mo W:=fM kU 6 4
noncomputable def uV:SM:=(aC (aI (a7 uJ (ae (aa 2) ak)) (gN 3)) (aC (aI (bG lJ (ae (a7 oO (ae (bJ (ae (eC (.int (0))) ak)) (ae (tq "threaded" 2) ak))) ak)) (gN 4)) (aC (aI (bX (cO (aa 4)) [none,some 3] (gN 0) (eT (ab fT (aa 0) (aa 1))) (aa 0)) (gN 5)) (aC (aI (bG nC (ae (bX (j0 (ae (aa 5) ak)) [none,none] (gS 2 [(gN 0),(gN 1)]) cm (bT (ae (aa 1) (ae (aa 0) ak)))) ak)) (gN 6)) (aC (aI (bX (cO (aa 5)) [none,some 0,some 2,some 3] (gN 0) cm (a7 rq (ae (aa 1) (ae (aa 2) (ae (aa 3) (ae (aa 0) ak)))))) (gN 7)) (bt (bX (cO (aa 7)) [none,some 6] (gN 0) cm (bT (ae (ab ag (aa 0) (eC (.int (0)))) (ae (a7 k6 (ae (ab ag (aa 0) (eC (.int (1)))) (ae (aa 1) ak))) ak))))))))))
noncomputable def lb:SM:=(aC (aI (bX (cV (ae (bG cY (ae (aa 0) ak)) ak)) [none,some 0] (gN 0) cm (a7 pe (ae (aa 1) (ae (aa 0) ak)))) (gN 1)) (aC (aI (bX (cO (aa 0)) [none,some 1] (gN 0) cm (a7 k6 (ae (ab ag (aa 0) (eC (.int (1)))) (ae (aa 1) ak)))) (gN 2)) (xy uV)))
noncomputable def ve:List W->Mo W:=fM lb 8 1
noncomputable def nG:SM:=(aC (aI (ab addW (eC (.int (1))) (ab a9 (a7 eQ (ae (aa 0) (ae (eC (.int (0))) ak))) (eC (.int (7))))) (gN 1)) (aC (aI (ab addW (eC (.int (2))) (ab a9 (a7 eQ (ae (aa 0) (ae (eC (.int (1))) ak))) (eC (.int (8))))) (gN 2)) (aC (aI (a7 uL (ae (aa 0) (ae (eC (.int (2))) (ae (aa 1) (ae (aa 2) (ae (ab addW (eC (.int (1))) (ab a9 (ab bU (a7 eQ (ae (aa 0) (ae (eC (.int (1))) ak))) (eC (.int (8)))) (eC (.int (12))))) ak)))))) (gN 3)) (aC (aI (a7 eQ (ae (aa 0) (ae (eC (.int (30))) ak))) (gN 4)) (aC (aI (bX (cV (ae (ab a9 (aa 4) (eC (.int (6)))) ak)) [none,some 0] (gN 0) cm (a7 mF (ae (a7 eQ (ae (aa 1) (ae (ab addW (eC (.int (31))) (aa 0)) ak))) ak))) (gN 5)) (aC (aI (a7 oM (ae (aa 3) (ae (aa 5) (ae (ab a9 (ab bU (aa 4) (eC (.int (6)))) (eC (.int (6)))) ak)))) (gN 6)) (aC (aI (a7 ve (ae (bX (cO (aa 3)) [none,none] (gS 2 [(gN 0),(gN 1)]) cm (bT (ae (bG ja (ae (aa 0) ak)) (ae (aa 1) ak)))) ak)) (gN 7)) (bt (ab aQ (a7 oM (ae (aa 7) (ae (aa 5) (ae (ab a9 (ab bU (aa 4) (eC (.int (6)))) (eC (.int (6)))) ak)))) (aa 6))))))))))
noncomputable def pN:List W->Mo W:=fM nG 8 1
set_option genInjectivity false in
structure Tx(K:Zc)(mg:Str->Option Value) where
 a_law_cell_at:Addr
 rF:ZW
 gJ:cy K "_law_cell_at" "_law_cell_at" gc a_law_cell_at rF
 kX:mg "_law_cell_at"=some (.ref a_law_cell_at)
 gf:Binds K rF ["_law_script","_law_k"] []
 a_law_number_by:Addr
 qZ:ZW
 kS:cy K "_law_number_by" "_law_number_by" ie a_law_number_by qZ
 uN:mg "_law_number_by"=some (.ref a_law_number_by)
 jD:Binds K qZ ["_law_cell"] []
 a_law_row_by:Addr
 rN:ZW
 mL:cy K "_law_row_by" "_law_row_by" cE a_law_row_by rN
 Af:mg "_law_row_by"=some (.ref a_law_row_by)
 kZ:Binds K rN ["_law_cell","_law_boxes","_law_slots"] []
 a_law_goal_by:Addr
 rG:ZW
 kY:cy K "_law_goal_by" "_law_goal_by" fk a_law_goal_by rG
 uP:mg "_law_goal_by"=some (.ref a_law_goal_by)
 jF:Binds K rG ["_law_more","_law_block","_law_many","_law_turning"] []
 a_law_end_by:Addr
 rO:ZW
 mM:cy K "_law_end_by" "_law_end_by" dn a_law_end_by rO
 Ag:mg "_law_end_by"=some (.ref a_law_end_by)
 k4:Binds K rO ["_law_cell","_law_block","_law_many","_law_turning","_law_boxes"] []
 a_law_blocks_by:Addr
 rg:ZW
 mG:cy K "_law_blocks_by" "_law_blocks_by" cD a_law_blocks_by rg
 zT:mg "_law_blocks_by"=some (.ref a_law_blocks_by)
 kR:Binds K rg ["_law_script","_law_first","_law_many","_law_boxes","_law_slots"] []
 a_law_fit:Addr
 sj:ZW
 lm:cy K "_law_fit" "_law_fit" ik a_law_fit sj
 vm:mg "_law_fit"=some (.ref a_law_fit)
 jJ:Binds K sj ["_law_number"] []
 a_law_deed:Addr
 sd:ZW
 mO:cy K "_law_deed" "_law_deed" fq a_law_deed sd
 AF:mg "_law_deed"=some (.ref a_law_deed)
 la:Binds K sd ["_law_word","_law_one","_law_other"] []
 a_law_box_row:Addr
 rH:ZW
 mK:cy K "_law_box_row" "_law_box_row" fK a_law_box_row rH
 z5:mg "_law_box_row"=some (.ref a_law_box_row)
 kW:Binds K rH ["_law_row","_law_boxes","_law_slots"] []
 a_law_boxed_run:Addr
 rh:ZW
 kT:cy K "_law_boxed_run" "_law_boxed_run" bW a_law_boxed_run rh
 uO:mg "_law_boxed_run"=some (.ref a_law_boxed_run)
 jE:Binds K rh ["_law_blocks","_law_inputs","_law_turns"] []
 a_led_on:Addr
 sI:ZW
 mX:cy K "led_on" "led_on" dR a_led_on sI
 BL:mg "led_on"=some (.ref a_led_on)
 lr:Binds K sI ["blocks","number"] []
 a_with_ways:Addr
 rV:ZW
 k7:cy K "with_ways" "with_ways" gK a_with_ways rV
 uW:mg "with_ways"=some (.ref a_with_ways)
 jH:Binds K rV ["end","told"] []
 a_further_blocks:Addr
 qT:ZW
 kQ:cy K "further_blocks" "further_blocks" ic a_further_blocks qT
 uK:mg "further_blocks"=some (.ref a_further_blocks)
 jC:Binds K qT ["end"] []
 a_found_from:Addr
 rP:ZW
 k5:cy K "found_from" "found_from" c3 a_found_from rP
 uT:mg "found_from"=some (.ref a_found_from)
 jG:Binds K rP ["starts","further"] []
 a_aheads:Addr
 pf:ZW
 ls:cy K "aheads" "aheads" gg a_aheads pf
 BM:mg "aheads"=some (.ref a_aheads)
 BN:Binds K pf ["ways"] []
 a_comes:Addr
 sR:ZW
 m8:cy K "comes" "comes" d9 a_comes sR
 CD:mg "comes"=some (.ref a_comes)
 ly:Binds K sR ["ways"] []
 a_standing_within:Addr
 qR:ZW
 mE:cy K "standing_within" "standing_within" dF a_standing_within qR
 zI:mg "standing_within"=some (.ref a_standing_within)
 kP:Binds K qR ["ends"] []
 a_joined_block:Addr
 rz:ZW
 mH:cy K "joined_block" "joined_block" dQ a_joined_block rz
 zW:mg "joined_block"=some (.ref a_joined_block)
 kU:Binds K rz ["blocks","ends","within","number"] []
 a_threaded:Addr
 lc:ZW
 lg:cy K "threaded" "threaded" bv a_threaded lc
 AG:mg "threaded"=some (.ref a_threaded)
 lb:Binds K lc ["blocks"] []
 a_law:Addr
 tu:ZW
 pO:cy K "law" "law" bZ a_law tu
 U6:mg "law"=some (.ref a_law)
 nG:Binds K tu ["_law_script"] []
 oU:Addr
 oV:Addr
 vn:Obj
 A8:pf.code=.ref oU
 A9:K.lookup oU=some vn
 Bb:gM vn=some oV
 Bc:oU≠oV
 Be:(("aheads":Str),oU,oV)∈dh K
 Bg:∀p∈dh K,p.2.2=oV->p.1="aheads"
 vp:gn K "aheads"=some (gw gg)
 oP:Addr
 oQ:Addr
 uX:Obj
 An:lc.code=.ref oP
 Ao:K.lookup oP=some uX
 Ap:gM uX=some oQ
 Aq:oP≠oQ
 Ar:(("threaded":Str),oP,oQ)∈dh K
 As:∀p∈dh K,p.2.2=oQ->p.1="threaded"
 uY:gn K "threaded"=some (gw bv)
 Dy:mg "dict"=none
 uZ:mg "enumerate"=none
 tv:mg "int"=none
 j7:mg "len"=none
 wN:mg "list"=none
 il:mg "range"=none
 vO:mg "sorted"=none
variable{X:Cx}{N N':List Str}{sc:Scope}{k:Nat}
theorem fU{scope:Scope}{tg:Expr}{g:GM}(B:Bd X N sc k)(T:Tx X.K X.mg)(hc:∀y∈scope.names,y.2≠.cell)(nd:N'.Nodup)(h:∀{Y:Cx},Bd Y N' scope k->Tx Y.K Y.mg->JG Y tg g)(cl:List (Str×Addr))(C:Addr)(aA:Zh)(aL:Hp)(ex:List Addr):JG (blk X N' scope cl C aA aL ex) tg g:=h (B.blk hc nd) T
theorem fV{scope:Scope}{ifs:List Expr}{t:TM}(B:Bd X N sc k)(T:Tx X.K X.mg)(hc:∀y∈scope.names,y.2≠.cell)(nd:N'.Nodup)(h:∀{Y:Cx},Bd Y N' scope k->Tx Y.K Y.mg->JF Y ifs t)(cl:List (Str×Addr))(C:Addr)(aA:Zh)(aL:Hp)(ex:List Addr):JF (blk X N' scope cl C aA aL ex) ifs t:=h (B.blk hc nd) T
theorem fW{scope:Scope}{e:Expr}{m:EM}(B:Bd X N sc k)(T:Tx X.K X.mg)(hc:∀y∈scope.names,y.2≠.cell)(nd:N'.Nodup)(h:∀{Y:Cx},Bd Y N' scope k->Tx Y.K Y.mg->JE Y e m)(cl:List (Str×Addr))(C:Addr)(aA:Zh)(aL:Hp)(ex:List Addr):JE (blk X N' scope cl C aA aL ex) e m:=h (B.blk hc nd) T
theorem rJ:aZ "_law_script"=true:=nofun
theorem gL:aZ "_law_k"=true:=nofun
theorem rW:aZ "_law_cell"=true:=nofun
theorem mN:aZ "_law_boxes"=true:=nofun
theorem rQ:aZ "_law_slots"=true:=nofun
theorem MQ:aZ "_law_kind"=true:=nofun
theorem Au:aZ "_law_more"=true:=nofun
theorem AH:aZ "_law_one"=true:=nofun
theorem Ah:aZ "_law_other"=true:=nofun
theorem MR:aZ "_law_slot"=true:=nofun
theorem Av:aZ "_law_word"=true:=nofun
theorem Aw:aZ "_law_some"=true:=nofun
theorem rR:aZ "_law_block"=true:=nofun
theorem rX:aZ "_law_many"=true:=nofun
theorem rA:aZ "_law_turning"=true:=nofun
theorem Nx:aZ "_law_yes"=true:=nofun
theorem Og:aZ "_law_no"=true:=nofun
theorem Mp:aZ "_law_first"=true:=nofun
theorem Ai:aZ "_law_cells"=true:=nofun
theorem z6:aZ "_law_blocks"=true:=nofun
theorem Ax:aZ "_law_rows"=true:=nofun
theorem Pw:aZ "_law_j"=true:=nofun
theorem LJ:aZ "_law_number"=true:=nofun
theorem AI:aZ "_law_row"=true:=nofun
theorem z7:aZ "_law_inputs"=true:=nofun
theorem Mq:aZ "_law_turns"=true:=nofun
theorem MS:aZ "_law_told"=true:=nofun
theorem Mr:aZ "_law_taken"=true:=nofun
theorem AJ:aZ "_law_end"=true:=nofun
theorem oW:aZ "blocks"=true:=nofun
theorem jK:aZ "number"=true:=nofun
theorem lu:aZ "block"=true:=nofun
theorem sY:aZ "end"=true:=nofun
theorem CF:aZ "told"=true:=nofun
theorem Oh:aZ "starts"=true:=nofun
theorem Ny:aZ "further"=true:=nofun
theorem vP:aZ "found"=true:=nofun
theorem Px:aZ "queue"=true:=nofun
theorem Py:aZ "start"=true:=nofun
theorem Rf:aZ "done"=true:=nofun
theorem Pz:aZ "thing"=true:=nofun
theorem PB:aZ "other"=true:=nofun
theorem CG:aZ "ways"=true:=nofun
theorem px:aZ "ends"=true:=nofun
theorem MT:aZ "arrivals"=true:=nofun
theorem vq:aZ "within"=true:=nofun
theorem Rg:aZ "rows"=true:=nofun
theorem PC:aZ "leads"=true:=nofun
theorem Rh:aZ "left"=true:=nofun
theorem Ri:aZ "anew"=true:=nofun
theorem Oi:aZ "joined"=true:=nofun
theorem PD:aZ "place"=true:=nofun
theorem Nz:aZ "_law_old"=true:=nofun
theorem NA:aZ "_law_due"=true:=nofun
theorem NC:aZ "_law_new"=true:=nofun
theorem vt:nX (gw gg) "block" "ways":=⟨rfl,rfl,rfl,nofun,nofun,nofun,(fun y h=>C7 (l:=(gw gg).sc.names) nofun h),fun _ _ _ _ _ _=>rfl⟩
theorem u1:nX (gw bv) "number" "ends":=⟨rfl,rfl,rfl,nofun,nofun,nofun,(fun y h=>C7 (l:=(gw bv).sc.names) nofun h),fun _ _ _ _ _ _=>rfl⟩
theorem Io:az (af gc) "_law_script":=.inl nofun
theorem Ip:az (af gc) "_law_k":=.inl nofun
theorem HM:(af gc).names.lookup ("len":Str)=some .globalImplicit:=nofun
theorem Hi:az (af ie) "_law_cell":=.inl nofun
theorem IV:az (af cE) "_law_cell":=.inl nofun
theorem IW:az (af cE) "_law_boxes":=.inl nofun
theorem IX:az (af cE) "_law_slots":=.inl nofun
theorem IY:az (af cE) "_law_kind":=.inl nofun
theorem IZ:Loc (af cE) "_law_kind":=.inl nofun
theorem Ja:az (af cE) "_law_more":=.inl nofun
theorem Jb:Loc (af cE) "_law_more":=.inl nofun
theorem Jc:az (af cE) "_law_one":=.inl nofun
theorem Jd:Loc (af cE) "_law_one":=.inl nofun
theorem Je:az (af cE) "_law_other":=.inl nofun
theorem Jf:Loc (af cE) "_law_other":=.inl nofun
theorem Jg:az (af cE) "_law_slot":=.inl nofun
theorem Jh:Loc (af cE) "_law_slot":=.inl nofun
theorem Ji:az (af cE) "_law_word":=.inl nofun
theorem Jj:Loc (af cE) "_law_word":=.inl nofun
theorem Jk:az (af cE) "_law_some":=.inl nofun
theorem zL:Loc (af cE) "_law_some":=.inl nofun
theorem GP:(af cE).names.lookup ("_law_number_by":Str)=some .globalImplicit:=nofun
theorem Iq:az (af fk) "_law_more":=.inl nofun
theorem Ir:az (af fk) "_law_many":=.inl nofun
theorem Iu:az (af fk) "_law_some":=.inl nofun
theorem G6:(af fk).names.lookup ("range":Str)=some .globalImplicit:=nofun
theorem HN:(af fk).names.lookup ("len":Str)=some .globalImplicit:=nofun
theorem Jl:az (af dn) "_law_cell":=.inl nofun
theorem Jm:Loc (af dn) "_law_cell":=.inl nofun
theorem Jo:az (af dn) "_law_block":=.inl nofun
theorem Jp:az (af dn) "_law_many":=.inl nofun
theorem Jq:az (af dn) "_law_turning":=.inl nofun
theorem Jr:az (af dn) "_law_boxes":=.inl nofun
theorem Js:az (af dn) "_law_yes":=.inl nofun
theorem Jt:Loc (af dn) "_law_yes":=.inl nofun
theorem Ju:az (af dn) "_law_no":=.inl nofun
theorem Jv:Loc (af dn) "_law_no":=.inl nofun
theorem zB:(af dn).names.lookup ("_law_goal_by":Str)=some .globalImplicit:=nofun
theorem Hj:az (af cD) "_law_many":=.inl nofun
theorem Hk:az (af cD) "_law_boxes":=.inl nofun
theorem Hl:az (af cD) "_law_slots":=.inl nofun
theorem Hm:az (af cD) "_law_cells":=.inr (.inl nofun)
theorem Hn:Loc (af cD) "_law_cells":=.inr nofun
theorem Ho:az (af cD) "_law_turning":=.inl nofun
theorem Hq:az (af cD) "_law_blocks":=.inl nofun
theorem Hr:Loc (af cD) "_law_blocks":=.inl nofun
theorem Hs:az (af cD) "_law_k":=.inl nofun
theorem Ht:Loc (af cD) "_law_k":=.inl nofun
theorem Hu:az (af cD) "_law_rows":=.inl nofun
theorem Hv:Loc (af cD) "_law_rows":=.inl nofun
theorem G7:az (af cD) "_law_j":=.inl nofun
theorem G8:Loc (af cD) "_law_j":=.inl nofun
theorem qM:(af cD).names.lookup ("range":Str)=some .globalImplicit:=nofun
theorem G9:(af cD).names.lookup ("int":Str)=some .globalImplicit:=nofun
theorem GQ:(af cD).names.lookup ("_law_row_by":Str)=some .globalImplicit:=nofun
theorem GR:(af cD).names.lookup ("_law_end_by":Str)=some .globalImplicit:=nofun
theorem LK:az (af ik) "_law_number":=.inl nofun
theorem K6:az (af fq) "_law_word":=.inl nofun
theorem K7:az (af fq) "_law_one":=.inl nofun
theorem K8:az (af fq) "_law_other":=.inl nofun
theorem Kx:(af fq).names.lookup ("int":Str)=some .globalImplicit:=nofun
theorem zE:(af fq).names.lookup ("_law_fit":Str)=some .globalImplicit:=nofun
theorem Iv:az (af fK) "_law_row":=.inl nofun
theorem Iw:az (af fK) "_law_boxes":=.inl nofun
theorem Iy:az (af fK) "_law_slots":=.inl nofun
theorem GV:(af fK).names.lookup ("_law_deed":Str)=some .globalImplicit:=nofun
theorem Hw:az (af bW) "_law_blocks":=.inl nofun
theorem Hx:az (af bW) "_law_inputs":=.inl nofun
theorem Hy:az (af bW) "_law_turns":=.inl nofun
theorem Hz:Loc (af bW) "_law_turns":=.inl nofun
theorem HA:az (af bW) "_law_boxes":=.inl nofun
theorem HB:Loc (af bW) "_law_boxes":=.inl nofun
theorem HC:az (af bW) "_law_slots":=.inl nofun
theorem HD:Loc (af bW) "_law_slots":=.inl nofun
theorem HE:az (af bW) "_law_told":=.inl nofun
theorem HF:Loc (af bW) "_law_told":=.inl nofun
theorem HG:az (af bW) "_law_taken":=.inl nofun
theorem zF:Loc (af bW) "_law_taken":=.inl nofun
theorem HH:az (af bW) "_law_block":=.inl nofun
theorem uH:Loc (af bW) "_law_block":=.inl nofun
theorem Yo:az (af bW) "_law_step":=.inl nofun
theorem HI:Loc (af bW) "_law_step":=.inl nofun
theorem HJ:az (af bW) "_law_row":=.inl nofun
theorem HK:Loc (af bW) "_law_row":=.inl nofun
theorem Ha:az (af bW) "_law_end":=.inl nofun
theorem Hb:Loc (af bW) "_law_end":=.inl nofun
theorem GX:(af bW).names.lookup ("range":Str)=some .globalImplicit:=nofun
theorem GN:(af bW).names.lookup ("_law_box_row":Str)=some .globalImplicit:=nofun
theorem Hc:(af bW).names.lookup ("int":Str)=some .globalImplicit:=nofun
theorem Ms:az (af dR) "blocks":=.inl nofun
theorem Mt:az (af dR) "number":=.inl nofun
theorem Mu:Loc (af dR) "number":=.inl nofun
theorem Yv:az (af dR) "step":=.inl nofun
theorem Mv:Loc (af dR) "step":=.inl nofun
theorem Mw:az (af dR) "block":=.inl nofun
theorem Mx:Loc (af dR) "block":=.inl nofun
theorem z8:(af dR).names.lookup ("len":Str)=some .globalImplicit:=nofun
theorem Ky:(af dR).names.lookup ("range":Str)=some .globalImplicit:=nofun
theorem Kz:az (af gK) "end":=.inl nofun
theorem KA:az (af gK) "told":=.inl nofun
theorem Hd:az (af ic) "end":=.inl nofun
theorem Jw:az (af c3) "starts":=.inl nofun
theorem zM:az (af c3) "further":=.inl nofun
theorem Jx:az (af c3) "found":=.inl nofun
theorem Jy:Loc (af c3) "found":=.inl nofun
theorem Jz:az (af c3) "queue":=.inl nofun
theorem JH:Loc (af c3) "queue":=.inl nofun
theorem JJ:az (af c3) "start":=.inl nofun
theorem JK:Loc (af c3) "start":=.inl nofun
theorem JL:az (af c3) "done":=.inl nofun
theorem zN:Loc (af c3) "done":=.inl nofun
theorem JM:az (af c3) "thing":=.inl nofun
theorem JN:Loc (af c3) "thing":=.inl nofun
theorem JO:az (af c3) "other":=.inl nofun
theorem JP:Loc (af c3) "other":=.inl nofun
theorem Iz:(af c3).names.lookup ("len":Str)=some .globalImplicit:=nofun
theorem Yw:az (af gg) "ways":=.inr (.inl nofun)
theorem MU:az (af d9) "ways":=.inl nofun
theorem MV:az (af d9) "told":=.inl nofun
theorem MW:az (af d9) "block":=.inl nofun
theorem MX:Loc (af d9) "block":=.inl nofun
theorem MY:az (af d9) "further":=.inl nofun
theorem MZ:Loc (af d9) "further":=.inl nofun
theorem KC:(af d9).names.lookup ("aheads":Str)=some .globalImplicit:=nofun
theorem KD:(af d9).names.lookup ("sorted":Str)=some .globalImplicit:=nofun
theorem GZ:az (af dF) "ends":=.inl nofun
theorem G0:az (af dF) "found":=.inl nofun
theorem G1:Loc (af dF) "found":=.inl nofun
theorem G2:az (af dF) "block":=.inl nofun
theorem G3:Loc (af dF) "block":=.inl nofun
theorem G4:az (af dF) "arrivals":=.inl nofun
theorem G5:Loc (af dF) "arrivals":=.inl nofun
theorem GS:(af dF).names.lookup ("comes":Str)=some .globalImplicit:=nofun
theorem GO:(af dF).names.lookup ("enumerate":Str)=some .globalImplicit:=nofun
theorem GY:(af dF).names.lookup ("len":Str)=some .globalImplicit:=nofun
theorem HP:az (af dQ) "blocks":=.inl nofun
theorem HQ:az (af dQ) "ends":=.inl nofun
theorem HR:az (af dQ) "within":=.inl nofun
theorem HS:az (af dQ) "number":=.inl nofun
theorem HU:az (af dQ) "rows":=.inl nofun
theorem HV:Loc (af dQ) "rows":=.inl nofun
theorem HW:az (af dQ) "end":=.inl nofun
theorem zG:Loc (af dQ) "end":=.inl nofun
theorem He:(af dQ).names.lookup ("list":Str)=some .globalImplicit:=nofun
theorem K9:az (af bv) "blocks":=.inr (.inl nofun)
theorem Yr:az (af bv) "leads":=.inr (.inl nofun)
theorem La:Loc (af bv) "leads":=.inr nofun
theorem Ys:az (af bv) "ends":=.inr (.inl nofun)
theorem Lb:Loc (af bv) "ends":=.inr nofun
theorem Yt:az (af bv) "left":=.inl nofun
theorem Yu:az (af bv) "joined":=.inl nofun
theorem KG:(af bv).names.lookup ("len":Str)=some .globalImplicit:=nofun
theorem IB:(af bv).names.lookup ("range":Str)=some .globalImplicit:=nofun
theorem JQ:az (dO (af bv) "ends") "ends":=.inr (.inr nofun)
theorem Yp:az (dO (af bv) "ends") "within":=.inr (.inl nofun)
theorem JU:Loc (dO (af bv) "ends") "within":=.inr nofun
theorem JV:az (dO (af bv) "ends") "found":=.inl nofun
theorem JX:Loc (dO (af bv) "ends") "found":=.inl nofun
theorem JY:az (dO (af bv) "ends") "left":=.inl nofun
theorem Yq:az (dO (af bv) "ends") "anew":=.inr (.inl nofun)
theorem JZ:Loc (dO (af bv) "ends") "anew":=.inr nofun
theorem J0:az (dO (af bv) "ends") "joined":=.inl nofun
theorem GL:(dO (af bv) "ends").names.lookup ("standing_within":Str)=some .globalImplicit:=nofun
theorem GU:(dO (af bv) "ends").names.lookup ("found_from":Str)=some .globalImplicit:=nofun
theorem Hf:(dO (af bv) "ends").names.lookup ("sorted":Str)=some .globalImplicit:=nofun
theorem GW:(dO (af bv) "ends").names.lookup ("enumerate":Str)=some .globalImplicit:=nofun
theorem HX:(dO (af bv) "ends").names.lookup ("dict":Str)=some .globalImplicit:=nofun
theorem Oj:az (af bZ) "_law_script":=.inr (.inl nofun)
theorem Ol:az (af bZ) "_law_many":=.inl nofun
theorem Om:Loc (af bZ) "_law_many":=.inl nofun
theorem Oo:az (af bZ) "_law_boxes":=.inl nofun
theorem Oq:Loc (af bZ) "_law_boxes":=.inl nofun
theorem Ot:az (af bZ) "_law_old":=.inl nofun
theorem Ou:Loc (af bZ) "_law_old":=.inl nofun
theorem Ov:az (af bZ) "_law_cell":=.inl nofun
theorem Ow:Loc (af bZ) "_law_cell":=.inl nofun
theorem Ox:az (af bZ) "_law_inputs":=.inl nofun
theorem Oy:az (af bZ) "_law_due":=.inl nofun
theorem Oz:Loc (af bZ) "_law_due":=.inl nofun
theorem OA:az (af bZ) "_law_new":=.inl nofun
theorem OB:Loc (af bZ) "_law_new":=.inl nofun
theorem qO:(af bZ).names.lookup ("_law_cell_at":Str)=some .globalImplicit:=nofun
theorem Hg:(af bZ).names.lookup ("_law_blocks_by":Str)=some .globalImplicit:=nofun
theorem My:(af bZ).names.lookup ("range":Str)=some .globalImplicit:=nofun
theorem zC:(af bZ).names.lookup ("_law_boxed_run":Str)=some .globalImplicit:=nofun
theorem KH:(af bZ).names.lookup ("threaded":Str)=some .globalImplicit:=nofun
section
variable{P:aah}{w:World}{K:Zc}{mg:Str->Option Value}{base:Heap}
theorem Lc:cF ["_law_script","_law_k"] ["_law_script","_law_k"] (af gc):=⟨rfl,rfl,rfl,nofun,rfl,nofun,nofun⟩
variable{X:Cx}
theorem J1(T:Tx X.K X.mg)(B:Bd X ["_law_script","_law_k"] (af gc) 0)(hF:dg X)(aH:X.env.scope=af gc):JB X (a6 gc) gf:=
 have v0 {p:Pos}:JE X (.Name "_law_script" p) (aa 0):=B.jv 0 rfl Io rJ;have v1 {p:Pos}:JE X (.Name "_law_k" p) (aa 1):=B.jv 1 rfl Ip gL
 (aN (ce (bh pH v1 (i0 rfl nofun nofun lj lz (B.gl _ HM) T.j7 aba (ah rfl v0 ax))) (aR (bK (B.ag v0 v1))) dc) (aR (bK ap)))
theorem mI(T:Tx K mg):bP P w K mg base (bf P w) 1 T.a_law_cell_at T.rF ["_law_script","_law_k"] (bY K mg 2 (fM gf 2 2)):=dW rfl rfl T.gJ Lc fun{X} h1 h2 h3 h4 h5 B hF aH=>by subst h3 h4;exact J1 T B hF aH
theorem J2:cF ["_law_cell"] ["_law_cell"] (af ie):=⟨rfl,rfl,rfl,nofun,rfl,nofun,nofun⟩
theorem HY(T:Tx X.K X.mg)(B:Bd X ["_law_cell"] (af ie) 0)(hF:dg X)(aH:X.env.scope=af ie):JB X (a6 ie) jD:=
 have v0 {p:Pos}:JE X (.Name "_law_cell" p) (aa 0):=B.jv 0 rfl Hi rW
 (aN (ce (bh B.eq (cc v0 ap) ap) (aR (bK (B.ag (dt (ah rfl ap (ah rfl (wD ap) (ah rfl ap (ah rfl (wD ap) (ah rfl ap (ah rfl (wD ap) (ah rfl ap (ah rfl ap ax))))))))) (cc (dr v0 ap) ap)))) dc) (aN (ce (bh B.eq (cc v0 ap) ap) (aR (bK (lA (cc (ft (dr v0 ap) ap) ap) ap))) dc) (aN (ce (bh B.eq (cc v0 ap) ap) (aR (bK (lA (cc (dr v0 ap) ap) ap))) dc) (aR (bK (lA (cc (dr v0 ap) ap) ap))))))
theorem zO(T:Tx K mg):bP P w K mg base (bf P w) 1 T.a_law_number_by T.qZ ["_law_cell"] (bY K mg 1 (fM jD 1 1)):=dW rfl rfl T.kS J2 fun{X} h1 h2 h3 h4 h5 B hF aH=>by subst h3 h4;exact HY T B hF aH
theorem LL:cF ["_law_cell","_law_boxes","_law_slots","_law_kind","_law_more","_law_one","_law_other","_law_slot","_law_word","_law_some"] ["_law_cell","_law_boxes","_law_slots"] (af cE):=⟨rfl,rfl,rfl,nofun,rfl,nofun,nofun⟩
theorem KI(T:Tx X.K X.mg)(B:Bd X ["_law_cell","_law_boxes","_law_slots","_law_kind","_law_more","_law_one","_law_other","_law_slot","_law_word","_law_some"] (af cE) 1)(hF:dg X)(aH:X.env.scope=af cE):JB X (a6 cE) kZ:=
 have v0 {p:Pos}:JE X (.Name "_law_cell" p) (aa 0):=B.jv 0 rfl IV rW;have v1 {p:Pos}:JE X (.Name "_law_boxes" p) (aa 1):=B.jv 1 rfl IW mN;have v2 {p:Pos}:JE X (.Name "_law_slots" p) (aa 2):=B.jv 2 rfl IX rQ;have v3 {p:Pos}:JE X (.Name "_law_kind" p) (aa 3):=B.jv 3 rfl IY MQ;have v4 {p:Pos}:JE X (.Name "_law_more" p) (aa 4):=B.jv 4 rfl Ja Au;have v5 {p:Pos}:JE X (.Name "_law_one" p) (aa 5):=B.jv 5 rfl Jc AH;have v6 {p:Pos}:JE X (.Name "_law_other" p) (aa 6):=B.jv 6 rfl Je Ah;have v7 {p:Pos}:JE X (.Name "_law_slot" p) (aa 7):=B.jv 7 rfl Jg MR;have v8 {p:Pos}:JE X (.Name "_law_word" p) (aa 8):=B.jv 8 rfl Ji Av;have v9 {p:Pos}:JE X (.Name "_law_some" p) (aa 9):=B.jv 9 rfl Jk Aw
 (aN (B.bB 3 rfl IZ rfl (cc v0 ap)) (aN (B.bB 4 rfl Jb rfl (cc (ft (dr v0 ap) ap) ap)) (aN (B.bB 5 rfl Jd rfl (cc v4 v1)) (aN (B.bB 6 rfl Jf rfl (cc (dr v4 ap) v1)) (aN (B.bB 7 rfl Jh rfl (cc (dr v4 ap) v2)) (aN (ce (bh pH v3 ap) (aN (B.bB 8 rfl Jj rfl (B.ag (dt (ah rfl a8 (ah rfl a8 (ah rfl a8 (ah rfl a8 (ah rfl a8 (ah rfl a8 ax))))))) (cc (dr v4 ap) ap))) (aR (bK (c7 (ah rfl a8 (ah rfl v5 (ah rfl v8 (ah rfl v6 (ah rfl (cc (dr v4 ap) v1) ax))))))))) dc) (aN (B.bB 9 rfl zL rfl (dt (ah rfl (c7 (ah rfl a8 (ah rfl v5 (ah rfl (b7 rfl nofun (zO T) cb (B.room.mono (by decide)) (B.gl _ GP) T.uN T.kS.kp T.jD (ah rfl (dr v4 ap) ax)) ax)))) (ah rfl (c7 (ah rfl a8 (ah rfl v5 (ah rfl v6 ax)))) (ah rfl (c7 (ah rfl a8 (ah rfl v5 (ah rfl v7 ax)))) (ah rfl (c7 (ah rfl a8 (ah rfl v7 (ah rfl v5 ax)))) ax)))))) (aN (B.bB 9 rfl zL rfl (dX v9 (dt (ah rfl (c7 (ah rfl a8 (ah rfl v5 ax))) (ah rfl (c7 (ah rfl a8 (ah rfl v5 ax))) (ah rfl (c7 (ah rfl a8 ax)) ax)))))) (aR (bK (B.ag v9 (lA v3 ap))))))))))))
theorem LM(T:Tx K mg):bP P w K mg base (bf P w) 2 T.a_law_row_by T.rN ["_law_cell","_law_boxes","_law_slots"] (bY K mg 3 (fM kZ 10 3)):=dW rfl rfl T.mL LL fun{X} h1 h2 h3 h4 h5 B hF aH=>by subst h3 h4;exact KI T B hF aH
theorem Ld:cF ["_law_more","_law_block","_law_many","_law_turning","_law_some"] ["_law_more","_law_block","_law_many","_law_turning"] (af fk):=⟨rfl,rfl,rfl,nofun,rfl,nofun,nofun⟩
theorem J3(T:Tx X.K X.mg)(B:Bd X ["_law_more","_law_block","_law_many","_law_turning","_law_some"] (af fk) 0)(hF:dg X)(aH:X.env.scope=af fk):JB X (a6 fk) jF:=
 have v0 {p:Pos}:JE X (.Name "_law_more" p) (aa 0):=B.jv 0 rfl Iq Au;have v2 {p:Pos}:JE X (.Name "_law_many" p) (aa 2):=B.jv 2 rfl Ir rX;have v4 {p:Pos}:JE X (.Name "_law_some" p) (aa 4):=B.jv 4 rfl Iu Aw
 (aN (mY (i:=4) (by rw[B.hN];exact B.nd) (by rw[B.hN];rfl) (by rw[aH];decide +kernel) B.calm (N':=["_law_k","_law_block","_law_turning"]) (Bd.cap B.hN aH nofun) (iV (B.gl _ G6) T.il rfl (ah rfl v2 ax)) (fU B T nofun nofun fun{X} B T=>(B.cN 0 rfl (.inl rfl))) (fV B T nofun nofun fun{X} B T=>(wI (jh (pI (bh xj (B.jv 0 rfl (.inl rfl) gL) (B.jv 1 rfl (.inr (.inr rfl)) rR)) (pI (bh (B.tW (by with_unfolding_all rfl)) (B.jv 0 rfl (.inl rfl) gL) (B.jv 2 rfl (.inr (.inr rfl)) rA)) (iY (jh (lC (bh B.eq (B.jv 0 rfl (.inl rfl) gL) ap) (iY (bh (B.tW (by with_unfolding_all rfl)) (B.jv 1 rfl (.inr (.inr rfl)) rR) (B.jv 2 rfl (.inr (.inr rfl)) rA))))))))))) (fW B T nofun nofun fun{X} B T=>(B.jv 0 rfl (.inl rfl) gL)) (mQ (by rw[aH];rfl) (by rw[aH];decide +kernel) rfl nofun)) (aN (ce (bh B.eq v4 (dt ax)) (aR (bK wC)) dc) (aR (bK (B.ag v4 (cc v0 (i0 rfl nofun nofun lj lz (B.gl _ HN) T.j7 aba (ah rfl v4 ax))))))))
theorem zX(T:Tx K mg):bP P w K mg base (bf P w) 1 T.a_law_goal_by T.rG ["_law_more","_law_block","_law_many","_law_turning"] (bY K mg 4 (fM jF 5 4)):=dW rfl rfl T.kY Ld fun{X} h1 h2 h3 h4 h5 B hF aH=>by subst h3 h4;exact J3 T B hF aH
theorem LN:cF ["_law_cell","_law_block","_law_many","_law_turning","_law_boxes","_law_yes","_law_no"] ["_law_cell","_law_block","_law_many","_law_turning","_law_boxes"] (af dn):=⟨rfl,rfl,rfl,nofun,rfl,nofun,nofun⟩
theorem KJ(T:Tx X.K X.mg)(B:Bd X ["_law_cell","_law_block","_law_many","_law_turning","_law_boxes","_law_yes","_law_no"] (af dn) 1)(hF:dg X)(aH:X.env.scope=af dn):JB X (a6 dn) k4:=
 have v0 {p:Pos}:JE X (.Name "_law_cell" p) (aa 0):=B.jv 0 rfl Jl rW;have v1 {p:Pos}:JE X (.Name "_law_block" p) (aa 1):=B.jv 1 rfl Jo rR;have v2 {p:Pos}:JE X (.Name "_law_many" p) (aa 2):=B.jv 2 rfl Jp rX;have v3 {p:Pos}:JE X (.Name "_law_turning" p) (aa 3):=B.jv 3 rfl Jq rA;have v4 {p:Pos}:JE X (.Name "_law_boxes" p) (aa 4):=B.jv 4 rfl Jr mN;have v5 {p:Pos}:JE X (.Name "_law_yes" p) (aa 5):=B.jv 5 rfl Js Nx;have v6 {p:Pos}:JE X (.Name "_law_no" p) (aa 6):=B.jv 6 rfl Ju Og
 (aN (B.bB 0 rfl Jm rfl (cc (ft v0 ap) ap)) (aN (B.bB 5 rfl Jt rfl (b7 rfl nofun (zX T) cb (B.room.mono (by decide)) (B.gl _ zB) T.uP T.kY.kp T.jF (ah rfl (dr v0 ap) (ah rfl v1 (ah rfl v2 (ah rfl v3 ax)))))) (aN (B.bB 6 rfl Jv rfl (b7 rfl nofun (zX T) cb (B.room.mono (by decide)) (B.gl _ zB) T.uP T.kY.kp T.jF (ah rfl (dr v0 ap) (ah rfl v1 (ah rfl v2 (ah rfl v3 ax)))))) (aN (ce (jh (pI (bh US v5 wC) (iY (bh B.eq (cc v0 ap) ap)))) (aR (bK (c7 (ah rfl a8 ax)))) dc) (aN (ce (bh pH (cc v0 ap) ap) (aR (bK (c7 (ah rfl a8 (ah rfl (cc (dr v0 ap) v4) (ah rfl v5 (ah rfl v6 ax))))))) dc) (aR (bK (c7 (ah rfl a8 (ah rfl v5 ax))))))))))
theorem LO(T:Tx K mg):bP P w K mg base (bf P w) 2 T.a_law_end_by T.rO ["_law_cell","_law_block","_law_many","_law_turning","_law_boxes"] (bY K mg 5 (fM k4 7 5)):=dW rfl rfl T.mM LN fun{X} h1 h2 h3 h4 h5 B hF aH=>by subst h3 h4;exact KJ T B hF aH
theorem J4:cF ["_law_script","_law_first","_law_many","_law_boxes","_law_slots","_law_cells","_law_turning","_law_blocks","_law_k","_law_rows","_law_j"] ["_law_script","_law_first","_law_many","_law_boxes","_law_slots"] (af cD):=⟨rfl,rfl,rfl,nofun,rfl,nofun,nofun⟩
theorem HZ(T:Tx X.K X.mg)(B:Bd X ["_law_script","_law_first","_law_many","_law_boxes","_law_slots","_law_cells","_law_turning","_law_blocks","_law_k","_law_rows","_law_j"] (af cD) 2)(hF:dg X)(aH:X.env.scope=af cD):JB X (a6 cD) kR:=
 have v2 {p:Pos}:JE X (.Name "_law_many" p) (aa 2):=B.jv 2 rfl Hj rX;have v3 {p:Pos}:JE X (.Name "_law_boxes" p) (aa 3):=B.jv 3 rfl Hk mN;have v4 {p:Pos}:JE X (.Name "_law_slots" p) (aa 4):=B.jv 4 rfl Hl rQ;have v5 {p:Pos}:JE X (.Name "_law_cells" p) (aa 5):=B.jv 5 rfl Hm Ai;have v6 {p:Pos}:JE X (.Name "_law_turning" p) (aa 6):=B.jv 6 rfl Ho rA;have v7 {p:Pos}:JE X (.Name "_law_blocks" p) (aa 7):=B.jv 7 rfl Hq z6;have v8 {p:Pos}:JE X (.Name "_law_k" p) (aa 8):=B.jv 8 rfl Hs gL;have v9 {p:Pos}:JE X (.Name "_law_rows" p) (aa 9):=B.jv 9 rfl Hu Ax;have hU {p:Pos}:JE X (.Name "_law_j" p) (aa 10):=B.jv 10 rfl G7 Pw
 (aN (B.xq 5 rfl Hn (by rw[aH];decide +kernel) (lw B.calm (N':=["_law_k","_law_script","_law_first"]) (Bd.cap B.hN aH nofun) (iV (B.gl _ qM) T.il rfl (ah rfl (ft ap v2) ax)) (fU B T nofun nofun fun{X} B T=>(B.cN 0 rfl (.inl rfl))) (fV B T nofun nofun fun{X} B T=>ir) (fW B T nofun nofun fun{X} B T=>(dX (b7 rfl nofun (mI T) cb (B.room.mono (by decide)) (B.gl _ rfl) T.kX T.gJ.kp T.gf (ah rfl (B.jv 1 rfl (.inr (.inr rfl)) rJ) (ah rfl (dX (B.jv 2 rfl (.inr (.inr rfl)) Mp) (cc (B.jv 0 rfl (.inl rfl) gL) ap)) ax))) (ft ap (dr (B.jv 0 rfl (.inl rfl) gL) ap)))))) (aN (mY (i:=6) (by rw[B.hN];exact B.nd) (by rw[B.hN];rfl) (by rw[aH];decide +kernel) B.calm (N':=["_law_k","_law_cells"]) (Bd.cap B.hN aH nofun) (iV (B.gl _ qM) T.il rfl (ah rfl v2 ax)) (fU B T nofun nofun fun{X} B T=>(B.cN 0 rfl (.inl rfl))) (fV B T nofun nofun fun{X} B T=>(wI (bh B.eq (cc (B.ag (B.jv 1 rfl (.inr (.inr rfl)) Ai) (ft ap (B.jv 0 rfl (.inl rfl) gL))) ap) ap))) (fW B T nofun nofun fun{X} B T=>(B.jv 0 rfl (.inl rfl) gL)) (mQ (by rw[aH];rfl) (by rw[aH];decide +kernel) rfl nofun)) (aN (B.bB 7 rfl Hr rfl (dt ax)) (aN (B.iD (iV (B.gl _ qM) T.il rfl (ah rfl v2 ax)) (B.cN 8 rfl Ht) (aN (B.bB 9 rfl Hv rfl (ft (dt (ah rfl (c7 (ah rfl a8 ax)) ax)) (nh rfl nofun nofun vg wA (B.gl _ G9) T.tv abX (ah rfl (lB (B.tW (by with_unfolding_all rfl)) v8 v6) ax)))) (aN (B.iD (iV (B.gl _ qM) T.il rfl (ah rfl (B.ag (dt (ah rfl ap (ah rfl ap (ah rfl ap (ah rfl ap (ah rfl ap ax)))))) (cc (dr (B.ag v5 (ft ap v8)) ap) ap)) ax)) (B.cN 10 rfl G8) (aR (jQ rfl (eD rfl rfl aaa aao aap lh jZ mP v9 (ah rfl (b7 rfl nofun (LM T) cb (B.room.mono (by decide)) (B.gl _ GQ) T.Af T.mL.kp T.kZ (ah rfl (dX (ft (B.ag v5 (dX (dX (ft ap v8) ap) (cc hU ap))) (dX ap hU)) v8) (ah rfl v3 (ah rfl v4 ax)))) ax))))) (aR (jQ rfl (eD rfl rfl aaa aao aap lh jZ mP v7 (ah rfl (c7 (ah rfl v9 (ah rfl (b7 rfl nofun (LO T) cb (B.room.mono (by decide)) (B.gl _ GR) T.Ag T.mM.kp T.k4 (ah rfl (dX (B.ag v5 (dX (ft ap v8) ap)) v8) (ah rfl v8 (ah rfl v2 (ah rfl v6 (ah rfl v3 ax)))))) ax))) ax))))))) (aR (bK v7))))))
theorem J5(T:Tx K mg):bP P w K mg base (bf P w) 3 T.a_law_blocks_by T.rg ["_law_script","_law_first","_law_many","_law_boxes","_law_slots"] (bY K mg 5 (fM kR 11 5)):=dW rfl rfl T.mG J4 fun{X} h1 h2 h3 h4 h5 B hF aH=>by subst h3 h4;exact HZ T B hF aH
theorem ND:cF ["_law_number"] ["_law_number"] (af ik):=⟨rfl,rfl,rfl,nofun,rfl,nofun,nofun⟩
theorem Mz(T:Tx X.K X.mg)(B:Bd X ["_law_number"] (af ik) 0)(hF:dg X)(aH:X.env.scope=af ik):JB X (a6 ik) jJ:=
 have v0 {p:Pos}:JE X (.Name "_law_number" p) (aa 0):=B.jv 0 rfl LK LJ
 (aR (bK (lA v0 (ft (dr (dX v0 ap) ap) ap))))
theorem AK(T:Tx K mg):bP P w K mg base (bf P w) 1 T.a_law_fit T.sj ["_law_number"] (bY K mg 1 (fM jJ 1 1)):=dW rfl rfl T.lm ND fun{X} h1 h2 h3 h4 h5 B hF aH=>by subst h3 h4;exact Mz T B hF aH
theorem M0:cF ["_law_word","_law_one","_law_other"] ["_law_word","_law_one","_law_other"] (af fq):=⟨rfl,rfl,rfl,nofun,rfl,nofun,nofun⟩
theorem LP(T:Tx X.K X.mg)(B:Bd X ["_law_word","_law_one","_law_other"] (af fq) 1)(hF:dg X)(aH:X.env.scope=af fq):JB X (a6 fq) la:=
 have v0 {p:Pos}:JE X (.Name "_law_word" p) (aa 0):=B.jv 0 rfl K6 Av;have v1 {p:Pos}:JE X (.Name "_law_one" p) (aa 1):=B.jv 1 rfl K7 AH;have v2 {p:Pos}:JE X (.Name "_law_other" p) (aa 2):=B.jv 2 rfl K8 Ah
 (aN (ce (jh (pI (bh B.eq v0 a8) (iY (bh B.eq v0 a8)))) (aR (bK (nh rfl nofun nofun vg wA (B.gl _ Kx) T.tv abX (ah rfl (UT (CY (lB pH v1 v2) (wF (lB B.eq v0 a8))) (wF (CY (lB B.eq v1 v2) (wF (lB B.eq v0 a8))))) ax)))) dc) (aN (ce (bh B.eq v0 a8) (aR (bK (b7 rfl nofun (AK T) cb (B.room.mono (by decide)) (B.gl _ zE) T.vm T.lm.kp T.jJ (ah rfl (dr v1 v2) ax)))) dc) (aR (bK (b7 rfl nofun (AK T) cb (B.room.mono (by decide)) (B.gl _ zE) T.vm T.lm.kp T.jJ (ah rfl (B.ag (dt (ah rfl (dX v1 v2) (ah rfl (lA v1 v2) (ah rfl (ft v1 v2) ax)))) (eD rfl rfl aaa PySem.F.slot_list_index PySem.F.type_list_index (Pj B.room.units) jZ Pk (dt (ah rfl a8 (ah rfl a8 (ah rfl a8 ax)))) (ah rfl v0 ax))) ax))))))
theorem M1(T:Tx K mg):bP P w K mg base (bf P w) 2 T.a_law_deed T.sd ["_law_word","_law_one","_law_other"] (bY K mg 3 (fM la 3 3)):=dW rfl rfl T.mO M0 fun{X} h1 h2 h3 h4 h5 B hF aH=>by subst h3 h4;exact LP T B hF aH
theorem Le:cF ["_law_row","_law_boxes","_law_slots"] ["_law_row","_law_boxes","_law_slots"] (af fK):=⟨rfl,rfl,rfl,nofun,rfl,nofun,nofun⟩
theorem J6(T:Tx X.K X.mg)(B:Bd X ["_law_row","_law_boxes","_law_slots"] (af fK) 2)(hF:dg X)(aH:X.env.scope=af fK):JB X (a6 fK) kW:=
 have v0 {p:Pos}:JE X (.Name "_law_row" p) (aa 0):=B.jv 0 rfl Iv AI;have v1 {p:Pos}:JE X (.Name "_law_boxes" p) (aa 1):=B.jv 1 rfl Iw mN;have v2 {p:Pos}:JE X (.Name "_law_slots" p) (aa 2):=B.jv 2 rfl Iy rQ
 (aR (ce (bh B.eq (B.ag v0 ap) a8) (aR (iZ (B.ag v0 ap) (B.iX v1 (B.ag v0 ap)))) (aR (ce (bh B.eq (B.ag v0 ap) a8) (aR (iZ (eD rfl rfl aab ZM aag (jV (gm B.room)) jU jW v1 (ah rfl (B.ag v0 ap) (ah rfl ap ax))) (B.iX v1 (B.ag v0 ap)))) (aR (ce (bh B.eq (B.ag v0 ap) a8) (aR (iZ (eD rfl rfl aab ZM aag (jV (gm B.room)) jU jW v2 (ah rfl (B.ag v0 ap) (ah rfl ap ax))) (B.iX v1 (B.ag v0 ap)))) (aR (ce (bh B.eq (B.ag v0 ap) a8) (aR (iZ (eD rfl rfl aab ZM aag (jV (gm B.room)) jU jW v1 (ah rfl (B.ag v0 ap) (ah rfl ap ax))) (B.iX v2 (B.ag v0 ap)))) (aR (iZ (b7 rfl nofun (M1 T) cb (B.room.mono (by decide)) (B.gl _ GV) T.AF T.mO.kp T.la (ah rfl (B.ag v0 ap) (ah rfl (eD rfl rfl aab ZM aag (jV (gm B.room)) jU jW v1 (ah rfl (B.ag v0 ap) (ah rfl ap ax))) (ah rfl (eD rfl rfl aab ZM aag (jV (gm B.room)) jU jW v1 (ah rfl (B.ag v0 ap) (ah rfl ap ax))) ax)))) (B.iX v1 (B.ag v0 ap))))))))))))
theorem Lf(T:Tx K mg):bP P w K mg base (bf P w) 3 T.a_law_box_row T.rH ["_law_row","_law_boxes","_law_slots"] (bY K mg 3 (fM kW 3 3)):=dW rfl rfl T.mK Le fun{X} h1 h2 h3 h4 h5 B hF aH=>by subst h3 h4;exact J6 T B hF aH
theorem J7:cF ["_law_blocks","_law_inputs","_law_turns","_law_boxes","_law_slots","_law_told","_law_taken","_law_block","_law_step","_law_row","_law_end"] ["_law_blocks","_law_inputs","_law_turns"] (af bW):=⟨rfl,rfl,rfl,nofun,rfl,nofun,nofun⟩
theorem Ia(T:Tx X.K X.mg)(B:Bd X ["_law_blocks","_law_inputs","_law_turns","_law_boxes","_law_slots","_law_told","_law_taken","_law_block","_law_step","_law_row","_law_end"] (af bW) 3)(hF:dg X)(aH:X.env.scope=af bW):JB X (a6 bW) jE:=
 have v0 {p:Pos}:JE X (.Name "_law_blocks" p) (aa 0):=B.jv 0 rfl Hw z6;have v1 {p:Pos}:JE X (.Name "_law_inputs" p) (aa 1):=B.jv 1 rfl Hx z7;have v2 {p:Pos}:JE X (.Name "_law_turns" p) (aa 2):=B.jv 2 rfl Hy Mq;have v3 {p:Pos}:JE X (.Name "_law_boxes" p) (aa 3):=B.jv 3 rfl HA mN;have v4 {p:Pos}:JE X (.Name "_law_slots" p) (aa 4):=B.jv 4 rfl HC rQ;have v5 {p:Pos}:JE X (.Name "_law_told" p) (aa 5):=B.jv 5 rfl HE MS;have v6 {p:Pos}:JE X (.Name "_law_taken" p) (aa 6):=B.jv 6 rfl HG Mr;have v7 {p:Pos}:JE X (.Name "_law_block" p) (aa 7):=B.jv 7 rfl HH rR;have v9 {p:Pos}:JE X (.Name "_law_row" p) (aa 9):=B.jv 9 rfl HJ AI;have hU {p:Pos}:JE X (.Name "_law_end" p) (aa 10):=B.jv 10 rfl Ha AJ
 (aN (B.bB 3 rfl HB rfl sV) (aN (B.bB 4 rfl HD rfl sV) (aN (B.bB 5 rfl HF rfl (dt ax)) (aN (B.bB 6 rfl zF rfl ap) (aN (B.bB 7 rfl uH rfl ap) (aN (B.iD (iV (B.gl _ GX) T.il rfl (ah rfl ap ax)) (B.cN 8 rfl HI) (aN (B.iD (gh (B.ag (B.ag v0 v7) ap)) (B.cN 9 rfl HK) (aN (ce (jh (lC (bh B.eq (B.ag v9 ap) a8) (iY (bh B.eq v2 ap)))) (aR (bK (c7 (ah rfl a8 (ah rfl v5 (ah rfl v6 ax)))))) dc) (aN (ce (jh (lC (bh B.eq (B.ag v9 ap) a8) (lC (bh B.eq (B.ag v9 ap) a8) (iY (bh B.eq (eD rfl rfl aab ZM aag (jV (gm B.room)) jU jW v3 (ah rfl (B.ag v9 ap) (ah rfl ap ax))) ap))))) (aR (bK (c7 (ah rfl a8 (ah rfl v5 (ah rfl v6 ax)))))) dc) (aR (ce (bh B.eq (B.ag v9 ap) a8) (aR (B.bB 2 rfl Hz rfl (lA v2 ap))) (aR (ce (bh B.eq (B.ag v9 ap) a8) (aN (iZ (B.ag (dX v1 (ft (dt (ah rfl ap ax)) (dX v6 ap))) v6) (B.iX v3 (B.ag v9 ap))) (aR (B.bB 6 rfl zF rfl (dX v6 ap)))) (aR (ce (bh B.eq (B.ag v9 ap) a8) (aR (jQ rfl (eD rfl rfl aaa aao aap lh jZ mP v5 (ah rfl (eD rfl rfl aab ZM aag (jV (gm B.room)) jU jW v3 (ah rfl (B.ag v9 ap) (ah rfl ap ax))) ax)))) (aR (jQ rfl (b7 rfl nofun (Lf T) cb (B.room.mono (by decide)) (B.gl _ GN) T.z5 T.mK.kp T.kW (ah rfl v9 (ah rfl v3 (ah rfl v4 ax))))))))))))))) (aN (B.bB 10 rfl Hb rfl (B.ag (B.ag v0 v7) ap)) (aN (ce (bh B.eq (B.ag hU ap) a8) (aR (bK (c7 (ah rfl a8 (ah rfl v5 (ah rfl v6 ax)))))) dc) (aN (B.bB 7 rfl uH rfl (B.ag hU ap)) (aR (ce (bh B.eq (B.ag hU ap) a8) (aR (B.bB 7 rfl uH rfl (B.ag (dt (ah rfl (B.ag hU ap) (ah rfl (B.ag hU ap) ax))) (nh rfl nofun nofun vg wA (B.gl _ Hc) T.tv abX (ah rfl (lB B.ne (eD rfl rfl aab ZM aag (jV (gm B.room)) jU jW v3 (ah rfl (B.ag hU ap) (ah rfl ap ax))) ap) ax))))) dc))))))) (aR (bK (c7 (ah rfl a8 (ah rfl v5 (ah rfl v6 ax))))))))))))
theorem zP(T:Tx K mg):bP P w K mg base (bf P w) 4 T.a_law_boxed_run T.rh ["_law_blocks","_law_inputs","_law_turns"] (bY K mg 3 (fM jE 11 3)):=dW rfl rfl T.kT J7 fun{X} h1 h2 h3 h4 h5 B hF aH=>by subst h3 h4;exact Ia T B hF aH
theorem OC:cF ["blocks","number","step","block"] ["blocks","number"] (af dR):=⟨rfl,rfl,rfl,nofun,rfl,nofun,nofun⟩
theorem M2(T:Tx X.K X.mg)(B:Bd X ["blocks","number","step","block"] (af dR) 0)(hF:dg X)(aH:X.env.scope=af dR):JB X (a6 dR) lr:=
 have v0 {p:Pos}:JE X (.Name "blocks" p) (aa 0):=B.jv 0 rfl Ms oW;have v1 {p:Pos}:JE X (.Name "number" p) (aa 1):=B.jv 1 rfl Mt jK;have v3 {p:Pos}:JE X (.Name "block" p) (aa 3):=B.jv 3 rfl Mw lu
 (aN (B.iD (iV (B.gl _ Ky) T.il rfl (ah rfl (i0 rfl nofun nofun lj lz (B.gl _ z8) T.j7 aba (ah rfl v0 ax)) ax)) (B.cN 2 rfl Mv) (aN (B.bB 3 rfl Mx rfl (B.ag v0 v1)) (aN (ce (jh (pI (bh xj (i0 rfl nofun nofun lj lz (B.gl _ z8) T.j7 aba (ah rfl (B.ag v3 ap) ax)) ap) (iY (bh B.ne (B.ag (B.ag v3 ap) ap) a8)))) (aR (bK v1)) dc) (aR (B.bB 1 rfl Mu rfl (B.ag (B.ag v3 ap) ap)))))) (aR (bK v1)))
theorem OD(T:Tx K mg):bP P w K mg base (bf P w) 1 T.a_led_on T.sI ["blocks","number"] (bY K mg 2 (fM lr 4 2)):=dW rfl rfl T.mX OC fun{X} h1 h2 h3 h4 h5 B hF aH=>by subst h3 h4;exact M2 T B hF aH
theorem MA:cF ["end","told"] ["end","told"] (af gK):=⟨rfl,rfl,rfl,nofun,rfl,nofun,nofun⟩
theorem Lg(T:Tx X.K X.mg)(B:Bd X ["end","told"] (af gK) 0)(hF:dg X)(aH:X.env.scope=af gK):JB X (a6 gK) jH:=
 have v0 {p:Pos}:JE X (.Name "end" p) (aa 0):=B.jv 0 rfl Kz sY;have v1 {p:Pos}:JE X (.Name "told" p) (aa 1):=B.jv 1 rfl KA CF
 (aN (ce (bh B.eq (B.ag v0 ap) a8) (aR (bK (c7 (ah rfl a8 (ah rfl (B.ag v1 (B.ag v0 ap)) ax))))) dc) (aN (ce (bh B.eq (B.ag v0 ap) a8) (aR (bK (c7 (ah rfl a8 (ah rfl (B.ag v0 ap) (ah rfl (B.ag v1 (B.ag v0 ap)) (ah rfl (B.ag v1 (B.ag v0 ap)) ax))))))) dc) (aR (bK v0))))
theorem Aj(T:Tx K mg):bP P w K mg base (bf P w) 1 T.a_with_ways T.rV ["end","told"] (bY K mg 2 (fM jH 2 2)):=dW rfl rfl T.k7 MA fun{X} h1 h2 h3 h4 h5 B hF aH=>by subst h3 h4;exact Lg T B hF aH
theorem IC:cF ["end"] ["end"] (af ic):=⟨rfl,rfl,rfl,nofun,rfl,nofun,nofun⟩
theorem HL(T:Tx X.K X.mg)(B:Bd X ["end"] (af ic) 0)(hF:dg X)(aH:X.env.scope=af ic):JB X (a6 ic) jC:=
 have v0 {p:Pos}:JE X (.Name "end" p) (aa 0):=B.jv 0 rfl Hd sY
 (aN (ce (bh B.eq (B.ag v0 ap) a8) (aR (bK (dt (ah rfl (B.ag v0 ap) ax)))) dc) (aN (ce (bh B.eq (B.ag v0 ap) a8) (aR (bK (dt (ah rfl (B.ag v0 ap) (ah rfl (B.ag v0 ap) ax))))) dc) (aR (bK (dt ax)))))
theorem zJ(T:Tx K mg):bP P w K mg base (bf P w) 1 T.a_further_blocks T.qT ["end"] (bY K mg 1 (fM jC 1 1)):=dW rfl rfl T.kQ IC fun{X} h1 h2 h3 h4 h5 B hF aH=>by subst h3 h4;exact HL T B hF aH
theorem LQ:cF ["starts","further","found","queue","start","done","thing","other"] ["starts","further"] (af c3):=⟨rfl,rfl,rfl,nofun,rfl,nofun,nofun⟩
theorem KN(T:Tx X.K X.mg)(B:Bd X ["starts","further","found","queue","start","done","thing","other"] (af c3) 2)(hF:dg X)(aH:X.env.scope=af c3):JB X (a6 c3) jG:=
 have v0 {p:Pos}:JE X (.Name "starts" p) (aa 0):=B.jv 0 rfl Jw Oh;have v2 {p:Pos}:JE X (.Name "found" p) (aa 2):=B.jv 2 rfl Jx vP;have v3 {p:Pos}:JE X (.Name "queue" p) (aa 3):=B.jv 3 rfl Jz Px;have v4 {p:Pos}:JE X (.Name "start" p) (aa 4):=B.jv 4 rfl JJ Py;have v5 {p:Pos}:JE X (.Name "done" p) (aa 5):=B.jv 5 rfl JL Rf;have v6 {p:Pos}:JE X (.Name "thing" p) (aa 6):=B.jv 6 rfl JM Pz;have v7 {p:Pos}:JE X (.Name "other" p) (aa 7):=B.jv 7 rfl JO PB
 (aN (B.bB 2 rfl Jy rfl sV) (aN (B.bB 3 rfl JH rfl (dt ax)) (aN (B.iD (gh v0) (B.cN 4 rfl JK) (aR (ce (bh (B.xo (by with_unfolding_all rfl)) v4 v2) (aN (iZ wC (B.iX v2 v4)) (aR (jQ rfl (eD rfl rfl aaa aao aap lh jZ mP v3 (ah rfl v4 ax))))) dc))) (aN (B.bB 5 rfl zN rfl ap) (aN (B.CZ (bh pH v5 (i0 rfl nofun nofun lj lz (B.gl _ Iz) T.j7 aba (ah rfl v3 ax))) (aN (B.bB 6 rfl JN rfl (B.ag v3 v5)) (aN (B.U0 5 rfl zN ap) (aR (B.iD (gh (Q9 (C6 T.vp vt B.room (by rw[B.hN];rfl) (B.iH _ zM) (fun a v cl s H hr=>(fun{X} (T:Tx X.K X.mg) (B:Bd X _ _ _)=>((B.ag (B.jv 1 rfl (.inr (.inr rfl)) CG) (B.jv 0 rfl (.inl rfl) lu)):JE X (gw gg).bd l_aheads)) (X:=iE X _ _ _ _ a v cl s H) T (Bd.Gg B vt nofun a v cl s H hr)) rfl (ah rfl v6 ax) nofun nofun) (C6 T.uY u1 B.room (by rw[B.hN];rfl) (B.iH _ zM) (fun a v cl s H hr=>(fun{X} (T:Tx X.K X.mg) (B:Bd X _ _ _)=>((b7 rfl nofun (zJ T) cb (B.room.mono (by decide)) (B.gl _ rfl) T.uK T.kQ.kp T.jC (ah rfl (B.ag (B.jv 1 rfl (.inr (.inr rfl)) px) (B.jv 0 rfl (.inl rfl) jK)) ax)):JE X (gw bv).bd l_threaded)) (X:=iE X _ _ _ _ a v cl s H) T (Bd.Gg B u1 nofun a v cl s H hr)) rfl (ah rfl v6 ax) nofun nofun))) (B.cN 7 rfl JP) (aR (ce (bh (B.xo (by with_unfolding_all rfl)) v7 v2) (aN (iZ v6 (B.iX v2 v7)) (aR (jQ rfl (eD rfl rfl aaa aao aap lh jZ mP v3 (ah rfl v7 ax))))) dc))))))) (aR (bK v2)))))))
theorem z9(T:Tx K mg):bP P w K mg base (bf P w) 3 T.a_found_from T.rP ["starts","further"] (bY K mg 2 (fM jG 8 2)):=dW rfl rfl T.k5 LQ fun{X} h1 h2 h3 h4 h5 B hF aH=>by subst h3 h4;exact KN T B hF aH
theorem OE:cF ["ways"] ["ways"] (af gg):=⟨rfl,rfl,rfl,nofun,rfl,nofun,nofun⟩
theorem OF(T:Tx K mg):bP P w K mg base (bf P w) 4 T.a_aheads T.pf ["ways"] (bY K mg 1 vN):=QZ (L:=gw gg) T.ls OE rfl (fun _=>rfl) nofun T.A8 T.A9 T.Bb T.Bc T.Be T.Bg T.vp (fun _ _ _=>rfl) vt.only (fun _=>rfl) (fun _=>rfl) nofun nofun (z9 T) T.uT T.k5.kp T.jG rfl fun _ _ _ _ _ _ _=>JE.h (dt (ah rfl ap ax))
theorem PJ:cF ["ways","told","block","further"] ["ways"] (af d9):=⟨rfl,rfl,rfl,nofun,rfl,nofun,nofun⟩
theorem NE(T:Tx X.K X.mg)(B:Bd X ["ways","told","block","further"] (af d9) 4)(hF:dg X)(aH:X.env.scope=af d9):JB X (a6 d9) ly:=
 have v0 {p:Pos}:JE X (.Name "ways" p) (aa 0):=B.jv 0 rfl MU CG;have v1 {p:Pos}:JE X (.Name "told" p) (aa 1):=B.jv 1 rfl MV CF;have v2 {p:Pos}:JE X (.Name "block" p) (aa 2):=B.jv 2 rfl MW lu;have v3 {p:Pos}:JE X (.Name "further" p) (aa 3):=B.jv 3 rfl MY Ny
 (aN (mY (i:=1) (by rw[B.hN];exact B.nd) (by rw[B.hN];rfl) (by rw[aH];decide +kernel) B.calm (N':=["block"]) (Bd.cap B.hN aH nofun) (gh v0) (fU B T nofun nofun fun{X} B T=>(B.cN 0 rfl (.inl rfl))) (fV B T nofun nofun fun{X} B T=>ir) (fW B T nofun nofun fun{X} B T=>(dt ax)) (mQ (by rw[aH];rfl) (by rw[aH];decide +kernel) rfl nofun)) (aN (B.iD (gh (i0 rfl nofun nofun (A2 B.calm) Cf (B.gl _ KD) T.vO boot_sorted (ah rfl (b7 rfl nofun (OF T) Pn (B.room.mono (by decide)) (B.gl _ KC) T.BM T.ls.kp T.BN (ah rfl v0 ax)) ax))) (B.cN 2 rfl MX) (aR (B.iD (gh (B.ag v0 v2)) (B.cN 3 rfl MZ) (aR (jQ rfl (eD rfl rfl aaa aao aap lh jZ mP (B.ag v1 v3) (ah rfl v2 ax))))))) (aR (bK v1))))
theorem PK(T:Tx K mg):bP P w K mg base (bf P w) 5 T.a_comes T.sR ["ways"] (bY K mg 1 (fM ly 4 1)):=dW rfl rfl T.m8 PJ fun{X} h1 h2 h3 h4 h5 B hF aH=>by subst h3 h4;exact NE T B hF aH
theorem Ib:cF ["ends","found","block","arrivals"] ["ends"] (af dF):=⟨rfl,rfl,rfl,nofun,rfl,nofun,nofun⟩
theorem Hh(T:Tx X.K X.mg)(B:Bd X ["ends","found","block","arrivals"] (af dF) 5)(hF:dg X)(aH:X.env.scope=af dF):JB X (a6 dF) kP:=
 have v0 {p:Pos}:JE X (.Name "ends" p) (aa 0):=B.jv 0 rfl GZ px;have v1 {p:Pos}:JE X (.Name "found" p) (aa 1):=B.jv 1 rfl G0 vP;have v2 {p:Pos}:JE X (.Name "block" p) (aa 2):=B.jv 2 rfl G2 lu;have v3 {p:Pos}:JE X (.Name "arrivals" p) (aa 3):=B.jv 3 rfl G4 MT
 (aN (B.bB 1 rfl G1 rfl sV) (aN (B.iD (Ca (B.gl _ GO) T.uZ rfl (ah rfl (b7 rfl nofun (PK T) cb (B.room.mono (by decide)) (B.gl _ GS) T.CD T.m8.kp T.ly (ah rfl (lw B.calm (N':=["end"]) (Bd.cap B.hN aH nofun) (gh v0) (fU B T nofun nofun fun{X} B T=>(B.cN 0 rfl (.inl rfl))) (fV B T nofun nofun fun{X} B T=>ir) (fW B T nofun nofun fun{X} B T=>(b7 rfl nofun (zJ T) cb (B.room.mono (by decide)) (B.gl _ rfl) T.uK T.kQ.kp T.jC (ah rfl (B.jv 0 rfl (.inl rfl) sY) ax)))) ax)) ax)) (wH B.calm (mT (B.cN 2 rfl G3) (mT (B.cN 3 rfl G5) vY))) (aR (ce (jh (lC (bh xj v2 ap) (lC (bh B.eq (i0 rfl nofun nofun lj lz (B.gl _ GY) T.j7 aba (ah rfl v3 ax)) ap) (iY (bh B.eq (B.ag (B.ag v0 (B.ag v3 ap)) ap) a8))))) (aR (iZ UR (B.iX v1 v2))) dc))) (aR (bK v1))))
theorem Ic(T:Tx K mg):bP P w K mg base (bf P w) 6 T.a_standing_within T.qR ["ends"] (bY K mg 1 (fM kP 4 1)):=dW rfl rfl T.mE Ib fun{X} h1 h2 h3 h4 h5 B hF aH=>by subst h3 h4;exact Hh T B hF aH
theorem KO:cF ["blocks","ends","within","number","rows","end"] ["blocks","ends","within","number"] (af dQ):=⟨rfl,rfl,rfl,nofun,rfl,nofun,nofun⟩
theorem ID(T:Tx X.K X.mg)(B:Bd X ["blocks","ends","within","number","rows","end"] (af dQ) 0)(hF:dg X)(aH:X.env.scope=af dQ):JB X (a6 dQ) kU:=
 have v0 {p:Pos}:JE X (.Name "blocks" p) (aa 0):=B.jv 0 rfl HP oW;have v1 {p:Pos}:JE X (.Name "ends" p) (aa 1):=B.jv 1 rfl HQ px;have v2 {p:Pos}:JE X (.Name "within" p) (aa 2):=B.jv 2 rfl HR vq;have v3 {p:Pos}:JE X (.Name "number" p) (aa 3):=B.jv 3 rfl HS jK;have v4 {p:Pos}:JE X (.Name "rows" p) (aa 4):=B.jv 4 rfl HU Rg;have v5 {p:Pos}:JE X (.Name "end" p) (aa 5):=B.jv 5 rfl HW sY
 (aN (B.bB 4 rfl HV rfl (nh rfl nofun nofun (AD B.calm) Ce (B.gl _ He) T.wN acZ (ah rfl (B.ag (B.ag v0 v3) ap) ax))) (aN (B.bB 5 rfl zG rfl (B.ag v1 v3)) (aN (B.CZ (jh (lC (bh B.eq (B.ag v5 ap) a8) (iY (bh (B.tW (by with_unfolding_all rfl)) (B.ag v5 ap) v2)))) (aN (jQ rfl (eD rfl rfl aaa PySem.F.slot_list_extend PySem.F.type_list_extend NY jZ N8 v4 (ah rfl (B.ag (B.ag v0 (B.ag v5 ap)) ap) ax))) (aR (B.bB 5 rfl zG rfl (B.ag v1 (B.ag v5 ap)))))) (aR (bK (c7 (ah rfl v4 (ah rfl v5 ax))))))))
theorem KP(T:Tx K mg):bP P w K mg base (bf P w) 1 T.a_joined_block T.rz ["blocks","ends","within","number"] (bY K mg 4 (fM kU 6 4)):=dW rfl rfl T.mH KO fun{X} h1 h2 h3 h4 h5 B hF aH=>by subst h3 h4;exact ID T B hF aH
theorem M3:cF ["blocks","leads","ends","within","found","left","anew","joined"] ["blocks"] (af bv):=⟨rfl,rfl,rfl,nofun,rfl,nofun,nofun⟩
theorem Lh(T:Tx X.K X.mg)(B:Bd X ["blocks","leads","ends","within","found","left","anew","joined"] (dO (af bv) "ends") 6)(hF:dg X)(aH:X.env.scope=af bv)(gA:X.fn "ends"=false)(he:X.env.qual=("threaded":Str)++".<locals>."/\X.env.globals=Zo/\X.env.code=T.lc.code)(hc:∃c0,X.env.cells.lookup ("ends":Str)=some c0/\X.aA.heap.objs.size<=c0/\abq (gw bv).sc X.env=pure [(("ends":Str),c0)]):JB X ((a6 bv).drop 2) uV:=
 have v2 {p:Pos}:JE X (.Name "ends" p) (aa 2):=B.jv 2 rfl JQ px;have v4 {p:Pos}:JE X (.Name "found" p) (aa 4):=B.jv 4 rfl JV vP;have v5 {p:Pos}:JE X (.Name "left" p) (aa 5):=B.jv 5 rfl JY Rh;have v7 {p:Pos}:JE X (.Name "joined" p) (aa 7):=B.jv 7 rfl J0 Oi
 (aN (B.bB 3 rfl JU rfl (b7 rfl nofun (Ic T) cb (B.room.mono (by decide)) (B.gl _ GL) T.zI T.mE.kp T.kP (ah rfl v2 ax))) (aN (B.bB 4 rfl JX rfl (i0 rfl nofun nofun (A2 B.calm) Cf (B.gl _ Hf) T.vO boot_sorted (ah rfl (b7 rfl nofun (z9 T) cb (B.room.mono (by decide)) (B.gl _ GU) T.uT T.k5.kp T.jG (ah rfl (dt (ah rfl ap ax)) (ah rfl (Tu gA (by rw[B.hN];rfl) (by rw[aH];decide +kernel) hc.choose_spec T.uY ⟨he.1,he.2.1,he.2.2.trans T.An⟩ T.Ao T.Ap T.Aq T.Ar T.As u1.only rfl) ax))) ax))) (aN (mY (i:=5) (by rw[B.hN];exact B.nd) (by rw[B.hN];rfl) (by rw[aH];decide +kernel) B.calm (N':=["number","within"]) (Bd.cap B.hN aH nofun) (gh v4) (fU B T nofun nofun fun{X} B T=>(B.cN 0 rfl (.inl rfl))) (fV B T nofun nofun fun{X} B T=>(wI (bh (B.xo (by with_unfolding_all rfl)) (B.jv 0 rfl (.inl rfl) jK) (B.jv 1 rfl (.inr (.inr rfl)) vq)))) (fW B T nofun nofun fun{X} B T=>(B.jv 0 rfl (.inl rfl) jK)) (mQ (by rw[aH];rfl) (by rw[aH];decide +kernel) rfl nofun)) (aN (B.bB 6 rfl JZ rfl (nh rfl nofun nofun (Ob B.calm B.room.units) QW (B.gl _ HX) T.Dy PyProof.Rows.boot_dict (ah rfl (lw B.calm (N':=["place","number"]) (Bd.cap B.hN aH nofun) (Ca (B.gl _ GW) T.uZ rfl (ah rfl v5 ax)) (fU B T nofun nofun fun{X} B T=>(wH B.calm (mT (B.cN 0 rfl (.inl rfl)) (mT (B.cN 1 rfl (.inl rfl)) vY)))) (fV B T nofun nofun fun{X} B T=>ir) (fW B T nofun nofun fun{X} B T=>(c7 (ah rfl (B.jv 1 rfl (.inl rfl) jK) (ah rfl (B.jv 0 rfl (.inl rfl) PD) ax))))) ax))) (aN (mY (i:=7) (by rw[B.hN];exact B.nd) (by rw[B.hN];rfl) (by rw[aH];decide +kernel) B.calm (N':=["number","blocks","ends","within"]) (Bd.cap B.hN aH nofun) (gh v5) (fU B T nofun nofun fun{X} B T=>(B.cN 0 rfl (.inl rfl))) (fV B T nofun nofun fun{X} B T=>ir) (fW B T nofun nofun fun{X} B T=>(b7 rfl nofun (KP T) cb (B.room.mono (by decide)) (B.gl _ rfl) T.zW T.mH.kp T.kU (ah rfl (B.jv 1 rfl (.inr (.inr rfl)) oW) (ah rfl (B.jv 2 rfl (.inr (.inr rfl)) px) (ah rfl (B.jv 3 rfl (.inr (.inr rfl)) vq) (ah rfl (B.jv 0 rfl (.inl rfl) jK) ax)))))) (mQ (by rw[aH];rfl) (by rw[aH];decide +kernel) rfl nofun)) (aR (bK (lw B.calm (N':=["block","anew"]) (Bd.cap B.hN aH nofun) (gh v7) (fU B T nofun nofun fun{X} B T=>(B.cN 0 rfl (.inl rfl))) (fV B T nofun nofun fun{X} B T=>ir) (fW B T nofun nofun fun{X} B T=>(c7 (ah rfl (B.ag (B.jv 0 rfl (.inl rfl) lu) ap) (ah rfl (b7 rfl nofun (Aj T) cb (B.room.mono (by decide)) (B.gl _ rfl) T.uW T.k7.kp T.jH (ah rfl (B.ag (B.jv 0 rfl (.inl rfl) lu) ap) (ah rfl (B.jv 1 rfl (.inr (.inr rfl)) Ri) ax))) ax))))))))))))
theorem LR(T:Tx X.K X.mg)(B:Bd X ["blocks","leads","ends","within","found","left","anew","joined"] (af bv) 6)(hF:dg X)(aH:X.env.scope=af bv)(he:X.env.qual=("threaded":Str)++".<locals>."/\X.env.globals=Zo/\X.env.code=T.lc.code)(hc:∃c0,X.env.cells.lookup ("ends":Str)=some c0/\X.aA.heap.objs.size<=c0/\abq (gw bv).sc X.env=pure [(("ends":Str),c0)]):JR X (a6 bv) lb:=
 have v0 {p:Pos}:JE X (.Name "blocks" p) (aa 0):=B.jv 0 rfl K9 oW
 (CC (B.xq 1 rfl La (by rw[aH];decide +kernel) (lw B.calm (N':=["number","blocks"]) (Bd.cap B.hN aH nofun) (iV (B.gl _ IB) T.il rfl (ah rfl (i0 rfl nofun nofun lj lz (B.gl _ KG) T.j7 aba (ah rfl v0 ax)) ax)) (fU B T nofun nofun fun{X} B T=>(B.cN 0 rfl (.inl rfl))) (fV B T nofun nofun fun{X} B T=>ir) (fW B T nofun nofun fun{X} B T=>(b7 rfl nofun (OD T) cb (B.room.mono (by decide)) (B.gl _ rfl) T.BL T.mX.kp T.lr (ah rfl (B.jv 1 rfl (.inr (.inr rfl)) oW) (ah rfl (B.jv 0 rfl (.inl rfl) jK) ax)))))) (CC (B.xq 2 rfl Lb (by rw[aH];decide +kernel) (lw B.calm (N':=["block","leads"]) (Bd.cap B.hN aH nofun) (gh v0) (fU B T nofun nofun fun{X} B T=>(B.cN 0 rfl (.inl rfl))) (fV B T nofun nofun fun{X} B T=>ir) (fW B T nofun nofun fun{X} B T=>(b7 rfl nofun (Aj T) cb (B.room.mono (by decide)) (B.gl _ rfl) T.uW T.k7.kp T.jH (ah rfl (B.ag (B.jv 0 rfl (.inl rfl) lu) ap) (ah rfl (B.jv 1 rfl (.inr (.inr rfl)) PC) ax)))))) (Ra (n:="ends") (Lh (X:=lX X "ends") T (B.lX nofun) ⟨hF.st,hF.fr,hF.ex⟩ aH Rb he hc))))
theorem M4(T:Tx K mg):bP P w K mg base (bf P w) 7 T.a_threaded T.lc ["blocks"] (bY K mg 1 (fM lb 8 1)):=Rc (L:=gw bv) (cn:="ends") rfl rfl T.lg M3 (fun L0 _ _=>by refine⟨_,rfl,?_,rfl⟩;repeat (first | exact Zf _ | apply acG)) fun{X} h1 h2 h3 h4 h5 B hF aH he hc=>by subst h3 h4;exact LR T B hF aH he hc
theorem Tw:cF ["_law_script","_law_many","_law_boxes","_law_old","_law_cell","_law_inputs","_law_due","_law_new"] ["_law_script"] (af bZ):=⟨rfl,rfl,rfl,nofun,rfl,nofun,nofun⟩
theorem PL(T:Tx X.K X.mg)(B:Bd X ["_law_script","_law_many","_law_boxes","_law_old","_law_cell","_law_inputs","_law_due","_law_new"] (af bZ) 7)(hF:dg X)(aH:X.env.scope=af bZ):JB X (a6 bZ) nG:=
 have v0 {p:Pos}:JE X (.Name "_law_script" p) (aa 0):=B.jv 0 rfl Oj rJ;have v1 {p:Pos}:JE X (.Name "_law_many" p) (aa 1):=B.jv 1 rfl Ol rX;have v2 {p:Pos}:JE X (.Name "_law_boxes" p) (aa 2):=B.jv 2 rfl Oo mN;have v3 {p:Pos}:JE X (.Name "_law_old" p) (aa 3):=B.jv 3 rfl Ot Nz;have v4 {p:Pos}:JE X (.Name "_law_cell" p) (aa 4):=B.jv 4 rfl Ov rW;have v5 {p:Pos}:JE X (.Name "_law_inputs" p) (aa 5):=B.jv 5 rfl Ox z7;have v6 {p:Pos}:JE X (.Name "_law_due" p) (aa 6):=B.jv 6 rfl Oy NA;have v7 {p:Pos}:JE X (.Name "_law_new" p) (aa 7):=B.jv 7 rfl OA NC
 (aN (B.bB 1 rfl Om rfl (dX ap (cc (b7 rfl nofun (mI T) cb (B.room.mono (by decide)) (B.gl _ qO) T.kX T.gJ.kp T.gf (ah rfl v0 (ah rfl ap ax))) ap))) (aN (B.bB 2 rfl Oq rfl (dX ap (cc (b7 rfl nofun (mI T) cb (B.room.mono (by decide)) (B.gl _ qO) T.kX T.gJ.kp T.gf (ah rfl v0 (ah rfl ap ax))) ap))) (aN (B.bB 3 rfl Ou rfl (b7 rfl nofun (J5 T) cb (B.room.mono (by decide)) (B.gl _ Hg) T.zT T.mG.kp T.kR (ah rfl v0 (ah rfl ap (ah rfl v1 (ah rfl v2 (ah rfl (dX ap (cc (dr (b7 rfl nofun (mI T) cb (B.room.mono (by decide)) (B.gl _ qO) T.kX T.gJ.kp T.gf (ah rfl v0 (ah rfl ap ax))) ap) ap)) ax))))))) (aN (B.bB 4 rfl Ow rfl (b7 rfl nofun (mI T) cb (B.room.mono (by decide)) (B.gl _ qO) T.kX T.gJ.kp T.gf (ah rfl v0 (ah rfl ap ax)))) (aN (mY (i:=5) (by rw[B.hN];exact B.nd) (by rw[B.hN];rfl) (by rw[aH];decide +kernel) B.calm (N':=["_law_k","_law_script"]) (Bd.cap B.hN aH nofun) (iV (B.gl _ My) T.il rfl (ah rfl (cc v4 ap) ax)) (fU B T nofun nofun fun{X} B T=>(B.cN 0 rfl (.inl rfl))) (fV B T nofun nofun fun{X} B T=>ir) (fW B T nofun nofun fun{X} B T=>(b7 rfl nofun (zO T) cb (B.room.mono (by decide)) (B.gl _ rfl) T.uN T.kS.kp T.jD (ah rfl (b7 rfl nofun (mI T) cb (B.room.mono (by decide)) (B.gl _ rfl) T.kX T.gJ.kp T.gf (ah rfl (B.jv 1 rfl (.inr (.inr rfl)) rJ) (ah rfl (dX ap (B.jv 0 rfl (.inl rfl) gL)) ax))) ax))) (mQ (by rw[aH];rfl) (by rw[aH];decide +kernel) rfl nofun)) (aN (B.bB 6 rfl Oz rfl (b7 rfl nofun (zP T) cb (B.room.mono (by decide)) (B.gl _ zC) T.uO T.kT.kp T.jE (ah rfl v3 (ah rfl v5 (ah rfl (cc (dr v4 ap) ap) ax))))) (aN (B.bB 7 rfl OB rfl (b7 rfl nofun (M4 T) cb (B.room.mono (by decide)) (B.gl _ KH) T.AG T.lg.kp T.lb (ah rfl (lw B.calm (N':=["_law_rows","_law_end"]) (Bd.cap B.hN aH nofun) (gh v3) (fU B T nofun nofun fun{X} B T=>(wH B.calm (mT (B.cN 0 rfl (.inl rfl)) (mT (B.cN 1 rfl (.inl rfl)) vY)))) (fV B T nofun nofun fun{X} B T=>ir) (fW B T nofun nofun fun{X} B T=>(c7 (ah rfl (nh rfl nofun nofun (AD B.calm) Ce (B.gl _ rfl) T.wN acZ (ah rfl (B.jv 0 rfl (.inl rfl) Ax) ax)) (ah rfl (B.jv 1 rfl (.inl rfl) AJ) ax))))) ax))) (aR (bK (lB B.eq (b7 rfl nofun (zP T) cb (B.room.mono (by decide)) (B.gl _ zC) T.uO T.kT.kp T.jE (ah rfl v7 (ah rfl v5 (ah rfl (cc (dr v4 ap) ap) ax)))) v6))))))))))
theorem Tz(T:Tx K mg):bP P w K mg base (bf P w) 8 T.a_law T.tu ["_law_script"] (bY K mg 1 (fM nG 8 1)):=dW rfl rfl T.pO Tw fun{X} h1 h2 h3 h4 h5 B hF aH=>by subst h3 h4;exact PL T B hF aH
end
theorem all_mk{l:adl}{w:World}{K:Zc}{h:Heap}{mg:Str->Option Value}{fa:Addr}(KX:K.In h)(G:h.Ns Zo mg)(XN:mg "law"=some (.ref fa))
  {rB:Addr} {Li Lj:Option Addr} {Lk:Array (Option Value)} {Ll Lm Ln Lo zY Lp:Value}
  {qU:Addr} {J8 J9:Option Addr} {Ka:Array (Option Value)} {Kb Kc Kd Ke zQ Kf:Value}
  {rK:Addr} {LS LU:Option Addr} {LV:Array (Option Value)} {LW LX LY LZ Aa L1:Value}
  {rC:Addr} {Lq Lr:Option Addr} {Ls:Array (Option Value)} {Lu Lv Lw Lx zZ Ly:Value}
  {rL:Addr} {L3 L4:Option Addr} {L5:Array (Option Value)} {L6 L7 L8 L9 Ab Ma:Value}
  {qV:Addr} {Kg Kh:Option Addr} {Ki:Array (Option Value)} {Kj Kk Kl Km zR Kn:Value}
  {se:Addr} {NF NG:Option Addr} {NH:Array (Option Value)} {NI NJ NK NL AL NM:Value}
  {rY:Addr} {M5 M6:Option Addr} {M7:Array (Option Value)} {M8 M9 Na Nb Ay Nc:Value}
  {rE:Addr} {Lz LA:Option Addr} {LB:Array (Option Value)} {LC LD LF LG z4 LH:Value}
  {qW:Addr} {Ko Kp:Option Addr} {Kq:Array (Option Value)} {Kr Ks Kt Ku zS Kv:Value}
  {sk:Addr} {OG OH:Option Addr} {OI:Array (Option Value)} {OJ OL ON OO Bh OP:Value}
  {rS:Addr} {MB MC:Option Addr} {MD:Array (Option Value)} {ME MF MG MH Ak MI:Value}
  {qS:Addr} {IF IH:Option Addr} {IJ:Array (Option Value)} {IK IP IQ IR zK IU:Value}
  {rM:Addr} {Mb Mc:Option Addr} {Md:Array (Option Value)} {Me Mf Mg Mh Ac Mi:Value}
  {sr:Addr} {OQ OR:Option Addr} {OS:Array (Option Value)} {OT OU OV OW vv OX:Value}
  {sJ:Addr} {PM PN:Option Addr} {PP:Array (Option Value)} {PQ PR PU PV BO PX:Value}
  {qP:Addr} {Ie Ig:Option Addr} {Ih:Array (Option Value)} {Ii Ij Ik Il zH Im:Value}
  {rm:Addr} {KQ KR:Option Addr} {KS:Array (Option Value)} {KU KW KY KZ zU K0:Value}
  {rZ:Addr} {Nf Ng:Option Addr} {Nh:Array (Option Value)} {Ni Nj Nk Nl u4 Nm:Value}
  {wO:Addr} {TB Dz:Option Addr} {TC:Array (Option Value)} {TF DA DC DD wQ DE:Value}
  {oX lp:Addr} {vw:Obj}
  {oR k8:Addr} {u5:Obj}
  (a_law_cell_at:Zy K Zo "_law_cell_at"=some (some (.ref rB)))
  (l_law_cell_at:K.lookup rB=some ⟨Ll,Li,.func (ZC "_law_cell_at" "_law_cell_at" (cL gc) (a6 gc) (af gc) .none Lm Ln Lo Lj zY Lp),Lk⟩)
  (c_law_cell_at:ZA K zY "_law_cell_at"=true)
  (k_law_cell_at:Zx K (.ref rB)=true)
  (a_law_number_by:Zy K Zo "_law_number_by"=some (some (.ref qU)))
  (l_law_number_by:K.lookup qU=some ⟨Kb,J8,.func (ZC "_law_number_by" "_law_number_by" (cL ie) (a6 ie) (af ie) .none Kc Kd Ke J9 zQ Kf),Ka⟩)
  (c_law_number_by:ZA K zQ "_law_number_by"=true)
  (k_law_number_by:Zx K (.ref qU)=true)
  (a_law_row_by:Zy K Zo "_law_row_by"=some (some (.ref rK)))
  (l_law_row_by:K.lookup rK=some ⟨LW,LS,.func (ZC "_law_row_by" "_law_row_by" (cL cE) (a6 cE) (af cE) .none LX LY LZ LU Aa L1),LV⟩)
  (c_law_row_by:ZA K Aa "_law_row_by"=true)
  (k_law_row_by:Zx K (.ref rK)=true)
  (a_law_goal_by:Zy K Zo "_law_goal_by"=some (some (.ref rC)))
  (l_law_goal_by:K.lookup rC=some ⟨Lu,Lq,.func (ZC "_law_goal_by" "_law_goal_by" (cL fk) (a6 fk) (af fk) .none Lv Lw Lx Lr zZ Ly),Ls⟩)
  (c_law_goal_by:ZA K zZ "_law_goal_by"=true)
  (k_law_goal_by:Zx K (.ref rC)=true)
  (a_law_end_by:Zy K Zo "_law_end_by"=some (some (.ref rL)))
  (l_law_end_by:K.lookup rL=some ⟨L6,L3,.func (ZC "_law_end_by" "_law_end_by" (cL dn) (a6 dn) (af dn) .none L7 L8 L9 L4 Ab Ma),L5⟩)
  (c_law_end_by:ZA K Ab "_law_end_by"=true)
  (k_law_end_by:Zx K (.ref rL)=true)
  (a_law_blocks_by:Zy K Zo "_law_blocks_by"=some (some (.ref qV)))
  (l_law_blocks_by:K.lookup qV=some ⟨Kj,Kg,.func (ZC "_law_blocks_by" "_law_blocks_by" (cL cD) (a6 cD) (af cD) .none Kk Kl Km Kh zR Kn),Ki⟩)
  (c_law_blocks_by:ZA K zR "_law_blocks_by"=true)
  (k_law_blocks_by:Zx K (.ref qV)=true)
  (a_law_fit:Zy K Zo "_law_fit"=some (some (.ref se)))
  (l_law_fit:K.lookup se=some ⟨NI,NF,.func (ZC "_law_fit" "_law_fit" (cL ik) (a6 ik) (af ik) .none NJ NK NL NG AL NM),NH⟩)
  (c_law_fit:ZA K AL "_law_fit"=true)
  (k_law_fit:Zx K (.ref se)=true)
  (a_law_deed:Zy K Zo "_law_deed"=some (some (.ref rY)))
  (l_law_deed:K.lookup rY=some ⟨M8,M5,.func (ZC "_law_deed" "_law_deed" (cL fq) (a6 fq) (af fq) .none M9 Na Nb M6 Ay Nc),M7⟩)
  (c_law_deed:ZA K Ay "_law_deed"=true)
  (k_law_deed:Zx K (.ref rY)=true)
  (a_law_box_row:Zy K Zo "_law_box_row"=some (some (.ref rE)))
  (l_law_box_row:K.lookup rE=some ⟨LC,Lz,.func (ZC "_law_box_row" "_law_box_row" (cL fK) (a6 fK) (af fK) .none LD LF LG LA z4 LH),LB⟩)
  (c_law_box_row:ZA K z4 "_law_box_row"=true)
  (k_law_box_row:Zx K (.ref rE)=true)
  (a_law_boxed_run:Zy K Zo "_law_boxed_run"=some (some (.ref qW)))
  (l_law_boxed_run:K.lookup qW=some ⟨Kr,Ko,.func (ZC "_law_boxed_run" "_law_boxed_run" (cL bW) (a6 bW) (af bW) .none Ks Kt Ku Kp zS Kv),Kq⟩)
  (c_law_boxed_run:ZA K zS "_law_boxed_run"=true)
  (k_law_boxed_run:Zx K (.ref qW)=true)
  (a_led_on:Zy K Zo "led_on"=some (some (.ref sk)))
  (l_led_on:K.lookup sk=some ⟨OJ,OG,.func (ZC "led_on" "led_on" (cL dR) (a6 dR) (af dR) .none OL ON OO OH Bh OP),OI⟩)
  (c_led_on:ZA K Bh "led_on"=true)
  (k_led_on:Zx K (.ref sk)=true)
  (a_with_ways:Zy K Zo "with_ways"=some (some (.ref rS)))
  (l_with_ways:K.lookup rS=some ⟨ME,MB,.func (ZC "with_ways" "with_ways" (cL gK) (a6 gK) (af gK) .none MF MG MH MC Ak MI),MD⟩)
  (c_with_ways:ZA K Ak "with_ways"=true)
  (k_with_ways:Zx K (.ref rS)=true)
  (a_further_blocks:Zy K Zo "further_blocks"=some (some (.ref qS)))
  (l_further_blocks:K.lookup qS=some ⟨IK,IF,.func (ZC "further_blocks" "further_blocks" (cL ic) (a6 ic) (af ic) .none IP IQ IR IH zK IU),IJ⟩)
  (c_further_blocks:ZA K zK "further_blocks"=true)
  (k_further_blocks:Zx K (.ref qS)=true)
  (a_found_from:Zy K Zo "found_from"=some (some (.ref rM)))
  (l_found_from:K.lookup rM=some ⟨Me,Mb,.func (ZC "found_from" "found_from" (cL c3) (a6 c3) (af c3) .none Mf Mg Mh Mc Ac Mi),Md⟩)
  (c_found_from:ZA K Ac "found_from"=true)
  (k_found_from:Zx K (.ref rM)=true)
  (a_aheads:Zy K Zo "aheads"=some (some (.ref sr)))
  (l_aheads:K.lookup sr=some ⟨OT,OQ,.func (ZC "aheads" "aheads" (cL gg) (a6 gg) (af gg) .none OU OV OW OR vv OX),OS⟩)
  (c_aheads:ZA K vv "aheads"=true)
  (k_aheads:Zx K (.ref sr)=true)
  (a_comes:Zy K Zo "comes"=some (some (.ref sJ)))
  (l_comes:K.lookup sJ=some ⟨PQ,PM,.func (ZC "comes" "comes" (cL d9) (a6 d9) (af d9) .none PR PU PV PN BO PX),PP⟩)
  (c_comes:ZA K BO "comes"=true)
  (k_comes:Zx K (.ref sJ)=true)
  (a_standing_within:Zy K Zo "standing_within"=some (some (.ref qP)))
  (l_standing_within:K.lookup qP=some ⟨Ii,Ie,.func (ZC "standing_within" "standing_within" (cL dF) (a6 dF) (af dF) .none Ij Ik Il Ig zH Im),Ih⟩)
  (c_standing_within:ZA K zH "standing_within"=true)
  (k_standing_within:Zx K (.ref qP)=true)
  (a_joined_block:Zy K Zo "joined_block"=some (some (.ref rm)))
  (l_joined_block:K.lookup rm=some ⟨KU,KQ,.func (ZC "joined_block" "joined_block" (cL dQ) (a6 dQ) (af dQ) .none KW KY KZ KR zU K0),KS⟩)
  (c_joined_block:ZA K zU "joined_block"=true)
  (k_joined_block:Zx K (.ref rm)=true)
  (a_threaded:Zy K Zo "threaded"=some (some (.ref rZ)))
  (l_threaded:K.lookup rZ=some ⟨Ni,Nf,.func (ZC "threaded" "threaded" (cL bv) (a6 bv) (af bv) .none Nj Nk Nl Ng u4 Nm),Nh⟩)
  (c_threaded:ZA K u4 "threaded"=true)
  (k_threaded:Zx K (.ref rZ)=true)
  (a_law:Zy K Zo "law"=some (some (.ref wO)))
  (l_law:K.lookup wO=some ⟨TF,TB,.func (ZC "law" "law" (cL bZ) (a6 bZ) (af bZ) .none DA DC DD Dz wQ DE),TC⟩)
  (c_law:ZA K wQ "law"=true)
  (k_law:Zx K (.ref wO)=true)
  (w1_aheads:vv=.ref oX) (w2_aheads:K.lookup oX=some vw) (w3_aheads:gM vw=some lp) (w4_aheads:(oX==lp)=false)
  (w1_threaded:u4=.ref oR) (w2_threaded:K.lookup oR=some u5) (w3_threaded:gM u5=some k8) (w4_threaded:(oR==k8)=false)
  (w5_aheads:dh K=[(("aheads":Str),oX,lp),(("threaded":Str),oR,k8)])
  (w6:(lp==k8)=false)
  (z_dict:Zy K Zo "dict"=some none)
  (z_enumerate:Zy K Zo "enumerate"=some none)
  (z_int:Zy K Zo "int"=some none)
  (z_len:Zy K Zo "len"=some none)
  (z_list:Zy K Zo "list"=some none)
  (z_range:Zy K Zo "range"=some none)
  (z_sorted:Zy K Zo "sorted"=some none)
  : ∃fd:ZW,(∀(s:Zh) (v:Value),BindsTo s fd ⟨[v],[]⟩ [("_law_script",v)])/\∀base:Heap,K.In base->base.Ns Zo mg->bP l.prog w K mg base (bf l.prog w) 8 fa fd ["_law_script"] (bY K mg 1 pN):=by
 have e:=XN.symm.trans (ZR KX G a_law);cases e;have gJ:=dq (st:=gc) l_law_cell_at c_law_cell_at k_law_cell_at;have kS:=dq (st:=ie) l_law_number_by c_law_number_by k_law_number_by;have mL:=dq (st:=cE) l_law_row_by c_law_row_by k_law_row_by;have kY:=dq (st:=fk) l_law_goal_by c_law_goal_by k_law_goal_by;have mM:=dq (st:=dn) l_law_end_by c_law_end_by k_law_end_by;have mG:=dq (st:=cD) l_law_blocks_by c_law_blocks_by k_law_blocks_by;have lm:=dq (st:=ik) l_law_fit c_law_fit k_law_fit;have mO:=dq (st:=fq) l_law_deed c_law_deed k_law_deed;have mK:=dq (st:=fK) l_law_box_row c_law_box_row k_law_box_row;have kT:=dq (st:=bW) l_law_boxed_run c_law_boxed_run k_law_boxed_run;have mX:=dq (st:=dR) l_led_on c_led_on k_led_on;have k7:=dq (st:=gK) l_with_ways c_with_ways k_with_ways;have kQ:=dq (st:=ic) l_further_blocks c_further_blocks k_further_blocks;have k5:=dq (st:=c3) l_found_from c_found_from k_found_from;have ls:=dq (st:=gg) l_aheads c_aheads k_aheads;have m8:=dq (st:=d9) l_comes c_comes k_comes;have mE:=dq (st:=dF) l_standing_within c_standing_within k_standing_within;have mH:=dq (st:=dQ) l_joined_block c_joined_block k_joined_block;have lg:=dq (st:=bv) l_threaded c_threaded k_threaded;have pO:=dq (st:=bZ) l_law c_law k_law
 let T:Tx K mg:={
  a_law_cell_at:=rB,rF:=_,gJ:=gJ,kX:=ZR KX G a_law_cell_at,gf:=gJ.binds (ps:=["_law_script","_law_k"]) (fun _ _ _ _ _ _ us hl=>by obtain⟨_,_,rfl⟩:=qb us hl;rfl),
  a_law_number_by:=qU,qZ:=_,kS:=kS,uN:=ZR KX G a_law_number_by,jD:=kS.binds (ps:=["_law_cell"]) (fun _ _ _ _ _ _ us hl=>by obtain⟨_,rfl⟩:=ji us hl;rfl),
  a_law_row_by:=rK,rN:=_,mL:=mL,Af:=ZR KX G a_law_row_by,kZ:=mL.binds (ps:=["_law_cell","_law_boxes","_law_slots"]) (fun _ _ _ _ _ _ us hl=>by obtain⟨_,_,_,rfl⟩:=qc us hl;rfl),
  a_law_goal_by:=rC,rG:=_,kY:=kY,uP:=ZR KX G a_law_goal_by,jF:=kY.binds (ps:=["_law_more","_law_block","_law_many","_law_turning"]) (fun _ _ _ _ _ _ us hl=>by obtain⟨_,_,_,_,rfl⟩:=xY us hl;rfl),
  a_law_end_by:=rL,rO:=_,mM:=mM,Ag:=ZR KX G a_law_end_by,k4:=mM.binds (ps:=["_law_cell","_law_block","_law_many","_law_turning","_law_boxes"]) (fun _ _ _ _ _ _ us hl=>by obtain⟨_,_,_,_,_,rfl⟩:=Fw us hl;rfl),
  a_law_blocks_by:=qV,rg:=_,mG:=mG,zT:=ZR KX G a_law_blocks_by,kR:=mG.binds (ps:=["_law_script","_law_first","_law_many","_law_boxes","_law_slots"]) (fun _ _ _ _ _ _ us hl=>by obtain⟨_,_,_,_,_,rfl⟩:=Fw us hl;rfl),
  a_law_fit:=se,sj:=_,lm:=lm,vm:=ZR KX G a_law_fit,jJ:=lm.binds (ps:=["_law_number"]) (fun _ _ _ _ _ _ us hl=>by obtain⟨_,rfl⟩:=ji us hl;rfl),
  a_law_deed:=rY,sd:=_,mO:=mO,AF:=ZR KX G a_law_deed,la:=mO.binds (ps:=["_law_word","_law_one","_law_other"]) (fun _ _ _ _ _ _ us hl=>by obtain⟨_,_,_,rfl⟩:=qc us hl;rfl),
  a_law_box_row:=rE,rH:=_,mK:=mK,z5:=ZR KX G a_law_box_row,kW:=mK.binds (ps:=["_law_row","_law_boxes","_law_slots"]) (fun _ _ _ _ _ _ us hl=>by obtain⟨_,_,_,rfl⟩:=qc us hl;rfl),
  a_law_boxed_run:=qW,rh:=_,kT:=kT,uO:=ZR KX G a_law_boxed_run,jE:=kT.binds (ps:=["_law_blocks","_law_inputs","_law_turns"]) (fun _ _ _ _ _ _ us hl=>by obtain⟨_,_,_,rfl⟩:=qc us hl;rfl),
  a_led_on:=sk,sI:=_,mX:=mX,BL:=ZR KX G a_led_on,lr:=mX.binds (ps:=["blocks","number"]) (fun _ _ _ _ _ _ us hl=>by obtain⟨_,_,rfl⟩:=qb us hl;rfl),
  a_with_ways:=rS,rV:=_,k7:=k7,uW:=ZR KX G a_with_ways,jH:=k7.binds (ps:=["end","told"]) (fun _ _ _ _ _ _ us hl=>by obtain⟨_,_,rfl⟩:=qb us hl;rfl),
  a_further_blocks:=qS,qT:=_,kQ:=kQ,uK:=ZR KX G a_further_blocks,jC:=kQ.binds (ps:=["end"]) (fun _ _ _ _ _ _ us hl=>by obtain⟨_,rfl⟩:=ji us hl;rfl),
  a_found_from:=rM,rP:=_,k5:=k5,uT:=ZR KX G a_found_from,jG:=k5.binds (ps:=["starts","further"]) (fun _ _ _ _ _ _ us hl=>by obtain⟨_,_,rfl⟩:=qb us hl;rfl),
  a_aheads:=sr,pf:=_,ls:=ls,BM:=ZR KX G a_aheads,BN:=ls.binds (ps:=["ways"]) (fun _ _ _ _ _ _ us hl=>by obtain⟨_,rfl⟩:=ji us hl;rfl),
  a_comes:=sJ,sR:=_,m8:=m8,CD:=ZR KX G a_comes,ly:=m8.binds (ps:=["ways"]) (fun _ _ _ _ _ _ us hl=>by obtain⟨_,rfl⟩:=ji us hl;rfl),
  a_standing_within:=qP,qR:=_,mE:=mE,zI:=ZR KX G a_standing_within,kP:=mE.binds (ps:=["ends"]) (fun _ _ _ _ _ _ us hl=>by obtain⟨_,rfl⟩:=ji us hl;rfl),
  a_joined_block:=rm,rz:=_,mH:=mH,zW:=ZR KX G a_joined_block,kU:=mH.binds (ps:=["blocks","ends","within","number"]) (fun _ _ _ _ _ _ us hl=>by obtain⟨_,_,_,_,rfl⟩:=xY us hl;rfl),
  a_threaded:=rZ,lc:=_,lg:=lg,AG:=ZR KX G a_threaded,lb:=lg.binds (ps:=["blocks"]) (fun _ _ _ _ _ _ us hl=>by obtain⟨_,rfl⟩:=ji us hl;rfl),
  a_law:=fa,tu:=_,pO:=pO,U6:=ZR KX G a_law,nG:=pO.binds (ps:=["_law_script"]) (fun _ _ _ _ _ _ us hl=>by obtain⟨_,rfl⟩:=ji us hl;rfl),
  oU:=oX,oV:=lp,vn:=vw,A8:=w1_aheads,A9:=w2_aheads,Bb:=w3_aheads,Bc:=(fun z=>absurd (z▸w4_aheads:(lp==lp)=false) (by simp)),
  Be:=(by rw[w5_aheads];exact aaj),Bg:=(fun p hp e=>by rw[w5_aheads] at hp;exact(ZK.mp hp).elim (fun z=>by rw[z]) (fun z=>by rw[ZQ.mp z] at e;exact absurd ((beq_iff_eq ..).mpr e.symm) (by rw[w6];exact ZG))),
  vp:=((BD ls a_aheads).trans rfl),
  oP:=oR,oQ:=k8,uX:=u5,An:=w1_threaded,Ao:=w2_threaded,Ap:=w3_threaded,Aq:=(fun z=>absurd (z▸w4_threaded:(k8==k8)=false) (by simp)),
  Ar:=(by rw[w5_aheads];exact ZD _ aaj),As:=(fun p hp e=>by rw[w5_aheads] at hp;exact(ZK.mp hp).elim (fun z=>by rw[z] at e;exact absurd ((beq_iff_eq ..).mpr e) (by rw[w6];exact ZG)) (fun z=>by rw[ZQ.mp z])),
  uY:=((BD lg a_threaded).trans rfl),
  Dy:=aaD KX G z_dict,
  uZ:=aaD KX G z_enumerate,
  tv:=aaD KX G z_int,
  j7:=aaD KX G z_len,
  wN:=aaD KX G z_list,
  il:=aaD KX G z_range,
  vO:=aaD KX G z_sorted }
 exact⟨ZC "law" "law" (cL bZ) (a6 bZ) (af bZ) .none DA DC DD Dz wQ DE,fun s v=>.of_eq rfl,fun base _ _=>Tz T⟩
theorem PY{l:adl}{q:aah}{loose:List Str}{XP:(Str->Option Value)->Heap->Prop}{YP:World->Heap->Prop}{d:DefRec}{K:Params->Zc}(good:∀ns:List Int,ns.length<=63->∃ph',pN [.fl (ns.map W.int)] []=.ok (.bl true) ph')(hn:l.most=some 63)(qh:d.params.defaults=[])
  (hY:∀(w:World) (h:Heap),YP w h->(K w.params).In h) (hK:∀w:World,adD (K w.params)=true) (hT:∀(w:World) (h:Heap),YP w h->∀p∈dh (K w.params),abz h p.2.1 p.2.2/\h.get? p.2.2=some (aaJ #[]))
  (F:∀(w:World) (mg:Str->Option Value) (fa:Addr) (h:Heap),(K w.params).In h->h.Ns Zo mg->mg d.name=some (.ref fa)->∃fd:ZW,(∀(s:Zh) (u:Value),BindsTo s fd ⟨[u],[]⟩ [("_law_script",u)])/\∀base:Heap,(K w.params).In base->base.Ns Zo mg->bP l.prog w (K w.params) mg base (bf l.prog w) 8 fa fd ["_law_script"] (bY (K w.params) mg 1 pN)) :
  PySem.W.WalkO q loose XP YP l.row.toRowW d [] (fun f vs=>PySem.call f vs):=QO 8 good hn qh ⟨rfl,by decide,by decide⟩ hY hK hT F
open PySem L2
variable{α β:Type}{ph ph':PH}
theorem aw{m:Mo α}{f:α->Mo β}{a:α}{r:Out β}(h:m ph=.ok a ph')(k:f a ph'=r):aq m f ph=r:=by
 unfold aq;rw[h];exact k
variable{j:Nat}
theorem bR{l:List α}(h:j<l.length):∃x,l[j]? =some x:=⟨l[j],aaE h⟩
theorem nr{a b:Int}(h1: -(2 ^ 64)<b)(h2:b<2 ^ 64):mulC a b=true:=by
 unfold mulC;rw[decide_eq_true h1,decide_eq_true h2];simp
theorem wR{a b:Int}(h1: -(2 ^ 64)<a)(h2:a<2 ^ 64):mulC a b=true:=by
 unfold mulC;rw[decide_eq_true h1,decide_eq_true h2];simp
theorem Ex.set{a b:PH}(h:Ex a b){i:Nat}(hi:a.length<=i)(o:PO):Ex a (b.set i o):=by
 obtain⟨m,rfl⟩:=h;exact⟨m.set (i-a.length) o,by rw[adm _ _ hi]⟩
variable{i:Nat}
theorem dj{o:PO}(h:i≠j):(ph.set i o)[j]? =ph[j]? :=aas h
theorem fO{o o':PO}(h:ph[i]? =some o):(ph.set i o')[i]? =some o':=aad (Zb.mp h).1
theorem j8{o:PO}(h:ph[i]? =some o):i<ph.length:=(Zb.mp h).1
variable{im:IM}{σ:aK}{ph1:PH}{chk:PH->Bool}{r:Out Fl}
theorem fN{g:GM}{b:SM}{items:List W}(h:im σ ph=.ok (items,chk) ph1)(h2:cS chk g b items σ ph1=r):d3 im g b σ ph=r:=by
 unfold d3;refine aw h ?_;exact h2
variable{σ1:aK}
theorem kj{a b:SM}{k:Fl->Mo W}{P:Out W->Prop}(h:a σ ph=.ok (.nx σ1) ph1)(h2:P (aq (b σ1) k ph1)):P (aq (aC a b σ) k ph):=by
 have e:aq (aC a b σ) k ph=aq (b σ1) k ph1:=by
  rw[m5,dG,aW h]
 rw[e];exact h2
def iw(l:List Nat):List W:=l.map fun x:Nat=>W.int x
theorem gP(l:List Nat):(iw l).length=l.length:=by simp[iw]
theorem DF(l m:List Nat):iw (l++m)=iw l++iw m:=by simp[iw]
variable{l:List Nat}
theorem wU{w:W}(h:(iw l)[j]? =some w):∃x,l[j]? =some x/\w=.int x:=by
 unfold iw at h;rw[Ze] at h;obtain⟨x,e,rfl⟩:=Zn.mp h;exact⟨x,e,rfl⟩
theorem EA{x:Nat}(h:l[j]? =some x):b9 (iw l) (j:Int)=some (.int x):=by
 have:=(Zb.mp h).1;rw[eR _ _ (by rw[gP];exact this)];unfold iw;rw[Ze,h];rfl
def Wy(ph:PH)(i:Nat)(G:List (List Nat)):Prop:=∃rs:List Nat,ph[i]? =some (.lst (rs.map W.ref))/\rs.length=G.length/\∀(k r:Nat) g,rs[k]? =some r->G[k]? =some g->ph[r]? =some (.lst (iw g))
variable{G:List (List Nat)}
theorem Wy.mono(h:Wy ph i G)(x:Ex ph ph'):Wy ph' i G:=by
 obtain⟨rs,h1,h2,h3⟩:=h;exact⟨rs,x.get h1,h2,fun k r g a b=>x.get (h3 k r g a b)⟩
structure Ok(G:List (List Nat)):Prop where
 pos:0<G.length
 top:G.length<=61
 lt:∀g∈G,∀x∈g,x<G.length
 XO:∀g∈G,g.length<=3
theorem Rj(ns:List Int)(k:Nat)(ph:PH):eQ [.fl (ns.map W.int),.int k] ph=.ok (.int (ns.getD k 0)) ph:=by
 unfold eQ gf
 push_cast [V3]
 by_cases h:k<ns.length
 ·have e:b9 (ns.map W.int) (k:Int)=some (.int (ns.getD k 0)):=by
   rw[eR _ _ (by simpa using h)];simp[h]
  rw[XM e];simp[h,au,dA,aq]
 ·have e:ns.getD k 0=0:=by simp[Nat.le_of_not_lt h]
  simp[h,au,dA,aq,e]
theorem U7(ns:List Int)(k:Nat):eQ [.fl (ns.map W.int),.int k]=au (.int (ns.getD k 0)):=funext fun ph=>Rj ns k ph
structure Nd where
 k:Nat
 p:Option Nat
 d:Nat
def pw:Option Nat->W
 | none=>.aG
 | some q=>.int q
def cK(L:List Nd):List (W×W):=L.map fun x=>(W.int x.k,pw x.p)
abbrev ks(L:List Nd):List Nat:=L.map (·.k)
theorem Gk(L:List Nd)(k:Int):cQ (cK L) (.int k)=true:=by
 unfold cQ cK;rw[aaN]
 left
 simp[nS,iR]
theorem Rk(L:List Nd)(k:Nat):c4 (cK L) (.int k)=(L.find? fun y=>decide (y.k=k)).map fun y=>pw y.p:=by
 unfold c4 cK;rw[List.find?_map];rw[Option.map_map];have:((fun p:W×W=>decide (p.1=W.int k))∘fun x:Nd=>(W.int x.k,pw x.p))=fun y:Nd=>decide (y.k=k):=by
  funext y
  simp only[abM];by_cases h:y.k=k
  ·simp[h]
  ·have h2:¬W.int y.k=W.int k:=fun z=>h (by have:=W.int.inj z;omega)
   simp[h,h2]
 rw[this];rfl
theorem U8(L:List Nd)(k:Nat):(c4 (cK L) (.int k)).isSome=decide (k∈ks L):=by
 rw[Rk,abp];by_cases h:k∈ks L
 ·obtain⟨x,hx,rfl⟩:=ZO.mp h;rw[decide_eq_true h,List.find?_isSome];exact⟨x,hx,by simp⟩
 ·rw[decide_eq_false h];cases e:L.find? (fun y=>decide (y.k=k)) with
  | none=>rfl
  | some x=>
   have h1:=List.find?_some e;have h2:=acy e;exact absurd (ZO.mpr ⟨x,h2,by simpa using h1⟩) h
theorem TH(L:List Nd)(x:Nd)(h:x.k∉ks L):dw (cK L) (.int x.k) (pw x.p)=cK (L++[x]):=by
 unfold dw;have:((cK L).any fun q=>decide (q.1=W.int x.k))=false:=by
  rw[List.any_eq_false];intro q hq;unfold cK at hq;obtain⟨r,hr,rfl⟩:=ZO.mp hq;rw[decide_eq_true_eq];intro z;have:=W.int.inj z;exact h (ZO.mpr ⟨r,hr,by omega⟩)
 rw[this];unfold cK;simp
structure Ba(G:List (List Nat))(L:List Nd):Prop where
 zero:L[0]? =some ⟨0,none,0⟩
 nd:(ks L).Nodup
 lt:∀x∈L,x.k<G.length
 iJ:∀(i:Nat) (x:Nd),L[i]? =some x->i≠0->∃j y g,j<i/\L[j]? =some y/\x.p=some y.k/\x.d=y.d+1/\G[y.k]? =some g/\x.k∈g
 mono:∀(i j:Nat) (x y:Nd),i<=j->L[i]? =some x->L[j]? =some y->x.d<=y.d
structure Bf(G:List (List Nat))(L:List Nd)(c:Nat):Prop extends Ba G L where
 bound:∀t,L[c]? =some t->∀x∈L,x.d<=t.d+1
 closed:∀j y g,j<c->L[j]? =some y->G[y.k]? =some g->∀o∈g,∃x∈L,x.k=o/\x.d<=y.d+1
structure Bi(G:List (List Nat))(L:List Nd)(c:Nat)(t:Nd)(g:List Nat)(m:Nat):Prop extends Ba G L where
 at_:L[c]? =some t
 hg:G[t.k]? =some g
 bound:∀x∈L,x.d<=t.d+1
 closed:∀j y g,j<c->L[j]? =some y->G[y.k]? =some g->∀o∈g,∃x∈L,x.k=o/\x.d<=y.d+1
 part:∀o∈g.take m,o∈ks L
theorem Bf.start(G:List (List Nat))(h:0<G.length):Bf G [⟨0,none,0⟩] 0:=by
 have one:∀{i:Nat} {x:Nd},[(⟨0,none,0⟩:Nd)][i]? =some x->i=0/\x=⟨0,none,0⟩:=fun{i x} e=>by
  cases i with
  | zero=>cases e;exact⟨rfl,rfl⟩
  | succ i=>cases e
 refine⟨⟨rfl,by simp,fun x hx=>?_,fun i x e n=>absurd (one e).1 n,fun i j x y _ e1 e2=>?_⟩,fun t _ x hx=>?_,fun j y g hj=>absurd hj (Nat.not_lt_zero _)⟩
 ·rw[ZQ.mp hx];exact h
 ·rw[(one e1).2,(one e2).2];exact Zf _
 ·rw[ZQ.mp hx];exact aaF _
variable{L:List Nd}{t:Nd}{g:List Nat}
theorem Bf.enter{c:Nat}(b:Bf G L c)(h:L[c]? =some t)(hg:G[t.k]? =some g):Bi G L c t g 0:=
 ⟨b.toBa,h,hg,b.bound t h,b.closed,fun o ho=>by simp at ho⟩
theorem Bi.leave{c:Nat}(b:Bi G L c t g g.length):Bf G L (c+1):=by
 refine⟨b.toBa,fun t' e x hx=>?_,fun j y g' hj e hg o ho=>?_⟩
 ·have:=b.mono c (c+1) t t' (abP _) b.at_ e;have:=b.bound x hx;omega
 ·by_cases XQ:j<c
  ·exact b.closed j y g' XQ e hg o ho
  ·have:j=c:=by omega
   subst this;rw[b.at_] at e;cases e;rw[b.hg] at hg;cases hg;obtain⟨x,hx,rfl⟩:=ZO.mp (b.part o (by rw[abB];exact ho));exact⟨x,hx,rfl,b.bound x hx⟩
variable{m o:Nat}
theorem BP{o':Nat}(e:g[m]? =some o)(h:o'∈g.take (m+1)):o'∈g.take m\/o'=o:=by
 rw[List.take_succ,e] at h
 rcases aaA.mp h with z | z
 ·exact .inl z
 ·exact .inr (by simpa using z)
theorem Bi.skip{c:Nat}(b:Bi G L c t g m)(e:g[m]? =some o)(h:o∈ks L):Bi G L c t g (m+1):=
 ⟨b.toBa,b.at_,b.hg,b.bound,b.closed,fun o' ho=>(BP e ho).elim (b.part o') fun z=>z▸h⟩
theorem pz{x y:Nd}(h:(L++[x])[i]? =some y):L[i]? =some y\/(i=L.length/\y=x):=by
 by_cases hi:i<L.length
 ·rw[ZU hi] at h;exact .inl h
 ·have:=(Zb.mp h).1;simp at this;have:i=L.length:=by omega
  subst this;rw[acm] at h;cases h;exact .inr ⟨rfl,rfl⟩
theorem sS{x y:Nd}(h:L[i]? =some y):(L++[x])[i]? =some y:=by
 rw[ZU (Zb.mp h).1];exact h
theorem Bi.add{c:Nat}(b:Bi G L c t g m)(e:g[m]? =some o)(h:o∉ks L)(ho:o<G.length):Bi G (L++[⟨o,some t.k,t.d+1⟩]) c t g (m+1):=by
 have d7:c<L.length:=(Zb.mp b.at_).1;refine⟨⟨sS b.zero,?_,fun x hx=>?_,fun i x ei ni=>?_,fun i j x y XR e1 e2=>?_⟩,sS b.at_,b.hg,fun x hx=>?_,fun j y g' hj ej hg o' eK=>?_,fun o' eK=>?_⟩
 ·unfold ks;rw[abl,acH];refine⟨b.nd,by simp,fun a ha c hc=>?_⟩;have:c=o:=by simpa using hc
  rintro rfl;exact h (this▸ha)
 ·rcases aaA.mp hx with z | z
  ·exact b.lt x z
  ·rw[ZQ.mp z];exact ho
 ·rcases pz ei with z | ⟨rfl,rfl⟩
  ·obtain⟨j,y,g',h1,h2,h3⟩:=b.iJ i x z ni;exact⟨j,y,g',h1,sS h2,h3⟩
  ·exact⟨c,t,g,d7,sS b.at_,rfl,rfl,b.hg,Zj e⟩
 ·rcases pz e1 with z1 | ⟨rfl,rfl⟩
  ·rcases pz e2 with z2 | ⟨rfl,rfl⟩
   ·exact b.mono i j x y XR z1 z2
   ·exact b.bound x (Zj z1)
  ·rcases pz e2 with z2 | ⟨rfl,rfl⟩
   ·have:=(Zb.mp z2).1;omega
   ·exact Zf _
 ·rcases aaA.mp hx with z | z
  ·exact b.bound x z
  ·rw[ZQ.mp z];exact Zf _
 ·have gX:j<L.length:=by omega
  have XS:L[j]? =some y:=by
   rcases pz ej with z | ⟨z,_⟩
   ·exact z
   ·omega
  obtain⟨x,hx,h3⟩:=b.closed j y g' hj XS hg o' eK;exact⟨x,aaV _ hx,h3⟩
 ·unfold ks;rw[abl]
  rcases BP e eK with z | rfl
  ·exact aaV _ (b.part o' z)
  ·exact ZT _ (by simp)
theorem jL:∀{n:Nat} {S:List Nat},S.Nodup->(∀x∈S,x<n)->S.length<=n
 | 0,S,_,h=>by
  cases S with
  | nil=>simp
  | cons x S=>exact absurd (h x (by simp)) (by omega)
 | n+1,S,hd,h=>by
  by_cases hm:n∈S
  ·have:=jL (n:=n) (hd.erase n) fun x hx=>by
    have:=h x (hd.mem_erase_iff.mp hx).2;have:x≠n:=(hd.mem_erase_iff.mp hx).1;omega
   rw[List.length_erase_of_mem hm] at this;omega
  ·have:=jL (n:=n) hd fun x hx=>by
    have:=h x hx;have:x≠n:=fun z=>hm (z▸hx)
    omega
   omega
theorem Ba.len(b:Ba G L):L.length<=G.length:=by
 have:=jL b.nd (n:=G.length) fun x hx=>by obtain⟨y,hy,rfl⟩:=ZO.mp hx;exact b.lt y hy
 simpa using this
theorem sq{a b:SM}(h:a σ ph=.ok (.nx σ1) ph1)(h2:b σ1 ph1=r):aC a b σ ph=r:=by
 rw[m5,aW h];exact h2
theorem bq{a b:SM}{k:Fl->Mo W}{r:Out W}(h:a σ ph=.ok (.nx σ1) ph1)(h2:aq (b σ1) k ph1=r):aq (aC a b σ) k ph=r:=kj (P:=fun q=>q=r) h h2
theorem br{e:EM}{w:W}(h:e σ ph=.ok w ph1):aq (bt e σ) dA ph=.ok w ph1:=by
 rw[sP,dG,aW h];rfl
theorem asg{e:EM}{w:W}(h:e σ ph=.ok w ph1):aI e (gN i) σ ph=.ok (.nx (σ.set i (some w))) ph1:=by
 rw[pj,aW h];rfl
theorem cC{t:TM}{a b:SM}(h:t σ ph=.ok true ph1)(h2:a σ ph1=r):bI t a b σ ph=r:=by
 rw[sW,aW h];exact h2
theorem aS{t:TM}{a b:SM}(h:t σ ph=.ok false ph1)(h2:b σ ph1=r):bI t a b σ ph=r:=by
 rw[sW,aW h];exact h2
theorem retS{e:EM}{w:W}(h:e σ ph=.ok w ph1):bt e σ ph=.ok (.rt w) ph1:=by
 rw[sP,aW h];rfl
variable{ws:List W}
theorem y4{o:EM}{e:EM}{w:W}(ho:o σ=au (.ref i))(y6:∃mf,ph[i]? =some (.lst mf))(he:e σ ph=.ok w ph1)(hi:ph1[i]? =some (.lst ws))(hz:ws.length<1000000):eV (cI cz dH o (ae e ak)) σ ph=.ok (.nx σ) (ph1.set i (.lst (ws++[w]))):=by
 obtain⟨mf,h0⟩:=y6;rw[sF,mU,ho];rw[dG,jR,dG,aW (pv h0),dG,sG,dG,aW he];rw[sQ,jR,jR,aW (r8 hi (Zg hz (by decide)) w)];rfl
theorem eP{a b:SM}{w:W}(h:a σ ph=.ok (.rt w) ph1):aq (aC a b σ) dA ph=.ok w ph1:=by
 rw[m5,dG,aW h];rfl
variable{wi:Nat}
theorem EB{b:Nat}(h:Wy ph wi G)(e:G[b]? =some g):∃r,(∀ph',Ex ph ph'->lift (ag (.ref wi) (.int b)) ph'=.ok (.ref r) ph')/\ph[r]? =some (.lst (iw g)):=by
 obtain⟨rs,h1,h2,h3⟩:=h;have hb:b<rs.length:=by rw[h2];exact(Zb.mp e).1
 obtain⟨r,hr⟩:∃r,rs[b]? =some r:=bR hb;refine⟨r,fun ph' x=>eU (x.get h1) ?_,h3 b r g hr e⟩;rw[eR _ _ (by rw[Zd];exact hb),Ze,hr];rfl
structure Fd(ph H:PH)(di qi:Nat)(L:List Nd):Prop where
 ex:Ex ph H
 ld:ph.length<=di
 lq:ph.length<=qi
 ne:di≠qi
 d:H[di]? =some (.aF (cK L))
 q:H[qi]? =some (.lst (iw (ks L)))
variable{H:PH}{di qi:Nat}
theorem Fd.add(f:Fd ph H di qi L)(x:Nd):Fd ph ((H.set di (.aF (cK (L++[x])))).set qi (.lst (iw (ks (L++[x]))))) di qi (L++[x]):=by
 refine⟨Ex.set (Ex.set f.ex f.ld _) f.lq _,f.ld,f.lq,f.ne,?_,?_⟩
 ·rw[dj (abg f.ne)];exact fO f.d
 ·exact fO (by rw[dj f.ne];exact f.q)
theorem Fx{x:Nd}(f:Fd ph H di qi L)(hx:x.k∉ks L)(hl:L.length<100) :
  lift (nT (.ref di) (.int x.k) (pw x.p)) H=.ok () (H.set di (.aF (cK (L++[x]))))/\lift (iB (cz (.ref qi))) (H.set di (.aF (cK (L++[x]))))=.ok () (H.set di (.aF (cK (L++[x])))) /\
   lift (dH (.ref qi) [.int x.k]) (H.set di (.aF (cK (L++[x]))))=.ok .aG ((H.set di (.aF (cK (L++[x])))).set qi (.lst (iw (ks (L++[x]))))):=by
 have h2:(H.set di (.aF (cK (L++[x]))))[qi]? =some (.lst (iw (ks L))):=by rw[dj f.ne];exact f.q
 refine⟨?_,pv h2,?_⟩
 ·rw[vK f.d (Gk L _) (by unfold cK;rw[Zd];exact Zg hl (by decide)),TH L x hx]
 ·rw[r8 h2 (by rw[gP,Zd];exact Zg hl (by decide))];simp[ks,iw]
theorem wV(f:Fd ph H di qi L)(k:Nat):lift (fT (.int k) (.ref di)) H=.ok (.bl (!decide (k∈ks L))) H:=by
 rw[BJ f.d (Gk L _),U8]
variable{s0 s1 s4 s5:Option W}
theorem TJ{c:Nat}(f:Fd ph H di qi L)(b:Bi G L c t g m)(e:g[m]? =some o)(hG:Ok G)(ho:o<G.length) :
  ∃H' L',qX [s0,s1,some (.ref di),some (.ref qi),s4,s5,some (.int t.k),some (.int o)] H=.ok (.nx [s0,s1,some (.ref di),some (.ref qi),s4,s5,some (.int t.k),some (.int o)]) H'/\Fd ph H' di qi L'/\Bi G L' c t g (m+1)/\∀r,r≠di->r≠qi->H'[r]? =H[r]? :=by
 have hl:L.length<100:=by have:=b.len;have:=hG.top;omega
 unfold qX;by_cases h:o∈ks L
 ·refine⟨H,L,?_,f,b.skip e h,fun _ _ _=>rfl⟩;ac_nf;rw[aW (wV f o)];simp only[decide_eq_true h];ac_nf
 ·obtain⟨p1,p2,p3⟩:=Fx (x:=⟨o,some t.k,t.d+1⟩) f h hl
  dsimp only[pw] at p1 p3
  refine⟨_,_,?_,f.add ⟨o,some t.k,t.d+1⟩,b.add e h ho,fun r h1 h2=>by rw[dj (abg h2),dj (abg h1)]⟩;ac_nf;rw[aW (wV f o)];simp only[decide_eq_false h];ac_nf;rw[aW p1];ac_nf;rw[aW p2,aW p3];rfl
def tZ(ph:PH)(G:List (List Nat))(fw:W):Prop:=∀(s0 s2 s3 s4 s5 s7:Option W) (H:PH) (tk:Nat) (g:List Nat),Ex ph H->G[tk]? =some g →
 ∃r H1,pM "aheads" 1 (gU "aheads" l_aheads 1 (ae (aa 6) ak)) (gU "threaded" l_threaded 1 (ae (aa 6) ak)) [s0,some fw,s2,s3,s4,s5,some (.int tk),s7] H=.ok (.ref r) H1/\Ex H H1/\H1[r]? =some (.lst (iw g))/\(r<ph.length\/H.length<=r)
theorem NN(hw:Wy ph wi G):tZ ph G (.fn "aheads" [.ref wi]):=fun s0 s2 s3 s4 s5 s7 H tk g x hg=>by
 obtain⟨r,h,hr⟩:=EB hw hg;refine⟨r,H,?_,Ex.refl _,x.get hr,.inl (j8 hr)⟩;show gU "aheads" l_aheads 1 (ae (aa 6) ak) [s0,some (.fn "aheads" [.ref wi]),s2,s3,s4,s5,some (.int tk),s7] H=_;have e2:l_aheads [some (.int tk),some (.ref wi)] H=.ok (.ref r) H:=by
  unfold l_aheads;ac_nf;exact h H x
 unfold gU;simp only[acS,acT,tX,if_true];ac_nf;unfold qu cT;simp only[e2]
variable{H1:PH}
theorem Fd.mono(f:Fd ph H di qi L)(x:Ex H H1):Fd ph H1 di qi L:=⟨f.ex.trans x,f.ld,f.lq,f.ne,x.get f.d,x.get f.q⟩
variable{s6 s7:Option W}
theorem TK{fw:W}{c:Nat}(hw:tZ ph G fw)(hG:Ok G)(f:Fd ph H di qi L)(b:Bf G L c)(hc:L[c]? =some t) :
  ∃H' L' y8 kI,qY [s0,some fw,some (.ref di),some (.ref qi),s4,some (.int c),s6,s7] H =
   .ok (.nx [s0,some fw,some (.ref di),some (.ref qi),s4,some (.int ((c+1:Nat):Int)),y8,kI]) H'/\Fd ph H' di qi L'/\Bf G L' (c+1)/\c<L'.length:=by
 have ht:t.k<G.length:=b.lt t (Zj hc);obtain⟨g,hg⟩:∃g,G[t.k]? =some g:=bR ht;obtain⟨r,H1,hr,x1,qC,YU⟩:=hw s0 (some (.ref di)) (some (.ref qi)) s4 (some (.int ((c:Int)+1))) s7 H t.k g f.ex hg;have hq:b9 (iw (ks L)) (c:Int)=some (.int t.k):=EA (by unfold ks;rw[Ze,hc];rfl);have mm:g∈G:=Zj hg;have f1:=f.mono x1;have d1:=j8 f.d;have d2:=j8 f.q;have ym:r≠di/\r≠qi:=by have:=f.ld;have:=f.lq;omega
 obtain⟨aj,H',e,L',kI,rfl,f',b',kA⟩:=mV (chk:=fun p=>decide (p[r]? =some (.lst (iw g)))) (g:=gN 7) (b:=qX)
  (fun m σ H=>∃L' kI,σ=[s0,some fw,some (.ref di),some (.ref qi),s4,some (.int ((c:Int)+1)),some (.int t.k),kI]/\Fd ph H di qi L'/\Bi G L' c t g m/\H[r]? =some (.lst (iw g)))
  (iw g) [s0,some fw,some (.ref di),some (.ref qi),s4,some (.int ((c:Int)+1)),some (.int t.k),s7] H1
  (fun m σ H y9=>by obtain⟨_,_,_,_,_,q⟩:=y9;exact decide_eq_true q)
  (fun m x σ H hm za=>by
   obtain⟨L',kI,e,f,b,q⟩:=za;subst e;obtain⟨o,ho,rfl⟩:=wU hm;obtain⟨H',L2,e1,f1,b1,q1⟩:=TJ (s0:=s0) (s1:=some fw) (s4:=s4) (s5:=some (.int ((c:Int)+1))) f b ho hG (hG.lt g mm o (Zj ho));exact⟨_,_,rfl,_,_,e1,_,.inl rfl,L2,_,rfl,f1,b1,by rw[q1 r ym.1 ym.2];exact q⟩)
  ⟨L,s7,rfl,f1,b.enter hc hg,qC⟩
 rw[gP] at b';refine⟨H',L',some (.int t.k),kI,?_,f',b'.leave,(Zb.mp b'.at_).1⟩;unfold qY;refine sq (σ1:=[s0,some fw,some (.ref di),some (.ref qi),s4,some (.int c),some (.int t.k),s7]) (asg (eU f.q hq)) (sq (σ1:=[s0,some fw,some (.ref di),some (.ref qi),s4,some (.int ((c:Int)+1)),some (.int t.k),s7]) rfl ?_);rw[fN (fL hr qC) e];rfl
def Found(ph:PH)(G:List (List Nat))(r:Out W):Prop:=∃di ph' L,r=.ok (.ref di) ph'/\Ex ph ph'/\ph'[di]? =some (.aF (cK L))/\Bf G L L.length
theorem CH{fw:W}{si:Nat}(hw:tZ ph G fw)(hG:Ok G)(hs:ph[si]? =some (.lst [.int 0])):Found ph G (oO [.ref si,fw] ph):=by
 unfold oO jG;rw[p8];refine kj (P:=Found ph G) (σ1:=[some (.ref si),some fw,some (.ref ph.length),none,none,none,none,none]) (ph1:=ph++[.aF []]) rfl ?_;refine kj (σ1:=[some (.ref si),some fw,some (.ref ph.length),some (.ref (ph++[PO.aF []]).length),none,none,none,none]) (ph1:=ph++[.aF []]++[.lst []]) rfl ?_;have f0:Fd ph (ph++[.aF []]++[.lst []]) ph.length (ph++[PO.aF []]).length []:=⟨(Ex.one _ _).trans (Ex.one _ _),Zf _,by simp,by simp,(Ex.one _ _).get (bz _ _),bz _ _⟩
 generalize YV:(ph++[PO.aF []]).length=qi at f0;generalize (ph++[.aF []]++[.lst []])=H0 at f0;have f1:=f0.add ⟨0,none,0⟩;obtain⟨p1,p2,p3⟩:=Fx (x:=⟨0,none,0⟩) f0 (by simp) (by simp)
 dsimp only[pw] at p1 p3
 rw[show((0:Nat):Int)=0 from rfl] at p1 p3;have oE:H0[si]? =some (.lst [.int 0]):=f0.ex.get hs;have e1:cS (fun p=>decide (p[si]? =some (.lst [W.int 0]))) (gN 4) uM [.int 0] [some (.ref si),some fw,some (.ref ph.length),some (.ref qi),none,none,none,none] H0 =
   .ok (.nx [some (.ref si),some fw,some (.ref ph.length),some (.ref qi),some (.int 0),none,none,none]) ((H0.set ph.length (.aF (cK ([]++[⟨0,none,0⟩])))).set qi (.lst (iw (ks ([]++[⟨0,none,0⟩]))))):=by
  unfold cS;simp only[oE,decide_true,if_true];unfold uM;have n0:=wV f0 0;rw[show((0:Nat):Int)=0 from rfl] at n0;ac_nf;rw[aW n0];ac_nf;simp only[abV,List.not_mem_nil,decide_false,Bool.not_false,if_true];rw[aW p1];ac_nf;rw[aW p2,aW p3];have yI:=f1.ex.get hs;unfold cS;rw[if_pos (decide_eq_true yI)]
 refine kj (fN (fL rfl oE) e1) ?_;refine kj (σ1:=[some (.ref si),some fw,some (.ref ph.length),some (.ref qi),some (.int 0),some (.int 0),none,none]) rfl ?_;generalize ((H0.set ph.length (.aF (cK ([]++[⟨0,none,0⟩])))).set qi (.lst (iw (ks ([]++[⟨0,none,0⟩])))))=H1 at f1;obtain⟨aj,H',e,L,s6,s7,c,rfl,f,b,d7⟩:=A7 (t:=eT (ab iQ (aa 5) (bG cY (ae (aa 3) ak)))) (b:=qY)
  (fun k σ H=>∃L s6 s7 c,σ=[some (.ref si),some fw,some (.ref ph.length),some (.ref qi),some (.int 0),some (.int ((c:Nat):Int)),s6,s7]/\Fd ph H ph.length qi L/\Bf G L c/\k+c=G.length/\c<=L.length)
  (fun σ H=>∃L s6 s7 c,σ=[some (.ref si),some fw,some (.ref ph.length),some (.ref qi),some (.int 0),some (.int ((c:Nat):Int)),s6,s7]/\Fd ph H ph.length qi L/\Bf G L c/\c=L.length)
  (fun k σ H zb=>by
   obtain⟨L,s6,s7,c,e,f,b,hk,d7⟩:=zb;subst e;have et:eT (ab iQ (aa 5) (bG cY (ae (aa 3) ak))) [some (.ref si),some fw,some (.ref ph.length),some (.ref qi),some (.int 0),some (.int ((c:Nat):Int)),s6,s7] H=.ok (decide (c<L.length)) H:=by
    ac_nf
    rw[aW (pq f.q)];ac_nf;rw[gP,Zd]
    congr 1
    simp
   by_cases h:c<L.length
   ·right
    obtain⟨t,ht⟩:∃t,L[c]? =some t:=bR h;obtain⟨H',L',y8,kI,e1,f1,b1,qD⟩:=TK (s0:=some (.ref si)) (s4:=some (.int 0)) (s6:=s6) (s7:=s7) hw hG f b ht;have:=b.len;refine⟨H,by rw[et,decide_eq_true h],_,H',e1,_,.inl rfl,k-1,by omega,L',y8,kI,c+1,rfl,f1,b1,by omega,qD⟩
   ·left
    exact⟨H,by rw[et,decide_eq_false h],L,s6,s7,c,rfl,f,b,by omega⟩)
  G.length _ H1 ⟨[]++[⟨0,none,0⟩],none,none,0,rfl,f1,Bf.start G hG.pos,by omega,aaF _⟩
 refine kj e ?_;exact⟨ph.length,H',L,rfl,f.ex,f.d,d7▸b⟩
def n6(H:PH)(i lo hi:Nat)(e:Option (List W))(w:W):Prop:=match e with
 | none=>w=.aG
 | some c=>∃r,w=.ref r/\lo<=r/\r<hi/\r≠i/\H[r]? =some (.lst c)
structure XT(H:PH)(i lo hi:Nat)(ws:List W)(E:List (Option (List W))):Prop where
 at_:H[i]? =some (.lst ws)
 len:ws.length=E.length
 li:lo<=i
 ih:i<hi
 ent:∀(k:Nat) w e,ws[k]? =some w->E[k]? =some e->n6 H i lo hi e w
 inj:∀(k k' r:Nat),ws[k]? =some (.ref r)->ws[k']? =some (.ref r)->k=k'
def Tb(H:PH)(i lo hi:Nat)(E:List (Option (List W))):Prop:=∃ws,XT H i lo hi ws E
variable{H':PH}{lo hi:Nat}
theorem n6.mono{Gm kD:Nat}{e:Option (List W)}{w:W}(h:n6 H i lo hi e w)(k:∀j,lo<=j->j<hi->H'[j]? =H[j]?)(h1:Gm<=lo)(h2:hi<=kD):n6 H' i Gm kD e w:=by
 cases e with
 | none=>exact h
 | some c=>obtain⟨r,e1,e2,e3,e4,e5⟩:=h;exact⟨r,e1,by omega,by omega,e4,by rw[k r e2 e3];exact e5⟩
theorem Tb.mono{H H':PH}{i lo hi:Nat}{E:List (Option (List W))}(t:Tb H i lo hi E)(k:∀j,lo<=j->j<hi->H'[j]? =H[j]?):Tb H' i lo hi E:=by
 obtain⟨ws,t⟩:=t;exact⟨ws,by rw[k i t.li t.ih];exact t.at_,t.len,t.li,t.ih,fun j w e a b=>(t.ent j w e a b).mono k (Zf _) (Zf _),t.inj⟩
theorem U9(x:Ex H H')(h:hi<=H.length):∀j,j<hi->H'[j]? =H[j]? :=fun j hj=>by
 obtain⟨m,rfl⟩:=x;rw[ZU (by omega)]
theorem Tb.ex{E:List (Option (List W))}(t:Tb H i lo hi E)(x:Ex H H')(h:hi<=H.length):Tb H' i lo hi E:=t.mono fun j _ hj=>U9 x h j hj
theorem Tb.put{E:List (Option (List W))}{c:List W}(t:Tb H i lo hi E)(h:E[k]? =some (some c)):∃r,lift (ag (.ref i) (.int k)) H=.ok (.ref r) H/\H[r]? =some (.lst c)/\lo<=r/\r<hi/\r≠i/\∀c',Tb (H.set r (.lst c')) i lo hi (E.set k (some c')):=by
 obtain⟨ws,t⟩:=t;have hk:k<ws.length:=by rw[t.len];exact(Zb.mp h).1
 obtain⟨w,hw⟩:∃w,ws[k]? =some w:=bR hk;obtain⟨r,rfl,h1,h2,h3,h4⟩:=t.ent k w _ hw h;refine⟨r,eU t.at_ (by rw[eR _ _ hk];exact hw),h4,h1,h2,h3,fun c'=>⟨ws,by rw[dj h3];exact t.at_,by rw[aal];exact t.len,t.li,t.ih,fun j w' e a b=>?_,t.inj⟩⟩;by_cases hj:j=k
 ·subst hj;rw[hw] at a;cases a;rw[aad (by rw[<- t.len];exact hk)] at b;cases b;exact⟨r,rfl,h1,h2,h3,fO h4⟩
 ·rw[aas (abg hj)] at b;have q:=t.ent j w' e a b;cases e with
  | none=>exact q
  | some c2=>
   obtain⟨r',rfl,q1,q2,q3,q4⟩:=q;refine⟨r',rfl,q1,q2,q3,?_⟩;rw[dj (fun z=>hj (t.inj j k r (by rw[z];exact a) hw))];exact q4
theorem gj{l:List α}{x y:α}(h:(l++[x])[i]? =some y):(i<l.length/\l[i]? =some y)\/(i=l.length/\y=x):=by
 by_cases hi:i<l.length
 ·rw[ZU hi] at h;exact .inl ⟨hi,h⟩
 ·have:=(Zb.mp h).1;simp at this;have:i=l.length:=by omega
  subst this;rw[acm] at h;cases h;exact .inr ⟨rfl,rfl⟩
theorem CI(as:List α)(h:α->W){cap:List (Option Nat)}{g:GM}{e:EM}{ph0:PH}(qA:im σ ph0=.ok (as.map h,chk) ph)(qB:∀ph',Ex ph ph'->chk ph'=true)(hz:as.length<=1000)
  (P:Nat->Option (List W)->Prop) (S:aK->Prop) (h0:S (fA cap σ))
  (step:∀j x,as[j]? =some x->∀σ H,S σ->Ex ph H->ph.length<H.length->∃σ1,g (h x) σ H=.ok σ1 H/\S σ1/\∃w H2 c,e σ1 H=.ok w H2/\Ex H H2/\P j c/\n6 H2 ph.length H.length H2.length c w) :
  ∃ph' E,bX im cap g cm e σ ph0=.ok (.ref ph.length) ph'/\Ex ph ph'/\E.length=as.length/\(∀j c,E[j]? =some c->P j c)/\Tb ph' ph.length ph.length ph'.length E:=by
 rw[vJ,aW qA];obtain⟨lW,aj,ph',ec,hS,x1,x2,x3,x5,E,x6,x7,x4⟩:=sh (chk:=chk) (g:=g) (c:=cm) (e:=e) ph.length
  (fun k acc σ H=>S σ/\Ex ph H/\H[ph.length]? =some (.lst acc)/\acc.length=k/\(∀(a b r:Nat),acc[a]? =some (.ref r)->acc[b]? =some (.ref r)->a=b) /\
   ∃E:List (Option (List W)),E.length=k/\(∀(j:Nat) c,E[j]? =some c->P j c)/\∀(j:Nat) w c,acc[j]? =some w->E[j]? =some c->n6 H ph.length ph.length H.length c w)
  (as.map h) 0 [] (fA cap σ) (ph++[.lst []]) (fun j acc σ H hI=>qB _ hI.2.1)
  (fun j y acc σ H hj hI=>by
   rw[aaf] at hI ⊢;obtain⟨hS,x1,x2,x3,x5,E,x6,x7,x4⟩:=hI;rw[Ze] at hj;obtain⟨x,hx,rfl⟩:=Zn.mp hj;have gX:=(Zb.mp hx).1;have fE:=j8 x2;obtain⟨σ1,e1,gD,w,H2,c,e2,y1,hP,y2⟩:=step j x hx σ H hS x1 fE;have YW:=y1.len;have old:∀k,ph.length<k->(H2.set ph.length (.lst (acc++[w])))[k]? =H2[k]? :=fun k hk=>dj (by omega)
   have fresh:∀{a r:Nat},acc[a]? =some (.ref r)->w=.ref r->False:=fun{a r} ha hw=>by
    have YX:=(Zb.mp ha).1;obtain⟨ca,XU⟩:∃ca,E[a]? =some ca:=bR (by omega);have q:=x4 a _ ca ha XU;subst hw;cases ca with
    | none=>cases q
    | some c0=>
     obtain⟨r',q1,q2,q3,_⟩:=q;cases q1;cases c with
     | none=>cases y2
     | some c2=>
      obtain⟨r',z1,z2,_⟩:=y2;cases z1;omega
   refine⟨σ1,H,e1,true,H,rfl,.inr ⟨rfl,w,H2,e2,y1.get x2,Zg (by omega:acc.length<1001) (by decide),gD,Ex.set (x1.trans y1) (Zf _) _,fO (y1.get x2),by simp[x3],fun a b r ha hb=>?_,E++[c],by simp[x6],fun i c' eL=>?_,fun i w' c' zc eL=>?_⟩⟩
   ·rcases gj ha with⟨_,qE⟩ | ⟨XW,qE⟩
    ·rcases gj hb with⟨_,fH⟩ | ⟨oF,fH⟩
     ·exact x5 a b r qE fH
     ·exact(fresh qE fH.symm).elim
    ·rcases gj hb with⟨_,fH⟩ | ⟨oF,fH⟩
     ·exact(fresh fH qE.symm).elim
     ·rw[XW,oF]
   ·rcases gj eL with⟨_,z⟩ | ⟨z0,z⟩
    ·exact x7 i c' z
    ·rw[z,z0,x6];exact hP
   ·rw[aal]
    rcases gj zc with⟨hi,hV⟩ | ⟨hi,hV⟩
    ·rcases gj eL with⟨_,qD⟩ | ⟨z,_⟩
     ·have q:=x4 i w' c' hV qD;cases c' with
      | none=>exact q
      | some c0=>
       obtain⟨r,q1,q2,q3,q4,q5⟩:=q;refine⟨r,q1,q2,by omega,q4,?_⟩;rw[old r (by omega)];exact y1.get q5
     ·omega
    ·rcases gj eL with⟨z,_⟩ | ⟨_,qD⟩
     ·omega
     ·rw[hV,qD];cases c with
      | none=>exact y2
      | some c0=>
       obtain⟨r,q1,q2,q3,q4,q5⟩:=y2;exact⟨r,q1,by omega,q3,q4,by rw[old r (by omega)];exact q5⟩)
  ⟨h0,Ex.one _ _,bz _ _,rfl,fun a b r z=>by simp at z,[],rfl,fun j c z=>by simp at z,fun j w c z=>by simp at z⟩
 rw[aaf,Zd] at x3 x6;exact⟨ph',E,aW ec,x1,x6,x7,lW,x2,by rw[x3,x6],Zf _,j8 x2,x4,x5⟩
theorem CJ{m:Mo α}{a:α}(h:m ph=.ok a ph'):cT m ph=.ok a ph':=by
 unfold cT;rw[h]
theorem PZ(hw:Wy ph wi G)(hG:Ok G):Found ph G (vN [.ref wi] ph):=by
 show Found ph G (aq (cT ((bJ (ae (eC (.int (0))) ak)) [some (.ref wi)])) (fun w1=>cT (oO [w1,.fn "aheads" [.ref wi]])) ph);have e1:cT ((bJ (ae (eC (.int (0))) ak)) [some (.ref wi)]) ph=.ok (.ref ph.length) (ph++[.lst [.int 0]]):=rfl;rw[aW e1];obtain⟨di,ph',L,e,x,h1,h2⟩:=CH (NN (hw.mono (Ex.one ph (.lst [.int 0])))) hG (bz ph (.lst [.int 0]));exact⟨di,ph',L,CJ e,(Ex.one _ _).trans x,h1,h2⟩
theorem pA(n:Nat):d5 0 n=(ZS n).map fun i:Nat=>W.int i:=by
 unfold d5;apply abE;intro i _;simp
def gx(E:List (List Nat))(o b:Nat):List (List Nat):=match E[o]? with
 | some c=>E.set o (c++[b])
 | none=>E
def jj(E:List (List Nat))(b:Nat)(g:List Nat):List (List Nat):=g.foldl (fun E o=>gx E o b) E
def EE(E:List (List Nat)):List (Option (List W)):=E.map fun l=>some (iw l)
theorem P0(E:List (List Nat))(o b:Nat):(gx E o b).length=E.length:=by
 unfold gx;split
 ·rw[aal]
 ·rfl
theorem wW{E:List (List Nat)}{c:List Nat}(h:E[k]? =some c):(EE E)[k]? =some (some (iw c)):=by
 unfold EE;rw[Ze,h];rfl
def Sm(E:List (List Nat))(N:Nat):Prop:=∀l∈E,l.length<=N
theorem Sm.add{E:List (List Nat)}{N b:Nat}(h:Sm E N):Sm (gx E o b) (N+1):=fun l hl=>by
 unfold gx at hl;split at hl
 ·rename_i c hc
  rcases List.mem_or_eq_of_mem_set hl with z | z
  ·exact acG (h l z)
  ·rw[z];have:=h c (Zj hc);simp;omega
 ·exact acG (h l hl)
theorem TN{b:Nat}{E:List (List Nat)}{N:Nat}(t:Tb H i lo hi (EE E))(ho:o<E.length)(hN:Sm E N)(YY:N<1000)(x:Ex ph H)(hl:ph.length<=lo):∃r H',lift (ag (.ref i) (.int o)) H=.ok (.ref r) H/\lift (iB (cz (.ref r))) H=.ok () H/\lift (dH (.ref r) [.int b]) H=.ok .aG H' /\
  Tb H' i lo hi (EE (gx E o b))/\Ex ph H'/\H'.length=H.length/\∀j,(j<lo\/hi<=j)->H'[j]? =H[j]? :=by
 obtain⟨c,hc⟩:∃c,E[o]? =some c:=bR ho;obtain⟨r,h1,h2,h3,h4,h5,h6⟩:=t.put (wW hc);have hz:=hN c (Zj hc);refine⟨r,_,h1,pv h2,r8 h2 (by rw[gP];exact Zg (by omega:c.length<1000) (by decide)) _,?_,Ex.set x (by omega) _,by rw[aal],fun j hj=>dj (by omega)⟩;have:=h6 (iw (c++[b]));rw[DF] at this;unfold gx;simp only[hc];unfold EE at this ⊢;rw[List.map_set,DF];exact this
def up(L:List Nat)(n:Nat):List Nat:=(ZS n).filter fun k=>decide (k∈L)
variable{n:Nat}
theorem TQ{L:List Nat}(hn:L.Nodup)(hl:∀x∈L,x<n):kh (L.map fun k:Nat=>(k:Int))=(up L n).map fun k:Nat=>(k:Int):=by
 refine(wb (List.Perm.map _ ?_) ?_).symm
 ·refine(List.perm_ext_iff_of_nodup (abv _ List.nodup_range) hn).mpr fun a=>?_
  rw[aar,aaq,decide_eq_true_eq];exact⟨fun h=>h.2,fun h=>⟨hl a h,h⟩⟩
 ·exact adW _ (fun a b h=>by omega) (abv _ List.pairwise_lt_range)
theorem DG(b:Ba G L)(hG:Ok G)(hd:H[di]? =some (.aF (cK L))):lift (lJ [.ref di]) H=.ok (.ref H.length) (H++[.lst (iw (up (ks L) G.length))]):=by
 have h1:nE (cK L)=some (L.map fun x=>W.int x.k):=by
  unfold nE;have:((cK L).all fun p=> !iR p.1)=true:=by
   rw[aam];intro p hp;unfold cK at hp;obtain⟨x,_,rfl⟩:=ZO.mp hp;rfl
  rw[if_pos this];unfold cK;rw[aaC];rfl
 have h2:bc nU (L.map fun x=>W.int x.k)=some (L.map fun x=>(x.k:Int)):=jP nU (fun x:Nd=>W.int x.k) (fun x:Nd=>(x.k:Int)) (fun _=>rfl) L;have hl:=b.len;have ht:=hG.top;have h3:lJ [.ref di] H=some (.ref H.length,H++[.lst (iw (up (ks L) G.length))]):=by
  unfold lJ;simp only[lK hd,h1,aau,h2];rw[if_pos (by rw[Zd];omega)];have e:(L.map fun x=>(x.k:Int))=(ks L).map fun k:Nat=>(k:Int):=by unfold ks;rw[aaC];rfl
  rw[e,TQ b.nd (fun x hx=>by obtain⟨y,hy,rfl⟩:=ZO.mp hx;exact b.lt y hy)];unfold iw;rw[aaC];rfl
 unfold lift;rw[h3]
theorem vz{l:List α}{o:α}(e:l[m]? =some o):l.take (m+1)=l.take m++[o]:=by
 rw[List.take_succ,e];rfl
def fj(G:List (List Nat))(b:Nat):List Nat:=G[b]?.getD []
def jb(G E:List (List Nat))(bs:List Nat):List (List Nat):=bs.foldl (fun E b=>jj E b (fj G b)) E
theorem OY(E:List (List Nat))(b o:Nat)(g:List Nat):jj E b (g++[o])=gx (jj E b g) o b:=by unfold jj;rw[List.foldl_append];rfl
theorem BQ(E:List (List Nat))(b:Nat):∀g:List Nat,(jj E b g).length=E.length:=by
 intro g
 induction g generalizing E with
 | nil=>rfl
 | cons o g ih=>exact(ih (gx E o b)).trans (P0 E o b)
theorem NO(G E:List (List Nat))(b:Nat)(bs:List Nat):jb G E (bs++[b])=jj (jb G E bs) b (fj G b):=by unfold jb;rw[List.foldl_append];rfl
theorem Bj(G:List (List Nat)):∀(bs:List Nat) (E:List (List Nat)),(jb G E bs).length=E.length:=by
 intro bs
 induction bs with
 | nil=>intro E;rfl
 | cons b bs ih=>intro E;exact(ih _).trans (BQ E b _)
structure km(ph H0 H:PH)(i lo hi:Nat)(E:List (List Nat))(N:Nat):Prop where
 t:Tb H i lo hi (EE E)
 sm:Sm E N
 ex:Ex ph H
 out:∀j,(j<lo\/hi<=j)->H[j]? =H0[j]?
 ln:H.length=H0.length
theorem km.add{ph H0 H:PH}{i lo hi o b N:Nat}{E:List (List Nat)}(k:km ph H0 H i lo hi E N)(ho:o<E.length)(hN:N<1000)(hl:ph.length<=lo):∃r H',lift (ag (.ref i) (.int o)) H=.ok (.ref r) H/\lift (iB (cz (.ref r))) H=.ok () H/\lift (dH (.ref r) [.int b]) H=.ok .aG H'/\km ph H0 H' i lo hi (gx E o b) (N+1):=by
 obtain⟨r,H',h1,h2,h3,h4,h5,h6,h7⟩:=TN (b:=b) k.t ho k.sm hN k.ex hl;exact⟨r,H',h1,h2,h3,h4,k.sm.add,h5,fun j hj=>(h7 j hj).trans (k.out j hj),h6.trans k.ln⟩
theorem TR{E:List (Option (List W))}(hl:E.length=n)(h:∀(j:Nat) c,E[j]? =some c->c=some []):E=EE (Zi n []):=by
 apply abr
 intro j;unfold EE;rw[Ze,aaZ];by_cases hj:j<n
 ·obtain⟨c,hc⟩:∃c,E[j]? =some c:=bR (by omega);rw[hc,h j c hc,if_pos hj];rfl
 ·rw[if_neg hj,ZY (by omega)];rfl
theorem Rl{m:EM}(hw:Wy ph wi G)(hG:Ok G)(hm:m σ ph=.ok (.ref wi) ph):∃ph',bX (cO m) [none] (gN 0) cm (bJ ak) σ ph=.ok (.ref ph.length) ph'/\Ex ph ph'/\Tb ph' ph.length ph.length ph'.length (EE (Zi G.length [])):=by
 obtain⟨rs,h1,h2,h3⟩:=hw;have ht:=hG.top;obtain⟨ph',E,e,x,hE,hP,t⟩:=CI rs W.ref (cap:=[none]) (g:=gN 0) (e:=bJ ak) (fL hm h1) (fun p x=>decide_eq_true (x.get h1)) (by omega) (fun _ c=>c=some []) (fun σ=>∃o,σ=[o]) ⟨none,rfl⟩
  (fun j r hj σ H hS y cB=>by
   obtain⟨o,rfl⟩:=hS;refine⟨_,rfl,⟨_,rfl⟩,.ref H.length,H++[.lst []],some [],rfl,Ex.one _ _,rfl,H.length,rfl,Zf _,by simp,by omega,bz _ _⟩)
 refine⟨ph',e,x,?_⟩;rw[<- TR (by rw[hE,h2]) hP];exact t
theorem Sm.rep(n:Nat):Sm (Zi n []) 0:=fun l hl=>by rw[List.eq_of_mem_replicate hl];exact Zf _
variable{ti:Nat}{o3:Option W}
theorem P1{H0:PH}{b N:Nat}{E:List (List Nat)}(hG:Ok G)(hw:Wy ph wi G)(hb:b<G.length)(k:km ph H0 H ti lo hi E N)(hE:E.length=G.length)(hN:N+3<1000)(hl:ph.length<=lo) :
  ∃H' kJ N',r9 [some (.ref wi),some (.ref ti),some (.int b),o3] H=.ok (.nx [some (.ref wi),some (.ref ti),some (.int b),kJ]) H'/\N'<=N+3/\km ph H0 H' ti lo hi (jj E b (fj G b)) N':=by
 obtain⟨g,hg⟩:∃g,G[b]? =some g:=bR hb;have ky:fj G b=g:=by unfold fj;rw[hg];rfl
 have mm:=Zj hg;obtain⟨r,hr,qC⟩:=EB hw hg;have hf:=hG.XO g mm;obtain⟨aj,H',e,kJ,rfl,k'⟩:=mV (chk:=fun p=>decide (p[r]? =some (.lst (iw g)))) (g:=gN 3) (b:=vd)
  (fun m σ H=>∃kJ,σ=[some (.ref wi),some (.ref ti),some (.int b),kJ]/\km ph H0 H ti lo hi (jj E b (g.take m)) (N+m))
  (iw g) [some (.ref wi),some (.ref ti),some (.int b),o3] H (fun m σ H y9=>by obtain⟨_,_,k⟩:=y9;exact decide_eq_true (k.ex.get qC))
  (fun m x σ H hm za=>by
   obtain⟨kJ,e,k⟩:=za;subst e;obtain⟨o,ho,rfl⟩:=wU hm;have YZ:=(Zb.mp ho).1;obtain⟨r2,H',h1,h2,h3,k'⟩:=k.add (o:=o) (b:=b) (by rw[BQ,hE];exact hG.lt g mm o (Zj ho)) (by omega) hl;rw[<- OY,<- vz ho] at k';refine⟨_,_,rfl,.nx [some (.ref wi),some (.ref ti),some (.int b),some (.int o)],H',?_,_,.inl rfl,some (.int o),rfl,k'⟩;unfold vd;ac_nf;refine aw h1 (aw h2 (aw h3 ?_));rfl)
  ⟨o3,rfl,by rw[List.take_zero];exact k⟩
 rw[gP,abB] at k';rw[ky];refine⟨H',kJ,N+g.length,?_,by omega,k'⟩;unfold r9;rw[fN (fL (i:=r) (by
  rw[c8];show lift (ag (.ref wi) (.int b)) H=_;exact hr H k.ex) (k.ex.get qC)) e]
theorem Rm(hw:Wy ph wi G)(hG:Ok G):∃(i:Nat) (L:List Nd) (ph':PH),we [.ref wi] ph=.ok (.ref i) ph'/\Ex ph ph'/\Bf G L L.length/\Tb ph' i ph.length ph'.length (EE (jb G (Zi G.length []) (up (ks L) G.length)))/\Sm (jb G (Zi G.length []) (up (ks L) G.length)) 200:=by
 obtain⟨H1,e1,x1,t1⟩:=Rl (m:=aa 0) (σ:=[some (.ref wi),none,none,none]) hw hG rfl;obtain⟨di,H2,L,e2,x2,hd,b⟩:=PZ (hw.mono x1) hG;have e3:=DG b.toBa hG hd;have ht:=hG.top;generalize uw:up (ks L) G.length=bs at e3;have XX:∀x∈bs,x<G.length:=fun x hx=>by
  rw[<- uw] at hx;unfold up at hx;exact aaq.mp (aar.mp hx).1
 have Gn:bs.length<=61:=by
  rw[<- uw];unfold up;have:=abY (fun k=>decide (k∈ks L)) (ZS G.length);rw[ZI] at this;omega
 have x3:Ex H2 (H2++[.lst (iw bs)]):=Ex.one _ _;have l1:=x1.len;have l2:=x2.len;have k0:km ph (H2++[.lst (iw bs)]) (H2++[.lst (iw bs)]) ph.length ph.length H1.length (Zi G.length []) 0:=
  ⟨(t1.ex x2 (Zf _)).ex x3 (by omega),Sm.rep _,(x1.trans x2).trans x3,fun _ _=>rfl,rfl⟩
 have hq:(H2++[PO.lst (iw bs)])[H2.length]? =some (.lst (iw bs)):=bz _ _;obtain⟨aj,H',e4,o2,o3,N,rfl,hN,k⟩:=mV (chk:=fun p=>decide (p[H2.length]? =some (.lst (iw bs)))) (g:=gN 2) (b:=r9)
  (fun j σ H=>∃o2 o3 N,σ=[some (.ref wi),some (.ref ph.length),o2,o3]/\N<=3*j/\km ph (H2++[.lst (iw bs)]) H ph.length ph.length H1.length (jb G (Zi G.length []) (bs.take j)) N)
  (iw bs) [some (.ref wi),some (.ref ph.length),none,none] (H2++[.lst (iw bs)])
  (fun j σ H zb=>by obtain⟨_,_,_,_,_,k⟩:=zb;exact decide_eq_true (by rw[k.out _ (.inr l2)];exact hq))
  (fun j x σ H hj XY=>by
   obtain⟨o2,o3,N,e,hN,k⟩:=XY;subst e;obtain⟨bb,hb,rfl⟩:=wU hj;have gX:=(Zb.mp hb).1;obtain⟨H',kJ,N',e,Y0,k'⟩:=P1 (o3:=o3) hG hw (XX bb (Zj hb)) k (by rw[Bj,abT]) (by omega) (Zf _);rw[<- NO,<- vz hb] at k';exact⟨_,_,rfl,_,_,e,_,.inl rfl,_,kJ,N',rfl,by omega,k'⟩)
  ⟨none,none,0,rfl,Zf _,k0⟩
 rw[gP] at hN k;rw[abB] at k;have kl:=k.ln;refine⟨ph.length,L,H',?_,k.ex,b,?_,fun l hl=>Zq (k.sm l (by rw[<- uw];exact hl)) (by omega)⟩
 ·unfold we ly;rw[ki];refine kj (P:=fun r=>r=.ok (.ref ph.length) H') (σ1:=[some (.ref wi),some (.ref ph.length),none,none]) (ph1:=H1) ?_ ?_
  ·exact(aW e1).trans rfl
  ·refine kj (P:=fun r=>r=.ok (.ref ph.length) H') (fN (fL (i:=H2.length) ?_ hq) e4) rfl;ac_nf;refine aw e2 ?_;ac_nf;exact e3
 ·rw[uw];obtain⟨ws,t⟩:=k.t;have hh:H1.length<=H'.length:=by rw[kl];simp;omega
  exact⟨ws,t.at_,t.len,t.li,by have:=t.ih;omega,fun k w c hw hc=>(t.ent k w c hw hc).mono (fun _ _ _=>rfl) (Zf _) hh,t.inj⟩
inductive Wd where
 | sum | less | times | part | below | alike
inductive Row where
 | gy (a:Int) (w:Wd) (b c:Int)
 | put (a n:Int)
 | move (a b:Int)
 | pull (a b:Int)
 | push (a b:Int)
 | take (a:Int)
 | tell (a:Int)
 | turn
inductive En where
 | go (k:Nat)
 | iff (v:Int) (a b:Nat)
 | fin
structure bM where
 rs:List Row
 en:En
abbrev Dc:=List (Int×Int)
def gt(l:Dc)(k:Int):Int:=((l.find? fun p=>decide (p.1=k)).map (·.2)).getD 0
def pt(l:Dc)(k v:Int):Dc:=if l.any (fun p=>decide (p.1=k)) then l.map (fun p=>if p.1=k then(p.1,v) else p) else l++[(k,v)]
structure S where
 bx:Dc
 sl:Dc
 told:List Int
 tk:Nat
 tn:Int
abbrev Rs:=String×List Int×Nat
def S.by(s:S)(x:String):Rs:=(x,s.told,s.tk)
def kn(n:Int):Int:=n-(n+2147483648).fdiv 4294967296*4294967296
def dd:Wd->Int->Int->Int
 | .sum,a,b=>kn (a+b)
 | .less,a,b=>kn (a-b)
 | .times,a,b=>kn (a*b)
 | .part,a,b=>kn (a.fdiv b)
 | .below,a,b=>if a<b then 1 else 0
 | .alike,a,b=>if a=b then 1 else 0
def dB(I:List Int)(s:S):Row->Sum Rs S
 | .turn=>if s.tn=0 then .inl (s.by "dry") else .inr { s with tn:=s.tn-1 }
 | .gy a .part b c=>if gt s.bx c=0 then .inl (s.by "nought") else .inr { s with bx:=pt s.bx a (dd .part (gt s.bx b) (gt s.bx c)) }
 | .gy a w b c=>.inr { s with bx:=pt s.bx a (dd w (gt s.bx b) (gt s.bx c)) }
 | .put a n=>.inr { s with bx:=pt s.bx a n }
 | .move a b=>.inr { s with bx:=pt s.bx a (gt s.bx b) }
 | .pull a b=>.inr { s with bx:=pt s.bx a (gt s.sl b) }
 | .push a b=>.inr { s with sl:=pt s.sl a (gt s.bx b) }
 | .take a=>.inr { s with bx:=pt s.bx a (I.getD s.tk 0),tk:=s.tk+1 }
 | .tell a=>.inr { s with told:=s.told++[gt s.bx a] }
def cR(I:List Int):List Row->S->Sum Rs S
 | [],s=>.inr s
 | r::rs,s=>match dB I s r with
  | .inl x=>.inl x
  | .inr s=>cR I rs s
def er(s:S):En->Option Nat
 | .go k=>some k
 | .iff v a b=>some (if gt s.bx v=0 then b else a)
 | .fin=>none
def run(I:List Int)(B:List bM):Nat->Nat->S->Rs
 | 0,_,s=>s.by "long"
 | f+1,k,s=>match B[k]? with
  | none=>s.by "long"
  | some b=>match cR I b.rs s with
   | .inl r=>r
   | .inr s=>match er s b.en with
    | none=>s.by "done"
    | some k=>run I B f k s
def En.to:En->List Nat
 | .go k=>[k]
 | .iff _ a b=>[a,b]
 | .fin=>[]
def En.mp(h:Nat->Nat):En->En
 | .go k=>.go (h k)
 | .iff v a b=>.iff v (h a) (h b)
 | .fin=>.fin
theorem wX(s:S)(h:Nat->Nat)(e:En):er s (e.mp h)=(er s e).map h:=by
 cases e with
 | go k=>rfl
 | fin=>rfl
 | iff v a b=>
  simp only[er,En.mp,ZN];split <;> rfl
theorem DH{s:S}{e:En}(h:er s e=some k):k∈e.to:=by
 cases e with
 | go j=>cases h;simp[En.to]
 | fin=>cases h
 | iff v a b=>
  simp only[er,Option.some.injEq] at h;rw[<- h];split <;> simp[En.to]
theorem sL(I:List Int):∀(xs ys:List Row) (s:S),cR I (xs++ys) s=match cR I xs s with | .inl r=>.inl r | .inr s=>cR I ys s
 | [],ys,s=>rfl
 | x::xs,ys,s=>by
  simp only[List.cons_append,cR];cases dB I s x with
  | inl r=>rfl
  | inr s'=>exact sL I xs ys s'
def jk(r:Rs):Prop:=r.1≠"long"
theorem BR{I:List Int}{B:List bM}:∀{f:Nat} {k:Nat} {s:S} {r:Rs},run I B f k s=r->jk r->∀g,f<=g->run I B g k s=r
 | 0,k,s,r,h,hr,g,_=>absurd (by rw[<- h];rfl) hr
 | f+1,k,s,r,h,hr,g,hg=>by
  obtain⟨g,rfl⟩:∃g',g=g'+1:=⟨g-1,by omega⟩
  unfold run at h ⊢;cases hb:B[k]? with
  | none=>simp only[hb] at h ⊢;exact h
  | some b=>
   simp only[hb] at h ⊢;cases kA:cR I b.rs s with
   | inl x=>simp only[kA] at h ⊢;exact h
   | inr s'=>
    simp only[kA] at h ⊢;cases he:er s' b.en with
    | none=>simp only[he] at h ⊢;exact h
    | some k'=>simp only[he] at h ⊢;exact BR h hr g (by omega)
def cw(B:List bM):Nat->Nat->Nat
 | 0,k=>k
 | f+1,k=>match B[k]? with
  | some ⟨[],.go j⟩=>cw B f j
  | _=>k
theorem wg{I:List Int}{B:List bM}:∀{n f k:Nat} {s:S} {r:Rs},run I B f k s=r->jk r->∃g,g<=f/\run I B g (cw B n k) s=r
 | 0,f,k,s,r,h,_=>⟨f,Zf _,h⟩
 | n+1,f,k,s,r,h,hr=>by
  unfold cw;split
  ·rename_i j hb;cases f with
   | zero=>exact absurd (by rw[<- h];rfl) hr
   | succ f=>
    unfold run at h;simp only[hb,cR,er] at h;obtain⟨g,hg,e⟩:=wg (n:=n) h hr;exact⟨g,by omega,e⟩
  ·exact⟨f,Zf _,h⟩
theorem DI{B:List bM}(hB:∀(k:Nat) b,B[k]? =some b->∀j∈b.en.to,j<B.length):∀{n k:Nat},k<B.length->cw B n k<B.length
 | 0,k,h=>h
 | n+1,k,h=>by
  unfold cw;split
  ·rename_i j hb;exact DI hB (hB k _ hb j (by simp[En.to]))
  ·exact h
def Way(E:List En):List Nat->Prop
 | []=>False
 | [_]=>True
 | k::j::l=>E[k]? =some (.go j)/\Way E (j::l)
def rowsOf(B:List bM)(l:List Nat):List Row:=l.flatMap fun k=>match B[k]? with | some b=>b.rs | none=>[]
def eE(B:List bM):List En:=B.map fun b=>b.en.mp (cw B B.length)
variable{B:List bM}
theorem wj{b:bM}(h:B[k]? =some b):(eE B)[k]? =some (b.en.mp (cw B B.length)):=by
 unfold eE;rw[Ze,h];rfl
theorem CK{I:List Int}{B:List bM}:∀{l:List Nat} {f k z:Nat} {s:S} {r:Rs},Way (eE B) (k::l)->(∀x∈k::l,x<B.length)->(k::l).getLast? =some z->run I B f k s=r->jk r →
  cR I (rowsOf B (k::l)) s=.inl r\/∃s' e g,cR I (rowsOf B (k::l)) s=.inr s'/\(eE B)[z]? =some e/\g<f/\match er s' e with | none=>r=s'.by "done" | some t=>run I B g t s'=r
 | [],f,k,z,s,r,hw,cB,hz,h,hr=>by
  have hz:z=k:=by simpa using hz.symm
  subst hz;cases f with
  | zero=>exact absurd (by rw[<- h];rfl) hr
  | succ f=>
   obtain⟨b,hb⟩:∃b,B[z]? =some b:=bR (cB z (by simp));unfold run at h;simp only[hb] at h;simp only[rowsOf,acI,List.flatMap_nil,hb,aak];cases hq:cR I b.rs s with
   | inl x=>simp only[hq] at h;exact .inl (by rw[h])
   | inr s'=>
    simp only[hq] at h
    right
    cases he:er s' b.en with
    | none=>
     simp only[he] at h;exact⟨s',_,f,rfl,wj hb,by omega,by rw[wX,he];exact h.symm⟩
    | some t=>
     simp only[he] at h;obtain⟨g,hg,e⟩:=wg (n:=B.length) h hr;exact⟨s',_,g,rfl,wj hb,by omega,by rw[wX,he];exact e⟩
 | j::l,f,k,z,s,r,hw,cB,hz,h,hr=>by
  cases f with
  | zero=>exact absurd (by rw[<- h];rfl) hr
  | succ f=>
   obtain⟨b,hb⟩:∃b,B[k]? =some b:=bR (cB k (by simp));obtain⟨hV,eA⟩:=hw;have yE:(j::l).getLast? =some z:=by simpa[acU] using hz
   have e0:rowsOf B (k::j::l)=b.rs++rowsOf B (j::l):=by unfold rowsOf;rw[acI,hb]
   rw[e0,sL];unfold run at h;simp only[hb] at h;cases hq:cR I b.rs s with
   | inl x=>simp only[hq] at h;exact .inl (by rw[h])
   | inr s'=>
    simp only[hq] at h;rw[wj hb] at hV;cases he:b.en with
    | go t=>
     rw[he] at hV h;simp only[er] at h;have et:cw B B.length t=j:=by simpa[En.mp] using hV
     obtain⟨g,hg,e⟩:=wg (n:=B.length) h hr;rw[et] at e
     rcases CK eA (fun x hx=>cB x (ZD _ hx)) yE e hr with q | ⟨s2,e2,g2,q1,q2,q3,q4⟩
     ·exact .inl q
     ·exact .inr ⟨s2,e2,g2,q1,q2,by omega,q4⟩
    | iff v a c=>rw[he] at hV;simp[En.mp] at hV
    | fin=>rw[he] at hV;simp[En.mp] at hV
structure ud(B NB:List bM)(J:List (List Nat))(h:Nat->Nat):Prop where
 len:NB.length=J.length
 blk:∀(j:Nat) l,J[j]? =some l->∃k l' z e,l=k::l'/\Way (eE B) l/\(∀x∈l,x<B.length)/\l.getLast? =some z/\(eE B)[z]? =some e/\NB[j]? =some ⟨rowsOf B l,e.mp h⟩/\∀t∈e.to,∃l2,J[h t]? =some (t::l2)
 zero:∃l,J[0]? =some (0::l)
variable{I:List Int}
theorem Rn{NB:List bM}{J:List (List Nat)}{h:Nat->Nat}(T:ud B NB J h):∀(f:Nat) {k j:Nat} {l:List Nat} {s:S} {r:Rs},J[j]? =some (k::l)->run I B f k s=r->jk r->run I NB f j s=r:=by
 intro f
 induction f using adn with
 | ind f ih=>
  intro k j l s r hJ d6 hr;obtain⟨k2,l2,z,e,e1,hw,cB,hz,he,hn,ht⟩:=T.blk j _ hJ;cases f with
  | zero=>exact absurd (by rw[<- d6];rfl) hr
  | succ f=>
   unfold run;simp only[hn]
   rcases CK hw cB hz d6 hr with q | ⟨s',e',g,q1,q2,q3,q4⟩
   ·simp only[q]
   ·rw[he] at q2;cases q2;simp only[q1,wX];cases hq:er s' e with
    | none=>rw[hq] at q4;simp only[Option.map_none];exact q4.symm
    | some t=>
     rw[hq] at q4;simp only[ZN];obtain⟨l3,ur⟩:=ht t (DH hq);exact BR (ih g q3 ur q4 hr) hr f (by omega)
variable{s':S}
theorem DJ{s:S}{r:Row}(h:dB I s r=.inr s')(h0:0<=s.tn):s'.tn<=s.tn/\0<=s'.tn/\(r=.turn->s'.tn<=s.tn-1):=by
 cases r with
 | turn=>
  simp only[dB] at h;split at h
  ·cases h
  ·cases h;refine⟨?_,?_,fun _=>?_⟩ <;> simp only <;> omega
 | gy a w b c=>
  cases w <;> simp only[dB] at h
  case part=>
   split at h
   ·cases h
   ·cases h;exact⟨adG _,h0,fun z=>nomatch z⟩
  all_goals cases h;exact⟨adG _,h0,fun z=>nomatch z⟩
 | _=>cases h;exact⟨adG _,h0,fun z=>nomatch z⟩
theorem wk{I:List Int}:∀{rs:List Row} {s s':S},cR I rs s=.inr s'->0<=s.tn->s'.tn<=s.tn/\0<=s'.tn
 | [],s,s',h,h0=>by cases h;exact⟨adG _,h0⟩
 | r::rs,s,s',h,h0=>by
  unfold cR at h;cases hq:dB I s r with
  | inl x=>rw[hq] at h;cases h
  | inr s1=>
   rw[hq] at h;have a:=DJ hq h0;have b:=wk h a.2.1;exact⟨by omega,b.2⟩
theorem Ro{rs:List Row}{s:S}(h:cR I (.turn::rs) s=.inr s')(h0:0<=s.tn):s'.tn<=s.tn-1/\0<=s'.tn:=by
 unfold cR at h;cases hq:dB I s .turn with
 | inl x=>rw[hq] at h;cases h
 | inr s1=>
  rw[hq] at h;have a:=DJ hq h0;have b:=wk h a.2.1;exact⟨by have:=a.2.2 rfl;omega,b.2⟩
theorem wm(s:S){x:String}(h:x≠"long"):jk (s.by x):=h
theorem P2{s:S}{r:Row}{x:Rs}(h:dB I s r=.inl x):jk x:=by
 cases r with
 | turn=>
  simp only[dB] at h;split at h
  ·cases h;exact wm s (by decide)
  ·cases h
 | gy a w b c=>
  cases w <;> simp only[dB] at h
  case part=>
   split at h
   ·cases h;exact wm s (by decide)
   ·cases h
  all_goals cases h
 | _=>cases h
theorem Bk{I:List Int}:∀{rs:List Row} {s:S} {x:Rs},cR I rs s=.inl x->jk x
 | [],s,x,h=>by cases h
 | r::rs,s,x,h=>by
  unfold cR at h;cases hq:dB I s r with
  | inl y=>rw[hq] at h;cases h;exact P2 hq
  | inr s1=>rw[hq] at h;exact Bk h
def mn(b:bM):Prop:=∃rs,b.rs=.turn::rs
def Gp(B:List bM):Prop:=∀(k:Nat) b,B[k]? =some b->∀j∈b.en.to,j<B.length/\(k<j\/(∃c,B[j]? =some c/\mn c)\/mn b)
open Classical in
noncomputable def left(B:List bM)(k:Nat)(s:S):Nat:=(2*s.tn.toNat+if ∃b,B[k]? =some b/\mn b then 0 else 1)*(B.length+1)+(B.length-k)
theorem BS{I:List Int}{B:List bM}(hF:Gp B):∀(f:Nat) {k:Nat} {s:S},k<B.length->0<=s.tn->left B k s<f->jk (run I B f k s)
 | 0,k,s,_,_,h=>absurd h (Nat.not_lt_zero _)
 | f+1,k,s,hk,h0,h=>by
  obtain⟨b,hb⟩:∃b,B[k]? =some b:=bR hk;unfold run;simp only[hb];cases hq:cR I b.rs s with
  | inl x=>exact Bk hq
  | inr s'=>
   simp only;have t1:=wk hq h0;cases he:er s' b.en with
   | none=>exact wm s' (by decide)
   | some j=>
    obtain⟨hj,zd⟩:=hF k b hb j (DH he);refine BS hF f hj t1.2 ?_;unfold left at h ⊢;have key:∀{a a' N x x':Nat},a'<a->x'<=N->a*(N+1)+x<f+1->a'*(N+1)+x'<f:=fun{a a' N x x'} h1 h2 h3=>by
     have:=adz (N+1) (Nat.succ_le_of_lt h1);rw[adg] at this;omega
    by_cases jA:mn b
    ·obtain⟨rs,mq⟩:=jA;rw[mq] at hq;have t2:=Ro hq h0;refine key ?_ (Nat.sub_le _ _) h;split <;> split <;> omega
    ·have n1:¬ ∃b,B[k]? =some b/\mn b:=fun⟨c,e,z⟩=>by rw[hb] at e;cases e;exact jA z
     rw[if_neg n1] at h;by_cases hc:∃c,B[j]? =some c/\mn c
     ·rw[if_pos hc];exact key (by omega) (Nat.sub_le _ _) h
     ·rw[if_neg hc];have Y1:k<j:=by
       rcases zd with z | z | z
       ·exact z
       ·exact absurd z hc
       ·exact absurd z jA
      have:(2*s'.tn.toNat+1)*(B.length+1)<=(2*s.tn.toNat+1)*(B.length+1):=adz _ (by omega);omega
variable{ph2:PH}
theorem aB{e:EM}{r:AM}{w:W}(h:e σ ph=.ok w ph1)(h2:r σ ph1=.ok ws ph2):ae e r σ ph=.ok (w::ws) ph2:=aw h (aw h2 rfl)
variable{y:String}{c:Bool}
theorem wq(x:String)(h:aa i σ=au (.tup (.str x::ws)))(hc:decide (x=y)=c):eT (ab aQ (ab ag (aa i) (eC (.int 0))) (eC (.str y))) σ ph=.ok c ph:=by
 rw[fv,c8,c8,h,<- hc];ac_nf
theorem tF{a b:TM}(h:a σ ph=.ok false ph1):dJ a b σ ph=.ok false ph1:=aw h rfl
theorem tT{a b:TM}{r:Out Bool}(h:a σ ph=.ok true ph1)(h2:b σ ph1=r):dJ a b σ ph=r:=aw h h2
def dI(l:Dc):List (W×W):=l.map fun p=>(W.int p.1,W.int p.2)
theorem Gq(l:Dc)(k:Int):cQ (dI l) (.int k)=true:=by
 unfold cQ;have:(dI l).all (fun p=> !iR p.1)=true:=by
  rw[aam];intro p hp;obtain⟨x,_,rfl⟩:=ZO.mp hp;rfl
 rw[this];rfl
theorem EC(a k:Int):decide (W.int a=W.int k)=decide (a=k):=decide_eq_decide.mpr ⟨fun z=>W.int.inj z,fun z=>z▸rfl⟩
theorem TU(l:Dc)(k:Int):(c4 (dI l) (.int k)).getD (.int 0)=.int (gt l k):=by
 unfold c4 dI gt;rw[List.find?_map,Option.map_map];have:((fun p:W×W=>decide (p.1=W.int k))∘fun p:Int×Int=>(W.int p.1,W.int p.2))=fun p:Int×Int=>decide (p.1=k):=by
  funext p
  exact EC p.1 k
 rw[this];cases l.find? fun p=>decide (p.1=k) <;> rfl
theorem TV(l:Dc)(k v:Int):dw (dI l) (.int k) (.int v)=dI (pt l k v):=by
 unfold dw pt;have e:((dI l).any fun p=>decide (p.1=.int k))=l.any fun p=>decide (p.1=k):=by
  unfold dI;rw[adZ]
  congr 1
  funext p
  exact EC p.1 k
 rw[e];split
 ·unfold dI;rw[aaC,aaC];apply abE;intro p _;simp only[abM];by_cases h:p.1=k
  ·rw[if_pos (by rw[h]),if_pos h]
  ·rw[if_neg (fun z=>h (W.int.inj z)),if_neg h]
 ·unfold dI;rw[abl];rfl
def dE(v:Int):Prop:= -(2 ^ 32)<=v/\v<=2 ^ 32
def mr(l:Dc):Prop:=∀p∈l,dE p.2
theorem mr.gt{l:Dc}(h:mr l)(k:Int):dE (gt l k):=by
 unfold K26.gt;cases e:l.find? fun p=>decide (p.1=k) with
 | none=>exact⟨by decide,by decide⟩
 | some p=>exact h p (acy e)
theorem mr.pt{l:Dc}(h:mr l){k v:Int}(hv:dE v):mr (pt l k v):=fun p hp=>by
 unfold K26.pt at hp;split at hp
 ·obtain⟨q,hq,rfl⟩:=ZO.mp hp;split
  ·exact hv
  ·exact h q hq
 ·rcases aaA.mp hp with z | z
  ·exact h p z
  ·rw[ZQ.mp z];exact hv
theorem DK(l:Dc)(k v:Int):(pt l k v).length<=l.length+1:=by
 unfold pt;split
 ·rw[Zd];omega
 ·simp
theorem kK{d:Nat}{l:Dc}{k:Int}{o e:EM}(hd:H[d]? =some (.aF (dI l)))(ho:o σ H=.ok (.ref d) H)(he:e σ H=.ok (.int k) H):cI fB fC o (ae e (ae (eC (.int 0)) ak)) σ H=.ok (.int (gt l k)) H:=by
 rw[mU];refine aw ho (aw (Q6 hd) (aw (aB he rfl) ?_));rw[Q7 hd (Gq l k),TU]
theorem oG{d:Nat}{l:Dc}{k v:Int}{o i e:EM}(he:e σ H=.ok (.int v) H1)(hd:H1[d]? =some (.aF (dI l)))(hl:l.length<1000000)(ho:o σ H1=.ok (.ref d) H1)(hi:i σ H1=.ok (.int k) H1):aI e (fu o i) σ H=.ok (.nx σ) (H1.set d (.aF (dI (pt l k v)))):=by
 rw[pj];refine aw he ?_;rw[sH];refine aw (aw ho (aw hi (aw (vK hd (Gq l k) (by unfold dI;rw[Zd];exact Zg hl (by decide)) _) rfl))) ?_;rw[TV];rfl
theorem Rp(n:Int):dE (kn n):=by
 have q:=k9 (n+2147483648) 4294967296 (by decide);have:=Int.mul_fdiv_add_fmod (n+2147483648) 4294967296;unfold kn dE;omega
theorem TX(w:Wd)(a b:Int):dE (dd w a b):=by
 cases w
 case below=>
  show dE (if a<b then 1 else 0);by_cases h:a<b
  ·rw[if_pos h];exact⟨by decide,by decide⟩
  ·rw[if_neg h];exact⟨by decide,by decide⟩
 case alike=>
  show dE (if a=b then 1 else 0);by_cases h:a=b
  ·rw[if_pos h];exact⟨by decide,by decide⟩
  ·rw[if_neg h];exact⟨by decide,by decide⟩
 all_goals exact Rp _
theorem ED(n:Int):oT [.int n]=au (.int (kn n)):=by
 unfold oT jJ
 push_cast [xu (show(4294967296:Int)≠0 by decide) (by decide),xt (nr (a:=(n+2147483648).fdiv 4294967296) (b:=4294967296) (by decide) (by decide))]
 rfl
def Wd.s:Wd->String
 | .sum=>"sum"
 | .less=>"less"
 | .times=>"times"
 | .part=>"part"
 | .below=>"below"
 | .alike=>"alike"
theorem wv(x:String)(h:aa i σ=au (.str x))(hc:decide (x=y)=c):eT (ab aQ (aa i) (eC (.str y))) σ ph=.ok c ph:=by
 rw[fv,c8,h,<- hc];ac_nf
theorem TY(w:Wd){a b:Int}(ha:dE a)(hb:dE b)(h0:w=.part->b≠0)(H:PH):∃H',u9 [.str w.s,.int a,.int b] H=.ok (.int (dd w a b)) H'/\Ex H H':=by
 obtain⟨qE,qy⟩:=ha;obtain⟨fH,jA⟩:=hb;have o1:∀(x:String) {y z:String} {c:Bool} {σ:aK},aa 0 σ=au (.str x)->(decide (x=y)||decide (x=z))=c->d0 (eT (ab aQ (aa 0) (eC (.str y)))) (eT (ab aQ (aa 0) (eC (.str z)))) σ H=.ok c H:=fun x {y z c σ} h hc=>by
  rw[lx,aW (wv x h rfl),<- hc];cases decide (x=y)
  ·exact wv x h rfl
  ·rfl
 have lst:∀(x:String) (j:Nat) (v:Int),["sum","less","times"].findIdx? (fun s=>decide (s=x))=some j->[a+b,a-b,a*b][j]? =some v->∃H',a7 oT (ae (ab ag (bJ (ae (ab addW (aa 1) (aa 2)) (ae (ab fS (aa 1) (aa 2)) (ae (ab bH (aa 1) (aa 2)) ak)))) (cI cz nj (bJ (ae (eC (.str "sum")) (ae (eC (.str "less")) (ae (eC (.str "times")) ak)))) (ae (aa 0) ak))) ak) [some (.str x),some (.int a),some (.int b)] H=.ok (.int (kn v)) H'/\Ex H H':=fun x j v hj hv=>by
  obtain⟨H1,e1⟩:∃H1,H1=H++[PO.lst ([a+b,a-b,a*b].map W.int)]:=⟨_,rfl⟩
  obtain⟨H2,e2⟩:∃H2,H2=H1++[PO.lst (["sum","less","times"].map fun s=>.str (Zv s))]:=⟨_,rfl⟩
  have g1:H2[H.length]? =some (PO.lst ([a+b,a-b,a*b].map W.int)):=by
   rw[e2];exact(Ex.one _ _).get (by rw[e1];exact bz _ _)
  have g2:H2[H1.length]? =some (PO.lst (["sum","less","times"].map fun s=>.str (Zv s))):=by rw[e2];exact bz _ _
  have gF:b9 ([a+b,a-b,a*b].map W.int) (j:Int)=some (.int v):=by
   have:=(Zb.mp hv).1;rw[eR _ _ (by rw[Zd];exact this),Ze,hv];rfl
  refine⟨H2,?_,by rw[e2,e1];exact(Ex.one _ _).trans (Ex.one _ _)⟩;rw[vI];refine aw (aB (w:=.int v) (ph1:=H2) ?_ rfl) (by rw[ED];rfl);rw[c8];refine aw (ph':=H1) (a:=.ref H.length) ?_ (aw (ph':=H2) (a:=.int j) ?_ (eU g1 gF))
  ·rw[pk];refine aw (aB (ph1:=H) (w:=.int (a+b)) rfl (aB (ph1:=H) (w:=.int (a-b)) rfl (aB (ph1:=H) (w:=.int (a*b)) ?_ rfl))) (by rw[e1];exact wL [.int (a+b),.int (a-b),.int (a*b)] H (small (by simp)))
   push_cast [xt (nr (a:=a) (b:=b) (by omega) (by omega))]
  ·rw[mU];refine aw (ph':=H2) (a:=.ref H1.length) (by rw[e2];rfl) (aw (pv g2) (aw (aB rfl rfl) (Nw x ["sum","less","times"] g2 hj)))
 unfold u9 la;rw[nY];cases w with
 | below=>exact⟨H,eP (cC (o1 "below" rfl rfl) (retS (by unfold dd Wd.s;ac_nf;by_cases h:a<b <;> simp[h] <;> rfl))),Ex.refl _⟩
 | alike=>exact⟨H,eP (cC (o1 "alike" rfl rfl) (retS (by unfold dd Wd.s;ac_nf;by_cases h:a=b <;> by_cases h2:a<b <;> simp[h,h2] <;> rfl))),Ex.refl _⟩
 | part=>
  refine⟨H,bq (aS (o1 "part" rfl rfl) rfl) (eP (cC (wv "part" rfl rfl) (retS ?_))),Ex.refl _⟩
  push_cast [xu (h0 rfl) (show b.natAbs<2 ^ 64 by omega),ED]
  rfl
 | sum=>
  obtain⟨H',e,x⟩:=lst "sum" 0 _ (by decide) rfl;exact⟨H',bq (aS (o1 "sum" rfl rfl) rfl) (bq (aS (wv "sum" rfl rfl) rfl) (br e)),x⟩
 | less=>
  obtain⟨H',e,x⟩:=lst "less" 1 _ (by decide) rfl;exact⟨H',bq (aS (o1 "less" rfl rfl) rfl) (bq (aS (wv "less" rfl rfl) rfl) (br e)),x⟩
 | times=>
  obtain⟨H',e,x⟩:=lst "times" 2 _ (by decide) rfl;exact⟨H',bq (aS (o1 "times" rfl rfl) rfl) (bq (aS (wv "times" rfl rfl) rfl) (br e)),x⟩
def Row.w:Row->W
 | .gy a w b c=>.tup [.str "do",.int a,.str w.s,.int b,.int c]
 | .put a n=>.tup [.str "put",.int a,.int n]
 | .move a b=>.tup [.str "move",.int a,.int b]
 | .pull a b=>.tup [.str "pull",.int a,.int b]
 | .push a b=>.tup [.str "push",.int a,.int b]
 | .take a=>.tup [.str "take",.int a]
 | .tell a=>.tup [.str "tell",.int a]
 | .turn=>.tup [.str "turn"]
def En.w:En->W
 | .go k=>.tup [.str "go",.int k]
 | .iff v a b=>.tup [.str "if",.int v,.int a,.int b]
 | .fin=>.tup [.str "end"]
def gq:Row->Prop
 | .put _ n=>dE n
 | _=>True
theorem oH{a b:SM}{w:W}(h:a σ ph=.ok (.rt w) ph1):aC a b σ ph=.ok (.rt w) ph1:=by
 rw[m5,aW h];rfl
theorem eS(x:String){e:EM}(h:e σ=au (.str x))(hc:decide (x=y)=c):eT (ab aQ e (eC (.str y))) σ ph=.ok c ph:=by
 rw[fv,c8,h,<- hc];ac_nf
theorem eI{g z:Int}{e:EM}(h:e σ ph=.ok (.int g) ph1)(hc:decide (g=z)=c):eT (ab aQ e (eC (.int z))) σ ph=.ok c ph1:=by
 rw[fv,c8,dG,aW h,<- hc];ac_nf
structure RI(ph H:PH)(m:Nat)(s:S):Prop where
 ex:Ex ph H
 b:H[ph.length]? =some (.aF (dI s.bx))
 l:H[ph.length+1]? =some (.aF (dI s.sl))
 t:H[ph.length+2]? =some (.lst (s.told.map W.int))
 nb:s.bx.length<=m
 nl:s.sl.length<=m
 nt:s.told.length<=m
 nk:s.tk<=m
 vb:mr s.bx
 vl:mr s.sl
theorem RI.mono{s:S}(R:RI ph H m s)(x:Ex H H1):RI ph H1 m s:=⟨R.ex.trans x,x.get R.b,x.get R.l,x.get R.t,R.nb,R.nl,R.nt,R.nk,R.vb,R.vl⟩
theorem RI.bx{ph H:PH}{m:Nat}{s:S}(R:RI ph H m s){k v:Int}(hv:dE v):RI ph (H.set ph.length (.aF (dI (pt s.bx k v)))) (m+1) { s with bx:=pt s.bx k v }:=by
 have n1:=R.nb;have n2:=R.nl;have n3:=R.nt;have n4:=R.nk;have n5:=DK s.bx k v;exact⟨Ex.set R.ex (Zf _) _,fO R.b,(dj (by omega)).trans R.l,(dj (by omega)).trans R.t,by simp only;omega,by simp only;omega,by simp only;omega,by simp only;omega,R.vb.pt hv,R.vl⟩
theorem RI.sl{ph H:PH}{m:Nat}{s:S}(R:RI ph H m s){k v:Int}(hv:dE v):RI ph (H.set (ph.length+1) (.aF (dI (pt s.sl k v)))) (m+1) { s with sl:=pt s.sl k v }:=by
 have n1:=R.nb;have n2:=R.nl;have n3:=R.nt;have n4:=R.nk;have n5:=DK s.sl k v;exact⟨Ex.set R.ex (by omega) _,(dj (by omega)).trans R.b,fO R.l,(dj (by omega)).trans R.t,by simp only;omega,by simp only;omega,by simp only;omega,by simp only;omega,R.vb,R.vl.pt hv⟩
abbrev st(bi ii p:Nat)(s:S)(o7 o8 o9 o10:Option W):aK:=[some (.ref bi),some (.ref ii),some (.int s.tn),some (.ref p),some (.ref (p+1)),some (.ref (p+2)),some (.int s.tk),o7,o8,o9,o10]
def ko(p:Nat)(y:String)(s:S):W:=.tup [.str y,.ref (p+2),.int s.tk]
structure jl(ph:PH)(ii:Nat)(I:List Int):Prop where
 at_:ph[ii]? =some (.lst (I.map W.int))
 len:I.length<=10
 Gr:∀x∈I,dE x
variable{ii:Nat}
theorem jl.get(h:jl ph ii I)(k:Nat):dE (I.getD k 0):=by
 rw[aav];cases e:I[k]? with
 | none=>exact⟨by decide,by decide⟩
 | some x=>exact h.Gr x (Zj e)
theorem pP{s:S}{r:Row}(R:RI ph H m s)(hr:gq r)(hm:m<100000)(h:dB I s r=.inr s')(hn:match r with | .turn=>False | .take _=>False | .tell _=>False | _=>True) :
  ∃H',oN [r.w,.ref ph.length,.ref (ph.length+1)] H=.ok .aG H'/\RI ph H' (m+1) s'/\s'.tn=s.tn/\s'.tk=s.tk:=by
 have hb:s.bx.length<1000000:=abf R.nb (by omega);have hl:s.sl.length<1000000:=abf R.nl (by omega);have fin:∀{a:SM} {σ aj:aK} {H H':PH},a σ H=.ok (.nx aj) H'->aq (a σ) dA H=.ok .aG H':=fun h=>aw h rfl
 unfold oN kW;rw[nY];cases r with
 | turn=>exact hn.elim
 | take a=>exact hn.elim
 | tell a=>exact hn.elim
 | put a n=>
  cases h;exact⟨_,fin (cC (wq "put" rfl rfl) (oG rfl R.b hb rfl rfl)),R.bx hr,rfl,rfl⟩
 | move a b=>
  cases h;exact⟨_,fin (aS (wq "move" rfl rfl) (cC (wq "move" rfl rfl) (oG (kK R.b rfl rfl) R.b hb rfl rfl))),R.bx (R.vb.gt _),rfl,rfl⟩
 | pull a b=>
  cases h;exact⟨_,fin (aS (wq "pull" rfl rfl) (aS (wq "pull" rfl rfl) (cC (wq "pull" rfl rfl) (oG (kK R.l rfl rfl) R.b hb rfl rfl)))),R.bx (R.vl.gt _),rfl,rfl⟩
 | push a b=>
  cases h;exact⟨_,fin (aS (wq "push" rfl rfl) (aS (wq "push" rfl rfl) (aS (wq "push" rfl rfl) (cC (wq "push" rfl rfl) (oG (kK R.b rfl rfl) R.l hl rfl rfl))))),R.sl (R.vb.gt _),rfl,rfl⟩
 | gy a w b c=>
  have h0:w=.part->gt s.bx c≠0:=fun z e=>by
   subst z;simp only[dB,e,if_true] at h;cases h
  obtain⟨H1,e1,x1⟩:=TY w (R.vb.gt b) (R.vb.gt c) h0 H;have es:s'={ s with bx:=pt s.bx a (dd w (gt s.bx b) (gt s.bx c)) }:=by
   cases w <;> simp only[dB] at h
   case part=>rw[if_neg (h0 rfl)] at h;cases h;rfl
   all_goals cases h;rfl
  subst es;exact⟨_,fin (aS (wq "do" rfl rfl) (aS (wq "do" rfl rfl) (aS (wq "do" rfl rfl) (aS (wq "do" rfl rfl) (oG (aw (aB rfl (aB (kK R.b rfl rfl) (aB (kK R.b rfl rfl) rfl))) e1) (x1.get R.b) hb rfl rfl))))),(R.mono x1).bx (TX _ _ _),rfl,rfl⟩
variable{bi:Nat}{o7 o8 o9 o10:Option W}
theorem TZ{s:S}(R:RI ph H m s)(hI:jl ph ii I)(hm:m<100000) :
  ∃H',ab ag (ab addW (aa 1) (ab bH (bJ (ae (eC (.int (0))) ak)) (ab addW (aa 6) (eC (.int (1)))))) (aa 6) (st bi ii ph.length s o7 o8 o9 o10) H=.ok (.int (I.getD s.tk 0)) H'/\Ex H H':=by
 have hk:=R.nk;have hi:=hI.len;obtain⟨H1,e1⟩:∃H1,H1=H++[PO.lst [.int 0]]:=⟨_,rfl⟩
 obtain⟨H2,e2⟩:∃H2,H2=H1++[PO.lst (Zi (s.tk+1) [W.int 0]).flatten]:=⟨_,rfl⟩
 obtain⟨H3,e3⟩:∃H3,H3=H2++[PO.lst (I.map W.int++(Zi (s.tk+1) [W.int 0]).flatten)]:=⟨_,rfl⟩
 have x1:Ex H H1:=e1▸Ex.one _ _;have x2:Ex H1 H2:=e2▸Ex.one _ _;have x3:Ex H2 H3:=e3▸Ex.one _ _;have g1:H1[H.length]? =some (.lst [.int 0]):=by rw[e1];exact bz _ _
 have g2:H2[H1.length]? =some (PO.lst (Zi (s.tk+1) [W.int 0]).flatten):=by rw[e2];exact bz _ _
 have g3:H3[H2.length]? =some (PO.lst (I.map W.int++(Zi (s.tk+1) [W.int 0]).flatten)):=by rw[e3];exact bz _ _
 have gi:H2[ii]? =some (.lst (I.map W.int)):=x2.get (x1.get (R.ex.get hI.at_));have fl:∀n:Nat,(Zi n [W.int 0]).flatten=Zi n (W.int 0):=fun n=>by
  induction n with
  | zero=>rfl
  | succ n ih=>rw[aae,aaK,ih,aae];rfl
 have tn:((s.tk:Int)+1).toNat=s.tk+1:=by omega
 have gF:b9 (I.map W.int++(Zi (s.tk+1) [W.int 0]).flatten) (s.tk:Int)=some (.int (I.getD s.tk 0)):=by
  rw[fl,eR _ _ (by simp;omega)];by_cases h:s.tk<I.length
  ·rw[ZU (by simpa using h),Ze,aav,aaE h];rfl
  ·rw[aco (by simpa using h),aaZ,if_pos (by simp;omega),aav,ZY (by omega)];rfl
 refine⟨H3,?_,(x1.trans x2).trans x3⟩;rw[c8];refine aw (ph':=H3) (a:=.ref H2.length) ?_ (aw (ph':=H3) (a:=.int s.tk) rfl (eU g3 gF));rw[c8];refine aw (ph':=H) (a:=.ref ii) rfl (aw (ph':=H2) (a:=.ref H1.length) ?_ ?_)
 ·rw[c8];refine aw (ph':=H1) (a:=.ref H.length) (by rw[e1];rfl) (aw (ph':=H1) (a:=.int ((s.tk:Int)+1)) rfl ?_);rw[vL g1 (by omega) (by omega) (small (by simp only[aat,acj];omega)),tn,e2]
 ·rw[Cz gi g2 (small (by rw[fl];simp;omega)),e3]
theorem Va{s:S}(r:Row)(R:RI ph H m s)(hr:gq r)(hI:jl ph ii I)(hm:m<100000) :
  (∃y,dB I s r=.inl (s.by y)/\kO (st bi ii ph.length s o7 o8 (some r.w) o10) H=.ok (.rt (ko ph.length y s)) H) \/
  (∃s' H',dB I s r=.inr s'/\kO (st bi ii ph.length s o7 o8 (some r.w) o10) H=.ok (.nx (st bi ii ph.length s' o7 o8 (some r.w) o10)) H'/\RI ph H' (m+1) s'):=by
 have hb:s.bx.length<1000000:=abf R.nb (by omega);have n1:=R.nb;have n2:=R.nl;have n3:=R.nt;have n4:=R.nk;have bx:∀{x:String} {ws:List W} {H':PH},x≠"turn"->x≠"take"->x≠"tell"->oN [.tup (.str x::ws),.ref ph.length,.ref (ph.length+1)] H=.ok .aG H' →
   (bI (eT (ab aQ (ab ag (aa 9) (eC (.int (0)))) (eC (.str "turn")))) (aI (ab fS (aa 2) (eC (.int (1)))) (gN 2)) (bI (eT (ab aQ (ab ag (aa 9) (eC (.int (0)))) (eC (.str "take")))) (aC (aI (ab ag (ab addW (aa 1) (ab bH (bJ (ae (eC (.int (0))) ak)) (ab addW (aa 6) (eC (.int (1)))))) (aa 6)) (fu (aa 3) (ab ag (aa 9) (eC (.int (1)))))) (aI (ab addW (aa 6) (eC (.int (1)))) (gN 6))) (bI (eT (ab aQ (ab ag (aa 9) (eC (.int (0)))) (eC (.str "tell")))) (eV (cI cz dH (aa 5) (ae (cI fB fC (aa 3) (ae (ab ag (aa 9) (eC (.int (1)))) (ae (eC (.int (0))) ak))) ak))) (eV (a7 oN (ae (aa 9) (ae (aa 3) (ae (aa 4) ak))))))))
    (st bi ii ph.length s o7 o8 (some (.tup (.str x::ws))) o10) H=.ok (.nx (st bi ii ph.length s o7 o8 (some (.tup (.str x::ws))) o10)) H':=fun{x ws H'} h1 h2 h3 h=>
  aS (wq x rfl (decide_eq_false h1)) (aS (wq x rfl (decide_eq_false h2)) (aS (wq x rfl (decide_eq_false h3)) (aw (aw (aB rfl (aB rfl (aB rfl rfl))) h) rfl)))
 unfold kO;cases r with
 | turn=>
  by_cases h:s.tn=0
  ·exact .inl ⟨"dry",by simp only[dB,h,if_true],oH (cC (tT (wq "turn" rfl rfl) (eI rfl (decide_eq_true h))) (retS rfl))⟩
  ·exact .inr ⟨{ s with tn:=s.tn-1 },H,by simp only[dB,h,if_false],sq (aS (tT (wq "turn" rfl rfl) (eI rfl (decide_eq_false h))) rfl) (sq (aS (tF (wq "turn" rfl rfl)) rfl) (cC (wq "turn" rfl rfl) rfl)),R.ex,R.b,R.l,R.t,by simp only;omega,by simp only;omega,by simp only;omega,by simp only;omega,R.vb,R.vl⟩
 | take a=>
  obtain⟨H1,e1,x1⟩:=TZ (bi:=bi) (o7:=o7) (o8:=o8) (o9:=some (Row.take a).w) (o10:=o10) R hI hm;have R1:=R.mono x1;have R2:=R1.bx (k:=a) (hI.get s.tk);exact .inr ⟨{ s with bx:=pt s.bx a (I.getD s.tk 0),tk:=s.tk+1 },_,rfl,sq (aS (tF (wq "take" rfl rfl)) rfl) (sq (aS (tF (wq "take" rfl rfl)) rfl) (aS (wq "take" rfl rfl) (cC (wq "take" rfl rfl) (sq (oG e1 R1.b hb rfl rfl) rfl)))),R2.ex,R2.b,R2.l,R2.t,R2.nb,R2.nl,R2.nt,by simp only;omega,R2.vb,R2.vl⟩
 | tell a=>
  refine .inr ⟨{ s with told:=s.told++[gt s.bx a] },H.set (ph.length+2) (.lst (s.told.map W.int++[.int (gt s.bx a)])),rfl,sq (aS (tF (wq "tell" rfl rfl)) rfl) (sq (aS (tF (wq "tell" rfl rfl)) rfl) (aS (wq "tell" rfl rfl) (aS (wq "tell" rfl rfl) (cC (wq "tell" rfl rfl) (y4 rfl ⟨_,R.t⟩ (kK R.b rfl rfl) R.t (by rw[Zd];omega)))))),?_⟩;exact⟨Ex.set R.ex (by omega) _,(dj (by omega)).trans R.b,(dj (by omega)).trans R.l,by rw[fO R.t];simp,by simp only;omega,by simp only;omega,by simp only[Zz,aat,acj];omega,by simp only;omega,R.vb,R.vl⟩
 | gy a w b c=>
  have hg:=kK (o:=aa 3) (e:=ab ag (aa 9) (eC (.int (4)))) (σ:=st bi ii ph.length s o7 o8 (some (Row.gy a w b c).w) o10) (k:=c) R.b rfl rfl;by_cases h:w=.part/\gt s.bx c=0
  ·obtain⟨rfl,h⟩:=h;exact .inl ⟨"nought",by simp only[dB,h,if_true],sq (aS (tF (wq "do" rfl rfl)) rfl) (oH (cC (tT (wq "do" rfl rfl) (tT (eS "part" rfl rfl) (eI hg (decide_eq_true h)))) (retS rfl)))⟩
  ·obtain⟨s',hs⟩:∃s',dB I s (.gy a w b c)=.inr s':=by
    cases w
    case part=>
     have h:¬gt s.bx c=0:=fun z=>h ⟨rfl,z⟩
     exact⟨_,if_neg h⟩
    all_goals exact⟨_,rfl⟩
   obtain⟨H',e,R',t1,t2⟩:=pP R hr hm hs trivial;have dM:st bi ii ph.length s o7 o8 (some (Row.gy a w b c).w) o10=st bi ii ph.length s' o7 o8 (some (Row.gy a w b c).w) o10:=by unfold st;rw[t1,t2]
   refine .inr ⟨s',H',hs,sq (aS (tF (wq "do" rfl rfl)) rfl) (sq (aS (tT (wq "do" rfl rfl) ?_) rfl) ((bx (by decide) (by decide) (by decide) e).trans (by rw[<- dM];rfl))),R'⟩;by_cases hw:w.s="part"
   ·refine tT (eS w.s rfl (decide_eq_true hw)) (eI hg (decide_eq_false fun z=>h ⟨?_,z⟩));cases w <;> first | rfl | exact absurd hw (by decide)
   ·exact tF (eS w.s rfl (decide_eq_false hw))
 | put a n=>
  obtain⟨H',e,R',t1,t2⟩:=pP (I:=I) R hr hm rfl trivial;exact .inr ⟨_,H',rfl,sq (aS (tF (wq "put" rfl rfl)) rfl) (sq (aS (tF (wq "put" rfl rfl)) rfl) (bx (by decide) (by decide) (by decide) e)),R'⟩
 | move a b=>
  obtain⟨H',e,R',t1,t2⟩:=pP (I:=I) R hr hm rfl trivial;exact .inr ⟨_,H',rfl,sq (aS (tF (wq "move" rfl rfl)) rfl) (sq (aS (tF (wq "move" rfl rfl)) rfl) (bx (by decide) (by decide) (by decide) e)),R'⟩
 | pull a b=>
  obtain⟨H',e,R',t1,t2⟩:=pP (I:=I) R hr hm rfl trivial;exact .inr ⟨_,H',rfl,sq (aS (tF (wq "pull" rfl rfl)) rfl) (sq (aS (tF (wq "pull" rfl rfl)) rfl) (bx (by decide) (by decide) (by decide) e)),R'⟩
 | push a b=>
  obtain⟨H',e,R',t1,t2⟩:=pP (I:=I) R hr hm rfl trivial;exact .inr ⟨_,H',rfl,sq (aS (tF (wq "push" rfl rfl)) rfl) (sq (aS (tF (wq "push" rfl rfl)) rfl) (bx (by decide) (by decide) (by decide) e)),R'⟩
def bw(rs:List Nat)(B:List bM):List W:=List.zipWith (fun r b=>W.tup [.ref r,b.en.w]) rs B
structure Fy(H:PH)(i:Nat)(rs:List Nat)(B:List bM):Prop where
 at_:H[i]? =some (.lst (bw rs B))
 len:rs.length=B.length
 ux:∀(k r:Nat) b,rs[k]? =some r->B[k]? =some b->H[r]? =some (.lst (b.rs.map Row.w))
def d8(H:PH)(i:Nat)(B:List bM):Prop:=∃rs,Fy H i rs B
theorem d8.mono(h:d8 H i B)(x:Ex H H'):d8 H' i B:=by
 obtain⟨rs,h⟩:=h;exact⟨rs,x.get h.at_,h.len,fun k r b a c=>x.get (h.ux k r b a c)⟩
variable{rs:List Nat}
theorem wY(h:rs.length=B.length):(bw rs B).length=B.length:=by
 unfold bw;rw[List.length_zipWith,h,Nat.min_self]
theorem Vb{r:Nat}{b:bM}(h1:rs[k]? =some r)(h2:B[k]? =some b):(bw rs B)[k]? =some (W.tup [.ref r,b.en.w]):=by
 unfold bw;rw[List.getElem?_zipWith,h1,h2]
theorem d8.ix{b:bM}(h:d8 H i B)(hb:B[k]? =some b):∃r,(∀H',Ex H H'->lift (ag (.ref i) (.int k)) H'=.ok (.tup [.ref r,b.en.w]) H')/\H[r]? =some (.lst (b.rs.map Row.w)):=by
 obtain⟨rs,h⟩:=h;have hk:k<B.length:=(Zb.mp hb).1;obtain⟨r,hr⟩:∃r,rs[k]? =some r:=bR (by rw[h.len];exact hk);refine⟨r,fun H' x=>eU (x.get h.at_) ?_,h.ux k r b hr hb⟩;rw[eR _ _ (by rw[wY h.len];exact hk)];exact Vb hr hb
theorem d8.cY{H:PH}{i:Nat}{B:List bM}(h:d8 H i B):lift (cY [.ref i]) H=.ok (.int B.length) H:=by
 obtain⟨rs,h⟩:=h;rw[pq h.at_,wY h.len]
structure gG(M:Nat)(B:List bM):Prop where
 pos:0<B.length
 top:B.length<=60
 lt:∀(k:Nat) b,B[k]? =some b->∀j∈b.en.to,j<B.length
 rows:∀b∈B,b.rs.length<=M/\∀r∈b.rs,gq r
theorem T1{ri:Nat}{s:S}{rs:List Row}(R:RI ph H m s)(hr:∀r∈rs,gq r)(hI:jl ph ii I)(hm:m+rs.length<=100000)(hX:ph[ri]? =some (.lst (rs.map Row.w))) :
  (∃y s' H',cR I rs s=.inl (s'.by y)/\cS (fun p=>decide (p[ri]? =some (.lst (rs.map Row.w)))) (gN 9) kO (rs.map Row.w) (st bi ii ph.length s o7 o8 o9 o10) H=.ok (.rt (ko ph.length y s')) H'/\RI ph H' (m+rs.length) s') \/
  (∃s' H' f7,cR I rs s=.inr s'/\cS (fun p=>decide (p[ri]? =some (.lst (rs.map Row.w)))) (gN 9) kO (rs.map Row.w) (st bi ii ph.length s o7 o8 o9 o10) H=.ok (.nx (st bi ii ph.length s' o7 o8 f7 o10)) H'/\RI ph H' (m+rs.length) s'):=by
 have up:∀{H:PH} {a b:Nat} {s:S},a<=b->RI ph H a s->RI ph H b s:=fun h R=>⟨R.ex,R.b,R.l,R.t,Zq R.nb h,Zq R.nl h,Zq R.nt h,Zq R.nk h,R.vb,R.vl⟩
 rcases pd (chk:=fun p=>decide (p[ri]? =some (.lst (rs.map Row.w)))) (g:=gN 9) (b:=kO)
  (fun w H=>∃y s',w=ko ph.length y s'/\cR I rs s=.inl (s'.by y)/\RI ph H (m+rs.length) s')
  (fun j σ H=>∃s' f7,σ=st bi ii ph.length s' o7 o8 f7 o10/\cR I (rs.take j) s=.inr s'/\RI ph H (m+j) s')
  (rs.map Row.w) 0 (st bi ii ph.length s o7 o8 o9 o10) H
  (fun j σ H zz=>by obtain⟨_,_,_,_,R⟩:=zz;exact decide_eq_true (R.ex.get hX))
  (fun j x σ H hj zz=>by
   obtain⟨s',f7,e,hs,R⟩:=zz;subst e;rw[aaf] at hs R;rw[Ze] at hj;obtain⟨r,ms,rfl⟩:=Zn.mp hj;have gX:=(Zb.mp ms).1;have XZ:rs.take (j+1)=rs.take j++[r]:=vz ms;refine⟨_,_,rfl,?_⟩
   rcases Va (bi:=bi) (ii:=ii) (o7:=o7) (o8:=o8) (o10:=o10) r R (hr r (Zj ms)) hI (by omega) with⟨y,h1,h2⟩ | ⟨s2,H2,h1,h2,R2⟩
   ·refine⟨_,_,h2,.inr ⟨_,rfl,y,s',rfl,?_,up (by omega) R⟩⟩;have e:rs=rs.take j++r::rs.drop (j+1):=by
     conv=>lhs;rw[<- List.take_append_drop j rs]
     rw[List.drop_eq_getElem_cons gX]
     congr 2
     rw[aaE gX] at ms;exact ZX ms
    rw[e,sL,hs];simp only[cR,h1]
   ·refine⟨_,_,h2,.inl ⟨_,.inl rfl,s2,_,rfl,?_,up (by omega) R2⟩⟩;rw[aaf,XZ,sL,hs];simp only[cR,h1])
  ⟨s,o9,rfl,rfl,R⟩ with⟨aj,H',e,s',f7,rfl,hs,R'⟩ | ⟨w,H',e,y,s',rfl,hs,R'⟩
 ·rw[aaf,Zd,abB] at hs;rw[aaf,Zd] at R';exact .inr ⟨s',H',f7,hs,e,R'⟩
 ·exact .inl ⟨y,s',H',hs,e,R'⟩
theorem X0{g:Int}{e:EM}(h:e σ ph=.ok (.int g) ph):bG iC (ae (ab ff e (eC (.int 0))) ak) σ ph=.ok (.int (if g=0 then 0 else 1)) ph:=by
 rw[vk];refine aw (aB (w:=.bl (!decide (g=0))) (ph1:=ph) (by rw[c8];exact aw h (aw rfl (congrFun (xv g 0) ph))) rfl) ?_;by_cases hg:g=0
 ·rw[if_pos hg,decide_eq_true hg];rfl
 ·rw[if_neg hg,decide_eq_false hg];rfl
variable{M:Nat}
theorem Vc{s:S}{b:bM}(R:RI ph H m s)(hB:gG M B)(hA:d8 ph bi B)(hb:B[k]? =some b)(hI:jl ph ii I)(hm:m+M<=100000) :
  (∃y s' H',(∀f,run I B (f+1) k s=s'.by y)/\mD (st bi ii ph.length s (some (.int k)) o8 o9 o10) H=.ok (.rt (ko ph.length y s')) H'/\RI ph H' (m+M) s') \/
  (∃s' H' j f7 gz,(∀f,run I B (f+1) k s=run I B f j s')/\j<B.length/\mD (st bi ii ph.length s (some (.int k)) o8 o9 o10) H=.ok (.nx (st bi ii ph.length s' (some (.int j)) o8 f7 gz)) H'/\RI ph H' (m+M) s'):=by
 have up:∀{H:PH} {a b:Nat} {s:S},a<=b->RI ph H a s->RI ph H b s:=fun h R=>⟨R.ex,R.b,R.l,R.t,Zq R.nb h,Zq R.nl h,Zq R.nt h,Zq R.nk h,R.vb,R.vl⟩
 obtain⟨ri,mv,hX⟩:=hA.ix hb;obtain⟨Gn,X1⟩:=hB.rows b (Zj hb);have hit:∀{σ:aK} {H:PH},Ex ph H->aa 0 σ=au (.ref bi)->aa 7 σ=au (.int k)->ab ag (aa 0) (aa 7) σ H=.ok (.tup [.ref ri,b.en.w]) H:=fun{σ H} x h1 h2=>by
  rw[c8,h1,h2];exact mv H x
 have h1:∀{H:PH} {s:S} {o9 o10:Option W},Ex ph H->ab ag (ab ag (aa 0) (aa 7)) (eC (.int (0))) (st bi ii ph.length s (some (.int k)) o8 o9 o10) H=.ok (.ref ri) H:=fun x=>aw (hit x rfl rfl) rfl
 have h2:∀{H:PH} {s:S} {o9 o10:Option W},Ex ph H->ab ag (ab ag (aa 0) (aa 7)) (eC (.int (1))) (st bi ii ph.length s (some (.int k)) o8 o9 o10) H=.ok b.en.w H:=fun x=>aw (hit x rfl rfl) rfl
 unfold mD;have d6:∀f,run I B (f+1) k s=match cR I b.rs s with
   | .inl r=>r
   | .inr s=>match er s b.en with
    | none=>s.by "done"
    | some k=>run I B f k s:=fun f=>by
  conv=>lhs;unfold run
  simp only[hb]
  all_goals rfl
 rcases T1 (bi:=bi) (o7:=some (.int k)) (o8:=o8) (o9:=o9) (o10:=o10) R X1 hI (by omega) hX with⟨y,s',H',q1,q2,R'⟩ | ⟨s',H',f7,q1,q2,R'⟩
 ·exact .inl ⟨y,s',H',fun f=>by rw[d6,q1],oH (fN (fL (h1 R.ex) (R.ex.get hX)) q2),up (by omega) R'⟩
 ·have R2:RI ph H' (m+M) s':=up (by omega) R';have fr:=fN (fL (h1 (s:=s) (o9:=o9) (o10:=o10) R.ex) (R.ex.get hX)) q2;cases he:b.en with
  | fin=>
   rw[he] at h2;exact .inl ⟨"done",s',H',fun f=>by rw[d6,q1];simp only[he,er],sq fr (sq (asg (h2 R'.ex)) (oH (cC (wq "end" rfl rfl) (retS rfl)))),R2⟩
  | go j=>
   rw[he] at h2;exact .inr ⟨s',H',j,f7,some (En.go j).w,fun f=>by rw[d6,q1];simp only[he,er],hB.lt k b hb j (by rw[he];simp[En.to]),sq fr (sq (asg (h2 R'.ex)) (sq (aS (wq "go" rfl rfl) rfl) (sq (asg rfl) (aS (wq "go" rfl rfl) rfl)))),R2⟩
  | iff v x z=>
   rw[he] at h2;obtain⟨H2,e2⟩:∃H2,H2=H'++[PO.lst [.int z,.int x]]:=⟨_,rfl⟩
   have x2:Ex H' H2:=e2▸Ex.one _ _;have hl:H2[H'.length]? =some (.lst [.int z,.int x]):=by rw[e2];exact bz _ _
   have hg:=kK (o:=aa 3) (e:=ab ag (aa 10) (eC (.int (1)))) (σ:=st bi ii ph.length s' (some (.int v)) o8 f7 (some (En.iff v x z).w)) (k:=v) (x2.get R'.b) rfl rfl;refine .inr ⟨s',H2,if gt s'.bx v=0 then z else x,f7,some (En.iff v x z).w,fun f=>by rw[d6,q1];simp only[he,er],hB.lt k b hb _ (by rw[he];split <;> simp[En.to]),sq fr (sq (asg (h2 R'.ex)) (sq (aS (wq "if" rfl rfl) rfl) (sq (asg (w:=.int v) (ph1:=H') rfl) (cC (wq "if" rfl rfl) ((asg (w:=.int ((if gt s'.bx v=0 then z else x:Nat):Int)) (ph1:=H2) ?_).trans rfl))))),R2.mono x2⟩;rw[c8];refine aw (ph':=H2) (a:=.ref H'.length) (by rw[e2];rfl) (aw (X0 hg) (eU hl ?_));by_cases hz:gt s'.bx v=0
   ·rw[if_pos hz,if_pos hz];rfl
   ·rw[if_neg hz,if_neg hz];rfl
theorem EF{tn:Int}(hB:gG M B)(hM:M<=100)(hA:d8 ph bi B)(hI:jl ph ii I) :
  ∃H' y s',oM [.ref bi,.ref ii,.int tn] ph=.ok (ko ph.length y s') H'/\Ex ph H'/\H'[ph.length+2]? =some (.lst (s'.told.map W.int))/\s'.told.length<=100000/\run I B 1000 0 ⟨[],[],[],0,tn⟩=s'.by y:=by
 have up:∀{H:PH} {a b:Nat} {s:S},a<=b->RI ph H a s->RI ph H b s:=fun h R=>⟨R.ex,R.b,R.l,R.t,Zq R.nb h,Zq R.nl h,Zq R.nt h,Zq R.nk h,R.vb,R.vl⟩
 obtain⟨s0,es⟩:∃s0:S,s0=⟨[],[],[],0,tn⟩:=⟨_,rfl⟩
 have R0:RI ph (ph++[.aF []]++[.aF []]++[.lst []]) 0 s0:=by
  subst es;refine⟨((Ex.one _ _).trans (Ex.one _ _)).trans (Ex.one _ _),((Ex.one _ _).trans (Ex.one _ _)).get (bz _ _),(Ex.one _ _).get ?_,?_,Zf _,Zf _,Zf _,Zf _,fun p hp=>(nomatch hp),fun p hp=>(nomatch hp)⟩
  ·have:=bz (ph++[PO.aF []]) (PO.aF []);rw[Zz] at this;exact this
  ·have:=bz (ph++[PO.aF []]++[PO.aF []]) (PO.lst []);rw[Zz,Zz] at this;exact this
 obtain⟨H0,eH⟩:∃H0,H0=ph++[PO.aF []]++[PO.aF []]++[PO.lst []]:=⟨_,rfl⟩
 rw[<- eH] at R0;have et:s0.tn=tn:=by rw[es]
 have qF:cV (ae (eC (.int (1000))) ak) (st bi ii ph.length s0 (some (.int ((0:Nat):Int))) none none none) H0=.ok (d5 0 1000,fun _=>true) H0:=i6 (j:=1000) rfl (by decide) (by decide);have pre:∀{r:Out W},aq (aC (d3 (cV (ae (eC (.int (1000))) ak)) (gN 8) mD) (bt (bT (ae (eC (.str "long")) (ae (aa 5) (ae (aa 6) ak))))) (st bi ii ph.length s0 (some (.int ((0:Nat):Int))) none none none)) dA H0=r->oM [.ref bi,.ref ii,.int tn] ph=r:=fun{r} h=>by
  unfold oM jE;rw[nY];refine bq (ph1:=ph++[.aF []]) (σ1:=[some (.ref bi),some (.ref ii),some (.int tn),some (.ref ph.length),none,none,none,none,none,none,none]) rfl (bq (ph1:=ph++[.aF []]++[.aF []]) (σ1:=[some (.ref bi),some (.ref ii),some (.int tn),some (.ref ph.length),some (.ref (ph.length+1)),none,none,none,none,none,none]) ?_ (bq (ph1:=H0) (σ1:=[some (.ref bi),some (.ref ii),some (.int tn),some (.ref ph.length),some (.ref (ph.length+1)),some (.ref (ph.length+2)),none,none,none,none,none]) ?_ (bq rfl (bq rfl ?_))))
  ·refine(asg (w:=.ref (ph.length+1)) (ph1:=ph++[.aF []]++[.aF []]) ?_).trans rfl;show Out.ok (W.ref (ph++[PO.aF []]).length) _=_;rw[Zz];rfl
  ·refine(asg (w:=.ref (ph.length+2)) (ph1:=H0) ?_).trans rfl;rw[eH];show Out.ok (W.ref (ph++[PO.aF []]++[PO.aF []]).length) _=_;rw[Zz,Zz];rfl
  ·rw[<- h,es];rfl
 rcases pd (chk:=fun _=>true) (g:=gN 8) (b:=mD)
  (fun w H=>∃y s',w=ko ph.length y s'/\run I B 1000 0 s0=s'.by y/\RI ph H 100000 s')
  (fun j σ H=>∃(s':S) (k:Nat) (o8 o9 o10:Option W),σ=st bi ii ph.length s' (some (.int k)) o8 o9 o10/\k<B.length/\j<=1000/\run I B 1000 0 s0=run I B (1000-j) k s'/\RI ph H (j*M) s')
  (d5 0 1000) 0 (st bi ii ph.length s0 (some (.int ((0:Nat):Int))) none none none) H0 (fun _ _ _ _=>rfl)
  (fun j x σ H hj zz=>by
   obtain⟨s',k,o8,o9,o10,e,hk,Gs,hs,R⟩:=zz;subst e;rw[aaf] at hs R Gs ⊢;have gX:j<1000:=by have:=(Zb.mp hj).1;rw[mW] at this;exact this
   obtain⟨b,hb⟩:∃b,B[k]? =some b:=bR hk;have ze:j*M+M<=100000:=by
    have:=adF (show j+1<=1000 by omega) hM;rw[adg] at this;omega
   have e1:1000-j=(1000-(j+1))+1:=by omega
   rw[e1] at hs;refine⟨_,_,rfl,?_⟩
   rcases Vc (o8:=some x) (o9:=o9) (o10:=o10) R hB hA hb hI ze with⟨y,s2,H2,q1,q2,R2⟩ | ⟨s2,H2,k2,f7,gz,q1,q0,q2,R2⟩
   ·exact⟨_,_,q2,.inr ⟨_,rfl,y,s2,rfl,by rw[hs,q1],up ze R2⟩⟩
   ·exact⟨_,_,q2,.inl ⟨_,.inl rfl,s2,k2,_,_,_,rfl,q0,by omega,by rw[hs,q1],by rw[adg];exact R2⟩⟩)
  ⟨s0,0,none,none,none,rfl,hB.pos,by omega,rfl,by rw[Nat.zero_mul];exact R0⟩ with⟨aj,H',e,s',k,o8,o9,o10,rfl,_,_,hs,R⟩ | ⟨w,H',e,y,s',rfl,hs,R⟩
 ·rw[mW,aaf] at hs R;have R:=up (b:=100000) (by have:=Nat.mul_le_mul_left 1000 hM;omega) R;exact⟨H',"long",s',pre (bq (fN qF e) (br rfl)),R.ex,R.t,R.nt,by rw[<- es,hs];rfl⟩
 ·exact⟨H',y,s',pre (eP (fN qF e)),R.ex,R.t,R.nt,by rw[<- es,hs]⟩
theorem P4{E:List (List Nat)}{b x:Nat}{c:List Nat}(h:E[k]? =some c):∃c',(gx E o b)[k]? =some c'/\(x∈c'↔x∈c\/(k=o/\x=b)):=by
 unfold gx;cases e:E[o]? with
 | none=>
  refine⟨c,h,⟨.inl,fun z=>z.elim id fun z=>?_⟩⟩;rw[z.1,e] at h;cases h
 | some d=>
  simp only;by_cases hk:o=k
  ·subst hk;rw[e] at h;cases h;refine⟨c++[b],aad (Zb.mp e).1,?_⟩;simp
  ·refine⟨c,by rw[aas hk];exact h,⟨.inl,fun z=>z.elim id fun z=>absurd z.1.symm hk⟩⟩
theorem BU{b k x:Nat}:∀{g:List Nat} {E:List (List Nat)} {c:List Nat},E[k]? =some c->∃c',(jj E b g)[k]? =some c'/\(x∈c'↔x∈c\/(k∈g/\x=b))
 | [],E,c,h=>⟨c,h,by simp⟩
 | o::g,E,c,h=>by
  obtain⟨c1,h1,e1⟩:=P4 (o:=o) (b:=b) (x:=x) h;obtain⟨c2,h2,e2⟩:=BU (b:=b) (x:=x) (g:=g) h1;refine⟨c2,h2,e2.trans ?_⟩;rw[e1,ZK];constructor
  ·rintro((h | ⟨h,h'⟩) | ⟨h,h'⟩)
   ·exact .inl h
   ·exact .inr ⟨.inl h,h'⟩
   ·exact .inr ⟨.inr h,h'⟩
  ·rintro(h | ⟨h | h,h'⟩)
   ·exact .inl (.inl h)
   ·exact .inl (.inr ⟨h,h'⟩)
   ·exact .inr ⟨h,h'⟩
theorem BV{G:List (List Nat)}{k x:Nat}:∀{bs:List Nat} {E:List (List Nat)} {c:List Nat},E[k]? =some c->∃c',(jb G E bs)[k]? =some c'/\(x∈c'↔x∈c\/(x∈bs/\k∈fj G x))
 | [],E,c,h=>⟨c,h,by simp⟩
 | b::bs,E,c,h=>by
  obtain⟨c1,h1,e1⟩:=BU (b:=b) (x:=x) (g:=fj G b) h;obtain⟨c2,h2,e2⟩:=BV (G:=G) (x:=x) (bs:=bs) h1;refine⟨c2,h2,e2.trans ?_⟩;rw[e1,ZK];constructor
  ·rintro((h | ⟨h,h'⟩) | ⟨h,h'⟩)
   ·exact .inl h
   ·exact .inr ⟨.inl h',h'▸h⟩
   ·exact .inr ⟨.inr h,h'⟩
  ·rintro(h | ⟨h | h,h'⟩)
   ·exact .inl (.inl h)
   ·exact .inl (.inr ⟨h▸h',h⟩)
   ·exact .inr ⟨h,h'⟩
theorem Tb.wy(t:Tb H i lo hi (EE G)):Wy H i G:=by
 obtain⟨ws,t⟩:=t;have hl:ws.length=G.length:=by rw[t.len];unfold EE;rw[Zd]
 have gF:∀(k:Nat) w,ws[k]? =some w->∃r g,w=.ref r/\G[k]? =some g/\H[r]? =some (.lst (iw g)):=fun k w hw=>by
  have hk:=(Zb.mp hw).1;obtain⟨g,hg⟩:∃g,G[k]? =some g:=bR (by omega);obtain⟨r,e,_,_,_,hr⟩:=t.ent k w _ hw (wW hg);exact⟨r,g,e,hg,hr⟩
 have mq:ws=(ws.map fun w=>match w with | .ref r=>r | _=>0).map W.ref:=by
  rw[aaC]
  conv=>lhs;rw[<- List.map_id' ws]
  apply abE
  intro w hw;obtain⟨k,hk⟩:=ZP.mp hw;obtain⟨r,g,rfl,_⟩:=gF k w hk;rfl
 refine⟨_,by rw[t.at_,<- mq],by rw[Zd];exact hl,fun k r g hr hg=>?_⟩;rw[Ze] at hr;obtain⟨w,hw,rfl⟩:=Zn.mp hr;obtain⟨r,g',rfl,oI,h⟩:=gF k w hw;rw[hg] at oI;cases oI;exact h
theorem Vd{E:List (Option (List W))}(hl:E.length=G.length)(h:∀(j:Nat) c,E[j]? =some c->c=some (iw (fj G j))):E=EE G:=by
 apply abr
 intro j;unfold EE;rw[Ze];by_cases hj:j<G.length
 ·obtain⟨c,hc⟩:∃c,E[j]? =some c:=bR (by omega);obtain⟨g,hg⟩:∃g,G[j]? =some g:=bR hj;rw[hc,h j c hc,hg];unfold fj;rw[hg];rfl
 ·rw[ZY (by omega),ZY (by omega)];rfl
theorem ext{o:EM}{e:EM}{us:List W}(ho:o σ=au (.ref i))(y6:∃mf,ph[i]? =some (.lst mf))(he:e σ ph=.ok (.ref j) ph1)(hi:ph1[i]? =some (.lst ws))(hj:ph1[j]? =some (.lst us))(hz:ws.length+us.length<=10000000):eV (cI cz mZ o (ae e ak)) σ ph=.ok (.nx σ) (ph1.set i (.lst (ws++us))):=by
 obtain⟨mf,h0⟩:=y6;rw[sF,mU,ho];rw[dG,jR,dG,aW (pv h0),dG,sG,dG,aW he];rw[sQ,jR,jR,aW (Nv hi hj (Zq hz (by decide)))];rfl
def mk(l:List Nat):List (W×W):=l.map fun k:Nat=>(W.int k,W.bl true)
theorem xA(l:List Nat)(k:Int):cQ (mk l) (.int k)=true:=by
 unfold cQ;have:(mk l).all (fun p=> !iR p.1)=true:=by
  rw[aam];intro p hp;obtain⟨x,_,rfl⟩:=ZO.mp hp;rfl
 rw[this];rfl
theorem EG(l:List Nat)(k:Nat):(c4 (mk l) (.int k)).isSome=decide (k∈l):=by
 unfold c4 mk;rw[abp,adp,List.find?_isSome];simp only[decide_eq_true_eq];constructor
 ·rintro⟨p,hp,e⟩;obtain⟨x,hx,rfl⟩:=ZO.mp hp;injection e with e
  have:x=k:=by omega
  rw[<- this];exact hx
 ·intro h;exact⟨_,abF h,rfl⟩
def ins(l:List Nat)(k:Nat):List Nat:=if k∈l then l else l++[k]
theorem T2(l:List Nat)(k:Nat):dw (mk l) (.int k) (.bl true)=mk (ins l k):=by
 unfold dw ins;have e:((mk l).any fun p=>decide (p.1=.int k))=decide (k∈l):=by
  rw[adp,aca];simp only[decide_eq_true_eq];constructor
  ·rintro⟨p,hp,e⟩;obtain⟨x,hx,rfl⟩:=ZO.mp hp;injection e with e
   have:x=k:=by omega
   rw[<- this];exact hx
  ·intro h;exact⟨_,abF h,rfl⟩
 rw[e];by_cases h:k∈l
 ·rw[if_pos (decide_eq_true h),if_pos h];unfold mk;rw[aaC];apply abE;intro x _;simp only[abM];split
  ·rfl
  ·rfl
 ·rw[if_neg (by rw[decide_eq_false h];exact ZG),if_neg h];unfold mk;rw[abl];rfl
theorem Gu{e:EM}(h:e σ ph=.ok (.int n) ph):eT (ab f6 e (eC (.int 0))) σ ph=.ok (decide (0<n)) ph:=by
 rw[fv,c8,dG,aW h];ac_nf
 congr 1
 exact decide_eq_decide.mpr (by omega)
theorem X2(x:String){e:EM}(h:e σ ph=.ok (.str x) ph)(hc:(!decide (x=y))=c):eT (ab ff e (eC (.str y))) σ ph=.ok c ph:=by
 rw[fv,c8,dG,aW h,<- hc];ac_nf
def En.x:En->String
 | .go _=>"go"
 | .iff _ _ _=>"if"
 | .fin=>"end"
theorem xZ(e:En)(H:PH):lift (ag e.w (.int 0)) H=.ok (.str e.x) H:=by cases e <;> rfl
theorem Ve(hB:gG M B)(hA:d8 ph bi B)(hk:k<B.length):pe [.ref bi,.int k] ph=.ok (.int ((cw B B.length k:Nat):Int)) ph:=by
 have ht:=hB.top;have qF:cV (ae (bG cY (ae (aa 0) ak)) ak) [some (.ref bi),some (.int k),none,none] ph=.ok (d5 0 B.length,fun _=>true) ph:=i6 (j:=B.length) (aB (aw (aB rfl rfl) hA.cY) rfl) (by omega) (by omega);unfold pe lr;rw[p8]
 rcases pd (chk:=fun _=>true) (g:=gN 2) (b:=uU)
  (fun w H=>w=.int ((cw B B.length k:Nat):Int)/\H=ph)
  (fun j σ H=>∃(k':Nat) (o2 o3:Option W),σ=[some (.ref bi),some (.int k'),o2,o3]/\H=ph/\k'<B.length/\j<=B.length/\cw B B.length k=cw B (B.length-j) k')
  (d5 0 B.length) 0 [some (.ref bi),some (.int k),none,none] ph (fun _ _ _ _=>rfl)
  (fun j x σ H hj zz=>by
   obtain⟨k',o2,o3,rfl,rfl,uh,_,hl⟩:=zz;rw[aaf] at hl ⊢;have gX:j<B.length:=by have:=(Zb.mp hj).1;rw[mW] at this;exact this
   obtain⟨b,hb⟩:∃b,B[k']? =some b:=bR uh;obtain⟨ri,mv,hX⟩:=hA.ix hb;have e1:B.length-j=(B.length-(j+1))+1:=by omega
   refine⟨_,_,rfl,?_⟩;have a1:aI (ab ag (aa 0) (aa 1)) (gN 3) [some (.ref bi),some (.int k'),some x,o3] H=.ok (.nx [some (.ref bi),some (.int k'),some x,some (.tup [.ref ri,b.en.w])]) H:=asg (mv H (Ex.refl _));have t1:eT (ab f6 (bG cY (ae (ab ag (aa 3) (eC (.int (0)))) ak)) (eC (.int (0)))) [some (.ref bi),some (.int k'),some x,some (.tup [.ref ri,b.en.w])] H=.ok (decide (0<b.rs.length)) H:=Gu (aw (aB rfl rfl) ((pq hX).trans (by rw[Zd])));have t2:∀{c:Bool},(!decide (b.en.x="go"))=c->eT (ab ff (ab ag (ab ag (aa 3) (eC (.int (1)))) (eC (.int (0)))) (eC (.str "go"))) [some (.ref bi),some (.int k'),some x,some (.tup [.ref ri,b.en.w])] H=.ok c H:=fun hc=>X2 b.en.x (xZ b.en H) hc
   unfold uU;obtain⟨rs,en⟩:=b;cases rs with
   | cons r rs=>
    refine⟨_,_,sq a1 (oH (cC (by rw[lx];exact aw t1 rfl) (retS rfl))),.inr ⟨_,rfl,?_,rfl⟩⟩;rw[hl,e1];unfold cw;rw[hb]
   | nil=>
    have stop:cw B (B.length-j) k'=k'->(!decide (En.x en="go"))=true->∃f ph2,aC (aI (ab ag (aa 0) (aa 1)) (gN 3)) (aC (bI (d0 (eT (ab f6 (bG cY (ae (ab ag (aa 3) (eC (.int (0)))) ak)) (eC (.int (0))))) (eT (ab ff (ab ag (ab ag (aa 3) (eC (.int (1)))) (eC (.int (0)))) (eC (.str "go"))))) (bt (aa 1)) cM) (aI (ab ag (ab ag (aa 3) (eC (.int (1)))) (eC (.int (1)))) (gN 1))) [some (.ref bi),some (.int k'),some x,o3] H=.ok f ph2/\f=.rt (.int ((cw B B.length k:Nat):Int))/\ph2=H:=fun q1 q2=>
     ⟨_,_,sq a1 (oH (cC (by rw[lx];exact aw t1 (t2 q2)) (retS rfl))),by rw[hl,q1],rfl⟩
    cases en with
    | go g=>
     refine⟨_,_,sq a1 (sq (aS (by rw[lx];exact aw t1 (t2 rfl)) rfl) (asg (w:=.int g) rfl)),.inl ⟨_,.inl rfl,g,_,_,rfl,rfl,hB.lt k' _ hb g (by simp[En.to]),by omega,?_⟩⟩;rw[hl,e1]
     conv=>lhs;unfold cw
     rw[hb]
    | iff v a c=>
     obtain⟨f,ph2,q1,q2,q3⟩:=stop (by rw[e1];unfold cw;rw[hb]) rfl;exact⟨f,ph2,q1,.inr ⟨_,q2,rfl,q3⟩⟩
    | fin=>
     obtain⟨f,ph2,q1,q2,q3⟩:=stop (by rw[e1];unfold cw;rw[hb]) rfl;exact⟨f,ph2,q1,.inr ⟨_,q2,rfl,q3⟩⟩)
  ⟨k,none,none,rfl,rfl,hk,by omega,rfl⟩ with⟨aj,H',e,k',o2,o3,rfl,rfl,_,_,hl⟩ | ⟨w,H',e,rfl,rfl⟩
 ·rw[mW,aaf,Nat.sub_self] at hl;refine bq (fN qF e) (br ?_);rw[hl];rfl
 ·exact eP (fN qF e)
theorem DL{tw:W}(e:En)(h:Nat->Nat)(ht:∀t∈e.to,lift (ag tw (.int t)) H=.ok (.int (h t:Int)) H):k6 [e.w,tw] H=.ok (e.mp h).w H:=by
 unfold k6 jH;rw[p8];cases e with
 | go k=>exact eP (cC (wq "go" rfl rfl) (retS (aw (aB rfl (aB (ht k (by simp[En.to])) rfl)) rfl)))
 | iff v a b=>exact bq (aS (wq "if" rfl rfl) rfl) (eP (cC (wq "if" rfl rfl) (retS (aw (aB rfl (aB rfl (aB (ht a (by simp[En.to])) (aB (ht b (by simp[En.to])) rfl)))) rfl))))
 | fin=>exact bq (aS (wq "end" rfl rfl) rfl) (bq (aS (wq "end" rfl rfl) rfl) rfl)
theorem Bl(e:En)(ph:PH):oK [e.w] ph=.ok (.ref ph.length) (ph++[.lst (iw e.to)]):=by
 unfold oK jC;rw[ki];cases e with
 | go k=>exact eP (cC (wq "go" rfl rfl) (retS rfl))
 | iff v a b=>exact bq (aS (wq "if" rfl rfl) rfl) (eP (cC (wq "if" rfl rfl) (retS rfl)))
 | fin=>exact bq (aS (wq "end" rfl rfl) rfl) (bq (aS (wq "end" rfl rfl) rfl) rfl)
theorem wo(as:List α)(h:α->W){cap:List (Option Nat)}{g:GM}{e:EM}{ph0:PH}(qA:im σ ph0=.ok (as.map h,chk) ph)(qB:∀ph',Ex ph ph'->chk ph'=true)(hz:as.length<=1000)
  (P:Nat->W->PH->Prop) (hP:∀j w H H',P j w H->(∀r o,r≠ph.length->H[r]? =some o->H'[r]? =some o)->P j w H') (S:aK->Prop) (h0:S (fA cap σ))
  (step:∀j x,as[j]? =some x->∀σ H,S σ->Ex ph H->ph.length<H.length->∃σ1,g (h x) σ H=.ok σ1 H/\S σ1/\∃w H2,e σ1 H=.ok w H2/\Ex H H2/\P j w H2) :
  ∃ph' ws,bX im cap g cm e σ ph0=.ok (.ref ph.length) ph'/\Ex ph ph'/\ph'[ph.length]? =some (.lst ws)/\ws.length=as.length/\∀j w,ws[j]? =some w->P j w ph':=by
 rw[vJ,aW qA];obtain⟨lW,aj,ph',ec,hS,x1,x2,x3,x4⟩:=sh (chk:=chk) (g:=g) (c:=cm) (e:=e) ph.length
  (fun k acc σ H=>S σ/\Ex ph H/\H[ph.length]? =some (.lst acc)/\acc.length=k/\∀(j:Nat) w,acc[j]? =some w->P j w H)
  (as.map h) 0 [] (fA cap σ) (ph++[.lst []]) (fun j acc σ H hI=>qB _ hI.2.1)
  (fun j y acc σ H hj hI=>by
   rw[aaf] at hI ⊢;obtain⟨hS,x1,x2,x3,x4⟩:=hI;rw[Ze] at hj;obtain⟨x,hx,rfl⟩:=Zn.mp hj;have gX:=(Zb.mp hx).1;obtain⟨σ1,e1,gD,w,H2,e2,y1,y2⟩:=step j x hx σ H hS x1 (j8 x2);have keep:∀r o,r≠ph.length->H2[r]? =some o->(H2.set ph.length (.lst (acc++[w])))[r]? =some o:=fun r o hr ho=>(dj (abg hr)).trans ho
   refine⟨σ1,H,e1,true,H,rfl,.inr ⟨rfl,w,H2,e2,y1.get x2,Zg (by omega:acc.length<1001) (by decide),gD,Ex.set (x1.trans y1) (Zf _) _,fO (y1.get x2),by simp[x3],fun i w' zc=>?_⟩⟩
   rcases gj zc with⟨_,z⟩ | ⟨z0,z⟩
   ·exact hP i w' H _ (x4 i w' z) fun r o hr ho=>keep r o hr (y1.get ho)
   ·rw[z,z0,x3];exact hP j w H2 _ y2 keep)
  ⟨h0,Ex.one _ _,bz _ _,rfl,fun j w z=>by simp at z⟩
 rw[aaf,Zd] at x3;exact⟨ph',lW,aW ec,x1,x2,x3,x4⟩
theorem set_same{o:PO}(h:H[i]? =some o):H.set i o=H:=by
 obtain⟨hl,e⟩:=Zb.mp h;rw[<- e];exact List.set_getElem_self hl
def wB(T:List (List Nat))(E:List En)(k:Nat):Bool:=match T[k]? with
 | some [b]=>decide (0<k)&&(match E[b]? with
  | some (.go _)=>true
  | _=>false)
 | _=>false
def wl(T:List (List Nat))(E:List En)(n:Nat):List Nat:=(ZS n).filter (wB T E)
def cW(E:List En):List (List Nat):=E.map En.to
def cx(G:List (List Nat))(L:List Nd):List (List Nat):=jb G (Zi G.length []) (up (ks L) G.length)
theorem CL(T:List (List Nat))(E:List En)(j:Nat):wl T E (j+1)=if wB T E j=true then wl T E j++[j] else wl T E j:=by
 unfold wl;rw[List.range_succ,List.filter_append];simp only[acV,List.filter_nil];split
 ·rfl
 ·rw[aak]
variable{E:List En}
theorem xB{T:List (List Nat)}(h:k∈wl T E n):k<n/\wB T E k=true:=by
 unfold wl at h;have:=aar.mp h;exact⟨aaq.mp this.1,this.2⟩
theorem CM{x:Nat}(hk:k<G.length):∃c,(cx G L)[k]? =some c/\(x∈c↔x∈up (ks L) G.length/\k∈fj G x):=by
 obtain⟨c,h1,h2⟩:=BV (G:=G) (k:=k) (x:=x) (bs:=up (ks L) G.length) (E:=Zi G.length []) (c:=[]) (by rw[aaZ,if_pos hk]);exact⟨c,h1,by rw[h2];simp⟩
theorem nu{L:List Nat}:k∈up L n↔k<n/\k∈L:=by
 unfold up;rw[aar,aaq,decide_eq_true_eq]
variable{ei:Nat}
theorem T3{r:Nat}{T:List (List Nat)}{c:List Nat}{o1:Option W}(hE:H[ei]? =some (.lst (E.map En.w)))(hr:H[r]? =some (.lst (iw c)))(hc:T[k]? =some c)(cB:∀b∈c,b<E.length) :
  dJ (eT (ab f6 (aa 2) (eC (.int (0))))) (dJ (eT (ab aQ (bG cY (ae (aa 3) ak)) (eC (.int (1))))) (eT (ab aQ (ab ag (ab ag (aa 0) (ab ag (aa 3) (eC (.int (0))))) (eC (.int (0)))) (eC (.str "go"))))) [some (.ref ei),o1,some (.int k),some (.ref r)] H=.ok (wB T E k) H:=by
 have t1:eT (ab f6 (aa 2) (eC (.int (0)))) [some (.ref ei),o1,some (.int k),some (.ref r)] H=.ok (decide (0<k)) H:=Gu rfl;unfold wB;rw[hc];by_cases hk:0<k
 ·rw[decide_eq_true hk] at t1;refine tT t1 ?_;have t2:∀(d:Bool),decide ((c.length:Int)=1)=d->eT (ab aQ (bG cY (ae (aa 3) ak)) (eC (.int (1)))) [some (.ref ei),o1,some (.int k),some (.ref r)] H=.ok d H:=fun d hd=>eI (aw (aB rfl rfl) ((pq hr).trans (by rw[gP]))) hd
  match c,hr,cB,t2 with
  | [],_,_,t2=>exact tF (t2 _ rfl)
  | _::_::l,_,_,t2=>exact tF (t2 _ (decide_eq_false (by simp only[aat];omega)))
  | [b],hr,cB,t2=>
   refine tT (t2 _ rfl) ?_;have hb:=cB b (by simp);obtain⟨e,he⟩:∃e,E[b]? =some e:=bR hb;have i1:ab ag (aa 3) (eC (.int (0))) [some (.ref ei),o1,some (.int k),some (.ref r)] H=.ok (.int b) H:=aw rfl (aw rfl (eU hr rfl));have i2:ab ag (aa 0) (ab ag (aa 3) (eC (.int (0)))) [some (.ref ei),o1,some (.int k),some (.ref r)] H=.ok e.w H:=aw rfl (aw i1 (eU hE (by rw[eR _ _ (by rw[Zd];exact hb),Ze,he];rfl)));have i3:ab ag (ab ag (aa 0) (ab ag (aa 3) (eC (.int (0))))) (eC (.int (0))) [some (.ref ei),o1,some (.int k),some (.ref r)] H=.ok (.str e.x) H:=aw i2 (aw rfl (xZ e H));simp only[he,decide_eq_true hk,Bool.true_and];rw[fv,c8,dG,aW i3];ac_nf
   congr 1
   cases e <;> rfl
 ·rw[decide_eq_false hk] at t1;have:(match some c with
   | some [b]=>decide (0<k)&&(match E[b]? with
    | some (.go _)=>true
    | _=>false)
   | _=>false)=false:=by
   rw[decide_eq_false hk];split <;> simp
  exact(tF t1).trans (by rw[this])
theorem P5(hE:ph[ei]? =some (.lst (E.map En.w)))(hG:Ok (cW E)) :
  ∃ph' L,uJ [.ref ei] ph=.ok (.ref ph.length) ph'/\Ex ph ph'/\Bf (cW E) L L.length/\ph'[ph.length]? =some (.aF (mk (wl (cx (cW E) L) E E.length))):=by
 have hn:(cW E).length=E.length:=Zd _;have ht:=hG.top;obtain⟨H1,e1⟩:∃H1,H1=ph++[PO.aF []]:=⟨_,rfl⟩
 have x1:Ex ph H1:=e1▸Ex.one _ _;have l1:H1.length=ph.length+1:=by rw[e1];simp
 have zf:=x1.get hE;obtain⟨H2,Y2,e2,x2,gW,X3,t2⟩:=CI E En.w (ph:=H1) (cap:=[none]) (g:=gN 0) (e:=a7 oK (ae (aa 0) ak)) (σ:=[some (.ref ei),some (.ref ph.length),none,none]) (fL (m:=aa 0) (ph:=H1) rfl zf) (fun p x=>decide_eq_true (x.get zf)) (by omega) (fun j c=>c=some (iw (fj (cW E) j))) (fun σ=>∃o,σ=[o]) ⟨none,rfl⟩
  (fun j e hj σ H hS y cB=>by
   obtain⟨o,rfl⟩:=hS;refine⟨_,rfl,⟨_,rfl⟩,.ref H.length,(H++[PO.lst (iw e.to)]:PH),some (iw e.to),aw (aB rfl rfl) (Bl e H),Ex.one _ _,by unfold fj cW;rw[Ze,hj];rfl,H.length,rfl,Zf _,by simp,by omega,bz _ _⟩)
 rw[Vd (by rw[gW,hn]) X3] at t2;obtain⟨ti,L,H3,e3,x3,b,tt,sm⟩:=Rm t2.wy hG;have l2:=x2.len;have l3:=x3.len;obtain⟨T,uy⟩:∃T,T=cx (cW E) L:=⟨_,rfl⟩
 have uz:T.length=E.length:=by rw[uy];unfold cx;rw[Bj,abT,hn]
 have tt:Tb H3 ti H2.length H3.length (EE T):=by rw[uy];exact tt
 obtain⟨ws,tw⟩:=tt;have X4:H3[ei]? =some (.lst (E.map En.w)):=x3.get (x2.get zf);have YG:=j8 hE;have zg:H3[ph.length]? =some (.aF []):=x3.get (x2.get (by rw[e1];exact bz _ _));have Y3:=tw.li;obtain⟨aj,H',e4,o2,o3,rfl,rfl⟩:=mV (chk:=fun p=>decide (p[ti]? =some (.lst ws))) (g:=gS 2 [gN 2,gN 3]) (b:=uF)
  (fun j σ H=>∃o2 o3,σ=[some (.ref ei),some (.ref ph.length),o2,o3]/\H=H3.set ph.length (.aF (mk (wl T E j))))
  (gp ws) [some (.ref ei),some (.ref ph.length),none,none] H3
  (fun j σ H zz=>by obtain⟨_,_,_,rfl⟩:=zz;exact decide_eq_true ((dj (by omega)).trans tw.at_))
  (fun j x σ H hj zz=>by
   obtain⟨o2,o3,rfl,rfl⟩:=zz;obtain⟨w,hw,rfl⟩:=Q1 hj;have gX:j<E.length:=by rw[<- uz];have:=(Zb.mp hw).1;have:=tw.len;unfold EE at this;rw[Zd] at this;omega
   obtain⟨c,hc⟩:∃c,T[j]? =some c:=bR (by omega);obtain⟨r,rfl,r1,r2,r3,r4⟩:=tw.ent j w _ hw (wW hc);refine⟨_,_,rfl,?_⟩;have cB:∀b∈c,b<E.length:=fun b hb=>by
    obtain⟨c',eL,q⟩:=CM (G:=cW E) (L:=L) (k:=j) (x:=b) (by omega);rw[<- uy,hc] at eL;cases eL;have:=(nu.mp (q.mp hb).1).1;omega
   have test:=T3 (o1:=some (.ref ph.length)) (H:=H3.set ph.length (.aF (mk (wl T E j)))) (ei:=ei) (r:=r) (k:=j) (E:=E) (T:=T) (c:=c) ((dj (by omega)).trans X4) ((dj (by omega)).trans r4) hc cB;unfold uF;by_cases hw:wB T E j=true
   ·rw[hw] at test;have ha:aI (eC (.bl true)) (fu (aa 1) (aa 2)) [some (.ref ei),some (.ref ph.length),some (.int j),some (.ref r)] (H3.set ph.length (.aF (mk (wl T E j))))=.ok (.nx [some (.ref ei),some (.ref ph.length),some (.int j),some (.ref r)]) ((H3.set ph.length (.aF (mk (wl T E j)))).set ph.length (.aF (dw (mk (wl T E j)) (.int j) (.bl true)))):=by
     rw[pj];refine aw rfl ?_;rw[sH];refine aw (aw rfl (aw rfl (aw (vK (fO zg) (xA _ _) (by unfold mk;rw[Zd];unfold wl;exact abf (abY _ _) (by rw[ZI];exact Zg (show j<1000 by omega) (by decide))) _) rfl))) rfl
    refine⟨_,_,cC test ha,_,.inl rfl,some (.int j),some (.ref r),rfl,?_⟩;rw[T2,List.set_set,CL,if_pos hw]
    congr 3
    unfold ins;rw[if_neg (fun z=>absurd (xB z).1 (aaG _))]
   ·have hw:wB T E j=false:=by simpa using hw
    rw[hw] at test;refine⟨_,_,aS test rfl,_,.inl rfl,some (.int j),some (.ref r),rfl,?_⟩;rw[CL,if_neg (by rw[hw];exact ZG)])
  ⟨none,none,rfl,by
   rw[show mk (wl T E 0)=[] from rfl];exact(set_same zg).symm⟩
 have iK:ws.length=E.length:=by have:=tw.len;unfold EE at this;rw[Zd] at this;omega
 rw[Q2,iK] at e4;refine⟨_,L,?_,Ex.set (x1.trans (x2.trans x3)) (Zf _) _,b,by rw[<- uy];exact fO zg⟩;unfold uJ kP;rw[ki];refine bq (ph1:=H1) (σ1:=[some (.ref ei),some (.ref ph.length),none,none]) (by rw[e1];rfl) (bq (fN (A6 (i:=ti) (ws:=ws) (ph':=H3) ?_ tw.at_) e4) rfl);exact aB (aw (aB e2 rfl) e3) rfl
theorem Bm(h:ph[i]? =some (.lst ws)):lift (ja [.ref i]) ph=.ok (.ref ph.length) (ph++[.lst ws]):=by
 have e:ja [.ref i] ph=nz [.ref i] ph:=by
  unfold ja;simp only[xw h]
 have:=Pp h;unfold lift at this ⊢;rw[e];exact this
theorem Rq(hE:ph[ei]? =some (.lst (E.map En.w))):tZ ph (cW E) (.fn "threaded" [.ref ei]):=fun s0 s2 s3 s4 s5 s7 H tk g x hg=>by
 have oI:∃e,E[tk]? =some e/\e.to=g:=by
  unfold cW at hg;rw[Ze] at hg;exact Zn.mp hg
 obtain⟨e,he,rfl⟩:=oI;refine⟨H.length,H++[.lst (iw e.to)],?_,Ex.one _ _,bz _ _,.inr (Zf _)⟩;have gF:b9 (E.map En.w) (tk:Int)=some e.w:=by rw[eR _ _ (by rw[Zd];exact(Zb.mp he).1),Ze,he];rfl
 have e2:l_threaded [some (.int tk),some (.ref ei)] H=.ok (.ref H.length) (H++[.lst (iw e.to)]):=by
  unfold l_threaded;exact aw (aB (aw rfl (aw rfl (eU (x.get hE) gF))) rfl) (Bl e H)
 show gU "threaded" l_threaded 1 (ae (aa 6) ak) [s0,some (.fn "threaded" [.ref ei]),s2,s3,s4,s5,some (.int tk),s7] H=_;unfold gU;simp only[acS,acT,tX,if_true];refine aw (aB rfl rfl) ?_;unfold qu cT;simp only[e2]
theorem Bn{L':List Nd}(b:Bf G L L.length)(b':Bf G L' L'.length):∀x∈ks L,x∈ks L':=by
 have key:∀(i:Nat) x,L[i]? =some x->x.k∈ks L':=fun i=>by
  induction i using adn with
  | ind i ih=>
   intro x hx;by_cases hi:i=0
   ·subst hi;rw[b.zero] at hx;cases hx;exact ZO.mpr ⟨_,Zj b'.zero,rfl⟩
   ·obtain⟨j,y,g,h1,h2,_,_,h5,h6⟩:=b.iJ i x hx hi;obtain⟨y',X5,e⟩:=ZO.mp (ih j h1 y h2);obtain⟨j',kL⟩:=ZP.mp X5;obtain⟨x',iS,e',_⟩:=b'.closed j' y' g (Zb.mp kL).1 kL (by rw[e];exact h5) x.k h6;exact ZO.mpr ⟨x',iS,e'⟩
 intro x hx;obtain⟨y,hy,rfl⟩:=ZO.mp hx;obtain⟨i,hi⟩:=ZP.mp hy;exact key i y hi
theorem up_eq{L':List Nd}(b:Bf G L L.length)(b':Bf G L' L'.length):up (ks L) G.length=up (ks L') G.length:=by
 unfold up;apply List.filter_congr;intro k _;exact decide_eq_decide.mpr ⟨Bn b b' k,Bn b' b k⟩
structure Wi(E:List En)(F W:List Nat):Prop where
 lt:∀x∈F,x<E.length
 nd:F.Nodup
 cl:∀x∈F,∀e,E[x]? =some e->∀t∈e.to,t∈F
 one:∀k∈W,∃b∈F,E[b]? =some (.go k)/\∀b'∈F,∀e,E[b']? =some e->k∈e.to->b'=b
 zero:0∈F/\0∉W
theorem Vf(hG:Ok (cW E))(b:Bf (cW E) L L.length):Wi E (up (ks L) E.length) (wl (cx (cW E) L) E E.length):=by
 have hn:(cW E).length=E.length:=Zd _;have zh:∀{x:Nat} {e:En},E[x]? =some e->(cW E)[x]? =some e.to:=fun{x e} h=>by unfold cW;rw[Ze,h];rfl
 refine⟨fun x hx=>(nu.mp hx).1,?_,fun x hx e he t ht=>?_,fun k hk=>?_,?_,?_⟩
 ·unfold up;exact abv _ List.nodup_range
 ·obtain⟨h1,h2⟩:=nu.mp hx;obtain⟨y,hy,rfl⟩:=ZO.mp h2;obtain⟨i,hi⟩:=ZP.mp hy;obtain⟨x',iS,e',_⟩:=b.closed i y _ (Zb.mp hi).1 hi (zh he) t ht;have:=b.lt x' iS;exact nu.mpr ⟨by omega,ZO.mpr ⟨x',iS,e'⟩⟩
 ·obtain⟨h1,h2⟩:=xB hk;unfold wB at h2;split at h2
  ·rename_i b0 hT;rw[Zr] at h2;have mem:∀x,x∈[b0]↔x∈up (ks L) E.length/\k∈fj (cW E) x:=fun x=>by
    obtain⟨c,hc,q⟩:=CM (G:=cW E) (L:=L) (k:=k) (x:=x) (by omega);rw[hT] at hc;cases hc;rw[<- hn];exact q
   obtain⟨m1,m2⟩:=(mem b0).mp (by simp);refine⟨b0,m1,?_,fun b' X6 e he X7=>?_⟩
   ·cases he:E[b0]? with
    | none=>rw[he] at h2;cases h2.2
    | some e=>
     rw[he] at h2;cases e with
     | go j=>
      unfold fj at m2;rw[zh he] at m2;have:k=j:=by simpa[En.to] using m2
      rw[this]
     | iff v a c=>cases h2.2
     | fin=>cases h2.2
   ·have:=(mem b').mpr ⟨X6,by unfold fj;rw[zh he];exact X7⟩
    simpa using this
  ·cases h2
 ·exact nu.mpr ⟨by have:=hG.pos;omega,ZO.mpr ⟨_,Zj b.zero,rfl⟩⟩
 ·intro z;have h2:=(xB z).2;unfold wB at h2;split at h2
  ·simp at h2
  ·cases h2
theorem BW{E:List En}:∀{l:List Nat} {z j:Nat},Way E l->l.getLast? =some z->E[z]? =some (.go j)->Way E (l++[j])
 | [k],z,j,h,hz,he=>by
  have:k=z:=by simpa using hz
  subst this;exact⟨he,trivial⟩
 | k::k2::l,z,j,h,hz,he=>⟨h.1,BW (l:=k2::l) h.2 (by simpa[acU] using hz) he⟩
theorem DM{E:List En}:∀{l:List Nat} {i x y:Nat},Way E l->l[i]? =some x->l[i+1]? =some y->E[x]? =some (.go y)
 | [k],i,x,y,h,h1,h2=>by cases h2
 | k::k2::l,0,x,y,h,h1,h2=>by
  cases h1;cases h2;exact h.1
 | k::k2::l,i+1,x,y,h,h1,h2=>DM (l:=k2::l) h.2 h1 h2
variable{F:List Nat}
theorem Rr{W:List Nat}(w:Wi E F W){z k0:Nat}(h:Way E l)(hF:∀x∈l,x∈F)(h0:l[0]? =some k0)(zi:k0∉W)(hn:l.Nodup)(hz:l.getLast? =some z)(he:E[z]? =some (.go j))(hj:j∈W):j∉l:=fun hm=>by
 obtain⟨i,hi⟩:=ZP.mp hm;have Y4:=(Zb.mp hi).1;cases i with
 | zero=>rw[h0] at hi;cases hi;exact zi hj
 | succ i=>
  obtain⟨x,hx⟩:∃x,l[i]? =some x:=bR (by omega);obtain⟨b,_,_,hb⟩:=w.one j hj;have e1:x=b:=hb x (hF x (Zj hx)) _ (DM h hx hi) (by simp[En.to]);have Gv:l[l.length-1]? =some z:=by rw[<- List.getLast?_eq_getElem?];exact hz
  have e2:z=b:=hb z (hF z (Zj Gv)) _ he (by simp[En.to]);have iS:=hx;rw[e1,<- e2] at iS;obtain⟨q1,q2⟩:=Zb.mp iS;obtain⟨q3,q4⟩:=Zb.mp Gv;have:=(List.getElem_inj hn).mp (q2.trans q4.symm);omega
structure Jn(E:List En)(F W:List Nat)(k:Nat)(l:List Nat):Prop where
 way:Way E l
 mw:∀x∈l,x∈F
 hd:l[0]? =some k
 nd:l.Nodup
theorem OZ(B:List bM)(l:List Nat){b:bM}(h:B[j]? =some b):rowsOf B (l++[j])=rowsOf B l++b.rs:=by
 unfold rowsOf;rw[List.flatMap_append];simp[h]
theorem vQ{B:List bM}{M:Nat}(hB:gG M B):∀(l:List Nat),(rowsOf B l).length<=M*l.length
 | []=>by simp[rowsOf]
 | k::l=>by
  have ih:=vQ hB l;unfold rowsOf at ih ⊢;rw[acI,Zz,aat,Nat.mul_succ];cases h:B[k]? with
  | none=>simp only[acj];omega
  | some b=>
   have:=(hB.rows b (Zj h)).1;simp only;omega
theorem Rt(hB:gG M B):∀r∈rowsOf B l,gq r:=fun r hr=>by
 unfold rowsOf at hr;obtain⟨k,_,hk⟩:=List.mem_flatMap.mp hr;cases h:B[k]? with
 | none=>rw[h] at hk;cases hk
 | some b=>rw[h] at hk;exact(hB.rows b (Zj h)).2 r hk
structure JC(ph:PH)(bi ei wi M:Nat)(B:List bM)(E:List En)(W:List Nat):Prop where
 ok:gG M B
 hM:M<=100
 at_:d8 ph bi B
 ends:ph[ei]? =some (.lst (E.map En.w))
 el:E.length=B.length
 X8:ph[wi]? =some (.aF (mk W))
theorem P6{W:List Nat}(c:JC ph bi ei wi M B E W)(w:Wi E F W)(x:Ex ph H)(hk:k∈F)(zi:k∉W) :
  ∃H' l z e,rq [.ref bi,.ref ei,.ref wi,.int k] H=.ok (.tup [.ref H.length,e.w]) H'/\Ex H H'/\H'[H.length]? =some (.lst ((rowsOf B l).map Row.w))/\Jn E F W k l/\l.getLast? =some z/\E[z]? =some e/\∀j,e=.go j->j∉W:=by
 have X9:=w.lt k hk;have ht:=c.ok.top;have Y5:=c.el;obtain⟨b,hb⟩:∃b,B[k]? =some b:=bR (by omega);obtain⟨e0,Gw⟩:∃e0,E[k]? =some e0:=bR X9;obtain⟨ri,mv,hX⟩:=c.at_.ix hb;have endAt:∀{j:Nat} {e:En} {H:PH},Ex ph H->E[j]? =some e->lift (ag (.ref ei) (.int j)) H=.ok e.w H:=fun{j e H} x he=>eU (x.get c.ends) (by rw[eR _ _ (by rw[Zd];exact(Zb.mp he).1),Ze,he];rfl)
 obtain⟨H1,e1⟩:∃H1,H1=H++[PO.lst (b.rs.map Row.w)]:=⟨_,rfl⟩
 have x1:Ex H H1:=e1▸Ex.one _ _;have g1:H1[H.length]? =some (.lst (b.rs.map Row.w)):=by rw[e1];exact bz _ _
 have Yz:F.length<=E.length:=by
  have:=jL w.nd w.lt;exact this
 obtain⟨aj,H',e,l,z,en,rfl,j1,j2,j3,j4,j5,j6⟩:=A7 (t:=dJ (eT (ab aQ (ab ag (aa 5) (eC (.int (0)))) (eC (.str "go")))) (eT (ab c6 (ab ag (aa 5) (eC (.int (1)))) (aa 2)))) (b:=qQ)
  (fun m σ K=>∃l z en,σ=[some (.ref bi),some (.ref ei),some (.ref wi),some (.int k),some (.ref H.length),some (En.w en)]/\Jn E F W k l/\l.getLast? =some z/\E[z]? =some en/\Ex H K/\K[H.length]? =some (.lst ((rowsOf B l).map Row.w))/\m+l.length=E.length+1)
  (fun σ K=>∃l z en,σ=[some (.ref bi),some (.ref ei),some (.ref wi),some (.int k),some (.ref H.length),some (En.w en)]/\Jn E F W k l/\l.getLast? =some z/\E[z]? =some en/\Ex H K/\K[H.length]? =some (.lst ((rowsOf B l).map Row.w))/\∀j,en=.go j->j∉W)
  (fun m σ K zz=>by
   obtain⟨l,z,en,rfl,j1,j2,j3,j4,j5,j6⟩:=zz;have qG:z∈F:=j1.mw z (adA j2);have qt:l.length<=E.length:=Zq (jL j1.nd fun y hy=>w.lt y (j1.mw y hy)) (Zf _);have t1:∀(d:Bool),decide (en.x="go")=d->eT (ab aQ (ab ag (aa 5) (eC (.int (0)))) (eC (.str "go"))) [some (.ref bi),some (.ref ei),some (.ref wi),some (.int k),some (.ref H.length),some (En.w en)] K=.ok d K:=fun d hd=>by
    rw[fv,c8,dG,aW (show ab ag (aa 5) (eC (.int (0))) [some (.ref bi),some (.ref ei),some (.ref wi),some (.int k),some (.ref H.length),some (En.w en)] K=.ok (.str en.x) K from xZ en K),<- hd];ac_nf
   cases en with
   | go j=>
    have zj:j∈F:=w.cl z qG _ j3 j (by simp[En.to]);have t2:eT (ab c6 (ab ag (aa 5) (eC (.int (1)))) (aa 2)) [some (.ref bi),some (.ref ei),some (.ref wi),some (.int k),some (.ref H.length),some (En.go j).w] K=.ok (decide (j∈W)) K:=by
     rw[fv,c8];refine aw (aw rfl (aw rfl (Q4 ((x.trans j4).get c.X8) (xA W _)))) ?_;rw[EG];rfl
    by_cases hj:j∈W
    ·right
     have fR:=Rr w j1.way j1.mw j1.hd zi j1.nd j2 j3 hj;obtain⟨bj,gH⟩:∃bj,B[j]? =some bj:=bR (by have:=w.lt j zj;omega);obtain⟨ej,Gx⟩:∃ej,E[j]? =some ej:=bR (w.lt j zj);obtain⟨rj,V5,ms⟩:=c.at_.ix gH;rw[decide_eq_true hj] at t2;have YA:=vQ c.ok l;have YB:=(c.ok.rows bj (Zj gH)).1;have hM:=c.hM;have fH:(rowsOf B l).length<=6100:=by
      have:=adF hM (show l.length<=61 by omega);omega
     have body:qQ [some (.ref bi),some (.ref ei),some (.ref wi),some (.int k),some (.ref H.length),some (En.go j).w] K=.ok (.nx [some (.ref bi),some (.ref ei),some (.ref wi),some (.int k),some (.ref H.length),some ej.w]) (K.set H.length (.lst ((rowsOf B l).map Row.w++bj.rs.map Row.w))):=by
      unfold qQ;refine sq (ext (j:=rj) rfl ⟨_,j5⟩ (ph1:=K) (aw (aw rfl (aw rfl (V5 K (x.trans j4)))) rfl) j5 ((x.trans j4).get ms) (by rw[Zd,Zd];omega)) (asg (aw rfl (aw rfl (endAt (Ex.set (x.trans j4) x.len _) Gx))))
     refine⟨K,tT (t1 _ rfl) t2,_,_,body,_,.inl rfl,m-1,by omega,l++[j],j,ej,rfl,⟨BW j1.way j2 j3,fun y hy=>?_,?_,?_⟩,by simp,Gx,Ex.set j4 (Zf _) _,?_,by simp;omega⟩
     ·rcases aaA.mp hy with q | q
      ·exact j1.mw y q
      ·rw[ZQ.mp q];exact zj
     ·rw[ZU (Zb.mp j1.hd).1];exact j1.hd
     ·rw[acH];exact⟨j1.nd,by simp,fun a ha d hd=>by rw[ZQ.mp hd];exact fun q=>fR (q▸ha)⟩
     ·rw[fO j5,OZ B l gH,abl]
    ·left
     rw[decide_eq_false hj] at t2;exact⟨K,tT (t1 _ rfl) t2,l,z,_,rfl,j1,j2,j3,j4,j5,fun j' kL=>by cases kL;exact hj⟩
   | iff v a d=>
    left
    exact⟨K,tF (t1 _ rfl),l,z,_,rfl,j1,j2,j3,j4,j5,fun j' kL=>nomatch kL⟩
   | fin=>
    left
    exact⟨K,tF (t1 _ rfl),l,z,_,rfl,j1,j2,j3,j4,j5,fun j' kL=>nomatch kL⟩)
  E.length [some (.ref bi),some (.ref ei),some (.ref wi),some (.int k),some (.ref H.length),some (En.w e0)] H1 ⟨[k],k,e0,rfl,⟨trivial,fun y hy=>by rw[ZQ.mp hy];exact hk,rfl,by simp⟩,by simp,Gw,x1,by rw[g1];simp[rowsOf,hb],by simp⟩
 refine⟨H',l,z,en,?_,j4,j5,j1,j2,j3,j6⟩;unfold rq kU;rw[tY];refine bq (ph1:=H1) (σ1:=[some (.ref bi),some (.ref ei),some (.ref wi),some (.int k),some (.ref H.length),none]) ?_ (bq (ph1:=H1) (σ1:=[some (.ref bi),some (.ref ei),some (.ref wi),some (.int k),some (.ref H.length),some (En.w e0)]) (asg (aw rfl (aw rfl (endAt (x.trans x1) Gw)))) (bq e rfl));refine asg (aw (aB (aw (aw rfl (aw rfl (mv H x))) rfl) rfl) ?_);rw[e1];exact Bm (x.get hX)
theorem DN(rs:List Nat)(B:List bM):bw rs B=(rs.zip B).map fun p=>W.tup [.ref p.1,p.2.en.w]:=by
 unfold bw;rw[List.zip,List.map_zipWith]
theorem Ru(h:rs.length=B.length)(f:bM->α):(rs.zip B).map (fun p=>f p.2)=B.map f:=by
 rw[show(fun p:Nat×bM=>f p.2)=f∘Prod.snd from rfl,<- aaC,List.map_snd_zip (by omega)]
theorem Rv (hB : gG M B) : Ok (cW (eE B)) := by
  have hl : (cW (eE B)).length = B.length := by unfold cW eE; rw [Zd, Zd]
  have := hB.pos;have := hB.top;refine ⟨by omega, by omega, fun g hg x hx => ?_, fun g hg => ?_⟩
  · unfold cW eE at hg
    rw [aaC] at hg;obtain ⟨b, hb, rfl⟩ := ZO.mp hg;obtain ⟨k, hk⟩ := ZP.mp hb;have key : ∀ t ∈ b.en.to, cw B B.length t < B.length := fun t ht => DI hB.lt (hB.lt k b hk t ht)
    rw [hl];simp only [abM] at hx;cases he : b.en with
    | go j => rw [he] at hx key; have : x = cw B B.length j := by simpa [En.mp, En.to] using hx
              rw [this]; exact key j (by simp [En.to])
    | iff v a c =>
      rw [he] at hx key;have : x = cw B B.length a \/ x = cw B B.length c := by simpa [En.mp, En.to] using hx
      rcases this with z | z
      · rw [z]; exact key a (by simp [En.to])
      · rw [z]; exact key c (by simp [En.to])
    | fin => rw [he] at hx; simp [En.mp, En.to] at hx
  · unfold cW at hg
    obtain ⟨e, _, rfl⟩ := ZO.mp hg;cases e <;> simp [En.to]
theorem Rw{o1 o2 o4 o5 o6:Option W}(hB:gG M B)(hA:d8 ph bi B) :
  ∃ph',bX (cV (ae (bG cY (ae (aa 0) ak)) ak)) [none,some 0] (gN 0) cm (a7 pe (ae (aa 1) (ae (aa 0) ak))) [some (.ref bi),o1,o2,o3,o4,o5,o6,o7] ph=.ok (.ref ph.length) ph'/\Ex ph ph'/\ph'[ph.length]? =some (.lst (iw ((ZS B.length).map (cw B B.length)))):=by
 have ht:=hB.top;obtain⟨ph',e,x⟩:=jO (ZS B.length) (fun i:Nat=>W.int i) (im:=cV (ae (bG cY (ae (aa 0) ak)) ak)) (cap:=[none,some 0]) (g:=gN 0) (c:=cm) (e:=a7 pe (ae (aa 1) (ae (aa 0) ak))) (σ:=[some (.ref bi),o1,o2,o3,o4,o5,o6,o7]) (ph0:=ph) (ph:=ph) (chk:=fun _=>true)
  (by rw[<- pA];exact i6 (j:=B.length) (aB (aw (aB rfl rfl) hA.cY) rfl) (by omega) (by omega)) (fun _ _=>rfl) (by rw[ZI];exact Zq ht (by decide))
  (fun k=>some (.int ((cw B B.length k:Nat):Int))) (fun σ=>∃o,σ=[o,some (.ref bi)]) ⟨none,rfl⟩
  (fun k hk σ K zz hx=>by
   obtain⟨o,rfl⟩:=zz;exact⟨_,rfl,⟨_,rfl⟩,true,K,rfl,Ex.refl _,.inr ⟨rfl,_,K,aw (aB rfl (aB rfl rfl)) (Ve hB (hA.mono hx) (aaq.mp hk)),Ex.refl _,rfl⟩⟩)
 rw[m7] at x;refine⟨ph',e,(Ex.one _ _).trans x,?_⟩;have:=x.get (bz ph _);rw[this];unfold iw;rw[aaC];rfl
theorem EH{x:Nat}(h:H[i]? =some (.lst (iw l)))(hk:l[k]? =some x):lift (ag (.ref i) (.int k)) H=.ok (.int x) H:=eU h (EA hk)
theorem T4{li:Nat}{o2 o4 o5 o6:Option W}(hB:gG M B)(hA:d8 ph bi B)(hl:ph[li]? =some (.lst (iw ((ZS B.length).map (cw B B.length))))) :
  ∃ph',bX (cO (aa 0)) [none,some 1] (gN 0) cm (a7 k6 (ae (ab ag (aa 0) (eC (.int (1)))) (ae (aa 1) ak))) [some (.ref bi),some (.ref li),o2,o3,o4,o5,o6,o7] ph=.ok (.ref ph.length) ph'/\Ex ph ph'/\ph'[ph.length]? =some (.lst ((eE B).map En.w)):=by
 have ht:=hB.top;obtain⟨rs,h⟩:=hA;obtain⟨ph',e,x⟩:=jO (rs.zip B) (fun p=>W.tup [.ref p.1,p.2.en.w]) (im:=cO (aa 0)) (cap:=[none,some 1]) (g:=gN 0) (c:=cm) (e:=a7 k6 (ae (ab ag (aa 0) (eC (.int (1)))) (ae (aa 1) ak))) (σ:=[some (.ref bi),some (.ref li),o2,o3,o4,o5,o6,o7]) (ph0:=ph) (ph:=ph) (chk:=fun p=>decide (p[bi]? =some (.lst (bw rs B))))
  (by rw[<- DN];exact fL rfl h.at_) (fun p x=>decide_eq_true (x.get h.at_)) (by rw[adq];exact Zq (Nat.min_le_right _ _) (Zq ht (by decide)))
  (fun p=>some (p.2.en.mp (cw B B.length)).w) (fun σ=>∃o,σ=[o,some (.ref li)]) ⟨none,rfl⟩
  (fun p hp σ K zz hx=>by
   obtain⟨o,rfl⟩:=zz;obtain⟨k,hk⟩:=ZP.mp (abi hp).2;refine⟨_,rfl,⟨_,rfl⟩,true,K,rfl,Ex.refl _,.inr ⟨rfl,_,K,aw (aB rfl (aB rfl rfl)) (DL p.2.en (cw B B.length) fun t ht=>EH (hx.get hl) ?_),Ex.refl _,rfl⟩⟩;rw[Ze,ack (hB.lt k _ hk t ht)];rfl)
 rw[m7,Ru h.len (fun b=>(b.en.mp (cw B B.length)).w)] at x;refine⟨ph',e,(Ex.one _ _).trans x,?_⟩;rw[x.get (bz ph _)];unfold eE;rw[aaC];rfl
theorem BX:∀(ps d:List (W×W)),(∀p∈d++ps,∃k:Int,p.1=.int k)->((d++ps).map (·.1)).Nodup->(d++ps).length<=1000->lI d ps=some (d++ps)
 | [],d,_,_,_=>by rw[aak];rfl
 | p::ps,d,h1,h2,h3=>by
  have hk:cQ d p.1=true:=by
   obtain⟨k,hk⟩:=h1 p (by simp);unfold cQ;rw[hk,aaN]
   left
   rw[Zr,aam];refine⟨rfl,fun q hq=>?_⟩;obtain⟨j,hj⟩:=h1 q (aaV _ hq);rw[hj];rfl
  have hp:dw d p.1 p.2=d++[p]:=by
   unfold dw;have:(d.any fun q=>decide (q.1=p.1))=false:=by
    rw[List.any_eq_false];intro q hq;rw[decide_eq_true_eq];intro z;rw[abl,acH] at h2;exact h2.2.2 q.1 (abF hq) p.1 (by simp) z
   rw[this];rfl
  unfold lI;rw[if_pos ⟨hk,Zg (show d.length<1001 by simp at h3;omega) (by decide)⟩,hp];have e:d++p::ps=d++[p]++ps:=by simp
  rw[e] at h1 h2 h3 ⊢;exact BX ps (d++[p]) h1 h2 h3
theorem Rx{ps:List (W×W)}(hn:(ps.map (·.1)).Nodup){k v:W}(h:(k,v)∈ps):c4 ps k=some v:=by
 unfold c4
 induction ps with
 | nil=>cases h
 | cons p ps ih=>
  rw[ZL,abK] at hn;rw[aaB]
  rcases ZK.mp h with rfl | h
  ·simp
  ·have:¬p.1=k:=fun z=>hn.1 (z▸abF (f:=(·.1)) h)
   simp only[this,decide_false];exact ih hn.2 h
def f9(l:List Nat):List (W×W):=(ZS l.length).map fun i=>((iw l).getD i .aG,W.int i)
theorem wZ(h:l[i]? =some k):(f9 l)[i]? =some (W.int k,W.int i):=by
 have hi:=(Zb.mp h).1;unfold f9;rw[Ze,ack hi];simp only[ZN];rw[aav];unfold iw;rw[Ze,h];rfl
theorem CN{p:W×W}(h:p∈f9 l):∃i k:Nat,l[i]? =some k/\p=(W.int k,W.int i):=by
 obtain⟨i,hi⟩:=ZP.mp h;have hl:i<l.length:=by have:=(Zb.mp hi).1;unfold f9 at this;rw[Zd,ZI] at this;exact this
 obtain⟨k,hk⟩:∃k,l[i]? =some k:=bR hl;rw[wZ hk] at hi;exact⟨i,k,hk,(ZX hi).symm⟩
theorem CO(l:List Nat):(f9 l).length=l.length:=by unfold f9;rw[Zd,ZI]
theorem BY(l:List Nat):(f9 l).map (·.1)=iw l:=by
 apply abr
 intro i;by_cases hi:i<l.length
 ·obtain⟨k,hk⟩:∃k,l[i]? =some k:=bR hi;rw[Ze,wZ hk];unfold iw;rw[Ze,hk];rfl
 ·rw[ZY (by rw[Zd,CO];omega),ZY (by rw[gP];omega)]
theorem EI(h:l.Nodup):(iw l).Nodup:=by
 unfold iw;exact adW _ (fun a b jB z=>jB (by have:=W.int.inj z;omega)) h
theorem T5(l:List Nat)(k:Int):cQ (f9 l) (.int k)=true:=by
 unfold cQ;rw[aaN]
 left
 rw[Zr,aam];refine⟨rfl,fun q hq=>?_⟩;obtain⟨i,j,_,rfl⟩:=CN hq;rfl
variable{s2 s3:Option W}
theorem T6{fi:Nat}(hl:ph[fi]? =some (.lst (iw l)))(hn:l.Nodup)(hz:l.length<=100) :
  ∃di ph',bG nC (ae (bX (j0 (ae (aa 5) ak)) [none,none] (gS 2 [(gN 0),(gN 1)]) cm (bT (ae (aa 1) (ae (aa 0) ak)))) ak) [s0,s1,s2,s3,s4,some (.ref fi),s6,s7] ph=.ok (.ref di) ph'/\Ex ph ph'/\ph'[di]? =some (.aF (f9 l)):=by
 obtain⟨ph1,e,x⟩:=jO (ZS l.length) (fun i:Nat=>W.tup [.int i,(iw l).getD i .aG]) (im:=j0 (ae (aa 5) ak)) (cap:=[none,none]) (g:=gS 2 [(gN 0),(gN 1)]) (c:=cm) (e:=bT (ae (aa 1) (ae (aa 0) ak))) (σ:=[s0,s1,s2,s3,s4,some (.ref fi),s6,s7]) (ph0:=ph) (ph:=ph) (chk:=fun p=>decide (p[fi]? =some (.lst (iw l))))
  (by
   rw[A6 (i:=fi) (ws:=iw l) (ph':=ph) rfl hl];unfold gp;rw[gP]) (fun p x=>decide_eq_true (x.get hl)) (by rw[ZI];exact Zq hz (by decide))
  (fun i=>some (.tup [(iw l).getD i .aG,.int i])) (fun σ=>∃a b,σ=[a,b]) ⟨none,none,rfl⟩
  (fun i hi σ K zz hx=>by
   obtain⟨a,b,rfl⟩:=zz;exact⟨_,rfl,⟨_,_,rfl⟩,true,K,rfl,Ex.refl _,.inr ⟨rfl,_,K,rfl,Ex.refl _,rfl⟩⟩)
 rw[m7] at x;have h1:=x.get (bz ph _);refine⟨ph1.length,ph1++[.aF (f9 l)],aw (aB e rfl) (Pr (ps:=f9 l) h1 ?_ ?_),((Ex.one _ _).trans x).trans (Ex.one _ _),bz _ _⟩
 ·exact jP pK (fun i:Nat=>W.tup [(iw l).getD i .aG,.int i]) (fun i:Nat=>((iw l).getD i .aG,W.int i)) (fun _=>rfl) (ZS l.length)
 ·refine BX (f9 l) [] (fun p hp=>?_) (by rw[aci,BY];exact EI hn) (by rw[aci,CO];omega);obtain⟨i,k,_,rfl⟩:=CN hp;exact⟨_,rfl⟩
theorem Ry(h:H[di]? =some (.aF (f9 l)))(hn:l.Nodup)(hk:l[i]? =some k):lift (ag (.ref di) (.int k)) H=.ok (.int i) H:=
 Q3 h (T5 l _) (Rx (by rw[BY];exact EI hn) (Zj (wZ hk)))
theorem vR{ws:List β}{f:α->β}{Q:Nat->α->Prop}(h:∀(j:Nat) w,ws[j]? =some w->∃d,w=f d/\Q j d):∃D:List α,ws=D.map f/\∀(j:Nat) d,D[j]? =some d->Q j d:=by
 induction ws generalizing Q with
 | nil=>exact⟨[],rfl,fun j d z=>by simp at z⟩
 | cons w ws ih=>
  obtain⟨d,e,q⟩:=h 0 w rfl;obtain⟨D,e2,q2⟩:=ih (Q:=fun j=>Q (j+1)) fun j w hw=>h (j+1) w (by simpa using hw)
  refine⟨d::D,by rw[e,e2];rfl,fun j d' hd=>?_⟩;cases j with
  | zero=>cases hd;exact q
  | succ j=>exact q2 j d' (by simpa using hd)
structure JD where
 r:Nat
 l:List Nat
 e:En
def JD.w(d:JD):W:=.tup [.ref d.r,d.e.w]
variable{W0:List Nat}{a b:EM}
theorem V6(h:H[i]? =some (.aF (mk W0)))(ha:a σ=au (.int j))(hb:b σ=au (.ref i)):eT (ab fT a b) σ H=.ok (!decide (j∈W0)) H:=by
 rw[fv,c8,ha,hb];refine aw (aw rfl (aw rfl (BJ h (xA W0 _)))) ?_;rw[EG];rfl
def kM(F W0:List Nat):List Nat:=F.filter fun k=> !decide (k∈W0)
theorem sT:k∈kM F W0↔k∈F/\k∉W0:=by
 unfold kM;rw[aar];simp
theorem T7{fi:Nat}(hf:ph[fi]? =some (.lst (iw F)))(hw:ph[wi]? =some (.aF (mk W0)))(hz:F.length<=100) :
  ∃ph',bX (cO (aa 4)) [none,some 3] (gN 0) (eT (ab fT (aa 0) (aa 1))) (aa 0) [s0,s1,s2,some (.ref wi),some (.ref fi),s5,s6,s7] ph=.ok (.ref ph.length) ph'/\Ex ph ph'/\ph'[ph.length]? =some (.lst (iw (kM F W0))):=by
 obtain⟨ph',e,x⟩:=jO F (fun i:Nat=>W.int i) (im:=cO (aa 4)) (cap:=[none,some 3]) (g:=gN 0) (c:=eT (ab fT (aa 0) (aa 1))) (e:=aa 0) (σ:=[s0,s1,s2,some (.ref wi),some (.ref fi),s5,s6,s7]) (ph0:=ph) (ph:=ph) (chk:=fun p=>decide (p[fi]? =some (.lst (iw F))))
  (fL rfl hf) (fun p x=>decide_eq_true (x.get hf)) (Zq hz (by decide))
  (fun k=>if k∈W0 then none else some (.int k)) (fun σ=>∃o,σ=[o,some (.ref wi)]) ⟨none,rfl⟩
  (fun k hk σ K zz hx=>by
   obtain⟨o,rfl⟩:=zz;have t:=V6 (a:=aa 0) (b:=aa 1) (j:=k) (σ:=[some (.int k),some (.ref wi)]) (hx.get hw) rfl rfl;refine⟨_,rfl,⟨_,rfl⟩,_,K,t,Ex.refl _,?_⟩;by_cases hk:k∈W0
   ·exact .inl ⟨by rw[decide_eq_true hk];rfl,if_pos hk⟩
   ·exact .inr ⟨by rw[decide_eq_false hk];rfl,_,K,rfl,Ex.refl _,if_neg hk⟩)
 refine⟨ph',e,(Ex.one _ _).trans x,?_⟩;rw[x.get (bz ph _)]
 congr 2
 unfold iw kM
 clear x e hf hw hz
 induction F with
 | nil=>rfl
 | cons k F ih=>
  by_cases hk:k∈W0
  ·simp[hk,ih]
  ·simp[hk,ih]
theorem Rz(w:Wi E F W0){z t:Nat}{e:En}(hz:z∈F)(he:E[z]? =some e)(hg:∀j,e=.go j->j∉W0)(ht:t∈e.to):t∈kM F W0:=by
 refine sT.mpr ⟨w.cl z hz e he t ht,fun hW=>?_⟩;obtain⟨b,hb,ky,lV⟩:=w.one t hW;have:=lV z hz e he ht;subst this;rw[he] at ky;cases ky;exact hg t rfl hW
theorem P7{m:SM}{w:W}(h:m σ ph=.ok (.rt w) ph1):xy m σ ph=.ok (.rt w) ph1:=CJ h
theorem P8{L:List Nat}(hn:0<n)(h0:0∈L)(hw:0∉W0):(kM (up L n) W0)[0]? =some 0:=by
 obtain⟨m,rfl⟩:∃m,n=m+1:=⟨n-1,by omega⟩
 unfold kM up;rw[List.range_succ_eq_map,acV,if_pos (decide_eq_true h0),acV,if_pos (by rw[decide_eq_false hw];rfl)];rfl
theorem NP (hB : gG M B) (hM : M <= 100) (hA : d8 ph bi B) :
    ∃ nb ph' NB J h, ve [.ref bi] ph = .ok (.ref nb) ph' /\ Ex ph ph' /\ d8 ph' nb NB /\ ud B NB J h /\ gG (M * B.length) NB := by
  have ht := hB.top;have hp := hB.pos;have hG := Rv hB;have uB : (eE B).length = B.length := by unfold eE; rw [Zd]
  have uz : (cW (eE B)).length = B.length := by unfold cW; rw [Zd, uB]
  obtain ⟨E, hE⟩ : ∃ E, E = eE B := ⟨_, rfl⟩
  obtain ⟨H1, e1, x1, g1⟩ := Rw (o1 := none) (o2 := none) (o3 := none) (o4 := none) (o5 := none) (o6 := none) (o7 := none) hB hA;obtain ⟨H2, e2, x2, g2⟩ := T4 (o2 := none) (o3 := none) (o4 := none) (o5 := none) (o6 := none) (o7 := none) hB (hA.mono x1) g1;rw [<- hE] at g2 hG uB uz;obtain ⟨H3, L, e3, x3, bL, g3⟩ := P5 g2 hG;obtain ⟨W0, hW⟩ : ∃ W0, W0 = wl (cx (cW E) L) E E.length := ⟨_, rfl⟩
  obtain ⟨F, hF⟩ : ∃ F, F = up (ks L) E.length := ⟨_, rfl⟩
  have w := Vf hG bL;rw [<- hW, <- hF] at w;rw [<- hW] at g3;have Gy := x3.get g2
  -- found
  obtain ⟨di, H4, L', e4, x4, d4, Gz⟩ := CH (Rq (ph := H3 ++ [.lst [.int 0]]) ((Ex.one _ _).get Gy)) hG (bz H3 (.lst [.int 0]));have e5 := DG Gz.toBa hG d4;rw [up_eq Gz bL, uz, <- uB, <- hF] at e5;obtain ⟨H5, zk⟩ : ∃ H5, H5 = H4 ++ [PO.lst (iw F)] := ⟨_, rfl⟩
  have x5 : Ex H3 H5 := zk ▸ ((Ex.one _ _).trans x4).trans (Ex.one _ _);have g5 : H5[H4.length]? = some (.lst (iw F)) := by rw [zk]; exact bz _ _
  rw [<- zk] at e5;have Ya : F.length <= 100 := by have := jL w.nd w.lt; omega
  -- left
  obtain ⟨H6, e6, x6, g6⟩ := T7 (s0 := some (.ref bi)) (s1 := some (.ref ph.length)) (s2 := some (.ref H1.length)) (s5 := none) (s6 := none) (s7 := none) g5 (x5.get g3) Ya;obtain ⟨lf, mB⟩ : ∃ lf, lf = kM F W0 := ⟨_, rfl⟩
  rw [<- mB] at g6;have zl : lf.Nodup := by rw [mB]; exact abv _ w.nd
  have qt : lf.length <= E.length := by
    have := jL zl (n := E.length) fun x hx => by rw [mB] at hx; exact w.lt x (sT.mp hx).1
    exact this
  -- anew
  obtain ⟨ai, H7, e7, x7, g7⟩ := T6 (s0 := some (.ref bi)) (s1 := some (.ref ph.length)) (s2 := some (.ref H1.length)) (s3 := some (.ref H2.length)) (s4 := some (.ref H4.length)) (s6 := none) (s7 := none) g6 zl (by omega);have uC : Ex H3 H7 := (x5.trans x6).trans x7;have jc : JC H7 bi H1.length H2.length M B E W0 := ⟨hB, hM, hA.mono (((x1.trans x2).trans x3).trans uC), uC.get Gy, uB, uC.get g3⟩
  -- joined
  obtain ⟨H8, ws, e8, x8, g8, iK, hP⟩ := wo lf (fun i : Nat => W.int (i : Int)) (ph := H7) (ph0 := H7) (im := cO (aa 5)) (cap := [none, some 0, some 2, some 3]) (g := gN 0) (e := a7 rq (ae (aa 1) (ae (aa 2) (ae (aa 3) (ae (aa 0) ak))))) (σ := [some (.ref bi), some (.ref ph.length), some (.ref H1.length), some (.ref H2.length), some (.ref H4.length), some (.ref H5.length), some (.ref ai), none]) (chk := fun p => decide (p[H5.length]? = some (.lst (iw lf))))
    (fL rfl (x7.get g6)) (fun p x => decide_eq_true (x.get (x7.get g6))) (by omega)
    (fun j w0 H => ∃ d : JD, w0 = d.w /\ d.r ≠ H7.length /\ H[d.r]? = some (.lst ((rowsOf B d.l).map Row.w)) /\ ∃ k z, lf[j]? = some k /\ Jn E F W0 k d.l /\ d.l.getLast? = some z /\ E[z]? = some d.e /\ ∀ j, d.e = .go j -> j ∉ W0)
    (fun j w0 H H' q keep => by
      obtain ⟨d, q1, q2, q3, q4⟩ := q;exact ⟨d, q1, q2, keep d.r _ q2 q3, q4⟩)
    (fun σ => ∃ o, σ = [o, some (.ref bi), some (.ref H1.length), some (.ref H2.length)]) ⟨none, rfl⟩
    (fun j k hj σ H hS y cB => by
      obtain ⟨o, rfl⟩ := hS;have hk := Zj hj;rw [mB] at hk;obtain ⟨zm, Yb⟩ := sT.mp hk;obtain ⟨H', l, z, e, q1, q2, q3, q4, q5, q6, q7⟩ := P6 jc w y zm Yb;exact ⟨_, rfl, ⟨_, rfl⟩, _, H', aw (aB rfl (aB rfl (aB rfl (aB rfl rfl)))) q1, q2, ⟨H.length, l, e⟩, rfl, by show H.length ≠ H7.length; omega, q3, k, z, hj, q4, q5, q6, q7⟩)
  obtain ⟨D, hD, oJ⟩ := vR (f := JD.w) (Q := fun j (d : JD) => H8[d.r]? = some (.lst ((rowsOf B d.l).map Row.w)) /\ ∃ k z, lf[j]? = some k /\ Jn E F W0 k d.l /\ d.l.getLast? = some z /\ E[z]? = some d.e /\ ∀ j, d.e = .go j -> j ∉ W0) fun j w0 Yc => by
    obtain ⟨d, q1, _, q3, q4⟩ := hP j w0 Yc;exact ⟨d, q1, q3, q4⟩
  have uD : D.length = lf.length := by rw [<- iK, hD, Zd]
  subst hD;have qG : ∀ {j : Nat} {d : JD}, D[j]? = some d -> ∀ t ∈ d.e.to, t ∈ lf := fun {j d} hd t ht => by
    obtain ⟨_, k, z, q1, q2, q3, q4, q5⟩ := oJ j d hd;rw [mB];exact Rz w (q2.mw z (adA q3)) q4 q5 ht
  have idx : ∀ {t : Nat}, t ∈ lf -> lf[lf.idxOf t]? = some t := fun {t} h => by
    rw [aaE (abm h), List.getElem_idxOf]
  -- Y6 blocks anew
  obtain ⟨H9, e9, x9⟩ := jO D JD.w (im := cO (aa 7)) (cap := [none, some 6]) (g := gN 0) (c := cm) (e := bT (ae (ab ag (aa 0) (eC (.int (0)))) (ae (a7 k6 (ae (ab ag (aa 0) (eC (.int (1)))) (ae (aa 1) ak))) ak))) (σ := [some (.ref bi), some (.ref ph.length), some (.ref H1.length), some (.ref H2.length), some (.ref H4.length), some (.ref H5.length), some (.ref ai), some (.ref H7.length)]) (ph0 := H8) (ph := H8) (chk := fun p => decide (p[H7.length]? = some (.lst (D.map JD.w))))
    (fL rfl g8) (fun p x => decide_eq_true (x.get g8)) (by exact Zq (show D.length <= 1000 by omega) (by decide))
    (fun d => some (.tup [.ref d.r, (d.e.mp (lf.idxOf ·)).w])) (fun σ => ∃ o, σ = [o, some (.ref ai)]) ⟨none, rfl⟩
    (fun d hd σ K zz hx => by
      obtain ⟨o, rfl⟩ := zz;obtain ⟨j, hj⟩ := ZP.mp hd;exact ⟨_, rfl, ⟨_, rfl⟩, true, K, rfl, Ex.refl _, .inr ⟨rfl, _, K, aw (aB rfl (aB (aw (aB rfl (aB rfl rfl)) (DL d.e (lf.idxOf ·) fun t ht => Ry ((x8.trans hx).get g7) zl (idx (qG hj t ht)))) rfl)) rfl, Ex.refl _, rfl⟩⟩)
  rw [m7] at x9;have g9 := x9.get (bz H8 _);have GA : Ex H8 H9 := (Ex.one _ _).trans x9;refine ⟨H8.length, H9, D.map fun d => ⟨rowsOf B d.l, d.e.mp (lf.idxOf ·)⟩, D.map JD.l, (lf.idxOf ·), ?_, ((((x1.trans x2).trans x3).trans uC).trans x8).trans GA, ?_, ?_, ?_⟩
  · unfold ve lb
    rw [ki];refine bq (asg e1) (bq (asg e2) (aw (P7 ?_) rfl));unfold uV;refine sq (asg (aw (aB rfl rfl) e3)) (sq (asg (ph1 := H5) (aw (aB (aw (aB (ph1 := H3 ++ [.lst [.int 0]]) rfl (aB rfl rfl)) e4) rfl) e5)) (sq (asg e6) (sq (asg e7) (sq (asg e8) (retS e9)))))
  · refine ⟨D.map JD.r, ?_, by rw [Zd, Zd], fun k r b hr hb => ?_⟩
    · rw [g9]
      congr 2
      unfold bw;rw [ads, ada, List.zipWith_self]
    · rw [Ze] at hr hb
      obtain ⟨d, hd, rfl⟩ := Zn.mp hr;rw [hd] at hb;cases hb;exact GA.get (oJ k d hd).1
  · have Yd : ∀ {t : Nat}, t ∈ lf -> ∃ l2, (D.map JD.l)[lf.idxOf t]? = some (t :: l2) := fun {t} h => by
      obtain ⟨d, hd⟩ : ∃ d, D[lf.idxOf t]? = some d := bR (by rw [uD]; exact abm h);obtain ⟨_, k, z, q1, q2, _⟩ := oJ _ d hd;rw [idx h] at q1;cases q1;rw [Ze, hd];have := q2.hd;cases hl : d.l with
      | nil => rw [hl] at this; cases this
      | cons a l2 => rw [hl] at this; cases this; exact ⟨l2, by rw [ZN, hl]⟩
    refine ⟨by rw [Zd, Zd], fun j l hl => ?_, ?_⟩
    · rw [Ze] at hl
      obtain ⟨d, hd, rfl⟩ := Zn.mp hl;obtain ⟨_, k, z, q1, q2, q3, q4, q5⟩ := oJ j d hd;have hh := q2.hd;cases hl : d.l with
      | nil => rw [hl] at hh; cases hh
      | cons a l2 =>
        refine ⟨a, l2, z, d.e, rfl, ?_, fun x hx => ?_, ?_, ?_, ?_, fun t ht => Yd (qG hd t ht)⟩
        · rw [<- hE, <- hl]; exact q2.way
        · rw [<- hl] at hx; have := w.lt x (q2.mw x hx); omega
        · rw [<- hl]; exact q3
        · rw [<- hE]; exact q4
        · rw [Ze, hd, <- hl]; rfl
    · have h0 : lf[0]? = some 0 := by
        rw [mB, hF];exact P8 (by omega) (by have := w.zero.1; rw [hF] at this; exact (nu.mp this).2) w.zero.2
      obtain ⟨d, hd⟩ : ∃ d, D[0]? = some d := bR (by have := (Zb.mp h0).1; omega);obtain ⟨_, k, z, q1, q2, _⟩ := oJ 0 d hd;rw [h0] at q1;cases q1;have := q2.hd;rw [Ze, hd];cases hl : d.l with
      | nil => rw [hl] at this; cases this
      | cons a l2 => rw [hl] at this; cases this; exact ⟨l2, by rw [ZN, hl]⟩
  · have V7 : 0 ∈ lf := by rw [mB]; exact sT.mpr w.zero
    have V8 : 0 < lf.length := List.length_pos_of_mem V7;refine ⟨by rw [Zd]; omega, by rw [Zd]; omega, fun k b hb j hj => ?_, fun b hb => ?_⟩
    · rw [Ze] at hb
      obtain ⟨d, hd, rfl⟩ := Zn.mp hb;rw [Zd, uD];have hj : j ∈ (d.e.mp (lf.idxOf ·)).to := hj;have key : ∀ t ∈ d.e.to, lf.idxOf t < lf.length := fun t ht => abm (qG hd t ht)
      cases he : d.e with
      | go t => rw [he] at hj key; have : j = lf.idxOf t := by simpa [En.mp, En.to] using hj
                rw [this]; exact key t (by simp [En.to])
      | iff v a c =>
        rw [he] at hj key;have : j = lf.idxOf a \/ j = lf.idxOf c := by simpa [En.mp, En.to] using hj
        rcases this with z | z
        · rw [z]; exact key a (by simp [En.to])
        · rw [z]; exact key c (by simp [En.to])
      | fin => rw [he] at hj; simp [En.mp, En.to] at hj
    · obtain ⟨d, hd, rfl⟩ := ZO.mp hb
      obtain ⟨j, hj⟩ := ZP.mp hd;obtain ⟨_, k, z, q1, q2, _⟩ := oJ j d hj;have h1 := vQ hB d.l;have h2 : d.l.length <= B.length := by
        have := jL q2.nd (n := E.length) fun x hx => w.lt x (q2.mw x hx)
        omega
      exact ⟨Zq h1 (Nat.mul_le_mul_left _ h2), Rt hB⟩
theorem op{f:W->W->Po W}{x y:W}{r:Out W}(ha:a σ ph=.ok x ph1)(hb:b σ ph1=.ok y ph2)(hf:lift (f x y) ph2=r):ab f a b σ ph=r:=aw ha (aw hb hf)
theorem md{i j:Int}(ha:a σ ph=.ok (.int i) ph1)(hb:b σ ph1=.ok (.int j) ph2)(h:j≠0):ab a9 a b σ ph=.ok (.int (i.fmod j)) ph2:=op ha hb (congrFun (U3 h) ph2)
theorem dv{i j:Int}(ha:a σ ph=.ok (.int i) ph1)(hb:b σ ph1=.ok (.int j) ph2)(h:j≠0)(h':j.natAbs<2 ^ 64):ab bU a b σ ph=.ok (.int (i.fdiv j)) ph2:=op ha hb (congrFun (xu h h') ph2)
theorem ad{i j:Int}(ha:a σ ph=.ok (.int i) ph1)(hb:b σ ph1=.ok (.int j) ph2):ab addW a b σ ph=.ok (.int (i+j)) ph2:=op ha hb rfl
theorem sb{i j:Int}(ha:a σ ph=.ok (.int i) ph1)(hb:b σ ph1=.ok (.int j) ph2):ab fS a b σ ph=.ok (.int (i-j)) ph2:=op ha hb rfl
theorem ml{i j:Int}(ha:a σ ph=.ok (.int i) ph1)(hb:b σ ph1=.ok (.int j) ph2)(h:mulC i j=true):ab bH a b σ ph=.ok (.int (i*j)) ph2:=op ha hb (by rw[wM];exact congrFun (xt h) ph2)
theorem ltI{i z:Int}{e:EM}(h:e σ ph=.ok (.int i) ph1)(hc:decide (i<z)=c):eT (ab iQ e (eC (.int z))) σ ph=.ok c ph1:=by
 rw[fv,c8,dG,aW h,<- hc];rfl
theorem w4{w:W}{m:AM}{e:EM}{i:Int}(hm:m σ ph=.ok ws ph1)(hz:ws.length<=1000000)(he:e σ (ph1++[.lst ws])=.ok (.int i) (ph1++[.lst ws]))(hi:b9 ws i=some w):ab ag (bJ m) e σ ph=.ok w (ph1++[.lst ws]):=by
 refine op (x:=.ref ph1.length) (ph1:=ph1++[.lst ws]) ?_ he (eU (bz _ _) hi);rw[pk];exact aw hm (wL ws ph1 (small hz))
theorem i7{a n:Int}(hn:0<n):∃m:Nat,(m:Int)<n/\a.fmod n=(m:Int):=by
 have q:=k9 a n hn;exact⟨(a.fmod n).toNat,by omega,by omega⟩
theorem sZ{v:Int}(h1: -4294967296<=v)(h2:v<=4294967296):dE v:=⟨by omega,by omega⟩
theorem EJ(c:Int)(ph:PH):∃v ph',mF [.int c] ph=.ok (.int v) ph'/\Ex ph ph'/\dE v:=by
 unfold mF jD;rw[ki];have m4:∀{σ:aK} {H:PH},aa 0 σ=au (.int c)->ab a9 (aa 0) (eC (.int (4))) σ H=.ok (.int (c.fmod 4)) H:=fun{σ H} h=>md (by rw[h];rfl) rfl (by decide)
 have d4:∀{σ:aK} {H:PH},aa 0 σ=au (.int c)->ab bU (aa 0) (eC (.int (4))) σ H=.ok (.int (c.fdiv 4)) H:=fun{σ H} h=>dv (by rw[h];rfl) rfl (by decide) (by decide)
 by_cases h3:c.fmod 4=3
 ·obtain⟨m,hm,em⟩:=i7 (a:=c.fdiv 4) (n:=8) (by decide);obtain⟨v,hv,sv⟩:∃v,[(2147483647:Int),-2147483648,65536,-1,46341,-65537,1,0][m]? =some v/\dE v:=by
   have:m=0\/m=1\/m=2\/m=3\/m=4\/m=5\/m=6\/m=7:=by omega
   rcases this with rfl | rfl | rfl | rfl | rfl | rfl | rfl | rfl <;> exact⟨_,rfl,sZ (by decide) (by decide)⟩
  refine⟨v,_,eP (cC (eI (m4 rfl) (decide_eq_true h3)) (retS (w4 (ws:=[(2147483647:Int),-2147483648,65536,-1,46341,-65537,1,0].map W.int) (i:=(m:Int)) (ph1:=ph) rfl (aaT rfl) ?_ ?_))),Ex.one _ _,sv⟩
  ·rw[<- em];exact md (d4 rfl) rfl (by decide)
  ·rw[eR _ _ (by simp;omega),Ze,hv];rfl
 ·by_cases h2:c.fmod 4=2
  ·refine⟨_,ph,bq (aS (eI (m4 rfl) (decide_eq_false h3)) rfl) (eP (cC (eI (m4 rfl) (decide_eq_true h2)) (retS (sb (md (ml (d4 rfl) rfl (nr (by decide) (by decide))) rfl (by decide)) rfl)))),Ex.refl _,?_⟩;have q:=k9 (c.fdiv 4*48271) 4294967296 (by decide);exact sZ (by omega) (by omega)
  ·by_cases h1:c.fmod 4=1
   ·refine⟨_,ph,bq (aS (eI (m4 rfl) (decide_eq_false h3)) rfl) (bq (aS (eI (m4 rfl) (decide_eq_false h2)) rfl) (eP (cC (eI (m4 rfl) (decide_eq_true h1)) (retS (sb (md (d4 rfl) rfl (by decide)) rfl))))),Ex.refl _,?_⟩;have q:=k9 (c.fdiv 4) 100003 (by decide);exact sZ (by omega) (by omega)
   ·refine⟨_,ph,bq (aS (eI (m4 rfl) (decide_eq_false h3)) rfl) (bq (aS (eI (m4 rfl) (decide_eq_false h2)) rfl) (bq (aS (eI (m4 rfl) (decide_eq_false h1)) rfl) (br (sb (md (d4 rfl) rfl (by decide)) rfl)))),Ex.refl _,?_⟩;have q:=k9 (c.fdiv 4) 19 (by decide);exact sZ (by omega) (by omega)
theorem T8(c:Int){bx sl:Int}(hb:0<bx/\bx<100)(hs:0<sl/\sl<100)(ph:PH):∃r ph',uR [.int c,.int bx,.int sl] ph=.ok (Row.w r) ph'/\Ex ph ph'/\gq r:=by
 have oF:bx≠0:=by omega
 have oE:sl≠0:=by omega
 obtain⟨kd,GB⟩:∃kd,kd=c.fmod 12:=⟨_,rfl⟩
 obtain⟨mo,Ye⟩:∃mo,mo=(c.fdiv 12*48271).fmod 2147483647:=⟨_,rfl⟩
 obtain⟨on,Yf⟩:∃on,on=mo.fmod bx:=⟨_,rfl⟩
 obtain⟨ot,oA⟩:∃ot,ot=(mo.fdiv 9).fmod bx:=⟨_,rfl⟩
 obtain⟨so,Yg⟩:∃so,so=(mo.fdiv 81).fmod sl:=⟨_,rfl⟩
 obtain⟨dP,e5⟩:∃dP:aK,dP=[some (.int c),some (.int bx),some (.int sl),some (.int kd),some (.int mo),some (.int on),some (.int ot),some (.int so),none,none]:=⟨_,rfl⟩
 have pre:∀{b:SM} {r:Out W},aq (b dP) dA ph=r->aq (aC (aI (ab a9 (aa 0) (eC (.int (12)))) (gN 3)) (aC (aI (ab a9 (ab bH (ab bU (aa 0) (eC (.int (12)))) (eC (.int (48271)))) (eC (.int (2147483647)))) (gN 4)) (aC (aI (ab a9 (aa 4) (aa 1)) (gN 5)) (aC (aI (ab a9 (ab bU (aa 4) (eC (.int (9)))) (aa 1)) (gN 6)) (aC (aI (ab a9 (ab bU (aa 4) (eC (.int (81)))) (aa 2)) (gN 7)) b)))) [some (.int c),some (.int bx),some (.int sl),none,none,none,none,none,none,none]) dA ph=r:=fun{b r} h=>by
  refine bq (σ1:=[some (.int c),some (.int bx),some (.int sl),some (.int kd),none,none,none,none,none,none]) (by rw[GB];exact asg (md rfl rfl (by decide))) (bq (σ1:=[some (.int c),some (.int bx),some (.int sl),some (.int kd),some (.int mo),none,none,none,none,none]) (by rw[Ye];exact asg (md (ml (dv rfl rfl (by decide) (by decide)) rfl (nr (by decide) (by decide))) rfl (by decide))) (bq (σ1:=[some (.int c),some (.int bx),some (.int sl),some (.int kd),some (.int mo),some (.int on),none,none,none,none]) (by rw[Yf];exact asg (md rfl rfl oF)) (bq (σ1:=[some (.int c),some (.int bx),some (.int sl),some (.int kd),some (.int mo),some (.int on),some (.int ot),none,none,none]) (by rw[oA];exact asg (md (dv rfl rfl (by decide) (by decide)) rfl oF)) (bq (σ1:=dP) (by rw[e5,Yg];exact asg (md (dv rfl rfl (by decide) (by decide)) rfl oE)) h))))
 have qk:=k9 c 12 (by decide);rw[<- GB] at qk;unfold uR kZ;rw[nY];by_cases h5:kd<5
 ·obtain⟨m,hm,em⟩:=i7 (a:=mo.fdiv 486) (n:=6) (by decide);obtain⟨wd,hw⟩:∃wd:Wd,[(.str "sum":W),.str "less",.str "times",.str "part",.str "below",.str "alike"][m]? =some (.str wd.s):=by
   have:m=0\/m=1\/m=2\/m=3\/m=4\/m=5:=by omega
   rcases this with rfl | rfl | rfl | rfl | rfl | rfl
   ·exact⟨.sum,rfl⟩
   ·exact⟨.less,rfl⟩
   ·exact⟨.times,rfl⟩
   ·exact⟨.part,rfl⟩
   ·exact⟨.below,rfl⟩
   ·exact⟨.alike,rfl⟩
  refine⟨.gy on wd ot ((mo.fdiv 2916).fmod bx),ph++[PO.lst [.str "sum",.str "less",.str "times",.str "part",.str "below",.str "alike"]],pre ?_,Ex.one _ _,trivial⟩;subst e5;refine eP (cC (ltI rfl (decide_eq_true h5)) (sq (asg (w4 (ws:=[.str "sum",.str "less",.str "times",.str "part",.str "below",.str "alike"]) (w:=.str wd.s) (i:=(m:Int)) (ph1:=ph) rfl (aaT rfl) ?_ ?_)) (retS (aw (aB rfl (aB rfl (aB rfl (aB rfl (aB (md (dv rfl rfl (by decide) (by decide)) rfl oF) rfl))))) rfl))))
  ·rw[<- em];exact md (dv rfl rfl (by decide) (by decide)) rfl (by decide)
  ·rw[eR _ _ (by simp;omega)];exact hw
 ·obtain⟨v,H1,e1,x1,sv⟩:=EJ (mo.fdiv 9) ph;obtain⟨m,em⟩:∃m:Nat,kd-5=(m:Int):=⟨(kd-5).toNat,by omega⟩
  obtain⟨r,hr,ok⟩:∃r:Row,[(Row.put on v).w,(Row.move on ot).w,(Row.pull on so).w,(Row.push so on).w,(Row.take on).w,(Row.tell on).w,Row.turn.w][m]? =some r.w/\gq r:=by
   have:m=0\/m=1\/m=2\/m=3\/m=4\/m=5\/m=6:=by omega
   rcases this with rfl | rfl | rfl | rfl | rfl | rfl | rfl
   ·exact⟨_,rfl,sv⟩
   all_goals exact⟨_,rfl,trivial⟩
  obtain⟨H2,e2⟩:∃H2,H2=H1++[PO.lst [(Row.put on v).w,(Row.move on ot).w,(Row.pull on so).w,(Row.push so on).w]]:=⟨_,rfl⟩
  obtain⟨H3,e3⟩:∃H3,H3=H2++[PO.lst [(Row.take on).w,(Row.tell on).w,Row.turn.w]]:=⟨_,rfl⟩
  obtain⟨H4,e4⟩:∃H4,H4=H3++[PO.lst [(Row.put on v).w,(Row.move on ot).w,(Row.pull on so).w,(Row.push so on).w,(Row.take on).w,(Row.tell on).w,Row.turn.w]]:=⟨_,rfl⟩
  have x2:Ex H1 H2:=e2▸Ex.one _ _;have x3:Ex H2 H3:=e3▸Ex.one _ _;have x4:Ex H3 H4:=e4▸Ex.one _ _;have g2:H2[H1.length]? =some (PO.lst [(Row.put on v).w,(Row.move on ot).w,(Row.pull on so).w,(Row.push so on).w]):=by rw[e2];exact bz _ _
  have g3:H3[H2.length]? =some (PO.lst [(Row.take on).w,(Row.tell on).w,Row.turn.w]):=by rw[e3];exact bz _ _
  have g4:H4[H3.length]? =some (PO.lst [(Row.put on v).w,(Row.move on ot).w,(Row.pull on so).w,(Row.push so on).w,(Row.take on).w,(Row.tell on).w,Row.turn.w]):=by rw[e4];exact bz _ _
  refine⟨r,H4,pre ?_,((x1.trans x2).trans x3).trans x4,ok⟩;subst e5;refine bq (aS (ltI rfl (decide_eq_false h5)) rfl) (bq (ph1:=H2) (σ1:=[some (.int c),some (.int bx),some (.int sl),some (.int kd),some (.int mo),some (.int on),some (.int ot),some (.int so),none,some (.ref H1.length)]) ?_ (bq (ph1:=H4) (σ1:=[some (.int c),some (.int bx),some (.int sl),some (.int kd),some (.int mo),some (.int on),some (.int ot),some (.int so),none,some (.ref H3.length)]) ?_ (br ?_)))
  ·refine(asg (w:=.ref H1.length) (ph1:=H2) ?_).trans rfl;rw[pk];refine aw (aB (w:=(Row.put on v).w) (ph1:=H1) (aw (aB rfl (aB rfl (aB (aw (aB (dv rfl rfl (by decide) (by decide)) rfl) e1) rfl))) rfl) (aB (w:=(Row.move on ot).w) (ph1:=H1) rfl (aB (w:=(Row.pull on so).w) (ph1:=H1) rfl (aB (w:=(Row.push so on).w) (ph1:=H1) rfl rfl)))) ?_;rw[e2];exact wL _ H1 (small (by simp))
  ·refine(asg (w:=.ref H3.length) (ph1:=H4) (op (x:=.ref H1.length) (ph1:=H2) (y:=.ref H2.length) (ph2:=H3) rfl ?_ ?_)).trans rfl
   ·rw[e3];rfl
   ·rw[Cz (x3.get g2) g3 (small (by simp)),e4];rfl
  ·refine op (x:=.ref H3.length) (ph1:=H4) (y:=.int m) (ph2:=H4) rfl (by rw[<- em];exact sb rfl rfl) (eU g4 ?_);have:=(Zb.mp hr).1;rw[eR _ _ this];exact hr
theorem zo(h:H[i]? =some (.lst (iw l)))(ha:a σ H=.ok (.int k) H)(hb:b σ H=.ok (.ref i) H):ab c6 a b σ H=.ok (.bl (decide (k∈l))) H:=by
 refine op ha hb ?_;rw[Q5 h (jP (dat H 40) (fun x:Nat=>W.int x) (fun x:Nat=>adX (x:Int)) (fun x=>pL H 40 x) l) (pL H 40 k),adZ]
 congr 2
 rw[adp,aca,decide_eq_true_eq];constructor
 ·rintro⟨x,hx,e⟩;simp only[abM,Eo,decide_eq_true_eq] at e;have:x=k:=by omega
  exact this▸hx
 ·intro hk;exact⟨k,hk,by simp only[abM,Eo,decide_true]⟩
theorem tB{e:EM}(h:e σ ph=.ok (.bl c) ph1):eT e σ ph=.ok c ph1:=aw h rfl
theorem og{a b:TM}{x y:Bool}(ha:a σ ph=.ok x ph)(hb:b σ ph=.ok y ph):d0 a b σ ph=.ok (x||y) ph:=by
 rw[lx];refine aw ha ?_;cases x
 ·exact hb
 ·rfl
theorem tE{a b:TM}{x y:Bool}(ha:a σ ph=.ok x ph)(hb:b σ ph=.ok y ph):dJ a b σ ph=.ok (x&&y) ph:=by
 rw[vH];refine aw ha ?_;cases x
 ·rfl
 ·exact hb
theorem qa(b:SM)(n:Nat)(x y z u v:W):fM b n 5 [x,y,z,u,v]=aq (b (some x::some y::some z::some u::some v::Zi (n-5) none)) dA:=(rfl)
def Gl(n blk:Nat)(TL:List Nat)(g:Nat):Prop:=g<n/\(blk<g\/g∈TL\/blk∈TL)
variable{TL:List Nat}
theorem DO{blk:Nat}(mo:Int)(ht:ph[ti]? =some (.lst (iw TL)))(hn:n<=60) :
  ∃o ph',mJ [.int mo,.int blk,.int n,.ref ti] ph=.ok (pw o) ph'/\Ex ph ph'/\(∀g,o=some g->Gl n blk TL g)/\(o=none↔∀g,g<n->¬(blk<g\/g∈TL\/(g=0/\blk∈TL))):=by
 obtain⟨p,hp⟩:∃p:Nat->Bool,p=fun g=>decide (blk<g)||(decide (g∈TL)||(decide (g=0)&&decide (blk∈TL))):=⟨_,rfl⟩
 have pt:∀g,p g=true↔(blk<g\/g∈TL\/(g=0/\blk∈TL)):=fun g=>by rw[hp];simp
 obtain⟨H1,e1,x1⟩:=jO (ZS n) (fun i:Nat=>W.int i) (im:=cV (ae (aa 2) ak)) (cap:=[none,some 1,some 3]) (g:=gN 0) (c:=d0 (eT (ab f6 (aa 0) (aa 1))) (d0 (eT (ab c6 (aa 0) (aa 2))) (dJ (eT (ab aQ (aa 0) (eC (.int (0))))) (eT (ab c6 (aa 1) (aa 2)))))) (e:=aa 0) (σ:=[some (.int mo),some (.int blk),some (.int n),some (.ref ti),none]) (ph0:=ph) (ph:=ph) (chk:=fun _=>true)
  (by rw[<- pA];exact i6 (j:=n) rfl (by omega) (by omega)) (fun _ _=>rfl) (by rw[ZI];exact Zq hn (by decide))
  (fun g=>if p g=true then some (.int g) else none) (fun σ=>∃o,σ=[o,some (.int blk),some (.ref ti)]) ⟨none,rfl⟩
  (fun g hg σ K zz hx=>by
   obtain⟨o,rfl⟩:=zz;have hT:=hx.get ht;have i1:eT (ab f6 (aa 0) (aa 1)) [some (.int g),some (.int blk),some (.ref ti)] K=.ok (decide (blk<g)) K:=by
    refine tB (op rfl rfl ?_);show Out.ok (W.bl (decide ((blk:Int)<(g:Int)))) K=_
    congr 2
    exact decide_eq_decide.mpr (by omega)
   have i2:eT (ab c6 (aa 0) (aa 2)) [some (.int g),some (.int blk),some (.ref ti)] K=.ok (decide (g∈TL)) K:=tB (zo hT rfl rfl);have i3:eT (ab aQ (aa 0) (eC (.int (0)))) [some (.int g),some (.int blk),some (.ref ti)] K=.ok (decide (g=0)) K:=eI (z:=0) rfl (decide_eq_decide.mpr (by omega));have i4:eT (ab c6 (aa 1) (aa 2)) [some (.int g),some (.int blk),some (.ref ti)] K=.ok (decide (blk∈TL)) K:=tB (zo hT rfl rfl);have tt:(d0 (eT (ab f6 (aa 0) (aa 1))) (d0 (eT (ab c6 (aa 0) (aa 2))) (dJ (eT (ab aQ (aa 0) (eC (.int (0))))) (eT (ab c6 (aa 1) (aa 2)))))) [some (.int g),some (.int blk),some (.ref ti)] K=.ok (p g) K:=by
    have e:p g=(decide (blk<g)||(decide (g∈TL)||(decide (g=0)&&decide (blk∈TL)))):=by rw[hp]
    rw[e];exact og i1 (og i2 (tE i3 i4))
   refine⟨_,rfl,⟨_,rfl⟩,_,K,tt,Ex.refl _,?_⟩;cases Y7:p g
   ·exact .inl ⟨rfl,if_neg ZG⟩
   ·exact .inr ⟨rfl,_,K,rfl,Ex.refl _,if_pos rfl⟩)
 obtain⟨l,hl⟩:∃l,l=(ZS n).filter p:=⟨_,rfl⟩
 have zp:(ZS n).filterMap (fun g=>if p g=true then some (W.int g) else none)=iw l:=by
  rw[hl];unfold iw;rw[<- adt,adu];rfl
 rw[zp] at x1;have g1:H1[ph.length]? =some (.lst (iw l)):=x1.get (bz ph _);have GC:Ex ph H1:=(Ex.one _ _).trans x1;have Y8:l.length<=60:=by rw[hl];have:=abY p (ZS n);rw[ZI] at this;omega
 have g2:(H1++[PO.lst []])[ph.length]? =some (.lst (iw l)):=(Ex.one _ _).get g1;have et:eT (ab aQ (aa 4) (bJ ak)) [some (.int mo),some (.int blk),some (.int n),some (.ref ti),some (.ref ph.length)] H1=.ok (iw l).isEmpty (H1++[.lst []]):=tB (op (x:=.ref ph.length) (y:=.ref H1.length) (ph2:=H1++[.lst []]) rfl rfl (Ez (eq_nil g2 (bz _ _) (jP (dat _ 39) (fun x:Nat=>W.int x) (fun x:Nat=>adX (x:Int)) (fun x=>pL _ 39 x) l))));unfold mJ jF;rw[tY];cases hc:l with
 | nil=>
  rw[hc] at et;refine⟨none,H1++[.lst []],bq (asg e1) (eP (cC et (retS rfl))),GC.trans (Ex.one _ _),fun g hg=>(nomatch hg),⟨fun _ g hg q=>?_,fun _=>rfl⟩⟩;have:g∈l:=by rw[hl];exact aar.mpr ⟨aaq.mpr hg,(pt g).mpr q⟩
  rw[hc] at this;cases this
 | cons a l2=>
  have V8:0<l.length:=by rw[hc];simp
  obtain⟨m,hm,em⟩:=i7 (a:=mo) (n:=(l.length:Int)) (by omega);obtain⟨g,hg⟩:∃g,l[m]? =some g:=bR (by omega);have mm:=Zj hg;rw[hl] at mm;obtain⟨q1,q2⟩:=aar.mp mm;have q1:=aaq.mp q1;have q2:=(pt g).mp q2;have et:eT (ab aQ (aa 4) (bJ ak)) [some (.int mo),some (.int blk),some (.int n),some (.ref ti),some (.ref ph.length)] H1=.ok false (H1++[.lst []]):=by rw[et,hc];rfl
  refine⟨some g,H1++[.lst []],bq (asg e1) (bq (aS et rfl) (br (op (x:=.ref ph.length) (y:=.int m) (ph2:=H1++[.lst []]) rfl ?_ (EH g2 hg)))),GC.trans (Ex.one _ _),fun g' oI=>?_,⟨fun z=>(nomatch z),fun z=>absurd q2 (z g q1)⟩⟩
  ·rw[<- em];refine md rfl (aw (aB rfl rfl) ((pq g2).trans (by rw[gP]))) (by omega)
  ·cases oI;exact⟨q1,q2.imp id fun z=>z.imp id fun z=>z.2⟩
theorem kf{o:Option Nat}(h:aa i σ=au (pw o)):eT (ab jf (aa i) (eC .aG)) σ ph=.ok o.isNone ph:=by
 rw[fv,c8,h];cases o <;> rfl
theorem Vg{blk:Nat}(c:Int){bx:Int}(hb:0<bx/\bx<100)(ht:ph[ti]? =some (.lst (iw TL)))(hn:n<=60) :
  ∃e ph',uS [.int c,.int blk,.int n,.ref ti,.int bx] ph=.ok (En.w e) ph'/\Ex ph ph'/\∀g∈e.to,Gl n blk TL g:=by
 obtain⟨d,hd⟩:∃d,d=(c*48271).fmod 2147483647:=⟨_,rfl⟩
 obtain⟨o1,H1,e1,x1,q1,z1⟩:=DO (blk:=blk) (n:=n) (d.fdiv 8) ht hn;obtain⟨o2,H2,e2,x2,q2,z2⟩:=DO (blk:=blk) (n:=n) (d.fdiv 800) (x1.get ht) hn;have hz:o1=none↔o2=none:=z1.trans z2.symm;have zq:=x1.trans x2;have t1:eT (ab aQ (ab a9 (aa 0) (eC (.int (8)))) (eC (.int (0)))) [some (.int d),some (.int blk),some (.int n),some (.ref ti),some (.int bx),some (pw o1),some (pw o2)] H2=.ok (decide (d.fmod 8=0)) H2:=eI (md rfl rfl (by decide)) rfl;have tt:d0 (eT (ab jf (aa 5) (eC .aG))) (eT (ab aQ (ab a9 (aa 0) (eC (.int (8)))) (eC (.int (0))))) [some (.int d),some (.int blk),some (.int n),some (.ref ti),some (.int bx),some (pw o1),some (pw o2)] H2=.ok (o1.isNone||decide (d.fmod 8=0)) H2:=by
  exact og (kf rfl) t1
 have pre:∀{b:SM} {r:Out W},aq (b [some (.int d),some (.int blk),some (.int n),some (.ref ti),some (.int bx),some (pw o1),some (pw o2)]) dA H2=r->aq (aC (aI (ab a9 (ab bH (aa 0) (eC (.int (48271)))) (eC (.int (2147483647)))) (gN 0)) (aC (aI (a7 mJ (ae (ab bU (aa 0) (eC (.int (8)))) (ae (aa 1) (ae (aa 2) (ae (aa 3) ak))))) (gN 5)) (aC (aI (a7 mJ (ae (ab bU (aa 0) (eC (.int (800)))) (ae (aa 1) (ae (aa 2) (ae (aa 3) ak))))) (gN 6)) b)) [some (.int c),some (.int blk),some (.int n),some (.ref ti),some (.int bx),none,none]) dA ph=r:=fun{b r} h=>
  bq (σ1:=[some (.int d),some (.int blk),some (.int n),some (.ref ti),some (.int bx),none,none]) (by rw[hd];exact asg (md (ml rfl rfl (nr (by decide) (by decide))) rfl (by decide))) (bq (asg (aw (aB (dv rfl rfl (by decide) (by decide)) (aB rfl (aB rfl (aB rfl rfl)))) e1)) (bq (asg (aw (aB (dv rfl rfl (by decide) (by decide)) (aB rfl (aB rfl (aB rfl rfl)))) e2)) h))
 unfold uS k4;rw[qa];by_cases h0:o1.isNone=true\/d.fmod 8=0
 ·refine⟨.fin,H2,pre (eP (cC (tt.trans ?_) (retS rfl))),zq,fun g hg=>by cases hg⟩
  rcases h0 with h | h
  ·rw[h];rfl
  ·rw[decide_eq_true h,Bool.or_true]
 ·obtain⟨g1,GD⟩:∃g1,o1=some g1:=by
   cases o1 with
   | none=>exact absurd (.inl rfl) h0
   | some g=>exact⟨g,rfl⟩
  obtain⟨g2,Yh⟩:∃g2,o2=some g2:=by
   cases o2 with
   | none=>rw[GD] at hz;exact absurd (hz.mpr rfl) (fun z=>nomatch z)
   | some g=>exact⟨g,rfl⟩
  have Yi:¬d.fmod 8=0:=fun z=>h0 (.inr z)
  subst GD Yh;have tt:d0 (eT (ab jf (aa 5) (eC .aG))) (eT (ab aQ (ab a9 (aa 0) (eC (.int (8)))) (eC (.int (0))))) [some (.int d),some (.int blk),some (.int n),some (.ref ti),some (.int bx),some (pw (some g1)),some (pw (some g2))] H2=.ok false H2:=tt.trans (by rw[decide_eq_false Yi];rfl);by_cases h4:d.fmod 8<4
  ·refine⟨.iff ((d.fdiv 80000).fmod bx) g1 g2,H2,pre (bq (aS tt rfl) (eP (cC (ltI (md rfl rfl (by decide)) (decide_eq_true h4)) (retS (aw (aB rfl (aB (md (dv rfl rfl (by decide) (by decide)) rfl (by omega)) (aB rfl (aB rfl rfl)))) rfl))))),zq,fun g hg=>?_⟩;have:g=g1\/g=g2:=by simpa[En.to] using hg
   rcases this with rfl | rfl
   ·exact q1 _ rfl
   ·exact q2 _ rfl
  ·refine⟨.go g1,H2,pre (bq (aS tt rfl) (bq (aS (ltI (md rfl rfl (by decide)) (decide_eq_false h4)) rfl) (br rfl))),zq,fun g hg=>?_⟩;have:g=g1:=by simpa[En.to] using hg
   rw[this];exact q1 _ rfl
theorem Vh(ns:List Int)(i:Int)(h:0<=i):eQ [.fl (ns.map W.int),.int i]=au (.int (ns.getD i.toNat 0)):=by
 have:=U7 ns i.toNat;rw[Int.toNat_of_nonneg h] at this;exact this
variable{ns:List Int}
theorem cl{i:Int}(ha:a σ ph=.ok (.fl (ns.map W.int)) ph1)(hb:b σ ph1=.ok (.int i) ph2)(h:0<=i):a7 eQ (ae a (ae b ak)) σ ph=.ok (.int (ns.getD i.toNat 0)) ph2:=aw (aB ha (aB hb rfl)) (congrFun (Vh ns i h) ph2)
def cv(ns:List Int)(k:Nat):Int:=ns.getD (2+(k:Int).fmod 40).toNat 0+91*(k:Int).fdiv 40
def Cs(ns:List Int)(n:Nat):List Int:=(ZS (4*n)).map (cv ns)
theorem T9(ns:List Int)(n:Nat):(Cs ns n).length=4*n:=by unfold Cs;rw[Zd,ZI]
theorem tD{l:List Int}{x:Int}(h:H[i]? =some (.lst (l.map W.int)))(hk:l[k]? =some x)(ha:a σ ph=.ok (.ref i) H)(hb:b σ H=.ok (.int k) H):ab ag a b σ ph=.ok (.int x) H:=by
 refine op ha hb (eU h ?_);have:=(Zb.mp hk).1;rw[eR _ _ (by rw[Zd];exact this),Ze,hk];rfl
theorem RA{bx sl:Int}(hn:n<=60) :
  ∃ph',bX (cV (ae (ab bH (eC (.int (4))) (aa 2)) ak)) [none,some 0,some 1] (gN 0) cm (ab addW (a7 eQ (ae (aa 1) (ae (ab addW (aa 2) (ab a9 (aa 0) (eC (.int (40))))) ak))) (ab bH (eC (.int (91))) (ab bU (aa 0) (eC (.int (40)))))) [some (.fl (ns.map W.int)),some (.int 2),some (.int n),some (.int bx),some (.int sl),none,none,none,none,none,none] ph=.ok (.ref ph.length) ph'/\Ex ph ph'/\ph'[ph.length]? =some (.lst ((Cs ns n).map W.int)):=by
 obtain⟨ph',e,x⟩:=jO (ZS (4*n)) (fun i:Nat=>W.int i) (im:=cV (ae (ab bH (eC (.int (4))) (aa 2)) ak)) (cap:=[none,some 0,some 1]) (g:=gN 0) (c:=cm) (e:=ab addW (a7 eQ (ae (aa 1) (ae (ab addW (aa 2) (ab a9 (aa 0) (eC (.int (40))))) ak))) (ab bH (eC (.int (91))) (ab bU (aa 0) (eC (.int (40)))))) (σ:=[some (.fl (ns.map W.int)),some (.int 2),some (.int n),some (.int bx),some (.int sl),none,none,none,none,none,none]) (ph0:=ph) (ph:=ph) (chk:=fun _=>true)
  (by
   rw[<- pA];have:=i6 (m:=ae (ab bH (eC (.int (4))) (aa 2)) ak) (σ:=[some (.fl (ns.map W.int)),some (.int 2),some (.int n),some (.int bx),some (.int sl),none,none,none,none,none,none]) (ph:=ph) (ph':=ph) (j:=4*(n:Int)) (aB (ml rfl rfl (wR (by decide) (by decide))) rfl) (by omega) (by omega);rw[show(4*(n:Int)).toNat=4*n by omega] at this;exact this) (fun _ _=>rfl) (by rw[ZI];exact Zq (show 4*n<=240 by omega) (by decide))
  (fun k=>some (.int (cv ns k))) (fun σ=>∃o,σ=[o,some (.fl (ns.map W.int)),some (.int 2)]) ⟨none,rfl⟩
  (fun k hk σ K zz hx=>by
   obtain⟨o,rfl⟩:=zz;have q:=k9 (k:Int) 40 (by decide);refine⟨_,rfl,⟨_,rfl⟩,true,K,rfl,Ex.refl _,.inr ⟨rfl,_,K,ad (cl rfl (ad rfl (md rfl rfl (by decide))) (by omega)) (ml rfl (dv rfl rfl (by decide) (by decide)) (wR (by decide) (by decide))),Ex.refl _,rfl⟩⟩)
 rw[m7] at x;refine⟨ph',e,(Ex.one _ _).trans x,?_⟩;rw[x.get (bz ph _)];unfold Cs;rw[aaC];rfl
def qH(C:List Int)(n:Nat):List Nat:=(ZS n).filter fun k=>decide ((C.getD (4*k) 0).fmod 4=1)
theorem four(hb:b σ ph=.ok (.int k) ph):ab bH (eC (.int (4))) b σ ph=.ok (.int ((4*k:Nat):Int)) ph:=by
 rw[ml rfl hb (wR (by decide) (by decide)),Int.natCast_mul];rfl
variable{ci:Nat}
theorem O0{C:List Int}(hn:n<=60)(hc:ph[ci]? =some (.lst (C.map W.int)))(hl:C.length=4*n) :
  ∃ph',bX (cV (ae (aa 2) ak)) [none,some 5] (gN 0) (eT (ab aQ (ab a9 (ab ag (aa 1) (ab bH (eC (.int (4))) (aa 0))) (eC (.int (4)))) (eC (.int (1))))) (aa 0) [s0,s1,some (.int n),s3,s4,some (.ref ci),none,none,none,none,none] ph=.ok (.ref ph.length) ph'/\Ex ph ph'/\ph'[ph.length]? =some (.lst (iw (qH C n))):=by
 obtain⟨ph',e,x⟩:=jO (ZS n) (fun i:Nat=>W.int i) (im:=cV (ae (aa 2) ak)) (cap:=[none,some 5]) (g:=gN 0) (c:=eT (ab aQ (ab a9 (ab ag (aa 1) (ab bH (eC (.int (4))) (aa 0))) (eC (.int (4)))) (eC (.int (1))))) (e:=aa 0) (σ:=[s0,s1,some (.int n),s3,s4,some (.ref ci),none,none,none,none,none]) (ph0:=ph) (ph:=ph) (chk:=fun _=>true)
  (by rw[<- pA];exact i6 (j:=n) rfl (by omega) (by omega)) (fun _ _=>rfl) (by rw[ZI];exact Zq hn (by decide))
  (fun k=>if(C.getD (4*k) 0).fmod 4=1 then some (.int k) else none) (fun σ=>∃o,σ=[o,some (.ref ci)]) ⟨none,rfl⟩
  (fun k hk σ K zz hx=>by
   obtain⟨o,rfl⟩:=zz;have hk:=aaq.mp hk;have hC:C[4*k]? =some (C.getD (4*k) 0):=by rw[aav,aaE (by omega)];rfl
   refine⟨_,rfl,⟨_,rfl⟩,_,K,eI (md (tD (hx.get hc) hC rfl (four rfl)) rfl (by decide)) rfl,Ex.refl _,?_⟩;by_cases h:(C.getD (4*k) 0).fmod 4=1
   ·exact .inr ⟨decide_eq_true h,_,K,rfl,Ex.refl _,if_pos h⟩
   ·exact .inl ⟨decide_eq_false h,if_neg h⟩)
 have zp:(ZS n).filterMap (fun k=>if(C.getD (4*k) 0).fmod 4=1 then some (W.int k) else none)=iw (qH C n):=by
  unfold iw qH;rw[<- adt,adu];refine congrArg (fun F=>List.filterMap F (ZS n)) (funext fun k=>?_);by_cases h:(C.getD (4*k) 0).fmod 4=1
  ·rw[if_pos h,if_pos (decide_eq_true h)];rfl
  ·rw[if_neg h,if_neg (by rw[decide_eq_false h];exact ZG)]
 rw[zp] at x;exact⟨ph',e,(Ex.one _ _).trans x,x.get (bz ph _)⟩
structure DB(n:Nat)(TL:List Nat)(k:Nat)(b:bM):Prop where
 rl:b.rs.length<=4
 ro:∀r∈b.rs,gq r
 tr:k∈TL->mn b
 gl:∀j∈b.en.to,Gl n k TL j
abbrev fI(ns:List Int)(n:Nat)(bx sl:Int)(ci ti bi:Nat)(o8 o9 o10:Option W):aK:=[some (.fl (ns.map W.int)),some (.int 2),some (.int n),some (.int bx),some (.int sl),some (.ref ci),some (.ref ti),some (.ref bi),o8,o9,o10]
theorem RB{K1 K:PH}{ri:Nat}{bx sl:Int}{C:List Int}{pre:List Row}(hb:0<bx/\bx<100)(hs:0<sl/\sl<100)(hC:K1[ci]? =some (.lst (C.map W.int)))(hl:C.length=4*n)(hk:k<n)(hX:K1.length<=ri)(x:Ex K1 K)(hr:K[ri]? =some (.lst (pre.map Row.w)))(hm:m<=3)(hp:pre.length<=1)(Yj:∀r∈pre,gq r) :
  ∃K' rs gz,cS (fun _=>true) (gN 10) uI (d5 0 m) (fI ns n bx sl ci ti bi (some (.int k)) (some (.ref ri)) o10) K=.ok (.nx (fI ns n bx sl ci ti bi (some (.int k)) (some (.ref ri)) gz)) K'/\Ex K1 K'/\K'[ri]? =some (.lst ((pre++rs).map Row.w))/\rs.length=m/\∀r∈pre++rs,gq r:=by
 obtain⟨aj,K',e,rs,gz,rfl,q1,q2,q3,q4⟩:=mV (chk:=fun _=>true) (g:=gN 10) (b:=uI)
  (fun j σ K=>∃rs gz,σ=fI ns n bx sl ci ti bi (some (.int k)) (some (.ref ri)) gz/\Ex K1 K/\K[ri]? =some (.lst ((pre++rs).map Row.w))/\rs.length=j/\∀r∈pre++rs,gq r)
  (d5 0 m) (fI ns n bx sl ci ti bi (some (.int k)) (some (.ref ri)) o10) K (fun _ _ _ _=>rfl)
  (fun j y σ K hj zz=>by
   obtain⟨rs,gz,rfl,q1,q2,q3,q4⟩:=zz;obtain⟨Gs,rfl⟩:=BI hj;rw[Int.zero_add];have ze:j % 2<2:=Nat.mod_lt _ (by decide);obtain⟨v,hv⟩:∃v,C[4*k+1+j % 2]? =some v:=bR (by omega);have fm:((j:Int)).fmod 2=((j % 2:Nat):Int):=by
    rw[acp _ (by decide)];rfl
   obtain⟨r,K2,e1,x1,ok⟩:=T8 (v*(1+(j:Int))+(k:Int)) hb hs K;refine⟨_,_,rfl,_,_,y4 rfl ⟨_,q2⟩ (aw (aB (ad (ml (tD (k:=4*k+1+j % 2) (q1.get hC) hv rfl ?_) (ad rfl rfl) (nr (by omega) (by omega))) rfl) (aB rfl (aB rfl rfl))) e1) (x1.get q2) (by rw[Zd,Zz];omega),_,.inl rfl,rs++[r],_,rfl,Ex.set (q1.trans x1) hX _,?_,by simp[q3],fun r' kA=>?_⟩
   ·refine(ad (ad (four rfl) rfl) (md rfl rfl (by decide))).trans ?_;rw[fm];rfl
   ·rw[fO (x1.get q2)];simp
   ·rw[<- acD] at kA
    rcases aaA.mp kA with z | z
    ·exact q4 r' z
    ·rw[ZQ.mp z];exact ok)
  ⟨[],o10,rfl,x,by rw[aak];exact hr,rfl,by rw[aak];exact Yj⟩
 rw[mW] at q3;exact⟨K',rs,gz,e,q1,q2,q3,q4⟩
theorem RC(h:rs.length=B.length)(r:Nat)(b:bM):bw (rs++[r]) (B++[b])=bw rs B++[W.tup [.ref r,b.en.w]]:=by
 unfold bw;rw[List.zipWith_append h];rfl
theorem Vi{bx sl:Int}(ht:H[ti]? =some (.lst (iw TL))) :
  ∃pre H',ab bH (bJ (ae (bT (ae (eC (.str "turn")) ak)) ak)) (bG iC (ae (ab c6 (aa 8) (aa 6)) ak)) (fI ns n bx sl ci ti bi (some (.int k)) o9 o10) H=.ok (.ref (H.length+1)) H'/\Ex (H++[.lst [Row.turn.w]]) H'/\H'[H.length+1]? =some (.lst (List.map Row.w pre))/\pre.length<=1/\(∀r∈pre,gq r)/\(k∈TL->pre=[.turn]):=by
 obtain⟨H1,e1⟩:∃H1,H1=H++[PO.lst [Row.turn.w]]:=⟨_,rfl⟩
 have x1:Ex H H1:=e1▸Ex.one _ _;have g1:H1[H.length]? =some (PO.lst [Row.turn.w]):=by rw[e1];exact bz _ _
 have l1:H1.length=H.length+1:=by rw[e1];simp
 have i1:bG iC (ae (ab c6 (aa 8) (aa 6)) ak) (fI ns n bx sl ci ti bi (some (.int k)) o9 o10) H1=.ok (.int (if k∈TL then 1 else 0)) H1:=by
  refine aw (aB (zo (x1.get ht) rfl rfl) rfl) ?_;by_cases h:k∈TL
  ·rw[decide_eq_true h,if_pos h];rfl
  ·rw[decide_eq_false h,if_neg h];rfl
 have e2:bJ (ae (bT (ae (eC (.str "turn")) ak)) ak) (fI ns n bx sl ci ti bi (some (.int k)) o9 o10) H=.ok (.ref H.length) H1:=by rw[e1];rfl
 by_cases h:k∈TL
 ·rw[if_pos h] at i1;refine⟨[.turn],H1++[.lst [Row.turn.w]],op e2 i1 ?_,by rw[<- e1];exact Ex.one _ _,by rw[<- l1];exact bz _ _,Zf _,fun r hr=>by rw[ZQ.mp hr];trivial,fun _=>rfl⟩;rw[vL g1 (by decide) (by decide) (small (aaT rfl)),<- l1];rfl
 ·rw[if_neg h] at i1;refine⟨[],H1++[.lst []],op e2 i1 ?_,by rw[<- e1];exact Ex.one _ _,by rw[<- l1];exact bz _ _,aaF _,fun r hr=>(nomatch hr),fun z=>absurd z h⟩;rw[vL g1 (by decide) (by decide) (small (aaT rfl)),<- l1];rfl
theorem P9(ns:List Int){bx sl:Int}(hn:n<=60)(Y9:0<n)(hb:0<bx/\bx<100)(hs:0<sl/\sl<100) :
  ∃bi ph' B,uL [.fl (ns.map W.int),.int 2,.int n,.int bx,.int sl] ph=.ok (.ref bi) ph'/\Ex ph ph'/\d8 ph' bi B/\B.length=n/\gG 4 B/\Gp B:=by
 obtain⟨H1,e1,x1,g1⟩:=RA (ph:=ph) (ns:=ns) (bx:=bx) (sl:=sl) hn;have zr:=T9 ns n;obtain⟨C,hC⟩:∃C,C=Cs ns n:=⟨_,rfl⟩
 rw[<- hC] at g1 zr;obtain⟨H2,e2,x2,g2⟩:=O0 (s0:=some (.fl (ns.map W.int))) (s1:=some (.int 2)) (s3:=some (.int bx)) (s4:=some (.int sl)) hn g1 zr;obtain⟨TL,hT⟩:∃TL,TL=qH C n:=⟨_,rfl⟩
 rw[<- hT] at g2;have zt:=x2.get g1;obtain⟨H3,e3⟩:∃H3,H3=H2++[PO.lst []]:=⟨_,rfl⟩
 have x3:Ex H2 H3:=e3▸Ex.one _ _;have g3:H3[H2.length]? =some (PO.lst []):=by rw[e3];exact bz _ _
 obtain⟨aj,H',e4,B,rs,o8,o9,o10,rfl,xh,hZ,qI,mq,kN⟩:=mV (chk:=fun _=>true) (g:=gN 8) (b:=qN)
  (fun k σ H=>∃B rs o8 o9 o10,σ=fI ns n bx sl ph.length H1.length H2.length o8 o9 o10/\Ex H2 H/\Fy H H2.length rs B/\B.length=k/\(∀r∈rs,H2.length<r)/\∀(j:Nat) b,B[j]? =some b->DB n TL j b)
  (d5 0 n) (fI ns n bx sl ph.length H1.length H2.length none none none) H3 (fun _ _ _ _=>rfl)
  (fun k y σ H hk zz=>by
   obtain⟨B,rs,o8,o9,o10,rfl,xh,hZ,qI,mq,kN⟩:=zz;obtain⟨zm,rfl⟩:=BI hk;rw[Int.zero_add];have Gn:=j8 hZ.at_;obtain⟨pre,K2,p1,p2,p3,p4,p5,p6⟩:=Vi (ns:=ns) (n:=n) (bx:=bx) (sl:=sl) (ci:=ph.length) (bi:=H2.length) (o9:=o9) (o10:=o10) (k:=k) (xh.get g2);obtain⟨K1,zu⟩:∃K1,K1=H++[PO.lst [Row.turn.w]]:=⟨_,rfl⟩
   rw[<- zu] at p2;have l1:K1.length=H.length+1:=by rw[zu];simp
   have qJ:Ex H K1:=zu▸Ex.one _ _;obtain⟨v,hv⟩:∃v,C[4*k]? =some v:=bR (by omega);obtain⟨K3,zw⟩:∃K3,K3=K2++[PO.lst ([(0:Int),0,1,2,3].map W.int)]:=⟨_,rfl⟩
   have zx:Ex K2 K3:=zw▸Ex.one _ _;obtain⟨q,hq,eq⟩:=i7 (a:=v.fdiv 4) (n:=5) (by decide);obtain⟨m,hm,Yk⟩:∃m:Nat,[(0:Int),0,1,2,3][q]? =some (m:Int)/\m<=3:=by
    have:q=0\/q=1\/q=2\/q=3\/q=4:=by omega
    rcases this with rfl | rfl | rfl | rfl | rfl
    ·exact⟨0,rfl,by omega⟩
    ·exact⟨0,rfl,by omega⟩
    ·exact⟨1,rfl,by omega⟩
    ·exact⟨2,rfl,by omega⟩
    ·exact⟨3,rfl,by omega⟩
   have xx:Ex H2 K3:=((xh.trans qJ).trans p2).trans zx;have im:cV (ae (ab ag (bJ (ae (eC (.int (0))) (ae (eC (.int (0))) (ae (eC (.int (1))) (ae (eC (.int (2))) (ae (eC (.int (3))) ak)))))) (ab a9 (ab bU (ab ag (aa 5) (ab bH (eC (.int (4))) (aa 8))) (eC (.int (4)))) (eC (.int (5))))) ak) (fI ns n bx sl ph.length H1.length H2.length (some (.int k)) (some (.ref (H.length+1))) o10) K2=.ok (d5 0 m,fun _=>true) K3:=by
    refine i6 (j:=(m:Int)) (aB ?_ rfl) (by omega) (by omega);rw[zw];refine w4 (ws:=[(0:Int),0,1,2,3].map W.int) (i:=(q:Int)) (ph1:=K2) rfl (aaT rfl) ?_ ?_
    ·rw[<- zw,<- eq];exact md (dv (tD (k:=4*k) (xx.get zt) hv rfl (four rfl)) rfl (by decide) (by decide)) rfl (by decide)
    ·rw[eR _ _ (by simp;omega),Ze,hm];rfl
   obtain⟨K4,GF,gz,i1,i2,i3,i4,i5⟩:=RB (ns:=ns) (n:=n) (k:=k) (ti:=H1.length) (bi:=H2.length) (o10:=o10) hb hs ((xh.trans qJ).get zt) zr zm (ri:=H.length+1) (by omega) (p2.trans zx) (zx.get p3) Yk p4 p5;have GG:Ex H2 K4:=(xh.trans qJ).trans i2;obtain⟨v3,Yl⟩:∃v3,C[4*k+3]? =some v3:=bR (by omega);obtain⟨en,K5,n1,n2,n3⟩:=Vg (ti:=H1.length) (blk:=k) (n:=n) (v3+(k:Int)) hb (GG.get g2) hn;have zy:Ex H K5:=(qJ.trans i2).trans n2;have gb:K5[H2.length]? =some (.lst (bw rs B)):=zy.get hZ.at_;have mv:ab addW (ab ag (aa 5) (ab addW (ab bH (eC (.int (4))) (aa 8)) (eC (.int (3))))) (aa 8) (fI ns n bx sl ph.length H1.length H2.length (some (.int k)) (some (.ref (H.length+1))) gz) K4=.ok (.int (v3+(k:Int))) K4:=ad (tD (k:=4*k+3) (GG.get zt) Yl rfl ((ad (four rfl) rfl).trans rfl)) rfl;have body:qN (fI ns n bx sl ph.length H1.length H2.length (some (.int k)) o9 o10) H=.ok (.nx (fI ns n bx sl ph.length H1.length H2.length (some (.int k)) (some (.ref (H.length+1))) gz)) (K5.set H2.length (.lst (bw rs B++[W.tup [.ref (H.length+1),en.w]]))):=by
    unfold qN;exact sq (asg p1) (sq (fN im i1) (y4 rfl ⟨_,i2.get (qJ.get hZ.at_)⟩ (aw (aB rfl (aB (aw (aB mv (aB rfl (aB rfl (aB rfl (aB rfl rfl))))) n1) rfl)) rfl) gb (by rw[wY hZ.len];omega)))
   refine⟨_,_,rfl,_,_,body,_,.inl rfl,B++[⟨pre++GF,en⟩],rs++[H.length+1],_,_,_,rfl,Ex.set (xh.trans zy) (Zf _) _,⟨?_,by simp[hZ.len],fun j r b hr gH=>?_⟩,by simp[qI],fun r hr=>?_,fun j b gH=>?_⟩
   ·rw[fO gb,RC hZ.len]
   ·rcases gj hr with⟨hj,hr⟩ | ⟨hj,rfl⟩
    ·rcases gj gH with⟨_,gH⟩ | ⟨zd,_⟩
     ·rw[dj (ZE (mq r (Zj hr)))];exact zy.get (hZ.ux j r b hr gH)
     ·have:=hZ.len;omega
    ·rcases gj gH with⟨zd,_⟩ | ⟨_,rfl⟩
     ·have:=hZ.len;omega
     ·rw[dj (by omega)];exact n2.get i3
   ·rcases aaA.mp hr with z | z
    ·exact mq r z
    ·rw[ZQ.mp z];omega
   ·rcases gj gH with⟨_,gH⟩ | ⟨hj,rfl⟩
    ·exact kN j b gH
    ·rw[hj,qI];exact⟨by simp only[Zz];omega,i5,fun hk=>⟨GF,by rw[p6 hk];rfl⟩,n3⟩)
  ⟨[],[],none,none,none,rfl,x3,⟨g3,rfl,fun k r b z=>by simp at z⟩,rfl,fun r hr=>(nomatch hr),fun j b z=>by simp at z⟩
 rw[mW] at qI;have YH:∀j∈TL,j<n:=fun j hj=>by rw[hT] at hj;unfold qH at hj;exact aaq.mp (aar.mp hj).1
 refine⟨H2.length,H',B,?_,(x1.trans x2).trans xh,⟨rs,hZ⟩,qI,⟨by omega,by omega,fun k b uE j hj=>?_,fun b hb=>?_⟩,fun k b uE j hj=>?_⟩
 ·unfold uL kR;rw[qa];exact bq (asg e1) (bq (asg e2) (bq (ph1:=H3) (σ1:=fI ns n bx sl ph.length H1.length H2.length none none none) (by rw[e3];rfl) (bq (fN (i6 (j:=n) rfl (by omega) (by omega)) e4) rfl)))
 ·have:=((kN k b uE).gl j hj).1;omega
 ·obtain⟨k,hk⟩:=ZP.mp hb;exact⟨(kN k b hk).rl,(kN k b hk).ro⟩
 ·obtain⟨q1,q2⟩:=(kN k b uE).gl j hj;refine⟨by omega,?_⟩
  rcases q2 with z | z | z
  ·exact .inl z
  ·obtain⟨c,hc⟩:∃c,B[j]? =some c:=bR (by omega);exact .inr (.inl ⟨c,hc,(kN j c hc).tr z⟩)
  ·exact .inr (.inr ((kN k b uE).tr z))
theorem Vj(ph:PH)(s:String):dat ph 40 (.str (Zv s))=some (.str (Zv s)):=by
 unfold dat;rw[if_pos (so s)]
theorem Ua(H:PH)(n:Nat)(s:String):dat H n (.str (Zv s))=some (.str (Zv s)):=by
 have:=Vj H s;cases n <;> exact this
theorem RD{ds:List aby}(h:bc (dat H n) ws=some ds):dat H (n+1) (.tup ws)=some (.tuple ds):=by
 show(bc (dat H n) ws).map PyData.tuple=_;rw[h];rfl
theorem RE{ds:List aby}(hi:H[i]? =some (.lst ws))(h:bc (dat H n) ws=some ds):dat H (n+1) (.ref i)=some (.list ds):=by
 unfold dat;simp only[hi,h];rfl
theorem mc{f:α->Option β}{a:α}{l:List α}{b:β}{m:List β}(h:f a=some b)(h2:bc f l=some m):bc f (a::l)=some (b::m):=by
 unfold bc;rw[h,h2]
theorem CP{p:Nat}{s:S}(h:H[p+2]? =some (.lst (s.told.map W.int))):dat H 40 (ko p y s)=some (.tuple [.str (Zv y),.list (s.told.map adX),.int s.tk]):=
 RD (mc (Ua H 39 y) (mc (RE h (jP (dat H 38) W.int adX (fun x=>pL H 38 x) s.told)) (mc (pL ..) rfl)))
theorem Qa{c:Int}(hm:m<=10)(ec:c.fmod 6=(m:Int)) :
  ∃ph' I,bX (cV (ae (ab a9 (aa 4) (eC (.int (6)))) ak)) [none,some 0] (gN 0) cm (a7 mF (ae (a7 eQ (ae (aa 1) (ae (ab addW (eC (.int (31))) (aa 0)) ak))) ak)) [some (.fl (ns.map W.int)),s1,s2,s3,some (.int c),s5,s6,s7] ph=.ok (.ref ph.length) ph'/\Ex ph ph'/\jl ph' ph.length I:=by
 obtain⟨ph',ws,e,x,g,hl,hP⟩:=wo (ZS m) (fun i:Nat=>W.int i) (ph:=ph) (ph0:=ph) (im:=cV (ae (ab a9 (aa 4) (eC (.int (6)))) ak)) (cap:=[none,some 0]) (g:=gN 0) (e:=a7 mF (ae (a7 eQ (ae (aa 1) (ae (ab addW (eC (.int (31))) (aa 0)) ak))) ak)) (σ:=[some (.fl (ns.map W.int)),s1,s2,s3,some (.int c),s5,s6,s7]) (chk:=fun _=>true)
  (by rw[<- pA];exact i6 (j:=(m:Int)) (aB ((md rfl rfl (by decide)).trans (by rw[ec])) rfl) (by omega) (by omega)) (fun _ _=>rfl) (by rw[ZI];omega)
  (fun j w H=>∃v,w=W.int v/\dE v) (fun j w H H' h _=>h) (fun σ=>∃o,σ=[o,some (.fl (ns.map W.int))]) ⟨none,rfl⟩
  (fun j k hj σ H hS y cB=>by
   obtain⟨o,rfl⟩:=hS;obtain⟨v,H2,e2,x2,sv⟩:=EJ (ns.getD (31+(k:Int)).toNat 0) H;exact⟨_,rfl,⟨_,rfl⟩,_,H2,aw (aB (cl rfl (ad rfl rfl) (by omega)) rfl) e2,x2,v,rfl,sv⟩)
 obtain⟨I,hI,hQ⟩:=vR (f:=W.int) (Q:=fun _ v=>dE v) fun j w hw=>hP j w hw
 refine⟨ph',I,e,x,by rw[g,hI],?_,fun v hv=>?_⟩
 ·rw[hI,Zd,ZI] at hl;omega
 ·obtain⟨j,hj⟩:=ZP.mp hv;exact hQ j v hj
theorem Ub(hA:d8 ph bi B)(hl:B.length<=60) :
  ∃ph',bX (cO (aa 3)) [none,none] (gS 2 [(gN 0),(gN 1)]) cm (bT (ae (bG ja (ae (aa 0) ak)) (ae (aa 1) ak))) [s0,s1,s2,some (.ref bi),s4,s5,s6,s7] ph=.ok (.ref ph.length) ph'/\Ex ph ph'/\d8 ph' ph.length B:=by
 obtain⟨rs,h⟩:=hA;obtain⟨ph',ws,e,x,g,iK,hP⟩:=wo (rs.zip B) (fun p=>W.tup [.ref p.1,p.2.en.w]) (ph:=ph) (ph0:=ph) (im:=cO (aa 3)) (cap:=[none,none]) (g:=gS 2 [(gN 0),(gN 1)]) (e:=bT (ae (bG ja (ae (aa 0) ak)) (ae (aa 1) ak))) (σ:=[s0,s1,s2,some (.ref bi),s4,s5,s6,s7]) (chk:=fun p=>decide (p[bi]? =some (.lst (bw rs B))))
  (by rw[<- DN];exact fL rfl h.at_) (fun p x=>decide_eq_true (x.get h.at_)) (by rw[adq];omega)
  (fun j w H=>∃d:Nat×bM,w=W.tup [.ref d.1,d.2.en.w]/\d.1≠ph.length/\H[d.1]? =some (.lst (d.2.rs.map Row.w))/\B[j]? =some d.2)
  (fun j w H H' q keep=>by
   obtain⟨d,q1,q2,q3,q4⟩:=q;exact⟨d,q1,q2,keep d.1 _ q2 q3,q4⟩)
  (fun σ=>∃a b,σ=[a,b]) ⟨none,none,rfl⟩
  (fun j p hj σ H hS y cB=>by
   obtain⟨a,b,rfl⟩:=hS;have hz:=List.getElem?_zip_eq_some.mp hj;exact⟨_,rfl,⟨_,_,rfl⟩,_,_,aw (aB (aw (aB rfl rfl) (Bm (y.get (h.ux j p.1 p.2 hz.1 hz.2)))) (aB rfl rfl)) rfl,Ex.one _ _,(H.length,p.2),rfl,by show H.length≠ph.length;omega,bz _ _,hz.2⟩)
 obtain⟨D,hD,hQ⟩:=vR (f:=fun d:Nat×bM=>W.tup [.ref d.1,d.2.en.w]) (Q:=fun j (d:Nat×bM)=>ph'[d.1]? =some (.lst (d.2.rs.map Row.w))/\B[j]? =some d.2) fun j w hw=>by
  obtain⟨d,q1,_,q3,q4⟩:=hP j w hw;exact⟨d,q1,q3,q4⟩
 have uD:D.length=B.length:=by
  rw[hD,Zd,adq,h.len,Nat.min_self] at iK;exact iK
 have hB:B=D.map Prod.snd:=by
  apply abr
  intro j;rw[Ze];by_cases hj:j<D.length
  ·obtain⟨d,hd⟩:∃d,D[j]? =some d:=bR hj;rw[hd,(hQ j d hd).2];rfl
  ·rw[ZY (by omega),ZY (by omega)];rfl
 refine⟨ph',e,x,D.map Prod.fst,?_,by rw[Zd,uD],fun k r b hr hb=>?_⟩
 ·rw[g,hD]
  congr 2
  unfold bw;rw[hB,ads,ada,List.zipWith_self]
 ·rw[Ze] at hr;obtain⟨d,hd,rfl⟩:=Zn.mp hr;have:=(hQ k d hd).2;rw[hb] at this;cases this;exact(hQ k d hd).1
theorem good(ns:List Int)(h:ns.length<=63):∃ph',pN [.fl (ns.map W.int)] []=.ok (.bl true) ph':=by
 obtain⟨m0,h0,e0⟩:=i7 (a:=ns.getD 0 0) (n:=7) (by decide);obtain⟨m1,h1,e1⟩:=i7 (a:=ns.getD 1 0) (n:=8) (by decide);obtain⟨m2,h2,e2⟩:=i7 (a:=(ns.getD 1 0).fdiv 8) (n:=12) (by decide);obtain⟨c,hc⟩:∃c,c=ns.getD (30:Int).toNat 0:=⟨_,rfl⟩
 obtain⟨m3,h3,e3⟩:=i7 (a:=c) (n:=6) (by decide);obtain⟨m4,h4,e4⟩:=i7 (a:=c.fdiv 6) (n:=6) (by decide);obtain⟨bi,H1,B,b1,x1,bA,bl,bO,bF⟩:=P9 (ph:=[]) ns (n:=1+m0) (bx:=2+(m1:Int)) (sl:=1+(m2:Int)) (by omega) (by omega) (by omega) (by omega);obtain⟨H2,I,i1,x2,iO⟩:=Qa (ph:=H1) (ns:=ns) (m:=m3) (c:=c) (s1:=some (.int ((1+m0:Nat):Int))) (s2:=some (.int (2+(m1:Int)))) (s3:=some (.ref bi)) (s5:=none) (s6:=none) (s7:=none) (by omega) e3;obtain⟨H3,y,s,r1,x3,t3,l3,u3⟩:=EF (tn:=(m4:Int)) bO (by decide) (bA.mono x2) iO;obtain⟨H4,c1,x4,cA⟩:=Ub (s0:=some (.fl (ns.map W.int))) (s1:=some (.int ((1+m0:Nat):Int))) (s2:=some (.int (2+(m1:Int)))) (s4:=some (.int c)) (s5:=some (.ref H1.length)) (s6:=some (ko H2.length y s)) (s7:=none) ((bA.mono x2).mono x3) (by omega);obtain⟨nb,H5,NB,J,hh,n1,x5,nA,T,nO⟩:=NP bO (by decide) cA;have xi:Ex H2 H5:=(x3.trans x4).trans x5;have Ym:jl H5 H1.length I:=⟨xi.get iO.at_,iO.len,iO.Gr⟩
 obtain⟨H6,y',s',r2,x6,t6,l6,u6⟩:=EF (tn:=(m4:Int)) nO (by rw[bl];omega) nA Ym;have V9:jk (run I B 1000 0 ⟨[],[],[],0,(m4:Int)⟩):=by
  refine BS bF 1000 bO.pos (by simp only;omega) ?_;unfold left;have:∀{x:Nat},x<=1->(2*((m4:Int)).toNat+x)*(B.length+1)+(B.length-0)<1000:=fun{x} hx=>by
   have:=adF (show 2*((m4:Int)).toNat+x<=11 by omega) (show B.length+1<=8 by omega);omega
  refine this ?_;split <;> omega
 obtain⟨l0,Yn⟩:=T.zero;have same:=Rn T 1000 Yn rfl V9;rw[u6,u3] at same;have ey:y'=y/\s'.told=s.told/\s'.tk=s.tk:=by
  unfold S.by at same;injection same with a b
  injection b with b c
  exact⟨a,b,c⟩
 obtain⟨rfl,et,ek⟩:=ey;have d1:=CP (y:=y') (s:=s) ((x4.trans (x5.trans x6)).get t3);have d2:=CP (y:=y') (s:=s') t6;rw[et,ek] at d2;refine⟨H6,?_⟩;unfold pN nG;rw[ki];have q0:(1:Int)+(m0:Int)=((1+m0:Nat):Int):=by omega
 refine bq (σ1:=[some (.fl (ns.map W.int)),some (.int ((1+m0:Nat):Int)),none,none,none,none,none,none]) (ph1:=[]) ?_ (bq (σ1:=[some (.fl (ns.map W.int)),some (.int ((1+m0:Nat):Int)),some (.int (2+(m1:Int))),none,none,none,none,none]) (ph1:=[]) ?_ (bq (asg (aw (aB rfl (aB rfl (aB rfl (aB rfl (aB ?_ rfl))))) b1)) (bq (σ1:=[some (.fl (ns.map W.int)),some (.int ((1+m0:Nat):Int)),some (.int (2+(m1:Int))),some (.ref bi),some (.int c),none,none,none]) (ph1:=H1) ?_ (bq (asg i1) (bq (asg (aw (aB rfl (aB rfl (aB ?_ rfl))) r1)) (bq (asg (aw (aB c1 rfl) n1)) (br (op (aw (aB rfl (aB rfl (aB ?_ rfl))) r2) rfl (Ez (Ts d2 d1))))))))))
 ·rw[<- q0,<- e0];exact asg (ad rfl (md (cl (i:=0) rfl rfl (by decide)) rfl (by decide)))
 ·rw[<- e1];exact asg (ad rfl (md (cl (i:=1) rfl rfl (by decide)) rfl (by decide)))
 ·rw[<- e2];exact ad rfl (md (dv (cl (i:=1) rfl rfl (by decide)) rfl (by decide) (by decide)) rfl (by decide))
 ·rw[hc];exact asg (cl (i:=30) rfl rfl (by decide))
 ·rw[<- e4];exact md (dv rfl rfl (by decide) (by decide)) rfl (by decide)
 ·rw[<- e4];exact md (dv rfl rfl (by decide) (by decide)) rfl (by decide)
end IL.K26
open PySem PySem.W PyProof.Rows
set_option maxHeartbeats 0 in
theorem PySem.Challenge.cw_boxwright_k26_whole_threaded_runs_holds : PySem.Challenge.rw_boxwright_k26_whole_threaded_runs.Holds := by
 w_on
 o_law
 k_head
 (case hw=>w_witness2)
 k_fill
 refine IL.K26.PY (l:=PySem.Challenge.rw_boxwright_k26_whole_threaded_runs) (fun ns hn=>IL.K26.good ns hn) rfl rfl (fun w h Y=>aeb Y) ?K ?T ?F
 case K=>intro w;kernel_rfl
 case T=>
  intro w h Y;refine IL.QN ?_ (aeb Y) (PySem.W.km_tabs_of Y)
  kernel_rfl
 case F=>
  intro w mg fa h KX G hmg;refine' IL.K26.all_mk KX G hmg ?a_law_cell_at ?l_law_cell_at ?c_law_cell_at ?k_law_cell_at ?a_law_number_by ?l_law_number_by ?c_law_number_by ?k_law_number_by ?a_law_row_by ?l_law_row_by ?c_law_row_by ?k_law_row_by ?a_law_goal_by ?l_law_goal_by ?c_law_goal_by ?k_law_goal_by ?a_law_end_by ?l_law_end_by ?c_law_end_by ?k_law_end_by ?a_law_blocks_by ?l_law_blocks_by ?c_law_blocks_by ?k_law_blocks_by ?a_law_fit ?l_law_fit ?c_law_fit ?k_law_fit ?a_law_deed ?l_law_deed ?c_law_deed ?k_law_deed ?a_law_box_row ?l_law_box_row ?c_law_box_row ?k_law_box_row ?a_law_boxed_run ?l_law_boxed_run ?c_law_boxed_run ?k_law_boxed_run ?a_led_on ?l_led_on ?c_led_on ?k_led_on ?a_with_ways ?l_with_ways ?c_with_ways ?k_with_ways ?a_further_blocks ?l_further_blocks ?c_further_blocks ?k_further_blocks ?a_found_from ?l_found_from ?c_found_from ?k_found_from ?a_aheads ?l_aheads ?c_aheads ?k_aheads ?a_comes ?l_comes ?c_comes ?k_comes ?a_standing_within ?l_standing_within ?c_standing_within ?k_standing_within ?a_joined_block ?l_joined_block ?c_joined_block ?k_joined_block ?a_threaded ?l_threaded ?c_threaded ?k_threaded ?a_law ?l_law ?c_law ?k_law ?w1_aheads ?w2_aheads ?w3_aheads ?w4_aheads ?w1_threaded ?w2_threaded ?w3_threaded ?w4_threaded ?w5_aheads ?w6 ?z_dict ?z_enumerate ?z_int ?z_len ?z_list ?z_range ?z_sorted
  (case a_law_cell_at=>k_is)
  (case l_law_cell_at=>k_is)
  (case c_law_cell_at=>k_is)
  (case k_law_cell_at=>k_is)
  (case a_law_number_by=>k_is)
  (case l_law_number_by=>k_is)
  (case c_law_number_by=>k_is)
  (case k_law_number_by=>k_is)
  (case a_law_row_by=>k_is)
  (case l_law_row_by=>k_is)
  (case c_law_row_by=>k_is)
  (case k_law_row_by=>k_is)
  (case a_law_goal_by=>k_is)
  (case l_law_goal_by=>k_is)
  (case c_law_goal_by=>k_is)
  (case k_law_goal_by=>k_is)
  (case a_law_end_by=>k_is)
  (case l_law_end_by=>k_is)
  (case c_law_end_by=>k_is)
  (case k_law_end_by=>k_is)
  (case a_law_blocks_by=>k_is)
  (case l_law_blocks_by=>k_is)
  (case c_law_blocks_by=>k_is)
  (case k_law_blocks_by=>k_is)
  (case a_law_fit=>k_is)
  (case l_law_fit=>k_is)
  (case c_law_fit=>k_is)
  (case k_law_fit=>k_is)
  (case a_law_deed=>k_is)
  (case l_law_deed=>k_is)
  (case c_law_deed=>k_is)
  (case k_law_deed=>k_is)
  (case a_law_box_row=>k_is)
  (case l_law_box_row=>k_is)
  (case c_law_box_row=>k_is)
  (case k_law_box_row=>k_is)
  (case a_law_boxed_run=>k_is)
  (case l_law_boxed_run=>k_is)
  (case c_law_boxed_run=>k_is)
  (case k_law_boxed_run=>k_is)
  (case a_led_on=>k_is)
  (case l_led_on=>k_is)
  (case c_led_on=>k_is)
  (case k_led_on=>k_is)
  (case a_with_ways=>k_is)
  (case l_with_ways=>k_is)
  (case c_with_ways=>k_is)
  (case k_with_ways=>k_is)
  (case a_further_blocks=>k_is)
  (case l_further_blocks=>k_is)
  (case c_further_blocks=>k_is)
  (case k_further_blocks=>k_is)
  (case a_found_from=>k_is)
  (case l_found_from=>k_is)
  (case c_found_from=>k_is)
  (case k_found_from=>k_is)
  (case a_aheads=>k_is)
  (case l_aheads=>k_is)
  (case c_aheads=>k_is)
  (case k_aheads=>k_is)
  (case a_comes=>k_is)
  (case l_comes=>k_is)
  (case c_comes=>k_is)
  (case k_comes=>k_is)
  (case a_standing_within=>k_is)
  (case l_standing_within=>k_is)
  (case c_standing_within=>k_is)
  (case k_standing_within=>k_is)
  (case a_joined_block=>k_is)
  (case l_joined_block=>k_is)
  (case c_joined_block=>k_is)
  (case k_joined_block=>k_is)
  (case a_threaded=>k_is)
  (case l_threaded=>k_is)
  (case c_threaded=>k_is)
  (case k_threaded=>k_is)
  (case a_law=>k_is)
  (case l_law=>k_is)
  (case c_law=>k_is)
  (case k_law=>k_is)
  (case w1_aheads=>exact rfl)
  (case w2_aheads=>k_is)
  (case w3_aheads=>exact rfl)
  (case w4_aheads=>exact rfl)
  (case w1_threaded=>exact rfl)
  (case w2_threaded=>k_is)
  (case w3_threaded=>exact rfl)
  (case w4_threaded=>exact rfl)
  (case w5_aheads=>kernel_rfl)
  (case w6=>exact rfl)
  (case z_dict=>k_is)
  (case z_enumerate=>k_is)
  (case z_int=>k_is)
  (case z_len=>k_is)
  (case z_list=>k_is)
  (case z_range=>k_is)
  (case z_sorted=>k_is)
