import PyProof.Rows.All
import Wide.All
import OpenK.AllK
import Wide.FinOn
import Lean
import PyProof.EqAt
import PyProof.EqKinds
import PyProof.TupleCall
import PySem.Challenge.RW_twinwalk_k15_what_is_refused
open List renaming length_map->ZX,getElem?_eq_getElem->ZZ,length_append->Z0,map_append->Z5,take_add_one->Z9,size_toArray->aaa,mem_of_getElem? -> aab,not_mem_nil->aai,length_take->aak,length_cons->aam,getD_eq_getElem?_getD->aan,take_length->aao,getElem?_map->aaq,replicate->aar,mem_cons->aau,map_cons->aaw,append_nil->aax,range->aaA,flatten_append->aaC,mem_append_right->aaD,take_of_length_le->aaG,getElem?_append_left->aaJ,mem_cons_of_mem->aaK,length_nil->aaU,getElem?_append_right->aaX,mem_cons_self->aa6,length_drop->aa7,map_map->aa9,filterMap_cons->abb,find?_cons->abg,getElem?_set_self->abm,take_append_drop->abq,of_mem_zip->abr,length_range->abv,any_cons->abw,mem_append_left->aby,replicate_succ->abC,length->abD,nodup_nil->abP,drop_zero->abQ,getElem?_eq_none->abR,all_eq_true->abT,getElem?_set_ne->abV,length_set->abZ,getElem_of_mem->ab0,forIn_cons->ab1,drop_eq_getElem_cons->ab8,take_sublist->aca,reverse_cons->acb,flatten_cons->acd,append_assoc->ace,lookup_cons->acm,getElem_mem->acn,sum_append->acs,nodup_cons->acu,length_replicate->acv,mem_of_mem_drop->acA,forIn_nil->acC,map_congr_left->acE,length_reverse->acF,getElem?_take->acQ,filterMap_map->acR,all_cons->acS,nodup_append->acW,getElem?_set->acX,map_reverse->ac3,cons_append->ac4,getElem?_zip_eq_some->adq,getElem?_eq_none_iff->ads,getElem?_replicate->ady,eraseIdx_cons_succ->adz,range_succ_eq_map->adF,length_pos_of_mem->adG,drop_eq_nil_of_le->adH,getElem?_toArray->adP,mem_of_mem_take->ad0
open PySem.W renaming Frag->ZY,kitOne->aav,mg_none_of->aaB,kia_one->aaL,mg_of->aaY,keepIn->aaZ,fnOf->abo,codeIn->abK,kitAny->ab3,findIn->ab4,cellsFrom_some->acg,clsIn->acB,methodObj->acM,nsIn->acP,instObj->acY,lookIn->ac9,mroIn->adi,excIn->adj,hideAll_get->adE,of_hideAll->adM,codeRec_of->adN,callWith_K->adO,specialIn->adS,kitx_list->adT,kitx_dict->adU
open Nat renaming le_refl->Z3,le_trans->Z8,lt_of_lt_of_le->aah,ne_of_lt->aay,zero_le->aaI,le_of_lt->aa5,lt_irrefl->abx,pow_le_pow_right->abA,le_add_right->abB,min_eq_left->abI,lt_of_le_of_lt->abJ,add_lt_add_left->ab5,ne_of_gt->ab7,mul_le_mul->acD,succ_mul->ac2,sub_zero->adW,sub_self->adX,mul_comm->adY,lt_trans->adZ
open PySem.Heap renaming get?_push_of_some->Z4,lt_size->Z7,get?_push_size->aas,SameBut->aaH,get?_update_self->acw,get?_update_other->adI
open PySem renaming Spec->Z6,boot_len->aad,FuncData->aaf,mem_of_lookup->aaM,wpAny_callSpecial?_slot->aaO,foldedSetIterable->aaP,mainGlobals->aaR,bootBuiltins->aaS,sysModules->abc,behindInMarks->abe,attributeBase->abf,wpAny_passesOwn->abz,ZipApart->abF,swapsWith->abN,NameKind->abO,wpAny_forIn_list->ab2,wpAny_execs_nil->ab9,sub_AttributeError->ach,wpAny_getItem_list_slice->acq,slicePick->acI,isSubtype_tuple_tuple->acJ,builtinLookup_eq_fast->acK,swapsWithSole->ac6,swappedStores->ac7,evalPart_none->ac8,typeLookup->adg,getAttr? -> adx,typeLookup_type->adB,codeAny_builtin->adC,wpAny_newFunctionEnv_cells->adL,recursionLimit->adQ
open Int renaming emod_lt_of_pos->aac,emod_nonneg->aaj,toNat_natCast->aaT,toNat_of_nonneg->acN,lt_of_le_of_lt->acV,zero_add->ac5,le_refl->adm,ediv_one->ad1
open PySem.Builtin.SmallTypes renaming ownedTupleIsFree->aae,nextOf->aaz,ownedTupleHandOut->aa0
open Bool renaming false_ne_true->aag,and_eq_true->aaN,false_eq_true->aaQ,eq_iff_iff->aa3,not_true->abH,false_and->adt,and_false->adu,and_true->adA
open PySem.Value renaming ref->aal,bool->abk,builtin->acf,int->acL,none->acT,type->adn,str->adD
open Option.some renaming inj->aap
open True renaming intro->aat
open PyProof.Rows renaming callWith_type1->aaE,slot_tuple_getitem->acr,Subscript_->adh
open PySem.NameKind renaming free->aaF,cell->ade
open PySem.Builtin.Tuple renaming tupleHashOf->aaV,tupleExact->abt,tupleItemsOf->acG
open PySem.Builtin.Int renaming intBits->aaW,intTooBig->ada
open Option renaming map_some->aa1,isSome_map->ab6
open PySem.Builtin.Dict renaming updateFrom->aa2,selfAndRest->abX,addKeywords->abY,pairItems->ac0,mergeDict->ac1
open PySem.Str renaming ofString->aa4,empty->adR
open ForInStep renaming yield->aa8
open Sum renaming isLeft->aba
open False renaming elim->abd
open PySem.F renaming plainAttrs_list->abh,slot_zip_next->abi,slot_enumerate_next->abW,slot_dict_get->ack,args_zip_next_1->aco,entry_zip_next->acx,slot_dict_update->adb,plainAttrs_dict->adk,args_dict_get_3->adl,entry_dict_get->ado,args_enumerate_next_1->ad2
open Array renaming length_toList->abj,forIn_toList->abE
open PySem.Builtin.List renaming listFitsIndex->abl,listTooLong->abu
open PySem.Calls renaming spliced_cons->abn,spliced_nil->abL,evalArgs_plain->abU,callWith_builtin->acp,Name_function_global->adf
open PySem.Builtin.Slice renaming slicePlaces->abp,sliceAdjust->abS,sliceApplied->acH
open PySem.Code renaming quiet_builtin->abG,compLoop->acj
open PySem.Heap.SameBut renaming update->abM
open PySem.Heap.IsSliceOf renaming new->aci
open PySem.Builtin.ObjectAttr renaming bindTo->acy
open Bind renaming bind->acz
open PySem.Heap.DictOf renaming new->acO
open List.cons renaming injEq->acU
open PySem.Obj renaming mapSeq->acZ
open PUnit renaming unit->adp
open PySem.SeqAt.EqAt renaming str_int->adv,int_str->adw
open PySem.BindsTo renaming of_defaults->adJ
open PySem.Around renaming frames_deeper->adK
open PySem.PassesOwn renaming never->adV
set_option Elab.async false
set_option linter.all false
set_option maxRecDepth 100000
theorem agb:0<=PySem.sizeLine:=by decide
theorem agc:1<=PySem.sizeLine:=by decide
theorem agd:2<=PySem.sizeLine:=by decide
theorem age:3<=PySem.sizeLine:=by decide
theorem agf:4<=PySem.sizeLine:=by decide
theorem agg:5<=PySem.sizeLine:=by decide
theorem agh:8<=PySem.sizeLine:=by decide
namespace L2
open PySem PySem.Spec PyProof.Rows
abbrev Key:=Sum Int Str
def oV:Key->Value->Bool
 | .inl k,v=>Value.isInt k v
 | .inr x,v=>Value.isStrOf x v
def QF (w:World):Key->Int
 | .inl k=>hashInt k
 | .inr x=>hashStr w x
theorem bK:∀{k:Key} {v:Value},oV k v=true->(∃i t,k=Sum.inl i/\v=acL i t)\/(∃x t,k=Sum.inr x/\v=adD x t)
 | .inl i,v,h=>by
   obtain ⟨t,e⟩:=Value.isInt_shape (k:=i) (v:=v) h
   exact .inl ⟨i,t,rfl,e⟩
 | .inr x,v,h=>by
   obtain ⟨t,e⟩:=Value.isStrOf_shape (x:=x) (v:=v) h
   exact .inr ⟨x,t,rfl,e⟩
theorem yt (i:Int)(t:Tok):oV (.inl i) (.int i t)=true:=by simp [oV,Value.isInt]
theorem yu (x:Str)(t:Tok):oV (.inr x) (.str x t)=true:=by simp [oV,Value.isStrOf]
theorem HW (a b:Int):decide ((Sum.inl a:Key)=Sum.inl b)=(a == b):=by
 by_cases e:a=b
 · subst e; simp
 · have h:¬ (Sum.inl a:Key)=Sum.inl b:=fun q=>e (Sum.inl.inj q)
   rw [decide_eq_false h]
   exact (beq_eq_false_iff_ne.mpr e).symm
theorem H0 (a b:Str):decide ((Sum.inr a:Key)=Sum.inr b)=decide (a=b):=by
 by_cases e:a=b
 · subst e; simp
 · have h:¬ (Sum.inr a:Key)=Sum.inr b:=fun q=>e (Sum.inr.inj q)
   rw [decide_eq_false h,decide_eq_false e]
theorem HY (a:Int)(b:Str):decide ((Sum.inl a:Key)=Sum.inr b)=false:=decide_eq_false (fun q=>nomatch q)
theorem HZ (a:Str)(b:Int):decide ((Sum.inr a:Key)=Sum.inl b)=false:=decide_eq_false (fun q=>nomatch q)
def aO (prog:Program)(w:World):PySem.KeyKind prog w Key where
 is:=oV
 hash:=QF w
 inj:=fun v a b ha hb=>by
   rcases bK ha with ⟨i,t,rfl,rfl⟩ | ⟨x,t,rfl,rfl⟩
   · rcases bK hb with ⟨j,u,rfl,e⟩ | ⟨y,u,rfl,e⟩
     · injection e with e1 _; rw [e1]
     · exact nomatch e
   · rcases bK hb with ⟨j,u,rfl,e⟩ | ⟨y,u,rfl,e⟩
     · exact nomatch e
     · injection e with e1 _; rw [e1]
 byValue:=fun k v h=>by
   rcases bK h with ⟨i,t,rfl,rfl⟩ | ⟨x,t,rfl,rfl⟩ <;> rfl
 pyHash:=fun hv h=>by
   rcases bK hv with ⟨i,t,rfl,rfl⟩ | ⟨x,t,rfl,rfl⟩
   · exact wpAny_pyHash_int h
   · exact wpAny_pyHash_str h
 eqBool:=fun hu hv h=>by
   rcases bK hu with ⟨i,t,rfl,rfl⟩ | ⟨x,t,rfl,rfl⟩
   · rcases bK hv with ⟨j,u,rfl,rfl⟩ | ⟨y,u,rfl,rfl⟩
     · rw [HW] at h; exact wpAny_eqBool_int h
     · rw [HY] at h; exact adw i t y u _ _ _ _ h
   · rcases bK hv with ⟨j,u,rfl,rfl⟩ | ⟨y,u,rfl,rfl⟩
     · rw [HZ] at h; exact adv x t j u _ _ _ _ h
     · rw [H0] at h; exact wpAny_eqBool_str h
 «strs»:=fun k x t v h=>by
   rcases bK h with ⟨i,u,rfl,e⟩ | ⟨y,u,rfl,e⟩
   · exact nomatch e
   · injection e with e1 _
     subst e1
     cases v <;> rfl
theorem rS (prog:Program)(w:World)(i:Int)(t:Tok):(aO prog w).is (.inl i) (.int i t)=true:=yt i t
theorem rT (prog:Program)(w:World)(x:Str)(t:Tok):(aO prog w).is (.inr x) (.str x t)=true:=yu x t
inductive V where
 | bN | bl (b:Bool) | int (i:Int) | str (x:Str) | byt (b:Array UInt8) | flt (b:UInt64) | ref (a:Addr) | ty (n:String)
 deriving DecidableEq
def RelV:V->Value->Prop
 | .bN,u=>u=acT
 | .bl b,u=>u=abk b
 | .int i,u=>∃t,u=acL i t
 | .str x,u=>∃t,u=adD x t
 | .byt b,u=>∃t,u=Value.bytes b t
 | .flt b,u=>∃t,u=Value.float b t
 | .ref a,u=>u=aal a
 | .ty n,u=>u=adn n
abbrev Vals:List V->List Value->Prop:=Paired RelV
theorem Vals.length {xs:List V}{us:List Value}(r:Vals xs us):xs.length=us.length:=Paired.length r
theorem Vals.get:∀{xs:List V} {us:List Value} {i:Nat} {x:V},Vals xs us->xs[i]? = some x->∃u,us[i]? = some u/\RelV x u
 | _,_,_,_,.nil,e=>by simp at e
 | _,_,0,_,.cons r _,e=>by simp at e; subst e; exact ⟨_,rfl,r⟩
 | _,_,i + 1,x,.cons _ t,e=>by
   obtain ⟨u,h1,h2⟩:=Vals.get (i:=i) (x:=x) t (by simpa using e)
   exact ⟨u,by simpa using h1,h2⟩
theorem Vals.set {x:V}{u:Value}(r:RelV x u):∀{xs:List V} {us:List Value} (i:Nat),Vals xs us->Vals (xs.set i x) (us.set i u)
 | _,_,_,.nil=>.nil
 | _,_,0,.cons _ t=>.cons r t
 | _,_,i + 1,.cons q t=>.cons q (Vals.set r i t)
theorem Vals.append:∀{xs ys:List V} {us ws:List Value},Vals xs us->Vals ys ws->Vals (xs++ys) (us++ws)
 | _,_,_,_,.nil,s=>s
 | _,_,_,_,.cons r t,s=>.cons r (Vals.append t s)
theorem Vals.take:∀{xs:List V} {us:List Value} (n:Nat),Vals xs us->Vals (xs.take n) (us.take n)
 | _,_,0,_=>.nil
 | _,_,_ + 1,.nil=>.nil
 | _,_,n + 1,.cons r t=>.cons r (Vals.take n t)
theorem Vals.drop:∀{xs:List V} {us:List Value} (n:Nat),Vals xs us->Vals (xs.drop n) (us.drop n)
 | _,_,0,r=>r
 | _,_,_ + 1,.nil=>.nil
 | _,_,n + 1,.cons _ t=>Vals.drop n t
def iz:Option V->Option Value->Prop
 | some v,some u=>RelV v u
 | none,none=>True
 | _,_=>False
def KV {κ:Type}:List (κ×V)->List (κ×Value)->Prop:=Paired fun (p:κ×V) (q:κ×Value)=>p.1=q.1/\RelV p.2 q.2
def kV:Key->V
 | .inl i=>.int i
 | .inr x=>.str x
inductive HO where
 | lst (xs:List V)
 | tup (xs:List V)
 | dK (kvs:List (Key×V)) | dT (kvs:List (List Key×V))
 | set (S:Int->Bool) (n:Nat)
 | ins (C dx:Addr) (fs:List (Str×V))
 | own (x:Addr)
 | xd (fs:List (Str×V))
 | met (f x:Addr)
 | rng (lo hi:Int)
 | frz (o:Obj) (u:HO)
 | tbl (ps:Array Value)
 | ext (φ:Heap->Prop)
abbrev Hp:=Addr->Option HO
def upd (H:Hp)(a:Addr)(o:HO):Hp:=fun b=>if b=a then some o else H b
theorem ae {H:Hp}{a:Addr}{o:HO}:upd H a o a=some o:=by unfold upd; rw [if_pos rfl]
theorem aj {H:Hp}{a b:Addr}{o:HO}(h:b≠a):upd H a o b=H b:=by unfold upd; rw [if_neg h]
theorem bS {H:Hp}{a:Addr}{o u:HO}:upd (upd H a o) a u=upd H a u:=by
 funext b; unfold upd; split <;> rfl
theorem fH {H:Hp}{a b:Addr}{o u:HO}(h:H a=some o)(h':H b=some u)(d:o≠u):a≠b:=by
 intro e; subst e; rw [h] at h'; exact d (aap h')
theorem ah {H:Hp}{a b:Addr}{o:HO}(h:H a=some o)(h':H b=none):a≠b:=by
 intro e; subst e; rw [h] at h'; cases h'
section
variable (P:Program)(w:World)
def bp (H:Hp)(h:Heap)(a:Addr):HO->Prop
 | .lst xs=>xs.length<=sizeLine/\∃(its:List Value) (n:Nat),Vals xs its/\h.get? a=some { cls:=.type "list",data:=.seq its.toArray n }
 | .tup xs=>xs.length<=sizeLine/\∃its:List Value,Vals xs its/\IsTup h a its.toArray
 | .dK kvs=>kvs.length<=sizeLine/\(a == abc)=false/\∃vs,KV kvs vs/\h.DictOf (aO P w) a vs
 | .dT kvs=>kvs.length<=sizeLine/\(a == abc)=false/\∃xs:List (List Key×Addr×Value),
     Paired (fun (p:List Key×V) (q:List Key×Addr×Value)=>p.1=q.1/\H q.2.1=some (.tup (p.1.map kV))/\RelV p.2 q.2.2) kvs xs /\
     ∃o es ep,h.get? a=some o/\o.ExactDict/\o.data=.dict es ep/\es.toList=xs.map (entryOfKey (tupleKind (aO P w)))/\(xs.map (·.1)).Nodup
 | .set S n=>h.SetOf (intKind P w) a S n
 | .ins C dx fs=>H dx=some (.own a)/\fs.length<=1000/\dx≠a/\h.get? a=some (acY C dx) /\
     ∃mA,h.Ns1 dx mA/\(∀f,iz (fs.lookup f) (mA f))/\PySem.Within mA (fs.map (·.1))
 | .own _=>∃o,h.get? a=some o
 | .xd fs=>∃mA,h.Ns1 a mA/\∀f,iz (fs.lookup f) (mA f)
 | .rng lo hi=>∃t u v,h.get? a=some { cls:=.type "range",data:=.fields #[.int lo t,.int hi u,.int 1 v] }
 | .frz o u=>h.get? a=some o/\bp H h a u
 | .tbl ps=>h.get? a=some { cls:=.none,data:=.fields ps }
 | .met f x=>h.get? a=some (acM (.ref f) (.ref x))
 | .ext φ=>φ h/\(∃o,h.get? a=some o)/\∀h1 h2:Heap,φ h1->(∀o,h1.get? a=some o->h2.get? a=some o)->φ h2
def fT (H:Hp)(h:Heap):Prop:=∀a o,H a=some o->bp P w H h a o
end
section
variable {P:Program}{w:World}{H H':Hp}{h h':Heap}{a:Addr}{o:HO}
theorem bp.lt (x:bp P w H h a o):a < h.objs.size:=by
 cases o with
 | lst xs=>obtain ⟨_,_,_,_,e⟩:=x; exact Z7 e
 | tup xs=>obtain ⟨_,_,_,p⟩:=x; exact p.lt
 | dK kvs=>obtain ⟨_,_,_,_,o,_,_,e,_⟩:=x; exact Z7 e
 | dT kvs=>obtain ⟨_,_,_,_,o,_,_,e,_⟩:=x; exact Z7 e
 | set S n=>obtain ⟨o,_,_,_,e,_⟩:=x; exact Z7 e
 | ins C dx fs=>obtain ⟨_,_,_,e,_⟩:=x; exact Z7 e
 | own y=>obtain ⟨_,e⟩:=x; exact Z7 e
 | xd fs=>obtain ⟨_,⟨_,_,_,e,_⟩,_⟩:=x; exact Z7 e
 | rng lo hi=>obtain ⟨_,_,_,e⟩:=x; exact Z7 e
 | frz ob u=>obtain ⟨e,_⟩:=x; exact Z7 e
 | tbl ps=>exact Z7 (show h.get? a=some _ from x)
 | met f y=>exact Z7 (show h.get? a=some _ from x)
 | ext φ=>obtain ⟨_,⟨_,e⟩,_⟩:=x; exact Z7 e
theorem Paired.aZ {α β:Type}{F G:α->β->Prop}:∀{l₁:List α} {l₂:List β},Paired F l₁ l₂->(∀a b,F a b->G a b)->Paired G l₁ l₂
 | _,_,.nil,_=>.nil
 | _,_,.cons r t,f=>.cons (f _ _ r) (Paired.aZ t f)
theorem bp.oE (x:bp P w H h a o)(k:∀b u,(b=a\/H b=some (.own a))->h.get? b=some u->h'.get? b=some u)
   (ho:∀b,H b=some (.own a)->H' b=some (.own a)) (ht:∀b xs,H b=some (.tup xs)->H' b=some (.tup xs)):bp P w H' h' a o:=by
 induction o with
 | lst xs=>obtain ⟨z,its,n,r,e⟩:=x; exact ⟨z,its,n,r,k _ _ (.inl rfl) e⟩
 | tup xs=>obtain ⟨z,its,r,ob,e,c⟩:=x; exact ⟨z,its,r,ob,k _ _ (.inl rfl) e,c⟩
 | dK kvs=>obtain ⟨z,y,vs,r,ob,es,ep,e,c⟩:=x; exact ⟨z,y,vs,r,ob,es,ep,k _ _ (.inl rfl) e,c⟩
 | dT kvs=>
   obtain ⟨z,y,xs,r,ob,es,ep,e,c⟩:=x
   exact ⟨z,y,xs,Paired.aZ r fun p q z=>⟨z.1,ht _ _ z.2.1,z.2.2⟩,ob,es,ep,k _ _ (.inl rfl) e,c⟩
 | set S n=>obtain ⟨ob,es,ep,t,e,c⟩:=x; exact ⟨ob,es,ep,t,k _ _ (.inl rfl) e,c⟩
 | ins C dx fs=>
   obtain ⟨d,z,ne,e,mA,⟨od,es,ep,e2,c⟩,r⟩:=x
   exact ⟨ho _ d,z,ne,k _ _ (.inl rfl) e,mA,⟨od,es,ep,k _ _ (.inr d) e2,c⟩,r⟩
 | own y=>obtain ⟨ob,e⟩:=x; exact ⟨ob,k _ _ (.inl rfl) e⟩
 | xd fs=>obtain ⟨mA,⟨od,es,ep,e,c⟩,r⟩:=x; exact ⟨mA,⟨od,es,ep,k _ _ (.inl rfl) e,c⟩,r⟩
 | rng lo hi=>obtain ⟨t,u,v,e⟩:=x; exact ⟨t,u,v,k _ _ (.inl rfl) e⟩
 | frz ob u ih=>obtain ⟨e,q⟩:=x; exact ⟨k _ _ (.inl rfl) e,ih q⟩
 | tbl ps=>
   have e:h.get? a=some { cls:=.none,data:=.fields ps }:=x
   show h'.get? a=some { cls:=.none,data:=.fields ps }
   exact k a _ (.inl rfl) e
 | met f y=>
   have e:h.get? a=some (acM (.ref f) (.ref y)):=x
   show h'.get? a=some (acM (.ref f) (.ref y))
   exact k a _ (.inl rfl) e
 | ext φ=>obtain ⟨p,⟨o,e⟩,st⟩:=x; exact ⟨st _ _ p fun o q=>k _ _ (.inl rfl) q,⟨o,k _ _ (.inl rfl) e⟩,st⟩
theorem fT.lt (x:fT P w H h)(e:H a=some o):a < h.objs.size:=(x a o e).lt
theorem fT.fresh (x:fT P w H h)(e:h.objs.size<=a):H a=none:=by
 cases q:H a with
 | none=>rfl
 | some u=>exact absurd (aah (x.lt q) e) (abx _)
theorem fT.kept (x:fT P w H h)(k:∀b u,h.get? b=some u->h'.get? b=some u):fT P w H h':=fun a o e=>
 (x a o e).oE (fun b u _ q=>k b u q) (fun _ q=>q) fun _ _ q=>q
theorem fT.laid (x:fT P w H h)(k:∀b u,h.get? b=some u->h'.get? b=some u)(hp:h.objs.size<=a)(new:bp P w (upd H a o) h' a o):fT P w (upd H a o) h':=fun b u e=>by
 have hn:=x.fresh hp
 by_cases hb:b=a
 · subst hb; rw [ae] at e; cases e; exact new
 · rw [aj hb] at e
   exact (x b u e).oE (fun c v _ q=>k c v q) (fun c q=>by rw [aj (ah q hn)]; exact q) fun c xs q=>by rw [aj (ah q hn)]; exact q
end
def Rd (H:Hp)(a:Addr)(u:HO):Prop:=H a=some u\/∃o,H a=some (.frz o u)
theorem Rd.ok {P:Program}{w:World}{H:Hp}{h:Heap}{a:Addr}{u:HO}(r:Rd H a u)(x:fT P w H h):bp P w H h a u:=by
 rcases r with r | ⟨o,r⟩
 · exact x a u r
 · obtain ⟨_,q⟩:=x a _ r
   exact q
def Ky:Option HO->Prop
 | some (.lst _)=>True
 | some (.dK _)=>True
 | some (.dT _)=>True
 | some (.set _ _)=>True
 | some (.ins _ _ _)=>True
 | some (.ext _)=>True
 | _=>False
section
variable {P:Program}{w:World}{H:Hp}{h h':Heap}{x e:Addr}{o':HO}
theorem fT.write (ok:fT P w H h)(mu:Ky (H x))(he:e=x\/H e=some (.own x))(k:∀b u,b≠e->h.get? b=some u->h'.get? b=some u)(heo:∃u,h'.get? e=some u)
   (new:bp P w (upd H x o') h' x o'):fT P w (upd H x o') h':=fun b u q=>by
 have nown:∀c y,H c=some (.own y)->c≠x:=fun c y r z=>by subst z; rw [r] at mu; exact mu
 have ntup:∀c xs,H c=some (.tup xs)->c≠x:=fun c xs r z=>by subst z; rw [r] at mu; exact mu
 by_cases hb:b=x
 · subst hb; rw [ae] at q; cases q; exact new
 · rw [aj hb] at q
   by_cases Hn:b=e
   · have q':H b=some (.own x):=by
       rcases he with z | z
       · exact absurd (Hn.trans z) hb
       · rw [Hn]; exact z
     rw [q] at q'; cases q'
     obtain ⟨v,hv⟩:=heo
     exact ⟨v,by rw [Hn]; exact hv⟩
   · refine (ok b u q).oE (fun c v hc r=>k c v ?_ r) (fun c r=>by rw [aj (nown c b r)]; exact r) fun c xs r=>by rw [aj (ntup c xs r)]; exact r
     rcases hc with rfl | hc
     · exact Hn
     · rintro rfl
       rcases he with z | z
       · exact nown c b hc z
       · rw [hc] at z; cases z; exact hb rfl
end
structure Un (fs ex:List Addr)(H H':Hp)(h h':Heap):Prop where
 keep:∀b o,h.get? b=some o->H b=none->b ∉ fs->b ∉ ex->h'.get? b=some o
 slot:∀b o,h.get? b=some o->H b=none->b∈fs->b ∉ ex->∃sl,h'.get? b=some { o with slots:=sl }
 free:∀b o,h.get? b=some o->H b=none->b ∉ ex->H' b=none
 there:∀b o,h.get? b=some o->b ∉ ex->∃o',h'.get? b=some o'
 tups:∀b xs,H b=some (.tup xs)->H' b=some (.tup xs)
 frzs:∀b o u,H b=some (.frz o u)->H' b=some (.frz o u)
 tbls:∀b ps,H b=some (.tbl ps)->∃more,H' b=some (.tbl (ps++more))
section
variable {fs fs' ex Zg:List Addr}{H H1 H2:Hp}{h h1 h2 h':Heap}{a x e:Addr}{o:HO}
theorem Un.any (u:Un fs ex H H1 h h1){b:Addr}{ob:Obj}(q:h.get? b=some ob)(n:H b=none)(hx:b ∉ ex):∃sl,h1.get? b=some { ob with slots:=sl }:=by
 by_cases hb:b∈fs
 · exact u.slot b ob q n hb hx
 · exact ⟨ob.slots,u.keep b ob q n hb hx⟩
theorem Un.kept (k:∀b u,h.get? b=some u->h'.get? b=some u):Un fs ex H H h h':=
 ⟨fun b ob q _ _ _=>k b ob q,fun b ob q _ _ _=>⟨ob.slots,k b ob q⟩,fun _ _ _ n _=>n,fun b ob q _=>⟨ob,k b ob q⟩,fun _ _ q=>q,fun _ _ _ q=>q,fun _ ps q=>⟨#[],by rw [q]; simp⟩⟩
theorem Un.refl:Un fs ex H H h h:=Un.kept fun _ _ q=>q
theorem Un.laid (k:∀b u,h.get? b=some u->h'.get? b=some u)(hp:h.objs.size<=a)(hn:H a=none):Un fs ex H (upd H a o) h h' where
 keep:=fun b u q _ _ _=>k b u q
 slot:=fun b u q _ _ _=>⟨u.slots,k b u q⟩
 free:=fun b u q n _=>by rw [aj (aay (aah (Z7 q) hp))]; exact n
 there:=fun b u q _=>⟨u,k b u q⟩
 tups:=fun b xs q=>by rw [aj (ah q hn)]; exact q
 frzs:=fun b u xs q=>by rw [aj (ah q hn)]; exact q
 tbls:=fun b ps q=>⟨#[],by rw [aj (ah q hn),q]; simp⟩
theorem Un.write (mu:Ky (H x))(he:e=x\/H e=some (.own x))(k:∀b u,b≠e->h.get? b=some u->h'.get? b=some u)(heo:∃u,h'.get? e=some u):Un fs ex H (upd H x o) h h':=by
 have hx:∀b,H b=none->b≠x:=fun b n z=>by subst z; rw [n] at mu; exact mu
 have hb:∀b,H b=none->b≠e:=fun b n z=>by
   subst z
   rcases he with r | r
   · exact hx b n r
   · rw [n] at r; cases r
 have hm:∀b u,H b=some u->¬ Ky (some u)->b≠x:=fun b u q nm z=>by subst z; rw [q] at mu; exact nm mu
 refine ⟨fun b u q n _ _=>k b u (hb b n) q,fun b u q n _ _=>⟨u.slots,k b u (hb b n) q⟩,fun b u q n _=>by rw [aj (hx b n)]; exact n,fun b u q _=>?_,
   fun b xs q=>by rw [aj (hm b _ q fun z=>z)]; exact q,fun b u xs q=>by rw [aj (hm b _ q fun z=>z)]; exact q,fun b ps q=>⟨#[],by rw [aj (hm b _ q fun z=>z),q]; simp⟩⟩
 by_cases Hn:b=e
 · subst Hn; exact heo
 · exact ⟨u,k b u Hn q⟩
end
def ze (h:Heap)(H:Hp):List Addr:=(aaA h.objs.size).filter fun a=>(H a).isSome
def pU (h:Heap)(H:Hp):Heap:=PySem.W.hideAll h (ze h H)
theorem yh (h:Heap)(H:Hp):(pU h H).objs.size=h.objs.size:=PySem.W.hideAll_size _ _
theorem AD {h:Heap}{H:Hp}{b:Addr}{o:Obj}(e:h.get? b=some o)(n:H b=none):(pU h H).get? b=some o:=
 adE _ e fun hm=>by
   have q:(H b).isSome=true:=(List.mem_filter.mp hm).2
   rw [n] at q; simp at q
theorem Ed {h:Heap}{H:Hp}{b:Addr}{o:Obj}(e:(pU h H).get? b=some o):h.get? b=some o/\H b=none:=by
 have e':h.get? b=some o:=adM (ze h H) e
 refine ⟨e',?_⟩
 cases q:H b with
 | none=>rfl
 | some x=>
   have hm:b∈ze h H:=List.mem_filter.mpr ⟨List.mem_range.mpr (Z7 e'),by simp [q]⟩
   have z:(pU h H).get? b=none:=PySem.W.hideAll_none (ze h H) hm
   rw [z] at e; cases e
structure Mod (K:ZY)(mg:Str->Option Value)(base:Heap):Prop where
 kin:K.In base
 glob:base.Ns aaR mg
 blt:∃mb,base.Ns builtinsNs mb/\∀x:Str,x≠"__name__"->mb x=aaS x
 nolimit:base.NoLimit
structure Cx where
 prog:Program
 w:World
 K:ZY
 mg:Str->Option Value
 base:Heap
 A:Around
 N:List Str
 s₀:Shared
 H₀:Hp
 env:Env
 outer:List Env
 stack:List Env
 ex:List Addr
 fn:Str->Bool
 calm:Bool
 pn:List (Addr×Obj)
 xe:Value->Shared->Prop
def jg (l:List Env):List Addr:=l.filterMap (·.frame)
abbrev Cx.fs (X:Cx):List Addr:=jg X.outer
def Nw (sc:Scope)(x:Str):Prop:=sc.names.lookup x=some .local\/sc.names.lookup x=some .cell\/sc.names.lookup x=some .free
def Loc (sc:Scope)(x:Str):Prop:=sc.names.lookup x=some .local\/sc.names.lookup x=some .cell
def Look (env:Env)(h:Heap)(m:Str->Option Value)(x:Str)(u:Value):Prop:=
 (env.kindOf x=some .local/\m x=some u)\/((env.kindOf x=some .cell\/env.kindOf x=some .free)/\∃c,env.cells.lookup x=some c/\h.IsCell c (some u))
structure Cx.Ok (X:Cx):Prop where
 mod:Mod X.K X.mg X.base
 kind:X.env.scope.kind=.function
 glob:X.env.globals=aaR
 blt:X.env.builtins=builtinsNs
 above:X.s₀.heap.objs.size<=X.env.locals
 inj:∀x y c,X.env.cells.lookup x=some c->X.env.cells.lookup y=some c->x=y
 has:∀x,(X.env.kindOf x=some .cell\/X.env.kindOf x=some .free)->∃c,X.env.cells.lookup x=some c
 cab:∀x c,X.fn x=true->X.env.cells.lookup x=some c->X.s₀.heap.objs.size<=c
 hd:X.calm=true->X.A.handled=none
 frames:X.A.frames=some X.stack
 stk:X.stack=X.outer\/(X.stack=X.env :: X.outer/\X.env.frame=some X.env.locals)
 exf:∀b∈X.ex,b≠X.env.locals/\∀x c,X.env.cells.lookup x=some c->c≠b
 bs:∀b o,X.base.get? b=some o->X.s₀.heap.get? b=some o/\X.H₀ b=none
 bsz:X.base.objs.size<=X.s₀.heap.objs.size
 noex:∀b o,X.base.get? b=some o->b ∉ X.ex
 exfs:∀b∈X.ex,b ∉ X.fs
 hU:X.s₀.heap.FunFrames X.base X.outer
 frf:∀b∈X.fs,X.H₀ b=none
structure Inv (X:Cx)(pins:List (Addr×Obj))(σ:List (Option V))(H:Hp)(s:Shared):Prop where
 ok:X.Ok
 os:s.os=X.s₀.os
 bare:AllBare s.gens
 base:Un X.fs X.ex X.H₀ H X.s₀.heap s.heap
 loc:∃m,s.heap.Ns X.env.locals m/\∀(i:Nat) (x:Str) (v:V),X.N[i]? = some x->σ[i]? = some (some v)->Nw X.env.scope x->∃u,RelV v u/\Look X.env s.heap m x u
 cell:∀x c,X.env.cells.lookup x=some c->∃v,s.heap.IsCell c v
 free:H X.env.locals=none
 freeC:∀x c,X.env.cells.lookup x=some c->H c=none
 pin:∀p∈X.pn++pins,s.heap.get? p.1=some p.2/\H p.1=none/\p.1≠X.env.locals/\p.1 ∉ X.fs/\∀v,p.2.data≠.cell v
 hok:fT X.prog X.w H s.heap
 len:σ.length=X.N.length
section
variable {X:Cx}{pins:List (Addr×Obj)}{σ:List (Option V)}{H H':Hp}{s:Shared}{h':Heap}
theorem Cx.Ok.QW (ok:X.Ok){b:Addr}{o:Obj}(e:X.base.get? b=some o):b ∉ X.fs:=fun hb=>by
 have:=(ok.hU.mem hb).1
 rw [e] at this; cases this
theorem Inv.bs (I:Inv X pins σ H s):∀b o,X.base.get? b=some o->s.heap.get? b=some o/\H b=none:=fun b o e=>
 ⟨I.base.keep b o (I.ok.bs b o e).1 (I.ok.bs b o e).2 (I.ok.QW e) (I.ok.noex b o e),I.base.free b o (I.ok.bs b o e).1 (I.ok.bs b o e).2 (I.ok.noex b o e)⟩
theorem Inv.bk (I:Inv X pins σ H s):∀b o,X.base.get? b=some o->s.heap.get? b=some o:=fun b o e=>(I.bs b o e).1
theorem Inv.mod (I:Inv X pins σ H s):Mod X.K X.mg X.base:=I.ok.mod
theorem Inv.lV (I:Inv X pins σ H s):X.K.In s.heap:=I.ok.mod.kin.keeps I.bk
theorem Inv.lt (I:Inv X pins σ H s):X.env.locals < s.heap.objs.size:=let ⟨_,hn,_⟩:=I.loc; hn.lt
theorem Inv.sz (I:Inv X pins σ H s):X.s₀.heap.objs.size<=s.heap.objs.size:=Z8 I.ok.above (aa5 I.lt)
theorem Inv.QX (I:Inv X pins σ H s){a:Addr}(h:s.heap.objs.size<=a):a ∉ X.fs:=fun hb=>by
 obtain ⟨_,o,ho,_⟩:=I.ok.hU.mem hb
 exact absurd (aah (Z7 ho) (Z8 I.sz h)) (abx _)
theorem Inv.xC (I:Inv X pins σ H s):∀x c,X.env.cells.lookup x=some c->c≠X.env.locals:=fun x c e z=>by
 obtain ⟨v,o,ho,hd⟩:=I.cell x c e
 obtain ⟨m,⟨o',es,ep,ho',ow,_⟩,_⟩:=I.loc
 rw [z,ho'] at ho; cases ho; rw [ow] at hd; cases hd
theorem Inv.hU (I:Inv X pins σ H s):s.heap.FunFrames X.base X.outer:=by
 have all:∀(l:List Env),(∀b∈jg l,b∈X.fs)->X.s₀.heap.FunFrames X.base l->s.heap.FunFrames X.base l:=by
   intro l
   induction l with
   | nil=>intro _ _; trivial
   | cons env r ih=>
     intro hs hl
     obtain ⟨hk,⟨L,o,hf,hn,ho,hd⟩,hr⟩:=hl
     have hL:L∈X.fs:=hs L (by unfold jg; rw [abb,hf]; exact aa6)
     obtain ⟨sl,e⟩:=I.base.slot L o ho (I.ok.frf L hL) hL fun z=>I.ok.exfs L z hL
     exact ⟨hk,⟨L,_,hf,hn,e,hd⟩,ih (fun b hb=>hs b (by unfold jg; rw [abb,hf]; exact aaK _ hb)) hr⟩
 exact all X.outer (fun _ hb=>hb) I.ok.hU
theorem Inv.stack (I:Inv X pins σ H s):s.heap.FunFrames X.base X.stack:=by
 rcases I.ok.stk with e | ⟨e,hf⟩
 · rw [e]; exact I.hU
 · rw [e]
   obtain ⟨m,hn,_⟩:=I.loc
   refine .cons (by rw [I.ok.kind]; decide) hf hn ?_ I.hU
   exact Heap.get?_none_of_le (Z8 I.ok.bsz I.ok.above)
theorem Inv.qu (I:Inv X pins σ H s):∀b∈jg X.stack,b∈X.env.locals :: X.fs:=fun b hb=>by
 rcases I.ok.stk with e | ⟨e,hf⟩
 · rw [e] at hb; exact aaK _ hb
 · rw [e] at hb
   unfold jg at hb
   rw [abb,hf] at hb
   exact hb
theorem Inv.qt (I:Inv X pins σ H s):∀b∈jg X.stack,H b=none:=fun b hb=>by
 rcases List.mem_cons.mp (I.qu b hb) with e | hb
 · rw [e]; exact I.free
 · obtain ⟨_,o,ho,_⟩:=I.ok.hU.mem hb
   exact I.base.free b o ho (I.ok.frf b hb) fun z=>I.ok.exfs b z hb
theorem Inv.step {g':Array GenState}{t':Nat}{d':Drawn}{ch:List Addr}(I:Inv X pins σ H s)
   (hch:∀b∈ch,(b∈X.ex\/X.s₀.heap.objs.size<=b)/\b≠X.env.locals/\(∀x c,X.env.cells.lookup x=some c->c≠b)/\∀p∈X.pn++pins,p.1≠b)
   (keep:∀b o,b≠X.env.locals->b ∉ X.fs->b ∉ ch->s.heap.get? b=some o->H b=none->h'.get? b=some o)
   (slot:∀b o,b≠X.env.locals->b∈X.fs->b ∉ ch->s.heap.get? b=some o->H b=none->∃sl,h'.get? b=some { o with slots:=sl }) (free:∀b o,b ∉ ch->s.heap.get? b=some o->H b=none->H' b=none)
   (there:∀b o,b ∉ ch->s.heap.get? b=some o->∃o',h'.get? b=some o')
   (tups:∀b xs,H b=some (.tup xs)->H' b=some (.tup xs)) (frzs:∀b o u,H b=some (.frz o u)->H' b=some (.frz o u)) (tbls:∀b ps,H b=some (.tbl ps)->∃more,H' b=some (.tbl (ps++more)))
   (ns:∀m,s.heap.Ns X.env.locals m->h'.Ns X.env.locals m) (hok:fT X.prog X.w H' h') (hg:AllBare g') :
   Inv X pins σ H' { s with heap:=h',gens:=g',drawn:=d',toks:=t' }:=by
 have neL:∀b o,X.s₀.heap.get? b=some o->b≠X.env.locals:=fun b o e=>aay (aah (Z7 e) I.ok.above)
 have neC:∀b o,X.s₀.heap.get? b=some o->b ∉ X.ex->b ∉ ch:=fun b o e hx hb=>by
   rcases (hch b hb).1 with z | z
   · exact hx z
   · exact absurd (aah (Z7 e) z) (abx _)
 have cellK:∀x c,X.env.cells.lookup x=some c->∀v,s.heap.IsCell c v->h'.IsCell c v:=fun x c e v ⟨o,ho,hd⟩=>by
   have Ba:c ∉ ch:=fun z=>(hch c z).2.2.1 x c e rfl
   by_cases hc:c∈X.fs
   · obtain ⟨sl,q⟩:=slot c o (I.xC x c e) hc Ba ho (I.freeC x c e)
     exact ⟨_,q,hd⟩
   · exact ⟨o,keep c o (I.xC x c e) hc Ba ho (I.freeC x c e),hd⟩
 refine ⟨I.ok,I.os,hg,⟨fun b o e n hb hx=>?_,fun b o e n hb hx=>?_,fun b o e n hx=>?_,fun b o e hx=>?_,fun b xs e=>tups b xs (I.base.tups b xs e),fun b o xs e=>frzs b o xs (I.base.frzs b o xs e),fun b ps e=>?_⟩,?_,fun x c e=>?_,?_,fun x c e=>?_,fun p hp=>?_,hok,I.len⟩
 · exact keep b o (neL b o e) hb (neC b o e hx) (I.base.keep b o e n hb hx) (I.base.free b o e n hx)
 · obtain ⟨sl,e1⟩:=I.base.slot b o e n hb hx
   obtain ⟨Rw,e2⟩:=slot b _ (neL b o e) hb (neC b o e hx) e1 (I.base.free b o e n hx)
   exact ⟨Rw,e2⟩
 · obtain ⟨o',e1⟩:=I.base.there b o e hx
   exact free b o' (neC b o e hx) e1 (I.base.free b o e n hx)
 · obtain ⟨o',e1⟩:=I.base.there b o e hx
   exact there b o' (neC b o e hx) e1
 · obtain ⟨m1,e1⟩:=I.base.tbls b ps e
   obtain ⟨m2,e2⟩:=tbls b _ e1
   exact ⟨m1++m2,by rw [e2,Array.append_assoc]⟩
 · obtain ⟨m,hn,hl⟩:=I.loc
   refine ⟨m,ns m hn,fun i x v e1 e2 e3=>?_⟩
   obtain ⟨u,r,l⟩:=hl i x v e1 e2 e3
   refine ⟨u,r,?_⟩
   rcases l with l | ⟨k,c,e,z⟩
   · exact .inl l
   · exact .inr ⟨k,c,e,cellK x c e _ z⟩
 · obtain ⟨v,z⟩:=I.cell x c e
   exact ⟨v,cellK x c e v z⟩
 · obtain ⟨m,⟨o,_,_,ho,_⟩,_⟩:=I.loc
   exact free _ o (fun z=>(hch _ z).2.1 rfl) ho I.free
 · obtain ⟨v,o,ho,hd⟩:=I.cell x c e
   exact free c o (fun z=>(hch c z).2.2.1 x c e rfl) ho (I.freeC x c e)
 · obtain ⟨e,n,ne,nf,d⟩:=I.pin p hp
   have Ba:p.1 ∉ ch:=fun z=>(hch p.1 z).2.2.2 p hp rfl
   exact ⟨keep p.1 p.2 ne nf Ba e n,free p.1 p.2 Ba e n,ne,nf,d⟩
theorem Inv.un {t':Nat}(I:Inv X pins σ H s)(u:Un X.fs [] H H' s.heap h')(hok:fT X.prog X.w H' h'):Inv X pins σ H' { s with heap:=h',toks:=t' }:=by
 obtain ⟨m,⟨o,es,ep,ho,r⟩,_⟩:=id I.loc
 obtain ⟨sl,hL⟩:=u.any ho I.free (by simp)
 exact I.step (g':=s.gens) (d':=s.drawn) (ch:=[]) (fun _ z=>nomatch z) (fun b o _ hb _ e n=>u.keep b o e n hb (by simp)) (fun b o _ hb _ e n=>u.slot b o e n hb (by simp)) (fun b o _ e n=>u.free b o e n (by simp)) (fun b o _ e=>u.there b o e (by simp)) u.tups u.frzs u.tbls (fun m' hm=>by
   obtain ⟨o',K0,ep',ho',r'⟩:=hm
   rw [ho] at ho'; cases ho'
   exact ⟨_,K0,ep',hL,r'⟩) hok I.bare
theorem Inv.call {g':Array GenState}{t':Nat}{d':Drawn}{ch:List Addr}(I:Inv X pins σ H s)(u:Un (jg X.stack) ch H H' s.heap h')(hok:fT X.prog X.w H' h')(hg:AllBare g')
   (hch:∀b∈ch,(b∈X.ex\/X.s₀.heap.objs.size<=b)/\b≠X.env.locals/\(∀x c,X.env.cells.lookup x=some c->c≠b)/\∀p∈X.pn++pins,p.1≠b) :
   Inv X pins σ H' { s with heap:=h',gens:=g',drawn:=d',toks:=t' }:=by
 obtain ⟨m,⟨o,es,ep,ho,r⟩,_⟩:=id I.loc
 obtain ⟨sl,hL⟩:=u.any ho I.free fun z=>(hch _ z).2.1 rfl
 exact I.step (ch:=ch) hch (fun b o hL hb hc e n=>u.keep b o e n (fun z=>(List.mem_cons.mp (I.qu b z)).elim hL hb) hc) (fun b o _ _ hc e n=>u.any e n hc) (fun b o hc e n=>u.free b o e n hc) (fun b o hc e=>u.there b o e hc) u.tups u.frzs u.tbls (fun m' hm=>by
   obtain ⟨o',K0,ep',ho',r'⟩:=hm
   rw [ho] at ho'; cases ho'
   exact ⟨_,K0,ep',hL,r'⟩) hok hg
theorem Inv.turned {t':Nat}{it:Addr}(I:Inv X pins σ H s)(k:∀b o,b≠it->s.heap.get? b=some o->h'.get? b=some o)(hn:H it=none)(hL:it≠X.env.locals)
   (h1:it∈X.ex\/X.s₀.heap.objs.size<=it) (h2:∀x c,X.env.cells.lookup x=some c->c≠it) (h3:∀p∈X.pn++pins,p.1≠it):Inv X pins σ H { s with heap:=h',toks:=t' }:=by
 have T4:∀b u,H b=some u->b≠it:=fun b u e z=>by rw [z,hn] at e; cases e
 refine I.step (g':=s.gens) (d':=s.drawn) (ch:=[it]) (fun b hb=>?_) (fun b o _ _ hc e _=>k b o (fun z=>hc (by simp [z])) e) (fun b o _ _ hc e _=>⟨o.slots,k b o (fun z=>hc (by simp [z])) e⟩) (fun _ _ _ _ n=>n)
   (fun b o hc e=>⟨o,k b o (fun z=>hc (by simp [z])) e⟩) (fun _ _ e=>e) (fun _ _ _ e=>e) (fun b ps e=>⟨#[],by rw [e]; simp⟩) (fun m hm=>?_) (fun b u e=>?_) I.bare
 · have e:b=it:=by simpa using hb
   subst e
   exact ⟨h1,hL,h2,h3⟩
 · obtain ⟨o,es,ep,ho,r⟩:=hm
   exact ⟨o,es,ep,k _ o (Ne.symm hL) ho,r⟩
 · refine (I.hok b u e).oE (fun c v hc q=>k c v ?_ q) (fun _ q=>q) fun _ _ q=>q
   rcases hc with z | z
   · rw [z]; exact T4 b u e
   · exact T4 c _ z
theorem Inv.tok (I:Inv X pins σ H s)(t:Nat):Inv X pins σ H { s with toks:=t }:=I.un (h':=s.heap) (t':=t) Un.refl I.hok
theorem Inv.kept {t':Nat}(I:Inv X pins σ H s)(k:∀b u,s.heap.get? b=some u->h'.get? b=some u):Inv X pins σ H { s with heap:=h',toks:=t' }:=I.un (Un.kept k) (I.hok.kept k)
theorem Inv.laid {a:Addr}{o:HO}{t':Nat}(I:Inv X pins σ H s)(k:∀b u,s.heap.get? b=some u->h'.get? b=some u)(hp:s.heap.objs.size<=a)(new:bp X.prog X.w (upd H a o) h' a o) :
   Inv X pins σ (upd H a o) { s with heap:=h',toks:=t' }:=I.un (Un.laid k hp (I.hok.fresh hp)) (I.hok.laid k hp new)
theorem Inv.write {x e:Addr}{o:HO}{t':Nat}(I:Inv X pins σ H s)(mu:Ky (H x))(he:e=x\/H e=some (.own x))(k:∀b u,b≠e->s.heap.get? b=some u->h'.get? b=some u)(heo:∃u,h'.get? e=some u)
   (new:bp X.prog X.w (upd H x o) h' x o):Inv X pins σ (upd H x o) { s with heap:=h',toks:=t' }:=I.un (Un.write mu he k heo) (I.hok.write mu he k heo new)
theorem Inv.weak {σ':List (Option V)}(I:Inv X pins σ H s)(hl:σ'.length=σ.length)(w:∀(i:Nat) v,σ'[i]? = some (some v)->σ[i]? = some (some v)):Inv X pins σ' H s:=
 ⟨I.ok,I.os,I.bare,I.base,let ⟨m,hn,PJ⟩:=I.loc; ⟨m,hn,fun i x v e1 e2 e3=>PJ i x v e1 (w i v e2) e3⟩,I.cell,I.free,I.freeC,I.pin,I.hok,hl.trans I.len⟩
theorem Inv.wJ {lg:List (Addr×Obj)}(I:Inv X pins σ H s)(h:∀p∈lg,s.heap.get? p.1=some p.2/\H p.1=none/\p.1≠X.env.locals/\p.1 ∉ X.fs/\∀v,p.2.data≠.cell v):Inv X lg σ H s:=
 ⟨I.ok,I.os,I.bare,I.base,I.loc,I.cell,I.free,I.freeC,fun p hp=>(List.mem_append.mp hp).elim (fun z=>I.pin p (aby _ z)) (h p),I.hok,I.len⟩
theorem rX {N:List Str}(hN:N.Nodup){i j:Nat}{x:Str}(a:N[i]? = some x)(b:N[j]? = some x):i=j:=by
 obtain ⟨h1,e1⟩:=List.getElem?_eq_some_iff.mp a
 obtain ⟨h2,e2⟩:=List.getElem?_eq_some_iff.mp b
 exact (List.getElem_inj hN).mp (e1.trans e2.symm)
theorem pD {M:Model}{A:Around}{E:Value->Shared->Prop}{i:Nat}{x:Str}{v:V}{u:Value}{Q:Unit->Shared->Prop}(I:Inv X pins σ H s)(hN:X.N.Nodup)(hi:X.N[i]? = some x)(hx:Loc X.env.scope x)(r:RelV v u)
   (h:∀s',Inv X pins (σ.set i (some v)) H s'->(∃a,aaH a s.heap s'.heap/\(a=X.env.locals\/X.env.cells.lookup x=some a))->Q () s') (hf:X.fn x=true\/X.env.scope.names.lookup x=some .local:=by first | exact .inl rfl | exact .inr rfl | assumption):wpAny M A (storeName X.env x u) Q E s:=by
 obtain ⟨m,hn,hl⟩:=id I.loc
 have hcls:(X.env.scope.kind == .class || (X.env.scope.kind == .module && X.env.locals != X.env.globals))=false:=by rw [I.ok.kind]; rfl
 have hiσ:i < σ.length:=by rw [I.len]; exact (List.getElem?_eq_some_iff.mp hi).1
 have xC:=I.xC
 have tracked:∀{a:Addr} {h':Heap},(∃o,s.heap.get? a=some o/\H a=none)->aaH a s.heap h'->fT X.prog X.w H h':=fun {a h'} ha hs b ob e=>by
   obtain ⟨_,_,rH⟩:=ha
   refine (I.hok b ob e).oE (fun c w' hc q=>(hs.2 c ?_).trans q) (fun _ q=>q) fun _ _ q=>q
   rintro rfl
   rcases hc with rfl | hc
   · rw [rH] at e; cases e
   · rw [rH] at hc; cases hc
 rcases hx with hk | hk
 · refine wpAny_storeName_local hk hn (fun h' hn' hs=>?_) hcls
   obtain ⟨oL,_,_,Xi,_⟩:=id hn
   refine h _ ⟨I.ok,I.os,I.bare,⟨fun b o e n hb hx=>?_,fun b o e n hb hx=>?_,I.base.free,fun b o e hx=>?_,I.base.tups,I.base.frzs,I.base.tbls⟩,⟨_,hn',fun j y v' e1 e2 e3=>?_⟩,fun y c e=>?_,I.free,I.freeC,fun p hp=>?_,tracked ⟨oL,Xi,I.free⟩ hs,by simpa using I.len⟩ ⟨_,hs,.inl rfl⟩
   · exact (hs.2 b (aay (aah (Z7 e) I.ok.above))).trans (I.base.keep b o e n hb hx)
   · obtain ⟨sl,e1⟩:=I.base.slot b o e n hb hx
     exact ⟨sl,(hs.2 b (aay (aah (Z7 e) I.ok.above))).trans e1⟩
   · obtain ⟨o',e1⟩:=I.base.there b o e hx
     exact ⟨o',(hs.2 b (aay (aah (Z7 e) I.ok.above))).trans e1⟩
   · by_cases hj:j=i
     · subst hj
       rw [hi] at e1; cases e1
       rw [abm hiσ] at e2
       cases e2
       exact ⟨u,r,.inl ⟨hk,by simp⟩⟩
     · rw [abV (Ne.symm hj)] at e2
       obtain ⟨u',r',q⟩:=hl j y v' e1 e2 e3
       refine ⟨u',r',?_⟩
       rcases q with ⟨k,e⟩ | ⟨k,c,e,z⟩
       · refine .inl ⟨k,?_⟩
         have:y≠x:=fun e=>hj (rX hN e1 (e ▸ hi))
         simp [this,e]
       · exact .inr ⟨k,c,e,z.sameBut hs (xC y c e)⟩
   · obtain ⟨w',z⟩:=I.cell y c e
     exact ⟨w',z.sameBut hs (xC y c e)⟩
   · obtain ⟨e,n,ne,nf,d⟩:=I.pin p hp
     exact ⟨(hs.2 p.1 ne).trans e,n,ne,nf,d⟩
 · have Ln:X.fn x=true:=by
     rcases hf with z | z
     · exact z
     · rw [z] at hk; cases hk
   obtain ⟨c,hc⟩:=I.ok.has x (.inl hk)
   obtain ⟨w',z⟩:=I.cell x c hc
   refine wpAny_storeName_cell I.ok.kind hk hc z (fun h' dG hs=>?_)
   obtain ⟨oc,Kf,Qc⟩:=id z
   refine h { s with heap:=h' } ⟨I.ok,I.os,I.bare,⟨fun b o e n hb hx=>?_,fun b o e n hb hx=>?_,I.base.free,fun b o e hx=>?_,I.base.tups,I.base.frzs,I.base.tbls⟩,⟨m,hn.sameBut hs (Ne.symm (xC x c hc)),fun j y v' e1 e2 e3=>?_⟩,fun y c' e=>?_,I.free,I.freeC,fun p hp=>?_,tracked ⟨oc,Kf,I.freeC x c hc⟩ hs,by simpa using I.len⟩ ⟨c,hs,.inr hc⟩
   · exact (hs.2 b (aay (aah (Z7 e) (I.ok.cab x c Ln hc)))).trans (I.base.keep b o e n hb hx)
   · obtain ⟨sl,e1⟩:=I.base.slot b o e n hb hx
     exact ⟨sl,(hs.2 b (aay (aah (Z7 e) (I.ok.cab x c Ln hc)))).trans e1⟩
   · obtain ⟨o',e1⟩:=I.base.there b o e hx
     exact ⟨o',(hs.2 b (aay (aah (Z7 e) (I.ok.cab x c Ln hc)))).trans e1⟩
   · by_cases hj:j=i
     · subst hj
       rw [hi] at e1; cases e1
       rw [abm hiσ] at e2
       cases e2
       exact ⟨u,r,.inr ⟨.inl hk,c,hc,dG⟩⟩
     · rw [abV (Ne.symm hj)] at e2
       obtain ⟨u',r',q⟩:=hl j y v' e1 e2 e3
       refine ⟨u',r',?_⟩
       rcases q with q | ⟨k,c',e,z'⟩
       · exact .inl q
       · refine .inr ⟨k,c',e,z'.sameBut hs ?_⟩
         rintro rfl
         exact hj (rX hN e1 (I.ok.inj _ _ _ e hc ▸ hi))
   · by_cases DG:c'=c
     · subst DG; exact ⟨_,dG⟩
     · obtain ⟨w2,z2⟩:=I.cell y c' e
       exact ⟨w2,z2.sameBut hs DG⟩
   · obtain ⟨e,n,ne,nf,d⟩:=I.pin p hp
     refine ⟨(hs.2 p.1 ?_).trans e,n,ne,nf,d⟩
     intro q
     rw [q,Kf] at e
     have q':oc=p.2:=aap e
     exact d w' (by rw [← q']; exact Qc)
theorem gJ {M:Model}{A:Around}{E:Value->Shared->Prop}{i:Nat}{x:Str}{v:V}{u:Value}{Q:Unit->Shared->Prop}(I:Inv X pins σ H s)(hN:X.N.Nodup)(hi:X.N[i]? = some x)(hx:Loc X.env.scope x)(r:RelV v u)
   (h:∀s',Inv X pins (σ.set i (some v)) H s'->Q () s') (hf:X.fn x=true\/X.env.scope.names.lookup x=some .local:=by first | exact .inl rfl | exact .inr rfl | assumption):wpAny M A (storeName X.env x u) Q E s:=
 pD I hN hi hx r (fun s' I' _=>h s' I') hf
theorem Inv.Fv {s':Shared}{ch:List Addr}(I:Inv X pins σ H s)(ho:s'.os=s.os)(u:Un (jg X.stack) ch H H' s.heap s'.heap)(hok:fT X.prog X.w H' s'.heap)(hg:AllBare s'.gens)
   (hch:∀b∈ch,(b∈X.ex\/X.s₀.heap.objs.size<=b)/\b≠X.env.locals/\(∀x c,X.env.cells.lookup x=some c->c≠b)/\∀p∈X.pn++pins,p.1≠b):Inv X pins σ H' s':=by
 obtain ⟨h',g',d',t',o'⟩:=s'
 have e:o'=s.os:=ho
 subst e
 exact I.call (g':=g') (t':=t') (d':=d') u hok hg hch
end
abbrev XK:=Value->Option Addr->Hp->Prop
abbrev St:=List (Option V)
abbrev VK:=V->Hp->Prop
abbrev TE:=St->Hp->VK->Prop
abbrev TT:=St->Hp->(Bool->Hp->Prop)->Prop
abbrev TA:=St->Hp->(List V->Hp->Prop)->Prop
structure Ends where
 nx:St->Hp->Prop
 rt:VK
 bk:St->Hp->Prop:=fun _ _=>False
 ct:St->Hp->Prop:=fun _ _=>False
abbrev TS:=Ends->St->Hp->Prop
def EP (X:Cx)(pins:List (Addr×Obj))(σ:St)(Q:VK)(u:Value)(s':Shared):Prop:=∃v H',Inv X pins σ H' s'/\RelV v u/\Q v H'
def TP (X:Cx)(pins:List (Addr×Obj))(σ:St)(Q:Bool->Hp->Prop)(b:Bool)(s':Shared):Prop:=∃H',Inv X pins σ H' s'/\Q b H'
def AP (X:Cx)(pins:List (Addr×Obj))(σ:St)(Q:List V->Hp->Prop)(us:List Value)(s':Shared):Prop:=∃vs H',Inv X pins σ H' s'/\Vals vs us/\Q vs H'
def SP (X:Cx)(pins:List (Addr×Obj))(D:Ends)(f:Flow)(s':Shared):Prop:=
 match f with
 | .next=>∃σ' H',Inv X pins σ' H' s'/\D.nx σ' H'
 | .brk=>∃σ' H',Inv X pins σ' H' s'/\D.bk σ' H'
 | .cont=>∃σ' H',Inv X pins σ' H' s'/\D.ct σ' H'
 | .ret u=>∃v σ' H',Inv X pins σ' H' s'/\RelV v u/\D.rt v H'
def PE (X:Cx)(e:Expr)(t:TE):Prop:=
 ∀(pins:List (Addr×Obj)) (s:Shared) (σ:St) (H:Hp) (Q:VK),Inv X pins σ H s->t σ H Q->wpAny (model X.prog X.w) X.A (eval e X.env) (EP X pins σ Q) X.xe s
def PT (X:Cx)(e:Expr)(t:TT):Prop:=
 ∀(pins:List (Addr×Obj)) (s:Shared) (σ:St) (H:Hp) (Q:Bool->Hp->Prop),Inv X pins σ H s->t σ H Q->wpAny (model X.prog X.w) X.A (isTrue e X.env (eval e X.env)) (TP X pins σ Q) X.xe s
def PW (X:Cx)(e:Expr)(t:TT):Prop:=
 ∀(whole:Sem Value) (pins:List (Addr×Obj)) (s:Shared) (σ:St) (H:Hp) (Q:Bool->Hp->Prop),Inv X pins σ H s->t σ H Q->wpAny (model X.prog X.w) X.A (isTrue e X.env whole) (TP X pins σ Q) X.xe s
theorem PW.pt {X:Cx}{e:Expr}{t:TT}(h:PW X e t):PT X e t:=h _
def PA (X:Cx)(es:List Expr)(t:TA):Prop:=
 ∀(pos:Pos) (pins:List (Addr×Obj)) (s:Shared) (σ:St) (H:Hp) (Q:List V->Hp->Prop),Inv X pins σ H s->t σ H Q->wpAny (model X.prog X.w) X.A (spliced (backTo pos (starEach es X.env))) (AP X pins σ Q) X.xe s
def PS (X:Cx)(st:Stmt)(t:TS):Prop:=
 ∀(pins:List (Addr×Obj)) (s:Shared) (σ:St) (H:Hp) (D:Ends),Inv X pins σ H s->t D σ H->wpAny (model X.prog X.w) X.A (exec st X.env) (SP X pins D) X.xe s
def nY (X:Cx)(st:List Stmt)(t:TS):Prop:=
 ∀(pins:List (Addr×Obj)) (s:Shared) (σ:St) (H:Hp) (D:Ends),Inv X pins σ H s->t D σ H->wpAny (model X.prog X.w) X.A (execs st X.env) (SP X pins D) X.xe s
theorem bt {α:Type}{t:Sem α}{Q Q':α->Shared->Prop}{M:Model}{A:Around}{E:Value->Shared->Prop}{s:Shared}(h:wpAny M A t Q E s)(hQ:∀a s,Q a s->Q' a s):wpAny M A t Q' E s:=wpAny_mono h hQ fun _ _ x=>x
section
variable {X:Cx}
def Cv (i:Nat):TE:=fun σ H Q=>∃v,σ[i]? = some (some v)/\Q v H
def tC (v:V):TE:=fun _ H Q=>Q v H
theorem Je {i:Nat}{x:Str}{pos:Pos}(hN:X.N[i]? = some x)(hv:Nw X.env.scope x)(hd:(x == ("__debug__":Str))=false:=by decide)(hcd:(x == ("__classdict__":Str))=false:=by decide):PE X (.Name x pos) (Cv i):=by
 intro pins s σ H Q I h
 obtain ⟨v,e,h⟩:=h
 obtain ⟨m,hn,hl⟩:=I.loc
 obtain ⟨u,r,l⟩:=hl i x v hN e hv
 have fin:EP X pins σ Q u s:=⟨v,H,I,r,h⟩
 rcases l with ⟨hk,hm⟩ | ⟨hk,c,hc,FH⟩
 · exact wpAny_Name (wpAny_loadName_local I.ok.kind hk hn hm fin) hd
 · rcases hk with hk | hk
   · exact wpAny_Name (wpAny_loadName_cell I.ok.kind hk hc FH fin) hd
   · exact wpAny_Name (wpAny_loadName_free I.ok.kind hk hc FH fin hcd) hd
theorem IY {i j pos}:PE X (.Constant (.int i) j pos) (tC (.int i)):=fun _ _ _ H _ I h=>wpAny_Constant_int ⟨.int i,H,I.tok _,⟨_,rfl⟩,h⟩
theorem Ml {b j pos}:PE X (.Constant (.bool b) j pos) (tC (.bl b)):=fun _ _ _ H _ I h=>Constant_bool ⟨.bl b,H,I,rfl,h⟩
theorem I9 {j pos}:PE X (.Constant .none j pos) (tC .bN):=fun _ _ _ H _ I h=>Constant_none ⟨.bN,H,I,rfl,h⟩
theorem BI {x j pos}:PE X (.Constant (.str x) j pos) (tC (.str x)):=fun _ _ _ H _ I h=>Calls.Constant_str ⟨.str x,H,I.tok _,⟨_,rfl⟩,h⟩
def Gl (X:Cx)(x:Str):Prop:=X.env.kindOf x=some .globalImplicit
theorem jD {E:Value->Shared->Prop}{pins:List (Addr×Obj)}{s:Shared}{σ:St}{H:Hp}{x:Str}{u:Value}{pos:Pos}{Q:Value->Shared->Prop}(I:Inv X pins σ H s)(hg:Gl X x)(hm:X.mg x=some u)(h:Q u s)
   (hd:(x == ("__debug__":Str))=false:=by decide):wpAny (model X.prog X.w) X.A (eval (.Name x pos) X.env) Q E s:=
 adf I.ok.kind hg (Calls.loadGlobal_global (by rw [I.ok.glob]; exact I.mod.glob.keeps I.bk) hm h) hd
theorem eN {E:Value->Shared->Prop}{pins:List (Addr×Obj)}{s:Shared}{σ:St}{H:Hp}{x:Str}{u:Value}{pos:Pos}{Q:Value->Shared->Prop}(I:Inv X pins σ H s)(hg:Gl X x)(hm:X.mg x=none)(hv:aaS x=some u)(h:Q u s)
   (hn:x≠"__name__":=by decide) (hd:(x == ("__debug__":Str))=false:=by decide):wpAny (model X.prog X.w) X.A (eval (.Name x pos) X.env) Q E s:=by
 obtain ⟨mb,h1,h2⟩:=I.mod.blt
 exact adf I.ok.kind hg (Calls.loadGlobal_builtin (by rw [I.ok.glob]; exact I.mod.glob.keeps I.bk) hm (by rw [I.ok.blt]; exact h1.keeps I.bk) ((h2 x hn).trans hv) h) hd
theorem EF {x:Str}{v:V}{u:Value}{pos:Pos}(hg:Gl X x)(hm:X.mg x=some u)(r:RelV v u)(hd:(x == ("__debug__":Str))=false:=by decide):PE X (.Name x pos) (tC v):=
 fun _ _ _ H _ I h=>jD I hg hm ⟨v,H,I,r,h⟩ hd
theorem Ez {x:Str}{v:V}{u:Value}{pos:Pos}(hg:Gl X x)(hm:X.mg x=none)(hv:aaS x=some u)(r:RelV v u)(hn:x≠"__name__":=by decide)(hd:(x == ("__debug__":Str))=false:=by decide):PE X (.Name x pos) (tC v):=
 fun _ _ _ H _ I h=>eN I hg hm hv ⟨v,H,I,r,h⟩ hn hd
variable {a b:Expr}{ta tb:TE}{pos:Pos}
def PC (X:Cx)(op:CmpOp)(a b:Expr)(t:TE):Prop:=
 ∀(pins:List (Addr×Obj)) (s:Shared) (σ:St) (H:Hp) (Q:VK),Inv X pins σ H s->t σ H Q ->
   wpAny (model X.prog X.w) X.A (eval a X.env) (fun v s₁=>wpAny (model X.prog X.w) X.A (eval b X.env) (fun u s₂=>wpAny (model X.prog X.w) X.A (compareOp op v u) (EP X pins σ Q) X.xe s₂) X.xe s₁) X.xe s
def tB (t:TE):TT:=fun σ H Q=>t σ H fun x H1=>∃c,x=.bl c/\Q c H1
theorem IW {op:CmpOp}{t:TE}(h:PC X op a b t)(h1:abe op b=false:=by first | exact nk _ (by decide) (by decide) | rfl):PE X (.Compare a [op] [b] pos) t:=fun pins s σ H Q I hw=>wpAny_Compare1 (h pins s σ H Q I hw) h1
theorem Jt {op:CmpOp}{t:TE}(h:PC X op a b t)(h1:abe op b=false:=by first | exact nk _ (by decide) (by decide) | rfl):PT X (.Compare a [op] [b] pos) (tB t):=by
 intro pins s σ H Q I hw
 refine wpAny_isTrue_Compare1 (bt (h pins s σ H _ I hw) fun v s1 h1=>bt h1 fun u s2 h2=>bt h2 fun c s3 ⟨x,H1,I1,r1,q1⟩=>?_) h1
 obtain ⟨d,rfl,q⟩:=q1
 cases r1
 exact wpAny_truthy_bool ⟨H1,I1,q⟩
theorem Jv {e:Expr}{t:TE}(h:PE X e t)(he:∀whole,isTrue e X.env whole=(do let v ← whole; standAt e.pos; holding [v] (truthy v)):=by intro _; rfl):PT X e (tB t):=by
 intro pins s σ H Q I hw
 refine isTrue_plain (bt (h pins s σ H _ I hw) fun v s1 ⟨x,H1,I1,r1,q1⟩=>?_) (he _)
 obtain ⟨d,rfl,q⟩:=q1
 cases r1
 exact wpAny_truthy_bool ⟨H1,I1,q⟩
variable {tA Ol:TT}{rest:List Expr}
def M4 (t u:TT):TT:=fun σ H Q=>t σ H fun c H1=>if c=true then u σ H1 Q else Q false H1
def UC (t u:TT):TT:=fun σ H Q=>t σ H fun c H1=>if c=true then Q true H1 else u σ H1 Q
def M8 (t:TT):TT:=fun σ H Q=>t σ H fun c H1=>Q (!c) H1
theorem EX (ha:PT X a tA):PW X (.BoolOp .And [a] pos) tA:=by
 intro wh pins s σ H Q I h
 refine isTrue_and (bt (ha pins s σ H Q I h) fun c s1 e=>?_)
 cases c with
 | true=>exact isTrue_and_nil e
 | false=>exact e
theorem Jx (ha:PT X a tA):PW X (.BoolOp .Or [a] pos) tA:=by
 intro wh pins s σ H Q I h
 refine isTrue_or (bt (ha pins s σ H Q I h) fun c s1 e=>?_)
 cases c with
 | false=>exact isTrue_or_nil e
 | true=>exact e
theorem Jw (ha:PT X a tA)(hb:PW X (.BoolOp .And (b :: rest) pos) Ol):PW X (.BoolOp .And (a :: b :: rest) pos) (M4 tA Ol):=by
 intro wh pins s σ H Q I h
 refine isTrue_and (bt (ha pins s σ H _ I h) fun c s1 ⟨H1,I1,q1⟩=>?_)
 cases c with
 | true=>exact hb wh pins s1 σ H1 Q I1 q1
 | false=>exact ⟨H1,I1,q1⟩
theorem Mv (ha:PT X a tA)(hb:PW X (.BoolOp .Or (b :: rest) pos) Ol):PW X (.BoolOp .Or (a :: b :: rest) pos) (UC tA Ol):=by
 intro wh pins s σ H Q I h
 refine isTrue_or (bt (ha pins s σ H _ I h) fun c s1 ⟨H1,I1,q1⟩=>?_)
 cases c with
 | true=>exact ⟨H1,I1,q1⟩
 | false=>exact hb wh pins s1 σ H1 Q I1 q1
theorem Ju (ha:PT X a tA):PT X (.UnaryOp .Not a pos) (M8 tA):=by
 intro pins s σ H Q I h
 exact isTrue_not (ha pins s σ H (fun c H1=>Q (!c) H1) I h)
def Gq (ta tb:TE):TE:=fun σ H Q=>ta σ H fun x H1=>∃c,x=.bl c/\if c=true then tb σ H1 Q else Q (.bl false) H1
def Gy (ta:TE):TE:=fun σ H Q=>ta σ H fun x H1=>∃c,x=.bl c/\Q (.bl (!c)) H1
theorem Jb {op}{t:TE}(h:PE X a t):PE X (.BoolOp op [a] pos) t:=fun pins s σ H Q I hw=>BoolOp_one (h pins s σ H Q I hw)
theorem IV (ha:PE X a ta)(hb:PE X (.BoolOp .And (b :: rest) pos) tb):PE X (.BoolOp .And (a :: b :: rest) pos) (Gq ta tb):=by
 intro pins s σ H Q I h
 refine BoolOp_and (bt (ha pins s σ H _ I h) fun v s1 ⟨x,H1,I1,r1,q1⟩=>?_)
 obtain ⟨c,rfl,q1⟩:=q1
 cases r1
 refine wpAny_truthy_bool ?_
 cases c with
 | true=>exact hb pins s1 σ H1 Q I1 q1
 | false=>exact ⟨.bl false,H1,I1,rfl,q1⟩
theorem Ja (ha:PE X a ta):PE X (.UnaryOp .Not a pos) (Gy ta):=by
 intro pins s σ H Q I h
 refine UnaryOp_ (bt (ha pins s σ H _ I h) fun v s1 ⟨x,H1,I1,r1,q1⟩=>?_)
 obtain ⟨c,rfl,q1⟩:=q1
 cases r1
 exact not_of (wpAny_truthy_bool ⟨.bl (!c),H1,I1,rfl,q1⟩)
def UB (t:TT)(ta tb:TE):TE:=fun σ H Q=>t σ H fun c H1=>if c=true then ta σ H1 Q else tb σ H1 Q
theorem BH {c:Expr}(hc:PT X c tA)(ha:PE X a ta)(hb:PE X b tb):PE X (.IfExp c a b pos) (UB tA ta tb):=by
 intro pins s σ H Q I h
 refine wpAny_IfExp (bt (hc pins s σ H _ I h) fun d s1 ⟨H1,I1,q1⟩=>?_)
 cases d with
 | true=>exact ha pins s1 σ H1 Q I1 q1
 | false=>exact hb pins s1 σ H1 Q I1 q1
end
def ao (K:ZY)(H:Hp)(a:Addr)(xs:List V):Prop:=
 Rd H a (.lst xs) \/
   ∃(o:Obj) (its:Array Value) (n:Nat),K.lookup a=some o/\o.cls=.type "list"/\o.dict=none/\o.data=.seq its n/\its.size<=sizeLine/\Vals xs its.toList
def aK (K:ZY)(H:Hp)(a:Addr)(xs:List V):Prop:=
 Rd H a (.tup xs) \/
   ∃(o:Obj) (its:Array Value) (n:Nat),K.lookup a=some o/\o.cls=.type "tuple"/\o.data=.seq its n/\its.size<=sizeLine/\Vals xs its.toList
def OI:Value->Option V
 | .none=>some .bN
 | .bool b=>some (.bl b)
 | .int i _=>some (.int i)
 | .str x _=>some (.str x)
 | .bytes b _=>some (.byt b)
 | .float b _=>some (.flt b)
 | .ref a=>some (.ref a)
 | .type n=>some (.ty n)
 | _=>none
theorem RelV.abs {x:V}{u:Value}(r:RelV x u):OI u=some x:=by
 cases x with
 | bN=>cases r; rfl
 | bl _=>cases r; rfl
 | int _=>obtain ⟨t,rfl⟩:=r; rfl
 | str _=>obtain ⟨t,rfl⟩:=r; rfl
 | byt _=>obtain ⟨t,rfl⟩:=r; rfl
 | flt _=>obtain ⟨t,rfl⟩:=r; rfl
 | ref _=>cases r; rfl
 | ty _=>cases r; rfl
theorem RelV.inj {x y:V}{u:Value}(r:RelV x u)(q:RelV y u):x=y:=aap (r.abs.symm.trans q.abs)
theorem Vals.inj:∀{xs ys:List V} {us:List Value},Vals xs us->Vals ys us->xs=ys
 | _,_,_,.nil,.nil=>rfl
 | _,_,_,.cons r t,.cons r' t'=>by rw [r.inj r',Vals.inj t t']
section
variable {X:Cx}{pins:List (Addr×Obj)}{σ:St}{H:Hp}{s:Shared}{a:Addr}{xs ys:List V}
theorem ao.of {K:ZY}(h:H a=some (.lst xs)):ao K H a xs:=.inl (.inl h)
theorem aK.of {K:ZY}(h:H a=some (.tup xs)):aK K H a xs:=.inl (.inl h)
theorem Inv.list (I:Inv X pins σ H s)(h:ao X.K H a xs):∃its:List Value,Vals xs its/\PlainL s.heap a its.toArray/\xs.length<=sizeLine:=by
 rcases h with h | ⟨o,its,n,hk,hc,hd,hs,hz,r⟩
 · obtain ⟨z,its,n,r,e⟩:=h.ok I.hok
   exact ⟨its,r,⟨_,n,e,rfl,rfl,rfl⟩,z⟩
 · refine ⟨its.toList,r,⟨o,n,I.lV a o hk,hc,hd,by simpa using hs⟩,?_⟩
   have e:=r.length
   simp only [abj] at e
   omega
theorem Inv.tuple (I:Inv X pins σ H s)(h:aK X.K H a xs):∃its:List Value,Vals xs its/\IsTup s.heap a its.toArray/\xs.length<=sizeLine:=by
 rcases h with h | ⟨o,its,n,hk,hc,hs,hz,r⟩
 · obtain ⟨z,its,r,p⟩:=h.ok I.hok
   exact ⟨its,r,p,z⟩
 · refine ⟨its.toList,r,⟨o,I.lV a o hk,hc,n,by simpa using hs⟩,?_⟩
   have e:=r.length
   simp only [abj] at e
   omega
theorem Inv.gh (I:Inv X pins σ H s)(h:ao X.K H a xs)(h':ao X.K H a ys):xs=ys:=by
 obtain ⟨its,r,⟨o,n,e,_,_,d⟩,_⟩:=I.list h
 obtain ⟨its',r',⟨o',n',e',_,_,d'⟩,_⟩:=I.list h'
 rw [e] at e'; cases e'
 rw [d] at d'
 injection d' with d1 _
 have:its=its':=by simpa using congrArg Array.toList d1
 subst this
 exact r.inj r'
theorem Inv.zf (I:Inv X pins σ H s)(h:aK X.K H a xs)(h':aK X.K H a ys):xs=ys:=by
 obtain ⟨its,r,⟨o,e,_,n,d⟩,_⟩:=I.tuple h
 obtain ⟨its',r',⟨o',e',_,n',d'⟩,_⟩:=I.tuple h'
 rw [e] at e'; cases e'
 rw [d] at d'
 injection d' with d1 _
 have:its=its':=by simpa using congrArg Array.toList d1
 subst this
 exact r.inj r'
end
abbrev Cx.oG (X:Cx)(E:Value->Shared->Prop):Cx:={ X with xe:=E }
abbrev Cx.Km (X:Cx):Cx:=X.oG fun _ _=>False
theorem Cx.Ok.oG {X:Cx}(ok:X.Ok)(E:Value->Shared->Prop):(X.oG E).Ok:=
 ⟨ok.mod,ok.kind,ok.glob,ok.blt,ok.above,ok.inj,ok.has,ok.cab,ok.hd,ok.frames,ok.stk,ok.exf,ok.bs,ok.bsz,ok.noex,ok.exfs,ok.hU,ok.frf⟩
theorem Cx.Ok.gL {X:Cx}{E:Value->Shared->Prop}(ok:(X.oG E).Ok):X.Ok:=
 ⟨ok.mod,ok.kind,ok.glob,ok.blt,ok.above,ok.inj,ok.has,ok.cab,ok.hd,ok.frames,ok.stk,ok.exf,ok.bs,ok.bsz,ok.noex,ok.exfs,ok.hU,ok.frf⟩
section
variable {X:Cx}{pins:List (Addr×Obj)}{σ:St}{H:Hp}{s:Shared}{E:Value->Shared->Prop}
theorem Inv.oG (I:Inv X pins σ H s)(E:Value->Shared->Prop):Inv (X.oG E) pins σ H s:=⟨I.ok.oG E,I.os,I.bare,I.base,I.loc,I.cell,I.free,I.freeC,I.pin,I.hok,I.len⟩
theorem Inv.gL (I:Inv (X.oG E) pins σ H s):Inv X pins σ H s:=⟨I.ok.gL,I.os,I.bare,I.base,I.loc,I.cell,I.free,I.freeC,I.pin,I.hok,I.len⟩
theorem SP.gL {D:Ends}{f:Flow}{s':Shared}(h:SP (X.oG E) pins D f s'):SP X pins D f s':=by
 cases f with
 | next=>obtain ⟨σ',H',I,q⟩:=h; exact ⟨σ',H',I.gL,q⟩
 | brk=>obtain ⟨σ',H',I,q⟩:=h; exact ⟨σ',H',I.gL,q⟩
 | cont=>obtain ⟨σ',H',I,q⟩:=h; exact ⟨σ',H',I.gL,q⟩
 | ret u=>obtain ⟨v,σ',H',I,r,q⟩:=h; exact ⟨v,σ',H',I.gL,r,q⟩
theorem nY.Km {st:List Stmt}{t:TS}(h:nY X.Km st t):nY X st t:=fun pins s σ H D I hw=>
 wpAny_mono (h pins s σ H D (I.oG _) hw) (fun _ _ q=>q.gL) fun _ _ z=>abd z
end
section
variable {X:Cx}{st:Stmt}{rest:List Stmt}{t u:TS}{e:Expr}{te:TE}{pos:Pos}
def Gx:TS:=fun D σ H=>D.nx σ H
def Nb (t u:TS):TS:=fun D σ H=>t { D with nx:=u D } σ H
theorem EU:nY X [] Gx:=fun _ _ σ H _ I h=>ab9 ⟨σ,H,I,h⟩
theorem BP (h1:PS X st t)(h2:nY X rest u):nY X (st :: rest) (Nb t u):=by
 intro pins s σ H D I h
 refine wpAny_execs_cons (bt (h1 pins s σ H { D with nx:=u D } I h) fun f s1 q=>?_)
 cases f with
 | next=>
   obtain ⟨σ',H',I',q⟩:=q
   exact h2 pins s1 σ' H' D I' q
 | ret v=>exact q
 | brk=>exact q
 | cont=>exact q
theorem EV (h1:PS X st t):nY X [st] t:=by
 intro pins s σ H D I h
 refine wpAny_execs_cons (bt (h1 pins s σ H D I h) fun f s1 q=>?_)
 cases f with
 | next=>exact ab9 q
 | ret v=>exact q
 | brk=>exact q
 | cont=>exact q
theorem Inv.quiet {pins:List (Addr×Obj)}{σ:St}{H:Hp}{s:Shared}(I:Inv X pins σ H s):interactive X.env=false:=by simp [interactive,I.ok.kind]
def Gv (te:TE):TS:=fun D σ H=>te σ H fun _ H1=>D.nx σ H1
theorem EN (he:PE X e te)(hs:abN e none pos.line X.env=pure false:=by rfl):PS X (.Expr e pos) (Gv te):=by
 intro pins s σ H D I h
 exact wpAny_Expr_any (bt (he pins s σ H _ I h) fun v s1 ⟨x,H1,I1,r1,q1⟩=>⟨σ,H1,I1,q1⟩) I.quiet hs
def M9 (te:TE):TS:=fun D σ H=>te σ H D.rt
theorem Jq (he:PE X e te):PS X (.Return (some e) pos) (M9 te):=by
 intro pins s σ H D I h
 exact wpAny_Return_some (bt (he pins s σ H _ I h) fun v s1 ⟨x,H1,I1,r1,q1⟩=>⟨x,σ,H1,I1,r1,q1⟩)
def M7 (c:TT)(t u:TS):TS:=fun D σ H=>c σ H fun b H1=>if b=true then t D σ H1 else u D σ H1
theorem Mt {c:Expr}{a b:List Stmt}{tc:TT}(hc:PT X c tc)(ha:nY X a t)(hb:nY X b u):PS X (.If c a b pos) (M7 tc t u):=by
 intro pins s σ H D I h
 refine wpAny_If (bt (hc pins s σ H _ I h) fun d s1 ⟨H1,I1,q1⟩=>?_)
 cases d with
 | true=>exact ha pins s1 σ H1 D I1 q1
 | false=>exact hb pins s1 σ H1 D I1 q1
def Ct:TS:=fun _ _ _=>False
theorem y4 {YT:List Stmt}:nY X YT Ct:=fun _ _ _ _ _ _ h=>h.elim
end
abbrev TG:=V->St->Hp->(St->Hp->Prop)->Prop
abbrev CK:=List V->St->Hp->(St->Hp->Prop)->Prop
def PG (X:Cx)(target:Expr)(t:TG):Prop:=
 ∀(pins:List (Addr×Obj)) (s:Shared) (σ:St) (H:Hp) (v:V) (u:Value) (Q:St->Hp->Prop),Inv X pins σ H s->RelV v u->t v σ H Q ->
   wpAny (model X.prog X.w) X.A (assign target X.env u) (fun _ s'=>∃σ' H',Inv X pins σ' H' s'/\Q σ' H') X.xe s
def KA (X:Cx)(ts:List Expr)(t:CK):Prop:=
 ∀(pins:List (Addr×Obj)) (s:Shared) (σ:St) (H:Hp) (vs:List V) (us:List Value) (Q:St->Hp->Prop),Inv X pins σ H s->Vals vs us->t vs σ H Q ->
   wpAny (model X.prog X.w) X.A (assignInOrder ((assignEach ts X.env).map (·.2)) us) (fun _ s'=>∃σ' H',Inv X pins σ' H' s'/\Q σ' H') X.xe s
abbrev GO:=V->V->V->Hp->(Hp->Prop)->Prop
def KC (X:Cx)(t:GO):Prop:=
 ∀(pins:List (Addr×Obj)) (s:Shared) (σ:St) (H:Hp) (o i v:V) (ov iv u:Value) (Q:Hp->Prop),Inv X pins σ H s->RelV o ov->RelV i iv->RelV v u->t o i v H Q ->
   wpAny (model X.prog X.w) X.A (setItem ov iv u) (fun _ s'=>∃H',Inv X pins σ H' s'/\Q H') X.xe s
section
variable {X:Cx}{pos:Pos}
def kU (i:Nat):TG:=fun v σ H Q=>Q (σ.set i (some v)) H
theorem EI {i:Nat}{x:Str}(hN:X.N.Nodup)(hi:X.N[i]? = some x)(hx:Loc X.env.scope x)(hf:X.fn x=true\/X.env.scope.names.lookup x=some .local:=by first | exact .inl rfl | exact .inr rfl | assumption):PG X (.Name x pos) (kU i):=by
 intro pins s σ H v u Q I r h
 exact wpAny_assign_Name (gJ I hN hi hx r (fun s' I'=>⟨_,H,I',h⟩) hf)
def K6:CK:=fun vs σ H Q=>vs=[]/\Q σ H
def FC (t:TG)(u:CK):CK:=fun vs σ H Q=>∃v r,vs=v :: r/\t v σ H fun σ' H'=>u r σ' H' Q
theorem EJ:KA X [] K6:=by
 intro pins s σ H vs us Q I r h
 obtain ⟨e,h⟩:=h
 subst e
 cases r
 exact assignInOrder_nil ⟨σ,H,I,h⟩
theorem BJ {e:Expr}{es:List Expr}{t:TG}{u:CK}(h1:PG X e t)(h2:KA X es u)
   (hs:(assignEach (e :: es) X.env).map (·.2)=assign e X.env :: (assignEach es X.env).map (·.2):=by rfl):KA X (e :: es) (FC t u):=by
 intro pins s σ H vs us Q I r h
 obtain ⟨v,vr,e1,h⟩:=h
 subst e1
 cases r with
 | cons r rr=>
   rw [hs]
   refine assignInOrder_cons (bt (h1 pins s σ H _ _ _ I r h) fun _ s1 ⟨σ1,H1,I1,q1⟩=>?_)
   exact h2 pins s1 σ1 H1 _ _ Q I1 rr q1
def K8 (K:ZY)(n:Nat)(t:CK):TG:=fun v σ H Q=>∃a xs,v=.ref a/\aK K H a xs/\xs.length=n/\t xs σ H Q
theorem Jj {es:List Expr}{k:Nat}{t:CK}{n:Nat}(hc:X.calm=true)(h:KA X es t)
   (hn:(assignEach es X.env).length=n:=by rfl) (hst:(assignEach es X.env).findIdx? (·.1)=none:=by rfl):PG X (.Tuple es k pos) (K8 X.K n t):=by
 intro pins s σ H v u Q I r hw
 obtain ⟨a,xs,e1,hq,hl,hw⟩:=hw
 subst e1
 cases r
 obtain ⟨its,rv,ht,hz⟩:=I.tuple hq
 refine assign_Tuple_tuple (I.ok.hd hc) ht (by simp [hn,← hl,rv.length]) hst fun h' hx=>?_
 have I1:Inv X pins σ H { s with heap:=h' }:=I.kept (t':=s.toks) fun b o e=>hx b o (aay (Z7 e)) e
 exact h pins _ σ H xs _ Q I1 (by simpa using rv) hw
def K7 (to ti:TE)(t:GO):TG:=fun v σ H Q=>to σ H fun o H1=>ti σ H1 fun i H2=>t o i v H2 fun H3=>Q σ H3
theorem Ji {o i:Expr}{to ti:TE}{t:GO}(ho:PE X o to)(hi:PE X i ti)(hs:KC X t)
   (ha:∀v,assign (.Subscript o i pos) X.env v=(do
     let ov ← holding [v] (eval o X.env)
     let iv ← holding [v,ov] (eval i X.env)
     standAt pos
     holding [v,ov,iv] (setItem ov iv v)
     release [v,ov,iv] []):=by intro _; rfl):PG X (.Subscript o i pos) (K7 to ti t):=by
 intro pins s σ H v u Q I r h
 rw [ha]
 refine wpAny_bind (wpAny_holding (bt (ho pins s σ H _ I h) fun ov s1 ⟨x,H1,I1,r1,q1⟩=>?_))
 refine wpAny_bind (wpAny_holding (bt (hi pins s1 σ H1 _ I1 q1) fun iv s2 ⟨y,H2,I2,r2,q2⟩=>?_))
 refine wpAny_bind (wpAny_standAt (wpAny_bind (wpAny_holding (bt (hs pins s2 σ H2 x y v ov iv u _ I2 r1 r2 r q2) fun _ s3 ⟨H3,I3,q3⟩=>?_))))
 exact wpAny_release ⟨σ,H3,I3,q3⟩
def vD (te:TE)(g:TG):TS:=fun D σ H=>te σ H fun x H1=>g x σ H1 D.nx
theorem Jo {tg e:Expr}{te:TE}{g:TG}(he:PE X e te)(hg:PG X tg g)(hs:ac6 [tg] e pos.line X.env=pure false:=by rfl)(hw:ac7 [tg] e X.env=pure none:=by rfl)
   (h1:(assignEach [tg] X.env).map (·.2)=[assign tg X.env]:=by rfl):PS X (.Assign [tg] e pos) (vD te g):=by
 intro pins s σ H D I h
 refine wpAny_Assign_stores (bt (he pins s σ H _ I h) fun v s1 ⟨x,H1,I1,r1,q1⟩=>?_) hs hw
 rw [h1]
 exact bt (hg pins s1 σ H1 x v _ I1 r1 q1) fun _ s2 q=>q
theorem Jr {i:Nat}{x:Str}{e:Expr}{te:TE}{pos':Pos}(hN:X.N.Nodup)(hi:X.N[i]? = some x)(hx:Loc X.env.scope x)(he:PE X e te)(hs:abN e (some (.Name x pos')) pos.line X.env=pure false:=by rfl)(hf:X.fn x=true\/X.env.scope.names.lookup x=some .local:=by first | exact .inl rfl | exact .inr rfl | assumption) :
   PS X (.Assign [.Name x pos'] e pos) (vD te (kU i)):=by
 intro pins s σ H D I h
 refine wpAny_Assign_Name (bt (he pins s σ H _ I h) fun v s1 ⟨y,H1,I1,r1,q1⟩=>?_) hs
 exact gJ I1 hN hi hx r1 (fun s2 I2=>⟨_,H1,I2,q1⟩) hf
end
section
variable {X:Cx}{pos:Pos}
def Cw (c:TT)(tb:TS):TS:=fun D σ H=>∃W:Nat->St->Hp->Prop,(∃m,W m σ H)/\∀m σ H,W m σ H ->
 c σ H fun b H1=>if b=true then ∃N:St->Hp->Prop,(∀σ' H',N σ' H'->∃m',m' < m/\W m' σ' H')/\tb { D with nx:=N,ct:=N,bk:=D.nx } σ H1 else D.nx σ H1
theorem BO {c:Expr}{body:List Stmt}{tc:TT}{tb:TS}(hp:PassesOwn (model X.prog X.w) X.A X.env X.xe)(hc:PT X c tc)(hb:nY X body tb):PS X (.While c body [] pos) (Cw tc tb):=by
 intro pins s σ H D I h
 obtain ⟨W,⟨m0,w0⟩,turn⟩:=h
 refine wpAny_While (codeAny_whileLoop (fun n s'=>∃σ' H',Inv X pins σ' H' s'/\W n σ' H') ?_ m0 ⟨σ,H,I,w0⟩)
 rintro n s1 ⟨σ1,H1,I1,w1⟩
 refine abz hp (bt (hc pins s1 σ1 H1 _ I1 (turn n σ1 H1 w1)) fun b s2 ⟨H2,I2,q2⟩=>?_)
 cases b with
 | true=>
   obtain ⟨N,hN,q2⟩:=q2
   rw [if_pos rfl]
   refine abz hp (bt (hb pins s2 σ1 H2 _ I2 q2) fun f s3 q3=>?_)
   cases f with
   | next=>
     obtain ⟨σ3,H3,I3,n3⟩:=q3
     obtain ⟨m',hm,w3⟩:=hN σ3 H3 n3
     exact ⟨m',hm,σ3,H3,I3,w3⟩
   | cont=>
     obtain ⟨σ3,H3,I3,n3⟩:=q3
     obtain ⟨m',hm,w3⟩:=hN σ3 H3 n3
     exact ⟨m',hm,σ3,H3,I3,w3⟩
   | brk=>exact q3
   | ret v=>exact q3
 | false=>
   rw [if_neg aag]
   exact ab9 ⟨σ1,H2,I2,q2⟩
end
structure It where
 go:Nat->Hp->Prop
 yld:Nat->Hp->V->Hp->Prop
 stop:Nat->Hp->Prop
def dI (X:Cx)(pins:List (Addr×Obj))(H:Hp)(b:Addr):Prop:=
 H b=none/\b≠X.env.locals/\b ∉ X.fs/\(b∈X.ex\/X.s₀.heap.objs.size<=b)/\(∀x c,X.env.cells.lookup x=some c->c≠b)/\∀p∈X.pn++pins,p.1≠b
theorem Inv.pQ {X:Cx}{pins:List (Addr×Obj)}{σ:St}{H H':Hp}{s:Shared}{b:Addr}(I:Inv X pins σ H s)(hb:s.heap.objs.size<=b)(hn:H' b=none):dI X pins H' b:=by
 refine ⟨hn,ab7 (aah I.lt hb),I.QX hb,.inr (Z8 I.sz hb),fun x c e z=>?_,fun p hp z=>?_⟩
 · obtain ⟨v,q⟩:=I.cell x c e
   exact absurd (aah q.lt (by rw [z]; exact hb)) (abx _)
 · exact absurd (aah (Z7 (I.pin p hp).1) (by rw [z]; exact hb)) (abx _)
structure Turn (P:Program)(w:World)(K:ZY)(tg:Expr)(J:It)(fp:List Addr)(it:Addr)(tn:Nat->Heap->Prop):Prop where
 mem:it∈fp
 obj:∀i h,tn i h->∀b∈fp,∃o,h.get? b=some o/\∀v,o.data≠.cell v
 keep:∀i h h',tn i h->(∀b∈fp,∀o,h.get? b=some o->h'.get? b=some o)->tn i h'
 item:∀(X:Cx),X.prog=P->X.w=w->X.K=K->X.calm=true->∀(i:Nat) (pins:List (Addr×Obj)) (s:Shared) (σ:St) (H:Hp) (E:Value->Shared->Prop),Inv X pins σ H s->(∀b∈fp,dI X pins H b)->tn i s.heap->J.go i H ->
   wpAny (model P w) X.A (pyNext (.ref it)) (fun r s1=>∃u,r=some u /\
     wpAny (model P w) X.A (letOwnedTupleGo tg (.ref it) u) (fun _ s2=>∃x H',Inv X pins σ H' s2/\RelV x u/\J.yld i H x H'/\tn (i + 1) s2.heap/\∀b∈fp,H' b=none) E s1) E s
 done:∀(X:Cx),X.prog=P->X.w=w->X.K=K->X.calm=true->∀(i:Nat) (pins:List (Addr×Obj)) (s:Shared) (σ:St) (H:Hp) (E:Value->Shared->Prop),Inv X pins σ H s->(∀b∈fp,dI X pins H b)->tn i s.heap->J.stop i H ->
   wpAny (model P w) X.A (pyNext (.ref it)) (fun r s1=>r=none/\Inv X pins σ H s1) E s
 self:∀(A:Around) (i:Nat) (s:Shared) (Q:Value->Shared->Prop) (E:Value->Shared->Prop),tn i s.heap->Q (.ref it) s->wpAny (model P w) A (pyIter (.ref it)) Q E s
abbrev TI:=St->Hp->(It->Hp->Prop)->Prop
def Sf (X:Cx)(pins:List (Addr×Obj))(σ:St)(tg:Expr)(R:It->Hp->Prop)(itv:Value)(s2:Shared):Prop:=
 ∃(it:Addr) (fp:List Addr) (tn:Nat->Heap->Prop) (J:It) (H':Hp),itv=.ref it/\Inv X pins σ H' s2/\Turn X.prog X.w X.K tg J fp it tn/\tn 0 s2.heap/\(∀b∈fp,dI X pins H' b)/\R J H'
def PI (X:Cx)(tg iter:Expr)(wi:TI):Prop:=
 ∀(pins:List (Addr×Obj)) (s:Shared) (σ:St) (H:Hp) (R:It->Hp->Prop),Inv X pins σ H s->wi σ H R ->
   wpAny (model X.prog X.w) X.A (eval iter X.env) (fun v s1=>wpAny (model X.prog X.w) X.A (pyIter v) (Sf X pins σ tg R) X.xe s1) X.xe s
theorem Ae {M:Model}{A:Around}{E:Value->Shared->Prop}{s:Shared}{tg:Expr}{it:Addr}{u:Value}{o:Obj}{n:String}{vs:Array Value}{Q:Unit->Shared->Prop}(ho:s.heap.get? it=some o)(hc:o.cls=.type n)(hd:o.data=.fields vs)
   (hn:["enumerate","zip","dict_itemiterator","dict_reverseitemiterator","odict_iterator","itertools.zip_longest","itertools.pairwise"].contains n=false) (hQ:Q () s):wpAny M A (letOwnedTupleGo tg (.ref it) u) Q E s:=by
 unfold letOwnedTupleGo
 cases tg <;> first
   | exact wpAny_pure hQ
   | (cases u <;> first
       | exact wpAny_pure hQ
       | (refine wpAny_bind (wpAny_load ho ?_)
          rw [hc,hd]
          show wpAny M A (if (["enumerate","zip","dict_itemiterator","dict_reverseitemiterator","odict_iterator","itertools.zip_longest","itertools.pairwise"].contains n && vs[0]? == some (rawInt _))=true then _ else _) Q E s
          rw [if_neg (by intro h; rw [hn,adt] at h; cases h)]
          exact wpAny_pure hQ))
def JZ (K:ZY)(a:Addr):It:=
 ⟨fun i H=>∃xs x,ao K H a xs/\xs[i]? = some x,fun i H x H'=>H'=H/\∀xs,ao K H a xs->xs[i]? = some x,fun i H=>∃xs,ao K H a xs/\xs.length<=i⟩
def J1 (K:ZY)(a:Addr):It:=
 ⟨fun i H=>∃xs x,aK K H a xs/\xs[i]? = some x,fun i H x H'=>H'=H/\∀xs,aK K H a xs->xs[i]? = some x,fun i H=>∃xs,aK K H a xs/\xs.length<=i⟩
def Fo (lo:Int)(n:Nat):It:=⟨fun i _=>i < n,fun i H x H'=>H'=H/\x=.int (lo + i),fun i _=>n<=i⟩
theorem zg {P:Program}{w:World}{K:ZY}{tg:Expr}(a it:Addr):Turn P w K tg (JZ K a) [it] it (fun i h=>h.IsListIter it a i) where
 mem:=by simp
 obj:=fun i h st b hb=>by
   have e:b=it:=by simpa using hb
   subst e
   obtain ⟨o,e,c,d⟩:=st
   exact ⟨o,e,fun v z=>by rw [d] at z; cases z⟩
 keep:=fun i h h' st k=>st.at fun o e=>k it (by simp) o e
 item:=by
   intro X hP hw hK hc i pins s σ H E I hf st hg
   subst hP hw hK
   obtain ⟨xs,x,hq,hx⟩:=hg
   obtain ⟨its,rv,p,hz⟩:=I.list hq
   obtain ⟨u,hu,ru⟩:=rv.get hx
   obtain ⟨f0,f1,f2,f3,f4,f5⟩:=hf it (by simp)
   refine wpAny_pyNext_list_item st p.isList (x:=u) (by simpa using hu) fun h' C0 sb=>?_
   have I1:Inv X pins σ H { s with heap:=h' }:=I.turned (t':=s.toks) (fun b o hb e=>(sb.2 b hb).trans e) f0 f1 f3 f4 f5
   obtain ⟨o,e,c,d⟩:=id C0
   exact ⟨u,rfl,Ae (s:={ s with heap:=h' }) e c d (by decide) ⟨x,H,I1,ru,⟨rfl,fun ys hy=>by rw [I.gh hy hq]; exact hx⟩,C0,fun b hb=>(hf b hb).1⟩⟩
 done:=by
   intro X hP hw hK hc i pins s σ H E I hf st hg
   subst hP hw hK
   obtain ⟨xs,hq,hx⟩:=hg
   obtain ⟨its,rv,p,hz⟩:=I.list hq
   obtain ⟨f0,f1,f2,f3,f4,f5⟩:=hf it (by simp)
   have hl:=rv.length
   exact wpAny_pyNext_list_end (I.ok.hd hc) st p.isList (by simp; omega) fun h' eb=>⟨rfl,I.turned (t':=s.toks) (fun b o hb e=>eb b o hb e) f0 f1 f3 f4 f5⟩
 self:=fun _ _ _ _ _ st h=>wpAny_pyIter_listiter st h
theorem vI {P:Program}{w:World}{K:ZY}{tg:Expr}(a it:Addr):Turn P w K tg (J1 K a) [it] it (fun i h=>h.IsTupleIter it a i) where
 mem:=by simp
 obj:=fun i h st b hb=>by
   have e:b=it:=by simpa using hb
   subst e
   obtain ⟨o,e,c,d⟩:=st
   exact ⟨o,e,fun v z=>by rw [d] at z; cases z⟩
 keep:=fun i h h' st k=>st.at fun o e=>k it (by simp) o e
 item:=by
   intro X hP hw hK hc i pins s σ H E I hf st hg
   subst hP hw hK
   obtain ⟨xs,x,hq,hx⟩:=hg
   obtain ⟨its,rv,p,hz⟩:=I.tuple hq
   obtain ⟨u,hu,ru⟩:=rv.get hx
   obtain ⟨f0,f1,f2,f3,f4,f5⟩:=hf it (by simp)
   refine wpAny_pyNext_tuple_item st (show s.heap.IsTuple a its.toArray from p) (x:=u) (by simpa using hu) fun h' C0 sb=>?_
   have I1:Inv X pins σ H { s with heap:=h' }:=I.turned (t':=s.toks) (fun b o hb e=>(sb.2 b hb).trans e) f0 f1 f3 f4 f5
   obtain ⟨o,e,c,d⟩:=id C0
   exact ⟨u,rfl,Ae (s:={ s with heap:=h' }) e c d (by decide) ⟨x,H,I1,ru,⟨rfl,fun ys hy=>by rw [I.zf hy hq]; exact hx⟩,C0,fun b hb=>(hf b hb).1⟩⟩
 done:=by
   intro X hP hw hK hc i pins s σ H E I hf st hg
   subst hP hw hK
   obtain ⟨xs,hq,hx⟩:=hg
   obtain ⟨its,rv,p,hz⟩:=I.tuple hq
   obtain ⟨f0,f1,f2,f3,f4,f5⟩:=hf it (by simp)
   have hl:=rv.length
   exact wpAny_pyNext_tuple_end (I.ok.hd hc) st (show s.heap.IsTuple a its.toArray from p) (by simp; omega) fun h' eb=>⟨rfl,I.turned (t':=s.toks) (fun b o hb e=>eb b o hb e) f0 f1 f3 f4 f5⟩
 self:=fun _ _ _ _ _ st h=>wpAny_pyIter_tupleiter st h
theorem vH {P:Program}{w:World}{K:ZY}{tg:Expr}(it:Addr)(lo:Int)(n:Nat):Turn P w K tg (Fo lo n) [it] it (fun i h=>IsRangeIter h it (lo + (i:Nat) * 1) ((n:Int) - (i:Nat)) 1) where
 mem:=by simp
 obj:=fun i h st b hb=>by
   have e:b=it:=by simpa using hb
   subst e
   exact ⟨_,st,fun v z=>by
     have z':Data.fields _=Data.cell v:=z
     cases z'⟩
 keep:=fun i h h' st k=>k it (by simp) _ st
 item:=by
   intro X hP hw hK hc i pins s σ H E I hf st hg
   subst hP hw hK
   obtain ⟨f0,f1,f2,f3,f4,f5⟩:=hf it (by simp)
   have W:=Walks.range (prog:=X.prog) (w:=X.w) (I.ok.hd hc) it lo 1 n
   refine W.item i s _ _ hg st fun v h' tk hv C0 kk=>?_
   obtain ⟨t,rfl⟩:=hv
   have I1:Inv X pins σ H { s with heap:=h',toks:=tk }:=I.turned (fun b o hb e=>kk b o (by simpa using hb) e) f0 f1 f3 f4 f5
   refine ⟨_,rfl,Ae (s:={ s with heap:=h',toks:=tk }) (n:="range_iterator") C0 rfl rfl (by decide) ⟨.int (lo + i),H,I1,⟨t,?_⟩,⟨rfl,rfl⟩,C0,fun b hb=>(hf b hb).1⟩⟩
   rw [Int.mul_one]
 done:=by
   intro X hP hw hK hc i pins s σ H E I hf st hg
   subst hP hw hK
   obtain ⟨f0,f1,f2,f3,f4,f5⟩:=hf it (by simp)
   exact wpAny_pyNext_range_end (I.ok.hd hc) st (by have:n<=i:=hg; omega) fun h' eb=>⟨rfl,I.turned (t':=s.toks) (fun b o hb e=>eb b o hb e) f0 f1 f3 f4 f5⟩
 self:=fun _ _ _ _ _ st h=>wpAny_pyIter_rangeiter st h
section
variable {X:Cx}{tg:Expr}
def FV (K:ZY)(tl:TE):TI:=fun σ H R=>tl σ H fun x H1=>∃a,x=.ref a/\(∃xs,ao K H1 a xs)/\R (JZ K a) H1
def LQ (K:ZY)(tl:TE):TI:=fun σ H R=>tl σ H fun x H1=>∃a,x=.ref a/\(∃xs,aK K H1 a xs)/\R (J1 K a) H1
theorem EK {l:Expr}{tl:TE}(hl:PE X l tl):PI X tg l (FV X.K tl):=by
 intro pins s σ H R I h
 refine bt (hl pins s σ H _ I h) fun v s1 ⟨x,H1,I1,r1,q1⟩=>?_
 obtain ⟨a,e,⟨xs,hq⟩,q⟩:=q1
 subst e
 cases r1
 obtain ⟨its,rv,p,hz⟩:=I1.list hq
 refine wpAny_pyIter_list p.isList ?_
 refine ⟨s1.heap.objs.size,[s1.heap.objs.size],_,_,H1,rfl,I1.kept (t':=s1.toks) fun b o e=>Z4 _ e,zg a _,⟨_,aas _ rfl,rfl,rfl⟩,fun b hb=>?_,q⟩
 have e:b=s1.heap.objs.size:=by simpa using hb
 subst e
 exact I1.pQ (Z3 _) (I1.hok.fresh (Z3 _))
theorem Jk {l:Expr}{tl:TE}(hl:PE X l tl):PI X tg l (LQ X.K tl):=by
 intro pins s σ H R I h
 refine bt (hl pins s σ H _ I h) fun v s1 ⟨x,H1,I1,r1,q1⟩=>?_
 obtain ⟨a,e,⟨xs,hq⟩,q⟩:=q1
 subst e
 cases r1
 obtain ⟨its,rv,p,hz⟩:=I1.tuple hq
 refine wpAny_pyIter_tuple (show s1.heap.IsTuple a its.toArray from p) ?_
 refine ⟨s1.heap.objs.size,[s1.heap.objs.size],_,_,H1,rfl,I1.kept (t':=s1.toks) fun b o e=>Z4 _ e,vI a _,⟨_,aas _ rfl,rfl,rfl⟩,fun b hb=>?_,q⟩
 have e:b=s1.heap.objs.size:=by simpa using hb
 subst e
 exact I1.pQ (Z3 _) (I1.hok.fresh (Z3 _))
theorem si {pins:List (Addr×Obj)}{σ:St}{H:Hp}{s:Shared}{R:It->Hp->Prop}{E:Value->Shared->Prop}{lo hi:Int}{t u v:Tok}{tk:Nat}(I:Inv X pins σ H s)(h1 : -(2 ^ 62)<=lo)(h2:lo < 2 ^ 62)(h3 : -(2 ^ 62)<=hi)(h4:hi < 2 ^ 62)
   (q:R (Fo lo (hi - lo).toNat) H):wpAny (model X.prog X.w) X.A (pyIter (.ref s.heap.objs.size)) (Sf X pins σ tg R) E { s with heap:=s.heap.push { cls:=.type "range",data:=.fields #[.int lo t,.int hi u,.int 1 v] },toks:=tk }:=by
 refine wpAny_pyIter_range (IsRange.new ..) (small_one h1 h2 h3 h4) ?_
 have I1:Inv X pins σ H { s with heap:=s.heap.push { cls:=.type "range",data:=.fields #[.int lo t,.int hi u,.int 1 v] },toks:=tk }:=I.kept fun b o e=>Z4 _ e
 refine ⟨(s.heap.push { cls:=.type "range",data:=.fields #[.int lo t,.int hi u,.int 1 v] }).objs.size,[(s.heap.push { cls:=.type "range",data:=.fields #[.int lo t,.int hi u,.int 1 v] }).objs.size],_,_,H,rfl,
   I1.kept (t':=tk) fun b o e=>Z4 _ e,vH _ lo (hi - lo).toNat,?_,fun b hb=>?_,q⟩
 · have e1:lo + ((0:Nat):Int) * 1=lo:=by simp
   have e2:(((hi - lo).toNat:Nat):Int) - ((0:Nat):Int)=Builtin.Range.rangeSize lo hi 1:=by rw [rangeSize_one]; split <;> omega
   show IsRangeIter _ _ (lo + ((0:Nat):Int) * 1) ((((hi - lo).toNat:Nat):Int) - ((0:Nat):Int)) 1
   rw [e1,e2]
   exact aas _ rfl
 · have e:b=(s.heap.push { cls:=.type "range",data:=.fields #[.int lo t,.int hi u,.int 1 v] }).objs.size:=by simpa using hb
   subst e
   exact I1.pQ (Z3 _) (I1.hok.fresh (Z3 _))
def AU (ta:TA):TI:=fun σ H R=>ta σ H fun vs H1=>∃j:Int,vs=[.int j] /\ -(2 ^ 62)<=j/\j < 2 ^ 62/\R (Fo 0 j.toNat) H1
def FW (ta:TA):TI:=fun σ H R=>ta σ H fun vs H1=>∃i j:Int,vs=[.int i,.int j]/\(-(2 ^ 62)<=i/\i < 2 ^ 62 /\ -(2 ^ 62)<=j/\j < 2 ^ 62)/\R (Fo i (j - i).toNat) H1
theorem yX {a:Expr}{ta:TA}{p pos:Pos}(hg:Gl X "range")(hm:X.mg "range"=none)(ha:PA X [a] ta)(hs:starEach [a] X.env=[(false,eval a X.env)]:=by rfl):PI X tg (.Call (.Name "range" p) [a] [] pos) (AU ta):=by
 intro pins s σ H R I h
 refine Call_ (eN I hg hm boot_range (aaE (bt (ha pos pins s σ H _ I h) fun us s1 ⟨vs,H1,I1,r1,q1⟩=>?_) hs rfl))
 obtain ⟨j,e,q1,q2,q⟩:=q1
 subst e
 cases r1 with
 | cons r rr=>
   cases rr
   obtain ⟨t,rfl⟩:=r
   exact call_range_1 (si I1 (by omega) (by omega) q1 q2 (by simpa using q))
theorem yY {a b:Expr}{ta:TA}{p pos:Pos}(hg:Gl X "range")(hm:X.mg "range"=none)(ha:PA X [a,b] ta)(hs:starEach [a,b] X.env=[(false,eval a X.env),(false,eval b X.env)]:=by rfl)(hs2:starEach [b] X.env=[(false,eval b X.env)]:=by rfl) :
   PI X tg (.Call (.Name "range" p) [a,b] [] pos) (FW ta):=by
 intro pins s σ H R I h
 refine Call_ (eN I hg hm boot_range (aaE (bt (ha pos pins s σ H _ I h) fun us s1 ⟨vs,H1,I1,r1,q1⟩=>?_) (by rw [hs,hs2]) (by rw [hs2]; rfl)))
 obtain ⟨i,j,e,⟨q1,q2,q3,q4⟩,q⟩:=q1
 subst e
 cases r1 with
 | cons r rr=>
   cases rr with
   | cons r' rr=>
     cases rr
     obtain ⟨t,rfl⟩:=r
     obtain ⟨t',rfl⟩:=r'
     exact call_range_2 (si I1 q1 q2 q3 q4 q)
def M6 (wi:TI)(g:TG)(tb:TS):TS:=fun D σ H=>wi σ H fun J H1=>∃W:Nat->Nat->St->Hp->Prop,(∃m,W 0 m σ H1)/\∀i m σ H,W i m σ H ->
 (J.stop i H/\D.nx σ H)\/(J.go i H/\∃N:St->Hp->Prop,(∀σ' H',N σ' H'->∃m',m' < m/\W (i + 1) m' σ' H')/\∀x H',J.yld i H x H'->g x σ H' fun σ2 H2=>tb { D with nx:=N,ct:=N,bk:=D.nx } σ2 H2)
def nA (fp:List Addr)(h:Heap):List (Addr×Obj):=fp.filterMap fun b=>(h.get? b).map fun o=>(b,o)
theorem fq {fp:List Addr}{h:Heap}{b:Addr}{o:Obj}(hb:b∈fp)(e:h.get? b=some o):(b,o)∈nA fp h:=List.mem_filterMap.mpr ⟨b,hb,by rw [e]; rfl⟩
theorem yH {fp:List Addr}{h:Heap}{p:Addr×Obj}(hp:p∈nA fp h):p.1∈fp/\h.get? p.1=some p.2:=by
 obtain ⟨b,hb,e⟩:=List.mem_filterMap.mp hp
 cases q:h.get? b with
 | none=>rw [q] at e; cases e
 | some o=>
   rw [q] at e
   have e':(b,o)=p:=aap e
   subst e'
   exact ⟨hb,q⟩
theorem Inv.pinned {pins:List (Addr×Obj)}{σ:St}{H:Hp}{s:Shared}{fp:List Addr}(I:Inv X pins σ H s)(hf:∀b∈fp,dI X pins H b)(ho:∀b∈fp,∃o,s.heap.get? b=some o/\∀v,o.data≠.cell v):Inv X (pins++nA fp s.heap) σ H s:=
 I.wJ fun p hp=>(List.mem_append.mp hp).elim (fun z=>I.pin p (aaD _ z)) fun z=>by
   obtain ⟨hb,e⟩:=yH z
   obtain ⟨f0,f1,f2,_⟩:=hf p.1 hb
   obtain ⟨o,e',d⟩:=ho p.1 hb
   rw [e] at e'; cases e'
   exact ⟨e,f0,f1,f2,d⟩
theorem Inv.kg {pins pl:List (Addr×Obj)}{σ:St}{H:Hp}{s:Shared}(I:Inv X (pins++pl) σ H s):Inv X pins σ H s:=I.wJ fun p hp=>I.pin p (aaD _ (aby _ hp))
theorem Jp {iter:Expr}{body:List Stmt}{wi:TI}{g:TG}{tb:TS}{pos:Pos}(hp:PassesOwn (model X.prog X.w) X.A X.env X.xe)(hc:X.calm=true)(hi:PI X tg iter wi)(hg:PG X tg g)(hb:nY X body tb)
   (hs:∀x,aaP iter X.env x=pure x:=by intro _; rfl):PS X (.For tg iter body [] pos) (M6 wi g tb):=by
 intro pins s σ H D I h
 refine wpAny_For (bt (hi pins s σ H _ I h) fun v s1 h1=>bt h1 fun itv s2 h2=>?_) hs
 obtain ⟨it,fp,tn,J,H2,e,I2,T,Og,f2,W,⟨m0,w0⟩,turn⟩:=h2
 subst e
 have stat:∀{H':Hp},(∀b∈fp,H' b=none)->∀b∈fp,dI X pins H' b:=fun hn b hb=>⟨hn b hb,(f2 b hb).2⟩
 refine codeAny_forLoop_any (fun n s'=>∃i σ' H',Inv X pins σ' H' s'/\tn i s'.heap/\(∀b∈fp,H' b=none)/\W i n σ' H') ?_ m0 ⟨0,σ,H2,I2,Og,fun b hb=>(f2 b hb).1,w0⟩
 rintro n s3 ⟨i,σ3,H3,I3,Cn,Kb,w3⟩
 rcases turn i n σ3 H3 w3 with ⟨stop,qn⟩ | ⟨go,N,hN,step⟩
 · refine abz hp (bt (T.done X rfl rfl rfl hc i pins s3 σ3 H3 X.xe I3 (stat Kb) Cn stop) fun r s4 ⟨hr,I4⟩=>?_)
   subst hr
   exact ab9 ⟨σ3,H3,I4,qn⟩
 · refine abz hp (bt (T.item X rfl rfl rfl hc i pins s3 σ3 H3 X.xe I3 (stat Kb) Cn go) fun r s4 ⟨u,hr,h4⟩=>?_)
   subst hr
   refine abz hp (bt h4 fun _ s5 ⟨x,H5,I5,r5,y5,C1,OZ⟩=>?_)
   have Oz:=I5.pinned (stat OZ) (T.obj _ _ C1)
   refine abz hp (bt (hg _ s5 σ3 H5 x u _ Oz r5 (step x H5 y5)) fun _ s6 ⟨σ6,H6,I6,q6⟩=>?_)
   refine abz hp (bt (hb _ s6 σ6 H6 _ I6 q6) fun f s7 q7=>?_)
   have again:∀{σ7:St} {H7:Hp},Inv X (pins++nA fp s5.heap) σ7 H7 s7->N σ7 H7->∃m,m < n/\∃i σ' H',Inv X pins σ' H' s7/\tn i s7.heap/\(∀b∈fp,H' b=none)/\W i m σ' H':=fun {σ7 H7} I7 n7=>by
     obtain ⟨m',hm,w7⟩:=hN σ7 H7 n7
     refine ⟨m',hm,i + 1,σ7,H7,I7.kg,T.keep _ _ _ C1 fun b hb o e=>(I7.pin (b,o) (aaD _ (aaD _ (fq hb e)))).1,fun b hb=>?_,w7⟩
     obtain ⟨o,e,d⟩:=T.obj _ _ C1 b hb
     exact (I7.pin (b,o) (aaD _ (aaD _ (fq hb e)))).2.1
   cases f with
   | next=>obtain ⟨σ7,H7,I7,n7⟩:=q7; exact again I7 n7
   | cont=>obtain ⟨σ7,H7,I7,n7⟩:=q7; exact again I7 n7
   | brk=>obtain ⟨σ7,H7,I7,q7⟩:=q7; exact ⟨σ7,H7,I7.kg,q7⟩
   | ret v=>obtain ⟨x7,σ7,H7,I7,r7,q7⟩:=q7; exact ⟨x7,σ7,H7,I7.kg,r7,q7⟩
end
theorem fU {K:ZY}{a:Addr}{xs:List V}{g:TG}{tb:TS}{D:Ends}{σ:St}{H:Hp}(Pv:Nat->St->Hp->Prop)(h0:Pv 0 σ H)(hl:∀i σ H,i<=xs.length->Pv i σ H->ao K H a xs)
   (hs:∀i x σ H,xs[i]? = some x->Pv i σ H->g x σ H fun σ2 H2=>tb { D with nx:=Pv (i + 1),ct:=Pv (i + 1),bk:=D.nx } σ2 H2) (hd:∀σ H,Pv xs.length σ H->D.nx σ H) :
   ∃W:Nat->Nat->St->Hp->Prop,(∃m,W 0 m σ H)/\∀i m σ H,W i m σ H ->
     ((JZ K a).stop i H/\D.nx σ H)\/((JZ K a).go i H/\∃N:St->Hp->Prop,(∀σ' H',N σ' H'->∃m',m' < m/\W (i + 1) m' σ' H')/\∀x H',(JZ K a).yld i H x H'->g x σ H' fun σ2 H2=>tb { D with nx:=N,ct:=N,bk:=D.nx } σ2 H2):=by
 refine ⟨fun i m σ H=>m=xs.length - i/\i<=xs.length/\Pv i σ H,⟨xs.length,by simp,aaI _,h0⟩,?_⟩
 rintro i m σ H ⟨rfl,hi,p⟩
 have q:=hl i σ H hi p
 by_cases hlt:i < xs.length
 · refine .inr ⟨⟨xs,xs[i],q,by simp [hlt]⟩,Pv (i + 1),fun σ' H' p'=>⟨xs.length - (i + 1),by omega,rfl,hlt,p'⟩,fun x H' y=>?_⟩
   obtain ⟨e,y⟩:=y
   subst e
   exact hs i x σ _ (y xs q) p
 · have e:i=xs.length:=by omega
   subst e
   exact .inl ⟨⟨xs,q,Z3 _⟩,hd σ H p⟩
theorem gO {K:ZY}{a:Addr}{xs:List V}{g:TG}{tb:TS}{D:Ends}{σ:St}{H:Hp}(Pv:Nat->St->Hp->Prop)(h0:Pv 0 σ H)(hl:∀i σ H,i<=xs.length->Pv i σ H->aK K H a xs)
   (hs:∀i x σ H,xs[i]? = some x->Pv i σ H->g x σ H fun σ2 H2=>tb { D with nx:=Pv (i + 1),ct:=Pv (i + 1),bk:=D.nx } σ2 H2) (hd:∀σ H,Pv xs.length σ H->D.nx σ H) :
   ∃W:Nat->Nat->St->Hp->Prop,(∃m,W 0 m σ H)/\∀i m σ H,W i m σ H ->
     ((J1 K a).stop i H/\D.nx σ H)\/((J1 K a).go i H/\∃N:St->Hp->Prop,(∀σ' H',N σ' H'->∃m',m' < m/\W (i + 1) m' σ' H')/\∀x H',(J1 K a).yld i H x H'->g x σ H' fun σ2 H2=>tb { D with nx:=N,ct:=N,bk:=D.nx } σ2 H2):=by
 refine ⟨fun i m σ H=>m=xs.length - i/\i<=xs.length/\Pv i σ H,⟨xs.length,by simp,aaI _,h0⟩,?_⟩
 rintro i m σ H ⟨rfl,hi,p⟩
 have q:=hl i σ H hi p
 by_cases hlt:i < xs.length
 · refine .inr ⟨⟨xs,xs[i],q,by simp [hlt]⟩,Pv (i + 1),fun σ' H' p'=>⟨xs.length - (i + 1),by omega,rfl,hlt,p'⟩,fun x H' y=>?_⟩
   obtain ⟨e,y⟩:=y
   subst e
   exact hs i x σ _ (y xs q) p
 · have e:i=xs.length:=by omega
   subst e
   exact .inl ⟨⟨xs,q,Z3 _⟩,hd σ H p⟩
theorem ko {lo:Int}{n:Nat}{g:TG}{tb:TS}{D:Ends}{σ:St}{H:Hp}(Pv:Nat->St->Hp->Prop)(h0:Pv 0 σ H)
   (hs:∀i σ H,i < n->Pv i σ H->g (.int (lo + i)) σ H fun σ2 H2=>tb { D with nx:=Pv (i + 1),ct:=Pv (i + 1),bk:=D.nx } σ2 H2) (hd:∀σ H,Pv n σ H->D.nx σ H) :
   ∃W:Nat->Nat->St->Hp->Prop,(∃m,W 0 m σ H)/\∀i m σ H,W i m σ H ->
     ((Fo lo n).stop i H/\D.nx σ H)\/((Fo lo n).go i H/\∃N:St->Hp->Prop,(∀σ' H',N σ' H'->∃m',m' < m/\W (i + 1) m' σ' H')/\∀x H',(Fo lo n).yld i H x H'->g x σ H' fun σ2 H2=>tb { D with nx:=N,ct:=N,bk:=D.nx } σ2 H2):=by
 refine ⟨fun i m σ H=>m=n - i/\i<=n/\Pv i σ H,⟨n,by simp,aaI _,h0⟩,?_⟩
 rintro i m σ H ⟨rfl,hi,p⟩
 by_cases hlt:i < n
 · refine .inr ⟨hlt,Pv (i + 1),fun σ' H' p'=>⟨n - (i + 1),by omega,rfl,hlt,p'⟩,fun x H' y=>?_⟩
   obtain ⟨e,y⟩:=y
   subst e y
   exact hs i σ _ hlt p
 · have e:i=n:=by omega
   subst e
   exact .inl ⟨Z3 _,hd σ H p⟩
abbrev R2:=V->V->Hp->VK->Prop
def hG (X:Cx)(f:Value->Value->Sem Value)(r:R2):Prop:=
 ∀(pins:List (Addr×Obj)) (s:Shared) (σ:St) (H:Hp) (x y:V) (v u:Value) (Q:VK),Inv X pins σ H s->RelV x v->RelV y u->r x y H Q ->
   wpAny (model X.prog X.w) X.A (f v u) (EP X pins σ Q) X.xe s
def OH (X:Cx)(f:Value->Sem Value)(r:V->Hp->VK->Prop):Prop:=
 ∀(pins:List (Addr×Obj)) (s:Shared) (σ:St) (H:Hp) (x:V) (v:Value) (Q:VK),Inv X pins σ H s->RelV x v->r x H Q ->
   wpAny (model X.prog X.w) X.A (f v) (EP X pins σ Q) X.xe s
def dB (X:Cx)(f:Value)(r:List V->Hp->VK->Prop):Prop:=
 ∀(pins:List (Addr×Obj)) (s:Shared) (σ:St) (H:Hp) (xs:List V) (us:List Value) (Q:VK),Inv X pins σ H s->Vals xs us->r xs H Q ->
   wpAny (model X.prog X.w) X.A (call f us) (EP X pins σ Q) X.xe s
def OG (X:Cx)(r:V->Hp->(Bool->Hp->Prop)->Prop):Prop:=
 ∀(pins:List (Addr×Obj)) (s:Shared) (σ:St) (H:Hp) (x:V) (v:Value) (Q:Bool->Hp->Prop),Inv X pins σ H s->RelV x v->r x H Q ->
   wpAny (model X.prog X.w) X.A (truthy v) (TP X pins σ Q) X.xe s
def Gz (r:R2)(ta tb:TE):TE:=fun σ H Q=>ta σ H fun x H1=>tb σ H1 fun y H2=>r x y H2 Q
def UD (r:V->Hp->VK->Prop)(ta:TE):TE:=fun σ H Q=>ta σ H fun x H1=>r x H1 Q
def rI (C:Int->Int->Prop)(g:Int->Int->V):R2:=fun x y H Q=>∃i j,x=.int i/\y=.int j/\C i j/\Q (g i j) H
def wN (g:Int->Int->V):R2:=fun x y H Q=>∃i j,x=.int i/\y=.int j/\Q (g i j) H
def rU (g:Int->V):V->Hp->VK->Prop:=fun x H Q=>∃i,x=.int i/\Q (g i) H
section
variable {X:Cx}{a b c:Expr}{ta tb tc:TE}{pos:Pos}
theorem GW (ha:PE X a ta)(hb:PE X b tb){pins:List (Addr×Obj)}{s:Shared}{σ:St}{H:Hp}{R:V->V->Hp->Prop}(I:Inv X pins σ H s)
   (h:ta σ H fun x H1=>tb σ H1 fun y H2=>R x y H2) {Q:Value->Shared->Prop} {f:Value->Value->Sem Value}
   (hf:∀v u s2 x y H2,Inv X pins σ H2 s2->RelV x v->RelV y u->R x y H2->wpAny (model X.prog X.w) X.A (f v u) Q X.xe s2) :
   wpAny (model X.prog X.w) X.A (eval a X.env) (fun v s₁=>wpAny (model X.prog X.w) X.A (eval b X.env) (fun u s₂=>wpAny (model X.prog X.w) X.A (f v u) Q X.xe s₂) X.xe s₁) X.xe s:=by
 refine bt (ha pins s σ H _ I h) fun v s1 ⟨x,H1,I1,r1,q1⟩=>?_
 refine bt (hb pins s1 σ H1 _ I1 q1) fun u s2 ⟨y,H2,I2,r2,q2⟩=>?_
 exact hf v u s2 x y H2 I2 r1 r2 q2
theorem Mo {op:Operator}{r:R2}(ho:hG X (binaryOp op) r)(ha:PE X a ta)(hb:PE X b tb):PE X (.BinOp a op b pos) (Gz r ta tb):=by
 intro pins s σ H Q I h
 exact wpAny_BinOp (GW ha hb I h fun v u s2 x y H2 I2 rx ry q=>ho pins s2 σ H2 x y v u Q I2 rx ry q)
theorem Mp {op:UnaryOp}{r:V->Hp->VK->Prop}(ho:OH X (unaryOp op) r)(ha:PE X a ta):PE X (.UnaryOp op a pos) (UD r ta):=by
 intro pins s σ H Q I h
 exact UnaryOp_ (bt (ha pins s σ H _ I h) fun v s1 ⟨x,H1,I1,r1,q1⟩=>ho pins s1 σ H1 x v Q I1 r1 q1)
theorem L9 {f:Value->Value->Sem Value}{C:Int->Int->Prop}{g:Int->Int->Int}
   (rule:∀(i j:Int) (t u:Tok) (s:Shared) (Q:Value->Shared->Prop) (E:Value->Shared->Prop),C i j->Q (.int (g i j) s.toks) { s with toks:=s.toks + 1 }->wpAny (model X.prog X.w) X.A (f (.int i t) (.int j u)) Q E s) :
   hG X f (rI C fun i j=>.int (g i j)):=by
 intro pins s σ H x y v u Q I rx ry h
 obtain ⟨i,j,rfl,rfl,hc,q⟩:=h
 obtain ⟨t,rfl⟩:=rx
 obtain ⟨t',rfl⟩:=ry
 exact rule i j t t' s _ _ hc ⟨.int (g i j),H,I.tok _,⟨_,rfl⟩,q⟩
theorem Ma {f:Value->Value->Sem Value}{g:Int->Int->Int}
   (rule:∀(i j:Int) (t u:Tok) (s:Shared) (Q:Value->Shared->Prop) (E:Value->Shared->Prop),Q (.int (g i j) s.toks) { s with toks:=s.toks + 1 }->wpAny (model X.prog X.w) X.A (f (.int i t) (.int j u)) Q E s) :
   hG X f (wN fun i j=>.int (g i j)):=by
 intro pins s σ H x y v u Q I rx ry h
 obtain ⟨i,j,rfl,rfl,q⟩:=h
 obtain ⟨t,rfl⟩:=rx
 obtain ⟨t',rfl⟩:=ry
 exact rule i j t t' s _ _ ⟨.int (g i j),H,I.tok _,⟨_,rfl⟩,q⟩
theorem Es {f:Value->Value->Sem Value}{g:Int->Int->Bool}
   (rule:∀(i j:Int) (t u:Tok) (s:Shared) (Q:Value->Shared->Prop) (E:Value->Shared->Prop),Q (.bool (g i j)) s->wpAny (model X.prog X.w) X.A (f (.int i t) (.int j u)) Q E s) :
   hG X f (wN fun i j=>.bl (g i j)):=by
 intro pins s σ H x y v u Q I rx ry h
 obtain ⟨i,j,rfl,rfl,q⟩:=h
 obtain ⟨t,rfl⟩:=rx
 obtain ⟨t',rfl⟩:=ry
 exact rule i j t t' s _ _ ⟨.bl (g i j),H,I,rfl,q⟩
def Kx (i j:Int):Prop:=0<=j/\j<=1000000/\i.natAbs < 2 ^ 64
def C2 (i j:Int):Prop:=(-(2 ^ 64) < i/\i < 2 ^ 64)\/(-(2 ^ 64) < j/\j < 2 ^ 64)
theorem C2.ok {i j:Int}(h:C2 i j):IntMulOk i j:=by
 rcases h with ⟨h1,h2⟩ | ⟨h1,h2⟩
 · exact .of_left (intBits_le_64 h1 h2)
 · exact .of_right (intBits_le_64 h1 h2)
theorem ID:hG X (binaryOp .Add) (wN fun i j=>.int (i + j)):=Ma fun _ _ _ _ _ _ _ q=>add_int q
theorem IP:hG X (binaryOp .Sub) (wN fun i j=>.int (i - j)):=Ma fun _ _ _ _ _ _ _ q=>sub_int q
theorem IJ:hG X (binaryOp .Mult) (rI C2 fun i j=>.int (i * j)):=L9 fun _ _ _ _ _ _ _ hc q=>mul_int q hc.ok
theorem II:hG X (binaryOp .Mod) (rI (fun _ j=>0 < j) fun i j=>.int (i % j)):=L9 fun i j _ _ _ _ _ hc q=>by
 have h1:(0:Int) < j:=hc
 exact mod_int' (by omega) (by rw [Int.fmod_eq_emod_of_nonneg i (by omega)]; exact q)
theorem IL:hG X (binaryOp .Pow) (rI Kx fun i j=>.int (i ^ j.toNat)):=L9 fun _ _ _ _ _ _ _ hc q=>pow_int_small hc.1 hc.2.1 hc.2.2 q
theorem YX {f:Value->Sem Value}{g:Int->Int}
   (rule:∀(i:Int) (t:Tok) (s:Shared) (Q:Value->Shared->Prop) (E:Value->Shared->Prop),Q (.int (g i) s.toks) { s with toks:=s.toks + 1 }->wpAny (model X.prog X.w) X.A (f (.int i t)) Q E s) :
   OH X f (rU fun i=>.int (g i)):=by
 intro pins s σ H x v Q I rx h
 obtain ⟨i,rfl,q⟩:=h
 obtain ⟨t,rfl⟩:=rx
 exact rule i t s _ _ ⟨.int (g i),H,I.tok _,⟨_,rfl⟩,q⟩
theorem JS:OH X (unaryOp .USub) (rU fun i=>.int (-i)):=YX fun _ _ _ _ _ q=>neg_int q
end
def MV:V->V->Bool
 | .bN,.bN=>true | .bN,.int _=>true | .int _,.bN=>true | .bN,.bl _=>true | .bl _,.bN=>true | .bN,.str _=>true | .str _,.bN=>true
 | .int _,.int _=>true | .bl _,.bl _=>true | .str _,.str _=>true | .byt _,.byt _=>true
 | .int _,.str _=>true | .str _,.int _=>true | .bl _,.str _=>true | .str _,.bl _=>true
 | _,_=>false
def Uk:R2:=fun x y H Q=>MV x y=true/\Q (.bl (decide (x=y))) H
def Ul:R2:=fun x y H Q=>MV x y=true/\Q (.bl (!decide (x=y))) H
theorem vY {i j:Int}:decide (V.int i=V.int j)=(i == j):=by
 rw [aa3]
 simp
theorem zT {i j:Bool}:decide (V.bl i=V.bl j)=(i == j):=by
 rw [aa3]
 simp
theorem vZ {i j:Str}:decide (V.str i=V.str j)=(i == j):=by
 rw [aa3]
 simp
theorem vX {i j:Array UInt8}:decide (V.byt i=V.byt j)=(i.toList == j.toList):=by
 rw [aa3]
 cases i
 cases j
 simp
section
variable {X:Cx}{a b c:Expr}{ta tb tc:TE}{pos:Pos}
theorem bc {pins:List (Addr×Obj)}{σ:St}{H:Hp}{s:Shared}{Q:VK}{k k':Bool}(I:Inv X pins σ H s)(q:Q (.bl k) H)(e:k=k'):EP X pins σ Q (.bool k') s:=by
 subst e
 exact ⟨.bl k,H,I,rfl,q⟩
theorem Mb:hG X (compareOp .Eq) Uk:=by
 intro pins s σ H x y v u Q I rx ry h
 obtain ⟨hs,q⟩:=h
 cases x with
 | bN=>
   cases rx
   cases y with
   | bN=>cases ry; exact PySem.EqNone.eq_none_none (bc I q (by simp))
   | bl j=>cases ry; exact PySem.EqNone.eq_none_bool (bc I q (by simp))
   | int j=>obtain ⟨t',rfl⟩:=ry; exact PySem.EqNone.eq_none_int (bc I q (by simp))
   | str j=>obtain ⟨t',rfl⟩:=ry; exact PySem.EqNone.eq_none_str (bc I q (by simp))
   | _=>exact absurd (show false=true from hs) aag
 | bl i=>
   cases rx
   cases y with
   | bN=>cases ry; exact PySem.EqNone.eq_bool_none (bc I q (by simp))
   | bl j=>cases ry; exact eq_bool (bc I q zT)
   | str j=>obtain ⟨t',rfl⟩:=ry; exact PySem.EqMixed.eq_bool_str (bc I q (by simp))
   | _=>exact absurd (show false=true from hs) aag
 | int i=>
   obtain ⟨t,rfl⟩:=rx
   cases y with
   | bN=>cases ry; exact PySem.EqNone.eq_int_none (bc I q (by simp))
   | int j=>obtain ⟨t',rfl⟩:=ry; exact eq_int (bc I q vY)
   | str j=>obtain ⟨t',rfl⟩:=ry; exact PySem.EqMixed.eq_int_str (bc I q (by simp))
   | _=>exact absurd (show false=true from hs) aag
 | str i=>
   obtain ⟨t,rfl⟩:=rx
   cases y with
   | bN=>cases ry; exact PySem.EqNone.eq_str_none (bc I q (by simp))
   | bl j=>cases ry; exact PySem.EqMixed.eq_str_bool (bc I q (by simp))
   | int j=>obtain ⟨t',rfl⟩:=ry; exact PySem.EqMixed.eq_str_int (bc I q (by simp))
   | str j=>obtain ⟨t',rfl⟩:=ry; exact eq_str (bc I q vZ)
   | _=>exact absurd (show false=true from hs) aag
 | byt i=>
   obtain ⟨t,rfl⟩:=rx
   cases y with
   | byt j=>obtain ⟨t',rfl⟩:=ry; exact PySem.W.eq_bytes (bc I q vX)
   | _=>exact absurd (show false=true from hs) aag
 | _=>cases y <;> exact absurd (show false=true from hs) aag
theorem Mg:hG X (compareOp .NotEq) Ul:=by
 intro pins s σ H x y v u Q I rx ry h
 obtain ⟨hs,q⟩:=h
 cases x with
 | bN=>
   cases rx
   cases y with
   | bN=>cases ry; exact PySem.EqNone.ne_none_none (bc I q (by simp))
   | bl j=>cases ry; exact PySem.EqNone.ne_none_bool (bc I q (by simp))
   | int j=>obtain ⟨t',rfl⟩:=ry; exact PySem.EqNone.ne_none_int (bc I q (by simp))
   | str j=>obtain ⟨t',rfl⟩:=ry; exact PySem.EqNone.ne_none_str (bc I q (by simp))
   | _=>exact absurd (show false=true from hs) aag
 | bl i=>
   cases rx
   cases y with
   | bN=>cases ry; exact PySem.EqNone.ne_bool_none (bc I q (by simp))
   | bl j=>cases ry; exact ne_bool (bc I q (congrArg not zT))
   | str j=>obtain ⟨t',rfl⟩:=ry; exact PySem.EqMixed.ne_bool_str (bc I q (by simp))
   | _=>exact absurd (show false=true from hs) aag
 | int i=>
   obtain ⟨t,rfl⟩:=rx
   cases y with
   | bN=>cases ry; exact PySem.EqNone.ne_int_none (bc I q (by simp))
   | int j=>obtain ⟨t',rfl⟩:=ry; exact ne_int (bc I q (congrArg not vY))
   | str j=>obtain ⟨t',rfl⟩:=ry; exact PySem.EqMixed.ne_int_str (bc I q (by simp))
   | _=>exact absurd (show false=true from hs) aag
 | str i=>
   obtain ⟨t,rfl⟩:=rx
   cases y with
   | bN=>cases ry; exact PySem.EqNone.ne_str_none (bc I q (by simp))
   | bl j=>cases ry; exact PySem.EqMixed.ne_str_bool (bc I q (by simp))
   | int j=>obtain ⟨t',rfl⟩:=ry; exact PySem.EqMixed.ne_str_int (bc I q (by simp))
   | str j=>obtain ⟨t',rfl⟩:=ry; exact ne_str (bc I q (congrArg not vZ))
   | _=>exact absurd (show false=true from hs) aag
 | byt i=>
   obtain ⟨t,rfl⟩:=rx
   cases y with
   | byt j=>obtain ⟨t',rfl⟩:=ry; exact PySem.W.ne_bytes (bc I q (congrArg not vX))
   | _=>exact absurd (show false=true from hs) aag
 | _=>cases y <;> exact absurd (show false=true from hs) aag
theorem Mf:hG X (compareOp .Lt) (wN fun i j=>.bl (decide (i < j))):=Es fun _ _ _ _ _ _ _ q=>lt_int q
theorem Me:hG X (compareOp .LtE) (wN fun i j=>.bl (decide (i<=j))):=Es fun _ _ _ _ _ _ _ q=>le_int q
theorem Md:hG X (compareOp .Gt) (wN fun i j=>.bl (decide (j < i))):=Es fun _ _ _ _ _ _ _ q=>gt_int q
theorem Mc:hG X (compareOp .GtE) (wN fun i j=>.bl (decide (j<=i))):=Es fun _ _ _ _ _ _ _ q=>ge_int q
theorem IH:hG X (compareOp .Is) (fun x y H Q=>y=.bN/\Q (.bl (decide (x=.bN))) H):=by
 intro pins s σ H x y v u Q I rx ry h
 obtain ⟨rfl,q⟩:=h
 cases ry
 refine is_none_gen (bc I q ?_)
 cases x <;> first
   | (cases rx; rfl)
   | (obtain ⟨t,rfl⟩:=rx; rfl)
theorem Ew:hG X (compareOp .IsNot) (fun x y H Q=>y=.bN/\Q (.bl (!decide (x=.bN))) H):=by
 intro pins s σ H x y v u Q I rx ry h
 obtain ⟨rfl,q⟩:=h
 cases ry
 refine isnot_none_gen (bc I q ?_)
 cases x <;> first
   | (cases rx; rfl)
   | (obtain ⟨t,rfl⟩:=rx; rfl)
theorem Bb (b:Expr){op:CmpOp}(h:op≠.In:=by decide)(h2:op≠.NotIn:=by decide):abe op b=false:=by
 have e1:(op == CmpOp.In)=false:=by cases op <;> first | rfl | exact absurd rfl h
 have e2:(op == CmpOp.NotIn)=false:=by cases op <;> first | rfl | exact absurd rfl h2
 cases b <;> simp [abe,e1,e2]
theorem EA {op:CmpOp}{r:R2}(ho:hG X (compareOp op) r)(ha:PE X a ta)(hb:PE X b tb)(hm:abe op b=false):PE X (.Compare a [op] [b] pos) (Gz r ta tb):=by
 intro pins s σ H Q I h
 exact wpAny_Compare1 (GW ha hb I h fun v u s2 x y H2 I2 rx ry q=>ho pins s2 σ H2 x y v u Q I2 rx ry q) hm
def GC (t:TE):TT:=fun σ H Q=>t σ H fun x H'=>∃k,x=.bl k/\Q k H'
theorem EW {op:CmpOp}{r:R2}(ho:hG X (compareOp op) r)(ha:PE X a ta)(hb:PE X b tb)(hm:abe op b=false):PT X (.Compare a [op] [b] pos) (GC (Gz r ta tb)):=by
 intro pins s σ H Q I h
 refine wpAny_isTrue_Compare1 (bt (ha pins s σ H _ I h) fun v s1 ⟨x,H1,I1,r1,q1⟩=>bt (hb pins s1 σ H1 _ I1 q1) fun u s2 ⟨y,H2,I2,r2,q2⟩=>
   bt (ho pins s2 σ H2 x y v u _ I2 r1 r2 q2) fun c s3 ⟨z,H3,I3,r3,k,e,q3⟩=>?_) hm
 subst e
 cases r3
 exact wpAny_truthy_bool ⟨H3,I3,q3⟩
def Co (r r':R2)(ta tb tc:TE):TE:=fun σ H Q=>ta σ H fun x H1=>tb σ H1 fun y H2=>r x y H2 fun z H3=>∃k,z=.bl k /\
 (if k=true then tc σ H3 fun w' H4=>r' y w' H4 Q else Q (.bl false) H3)
theorem BC {op IC:CmpOp}{r r':R2}(ho:hG X (compareOp op) r)(ho':hG X (compareOp IC) r')(ha:PE X a ta)(hb:PE X b tb)(hc:PE X c tc)
   (hm:lastMarks [op,IC] [b,c]=false:=by with_unfolding_all rfl):PE X (.Compare a [op,IC] [b,c] pos) (Co r r' ta tb tc):=by
 intro pins s σ H Q I h
 refine Compare_chain (bt (ha pins s σ H _ I h) fun v s1 ⟨x,H1,I1,r1,q1⟩=>chain_link (bt (hb pins s1 σ H1 _ I1 q1) fun u s2 ⟨y,H2,I2,r2,q2⟩=>
   bt (ho pins s2 σ H2 x y v u _ I2 r1 r2 q2) fun d s3 ⟨z,H3,I3,r3,k,e,q3⟩=>?_)) hm
 subst e
 cases r3
 refine wpAny_truthy_bool ?_
 cases k with
 | false=>exact ite_ff ⟨.bl false,H3,I3,rfl,q3⟩
 | true=>exact ite_tt (chain_last (bt (hc pins s3 σ H3 _ I3 q3) fun w' s4 ⟨z',H4,I4,r4,q4⟩=>ho' pins s4 σ H4 y z' u w' Q I4 r2 r4 q4))
def GP (K:ZY)(x:V)(H:Hp)(k:Bool):Prop:=
 match x with
 | .bN=>k=false
 | .bl b=>k=b
 | .int i=>k=(i != 0)
 | .str y=>y.length<=sizeLine/\k=((y.length:Int) != 0)
 | .byt y=>y.size<=sizeLine/\k=((y.size:Int) != 0)
 | .ref p=>(∃xs,ao K H p xs/\k = !xs.isEmpty)\/(∃xs,aK K H p xs/\k = !xs.isEmpty)\/∃kvs,H p=some (.dK kvs)/\k = !kvs.isEmpty
 | _=>False
theorem uI {κ:Type}{kvs:List (κ×V)}{vs:List (κ×Value)}(r:KV kvs vs):(!vs.isEmpty) = !kvs.isEmpty:=by
 cases r <;> rfl
theorem m6 {xs:List V}{its:List Value}(r:Vals xs its):(!its.toArray.isEmpty) = !xs.isEmpty:=by
 cases r <;> simp
theorem nh:(sizeLine:Nat) < 2 ^ 63:=by rw [sizeLine_eq]; decide
theorem JQ:OG X (fun x H Q=>∃k,GP X.K x H k/\Q k H):=by
 intro pins s σ H x v Q I rx h
 obtain ⟨k,e,q⟩:=h
 have hl:=nh
 have hs:sizeLine=16777216:=sizeLine_eq
 cases x with
 | bN=>
   cases rx
   have e':k=false:=e
   subst e'
   exact truthy_none ⟨H,I,q⟩
 | bl b=>
   cases rx
   have e':k=b:=e
   subst e'
   exact wpAny_truthy_bool ⟨H,I,q⟩
 | int i=>
   obtain ⟨t,rfl⟩:=rx
   have e':k=(i != 0):=e
   subst e'
   exact PySem.P.truthy_int ⟨H,I,q⟩
 | str y=>
   obtain ⟨t,rfl⟩:=rx
   obtain ⟨hy,e'⟩ : y.length<=sizeLine/\k=((y.length:Int) != 0):=e
   subst e'
   exact PySem.P.truthy_str (by omega) ⟨H,I.tok _,q⟩
 | byt y=>
   obtain ⟨t,rfl⟩:=rx
   obtain ⟨hy,e'⟩ : y.size<=sizeLine/\k=((y.size:Int) != 0):=e
   subst e'
   exact PySem.W.truthy_bytes (by omega) ⟨H,I.tok _,q⟩
 | ref p=>
   cases rx
   have e':(∃xs,ao X.K H p xs/\k = !xs.isEmpty)\/(∃xs,aK X.K H p xs/\k = !xs.isEmpty)\/∃kvs,H p=some (.dK kvs)/\k = !kvs.isEmpty:=e
   rcases e' with ⟨xs,hx,e'⟩ | ⟨xs,hx,e'⟩ | ⟨kvs,hx,e'⟩
   · subst e'
     obtain ⟨its,r,pl,hz⟩:=I.list hx
     have hlen:=r.length
     exact wpAny_truthy_list pl.isList (by simp only [aaa]; omega) ⟨H,I.tok _,by rw [m6 r]; exact q⟩
   · subst e'
     obtain ⟨its,r,pl,hz⟩:=I.tuple hx
     have hlen:=r.length
     exact truthy_tuple pl (by simp only [aaa]; omega) ⟨H,I.tok _,by rw [m6 r]; exact q⟩
   · subst e'
     obtain ⟨hz,hS,vs,r,m⟩ : kvs.length<=sizeLine/\(p == abc)=false/\∃vs,KV kvs vs/\s.heap.DictOf (aO X.prog X.w) p vs:=I.hok p _ hx
     have hlen:kvs.length=vs.length:=Paired.length r
     exact wpAny_truthy_dict hS m (by omega) ⟨H,I.tok _,by rw [uI r]; exact q⟩
 | _=>exact (show False from e).elim
theorem BQ (ha:PE X a ta)(he:∀whole,isTrue a X.env whole=(do let v ← whole; standAt a.pos; holding [v] (truthy v))) :
   PT X a (fun σ H Q=>ta σ H fun x H'=>∃k,GP X.K x H' k/\Q k H'):=by
 intro pins s σ H Q I h
 exact isTrue_plain (bt (ha pins s σ H _ I h) fun v s1 ⟨x,H1,I1,r1,q1⟩=>JQ pins s1 σ H1 x v Q I1 r1 q1) (he _)
theorem vals1 {x:V}{us:List Value}(r:Vals [x] us):∃u,us=[u]/\RelV x u:=by
 cases r with
 | cons r1 r2=>cases r2; exact ⟨_,rfl,r1⟩
theorem vals2 {x y:V}{us:List Value}(r:Vals [x,y] us):∃u w',us=[u,w']/\RelV x u/\RelV y w':=by
 cases r with
 | cons r1 r2=>
   cases r2 with
   | cons r3 r4=>cases r4; exact ⟨_,_,rfl,r1,r3⟩
theorem xx (hc:X.calm=true):dB X (.builtin "max") (fun xs H Q=>∃i j,xs=[.int i,.int j]/\Q (.int (if j > i then j else i)) H):=by
 intro pins s σ H xs us Q I r h
 obtain ⟨i,j,rfl,q⟩:=h
 obtain ⟨u,w',rfl,⟨t,rfl⟩,⟨t',rfl⟩⟩:=vals2 r
 refine max_two_ints (I.ok.hd hc) fun h' tk k=>⟨_,H,I.kept k,?_,q⟩
 by_cases hj:j > i
 · rw [if_pos hj,if_pos hj]; exact ⟨_,rfl⟩
 · rw [if_neg hj,if_neg hj]; exact ⟨_,rfl⟩
theorem xy (hc:X.calm=true):dB X (.builtin "min") (fun xs H Q=>∃i j,xs=[.int i,.int j]/\Q (.int (if j < i then j else i)) H):=by
 intro pins s σ H xs us Q I r h
 obtain ⟨i,j,rfl,q⟩:=h
 obtain ⟨u,w',rfl,⟨t,rfl⟩,⟨t',rfl⟩⟩:=vals2 r
 refine min_two_ints (I.ok.hd hc) fun h' tk k=>⟨_,H,I.kept k,?_,q⟩
 by_cases hj:j < i
 · rw [if_pos hj,if_pos hj]; exact ⟨_,rfl⟩
 · rw [if_neg hj,if_neg hj]; exact ⟨_,rfl⟩
theorem xv:dB X (.type "int") (fun xs H Q=>(∃i,xs=[.int i]/\Q (.int i) H)\/∃k,xs=[.bl k]/\Q (.int (if k then 1 else 0)) H):=by
 intro pins s σ H xs us Q I r h
 rcases h with ⟨i,rfl,q⟩ | ⟨k,rfl,q⟩
 · obtain ⟨u,rfl,t,rfl⟩:=vals1 r
   exact call_int_int ⟨.int i,H,I,⟨_,rfl⟩,q⟩
 · obtain ⟨u,rfl,r1⟩:=vals1 r
   cases r1
   exact call_int_bool ⟨.int (if k then 1 else 0),H,I.tok _,⟨_,rfl⟩,q⟩
end
structure GI (h:Heap)(x dx C:Addr)(mA:Str->Option Value):Prop where
 obj:h.get? x=some (acY C dx)
 ns:h.Ns1 dx mA
 ne:dx≠x
theorem yz {h:Heap}{dx:Addr}{mA:Str->Option Value}(n:h.Ns1 dx mA):∃od,h.get? dx=some od/\∀name,ac9 name od=some (mA name):=by
 obtain ⟨o,es,ep,ho,hd,hk,_,hm⟩:=n
 refine ⟨o,ho,fun name=>?_⟩
 have e:=hm name
 unfold nsFind findBy at e
 rw [← Array.find?_toList] at e
 unfold ac9
 rw [hd]
 dsimp only
 split
 · rename_i y q
   rw [q] at e
   exact congrArg some e
 · rename_i q
   rw [q] at e
   have a:es.toList.any (·.refKey)=false:=by
     rw [List.any_eq_false]
     intro y hy
     obtain ⟨z,t,hkey⟩:=hk y (Array.mem_toList_iff.mp hy)
     simp [DictEntry.refKey,hkey]
   have a':¬ es.toList.any (·.refKey)=true:=by rw [a]; exact aag
   rw [if_neg a']
   exact congrArg some e
theorem GI.look {h:Heap}{x dx C:Addr}{mA:Str->Option Value}(I:GI h x dx C mA):∃od,PySem.W.InstAt h x (acY C dx) C (some od)/\∀name,ac9 name od=some (mA name):=
 let ⟨od,ho,hl⟩:=yz I.ns
 ⟨od,⟨I.obj,rfl,rfl,ho⟩,hl⟩
theorem iz.some_of {v:V}{o:Option Value}(r:iz (some v) o):∃u,o=some u/\RelV v u:=by
 cases o with
 | none=>exact (show False from r).elim
 | some u=>exact ⟨u,rfl,r⟩
section
variable {P:Program}{w:World}{H H':Hp}{h h':Heap}{a C dx:Addr}{fs fs':List (Str×V)}
theorem DV (hok:fT P w H h)(e:H a=some (.ins C dx fs)):∃mA,GI h a dx C mA/\(∀f,iz (fs.lookup f) (mA f))/\PySem.Within mA (fs.map (·.1))/\fs.length<=1000/\H dx=some (.own a):=by
 obtain ⟨d,z,ne,ob,mA,n,r,q⟩:=(show bp P w H h a (.ins C dx fs) from hok a _ e)
 exact ⟨mA,⟨ob,n,ne⟩,r,q,z,d⟩
end
structure Ov (K:ZY)(C:Addr):Prop where
 pg:PySem.W.plainGet K C adR=true
 hd:PySem.W.hasDictIn K C=true
 po:PySem.W.plainOver K C=true
 sa:ab4 K (.ref C) "__setattr__"=some (some (.builtin "object.__setattr__"))
theorem Ov.get {K:ZY}{C:Addr}(c:Ov K C)(f:Str):PySem.W.plainGet K C f=true:=c.pg
section
variable {X:Cx}{pins:List (Addr×Obj)}{σ:St}{H:Hp}{s:Shared}{A:Around}{E:Value->Shared->Prop}{Q:Value->Shared->Prop}{c:Value}{b:Bool}
inductive iB (K:ZY) (H:Hp):V->Value->Prop where
 | bN:iB K H .bN (.type "NoneType")
 | bl (x:Bool):iB K H (.bl x) (.type "bool")
 | int (i:Int):iB K H (.int i) (.type "int")
 | str (x:Str):iB K H (.str x) (.type "str")
 | flt (x:UInt64):iB K H (.flt x) (.type "float")
 | lst {a:Addr} {xs:List V} (e:H a=some (.lst xs)):iB K H (.ref a) (.type "list")
 | frz {a:Addr} {o:Obj} {xs:List V} (e:H a=some (.frz o (.lst xs))):iB K H (.ref a) (.type "list")
 | tup {a:Addr} {xs:List V} (e:H a=some (.tup xs)):iB K H (.ref a) (.type "tuple")
 | dK {a:Addr} {kvs:List (Key×V)} (e:H a=some (.dK kvs)):iB K H (.ref a) (.type "dict")
 | dT {a:Addr} {kvs:List (List Key×V)} (e:H a=some (.dT kvs)):iB K H (.ref a) (.type "dict")
 | ins {a C dx:Addr} {fs:List (Str×V)} (e:H a=some (.ins C dx fs)) (cl:Ov K C) (ha:ab4 K (.ref C) "__class__"=some (some (.builtin "object.__class__")))
     (hn:adS K (.builtin "object.__class__") "__get__"=some (some (.builtin "getset_descriptor.__get__"))) (htk:PySem.W.takesIn K (.builtin "object.__class__")=some true)
     (hm:adi K C (.type "object")=some true):iB K H (.ref a) (.ref C)
theorem yr {x:V}{u t:Value}(I:Inv X pins σ H s)(rx:RelV x u)(ty:iB X.K H x t)(e:aav X.K t c=some b)(h:∀tk,Q (.bool b) { s with toks:=tk }) :
   wpAny (model X.prog X.w) A (call (.builtin "isinstance") [u,c]) Q E s:=by
 cases ty with
 | bN=>cases (show u=acT from rx); exact aaL PySem.W.kitx_none I.lV aat e (fun z=>nomatch z) h
 | bl y=>cases (show u=abk y from rx); exact aaL PySem.W.kitx_bool I.lV aat e (fun z=>nomatch z) h
 | int i=>obtain ⟨t,q⟩:=(show ∃t,u=acL i t from rx); cases q; exact aaL PySem.W.kitx_int I.lV aat e (fun z=>nomatch z) h
 | str y=>obtain ⟨t,q⟩:=(show ∃t,u=adD y t from rx); cases q; exact aaL PySem.W.kitx_str I.lV aat e (fun z=>nomatch z) h
 | flt y=>obtain ⟨t,q⟩:=(show ∃t,u=Value.float y t from rx); cases q; exact aaL PySem.W.kitx_float I.lV aat e (fun z=>nomatch z) h
 | @lst a xs ea=>
   cases (show u=aal a from rx)
   obtain ⟨_,_,n,_,h1⟩:=(show bp X.prog X.w H s.heap a (.lst xs) from I.hok a _ ea)
   exact aaL adT I.lV ⟨_,h1,rfl⟩ e (fun z=>nomatch z) h
 | @frz a ob xs ea=>
   cases (show u=aal a from rx)
   obtain ⟨_,_,_,n,_,h1⟩:=(show bp X.prog X.w H s.heap a (.frz ob (.lst xs)) from I.hok a _ ea)
   exact aaL adT I.lV ⟨_,h1,rfl⟩ e (fun z=>nomatch z) h
 | @tup a xs ea=>
   cases (show u=aal a from rx)
   obtain ⟨_,_,_,p⟩:=(show bp X.prog X.w H s.heap a (.tup xs) from I.hok a _ ea)
   obtain ⟨o,h1,h2,_⟩:=p
   exact aaL PySem.W.kitx_tuple I.lV ⟨o,h1,h2⟩ e (fun z=>nomatch z) h
 | @dK a kvs ea=>
   cases (show u=aal a from rx)
   obtain ⟨_,_,vs,_,p⟩:=(show bp X.prog X.w H s.heap a (.dK kvs) from I.hok a _ ea)
   obtain ⟨o,es,ep,h1,h2,_⟩:=p
   exact aaL adU I.lV ⟨o,h1,h2.1⟩ e (fun z=>nomatch z) h
 | @dT a kvs ea=>
   cases (show u=aal a from rx)
   obtain ⟨_,_,xs,_,o,es,ep,h1,h2,_⟩:=(show bp X.prog X.w H s.heap a (.dT kvs) from I.hok a _ ea)
   exact aaL adU I.lV ⟨o,h1,h2.1⟩ e (fun z=>nomatch z) h
 | @ins a C dx fs ea cl ha hn htk hm=>
   cases (show u=aal a from rx)
   obtain ⟨mA,O,_⟩:=DV I.hok ea
   obtain ⟨od,J,_⟩:=O.look
   exact aaL (PySem.W.kitx_own (cl.get _) cl.hd ha hn htk hm) I.lV J e (fun z=>nomatch z) h
end
structure dn (k:Nat)(A:Around):Prop where
 hd:A.handled=none
 dp:A.depth + 3 * k + 5 < adQ
 un:A.units + 16 * k + 200 < cLine
theorem dn.mono {j k:Nat}{A:Around}(r:dn k A)(h:j<=k):dn j A:=⟨r.hd,by have:=r.dp; omega,by have:=r.un; omega⟩
theorem dn.deeper {k:Nat}{A:Around}(r:dn (k + 1) A)(env:Env):dn k (A.deeper env):=
 ⟨r.hd,by have:=r.dp; show A.depth + 1 + 3 * k + 5 < _; omega,by have:=r.un; show A.units + 3 + 16 * k + 200 < _; omega⟩
theorem dn.depth {k:Nat}{A:Around}(r:dn k A):A.depth < adQ:=by have:=r.dp; omega
theorem dn.units {k:Nat}{A:Around}(r:dn k A):A.units + 64 < cLine:=by have:=r.un; omega
def JO:TA:=fun _ H Q=>Q [] H
def Cp (ta:TE)(tr:TA):TA:=fun σ H Q=>ta σ H fun x H1=>tr σ H1 fun xs H2=>Q (x :: xs) H2
section
variable {X:Cx}{e:Expr}{es:List Expr}{te:TE}{t:TA}{pos:Pos}
theorem IT:PA X [] JO:=fun _ _ _ _ H Q I h=>abL ⟨[],H,I,.nil,h⟩
theorem Ey (ha:PE X e te)(hr:PA X es t)(hs:starEach (e :: es) X.env=(false,eval e X.env) :: starEach es X.env:=by rfl):PA X (e :: es) (Cp te t):=by
 intro pos pins s σ H Q I h
 rw [hs]
 show wpAny _ _ (spliced ((false,eval e X.env) :: backTo pos (starEach es X.env))) _ _ s
 refine abn (bt (ha pins s σ H _ I h) fun u s1 ⟨x,H1,I1,r1,q1⟩=>?_)
 exact bt (hr pos pins s1 σ H1 _ I1 q1) fun us s2 ⟨xs,H2,I2,r2,q2⟩=>⟨x :: xs,H2,I2,.cons r1 r2,q2⟩
def JP (t:TA):TE:=fun σ H Q=>t σ H fun xs H1=>xs.length<=sizeLine/\∀p,H1 p=none->Q (.ref p) (upd H1 p (.tup xs))
def JN (t:TA):TE:=fun σ H Q=>t σ H fun xs H1=>xs.length<=sizeLine/\∀p,H1 p=none->Q (.ref p) (upd H1 p (.lst xs))
theorem Jd {x1}(h:PA X es t):PE X (.Tuple es x1 pos) (JP t):=by
 intro pins s σ H Q I hq
 refine wpAny_Tuple_spliced (bt (h pos pins s σ H _ I hq) fun us s1 ⟨xs,H1,I1,r,z,q⟩=>⟨by rw [← r.length]; exact z,?_⟩)
 have hf:H1 s1.heap.objs.size=none:=I1.hok.fresh (Z3 _)
 refine ⟨.ref s1.heap.objs.size,upd H1 s1.heap.objs.size (.tup xs),I1.laid (t':=s1.toks) (fun b u e=>Z4 _ e) (Z3 _) ?_,rfl,q _ hf⟩
 exact ⟨z,us,r,⟨_,aas _ rfl,rfl,_,rfl⟩⟩
theorem IZ (h:PA X es t):PE X (.List es pos) (JN t):=by
 intro pins s σ H Q I hq
 refine wpAny_List_spliced (bt (h pos pins s σ H _ I hq) fun us s1 ⟨xs,H1,I1,r,z,q⟩=>⟨by rw [← r.length]; exact z,?_⟩)
 have hf:H1 s1.heap.objs.size=none:=I1.hok.fresh (Z3 _)
 refine ⟨.ref s1.heap.objs.size,upd H1 s1.heap.objs.size (.lst xs),I1.laid (t':=s1.toks) (fun b u e=>Z4 _ e) (Z3 _) ?_,rfl,q _ hf⟩
 exact ⟨z,us,0,r,aas _ rfl⟩
end
abbrev Sp:=List V->Hp->VK->XK->Prop
abbrev vO:=List Env->Hp->Shared->XK->Value->Shared->Prop
structure xr (P:Program)(w:World)(K:ZY)(mg:Str->Option Value)(base:Heap)(A:Around)(outer:List Env)(s:Shared)(H:Hp):Prop where
 frames:A.frames=some outer
 mod:Mod K mg base
 bs:∀b o,base.get? b=some o->s.heap.get? b=some o/\H b=none
 bsz:base.objs.size<=s.heap.objs.size
 hU:s.heap.FunFrames base outer
 frf:∀b∈jg outer,H b=none
 hok:fT P w H s.heap
 bare:AllBare s.gens
def CE (outer:List Env)(P:Program)(w:World)(H:Hp)(s:Shared)(Q:VK)(u:Value)(s':Shared):Prop:=
 ∃v H',s'.os=s.os/\AllBare s'.gens/\Un (jg outer) [] H H' s.heap s'.heap/\fT P w H' s'.heap/\RelV v u/\Q v H'
def CR (CX:vO)(outer:List Env)(P:Program)(w:World)(H:Hp)(s:Shared)(Q:VK)(E:XK)(r:Result)(s':Shared):Prop:=
 match r with
 | .ok (.ret u)=>CE outer P w H s Q u s'
 | .ok _=>False
 | .error e=>CX outer H s E e s'
structure aP (P:Program)(w:World)(K:ZY)(mg:Str->Option Value)(base:Heap)(CX:vO)(k:Nat)(f:Addr)(fd:aaf)(ps:List Str)(sp:Sp):Prop where
 len:∀vs H Q E,sp vs H Q E->vs.length=ps.length
 run:∀(A:Around) (outer:List Env) (s:Shared) (H:Hp) (args:Args) (us:List Value) (vs:List V) (Q:VK) (E:XK),dn k A->xr P w K mg base A outer s H->BindsTo s fd args (ps.zip us)->Vals vs us->sp vs H Q E ->
   codeAny (model P w) A (.call (.ref f) args) (CR CX outer P w H s Q E) s
theorem aP.mono {P:Program}{w:World}{K:ZY}{mg:Str->Option Value}{base:Heap}{CX:vO}{j k:Nat}{f:Addr}{fd:aaf}{ps:List Str}{sp:Sp}(F:aP P w K mg base CX j f fd ps sp)(h:j<=k) :
   aP P w K mg base CX k f fd ps sp:=⟨F.len,fun A outer s H args us vs Q E hr=>F.run A outer s H args us vs Q E (hr.mono h)⟩
section
variable {X:Cx}{pins:List (Addr×Obj)}{σ:St}{H:Hp}{s s':Shared}
theorem Inv.KY (I:Inv X pins σ H s):xr X.prog X.w X.K X.mg X.base X.A X.stack s H:=
 ⟨I.ok.frames,I.ok.mod,I.bs,Z8 I.ok.bsz I.sz,I.stack,I.qt,I.hok,I.bare⟩
theorem Inv.after {Q:VK}{u:Value}(I:Inv X pins σ H s)(h:CE X.stack X.prog X.w H s Q u s'):EP X pins σ Q u s':=by
 obtain ⟨v,H',os,bare,un,hok,r,q⟩:=h
 obtain ⟨hh,g,d,t,Yq⟩:=s'
 obtain rfl:Yq=s.os:=os
 exact ⟨v,H',I.call (h':=hh) (g':=g) (d':=d) (t':=t) (ch:=[]) un hok bare (fun b z=>absurd z (by simp)),r,q⟩
end
def nS (sp:Sp)(dvs:List V)(E:XK)(t:TA):TE:=fun σ H Q=>t σ H fun vs H1=>sp (vs++dvs) H1 Q E
def Binds (K:ZY)(fd:aaf)(ps:List Str)(ds:List Value):Prop:=
 ∀(s:Shared) (us:List Value),K.In s.heap->(us++ds).length=ps.length->BindsTo s fd ⟨us,[]⟩ (ps.zip (us++ds))
theorem Binds.all {K:ZY}{fd:aaf}{ps:List Str}(h:∀us:List Value,us.length=ps.length->bindArgs fd ⟨us,[]⟩ = pure (ps.zip us)):Binds K fd ps []:=fun s us _ hl=>by
 rw [aax] at hl ⊢
 exact .of_eq (h us hl)
def Passes (CX:vO)(X:Cx)(E:XK):Prop:=∀(pins:List (Addr×Obj)) (σ:St) (H:Hp) (s:Shared) (e:Value) (s':Shared),Inv X pins σ H s->CX X.stack H s E e s'->X.xe e s'
section
variable {X:Cx}{CX:vO}{k:Nat}{f C:Addr}{fd:aaf}{ps:List Str}{sp:Sp}{dvs:List V}{ds:List Value}{E:XK}{x m:Str}{p pos apos:Pos}{e o:Expr}{es:List Expr}{ta:TE}{t:TA}
theorem Jz {pins:List (Addr×Obj)}{σ:St}{H:Hp}{s:Shared}{Q:VK}{us:List Value}{vs:List V}(F:aP X.prog X.w X.K X.mg X.base CX k f fd ps sp)(hr:dn k X.A)(hb:Binds X.K fd ps ds)(hd:Vals dvs ds)(hx:Passes CX X E)
   (I:Inv X pins σ H s) (r:Vals vs us) (h:sp (vs++dvs) H Q E):wpAny (model X.prog X.w) X.A (call (.ref f) us) (EP X pins σ Q) X.xe s:=by
 have r2:Vals (vs++dvs) (us++ds):=r.append hd
 have hl:(us++ds).length=ps.length:=by rw [← r2.length]; exact F.len _ _ _ _ h
 refine wpAny_call (codeAny_mono (F.run X.A X.stack s H ⟨us,[]⟩ (us++ds) (vs++dvs) Q E hr I.KY (hb s us I.lV hl) r2 h) fun r s' hq=>?_)
 cases r with
 | error e=>exact hx pins σ H s e s' I hq
 | ok fl=>
   cases fl with
   | ret u=>exact I.after hq
   | next=>exact abd hq
   | brk=>exact abd hq
   | cont=>exact abd hq
theorem qc (F:aP X.prog X.w X.K X.mg X.base CX k f fd ps sp)(hr:dn k X.A)(hg:Gl X x)(hm:X.mg x=some (.ref f))(hk:aaZ X.K (.ref f)=true)(hb:Binds X.K fd ps ds)(hd:Vals dvs ds)(hx:Passes CX X E)
   (ha:PA X (e :: es) t) (hdb:(x == ("__debug__":Str))=false:=by decide) (he:starEach (e :: es) X.env=(false,eval e X.env) :: starEach es X.env:=by rfl) (hpl:(backTo pos (starEach es X.env)).any (·.1)=false:=by rfl) :
   PE X (.Call (.Name x p) (e :: es) [] pos) (nS sp dvs E t):=by
 intro pins s σ H Q I h
 refine wpAny_Call_Name_kw (jD I hg hm ?_ hdb)
 refine adO (h₀:=X.base) I.ok.mod.kin hk (bt (ha pos pins s σ H _ I h) fun us s1 ⟨vs,H1,I1,r,q⟩=>⟨I1.lV,?_⟩) he hpl
 exact Jz F hr hb hd hx I1 r q
end
structure aD (N P:List Str)(sc:Scope):Prop where
 kind:sc.kind=.function
 co:sc.isCoroutine=false
 gen:sc.isGenerator=false
 nd:N.Nodup
 pre:N.take P.length=P
 par:∀x∈P,sc.names.lookup x=some .local\/sc.names.lookup x=some .cell
 nofree:∀y∈sc.names,y.2≠.free
theorem oM {kindOf:Str->Option abO}{x:Str}:∀{binds:List (Str×Value)} {m:Str->Option Value},(∀v,(x,v) ∉ binds)->bindL kindOf binds m x=m x
 | [],_,_=>rfl
 | (n,v) :: r,m,h=>by
   unfold bindL
   rw [oM fun w hw=>h w (aaK _ hw)]
   split
   · have:x≠n:=by rintro rfl; exact h v aa6
     simp [this]
   · rfl
theorem oJ {kindOf:Str->Option abO}{x:Str}:∀{binds:List (Str×Value)} {m:Str->Option Value},(∀v,(x,v) ∉ binds)->bindC kindOf binds m x=m x
 | [],_,_=>rfl
 | (n,v) :: r,m,h=>by
   unfold bindC
   rw [oJ fun w hw=>h w (aaK _ hw)]
   split
   · rfl
   · have:x≠n:=by rintro rfl; exact h v aa6
     simp [this]
theorem oK {kindOf:Str->Option abO}{x:Str}{v:Value}:∀{P:List Str} {vs:List Value} {i:Nat} {m:Str->Option Value},P.Nodup->P[i]? = some x->vs[i]? = some v->kindOf x=some .local ->
   bindL kindOf (P.zip vs) m x=some v
 | [],_,_,_,_,h,_,_=>by simp at h
 | _ :: _,[],_,_,_,_,h,_=>by simp at h
 | p :: P,w :: vs,0,m,nd,h1,h2,hk=>by
   simp at h1 h2; subst h1; subst h2
   show bindL kindOf ((p,w) :: P.zip vs) m p=_
   unfold bindL
   rw [oM fun v hv=>(List.nodup_cons.mp nd).1 (abr hv).1,if_pos hk]
   simp
 | p :: P,w :: vs,i + 1,m,nd,h1,h2,hk=>by
   show bindL kindOf ((p,w) :: P.zip vs) m x=_
   unfold bindL
   exact oK (i:=i) (List.nodup_cons.mp nd).2 (by simpa using h1) (by simpa using h2) hk
theorem oI {kindOf:Str->Option abO}{x:Str}{v:Value}:∀{P:List Str} {vs:List Value} {i:Nat} {m:Str->Option Value},P.Nodup->P[i]? = some x->vs[i]? = some v->kindOf x≠some .local ->
   bindC kindOf (P.zip vs) m x=some v
 | [],_,_,_,_,h,_,_=>by simp at h
 | _ :: _,[],_,_,_,_,h,_=>by simp at h
 | p :: P,w :: vs,0,m,nd,h1,h2,hk=>by
   simp at h1 h2; subst h1; subst h2
   show bindC kindOf ((p,w) :: P.zip vs) m p=_
   unfold bindC
   rw [oJ fun v hv=>(List.nodup_cons.mp nd).1 (abr hv).1,if_neg hk]
   simp
 | p :: P,w :: vs,i + 1,m,nd,h1,h2,hk=>by
   show bindC kindOf ((p,w) :: P.zip vs) m x=_
   unfold bindC
   exact oI (i:=i) (List.nodup_cons.mp nd).2 (by simpa using h1) (by simpa using h2) hk
def start (N:List Str)(vs:List V):St:=vs.map some++aar (N.length - vs.length) none
def hJ (CX:vO)(P:Program)(w:World)(K:ZY)(mg:Str->Option Value)(base:Heap)(N:List Str)(qual:Str)(scope:Scope)(f:Addr)(cd:Value)(A:Around)(outer:List Env)(s:Shared)(H:Hp)(E:XK):Cx where
 prog:=P
 w:=w
 K:=K
 mg:=mg
 base:=base
 A:=A.deeper (envOfC qual scope s.heap.objs.size f cd)
 N:=N
 s₀:=s
 H₀:=H
 env:=envOfC qual scope s.heap.objs.size f cd
 outer:=outer
 stack:=envOfC qual scope s.heap.objs.size f cd :: outer
 ex:=[]
 calm:=true
 fn:=fun _=>true
 pn:=[]
 xe:=fun e s'=>wpAny (model P w) (A.deeper (envOfC qual scope s.heap.objs.size f cd)) (leaving (envOfC qual scope s.heap.objs.size f cd) e) (fun _ Rl=>CX outer H s E e Rl) (fun e' Rl=>CX outer H s E e' Rl) s'
theorem qS {sc:Scope}{n:Nat}{x:Str}(h:sc.names.lookup x=some .cell):∃c,(cellsFrom n sc.names []).lookup x=some c:=by
 have q:=acg sc.names n [] (.inl h)
 exact Option.isSome_iff_exists.mp q
theorem oT {CX:vO}{P:Program}{w:World}{K:ZY}{mg:Str->Option Value}{base:Heap}{N ps:List Str}{qual:Str}{scope:Scope}{f:Addr}{cd:Value}{A:Around}{outer:List Env}{s s1:Shared}{H:Hp}{E:XK}{us:List Value}{vs:List V}
   (S:aD N ps scope) (hd:A.handled=none) (e0:xr P w K mg base A outer s H) (hl:vs.length=ps.length) (r:Vals vs us)
   (x:InCallC s s.heap.objs.size (bindL (envOfC qual scope s.heap.objs.size f cd).kindOf (ps.zip us) fun _=>none) (cellsFrom (s.heap.objs.size + 1) scope.names []) (bindC (envOfC qual scope s.heap.objs.size f cd).kindOf (ps.zip us) fun _=>none) s1) :
   Inv (hJ CX P w K mg base N qual scope f cd A outer s H E) [] (start N vs) H s1:=by
 have hpl:ps.length<=N.length:=by have:=congrArg abD S.pre; rw [aak] at this; omega
 obtain ⟨h1,tk,rfl,hk⟩:=x.done
 have noA:∀b:Addr,b ∉ (hJ CX P w K mg base N qual scope f cd A outer s H E).ex:=fun b z=>absurd (show b∈([]:List Addr) from z) (by simp)
 refine ⟨⟨e0.mod,S.kind,rfl,rfl,Z3 _,fun y z c h1 h2=>?_,fun y hy=>?_,fun y c _ h=>?_,fun _=>hd,adK e0.frames,.inr ⟨rfl,rfl⟩,fun b z=>absurd z (noA b),e0.bs,e0.bsz,fun b _ _=>noA b,fun b z=>absurd z (noA b),e0.hU,e0.frf⟩,
   rfl,e0.bare,Un.kept hk,⟨_,x.toInCall.ns,fun i y v h1 h2 h3=>?_⟩,fun y c h=>⟨_,x.cell y c h⟩,e0.hok.fresh (Z3 _),fun y c h=>?_,fun p hp=>absurd (show p∈([]:List (Addr×Obj)) from hp) (by simp),e0.hok.kept hk,?_⟩
 · exact name_of_addr x.apart (aaM h1) (aaM h2)
 · have hy:scope.names.lookup y=some .cell\/scope.names.lookup y=some .free:=hy
   rcases hy with hy | hy
   · exact qS hy
   · exact absurd rfl (S.nofree _ (aaM hy))
 · exact aa5 (x.above y c (aaM h))
 · have hi:i < vs.length:=by
     unfold start at h2
     by_cases hi:i < vs.length
     · exact hi
     · rw [aaX (by simpa using hi)] at h2
       rw [ady] at h2
       split at h2 <;> cases h2
   have ha:vs[i]? = some v:=by
     unfold start at h2
     rw [aaJ (by simpa using hi),aaq] at h2
     cases e:vs[i]? with
     | none=>rw [e] at h2; cases h2
     | some a=>rw [e] at h2; cases h2; rfl
   obtain ⟨u,hu,rv⟩:=r.get ha
   have hp:ps[i]? = some y:=by
     rw [← S.pre,List.getElem?_take_of_lt (by omega)]; exact h1
   have TY:ps.Nodup:=by rw [← S.pre]; exact S.nd.sublist (aca _ _)
   refine ⟨u,rv,?_⟩
   rcases S.par y (aab hp) with k | k
   · exact .inl ⟨k,oK TY hp hu k⟩
   · obtain ⟨c,e⟩:=qS (n:=s.heap.objs.size + 1) k
     refine .inr ⟨.inl k,c,e,?_⟩
     have q:=x.cell y c e
     rw [oI TY hp hu (by show scope.names.lookup y≠_; rw [k]; decide)] at q
     exact q
 · exact e0.hok.fresh (aa5 (x.above y c (aaM h)))
 · unfold start
   show _=N.length
   rw [Z0,ZX,acv]
   omega
theorem z9 {CX:vO}{P:Program}{w:World}{K:ZY}{mg:Str->Option Value}{base:Heap}{k:Nat}{f:Addr}{name qual:Str}{params:Arguments}{body:List Stmt}{scope:Scope}{dV kV doc pm cdv ct oc:Value}{an od:Option Addr}
   {osl:Array (Option Value)} {N ps:List Str} {sp:Sp} (lk:K.lookup f=some ⟨oc,od,.func (abo name qual params body scope dV kV doc pm an cdv ct),osl⟩) (hcd:abK K cdv qual=true) (S:aD N ps scope)
   (len:∀vs H Q E,sp vs H Q E->vs.length=ps.length)
   (hbody:∀(A:Around) (outer:List Env) (s:Shared) (H:Hp) (vs:List V) (Q:VK) (E:XK),dn k (A.deeper (envOfC qual scope s.heap.objs.size f cdv))->sp vs H Q E ->
     ∃t,nY (hJ CX P w K mg base N qual scope f cdv A outer s H E) body t/\t { nx:=fun _ H'=>Q .bN H',rt:=Q } (start N vs) H) :
   aP P w K mg base CX (k + 1) f (abo name qual params body scope dV kV doc pm an cdv ct) ps sp:=by
 refine ⟨len,fun A outer s H args us vs Q E hr e0 hb r hsp=>?_⟩
 have hl:=len _ _ _ _ hsp
 have KX:K.In s.heap:=e0.mod.kin.keeps fun b o e=>(e0.bs b o e).1
 have lim:s.heap.NoLimit:=e0.mod.nolimit.keeps fun b o e=>(e0.bs b o e).1
 have Lq:∀y∈ps.zip us,scope.names.lookup y.1=some .local\/(scope.names.lookup y.1=some .cell/\((cellsFrom (s.heap.objs.size + 1) scope.names []).lookup y.1).isSome=true):=fun ⟨n,v⟩ hy=>by
   rcases S.par n (abr hy).1 with q | q
   · exact .inl q
   · exact .inr ⟨q,acg _ _ _ (.inl q)⟩
 refine codeAny_call_function hr.depth (KX _ _ lk) rfl S.co S.gen rfl (adN KX hcd) (hb _ _ _ _ ?_)
 refine adL S.kind Lq fun env he s1 x=>?_
 subst he
 refine ⟨lim.keeps x.toInCall.keep,codeAny_func ?_⟩
 obtain ⟨t,ht,hq⟩:=hbody A outer s H vs Q E (hr.deeper _) hsp
 have I:Inv (hJ CX P w K mg base N qual scope f cdv A outer s H E) [] (start N vs) H s1:=oT S hr.hd e0 hl r x
 refine wpAny_mono (ht [] s1 (start N vs) H _ I hq) (fun fl s' hs=>?_) fun e s' hs=>hs
 have fin:∀{σ':St} {H':Hp} {v:V} {u:Value},Inv (hJ CX P w K mg base N qual scope f cdv A outer s H E) [] σ' H' s'->RelV v u->Q v H'->CE outer P w H s Q u s':=
   fun {σ' H' v u} J rv q=>⟨v,H',J.os,J.bare,J.base,J.hok,rv,q⟩
 cases fl with
 | ret u=>
   obtain ⟨v,σ',H',J,rv,q⟩:=hs
   exact fin J rv q
 | next=>
   obtain ⟨σ',H',J,q⟩:=hs
   exact fin (v:=V.bN) (u:=acT) J rfl q
 | brk=>
   obtain ⟨_,_,_,q⟩:=hs
   exact abd q
 | cont=>
   obtain ⟨_,_,_,q⟩:=hs
   exact abd q
section
variable {X:Cx}{x:Str}{p pos:Pos}{e:Expr}{es:List Expr}{t:TA}{id T:String}{r:List V->Hp->VK->Prop}
def Ks (r:List V->Hp->VK->Prop)(t:TA):TE:=fun σ H Q=>t σ H fun vs H1=>r vs H1 Q
theorem BA (hc:dB X (.builtin id) r)(hg:Gl X x)(hm:X.mg x=none)(hv:aaS x=some (.builtin id))(ha:PA X (e :: es) t)(hn:x≠"__name__":=by decide)(hdb:(x == ("__debug__":Str))=false:=by decide)
   (he:starEach (e :: es) X.env=(false,eval e X.env) :: starEach es X.env:=by rfl) (hpl:(backTo pos (starEach es X.env)).any (·.1)=false:=by rfl):PE X (.Call (.Name x p) (e :: es) [] pos) (Ks r t):=by
 intro pins s σ H Q I h
 refine wpAny_Call_Name_kw (eN I hg hm hv ?_ hn hdb)
 exact PyProof.Rows.callWith_builtin1 (bt (ha pos pins s σ H _ I h) fun us s1 ⟨vs,H1,I1,r1,q1⟩=>hc pins s1 σ H1 vs us Q I1 r1 q1) he hpl
theorem yW (hc:dB X (.type T) r)(hg:Gl X x)(hm:X.mg x=none)(hv:aaS x=some (.type T))(ha:PA X (e :: es) t)(hn:x≠"__name__":=by decide)(hdb:(x == ("__debug__":Str))=false:=by decide)
   (he:starEach (e :: es) X.env=(false,eval e X.env) :: starEach es X.env:=by rfl) (hpl:(backTo pos (starEach es X.env)).any (·.1)=false:=by rfl):PE X (.Call (.Name x p) (e :: es) [] pos) (Ks r t):=by
 intro pins s σ H Q I h
 refine wpAny_Call_Name_kw (eN I hg hm hv ?_ hn hdb)
 exact aaE (bt (ha pos pins s σ H _ I h) fun us s1 ⟨vs,H1,I1,r1,q1⟩=>hc pins s1 σ H1 vs us Q I1 r1 q1) he hpl
end
end L2
namespace HT
open PySem PyProof.Rows
section
variable {prog:Program}{w:World}{A:Around}{E:Value->Shared->Prop}{s:Shared}
def cJ (n d:Nat):Option Int->Nat
 | none=>d
 | some v=>if v < 0 then (v + (n:Int)).toNat else min v.toNat n
theorem sP (n d:Nat):cJ n d none=d:=rfl
theorem eI (n d k:Nat):cJ n d (some (k:Int))=min k n:=by
 show (if (k:Int) < 0 then ((k:Int) + (n:Int)).toNat else min (k:Int).toNat n)=min k n
 rw [if_neg (by omega),aaT]
theorem JE (n d:Nat)(hd:d<=n)(o:Option Int):cJ n d o<=n:=by
 cases o with
 | none=>exact hd
 | some v=>
   show (if v < 0 then (v + (n:Int)).toNat else min v.toNat n)<=n
   by_cases hv:v < 0
   · rw [if_pos hv]; omega
   · rw [if_neg hv]; exact Nat.min_le_right _ _
theorem vV (v:Int)(n d:Nat):(if v < 0 then max (v + (n:Int)) 0 else min v (n:Int))=((cJ n d (some v):Nat):Int):=by
 show (if v < 0 then max (v + (n:Int)) 0 else min v (n:Int))=(((if v < 0 then (v + (n:Int)).toNat else min v.toNat n):Nat):Int)
 by_cases hv:v < 0
 · simp only [if_pos hv]; omega
 · simp only [if_neg hv]; omega
theorem tO (lo hi:Option Int)(n:Nat):abS lo hi 1 (n:Int)=(((cJ n 0 lo:Nat):Int),((cJ n n hi:Nat):Int)):=by
 have h1:¬ ((1:Int) < 0):=by omega
 unfold abS
 simp only [h1,if_false]
 refine Prod.ext ?_ ?_
 · cases lo with
   | none=>rfl
   | some v=>exact vV v n 0
 · cases hi with
   | none=>rfl
   | some v=>exact vV v n n
theorem u6 (i j:Nat):abp (i:Int) (j:Int) 1=j - i:=by
 unfold abp
 have h1:(1:Int) > 0:=by omega
 simp only [h1,if_true,ad1]
 split <;> omega
theorem nL {v:Value}{o:Option Int}{Q:Option Int->Shared->Prop}(p:IsPart v o)(h:Q o s):wpAny (model prog w) A (Builtin.Slice.slicePartIndex v) Q E s:=by
 cases p with
 | none=>exact slicePart_none h
 | int i t=>exact slicePart_int h
theorem kO {sl:Addr}{vl vu:Value}{lo hi:Option Int}{n:Nat}{Q:Int×Int×Nat->Shared->Prop}(hs:s.heap.IsSliceOf sl vl vu .none)(pl:IsPart vl lo)(pu:IsPart vu hi)
   (h:Q (((cJ n 0 lo:Nat):Int),1,cJ n n hi - cJ n 0 lo) s):wpAny (model prog w) A (acH (.ref sl) (pure (n:Int))) Q E s:=by
 obtain ⟨os,Ly,Tc,NQ⟩:=id hs
 unfold acH Builtin.Slice.sliceFields
 refine wpAny_bind (wpAny_bind (wpAny_field Ly NQ (x:=vl) rfl (wpAny_bind (wpAny_field Ly NQ (x:=vu) rfl (wpAny_bind (wpAny_field Ly NQ (x:=.none) rfl (wpAny_pure ?_)))))))
 refine wpAny_bind (slicePart_none ?_)
 show wpAny _ _ (if ((1:Int) == 0)=true then _ else _) _ _ s
 rw [if_neg (by decide)]
 refine wpAny_bind (nL pl (wpAny_bind (nL pu (wpAny_bind (wpAny_pure ?_)))))
 show wpAny _ _ (match abS lo hi 1 (n:Int) with | (lo,hi)=>pure (lo,(1:Int),abp lo hi 1)) _ _ s
 rw [tO lo hi n]
 show wpAny _ _ (pure (((cJ n 0 lo:Nat):Int),(1:Int),abp ((cJ n 0 lo:Nat):Int) ((cJ n n hi:Nat):Int) 1)) _ _ s
 rw [u6]
 exact wpAny_pure h
theorem BK (xs:Array Value)(i k:Nat):((aaA k).filterMap fun (m:Nat)=>xs[((i:Int) + (m:Int) * 1).toNat]?).toArray=((xs.toList.drop i).take k).toArray:=by
 have e:(fun (m:Nat)=>xs[((i:Int) + (m:Int) * 1).toNat]?)=fun m=>xs[i + m]?:=by
   funext m
   have:((i:Int) + (m:Int) * 1).toNat=i + m:=by omega
   rw [this]
 rw [e]
 have:=pick_run xs i k
 rw [acR] at this
 have e2:((fun x=>xs[x]?) ∘ fun x=>i + x)=fun m=>xs[i + m]?:=rfl
 rw [e2] at this
 rw [this]
theorem ju {t sl:Addr}{items:Array Value}{vl vu:Value}{lo hi:Option Int}{Q:Value->Shared->Prop}(ht:IsTup s.heap t items)(hs:s.heap.IsSliceOf sl vl vu .none)(pl:IsPart vl lo)(pu:IsPart vu hi)
   (hw:¬ (cJ items.size 0 lo=0/\cJ items.size items.size hi=items.size))
   (h:Q (.ref s.heap.objs.size) { s with heap:=s.heap.push { cls:=.type "tuple",data:=.seq ((items.toList.drop (cJ items.size 0 lo)).take (cJ items.size items.size hi - cJ items.size 0 lo)).toArray } })
   (hsz:items.size<=sizeLine):wpAny (model prog w) A (getItem (.ref t) (.ref sl)) Q E s:=by
 have wq:sizeOk (.seq ((items.toList.drop (cJ items.size 0 lo)).take (cJ items.size items.size hi - cJ items.size 0 lo)).toArray):=by
   show ((items.toList.drop (cJ items.size 0 lo)).take (cJ items.size items.size hi - cJ items.size 0 lo)).toArray.size<=sizeLine
   rw [aaa,aak,aa7,abj]
   omega
 have hj:cJ items.size items.size hi<=items.size:=JE _ _ (Z3 _) hi
 obtain ⟨os,Ly,Tc,NQ⟩:=id hs
 have Wy:s.TypeIs (.ref sl) "slice":=⟨os,Ly,Tc⟩
 unfold getItem
 try with_reducible refine wpAny_holding ?_
 first | refine wpAny_bind (wpAny_pure ?_) | skip
 refine wpAny_bind (wpAny_sequenceKey ht.typeIs (by decide) ?_)
 refine wpAny_bind (aaO (name:=aa4 "__getitem__") ht.typeIs acr
   (wpAny_call_entry acr ht.typeIs entry_tuple_getitem ?_ (args_tuple_getitem _ _)))
 show wpAny _ _ (acG (.ref t) >>= _) _ _ s
 refine wpAny_bind (tupleItemsOf_ ht ?_)
 refine wpAny_bind (wpAny_typeOf Wy ?_)
 rw [if_pos (by decide)]
 refine wpAny_bind (kO hs pl pu ?_)
 have zt:¬ ((((cJ items.size 0 lo:Nat):Int) == 0 && (1:Int) == 1 && (cJ items.size items.size hi - cJ items.size 0 lo) == items.size)=true):=by
   intro q
   rw [aaN,aaN] at q
   have q1:((cJ items.size 0 lo:Nat):Int)=0:=eq_of_beq q.1.1
   have q2:cJ items.size items.size hi - cJ items.size 0 lo=items.size:=eq_of_beq q.2
   exact hw ⟨by omega,by omega⟩
 show wpAny _ _ (if (((cJ items.size 0 lo:Nat):Int) == 0 && (1:Int) == 1 && (cJ items.size items.size hi - cJ items.size 0 lo) == items.size)=true then _ else _) _ _ s
 rw [if_neg zt,BK]
 first
   | exact wpAny_bind (m:=abt _) (wpAny_newObj_type (wpAny_pure ⟨_,rfl,wpAny_pure h⟩) wq)
   | exact wpAny_bind (m:=abt _) (wpAny_newObj_type (wpAny_bind (wpAny_pure (wpAny_pure ⟨_,rfl,wpAny_pure h⟩))) wq)
   | exact wpAny_bind (wpAny_bind (m:=abt _) (wpAny_newObj_type (wpAny_pure (wpAny_pure ⟨_,rfl,wpAny_pure h⟩)) wq))
   | exact wpAny_bind (wpAny_bind (m:=abt _) (wpAny_newObj_type (wpAny_pure ⟨_,rfl,wpAny_pure h⟩) wq))
end
end HT
namespace L2
open PySem PySem.Spec PyProof.Rows
abbrev TO:=St->Hp->(Option Int->Hp->Prop)->Prop
def PO (X:Cx)(e:Option Expr)(t:TO):Prop:=
 ∀(pins:List (Addr×Obj)) (s:Shared) (σ:St) (H:Hp) (Q:Option Int->Hp->Prop),Inv X pins σ H s->t σ H Q ->
   wpAny (model X.prog X.w) X.A (evalPart e X.env) (fun u s'=>∃o H',Inv X pins σ H' s'/\IsPart u o/\Q o H') X.xe s
def mh:TO:=fun _ H Q=>Q none H
def pE (t:TE):TO:=fun σ H Q=>t σ H fun x H1=>∃i,x=.int i/\Q (some i) H1
section
variable {X:Cx}{e:Expr}{te:TE}{lo hi:Option Expr}{tl th:TO}{pos p2:Pos}
theorem qd:PO X none mh:=by
 intro pins s σ H Q I h
 rw [ac8]
 exact wpAny_pure ⟨none,H,I,.none,h⟩
theorem jK (h:PE X e te):PO X (some e) (pE te):=by
 intro pins s σ H Q I hw
 rw [evalPart_some]
 refine bt (h pins s σ H _ I hw) fun u s1 ⟨x,H1,I1,r1,q1⟩=>?_
 obtain ⟨i,rfl,q⟩:=q1
 obtain ⟨t,rfl⟩:=r1
 exact ⟨some i,H1,I1,.int i t,q⟩
def OF (X:Cx)(r:V->Option Int->Option Int->Hp->VK->Prop):Prop:=
 ∀(pins:List (Addr×Obj)) (s:Shared) (σ:St) (H:Hp) (x:V) (v vl vu:Value) (lo hi:Option Int) (sl:Addr) (Q:VK),Inv X pins σ H s->RelV x v->s.heap.IsSliceOf sl vl vu .none->IsPart vl lo->IsPart vu hi->r x lo hi H Q ->
   ∃T id,adg (.type T) "__getitem__"=pure (some (.builtin id))/\s.TypeIs v T/\wpAny (model X.prog X.w) X.A (getItem v (.ref sl)) (EP X pins σ Q) X.xe s
def Nc (r:V->Option Int->Option Int->Hp->VK->Prop)(te:TE)(tl th:TO):TE:=fun σ H Q=>te σ H fun x H1=>tl σ H1 fun l H2=>th σ H2 fun u H3=>r x l u H3 Q
theorem jJ {r:V->Option Int->Option Int->Hp->VK->Prop}(hr:OF X r)(he:PE X e te)(hl:PO X lo tl)(hu:PO X hi th):PE X (.Subscript e (.Slice lo hi none p2) pos) (Nc r te tl th):=by
 intro pins s σ H Q I h
 refine adh (bt (he pins s σ H _ I h) fun v s1 ⟨x,H1,I1,r1,q1⟩=>?_)
 refine wpAny_Slice (bt (hl pins s1 σ H1 _ I1 q1) fun vl s2 ⟨l,H2,I2,pl,q2⟩=>bt (hu pins s2 σ H2 _ I2 q2) fun vu s3 ⟨u,H3,I3,pu,q3⟩=>?_)
 rw [ac8]
 refine wpAny_pure ?_
 have I4:Inv X pins σ H3 { s3 with heap:=s3.heap.push { cls:=.type "slice",data:=.fields #[vl,vu,.none] } }:=I3.kept (t':=s3.toks) fun b ob q=>Z4 _ q
 obtain ⟨T,id,hT,ht,hg⟩:=hr pins { s3 with heap:=s3.heap.push { cls:=.type "slice",data:=.fields #[vl,vu,.none] } } σ H3 x v vl vu l u s3.heap.objs.size Q I4 r1 (aci ..) pl pu q3
 show wpAny (model X.prog X.w) X.A (subscriptTail e (.Slice lo hi none p2) v (.ref s3.heap.objs.size)) (EP X pins σ Q) X.xe { s3 with heap:=s3.heap.push { cls:=.type "slice",data:=.fields #[vl,vu,.none] } }
 exact tail_any (ops:=[.ref s3.heap.objs.size,v]) ht hT hg (by with_unfolding_all rfl)
def kj (xs:List V)(lo hi:Option Int):List V:=(xs.drop (HT.cJ xs.length 0 lo)).take (HT.cJ xs.length xs.length hi - HT.cJ xs.length 0 lo)
theorem kT (xs:List V)(lo hi:Option Int):(kj xs lo hi).length<=xs.length:=by
 unfold kj
 rw [aak,aa7]
 omega
def MD (K:ZY):V->Option Int->Option Int->Hp->VK->Prop:=fun x lo hi H Q=>∃a xs,x=.ref a/\aK K H a xs /\
 ¬ (HT.cJ xs.length 0 lo=0/\HT.cJ xs.length xs.length hi=xs.length)/\∀p,H p=none->Q (.ref p) (upd H p (.tup (kj xs lo hi)))
theorem JK:OF X (MD X.K):=by
 intro pins s σ H x v vl vu lo hi sl Q I rx hs pl pu h
 obtain ⟨a,xs,rfl,hx,hw,q⟩:=h
 cases rx
 obtain ⟨its,r,ht,hz⟩:=I.tuple hx
 have hlen:its.toArray.size=xs.length:=by rw [aaa]; exact r.length.symm
 refine ⟨"tuple",_,PyProof.Rows.slot_tuple_getitem.lookup,ht.typeIs,?_⟩
 refine HT.ju ht hs pl pu (by rw [hlen]; exact hw) ?_ (by rw [hlen]; exact hz)
 rw [hlen]
 refine ⟨.ref s.heap.objs.size,_,I.laid (t':=s.toks) (o:=.tup (kj xs lo hi)) (fun b ob q=>Z4 _ q) (Z3 _) ?_,rfl,q _ (I.hok.fresh (Z3 _))⟩
 exact ⟨Z8 (kT xs lo hi) hz,_,(r.drop (HT.cJ xs.length 0 lo)).take (HT.cJ xs.length xs.length hi - HT.cJ xs.length 0 lo),IsTup.new _ _⟩
end
def AX (n:Nat)(i:Int):Option Nat:=if 0<=i then (if i < n then some i.toNat else none) else if -(n:Int)<=i then some (i + n).toNat else none
def lQ {α:Type}(xs:List α)(i:Int):Option α:=(AX xs.length i).bind fun j=>xs[j]?
theorem pX {n:Nat}{i:Int}{j:Nat}(h:AX n i=some j):seqIndex? i n=some j/\j < n /\ -(n:Int)<=i/\i < n:=by
 unfold AX at h
 by_cases h0:0<=i
 · rw [if_pos h0] at h
   by_cases h1:i < n
   · rw [if_pos h1] at h
     have e:i.toNat=j:=aap h
     exact ⟨by rw [seqIndex_of h0 h1,e],by omega,by omega,h1⟩
   · rw [if_neg h1] at h; cases h
 · rw [if_neg h0] at h
   by_cases h1 : -(n:Int)<=i
   · rw [if_pos h1] at h
     have e:(i + n).toNat=j:=aap h
     exact ⟨by rw [seqIndex_neg (by omega) h1,e],by omega,h1,by omega⟩
   · rw [if_neg h1] at h; cases h
theorem cF {α:Type}{xs:List α}{i:Int}{v:α}(h:lQ xs i=some v):∃j,seqIndex? i xs.length=some j/\xs[j]? = some v/\j < xs.length /\ -(xs.length:Int)<=i/\i < xs.length:=by
 unfold lQ at h
 cases e:AX xs.length i with
 | none=>rw [e] at h; cases h
 | some j=>
   rw [e] at h
   obtain ⟨h1,h2,h3,h4⟩:=pX e
   exact ⟨j,h1,h,h2,h3,h4⟩
theorem gN {α:Type}{xs:List α}{j:Nat}{v:α}(h:xs[j]? = some v):lQ xs (j:Int)=some v:=by
 have hj:j < xs.length:=(List.getElem?_eq_some_iff.mp h).1
 have e:AX xs.length (j:Int)=some j:=by
   unfold AX
   rw [if_pos (by omega),if_pos (by omega)]; simp
 unfold lQ; rw [e]; exact h
def vR (b:Expr):Prop:=∀o i,subscripted b false o i=operate [o,i] (getItem o i)
def Nq (X:Cx)(r:R2):Prop:=
 ∀(value slice:Expr) (pins:List (Addr×Obj)) (s:Shared) (σ:St) (H:Hp) (x y:V) (v u:Value) (Q:VK),Inv X pins σ H s->RelV x v->RelV y u->r x y H Q ->
   subscripted slice false v u=operate [v,u] (getItem v u)->wpAny (model X.prog X.w) X.A (subscriptTail value slice v u) (EP X pins σ Q) X.xe s
def Nt (X:Cx)(id:String)(r:V->List V->Hp->VK->Prop):Prop:=
 ∀(pins:List (Addr×Obj)) (s:Shared) (σ:St) (H:Hp) (x:V) (xs:List V) (v:Value) (us:List Value) (Q:VK),Inv X pins σ H s->RelV x v->Vals xs us->r x xs H Q ->
   wpAny (model X.prog X.w) X.A (call (.builtin id) (v :: us)) (EP X pins σ Q) X.xe s
section
variable {X:Cx}{a b:Expr}{ta tb:TE}{pos:Pos}
theorem Mm {r:R2}(hr:Nq X r)(ha:PE X a ta)(hb:PE X b tb)(hs:vR b):PE X (.Subscript a b pos) (Gz r ta tb):=by
 intro pins s σ H Q I h
 exact adh (GW ha hb I h fun v u s2 x y H2 I2 rx ry q=>hr a b pins s2 σ H2 x y v u Q I2 rx ry q (hs _ _))
def MA (K:ZY):R2:=fun x y H Q=>∃p xs i v,x=.ref p/\y=.int i/\ao K H p xs/\lQ xs i=some v/\Q v H
def MB (K:ZY):R2:=fun x y H Q=>∃p xs i v,x=.ref p/\y=.int i/\aK K H p xs/\lQ xs i=some v/\Q v H
theorem DY:Nq X (MA X.K):=by
 intro value slice pins s σ H x y v u Q I rx ry h hs
 obtain ⟨p,xs,i,z,rfl,rfl,hq,he,q⟩:=h
 cases rx
 obtain ⟨t,rfl⟩:=ry
 obtain ⟨its,r,pl,hz⟩:=I.list hq
 obtain ⟨j,h1,h2,h3,h4,h5⟩:=cF he
 obtain ⟨w,ew,rw'⟩:=r.get h2
 have hl:=r.length
 have hn:=nh
 have fin:EP X pins σ Q w s:=⟨z,H,I,rw',q⟩
 by_cases h0:0<=i
 · have hj:i.toNat=j:=by
     rw [seqIndex_of h0 h5] at h1
     exact aap h1
   exact item_listR pl.isList h0 (by omega) (by rw [hj]; simpa using ew) fin hs
 · have hj:(i + (its.toArray.size:Int)).toNat=j:=by
     rw [seqIndex_neg (by omega) h4] at h1
     rw [aaa,← hl]
     exact aap h1
   exact subscriptTail_builtinR (x:=w) pl.isList.typeIs slot_list_getitem.lookup
     (wpAny_getItem_list_neg (Q:=fun r s'=>r=w/\EP X pins σ Q r s') pl.isList (by omega) (by rw [aaa] <;> omega) (by omega) (by rw [hj]; simpa using ew) ⟨rfl,fin⟩) hs
theorem HU:Nq X (MB X.K):=by
 intro value slice pins s σ H x y v u Q I rx ry h hs
 obtain ⟨p,xs,i,z,rfl,rfl,hq,he,q⟩:=h
 cases rx
 obtain ⟨t,rfl⟩:=ry
 obtain ⟨its,r,pl,hz⟩:=I.tuple hq
 obtain ⟨j,h1,h2,h3,h4,h5⟩:=cF he
 obtain ⟨w,ew,rw'⟩:=r.get h2
 have hl:=r.length
 have hn:=nh
 have fin:EP X pins σ Q w s:=⟨z,H,I,rw',q⟩
 exact subscriptTail_builtinR (x:=w) pl.typeIs slot_tuple_getitem.lookup
   (getItem_tuple (j:=j) (Q:=fun r s'=>r=w/\EP X pins σ Q r s') pl (by omega) (by omega) (by rw [aaa,← hl]; exact h1) (by simpa using ew) ⟨rfl,fin⟩) hs
theorem uO (its:List Value)(n j:Nat)(u:Value):acZ (·.setIfInBounds j u) { cls:=.type "list",data:=.seq its.toArray n }={ cls:=.type "list",data:=.seq (its.set j u).toArray n }:=by
 simp [acZ]
theorem Inv.lst {pins:List (Addr×Obj)}{σ:St}{H:Hp}{s:Shared}{p:Addr}{xs:List V}(I:Inv X pins σ H s)(h:H p=some (.lst xs)) :
   ∃(its:List Value) (n:Nat),Vals xs its/\s.heap.get? p=some { cls:=.type "list",data:=.seq its.toArray n }/\xs.length<=sizeLine:=by
 obtain ⟨z,its,n,r,e⟩:=I.hok p _ h
 exact ⟨its,n,r,e,z⟩
theorem Inv.Ia {pins:List (Addr×Obj)}{σ:St}{H:Hp}{s:Shared}{p:Addr}{xs ys:List V}{its its':List Value}{n n':Nat}{f:Obj->Obj}(I:Inv X pins σ H s)(h:H p=some (.lst xs))
   (ho:s.heap.get? p=some { cls:=.type "list",data:=.seq its.toArray n }) (hf:f { cls:=.type "list",data:=.seq its.toArray n }={ cls:=.type "list",data:=.seq its'.toArray n' }) (r:Vals ys its') (hz:ys.length<=sizeLine) (t:Nat) :
   Inv X pins σ (upd H p (.lst ys)) { s with heap:=s.heap.update p f,toks:=t }:=by
 have e:(s.heap.update p f).get? p=some { cls:=.type "list",data:=.seq its'.toArray n' }:=by
   rw [acw f ho (by rw [hf] <;> rfl),hf]
 refine I.write (x:=p) (e:=p) (by rw [h]; trivial) (.inl rfl) (fun b u hb q=>(adI _ _ (Ne.symm hb)).trans q) ⟨_,e⟩ ?_
 exact ⟨hz,its',n',r,e⟩
def Ge:V->V->V->Hp->(Hp->Prop)->Prop:=fun o i v H Q=>∃p xs k j,o=.ref p/\i=.int k/\H p=some (.lst xs)/\AX xs.length k=some j/\Q (upd H p (.lst (xs.set j v)))
theorem set_list:KC X Ge:=by
 intro pins s σ H o i v ov iv u Q I ro ri rv h
 obtain ⟨p,xs,k,j,rfl,rfl,hp,hj,q⟩:=h
 cases ro
 obtain ⟨t,rfl⟩:=ri
 obtain ⟨its,n,r,ho,hz⟩:=I.lst hp
 obtain ⟨h1,h2,h3,h4⟩:=pX hj
 have hl:=r.length
 have hn:=nh
 have I':Inv X pins σ (upd H p (.lst (xs.set j v))) { s with heap:=s.heap.update p (acZ (·.setIfInBounds j u)) }:=
   I.Ia hp ho (uO its n j u) (r.set rv j) (by rw [abZ]; exact hz) s.toks
 by_cases h0:0<=k
 · have hk:k.toNat=j:=by
     rw [seqIndex_of h0 h4] at h1
     exact aap h1
   exact PySem.W.ki_setAt ho h0 (by omega) (by rw [aaa,← hl]; exact h4) (by rw [hk]; exact ⟨_,I',q⟩)
 · have hk:(k + (its.toArray.size:Int)).toNat=j:=by
     rw [seqIndex_neg (by omega) h3] at h1
     rw [aaa,← hl]
     exact aap h1
   exact PySem.W.ki_setBack ho (by omega) (by rw [aaa,← hl]; exact h3) (by omega) (by rw [hk]; exact ⟨_,I',q⟩)
theorem qk (lo hi:Option Int)(n:Nat):(sliceBounds lo hi none n).1=((HT.cJ n 0 lo:Nat):Int)/\(sliceBounds lo hi none n).2.1=((HT.cJ n n hi:Nat):Int)/\(sliceBounds lo hi none n).2.2=1:=by
 refine ⟨?_,?_,rfl⟩
 · cases lo with
   | none=>simp [sliceBounds,HT.cJ]
   | some i=>
     simp only [sliceBounds,HT.cJ,Option.getD_none,show (1:Int) > 0 by decide,if_true]
     by_cases h:i < 0
     · simp only [h,if_true] <;> omega
     · simp only [h,if_false] <;> omega
 · cases hi with
   | none=>simp [sliceBounds,HT.cJ]
   | some i=>
     simp only [sliceBounds,HT.cJ,Option.getD_none,show (1:Int) > 0 by decide,if_true]
     by_cases h:i < 0
     · simp only [h,if_true] <;> omega
     · simp only [h,if_false] <;> omega
theorem oD (its:List Value)(lo hi:Option Int):acI its.toArray lo hi none=((its.drop (HT.cJ its.length 0 lo)).take (HT.cJ its.length its.length hi - HT.cJ its.length 0 lo)).toArray:=by
 obtain ⟨h1,h2,h3⟩:=qk lo hi its.toArray.size
 unfold acI
 rw [h1,h2,h3]
 simp only [sliceRange_one,pick_run,aaa] <;> rfl
def EZ (K:ZY):V->Option Int->Option Int->Hp->VK->Prop:=fun x lo hi H Q=>∃a xs,x=.ref a/\ao K H a xs/\∀p,H p=none->Q (.ref p) (upd H p (.lst (kj xs lo hi)))
theorem qj:OF X (EZ X.K):=by
 intro pins s σ H x v vl vu lo hi sl Q I rx hs pl pu h
 obtain ⟨a,xs,rfl,hx,q⟩:=h
 cases rx
 obtain ⟨its,r,ht,hz⟩:=I.list hx
 have hlen:=r.length
 refine ⟨"list",_,slot_list_getitem.lookup,ht.isList.typeIs,?_⟩
 refine acq ht.isList hs pl pu .none (by simp) ?_ (by rw [aaa] <;> omega)
 rw [oD,← hlen]
 refine ⟨.ref s.heap.objs.size,_,I.laid (t':=s.toks) (o:=.lst (kj xs lo hi)) (fun b ob q=>Z4 _ q) (Z3 _) ?_,rfl,q _ (I.hok.fresh (Z3 _))⟩
 exact ⟨Z8 (kT xs lo hi) hz,_,0,(r.drop (HT.cJ xs.length 0 lo)).take (HT.cJ xs.length xs.length hi - HT.cJ xs.length 0 lo),aas _ rfl⟩
def ck:V->Bool
 | .bN=>true
 | .bl _=>true
 | .int _=>true
 | .str _=>true
 | _=>false
def kl:V->V->Bool
 | .bN,.bN=>true
 | .bl a,.bl b=>a == b
 | .bl a,.int b=>(if a then 1 else 0) == b
 | .int a,.bl b=>a == (if b then 1 else 0)
 | .int a,.int b=>a == b
 | .str a,.str b=>a == b
 | _,_=>false
theorem tX {A:Around}{s:Shared}{y x:V}{u v:Value}(ry:RelV y u)(rx:RelV x v)(fy:ck y=true)(fx:ck x=true):SeqAt.EqAt A s u v (kl y x):=by
 cases y with
 | bN=>
   cases ry
   cases x with
   | bN=>cases rx; exact SeqAt.EqAt.same _
   | bl b=>cases rx; exact SeqAt.EqAt.none_bool b
   | int b=>obtain ⟨t,rfl⟩:=rx; exact SeqAt.EqAt.none_int b t
   | str b=>obtain ⟨t,rfl⟩:=rx; exact SeqAt.EqAt.none_str b t
   | _=>exact absurd (show false=true from fx) aag
 | bl a=>
   cases ry
   cases x with
   | bN=>cases rx; exact SeqAt.EqAt.bool_none a
   | bl b=>cases rx; exact SeqAt.EqAt.bool_bool a b
   | int b=>obtain ⟨t,rfl⟩:=rx; exact SeqAt.EqAt.bool_int a b t
   | str b=>obtain ⟨t,rfl⟩:=rx; exact SeqAt.EqAt.bool_str a b t
   | _=>exact absurd (show false=true from fx) aag
 | int a=>
   obtain ⟨t',rfl⟩:=ry
   cases x with
   | bN=>cases rx; exact SeqAt.EqAt.int_none a t'
   | bl b=>cases rx; exact SeqAt.EqAt.int_bool a t' b
   | int b=>obtain ⟨t,rfl⟩:=rx; exact SeqAt.EqAt.int_int a t' b t
   | str b=>obtain ⟨t,rfl⟩:=rx; exact adw a t' b t
   | _=>exact absurd (show false=true from fx) aag
 | str a=>
   obtain ⟨t',rfl⟩:=ry
   cases x with
   | bN=>cases rx; exact SeqAt.EqAt.str_none a t'
   | bl b=>cases rx; exact SeqAt.EqAt.str_bool a t' b
   | int b=>obtain ⟨t,rfl⟩:=rx; exact adv a t' b t
   | str b=>obtain ⟨t,rfl⟩:=rx; exact SeqAt.EqAt.str_str a t' b t
   | _=>exact absurd (show false=true from fx) aag
 | _=>exact absurd (show false=true from fy) aag
def tY (x:V)(u:Value):Bool:=match u with
 | .none=>kl .bN x
 | .bool b=>kl (.bl b) x
 | .int i _=>kl (.int i) x
 | .str z _=>kl (.str z) x
 | _=>false
theorem zW {x y:V}{u:Value}(r:RelV y u)(f:ck y=true):tY x u=kl y x:=by
 cases y with
 | bN=>cases r; rfl
 | bl b=>cases r; rfl
 | int i=>obtain ⟨t,rfl⟩:=r; rfl
 | str z=>obtain ⟨t,rfl⟩:=r; rfl
 | _=>exact absurd (show false=true from f) aag
theorem jd {x:V}:∀{xs:List V} {us:List Value},Vals xs us->xs.all ck=true->us.any (tY x)=xs.any fun y=>kl y x
 | _,_,.nil,_=>rfl
 | y :: xs,u :: us,.cons r t,f=>by
   rw [acS,aaN] at f
   rw [abw,abw,zW r f.1,jd t f.2]
theorem gj {A:Around}{s:Shared}{x:V}{v:Value}(rx:RelV x v)(fx:ck x=true):∀{xs:List V} {us:List Value},Vals xs us->xs.all ck=true->∀u∈us,SeqAt.EqAt A s u v (tY x u)
 | _,_,.nil,_=>fun u hu=>by cases hu
 | y :: xs,u :: us,.cons r t,f=>fun u' hu=>by
   rw [acS,aaN] at f
   rcases List.mem_cons.mp hu with rfl | hu
   · rw [zW r f.1]; exact tX r rx f.1 fx
   · exact gj rx fx t f.2 u' hu
def zu (x:V)(xs:List V):Bool:=xs.any fun y=>kl y x
def Oa (K:ZY)(neg:Bool):R2:=fun x y H Q=>∃p xs,y=.ref p/\(ao K H p xs\/aK K H p xs)/\ck x=true/\xs.all ck=true/\Q (.bl (if neg then !zu x xs else zu x xs)) H
theorem yR:hG X (compareOp .In) (Oa X.K false):=by
 intro pins s σ H x y v u Q I rx ry h
 obtain ⟨p,xs,rfl,hq,fx,fs,q⟩:=h
 cases ry
 rcases hq with hq | hq
 · obtain ⟨its,r,pl,hz⟩:=I.list hq
   refine SeqAt.in_listAt (tY x) pl.isList (fun w hw=>gj rx fx r fs w (by simpa using hw)) ⟨.bl _,H,I,rfl,?_⟩
   rw [show its.toArray.any (tY x)=its.any (tY x) by simp,jd r fs]
   exact q
 · obtain ⟨its,r,pl,hz⟩:=I.tuple hq
   refine SeqAt.in_tupleAt (tY x) pl (fun w hw=>gj rx fx r fs w (by simpa using hw)) ⟨.bl _,H,I,rfl,?_⟩
   rw [show its.toArray.any (tY x)=its.any (tY x) by simp,jd r fs]
   exact q
theorem qb:hG X (compareOp .NotIn) (Oa X.K true):=by
 intro pins s σ H x y v u Q I rx ry h
 obtain ⟨p,xs,rfl,hq,fx,fs,q⟩:=h
 cases ry
 rcases hq with hq | hq
 · obtain ⟨its,r,pl,hz⟩:=I.list hq
   refine SeqAt.notIn_listAt (tY x) pl.isList (fun w hw=>gj rx fx r fs w (by simpa using hw)) ⟨.bl _,H,I,rfl,?_⟩
   rw [show its.toArray.any (tY x)=its.any (tY x) by simp,jd r fs]
   exact q
 · obtain ⟨its,r,pl,hz⟩:=I.tuple hq
   refine SeqAt.notIn_tupleAt (tY x) pl (fun w hw=>gj rx fx r fs w (by simpa using hw)) ⟨.bl _,H,I,rfl,?_⟩
   rw [show its.toArray.any (tY x)=its.any (tY x) by simp,jd r fs]
   exact q
theorem pL:dB X (.builtin "len") (fun xs H Q=>∃p ys,xs=[.ref p]/\(ao X.K H p ys\/aK X.K H p ys)/\Q (.int ys.length) H):=by
 intro pins s σ H xs us Q I r h
 obtain ⟨p,ys,rfl,hq,q⟩:=h
 obtain ⟨u,rfl,rx⟩:=vals1 r
 cases rx
 have hn:=nh
 rcases hq with hq | hq
 · obtain ⟨its,r',pl,hz⟩:=I.list hq
   have hlen:=r'.length
   exact Calls.call_len_list pl.isList (by simp only [aaa] <;> omega) ⟨.int ys.length,H,I.tok _,⟨s.toks + 1,by rw [aaa,hlen]⟩,q⟩
 · obtain ⟨its,r',pl,hz⟩:=I.tuple hq
   have hlen:=r'.length
   exact len_tuple pl (by simp only [aaa] <;> omega) ⟨.int ys.length,H,I.tok _,⟨s.toks + 1,by rw [aaa,hlen]⟩,q⟩
theorem pM:dB X (.type "list") (fun xs H Q=>∃p ys,xs=[.ref p]/\(ao X.K H p ys\/aK X.K H p ys)/\∀l,H l=none->Q (.ref l) (upd H l (.lst ys))):=by
 intro pins s σ H xs us Q I r h
 obtain ⟨p,ys,rfl,hq,q⟩:=h
 obtain ⟨u,rfl,rx⟩:=vals1 r
 cases rx
 have fin:∀(its:List Value),Vals ys its->ys.length<=sizeLine->∀(h':Heap) (c':Nat),(∀b o',s.heap.get? b=some o'->h'.get? b=some o') ->
     h'.get? s.heap.objs.size=some { cls:=.type "list",dict:=none,data:=.seq its.toArray c',slots:=#[] }->EP X pins σ Q (.ref s.heap.objs.size) { s with heap:=h' }:=fun its r' hz h' c' kp e=>
   ⟨.ref s.heap.objs.size,_,I.laid (t':=s.toks) kp (Z3 _) (show bp X.prog X.w _ h' _ (.lst ys) from ⟨hz,its,c',r',e⟩),rfl,q _ (I.hok.fresh (Z3 _))⟩
 rcases hq with hq | hq
 · obtain ⟨its,r',pl,hz⟩:=I.list hq
   have hlen:=r'.length
   obtain ⟨o,ho,hc,n,hd⟩:=pl.isList
   exact call_list_seq p (.inl rfl) ho hc hd (fun h' c' kp e=>fin its r' hz h' c' kp e) (by simp only [aaa] <;> omega)
 · obtain ⟨its,r',pl,hz⟩:=I.tuple hq
   have hlen:=r'.length
   obtain ⟨o,ho,hc,n,hd⟩:=pl
   exact call_list_seq p (.inr rfl) ho hc hd (fun h' c' kp e=>fin its r' hz h' c' kp e) (by simp only [aaa] <;> omega)
theorem oh:dB X (.type "tuple") (fun xs H Q=>∃p ys,xs=[.ref p]/\((ao X.K H p ys/\∀l,H l=none->Q (.ref l) (upd H l (.tup ys)))\/(aK X.K H p ys/\Q (.ref p) H))):=by
 intro pins s σ H xs us Q I r h
 obtain ⟨p,ys,rfl,h⟩:=h
 obtain ⟨u,rfl,rx⟩:=vals1 r
 cases rx
 rcases h with ⟨hq,q⟩ | ⟨hq,q⟩
 · obtain ⟨its,r',pl,hz⟩:=I.list hq
   have hlen:=r'.length
   refine call_tuple_list pl.isList (fun h' kp=>?_) (by simp only [aaa] <;> omega)
   have I1:Inv X pins σ H { s with heap:=h' }:=I.kept (t':=s.toks) kp
   have I2:Inv X pins σ (upd H h'.objs.size (.tup ys)) { s with heap:=h'.push { cls:=.type "tuple",data:=.seq its.toArray } }:=
     I1.laid (t':=s.toks) (fun b o e=>Z4 _ e) (Z3 _) (show bp X.prog X.w _ _ _ (.tup ys) from ⟨hz,its,r',IsTup.new _ _⟩)
   exact ⟨.ref h'.objs.size,_,I2,rfl,q _ (I1.hok.fresh (Z3 _))⟩
 · obtain ⟨its,r',pl,hz⟩:=I.tuple hq
   exact call_tuple_same pl ⟨.ref p,H,I,rfl,q⟩
def UH (K:ZY)(T:String)(x:V)(H:Hp):Prop:=match x with
 | .str _=>T="str"
 | .int _=>T="int"
 | .ref p=>(T="list"/\∃xs,ao K H p xs)\/(T="tuple"/\∃o,K.lookup p=some o/\o.cls=.type "tuple"/\o.dict=none) \/
     (T="dict"/\((∃kvs,H p=some (.dK kvs))\/∃kvs,H p=some (.dT kvs)))\/(T="set"/\∃S n,H p=some (.set S n))
 | _=>False
theorem JR {pins:List (Addr×Obj)}{σ:St}{H:Hp}{s:Shared}{T:String}{x:V}{v:Value}(I:Inv X pins σ H s)(r:RelV x v)(ty:UH X.K T x H) :
   s.TypeIs v T/\∀a,v=.ref a->∃ob,s.heap.get? a=some ob/\ob.dict=none:=by
 cases x with
 | str z=>
   obtain ⟨t,rfl⟩:=r
   cases (show T="str" from ty)
   exact ⟨typeIs_str s z t,fun _ e=>nomatch e⟩
 | int i=>
   obtain ⟨t,rfl⟩:=r
   cases (show T="int" from ty)
   exact ⟨typeIs_int s i t,fun _ e=>nomatch e⟩
 | ref p=>
   cases r
   rcases ty with ⟨rfl,xs,hq⟩ | ⟨rfl,o,hk,hc,hd⟩ | ⟨rfl,hk⟩ | ⟨rfl,S,n,hk⟩
   · obtain ⟨its,_,pl,_⟩:=I.list hq
     refine ⟨pl.isList.typeIs,fun a e=>?_⟩
     cases e
     obtain ⟨o,n,e,c,hd,_⟩:=pl
     exact ⟨o,e,hd⟩
   · refine ⟨⟨o,I.lV p o hk,hc⟩,fun a e=>?_⟩
     cases e
     exact ⟨o,I.lV _ o hk,hd⟩
   · have z:∃o,s.heap.get? p=some o/\o.ExactDict:=by
       rcases hk with ⟨kvs,hk⟩ | ⟨kvs,hk⟩
       · obtain ⟨_,_,_,_,o,_,_,e,ex,_⟩:=I.hok p _ hk
         exact ⟨o,e,ex⟩
       · obtain ⟨_,_,_,_,o,_,_,e,ex,_⟩:=I.hok p _ hk
         exact ⟨o,e,ex⟩
     obtain ⟨o,e,ex⟩:=z
     refine ⟨⟨o,e,ex.1⟩,fun a e2=>?_⟩
     cases e2
     exact ⟨o,e,ex.2.1⟩
   · obtain ⟨o,_,_,_,e,ex,_⟩:=I.hok p _ hk
     refine ⟨⟨o,e,ex.1⟩,fun a e2=>?_⟩
     cases e2
     exact ⟨o,e,ex.2.1⟩
 | _=>exact abd ty
def Gr (K:ZY)(T:String)(r:V->List V->Hp->VK->Prop)(to:TE)(t:TA):TE:=fun σ H Q=>to σ H fun x H1=>UH K T x H1/\t σ H1 fun xs H2=>r x xs H2 Q
variable {o e:Expr}{es:List Expr}{to:TE}{t:TA}{name:Str}{apos cpos:Pos}{T id:String}{r:V->List V->Hp->VK->Prop}
theorem Ga (pa:PlainAttrs T)(slot:Slot T name id)(hty:typeOf (.builtin id)=pure (.type "method_descriptor"))(hm:Nt X id r)(ho:PE X o to)(ha:PA X (e :: es) t)
   (hbase:abf o name X.env (eval o X.env)=eval o X.env:=by rfl)
   (hfew:((backTo cpos (starEach (e :: es) X.env)).all (fun x=>!x.1) && (backToKw cpos (keywordEach [] X.env)).all (fun x=>x.1.isSome)
     && decide ((e :: es).length + ([]:List Keyword).length + (if ([]:List Keyword).isEmpty then 0 else 1) < 30))=true:=by rfl)
   (hline:(apos.endLine == cpos.line)=true:=by rfl) (hs:starEach (e :: es) X.env=(false,eval e X.env) :: starEach es X.env:=by rfl) (hplain:(backTo cpos (starEach es X.env)).any (·.1)=false:=by rfl) :
   PE X (.Call (.Attribute o name apos) (e :: es) [] cpos) (Gr X.K T r to t):=by
 intro pins s σ H Q I h
 refine wpAny_Call_method_late hbase hfew hline rfl (bt (ho pins s σ H _ I h) fun v s1 ⟨x,H1,I1,r1,ty,q1⟩=>?_)
 obtain ⟨h1,h2⟩:=JR I1 r1 ty
 refine ⟨T,id,pa,slot,hty,h1,h2,?_⟩
 have hA:=ha cpos pins s1 σ H1 _ I1 q1
 rw [hs] at hA ⊢
 refine acp (by show (false || (backTo cpos (starEach es X.env)).any (·.1))=false; rw [hplain] <;> rfl) (abU ?_)
 exact bt hA fun us s2 ⟨vs,H2,I2,r2,q2⟩=>hm pins s2 σ H2 x vs v us Q I2 r1 r2 q2
end
def Nr (X:Cx)(id:String)(r:V->List V->Hp->VK->Prop):Prop:=
 ∀(pins:List (Addr×Obj)) (s:Shared) (σ:St) (H:Hp) (x:V) (xs:List V) (v:Value) (us:List Value) (Q:VK),Inv X pins σ H s->RelV x v->Vals xs us->r x xs H Q ->
   wpAny (model X.prog X.w) X.A (call (.builtin id) (v :: us)) (EP X pins σ Q) X.xe s
theorem Vals.one:∀{x:V} {us:List Value},Vals [x] us->∃u,us=[u]/\RelV x u
 | _,_,.cons r .nil=>⟨_,rfl,r⟩
theorem Vals.two:∀{x y:V} {us:List Value},Vals [x,y] us->∃u v,us=[u,v]/\RelV x u/\RelV y v
 | _,_,_,.cons r (.cons q .nil)=>⟨_,_,rfl,r,q⟩
theorem Vals.eraseIdx:∀{xs:List V} {us:List Value} (i:Nat),Vals xs us->Vals (xs.eraseIdx i) (us.eraseIdx i)
 | _,_,_,.nil=>.nil
 | _,_,0,.cons _ t=>t
 | _,_,i + 1,.cons r t=>.cons r (Vals.eraseIdx i t)
theorem Vals.reverse {xs:List V}{us:List Value}(h:Vals xs us):Vals xs.reverse us.reverse:=by
 induction h with
 | nil=>exact .nil
 | cons r t ih=>rw [acb,acb]; exact Vals.append ih (.cons r .nil)
theorem Vals.rep {xs:List V}{us:List Value}(h:Vals xs us):∀k:Nat,Vals (aar k xs).flatten (aar k us).flatten
 | 0=>.nil
 | k + 1=>by
   rw [abC,abC,acd,acd]
   exact Vals.append h (Vals.rep h k)
theorem oW {α:Type}:∀(l:List α) (i:Nat),(l.eraseIdx i).length<=l.length
 | [],_=>Z3 _
 | _ :: _,0=>Nat.le_succ _
 | _ :: r,i + 1=>Nat.succ_le_succ (oW r i)
theorem foldl_rep (its:List Value):∀(k:Nat) (acc:List Value),
   List.foldl (fun x1 x2=>x1++x2) acc.toArray (aar k its.toArray)=(acc++(aar k its).flatten).toArray
 | 0,acc=>by simp
 | k + 1,acc=>by
   have e:acc.toArray++its.toArray=(acc++its).toArray:=by simp
   have e2:(acc++its)++(aar k its).flatten=acc++(aar (k + 1) its).flatten:=by
     rw [abC,acd,ace]
   rw [← e2,← foldl_rep its k (acc++its),← e,abC,List.foldl_cons]
section
variable {X:Cx}{pins:List (Addr×Obj)}{σ:St}{H:Hp}{s:Shared}{l b:Addr}{xs ys zs:List V}
theorem Inv.D5 {its its':List Value}{n:Nat}{f:Array Value->Array Value}{t':Nat}(I:Inv X pins σ H s)(hH:H l=some (.lst xs))
   (e:s.heap.get? l=some { cls:=.type "list",data:=.seq its.toArray n }) (hf:f its.toArray=its'.toArray) (hv:Vals ys its') (hz:ys.length<=sizeLine) :
   Inv X pins σ (upd H l (.lst ys)) { s with heap:=s.heap.update l (acZ f),toks:=t' }:=by
 have q:=PySem.IsL.update e f
 rw [hf] at q
 refine I.write (x:=l) (e:=l) (by rw [hH]; exact trivial) (.inl rfl) (fun b' u hb hu=>(adI s.heap (acZ f) (Ne.symm hb)).trans hu) ⟨_,q⟩ ?_
 exact ⟨hz,its',_,hv,q⟩
theorem Inv.LW {its:List Value}{t':Nat}(I:Inv X pins σ H s)(hv:Vals ys its)(hz:ys.length<=sizeLine) :
   Inv X pins σ (upd H s.heap.objs.size (.lst ys)) { s with heap:=s.heap.push { cls:=.type "list",data:=.seq its.toArray },toks:=t' }:=
 I.laid (fun _ _ q=>Z4 _ q) (Z3 _) ⟨hz,its,0,hv,aas _ rfl⟩
theorem Inv.fresh (I:Inv X pins σ H s):H s.heap.objs.size=none:=I.hok.fresh (Z3 _)
theorem Inv.rR (I:Inv X pins σ H s)(hH:H l=some (.lst xs)):xs.length<=sizeLine/\∃(its:List Value) (n:Nat),Vals xs its/\xs.length=its.length/\s.heap.get? l=some { cls:=.type "list",data:=.seq its.toArray n }:=by
 obtain ⟨z,its,n,r,e⟩:=I.hok l _ hH
 exact ⟨z,its,n,r,r.length,e⟩
theorem rZ {n:Nat}(h:n<=sizeLine):abu n=false:=by
 unfold abu
 exact decide_eq_false (by omega)
end
section
variable {X:Cx}
def wK:V->List V->Hp->VK->Prop:=fun x vs H Q=>∃l xs y,x=.ref l/\vs=[y]/\H l=some (.lst xs)/\xs.length < sizeLine/\Q .bN (upd H l (.lst (xs++[y])))
theorem oY:Nr X "list.append" wK:=by
 intro pins s σ H x vs v us Q I rx rv h
 obtain ⟨l,xs,y,rfl,rfl,hH,hz,q⟩:=h
 cases rx
 obtain ⟨u,rfl,ru⟩:=rv.one
 obtain ⟨z,its,n,r,hl,e⟩:=I.rR hH
 refine call_meets F.slot_list_append ⟨_,e,rfl⟩ F.entry_list_append (F.args_list_append_2 _ _) (PySem.list_append l its.toArray n u (by rw [aaa]; omega)) ⟨e,?_⟩
 refine ⟨.bN,_,I.D5 (its':=its++[u]) hH e (by simp) (r.append (.cons ru .nil)) ?_,rfl,q⟩
 rw [Z0,List.length_singleton]
 omega
def wM:V->List V->Hp->VK->Prop:=fun x vs H Q=>∃l b xs zs,x=.ref l/\vs=[.ref b]/\H l=some (.lst xs)/\H b=some (.lst zs)/\xs.length + zs.length<=sizeLine/\Q .bN (upd H l (.lst (xs++zs)))
theorem yB:Nr X "list.extend" wM:=by
 intro pins s σ H x vs v us Q I rx rv h
 obtain ⟨l,b,xs,zs,rfl,rfl,hH,hB,hz,q⟩:=h
 cases rx
 obtain ⟨u,rfl,ru⟩:=rv.one
 cases ru
 obtain ⟨z,its,n,r,hl,e⟩:=I.rR hH
 obtain ⟨z2,eV,n2,r2,hl2,e2⟩:=I.rR hB
 have hsz:its.toArray.size + eV.toArray.size<=sizeLine:=by rw [aaa,aaa]; omega
 have AG:¬ (!its.toArray.isEmpty && abu (its.toArray.size + eV.toArray.size))=true:=by
   rw [rZ hsz,adu]
   exact aag
 refine call_meets F.slot_list_extend ⟨_,e,rfl⟩ F.entry_list_extend (F.args_list_extend_2 _ _)
   (AutoSeq1.list_extend_list_list_0 l its.toArray n b eV.toArray n2 AG (by rw [aaa]; omega) (by omega)) ⟨e,e2,?_⟩
 refine ⟨.bN,_,I.D5 (its':=its++eV) hH e (by simp) (r.append r2) ?_,rfl,q⟩
 rw [Z0]
 omega
def BS:V->List V->Hp->VK->Prop:=fun x vs H Q=>∃l xs i k y,x=.ref l/\vs=[.int i]/\H l=some (.lst xs) /\ -(2 ^ 63)<=i/\i < 2 ^ 63/\seqIndex? i xs.length=some k/\xs[k]? = some y/\Q y (upd H l (.lst (xs.eraseIdx k)))
theorem A9:Nr X "list.pop" BS:=by
 intro pins s σ H x vs v us Q I rx rv h
 obtain ⟨l,xs,i,k,y,rfl,rfl,hH,h1,h2,hk,hy,q⟩:=h
 cases rx
 obtain ⟨u,rfl,ru⟩:=rv.one
 obtain ⟨t,rfl⟩:=ru
 obtain ⟨z,its,n,r,hl,e⟩:=I.rR hH
 obtain ⟨w,hw,rw'⟩:=r.get hy
 refine call_meets F.slot_list_pop ⟨_,e,rfl⟩ F.entry_list_pop (F.args_list_pop_2 _ _)
   (MeetsSeq.list_pop_at l its.toArray n i t k w (fitsIndex_both h1 h2) (by rw [aaa,← hl]; exact hk) (by rw [← Array.getElem?_toList]; exact hw) (by rw [aaa]; omega)) ⟨e,?_⟩
 refine ⟨y,_,I.D5 (its':=its.eraseIdx k) hH e ?_ (r.eraseIdx k) ?_,rw',q⟩
 · show its.toArray.eraseIdxIfInBounds k=(its.eraseIdx k).toArray
   rw [List.eraseIdxIfInBounds_toArray]
 · have:=oW xs k
   omega
def My:R2:=fun x y H Q=>∃l b xs zs,x=.ref l/\y=.ref b/\H l=some (.lst xs)/\H b=some (.lst zs)/\xs.length + zs.length<=sizeLine/\∀p,H p=none->Q (.ref p) (upd H p (.lst (xs++zs)))
theorem IE:hG X (binaryOp .Add) My:=by
 intro pins s σ H x y v u Q I rx ry h
 obtain ⟨l,b,xs,zs,rfl,rfl,hH,hB,hz,q⟩:=h
 cases rx
 cases ry
 obtain ⟨z,its,n,r,hl,e⟩:=I.rR hH
 obtain ⟨z2,eV,n2,r2,hl2,e2⟩:=I.rR hB
 refine PySem.P.add_list e e2 ?_ (by rw [aaa,aaa]; omega)
 have ea:its.toArray++eV.toArray=(its++eV).toArray:=by simp
 rw [ea]
 exact ⟨.ref _,_,I.LW (t':=s.toks) (r.append r2) (by rw [Z0]; omega),rfl,q _ I.fresh⟩
def MC:R2:=fun x y H Q=>∃l k xs,x=.ref l/\y=.int k/\H l=some (.lst xs) /\ -(2 ^ 63)<=k/\k < 2 ^ 63/\xs.length * k.toNat<=sizeLine /\
 ∀p,H p=none->Q (.ref p) (upd H p (.lst (aar k.toNat xs).flatten))
theorem len_rep {α:Type}(xs:List α)(k:Nat):(aar k xs).flatten.length=k * xs.length:=by
 induction k with
 | zero=>simp
 | succ k ih=>rw [abC,acd,Z0,ih,ac2,Nat.add_comm]
theorem IM:hG X (binaryOp .Mult) MC:=by
 intro pins s σ H x y v u Q I rx ry h
 obtain ⟨l,k,xs,rfl,rfl,hH,h1,h2,hz,q⟩:=h
 cases rx
 obtain ⟨t,rfl⟩:=ry
 obtain ⟨z,its,n,r,hl,e⟩:=I.rR hH
 have hlen:its.toArray.size * k.toNat<=sizeLine:=by rw [aaa,← hl]; exact hz
 have hcap:¬ its.toArray.size * k.toNat > (2 ^ 63 - 1) / 8:=by
   have:(sizeLine:Nat)<=(2 ^ 63 - 1) / 8:=by decide
   omega
 have Pq:¬ (!abl k)=true:=by
   rw [fitsIndex_both h1 h2]
   exact aag
 have AG:¬ abu (its.toArray.size * k.toNat)=true:=by
   rw [rZ hlen]
   exact aag
 have rK:List.foldl (fun x1 x2=>x1++x2) #[] (aar (if its.toArray.isEmpty=true then 0 else k.toNat) its.toArray)=(aar k.toNat its).flatten.toArray:=by
   have f0:∀m:Nat,List.foldl (fun x1 x2=>x1++x2) #[] (aar m its.toArray)=(aar m its).flatten.toArray:=fun m=>by
     have:=foldl_rep its m []
     rw [List.nil_append] at this
     exact this
   rw [f0]
   cases its with
   | nil=>simp
   | cons a r'=>rw [if_neg (by simp)]
 refine wpAny_binaryOp_repeat_ref (T:="list") (U:="int") (by decide) ⟨_,e,rfl⟩ (fun s'=>typeIs_int s' k t) noFill_list_mul F.fills_int_mul F.slot_int_rmul repeat_list F.slot_int_index.lookup
   (call_meets F.slot_int_rmul (typeIs_int s k t) F.entry_int_rmul (F.args_int_rmul_2 _ _) (int___rmul___int_list k t l its.toArray n)
     ⟨e,rfl,⟨_,e,rfl⟩,call_meets F.slot_list_mul ⟨_,e,rfl⟩ F.entry_list_mul (F.args_list_mul_2 _ _) (AutoListH.list___mul___list_int_3 l its.toArray n k t Pq hcap AG) ⟨e,?_⟩⟩)
 rw [rK]
 exact ⟨.ref _,_,I.LW (t':=s.toks) (r.rep k.toNat) (by rw [len_rep,adY]; exact hz),rfl,q _ I.fresh⟩
end
end L2
namespace RR
open PySem PySem.W PySem.Calls PyProof.Rows
theorem lN {P:Params}{h:Heap}:∀(ns:List Int) (vs:List Value),WellAll P h vs (ns.map WData.int)->IntsAre vs ns:=by
 intro ns
 induction ns with
 | nil=>
   intro vs w
   rw [List.map_nil] at w
   cases w
   exact .nil
 | cons n ns ih=>
   intro vs w
   rw [aaw] at w
   cases w with
   | cons a b=>
     cases a
     exact .cons _ _ (ih _ b)
theorem za {l:OpenLaw}{n:Nat}(hn:l.most=some n){P:Params}{h:Heap}{args:List WData}{vals:List Value}
   (hpre:l.row.toRowW.claim.pre args=true) (hwl:WellAll P h vals args) :
   ∃a vs ns,vals=[aal a]/\args=[WData.list (ns.map WData.int)]/\h.get? a=some { cls:=.type "list",data:=.seq vs.toArray }/\IntsAre vs ns/\ns.length<=n:=by
 have FR:WShape.hasAll [] args [.list .int]=true:=(pre_splitW hpre).1
 have hc:l.pre.holds [] { args:=args }=true:=(pre_splitW hpre).2
 obtain ⟨d,r,rfl,h1,h2⟩:=hasAllW_cons FR
 obtain rfl:=hasAllW_nil h2
 obtain ⟨xs,rfl,h3⟩:=hasW_list h1
 obtain ⟨ns,rfl⟩:=items_int h3
 have hlen:ns.length<=n:=by
   unfold OpenLaw.pre at hc
   have h4:(WTm.not (.lt (.lit (.int (n:Int))) (.len (.arg 0)))).holds [] { args:=[.list (ns.map .int)] }=true:=by
     have h4:=(holds_andW hc).1
     rw [hn] at h4
     exact h4
   have h5:=condW_of h4 (w_not (w_lt w_lit (w_len_list (w_arg rfl))))
   rw [ZX] at h5
   refine Nat.le_of_not_lt fun q=>?_
   have q':(n:Int) < ((ns.length:Nat):Int):=by omega
   first
     | (rw [decide_eq_true q'] at h5; exact absurd h5 (by decide))
     | (simp at h5; omega)
 cases hwl with
 | cons w1 w2=>
   cases w2
   cases w1 with
   | list ho O5=>exact ⟨_,_,ns,rfl,rfl,ho,lN ns _ O5,hlen⟩
theorem yZ (l:OpenLaw)(args:List WData):l.row.toRowW.claim.post args (.bool true) args=true:=
 postW_of (r:=l.row.toRowW) (X:=(true == true))
   (show WShape.has [] (.bool true) .bool=true by first | rfl | decide | simp [WShape.has,WShape.arms,WShape.armsAll])
   (show (WTm.eq .res (.lit (.bool true))).value [] { args:=args,res:=some (.bool true),after:=args }=some (.bool (true == true)) from w_eq_bool (w_res rfl) w_lit) rfl
theorem qO {l:OpenLaw}{n:Nat}{q:Program}{loose:List Str}{XP:(Str->Option Value)->Heap->Prop}{YP:World->Heap->Prop}{d:DefRec}
   (hn:l.most=some n) (hdf:d.params.defaults=[])
   (call:∀(w:World) (s₀ s₁:Shared) (mg mb:Str->Option Value) (fa:Addr) (o:Obj) (pm cd doc:Value) (a:Addr) (vs:List Value) (ns:List Int),
     Ground q loose [] XP w s₀ mg mb s₁.heap->YP w s₁.heap ->
     s₁.heap.get? fa=some o->o.data=.func (docDef d.name d.params d.body d.scope pm cd doc)->s₁.heap.CodeRec cd d.name->mg d.name=some (.ref fa) ->
     s₁.heap.get? a=some { cls:=.type "list",data:=.seq vs.toArray }->IntsAre vs ns->ns.length<=n->s₁.gens = #[] ->
     codeAny (model l.prog w) callerA (.call (.ref fa) ⟨[.ref a],[]⟩) (fun r s'=>r=.ok (.ret (.bool true))/\OldK s₁.heap s'.heap/\s'.os=s₁.os/\AllBare s'.gens) s₁) :
   WalkO q loose XP YP l.row.toRowW d [] (fun f vs=>PySem.call f vs):=by
 intro w s₀ s₁ mg mb G Y fa o pm cd doc dV kV ho hd hcd hD hmg hg args vals as hpre W9 Tr hwl Zs
 obtain rfl:dV=.none:=Dflts.none hD hdf
 obtain rfl:kV=.none:=Dflts.noKw hD
 obtain ⟨a,vs,ns,rfl,rfl,Hu,hints,hlen⟩:=za hn hpre hwl
 refine enter_call (codeAny_mono (call w s₀ s₁ mg mb fa o pm cd doc a vs ns G Y ho (fd_plain hd) hcd hmg Hu hints hlen hg) fun r s' hq=>?_)
 obtain ⟨rfl,h2,h3,h4⟩:=hq
 exact ⟨.inl ⟨.bool true,.bool true,[],rfl,fun _=>rfl,.bool true,yZ l _,fun _=>⟨List.Pairwise.nil,fun _ hm=>(nomatch hm)⟩⟩,h2,h3,h4⟩
end RR
namespace L2
open PySem PySem.Spec PyProof.Rows
theorem pG:∀{vs:List Value} {ns:List Int},IntsAre vs ns->Vals (ns.map V.int) vs
 | _,_,.nil=>.nil
 | _,_,.cons n t h=>.cons ⟨t,rfl⟩ (pG h)
def GJ (H:Hp):Prop:=∀b,H b=none\/∃o xs,H b=some (.frz o (.lst xs))
theorem AY {P:Program}{w:World}{K:ZY}{mg mb:Str->Option Value}{CX:vO}{k:Nat}{fa a:Addr}{fd:aaf}{x:Str}{sp:Sp}{s₁:Shared}{vs:List Value}{ns:List Int}
   (KX:K.In s₁.heap) (hns:s₁.heap.Ns aaR mg) (hb:s₁.heap.Ns builtinsNs mb) (hbb:∀x:Str,x≠"__name__"->mb x=aaS x) (hlim:s₁.heap.NoLimit) (hg:s₁.gens = #[])
   (ha:s₁.heap.get? a=some { cls:=.type "list",data:=.seq vs.toArray }) (hi:IntsAre vs ns) (hl:ns.length<=sizeLine) (hr:dn k callerA)
   (F:∀base:Heap,K.In base->base.Ns aaR mg->aP P w K mg base CX k fa fd [x] sp) (hbind:∀(s:Shared) (u:Value),BindsTo s fd ⟨[u],[]⟩ [(x,u)])
   (hsp:∀H:Hp,GJ H->ao K H a (ns.map V.int)->sp [.ref a] H (fun v _=>v=.bl true) fun _ _ _=>False)
   (hCX:∀H e s',CX [] H s₁ (fun _ _ _=>False) e s'->False) :
   codeAny (model P w) callerA (.call (.ref fa) ⟨[.ref a],[]⟩) (fun r s'=>r=.ok (.ret (.bool true))/\OldK s₁.heap s'.heap/\s'.os=s₁.os/\AllBare s'.gens) s₁:=by
 have rv:=pG hi
 have QQ:=hi.length
 have core:∀H:Hp,GJ H->ao K H a (ns.map V.int)->fT P w H s₁.heap->(∀b,H b≠none->b=a)->(H a≠none->K.lookup a=none) ->
     codeAny (model P w) callerA (.call (.ref fa) ⟨[.ref a],[]⟩) (fun r s'=>r=.ok (.ret (.bool true))/\OldK s₁.heap s'.heap/\s'.os=s₁.os/\AllBare s'.gens) s₁:=by
   intro H hO hS hok hA hK
   have vS:∀{b:Addr} {o:Obj},s₁.heap.get? b=some o->H b=none->(pU s₁.heap H).get? b=some o:=fun e n=>AD e n
   have noA:∀{b:Addr} {o:Obj} {es:Array DictEntry} {ep:Nat},s₁.heap.get? b=some o->o.data=.dict es ep->H b=none:=fun {b o es ep} e d=>by
     cases q:H b with
     | none=>rfl
     | some u=>
       have e':b=a:=hA b (by rw [q]; simp)
       subst e'
       rw [ha] at e; cases e
       have d':Data.seq vs.toArray _=Data.dict es ep:=d
       cases d'
   have nsK:∀{b:Addr} {m:Str->Option Value},s₁.heap.Ns b m->(pU s₁.heap H).Ns b m:=fun {b m} ⟨o,es,ep,e,d,r⟩=>⟨o,es,ep,vS e (noA e d),d,r⟩
   have S7:K.In (pU s₁.heap H):=fun b o e=>vS (KX b o e) (by
     cases q:H b with
     | none=>rfl
     | some u=>
       have e':b=a:=hA b (by rw [q]; simp)
       subst e'
       rw [hK (by rw [q]; simp)] at e; cases e)
   have hM:Mod K mg (pU s₁.heap H):=⟨S7,nsK hns,⟨mb,nsK hb,hbb⟩,let ⟨mc,h1,h2⟩:=hlim; ⟨mc,nsK h1,h2⟩⟩
   have e0:xr P w K mg (pU s₁.heap H) callerA [] s₁ H:=⟨rfl,hM,fun b o e=>Ed e,Nat.le_of_eq (yh _ _),trivial,fun b hb=>absurd (show b∈([]:List Addr) from hb) (by simp),hok,.of_eq hg⟩
   refine codeAny_mono ((F _ S7 (nsK hns)).run callerA [] s₁ H ⟨[.ref a],[]⟩ [.ref a] [.ref a] _ _ hr e0 (hbind s₁ (.ref a)) (.cons rfl .nil) (hsp H hO hS)) fun r s' h=>?_
   cases r with
   | error e=>exact (hCX H e s' h).elim
   | ok fl=>
     cases fl with
     | next=>exact abd h
     | brk=>exact abd h
     | cont=>exact abd h
     | ret u=>
       obtain ⟨v,H',os,bare,un,Qe,r',q⟩:=h
       have q':v=.bl true:=q
       subst q'
       obtain rfl:u=abk true:=r'
       refine ⟨rfl,OldK.of_keep fun b o e=>?_,os,bare⟩
       cases q:H b with
       | none=>exact un.keep b o e q (by intro z; exact absurd (show b∈([]:List Addr) from z) (by simp)) (by simp)
       | some u=>
         rcases hO b with z | ⟨ob,xs,z⟩
         · rw [q] at z; cases z
         · have z2:=un.frzs b ob _ z
           obtain ⟨e1,_⟩:=hok b _ z
           obtain ⟨e2,_⟩:=Qe b _ z2
           rw [e] at e1; cases e1
           exact e2
 cases hk:K.lookup a with
 | some o=>
   have e:=KX a o hk
   rw [ha] at e
   cases e
   refine core (fun _=>none) (fun _=>.inl rfl) (.inr ⟨_,vs.toArray,_,hk,rfl,rfl,rfl,by rw [aaa,QQ]; exact hl,by simpa using rv⟩) (fun b u z=>by have z':(none:Option HO)=some u:=z; cases z') (fun b z=>absurd rfl z) fun z=>absurd rfl z
 | none=>
   refine core (fun b=>if b=a then some (.frz { cls:=.type "list",data:=.seq vs.toArray } (.lst (ns.map V.int))) else none) (fun b=>?_) (.inl (.inr ⟨{ cls:=.type "list",data:=.seq vs.toArray },if_pos rfl⟩)) (fun b u z=>?_) (fun b z=>?_) fun _=>hk
   · by_cases hb:b=a
     · exact .inr ⟨_,_,if_pos hb⟩
     · exact .inl (if_neg hb)
   · by_cases hb:b=a
     · have z':=(if_pos hb).symm.trans z
       cases z'
       subst hb
       exact ⟨ha,by rw [ZX]; exact hl,vs,_,rv,ha⟩
     · have z':=(if_neg hb).symm.trans z
       cases z'
   · by_cases hb:b=a
     · exact hb
     · exact absurd (if_neg hb) z
theorem Ff {l:PySem.W.OpenLaw}{n k:Nat}{q:Program}{loose:List Str}{XP:(Str->Option Value)->Heap->Prop}{YP:World->Heap->Prop}{d:DefRec}{K:Params->ZY}{CX:World->vO}{sp:World->Sp}{x:Str}
   (hn:l.most=some n) (hn2:n<=sizeLine) (hdf:d.params.defaults=[]) (hr:dn k callerA)
   (hY:∀(w:World) (h:Heap),YP w h->(K w.params).In h)
   (F:∀(w:World) (mg:Str->Option Value) (fa:Addr) (h:Heap),(K w.params).In h->h.Ns aaR mg->mg d.name=some (.ref fa) ->
     ∃fd:aaf,(∀(s:Shared) (u:Value),BindsTo s fd ⟨[u],[]⟩ [(x,u)]) /\
       ∀base:Heap,(K w.params).In base->base.Ns aaR mg->aP l.prog w (K w.params) mg base (CX w) k fa fd [x] (sp w))
   (hsp:∀(w:World) (H:Hp) (a:Addr) (ns:List Int),ns.length<=n->GJ H->ao (K w.params) H a (ns.map V.int)->sp w [.ref a] H (fun v _=>v=.bl true) fun _ _ _=>False)
   (hCX:∀(w:World) (H:Hp) (s:Shared) (e:Value) (s':Shared),CX w [] H s (fun _ _ _=>False) e s'->False) :
   PySem.W.WalkO q loose XP YP l.row.toRowW d [] (fun f vs=>PySem.call f vs):=by
 refine RR.qO hn hdf fun w s₀ s₁ mg mb fa o pm cd doc a vs ns G Y ho hd hcd hmg Hu hints hlen hg=>?_
 have KX:=hY w _ Y
 obtain ⟨fd,hb,hF⟩:=F w mg fa _ KX G.T.g hmg
 exact AY KX G.T.g G.T.b G.T.builtins G.T.nolimit hg Hu hints (Z8 hlen hn2) hr hF hb (fun H hO hS=>hsp w H a ns hlen hO hS) fun H e s'=>hCX w H s₁ e s'
def fc (s:Stmt):Arguments:=match s with
 | .FunctionDef _ a _ _ _ _ _ _ _ _=>a
 | _=>{ posonlyargs:=[],args:=[],vararg:=none,kwonlyargs:=[],kw_defaults:=[],kwarg:=none,defaults:=[] }
def cU (s:Stmt):List Stmt:=match s with
 | .FunctionDef _ _ b _ _ _ _ _ _ _=>b
 | _=>[]
def ai (s:Stmt):Scope:=match s with
 | .FunctionDef _ _ _ _ _ _ sc _ _ _=>sc
 | _=>{ kind:=.function,names:=[],isGenerator:=false,isCoroutine:=false }
abbrev cK:vO:=fun _ _ _ _ _ _=>False
abbrev E0:XK:=fun _ _ _=>False
theorem F9 {X:Cx}:Passes cK X E0:=fun _ _ _ _ _ _ _ h=>h.elim
structure dm (K:ZY)(x qual:Str)(st:Stmt)(f:Addr)(fd:aaf):Prop where
 ex:∃(oc:Value) (od:Option Addr) (kV doc pm:Value) (an:Option Addr) (cdv ct:Value) (osl:Array (Option Value)),
   fd=abo x qual (fc st) (cU st) (ai st) .none kV doc pm an cdv ct/\K.lookup f=some ⟨oc,od,.func fd,osl⟩ /\ abK K cdv qual=true
 kp:aaZ K (.ref f)=true
section
variable {P:Program}{w:World}{K:ZY}{mg:Str->Option Value}{base:Heap}
theorem dm.ok {x qual:Str}{st:Stmt}{f:Addr}{fd:aaf}{N ps:List Str}{k:Nat}{sp:Sp}(F:dm K x qual st f fd)(S:aD N ps (ai st))(len:∀vs H Q E,sp vs H Q E->vs.length=ps.length)
   (hbody:∀(cdv:Value) (A:Around) (outer:List Env) (s:Shared) (H:Hp) (vs:List V) (Q:VK) (E:XK),dn k (A.deeper (envOfC qual (ai st) s.heap.objs.size f cdv))->sp vs H Q E ->
     ∃t,nY (hJ cK P w K mg base N qual (ai st) f cdv A outer s H E).Km (cU st) t/\t { nx:=fun _ H'=>Q .bN H',rt:=Q } (start N vs) H):aP P w K mg base cK (k + 1) f fd ps sp:=by
 obtain ⟨oc,od,kV,doc,pm,an,cdv,ct,osl,rfl,lk,hcd⟩:=F.ex
 refine z9 lk hcd S len fun A outer s H vs Q E hr hsp=>?_
 obtain ⟨t,h,q⟩:=hbody cdv A outer s H vs Q E hr hsp
 exact ⟨t,h.Km,q⟩
theorem dm.binds {x qual:Str}{st:Stmt}{f:Addr}{fd:aaf}{ps:List Str}(F:dm K x qual st f fd)
   (h:∀(kV doc pm:Value) (an:Option Addr) (cdv ct:Value) (us:List Value),us.length=ps.length->bindArgs (abo x qual (fc st) (cU st) (ai st) .none kV doc pm an cdv ct) ⟨us,[]⟩ = pure (ps.zip us)):Binds K fd ps []:=by
 obtain ⟨oc,od,kV,doc,pm,an,cdv,ct,osl,rfl,lk,hcd⟩:=F.ex
 exact .all (h kV doc pm an cdv ct)
theorem Hh {x qual:Str}{st:Stmt}{f:Addr}{oc:Value}{od an:Option Addr}{osl:Array (Option Value)}{kV doc pm cdv ct:Value}(l:K.lookup f=some ⟨oc,od,.func (abo x qual (fc st) (cU st) (ai st) .none kV doc pm an cdv ct),osl⟩)
   (c:abK K cdv qual=true) (k:aaZ K (.ref f)=true):dm K x qual st f (abo x qual (fc st) (cU st) (ai st) .none kV doc pm an cdv ct):=⟨⟨oc,od,kV,doc,pm,an,cdv,ct,osl,rfl,l,c⟩,k⟩
end
theorem aB {n:Nat}(h:n<=1000):n < sizeLine:=abJ h (by decide)
theorem iW {A B:Prop}(h:B):if false=true then A else B:=by
 rw [if_neg aag]
 exact h
theorem fR {A B:Prop}(h:A):if true=true then A else B:=by
 rw [if_pos rfl]
 exact h
theorem aF {c A B:Prop}[Decidable c](h1:c->A)(h2:¬ c->B):if c then A else B:=by
 by_cases h:c
 · rw [if_pos h]
   exact h1 h
 · rw [if_neg h]
   exact h2 h
def ag (H H':Hp):Prop:=∀b o,H b=some o->H' b=some o
theorem ag.seq {K:ZY}{H H':Hp}{a:Addr}{xs:List V}(e:ag H H')(h:ao K H a xs):ao K H' a xs:=by
 rcases h with (h | ⟨o,h⟩) | h
 · exact .inl (.inl (e _ _ h))
 · exact .inl (.inr ⟨o,e _ _ h⟩)
 · exact .inr h
section
variable {κ:Type}[DecidableEq κ]
def bE (kvs:List (κ×V))(k:κ):Option V:=(kvs.find? fun kv=>decide (kv.1=k)).map (·.2)
def putK (kvs:List (κ×V))(k:κ)(v:V):List (κ×V):=
 if (kvs.any fun kv=>decide (kv.1=k))=true then kvs.map (fun kv=>if kv.1=k then (kv.1,v) else kv) else kvs++[(k,v)]
theorem bM {p:κ×V}{r:List (κ×V)}{k:κ}(e:p.1=k):bE (p :: r) k=some p.2:=by simp [bE,abg,e]
theorem bB {p:κ×V}{r:List (κ×V)}{k:κ}(e:¬ p.1=k):bE (p :: r) k=bE r k:=by simp [bE,abg,e]
theorem gM (k:κ):∀kvs:List (κ×V),(kvs.any fun kv=>decide (kv.1=k))=(bE kvs k).isSome
 | []=>rfl
 | p :: r=>by
   rw [abw]
   by_cases e:p.1=k
   · simp only [bM e,decide_eq_true e,Bool.true_or,Option.isSome_some]
   · rw [bB e,decide_eq_false e,Bool.false_or]; exact gM k r
theorem sY (k j:κ)(y:V):∀kvs:List (κ×V),bE (kvs.map fun kv=>if kv.1=k then (kv.1,y) else kv) j=(bE kvs j).map fun x=>if j=k then y else x
 | []=>rfl
 | p :: r=>by
   have ih:=sY k j y r
   rw [aaw]
   by_cases h:p.1=k
   · rw [if_pos h]
     by_cases e:p.1=j
     · rw [bM (p:=(p.1,y)) e,bM e,aa1,if_pos (e.symm.trans h)]
     · rw [bB (p:=(p.1,y)) e,bB e,ih]
   · rw [if_neg h]
     by_cases e:p.1=j
     · rw [bM (p:=p) e,bM e,aa1,if_neg (fun z=>h (e.trans z))]
     · rw [bB (p:=p) e,bB e,ih]
theorem pF (k j:κ)(y:V):∀kvs:List (κ×V),bE kvs k=none->bE (kvs++[(k,y)]) j=if j=k then some y else bE kvs j
 | [],_=>by
   by_cases e:k=j
   · rw [if_pos e.symm]; exact bM (p:=(k,y)) e
   · rw [if_neg (fun z=>e z.symm)]; exact bB (p:=(k,y)) e
 | p :: r,hn=>by
   rw [ac4]
   have hk:¬ p.1=k:=fun z=>by rw [bM z] at hn; cases hn
   rw [bB hk] at hn
   have ih:=pF k j y r hn
   by_cases e:p.1=j
   · rw [bM e,bM e,if_neg (fun z=>hk (e.trans z))]
   · rw [bB e,bB e,ih]
theorem eY (kvs:List (κ×V))(k j:κ)(y:V):bE (putK kvs k y) j=if j=k then some y else bE kvs j:=by
 unfold putK
 by_cases a:(kvs.any fun kv=>decide (kv.1=k))=true
 · rw [if_pos a,sY]
   rw [gM] at a
   by_cases e:j=k
   · obtain ⟨x,hx⟩:=Option.isSome_iff_exists.mp a
     rw [if_pos e,e,hx,aa1,if_pos rfl]
   · rw [if_neg e]
     cases bE kvs j with
     | none=>rfl
     | some x=>rw [aa1,if_neg e]
 · rw [if_neg a]
   refine pF k j y kvs ?_
   rw [gM] at a
   cases q:bE kvs k with
   | none=>rfl
   | some x=>rw [q] at a; exact (a rfl).elim
theorem bL (kvs:List (κ×V))(k:κ)(v:V):(putK kvs k v).length<=kvs.length + 1:=by
 unfold putK
 split
 · rw [ZX]; omega
 · rw [Z0,aam,aaU]; omega
theorem iz.eT {o:Option V}{u:Option Value}(r:iz o u):o.isSome=u.isSome:=by
 cases o with
 | none=>cases u with
   | none=>rfl
   | some _=>exact (show False from r).elim
 | some _=>cases u with
   | none=>exact (show False from r).elim
   | some _=>rfl
theorem iz.getD {o:Option V}{u:Option Value}{d:V}{d':Value}(r:iz o u)(rd:RelV d d'):RelV (o.getD d) (u.getD d'):=by
 cases o with
 | none=>cases u with
   | none=>exact rd
   | some _=>exact (show False from r).elim
 | some _=>cases u with
   | none=>exact (show False from r).elim
   | some _=>exact r
theorem KV.val {kvs:List (κ×V)}{vs:List (κ×Value)}(r:KV kvs vs)(k:κ):iz (bE kvs k) (valueAt vs k):=by
 unfold KV at r
 induction r with
 | nil=>exact aat
 | @cons p q ps qs h t ih=>
   obtain ⟨h1,h2⟩:=h
   by_cases e:p.1=k
   · have e':q.1=k:=h1.symm.trans e
     have b:valueAt (q :: qs) k=some q.2:=by simp [valueAt,abg,e']
     rw [bM e,b]; exact h2
   · have e':¬ q.1=k:=fun z=>e (h1.trans z)
     have b:valueAt (q :: qs) k=valueAt qs k:=by simp [valueAt,abg,e']
     rw [bB e,b]; exact ih
theorem KV.any {kvs:List (κ×V)}{vs:List (κ×Value)}(r:KV kvs vs)(k:κ):(kvs.any fun kv=>decide (kv.1=k))=vs.any fun kv=>decide (kv.1=k):=by
 unfold KV at r
 induction r with
 | nil=>rfl
 | cons h t ih=>rw [abw,abw,ih,h.1]
theorem KV.Jy {kvs:List (κ×V)}{vs:List (κ×Value)}(r:KV kvs vs)(k:κ){y:V}{u:Value}(ry:RelV y u) :
   KV (kvs.map fun kv=>if kv.1=k then (kv.1,y) else kv) (vs.map fun kv=>if kv.1=k then (kv.1,u) else kv):=by
 unfold KV at r ⊢
 induction r with
 | nil=>exact .nil
 | @cons p q ps qs h t ih=>
   rw [aaw,aaw]
   refine .cons ?_ ih
   obtain ⟨h1,h2⟩:=h
   by_cases e:p.1=k
   · rw [if_pos e,if_pos (h1.symm.trans e)]; exact ⟨h1,ry⟩
   · rw [if_neg e,if_neg (fun z=>e (h1.trans z))]; exact ⟨h1,h2⟩
theorem KV.put {kvs:List (κ×V)}{vs:List (κ×Value)}(r:KV kvs vs)(k:κ){y:V}{u:Value}(ry:RelV y u):KV (putK kvs k y) (stored vs k u):=by
 unfold putK stored
 rw [r.any k]
 by_cases e:(vs.any fun kv=>decide (kv.1=k))=true
 · rw [if_pos e,if_pos e]; exact r.Jy k ry
 · rw [if_neg e,if_neg e]; exact Paired.snoc r ⟨rfl,ry⟩
theorem KV.length {kvs:List (κ×V)}{vs:List (κ×Value)}(r:KV kvs vs):kvs.length=vs.length:=Paired.length r
end
theorem jy {P:Program}{w:World}{k:Key}{u:Value}(r:RelV (kV k) u):(aO P w).is k u=true:=by
 cases k with
 | inl i=>obtain ⟨t,e⟩:=(show ∃t,u=acL i t from r); subst e; exact rS P w i t
 | inr x=>obtain ⟨t,e⟩:=(show ∃t,u=adD x t from r); subst e; exact rT P w x t
theorem oU {P:Program}{w:World}:∀{ks:List Key} {us:List Value},Vals (ks.map kV) us->ItemsAre (aO P w) ks us
 | [],_,r=>by rw [List.map_nil] at r; cases r; exact .nil
 | k :: ks,_,r=>by
   rw [aaw] at r
   cases r with
   | cons h t=>exact .cons (jy h) (oU t)
abbrev KT (H:Hp):List (List Key×V)->List (List Key×Addr×Value)->Prop:=Paired fun p q=>p.1=q.1/\H q.2.1=some (.tup (p.1.map kV))/\RelV p.2 q.2.2
theorem KT.val {H:Hp}{kvs:List (List Key×V)}{xs:List (List Key×Addr×Value)}(r:KT H kvs xs)(k:List Key):iz (bE kvs k) ((atKey xs k).map (·.2)):=by
 induction r with
 | nil=>exact aat
 | @cons p q ps qs h t ih=>
   obtain ⟨h1,_,h2⟩:=h
   by_cases e:p.1=k
   · have e':q.1=k:=h1.symm.trans e
     have b:atKey (q :: qs) k=some q.2:=by simp [atKey,abg,e']
     rw [bM e,b]; exact h2
   · have e':¬ q.1=k:=fun z=>e (h1.trans z)
     have b:atKey (q :: qs) k=atKey qs k:=by simp [atKey,abg,e']
     rw [bB e,b]; exact ih
theorem KT.Jy {H:Hp}{kvs:List (List Key×V)}{xs:List (List Key×Addr×Value)}(r:KT H kvs xs)(k:List Key){y:V}{u:Value}(ry:RelV y u) :
   KT H (kvs.map fun kv=>if kv.1=k then (kv.1,y) else kv) (xs.map (putAt k u)):=by
 induction r with
 | nil=>exact .nil
 | @cons p q ps qs h t ih=>
   rw [aaw,aaw]
   refine .cons ?_ ih
   obtain ⟨h1,h2,h3⟩:=h
   unfold putAt
   by_cases e:p.1=k
   · rw [if_pos e,if_pos (h1.symm.trans e)]; exact ⟨h1,h2,ry⟩
   · rw [if_neg e,if_neg (fun z=>e (h1.trans z))]; exact ⟨h1,h2,h3⟩
theorem KT.put {H:Hp}{kvs:List (List Key×V)}{xs:List (List Key×Addr×Value)}(r:KT H kvs xs)(k:List Key){b:Addr}{y:V}{u:Value}(hb:H b=some (.tup (k.map kV)))(ry:RelV y u) :
   KT H (putK kvs k y) (storedH xs k b u):=by
 have e:(kvs.any fun kv=>decide (kv.1=k))=(atKey xs k).isSome:=by
   rw [gM,(r.val k).eT,ab6]
 unfold putK storedH
 rw [e]
 by_cases q:(atKey xs k).isSome=true
 · rw [if_pos q,if_pos q]; exact r.Jy k ry
 · rw [if_neg q,if_neg q]; exact Paired.snoc r ⟨rfl,hb,ry⟩
theorem KT.keeps {H H':Hp}{kvs:List (List Key×V)}{xs:List (List Key×Addr×Value)}(r:KT H kvs xs)(ht:∀b ys,H b=some (.tup ys)->H' b=some (.tup ys)):KT H' kvs xs:=
 Paired.aZ r fun _ _ z=>⟨z.1,ht _ _ z.2.1,z.2.2⟩
section
variable {P:Program}{w:World}{H:Hp}{h:Heap}{a:Addr}
theorem Gf {u:HO}(ok:fT P w H h)(e:Rd H a u):bp P w H h a u:=e.ok ok
theorem oP {kvs:List (Key×V)}(ok:fT P w H h)(e:Rd H a (.dK kvs)):kvs.length<=sizeLine/\(a == abc)=false/\∃vs,KV kvs vs/\h.DictOf (aO P w) a vs:=
 show bp P w H h a (.dK kvs) from Gf ok e
theorem v7 {kvs:List (Key×V)}(ok:fT P w H h)(e:H a=some (.dK kvs)):kvs.length<=sizeLine/\(a == abc)=false/\∃vs,KV kvs vs/\h.DictOf (aO P w) a vs:=oP ok (.inl e)
theorem iX {ks:List Key}(ok:fT P w H h)(e:H a=some (.tup (ks.map kV))):(tupleKind (aO P w)).is h ks a:=by
 obtain ⟨_,its,r,o,h1,h2,n,h3⟩:=(show bp P w H h a (.tup (ks.map kV)) from ok a _ e)
 exact ⟨o,its.toArray,n,h1,h2,h3,by simpa using oU r⟩
theorem oQ {kvs:List (List Key×V)}(ok:fT P w H h)(e:Rd H a (.dT kvs)):kvs.length<=sizeLine/\(a == abc)=false /\
   ∃xs,KT H kvs xs/\h.DictOfH (tupleKind (aO P w)) a xs:=by
 obtain ⟨z,y,xs,r,o,es,ep,h1,h2,h3,h4,h5⟩:=(show bp P w H h a (.dT kvs) from Gf ok e)
 refine ⟨z,y,xs,r,o,es,ep,h1,h2,h3,h4,fun x hx=>?_,h5⟩
 have all:∀{l:List (List Key×V)} {m:List (List Key×Addr×Value)},KT H l m->∀x∈m,(tupleKind (aO P w)).is h x.1 x.2.1:=by
   intro l m q
   induction q with
   | nil=>intro x hx; exact nomatch hx
   | @cons p q ps qs hq t ih=>
     intro x hx
     rcases List.mem_cons.mp hx with e | hx
     · subst e
       exact iX ok (by rw [← hq.1]; exact hq.2.1)
     · exact ih x hx
 exact all r x hx
theorem v8 {kvs:List (List Key×V)}(ok:fT P w H h)(e:H a=some (.dT kvs)):kvs.length<=sizeLine/\(a == abc)=false /\
   ∃xs,KT H kvs xs/\h.DictOfH (tupleKind (aO P w)) a xs:=oQ ok (.inl e)
end
def fM (H:Hp)(a:Addr)(y:V)(r:Option V):Prop:=
 (∃kvs k,Rd H a (.dK kvs)/\y=kV k/\r=bE kvs k)\/∃kvs k b,Rd H a (.dT kvs)/\y=.ref b/\H b=some (.tup (k.map kV))/\r=bE kvs k
def mj (H:Hp)(a:Addr)(y v:V)(H':Hp):Prop:=
 (∃kvs k,H a=some (.dK kvs)/\y=kV k/\kvs.length < sizeLine/\H'=upd H a (.dK (putK kvs k v))) \/
 ∃kvs k b,H a=some (.dT kvs)/\y=.ref b/\H b=some (.tup (k.map kV))/\kvs.length < sizeLine/\H'=upd H a (.dT (putK kvs k v))
theorem fM.k {H:Hp}{a:Addr}{kvs:List (Key×V)}{k:Key}(e:H a=some (.dK kvs)):fM H a (kV k) (bE kvs k):=.inl ⟨kvs,k,.inl e,rfl,rfl⟩
theorem fM.t {H:Hp}{a b:Addr}{kvs:List (List Key×V)}{k:List Key}(e:H a=some (.dT kvs))(eb:H b=some (.tup (k.map kV))):fM H a (.ref b) (bE kvs k):=.inr ⟨kvs,k,b,.inl e,rfl,eb,rfl⟩
theorem mj.k {H:Hp}{a:Addr}{kvs:List (Key×V)}{k:Key}{v:V}(e:H a=some (.dK kvs))(hl:kvs.length < sizeLine):mj H a (kV k) v (upd H a (.dK (putK kvs k v))):=.inl ⟨kvs,k,e,rfl,hl,rfl⟩
theorem mj.t {H:Hp}{a b:Addr}{kvs:List (List Key×V)}{k:List Key}{v:V}(e:H a=some (.dT kvs))(eb:H b=some (.tup (k.map kV)))(hl:kvs.length < sizeLine) :
   mj H a (.ref b) v (upd H a (.dT (putK kvs k v))):=.inr ⟨kvs,k,b,e,rfl,eb,hl,rfl⟩
section
variable {X:Cx}{pins:List (Addr×Obj)}{σ:St}{H:Hp}{s:Shared}{a:Addr}{y v:V}{u r:Value}{o:Option V}{A:Around}{E:Value->Shared->Prop}
theorem Inv.big (I:Inv X pins σ H s):abc < s.heap.objs.size:=by
 have h:aaR < s.heap.objs.size:=(I.mod.glob.keeps I.bk).lt
 exact adZ (by decide) h
theorem xH {Q:Value->Shared->Prop}(hu:A.units + 1 < cLine)(I:Inv X pins σ H s)(g:fM H a y (some v))(ry:RelV y u)(h:∀w' s',Inv X pins σ H s'->RelV v w'->Q w' s') :
   wpAny (model X.prog X.w) A (getItem (.ref a) u) Q E s:=by
 rcases g with ⟨kvs,k,e,ey,l⟩ | ⟨kvs,k,b,e,ey,eb,l⟩
 · subst ey
   obtain ⟨z,hd,vs,rel,dd⟩:=oP I.hok e
   obtain ⟨w',hw,rw'⟩:=iz.some_of (v:=v) (o:=valueAt vs k) (by rw [l]; exact rel.val k)
   exact wpAny_getItem_of (jy ry) dd.mapOf hw (h w' _ (I.tok _) rw')
 · subst ey
   cases (show u=aal b from ry)
   obtain ⟨z,hd,xs,rel,dd⟩:=oQ I.hok e
   obtain ⟨w',hw,rw'⟩:=iz.some_of (v:=v) (o:=(atKey xs k).map (·.2)) (by rw [l]; exact rel.val k)
   obtain ⟨p,hp,cb⟩:=Option.map_eq_some_iff.mp hw
   refine wpAny_getItem_heap (tupleKind_room_in1 hu) (iX I.hok eb) dd hp ?_
   rw [cb]
   exact h w' _ (I.tok _) rw'
theorem OO {Q:Value->Shared->Prop}(hu:A.units + 1 < cLine)(I:Inv X pins σ H s)(g:fM H a y o)(ry:RelV y u)(h:∀s',Inv X pins σ H s'->Q (.bool o.isSome) s') :
   wpAny (model X.prog X.w) A (compareOp .In u (.ref a)) Q E s:=by
 rcases g with ⟨kvs,k,e,ey,l⟩ | ⟨kvs,k,b,e,ey,eb,l⟩
 · subst ey
   obtain ⟨z,hd,vs,rel,dd⟩:=oP I.hok e
   refine wpAny_in_of (jy ry) hd dd.mapOf ?_
   rw [← (rel.val k).eT,← l]
   exact h _ (I.tok _)
 · subst ey
   cases (show u=aal b from ry)
   obtain ⟨z,hd,xs,rel,dd⟩:=oQ I.hok e
   refine wpAny_in_heap (tupleKind_room_in1 hu) (iX I.hok eb) hd dd ?_
   have q:=(rel.val k).eT
   rw [ab6] at q
   rw [← q,← l]
   exact h _ (I.tok _)
theorem eA {h':Heap}{t':Nat}{ob:HO}(I:Inv X pins σ H s)(mu:Ky (H a))(hs:aaH a s.heap h')(he:∃q,h'.get? a=some q)(new:bp X.prog X.w (upd H a ob) h' a ob) :
   Inv X pins σ (upd H a ob) { s with heap:=h',toks:=t' }:=
 I.write (x:=a) (e:=a) mu (.inl rfl) (fun b q hb z=>(hs.2 b hb).trans z) he new
theorem pO {P:Program}{w:World}{H':Hp}{h':Heap}{kvs:List (Key×V)}{vs:List (Key×Value)}(z:kvs.length<=sizeLine)(hd:(a == abc)=false)(rel:KV kvs vs)(dd:h'.DictOf (aO P w) a vs) :
   bp P w H' h' a (.dK kvs):=⟨z,hd,vs,rel,dd⟩
theorem xI {H':Hp}{Q:Unit->Shared->Prop}(hu:A.units + 1 < cLine)(I:Inv X pins σ H s)(g:mj H a y v H')(ry:RelV y u)(rv:RelV v r)(h:∀s',Inv X pins σ H' s'->Q () s') :
   wpAny (model X.prog X.w) A (setItem (.ref a) u r) Q E s:=by
 rcases g with ⟨kvs,k,e,ey,l,eH⟩ | ⟨kvs,k,b,e,ey,eb,l,eH⟩
 · subst ey eH
   obtain ⟨z,hd,vs,rel,dd⟩:=v7 I.hok e
   have hz:vs.length<=sizeLine:=by rw [← rel.length]; exact z
   have hl:(putK kvs k v).length<=sizeLine:=by have:=bL kvs k v; omega
   refine wpAny_setItem_pairs (hsz:=hz) (jy ry) dd fun h' oi hs=>h _ ?_
   have he:∃q,h'.get? a=some q:=let ⟨q,_,_,hq,_⟩:=oi; ⟨q,hq⟩
   exact eA I (by rw [e]; exact aat) hs he (pO hl hd (rel.put k rv) oi)
 · subst ey eH
   cases (show u=aal b from ry)
   obtain ⟨z,hd,xs,rel,dd⟩:=v8 I.hok e
   have hz:xs.length<=sizeLine:=by rw [← Paired.length rel]; exact z
   have hl:(putK kvs k v).length<=sizeLine:=by have:=bL kvs k v; omega
   refine wpAny_setItem_heap (hsz:=hz) (tupleKind_room_in1 hu) (iX I.hok eb) dd fun h' oi hs=>h _ ?_
   obtain ⟨q,es,ep,hq,h2,h3,h4,_,h5⟩:=oi
   refine eA I (by rw [e]; exact aat) hs ⟨q,hq⟩ ⟨hl,hd,_,(rel.put k eb rv).keeps fun c ys ec=>?_,q,es,ep,hq,h2,h3,h4,h5⟩
   rw [aj (fH ec e (fun z=>nomatch z))]
   exact ec
end
def zD (i:Expr):Prop:=∀ov iv,subscripted i false ov iv=operate [ov,iv] (getItem ov iv)
theorem xk {prog:Program}{w:World}{A:Around}{E:Value->Shared->Prop}{s:Shared}{env:Env}{value slice:Expr}{pos:Pos}{T id:String}{Q:Value->Shared->Prop}
   (hl:adg (.type T) "__getitem__"=pure (some (.builtin id))) (hs:zD slice)
   (h:wpAny (model prog w) A (eval value env) (fun o s₁=>wpAny (model prog w) A (eval slice env) (fun i s₂=>s₂.TypeIs o T/\wpAny (model prog w) A (getItem o i) Q E s₂) E s₁) E s) :
   wpAny (model prog w) A (eval (.Subscript value slice pos) env) Q E s:=by
 refine adh (wpAny_mono h (fun o s₁ h₁=>wpAny_mono h₁ (fun i s₂ h₂=>?_) fun _ _ x=>x) fun _ _ x=>x)
 obtain ⟨hT,h₂⟩:=h₂
 unfold subscriptTail
 refine wpAny_bind ?_
 rw [getitemInPython_of_ne hT.not_modules]
 refine wpAny_bind (wpAny_specialOf hT hl ?_)
 have fin:wpAny (model prog w) A (subscripted slice false o i) (fun r s₃=>wpAny (model prog w) A (letTemporaryGo value o r >>= fun _=>pure r) Q E s₃) E s₂:=by
   rw [hs o i]
   exact wpAny_operating (wpAny_mono h₂ (fun r s₃ h₃=>wpAny_bind (wpAny_letTemporaryGo (wpAny_pure h₃))) fun _ _ x=>x)
 first
   | exact wpAny_pure (wpAny_bind fin)
   | exact wpAny_bind (wpAny_pure (wpAny_bind fin))
   | exact wpAny_bind fin
theorem qZ {X:Cx}{pins:List (Addr×Obj)}{σ:St}{H:Hp}{s:Shared}{a:Addr}{y:V}{o:Option V}(I:Inv X pins σ H s)(g:fM H a y o):s.TypeIs (.ref a) "dict":=by
 rcases g with ⟨kvs,k,e,_,_⟩ | ⟨kvs,k,b,e,_,_,_⟩
 · obtain ⟨_,_,vs,_,dd⟩:=oP I.hok e
   exact dd.typeIs
 · obtain ⟨_,_,xs,_,dd⟩:=oQ I.hok e
   exact dd.typeIs
def Gs (td ty:TE):TE:=fun σ H Q=>td σ H fun x H1=>ty σ H1 fun y H2=>∃a v,x=.ref a/\fM H2 a y (some v)/\Q v H2
def M5 (ty td:TE):TE:=fun σ H Q=>ty σ H fun y H1=>td σ H1 fun x H2=>∃a o,x=.ref a/\fM H2 a y o/\Q (.bl o.isSome) H2
def Gh (td ty tv:TE):TS:=fun D σ H=>tv σ H fun v H1=>td σ H1 fun x H2=>ty σ H2 fun y H3=>∃a H4,x=.ref a/\mj H3 a y v H4/\D.nx σ H4
section
variable {X:Cx}{o i e value:Expr}{pos pos' YV:Pos}{td ty tv:TE}
theorem EC (hu:X.A.units + 1 < cLine)(ho:PE X o td)(hi:PE X i ty)(hs:zD i):PE X (.Subscript o i pos) (Gs td ty):=by
 intro pins s σ H Q I h
 refine xk PySem.F.slot_dict_getitem.lookup hs (bt (ho pins s σ H _ I h) fun u s1 ⟨x,H1,I1,rx,q1⟩=>bt (hi pins s1 σ H1 _ I1 q1) fun iv s2 ⟨y,H2,I2,ry,a,v,ex,g,q2⟩=>?_)
 subst ex
 obtain rfl:u=aal a:=rx
 exact ⟨qZ I2 g,xH hu I2 g ry fun w' s3 I3 rw'=>⟨v,H2,I3,rw',q2⟩⟩
theorem IU (hu:X.A.units + 1 < cLine)(hi:PE X i ty)(ho:PE X o td):PC X .In i o (M5 ty td):=by
 intro pins s σ H Q I h
 refine bt (hi pins s σ H _ I h) fun iv s1 ⟨y,H1,I1,ry,q1⟩=>bt (ho pins s1 σ H1 _ I1 q1) fun u s2 ⟨x,H2,I2,rx,a,ov,ex,g,q2⟩=>?_
 subst ex
 obtain rfl:u=aal a:=rx
 exact OO hu I2 g ry fun s3 I3=>⟨.bl ov.isSome,H2,I3,rfl,q2⟩
theorem EM (hu:X.A.units + 1 < cLine)(ho:PE X o td)(hi:PE X i ty)(hv:PE X value tv)(hs:abN value (some (.Subscript o i pos')) pos.line X.env=pure false) :
   PS X (.Assign [.Subscript o i pos'] value pos) (Gh td ty tv):=by
 intro pins s σ H D I h
 refine wpAny_Assign_Subscript (bt (hv pins s σ H _ I h) fun r s1 ⟨v,H1,I1,rv,q1⟩=>bt (ho pins s1 σ H1 _ I1 q1) fun u s2 ⟨x,H2,I2,rx,q2⟩=>bt (hi pins s2 σ H2 _ I2 q2) fun iv s3 ⟨y,H3,I3,ry,a,H4,ex,g,q3⟩=>?_) hs
 subst ex
 obtain rfl:u=aal a:=rx
 exact xI hu I3 g ry rv fun s4 I4=>⟨σ,H4,I4,q3⟩
end
theorem mC {P:Program}{w:World}{H:Hp}(h:Heap)(hb:abc < h.objs.size):bp P w H (h.push { cls:=.type "dict",data:=.dict #[] }) h.objs.size (.dK []):=
 ⟨aaI _,beq_eq_false_iff_ne.mpr (Ne.symm (aay hb)),[],.nil,acO h⟩
theorem zU {P:Program}{w:World}{H:Hp}(h:Heap)(hb:abc < h.objs.size):bp P w H (h.push { cls:=.type "dict",data:=.dict #[] }) h.objs.size (.dT []):=
 ⟨aaI _,beq_eq_false_iff_ne.mpr (Ne.symm (aay hb)),[],.nil,_,#[],0,aas _ rfl,⟨rfl,rfl,rfl⟩,rfl,rfl,abP⟩
def Cr:TE:=fun _ H Q=>∀p,H p=none->Q (.ref p) (upd H p (.dK []))
section
variable {X:Cx}{pos:Pos}
theorem BE:PE X (.Dict [] [] pos) Cr:=fun pins s σ H Q I h=>
 wpAny_Dict_empty ⟨.ref s.heap.objs.size,_,I.laid (a:=s.heap.objs.size) (o:=.dK []) (t':=s.toks) (fun _ _ q=>Z4 _ q) (Z3 _) (mC s.heap I.big),rfl,h _ (I.hok.fresh (Z3 _))⟩
end
structure M1 (X:Cx)(o:Expr)(m:Str)(apos:Pos)(e:Expr)(cpos:Pos):Prop where
 base:abf o m X.env (eval o X.env)=eval o X.env
 few:((backTo cpos (starEach [e] X.env)).all (fun x=>!x.1) && (backToKw cpos (keywordEach [] X.env)).all (fun x=>x.1.isSome)
   && decide (([e]:List Expr).length + ([]:List Keyword).length + (if ([]:List Keyword).isEmpty then 0 else 1) < 30))=true
 line:(apos.endLine == cpos.line)=true
 trees:backTo cpos (starEach [e] X.env)=[(false,eval e X.env)]
structure M2 (X:Cx)(o:Expr)(m:Str)(apos:Pos)(e f:Expr)(cpos:Pos):Prop where
 base:abf o m X.env (eval o X.env)=eval o X.env
 few:((backTo cpos (starEach [e,f] X.env)).all (fun x=>!x.1) && (backToKw cpos (keywordEach [] X.env)).all (fun x=>x.1.isSome)
   && decide (([e,f]:List Expr).length + ([]:List Keyword).length + (if ([]:List Keyword).isEmpty then 0 else 1) < 30))=true
 line:(apos.endLine == cpos.line)=true
 trees:backTo cpos (starEach [e,f] X.env)=[(false,eval e X.env),(false,eval f X.env)]
def OB (H:Hp)(a:Addr):Prop:=(∃kvs,Rd H a (.dK kvs))\/∃kvs,Rd H a (.dT kvs)
theorem AV {X:Cx}{pins:List (Addr×Obj)}{σ:St}{H:Hp}{s:Shared}{a:Addr}(I:Inv X pins σ H s)(d:OB H a) :
   s.TypeIs (.ref a) "dict"/\(∀b,aal a=.ref b->∃ob,s.heap.get? b=some ob/\ob.dict=none)/\(a == abc)=false:=by
 rcases d with ⟨kvs,e⟩ | ⟨kvs,e⟩
 · obtain ⟨_,hd,vs,_,dd⟩:=oP I.hok e
   refine ⟨dd.typeIs,fun b q=>?_,hd⟩
   cases q
   obtain ⟨ob,_,_,h1,h2,_⟩:=dd
   exact ⟨ob,h1,h2.2.1⟩
 · obtain ⟨_,hd,xs,_,dd⟩:=oQ I.hok e
   refine ⟨dd.typeIs,fun b q=>?_,hd⟩
   cases q
   obtain ⟨ob,_,_,h1,h2,_⟩:=dd
   exact ⟨ob,h1,h2.2.1⟩
section
variable {X:Cx}{pins:List (Addr×Obj)}{σ:St}{H:Hp}{s:Shared}{a:Addr}{y d:V}{u r:Value}{o:Option V}{A:Around}{E:Value->Shared->Prop}
theorem G2 {Q:Value->Shared->Prop}(hu:A.units + 1 < cLine)(I:Inv X pins σ H s)(g:fM H a y o)(ry:RelV y u)(rd:RelV d r)(h:∀w' s',Inv X pins σ H s'->RelV (o.getD d) w'->Q w' s') :
   wpAny (model X.prog X.w) A (call (.builtin "dict.get") [.ref a,u,r]) Q E s:=by
 rcases g with ⟨kvs,k,e,ey,l⟩ | ⟨kvs,k,b,e,ey,eb,l⟩
 · subst ey
   obtain ⟨z,hd,vs,rel,dd⟩:=oP I.hok e
   refine call_meetsIn ack dd.typeIs ado (adl _ _ _) (meets_dict_get_default (aO X.prog X.w) a (jy ry) hd r) ⟨_,dd.mapOf,h _ _ (I.tok _) ?_⟩
   rw [l]
   exact (rel.val k).getD rd
 · subst ey
   cases (show u=aal b from ry)
   obtain ⟨z,hd,xs,rel,dd⟩:=oQ I.hok e
   refine call_meetsIn ack dd.typeIs ado (adl _ _ _) (meetsH_dict_get_default (tupleKind (aO X.prog X.w)) a b hd r) ⟨tupleKind_room_in1 hu,k,xs,iX I.hok eb,dd,h _ _ (I.tok _) ?_⟩
   rw [l]
   exact (rel.val k).getD rd
end
def Cq (td ty tx:TE):TE:=fun σ H Q=>td σ H fun x H1=>∃a,x=.ref a/\OB H1 a/\ty σ H1 fun y H2=>tx σ H2 fun z H3=>∃o,fM H3 a y o/\Q (o.getD z) H3
section
variable {X:Cx}{o e f:Expr}{apos cpos:Pos}{td ty tx:TE}
theorem BD (hu:X.A.units + 1 < cLine)(ho:PE X o td)(he:PE X e ty)(hf:PE X f tx)(m:M2 X o "get" apos e f cpos):PE X (.Call (.Attribute o "get" apos) [e,f] [] cpos) (Cq td ty tx):=by
 intro pins s σ H Q I h
 refine wpAny_Call_method m.base m.few m.line adk ack PySem.F.type_dict_get (bt (ho pins s σ H _ I h) fun u s1 ⟨x,H1,I1,rx,a,ex,d,q1⟩=>?_)
 subst ex
 obtain rfl:u=aal a:=rx
 obtain ⟨t1,t2,_⟩:=AV I1 d
 refine ⟨t1,t2,?_⟩
 rw [m.trees]
 refine acp rfl (abU (abn (bt (he pins s1 σ H1 _ I1 q1) fun iv s2 ⟨y,H2,I2,ry,q2⟩=>
   abn (bt (hf pins s2 σ H2 _ I2 q2) fun fv s3 ⟨z,H3,I3,rz,ov,g,q3⟩=>abL ?_))))
 exact G2 hu I3 g ry rz fun w' s4 I4 rw'=>⟨_,H3,I4,rw',q3⟩
end
section
variable {κ:Type}[DecidableEq κ]
theorem wD:∀{l:List κ} {k:κ},l.Nodup->¬ k∈l->(l++[k]).Nodup
 | [],k,_,_=>by simp
 | a :: r,k,h,hk=>by
   obtain ⟨h1,h2⟩:=List.nodup_cons.mp h
   show (a :: (r++[k])).Nodup
   refine List.nodup_cons.mpr ⟨fun m=>?_,wD h2 fun m=>hk (List.mem_cons.mpr (Or.inr m))⟩
   rcases List.mem_append.mp m with q | q
   · exact h1 q
   · exact hk (List.mem_cons.mpr (Or.inl (List.mem_singleton.mp q).symm))
end
def iE (scope:Scope)(env:Env):List (Str×Addr):=
 (scope.names.filterMap fun (p:Str×abO)=>if p.2 == .free then (env.cells.lookup p.1).map fun c=>(p.1,c) else none).reverse
theorem mB (env:Env):∀(l:List (Str×abO)) (acc:List (Str×Addr)),(∀p∈l,p.2=.free->∃c,env.cells.lookup p.1=some c) ->
   (forIn l acc fun (x:Str×abO) (r:List (Str×Addr))=>if (x.2 == aaF)=true then do let c ← cellOf env x.1; pure (aa8 ((x.1,c) :: r)) else pure (aa8 r):Sem (List (Str×Addr))) =
     pure ((l.filterMap fun (p:Str×abO)=>if p.2 == .free then (env.cells.lookup p.1).map fun c=>(p.1,c) else none).reverse++acc)
 | [],acc,_=>rfl
 | p :: l,acc,h=>by
   have ih:=fun acc=>mB env l acc fun q hq=>h q (aaK _ hq)
   rw [ab1]
   by_cases hp:p.2=.free
   · obtain ⟨c,hc⟩:=h p aa6 hp
     have e:(p.2 == aaF)=true:=by rw [hp]; rfl
     rw [if_pos e]
     have ec:cellOf env p.1=pure c:=by unfold cellOf; rw [hc]
     rw [ec,abb,if_pos e,hc]
     show (forIn l ((p.1,c) :: acc) _:Sem _)=_
     rw [ih]
     simp
   · have e:¬ (p.2 == aaF)=true:=by intro z; exact hp (by simpa using z)
     rw [if_neg e,abb,if_neg e]
     show (forIn l acc _:Sem _)=_
     rw [ih]
theorem tT {scope:Scope}{env:Env}(h:∀p∈scope.names,p.2=.free->∃c,env.cells.lookup p.1=some c):closureFor scope env=pure (iE scope env):=by
 have e:=mB env scope.names [] h
 rw [aax] at e
 show ((forIn scope.names [] fun (x:Str×abO) (r:List (Str×Addr))=>if (x.2 == aaF)=true then do let c ← cellOf env x.1; pure (aa8 ((x.1,c) :: r)) else pure (aa8 r)) >>= fun cs=>pure cs:Sem (List (Str×Addr)))=_
 rw [e]
 rfl
theorem tS {scope:Scope}{env:Env}{x:Str}{c:Addr}(h:(x,c)∈iE scope env):(x,aaF)∈scope.names/\env.cells.lookup x=some c:=by
 unfold iE at h
 obtain ⟨p,hp,e⟩:=List.mem_filterMap.mp (List.mem_reverse.mp h)
 obtain ⟨n,k⟩:=p
 dsimp only at e
 by_cases hk:(k == aaF)=true
 · rw [if_pos hk] at e
   have Py:k=.free:=by simpa using hk
   subst Py
   cases q:env.cells.lookup n with
   | none=>rw [q] at e; cases e
   | some c'=>rw [q] at e; cases e; exact ⟨hp,q⟩
 · rw [if_neg hk] at e; cases e
theorem oN {scope:Scope}{env:Env}{x:Str}{c:Addr}(hm:(x,aaF)∈scope.names)(hc:env.cells.lookup x=some c):(iE scope env).lookup x=some c:=by
 have Pr:(x,c)∈iE scope env:=by
   unfold iE
   refine List.mem_reverse.mpr (List.mem_filterMap.mpr ⟨(x,.free),hm,?_⟩)
   simp [hc]
 cases q:(iE scope env).lookup x with
 | none=>
   have:=List.lookup_eq_none_iff.mp q (x,c) Pr
   simp at this
 | some c'=>
   obtain ⟨_,e⟩:=tS (aaM q)
   rw [hc] at e
   exact e.symm
structure aE (sc:Scope)(env:Scope):Prop where
 kind:sc.kind=.function
 cell:∀y∈sc.names,y.2≠.cell
 names:∀x∈sc.names,x.2=.local->sc.names.lookup x.1=some .local
 free:∀x∈sc.names,x.2=.free->env.names.lookup x.1=some .cell\/env.names.lookup x.1=some .free
def cS (sc:Scope)(src:List (Option Nat))(N' N:List Str):Bool:=
 src.length == N'.length && (src.zip N').all fun p=>match p.1 with
   | none=>true
   | some j=>N[j]? == some p.2 && sc.names.lookup p.2 == some .free
def capσ (src:List (Option Nat))(σ:St):St:=src.map fun o=>match o with
 | none=>none
 | some j=>match σ[j]? with
   | some v=>v
   | none=>none
theorem Dl {sc:Scope}{N N':List Str}{src:List (Option Nat)}(h:cS sc src N' N=true){i:Nat}{x:Str}{j:Nat}(h1:src[i]? = some (some j))(h2:N'[i]? = some x):N[j]? = some x/\sc.names.lookup x=some .free:=by
 unfold cS at h
 have h':=(aaN _ _ ▸ h).2
 have hz:(src.zip N')[i]? = some (some j,x):=by rw [adq]; exact ⟨h1,h2⟩
 have q:=List.all_eq_true.mp h' _ (aab hz)
 simpa using q
theorem zP {sc:Scope}{N N':List Str}{src:List (Option Nat)}(h:cS sc src N' N=true):src.length=N'.length:=by
 unfold cS at h
 have h':=(aaN _ _ ▸ h).1
 simpa using h'
def fN (X:Cx)(N':List Str)(sc:Scope)(s:Shared)(H:Hp)(C:Addr)(fp:List Addr)(xe:Value->Shared->Prop):Cx where
 prog:=X.prog
 w:=X.w
 K:=X.K
 mg:=X.mg
 base:=X.base
 A:=X.A
 N:=N'
 s₀:=s
 H₀:=H
 env:=compEnvC sc (iE sc X.env) C X.env
 outer:=X.stack
 stack:=X.stack
 ex:=fp
 fn:=fun _=>false
 calm:=X.calm
 pn:=[]
 xe:=xe
theorem gw {sc:Scope}{env:Env}{x:Str}:∀{names:List (Str×abO)},
   (names.map fun (p:Str×abO)=>if (p.2 == aaF && env.scope.kind == .function && env.kindOf p.1 == some .cell) then (p.1,ade) else (p.1,p.2)).lookup x =
     (names.lookup x).map fun k=>if (k == aaF && env.scope.kind == .function && env.kindOf x == some .cell) then ade else k
 | []=>rfl
 | (n,k) :: r=>by
   have ih:=@gw sc env x r
   rw [aaw]
   cases hx:x == n with
   | true=>
     have e:x=n:=by simpa using hx
     subst e
     by_cases hc:(k == aaF && env.scope.kind == .function && env.kindOf x == some .cell)=true
     · simp only [hc,if_true,acm,hx,aa1]
     · simp only [hc,if_false,acm,hx,aa1,aaQ]
   | false=>
     by_cases hc:(k == aaF && env.scope.kind == .function && env.kindOf n == some .cell)=true
     · simp only [hc,if_true,acm,hx]; exact ih
     · simp only [hc,if_false,acm,hx,aaQ]; exact ih
theorem oO {sc:Scope}{env:Env}{cl:List (Str×Addr)}{C:Addr}(x:Str):(compEnvC sc cl C env).kindOf x =
   (sc.names.lookup x).map fun k=>if (k == aaF && env.scope.kind == .function && env.kindOf x == some .cell) then ade else k:=
 gw (sc:=sc) (env:=env)
section
variable {X:Cx}{pins:List (Addr×Obj)}{σ:St}{H:Hp}{s:Shared}{N':List Str}{sc:Scope}{src:List (Option Nat)}{fp:List Addr}{xe:Value->Shared->Prop}
theorem tU (I:Inv X pins σ H s)(S:aE sc X.env.scope)(hc:cS sc src N' X.N=true)(hf:∀b∈fp,dI X pins H b)(ho:∀b∈fp,∃o,s.heap.get? b=some o){h₁:Heap}{tk:Nat}
   (hn:h₁.Ns s.heap.objs.size (fun _=>none)) (hk:∀b o,s.heap.get? b=some o->h₁.get? b=some o) :
   Inv (fN X N' sc s H s.heap.objs.size fp xe) [] (capσ src σ) H { s with heap:=h₁,toks:=tk }:=by
 have cellmem:∀x c,(iE sc X.env).lookup x=some c->X.env.cells.lookup x=some c:=fun x c e=>(tS (aaM e)).2
 have isfree:∀x,((compEnvC sc (iE sc X.env) s.heap.objs.size X.env).kindOf x=some .cell\/(compEnvC sc (iE sc X.env) s.heap.objs.size X.env).kindOf x=some .free)->(x,aaF)∈sc.names:=fun x hx=>by
   rw [oO] at hx
   cases q:sc.names.lookup x with
   | none=>rw [q] at hx; simp at hx
   | some k=>
     have hm:=aaM q
     by_cases PH:k=.free
     · subst PH; exact hm
     · have:(k == aaF)=false:=by simpa using PH
       have e2:(k == aaF && X.env.scope.kind == .function && X.env.kindOf x == some .cell)=false:=by rw [this]; rfl
       rw [q,aa1,e2] at hx
       have CU:(some k:Option abO)=some .cell\/(some k:Option abO)=some .free:=hx
       rcases CU with hx | hx
       · exact absurd (aap hx) (S.cell _ hm)
       · exact absurd (aap hx) PH
 have has:∀x,(x,aaF)∈sc.names->∃c,X.env.cells.lookup x=some c:=fun x hm=>I.ok.has x (S.free _ hm rfl)
 refine ⟨⟨I.ok.mod,S.kind,I.ok.glob,I.ok.blt,Z3 _,fun x y c h1 h2=>I.ok.inj x y c (cellmem x c h1) (cellmem y c h2),fun x hx=>?_,fun x c Ln _=>?_,I.ok.hd,I.ok.frames,.inl rfl,fun b hb=>⟨?_,fun x c e=>?_⟩,I.bs,Z8 I.ok.bsz I.sz,fun b o e hb=>?_,fun b hb hs=>?_,I.stack,I.qt⟩,
   rfl,I.bare,Un.kept hk,⟨_,hn,fun i x v h1 h2 h3=>?_⟩,fun x c e=>?_,I.hok.fresh (Z3 _),fun x c e=>I.freeC x c (cellmem x c e),fun p hp=>absurd (show p∈([]:List (Addr×Obj)) from hp) (by simp),I.hok.kept hk,?_⟩
 · obtain ⟨c,e⟩:=has x (isfree x hx)
   exact ⟨c,oN (isfree x hx) e⟩
 · exact absurd (show false=true from Ln) (by simp)
 · obtain ⟨o,e⟩:=ho b hb
   exact aay (Z7 e)
 · exact (hf b hb).2.2.2.2.1 x c (cellmem x c e)
 · rcases (hf b hb).2.2.2.1 with z | z
   · exact I.ok.noex b o e z
   · exact absurd (aah (Z7 e) (Z8 I.ok.bsz z)) (abx _)
 · rcases List.mem_cons.mp (I.qu b hs) with z | z
   · exact (hf b hb).2.1 z
   · exact (hf b hb).2.2.1 z
 · -- a KP name
   have rB:(capσ src σ)[i]? = some (some v):=h2
   unfold capσ at rB
   rw [aaq] at rB
   cases q:src[i]? with
   | none=>rw [q] at rB; cases rB
   | some o=>
     rw [q] at rB
     cases o with
     | none=>simp at rB
     | some j=>
       obtain ⟨hj,hfr⟩:=Dl hc q h1
       have hσ:σ[j]? = some (some v):=by
         simp only [aa1,Option.some.injEq] at rB
         cases r:σ[j]? with
         | none=>rw [r] at rB; cases rB
         | some w=>rw [r] at rB; rw [← rB]
       have hm:=aaM hfr
       have Lz:=S.free _ hm rfl
       obtain ⟨m,_,hl⟩:=I.loc
       obtain ⟨u,ru,lk⟩:=hl j x v hj hσ (Or.inr Lz)
       refine ⟨u,ru,.inr ⟨?_,?_⟩⟩
       · show (compEnvC sc (iE sc X.env) s.heap.objs.size X.env).kindOf x=some .cell\/(compEnvC sc (iE sc X.env) s.heap.objs.size X.env).kindOf x=some .free
         rw [oO,hfr]
         by_cases z:(aaF == aaF && X.env.scope.kind == .function && X.env.kindOf x == some .cell)=true
         · exact .inl (by simp only [aa1,z,if_true])
         · exact .inr (by simp only [aa1,z,if_false,aaQ])
       · rcases lk with ⟨z,_⟩ | ⟨_,c,e,z⟩
         · have z':X.env.scope.names.lookup x=some .local:=z
           rcases Lz with y | y <;> (rw [z'] at y; cases y)
         · obtain ⟨oc,Kf,hd⟩:=z
           exact ⟨c,oN hm e,oc,hk c oc Kf,hd⟩
 · obtain ⟨v,oc,Kf,hd⟩:=I.cell x c (cellmem x c e)
   exact ⟨v,oc,hk c oc Kf,hd⟩
 · show (capσ src σ).length=N'.length
   unfold capσ
   rw [ZX]
   exact zP hc
theorem tV {H':Hp}{σ':St}{s':Shared}(I:Inv X pins σ H s)(hf:∀b∈fp,dI X pins H b)(I':Inv (fN X N' sc s H s.heap.objs.size fp xe) [] σ' H' s'):Inv X pins σ H' s':=
 I.Fv I'.os I'.base I'.hok I'.bare fun b hb=>⟨(hf b hb).2.2.2.1,(hf b hb).2.1,(hf b hb).2.2.2.2.1,(hf b hb).2.2.2.2.2⟩
theorem Dn {H':Hp}{σ':St}{s':Shared}(I':Inv (fN X N' sc s H s.heap.objs.size fp xe) [] σ' H' s'):∃m,s'.heap.Ns s.heap.objs.size m:=let ⟨m,hn,_⟩:=I'.loc; ⟨m,hn⟩
theorem xD {H1:Hp}{σ1:St}{s1:Shared}{h':Heap}(I:Inv X pins σ H s)(I1:Inv X pins σ1 H1 s1)(hn:H1 s.heap.objs.size=none)(hs:aaH s.heap.objs.size s1.heap h'):Inv X pins σ1 H1 { s1 with heap:=h' }:=by
 obtain ⟨f0,f1,f2,f3,f4,f5⟩:=I.pQ (H':=H1) (Z3 _) hn
 exact I1.turned (t':=s1.toks) (fun b o hb e=>(hs.2 b hb).trans e) f0 f1 f3 f4 f5
end
def bC:St->St->Prop
 | [],[]=>True
 | none :: r,_ :: r'=>bC r r'
 | some v :: r,u :: r'=>u=some v/\bC r r'
 | _,_=>False
theorem bC.len:∀{a b:St},bC a b->a.length=b.length
 | [],[],_=>rfl
 | [],_ :: _,h=>h.elim
 | none :: _,[],h=>h.elim
 | some _ :: _,[],h=>h.elim
 | none :: r,_ :: r',h=>by
   have h':bC r r':=h
   rw [aam,aam,h'.len]
 | some v :: r,u :: r',h=>by
   have h':u=some v/\bC r r':=h
   rw [aam,aam,h'.2.len]
theorem bC.get:∀{a b:St},bC a b->∀(i:Nat) (v:V),a[i]? = some (some v)->b[i]? = some (some v)
 | [],[],_,i,v,e=>by simp at e
 | [],_ :: _,h,_,_,_=>h.elim
 | none :: _,[],h,_,_,_=>h.elim
 | some _ :: _,[],h,_,_,_=>h.elim
 | none :: r,_ :: r',h,0,v,e=>by simp at e
 | none :: r,_ :: r',h,i + 1,v,e=>by
   have h':bC r r':=h
   simpa using h'.get i v (by simpa using e)
 | some w :: r,u :: r',h,0,v,e=>by
   have h':u=some w/\bC r r':=h
   simp at e
   subst e
   simp [h'.1]
 | some w :: r,u :: r',h,i + 1,v,e=>by
   have h':u=some w/\bC r r':=h
   simpa using h'.2.get i v (by simpa using e)
def og (X:Cx)(cs:List Expr)(t:TT):Prop:=
 ∀(pins:List (Addr×Obj)) (s:Shared) (σ:St) (H:Hp) (Q:Bool->Hp->Prop),Inv X pins σ H s->t σ H Q ->
   wpAny (model X.prog X.w) X.A (forIn cs true fun c r=>if r=true then do let ok ← isTrue c X.env (eval c X.env); pure (aa8 ok) else pure (aa8 r)) (TP X pins σ Q) X.xe s
def JM:TT:=fun _ H Q=>Q true H
theorem Q9 {X:Cx}:og X [] JM:=fun _ _ _ H _ I h=>wpAny_tests_nil ⟨H,I,h⟩
theorem Ra {X:Cx}{c:Expr}{t:TT}(h:PT X c t):og X [c] t:=fun pins s σ H Q I q=>wpAny_tests_one (h pins s σ H Q I q)
abbrev TM:=St->Hp->(Hp->Prop)->Prop
def J4 (X:Cx)(m:Sem Unit)(t:TM):Prop:=
 ∀(pins:List (Addr×Obj)) (s:Shared) (σ:St) (H:Hp) (Q:Hp->Prop),Inv X pins σ H s->t σ H Q ->
   wpAny (model X.prog X.w) X.A m (fun _ s'=>∃H',Inv X pins σ H' s'/\Q H') X.xe s
def vG (tg:Expr)(ipos:Pos)(ifs:List Expr)(it:Value)(env:Env)(cont:Sem Unit)(more:Sem Fin):Sem Fin:=do
 standAt ipos
 match ← pyNext it with
 | none=>pure (.done .next)
 | some v=>
   letOwnedTupleGo tg it v
   assign tg env v
   let mut ok:=true
   for c in ifs do
     if ok then ok ← isTrue c env (eval c env)
   if ok then cont
   more
def nU (J:It)(σ0:St)(g:TG)(tifs:TT)(tm:TM)(Z:Hp->Prop)(H:Hp):Prop:=
 ∃W:Nat->Nat->Hp->Prop,(∃m,W 0 m H)/\∀i m H,W i m H->(J.stop i H/\Z H) \/
   (J.go i H/\∀x H',J.yld i H x H'->g x σ0 H' fun σ2 H2=>tifs σ2 H2 fun b H3=>
     if b=true then tm σ2 H3 fun H4=>bC σ0 σ2/\∃m',m' < m/\W (i + 1) m' H4 else bC σ0 σ2/\∃m',m' < m/\W (i + 1) m' H3)
section
variable {X:Cx}{e tg:Expr}{ipos:Pos}{ifs:List Expr}{depth:Nat}{acc:Value}{cont:Sem Unit}{it:Addr}{fp:List Addr}{tn:Nat->Heap->Prop}{J:It}{g:TG}{tifs:TT}{tm:TM}{σ0:St}{Z:Hp->Prop}{R:Result->Shared->Prop}
theorem xE (hX:X.xe=notedBy (model X.prog X.w) X.A X.env fun e s'=>R (.error e) s')
   (heq:compTurn e depth (.ref it) acc X.env=vG tg ipos ifs (.ref it) X.env cont (again (.compLoop e depth (.ref it) acc X.env)))
   (hq:(acj e depth (.ref it) acc X.env).quiet=true) (hA:X.A.under (.compLoop e depth (.ref it) acc X.env)=X.A) (hF:(acj e depth (.ref it) acc X.env).isFrame=false)
   (hc:X.calm=true) (T:Turn X.prog X.w X.K tg J fp it tn) (hg:PG X tg g) (hif:og X ifs tifs) (hm:J4 X cont tm)
   {pins:List (Addr×Obj)} {H:Hp} {s:Shared} (hf:∀b∈fp,dI X pins H b) (I:Inv X pins σ0 H s) (st:tn 0 s.heap)
   (hZ:∀H' s',Inv X pins σ0 H' s'->(∀b∈fp,H' b=none)->Z H'->R (.ok .next) s') (h:nU J σ0 g tifs tm Z H) :
   codeAny (model X.prog X.w) X.A (.compLoop e depth (.ref it) acc X.env) R s:=by
 obtain ⟨W,⟨m0,w0⟩,turn⟩:=h
 have stat:∀{H':Hp},(∀b∈fp,H' b=none)->∀b∈fp,dI X pins H' b:=fun hn b hb=>⟨hn b hb,(hf b hb).2⟩
 refine codeAny_loop hq (fun n s'=>∃i H',Inv X pins σ0 H' s'/\tn i s'.heap/\(∀b∈fp,H' b=none)/\W i n H') ?_ m0 ⟨0,H,I,st,fun b hb=>(hf b hb).1,w0⟩
 rintro n s3 ⟨i,H3,I3,Cn,Kb,w3⟩
 rw [hA]
 have Pl:(model X.prog X.w).den (.compLoop e depth (.ref it) acc X.env)=(compTurn e depth (.ref it) acc X.env).onRaise (fun x=>do noteFrame x X.env; theTreesLotGoes x):=by
   show (if (acj e depth (.ref it) acc X.env).isFrame then _ else _)=_
   rw [if_neg (by rw [hF]; decide)]
 rw [Pl]
 refine wpAny_noted ?_
 rw [← hX,heq]
 unfold vG
 refine wpAny_bind (wpAny_standAt ?_)
 have zF:∀{σ7:St} {H7:Hp} {s5 s7:Shared},tn (i + 1) s5.heap->Inv X (pins++nA fp s5.heap) σ7 H7 s7->bC σ0 σ7->(∃m',m' < n/\W (i + 1) m' H7) ->
     ∃m,m < n/\∃i H',Inv X pins σ0 H' s7/\tn i s7.heap/\(∀b∈fp,H' b=none)/\W i m H':=fun {σ7 H7 s5 s7} C1 I7 k7 ⟨m',Lu,w7⟩=>by
   refine ⟨m',Lu,i + 1,H7,I7.kg.weak k7.len k7.get,T.keep _ _ _ C1 fun b hb o e=>(I7.pin (b,o) (aaD _ (aaD _ (fq hb e)))).1,fun b hb=>?_,w7⟩
   obtain ⟨o,e,d⟩:=T.obj _ _ C1 b hb
   exact (I7.pin (b,o) (aaD _ (aaD _ (fq hb e)))).2.1
 rcases turn i n H3 w3 with ⟨stop,qn⟩ | ⟨go,step⟩
 · refine wpAny_bind (bt (T.done X rfl rfl rfl hc i pins s3 σ0 H3 X.xe I3 (stat Kb) Cn stop) fun r s4 ⟨hr,I4⟩=>?_)
   subst hr
   exact wpAny_pure (hZ H3 s4 I4 Kb qn)
 · refine wpAny_bind (bt (T.item X rfl rfl rfl hc i pins s3 σ0 H3 X.xe I3 (stat Kb) Cn go) fun r s4 ⟨u,hr,h4⟩=>?_)
   subst hr
   refine wpAny_bind (bt h4 fun _ s5 ⟨x,H5,I5,r5,y5,C1,OZ⟩=>?_)
   have Oz:=I5.pinned (stat OZ) (T.obj _ _ C1)
   refine wpAny_bind (bt (hg _ s5 σ0 H5 x u _ Oz r5 (step x H5 y5)) fun _ s6 ⟨σ6,H6,I6,q6⟩=>?_)
   refine wpAny_bind (bt (hif _ s6 σ6 H6 _ I6 q6) fun b s7 ⟨H7,I7,q7⟩=>?_)
   cases b with
   | false=>
     obtain ⟨k7,w7⟩:=q7
     exact wpAny_pure ⟨rfl,zF C1 I7 k7 w7⟩
   | true=>
     refine wpAny_bind (bt (hm _ s7 σ6 H7 _ I7 q7) fun _ s8 ⟨H8,I8,k8,w8⟩=>?_)
     exact wpAny_pure ⟨rfl,zF C1 I8 k8 w8⟩
end
structure fS (P:Program)(w:World)(A:Around)(e:Expr)(tg iter:Expr)(ifs:List Expr)(emit:Addr->Env->Sem Unit):Prop where
 cl:clausesOf e=[⟨tg,iter,ifs,0⟩]
 turn:∀it D env,compTurn e 0 (.ref it) (.ref D) env=vG tg iter.pos ifs (.ref it) env (emit D env) (again (.compLoop e 0 (.ref it) (.ref D) env))
 start:∀(R:Result->Shared->Prop) (s:Shared) (it acc:Value) (env:Env),codeAny (model P w) A (.compLoop e 0 it acc env) R s ->
   wpAny (model P w) A (pyIter it) (fun XU s'=>codeAny (model P w) A (.compLoop e 0 XU acc env) R s') (notedBy (model P w) A env fun x s'=>R (.error x) s') s->codeAny (model P w) A (.compStart e 0 it acc env) R s
 quiet:∀it acc env,(acj e 0 it acc env).quiet=true
 under:∀it acc env,A.under (.compLoop e 0 it acc env)=A
 frame:∀it acc env,(acj e 0 it acc env).isFrame=false
theorem vU {P:Program}{w:World}{A:Around}{elt tg iter:Expr}{ifs:List Expr}{sc:Scope}{pos:Pos} :
   fS P w A (.ListComp elt [⟨tg,iter,ifs,0⟩] sc pos) tg iter ifs (fun D env=>do let _ ← call (.builtin "list.append") [.ref D,← eval elt env]) where
 cl:=rfl
 turn:=fun it D env=>by rw [compTurn_list]; rfl
 start:=fun R s it acc env h0 h=>codeAny_compStart_list h0 h
 quiet:=fun _ _ _=>rfl
 under:=fun _ _ _=>rfl
 frame:=fun _ _ _=>rfl
theorem Dm {P:Program}{w:World}{A:Around}{kx vx tg iter:Expr}{ifs:List Expr}{sc:Scope}{pos:Pos} :
   fS P w A (.DictComp kx vx [⟨tg,iter,ifs,0⟩] sc pos) tg iter ifs (fun D env=>do
     let kv ← eval kx env
     let vv ← holding [kv] (eval vx env)
     standAt { kx.pos with endLine:=vx.pos.endLine,endCol:=vx.pos.endCol }
     holding [kv,vv] (dictSet D kv vv)) where
 cl:=rfl
 turn:=fun it D env=>by rw [compTurn_dict]; rfl
 start:=fun R s it acc env h0 h=>codeAny_compStart_dict h0 h
 quiet:=fun _ _ _=>rfl
 under:=fun _ _ _=>rfl
 frame:=fun _ _ _=>rfl
section
variable {X:Cx}{e tg iter:Expr}{ifs:List Expr}{emit:Addr->Env->Sem Unit}{sc:Scope}{pos:Pos}{wi:TI}{N':List Str}{src:List (Option Nat)}{g:TG}{tifs:TT}{tm:Addr->TM}{newAcc:Sem Value}{ob:Obj}{accO:HO}
def fC (src:List (Option Nat))(accO:HO)(wi:TI)(g:TG)(tifs:TT)(tm:Addr->TM):TE:=
 fun σ H Q=>wi σ H fun J H1=>∀D,H1 D=none->nU J (capσ src σ) g tifs (tm D) (fun H'=>Q (.ref D) H') (upd H1 D accO)
structure mi (X:Cx)(newAcc:Sem Value)(ob:Obj)(accO:HO):Prop where
 new:∀(s:Shared) (Q:Value->Shared->Prop) (E:Value->Shared->Prop),Q (.ref s.heap.objs.size) { s with heap:=s.heap.push ob }->wpAny (model X.prog X.w) X.A newAcc Q E s
 live:ob.isFreed=false
 ok:∀(pins:List (Addr×Obj)) (σ:St) (H:Hp) (s:Shared),Inv X pins σ H s->bp X.prog X.w (upd H s.heap.objs.size accO) (s.heap.push ob) s.heap.objs.size accO
theorem qT {use:Option (Value->Sem Unit)}{Q':Value->Shared->Prop}(K:fS X.prog X.w X.A e tg iter ifs emit)(hc:X.calm=true)(S:aE sc X.env.scope)(hcap:cS sc src N' X.N=true)(hi:PI X tg iter wi)
   (hb:∀s H C fp xe D,PG (fN X N' sc s H C fp xe) tg g/\og (fN X N' sc s H C fp xe) ifs tifs/\J4 (fN X N' sc s H C fp xe) (emit D (fN X N' sc s H C fp xe).env) (tm D)) (N:mi X newAcc ob accO)
   (hs:∀x,aaP iter X.env x=pure x)
   {pins:List (Addr×Obj)} {s:Shared} {σ:St} {H:Hp} {Q:VK} (I:Inv X pins σ H s) (h:fC src accO wi g tifs tm σ H Q)
   (hQ:∀(C D:Addr) (H':Hp) (s':Shared),Inv X pins σ H' s'->Q (.ref D) H'->H' C=none->(∃m,s'.heap.Ns C m)->(∀(σ1:St) (H1:Hp) (s1:Shared) (h':Heap),Inv X pins σ1 H1 s1->H1 C=none->aaH C s1.heap h'->Inv X pins σ1 H1 { s1 with heap:=h' }) ->
     (C≠X.env.locals/\∀x c,X.env.cells.lookup x=some c->c≠C)->compPost (model X.prog X.w) X.A X.xe use Q' (.ref D) C (.ok .next) s') :
   wpAny (model X.prog X.w) X.A (comprehension e sc X.env pos newAcc false (eval iter X.env) use) Q' X.xe s:=by
 refine wpAny_comprehension_free (g:=⟨tg,iter,ifs,0⟩) (gs:=[]) K.cl hs (tT fun p hp hf=>I.ok.has p.1 (S.free p hp hf)) S.kind S.names ?_
 refine bt (hi pins s σ H _ I h) fun v s1 h1=>bt h1 fun itv s2 h2=>?_
 obtain ⟨it,fp,tn,J,H2,e1,I2,T,Og,f2,q2⟩:=h2
 subst e1
 refine N.new s2 _ _ ?_
 have hD:H2 s2.heap.objs.size=none:=I2.hok.fresh (Z3 _)
 have FI:∀b o,s2.heap.get? b=some o->(s2.heap.push ob).get? b=some o:=fun b o e=>Z4 _ e
 have I3:Inv X pins σ (upd H2 s2.heap.objs.size accO) { s2 with heap:=s2.heap.push ob }:=I2.laid (t':=s2.toks) FI (Z3 _) (N.ok pins σ H2 s2 I2)
 have Cn:tn 0 (s2.heap.push ob):=T.keep _ _ _ Og fun b _ o e=>FI b o e
 have Q2:∀b∈fp,∃o,(s2.heap.push ob).get? b=some o:=fun b hb=>let ⟨o,e,_⟩:=T.obj _ _ Cn b hb; ⟨o,e⟩
 have f3:∀b∈fp,dI X pins (upd H2 s2.heap.objs.size accO) b:=fun b hb=>by
   refine ⟨?_,(f2 b hb).2⟩
   obtain ⟨o,e,_⟩:=T.obj _ _ Og b hb
   rw [aj (aay (Z7 e))]
   exact (f2 b hb).1
 have qq:=q2 s2.heap.objs.size hD
 generalize FP:({ s2 with heap:=s2.heap.push ob }:Shared)=s3 at I3 ⊢
 have WV:s2.heap.push ob=s3.heap:=by rw [← FP]
 rw [WV] at Cn Q2
 generalize s2.heap.objs.size=D at I3 f3 qq hD ⊢
 refine wpAny_newFunctionEnv S.cell (by intro y hy; simp at hy) (fun h₁ hns FQ=>?_) S.kind
 have P9:h₁.Ns s3.heap.objs.size (fun _=>none):=hns
 have CQ:∀b o,s3.heap.get? b=some o->h₁.get? b=some o:=fun b o e=>FQ.extBut b o (aay (Z7 e)) (Z4 _ e)
 let R:Result->Shared->Prop:=compPost (model X.prog X.w) X.A X.xe use Q' (.ref D) s3.heap.objs.size
 let X':Cx:=fN X N' sc s3 (upd H2 D accO) s3.heap.objs.size fp (notedBy (model X.prog X.w) X.A (compEnvC sc (iE sc X.env) s3.heap.objs.size X.env) fun e s'=>R (.error e) s')
 have I4:Inv X' [] (capσ src σ) (upd H2 D accO) { s3 with heap:=h₁,toks:=s3.toks + ([]:List (Str×Value)).length }:=tU I3 S hcap f3 Q2 P9 CQ
 have Oh:tn 0 h₁:=T.keep _ _ _ Cn fun b _ o e=>CQ b o e
 obtain ⟨hg,hif,hm⟩:=hb s3 (upd H2 D accO) s3.heap.objs.size fp (notedBy (model X.prog X.w) X.A (compEnvC sc (iE sc X.env) s3.heap.objs.size X.env) fun e s'=>R (.error e) s') D
 have f4:∀b∈fp,dI X' [] (upd H2 D accO) b:=fun b hb=>by
   obtain ⟨g0,g1,g2,g3,g4,g5⟩:=f3 b hb
   refine ⟨g0,?_,?_,.inl hb,fun x c e=>?_,fun p hp=>absurd (show p∈([]:List (Addr×Obj)) from hp) (by simp)⟩
   · obtain ⟨o,e⟩:=Q2 b hb
     exact aay (Z7 e)
   · intro z
     rcases List.mem_cons.mp (I3.qu b z) with y | y
     · exact g1 y
     · exact g2 y
   · exact g4 x c (tS (aaM e)).2
 have Sz:dI X pins (upd H2 D accO) s3.heap.objs.size:=I3.pQ (Z3 _) (I3.hok.fresh (Z3 _))
 have loop:∀s4:Shared,s4={ s3 with heap:=h₁,toks:=s3.toks + ([]:List (Str×Value)).length }->codeAny (model X.prog X.w) X.A (.compLoop e 0 (.ref it) (.ref D) X'.env) R s4:=by
   rintro s4 rfl
   refine xE (X:=X') (Z:=fun H'=>Q (.ref D) H') rfl (K.turn it D X'.env) (K.quiet _ _ _) (K.under _ _ _) (K.frame _ _ _) hc T hg hif hm f4 I4 Oh (fun H' s' I' _ z=>?_) qq
   refine hQ s3.heap.objs.size D H' s' (tV I3 f3 I') z I'.free (Dn I') (fun σ1 H1 s1 h' I1 n1 Qn=>xD I3 I1 n1 Qn) ⟨Sz.2.1,fun x c e=>Sz.2.2.2.2.1 x c e⟩
 exact K.start R _ (.ref it) (.ref D) X'.env (loop _ rfl) (T.self X.A 0 _ _ _ Oh (loop _ rfl))
theorem wI (K:fS X.prog X.w X.A e tg iter ifs emit)(hc:X.calm=true)(S:aE sc X.env.scope)(hcap:cS sc src N' X.N=true)(hi:PI X tg iter wi)
   (hb:∀s H C fp xe D,PG (fN X N' sc s H C fp xe) tg g/\og (fN X N' sc s H C fp xe) ifs tifs/\J4 (fN X N' sc s H C fp xe) (emit D (fN X N' sc s H C fp xe).env) (tm D)) (N:mi X newAcc ob accO)
   (hs:∀x,aaP iter X.env x=pure x) (he:eval e X.env=comprehension e sc X.env pos newAcc false (eval iter X.env)):PE X e (fC src accO wi g tifs tm):=by
 intro pins s σ H Q I h
 rw [he]
 refine qT (use:=none) (Q:=Q) K hc S hcap hi hb N hs I h fun C D H' s' I' q hn ⟨m,hm⟩ gone _=>?_
 exact ⟨m,hm,fun h' pW=>⟨.ref D,H',gone σ H' s' h' I' hn pW,rfl,q⟩⟩
theorem EL {i:Nat}{x:Str}{pos' dQ:Pos}(K:fS X.prog X.w X.A e tg iter ifs emit)(hc:X.calm=true)(S:aE sc X.env.scope)(hcap:cS sc src N' X.N=true)(hi:PI X tg iter wi)
   (hb:∀s H C fp xe D,PG (fN X N' sc s H C fp xe) tg g/\og (fN X N' sc s H C fp xe) ifs tifs/\J4 (fN X N' sc s H C fp xe) (emit D (fN X N' sc s H C fp xe).env) (tm D)) (N:mi X newAcc ob accO)
   (hs:∀x,aaP iter X.env x=pure x) (he:∀u,evalThenUse e X.env u=(do let _ ← comprehension e sc X.env pos newAcc false (eval iter X.env) (some u)))
   (hN:X.N.Nodup) (hix:X.N[i]? = some x) (hx:Loc X.env.scope x) (hsw:abN e (some (.Name x pos')) dQ.line X.env=pure true)
   (hf:X.fn x=true\/X.env.scope.names.lookup x=some .local:=by first | exact .inl rfl | exact .inr rfl | assumption) :
   PS X (.Assign [.Name x pos'] e dQ) (vD (fC src accO wi g tifs tm) (kU i)):=by
 intro pins s σ H D0 I h
 rw [exec_Assign_Name_used x pos' e dQ hsw,he]
 refine wpAny_bind (wpAny_standAt (wpAny_bind (wpAny_bind ?_)))
 refine qT (use:=some (assign (.Name x pos') X.env)) (Q:=fun v H'=>D0.nx (σ.set i (some v)) H') (Q':=fun _ s'=>wpAny _ _ _ _ _ s') K hc S hcap hi hb N hs I h fun C D H' s' I' q hn ⟨m,hm⟩ gone ⟨Ws,hCc⟩=>?_
 refine wpAny_assign_Name (pD (v:=.ref D) I' hN hix hx rfl (fun s2 I2 hch=>?_) hf)
 obtain ⟨a,FQ,ha⟩:=hch
 have hne:C≠a:=by
   rcases ha with z | z
   · rw [z]; exact Ws
   · exact (hCc x a z).symm
 refine ⟨m,hm.sameBut FQ hne,fun h' pW=>?_⟩
 exact wpAny_pure (wpAny_pure ⟨_,H',gone _ H' s2 h' I2 hn pW,q⟩)
end
section
variable {X:Cx}{elt kx vx:Expr}{te tk tv:TE}
def de (te:TE)(D:Addr):TM:=fun σ H K=>te σ H fun y H1=>∃ys,H1 D=some (.lst ys)/\ys.length < sizeLine/\K (upd H1 D (.lst (ys++[y])))
theorem BL (h:PE X elt te)(D:Addr):J4 X (do let _ ← call (.builtin "list.append") [.ref D,← eval elt X.env]) (de te D):=by
 intro pins s σ H Q I q
 refine wpAny_bind (bt (h pins s σ H _ I q) fun u s1 ⟨y,H1,I1,ru,ys,e,z,k⟩=>?_)
 refine wpAny_bind (bt (oY pins s1 σ H1 (.ref D) [y] (.ref D) [u] (fun _ H'=>Q H') I1 rfl (.cons ru .nil) ⟨D,ys,y,rfl,rfl,e,z,k⟩) fun r s2 ⟨v,H2,I2,_,k2⟩=>?_)
 exact wpAny_pure ⟨H2,I2,k2⟩
theorem xG {pins:List (Addr×Obj)}{σ:St}{H H':Hp}{s:Shared}{a:Addr}{y v:V}{u r:Value}{A:Around}{E:Value->Shared->Prop}{Q:Unit->Shared->Prop}(hu:A.units + 1 < cLine)(I:Inv X pins σ H s)(g:mj H a y v H')(ry:RelV y u)(rv:RelV v r)(h:∀s',Inv X pins σ H' s'->Q () s') :
   wpAny (model X.prog X.w) A (dictSet a u r) Q E s:=by
 rcases g with ⟨kvs,k,e,ey,l,eH⟩ | ⟨kvs,k,b,e,ey,eb,l,eH⟩
 · subst ey eH
   obtain ⟨z,hd,vs,rel,dd⟩:=v7 I.hok e
   have hz:vs.length<=sizeLine:=by rw [← rel.length]; exact z
   have hl:(putK kvs k v).length<=sizeLine:=by have:=bL kvs k v; omega
   refine wpAny_dictSet_pairs (hsz:=hz) (jy ry) dd fun h' oi hs=>h _ ?_
   have he:∃q,h'.get? a=some q:=let ⟨q,_,_,hq,_⟩:=oi; ⟨q,hq⟩
   exact eA I (by rw [e]; exact aat) hs he (pO hl hd (rel.put k rv) oi)
 · subst ey eH
   cases (show u=aal b from ry)
   obtain ⟨z,hd,xs,rel,dd⟩:=v8 I.hok e
   have hz:xs.length<=sizeLine:=by rw [← Paired.length rel]; exact z
   have hl:(putK kvs k v).length<=sizeLine:=by have:=bL kvs k v; omega
   have LF:(tupleKind (aO X.prog X.w)).room A:=show A.units < cLine by omega
   refine wpAny_dictSet_heap (hsz:=hz) LF (iX I.hok eb) dd fun h' oi hs=>h _ ?_
   obtain ⟨q,es,ep,hq,h2,h3,h4,_,h5⟩:=oi
   refine eA I (by rw [e]; exact aat) hs ⟨q,hq⟩ ⟨hl,hd,_,(rel.put k eb rv).keeps fun c ys ec=>?_,q,es,ep,hq,h2,h3,h4,h5⟩
   rw [aj (fH ec e (fun z=>nomatch z))]
   exact ec
def D6 (tk tv:TE)(D:Addr):TM:=fun σ H K=>tk σ H fun y H1=>tv σ H1 fun v H2=>∃H3,mj H2 D y v H3/\K H3
theorem Jn (hu:X.A.units + 1 < cLine)(hk:PE X kx tk)(hv:PE X vx tv)(D:Addr):J4 X (do
     let kv ← eval kx X.env
     let vv ← holding [kv] (eval vx X.env)
     standAt { kx.pos with endLine:=vx.pos.endLine,endCol:=vx.pos.endCol }
     holding [kv,vv] (dictSet D kv vv)) (D6 tk tv D):=by
 intro pins s σ H Q I q
 refine wpAny_bind (bt (hk pins s σ H _ I q) fun u s1 ⟨y,H1,I1,ru,q1⟩=>?_)
 refine wpAny_bind (wpAny_holding (bt (hv pins s1 σ H1 _ I1 q1) fun r s2 ⟨v,H2,I2,rv,H3,g,q2⟩=>?_))
 exact wpAny_bind (wpAny_standAt (wpAny_holding (xG hu I2 g ru rv fun s3 I3=>⟨H3,I3,q2⟩)))
theorem GR:mi X newDict { cls:=.type "dict",data:=.dict #[] } (.dT []) where
 new:=fun s Q E h=>wpAny_newObj_type h
 live:=rfl
 ok:=fun pins σ H s I=>zU s.heap I.big
theorem qL:mi X (newList []) { cls:=.type "list",data:=.seq #[] } (.lst []) where
 new:=fun s Q E h=>wpAny_newObj_type h
 live:=rfl
 ok:=fun pins σ H s I=>⟨aaI _,[],0,.nil,aas _ rfl⟩
end
section
variable {X:Cx}{elt kx vx tg iter:Expr}{ifs:List Expr}{sc:Scope}{pos:Pos}{wi:TI}{N':List Str}{src:List (Option Nat)}{g:TG}{tifs:TT}{te tk tv:TE}
theorem Mn (src:List (Option Nat))(N':List Str)(hc:X.calm=true)(S:aE sc X.env.scope)(hcap:cS sc src N' X.N=true)(hi:PI X tg iter wi)
   (hb:∀s H C fp xe,PG (fN X N' sc s H C fp xe) tg g/\og (fN X N' sc s H C fp xe) ifs tifs/\PE (fN X N' sc s H C fp xe) elt te)
   (hs:∀x,aaP iter X.env x=pure x:=by intro _; rfl):PE X (.ListComp elt [⟨tg,iter,ifs,0⟩] sc pos) (fC src (.lst []) wi g tifs (de te)):=
 wI vU hc S hcap hi (fun s H C fp xe D=>⟨(hb s H C fp xe).1,(hb s H C fp xe).2.1,BL (hb s H C fp xe).2.2 D⟩) qL hs rfl
theorem Mu {i:Nat}{x:Str}{pos' dQ:Pos}(src:List (Option Nat))(N':List Str)(hc:X.calm=true)(S:aE sc X.env.scope)(hcap:cS sc src N' X.N=true)(hi:PI X tg iter wi)
   (hb:∀s H C fp xe,PG (fN X N' sc s H C fp xe) tg g/\og (fN X N' sc s H C fp xe) ifs tifs/\PE (fN X N' sc s H C fp xe) elt te)
   (hN:X.N.Nodup) (hix:X.N[i]? = some x) (hx:Loc X.env.scope x) (hsw:abN (.ListComp elt [⟨tg,iter,ifs,0⟩] sc pos) (some (.Name x pos')) dQ.line X.env=pure true:=by rfl)
   (hs:∀x,aaP iter X.env x=pure x:=by intro _; rfl) (hf:X.fn x=true\/X.env.scope.names.lookup x=some .local:=by first | exact .inl rfl | exact .inr rfl | assumption) :
   PS X (.Assign [.Name x pos'] (.ListComp elt [⟨tg,iter,ifs,0⟩] sc pos) dQ) (vD (fC src (.lst []) wi g tifs (de te)) (kU i)):=
 EL vU hc S hcap hi (fun s H C fp xe D=>⟨(hb s H C fp xe).1,(hb s H C fp xe).2.1,BL (hb s H C fp xe).2.2 D⟩) qL hs (fun _=>rfl) hN hix hx hsw hf
theorem IX (src:List (Option Nat))(N':List Str)(hu:X.A.units + 1 < cLine)(hc:X.calm=true)(S:aE sc X.env.scope)(hcap:cS sc src N' X.N=true)(hi:PI X tg iter wi)
   (hb:∀s H C fp xe,PG (fN X N' sc s H C fp xe) tg g/\og (fN X N' sc s H C fp xe) ifs tifs/\PE (fN X N' sc s H C fp xe) kx tk/\PE (fN X N' sc s H C fp xe) vx tv)
   (hs:∀x,aaP iter X.env x=pure x:=by intro _; rfl):PE X (.DictComp kx vx [⟨tg,iter,ifs,0⟩] sc pos) (fC src (.dT []) wi g tifs (D6 tk tv)):=
 wI Dm hc S hcap hi (fun s H C fp xe D=>⟨(hb s H C fp xe).1,(hb s H C fp xe).2.1,Jn (X:=fN X N' sc s H C fp xe) hu (hb s H C fp xe).2.2.1 (hb s H C fp xe).2.2.2 D⟩) GR hs rfl
end
section
variable {K:ZY}{a:Addr}{xs:List V}{g:TG}{tifs:TT}{tm:TM}{σ0:St}{Z:Hp->Prop}{H:Hp}
theorem lS (n:Nat){J:It}(Pv:Nat->Hp->Prop)(h0:Pv 0 H)(hgo:∀i H,i < n->Pv i H->J.go i H)(hst:∀H,Pv n H->J.stop n H)
   (turn:∀i H,i < n->Pv i H->∀x H',J.yld i H x H'->g x σ0 H' fun σ2 H2=>tifs σ2 H2 fun b H3=>
     if b=true then tm σ2 H3 fun H4=>bC σ0 σ2/\∃m',m' < n - i/\(m'=n - (i + 1)/\i + 1<=n/\Pv (i + 1) H4) else bC σ0 σ2/\∃m',m' < n - i/\(m'=n - (i + 1)/\i + 1<=n/\Pv (i + 1) H3))
   (hZ:∀H,Pv n H->Z H):nU J σ0 g tifs tm Z H:=by
 refine ⟨fun i m H=>m=n - i/\i<=n/\Pv i H,⟨n,by simp,aaI _,h0⟩,?_⟩
 rintro i m H ⟨rfl,hi,p⟩
 by_cases hlt:i < n
 · exact .inr ⟨hgo i H hlt p,turn i H hlt p⟩
 · have e:i=n:=by omega
   subst e
   exact .inl ⟨hst H p,hZ H p⟩
theorem bj (Pv:Nat->Hp->Prop)(h0:Pv 0 H)(hl:∀i H,i<=xs.length->Pv i H->ao K H a xs)
   (turn:∀i x H,xs[i]? = some x->Pv i H->g x σ0 H fun σ2 H2=>tifs σ2 H2 fun b H3=>
     if b=true then tm σ2 H3 fun H4=>bC σ0 σ2/\∃m',m' < xs.length - i/\(m'=xs.length - (i + 1)/\i + 1<=xs.length/\Pv (i + 1) H4) else bC σ0 σ2/\∃m',m' < xs.length - i/\(m'=xs.length - (i + 1)/\i + 1<=xs.length/\Pv (i + 1) H3))
   (hZ:∀H,Pv xs.length H->Z H):nU (JZ K a) σ0 g tifs tm Z H:=by
 refine lS xs.length Pv h0 (fun i H hi p=>⟨xs,xs[i],hl i H (aa5 hi) p,by simp [hi]⟩) (fun H p=>⟨xs,hl _ H (Z3 _) p,Z3 _⟩) (fun i H hi p x H' y=>?_) hZ
 obtain ⟨e,y⟩:=y
 subst e
 exact turn i x _ (y xs (hl i _ (aa5 hi) p)) p
theorem qU (Pv:Nat->Hp->Prop)(h0:Pv 0 H)(hl:∀i H,i<=xs.length->Pv i H->aK K H a xs)
   (turn:∀i x H,xs[i]? = some x->Pv i H->g x σ0 H fun σ2 H2=>tifs σ2 H2 fun b H3=>
     if b=true then tm σ2 H3 fun H4=>bC σ0 σ2/\∃m',m' < xs.length - i/\(m'=xs.length - (i + 1)/\i + 1<=xs.length/\Pv (i + 1) H4) else bC σ0 σ2/\∃m',m' < xs.length - i/\(m'=xs.length - (i + 1)/\i + 1<=xs.length/\Pv (i + 1) H3))
   (hZ:∀H,Pv xs.length H->Z H):nU (J1 K a) σ0 g tifs tm Z H:=by
 refine lS xs.length Pv h0 (fun i H hi p=>⟨xs,xs[i],hl i H (aa5 hi) p,by simp [hi]⟩) (fun H p=>⟨xs,hl _ H (Z3 _) p,Z3 _⟩) (fun i H hi p x H' y=>?_) hZ
 obtain ⟨e,y⟩:=y
 subst e
 exact turn i x _ (y xs (hl i _ (aa5 hi) p)) p
theorem dZ {lo:Int}{n:Nat}(Pv:Nat->Hp->Prop)(h0:Pv 0 H)
   (turn:∀i H,i < n->Pv i H->g (.int (lo + i)) σ0 H fun σ2 H2=>tifs σ2 H2 fun b H3=>
     if b=true then tm σ2 H3 fun H4=>bC σ0 σ2/\∃m',m' < n - i/\(m'=n - (i + 1)/\i + 1<=n/\Pv (i + 1) H4) else bC σ0 σ2/\∃m',m' < n - i/\(m'=n - (i + 1)/\i + 1<=n/\Pv (i + 1) H3))
   (hZ:∀H,Pv n H->Z H):nU (Fo lo n) σ0 g tifs tm Z H:=by
 refine lS n Pv h0 (fun i H hi p=>hi) (fun H p=>Z3 _) (fun i H hi p x H' y=>?_) hZ
 obtain ⟨e,y⟩:=y
 subst e y
 exact turn i _ hi p
theorem aL {n i:Nat}{P:Prop}{Pv:Nat->Hp->Prop}{H:Hp}(k:P)(hi:i < n)(p:Pv (i + 1) H):P/\∃m',m' < n - i/\(m'=n - (i + 1)/\i + 1<=n/\Pv (i + 1) H):=⟨k,_,by omega,rfl,hi,p⟩
end
section
variable {X:Cx}{pins:List (Addr×Obj)}{σ:St}{H:Hp}{s:Shared}{h':Heap}{ch:List Addr}{a:Addr}{o:HO}
theorem Inv.many {t':Nat}(I:Inv X pins σ H s)(hch:∀b∈ch,dI X pins H b)(k:∀b ob,b ∉ ch->s.heap.get? b=some ob->h'.get? b=some ob)(hp:s.heap.objs.size<=a)(new:bp X.prog X.w (upd H a o) h' a o) :
   Inv X pins σ (upd H a o) { s with heap:=h',toks:=t' }:=by
 have hn:H a=none:=I.hok.fresh hp
 have na:∀b ob,s.heap.get? b=some ob->b≠a:=fun b ob e=>aay (aah (Z7 e) hp)
 have Ba:∀b u,H b=some u->b ∉ ch:=fun b u e z=>by rw [(hch b z).1] at e; cases e
 refine I.step (g':=s.gens) (d':=s.drawn) (ch:=ch) (fun b hb=>⟨(hch b hb).2.2.2.1,(hch b hb).2.1,(hch b hb).2.2.2.2.1,(hch b hb).2.2.2.2.2⟩) (fun b ob _ _ hc e _=>k b ob hc e) (fun b ob _ _ hc e _=>⟨ob.slots,k b ob hc e⟩)
   (fun b ob _ e n=>by rw [aj (na b ob e)]; exact n) (fun b ob hc e=>⟨ob,k b ob hc e⟩) (fun b xs e=>by rw [aj (ah e hn)]; exact e) (fun b ob u e=>by rw [aj (ah e hn)]; exact e)
   (fun b ps e=>⟨#[],by rw [aj (ah e hn),e]; simp⟩) (fun m hm=>?_) (fun b u e=>?_) I.bare
 · obtain ⟨ob,es,ep,ho,r⟩:=hm
   exact ⟨ob,es,ep,k _ ob (fun z=>(hch _ z).2.1 rfl) ho,r⟩
 · by_cases hb:b=a
   · subst hb; rw [ae] at e; cases e; exact new
   · rw [aj hb] at e
     refine (I.hok b u e).oE (fun c v hc q=>k c v ?_ q) (fun c q=>by rw [aj (ah q hn)]; exact q) fun c xs q=>by rw [aj (ah q hn)]; exact q
     rcases hc with z | z
     · subst z; exact Ba c u e
     · exact Ba c _ z
theorem Inv.wC {t':Nat}(I:Inv X pins σ H s)(hch:∀b∈ch,dI X pins H b)(k:∀b ob,b ∉ ch->s.heap.get? b=some ob->h'.get? b=some ob) :
   Inv X pins σ H { s with heap:=h',toks:=t' }:=by
 have Ba:∀b u,H b=some u->b ∉ ch:=fun b u e z=>by rw [(hch b z).1] at e; cases e
 refine I.step (g':=s.gens) (d':=s.drawn) (ch:=ch) (fun b hb=>⟨(hch b hb).2.2.2.1,(hch b hb).2.1,(hch b hb).2.2.2.2.1,(hch b hb).2.2.2.2.2⟩) (fun b ob _ _ hc e _=>k b ob hc e) (fun b ob _ _ hc e _=>⟨ob.slots,k b ob hc e⟩)
   (fun b ob _ e n=>n) (fun b ob hc e=>⟨ob,k b ob hc e⟩) (fun b xs e=>e) (fun b ob u e=>e)
   (fun b ps e=>⟨#[],by rw [e]; simp⟩) (fun m hm=>?_) (fun b u e=>?_) I.bare
 · obtain ⟨ob,es,ep,ho,r⟩:=hm
   exact ⟨ob,es,ep,k _ ob (fun z=>(hch _ z).2.1 rfl) ho,r⟩
 · refine (I.hok b u e).oE (fun c v hc q=>k c v ?_ q) (fun c q=>q) fun c xs q=>q
   rcases hc with z | z
   · subst z; exact Ba c u e
   · exact Ba c _ z
end
def J2 (K:ZY)(a b:Addr):It:=
 ⟨fun i H=>∃xs ys x y,ao K H a xs/\ao K H b ys/\xs[i]? = some x/\ys[i]? = some y,
  fun i H v H'=>∃p x y,H p=none/\v=.ref p/\H'=upd H p (.tup [x,y])/\∀xs ys,ao K H a xs->ao K H b ys->xs[i]? = some x/\ys[i]? = some y,
  fun i H=>∃xs ys,ao K H a xs/\ao K H b ys/\(xs.length<=i\/ys.length<=i)⟩
theorem Cz {P:Program}{w:World}{K:ZY}{elts:List Expr}{x1:Nat}{tp:Pos}{a b z TI TO i1 i2:Addr}(D:abF z TI TO i1 i2 a b) :
   Turn P w K (.Tuple elts x1 tp) (J2 K a b) [z,TI,TO,i1,i2] z (fun i h=>IsZip h z TI TO .none/\IsPair h TI (.ref i1) (.ref i2)/\(∃x y,IsPair h TO x y)/\h.IsListIter i1 a i/\h.IsListIter i2 b i) where
 mem:=by simp
 obj:=fun i h st c hc=>by
   obtain ⟨hz,hTI,⟨x,y,hTO⟩,⟨o1,e1,c1,d1⟩,⟨o2,e2,c2,d2⟩⟩:=st
   simp only [aau,aai,or_false] at hc
   rcases hc with rfl | rfl | rfl | rfl | rfl
   · exact ⟨_,hz,fun v q=>nomatch q⟩
   · exact ⟨_,hTI,fun v q=>nomatch q⟩
   · exact ⟨_,hTO,fun v q=>nomatch q⟩
   · exact ⟨_,e1,fun v q=>by rw [d1] at q; cases q⟩
   · exact ⟨_,e2,fun v q=>by rw [d2] at q; cases q⟩
 keep:=fun i h h' st k=>by
   obtain ⟨hz,hTI,⟨x,y,hTO⟩,h1,h2⟩:=st
   exact ⟨k z (by simp) _ hz,k TI (by simp) _ hTI,⟨x,y,k TO (by simp) _ hTO⟩,h1.at fun o e=>k i1 (by simp) o e,h2.at fun o e=>k i2 (by simp) o e⟩
 item:=by
   intro X hP hw hK hc i pins s σ H E I hf st hg
   subst hP hw hK
   obtain ⟨xs,ys,x,y,oA,oB,hx,hy⟩:=hg
   obtain ⟨uJ,vg,p1,_⟩:=I.list oA
   obtain ⟨eV,vh,p2,_⟩:=I.list oB
   obtain ⟨u,hu,ru⟩:=vg.get hx
   obtain ⟨v,hv,rv⟩:=vh.get hy
   obtain ⟨hz,hTI,⟨x0,y0,hTO⟩,h1,h2⟩:=st
   refine wpAny_pyNext_zip_item D hz hTI hTO h1 h2 p1.isList p2.isList (x:=u) (y:=v) (by simpa using hu) (by simpa using hv) fun h' a1 a2 a3 a4 a5 a6 hk=>?_
   refine ⟨_,rfl,wpAny_letOwnedTupleGo_zip (s:={ s with heap:=h' }) a1 fun rB HQ pW=>?_⟩
   have hT:H s.heap.objs.size=none:=I.hok.fresh (Z3 _)
   have TX:z < s.heap.objs.size:=Z7 hz
   have kk:∀c o,c ∉ ([z,TO,i1,i2]:List Addr)->s.heap.get? c=some o->rB.get? c=some o:=fun c o dG e=>by
     simp only [aau,aai,or_false,not_or] at dG
     exact pW.extBut _ _ dG.1 (hk c o dG.1 dG.2.1 dG.2.2.1 dG.2.2.2 e)
   have O4:IsPair rB s.heap.objs.size u v:=pW.extBut _ _ (ab7 TX) a5
   have I1:Inv X pins σ (upd H s.heap.objs.size (.tup [x,y])) { s with heap:=rB,toks:=s.toks }:=I.many (ch:=[z,TO,i1,i2]) (fun c dG=>hf c (by simp only [aau,aai,or_false] at dG ⊢; rcases dG with r | r | r | r <;> simp [r])) kk (Z3 _)
     ⟨by show 2<=sizeLine; decide,[u,v],.cons ru (.cons rv .nil),_,O4,rfl,_,rfl⟩
   refine ⟨.ref s.heap.objs.size,_,I1,rfl,⟨_,x,y,hT,rfl,rfl,fun Y8 Nj q1 q2=>?_⟩,?_,fun c dG=>?_⟩
   · rw [I.gh q1 oA,I.gh q2 oB]; exact ⟨hx,hy⟩
   · exact ⟨HQ,pW.extBut _ _ D.TIz (hk _ _ D.TIz D.TITO D.TIi1 D.TIi2 hTI),⟨_,_,pW.extBut _ _ D.TOz a2⟩,a3.extBut pW.extBut D.i1z,a4.extBut pW.extBut D.i2z⟩
   · have lt:c < s.heap.objs.size:=by
       simp only [aau,aai,or_false] at dG
       rcases dG with rfl | rfl | rfl | rfl | rfl
       · exact TX
       · exact Z7 hTI
       · exact Z7 hTO
       · obtain ⟨_,e,_⟩:=h1; exact Z7 e
       · obtain ⟨_,e,_⟩:=h2; exact Z7 e
     rw [aj (aay lt)]
     exact (hf c dG).1
 done:=by
   intro X hP hw hK hc i pins s σ H E I hf st hg
   subst hP hw hK
   obtain ⟨xs,ys,oA,oB,hend⟩:=hg
   obtain ⟨uJ,vg,p1,_⟩:=I.list oA
   obtain ⟨eV,vh,p2,_⟩:=I.list oB
   have l1:=vg.length
   have l2:=vh.length
   obtain ⟨hz,hTI,⟨x0,y0,hTO⟩,h1,h2⟩:=st
   refine wpAny_pyNext_zip_end (I.ok.hd hc) D hz hTI hTO h1 h2 p1.isList p2.isList ?_ fun h' hk=>⟨rfl,?_⟩
   · rcases hend with q | q
     · exact .inl (by simp; omega)
     · exact .inr (by simp; omega)
   · exact I.wC (t':=s.toks) (ch:=[z,TO,i1,i2]) (fun c dG=>hf c (by simp only [aau,aai,or_false] at dG ⊢; rcases dG with r | r | r | r <;> simp [r])) fun c o dG e=>by
       simp only [aau,aai,or_false,not_or] at dG
       exact hk c o dG.1 dG.2.1 dG.2.2.1 dG.2.2.2 e
 self:=fun _ _ _ _ _ st h=>wpAny_pyIter_zip st.1 h
def HR (K:ZY)(ta:TA):TI:=fun σ H R=>ta σ H fun vs H1=>∃a b,vs=[.ref a,.ref b]/\(∃xs,ao K H1 a xs)/\(∃ys,ao K H1 b ys)/\R (J2 K a b) H1
section
variable {X:Cx}
theorem Jl {a b:Expr}{ta:TA}{p pos tp:Pos}{elts:List Expr}{x1:Nat}(hg:Gl X "zip")(hm:X.mg "zip"=none)(ha:PA X [a,b] ta)(hs:starEach [a,b] X.env=[(false,eval a X.env),(false,eval b X.env)]:=by rfl)(hs2:starEach [b] X.env=[(false,eval b X.env)]:=by rfl)
   (hb:aaS "zip"=some (.type "zip"):=by first | rfl | decide +kernel) :
   PI X (.Tuple elts x1 tp) (.Call (.Name "zip" p) [a,b] [] pos) (HR X.K ta):=by
 intro pins s σ H R I h
 refine Call_ (eN I hg hm hb (aaE (bt (ha pos pins s σ H _ I h) fun us s1 ⟨vs,H1,I1,r1,q1⟩=>?_) (by rw [hs,hs2]) (by rw [hs2]; rfl)))
 obtain ⟨l1,l2,e,⟨xs,oA⟩,⟨ys,oB⟩,q⟩:=q1
 subst e
 obtain ⟨u,v,rfl,ru,rv⟩:=Vals.two r1
 obtain rfl:u=aal l1:=ru
 obtain rfl:v=aal l2:=rv
 obtain ⟨uJ,vg,p1,_⟩:=I1.list oA
 obtain ⟨eV,vh,p2,_⟩:=I1.list oB
 have LX:l1 < s1.heap.objs.size:=by obtain ⟨_,_,e,_⟩:=p1; exact Z7 e
 have LY:l2 < s1.heap.objs.size:=by obtain ⟨_,_,e,_⟩:=p2; exact Z7 e
 refine call_zip_2 p1.isList p2.isList fun h' hz hTI hTO ux DJ hsz hk=>?_
 refine wpAny_pyIter_zip hz ?_
 have I2:Inv X pins σ H1 { s1 with heap:=h' }:=I1.kept (t':=s1.toks) hk
 have D:=zipApart_new LX LY
 refine ⟨_,_,_,_,H1,rfl,I2,Cz D,⟨hz,hTI,⟨_,_,hTO⟩,ux,DJ⟩,fun c hc=>?_,q⟩
 simp only [aau,aai,or_false] at hc
 have up:∀k,dI X pins H1 (s1.heap.objs.size + k):=fun k=>I1.pQ (abB _ _) (I1.hok.fresh (abB _ _))
 rcases hc with rfl | rfl | rfl | rfl | rfl
 · exact up 4
 · exact up 2
 · exact up 3
 · exact up 0
 · exact up 1
end
section
variable {K:ZY}{a b:Addr}{xs ys:List V}{g:TG}
theorem wg {tb:TS}{D:Ends}{σ:St}{H:Hp}(hlen:xs.length=ys.length)(Pv:Nat->St->Hp->Prop)(h0:Pv 0 σ H)(hl:∀i σ H,i<=xs.length->Pv i σ H->ao K H a xs/\ao K H b ys)
   (hs:∀i x y p σ H,xs[i]? = some x->ys[i]? = some y->Pv i σ H->H p=none->g (.ref p) σ (upd H p (.tup [x,y])) fun σ2 H2=>tb { D with nx:=Pv (i + 1),ct:=Pv (i + 1),bk:=D.nx } σ2 H2) (hd:∀σ H,Pv xs.length σ H->D.nx σ H) :
   ∃W:Nat->Nat->St->Hp->Prop,(∃m,W 0 m σ H)/\∀i m σ H,W i m σ H ->
     ((J2 K a b).stop i H/\D.nx σ H)\/((J2 K a b).go i H/\∃N:St->Hp->Prop,(∀σ' H',N σ' H'->∃m',m' < m/\W (i + 1) m' σ' H')/\∀x H',(J2 K a b).yld i H x H'->g x σ H' fun σ2 H2=>tb { D with nx:=N,ct:=N,bk:=D.nx } σ2 H2):=by
 refine ⟨fun i m σ H=>m=xs.length - i/\i<=xs.length/\Pv i σ H,⟨xs.length,by simp,aaI _,h0⟩,?_⟩
 rintro i m σ H ⟨rfl,hi,p⟩
 obtain ⟨q1,q2⟩:=hl i σ H hi p
 by_cases hlt:i < xs.length
 · refine .inr ⟨⟨xs,ys,xs[i],ys[i]'(hlen ▸ hlt),q1,q2,by simp [hlt],by simp [hlen ▸ hlt]⟩,Pv (i + 1),fun σ' H' p'=>⟨xs.length - (i + 1),by omega,rfl,hlt,p'⟩,fun x H' y=>?_⟩
   obtain ⟨pp,x1,y1,hn,rfl,rfl,k⟩:=y
   obtain ⟨k1,k2⟩:=k xs ys q1 q2
   exact hs i x1 y1 pp σ H k1 k2 p hn
 · have e:i=xs.length:=by omega
   subst e
   exact .inl ⟨⟨xs,ys,q1,q2,.inl (Z3 _)⟩,hd σ H p⟩
theorem qV {tifs:TT}{tm:TM}{σ0:St}{Z:Hp->Prop}{H:Hp}(hlen:xs.length=ys.length)(Pv:Nat->Hp->Prop)(h0:Pv 0 H)(hl:∀i H,i<=xs.length->Pv i H->ao K H a xs/\ao K H b ys)
   (turn:∀i x y p H,xs[i]? = some x->ys[i]? = some y->Pv i H->H p=none->g (.ref p) σ0 (upd H p (.tup [x,y])) fun σ2 H2=>tifs σ2 H2 fun b H3=>
     if b=true then tm σ2 H3 fun H4=>bC σ0 σ2/\∃m',m' < xs.length - i/\(m'=xs.length - (i + 1)/\i + 1<=xs.length/\Pv (i + 1) H4) else bC σ0 σ2/\∃m',m' < xs.length - i/\(m'=xs.length - (i + 1)/\i + 1<=xs.length/\Pv (i + 1) H3))
   (hZ:∀H,Pv xs.length H->Z H):nU (J2 K a b) σ0 g tifs tm Z H:=by
 refine lS xs.length Pv h0 (fun i H hi p=>⟨xs,ys,xs[i],ys[i]'(hlen ▸ hi),(hl i H (aa5 hi) p).1,(hl i H (aa5 hi) p).2,by simp [hi],by simp [hlen ▸ hi]⟩) (fun H p=>⟨xs,ys,(hl _ H (Z3 _) p).1,(hl _ H (Z3 _) p).2,.inl (Z3 _)⟩) (fun i H hi p x H' y=>?_) hZ
 obtain ⟨pp,x1,y1,hn,rfl,rfl,k⟩:=y
 obtain ⟨k1,k2⟩:=k xs ys (hl i H (aa5 hi) p).1 (hl i H (aa5 hi) p).2
 exact turn i x1 y1 pp H k1 k2 p hn
end
end L2
namespace PySem
theorem pY:adg (.type "list") "keys"=pure none:=by rw [adB,acK]; kernel_rfl
section
variable {prog:Program}{w:World}{A:Around}{E:Value->Shared->Prop}{s:Shared}
theorem jB {a:Addr}{xs:Array Value}{k:Nat}{u:Tok}{Q:Value->Shared->Prop}(hx:s.heap.get? a=some { cls:=.type "list",data:=.seq xs k })(hA:A.handled=none)
   (h:∀h' tk e,Heap.NewAttrErr s.heap h' e (.ref a) "keys"->E (.ref e) { s with heap:=h',toks:=tk }) :
   wpAny (model prog w) A (getAttrBy (.ref a) (.str "keys" u) false) Q E s:=by
 obtain ⟨hp,g,d,tk,os⟩:=s
 have hT:∀Om,(⟨hp,g,d,Om,os⟩ : Shared).TypeIs (.ref a) "list":=fun _=>⟨_,hx,rfl⟩
 have f1:=ach
 have f3:=F.slot_list_getattribute.lookup
 have f4:=F.slot_list_getattribute.bind (.ref a)
 have f5:=am_list_getattr_none
 unfold getAttrBy
 repeat (any_goals (first | assumption | exact hT _ | ((with_reducible show wpAny _ _ (call (acf "list.__getattribute__") _ _) _ _ _); refine call_meets F.slot_list_getattribute (hT _) am_entry_list_getattribute (F.args_list_getattribute_2 _ _) (meets_getattribute_miss_list a xs k #[] "keys" _ pY (by decide +kernel)) ⟨hx,hA,fun h' Om e CU=>?_⟩) | wp_step))
 obtain ⟨t',u',he⟩:=CU.there
 show wpAny _ _ (getattributeRaised _ _ _ _ _ _ _) _ _ _
 unfold getattributeRaised
 repeat (any_goals (first | assumption | wp_step))
 exact h _ _ _ CU
theorem lP {a:Addr}{xs:Array Value}{k:Nat}{Q:Option Value->Shared->Prop}(hx:s.heap.get? a=some { cls:=.type "list",data:=.seq xs k })(hA:A.handled=none)
   (h:∀h' tk,(∀b o,s.heap.get? b=some o->h'.get? b=some o)->Q none { s with heap:=h',toks:=tk }):wpAny (model prog w) A (adx (.ref a) "keys") Q E s:=by
 unfold adx getAttrBy?
 refine wpAny_bind (wpAny_mkText (wpAny_bind (wpAny_attempt (jB hx hA fun h' tk e ne=>?_))))
 obtain ⟨t',u',he⟩:=ne.there
 refine wpAny_bind (wpAny_isInstance (T:="AttributeError") (b:=true) ⟨_,he,rfl⟩ ach ?_)
 exact wpAny_pure (h h' _ ne.keeps)
theorem jC {t:Addr}{vs:Array Value}{Q:List Value->Shared->Prop}(ht:s.heap.IsTuple t vs)(h:Q vs.toList s):wpAny (model prog w) A (ac0 (.ref t)) Q E s:=by
 obtain ⟨o,ho,hc,n,hd⟩:=ht
 unfold ac0
 refine wpAny_bind (wpAny_typeOf (T:="tuple") ⟨o,ho,hc⟩ ?_)
 rw [if_pos (by decide)]
 refine wpAny_bind ?_
 obtain ⟨hp,g,d,tk,os⟩:=s
 unfold seqItems?
 repeat (any_goals (first | assumption | wp_step))
 all_goals (first | (rw [hd]; repeat (any_goals (first | assumption | wp_step))) | skip)
end
end PySem
namespace L2
open PySem PySem.Spec PyProof.Rows
section
variable {X:Cx}
theorem dD:entryFor table "dict.update.loop"=some Builtin.«dict.update.loop»:=entryFor_of_tree (by kernel_rfl)
def tK (H:Hp)(t:V)(kv:Key×V):Prop:=∃a,t=.ref a/\H a=some (.tup [kV kv.1,kv.2])
def putAll (d:List (Key×V))(kvs:List (Key×V)):List (Key×V):=kvs.foldl (fun d p=>putK d p.1 p.2) d
theorem lq {pins:List (Addr×Obj)}{σ:St}{A:Around}{D l it:Addr}{xs:List V}(hh:A.handled=none) :
   ∀(n i:Nat) (j:Int) (t:Tok) (kvs d:List (Key×V)) (H:Hp) (s:Shared) (R:Result->Shared->Prop),xs.length - i=n->i<=xs.length->Inv X pins σ H s->H D=some (.dK d)->d.length + n<=sizeLine->ao X.K H l xs->dI X pins H it->s.heap.IsListIter it l i ->
     Paired (tK H) (xs.drop i) kvs->(∀s',Inv X pins σ (upd H D (.dK (putAll d kvs))) s'->R (.ok (.ret .none)) s') ->
     codeAny (model X.prog X.w) A (.builtin "dict.update.loop" ⟨[.ref D,.ref it,.int j t,.none],[]⟩) R s
 | n,i,j,t,kvs,d,H,s,R,hn,hi,I,hD,hz,hq,hf,hit,hp,hR=>by
   obtain ⟨its,rv,p,_⟩:=I.list hq
   have hl:=rv.length
   obtain ⟨f0,f1,f2,f3,f4,f5⟩:=id hf
   refine adC dD ?_
   have hA:(A.under (.builtin "dict.update.loop" ⟨[.ref D,.ref it,.int j t,.none],[]⟩)).handled=none:=by rw [show (A.under (.builtin "dict.update.loop" ⟨[.ref D,.ref it,.int j t,.none],[]⟩)).handled=A.handled from rfl]; exact hh
   generalize A.under (.builtin "dict.update.loop" ⟨[.ref D,.ref it,.int j t,.none],[]⟩)=A' at hA ⊢
   unfold Builtin.«dict.update.loop»
   show wpAny _ _ (pyNext (.ref it) >>= _) _ _ _
   cases hx:xs[i]? with
   | none=>
     have Lo:xs.length<=i:=List.getElem?_eq_none_iff.mp hx
     refine wpAny_bind (wpAny_pyNext_list_end hA hit p.isList (by simp; omega) fun h' eb=>?_)
     have I1:Inv X pins σ H { s with heap:=h' }:=I.turned (t':=s.toks) (fun b o hb e=>eb b o hb e) f0 f1 f3 f4 f5
     have Pn:xs.drop i=[]:=adH Lo
     rw [Pn] at hp
     cases hp
     have e:upd H D (.dK (putAll d []))=H:=by
       funext b
       unfold upd
       split
       · rename_i hb; rw [hb,hD]; rfl
       · rfl
     rw [e] at hR
     show wpAny _ _ (abY D [] >>= _) _ _ _
     exact wpAny_bind (wpAny_pure (wpAny_pure (hR _ I1)))
   | some x=>
     have hlt:i < xs.length:=(List.getElem?_eq_some_iff.mp hx).1
     obtain ⟨u,hu,ru⟩:=rv.get hx
     have Pn:xs.drop i=x :: xs.drop (i + 1):=by
       have e:xs[i]=x:=(List.getElem?_eq_some_iff.mp hx).2
       rw [ab8 hlt,e]
     rw [Pn] at hp
     cases hp with
     | @cons _ kv _ r DK fG=>
       obtain ⟨ta,rfl,CT⟩:=DK
       obtain rfl:u=aal ta:=ru
       refine wpAny_bind (wpAny_pyNext_list_item hit p.isList (x:=.ref ta) (by simpa using hu) fun h' Pw sb=>?_)
       have I1:Inv X pins σ H { s with heap:=h' }:=I.turned (t':=s.toks) (fun b o hb e=>(sb.2 b hb).trans e) f0 f1 f3 f4 f5
       obtain ⟨eV,vh,p2,_⟩:=I1.tuple (aK.of CT)
       obtain ⟨w1,w2,rfl,r1,r2⟩:=Vals.two vh
       refine wpAny_bind (wpAny_holding ?_)
       refine wpAny_bind (wpAny_tryCatch (jC (show ({ s with heap:=h' }:Shared).heap.IsTuple ta #[w1,w2] from (show IsTup h' ta #[w1,w2] by simpa using p2)) ?_))
       show wpAny _ _ (holding [w1,w2] (dictSet D w1 w2)) _ _ _
       obtain ⟨z,ow,vs,rel,dd⟩:=v7 I1.hok hD
       have QC:vs.length<=sizeLine:=by rw [← rel.length]; exact z
       have Xa:(putK d kv.1 kv.2).length<=d.length + 1:=bL d kv.1 kv.2
       have Tj:n=xs.length - (i + 1) + 1:=by omega
       refine wpAny_holding (wpAny_dictSet_pairs (hsz:=QC) (jy r1) dd fun h2 oi hs2=>?_)
       have he:∃q,h2.get? D=some q:=let ⟨q,_,_,hq,_⟩:=oi; ⟨q,hq⟩
       have Le:D≠it:=fun z=>by rw [z,f0] at hD; cases hD
       have W8:ao X.K (upd H D (.dK (putK d kv.1 kv.2))) l xs:=by
         rcases hq with (q | ⟨o,q⟩) | q
         · exact .inl (.inl (by rw [aj (fH q hD (fun z=>nomatch z))]; exact q))
         · exact .inl (.inr ⟨o,by rw [aj (fH q hD (fun z=>nomatch z))]; exact q⟩)
         · exact .inr q
       refine wpAny_pure ⟨abG _ (by decide +kernel),?_⟩
       refine lq hh (xs.length - (i + 1)) (i + 1) _ _ r (putK d kv.1 kv.2) (upd H D (.dK (putK d kv.1 kv.2))) _ R rfl hlt (eA (t':=_) I1 (by rw [hD]; exact aat) hs2 he (pO (by omega) ow (rel.put kv.1 r2) oi)) ae (by omega) W8 ⟨by rw [aj Le.symm]; exact f0,hf.2⟩ (Pw.extBut hs2.extBut Le.symm) ?_ ?_
       · exact Paired.aZ fG fun a b ⟨c,e1,e2⟩=>⟨c,e1,by rw [aj (fH e2 hD (fun z=>nomatch z))]; exact e2⟩
       · intro s' I'
         rw [bS] at I'
         exact hR s' I'
termination_by n=>n
decreasing_by omega
def wL (K:ZY):List V->Hp->VK->Prop:=fun vs H Q=>∃l xs kvs,vs=[.ref l]/\H l=some (.lst xs)/\Paired (tK H) xs kvs/\∀D,H D=none->Q (.ref D) (upd H D (.dK (putAll [] kvs)))
theorem lC (hc:X.calm=true):dB X (.type "dict") (wL X.K):=by
 intro pins s σ H vs us Q I r h
 obtain ⟨l,xs,kvs,rfl,hl,hp,q⟩:=h
 obtain ⟨u,rfl,ru⟩:=vals1 r
 obtain rfl:u=aal l:=ru
 have hh:X.A.handled=none:=I.ok.hd hc
 have hD:H s.heap.objs.size=none:=I.hok.fresh (Z3 _)
 have I1:Inv X pins σ (upd H s.heap.objs.size (.dK [])) { s with heap:=s.heap.push { cls:=.type "dict",data:=.dict #[] } }:=I.laid (t':=s.toks) (fun _ _ e=>Z4 _ e) (Z3 _) (mC s.heap I.big)
 refine callType_codes (Q₁:=fun obj s₁=>obj=.ref s.heap.objs.size/\s₁={ s with heap:=s.heap.push { cls:=.type "dict",data:=.dict #[] } }) F.kt_called_dict (F.kt_typeCall_dict_1 _) F.entry_dict_init (kt_code_dict_new _ ⟨rfl,rfl⟩) ?_
 rintro obj s₁ ⟨rfl,rfl⟩
 have rK:(s.heap.push { cls:=.type "dict",data:=.dict #[] }).DictOf (aO X.prog X.w) s.heap.objs.size []:=acO s.heap
 generalize Qn:({ s with heap:=s.heap.push { cls:=.type "dict",data:=.dict #[] } }:Shared)=s1 at I1 ⊢
 have AI:s1.heap.DictOf (aO X.prog X.w) s.heap.objs.size []:=by rw [← Qn]; exact rK
 generalize s.heap.objs.size=D at hD I1 AI ⊢
 have hl1:(upd H D (.dK [])) l=some (.lst xs):=by rw [aj (ah hl hD)]; exact hl
 refine ⟨AI.typeIs,F.args_dict_init_2 _ _,?_⟩
 unfold Builtin.«dict.__init__»
 refine wpAny_bind ?_
 unfold abX
 refine wpAny_bind (wpAny_notOrdered_dict AI.typeIs ?_)
 show wpAny _ _ (pure (D,[aal l])) _ _ _
 refine wpAny_pure ?_
 show wpAny _ _ (aa2 "dict.__init__" D (.ref l) [] .none) _ _ _
 unfold aa2
 obtain ⟨z,its,n,rv,e⟩:=(show bp X.prog X.w _ s1.heap l (.lst xs) from I1.hok l _ hl1)
 refine wpAny_bind (wpAny_typeOf (T:="list") ⟨_,e,rfl⟩ ?_)
 rw [if_pos (by decide)]
 refine wpAny_bind (lP e hh fun h' tk hk=>?_)
 rw [if_pos (show (Option.isNone (none:Option Value))=true from rfl)]
 have I2:Inv X pins σ (upd H D (.dK [])) { s1 with heap:=h',toks:=tk }:=I1.kept hk
 refine wpAny_bind (wpAny_rule ?_)
 refine wpAny_bind (wpAny_pyIter_list ⟨_,hk _ _ e,rfl,n,rfl⟩ ?_)
 have I3:=I2.kept (h':=h'.push { cls:=.type "list_iterator",data:=.fields #[.ref l,.int 0 0] }) (t':=tk) fun b o e=>Z4 _ e
 refine wpAny_pure ⟨abG _ (by decide +kernel),?_⟩
 refine lq (l:=l) (it:=h'.objs.size) (xs:=xs) (d:=[]) (kvs:=kvs) (pins:=pins) (σ:=σ) (A:=X.A.in1) (show X.A.in1.handled=none from hh) xs.length 0 _ _ _ _ _ (by simp) (aaI _) I3 ae (by simpa using z) (ao.of hl1) (I2.pQ (Z3 _) (I2.hok.fresh (Z3 _))) ⟨_,aas _ rfl,rfl,rfl⟩ ?_ ?_
 · exact Paired.aZ hp fun a b ⟨c,e1,e2⟩=>⟨c,e1,by rw [aj (ah e2 hD)]; exact e2⟩
 · intro s' I'
   rw [bS] at I'
   exact ⟨rfl,.ref D,_,I',rfl,q D hD⟩
end
end L2
namespace L2
open PySem PySem.Spec PyProof.Rows SeqAt
inductive EB (K:ZY) (H:Hp):Nat->V->V->Bool->Prop where
 | flat {n:Nat} {x y:V}:ck x=true->ck y=true->EB K H n x y (kl x y)
 | same {n:Nat} {a:Addr}:EB K H n (.ref a) (.ref a) true
 | lst {n:Nat} {a b:Addr} {xs ys:List V} {e:Nat->Bool}:a≠b->ao K H a xs->ao K H b ys->xs.length=ys.length->(∀j x y,xs[j]? = some x->ys[j]? = some y->EB K H n x y (e j)) ->
     EB K H (n + 1) (.ref a) (.ref b) ((aaA xs.length).all e)
 | len {n:Nat} {a b:Addr} {xs ys:List V}:a≠b->ao K H a xs->ao K H b ys->xs.length≠ys.length->EB K H n (.ref a) (.ref b) false
 | tup {n:Nat} {a b:Addr} {xs ys:List V} {e:Nat->Bool}:a≠b->aK K H a xs->aK K H b ys->(∀j x y,xs[j]? = some x->ys[j]? = some y->EB K H n x y (e j)) ->
     EB K H (n + 1) (.ref a) (.ref b) ((aaA (min xs.length ys.length)).all e && xs.length == ys.length)
section
variable {X:Cx}{pins:List (Addr×Obj)}{σ:St}{H:Hp}{s:Shared}
theorem eU {K:ZY}{n:Nat}{A:Around}{xs ys:List V}{us vs:List Value}{e:Nat->Bool}(rv:Vals xs us)(rw':Vals ys vs)
   (h:∀j x y,xs[j]? = some x->ys[j]? = some y->∀(A:Around) (u v:Value),RelV x u->RelV y v->A.units + n < cLine->EqAt A s u v (e j)) (hu:A.units + (n + 1) < cLine) :
   ∀j (h1:j < us.toArray.size) (h2:j < vs.toArray.size),EqAt A.in1 s us.toArray[j] vs.toArray[j] (e j):=fun j h1 h2=>by
 have l1:=rv.length
 have l2:=rw'.length
 have Wl:j < us.length:=by simpa using h1
 have rB:j < vs.length:=by simpa using h2
 have hx:xs[j]? = some (xs[j]'(by omega)):=ZZ _
 have hy:ys[j]? = some (ys[j]'(by omega)):=ZZ _
 obtain ⟨u,Qu,ru⟩:=rv.get hx
 obtain ⟨v,hv1,vg⟩:=rw'.get hy
 have eu:us[j]=u:=by have:=ZZ Wl; rw [Qu] at this; exact (aap this).symm
 have ev:vs[j]=v:=by have:=ZZ rB; rw [hv1] at this; exact (aap this).symm
 have q:=h j _ _ hx hy A.in1 u v ru vg (by show A.units + 1 + n < cLine; omega)
 simpa [eu,ev] using q
theorem EB.at (I:Inv X pins σ H s){n:Nat}{x y:V}{b:Bool}(q:EB X.K H n x y b):∀(A:Around) (u v:Value),RelV x u->RelV y v->A.units + n < cLine->EqAt A s u v b:=by
 induction q with
 | flat h1 h2=>exact fun A u v ru rv _=>tX ru rv h1 h2
 | same=>intro A u v ru rv _; cases ru; cases rv; exact EqAt.same _
 | @lst n a b xs ys e hne ha hb hl _ ih=>
   intro A u v ru rv hu
   cases ru; cases rv
   obtain ⟨us,r1,p1,_⟩:=I.list ha
   obtain ⟨vs,r2,p2,_⟩:=I.list hb
   have l1:=r1.length
   have l2:=r2.length
   have q:=RcAt.lists (A:=A) p1.isList p2.isList (by simp; omega) (by omega) (eU (K:=X.K) r1 r2 ih hu)
   rw [show us.toArray.size=xs.length by simp [l1]] at q
   exact EqAt.of_refs hne q
 | @len n a b xs ys hne ha hb hl=>
   intro A u v ru rv hu
   cases ru; cases rv
   obtain ⟨us,r1,p1,_⟩:=I.list ha
   obtain ⟨vs,r2,p2,_⟩:=I.list hb
   have l1:=r1.length
   have l2:=r2.length
   exact EqAt.of_refs hne (RcAt.lists_lengths p1.isList p2.isList (by simp; omega) (by omega))
 | @tup n a b xs ys e hne ha hb _ ih=>
   intro A u v ru rv hu
   cases ru; cases rv
   obtain ⟨us,r1,p1,_⟩:=I.tuple ha
   obtain ⟨vs,r2,p2,_⟩:=I.tuple hb
   have l1:=r1.length
   have l2:=r2.length
   have q:=RcAt.tuples (A:=A) (show s.heap.IsTuple a us.toArray from p1) (show s.heap.IsTuple b vs.toArray from p2) (by omega) (eU (K:=X.K) r1 r2 ih hu)
   rw [show us.toArray.size=xs.length by simp [l1],show vs.toArray.size=ys.length by simp [l2]] at q
   exact EqAt.of_refs hne q
end
def RB (K:ZY)(H:Hp)(n:Nat)(x y:V)(b:Bool):Prop:=∃a c xs ys,x=.ref a/\y=.ref c /\
 ((∃e:Nat->Bool,ao K H a xs/\ao K H c ys/\xs.length=ys.length/\(∀j x y,xs[j]? = some x->ys[j]? = some y->EB K H n x y (e j))/\b=(aaA xs.length).all e) \/
  (ao K H a xs/\ao K H c ys/\xs.length≠ys.length/\b=false) \/
  (∃e:Nat->Bool,aK K H a xs/\aK K H c ys/\(∀j x y,xs[j]? = some x->ys[j]? = some y->EB K H n x y (e j))/\b=((aaA (min xs.length ys.length)).all e && xs.length == ys.length)))
section
variable {X:Cx}
theorem IF {m:Nat}(hu:X.A.units + (m + 1) < cLine):hG X (compareOp .Eq) (fun x y H Q=>∃b,RB X.K H m x y b/\Q (.bl b) H):=by
 intro pins s σ H x y v u Q I rx ry h
 obtain ⟨b,⟨a,c,xs,ys,rfl,rfl,q⟩,k⟩:=h
 cases rx; cases ry
 rcases q with ⟨e,ha,hb,hl,he,rfl⟩ | ⟨ha,hb,hl,rfl⟩ | ⟨e,ha,hb,he,rfl⟩
 · obtain ⟨us,r1,p1,_⟩:=I.list ha
   obtain ⟨vs,r2,p2,_⟩:=I.list hb
   have l1:=r1.length
   have l2:=r2.length
   refine eq_listAt p1.isList p2.isList (by simp; omega) (by omega) (eU (K:=X.K) r1 r2 (fun j x y h1 h2=>(he j x y h1 h2).at I) hu) ?_
   rw [show us.toArray.size=xs.length by simp [l1]]
   exact ⟨.bl _,H,I,rfl,k⟩
 · obtain ⟨us,r1,p1,_⟩:=I.list ha
   obtain ⟨vs,r2,p2,_⟩:=I.list hb
   have l1:=r1.length
   have l2:=r2.length
   exact eq_list_lengthsAt p1.isList p2.isList (by simp; omega) (by omega) ⟨.bl _,H,I,rfl,k⟩
 · obtain ⟨us,r1,p1,_⟩:=I.tuple ha
   obtain ⟨vs,r2,p2,_⟩:=I.tuple hb
   have l1:=r1.length
   have l2:=r2.length
   refine eq_tupleAt (show s.heap.IsTuple a us.toArray from p1) (show s.heap.IsTuple c vs.toArray from p2) (by omega) (eU (K:=X.K) r1 r2 (fun j x y h1 h2=>(he j x y h1 h2).at I) hu) ?_
   rw [show us.toArray.size=xs.length by simp [l1],show vs.toArray.size=ys.length by simp [l2]]
   exact ⟨.bl _,H,I,rfl,k⟩
theorem IK {m:Nat}(hu:X.A.units + (m + 1) < cLine):hG X (compareOp .NotEq) (fun x y H Q=>∃b,RB X.K H m x y b/\Q (.bl (!b)) H):=by
 intro pins s σ H x y v u Q I rx ry h
 obtain ⟨b,⟨a,c,xs,ys,rfl,rfl,q⟩,k⟩:=h
 cases rx; cases ry
 rcases q with ⟨e,ha,hb,hl,he,rfl⟩ | ⟨ha,hb,hl,rfl⟩ | ⟨e,ha,hb,he,rfl⟩
 · obtain ⟨us,r1,p1,_⟩:=I.list ha
   obtain ⟨vs,r2,p2,_⟩:=I.list hb
   have l1:=r1.length
   have l2:=r2.length
   refine RcNeAt.lists p1.isList p2.isList (by simp; omega) (by omega) (eU (K:=X.K) r1 r2 (fun j x y h1 h2=>(he j x y h1 h2).at I) hu) X.prog X.w X.xe _ ?_
   rw [show us.toArray.size=xs.length by simp [l1]]
   exact ⟨.bl _,H,I,rfl,k⟩
 · obtain ⟨us,r1,p1,_⟩:=I.list ha
   obtain ⟨vs,r2,p2,_⟩:=I.list hb
   have l1:=r1.length
   have l2:=r2.length
   exact RcNeAt.lists_lengths p1.isList p2.isList (by simp; omega) (by omega) X.prog X.w X.xe _ ⟨.bl _,H,I,rfl,k⟩
 · obtain ⟨us,r1,p1,_⟩:=I.tuple ha
   obtain ⟨vs,r2,p2,_⟩:=I.tuple hb
   have l1:=r1.length
   have l2:=r2.length
   refine RcNeAt.tuples (show s.heap.IsTuple a us.toArray from p1) (show s.heap.IsTuple c vs.toArray from p2) (by omega) (eU (K:=X.K) r1 r2 (fun j x y h1 h2=>(he j x y h1 h2).at I) hu) X.prog X.w X.xe _ ?_
   rw [show us.toArray.size=xs.length by simp [l1],show vs.toArray.size=ys.length by simp [l2]]
   exact ⟨.bl _,H,I,rfl,k⟩
end
def ET (K:ZY)(H:Hp)(n:Nat)(x y:V):Prop:=EB K H n x y true
theorem all_true {n:Nat}:(aaA n).all (fun _=>true)=true:=by rw [abT]; intro _ _; rfl
theorem ET.lst {K:ZY}{H:Hp}{n:Nat}{a b:Addr}{xs ys:List V}(ha:ao K H a xs)(hb:ao K H b ys)(hl:xs.length=ys.length)(h:∀(j:Nat) (x y:V),xs[j]? = some x->ys[j]? = some y->ET K H n x y):ET K H (n + 1) (.ref a) (.ref b):=by
 by_cases e:a=b
 · subst e; exact .same
 · have q:=EB.lst (e:=fun _=>true) e ha hb hl h
   rw [all_true] at q
   exact q
theorem ET.tup {K:ZY}{H:Hp}{n:Nat}{a b:Addr}{xs ys:List V}(ha:aK K H a xs)(hb:aK K H b ys)(hl:xs.length=ys.length)(h:∀(j:Nat) (x y:V),xs[j]? = some x->ys[j]? = some y->ET K H n x y):ET K H (n + 1) (.ref a) (.ref b):=by
 by_cases e:a=b
 · subst e; exact .same
 · have q:=EB.tup (e:=fun _=>true) e ha hb h
   rw [all_true,hl,beq_self_eq_true] at q
   exact q
theorem zX {x:V}(h:ck x=true):kl x x=true:=by cases x <;> simp_all [ck,kl]
theorem ET.refl {K:ZY}{H:Hp}{n:Nat}{x:V}(h:ck x=true\/∃a,x=.ref a):ET K H n x x:=by
 rcases h with h | ⟨a,rfl⟩
 · have q:=EB.flat (K:=K) (H:=H) (n:=n) h h
   rw [zX h] at q
   exact q
 · exact .same
theorem RB.lst {K:ZY}{H:Hp}{n:Nat}{a b:Addr}{xs ys:List V}(ha:ao K H a xs)(hb:ao K H b ys)(hl:xs.length=ys.length)(h:∀(j:Nat) (x y:V),xs[j]? = some x->ys[j]? = some y->ET K H n x y):RB K H n (.ref a) (.ref b) true:=
 ⟨a,b,xs,ys,rfl,rfl,.inl ⟨fun _=>true,ha,hb,hl,h,all_true.symm⟩⟩
theorem RB.nil {K:ZY}{H:Hp}{n:Nat}{a b:Addr}{xs:List V}(ha:ao K H a xs)(hb:ao K H b []):RB K H n (.ref a) (.ref b) xs.isEmpty:=by
 cases xs with
 | nil=>exact RB.lst ha hb rfl (fun j x y h=>by simp at h)
 | cons x r=>exact ⟨a,b,_,[],rfl,rfl,.inr (.inl ⟨ha,hb,by simp,rfl⟩)⟩
section
variable {X:Cx}{pos:Pos}
def Fl (i j:Int):Prop:=0 < j/\j < 2 ^ 1000
theorem By:hG X (binaryOp .FloorDiv) (rI Fl fun i j=>.int (i / j)):=L9 fun i j _ _ _ _ _ hc q=>by
 have h1:(0:Int) < j:=hc.1
 have h2:j < 2 ^ 1000:=hc.2
 have h3:j.natAbs < 2 ^ 1000:=by omega
 exact floordiv_int (by omega) (by rw [Int.fdiv_eq_ediv_of_nonneg i (by omega)]; exact q) (.inl (PyProof.noPylong_of_log2 (aah ((Nat.log2_lt (by omega)).mpr h3) (by decide))))
def Fm (i j:Int):Prop:=i.natAbs < 2 ^ 1000/\j.natAbs < 2 ^ 1000
theorem Fs {i:Int}(h:i.natAbs < 2 ^ 1000):aaW i<=1000:=by
 unfold aaW
 split
 · exact aaI _
 · rename_i hi
   have h0:i.natAbs≠0:=by intro z; have:i=0:=(by omega); subst this; simp at hi
   have:=(Nat.log2_lt h0).mpr h
   omega
theorem Eu:hG X (binaryOp .Mult) (rI Fm fun i j=>.int (i * j)):=L9 fun i j _ _ _ _ _ hc q=>by
 have b1:=Fs hc.1
 have b2:=Fs hc.2
 refine mul_int q ?_
 unfold IntMulOk
 have hb:ada ((aaW i:Int) + (aaW j:Int))=false:=by
   unfold ada
   refine decide_eq_false ?_
   have:(2000:Int)<=(bitsLine:Int):=by rw [PySem.bitsLine_eq]; decide
   omega
 have e:((aaW i + aaW j:Nat):Int)=(aaW i:Int) + (aaW j:Int):=by omega
 simp [hb]
theorem zO:dB X (.builtin "isinstance") (fun xs H Q=>∃x n t b,xs=[x,.ty n]/\iB X.K H x t/\aav X.K t (.type n)=some b/\Q (.bl b) H):=by
 intro pins s σ H xs us Q I r h
 obtain ⟨x,n,t,b,rfl,ty,e,q⟩:=h
 obtain ⟨u,v,rfl,ru,rv⟩:=Vals.two r
 obtain rfl:v=adn n:=rv
 exact yr I ru ty e fun tk=>⟨.bl b,H,I.tok tk,rfl,q⟩
end
end L2
namespace TW
open PySem L2
inductive K2 where
 | plus | less | same | under | both
def K2.str:K2->Str
 | .plus=>"plus" | .less=>"less" | .same=>"same" | .under=>"under" | .both=>"both"
inductive E where
 | num (n:Int) | box (tag x:Str) | yes | nt (a:E) | two (k:K2) (a b:E)
def Tp (H:Hp)(v:V)(xs:List V):Prop:=∃p,v=.ref p/\H p=some (.tup xs)
def cE (H:Hp):V->E->Prop
 | v,.num n=>Tp H v [.str "number",.int n]
 | v,.box t x=>Tp H v [.str t,.str x]
 | v,.yes=>Tp H v [.str "yes"]
 | v,.nt a=>∃x,Tp H v [.str "not",x]/\cE H x a
 | v,.two k a b=>∃x y,Tp H v [.str k.str,x,y]/\cE H x a/\cE H y b
def TK (H H':Hp):Prop:=∀b xs,H b=some (.tup xs)->H' b=some (.tup xs)
theorem TK.trans {A B C:Hp}(a:TK A B)(b:TK B C):TK A C:=fun c o h=>b c o (a c o h)
theorem Tp.keep {H H':Hp}{v:V}{xs:List V}(k:TK H H')(h:Tp H v xs):Tp H' v xs:=let ⟨p,e,q⟩:=h; ⟨p,e,k p xs q⟩
theorem cE.keep {H H':Hp}(k:TK H H'):∀{e:E} {v:V},cE H v e->cE H' v e
 | .num _,_,h=>Tp.keep k h
 | .box _ _,_,h=>Tp.keep k h
 | .yes,_,h=>Tp.keep k h
 | .nt _,_,⟨x,h,a⟩=>⟨x,h.keep k,cE.keep k a⟩
 | .two _ _ _,_,⟨x,y,h,a,b⟩=>⟨x,y,h.keep k,cE.keep k a,cE.keep k b⟩
def E.dep:E->Nat
 | .num _=>0 | .box _ _=>0 | .yes=>0 | .nt a=>a.dep + 1 | .two _ a b=>max a.dep b.dep + 1
def E.fQ:E->Prop
 | .num _=>True
 | .box _ _=>True
 | .two .plus a b=>a.fQ/\b.fQ
 | .two .less a b=>a.fQ/\b.fQ
 | _=>False
def E.gP:E->Prop
 | .yes=>True
 | .nt a=>a.gP
 | .two .same a b=>a.fQ/\b.fQ
 | .two .under a b=>a.fQ/\b.fQ
 | .two .both a b=>a.gP/\b.gP
 | _=>False
def E.okIn (P:Str->Str->Prop):E->Prop
 | .num n=>n.natAbs < 2 ^ 100 | .box t x=>P t x | .yes=>True | .nt a=>a.okIn P | .two _ a b=>a.okIn P/\b.okIn P
theorem E.okIn.imp {P Q:Str->Str->Prop}(f:∀t x,P t x->Q t x):∀{e:E},e.okIn P->e.okIn Q
 | .num _,h=>h | .box t x,h=>f t x h | .yes,_=>aat | .nt a,h=>E.okIn.imp f (e:=a) h | .two _ a b,h=>⟨E.okIn.imp f (e:=a) h.1,E.okIn.imp f (e:=b) h.2⟩
def E.worth (w:Str->Str->Int):E->Int
 | .num n=>n
 | .box t x=>w t x
 | .two .plus a b=>a.worth w + b.worth w
 | .two .less a b=>a.worth w - b.worth w
 | _=>0
def E.holds (w:Str->Str->Int):E->Bool
 | .yes=>true
 | .nt a=>!(a.holds w)
 | .two .same a b=>decide (a.worth w=b.worth w)
 | .two .under a b=>decide (a.worth w < b.worth w)
 | .two .both a b=>a.holds w && b.holds w
 | _=>false
inductive Nd where
 | put (x:Str) (s:E) (n:Int) | say (s:E) (n:Int) | test (c:E) (n o:Int) | fin
def cw (H:Hp):V->Nd->Prop
 | v,.put x s n=>∃u,Tp H v [.str "put",.str x,u,.int n]/\cE H u s
 | v,.say s n=>∃u,Tp H v [.str "say",u,.int n]/\cE H u s
 | v,.test c n o=>∃u,Tp H v [.str "test",u,.int n,.int o]/\cE H u c
 | v,.fin=>Tp H v [.str "end"]
theorem cw.keep {H H':Hp}(k:TK H H'):∀{e:Nd} {v:V},cw H v e->cw H' v e
 | .put _ _ _,_,⟨u,h,a⟩=>⟨u,h.keep k,a.keep k⟩
 | .say _ _,_,⟨u,h,a⟩=>⟨u,h.keep k,a.keep k⟩
 | .test _ _ _,_,⟨u,h,a⟩=>⟨u,h.keep k,a.keep k⟩
 | .fin,_,h=>Tp.keep k h
theorem cw.ref {H:Hp}:∀{e:Nd} {v:V},cw H v e->∃a,v=.ref a
 | .put _ _ _,_,⟨_,⟨p,h,_⟩,_⟩=>⟨p,h⟩
 | .say _ _,_,⟨_,⟨p,h,_⟩,_⟩=>⟨p,h⟩
 | .test _ _ _,_,⟨_,⟨p,h,_⟩,_⟩=>⟨p,h⟩
 | .fin,_,⟨p,h,_⟩=>⟨p,h⟩
def Nd.good (P:Str->Prop)(many:Int)(d:Nat):Nd->Prop
 | .put x s n=>P x/\s.fQ/\s.okIn (fun t y=>t="box"/\P y)/\s.dep<=d/\0<=n/\n < many
 | .say s n=>s.fQ/\s.okIn (fun t y=>t="box"/\P y)/\s.dep<=d/\0<=n/\n < many
 | .test c n o=>c.gP/\c.okIn (fun t y=>t="box"/\P y)/\c.dep<=d/\0<=n/\n < many/\0<=o/\o < many
 | .fin=>True
theorem af {H:Hp}{p:Addr}(h:H p=none)(o:HO):ag H (upd H p o):=fun b u q=>by rw [aj (ah q h)]; exact q
theorem ag.tk {H H':Hp}(s:ag H H'):TK H H':=fun b xs h=>s b _ h
theorem aI {H:Hp}{p:Addr}(h:H p=none)(o:HO):TK H (upd H p o):=ag.tk (af h o)
theorem small {n:Nat}(h:n<=1000):n<=sizeLine:=aa5 (aB h)
def bG (H:Hp)(v:V)(b:Str×Int):Prop:=Tp H v [.str b.1,.int b.2]
structure bD (H:Hp)(v:V)(bs:List (Str×Int))(ins:List Str)(nds:List Nd):Prop where
 at_:∃p B I N vb vn,v=.ref p/\H p=some (.tup [.ref B,.ref I,.ref N])/\H B=some (.lst vb)/\H I=some (.lst (ins.map V.str))/\H N=some (.lst vn)/\Paired (bG H) vb bs/\Paired (cw H) vn nds
end TW
set_option exponentiation.threshold 4000
namespace TW
open PySem L2
def Src (K:ZY)(mg:Str->Option Value)(x:Str)(st:Stmt):Prop:=∃f fd,dm K x x st f fd/\mg x=some (.ref f)
def aX (P:Program)(w:World)(K:ZY)(mg:Str->Option Value)(base:Heap)(x:Str)(ps:List Str)(k:Nat)(sp:Sp):Prop:=
 ∃f fd,aP P w K mg base cK k f fd ps sp/\aaZ K (.ref f)=true/\Binds K fd ps []/\mg x=some (.ref f)
theorem aX.mono {P:Program}{w:World}{K:ZY}{mg:Str->Option Value}{base:Heap}{x:Str}{ps:List Str}{j k:Nat}{sp:Sp}(h:aX P w K mg base x ps j sp)(hk:j<=k):aX P w K mg base x ps k sp:=
 let ⟨f,fd,a,b,c,d⟩:=h; ⟨f,fd,a.mono hk,b,c,d⟩
theorem bP {A:Around}{k:Nat}(hr:dn k A)(m:Nat)(hm:m<=64):A.units + m < cLine:=by have:=hr.units; omega
end TW
namespace L2
open PySem PySem.Spec PyProof.Rows
structure bF (e:Expr):Prop where
 h:∀(es:List Expr) (env:Env),starEach (e :: es) env=(false,eval e env) :: starEach es env
theorem fI {e:Expr}(h:∀x p,e≠.Starred x p):bF e:=⟨fun es env=>by
 cases e <;> first | rfl | exact absurd rfl (h _ _)⟩
theorem jG {c k p}:bF (.Constant c k p):=fI fun _ _ z=>nomatch z
theorem fz {x p}:bF (.Name x p):=fI fun _ _ z=>nomatch z
theorem fw {f a k p}:bF (.Call f a k p):=fI fun _ _ z=>nomatch z
theorem uV {a o b p}:bF (.BinOp a o b p):=fI fun _ _ z=>nomatch z
theorem iY {a b p}:bF (.Subscript a b p):=fI fun _ _ z=>nomatch z
theorem Bf {a b p}:bF (.Tuple a b p):=fI fun _ _ z=>nomatch z
theorem Be {a p}:bF (.List a p):=fI fun _ _ z=>nomatch z
theorem Bd {a b c p}:bF (.Compare a b c p):=fI fun _ _ z=>nomatch z
theorem F0 {a b c p}:bF (.ListComp a b c p):=fI fun _ _ z=>nomatch z
theorem F5 {a b p}:bF (.UnaryOp a b p):=fI fun _ _ z=>nomatch z
def jc (es:List Expr):Prop:=∀(pos:Pos) (env:Env),(backTo pos (starEach es env)).any (·.1)=false
theorem Eb:jc []:=fun _ _=>rfl
theorem Bg {e:Expr}{es:List Expr}(h:bF e)(hs:jc es):jc (e :: es):=fun pos env=>by
 rw [h.h es env]
 exact hs pos env
structure tJ (X:Cx)(es:List Expr)(t:TA):Prop where
 pa:PA X es t
 ns:∀e r,es=e :: r->bF e/\jc r
 nss:jc es
section
variable {X:Cx}{e:Expr}{es:List Expr}{te:TE}{t:TA}{pos:Pos}
theorem an:tJ X [] JO:=⟨IT,(fun _ _ z=>nomatch z),Eb⟩
theorem ac (ha:PE X e te)(hr:tJ X es t)
   (hs:bF e:=by first | exact jG | exact fz | exact fw | exact uV | exact iY | exact Bf | exact Be | exact Bd | exact F0 | exact L6 | exact F5 | exact Ea | exact D9):tJ X (e :: es) (Cp te t):=
 ⟨Ey ha hr.pa (hs.h es X.env),fun e' r z=>by injection z with z1 z2; subst z1 z2; exact ⟨hs,hr.nss⟩,Bg hs hr.nss⟩
theorem RJ {x1}(h:tJ X es t):PE X (.Tuple es x1 pos) (JP t):=Jd h.pa
theorem RH (h:tJ X es t):PE X (.List es pos) (JN t):=IZ h.pa
theorem JX {x:Str}{p:Pos}{id:String}{r:List V->Hp->VK->Prop}(hc:dB X (.builtin id) r)(hg:Gl X x)(hm:X.mg x=none)(hv:aaS x=some (.builtin id))(ha:tJ X (e :: es) t)(hn:x≠"__name__":=by decide)(hdb:(x == ("__debug__":Str))=false:=by decide) :
   PE X (.Call (.Name x p) (e :: es) [] pos) (Ks r t):=BA hc hg hm hv ha.pa hn hdb ((ha.ns e es rfl).1.h es X.env) ((ha.ns e es rfl).2 pos X.env)
theorem JY {x:Str}{p:Pos}{T:String}{r:List V->Hp->VK->Prop}(hc:dB X (.type T) r)(hg:Gl X x)(hm:X.mg x=none)(hv:aaS x=some (.type T))(ha:tJ X (e :: es) t)(hn:x≠"__name__":=by decide)(hdb:(x == ("__debug__":Str))=false:=by decide) :
   PE X (.Call (.Name x p) (e :: es) [] pos) (Ks r t):=yW hc hg hm hv ha.pa hn hdb ((ha.ns e es rfl).1.h es X.env) ((ha.ns e es rfl).2 pos X.env)
theorem RI {x:Str}{p:Pos}{ps:List Str}{k:Nat}{sp:Sp}(D:TW.aX X.prog X.w X.K X.mg X.base x ps k sp)(hr:dn k X.A)(hg:Gl X x)(ha:tJ X (e :: es) t)(hdb:(x == ("__debug__":Str))=false:=by decide) :
   PE X (.Call (.Name x p) (e :: es) [] pos) (nS sp [] E0 t):=
 let ⟨_,_,G,kp,b,m⟩:=D
 qc G hr hg m kp b .nil F9 ha.pa hdb ((ha.ns e es rfl).1.h es X.env) ((ha.ns e es rfl).2 pos X.env)
theorem Fg {tg a:Expr}{ta:TA}{p:Pos}(hg:Gl X "range")(hm:X.mg "range"=none)(ha:tJ X [a] ta):PI X tg (.Call (.Name "range" p) [a] [] pos) (AU ta):=
 yX hg hm ha.pa ((ha.ns a [] rfl).1.h [] X.env)
theorem RK {a b:Expr}{ta:TA}{p tp:Pos}{elts:List Expr}{x1:Nat}(hg:Gl X "zip")(hm:X.mg "zip"=none)(ha:tJ X [a,b] ta)(hb:bF b:=by first | exact fz | exact iY | exact fw):PI X (.Tuple elts x1 tp) (.Call (.Name "zip" p) [a,b] [] pos) (HR X.K ta):=
 Jl hg hm ha.pa (by rw [(ha.ns a [b] rfl).1.h [b] X.env,hb.h [] X.env]; rfl) (by rw [hb.h [] X.env]; rfl)
theorem RG {o:Expr}{name:Str}{apos:Pos}{T id:String}{r:V->List V->Hp->VK->Prop}{to:TE}(pa:PlainAttrs T)(slot:Slot T name id)(hty:typeOf (.builtin id)=pure (.type "method_descriptor"))(hm:Nt X id r)(ho:PE X o to)(ha:tJ X [e] t)
   (hbase:abf o name X.env (eval o X.env)=eval o X.env:=by rfl) (hline:(apos.endLine == pos.line)=true:=by rfl):PE X (.Call (.Attribute o name apos) [e] [] pos) (Gr X.K T r to t):=
 Ga pa slot hty hm ho ha.pa hbase (by rw [(ha.ns e [] rfl).1.h [] X.env]; rfl) hline ((ha.ns e [] rfl).1.h [] X.env) ((ha.ns e [] rfl).2 pos X.env)
end
end L2
namespace L3
open PySem PySem.Spec PyProof.Rows L2
structure SE (X:Cx)(e:Expr)(t:TE):Prop where
 h:PE X e t
structure ST (X:Cx)(e:Expr)(t:TT):Prop where
 h:PT X e t
structure SW (X:Cx)(e:Expr)(t:TT):Prop where
 h:PW X e t
structure SA (X:Cx)(es:List Expr)(t:TA):Prop where
 h:tJ X es t
structure SS (X:Cx)(s:Stmt)(t:TS):Prop where
 h:PS X s t
structure SL (X:Cx)(ss:List Stmt)(t:TS):Prop where
 h:nY X ss t
structure SG (X:Cx)(e:Expr)(t:TG):Prop where
 h:PG X e t
structure Nv (X:Cx)(es:List Expr)(t:CK):Prop where
 h:KA X es t
structure SI (X:Cx)(tg iter:Expr)(t:TI):Prop where
 h:PI X tg iter t
structure KG (X:Cx)(cs:List Expr)(t:TT):Prop where
 h:og X cs t
structure SO (X:Cx)(f:Value->Value->Sem Value)(r:R2):Prop where
 h:hG X f r
structure SX (X:Cx)(r:R2):Prop where
 h:Nq X r
structure SC (X:Cx)(f:Value)(r:List V->Hp->VK->Prop):Prop where
 h:dB X f r
structure SM (X:Cx)(id:String)(r:V->List V->Hp->VK->Prop):Prop where
 h:Nt X id r
section
variable {X:Cx}{a b c e o:Expr}{es:List Expr}{ta tb tc te:TE}{t:TA}{tA uB:TT}{pos:Pos}{r:R2}
theorem v (i:Nat){x:Str}(hN:X.N[i]? = some x:=by rfl)(hv:Nw X.env.scope x:=by first | exact Or.inl rfl | exact Or.inr (Or.inl rfl) | exact Or.inr (Or.inr rfl))(hd:(x == ("__debug__":Str))=false:=by decide)
   (hcd:(x == ("__classdict__":Str))=false:=by decide):SE X (.Name x pos) (Cv i):=⟨Je hN hv hd hcd⟩
theorem int {i j}:SE X (.Constant (.int i) j pos) (tC (.int i)):=⟨IY⟩
theorem bl {k j}:SE X (.Constant (.bool k) j pos) (tC (.bl k)):=⟨Ml⟩
theorem bN {j}:SE X (.Constant .none j pos) (tC .bN):=⟨I9⟩
theorem str {x j}:SE X (.Constant (.str x) j pos) (tC (.str x)):=⟨BI⟩
theorem glob {x:Str}{w:V}{u:Value}(hg:Gl X x)(hm:X.mg x=some u)(r:RelV w u)(hd:(x == ("__debug__":Str))=false:=by decide):SE X (.Name x pos) (tC w):=⟨EF hg hm r hd⟩
theorem GX {x:Str}{w:V}{u:Value}(hg:Gl X x)(hm:X.mg x=none)(hv:aaS x=some u)(r:RelV w u)(hn:x≠"__name__":=by decide)(hd:(x == ("__debug__":Str))=false:=by decide):SE X (.Name x pos) (tC w):=⟨Ez hg hm hv r hn hd⟩
theorem op {k:Operator}(ho:SO X (binaryOp k) r)(ha:SE X a ta)(hb:SE X b tb):SE X (.BinOp a k b pos) (Gz r ta tb):=⟨Mo ho.h ha.h hb.h⟩
theorem cmp {k:CmpOp}(ho:SO X (compareOp k) r)(ha:SE X a ta)(hb:SE X b tb)(hm:abe k b=false:=by exact Bb _):ST X (.Compare a [k] [b] pos) (GC (Gz r ta tb)):=⟨EW ho.h ha.h hb.h hm⟩
theorem iF {k:CmpOp}(ho:SO X (compareOp k) r)(ha:SE X a ta)(hb:SE X b tb)(hm:abe k b=false:=by exact Bb _):SE X (.Compare a [k] [b] pos) (Gz r ta tb):=⟨EA ho.h ha.h hb.h hm⟩
theorem cp:SO X (binaryOp .Add) (wN fun i j=>.int (i + j)):=⟨ID⟩
theorem nr:SO X (binaryOp .Sub) (wN fun i j=>.int (i - j)):=⟨IP⟩
theorem d9:SO X (binaryOp .Mult) (rI C2 fun i j=>.int (i * j)):=⟨IJ⟩
theorem Im:SO X (binaryOp .Mult) (rI Fm fun i j=>.int (i * j)):=⟨Eu⟩
theorem aV:SO X (binaryOp .Mod) (rI (fun _ j=>0 < j) fun i j=>.int (i % j)):=⟨II⟩
theorem eG:SO X (binaryOp .FloorDiv) (rI Fl fun i j=>.int (i / j)):=⟨By⟩
theorem nq:SO X (binaryOp .Pow) (rI Kx fun i j=>.int (i ^ j.toNat)):=⟨IL⟩
theorem eW:SO X (binaryOp .Add) My:=⟨IE⟩
theorem bX:SO X (compareOp .Eq) Uk:=⟨Mb⟩
theorem yG:SO X (compareOp .NotEq) Ul:=⟨Mg⟩
theorem i0:SO X (compareOp .Lt) (wN fun i j=>.bl (decide (i < j))):=⟨Mf⟩
theorem Q0:SO X (compareOp .Gt) (wN fun i j=>.bl (decide (j < i))):=⟨Md⟩
theorem Ik:SO X (compareOp .GtE) (wN fun i j=>.bl (decide (j<=i))):=⟨Mc⟩
theorem Q1:SO X (compareOp .LtE) (wN fun i j=>.bl (decide (i<=j))):=⟨Me⟩
theorem r6 {KK:ZY}{m:Nat}(hu:X.A.units + (m + 1) < cLine)(hK:X.K=KK:=by first | exact bz | rfl):SO X (compareOp .Eq) (fun x y H Q=>∃b,RB KK H m x y b/\Q (.bl b) H):=by
 subst hK
 exact ⟨IF hu⟩
theorem wG {KK:ZY}{m:Nat}(hu:X.A.units + (m + 1) < cLine)(hK:X.K=KK:=by first | exact bz | rfl):SO X (compareOp .NotEq) (fun x y H Q=>∃b,RB KK H m x y b/\Q (.bl (!b)) H):=by
 subst hK
 exact ⟨IK hu⟩
theorem Il {KK:ZY}(hK:X.K=KK:=by first | exact bz | rfl):SO X (compareOp .In) (Oa KK false):=by
 subst hK
 exact ⟨yR⟩
theorem qa {KK:ZY}(hK:X.K=KK:=by first | exact bz | rfl):SO X (compareOp .NotIn) (Oa KK true):=by
 subst hK
 exact ⟨qb⟩
theorem Bi:SO X (compareOp .Is) (fun x y H Q=>y=.bN/\Q (.bl (decide (x=.bN))) H):=⟨IH⟩
theorem OP (hu:X.A.units + 1 < cLine)(hi:SE X a ta)(ho:SE X b tb)(h1:abe .In b=false:=by first | exact nk _ (by decide) (by decide) | rfl):SE X (.Compare a [.In] [b] pos) (M5 ta tb):=⟨IW (IU hu hi.h ho.h) h1⟩
theorem F8 {rest:List Expr}(ha:ST X a tA)(hb:SW X (.BoolOp .Or (b :: rest) pos) uB):SW X (.BoolOp .Or (a :: b :: rest) pos) (UC tA uB):=⟨Mv ha.h hb.h⟩
theorem F7 (ha:ST X a tA):SW X (.BoolOp .Or [a] pos) tA:=⟨Jx ha.h⟩
theorem GV {rest:List Expr}(ha:ST X a tA)(hb:SW X (.BoolOp .And (b :: rest) pos) uB):SW X (.BoolOp .And (a :: b :: rest) pos) (M4 tA uB):=⟨Jw ha.h hb.h⟩
theorem GU (ha:ST X a tA):SW X (.BoolOp .And [a] pos) tA:=⟨EX ha.h⟩
theorem tw (h:SW X e tA):ST X e tA:=⟨h.h.pt⟩
theorem nt (ha:ST X a tA):ST X (.UnaryOp .Not a pos) (M8 tA):=⟨Ju ha.h⟩
theorem qy (h:SE X e te)(he:∀whole,isTrue e X.env whole=(do let v ← whole; standAt e.pos; holding [v] (truthy v)):=by intro _; rfl):ST X e (tB te):=⟨Jv h.h he⟩
theorem ix (hr:SX X r)(ha:SE X a ta)(hb:SE X b tb)(hs:vR b:=by exact fun _ _=>rfl):SE X (.Subscript a b pos) (Gz r ta tb):=⟨Mm hr.h ha.h hb.h hs⟩
theorem bW {KK:ZY}(hK:X.K=KK:=by first | exact bz | rfl):SX X (MA KK):=by
 subst hK
 exact ⟨DY⟩
theorem cf {KK:ZY}(hK:X.K=KK:=by first | exact bz | rfl):SX X (MB KK):=by
 subst hK
 exact ⟨HU⟩
theorem tW (hu:X.A.units + 1 < cLine)(ho:SE X a ta)(hi:SE X b tb)(hs:zD b:=by exact fun _ _=>rfl):SE X (.Subscript a b pos) (Gs ta tb):=⟨EC hu ho.h hi.h hs⟩
theorem MY {KK:ZY}{p2:Pos}(ha:SE X a ta)(hb:SE X b tb)(hK:X.K=KK:=by first | exact bz | rfl):SE X (.Subscript a (.Slice (some b) none none p2) pos) (Nc (MD KK) ta (pE tb) mh):=by
 subst hK
 exact ⟨jJ JK ha.h (jK hb.h) qd⟩
theorem vz {KK:ZY}{p2:Pos}(ha:SE X a ta)(hb:SE X b tb)(hK:X.K=KK:=by first | exact bz | rfl):SE X (.Subscript a (.Slice none (some b) none p2) pos) (Nc (EZ KK) ta mh (pE tb)):=by
 subst hK
 exact ⟨jJ qj ha.h qd (jK hb.h)⟩
theorem n:SA X [] JO:=⟨an⟩
theorem k (ha:SE X e te)(hr:SA X es t)(hs:bF e:=by first | exact jG | exact fz | exact fw | exact uV | exact iY | exact Bf | exact Be | exact Bd | exact F0 | exact L6 | exact F5 | exact Ea | exact D9) :
   SA X (e :: es) (Cp te t):=⟨ac ha.h hr.h hs⟩
theorem tup {x1}(h:SA X es t):SE X (.Tuple es x1 pos) (JP t):=⟨RJ h.h⟩
theorem lst (h:SA X es t):SE X (.List es pos) (JN t):=⟨RH h.h⟩
theorem aW {x:Str}{p:Pos}{id:String}{rr:List V->Hp->VK->Prop}(hc:SC X (.builtin id) rr)(hg:Gl X x)(hm:X.mg x=none)(hv:aaS x=some (.builtin id))(ha:SA X (e :: es) t)(hn:x≠"__name__":=by decide)(hdb:(x == ("__debug__":Str))=false:=by decide) :
   SE X (.Call (.Name x p) (e :: es) [] pos) (Ks rr t):=⟨JX hc.h hg hm hv ha.h hn hdb⟩
theorem bT {x:Str}{p:Pos}{T:String}{rr:List V->Hp->VK->Prop}(hc:SC X (.type T) rr)(hg:Gl X x)(hm:X.mg x=none)(hv:aaS x=some (.type T))(ha:SA X (e :: es) t)(hn:x≠"__name__":=by decide)(hdb:(x == ("__debug__":Str))=false:=by decide) :
   SE X (.Call (.Name x p) (e :: es) [] pos) (Ks rr t):=⟨JY hc.h hg hm hv ha.h hn hdb⟩
theorem own {x:Str}{p:Pos}{ps:List Str}{kk:Nat}{sp:Sp}(D:TW.aX X.prog X.w X.K X.mg X.base x ps kk sp)(hr:dn kk X.A)(hg:Gl X x)(ha:SA X (e :: es) t)(hdb:(x == ("__debug__":Str))=false:=by decide) :
   SE X (.Call (.Name x p) (e :: es) [] pos) (nS sp [] E0 t):=⟨RI D hr hg ha.h hdb⟩
theorem Nx {KK:ZY}{name:Str}{apos:Pos}{T id:String}{rr:V->List V->Hp->VK->Prop}(pa:PlainAttrs T)(slot:Slot T name id)(hty:typeOf (.builtin id)=pure (.type "method_descriptor"))(hm:SM X id rr)(ho:SE X o ta)(ha:SA X [e] t)
   (hbase:abf o name X.env (eval o X.env)=eval o X.env:=by rfl) (hline:(apos.endLine == pos.line)=true:=by rfl) (hK:X.K=KK:=by first | exact bz | rfl):SE X (.Call (.Attribute o name apos) [e] [] pos) (Gr KK T rr ta t):=by
 subst hK
 exact ⟨RG pa slot hty hm.h ho.h ha.h hbase hline⟩
theorem append {KK:ZY}{apos:Pos}(ho:SE X o ta)(ha:SA X [e] t)(hbase:abf o "append" X.env (eval o X.env)=eval o X.env:=by rfl)(hline:(apos.endLine == pos.line)=true:=by rfl)(hK:X.K=KK:=by first | exact bz | rfl):SE X (.Call (.Attribute o "append" apos) [e] [] pos) (Gr KK "list" wK ta t):=by
 subst hK
 exact Nx abh PySem.F.slot_list_append PySem.F.type_list_append ⟨oY⟩ ho ha hbase hline
theorem Mr {KK:ZY}{apos:Pos}(ho:SE X o ta)(ha:SA X [e] t)(hbase:abf o "pop" X.env (eval o X.env)=eval o X.env:=by rfl)(hline:(apos.endLine == pos.line)=true:=by rfl)(hK:X.K=KK:=by first | exact bz | rfl):SE X (.Call (.Attribute o "pop" apos) [e] [] pos) (Gr KK "list" BS ta t):=by
 subst hK
 exact Nx abh PySem.F.slot_list_pop PySem.F.type_list_pop ⟨A9⟩ ho ha hbase hline
theorem bu {KK:ZY}(hK:X.K=KK:=by first | exact bz | rfl):SC X (.builtin "len") (fun xs H Q=>∃p ys,xs=[.ref p]/\(ao KK H p ys\/aK KK H p ys)/\Q (.int ys.length) H):=by
 subst hK
 exact ⟨pL⟩
theorem dJ {KK:ZY}(hK:X.K=KK:=by first | exact bz | rfl):SC X (.type "list") (fun xs H Q=>∃p ys,xs=[.ref p]/\(ao KK H p ys\/aK KK H p ys)/\∀l,H l=none->Q (.ref l) (upd H l (.lst ys))):=by
 subst hK
 exact ⟨pM⟩
theorem zL {KK:ZY}(hc:X.calm=true:=by rfl)(hK:X.K=KK:=by first | exact bz | rfl):SC X (.type "dict") (wL KK):=by
 subst hK
 exact ⟨lC hc⟩
theorem mz:SC X (.type "int") (fun xs H Q=>(∃i,xs=[.int i]/\Q (.int i) H)\/∃k,xs=[.bl k]/\Q (.int (if k then 1 else 0)) H):=⟨xv⟩
theorem Fu {KK:ZY}(hK:X.K=KK:=by first | exact bz | rfl):SC X (.builtin "isinstance") (fun xs H Q=>∃x n t b,xs=[x,.ty n]/\iB KK H x t/\aav KK t (.type n)=some b/\Q (.bl b) H):=by
 subst hK
 exact ⟨zO⟩
theorem gn (i:Nat){x:Str}(hN:X.N.Nodup)(hi:X.N[i]? = some x:=by rfl)(hx:Loc X.env.scope x:=by first | exact Or.inl rfl | exact Or.inr rfl)(hf:X.fn x=true\/X.env.scope.names.lookup x=some .local:=by first | exact .inl rfl | exact .inr rfl):SG X (.Name x pos) (kU i):=⟨EI hN hi hx hf⟩
theorem jb:Nv X [] K6:=⟨EJ⟩
theorem cu {t:TG}{u:CK}(h1:SG X e t)(h2:Nv X es u)(hs:(assignEach (e :: es) X.env).map (·.2)=assign e X.env :: (assignEach es X.env).map (·.2):=by rfl):Nv X (e :: es) (FC t u):=⟨BJ h1.h h2.h hs⟩
theorem cO {KK:ZY}{kk:Nat}{t:CK}(m:Nat)(h:Nv X es t)(hc:X.calm=true:=by rfl)(hn:(assignEach es X.env).length=m:=by rfl)(hst:(assignEach es X.env).findIdx? (·.1)=none:=by rfl)(hK:X.K=KK:=by first | exact bz | rfl):SG X (.Tuple es kk pos) (K8 KK m t):=by
 subst hK
 exact ⟨Jj hc h.h hn hst⟩
theorem iL {KK:ZY}{tg:Expr}(h:SE X a ta)(hK:X.K=KK:=by first | exact bz | rfl):SI X tg a (FV KK ta):=by
 subst hK
 exact ⟨EK h.h⟩
theorem iT {KK:ZY}{tg:Expr}(h:SE X a ta)(hK:X.K=KK:=by first | exact bz | rfl):SI X tg a (LQ KK ta):=by
 subst hK
 exact ⟨Jk h.h⟩
theorem iR {tg:Expr}{p:Pos}(hg:Gl X "range")(hm:X.mg "range"=none)(ha:SA X [a] t):SI X tg (.Call (.Name "range" p) [a] [] pos) (AU t):=⟨Fg hg hm ha.h⟩
theorem iZ {KK:ZY}{p tp:Pos}{elts:List Expr}{x1:Nat}(hg:Gl X "zip")(hm:X.mg "zip"=none)(ha:SA X [a,b] t)(hb:bF b:=by first | exact fz | exact iY | exact fw)(hK:X.K=KK:=by first | exact bz | rfl):SI X (.Tuple elts x1 tp) (.Call (.Name "zip" p) [a,b] [] pos) (HR KK t):=by
 subst hK
 exact ⟨RK hg hm ha.h hb⟩
theorem lM:KG X [] JM:=⟨Q9⟩
theorem if1 (h:ST X a tA):KG X [a] tA:=⟨Ra h.h⟩
theorem lc {tg iter elt:Expr}{ifs:List Expr}{sc:Scope}{wi:TI}{g:TG}{tifs:TT}(src:List (Option Nat))(N':List Str)(S:aE sc X.env.scope)(hcap:cS sc src N' X.N=true)(hi:SI X tg iter wi)
   (hb:∀s H C fp xe,SG (fN X N' sc s H C fp xe) tg g/\KG (fN X N' sc s H C fp xe) ifs tifs/\SE (fN X N' sc s H C fp xe) elt te) (hc:X.calm=true:=by rfl)
   (hs:∀x,aaP iter X.env x=pure x:=by intro _; rfl):SE X (.ListComp elt [⟨tg,iter,ifs,0⟩] sc pos) (fC src (.lst []) wi g tifs (de te)):=
 ⟨Mn src N' hc S hcap hi.h (fun s H C fp xe=>⟨(hb s H C fp xe).1.h,(hb s H C fp xe).2.1.h,(hb s H C fp xe).2.2.h⟩) hs⟩
theorem JL {tg iter elt:Expr}{ifs:List Expr}{sc:Scope}{wi:TI}{g:TG}{tifs:TT}{i:Nat}{x:Str}{pos' dQ:Pos}(src:List (Option Nat))(N':List Str)(S:aE sc X.env.scope)(hcap:cS sc src N' X.N=true)(hi:SI X tg iter wi)
   (hb:∀s H C fp xe,SG (fN X N' sc s H C fp xe) tg g/\KG (fN X N' sc s H C fp xe) ifs tifs/\SE (fN X N' sc s H C fp xe) elt te) (hN:X.N.Nodup) (hix:X.N[i]? = some x:=by rfl) (hx:Loc X.env.scope x:=by exact Or.inl rfl)
   (hsw:abN (.ListComp elt [⟨tg,iter,ifs,0⟩] sc pos) (some (.Name x pos')) dQ.line X.env=pure true:=by rfl) (hc:X.calm=true:=by rfl)
   (hs:∀x,aaP iter X.env x=pure x:=by intro _; rfl) (hf:X.fn x=true\/X.env.scope.names.lookup x=some .local:=by first | exact .inl rfl | exact .inr rfl) :
   SS X (.Assign [.Name x pos'] (.ListComp elt [⟨tg,iter,ifs,0⟩] sc pos) dQ) (vD (fC src (.lst []) wi g tifs (de te)) (kU i)):=
 ⟨Mu src N' hc S hcap hi.h (fun s H C fp xe=>⟨(hb s H C fp xe).1.h,(hb s H C fp xe).2.1.h,(hb s H C fp xe).2.2.h⟩) hN hix hx hsw hs hf⟩
theorem Vl {tg iter kx vx:Expr}{ifs:List Expr}{sc:Scope}{wi:TI}{g:TG}{tifs:TT}{tk tv:TE}(src:List (Option Nat))(N':List Str)(hu:X.A.units + 1 < cLine)(S:aE sc X.env.scope)(hcap:cS sc src N' X.N=true)(hi:SI X tg iter wi)
   (hb:∀s H C fp xe,SG (fN X N' sc s H C fp xe) tg g/\KG (fN X N' sc s H C fp xe) ifs tifs/\SE (fN X N' sc s H C fp xe) kx tk/\SE (fN X N' sc s H C fp xe) vx tv) (hc:X.calm=true:=by rfl)
   (hs:∀x,aaP iter X.env x=pure x:=by intro _; rfl):SE X (.DictComp kx vx [⟨tg,iter,ifs,0⟩] sc pos) (fC src (.dT []) wi g tifs (D6 tk tv)):=
 ⟨IX src N' hu hc S hcap hi.h (fun s H C fp xe=>⟨(hb s H C fp xe).1.h,(hb s H C fp xe).2.1.h,(hb s H C fp xe).2.2.1.h,(hb s H C fp xe).2.2.2.h⟩) hs⟩
variable {st:Stmt}{rest:List Stmt}{u1 u2:TS}
theorem nil:SL X [] Gx:=⟨EU⟩
theorem cons (h1:SS X st u1)(h2:SL X rest u2):SL X (st :: rest) (Nb u1 u2):=⟨BP h1.h h2.h⟩
theorem one (h1:SS X st u1):SL X [st] u1:=⟨EV h1.h⟩
theorem never:SL X rest Ct:=⟨y4⟩
theorem ret (he:SE X e te):SS X (.Return (some e) pos) (M9 te):=⟨Jq he.h⟩
theorem ex (he:SE X e te)(hs:abN e none pos.line X.env=pure false:=by rfl):SS X (.Expr e pos) (Gv te):=⟨EN he.h hs⟩
theorem ifs {tc:TT}{x y:List Stmt}(hc:ST X c tc)(ha:SL X x u1)(hb:SL X y u2):SS X (.If c x y pos) (M7 tc u1 u2):=⟨Mt hc.h ha.h hb.h⟩
theorem set (i:Nat){x:Str}{pos':Pos}(hN:X.N.Nodup)(he:SE X e te)(hi:X.N[i]? = some x:=by rfl)(hx:Loc X.env.scope x:=by first | exact Or.inl rfl | exact Or.inr rfl)(hs:abN e (some (.Name x pos')) pos.line X.env=pure false:=by rfl)(hf:X.fn x=true\/X.env.scope.names.lookup x=some .local:=by first | exact .inl rfl | exact .inr rfl) :
   SS X (.Assign [.Name x pos'] e pos) (vD te (kU i)):=⟨Jr hN hi hx he.h hs hf⟩
theorem asg {tg:Expr}{g:TG}(he:SE X e te)(hg:SG X tg g)(hs:ac6 [tg] e pos.line X.env=pure false:=by rfl)(hw:ac7 [tg] e X.env=pure none:=by rfl)
   (h1:(assignEach [tg] X.env).map (·.2)=[assign tg X.env]:=by rfl):SS X (.Assign [tg] e pos) (vD te g):=⟨Jo he.h hg.h hs hw h1⟩
theorem lD {tg iter:Expr}{body:List Stmt}{wi:TI}{g:TG}(hi:SI X tg iter wi)(hg:SG X tg g)(hb:SL X body u1)(hp:PassesOwn (model X.prog X.w) X.A X.env X.xe:=by exact adV)(hc:X.calm=true:=by rfl)
   (hs:∀x,aaP iter X.env x=pure x:=by intro _; rfl):SS X (.For tg iter body [] pos) (M6 wi g u1):=⟨Jp hp hc hi.h hg.h hb.h hs⟩
theorem run {ss:List Stmt}{u:TS}(h:SL X ss u):nY X ss u:=h.h
end
end L3
namespace L3
open PySem PySem.Spec PyProof.Rows L2
section
variable {X:Cx}{a b c e o:Expr}{es:List Expr}{ta tb tc te:TE}{t:TA}{tA uB:TT}{pos:Pos}{r:R2}
theorem neg (ha:SE X a ta):SE X (.UnaryOp .USub a pos) (UD (rU fun i=>.int (-i)) ta):=⟨Mp JS ha.h⟩
theorem Yi (ha:SE X a ta):SE X (.UnaryOp .Not a pos) (Gy ta):=⟨Ja ha.h⟩
theorem KI {rest:List Expr}(ha:SE X a ta)(hb:SE X (.BoolOp .And (b :: rest) pos) tb):SE X (.BoolOp .And (a :: b :: rest) pos) (Gq ta tb):=⟨IV ha.h hb.h⟩
theorem Q4 {op}(ha:SE X a ta):SE X (.BoolOp op [a] pos) ta:=⟨Jb ha.h⟩
theorem TJ (hc:ST X c tA)(ha:SE X a ta)(hb:SE X b tb):SE X (.IfExp c a b pos) (UB tA ta tb):=⟨BH hc.h ha.h hb.h⟩
theorem Bk:SO X (compareOp .IsNot) (fun x y H Q=>y=.bN/\Q (.bl (!decide (x=.bN))) H):=⟨Ew⟩
theorem Lb {x:Str}{p:Pos}(ho:SE X a ta)(hi:SE X (.Name x p) tb):SG X (.Subscript a (.Name x p) pos) (K7 ta tb Ge):=⟨Ji ho.h hi.h set_list (fun _=>rfl)⟩
end
end L3
namespace L2
open PySem PySem.Spec PyProof.Rows
end L2
namespace L3
open PySem PySem.Spec PyProof.Rows L2
end L3
namespace PySem
open Sem (wp)
abbrev dN (h:Heap)(z TI TO T:Addr)(f:Bool):Prop:=
 h.get? z=some { cls:=.type "zip",dict:=none,data:=.fields #[rawInt T,.bool f,.bool false,.ref TI,.ref TO],slots:=#[] }
section
variable {prog:Program}{w:World}{A:Around}{E:Value->Shared->Prop}{s:Shared}
theorem lr {a:Addr}{o:Obj}{Q:Option Obj->Shared->Prop}(h:s.heap.get? a=some o)(k:Q (some o) s):wpAny (model prog w) A (loadIfAlive a) Q E s:=fun Γ p hΓ=>by
 show Sem.wp _ _ (Sem.loadIfAlive a .pure) _ _ _ _
 rw [Sem.wp_loadIfAlive,h]
 exact (wpAny_pure k:wpAny (model prog w) A (Sem.pure (some o)) Q E s) Γ p hΓ
theorem pH {z TI TO T i1 i2 l1 l2:Addr}{f:Bool}{ot:Obj}{k1 k2:Nat}{xs ys:Array Value}{x y:Value}{Q:Value->Shared->Prop}(D:abF z TI TO i1 i2 l1 l2)(hz:dN s.heap z TI TO T f)(hT:s.heap.get? T=some ot)(hTI:IsPair s.heap TI (.ref i1) (.ref i2))
   (h1:s.heap.IsListIter i1 l1 k1) (h2:s.heap.IsListIter i2 l2 k2) (hl1:s.heap.IsList l1 xs) (hl2:s.heap.IsList l2 ys) (hx:xs[k1]? = some x) (hy:ys[k2]? = some y)
   (hQ:∀h',dN h' z TI TO T true->h'.IsListIter i1 l1 (k1 + 1)->h'.IsListIter i2 l2 (k2 + 1)->IsPair h' s.heap.objs.size x y->(∀c o,c≠z->c≠i1->c≠i2->s.heap.get? c=some o->h'.get? c=some o)->Q (.ref s.heap.objs.size) { s with heap:=h' }) :
   wpAny (model prog w) A (Builtin.«zip.__next__» ⟨[.ref z],[]⟩) (fun fin s'=>∃v,fin=.done (.ret v)/\Q v s') E s:=by
 show wpAny _ _ (field (.ref z) 2 >>= _) _ _ _
 refine wpAny_bind (wpAny_field hz rfl (x:=.bool false) rfl ?_)
 show wpAny _ _ (field (.ref z) 3 >>= _) _ _ _
 refine wpAny_bind (wpAny_field hz rfl (x:=.ref TI) rfl ?_)
 refine wpAny_bind (wpAny_seqItems hTI rfl ?_)
 show wpAny _ _ (aae (.ref z) >>= _) _ _ _
 refine wpAny_bind ?_
 unfold aae
 refine wpAny_bind (wpAny_field hz rfl (x:=rawInt T) rfl ?_)
 show wpAny _ _ (loadIfAlive (T:Int).toNat >>= _) _ _ _
 rw [aaT]
 refine wpAny_bind (lr hT ?_)
 rw [if_neg (by simp)]
 refine wpAny_bind (wpAny_field hz rfl (x:=.bool f) rfl ?_)
 refine wpAny_mono (Q:=fun b t=>b=false/\∃g,t={ s with heap:=g }/\dN g z TI TO T true/\aaH z s.heap g) ?mark (fun b t hb=>?next) (fun _ _ h=>h)
 case mark=>
   cases f
   · show wpAny _ _ (setField (.ref z) 1 (.bool true) >>= _) _ _ _
     exact wpAny_bind (wpAny_setField_rec hz (by simp) fun g hg hs=>wpAny_pure ⟨rfl,g,rfl,hg,hs⟩)
   · exact wpAny_pure ⟨rfl,s.heap,rfl,hz,⟨rfl,fun _ _=>rfl⟩⟩
 case next=>
   obtain ⟨rfl,g,rfl,gz,gs⟩:=hb
   rw [if_neg (by decide)]
   simp only [← abE]
   simp only [ab1,acC]
   refine wpAny_bind (wpAny_bind (wpAny_bind (wpAny_holding ?_)))
   show wpAny _ _ (aaz (.ref i1) >>= _) _ _ _
   refine wpAny_bind (wpAny_nextOf_list_item (h1.extBut gs.extBut D.i1z) (hl1.extBut gs.extBut D.l1z) hx fun g2 a2 s2=>wpAny_pure ?_)
   refine wpAny_pure ?_
   refine wpAny_bind (wpAny_bind (wpAny_holding ?_))
   show wpAny _ _ (aaz (.ref i2) >>= _) _ _ _
   refine wpAny_bind (wpAny_nextOf_list_item ((h2.extBut gs.extBut D.i2z).extBut s2.extBut D.i12.symm) ((hl2.extBut gs.extBut D.l2z).extBut s2.extBut D.l2i1) hy fun g3 a3 s3=>wpAny_pure ?_)
   refine wpAny_pure ?_
   refine wpAny_pure ?_
   show wpAny _ _ (newTuple [x,y] >>= _) _ _ _
   refine wpAny_bind (wpAny_newTuple (wpAny_pure ⟨_,rfl,?_⟩))
   have sz:g3.objs.size=s.heap.objs.size:=by rw [s3.1,s2.1,gs.1]
   have up:∀c o,c≠z->c≠i1->c≠i2->s.heap.get? c=some o->(g3.push { cls:=.type "tuple",data:=.seq [x,y].toArray }).get? c=some o:=fun c o n1 n2 n3 e=>
     Z4 _ (s3.extBut _ _ n3 (s2.extBut _ _ n2 (gs.extBut _ _ n1 e)))
   show Q (.ref g3.objs.size) _
   have rK:IsPair (g3.push { cls:=.type "tuple",data:=.seq [x,y].toArray }) g3.objs.size x y:=aas _ rfl
   rw [sz] at rK ⊢
   exact hQ _ (Z4 _ (s3.extBut _ _ D.i2z.symm (s2.extBut _ _ D.i1z.symm gz))) ((a2.extBut s3.extBut D.i12).at fun o e=>Z4 _ e) (a3.at fun o e=>Z4 _ e) rK up
theorem sZ {z TI TO T i1 i2 l1 l2:Addr}{f:Bool}{ot:Obj}{k1 k2:Nat}{xs ys:Array Value}{Q:Fin->Shared->Prop}(hh:A.handled=none)(D:abF z TI TO i1 i2 l1 l2)(hz:dN s.heap z TI TO T f)(hT:s.heap.get? T=some ot)(hTI:IsPair s.heap TI (.ref i1) (.ref i2))
   (h1:s.heap.IsListIter i1 l1 k1) (h2:s.heap.IsListIter i2 l2 k2) (hl1:s.heap.IsList l1 xs) (hl2:s.heap.IsList l2 ys) (hend:xs[k1]? = none\/ys[k2]? = none)
   (hE:∀h' e,(∀c o,c≠z->c≠i1->c≠i2->s.heap.get? c=some o->h'.get? c=some o)->(∃o,h'.get? e=some o/\o.cls=.type "StopIteration")->E (.ref e) { s with heap:=h' }) :
   wpAny (model prog w) A (Builtin.«zip.__next__» ⟨[.ref z],[]⟩) Q E s:=by
 show wpAny _ _ (field (.ref z) 2 >>= _) _ _ _
 refine wpAny_bind (wpAny_field hz rfl (x:=.bool false) rfl ?_)
 show wpAny _ _ (field (.ref z) 3 >>= _) _ _ _
 refine wpAny_bind (wpAny_field hz rfl (x:=.ref TI) rfl ?_)
 refine wpAny_bind (wpAny_seqItems hTI rfl ?_)
 show wpAny _ _ (aae (.ref z) >>= _) _ _ _
 refine wpAny_bind ?_
 unfold aae
 refine wpAny_bind (wpAny_field hz rfl (x:=rawInt T) rfl ?_)
 show wpAny _ _ (loadIfAlive (T:Int).toNat >>= _) _ _ _
 rw [aaT]
 refine wpAny_bind (lr hT ?_)
 rw [if_neg (by simp)]
 refine wpAny_bind (wpAny_field hz rfl (x:=.bool f) rfl ?_)
 refine wpAny_mono (Q:=fun b t=>b=false/\∃g,t={ s with heap:=g }/\dN g z TI TO T true/\aaH z s.heap g) ?mark (fun b t hb=>?next) (fun _ _ h=>h)
 case mark=>
   cases f
   · show wpAny _ _ (setField (.ref z) 1 (.bool true) >>= _) _ _ _
     exact wpAny_bind (wpAny_setField_rec hz (by simp) fun g hg hs=>wpAny_pure ⟨rfl,g,rfl,hg,hs⟩)
   · exact wpAny_pure ⟨rfl,s.heap,rfl,hz,⟨rfl,fun _ _=>rfl⟩⟩
 case next=>
   obtain ⟨rfl,g,rfl,gz,gs⟩:=hb
   rw [if_neg (by decide)]
   simp only [← abE]
   simp only [ab1,acC]
   refine wpAny_bind (wpAny_bind (wpAny_bind (wpAny_holding ?_)))
   show wpAny _ _ (aaz (.ref i1) >>= _) _ _ _
   cases hx:xs[k1]? with
   | none=>
     refine wpAny_bind (wpAny_nextOf_list_end hh (h1.extBut gs.extBut D.i1z) (hl1.extBut gs.extBut D.l1z) hx fun g2 e k2 he=>?_)
     exact hE g2 e (fun c o n1 n2 _ q=>k2 _ _ n2 (gs.extBut _ _ n1 q)) he
   | some x=>
     have hy:ys[k2]? = none:=by
       rcases hend with q | q
       · rw [hx] at q; cases q
       · exact q
     refine wpAny_bind (wpAny_nextOf_list_item (h1.extBut gs.extBut D.i1z) (hl1.extBut gs.extBut D.l1z) hx fun g2 a2 s2=>wpAny_pure ?_)
     refine wpAny_pure ?_
     refine wpAny_bind (wpAny_bind (wpAny_holding ?_))
     show wpAny _ _ (aaz (.ref i2) >>= _) _ _ _
     refine wpAny_bind (wpAny_nextOf_list_end hh ((h2.extBut gs.extBut D.i2z).extBut s2.extBut D.i12.symm) ((hl2.extBut gs.extBut D.l2z).extBut s2.extBut D.l2i1) hy fun g3 e k3 he=>?_)
     exact hE g3 e (fun c o n1 n2 n3 q=>k3 _ _ n3 (s2.extBut _ _ n2 (gs.extBut _ _ n1 q))) he
theorem uR {z TI TO T i1 i2 l1 l2:Addr}{f:Bool}{ot:Obj}{k1 k2:Nat}{xs ys:Array Value}{x y:Value}{Q:Option Value->Shared->Prop}(D:abF z TI TO i1 i2 l1 l2)(hz:dN s.heap z TI TO T f)(hT:s.heap.get? T=some ot)(hTI:IsPair s.heap TI (.ref i1) (.ref i2))
   (h1:s.heap.IsListIter i1 l1 k1) (h2:s.heap.IsListIter i2 l2 k2) (hl1:s.heap.IsList l1 xs) (hl2:s.heap.IsList l2 ys) (hx:xs[k1]? = some x) (hy:ys[k2]? = some y)
   (hQ:∀h',dN h' z TI TO T true->h'.IsListIter i1 l1 (k1 + 1)->h'.IsListIter i2 l2 (k2 + 1)->IsPair h' s.heap.objs.size x y->(∀c o,c≠z->c≠i1->c≠i2->s.heap.get? c=some o->h'.get? c=some o)->Q (some (.ref s.heap.objs.size)) { s with heap:=h' }) :
   wpAny (model prog w) A (pyNext (.ref z)) Q E s:=by
 have ty:s.TypeIs (.ref z) "zip":=⟨_,hz,rfl⟩
 unfold pyNext
 refine wpAny_bind (wpAny_attempt (aaO (name:=aa4 "__next__") ty abi (wpAny_call_entry abi ty acx (pH D hz hT hTI h1 h2 hl1 hl2 hx hy ?_) (aco _))))
 exact fun g a b c d e=>wpAny_pure (hQ g a b c d e)
theorem yF {z TI TO T i1 i2 l1 l2:Addr}{f:Bool}{ot:Obj}{k1 k2:Nat}{xs ys:Array Value}{Q:Option Value->Shared->Prop}(hh:A.handled=none)(D:abF z TI TO i1 i2 l1 l2)(hz:dN s.heap z TI TO T f)(hT:s.heap.get? T=some ot)(hTI:IsPair s.heap TI (.ref i1) (.ref i2))
   (h1:s.heap.IsListIter i1 l1 k1) (h2:s.heap.IsListIter i2 l2 k2) (hl1:s.heap.IsList l1 xs) (hl2:s.heap.IsList l2 ys) (hend:xs[k1]? = none\/ys[k2]? = none)
   (hQ:∀h',(∀c o,c≠z->c≠i1->c≠i2->s.heap.get? c=some o->h'.get? c=some o)->Q none { s with heap:=h' }):wpAny (model prog w) A (pyNext (.ref z)) Q E s:=by
 have ty:s.TypeIs (.ref z) "zip":=⟨_,hz,rfl⟩
 unfold pyNext
 refine wpAny_bind (wpAny_attempt (aaO (name:=aa4 "__next__") ty abi (wpAny_call_entry abi ty acx (sZ hh D hz hT hTI h1 h2 hl1 hl2 hend fun g e kk he=>?_) (aco _))))
 obtain ⟨o,ho,hc⟩:=he
 exact wpAny_bind (wpAny_isInstance (T:="StopIteration") (b:=true) ⟨o,ho,hc⟩ isSubtype_stop (wpAny_pure (hQ _ kk)))
end
end PySem
namespace PySem
theorem Fh:adg (.type "zip") "keys"=pure none:=by rw [adB,acK]; kernel_rfl
theorem Nl:adg (.type "zip") "__getattr__"=pure none:=by rw [adB,acK]; kernel_rfl
theorem CH:entryFor table "zip.__getattribute__"=some Builtin.«object.__getattribute__»:=entryFor_alias (id':="object.__getattribute__") (by kernel_rfl) (by decide +kernel) (by decide +kernel) (by kernel_rfl)
theorem Fi (z:Addr)(fl:Array Value)(u:Tok) :
   Meets (Builtin.«object.__getattribute__» ⟨[.ref z,.str "keys" u],[]⟩) (fun A R s=>s.heap.get? z=some { cls:=.type "zip",dict:=none,data:=.fields fl,slots:=#[] }/\raisesAttr (.ref z) "keys" A R s):=
 Meets.of_wp fun P w A R s h=>by
   obtain ⟨hp,g,d,tk,os⟩:=s
   obtain ⟨hz,h⟩:=h
   have ty:(⟨hp,g,d,tk,os⟩ : Shared).TypeIs (.ref z) "zip":=⟨_,hz,rfl⟩
   have e0:=Fh
   unfold Builtin.«object.__getattribute__»
   repeat (any_goals (first | assumption | wp_step))
   exact wpAny_raiseAttrError h.1 h.2 (attrMsg_fits (by decide +kernel) (by decide +kernel))
section
variable {P:Program}{w:World}{A:Around}{E:Value->Shared->Prop}{s:Shared}
theorem Nk {z:Addr}{fl:Array Value}{u:Tok}{Q:Value->Shared->Prop}(hz:s.heap.get? z=some { cls:=.type "zip",dict:=none,data:=.fields fl,slots:=#[] })(free:A.handled=none)
   (k:∀g tk e,Heap.NewAttrErr s.heap g e (.ref z) "keys"->E (.ref e) { s with heap:=g,toks:=tk }):wpAny (model P w) A (getAttrBy (.ref z) (.str "keys" u) false) Q E s:=by
 obtain ⟨hp,g,d,tk,os⟩:=s
 have ty:∀t,(⟨hp,g,d,t,os⟩ : Shared).TypeIs (.ref z) "zip":=fun _=>⟨_,hz,rfl⟩
 have q1:=ach
 have q2:=F.slot_zip_getattribute.lookup
 have q3:=F.slot_zip_getattribute.bind (.ref z)
 have q4:=Nl
 unfold getAttrBy
 repeat (any_goals (first | assumption | exact ty _ | ((with_reducible show wpAny _ _ (call (acf "zip.__getattribute__") _ _) _ _ _); refine call_meets F.slot_zip_getattribute (ty _) CH (F.args_zip_getattribute_2 _ _) (Fi z fl _) ⟨hz,free,fun g' Om e ne=>?_⟩) | wp_step))
 obtain ⟨t',u',he⟩:=ne.there
 show wpAny _ _ (getattributeRaised _ _ _ _ _ _ _) _ _ _
 unfold getattributeRaised
 repeat (any_goals (first | assumption | wp_step))
 exact k _ _ _ ne
theorem Fj {z:Addr}{fl:Array Value}{Q:Option Value->Shared->Prop}(hz:s.heap.get? z=some { cls:=.type "zip",dict:=none,data:=.fields fl,slots:=#[] })(free:A.handled=none)
   (k:∀g tk,(∀b o,s.heap.get? b=some o->g.get? b=some o)->Q none { s with heap:=g,toks:=tk }):wpAny (model P w) A (adx (.ref z) "keys") Q E s:=by
 unfold adx getAttrBy?
 refine wpAny_bind (wpAny_mkText (wpAny_bind (wpAny_attempt (Nk hz free fun g tk e ne=>?_))))
 obtain ⟨t',u',he⟩:=ne.there
 refine wpAny_bind (wpAny_isInstance (T:="AttributeError") (b:=true) ⟨_,he,rfl⟩ ach (wpAny_pure (k g _ ne.keeps)))
end
end PySem
namespace L2
open PySem PySem.Spec PyProof.Rows
structure qK (h:Heap)(z TI TO i1 i2 l1 l2:Addr)(i:Nat):Prop where
 ti:IsPair h TI (.ref i1) (.ref i2)
 to:∃x y,IsPair h TO x y
 a:h.IsListIter i1 l1 i
 b:h.IsListIter i2 l2 i
 z:IsZip h z TI TO .none\/∃T f x y,dN h z TI TO T f/\IsPair h T x y
theorem qK.ob {h:Heap}{z TI TO i1 i2 l1 l2:Addr}{i:Nat}(s:qK h z TI TO i1 i2 l1 l2 i):∃fl,h.get? z=some { cls:=.type "zip",dict:=none,data:=.fields fl,slots:=#[] }:=by
 rcases s.z with e | ⟨T,f,x,y,e,_⟩
 · exact ⟨_,e⟩
 · exact ⟨_,e⟩
theorem qK.but {h g:Heap}{z TI TO i1 i2 l1 l2 D:Addr}{i:Nat}(s:qK h z TI TO i1 i2 l1 l2 i)(k:Heap.ExtBut D h g)(n1:z≠D)(n2:TI≠D)(n3:TO≠D)(n4:i1≠D)(n5:i2≠D)(dict:∀x y,¬ IsPair h D x y):qK g z TI TO i1 i2 l1 l2 i:=by
 obtain ⟨t1,⟨x,y,t2⟩,a,b,zz⟩:=s
 refine ⟨k _ _ n2 t1,⟨x,y,k _ _ n3 t2⟩,a.extBut k n4,b.extBut k n5,?_⟩
 rcases zz with e | ⟨T,f,x,y,e,p⟩
 · exact .inl (k _ _ n1 e)
 · exact .inr ⟨T,f,x,y,k _ _ n1 e,k _ _ (fun q=>dict x y (q ▸ p)) p⟩
section
variable {P:Program}{w:World}{A:Around}{E:Value->Shared->Prop}{s:Shared}
theorem qK.item {z TI TO i1 i2 l1 l2:Addr}{i:Nat}{us vs:Array Value}{u v:Value}{Q:Option Value->Shared->Prop}(D:abF z TI TO i1 i2 l1 l2)(st:qK s.heap z TI TO i1 i2 l1 l2 i)(h1:s.heap.IsList l1 us)(h2:s.heap.IsList l2 vs)(hu:us[i]? = some u)(hv:vs[i]? = some v)
   (k:∀g,qK g z TI TO i1 i2 l1 l2 (i + 1)->IsPair g s.heap.objs.size u v->(∀c o,c ∉ ([z,TO,i1,i2]:List Addr)->s.heap.get? c=some o->g.get? c=some o)->Q (some (.ref s.heap.objs.size)) { s with heap:=g }):wpAny (model P w) A (pyNext (.ref z)) Q E s:=by
 obtain ⟨t1,⟨x,y,t2⟩,a,b,zz⟩:=st
 rcases zz with e | ⟨T,f,x',y',e,p⟩
 · refine wpAny_pyNext_zip_item D e t1 t2 a b h1 h2 hu hv fun g b1 b2 b3 b4 b5 b6 kk=>?_
   refine k g ⟨kk _ _ D.TIz D.TITO D.TIi1 D.TIi2 t1,⟨_,_,b2⟩,b3,b4,.inr ⟨_,_,_,_,b1,b5⟩⟩ b5 fun c o hc q=>?_
   simp only [aau,aai,or_false,not_or] at hc
   exact kk c o hc.1 hc.2.1 hc.2.2.1 hc.2.2.2 q
 · have nz:T≠z:=fun q=>by
     subst q
     have h:=congrArg Obj.cls (aap (e.symm.trans p))
     simp at h
   have n1:T≠i1:=fun q=>by
     subst q
     obtain ⟨o,ho,hc,_⟩:=a
     rw [aap (ho.symm.trans p)] at hc
     simp at hc
   have n2:T≠i2:=fun q=>by
     subst q
     obtain ⟨o,ho,hc,_⟩:=b
     rw [aap (ho.symm.trans p)] at hc
     simp at hc
   refine uR D e p t1 a b h1 h2 hu hv fun g b1 b3 b4 b5 kk=>?_
   refine k g ⟨kk _ _ D.TIz D.TIi1 D.TIi2 t1,⟨_,_,kk _ _ D.TOz D.TOi1 D.TOi2 t2⟩,b3,b4,.inr ⟨T,true,_,_,b1,kk _ _ nz n1 n2 p⟩⟩ b5 fun c o hc q=>?_
   simp only [aau,aai,or_false,not_or] at hc
   exact kk c o hc.1 hc.2.2.1 hc.2.2.2 q
theorem qK.done {z TI TO i1 i2 l1 l2:Addr}{i:Nat}{us vs:Array Value}{Q:Option Value->Shared->Prop}(free:A.handled=none)(D:abF z TI TO i1 i2 l1 l2)(st:qK s.heap z TI TO i1 i2 l1 l2 i)(h1:s.heap.IsList l1 us)(h2:s.heap.IsList l2 vs)(hu:us[i]? = none)
   (k:∀g,(∀c o,c ∉ ([z,TO,i1,i2]:List Addr)->s.heap.get? c=some o->g.get? c=some o)->Q none { s with heap:=g }):wpAny (model P w) A (pyNext (.ref z)) Q E s:=by
 obtain ⟨t1,⟨x,y,t2⟩,a,b,zz⟩:=st
 rcases zz with e | ⟨T,f,x',y',e,p⟩
 · refine wpAny_pyNext_zip_end free D e t1 t2 a b h1 h2 (.inl hu) fun g kk=>k g fun c o hc q=>?_
   simp only [aau,aai,or_false,not_or] at hc
   exact kk c o hc.1 hc.2.1 hc.2.2.1 hc.2.2.2 q
 · refine yF free D e p t1 a b h1 h2 (.inl hu) fun g kk=>k g fun c o hc q=>?_
   simp only [aau,aai,or_false,not_or] at hc
   exact kk c o hc.1 hc.2.2.1 hc.2.2.2 q
end
section
variable {X:Cx}
theorem D4 {ks:List Key}{ys:List V}{i:Nat}{k:Key}{y:V}(h1:ks[i]? = some k)(h2:ys[i]? = some y):(ks.drop i).zip (ys.drop i)=(k,y) :: (ks.drop (i + 1)).zip (ys.drop (i + 1)):=by
 have l1:=(List.getElem?_eq_some_iff.mp h1)
 have l2:=(List.getElem?_eq_some_iff.mp h2)
 obtain ⟨a1,e1⟩:=l1
 obtain ⟨a2,e2⟩:=l2
 rw [ab8 a1,ab8 a2,e1,e2]
 rfl
theorem tq {pins:List (Addr×Obj)}{σ:St}{A:Around}{D z TI TO i1 i2 l1 l2:Addr}{ks:List Key}{ys:List V}(hh:A.handled=none)(ap:abF z TI TO i1 i2 l1 l2)(hly:ks.length=ys.length) :
   ∀(n i:Nat) (j:Int) (t:Tok) (d:List (Key×V)) (H:Hp) (s:Shared) (R:Result->Shared->Prop),ks.length - i=n->i<=ks.length->Inv X pins σ H s->H D=some (.dK d)->d.length + n<=sizeLine->ao X.K H l1 (ks.map kV)->ao X.K H l2 ys->(∀c∈([z,TI,TO,i1,i2]:List Addr),dI X pins H c) ->
     qK s.heap z TI TO i1 i2 l1 l2 i->(∀s',Inv X pins σ (upd H D (.dK (putAll d ((ks.drop i).zip (ys.drop i))))) s'->R (.ok (.ret .none)) s') ->
     codeAny (model X.prog X.w) A (.builtin "dict.update.loop" ⟨[.ref D,.ref z,.int j t,.none],[]⟩) R s
 | n,i,j,t,d,H,s,R,hn,hi,I,hD,hz,oA,oB,fp,st,hR=>by
   obtain ⟨uJ,vg,p1,_⟩:=I.list oA
   obtain ⟨eV,vh,p2,_⟩:=I.list oB
   have hl1:=vg.length
   have hl2:=vh.length
   rw [ZX] at hl1
   have ch:∀c∈([z,TO,i1,i2]:List Addr),dI X pins H c:=fun c hc=>fp c (by simp only [aau,aai,or_false] at hc ⊢; rcases hc with r | r | r | r <;> simp [r])
   refine adC dD ?_
   have hA:(A.under (.builtin "dict.update.loop" ⟨[.ref D,.ref z,.int j t,.none],[]⟩)).handled=none:=hh
   generalize A.under (.builtin "dict.update.loop" ⟨[.ref D,.ref z,.int j t,.none],[]⟩)=A' at hA ⊢
   unfold Builtin.«dict.update.loop»
   show wpAny _ _ (pyNext (.ref z) >>= _) _ _ _
   by_cases hlt:i < ks.length
   · obtain ⟨kk,hk⟩ : ∃kk,ks[i]? = some kk:=⟨ks[i],ZZ hlt⟩
     obtain ⟨yy,hy⟩ : ∃yy,ys[i]? = some yy:=⟨ys[i]'(by omega),ZZ (by omega)⟩
     obtain ⟨u,hu,ru⟩:=vg.get (show (ks.map kV)[i]? = some (kV kk) by rw [aaq,hk]; rfl)
     obtain ⟨v,hv,rv⟩:=vh.get hy
     refine wpAny_bind (st.item ap p1.isList p2.isList (u:=u) (v:=v) (by simpa using hu) (by simpa using hv) fun g C0 np kp=>?_)
     have I1:Inv X pins σ H { s with heap:=g }:=I.wC (t':=s.toks) ch kp
     refine wpAny_bind (wpAny_holding ?_)
     refine wpAny_bind (wpAny_tryCatch (jC (show ({ s with heap:=g }:Shared).heap.IsTuple s.heap.objs.size #[u,v] from ⟨_,np,rfl,_,rfl⟩) ?_))
     show wpAny _ _ (holding [u,v] (dictSet D u v)) _ _ _
     obtain ⟨_,ow,vs,rel,dd⟩:=v7 I1.hok hD
     have QC:vs.length<=sizeLine:=by rw [← rel.length]; omega
     have Xa:(putK d kk yy).length<=d.length + 1:=bL d kk yy
     refine wpAny_holding (wpAny_dictSet_pairs (hsz:=QC) (jy ru) dd fun h2 oi hs2=>?_)
     have he:∃q,h2.get? D=some q:=let ⟨q,_,_,hq,_⟩:=oi; ⟨q,hq⟩
     have ne:∀c∈([z,TI,TO,i1,i2]:List Addr),c≠D:=fun c hc q=>by have:=(fp c hc).1; rw [q,hD] at this; cases this
     have keepL:∀{l:Addr} {xs:List V},ao X.K H l xs->ao X.K (upd H D (.dK (putK d kk yy))) l xs:=fun hq=>by
       rcases hq with (q | ⟨o,q⟩) | q
       · exact .inl (.inl (by rw [aj (fH q hD (fun z=>nomatch z))]; exact q))
       · exact .inl (.inr ⟨o,by rw [aj (fH q hD (fun z=>nomatch z))]; exact q⟩)
       · exact .inr q
     have nodict:∀x y,¬ IsPair g D x y:=fun x y q=>by
       obtain ⟨o,ho,hc⟩:=(show Shared.TypeIs { s with heap:=g } (.ref D) "dict" from dd.typeIs)
       rw [aap (ho.symm.trans q)] at hc
       simp at hc
     refine wpAny_pure ⟨abG _ (by decide +kernel),?_⟩
     refine tq hh ap hly (ks.length - (i + 1)) (i + 1) _ _ (putK d kk yy) (upd H D (.dK (putK d kk yy))) _ R rfl hlt (eA (t':=_) I1 (by rw [hD]; exact aat) hs2 he (pO (by omega) ow (rel.put kk rv) oi)) ae (by omega) (keepL oA) (keepL oB) (fun c hc=>⟨by rw [aj (ne c hc)]; exact (fp c hc).1,(fp c hc).2⟩)
       (C0.but hs2.extBut (ne z (by simp)) (ne TI (by simp)) (ne TO (by simp)) (ne i1 (by simp)) (ne i2 (by simp)) nodict) ?_
     intro s' I'
     rw [bS] at I'
     rw [D4 hk hy] at hR
     exact hR s' I'
   · have Lo:ks.length<=i:=by omega
     refine wpAny_bind (st.done hA ap p1.isList p2.isList (by simp; omega) fun g kp=>?_)
     have I1:Inv X pins σ H { s with heap:=g }:=I.wC (t':=s.toks) ch kp
     have e0:(ks.drop i).zip (ys.drop i)=[]:=by rw [adH Lo]; rfl
     have e:upd H D (.dK (putAll d ((ks.drop i).zip (ys.drop i))))=H:=by
       rw [e0]
       funext b
       unfold upd
       split
       · rename_i hb; rw [hb,hD]; rfl
       · rfl
     rw [e] at hR
     show wpAny _ _ (abY D [] >>= _) _ _ _
     exact wpAny_bind (wpAny_pure (wpAny_pure (hR _ I1)))
termination_by n=>n
decreasing_by omega
end
theorem qK.up {h g:Heap}{z TI TO i1 i2 l1 l2:Addr}{i:Nat}(s:qK h z TI TO i1 i2 l1 l2 i)(k:∀c o,h.get? c=some o->g.get? c=some o):qK g z TI TO i1 i2 l1 l2 i:=by
 obtain ⟨t1,⟨x,y,t2⟩,a,b,zz⟩:=s
 refine ⟨k _ _ t1,⟨x,y,k _ _ t2⟩,a.at fun o e=>k _ o e,b.at fun o e=>k _ o e,?_⟩
 rcases zz with e | ⟨T,f,x,y,e,p⟩
 · exact .inl (k _ _ e)
 · exact .inr ⟨T,f,x,y,k _ _ e,k _ _ p⟩
def sX (K:ZY)(ta:TA):TE:=fun σ H Q=>ta σ H fun vs H1=>∃(l1 l2:Addr) (ks:List Key) (ys:List V),vs=[.ref l1,.ref l2]/\ao K H1 l1 (ks.map kV)/\ao K H1 l2 ys/\ks.length=ys.length/\ks.length<=1000/\∀D,H1 D=none->Q (.ref D) (upd H1 D (.dK (putAll [] (ks.zip ys))))
section
variable {X:Cx}{a b:Expr}{ta:TA}{p1 p2 pos dQ:Pos}
theorem u4 (hc:X.calm=true)(hg1:Gl X "dict")(hm1:X.mg "dict"=none)(hg2:Gl X "zip")(hm2:X.mg "zip"=none)(ha:tJ X [a,b] ta)(hb:bF b)(hv1:aaS "dict"=some (.type "dict"):=by first | rfl | decide +kernel)(hv2:aaS "zip"=some (.type "zip"):=by first | rfl | decide +kernel) :
   PE X (.Call (.Name "dict" p1) [.Call (.Name "zip" p2) [a,b] [] dQ] [] pos) (sX X.K ta):=by
 intro pins s σ H Q I h
 refine wpAny_Call_Name_kw (eN I hg1 hm1 hv1 ?_ (by decide) (by decide))
 refine aaE ?_ rfl rfl
 show wpAny _ _ (spliced ((false,eval (.Call (.Name "zip" p2) [a,b] [] dQ) X.env) :: [])) _ _ s
 refine abn (wpAny_Call_Name_kw (eN I hg2 hm2 hv2 ?_ (by decide) (by decide)))
 refine aaE (bt (ha.pa dQ pins s σ H _ I h) fun us s1 ⟨vs,H1,I1,r1,q1⟩=>?_) ((ha.ns a [b] rfl).1.h [b] X.env) ((ha.ns a [b] rfl).2 dQ X.env)
 obtain ⟨l1,l2,ks,ys,e,oA,oB,hlen,FF,q⟩:=q1
 subst e
 obtain ⟨u,v,rfl,ru,rv⟩:=Vals.two r1
 obtain rfl:u=aal l1:=ru
 obtain rfl:v=aal l2:=rv
 obtain ⟨uJ,vg,p1,_⟩:=I1.list oA
 obtain ⟨eV,vh,p2,_⟩:=I1.list oB
 have LX:l1 < s1.heap.objs.size:=by obtain ⟨_,_,e,_⟩:=p1; exact Z7 e
 have LY:l2 < s1.heap.objs.size:=by obtain ⟨_,_,e,_⟩:=p2; exact Z7 e
 refine call_zip_2 p1.isList p2.isList fun h' hz hTI hTO ux DJ hsz hk=>?_
 refine abL ?_
 have hh:X.A.handled=none:=I1.ok.hd hc
 have ap:=zipApart_new LX LY
 have st:qK h' (s1.heap.objs.size + 4) (s1.heap.objs.size + 2) (s1.heap.objs.size + 3) s1.heap.objs.size (s1.heap.objs.size + 1) l1 l2 0:=⟨hTI,⟨_,_,hTO⟩,ux,DJ,.inl hz⟩
 have I2:Inv X pins σ H1 { s1 with heap:=h' }:=I1.kept (t':=s1.toks) hk
 have up:∀k,dI X pins H1 (s1.heap.objs.size + k):=fun k=>I1.pQ (abB _ _) (I1.hok.fresh (abB _ _))
 have fp1:∀c∈([s1.heap.objs.size + 4,s1.heap.objs.size + 2,s1.heap.objs.size + 3,s1.heap.objs.size,s1.heap.objs.size + 1]:List Addr),dI X pins H1 c/\c < h'.objs.size:=fun c DG=>by
   simp only [aau,aai,or_false] at DG
   rw [hsz]
   rcases DG with rfl | rfl | rfl | rfl | rfl
   · exact ⟨up 4,Nat.lt_succ_self _⟩
   · exact ⟨up 2,by show _ + 2 < _ + 5; exact ab5 (by decide) _⟩
   · exact ⟨up 3,by show _ + 3 < _ + 5; exact ab5 (by decide) _⟩
   · exact ⟨up 0,by show _ + 0 < _ + 5; exact ab5 (by decide) _⟩
   · exact ⟨up 1,by show _ + 1 < _ + 5; exact ab5 (by decide) _⟩
 generalize s1.heap.objs.size + 4=z at hz st ap fp1 ⊢
 generalize s1.heap.objs.size + 2=TI at hz hTI st ap fp1
 generalize s1.heap.objs.size + 3=TO at hz hTO st ap fp1
 generalize s1.heap.objs.size + 1=i2 at st ap fp1
 generalize s1.heap.objs.size=i1 at st ap fp1
 have hD:H1 h'.objs.size=none:=I2.hok.fresh (Z3 _)
 have I3:Inv X pins σ (upd H1 h'.objs.size (.dK [])) { s1 with heap:=h'.push { cls:=.type "dict",data:=.dict #[] } }:=I2.laid (t':=s1.toks) (fun _ _ e=>Z4 _ e) (Z3 _) (mC h' I2.big)
 have Cn:=st.up (g:=h'.push { cls:=.type "dict",data:=.dict #[] }) fun c o e=>Z4 _ e
 refine callType_codes (s:={ s1 with heap:=h' }) (Q₁:=fun obj t=>obj=.ref h'.objs.size/\t={ s1 with heap:=h'.push { cls:=.type "dict",data:=.dict #[] } }) F.kt_called_dict (F.kt_typeCall_dict_1 _) F.entry_dict_init (kt_code_dict_new _ ⟨rfl,rfl⟩) ?_
 rintro obj t ⟨rfl,rfl⟩
 have rK:(h'.push { cls:=.type "dict",data:=.dict #[] }).DictOf (aO X.prog X.w) h'.objs.size []:=acO h'
 have SD:∀c∈([z,TI,TO,i1,i2]:List Addr),dI X pins (upd H1 h'.objs.size (.dK [])) c:=fun c DG=>⟨by rw [aj (aay (fp1 c DG).2)]; exact (fp1 c DG).1.1,(fp1 c DG).1.2⟩
 generalize FP:({ s1 with heap:=h'.push { cls:=.type "dict",data:=.dict #[] } }:Shared)=s3 at I3 ⊢
 have AJ:s3.heap.DictOf (aO X.prog X.w) h'.objs.size []:=by rw [← FP]; exact rK
 have QB:IsZip s3.heap z TI TO .none:=by rw [← FP]; exact Z4 _ hz
 have M0:qK s3.heap z TI TO i1 i2 l1 l2 0:=by rw [← FP]; exact Cn
 generalize h'.objs.size=D at hD I3 AJ SD ⊢
 have keepL:∀{l:Addr} {xs:List V},ao X.K H1 l xs->ao X.K (upd H1 D (.dK [])) l xs:=fun hq=>by
   rcases hq with (r | ⟨o,r⟩) | r
   · exact .inl (.inl (by rw [aj (ah r hD)]; exact r))
   · exact .inl (.inr ⟨o,by rw [aj (ah r hD)]; exact r⟩)
   · exact .inr r
 refine ⟨AJ.typeIs,F.args_dict_init_2 _ _,?_⟩
 unfold Builtin.«dict.__init__»
 refine wpAny_bind ?_
 unfold abX
 refine wpAny_bind (wpAny_notOrdered_dict AJ.typeIs ?_)
 show wpAny _ _ (pure (D,[aal z])) _ _ _
 refine wpAny_pure ?_
 show wpAny _ _ (aa2 "dict.__init__" D (.ref z) [] .none) _ _ _
 unfold aa2
 obtain ⟨fl,eo⟩:=M0.ob
 refine wpAny_bind (wpAny_typeOf (T:="zip") ⟨_,eo,rfl⟩ ?_)
 rw [if_pos (by decide)]
 refine wpAny_bind (Fj eo hh fun g tk kk=>?_)
 rw [if_pos (show (Option.isNone (none:Option Value))=true from rfl)]
 have I4:Inv X pins σ (upd H1 D (.dK [])) { s3 with heap:=g,toks:=tk }:=I3.kept kk
 have Oh:qK g z TI TO i1 i2 l1 l2 0:=M0.up kk
 refine wpAny_bind (wpAny_rule ?_)
 refine wpAny_bind (wpAny_pyIter_zip (kk _ _ QB) ?_)
 refine wpAny_pure ⟨abG _ (by decide +kernel),?_⟩
 refine tq (D:=D) (pins:=pins) (σ:=σ) (A:=X.A.in1) (show X.A.in1.handled=none from hh) ap hlen ks.length 0 _ _ [] _ _ _ (by simp) (aaI _) I4 ae (by simp; exact Z8 FF (by decide)) (keepL oA) (keepL oB) SD Oh ?_
 intro s' I'
 rw [bS,abQ,abQ] at I'
 exact ⟨rfl,.ref D,_,I',rfl,q D hD⟩
end
end L2
namespace L3
open PySem PySem.Spec PyProof.Rows L2
theorem Dp {X:Cx}{a b:Expr}{t:TA}{p1 p2 pos dQ:Pos}{KK:ZY}(hg1:Gl X "dict")(hm1:X.mg "dict"=none)(hg2:Gl X "zip")(hm2:X.mg "zip"=none)(ha:SA X [a,b] t)(hb:bF b:=by first | exact fz | exact iY | exact fw)(hc:X.calm=true:=by rfl)(hK:X.K=KK:=by first | exact bz | rfl) :
   SE X (.Call (.Name "dict" p1) [.Call (.Name "zip" p2) [a,b] [] dQ] [] pos) (sX KK t):=by
 subst hK
 exact ⟨u4 hc hg1 hm1 hg2 hm2 ha.h hb⟩
end L3
namespace L2
open PySem PySem.Spec PyProof.Rows
end L2
namespace L3
open PySem PySem.Spec PyProof.Rows L2
section
variable {X:Cx}{a b c e o:Expr}{es:List Expr}{ta tb tc te:TE}{t:TA}{pos:Pos}
theorem extend {apos:Pos}{KK:ZY}(ho:SE X o ta)(ha:SA X [e] t)(hbase:abf o "extend" X.env (eval o X.env)=eval o X.env:=by rfl)(hline:(apos.endLine == pos.line)=true:=by rfl)(hK:X.K=KK:=by first | exact bz | rfl) :
   SE X (.Call (.Attribute o "extend" apos) [e] [] pos) (Gr KK "list" wM ta t):=by
 subst hK
 exact Nx abh PySem.F.slot_list_extend PySem.F.type_list_extend ⟨yB⟩ ho ha hbase hline
theorem KR {f:Expr}{tf:TE}{apos:Pos}(hu:X.A.units + 1 < cLine)(ho:SE X o ta)(he:SE X e te)(hf:SE X f tf)(m:M2 X o "get" apos e f pos:=by exact ⟨rfl,rfl,rfl,rfl⟩):SE X (.Call (.Attribute o "get" apos) [e,f] [] pos) (Cq ta te tf):=⟨BD hu ho.h he.h hf.h m⟩
theorem CD {Sr:Expr}{body:List Stmt}{UE:TT}{u1:TS}(hcn:ST X Sr UE)(hb:SL X body u1)(hp:PassesOwn (model X.prog X.w) X.A X.env X.xe:=by exact adV):SS X (.While Sr body [] pos) (Cw UE u1):=⟨BO hp hcn.h hb.h⟩
end
end L3
namespace L2
open PySem PySem.Spec PyProof.Rows
abbrev NI:=Key ⊕ List Key
section
variable (P:Program)(w:World)
def lB (h:Heap):NI->Value->Prop
 | .inl k,v=>(aO P w).is k v=true
 | .inr ks,v=>∃b,v=.ref b/\IsTupleKey (aO P w) h ks b
def iV:NI->Int
 | .inl k=>(aO P w).hash k
 | .inr ks=>tupleKeyHash (aO P w) ks
def wA:NI->Nat
 | .inl _=>1
 | .inr ks=>ks.length + 1
def fu (ks:List NI):Nat:=(ks.map wA).sum
def cH (sh:List Bool)(h:Heap)(ks:List NI)(a:Addr):Prop:=
 ks.map aba=sh/\∃ob its n,h.get? a=some ob/\ob.cls=.type "tuple"/\ob.data=.seq its n/\Paired (lB P w h) ks its.toList
def rV (ks:List NI):Int:=reduceHash (aaV (ks.map (iV P w)))
end
section
variable {P:Program}{w:World}{sh:List Bool}{h h':Heap}{A:Around}{E:Value->Shared->Prop}{s:Shared}
theorem kZ (xs:List NI)(x:NI):fu (xs++[x])=fu xs + wA x:=by
 unfold fu
 rw [Z5,acs]
 simp
theorem cH.zh {ks:List NI}{a:Addr}(x:cH P w sh s.heap ks a):s.TypeIs (.ref a) "tuple":=by
 obtain ⟨_,ob,_,_,e,c,_⟩:=x
 exact ⟨ob,e,c⟩
theorem AW {x y:NI}{v:Value}(hs:x.isLeft=y.isLeft)(hx:lB P w h x v)(hy:lB P w h y v):x=y:=by
 cases x with
 | inl k=>
   cases y with
   | inl j=>rw [(aO P w).inj v k j hx hy]
   | inr js=>simp at hs
 | inr ks=>
   cases y with
   | inl j=>simp at hs
   | inr js=>
     obtain ⟨b,rfl,hb⟩:=hx
     obtain ⟨c,e,hc⟩:=hy
     cases e
     rw [hb.inj hc]
theorem wB:∀{xs ys:List NI} {vs:List Value},xs.map aba=ys.map aba->Paired (lB P w h) xs vs->Paired (lB P w h) ys vs->xs=ys
 | _,_,_,_,.nil,.nil=>rfl
 | _,_,_,hs,.cons p q,.cons p' q'=>by
   simp only [aaw,acU] at hs
   rw [AW hs.1 p p',wB hs.2 q q']
theorem cH.uniq {xs ys:List NI}{a:Addr}(hx:cH P w sh h xs a)(hy:cH P w sh h ys a):xs=ys:=by
 obtain ⟨e1,ob,its,n,g1,_,d1,p1⟩:=hx
 obtain ⟨e2,ZH,its',n',g2,_,d2,p2⟩:=hy
 rw [g1] at g2
 cases g2
 rw [d1] at d2
 injection d2 with z _
 subst z
 exact wB (e1.trans e2.symm) p1 p2
theorem cH.stays {ks:List NI}{a d:Addr}{ob:Obj}{es ep}(x:cH P w sh h ks a)(g:h.get? d=some ob)(dd:ob.data=.dict es ep)(sb:aaH d h h'):cH P w sh h' ks a:=by
 obtain ⟨e1,o2,its,n,g2,c2,d2,p2⟩:=x
 have ne:a≠d:=fun z=>by
   subst z
   rw [g] at g2
   cases g2
   rw [dd] at d2
   cases d2
 refine ⟨e1,o2,its,n,(sb.2 a ne).trans g2,c2,d2,Paired.aZ p2 fun i v z=>?_⟩
 cases i with
 | inl k=>exact z
 | inr js=>
   obtain ⟨b,e,q⟩:=z
   exact ⟨b,e,q.keeps g dd sb⟩
theorem yg {ks:List NI}{a:Addr}{Q:Int->Shared->Prop}(hu:A.units + 1 < cLine)(hk:cH P w sh s.heap ks a)(fin:Q (rV P w ks) { s with toks:=s.toks + (fu ks + 1) }) :
   wpAny (model P w) A (pyHash (.ref a)) Q E s:=by
 have ty:=hk.zh
 obtain ⟨_,ob,its,n,g,_,dd,pr⟩:=hk
 unfold pyHash pyHashByItsType
 refine wpAny_bind (wpAny_cRoomFor_or (.inr (Nat.lt_of_succ_lt hu)) ?_)
 refine wpAny_bind (wpAny_specialOf ty F.slot_tuple_hash.lookup ?_)
 show wpAny _ _ (ite ((some (acf "tuple.__hash__") == some acT)=true) _ _) Q E s
 rw [if_neg (fun z=>by rw [beq_builtin_none] at z; cases z)]
 refine wpAny_bind (wpAny_specialOf ty F.slot_tuple_hash.lookup ?_)
 show wpAny _ _ (acz (callSpecialIfBoundUnlessNone? (.ref a) "__hash__" _) _) Q E s
 refine wpAny_bind (wpAny_callSpecialIfBoundUnlessNone?_slot ty F.slot_tuple_hash (wpAny_call_entry F.slot_tuple_hash ty F.entry_tuple_hash ?_ (F.args_tuple_hash_1 _)))
 show wpAny _ _ (acz (acG (.ref a)) _) _ _ s
 refine wpAny_bind (wpAny_tupleItemsOf g dd ?_)
 refine wpAny_bind ?_
 rw [← abE]
 refine ab2 _
   (fun rest (b:Array Int) s'=>∃done left,ks=done++left/\Paired (lB P w s.heap) left rest/\b.toList=done.map (iV P w)/\s'={ s with toks:=s.toks + fu done })
   _ ?_ ?_ _ _ ⟨[],ks,rfl,pr,rfl,rfl⟩
 · rintro x rest b s' ⟨done,left,rfl,hl,hb,rfl⟩
   cases hl with
   | @cons k _ X0 _ h1 PJ=>
     have go:∀(A':Around) (E':Value->Shared->Prop),A'.units < cLine->wpAny (model P w) A' (pyHash x) (fun i s2=>i=iV P w k/\s2={ s with toks:=s.toks + fu (done++[k]) }) E' { s with toks:=s.toks + fu done }:=by
       intro A' E' XD
       cases k with
       | inl k=>exact (aO P w).pyHash h1 ⟨rfl,by rw [kZ]; rfl⟩
       | inr js=>
         obtain ⟨c,rfl,hc⟩:=h1
         exact wpAny_pyHash_tuple (s:={ s with toks:=s.toks + fu done }) XD hc ⟨rfl,by rw [kZ]; exact congrArg (fun t=>({ s with toks:=t }:Shared)) (Nat.add_assoc _ _ _)⟩
     refine wpAny_bind (bt (go _ _ hu) fun i s2 z=>?_)
     obtain ⟨rfl,rfl⟩:=z
     exact wpAny_pure ⟨done++[k],X0,by simp,PJ,by simp [hb],rfl⟩
 · rintro b s' ⟨done,left,rfl,hl,hb,rfl⟩
   cases hl
   rw [aax] at fin
   show wpAny _ _ (retInt (aaV b.toList)) _ _ _
   rw [hb]
   refine wpAny_ret_mkInt ?_
   unfold rV reduceHash at fin
   rw [← Nat.add_assoc] at fin
   show wpAny _ _ (ite ((decide (-(2:Int) ^ 63<=aaV (done.map (iV P w))) && decide (aaV (done.map (iV P w)) < 2 ^ 63))=true) _ _) Q E _
   by_cases z:(decide (-(2:Int) ^ 63<=aaV (done.map (iV P w))) && decide (aaV (done.map (iV P w)) < 2 ^ 63))=true
   · rw [if_pos z] at fin ⊢
     exact wpAny_pure fin
   · rw [if_neg z] at fin ⊢
     exact wpAny_bind (wpAny_rule (wpAny_pure fin))
theorem DX {x y:NI}{u v:Value}{Q:Bool->Shared->Prop}(hu:A.units < cLine)(hs:x.isLeft=y.isLeft)(hx:lB P w s.heap x u)(hy:lB P w s.heap y v)(fin:Q (decide (x=y)) s):wpAny (model P w) A (eqBool u v) Q E s:=by
 cases x with
 | inl k=>
   cases y with
   | inl j=>
     refine (aO P w).eqBool hx hy ?_
     have e:decide (k=j)=decide ((Sum.inl k:NI)=.inl j):=by simp
     rw [e]
     exact fin
   | inr js=>simp at hs
 | inr ks=>
   cases y with
   | inl j=>simp at hs
   | inr js=>
     obtain ⟨b,rfl,hb⟩:=hx
     obtain ⟨c,rfl,hc⟩:=hy
     refine wpAny_eqBool_tuple hu hb hc ?_
     have e:decide (ks=js)=decide ((Sum.inr ks:NI)=.inr js):=by simp
     rw [e]
     exact fin
theorem Dr {xs ys:List NI}{a b:Addr}{Pf:Fin->Shared->Prop}(hu:A.units < cLine)(hx:cH P w sh s.heap xs a)(hy:cH P w sh s.heap ys b)(fin:Pf (.done (.ret (.bool (decide (xs=ys))))) s) :
   wpAny (model P w) A (Builtin.«tuple.__eq__» ⟨[.ref a,.ref b],[]⟩) Pf E s:=by
 have tb:=hy.zh
 obtain ⟨e1,oa,us,na,ga,_,da,pa⟩:=hx
 obtain ⟨e2,ob,vs,nb,gb,_,db,pb⟩:=hy
 show wpAny _ _ (acz (isInstance (.ref b) (.type "tuple")) _) _ _ s
 refine wpAny_bind (wpAny_isInstance tb acJ ?_)
 simp only [abH,aaQ,if_false]
 refine wpAny_bind (wpAny_tupleItemsOf ga da ?_)
 refine wpAny_bind (wpAny_tupleItemsOf gb db ?_)
 refine wpAny_bind ?_
 have l1:=Paired.length pa
 have l2:=Paired.length pb
 have l3:xs.length=ys.length:=by have:=congrArg abD (e1.trans e2.symm); simpa using this
 refine ab2 _
   (fun rest r s2=>r.1=none/\s2=s/\∃x' y' u' v',rest=List.zip u' v'/\x'.map aba=y'.map aba/\Paired (lB P w s.heap) x' u'/\Paired (lB P w s.heap) y' v'/\decide (x'=y')=decide (xs=ys))
   _ ?_ ?_ _ _ ⟨rfl,rfl,xs,ys,us.toList,vs.toList,rfl,e1.trans e2.symm,pa,pb,rfl⟩
 · rintro ⟨u,v⟩ rest r s2 ⟨hr,rfl,x',y',u',v',hz,hs,CU,N0,hd⟩
   cases CU with
   | nil=>simp at hz
   | @cons k1 u1 x2 u2 h1 yp=>
     cases N0 with
     | nil=>simp at hz
     | @cons k2 v1 y2 v2 h2 Qz=>
       simp only [List.zip_cons_cons,acU,Prod.mk.injEq] at hz
       obtain ⟨⟨rfl,rfl⟩,rfl⟩:=hz
       simp only [aaw,acU] at hs
       refine wpAny_bind (DX hu hs.1 h1 h2 ?_)
       by_cases hk:k1=k2
       · subst hk
         rw [decide_eq_true rfl]
         simp only [abH,aaQ,if_false]
         refine wpAny_pure ⟨rfl,rfl,x2,y2,u2,v2,rfl,hs.2,yp,Qz,?_⟩
         rw [← hd]
         simp
       · rw [decide_eq_false hk]
         simp only [Bool.not_false,if_true]
         have hf:decide (xs=ys)=false:=by rw [← hd]; simp [hk]
         rw [hf] at fin
         exact wpAny_bind (wpAny_pure (wpAny_pure (wpAny_pure fin)))
 · rintro ⟨r1,r2⟩ s2 ⟨hr,rfl,x',y',u',v',hz,hs,CU,N0,hd⟩
   simp only at hr
   subst hr
   refine wpAny_pure ?_
   have e3:(us.size == vs.size)=true:=by
     rw [beq_iff_eq,← abj,← abj]
     omega
   have e4:decide (xs=ys)=true:=by
     rw [← hd]
     cases CU with
     | nil=>
       cases N0 with
       | nil=>rfl
       | cons _ _=>simp at hs
     | cons _ _=>
       cases N0 with
       | nil=>simp at hs
       | cons _ _=>simp at hz
   show Pf (.done (.ret (.bool (us.size == vs.size)))) s2
   rw [e3,← e4]
   exact fin
theorem zY {xs ys:List NI}{a b:Addr}{Q:Bool->Shared->Prop}(hu:A.units + 1 < cLine)(hx:cH P w sh s.heap xs a)(hy:cH P w sh s.heap ys b)(fin:Q (decide (xs=ys)) s) :
   wpAny (model P w) A (eqBool (.ref a) (.ref b)) Q E s:=by
 unfold eqBool
 refine wpAny_holding ?_
 show wpAny _ _ (ite ((aal a == aal b)=true) _ _) Q E s
 by_cases ab:(aal a == aal b)=true
 · rw [if_pos ab]
   have e:=eq_of_beq ab
   cases e
   obtain rfl:=hx.uniq hy
   exact wpAny_bind (wpAny_rule (wpAny_pure (by simpa using fin)))
 · rw [if_neg ab]
   exact wpAny_bind (wpAny_richCompare_same_room (op:=.Eq) hx.zh hy.zh F.slot_tuple_eq
     (wpAny_call_entry F.slot_tuple_eq hx.zh F.entry_tuple_eq (Dr hu hx hy ⟨_,rfl,(fun z=>nomatch z),wpAny_truthy_bool fin⟩) (F.args_tuple_eq_2 _ _)) (Nat.lt_of_succ_lt hu))
theorem u9 {m:Nat}{ks:List Key}{a:Addr}{Q:Bool->Shared->Prop}(hk:IsTupleKey (aO P w) s.heap ks a)(fin:Q true s):wpAny (model P w) A (eqIsQuiet (m + 1) (.ref a)) Q E s:=by
 have ty:=hk.typeIs
 obtain ⟨ob,its,n,g,_,dd,hi⟩:=hk
 unfold eqIsQuiet
 refine wpAny_bind (wpAny_specialOf ty F.slot_tuple_eq.lookup ?_)
 show wpAny _ _ (acz (isInstance (.ref a) (.type "tuple")) _) _ _ s
 refine wpAny_bind (wpAny_isInstance ty acJ ?_)
 simp only [abH,aaQ,if_false]
 refine wpAny_bind (wpAny_seqItems g dd ?_)
 refine wpAny_bind ?_
 show wpAny _ _ (forIn its _ _) _ _ s
 rw [← abE]
 refine ab2 _ (fun rest r s2=>r.1=none/\s2=s/\∀v∈rest,carriedByValue v=true) _ ?_ ?_ _ _ ⟨rfl,rfl,hi.byValue⟩
 · rintro v rest r s2 ⟨hr,rfl,all⟩
   rw [eqIsQuiet_byValue _ (all v aa6)]
   refine wpAny_bind (wpAny_pure ?_)
   simp only [abH,aaQ,if_false]
   exact wpAny_pure ⟨rfl,rfl,fun u hu=>all u (aaK _ hu)⟩
 · rintro ⟨r1,r2⟩ s2 ⟨hr,rfl,_⟩
   simp only at hr
   subst hr
   exact wpAny_pure fin
theorem ve {ks:List NI}{a:Addr}{Q:Bool->Shared->Prop}(hk:cH P w sh s.heap ks a)(fin:Q true s):wpAny (model P w) A (eqIsQuiet 8 (.ref a)) Q E s:=by
 have ty:=hk.zh
 obtain ⟨_,ob,its,n,g,_,dd,pr⟩:=hk
 unfold eqIsQuiet
 refine wpAny_bind (wpAny_specialOf ty F.slot_tuple_eq.lookup ?_)
 show wpAny _ _ (acz (isInstance (.ref a) (.type "tuple")) _) _ _ s
 refine wpAny_bind (wpAny_isInstance ty acJ ?_)
 simp only [abH,aaQ,if_false]
 refine wpAny_bind (wpAny_seqItems g dd ?_)
 refine wpAny_bind ?_
 show wpAny _ _ (forIn its _ _) _ _ s
 rw [← abE]
 refine ab2 _ (fun rest r s2=>r.1=none/\s2=s/\∃left,Paired (lB P w s.heap) left rest) _ ?_ ?_ _ _ ⟨rfl,rfl,_,pr⟩
 · rintro v rest r s2 ⟨hr,rfl,left,pl⟩
   cases pl with
   | @cons k _ LV _ h1 h2=>
     have go:wpAny (model P w) A (eqIsQuiet 7 v) (fun b s3=>b=true/\s3=s2) E s2:=by
       cases k with
       | inl k=>
         rw [eqIsQuiet_byValue _ ((aO P w).byValue _ _ h1)]
         exact wpAny_pure ⟨rfl,rfl⟩
       | inr js=>
         obtain ⟨c,rfl,hc⟩:=h1
         exact u9 hc ⟨rfl,rfl⟩
     refine wpAny_bind (bt go fun b s3 z=>?_)
     obtain ⟨rfl,rfl⟩:=z
     simp only [abH,aaQ,if_false]
     exact wpAny_pure ⟨rfl,rfl,LV,h2⟩
 · rintro ⟨r1,r2⟩ s2 ⟨hr,rfl,_⟩
   simp only at hr
   subst hr
   exact wpAny_pure fin
def jF (P:Program)(w:World)(sh:List Bool):HeapKind P w (List NI) where
 is:=cH P w sh
 hash:=rV P w
 draws:=fun ks=>fu ks + 1
 room:=fun A=>A.units + 1 < cLine
 inj:=fun hx hy=>hx.uniq hy
 keeps:=fun x g d sb=>x.stays g d sb
 pyHash:=fun hu hk fin=>yg hu hk fin
 eqBool:=fun hu hx hy fin=>zY hu hx hy fin
 quiet:=fun hk fin=>ve hk fin
theorem kJ (hu:A.units + 2 < cLine):(jF P w sh).room A.in1:=hu
end
abbrev vP:=List (List NI×Addr×V)
abbrev tH:vP->List (List NI×Addr×Value)->Prop:=Paired fun p q=>p.1=q.1/\p.2.1=q.2.1/\RelV p.2.2 q.2.2
def US (P:Program)(w:World)(d:Addr)(kvs:vP):Heap->Prop:=fun h=>∃xs,tH kvs xs/\∃o es ep,h.get? d=some o/\o.ExactDict/\o.data=.dict es ep/\es.toList=xs.map fun x=>⟨rV P w x.1,.ref x.2.1,x.2.2⟩
def DN (P:Program)(w:World)(d:Addr)(kvs:vP):HO:=.ext (US P w d kvs)
def TL (H:Hp):NI->V->Prop
 | .inl k,v=>v=kV k
 | .inr ks,v=>∃c,v=.ref c/\H c=some (.tup (ks.map kV))
def dY (H:Hp)(b:Addr)(ks:List NI):Prop:=∃us,H b=some (.tup us)/\Paired (TL H) ks us
structure ND (P:Program)(w:World)(sh:List Bool)(H:Hp)(d:Addr)(kvs:vP):Prop where
 at_:H d=some (DN P w d kvs)
 len:kvs.length<=sizeLine
 nd:(kvs.map (·.1)).Nodup
 keys:∀p∈kvs,dY H p.2.1 p.1/\p.1.map aba=sh
 main:(d == abc)=false
def valN (kvs:vP)(k:List NI):Option V:=(kvs.find? fun p=>decide (p.1=k)).map (·.2.2)
theorem dY.keep {H H':Hp}{b:Addr}{ks:List NI}(h:dY H b ks)(ht:∀b us,H b=some (.tup us)->H' b=some (.tup us)):dY H' b ks:=by
 obtain ⟨us,e,p⟩:=h
 refine ⟨us,ht _ _ e,Paired.aZ p fun i v z=>?_⟩
 cases i with
 | inl k=>exact z
 | inr js=>
   obtain ⟨c,ec,hc⟩:=z
   exact ⟨c,ec,ht _ _ hc⟩
section
variable {P:Program}{w:World}{sh:List Bool}{H H':Hp}{h h':Heap}{d:Addr}{kvs:vP}
theorem ND.keep (x:ND P w sh H d kvs)(hd:H' d=some (DN P w d kvs))(ht:∀b us,H b=some (.tup us)->H' b=some (.tup us)):ND P w sh H' d kvs:=
 ⟨hd,x.len,x.nd,fun p hp=>⟨(x.keys p hp).1.keep ht,(x.keys p hp).2⟩,x.main⟩
theorem zi {k:List NI}(e:valN kvs k=none):k ∉ kvs.map (·.1):=by
 intro hm
 obtain ⟨p,hp,rfl⟩:=List.mem_map.mp hm
 unfold valN at e
 rw [Option.map_eq_none_iff,List.find?_eq_none] at e
 exact e p hp (decide_eq_true rfl)
theorem ND.put {b:Addr}{ks:List NI}{v:V}(x:ND P w sh H d kvs)(kb:dY H b ks)(hs:ks.map aba=sh)(no:valN kvs ks=none)(hl:kvs.length < sizeLine) :
   ND P w sh (upd H d (DN P w d (kvs++[(ks,b,v)]))) d (kvs++[(ks,b,v)]):=by
 have ht:∀c us,H c=some (.tup us)->(upd H d (DN P w d (kvs++[(ks,b,v)]))) c=some (.tup us):=fun c us e=>by
   rw [aj (fH e x.at_ (fun z=>nomatch z))]
   exact e
 refine ⟨ae,by rw [Z0]; exact hl,?_,fun p hp=>?_,x.main⟩
 · rw [Z5]
   refine wD x.nd ?_
   exact zi no
 · rcases List.mem_append.mp hp with z | z
   · exact ⟨(x.keys p z).1.keep ht,(x.keys p z).2⟩
   · obtain rfl:p=(ks,b,v):=by simpa using z
     exact ⟨kb.keep ht,hs⟩
theorem jz {b:Addr}{ks:List NI}(ok:fT P w H h)(kb:dY H b ks)(hs:ks.map aba=sh):(jF P w sh).is h ks b:=by
 obtain ⟨us,e,p⟩:=kb
 obtain ⟨_,its,r,o,h1,h2,n,h3⟩:=(show bp P w H h b (.tup us) from ok b _ e)
 refine ⟨hs,o,its.toArray,n,h1,h2,h3,?_⟩
 have go:∀{ks:List NI} {us:List V} {its:List Value},Paired (TL H) ks us->Vals us its->Paired (lB P w h) ks its:=by
   intro ks us its p
   induction p generalizing its with
   | nil=>intro r; cases r; exact .nil
   | @cons i v _ _ q _ ih=>
     intro r
     cases r with
     | cons a b=>
       refine .cons ?_ (ih b)
       cases i with
       | inl k=>subst q; exact jy a
       | inr js=>
         obtain ⟨c,rfl,hc⟩:=q
         cases a
         exact ⟨c,rfl,iX ok hc⟩
 exact go p r
theorem tH.val {kvs:vP}{xs:List (List NI×Addr×Value)}(r:tH kvs xs)(k:List NI):iz (valN kvs k) ((atKey xs k).map (·.2)):=by
 induction r with
 | nil=>exact aat
 | @cons p q _ _ z t ih=>
   unfold valN atKey at ih ⊢
   rw [abg,abg,← z.1]
   by_cases e:p.1=k
   · rw [decide_eq_true e]
     exact z.2.2
   · rw [decide_eq_false e]
     exact ih
theorem eP (ok:fT P w H h)(x:ND P w sh H d kvs):∃xs,tH kvs xs/\h.DictOfH (jF P w sh) d xs:=by
 obtain ⟨⟨xs,r,o,es,ep,h1,h2,h3,h4⟩,_,_⟩:=(show bp P w H h d (DN P w d kvs) from ok d _ x.at_)
 refine ⟨xs,r,o,es,ep,h1,h2,h3,h4,fun q hq=>?_,?_⟩
 · have all:∀{l:vP} {m:List (List NI×Addr×Value)},tH l m->(∀p∈l,dY H p.2.1 p.1/\p.1.map aba=sh)->∀q∈m,(jF P w sh).is h q.1 q.2.1:=by
     intro l m z
     induction z with
     | nil=>intro _ q hq; exact nomatch hq
     | @cons p q0 _ _ zz t ih=>
       intro hk q hq
       rcases List.mem_cons.mp hq with e | hq
       · subst e
         obtain ⟨k1,k2⟩:=hk p aa6
         rw [← zz.1,← zz.2.1]
         exact jz ok k1 k2
       · exact ih (fun p hp=>hk p (aaK _ hp)) q hq
   exact all r x.keys q hq
 · have e:xs.map (·.1)=kvs.map (·.1):=by
     have go:∀{l:vP} {m:List (List NI×Addr×Value)},tH l m->m.map (·.1)=l.map (·.1):=by
       intro l m z
       induction z with
       | nil=>rfl
       | cons a _ ih=>rw [aaw,aaw,ih,a.1]
     exact go r
   rw [e]
   exact x.nd
theorem Fw {H2:Hp}{xs:List (List NI×Addr×Value)}(r:tH kvs xs){o:Obj}{es ep}(h1:h.get? d=some o)(h2:o.ExactDict)(h3:o.data=.dict es ep)(h4:es.toList=xs.map fun x=>⟨rV P w x.1,.ref x.2.1,x.2.2⟩):bp P w H2 h d (DN P w d kvs):=by
 refine ⟨⟨xs,r,o,es,ep,h1,h2,h3,h4⟩,⟨o,h1⟩,fun g1 g2 x k=>?_⟩
 obtain ⟨ys,r',o',K0,ep',k1,k2,k3,k4⟩:=x
 exact ⟨ys,r',o',K0,ep',k _ k1,k2,k3,k4⟩
end
section
variable {X:Cx}{pins:List (Addr×Obj)}{σ:St}{H:Hp}{s:Shared}{d b:Addr}{sh:List Bool}{kvs:vP}{ks:List NI}{v:V}{A:Around}{E:Value->Shared->Prop}
theorem D7 {Q:Value->Shared->Prop}(hu:A.units + 2 < cLine)(I:Inv X pins σ H s)(x:ND X.prog X.w sh H d kvs)(kb:dY H b ks)(hs:ks.map aba=sh)(fin:∀s2,Inv X pins σ H s2->Q (.bool (!(valN kvs ks).isSome)) s2) :
   wpAny (model X.prog X.w) A (compareOp .NotIn (.ref b) (.ref d)) Q E s:=by
 obtain ⟨xs,r,dd⟩:=eP I.hok x
 refine wpAny_notIn_heap (kJ hu) (jz I.hok kb hs) x.main dd ?_
 have q:=(r.val ks).eT
 rw [ab6] at q
 rw [← q]
 exact fin _ (I.tok _)
theorem L0 {Q:Value->Shared->Prop}(hu:A.units + 2 < cLine)(I:Inv X pins σ H s)(x:ND X.prog X.w sh H d kvs)(kb:dY H b ks)(hs:ks.map aba=sh)(hv:valN kvs ks=some v)(fin:∀u s2,Inv X pins σ H s2->RelV v u->Q u s2) :
   wpAny (model X.prog X.w) A (getItem (.ref d) (.ref b)) Q E s:=by
 obtain ⟨xs,r,dd⟩:=eP I.hok x
 obtain ⟨u,Qv,ru⟩:=iz.some_of (v:=v) (o:=(atKey xs ks).map (·.2)) (by rw [← hv]; exact r.val ks)
 obtain ⟨p,hp,cb⟩:=Option.map_eq_some_iff.mp Qv
 refine wpAny_getItem_heap (kJ hu) (jz I.hok kb hs) dd hp ?_
 rw [cb]
 exact fin u _ (I.tok _) ru
theorem L4 {r:Value}{Q:Unit->Shared->Prop}(hu:A.units + 2 < cLine)(I:Inv X pins σ H s)(x:ND X.prog X.w sh H d kvs)(kb:dY H b ks)(hs:ks.map aba=sh)(no:valN kvs ks=none)(rv:RelV v r)(fin:∀s2,Inv X pins σ (upd H d (DN X.prog X.w d (kvs++[(ks,b,v)]))) s2->Q () s2) :
   wpAny (model X.prog X.w) A (setItem (.ref d) (.ref b) r) Q E s:=by
 obtain ⟨xs,rel,dd⟩:=eP I.hok x
 have hz:xs.length<=sizeLine:=by rw [← Paired.length rel]; exact x.len
 have e:atKey xs ks=none:=by
   have q:=(rel.val ks).eT
   rw [no,ab6] at q
   cases z:atKey xs ks with
   | none=>rfl
   | some p=>rw [z] at q; cases q
 refine wpAny_setItem_heap (hsz:=hz) (kJ hu) (jz I.hok kb hs) dd fun h' oi pW=>fin _ ?_
 obtain ⟨q,es,ep,hq,h2,h3,h4,_,h5⟩:=oi
 rw [storedH_new e] at h4
 refine eA I (by rw [x.at_]; exact aat) pW ⟨q,hq⟩ (Fw (Paired.snoc rel ⟨rfl,rfl,rv⟩) hq h2 h3 h4)
theorem L1 {Q:Value->Shared->Prop}(I:Inv X pins σ H s)(x:ND X.prog X.w sh H d kvs)(fin:∀t s2,Inv X pins σ H s2->Q (.int kvs.length t) s2):wpAny (model X.prog X.w) A (call (.builtin "len") [.ref d]) Q E s:=by
 obtain ⟨xs,rel,dd⟩:=eP I.hok x
 have ty:=dd.typeIs
 obtain ⟨o,es,ep,h1,_,h3,h4,_⟩:=dd
 have hl:es.size=kvs.length:=by rw [← abj,h4,ZX,Paired.length rel]
 have hk:=x.len
 refine Calls.call_function_entry kind_len plain_len entry_len (args_len1 _) ?_
 unfold Builtin.«len»
 refine wpAny_bind (m:=oneArg "len" _) (wpAny_pure ?_)
 refine wpAny_bind (m:=callSpecial? (.ref d) (aa4 "__len__")) (aaO (name:=aa4 "__len__") ty F.slot_dict_len (wpAny_call_entry F.slot_dict_len ty F.entry_dict_len ?_ (F.args_dict_len_1 _)))
 show wpAny _ _ (acz (dictSize d) _) _ _ s
 unfold dictSize
 refine wpAny_bind (wpAny_bind (wpAny_dictEntries h1 h3 (wpAny_pure ?_)))
 show wpAny _ _ (acz (Builtin.Dict.pendingCount d) _) _ _ s
 refine wpAny_bind (wpAny_pendingCount_other x.main ?_)
 refine wpAny_ret_mkInt ?_
 have hc:(es.size:Int) < 2 ^ 63:=by rw [hl]; exact acV (Int.ofNat_le.mpr hk) (by decide)
 have e0:(es.size:Int) + ((0:Nat):Int)=kvs.length:=by rw [hl]; exact Int.add_zero _
 rw [e0]
 refine wpAny_bind (wpAny_holding (wpAny_pure ?_))
 refine wpAny_bind (wpAny_letGo ?_)
 show wpAny _ _ (ite ((kvs.length:Int) < 0) _ _) _ _ _
 rw [if_neg (Int.not_lt.mpr (Int.natCast_nonneg _))]
 show wpAny _ _ (ite ((kvs.length:Int) ≥ 2 ^ 63) _ _) _ _ _
 rw [if_neg (fun z=>by rw [hl] at hc; exact absurd hc (Int.not_lt.mpr z))]
 exact wpAny_bind (wpAny_mkInt (wpAny_pure ⟨_,rfl,fin _ _ ((I.tok _).tok _)⟩))
def xl (P:Program)(w:World)(ty td:TE):TE:=fun σ H Q=>ty σ H fun y H1=>td σ H1 fun x H2=>∃d b sh kvs ks,x=.ref d/\y=.ref b/\ND P w sh H2 d kvs/\dY H2 b ks/\ks.map aba=sh/\Q (.bl (!(valN kvs ks).isSome)) H2
def Gw (P:Program)(w:World)(td ty:TE):TE:=fun σ H Q=>td σ H fun x H1=>ty σ H1 fun y H2=>∃d b sh kvs ks v,x=.ref d/\y=.ref b/\ND P w sh H2 d kvs/\dY H2 b ks/\ks.map aba=sh/\valN kvs ks=some v/\Q v H2
def Gi (P:Program)(w:World)(td ty tv:TE):TS:=fun D σ H=>tv σ H fun v H1=>td σ H1 fun x H2=>ty σ H2 fun y H3=>∃d b sh kvs ks,x=.ref d/\y=.ref b/\ND P w sh H3 d kvs/\dY H3 b ks/\ks.map aba=sh/\valN kvs ks=none/\D.nx σ (upd H3 d (DN P w d (kvs++[(ks,b,v)])))
def Cs (P:Program)(w:World):TE:=fun _ H Q=>∀p,H p=none->(p == abc)=false->Q (.ref p) (upd H p (DN P w p []))
section
variable {o i e value:Expr}{pos pos':Pos}{td ty tv:TE}
theorem BF:PE X (.Dict [] [] pos) (Cs X.prog X.w):=fun pins s σ H Q I h=>
 wpAny_Dict_empty ⟨.ref s.heap.objs.size,_,I.laid (a:=s.heap.objs.size) (o:=DN X.prog X.w s.heap.objs.size []) (t':=s.toks) (fun _ _ q=>Z4 _ q) (Z3 _) (Fw (xs:=[]) .nil (aas _ rfl) ⟨rfl,rfl,rfl⟩ rfl rfl),rfl,
   h _ (I.hok.fresh (Z3 _)) (beq_eq_false_iff_ne.mpr (Ne.symm (aay I.big)))⟩
theorem EG (hu:X.A.units + 2 < cLine)(ho:PE X o td)(hi:PE X i ty)(hs:zD i):PE X (.Subscript o i pos) (Gw X.prog X.w td ty):=by
 intro pins s σ H Q I h
 refine xk PySem.F.slot_dict_getitem.lookup hs (bt (ho pins s σ H _ I h) fun u s1 ⟨x,H1,I1,rx,q1⟩=>bt (hi pins s1 σ H1 _ I1 q1) fun iv s2 ⟨y,H2,I2,ry,d,b,sh,kvs,ks,v,ex,ey,n,kb,FR,hv,q2⟩=>?_)
 subst ex ey
 cases rx
 cases ry
 obtain ⟨xs,_,dd⟩:=eP I2.hok n
 exact ⟨dd.typeIs,L0 hu I2 n kb FR hv fun w' s3 I3 rw'=>⟨v,H2,I3,rw',q2⟩⟩
theorem yV (hu:X.A.units + 2 < cLine)(hi:PE X i ty)(ho:PE X o td):PC X .NotIn i o (xl X.prog X.w ty td):=by
 intro pins s σ H Q I h
 refine bt (hi pins s σ H _ I h) fun iv s1 ⟨y,H1,I1,ry,q1⟩=>bt (ho pins s1 σ H1 _ I1 q1) fun u s2 ⟨x,H2,I2,rx,d,b,sh,kvs,ks,ex,ey,n,kb,FR,q2⟩=>?_
 subst ex ey
 cases rx
 cases ry
 exact D7 hu I2 n kb FR fun s3 I3=>⟨.bl (!(valN kvs ks).isSome),H2,I3,rfl,q2⟩
theorem EO (hu:X.A.units + 2 < cLine)(ho:PE X o td)(hi:PE X i ty)(hv:PE X value tv)(hs:abN value (some (.Subscript o i pos')) pos.line X.env=pure false) :
   PS X (.Assign [.Subscript o i pos'] value pos) (Gi X.prog X.w td ty tv):=by
 intro pins s σ H D I h
 refine wpAny_Assign_Subscript (bt (hv pins s σ H _ I h) fun r s1 ⟨v,H1,I1,rv,q1⟩=>bt (ho pins s1 σ H1 _ I1 q1) fun u s2 ⟨x,H2,I2,rx,q2⟩=>bt (hi pins s2 σ H2 _ I2 q2) fun iv s3 ⟨y,H3,I3,ry,d,b,sh,kvs,ks,ex,ey,n,kb,FR,no,q3⟩=>?_) hs
 subst ex ey
 cases rx
 cases ry
 exact L4 hu I3 n kb FR no rv fun s4 I4=>⟨σ,_,I4,q3⟩
theorem xw:dB X (.builtin "len") (fun xs H Q=>∃d sh kvs,xs=[V.ref d]/\ND X.prog X.w sh H d kvs/\Q (.int kvs.length) H):=by
 intro pins s σ H xs us Q I r h
 obtain ⟨d,sh,kvs,rfl,n,q⟩:=h
 obtain ⟨u,rfl,ru⟩:=vals1 r
 cases ru
 exact L1 I n fun t s' I'=>⟨.int kvs.length,H,I',⟨t,rfl⟩,q⟩
end
end
end L2
namespace L3
open PySem PySem.Spec PyProof.Rows L2
section
variable {X:Cx}{a b c e o:Expr}{es:List Expr}{ta tb tc te:TE}{t:TA}{pos pos':Pos}{P:Program}{w:World}
theorem Fx (hP:X.prog=P:=by rfl)(hw:X.w=w:=by rfl):SE X (.Dict [] [] pos) (Cs P w):=by
 subst hP hw
 exact ⟨BF⟩
theorem QU (hu:X.A.units + 2 < cLine)(ho:SE X a ta)(hi:SE X b tb)(hs:zD b:=by exact fun _ _=>rfl)(hP:X.prog=P:=by rfl)(hw:X.w=w:=by rfl):SE X (.Subscript a b pos) (Gw P w ta tb):=by
 subst hP hw
 exact ⟨EG hu ho.h hi.h hs⟩
theorem Ih (hu:X.A.units + 2 < cLine)(hi:SE X a ta)(ho:SE X b tb)(h1:abe .NotIn b=false:=by first | exact nk _ (by decide) (by decide) | rfl)(hP:X.prog=P:=by rfl)(hw:X.w=w:=by rfl):ST X (.Compare a [.NotIn] [b] pos) (tB (xl P w ta tb)):=by
 subst hP hw
 exact ⟨Jt (yV hu hi.h ho.h) h1⟩
theorem QY (hu:X.A.units + 2 < cLine)(ho:SE X a ta)(hi:SE X b tb)(hv:SE X c tc)(hs:abN c (some (.Subscript a b pos')) pos.line X.env=pure false:=by rfl)(hP:X.prog=P:=by rfl)(hw:X.w=w:=by rfl):SS X (.Assign [.Subscript a b pos'] c pos) (Gi P w ta tb tc):=by
 subst hP hw
 exact ⟨EO hu ho.h hi.h hv.h hs⟩
theorem zM (hP:X.prog=P:=by rfl)(hw:X.w=w:=by rfl):SC X (.builtin "len") (fun xs H Q=>∃d sh kvs,xs=[V.ref d]/\ND P w sh H d kvs/\Q (.int kvs.length) H):=by
 subst hP hw
 exact ⟨xw⟩
theorem lR {KK:ZY}(hK:X.K=KK:=by first | exact bz | rfl):SC X (.type "tuple") (fun xs H Q=>∃p ys,xs=[.ref p]/\ao KK H p ys/\∀l,H l=none->Q (.ref l) (upd H l (.tup ys))):=by
 subst hK
 refine ⟨fun pins s σ H xs us Q I r h=>?_⟩
 obtain ⟨p,ys,e,hq,q⟩:=h
 exact oh pins s σ H xs us Q I r ⟨p,ys,e,.inl ⟨hq,q⟩⟩
theorem KL (hc:X.calm=true:=by rfl):SC X (.builtin "min") (fun xs H Q=>∃i j,xs=[.int i,.int j]/\Q (.int (if j < i then j else i)) H):=⟨xy hc⟩
end
end L3
namespace L2
open PySem PySem.Spec PyProof.Rows
theorem wF {a b p}:bF (.Dict a b p):=fI fun _ _ z=>nomatch z
end L2
namespace L3
open PySem PySem.Spec PyProof.Rows L2
section
variable {X:Cx}{a b c e o:Expr}{es:List Expr}{ta tb tc te:TE}{t:TA}{pos:Pos}
theorem nK {KK:ZY}{p2:Pos}(ha:SE X a ta)(hb:SE X b tb)(hK:X.K=KK:=by first | exact bz | rfl):SE X (.Subscript a (.Slice (some b) none none p2) pos) (Nc (EZ KK) ta (pE tb) mh):=by
 subst hK
 exact ⟨jJ qj ha.h (jK hb.h) qd⟩
end
end L3
namespace TW
section
variable {S:Type}(f:S->Option (List Int×S))
def tr:Nat->S->Option (S×List Int)
 | 0,s=>some (s,[])
 | n + 1,s=>match tr n s with
   | none=>none
   | some z=>match f z.1 with
     | none=>none
     | some r=>some (r.2,z.2++r.1)
variable {f}
theorem qv {n:Nat}{s t u:S}{sd x:List Int}(h:tr f n s=some (t,sd))(hf:f t=some (x,u)):tr f (n + 1) s=some (u,sd++x):=by
 show (match tr f n s with | none=>none | some z=>match f z.1 with | none=>none | some r=>some (r.2,z.2++r.1))=_
 rw [h]
 show (match f t with | none=>none | some r=>some (r.2,sd++r.1))=_
 rw [hf]
theorem xn {n:Nat}{s t:S}{sd:List Int}(h:tr f n s=some (t,sd))(hf:f t=none):tr f (n + 1) s=none:=by
 show (match tr f n s with | none=>none | some z=>match f z.1 with | none=>none | some r=>some (r.2,z.2++r.1))=_
 rw [h]
 show (match f t with | none=>none | some r=>some (r.2,sd++r.1))=_
 rw [hf]
theorem xm {n:Nat}{s:S}(h:tr f n s=none):tr f (n + 1) s=none:=by
 show (match tr f n s with | none=>none | some z=>match f z.1 with | none=>none | some r=>some (r.2,z.2++r.1))=_
 rw [h]
theorem GF {s:S}:∀{n m:Nat} {z:S×List Int},tr f n s=some z->m<=n->∃y,tr f m s=some y/\∃rest,z.2=y.2++rest
 | 0,m,z,h,hm=>by
   obtain rfl:m=0:=by omega
   exact ⟨z,h,[],(aax _).symm⟩
 | n + 1,m,z,h,hm=>by
   by_cases e:m=n + 1
   · subst e
     exact ⟨z,h,[],(aax _).symm⟩
   · cases e1:tr f n s with
     | none=>rw [xm e1] at h; cases h
     | some y=>
       obtain ⟨y2,h2,rest,h3⟩:=GF (n:=n) (m:=m) e1 (by omega)
       cases e2:f y.1 with
       | none=>rw [xn (t:=y.1) (sd:=y.2) e1 e2] at h; cases h
       | some r=>
         rw [qv (t:=y.1) (u:=r.2) (x:=r.1) (sd:=y.2) e1 e2] at h
         cases h
         exact ⟨y2,h2,rest++r.1,by show y.2++r.1=_; rw [h3,ace]⟩
abbrev Rs:=List Int×Option (List Int)×Nat
variable (f)
def Ends (s:S)(r:Rs):Prop:=∃n t sd,tr f n s=some (t,sd)/\f t=none/\r=(sd,none,n)
def GL (s:S)(r:Rs):Prop:=∃j i t sj sd,j < i/\tr f j s=some (t,sj)/\tr f i s=some (t,sj++sd)/\(∀a b x y u v,a < b->b < i->tr f a s=some (x,u)->tr f b s=some (y,v)->x≠y)/\r=(sj,some sd,j)
def GN (s:S)(r:Rs):Prop:=Ends f s r\/GL f s r
variable {f}
def zH:List (Str×Int)->List (List Int)
 | []=>[[]]
 | b :: bs=>(aaA b.2.toNat).flatMap fun x:Nat=>(zH bs).map fun ws=>(x:Int) :: ws
theorem uN {α β:Type}(g:α->List β)(c:Nat)(h:∀a,(g a).length=c):∀l:List α,(l.flatMap g).length=l.length * c
 | []=>by simp
 | a :: l=>by
   rw [List.flatMap_cons,Z0,uN g c h l,h,aam,ac2,Nat.add_comm]
def n9:List (Str×Int)->Nat
 | []=>1
 | b :: bs=>b.2.toNat * n9 bs
theorem qM:∀bs:List (Str×Int),(zH bs).length=n9 bs
 | []=>rfl
 | b :: bs=>by
   show ((aaA b.2.toNat).flatMap fun x:Nat=>(zH bs).map fun ws=>(x:Int) :: ws).length=b.2.toNat * n9 bs
   rw [uN _ (n9 bs) (fun x=>by rw [ZX,qM bs]),abv]
def Dg (bs:List (Str×Int))(m:Nat):List (Int×List Int):=(aaA m).flatMap fun x:Nat=>(zH bs).map fun ws=>((x:Int),ws)
theorem zG (bs:List (Str×Int))(m:Nat):(Dg bs m).length=m * n9 bs:=by
 unfold Dg
 rw [uN _ (n9 bs) (fun x=>by rw [ZX,qM bs]),abv]
end
end TW
namespace L2
open PySem PySem.Spec PyProof.Rows
end L2
namespace L3
open PySem PySem.Spec PyProof.Rows L2
end L3
namespace L2
open PySem PySem.Spec PyProof.Rows SeqAt
end L2
namespace L3
open PySem PySem.Spec PyProof.Rows L2
theorem wH {X:Cx}:SO X (binaryOp .Mult) MC:=⟨IM⟩
end L3
namespace L2
open PySem PySem.Spec PyProof.Rows
theorem bp.ex {P:Program}{w:World}{H:Hp}{h:Heap}{a:Addr}{o:HO}(x:bp P w H h a o):∃ob,h.get? a=some ob:=by
 cases o with
 | lst xs=>obtain ⟨_,_,_,_,e⟩:=x; exact ⟨_,e⟩
 | tup xs=>obtain ⟨_,_,_,ob,e,_⟩:=x; exact ⟨ob,e⟩
 | dK kvs=>obtain ⟨_,_,_,_,o,_,_,e,_⟩:=x; exact ⟨o,e⟩
 | dT kvs=>obtain ⟨_,_,_,_,o,_,_,e,_⟩:=x; exact ⟨o,e⟩
 | set S n=>obtain ⟨o,_,_,_,e,_⟩:=x; exact ⟨o,e⟩
 | ins C dx fs=>obtain ⟨_,_,_,e,_⟩:=x; exact ⟨_,e⟩
 | own y=>obtain ⟨ob,e⟩:=x; exact ⟨ob,e⟩
 | xd fs=>obtain ⟨_,⟨ob,_,_,e,_⟩,_⟩:=x; exact ⟨ob,e⟩
 | rng lo hi=>obtain ⟨_,_,_,e⟩:=x; exact ⟨_,e⟩
 | frz ob u=>obtain ⟨e,_⟩:=x; exact ⟨ob,e⟩
 | tbl ps=>exact ⟨_,(show h.get? a=some _ from x)⟩
 | met f y=>exact ⟨_,(show h.get? a=some _ from x)⟩
 | ext φ=>obtain ⟨_,⟨ob,e⟩,_⟩:=x; exact ⟨ob,e⟩
def lu (P:Program)(w:World)(base:Heap):vO:=fun outer H s E e s'=>∃(ea:Addr) (cls a0:Value) (B:Heap) (H':Hp),e=.ref ea/\s'.os=s.os/\AllBare s'.gens/\Un (jg outer) [] H H' s.heap s'.heap/\fT P w H' s'.heap /\
 base.StaysIn B/\Heap.FlyingW B outer ea cls a0 s'.heap/\(∀b o,s.heap.get? b=some o->b ∉ jg outer->∃o',B.get? b=some o')/\(∀b u,H' b=some u->∃o,B.get? b=some o)/\s.heap.get? ea=none/\E cls none H'
section
variable {P:Program}{w:World}{K:ZY}{mg:Str->Option Value}{base:Heap}{N:List Str}{qual:Str}{scope:Scope}{f:Addr}{cd:Value}{A:Around}{outer:List Env}{s:Shared}{H:Hp}{E:XK}
theorem kQ {H1:Hp}{h B g:Heap}(ok:fT P w H1 h)(inB:∀b u,H1 b=some u->∃o,B.get? b=some o)(sb:B.StaysIn h)(sg:B.StaysIn g):fT P w H1 g:=fun a u e=>by
 refine (ok a u e).oE (fun b o hb q=>?_) (fun _ q=>q) (fun _ _ q=>q)
 have FG:∃v,H1 b=some v:=by
   rcases hb with rfl | hb
   · exact ⟨u,e⟩
   · exact ⟨_,hb⟩
 obtain ⟨v,hv⟩:=FG
 obtain ⟨o',ho'⟩:=inB b v hv
 have:=sb b o' ho'
 rw [q] at this
 cases this
 exact sg b o ho'
theorem uM {pins:List (Addr×Obj)}{σ:St}{H1:Hp}{s1:Shared}{h':Heap}{e:Addr}{cls:Value}{args:List Value}(I:Inv (hJ (lu P w base) P w K mg base N qual scope f cd A outer s H E) pins σ H1 s1)(hx:Heap.MadeExcOf s1.heap h' e cls args)(q:E cls none H1) :
   (hJ (lu P w base) P w K mg base N qual scope f cd A outer s H E).xe (.ref e) { s1 with heap:=h' }:=by
 have HP:(hJ (lu P w base) P w K mg base N qual scope f cd A outer s H E).stack=envOfC qual scope s.heap.objs.size f cd :: outer:=rfl
 have fr:s1.heap.FunFrames base (envOfC qual scope s.heap.objs.size f cd :: outer):=I.stack
 have frf:=I.qt
 rw [HP] at frf
 have hbase:∀b o,base.get? b=some o->s1.heap.get? b=some o:=I.bk
 have n8:Un (jg outer) [] H H1 s.heap s1.heap:=I.base
 have hex:∀b:Addr,b ∉ ([]:List Addr):=fun b z=>nomatch z
 have hloc:∀b o,s.heap.get? b=some o->b ∉ jg outer->b ∉ jg (envOfC qual scope s.heap.objs.size f cd :: outer):=fun b o hb hn hm=>by
   rcases List.mem_cons.mp (show b∈s.heap.objs.size :: jg outer from hm) with z | z
   · exact absurd (Z7 hb) (by rw [z]; exact abx _)
   · exact hn z
 let B:=PySem.W.hideAll s1.heap (jg (envOfC qual scope s.heap.objs.size f cd :: outer))
 have bget:∀b o,s1.heap.get? b=some o->b ∉ jg (envOfC qual scope s.heap.objs.size f cd :: outer)->B.get? b=some o:=fun b o hb hn=>adE _ hb hn
 have Sn:B.StaysIn s1.heap:=fun b o hb=>adM _ hb
 have Oi:base.StaysIn B:=fun b o hb=>bget b o (hbase b o hb) fun hm=>by
   have:=(fr.mem hm).1
   rw [hb] at this
   cases this
 have VN:s1.heap.FunFrames B (envOfC qual scope s.heap.objs.size f cd :: outer):=PySem.W.funFrames_hide fr fun env he a ha=>List.mem_filterMap.mpr ⟨env,he,ha⟩
 have ze:∀b u,H1 b=some u->∃o,B.get? b=some o:=fun b u hu=>by
   obtain ⟨o,ho⟩:=(I.hok b u hu).ex
   refine ⟨o,bget b o ho fun hm=>?_⟩
   rw [frf b hm] at hu
   cases hu
 refine wpAny_leaves_madeW (base:=B) (h:=s1.heap) (args:=args) I.ok.frames rfl Sn VN hx fun h2 t x1 x2 x3 x4=>?_
 refine ⟨e,cls,.ref t,B,H1,rfl,I.os,I.bare,⟨fun b o hb n hf _=>?_,fun b o hb n hf _=>?_,fun b o hb n _=>n8.free b o hb n (hex b),fun b o hb _=>?_,n8.tups,n8.frzs,n8.tbls⟩,kQ I.hok ze Sn x1.1,Oi,x1,fun b o hb hf=>?_,ze,?_,q⟩
 · exact x1.1 b o (bget b o (n8.keep b o hb n hf (hex b)) (hloc b o hb hf))
 · obtain ⟨sl,e1⟩:=n8.slot b o hb n hf (hex b)
   obtain ⟨_,o2,qC,hd2⟩:=fr.mem (show b∈jg (envOfC qual scope s.heap.objs.size f cd :: outer) from aaK _ hf)
   rw [e1] at qC
   cases qC
   obtain ⟨Rx,e2⟩:=x4 b _ (hx.keeps b _ e1) hd2
   exact ⟨Rx,e2⟩
 · obtain ⟨o1,e1⟩:=n8.there b o hb (hex b)
   by_cases hm:b∈jg (envOfC qual scope s.heap.objs.size f cd :: outer)
   · obtain ⟨_,o2,qC,hd2⟩:=fr.mem hm
     obtain ⟨Rx,e2⟩:=x4 b _ (hx.keeps b _ qC) hd2
     exact ⟨_,e2⟩
   · exact ⟨o1,x1.1 b o1 (bget b o1 e1 hm)⟩
 · obtain ⟨o1,e1⟩:=n8.there b o hb (hex b)
   exact ⟨o1,bget b o1 e1 (hloc b o hb hf)⟩
 · cases z:s.heap.get? e with
   | none=>rfl
   | some o=>
     obtain ⟨o1,e1⟩:=n8.there e o z (hex e)
     rw [hx.new] at e1
     cases e1
theorem Mj {E':XK}(hE:∀c d H2,E' c d H2->E c d H2):Passes (lu P w base) (hJ (lu P w base) P w K mg base N qual scope f cd A outer s H E) E':=by
 intro pins σ H1 s1 e s2 I cx
 obtain ⟨ea,cls,a0,B,H2,rfl,Q5,zI,CA,Hv,Oi,z0,inB,ze,N4,q⟩:=cx
 have n8:Un (jg outer) [] H H1 s.heap s1.heap:=I.base
 have hex:∀b:Addr,b ∉ ([]:List Addr):=fun b z=>nomatch z
 have HP:(hJ (lu P w base) P w K mg base N qual scope f cd A outer s H E).stack=envOfC qual scope s.heap.objs.size f cd :: outer:=rfl
 rw [HP] at z0 CA inB
 have hloc:∀b o,s.heap.get? b=some o->b ∉ jg outer->b ∉ jg (envOfC qual scope s.heap.objs.size f cd :: outer):=fun b o hb hn hm=>by
   rcases List.mem_cons.mp (show b∈s.heap.objs.size :: jg outer from hm) with z | z
   · exact absurd (Z7 hb) (by rw [z]; exact abx _)
   · exact hn z
 have NG:=z0.2.2.1
 have sB2:=z0.1
 refine wpAny_leaves_onW I.ok.frames rfl z0 fun h3 x1 x2=>?_
 have LR:∀b o,s.heap.get? b=some o->b ∉ jg outer->∃o',B.get? b=some o':=fun b o hb hf=>by
   obtain ⟨o1,e1⟩:=n8.there b o hb (hex b)
   exact inB b o1 e1 (hloc b o hb hf)
 refine ⟨ea,cls,a0,B,H2,rfl,Q5.trans I.os,zI,⟨fun b o hb n hf _=>?_,fun b o hb n hf _=>?_,fun b o hb n _=>?_,fun b o hb _=>?_,fun b xs h=>CA.tups b xs (n8.tups b xs h),fun b o u h=>CA.frzs b o u (n8.frzs b o u h),fun b ps h=>?_⟩,kQ Hv ze sB2 x1.1,Oi,x1,LR,ze,?_,hE _ _ _ q⟩
 · have e1:=n8.keep b o hb n hf (hex b)
   have n1:=n8.free b o hb n (hex b)
   have e2:=CA.keep b o e1 n1 (hloc b o hb hf) (hex b)
   obtain ⟨o',ho'⟩:=LR b o hb hf
   have e3:=sB2 b o' ho'
   rw [e2] at e3
   cases e3
   exact x1.1 b o ho'
 · obtain ⟨sl,e1⟩:=n8.slot b o hb n hf (hex b)
   have n1:=n8.free b o hb n (hex b)
   obtain ⟨Rx,e2⟩:=CA.any e1 n1 (hex b)
   obtain ⟨_,o2,qC,hd2⟩:=NG.mem (show b∈jg (envOfC qual scope s.heap.objs.size f cd :: outer) from aaK _ hf)
   rw [e2] at qC
   cases qC
   obtain ⟨Uy,e3⟩:=x2 b _ e2 hd2
   exact ⟨Uy,e3⟩
 · obtain ⟨o1,e1⟩:=n8.there b o hb (hex b)
   exact CA.free b o1 e1 (n8.free b o hb n (hex b)) (hex b)
 · obtain ⟨o1,e1⟩:=n8.there b o hb (hex b)
   obtain ⟨o2,e2⟩:=CA.there b o1 e1 (hex b)
   by_cases hm:b∈jg (envOfC qual scope s.heap.objs.size f cd :: outer)
   · obtain ⟨_,o3,Xh,WJ⟩:=NG.mem hm
     obtain ⟨Uy,e3⟩:=x2 b _ Xh WJ
     exact ⟨_,e3⟩
   · obtain ⟨o',ho'⟩:=inB b o1 e1 hm
     exact ⟨o',x1.1 b o' ho'⟩
 · obtain ⟨m1,e1⟩:=n8.tbls b ps h
   obtain ⟨m2,e2⟩:=CA.tbls b _ e1
   exact ⟨m1++m2,by rw [e2,Array.append_assoc]⟩
 · cases z:s.heap.get? ea with
   | none=>rfl
   | some o=>
     obtain ⟨o1,e1⟩:=n8.there ea o z (hex ea)
     rw [N4] at e1
     cases e1
end
abbrev vE:List Value:=[.type "ValueError",.type "Exception",.type "BaseException",.type "object"]
def pN (K:ZY)(C:Addr):Option (List Value):=match K.lookup C with
 | some ⟨_,_,.cls cd,_⟩=>some cd.mro
 | _=>none
structure Xc (K:ZY)(mg:Str->Option Value)(x:Str)(C:Addr)(tl:List Value):Prop where
 m:mg x=some (.ref C)
 ex:adj K C vE "ValueError.__new__"=true
 mro:pN K C=some (.ref C :: tl)
theorem Xc.obj {K:ZY}{mg:Str->Option Value}{x:Str}{C:Addr}{tl:List Value}{h:Heap}(c:Xc K mg x C tl)(hk:K.In h) :
   ∃N nm q bs hdct sn sub ab col dd k0 k1 k2 k3 k5 mN,h.get? C=some (excClassObj nm q C N bs tl hdct sn sub ab col dd k0 k1 k2 k3 k5 "ValueError.__new__")/\h.Ns N mN/\mN "__init__"=none/\OwnTail h vE tl:=by
 have q:=c.ex
 have m:=c.mro
 unfold adj at q
 unfold pN at m
 split at q
 · rename_i od cd sl look
   rw [look] at m
   split at q
   · rename_i C' bm k0 k1 k2 k3 n k5 hm hs
     simp only [aaN,beq_iff_eq,Bool.not_eq_true'] at q
     obtain ⟨⟨⟨⟨⟨z1,z2⟩,Ll⟩,ht⟩,hok⟩,uz⟩:=q
     subst z1 z2
     have m2:cd.mro=.ref C' :: tl:=by injection m
     rw [hm] at m2
     have e1:bm=tl:=by injection m2
     subst e1
     obtain ⟨nm,bs,mro,ns,qn,hd,sn,sub,ab,col,del⟩:=cd
     dsimp only at hm Ll hok uz
     subst hm Ll
     have Tu:sl = #[k0,k1,k2,k3,some (.builtin "ValueError.__new__"),k5]:=by
       obtain ⟨l⟩:=sl
       simp only at hs
       rw [hs]
     subst Tu
     exact ⟨ns,nm,qn,bs,hd,sn,sub,ab,col,od,k0,k1,k2,k3,k5,_,hk _ _ look,.of_isNs (PySem.W.isNs_of_in hk hok),PySem.W.nsMap_none_of_in hk hok uz,PySem.W.tail_of_in hk ht⟩
   · cases q
 · cases q
abbrev TF:=St->Hp->(Hp->Prop)->Prop
def PF (X:Cx)(parts:List Expr)(n:Nat)(t:TF):Prop:=∀(pins:List (Addr×Obj)) (s:Shared) (σ:St) (H:Hp) (acc:Str) (k:Hp->Prop),Inv X pins σ H s->t σ H k->acc.length + n * 2000<=sizeLine ->
 Joins (model X.prog X.w) X.A X.xe (evalEach parts X.env) acc (fun out s1=>out.length<=sizeLine/\∃H',Inv X pins σ H' s1/\k H') s
def Ka (x:V):Prop:=(∃i,x=.int i/\i.natAbs.log2 < 1920)\/∃y:Str,x=.str y/\y.length<=2000
section
variable {X:Cx}{a:Expr}{ps:List Expr}{n:Nat}{t:TF}{te:TE}{pos:Pos}
theorem Jf:PF X [] 0 (fun _ H k=>k H):=fun pins s σ H acc k I h hl=>⟨by omega,H,I,h⟩
theorem Jg {x:Str}{j}(hx:x.length<=2000)(hr:PF X ps n t):PF X (.Constant (.str x) j pos :: ps) (n + 1) t:=by
 intro pins s σ H acc k I h hl
 have hp:=BI (X:=X) (x:=x) (j:=j) (pos:=pos) pins s σ H (fun v H1=>v=.str x/\H1=H) I ⟨rfl,rfl⟩
 refine bt hp fun u s1 ⟨v,H1,I1,rv,e1,e2⟩=>?_
 subst e1 e2
 obtain ⟨tk,rfl⟩:=rv
 have hlen:(acc++x).length=acc.length + x.length:=strLen_append ..
 exact ⟨x,tk,rfl,by omega,hr pins s1 σ H1 (acc++x) k I1 h (by omega)⟩
theorem Jh (ha:PE X a te)(hr:PF X ps n t):PF X (.FormattedValue a (-1) none pos :: ps) (n + 1) (fun σ H k=>te σ H fun x H1=>Ka x/\t σ H1 k):=by
 intro pins s σ H acc k I h hl
 refine FormattedValue_plain (bt (ha pins s σ H _ I h) fun u s1 ⟨v,H1,I1,rv,fo,q⟩=>?_)
 rcases fo with ⟨i,rfl,hi⟩ | ⟨y,rfl,hy⟩
 · obtain ⟨tk,rfl⟩:=rv
   refine formatField_int_small hi ?_
   have h1:=int_text_length_le (k:=1920) (by decide) hi
   have h2:(aa4 (toString i)).length<=1921:=by rw [PySem.ofString_length]; exact h1
   have hlen:(acc++aa4 (toString i)).length=acc.length + (aa4 (toString i)).length:=strLen_append ..
   exact ⟨aa4 (toString i),_,rfl,by omega,hr pins _ σ H1 _ k ((I1.tok _).tok _) q (by omega)⟩
 · obtain ⟨tk,rfl⟩:=rv
   refine formatField_str (fun t' Om=>?_) (Z8 hy (by decide))
   have hlen:(acc++y).length=acc.length + y.length:=strLen_append ..
   exact ⟨y,_,rfl,by omega,hr pins _ σ H1 _ k (I1.tok _) q (by omega)⟩
theorem EE {v1 v2:Expr}(h:PF X (v1 :: v2 :: ps) n t)(hn:n<=1000):PE X (.JoinedStr (v1 :: v2 :: ps) pos) (fun σ H Q=>t σ H fun H1=>∀x,Q (.str x) H1):=by
 intro pins s σ H Q I hq
 refine PySem.wpAny_JoinedStr ?_
 have hz:(adR:Str).length + n * 2000<=sizeLine:=by
   have:(adR:Str).length=0:=rfl
   have:(2000000:Nat)<=sizeLine:=by decide
   omega
 have j:=h pins s σ H adR _ I hq hz
 have go:∀(l:List (Sem Value)) (acc:Str) (s:Shared),Joins (model X.prog X.w) X.A X.xe l acc (fun out s1=>out.length<=sizeLine/\∃H',Inv X pins σ H' s1/\∀x,Q (.str x) H') s->Joins (model X.prog X.w) X.A X.xe l acc (fun out s1=>out.length<=sizeLine/\EP X pins σ Q (.str out s1.toks) { s1 with toks:=s1.toks + 1 }) s:=by
   intro l
   induction l with
   | nil=>
     rintro acc s ⟨h1,H',I',q⟩
     exact ⟨h1,.str acc,H',I'.tok _,⟨_,rfl⟩,q acc⟩
   | cons x l ih=>
     intro acc s hj
     exact bt hj fun u s1 ⟨y,tk,e,hl,r⟩=>⟨y,tk,e,hl,ih _ _ r⟩
 exact go _ _ _ j
def Cu (Ex:XK)(C:Addr)(ta:TA):TS:=fun _ σ H=>ta σ H fun vs H1=>∃v,vs=[v]/\Ex (.ref C) none H1
def mr (X:Cx)(Ex:XK):Prop:=∀{pins:List (Addr×Obj)} {σ:St} {H:Hp} {s:Shared} {h':Heap} {e:Addr} {cls:Value} {args:List Value},Inv X pins σ H s->Heap.MadeExcOf s.heap h' e cls args->Ex cls none H->X.xe (.ref e) { s with heap:=h' }
theorem BN {x:Str}{C:Addr}{tl:List Value}{Ex:XK}{ta:TA}{np cpos:Pos}(hx:mr X Ex)(c:Xc X.K X.mg x C tl)(hb:tl.contains (.type "BaseException")=true)(hg:Gl X x)(hc:X.calm=true)(ha:tJ X [a] ta)(hd:(x == ("__debug__":Str))=false:=by decide) :
   PS X (.Raise (some (.Call (.Name x np) [a] [] cpos)) none pos) (Cu Ex C ta):=by
 intro pins s σ H D I h
 obtain ⟨N,nm,q,bs,hdct,sn,sub,ab,col,dd,k0,k1,k2,k3,k5,mN,hC,hN,uz,T⟩:=c.obj I.ok.mod.kin
 refine wpAny_Raise_call_subT (C:=C) (nm:=nm) (q:=q) (N:=N) (bs:=bs) (bm:=tl) (hdct:=hdct) (sn:=sn) (sub:=sub) (ab:=ab) (col:=col) (dd:=dd) (k0:=k0) (k1:=k1) (k2:=k2) (k3:=k3) (k5:=k5) PySem.F.excBase_ValueError (mN:=mN) hb (I.ok.hd hc)
   (by rw [(ha.ns a [] rfl).1.h [] X.env]; exact (ha.ns a [] rfl).2 cpos X.env) uz (jD I hg c.m ⟨rfl,?_⟩ hd)
 have he:=(ha.ns a [] rfl).1.h [] X.env
 have h2:=ha.pa cpos pins s σ H _ I h
 rw [he] at h2 ⊢
 refine abU (bt h2 fun us s2 ⟨vs,H1,I1,r,v,ev,q1⟩=>⟨rfl,?_,I1.bk _ _ hC,hN.keeps I1.bk,T.keeps I1.bk,fun h' e hm=>hx I1 hm q1⟩)
 have h1:=r.length
 rw [ev] at h1
 show us.length<=sizeLine
 rw [← h1]
 exact (by decide:1<=sizeLine)
end
end L2
namespace L2
open PySem PySem.Spec PyProof.Rows PySem.W PySem.Builtin PySem.Builtin.ObjectAttr PySem.Builtin.Getset_descriptor
section
variable {prog:Program}{w:World}{A:Around}{E:Value->Shared->Prop}{s:Shared}{K:Frag}{x C:Addr}{ox:Obj}
def lA (x C:Addr)(h:Heap):Prop:=∃o,h.get? x=some o/\o.cls=.ref C
theorem lA.ty {x C:Addr}{h:Heap}{M:Model}(p:lA x C h):Looks M h (typeOf (.ref x)) (.ref C):=by
 obtain ⟨o,h1,h2⟩:=p
 exact h2 ▸ (Looks.ld h1).andThen .now
theorem Ds {R:Result->Shared->Prop}{tp:Value}(X:K.In s.heap)(I:lA x C s.heap)(hm:mroIn K C (.type "object")=some true)
   (h:R (.ok (.ret (.ref C))) s):codeAny (model prog w) A (.call (.builtin "getset_descriptor.__get__") ⟨[.builtin "object.__class__",.ref x,tp],[]⟩) R s:=by
 obtain ⟨hh,g,dr,t,os⟩:=s
 have q0:=I.ty (M:=model prog w)
 have q1:=looks_mroIn (M:=model prog w) X hm
 refine codeAny_call_builtin KF.slot_gs.plain KF.entry_gs (KF.slot_gs.check _ _ _ _ _ _ _ _ KF.type_class (KF.args_gs _ _ _) ?_)
 unfold Builtin.«getset_descriptor.__get__» descrGet
 rw [dga_obj]
 refine wpAny_bind (wpAny_pure ?_)
 unfold descrGetter descrCheckInstance descrNameAndClass isInstance
 simp only [KF.owner_class]
 repeat lk
 refine ⟨abG _ (by decide +kernel),adC KF.entry_class ?_⟩
 unfold Builtin.«object.__class__» shownTypeOf
 repeat lk
 exact h
theorem xM {tk:Tok}{P:Value->Shared->Prop}(X:K.In s.heap)(I:lA x C s.heap)(ha:findIn K (.ref C) "__class__"=some (some (.builtin "object.__class__")))(hn:specialIn K (.builtin "object.__class__") "__get__"=some (some (.builtin "getset_descriptor.__get__")))
   (htk:takesIn K (.builtin "object.__class__")=some true) (hm:mroIn K C (.type "object")=some true) (h:P (.ref C) s) :
   wpAny (model prog w) A (Builtin.«object.__getattribute__» ⟨[.ref x,.str "__class__" tk],[]⟩) (fun fin s'=>∃v,fin=.done (.ret v)/\P v s') E s:=by
 obtain ⟨hh,g,d,t,os⟩:=s
 have l0:=I.ty (M:=model prog w)
 have l1:=looks_findIn (M:=model prog w) X ha
 have l2:=looks_specialIn (M:=model prog w) X hn
 have l3:=looks_takesIn (M:=model prog w) X htk
 unfold Builtin.«object.__getattribute__»
 refine wpAny_bind (wpAny_pure ?_)
 dsimp only
 refine wpAny_bind (wpAny_pure ?_)
 refine wpAny_bind (l0.at ?_)
 refine wpAny_bind ?_
 unfold Builtin.ObjectAttr.find
 refine wpAny_bind (l1.at ?_)
 refine wpAny_bind (l2.at ?_)
 refine wpAny_bind (wpAny_bind (l3.at ?_))
 rw [if_pos rfl]
 refine wpAny_pure ?_
 refine wpAny_bind (wpAny_rule (wpAny_pure ?_))
 show wpAny _ _ (acy (.builtin "getset_descriptor.__get__") (.builtin "object.__class__") (.ref x) (.ref C)) _ _ _
 unfold acy
 dsimp only
 refine wpAny_bind (wpAny_holding (wpAny_call (Ds X I hm ?_)))
 exact wpAny_pure ⟨_,rfl,h⟩
theorem xJ {M:Model}{FZ:Value}{Q:Unit->Shared->Prop}(X:K.In s.heap)(I:lA x C s.heap)(hb:mroIn K C (.type "BaseException")=some true)(h:Q () s) :
   wpAny M A (checkBuiltinCall "BaseException.__getattribute__" ⟨[.ref x,FZ],[]⟩) Q E s:=by
 obtain ⟨hh,g,d,t,os⟩:=s
 have l0:=I.ty (M:=M)
 have l1:=looks_mroIn (M:=M) X hb
 have kd:builtinKind "BaseException.__getattribute__"=some .slot:=by decide +kernel
 have sp:splitId "BaseException.__getattribute__"=some ("BaseException","__getattribute__"):=by decide +kernel
 have ar:=F.args_bexc_ga (.ref x) FZ
 simp only [checkBuiltinCall,kd,sp]
 unfold isInstance
 refine wpAny_bind (wpAny_bind (l0.at (l1.at ?_)))
 repeat (first | exact h | assumption | wp_step)
theorem xK {Q:Option Value->Shared->Prop}(X:K.In s.heap)(I:lA x C s.heap)(hga:findIn K (.ref C) "__getattribute__"=some (some (.builtin "BaseException.__getattribute__")))(hgn:findIn K (.ref C) "__getattr__"=some none)
   (ha:findIn K (.ref C) "__class__"=some (some (.builtin "object.__class__"))) (hn:specialIn K (.builtin "object.__class__") "__get__"=some (some (.builtin "getset_descriptor.__get__"))) (htk:takesIn K (.builtin "object.__class__")=some true)
   (hm:mroIn K C (.type "object")=some true) (hb:mroIn K C (.type "BaseException")=some true) (h:Q (some (.ref C)) { s with toks:=s.toks + 1 }) :
   wpAny (model prog w) A (adx (.ref x) "__class__") Q E s:=by
 obtain ⟨hh,g,d,t,os⟩:=s
 have l0:=I.ty (M:=model prog w)
 have l1:=looks_findIn (M:=model prog w) X hga
 have l2:=looks_findIn (M:=model prog w) X hgn
 unfold adx getAttrBy? getAttrBy
 refine wpAny_bind (wpAny_mkText (wpAny_bind (wpAny_attempt (wpAny_holding (wpAny_bind (l0.at (wpAny_bind (l1.at ?_))))))))
 dsimp only
 rw [if_neg (fun z=>by rw [show (acf "BaseException.__getattribute__" == acf "object.__getattribute__")=false by decide +kernel,adu] at z; cases z)]
 unfold getAttrByItsOwn hookBefore
 rw [if_pos (show onTheHeap (aal C)=true by rfl)]
 refine wpAny_bind (l2.at ?_)
 refine wpAny_bind (wpAny_attempt (wpAny_holding ?_))
 show wpAny _ _ (boundAndCalled (.builtin "BaseException.__getattribute__") (.ref x) (.str "__class__" t)) _ _ _
 unfold boundAndCalled
 rw [F.attr_ValueError.ga.bind (.ref x)]
 refine wpAny_bind (wpAny_pure ?_)
 refine wpAny_call (codeAny_call_builtin F.attr_ValueError.ga.plain F.entry_bexc_ga (xJ (s:=⟨hh,g,d,t + 1,os⟩) X I hb ?_))
 refine wpAny_mono (xM (s:=⟨hh,g,d,t + 1,os⟩) X I ha hn htk hm (P:=fun v s'=>v=.ref C/\s'=⟨hh,g,d,t + 1,os⟩) ⟨rfl,rfl⟩) (fun fin s' z=>?_) fun _ _ z=>z
 obtain ⟨v,rfl,rfl,rfl⟩:=z
 show wpAny (model prog w) A (handedOut (.ref C)) _ _ _
 exact handed_on rfl (wpAny_pure h)
structure GQ (K:Frag)(C:Addr):Prop where
 ga:findIn K (.ref C) "__getattribute__"=some (some (.builtin "BaseException.__getattribute__"))
 gn:findIn K (.ref C) "__getattr__"=some none
 ha:findIn K (.ref C) "__class__"=some (some (.builtin "object.__class__"))
 hn:specialIn K (.builtin "object.__class__") "__get__"=some (some (.builtin "getset_descriptor.__get__"))
 htk:takesIn K (.builtin "object.__class__")=some true
 hm:mroIn K C (.type "object")=some true
 hb:mroIn K C (.type "BaseException")=some true
 hc:(clsIn K C).isSome=true
theorem m9 (k:GQ K C):KitX K (.ref x) (.ref C) (lA x C) where
 ty:=fun _ _ _ I=>I.ty
 it:=fun _ _ X _=>by
   obtain ⟨cd,e⟩:=Option.isSome_iff_exists.mp k.hc
   unfold clsIn at e
   split at e
   · rename_i c' d' Vg Rw look
     intro A' Q' E' s' st q
     unfold isType loadHead
     exact wpAny_bind (wpAny_loadPart (st _ _ (X _ _ look)) (wpAny_pure q))
   · cases e
 ne:=fun h tp dd its n sl X uG=>by
   obtain ⟨cd,e⟩:=Option.isSome_iff_exists.mp k.hc
   refine Bool.eq_false_iff.mpr fun q=>?_
   have z:C=tp:=Value.ref.inj (beq_iff_eq.mp q)
   subst z
   unfold clsIn at e
   split at e
   · rename_i c' d' Vg Rw look
     have y:=(X _ _ look).symm.trans uG
     cases y
   · cases e
 ca:=fun X I q=>xK X I k.ga k.gn k.ha k.hn k.htk k.hm k.hb q
end
theorem CC {fs:List Addr}{H1 H2:Hp}{h1 h2 h3 B:Heap}(u:Un fs [] H1 H2 h1 h2)(s2:B.StaysIn h2)(s3:B.StaysIn h3)(inB:∀b o,h1.get? b=some o->b ∉ fs->∃o',B.get? b=some o')
   (sl:∀b o,b∈fs->h2.get? b=some o->∃x,h3.get? b=some { o with slots:=x }):Un fs [] H1 H2 h1 h3:=by
 have hex:∀b:Addr,b ∉ ([]:List Addr):=fun b z=>nomatch z
 refine ⟨fun b o hb n hf _=>?_,fun b o hb n hf _=>?_,fun b o hb n _=>u.free b o hb n (hex b),fun b o hb _=>?_,u.tups,u.frzs,u.tbls⟩
 · have e2:=u.keep b o hb n hf (hex b)
   obtain ⟨o',ho'⟩:=inB b o hb hf
   have e3:=s2 b o' ho'
   rw [e2] at e3
   cases e3
   exact s3 b o ho'
 · obtain ⟨x,e2⟩:=u.slot b o hb n hf (hex b)
   obtain ⟨y,e3⟩:=sl b _ hf e2
   exact ⟨y,e3⟩
 · by_cases hm:b∈fs
   · obtain ⟨o2,e2⟩:=u.there b o hb (hex b)
     obtain ⟨y,e3⟩:=sl b _ hm e2
     exact ⟨_,e3⟩
   · obtain ⟨o',ho'⟩:=inB b o hb hm
     exact ⟨o',s3 b o' ho'⟩
theorem Cj {h2 h3 B:Heap}{l:List Env}(fr:h2.FunFrames B l)(x:h2.UpToSlots h3):∀b o,b∈jg l->h2.get? b=some o->∃y,h3.get? b=some { o with slots:=y }:=fun b o hm ho=>by
 obtain ⟨_,o2,qC,hd2⟩:=fr.mem hm
 rw [ho] at qC
 cases qC
 exact x b o ho hd2
def zq (ea C:Addr):HO:=.ext (lA ea C)
theorem G7 {P:Program}{w:World}{H:Hp}{h:Heap}{ea C:Addr}(x:lA ea C h):bp P w H h ea (zq ea C):=by
 obtain ⟨o,h1,h2⟩:=id x
 exact ⟨x,⟨o,h1⟩,fun g1 g2 ⟨o',a,b⟩ k=>⟨o',k _ a,b⟩⟩
section
variable {X:Cx}{pins:List (Addr×Obj)}{σ:St}{H:Hp}{s:Shared}{ea C:Addr}
theorem Inv.Nf (I:Inv X pins σ H s)(n:H ea=none)(x:lA ea C s.heap)(n0:X.s₀.heap.get? ea=none)(nl:ea≠X.env.locals)(nc:∀y c,X.env.cells.lookup y=some c->c≠ea)(np:∀p∈X.pn++pins,p.1≠ea):Inv X pins σ (upd H ea (zq ea C)) s:=by
 have ne:∀b u,H b=some u->b≠ea:=fun b u e z=>by rw [z,n] at e; cases e
 have k:∀b u,H b=some u->(upd H ea (zq ea C)) b=some u:=fun b u e=>by rw [aj (ne b u e)]; exact e
 refine ⟨I.ok,I.os,I.bare,⟨I.base.keep,I.base.slot,fun b o e m hx=>?_,I.base.there,fun b xs e=>k _ _ (I.base.tups b xs e),fun b o u e=>k _ _ (I.base.frzs b o u e),fun b ps e=>?_⟩,I.loc,I.cell,?_,fun y c e=>?_,fun p hp=>?_,fun b u e=>?_,I.len⟩
 · rw [aj (fun z=>by rw [z,n0] at e; cases e)]
   exact I.base.free b o e m hx
 · obtain ⟨more,e1⟩:=I.base.tbls b ps e
   exact ⟨more,k _ _ e1⟩
 · rw [aj (Ne.symm nl)]
   exact I.free
 · rw [aj (nc y c e)]
   exact I.freeC y c e
 · obtain ⟨a1,a2,a3,a4,a5⟩:=I.pin p hp
   exact ⟨a1,by rw [aj (np p hp)]; exact a2,a3,a4,a5⟩
 · by_cases hb:b=ea
   · subst hb
     rw [ae] at e
     cases e
     exact G7 x
   · rw [aj hb] at e
     exact (I.hok b u e).oE (fun c v _ q=>q) (fun c q=>k _ _ q) fun c xs q=>k _ _ q
end
section
variable {M:Model}{A:Around}{E:Value->Shared->Prop}{s:Shared}{nm q:Str}{C N:Addr}{bs bm:List Value}{hdct:Bool}{sn:List Str}{sub:List Value}{ab:Bool}{col:Option Bool}{dd:Option Addr}{k0 k1 k2 k3 k5:Option Value}{newId:String}
 {Ye q':Str} {T N':Addr} {bs' OJ:List Value} {Lk:Bool} {YS:List Str} {RA:List Value} {U7:Bool} {OM:Option Bool} {oi:Option Addr} {j0 j1 j2 j3 j5:Option Value} {Ie:String}
theorem uP {h:Heap}{g:Array GenState}{d:Drawn}{t:Nat}{os:OsState}{e:Addr}{oe:Obj}{Q:Bool->Shared->Prop}(hC:h.get? C=some (excClassObj nm q C N bs bm hdct sn sub ab col dd k0 k1 k2 k3 k5 newId))(hT:h.get? T=some (excClassObj Ye q' T N' bs' OJ Lk YS RA U7 OM oi j0 j1 j2 j3 j5 Ie))
   (he:h.get? e=some oe) (hcls:oe.cls=.ref C) (hup:(aal C :: bm).contains (.ref T)=true) (hbase:OJ.contains (.type "BaseException")=true) (hq:Q true ⟨h,g,d,t,os⟩):wpAny M A (excMatches (.ref e) (.ref T)) Q E ⟨h,g,d,t,os⟩:=by
 have WH:(aal T :: OJ).contains (.type "BaseException")=true:=by rw [List.contains_cons,hbase,Bool.or_true]
 have f:=tc_notTuple
 unfold excMatches
 repeat (first | (with_reducible refine wpAny_loadPart_at he ?_; rw [hcls]) | with_reducible refine wpAny_loadPart_at hT ?_ | (with_reducible refine wpAny_isSubtype_exc hT ?_; rw [WH]) | (with_reducible refine wpAny_isSubtype_exc hC ?_; rw [hup]) | wp_step)
 exact hq
end
section
variable {X:Cx}{pins:List (Addr×Obj)}{σ:St}{H:Hp}{s:Shared}
theorem Inv.forget {σ':St}{h':Heap}{t':Nat}{m:Str->Option Value}{en:Str}{v:Option Value}(I:Inv X pins σ H s)(hm:∀(i:Nat) (x:Str) (v:V),X.N[i]? = some x->σ[i]? = some (some v)->Nw X.env.scope x->∃u,RelV v u/\Look X.env s.heap m x u)
   (hn':h'.Ns X.env.locals (fun x=>if x=en then v else m x)) (hs:aaH X.env.locals s.heap h') (hl:σ'.length=σ.length) (hw:∀(i:Nat) v,σ'[i]? = some (some v)->σ[i]? = some (some v)/\X.N[i]? ≠ some en):Inv X pins σ' H { s with heap:=h',toks:=t' }:=by
 have neL:∀b o,X.s₀.heap.get? b=some o->b≠X.env.locals:=fun b o e=>aay (aah (Z7 e) I.ok.above)
 refine ⟨I.ok,I.os,I.bare,⟨fun b o e n hb hx=>?_,fun b o e n hb hx=>?_,I.base.free,fun b o e hx=>?_,I.base.tups,I.base.frzs,I.base.tbls⟩,⟨_,hn',fun j y v' e1 e2 e3=>?_⟩,fun y c e=>?_,I.free,I.freeC,fun p hp=>?_,fun b u e=>?_,hl.trans I.len⟩
 · exact (hs.2 b (neL b o e)).trans (I.base.keep b o e n hb hx)
 · obtain ⟨sl,e1⟩:=I.base.slot b o e n hb hx
   exact ⟨sl,(hs.2 b (neL b o e)).trans e1⟩
 · obtain ⟨o',e1⟩:=I.base.there b o e hx
   exact ⟨o',(hs.2 b (neL b o e)).trans e1⟩
 · obtain ⟨w1,w2⟩:=hw j v' e2
   obtain ⟨u,r,l⟩:=hm j y v' e1 w1 e3
   refine ⟨u,r,?_⟩
   rcases l with ⟨k,e⟩ | ⟨k,c,e,z⟩
   · refine .inl ⟨k,?_⟩
     have:y≠en:=fun z=>w2 (by rw [e1,z])
     show (if y=en then v else m y)=some u
     rw [if_neg this]
     exact e
   · exact .inr ⟨k,c,e,z.sameBut hs (I.xC y c e)⟩
 · obtain ⟨w',z⟩:=I.cell y c e
   exact ⟨w',z.sameBut hs (I.xC y c e)⟩
 · obtain ⟨e,n,ne,nf,d⟩:=I.pin p hp
   exact ⟨(hs.2 p.1 ne).trans e,n,ne,nf,d⟩
 · have rH:=I.free
   refine (I.hok b u e).oE (fun c w' hc q=>(hs.2 c ?_).trans q) (fun _ q=>q) fun _ _ q=>q
   intro z
   rcases hc with hc | hc
   · rw [hc] at z
     rw [z,rH] at e
     cases e
   · rw [z,rH] at hc
     cases hc
theorem Inv.other {W:Value->Shared->Prop}{pn lg:List (Addr×Obj)}(I:Inv X pins σ H s)(h:∀p∈pn++lg,p∈X.pn++pins):Inv { X with xe:=W,pn:=pn } lg σ H s:=
 ⟨⟨I.ok.mod,I.ok.kind,I.ok.glob,I.ok.blt,I.ok.above,I.ok.inj,I.ok.has,I.ok.cab,I.ok.hd,I.ok.frames,I.ok.stk,I.ok.exf,I.ok.bs,I.ok.bsz,I.ok.noex,I.ok.exfs,I.ok.hU,I.ok.frf⟩,I.os,I.bare,I.base,I.loc,I.cell,I.free,I.freeC,fun p hp=>I.pin p (h p hp),I.hok,I.len⟩
theorem Inv.back {W:Value->Shared->Prop}{pn lg:List (Addr×Obj)}(I:Inv { X with xe:=W,pn:=pn } lg σ H s)(h:∀p∈X.pn++pins,p∈pn++lg):Inv X pins σ H s:=
 ⟨⟨I.ok.mod,I.ok.kind,I.ok.glob,I.ok.blt,I.ok.above,I.ok.inj,I.ok.has,I.ok.cab,I.ok.hd,I.ok.frames,I.ok.stk,I.ok.exf,I.ok.bs,I.ok.bsz,I.ok.noex,I.ok.exfs,I.ok.hU,I.ok.frf⟩,I.os,I.bare,I.base,I.loc,I.cell,I.free,I.freeC,fun p hp=>I.pin p (h p hp),I.hok,I.len⟩
theorem Inv.mark {e:Option Value}(I:Inv X pins σ H s):Inv { X with A:=X.A.mark e,calm:=false,xe:=fun _ _=>False } pins σ H s:=
 ⟨⟨I.ok.mod,I.ok.kind,I.ok.glob,I.ok.blt,I.ok.above,I.ok.inj,I.ok.has,I.ok.cab,(fun z=>nomatch z),I.ok.frames,I.ok.stk,I.ok.exf,I.ok.bs,I.ok.bsz,I.ok.noex,I.ok.exfs,I.ok.hU,I.ok.frf⟩,I.os,I.bare,I.base,I.loc,I.cell,I.free,I.freeC,I.pin,I.hok,I.len⟩
theorem Inv.unmark {e:Option Value}{σ':St}{H':Hp}{s':Shared}(I0:Inv X pins σ H s)(I:Inv { X with A:=X.A.mark e,calm:=false,xe:=fun _ _=>False } pins σ' H' s'):Inv X pins σ' H' s':=
 ⟨I0.ok,I.os,I.bare,I.base,I.loc,I.cell,I.free,I.freeC,I.pin,I.hok,I.len⟩
end
section
variable {P:Program}{w:World}{K:ZY}{mg:Str->Option Value}{base:Heap}
theorem dm.CY {x qual:Str}{st:Stmt}{f:Addr}{fd:aaf}{N ps:List Str}{k:Nat}{sp:Sp}(F:dm K x qual st f fd)(S:aD N ps (ai st))(len:∀vs H Q E,sp vs H Q E->vs.length=ps.length)
   (hbody:∀(cdv:Value) (A:Around) (outer:List Env) (s:Shared) (H:Hp) (vs:List V) (Q:VK) (E:XK),dn k (A.deeper (envOfC qual (ai st) s.heap.objs.size f cdv))->sp vs H Q E ->
     ∃t,nY (hJ (lu P w base) P w K mg base N qual (ai st) f cdv A outer s H E) (cU st) t/\t { nx:=fun _ H'=>Q .bN H',rt:=Q } (start N vs) H):aP P w K mg base (lu P w base) (k + 1) f fd ps sp:=by
 obtain ⟨oc,od,kV,doc,pm,an,cdv,ct,osl,rfl,lk,hcd⟩:=F.ex
 exact z9 lk hcd S len fun A outer s H vs Q E hr hsp=>hbody cdv A outer s H vs Q E hr hsp
theorem lX {N:List Str}{qual:Str}{scope:Scope}{f:Addr}{cd:Value}{A:Around}{outer:List Env}{s:Shared}{H:Hp}{E:XK}:mr (hJ (lu P w base) P w K mg base N qual scope f cd A outer s H E) E:=fun I hm q=>uM I hm q
theorem fJ {N:List Str}{qual:Str}{scope:Scope}{f:Addr}{cd:Value}{A:Around}{outer:List Env}{s:Shared}{H:Hp}{E:XK}:Passes (lu P w base) (hJ (lu P w base) P w K mg base N qual scope f cd A outer s H E) E:=Mj fun _ _ _ h=>h
end
def Mz (K:ZY):List V->Hp->VK->Prop:=fun xs H Q=>∃ea C b,H ea=some (zq ea C)/\GQ K C/\((∃D,xs=[.ref ea,.ref D]/\aav K (.ref C) (.ref D)=some b)\/(∃n,xs=[.ref ea,.ty n]/\aav K (.ref C) (.type n)=some b) \/
 (∃(t:Addr) (ds:List Addr),xs=[.ref ea,.ref t]/\H t=some (.tup (ds.map V.ref))/\ab3 K (.ref C) (ds.map aal)=some b))/\Q (.bl b) H
theorem eZ:∀{ds:List Addr} {its:List Value},Vals (ds.map V.ref) its->its=ds.map aal
 | [],_,.nil=>rfl
 | d :: ds,_,.cons r t=>by rw [eZ t,show _=aal d from r]; rfl
section
variable {X:Cx}
theorem zN:dB X (.builtin "isinstance") (Mz X.K):=by
 intro pins s σ H xs us Q I r h
 obtain ⟨ea,C,b,Ay,k,cs,q⟩:=h
 have ex:lA ea C s.heap:=(show bp X.prog X.w H s.heap ea (zq ea C) from I.hok ea _ Ay).1
 rcases cs with ⟨D,rfl,e⟩ | ⟨n,rfl,e⟩ | ⟨t,ds,rfl,ht,e⟩
 · obtain ⟨u,v,rfl,ru,rv⟩:=Vals.two r
   obtain rfl:u=aal ea:=ru
   obtain rfl:v=aal D:=rv
   exact aaL (m9 k) I.lV ex e (fun z=>nomatch z) fun tk=>⟨.bl b,H,I.tok tk,rfl,q⟩
 · obtain ⟨u,v,rfl,ru,rv⟩:=Vals.two r
   obtain rfl:u=aal ea:=ru
   obtain rfl:v=adn n:=rv
   exact aaL (m9 k) I.lV ex e (fun z=>nomatch z) fun tk=>⟨.bl b,H,I.tok tk,rfl,q⟩
 · obtain ⟨u,v,rfl,ru,rv⟩:=Vals.two r
   obtain rfl:u=aal ea:=ru
   obtain rfl:v=aal t:=rv
   obtain ⟨_,its,rl,o,h1,h2,n,h3⟩:=(show bp X.prog X.w H s.heap t (.tup (ds.map V.ref)) from I.hok t _ ht)
   rw [eZ rl] at h3
   obtain ⟨oc,od,Yn,osl⟩:=o
   simp only at h2 h3
   subst h2 h3
   exact PySem.W.kia_tup (m9 k) I.lV ex h1 e (fun z=>nomatch z) fun tk=>⟨.bl b,H,I.tok tk,rfl,q⟩
end
theorem o8 {a p}:bF (.JoinedStr a p):=fI fun _ _ z=>nomatch z
end L2
namespace TW
open PySem L2
def bQ (P:Program)(w:World)(K:ZY)(mg:Str->Option Value)(base:Heap)(x:Str)(ps:List Str)(k:Nat)(sp:Sp):Prop:=
 ∃f fd,aP P w K mg base (lu P w base) k f fd ps sp/\aaZ K (.ref f)=true/\Binds K fd ps []/\mg x=some (.ref f)
theorem bQ.mono {P:Program}{w:World}{K:ZY}{mg:Str->Option Value}{base:Heap}{x:Str}{ps:List Str}{j k:Nat}{sp:Sp}(h:bQ P w K mg base x ps j sp)(hk:j<=k):bQ P w K mg base x ps k sp:=
 let ⟨f,fd,a,b,c,d⟩:=h; ⟨f,fd,a.mono hk,b,c,d⟩
end TW
namespace L3
open PySem PySem.Spec PyProof.Rows L2
structure J6 (X:Cx)(ps:List Expr)(n:Nat)(t:TF):Prop where
 h:PF X ps n t
section
variable {X:Cx}{a b c e o:Expr}{es:List Expr}{ta tb tc te:TE}{t:TA}{tf:TF}{pos:Pos}{n:Nat}
theorem fn:J6 X [] 0 (fun _ H k=>k H):=⟨Jf⟩
theorem fs {x:Str}{j}(hr:J6 X es n tf)(hx:x.length<=2000:=by decide):J6 X (.Constant (.str x) j pos :: es) (n + 1) tf:=⟨Jg hx hr.h⟩
theorem fv (ha:SE X a ta)(hr:J6 X es n tf):J6 X (.FormattedValue a (-1) none pos :: es) (n + 1) (fun σ H k=>ta σ H fun x H1=>Ka x/\tf σ H1 k):=⟨Jh ha.h hr.h⟩
theorem K5 (h:J6 X (a :: b :: es) n tf)(hn:n<=1000:=by decide):SE X (.JoinedStr (a :: b :: es) pos) (fun σ H Q=>tf σ H fun H1=>∀x,Q (.str x) H1):=⟨EE h.h hn⟩
theorem qe {x:Str}{C:Addr}{tl:List Value}{Ex:XK}{np cpos:Pos}(hx:mr X Ex)(cc:Xc X.K X.mg x C tl)(hb:tl.contains (.type "BaseException")=true)(hg:Gl X x)(ha:SA X [a] t)(hc:X.calm=true:=by rfl)(hd:(x == ("__debug__":Str))=false:=by decide) :
   SS X (.Raise (some (.Call (.Name x np) [a] [] cpos)) none pos) (Cu Ex C t):=⟨BN hx cc hb hg hc ha.h hd⟩
theorem i4 {x:Str}{p:Pos}{ps:List Str}{kk:Nat}{sp:Sp}{Ex:XK}(hp:Passes (lu X.prog X.w X.base) X Ex)(D:TW.bQ X.prog X.w X.K X.mg X.base x ps kk sp)(hr:dn kk X.A)(hg:Gl X x)(ha:SA X (e :: es) t)(hdb:(x == ("__debug__":Str))=false:=by decide) :
   SE X (.Call (.Name x p) (e :: es) [] pos) (nS sp [] Ex t):=
 let ⟨_,_,G,kp,b,m⟩:=D
 ⟨qc G hr hg m kp b .nil hp ha.h.pa hdb ((ha.h.ns e es rfl).1.h es X.env) ((ha.h.ns e es rfl).2 pos X.env)⟩
theorem qR {KK:ZY}(hK:X.K=KK:=by first | exact bz | rfl):SC X (.builtin "isinstance") (Mz KK):=by
 subst hK
 exact ⟨zN⟩
end
end L3
namespace L2
open PySem PySem.Spec PyProof.Rows
end L2
namespace L3
open PySem PySem.Spec PyProof.Rows L2
end L3
namespace L2
open PySem PySem.Spec PyProof.Rows
section
variable {X:Cx}{a:Expr}{ta:TA}{p1 p2 pos dQ:Pos}
def wQ:V->List V->Hp->VK->Prop:=fun x vs H Q=>∃l xs y i,x=.ref l/\vs=[.int i,y]/\H l=some (.lst xs)/\0<=i/\i<=(xs.length:Int)/\xs.length < 1000/\Q .bN (upd H l (.lst (xs.take i.toNat++y :: xs.drop i.toNat)))
theorem yD:Nr X "list.insert" wQ:=by
 intro pins s σ H x vs v us Q I rx rv h
 obtain ⟨l,xs,y,i,rfl,rfl,hH,h0,hk,hz,q⟩:=h
 cases rx
 obtain ⟨u1,u,rfl,⟨tk,rfl⟩,ru⟩:=Vals.two rv
 obtain ⟨z,its,n,r,hl,e⟩:=I.rR hH
 have hlen:=r.length
 have fits:¬(!abl i)=true:=by
   have:abl i=true:=by
     unfold abl
     simp
     omega
   simp [this]
 have few:its.toArray.size<=sizeLine:=by rw [aaa]; exact Z8 (show _<=1000 by omega) (by decide)
 refine call_meets F.slot_list_insert ⟨_,e,rfl⟩ F.entry_list_insert (F.args_list_insert_3 _ _ _) (PySem.AutoSeq1.list_insert_list_int_val_1 l its.toArray n i tk u fits few) ⟨e,?_⟩
 refine ⟨.bN,_,I.D5 (its':=its.take i.toNat++u :: its.drop i.toNat) hH e ?_ ((r.take i.toNat).append (.cons ru (r.drop i.toNat))) ?_,rfl,q⟩
 · have e1:(if i < 0 then (i + (its.toArray.size:Int)).toNat else min i.toNat its.toArray.size)=i.toNat:=by
     rw [if_neg (by omega),aaa]
     omega
   dsimp only
   rw [e1]
   apply Array.ext'
   simp
   exact aaG (by rw [aa7]; exact Z3 _)
 · rw [Z0,aam,aak,aa7]
   exact Z8 (show _<=1000 by omega) (by decide)
end
end L2
namespace L3
open PySem PySem.Spec PyProof.Rows L2
section
variable {X:Cx}{a b c e o:Expr}{es:List Expr}{ta tb tc te:TE}{t:TA}{pos:Pos}
theorem insert {apos:Pos}{KK:ZY}{e1 e2:Expr}(ho:SE X o ta)(ha:SA X [e1,e2] t)(hn:bF e2:=by first | exact jG | exact fz | exact fw | exact iY)(hbase:abf o "insert" X.env (eval o X.env)=eval o X.env:=by rfl)(hline:(apos.endLine == pos.line)=true:=by rfl)(hK:X.K=KK:=by first | exact bz | rfl) :
   SE X (.Call (.Attribute o "insert" apos) [e1,e2] [] pos) (Gr KK "list" wQ ta t):=by
 subst hK
 exact ⟨Ga abh PySem.F.slot_list_insert PySem.F.type_list_insert yD ho.h ha.h.pa hbase (by rw [(ha.h.ns e1 [e2] rfl).1.h [e2] X.env,hn.h [] X.env]; rfl) hline ((ha.h.ns e1 [e2] rfl).1.h [e2] X.env) ((ha.h.ns e1 [e2] rfl).2 pos X.env)⟩
end
end L3
namespace L2
open PySem PySem.Spec PyProof.Rows
end L2
namespace L3
open PySem PySem.Spec PyProof.Rows L2
end L3
namespace L2
open PySem PySem.Spec PyProof.Rows
theorem q9 {α β:Type}{f g:α->Option β}:∀{l:List α},(∀x∈l,f x=g x)->l.filterMap f=l.filterMap g
 | [],_=>rfl
 | x :: r,h=>by rw [abb,abb,h x aa6,q9 fun y hy=>h y (List.mem_cons.mpr (.inr hy))]
theorem iy (its:List Value):acI its.toArray none none (some (-1))=its.reverse.toArray:=by
 have hb:sliceBounds none none (some (-1)) its.toArray.size=(((its.length:Nat):Int) - 1,-1,-1):=by
   simp [sliceBounds]
 have hr:sliceRange (((its.length:Nat):Int) - 1) (-1) (-1)=(aaA its.length).map fun k=>its.length - 1 - k:=by
   unfold sliceRange
   have h1:¬ ((-1:Int) > 0):=by decide
   simp only [h1,if_false]
   have hc:(if ((its.length:Nat):Int) - 1 > -1 then (((its.length:Nat):Int) - 1 - -1 - -1 - 1) / (- -1) else 0).toNat=its.length:=by
     simp only [Int.neg_neg,ad1]
     split <;> omega
   rw [hc]
   refine acE fun k hk=>?_
   have:=List.mem_range.mp hk
   omega
 unfold acI
 rw [hb]
 show ((sliceRange (((its.length:Nat):Int) - 1) (-1) (-1)).filterMap (its.toArray[·]?)).toArray=_
 rw [hr,acR]
 have e:(aaA its.length).filterMap ((fun x=>its.toArray[x]?) ∘ fun k=>its.length - 1 - k)=((aaA its.length).map (0 + ·)).filterMap (its.reverse.toArray[·]?):=by
   rw [acR]
   refine q9 fun k hk=>?_
   have Py:=List.mem_range.mp hk
   show its.toArray[its.length - 1 - k]? = its.reverse.toArray[0 + k]?
   rw [Nat.zero_add,adP,adP,List.getElem?_reverse Py]
 rw [e,pick_run,abQ,aaG (by simp)]
def Na (K:ZY)(te Fb:TE):TE:=fun σ H Q=>te σ H fun x H1=>Fb σ H1 fun y H2=>y=.int (-1)/\∃a xs,x=.ref a/\ao K H2 a xs/\∀p,H2 p=none->Q (.ref p) (upd H2 p (.lst xs.reverse))
theorem Jc {X:Cx}{e st:Expr}{te Fb:TE}{p2 pos:Pos}(he:PE X e te)(hst:PE X st Fb):PE X (.Subscript e (.Slice none none (some st) p2) pos) (Na X.K te Fb):=by
 intro pins s σ H Q I h
 refine adh (bt (he pins s σ H _ I h) fun v s1 ⟨x,H1,I1,r1,q1⟩=>?_)
 refine wpAny_Slice ?_
 rw [ac8]
 refine wpAny_pure (wpAny_pure ?_)
 rw [evalPart_some]
 refine bt (hst pins s1 σ H1 _ I1 q1) fun vs s3 ⟨y,H3,I3,ry,hy,a,xs,hx,hs,q⟩=>?_
 subst hy hx
 obtain ⟨t,rfl⟩:=ry
 cases r1
 have I4:Inv X pins σ H3 { s3 with heap:=s3.heap.push { cls:=.type "slice",data:=.fields #[.none,.none,.int (-1) t] } }:=I3.kept (t':=s3.toks) fun b ob q=>Z4 _ q
 obtain ⟨its,r,ht,hz⟩:=I4.list hs
 have hlen:=r.length
 show wpAny (model X.prog X.w) X.A (subscriptTail e (.Slice none none (some st) p2) (.ref a) (.ref s3.heap.objs.size)) (EP X pins σ Q) X.xe { s3 with heap:=s3.heap.push { cls:=.type "slice",data:=.fields #[.none,.none,.int (-1) t] } }
 refine tail_any (ops:=[.ref a,.ref s3.heap.objs.size]) ht.isList.typeIs slot_list_getitem.lookup ?_ (by with_unfolding_all rfl)
 refine acq ht.isList (aci ..) .none .none (.int (-1) t) (by simp) ?_ (by rw [aaa] <;> omega)
 rw [iy]
 refine ⟨.ref (s3.heap.push { cls:=.type "slice",data:=.fields #[.none,.none,.int (-1) t] }).objs.size,_,I4.laid (t':=s3.toks) (o:=.lst xs.reverse) (fun b ob q=>Z4 _ q) (Z3 _) ?_,rfl,q _ (I4.hok.fresh (Z3 _))⟩
 exact ⟨by rw [acF]; exact hz,_,0,r.reverse,aas _ rfl⟩
end L2
namespace L3
open PySem PySem.Spec PyProof.Rows L2
theorem MX {X:Cx}{a b:Expr}{ta tb:TE}{KK:ZY}{p2 pos:Pos}(ha:SE X a ta)(hb:SE X b tb)(hK:X.K=KK:=by first | exact bz | rfl):SE X (.Subscript a (.Slice none none (some b) p2) pos) (Na KK ta tb):=by
 subst hK
 exact ⟨Jc ha.h hb.h⟩
end L3
namespace TW
end TW
namespace L3
open PySem PySem.Spec PyProof.Rows L2
section
variable {X:Cx}{a b o i value:Expr}{ta tb td ty tv:TE}{pos:Pos}
theorem dput {pos':Pos}(hu:X.A.units + 1 < cLine)(ho:SE X o td)(hi:SE X i ty)(hv:SE X value tv)(hs:abN value (some (.Subscript o i pos')) pos.line X.env=pure false:=by rfl):SS X (.Assign [.Subscript o i pos'] value pos) (Gh td ty tv):=⟨EM hu ho.h hi.h hv.h hs⟩
end
end L3
namespace L2
open PySem PySem.Spec PyProof.Rows
theorem slicePick_all (its:List Value):acI its.toArray none none (some 1)=its.toArray:=by
 have hb:sliceBounds none none (some 1) its.toArray.size=(0,(its.length:Int),1):=by
   simp [sliceBounds]
 have hr:sliceRange 0 (its.length:Int) 1=(aaA its.length).map (0 + ·):=by
   unfold sliceRange
   have h1:((1:Int) > 0):=by decide
   simp only [h1,if_true]
   have hc:(if (its.length:Int) > 0 then ((its.length:Int) - 0 + 1 - 1) / 1 else 0).toNat=its.length:=by
     simp only [ad1]
     split <;> omega
   rw [hc]
   refine acE fun k hk=>?_
   have:=List.mem_range.mp hk
   omega
 unfold acI
 rw [hb]
 show ((sliceRange 0 (its.length:Int) 1).filterMap (its.toArray[·]?)).toArray=_
 rw [hr,pick_run,abQ,aaG (by simp)]
def el (n:Int)(xs:List V):List V:=if n=1 then xs else xs.reverse
theorem zc {n:Int}{xs:List V}:(el n xs).length=xs.length:=by unfold el; split <;> simp
def GB (K:ZY)(te Fb:TE):TE:=fun σ H Q=>te σ H fun x H1=>Fb σ H1 fun y H2=>∃n,y=.int n/\(n=1\/n = -1)/\∃a xs,x=.ref a/\ao K H2 a xs/\∀p,H2 p=none->Q (.ref p) (upd H2 p (.lst (el n xs)))
theorem EH {X:Cx}{e st:Expr}{te Fb:TE}{p2 pos:Pos}(he:PE X e te)(hst:PE X st Fb):PE X (.Subscript e (.Slice none none (some st) p2) pos) (GB X.K te Fb):=by
 intro pins s σ H Q I h
 refine adh (bt (he pins s σ H _ I h) fun v s1 ⟨x,H1,I1,r1,q1⟩=>?_)
 refine wpAny_Slice ?_
 rw [ac8]
 refine wpAny_pure (wpAny_pure ?_)
 rw [evalPart_some]
 refine bt (hst pins s1 σ H1 _ I1 q1) fun vs s3 ⟨y,H3,I3,ry,n,hy,hn,a,xs,hx,hs,q⟩=>?_
 subst hy hx
 obtain ⟨t,rfl⟩:=ry
 cases r1
 have I4:Inv X pins σ H3 { s3 with heap:=s3.heap.push { cls:=.type "slice",data:=.fields #[.none,.none,.int n t] } }:=I3.kept (t':=s3.toks) fun b ob q=>Z4 _ q
 obtain ⟨its,r,ht,hz⟩:=I4.list hs
 have hlen:=r.length
 show wpAny (model X.prog X.w) X.A (subscriptTail e (.Slice none none (some st) p2) (.ref a) (.ref s3.heap.objs.size)) (EP X pins σ Q) X.xe { s3 with heap:=s3.heap.push { cls:=.type "slice",data:=.fields #[.none,.none,.int n t] } }
 refine tail_any (ops:=[.ref a,.ref s3.heap.objs.size]) ht.isList.typeIs slot_list_getitem.lookup ?_ (by with_unfolding_all rfl)
 refine acq ht.isList (aci ..) .none .none (.int n t) (by rcases hn with rfl | rfl <;> simp) ?_ (by rw [aaa] <;> omega)
 have key:∃eV:List Value,acI its.toArray none none (some n)=eV.toArray/\Vals (el n xs) eV:=by
   rcases hn with rfl | rfl
   · exact ⟨its,slicePick_all its,r⟩
   · exact ⟨its.reverse,iy its,r.reverse⟩
 obtain ⟨eV,e2,r2⟩:=key
 rw [e2]
 refine ⟨.ref (s3.heap.push { cls:=.type "slice",data:=.fields #[.none,.none,.int n t] }).objs.size,_,I4.laid (t':=s3.toks) (o:=.lst (el n xs)) (fun b ob q=>Z4 _ q) (Z3 _) ?_,rfl,q _ (I4.hok.fresh (Z3 _))⟩
 exact ⟨by rw [zc]; exact hz,_,0,r2,aas _ rfl⟩
def Gd:R2:=fun x y H Q=>∃a b:Str,x=.str a/\y=.str b/\a.length + b.length<=sizeLine/\Q (.str (a++b)) H
theorem Et {X:Cx}:hG X (binaryOp .Add) Gd:=by
 intro pins s σ H x y u v Q I rx ry h
 obtain ⟨a,b,rfl,rfl,hl,q⟩:=h
 obtain ⟨t,rfl⟩:=rx
 obtain ⟨t2,rfl⟩:=ry
 exact PyProof.Rows.add_str (fun t' tk=>⟨.str (a++b),H,I.tok _,⟨_,rfl⟩,q⟩) hl
def wO (K:ZY):V->List V->Hp->VK->Prop:=fun x vs H Q=>∃(l:Addr) (xs:List Int) (y:Int) (j:Nat),x=.ref l/\vs=[.int y]/\ao K H l (xs.map V.int)/\xs[j]? = some y/\(∀m,m < j->xs[m]? ≠ some y)/\xs.length<=1000/\Q (.int j) H
theorem wu:∀{xs:List Int} {its:List Value} {i:Nat} {a:Value},Vals (xs.map V.int) its->its[i]? = some a->∃t,a=.int (xs.getD i 0) t
 | [],_,_,_,.nil,h=>by simp at h
 | x :: xs,_,0,a,.cons r _,h=>by
   obtain ⟨t,e⟩:=r
   simp at h
   subst h
   exact ⟨t,e⟩
 | x :: xs,_,i + 1,a,.cons _ q,h=>by
   obtain ⟨t,e⟩:=wu (i:=i) q (by simpa using h)
   exact ⟨t,by simpa using e⟩
theorem yC {X:Cx}:Nt X "list.index" (wO X.K):=by
 intro pins s σ H x vs v us Q I rx rv h
 obtain ⟨l,xs,y,j,rfl,rfl,hq,hj,zt,FF,q⟩:=h
 cases rx
 obtain ⟨u,rfl,ru⟩:=rv.one
 obtain ⟨its,rl,pl,hz⟩:=I.list hq
 have hlen:=rl.length
 rw [ZX] at hlen
 have Tf:j < xs.length:=(List.getElem?_eq_some_iff.mp hj).1
 obtain ⟨o,ho,DH,n,hd⟩:=pl.isList
 obtain ⟨oc,od,Yn,osl⟩:=o
 simp only at DH hd
 subst DH
 subst hd
 have tx:∀m (hm:m < its.toArray.size),∃t,its.toArray[m]=acL (xs[m]'(by simp at hm; omega)) t:=fun m hm=>by
   have Lu:m < xs.length:=by simp at hm; omega
   obtain ⟨t,e⟩:=wu (xs:=xs) (i:=m) rl (show its[m]? = some (its.toArray[m]) by simp at hm ⊢)
   refine ⟨t,e.trans ?_⟩
   rw [aan,ZZ Lu]
   rfl
 let e:Value->Bool:=fun a=>match a with | .int z _=>decide (z=y) | _=>false
 refine call_meets F.slot_list_index ⟨_,ho,rfl⟩ F.entry_list_index (F.args_list_index_2 _ _) (SeqAt.list_indexAt l its.toArray n od osl u e j (by simp; omega) (by omega) ?hit ?no) ⟨ho,?eqs,?fin⟩
 case hit=>
   obtain ⟨t,et⟩:=tx j (by simp; omega)
   rw [et]
   show decide (_=y)=true
   rw [(List.getElem?_eq_some_iff.mp hj).2]
   simp
 case no=>
   intro m hm Xb
   obtain ⟨t,et⟩:=tx m hm
   rw [et]
   show decide (_=y)=false
   have Lu:m < xs.length:=by simp at hm; omega
   have:=zt m Xb
   rw [ZZ Lu] at this
   simpa using this
 case eqs=>
   intro a ha
   obtain ⟨m,hm,em⟩:=Array.getElem_of_mem ha
   obtain ⟨t,et⟩:=tx m hm
   rw [em] at et
   have r1:RelV (V.int (xs[m]'(by simp at hm; omega))) a:=⟨t,et⟩
   have h1:=tX (A:=X.A.in1) (s:=s) r1 ru rfl rfl
   have h2:kl (V.int (xs[m]'(by simp at hm; omega))) (.int y)=e a:=by
     rw [et]
     show decide (xs[m]'(by simp at hm; omega)=y)=decide (_=y)
     rfl
   rw [h2] at h1
   exact h1
 case fin=>exact ⟨.int j,H,I.tok _,⟨_,rfl⟩,q⟩
end L2
namespace L3
open PySem PySem.Spec PyProof.Rows L2
section
variable {X:Cx}{a b c e o:Expr}{es:List Expr}{ta tb tc te:TE}{t:TA}{pos:Pos}
theorem Ci {KK:ZY}{p2 pos:Pos}(ha:SE X a ta)(hb:SE X b tb)(hK:X.K=KK:=by first | exact bz | rfl):SE X (.Subscript a (.Slice none none (some b) p2) pos) (GB KK ta tb):=by
 subst hK
 exact ⟨EH ha.h hb.h⟩
theorem Cg {KK:ZY}{p2:Pos}(ha:SE X a ta)(hb:SE X b tb)(hc:SE X c tc)(hK:X.K=KK:=by first | exact bz | rfl):SE X (.Subscript a (.Slice (some b) (some c) none p2) pos) (Nc (EZ KK) ta (pE tb) (pE tc)):=by
 subst hK
 exact ⟨jJ qj ha.h (jK hb.h) (jK hc.h)⟩
theorem Ij:SO X (binaryOp .Add) Gd:=⟨Et⟩
theorem KS:SE X (.Dict [] [] pos) Cr:=⟨BE⟩
theorem XT {tg:Expr}{p:Pos}(hg:Gl X "range")(hm:X.mg "range"=none)(ha:SA X [a,b] t)(hb:bF b:=by first | exact fz | exact iY | exact fw | exact jG | exact uV):SI X tg (.Call (.Name "range" p) [a,b] [] pos) (FW t):=
 ⟨yY hg hm ha.h.pa (by rw [(ha.h.ns a [b] rfl).1.h [b] X.env,hb.h [] X.env]; rfl) (by rw [hb.h [] X.env]; rfl)⟩
theorem uH {apos:Pos}{KK:ZY}(ho:SE X o ta)(ha:SA X [e] t)(hbase:abf o "index" X.env (eval o X.env)=eval o X.env:=by rfl)(hline:(apos.endLine == pos.line)=true:=by rfl)(hK:X.K=KK:=by first | exact bz | rfl) :
   SE X (.Call (.Attribute o "index" apos) [e] [] pos) (Gr KK "list" (wO KK) ta t):=by
 subst hK
 exact Nx abh PySem.F.slot_list_index PySem.F.type_list_index ⟨yC⟩ ho ha hbase hline
end
end L3
namespace L2
open PySem PySem.Spec PyProof.Rows
section
variable {prog:Program}{w:World}{K:Type}[DecidableEq K]{knd:HeapKind prog w K}{A:Around}{E:Value->Shared->Prop}{s:Shared}
theorem nJ {d a:Addr}{xs:List (K×Addr×Value)}{k:K}{v:Value}{Q:Unit->Shared->Prop}(hu:knd.room A)(hkey:knd.is s.heap k a)(hm:s.heap.DictOfH knd d xs)(hsz:xs.length<=sizeLine)
   (hQ:∀h',h'.DictOfH knd d (storedH xs k a v)->aaH d s.heap h'->Q () { s with heap:=h' }):wpAny (model prog w) A (dictSetHashed d (.ref a) (knd.hash k) v) Q E s:=by
 obtain ⟨o,es,ep,ho,hc,hd,he,his,hn⟩:=hm
 have WQ:es.size<=sizeLine:=by rw [size_of_entries he]; exact hsz
 unfold dictSetHashed
 try with_reducible refine wpAny_holding ?_
 refine wpAny_bind (wpAny_dictFind_heap hu hkey ho hd he his hn (fun zt=>?_) (fun j p hj=>?_))
 · have e0:=storedH_new (atKey_none_of_get zt) a v
   have P8:=not_mem_keys_of_get zt
   refine wpAny_bind (wpAny_rule (wpAny_updateDictKeys (hz:=WQ) ho hd (hQ _ ⟨_,_,ep + 1,acw _ ho (Obj.isFreed_of_dict (Obj.data_mapDictKeys hd _)),hc.mapDictKeys _,Obj.data_mapDictKeys hd _,?_,?_,?_⟩ (abM ..))))
   · rw [e0]
     simp [he,entryOfKey]
   · rw [e0]
     intro x hx
     have h2:knd.is s.heap x.1 x.2.1:=by
       rcases List.mem_append.mp hx with hx | hx
       · exact his x hx
       · have ex:x=(k,a,v):=by simpa using hx
         subst ex
         exact hkey
     exact knd.keeps h2 ho hd (abM ..)
   · rw [e0,Z5,acW]
     refine ⟨hn,by simp,fun x hx y hy=>?_⟩
     have ey:y=k:=by simpa using hy
     subst ey
     exact fun e=>P8 (e ▸ hx)
 · have e0:=storedH_old (atKey_of_get hn hj) a v
   refine wpAny_bind (wpAny_rule (wpAny_bind (wpAny_updateDict ho hd (wpAny_point (hQ _ ⟨_,_,ep,acw _ ho (Obj.isFreed_of_dict (Obj.data_mapDict hd _)),hc.mapDict _,Obj.data_mapDict hd _,?_,?_,?_⟩ (abM ..))))))
   · rw [e0]
     have:=modify_map_putAt (entryOfKey knd) (fun e:DictEntry=>{ e with val:=v }) k v (fun _ _=>rfl) hn hj
     rw [← he] at this
     obtain ⟨l⟩:=es
     simpa using this
   · rw [e0]
     intro x hx
     obtain ⟨y,hy,rfl⟩:=List.mem_map.mp hx
     unfold putAt
     split <;> exact knd.keeps (his y hy) ho hd (abM ..)
   · rw [e0,keys_map_putAt]
     exact hn
def dz (xs more:List (K×Addr×Value)):List (K×Addr×Value):=more.foldl (fun acc x=>storedH acc x.1 x.2.1 x.2.2) xs
theorem sW (xs:List (K×Addr×Value))(k:K)(a:Addr)(v:Value):(storedH xs k a v).length<=xs.length + 1:=by
 unfold storedH
 split <;> simp
theorem kY:∀(more xs:List (K×Addr×Value)),(dz xs more).length<=xs.length + more.length
 | [],xs=>Z3 _
 | x :: r,xs=>by
   have h1:=kY r (storedH xs x.1 x.2.1 x.2.2)
   have h2:=sW xs x.1 x.2.1 x.2.2
   show (dz (storedH xs x.1 x.2.1 x.2.2) r).length<=_
   rw [aam]
   omega
theorem pZ {xs more:List (K×Addr×Value)}{i:Nat}{x:K×Addr×Value}(h:more[i]? = some x):dz xs (more.take (i + 1))=storedH (dz xs (more.take i)) x.1 x.2.1 x.2.2:=by
 unfold dz
 rw [Z9,h,List.foldl_append]
 rfl
theorem Ib {nm:String}{d o:Addr}{xs more:List (K×Addr×Value)}{Q:Unit->Shared->Prop}(hu:knd.room A)(hdo:d≠o)(hoS:(o == abc)=false)(hd:s.heap.DictOfH knd d xs)(ho:s.heap.DictOfH knd o more)(hne:xs≠[]\/more=[])(hsz:xs.length + more.length<=sizeLine)
   (hQ:∀h',h'.DictOfH knd d (dz xs more)->aaH d s.heap h'->Q () { s with heap:=h' }):wpAny (model prog w) A (ac1 nm d o) Q E s:=by
 obtain ⟨od,Vu,Ze,Tn,hcd,Td,Te,W0,yj⟩:=id hd
 obtain ⟨oo,wc,Zf,NV,Zo,Ax,heo,hiso,zt⟩:=id ho
 have hlen:wc.size=more.length:=size_of_entries heo
 unfold ac1
 rw [if_neg (by simpa using hdo)]
 unfold Builtin.Dict.showsAll
 rw [if_neg (by rw [hoS]; exact aag)]
 refine wpAny_bind (wpAny_pure ?_)
 refine wpAny_bind (wpAny_dictEntries NV Ax ?_)
 have loop:wpAny (model prog w) A (do
     let KZ ← dictEpoch o
     let l ← dictEntries o
     forIn [:l.size] adp fun i (_:PUnit)=>(do
         let l' ← dictEntries o
         match l'[i]? with
           | some e=>do
             holding [e.key,e.val] (dictSetHashed d e.key e.hash e.val)
             let ep' ← dictEpoch o
             if (ep' != KZ)=true then do
                 (unsupported (toString nm++toString ":source-changed-during-callback"):Sem PUnit)
                 pure (aa8 adp)
               else pure (aa8 adp)
           | _=>do
             (unsupported "internal:dict-merge":Sem PUnit)
             pure (aa8 adp):Sem (ForInStep PUnit))
     pure ()) Q E s:=by
   refine wpAny_bind (wpAny_dictEpoch NV Ax ?_)
   refine wpAny_bind (wpAny_dictEntries NV Ax ?_)
   refine wpAny_bind ?_
   rw [Std.Legacy.Range.forIn_eq_forIn_range']
   simp only [Std.Legacy.Range.size,adW,Nat.add_sub_cancel,Nat.div_one]
   refine ab2 _ (fun rest _ s'=>∃h' i,s'={ s with heap:=h' }/\rest=List.range' i (wc.size - i)/\i<=wc.size/\h'.DictOfH knd d (dz xs (more.take i))/\h'.get? o=some oo/\aaH d s.heap h') _ ?_ ?_ _ _
     ⟨s.heap,0,rfl,by simp,aaI _,hd,NV,Heap.SameBut.refl _ _⟩
   · rintro x rest b s' ⟨h',i,rfl,hr,hi,ow,Hw,pW⟩
     have hlt:i < wc.size:=by
       rcases Nat.lt_or_ge i wc.size with h | h
       · exact h
       · rw [Nat.sub_eq_zero_of_le h] at hr
         simp at hr
     obtain ⟨rfl,fG⟩ : x=i/\rest=List.range' (i + 1) (wc.size - (i + 1)):=by
       have e:wc.size - i=(wc.size - (i + 1)) + 1:=by omega
       rw [e,List.range'_succ] at hr
       injection hr with h1 h2
       exact ⟨h1,h2⟩
     refine wpAny_bind (wpAny_dictEntries Hw Ax ?_)
     have Lv:x < more.length:=by omega
     have DK:more[x]? = some more[x]:=ZZ Lv
     have hex:wc[x]? = some (entryOfKey knd more[x]):=by rw [entry_at heo x,DK]; rfl
     rw [hex]
     have Xd:(dz xs (more.take x)).length<=sizeLine:=by
       have e1:=kY (more.take x) xs
       have e2:(more.take x).length<=more.length:=by rw [aak]; omega
       omega
     have Pu:knd.is h' more[x].1 more[x].2.1:=knd.keeps (hiso _ (acn Lv)) Tn Td pW
     show wpAny _ _ (holding [_,_] (dictSetHashed d (.ref more[x].2.1) (knd.hash more[x].1) more[x].2.2) >>= _) _ _ _
     refine wpAny_bind (wpAny_holding (nJ hu Pu ow Xd fun SU Pk LH=>?_))
     have FL:SU.get? o=some oo:=(LH.2 o (Ne.symm hdo)).trans Hw
     refine wpAny_bind (wpAny_dictEpoch FL Ax ?_)
     rw [if_neg (by simp)]
     exact wpAny_pure ⟨SU,x + 1,rfl,fG,hlt,by rw [pZ DK]; exact Pk,FL,pW.trans LH⟩
   · rintro b s' ⟨h',i,rfl,hr,hi,ow,Hw,pW⟩
     have Pr:i=wc.size:=by
       rcases Nat.lt_or_ge i wc.size with h | h
       · have e:wc.size - i=(wc.size - (i + 1)) + 1:=by omega
         rw [e,List.range'_succ] at hr
         exact nomatch hr
       · exact Nat.le_antisymm hi h
     refine wpAny_pure (hQ h' ?_ pW)
     rw [Pr,hlen,aao] at ow
     exact ow
 dsimp only
 split
 · rename_i hfew
   refine wpAny_bind (wpAny_dictEntries Tn Td ?_)
   split
   · rename_i Pp
     exfalso
     rcases hne with z | z
     · have h0:Vu = #[]:=Array.isEmpty_iff.mp Pp
       rw [h0] at Te
       exact z (List.length_eq_zero_iff.mp (by have:=congrArg abD Te; simpa using this.symm))
     · have h0:wc = #[]:=by
         rw [z] at hlen
         exact Array.eq_empty_of_size_eq_zero hlen
       rw [h0] at hfew
       simp at hfew
   · exact loop
 · exact loop
end
section
variable {X:Cx}{pins:List (Addr×Obj)}{σ:St}{H:Hp}{s:Shared}{E:Value->Shared->Prop}
def putAllT (d:List (List Key×V))(kvs:List (List Key×V)):List (List Key×V):=kvs.foldl (fun d p=>putK d p.1 p.2) d
theorem lh:∀(kvs d:List (List Key×V)),(putAllT d kvs).length<=d.length + kvs.length
 | [],d=>by simp [putAllT]
 | p :: r,d=>by
   have h:=lh r (putK d p.1 p.2)
   have h2:=bL d p.1 p.2
   show (putAllT (putK d p.1 p.2) r).length<=_
   rw [aam]
   omega
theorem KT.merge {H:Hp}:∀{uK:List (List Key×V)} {more:List (List Key×Addr×Value)},KT H uK more->∀{kvs:List (List Key×V)} {xs:List (List Key×Addr×Value)},KT H kvs xs->KT H (putAllT kvs uK) (dz xs more):=by
 intro uK more r
 induction r with
 | nil=>exact fun h=>h
 | @cons p q ps qs h t ih=>
   intro kvs xs k
   obtain ⟨h1,h2,h3⟩:=h
   have k2:=k.put p.1 h2 h3
   rw [h1] at k2
   have e:putAllT kvs (p :: ps)=putAllT (putK kvs q.1 p.2) ps:=by rw [← h1]; rfl
   rw [e]
   exact ih k2
theorem zS {d o:Addr}{kvs uK:List (List Key×V)}{Q:Value->Shared->Prop}(hu:X.A.units + 1 < cLine)(I:Inv X pins σ H s)(ed:H d=some (.dT kvs))(eo:H o=some (.dT uK))(hdo:d≠o)(hne:kvs≠[]\/uK=[])(hsz:kvs.length + uK.length<=sizeLine)
   (h:∀s',Inv X pins σ (upd H d (.dT (putAllT kvs uK))) s'->Q .none s'):wpAny (model X.prog X.w) X.A (call (.builtin "dict.update") [.ref d,.ref o]) Q E s:=by
 obtain ⟨z1,WI,xs,ME,Su⟩:=v8 I.hok ed
 obtain ⟨z2,hd2,more,MF,Vm⟩:=v8 I.hok eo
 have l1:=Paired.length ME
 have l2:=Paired.length MF
 have M:MeetsIn X.prog X.w (Builtin.«dict.update» ⟨[.ref d,.ref o],[]⟩) (fun B R s=>(tupleKind (aO X.prog X.w)).room B.in1/\s.heap.DictOfH (tupleKind (aO X.prog X.w)) d xs/\s.heap.DictOfH (tupleKind (aO X.prog X.w)) o more /\
     ∀h',h'.DictOfH (tupleKind (aO X.prog X.w)) d (dz xs more)->aaH d s.heap h'->R (.ok (.ret .none)) { s with heap:=h' }):=
   .of_wp fun A R s ⟨hr,hd,ho,hh⟩=>by
     unfold Builtin.«dict.update»
     refine wpAny_bind ?_
     unfold abX
     refine wpAny_bind (wpAny_notOrdered_dict hd.typeIs ?_)
     show wpAny _ _ (pure (d,[aal o])) _ _ s
     refine wpAny_pure ?_
     show wpAny _ _ (aa2 "dict.update" d (.ref o) [] .none) _ _ s
     unfold aa2
     refine wpAny_bind (wpAny_typeOf ho.typeIs ?_)
     rw [if_neg (by decide)]
     refine wpAny_bind ?_
     unfold Builtin.Dict.merge
     refine wpAny_bind ?_
     unfold Builtin.Dict.readDirectly
     refine wpAny_bind (wpAny_isInstance ho.typeIs isSubtype_dict_dict ?_)
     simp only [abH,aaQ,if_false]
     refine wpAny_bind (wpAny_specialOf ho.typeIs F.slot_dict_iter.lookup (wpAny_pure ?_))
     simp only [beq_self_eq_true,if_true]
     refine wpAny_bind (wpAny_pure ?_)
     refine Ib hr hdo hd2 hd ho ?_ (by omega) fun h' ow pW=>?_
     · rcases hne with z | z
       · refine .inl fun e=>z (List.length_eq_zero_iff.mp ?_)
         rw [l1,e]
         rfl
       · refine .inr (List.length_eq_zero_iff.mp ?_)
         rw [← l2,z]
         rfl
     show wpAny _ _ (abY d [] >>= _) _ _ _
     exact wpAny_bind (wpAny_pure (wpAny_pure ⟨.none,rfl,hh h' ow pW⟩))
 refine call_meetsIn adb Su.typeIs PySem.F.entry_dict_update (PySem.F.args_dict_update_2 _ _) M ⟨tupleKind_room_in1 hu,Su,Vm,fun h' oi hs=>h _ ?_⟩
 obtain ⟨q,es,ep,hq,h2,h3,h4,_,h5⟩:=oi
 have hl:=lh uK kvs
 refine eA (t':=s.toks) I (by rw [ed]; exact aat) hs ⟨q,hq⟩ ⟨by omega,WI,_,(KT.merge MF ME).keeps fun c ys ec=>?_,q,es,ep,hq,h2,h3,h4,h5⟩
 rw [aj (fH ec ed (fun z=>nomatch z))]
 exact ec
def Gu (td ty:TE):TE:=fun σ H Q=>td σ H fun x H1=>∃a,x=.ref a/\OB H1 a/\ty σ H1 fun y H2=>∃o kvs uK,y=.ref o/\H2 a=some (.dT kvs)/\H2 o=some (.dT uK)/\a≠o/\(kvs≠[]\/uK=[])/\kvs.length + uK.length<=sizeLine/\Q .bN (upd H2 a (.dT (putAllT kvs uK)))
theorem ED {o e:Expr}{apos cpos:Pos}{td ty:TE}(hu:X.A.units + 1 < cLine)(ho:PE X o td)(he:PE X e ty)(m:M1 X o "update" apos e cpos):PE X (.Call (.Attribute o "update" apos) [e] [] cpos) (Gu td ty):=by
 intro pins s σ H Q I h
 refine wpAny_Call_method m.base m.few m.line adk adb PySem.F.type_dict_update (bt (ho pins s σ H _ I h) fun u s1 ⟨x,H1,I1,rx,a,ex,d,q1⟩=>?_)
 subst ex
 obtain rfl:u=aal a:=rx
 obtain ⟨t1,t2,_⟩:=AV I1 d
 refine ⟨t1,t2,?_⟩
 rw [m.trees]
 refine acp rfl (abU (abn (bt (he pins s1 σ H1 _ I1 q1) fun iv s2 ⟨y,H2,I2,ry,o2,kvs,uK,ey,h1,h2,hne,Xk,hsz,q2⟩=>abL ?_)))
 subst ey
 obtain rfl:iv=aal o2:=ry
 exact zS hu I2 h1 h2 hne Xk hsz fun s3 I3=>⟨.bN,_,I3,rfl,q2⟩
end
end L2
namespace L3
open PySem PySem.Spec PyProof.Rows L2
theorem update {X:Cx}{o e:Expr}{ta te:TE}{pos apos:Pos}(hu:X.A.units + 1 < cLine)(ho:SE X o ta)(he:SE X e te)(m:M1 X o "update" apos e pos:=by exact ⟨rfl,rfl,rfl,rfl⟩):SE X (.Call (.Attribute o "update" apos) [e] [] pos) (Gu ta te):=⟨ED hu ho.h he.h m⟩
end L3
namespace PySem
open Sem (wp)
abbrev iD (h:Heap)(z TI TO:Addr)(v:Value)(f:Bool):Prop:=
 h.get? z=some { cls:=.type "zip",dict:=none,data:=.fields #[v,.bool f,.bool false,.ref TI,.ref TO],slots:=#[] }
section
variable {prog:Program}{w:World}{A:Around}{E:Value->Shared->Prop}{s:Shared}
theorem vK {a:Addr}{Q:Option Obj->Shared->Prop}(h:s.heap.get? a=none)(k:Q none s):wpAny (model prog w) A (loadIfAlive a) Q E s:=fun Γ p hΓ=>by
 show Sem.wp _ _ (Sem.loadIfAlive a .pure) _ _ _ _
 rw [Sem.wp_loadIfAlive,h]
 exact (wpAny_pure k:wpAny (model prog w) A (Sem.pure none) Q E s) Γ p hΓ
theorem nX {z TI TO T:Addr}{f:Bool}(hz:iD s.heap z TI TO (rawInt T) f)(hT:s.heap.get? T=none){Q:Bool->Shared->Prop}{E:Value->Shared->Prop}(k:Q true s):wpAny (model prog w) A (aae (.ref z)) Q E s:=by
 unfold aae
 refine wpAny_bind (wpAny_field hz rfl (x:=rawInt T) rfl ?_)
 show wpAny _ _ (loadIfAlive (T:Int).toNat >>= _) _ _ _
 rw [aaT]
 refine wpAny_bind (vK hT ?_)
 exact wpAny_pure k
theorem vM {z TI TO i1 i2 l1 l2:Addr}{v:Value}{f:Bool}{k1 k2:Nat}{xs ys:Array Value}{x y a b:Value}{Q:Value->Shared->Prop}(D:abF z TI TO i1 i2 l1 l2)(hz:iD s.heap z TI TO v f)
   (free:∀{Q:Bool->Shared->Prop} {E:Value->Shared->Prop},Q true s->wpAny (model prog w) A (aae (.ref z)) Q E s) (hTI:IsPair s.heap TI (.ref i1) (.ref i2)) (hTO:IsPair s.heap TO a b)
   (h1:s.heap.IsListIter i1 l1 k1) (h2:s.heap.IsListIter i2 l2 k2) (hl1:s.heap.IsList l1 xs) (hl2:s.heap.IsList l2 ys) (hx:xs[k1]? = some x) (hy:ys[k2]? = some y)
   (hQ:∀g,iD g z TI TO (rawInt s.heap.objs.size) false->IsPair g TO x y->g.IsListIter i1 l1 (k1 + 1)->g.IsListIter i2 l2 (k2 + 1)->IsPair g s.heap.objs.size x y->(∀c o,c≠z->c≠TO->c≠i1->c≠i2->s.heap.get? c=some o->g.get? c=some o)->Q (.ref s.heap.objs.size) { s with heap:=g }) :
   wpAny (model prog w) A (Builtin.«zip.__next__» ⟨[.ref z],[]⟩) (fun fin s'=>∃v,fin=.done (.ret v)/\Q v s') E s:=by
 show wpAny _ _ (field (.ref z) 2 >>= _) _ _ _
 refine wpAny_bind (wpAny_field hz rfl (x:=.bool false) rfl ?_)
 show wpAny _ _ (field (.ref z) 3 >>= _) _ _ _
 refine wpAny_bind (wpAny_field hz rfl (x:=.ref TI) rfl ?_)
 refine wpAny_bind (wpAny_seqItems hTI rfl ?_)
 show wpAny _ _ (aae (.ref z) >>= _) _ _ _
 refine wpAny_bind (free ?_)
 simp only [if_true]
 refine wpAny_bind (wpAny_rule ?_)
 refine wpAny_bind (wpAny_field hz rfl (x:=.ref TO) rfl ?_)
 refine wpAny_bind (wpAny_setField_rec hz (by simp) fun g1 z1 e1=>?_)
 have Ou:iD g1 z TI TO .ellipsis f:=z1
 refine wpAny_bind ?_
 simp only [List.zipIdx_cons,List.zipIdx_nil,ab1,acC]
 refine wpAny_bind (wpAny_bind (wpAny_onRaise ?_))
 show wpAny _ _ (aaz (.ref i1) >>= _) _ _ _
 refine wpAny_bind (wpAny_nextOf_list_item (h1.extBut e1.extBut D.i1z) (hl1.extBut e1.extBut D.l1z) hx fun g2 n2 e2=>wpAny_pure ?_)
 have o2:IsPair g2 TO a b:=e2.extBut _ _ D.TOi1 (e1.extBut _ _ D.TOz hTO)
 refine wpAny_bind (wpAny_seqItems o2 rfl (wpAny_bind (wpAny_updateSeq_pair o2 fun g3 o3 e3=>wpAny_bind (wpAny_letGo (wpAny_pure ?_)))))
 have Yk:IsPair g3 TO x b:=o3
 refine wpAny_bind (wpAny_bind (wpAny_onRaise ?_))
 show wpAny _ _ (aaz (.ref i2) >>= _) _ _ _
 refine wpAny_bind (wpAny_nextOf_list_item (((h2.extBut e1.extBut D.i2z).extBut e2.extBut D.i12.symm).extBut e3.extBut D.TOi2.symm) (((hl2.extBut e1.extBut D.l2z).extBut e2.extBut D.l2i1).extBut e3.extBut D.l2TO) hy fun g4 n4 e4=>wpAny_pure ?_)
 have o4:IsPair g4 TO x b:=e4.extBut _ _ D.TOi2 Yk
 refine wpAny_bind (wpAny_seqItems o4 rfl (wpAny_bind (wpAny_updateSeq_pair o4 fun g5 o5 e5=>wpAny_bind (wpAny_letGo (wpAny_pure (wpAny_pure ?_))))))
 have T7:IsPair g5 TO x y:=o5
 refine wpAny_bind (wpAny_seqItems T7 rfl (wpAny_bind (wpAny_newTuple ?_)))
 have sz:g5.objs.size=s.heap.objs.size:=by rw [e5.1,e4.1,e3.1,e2.1,e1.1]
 have z5:iD g5 z TI TO .ellipsis f:=e5.extBut _ _ D.TOz.symm (e4.extBut _ _ D.i2z.symm (e3.extBut _ _ D.TOz.symm (e2.extBut _ _ D.i1z.symm Ou)))
 have keep:∀c o,c≠z->c≠TO->c≠i1->c≠i2->s.heap.get? c=some o->g5.get? c=some o:=fun c o c1 c2 c3 c4 q=>e5.extBut _ _ c2 (e4.extBut _ _ c4 (e3.extBut _ _ c2 (e2.extBut _ _ c3 (e1.extBut _ _ c1 q))))
 have XW:g5.IsListIter i1 l1 (k1 + 1):=((n2.extBut e3.extBut D.TOi1.symm).extBut e4.extBut D.i12).extBut e5.extBut D.TOi1.symm
 have XX:g5.IsListIter i2 l2 (k2 + 1):=n4.extBut e5.extBut D.TOi2.symm
 have UO:z < g5.objs.size:=Z7 z5
 show wpAny _ _ (aa0 (.ref z) (.ref g5.objs.size) >>= _) _ _ _
 refine wpAny_bind ?_
 unfold aa0
 have z6:iD (g5.push { cls:=.type "tuple",data:=.seq #[x,y] }) z TI TO .ellipsis f:=Z4 _ z5
 refine wpAny_bind (wpAny_setField_rec z6 (by simp) fun g7 z7 e7=>?_)
 have Y9:iD g7 z TI TO (rawInt g5.objs.size) f:=z7
 refine wpAny_setField_rec Y9 (by simp) fun g8 z8 e8=>?_
 have UN:iD g8 z TI TO (rawInt g5.objs.size) false:=z8
 have up:∀c o,c≠z->g5.get? c=some o->g8.get? c=some o:=fun c o c1 q=>e8.extBut _ _ c1 (e7.extBut _ _ c1 (Z4 _ q))
 have new:IsPair g8 g5.objs.size x y:=e8.extBut _ _ (ab7 UO) (e7.extBut _ _ (ab7 UO) (aas _ rfl))
 rw [sz] at UN new
 refine wpAny_pure ⟨_,rfl,?_⟩
 show Q (.ref g5.objs.size) _
 rw [sz]
 exact hQ g8 UN (up _ _ D.TOz T7) (XW.at fun o q=>up _ o D.i1z q) (XX.at fun o q=>up _ o D.i2z q) new fun c o c1 c2 c3 c4 q=>up c o c1 (keep c o c1 c2 c3 c4 q)
theorem zk {z TI TO i1 i2 l1 l2:Addr}{v:Value}{f:Bool}{k1 k2:Nat}{xs ys:Array Value}{a b:Value}{Q:Fin->Shared->Prop}(hh:A.handled=none)(D:abF z TI TO i1 i2 l1 l2)(hz:iD s.heap z TI TO v f)
   (free:∀{Q:Bool->Shared->Prop} {E:Value->Shared->Prop},Q true s->wpAny (model prog w) A (aae (.ref z)) Q E s) (hTI:IsPair s.heap TI (.ref i1) (.ref i2)) (hTO:IsPair s.heap TO a b)
   (h1:s.heap.IsListIter i1 l1 k1) (h2:s.heap.IsListIter i2 l2 k2) (hl1:s.heap.IsList l1 xs) (hl2:s.heap.IsList l2 ys) (hend:xs[k1]? = none\/ys[k2]? = none)
   (hE:∀g e,(∀c o,c≠z->c≠TO->c≠i1->c≠i2->s.heap.get? c=some o->g.get? c=some o)->(∃o,g.get? e=some o/\o.cls=.type "StopIteration")->E (.ref e) { s with heap:=g }) :
   wpAny (model prog w) A (Builtin.«zip.__next__» ⟨[.ref z],[]⟩) Q E s:=by
 show wpAny _ _ (field (.ref z) 2 >>= _) _ _ _
 refine wpAny_bind (wpAny_field hz rfl (x:=.bool false) rfl ?_)
 show wpAny _ _ (field (.ref z) 3 >>= _) _ _ _
 refine wpAny_bind (wpAny_field hz rfl (x:=.ref TI) rfl ?_)
 refine wpAny_bind (wpAny_seqItems hTI rfl ?_)
 show wpAny _ _ (aae (.ref z) >>= _) _ _ _
 refine wpAny_bind (free ?_)
 simp only [if_true]
 refine wpAny_bind (wpAny_rule ?_)
 refine wpAny_bind (wpAny_field hz rfl (x:=.ref TO) rfl ?_)
 refine wpAny_bind (wpAny_setField_rec hz (by simp) fun g1 z1 e1=>?_)
 have Ou:iD g1 z TI TO .ellipsis f:=z1
 refine wpAny_bind ?_
 simp only [List.zipIdx_cons,List.zipIdx_nil,ab1,acC]
 refine wpAny_bind (wpAny_bind (wpAny_onRaise ?_))
 show wpAny _ _ (aaz (.ref i1) >>= _) _ _ _
 have stop:∀{g:Heap} {e:Addr},iD g z TI TO .ellipsis f->(∃o,g.get? e=some o/\o.cls=.type "StopIteration")->e≠z:=fun zz ho q=>by
   obtain ⟨o,ho,hc⟩:=ho
   subst q
   rw [zz] at ho
   cases ho
   simp at hc
 cases hx:xs[k1]? with
 | none=>
   refine wpAny_bind (wpAny_nextOf_list_end hh (h1.extBut e1.extBut D.i1z) (hl1.extBut e1.extBut D.l1z) hx fun g2 e e2 he=>?_)
   have z2:iD g2 z TI TO .ellipsis f:=e2 _ _ D.i1z.symm Ou
   have ne:=stop z2 he
   obtain ⟨oe,Qd,rG⟩:=he
   exact wpAny_setField_rec z2 (by simp) fun g3 _ e3=>hE g3 e (fun c o c1 _ c3 _ q=>e3.extBut _ _ c1 (e2 _ _ c3 (e1.extBut _ _ c1 q))) ⟨oe,e3.extBut _ _ ne Qd,rG⟩
 | some x=>
   have hy:ys[k2]? = none:=by
     rcases hend with q | q
     · rw [hx] at q; cases q
     · exact q
   refine wpAny_bind (wpAny_nextOf_list_item (h1.extBut e1.extBut D.i1z) (hl1.extBut e1.extBut D.l1z) hx fun g2 n2 e2=>wpAny_pure ?_)
   have o2:IsPair g2 TO a b:=e2.extBut _ _ D.TOi1 (e1.extBut _ _ D.TOz hTO)
   refine wpAny_bind (wpAny_seqItems o2 rfl (wpAny_bind (wpAny_updateSeq_pair o2 fun g3 o3 e3=>wpAny_bind (wpAny_letGo (wpAny_pure ?_)))))
   refine wpAny_bind (wpAny_bind (wpAny_onRaise ?_))
   show wpAny _ _ (aaz (.ref i2) >>= _) _ _ _
   refine wpAny_bind (wpAny_nextOf_list_end hh (((h2.extBut e1.extBut D.i2z).extBut e2.extBut D.i12.symm).extBut e3.extBut D.TOi2.symm) (((hl2.extBut e1.extBut D.l2z).extBut e2.extBut D.l2i1).extBut e3.extBut D.l2TO) hy fun g4 e e4 he=>?_)
   have z4:iD g4 z TI TO .ellipsis f:=e4 _ _ D.i2z.symm (e3.extBut _ _ D.TOz.symm (e2.extBut _ _ D.i1z.symm Ou))
   have ne:=stop z4 he
   obtain ⟨oe,Qd,rG⟩:=he
   exact wpAny_setField_rec z4 (by simp) fun g5 _ e5=>hE g5 e (fun c o c1 c2 c3 c4 q=>e5.extBut _ _ c1 (e4 _ _ c4 (e3.extBut _ _ c2 (e2.extBut _ _ c3 (e1.extBut _ _ c1 q))))) ⟨oe,e5.extBut _ _ ne Qd,rG⟩
structure ZS (h:Heap)(z TI TO i1 i2 l1 l2:Addr)(i:Nat):Prop where
 ti:IsPair h TI (.ref i1) (.ref i2)
 to:∃x y,IsPair h TO x y
 a:h.IsListIter i1 l1 i
 b:h.IsListIter i2 l2 i
 z:iD h z TI TO .none false\/∃(T:Addr) (f:Bool),iD h z TI TO (rawInt T) f
theorem ZS.ob {h:Heap}{z TI TO i1 i2 l1 l2:Addr}{i:Nat}(st:ZS h z TI TO i1 i2 l1 l2 i):∃fl,h.get? z=some { cls:=.type "zip",dict:=none,data:=.fields fl,slots:=#[] }:=by
 rcases st.z with e | ⟨T,f,e⟩
 · exact ⟨_,e⟩
 · exact ⟨_,e⟩
theorem ZS.on {h g:Heap}{z TI TO i1 i2 l1 l2:Addr}{i:Nat}(st:ZS h z TI TO i1 i2 l1 l2 i)(k:∀c∈([z,TI,TO,i1,i2]:List Addr),∀o,h.get? c=some o->g.get? c=some o):ZS g z TI TO i1 i2 l1 l2 i:=by
 obtain ⟨t1,⟨x,y,t2⟩,a,b,zz⟩:=st
 refine ⟨k _ (by simp) _ t1,⟨x,y,k _ (by simp) _ t2⟩,a.at fun o e=>k _ (by simp) o e,b.at fun o e=>k _ (by simp) o e,?_⟩
 rcases zz with e | ⟨T,f,e⟩
 · exact .inl (k _ (by simp) _ e)
 · exact .inr ⟨T,f,k _ (by simp) _ e⟩
theorem ZS.item {z TI TO i1 i2 l1 l2:Addr}{i:Nat}{us vs:Array Value}{u v:Value}{Q:Value->Shared->Prop}(D:abF z TI TO i1 i2 l1 l2)(st:ZS s.heap z TI TO i1 i2 l1 l2 i)(h1:s.heap.IsList l1 us)(h2:s.heap.IsList l2 vs)(hu:us[i]? = some u)(hv:vs[i]? = some v)
   (k:∀g,ZS g z TI TO i1 i2 l1 l2 (i + 1)->IsPair g s.heap.objs.size u v->(∀c o,c ∉ ([z,TO,i1,i2]:List Addr)->s.heap.get? c=some o->g.get? c=some o)->Q (.ref s.heap.objs.size) { s with heap:=g }) :
   wpAny (model prog w) A (Builtin.«zip.__next__» ⟨[.ref z],[]⟩) (fun fin s'=>∃v,fin=.done (.ret v)/\Q v s') E s:=by
 obtain ⟨t1,⟨x,y,t2⟩,a,b,zz⟩:=st
 rcases zz with e | ⟨T,f,e⟩
 · refine zip_next_item D e t1 t2 a b h1 h2 hu hv fun g b1 b2 b3 b4 b5 b6 kk=>?_
   refine k g ⟨kk _ _ D.TIz D.TITO D.TIi1 D.TIi2 t1,⟨_,_,b2⟩,b3,b4,.inr ⟨_,_,b1⟩⟩ b5 fun c o hc q=>?_
   simp only [aau,aai,or_false,not_or] at hc
   exact kk c o hc.1 hc.2.1 hc.2.2.1 hc.2.2.2 q
 · cases hT:s.heap.get? T with
   | some ot=>
     refine pH D e hT t1 a b h1 h2 hu hv fun g b1 b3 b4 b5 kk=>?_
     refine k g ⟨kk _ _ D.TIz D.TIi1 D.TIi2 t1,⟨_,_,kk _ _ D.TOz D.TOi1 D.TOi2 t2⟩,b3,b4,.inr ⟨T,true,b1⟩⟩ b5 fun c o hc q=>?_
     simp only [aau,aai,or_false,not_or] at hc
     exact kk c o hc.1 hc.2.2.1 hc.2.2.2 q
   | none=>
     refine vM D e (nX e hT) t1 t2 a b h1 h2 hu hv fun g b1 b2 b3 b4 b5 kk=>?_
     refine k g ⟨kk _ _ D.TIz D.TITO D.TIi1 D.TIi2 t1,⟨_,_,b2⟩,b3,b4,.inr ⟨_,_,b1⟩⟩ b5 fun c o hc q=>?_
     simp only [aau,aai,or_false,not_or] at hc
     exact kk c o hc.1 hc.2.1 hc.2.2.1 hc.2.2.2 q
theorem ZS.done {z TI TO i1 i2 l1 l2:Addr}{i:Nat}{us vs:Array Value}{Q:Fin->Shared->Prop}(free:A.handled=none)(D:abF z TI TO i1 i2 l1 l2)(st:ZS s.heap z TI TO i1 i2 l1 l2 i)(h1:s.heap.IsList l1 us)(h2:s.heap.IsList l2 vs)(hu:us[i]? = none\/vs[i]? = none)
   (k:∀g e,(∀c o,c ∉ ([z,TO,i1,i2]:List Addr)->s.heap.get? c=some o->g.get? c=some o)->(∃o,g.get? e=some o/\o.cls=.type "StopIteration")->E (.ref e) { s with heap:=g }) :
   wpAny (model prog w) A (Builtin.«zip.__next__» ⟨[.ref z],[]⟩) Q E s:=by
 obtain ⟨t1,⟨x,y,t2⟩,a,b,zz⟩:=st
 rcases zz with e | ⟨T,f,e⟩
 · refine zip_next_end free D e t1 t2 a b h1 h2 hu fun g ee kk=>k g ee fun c o hc q=>?_
   simp only [aau,aai,or_false,not_or] at hc
   exact kk c o hc.1 hc.2.1 hc.2.2.1 hc.2.2.2 q
 · cases hT:s.heap.get? T with
   | some ot=>
     refine sZ free D e hT t1 a b h1 h2 hu fun g ee kk=>k g ee fun c o hc q=>?_
     simp only [aau,aai,or_false,not_or] at hc
     exact kk c o hc.1 hc.2.2.1 hc.2.2.2 q
   | none=>
     refine zk free D e (nX e hT) t1 t2 a b h1 h2 hu fun g ee kk=>k g ee fun c o hc q=>?_
     simp only [aau,aai,or_false,not_or] at hc
     exact kk c o hc.1 hc.2.1 hc.2.2.1 hc.2.2.2 q
theorem Dt {e z TI TO i1 i2 l1 l2:Addr}{i:Nat}{us vs:Array Value}{u v old:Value}{Q:Value->Shared->Prop}(D:abF z TI TO i1 i2 l1 l2)(he:IsEnum s.heap e z i old)(ne:e ∉ ([z,TI,TO,i1,i2]:List Addr))(st:ZS s.heap z TI TO i1 i2 l1 l2 i)(h1:s.heap.IsList l1 us)(h2:s.heap.IsList l2 vs)(hu:us[i]? = some u)(hv:vs[i]? = some v)
   (k:∀g h',ZS g z TI TO i1 i2 l1 l2 (i + 1)->IsPair g s.heap.objs.size u v->(∀c o,c ∉ ([z,TO,i1,i2]:List Addr)->s.heap.get? c=some o->g.get? c=some o)->IsEnumOut h' e z ((i:Int) + 1) (.ref s.heap.objs.size) g.objs.size->IsPair h' g.objs.size (.int i s.toks) (.ref s.heap.objs.size) ->
     (∀c o,c≠e->g.get? c=some o->h'.get? c=some o)->Q (.ref g.objs.size) { s with heap:=h',toks:=s.toks + 1 }) :
   wpAny (model prog w) A (Builtin.«enumerate.__next__» ⟨[.ref e],[]⟩) (fun fin s'=>∃v,fin=.done (.ret v)/\Q v s') E s:=by
 obtain ⟨hp,gg,dd,tk,os⟩:=s
 show wpAny _ _ (field (.ref e) 2 >>= _) _ _ _
 refine wpAny_bind (wpAny_field he rfl (x:=.ref z) rfl ?_)
 have ty:(⟨hp,gg,dd,tk,os⟩ : Shared).TypeIs (.ref z) "zip":=by obtain ⟨fl,q⟩:=st.ob; exact ⟨_,q,rfl⟩
 have ne4:e ∉ ([z,TO,i1,i2]:List Addr):=fun q=>ne (by simp only [aau,aai,or_false] at q ⊢; rcases q with r | r | r | r <;> simp [r])
 refine wpAny_bind ?_
 unfold aaz
 refine wpAny_bind (aaO (name:=aa4 "__next__") ty abi (wpAny_call_entry abi ty acx (ZS.item D st h1 h2 hu hv fun g zs gp gk=>?_) (aco _)))
 refine wpAny_pure ?_
 have e1:IsEnum g e z i old:=gk e _ ne4 he
 show wpAny _ _ (field (.ref e) 3 >>= _) _ _ ⟨g,gg,dd,tk,os⟩
 refine wpAny_bind (wpAny_field e1 rfl (x:=rawInt i) rfl ?_)
 show wpAny _ _ (field (.ref e) 4 >>= _) _ _ ⟨g,gg,dd,tk,os⟩
 refine wpAny_bind (wpAny_field e1 rfl (x:=.none) rfl ?_)
 show wpAny _ _ (mkInt i >>= _) _ _ ⟨g,gg,dd,tk,os⟩
 refine wpAny_bind (wpAny_mkInt ?_)
 show wpAny _ _ (setField (.ref e) 3 (rawInt ((i:Int) + 1)) >>= _) _ _ ⟨g,gg,dd,tk + 1,os⟩
 refine wpAny_bind (wpAny_setField_rec e1 (by simp) fun g2 e2 s2=>?_)
 have G6:IsEnum g2 e z ((i:Int) + 1) old:=e2
 show wpAny _ _ (setField (.ref e) 4 .none >>= _) _ _ ⟨g2,gg,dd,tk + 1,os⟩
 refine wpAny_bind (wpAny_setField_rec G6 (by simp) fun g3 e3 s3=>?_)
 have e3':IsEnum g3 e z ((i:Int) + 1) old:=e3
 show wpAny _ _ (newTuple [.int i tk,.ref hp.objs.size] >>= _) _ _ ⟨g3,gg,dd,tk + 1,os⟩
 refine wpAny_bind (wpAny_newTuple ?_)
 have Us:aaH e g g2:=s2
 have Uu:aaH e g2 g3:=s3
 have sz:g3.objs.size=g.objs.size:=by rw [Uu.1,Us.1]
 have elt:e < g3.objs.size:=Z7 e3'
 have e4:IsEnum (g3.push { cls:=.type "tuple",data:=.seq #[.int i tk,.ref hp.objs.size] }) e z ((i:Int) + 1) old:=Z4 _ e3'
 have t4:IsPair (g3.push { cls:=.type "tuple",data:=.seq #[.int i tk,.ref hp.objs.size] }) g3.objs.size (.int i tk) (.ref hp.objs.size):=aas _ rfl
 have k4:∀c o,c≠e->g.get? c=some o->(g3.push { cls:=.type "tuple",data:=.seq #[.int i tk,.ref hp.objs.size] }).get? c=some o:=fun c o hc q=>Z4 _ (Uu.extBut c o hc (Us.extBut c o hc q))
 generalize g3.push { cls:=.type "tuple",data:=.seq #[.int i tk,.ref hp.objs.size] }=g4 at e4 t4 k4
 show wpAny _ _ (aae (.ref e) >>= _) _ _ ⟨g4,gg,dd,tk + 1,os⟩
 refine wpAny_bind ?_
 unfold aae
 refine wpAny_bind (wpAny_field e4 rfl (x:=.none) rfl (wpAny_pure ?_))
 simp only [if_true]
 refine wpAny_bind (wpAny_rule (wpAny_bind (wpAny_field e4 rfl (x:=old) rfl (wpAny_bind (wpAny_setField_rec e4 (by simp) fun g5 e5 s5=>?_)))))
 have Vo:IsEnum g5 e z ((i:Int) + 1) (.ref hp.objs.size):=e5
 have YI:aaH e g4 g5:=s5
 show wpAny _ _ (aa0 (.ref e) (.ref g3.objs.size) >>= _) _ _ ⟨g5,gg,dd,tk + 1,os⟩
 refine wpAny_bind ?_
 unfold aa0
 refine wpAny_bind (wpAny_setField_rec Vo (by simp) fun g6 e6 s6=>?_)
 have Vp:IsEnumOut g6 e z ((i:Int) + 1) (.ref hp.objs.size) g3.objs.size:=e6
 have YJ:aaH e g5 g6:=s6
 refine wpAny_setField_rec Vp (by simp) fun g7 e7 s7=>?_
 have Sv:IsEnumOut g7 e z ((i:Int) + 1) (.ref hp.objs.size) g3.objs.size:=e7
 have YK:aaH e g6 g7:=s7
 have u7:∀c o,c≠e->g4.get? c=some o->g7.get? c=some o:=fun c o hc q=>YK.extBut _ _ hc (YJ.extBut _ _ hc (YI.extBut _ _ hc q))
 have t7:=u7 _ _ (ab7 elt) t4
 rw [sz] at Sv t7
 refine wpAny_bind (wpAny_letGo (wpAny_pure ⟨_,rfl,?_⟩))
 show Q (.ref g3.objs.size) _
 rw [sz]
 exact k g g7 zs gp gk Sv t7 fun c o hc q=>u7 c o hc (k4 c o hc q)
end
end PySem
namespace PySem
open Sem (wp)
open AutoSeq1 (wpAny_loadPart')
theorem AZ (z TI TO:Addr):Meets (Builtin.«enumerate.__new__» ⟨[.type "enumerate",.ref z],[]⟩) (fun _ R s=>IsZip s.heap z TI TO .none /\
   R (.ok (.ret (.ref s.heap.objs.size))) { s with heap:=s.heap.push { cls:=.type "enumerate",data:=.fields #[.none,.bool false,.ref z,rawInt 0,.none,.none] } }):=
 .of_wp fun prog w A R s h=>by
   obtain ⟨hp,g,d,tk,os⟩:=s
   obtain ⟨hz,k⟩:=h
   have Xy:=sub_enumerate
   have HQ:IsZip (Shared.heap ⟨hp,g,d,tk,os⟩) z TI TO .none:=hz
   wp_walk using wpAny_loadPart' hz
   refine wpAny_stack_any fun st=>wpAny_pure ?_
   split
   · rename_i c _ _ _ _ _
     cases (c == adn "enumerate")
     · wp_walk using wpAny_loadPart' hz,wpAny_pyIter_zip HQ
       exact ⟨_,rfl,k⟩
     · wp_walk using wpAny_loadPart' hz,wpAny_pyIter_zip HQ
       exact ⟨_,rfl,k⟩
   · wp_walk using wpAny_loadPart' hz,wpAny_pyIter_zip HQ
     exact ⟨_,rfl,k⟩
section
variable {prog:Program}{w:World}{A:Around}{E:Value->Shared->Prop}{s:Shared}
theorem Dk {z TI TO:Addr}{Q:Value->Shared->Prop}(hz:IsZip s.heap z TI TO .none)(k:∀g,IsEnum g s.heap.objs.size z 0 .none->(∀b o,s.heap.get? b=some o->g.get? b=some o)->Q (.ref s.heap.objs.size) { s with heap:=g }) :
   wpAny (model prog w) A (call (.type "enumerate") [.ref z]) Q E s:=by
 refine callType_new F.called_enumerate (by decide) (F.typeCall_enumerate_1 _) (F.newCall_enumerate_1 _) (fun obj=>F.args_object_init_2 obj _) F.entry_enumerate_new (AZ z TI TO) ⟨hz,?_⟩
 have he:IsEnum (s.heap.push { cls:=.type "enumerate",data:=.fields #[.none,.bool false,.ref z,rawInt 0,.none,.none] }) s.heap.objs.size z 0 .none:=aas _ rfl
 exact ⟨⟨_,he,rfl⟩,k _ he fun b o q=>Z4 _ q⟩
end
end PySem
namespace L2
open PySem PySem.Spec PyProof.Rows
def zC (K:ZY)(a b:Addr):It:=
 ⟨fun i H=>∃xs ys x y,ao K H a xs/\ao K H b ys/\xs[i]? = some x/\ys[i]? = some y,
  fun i H v H'=>∃p q x y,H p=none/\(upd H p (.tup [x,y])) q=none/\v=.ref q/\H'=upd (upd H p (.tup [x,y])) q (.tup [.int (i:Nat),.ref p])/\∀xs ys,ao K H a xs->ao K H b ys->xs[i]? = some x/\ys[i]? = some y,
  fun i H=>∃xs ys,ao K H a xs/\ao K H b ys/\(xs.length<=i\/ys.length<=i)⟩
theorem Fd {P:Program}{w:World}{K:ZY}{elts:List Expr}{x1:Nat}{tp:Pos}{a b e z TI TO i1 i2:Addr}(D:abF z TI TO i1 i2 a b)(ne:e ∉ ([z,TI,TO,i1,i2]:List Addr)) :
   Turn P w K (.Tuple elts x1 tp) (zC K a b) [e,z,TI,TO,i1,i2] e (fun i h=>(∃old,IsEnum h e z (i:Nat) old)/\ZS h z TI TO i1 i2 a b i) where
 mem:=by simp
 obj:=fun i h st c hc=>by
   obtain ⟨⟨old,he⟩,zs⟩:=st
   obtain ⟨fl,hz⟩:=zs.ob
   obtain ⟨hTI,⟨x,y,hTO⟩,⟨o1,e1,c1,d1⟩,⟨o2,e2,c2,d2⟩,_⟩:=zs
   simp only [aau,aai,or_false] at hc
   rcases hc with rfl | rfl | rfl | rfl | rfl | rfl
   · exact ⟨_,he,fun v q=>nomatch q⟩
   · exact ⟨_,hz,fun v q=>nomatch q⟩
   · exact ⟨_,hTI,fun v q=>nomatch q⟩
   · exact ⟨_,hTO,fun v q=>nomatch q⟩
   · exact ⟨_,e1,fun v q=>by rw [d1] at q; cases q⟩
   · exact ⟨_,e2,fun v q=>by rw [d2] at q; cases q⟩
 keep:=fun i h h' st k=>by
   obtain ⟨⟨old,he⟩,zs⟩:=st
   exact ⟨⟨old,k e (by simp) _ he⟩,zs.on fun c hc o q=>k c (aaK _ hc) o q⟩
 item:=by
   intro X hP hw hK hc i pins s σ H E I hf st hg
   subst hP hw hK
   obtain ⟨xs,ys,x,y,oA,oB,hx,hy⟩:=hg
   obtain ⟨uJ,vg,p1,_⟩:=I.list oA
   obtain ⟨eV,vh,p2,_⟩:=I.list oB
   obtain ⟨u,hu,ru⟩:=vg.get hx
   obtain ⟨v,hv,rv⟩:=vh.get hy
   obtain ⟨⟨old,he⟩,zs⟩:=st
   have hT:s.TypeIs (.ref e) "enumerate":=⟨_,he,rfl⟩
   have ltf:∀c∈([e,z,TI,TO,i1,i2]:List Addr),c < s.heap.objs.size:=fun c dG=>by
     obtain ⟨fl,hz⟩:=zs.ob
     obtain ⟨hTI,⟨x,y,hTO⟩,⟨o1,e1,_,_⟩,⟨o2,e2,_,_⟩,_⟩:=zs
     simp only [aau,aai,or_false] at dG
     rcases dG with rfl | rfl | rfl | rfl | rfl | rfl
     · exact Z7 he
     · exact Z7 hz
     · exact Z7 hTI
     · exact Z7 hTO
     · exact Z7 e1
     · exact Z7 e2
   unfold pyNext
   refine wpAny_bind (wpAny_attempt (aaO (name:=aa4 "__next__") hT abW (wpAny_call_entry abW hT F.entry_enumerate_next
     (Dt D he ne zs p1.isList p2.isList (u:=u) (v:=v) (by simpa using hu) (by simpa using hv) fun g h' Za gp gk eo tp kk=>wpAny_pure ?_) (ad2 _))))
   refine ⟨_,rfl,wpAny_letOwnedTupleGo_enum (s:={ s with heap:=h',toks:=s.toks + 1 }) eo fun h2 WM hs2=>?_⟩
   have LJ:aaH e h' h2:=hs2
   have sub4:∀c∈([z,TO,i1,i2]:List Addr),c∈([e,z,TI,TO,i1,i2]:List Addr):=fun c dG=>by
     simp only [aau,aai,or_false] at dG ⊢
     rcases dG with r | r | r | r <;> simp [r]
   have n0:H s.heap.objs.size=none:=I.hok.fresh (Z3 _)
   have I1:Inv X pins σ (upd H s.heap.objs.size (.tup [x,y])) { s with heap:=g,toks:=s.toks }:=I.many (ch:=[z,TO,i1,i2]) (fun c dG=>hf c (sub4 c dG)) (fun c o dG q=>gk c o dG q) (Z3 _) ⟨by show 2<=sizeLine; decide,[u,v],.cons ru (.cons rv .nil),_,gp,rfl,_,rfl⟩
   have TV:s.heap.objs.size < g.objs.size:=Z7 gp
   have n1:(upd H s.heap.objs.size (.tup [x,y])) g.objs.size=none:=I1.hok.fresh (Z3 _)
   have elt:e < g.objs.size:=adZ (ltf e (by simp)) TV
   have t2:IsPair h2 g.objs.size (.int i s.toks) (.ref s.heap.objs.size):=LJ.extBut _ _ (ab7 elt) tp
   have fe:dI X pins (upd H s.heap.objs.size (.tup [x,y])) e:=⟨by rw [aj (aay (ltf e (by simp)))]; exact (hf e (by simp)).1,(hf e (by simp)).2⟩
   have TQ:∀c o,c≠e->g.get? c=some o->h2.get? c=some o:=fun c o dG q=>LJ.extBut _ _ dG (kk c o dG q)
   have I2:Inv X pins σ (upd (upd H s.heap.objs.size (.tup [x,y])) g.objs.size (.tup [.int (i:Nat),.ref s.heap.objs.size])) { s with heap:=h2,toks:=s.toks + 1 }:=I1.many (ch:=[e]) (fun c dG=>by rw [List.mem_singleton.mp dG]; exact fe) (fun c o dG q=>TQ c o (fun z=>dG (by rw [z]; simp)) q) (Z3 _)
     ⟨by show 2<=sizeLine; decide,[.int i s.toks,.ref s.heap.objs.size],.cons ⟨_,rfl⟩ (.cons rfl .nil),_,t2,rfl,_,rfl⟩
   refine ⟨.ref g.objs.size,_,I2,rfl,⟨_,_,x,y,n0,n1,rfl,rfl,fun Y8 Nj q1 q2=>?_⟩,⟨⟨_,by simpa using WM⟩,Za.on fun c dG o q=>TQ c o (fun z=>ne (z ▸ dG)) q⟩,fun c dG=>?_⟩
   · rw [I.gh q1 oA,I.gh q2 oB]; exact ⟨hx,hy⟩
   · have lt:=ltf c dG
     rw [aj (aay (adZ lt TV)),aj (aay lt)]
     exact (hf c dG).1
 done:=by
   intro X hP hw hK hc i pins s σ H E I hf st hg
   subst hP hw hK
   obtain ⟨xs,ys,oA,oB,hend⟩:=hg
   obtain ⟨uJ,vg,p1,_⟩:=I.list oA
   obtain ⟨eV,vh,p2,_⟩:=I.list oB
   have l1:=vg.length
   have l2:=vh.length
   obtain ⟨⟨old,he⟩,zs⟩:=st
   have hT:s.TypeIs (.ref e) "enumerate":=⟨_,he,rfl⟩
   have ty:s.TypeIs (.ref z) "zip":=by obtain ⟨fl,q⟩:=zs.ob; exact ⟨_,q,rfl⟩
   unfold pyNext
   refine wpAny_bind (wpAny_attempt (aaO (name:=aa4 "__next__") hT abW (wpAny_call_entry abW hT F.entry_enumerate_next ?_ (ad2 _))))
   show wpAny _ _ (field (.ref e) 2 >>= _) _ _ _
   refine wpAny_bind (wpAny_field he rfl (x:=.ref z) rfl (wpAny_bind ?_))
   unfold aaz
   refine wpAny_bind (aaO (name:=aa4 "__next__") ty abi (wpAny_call_entry abi ty acx (ZS.done (I.ok.hd hc) D zs p1.isList p2.isList ?_ fun g ee gk WN=>?_) (aco _)))
   · rcases hend with q | q
     · exact .inl (by simp; omega)
     · exact .inr (by simp; omega)
   · obtain ⟨o,ho,DH⟩:=WN
     refine wpAny_bind (wpAny_isInstance (T:="StopIteration") (b:=true) ⟨o,ho,DH⟩ isSubtype_stop (wpAny_pure ⟨rfl,?_⟩))
     exact I.wC (t':=s.toks) (ch:=[z,TO,i1,i2]) (fun c dG=>hf c (by simp only [aau,aai,or_false] at dG ⊢; rcases dG with r | r | r | r <;> simp [r])) fun c o dG q=>gk c o dG q
 self:=fun _ _ _ _ _ st h=>by
   obtain ⟨⟨old,he⟩,_⟩:=st
   exact wpAny_pyIter_enum he h
def TC (K:ZY)(ta:TA):TI:=fun σ H R=>ta σ H fun vs H1=>∃a b,vs=[.ref a,.ref b]/\(∃xs,ao K H1 a xs)/\(∃ys,ao K H1 b ys)/\R (zC K a b) H1
section
variable {X:Cx}{a b:Expr}{ta:TA}{p1 p2 pos dQ tp:Pos}{elts:List Expr}{x1:Nat}
theorem Mq (hg1:Gl X "enumerate")(hm1:X.mg "enumerate"=none)(hg2:Gl X "zip")(hm2:X.mg "zip"=none)(ha:tJ X [a,b] ta)(hv1:aaS "enumerate"=some (.type "enumerate"):=by first | rfl | decide +kernel)(hv2:aaS "zip"=some (.type "zip"):=by first | rfl | decide +kernel) :
   PI X (.Tuple elts x1 tp) (.Call (.Name "enumerate" p1) [.Call (.Name "zip" p2) [a,b] [] dQ] [] pos) (TC X.K ta):=by
 intro pins s σ H R I h
 refine wpAny_Call_Name_kw (eN I hg1 hm1 hv1 ?_ (by decide) (by decide))
 refine aaE ?_ rfl rfl
 show wpAny _ _ (spliced ((false,eval (.Call (.Name "zip" p2) [a,b] [] dQ) X.env) :: [])) _ _ s
 refine abn (wpAny_Call_Name_kw (eN I hg2 hm2 hv2 ?_ (by decide) (by decide)))
 refine aaE (bt (ha.pa dQ pins s σ H _ I h) fun us s1 ⟨vs,H1,I1,r1,q1⟩=>?_) ((ha.ns a [b] rfl).1.h [b] X.env) ((ha.ns a [b] rfl).2 dQ X.env)
 obtain ⟨l1,l2,e,⟨xs,oA⟩,⟨ys,oB⟩,q⟩:=q1
 subst e
 obtain ⟨u,v,rfl,ru,rv⟩:=Vals.two r1
 obtain rfl:u=aal l1:=ru
 obtain rfl:v=aal l2:=rv
 obtain ⟨uJ,vg,p1,_⟩:=I1.list oA
 obtain ⟨eV,vh,p2,_⟩:=I1.list oB
 have LX:l1 < s1.heap.objs.size:=by obtain ⟨_,_,e,_⟩:=p1; exact Z7 e
 have LY:l2 < s1.heap.objs.size:=by obtain ⟨_,_,e,_⟩:=p2; exact Z7 e
 refine call_zip_2 p1.isList p2.isList fun h' hz hTI hTO ux DJ hsz hk=>?_
 refine abL ?_
 refine Dk (s:={ s1 with heap:=h' }) hz fun g he gk=>?_
 refine wpAny_pyIter_enum he ?_
 have I2:Inv X pins σ H1 { s1 with heap:=g }:=I1.kept (t':=s1.toks) fun c o q=>gk _ _ (hk c o q)
 have D:=zipApart_new LX LY
 have up:∀k,dI X pins H1 (s1.heap.objs.size + k):=fun k=>I1.pQ (abB _ _) (I1.hok.fresh (abB _ _))
 have sz:h'.objs.size=s1.heap.objs.size + 5:=hsz
 have ne:h'.objs.size ∉ ([s1.heap.objs.size + 4,s1.heap.objs.size + 2,s1.heap.objs.size + 3,s1.heap.objs.size,s1.heap.objs.size + 1]:List Addr):=fun hc=>by
   rw [sz] at hc
   have key:∀n:Nat,¬ (n + 5)∈([n + 4,n + 2,n + 3,n,n + 1]:List Nat):=fun n hc=>by
     simp only [aau,aai,or_false] at hc
     omega
   exact key _ hc
 refine ⟨_,_,_,_,H1,rfl,I2,Fd D ne,⟨⟨_,he⟩,⟨gk _ _ hTI,⟨_,_,gk _ _ hTO⟩,ux.at fun o q=>gk _ o q,DJ.at fun o q=>gk _ o q,.inl (gk _ _ hz)⟩⟩,fun c hc=>?_,q⟩
 simp only [aau,aai,or_false] at hc
 rcases hc with rfl | rfl | rfl | rfl | rfl | rfl
 · show dI X pins H1 h'.objs.size
   rw [sz]
   exact up 5
 · exact up 4
 · exact up 2
 · exact up 3
 · exact up 0
 · exact up 1
end
section
variable {K:ZY}{a b:Addr}{xs ys:List V}{g:TG}
theorem G9 {tb:TS}{D:Ends}{σ:St}{H:Hp}(Pv:Nat->St->Hp->Prop)(h0:Pv 0 σ H)(hl:∀i σ H,Pv i σ H->ao K H a xs/\ao K H b ys)
   (hs:∀i x y p q σ H,xs[i]? = some x->ys[i]? = some y->Pv i σ H->H p=none->(upd H p (.tup [x,y])) q=none->g (.ref q) σ (upd (upd H p (.tup [x,y])) q (.tup [.int (i:Nat),.ref p])) fun σ2 H2=>tb { D with nx:=Pv (i + 1),ct:=Pv (i + 1),bk:=D.nx } σ2 H2)
   (hd:∀σ H,Pv (min xs.length ys.length) σ H->D.nx σ H) :
   ∃W:Nat->Nat->St->Hp->Prop,(∃m,W 0 m σ H)/\∀i m σ H,W i m σ H ->
     ((zC K a b).stop i H/\D.nx σ H)\/((zC K a b).go i H/\∃N:St->Hp->Prop,(∀σ' H',N σ' H'->∃m',m' < m/\W (i + 1) m' σ' H')/\∀x H',(zC K a b).yld i H x H'->g x σ H' fun σ2 H2=>tb { D with nx:=N,ct:=N,bk:=D.nx } σ2 H2):=by
 refine ⟨fun i m σ H=>m=min xs.length ys.length - i/\i<=min xs.length ys.length/\Pv i σ H,⟨min xs.length ys.length,by simp,aaI _,h0⟩,?_⟩
 rintro i m σ H ⟨rfl,hi,p⟩
 obtain ⟨q1,q2⟩:=hl i σ H p
 by_cases hlt:i < min xs.length ys.length
 · have h1:i < xs.length:=by omega
   have h2:i < ys.length:=by omega
   refine .inr ⟨⟨xs,ys,xs[i],ys[i],q1,q2,by simp [h1],by simp [h2]⟩,Pv (i + 1),fun σ' H' p'=>⟨min xs.length ys.length - (i + 1),by omega,rfl,hlt,p'⟩,fun x H' y=>?_⟩
   obtain ⟨pp,qq,x1,y1,n0,n1,rfl,rfl,k⟩:=y
   obtain ⟨k1,k2⟩:=k xs ys q1 q2
   exact hs i x1 y1 pp qq σ H k1 k2 p n0 n1
 · have e:i=min xs.length ys.length:=by omega
   subst e
   exact .inl ⟨⟨xs,ys,q1,q2,by omega⟩,hd σ H p⟩
end
end L2
namespace L3
open PySem PySem.Spec PyProof.Rows L2
theorem XS {X:Cx}{a b:Expr}{t:TA}{KK:ZY}{p1 p2 pos dQ tp:Pos}{elts:List Expr}{x1:Nat}(hg1:Gl X "enumerate")(hm1:X.mg "enumerate"=none)(hg2:Gl X "zip")(hm2:X.mg "zip"=none)(ha:SA X [a,b] t)(hK:X.K=KK:=by first | exact bz | rfl) :
   SI X (.Tuple elts x1 tp) (.Call (.Name "enumerate" p1) [.Call (.Name "zip" p2) [a,b] [] dQ] [] pos) (TC KK t):=by
 subst hK
 exact ⟨Mq hg1 hm1 hg2 hm2 ha.h⟩
end L3
namespace L2
open PySem PySem.Spec PyProof.Rows
section
variable {X:Cx}{pos:Pos}
def GA (i j:Nat)(ta:TA):TS:=fun D σ H=>ta σ H fun vs H1=>∃u v,vs=[u,v]/\D.nx ((σ.set i (some u)).set j (some v)) H1
theorem ER {i j:Nat}{x y:Str}{a b:Expr}{ta:TA}{px py pt:Pos}{kt k2 Js}(hc:X.calm=true)(hN:X.N.Nodup)(hi:X.N[i]? = some x)(hj:X.N[j]? = some y)(hij:i≠j)
   (hx:X.env.scope.names.lookup x=some .local) (hy:X.env.scope.names.lookup y=some .local) (ha:PA X [a,b] ta)
   (hw:ac7 [.Tuple [.Name x px,.Name y py] kt pt] (.Tuple [a,b] k2 Js) X.env=pure (some [x,y]))
   (hs:ac6 [.Tuple [.Name x px,.Name y py] kt pt] (.Tuple [a,b] k2 Js) pos.line X.env=pure false:=by rfl) :
   PS X (.Assign [.Tuple [.Name x px,.Name y py] kt pt] (.Tuple [a,b] k2 Js) pos) (GA i j ta):=by
 intro pins s σ H D I h
 rw [exec_Assign_arm]
 refine wpAny_bind (wpAny_standAt ?_)
 rw [hs]
 refine wpAny_bind (wpAny_pure ?_)
 rw [if_neg (by decide)]
 refine wpAny_bind (Tuple_ (bt (ha _ pins s σ H _ I h) fun us s1 ⟨vs,H1,I1,r1,q1⟩=>?_))
 obtain ⟨u,v,e1,q1⟩:=q1
 subst e1
 obtain ⟨u1,u2,rfl,ru,rv⟩:=Vals.two r1
 refine wpAny_newObj_type ?_ agd
 have I2:Inv X pins σ H1 { s1 with heap:=s1.heap.push { cls:=.type "tuple",data:=.seq [u1,u2].toArray } }:=I1.kept (t':=s1.toks) fun b o e=>Z4 _ e
 rw [hw]
 refine wpAny_bind (wpAny_pure ?_)
 show wpAny (model X.prog X.w) X.A (do rule "assign.swapped-stores"; let items ← unpackItems (.ref s1.heap.objs.size) 2 none; assignInOrder [fun v=>bindName X.env y v,fun v=>bindName X.env x v] items.reverse; pure Flow.next) _ _ _
 refine wpAny_bind (wpAny_rule (wpAny_bind (unpackItems_tuple (items:=#[u1,u2]) (I.ok.hd hc) (IsTup.new s1.heap _) fun h' CU=>?_)))
 have I3:=I2.kept (h':=h') (t':=s1.toks) fun b o e=>CU b o (aay (Z7 e)) e
 show wpAny _ _ (assignInOrder [fun v=>bindName X.env y v,fun v=>bindName X.env x v] [u2,u1] >>= fun _=>pure Flow.next) _ _ _
 refine wpAny_bind (assignInOrder_cons (wpAny_bindName (gJ I3 hN hj (.inl hy) rv (fun s2 I4=>?_) (.inr hy))))
 refine assignInOrder_cons (wpAny_bindName (gJ I4 hN hi (.inl hx) ru (fun s3 I5=>assignInOrder_nil (wpAny_pure ?_)) (.inr hx)))
 rw [List.set_comm _ _ hij.symm] at I5
 exact ⟨_,H1,I5,q1⟩
theorem wz:∀{ns:List Int} {us:List Value},Vals (ns.map V.int) us->∃l:List (Int×Tok),us=l.map (fun p=>acL p.1 p.2)/\l.map (·.1)=ns
 | [],_,.nil=>⟨[],rfl,rfl⟩
 | n :: ns,_,.cons r q=>by
   obtain ⟨t,rfl⟩:=r
   obtain ⟨l,rfl,rfl⟩:=wz q
   exact ⟨(n,t) :: l,rfl,rfl⟩
theorem xA (hc:X.calm=true):dB X (.builtin "sum") (fun xs H Q=>∃(l:Addr) (ns:List Int),xs=[.ref l]/\ao X.K H l (ns.map V.int)/\Q (.int ns.sum) H):=by
 intro pins s σ H xs us Q I r h
 obtain ⟨l,ns,rfl,hq,q⟩:=h
 obtain ⟨u,rfl,ru⟩:=vals1 r
 obtain rfl:u=aal l:=ru
 obtain ⟨its,rv,pl,_⟩:=I.list hq
 obtain ⟨ps,e1,e2⟩:=wz rv
 have hl:s.heap.IsList l (intItems ps.toArray):=by
   have:=pl.isList
   rw [e1] at this
   simpa [intItems] using this
 refine sum_intListG (I.ok.hd hc) hl fun h' tk t' k=>⟨.int ns.sum,H,I.kept k,⟨t',?_⟩,q⟩
 have e3:preSum (numAt ps.toArray) ps.toArray.size=ns.sum:=by
   rw [preSum_eq,aaG (by simp),← e2]
 rw [e3]
end
end L2
namespace L3
open PySem PySem.Spec PyProof.Rows L2
section
variable {X:Cx}{a b c e o:Expr}{es:List Expr}{ta tb tc te:TE}{t:TA}{pos:Pos}
theorem Q8 (i j:Nat){x y:Str}{px py pt:Pos}{kt k2 Js}(hN:X.N.Nodup)(ha:SA X [a,b] t)(hi:X.N[i]? = some x:=by rfl)(hj:X.N[j]? = some y:=by rfl)(hij:i≠j:=by decide)
   (hx:X.env.scope.names.lookup x=some .local:=by rfl) (hy:X.env.scope.names.lookup y=some .local:=by rfl)
   (hw:ac7 [.Tuple [.Name x px,.Name y py] kt pt] (.Tuple [a,b] k2 Js) X.env=pure (some [x,y]):=by rfl)
   (hs:ac6 [.Tuple [.Name x px,.Name y py] kt pt] (.Tuple [a,b] k2 Js) pos.line X.env=pure false:=by rfl) (hc:X.calm=true:=by rfl) :
   SS X (.Assign [.Tuple [.Name x px,.Name y py] kt pt] (.Tuple [a,b] k2 Js) pos) (GA i j t):=⟨ER hc hN hi hj hij hx hy ha.h.pa hw hs⟩
theorem KJ (hc:X.calm=true:=by rfl):SC X (.builtin "max") (fun xs H Q=>∃i j,xs=[.int i,.int j]/\Q (.int (if j > i then j else i)) H):=⟨xx hc⟩
theorem KO {KK:ZY}(hc:X.calm=true:=by rfl)(hK:X.K=KK:=by first | exact bz | rfl):SC X (.builtin "sum") (fun xs H Q=>∃(l:Addr) (ns:List Int),xs=[.ref l]/\ao KK H l (ns.map V.int)/\Q (.int ns.sum) H):=by
 subst hK
 exact ⟨xA hc⟩
theorem YW {KK:ZY}(ha:SE X a ta)(he:∀whole,isTrue a X.env whole=(do let v ← whole; standAt a.pos; holding [v] (truthy v)):=by intro _; rfl)(hK:X.K=KK:=by first | exact bz | rfl) :
   ST X a (fun σ H Q=>ta σ H fun x H'=>∃k,GP KK x H' k/\Q k H'):=by
 subst hK
 exact ⟨BQ ha.h he⟩
end
end L3
namespace TW
def bH (sd:List Int)(rd:Option (List Int))(i:Nat):Option Int:=if i < sd.length then sd[i]? else
 match rd with
 | none=>none
 | some xs=>if xs.length=0 then none else xs[(i - sd.length) % xs.length]?
def rep (n:Nat)(xs:List Int):List Int:=(aar n xs).flatten
theorem nE (n:Nat)(xs:List Int):rep (n + 1) xs=rep n xs++xs:=by
 unfold rep
 rw [List.replicate_succ',aaC,List.flatten_singleton]
theorem lZ (n:Nat)(xs:List Int):(rep n xs).length=n * xs.length:=by
 induction n with
 | zero=>unfold rep; simp
 | succ n ih=>rw [nE,Z0,ih,ac2]
theorem wR {xs:List Int}:∀{n j:Nat},j < n * xs.length->(rep n xs)[j]? = xs[j % xs.length]?
 | 0,j,h=>by omega
 | n + 1,j,h=>by
   rw [nE]
   by_cases hj:j < n * xs.length
   · rw [aaJ (by rw [lZ]; exact hj)]
     exact wR hj
   · rw [aaX (by rw [lZ]; omega),lZ]
     rw [ac2] at h
     have e:j % xs.length=j - n * xs.length:=by
       obtain ⟨c,hc⟩ : ∃c,c=j - n * xs.length:=⟨_,rfl⟩
       have h1:j=c + xs.length * n:=by rw [adY xs.length n]; omega
       rw [← hc,h1,Nat.add_mul_mod_self_left,Nat.mod_eq_of_lt (by omega)]
     rw [e]
theorem CF {sd xs:List Int}{k i:Nat}(h:i < (sd++rep k xs).length):(sd++rep k xs)[i]? = bH sd (some xs) i:=by
 unfold bH
 by_cases hi:i < sd.length
 · rw [if_pos hi,aaJ hi]
 · rw [Z0,lZ] at h
   have hx:¬ xs.length=0:=fun z=>by rw [z] at h; omega
   rw [if_neg hi,aaX (by omega)]
   show _=if xs.length=0 then none else xs[(i - sd.length) % xs.length]?
   rw [if_neg hx,wR (by omega)]
def eM (sd:List Int)(rd:Option (List Int))(m:Nat)(fs:List Int):Prop:=∀i,fs[i]? = if i < m then bH sd rd i else none
theorem mD {sd:List Int}{rd:Option (List Int)}{m:Nat}(h:rd.getD []=[]):eM sd rd m (sd.take m):=fun i=>by
 rw [acQ]
 by_cases hi:i < m
 · rw [if_pos hi,if_pos hi]
   unfold bH
   by_cases hs:i < sd.length
   · rw [if_pos hs]
   · rw [if_neg hs,abR (by omega)]
     cases rd with
     | none=>rfl
     | some xs=>
       have:xs=[]:=h
       subst this
       rfl
 · rw [if_neg hi,if_neg hi]
theorem tZ {sd xs:List Int}{m k:Nat}(h:m<=(sd++rep k xs).length):eM sd (some xs) m ((sd++rep k xs).take m):=fun i=>by
 rw [acQ]
 by_cases hi:i < m
 · rw [if_pos hi,if_pos hi]
   exact CF (by omega)
 · rw [if_neg hi,if_neg hi]
theorem eM.len {sd:List Int}{rd:Option (List Int)}{m:Nat}{fs:List Int}(h:eM sd rd m fs):fs.length<=m:=by
 by_cases z:fs.length<=m
 · exact z
 · have:=h m
   rw [if_neg (by omega),ads] at this
   omega
theorem eM.at {sd:List Int}{rd:Option (List Int)}{m:Nat}{fs:List Int}(h:eM sd rd m fs){i:Nat}(hi:i < m):bH sd rd i=fs[i]?:=by
 rw [h i,if_pos hi]
def tG (sd:List Int)(rd:Option (List Int))(sd':List Int)(rd':Option (List Int)):Prop:=(∀i,bH sd rd i=bH sd' rd' i)/\rd.isNone=rd'.isNone
def C3 (sd:List Int)(rd:Option (List Int))(sd':List Int)(rd':Option (List Int))(n:Nat):Prop:=
 (∀i,i < n->bH sd rd i=bH sd' rd' i/\(bH sd rd i).isSome=true)/\¬ (bH sd rd n=bH sd' rd' n/\(bH sd rd n).isSome=true)
def jE (sd:List Int)(rd:Option (List Int))(sd':List Int)(rd':Option (List Int)):Nat:=max sd.length sd'.length + ((rd.getD []).length + (rd'.getD []).length)
theorem gu {sd:List Int}{rd:Option (List Int)}(h:(rd.getD []).length=0){i:Nat}(hi:sd.length<=i):bH sd rd i=none:=by
 unfold bH
 rw [if_neg (by omega)]
 cases rd with
 | none=>rfl
 | some xs=>
   show (if xs.length=0 then none else xs[(i - sd.length) % xs.length]?)=none
   rw [if_pos (show xs.length=0 from h)]
theorem o9 {sd:List Int}{rd:Option (List Int)}(h:0 < (rd.getD []).length)(i:Nat):(bH sd rd i).isSome=true:=by
 unfold bH
 by_cases hi:i < sd.length
 · rw [if_pos hi,ZZ hi]
   rfl
 · rw [if_neg hi]
   cases rd with
   | none=>simp at h
   | some xs=>
     have h':0 < xs.length:=h
     show (if xs.length=0 then none else xs[(i - sd.length) % xs.length]?).isSome=true
     rw [if_neg (by omega),ZZ (Nat.mod_lt _ h')]
     rfl
theorem jH {sd:List Int}{rd:Option (List Int)}{i:Nat}(hi:sd.length<=i):bH sd rd (i + (rd.getD []).length)=bH sd rd i:=by
 unfold bH
 rw [if_neg (by omega),if_neg (by omega)]
 cases rd with
 | none=>rfl
 | some xs=>
   show (if xs.length=0 then none else xs[(i + xs.length - sd.length) % xs.length]?)=if xs.length=0 then none else xs[(i - sd.length) % xs.length]?
   by_cases h:xs.length=0
   · rw [if_pos h,if_pos h]
   · rw [if_neg h,if_neg h,show i + xs.length - sd.length=(i - sd.length) + xs.length by omega,Nat.add_mod_right]
theorem E8 {sd:List Int}{rd:Option (List Int)}{sd':List Int}{rd':Option (List Int)}{m:Nat}(hm:jE sd rd sd' rd'<=m)(h:∀i,i < m->bH sd rd i=bH sd' rd' i)(i:Nat):bH sd rd i=bH sd' rd' i:=by
 unfold jE at hm
 have h1:=Nat.le_max_left sd.length sd'.length
 have h2:=Nat.le_max_right sd.length sd'.length
 by_cases ha:(rd.getD []).length=0
 · by_cases hb:(rd'.getD []).length=0
   · by_cases hi:i < m
     · exact h i hi
     · rw [gu ha (by omega),gu hb (by omega)]
   · have q:=h (max sd.length sd'.length) (by omega)
     rw [gu ha h1] at q
     have:=o9 (sd:=sd') (rd:=rd') (by omega) (max sd.length sd'.length)
     rw [← q] at this
     cases this
 · by_cases hb:(rd'.getD []).length=0
   · have q:=h (max sd.length sd'.length) (by omega)
     rw [gu hb h2] at q
     have:=o9 (sd:=sd) (rd:=rd) (by omega) (max sd.length sd'.length)
     rw [q] at this
     cases this
   · induction i using Nat.strongRecOn with
     | _ i ih=>
       by_cases hi:i < m
       · exact h i hi
       · have e1:bH sd rd i=bH sd rd (i - (rd.getD []).length):=by
           have:=jH (sd:=sd) (rd:=rd) (i:=i - (rd.getD []).length) (by omega)
           rwa [show i - (rd.getD []).length + (rd.getD []).length=i by omega] at this
         have e2:bH sd' rd' (i - (rd.getD []).length)=bH sd' rd' (i - (rd.getD []).length - (rd'.getD []).length):=by
           have:=jH (sd:=sd') (rd:=rd') (i:=i - (rd.getD []).length - (rd'.getD []).length) (by omega)
           rwa [show i - (rd.getD []).length - (rd'.getD []).length + (rd'.getD []).length=i - (rd.getD []).length by omega] at this
         have e3:bH sd rd (i - (rd'.getD []).length)=bH sd rd (i - (rd.getD []).length - (rd'.getD []).length):=by
           have:=jH (sd:=sd) (rd:=rd) (i:=i - (rd.getD []).length - (rd'.getD []).length) (by omega)
           rwa [show i - (rd.getD []).length - (rd'.getD []).length + (rd.getD []).length=i - (rd'.getD []).length by omega] at this
         have e4:bH sd' rd' i=bH sd' rd' (i - (rd'.getD []).length):=by
           have:=jH (sd:=sd') (rd:=rd') (i:=i - (rd'.getD []).length) (by omega)
           rwa [show i - (rd'.getD []).length + (rd'.getD []).length=i by omega] at this
         rw [e1,ih _ (by omega),e2,← ih _ (by omega),← e3,ih _ (by omega),← e4]
theorem oZ {sd:List Int}{rd:Option (List Int)}{m:Nat}{fs:List Int}(h:eM sd rd m fs)(hlt:fs.length < m):bH sd rd fs.length=none:=by
 rw [h.at hlt,ads]
 omega
end TW
namespace L2
open PySem PySem.Spec PyProof.Rows SeqAt
theorem all_ints {xs ys:List Int}(h:xs.length=ys.length):(aaA xs.length).all (fun j=>kl (.int (xs.getD j 0)) (.int (ys.getD j 0)))=decide (xs=ys):=by
 have key:(∀j,j < xs.length->xs.getD j 0=ys.getD j 0)↔xs=ys:=by
   constructor
   · intro k
     refine List.ext_getElem h fun j h1 h2=>?_
     have:=k j h1
     rw [aan,aan,ZZ h1,ZZ h2] at this
     exact this
   · intro e j _
     rw [e]
 by_cases e:xs=ys
 · rw [decide_eq_true e,abT]
   intro j hj
   show decide (xs.getD j 0=ys.getD j 0)=true
   exact decide_eq_true (key.mpr e j (List.mem_range.mp hj))
 · rw [decide_eq_false e]
   rw [Bool.eq_false_iff]
   intro z
   rw [abT] at z
   exact e (key.mp fun j hj=>of_decide_eq_true (show decide (xs.getD j 0=ys.getD j 0)=true from z j (List.mem_range.mpr hj)))
theorem yq {K:ZY}{H:Hp}{n:Nat}{xs ys:List Int}:∀(j:Nat) (x y:V),(xs.map V.int)[j]? = some x->(ys.map V.int)[j]? = some y->EB K H n x y (kl (.int (xs.getD j 0)) (.int (ys.getD j 0))):=fun j x y hx hy=>by
 rw [aaq] at hx hy
 obtain ⟨a,ha,rfl⟩:=Option.map_eq_some_iff.mp hx
 obtain ⟨b,hb,rfl⟩:=Option.map_eq_some_iff.mp hy
 rw [aan,aan,ha,hb]
 exact EB.flat rfl rfl
theorem RB.ints {K:ZY}{H:Hp}{n:Nat}{a b:Addr}{xs ys:List Int}(ha:H a=some (.lst (xs.map V.int)))(hb:H b=some (.lst (ys.map V.int))):RB K H n (.ref a) (.ref b) (decide (xs=ys)):=by
 by_cases hl:xs.length=ys.length
 · refine ⟨a,b,_,_,rfl,rfl,.inl ⟨_,ao.of ha,ao.of hb,by rw [ZX,ZX]; exact hl,yq,?_⟩⟩
   rw [ZX,all_ints hl]
 · exact ⟨a,b,_,_,rfl,rfl,.inr (.inl ⟨ao.of ha,ao.of hb,by rw [ZX,ZX]; exact hl,decide_eq_false fun z=>hl (by rw [z])⟩)⟩
end L2
namespace L3
open PySem PySem.Spec PyProof.Rows L2
end L3
namespace TW
end TW
namespace TW
end TW
namespace L2
open PySem PySem.Spec PyProof.Rows
section
variable {X:Cx}
theorem qP:∀{bs:List Bool} {us:List Value},Vals (bs.map V.bl) us->us=bs.map abk
 | [],_,.nil=>rfl
 | b :: bs,_,.cons r q=>by
   cases r
   rw [qP q]
   rfl
theorem xu (hc:X.calm=true):dB X (.builtin "all") (fun xs H Q=>∃(l:Addr) (bs:List Bool),xs=[.ref l]/\ao X.K H l (bs.map V.bl)/\Q (.bl (bs.all id)) H):=by
 intro pins s σ H xs us Q I r h
 obtain ⟨l,bs,rfl,hq,q⟩:=h
 obtain ⟨u,rfl,ru⟩:=vals1 r
 obtain rfl:u=aal l:=ru
 obtain ⟨its,rv,pl,_⟩:=I.list hq
 have e1:=qP rv
 subst e1
 have hl:=pl.isList
 have hlt:l < s.heap.objs.size:=by obtain ⟨_,e,_⟩:=hl; exact Z7 e
 refine call_all_walk (wpAny_pyIter_list hl ?_)
 refine ⟨_,_,_,_,_,_,fun i=>bs.getD i true,rfl,Walks.list (A:=X.A.in1) (show X.A.in1.handled=none from I.ok.hd hc) s.heap.objs.size l (aay hlt) (bs.map abk).toArray,⟨⟨_,aas _ rfl,rfl,rfl⟩,hl.push _⟩,?_,fun h' tk hk=>?_⟩
 · intro i v s' Q' E' hP Wv
   have hv:bs[i]?.map abk=some v:=by simpa using hP
   obtain ⟨b,hb,rfl⟩:=Option.map_eq_some_iff.mp hv
   have S9:Q' (bs.getD i true) s':=Wv
   rw [aan,hb] at S9
   exact wpAny_truthy_bool S9
 · have kk:∀b o,s.heap.get? b=some o->h'.get? b=some o:=old_kept hk
   refine ⟨.bl (bs.all id),H,I.kept kk,?_,q⟩
   have e:(aaA (bs.map abk).toArray.size).all (fun i=>bs.getD i true)=bs.all id:=by
     rw [show (bs.map abk).toArray.size=bs.length by simp]
     have key:(∀i,i < bs.length->bs.getD i true=true)↔∀b∈bs,b=true:=by
       constructor
       · intro k b hb
         obtain ⟨i,hi,e⟩:=ab0 hb
         have:=k i hi
         rw [aan,ZZ hi] at this
         rw [← e]
         exact this
       · intro k i hi
         rw [aan,ZZ hi]
         exact k _ (acn hi)
     rw [aa3,abT,abT]
     exact ⟨fun k b hb=>key.mp (fun i hi=>k i (List.mem_range.mpr hi)) b hb,fun k i hi=>key.mpr (fun b hb=>k b hb) i (List.mem_range.mp hi)⟩
   rw [e]
   rfl
end
end L2
namespace L3
open PySem PySem.Spec PyProof.Rows L2
theorem Ft {X:Cx}{KK:ZY}(hc:X.calm=true:=by rfl)(hK:X.K=KK:=by first | exact bz | rfl):SC X (.builtin "all") (fun xs H Q=>∃(l:Addr) (bs:List Bool),xs=[.ref l]/\ao KK H l (bs.map V.bl)/\Q (.bl (bs.all id)) H):=by
 subst hK
 exact ⟨xu hc⟩
end L3
namespace L2
open PySem PySem.Spec PyProof.Rows SeqAt
theorem aP.YY {P:Program}{w:World}{K:ZY}{mg:Str->Option Value}{base:Heap}{CX:vO}{k:Nat}{f:Addr}{fd:aaf}{ps:List Str}{sp:Sp}(F:aP P w K mg base cK k f fd ps sp):aP P w K mg base CX k f fd ps sp:=
 ⟨F.len,fun A outer s H args us vs Q E hr he hb hv hs=>codeAny_mono (F.run A outer s H args us vs Q E hr he hb hv hs) fun r s' h=>by
   cases r with
   | error e=>exact h.elim
   | ok f=>
     cases f with
     | ret u=>exact h
     | _=>exact h.elim⟩
theorem aP.or {P:Program}{w:World}{K:ZY}{mg:Str->Option Value}{base:Heap}{CX:vO}{k:Nat}{f:Addr}{fd:aaf}{ps:List Str}{sp Uz:Sp}(F:aP P w K mg base CX k f fd ps sp)(F':aP P w K mg base CX k f fd ps Uz):aP P w K mg base CX k f fd ps (fun vs H Q E=>sp vs H Q E\/Uz vs H Q E):=
 ⟨fun vs H Q E h=>h.elim (F.len vs H Q E) (F'.len vs H Q E),fun A outer s H args us vs Q E hr he hb hv hs=>hs.elim (F.run A outer s H args us vs Q E hr he hb hv) (F'.run A outer s H args us vs Q E hr he hb hv)⟩
section
variable {K:ZY}{H:Hp}{α:Type}[DecidableEq α]{At:V->α->Prop}{n:Nat}
theorem nu:∀{vx vy:List V} {xs ys:List α},Paired At vx xs->Paired At vy ys->vx.length=vy.length->(∀u v x y,At u x->At v y->EB K H n u v (decide (x=y))) ->
   ∃e:Nat->Bool,(∀j x y,vx[j]? = some x->vy[j]? = some y->EB K H n x y (e j))/\(aaA vx.length).all e=decide (xs=ys)
 | [],[],_,_,.nil,.nil,_,_=>⟨fun _=>true,(fun j x y h=>by cases j <;> cases h),rfl⟩
 | u :: vx,v :: vy,x :: xs,y :: ys,.cons h1 r1,.cons h2 r2,hl,k=>by
   obtain ⟨e,he,ha⟩:=nu r1 r2 (by simpa using hl) k
   refine ⟨fun j=>match j with | 0=>decide (x=y) | j + 1=>e j,fun j a b hx hy=>?_,?_⟩
   · cases j with
     | zero=>
       cases hx
       cases hy
       exact k u v x y h1 h2
     | succ j=>exact he j a b hx hy
   · rw [aam,adF,acS,List.all_map]
     show (decide (x=y) && (aaA vx.length).all e)=_
     rw [ha]
     by_cases c:x=y <;> by_cases d:xs=ys <;> simp [c,d]
theorem RB.told {a b:Addr}{vx vy:List V}{xs ys:List α}(ha:H a=some (.lst vx))(hb:H b=some (.lst vy))(px:Paired At vx xs)(py:Paired At vy ys)(k:∀u v x y,At u x->At v y->EB K H n u v (decide (x=y))):RB K H n (.ref a) (.ref b) (decide (xs=ys)):=by
 have lx:=Paired.length px
 have ly:=Paired.length py
 by_cases hl:vx.length=vy.length
 · obtain ⟨e,h1,h2⟩:=nu px py hl k
   exact ⟨a,b,_,_,rfl,rfl,.inl ⟨e,ao.of ha,ao.of hb,hl,h1,h2.symm⟩⟩
 · exact ⟨a,b,_,_,rfl,rfl,.inr (.inl ⟨ao.of ha,ao.of hb,hl,decide_eq_false fun z=>hl (by rw [lx,ly,z])⟩)⟩
end
theorem dE {α:Type}(c:α->V):∀xs:List α,Paired (fun v x=>v=c x) (xs.map c) xs
 | []=>.nil
 | _ :: r=>.cons rfl (dE c r)
theorem RB.strs {K:ZY}{H:Hp}{n:Nat}{a b:Addr}{xs ys:List Str}(ha:H a=some (.lst (xs.map V.str)))(hb:H b=some (.lst (ys.map V.str))):RB K H n (.ref a) (.ref b) (decide (xs=ys)):=
 RB.told ha hb (dE V.str xs) (dE V.str ys) fun u v x y h1 h2=>by
   subst h1
   subst h2
   have e:kl (.str x) (.str y)=decide (x=y):=by
     show (x == y)=_
     rw [aa3,beq_iff_eq,decide_eq_true_iff]
   rw [← e]
   exact EB.flat rfl rfl
theorem RB.Sl {K:ZY}{H:Hp}{n:Nat}{a b:Addr}{xs ys:List Bool}(ha:H a=some (.lst (xs.map V.bl)))(hb:H b=some (.lst (ys.map V.bl))):RB K H n (.ref a) (.ref b) (decide (xs=ys)):=
 RB.told ha hb (dE V.bl xs) (dE V.bl ys) fun u v x y h1 h2=>by
   subst h1
   subst h2
   have e:kl (.bl x) (.bl y)=decide (x=y):=by
     cases x <;> cases y <;> rfl
   rw [← e]
   exact EB.flat rfl rfl
theorem EB.pair {K:ZY}{H:Hp}{n:Nat}{p q:Addr}{a b:Str}{x y:V}(hp:H p=some (.tup [.str a,x]))(hq:H q=some (.tup [.str b,y]))(fx:ck x=true)(fy:ck y=true)(hs:kl x x=true):EB K H (n + 1) (.ref p) (.ref q) (decide (a=b) && kl x y):=by
 by_cases e:p=q
 · subst e
   rw [hp] at hq
   cases hq
   rw [decide_eq_true rfl,hs]
   exact .same
 · have k:=EB.tup (K:=K) (H:=H) (n:=n) (e:=fun j=>match j with | 0=>kl (.str a) (.str b) | _=>kl x y) e (aK.of hp) (aK.of hq) (fun j u v hu hv=>by
     match j,hu,hv with
     | 0,hu,hv=>cases hu; cases hv; exact EB.flat rfl rfl
     | 1,hu,hv=>cases hu; cases hv; exact EB.flat fx fy)
   have e:((aaA (min [V.str a,x].length [V.str b,y].length)).all (fun j=>match j with | 0=>kl (.str a) (.str b) | _=>kl x y) && [V.str a,x].length == [V.str b,y].length)=(decide (a=b) && kl x y):=by
     show (((a == b) && (kl x y && true)) && true)=_
     rw [adA,adA]
     congr 1
   rw [e] at k
   exact k
structure qI (k:Nat)(A:Around):Prop where
 dp:A.depth + 3 * k + 5 < adQ
 un:A.units + 16 * k + 200 < cLine
theorem dn.h {k:Nat}{A:Around}(r:dn k A)(e:Option Value):qI k (A.mark e):=⟨r.dp,r.un⟩
abbrev ON (P:Program)(w:World)(K:ZY)(mg:Str->Option Value)(base:Heap)(N:List Str)(qual:Str)(scope:Scope)(f:Addr)(cd:Value)(A:Around)(outer:List Env)(s:Shared)(H:Hp)(E:XK):Cx:=
 { hJ cK P w K mg base N qual scope f cd A outer s H E with calm:=false,xe:=fun _ _=>False }
structure mq (P:Program)(w:World)(K:ZY)(mg:Str->Option Value)(base:Heap)(k:Nat)(f:Addr)(fd:aaf)(ps:List Str)(sp:Sp):Prop where
 len:∀vs H Q E,sp vs H Q E->vs.length=ps.length
 run:∀(A:Around) (outer:List Env) (s:Shared) (H:Hp) (args:Args) (us:List Value) (vs:List V) (Q:VK) (E:XK),qI k A->xr P w K mg base A outer s H->BindsTo s fd args (ps.zip us)->Vals vs us->sp vs H Q E ->
   codeAny (model P w) A (.call (.ref f) args) (CR cK outer P w H s Q E) s
theorem mq.mono {P:Program}{w:World}{K:ZY}{mg:Str->Option Value}{base:Heap}{j k:Nat}{f:Addr}{fd:aaf}{ps:List Str}{sp:Sp}(F:mq P w K mg base j f fd ps sp)(h:j<=k):mq P w K mg base k f fd ps sp:=
 ⟨F.len,fun A outer s H args us vs Q E hr=>F.run A outer s H args us vs Q E ⟨by have:=hr.dp; omega,by have:=hr.un; omega⟩⟩
section
variable {P:Program}{w:World}{K:ZY}{mg:Str->Option Value}{base:Heap}
theorem dm.Yo {x qual:Str}{st:Stmt}{f:Addr}{fd:aaf}{N ps:List Str}{k:Nat}{sp:Sp}(F:dm K x qual st f fd)(S:aD N ps (ai st))(len:∀vs H Q E,sp vs H Q E->vs.length=ps.length)
   (hbody:∀(cdv:Value) (A:Around) (outer:List Env) (s:Shared) (H:Hp) (vs:List V) (Q:VK) (E:XK),qI k (A.deeper (envOfC qual (ai st) s.heap.objs.size f cdv))->sp vs H Q E ->
     ∃t,nY (ON P w K mg base N qual (ai st) f cdv A outer s H E) (cU st) t/\t { nx:=fun _ H'=>Q .bN H',rt:=Q } (start N vs) H):mq P w K mg base (k + 1) f fd ps sp:=by
 obtain ⟨oc,od,kV,doc,pm,an,cdv,ct,osl,rfl,lk,hcd⟩:=F.ex
 refine ⟨len,fun A outer s H args us vs Q E hr e0 hb r hsp=>?_⟩
 have hl:=len _ _ _ _ hsp
 have kb:=fun b o e=>(e0.bs b o e).1
 have KX:K.In s.heap:=e0.mod.kin.keeps kb
 have lim:s.heap.NoLimit:=e0.mod.nolimit.keeps kb
 have hk:∀y∈ps.zip us,(ai st).names.lookup y.1=some .local\/((ai st).names.lookup y.1=some .cell/\((cellsFrom (s.heap.objs.size + 1) (ai st).names []).lookup y.1).isSome=true):=fun ⟨n,v⟩ hy=>
   (S.par n (abr hy).1).elim .inl fun q=>.inr ⟨q,acg _ _ _ (.inl q)⟩
 refine codeAny_call_function (by have:=hr.dp; omega) (KX _ _ lk) rfl S.co S.gen rfl (adN KX hcd) (hb _ _ _ _ ?_)
 refine adL S.kind hk fun env he s1 z=>?_
 subst he
 refine ⟨lim.keeps z.toInCall.keep,codeAny_func ?_⟩
 obtain ⟨t,ht,hq⟩:=hbody cdv A outer s H vs Q E ⟨by have:=hr.dp; show A.depth + 1 + 3 * k + 5 < _; omega,by have:=hr.un; show A.units + 3 + 16 * k + 200 < _; omega⟩ hsp
 have e1:xr P w K mg base ({ A with handled:=none }:Around) outer s H:=⟨e0.frames,e0.mod,e0.bs,e0.bsz,e0.hU,e0.frf,e0.hok,e0.bare⟩
 have I0:=oT (CX:=cK) (qual:=qual) (f:=f) (cd:=cdv) (E:=E) S (show ({ A with handled:=none }:Around).handled=none from rfl) e1 hl r z
 have I:Inv (ON P w K mg base N qual (ai st) f cdv A outer s H E) [] (start N vs) H s1:=
   ⟨⟨I0.ok.mod,I0.ok.kind,I0.ok.glob,I0.ok.blt,I0.ok.above,I0.ok.inj,I0.ok.has,I0.ok.cab,(fun z=>nomatch z),adK e0.frames,I0.ok.stk,I0.ok.exf,I0.ok.bs,I0.ok.bsz,I0.ok.noex,I0.ok.exfs,I0.ok.hU,I0.ok.frf⟩,I0.os,I0.bare,I0.base,I0.loc,I0.cell,I0.free,I0.freeC,I0.pin,I0.hok,I0.len⟩
 refine wpAny_mono (ht [] s1 (start N vs) H _ I hq) (fun fl s' hs=>?_) fun e s' hs=>hs.elim
 have fin:∀{σ':St} {H':Hp} {v:V} {u:Value},Inv (ON P w K mg base N qual (ai st) f cdv A outer s H E) [] σ' H' s'->RelV v u->Q v H'->CE outer P w H s Q u s':=
   fun {σ' H' v u} J rv q=>⟨v,H',J.os,J.bare,J.base,J.hok,rv,q⟩
 cases fl with
 | ret u=>
   obtain ⟨v,σ',H',J,rv,q⟩:=hs
   exact fin J rv q
 | next=>
   obtain ⟨σ',H',J,q⟩:=hs
   exact fin (v:=V.bN) (u:=acT) J rfl q
 | brk=>obtain ⟨_,_,_,q⟩:=hs; exact q.elim
 | cont=>obtain ⟨_,_,_,q⟩:=hs; exact q.elim
end
section
variable {X:Cx}{k:Nat}{f:Addr}{fd:aaf}{ps:List Str}{sp:Sp}{x:Str}{p pos:Pos}{e:Expr}{es:List Expr}{t:TA}
theorem BB (F:mq X.prog X.w X.K X.mg X.base k f fd ps sp)(hr:qI k X.A)(hg:Gl X x)(hm:X.mg x=some (.ref f))(hk:aaZ X.K (.ref f)=true)(hb:Binds X.K fd ps [])
   (ha:PA X (e :: es) t) (hdb:(x == ("__debug__":Str))=false:=by decide) (he:starEach (e :: es) X.env=(false,eval e X.env) :: starEach es X.env:=by rfl) (hpl:(backTo pos (starEach es X.env)).any (·.1)=false:=by rfl) :
   PE X (.Call (.Name x p) (e :: es) [] pos) (nS sp [] E0 t):=by
 intro pins s σ H Q I h
 refine wpAny_Call_Name_kw (jD I hg hm ?_ hdb)
 refine adO (h₀:=X.base) I.ok.mod.kin hk (bt (ha pos pins s σ H _ I h) fun us s1 ⟨vs,H1,I1,r,q⟩=>⟨I1.lV,?_⟩) he hpl
 have q':sp vs H1 Q E0:=by have z:sp (vs++[]) H1 Q E0:=q; rw [aax] at z; exact z
 have hl:us.length=ps.length:=by rw [← r.length]; exact F.len _ _ _ _ q'
 have FG:=hb s1 us I1.lV (by rw [aax]; exact hl)
 rw [aax] at FG
 refine wpAny_call (codeAny_mono (F.run X.A X.stack s1 H1 ⟨us,[]⟩ us vs Q E0 hr I1.KY FG r q') fun r s' hq=>?_)
 cases r with
 | error e=>exact abd hq
 | ok fl=>
   cases fl with
   | ret u=>exact I1.after hq
   | next=>exact abd hq
   | brk=>exact abd hq
   | cont=>exact abd hq
end
def GD (K:ZY)(mg:Str->Option Value)(T:Addr)(n ie:Nat)(tb:XK->TS)(th:TS):TS:=fun D σ H=>tb (fun cls _ H2=>∃C tl x,cls=.ref C/\Xc K mg x C tl/\(aal C :: tl).contains (.ref T)=true/\∀ea,H2 ea=none->th { nx:=fun σ8 H8=>D.nx (σ8.set ie none) H8,rt:=fun _ _=>False } ((aar n none).set ie (some (.ref ea))) (upd H2 ea (zq ea C))) D σ H
theorem ES {X:Cx}{tn en:Str}{T:Addr}{ie:Nat}{body fG:List Stmt}{hst0:Stmt}{tb:XK->TS}{th:TS}{np hp pos:Pos}(hst:X.stack=X.env :: X.outer)(hex:X.ex=[])(hfr:X.env.frame=some X.env.locals)(hN:X.N.Nodup)(hie:X.N[ie]? = some en)
   (hle:X.env.scope.names.lookup en=some .local) (cT:Xc X.K X.mg tn T vE) (hg:Gl X tn)
   (hb:∀(W:Value->Shared->Prop) (pn:List (Addr×Obj)) (Ex:XK),Passes (lu X.prog X.w X.base) { X with xe:=W,pn:=pn } Ex->nY { X with xe:=W,pn:=pn } body (tb Ex))
   (hh:∀ea:Addr,nY { X with A:=X.A.mark (some (.ref ea)),calm:=false,xe:=fun _ _=>False } (hst0 :: fG) th) (hdt:(tn == ("__debug__":Str))=false) :
   PS X (.Try body [.ExceptHandler (some (.Name tn np)) (some en) (hst0 :: fG) hp] [] [] pos) (GD X.K X.mg T X.N.length ie tb th):=by
 intro pins s σ H D I h
 let Hd:List ExceptHandler:=[.ExceptHandler (some (.Name tn np)) (some en) (hst0 :: fG) hp]
 let W:Value->Shared->Prop:=fun e s1=>wpAny (model X.prog X.w) X.A (noteFrame e X.env) (fun _ s2=>wpAny (model X.prog X.w) X.A (setFlight e none) (fun _ s3=>wpAny (model X.prog X.w) X.A (handleBy e X.env Hd) (SP X pins D) X.xe s3) X.xe s2) X.xe s1
 have RC:∀p∈(X.pn++pins)++[],p∈X.pn++pins:=fun p hp=>by rw [aax] at hp; exact hp
 have back:∀{σ1:St} {H1:Hp} {s1:Shared} {Gb:List (Addr×Obj)},Inv { X with xe:=W,pn:=X.pn++pins } Gb σ1 H1 s1->Inv X pins σ1 H1 s1:=fun J=>J.back fun p hp=>aby _ hp
 refine wpAny_Try_except ?_
 refine wpAny_mono (hb W (X.pn++pins) _ ?_ [] s σ H D (I.other RC) h) (fun f s1 hs=>?_) (fun e s1 he=>he)
 · -- an exception of a callee
   intro Gb σ1 H1 s1 e s2 J cx
   obtain ⟨ea,cls,a0,B,H2,rfl,Q5,zI,CA,Hv,Oi,z0,inB,ze,N4,C,tl,x,rfl,xc,hup,q⟩:=cx
   have J0:=back J
   have Qs:({ X with xe:=W,pn:=X.pn++pins }:Cx).stack=X.env :: X.outer:=hst
   rw [Qs] at CA z0 inB
   have NG:=z0.2.2.1
   have at_:∀h3:Heap,B.StaysIn h3->s2.heap.UpToSlots h3->Inv X pins σ1 H2 { s2 with heap:=h3 }:=fun h3 s3 up=>by
     refine J0.Fv (s':={ s2 with heap:=h3 }) (ch:=[]) Q5 ?_ (kQ Hv ze z0.1 s3) zI (fun b z=>nomatch z)
     rw [hst]
     exact CC CA z0.1 s3 inB (Cj NG up)
   have n2:H2 ea=none:=by
     cases z:H2 ea with
     | none=>rfl
     | some u=>
       obtain ⟨o,ho⟩:=ze ea u z
       rw [z0.2.1] at ho
       cases ho
   show wpAny (model X.prog X.w) X.A (noteFrame (.ref ea) X.env) _ _ _
   have VO:X.A.frames=some (X.env :: X.outer):=by rw [← hst]; exact I.ok.frames
   refine wpAny_looks_onW VO hfr z0 fun h4 Lm YZ=>?_
   refine wpAny_landsW Lm fun h5 G8 Y0=>?_
   have Nh:=YZ.trans Y0
   have I5:=at_ h5 G8.1 Nh
   refine wpAny_handleBy_cons (codeAny_handlers_test (jD (I5.mark (e:=some (.ref ea))) hg cT.m ?_ hdt)) (by intro z; cases z)
   obtain ⟨N1,a1,a2,a3,a4,a5,a6,a7,a8,a9,b0,b1,b2,b3,b5,m1,hC,_,_,_⟩:=xc.obj I5.lV
   obtain ⟨N2,c1,c2,c3,c4,c5,c6,c7,c8,c9,d0,d1,d2,d3,d5,m2,hT,_,_,_⟩:=cT.obj I5.lV
   obtain ⟨ob,Xj,Qb⟩:=G8.there
   refine uP hC hT Xj Qb hup rfl (codeAny_handlers_suite_as ?_)
   refine lands_againW G8 fun h6 K4 Y1=>?_
   have I6:=at_ h6 K4.1 (Nh.trans Y1)
   have VA:lA ea C h6:=K4.there
   have ne_of1:∀b o,s1.heap.get? b=some o->b≠ea:=fun b o hb z=>by rw [z,N4] at hb; cases hb
   have UY:=I6.Nf n2 VA (by
     cases z:X.s₀.heap.get? ea with
     | none=>rfl
     | some o=>
       by_cases hx:ea∈X.ex
       · rw [hex] at hx
         exact nomatch hx
       · obtain ⟨o',e1⟩:=J0.base.there ea o z hx
         rw [N4] at e1
         cases e1) (by
     obtain ⟨m,⟨o,_,_,ho,_⟩,_⟩:=J0.loc
     exact (ne_of1 _ o ho).symm) (fun y c e=>by
     obtain ⟨v,o,ho,_⟩:=J0.cell y c e
     exact ne_of1 c o ho) (fun p hp=>ne_of1 p.1 p.2 (J0.pin p hp).1)
   refine gJ UY hN hie (.inl hle) (v:=.ref ea) rfl (fun s7 I7=>?_) (.inr hle)
   have hlenσ:σ1.length=X.N.length:=J0.len
   have Ho:ie < σ1.length:=by rw [hlenσ]; exact (List.getElem?_eq_some_iff.mp hie).1
   have UZ:=I7.weak (σ':=(aar X.N.length none).set ie (some (.ref ea))) (by rw [abZ,abZ,acv,hlenσ]) (fun i v e=>by
     by_cases hi:i=ie
     · subst hi
       rw [abm (by rw [acv,← hlenσ]; exact Ho)] at e
       rw [abm Ho]
       exact e
     · rw [abV (Ne.symm hi),ady] at e
       split at e <;> cases e)
   refine wpAny_mono (hh ea pins s7 _ _ _ (UZ.mark (e:=some (.ref ea))) (q ea n2)) (fun f s8 hs=>?_) (fun _ _ z=>z.elim)
   cases f with
   | next=>
     obtain ⟨σ8,H8,I8,z8⟩:=hs
     have OA:=I6.unmark I8
     obtain ⟨m8,Xf,W7⟩:=id OA.loc
     refine wpAny_nameGoes_keeps (by exact hle) Xf (by rw [I.ok.kind]; rfl) fun h9 v9 Xg Xx=>?_
     refine ⟨_,_,OA.forget (σ':=σ8.set ie none) W7 Xg Xx (by rw [abZ]) (fun i v e=>?_),z8⟩
     have l8:σ8.length=X.N.length:=OA.len
     by_cases hi:i=ie
     · subst hi
       rw [abm (by rw [l8,← hlenσ]; exact Ho)] at e
       cases e
     · rw [abV (Ne.symm hi)] at e
       refine ⟨e,fun z=>hi ?_⟩
       obtain ⟨h1,e1⟩:=List.getElem?_eq_some_iff.mp z
       obtain ⟨h2,e2⟩:=List.getElem?_eq_some_iff.mp hie
       rcases Nat.lt_trichotomy i ie with c | c | c
       · exact absurd (e1.trans e2.symm) (List.pairwise_iff_getElem.mp hN i ie h1 h2 c)
       · exact c
       · exact absurd (e2.trans e1.symm) (List.pairwise_iff_getElem.mp hN ie i h2 h1 c)
   | brk=>obtain ⟨_,_,_,z⟩:=hs; exact z.elim
   | cont=>obtain ⟨_,_,_,z⟩:=hs; exact z.elim
   | ret u=>obtain ⟨_,_,_,_,_,z⟩:=hs; exact z.elim
 · cases f with
   | next=>
     obtain ⟨σ',H',J,z⟩:=hs
     exact ab9 ⟨σ',H',back J,z⟩
   | brk=>obtain ⟨σ',H',J,z⟩:=hs; exact ⟨σ',H',back J,z⟩
   | cont=>obtain ⟨σ',H',J,z⟩:=hs; exact ⟨σ',H',back J,z⟩
   | ret u=>obtain ⟨v,σ',H',J,r,z⟩:=hs; exact ⟨v,σ',H',back J,r,z⟩
end L2
namespace TW
open PySem L2
def pI (P:Program)(w:World)(K:ZY)(mg:Str->Option Value)(base:Heap)(x:Str)(ps:List Str)(k:Nat)(sp:Sp):Prop:=
 ∃f fd,mq P w K mg base k f fd ps sp/\aaZ K (.ref f)=true/\Binds K fd ps []/\mg x=some (.ref f)
theorem pI.mono {P:Program}{w:World}{K:ZY}{mg:Str->Option Value}{base:Heap}{x:Str}{ps:List Str}{j k:Nat}{sp:Sp}(h:pI P w K mg base x ps j sp)(hk:j<=k):pI P w K mg base x ps k sp:=
 let ⟨f,fd,a,b,c,d⟩:=h; ⟨f,fd,a.mono hk,b,c,d⟩
end TW
namespace L3
open PySem L2
section
variable {X:Cx}{e:Expr}{es:List Expr}{t:TA}{pos:Pos}
theorem Mi {x:Str}{p:Pos}{ps:List Str}{kk:Nat}{sp:Sp}(D:TW.pI X.prog X.w X.K X.mg X.base x ps kk sp)(hr:qI kk X.A)(hg:Gl X x)(ha:SA X (e :: es) t)(hdb:(x == ("__debug__":Str))=false:=by decide) :
   SE X (.Call (.Name x p) (e :: es) [] pos) (nS sp [] E0 t):=
 let ⟨_,_,G,kp,b,m⟩:=D
 ⟨BB G hr hg m kp b ha.h.pa hdb ((ha.h.ns e es rfl).1.h es X.env) ((ha.h.ns e es rfl).2 pos X.env)⟩
theorem Ng {tn en:Str}{T:Addr}(ie:Nat){body fG:List Stmt}{hst0:Stmt}{tbb:XK->TS}{th:TS}{np hp:Pos}{KK:ZY}{mg:Str->Option Value}{NN:Nat}(hN:X.N.Nodup)(cT:Xc X.K X.mg tn T vE)(hg:Gl X tn)
   (hb:∀(W:Value->Shared->Prop) (pn:List (Addr×Obj)) (Ex:XK),Passes (lu X.prog X.w X.base) { X with xe:=W,pn:=pn } Ex->SL { X with xe:=W,pn:=pn } body (tbb Ex))
   (hh:∀ea:Addr,SL { X with A:=X.A.mark (some (.ref ea)),calm:=false,xe:=fun _ _=>False } (hst0 :: fG) th)
   (hie:X.N[ie]? = some en:=by rfl) (hle:X.env.scope.names.lookup en=some .local:=by rfl)
   (hst:X.stack=X.env :: X.outer:=by rfl) (hex:X.ex=[]:=by rfl) (hfr:X.env.frame=some X.env.locals:=by rfl) (hK:X.K=KK:=by rfl) (hm:X.mg=mg:=by rfl) (hNN:X.N.length=NN:=by rfl)
   (hdt:(tn == ("__debug__":Str))=false:=by decide) :
   SS X (.Try body [.ExceptHandler (some (.Name tn np)) (some en) (hst0 :: fG) hp] [] [] pos) (GD KK mg T NN ie tbb th):=by
 subst hK hm hNN
 exact ⟨ES hst hex hfr hN hie hle cT hg (fun W pn Ex wo=>(hb W pn Ex wo).h) (fun ea=>(hh ea).h) hdt⟩
theorem G0 {a b c:Expr}{ta tb tc:TE}{op IC:CmpOp}{r r':R2}(ho:SO X (compareOp op) r)(ho':SO X (compareOp IC) r')(ha:SE X a ta)(hb:SE X b tb)(hc:SE X c tc)(hm:lastMarks [op,IC] [b,c]=false:=by with_unfolding_all rfl):SE X (.Compare a [op,IC] [b,c] pos) (Co r r' ta tb tc):=⟨BC ho.h ho'.h ha.h hb.h hc.h hm⟩
end
end L3
namespace L2
open PySem PySem.Spec PyProof.Rows SeqAt
def EY (K:ZY)(m:Nat)(neg:Bool):R2:=fun x y H Q=>∃(p:Addr) (as:List Addr) (f:Addr->Bool),y=.ref p/\ao K H p (as.map V.ref)/\(∀a∈as,EB K H m (.ref a) x (f a))/\Q (.bl (if neg then !as.any f else as.any f)) H
def E1 (f:Addr->Bool):Value->Bool
 | .ref a=>f a
 | _=>false
theorem mw (f:Addr->Bool):∀as:List Addr,(as.map aal).any (E1 f)=as.any f
 | []=>rfl
 | a :: r=>by
   rw [aaw,abw,abw,mw f r]
   rfl
section
variable {X:Cx}
theorem pf {pins:List (Addr×Obj)}{σ:St}{H:Hp}{s:Shared}{x:V}{v:Value}{m:Nat}{as:List Addr}{f:Addr->Bool}{its:List Value}(hu:X.A.units + (m + 1) < cLine)(I:Inv X pins σ H s)(rx:RelV x v)(r:Vals (as.map V.ref) its)(h:∀a∈as,EB X.K H m (.ref a) x (f a)):∀y,y∈its.toArray->EqAt X.A.in1 s y v (E1 f y):=fun z hz=>by
 have e:=eZ r
 subst e
 have HQ:z∈as.map aal:=by simpa using hz
 obtain ⟨a,ha,rfl⟩:=List.mem_map.mp HQ
 exact (h a ha).at I _ _ _ rfl rx (by show X.A.units + 1 + m < cLine; omega)
theorem IG {m:Nat}(hu:X.A.units + (m + 1) < cLine):hG X (compareOp .In) (EY X.K m false):=by
 intro pins s σ H x y v u Q I rx ry h
 obtain ⟨p,as,f,rfl,hq,eb,q⟩:=h
 cases ry
 obtain ⟨its,r,pl,_⟩:=I.list hq
 refine in_listAt (E1 f) pl.isList (pf hu I rx r eb) ⟨.bl (as.any f),H,I,?_,q⟩
 show abk _=abk _
 have e:=eZ r
 subst e
 congr 1
 rw [List.any_toArray]
 exact mw f as
theorem yS {m:Nat}(hu:X.A.units + (m + 1) < cLine):hG X (compareOp .NotIn) (EY X.K m true):=by
 intro pins s σ H x y v u Q I rx ry h
 obtain ⟨p,as,f,rfl,hq,eb,q⟩:=h
 cases ry
 obtain ⟨its,r,pl,_⟩:=I.list hq
 refine notIn_listAt (E1 f) pl.isList (pf hu I rx r eb) ⟨.bl (!as.any f),H,I,?_,q⟩
 show abk _=abk _
 have e:=eZ r
 subst e
 congr 2
 rw [List.any_toArray]
 exact mw f as
end
def twoF (H:Hp)(t x:Str)(a:Addr):Bool:=match H a with
 | some (.tup [.str s,.str y])=>decide (s=t) && kl (.str y) (.str x)
 | _=>false
theorem two_eb {K:ZY}{H:Hp}{n:Nat}{a p:Addr}{s y t x:Str}(ha:H a=some (.tup [.str s,.str y]))(hp:H p=some (.tup [.str t,.str x])):EB K H (n + 1) (.ref a) (.ref p) (twoF H t x a):=by
 unfold twoF
 rw [ha]
 exact EB.pair ha hp rfl rfl (by show (y == y)=true; exact beq_self_eq_true y)
def b8 (H:Hp)(v:V)(b:Str×Str):Prop:=∃p,v=.ref p/\H p=some (.tup [.str b.1,.str b.2])
theorem two_any {H:Hp}{t x:Str}:∀{as:List Addr} {kn:List (Str×Str)},Paired (b8 H) (as.map V.ref) kn->as.any (twoF H t x)=decide ((t,x)∈kn)
 | [],[],_=>rfl
 | a :: as,b :: kn,.cons ⟨p,e,h⟩ r=>by
   cases e
   rw [abw,two_any r]
   have e:twoF H t x a=decide (b=(t,x)):=by
     unfold twoF
     rw [h]
     show (decide (b.1=t) && (b.2 == x))=_
     rw [aa3,aaN,decide_eq_true_iff,beq_iff_eq,decide_eq_true_iff]
     exact ⟨fun z=>Prod.ext z.1 z.2,fun z=>by rw [z]; exact ⟨rfl,rfl⟩⟩
   rw [e,aa3,Bool.or_eq_true,decide_eq_true_iff,decide_eq_true_iff,decide_eq_true_iff,aau]
   exact ⟨fun z=>z.elim (fun h=>.inl h.symm) .inr,fun z=>z.elim (fun h=>.inl h.symm) .inr⟩
theorem qz {H:Hp}:∀{vs:List V} {kn:List (Str×Str)},Paired (b8 H) vs kn->∃as:List Addr,vs=as.map V.ref
 | _,_,.nil=>⟨[],rfl⟩
 | _,_,.cons ⟨p,e,_⟩ r=>let ⟨as,h⟩:=qz r; ⟨p :: as,by rw [e,h]; rfl⟩
end L2
namespace L3
open PySem PySem.Spec PyProof.Rows L2
theorem L8 {X:Cx}{KK:ZY}{m:Nat}(hu:X.A.units + (m + 1) < cLine)(hK:X.K=KK:=by first | exact bz | rfl):SO X (compareOp .In) (EY KK m false):=by
 subst hK
 exact ⟨IG hu⟩
theorem Bj {X:Cx}{KK:ZY}{m:Nat}(hu:X.A.units + (m + 1) < cLine)(hK:X.K=KK:=by first | exact bz | rfl):SO X (compareOp .NotIn) (EY KK m true):=by
 subst hK
 exact ⟨yS hu⟩
end L3
open L3 renaming k->ad3,v->ad4,n->ad5,int->ad6,cons->ad7,ix->ad8,op->ad9,one->aea,str->aeb,ret->aec,tup->aed,gn->aee,own->aef,bW->aeg,set->aeh,cf->aei,cu->aej,cmp->aek,ifs->ael,nil->aem,lst->aen,aV->aeo,aW->aep,bX->aeq,bu->aer,cO->aes,jb->aet,ex->aeu,lM->aev,bT->aew,bl->aex,cp->aey,run->aez,iL->aeA,lc->aeB,i0->aeC,d9->aeD,iF->aeE,i4->aeF,eG->aeG,eW->aeH,glob->aeI,lD->aeJ,dJ->aeK,tw->aeL,nK->aeM,append->aeN,asg->aeO,qy->aeP,F8->aeQ,F7->aeR,bN->aeS,nq->aeT,nr->aeU,iR->aeV,JL->aeW,vz->aeX,mz->aeY,tW->aeZ,never->ae4,extend->afi
set_option maxHeartbeats 1000000
namespace TW
open PySem L2
section
variable {P:Program}{w:World}{K:ZY}{mg:Str->Option Value}{base:Heap}
def top (i:Nat):Stmt:=PySem.Challenge.pw_twinwalk_k15_what_is_refused.main.body.getD i (.Pass ⟨0,0,0,0⟩)
abbrev wV:Stmt:=top 41
abbrev jN:Stmt:=top 42
theorem TK.lst {H:Hp}{a:Addr}{xs:List V}{o:HO}(h:H a=some (.lst xs)):TK H (upd H a o):=fun b ys e=>by rw [aj (fH e h (fun z=>nomatch z))]; exact e
theorem oX {α β:Type}(f:α->β):∀(l:List α) (i:Nat),(l.eraseIdx i).map f=(l.map f).eraseIdx i
 | [],_=>rfl
 | _ :: _,0=>rfl
 | a :: r,i + 1=>by simp only [adz,aaw,oX f r i]
theorem Paired.get {α β:Type}{F:α->β->Prop}:∀{l₁:List α} {l₂:List β} {i:Nat} {x:α},Paired F l₁ l₂->l₁[i]? = some x->∃y,l₂[i]? = some y/\F x y
 | _,_,_,_,.nil,e=>by simp at e
 | _,_,0,_,.cons r _,e=>by simp at e; subst e; exact ⟨_,rfl,r⟩
 | _,_,i + 1,x,.cons _ t,e=>by
   obtain ⟨u,h1,h2⟩:=Paired.get (i:=i) (x:=x) t (by simpa using e)
   exact ⟨u,by simpa using h1,h2⟩
theorem bU {σ:L2.St}{H:Hp}{A B:Hp->Prop}(h:A H):JM σ H (fun b H3=>if b=true then A H3 else B H3):=fR (A:=A H) (B:=B H) h
theorem bo {i:Nat}{v:V}{σ:L2.St}{H:Hp}{Q:L2.St->Hp->Prop}(h:Q (σ.set i (some v)) H):kU i v σ H Q:=h
theorem bG.ref {H:Hp}{v:V}{b:Str×Int}(h:bG H v b):∃p,v=.ref p:=let ⟨p,e,_⟩:=h; ⟨p,e⟩
theorem aa {A B C:Hp}(a:ag A B)(b:ag B C):ag A C:=fun p o h=>b p o (a p o h)
theorem same_refl (A:Hp):ag A A:=fun _ _ h=>h
theorem aJ {H:Hp}{p:Addr}(h:H p=none)(o:HO):∃H1,ag H H1/\H1 p=some o/\upd H p o=H1:=⟨_,af h o,ae,rfl⟩
abbrev aY (s:Stmt)(x:Str):Prop:=(ai s).names.lookup x=some .globalImplicit
theorem aq {H H':Hp}{a:Addr}(s:ag H H')(h:H' a=none):H a=none:=by
 match e:H a with
 | none=>rfl
 | some o=>rw [s _ _ e] at h; cases h
theorem aG {H H':Hp}{a:Addr}{o:HO}(s:ag H H')(h:H a=none):ag H (upd H' a o):=fun b u e=>by rw [aj (ah e h)]; exact s b u e
theorem aC {H H':Hp}{a:Addr}{o:HO}(s:ag H H')(h:H' a=none):ag H (upd H' a o):=aG s (aq s h)
theorem cF {α:Type}(f:α->V)(xs:List α){r:Int}(h0:0<=r)(h1:r < (xs.length:Int)):∃x,xs[r.toNat]? = some x/\x∈xs/\lQ (xs.map f) r=some (f x):=by
 have hr:r.toNat < xs.length:=by omega
 have e:r=((r.toNat:Nat):Int):=by omega
 have q:lQ (xs.map f) ((r.toNat:Nat):Int)=some (f xs[r.toNat]):=gN (by rw [aaq,ZZ hr]; rfl)
 rw [← e] at q
 exact ⟨xs[r.toNat],ZZ hr,acn hr,q⟩
theorem qN {xs:List V}{r:Int}(h0:0<=r)(h1:r < (xs.length:Int)):∃x,xs[r.toNat]? = some x/\lQ xs r=some x:=by
 have hr:r.toNat < xs.length:=by omega
 have e:r=((r.toNat:Nat):Int):=by omega
 have q:lQ xs ((r.toNat:Nat):Int)=some xs[r.toNat]:=gN (ZZ hr)
 rw [← e] at q
 exact ⟨xs[r.toNat],ZZ hr,q⟩
structure Row (b:Int)(row:List Int)(n:Nat):Prop where
 len:row.length=n
 all:∀x∈row,0<=x/\x < b
theorem Row.at {b:Int}{row:List Int}{n:Nat}(h:Row b row n){i:Int}(h0:0<=i)(h1:i < n):∃x,lQ (row.map V.int) i=some (.int x)/\0<=x/\x < b:=by
 obtain ⟨x,_,hx,e⟩:=cF V.int row (r:=i) h0 (by rw [h.len]; exact h1)
 exact ⟨x,e,h.all x hx⟩
def kP (K:ZY):Sp:=fun vs H Q _=>∃(a:Addr) (ns:List Int) (k:Int),vs=[.ref a,.int k]/\ao K H a (ns.map V.int)/\0<=k/\∀c:Int,Q (.int c) H
theorem JG:aD ["script","k"] ["script","k"] (ai wV):=⟨rfl,rfl,rfl,by decide +kernel,rfl,by decide +kernel,by decide +kernel⟩
theorem xN:aY wV "len":=by decide +kernel
theorem Ef {f:Addr}{fd:aaf}(F:dm K "_law_cell_at" "_law_cell_at" wV f fd)(m_len:mg "len"=none):aP P w K mg base cK 1 f fd ["script","k"] (kP K):=by
 refine F.ok JG (fun vs H Q E h=>?_) (fun cdv A outer s H vs Q E hr h=>?_)
 · obtain ⟨a,ns,k,rfl,_⟩:=h
   rfl
 obtain ⟨a,ns,k,rfl,hs,h0,q⟩:=h
 refine ⟨_,aez (ad7 (ael (aek aeC (ad4 1) (aep aer xN m_len aad (ad3 (ad4 0) ad5))) (aea (aec (ad8 aeg (ad4 0) (ad4 1)))) aem)
   (aea (aec ad6))),?_⟩
 refine ⟨_,rfl,_,rfl,a,_,rfl,.inl hs,_,_,rfl,rfl,_,rfl,?_⟩
 refine aF (fun c=>?_) (fun _=>q 0)
 have hk:k < ((ns.map V.int).length:Int):=of_decide_eq_true c
 rw [ZX] at hk
 obtain ⟨x,_,_,nZ⟩:=cF V.int ns h0 hk
 exact ⟨_,rfl,_,rfl,a,_,_,_,rfl,rfl,hs,nZ,q x⟩
theorem Ag (s:Src K mg "_law_cell_at" wV)(m_len:mg "len"=none):aX P w K mg base "_law_cell_at" ["script","k"] 1 (kP K):=
 let ⟨f,fd,F,m⟩:=s
 ⟨f,fd,Ef F m_len,F.kp,F.binds fun _ _ _ _ _ _ us hl=>match us,hl with | [_,_],_=>rfl,m⟩
def dX:Sp:=fun vs H Q _=>∃(c many bs:Int),vs=[.int c,.int many,.int bs]/\0<=many/\many<=900/\0 < bs/\bs < 2 ^ 30/\∀l row,H l=none->Row bs row many.toNat->Q (.ref l) (upd H l (.lst (row.map V.int)))
theorem bV:aD ["cell","many","base","row","rest","k","stir"] ["cell","many","base"] (ai jN):=⟨rfl,rfl,rfl,by decide +kernel,rfl,by decide +kernel,by decide +kernel⟩
theorem mQ:aY jN "range":=by decide +kernel
theorem uX {f:Addr}{fd:aaf}(F:dm K "_law_numbers" "_law_numbers" jN f fd)(m_range:mg "range"=none):aP P w K mg base cK 1 f fd ["cell","many","base"] dX:=by
 refine F.ok bV (fun vs H Q E h=>?_) (fun cdv A outer s H vs Q E hr h=>?_)
 · obtain ⟨c,many,bs,rfl,_⟩:=h
   rfl
 obtain ⟨c,many,bs,rfl,AH,hm1,wj,zr,q⟩:=h
 refine ⟨_,aez (ad7 (aeh 0 bV.nd (ad9 aeo (ad4 0) (ad9 L3.Im (ad9 aeT ad6 ad6) (ad9 aeT ad6 ad6))))
   (ad7 (aeh 3 bV.nd (aen ad5))
   (ad7 (aeh 4 bV.nd (ad9 aeU (ad4 0) (ad9 aeT ad6 ad6)))
   (ad7 (aeJ (aeV mQ m_range (ad3 (ad4 1) ad5)) (aee 5 bV.nd) (ad7 (aeh 6 bV.nd (ad9 aeo (ad9 aeD (ad9 aey (ad9 aey (ad4 0) (ad9 aeD ad6 (ad4 5))) ad6) ad6) ad6))
   (ad7 (aeh 6 bV.nd (ad9 aeo (ad9 aeD (ad4 6) (ad4 6)) ad6))
   (ad7 (aeh 6 bV.nd (ad9 aeG (ad9 aeo (ad9 aeD (ad9 aey (ad4 6) (ad9 aeD ad6 (ad9 aey (ad4 5) ad6))) ad6) ad6) ad6))
   (ad7 (ael (aek L3.Ik (ad4 0) (ad9 aeT ad6 ad6)) (ad7 (aeh 6 bV.nd (ad4 4))
   (aea (aeh 4 bV.nd (ad9 aeG (ad4 4) (ad4 2))))) aem)
   (aea (aeu (aeN (ad4 3) (ad3 (ad9 aeo (ad4 6) (ad4 2)) ad5)))))))))
   (aea (aec (ad4 3))))))),?_⟩
 have Yr:(0:Int) < 10 ^ (45:Int).toNat * 10 ^ (45:Int).toNat:=by decide +kernel
 have Sk:((10:Int) ^ (45:Int).toNat).natAbs < 2 ^ 150:=by decide +kernel
 refine ⟨_,rfl,_,_,rfl,rfl,⟨by decide,by decide,by decide⟩,_,_,rfl,rfl,⟨by decide,by decide,by decide⟩,_,_,rfl,rfl,⟨aah Sk (abA (by decide) (by decide)),aah Sk (abA (by decide) (by decide))⟩,_,_,rfl,rfl,Yr,?_⟩
 refine ⟨agb,fun l hl=>?_⟩
 refine ⟨_,rfl,_,_,rfl,rfl,⟨by decide,by decide,by decide⟩,_,_,rfl,rfl,?_⟩
 refine ⟨_,rfl,many,rfl,by omega,by omega,?_⟩
 refine ko (lo:=0) (n:=many.toNat) (fun i σ H2=>∃(c rest:Int) (kv sv:Option V) (row:List Int),σ=[some (.int c),some (.int many),some (.int bs),some (.ref l),some (.int rest),kv,sv]/\H2=upd H l (.lst (row.map V.int))/\Row bs row i) ?_ ?_ ?_
 · exact ⟨_,_,none,none,[],rfl,rfl,⟨rfl,fun x hx=>nomatch hx⟩⟩
 · rintro i σ H2 hi ⟨c,rest,kv,sv,row,rfl,rfl,uD⟩
   refine ⟨_,rfl,_,rfl,_,_,rfl,rfl,.inl ⟨by decide,by decide⟩,_,_,rfl,rfl,_,_,rfl,rfl,_,_,rfl,rfl,.inr ⟨by decide,by decide⟩,_,_,rfl,rfl,(by show (0:Int) < 2147483647; decide),?_⟩
   have s1:∀n:Int,0<=n % 2147483647/\n % 2147483647 < 2147483647:=fun n=>⟨aaj _ (by decide),aac _ (by decide)⟩
   refine ⟨_,rfl,_,rfl,_,_,rfl,rfl,.inr ⟨by have:=s1 ((c + 977 * (0 + (i:Int)) + 1) * 48271); omega,by have:=s1 ((c + 977 * (0 + (i:Int)) + 1) * 48271); omega⟩,_,_,rfl,rfl,(by show (0:Int) < 2147483629; decide),?_⟩
   refine ⟨_,rfl,_,rfl,_,_,rfl,rfl,_,_,rfl,rfl,.inl ⟨by decide,by decide⟩,_,_,rfl,rfl,_,_,rfl,rfl,.inr ⟨by decide,by decide⟩,_,_,rfl,rfl,(by show (0:Int) < 2147483563; decide),_,_,rfl,rfl,⟨(by show (0:Int) < 8; decide),(by show (8:Int) < 2 ^ 1000; decide +kernel)⟩,?_⟩
   have hd:row.length<=1000:=by have:=uD.len; omega
   refine ⟨_,rfl,_,_,rfl,rfl,⟨by decide,by decide,by decide⟩,_,_,rfl,rfl,_,rfl,?_⟩
   refine aF (fun c1=>?_) (fun c1=>?_)
   · refine ⟨_,rfl,?_⟩
     refine ⟨_,rfl,_,rfl,_,_,rfl,rfl,⟨wj,Int.lt_trans zr (by decide +kernel)⟩,?_⟩
     refine ⟨_,rfl,.inl ⟨rfl,_,ao.of ae⟩,_,rfl,_,rfl,_,_,rfl,rfl,wj,l,_,_,rfl,rfl,ae,by rw [ZX]; exact aB hd,?_⟩
     refine ⟨_,_,_,_,row++[_],rfl,by rw [bS,Z5]; rfl,⟨by rw [Z0,uD.len]; rfl,fun x hx=>?_⟩⟩
     rcases List.mem_append.mp hx with z | z
     · exact uD.all x z
     · have e:=List.mem_singleton.mp z
       rw [e]
       exact ⟨aaj _ (by omega),aac _ wj⟩
   · refine ⟨_,rfl,.inl ⟨rfl,_,ao.of ae⟩,_,rfl,_,rfl,_,_,rfl,rfl,wj,l,_,_,rfl,rfl,ae,by rw [ZX]; exact aB hd,?_⟩
     refine ⟨_,_,_,_,row++[_],rfl,by rw [bS,Z5]; rfl,⟨by rw [Z0,uD.len]; rfl,fun x hx=>?_⟩⟩
     rcases List.mem_append.mp hx with z | z
     · exact uD.all x z
     · have e:=List.mem_singleton.mp z
       rw [e]
       exact ⟨aaj _ (by omega),aac _ wj⟩
 · rintro σ H2 ⟨c,rest,kv,sv,row,rfl,rfl,uD⟩
   exact ⟨_,rfl,q l row hl uD⟩
theorem rE (s:Src K mg "_law_numbers" jN)(m_range:mg "range"=none):aX P w K mg base "_law_numbers" ["cell","many","base"] 1 dX:=
 let ⟨f,fd,F,m⟩:=s
 ⟨f,fd,uX F m_range,F.kp,F.binds fun _ _ _ _ _ _ us hl=>match us,hl with | [_,_,_],_=>rfl,m⟩
abbrev B8:Stmt:=top 43
abbrev wW:Stmt:=top 44
theorem Row.mono {b c:Int}{row:List Int}{n:Nat}(h:Row b row n)(hb:b<=c):Row c row n:=⟨h.len,fun x hx=>⟨(h.all x hx).1,Int.lt_of_lt_of_le (h.all x hx).2 hb⟩⟩
abbrev Kl (names:List Str):Str->Str->Prop:=fun t y=>t="box"/\y∈names
def nP:Sp:=fun vs H Q _=>∃(r na:Addr) (row:List Int) (n:Nat) (names:List Str),vs=[.ref r,.ref na]/\H r=some (.lst (row.map V.int))/\Row (2 ^ 40) row n/\3<=n/\H na=some (.lst (names.map V.str))/\names.length<=900 /\
 ∀(v:V) (H':Hp) (e:E),ag H H'->cE H' v e->e.fQ->e.okIn (Kl names)->e.dep<=2->Q v H'
theorem pj:aD ["row","names","number","some","one","other","way"] ["row","names"] (ai B8):=⟨rfl,rfl,rfl,by decide +kernel,rfl,by decide +kernel,by decide +kernel⟩
theorem rA:aY B8 "len":=by decide +kernel
theorem IB {f:Addr}{fd:aaf}(F:dm K "_law_sum" "_law_sum" B8 f fd)(m_len:mg "len"=none):aP P w K mg base cK 1 f fd ["row","names"] nP:=by
 refine F.ok pj (fun vs H Q E h=>?_) (fun cdv A outer s H vs Q E hr h=>?_)
 · obtain ⟨r,na,row,n,names,rfl,_⟩:=h
   rfl
 obtain ⟨r,na,row,n,names,rfl,uE,hR,P7,jv,ki,q⟩:=h
 refine ⟨_,aez (ad7 (aeh 2 pj.nd (ad8 aeg (aen (ad3 (ad9 aeo (ad8 aeg (ad4 0) ad6) ad6) (ad3 (ad9 aeo (ad8 aeg (ad4 0) ad6) ad6) (ad3 (ad9 aey (ad9 aeT ad6 ad6) (ad8 aeg (ad4 0) ad6)) ad5)))) (ad9 aeG (ad9 aeo (ad8 aeg (ad4 0) ad6) ad6) ad6)))
   (ad7 (aeh 3 pj.nd (ad9 aeH (aen (ad3 (aed (ad3 aeb (ad3 (ad4 2) ad5))) ad5)) (aeB [none] ["name"] (show aE _ (ai B8) from ⟨rfl,by decide +kernel,by decide +kernel,by decide +kernel⟩) (by rfl) (aeA (ad4 1)) (fun _ _ _ _ _=>⟨(aee 0 (show (["name"]:List Str).Nodup from by decide +kernel)),aev,(aed (ad3 aeb (ad3 (ad4 0) ad5)))⟩))))
   (ad7 (aeh 4 pj.nd (ad8 aeg (ad4 3) (ad9 aeo (ad9 aeG (ad8 aeg (ad4 0) ad6) ad6) (aep aer rA m_len aad (ad3 (ad4 3) ad5)))))
   (ad7 (aeh 5 pj.nd (ad8 aeg (ad4 3) (ad9 aeo (ad9 aeG (ad8 aeg (ad4 0) ad6) ad6) (aep aer rA m_len aad (ad3 (ad4 3) ad5)))))
   (ad7 (aeh 6 pj.nd (ad9 aeo (ad8 aeg (ad4 0) ad6) ad6))
   (ad7 (ael (aek aeC (ad4 6) ad6) (aea (aec (ad4 4))) aem)
   (ad7 (ael (aek aeq (ad4 6) ad6) (aea (aec (aed (ad3 aeb (ad3 (ad4 4) (ad3 (ad4 5) ad5)))))) aem)
   (ad7 (ael (aek aeq (ad4 6) ad6) (aea (aec (aed (ad3 aeb (ad3 (aed (ad3 aeb (ad3 (ad4 5) (ad3 (aed (ad3 aeb (ad3 (ad9 aeo (ad8 aeg (ad4 0) ad6) ad6) ad5))) ad5)))) (ad3 (ad4 4) ad5)))))) aem)
   (aea (aec (aed (ad3 aeb (ad3 (ad4 4) (ad3 (aed (ad3 aeb (ad3 (ad9 aeo (ad8 aeg (ad4 0) ad6) ad6) ad5))) ad5)))))))))))))),?_⟩
 obtain ⟨x0,a0,JW,Kt⟩:=hR.at (i:=0) (by decide) (by omega)
 obtain ⟨x1,a1,Ku,Kv⟩:=hR.at (i:=1) (by decide) (by omega)
 obtain ⟨x2,a2,Oq,Ot⟩:=hR.at (i:=2) (by decide) (by omega)
 have pick:∃num:Int,lQ ([.int (x1 % 3),.int (x1 % 7),.int (10 ^ (20:Int).toNat + x1)]:List V) (x2 % 12 / 5)=some (.int num)/\num.natAbs < 2 ^ 100:=by
   have Nz:(10:Int) ^ (20:Int).toNat=100000000000000000000:=by decide +kernel
   rw [Nz]
   rcases (show x2 % 12 / 5=0\/x2 % 12 / 5=1\/x2 % 12 / 5=2 by omega) with e | e | e <;> rw [e]
   · exact ⟨_,rfl,by omega⟩
   · exact ⟨_,rfl,by omega⟩
   · exact ⟨_,rfl,by omega⟩
 obtain ⟨num,nZ,Qa⟩:=pick
 refine ⟨_,rfl,r,_,_,_,rfl,rfl,ao.of uE,a1,_,_,rfl,rfl,(by show (0:Int) < 3; decide),_,rfl,r,_,_,_,rfl,rfl,ao.of uE,a1,_,_,rfl,rfl,(by show (0:Int) < 7; decide),?_⟩
 refine ⟨_,_,rfl,rfl,⟨by decide,by decide,by decide⟩,_,rfl,r,_,_,_,rfl,rfl,ao.of uE,a1,_,_,rfl,rfl,age,fun l hl=>?_⟩
 have s1:ag H (upd H l (.lst [.int (x1 % 3),.int (x1 % 7),.int (10 ^ (20:Int).toNat + x1)])):=af hl _
 refine ⟨_,rfl,r,_,_,_,rfl,rfl,ao.of (s1 _ _ uE),a2,_,_,rfl,rfl,(by show (0:Int) < 12; decide),_,_,rfl,rfl,⟨(by show (0:Int) < 5; decide),(by show (5:Int) < 2 ^ 1000; decide +kernel)⟩,l,_,_,_,rfl,rfl,ao.of ae,nZ,?_⟩
 generalize (upd H l (.lst [.int (x1 % 3),.int (x1 % 7),.int (10 ^ (20:Int).toNat + x1)]))=H1 at s1 ⊢
 refine ⟨_,rfl,agd,fun p hp=>⟨agc,fun l1 hl1=>?_⟩⟩
 have s2:ag H (upd (upd H1 p (.tup [.str "number",.int num])) l1 (.lst [.ref p])):=aC (aC s1 hp) hl1
 have Sy:cE (upd (upd H1 p (.tup [.str "number",.int num])) l1 (.lst [.ref p])) (.ref p) (.num num):=⟨p,rfl,by rw [aj (ah ae hl1),ae]⟩
 have hl2:(upd (upd H1 p (.tup [.str "number",.int num])) l1 (.lst [.ref p])) l1=some (.lst [.ref p]):=ae
 generalize (upd (upd H1 p (.tup [.str "number",.int num])) l1 (.lst [.ref p]))=H2 at s2 Sy hl2 ⊢
 have DM:=s2 _ _ jv
 refine ⟨_,rfl,na,rfl,⟨_,ao.of DM⟩,fun nb tD=>?_⟩
 refine bj (xs:=names.map V.str) (fun i H3=>∃vb:List V,ag H2 H3/\H3 nb=some (.lst vb)/\vb.length=i/\Paired (cE H3) vb ((names.take i).map (TW.E.box "box"))) ⟨[],af tD _,ae,rfl,.nil⟩ (fun i H3 _ z=>ao.of (z.choose_spec.1 _ _ DM)) (fun i x H3 hx z=>?_) (fun H3 z=>?_)
 · obtain ⟨vb,s3,Au,kX,pb⟩:=z
   obtain ⟨nm,uz,rfl⟩ : ∃nm,names[i]? = some nm/\x=V.str nm:=by
     rw [aaq] at hx
     obtain ⟨y,h1,h2⟩:=Option.map_eq_some_iff.mp hx
     exact ⟨y,h1,h2.symm⟩
   have dP:i < names.length:=(List.getElem?_eq_some_iff.mp uz).1
   refine bo ?_
   refine bU (A:=fun H3=>de _ nb _ H3 _) ?_
   refine ⟨_,rfl,agd,fun p2 cb=>⟨vb,?_,aB (by omega),aL (Pv:=fun i H3=>∃vb:List V,ag H2 H3/\H3 nb=some (.lst vb)/\vb.length=i/\Paired (cE H3) vb ((names.take i).map (TW.E.box "box"))) (by repeat' constructor) (by rw [ZX]; exact dP) ?_⟩⟩
   · rw [aj (ah Au cb)]; exact Au
   · have Hm:(upd H3 p2 (.tup [.str "box",.str nm])) nb=some (.lst vb):=by rw [aj (ah Au cb)]; exact Au
     have t4:TK H3 (upd (upd H3 p2 (.tup [.str "box",.str nm])) nb (.lst (vb++[.ref p2]))):=(aI cb _).trans (TK.lst Hm)
     refine ⟨vb++[.ref p2],aG (aC s3 cb) tD,ae,by rw [Z0,kX]; rfl,?_⟩
     rw [Z9,uz,Z5]
     exact Paired.snoc (Paired.aZ pb fun a b h=>h.keep t4) ⟨p2,rfl,by rw [aj (ah Au cb).symm]; exact ae⟩
 · obtain ⟨vb,s3,Au,kX,pb⟩:=z
   rw [ZX] at kX pb
   rw [aao] at pb
   refine ⟨l1,nb,_,_,rfl,rfl,s3 _ _ hl2,Au,small (show 1 + vb.length<=1000 by omega),fun so Qr=>?_⟩
   have s4:=aC (o:=.lst ([.ref p]++vb)) (aa s2 s3) Qr
   have all:∀(j:Int) (H4:Hp),ag (upd H3 so (.lst ([V.ref p]++vb))) H4->0<=j->∃v e,lQ ([V.ref p]++vb) (j % (([V.ref p]++vb).length:Int))=some v/\cE H4 v e/\e.fQ/\e.okIn (Kl names)/\e.dep=0:=fun j H4 s5 hj=>by
     have lL:(0:Int) < (([V.ref p]++vb).length:Int):=by rw [Z0]; show (0:Int) < ((1 + vb.length:Nat):Int); omega
     obtain ⟨v,h1,h2⟩:=qN (xs:=[V.ref p]++vb) (r:=j % (([V.ref p]++vb).length:Int)) (aaj _ (by omega)) (aac _ lL)
     have pa:Paired (cE (upd H3 so (.lst ([V.ref p]++vb)))) ([V.ref p]++vb) (TW.E.num num :: names.map (TW.E.box "box")):=.cons ((Sy.keep (ag.tk s3)).keep (aI Qr _)) (Paired.aZ pb fun a b h=>h.keep (aI Qr _))
     obtain ⟨e,h3,h4⟩:=Paired.get pa h1
     refine ⟨v,e,h2,h4.keep (ag.tk s5),?_⟩
     rcases List.mem_cons.mp (aab h3) with z | z
     · subst z
       exact ⟨aat,Qa,rfl⟩
     · obtain ⟨y,hy,rfl⟩:=List.mem_map.mp z
       exact ⟨aat,⟨rfl,hy⟩,rfl⟩
   have yo:(upd H3 so (.lst ([V.ref p]++vb))) so=some (.lst ([.ref p]++vb)):=ae
   have uF:=s4 _ _ uE
   have tE:(0:Int) < (([V.ref p]++vb).length:Int):=by rw [Z0]; show (0:Int) < ((1 + vb.length:Nat):Int); omega
   generalize ([V.ref p]++vb)=sv at all yo s4 uF tE ⊢
   generalize (upd H3 so (.lst sv))=H4 at all yo s4 uF ⊢
   have d8:(8:Int) < 2 ^ 1000:=by decide +kernel
   have Vj:(12:Int) < 2 ^ 1000:=by decide +kernel
   obtain ⟨v1,e1,tP,lU,lO,iu,zp⟩:=all (x0 / 8) H4 (same_refl _) (by omega)
   obtain ⟨v2,e2,at2,Fy,FX,CW,Vn⟩:=all (x2 / 12) H4 (same_refl _) (by omega)
   refine ⟨_,rfl,_,rfl,r,_,_,_,rfl,rfl,ao.of uF,a0,_,_,rfl,rfl,⟨(by show (0:Int) < 8; decide),d8⟩,_,rfl,so,_,rfl,.inl (ao.of yo),_,_,rfl,rfl,tE,so,_,_,_,rfl,rfl,ao.of yo,tP,?_⟩
   refine ⟨_,rfl,_,rfl,r,_,_,_,rfl,rfl,ao.of uF,a2,_,_,rfl,rfl,⟨(by show (0:Int) < 12; decide),Vj⟩,_,rfl,so,_,rfl,.inl (ao.of yo),_,_,rfl,rfl,tE,so,_,_,_,rfl,rfl,ao.of yo,at2,?_⟩
   refine ⟨_,rfl,r,_,_,_,rfl,rfl,ao.of uF,a0,_,_,rfl,rfl,(by show (0:Int) < 8; decide),?_⟩
   refine ⟨_,rfl,_,_,rfl,rfl,_,rfl,?_⟩
   refine aF (fun _=>⟨_,rfl,q v1 H4 e1 s4 lU lO iu (by omega)⟩) (fun _=>?_)
   refine ⟨_,rfl,rfl,_,rfl,?_⟩
   refine aF (fun _=>?_) (fun _=>?_)
   · refine ⟨_,rfl,_,rfl,age,fun p5 qD=>?_⟩
     exact q (.ref p5) _ (.two .less e1 e2) (aC s4 qD) ⟨v1,v2,⟨p5,rfl,ae⟩,lU.keep (aI qD _),Fy.keep (aI qD _)⟩ ⟨lO,FX⟩ ⟨iu,CW⟩ (by show max e1.dep e2.dep + 1<=2; omega)
   refine ⟨_,rfl,rfl,_,rfl,?_⟩
   refine aF (fun _=>?_) (fun _=>?_)
   · refine ⟨_,rfl,_,rfl,r,_,_,_,rfl,rfl,ao.of uF,a1,_,_,rfl,rfl,(by show (0:Int) < 5; decide),agd,fun p5 qD=>⟨age,fun p6 uC=>⟨_,rfl,age,fun p7 Hy=>?_⟩⟩⟩
     have k5:cE (upd H4 p5 (.tup [.str "number",.int (x1 % 5)])) (.ref p5) (.num (x1 % 5)):=⟨p5,rfl,ae⟩
     have k6:cE (upd (upd H4 p5 (.tup [.str "number",.int (x1 % 5)])) p6 (.tup [.str "less",v2,.ref p5])) (.ref p6) (.two .less e2 (.num (x1 % 5))):=⟨v2,.ref p5,⟨p6,rfl,ae⟩,(Fy.keep (aI qD _)).keep (aI uC _),k5.keep (aI uC _)⟩
     refine q (.ref p7) _ (.two .plus (.two .less e2 (.num (x1 % 5))) e1) (aC (aC (aC s4 qD) uC) Hy) ⟨.ref p6,v1,⟨p7,rfl,ae⟩,k6.keep (aI Hy _),((lU.keep (aI qD _)).keep (aI uC _)).keep (aI Hy _)⟩ ⟨⟨FX,aat⟩,lO⟩ ⟨⟨CW,?_⟩,iu⟩ (by show max (max e2.dep 0 + 1) e1.dep + 1<=2; omega)
     show (x1 % 5).natAbs < 2 ^ 100
     omega
   · refine ⟨_,rfl,_,rfl,r,_,_,_,rfl,rfl,ao.of uF,a1,_,_,rfl,rfl,(by show (0:Int) < 4; decide),agd,fun p5 qD=>⟨age,fun p6 uC=>?_⟩⟩
     have k5:cE (upd H4 p5 (.tup [.str "number",.int (x1 % 4)])) (.ref p5) (.num (x1 % 4)):=⟨p5,rfl,ae⟩
     refine q (.ref p6) _ (.two .plus e1 (.num (x1 % 4))) (aC (aC s4 qD) uC) ⟨v1,.ref p5,⟨p6,rfl,ae⟩,(lU.keep (aI qD _)).keep (aI uC _),k5.keep (aI uC _)⟩ ⟨lO,aat⟩ ⟨iu,?_⟩ (by show max e1.dep 0 + 1<=2; omega)
     show (x1 % 4).natAbs < 2 ^ 100
     omega
theorem DE (s:Src K mg "_law_sum" B8)(m_len:mg "len"=none):aX P w K mg base "_law_sum" ["row","names"] 1 nP:=
 let ⟨f,fd,F,m⟩:=s
 ⟨f,fd,IB F m_len,F.kp,F.binds fun _ _ _ _ _ _ us hl=>match us,hl with | [_,_],_=>rfl,m⟩
def qo:Sp:=fun vs H Q _=>∃(r na:Addr) (row:List Int) (n:Nat) (names:List Str),vs=[.ref r,.ref na]/\H r=some (.lst (row.map V.int))/\Row (2 ^ 30) row n/\4<=n/\H na=some (.lst (names.map V.str))/\names.length<=900 /\
 ∀(v:V) (H':Hp) (e:E),ag H H'->cE H' v e->e.gP->e.okIn (Kl names)->e.dep<=5->Q v H'
theorem qg:aD ["row","names","one","other","way"] ["row","names"] (ai wW):=⟨rfl,rfl,rfl,by decide +kernel,rfl,by decide +kernel,by decide +kernel⟩
theorem iq:aY wW "_law_sum":=by decide +kernel
theorem Eg {f:Addr}{fd:aaf}(F:dm K "_law_condition" "_law_condition" wW f fd)(S:aX P w K mg base "_law_sum" ["row","names"] 1 nP):aP P w K mg base cK 2 f fd ["row","names"] qo:=by
 refine F.ok qg (fun vs H Q E h=>?_) (fun cdv A outer s H vs Q E hr h=>?_)
 · obtain ⟨r,na,row,n,names,rfl,_⟩:=h
   rfl
 obtain ⟨r,na,row,n,names,rfl,uE,hR,P7,jv,ki,q⟩:=h
 refine ⟨_,aez (ad7 (aeh 2 qg.nd (aef S hr iq (ad3 (aen (ad3 (ad9 aeD ad6 (ad8 aeg (ad4 0) ad6)) (ad3 (ad8 aeg (ad4 0) ad6) (ad3 (ad8 aeg (ad4 0) ad6) ad5)))) (ad3 (ad4 1) ad5))))
   (ad7 (aeh 3 qg.nd (aef S hr iq (ad3 (aen (ad3 (ad9 aeG (ad8 aeg (ad4 0) ad6) ad6) (ad3 (ad8 aeg (ad4 0) ad6) (ad3 (ad8 aeg (ad4 0) ad6) ad5)))) (ad3 (ad4 1) ad5))))
   (ad7 (aeh 4 qg.nd (ad9 aeo (ad8 aeg (ad4 0) ad6) ad6))
   (ad7 (ael (aek aeq (ad4 4) ad6) (aea (aec (aed (ad3 aeb ad5)))) aem)
   (ad7 (ael (aek aeq (ad4 4) ad6) (aea (aec (aed (ad3 aeb (ad3 (aed (ad3 aeb (ad3 (ad4 2) (ad3 (ad4 3) ad5)))) ad5))))) aem)
   (ad7 (ael (aek aeq (ad4 4) ad6) (aea (aec (aed (ad3 aeb (ad3 (aed (ad3 aeb (ad3 (ad4 2) (ad3 (ad4 3) ad5)))) (ad3 (aed (ad3 aeb (ad3 (aed (ad3 aeb (ad3 (ad4 3) (ad3 (ad4 2) ad5)))) ad5))) ad5)))))) aem)
   (aea (aec (ad8 aeg (aen (ad3 (aed (ad3 aeb (ad3 (ad4 2) (ad3 (ad4 3) ad5)))) (ad3 (aed (ad3 aeb (ad3 (ad4 2) (ad3 (ad4 3) ad5)))) ad5))) (ad9 aeo (ad4 4) ad6)))))))))),?_⟩
 obtain ⟨x0,a0,JW,Kt⟩:=hR.at (i:=0) (by decide) (by omega)
 obtain ⟨x1,a1,Ku,Kv⟩:=hR.at (i:=1) (by decide) (by omega)
 obtain ⟨x2,a2,Oq,Ot⟩:=hR.at (i:=2) (by decide) (by omega)
 obtain ⟨x3,a3,UK,UL⟩:=hR.at (i:=3) (by decide) (by omega)
 have Uo:∀a b c:Int,0<=a->a < 2 ^ 40->0<=b->b < 2 ^ 40->0<=c->c < 2 ^ 40->Row (2 ^ 40) [a,b,c] 3:=fun a b c h1 h2 h3 h4 h5 h6=>⟨rfl,fun x hx=>by
   rcases List.mem_cons.mp hx with e | hx
   · rw [e]; exact ⟨h1,h2⟩
   rcases List.mem_cons.mp hx with e | hx
   · rw [e]; exact ⟨h3,h4⟩
   rw [List.mem_singleton.mp hx]; exact ⟨h5,h6⟩⟩
 refine ⟨_,rfl,r,_,_,_,rfl,rfl,ao.of uE,a3,_,_,rfl,rfl,.inl ⟨by decide,by decide⟩,_,rfl,r,_,_,_,rfl,rfl,ao.of uE,a1,_,rfl,r,_,_,_,rfl,rfl,ao.of uE,a2,age,fun l hl=>?_⟩
 refine ⟨_,rfl,l,na,[8 * x3,x1,x2],3,names,rfl,ae,Uo _ _ _ (by omega) (by omega) (by omega) (by omega) (by omega) (by omega),Z3 _,by rw [aj (ah jv hl)]; exact jv,ki,fun v1 H1 e1 s1 lU lO iu zp=>?_⟩
 have s1:=aa (af hl _) s1
 have jx:=s1 _ _ uE
 have d8:(8:Int) < 2 ^ 1000:=by decide +kernel
 refine ⟨_,rfl,r,_,_,_,rfl,rfl,ao.of jx,a0,_,_,rfl,rfl,⟨(by show (0:Int) < 8; decide),d8⟩,_,rfl,r,_,_,_,rfl,rfl,ao.of jx,a2,_,rfl,r,_,_,_,rfl,rfl,ao.of jx,a1,age,fun l2 hl2=>?_⟩
 have jw:=s1 _ _ jv
 refine ⟨_,rfl,l2,na,[x0 / 8,x2,x1],3,names,rfl,ae,Uo _ _ _ (by omega) (by omega) (by omega) (by omega) (by omega) (by omega),Z3 _,by rw [aj (ah jw hl2)]; exact jw,ki,fun v2 H2 e2 s2 Fy FX CW Vn=>?_⟩
 have BW:ag H1 H2:=aa (af hl2 _) s2
 have lU:=lU.keep (ag.tk BW)
 have s2:=aa s1 BW
 have Qm:=s2 _ _ uE
 refine ⟨_,rfl,r,_,_,_,rfl,rfl,ao.of Qm,a0,_,_,rfl,rfl,(by show (0:Int) < 8; decide),?_⟩
 refine ⟨_,rfl,rfl,_,rfl,?_⟩
 refine aF (fun _=>?_) (fun _=>?_)
 · refine ⟨agc,fun p hp=>?_⟩
   exact q (.ref p) _ .yes (aC s2 hp) ⟨p,rfl,ae⟩ aat aat (by show 0<=5; omega)
 refine ⟨_,rfl,rfl,_,rfl,?_⟩
 refine aF (fun _=>?_) (fun _=>?_)
 · refine ⟨_,rfl,_,rfl,age,fun p hp=>⟨agd,fun p2 cb=>?_⟩⟩
   have k1:cE (upd H2 p (.tup [.str "same",v1,v2])) (.ref p) (.two .same e1 e2):=⟨v1,v2,⟨p,rfl,ae⟩,lU.keep (aI hp _),Fy.keep (aI hp _)⟩
   exact q (.ref p2) _ (.nt (.two .same e1 e2)) (aC (aC s2 hp) cb) ⟨.ref p,⟨p2,rfl,ae⟩,k1.keep (aI cb _)⟩ ⟨lO,FX⟩ ⟨iu,CW⟩ (by show max e1.dep e2.dep + 1 + 1<=5; omega)
 refine ⟨_,rfl,rfl,_,rfl,?_⟩
 refine aF (fun _=>?_) (fun _=>?_)
 · refine ⟨_,rfl,_,rfl,age,fun p hp=>⟨_,rfl,_,rfl,age,fun p2 cb=>⟨agd,fun p3 lK=>⟨age,fun p4 tE=>?_⟩⟩⟩⟩
   have k1:cE (upd H2 p (.tup [.str "under",v1,v2])) (.ref p) (.two .under e1 e2):=⟨v1,v2,⟨p,rfl,ae⟩,lU.keep (aI hp _),Fy.keep (aI hp _)⟩
   have k2:cE (upd (upd H2 p (.tup [.str "under",v1,v2])) p2 (.tup [.str "under",v2,v1])) (.ref p2) (.two .under e2 e1):=⟨v2,v1,⟨p2,rfl,ae⟩,(Fy.keep (aI hp _)).keep (aI cb _),(lU.keep (aI hp _)).keep (aI cb _)⟩
   have k3:cE (upd (upd (upd H2 p (.tup [.str "under",v1,v2])) p2 (.tup [.str "under",v2,v1])) p3 (.tup [.str "not",.ref p2])) (.ref p3) (.nt (.two .under e2 e1)):=⟨.ref p2,⟨p3,rfl,ae⟩,k2.keep (aI lK _)⟩
   exact q (.ref p4) _ (.two .both (.two .under e1 e2) (.nt (.two .under e2 e1))) (aC (aC (aC (aC s2 hp) cb) lK) tE) ⟨.ref p,.ref p3,⟨p4,rfl,ae⟩,((k1.keep (aI cb _)).keep (aI lK _)).keep (aI tE _),k3.keep (aI tE _)⟩ ⟨⟨lO,FX⟩,⟨FX,lO⟩⟩ ⟨⟨iu,CW⟩,⟨CW,iu⟩⟩
     (by show max (max e1.dep e2.dep + 1) (max e2.dep e1.dep + 1 + 1) + 1<=5; omega)
 · refine ⟨_,rfl,_,rfl,age,fun p hp=>⟨_,rfl,_,rfl,age,fun p2 cb=>⟨agd,fun l3 kH=>?_⟩⟩⟩
   have k1:cE (upd H2 p (.tup [.str "same",v1,v2])) (.ref p) (.two .same e1 e2):=⟨v1,v2,⟨p,rfl,ae⟩,lU.keep (aI hp _),Fy.keep (aI hp _)⟩
   have k2:cE (upd (upd H2 p (.tup [.str "same",v1,v2])) p2 (.tup [.str "under",v1,v2])) (.ref p2) (.two .under e1 e2):=⟨v1,v2,⟨p2,rfl,ae⟩,(lU.keep (aI hp _)).keep (aI cb _),(Fy.keep (aI hp _)).keep (aI cb _)⟩
   have last:∀X:Int,X=x0 % 8 % 2->∃(v:V) (e:TW.E),lQ [V.ref p,V.ref p2] X=some v/\cE (upd (upd H2 p (.tup [.str "same",v1,v2])) p2 (.tup [.str "under",v1,v2])) v e/\e.gP/\e.okIn (Kl names)/\e.dep<=5:=fun X hX=>by
     rcases (show X=0\/X=1 by omega) with rfl | rfl
     · exact ⟨_,_,rfl,k1.keep (aI cb _),⟨lO,FX⟩,⟨iu,CW⟩,(by show max e1.dep e2.dep + 1<=5; omega)⟩
     · exact ⟨_,_,rfl,k2,⟨lO,FX⟩,⟨iu,CW⟩,(by show max e1.dep e2.dep + 1<=5; omega)⟩
   obtain ⟨v,e,nZ,ke,h1,h2,h3⟩:=last _ rfl
   exact ⟨_,rfl,_,_,rfl,rfl,(by show (0:Int) < 2; decide),l3,_,_,_,rfl,rfl,ao.of ae,nZ,q v _ e (aC (aC (aC s2 hp) cb) kH) (ke.keep (aI kH _)) h1 h2 h3⟩
theorem Ah (s:Src K mg "_law_condition" wW)(S:aX P w K mg base "_law_sum" ["row","names"] 1 nP):aX P w K mg base "_law_condition" ["row","names"] 2 qo:=
 let ⟨f,fd,F,m⟩:=s
 ⟨f,fd,Eg F S,F.kp,F.binds fun _ _ _ _ _ _ us hl=>match us,hl with | [_,_],_=>rfl,m⟩
abbrev ph:Stmt:=top 45
def qp:Sp:=fun vs H Q _=>∃(r na:Addr) (row:List Int) (n:Nat) (names:List Str) (many:Int),vs=[.ref r,.ref na,.int many]/\H r=some (.lst (row.map V.int))/\Row (2 ^ 30) row n/\7<=n/\H na=some (.lst (names.map V.str))/\names.length<=900/\0 < many/\many < 2 ^ 30 /\
 ∀(v:V) (H':Hp) (e:Nd),ag H H'->cw H' v e->e.good (· ∈ names) many 5->Q v H'
theorem vq:aD ["row","names","many","after","way"] ["row","names","many"] (ai ph):=⟨rfl,rfl,rfl,by decide +kernel,rfl,by decide +kernel,by decide +kernel⟩
theorem ir:aY ph "_law_sum":=by decide +kernel
theorem ig:aY ph "_law_condition":=by decide +kernel
theorem xP:aY ph "len":=by decide +kernel
theorem Ej {f:Addr}{fd:aaf}(F:dm K "_law_node" "_law_node" ph f fd)(m_len:mg "len"=none)(S:aX P w K mg base "_law_sum" ["row","names"] 1 nP)(C:aX P w K mg base "_law_condition" ["row","names"] 2 qo):aP P w K mg base cK 3 f fd ["row","names","many"] qp:=by
 refine F.ok vq (fun vs H Q E h=>?_) (fun cdv A outer s H vs Q E hr h=>?_)
 · obtain ⟨r,na,row,n,names,many,rfl,_⟩:=h
   rfl
 obtain ⟨r,na,row,n,names,many,rfl,uE,hR,Zw,jv,ki,AH,hm1,q⟩:=h
 have S1:=S.mono (show 1<=2 by decide)
 refine ⟨_,aez (ad7 (aeh 3 vq.nd (ad9 aeo (ad8 aeg (ad4 0) ad6) (ad4 2)))
   (ad7 (aeh 4 vq.nd (ad9 aeo (ad8 aeg (ad4 0) ad6) ad6))
   (ad7 (ael (aeL (aeQ (aek aeq (ad4 4) ad6) (aeR (aeL (L3.GV (aek (L3.r6 (m:=0) (bP hr _ (by decide))) (ad4 1) (aen ad5)) (L3.GU (aek aeC (ad4 4) ad6))))))) (aea (aec (aed (ad3 aeb ad5)))) aem)
   (ad7 (ael (aek aeC (ad4 4) ad6) (aea (aec (aed (ad3 aeb (ad3 (ad8 aeg (ad4 1) (ad9 aeo (ad8 aeg (ad4 0) ad6) (aep aer xP m_len aad (ad3 (ad4 1) ad5)))) (ad3 (aef S1 hr ir (ad3 (ad4 0) (ad3 (ad4 1) ad5))) (ad3 (ad4 3) ad5))))))) aem)
   (ad7 (ael (aek aeC (ad4 4) ad6) (aea (aec (aed (ad3 aeb (ad3 (aef S1 hr ir (ad3 (ad4 0) (ad3 (ad4 1) ad5))) (ad3 (ad4 3) ad5)))))) aem)
   (aea (aec (aed (ad3 aeb (ad3 (aef C hr ig (ad3 (ad4 0) (ad3 (ad4 1) ad5))) (ad3 (ad4 3) (ad3 (ad9 aeo (ad8 aeg (ad4 0) ad6) (ad4 2)) ad5)))))))))))),?_⟩
 obtain ⟨x4,a4,RF,UM⟩:=hR.at (i:=4) (by decide) (by omega)
 obtain ⟨x5,a5,Y6,Y7⟩:=hR.at (i:=5) (by decide) (by omega)
 obtain ⟨x6,a6,ZU,ZV⟩:=hR.at (i:=6) (by decide) (by omega)
 have f0:∀x:Int,0<=x % many/\x % many < many:=fun x=>⟨aaj _ (by omega),aac _ AH⟩
 refine ⟨_,rfl,r,_,_,_,rfl,rfl,ao.of uE,a4,_,rfl,_,_,rfl,rfl,AH,?_⟩
 refine ⟨_,rfl,r,_,_,_,rfl,rfl,ao.of uE,a5,_,_,rfl,rfl,(by show (0:Int) < 8; decide),?_⟩
 refine ⟨_,rfl,rfl,_,rfl,?_⟩
 refine aF (fun c1=>?_) (fun c1=>?_)
 · refine fR ?_
   refine ⟨agc,fun p hp=>?_⟩
   exact q (.ref p) _ .fin (af hp _) ⟨p,rfl,ae⟩ aat
 refine ⟨_,rfl,agb,fun lz FK=>?_⟩
 obtain ⟨H1,s1,QA,zz⟩:=aJ FK (.lst [])
 rw [zz]; clear zz
 have jx:=s1 _ _ uE
 have jw:=s1 _ _ jv
 refine ⟨_,RB.nil (ao.of jw) (ao.of QA),_,rfl,?_⟩
 refine aF (fun c2=>?_) (fun c2=>?_)
 · refine ⟨_,rfl,_,_,rfl,rfl,_,rfl,?_⟩
   refine aF (fun c3=>?_) (fun c3=>?_)
   · refine ⟨agc,fun p hp=>?_⟩
     exact q (.ref p) _ .fin (aC s1 hp) ⟨p,rfl,ae⟩ aat
   · have hz:names≠[]\/¬ x5 % 8 < 3:=.inr fun z=>c3 (decide_eq_true z)
     refine ⟨_,rfl,_,_,rfl,rfl,_,rfl,?_⟩
     refine aF (fun c4=>?_) (fun c4=>?_)
     · have hw:x5 % 8 < 3:=of_decide_eq_true c4
       have lL:0 < names.length:=by
         rcases hz with z | z
         · exact List.length_pos_iff.mpr z
         · exact absurd hw z
       have rN:(0:Int) < ((names.map V.str).length:Int):=by rw [ZX]; omega
       have hlt:=aac x6 rN
       obtain ⟨y,_,hy,nZ⟩:=cF V.str names (r:=x6 % ((names.map V.str).length:Int)) (aaj _ (by omega)) (by rw [ZX] at hlt ⊢; exact hlt)
       refine ⟨_,rfl,_,rfl,r,_,_,_,rfl,rfl,ao.of jx,a6,_,rfl,na,_,rfl,.inl (ao.of jw),_,_,rfl,rfl,rN,na,_,_,_,rfl,rfl,ao.of jw,nZ,?_⟩
       refine ⟨_,rfl,_,rfl,r,na,row,n,names,rfl,jx,hR.mono (by decide),by omega,jw,ki,fun v1 H2 e1 s2 lU lO iu zp=>?_⟩
       refine ⟨_,rfl,agf,fun p hp=>?_⟩
       exact q (.ref p) _ (.put y e1 (x4 % many)) (aC (aa s1 s2) hp) ⟨v1,⟨p,rfl,ae⟩,lU.keep (aI hp _)⟩ ⟨hy,lO,iu,by omega,(f0 x4).1,(f0 x4).2⟩
     refine ⟨_,rfl,_,_,rfl,rfl,_,rfl,?_⟩
     refine aF (fun c5=>?_) (fun c5=>?_)
     · refine ⟨_,rfl,_,rfl,r,na,row,n,names,rfl,jx,hR.mono (by decide),by omega,jw,ki,fun v1 H2 e1 s2 lU lO iu zp=>?_⟩
       refine ⟨_,rfl,age,fun p hp=>?_⟩
       exact q (.ref p) _ (.say e1 (x4 % many)) (aC (aa s1 s2) hp) ⟨v1,⟨p,rfl,ae⟩,lU.keep (aI hp _)⟩ ⟨lO,iu,by omega,(f0 x4).1,(f0 x4).2⟩
     · refine ⟨_,rfl,_,rfl,r,na,row,n,names,rfl,jx,hR,by omega,jw,ki,fun v1 H2 e1 s2 lU lO iu zp=>?_⟩
       refine ⟨_,rfl,_,rfl,r,_,_,_,rfl,rfl,ao.of (s2 _ _ jx),a6,_,rfl,_,_,rfl,rfl,AH,agf,fun p hp=>?_⟩
       exact q (.ref p) _ (.test e1 (x4 % many) (x6 % many)) (aC (aa s1 s2) hp) ⟨v1,⟨p,rfl,ae⟩,lU.keep (aI hp _)⟩ ⟨lO,iu,zp,(f0 x4).1,(f0 x4).2,(f0 x6).1,(f0 x6).2⟩
 · refine iW ?_
   have hz:names≠[]\/¬ x5 % 8 < 3:=.inl fun z=>c2 (by rw [z]; rfl)
   refine ⟨_,rfl,_,_,rfl,rfl,_,rfl,?_⟩
   refine aF (fun c4=>?_) (fun c4=>?_)
   · have hw:x5 % 8 < 3:=of_decide_eq_true c4
     have lL:0 < names.length:=by
       rcases hz with z | z
       · exact List.length_pos_iff.mpr z
       · exact absurd hw z
     have rN:(0:Int) < ((names.map V.str).length:Int):=by rw [ZX]; omega
     have hlt:=aac x6 rN
     obtain ⟨y,_,hy,nZ⟩:=cF V.str names (r:=x6 % ((names.map V.str).length:Int)) (aaj _ (by omega)) (by rw [ZX] at hlt ⊢; exact hlt)
     refine ⟨_,rfl,_,rfl,r,_,_,_,rfl,rfl,ao.of jx,a6,_,rfl,na,_,rfl,.inl (ao.of jw),_,_,rfl,rfl,rN,na,_,_,_,rfl,rfl,ao.of jw,nZ,?_⟩
     refine ⟨_,rfl,_,rfl,r,na,row,n,names,rfl,jx,hR.mono (by decide),by omega,jw,ki,fun v1 H2 e1 s2 lU lO iu zp=>?_⟩
     refine ⟨_,rfl,agf,fun p hp=>?_⟩
     exact q (.ref p) _ (.put y e1 (x4 % many)) (aC (aa s1 s2) hp) ⟨v1,⟨p,rfl,ae⟩,lU.keep (aI hp _)⟩ ⟨hy,lO,iu,by omega,(f0 x4).1,(f0 x4).2⟩
   refine ⟨_,rfl,_,_,rfl,rfl,_,rfl,?_⟩
   refine aF (fun c5=>?_) (fun c5=>?_)
   · refine ⟨_,rfl,_,rfl,r,na,row,n,names,rfl,jx,hR.mono (by decide),by omega,jw,ki,fun v1 H2 e1 s2 lU lO iu zp=>?_⟩
     refine ⟨_,rfl,age,fun p hp=>?_⟩
     exact q (.ref p) _ (.say e1 (x4 % many)) (aC (aa s1 s2) hp) ⟨v1,⟨p,rfl,ae⟩,lU.keep (aI hp _)⟩ ⟨lO,iu,by omega,(f0 x4).1,(f0 x4).2⟩
   · refine ⟨_,rfl,_,rfl,r,na,row,n,names,rfl,jx,hR,by omega,jw,ki,fun v1 H2 e1 s2 lU lO iu zp=>?_⟩
     refine ⟨_,rfl,_,rfl,r,_,_,_,rfl,rfl,ao.of (s2 _ _ jx),a6,_,rfl,_,_,rfl,rfl,AH,agf,fun p hp=>?_⟩
     exact q (.ref p) _ (.test e1 (x4 % many) (x6 % many)) (aC (aa s1 s2) hp) ⟨v1,⟨p,rfl,ae⟩,lU.keep (aI hp _)⟩ ⟨lO,iu,zp,(f0 x4).1,(f0 x4).2,(f0 x6).1,(f0 x6).2⟩
theorem Ak (s:Src K mg "_law_node" ph)(m_len:mg "len"=none)(S:aX P w K mg base "_law_sum" ["row","names"] 1 nP)(C:aX P w K mg base "_law_condition" ["row","names"] 2 qo):aX P w K mg base "_law_node" ["row","names","many"] 3 qp:=
 let ⟨f,fd,F,m⟩:=s
 ⟨f,fd,Ej F m_len S C,F.kp,F.binds fun _ _ _ _ _ _ us hl=>match us,hl with | [_,_,_],_=>rfl,m⟩
theorem kG {X:Cx}{ss:List Stmt}{G:TS->Prop}(h:∃t,L3.SL X ss t/\G t):∃t,nY X ss t/\G t:=let ⟨t,a,b⟩:=h; ⟨t,a.h,b⟩
def br {α:Type}(xs:List α)(lo hi:Option Int):List α:=(xs.drop (HT.cJ xs.length 0 lo)).take (HT.cJ xs.length xs.length hi - HT.cJ xs.length 0 lo)
theorem bq {α:Type}(f:α->V)(xs:List α)(lo hi:Option Int):kj (xs.map f) lo hi=(br xs lo hi).map f:=by
 unfold kj br
 rw [ZX,← List.map_drop,← List.map_take]
theorem d4 {α:Type}(xs:List α)(lo hi:Option Int):(br xs lo hi).Sublist xs:=(aca _ _).trans (List.drop_sublist _ _)
theorem qX {α:Type}(xs:List α)(lo hi:Option Int):(br xs lo hi).length<=xs.length:=(d4 xs lo hi).length_le
theorem vW {α:Type}(xs:List α)(n:Nat):br xs none (some (n:Int))=xs.take n:=by
 unfold br
 rw [HT.eI,HT.sP,abQ,adW]
 by_cases h:n<=xs.length
 · rw [abI h]
 · rw [Nat.min_eq_right (by omega),aao,aaG (by omega)]
theorem xF {α:Type}(xs:List α)(n:Nat):br xs (some (n:Int)) none=xs.drop n:=by
 unfold br
 rw [HT.eI,HT.sP]
 by_cases h:n<=xs.length
 · rw [abI h,aaG (by rw [aa7]; omega)]
 · rw [Nat.min_eq_right (by omega),List.drop_length,List.drop_of_length_le (by omega)]
   simp
theorem qY {α:Type}(xs:List α)(m n:Nat)(h:n<=xs.length)(hm:m<=n):br xs (some (m:Int)) (some (n:Int))=(xs.drop m).take (n - m):=by
 unfold br
 rw [HT.eI,HT.eI,abI h,abI (by omega)]
def dF {α:Type}(n:Int)(xs:List α):List α:=if n=1 then xs else xs.reverse
theorem zd {α:Type}(f:α->V)(n:Int)(xs:List α):el n (xs.map f)=(dF n xs).map f:=by
 unfold el dF
 split
 · rfl
 · rw [ac3]
theorem gZ {α:Type}{n:Int}{xs:List α}{x:α}:x∈dF n xs↔x∈xs:=by
 unfold dF
 split
 · exact Iff.rfl
 · exact List.mem_reverse
theorem sU {α:Type}{n:Int}{xs:List α}(h:xs.Nodup):(dF n xs).Nodup:=by
 unfold dF
 split
 · exact h
 · exact (List.Perm.nodup_iff (List.reverse_perm xs)).mpr h
theorem zb {α:Type}{n:Int}{xs:List α}:(dF n xs).length=xs.length:=by
 unfold dF
 split
 · rfl
 · exact acF
abbrev i8:Stmt:=top 46
def GH (nm:List Str):Prop:=nm=(["a","ab"]:List Str)\/nm=(["x","a"]:List Str)\/nm=(["boxes","box"]:List Str)
structure cG (bs:List (Str×Int))(ins:List Str):Prop where
 nm:∃nm szs,GH nm/\szs.length<=2/\(∀s∈szs,(1:Int)<=s/\s<=5)/\bs=nm.zip szs
 ind:ins.Nodup
 insub:∀x∈ins,x∈bs.map (·.1)
theorem GH.len {nm:List Str}(h:GH nm):nm.length=2:=by rcases h with rfl | rfl | rfl <;> rfl
theorem GH.nd {nm:List Str}(h:GH nm):nm.Nodup:=by rcases h with rfl | rfl | rfl <;> decide +kernel
theorem qB {α β:Type}:∀(xs:List α) (ys:List β),ys.length<=xs.length->(xs.zip ys).map (·.1)=xs.take ys.length
 | [],[],_=>rfl
 | _ :: _,[],_=>rfl
 | [],_ :: _,h=>by simp at h
 | x :: xs,y :: ys,h=>by
   show x :: (xs.zip ys).map (·.1)=x :: xs.take ys.length
   rw [qB xs ys (by simpa using h)]
theorem cG.nd {bs:List (Str×Int)}{ins:List Str}(h:cG bs ins):(bs.map (·.1)).Nodup:=by
 obtain ⟨nm,szs,h1,h2,_,rfl⟩:=h.nm
 rw [qB _ _ (by rw [h1.len]; exact h2)]
 exact h1.nd.sublist (aca _ _)
theorem cG.len {bs:List (Str×Int)}{ins:List Str}(h:cG bs ins):bs.length<=2:=by
 obtain ⟨nm,szs,h1,h2,_,rfl⟩:=h.nm
 rw [List.length_zip]
 omega
theorem cG.sz {bs:List (Str×Int)}{ins:List Str}(h:cG bs ins):∀b∈bs,1<=b.2/\b.2<=5:=fun b hb=>by
 obtain ⟨nm,szs,h1,h2,h3,rfl⟩:=h.nm
 exact h3 _ (abr (a:=b.1) (b:=b.2) hb).2
def jU:Sp:=fun vs H Q _=>∃(n:Int),vs=[.int n]/\0<=n/\∀(p B I:Addr) (H':Hp) (vb:List V) (bs:List (Str×Int)) (ins:List Str),ag H H'->H' p=some (.tup [.ref B,.ref I])->H' B=some (.lst vb)->Paired (bG H') vb bs->H' I=some (.lst (ins.map V.str))->cG bs ins->Q (.ref p) H'
theorem jR:aD ["number","sizes","names","boxes","inputs"] ["number"] (ai i8):=⟨rfl,rfl,rfl,by decide +kernel,rfl,by decide +kernel,by decide +kernel⟩
theorem mF:aY i8 "len":=by decide +kernel
theorem pR:aY i8 "range":=by decide +kernel
theorem t9:aY i8 "int":=by decide +kernel
theorem Bo {f:Addr}{fd:aaf}(F:dm K "_law_boxes" "_law_boxes" i8 f fd)(m_len:mg "len"=none)(m_range:mg "range"=none)(m_int:mg "int"=none):aP P w K mg base cK 1 f fd ["number"] jU:=by
 refine F.ok jR (fun vs H Q E h=>?_) (fun cdv A outer s H vs Q E hr h=>?_)
 · obtain ⟨n,rfl,_⟩:=h
   rfl
 obtain ⟨n,rfl,Xe,q⟩:=h
 refine kG ⟨_,(ad7 (aeh 1 jR.nd (ad8 aeg (aen (ad3 (aen (ad3 ad6 ad5)) (ad3 (aen (ad3 ad6 (ad3 ad6 ad5))) (ad3 (aen ad5) (ad3 (aen (ad3 ad6 ad5)) (ad3 (aen (ad3 ad6 (ad3 ad6 ad5))) (ad3 (aen (ad3 ad6 ad5)) (ad3 (aen (ad3 ad6 (ad3 ad6 ad5))) (ad3 (aen (ad3 ad6 ad5)) ad5))))))))) (ad9 aeo (ad4 0) ad6)))
   (ad7 (aeh 2 jR.nd (ad8 aeg (aen (ad3 (aen (ad3 aeb (ad3 aeb ad5))) (ad3 (aen (ad3 aeb (ad3 aeb ad5))) (ad3 (aen (ad3 aeb (ad3 aeb ad5))) ad5)))) (ad9 aeo (ad9 aeG (ad4 0) ad6) ad6)))
   (ad7 (aeW (i:=3) [none,some 2,some 1] ["k","names","sizes"] (show aE _ (ai i8) from ⟨rfl,by decide +kernel,by decide +kernel,by decide +kernel⟩) (by rfl) (aeV pR m_range (ad3 (aep aer mF m_len aad (ad3 (ad4 1) ad5)) ad5)) (fun _ _ _ _ _=>⟨(aee 0 (show (["k","names","sizes"]:List Str).Nodup from by decide +kernel)),aev,(aed (ad3 (ad8 aeg (ad4 1) (ad4 0)) (ad3 (ad8 aeg (ad4 2) (ad4 0)) ad5)))⟩) jR.nd)
   (ad7 (aeh 4 jR.nd (aeM (aeX (ad4 2) (aep aer mF m_len aad (ad3 (ad4 1) ad5))) (ad9 aeD (ad9 aeo (ad9 aeG (ad4 0) ad6) ad6) (aew aeY t9 m_int (by decide +kernel) (ad3 (aeE aeC (ad9 aeo (ad9 aeG (ad4 0) ad6) ad6) ad6) ad5)))))
   (aea (aec (aed (ad3 (ad4 3) (ad3 (L3.Ci (ad4 4) (ad9 aeU ad6 (ad9 aeD ad6 (ad9 aeo (ad9 aeG (ad4 0) ad6) ad6)))) ad5))))))))),?_⟩
 refine ⟨agc,fun QG PK=>?_⟩
 obtain ⟨A0,YL,VP,zz⟩:=aJ PK (.lst [.int 2])
 rw [zz]; clear zz
 refine ⟨agd,fun QH PL=>?_⟩
 obtain ⟨A1,sA1,VQ,zz⟩:=aJ PL (.lst [.int 2,.int 3])
 rw [zz]; clear zz
 refine ⟨agb,fun QI PM=>?_⟩
 obtain ⟨A2,sA2,VR,zz⟩:=aJ PM (.lst [])
 rw [zz]; clear zz
 refine ⟨agc,fun QJ PN=>?_⟩
 obtain ⟨A3,sA3,VS,zz⟩:=aJ PN (.lst [.int 3])
 rw [zz]; clear zz
 refine ⟨agd,fun QK PQ=>?_⟩
 obtain ⟨A4,sA4,VT,zz⟩:=aJ PQ (.lst [.int 2,.int 2])
 rw [zz]; clear zz
 refine ⟨agc,fun QL PU=>?_⟩
 obtain ⟨A5,sA5,VU,zz⟩:=aJ PU (.lst [.int 5])
 rw [zz]; clear zz
 refine ⟨agd,fun QM PV=>?_⟩
 obtain ⟨A6,sA6,VV,zz⟩:=aJ PV (.lst [.int 1,.int 3])
 rw [zz]; clear zz
 refine ⟨agc,fun QN PX=>?_⟩
 obtain ⟨A7,sA7,VW,zz⟩:=aJ PX (.lst [.int 4])
 rw [zz]; clear zz
 refine ⟨agh,fun X1 PY=>?_⟩
 obtain ⟨Az,sAz,VX,zz⟩:=aJ PY (.lst [.ref QG,.ref QH,.ref QI,.ref QJ,.ref QK,.ref QL,.ref QM,.ref QN])
 rw [zz]; clear zz
 have VB:=(sAz _ _ (sA7 _ _ (sA6 _ _ (sA5 _ _ (sA4 _ _ (sA3 _ _ (sA2 _ _ (sA1 _ _ VP))))))))
 have VC:=(sAz _ _ (sA7 _ _ (sA6 _ _ (sA5 _ _ (sA4 _ _ (sA3 _ _ (sA2 _ _ VQ)))))))
 have VD:=(sAz _ _ (sA7 _ _ (sA6 _ _ (sA5 _ _ (sA4 _ _ (sA3 _ _ VR))))))
 have VE:=(sAz _ _ (sA7 _ _ (sA6 _ _ (sA5 _ _ (sA4 _ _ VS)))))
 have VF:=(sAz _ _ (sA7 _ _ (sA6 _ _ (sA5 _ _ VT))))
 have VG:=(sAz _ _ (sA7 _ _ (sA6 _ _ VU)))
 have VH:=(sAz _ _ (sA7 _ _ VV))
 have VI:=(sAz _ _ VW)
 have kA:ag H Az:=(aa (aa (aa (aa (aa (aa (aa (aa (aa (same_refl _) YL) sA1) sA2) sA3) sA4) sA5) sA6) sA7) sAz)
 have pA:∃(sa:Addr) (szs:List Int),lQ ([.ref QG,.ref QH,.ref QI,.ref QJ,.ref QK,.ref QL,.ref QM,.ref QN]:List V) (n % 8)=some (.ref sa)/\Az sa=some (.lst (szs.map V.int))/\szs.length<=2/\∀s∈szs,(1:Int)<=s/\s<=5:=by
   rcases (show n % 8=0\/n % 8=1\/n % 8=2\/n % 8=3\/n % 8=4\/n % 8=5\/n % 8=6\/n % 8=7 by omega) with e | e | e | e | e | e | e | e <;> rw [e]
   · exact ⟨QG,[2],rfl,VB,by decide,by decide⟩
   · exact ⟨QH,[2,3],rfl,VC,by decide,by decide⟩
   · exact ⟨QI,[],rfl,VD,by decide,by decide⟩
   · exact ⟨QJ,[3],rfl,VE,by decide,by decide⟩
   · exact ⟨QK,[2,2],rfl,VF,by decide,by decide⟩
   · exact ⟨QL,[5],rfl,VG,by decide,by decide⟩
   · exact ⟨QM,[1,3],rfl,VH,by decide,by decide⟩
   · exact ⟨QN,[4],rfl,VI,by decide,by decide⟩
 obtain ⟨sa,szs,O8,rP,hs2,NZ⟩:=pA
 refine ⟨_,rfl,_,_,rfl,rfl,(by show (0:Int) < 8; decide),X1,_,_,_,rfl,rfl,ao.of VX,O8,?_⟩
 refine ⟨agd,fun QO PZ=>?_⟩
 obtain ⟨B0,YM,VY,zz⟩:=aJ PZ (.lst [.str "a",.str "ab"])
 rw [zz]; clear zz
 refine ⟨agd,fun LS P0=>?_⟩
 obtain ⟨B1,sB1,VZ,zz⟩:=aJ P0 (.lst [.str "x",.str "a"])
 rw [zz]; clear zz
 refine ⟨agd,fun QP P1=>?_⟩
 obtain ⟨B2,sB2,V0,zz⟩:=aJ P1 (.lst [.str "boxes",.str "box"])
 rw [zz]; clear zz
 refine ⟨age,fun X3 P2=>?_⟩
 obtain ⟨Bz,sBz,V1,zz⟩:=aJ P2 (.lst [.ref QO,.ref LS,.ref QP])
 rw [zz]; clear zz
 have VJ:=(sBz _ _ (sB2 _ _ (sB1 _ _ VY)))
 have VL:=(sBz _ _ (sB2 _ _ VZ))
 have VM:=(sBz _ _ V0)
 have kB:ag Az Bz:=(aa (aa (aa (aa (same_refl _) YM) sB1) sB2) sBz)
 have pB:∃(na:Addr) (nm:List Str),lQ ([.ref QO,.ref LS,.ref QP]:List V) (n / 8 % 3)=some (.ref na)/\Bz na=some (.lst (nm.map V.str))/\GH nm:=by
   rcases (show n / 8 % 3=0\/n / 8 % 3=1\/n / 8 % 3=2 by omega) with e | e | e <;> rw [e]
   · exact ⟨QO,["a","ab"],rfl,VJ,.inl rfl⟩
   · exact ⟨LS,["x","a"],rfl,VL,.inr (.inl rfl)⟩
   · exact ⟨QP,["boxes","box"],rfl,VM,.inr (.inr rfl)⟩
 obtain ⟨na,nm,O9,jv,uA⟩:=pB
 have d8:(8:Int) < 2 ^ 1000:=by decide +kernel
 have Ss:(24:Int) < 2 ^ 1000:=by decide +kernel
 have Vk:(72:Int) < 2 ^ 1000:=by decide +kernel
 refine ⟨_,rfl,_,_,rfl,rfl,⟨(by show (0:Int) < 8; decide),d8⟩,_,_,rfl,rfl,(by show (0:Int) < 3; decide),X3,_,_,_,rfl,rfl,ao.of V1,O9,?_⟩
 have rP:=kB _ _ rP
 have k0:=aa kA kB
 have ZG:=uA.len
 have FK:(nm.zip szs).length=szs.length:=by rw [List.length_zip]; omega
 refine ⟨_,rfl,sa,_,rfl,.inl (ao.of rP),_,rfl,by rw [ZX]; omega,by rw [ZX]; omega,fun nb tD=>?_⟩
 rw [ZX]
 refine dZ (lo:=0) (n:=((szs.length:Nat):Int).toNat) (fun i H2=>∃vb:List V,ag Bz H2/\H2 nb=some (.lst vb)/\vb.length=i/\Paired (bG H2) vb ((nm.zip szs).take i)) ⟨[],af tD _,ae,rfl,.nil⟩ (fun i H2 hi z=>?_) (fun H2 z=>?_)
 · obtain ⟨vb,s2,n6,kX,pb⟩:=z
   have ux:i < szs.length:=by omega
   have DJ:i < nm.length:=by omega
   have e0:((0:Int) + (i:Int)).toNat=i:=by omega
   obtain ⟨y,gy,_,Pa⟩:=cF V.str nm (r:=0 + (i:Int)) (by omega) (by omega)
   obtain ⟨z,gz,_,Pc⟩:=cF V.int szs (r:=0 + (i:Int)) (by omega) (by omega)
   rw [e0] at gy gz
   refine bo ?_
   refine bU (A:=fun H3=>de _ nb _ H3 _) ?_
   refine ⟨_,rfl,_,rfl,na,_,_,_,rfl,rfl,ao.of (s2 _ _ jv),Pa,_,rfl,_,rfl,sa,_,_,_,rfl,rfl,ao.of (s2 _ _ rP),Pc,agd,fun p2 cb=>⟨vb,?_,aB (by omega),aL (Pv:=fun i H2=>∃vb:List V,ag Bz H2/\H2 nb=some (.lst vb)/\vb.length=i/\Paired (bG H2) vb ((nm.zip szs).take i)) (by repeat' constructor) hi ?_⟩⟩
   · rw [aj (ah n6 cb)]; exact n6
   · have Hm:(upd H2 p2 (.tup [.str y,.int z])) nb=some (.lst vb):=by rw [aj (ah n6 cb)]; exact n6
     have t4:TK H2 (upd (upd H2 p2 (.tup [.str y,.int z])) nb (.lst (vb++[.ref p2]))):=(aI cb _).trans (TK.lst Hm)
     refine ⟨vb++[.ref p2],aG (aC s2 cb) tD,ae,by rw [Z0,kX]; rfl,?_⟩
     have ez:(nm.zip szs)[i]? = some (y,z):=by rw [adq]; exact ⟨gy,gz⟩
     rw [Z9,ez]
     exact Paired.snoc (Paired.aZ pb fun a b h=>Tp.keep t4 h) ⟨p2,rfl,by rw [aj (ah n6 cb).symm]; exact ae⟩
 · obtain ⟨vb,s2,n6,kX,pb⟩:=z
   rw [aaT,← FK,aao] at pb
   have k2:=aa k0 s2
   have DM:=s2 _ _ jv
   have Qp:=s2 _ _ rP
   refine ⟨_,rfl,_,rfl,sa,_,rfl,.inl (ao.of Qp),_,rfl,na,_,rfl,ao.of DM,fun p3 lK=>?_⟩
   rw [ZX,bq,vW]
   have cl:∀c:Bool,(-(2 ^ 64):Int) < (if c=true then 1 else 0)/\(if c=true then (1:Int) else 0) < 2 ^ 64:=by decide
   refine ⟨_,rfl,_,_,rfl,rfl,⟨(by show (0:Int) < 24; decide),Ss⟩,_,_,rfl,rfl,(by show (0:Int) < 3; decide),_,rfl,_,_,rfl,rfl,⟨(by show (0:Int) < 24; decide),Ss⟩,_,_,rfl,rfl,(by show (0:Int) < 3; decide),_,_,rfl,rfl,.inr ⟨_,rfl,_,_,rfl,rfl,.inr (cl _),_,rfl,p3,_,rfl,ao.of ae,fun p4 tE=>?_⟩⟩
   rw [bq]
   have sub:=(d4 (nm.take szs.length) (some (n / 24 % 3 * if decide (n / 24 % 3 < 2)=true then 1 else 0)) none)
   generalize br (nm.take szs.length) (some (n / 24 % 3 * if decide (n / 24 % 3 < 2)=true then 1 else 0)) none=HS at sub ⊢
   refine ⟨_,rfl,_,rfl,_,rfl,_,_,rfl,rfl,⟨(by show (0:Int) < 72; decide),Vk⟩,_,_,rfl,rfl,(by show (0:Int) < 2; decide),_,_,rfl,rfl,.inl ⟨by decide,by decide⟩,_,_,rfl,rfl,_,rfl,?_,p4,_,rfl,ao.of ae,fun p5 qD=>⟨agd,fun p6 uC=>?_⟩⟩
   · have:=aaj (n / 72) (show (2:Int)≠0 by decide)
     have:=aac (n / 72) (show (0:Int) < 2 by decide)
     omega
   have k6:=aC (o:=.tup [.ref nb,.ref p5]) (aC (o:=.lst (el (1 - 2 * (n / 72 % 2)) (HS.map V.str))) (aC (o:=.lst (HS.map V.str)) (aC (o:=.lst ((nm.take szs.length).map V.str)) (same_refl H2) lK) tE) qD) uC
   refine q p6 nb p5 _ vb (nm.zip szs) (dF (1 - 2 * (n / 72 % 2)) HS) (aa k2 k6) ae (k6 _ _ n6) (Paired.aZ pb fun a b h=>Tp.keep (ag.tk k6) h) ?_ ⟨⟨nm,szs,uA,hs2,NZ,rfl⟩,?_,fun x hx=>?_⟩
   · rw [aj (ah ae uC),ae,zd]
   · exact sU ((uA.nd.sublist (aca _ _)).sublist sub)
   · rw [qB _ _ (by omega)]
     exact sub.mem (gZ.mp hx)
theorem xY (s:Src K mg "_law_boxes" i8)(m_len:mg "len"=none)(m_range:mg "range"=none)(m_int:mg "int"=none):aX P w K mg base "_law_boxes" ["number"] 1 jU:=
 let ⟨f,fd,F,m⟩:=s
 ⟨f,fd,Bo F m_len m_range m_int,F.kp,F.binds fun _ _ _ _ _ _ us hl=>match us,hl with | [_],_=>rfl,m⟩
theorem qW {α:Type}(xs:List α)(m n:Nat):(br xs (some (m:Int)) (some (n:Int))).length<=n - m:=by
 unfold br
 rw [HT.eI,HT.eI,aak]
 omega
abbrev gD:Stmt:=top 47
structure Dc (bs:List (Str×Int))(ins:List Str)(nds:List Nd)(most:Int):Prop where
 bx:cG bs ins
 one:1<=nds.length
 few:(nds.length:Int)<=most
 good:∀e∈nds,e.good (· ∈ bs.map (·.1)) nds.length 5
def vB (K:ZY):Sp:=fun vs H Q _=>∃(a:Addr) (ns:List Int) (most:Int),vs=[.ref a,.int most]/\ao K H a (ns.map V.int)/\0 < most/\most<=100/\∀(v:V) (H':Hp) (bs:List (Str×Int)) (ins:List Str) (nds:List Nd),ag H H'->bD H' v bs ins nds->Dc bs ins nds most->Q v H'
theorem eO:aD ["script","most","head","boxes","inputs","names","cells","far","nodes","cell"] ["script","most"] (ai gD):=⟨rfl,rfl,rfl,by decide +kernel,rfl,by decide +kernel,by decide +kernel⟩
theorem eE:aY gD "_law_numbers":=by decide +kernel
theorem eC:aY gD "_law_cell_at":=by decide +kernel
theorem lJ:aY gD "_law_boxes":=by decide +kernel
theorem mT:aY gD "_law_node":=by decide +kernel
theorem xR:aY gD "len":=by decide +kernel
theorem rj:aY gD "range":=by decide +kernel
theorem El {f:Addr}{fd:aaf}(F:dm K "_law_program" "_law_program" gD f fd)(m_len:mg "len"=none)(m_range:mg "range"=none)(CE:aX P w K mg base "_law_cell_at" ["script","k"] 1 (kP K))(NU:aX P w K mg base "_law_numbers" ["cell","many","base"] 1 dX)
    (BX:aX P w K mg base "_law_boxes" ["number"] 1 jU) (ND:aX P w K mg base "_law_node" ["row","names","many"] 3 qp):aP P w K mg base cK 4 f fd ["script","most"] (vB K):=by
 refine F.ok eO (fun vs H Q E h=>?_) (fun cdv A outer s H vs Q E hr h=>?_)
 · obtain ⟨a,ns,most,rfl,_⟩:=h
   rfl
 obtain ⟨a,ns,most,rfl,hS,AH,hm1,q⟩:=h
 have RS:=CE.mono (show 1<=3 by decide)
 have Sd:=NU.mono (show 1<=3 by decide)
 have UR:=BX.mono (show 1<=3 by decide)
 refine kG ⟨_,(ad7 (aeh 2 eO.nd (aef Sd hr eE (ad3 (aef RS hr eC (ad3 (ad4 0) (ad3 ad6 ad5))) (ad3 ad6 (ad3 ad6 ad5)))))
   (ad7 (aeO (aef UR hr lJ (ad3 (ad8 aeg (ad4 2) ad6) ad5)) (aes 2 (aej (aee 3 eO.nd) (aej (aee 4 eO.nd) aet))))
   (ad7 (aeW (i:=5) [none,none] ["name","size"] (show aE _ (ai gD) from ⟨rfl,by decide +kernel,by decide +kernel,by decide +kernel⟩) (by rfl) (aeA (ad4 3)) (fun _ _ _ _ _=>⟨(aes 2 (aej (aee 0 (show (["name","size"]:List Str).Nodup from by decide +kernel)) (aej (aee 1 (show (["name","size"]:List Str).Nodup from by decide +kernel)) aet))),aev,(ad4 0)⟩) eO.nd)
   (ad7 (aeh 6 eO.nd (L3.Cg (ad4 0) ad6 (ad9 aey ad6 (ad4 1))))
   (ad7 (ael (aek (L3.r6 (m:=0) (bP hr _ (by decide))) (ad4 6) (aen ad5)) (ad7 (aeh 7 eO.nd (ad9 aeo (aef RS hr eC (ad3 (ad4 0) (ad3 ad6 ad5))) (ad9 aeT ad6 ad6)))
   (aea (aeW (i:=6) [none,some 7] ["k","far"] (show aE _ (ai gD) from ⟨rfl,by decide +kernel,by decide +kernel,by decide +kernel⟩) (by rfl) (aeV rj m_range (ad3 (ad9 aey ad6 (ad9 aeo (ad8 aeg (ad4 2) ad6) (ad4 1))) ad5)) (fun _ _ _ _ _=>⟨(aee 0 (show (["k","far"]:List Str).Nodup from by decide +kernel)),aev,(ad9 aey (ad4 1) (ad9 aeD ad6 (ad4 0)))⟩) eO.nd))) aem)
   (ad7 (aeh 8 eO.nd (aen ad5))
   (ad7 (aeJ (aeA (ad4 6)) (aee 9 eO.nd) (aea (aeu (aeN (ad4 8) (ad3 (aef ND hr mT (ad3 (aef Sd hr eE (ad3 (ad4 9) (ad3 ad6 (ad3 ad6 ad5)))) (ad3 (ad4 5) (ad3 (aep aer xR m_len aad (ad3 (ad4 6) ad5)) ad5)))) ad5)))))
   (aea (aec (aed (ad3 (ad4 3) (ad3 (ad4 4) (ad3 (ad4 8) ad5))))))))))))),?_⟩
 refine ⟨_,rfl,a,ns,0,rfl,hS,adm _,fun c=>⟨c,2,5040,rfl,by decide,by decide,by decide,by decide,fun hd row WY hR=>?_⟩⟩
 obtain ⟨H1,s1,h1,zz⟩:=aJ WY (.lst (row.map V.int))
 rw [zz]; clear zz
 obtain ⟨x0,a0,JW,Kt⟩:=hR.at (i:=0) (by decide) (by decide)
 obtain ⟨x1,a1,Ku,Kv⟩:=hR.at (i:=1) (by decide) (by decide)
 refine ⟨_,rfl,hd,_,_,_,rfl,rfl,ao.of h1,a0,x0,rfl,JW,fun p B I H2 vb bs ins s2 hp hB pb hI OK=>?_⟩
 have k2:=aa s1 s2
 have kX:vb.length=bs.length:=Paired.length pb
 have n6:=OK.len
 refine ⟨p,_,rfl,aK.of hp,rfl,_,_,rfl,_,_,rfl,rfl,?_⟩
 refine ⟨_,rfl,B,rfl,⟨_,ao.of hB⟩,fun na jv=>?_⟩
 have Ic:B≠na:=ah hB jv
 refine bj (xs:=vb) (fun i H3=>H3=upd H2 na (.lst ((bs.take i).map fun b=>V.str b.1))) rfl (fun i H3 _ e=>?_) (fun i x H3 hx e=>?_) (fun H3 e=>?_)
 · subst e
   exact ao.of (by rw [aj Ic]; exact hB)
 · subst e
   obtain ⟨b,fP,p,rfl,hp⟩:=Paired.get pb hx
   have dP:i < vb.length:=(List.getElem?_eq_some_iff.mp hx).1
   refine ⟨p,_,rfl,aK.of (by rw [aj (ah hp jv)]; exact hp),rfl,_,_,rfl,_,_,rfl,rfl,?_⟩
   refine bU (A:=fun H3=>de (Cv 0) na _ H3 _) ⟨_,rfl,_,ae,aB (by rw [ZX,aak]; omega),aL (Pv:=fun i H3=>H3=upd H2 na (.lst ((bs.take i).map fun b=>V.str b.1))) (by repeat' constructor) dP ?_⟩
   rw [bS]
   congr 2
   rw [Z9,fP,Z5]
   rfl
 subst e
 have et:(bs.take vb.length).map (fun b=>V.str b.1)=(bs.map (·.1)).map V.str:=by rw [kX,aao,aa9]; rfl
 rw [et]
 obtain ⟨H3,s3,jv,zz⟩:=aJ jv (.lst ((bs.map (·.1)).map V.str))
 rw [zz]; clear zz
 have k3:=aa k2 s3
 have Wx:=ag.seq k3 hS
 have hB:=s3 _ _ hB
 have hI:=s3 _ _ hI
 have pb:Paired (bG H3) vb bs:=Paired.aZ pb fun a b h=>Tp.keep (ag.tk s3) h
 refine ⟨_,rfl,_,rfl,_,rfl,_,_,rfl,rfl,_,rfl,a,_,rfl,Wx,fun ce rG=>?_⟩
 have e2:(2 + most:Int)=((2 + most.toNat:Nat):Int):=by omega
 rw [bq]
 have KQ:(br ns (some 2) (some (2 + most))).length<=most.toNat:=by
   have:=qW ns 2 (2 + most.toNat)
   rw [← e2] at this
   exact Z8 this (by omega)
 generalize br ns (some 2) (some (2 + most))=cs at KQ ⊢
 obtain ⟨H4,s4,rG,zz⟩:=aJ rG (.lst (cs.map V.int))
 rw [zz]; clear zz
 refine ⟨_,rfl,agb,fun lz FK=>?_⟩
 have s4:=aa s4 (af FK (.lst []))
 have rG:=af FK (.lst []) _ _ rG
 have hz:(upd H4 lz (.lst [])) lz=some (.lst []):=ae
 generalize upd H4 lz (.lst [])=H4 at s4 rG hz ⊢
 have k4:=aa k3 s4
 have jv:=s4 _ _ jv
 have hB:=s4 _ _ hB
 have hI:=s4 _ _ hI
 have pb:Paired (bG H4) vb bs:=Paired.aZ pb fun a b h=>Tp.keep (ag.tk s4) h
 refine ⟨_,RB.nil (ao.of rG) (ao.of hz),_,rfl,?_⟩
 refine aF (fun cc=>?_) (fun cc=>?_)
 · have Wo:=s4 _ _ (s3 _ _ (s2 _ _ h1))
   refine ⟨_,rfl,a,ns,0,rfl,ag.seq k4 hS,adm _,fun c2=>⟨_,_,rfl,rfl,⟨by decide,by decide,by decide⟩,_,_,rfl,rfl,(show (0:Int) < 10 ^ (17:Int).toNat by decide +kernel),?_⟩⟩
   refine ⟨_,rfl,hd,_,_,_,rfl,rfl,ao.of Wo,a1,_,rfl,_,_,rfl,rfl,AH,_,_,rfl,rfl,_,rfl,?_,?_,fun J9 Pj=>?_⟩
   · have:=aaj x1 (show most≠0 by omega); omega
   · have:=aac x1 AH; omega
   have Zu:=aaj x1 (show most≠0 by omega)
   have Lv:=aac x1 AH
   refine dZ (lo:=0) (n:=(1 + x1 % most).toNat) (fun i H5=>∃cs:List Int,H5=upd H4 J9 (.lst (cs.map V.int))/\cs.length=i) ⟨[],rfl,rfl⟩ (fun i H5 hi z=>?_) (fun H5 z=>?_)
   · obtain ⟨cs,rfl,DH⟩:=z
     refine bo ?_
     refine bU (A:=fun H3=>de _ J9 _ H3 _) ?_
     refine ⟨_,rfl,_,rfl,_,_,rfl,rfl,.inl ⟨by decide,by decide⟩,_,_,rfl,rfl,_,ae,aB (by rw [ZX]; omega),aL (Pv:=fun i H5=>∃cs:List Int,H5=upd H4 J9 (.lst (cs.map V.int))/\cs.length=i) (by repeat' constructor) hi ⟨cs++[c2 % 10 ^ (17:Int).toNat + 211 * (0 + (i:Int))],?_,by rw [Z0,DH]; rfl⟩⟩
     rw [bS,Z5]
     rfl
   · obtain ⟨CL,rfl,DH⟩:=z
     obtain ⟨HH,s5,rG,zz⟩:=aJ Pj (.lst (CL.map V.int))
     rw [zz]; clear zz
     have Ux:=aa k4 s5
     have jv:=s5 _ _ jv
     have hB:=s5 _ _ hB
     have hI:=s5 _ _ hI
     have pb:Paired (bG HH) vb bs:=Paired.aZ pb fun a b h=>Tp.keep (ag.tk s5) h
     have xC:CL≠[]:=fun z=>by rw [z] at DH; simp at DH; omega
     have KQ:CL.length<=most.toNat:=by omega
     refine ⟨agb,fun nb tD=>?_⟩
     have cl:0 < CL.length:=List.length_pos_iff.mpr xC
     have uw:((CL.map V.int).length:Int)=(CL.length:Int):=by rw [ZX]
     refine ⟨_,rfl,J9,rfl,⟨_,ao.of (af tD _ _ _ rG)⟩,?_⟩
     refine fU (xs:=CL.map V.int) (fun i σ H5=>(∃cv,σ=[some (.ref a),some (.int most),some (.ref hd),some (.ref B),some (.ref I),some (.ref na),some (.ref J9),some (.int (c2 % 10 ^ (17:Int).toNat)),some (.ref nb),cv])/\∃(vn:List V) (nds:List Nd),ag HH H5/\H5 nb=some (.lst vn)/\Paired (cw H5) vn nds/\nds.length=i/\∀e∈nds,e.good (· ∈ bs.map (·.1)) CL.length 5) ⟨⟨_,rfl⟩,[],[],af tD _,ae,.nil,rfl,fun e he=>nomatch he⟩ (fun i σ H5 _ z=>?_) (fun i x σ H5 hx z=>?_) (fun σ H5 z=>?_)
     · obtain ⟨_,vn,nds,s5,_⟩:=z
       exact ao.of (s5 _ _ rG)
     · obtain ⟨⟨cv,rfl⟩,vn,nds,s5,pV,pn,ki,gd⟩:=z
       obtain ⟨c3,DF,rfl⟩ : ∃c,CL[i]? = some c/\x=V.int c:=by
         rw [aaq] at hx
         obtain ⟨y,h1,h2⟩:=Option.map_eq_some_iff.mp hx
         exact ⟨y,h1,h2.symm⟩
       have dP:i < CL.length:=(List.getElem?_eq_some_iff.mp DF).1
       have Tx:vn.length=nds.length:=Paired.length pn
       refine ⟨_,rfl,.inl ⟨rfl,_,ao.of pV⟩,?_⟩
       refine ⟨_,rfl,c3,7,720,rfl,by decide,by decide,by decide,by decide,fun l row hl hR=>?_⟩
       have s6:=aa s5 (af hl (.lst (row.map V.int)))
       refine ⟨_,rfl,_,rfl,J9,_,rfl,.inl (ao.of (s6 _ _ rG)),l,na,row,7,bs.map (·.1),_,rfl,ae,hR.mono (by decide),Z3 _,s6 _ _ jv,by rw [ZX]; omega,by rw [uw]; omega,by rw [uw]; omega,fun v H7 e s7 ea ge=>?_⟩
       rw [uw] at ge
       have uy:H7 nb=some (.lst vn):=s7 _ _ (af hl _ _ _ pV)
       refine ⟨nb,vn,v,rfl,rfl,uy,aB (by omega),⟨_,rfl⟩,?_⟩
       have t8:TK H5 (upd H7 nb (.lst (vn++[v]))):=((aI hl _).trans (ag.tk s7)).trans (TK.lst uy)
       refine ⟨vn++[v],nds++[e],aG (aa s6 s7) tD,ae,Paired.snoc (Paired.aZ pn fun a b h=>cw.keep t8 h) (cw.keep (TK.lst uy) ea),by rw [Z0,ki]; rfl,fun x hx=>?_⟩
       rcases List.mem_append.mp hx with y | y
       · exact gd x y
       · rw [List.mem_singleton.mp y]
         exact ge
     · obtain ⟨⟨cv,rfl⟩,vn,nds,s5,pV,pn,ki,gd⟩:=z
       rw [ZX] at ki
       refine ⟨_,rfl,_,rfl,_,rfl,age,fun p9 wk=>?_⟩
       have s9:=aC (o:=.tup [.ref B,.ref I,.ref nb]) s5 wk
       have MM:ag H5 (upd H5 p9 (.tup [.ref B,.ref I,.ref nb])):=af wk _
       refine q (.ref p9) _ bs ins nds (aa Ux s9) ⟨p9,B,I,nb,vb,vn,rfl,ae,s9 _ _ hB,s9 _ _ hI,MM _ _ pV,Paired.aZ pb fun a b h=>Tp.keep (ag.tk s9) h,Paired.aZ pn fun a b h=>cw.keep (ag.tk MM) h⟩ ⟨OK,by omega,by omega,by rw [ki]; exact gd⟩
 · have xC:cs≠[]:=fun z=>cc (by rw [z]; rfl)
   have Ux:=k4
   refine ⟨agb,fun nb tD=>?_⟩
   have cl:0 < cs.length:=List.length_pos_iff.mpr xC
   have uw:((cs.map V.int).length:Int)=(cs.length:Int):=by rw [ZX]
   refine ⟨_,rfl,ce,rfl,⟨_,ao.of (af tD _ _ _ rG)⟩,?_⟩
   refine fU (xs:=cs.map V.int) (fun i σ H5=>(∃cv,σ=[some (.ref a),some (.int most),some (.ref hd),some (.ref B),some (.ref I),some (.ref na),some (.ref ce),none,some (.ref nb),cv])/\∃(vn:List V) (nds:List Nd),ag H4 H5/\H5 nb=some (.lst vn)/\Paired (cw H5) vn nds/\nds.length=i/\∀e∈nds,e.good (· ∈ bs.map (·.1)) cs.length 5) ⟨⟨_,rfl⟩,[],[],af tD _,ae,.nil,rfl,fun e he=>nomatch he⟩ (fun i σ H5 _ z=>?_) (fun i x σ H5 hx z=>?_) (fun σ H5 z=>?_)
   · obtain ⟨_,vn,nds,s5,_⟩:=z
     exact ao.of (s5 _ _ rG)
   · obtain ⟨⟨cv,rfl⟩,vn,nds,s5,pV,pn,ki,gd⟩:=z
     obtain ⟨c3,DF,rfl⟩ : ∃c,cs[i]? = some c/\x=V.int c:=by
       rw [aaq] at hx
       obtain ⟨y,h1,h2⟩:=Option.map_eq_some_iff.mp hx
       exact ⟨y,h1,h2.symm⟩
     have dP:i < cs.length:=(List.getElem?_eq_some_iff.mp DF).1
     have Tx:vn.length=nds.length:=Paired.length pn
     refine ⟨_,rfl,.inl ⟨rfl,_,ao.of pV⟩,?_⟩
     refine ⟨_,rfl,c3,7,720,rfl,by decide,by decide,by decide,by decide,fun l row hl hR=>?_⟩
     have s6:=aa s5 (af hl (.lst (row.map V.int)))
     refine ⟨_,rfl,_,rfl,ce,_,rfl,.inl (ao.of (s6 _ _ rG)),l,na,row,7,bs.map (·.1),_,rfl,ae,hR.mono (by decide),Z3 _,s6 _ _ jv,by rw [ZX]; omega,by rw [uw]; omega,by rw [uw]; omega,fun v H7 e s7 ea ge=>?_⟩
     rw [uw] at ge
     have uy:H7 nb=some (.lst vn):=s7 _ _ (af hl _ _ _ pV)
     refine ⟨nb,vn,v,rfl,rfl,uy,aB (by omega),⟨_,rfl⟩,?_⟩
     have t8:TK H5 (upd H7 nb (.lst (vn++[v]))):=((aI hl _).trans (ag.tk s7)).trans (TK.lst uy)
     refine ⟨vn++[v],nds++[e],aG (aa s6 s7) tD,ae,Paired.snoc (Paired.aZ pn fun a b h=>cw.keep t8 h) (cw.keep (TK.lst uy) ea),by rw [Z0,ki]; rfl,fun x hx=>?_⟩
     rcases List.mem_append.mp hx with y | y
     · exact gd x y
     · rw [List.mem_singleton.mp y]
       exact ge
   · obtain ⟨⟨cv,rfl⟩,vn,nds,s5,pV,pn,ki,gd⟩:=z
     rw [ZX] at ki
     refine ⟨_,rfl,_,rfl,_,rfl,age,fun p9 wk=>?_⟩
     have s9:=aC (o:=.tup [.ref B,.ref I,.ref nb]) s5 wk
     have MM:ag H5 (upd H5 p9 (.tup [.ref B,.ref I,.ref nb])):=af wk _
     refine q (.ref p9) _ bs ins nds (aa k4 s9) ⟨p9,B,I,nb,vb,vn,rfl,ae,s9 _ _ hB,s9 _ _ hI,MM _ _ pV,Paired.aZ pb fun a b h=>Tp.keep (ag.tk s9) h,Paired.aZ pn fun a b h=>cw.keep (ag.tk MM) h⟩ ⟨OK,by omega,by omega,by rw [ki]; exact gd⟩
theorem Am (s:Src K mg "_law_program" gD)(m_len:mg "len"=none)(m_range:mg "range"=none)(CE:aX P w K mg base "_law_cell_at" ["script","k"] 1 (kP K))(NU:aX P w K mg base "_law_numbers" ["cell","many","base"] 1 dX)(BX:aX P w K mg base "_law_boxes" ["number"] 1 jU)(ND:aX P w K mg base "_law_node" ["row","names","many"] 3 qp):aX P w K mg base "_law_program" ["script","most"] 4 (vB K):=
 let ⟨f,fd,F,m⟩:=s
 ⟨f,fd,El F m_len m_range CE NU BX ND,F.kp,F.binds fun _ _ _ _ _ _ us hl=>match us,hl with | [_,_],_=>rfl,m⟩
end
end TW
namespace TW
open PySem L2
structure C6 (K:ZY)(x qual:Str)(st:Stmt)(dV:Value)(f:Addr)(fd:aaf):Prop where
 ex:∃(oc:Value) (od:Option Addr) (kV doc pm:Value) (an:Option Addr) (cdv ct:Value) (osl:Array (Option Value)),
   fd=abo x qual (fc st) (cU st) (ai st) dV kV doc pm an cdv ct/\K.lookup f=some ⟨oc,od,.func fd,osl⟩ /\ abK K cdv qual=true
 kp:aaZ K (.ref f)=true
section
variable {P:Program}{w:World}{K:ZY}{mg:Str->Option Value}{base:Heap}
theorem C6.ok {x qual:Str}{st:Stmt}{dV:Value}{f:Addr}{fd:aaf}{N ps:List Str}{k:Nat}{sp:Sp}(F:C6 K x qual st dV f fd)(S:aD N ps (ai st))(len:∀vs H Q E,sp vs H Q E->vs.length=ps.length)
   (hbody:∀(cdv:Value) (A:Around) (outer:List Env) (s:Shared) (H:Hp) (vs:List V) (Q:VK) (E:XK),dn k (A.deeper (PyProof.Rows.envOfC qual (ai st) s.heap.objs.size f cdv))->sp vs H Q E ->
     ∃t,nY (hJ cK P w K mg base N qual (ai st) f cdv A outer s H E).Km (cU st) t/\t { nx:=fun _ H'=>Q .bN H',rt:=Q } (start N vs) H):aP P w K mg base cK (k + 1) f fd ps sp:=by
 obtain ⟨oc,od,kV,doc,pm,an,cdv,ct,osl,rfl,lk,hcd⟩:=F.ex
 refine z9 lk hcd S len fun A outer s H vs Q E hr hsp=>?_
 obtain ⟨t,h,q⟩:=hbody cdv A outer s H vs Q E hr hsp
 exact ⟨t,h.Km,q⟩
end
def Dd (K:ZY)(mg:Str->Option Value)(x:Str)(st:Stmt)(d:Str):Prop:=
 ∃f fd T tk oc od n sl,C6 K x x st (.ref T) f fd/\mg x=some (.ref f)/\K.lookup T=some ⟨oc,od,.seq #[.str d tk] n,sl⟩
def tN (K:ZY)(mg:Str->Option Value)(x:Str)(xs:List Str):Prop:=∃t,mg x=some (.ref t)/\∀H:Hp,aK K H t (xs.map V.str)
theorem xB {K:ZY}{C:Addr}{cd:ClassData}{l:List Value}(h:acB K C=some cd)(m:cd.mro=l):pN K C=some l:=by
 unfold acB at h
 unfold pN
 split at h
 · rename_i e
   cases h
   rw [e,← m]
 · cases h
structure Fp (K:ZY)(mg:Str->Option Value)(T aH aA az aN bf bg aR aS bA aT aU:Addr):Prop where
 t:Xc K mg "TwinError" T vE
 x_NoPair:Xc K mg "NoPair" aH (.ref T :: vE)
 k_NoPair:GQ K aH
 o_NoPair:ab3 K (.ref aH) [.ref aN,.ref bf,.ref bg,.ref aR,.ref aS,.ref bA,.ref aT,.ref aU]=some false
 v_NoPair:aav K (.ref aH) (.type "ValueError")=some true
 i_NoPair_NoPair:aav K (.ref aH) (.ref aH)=some true
 i_NoPair_NoWorths:aav K (.ref aH) (.ref aA)=some false
 i_NoPair_NoProgram:aav K (.ref aH) (.ref az)=some false
 x_NoWorths:Xc K mg "NoWorths" aA (.ref T :: vE)
 k_NoWorths:GQ K aA
 o_NoWorths:ab3 K (.ref aA) [.ref aN,.ref bf,.ref bg,.ref aR,.ref aS,.ref bA,.ref aT,.ref aU]=some false
 v_NoWorths:aav K (.ref aA) (.type "ValueError")=some true
 i_NoWorths_NoPair:aav K (.ref aA) (.ref aH)=some false
 i_NoWorths_NoWorths:aav K (.ref aA) (.ref aA)=some true
 i_NoWorths_NoProgram:aav K (.ref aA) (.ref az)=some false
 x_NoProgram:Xc K mg "NoProgram" az (.ref T :: vE)
 k_NoProgram:GQ K az
 o_NoProgram:ab3 K (.ref az) [.ref aN,.ref bf,.ref bg,.ref aR,.ref aS,.ref bA,.ref aT,.ref aU]=some false
 v_NoProgram:aav K (.ref az) (.type "ValueError")=some true
 i_NoProgram_NoPair:aav K (.ref az) (.ref aH)=some false
 i_NoProgram_NoWorths:aav K (.ref az) (.ref aA)=some false
 i_NoProgram_NoProgram:aav K (.ref az) (.ref az)=some true
 m_NoChange:mg "NoChange"=some (.ref aN)
 m_NoForm:mg "NoForm"=some (.ref bf)
 m_NoNode:mg "NoNode"=some (.ref bg)
 m_NoPaper:mg "NoPaper"=some (.ref aR)
 m_NoPicks:mg "NoPicks"=some (.ref aS)
 m_NoRow:mg "NoRow"=some (.ref bA)
 m_NoneYet:mg "NoneYet"=some (.ref aT)
 m_TooMany:mg "TooMany"=some (.ref aU)
theorem xp {K:ZY}{h:Heap}{mg:Str->Option Value}{x:Str}{C:Addr}{cd:ClassData}{tl:List Value}(X:K.In h)(G:h.Ns aaR mg)(a:acP K aaR x=some (some (.ref C)))(e:adj K C vE "ValueError.__new__"=true)(l:acB K C=some cd)(m:cd.mro=.ref C :: tl):Xc K mg x C tl:=⟨aaY X G a,e,xB l m⟩
theorem vL {K:ZY}{C:Addr}{cd:ClassData}(ga:ab4 K (.ref C) "__getattribute__"=some (some (.builtin "BaseException.__getattribute__")))(gn:ab4 K (.ref C) "__getattr__"=some none)(ha:ab4 K (.ref C) "__class__"=some (some (.builtin "object.__class__")))(hn:adS K (.builtin "object.__class__") "__get__"=some (some (.builtin "getset_descriptor.__get__")))(htk:PySem.W.takesIn K (.builtin "object.__class__")=some true)(hm:adi K C (.type "object")=some true)(hb:adi K C (.type "BaseException")=some true)(l:acB K C=some cd):GQ K C:=⟨ga,gn,ha,hn,htk,hm,hb,by rw [l]; rfl⟩
theorem xo {K:ZY}{h:Heap}{mg:Str->Option Value}{x:Str}{t:Addr}{od:Option Addr}{sl:Array (Option Value)}{n:Nat}{us:Array Value}{xs:List Str}(X:K.In h)(G:h.Ns aaR mg)(a:acP K aaR x=some (some (.ref t)))(l:K.lookup t=some ⟨.type "tuple",od,.seq us n,sl⟩)(b:us.size<=sizeLine)(e:us.toList.length=xs.length)(r:Vals (xs.map V.str) us.toList):tN K mg x xs:=⟨_,aaY X G a,fun _=>.inr ⟨_,_,_,l,rfl,rfl,b,r⟩⟩
theorem aM {K:ZY}{h:Heap}{mg:Str->Option Value}{x:Str}{st:Stmt}{od an:Option Addr}{sl:Array (Option Value)}{oc kV dc pm cd ct:Value}{f:Addr}(X:K.In h)(G:h.Ns aaR mg)(a:acP K aaR x=some (some (.ref f)))
   (l:K.lookup f=some ⟨oc,od,.func (abo x x (fc st) (cU st) (ai st) .none kV dc pm an cd ct),sl⟩) (c:abK K cd x=true) (k:aaZ K (.ref f)=true):Src K mg x st:=⟨_,_,Hh l c k,aaY X G a⟩
theorem E9 {K:ZY}{h:Heap}{mg:Str->Option Value}{x d:Str}{st:Stmt}{od an Ym:Option Addr}{sl YR:Array (Option Value)}{oc kV dc pm cd ct Yl:Value}{f T:Addr}{tk:Tok}{nT:Nat}(X:K.In h)(G:h.Ns aaR mg)(a:acP K aaR x=some (some (.ref f)))
   (l:K.lookup f=some ⟨oc,od,.func (abo x x (fc st) (cU st) (ai st) (.ref T) kV dc pm an cd ct),sl⟩) (c:abK K cd x=true) (k:aaZ K (.ref f)=true) (lT:K.lookup T=some ⟨Yl,Ym,.seq #[.str d tk] nT,YR⟩):Dd K mg x st d:=⟨_,_,_,_,_,_,_,_,⟨⟨_,_,_,_,_,_,_,_,_,rfl,l,c⟩,k⟩,aaY X G a,lT⟩
structure KH (K:ZY)(mg:Str->Option Value):Prop where
 s_refuse_unknown:Src K mg "refuse_unknown" (top 16)
 s_all_known:Src K mg "all_known" (top 17)
 s_refuse_worths:Src K mg "refuse_worths" (top 18)
 s_box_sizes:Src K mg "box_sizes" (top 19)
 s_refuse_box_worths:Src K mg "refuse_box_worths" (top 20)
 s_worth_by:Src K mg "worth_by" (top 22)
 s_holds_by:Src K mg "holds_by" (top 23)
 s_step_at:Src K mg "step_at" (top 25)
 s_worths_put:Src K mg "worths_put" (top 26)
 s_input_sizes:Src K mg "input_sizes" (top 27)
 s_beginning_of:Src K mg "beginning_of" (top 28)
 s_run_of:Src K mg "run_of" (top 29)
 s_refuse_no_pair:Src K mg "refuse_no_pair" (top 31)
 s_known_between:Src K mg "known_between" (top 32)
 s_known_for_both:Src K mg "known_for_both" (top 33)
 s_sum_between:Src K mg "sum_between" (top 34)
 s_holds_between:Src K mg "holds_between" (top 35)
 s_runs_part:Src K mg "runs_part" (top 36)
 s_said_alike:Src K mg "said_alike" (top 37)
 s_numbers_that_settle:Src K mg "numbers_that_settle" (top 38)
 s_first_said:Src K mg "first_said" (top 39)
 s_law_cell_at:Src K mg "_law_cell_at" (top 41)
 s_law_numbers:Src K mg "_law_numbers" (top 42)
 s_law_sum:Src K mg "_law_sum" (top 43)
 s_law_condition:Src K mg "_law_condition" (top 44)
 s_law_node:Src K mg "_law_node" (top 45)
 s_law_boxes:Src K mg "_law_boxes" (top 46)
 s_law_program:Src K mg "_law_program" (top 47)
 s_law_renamed:Src K mg "_law_renamed" (top 48)
 s_law_node_as:Src K mg "_law_node_as" (top 49)
 s_law_made_over:Src K mg "_law_made_over" (top 50)
 s_law_skip:Src K mg "_law_skip" (top 51)
 s_law_copied:Src K mg "_law_copied" (top 52)
 s_law_kinds:Src K mg "_law_kinds" (top 53)
 s_law_asked:Src K mg "_law_asked" (top 54)
 s_law_parted:Src K mg "_law_parted" (top 55)
 s_law_spoilt:Src K mg "_law_spoilt" (top 56)
 s_law_wrong:Src K mg "_law_wrong" (top 57)
 s_law_are:Src K mg "_law_are" (top 58)
 s_law_sizes:Src K mg "_law_sizes" (top 59)
 s_law_input_sizes:Src K mg "_law_input_sizes" (top 60)
 s_law_due:Src K mg "_law_due" (top 61)
 s_law_thing:Src K mg "_law_thing" (top 62)
 s_law_named:Src K mg "_law_named" (top 63)
 s_law:Src K mg "law" (top 64)
 s_known_worths:Dd K mg "known_worths" (top 21) "box"
 c_PARTED:tN K mg "PARTED" ["plus","less","same","under","not","both"]
 c_NAMELESS:tN K mg "NAMELESS" ["number","yes"]
 cl:∃T aH aA az aN bf bg aR aS bA aT aU,Fp K mg T aH aA az aN bf bg aR aS bA aT aU
 m_len:mg "len"=none
 m_list:mg "list"=none
 m_range:mg "range"=none
 m_zip:mg "zip"=none
 m_dict:mg "dict"=none
 m_int:mg "int"=none
 m_isinstance:mg "isinstance"=none
 m_tuple:mg "tuple"=none
 m_max:mg "max"=none
 m_min:mg "min"=none
 m_sum:mg "sum"=none
 m_enumerate:mg "enumerate"=none
 m_all:mg "all"=none
 m_ValueError:mg "ValueError"=none
end TW
namespace TW
open PySem L2
section
variable {P:Program}{w:World}{K:ZY}{mg:Str->Option Value}{base:Heap}
abbrev jQ:Stmt:=top 22
def C9 (H:Hp)(a:Addr)(P:Str->Str->Prop)(W:Str->Str->Int):Prop:=∃kvs,H a=some (.dT kvs)/\∀t x,P t x->bE kvs [.inr t,.inr x]=some (.int (W t x))
def De (P:Str->Str->Prop):Prop:=∀t x,P t x->t="box"\/t="mine"\/t="yours"
def cy (n:Nat):Sp:=fun vs H Q _=>∃(a:Addr) (v:V) (e:E) (Pb:Str->Str->Prop) (W:Str->Str->Int),vs=[.ref a,v]/\C9 H a Pb W/\De Pb/\cE H v e/\e.fQ/\e.okIn Pb/\e.dep < n/\Q (.int (e.worth W)) H
theorem y9:aD ["known","sum_told"] ["known","sum_told"] (ai jQ):=⟨rfl,rfl,rfl,by decide +kernel,rfl,by decide +kernel,by decide +kernel⟩
theorem bZ:aY jQ "worth_by":=by decide +kernel
theorem Bw {n:Nat}{f:Addr}{fd:aaf}(F:dm K "worth_by" "worth_by" jQ f fd)(G:aX P w K mg base "worth_by" ["known","sum_told"] (n + 1) (cy n)) :
    aP P w K mg base cK (n + 2) f fd ["known","sum_told"] (cy (n + 1)):=by
 refine F.ok y9 (fun vs H Q E h=>?_) (fun cdv A outer s H vs Q E hr h=>?_)
 · obtain ⟨a,v,e,Pb,W,rfl,_⟩:=h
   rfl
 obtain ⟨a,v,e,Pb,W,rfl,kn,tg,ev,es,ok,hd,q⟩:=h
 refine ⟨_,aez (ad7 (ael (aek aeq (ad8 aei (ad4 1) ad6) aeb) (aea (aec (ad8 aei (ad4 1) ad6))) aem)
   (ad7 (ael (aek aeq (ad8 aei (ad4 1) ad6) aeb) (aea (aec (ad9 aey (aef G hr bZ (ad3 (ad4 0) (ad3 (ad8 aei (ad4 1) ad6) ad5))) (aef G hr bZ (ad3 (ad4 0) (ad3 (ad8 aei (ad4 1) ad6) ad5)))))) aem)
   (ad7 (ael (aek aeq (ad8 aei (ad4 1) ad6) aeb) (aea (aec (ad9 aeU (aef G hr bZ (ad3 (ad4 0) (ad3 (ad8 aei (ad4 1) ad6) ad5))) (aef G hr bZ (ad3 (ad4 0) (ad3 (ad8 aei (ad4 1) ad6) ad5)))))) aem)
   (aea (aec (aeZ (bP hr _ (by decide)) (ad4 0) (ad4 1))))))),?_⟩
 cases e with
 | num m=>
   obtain ⟨p,rfl,hp⟩:=ev
   refine ⟨_,rfl,p,_,_,_,rfl,rfl,aK.of hp,rfl,rfl,_,rfl,?_⟩
   refine aF (fun _=>?_) (fun c=>absurd (decide_eq_true rfl) c)
   exact ⟨_,rfl,p,_,_,_,rfl,rfl,aK.of hp,rfl,q⟩
 | box t x=>
   obtain ⟨p,rfl,hp⟩:=ev
   obtain ⟨kvs,hk,hv⟩:=kn
   have ht:=tg t x ok
   refine ⟨_,rfl,p,_,_,_,rfl,rfl,aK.of hp,rfl,rfl,_,rfl,?_⟩
   refine aF (fun c=>?_) (fun _=>?_)
   · have:=of_decide_eq_true c
     injection this with z
     subst z
     exact absurd ht (by decide)
   refine ⟨_,rfl,p,_,_,_,rfl,rfl,aK.of hp,rfl,rfl,_,rfl,?_⟩
   refine aF (fun c=>?_) (fun _=>?_)
   · have:=of_decide_eq_true c
     injection this with z
     subst z
     exact absurd ht (by decide)
   refine ⟨_,rfl,p,_,_,_,rfl,rfl,aK.of hp,rfl,rfl,_,rfl,?_⟩
   refine aF (fun c=>?_) (fun _=>?_)
   · have:=of_decide_eq_true c
     injection this with z
     subst z
     exact absurd ht (by decide)
   refine ⟨_,rfl,_,rfl,a,_,rfl,?_,q⟩
   have g:=fM.t (k:=[.inr t,.inr x]) hk hp
   rw [hv t x ok] at g
   exact g
 | yes=>exact es.elim
 | nt a=>exact es.elim
 | two k e1 e2=>
   obtain ⟨x,y,⟨p,rfl,hp⟩,ax,ay⟩:=ev
   have ow:max e1.dep e2.dep + 1 < n + 1:=hd
   cases k with
   | plus=>
     refine ⟨_,rfl,p,_,_,_,rfl,rfl,aK.of hp,rfl,rfl,_,rfl,?_⟩
     refine aF (fun c=>absurd (of_decide_eq_true c) (by decide)) (fun _=>?_)
     refine ⟨_,rfl,p,_,_,_,rfl,rfl,aK.of hp,rfl,rfl,_,rfl,?_⟩
     refine aF (fun _=>?_) (fun c=>absurd (decide_eq_true rfl) c)
     refine ⟨_,rfl,_,rfl,p,_,_,_,rfl,rfl,aK.of hp,rfl,a,x,e1,Pb,W,rfl,kn,tg,ax,es.1,ok.1,by omega,?_⟩
     refine ⟨_,rfl,_,rfl,p,_,_,_,rfl,rfl,aK.of hp,rfl,a,y,e2,Pb,W,rfl,kn,tg,ay,es.2,ok.2,by omega,?_⟩
     exact ⟨_,_,rfl,rfl,q⟩
   | less=>
     refine ⟨_,rfl,p,_,_,_,rfl,rfl,aK.of hp,rfl,rfl,_,rfl,?_⟩
     refine aF (fun c=>absurd (of_decide_eq_true c) (by decide)) (fun _=>?_)
     refine ⟨_,rfl,p,_,_,_,rfl,rfl,aK.of hp,rfl,rfl,_,rfl,?_⟩
     refine aF (fun c=>absurd (of_decide_eq_true c) (by decide)) (fun _=>?_)
     refine ⟨_,rfl,p,_,_,_,rfl,rfl,aK.of hp,rfl,rfl,_,rfl,?_⟩
     refine aF (fun _=>?_) (fun c=>absurd (decide_eq_true rfl) c)
     refine ⟨_,rfl,_,rfl,p,_,_,_,rfl,rfl,aK.of hp,rfl,a,x,e1,Pb,W,rfl,kn,tg,ax,es.1,ok.1,by omega,?_⟩
     refine ⟨_,rfl,_,rfl,p,_,_,_,rfl,rfl,aK.of hp,rfl,a,y,e2,Pb,W,rfl,kn,tg,ay,es.2,ok.2,by omega,?_⟩
     exact ⟨_,_,rfl,rfl,q⟩
   | same=>exact es.elim
   | under=>exact es.elim
   | both=>exact es.elim
theorem uU {f:Addr}{fd:aaf}:aP P w K mg base cK 1 f fd ["known","sum_told"] (cy 0):=by
 have no:∀vs H Q E,¬ cy 0 vs H Q E:=fun vs H Q E h=>by
   obtain ⟨_,_,_,_,_,_,_,_,_,_,_,h1,_⟩:=h
   omega
 exact ⟨fun vs H Q E h=>absurd h (no vs H Q E),fun A outer s H args us vs Q E _ _ _ _ h=>absurd h (no vs H Q E)⟩
theorem ye (s:Src K mg "worth_by" jQ):∀n:Nat,aX P w K mg base "worth_by" ["known","sum_told"] (n + 1) (cy n):=by
 obtain ⟨f,fd,F,m⟩:=s
 have b:=F.binds (ps:=["known","sum_told"]) fun _ _ _ _ _ _ us hl=>match us,hl with | [_,_],_=>rfl
 intro n
 have all:aP P w K mg base cK (n + 1) f fd ["known","sum_told"] (cy n):=by
   induction n with
   | zero=>exact uU
   | succ n ih=>exact Bw F ⟨f,fd,ih,F.kp,b,m⟩
 exact ⟨f,fd,all,F.kp,b,m⟩
theorem C9.same {H H':Hp}{a:Addr}{Pb:Str->Str->Prop}{W:Str->Str->Int}(h:C9 H a Pb W)(s:ag H H'):C9 H' a Pb W:=let ⟨kvs,e,v⟩:=h; ⟨kvs,s _ _ e,v⟩
theorem cE.same {H H':Hp}{v:V}{e:E}(h:cE H v e)(s:ag H H'):cE H' v e:=cE.keep (ag.tk s) h
abbrev sQ:Stmt:=top 18
abbrev qf:Stmt:=top 19
theorem Paired.Du {α β:Type}{F:α->β->Prop}{l₁:List α}{l₂:List β}{i:Nat}{x:α}{y:β}(h:Paired F l₁ l₂)(e1:l₁[i]? = some x)(e2:l₂[i]? = some y):F x y:=by
 obtain ⟨z,h1,h2⟩:=Paired.get h e1
 rw [e2] at h1
 cases h1
 exact h2
theorem df {α β:Type}{f:α->β}{l:List α}{i:Nat}{y:β}(h:(l.map f)[i]? = some y):∃x,l[i]? = some x/\y=f x:=by
 rw [aaq] at h
 obtain ⟨x,h1,h2⟩:=Option.map_eq_some_iff.mp h
 exact ⟨x,h1,h2.symm⟩
def Within (s w:Int):Prop:=0<=w/\w < s
def nN:Sp:=fun vs H Q _=>∃(sa wa:Addr) (szs ws:List Int),vs=[.ref sa,.ref wa]/\H sa=some (.lst (szs.map V.int))/\H wa=some (.lst (ws.map V.int))/\Paired Within szs ws/\∀H',ag H H'->Q .bN H'
theorem vw:aD ["sizes","worths","size","worth"] ["sizes","worths"] (ai sQ):=⟨rfl,rfl,rfl,by decide +kernel,rfl,by decide +kernel,by decide +kernel⟩
theorem oS:aY sQ "len":=by decide +kernel
theorem xS:aY sQ "zip":=by decide +kernel
theorem Em {f:Addr}{fd:aaf}(F:dm K "refuse_worths" "refuse_worths" sQ f fd)(m_len:mg "len"=none)(m_zip:mg "zip"=none):aP P w K mg base cK 1 f fd ["sizes","worths"] nN:=by
 refine F.ok vw (fun vs H Q E h=>?_) (fun cdv A outer s H vs Q E hr h=>?_)
 · obtain ⟨sa,wa,szs,ws,rfl,_⟩:=h
   rfl
 obtain ⟨sa,wa,szs,ws,rfl,hs,hw,pw,q⟩:=h
 refine ⟨_,aez (ad7 (ael (aek L3.yG (aep aer oS m_len aad (ad3 (ad4 1) ad5)) (aep aer oS m_len aad (ad3 (ad4 0) ad5))) ae4 aem)
   (aea (aeJ (L3.iZ xS m_zip (ad3 (ad4 0) (ad3 (ad4 1) ad5))) (aes 2 (aej (aee 2 vw.nd) (aej (aee 3 vw.nd) aet))) (aea (ael (aeL (aeQ (aek aeC (ad4 3) ad6) (aeR (aek L3.Ik (ad4 3) (ad4 2))))) ae4 aem))))),?_⟩
 have hl:szs.length=ws.length:=Paired.length pw
 have FJ:(szs.map V.int).length=(ws.map V.int).length:=by rw [ZX,ZX]; exact hl
 refine ⟨_,rfl,wa,_,rfl,.inl (ao.of hw),_,rfl,sa,_,rfl,.inl (ao.of hs),rfl,_,rfl,?_⟩
 refine aF (fun c=>?_) (fun _=>?_)
 · rw [FJ,decide_eq_true rfl] at c
   exact absurd c (by decide)
 refine ⟨_,rfl,_,rfl,sa,wa,rfl,⟨_,ao.of hs⟩,⟨_,ao.of hw⟩,?_⟩
 refine wg (xs:=szs.map V.int) (ys:=ws.map V.int) FJ (fun i σ H2=>(∃v1 v2,σ=[some (.ref sa),some (.ref wa),v1,v2])/\ag H H2) ⟨⟨_,_,rfl⟩,same_refl _⟩ (fun i σ H2 _ z=>⟨ao.of (z.2 _ _ hs),ao.of (z.2 _ _ hw)⟩) (fun i x y p σ H2 hx hy z hp=>?_) (fun σ H2 z=>?_)
 · obtain ⟨⟨v1,v2,rfl⟩,z⟩:=z
   obtain ⟨s0,e1,rfl⟩:=df hx
   obtain ⟨w0,e2,rfl⟩:=df hy
   obtain ⟨g0,g1⟩:=Paired.Du pw e1 e2
   refine ⟨p,_,rfl,aK.of ae,rfl,_,_,rfl,_,_,rfl,rfl,?_⟩
   refine ⟨_,rfl,_,_,rfl,rfl,_,rfl,?_⟩
   refine aF (fun c=>absurd (of_decide_eq_true c) (by omega)) (fun _=>?_)
   refine ⟨_,rfl,_,rfl,_,_,rfl,rfl,_,rfl,?_⟩
   refine aF (fun c=>absurd (of_decide_eq_true c) (by omega)) (fun _=>?_)
   exact ⟨⟨_,_,rfl⟩,aa z (af hp _)⟩
 · exact q _ z.2
theorem An (s:Src K mg "refuse_worths" sQ)(m_len:mg "len"=none)(m_zip:mg "zip"=none):aX P w K mg base "refuse_worths" ["sizes","worths"] 1 nN:=
 let ⟨f,fd,F,m⟩:=s
 ⟨f,fd,Em F m_len m_zip,F.kp,F.binds fun _ _ _ _ _ _ us hl=>match us,hl with | [_,_],_=>rfl,m⟩
def qG (H:Hp)(v:V)(bs:List (Str×Int)):Prop:=∃p B I N vb,v=.ref p/\H p=some (.tup [.ref B,I,N])/\H B=some (.lst vb)/\Paired (bG H) vb bs
theorem qG.same {H H':Hp}{v:V}{bs:List (Str×Int)}(h:qG H v bs)(s:ag H H'):qG H' v bs:=
 let ⟨p,B,I,N,vb,e,h1,h2,h3⟩:=h; ⟨p,B,I,N,vb,e,s _ _ h1,s _ _ h2,Paired.aZ h3 fun _ _ z=>Tp.keep (ag.tk s) z⟩
def dS:Sp:=fun vs H Q _=>∃(v:V) (bs:List (Str×Int)),vs=[v]/\qG H v bs/\bs.length<=900/\∀l,H l=none->Q (.ref l) (upd H l (.lst ((bs.map (·.2)).map V.int)))
theorem E7:aD ["program"] ["program"] (ai qf):=⟨rfl,rfl,rfl,by decide +kernel,rfl,by decide +kernel,by decide +kernel⟩
theorem Bn {f:Addr}{fd:aaf}(F:dm K "box_sizes" "box_sizes" qf f fd):aP P w K mg base cK 1 f fd ["program"] dS:=by
 refine F.ok E7 (fun vs H Q E h=>?_) (fun cdv A outer s H vs Q E hr h=>?_)
 · obtain ⟨v,bs,rfl,_⟩:=h
   rfl
 obtain ⟨v,bs,rfl,⟨p,B,I,N,vb,rfl,hp,hB,pb⟩,Hm,q⟩:=h
 refine ⟨_,aez (aea (aec (aeB [none,none] ["name","size"] (show aE _ (ai qf) from ⟨rfl,by decide +kernel,by decide +kernel,by decide +kernel⟩) (by rfl) (aeA (ad8 aei (ad4 0) ad6)) (fun _ _ _ _ _=>⟨(aes 2 (aej (aee 0 (show (["name","size"]:List Str).Nodup from by decide +kernel)) (aej (aee 1 (show (["name","size"]:List Str).Nodup from by decide +kernel)) aet))),aev,(ad4 1)⟩)))),?_⟩
 have kX:vb.length=bs.length:=Paired.length pb
 refine ⟨_,rfl,p,_,_,_,rfl,rfl,aK.of hp,rfl,B,rfl,⟨_,ao.of hB⟩,fun na jv=>?_⟩
 have Ic:B≠na:=ah hB jv
 refine bj (xs:=vb) (fun i H2=>H2=upd H na (.lst ((bs.take i).map fun b=>V.int b.2))) rfl (fun i H2 _ e=>?_) (fun i x H2 hx e=>?_) (fun H2 e=>?_)
 · subst e
   exact ao.of (by rw [aj Ic]; exact hB)
 · subst e
   obtain ⟨b,fP,p,rfl,hp⟩:=Paired.get pb hx
   have dP:i < vb.length:=(List.getElem?_eq_some_iff.mp hx).1
   refine ⟨p,_,rfl,aK.of (by rw [aj (ah hp jv)]; exact hp),rfl,_,_,rfl,_,_,rfl,rfl,?_⟩
   refine bU (A:=fun H3=>de (Cv 1) na _ H3 _) ⟨_,rfl,_,ae,aB (by rw [ZX,aak]; omega),aL (Pv:=fun i H2=>H2=upd H na (.lst ((bs.take i).map fun b=>V.int b.2))) (by repeat' constructor) dP ?_⟩
   rw [bS]
   congr 2
   rw [Z9,fP,Z5]
   rfl
 · subst e
   have et:(bs.take vb.length).map (fun b=>V.int b.2)=(bs.map (·.2)).map V.int:=by rw [kX,aao,aa9]; rfl
   rw [et]
   exact q na jv
theorem xX (s:Src K mg "box_sizes" qf)  : aX P w K mg base "box_sizes" ["program"] 1 dS:=
 let ⟨f,fd,F,m⟩:=s
 ⟨f,fd,Bn F ,F.kp,F.binds fun _ _ _ _ _ _ us hl=>match us,hl with | [_],_=>rfl,m⟩
abbrev gT:Stmt:=top 21
def oF:List (Str×Int)->List Int->Str->Int
 | b :: bs,w :: ws,x=>if b.1=x then w else oF bs ws x
 | _,_,_=>0
def bR (side:Str):List (Str×Int)->List Int->List (List Key×V)
 | b :: bs,w :: ws=>([.inr side,.inr b.1],.int w) :: bR side bs ws
 | _,_=>[]
theorem gQ (side:Str):∀(bs:List (Str×Int)) (ws:List Int),(bR side bs ws).length<=bs.length
 | [],_=>by simp [bR]
 | _ :: _,[]=>by simp [bR]
 | _ :: bs,_ :: ws=>by simp [bR]; exact gQ side bs ws
theorem dU (side:Str):∀(bs:List (Str×Int)) (ws:List Int) (x:Str),bs.length=ws.length->x∈bs.map (·.1)->bE (bR side bs ws) [.inr side,.inr x]=some (.int (oF bs ws x))
 | [],_,_,_,h=>by simp at h
 | _ :: _,[],_,h,_=>by simp at h
 | b :: bs,w :: ws,x,hl,hx=>by
   show bE (([.inr side,.inr b.1],V.int w) :: bR side bs ws) _=some (.int (if b.1=x then w else oF bs ws x))
   by_cases e:b.1=x
   · rw [if_pos e,bM (p:=(([.inr side,.inr b.1]:List Key),V.int w)) (by rw [← e])]
   · rw [if_neg e,bB (p:=(([.inr side,.inr b.1]:List Key),V.int w)) (fun z=>by injection z with _ z; injection z with z _; injection z with z; exact e z)]
     refine dU side bs ws x (by simpa using hl) ?_
     rcases List.mem_cons.mp hx with z | z
     · exact absurd z.symm e
     · exact z
theorem dv (side:Str):∀(bs:List (Str×Int)) (ws:List Int) (s x:Str),(s=side->x ∉ bs.map (·.1))->bE (bR side bs ws) [.inr s,.inr x]=none
 | [],_,_,_,_=>rfl
 | _ :: _,[],_,_,_=>rfl
 | b :: bs,w :: ws,s,x,h=>by
   show bE (([.inr side,.inr b.1],V.int w) :: bR side bs ws) _=none
   rw [bB (p:=(([.inr side,.inr b.1]:List Key),V.int w)) (fun z=>by injection z with z1 z; injection z1 with z1; injection z with z _; injection z with z; exact h z1.symm (List.mem_cons.mpr (.inl z.symm)))]
   exact dv side bs ws s x fun e z=>h e (List.mem_cons.mpr (.inr z))
theorem se {κ:Type}[DecidableEq κ]{kvs:List (κ×V)}{k:κ}{v:V}(h:bE kvs k=none):putK kvs k v=kvs++[(k,v)]:=by
 unfold putK
 rw [gM,h]
 rfl
theorem ng (side:Str):∀(bs:List (Str×Int)) (ws:List Int) (b:Str×Int) (w:Int),bs.length=ws.length->bR side (bs++[b]) (ws++[w])=bR side bs ws++[([.inr side,.inr b.1],.int w)]
 | [],[],_,_,_=>rfl
 | [],_ :: _,_,_,h=>by simp at h
 | _ :: _,[],_,_,h=>by simp at h
 | b :: bs,w :: ws,c,v,h=>by
   show _ :: bR side (bs++[c]) (ws++[v])=_
   rw [ng side bs ws c v (by simpa using h)]
   rfl
theorem D8 {bs:List (Str×Int)}(nd:(bs.map (·.1)).Nodup){i:Nat}{b:Str×Int}(h:bs[i]? = some b):b.1 ∉ (bs.take i).map (·.1):=by
 intro z
 have hi:i < bs.length:=(List.getElem?_eq_some_iff.mp h).1
 have e:bs[i]=b:=(List.getElem?_eq_some_iff.mp h).2
 obtain ⟨c,hc,e2⟩:=List.mem_map.mp z
 obtain ⟨j,hj,e3⟩:=ab0 hc
 have W2:j < i:=by rw [aak] at hj; omega
 rw [List.getElem_take] at e3
 have k1:(bs.map (·.1))[j]'(by rw [ZX]; omega)=(bs.map (·.1))[i]'(by rw [ZX]; omega):=by
   rw [List.getElem_map,List.getElem_map,e3,e,e2]
 exact (List.pairwise_iff_getElem.mp nd) j i _ _ W2 k1
def dk:Sp:=fun vs H Q _=>∃(v:V) (wa:Addr) (side:Str) (bs:List (Str×Int)) (ws:List Int),vs=[v,.ref wa,.str side]/\qG H v bs/\(bs.map (·.1)).Nodup/\bs.length<=900/\H wa=some (.lst (ws.map V.int))/\bs.length=ws.length /\
 ∀D H',H D=none->ag H H'->H' D=some (.dT (bR side bs ws))->Q (.ref D) H'
theorem Ca:aD ["program","worths","side"] ["program","worths","side"] (ai gT):=⟨rfl,rfl,rfl,by decide +kernel,rfl,by decide +kernel,by decide +kernel⟩
theorem rh:aY gT "zip":=by decide +kernel
theorem pd {f:Addr}{fd:aaf}{dV:Value}(F:C6 K "known_worths" "known_worths" gT dV f fd)(m_zip:mg "zip"=none):aP P w K mg base cK 1 f fd ["program","worths","side"] dk:=by
 refine F.ok Ca (fun vs H Q E h=>?_) (fun cdv A outer s H vs Q E hr h=>?_)
 · obtain ⟨v,wa,side,bs,ws,rfl,_⟩:=h
   rfl
 obtain ⟨v,wa,side,bs,ws,rfl,⟨p,B,I,N,vb,rfl,hp,hB,pb⟩,nd,Hm,hw,hlen,q⟩:=h
 refine ⟨_,aez (aea (aec (L3.Vl [none,none,none,some 2] ["name","size","worth","side"] (bP hr _ (by decide)) (show aE _ (ai gT) from ⟨rfl,by decide +kernel,by decide +kernel,by decide +kernel⟩) (by rfl) (L3.iZ rh m_zip (ad3 (ad8 aei (ad4 0) ad6) (ad3 (ad4 1) ad5))) (fun _ _ _ _ _=>⟨(aes 2 (aej (aes 2 (aej (aee 0 (show (["name","size","worth","side"]:List Str).Nodup from by decide +kernel)) (aej (aee 1 (show (["name","size","worth","side"]:List Str).Nodup from by decide +kernel)) aet))) (aej (aee 2 (show (["name","size","worth","side"]:List Str).Nodup from by decide +kernel)) aet))),aev,(aed (ad3 (ad4 3) (ad3 (ad4 0) ad5))),(ad4 2)⟩)))),?_⟩
 have kX:vb.length=bs.length:=Paired.length pb
 have FJ:vb.length=(ws.map V.int).length:=by rw [ZX]; omega
 refine ⟨_,rfl,p,_,_,_,rfl,rfl,aK.of hp,rfl,_,rfl,B,wa,rfl,⟨_,ao.of hB⟩,⟨_,ao.of hw⟩,fun D hD=>?_⟩
 have nB:B≠D:=ah hB hD
 have nw:wa≠D:=ah hw hD
 refine qV (xs:=vb) (ys:=ws.map V.int) FJ (fun i H2=>(∀b o,H b=some o->H2 b=some o)/\H2 D=some (.dT (bR side (bs.take i) (ws.take i)))) ⟨af hD _,ae⟩ (fun i H2 _ z=>⟨ao.of (z.1 _ _ hB),ao.of (z.1 _ _ hw)⟩) (fun i x y pr H2 hx hy z FO=>?_) (fun H2 z=>?_)
 · obtain ⟨z,ug⟩:=z
   obtain ⟨b,fP,pp,rfl,wo⟩:=Paired.get pb hx
   obtain ⟨w0,Qy,rfl⟩:=df hy
   have dP:i < vb.length:=(List.getElem?_eq_some_iff.mp hx).1
   have AQ:=z _ _ wo
   refine ⟨pr,_,rfl,aK.of ae,rfl,_,_,rfl,⟨pp,_,rfl,aK.of (by rw [aj (ah AQ FO)]; exact AQ),rfl,_,_,rfl,_,_,rfl,rfl,_,_,rfl,rfl,?_⟩⟩
   refine bU (A:=fun H3=>D6 _ _ D _ H3 _) ?_
   refine ⟨_,rfl,_,rfl,agd,fun kp Lr=>⟨_,rfl,?_⟩⟩
   have Yd:D≠kp:=ah (show (upd H2 pr _) D=some _ by rw [aj (ah ug FO)]; exact ug) Lr
   have NJ:(upd (upd H2 pr (.tup [.ref pp,.int w0])) kp (.tup [.str side,.str b.1])) D=some (.dT (bR side (bs.take i) (ws.take i))):=by
     rw [aj Yd,aj (ah ug FO)]; exact ug
   have DL:=gQ side (bs.take i) (ws.take i)
   have Zp:(bs.take i).length<=bs.length:=by rw [aak]; omega
   refine ⟨_,mj.t (k:=[.inr side,.inr b.1]) NJ ae (aB (by omega)),aL (Pv:=fun i H2=>(∀b o,H b=some o->H2 b=some o)/\H2 D=some (.dT (bR side (bs.take i) (ws.take i)))) (by repeat' constructor) dP ⟨fun c o hc=>?_,?_⟩⟩
   · have Lj:=z c o hc
     have n1:c≠D:=ah hc hD
     have DF:(upd H2 pr (.tup [.ref pp,.int w0])) c=some o:=by rw [aj (ah Lj FO)]; exact Lj
     rw [aj n1,aj (ah DF Lr)]
     exact DF
   · rw [ae,se (dv side _ _ _ _ fun _=>D8 nd fP),Z9,Z9,fP,Qy]
     show _=some (HO.dT (bR side (bs.take i++[b]) (ws.take i++[w0])))
     rw [ng side _ _ b w0 (by rw [aak,aak]; omega)]
 · obtain ⟨z,ug⟩:=z
   rw [kX,aao,hlen,aao] at ug
   exact q D H2 hD z ug
def qH (P:Program)(w:World)(K:ZY)(mg:Str->Option Value)(base:Heap)(x:Str)(ps:List Str)(k:Nat)(sp:Sp)(d:Str):Prop:=
 ∃f fd tk,aP P w K mg base cK k f fd ps sp/\aaZ K (.ref f)=true/\Binds K fd ps [.str d tk]/\mg x=some (.ref f)
theorem ui (s:Dd K mg "known_worths" gT "box")(m_zip:mg "zip"=none):qH P w K mg base "known_worths" ["program","worths","side"] 1 dk "box":=by
 obtain ⟨f,fd,T,tk,oc,od,n,sl,F,m,lT⟩:=s
 refine ⟨f,fd,tk,pd F m_zip,F.kp,?_,m⟩
 obtain ⟨oc,od,kV,doc,pm,an,cdv,ct,osl,rfl,lk,hcd⟩:=F.ex
 intro s us kin hl
 have h2:us.length=2:=by simpa using hl
 match us,h2 with
 | [u1,u2],_=>exact adJ rfl (kin _ _ lT) rfl rfl rfl
theorem qH.mono {x:Str}{ps:List Str}{j k:Nat}{sp:Sp}{d:Str}(h:qH P w K mg base x ps j sp d)(hk:j<=k):qH P w K mg base x ps k sp d:=
 let ⟨f,fd,tk,a,b,c,e⟩:=h; ⟨f,fd,tk,a.mono hk,b,c,e⟩
theorem Q6 {X:Cx}{x:Str}{d:Str}{p pos:Pos}{ps:List Str}{kk:Nat}{sp:Sp}{e:Expr}{es:List Expr}{t:TA}(D:qH X.prog X.w X.K X.mg X.base x ps kk sp d)(hr:dn kk X.A)(hg:Gl X x)(ha:L3.SA X (e :: es) t)(hdb:(x == ("__debug__":Str))=false:=by decide) :
   L3.SE X (.Call (.Name x p) (e :: es) [] pos) (nS sp [.str d] E0 t):=
 let ⟨_,_,tk,G,kp,b,m⟩:=D
 ⟨qc G hr hg m kp b (.cons ⟨tk,rfl⟩ .nil) F9 ha.h.pa hdb ((ha.h.ns e es rfl).1.h es X.env) ((ha.h.ns e es rfl).2 pos X.env)⟩
abbrev Ny (bs:List (Str×Int)):Str->Str->Prop:=fun t y=>t="box"/\y∈bs.map (·.1)
theorem my (bs:List (Str×Int)):De (Ny bs):=fun t _ h=>.inl h.1
abbrev gB:Stmt:=top 23
def di (n:Nat):Sp:=fun vs H Q _=>∃(a:Addr) (v:V) (e:E) (Pb:Str->Str->Prop) (W:Str->Str->Int),vs=[.ref a,v]/\C9 H a Pb W/\De Pb/\cE H v e/\e.gP/\e.okIn Pb/\e.dep < n/\Q (.bl (e.holds W)) H
theorem y6:aD ["known","condition"] ["known","condition"] (ai gB):=⟨rfl,rfl,rfl,by decide +kernel,rfl,by decide +kernel,by decide +kernel⟩
theorem bY:aY gB "worth_by":=by decide +kernel
theorem cV:aY gB "holds_by":=by decide +kernel
theorem Bq {n:Nat}{f:Addr}{fd:aaf}(F:dm K "holds_by" "holds_by" gB f fd)(WB:∀n,aX P w K mg base "worth_by" ["known","sum_told"] (n + 1) (cy n))(G:aX P w K mg base "holds_by" ["known","condition"] (n + 2) (di n)) :
    aP P w K mg base cK (n + 3) f fd ["known","condition"] (di (n + 1)):=by
 refine F.ok y6 (fun vs H Q E h=>?_) (fun cdv A outer s H vs Q E hr h=>?_)
 · obtain ⟨a,v,e,Pb,W,rfl,_⟩:=h
   rfl
 obtain ⟨a,v,e,Pb,W,rfl,kn,tg,ev,es,ok,hd,q⟩:=h
 have W1:=(WB n).mono (show n + 1<=n + 2 by omega)
 refine ⟨_,aez (ad7 (ael (aek aeq (ad8 aei (ad4 1) ad6) aeb) (aea (aec aex)) aem)
   (ad7 (ael (aek aeq (ad8 aei (ad4 1) ad6) aeb) (aea (aec (aeE aeq (aef W1 hr bY (ad3 (ad4 0) (ad3 (ad8 aei (ad4 1) ad6) ad5))) (aef W1 hr bY (ad3 (ad4 0) (ad3 (ad8 aei (ad4 1) ad6) ad5)))))) aem)
   (ad7 (ael (aek aeq (ad8 aei (ad4 1) ad6) aeb) (aea (aec (aeE aeC (aef W1 hr bY (ad3 (ad4 0) (ad3 (ad8 aei (ad4 1) ad6) ad5))) (aef W1 hr bY (ad3 (ad4 0) (ad3 (ad8 aei (ad4 1) ad6) ad5)))))) aem)
   (ad7 (ael (aek aeq (ad8 aei (ad4 1) ad6) aeb) (aea (aec (L3.Yi (aef G hr cV (ad3 (ad4 0) (ad3 (ad8 aei (ad4 1) ad6) ad5)))))) aem)
   (aea (aec (L3.KI (aef G hr cV (ad3 (ad4 0) (ad3 (ad8 aei (ad4 1) ad6) ad5))) (L3.Q4 (aef G hr cV (ad3 (ad4 0) (ad3 (ad8 aei (ad4 1) ad6) ad5))))))))))),?_⟩
 cases e with
 | num m=>exact es.elim
 | box t x=>exact es.elim
 | yes=>
   obtain ⟨p,rfl,hp⟩:=ev
   refine ⟨_,rfl,p,_,_,_,rfl,rfl,aK.of hp,rfl,rfl,_,rfl,?_⟩
   refine aF (fun _=>?_) (fun c=>absurd (decide_eq_true rfl) c)
   exact q
 | nt e1=>
   obtain ⟨x,⟨p,rfl,hp⟩,ax⟩:=ev
   have ow:e1.dep + 1 < n + 1:=hd
   refine ⟨_,rfl,p,_,_,_,rfl,rfl,aK.of hp,rfl,rfl,_,rfl,?_⟩
   refine aF (fun c=>absurd (of_decide_eq_true c) (by decide)) (fun _=>?_)
   refine ⟨_,rfl,p,_,_,_,rfl,rfl,aK.of hp,rfl,rfl,_,rfl,?_⟩
   refine aF (fun c=>absurd (of_decide_eq_true c) (by decide)) (fun _=>?_)
   refine ⟨_,rfl,p,_,_,_,rfl,rfl,aK.of hp,rfl,rfl,_,rfl,?_⟩
   refine aF (fun c=>absurd (of_decide_eq_true c) (by decide)) (fun _=>?_)
   refine ⟨_,rfl,p,_,_,_,rfl,rfl,aK.of hp,rfl,rfl,_,rfl,?_⟩
   refine aF (fun _=>?_) (fun c=>absurd (decide_eq_true rfl) c)
   exact ⟨_,rfl,_,rfl,p,_,_,_,rfl,rfl,aK.of hp,rfl,a,x,e1,Pb,W,rfl,kn,tg,ax,es,ok,by omega,_,rfl,q⟩
 | two k e1 e2=>
   obtain ⟨x,y,⟨p,rfl,hp⟩,ax,ay⟩:=ev
   have ow:max e1.dep e2.dep + 1 < n + 1:=hd
   cases k with
   | plus=>exact es.elim
   | less=>exact es.elim
   | same=>
     refine ⟨_,rfl,p,_,_,_,rfl,rfl,aK.of hp,rfl,rfl,_,rfl,?_⟩
     refine aF (fun c=>absurd (of_decide_eq_true c) (by decide)) (fun _=>?_)
     refine ⟨_,rfl,p,_,_,_,rfl,rfl,aK.of hp,rfl,rfl,_,rfl,?_⟩
     refine aF (fun _=>?_) (fun c=>absurd (decide_eq_true rfl) c)
     refine ⟨_,rfl,_,rfl,p,_,_,_,rfl,rfl,aK.of hp,rfl,a,x,e1,Pb,W,rfl,kn,tg,ax,es.1,ok.1,by omega,?_⟩
     refine ⟨_,rfl,_,rfl,p,_,_,_,rfl,rfl,aK.of hp,rfl,a,y,e2,Pb,W,rfl,kn,tg,ay,es.2,ok.2,by omega,?_⟩
     have eq:decide (V.int (e1.worth W)=V.int (e2.worth W))=decide (e1.worth W=e2.worth W):=decide_eq_decide.mpr ⟨fun z=>by injection z,fun z=>by rw [z]⟩
     refine ⟨rfl,?_⟩
     rw [eq]
     exact q
   | under=>
     refine ⟨_,rfl,p,_,_,_,rfl,rfl,aK.of hp,rfl,rfl,_,rfl,?_⟩
     refine aF (fun c=>absurd (of_decide_eq_true c) (by decide)) (fun _=>?_)
     refine ⟨_,rfl,p,_,_,_,rfl,rfl,aK.of hp,rfl,rfl,_,rfl,?_⟩
     refine aF (fun c=>absurd (of_decide_eq_true c) (by decide)) (fun _=>?_)
     refine ⟨_,rfl,p,_,_,_,rfl,rfl,aK.of hp,rfl,rfl,_,rfl,?_⟩
     refine aF (fun _=>?_) (fun c=>absurd (decide_eq_true rfl) c)
     refine ⟨_,rfl,_,rfl,p,_,_,_,rfl,rfl,aK.of hp,rfl,a,x,e1,Pb,W,rfl,kn,tg,ax,es.1,ok.1,by omega,?_⟩
     refine ⟨_,rfl,_,rfl,p,_,_,_,rfl,rfl,aK.of hp,rfl,a,y,e2,Pb,W,rfl,kn,tg,ay,es.2,ok.2,by omega,?_⟩
     exact ⟨_,_,rfl,rfl,q⟩
   | both=>
     refine ⟨_,rfl,p,_,_,_,rfl,rfl,aK.of hp,rfl,rfl,_,rfl,?_⟩
     refine aF (fun c=>absurd (of_decide_eq_true c) (by decide)) (fun _=>?_)
     refine ⟨_,rfl,p,_,_,_,rfl,rfl,aK.of hp,rfl,rfl,_,rfl,?_⟩
     refine aF (fun c=>absurd (of_decide_eq_true c) (by decide)) (fun _=>?_)
     refine ⟨_,rfl,p,_,_,_,rfl,rfl,aK.of hp,rfl,rfl,_,rfl,?_⟩
     refine aF (fun c=>absurd (of_decide_eq_true c) (by decide)) (fun _=>?_)
     refine ⟨_,rfl,p,_,_,_,rfl,rfl,aK.of hp,rfl,rfl,_,rfl,?_⟩
     refine aF (fun c=>absurd (of_decide_eq_true c) (by decide)) (fun _=>?_)
     refine ⟨_,rfl,_,rfl,p,_,_,_,rfl,rfl,aK.of hp,rfl,a,x,e1,Pb,W,rfl,kn,tg,ax,es.1,ok.1,by omega,_,rfl,?_⟩
     have q':Q (.bl (e1.holds W && e2.holds W)) H:=q
     refine aF (fun c=>?_) (fun c=>?_)
     · refine ⟨_,rfl,_,rfl,p,_,_,_,rfl,rfl,aK.of hp,rfl,a,y,e2,Pb,W,rfl,kn,tg,ay,es.2,ok.2,by omega,?_⟩
       rw [c,Bool.true_and] at q'
       exact q'
     · rw [Bool.eq_false_iff.mpr c,adt] at q'
       exact q'
theorem uS {f:Addr}{fd:aaf}:aP P w K mg base cK 2 f fd ["known","condition"] (di 0):=by
 have no:∀vs H Q E,¬ di 0 vs H Q E:=fun vs H Q E h=>by
   obtain ⟨_,_,_,_,_,_,_,_,_,_,_,h1,_⟩:=h
   omega
 exact ⟨fun vs H Q E h=>absurd h (no vs H Q E),fun A outer s H args us vs Q E _ _ _ _ h=>absurd h (no vs H Q E)⟩
theorem x8 (s:Src K mg "holds_by" gB)(WB:∀n,aX P w K mg base "worth_by" ["known","sum_told"] (n + 1) (cy n)):∀n:Nat,aX P w K mg base "holds_by" ["known","condition"] (n + 2) (di n):=by
 obtain ⟨f,fd,F,m⟩:=s
 have b:=F.binds (ps:=["known","condition"]) fun _ _ _ _ _ _ us hl=>match us,hl with | [_,_],_=>rfl
 intro n
 have all:aP P w K mg base cK (n + 2) f fd ["known","condition"] (di n):=by
   induction n with
   | zero=>exact uS
   | succ n ih=>exact Bq F WB ⟨f,fd,ih,F.kp,b,m⟩
 exact ⟨f,fd,all,F.kp,b,m⟩
abbrev sS:Stmt:=top 26
abbrev eK:Stmt:=top 25
def jL (bs:List (Str×Int))(ws:List Int)(x:Str)(t:Int):List Int:=List.zipWith (fun b w=>if b.1=x then t % b.2 else w) bs ws
theorem BR {bs:List (Str×Int)}{ws:List Int}{x:Str}{t:Int}{i:Nat}{b:Str×Int}{w:Int}(h1:bs[i]? = some b)(h2:ws[i]? = some w):(jL bs ws x t)[i]? = some (if b.1=x then t % b.2 else w):=by
 unfold jL
 rw [List.getElem?_zipWith,h1,h2]
theorem sf {bs:List (Str×Int)}{ws:List Int}{x:Str}{t:Int}(h:bs.length=ws.length):(jL bs ws x t).length=bs.length:=by
 unfold jL
 rw [List.length_zipWith]
 omega
def nQ:Sp:=fun vs H Q _=>∃(v:V) (wa:Addr) (x:Str) (t:Int) (bs:List (Str×Int)) (ws:List Int),vs=[v,.ref wa,.str x,.int t]/\qG H v bs/\bs.length<=900/\(∀b∈bs,1<=b.2)/\H wa=some (.lst (ws.map V.int))/\bs.length=ws.length /\
 ∀l H',H l=none->ag H H'->H' l=some (.lst ((jL bs ws x t).map V.int))->Q (.ref l) H'
theorem JJ:aD ["program","worths","put_name","told"] ["program","worths","put_name","told"] (ai sS):=⟨rfl,rfl,rfl,by decide +kernel,rfl,by decide +kernel,by decide +kernel⟩
theorem xU:aY sS "zip":=by decide +kernel
theorem Er {f:Addr}{fd:aaf}(F:dm K "worths_put" "worths_put" sS f fd)(m_zip:mg "zip"=none):aP P w K mg base cK 1 f fd ["program","worths","put_name","told"] nQ:=by
 refine F.ok JJ (fun vs H Q E h=>?_) (fun cdv A outer s H vs Q E hr h=>?_)
 · obtain ⟨v,wa,x,t,bs,ws,rfl,_⟩:=h
   rfl
 obtain ⟨v,wa,x,t,bs,ws,rfl,⟨p,B,I,N,vb,rfl,hp,hB,pb⟩,Hm,sz,hw,hlen,q⟩:=h
 refine ⟨_,aez (aea (aec (aeB [none,none,none,some 2,some 3] ["name","size","worth","put_name","told"] (show aE _ (ai sS) from ⟨rfl,by decide +kernel,by decide +kernel,by decide +kernel⟩) (by rfl) (L3.iZ xU m_zip (ad3 (ad8 aei (ad4 0) ad6) (ad3 (ad4 1) ad5))) (fun _ _ _ _ _=>⟨(aes 2 (aej (aes 2 (aej (aee 0 (show (["name","size","worth","put_name","told"]:List Str).Nodup from by decide +kernel)) (aej (aee 1 (show (["name","size","worth","put_name","told"]:List Str).Nodup from by decide +kernel)) aet))) (aej (aee 2 (show (["name","size","worth","put_name","told"]:List Str).Nodup from by decide +kernel)) aet))),aev,(L3.TJ (aek aeq (ad4 0) (ad4 3)) (ad9 aeo (ad4 4) (ad4 1)) (ad4 2))⟩)))),?_⟩
 have kX:vb.length=bs.length:=Paired.length pb
 have FJ:vb.length=(ws.map V.int).length:=by rw [ZX]; omega
 refine ⟨_,rfl,p,_,_,_,rfl,rfl,aK.of hp,rfl,_,rfl,B,wa,rfl,⟨_,ao.of hB⟩,⟨_,ao.of hw⟩,fun D hD=>?_⟩
 refine qV (xs:=vb) (ys:=ws.map V.int) FJ (fun i H2=>(∀b o,H b=some o->H2 b=some o)/\H2 D=some (.lst (((jL bs ws x t).take i).map V.int))) ⟨af hD _,ae⟩ (fun i H2 _ z=>⟨ao.of (z.1 _ _ hB),ao.of (z.1 _ _ hw)⟩) (fun i x0 y0 pr H2 hx hy z FO=>?_) (fun H2 z=>?_)
 · obtain ⟨z,ug⟩:=z
   obtain ⟨b,fP,pp,rfl,wo⟩:=Paired.get pb hx
   obtain ⟨w0,Qy,rfl⟩:=df hy
   have dP:i < vb.length:=(List.getElem?_eq_some_iff.mp hx).1
   have AQ:=z _ _ wo
   have lL:=sz b (aab fP)
   have hg:=BR (x:=x) (t:=t) fP Qy
   have P4:((jL bs ws x t).take i).length<=900:=by rw [aak,sf hlen]; omega
   have NJ:(upd H2 pr (.tup [.ref pp,.int w0])) D=some (.lst (((jL bs ws x t).take i).map V.int)):=by rw [aj (ah ug FO)]; exact ug
   have keep:∀u,∀c o,H c=some o->(upd (upd H2 pr (.tup [.ref pp,.int w0])) D u) c=some o:=fun u c o hc=>by
     have Lj:=z c o hc
     rw [aj (ah hc hD),aj (ah Lj FO)]
     exact Lj
   refine ⟨pr,_,rfl,aK.of ae,rfl,_,_,rfl,⟨pp,_,rfl,aK.of (by rw [aj (ah AQ FO)]; exact AQ),rfl,_,_,rfl,_,_,rfl,rfl,_,_,rfl,rfl,?_⟩⟩
   refine bU (A:=fun H3=>de _ D _ H3 _) ?_
   refine ⟨_,rfl,_,rfl,rfl,_,rfl,?_⟩
   refine aF (fun c=>?_) (fun c=>?_)
   · have c':b.1=x:=by have:=of_decide_eq_true c; injection this
     refine ⟨_,rfl,_,rfl,_,_,rfl,rfl,(by show (0:Int) < b.2; omega),_,NJ,aB (by rw [ZX]; omega),aL (Pv:=fun i H2=>(∀b o,H b=some o->H2 b=some o)/\H2 D=some (.lst (((jL bs ws x t).take i).map V.int))) (by repeat' constructor) dP ⟨keep _,?_⟩⟩
     rw [ae,Z9,hg,if_pos c',Z5]
     rfl
   · have c':¬ b.1=x:=fun z=>c (decide_eq_true (by rw [z]))
     refine ⟨_,rfl,_,NJ,aB (by rw [ZX]; omega),aL (Pv:=fun i H2=>(∀b o,H b=some o->H2 b=some o)/\H2 D=some (.lst (((jL bs ws x t).take i).map V.int))) (by repeat' constructor) dP ⟨keep _,?_⟩⟩
     rw [ae,Z9,hg,if_neg c',Z5]
     rfl
 · obtain ⟨z,ug⟩:=z
   have et:(jL bs ws x t).take vb.length=jL bs ws x t:=by rw [kX,← sf (x:=x) (t:=t) hlen,aao]
   rw [et] at ug
   exact q D H2 hD z ug
theorem Ar (s:Src K mg "worths_put" sS)(m_zip:mg "zip"=none):aX P w K mg base "worths_put" ["program","worths","put_name","told"] 1 nQ:=
 let ⟨f,fd,F,m⟩:=s
 ⟨f,fd,Er F m_zip,F.kp,F.binds fun _ _ _ _ _ _ us hl=>match us,hl with | [_,_,_,_],_=>rfl,m⟩
def kR (bs:List (Str×Int))(ws:List Int):Nd->Option (List Int×Int×List Int)
 | .fin=>none
 | .put x s n=>some ([],n,jL bs ws x (s.worth fun _ y=>oF bs ws y))
 | .say s n=>some ([s.worth fun _ y=>oF bs ws y],n,ws)
 | .test c n o=>some ([],if (c.holds fun _ y=>oF bs ws y)=true then n else o,ws)
structure pK (H:Hp)(v:V)(wa:Addr)(bs:List (Str×Int))(ws:List Int)(ins:List Str)(nds:List Nd)(pl:Int)(nd:Nd)(m:Int):Prop where
 pa:bD H v bs ins nds
 ndn:(bs.map (·.1)).Nodup
 len:bs.length<=900
 sz:∀b∈bs,1<=b.2
 wl:H wa=some (.lst (ws.map V.int))
 pw:Paired Within (bs.map (·.2)) ws
 p0:0<=pl
 here:nds[pl.toNat]? = some nd
 gd:nd.good (· ∈ bs.map (·.1)) m 19
theorem bD.same {H H':Hp}{v:V}{bs:List (Str×Int)}{ins:List Str}{nds:List Nd}(h:bD H v bs ins nds)(s:ag H H'):bD H' v bs ins nds:=by
 obtain ⟨p,B,I,N,vb,vn,rfl,hp,hB,hI,hN,pb,pn⟩:=h
 exact ⟨p,B,I,N,vb,vn,rfl,s _ _ hp,s _ _ hB,s _ _ hI,s _ _ hN,Paired.aZ pb fun _ _ z=>Tp.keep (ag.tk s) z,Paired.aZ pn fun _ _ z=>cw.keep (ag.tk s) z⟩
theorem pK.ll {H:Hp}{v:V}{wa:Addr}{bs:List (Str×Int)}{ws:List Int}{ins:List Str}{nds:List Nd}{pl:Int}{nd:Nd}{m:Int}(h:pK H v wa bs ws ins nds pl nd m):bs.length=ws.length:=by
 have:=Paired.length h.pw
 rw [ZX] at this
 exact this
structure Told (H H':Hp)(r l1 l2:Addr)(said:List Int)(n:Int)(ws':List Int):Prop where
 s:ag H H'
 hr:H r=none
 h1:H l1=none
 h2:H l2=none
 er:H' r=some (.tup [.ref l1,.int n,.ref l2])
 e1:H' l1=some (.lst (said.map V.int))
 e2:H' l2=some (.lst (ws'.map V.int))
 ne:l1≠l2
def qr:Sp:=fun vs H Q _=>∃(v:V) (pl:Int) (wa:Addr) (bs:List (Str×Int)) (ws:List Int) (ins:List Str) (nds:List Nd) (nd:Nd) (m:Int),vs=[v,.int pl,.ref wa]/\pK H v wa bs ws ins nds pl nd m /\
 (kR bs ws nd=none->∀H',ag H H'->Q .bN H')/\∀said n ws',kR bs ws nd=some (said,n,ws')->∀r l1 l2 H',Told H H' r l1 l2 said n ws'->Q (.ref r) H'
theorem nI:aD ["program","place","worths","node","known"] ["program","place","worths"] (ai eK):=⟨rfl,rfl,rfl,by decide +kernel,rfl,by decide +kernel,by decide +kernel⟩
theorem kF:aY eK "holds_by":=by decide +kernel
theorem f7:aY eK "known_worths":=by decide +kernel
theorem fj:aY eK "list":=by decide +kernel
theorem eR:aY eK "worth_by":=by decide +kernel
theorem iQ:aY eK "worths_put":=by decide +kernel
theorem yQ {f:Addr}{fd:aaf}(F:dm K "step_at" "step_at" eK f fd)(m_list:mg "list"=none)(KW:qH P w K mg base "known_worths" ["program","worths","side"] 24 dk "box")(WP:aX P w K mg base "worths_put" ["program","worths","put_name","told"] 24 nQ)
    (WB:aX P w K mg base "worth_by" ["known","sum_told"] 24 (cy 20)) (HB:aX P w K mg base "holds_by" ["known","condition"] 24 (di 20)):aP P w K mg base cK 25 f fd ["program","place","worths"] qr:=by
 refine F.ok nI (fun vs H Q E h=>?_) (fun cdv A outer s H vs Q E hr h=>?_)
 · obtain ⟨v,pl,wa,bs,ws,ins,nds,nd,m,rfl,_⟩:=h
   rfl
 obtain ⟨v,pl,wa,bs,ws,ins,nds,nd,m,rfl,pre,qn,qs⟩:=h
 refine ⟨_,aez (ad7 (aeh 3 nI.nd (ad8 aeg (ad8 aei (ad4 0) ad6) (ad4 1)))
   (ad7 (ael (aek aeq (ad8 aei (ad4 3) ad6) aeb) (aea (aec aeS)) aem)
   (ad7 (aeh 4 nI.nd (Q6 KW hr f7 (ad3 (ad4 0) (ad3 (ad4 2) ad5))))
   (ad7 (ael (aek aeq (ad8 aei (ad4 3) ad6) aeb) (aea (aec (aed (ad3 (aen ad5) (ad3 (ad8 aei (ad4 3) ad6) (ad3 (aef WP hr iQ (ad3 (ad4 0) (ad3 (ad4 2) (ad3 (ad8 aei (ad4 3) ad6) (ad3 (aef WB hr eR (ad3 (ad4 4) (ad3 (ad8 aei (ad4 3) ad6) ad5))) ad5))))) ad5)))))) aem)
   (ad7 (ael (aek aeq (ad8 aei (ad4 3) ad6) aeb) (aea (aec (aed (ad3 (aen (ad3 (aef WB hr eR (ad3 (ad4 4) (ad3 (ad8 aei (ad4 3) ad6) ad5))) ad5)) (ad3 (ad8 aei (ad4 3) ad6) (ad3 (aew aeK fj m_list (by decide +kernel) (ad3 (ad4 2) ad5)) ad5)))))) aem)
   (ad7 (ael (aeP (aef HB hr kF (ad3 (ad4 4) (ad3 (ad8 aei (ad4 3) ad6) ad5)))) (aea (aec (aed (ad3 (aen ad5) (ad3 (ad8 aei (ad4 3) ad6) (ad3 (aew aeK fj m_list (by decide +kernel) (ad3 (ad4 2) ad5)) ad5)))))) aem)
   (aea (aec (aed (ad3 (aen ad5) (ad3 (ad8 aei (ad4 3) ad6) (ad3 (aew aeK fj m_list (by decide +kernel) (ad3 (ad4 2) ad5)) ad5)))))))))))),?_⟩
 obtain ⟨p,B,I,N,vb,vn,rfl,hp,hB,hI,hN,pb,pn⟩:=pre.pa
 have dP:pl.toNat < nds.length:=(List.getElem?_eq_some_iff.mp pre.here).1
 have Tx:vn.length=nds.length:=Paired.length pn
 obtain ⟨x0,FU⟩ : ∃x0,vn[pl.toNat]? = some x0:=⟨vn[pl.toNat]'(by omega),ZZ (by omega)⟩
 have nZ:lQ vn pl=some x0:=by
   have:=gN FU
   rw [acN pre.p0] at this
   exact this
 have yj:=Paired.Du pn FU pre.here
 have gd:=pre.gd
 refine ⟨_,rfl,p,_,_,_,rfl,rfl,aK.of hp,rfl,_,rfl,N,_,_,_,rfl,rfl,ao.of hN,nZ,?_⟩
 cases nd with
 | fin=>
   obtain ⟨x,rfl,hx⟩:=yj
   refine ⟨_,rfl,x,_,_,_,rfl,rfl,aK.of hx,rfl,rfl,_,rfl,?_⟩
   refine aF (fun _=>?_) (fun c=>absurd (decide_eq_true rfl) c)
   exact qn rfl _ (same_refl _)
 | put nm e n=>
   obtain ⟨u,⟨x,rfl,hx⟩,eu⟩:=yj
   obtain ⟨g1,g2,g3,g4,g5,g6⟩:=gd
   refine ⟨_,rfl,x,_,_,_,rfl,rfl,aK.of hx,rfl,rfl,_,rfl,?_⟩
   refine aF (fun c=>absurd (of_decide_eq_true c) (by decide)) (fun _=>?_)
   refine ⟨_,rfl,_,rfl,.ref p,wa,"box",bs,ws,rfl,⟨p,B,_,_,vb,rfl,hp,hB,pb⟩,pre.ndn,pre.len,pre.wl,pre.ll,fun D H1 hD s1 hk=>?_⟩
   have kn:C9 H1 D (Ny bs) (fun _ y=>oF bs ws y):=⟨_,hk,fun t x h=>by rw [h.1]; exact dU "box" bs ws x pre.ll h.2⟩
   have qE:=s1 _ _ hx
   have Ni:=s1 _ _ pre.wl
   refine ⟨_,rfl,x,_,_,_,rfl,rfl,aK.of qE,rfl,rfl,_,rfl,?_⟩
   refine aF (fun _=>?_) (fun c=>absurd (decide_eq_true rfl) c)
   refine ⟨agb,fun l1 hl1=>?_⟩
   have s2:=af hl1 (.lst [])
   have e1:(upd H1 l1 (.lst [])) l1=some (.lst []):=ae
   generalize upd H1 l1 (.lst [])=H2 at s2 e1 ⊢
   have s02:=aa s1 s2
   have yp:=s2 _ _ qE
   refine ⟨_,rfl,x,_,_,_,rfl,rfl,aK.of yp,rfl,_,rfl,_,rfl,_,rfl,x,_,_,_,rfl,rfl,aK.of yp,rfl,_,rfl,_,rfl,x,_,_,_,rfl,rfl,aK.of yp,rfl,D,u,e,_,_,rfl,kn.same s2,my bs,eu.same s02,g2,g3,by omega,?_⟩
   refine ⟨.ref p,wa,nm,_,bs,ws,rfl,⟨p,B,_,_,vb,rfl,s02 _ _ hp,s02 _ _ hB,Paired.aZ pb fun _ _ z=>Tp.keep (ag.tk s02) z⟩,pre.len,pre.sz,s02 _ _ pre.wl,pre.ll,fun l2 H3 hl2 s3 e2=>⟨age,fun r rO=>?_⟩⟩
   have s4:=af rO (.tup [.ref l1,.int n,.ref l2])
   have i6:=aa s02 s3
   exact qs _ _ _ rfl r l1 l2 _ ⟨aa i6 s4,aq i6 rO,aq s1 hl1,aq s02 hl2,ae,s4 _ _ (s3 _ _ e1),s4 _ _ e2,ah e1 hl2⟩
 | say e n=>
   obtain ⟨u,⟨x,rfl,hx⟩,eu⟩:=yj
   obtain ⟨g2,g3,g4,g5,g6⟩:=gd
   refine ⟨_,rfl,x,_,_,_,rfl,rfl,aK.of hx,rfl,rfl,_,rfl,?_⟩
   refine aF (fun c=>absurd (of_decide_eq_true c) (by decide)) (fun _=>?_)
   refine ⟨_,rfl,_,rfl,.ref p,wa,"box",bs,ws,rfl,⟨p,B,_,_,vb,rfl,hp,hB,pb⟩,pre.ndn,pre.len,pre.wl,pre.ll,fun D H1 hD s1 hk=>?_⟩
   have kn:C9 H1 D (Ny bs) (fun _ y=>oF bs ws y):=⟨_,hk,fun t x h=>by rw [h.1]; exact dU "box" bs ws x pre.ll h.2⟩
   have qE:=s1 _ _ hx
   have Ni:=s1 _ _ pre.wl
   refine ⟨_,rfl,x,_,_,_,rfl,rfl,aK.of qE,rfl,rfl,_,rfl,?_⟩
   refine aF (fun c=>absurd (of_decide_eq_true c) (by decide)) (fun _=>?_)
   refine ⟨_,rfl,x,_,_,_,rfl,rfl,aK.of qE,rfl,rfl,_,rfl,?_⟩
   refine aF (fun _=>?_) (fun c=>absurd (decide_eq_true rfl) c)
   refine ⟨_,rfl,_,rfl,x,_,_,_,rfl,rfl,aK.of qE,rfl,D,u,e,_,_,rfl,kn,my bs,eu.same s1,g2,g3,by omega,agc,fun l1 hl1=>?_⟩
   have s2:=af hl1 (.lst [.int (e.worth fun _ y=>oF bs ws y)])
   have e1:(upd H1 l1 (.lst [.int (e.worth fun _ y=>oF bs ws y)])) l1=some _:=ae
   generalize upd H1 l1 (.lst [.int (e.worth fun _ y=>oF bs ws y)])=H2 at s2 e1 ⊢
   have s02:=aa s1 s2
   refine ⟨_,rfl,x,_,_,_,rfl,rfl,aK.of (s2 _ _ qE),rfl,_,rfl,wa,_,rfl,.inl (ao.of (s2 _ _ Ni)),fun l2 hl2=>⟨age,fun r rO=>?_⟩⟩
   have s3:=af hl2 (.lst (ws.map V.int))
   have s4:=af rO (.tup [.ref l1,.int n,.ref l2])
   have i6:=aa s02 s3
   exact qs _ _ _ rfl r l1 l2 _ ⟨aa i6 s4,aq i6 rO,aq s1 hl1,aq s02 hl2,ae,s4 _ _ (s3 _ _ e1),s4 _ _ ae,ah e1 hl2⟩
 | test c n o=>
   obtain ⟨u,⟨x,rfl,hx⟩,eu⟩:=yj
   obtain ⟨g2,g3,g4,g5,g6⟩:=gd
   refine ⟨_,rfl,x,_,_,_,rfl,rfl,aK.of hx,rfl,rfl,_,rfl,?_⟩
   refine aF (fun c=>absurd (of_decide_eq_true c) (by decide)) (fun _=>?_)
   refine ⟨_,rfl,_,rfl,.ref p,wa,"box",bs,ws,rfl,⟨p,B,_,_,vb,rfl,hp,hB,pb⟩,pre.ndn,pre.len,pre.wl,pre.ll,fun D H1 hD s1 hk=>?_⟩
   have kn:C9 H1 D (Ny bs) (fun _ y=>oF bs ws y):=⟨_,hk,fun t x h=>by rw [h.1]; exact dU "box" bs ws x pre.ll h.2⟩
   have qE:=s1 _ _ hx
   have Ni:=s1 _ _ pre.wl
   refine ⟨_,rfl,x,_,_,_,rfl,rfl,aK.of qE,rfl,rfl,_,rfl,?_⟩
   refine aF (fun c=>absurd (of_decide_eq_true c) (by decide)) (fun _=>?_)
   refine ⟨_,rfl,x,_,_,_,rfl,rfl,aK.of qE,rfl,rfl,_,rfl,?_⟩
   refine aF (fun c=>absurd (of_decide_eq_true c) (by decide)) (fun _=>?_)
   refine ⟨_,rfl,_,rfl,x,_,_,_,rfl,rfl,aK.of qE,rfl,D,u,c,_,_,rfl,kn,my bs,eu.same s1,g2,g3,by omega,_,rfl,?_⟩
   refine aF (fun hc=>?_) (fun hc=>?_)
   · refine ⟨agb,fun l1 hl1=>?_⟩
     have s2:=af hl1 (.lst [])
     have e1:(upd H1 l1 (.lst [])) l1=some (.lst []):=ae
     generalize upd H1 l1 (.lst [])=H2 at s2 e1 ⊢
     have s02:=aa s1 s2
     refine ⟨_,rfl,x,_,_,_,rfl,rfl,aK.of (s2 _ _ qE),rfl,_,rfl,wa,_,rfl,.inl (ao.of (s2 _ _ Ni)),fun l2 hl2=>⟨age,fun r rO=>?_⟩⟩
     have s3:=af hl2 (.lst (ws.map V.int))
     have s4:=af rO (.tup [.ref l1,.int n,.ref l2])
     have i6:=aa s02 s3
     exact qs [] n ws (by show some _=some _; rw [if_pos hc]) r l1 l2 _ ⟨aa i6 s4,aq i6 rO,aq s1 hl1,aq s02 hl2,ae,s4 _ _ (s3 _ _ e1),s4 _ _ ae,ah e1 hl2⟩
   · refine ⟨agb,fun l1 hl1=>?_⟩
     have s2:=af hl1 (.lst [])
     have e1:(upd H1 l1 (.lst [])) l1=some (.lst []):=ae
     generalize upd H1 l1 (.lst [])=H2 at s2 e1 ⊢
     have s02:=aa s1 s2
     refine ⟨_,rfl,x,_,_,_,rfl,rfl,aK.of (s2 _ _ qE),rfl,_,rfl,wa,_,rfl,.inl (ao.of (s2 _ _ Ni)),fun l2 hl2=>⟨age,fun r rO=>?_⟩⟩
     have s3:=af hl2 (.lst (ws.map V.int))
     have s4:=af rO (.tup [.ref l1,.int o,.ref l2])
     have i6:=aa s02 s3
     exact qs [] o ws (by show some _=some _; rw [if_neg hc]) r l1 l2 _ ⟨aa i6 s4,aq i6 rO,aq s1 hl1,aq s02 hl2,ae,s4 _ _ (s3 _ _ e1),s4 _ _ ae,ah e1 hl2⟩
theorem uv (s:Src K mg "step_at" eK)(m_list:mg "list"=none)(KW:qH P w K mg base "known_worths" ["program","worths","side"] 24 dk "box")(WP:aX P w K mg base "worths_put" ["program","worths","put_name","told"] 24 nQ)(WB:aX P w K mg base "worth_by" ["known","sum_told"] 24 (cy 20))(HB:aX P w K mg base "holds_by" ["known","condition"] 24 (di 20)):aX P w K mg base "step_at" ["program","place","worths"] 25 qr:=
 let ⟨f,fd,F,m⟩:=s
 ⟨f,fd,yQ F m_list KW WP WB HB,F.kp,F.binds fun _ _ _ _ _ _ us hl=>match us,hl with | [_,_,_],_=>rfl,m⟩
def gf:List (Str×Int)->List Int->List (Key×V)
 | b :: bs,w :: ws=>(.inr b.1,.int w) :: gf bs ws
 | _,_=>[]
theorem kI:∀(bs:List (Str×Int)) (ws:List Int) (k:Key),k∈(gf bs ws).map (·.1)->∃x∈bs.map (·.1),k=.inr x
 | [],_,_,h=>by simp [gf] at h
 | _ :: _,[],_,h=>by simp [gf] at h
 | b :: bs,w :: ws,k,h=>by
   rcases List.mem_cons.mp h with z | z
   · exact ⟨b.1,List.mem_cons.mpr (.inl rfl),z⟩
   · obtain ⟨x,hx,e⟩:=kI bs ws k z
     exact ⟨x,List.mem_cons.mpr (.inr hx),e⟩
theorem i5:∀(kvs d:List (Key×V)) (k:Key),k ∉ kvs.map (·.1)->bE (putAll d kvs) k=bE d k
 | [],_,_,_=>rfl
 | p :: r,d,k,h=>by
   show bE (putAll (putK d p.1 p.2) r) k=_
   rw [i5 r _ k (fun z=>h (List.mem_cons.mpr (.inr z))),eY,if_neg (fun z=>h (List.mem_cons.mpr (.inl z)))]
theorem fA:∀(bs:List (Str×Int)) (ws:List Int) (d:List (Key×V)) (x:Str),bs.length=ws.length->(bs.map (·.1)).Nodup->x∈bs.map (·.1)->bE (putAll d (gf bs ws)) (.inr x)=some (.int (oF bs ws x))
 | [],_,_,_,_,_,h=>by simp at h
 | _ :: _,[],_,_,h,_,_=>by simp at h
 | b :: bs,w :: ws,d,x,hl,nd,hx=>by
   rw [aaw,acu] at nd
   show bE (putAll (putK d (.inr b.1) (.int w)) (gf bs ws)) (.inr x)=some (.int (if b.1=x then w else oF bs ws x))
   by_cases e:b.1=x
   · rw [if_pos e,i5 _ _ _ (fun z=>by
       obtain ⟨y,hy,e2⟩:=kI bs ws _ z
       injection e2 with e2
       subst e2
       exact nd.1 (e ▸ hy)),eY,if_pos (by rw [e])]
   · rw [if_neg e]
     refine fA bs ws _ x (by simpa using hl) nd.2 ?_
     rcases List.mem_cons.mp hx with z | z
     · exact absurd z.symm e
     · exact z
abbrev sO:Stmt:=top 27
abbrev gA:Stmt:=top 28
def cj (bs:List (Str×Int))(x:Str):Int:=oF bs (bs.map (·.2)) x
def yw (bs:List (Str×Int)):List (Key×V):=gf bs (bs.map (·.2))
theorem ny {H:Hp}:∀{vb:List V} {bs:List (Str×Int)},Paired (bG H) vb bs->Paired (tK H) vb (yw bs)
 | _,_,.nil=>.nil
 | _,_,.cons ⟨p,e,h⟩ r=>.cons ⟨p,e,h⟩ (ny r)
def tF (ins:List Str):List (Str×Int):=ins.map fun x=>(x,0)
theorem eS (ins:List Str):(tF ins).map (·.1)=ins:=by
 unfold tF
 rw [aa9]
 exact List.map_id _
def Ac (ins:List Str)(iw:List Int)(y:Str):Int:=oF (tF ins) iw y
theorem CG:∀(ins:List Str) (iw:List Int),(ins.map (Sum.inr:Str->Key)).zip (iw.map V.int)=gf (tF ins) iw
 | [],_=>by simp [tF,gf]
 | _ :: _,[]=>by simp [tF,gf]
 | x :: ins,w :: iw=>by
   show (Sum.inr x,V.int w) :: (ins.map (Sum.inr:Str->Key)).zip (iw.map V.int)=(Sum.inr x,V.int w) :: gf (tF ins) iw
   rw [CG ins iw]
theorem qA:∀{bs:List (Str×Int)} {ws:List Int} {x:Str},x ∉ bs.map (·.1)->oF bs ws x=0
 | [],_,_,_=>rfl
 | _ :: _,[],_,_=>rfl
 | b :: bs,w :: ws,x,h=>by
   show (if b.1=x then w else oF bs ws x)=0
   rw [if_neg (fun e=>h (List.mem_cons.mpr (.inl e.symm)))]
   exact qA fun z=>h (List.mem_cons.mpr (.inr z))
def cM (bs:List (Str×Int))(ins:List Str)(iw:List Int):List Int:=bs.map fun b=>Ac ins iw b.1
theorem kf:∀{bs:List (Str×Int)} {b:Str×Int},(bs.map (·.1)).Nodup->b∈bs->cj bs b.1=b.2
 | [],_,_,h=>nomatch h
 | c :: bs,b,nd,h=>by
   rw [aaw,acu] at nd
   show (if c.1=b.1 then c.2 else oF bs (bs.map (·.2)) b.1)=b.2
   rcases List.mem_cons.mp h with rfl | h
   · rw [if_pos rfl]
   · rw [if_neg (fun e:c.1=b.1=>nd.1 (by rw [e]; exact List.mem_map.mpr ⟨b,h,rfl⟩))]
     exact kf nd.2 h
theorem Ad {sz:Str->Int}:∀{ins:List Str} {iw:List Int} {y:Str},Paired Within (ins.map sz) iw->y∈ins->0<=Ac ins iw y/\Ac ins iw y < sz y
 | [],_,_,_,h=>nomatch h
 | x :: ins,[],_,h,_=>nomatch h
 | x :: ins,w :: iw,y,.cons r t,h=>by
   show 0<=(if x=y then w else Ac ins iw y)/\(if x=y then w else Ac ins iw y) < sz y
   by_cases e:x=y
   · rw [if_pos e,← e]
     exact r
   · rw [if_neg e]
     rcases List.mem_cons.mp h with z | z
     · exact absurd z.symm e
     · exact Ad t z
theorem tQ {bs:List (Str×Int)}{ins:List Str}{iw:List Int}(nd:(bs.map (·.1)).Nodup)(sz:∀b∈bs,1<=b.2)(pw:Paired Within (ins.map (cj bs)) iw):Paired Within (bs.map (·.2)) (cM bs ins iw):=by
 have go:∀cs:List (Str×Int),(∀c∈cs,c∈bs)->Paired Within (cs.map (·.2)) (cs.map fun b=>Ac ins iw b.1):=fun cs=>by
   induction cs with
   | nil=>exact fun _=>.nil
   | cons c cs ih=>
     intro h
     refine .cons ?_ (ih fun d hd=>h d (List.mem_cons.mpr (.inr hd)))
     have hc:=h c (List.mem_cons.mpr (.inl rfl))
     have h1:=sz c hc
     by_cases m:c.1∈ins
     · obtain ⟨a1,a2⟩:=Ad pw m
       rw [kf nd hc] at a2
       exact ⟨a1,a2⟩
     · have e:Ac ins iw c.1=0:=qA (by rw [eS]; exact m)
       show Within c.2 (Ac ins iw c.1)
       rw [e]
       exact ⟨adm 0,by omega⟩
 exact go bs fun _ h=>h
structure Fits (bs:List (Str×Int))(ins:List Str):Prop where
 nd:(bs.map (·.1)).Nodup
 len:bs.length<=900
 sz:∀b∈bs,1<=b.2
 ind:ins.Nodup
 sub:∀x∈ins,x∈bs.map (·.1)
 ilen:ins.length<=900
def fB:Sp:=fun vs H Q _=>∃(v:V) (bs:List (Str×Int)) (ins:List Str) (nds:List Nd),vs=[v]/\bD H v bs ins nds/\Fits bs ins/\∀l H',H l=none->ag H H'->H' l=some (.lst ((ins.map (cj bs)).map V.int))->Q (.ref l) H'
theorem B9:aD ["program","sizes"] ["program"] (ai sO):=⟨rfl,rfl,rfl,by decide +kernel,rfl,by decide +kernel,by decide +kernel⟩
theorem ub:aY sO "dict":=by decide +kernel
theorem Ei {f:Addr}{fd:aaf}(F:dm K "input_sizes" "input_sizes" sO f fd)(m_dict:mg "dict"=none):aP P w K mg base cK 1 f fd ["program"] fB:=by
 refine F.ok B9 (fun vs H Q E h=>?_) (fun cdv A outer s H vs Q E hr h=>?_)
 · obtain ⟨v,bs,ins,nds,rfl,_⟩:=h
   rfl
 obtain ⟨v,bs,ins,nds,rfl,pa,ft,q⟩:=h
 refine ⟨_,aez (ad7 (aeh 1 B9.nd (aew L3.zL ub m_dict (by decide +kernel) (ad3 (ad8 aei (ad4 0) ad6) ad5)))
   (aea (aec (aeB [none,some 1] ["name","sizes"] (show aE _ (ai sO) from ⟨rfl,by decide +kernel,by decide +kernel,by decide +kernel⟩) (by rfl) (aeA (ad8 aei (ad4 0) ad6)) (fun _ _ _ _ _=>⟨(aee 0 (show (["name","sizes"]:List Str).Nodup from by decide +kernel)),aev,(aeZ (bP hr _ (by decide)) (ad4 1) (ad4 0))⟩))))),?_⟩
 obtain ⟨p,B,I,N,vb,vn,rfl,hp,hB,hI,hN,pb,pn⟩:=pa
 have ilen:=ft.ilen
 refine ⟨_,rfl,p,_,_,_,rfl,rfl,aK.of hp,rfl,B,vb,yw bs,rfl,hB,ny pb,fun D hD=>?_⟩
 have s1:=af hD (.dK (putAll [] (yw bs)))
 have eD:(upd H D (.dK (putAll [] (yw bs)))) D=some (.dK (putAll [] (yw bs))):=ae
 generalize upd H D (.dK (putAll [] (yw bs)))=H2 at s1 eD ⊢
 have Hk:=s1 _ _ hI
 refine ⟨_,rfl,p,_,_,_,rfl,rfl,aK.of (s1 _ _ hp),rfl,I,rfl,⟨_,ao.of Hk⟩,fun l hl=>?_⟩
 refine bj (xs:=ins.map V.str) (fun i H3=>(∀b o,H2 b=some o->H3 b=some o)/\H3 l=some (.lst (((ins.map (cj bs)).take i).map V.int))) ⟨af hl _,ae⟩ (fun i H3 _ z=>ao.of (z.1 _ _ Hk)) (fun i x0 H3 hx z=>?_) (fun H3 z=>?_)
 · obtain ⟨z,kH⟩:=z
   have dP:=(List.getElem?_eq_some_iff.mp hx).1
   obtain ⟨x,LP,rfl⟩:=df hx
   have hv:=fA bs (bs.map (·.2)) [] x (by rw [ZX]) ft.nd (ft.sub x (aab LP))
   have g:=fM.k (k:=.inr x) (z _ _ eD)
   rw [show bE (putAll [] (yw bs)) (.inr x)=some (.int (cj bs x)) from hv] at g
   refine bo ?_
   refine bU (A:=fun H4=>de _ l _ H4 _) ?_
   refine ⟨_,rfl,_,rfl,D,_,rfl,g,_,kH,aB (by rw [ZX,aak,ZX]; omega),aL (Pv:=fun i H3=>(∀b o,H2 b=some o->H3 b=some o)/\H3 l=some (.lst (((ins.map (cj bs)).take i).map V.int))) (by repeat' constructor) dP ⟨fun c o hc=>?_,?_⟩⟩
   · rw [aj (ah hc hl)]
     exact z c o hc
   · rw [ae,Z9,aaq,LP,Z5]
     rfl
 · obtain ⟨z,kH⟩:=z
   have et:(ins.map (cj bs)).take (ins.map V.str).length=ins.map (cj bs):=by rw [ZX,← ZX (f:=cj bs) (as:=ins),aao]
   rw [et] at kH
   exact q l H3 (aq s1 hl) (aa s1 z) kH
theorem Aj (s:Src K mg "input_sizes" sO)(m_dict:mg "dict"=none):aX P w K mg base "input_sizes" ["program"] 1 fB:=
 let ⟨f,fd,F,m⟩:=s
 ⟨f,fd,Ei F m_dict,F.kp,F.binds fun _ _ _ _ _ _ us hl=>match us,hl with | [_],_=>rfl,m⟩
def l9:Sp:=fun vs H Q _=>∃(v:V) (ia:Addr) (bs:List (Str×Int)) (ins:List Str) (nds:List Nd) (iw:List Int),vs=[v,.ref ia]/\bD H v bs ins nds/\Fits bs ins/\H ia=some (.lst (iw.map V.int))/\Paired Within (ins.map (cj bs)) iw/\∀l H',H l=none->ag H H'->H' l=some (.lst ((cM bs ins iw).map V.int))->Q (.ref l) H'
theorem wY:aD ["program","inputs","given"] ["program","inputs"] (ai gA):=⟨rfl,rfl,rfl,by decide +kernel,rfl,by decide +kernel,by decide +kernel⟩
theorem rb:aY gA "dict":=by decide +kernel
theorem iH:aY gA "input_sizes":=by decide +kernel
theorem fX:aY gA "refuse_worths":=by decide +kernel
theorem t6:aY gA "zip":=by decide +kernel
theorem Bm {f:Addr}{fd:aaf}(F:dm K "beginning_of" "beginning_of" gA f fd)(m_dict:mg "dict"=none)(m_zip:mg "zip"=none)(RW:aX P w K mg base "refuse_worths" ["sizes","worths"] 1 nN)(IS:aX P w K mg base "input_sizes" ["program"] 1 fB):aP P w K mg base cK 2 f fd ["program","inputs"] l9:=by
 refine F.ok wY (fun vs H Q E h=>?_) (fun cdv A outer s H vs Q E hr h=>?_)
 · obtain ⟨v,ia,bs,ins,nds,iw,rfl,_⟩:=h
   rfl
 obtain ⟨v,ia,bs,ins,nds,iw,rfl,pa,ft,hw,pw,q⟩:=h
 refine ⟨_,aez (ad7 (aeu (aef RW hr fX (ad3 (aef IS hr iH (ad3 (ad4 0) ad5)) (ad3 (ad4 1) ad5))))
   (ad7 (aeh 2 wY.nd (L3.Dp rb m_dict t6 m_zip (ad3 (ad8 aei (ad4 0) ad6) (ad3 (ad4 1) ad5))))
   (aea (aec (aeB [none,none,some 2] ["name","size","given"] (show aE _ (ai gA) from ⟨rfl,by decide +kernel,by decide +kernel,by decide +kernel⟩) (by rfl) (aeA (ad8 aei (ad4 0) ad6)) (fun _ _ _ _ _=>⟨(aes 2 (aej (aee 0 (show (["name","size","given"]:List Str).Nodup from by decide +kernel)) (aej (aee 1 (show (["name","size","given"]:List Str).Nodup from by decide +kernel)) aet))),aev,(L3.KR (bP hr _ (by decide)) (ad4 2) (ad4 0) ad6)⟩)))))),?_⟩
 have hlen:ins.length=iw.length:=by have:=Paired.length pw; rw [ZX] at this; exact this
 have ilen:=ft.ilen
 have Vb:=ft.len
 refine ⟨_,rfl,v,bs,ins,nds,rfl,pa,ft,fun sl Ha Tu sa ea=>?_⟩
 refine ⟨_,rfl,sl,ia,ins.map (cj bs),iw,rfl,ea,sa _ _ hw,pw,fun H1 sb=>?_⟩
 have s1:=aa sa sb
 obtain ⟨p,B,I,N,vb,vn,rfl,hp,hB,hI,hN,pb,pn⟩:=pa.same s1
 have kX:vb.length=bs.length:=Paired.length pb
 have LN:=s1 _ _ hw
 have P6:(ins.map V.str)=(ins.map (Sum.inr:Str->Key)).map kV:=by rw [aa9]; rfl
 refine ⟨_,rfl,p,_,_,_,rfl,rfl,aK.of hp,rfl,_,rfl,I,ia,ins.map Sum.inr,iw.map V.int,rfl,by rw [← P6]; exact ao.of hI,ao.of LN,by rw [ZX,ZX]; exact hlen,by rw [ZX]; omega,fun D hD=>?_⟩
 rw [CG]
 have s2:=af hD (.dK (putAll [] (gf (tF ins) iw)))
 have eD:(upd H1 D (.dK (putAll [] (gf (tF ins) iw)))) D=some (.dK (putAll [] (gf (tF ins) iw))):=ae
 generalize upd H1 D (.dK (putAll [] (gf (tF ins) iw)))=H3 at s2 eD ⊢
 have Kc:=s2 _ _ hB
 have Mk:Paired (bG H3) vb bs:=Paired.aZ pb fun _ _ z=>Tp.keep (ag.tk s2) z
 refine ⟨_,rfl,p,_,_,_,rfl,rfl,aK.of (s2 _ _ hp),rfl,B,rfl,⟨_,ao.of Kc⟩,fun l hl=>?_⟩
 refine bj (xs:=vb) (fun i H4=>(∀b o,H3 b=some o->H4 b=some o)/\H4 l=some (.lst (((cM bs ins iw).take i).map V.int))) ⟨af hl _,ae⟩ (fun i H4 _ z=>ao.of (z.1 _ _ Kc)) (fun i x0 H4 hx z=>?_) (fun H4 z=>?_)
 · obtain ⟨z,DL⟩:=z
   obtain ⟨b,fP,pp,rfl,wo⟩:=Paired.get Mk hx
   have dP:i < vb.length:=(List.getElem?_eq_some_iff.mp hx).1
   have Qw:(bE (putAll [] (gf (tF ins) iw)) (.inr b.1)).getD (.int 0)=V.int (Ac ins iw b.1):=by
     by_cases m:b.1∈ins
     · have hv:=fA (tF ins) iw [] b.1 (by unfold tF; rw [ZX]; exact hlen) (by rw [eS]; exact ft.ind) (by rw [eS]; exact m)
       rw [hv]
       rfl
     · have hv:bE (putAll [] (gf (tF ins) iw)) (.inr b.1)=none:=by
         rw [i5 _ _ _ (fun zz=>by
           obtain ⟨y,hy,e2⟩:=kI (tF ins) iw _ zz
           injection e2 with e2
           rw [eS] at hy
           exact m (e2 ▸ hy))]
         rfl
       rw [hv,show Ac ins iw b.1=0 from qA (by rw [eS]; exact m)]
       rfl
   refine ⟨pp,_,rfl,aK.of (z _ _ wo),rfl,_,_,rfl,_,_,rfl,rfl,?_⟩
   refine bU (A:=fun H5=>de _ l _ H5 _) ?_
   refine ⟨_,rfl,D,rfl,.inl ⟨_,.inl (z _ _ eD)⟩,_,rfl,_,fM.k (k:=.inr b.1) (z _ _ eD),?_⟩
   rw [Qw]
   refine ⟨_,DL,aB (by rw [ZX,aak]; unfold cM; rw [ZX]; omega),aL (Pv:=fun i H4=>(∀b o,H3 b=some o->H4 b=some o)/\H4 l=some (.lst (((cM bs ins iw).take i).map V.int))) (by repeat' constructor) dP ⟨fun c o hc=>?_,?_⟩⟩
   · rw [aj (ah hc hl)]
     exact z c o hc
   · rw [ae,Z9,show (cM bs ins iw)[i]? = some (Ac ins iw b.1) by unfold cM; rw [aaq,fP]; rfl,Z5]
     rfl
 · obtain ⟨z,DL⟩:=z
   have et:(cM bs ins iw).take vb.length=cM bs ins iw:=by
     have:vb.length=(cM bs ins iw).length:=by unfold cM; rw [ZX]; exact kX
     rw [this,aao]
   rw [et] at DL
   exact q l H4 (aq (aa s1 s2) hl) (aa s1 (aa s2 z)) DL
theorem xW (s:Src K mg "beginning_of" gA)(m_dict:mg "dict"=none)(m_zip:mg "zip"=none)(RW:aX P w K mg base "refuse_worths" ["sizes","worths"] 1 nN)(IS:aX P w K mg base "input_sizes" ["program"] 1 fB):aX P w K mg base "beginning_of" ["program","inputs"] 2 l9:=
 let ⟨f,fd,F,m⟩:=s
 ⟨f,fd,Bm F m_dict m_zip RW IS,F.kp,F.binds fun _ _ _ _ _ _ us hl=>match us,hl with | [_,_],_=>rfl,m⟩
abbrev i9:Stmt:=top 29
theorem nD {x:Str}{t:Int}:∀{bs:List (Str×Int)} {ws:List Int},(∀b∈bs,1<=b.2)->Paired Within (bs.map (·.2)) ws->Paired Within (bs.map (·.2)) (jL bs ws x t)
 | [],_,_,.nil=>.nil
 | b :: bs,w :: ws,sz,.cons r q=>by
   have h1:=sz b (List.mem_cons.mpr (.inl rfl))
   refine .cons ?_ (nD (fun c hc=>sz c (List.mem_cons.mpr (.inr hc))) q)
   show Within b.2 (if b.1=x then t % b.2 else w)
   by_cases e:b.1=x
   · rw [if_pos e]
     exact ⟨aaj _ (by omega),aac _ (by omega)⟩
   · rw [if_neg e]
     exact r
theorem pC {bs:List (Str×Int)}{ws:List Int}{nd:Nd}{m:Int}{d:Nat}{r:List Int×Int×List Int}(sz:∀b∈bs,1<=b.2)(pw:Paired Within (bs.map (·.2)) ws)(gd:nd.good (· ∈ bs.map (·.1)) m d)(h:kR bs ws nd=some r):0<=r.2.1/\r.2.1 < m/\Paired Within (bs.map (·.2)) r.2.2/\r.1.length<=1:=by
 cases nd with
 | fin=>cases h
 | put x s n=>
   cases h
   exact ⟨gd.2.2.2.2.1,gd.2.2.2.2.2,nD sz pw,aaI _⟩
 | say s n=>
   cases h
   exact ⟨gd.2.2.2.1,gd.2.2.2.2,pw,Z3 _⟩
 | test c n o=>
   cases h
   refine ⟨?_,?_,pw,aaI _⟩
   · show 0<=(if _ then n else o)
     split
     · exact gd.2.2.2.1
     · exact gd.2.2.2.2.2.1
   · show (if _ then n else o) < m
     split
     · exact gd.2.2.2.2.1
     · exact gd.2.2.2.2.2.2
structure J5 (H:Hp)(v:V)(bs:List (Str×Int))(ins:List Str)(nds:List Nd):Prop where
 pa:bD H v bs ins nds
 ft:Fits bs ins
 one:1<=nds.length
 gd:∀e∈nds,e.good (· ∈ bs.map (·.1)) nds.length 19
theorem J5.same {H H':Hp}{v:V}{bs:List (Str×Int)}{ins:List Str}{nds:List Nd}(h:J5 H v bs ins nds)(s:ag H H'):J5 H' v bs ins nds:=⟨h.pa.same s,h.ft,h.one,h.gd⟩
def gI (bs:List (Str×Int))(nds:List Nd)(st:Int×List Int):Option (List Int×Int×List Int):=(nds[st.1.toNat]?).bind fun nd=>kR bs st.2 nd
theorem nR {bs:List (Str×Int)}{nds:List Nd}{pl:Int}{ws:List Int}{nd:Nd}(h:nds[pl.toNat]? = some nd):gI bs nds (pl,ws)=kR bs ws nd:=by
 show (nds[pl.toNat]?).bind (fun nd=>kR bs ws nd)=_
 rw [h]
 rfl
def zE (bs:List (Str×Int))(m:Nat)(st:Int×List Int):Prop:=0<=st.1/\st.1 < m/\Paired Within (bs.map (·.2)) st.2
theorem Cy {bs:List (Str×Int)}{nds:List Nd}{s0:Int×List Int}(sz:∀b∈bs,1<=b.2)(gd:∀e∈nds,e.good (· ∈ bs.map (·.1)) nds.length 19)(h0:zE bs nds.length s0):∀{n:Nat} {st:Int×List Int} {sd:List Int},tr (gI bs nds) n s0=some (st,sd)->zE bs nds.length st/\sd.length<=n
 | 0,st,sd,h=>by
   cases h
   exact ⟨h0,Z3 _⟩
 | n + 1,st,sd,h=>by
   cases e1:tr (gI bs nds) n s0 with
   | none=>rw [xm e1] at h; cases h
   | some y=>
     obtain ⟨⟨pl,ws⟩,sy⟩:=y
     obtain ⟨⟨p0,p1,pw⟩,sl⟩:=Cy sz gd h0 e1
     cases e2:gI bs nds (pl,ws) with
     | none=>rw [xn e1 e2] at h; cases h
     | some r=>
       obtain ⟨nd,yj⟩ : ∃nd,nds[pl.toNat]? = some nd:=⟨nds[pl.toNat]'(by have:pl < nds.length:=p1; have:0<=pl:=p0; omega),ZZ _⟩
       rw [qv (u:=r.2) (x:=r.1) e1 e2] at h
       cases h
       rw [nR yj] at e2
       obtain ⟨a,b,c,d⟩:=pC sz pw (gd nd (aab yj)) e2
       refine ⟨⟨a,b,c⟩,?_⟩
       rw [Z0]
       omega
def keyOf (st:Int×List Int):List NI:=[.inl (.inl st.1),.inr (st.2.map Sum.inl)]
theorem yv {a b:Int×List Int}(h:keyOf a=keyOf b):a=b:=by
 unfold keyOf at h
 injection h with h1 h2
 injection h1 with h1
 injection h1 with h1
 injection h2 with h2 _
 injection h2 with h2
 have go:∀{x y:List Int},x.map (Sum.inl:Int->Key)=y.map Sum.inl->x=y:=fun {x}=>by
   induction x with
   | nil=>
     intro y e
     cases y with
     | nil=>rfl
     | cons _ _=>cases e
   | cons u x ih=>
     intro y e
     cases y with
     | nil=>cases e
     | cons v y=>
       rw [aaw,aaw] at e
       injection e with e1 e2
       injection e1 with e1
       rw [e1,ih e2]
 obtain ⟨a1,a2⟩:=a
 obtain ⟨b1,b2⟩:=b
 rw [show a1=b1 from h1,show a2=b2 from go h2]
theorem DZ (ws:List Int):(ws.map (Sum.inl:Int->Key)).map kV=ws.map V.int:=by
 rw [aa9]
 rfl
theorem m7 {H:Hp}{b c:Addr}{pl:Int}{ws:List Int}(h1:H b=some (.tup [.int pl,.ref c]))(h2:H c=some (.tup (ws.map V.int))):dY H b (keyOf (pl,ws)):=
 ⟨_,h1,.cons rfl (.cons ⟨c,rfl,by rw [DZ]; exact h2⟩ .nil)⟩
theorem wt:∀{bs:List (Str×Int)} {ws:List Int},Paired Within (bs.map (·.2)) ws->ws∈zH bs
 | [],_,.nil=>aa6
 | b :: bs,w :: ws,.cons r t=>by
   refine List.mem_flatMap.mpr ⟨w.toNat,List.mem_range.mpr ?_,List.mem_map.mpr ⟨ws,wt t,?_⟩⟩
   · have h1:0<=w:=r.1
     have h2:w < b.2:=r.2
     omega
   · rw [acN r.1]
theorem DS {bs:List (Str×Int)}{m:Nat}{st:Int×List Int}(h:zE bs m st):st∈Dg bs m:=by
 obtain ⟨pl,ws⟩:=st
 obtain ⟨p0,p1,pw⟩:=h
 refine List.mem_flatMap.mpr ⟨pl.toNat,List.mem_range.mpr ?_,List.mem_map.mpr ⟨ws,wt pw,?_⟩⟩
 · have:pl < m:=p1
   have:0<=pl:=p0
   omega
 · rw [acN p0]
theorem sub_len {α:Type}[DecidableEq α]:∀{xs ys:List α},xs.Nodup->(∀x∈xs,x∈ys)->xs.length<=ys.length
 | [],_,_,_=>aaI _
 | x :: r,ys,nd,h=>by
   rw [acu] at nd
   have hx:x∈ys:=h x (List.mem_cons.mpr (.inl rfl))
   have ih:=sub_len (xs:=r) (ys:=ys.erase x) nd.2 fun y hy=>(List.mem_erase_of_ne (a:=y) (b:=x) (fun e:y=x=>nd.1 (e ▸ hy))).mpr (h y (List.mem_cons.mpr (.inr hy)))
   have hl:=List.length_erase_of_mem hx
   have lL:0 < ys.length:=adG hx
   rw [aam]
   omega
structure cR (P:Program)(w:World)(f:Int×List Int->Option (List Int×Int×List Int))(s0:Int×List Int)(H:Hp)(d:Addr)(kvs:vP):Prop where
 nd:ND P w [true,false] H d kvs
 at_:∀j p,kvs[j]? = some p->∃t sj tj,tr f j s0=some (t,sj)/\p.1=keyOf t/\p.2.2=.ref tj/\H tj=some (.tup [.int (j:Nat),.int (sj.length:Nat)])
section
variable {f:Int×List Int->Option (List Int×Int×List Int)}{s0:Int×List Int}{H H':Hp}{d:Addr}{kvs:vP}
theorem cR.keep (x:cR P w f s0 H d kvs)(hd:H' d=some (DN P w d kvs))(ht:TK H H'):cR P w f s0 H' d kvs:=
 ⟨x.nd.keep hd ht,fun j p hp=>let ⟨t,sj,tj,a,b,c,e⟩:=x.at_ j p hp; ⟨t,sj,tj,a,b,c,ht _ _ e⟩⟩
theorem cR.same (x:cR P w f s0 H d kvs)(s:ag H H'):cR P w f s0 H' d kvs:=x.keep (s _ _ x.nd.at_) (ag.tk s)
theorem cR.put {b tv:Addr}{st:Int×List Int}{sd:List Int}(x:cR P w f s0 H d kvs)(kb:dY H b (keyOf st))(hs:tr f kvs.length s0=some (st,sd))(no:valN kvs (keyOf st)=none)(hl:kvs.length < sizeLine)(ht:H tv=some (.tup [.int (kvs.length:Nat),.int (sd.length:Nat)])) :
   cR P w f s0 (upd H d (DN P w d (kvs++[(keyOf st,b,.ref tv)]))) d (kvs++[(keyOf st,b,.ref tv)]):=by
 have tk:TK H (upd H d (DN P w d (kvs++[(keyOf st,b,.ref tv)]))):=fun c us e=>by
   rw [aj (fH e x.nd.at_ (fun z=>nomatch z))]
   exact e
 refine ⟨x.nd.put kb rfl no hl,fun j p hp=>?_⟩
 by_cases hj:j < kvs.length
 · rw [aaJ hj] at hp
   obtain ⟨t,sj,tj,a1,a2,a3,a4⟩:=x.at_ j p hp
   exact ⟨t,sj,tj,a1,a2,a3,tk _ _ a4⟩
 · have NR:j=kvs.length:=by
     have:=(List.getElem?_eq_some_iff.mp hp).1
     rw [Z0] at this
     simp only [aam,aaU] at this
     omega
   subst NR
   rw [aaX (Z3 _),adX] at hp
   cases hp
   exact ⟨st,sd,tv,hs,rfl,rfl,tk _ _ ht⟩
theorem cR.find {st:Int×List Int}{v:V}(x:cR P w f s0 H d kvs)(h:valN kvs (keyOf st)=some v):∃j sj tj,j < kvs.length/\tr f j s0=some (st,sj)/\v=.ref tj/\H tj=some (.tup [.int (j:Nat),.int (sj.length:Nat)]):=by
 unfold valN at h
 obtain ⟨p,hp,rfl⟩:=Option.map_eq_some_iff.mp h
 have hk:p.1=keyOf st:=of_decide_eq_true (List.find?_some (p:=fun p:List NI×Addr×V=>decide (p.1=keyOf st)) hp)
 obtain ⟨j,hj⟩:=List.mem_iff_getElem?.mp (List.mem_of_find?_eq_some hp)
 obtain ⟨t,sj,tj,a1,a2,a3,a4⟩:=x.at_ j p hj
 obtain rfl:=yv (a2.symm.trans hk)
 exact ⟨j,sj,tj,(List.getElem?_eq_some_iff.mp hj).1,a1,a3,a4⟩
theorem cR.apart (x:cR P w f s0 H d kvs):∀a b y z u v,a < b->b < kvs.length->tr f a s0=some (y,u)->tr f b s0=some (z,v)->y≠z:=by
 intro a b y z u v NK hb h1 h2 e
 subst e
 obtain ⟨t,sj,tj,a1,a2,_⟩:=x.at_ a kvs[a] (ZZ (by omega))
 obtain ⟨t',ZO,ZP,b1,b2,_⟩:=x.at_ b kvs[b] (ZZ hb)
 rw [h1] at a1
 cases a1
 rw [h2] at b1
 cases b1
 have n1:(kvs.map (·.1))[a]? = some (keyOf y):=by rw [aaq,ZZ (by omega)]; exact congrArg some a2
 have n2:(kvs.map (·.1))[b]? = some (keyOf y):=by rw [aaq,ZZ hb]; exact congrArg some b2
 have:=(List.getElem?_inj (by rw [ZX]; omega) x.nd.nd).mp (n1.trans n2.symm)
 omega
theorem cR.bound {bs:List (Str×Int)}{m:Nat}(x:cR P w f s0 H d kvs)(hs:∀j st sd,tr f j s0=some (st,sd)->zE bs m st):kvs.length<=m * n9 bs:=by
 rw [← zG,← ZX (as:=kvs) (f:=(·.1)),← ZX (as:=Dg bs m) (f:=keyOf)]
 refine sub_len x.nd.nd fun k hk=>?_
 obtain ⟨p,hp,rfl⟩:=List.mem_map.mp hk
 obtain ⟨j,hj⟩:=List.mem_iff_getElem?.mp hp
 obtain ⟨t,sj,tj,a1,a2,_⟩:=x.at_ j p hj
 exact List.mem_map.mpr ⟨t,DS (hs j t sj a1),a2.symm⟩
end
def GK (H H':Hp)(sa:Addr):V->Option (List Int)->Prop
 | ro,none=>ro=.bN
 | ro,some xs=>∃l,ro=.ref l/\l≠sa/\H l=none/\H' l=some (.lst (xs.map V.int))
def Gp:Sp:=fun vs H Q _=>∃(v:V) (ia:Addr) (bs:List (Str×Int)) (ins:List Str) (nds:List Nd) (iw:List Int),vs=[v,.ref ia]/\J5 H v bs ins nds/\H ia=some (.lst (iw.map V.int))/\Paired Within (ins.map (cj bs)) iw/\nds.length * n9 bs<=100000 /\
 ∀(r sa:Addr) (ro:V) (n:Nat) (sd:List Int) (rd:Option (List Int)) (H':Hp),ag H H'->H r=none->H' r=some (.tup [.ref sa,ro,.int n])->H sa=none->H' sa=some (.lst (sd.map V.int))->GK H H' sa ro rd->sd.length + (rd.getD []).length<=100000->GN (gI bs nds) (0,cM bs ins iw) (sd,rd,n)->Q (.ref r) H'
theorem G1 {xs ys:List Int}:kj ((xs++ys).map V.int) none (some (xs.length:Int))=xs.map V.int:=by
 unfold kj
 rw [HT.eI]
 show List.take (min xs.length _ - 0) (List.drop 0 _)=_
 rw [abQ,adW,ZX,Z0,abI (by omega),Z5,List.take_left' (ZX ..)]
theorem zR {xs ys:List Int}:kj ((xs++ys).map V.int) (some (xs.length:Int)) none=ys.map V.int:=by
 unfold kj
 rw [HT.eI]
 have e:min xs.length ((xs++ys).map V.int).length=xs.length:=by rw [ZX,Z0]; exact abI (by omega)
 rw [e,Z5,List.drop_left' (ZX ..)]
 refine aaG ?_
 show _<=HT.cJ _ _ none - _
 show _<=(xs.map V.int++ys.map V.int).length - xs.length
 rw [Z0,ZX,ZX]
 omega
theorem dg:aD ["program","inputs","place","worths","said","met","step","spoken","steps","ahead"] ["program","inputs"] (ai i9):=⟨rfl,rfl,rfl,by decide +kernel,rfl,by decide +kernel,by decide +kernel⟩
theorem ij:aY i9 "beginning_of":=by decide +kernel
theorem iO:aY i9 "len":=by decide +kernel
theorem mU:aY i9 "step_at":=by decide +kernel
theorem fi:aY i9 "tuple":=by decide +kernel
theorem Bu {f:Addr}{fd:aaf}(F:dm K "run_of" "run_of" i9 f fd)(m_len:mg "len"=none)(m_tuple:mg "tuple"=none)(BG:aX P w K mg base "beginning_of" ["program","inputs"] 30 l9)(SA:aX P w K mg base "step_at" ["program","place","worths"] 30 qr):aP P w K mg base cK 31 f fd ["program","inputs"] Gp:=by
 refine F.ok dg (fun vs H Q E h=>?_) (fun cdv A outer s H vs Q E hr h=>?_)
 · obtain ⟨v,ia,bs,ins,nds,iw,rfl,_⟩:=h
   rfl
 obtain ⟨v,ia,bs,ins,nds,iw,rfl,pg,hw,pw,hN,q⟩:=h
 refine ⟨_,aez (ad7 (aeO (aed (ad3 ad6 (ad3 (aef BG hr ij (ad3 (ad4 0) (ad3 (ad4 1) ad5))) (ad3 (aen ad5) (ad3 (L3.Fx (P:=P) (w:=w)) ad5 wF))))) (aes 4 (aej (aee 2 dg.nd) (aej (aee 3 dg.nd) (aej (aee 4 dg.nd) (aej (aee 5 dg.nd) aet))))))
   (ad7 (L3.CD (L3.Ih (P:=P) (w:=w) (bP hr _ (by decide)) (aed (ad3 (ad4 2) (ad3 (aew L3.lR fi m_tuple (by decide +kernel) (ad3 (ad4 3) ad5)) ad5))) (ad4 5)) (ad7 (L3.QY (P:=P) (w:=w) (bP hr _ (by decide)) (ad4 5) (aed (ad3 (ad4 2) (ad3 (aew L3.lR fi m_tuple (by decide +kernel) (ad3 (ad4 3) ad5)) ad5))) (aed (ad3 (aep (L3.zM (P:=P) (w:=w)) iO m_len aad (ad3 (ad4 5) ad5)) (ad3 (aep aer iO m_len aad (ad3 (ad4 4) ad5)) ad5))))
   (ad7 (aeh 6 dg.nd (aef SA hr mU (ad3 (ad4 0) (ad3 (ad4 2) (ad3 (ad4 3) ad5)))))
   (ad7 (ael (aek L3.Bi (ad4 6) aeS) (aea (aec (aed (ad3 (ad4 4) (ad3 aeS (ad3 (ad9 aeU (aep (L3.zM (P:=P) (w:=w)) iO m_len aad (ad3 (ad4 5) ad5)) ad6) ad5)))))) aem)
   (ad7 (aeO (ad4 6) (aes 3 (aej (aee 7 dg.nd) (aej (aee 2 dg.nd) (aej (aee 3 dg.nd) aet)))))
   (aea (aeu (afi (ad4 4) (ad3 (ad4 7) ad5)))))))))
   (ad7 (aeO (L3.QU (P:=P) (w:=w) (bP hr _ (by decide)) (ad4 5) (aed (ad3 (ad4 2) (ad3 (aew L3.lR fi m_tuple (by decide +kernel) (ad3 (ad4 3) ad5)) ad5)))) (aes 2 (aej (aee 8 dg.nd) (aej (aee 9 dg.nd) aet))))
   (aea (aec (aed (ad3 (aeX (ad4 4) (ad4 9)) (ad3 (aeM (ad4 4) (ad4 9)) (ad3 (ad4 8) ad5))))))))),?_⟩
 have WE:=tQ pg.ft.nd pg.ft.sz pw
 have n1:=pg.one
 have h0:zE bs nds.length (0,cM bs ins iw):=⟨adm 0,by show (0:Int) < nds.length; omega,WE⟩
 have inv:=fun {n:Nat} {st:Int×List Int} {sd:List Int} h=>Cy (n:=n) (st:=st) (sd:=sd) pg.ft.sz pg.gd h0 h
 refine ⟨_,rfl,_,rfl,v,ia,bs,ins,nds,iw,rfl,pg.pa,pg.ft,hw,pw,fun wa H1 Zy s1 e1=>⟨agb,fun sa rP d hd WK=>⟨agf,fun tt Qt=>⟨tt,_,rfl,aK.of ae,rfl,_,_,rfl,_,_,rfl,_,_,rfl,_,_,rfl,rfl,?_⟩⟩⟩⟩
 have a1:=af rP (.lst [])
 have b1:(upd H1 sa (.lst [])) sa=some (.lst []):=ae
 generalize upd H1 sa (.lst [])=Ha at a1 b1 hd Qt ⊢
 have TZ:d≠sa:=(ah b1 hd).symm
 have a2:=af hd (DN P w d [])
 have b2:(upd Ha d (DN P w d [])) d=some (DN P w d []):=ae
 generalize upd Ha d (DN P w d [])=Hb at a2 b2 Qt ⊢
 generalize ho:(HO.tup [V.int 0,V.ref wa,V.ref sa,V.ref d])=ot
 have a3:=af Qt ot
 generalize upd Hb tt ot=Hc at a3 ⊢
 have Ur:=aa a1 (aa a2 a3)
 have T6:H1 sa=none:=rP
 have Yb:H1 d=none:=aq a1 hd
 have QR:cR P w (gI bs nds) (0,cM bs ins iw) Hc d []:=⟨⟨a3 _ _ b2,aaI _,abP,(fun p hp=>nomatch hp),WK⟩,fun j p hp=>by simp at hp⟩
 refine ⟨(fun m σ H2=>∃(pl:Int) (ws sd:List Int) (wb:Addr) (kvs:vP) (o6 o7:Option V),m=nds.length * n9 bs - kvs.length/\σ=[some v,some (.ref ia),some (.int pl),some (.ref wb),some (.ref sa),some (.ref d),o6,o7,none,none]/\ag H1 H2/\H2 sa=some (.lst (sd.map V.int))/\H2 wb=some (.lst (ws.map V.int))/\cR P w (gI bs nds) (0,cM bs ins iw) H2 d kvs/\tr (gI bs nds) kvs.length (0,cM bs ins iw)=some ((pl,ws),sd)),⟨_,0,cM bs ins iw,[],wa,[],_,_,rfl,rfl,Ur,a3 _ _ (a2 _ _ b1),Ur _ _ e1,QR,rfl⟩,?_⟩
 rintro m σ H2 ⟨pl,ws,sd,wb,kvs,o6,o7,rfl,rfl,s2,hs2,Kj,met,Kh⟩
 obtain ⟨⟨p0,p1,Uj⟩,YQ⟩:=inv Kh
 have kb:=met.bound fun j st sd h=>(inv h).1
 refine ⟨_,rfl,_,rfl,wb,_,rfl,ao.of Kj,fun c hc=>⟨agd,fun b hb=>⟨_,rfl,d,b,[true,false],kvs,keyOf (pl,ws),rfl,rfl,?_⟩⟩⟩
 have c1:=af hc (.tup (ws.map V.int))
 have c2:(upd H2 c (.tup (ws.map V.int))) c=some (.tup (ws.map V.int)):=ae
 generalize upd H2 c (.tup (ws.map V.int))=Hd at c1 c2 hb ⊢
 have c3:=af hb (.tup [.int pl,.ref c])
 have c4:(upd Hd b (.tup [.int pl,.ref c])) b=some (.tup [.int pl,.ref c]):=ae
 generalize upd Hd b (.tup [.int pl,.ref c])=H3 at c3 c4 ⊢
 have E3:=aa c1 c3
 have A8:=met.same E3
 refine ⟨A8.nd,m7 c4 (c3 _ _ c2),rfl,_,rfl,?_⟩
 refine aF (fun cc=>?_) (fun cc=>?_)
 · -- a new place
   have no:valN kvs (keyOf (pl,ws))=none:=by
     cases z:valN kvs (keyOf (pl,ws)) with
     | none=>rfl
     | some u=>rw [z] at cc; cases cc
   refine ⟨fun σ' H'=>∃m',m' < nds.length * n9 bs - kvs.length/\(fun m σ H2=>∃(pl:Int) (ws sd:List Int) (wb:Addr) (kvs:vP) (o6 o7:Option V),m=nds.length * n9 bs - kvs.length/\σ=[some v,some (.ref ia),some (.int pl),some (.ref wb),some (.ref sa),some (.ref d),o6,o7,none,none]/\ag H1 H2/\H2 sa=some (.lst (sd.map V.int))/\H2 wb=some (.lst (ws.map V.int))/\cR P w (gI bs nds) (0,cM bs ins iw) H2 d kvs/\tr (gI bs nds) kvs.length (0,cM bs ins iw)=some ((pl,ws),sd)) m' σ' H',fun _ _ h=>h,?_⟩
   have s13:=aa s2 E3
   have i6:=aa s1 s13
   have FP:=E3 _ _ hs2
   have Kk:=E3 _ _ Kj
   refine ⟨_,rfl,d,_,kvs,rfl,A8.nd,_,rfl,sa,_,rfl,.inl (ao.of FP),agd,fun tv XC=>?_⟩
   rw [ZX]
   have d1:=af XC (.tup [.int (kvs.length:Nat),.int (sd.length:Nat)])
   have d2:(upd H3 tv (.tup [.int (kvs.length:Nat),.int (sd.length:Nat)])) tv=some (.tup [.int (kvs.length:Nat),.int (sd.length:Nat)]):=ae
   generalize upd H3 tv (.tup [.int (kvs.length:Nat),.int (sd.length:Nat)])=H4 at d1 d2 ⊢
   refine ⟨_,rfl,_,rfl,_,rfl,wb,_,rfl,ao.of (d1 _ _ Kk),fun c5 Ph=>⟨agd,fun b5 Lg=>⟨d,b5,[true,false],kvs,keyOf (pl,ws),rfl,rfl,?_⟩⟩⟩
   have e1':=af Ph (.tup (ws.map V.int))
   have G6:(upd H4 c5 (.tup (ws.map V.int))) c5=some (.tup (ws.map V.int)):=ae
   generalize upd H4 c5 (.tup (ws.map V.int))=He at e1' G6 Lg ⊢
   have e3':=af Lg (.tup [.int pl,.ref c5])
   have KU:(upd He b5 (.tup [.int pl,.ref c5])) b5=some (.tup [.int pl,.ref c5]):=ae
   generalize upd He b5 (.tup [.int pl,.ref c5])=H5 at e3' KU ⊢
   have s35:=aa d1 (aa e1' e3')
   have LZ:=A8.same s35
   have k5:=m7 KU (e3' _ _ G6)
   have hl:kvs.length < sizeLine:=abJ (Z8 kb hN) (by decide)
   refine ⟨LZ.nd,k5,rfl,no,?_⟩
   have yA:=LZ.put (tv:=tv) k5 Kh no hl (e3' _ _ (e1' _ _ d2))
   have TN:=yA.bound fun j st sd h=>(inv h).1
   rw [Z0] at TN
   simp only [aam,aaU] at TN
   have lt:nds.length * n9 bs - (kvs.length + 1) < nds.length * n9 bs - kvs.length:=by omega
   have B4:ag H1 (upd H5 d (DN P w d (kvs++[(keyOf (pl,ws),b5,.ref tv)]))):=aG (aa s13 s35) Yb
   have LK:(upd H5 d (DN P w d (kvs++[(keyOf (pl,ws),b5,.ref tv)]))) sa=some (.lst (sd.map V.int)):=by rw [aj TZ.symm]; exact s35 _ _ FP
   have Yj:wb≠d:=fH Kj met.nd.at_ (fun z=>nomatch z)
   have LO:(upd H5 d (DN P w d (kvs++[(keyOf (pl,ws),b5,.ref tv)]))) wb=some (.lst (ws.map V.int)):=by rw [aj Yj]; exact s35 _ _ Kk
   generalize W4:kvs++[(keyOf (pl,ws),b5,V.ref tv)]=uL at yA B4 LK LO ⊢
   have yi:uL.length=kvs.length + 1:=by rw [← W4,Z0]; rfl
   generalize upd H5 d (DN P w d uL)=H6 at yA B4 LK LO ⊢
   obtain ⟨nd,yj⟩ : ∃nd,nds[pl.toNat]? = some nd:=⟨nds[pl.toNat]'(by have:pl < nds.length:=p1; have:0<=pl:=p0; omega),ZZ _⟩
   have g0:=pg.gd nd (aab yj)
   have BV:=aa s1 B4
   refine ⟨_,rfl,_,rfl,_,rfl,v,pl,wb,bs,ws,ins,nds,nd,_,rfl,⟨pg.pa.same BV,pg.ft.nd,pg.ft.len,pg.ft.sz,LO,Uj,p0,yj,g0⟩,fun en H7 s7=>?_,fun sx n ws' es r l1 l2 H7 td=>?_⟩
   · refine ⟨_,rfl,rfl,_,rfl,?_⟩
     refine aF (fun _=>?_) (fun c=>absurd (decide_eq_true rfl) c)
     have QS:=yA.same s7
     refine ⟨_,rfl,_,rfl,d,_,uL,rfl,QS.nd,_,_,rfl,rfl,age,fun r rO=>?_⟩
     show Q (V.ref r) (upd H7 r (.tup [.ref sa,.bN,.int (((uL.length:Nat):Int) - 1)]))
     rw [show ((uL.length:Nat):Int) - 1=((kvs.length:Nat):Int) by rw [yi]; omega]
     have s8:=af rO (.tup [.ref sa,.bN,.int (kvs.length:Nat)])
     have s78:=aa s7 s8
     refine q r sa .bN kvs.length sd none _ (aa BV s78) (aq (aa BV s7) rO) ae (aq s1 T6) (s78 _ _ LK) rfl ?_ (.inl ⟨kvs.length,(pl,ws),sd,Kh,by rw [nR yj]; exact en,rfl⟩)
     show sd.length + 0<=_
     omega
   · refine ⟨_,rfl,rfl,_,rfl,?_⟩
     refine aF (fun c=>absurd (of_decide_eq_true c) (by simp)) (fun _=>?_)
     obtain ⟨q0,q1,q2,q3⟩:=pC pg.ft.sz Uj g0 es
     have Qo:=td.s _ _ LK
     refine ⟨_,rfl,r,_,rfl,aK.of td.er,rfl,_,_,rfl,_,_,rfl,_,_,rfl,rfl,?_⟩
     refine ⟨_,rfl,.inl ⟨rfl,_,ao.of Qo⟩,_,rfl,sa,l1,_,_,rfl,rfl,Qo,td.e1,?_,?_⟩
     · rw [ZX,ZX]
       have:sd.length + sx.length<=100001:=by have:sx.length<=1:=q3; omega
       exact Z8 this (by decide)
     have nl:l2≠sa:=fun z=>by have:=td.h2; rw [z,LK] at this; cases this
     have nds2:d≠sa:=TZ
     have QT:cR P w (gI bs nds) (0,cM bs ins iw) (upd H7 sa (.lst (sd.map V.int++sx.map V.int))) d uL:=(yA.same td.s).keep (by rw [aj nds2]; exact td.s _ _ yA.nd.at_) (TK.lst Qo)
     refine ⟨_,lt,n,ws',sd++sx,l2,uL,_,_,by rw [yi],rfl,aG (aa B4 td.s) T6,by rw [ae,Z5],by rw [aj nl]; exact td.e2,QT,?_⟩
     rw [yi]
     exact qv Kh (by rw [nR yj]; exact es)
 · -- Vi again
   have MZ:∃u,valN kvs (keyOf (pl,ws))=some u:=by
     cases z:valN kvs (keyOf (pl,ws)) with
     | none=>rw [z] at cc; exact absurd rfl cc
     | some u=>exact ⟨u,rfl⟩
   obtain ⟨u,hu⟩:=MZ
   obtain ⟨j,sj,tj,hj,UG,rfl,XB⟩:=A8.find hu
   have Kk:=E3 _ _ Kj
   refine ⟨_,rfl,_,rfl,_,rfl,wb,_,rfl,ao.of Kk,fun c5 Ph=>⟨agd,fun b5 Lg=>⟨d,b5,[true,false],kvs,keyOf (pl,ws),.ref tj,rfl,rfl,?_⟩⟩⟩
   have e1':=af Ph (.tup (ws.map V.int))
   have G6:(upd H3 c5 (.tup (ws.map V.int))) c5=some (.tup (ws.map V.int)):=ae
   generalize upd H3 c5 (.tup (ws.map V.int))=He at e1' G6 Lg ⊢
   have e3':=af Lg (.tup [.int pl,.ref c5])
   have KU:(upd He b5 (.tup [.int pl,.ref c5])) b5=some (.tup [.int pl,.ref c5]):=ae
   generalize upd He b5 (.tup [.int pl,.ref c5])=H5 at e3' KU ⊢
   have s35:=aa e1' e3'
   have s25:=aa E3 s35
   have NZ:=s25 _ _ hs2
   refine ⟨(A8.same s35).nd,m7 KU (e3' _ _ G6),rfl,hu,tj,_,rfl,aK.of (s35 _ _ XB),rfl,_,_,rfl,_,_,rfl,rfl,?_⟩
   obtain ⟨y,hy,rest,fG⟩:=GF Kh (aa5 hj)
   rw [UG] at hy
   cases hy
   have Qq:sd=sj++rest:=fG
   subst Qq
   refine ⟨_,rfl,_,rfl,_,rfl,sa,_,rfl,ao.of NZ,fun x1 qE=>?_⟩
   rw [G1]
   have f1:=af qE (.lst (sj.map V.int))
   have f2:(upd H5 x1 (.lst (sj.map V.int))) x1=some (.lst (sj.map V.int)):=ae
   generalize upd H5 x1 (.lst (sj.map V.int))=Hf at f1 f2 ⊢
   refine ⟨_,rfl,_,rfl,_,rfl,sa,_,rfl,ao.of (f1 _ _ NZ),fun x2 yp=>?_⟩
   rw [zR]
   have f3:=af yp (.lst (rest.map V.int))
   have f4:(upd Hf x2 (.lst (rest.map V.int))) x2=some (.lst (rest.map V.int)):=ae
   have nx:x2≠x1:=(ah f2 yp).symm
   generalize upd Hf x2 (.lst (rest.map V.int))=Hg at f3 f4 ⊢
   refine ⟨_,rfl,age,fun r rO=>?_⟩
   have f5:=af rO (.tup [.ref x1,.ref x2,.int (j:Nat)])
   have Up:=aa s1 (aa s2 (aa s25 (aa f1 f3)))
   have YC:=aa s1 (aa s2 (aa s25 f1))
   have Kq:=aa s1 (aa s2 s25)
   have f35:=aa f3 f5
   refine q r x1 (.ref x2) j sj (some rest) _ (aa Up f5) (aq Up rO) ae (aq Kq qE) (f35 _ _ f2) ⟨x2,rfl,nx,aq YC yp,f5 _ _ f4⟩ ?_ (.inr ⟨j,kvs.length,(pl,ws),sj,rest,hj,UG,Kh,met.apart,rfl⟩)
   show sj.length + rest.length<=_
   rw [Z0] at YQ
   omega
abbrev nF:Stmt:=top 39
abbrev eJ:Stmt:=top 38
abbrev dR:Stmt:=top 37
def tL (H:Hp):V->Option (List Int)->Prop
 | ro,none=>ro=.bN
 | ro,some xs=>∃l,ro=.ref l/\H l=some (.lst (xs.map V.int))
structure ip (H:Hp)(v:V)(sd:List Int)(rd:Option (List Int)):Prop where
 at_:∃p sa ro n,v=.ref p/\H p=some (.tup [.ref sa,ro,.int n])/\H sa=some (.lst (sd.map V.int))/\tL H ro rd
 few:sd.length + (rd.getD []).length<=100000
theorem tL.same {H H':Hp}(s:ag H H'):∀{rd:Option (List Int)} {ro:V},tL H ro rd->tL H' ro rd
 | none,_,h=>h
 | some _,_,⟨l,e,h⟩=>⟨l,e,s _ _ h⟩
theorem ip.same {H H':Hp}{v:V}{sd:List Int}{rd:Option (List Int)}(h:ip H v sd rd)(s:ag H H'):ip H' v sd rd:=by
 obtain ⟨p,sa,ro,n,e,h1,h2,h3⟩:=h.at_
 exact ⟨⟨p,sa,ro,n,e,s _ _ h1,s _ _ h2,h3.same s⟩,h.few⟩
def jV:Sp:=fun vs H Q _=>∃(v:V) (m:Nat) (sd:List Int) (rd:Option (List Int)),vs=[v,.int (m:Nat)]/\ip H v sd rd/\m<=1000000/\∀(l:Addr) (fs:List Int) (H':Hp),ag H H'->H l=none->H' l=some (.lst (fs.map V.int))->eM sd rd m fs->Q (.ref l) H'
theorem jS:aD ["run","many","ahead","around","steps","said"] ["run","many"] (ai nF):=⟨rfl,rfl,rfl,by decide +kernel,rfl,by decide +kernel,by decide +kernel⟩
theorem ua:aY nF "len":=by decide +kernel
theorem rg:aY nF "list":=by decide +kernel
theorem Bp {f:Addr}{fd:aaf}(F:dm K "first_said" "first_said" nF f fd)(m_len:mg "len"=none)(m_list:mg "list"=none):aP P w K mg base cK 1 f fd ["run","many"] jV:=by
 refine F.ok jS (fun vs H Q E h=>?_) (fun cdv A outer s H vs Q E hr h=>?_)
 · obtain ⟨v,m,sd,rd,rfl,_⟩:=h
   rfl
 obtain ⟨v,m,sd,rd,rfl,LG,hm,q⟩:=h
 refine kG ⟨_,(ad7 (aeO (ad4 0) (aes 3 (aej (aee 2 jS.nd) (aej (aee 3 jS.nd) (aej (aee 4 jS.nd) aet)))))
   (ad7 (aeh 5 jS.nd (aew aeK rg m_list (by decide +kernel) (ad3 (ad4 2) ad5)))
   (ad7 (L3.CD (aeL (L3.GV (L3.YW (ad4 3)) (L3.GU (aek aeC (aep aer ua m_len aad (ad3 (ad4 5) ad5)) (ad4 1))))) (aea (aeu (afi (ad4 5) (ad3 (ad4 3) ad5)))))
   (aea (aec (aeX (ad4 5) (ad4 1))))))),?_⟩
 have few:=LG.few
 obtain ⟨p,sa,ro,n,rfl,hp,rP,Kg⟩:=LG.at_
 refine ⟨_,rfl,p,_,rfl,aK.of hp,rfl,_,_,rfl,_,_,rfl,_,_,rfl,rfl,?_⟩
 refine ⟨_,rfl,sa,_,rfl,.inl (ao.of rP),fun sb FQ=>?_⟩
 obtain ⟨H1,s1,e1,zz⟩:=aJ FQ (.lst (sd.map V.int))
 rw [zz]; clear zz
 refine ⟨(fun M σ H2=>∃(wd:List Int) (k:Nat),M=m - wd.length/\σ=[some (.ref p),some (.int (m:Nat)),some (.ref sa),some ro,some (.int n),some (.ref sb)]/\ag H H2/\H2 sb=some (.lst (wd.map V.int))/\wd=sd++rep k (rd.getD [])/\wd.length<=1100000),⟨_,sd,0,rfl,rfl,s1,e1,by unfold rep; simp,by omega⟩,?_⟩
 rintro M σ H2 ⟨wd,k,rfl,rfl,s2,n6,Tz,hwl⟩
 have fin:∀(sd':List Int),eM sd rd m (sd'.take m)->wd=sd'->∀(l:Addr),H2 l=none->Q (.ref l) (upd H2 l (.lst (kj (wd.map V.int) none (some (m:Int))))):=fun sd' hf e l hl=>by
   rw [bq,vW,e]
   exact q l (sd'.take m) _ (aC s2 hl) (aq s2 hl) ae hf
 cases rd with
 | none=>
   have AS:ro=.bN:=Kg
   subst AS
   refine ⟨_,rfl,false,rfl,iW (iW ?_)⟩
   have Ki:wd=sd:=by rw [Tz]; unfold rep; simp
   exact ⟨_,rfl,_,rfl,_,rfl,sb,_,rfl,ao.of n6,fun l hl=>fin sd (mD rfl) Ki l hl⟩
 | some xs=>
   obtain ⟨la,rfl,Ls⟩:=Kg
   have rJ:=s2 _ _ Ls
   have K3:sd.length + xs.length<=100000:=few
   have DQ:wd=sd++rep k xs:=Tz
   by_cases hx:xs=[]
   · subst hx
     refine ⟨_,rfl,false,.inl ⟨_,ao.of rJ,rfl⟩,iW (iW ?_)⟩
     have Ki:wd=sd:=by rw [DQ]; unfold rep; simp
     exact ⟨_,rfl,_,rfl,_,rfl,sb,_,rfl,ao.of n6,fun l hl=>fin sd (mD rfl) Ki l hl⟩
   · have lL:0 < xs.length:=List.length_pos_iff.mpr hx
     refine ⟨_,rfl,true,.inl ⟨_,ao.of rJ,by cases xs with | nil=>exact absurd rfl hx | cons a r=>rfl⟩,fR ?_⟩
     refine ⟨_,rfl,sb,_,rfl,.inl (ao.of n6),_,rfl,_,_,rfl,rfl,_,rfl,?_⟩
     rw [ZX]
     refine aF (fun c=>?_) (fun c=>?_)
     · have hlt:wd.length < m:=by have:=of_decide_eq_true c; omega
       refine ⟨fun σ' H'=>∃m',m' < m - wd.length/\(fun M σ H2=>∃(wd:List Int) (k:Nat),M=m - wd.length/\σ=[some (.ref p),some (.int (m:Nat)),some (.ref sa),some (.ref la),some (.int n),some (.ref sb)]/\ag H H2/\H2 sb=some (.lst (wd.map V.int))/\wd=sd++rep k ((some xs).getD [])/\wd.length<=1100000) m' σ' H',fun _ _ h=>h,?_⟩
       refine ⟨_,rfl,.inl ⟨rfl,_,ao.of n6⟩,_,rfl,sb,la,_,_,rfl,rfl,n6,rJ,?_,?_⟩
       · rw [ZX,ZX]
         exact Z8 (show wd.length + xs.length<=1100000 by omega) (by decide)
       refine ⟨m - (wd++xs).length,by rw [Z0]; omega,wd++xs,k + 1,rfl,rfl,aG s2 FQ,by rw [ae,Z5],?_,by rw [Z0]; omega⟩
       show wd++xs=sd++rep (k + 1) xs
       rw [nE,← ace,← DQ]
     · have Lo:m<=wd.length:=by
         have:¬ ((wd.length:Int) < (m:Int)):=fun z=>c (decide_eq_true z)
         omega
       exact ⟨_,rfl,_,rfl,_,rfl,sb,_,rfl,ao.of n6,fun l hl=>fin (sd++rep k xs) (tZ (by rw [← DQ]; exact Lo)) DQ l hl⟩
theorem xZ (s:Src K mg "first_said" nF)(m_len:mg "len"=none)(m_list:mg "list"=none):aX P w K mg base "first_said" ["run","many"] 1 jV:=
 let ⟨f,fd,F,m⟩:=s
 ⟨f,fd,Bp F m_len m_list,F.kp,F.binds fun _ _ _ _ _ _ us hl=>match us,hl with | [_,_],_=>rfl,m⟩
def OC (H:Hp)(v:V)(z:List Int):Prop:=∃l,v=.ref l/\H l=some (.lst (z.map V.int))
def gH:Sp:=fun vs H Q _=>∃(v v':V) (sd:List Int) (rd:Option (List Int)) (sd':List Int) (rd':Option (List Int)),vs=[v,v']/\ip H v sd rd/\ip H v' sd' rd'/\∀(H':Hp),ag H H'->Q (.int (jE sd rd sd' rd':Nat)) H'
theorem sT:aD ["run","another","rounds"] ["run","another"] (ai eJ):=⟨rfl,rfl,rfl,by decide +kernel,rfl,by decide +kernel,by decide +kernel⟩
theorem kW:aY eJ "len":=by decide +kernel
theorem rp:aY eJ "max":=by decide +kernel
theorem rq:aY eJ "sum":=by decide +kernel
theorem yO {f:Addr}{fd:aaf}(F:dm K "numbers_that_settle" "numbers_that_settle" eJ f fd)(m_len:mg "len"=none)(m_max:mg "max"=none)(m_sum:mg "sum"=none):aP P w K mg base cK 1 f fd ["run","another"] gH:=by
 refine F.ok sT (fun vs H Q E h=>?_) (fun cdv A outer s H vs Q E hr h=>?_)
 · obtain ⟨v,v',sd,rd,sd',rd',rfl,_⟩:=h
   rfl
 obtain ⟨v,v',sd,rd,sd',rd',rfl,r1,r2,q⟩:=h
 refine kG ⟨_,(ad7 (aeW (i:=2) [none] ["told"] (show aE _ (ai eJ) from ⟨rfl,by decide +kernel,by decide +kernel,by decide +kernel⟩) (by rfl) (L3.iT (aed (ad3 (ad4 0) (ad3 (ad4 1) ad5)))) (fun _ _ _ _ _=>⟨(aee 0 (show (["told"]:List Str).Nodup from by decide +kernel)),(L3.if1 (aek L3.Bk (ad8 aei (ad4 0) ad6) aeS)),(ad8 aei (ad4 0) ad6)⟩) sT.nd)
   (aea (aec (ad9 aey (aep L3.KJ rp m_max (by decide +kernel) (ad3 (aep aer kW m_len aad (ad3 (ad8 aei (ad4 0) ad6) ad5)) (ad3 (aep aer kW m_len aad (ad3 (ad8 aei (ad4 1) ad6) ad5)) ad5))) (aep L3.KO rq m_sum (by decide +kernel) (ad3 (aeB [none] ["told"] (show aE _ (ai eJ) from ⟨rfl,by decide +kernel,by decide +kernel,by decide +kernel⟩) (by rfl) (aeA (ad4 2)) (fun _ _ _ _ _=>⟨(aee 0 (show (["told"]:List Str).Nodup from by decide +kernel)),aev,(aep aer (by rfl) m_len aad (ad3 (ad4 0) ad5))⟩)) ad5)))))),?_⟩
 obtain ⟨p,sa,ro,n,rfl,hp,rP,Kg⟩:=id r1.at_
 obtain ⟨p',MP,Ob,n',rfl,oz,DO,AS⟩:=id r2.at_
 refine ⟨_,rfl,_,rfl,agd,fun tp uG=>?_⟩
 obtain ⟨H1,s1,g1,zz⟩:=aJ uG (.tup [.ref p,.ref p'])
 rw [zz]; clear zz
 refine ⟨tp,rfl,⟨_,aK.of g1⟩,fun ra NW=>?_⟩
 refine qU (xs:=[.ref p,.ref p']) (fun i H2=>∃(ys:List V) (zs:List (List Int)),ag H1 H2/\H2 ra=some (.lst ys)/\ys.length<=i/\Paired (OC H) ys zs/\(zs.map abD).sum=(([(rd.getD []).length,(rd'.getD []).length]:List Nat).take i).sum) ⟨[],[],af NW _,ae,Z3 _,.nil,rfl⟩ (fun i H2 _ z=>?_) (fun i x H2 hx z=>?_) (fun H2 z=>?_)
 · obtain ⟨ys,zs,s2,_⟩:=z
   exact aK.of (s2 _ _ g1)
 · obtain ⟨ys,zs,s2,ym,yl,py,zj⟩:=z
   have s02:=aa s1 s2
   have yp:∃(pp sx:Addr) (rx:V) (nx:Int) (rdx:Option (List Int)),x=.ref pp/\H pp=some (.tup [.ref sx,rx,.int nx])/\tL H rx rdx/\([(rd.getD []).length,(rd'.getD []).length]:List Nat)[i]? = some (rdx.getD []).length/\i < 2:=by
     match i,hx with
     | 0,hx=>cases hx; exact ⟨p,sa,ro,n,rd,rfl,hp,Kg,rfl,by decide⟩
     | 1,hx=>cases hx; exact ⟨p',MP,Ob,n',rd',rfl,oz,AS,rfl,by decide⟩
   obtain ⟨pp,sx,rx,nx,rdx,rfl,wo,Tt,hlen,i2⟩:=yp
   refine bo ?_
   refine ⟨_,rfl,pp,_,_,_,rfl,rfl,aK.of (s02 _ _ wo),rfl,rfl,_,rfl,?_⟩
   cases rdx with
   | none=>
     have e:rx=.bN:=Tt
     subst e
     refine aF (fun c=>absurd c (by decide)) (fun _=>?_)
     refine aL (Pv:=fun i H2=>∃(ys:List V) (zs:List (List Int)),ag H1 H2/\H2 ra=some (.lst ys)/\ys.length<=i/\Paired (OC H) ys zs/\(zs.map abD).sum=(([(rd.getD []).length,(rd'.getD []).length]:List Nat).take i).sum) (by repeat' constructor) i2 ⟨ys,zs,s2,ym,by omega,py,?_⟩
     rw [Z9,hlen,zj,acs]
     rfl
   | some xs=>
     obtain ⟨l,rfl,hl⟩:=Tt
     refine aF (fun _=>?_) (fun c=>absurd (by rw [decide_eq_false (fun z=>nomatch z)]; rfl) c)
     refine ⟨_,rfl,pp,_,_,_,rfl,rfl,aK.of (s02 _ _ wo),rfl,_,ym,aB (by omega),aL (Pv:=fun i H2=>∃(ys:List V) (zs:List (List Int)),ag H1 H2/\H2 ra=some (.lst ys)/\ys.length<=i/\Paired (OC H) ys zs/\(zs.map abD).sum=(([(rd.getD []).length,(rd'.getD []).length]:List Nat).take i).sum) (by repeat' constructor) i2 ⟨ys++[.ref l],zs++[xs],aG s2 NW,ae,by rw [Z0]; show ys.length + 1<=i + 1; omega,Paired.snoc py ⟨l,rfl,hl⟩,?_⟩⟩
     rw [Z5,acs,zj,Z9,hlen,acs]
     rfl
 obtain ⟨ys,zs,s2,ym,yl,py,zj⟩:=z
 have ZW:ys.length<=2:=yl
 have zj:(zs.map abD).sum=(rd.getD []).length + ((rd'.getD []).length + 0):=zj
 have s02:=aa s1 s2
 have zl:ys.length=zs.length:=Paired.length py
 refine ⟨_,rfl,p,_,_,_,rfl,rfl,aK.of (s02 _ _ hp),rfl,sa,_,rfl,.inl (ao.of (s02 _ _ rP)),_,rfl,p',_,_,_,rfl,rfl,aK.of (s02 _ _ oz),rfl,MP,_,rfl,.inl (ao.of (s02 _ _ DO)),_,_,rfl,?_⟩
 refine ⟨_,rfl,ra,rfl,⟨_,ao.of ym⟩,fun lb NS=>?_⟩
 have Yh:ra≠lb:=ah ym NS
 refine bj (xs:=ys) (fun i H4=>H4=upd H2 lb (.lst (((zs.take i).map fun z=>((z.length:Nat):Int)).map V.int))) rfl (fun i H4 _ z=>?_) (fun i x H4 hx z=>?_) (fun H4 z=>?_)
 · subst z
   exact ao.of (by rw [aj Yh]; exact ym)
 · subst z
   obtain ⟨zz,hz,l,rfl,hl⟩:=Paired.get py hx
   have dP:i < ys.length:=(List.getElem?_eq_some_iff.mp hx).1
   refine bo ?_
   refine bU (A:=fun H3=>de _ lb _ H3 _) ?_
   refine ⟨_,rfl,l,_,rfl,.inl (ao.of (af NS _ _ _ (s02 _ _ hl))),_,ae,aB (by rw [ZX,ZX,aak]; omega),aL (Pv:=fun i H4=>H4=upd H2 lb (.lst (((zs.take i).map fun z=>((z.length:Nat):Int)).map V.int))) (by repeat' constructor) dP ?_⟩
   rw [bS,Z9,hz,Z5,Z5,ZX]
   rfl
 · subst z
   rw [zl,aao]
   refine ⟨lb,_,rfl,ao.of ae,_,_,rfl,rfl,?_⟩
   have es:∀l:List (List Int),(l.map fun z=>((z.length:Nat):Int)).sum=(((l.map abD).sum:Nat):Int):=fun l=>by
     induction l with
     | nil=>rfl
     | cons a r ih=>rw [aaw,aaw,List.sum_cons,List.sum_cons,ih]; omega
   have ev:(if (((sd'.map V.int).length:Int)) > ((sd.map V.int).length:Int) then ((sd'.map V.int).length:Int) else ((sd.map V.int).length:Int)) + (zs.map fun z=>((z.length:Nat):Int)).sum=((jE sd rd sd' rd':Nat):Int):=by
     rw [es,zj,ZX,ZX]
     unfold jE
     split <;> omega
   have fin:=q _ (aa s02 (af NS (.lst ((zs.map fun z=>((z.length:Nat):Int)).map V.int))))
   rw [← ev] at fin
   exact fin
theorem ur (s:Src K mg "numbers_that_settle" eJ)(m_len:mg "len"=none)(m_max:mg "max"=none)(m_sum:mg "sum"=none):aX P w K mg base "numbers_that_settle" ["run","another"] 1 gH:=
 let ⟨f,fd,F,m⟩:=s
 ⟨f,fd,yO F m_len m_max m_sum,F.kp,F.binds fun _ _ _ _ _ _ us hl=>match us,hl with | [_,_],_=>rfl,m⟩
def jZ:Sp:=fun vs H Q _=>∃(v v':V) (sd:List Int) (rd:Option (List Int)) (sd':List Int) (rd':Option (List Int)),vs=[v,v']/\ip H v sd rd/\ip H v' sd' rd'/\∀(u:V) (H':Hp),ag H H'->((tG sd rd sd' rd'/\u=.bN)\/(¬ tG sd rd sd' rd'/\∃n:Nat,u=.int (n:Nat)/\C3 sd rd sd' rd' n))->Q u H'
theorem wU {H:Hp}{rd:Option (List Int)}{ro:V}(h:tL H ro rd):decide (ro=.bN)=rd.isNone:=by
 cases rd with
 | none=>have e:ro=.bN:=h; subst e; rfl
 | some xs=>obtain ⟨l,rfl,_⟩:=h; rfl
theorem eX:aD ["run","another","many","first","second","at","number","heard"] ["run","another"] (ai dR):=⟨rfl,rfl,rfl,by decide +kernel,rfl,by decide +kernel,by decide +kernel⟩
theorem jt:aY dR "enumerate":=by decide +kernel
theorem d7:aY dR "first_said":=by decide +kernel
theorem eF:aY dR "len":=by decide +kernel
theorem rm:aY dR "min":=by decide +kernel
theorem dO:aY dR "numbers_that_settle":=by decide +kernel
theorem rn:aY dR "zip":=by decide +kernel
theorem yN {f:Addr}{fd:aaf}(F:dm K "said_alike" "said_alike" dR f fd)(m_len:mg "len"=none)(m_min:mg "min"=none)(m_enumerate:mg "enumerate"=none)(m_zip:mg "zip"=none)(ST:aX P w K mg base "numbers_that_settle" ["run","another"] 1 gH)(FS:aX P w K mg base "first_said" ["run","many"] 1 jV):aP P w K mg base cK 2 f fd ["run","another"] jZ:=by
 refine F.ok eX (fun vs H Q E h=>?_) (fun cdv A outer s H vs Q E hr h=>?_)
 · obtain ⟨v,v',sd,rd,sd',rd',rfl,_⟩:=h
   rfl
 obtain ⟨v,v',sd,rd,sd',rd',rfl,r1,r2,q⟩:=h
 refine kG ⟨_,(ad7 (aeh 2 eX.nd (aef ST hr dO (ad3 (ad4 0) (ad3 (ad4 1) ad5))))
   (ad7 (L3.Q8 3 4 eX.nd (ad3 (aef FS hr d7 (ad3 (ad4 0) (ad3 (ad4 2) ad5))) (ad3 (aef FS hr d7 (ad3 (ad4 1) (ad3 (ad4 2) ad5))) ad5)))
   (ad7 (aeJ (L3.XS jt m_enumerate rn m_zip (ad3 (ad4 3) (ad3 (ad4 4) ad5))) (aes 2 (aej (aee 5 eX.nd) (aej (aes 2 (aej (aee 6 eX.nd) (aej (aee 7 eX.nd) aet))) aet))) (aea (ael (aek L3.yG (ad4 6) (ad4 7)) (aea (aec (ad4 5))) aem)))
   (ad7 (ael (aeL (aeQ (aek L3.yG (aep aer eF m_len aad (ad3 (ad4 3) ad5)) (aep aer eF m_len aad (ad3 (ad4 4) ad5))) (aeR (aek L3.yG (aeE L3.Bi (ad8 aei (ad4 0) ad6) aeS) (aeE L3.Bi (ad8 aei (ad4 1) ad6) aeS))))) (aea (aec (aep L3.KL rm m_min (by decide +kernel) (ad3 (aep aer eF m_len aad (ad3 (ad4 3) ad5)) (ad3 (aep aer eF m_len aad (ad3 (ad4 4) ad5)) ad5))))) aem)
   (aea (aec aeS)))))),?_⟩
 have few1:=r1.few
 have few2:=r2.few
 refine ⟨_,rfl,_,rfl,v,v',sd,rd,sd',rd',rfl,r1,r2,fun H1 s1=>?_⟩
 have hm:jE sd rd sd' rd'<=1000000:=by unfold jE; omega
 obtain ⟨m,Ti⟩ : ∃m,m=jE sd rd sd' rd':=⟨_,rfl⟩
 rw [← Ti] at hm ⊢
 refine ⟨_,rfl,_,rfl,v,m,sd,rd,rfl,r1.same s1,hm,fun l1 fs H2 s2 _ e1 w1=>?_⟩
 have s02:=aa s1 s2
 refine ⟨_,rfl,_,rfl,v',m,sd',rd',rfl,r2.same s02,hm,fun l2 fs' H3 s3 _ e2 w2=>⟨_,_,rfl,?_⟩⟩
 have i6:=aa s02 s3
 have e1:=s3 _ _ e1
 have Zh:=w1.len
 have Zi:=w2.len
 obtain ⟨p,sa,ro,n,rfl,hp,rP,Kg⟩:=id (r1.same i6).at_
 obtain ⟨p',MP,Ob,n',rfl,oz,DO,AS⟩:=id (r2.same i6).at_
 have big:∀{n:Nat},n<=m->n < 2 ^ 63:=fun h=>by omega
 refine ⟨_,rfl,_,rfl,l1,l2,rfl,⟨_,ao.of e1⟩,⟨_,ao.of e2⟩,?_⟩
 refine G9 (xs:=fs.map V.int) (ys:=fs'.map V.int) (fun i σ H4=>(∃av nv hv,σ=[some (.ref p),some (.ref p'),some (.int (m:Nat)),some (.ref l1),some (.ref l2),av,nv,hv])/\ag H3 H4/\∀j,j < i->fs[j]? = fs'[j]?) ⟨⟨_,_,_,rfl⟩,same_refl _,fun j hj=>absurd hj (Nat.not_lt_zero _)⟩ (fun i σ H4 z=>⟨ao.of (z.2.1 _ _ e1),ao.of (z.2.1 _ _ e2)⟩) (fun i x y pp qq σ H4 hx hy z wo Tq=>?_) (fun σ H4 z=>?_)
 · obtain ⟨⟨av,nv,hv,rfl⟩,s4,al⟩:=z
   obtain ⟨a,ha,rfl⟩:=df hx
   obtain ⟨b,hb,rfl⟩:=df hy
   have sp:ag H4 (upd H4 pp (.tup [.int a,.int b])):=af wo _
   have gp:(upd H4 pp (.tup [.int a,.int b])) pp=some (.tup [.int a,.int b]):=ae
   generalize upd H4 pp (.tup [.int a,.int b])=H5 at sp gp Tq ⊢
   obtain ⟨H6,sq,gq,zz⟩:=aJ Tq (.tup [.int (i:Nat),.ref pp])
   rw [zz]; clear zz
   have Uv:=aa s4 (aa sp sq)
   refine ⟨qq,_,rfl,aK.of gq,rfl,_,_,rfl,_,_,rfl,⟨pp,_,rfl,aK.of (sq _ _ gp),rfl,_,_,rfl,_,_,rfl,rfl,rfl,?_⟩⟩
   refine ⟨_,rfl,_,rfl,rfl,_,rfl,?_⟩
   have ux:i < fs.length:=(List.getElem?_eq_some_iff.mp ha).1
   refine aF (fun c=>?_) (fun c=>?_)
   · have NK:a≠b:=fun z=>by rw [z,decide_eq_true rfl] at c; exact absurd c (by decide)
     have uz:bH sd rd i≠bH sd' rd' i:=by
       rw [w1.at (by omega),w2.at (by omega),ha,hb]
       exact fun z=>NK (aap z)
     refine ⟨_,rfl,q _ _ (aa i6 Uv) (.inr ⟨fun al=>uz (al.1 i),i,rfl,fun j hj=>?_,fun z=>uz z.1⟩)⟩
     rw [w1.at (by omega),w2.at (by omega)]
     refine ⟨al j hj,?_⟩
     rw [ZZ (by omega)]
     rfl
   · have NK:a=b:=by
       by_cases z:a=b
       · exact z
       · exact absurd (by rw [decide_eq_false (fun y=>z (by injection y))]; rfl) c
     refine ⟨⟨_,_,_,rfl⟩,Uv,fun j hj=>?_⟩
     by_cases e:j=i
     · subst e
       rw [ha,hb,NK]
     · exact al j (by omega)
 obtain ⟨⟨av,nv,hv,rfl⟩,s4,al⟩:=z
 rw [ZX,ZX] at al
 have e1:=s4 _ _ e1
 have e2:=s4 _ _ e2
 have Kp:=aa i6 s4
 have pre:∀i,i < min fs.length fs'.length->bH sd rd i=bH sd' rd' i/\(bH sd rd i).isSome=true:=fun i hi=>by
   rw [w1.at (by omega),w2.at (by omega)]
   refine ⟨al i hi,?_⟩
   rw [ZZ (by omega)]
   rfl
 have mn:(if ((fs'.length:Nat):Int) < ((fs.length:Nat):Int) then ((fs'.length:Nat):Int) else ((fs.length:Nat):Int))=((min fs.length fs'.length:Nat):Int):=by split <;> omega
 have uQ:(∀z:bH sd rd (min fs.length fs'.length)=bH sd' rd' (min fs.length fs'.length),¬ (bH sd rd (min fs.length fs'.length)).isSome=true)->¬ tG sd rd sd' rd'->Q (.int (if ((fs'.length:Nat):Int) < ((fs.length:Nat):Int) then ((fs'.length:Nat):Int) else ((fs.length:Nat):Int))) H4:=fun h1 h2=>by
   rw [mn]
   exact q _ _ Kp (.inr ⟨h2,_,rfl,pre,fun z=>h1 z.1 z.2⟩)
 refine ⟨_,rfl,l1,_,rfl,.inl (ao.of e1),_,rfl,l2,_,rfl,.inl (ao.of e2),rfl,_,rfl,?_⟩
 rw [ZX,ZX]
 refine aF (fun c=>fR ?_) (fun c=>?_)
 · have hne:fs.length≠fs'.length:=fun z=>by rw [z,decide_eq_true rfl] at c; exact absurd c (by decide)
   refine ⟨_,rfl,l1,_,rfl,.inl (ao.of e1),_,rfl,l2,_,rfl,.inl (ao.of e2),_,_,rfl,?_⟩
   rw [ZX,ZX]
   by_cases hlt:fs.length < fs'.length
   · have em:min fs.length fs'.length=fs.length:=by omega
     have n1:=oZ w1 (by omega)
     have n2:∃x,bH sd' rd' fs.length=some x:=⟨fs'[fs.length],by rw [w2.at (by omega),ZZ hlt]⟩
     obtain ⟨x,n2⟩:=n2
     refine uQ (fun z=>by rw [em,n1]; decide) (fun al=>?_)
     have:=al.1 fs.length
     rw [n1,n2] at this
     cases this
   · have hlt:fs'.length < fs.length:=by omega
     have em:min fs.length fs'.length=fs'.length:=by omega
     have n2:=oZ w2 (by omega)
     have n1:∃x,bH sd rd fs'.length=some x:=⟨fs[fs'.length],by rw [w1.at (by omega),ZZ hlt]⟩
     obtain ⟨x,n1⟩:=n1
     refine uQ (fun z=>by rw [em,n1,n2] at z; cases z) (fun al=>?_)
     have:=al.1 fs'.length
     rw [n1,n2] at this
     cases this
 have hle:fs.length=fs'.length:=by
   by_cases z:fs.length=fs'.length
   · exact z
   · exact absurd (by rw [decide_eq_false (fun y=>z (by injection y with y; omega))]; rfl) c
 refine ⟨_,rfl,p,_,_,_,rfl,rfl,aK.of (s4 _ _ hp),rfl,rfl,_,rfl,p',_,_,_,rfl,rfl,aK.of (s4 _ _ oz),rfl,rfl,rfl,_,rfl,?_⟩
 have d1:=wU Kg
 have d2:=wU AS
 rw [d1,d2]
 refine aF (fun c=>?_) (fun c=>?_)
 · have hne:rd.isNone≠rd'.isNone:=fun z=>by rw [z,decide_eq_true rfl] at c; exact absurd c (by decide)
   refine ⟨_,rfl,l1,_,rfl,.inl (ao.of e1),_,rfl,l2,_,rfl,.inl (ao.of e2),_,_,rfl,?_⟩
   rw [ZX,ZX]
   have T5:∀{sd:List Int} {rd:Option (List Int)} {fs:List Int},eM sd rd m fs->rd=none->sd.length<=m->bH sd rd fs.length=none:=fun {sd rd fs} w h1 h2=>by
     subst h1
     have h3:sd.length<=fs.length:=by
       by_cases z:sd.length<=fs.length
       · exact z
       · have:=w.at (i:=fs.length) (by omega)
         unfold bH at this
         rw [if_pos (by omega),ZZ (by omega),abR (Z3 _)] at this
         cases this
     exact gu rfl h3
   refine uQ (fun z y=>?_) (fun al=>hne al.2)
   unfold jE at Ti
   cases rd with
   | none=>
     rw [show min fs.length fs'.length=fs.length by omega,T5 w1 rfl (by omega)] at y
     cases y
   | some xs=>
     cases rd' with
     | none=>
       rw [z,show min fs.length fs'.length=fs'.length by omega,T5 w2 rfl (by omega)] at y
       cases y
     | some ys=>exact hne rfl
 · have heq:rd.isNone=rd'.isNone:=by
     by_cases z:rd.isNone=rd'.isNone
     · exact z
     · exact absurd (by rw [decide_eq_false (fun y=>z (by injection y))]; rfl) c
   refine q _ _ Kp (.inl ⟨⟨E8 (m:=m) (by omega) fun i hi=>?_,heq⟩,rfl⟩)
   by_cases h:i < fs.length
   · exact (pre i (by omega)).1
   · rw [w1.at hi,w2.at hi,abR (by omega),abR (by omega)]
theorem uq (s:Src K mg "said_alike" dR)(m_len:mg "len"=none)(m_min:mg "min"=none)(m_enumerate:mg "enumerate"=none)(m_zip:mg "zip"=none)(ST:aX P w K mg base "numbers_that_settle" ["run","another"] 1 gH)(FS:aX P w K mg base "first_said" ["run","many"] 1 jV):aX P w K mg base "said_alike" ["run","another"] 2 jZ:=
 let ⟨f,fd,F,m⟩:=s
 ⟨f,fd,yN F m_len m_min m_enumerate m_zip ST FS,F.kp,F.binds fun _ _ _ _ _ _ us hl=>match us,hl with | [_,_],_=>rfl,m⟩
theorem GK.ro {H H':Hp}{sa:Addr}:∀{rd:Option (List Int)} {ro:V},GK H H' sa ro rd->tL H' ro rd
 | none,_,h=>h
 | some _,_,⟨l,e,_,_,h⟩=>⟨l,e,h⟩
def E.vf (f:Str->Str):E->E
 | .num n=>.num n | .box t x=>.box t (f x) | .yes=>.yes | .nt a=>.nt (a.vf f) | .two k a b=>.two k (a.vf f) (b.vf f)
def Nd.as (f:Str->Str)(g:Int->Int):Nd->Nd
 | .put x s n=>.put (f x) (s.vf f) (g n) | .say s n=>.say (s.vf f) (g n) | .test c n o=>.test (c.vf f) (g n) (g o) | .fin=>.fin
def bO (H:Hp)(c:Addr)(dom:List Str)(f:Str->Str):Prop:=∃kvs,H c=some (.dK kvs)/\∀x∈dom,bE kvs (.inr x)=some (.str (f x))
theorem bO.same {H H':Hp}{c:Addr}{dom:List Str}{f:Str->Str}(h:bO H c dom f)(s:ag H H'):bO H' c dom f:=let ⟨kvs,e,v⟩:=h; ⟨kvs,s _ _ e,v⟩
theorem bO.get {H:Hp}{c:Addr}{dom:List Str}{f:Str->Str}(h:bO H c dom f){x:Str}(hx:x∈dom):fM H c (.str x) (some (.str (f x))):=by
 obtain ⟨kvs,e,v⟩:=h
 have g:=fM.k (k:=.inr x) e
 rw [v x hx] at g
 exact g
inductive Pt where
 | plain (v:V) | tree (e:E)
def Pt.isAt (H:Hp):V->Pt->Prop
 | v,.plain u=>v=u/\((∃s,u=.str s)\/∃i,u=.int i)
 | v,.tree e=>cE H v e
def Pt.jI (f:Str->Str)(H:Hp):V->Pt->Prop
 | v,.plain u=>v=u
 | v,.tree e=>cE H v (e.vf f)
theorem Pt.jI.keep {f:Str->Str}{H H':Hp}(k:TK H H'):∀{pt:Pt} {v:V},Pt.jI f H v pt->Pt.jI f H' v pt
 | .plain _,_,h=>h
 | .tree _,_,h=>cE.keep k h
def Pt.Q3 (dom:List Str)(n:Nat):Pt->Prop
 | .plain _=>True
 | .tree e=>e.okIn (Kl dom)/\e.dep < n
abbrev B6:Stmt:=top 48
def jY (n:Nat):Sp:=fun vs H Q _=>∃(v:V) (c:Addr) (e:E) (dom:List Str) (f:Str->Str),vs=[v,.ref c]/\cE H v e/\e.okIn (Kl dom)/\bO H c dom f/\e.dep < n/\∀(v':V) (H':Hp),ag H H'->cE H' v' (e.vf f)->Q v' H'
theorem MU:aD ["thing","called"] ["thing","called"] (ai B6):=⟨rfl,rfl,rfl,by decide +kernel,rfl,by decide +kernel,by decide +kernel⟩
theorem ue:aY B6 "tuple":=by decide +kernel
theorem IA {n:Nat}{f:Addr}{fd:aaf}(F:dm K "_law_renamed" "_law_renamed" B6 f fd)(m_tuple:mg "tuple"=none)(m_isinstance:mg "isinstance"=none)(G:aX P w K mg base "_law_renamed" ["thing","called"] (n + 1) (jY n)):aP P w K mg base cK (n + 2) f fd ["thing","called"] (jY (n + 1)):=by
 refine F.ok MU (fun vs H Q E h=>?_) (fun cdv A outer s H vs Q E hr h=>?_)
 · obtain ⟨v,c,e,dom,g,rfl,_⟩:=h
   rfl
 obtain ⟨v,c,e,dom,g,rfl,ev,ok,ca,hd,q⟩:=h
 refine kG ⟨_,(ad7 (ael (aek aeq (ad8 aei (ad4 0) ad6) aeb) (aea (aec (aed (ad3 aeb (ad3 (aeZ (bP hr _ (by decide)) (ad4 1) (ad8 aei (ad4 0) ad6)) ad5))))) aem)
   (aea (aec (aew L3.lR ue m_tuple (by decide +kernel) (ad3 (aeB [none,some 1] ["part","called"] (show aE _ (ai B6) from ⟨rfl,by decide +kernel,by decide +kernel,by decide +kernel⟩) (by rfl) (L3.iT (ad4 0)) (fun _ _ _ _ _=>⟨(aee 0 (show (["part","called"]:List Str).Nodup from by decide +kernel)),aev,(L3.TJ (aeP (aep L3.Fu (by rfl) m_isinstance (by decide +kernel) (ad3 (ad4 0) (ad3 (L3.GX (w:=.ty "tuple") (by rfl) m_tuple (by decide +kernel) rfl) ad5)))) (aef G hr (by rfl) (ad3 (ad4 0) (ad3 (ad4 1) ad5))) (ad4 0))⟩)) ad5))))),?_⟩
 have key:(∃x,e=.box "box" x/\x∈dom)\/∃(p:Addr) (xs:List V) (pts:List Pt) (s0:Str),v=.ref p/\H p=some (.tup xs)/\Paired (Pt.isAt H) xs pts/\lQ xs 0=some (.str s0)/\s0≠"box"/\(∀pt∈pts,pt.Q3 dom n)/\xs.length<=4 /\
     ∀(p':Addr) (ys:List V) (H':Hp),ag H H'->H' p'=some (.tup ys)->Paired (Pt.jI g H') ys pts->Q (.ref p') H':=by
   cases e with
   | num m=>
     obtain ⟨p,rfl,hp⟩:=ev
     refine .inr ⟨p,_,[.plain (.str "number"),.plain (.int m)],"number",rfl,hp,.cons ⟨rfl,.inl ⟨_,rfl⟩⟩ (.cons ⟨rfl,.inr ⟨_,rfl⟩⟩ .nil),rfl,by decide,?_,by show 2<=4; decide,fun p' ys H' s' oz po=>q _ _ s' ?_⟩
     · intro pt hpt
       rcases List.mem_cons.mp hpt with z | z
       · subst z; trivial
       · rw [List.mem_singleton.mp z]; trivial
     · cases po with
       | cons h1 po=>cases po with
         | cons h2 po=>cases po; cases h1; cases h2; exact ⟨p',rfl,oz⟩
   | box t x=>
     obtain ⟨rfl,hx⟩:=ok
     exact .inl ⟨x,rfl,hx⟩
   | yes=>
     obtain ⟨p,rfl,hp⟩:=ev
     refine .inr ⟨p,_,[.plain (.str "yes")],"yes",rfl,hp,.cons ⟨rfl,.inl ⟨_,rfl⟩⟩ .nil,rfl,by decide,?_,by show 1<=4; decide,fun p' ys H' s' oz po=>q _ _ s' ?_⟩
     · intro pt hpt
       rw [List.mem_singleton.mp hpt]; trivial
     · cases po with
       | cons h1 po=>cases po; cases h1; exact ⟨p',rfl,oz⟩
   | nt a=>
     obtain ⟨x,⟨p,rfl,hp⟩,ax⟩:=ev
     have ow:a.dep + 1 < n + 1:=hd
     refine .inr ⟨p,_,[.plain (.str "not"),.tree a],"not",rfl,hp,.cons ⟨rfl,.inl ⟨_,rfl⟩⟩ (.cons ax .nil),rfl,by decide,?_,by show 2<=4; decide,fun p' ys H' s' oz po=>q _ _ s' ?_⟩
     · intro pt hpt
       rcases List.mem_cons.mp hpt with z | z
       · subst z; trivial
       · rw [List.mem_singleton.mp z]; exact ⟨ok,by omega⟩
     · cases po with
       | cons h1 po=>cases po with
         | cons h2 po=>cases po; cases h1; exact ⟨_,⟨p',rfl,oz⟩,h2⟩
   | two k a b=>
     obtain ⟨x,y,⟨p,rfl,hp⟩,ax,ay⟩:=ev
     have ow:max a.dep b.dep + 1 < n + 1:=hd
     refine .inr ⟨p,_,[.plain (.str k.str),.tree a,.tree b],k.str,rfl,hp,.cons ⟨rfl,.inl ⟨_,rfl⟩⟩ (.cons ax (.cons ay .nil)),rfl,by cases k <;> decide,?_,by show 3<=4; decide,fun p' ys H' s' oz po=>q _ _ s' ?_⟩
     · intro pt hpt
       rcases List.mem_cons.mp hpt with z | hpt
       · subst z; trivial
       rcases List.mem_cons.mp hpt with z | z
       · subst z; exact ⟨ok.1,by omega⟩
       · rw [List.mem_singleton.mp z]; exact ⟨ok.2,by omega⟩
     · cases po with
       | cons h1 po=>cases po with
         | cons h2 po=>cases po with
           | cons h3 po=>cases po; cases h1; exact ⟨_,_,⟨p',rfl,oz⟩,h2,h3⟩
 rcases key with ⟨x,rfl,hx⟩ | ⟨p,xs,pts,s0,rfl,hp,pp,h0,hne,Yp,DL,q⟩
 · obtain ⟨p,rfl,hp⟩:=ev
   refine ⟨_,rfl,p,_,_,_,rfl,rfl,aK.of hp,rfl,rfl,_,rfl,?_⟩
   refine aF (fun _=>?_) (fun c=>absurd (decide_eq_true rfl) c)
   refine ⟨_,rfl,_,rfl,p,_,_,_,rfl,rfl,aK.of hp,rfl,c,_,rfl,ca.get hx,agd,fun p2 cb=>?_⟩
   exact q _ _ (af cb _) ⟨p2,rfl,ae⟩
 · refine ⟨_,rfl,p,_,_,_,rfl,rfl,aK.of hp,h0,rfl,_,rfl,?_⟩
   refine aF (fun c=>absurd (of_decide_eq_true c) (fun z=>hne (by injection z))) (fun _=>?_)
   refine ⟨_,rfl,p,rfl,⟨_,aK.of hp⟩,fun nb tD=>?_⟩
   refine qU (xs:=xs) (fun i H2=>∃ys:List V,ag H H2/\H2 nb=some (.lst ys)/\ys.length=i/\Paired (Pt.jI g H2) ys (pts.take i)) ⟨[],af tD _,ae,rfl,.nil⟩ (fun i H2 _ z=>aK.of (z.choose_spec.1 _ _ hp)) (fun i x H2 hx z=>?_) (fun H2 z=>?_)
   · obtain ⟨ys,s2,n6,TB,py⟩:=z
     obtain ⟨pt,hpt,nZ⟩:=Paired.get pp hx
     have dP:i < xs.length:=(List.getElem?_eq_some_iff.mp hx).1
     have T8:=Yp pt (aab hpt)
     refine bo ?_
     refine bU (A:=fun H3=>de _ nb _ H3 _) ?_
     have fin:∀(v:V) (H3:Hp),ag H2 H3->Pt.jI g H3 v pt->∃ys,H3 nb=some (.lst ys)/\ys.length < sizeLine/\∃Nj,ag H (upd H3 nb (.lst (ys++[v])))/\(upd H3 nb (.lst (ys++[v]))) nb=some (.lst Nj)/\Nj.length=i + 1/\Paired (Pt.jI g (upd H3 nb (.lst (ys++[v])))) Nj (pts.take (i + 1)):=fun v H3 s3 ho=>by
       have Au:=s3 _ _ n6
       refine ⟨ys,Au,aB (by omega),ys++[v],aG (aa s2 s3) tD,ae,by rw [Z0,TB]; rfl,?_⟩
       rw [Z9,hpt]
       exact Paired.snoc (Paired.aZ py fun a b h=>h.keep ((ag.tk s3).trans (TK.lst Au))) (ho.keep (TK.lst Au))
     cases pt with
     | plain u=>
       obtain ⟨rfl,hu⟩:=nZ
       have hty:∃T:String,iB K H2 x (.type T)/\aav K (.type T) (.type "tuple")=some false:=by
         rcases hu with ⟨s,rfl⟩ | ⟨i,rfl⟩
         · exact ⟨"str",.str s,rfl⟩
         · exact ⟨"int",.int i,rfl⟩
       obtain ⟨T,ty,XZ⟩:=hty
       obtain ⟨RL,g1,g2,g3⟩:=fin x H2 (same_refl _) rfl
       refine ⟨_,rfl,x,"tuple",_,false,rfl,ty,XZ,_,rfl,?_⟩
       refine iW ⟨_,rfl,RL,g1,g2,aL (Pv:=fun i H2=>∃ys:List V,ag H H2/\H2 nb=some (.lst ys)/\ys.length=i/\Paired (Pt.jI g H2) ys (pts.take i)) (by repeat' constructor) dP g3⟩
     | tree e1=>
       obtain ⟨px,ex,Xn⟩ : ∃px,x=.ref px/\∃us,H px=some (.tup us):=by
         have As:cE H x e1:=nZ
         cases e1 with
         | num m=>obtain ⟨p,e,h⟩:=As; exact ⟨p,e,_,h⟩
         | box t y=>obtain ⟨p,e,h⟩:=As; exact ⟨p,e,_,h⟩
         | yes=>obtain ⟨p,e,h⟩:=As; exact ⟨p,e,_,h⟩
         | nt a=>obtain ⟨_,⟨p,e,h⟩,_⟩:=As; exact ⟨p,e,_,h⟩
         | two k a b=>obtain ⟨_,_,⟨p,e,h⟩,_,_⟩:=As; exact ⟨p,e,_,h⟩
       obtain ⟨us,DP⟩:=Xn
       subst ex
       refine ⟨_,rfl,.ref px,"tuple",_,true,rfl,.tup (s2 _ _ DP),rfl,_,rfl,?_⟩
       refine fR ⟨_,rfl,_,rfl,.ref px,c,e1,dom,g,rfl,cE.keep (ag.tk s2) nZ,T8.1,ca.same s2,T8.2,fun v' H3 s3 OY=>?_⟩
       obtain ⟨RL,g1,g2,g3⟩:=fin v' H3 s3 OY
       exact ⟨RL,g1,g2,aL (Pv:=fun i H2=>∃ys:List V,ag H H2/\H2 nb=some (.lst ys)/\ys.length=i/\Paired (Pt.jI g H2) ys (pts.take i)) (by repeat' constructor) dP g3⟩
   · obtain ⟨ys,s2,n6,TB,py⟩:=z
     rw [Paired.length pp,aao] at py
     refine ⟨nb,_,rfl,ao.of n6,fun p' oz=>?_⟩
     exact q p' ys _ (aC s2 oz) ae (Paired.aZ py fun a b h=>h.keep (aI oz _))
theorem Bc {f:Addr}{fd:aaf}:aP P w K mg base cK 1 f fd ["thing","called"] (jY 0):=by
 have no:∀vs H Q E,¬ jY 0 vs H Q E:=fun vs H Q E h=>by
   obtain ⟨_,_,_,_,_,_,_,_,_,h1,_⟩:=h
   omega
 exact ⟨fun vs H Q E h=>absurd h (no vs H Q E),fun A outer s H args us vs Q E _ _ _ _ h=>absurd h (no vs H Q E)⟩
theorem DD (s:Src K mg "_law_renamed" B6)(m_tuple:mg "tuple"=none)(m_isinstance:mg "isinstance"=none):∀n:Nat,aX P w K mg base "_law_renamed" ["thing","called"] (n + 1) (jY n):=by
 obtain ⟨f,fd,F,m⟩:=s
 have b:=F.binds (ps:=["thing","called"]) fun _ _ _ _ _ _ us hl=>match us,hl with | [_,_],_=>rfl
 intro n
 have all:aP P w K mg base cK (n + 1) f fd ["thing","called"] (jY n):=by
   induction n with
   | zero=>exact Bc
   | succ n ih=>exact IA F m_tuple m_isinstance ⟨f,fd,ih,F.kp,b,m⟩
 exact ⟨f,fd,all,F.kp,b,m⟩
abbrev l4:Stmt:=top 49
abbrev wX:Stmt:=top 51
def oC (ps:List Int)(n:Int):Int:=ps.getD n.toNat 0
theorem nC {ps:List Int}{n:Int}(h0:0<=n)(h1:n < (ps.length:Int)):lQ (ps.map V.int) n=some (.int (oC ps n)):=by
 obtain ⟨x,g,_,e⟩:=cF V.int ps h0 h1
 rw [e]
 unfold oC
 rw [aan,g]
 rfl
def jW:Sp:=fun vs H Q _=>∃(v:V) (c pl:Addr) (e:Nd) (dom:List Str) (f:Str->Str) (ps:List Int),vs=[v,.ref c,.ref pl]/\cw H v e/\e.good (· ∈ dom) ps.length 5/\bO H c dom f/\H pl=some (.lst (ps.map V.int))/\∀(v':V) (H':Hp),ag H H'->cw H' v' (e.as f (oC ps))->Q v' H'
theorem Cb:aD ["node","called","places"] ["node","called","places"] (ai l4):=⟨rfl,rfl,rfl,by decide +kernel,rfl,by decide +kernel,by decide +kernel⟩
theorem cB:aY l4 "_law_renamed":=by decide +kernel
theorem yJ {f:Addr}{fd:aaf}(F:dm K "_law_node_as" "_law_node_as" l4 f fd)(R:aX P w K mg base "_law_renamed" ["thing","called"] 7 (jY 6)):aP P w K mg base cK 8 f fd ["node","called","places"] jW:=by
 refine F.ok Cb (fun vs H Q E h=>?_) (fun cdv A outer s H vs Q E hr h=>?_)
 · obtain ⟨v,c,pl,e,dom,g,ps,rfl,_⟩:=h
   rfl
 obtain ⟨v,c,pl,e,dom,g,ps,rfl,ev,gd,ca,hpl,q⟩:=h
 refine kG ⟨_,(ad7 (ael (aek aeq (ad8 aei (ad4 0) ad6) aeb) (aea (aec (aed (ad3 aeb (ad3 (aeZ (bP hr _ (by decide)) (ad4 1) (ad8 aei (ad4 0) ad6)) (ad3 (aef R hr cB (ad3 (ad8 aei (ad4 0) ad6) (ad3 (ad4 1) ad5))) (ad3 (ad8 aeg (ad4 2) (ad8 aei (ad4 0) ad6)) ad5))))))) aem)
   (ad7 (ael (aek aeq (ad8 aei (ad4 0) ad6) aeb) (aea (aec (aed (ad3 aeb (ad3 (aef R hr cB (ad3 (ad8 aei (ad4 0) ad6) (ad3 (ad4 1) ad5))) (ad3 (ad8 aeg (ad4 2) (ad8 aei (ad4 0) ad6)) ad5)))))) aem)
   (ad7 (ael (aek aeq (ad8 aei (ad4 0) ad6) aeb) (aea (aec (aed (ad3 aeb (ad3 (aef R hr cB (ad3 (ad8 aei (ad4 0) ad6) (ad3 (ad4 1) ad5))) (ad3 (ad8 aeg (ad4 2) (ad8 aei (ad4 0) ad6)) (ad3 (ad8 aeg (ad4 2) (ad8 aei (ad4 0) ad6)) ad5))))))) aem)
   (aea (aec (ad4 0)))))),?_⟩
 cases e with
 | put x s1 n1=>
   obtain ⟨u,⟨p,rfl,hp⟩,au⟩:=ev
   obtain ⟨hx,lO,iu,zp,n0,nl⟩:=gd
   refine ⟨_,rfl,p,_,_,_,rfl,rfl,aK.of hp,rfl,rfl,_,rfl,?_⟩
   refine aF (fun _=>?_) (fun c=>absurd (decide_eq_true rfl) c)
   refine ⟨_,rfl,_,rfl,p,_,_,_,rfl,rfl,aK.of hp,rfl,c,_,rfl,ca.get hx,?_⟩
   refine ⟨_,rfl,p,_,_,_,rfl,rfl,aK.of hp,rfl,_,rfl,u,c,s1,dom,g,rfl,au,iu,ca,by omega,fun v' H2 s2 a2=>?_⟩
   refine ⟨_,rfl,_,rfl,p,_,_,_,rfl,rfl,aK.of (s2 _ _ hp),rfl,pl,_,_,_,rfl,rfl,ao.of (s2 _ _ hpl),nC n0 nl,agf,fun p2 cb=>?_⟩
   exact q _ _ (aC s2 cb) ⟨v',⟨p2,rfl,ae⟩,a2.keep (aI cb _)⟩
 | say s1 n1=>
   obtain ⟨u,⟨p,rfl,hp⟩,au⟩:=ev
   obtain ⟨lO,iu,zp,n0,nl⟩:=gd
   refine ⟨_,rfl,p,_,_,_,rfl,rfl,aK.of hp,rfl,rfl,_,rfl,?_⟩
   refine aF (fun c=>absurd (of_decide_eq_true c) (by decide)) (fun _=>?_)
   refine ⟨_,rfl,p,_,_,_,rfl,rfl,aK.of hp,rfl,rfl,_,rfl,?_⟩
   refine aF (fun _=>?_) (fun c=>absurd (decide_eq_true rfl) c)
   refine ⟨_,rfl,p,_,_,_,rfl,rfl,aK.of hp,rfl,_,rfl,u,c,s1,dom,g,rfl,au,iu,ca,by omega,fun v' H2 s2 a2=>?_⟩
   refine ⟨_,rfl,_,rfl,p,_,_,_,rfl,rfl,aK.of (s2 _ _ hp),rfl,pl,_,_,_,rfl,rfl,ao.of (s2 _ _ hpl),nC n0 nl,age,fun p2 cb=>?_⟩
   exact q _ _ (aC s2 cb) ⟨v',⟨p2,rfl,ae⟩,a2.keep (aI cb _)⟩
 | test s1 n1 n2=>
   obtain ⟨u,⟨p,rfl,hp⟩,au⟩:=ev
   obtain ⟨lO,iu,zp,n0,nl,m0,ml⟩:=gd
   refine ⟨_,rfl,p,_,_,_,rfl,rfl,aK.of hp,rfl,rfl,_,rfl,?_⟩
   refine aF (fun c=>absurd (of_decide_eq_true c) (by decide)) (fun _=>?_)
   refine ⟨_,rfl,p,_,_,_,rfl,rfl,aK.of hp,rfl,rfl,_,rfl,?_⟩
   refine aF (fun c=>absurd (of_decide_eq_true c) (by decide)) (fun _=>?_)
   refine ⟨_,rfl,p,_,_,_,rfl,rfl,aK.of hp,rfl,rfl,_,rfl,?_⟩
   refine aF (fun _=>?_) (fun c=>absurd (decide_eq_true rfl) c)
   refine ⟨_,rfl,p,_,_,_,rfl,rfl,aK.of hp,rfl,_,rfl,u,c,s1,dom,g,rfl,au,iu,ca,by omega,fun v' H2 s2 a2=>?_⟩
   refine ⟨_,rfl,_,rfl,p,_,_,_,rfl,rfl,aK.of (s2 _ _ hp),rfl,pl,_,_,_,rfl,rfl,ao.of (s2 _ _ hpl),nC n0 nl,?_⟩
   refine ⟨_,rfl,_,rfl,p,_,_,_,rfl,rfl,aK.of (s2 _ _ hp),rfl,pl,_,_,_,rfl,rfl,ao.of (s2 _ _ hpl),nC m0 ml,agf,fun p2 cb=>?_⟩
   exact q _ _ (aC s2 cb) ⟨v',⟨p2,rfl,ae⟩,a2.keep (aI cb _)⟩
 | fin=>
   obtain ⟨p,rfl,hp⟩:=ev
   refine ⟨_,rfl,p,_,_,_,rfl,rfl,aK.of hp,rfl,rfl,_,rfl,?_⟩
   refine aF (fun c=>absurd (of_decide_eq_true c) (by decide)) (fun _=>?_)
   refine ⟨_,rfl,p,_,_,_,rfl,rfl,aK.of hp,rfl,rfl,_,rfl,?_⟩
   refine aF (fun c=>absurd (of_decide_eq_true c) (by decide)) (fun _=>?_)
   refine ⟨_,rfl,p,_,_,_,rfl,rfl,aK.of hp,rfl,rfl,_,rfl,?_⟩
   refine aF (fun c=>absurd (of_decide_eq_true c) (by decide)) (fun _=>?_)
   exact ⟨_,rfl,q _ _ (same_refl _) ⟨p,rfl,hp⟩⟩
theorem uj (s:Src K mg "_law_node_as" l4)(R:aX P w K mg base "_law_renamed" ["thing","called"] 7 (jY 6)):aX P w K mg base "_law_node_as" ["node","called","places"] 8 jW:=
 let ⟨f,fd,F,m⟩:=s
 ⟨f,fd,yJ F R,F.kp,F.binds fun _ _ _ _ _ _ us hl=>match us,hl with | [_,_,_],_=>rfl,m⟩
def mv (bs:List (Str×Int))(f:Str->Str)(after:Int)(e:Nd):Prop:=(∃o,0<=o/\o<=after/\e=.test .yes after o)\/∃x∈bs.map (·.1),e=.put (f x) (.box "box" (f x)) after
def nO:Sp:=fun vs H Q _=>∃(B c:Addr) (vb:List V) (bs:List (Str×Int)) (f:Str->Str) (n after:Int),vs=[.ref B,.ref c,.int n,.int after]/\H B=some (.lst vb)/\Paired (bG H) vb bs/\bO H c (bs.map (·.1)) f/\0<=n/\0<=after/\∀(v':V) (H':Hp) (e:Nd),ag H H'->cw H' v' e->mv bs f after e->Q v' H'
theorem Ce:aD ["boxes","called","number","after","name"] ["boxes","called","number","after"] (ai wX):=⟨rfl,rfl,rfl,by decide +kernel,rfl,by decide +kernel,by decide +kernel⟩
theorem xT:aY wX "len":=by decide +kernel
theorem Eo {f:Addr}{fd:aaf}(F:dm K "_law_skip" "_law_skip" wX f fd)(m_len:mg "len"=none):aP P w K mg base cK 1 f fd ["boxes","called","number","after"] nO:=by
 refine F.ok Ce (fun vs H Q E h=>?_) (fun cdv A outer s H vs Q E hr h=>?_)
 · obtain ⟨B,c,vb,bs,g,n,after,rfl,_⟩:=h
   rfl
 obtain ⟨B,c,vb,bs,g,n,after,rfl,hB,pb,ca,Xe,Zm,q⟩:=h
 refine kG ⟨_,(ad7 (ael (aeL (aeQ (aek (L3.r6 (m:=0) (bP hr _ (by decide))) (ad4 0) (aen ad5)) (aeR (aek aeq (ad9 aeo (ad4 2) ad6) ad6)))) (aea (aec (aed (ad3 aeb (ad3 (aed (ad3 aeb ad5)) (ad3 (ad4 3) (ad3 (ad9 aeo (ad9 aeG (ad4 2) ad6) (ad9 aey (ad4 3) ad6)) ad5))))))) aem)
   (ad7 (aeh 4 Ce.nd (aeZ (bP hr _ (by decide)) (ad4 1) (ad8 aei (ad8 aeg (ad4 0) (ad9 aeo (ad9 aeG (ad4 2) ad6) (aep aer xT m_len aad (ad3 (ad4 0) ad5)))) ad6)))
   (aea (aec (aed (ad3 aeb (ad3 (ad4 4) (ad3 (aed (ad3 aeb (ad3 (ad4 4) ad5))) (ad3 (ad4 3) ad5))))))))),?_⟩
 have d2:(2:Int) < 2 ^ 1000:=by decide +kernel
 have kX:vb.length=bs.length:=Paired.length pb
 refine ⟨_,rfl,agb,fun lz FK=>?_⟩
 obtain ⟨H1,s1,hz,zz⟩:=aJ FK (.lst [])
 rw [zz]; clear zz
 have CM:=s1 _ _ hB
 refine ⟨_,RB.nil (ao.of CM) (ao.of hz),_,rfl,?_⟩
 refine aF (fun c1=>?_) (fun c1=>?_)
 · refine fR ?_
   refine ⟨agc,fun p1 yk=>⟨_,rfl,_,rfl,_,_,rfl,rfl,⟨(by show (0:Int) < 2; decide),d2⟩,_,rfl,_,_,rfl,rfl,_,_,rfl,rfl,(by show (0:Int) < after + 1; omega),agf,fun p2 cb=>?_⟩⟩
   have k1:cE (upd H1 p1 (.tup [.str "yes"])) (.ref p1) .yes:=⟨p1,rfl,ae⟩
   exact q _ _ (.test .yes after (n / 2 % (after + 1))) (aC (aC s1 yk) cb) ⟨.ref p1,⟨p2,rfl,ae⟩,k1.keep (aI cb _)⟩ (.inl ⟨_,aaj _ (by omega),by have:=aac (n / 2) (show 0 < after + 1 by omega); omega,rfl⟩)
 refine ⟨_,rfl,_,_,rfl,rfl,(by show (0:Int) < 2; decide),rfl,_,rfl,?_⟩
 refine aF (fun c2=>?_) (fun c2=>?_)
 · refine ⟨agc,fun p1 yk=>⟨_,rfl,_,rfl,_,_,rfl,rfl,⟨(by show (0:Int) < 2; decide),d2⟩,_,rfl,_,_,rfl,rfl,_,_,rfl,rfl,(by show (0:Int) < after + 1; omega),agf,fun p2 cb=>?_⟩⟩
   have k1:cE (upd H1 p1 (.tup [.str "yes"])) (.ref p1) .yes:=⟨p1,rfl,ae⟩
   exact q _ _ (.test .yes after (n / 2 % (after + 1))) (aC (aC s1 yk) cb) ⟨.ref p1,⟨p2,rfl,ae⟩,k1.keep (aI cb _)⟩ (.inl ⟨_,aaj _ (by omega),by have:=aac (n / 2) (show 0 < after + 1 by omega); omega,rfl⟩)
 have lL:(0:Int) < (vb.length:Int):=by
   cases vb with
   | nil=>exact absurd rfl c1
   | cons x r=>simp only [aam]; omega
 obtain ⟨x,gx,nZ⟩:=qN (xs:=vb) (r:=n / 2 % (vb.length:Int)) (aaj _ (by omega)) (aac _ lL)
 obtain ⟨b,gb,p,rfl,hp⟩:=Paired.get pb gx
 have hx:b.1∈bs.map (·.1):=List.mem_map.mpr ⟨b,aab gb,rfl⟩
 refine ⟨_,rfl,_,rfl,_,rfl,_,_,rfl,rfl,⟨(by show (0:Int) < 2; decide),d2⟩,_,rfl,B,_,rfl,.inl (ao.of CM),_,_,rfl,rfl,lL,B,_,_,_,rfl,rfl,ao.of CM,nZ,p,_,_,_,rfl,rfl,aK.of (s1 _ _ hp),rfl,c,_,rfl,(ca.same s1).get hx,?_⟩
 refine ⟨_,rfl,_,rfl,agd,fun p1 yk=>⟨_,rfl,agf,fun p2 cb=>?_⟩⟩
 have k1:cE (upd H1 p1 (.tup [.str "box",.str (g b.1)])) (.ref p1) (.box "box" (g b.1)):=⟨p1,rfl,ae⟩
 exact q _ _ (.put (g b.1) (.box "box" (g b.1)) after) (aC (aC s1 yk) cb) ⟨.ref p1,⟨p2,rfl,ae⟩,k1.keep (aI cb _)⟩ (.inr ⟨b.1,hx,rfl⟩)
theorem Ap (s:Src K mg "_law_skip" wX)(m_len:mg "len"=none):aX P w K mg base "_law_skip" ["boxes","called","number","after"] 1 nO:=
 let ⟨f,fd,F,m⟩:=s
 ⟨f,fd,Eo F m_len,F.kp,F.binds fun _ _ _ _ _ _ us hl=>match us,hl with | [_,_,_,_],_=>rfl,m⟩
abbrev fK:Stmt:=top 50
theorem rQ (x:Str):∀(ins:List Str),zu (.str x) (ins.map V.str)=decide (x∈ins)
 | []=>rfl
 | y :: r=>by
   show (kl (.str y) (.str x) || zu (.str x) (r.map V.str))=_
   rw [rQ x r]
   show ((y == x) || decide (x∈r))=_
   by_cases h:y=x
   · subst h
     simp
   · have h1:(y == x)=false:=beq_eq_false_iff_ne.mpr h
     have h2:¬ x=y:=fun z=>h z.symm
     rw [h1,Bool.false_or]
     by_cases h3:x∈r <;> simp [h2,h3]
theorem km (ins:List Str):(ins.map V.str).all ck=true:=by
 rw [List.all_map]
 exact List.all_eq_true.mpr fun x _=>rfl
theorem jf {α:Type}[DecidableEq α]{y:α}:∀{xs:List α},y∈xs->∃j:Nat,xs[j]? = some y/\∀m,m < j->xs[m]? ≠ some y
 | x :: r,h=>by
   by_cases e:x=y
   · exact ⟨0,by rw [e]; rfl,fun m hm=>absurd hm (Nat.not_lt_zero _)⟩
   · obtain ⟨j,h1,h2⟩:=jf (xs:=r) ((List.mem_cons.mp h).resolve_left fun z=>e z.symm)
     refine ⟨j + 1,by simpa using h1,fun m hm=>?_⟩
     cases m with
     | zero=>intro z; simp at z; exact e z
     | succ m=>simpa using h2 m (by omega)
theorem ni {α:Type}:∀{l:List α} {i:Nat} (h:i < l.length) {x:α},x∈l->x=l[i]\/x∈l.eraseIdx i
 | a :: r,0,_,x,hx=>by
   rcases List.mem_cons.mp hx with z | z
   · exact .inl z
   · exact .inr (by rw [List.eraseIdx_cons_zero]; exact z)
 | a :: r,i + 1,h,x,hx=>by
   have h':i < r.length:=by simpa using h
   rw [adz]
   rcases List.mem_cons.mp hx with z | z
   · exact .inr (List.mem_cons.mpr (.inl z))
   · rcases ni h' z with y | y
     · exact .inl y
     · exact .inr (List.mem_cons.mpr (.inr y))
theorem cG.short {bs:List (Str×Int)}{ins:List Str}(h:cG bs ins):∀b∈bs,b.1.length<=5:=fun b hb=>by
 obtain ⟨nm,szs,h1,h2,h3,rfl⟩:=h.nm
 have zr:=(abr (a:=b.1) (b:=b.2) hb).1
 have:∀x∈nm,x.length<=5:=by rcases h1 with rfl | rfl | rfl <;> decide +kernel
 exact this _ zr
def fL (ins:List Str)(c:Bool)(x:Str):Str:=if x∈ins then x else if c=true then x++"z" else x
structure tI (bs:List (Str×Int))(ins:List Str)(c:Bool)(st:Int)(bs':List (Str×Int)):Prop where
 bx:bs'=dF st (bs.map fun b=>(fL ins c b.1,b.2))
 st:st=1\/st = -1
theorem uZ {α β:Type}{R:α->β->Prop}{xs:List α}{ys:List β}(h:Paired R xs ys):Paired R xs.reverse ys.reverse:=by
 induction h with
 | nil=>exact .nil
 | @cons a b as bs r t ih=>rw [acb,acb]; exact Paired.snoc ih r
theorem r9 {β:Type}{R:V->β->Prop}{n:Int}{xs:List V}{ys:List β}(h:Paired R xs ys):Paired R (el n xs) (dF n ys):=by
 unfold el dF
 by_cases e:n=1
 · rw [if_pos e,if_pos e]; exact h
 · rw [if_neg e,if_neg e]; exact uZ h
theorem Cf {Pm:Hp->List Int->Prop}{G:Hp->Prop}{M:Prop}(main:(∀H l,Pm H l->G H)->M)(rest:∀H l,Pm H l->G H):M:=main rest
def xt (ord ps:List Int):Prop:=∀(k:Nat) (x:Int),ps[k]? = some x->∃j:Nat,x=(j:Int)/\ord[j]? = some (k:Int)/\∀m,m < j->ord[m]? ≠ some (k:Int)
theorem y3 {ord ps:List Int}{j:Nat}(h:xt ord ps)(hj:ord[j]? = some ((ps.length:Nat):Int))(hn:∀m,m < j->ord[m]? ≠ some ((ps.length:Nat):Int)):xt ord (ps++[(j:Int)]):=fun k x hx=>by
 by_cases hk:k < ps.length
 · rw [aaJ hk] at hx
   exact h k x hx
 · have hl:=(List.getElem?_eq_some_iff.mp hx).1
   rw [Z0] at hl
   have e:k=ps.length:=by simp at hl; omega
   subst e
   rw [aaX (Z3 _),adX] at hx
   cases hx
   exact ⟨j,rfl,hj,hn⟩
theorem pe {ord ps:List Int}(h:xt ord ps)(h0:ord[0]? = some 0)(hl:0 < ps.length):ps[0]? = some 0:=by
 obtain ⟨j,e,hj,hn⟩:=h 0 ps[0] (ZZ hl)
 have AE:j=0:=by
   by_cases z:j=0
   · exact z
   · exact absurd h0 (hn 0 (by omega))
 rw [ZZ hl,e,AE]
 rfl
def vN (ord:List Int)(many:Int)(ps dt:List Int)(sk:Nat):Prop:=∀(k:Nat) (x:Int),dt[k]? = some x->ps[k]? = some x\/(k=sk/\∃j:Nat,x=(j:Int)/\ord[j]? = some many)
def vQ (bs:List (Str×Int))(f:Str->Str)(nds:List Nd)(ord ps dt:List Int)(sk:Int)(nds2:List Nd):Prop:=∀(j:Nat) (e':Nd),nds2[j]? = some e'->∃k:Int,ord[j]? = some k/\((∃e,0<=k/\nds[k.toNat]? = some e/\e'=e.as f (oC dt))\/(k=(nds.length:Int)/\sk < (nds.length:Int)/\mv bs f (oC ps sk) e'))
theorem nj {bs:List (Str×Int)}{f:Str->Str}{nds:List Nd}{ord ps dt:List Int}{sk:Int}{nds2:List Nd}{e:Nd}(h:vQ bs f nds ord ps dt sk nds2)(hn:∃k:Int,ord[nds2.length]? = some k/\((∃e1,0<=k/\nds[k.toNat]? = some e1/\e=e1.as f (oC dt))\/(k=(nds.length:Int)/\sk < (nds.length:Int)/\mv bs f (oC ps sk) e))):vQ bs f nds ord ps dt sk (nds2++[e]):=fun j e' hj=>by
 by_cases hk:j < nds2.length
 · rw [aaJ hk] at hj
   exact h j e' hj
 · have hl:=(List.getElem?_eq_some_iff.mp hj).1
   rw [Z0] at hl
   have e1:j=nds2.length:=by simp at hl; omega
   subst e1
   rw [aaX (Z3 _),adX] at hj
   cases hj
   exact hn
structure pJ (bs:List (Str×Int))(f:Str->Str)(nds nds2:List Nd)(ps dt:List Int):Prop where
 pl:ps.length=nds.length
 bl:dt.length=nds.length
 all:∀(k:Nat) (e:Nd),nds[k]? = some e->∃p b:Nat,ps[k]? = some (p:Int)/\dt[k]? = some (b:Int)/\p < nds2.length/\b < nds2.length/\nds2[p]? = some (e.as f (oC dt))/\(b=p\/∃e',nds2[b]? = some e'/\mv bs f (p:Int) e')
 only:∀(j:Nat) (e':Nd),nds2[j]? = some e'->(∃e∈nds,e'=e.as f (oC dt))\/∃p:Nat,p < nds2.length/\mv bs f (p:Int) e'
 zero:dt[0]? = some 0
theorem yE {bs:List (Str×Int)}{f:Str->Str}{nds nds2:List Nd}{ord ps dt:List Int}{sk:Int}(pl:ps.length=nds.length)(bl:dt.length=nds.length)(hp:xt ord ps)(hb:vN ord (nds.length:Int) ps dt sk.toNat)(hn:vQ bs f nds ord ps dt sk nds2)(hl:nds2.length=ord.length)(zero:dt[0]? = some 0):pJ bs f nds nds2 ps dt:=by
 have pat:∀(k:Nat),k < nds.length->∃p:Nat,ps[k]? = some (p:Int)/\ord[p]? = some (k:Int)/\p < nds2.length:=fun k hk=>by
   have Lr:k < ps.length:=by omega
   obtain ⟨j,e,hj,_⟩:=hp k ps[k] (ZZ Lr)
   have:=(List.getElem?_eq_some_iff.mp hj).1
   exact ⟨j,by rw [ZZ Lr,e],hj,by omega⟩
 have Yz:∀{k p:Nat},ps[k]? = some (p:Int)->oC ps (k:Int)=(p:Int):=fun h=>by
   unfold oC
   rw [aan,aaT,h]
   rfl
 refine ⟨pl,bl,fun k e he=>?_,fun j e' hj=>?_,zero⟩
 · have hk:k < nds.length:=(List.getElem?_eq_some_iff.mp he).1
   obtain ⟨p,h1,h2,h3⟩:=pat k hk
   have PB:k < dt.length:=by omega
   have cb:nds2[p]? = some (e.as f (oC dt)):=by
     obtain ⟨k',h4,h5⟩:=hn p nds2[p] (ZZ h3)
     rw [h2] at h4
     cases h4
     rcases h5 with ⟨e1,_,h6,h7⟩ | ⟨h6,_⟩
     · rw [aaT,he] at h6
       cases h6
       rw [ZZ h3,h7]
     · omega
   rcases hb k dt[k] (ZZ PB) with h4 | ⟨h4,j,h5,h6⟩
   · have e1:dt[k]=(p:Int):=by
       rw [h1] at h4
       exact (aap h4).symm
     exact ⟨p,p,h1,by rw [ZZ PB,e1],h3,h3,cb,.inl rfl⟩
   · have Tf:=(List.getElem?_eq_some_iff.mp h6).1
     have Hr:j < nds2.length:=by omega
     obtain ⟨k',h7,h8⟩:=hn j nds2[j] (ZZ Hr)
     rw [h6] at h7
     cases h7
     refine ⟨p,j,h1,by rw [ZZ PB,h5],h3,Hr,cb,.inr ⟨_,ZZ Hr,?_⟩⟩
     rcases h8 with ⟨e1,_,h9,_⟩ | ⟨_,h9,Wm⟩
     · have:=(List.getElem?_eq_some_iff.mp h9).1
       omega
     · have yn:oC ps sk=(p:Int):=by
         have Wn:oC ps sk=oC ps (k:Int):=by unfold oC; rw [h4,aaT]
         rw [Wn,Yz h1]
       rw [← yn]
       exact Wm
 · obtain ⟨k',h4,h5⟩:=hn j e' hj
   rcases h5 with ⟨e1,_,h6,h7⟩ | ⟨_,h6,h7⟩
   · exact .inl ⟨e1,aab h6,h7⟩
   · have hk:sk.toNat < nds.length:=by
       have:=adG (aab (show dt[0]? = some 0 from zero))
       omega
     obtain ⟨p,h1,h2,h3⟩:=pat sk.toNat hk
     refine .inr ⟨p,h3,?_⟩
     have e1:oC ps sk=(p:Int):=by
       unfold oC
       rw [aan,h1]
       rfl
     rw [← e1]
     exact h7
structure Kz (bs:List (Str×Int))(nds:List Nd):Prop where
 l2:bs.length<=2
 sh:∀b∈bs,b.1.length<=20
 one:1<=nds.length
 few:(nds.length:Int)<=100
 good:∀e∈nds,e.good (· ∈ bs.map (·.1)) nds.length 5
def vA:Sp:=fun vs H Q _=>∃(v:V) (r:Addr) (bs:List (Str×Int)) (ins:List Str) (nds:List Nd) (row:List Int) (n:Nat),vs=[v,.ref r]/\bD H v bs ins nds/\Kz bs nds/\H r=some (.lst (row.map V.int))/\Row (2 ^ 30) row n/\6<=n /\
 ∀(p q T I2 N2 c pl bh:Addr) (H':Hp) (vt vn2:List V) (bs':List (Str×Int)) (nds2:List Nd) (cz:Bool) (st:Int),ag H H'->H' p=some (.tup [.ref q,.ref c,.ref pl,.ref bh])->H' q=some (.tup [.ref T,.ref I2,.ref N2])->H' T=some (.lst vt)->Paired (bG H') vt bs'->H' I2=some (.lst (ins.map V.str))->H' N2=some (.lst vn2)->Paired (cw H') vn2 nds2->nds2.length<=nds.length + 1 ->
   bO H' c (bs.map (·.1)) (fL ins cz)->tI bs ins cz st bs'->∀(ps dt:List Int),H' pl=some (.lst (ps.map V.int))->H' bh=some (.lst (dt.map V.int))->pJ bs (fL ins cz) nds nds2 ps dt->Q (.ref p) H'
theorem cq:aD ["program","row","boxes","inputs","nodes","called","name","size","many","skipped","left","order","k","places","behind","found","turned"] ["program","row"] (ai fK):=⟨rfl,rfl,rfl,by decide +kernel,rfl,by decide +kernel,by decide +kernel⟩
theorem oR:aY fK "len":=by decide +kernel
theorem fZ:aY fK "range":=by decide +kernel
theorem xQ:aY fK "int":=by decide +kernel
theorem mS:aY fK "list":=by decide +kernel
theorem jm:aY fK "_law_node_as":=by decide +kernel
theorem mR:aY fK "_law_skip":=by decide +kernel
theorem Ek {f:Addr}{fd:aaf}(F:dm K "_law_made_over" "_law_made_over" fK f fd)(m_len:mg "len"=none)(m_range:mg "range"=none)(m_int:mg "int"=none)(m_list:mg "list"=none)(NA:aX P w K mg base "_law_node_as" ["node","called","places"] 8 jW)(SK:aX P w K mg base "_law_skip" ["boxes","called","number","after"] 1 nO):aP P w K mg base cK 9 f fd ["program","row"] vA:=by
 refine F.ok cq (fun vs H Q E h=>?_) (fun cdv A outer s H vs Q E hr h=>?_)
 · obtain ⟨v,r,bs,ins,nds,row,n,rfl,_⟩:=h
   rfl
 obtain ⟨v,r,bs,ins,nds,row,n,rfl,⟨p,B,I,N,vb,vn,rfl,hp,hB,hI,hN,pb,pn⟩,zw,CS,hR,Zv,q⟩:=h
 have U2:=NA
 have U5:=SK.mono (show 1<=8 by decide)
 refine kG ⟨_,(ad7 (aeO (ad4 0) (aes 3 (aej (aee 2 cq.nd) (aej (aee 3 cq.nd) (aej (aee 4 cq.nd) aet)))))
   (ad7 (aeh 5 cq.nd L3.KS)
   (ad7 (aeJ (aeA (ad4 2)) (aes 2 (aej (aee 6 cq.nd) (aej (aee 7 cq.nd) aet))) (ad7 (L3.dput (bP hr _ (by decide)) (ad4 5) (ad4 6) (ad4 6))
   (aea (ael (aeL (L3.GV (aek L3.qa (ad4 6) (ad4 3) (by rfl)) (L3.GU (aek aeq (ad9 aeo (ad8 aeg (ad4 1) ad6) ad6) ad6)))) (aea (L3.dput (bP hr _ (by decide)) (ad4 5) (ad4 6) (ad9 L3.Ij (ad4 6) aeb))) aem))))
   (ad7 (aeh 8 cq.nd (aep aer oR m_len aad (ad3 (ad4 4) ad5)))
   (ad7 (aeh 9 cq.nd (ad9 aeo (ad8 aeg (ad4 1) ad6) (ad9 aeD ad6 (ad4 8))))
   (ad7 (aeW (i:=10) [none] ["k"] (show aE _ (ai fK) from ⟨rfl,by decide +kernel,by decide +kernel,by decide +kernel⟩) (by rfl) (L3.XT fZ m_range (ad3 ad6 (ad3 (ad4 8) ad5))) (fun _ _ _ _ _=>⟨(aee 0 (show (["k"]:List Str).Nodup from by decide +kernel)),aev,(ad4 0)⟩) cq.nd)
   (ad7 (aeh 11 cq.nd (aen (ad3 ad6 ad5)))
   (ad7 (aeJ (aeV fZ m_range (ad3 (ad9 aeU (ad4 8) ad6) ad5)) (aee 12 cq.nd) (aea (aeu (aeN (ad4 11) (ad3 (L3.Mr (ad4 10) (ad3 (ad9 aeo (ad9 aeG (ad8 aeg (ad4 1) ad6) (ad9 aey (ad4 12) ad6)) (aep aer oR m_len aad (ad3 (ad4 10) ad5))) ad5)) ad5)))))
   (ad7 (ael (aek aeC (ad4 9) (ad4 8)) (aea (aeu (L3.insert (ad4 11) (ad3 (ad9 aey (L3.uH (ad4 11) (ad3 (ad4 9) ad5)) (ad9 aeD (ad9 aeo (ad8 aeg (ad4 1) ad6) ad6) (aew aeY xQ m_int (by decide +kernel) (ad3 (aeE L3.Q0 (ad4 9) ad6) ad5)))) (ad3 (ad4 8) ad5))))) aem)
   (ad7 (aeW (i:=13) [none,some 11] ["k","order"] (show aE _ (ai fK) from ⟨rfl,by decide +kernel,by decide +kernel,by decide +kernel⟩) (by rfl) (aeV fZ m_range (ad3 (ad4 8) ad5)) (fun _ _ _ _ _=>⟨(aee 0 (show (["k","order"]:List Str).Nodup from by decide +kernel)),aev,(L3.uH (ad4 1) (ad3 (ad4 0) ad5))⟩) cq.nd)
   (ad7 (aeh 14 cq.nd (aew aeK mS m_list (by decide +kernel) (ad3 (ad4 13) ad5)))
   (ad7 (ael (aek aeC (ad4 9) (ad4 8)) (aea (aeO (L3.uH (ad4 11) (ad3 (ad4 8) ad5)) (L3.Lb (ad4 14) (ad4 9)))) aem)
   (ad7 (aeh 15 cq.nd (aen ad5))
   (ad7 (aeJ (aeA (ad4 11)) (aee 12 cq.nd) (aea (ael (aek aeC (ad4 12) (ad4 8)) (aea (aeu (aeN (ad4 15) (ad3 (aef U2 hr jm (ad3 (ad8 aeg (ad4 4) (ad4 12)) (ad3 (ad4 5) (ad3 (ad4 14) ad5)))) ad5)))) (aea (aeu (aeN (ad4 15) (ad3 (aef U5 hr mR (ad3 (ad4 2) (ad3 (ad4 5) (ad3 (ad8 aeg (ad4 1) ad6) (ad3 (ad8 aeg (ad4 13) (ad4 9)) ad5))))) ad5)))))))
   (ad7 (aeh 16 cq.nd (L3.Ci (aeB [none,none,some 5] ["name","size","called"] (show aE _ (ai fK) from ⟨rfl,by decide +kernel,by decide +kernel,by decide +kernel⟩) (by rfl) (aeA (ad4 2)) (fun _ _ _ _ _=>⟨(aes 2 (aej (aee 0 (show (["name","size","called"]:List Str).Nodup from by decide +kernel)) (aej (aee 1 (show (["name","size","called"]:List Str).Nodup from by decide +kernel)) aet))),aev,(aed (ad3 (aeZ (bP hr _ (by decide)) (ad4 2) (ad4 0)) (ad3 (ad4 1) ad5)))⟩)) (ad9 aeU ad6 (ad9 aeD ad6 (ad9 aeo (ad8 aeg (ad4 1) ad6) ad6)))))
   (aea (aec (aed (ad3 (aed (ad3 (ad4 16) (ad3 (aew aeK mS m_list (by decide +kernel) (ad3 (ad4 3) ad5)) (ad3 (ad4 15) ad5)))) (ad3 (ad4 5) (ad3 (ad4 13) (ad3 (ad4 14) ad5)))))))))))))))))))))),?_⟩
 obtain ⟨x0,a0,JW,Kt⟩:=hR.at (i:=0) (by decide) (by omega)
 obtain ⟨x1,a1,Ku,Kv⟩:=hR.at (i:=1) (by decide) (by omega)
 obtain ⟨x2,a2,Oq,Ot⟩:=hR.at (i:=2) (by decide) (by omega)
 obtain ⟨x3,a3,UK,UL⟩:=hR.at (i:=3) (by decide) (by omega)
 obtain ⟨x4,a4,RF,UM⟩:=hR.at (i:=4) (by decide) (by omega)
 obtain ⟨x5,a5,Y6,Y7⟩:=hR.at (i:=5) (by decide) (by omega)
 have kX:vb.length=bs.length:=Paired.length pb
 have n6:=zw.l2
 have ki:vn.length=nds.length:=Paired.length pn
 have one:=zw.one
 have few:=zw.few
 refine ⟨_,rfl,p,_,rfl,aK.of hp,rfl,_,_,rfl,_,_,rfl,_,_,rfl,rfl,?_⟩
 refine fun c hc=>?_
 refine ⟨_,rfl,B,rfl,⟨_,ao.of (af hc _ _ _ hB)⟩,?_⟩
 have hI1:=fun kvs=>af hc (.dK kvs) _ _ hI
 have hr1:=fun kvs=>af hc (.dK kvs) _ _ CS
 refine fU (xs:=vb) (fun i σ H2=>(∃nv sv,σ=[some (.ref p),some (.ref r),some (.ref B),some (.ref I),some (.ref N),some (.ref c),nv,sv,none,none,none,none,none,none,none,none,none])/\∃kvs:List (Key×V),H2=upd H c (.dK kvs)/\kvs.length<=2 * i/\∀x∈(bs.take i).map (·.1),bE kvs (.inr x)=some (.str (fL ins (decide (x0 % 2=1)) x))) ⟨⟨_,_,rfl⟩,[],rfl,Z3 _,fun x hx=>nomatch hx⟩ (fun i σ H2 _ z=>?_) (fun i x σ H2 hx z=>?_) (fun σ H2 z=>?_)
 · obtain ⟨_,kvs,rfl,_⟩:=z
   exact ao.of (af hc _ _ _ hB)
 · obtain ⟨⟨nv,sv,rfl⟩,kvs,rfl,W6,DK⟩:=z
   obtain ⟨b,fP,u0,rfl,rM⟩:=Paired.get pb hx
   have dP:i < vb.length:=(List.getElem?_eq_some_iff.mp hx).1
   have WD:b∈bs:=aab fP
   have FR:=zw.sh b WD
   have hl1:=bL kvs (.inr b.1) (V.str b.1)
   refine ⟨u0,_,rfl,aK.of (af hc _ _ _ rM),rfl,_,_,rfl,_,_,rfl,rfl,?_⟩
   refine ⟨_,rfl,_,rfl,_,rfl,c,_,rfl,mj.k (k:=.inr b.1) ae (aB (by omega)),?_⟩
   rw [bS]
   have keep:∀(w:Str) (kvs':List (Key×V)),(∀j:Key,bE kvs' j=if j=.inr b.1 then some (.str w) else bE kvs j)->w=fL ins (decide (x0 % 2=1)) b.1->∀x∈(bs.take (i + 1)).map (·.1),bE kvs' (.inr x)=some (.str (fL ins (decide (x0 % 2=1)) x)):=fun w kvs' hv hw x hx=>by
     rw [hv]
     by_cases e:(Sum.inr x:Key)=.inr b.1
     · rw [if_pos e,hw]
       injection e with e
       rw [e]
     · rw [if_neg e]
       refine DK x ?_
       rw [Z9,fP,Z5] at hx
       rcases List.mem_append.mp hx with z | z
       · exact z
       · exact absurd (by rw [List.mem_singleton.mp z]) e
   refine ⟨_,rfl,_,rfl,I,_,rfl,.inl (ao.of (hI1 _)),rfl,km ins,_,rfl,?_⟩
   rw [if_pos rfl,rQ]
   refine aF (fun c1=>?_) (fun c1=>?_)
   · have uz:b.1 ∉ ins:=fun z=>by rw [decide_eq_true z] at c1; exact absurd c1 (by decide)
     refine ⟨_,rfl,r,_,_,_,rfl,rfl,ao.of (hr1 _),a0,_,_,rfl,rfl,(by show (0:Int) < 2; decide),rfl,_,rfl,?_⟩
     refine aF (fun c2=>?_) (fun c2=>?_)
     · have e2:x0 % 2=1:=by have:=of_decide_eq_true c2; injection this
       have hl2:=bL (putK kvs (.inr b.1) (V.str b.1)) (.inr b.1) (V.str (b.1++"z"))
       refine ⟨_,rfl,_,_,rfl,rfl,small (show _<=1000 by have:Str.length ("z":Str)=1:=(by decide +kernel); omega),_,rfl,_,rfl,c,_,rfl,mj.k (k:=.inr b.1) ae (aB (by omega)),?_⟩
       rw [bS]
       refine ⟨⟨_,_,rfl⟩,_,rfl,by omega,keep (b.1++"z") _ (fun j=>?_) ?_⟩
       · rw [eY,eY]
         by_cases e:j=(.inr b.1:Key)
         · rw [if_pos e,if_pos e]
         · rw [if_neg e,if_neg e,if_neg e]
       · unfold fL
         rw [if_neg uz,if_pos (decide_eq_true e2)]
     · have e2:¬ x0 % 2=1:=fun z=>c2 (decide_eq_true (show V.int (x0 % 2)=V.int 1 by rw [z]))
       refine ⟨⟨_,_,rfl⟩,_,rfl,by omega,keep b.1 _ (fun j=>eY _ _ _ _) ?_⟩
       unfold fL
       rw [if_neg uz,if_neg (fun z=>e2 (of_decide_eq_true z))]
   · refine iW ⟨⟨_,_,rfl⟩,_,rfl,by omega,keep b.1 _ (fun j=>eY _ _ _ _) ?_⟩
     have uz:b.1∈ins:=Classical.byContradiction fun z=>c1 (by rw [decide_eq_false z]; rfl)
     unfold fL
     rw [if_pos uz]
 obtain ⟨⟨nv,sv,rfl⟩,kvs,rfl,W6,DK⟩:=z
 rw [kX,aao] at DK
 have s1:ag H (upd H c (.dK kvs)):=af hc _
 have ca:bO (upd H c (.dK kvs)) c (bs.map (·.1)) (fL ins (decide (x0 % 2=1))):=⟨kvs,ae,DK⟩
 generalize upd H c (.dK kvs)=H1 at s1 ca ⊢
 have Lf:=s1 _ _ hN
 have hr1:=s1 _ _ CS
 refine ⟨_,rfl,N,_,rfl,.inl (ao.of Lf),?_⟩
 have AH:(0:Int) < 2 * (vn.length:Int):=by omega
 refine ⟨_,rfl,r,_,_,_,rfl,rfl,ao.of hr1,a1,_,rfl,_,_,rfl,rfl,.inl ⟨by decide,by decide⟩,_,_,rfl,rfl,AH,?_⟩
 have MW:0<=x1 % (2 * (vn.length:Int)):=aaj _ (by omega)
 obtain ⟨sk,yn⟩ : ∃sk:Int,sk=x1 % (2 * (vn.length:Int)):=⟨_,rfl⟩
 rw [← yn] at MW
 refine ⟨_,rfl,_,_,rfl,⟨by decide,by decide,by omega,by omega⟩,fun la Ls=>?_⟩
 refine dZ (lo:=1) (n:=((vn.length:Int) - 1).toNat) (fun i H2=>H2=upd H1 la (.lst (((aaA i).map fun j:Nat=>(1:Int) + (j:Int)).map V.int))) rfl (fun i H2 hi z=>?_) (fun H2 z=>?_)
 · subst z
   refine bo ?_
   refine bU (A:=fun H3=>de _ la _ H3 _) ?_
   refine ⟨_,rfl,_,ae,aB (by rw [ZX,ZX,abv]; omega),aL (Pv:=fun i H2=>H2=upd H1 la (.lst (((aaA i).map fun j:Nat=>(1:Int) + (j:Int)).map V.int))) (by repeat' constructor) hi ?_⟩
   rw [bS,List.range_succ,Z5,Z5]
   rfl
 subst z
 refine ⟨agc,fun oa Lw=>?_⟩
 have N5:la≠oa:=ah ae Lw
 have Hs:H1 oa=none:=by rw [aj N5.symm] at Lw; exact Lw
 refine ⟨_,rfl,_,_,rfl,rfl,_,rfl,by omega,by omega,?_⟩
 refine ko (lo:=0) (n:=((vn.length:Int) - 1).toNat) (fun i σ H2=>∃(kv:Option V) (ord left:List Int),σ=[some (.ref p),some (.ref r),some (.ref B),some (.ref I),some (.ref N),some (.ref c),nv,sv,some (.int (vn.length:Int)),some (.int (x1 % (2 * (vn.length:Int)))),some (.ref la),some (.ref oa),kv,none,none,none,none]/\ag H1 H2/\H2 la=some (.lst (left.map V.int))/\H2 oa=some (.lst (ord.map V.int))/\ord.length=i + 1/\left.length + i + 1=vn.length/\(∀x∈ord,0<=x/\x < (vn.length:Int))/\(∀x∈left,0<=x/\x < (vn.length:Int))/\(∀x:Int,0<=x->x < (vn.length:Int)->x∈ord\/x∈left)/\ord[0]? = some 0) ?_ ?_ ?_
 · refine ⟨none,[0],(aaA ((vn.length:Int) - 1).toNat).map fun j:Nat=>(1:Int) + (j:Int),rfl,aG (af Ls _) Hs,?_,ae,rfl,?_,?_,?_,?_,rfl⟩
   · rw [aj N5]; exact ae
   · rw [ZX,abv]; omega
   · intro x hx
     rw [List.mem_singleton.mp hx]
     omega
   · intro x hx
     obtain ⟨j,hj,rfl⟩:=List.mem_map.mp hx
     have:=List.mem_range.mp hj
     omega
   · intro x h0 h1
     by_cases e:x=0
     · exact .inl (List.mem_singleton.mpr e)
     · exact .inr (List.mem_map.mpr ⟨(x - 1).toNat,List.mem_range.mpr (by omega),by omega⟩)
 · rintro i σ H2 hi ⟨kv,ord,left,rfl,s2,rJ,rL,To,P4,ho,hl,cov,yT⟩
   have m3:=s2 _ _ hr1
   have lL:(0:Int) < ((left.map V.int).length:Int):=by rw [ZX]; omega
   have d0:(0:Int) + (i:Int) + 1 < 2 ^ 1000:=acV (show _<=(2 ^ 40:Int) by omega) (by decide +kernel)
   refine ⟨_,rfl,.inl ⟨rfl,_,ao.of rL⟩,_,rfl,.inl ⟨rfl,_,ao.of rJ⟩,_,rfl,r,_,_,_,rfl,rfl,ao.of m3,a2,_,rfl,_,_,rfl,rfl,_,_,rfl,rfl,⟨(by show (0:Int) < 0 + (i:Int) + 1; omega),d0⟩,_,rfl,la,_,rfl,.inl (ao.of rJ),_,_,rfl,rfl,lL,?_⟩
   have r0:=aaj (x2 / (0 + (i:Int) + 1)) (show ((left.map V.int).length:Int)≠0 by omega)
   have rl:=aac (x2 / (0 + (i:Int) + 1)) lL
   obtain ⟨rr,Ts⟩ : ∃rr:Int,rr=x2 / (0 + (i:Int) + 1) % ((left.map V.int).length:Int):=⟨_,rfl⟩
   rw [← Ts] at r0 rl
   rw [ZX] at rl
   have NX:rr.toNat < left.length:=by omega
   have hix:AX (left.map V.int).length rr=some rr.toNat:=by rw [ZX]; unfold AX; rw [if_pos r0,if_pos rl]
   have WU:(left.map V.int)[rr.toNat]? = some (V.int left[rr.toNat]):=by rw [aaq,ZZ NX]; rfl
   have oy:(upd H2 la (.lst ((left.eraseIdx rr.toNat).map V.int))) oa=some (.lst (ord.map V.int)):=by rw [aj N5.symm]; exact rL
   refine ⟨la,_,rr,rr.toNat,_,rfl,(by subst Ts; rfl),rJ,by omega,by omega,(pX hix).1,WU,?_⟩
   rw [(oX V.int left rr.toNat).symm]
   refine ⟨oa,_,_,rfl,rfl,oy,aB (by rw [ZX]; omega),?_⟩
   have hle:=List.length_eraseIdx_of_lt NX
   refine ⟨_,ord++[left[rr.toNat]],left.eraseIdx rr.toNat,rfl,aG (aG s2 Ls) Hs,?_,?_,?_,?_,?_,?_,?_,by rw [aaJ (by omega)]; exact yT⟩
   · rw [aj N5]; exact ae
   · rw [ae,Z5]; rfl
   · rw [Z0,To]; rfl
   · omega
   · intro x hx
     rcases List.mem_append.mp hx with z | z
     · exact ho x z
     · rw [List.mem_singleton.mp z]
       exact hl _ (acn NX)
   · exact fun x hx=>hl x ((List.eraseIdx_sublist _ _).mem hx)
   · intro x h0 h1
     rcases cov x h0 h1 with z | z
     · exact .inl (List.mem_append.mpr (.inl z))
     · rcases ni NX z with y | y
       · exact .inl (List.mem_append.mpr (.inr (List.mem_singleton.mpr y)))
       · exact .inr y
 rintro σ H2 ⟨kv,ord,left,rfl,s2,rJ,rL,To,P4,ho,hl,cov,yT⟩
 have LU:left=[]:=List.length_eq_zero_iff.mp (by omega)
 have cov:∀x:Int,0<=x->x < (vn.length:Int)->x∈ord:=fun x h0 h1=>(cov x h0 h1).resolve_right fun z=>by rw [LU] at z; exact nomatch z
 clear hl P4
 have m3:=s2 _ _ hr1
 have cl:∀c:Bool,(-(2 ^ 64):Int) < (if c=true then 1 else 0)/\(if c=true then (1:Int) else 0) < 2 ^ 64:=by decide
 refine ⟨_,rfl,_,rfl,_,_,rfl,rfl,_,rfl,?_⟩
 have factB:¬ decide (x1 % (2 * (vn.length:Int)) < (vn.length:Int))=true->ag H1 H2/\H2 oa=some (.lst (ord.map V.int))/\(∀x∈ord,0<=x/\(x < (vn.length:Int)\/(x=(vn.length:Int)/\sk < (vn.length:Int))))/\(∀x:Int,0<=x->x < (vn.length:Int)->x∈ord)/\ord.length<=vn.length + 1/\(sk < (vn.length:Int)->(vn.length:Int)∈ord)/\(sk=0/\sk < (vn.length:Int)->ord[0]? = some (vn.length:Int))/\(¬ (sk=0/\sk < (vn.length:Int))->ord[0]? = some 0):=fun c1=>by
   have zx:¬ sk < (vn.length:Int):=fun z=>c1 (decide_eq_true (by rw [← yn]; exact z))
   exact ⟨s2,rL,fun x hx=>⟨(ho x hx).1,.inl (ho x hx).2⟩,fun x h0 h1=>cov x h0 h1,by omega,fun z=>absurd z zx,fun z=>absurd z.2 zx,fun _=>yT⟩
 refine Cf (Pm:=fun H3 cg=>ag H1 H3/\H3 oa=some (.lst (cg.map V.int))/\(∀x∈cg,0<=x/\(x < (vn.length:Int)\/(x=(vn.length:Int)/\sk < (vn.length:Int))))/\(∀x:Int,0<=x->x < (vn.length:Int)->x∈cg)/\cg.length<=vn.length + 1/\(sk < (vn.length:Int)->(vn.length:Int)∈cg)/\(sk=0/\sk < (vn.length:Int)->cg[0]? = some (vn.length:Int))/\(¬ (sk=0/\sk < (vn.length:Int))->cg[0]? = some 0)) (fun rest=>aF (fun c1=>?brA) (fun c1=>rest H2 ord (factB c1))) ?rest1
 case brA=>
   have zx:sk < (vn.length:Int):=by rw [yn]; exact of_decide_eq_true c1
   obtain ⟨j,hj,hjn⟩:=jf (cov sk MW zx)
   have Tf:j < ord.length:=(List.getElem?_eq_some_iff.mp hj).1
   have ZT:=aaj x3 (show (2:Int)≠0 by decide)
   have ZR:=aac x3 (show (0:Int) < 2 by decide)
   have Vc:∀b:Bool,0<=x3 % 2 * (if b=true then 1 else 0)/\x3 % 2 * (if b=true then 1 else 0)<=1:=fun b=>by cases b <;> simp <;> omega
   have b1:=Vc (decide (0 < x1 % (2 * (vn.length:Int))))
   obtain ⟨ix,Lp⟩ : ∃ix:Int,ix=(j:Int) + x3 % 2 * (if decide (0 < x1 % (2 * (vn.length:Int)))=true then 1 else 0):=⟨_,rfl⟩
   refine ⟨_,rfl,.inl ⟨rfl,_,ao.of rL⟩,_,rfl,.inl ⟨rfl,_,ao.of rL⟩,_,rfl,oa,ord,sk,j,rfl,(by rw [yn]),ao.of rL,hj,hjn,by omega,_,rfl,r,_,_,_,rfl,rfl,ao.of m3,a3,_,_,rfl,rfl,(by show (0:Int) < 2; decide),_,rfl,_,_,rfl,rfl,.inr ⟨_,rfl,_,_,rfl,rfl,.inr (cl _),_,_,rfl,rfl,_,rfl,oa,_,_,ix,rfl,(by subst Lp; rfl),rL,by omega,by rw [ZX]; omega,by rw [ZX]; omega,?_⟩⟩
   obtain ⟨cg,qC⟩ : ∃cg:List Int,cg=ord.take ix.toNat++(vn.length:Int) :: ord.drop ix.toNat:=⟨_,rfl⟩
   have eo:(ord.map V.int).take ix.toNat++V.int (vn.length:Int) :: (ord.map V.int).drop ix.toNat=cg.map V.int:=by rw [qC,Z5,aaw,List.map_take,List.map_drop]
   have F1:∀x∈cg,0<=x/\(x < (vn.length:Int)\/(x=(vn.length:Int)/\sk < (vn.length:Int))):=fun x hx=>by
     rw [qC] at hx
     rcases List.mem_append.mp hx with z | z
     · exact ⟨(ho x (ad0 z)).1,.inl (ho x (ad0 z)).2⟩
     · rcases List.mem_cons.mp z with z | z
       · exact ⟨by omega,.inr ⟨z,zx⟩⟩
       · exact ⟨(ho x (acA z)).1,.inl (ho x (acA z)).2⟩
   have F2:∀x:Int,0<=x->x < (vn.length:Int)->x∈cg:=fun x h0 h1=>by
     have:=cov x h0 h1
     rw [← abq ix.toNat ord] at this
     rw [qC]
     rcases List.mem_append.mp this with z | z
     · exact List.mem_append.mpr (.inl z)
     · exact List.mem_append.mpr (.inr (List.mem_cons.mpr (.inr z)))
   have F3:cg.length<=vn.length + 1:=by
     rw [qC,Z0,aam,aak,aa7]
     omega
   have F4:(vn.length:Int)∈cg:=by
     rw [qC]
     exact List.mem_append.mpr (.inr (List.mem_cons.mpr (.inl rfl)))
   rw [eo]
   have s3:ag H1 (upd H2 oa (.lst (cg.map V.int))):=aG s2 Hs
   have oy:(upd H2 oa (.lst (cg.map V.int))) oa=some (.lst (cg.map V.int)):=ae
   generalize upd H2 oa (.lst (cg.map V.int))=H3 at s3 oy ⊢
   refine rest H3 cg ⟨s3,oy,F1,F2,F3,fun _=>F4,fun e=>?_,fun e=>?_⟩
   · have ei:ix.toNat=0:=by
       have AE:j=0:=by
         by_cases AE:j=0
         · exact AE
         · exact absurd (by rw [e.1]; exact yT) (hjn 0 (by omega))
       rw [Lp,← yn,e.1,AE,show decide ((0:Int) < 0)=false from rfl]
       simp
     rw [qC,ei]
     rfl
   · have Tg:0 < j:=by
       by_cases AE:j=0
       · subst AE
         rw [yT] at hj
         exact absurd ⟨(aap hj).symm,zx⟩ e
       · omega
     have WZ:0 < ix.toNat:=by omega
     rw [qC,aaJ (by rw [aak]; omega),acQ,if_pos WZ]
     exact yT
 case rest1=>
   rintro H3 cg ⟨s3,oy,F1,F2,F3,F4,Z1,Z2⟩
   have i6:=aa s1 s3
   refine ⟨_,rfl,_,rfl,by omega,by omega,fun pa LB=>?_⟩
   have Yg:oa≠pa:=ah oy LB
   refine dZ (lo:=0) (n:=(vn.length:Int).toNat) (fun i H4=>∃ps:List Int,H4=upd H3 pa (.lst (ps.map V.int))/\ps.length=i/\(∀x∈ps,0<=x)/\xt cg ps) ⟨[],rfl,rfl,(fun x hx=>nomatch hx),fun k x hx=>by simp at hx⟩ (fun i H4 hi z=>?_) (fun H4 z=>?_)
   · obtain ⟨ps,rfl,hpl,Qf,LC⟩:=z
     obtain ⟨j,hj,hjn⟩:=jf (F2 (0 + (i:Int)) (by omega) (by omega))
     have Lx:(upd H3 pa (.lst (ps.map V.int))) oa=some (.lst (cg.map V.int)):=by rw [aj Yg]; exact oy
     refine bo ?_
     refine bU (A:=fun H3=>de _ pa _ H3 _) ?_
     refine ⟨_,rfl,.inl ⟨rfl,_,ao.of Lx⟩,_,rfl,oa,cg,0 + (i:Int),j,rfl,rfl,ao.of Lx,hj,hjn,by omega,_,ae,aB (by rw [ZX]; omega),aL (Pv:=fun i H4=>∃ps:List Int,H4=upd H3 pa (.lst (ps.map V.int))/\ps.length=i/\(∀x∈ps,0<=x)/\xt cg ps) (by repeat' constructor) hi ⟨ps++[(j:Int)],?_,by rw [Z0,hpl]; rfl,fun x hx=>?_,y3 LC (by rw [hpl,← ac5 (i:Int)]; exact hj) (by rw [hpl,← ac5 (i:Int)]; exact hjn)⟩⟩
     · rw [bS,Z5]
       rfl
     · rcases List.mem_append.mp hx with z | z
       · exact Qf x z
       · rw [List.mem_singleton.mp z]; omega
   obtain ⟨ps,rfl,hpl,Qf,LC⟩:=z
   rw [aaT] at hpl
   have s4:ag H3 (upd H3 pa (.lst (ps.map V.int))):=af LB _
   have AN:(upd H3 pa (.lst (ps.map V.int))) pa=some (.lst (ps.map V.int)):=ae
   have Xl:H pa=none:=aq i6 LB
   generalize upd H3 pa (.lst (ps.map V.int))=H4 at s4 AN ⊢
   refine ⟨_,rfl,pa,_,rfl,.inl (ao.of AN),fun bh Lh=>?_⟩
   obtain ⟨H5,s5,Li,zz⟩:=aJ Lh (.lst (ps.map V.int))
   rw [zz]; clear zz
   have Kq:=aa (aa i6 s4) s5
   have Pe:H bh=none:=aq (aa i6 s4) Lh
   refine ⟨_,rfl,_,rfl,_,_,rfl,rfl,_,rfl,?_⟩
   have factC:¬ decide (x1 % (2 * (vn.length:Int)) < (vn.length:Int))=true->ag H H5/\H5 oa=some (.lst (cg.map V.int))/\H5 pa=some (.lst (ps.map V.int))/\bO H5 c (bs.map (·.1)) (fL ins (decide (x0 % 2=1)))/\H5 bh=some (.lst (ps.map V.int))/\ps.length=vn.length/\vN cg (vn.length:Int) ps ps sk.toNat/\ps[0]? = some 0:=fun z=>by
     have zx:¬ sk < (vn.length:Int):=fun y=>z (decide_eq_true (by rw [← yn]; exact y))
     exact ⟨Kq,s5 _ _ (s4 _ _ oy),s5 _ _ AN,ca.same (aa (aa s3 s4) s5),Li,hpl,fun k x hx=>.inl hx,pe LC (Z2 fun e=>zx e.2) (by omega)⟩
   refine Cf (Pm:=fun H6 dt=>ag H H6/\H6 oa=some (.lst (cg.map V.int))/\H6 pa=some (.lst (ps.map V.int))/\bO H6 c (bs.map (·.1)) (fL ins (decide (x0 % 2=1)))/\H6 bh=some (.lst (dt.map V.int))/\dt.length=vn.length/\vN cg (vn.length:Int) ps dt sk.toNat/\dt[0]? = some 0) (fun rest=>aF (fun c2=>?brC) (fun c2=>rest H5 ps (factC c2))) ?rest2
   case brC=>
     have zx:sk < (vn.length:Int):=by rw [yn]; exact of_decide_eq_true c2
     have F4:=F4 zx
     have Ht:=s5 _ _ (s4 _ _ oy)
     obtain ⟨j2,NR,hj2n⟩:=jf F4
     have Px:AX (ps.map V.int).length sk=some sk.toNat:=by rw [ZX,hpl]; unfold AX; rw [if_pos MW,if_pos zx]
     refine ⟨_,rfl,.inl ⟨rfl,_,ao.of Ht⟩,_,rfl,oa,cg,_,j2,rfl,rfl,ao.of Ht,NR,hj2n,by omega,_,rfl,_,rfl,bh,_,sk,sk.toNat,rfl,(by rw [yn]),Li,Px,?_⟩
     obtain ⟨dt,Aw⟩ : ∃dt:List Int,dt=ps.set sk.toNat (j2:Int):=⟨_,rfl⟩
     have eb:(ps.map V.int).set sk.toNat (V.int (j2:Int))=dt.map V.int:=by rw [Aw,List.map_set]
     have NL:dt.length=vn.length:=by rw [Aw,abZ]; exact hpl
     have Pg:vN cg (vn.length:Int) ps dt sk.toNat:=fun k x hx=>by
       rw [Aw,acX] at hx
       by_cases e:sk.toNat=k
       · rw [if_pos e] at hx
         by_cases e2:sk.toNat < ps.length
         · rw [if_pos e2] at hx
           cases hx
           exact .inr ⟨e.symm,j2,rfl,NR⟩
         · rw [if_neg e2] at hx
           cases hx
       · rw [if_neg e] at hx
         exact .inl hx
     have wj:dt[0]? = some 0:=by
       rw [Aw]
       by_cases e:sk=0
       · have h2:=Z1 ⟨e,zx⟩
         have AE:j2=0:=by
           by_cases AE:j2=0
           · exact AE
           · exact absurd h2 (hj2n 0 (by omega))
         rw [e,AE]
         have:0 < ps.length:=by omega
         rw [acX]
         simp [this]
       · rw [acX,if_neg (by omega)]
         exact pe LC (Z2 fun z=>e z.1) (by omega)
     rw [eb]
     have Qi:=s5 _ _ AN
     have Yf:pa≠bh:=ah AN Lh
     have BV:ag H (upd H5 bh (.lst (dt.map V.int))):=aG Kq Pe
     have AM:(upd H5 bh (.lst (dt.map V.int))) oa=some (.lst (cg.map V.int)):=by rw [aj (ah (s4 _ _ oy) Lh)]; exact Ht
     have AO:(upd H5 bh (.lst (dt.map V.int))) pa=some (.lst (ps.map V.int)):=by rw [aj Yf]; exact Qi
     have J8:bO (upd H5 bh (.lst (dt.map V.int))) c (bs.map (·.1)) (fL ins (decide (x0 % 2=1))):=by
       obtain ⟨kvs,hk,hv⟩:=ca
       exact ⟨kvs,by rw [aj (ah (s4 _ _ (s3 _ _ hk)) Lh)]; exact s5 _ _ (s4 _ _ (s3 _ _ hk)),hv⟩
     have Av:(upd H5 bh (.lst (dt.map V.int))) bh=some (.lst (dt.map V.int)):=ae
     generalize upd H5 bh (.lst (dt.map V.int))=H6 at BV AM AO J8 Av ⊢
     exact rest H6 dt ⟨BV,AM,AO,J8,Av,NL,Pg,wj⟩
   case rest2=>
     rintro H6 dt ⟨BV,AM,AO,J8,Av,NL,Pg,wj⟩
     refine ⟨agb,fun fa hfa=>?_⟩
     refine ⟨_,rfl,oa,rfl,⟨_,ao.of (af hfa _ _ _ AM)⟩,?_⟩
     refine fU (xs:=cg.map V.int) (fun i σ H7=>(∃kv,σ=[some (.ref p),some (.ref r),some (.ref B),some (.ref I),some (.ref N),some (.ref c),nv,sv,some (.int (vn.length:Int)),some (.int (x1 % (2 * (vn.length:Int)))),some (.ref la),some (.ref oa),kv,some (.ref pa),some (.ref bh),some (.ref fa),none])/\∃(vn2:List V) (nds2:List Nd),ag H6 H7/\H7 fa=some (.lst vn2)/\Paired (cw H7) vn2 nds2/\nds2.length=i/\vQ bs (fL ins (decide (x0 % 2=1))) nds cg ps dt sk nds2) ⟨⟨_,rfl⟩,[],[],af hfa _,ae,.nil,rfl,fun j e hj=>by simp at hj⟩ (fun i σ H7 _ z=>?_) (fun i x σ H7 hx z=>?_) (fun σ H7 z=>?_)
     · obtain ⟨_,vn2,nds2,s7,_⟩:=z
       exact ao.of (s7 _ _ AM)
     · obtain ⟨⟨kv,rfl⟩,vn2,nds2,s7,AB,N9,hn2,zt⟩:=z
       obtain ⟨k,hk,rfl⟩ : ∃k,cg[i]? = some k/\x=V.int k:=by
         rw [aaq] at hx
         obtain ⟨y,h1,h2⟩:=Option.map_eq_some_iff.mp hx
         exact ⟨y,h1,h2.symm⟩
       have dP:i < cg.length:=(List.getElem?_eq_some_iff.mp hk).1
       obtain ⟨k0,k1⟩:=F1 k (aab hk)
       have s07:=aa BV s7
       have XF:vn2.length=nds2.length:=Paired.length N9
       have app:∀(v':V) (H8:Hp) (e':Nd),ag H7 H8->cw H8 v' e'->H8 fa=some (.lst vn2)/\ag H6 (upd H8 fa (.lst (vn2++[v'])))/\Paired (cw (upd H8 fa (.lst (vn2++[v'])))) (vn2++[v']) (nds2++[e']):=fun v' H8 e' s8 L5=>by
         have h8:=s8 _ _ AB
         exact ⟨h8,aG (aa s7 s8) hfa,Paired.snoc (Paired.aZ N9 fun a b h=>cw.keep ((ag.tk s8).trans (TK.lst h8)) h) (cw.keep (TK.lst h8) L5)⟩
       refine ⟨_,rfl,_,rfl,_,_,rfl,rfl,_,rfl,?_⟩
       refine aF (fun c5=>?_) (fun c5=>?_)
       · have Ke:k < (vn.length:Int):=of_decide_eq_true c5
         obtain ⟨v9,g9,Hl⟩:=qN (xs:=vn) (r:=k) k0 Ke
         obtain ⟨e9,SJ,Yc⟩:=Paired.get pn g9
         have SH:=zw.good e9 (aab SJ)
         rw [← ki,← NL] at SH
         refine ⟨_,rfl,.inl ⟨rfl,_,ao.of AB⟩,_,rfl,_,rfl,N,_,_,_,rfl,rfl,ao.of (s07 _ _ hN),Hl,_,rfl,_,rfl,v9,c,bh,e9,bs.map (·.1),_,dt,rfl,cw.keep (ag.tk s07) Yc,SH,J8.same s7,s7 _ _ Av,fun v' H8 s8 L5=>?_⟩
         obtain ⟨z1,z2,z3⟩:=app v' H8 _ s8 L5
         exact ⟨fa,vn2,v',rfl,rfl,z1,aB (by omega),⟨_,rfl⟩,_,_,z2,ae,z3,by rw [Z0,hn2]; rfl,nj zt ⟨k,by rw [hn2]; exact hk,.inl ⟨e9,k0,SJ,rfl⟩⟩⟩
       · have Ke:k=(vn.length:Int)/\sk < (vn.length:Int):=k1.resolve_left fun z=>c5 (decide_eq_true z)
         have Qj:=nC (ps:=ps) MW (by rw [hpl]; exact Ke.2)
         rw [yn] at Qj
         have Qk:0<=oC ps (x1 % (2 * (vn.length:Int))):=by
           obtain ⟨y,_,hy,e⟩:=cF V.int ps (r:=sk) MW (by rw [hpl]; exact Ke.2)
           rw [yn,Qj] at e
           injection e with e
           injection e with e
           rw [e]
           exact Qf y hy
         refine ⟨_,rfl,.inl ⟨rfl,_,ao.of AB⟩,_,rfl,_,rfl,_,rfl,r,_,_,_,rfl,rfl,ao.of (s07 _ _ CS),a4,_,rfl,_,rfl,pa,_,_,_,rfl,rfl,ao.of (s7 _ _ AO),Qj,B,c,vb,bs,_,x4,_,rfl,s07 _ _ hB,Paired.aZ pb (fun a b h=>Tp.keep (ag.tk s07) h),J8.same s7,RF,Qk,fun v' H8 e' s8 L5 Qq=>?_⟩
         obtain ⟨z1,z2,z3⟩:=app v' H8 e' s8 L5
         exact ⟨fa,vn2,v',rfl,rfl,z1,aB (by omega),⟨_,rfl⟩,_,_,z2,ae,z3,by rw [Z0,hn2]; rfl,nj zt ⟨k,by rw [hn2]; exact hk,.inr ⟨by rw [Ke.1,ki],by rw [← ki]; exact Ke.2,by rw [yn]; exact Qq⟩⟩⟩
     obtain ⟨⟨kv,rfl⟩,vn2,nds2,s7,AB,N9,hn2,zt⟩:=z
     rw [ZX] at hn2
     have NO:pJ bs (fL ins (decide (x0 % 2=1))) nds nds2 ps dt:=yE (by rw [hpl]; exact ki) (by rw [NL]; exact ki) LC (by rw [← ki]; exact Pg) zt hn2 wj
     have s07:=aa BV s7
     have SV:=s07 _ _ hB
     have Sq:=J8.same s7
     refine ⟨_,rfl,B,rfl,⟨_,ao.of SV⟩,fun ta CT=>?_⟩
     refine bj (xs:=vb) (fun i H8=>∃vt:List V,ag H7 H8/\H8 ta=some (.lst vt)/\vt.length=i/\Paired (bG H8) vt ((bs.map fun b=>(fL ins (decide (x0 % 2=1)) b.1,b.2)).take i)) ⟨[],af CT _,ae,rfl,.nil⟩ (fun i H8 _ z=>ao.of (z.choose_spec.1 _ _ SV)) (fun i x H8 hx z=>?_) (fun H8 z=>?_)
     · obtain ⟨vt,s8,iU,FT,pt⟩:=z
       obtain ⟨b,fP,u0,rfl,rM⟩:=Paired.get pb hx
       have dP:i < vb.length:=(List.getElem?_eq_some_iff.mp hx).1
       have qE:b.1∈bs.map (·.1):=List.mem_map.mpr ⟨b,aab fP,rfl⟩
       refine ⟨u0,_,rfl,aK.of (s8 _ _ (s07 _ _ rM)),rfl,_,_,rfl,_,_,rfl,rfl,?_⟩
       refine bU (A:=fun H3=>de _ ta _ H3 _) ?_
       refine ⟨_,rfl,_,rfl,c,_,rfl,(Sq.same s8).get qE,_,rfl,agd,fun p2 cb=>⟨vt,?_,aB (by omega),aL (Pv:=fun i H8=>∃vt:List V,ag H7 H8/\H8 ta=some (.lst vt)/\vt.length=i/\Paired (bG H8) vt ((bs.map fun b=>(fL ins (decide (x0 % 2=1)) b.1,b.2)).take i)) (by repeat' constructor) dP ?_⟩⟩
       · rw [aj (ah iU cb)]; exact iU
       · have h4:(upd H8 p2 (.tup [.str (fL ins (decide (x0 % 2=1)) b.1),.int b.2])) ta=some (.lst vt):=by rw [aj (ah iU cb)]; exact iU
         refine ⟨vt++[.ref p2],aG (aC s8 cb) CT,ae,by rw [Z0,FT]; rfl,?_⟩
         have eg:(bs.map fun b=>(fL ins (decide (x0 % 2=1)) b.1,b.2))[i]? = some (fL ins (decide (x0 % 2=1)) b.1,b.2):=by rw [aaq,fP]; rfl
         rw [Z9,eg]
         exact Paired.snoc (Paired.aZ pt fun a b h=>Tp.keep ((aI cb _).trans (TK.lst h4)) h) ⟨p2,rfl,by rw [aj (ah iU cb).symm]; exact ae⟩
     obtain ⟨vt,s8,iU,FT,pt⟩:=z
     have K1:(bs.map fun b=>(fL ins (decide (x0 % 2=1)) b.1,b.2)).take vb.length=bs.map fun b=>(fL ins (decide (x0 % 2=1)) b.1,b.2):=aaG (by rw [ZX]; omega)
     rw [K1] at pt
     have s08:=aa s07 s8
     have UA:1 - 2 * (x5 % 2)=1\/1 - 2 * (x5 % 2) = -1:=by
       have:=aaj x5 (show (2:Int)≠0 by decide)
       have:=aac x5 (show (0:Int) < 2 by decide)
       omega
     refine ⟨_,rfl,r,_,_,_,rfl,rfl,ao.of (s08 _ _ CS),a5,_,_,rfl,rfl,(by show (0:Int) < 2; decide),_,_,rfl,rfl,.inl ⟨by decide,by decide⟩,_,_,rfl,rfl,_,rfl,UA,ta,_,rfl,ao.of iU,fun tu Tw=>?_⟩
     refine ⟨_,rfl,_,rfl,I,_,rfl,.inl (ao.of (af Tw _ _ _ (s08 _ _ hI))),fun i2 DJ=>⟨_,rfl,age,fun q3 LD=>⟨_,rfl,_,rfl,_,rfl,agf,fun p4 tE=>?_⟩⟩⟩
     have t1:ag H8 (upd H8 tu (.lst (el (1 - 2 * (x5 % 2)) vt))):=af Tw _
     have g1:(upd H8 tu (.lst (el (1 - 2 * (x5 % 2)) vt))) tu=some (.lst (el (1 - 2 * (x5 % 2)) vt)):=ae
     generalize upd H8 tu (.lst (el (1 - 2 * (x5 % 2)) vt))=H9 at t1 g1 DJ LD tE ⊢
     have t2:ag H9 (upd H9 i2 (.lst (ins.map V.str))):=af DJ _
     have g2:(upd H9 i2 (.lst (ins.map V.str))) i2=some (.lst (ins.map V.str)):=ae
     generalize upd H9 i2 (.lst (ins.map V.str))=HA at t2 g2 LD tE ⊢
     have t3:ag HA (upd HA q3 (.tup [.ref tu,.ref i2,.ref fa])):=af LD _
     have g3:(upd HA q3 (.tup [.ref tu,.ref i2,.ref fa])) q3=some (.tup [.ref tu,.ref i2,.ref fa]):=ae
     generalize upd HA q3 (.tup [.ref tu,.ref i2,.ref fa])=HB at t3 g3 tE ⊢
     have t4:ag HB (upd HB p4 (.tup [.ref q3,.ref c,.ref pa,.ref bh])):=af tE _
     have t78:=aa s8 (aa t1 (aa t2 (aa t3 t4)))
     have t8:=aa t1 (aa t2 (aa t3 t4))
     refine q p4 q3 tu i2 fa c pa bh _ (el (1 - 2 * (x5 % 2)) vt) vn2 (dF (1 - 2 * (x5 % 2)) (bs.map fun b=>(fL ins (decide (x0 % 2=1)) b.1,b.2))) nds2 (decide (x0 % 2=1)) (1 - 2 * (x5 % 2)) (aa s08 t8) ae (t4 _ _ g3) (t4 _ _ (t3 _ _ (t2 _ _ g1))) ?_ (t4 _ _ (t3 _ _ g2)) (t78 _ _ AB) (Paired.aZ N9 fun a b h=>cw.keep (ag.tk t78) h) (by omega) (Sq.same t78) ⟨rfl,UA⟩ ps dt (t78 _ _ (s7 _ _ AO)) (t78 _ _ (s7 _ _ Av)) NO
     exact r9 (Paired.aZ pt fun a b h=>Tp.keep (ag.tk t8) h)
theorem Al (s:Src K mg "_law_made_over" fK)(m_len:mg "len"=none)(m_range:mg "range"=none)(m_int:mg "int"=none)(m_list:mg "list"=none)(NA:aX P w K mg base "_law_node_as" ["node","called","places"] 8 jW)(SK:aX P w K mg base "_law_skip" ["boxes","called","number","after"] 1 nO):aX P w K mg base "_law_made_over" ["program","row"] 9 vA:=
 let ⟨f,fd,F,m⟩:=s
 ⟨f,fd,Ek F m_len m_range m_int m_list NA SK,F.kp,F.binds fun _ _ _ _ _ _ us hl=>match us,hl with | [_,_],_=>rfl,m⟩
theorem pz {α β:Type}(f:α->β)(n:Int)(xs:List α):(dF n xs).map f=dF n (xs.map f):=by
 unfold dF
 split
 · rfl
 · rw [ac3]
theorem RM {bs:List (Str×Int)}{ins:List Str}(h:cG bs ins)(cz:Bool):((bs.map fun b=>(fL ins cz b.1,b.2)).map (·.1)).Nodup:=by
 obtain ⟨nm,szs,h1,h2,_,rfl⟩:=h.nm
 have two:∀x y:Str,x≠y->x++"z"≠y->x≠y++"z"->x++"z"≠y++"z"->fL ins cz x≠fL ins cz y:=fun x y e1 e2 e3 e4=>by
   unfold fL
   split <;> split <;> (try split) <;> (try split) <;> assumption
 have all:∀x y:Str,fL ins cz x≠fL ins cz y->((([x,y].zip szs).map fun b=>(fL ins cz b.1,b.2)).map (·.1)).Nodup:=fun x y e=>by
   match szs,h2 with
   | [],_=>exact abP
   | [a],_=>exact List.nodup_cons.mpr ⟨(fun z=>nomatch z),abP⟩
   | [a,b],_=>exact List.nodup_cons.mpr ⟨fun z=>e (List.mem_singleton.mp z),List.nodup_cons.mpr ⟨(fun z=>nomatch z),abP⟩⟩
   | _ :: _ :: _ :: _,h=>simp at h
 rcases h1 with rfl | rfl | rfl
 · exact all _ _ (two _ _ (by decide +kernel) (by decide +kernel) (by decide +kernel) (by decide +kernel))
 · exact all _ _ (two _ _ (by decide +kernel) (by decide +kernel) (by decide +kernel) (by decide +kernel))
 · exact all _ _ (two _ _ (by decide +kernel) (by decide +kernel) (by decide +kernel) (by decide +kernel))
theorem E2 {row:List Int}{n:Nat}(hR:Row (2 ^ 30) row n)(lo hi:Nat)(h1:lo<=hi)(h2:hi<=n):∃rk,br row (some (lo:Int)) (some (hi:Int))=rk/\Row (2 ^ 30) rk (hi - lo):=by
 have:=hR.len
 refine ⟨_,rfl,?_,fun x hx=>hR.all x ((d4 _ _ _).mem hx)⟩
 rw [qY row _ _ (by omega) h1,aak,aa7]
 omega
theorem jM {row:List Int}{n:Nat}(hR:Row (2 ^ 30) row n)(lo:Nat)(h1:lo<=n):∃rk,br row (some (lo:Int)) none=rk/\Row (2 ^ 30) rk (n - lo):=by
 have:=hR.len
 refine ⟨_,xF row lo,?_,fun x hx=>hR.all x (acA hx)⟩
 rw [aa7]
 omega
theorem Fz {bs:List (Str×Int)}{ins:List Str}(h:cG bs ins):Fits bs ins:=by
 have l2:=h.len
 have il:ins.length<=900:=by
   have:=sub_len h.ind h.insub
   rw [ZX] at this
   omega
 exact ⟨h.nd,by omega,fun b hb=>(h.sz b hb).1,h.ind,h.insub,il⟩
theorem DT {bs:List (Str×Int)}{ins:List Str}(h:cG bs ins):ins.length<=2:=by
 have:=sub_len h.ind h.insub
 rw [ZX] at this
 have l2:=h.len
 omega
theorem Fe {bs:List (Str×Int)}(h:bs.length<=2)(k:∀b∈bs,1<=b.2/\b.2<=16):n9 bs<=256:=by
 match bs,h,k with
 | [],_,_=>exact (by decide)
 | [b],_,k=>
   obtain ⟨h1,h2⟩:=k b (List.mem_cons.mpr (.inl rfl))
   show b.2.toNat * 1<=256
   omega
 | [b,c],_,k=>
   obtain ⟨h1,h2⟩:=k b (List.mem_cons.mpr (.inl rfl))
   obtain ⟨h3,h4⟩:=k c (List.mem_cons.mpr (.inr (List.mem_cons.mpr (.inl rfl))))
   show b.2.toNat * (c.2.toNat * 1)<=256
   have:b.2.toNat * (c.2.toNat * 1)<=16 * 16:=acD (by omega) (by omega)
   omega
 | _ :: _ :: _ :: _,h,_=>simp at h
theorem Mh {bs b':List (Str×Int)}{ins:List Str}{cz:Bool}{st:Int}(h:cG bs ins)(o:tI bs ins cz st b'):Fits b' ins/\ins.map (cj bs)=ins.map (cj b')/\b'.length=bs.length/\(∀b∈b',1<=b.2/\b.2<=5)/\∀x∈bs.map (·.1),fL ins cz x∈b'.map (·.1):=by
 have hl:b'.length=bs.length:=by rw [o.bx,zb,ZX]
 have l2:=h.len
 have f1:=Fz h
 have nd:(b'.map (·.1)).Nodup:=by
   rw [o.bx,pz]
   exact sU (RM h cz)
 have mem:∀b∈bs,(fL ins cz b.1,b.2)∈b':=fun b hb=>by
   rw [o.bx]
   exact gZ.mpr (List.mem_map.mpr ⟨b,hb,rfl⟩)
 have szs:∀c∈b',1<=c.2/\c.2<=5:=fun c hc=>by
   rw [o.bx] at hc
   obtain ⟨b,hb,rfl⟩:=List.mem_map.mp (gZ.mp hc)
   exact h.sz b hb
 have key:∀x∈ins,∃b∈bs,b.1=x/\(x,b.2)∈b':=fun x hx=>by
   obtain ⟨b,hb,e⟩:=List.mem_map.mp (h.insub x hx)
   refine ⟨b,hb,e,?_⟩
   have:=mem b hb
   rw [show fL ins cz b.1=x by unfold fL; rw [e,if_pos hx]] at this
   exact this
 refine ⟨⟨nd,by omega,fun c hc=>(szs c hc).1,h.ind,fun x hx=>?_,f1.ilen⟩,acE fun x hx=>?_,hl,szs,fun x hx=>?_⟩
 · obtain ⟨b,hb,e,hm⟩:=key x hx
   exact List.mem_map.mpr ⟨_,hm,rfl⟩
 · obtain ⟨b,hb,e,hm⟩:=key x hx
   have e1:=kf h.nd hb
   have e2:=kf nd hm
   rw [e] at e1
   rw [e1]
   exact e2.symm
 · obtain ⟨b,hb,rfl⟩:=List.mem_map.mp hx
   exact List.mem_map.mpr ⟨_,mem b hb,rfl⟩
theorem E.gS (f:Str->Str):∀e:E,(e.vf f).dep=e.dep
 | .num _=>rfl
 | .box _ _=>rfl
 | .yes=>rfl
 | .nt a=>by show (a.vf f).dep + 1=a.dep + 1; rw [E.gS f a]
 | .two _ a b=>by show max (a.vf f).dep (b.vf f).dep + 1=max a.dep b.dep + 1; rw [E.gS f a,E.gS f b]
theorem E.dA (f:Str->Str):∀e:E,e.fQ->(e.vf f).fQ
 | .num _,_=>aat
 | .box _ _,_=>aat
 | .two .plus a b,h=>⟨E.dA f a h.1,E.dA f b h.2⟩
 | .two .less a b,h=>⟨E.dA f a h.1,E.dA f b h.2⟩
theorem E.lY (f:Str->Str):∀e:E,e.gP->(e.vf f).gP
 | .yes,_=>aat
 | .nt a,h=>E.lY f a h
 | .two .same a b,h=>⟨E.dA f a h.1,E.dA f b h.2⟩
 | .two .under a b,h=>⟨E.dA f a h.1,E.dA f b h.2⟩
 | .two .both a b,h=>⟨E.lY f a h.1,E.lY f b h.2⟩
theorem E.kK {f:Str->Str}{A B:Str->Prop}(hf:∀x,A x->B (f x)):∀e:E,e.okIn (fun t y=>t="box"/\A y)->(e.vf f).okIn (fun t y=>t="box"/\B y)
 | .num _,h=>h
 | .box _ _,h=>⟨h.1,hf _ h.2⟩
 | .yes,_=>aat
 | .nt a,h=>E.kK hf a h
 | .two _ a b,h=>⟨E.kK hf a h.1,E.kK hf b h.2⟩
theorem Nd.good.imp {A B:Str->Prop}{m:Int}{d d':Nat}(hf:∀x,A x->B x)(hd:d<=d'):∀{e:Nd},e.good A m d->e.good B m d'
 | .put x s n,h=>⟨hf x h.1,h.2.1,E.okIn.imp (fun t y z=>⟨z.1,hf y z.2⟩) h.2.2.1,Z8 h.2.2.2.1 hd,h.2.2.2.2.1,h.2.2.2.2.2⟩
 | .say s n,h=>⟨h.1,E.okIn.imp (fun t y z=>⟨z.1,hf y z.2⟩) h.2.1,Z8 h.2.2.1 hd,h.2.2.2.1,h.2.2.2.2⟩
 | .test c n o,h=>⟨h.1,E.okIn.imp (fun t y z=>⟨z.1,hf y z.2⟩) h.2.1,Z8 h.2.2.1 hd,h.2.2.2.1,h.2.2.2.2.1,h.2.2.2.2.2.1,h.2.2.2.2.2.2⟩
 | .fin,_=>aat
theorem Nd.Dh {f:Str->Str}{g:Int->Int}{A B:Str->Prop}{m m':Int}{d:Nat}(hf:∀x,A x->B (f x))(hg:∀n,0<=n->n < m->0<=g n/\g n < m'):∀{e:Nd},e.good A m d->(e.as f g).good B m' d
 | .put x s n,h=>⟨hf x h.1,E.dA f s h.2.1,E.kK hf s h.2.2.1,by rw [E.gS]; exact h.2.2.2.1,hg n h.2.2.2.2.1 h.2.2.2.2.2⟩
 | .say s n,h=>⟨E.dA f s h.1,E.kK hf s h.2.1,by rw [E.gS]; exact h.2.2.1,hg n h.2.2.2.1 h.2.2.2.2⟩
 | .test c n o,h=>⟨E.lY f c h.1,E.kK hf c h.2.1,by rw [E.gS]; exact h.2.2.1,(hg n h.2.2.2.1 h.2.2.2.2.1).1,(hg n h.2.2.2.1 h.2.2.2.2.1).2,(hg o h.2.2.2.2.2.1 h.2.2.2.2.2.2).1,(hg o h.2.2.2.2.2.1 h.2.2.2.2.2.2).2⟩
 | .fin,_=>aat
theorem yU {bs b':List (Str×Int)}{f:Str->Str}{nds nds2:List Nd}{ps dt:List Int}(no:pJ bs f nds nds2 ps dt)(hf:∀x∈bs.map (·.1),f x∈b'.map (·.1))(good:∀e∈nds,e.good (· ∈ bs.map (·.1)) nds.length 5):∀e∈nds2,e.good (· ∈ b'.map (·.1)) nds2.length 5:=fun e' he=>by
 obtain ⟨j,hj⟩:=List.mem_iff_getElem?.mp he
 rcases no.only j e' hj with ⟨e,WO,rfl⟩ | ⟨p,hp,hs⟩
 · refine Nd.Dh (A:=(· ∈ bs.map (·.1))) hf (fun n h0 h1=>?_) (good e WO)
   have hn:n.toNat < nds.length:=by omega
   obtain ⟨p,b,h2,h3,h4,h5,_⟩:=no.all n.toNat nds[n.toNat] (ZZ hn)
   have:oC dt n=(b:Int):=by
     unfold oC
     rw [aan,h3]
     rfl
   rw [this]
   omega
 · rcases hs with ⟨o,h0,h1,rfl⟩ | ⟨x,hx,rfl⟩
   · exact ⟨aat,aat,aaI _,by omega,by omega,h0,by omega⟩
   · exact ⟨hf x hx,aat,⟨rfl,hf x hx⟩,aaI _,by omega,by omega⟩
abbrev dw:Stmt:=top 17
abbrev gE:Stmt:=top 16
def E.aQ (f:Str->Str->Bool):E->Bool
 | .num _=>true | .box t x=>f t x | .yes=>true | .nt a=>a.aQ f | .two _ a b=>a.aQ f && b.aQ f
def cZ (kvs:List (List Key×V))(t x:Str):Bool:=(bE kvs [.inr t,.inr x]).isSome
abbrev ja:Str->Str->Prop:=fun t _=>t="mine"\/t="yours"
def dj (n:Nat):Sp:=fun vs H Q _=>∃(a:Addr) (v:V) (e:E) (kvs:List (List Key×V)),vs=[.ref a,v]/\H a=some (.dT kvs)/\cE H v e/\e.okIn ja/\e.dep < n/\∀H',ag H H'->Q (.bl (e.aQ (cZ kvs))) H'
theorem lp:aD ["known","told","part"] ["known","told"] (ai dw):=⟨rfl,rfl,rfl,by decide +kernel,rfl,by decide +kernel,by decide +kernel⟩
theorem fV:aY dw "all_known":=by decide +kernel
theorem hV:aY dw "NAMELESS":=by decide +kernel
theorem jh:aY dw "PARTED":=by decide +kernel
theorem yI {n:Nat}{f:Addr}{fd:aaf}(F:dm K "all_known" "all_known" dw f fd)(N:tN K mg "NAMELESS" ["number","yes"])(PT:tN K mg "PARTED" ["plus","less","same","under","not","both"])
    (G:aX P w K mg base "all_known" ["known","told"] (n + 1) (dj n)):aP P w K mg base cK (n + 2) f fd ["known","told"] (dj (n + 1)):=by
 obtain ⟨tn,mN,cN⟩:=N
 obtain ⟨tp,mP,cP⟩:=PT
 refine F.ok lp (fun vs H Q E h=>?_) (fun cdv A outer s H vs Q E hr h=>?_)
 · obtain ⟨a,v,e,kvs,rfl,_⟩:=h
   rfl
 obtain ⟨a,v,e,kvs,rfl,hk,ev,ok,hd,q⟩:=h
 refine ⟨_,aez (ad7 (ael (aek L3.Il (ad8 aei (ad4 1) ad6) (aeI (w:=.ref tn) hV mN rfl) (by rfl)) (aea (aec aex)) aem)
   (ad7 (ael (aek L3.qa (ad8 aei (ad4 1) ad6) (aeI (w:=.ref tp) jh mP rfl) (by rfl)) (aea (aec (L3.OP (bP hr _ (by decide)) (ad4 1) (ad4 0)))) aem)
   (ad7 (aeJ (L3.iT (L3.MY (ad4 1) ad6)) (aee 2 lp.nd) (aea (ael (L3.nt (aeP (aef G hr fV (ad3 (ad4 0) (ad3 (ad4 2) ad5))))) (aea (aec aex)) aem)))
   (aea (aec aex))))),?_⟩
 cases e with
 | num m=>
   obtain ⟨p,rfl,hp⟩:=ev
   refine ⟨_,rfl,p,_,_,_,rfl,rfl,aK.of hp,rfl,tn,_,rfl,.inr (cN _),rfl,rfl,_,rfl,?_⟩
   refine aF (fun _=>?_) (fun c=>absurd (show zu (.str "number") _=true by decide) c)
   exact q _ (same_refl _)
 | yes=>
   obtain ⟨p,rfl,hp⟩:=ev
   refine ⟨_,rfl,p,_,_,_,rfl,rfl,aK.of hp,rfl,tn,_,rfl,.inr (cN _),rfl,rfl,_,rfl,?_⟩
   refine aF (fun _=>?_) (fun c=>absurd (show zu (.str "yes") _=true by decide) c)
   exact q _ (same_refl _)
 | box t x=>
   obtain ⟨p,rfl,hp⟩:=ev
   have Ko:t="mine"\/t="yours":=ok
   have g:=fM.t (k:=[.inr t,.inr x]) hk hp
   refine ⟨_,rfl,p,_,_,_,rfl,rfl,aK.of hp,rfl,tn,_,rfl,.inr (cN _),rfl,rfl,_,rfl,?_⟩
   refine aF (fun c=>absurd c (by rcases Ko with rfl | rfl <;> decide)) (fun _=>?_)
   refine ⟨_,rfl,p,_,_,_,rfl,rfl,aK.of hp,rfl,tp,_,rfl,.inr (cP _),rfl,rfl,_,rfl,?_⟩
   refine aF (fun _=>?_) (fun c=>absurd (by rcases Ko with rfl | rfl <;> decide) c)
   exact ⟨_,rfl,_,rfl,a,_,rfl,g,q _ (same_refl _)⟩
 | nt e1=>
   obtain ⟨x,⟨p,rfl,hp⟩,ax⟩:=ev
   have ow:e1.dep + 1 < n + 1:=hd
   have iu:e1.okIn ja:=ok
   refine ⟨_,rfl,p,_,_,_,rfl,rfl,aK.of hp,rfl,tn,_,rfl,.inr (cN _),rfl,rfl,_,rfl,?_⟩
   refine aF (fun c=>absurd c (by decide)) (fun _=>?_)
   refine ⟨_,rfl,p,_,_,_,rfl,rfl,aK.of hp,rfl,tp,_,rfl,.inr (cP _),rfl,rfl,_,rfl,?_⟩
   refine aF (fun c=>absurd c (by decide)) (fun _=>?_)
   refine ⟨_,rfl,_,rfl,p,_,rfl,aK.of hp,(fun z=>absurd z.1 (show ¬ HT.cJ 2 0 (some 1)=0 by decide)),fun l hl=>⟨l,rfl,⟨_,aK.of ae⟩,?_⟩⟩
   refine gO (xs:=[x]) (fun i σ H2=>(∃pv,σ=[some (.ref a),some (.ref p),pv])/\ag (upd H l (.tup [x])) H2/\(1<=i->e1.aQ (cZ kvs)=true)) ⟨⟨_,rfl⟩,same_refl _,fun z=>absurd z (by decide)⟩ (fun i σ H2 _ z=>aK.of (z.2.1 _ _ ae)) (fun i x0 σ H2 hx z=>?_) (fun σ H2 z=>?_)
   · obtain ⟨⟨pv,rfl⟩,z,_⟩:=z
     have s2:=aa (af hl _) z
     have FU:x0=x:=by
       match i,hx with
       | 0,hx=>exact (aap hx).symm
     subst FU
     refine ⟨_,rfl,_,rfl,a,x0,e1,kvs,rfl,s2 _ _ hk,ax.same s2,iu,by omega,fun H3 s3=>⟨_,rfl,?_⟩⟩
     refine aF (fun c=>?_) (fun c=>?_)
     · have c':e1.aQ (cZ kvs)=false:=by cases zz:e1.aQ (cZ kvs) <;> simp_all
       have q':=q H3 (aa s2 s3)
       rw [show (TW.E.nt e1).aQ (cZ kvs)=false from c'] at q'
       exact q'
     · have c':e1.aQ (cZ kvs)=true:=by cases zz:e1.aQ (cZ kvs) <;> simp_all
       exact ⟨⟨_,rfl⟩,aa z s3,fun _=>c'⟩
   · have q':=q H2 (aa (af hl _) z.2.1)
     rw [show (TW.E.nt e1).aQ (cZ kvs)=true from z.2.2 (by show 1<=1; decide)] at q'
     exact q'
 | two k e1 e2=>
   obtain ⟨x,y,⟨p,rfl,hp⟩,ax,ay⟩:=ev
   have ow:max e1.dep e2.dep + 1 < n + 1:=hd
   have iu:e1.okIn ja:=ok.1
   have CW:e2.okIn ja:=ok.2
   refine ⟨_,rfl,p,_,_,_,rfl,rfl,aK.of hp,rfl,tn,_,rfl,.inr (cN _),rfl,rfl,_,rfl,?_⟩
   refine aF (fun c=>absurd c (by cases k <;> decide)) (fun _=>?_)
   refine ⟨_,rfl,p,_,_,_,rfl,rfl,aK.of hp,rfl,tp,_,rfl,.inr (cP _),rfl,rfl,_,rfl,?_⟩
   refine aF (fun c=>absurd c (by cases k <;> decide)) (fun _=>?_)
   refine ⟨_,rfl,_,rfl,p,_,rfl,aK.of hp,(fun z=>absurd z.1 (show ¬ HT.cJ 3 0 (some 1)=0 by decide)),fun l hl=>⟨l,rfl,⟨_,aK.of ae⟩,?_⟩⟩
   refine gO (xs:=[x,y]) (fun i σ H2=>(∃pv,σ=[some (.ref a),some (.ref p),pv])/\ag (upd H l (.tup [x,y])) H2/\(1<=i->e1.aQ (cZ kvs)=true)/\(2<=i->e2.aQ (cZ kvs)=true)) ⟨⟨_,rfl⟩,same_refl _,(fun z=>absurd z (by decide)),fun z=>absurd z (by decide)⟩ (fun i σ H2 _ z=>aK.of (z.2.1 _ _ ae)) (fun i x0 σ H2 hx z=>?_) (fun σ H2 z=>?_)
   · obtain ⟨⟨pv,rfl⟩,z,z1,z2⟩:=z
     have s2:=aa (af hl _) z
     have FU:∃e0,cE H x0 e0/\e0.okIn ja/\e0.dep < n/\(e0.aQ (cZ kvs)=false->(TW.E.two k e1 e2).aQ (cZ kvs)=false)/\(e0.aQ (cZ kvs)=true->(1<=i + 1->e1.aQ (cZ kvs)=true)/\(2<=i + 1->e2.aQ (cZ kvs)=true)):=by
       match i,hx,z1 with
       | 0,hx,_=>exact ⟨e1,(aap hx) ▸ ax,iu,by omega,fun c=>by show (e1.aQ _ && e2.aQ _)=false; rw [c]; rfl,fun c=>⟨fun _=>c,fun z=>absurd z (by decide)⟩⟩
       | 1,hx,z1=>exact ⟨e2,(aap hx) ▸ ay,CW,by omega,fun c=>by show (e1.aQ _ && e2.aQ _)=false; rw [c,adu],fun c=>⟨fun _=>z1 (by decide),fun _=>c⟩⟩
     obtain ⟨e0,a0,o0,d0,f0,t0⟩:=FU
     refine ⟨_,rfl,_,rfl,a,x0,e0,kvs,rfl,s2 _ _ hk,a0.same s2,o0,d0,fun H3 s3=>⟨_,rfl,?_⟩⟩
     refine aF (fun c=>?_) (fun c=>?_)
     · have c':e0.aQ (cZ kvs)=false:=by cases zz:e0.aQ (cZ kvs) <;> simp_all
       have q':=q H3 (aa s2 s3)
       rw [f0 c'] at q'
       exact q'
     · have c':e0.aQ (cZ kvs)=true:=by cases zz:e0.aQ (cZ kvs) <;> simp_all
       exact ⟨⟨_,rfl⟩,aa z s3,t0 c'⟩
   · have q':=q H2 (aa (af hl _) z.2.1)
     rw [show (TW.E.two k e1 e2).aQ (cZ kvs)=true by show (e1.aQ _ && e2.aQ _)=true; rw [z.2.2.1 (by show 1<=2; decide),z.2.2.2 (by show 2<=2; decide)]; rfl] at q'
     exact q'
theorem rY {f:Addr}{fd:aaf}:aP P w K mg base cK 1 f fd ["known","told"] (dj 0):=by
 have no:∀vs H Q E,¬ dj 0 vs H Q E:=fun vs H Q E h=>by
   obtain ⟨_,_,_,_,_,_,_,_,h1,_⟩:=h
   omega
 exact ⟨fun vs H Q E h=>absurd h (no vs H Q E),fun A outer s H args us vs Q E _ _ _ _ h=>absurd h (no vs H Q E)⟩
theorem uh (s:Src K mg "all_known" dw)(N:tN K mg "NAMELESS" ["number","yes"])(PT:tN K mg "PARTED" ["plus","less","same","under","not","both"]):∀n:Nat,aX P w K mg base "all_known" ["known","told"] (n + 1) (dj n):=by
 obtain ⟨f,fd,F,m⟩:=s
 have b:=F.binds (ps:=["known","told"]) fun _ _ _ _ _ _ us hl=>match us,hl with | [_,_],_=>rfl
 intro n
 have all:aP P w K mg base cK (n + 1) f fd ["known","told"] (dj n):=by
   induction n with
   | zero=>exact rY
   | succ n ih=>exact yI F N PT ⟨f,fd,ih,F.kp,b,m⟩
 exact ⟨f,fd,all,F.kp,b,m⟩
def gX (C:Addr)(n:Nat):Sp:=fun vs H Q X=>∃(a:Addr) (v:V) (e:E) (kvs:List (List Key×V)),vs=[.ref a,v]/\H a=some (.dT kvs)/\cE H v e/\e.okIn ja/\e.dep < n /\
 (e.aQ (cZ kvs)=true->∀H',ag H H'->Q .bN H')/\(e.aQ (cZ kvs)=false->∀H',ag H H'->X (.ref C) none H')
theorem y8:aD ["known","told"] ["known","told"] (ai gE):=⟨rfl,rfl,rfl,by decide +kernel,rfl,by decide +kernel,by decide +kernel⟩
theorem iN:aY gE "all_known":=by decide +kernel
theorem iM:aY gE "NoProgram":=by decide +kernel
theorem uY {n:Nat}{C T:Addr}{f:Addr}{fd:aaf}(F:dm K "refuse_unknown" "refuse_unknown" gE f fd)(cP:Xc K mg "NoProgram" C (.ref T :: vE))(G:aX P w K mg base "all_known" ["known","told"] (n + 1) (dj n)):aP P w K mg base (lu P w base) (n + 2) f fd ["known","told"] (gX C n):=by
 refine F.CY y8 (fun vs H Q E h=>?_) (fun cdv A outer s H vs Q E hr h=>?_)
 · obtain ⟨a,v,e,kvs,rfl,_⟩:=h
   rfl
 · obtain ⟨a,v,e,kvs,rfl,hk,ev,ok,hd,q1,q2⟩:=h
   refine ⟨_,aez (aea (ael (L3.nt (aeP (aef G hr iN (ad3 (ad4 0) (ad3 (ad4 1) ad5))))) (aea (L3.qe lX cP (by rfl) iM (ad3 aeb ad5))) aem)),?_⟩
   refine ⟨_,rfl,_,rfl,a,v,e,kvs,rfl,hk,ev,ok,hd,fun H3 s3=>⟨_,rfl,?_⟩⟩
   refine aF (fun c=>?_) (fun c=>?_)
   · have c':e.aQ (cZ kvs)=false:=by cases zz:e.aQ (cZ kvs) <;> simp_all
     exact ⟨_,rfl,q2 c' _ s3⟩
   · have c':e.aQ (cZ kvs)=true:=by cases zz:e.aQ (cZ kvs) <;> simp_all
     exact q1 c' _ s3
theorem rF {n:Nat}{C T:Addr}(s:Src K mg "refuse_unknown" gE)(cP:Xc K mg "NoProgram" C (.ref T :: vE))(G:aX P w K mg base "all_known" ["known","told"] (n + 1) (dj n)):bQ P w K mg base "refuse_unknown" ["known","told"] (n + 2) (gX C n):=
 let ⟨f,fd,F,m⟩:=s
 ⟨f,fd,uY F cP G,F.kp,F.binds fun _ _ _ _ _ _ us hl=>match us,hl with | [_,_],_=>rfl,m⟩
abbrev kM:Stmt:=top 18
abbrev jO:Stmt:=top 20
theorem pP {i:Int}(h:i.natAbs < 2 ^ 1900):Ka (.int i):=.inl ⟨i,rfl,by
 by_cases z:i.natAbs=0
 · rw [z]; decide
 · exact (Nat.log2_lt z).mpr (aah h (abA (by decide) (by decide)))⟩
theorem we {n:Nat}(h:n<=1000):Ka (.int n):=pP (by
 have:((n:Int)).natAbs=n:=Int.natAbs_natCast n
 rw [this]
 exact abJ h (aah (show 1000 < 2 ^ 10 by decide) (abA (by decide) (by decide))))
def zA (ws:List Int):Prop:=ws.length<=900/\∀z∈ws,z.natAbs < 2 ^ 1900
def gY (C:Addr):Sp:=fun vs H Q X=>∃(sa wa:Addr) (szs ws:List Int),vs=[.ref sa,.ref wa]/\H sa=some (.lst (szs.map V.int))/\H wa=some (.lst (ws.map V.int))/\zA szs/\zA ws /\
 (Paired Within szs ws->∀H',ag H H'->Q .bN H')/\(¬ Paired Within szs ws->∀H',ag H H'->X (.ref C) none H')
theorem qi:aD ["sizes","worths","size","worth"] ["sizes","worths"] (ai kM):=⟨rfl,rfl,rfl,by decide +kernel,rfl,by decide +kernel,by decide +kernel⟩
theorem fh:aY kM "len":=by decide +kernel
theorem ud:aY kM "zip":=by decide +kernel
theorem fF:aY kM "NoWorths":=by decide +kernel
theorem Bt {C T:Addr}{f:Addr}{fd:aaf}(F:dm K "refuse_worths" "refuse_worths" kM f fd)(cW:Xc K mg "NoWorths" C (.ref T :: vE))(m_len:mg "len"=none)(m_zip:mg "zip"=none):aP P w K mg base (lu P w base) 1 f fd ["sizes","worths"] (gY C):=by
 refine F.CY qi (fun vs H Q E h=>?_) (fun cdv A outer s H vs Q E hr h=>?_)
 · obtain ⟨sa,wa,szs,ws,rfl,_⟩:=h
   rfl
 · obtain ⟨sa,wa,szs,ws,rfl,hs,hw,bs,bw,q1,q2⟩:=h
   refine ⟨_,aez (ad7 (ael (aek L3.yG (aep aer fh m_len aad (ad3 (ad4 1) ad5)) (aep aer fh m_len aad (ad3 (ad4 0) ad5))) (aea (L3.qe lX cW (by rfl) fF (ad3 (L3.K5 (L3.fv (aep aer fh m_len aad (ad3 (ad4 1) ad5)) (L3.fs (L3.fv (aep aer fh m_len aad (ad3 (ad4 0) ad5)) (L3.fs L3.fn))))) ad5 o8))) aem)
     (aea (aeJ (L3.iZ ud m_zip (ad3 (ad4 0) (ad3 (ad4 1) ad5))) (aes 2 (aej (aee 2 qi.nd) (aej (aee 3 qi.nd) aet))) (aea (ael (aeL (aeQ (aek aeC (ad4 3) ad6) (aeR (aek L3.Ik (ad4 3) (ad4 2))))) (aea (L3.qe lX cW (by rfl) fF (ad3 (L3.K5 (L3.fs (L3.fv (ad4 3) (L3.fs (L3.fv (ad4 2) L3.fn))))) ad5 o8))) aem)) (hp:=PySem.PassesOwn.leaving)))),?_⟩
   refine ⟨_,rfl,wa,_,rfl,.inl (ao.of hw),_,rfl,sa,_,rfl,.inl (ao.of hs),rfl,_,rfl,?_⟩
   refine aF (fun c=>?_) (fun c=>?_)
   · have hne:szs.length≠ws.length:=fun z=>by
       rw [ZX,ZX,z] at c
       simp at c
     refine ⟨_,rfl,wa,_,rfl,.inl (ao.of hw),we (by rw [ZX]; have:=bw.1; omega),_,rfl,sa,_,rfl,.inl (ao.of hs),we (by rw [ZX]; have:=bs.1; omega),fun x=>⟨_,rfl,?_⟩⟩
     exact q2 (fun z=>hne (Paired.length z)) _ (same_refl _)
   have hl:szs.length=ws.length:=by
     rw [ZX,ZX] at c
     by_cases z:ws.length=szs.length
     · exact z.symm
     · exfalso; apply c; simp; omega
   have FJ:(szs.map V.int).length=(ws.map V.int).length:=by rw [ZX,ZX]; exact hl
   refine ⟨_,rfl,_,rfl,sa,wa,rfl,⟨_,ao.of hs⟩,⟨_,ao.of hw⟩,?_⟩
   refine wg (xs:=szs.map V.int) (ys:=ws.map V.int) FJ (fun i σ H2=>(∃v1 v2,σ=[some (.ref sa),some (.ref wa),v1,v2])/\ag H H2/\Paired Within (szs.take i) (ws.take i)) ⟨⟨_,_,rfl⟩,same_refl _,.nil⟩ (fun i σ H2 _ z=>⟨ao.of (z.2.1 _ _ hs),ao.of (z.2.1 _ _ hw)⟩) (fun i x y p σ H2 hx hy z hp=>?_) (fun σ H2 z=>?_)
   · obtain ⟨⟨v1,v2,rfl⟩,z,pw⟩:=z
     obtain ⟨s0,e1,rfl⟩:=df hx
     obtain ⟨w0,e2,rfl⟩:=df hy
     have So:Ka (.int w0):=pP (bw.2 w0 (aab e2))
     have Sm:Ka (.int s0):=pP (bs.2 s0 (aab e1))
     have sp:=aa z (af hp (.tup [.int s0,.int w0]))
     refine ⟨p,_,rfl,aK.of ae,rfl,_,_,rfl,_,_,rfl,rfl,?_⟩
     refine ⟨_,rfl,_,_,rfl,rfl,_,rfl,?_⟩
     refine aF (fun c=>?_) (fun c=>?_)
     · have c':w0 < 0:=of_decide_eq_true c
       refine fR ?_
       refine ⟨_,rfl,So,_,rfl,Sm,fun x=>⟨_,rfl,?_⟩⟩
       exact q2 (fun z=>by have:=(Paired.Du z e1 e2).1; omega) _ sp
     · have c':¬ w0 < 0:=fun zz=>c (decide_eq_true zz)
       refine ⟨_,rfl,_,rfl,_,_,rfl,rfl,_,rfl,?_⟩
       refine aF (fun d=>?_) (fun d=>?_)
       · have d':w0 ≥ s0:=of_decide_eq_true d
         refine ⟨_,rfl,So,_,rfl,Sm,fun x=>⟨_,rfl,?_⟩⟩
         exact q2 (fun z=>by have:=(Paired.Du z e1 e2).2; omega) _ sp
       · have d':¬ w0 ≥ s0:=fun zz=>d (decide_eq_true zz)
         refine ⟨⟨_,_,rfl⟩,sp,?_⟩
         rw [Z9,Z9,e1,e2]
         exact Paired.snoc pw ⟨by omega,by omega⟩
   · have pw:=z.2.2
     rw [ZX,aao,hl,aao] at pw
     exact q1 pw _ z.2.1
theorem yc {C T:Addr}(s:Src K mg "refuse_worths" kM)(cW:Xc K mg "NoWorths" C (.ref T :: vE))(m_len:mg "len"=none)(m_zip:mg "zip"=none):bQ P w K mg base "refuse_worths" ["sizes","worths"] 1 (gY C):=
 let ⟨f,fd,F,m⟩:=s
 ⟨f,fd,Bt F cW m_len m_zip,F.kp,F.binds fun _ _ _ _ _ _ us hl=>match us,hl with | [_,_],_=>rfl,m⟩
structure qF (H:Hp)(v:V)(wa:Addr)(bs:List (Str×Int))(ws:List Int):Prop where
 bx:qG H v bs
 nd:(bs.map (·.1)).Nodup
 sb:zA (bs.map (·.2))
 wl:H wa=some (.lst (ws.map V.int))
 wb:zA ws
theorem qF.same {H H':Hp}{v:V}{wa:Addr}{bs:List (Str×Int)}{ws:List Int}(h:qF H v wa bs ws)(s:ag H H'):qF H' v wa bs ws:=⟨h.bx.same s,h.nd,h.sb,s _ _ h.wl,h.wb⟩
theorem qF.len {H:Hp}{v:V}{wa:Addr}{bs:List (Str×Int)}{ws:List Int}(h:qF H v wa bs ws):bs.length<=900:=by have:=h.sb.1; rw [ZX] at this; exact this
abbrev GoodW (bs:List (Str×Int))(ws:List Int):Prop:=Paired Within (bs.map (·.2)) ws
def jX (C:Addr):Sp:=fun vs H Q X=>∃(v:V) (wa:Addr) (bs:List (Str×Int)) (ws:List Int),vs=[v,.ref wa]/\qF H v wa bs ws/\(GoodW bs ws->∀H',ag H H'->Q .bN H')/\(¬ GoodW bs ws->∀H',ag H H'->X (.ref C) none H')
theorem Cd:aD ["program","worths"] ["program","worths"] (ai jO):=⟨rfl,rfl,rfl,by decide +kernel,rfl,by decide +kernel,by decide +kernel⟩
theorem fO:aY jO "refuse_worths":=by decide +kernel
theorem jr:aY jO "box_sizes":=by decide +kernel
theorem yM {C:Addr}{f:Addr}{fd:aaf}(F:dm K "refuse_box_worths" "refuse_box_worths" jO f fd)(R:bQ P w K mg base "refuse_worths" ["sizes","worths"] 1 (gY C))(B:aX P w K mg base "box_sizes" ["program"] 1 dS):aP P w K mg base (lu P w base) 2 f fd ["program","worths"] (jX C):=by
 refine F.CY Cd (fun vs H Q E h=>?_) (fun cdv A outer s H vs Q E hr h=>?_)
 · obtain ⟨v,wa,bs,ws,rfl,_⟩:=h
   rfl
 · obtain ⟨v,wa,bs,ws,rfl,ak,q1,q2⟩:=h
   refine ⟨_,aez (aea (aeu (aeF fJ R hr fO (ad3 (aef B hr jr (ad3 (ad4 0) ad5)) (ad3 (ad4 1) ad5))))),?_⟩
   refine ⟨_,rfl,v,bs,rfl,ak.bx,ak.len,fun l hl=>?_⟩
   refine ⟨_,rfl,l,wa,_,ws,rfl,ae,by rw [aj (ah ak.wl hl)]; exact ak.wl,ak.sb,ak.wb,fun g H' s'=>q1 g _ (aa (af hl _) s'),fun g H' s'=>q2 g _ (aa (af hl _) s')⟩
theorem uo {C:Addr}(s:Src K mg "refuse_box_worths" jO)(R:bQ P w K mg base "refuse_worths" ["sizes","worths"] 1 (gY C))(B:aX P w K mg base "box_sizes" ["program"] 1 dS):bQ P w K mg base "refuse_box_worths" ["program","worths"] 2 (jX C):=
 let ⟨f,fd,F,m⟩:=s
 ⟨f,fd,yM F R B,F.kp,F.binds fun _ _ _ _ _ _ us hl=>match us,hl with | [_,_],_=>rfl,m⟩
abbrev gC:Stmt:=top 31
theorem y7:aD ["one","other"] ["one","other"] (ai gC):=⟨rfl,rfl,rfl,by decide +kernel,rfl,by decide +kernel,by decide +kernel⟩
theorem lI:aY gC "NoPair":=by decide +kernel
theorem dC:aY gC "input_sizes":=by decide +kernel
structure KD (H:Hp)(v1 v2:V)(b1 b2:List (Str×Int))(i1 i2:List Str)(n1 n2:List Nd):Prop where
 p1:bD H v1 b1 i1 n1
 p2:bD H v2 b2 i2 n2
 f1:Fits b1 i1
 f2:Fits b2 i2
theorem KD.same {H H':Hp}{v1 v2:V}{b1 b2:List (Str×Int)}{i1 i2:List Str}{n1 n2:List Nd}(h:KD H v1 v2 b1 b2 i1 i2 n1 n2)(s:ag H H'):KD H' v1 v2 b1 b2 i1 i2 n1 n2:=⟨h.p1.same s,h.p2.same s,h.f1,h.f2⟩
abbrev cL (b1 b2:List (Str×Int))(i1 i2:List Str):Prop:=i1=i2/\i1.map (cj b1)=i2.map (cj b2)
def dW (C:Addr):Sp:=fun vs H Q X=>∃(v1 v2:V) (b1 b2:List (Str×Int)) (i1 i2:List Str) (n1 n2:List Nd),vs=[v1,v2]/\KD H v1 v2 b1 b2 i1 i2 n1 n2/\(cL b1 b2 i1 i2->∀H',ag H H'->Q .bN H')/\(¬ cL b1 b2 i1 i2->∀H',ag H H'->X (.ref C) none H')
theorem lW {p:Prop}[Decidable p](c:(!decide p)=true):¬ p:=fun h=>by rw [decide_eq_true h] at c; cases c
theorem rW {p:Prop}[Decidable p](c:¬ (!decide p)=true):p:=by
 by_cases h:p
 · exact h
 · rw [decide_eq_false h] at c
   exact absurd rfl c
theorem uW {C T:Addr}{f:Addr}{fd:aaf}(F:dm K "refuse_no_pair" "refuse_no_pair" gC f fd)(cN:Xc K mg "NoPair" C (.ref T :: vE))(IS:aX P w K mg base "input_sizes" ["program"] 1 fB):aP P w K mg base (lu P w base) 2 f fd ["one","other"] (dW C):=by
 refine F.CY y7 (fun vs H Q E h=>?_) (fun cdv A outer s H vs Q E hr h=>?_)
 · obtain ⟨v1,v2,b1,b2,i1,i2,n1,n2,rfl,_⟩:=h
   rfl
 · obtain ⟨v1,v2,b1,b2,i1,i2,n1,n2,rfl,T,q,qx⟩:=h
   refine kG ⟨_,(aea (ael (aeL (aeQ (aek (L3.wG (m:=0) (bP hr _ (by decide))) (ad8 aei (ad4 0) ad6) (ad8 aei (ad4 1) ad6)) (aeR (aek (L3.wG (m:=0) (bP hr _ (by decide))) (aef IS hr dC (ad3 (ad4 0) ad5)) (aef IS hr dC (ad3 (ad4 1) ad5)))))) (aea (L3.qe lX cN (by rfl) lI (ad3 aeb ad5))) aem)),?_⟩
   obtain ⟨p,B,I,N,vb,vn,rfl,hp,hB,hI,hN,pb,pn⟩:=T.p1
   obtain ⟨p',B',I',N',vb',ZQ,rfl,oz,Zk,Wt,Zl,ZI,ZJ⟩:=T.p2
   refine ⟨_,rfl,p,_,_,_,rfl,rfl,aK.of hp,rfl,_,rfl,p',_,_,_,rfl,rfl,aK.of oz,rfl,_,RB.strs hI Wt,_,rfl,?_⟩
   refine aF (fun c=>fR ?_) (fun c=>?_)
   · exact ⟨_,rfl,qx (fun z=>lW c z.1) _ (same_refl _)⟩
   have ei:=rW c
   refine ⟨_,rfl,_,b1,i1,n1,rfl,T.p1,T.f1,fun l1 H1 hl1 s1 g1=>?_⟩
   refine ⟨_,rfl,_,b2,i2,n2,rfl,T.p2.same s1,T.f2,fun l2 H2 hl2 s2 g2=>?_⟩
   refine ⟨_,RB.ints (s2 _ _ g1) g2,_,rfl,?_⟩
   refine aF (fun c=>?_) (fun c=>?_)
   · exact ⟨_,rfl,qx (fun z=>lW c z.2) _ (aa s1 s2)⟩
   · exact q ⟨ei,rW c⟩ _ (aa s1 s2)
theorem rD {C T:Addr}(s:Src K mg "refuse_no_pair" gC)(cN:Xc K mg "NoPair" C (.ref T :: vE))(IS:aX P w K mg base "input_sizes" ["program"] 1 fB):bQ P w K mg base "refuse_no_pair" ["one","other"] 2 (dW C):=
 let ⟨f,fd,F,m⟩:=s
 ⟨f,fd,uW F cN IS,F.kp,F.binds fun _ _ _ _ _ _ us hl=>match us,hl with | [_,_],_=>rfl,m⟩
abbrev E5:Stmt:=top 32
abbrev vp:Stmt:=top 33
theorem kh {κ:Type}[DecidableEq κ]:∀(xs ys:List (κ×V)) (k:κ),bE (xs++ys) k=match bE xs k with | some v=>some v | none=>bE ys k
 | [],_,_=>rfl
 | p :: r,ys,k=>by
   by_cases e:p.1=k
   · rw [ac4,bM e,bM e]
   · rw [ac4,bB e,bB e,kh r ys k]
theorem lj (side:Str):∀(bs:List (Str×Int)) (ws:List Int) (acc:List (List Key×V)),(bs.map (·.1)).Nodup->(∀x∈bs.map (·.1),bE acc [.inr side,.inr x]=none)->putAllT acc (bR side bs ws)=acc++bR side bs ws
 | [],_,acc,_,_=>by show acc=acc++[]; rw [aax]
 | _ :: _,[],acc,_,_=>by show acc=acc++[]; rw [aax]
 | b :: bs,w :: ws,acc,nd,h=>by
   rw [aaw,acu] at nd
   show putAllT (putK acc [.inr side,.inr b.1] (.int w)) (bR side bs ws)=acc++([.inr side,.inr b.1],.int w) :: bR side bs ws
   rw [se (h b.1 (List.mem_cons.mpr (.inl rfl))),lj side bs ws _ nd.2 (fun x hx=>?_),ace]
   · rfl
   · rw [kh,h x (List.mem_cons.mpr (.inr hx))]
     show bE [(([.inr side,.inr b.1]:List Key),V.int w)] [.inr side,.inr x]=none
     rw [bB (p:=(([.inr side,.inr b.1]:List Key),V.int w)) (fun z=>by injection z with _ z; injection z with z _; injection z with z; exact nd.1 (z ▸ hx))]
     rfl
abbrev Dj (b1 b2:List (Str×Int)):Str->Str->Prop:=fun t x=>(t="mine"/\x∈b1.map (·.1))\/(t="yours"/\x∈b2.map (·.1))
def OL (b1:List (Str×Int))(w1:List Int)(b2:List (Str×Int))(w2:List Int):Str->Str->Int:=fun t x=>if t="mine" then oF b1 w1 x else oF b2 w2 x
theorem qQ (b1 b2:List (Str×Int)):De (Dj b1 b2):=fun t _ h=>by
 rcases h with h | h
 · exact .inr (.inl h.1)
 · exact .inr (.inr h.1)
theorem zK {b1 b2:List (Str×Int)}{w1 w2:List Int}(l1:b1.length=w1.length)(l2:b2.length=w2.length):∀t x,Dj b1 b2 t x->bE (bR "mine" b1 w1++bR "yours" b2 w2) [.inr t,.inr x]=some (.int (OL b1 w1 b2 w2 t x)):=fun t x h=>by
 rw [kh]
 unfold OL
 rcases h with ⟨rfl,h⟩ | ⟨rfl,h⟩
 · rw [dU "mine" b1 w1 x l1 h,if_pos rfl]
 · rw [dv "mine" b1 w1 "yours" x (fun z=>absurd z (by decide)),if_neg (by decide)]
   exact dU "yours" b2 w2 x l2 h
structure Df (H:Hp)(v1 v2:V)(m y:Addr)(b1 b2:List (Str×Int))(ins:List Str)(n1 n2:List Nd)(w1 w2:List Int):Prop where
 p1:bD H v1 b1 ins n1
 p2:bD H v2 b2 ins n2
 f1:Fits b1 ins
 f2:Fits b2 ins
 sz:ins.map (cj b1)=ins.map (cj b2)
 hm:H m=some (.lst (w1.map V.int))
 hy:H y=some (.lst (w2.map V.int))
 pw1:Paired Within (b1.map (·.2)) w1
 pw2:Paired Within (b2.map (·.2)) w2
 len:b1.length=b2.length
 few:b1.length<=100
theorem bD.bx {H:Hp}{v:V}{bs:List (Str×Int)}{ins:List Str}{nds:List Nd}(h:bD H v bs ins nds):qG H v bs:=by
 obtain ⟨p,B,I,N,vb,vn,e,h1,h2,h3,h4,h5,h6⟩:=h
 exact ⟨p,B,_,_,vb,e,h1,h2,h5⟩
section
variable {H H':Hp}{v1 v2:V}{m y:Addr}{b1 b2:List (Str×Int)}{ins:List Str}{n1 n2:List Nd}{w1 w2:List Int}
theorem Df.same (h:Df H v1 v2 m y b1 b2 ins n1 n2 w1 w2)(s:ag H H'):Df H' v1 v2 m y b1 b2 ins n1 n2 w1 w2:=⟨h.p1.same s,h.p2.same s,h.f1,h.f2,h.sz,s _ _ h.hm,s _ _ h.hy,h.pw1,h.pw2,h.len,h.few⟩
theorem Df.l1 (h:Df H v1 v2 m y b1 b2 ins n1 n2 w1 w2):b1.length=w1.length:=by have:=Paired.length h.pw1; rwa [ZX] at this
theorem Df.l2 (h:Df H v1 v2 m y b1 b2 ins n1 n2 w1 w2):b2.length=w2.length:=by have:=Paired.length h.pw2; rwa [ZX] at this
end
theorem rC (s:Dd K mg "known_worths" gT "box")(m_zip:mg "zip"=none):aX P w K mg base "known_worths" ["program","worths","side"] 1 dk:=by
 obtain ⟨f,fd,T,tk,oc,od,n,sl,F,m,lT⟩:=s
 refine ⟨f,fd,pd F m_zip,F.kp,?_,m⟩
 obtain ⟨oc,od,kV,doc,pm,an,cdv,ct,osl,rfl,lk,hcd⟩:=F.ex
 intro s us kin hl
 have h2:us.length=3:=by simpa using hl
 match us,h2 with
 | [u1,u2,u3],_=>first | exact BindsTo.of_eq rfl | exact adJ rfl (kin _ _ lT) rfl rfl rfl
abbrev vT (b1:List (Str×Int))(w1:List Int)(b2:List (Str×Int))(w2:List Int):List (List Key×V):=bR "mine" b1 w1++bR "yours" b2 w2
def xh:Sp:=fun vs H Q _=>∃(v1 v2:V) (m y:Addr) (b1 b2:List (Str×Int)) (ins:List Str) (n1 n2:List Nd) (w1 w2:List Int),vs=[v1,v2,.ref m,.ref y]/\Df H v1 v2 m y b1 b2 ins n1 n2 w1 w2/\∀D H',H D=none->ag H H'->H' D=some (.dT (vT b1 w1 b2 w2))->Q (.ref D) H'
theorem Gm:aD ["one","other","mine","yours","known"] ["one","other","mine","yours"] (ai E5):=⟨rfl,rfl,rfl,by decide +kernel,rfl,by decide +kernel,by decide +kernel⟩
theorem eB:aY E5 "known_worths":=by decide +kernel
theorem Iv {f:Addr}{fd:aaf}(F:dm K "known_between" "known_between" E5 f fd)(KW:aX P w K mg base "known_worths" ["program","worths","side"] 1 dk):aP P w K mg base cK 2 f fd ["one","other","mine","yours"] xh:=by
 refine F.ok Gm (fun vs H Q E h=>?_) (fun cdv A outer s H vs Q E hr h=>?_)
 · obtain ⟨v1,v2,m,y,b1,b2,ins,n1,n2,w1,w2,rfl,_⟩:=h
   rfl
 obtain ⟨v1,v2,m,y,b1,b2,ins,n1,n2,w1,w2,rfl,T,q⟩:=h
 refine kG ⟨_,(ad7 (aeh 4 Gm.nd (aef KW hr eB (ad3 (ad4 0) (ad3 (ad4 2) (ad3 aeb ad5)))))
   (ad7 (aeu (L3.update (bP hr _ (by decide)) (ad4 4) (aef KW hr eB (ad3 (ad4 1) (ad3 (ad4 3) (ad3 aeb ad5))))))
   (aea (aec (ad4 4))))),?_⟩
 have few:=T.few
 have len:=T.len
 refine ⟨_,rfl,_,rfl,v1,m,"mine",b1,w1,rfl,T.p1.bx,T.f1.nd,by omega,T.hm,T.l1,fun D H1 hD s1 hk=>?_⟩
 have T1:=T.same s1
 refine ⟨_,rfl,D,rfl,.inr ⟨_,.inl hk⟩,_,rfl,_,rfl,v2,y,"yours",b2,w2,rfl,T1.p2.bx,T.f2.nd,by omega,T1.hy,T.l2,fun D2 H2 ug s2 Kd=>?_⟩
 have k1:=gQ "mine" b1 w1
 have k2:=gQ "yours" b2 w2
 refine ⟨D2,_,_,rfl,s2 _ _ hk,Kd,ah hk ug,?_,small (by omega),?_⟩
 · cases b1 with
   | nil=>refine .inr ?_; cases b2 with
     | nil=>rfl
     | cons b r=>simp at len
   | cons b r=>
     refine .inl ?_
     have l1:=T.l1
     cases w1 with
     | nil=>simp at l1
     | cons x xs=>intro z; cases z
 · rw [lj "yours" b2 w2 _ T.f2.nd (fun x _=>dv "mine" b1 w1 "yours" x (fun z=>absurd z (by decide)))]
   exact ⟨_,rfl,q D _ hD (aG (aa s1 s2) hD) ae⟩
theorem Dz (s:Src K mg "known_between" E5)(KW:aX P w K mg base "known_worths" ["program","worths","side"] 1 dk):aX P w K mg base "known_between" ["one","other","mine","yours"] 2 xh:=
 let ⟨f,fd,F,m⟩:=s
 ⟨f,fd,Iv F KW,F.kp,F.binds fun _ _ _ _ _ _ us hl=>match us,hl with | [_,_,_,_],_=>rfl,m⟩
def zo (b1 b2:List (Str×Int))(t x:Str):Bool:=decide (Dj b1 b2 t x)
theorem DR {b1 b2:List (Str×Int)}{w1 w2:List Int}(l1:b1.length=w1.length)(l2:b2.length=w2.length)(t x:Str):cZ (vT b1 w1 b2 w2) t x=zo b1 b2 t x:=by
 unfold cZ zo
 by_cases h:Dj b1 b2 t x
 · rw [zK l1 l2 t x h,decide_eq_true h]
   rfl
 · rw [decide_eq_false h]
   unfold vT
   rw [kh,dv "mine" b1 w1 t x (fun e z=>h (.inl ⟨e,z⟩))]
   show (bE (bR "yours" b2 w2) [.inr t,.inr x]).isSome=false
   rw [dv "yours" b2 w2 t x (fun e z=>h (.inr ⟨e,z⟩))]
   rfl
theorem jA {f g:Str->Str->Bool}(h:∀t x,f t x=g t x):∀{e:E},e.aQ f=e.aQ g
 | .num _=>rfl
 | .box t x=>h t x
 | .yes=>rfl
 | .nt a=>jA h (e:=a)
 | .two _ a b=>by
   show (a.aQ f && b.aQ f)=(a.aQ g && b.aQ g)
   rw [jA h (e:=a),jA h (e:=b)]
theorem eh {b1 b2:List (Str×Int)}:∀{e:E},e.okIn ja->e.aQ (zo b1 b2)=true->e.okIn (Dj b1 b2)
 | .num _,ok,_=>ok
 | .box t x,_,h=>(show Dj b1 b2 t x from of_decide_eq_true h)
 | .yes,_,_=>aat
 | .nt a,ok,h=>eh (e:=a) ok h
 | .two _ a b,ok,h=>by
   have h':(a.aQ (zo b1 b2) && b.aQ (zo b1 b2))=true:=h
   rw [aaN] at h'
   exact ⟨eh (e:=a) ok.1 h'.1,eh (e:=b) ok.2 h'.2⟩
structure xq (n:Nat)(H:Hp)(v1 v2:V)(m y:Addr)(tv:V)(b1 b2:List (Str×Int))(i1 i2:List Str)(n1 n2:List Nd)(w1 w2:List Int)(e:E):Prop where
 pr:KD H v1 v2 b1 b2 i1 i2 n1 n2
 a1:qF H v1 m b1 w1
 a2:qF H v2 y b2 w2
 ev:cE H tv e
 ok:e.okIn ja
 hd:e.dep < n
 len:cL b1 b2 i1 i2->b1.length=b2.length
 few:b1.length<=100
theorem xq.same {n:Nat}{H H':Hp}{v1 v2:V}{m y:Addr}{tv:V}{b1 b2:List (Str×Int)}{i1 i2:List Str}{n1 n2:List Nd}{w1 w2:List Int}{e:E}(h:xq n H v1 v2 m y tv b1 b2 i1 i2 n1 n2 w1 w2 e)(s:ag H H'):xq n H' v1 v2 m y tv b1 b2 i1 i2 n1 n2 w1 w2 e:=⟨h.pr.same s,h.a1.same s,h.a2.same s,h.ev.same s,h.ok,h.hd,h.len,h.few⟩
def C5 (cN cW cP:Addr)(b1 b2:List (Str×Int))(i1 i2:List Str)(w1 w2:List Int)(e:E)(k:Addr):Prop:=
 (¬ cL b1 b2 i1 i2/\k=cN)\/(cL b1 b2 i1 i2/\¬ (GoodW b1 w1/\GoodW b2 w2)/\k=cW)\/(cL b1 b2 i1 i2/\GoodW b1 w1/\GoodW b2 w2/\e.aQ (zo b1 b2)=false/\k=cP)
def C4 (b1 b2:List (Str×Int))(i1 i2:List Str)(w1 w2:List Int)(e:E):Prop:=cL b1 b2 i1 i2/\GoodW b1 w1/\GoodW b2 w2/\e.aQ (zo b1 b2)=true
def pq (cN cW cP:Addr)(n:Nat):Sp:=fun vs H Q X=>∃(v1 v2:V) (m y:Addr) (tv:V) (b1 b2:List (Str×Int)) (i1 i2:List Str) (n1 n2:List Nd) (w1 w2:List Int) (e:E),vs=[v1,v2,.ref m,.ref y,tv]/\xq n H v1 v2 m y tv b1 b2 i1 i2 n1 n2 w1 w2 e /\
 (C4 b1 b2 i1 i2 w1 w2 e->∀D H',H D=none->ag H H'->C9 H' D (Dj b1 b2) (OL b1 w1 b2 w2)->Q (.ref D) H')/\(∀k,C5 cN cW cP b1 b2 i1 i2 w1 w2 e k->∀H',ag H H'->X (.ref k) none H')
theorem Gk:aD ["one","other","mine","yours","told","known"] ["one","other","mine","yours","told"] (ai vp):=⟨rfl,rfl,rfl,by decide +kernel,rfl,by decide +kernel,by decide +kernel⟩
theorem iI:aY vp "known_between":=by decide +kernel
theorem cX:aY vp "refuse_box_worths":=by decide +kernel
theorem ib:aY vp "refuse_no_pair":=by decide +kernel
theorem ic:aY vp "refuse_unknown":=by decide +kernel
theorem Iu {n:Nat}{cN cW cP:Addr}{f:Addr}{fd:aaf}(F:dm K "known_for_both" "known_for_both" vp f fd)(NP:bQ P w K mg base "refuse_no_pair" ["one","other"] 2 (dW cN))(RB:bQ P w K mg base "refuse_box_worths" ["program","worths"] 2 (jX cW))(KB:aX P w K mg base "known_between" ["one","other","mine","yours"] 2 xh)
   (U:bQ P w K mg base "refuse_unknown" ["known","told"] (n + 2) (gX cP n)):aP P w K mg base (lu P w base) (n + 3) f fd ["one","other","mine","yours","told"] (pq cN cW cP n):=by
 refine F.CY Gk (fun vs H Q E h=>?_) (fun cdv A outer s H vs Q E hr h=>?_)
 · obtain ⟨v1,v2,m,y,tv,b1,b2,i1,i2,n1,n2,w1,w2,e,rfl,_⟩:=h
   rfl
 · obtain ⟨v1,v2,m,y,tv,b1,b2,i1,i2,n1,n2,w1,w2,e,rfl,T,q,qx⟩:=h
   have U3:=NP.mono (show 2<=n + 2 by omega)
   have Sg:=RB.mono (show 2<=n + 2 by omega)
   have U0:=KB.mono (show 2<=n + 2 by omega)
   refine kG ⟨_,(ad7 (aeu (aeF fJ U3 hr ib (ad3 (ad4 0) (ad3 (ad4 1) ad5))))
     (ad7 (aeu (aeF fJ Sg hr cX (ad3 (ad4 0) (ad3 (ad4 2) ad5))))
     (ad7 (aeu (aeF fJ Sg hr cX (ad3 (ad4 1) (ad3 (ad4 3) ad5))))
     (ad7 (aeh 5 Gk.nd (aef U0 hr iI (ad3 (ad4 0) (ad3 (ad4 1) (ad3 (ad4 2) (ad3 (ad4 3) ad5))))))
     (ad7 (aeu (aeF fJ U hr ic (ad3 (ad4 5) (ad3 (ad4 4) ad5))))
     (aea (aec (ad4 5)))))))),?_⟩
   refine ⟨_,rfl,_,rfl,v1,v2,b1,b2,i1,i2,n1,n2,rfl,T.pr,fun gp H1 s1=>?_,fun gp H1 s1=>qx _ (.inl ⟨gp,rfl⟩) _ s1⟩
   have T1:=T.same s1
   refine ⟨_,rfl,_,rfl,v1,m,b1,w1,rfl,T1.a1,fun g1 H2 s2=>?_,fun g1 H2 s2=>qx _ (.inr (.inl ⟨gp,fun z=>g1 z.1,rfl⟩)) _ (aa s1 s2)⟩
   have T2:=T1.same s2
   refine ⟨_,rfl,_,rfl,v2,y,b2,w2,rfl,T2.a2,fun g2 H3 s3=>?_,fun g2 H3 s3=>qx _ (.inr (.inl ⟨gp,fun z=>g2 z.2,rfl⟩)) _ (aa s1 (aa s2 s3))⟩
   have T3:=T2.same s3
   have i6:=aa s1 (aa s2 s3)
   obtain ⟨ei,es⟩:=id gp
   subst ei
   have tw:Df H3 v1 v2 m y b1 b2 i1 n1 n2 w1 w2:=⟨T3.pr.p1,T3.pr.p2,T3.pr.f1,T3.pr.f2,es,T3.a1.wl,T3.a2.wl,g1,g2,T.len gp,T.few⟩
   refine ⟨_,rfl,_,rfl,_,rfl,_,rfl,v1,v2,m,y,b1,b2,i1,n1,n2,w1,w2,rfl,tw,fun D H4 hD s4 hk=>?_⟩
   have Kp:=aa i6 s4
   have ke:e.aQ (cZ (vT b1 w1 b2 w2))=e.aQ (zo b1 b2):=jA (DR tw.l1 tw.l2)
   refine ⟨_,rfl,_,rfl,D,tv,e,_,rfl,hk,T.ev.same Kp,T.ok,T.hd,fun c H5 s5=>?_,fun c H5 s5=>?_⟩
   · rw [ke] at c
     exact ⟨_,rfl,q ⟨gp,g1,g2,c⟩ D H5 (aq i6 hD) (aa Kp s5) ⟨_,s5 _ _ hk,zK tw.l1 tw.l2⟩⟩
   · rw [ke] at c
     exact qx _ (.inr (.inr ⟨gp,g1,g2,c,rfl⟩)) _ (aa Kp s5)
theorem Dy {n:Nat}{cN cW cP:Addr}(s:Src K mg "known_for_both" vp)(NP:bQ P w K mg base "refuse_no_pair" ["one","other"] 2 (dW cN))(RB:bQ P w K mg base "refuse_box_worths" ["program","worths"] 2 (jX cW))(KB:aX P w K mg base "known_between" ["one","other","mine","yours"] 2 xh)(U:bQ P w K mg base "refuse_unknown" ["known","told"] (n + 2) (gX cP n)):bQ P w K mg base "known_for_both" ["one","other","mine","yours","told"] (n + 3) (pq cN cW cP n):=
 let ⟨f,fd,F,m⟩:=s
 ⟨f,fd,Iu F NP RB KB U,F.kp,F.binds fun _ _ _ _ _ _ us hl=>match us,hl with | [_,_,_,_,_],_=>rfl,m⟩
def gG (S:E->Prop)(cN cW cP:Addr)(n:Nat):Sp:=fun vs H Q X=>∃(v1 v2:V) (m y:Addr) (tv:V) (b1 b2:List (Str×Int)) (i1 i2:List Str) (n1 n2:List Nd) (w1 w2:List Int) (e:E),vs=[v1,v2,.ref m,.ref y,tv]/\xq n H v1 v2 m y tv b1 b2 i1 i2 n1 n2 w1 w2 e/\S e /\
 (C4 b1 b2 i1 i2 w1 w2 e->∀u H',ag H H'->Q u H')/\(∀k,C5 cN cW cP b1 b2 i1 i2 w1 w2 e k->∀H',ag H H'->X (.ref k) none H')
abbrev sR:Stmt:=top 34
theorem JI:aD ["one","other","mine","yours","sum_told"] ["one","other","mine","yours","sum_told"] (ai sR):=⟨rfl,rfl,rfl,by decide +kernel,rfl,by decide +kernel,by decide +kernel⟩
theorem f9:aY sR "known_for_both":=by decide +kernel
theorem mV:aY sR "worth_by":=by decide +kernel
theorem Ep {n:Nat}{cN cW cP:Addr}{f:Addr}{fd:aaf}(F:dm K "sum_between" "sum_between" sR f fd)(WB0:aX P w K mg base "worth_by" ["known","sum_told"] (n + 1) (cy n))(KF:bQ P w K mg base "known_for_both" ["one","other","mine","yours","told"] (n + 3) (pq cN cW cP n)):aP P w K mg base (lu P w base) (n + 4) f fd ["one","other","mine","yours","sum_told"] (gG E.fQ cN cW cP n):=by
 refine F.CY JI (fun vs H Q E h=>?_) (fun cdv A outer s H vs Q E hr h=>?_)
 · obtain ⟨v1,v2,m,y,tv,b1,b2,i1,i2,n1,n2,w1,w2,e,rfl,_⟩:=h
   rfl
 · obtain ⟨v1,v2,m,y,tv,b1,b2,i1,i2,n1,n2,w1,w2,e,rfl,T,es,q,qx⟩:=h
   have WB:=WB0.mono (show n + 1<=n + 3 by omega)
   refine kG ⟨_,(aea (aec (aef WB hr mV (ad3 (aeF fJ KF hr f9 (ad3 (ad4 0) (ad3 (ad4 1) (ad3 (ad4 2) (ad3 (ad4 3) (ad3 (ad4 4) ad5)))))) (ad3 (ad4 4) ad5))))),?_⟩
   refine ⟨_,rfl,_,rfl,_,rfl,_,rfl,_,rfl,v1,v2,m,y,tv,b1,b2,i1,i2,n1,n2,w1,w2,e,rfl,T,fun dq D H1 hD s1 kn=>?_,qx⟩
   exact ⟨_,rfl,D,tv,e,_,_,rfl,kn,qQ b1 b2,T.ev.same s1,es,eh T.ok dq.2.2.2,T.hd,q dq _ _ s1⟩
theorem Aq {n:Nat}{cN cW cP:Addr}(s:Src K mg "sum_between" sR)(WB0:aX P w K mg base "worth_by" ["known","sum_told"] (n + 1) (cy n))(KF:bQ P w K mg base "known_for_both" ["one","other","mine","yours","told"] (n + 3) (pq cN cW cP n)):bQ P w K mg base "sum_between" ["one","other","mine","yours","sum_told"] (n + 4) (gG E.fQ cN cW cP n):=
 let ⟨f,fd,F,m⟩:=s
 ⟨f,fd,Ep F WB0 KF,F.kp,F.binds fun _ _ _ _ _ _ us hl=>match us,hl with | [_,_,_,_,_],_=>rfl,m⟩
abbrev su:Stmt:=top 35
theorem JH:aD ["one","other","mine","yours","condition"] ["one","other","mine","yours","condition"] (ai su):=⟨rfl,rfl,rfl,by decide +kernel,rfl,by decide +kernel,by decide +kernel⟩
theorem mG:aY su "holds_by":=by decide +kernel
theorem fY:aY su "known_for_both":=by decide +kernel
theorem Eh {n:Nat}{cN cW cP:Addr}{f:Addr}{fd:aaf}(F:dm K "holds_between" "holds_between" su f fd)(WB0:aX P w K mg base "holds_by" ["known","condition"] (n + 2) (di n))(KF:bQ P w K mg base "known_for_both" ["one","other","mine","yours","told"] (n + 3) (pq cN cW cP n)):aP P w K mg base (lu P w base) (n + 4) f fd ["one","other","mine","yours","condition"] (gG E.gP cN cW cP n):=by
 refine F.CY JH (fun vs H Q E h=>?_) (fun cdv A outer s H vs Q E hr h=>?_)
 · obtain ⟨v1,v2,m,y,tv,b1,b2,i1,i2,n1,n2,w1,w2,e,rfl,_⟩:=h
   rfl
 · obtain ⟨v1,v2,m,y,tv,b1,b2,i1,i2,n1,n2,w1,w2,e,rfl,T,es,q,qx⟩:=h
   have WB:=WB0.mono (show n + 2<=n + 3 by omega)
   refine kG ⟨_,(aea (aec (aef WB hr mG (ad3 (aeF fJ KF hr fY (ad3 (ad4 0) (ad3 (ad4 1) (ad3 (ad4 2) (ad3 (ad4 3) (ad3 (ad4 4) ad5)))))) (ad3 (ad4 4) ad5))))),?_⟩
   refine ⟨_,rfl,_,rfl,_,rfl,_,rfl,_,rfl,v1,v2,m,y,tv,b1,b2,i1,i2,n1,n2,w1,w2,e,rfl,T,fun dq D H1 hD s1 kn=>?_,qx⟩
   exact ⟨_,rfl,D,tv,e,_,_,rfl,kn,qQ b1 b2,T.ev.same s1,es,eh T.ok dq.2.2.2,T.hd,q dq _ _ s1⟩
theorem Ai {n:Nat}{cN cW cP:Addr}(s:Src K mg "holds_between" su)(WB0:aX P w K mg base "holds_by" ["known","condition"] (n + 2) (di n))(KF:bQ P w K mg base "known_for_both" ["one","other","mine","yours","told"] (n + 3) (pq cN cW cP n)):bQ P w K mg base "holds_between" ["one","other","mine","yours","condition"] (n + 4) (gG E.gP cN cW cP n):=
 let ⟨f,fd,F,m⟩:=s
 ⟨f,fd,Eh F WB0 KF,F.kp,F.binds fun _ _ _ _ _ _ us hl=>match us,hl with | [_,_,_,_,_],_=>rfl,m⟩
structure Kw (H:Hp)(v:V)(ia:Addr)(bs:List (Str×Int))(ins:List Str)(nds:List Nd)(iw:List Int):Prop where
 pa:bD H v bs ins nds
 ft:Fits bs ins
 hw:H ia=some (.lst (iw.map V.int))
 b1:zA (ins.map (cj bs))
 b2:zA iw
 bad:¬ Paired Within (ins.map (cj bs)) iw
abbrev sr:Stmt:=top 28
def qm (C:Addr):Sp:=fun vs H Q X=>∃(v:V) (ia:Addr) (bs:List (Str×Int)) (ins:List Str) (nds:List Nd) (iw:List Int),vs=[v,.ref ia]/\Kw H v ia bs ins nds iw/\∀H',ag H H'->X (.ref C) none H'
theorem JF:aD ["program","inputs","given"] ["program","inputs"] (ai sr):=⟨rfl,rfl,rfl,by decide +kernel,rfl,by decide +kernel,by decide +kernel⟩
theorem ji:aY sr "input_sizes":=by decide +kernel
theorem hW:aY sr "refuse_worths":=by decide +kernel
theorem Ee {C:Addr}{f:Addr}{fd:aaf}(F:dm K "beginning_of" "beginning_of" sr f fd)(RW:bQ P w K mg base "refuse_worths" ["sizes","worths"] 1 (gY C))(IS:aX P w K mg base "input_sizes" ["program"] 1 fB):aP P w K mg base (lu P w base) 2 f fd ["program","inputs"] (qm C):=by
 refine F.CY JF (fun vs H Q E h=>?_) (fun cdv A outer s H vs Q E hr h=>?_)
 · obtain ⟨v,ia,bs,ins,nds,iw,rfl,_⟩:=h
   rfl
 · obtain ⟨v,ia,bs,ins,nds,iw,rfl,ak,q⟩:=h
   refine ⟨_,aez (ad7 (aeu (aeF fJ RW hr hW (ad3 (aef IS hr ji (ad3 (ad4 0) ad5)) (ad3 (ad4 1) ad5)))) ae4),?_⟩
   refine ⟨_,rfl,v,bs,ins,nds,rfl,ak.pa,ak.ft,fun l H1 hl s1 h1=>?_⟩
   exact ⟨_,rfl,l,ia,_,iw,rfl,h1,s1 _ _ ak.hw,ak.b1,ak.b2,fun g=>absurd g ak.bad,fun _ H' s'=>q _ (aa s1 s')⟩
theorem Af {C:Addr}(s:Src K mg "beginning_of" sr)(RW:bQ P w K mg base "refuse_worths" ["sizes","worths"] 1 (gY C))(IS:aX P w K mg base "input_sizes" ["program"] 1 fB):bQ P w K mg base "beginning_of" ["program","inputs"] 2 (qm C):=
 let ⟨f,fd,F,m⟩:=s
 ⟨f,fd,Ee F RW IS,F.kp,F.binds fun _ _ _ _ _ _ us hl=>match us,hl with | [_,_],_=>rfl,m⟩
abbrev B7:Stmt:=top 29
def Ck (C:Addr):Sp:=fun vs H Q X=>∃(v:V) (ia:Addr) (bs:List (Str×Int)) (ins:List Str) (nds:List Nd) (iw:List Int),vs=[v,.ref ia]/\Kw H v ia bs ins nds iw/\∀H',ag H H'->X (.ref C) none H'
theorem nH:aD ["program","inputs","place","worths","said","met","step","spoken","steps","ahead"] ["program","inputs"] (ai B7):=⟨rfl,rfl,rfl,by decide +kernel,rfl,by decide +kernel,by decide +kernel⟩
theorem iP:aY B7 "beginning_of":=by decide +kernel
theorem En {C:Addr}{f:Addr}{fd:aaf}(F:dm K "run_of" "run_of" B7 f fd)(BG:bQ P w K mg base "beginning_of" ["program","inputs"] 2 (qm C)):aP P w K mg base (lu P w base) 3 f fd ["program","inputs"] (Ck C):=by
 refine F.CY nH (fun vs H Q E h=>?_) (fun cdv A outer s H vs Q E hr h=>?_)
 · obtain ⟨v,ia,bs,ins,nds,iw,rfl,_⟩:=h
   rfl
 · obtain ⟨v,ia,bs,ins,nds,iw,rfl,ak,q⟩:=h
   refine ⟨_,aez (ad7 (aeO (aed (ad3 ad6 (ad3 (aeF fJ BG hr iP (ad3 (ad4 0) (ad3 (ad4 1) ad5))) (ad3 (aen ad5) (ad3 (L3.Fx (P:=P) (w:=w)) ad5 wF))))) (aes 4 (aej (aee 2 nH.nd) (aej (aee 3 nH.nd) (aej (aee 4 nH.nd) (aej (aee 5 nH.nd) aet)))))) ae4),?_⟩
   exact ⟨_,rfl,_,rfl,v,ia,bs,ins,nds,iw,rfl,ak,fun H' s'=>q _ s'⟩
def vC (C:Addr):Sp:=fun vs H Q X=>Gp vs H Q X\/Ck C vs H Q X
theorem Ao {C:Addr}(s:Src K mg "run_of" i9)(m_len:mg "len"=none)(m_tuple:mg "tuple"=none)(BG:aX P w K mg base "beginning_of" ["program","inputs"] 30 l9)(SA:aX P w K mg base "step_at" ["program","place","worths"] 30 qr)(BX:bQ P w K mg base "beginning_of" ["program","inputs"] 2 (qm C)):bQ P w K mg base "run_of" ["program","inputs"] 31 (vC C):=
 let ⟨f,fd,F,m⟩:=s
 ⟨f,fd,aP.or (aP.YY (Bu F m_len m_tuple BG SA)) ((En F BX).mono (by decide)),F.kp,F.binds fun _ _ _ _ _ _ us hl=>match us,hl with | [_,_],_=>rfl,m⟩
structure zy (H:Hp)(v1 v2:V)(ia:Addr)(b1 b2:List (Str×Int))(i1 i2:List Str)(n1 n2:List Nd)(iw:List Int):Prop where
 g1:J5 H v1 b1 i1 n1
 g2:J5 H v2 b2 i2 n2
 hi:H ia=some (.lst (iw.map V.int))
 bi:zA iw
 bs:zA (i1.map (cj b1))
 few1:n1.length * n9 b1<=100000
 few2:n2.length * n9 b2<=100000
theorem zy.same {H H':Hp}{v1 v2:V}{ia:Addr}{b1 b2:List (Str×Int)}{i1 i2:List Str}{n1 n2:List Nd}{iw:List Int}(h:zy H v1 v2 ia b1 b2 i1 i2 n1 n2 iw)(s:ag H H'):zy H' v1 v2 ia b1 b2 i1 i2 n1 n2 iw:=⟨h.g1.same s,h.g2.same s,s _ _ h.hi,h.bi,h.bs,h.few1,h.few2⟩
abbrev oH (b1:List (Str×Int))(i1:List Str)(iw:List Int):Prop:=Paired Within (i1.map (cj b1)) iw
def md (cN cW:Addr):Sp:=fun vs H Q X=>∃(v1 v2:V) (ia:Addr) (b1 b2:List (Str×Int)) (i1 i2:List Str) (n1 n2:List Nd) (iw:List Int),vs=[v1,v2,.ref ia]/\zy H v1 v2 ia b1 b2 i1 i2 n1 n2 iw /\
 (cL b1 b2 i1 i2->oH b1 i1 iw->∀u H',ag H H'->Q u H')/\(cL b1 b2 i1 i2->¬ oH b1 i1 iw->∀H',ag H H'->X (.ref cW) none H')/\(¬ cL b1 b2 i1 i2->∀H',ag H H'->X (.ref cN) none H')
abbrev gV:Stmt:=top 36
theorem Cc:aD ["one","other","inputs"] ["one","other","inputs"] (ai gV):=⟨rfl,rfl,rfl,by decide +kernel,rfl,by decide +kernel,by decide +kernel⟩
theorem fg:aY gV "refuse_no_pair":=by decide +kernel
theorem f6:aY gV "run_of":=by decide +kernel
theorem iK:aY gV "said_alike":=by decide +kernel
theorem yL {cN cW:Addr}{f:Addr}{fd:aaf}(F:dm K "runs_part" "runs_part" gV f fd)(NP0:bQ P w K mg base "refuse_no_pair" ["one","other"] 2 (dW cN))(SA0:aX P w K mg base "said_alike" ["run","another"] 2 jZ)(RO:bQ P w K mg base "run_of" ["program","inputs"] 31 (vC cW)):aP P w K mg base (lu P w base) 32 f fd ["one","other","inputs"] (md cN cW):=by
 refine F.CY Cc (fun vs H Q E h=>?_) (fun cdv A outer s H vs Q E hr h=>?_)
 · obtain ⟨v1,v2,ia,b1,b2,i1,i2,n1,n2,iw,rfl,_⟩:=h
   rfl
 · obtain ⟨v1,v2,ia,b1,b2,i1,i2,n1,n2,iw,rfl,pre,q,qw,qn⟩:=h
   have NP:=NP0.mono (show 2<=31 by decide)
   have SA:=SA0.mono (show 2<=31 by decide)
   refine kG ⟨_,(ad7 (aeu (aeF fJ NP hr fg (ad3 (ad4 0) (ad3 (ad4 1) ad5))))
     (aea (aec (aeE L3.Bk (aef SA hr iK (ad3 (aeF fJ RO hr f6 (ad3 (ad4 0) (ad3 (ad4 2) ad5))) (ad3 (aeF fJ RO hr f6 (ad3 (ad4 1) (ad3 (ad4 2) ad5))) ad5))) aeS)))),?_⟩
   refine ⟨_,rfl,_,rfl,v1,v2,b1,b2,i1,i2,n1,n2,rfl,⟨pre.g1.pa,pre.g2.pa,pre.g1.ft,pre.g2.ft⟩,fun gp H1 s1=>?_,fun gp H1 s1=>qn gp _ s1⟩
   have BM:=pre.same s1
   by_cases gi:oH b1 i1 iw
   · obtain ⟨ei,es⟩:=id gp
     subst ei
     refine ⟨_,rfl,_,rfl,.inl ⟨v1,ia,b1,i1,n1,iw,rfl,BM.g1,BM.hi,gi,pre.few1,fun r sa ro n sd rd H2 s2 _ hr1 _ rP Tr few rt=>?_⟩⟩
     have Ms:=BM.same s2
     refine ⟨_,rfl,_,rfl,.inl ⟨v2,ia,b2,i1,n2,iw,rfl,Ms.g2,Ms.hi,(by rw [← es]; exact gi),pre.few2,fun r' MP Ob n' sd' rd' H3 s3 _ m3 _ DO Ql K3 ZN=>?_⟩⟩
     have YA:ip H3 (.ref r) sd rd:=⟨⟨r,sa,ro,_,rfl,s3 _ _ hr1,s3 _ _ rP,Tr.ro.same s3⟩,few⟩
     have YB:ip H3 (.ref r') sd' rd':=⟨⟨r',MP,Ob,_,rfl,m3,DO,Ql.ro⟩,K3⟩
     refine ⟨.ref r,.ref r',sd,rd,sd',rd',rfl,YA,YB,fun u H4 s4 hu=>⟨rfl,?_⟩⟩
     exact q gp gi _ H4 (aa s1 (aa s2 (aa s3 s4)))
   · exact ⟨_,rfl,_,rfl,.inr ⟨v1,ia,b1,i1,n1,iw,rfl,⟨BM.g1.pa,pre.g1.ft,BM.hi,pre.bs,pre.bi,gi⟩,fun H2 s2=>qw gp gi _ (aa s1 s2)⟩⟩
theorem um {cN cW:Addr}(s:Src K mg "runs_part" gV)(NP0:bQ P w K mg base "refuse_no_pair" ["one","other"] 2 (dW cN))(SA0:aX P w K mg base "said_alike" ["run","another"] 2 jZ)(RO:bQ P w K mg base "run_of" ["program","inputs"] 31 (vC cW)):bQ P w K mg base "runs_part" ["one","other","inputs"] 32 (md cN cW):=
 let ⟨f,fd,F,m⟩:=s
 ⟨f,fd,yL F NP0 SA0 RO,F.kp,F.binds fun _ _ _ _ _ _ us hl=>match us,hl with | [_,_,_],_=>rfl,m⟩
abbrev cC:Stmt:=top 53
abbrev i7:Stmt:=top 54
abbrev gU:Stmt:=top 55
def kb:Nat->List Bool
 | 0=>[true,false,false,true,false]
 | 1=>[false,true,false,true,false]
 | 2=>[false,false,true,true,false]
 | _=>[]
def Np (cN cW cP:Addr)(k:Nat)(C:Addr):Prop:=(k=0/\C=cN)\/(k=1/\C=cW)\/(k=2/\C=cP)
def gW (cN cW cP:Addr):Sp:=fun vs H Q _=>∃(ea C:Addr) (k:Nat),vs=[.ref ea]/\H ea=some (zq ea C)/\Np cN cW cP k C/\∀(l:Addr) (H':Hp),H l=none->ag H H'->H' l=some (.lst ((kb k).map V.bl))->Q (.ref l) H'
theorem wZ:aD ["e","told"] ["e"] (ai cC):=⟨rfl,rfl,rfl,by decide +kernel,rfl,by decide +kernel,by decide +kernel⟩
theorem bI:aY cC "isinstance":=by decide +kernel
theorem jj:aY cC "ValueError":=by decide +kernel
theorem ou:aY cC "NoPair":=by decide +kernel
theorem lF:aY cC "NoWorths":=by decide +kernel
theorem ky:aY cC "NoProgram":=by decide +kernel
theorem lE:aY cC "NoChange":=by decide +kernel
theorem om:aY cC "NoForm":=by decide +kernel
theorem oq:aY cC "NoNode":=by decide +kernel
theorem mH:aY cC "NoPaper":=by decide +kernel
theorem mI:aY cC "NoPicks":=by decide +kernel
theorem pS:aY cC "NoRow":=by decide +kernel
theorem mJ:aY cC "NoneYet":=by decide +kernel
theorem mK:aY cC "TooMany":=by decide +kernel
theorem Br {T aH aA az aN bf bg aR aS bA aT aU:Addr}{f:Addr}{fd:aaf}(F:dm K "_law_kinds" "_law_kinds" cC f fd)(R:Fp K mg T aH aA az aN bf bg aR aS bA aT aU)(m_isinstance:mg "isinstance"=none)(m_ValueError:mg "ValueError"=none):mq P w K mg base 1 f fd ["e"] (gW aH aA az):=by
 refine F.Yo wZ (fun vs H Q E h=>?_) (fun cdv A outer s H vs Q E hr h=>?_)
 · obtain ⟨ea,C,k,rfl,_⟩:=h
   rfl
 · obtain ⟨ea,C,k,rfl,he,hk,q⟩:=h
   obtain ⟨kk,i1,i2,i3,iv,io,ek⟩ : GQ K C/\aav K (.ref C) (.ref aH)=some (decide (k=0))/\aav K (.ref C) (.ref aA)=some (decide (k=1))/\aav K (.ref C) (.ref az)=some (decide (k=2))/\aav K (.ref C) (.type "ValueError")=some true/\ab3 K (.ref C) [.ref aN,.ref bf,.ref bg,.ref aR,.ref aS,.ref bA,.ref aT,.ref aU]=some false/\kb k=[decide (k=0),decide (k=1),decide (k=2),true,false]:=by
     rcases hk with ⟨rfl,rfl⟩ | ⟨rfl,rfl⟩ | ⟨rfl,rfl⟩
     · exact ⟨R.k_NoPair,R.i_NoPair_NoPair,R.i_NoPair_NoWorths,R.i_NoPair_NoProgram,R.v_NoPair,R.o_NoPair,rfl⟩
     · exact ⟨R.k_NoWorths,R.i_NoWorths_NoPair,R.i_NoWorths_NoWorths,R.i_NoWorths_NoProgram,R.v_NoWorths,R.o_NoWorths,rfl⟩
     · exact ⟨R.k_NoProgram,R.i_NoProgram_NoPair,R.i_NoProgram_NoWorths,R.i_NoProgram_NoProgram,R.v_NoProgram,R.o_NoProgram,rfl⟩
   refine kG ⟨_,(ad7 (aeh 1 wZ.nd (aen (ad3 (aep L3.qR bI m_isinstance (by decide +kernel) (ad3 (ad4 0) (ad3 (aeI (w:=.ref aH) ou R.x_NoPair.m rfl) ad5))) (ad3 (aep L3.qR bI m_isinstance (by decide +kernel) (ad3 (ad4 0) (ad3 (aeI (w:=.ref aA) lF R.x_NoWorths.m rfl) ad5))) (ad3 (aep L3.qR bI m_isinstance (by decide +kernel) (ad3 (ad4 0) (ad3 (aeI (w:=.ref az) ky R.x_NoProgram.m rfl) ad5))) (ad3 (aep L3.qR bI m_isinstance (by decide +kernel) (ad3 (ad4 0) (ad3 (L3.GX (w:=.ty "ValueError") jj m_ValueError (by decide +kernel) rfl) ad5))) ad5))))))
     (aea (aec (ad9 aeH (ad4 1) (aen (ad3 (aep L3.qR bI m_isinstance (by decide +kernel) (ad3 (ad4 0) (ad3 (aed (ad3 (aeI (w:=.ref aN) lE R.m_NoChange rfl) (ad3 (aeI (w:=.ref bf) om R.m_NoForm rfl) (ad3 (aeI (w:=.ref bg) oq R.m_NoNode rfl) (ad3 (aeI (w:=.ref aR) mH R.m_NoPaper rfl) (ad3 (aeI (w:=.ref aS) mI R.m_NoPicks rfl) (ad3 (aeI (w:=.ref bA) pS R.m_NoRow rfl) (ad3 (aeI (w:=.ref aT) mJ R.m_NoneYet rfl) (ad3 (aeI (w:=.ref aU) mK R.m_TooMany rfl) ad5))))))))) ad5))) ad5)))))),?_⟩
   refine ⟨_,rfl,ea,C,_,he,kk,.inl ⟨_,rfl,i1⟩,_,rfl,ea,C,_,he,kk,.inl ⟨_,rfl,i2⟩,_,rfl,ea,C,_,he,kk,.inl ⟨_,rfl,i3⟩,_,rfl,ea,C,_,he,kk,.inr (.inl ⟨_,rfl,iv⟩),agf,fun l0 AF=>?_⟩
   obtain ⟨H1,s1,g1,zz⟩:=aJ AF (.lst [.bl (decide (k=0)),.bl (decide (k=1)),.bl (decide (k=2)),.bl true])
   rw [zz]; clear zz
   refine ⟨_,rfl,_,rfl,agh,fun tp uG=>?_⟩
   obtain ⟨H2,s2,g2,zz⟩:=aJ uG (.tup [.ref aN,.ref bf,.ref bg,.ref aR,.ref aS,.ref bA,.ref aT,.ref aU])
   rw [zz]; clear zz
   refine ⟨ea,C,false,s2 _ _ (s1 _ _ he),kk,.inr (.inr ⟨tp,[aN,bf,bg,aR,aS,bA,aT,aU],rfl,g2,io⟩),agc,fun l1 hl1=>?_⟩
   obtain ⟨H3,s3,g3,zz⟩:=aJ hl1 (.lst [.bl false])
   rw [zz]; clear zz
   refine ⟨l0,l1,_,_,rfl,rfl,s3 _ _ (s2 _ _ g1),g3,(by show 4 + 1<=sizeLine; decide),fun p hp=>?_⟩
   have i6:=aa s1 (aa s2 s3)
   exact q p _ (aq i6 hp) (aa i6 (af hp _)) (by rw [ae,ek]; rfl)
theorem x9 {T aH aA az aN bf bg aR aS bA aT aU:Addr}(s:Src K mg "_law_kinds" cC)(R:Fp K mg T aH aA az aN bf bg aR aS bA aT aU)(m_isinstance:mg "isinstance"=none)(m_ValueError:mg "ValueError"=none):pI P w K mg base "_law_kinds" ["e"] 1 (gW aH aA az):=
 let ⟨f,fd,F,m⟩:=s
 ⟨f,fd,Br F R m_isinstance m_ValueError,F.kp,F.binds fun _ _ _ _ _ _ us hl=>match us,hl with | [_],_=>rfl,m⟩
def zB (b1 b2:List (Str×Int))(i1 i2:List Str)(w1 w2:List Int)(e:E)(k:Nat):Prop:=
 (k=0/\¬ cL b1 b2 i1 i2)\/(k=1/\cL b1 b2 i1 i2/\¬ (GoodW b1 w1/\GoodW b2 w2))\/(k=2/\cL b1 b2 i1 i2/\GoodW b1 w1/\GoodW b2 w2/\e.aQ (zo b1 b2)=false)\/(k=3/\C4 b1 b2 i1 i2 w1 w2 e)
theorem G5 {cN cW cP:Addr}{b1 b2:List (Str×Int)}{i1 i2:List Str}{w1 w2:List Int}{e:E}{C:Addr}(h:C5 cN cW cP b1 b2 i1 i2 w1 w2 e C):∃k,Np cN cW cP k C/\zB b1 b2 i1 i2 w1 w2 e k:=by
 rcases h with ⟨h,rfl⟩ | ⟨h1,h2,rfl⟩ | ⟨h1,h2,h3,h4,rfl⟩
 · exact ⟨0,.inl ⟨rfl,rfl⟩,.inl ⟨rfl,h⟩⟩
 · exact ⟨1,.inr (.inl ⟨rfl,rfl⟩),.inr (.inl ⟨rfl,h1,h2⟩)⟩
 · exact ⟨2,.inr (.inr ⟨rfl,rfl⟩),.inr (.inr (.inl ⟨rfl,h1,h2,h3,h4⟩))⟩
theorem FY {T aH aA az aN bf bg aR aS bA aT aU:Addr}{k:Nat}{C:Addr}(R:Fp K mg T aH aA az aN bf bg aR aS bA aT aU)(h:Np aH aA az k C):∃x,Xc K mg x C (.ref T :: vE):=by
 rcases h with ⟨_,rfl⟩ | ⟨_,rfl⟩ | ⟨_,rfl⟩
 · exact ⟨_,R.x_NoPair⟩
 · exact ⟨_,R.x_NoWorths⟩
 · exact ⟨_,R.x_NoProgram⟩
def ql:Sp:=fun vs H Q _=>∃(v1 v2:V) (m y:Addr) (tv:V) (b1 b2:List (Str×Int)) (i1 i2:List Str) (n1 n2:List Nd) (w1 w2:List Int) (e:E),vs=[v1,v2,.ref m,.ref y,tv]/\xq 20 H v1 v2 m y tv b1 b2 i1 i2 n1 n2 w1 w2 e/\(e.fQ\/(e.gP/\e≠.yes)) /\
 ∀(k:Nat) (l:Addr) (H':Hp),zB b1 b2 i1 i2 w1 w2 e k->H l=none->ag H H'->H' l=some (.lst ((kb k).map V.bl))->Q (.ref l) H'
theorem l5:aD ["one","other","mine","yours","thing","told","e"] ["one","other","mine","yours","thing"] (ai i7):=⟨rfl,rfl,rfl,by decide +kernel,rfl,by decide +kernel,by decide +kernel⟩
theorem kq:aY i7 "TwinError":=by decide +kernel
theorem kr:aY i7 "_law_kinds":=by decide +kernel
theorem fW:aY i7 "holds_between":=by decide +kernel
theorem iG:aY i7 "sum_between":=by decide +kernel
theorem Bl {T aH aA az aN bf bg aR aS bA aT aU:Addr}{f:Addr}{fd:aaf}(F:dm K "_law_asked" "_law_asked" i7 f fd)(R:Fp K mg T aH aA az aN bf bg aR aS bA aT aU)(HB:bQ P w K mg base "holds_between" ["one","other","mine","yours","condition"] 24 (gG E.gP aH aA az 20))(SB:bQ P w K mg base "sum_between" ["one","other","mine","yours","sum_told"] 24 (gG E.fQ aH aA az 20))(KN0:pI P w K mg base "_law_kinds" ["e"] 1 (gW aH aA az)):aP P w K mg base cK 25 f fd ["one","other","mine","yours","thing"] ql:=by
 have KN:=KN0.mono (show 1<=24 by decide)
 refine F.ok l5 (fun vs H Q E h=>?_) (fun cdv A outer s H vs Q E hr h=>?_)
 · obtain ⟨v1,v2,m,y,tv,b1,b2,i1,i2,n1,n2,w1,w2,e,rfl,_⟩:=h
   rfl
 obtain ⟨v1,v2,m,y,tv,b1,b2,i1,i2,n1,n2,w1,w2,e,rfl,T0,Hz,q⟩:=h
 refine kG ⟨_,(ad7 (aeh 5 l5.nd (aen ad5))
   (ad7 (L3.Ng 6 l5.nd R.t kq (fun W pn Ex hp=>(aea (ael (aek L3.Il (ad8 aei (ad4 4) ad6) (aed (ad3 aeb (ad3 aeb (ad3 aeb (ad3 aeb ad5))))) (by rfl)) (aea (aeu (aeF hp HB hr fW (ad3 (ad4 0) (ad3 (ad4 1) (ad3 (ad4 2) (ad3 (ad4 3) (ad3 (ad4 4) ad5)))))))) (aea (aeu (aeF hp SB hr iG (ad3 (ad4 0) (ad3 (ad4 1) (ad3 (ad4 2) (ad3 (ad4 3) (ad3 (ad4 4) ad5))))))))))) (fun ea=>(aea (aeh 5 l5.nd (L3.Mi KN (dn.h hr _) kr (ad3 (ad4 6) ad5))))))
   (aea (aec (ad4 5))))),?_⟩
 refine ⟨agb,fun l0 AF=>?_⟩
 obtain ⟨H1,s1,g1,zz⟩:=aJ AF (.lst [])
 rw [zz]; clear zz
 have T1:=T0.same s1
 have zQ:∀(C:Addr),C5 aH aA az b1 b2 i1 i2 w1 w2 e C->∀H4,ag H1 H4->∃k,Np aH aA az k C/\∀ea,H4 ea=none->∀(l:Addr) (H5:Hp),upd H4 ea (zq ea C) l=none->ag (upd H4 ea (zq ea C)) H5->H5 l=some (.lst ((kb k).map V.bl))->Q (.ref l) H5:=fun C hC H4 s4=>by
   obtain ⟨k,hk,hd⟩:=G5 hC
   refine ⟨k,hk,fun ea Ay l H5 hl s5 g5=>?_⟩
   have BY:ag H (upd H4 ea (zq ea C)):=aa s1 (aa s4 (af Ay _))
   exact q k l H5 hd (aq BY hl) (aa BY s5) g5
 have done:C4 b1 b2 i1 i2 w1 w2 e->∀H4,ag H1 H4->Q (.ref l0) H4:=fun dq H4 s4=>q 3 l0 H4 (.inr (.inr (.inr ⟨rfl,dq⟩))) AF (aa s1 s4) (s4 _ _ g1)
 obtain ⟨p,x0,xs,rfl,hp,FU⟩ : ∃(p:Addr) (x0:Str) (xs:List V),tv=.ref p/\H1 p=some (.tup (.str x0 :: xs))/\((e.fQ/\zu (.str x0) [.str "same",.str "under",.str "both",.str "not"]=false)\/(e.gP/\zu (.str x0) [.str "same",.str "under",.str "both",.str "not"]=true)):=by
   have ev:=T1.ev
   have ok:=T1.ok
   cases e with
   | num n=>
     obtain ⟨p,rfl,hp⟩:=ev
     exact ⟨p,_,_,rfl,hp,.inl ⟨aat,by decide⟩⟩
   | yes=>exact Hz.elim (fun z=>absurd z (fun z=>z.elim)) (fun z=>absurd rfl z.2)
   | box t x=>
     obtain ⟨p,rfl,hp⟩:=ev
     have Ko:t="mine"\/t="yours":=ok
     exact ⟨p,_,_,rfl,hp,.inl ⟨aat,by rcases Ko with rfl | rfl <;> decide⟩⟩
   | nt a=>
     obtain ⟨z,⟨p,rfl,hp⟩,_⟩:=ev
     exact ⟨p,_,_,rfl,hp,.inr ⟨Hz.elim (fun z=>absurd z (fun z=>z.elim)) (fun z=>z.1),by decide⟩⟩
   | two k a b=>
     obtain ⟨z1,z2,⟨p,rfl,hp⟩,_⟩:=ev
     refine ⟨p,_,_,rfl,hp,?_⟩
     cases k with
     | plus=>exact .inl ⟨Hz.elim id (fun z=>absurd z.1 (fun z=>z.elim)),by decide⟩
     | less=>exact .inl ⟨Hz.elim id (fun z=>absurd z.1 (fun z=>z.elim)),by decide⟩
     | same=>exact .inr ⟨Hz.elim (fun z=>absurd z (fun z=>z.elim)) (fun z=>z.1),by decide⟩
     | under=>exact .inr ⟨Hz.elim (fun z=>absurd z (fun z=>z.elim)) (fun z=>z.1),by decide⟩
     | both=>exact .inr ⟨Hz.elim (fun z=>absurd z (fun z=>z.elim)) (fun z=>z.1),by decide⟩
 refine ⟨_,rfl,p,_,_,_,rfl,rfl,aK.of hp,(show lQ (.str x0 :: xs) ((0:Nat):Int)=some (.str x0) from gN rfl),agf,fun tp uG=>?_⟩
 obtain ⟨H2,s2,g2,zz⟩:=aJ uG (.tup [.str "same",.str "under",.str "both",.str "not"])
 rw [zz]; clear zz
 have T2:=T1.same s2
 refine ⟨tp,_,rfl,.inr (aK.of g2),rfl,rfl,_,rfl,?_⟩
 rcases FU with ⟨es,hx⟩ | ⟨es,hx⟩
 · refine aF (fun c=>absurd c (by rw [hx]; decide)) (fun _=>?_)
   refine ⟨_,rfl,_,rfl,_,rfl,_,rfl,_,rfl,v1,v2,m,y,_,b1,b2,i1,i2,n1,n2,w1,w2,e,rfl,T2,es,fun dq u H3 s3=>?_,fun C hC H3 s3=>?_⟩
   · exact ⟨_,rfl,done dq _ (aa s2 s3)⟩
   · obtain ⟨k,hk,fin⟩:=zQ C hC H3 (aa s2 s3)
     obtain ⟨x,hx⟩:=FY R hk
     exact ⟨C,_,x,rfl,hx,(by simp),fun ea Ay=>⟨_,rfl,ea,C,k,rfl,ae,hk,fun l H5 hl s5 g5=>⟨_,rfl,fin ea Ay l H5 hl s5 g5⟩⟩⟩
 · refine aF (fun _=>?_) (fun c=>absurd hx c)
   refine ⟨_,rfl,_,rfl,_,rfl,_,rfl,_,rfl,v1,v2,m,y,_,b1,b2,i1,i2,n1,n2,w1,w2,e,rfl,T2,es,fun dq u H3 s3=>?_,fun C hC H3 s3=>?_⟩
   · exact ⟨_,rfl,done dq _ (aa s2 s3)⟩
   · obtain ⟨k,hk,fin⟩:=zQ C hC H3 (aa s2 s3)
     obtain ⟨x,hx⟩:=FY R hk
     exact ⟨C,_,x,rfl,hx,(by simp),fun ea Ay=>⟨_,rfl,ea,C,k,rfl,ae,hk,fun l H5 hl s5 g5=>⟨_,rfl,fin ea Ay l H5 hl s5 g5⟩⟩⟩
theorem xV {T aH aA az aN bf bg aR aS bA aT aU:Addr}(s:Src K mg "_law_asked" i7)(R:Fp K mg T aH aA az aN bf bg aR aS bA aT aU)(HB:bQ P w K mg base "holds_between" ["one","other","mine","yours","condition"] 24 (gG E.gP aH aA az 20))(SB:bQ P w K mg base "sum_between" ["one","other","mine","yours","sum_told"] 24 (gG E.fQ aH aA az 20))(KN0:pI P w K mg base "_law_kinds" ["e"] 1 (gW aH aA az)):aX P w K mg base "_law_asked" ["one","other","mine","yours","thing"] 25 ql:=
 let ⟨f,fd,F,m⟩:=s
 ⟨f,fd,Bl F R HB SB KN0,F.kp,F.binds fun _ _ _ _ _ _ us hl=>match us,hl with | [_,_,_,_,_],_=>rfl,m⟩
def Fn (b1 b2:List (Str×Int))(i1 i2:List Str)(iw:List Int)(k:Nat):Prop:=
 (k=0/\¬ cL b1 b2 i1 i2)\/(k=1/\cL b1 b2 i1 i2/\¬ oH b1 i1 iw)\/(k=3/\cL b1 b2 i1 i2/\oH b1 i1 iw)
def nM:Sp:=fun vs H Q _=>∃(v1 v2:V) (ia:Addr) (b1 b2:List (Str×Int)) (i1 i2:List Str) (n1 n2:List Nd) (iw:List Int),vs=[v1,v2,.ref ia]/\zy H v1 v2 ia b1 b2 i1 i2 n1 n2 iw /\
 ∀(k:Nat) (l:Addr) (H':Hp),Fn b1 b2 i1 i2 iw k->H l=none->ag H H'->H' l=some (.lst ((kb k).map V.bl))->Q (.ref l) H'
theorem jT:aD ["one","other","inputs","told","e"] ["one","other","inputs"] (ai gU):=⟨rfl,rfl,rfl,by decide +kernel,rfl,by decide +kernel,by decide +kernel⟩
theorem jn:aY gU "TwinError":=by decide +kernel
theorem jo:aY gU "_law_kinds":=by decide +kernel
theorem jq:aY gU "runs_part":=by decide +kernel
theorem yK {T aH aA az aN bf bg aR aS bA aT aU:Addr}{f:Addr}{fd:aaf}(F:dm K "_law_parted" "_law_parted" gU f fd)(R:Fp K mg T aH aA az aN bf bg aR aS bA aT aU)(RP:bQ P w K mg base "runs_part" ["one","other","inputs"] 32 (md aH aA))(KN0:pI P w K mg base "_law_kinds" ["e"] 1 (gW aH aA az)):aP P w K mg base cK 33 f fd ["one","other","inputs"] nM:=by
 have KN:=KN0.mono (show 1<=32 by decide)
 refine F.ok jT (fun vs H Q E h=>?_) (fun cdv A outer s H vs Q E hr h=>?_)
 · obtain ⟨v1,v2,ia,b1,b2,i1,i2,n1,n2,iw,rfl,_⟩:=h
   rfl
 obtain ⟨v1,v2,ia,b1,b2,i1,i2,n1,n2,iw,rfl,T0,q⟩:=h
 refine kG ⟨_,(ad7 (aeh 3 jT.nd (aen ad5))
   (ad7 (L3.Ng 4 jT.nd R.t jn (fun W pn Ex hp=>(aea (aeu (aeF hp RP hr jq (ad3 (ad4 0) (ad3 (ad4 1) (ad3 (ad4 2) ad5))))))) (fun ea=>(aea (aeh 3 jT.nd (L3.Mi KN (dn.h hr _) jo (ad3 (ad4 4) ad5))))))
   (aea (aec (ad4 3))))),?_⟩
 refine ⟨agb,fun l0 AF=>?_⟩
 obtain ⟨H1,s1,g1,zz⟩:=aJ AF (.lst [])
 rw [zz]; clear zz
 have T1:=T0.same s1
 refine ⟨_,rfl,_,rfl,_,rfl,v1,v2,ia,b1,b2,i1,i2,n1,n2,iw,rfl,T1,fun gp gi u H3 s3=>?_,fun gp gi H3 s3=>?_,fun gp H3 s3=>?_⟩
 · exact ⟨_,rfl,q 3 l0 _ (.inr (.inr ⟨rfl,gp,gi⟩)) AF (aa s1 s3) (s3 _ _ g1)⟩
 · refine ⟨_,_,_,rfl,R.x_NoWorths,(by simp),fun ea Ay=>⟨_,rfl,ea,_,1,rfl,ae,.inr (.inl ⟨rfl,rfl⟩),fun l H5 hl s5 g5=>⟨_,rfl,?_⟩⟩⟩
   have BY:=aa s1 (aa s3 (af Ay (zq ea aA)))
   exact q 1 l H5 (.inr (.inl ⟨rfl,gp,gi⟩)) (aq BY hl) (aa BY s5) g5
 · refine ⟨_,_,_,rfl,R.x_NoPair,(by simp),fun ea Ay=>⟨_,rfl,ea,_,0,rfl,ae,.inl ⟨rfl,rfl⟩,fun l H5 hl s5 g5=>⟨_,rfl,?_⟩⟩⟩
   have BY:=aa s1 (aa s3 (af Ay (zq ea aH)))
   exact q 0 l H5 (.inl ⟨rfl,gp⟩) (aq BY hl) (aa BY s5) g5
theorem uk {T aH aA az aN bf bg aR aS bA aT aU:Addr}(s:Src K mg "_law_parted" gU)(R:Fp K mg T aH aA az aN bf bg aR aS bA aT aU)(RP:bQ P w K mg base "runs_part" ["one","other","inputs"] 32 (md aH aA))(KN0:pI P w K mg base "_law_kinds" ["e"] 1 (gW aH aA az)):aX P w K mg base "_law_parted" ["one","other","inputs"] 33 nM:=
 let ⟨f,fd,F,m⟩:=s
 ⟨f,fd,yK F R RP KN0,F.kp,F.binds fun _ _ _ _ _ _ us hl=>match us,hl with | [_,_,_],_=>rfl,m⟩
abbrev E6:Stmt:=top 59
abbrev B5:Stmt:=top 60
abbrev vj:Stmt:=top 58
abbrev JD:Stmt:=top 61
theorem MT:aD ["program"] ["program"] (ai E6):=⟨rfl,rfl,rfl,by decide +kernel,rfl,by decide +kernel,by decide +kernel⟩
theorem Iy {f:Addr}{fd:aaf}(F:dm K "_law_sizes" "_law_sizes" E6 f fd):aP P w K mg base cK 1 f fd ["program"] dS:=by
 refine F.ok MT (fun vs H Q E h=>?_) (fun cdv A outer s H vs Q E hr h=>?_)
 · obtain ⟨v,bs,rfl,_⟩:=h
   rfl
 obtain ⟨v,bs,rfl,⟨p,B,I,N,vb,rfl,hp,hB,pb⟩,Hm,q⟩:=h
 refine ⟨_,aez (aea (aec (aeB [none,none] ["name","size"] (show aE _ (ai E6) from ⟨rfl,by decide +kernel,by decide +kernel,by decide +kernel⟩) (by rfl) (aeA (ad8 aei (ad4 0) ad6)) (fun _ _ _ _ _=>⟨(aes 2 (aej (aee 0 (show (["name","size"]:List Str).Nodup from by decide +kernel)) (aej (aee 1 (show (["name","size"]:List Str).Nodup from by decide +kernel)) aet))),aev,(ad4 1)⟩)))),?_⟩
 have kX:vb.length=bs.length:=Paired.length pb
 refine ⟨_,rfl,p,_,_,_,rfl,rfl,aK.of hp,rfl,B,rfl,⟨_,ao.of hB⟩,fun na jv=>?_⟩
 have Ic:B≠na:=ah hB jv
 refine bj (xs:=vb) (fun i H2=>H2=upd H na (.lst ((bs.take i).map fun b=>V.int b.2))) rfl (fun i H2 _ e=>?_) (fun i x H2 hx e=>?_) (fun H2 e=>?_)
 · subst e
   exact ao.of (by rw [aj Ic]; exact hB)
 · subst e
   obtain ⟨b,fP,p,rfl,hp⟩:=Paired.get pb hx
   have dP:i < vb.length:=(List.getElem?_eq_some_iff.mp hx).1
   refine ⟨p,_,rfl,aK.of (by rw [aj (ah hp jv)]; exact hp),rfl,_,_,rfl,_,_,rfl,rfl,?_⟩
   refine bU (A:=fun H3=>de (Cv 1) na _ H3 _) ⟨_,rfl,_,ae,aB (by rw [ZX,aak]; omega),aL (Pv:=fun i H2=>H2=upd H na (.lst ((bs.take i).map fun b=>V.int b.2))) (by repeat' constructor) dP ?_⟩
   rw [bS]
   congr 2
   rw [Z9,fP,Z5]
   rfl
 · subst e
   have et:(bs.take vb.length).map (fun b=>V.int b.2)=(bs.map (·.2)).map V.int:=by rw [kX,aao,aa9]; rfl
   rw [et]
   exact q na jv
theorem DC (s:Src K mg "_law_sizes" E6)  : aX P w K mg base "_law_sizes" ["program"] 1 dS:=
 let ⟨f,fd,F,m⟩:=s
 ⟨f,fd,Iy F ,F.kp,F.binds fun _ _ _ _ _ _ us hl=>match us,hl with | [_],_=>rfl,m⟩
def cI (bs:List (Str×Int))(ins:List Str):List (Str×Int):=ins.map fun x=>(x,cj bs x)
def xi:Sp:=fun vs H Q _=>∃(v:V) (bs:List (Str×Int)) (ins:List Str) (nds:List Nd),vs=[v]/\bD H v bs ins nds/\Fits bs ins/\∀(l:Addr) (vl:List V) (H':Hp),H l=none->ag H H'->H' l=some (.lst vl)->Paired (bG H') vl (cI bs ins)->Q (.ref l) H'
theorem Gn:aD ["program","sizes"] ["program"] (ai B5):=⟨rfl,rfl,rfl,by decide +kernel,rfl,by decide +kernel,by decide +kernel⟩
theorem xO:aY B5 "dict":=by decide +kernel
theorem Iw {f:Addr}{fd:aaf}(F:dm K "_law_input_sizes" "_law_input_sizes" B5 f fd)(m_dict:mg "dict"=none):aP P w K mg base cK 1 f fd ["program"] xi:=by
 refine F.ok Gn (fun vs H Q E h=>?_) (fun cdv A outer s H vs Q E hr h=>?_)
 · obtain ⟨v,bs,ins,nds,rfl,_⟩:=h
   rfl
 obtain ⟨v,bs,ins,nds,rfl,pa,ft,q⟩:=h
 refine kG ⟨_,(ad7 (aeh 1 Gn.nd (aew L3.zL xO m_dict (by decide +kernel) (ad3 (ad8 aei (ad4 0) ad6) ad5)))
   (aea (aec (aeB [none,some 1] ["name","sizes"] (show aE _ (ai B5) from ⟨rfl,by decide +kernel,by decide +kernel,by decide +kernel⟩) (by rfl) (aeA (ad8 aei (ad4 0) ad6)) (fun _ _ _ _ _=>⟨(aee 0 (show (["name","sizes"]:List Str).Nodup from by decide +kernel)),aev,(aed (ad3 (ad4 0) (ad3 (aeZ (bP hr _ (by decide)) (ad4 1) (ad4 0)) ad5)))⟩))))),?_⟩
 obtain ⟨p,B,I,N,vb,vn,rfl,hp,hB,hI,hN,pb,pn⟩:=pa
 have ilen:=ft.ilen
 refine ⟨_,rfl,p,_,_,_,rfl,rfl,aK.of hp,rfl,B,vb,yw bs,rfl,hB,ny pb,fun D hD=>?_⟩
 have s1:=af hD (.dK (putAll [] (yw bs)))
 have eD:(upd H D (.dK (putAll [] (yw bs)))) D=some (.dK (putAll [] (yw bs))):=ae
 generalize upd H D (.dK (putAll [] (yw bs)))=H2 at s1 eD ⊢
 have Hk:=s1 _ _ hI
 refine ⟨_,rfl,p,_,_,_,rfl,rfl,aK.of (s1 _ _ hp),rfl,I,rfl,⟨_,ao.of Hk⟩,fun l hl=>?_⟩
 refine bj (xs:=ins.map V.str) (fun i H3=>ag H2 H3/\∃vl,H3 l=some (.lst vl)/\Paired (bG H3) vl ((cI bs ins).take i)) ⟨af hl _,[],ae,.nil⟩ (fun i H3 _ z=>ao.of (z.1 _ _ Hk)) (fun i x0 H3 hx z=>?_) (fun H3 z=>?_)
 · obtain ⟨z,vl,kH,pr⟩:=z
   have dP:=(List.getElem?_eq_some_iff.mp hx).1
   obtain ⟨x,LP,rfl⟩:=df hx
   have hv:=fA bs (bs.map (·.2)) [] x (by rw [ZX]) ft.nd (ft.sub x (aab LP))
   have g:=fM.k (k:=.inr x) (z _ _ eD)
   rw [show bE (putAll [] (yw bs)) (.inr x)=some (.int (cj bs x)) from hv] at g
   have JV:vl.length<=900:=by rw [Paired.length pr,aak]; unfold cI; rw [ZX]; omega
   refine bo ?_
   refine bU (A:=fun H4=>de _ l _ H4 _) ?_
   refine ⟨_,rfl,_,rfl,_,rfl,D,_,rfl,g,agd,fun tp uG=>?_⟩
   obtain ⟨H4,s4,g4,zz⟩:=aJ uG (.tup [.str x,.int (cj bs x)])
   rw [zz]; clear zz
   have DL:=s4 _ _ kH
   have tk:=TK.lst DL (o:=.lst (vl++[.ref tp]))
   refine ⟨_,DL,aB (by omega),aL (Pv:=fun i H3=>ag H2 H3/\∃vl,H3 l=some (.lst vl)/\Paired (bG H3) vl ((cI bs ins).take i)) (by repeat' constructor) dP ⟨aG (aa z s4) hl,_,ae,?_⟩⟩
   rw [Z9,show (cI bs ins)[i]? = some (x,cj bs x) by unfold cI; rw [aaq,LP]; rfl]
   exact Paired.snoc (Paired.aZ pr fun _ _ z=>Tp.keep ((ag.tk s4).trans tk) z) (Tp.keep tk ⟨tp,rfl,g4⟩)
 · obtain ⟨z,vl,kH,pr⟩:=z
   have et:(cI bs ins).take (ins.map V.str).length=cI bs ins:=by rw [ZX,show ins.length=(cI bs ins).length by unfold cI; rw [ZX],aao]
   rw [et] at pr
   exact q l vl H3 (aq s1 hl) (aa s1 z) kH pr
theorem DA (s:Src K mg "_law_input_sizes" B5)(m_dict:mg "dict"=none):aX P w K mg base "_law_input_sizes" ["program"] 1 xi:=
 let ⟨f,fd,F,m⟩:=s
 ⟨f,fd,Iw F m_dict,F.kp,F.binds fun _ _ _ _ _ _ us hl=>match us,hl with | [_],_=>rfl,m⟩
def xb:Sp:=fun vs H Q _=>∃(wa sa:Addr) (ws szs:List Int),vs=[.ref wa,.ref sa]/\H wa=some (.lst (ws.map V.int))/\H sa=some (.lst (szs.map V.int))/\szs.length<=900/\∀(b:Bool) (H':Hp),(b=true↔Paired Within szs ws)->ag H H'->Q (.bl b) H'
def kS (ws szs:List Int)(k:Nat):Bool:=decide (0<=ws.getD k 0) && decide (ws.getD k 0 < szs.getD k 0)
theorem k9:∀{szs ws:List Int},szs.length=ws.length->(((aaA szs.length).map (kS ws szs)).all id=true↔Paired Within szs ws)
 | [],[],_=>⟨fun _=>.nil,fun _=>rfl⟩
 | s :: szs,w :: ws,h=>by
   have ih:=k9 (szs:=szs) (ws:=ws) (by simpa using h)
   have e:((aaA (s :: szs).length).map (kS (w :: ws) (s :: szs))).all id=(kS (w :: ws) (s :: szs) 0 && ((aaA szs.length).map (kS ws szs)).all id):=by
     rw [aam,adF,aaw,acS,aa9]
     rfl
   rw [e,aaN,ih]
   have e0:kS (w :: ws) (s :: szs) 0=true↔Within s w:=by
     show (decide (0<=w) && decide (w < s))=true↔_
     rw [aaN,decide_eq_true_iff,decide_eq_true_iff]
     exact Iff.rfl
   rw [e0]
   exact ⟨fun z=>.cons z.1 z.2,fun z=>by cases z with | cons a b=>exact ⟨a,b⟩⟩
theorem MQ:aD ["worths","sizes"] ["worths","sizes"] (ai vj):=⟨rfl,rfl,rfl,by decide +kernel,rfl,by decide +kernel,by decide +kernel⟩
theorem Aa:aY vj "all":=by decide +kernel
theorem mE:aY vj "len":=by decide +kernel
theorem t5:aY vj "range":=by decide +kernel
theorem Ip {f:Addr}{fd:aaf}(F:dm K "_law_are" "_law_are" vj f fd)(m_len:mg "len"=none)(m_all:mg "all"=none)(m_range:mg "range"=none):aP P w K mg base cK 1 f fd ["worths","sizes"] xb:=by
 refine F.ok MQ (fun vs H Q E h=>?_) (fun cdv A outer s H vs Q E hr h=>?_)
 · obtain ⟨wa,sa,ws,szs,rfl,_⟩:=h
   rfl
 obtain ⟨wa,sa,ws,szs,rfl,hw,hs,h9,q⟩:=h
 refine kG ⟨_,(ad7 (ael (aek L3.yG (aep aer mE m_len aad (ad3 (ad4 0) ad5)) (aep aer mE m_len aad (ad3 (ad4 1) ad5))) (aea (aec aex)) aem)
   (aea (aec (aep L3.Ft Aa m_all (by decide +kernel) (ad3 (aeB [none,some 0,some 1] ["k","worths","sizes"] (show aE _ (ai vj) from ⟨rfl,by decide +kernel,by decide +kernel,by decide +kernel⟩) (by rfl) (aeV t5 m_range (ad3 (aep aer mE m_len aad (ad3 (ad4 1) ad5)) ad5)) (fun _ _ _ _ _=>⟨(aee 0 (show (["k","worths","sizes"]:List Str).Nodup from by decide +kernel)),aev,(L3.G0 L3.Q1 aeC ad6 (ad8 aeg (ad4 1) (ad4 0)) (ad8 aeg (ad4 2) (ad4 0)))⟩)) ad5))))),?_⟩
 refine ⟨_,rfl,wa,_,rfl,.inl (ao.of hw),_,rfl,sa,_,rfl,.inl (ao.of hs),rfl,_,rfl,?_⟩
 rw [ZX,ZX]
 refine aF (fun c=>?_) (fun c=>?_)
 · exact q false _ ⟨fun z=>(nomatch z),fun z=>absurd (Paired.length z) (fun e=>by rw [e,decide_eq_true rfl] at c; cases c)⟩ (same_refl _)
 have hl:szs.length=ws.length:=by
   by_cases z:szs.length=ws.length
   · exact z
   · exact absurd (by rw [decide_eq_false (fun y=>z (by injection y with y; omega))]; rfl) c
 refine ⟨_,rfl,sa,_,rfl,.inl (ao.of hs),_,rfl,by rw [ZX]; omega,by rw [ZX]; omega,fun l AF=>?_⟩
 rw [ZX,aaT]
 refine dZ (lo:=0) (n:=szs.length) (fun i H2=>ag H H2/\H2 l=some (.lst (((aaA i).map (kS ws szs)).map V.bl))) ⟨af AF _,ae⟩ (fun i H2 hi z=>?_) (fun H2 z=>?_)
 · obtain ⟨z,hl2⟩:=z
   obtain ⟨w0,Ki⟩ : ∃w0,ws[i]? = some w0:=⟨_,ZZ (by omega)⟩
   obtain ⟨s0,NY⟩ : ∃s0,szs[i]? = some s0:=⟨_,ZZ hi⟩
   have aw:lQ (ws.map V.int) (0 + (i:Int))=some (.int w0):=by rw [ac5]; exact gN (by rw [aaq,Ki]; rfl)
   have U8:lQ (szs.map V.int) (0 + (i:Int))=some (.int s0):=by rw [ac5]; exact gN (by rw [aaq,NY]; rfl)
   have ew:kS ws szs i=(decide (0<=w0) && decide (w0 < s0)):=by
     unfold kS
     rw [aan,aan,Ki,NY]
     rfl
   have e1:((aaA (i + 1)).map (kS ws szs)).map V.bl=((aaA i).map (kS ws szs)).map V.bl++[.bl (kS ws szs i)]:=by rw [List.range_succ,Z5,Z5]; rfl
   refine bo ?_
   refine bU (A:=fun H4=>de _ l _ H4 _) ?_
   refine ⟨_,rfl,_,rfl,wa,_,_,_,rfl,rfl,ao.of (z _ _ hw),aw,_,_,rfl,rfl,_,rfl,?_⟩
   refine aF (fun c=>?_) (fun c=>?_)
   · have c':(0:Int)<=w0:=of_decide_eq_true c
     refine ⟨_,rfl,_,rfl,sa,_,_,_,rfl,rfl,ao.of (z _ _ hs),U8,_,_,rfl,rfl,_,hl2,aB (by rw [ZX,ZX,abv]; omega),aL (Pv:=(fun i H2=>ag H H2/\H2 l=some (.lst (((aaA i).map (kS ws szs)).map V.bl)))) (by repeat' constructor) hi ⟨aG z AF,?_⟩⟩
     rw [ae,e1,ew,decide_eq_true c',Bool.true_and]
   · have c':¬ (0:Int)<=w0:=fun y=>c (decide_eq_true y)
     refine ⟨_,hl2,aB (by rw [ZX,ZX,abv]; omega),aL (Pv:=(fun i H2=>ag H H2/\H2 l=some (.lst (((aaA i).map (kS ws szs)).map V.bl)))) (by repeat' constructor) hi ⟨aG z AF,?_⟩⟩
     rw [ae,e1,ew,decide_eq_false c',adt]
 · obtain ⟨z,hl2⟩:=z
   exact ⟨l,_,rfl,ao.of hl2,q _ _ (k9 hl) z⟩
theorem Dv (s:Src K mg "_law_are" vj)(m_len:mg "len"=none)(m_all:mg "all"=none)(m_range:mg "range"=none):aX P w K mg base "_law_are" ["worths","sizes"] 1 xb:=
 let ⟨f,fd,F,m⟩:=s
 ⟨f,fd,Ip F m_len m_all m_range,F.kp,F.binds fun _ _ _ _ _ _ us hl=>match us,hl with | [_,_],_=>rfl,m⟩
def oj (p f s b:Bool):Nat:=if p=false then 0 else if f=false\/s=false then 1 else if b=false then 2 else 3
def xg:Sp:=fun vs H Q _=>∃(p f s b:Bool),vs=[.bl p,.bl f,.bl s,.bl b]/\∀(l:Addr),H l=none->Q (.ref l) (upd H l (.lst ((kb (oj p f s b)).map V.bl)))
theorem MS:aD ["pair","first","second","boxes"] ["pair","first","second","boxes"] (ai JD):=⟨rfl,rfl,rfl,by decide +kernel,rfl,by decide +kernel,by decide +kernel⟩
theorem Ir {f:Addr}{fd:aaf}(F:dm K "_law_due" "_law_due" JD f fd):aP P w K mg base cK 1 f fd ["pair","first","second","boxes"] xg:=by
 refine F.ok MS (fun vs H Q E h=>?_) (fun cdv A outer s H vs Q E hr h=>?_)
 · obtain ⟨p,f1,s1,b,rfl,_⟩:=h
   rfl
 obtain ⟨p,f1,s1,b,rfl,q⟩:=h
 refine kG ⟨_,(ad7 (ael (L3.nt (aeP (ad4 0))) (aea (aec (aen (ad3 aex (ad3 aex (ad3 aex (ad3 aex (ad3 aex ad5)))))))) aem)
   (ad7 (ael (aeL (aeQ (L3.nt (aeP (ad4 1))) (aeR (L3.nt (aeP (ad4 2)))))) (aea (aec (aen (ad3 aex (ad3 aex (ad3 aex (ad3 aex (ad3 aex ad5)))))))) aem)
   (ad7 (ael (L3.nt (aeP (ad4 3))) (aea (aec (aen (ad3 aex (ad3 aex (ad3 aex (ad3 aex (ad3 aex ad5)))))))) aem)
   (aea (aec (aen ad5)))))),?_⟩
 cases p with
 | false=>exact ⟨_,rfl,_,rfl,fR ⟨agg,fun l hl=>q l hl⟩⟩
 | true=>
   refine ⟨_,rfl,_,rfl,iW ?_⟩
   cases f1 with
   | false=>exact ⟨_,rfl,_,rfl,fR (fR ⟨agg,fun l hl=>q l hl⟩)⟩
   | true=>
     refine ⟨_,rfl,_,rfl,iW ?_⟩
     cases s1 with
     | false=>exact ⟨_,rfl,_,rfl,fR ⟨agg,fun l hl=>q l hl⟩⟩
     | true=>
       refine ⟨_,rfl,_,rfl,iW ?_⟩
       cases b with
       | false=>exact ⟨_,rfl,_,rfl,fR ⟨agg,fun l hl=>q l hl⟩⟩
       | true=>exact ⟨_,rfl,_,rfl,iW ⟨agb,fun l hl=>q l hl⟩⟩
theorem Dx (s:Src K mg "_law_due" JD)  : aX P w K mg base "_law_due" ["pair","first","second","boxes"] 1 xg:=
 let ⟨f,fd,F,m⟩:=s
 ⟨f,fd,Ir F ,F.kp,F.binds fun _ _ _ _ _ _ us hl=>match us,hl with | [_,_,_,_],_=>rfl,m⟩
abbrev kN:Stmt:=top 57
theorem b7 {F:L2.St->Hp->Prop}{σ:L2.St}{H:Hp}(σ':L2.St)(e:σ=σ')(h:F σ' H):F σ H:=by subst e; exact h
structure U6 (H:Hp)(r sa:Addr)(row szs:List Int)(far:Int)(n:Nat):Prop where
 hr:H r=some (.lst (row.map V.int))
 R:Row (2 ^ 30) row n
 n3:3<=n
 hs:H sa=some (.lst (szs.map V.int))
 sl:szs.length<=100
 sz:∀z∈szs,1<=z/\z < 1000
 f0:0<=far
 f1:far < 100000000000000000000
def mf:Sp:=fun vs H Q _=>∃(r sa:Addr) (row szs:List Int) (far:Int) (n:Nat),vs=[.ref r,.ref sa,.int far]/\U6 H r sa row szs far n/\∀(l:Addr) (ws:List Int) (H':Hp),H l=none->ag H H'->H' l=some (.lst (ws.map V.int))->zA ws->Q (.ref l) H'
theorem Di {z:Int}(h0 : -200000000000000000000<=z)(h1:z<=200000000000000000000):z.natAbs < 2 ^ 1900:=by
 have h:z.natAbs<=200000000000000000000:=by omega
 exact abJ h (aah (show 200000000000000000000 < 2 ^ 100 by decide) (abA (by decide) (by decide)))
def J3 (z:Int):Prop:=-200000000000000000000<=z/\z<=200000000000000000000
theorem je {ws:List Int}(hl:ws.length<=900)(h:∀z∈ws,J3 z):zA ws:=⟨hl,fun z hz=>Di (h z hz).1 (h z hz).2⟩
theorem l7:aD ["row","sizes","far","worths","at","bad"] ["row","sizes","far"] (ai kN):=⟨rfl,rfl,rfl,by decide +kernel,rfl,by decide +kernel,by decide +kernel⟩
theorem uf:aY kN "int":=by decide +kernel
theorem mX:aY kN "len":=by decide +kernel
theorem Bx {f:Addr}{fd:aaf}(F:dm K "_law_wrong" "_law_wrong" kN f fd)(m_len:mg "len"=none)(m_int:mg "int"=none):aP P w K mg base cK 1 f fd ["row","sizes","far"] mf:=by
 refine F.ok l7 (fun vs H Q E h=>?_) (fun cdv A outer s H vs Q E hr h=>?_)
 · obtain ⟨r,sa,row,szs,far,n,rfl,_⟩:=h
   rfl
 obtain ⟨r,sa,row,szs,far,n,rfl,T,q⟩:=h
 have sl:=T.sl
 have f0:=T.f0
 have f1:=T.f1
 have n3:=T.n3
 obtain ⟨x0,a0,JW,Kt⟩:=T.R.at (i:=0) (by decide) (by omega)
 obtain ⟨x1,a1,Ku,Kv⟩:=T.R.at (i:=1) (by decide) (by omega)
 obtain ⟨x2,a2,Oq,Ot⟩:=T.R.at (i:=2) (by decide) (by omega)
 refine kG ⟨_,(ad7 (aeW (i:=3) [none,some 0] ["size","row"] (show aE _ (ai kN) from ⟨rfl,by decide +kernel,by decide +kernel,by decide +kernel⟩) (by rfl) (aeA (ad4 1)) (fun _ _ _ _ _=>⟨(aee 0 (show (["size","row"]:List Str).Nodup from by decide +kernel)),aev,(ad9 aeo (ad9 aeG (ad8 aeg (ad4 1) ad6) ad6) (ad4 0))⟩) l7.nd)
   (ad7 (aeh 4 l7.nd (ad9 aeo (ad8 aeg (ad4 0) ad6) (ad9 aey (aep aer mX m_len aad (ad3 (ad4 3) ad5)) ad6)))
   (ad7 (aeh 5 l7.nd (ad8 aeg (ad9 aeH (aen (ad3 (ad9 aeU (L3.neg ad6) (ad4 2)) (ad3 (ad9 aey ad6 (ad4 2)) (ad3 (L3.neg ad6) ad5)))) (ad9 L3.wH (L3.Cg (ad4 1) (ad4 4) (ad9 aey (ad4 4) ad6)) ad6)) (ad9 aeo (ad8 aeg (ad4 0) ad6) (ad9 aey ad6 (ad9 aeD ad6 (aew aeY uf m_int (by decide +kernel) (ad3 (aeE aeC (ad4 4) (aep aer mX m_len aad (ad3 (ad4 1) ad5))) ad5)))))))
   (ad7 (ael (aek aeq (ad9 aeo (ad8 aeg (ad4 0) ad6) ad6) ad6) (aea (aec (ad9 aeH (ad9 aeH (aeX (ad4 3) (ad4 4)) (aen (ad3 ad6 ad5))) (aeM (ad4 3) (ad4 4))))) aem)
   (ad7 (ael (aek aeq (ad9 aeo (ad8 aeg (ad4 0) ad6) ad6) ad6) (aea (aec (ad9 aeH (aeX (ad4 3) (ad4 4)) (aeM (ad4 3) (ad9 aey (ad4 4) ad6))))) aem)
   (ad7 (ael (aek aeq (ad9 aeo (ad8 aeg (ad4 0) ad6) ad6) ad6) (aea (aec (ad9 aeH (ad9 aeH (aeX (ad4 3) (ad4 4)) (aen (ad3 (ad4 5) ad5))) (aeM (ad4 3) (ad9 aey (ad4 4) ad6))))) aem)
   (aea (aec (ad4 3))))))))),?_⟩
 refine ⟨_,rfl,sa,rfl,⟨_,ao.of T.hs⟩,fun l hl=>?_⟩
 refine bj (xs:=szs.map V.int) (fun i H2=>ag H H2/\∃ws:List Int,H2 l=some (.lst (ws.map V.int))/\ws.length=i/\∀z∈ws,J3 z) ⟨af hl _,[],ae,rfl,fun z hz=>nomatch hz⟩ (fun i H2 _ z=>ao.of (z.1 _ _ T.hs)) (fun i x H2 hx z=>?_) (fun H2 z=>?_)
 · obtain ⟨z,ws,hl2,wl,wm⟩:=z
   have dP:=(List.getElem?_eq_some_iff.mp hx).1
   obtain ⟨s0,NY,rfl⟩:=df hx
   have hz:=T.sz s0 (aab NY)
   rw [ZX] at dP
   refine bo ?_
   refine bU (A:=fun H4=>de _ l _ H4 _) ?_
   refine ⟨_,rfl,r,_,_,_,rfl,rfl,ao.of (z _ _ T.hr),a0,_,_,rfl,rfl,(by exact ⟨by decide,by decide⟩),_,rfl,_,_,rfl,rfl,(by show (0:Int) < s0; omega),_,hl2,aB (by rw [ZX]; omega),aL (Pv:=fun i H2=>ag H H2/\∃ws:List Int,H2 l=some (.lst (ws.map V.int))/\ws.length=i/\∀z∈ws,J3 z) (by repeat' constructor) (by rw [ZX]; exact dP) ⟨aG z hl,ws++[x0 / 4 % s0],by rw [ae,Z5]; rfl,by rw [Z0,wl]; rfl,fun y hy=>?_⟩⟩
   rcases List.mem_append.mp hy with hy | hy
   · exact wm y hy
   · rw [List.mem_singleton.mp hy]
     have h1:=aaj (x0 / 4) (show s0≠0 by omega)
     have h2:=aac (x0 / 4) (show 0 < s0 by omega)
     exact ⟨by omega,by omega⟩
 obtain ⟨s1,ws,hl2,wl,wm⟩:=z
 rw [ZX] at wl
 refine ⟨_,rfl,r,_,_,_,rfl,rfl,ao.of (s1 _ _ T.hr),a1,_,rfl,l,_,rfl,.inl (ao.of hl2),_,_,rfl,rfl,_,_,rfl,rfl,(by rw [ZX]; show (0:Int) < (ws.length:Int) + 1; omega),?_⟩
 rw [ZX]
 obtain ⟨at_,nZ⟩ : ∃at_,at_=x1 % ((ws.length:Int) + 1):=⟨_,rfl⟩
 have Sj:0<=at_:=by rw [nZ]; exact aaj _ (by omega)
 have tP:at_ < (ws.length:Int) + 1:=by rw [nZ]; exact aac _ (by omega)
 refine bo ?_
 refine b7 [some (.ref r),some (.ref sa),some (.int far),some (.ref l),some (.int at_),none] (by subst nZ; rfl) ?_
 clear nZ
 obtain ⟨k,rfl⟩ : ∃k:Nat,at_=(k:Int):=⟨at_.toNat,by omega⟩
 refine ⟨_,rfl,_,rfl,_,_,rfl,rfl,_,rfl,_,_,rfl,rfl,_,rfl,age,fun l1 hl1=>?_⟩
 obtain ⟨H3,s2,g2,zz⟩:=aJ hl1 (.lst [.int (-1 - far),.int (6 + far),.int (-1)])
 rw [zz]; clear zz
 refine ⟨_,rfl,_,rfl,_,rfl,_,rfl,_,_,rfl,rfl,_,rfl,sa,_,rfl,ao.of (s2 _ _ (s1 _ _ T.hs)),fun p2 cb=>?_⟩
 rw [bq]
 obtain ⟨H4,s3,g3,zz⟩:=aJ cb (.lst ((br szs (some (k:Int)) (some ((k:Int) + 1))).map V.int))
 rw [zz]; clear zz
 have cl:(br szs (some (k:Int)) (some ((k:Int) + 1))).length<=1:=by have:=qW szs k (k + 1); rw [show (((k + 1:Nat):Int))=(k:Int) + 1 by omega] at this; omega
 refine ⟨p2,3,_,rfl,rfl,g3,(by decide),(by decide),Z8 (show _<=3 by rw [ZX]; show _ * 3<=3; omega) (by decide),fun p3 lK=>?_⟩
 have ef:(aar (3:Int).toNat ((br szs (some (k:Int)) (some ((k:Int) + 1))).map V.int)).flatten=((aar 3 (br szs (some (k:Int)) (some ((k:Int) + 1)))).flatten).map V.int:=by
   show (aar 3 _).flatten=_
   rw [List.map_flatten,List.map_replicate]
 rw [ef]
 have fl:((aar 3 (br szs (some (k:Int)) (some ((k:Int) + 1)))).flatten).length=3 * (br szs (some (k:Int)) (some ((k:Int) + 1))).length:=L2.len_rep _ 3
 have fm:∀z∈(aar 3 (br szs (some (k:Int)) (some ((k:Int) + 1)))).flatten,J3 z:=fun z hz=>by
   obtain ⟨xs,XN,hz⟩:=List.mem_flatten.mp hz
   rw [(List.mem_replicate.mp XN).2] at hz
   have:=T.sz z ((d4 _ _ _).subset hz)
   exact ⟨by omega,by omega⟩
 have Vh:(k:Int) < (szs.length:Int)->(br szs (some (k:Int)) (some ((k:Int) + 1))).length=1:=fun h=>by
   have e:=qY szs k (k + 1) (by omega) (by omega)
   rw [show (((k + 1:Nat):Int))=(k:Int) + 1 by omega] at e
   rw [e,aak,aa7]
   omega
 generalize (aar 3 (br szs (some (k:Int)) (some ((k:Int) + 1)))).flatten=ex at fl fm ⊢
 obtain ⟨H5,s4,g4,zz⟩:=aJ lK (.lst (ex.map V.int))
 rw [zz]; clear zz
 refine ⟨l1,p3,_,_,rfl,rfl,s4 _ _ (s3 _ _ g2),g4,Z8 (show _<=6 by rw [ZX,fl]; show 3 + _<=6; omega) (by decide),fun p4 tE=>?_⟩
 have ec:([.int (-1 - far),.int (6 + far),.int (-1)]:List V)++ex.map V.int=([-1 - far,6 + far,-1]++ex).map V.int:=by rw [Z5]; rfl
 obtain ⟨H6,s5,g5,zz⟩:=aJ tE (.lst ([.int (-1 - far),.int (6 + far),.int (-1)]++ex.map V.int))
 rw [zz]; clear zz
 have s15:=aa s1 (aa s2 (aa s3 (aa s4 s5)))
 have bm:∀z∈([-1 - far,6 + far,-1]++ex:List Int),J3 z:=fun z hz=>by
   rcases List.mem_append.mp hz with hz | hz
   · rcases List.mem_cons.mp hz with rfl | hz
     · exact ⟨by omega,by omega⟩
     rcases List.mem_cons.mp hz with rfl | hz
     · exact ⟨by omega,by omega⟩
     rw [List.mem_singleton.mp hz]
     exact ⟨by decide,by decide⟩
   · exact fm z hz
 refine ⟨_,rfl,r,_,_,_,rfl,rfl,ao.of (s15 _ _ T.hr),a2,_,rfl,_,rfl,sa,_,rfl,.inl (ao.of (s15 _ _ T.hs)),_,_,rfl,rfl,.inr ⟨_,rfl,_,_,rfl,rfl,.inl ⟨by decide,by decide⟩,_,_,rfl,rfl,_,_,rfl,rfl,?_,?_⟩⟩
 · split <;> decide
 obtain ⟨ix,hix⟩ : ∃ix,ix=x2 % (3 + 3 * (if decide ((k:Int) < ((szs.map V.int).length:Int))=true then 1 else 0)):=⟨_,rfl⟩
 have QD:0<=ix/\ix < (([-1 - far,6 + far,-1]++ex:List Int).length:Int):=by
   rw [hix,Z0,fl]
   rw [ZX]
   by_cases c:(k:Int) < (szs.length:Int)
   · rw [decide_eq_true c,if_pos rfl,Vh c]
     exact ⟨aaj _ (by decide),aac _ (by decide)⟩
   · rw [decide_eq_false c,if_neg (by decide)]
     have h1:=aaj x2 (show (3:Int) + 3 * 0≠0 by decide)
     have h2:=aac x2 (show (0:Int) < 3 + 3 * 0 by decide)
     refine ⟨h1,?_⟩
     show _ < (((3:Nat) + _:Nat):Int)
     omega
 obtain ⟨bad,_,Pd,O7⟩:=cF V.int ([-1 - far,6 + far,-1]++ex) (r:=ix) QD.1 QD.2
 refine ⟨p4,_,ix,_,rfl,(by subst hix; rfl),ao.of (by rw [g5,ec]),O7,?_⟩
 have mb:=bm bad Pd
 clear hix QD
 refine bo ?_
 refine b7 [some (.ref r),some (.ref sa),some (.int far),some (.ref l),some (.int (k:Int)),some (.int bad)] rfl ?_
 have ML:ag H2 H6:=aa s2 (aa s3 (aa s4 s5))
 have yi:=ML _ _ hl2
 have B4:ag H H6:=s15
 have cm:∀lo hi,∀z∈br ws lo hi,J3 z:=fun lo hi z hz=>wm z ((d4 _ _ _).subset hz)
 have cn:∀lo hi,(br ws lo hi).length<=100:=fun lo hi=>Z8 (qX _ _ _) (by omega)
 refine ⟨_,rfl,r,_,_,_,rfl,rfl,ao.of (s15 _ _ T.hr),a0,_,_,rfl,rfl,(by show (0:Int) < 4; decide),rfl,_,rfl,?_⟩
 refine aF (fun _=>?_) (fun _=>?_)
 · refine ⟨_,rfl,_,rfl,_,rfl,l,_,rfl,ao.of yi,fun p5 qD=>?_⟩
   rw [bq]
   obtain ⟨H7,s6,g6,zz⟩:=aJ qD (.lst ((br ws none (some (k:Int))).map V.int))
   rw [zz]; clear zz
   refine ⟨agc,fun p6 uC=>?_⟩
   obtain ⟨H8,s7,g7,zz⟩:=aJ uC (.lst [.int 0])
   rw [zz]; clear zz
   refine ⟨p5,p6,_,_,rfl,rfl,s7 _ _ g6,g7,Z8 (show _<=1000 by simp only [Z0,ZX,aam,aaU]; have:=cn none (some (k:Int)); have:=cn (some (k:Int)) none; have:=cn (some ((k:Int) + 1)) none; omega) (by decide),fun p7 Hy=>?_⟩
   obtain ⟨H9,s8,g8,zz⟩:=aJ Hy (.lst ((br ws none (some (k:Int))).map V.int++[.int 0]))
   rw [zz]; clear zz
   have s69:=aa s6 (aa s7 s8)
   refine ⟨_,rfl,_,rfl,_,rfl,l,_,rfl,ao.of (s69 _ _ yi),fun p8 LA=>?_⟩
   rw [bq]
   obtain ⟨GG,s9,g9,zz⟩:=aJ LA (.lst ((br ws (some ((k:Int))) none).map V.int))
   rw [zz]; clear zz
   refine ⟨p7,p8,_,_,rfl,rfl,s9 _ _ g8,g9,Z8 (show _<=1000 by simp only [Z0,ZX,aam,aaU]; have:=cn none (some (k:Int)); have:=cn (some (k:Int)) none; have:=cn (some ((k:Int) + 1)) none; omega) (by decide),fun p9 wk=>?_⟩
   have Gj:=aa B4 (aa s69 s9)
   refine q p9 ((br ws none (some (k:Int)))++[0]++(br ws (some ((k:Int))) none)) _ (aq Gj wk) (aa Gj (af wk _)) (by rw [ae,Z5,Z5]; rfl) (je (by simp only [Z0,aam,aaU]; have:=cn none (some (k:Int)); have:=cn (some ((k:Int))) none; omega) fun z hz=>?_)
   rcases List.mem_append.mp hz with hz | hz
   · rcases List.mem_append.mp hz with hz | hz
     · exact cm _ _ z hz
     · rw [List.mem_singleton.mp hz]
       exact ⟨by decide,by decide⟩
   · exact cm _ _ z hz
 refine ⟨_,rfl,r,_,_,_,rfl,rfl,ao.of (s15 _ _ T.hr),a0,_,_,rfl,rfl,(by show (0:Int) < 4; decide),rfl,_,rfl,?_⟩
 refine aF (fun _=>?_) (fun _=>?_)
 · refine ⟨_,rfl,_,rfl,_,rfl,l,_,rfl,ao.of yi,fun p5 qD=>?_⟩
   rw [bq]
   obtain ⟨H7,s6,g6,zz⟩:=aJ qD (.lst ((br ws none (some (k:Int))).map V.int))
   rw [zz]; clear zz
   have s69:=s6
   refine ⟨_,rfl,_,rfl,_,_,rfl,rfl,_,rfl,l,_,rfl,ao.of (s69 _ _ yi),fun p8 LA=>?_⟩
   rw [bq]
   obtain ⟨GG,s9,g9,zz⟩:=aJ LA (.lst ((br ws (some ((k:Int) + 1)) none).map V.int))
   rw [zz]; clear zz
   refine ⟨p5,p8,_,_,rfl,rfl,s9 _ _ g6,g9,Z8 (show _<=1000 by simp only [Z0,ZX,aam,aaU]; have:=cn none (some (k:Int)); have:=cn (some (k:Int)) none; have:=cn (some ((k:Int) + 1)) none; omega) (by decide),fun p9 wk=>?_⟩
   have Gj:=aa B4 (aa s69 s9)
   refine q p9 ((br ws none (some (k:Int)))++(br ws (some ((k:Int) + 1)) none)) _ (aq Gj wk) (aa Gj (af wk _)) (by rw [ae,Z5]) (je (by simp only [Z0,aam,aaU]; have:=cn none (some (k:Int)); have:=cn (some ((k:Int) + 1)) none; omega) fun z hz=>?_)
   rcases List.mem_append.mp hz with hz | hz
   · exact cm _ _ z hz
   · exact cm _ _ z hz
 refine ⟨_,rfl,r,_,_,_,rfl,rfl,ao.of (s15 _ _ T.hr),a0,_,_,rfl,rfl,(by show (0:Int) < 4; decide),rfl,_,rfl,?_⟩
 refine aF (fun _=>?_) (fun _=>?_)
 · refine ⟨_,rfl,_,rfl,_,rfl,l,_,rfl,ao.of yi,fun p5 qD=>?_⟩
   rw [bq]
   obtain ⟨H7,s6,g6,zz⟩:=aJ qD (.lst ((br ws none (some (k:Int))).map V.int))
   rw [zz]; clear zz
   refine ⟨_,rfl,agc,fun p6 uC=>?_⟩
   obtain ⟨H8,s7,g7,zz⟩:=aJ uC (.lst [.int bad])
   rw [zz]; clear zz
   refine ⟨p5,p6,_,_,rfl,rfl,s7 _ _ g6,g7,Z8 (show _<=1000 by simp only [Z0,ZX,aam,aaU]; have:=cn none (some (k:Int)); have:=cn (some (k:Int)) none; have:=cn (some ((k:Int) + 1)) none; omega) (by decide),fun p7 Hy=>?_⟩
   obtain ⟨H9,s8,g8,zz⟩:=aJ Hy (.lst ((br ws none (some (k:Int))).map V.int++[.int bad]))
   rw [zz]; clear zz
   have s69:=aa s6 (aa s7 s8)
   refine ⟨_,rfl,_,rfl,_,_,rfl,rfl,_,rfl,l,_,rfl,ao.of (s69 _ _ yi),fun p8 LA=>?_⟩
   rw [bq]
   obtain ⟨GG,s9,g9,zz⟩:=aJ LA (.lst ((br ws (some ((k:Int) + 1)) none).map V.int))
   rw [zz]; clear zz
   refine ⟨p7,p8,_,_,rfl,rfl,s9 _ _ g8,g9,Z8 (show _<=1000 by simp only [Z0,ZX,aam,aaU]; have:=cn none (some (k:Int)); have:=cn (some (k:Int)) none; have:=cn (some ((k:Int) + 1)) none; omega) (by decide),fun p9 wk=>?_⟩
   have Gj:=aa B4 (aa s69 s9)
   refine q p9 ((br ws none (some (k:Int)))++[bad]++(br ws (some ((k:Int) + 1)) none)) _ (aq Gj wk) (aa Gj (af wk _)) (by rw [ae,Z5,Z5]; rfl) (je (by simp only [Z0,aam,aaU]; have:=cn none (some (k:Int)); have:=cn (some ((k:Int) + 1)) none; omega) fun z hz=>?_)
   rcases List.mem_append.mp hz with hz | hz
   · rcases List.mem_append.mp hz with hz | hz
     · exact cm _ _ z hz
     · rw [List.mem_singleton.mp hz]
       exact mb
   · exact cm _ _ z hz
 exact ⟨_,rfl,q l ws _ hl B4 yi (je (by omega) wm)⟩
theorem yf (s:Src K mg "_law_wrong" kN)(m_len:mg "len"=none)(m_int:mg "int"=none):aX P w K mg base "_law_wrong" ["row","sizes","far"] 1 mf:=
 let ⟨f,fd,F,m⟩:=s
 ⟨f,fd,Bx F m_len m_int,F.kp,F.binds fun _ _ _ _ _ _ us hl=>match us,hl with | [_,_,_],_=>rfl,m⟩
abbrev jP:Stmt:=top 56
structure iA (bs:List (Str×Int))(ins:List Str):Prop where
 ft:Fits bs ins
 l2:bs.length<=2
 il:ins.length<=2
 sz:∀b∈bs,b.2<=5
 nw:∀b∈bs,b.1≠"w"
structure qJ (bs:List (Str×Int))(ins:List Str)(bs':List (Str×Int))(ins':List Str):Prop where
 ft:Fits bs' ins'
 nm:∀x∈bs.map (·.1),x∈bs'.map (·.1)
 l3:bs'.length<=3
 sz:∀b∈bs',b.2<=6
 eq:ins'=ins->bs'.length=bs.length
def kc:Sp:=fun vs H Q _=>∃(v:V) (r:Addr) (bs:List (Str×Int)) (ins:List Str) (nds:List Nd) (row:List Int) (n:Nat),vs=[v,.ref r]/\bD H v bs ins nds/\iA bs ins/\H r=some (.lst (row.map V.int))/\Row (2 ^ 30) row n/\2<=n /\
 ∀(v':V) (bs':List (Str×Int)) (ins':List Str) (H':Hp),ag H H'->bD H' v' bs' ins' nds->qJ bs ins bs' ins'->Q v' H'
section
variable {bs bs':List (Str×Int)}{ins ins':List Str}
theorem iA.sub (h:iA bs ins)(hn:ins'.Nodup)(hs:∀x∈ins',x∈ins)(hl:ins'.length<=900):qJ bs ins bs ins':=
 ⟨⟨h.ft.nd,h.ft.len,h.ft.sz,hn,fun x hx=>h.ft.sub x (hs x hx),hl⟩,fun _ z=>z,by have:=h.l2; omega,fun b hb=>by have:=h.sz b hb; omega,fun _=>rfl⟩
theorem iA.res (h:iA bs ins)(hn:bs'.map (·.1)=bs.map (·.1))(hs:∀c∈bs',1<=c.2/\c.2<=6):qJ bs ins bs' ins:=by
 have hl:bs'.length=bs.length:=by rw [← ZX (f:=(·.1)),hn,ZX]
 have:=h.l2
 exact ⟨⟨by rw [hn]; exact h.ft.nd,by omega,fun b hb=>(hs b hb).1,h.ft.ind,by rw [hn]; exact h.ft.sub,h.ft.ilen⟩,fun x hx=>by rw [hn]; exact hx,by omega,fun b hb=>(hs b hb).2,fun _=>hl⟩
theorem iA.more (h:iA bs ins):qJ bs ins (bs++[(("w":Str),(2:Int))]) (ins++[("w":Str)]):=by
 have h2:=h.l2
 have i2:=h.il
 have nb:("w":Str) ∉ bs.map (·.1):=fun z=>by
   obtain ⟨b,hb,e⟩:=List.mem_map.mp z
   exact h.nw b hb e
 refine ⟨⟨?_,by rw [Z0]; show _ + 1<=_; omega,fun b hb=>?_,?_,fun x hx=>?_,by rw [Z0]; show _ + 1<=_; omega⟩,fun x hx=>by rw [Z5]; exact aby _ hx,by rw [Z0]; show _ + 1<=_; omega,fun b hb=>?_,fun e=>?_⟩
 · rw [Z5,acW]
   exact ⟨h.ft.nd,by simp,fun a ha b hb e=>nb (by rw [List.mem_singleton.mp hb] at e; have e':a=("w":Str):=e; exact e' ▸ ha)⟩
 · rcases List.mem_append.mp hb with hb | hb
   · exact h.ft.sz b hb
   · rw [List.mem_singleton.mp hb]; decide
 · rw [acW]
   exact ⟨h.ft.ind,by simp,fun a ha b hb e=>nb (by rw [List.mem_singleton.mp hb] at e; exact e ▸ h.ft.sub a ha)⟩
 · rw [Z5]
   rcases List.mem_append.mp hx with hx | hx
   · exact aby _ (h.ft.sub x hx)
   · rw [List.mem_singleton.mp hx]; exact aaD _ (List.mem_singleton.mpr rfl)
 · rcases List.mem_append.mp hb with hb | hb
   · have:=h.sz b hb; omega
   · rw [List.mem_singleton.mp hb]; decide
 · have:=congrArg abD e
   rw [Z0] at this
   have:ins.length + 1=ins.length:=this
   omega
end
theorem zJ {x:Int}(h1:1<=x)(h2:x<=5)(c:Bool):1<=x + (if c=true then 1 else 0)/\x + (if c=true then 1 else 0)<=6:=by
 cases c
 · exact ⟨by show 1<=x + 0; omega,by show x + 0<=6; omega⟩
 · exact ⟨by show 1<=x + 1; omega,by show x + 1<=6; omega⟩
theorem gF:aD ["program","row","boxes","inputs","nodes","way"] ["program","row"] (ai jP):=⟨rfl,rfl,rfl,by decide +kernel,rfl,by decide +kernel,by decide +kernel⟩
theorem yP {f:Addr}{fd:aaf}(F:dm K "_law_spoilt" "_law_spoilt" jP f fd)(m_int:mg "int"=none):aP P w K mg base cK 1 f fd ["program","row"] kc:=by
 refine F.ok gF (fun vs H Q E h=>?_) (fun cdv A outer s H vs Q E hr h=>?_)
 · obtain ⟨v,r,bs,ins,nds,row,n,rfl,_⟩:=h
   rfl
 obtain ⟨v,r,bs,ins,nds,row,n,rfl,⟨p,B,I,N,vb,vn,rfl,hp,hB,hI,hN,pb,pn⟩,pre,CS,hR,n2,q⟩:=h
 obtain ⟨x0,a0,JW,Kt⟩:=hR.at (i:=0) (by decide) (by omega)
 obtain ⟨x1,a1,Ku,Kv⟩:=hR.at (i:=1) (by decide) (by omega)
 have kX:vb.length=bs.length:=Paired.length pb
 have hl2:=pre.l2
 have il:=pre.il
 refine kG ⟨_,(ad7 (aeO (ad4 0) (aes 3 (aej (aee 2 gF.nd) (aej (aee 3 gF.nd) (aej (aee 4 gF.nd) aet)))))
   (ad7 (aeh 5 gF.nd (ad9 aeo (ad8 aeg (ad4 1) ad6) ad6))
   (ad7 (ael (aek aeq (ad4 5) ad6) (aea (aec (aed (ad3 (ad4 2) (ad3 (aen ad5) (ad3 (ad4 4) ad5)))))) aem)
   (ad7 (ael (aek aeq (ad4 5) ad6) (aea (aec (aed (ad3 (ad4 2) (ad3 (aeM (ad4 3) ad6) (ad3 (ad4 4) ad5)))))) aem)
   (ad7 (ael (aek aeq (ad4 5) ad6) (aea (aec (aed (ad3 (aeB [none,none,some 3,some 1] ["name","size","inputs","row"] (show aE _ (ai jP) from ⟨rfl,by decide +kernel,by decide +kernel,by decide +kernel⟩) (by rfl) (aeA (ad4 2)) (fun _ _ _ _ _=>⟨(aes 2 (aej (aee 0 (show (["name","size","inputs","row"]:List Str).Nodup from by decide +kernel)) (aej (aee 1 (show (["name","size","inputs","row"]:List Str).Nodup from by decide +kernel)) aet))),aev,(aed (ad3 (ad4 0) (ad3 (ad9 aey (ad4 1) (aew aeY (by rfl) m_int (by decide +kernel) (ad3 (aeE L3.Il (ad4 0) (aeX (aeM (ad4 2) (ad9 aeo (ad8 aeg (ad4 3) ad6) ad6)) ad6) (by rfl)) ad5))) ad5)))⟩)) (ad3 (ad4 3) (ad3 (ad4 4) ad5)))))) aem)
   (ad7 (ael (aek aeq (ad4 5) ad6) (aea (aec (aed (ad3 (ad4 2) (ad3 (L3.MX (ad4 3) (L3.neg ad6)) (ad3 (ad4 4) ad5)))))) aem)
   (ad7 (ael (aek aeq (ad4 5) ad6) (aea (aec (aed (ad3 (ad9 aeH (ad4 2) (aen (ad3 (aed (ad3 aeb (ad3 ad6 ad5))) ad5))) (ad3 (ad9 aeH (ad4 3) (aen (ad3 aeb ad5))) (ad3 (ad4 4) ad5)))))) aem)
   (ad7 (ael (aek aeq (ad4 5) ad6) (aea (aec (aed (ad3 (aeB [none,none,some 3] ["name","size","inputs"] (show aE _ (ai jP) from ⟨rfl,by decide +kernel,by decide +kernel,by decide +kernel⟩) (by rfl) (aeA (ad4 2)) (fun _ _ _ _ _=>⟨(aes 2 (aej (aee 0 (show (["name","size","inputs"]:List Str).Nodup from by decide +kernel)) (aej (aee 1 (show (["name","size","inputs"]:List Str).Nodup from by decide +kernel)) aet))),aev,(aed (ad3 (ad4 0) (ad3 (ad9 aey (ad4 1) (aew aeY (by rfl) m_int (by decide +kernel) (ad3 (aeE L3.qa (ad4 0) (ad4 2) (by rfl)) ad5))) ad5)))⟩)) (ad3 (ad4 3) (ad3 (ad4 4) ad5)))))) aem)
   (aea (aec (aed (ad3 (ad4 2) (ad3 (ad4 3) (ad3 (ad4 4) ad5)))))))))))))),?_⟩
 refine ⟨_,rfl,p,_,rfl,aK.of hp,rfl,_,_,rfl,_,_,rfl,_,_,rfl,rfl,?_⟩
 refine ⟨_,rfl,r,_,_,_,rfl,rfl,ao.of CS,a0,_,_,rfl,rfl,(by show (0:Int) < 8; decide),?_⟩
 obtain ⟨way,Qx⟩ : ∃way,way=x0 % 8:=⟨_,rfl⟩
 refine bo ?_
 refine b7 [some (.ref p),some (.ref r),some (.ref B),some (.ref I),some (.ref N),some (.int way)] (by subst Qx; rfl) ?_
 have fin:∀(B' I' p':Addr) (vb':List V) (bs':List (Str×Int)) (ins':List Str) (H1:Hp),ag H H1->H1 B'=some (.lst vb')->H1 I'=some (.lst (ins'.map V.str))->Paired (bG H1) vb' bs'->qJ bs ins bs' ins'->H1 p'=none->Q (.ref p') (upd H1 p' (.tup [.ref B',.ref I',.ref N])):=fun B' I' p' vb' bs' ins' H1 s1 h1 h2 h3 h4 oz=>by
   have t3:ag H1 (upd H1 p' (.tup [.ref B',.ref I',.ref N])):=af oz _
   have s3:=aa s1 t3
   exact q (.ref p') bs' ins' _ s3 ⟨p',B',I',N,vb',vn,rfl,ae,t3 _ _ h1,t3 _ _ h2,s3 _ _ hN,Paired.aZ h3 fun a b h=>Tp.keep (ag.tk t3) h,Paired.aZ pn fun _ _ z=>cw.keep (ag.tk s3) z⟩ h4
 have pbs:∀{H1:Hp},ag H H1->Paired (bG H1) vb bs:=fun s=>Paired.aZ pb fun a b h=>Tp.keep (ag.tk s) h
 refine ⟨_,rfl,rfl,_,rfl,?_⟩
 refine aF (fun _=>?_) (fun _=>?_)
 · refine ⟨_,rfl,agb,fun i1 ux=>?_⟩
   have s1:ag H (upd H i1 (.lst [])):=af ux _
   exact ⟨_,rfl,age,fun p3 lK=>fin B i1 p3 vb bs [] _ s1 (s1 _ _ hB) ae (pbs s1) (pre.sub abP (fun x hx=>nomatch hx) (aaI _)) lK⟩
 refine ⟨_,rfl,rfl,_,rfl,?_⟩
 refine aF (fun _=>?_) (fun _=>?_)
 · refine ⟨_,rfl,_,rfl,_,rfl,I,_,rfl,ao.of hI,fun i1 ux=>?_⟩
   rw [bq]
   have s1:ag H (upd H i1 (.lst ((br ins (some 1) none).map V.str))):=af ux _
   exact ⟨_,rfl,age,fun p3 lK=>fin B i1 p3 vb bs _ _ s1 (s1 _ _ hB) ae (pbs s1) (pre.sub (List.Nodup.sublist (d4 _ _ _) pre.ft.ind) (fun x hx=>(d4 _ _ _).subset hx) (Z8 (qX _ _ _) (by omega))) lK⟩
 refine ⟨_,rfl,rfl,_,rfl,?_⟩
 refine aF (fun _=>?_) (fun _=>?_)
 · refine ⟨_,rfl,B,rfl,⟨_,ao.of hB⟩,fun ta CT=>?_⟩
   refine bj (xs:=vb) (fun i H8=>∃(vt:List V) (cs:List (Str×Int)),ag H H8/\H8 ta=some (.lst vt)/\vt.length=i/\Paired (bG H8) vt cs/\cs.map (·.1)=(bs.take i).map (·.1)/\∀c∈cs,1<=c.2/\c.2<=6) ⟨[],[],af CT _,ae,rfl,.nil,rfl,fun c hc=>nomatch hc⟩ (fun i H8 _ z=>by obtain ⟨_,_,s8,_⟩:=z; exact ao.of (s8 _ _ hB)) (fun i x H8 hx z=>?_) (fun H8 z=>?_)
   · obtain ⟨vt,cs,s8,iU,FT,pt,cn,cz⟩:=z
     obtain ⟨b,fP,u0,rfl,rM⟩:=Paired.get pb hx
     have dP:i < vb.length:=(List.getElem?_eq_some_iff.mp hx).1
     have bm:=aab fP
     have b1:=pre.ft.sz b bm
     have b5:=pre.sz b bm
     refine ⟨u0,_,rfl,aK.of (s8 _ _ rM),rfl,_,_,rfl,_,_,rfl,rfl,?_⟩
     refine bU (A:=fun H3=>de _ ta _ H3 _) ?_
     refine ⟨_,rfl,_,rfl,_,rfl,_,rfl,_,rfl,r,_,_,_,rfl,rfl,ao.of (s8 _ _ CS),a1,_,_,rfl,rfl,(by show (0:Int) < 2; decide),_,rfl,I,_,rfl,ao.of (s8 _ _ hI),fun pa LB=>?_⟩
     rw [bq]
     obtain ⟨H9,sa,ga,zz⟩:=aJ LB (.lst ((br ins (some (x1 % 2)) none).map V.str))
     rw [zz]; clear zz
     refine ⟨_,rfl,pa,_,rfl,ao.of ga,fun pc Xm=>?_⟩
     rw [bq]
     obtain ⟨GG,sb,gb,zz⟩:=aJ Xm (.lst ((br (br ins (some (x1 % 2)) none) none (some 1)).map V.str))
     rw [zz]; clear zz
     have Rv:=aa sa sb
     have m4:=Rv _ _ iU
     have JC:=aa s8 Rv
     obtain ⟨c0,WG⟩ : ∃c0,c0=zu (.str b.1) ((br (br ins (some (x1 % 2)) none) none (some 1)).map V.str):=⟨_,rfl⟩
     refine ⟨pc,_,rfl,.inl (ao.of gb),rfl,km _,.inr ⟨_,rfl,_,_,rfl,rfl,agd,fun p2 cb=>⟨vt,?_,aB (by omega),aL (Pv:=fun i H8=>∃(vt:List V) (cs:List (Str×Int)),ag H H8/\H8 ta=some (.lst vt)/\vt.length=i/\Paired (bG H8) vt cs/\cs.map (·.1)=(bs.take i).map (·.1)/\∀c∈cs,1<=c.2/\c.2<=6) (by repeat' constructor) dP ?_⟩⟩⟩
     · rw [aj (ah m4 cb)]; exact m4
     · have h4:∀o,(upd GG p2 o) ta=some (.lst vt):=fun o=>by rw [aj (ah m4 cb)]; exact m4
       refine ⟨vt++[.ref p2],cs++[(b.1,b.2 + (if zu (.str b.1) ((br (br ins (some (x1 % 2)) none) none (some 1)).map V.str)=true then 1 else 0))],aG (aC JC cb) CT,ae,by rw [Z0,FT]; rfl,?_,?_,fun c hc=>?_⟩
       · refine Paired.snoc (Paired.aZ pt fun a b h=>Tp.keep (((ag.tk Rv).trans (aI cb _)).trans (TK.lst (h4 _))) h) ⟨p2,rfl,?_⟩
         rw [aj (ah m4 cb).symm,ae]
         rfl
       · rw [Z5,cn,Z9,fP,Z5]
         rfl
       · rcases List.mem_append.mp hc with hc | hc
         · exact cz c hc
         · rw [List.mem_singleton.mp hc]
           exact zJ b1 b5 _
   · obtain ⟨vt,cs,s8,iU,FT,pt,cn,cz⟩:=z
     have K1:bs.take vb.length=bs:=aaG (by omega)
     rw [K1] at cn
     refine ⟨_,rfl,_,rfl,age,fun p3 lK=>?_⟩
     have t3:ag H8 (upd H8 p3 (.tup [.ref ta,.ref I,.ref N])):=af lK _
     have s3:=aa s8 t3
     exact q (.ref p3) cs ins _ s3 ⟨p3,ta,I,N,vt,vn,rfl,ae,t3 _ _ iU,s3 _ _ hI,s3 _ _ hN,Paired.aZ pt fun a b h=>Tp.keep (ag.tk t3) h,Paired.aZ pn fun _ _ z=>cw.keep (ag.tk s3) z⟩ (pre.res cn cz)
 refine ⟨_,rfl,rfl,_,rfl,?_⟩
 refine aF (fun _=>?_) (fun _=>?_)
 · refine ⟨_,rfl,_,rfl,_,rfl,rfl,I,_,rfl,ao.of hI,fun i1 ux=>?_⟩
   rw [← ac3]
   have s1:ag H (upd H i1 (.lst (ins.reverse.map V.str))):=af ux _
   exact ⟨_,rfl,age,fun p3 lK=>fin B i1 p3 vb bs _ _ s1 (s1 _ _ hB) ae (pbs s1) (pre.sub (List.pairwise_reverse.mpr (List.Pairwise.imp (fun h=>Ne.symm h) pre.ft.ind)) (fun x hx=>List.mem_reverse.mp hx) (by rw [acF]; omega)) lK⟩
 refine ⟨_,rfl,rfl,_,rfl,?_⟩
 refine aF (fun _=>?_) (fun _=>?_)
 · refine ⟨_,rfl,agd,fun w1 LN=>?_⟩
   obtain ⟨H1,s1,g1,zz⟩:=aJ LN (.tup [.str "w",.int 2])
   rw [zz]; clear zz
   refine ⟨agc,fun l1 hl1=>?_⟩
   obtain ⟨H2,s2,g2,zz⟩:=aJ hl1 (.lst [.ref w1])
   rw [zz]; clear zz
   have BW:=aa s1 s2
   refine ⟨B,l1,_,_,rfl,rfl,BW _ _ hB,g2,Z8 (show _<=3 by show vb.length + 1<=3; omega) (by decide),fun B1 CM=>?_⟩
   obtain ⟨H3,s3,g3,zz⟩:=aJ CM (.lst (vb++[.ref w1]))
   rw [zz]; clear zz
   have s13:=aa BW s3
   refine ⟨_,rfl,agc,fun l2 hl2=>?_⟩
   obtain ⟨H4,s4,g4,zz⟩:=aJ hl2 (.lst [.str "w"])
   rw [zz]; clear zz
   refine ⟨I,l2,_,_,rfl,rfl,s4 _ _ (s13 _ _ hI),g4,Z8 (show _<=3 by rw [ZX]; show ins.length + 1<=3; omega) (by decide),fun I1 hI1=>?_⟩
   obtain ⟨H5,s5,g5,zz⟩:=aJ hI1 (.lst (ins.map V.str++[.str "w"]))
   rw [zz]; clear zz
   have s35:=aa s4 s5
   have s15:=aa s13 s35
   exact ⟨_,rfl,age,fun p3 lK=>fin B1 I1 p3 _ (bs++[(("w":Str),(2:Int))]) (ins++[("w":Str)]) _ s15 (s35 _ _ g3) (by rw [g5,Z5]; rfl) (Paired.snoc (pbs s15) ⟨w1,rfl,s35 _ _ (s3 _ _ (s2 _ _ g1))⟩) pre.more lK⟩
 refine ⟨_,rfl,rfl,_,rfl,?_⟩
 refine aF (fun _=>?_) (fun _=>?_)
 · refine ⟨_,rfl,B,rfl,⟨_,ao.of hB⟩,fun ta CT=>?_⟩
   refine bj (xs:=vb) (fun i H8=>∃(vt:List V) (cs:List (Str×Int)),ag H H8/\H8 ta=some (.lst vt)/\vt.length=i/\Paired (bG H8) vt cs/\cs.map (·.1)=(bs.take i).map (·.1)/\∀c∈cs,1<=c.2/\c.2<=6) ⟨[],[],af CT _,ae,rfl,.nil,rfl,fun c hc=>nomatch hc⟩ (fun i H8 _ z=>by obtain ⟨_,_,s8,_⟩:=z; exact ao.of (s8 _ _ hB)) (fun i x H8 hx z=>?_) (fun H8 z=>?_)
   · obtain ⟨vt,cs,s8,iU,FT,pt,cn,cz⟩:=z
     obtain ⟨b,fP,u0,rfl,rM⟩:=Paired.get pb hx
     have dP:i < vb.length:=(List.getElem?_eq_some_iff.mp hx).1
     have bm:=aab fP
     have b1:=pre.ft.sz b bm
     have b5:=pre.sz b bm
     refine ⟨u0,_,rfl,aK.of (s8 _ _ rM),rfl,_,_,rfl,_,_,rfl,rfl,?_⟩
     refine bU (A:=fun H3=>de _ ta _ H3 _) ?_
     have Rm:=same_refl H8
     refine ⟨_,rfl,_,rfl,_,rfl,_,rfl,?_⟩
     have m4:=Rm _ _ iU
     have JC:=aa s8 Rm
     obtain ⟨c0,WG⟩ : ∃c0,c0=(!zu (.str b.1) (ins.map V.str)):=⟨_,rfl⟩
     refine ⟨I,_,rfl,.inl (ao.of (s8 _ _ hI)),rfl,km _,.inr ⟨_,rfl,_,_,rfl,rfl,agd,fun p2 cb=>⟨vt,?_,aB (by omega),aL (Pv:=fun i H8=>∃(vt:List V) (cs:List (Str×Int)),ag H H8/\H8 ta=some (.lst vt)/\vt.length=i/\Paired (bG H8) vt cs/\cs.map (·.1)=(bs.take i).map (·.1)/\∀c∈cs,1<=c.2/\c.2<=6) (by repeat' constructor) dP ?_⟩⟩⟩
     · rw [aj (ah m4 cb)]; exact m4
     · have h4:∀o,(upd H8 p2 o) ta=some (.lst vt):=fun o=>by rw [aj (ah m4 cb)]; exact m4
       refine ⟨vt++[.ref p2],cs++[(b.1,b.2 + (if (!zu (.str b.1) (ins.map V.str))=true then 1 else 0))],aG (aC JC cb) CT,ae,by rw [Z0,FT]; rfl,?_,?_,fun c hc=>?_⟩
       · refine Paired.snoc (Paired.aZ pt fun a b h=>Tp.keep (((ag.tk Rm).trans (aI cb _)).trans (TK.lst (h4 _))) h) ⟨p2,rfl,?_⟩
         rw [aj (ah m4 cb).symm,ae]
         rfl
       · rw [Z5,cn,Z9,fP,Z5]
         rfl
       · rcases List.mem_append.mp hc with hc | hc
         · exact cz c hc
         · rw [List.mem_singleton.mp hc]
           exact zJ b1 b5 _
   · obtain ⟨vt,cs,s8,iU,FT,pt,cn,cz⟩:=z
     have K1:bs.take vb.length=bs:=aaG (by omega)
     rw [K1] at cn
     refine ⟨_,rfl,_,rfl,age,fun p3 lK=>?_⟩
     have t3:ag H8 (upd H8 p3 (.tup [.ref ta,.ref I,.ref N])):=af lK _
     have s3:=aa s8 t3
     exact q (.ref p3) cs ins _ s3 ⟨p3,ta,I,N,vt,vn,rfl,ae,t3 _ _ iU,s3 _ _ hI,s3 _ _ hN,Paired.aZ pt fun a b h=>Tp.keep (ag.tk t3) h,Paired.aZ pn fun _ _ z=>cw.keep (ag.tk s3) z⟩ (pre.res cn cz)
 exact ⟨_,rfl,_,rfl,_,rfl,age,fun p3 lK=>fin B I p3 vb bs ins H (same_refl _) hB hI pb (pre.sub pre.ft.ind (fun _ z=>z) pre.ft.ilen) lK⟩
theorem uu (s:Src K mg "_law_spoilt" jP)(m_int:mg "int"=none):aX P w K mg base "_law_spoilt" ["program","row"] 1 kc:=
 let ⟨f,fd,F,m⟩:=s
 ⟨f,fd,yP F m_int,F.kp,F.binds fun _ _ _ _ _ _ us hl=>match us,hl with | [_,_],_=>rfl,m⟩
abbrev kL:Stmt:=top 63
def E.b9:E->List (Str×Str)
 | .num _=>[] | .box t x=>[(t,x)] | .yes=>[] | .nt a=>a.b9 | .two _ a b=>a.b9++b.b9
theorem b8.keep {H H':Hp}(k:TK H H'){v:V}{b:Str×Str}(h:b8 H v b):b8 H' v b:=Tp.keep k (show Tp H v [.str b.1,.str b.2] from h)
theorem Paired.app {α β:Type}{R:α->β->Prop}:∀{xs:List α} {ys:List β} {zs:List α} {ws:List β},Paired R xs ys->Paired R zs ws->Paired R (xs++zs) (ys++ws)
 | _,_,_,_,.nil,q=>q
 | _,_,_,_,.cons h r,q=>.cons h (Paired.app r q)
theorem cE.Fc {H:Hp}{v:V}:∀{e:E},cE H v e->∃p us,v=.ref p/\H p=some (.tup us)
 | .num _,⟨p,e,h⟩=>⟨p,_,e,h⟩
 | .box _ _,⟨p,e,h⟩=>⟨p,_,e,h⟩
 | .yes,⟨p,e,h⟩=>⟨p,_,e,h⟩
 | .nt _,⟨_,⟨p,e,h⟩,_⟩=>⟨p,_,e,h⟩
 | .two _ _ _,⟨_,_,⟨p,e,h⟩,_,_⟩=>⟨p,_,e,h⟩
def eL (n:Nat):Sp:=fun vs H Q _=>∃(v:V) (e:E),vs=[v]/\cE H v e/\e.okIn ja/\e.dep < n/\e.b9.length<=1000/\∀(l:Addr) (vl:List V) (H':Hp),H l=none->ag H H'->H' l=some (.lst vl)->Paired (b8 H') vl e.b9->Q (.ref l) H'
theorem qh:aD ["thing","found","part"] ["thing"] (ai kL):=⟨rfl,rfl,rfl,by decide +kernel,rfl,by decide +kernel,by decide +kernel⟩
theorem kE:aY kL "_law_named":=by decide +kernel
theorem jl:aY kL "isinstance":=by decide +kernel
theorem pT:aY kL "tuple":=by decide +kernel
theorem Bs {n:Nat}{f:Addr}{fd:aaf}(F:dm K "_law_named" "_law_named" kL f fd)(m_tuple:mg "tuple"=none)(m_isinstance:mg "isinstance"=none)(G:aX P w K mg base "_law_named" ["thing"] (n + 1) (eL n)):aP P w K mg base cK (n + 2) f fd ["thing"] (eL (n + 1)):=by
 refine F.ok qh (fun vs H Q E h=>?_) (fun cdv A outer s H vs Q E hr h=>?_)
 · obtain ⟨v,e,rfl,_⟩:=h
   rfl
 obtain ⟨v,e,rfl,ev,ok,hd,hb,q⟩:=h
 refine kG ⟨_,(ad7 (ael (aeL (aeQ (aek aeq (ad8 aei (ad4 0) ad6) aeb) (aeR (aek aeq (ad8 aei (ad4 0) ad6) aeb)))) (aea (aec (aen (ad3 (ad4 0) ad5)))) aem)
   (ad7 (aeh 1 qh.nd (aen ad5))
   (ad7 (aeJ (L3.iT (L3.MY (ad4 0) ad6)) (aee 2 qh.nd) (aea (ael (aeP (aep L3.Fu jl m_isinstance (by decide +kernel) (ad3 (ad4 2) (ad3 (L3.GX (w:=.ty "tuple") pT m_tuple (by decide +kernel) rfl) ad5)))) (aea (aeu (afi (ad4 1) (ad3 (aef G hr kE (ad3 (ad4 2) ad5)) ad5)))) aem)))
   (aea (aec (ad4 1)))))),?_⟩
 cases e with
 | num m=>
   obtain ⟨p,rfl,hp⟩:=ev
   refine ⟨_,rfl,p,_,_,_,rfl,rfl,aK.of hp,rfl,rfl,_,rfl,?_⟩
   refine aF (fun c=>absurd (of_decide_eq_true c) (by decide)) (fun _=>?_)
   refine ⟨_,rfl,p,_,_,_,rfl,rfl,aK.of hp,rfl,rfl,_,rfl,?_⟩
   refine aF (fun c=>absurd (of_decide_eq_true c) (by decide)) (fun _=>?_)
   refine ⟨agb,fun fa hfa=>?_⟩
   obtain ⟨H1,s1,g1,zz⟩:=aJ hfa (.lst [])
   rw [zz]; clear zz
   refine ⟨_,rfl,_,rfl,p,_,rfl,aK.of (s1 _ _ hp),(fun z=>absurd z.1 (show ¬ HT.cJ 2 0 (some 1)=0 by decide)),fun l hl=>⟨l,rfl,⟨_,aK.of ae⟩,?_⟩⟩
   have s2:ag H1 (upd H1 l (.tup [.int m])):=af hl _
   have Ig:l≠fa:=(ah g1 hl).symm
   refine gO (xs:=[.int m]) (fun i σ H2=>(∃pv,σ=[some (.ref p),some (.ref fa),pv])/\ag H H2/\H2 l=some (.tup [.int m])/\∃vl,H2 fa=some (.lst vl)/\Paired (b8 H2) vl (([[]]:List (List (Str×Str))).take i).flatten) ⟨⟨_,rfl⟩,aa s1 s2,ae,[],s2 _ _ g1,.nil⟩ (fun i σ H2 _ z=>aK.of z.2.2.1) (fun i x σ H2 hx z=>?_) (fun σ H2 z=>?_)
   · obtain ⟨⟨pv,rfl⟩,s3,kH,vl,mZ,pr⟩:=z
     obtain ⟨nm,uA,mY⟩ : ∃nm:List (Str×Str),([[]]:List (List (Str×Str)))[i]? = some nm/\((∃k,x=.int k/\nm=[])\/∃e0:TW.E,cE H x e0/\e0.okIn ja/\e0.dep < n/\e0.b9.length<=1000/\nm=e0.b9):=by
       match i,hx with
       | 0,hx=>cases hx; exact ⟨[],rfl,.inl ⟨m,rfl,rfl⟩⟩
     have JV:vl.length<=1000:=by
       rw [Paired.length pr]
       have h1:((([[]]:List (List (Str×Str))).take i).flatten).length<=(([[]]:List (List (Str×Str))).flatten).length:=by
         have e:([[]]:List (List (Str×Str))).flatten=(([[]]:List (List (Str×Str))).take i).flatten++(([[]]:List (List (Str×Str))).drop i).flatten:=by rw [← aaC,abq]
         rw [e,Z0]
         omega
       exact Z8 h1 (Z8 (show _<=(TW.E.num m).b9.length by simp [TW.E.b9]) hb)
     refine bo ?_
     rcases mY with ⟨k,rfl,rfl⟩ | ⟨e0,zZ,Io,d0,b0,rfl⟩
     · refine ⟨_,rfl,.int k,"tuple",_,false,rfl,.int k,rfl,_,rfl,iW ?_⟩
       refine ⟨⟨_,rfl⟩,s3,kH,vl,mZ,?_⟩
       rw [Z9,uA,aaC]
       show Paired _ vl (_++[])
       rw [aax]
       exact pr
     · obtain ⟨px,us,rfl,DP⟩:=zZ.Fc
       refine ⟨_,rfl,.ref px,"tuple",_,true,rfl,.tup (s3 _ _ DP),rfl,_,rfl,fR ?_⟩
       refine ⟨_,rfl,.inl ⟨rfl,_,ao.of mZ⟩,_,rfl,.ref px,e0,rfl,cE.keep (ag.tk s3) zZ,Io,d0,b0,fun l2 vJ H3 hl2 s4 g4 p4=>?_⟩
       have AA:=s4 _ _ mZ
       have tk:=TK.lst AA (o:=.lst (vl++vJ))
       refine ⟨fa,l2,_,_,rfl,rfl,AA,g4,Z8 (show _<=2000 by have:=Paired.length p4; omega) (by decide),⟨_,rfl⟩,aG (aa s3 s4) hfa,by rw [aj Ig]; exact s4 _ _ kH,vl++vJ,ae,?_⟩
       rw [Z9,uA,aaC]
       show Paired _ (vl++vJ) (_++(e0.b9++[]))
       rw [aax]
       exact Paired.app (Paired.aZ pr fun _ _ z=>b8.keep ((ag.tk s4).trans tk) z) (Paired.aZ p4 fun _ _ z=>b8.keep tk z)
   · obtain ⟨⟨pv,rfl⟩,s3,kH,vl,mZ,pr⟩:=z
     refine ⟨_,rfl,q fa vl H2 hfa s3 mZ ?_⟩
     rw [show (TW.E.num m).b9=(([[]]:List (List (Str×Str))).take ([.int m]:List V).length).flatten by simp [TW.E.b9]]
     exact pr
 | yes=>
   obtain ⟨p,rfl,hp⟩:=ev
   refine ⟨_,rfl,p,_,_,_,rfl,rfl,aK.of hp,rfl,rfl,_,rfl,?_⟩
   refine aF (fun c=>absurd (of_decide_eq_true c) (by decide)) (fun _=>?_)
   refine ⟨_,rfl,p,_,_,_,rfl,rfl,aK.of hp,rfl,rfl,_,rfl,?_⟩
   refine aF (fun c=>absurd (of_decide_eq_true c) (by decide)) (fun _=>?_)
   refine ⟨agb,fun fa hfa=>?_⟩
   obtain ⟨H1,s1,g1,zz⟩:=aJ hfa (.lst [])
   rw [zz]; clear zz
   refine ⟨_,rfl,_,rfl,p,_,rfl,aK.of (s1 _ _ hp),(fun z=>absurd z.1 (show ¬ HT.cJ 1 0 (some 1)=0 by decide)),fun l hl=>⟨l,rfl,⟨_,aK.of ae⟩,?_⟩⟩
   have s2:ag H1 (upd H1 l (.tup [])):=af hl _
   have Ig:l≠fa:=(ah g1 hl).symm
   refine gO (xs:=[]) (fun i σ H2=>(∃pv,σ=[some (.ref p),some (.ref fa),pv])/\ag H H2/\H2 l=some (.tup [])/\∃vl,H2 fa=some (.lst vl)/\Paired (b8 H2) vl (([]:List (List (Str×Str))).take i).flatten) ⟨⟨_,rfl⟩,aa s1 s2,ae,[],s2 _ _ g1,.nil⟩ (fun i σ H2 _ z=>aK.of z.2.2.1) (fun i x σ H2 hx z=>?_) (fun σ H2 z=>?_)
   · obtain ⟨⟨pv,rfl⟩,s3,kH,vl,mZ,pr⟩:=z
     obtain ⟨nm,uA,mY⟩ : ∃nm:List (Str×Str),([]:List (List (Str×Str)))[i]? = some nm/\((∃k,x=.int k/\nm=[])\/∃e0:TW.E,cE H x e0/\e0.okIn ja/\e0.dep < n/\e0.b9.length<=1000/\nm=e0.b9):=by
       cases hx
     have JV:vl.length<=1000:=by
       rw [Paired.length pr]
       have h1:((([]:List (List (Str×Str))).take i).flatten).length<=(([]:List (List (Str×Str))).flatten).length:=by
         have e:([]:List (List (Str×Str))).flatten=(([]:List (List (Str×Str))).take i).flatten++(([]:List (List (Str×Str))).drop i).flatten:=by rw [← aaC,abq]
         rw [e,Z0]
         omega
       exact Z8 h1 (Z8 (show _<=(TW.E.yes).b9.length by simp [TW.E.b9]) hb)
     refine bo ?_
     rcases mY with ⟨k,rfl,rfl⟩ | ⟨e0,zZ,Io,d0,b0,rfl⟩
     · refine ⟨_,rfl,.int k,"tuple",_,false,rfl,.int k,rfl,_,rfl,iW ?_⟩
       refine ⟨⟨_,rfl⟩,s3,kH,vl,mZ,?_⟩
       rw [Z9,uA,aaC]
       show Paired _ vl (_++[])
       rw [aax]
       exact pr
     · obtain ⟨px,us,rfl,DP⟩:=zZ.Fc
       refine ⟨_,rfl,.ref px,"tuple",_,true,rfl,.tup (s3 _ _ DP),rfl,_,rfl,fR ?_⟩
       refine ⟨_,rfl,.inl ⟨rfl,_,ao.of mZ⟩,_,rfl,.ref px,e0,rfl,cE.keep (ag.tk s3) zZ,Io,d0,b0,fun l2 vJ H3 hl2 s4 g4 p4=>?_⟩
       have AA:=s4 _ _ mZ
       have tk:=TK.lst AA (o:=.lst (vl++vJ))
       refine ⟨fa,l2,_,_,rfl,rfl,AA,g4,Z8 (show _<=2000 by have:=Paired.length p4; omega) (by decide),⟨_,rfl⟩,aG (aa s3 s4) hfa,by rw [aj Ig]; exact s4 _ _ kH,vl++vJ,ae,?_⟩
       rw [Z9,uA,aaC]
       show Paired _ (vl++vJ) (_++(e0.b9++[]))
       rw [aax]
       exact Paired.app (Paired.aZ pr fun _ _ z=>b8.keep ((ag.tk s4).trans tk) z) (Paired.aZ p4 fun _ _ z=>b8.keep tk z)
   · obtain ⟨⟨pv,rfl⟩,s3,kH,vl,mZ,pr⟩:=z
     refine ⟨_,rfl,q fa vl H2 hfa s3 mZ ?_⟩
     rw [show (TW.E.yes).b9=(([]:List (List (Str×Str))).take ([]:List V).length).flatten by simp [TW.E.b9]]
     exact pr
 | box t x=>
   obtain ⟨p,rfl,hp⟩:=ev
   have Ko:t="mine"\/t="yours":=ok
   have fin:∀l,H l=none->Q (.ref l) (upd H l (.lst [.ref p])):=fun l hl=>q l [.ref p] _ hl (af hl _) ae (.cons ⟨p,rfl,af hl _ _ _ hp⟩ .nil)
   refine ⟨_,rfl,p,_,_,_,rfl,rfl,aK.of hp,rfl,rfl,_,rfl,?_⟩
   rcases Ko with rfl | rfl
   · refine aF (fun _=>fR ?_) (fun c=>absurd (decide_eq_true rfl) c)
     exact ⟨_,rfl,agc,fun l hl=>fin l hl⟩
   · refine aF (fun c=>absurd (of_decide_eq_true c) (by decide)) (fun _=>?_)
     refine ⟨_,rfl,p,_,_,_,rfl,rfl,aK.of hp,rfl,rfl,_,rfl,?_⟩
     refine aF (fun _=>?_) (fun c=>absurd (decide_eq_true rfl) c)
     exact ⟨_,rfl,agc,fun l hl=>fin l hl⟩
 | nt a=>
   obtain ⟨x1,⟨p,rfl,hp⟩,ax⟩:=ev
   have ow:a.dep + 1 < n + 1:=hd
   refine ⟨_,rfl,p,_,_,_,rfl,rfl,aK.of hp,rfl,rfl,_,rfl,?_⟩
   refine aF (fun c=>absurd (of_decide_eq_true c) (by decide)) (fun _=>?_)
   refine ⟨_,rfl,p,_,_,_,rfl,rfl,aK.of hp,rfl,rfl,_,rfl,?_⟩
   refine aF (fun c=>absurd (of_decide_eq_true c) (by decide)) (fun _=>?_)
   refine ⟨agb,fun fa hfa=>?_⟩
   obtain ⟨H1,s1,g1,zz⟩:=aJ hfa (.lst [])
   rw [zz]; clear zz
   refine ⟨_,rfl,_,rfl,p,_,rfl,aK.of (s1 _ _ hp),(fun z=>absurd z.1 (show ¬ HT.cJ 2 0 (some 1)=0 by decide)),fun l hl=>⟨l,rfl,⟨_,aK.of ae⟩,?_⟩⟩
   have s2:ag H1 (upd H1 l (.tup [x1])):=af hl _
   have Ig:l≠fa:=(ah g1 hl).symm
   refine gO (xs:=[x1]) (fun i σ H2=>(∃pv,σ=[some (.ref p),some (.ref fa),pv])/\ag H H2/\H2 l=some (.tup [x1])/\∃vl,H2 fa=some (.lst vl)/\Paired (b8 H2) vl (([a.b9]:List (List (Str×Str))).take i).flatten) ⟨⟨_,rfl⟩,aa s1 s2,ae,[],s2 _ _ g1,.nil⟩ (fun i σ H2 _ z=>aK.of z.2.2.1) (fun i x σ H2 hx z=>?_) (fun σ H2 z=>?_)
   · obtain ⟨⟨pv,rfl⟩,s3,kH,vl,mZ,pr⟩:=z
     obtain ⟨nm,uA,mY⟩ : ∃nm:List (Str×Str),([a.b9]:List (List (Str×Str)))[i]? = some nm/\((∃k,x=.int k/\nm=[])\/∃e0:TW.E,cE H x e0/\e0.okIn ja/\e0.dep < n/\e0.b9.length<=1000/\nm=e0.b9):=by
       match i,hx with
       | 0,hx=>cases hx; exact ⟨_,rfl,.inr ⟨a,ax,ok,by omega,hb,rfl⟩⟩
     have JV:vl.length<=1000:=by
       rw [Paired.length pr]
       have h1:((([a.b9]:List (List (Str×Str))).take i).flatten).length<=(([a.b9]:List (List (Str×Str))).flatten).length:=by
         have e:([a.b9]:List (List (Str×Str))).flatten=(([a.b9]:List (List (Str×Str))).take i).flatten++(([a.b9]:List (List (Str×Str))).drop i).flatten:=by rw [← aaC,abq]
         rw [e,Z0]
         omega
       exact Z8 h1 (Z8 (show _<=(TW.E.nt a).b9.length by simp [TW.E.b9]) hb)
     refine bo ?_
     rcases mY with ⟨k,rfl,rfl⟩ | ⟨e0,zZ,Io,d0,b0,rfl⟩
     · refine ⟨_,rfl,.int k,"tuple",_,false,rfl,.int k,rfl,_,rfl,iW ?_⟩
       refine ⟨⟨_,rfl⟩,s3,kH,vl,mZ,?_⟩
       rw [Z9,uA,aaC]
       show Paired _ vl (_++[])
       rw [aax]
       exact pr
     · obtain ⟨px,us,rfl,DP⟩:=zZ.Fc
       refine ⟨_,rfl,.ref px,"tuple",_,true,rfl,.tup (s3 _ _ DP),rfl,_,rfl,fR ?_⟩
       refine ⟨_,rfl,.inl ⟨rfl,_,ao.of mZ⟩,_,rfl,.ref px,e0,rfl,cE.keep (ag.tk s3) zZ,Io,d0,b0,fun l2 vJ H3 hl2 s4 g4 p4=>?_⟩
       have AA:=s4 _ _ mZ
       have tk:=TK.lst AA (o:=.lst (vl++vJ))
       refine ⟨fa,l2,_,_,rfl,rfl,AA,g4,Z8 (show _<=2000 by have:=Paired.length p4; omega) (by decide),⟨_,rfl⟩,aG (aa s3 s4) hfa,by rw [aj Ig]; exact s4 _ _ kH,vl++vJ,ae,?_⟩
       rw [Z9,uA,aaC]
       show Paired _ (vl++vJ) (_++(e0.b9++[]))
       rw [aax]
       exact Paired.app (Paired.aZ pr fun _ _ z=>b8.keep ((ag.tk s4).trans tk) z) (Paired.aZ p4 fun _ _ z=>b8.keep tk z)
   · obtain ⟨⟨pv,rfl⟩,s3,kH,vl,mZ,pr⟩:=z
     refine ⟨_,rfl,q fa vl H2 hfa s3 mZ ?_⟩
     rw [show (TW.E.nt a).b9=(([a.b9]:List (List (Str×Str))).take ([x1]:List V).length).flatten by simp [TW.E.b9]]
     exact pr
 | two k a b=>
   obtain ⟨x1,x2,⟨p,rfl,hp⟩,ax,ay⟩:=ev
   have ow:max a.dep b.dep + 1 < n + 1:=hd
   have FG:a.b9.length + b.b9.length<=1000:=by have z:=hb; rw [show (TW.E.two k a b).b9=a.b9++b.b9 from rfl,Z0] at z; exact z
   refine ⟨_,rfl,p,_,_,_,rfl,rfl,aK.of hp,rfl,rfl,_,rfl,?_⟩
   refine aF (fun c=>absurd (of_decide_eq_true c) (by cases k <;> decide)) (fun _=>?_)
   refine ⟨_,rfl,p,_,_,_,rfl,rfl,aK.of hp,rfl,rfl,_,rfl,?_⟩
   refine aF (fun c=>absurd (of_decide_eq_true c) (by cases k <;> decide)) (fun _=>?_)
   refine ⟨agb,fun fa hfa=>?_⟩
   obtain ⟨H1,s1,g1,zz⟩:=aJ hfa (.lst [])
   rw [zz]; clear zz
   refine ⟨_,rfl,_,rfl,p,_,rfl,aK.of (s1 _ _ hp),(fun z=>absurd z.1 (show ¬ HT.cJ 3 0 (some 1)=0 by decide)),fun l hl=>⟨l,rfl,⟨_,aK.of ae⟩,?_⟩⟩
   have s2:ag H1 (upd H1 l (.tup [x1,x2])):=af hl _
   have Ig:l≠fa:=(ah g1 hl).symm
   refine gO (xs:=[x1,x2]) (fun i σ H2=>(∃pv,σ=[some (.ref p),some (.ref fa),pv])/\ag H H2/\H2 l=some (.tup [x1,x2])/\∃vl,H2 fa=some (.lst vl)/\Paired (b8 H2) vl (([a.b9,b.b9]:List (List (Str×Str))).take i).flatten) ⟨⟨_,rfl⟩,aa s1 s2,ae,[],s2 _ _ g1,.nil⟩ (fun i σ H2 _ z=>aK.of z.2.2.1) (fun i x σ H2 hx z=>?_) (fun σ H2 z=>?_)
   · obtain ⟨⟨pv,rfl⟩,s3,kH,vl,mZ,pr⟩:=z
     obtain ⟨nm,uA,mY⟩ : ∃nm:List (Str×Str),([a.b9,b.b9]:List (List (Str×Str)))[i]? = some nm/\((∃k,x=.int k/\nm=[])\/∃e0:TW.E,cE H x e0/\e0.okIn ja/\e0.dep < n/\e0.b9.length<=1000/\nm=e0.b9):=by
       match i,hx with
       | 0,hx=>cases hx; exact ⟨_,rfl,.inr ⟨a,ax,ok.1,by omega,by omega,rfl⟩⟩
       | 1,hx=>cases hx; exact ⟨_,rfl,.inr ⟨b,ay,ok.2,by omega,by omega,rfl⟩⟩
     have JV:vl.length<=1000:=by
       rw [Paired.length pr]
       have h1:((([a.b9,b.b9]:List (List (Str×Str))).take i).flatten).length<=(([a.b9,b.b9]:List (List (Str×Str))).flatten).length:=by
         have e:([a.b9,b.b9]:List (List (Str×Str))).flatten=(([a.b9,b.b9]:List (List (Str×Str))).take i).flatten++(([a.b9,b.b9]:List (List (Str×Str))).drop i).flatten:=by rw [← aaC,abq]
         rw [e,Z0]
         omega
       exact Z8 h1 (Z8 (show _<=(TW.E.two k a b).b9.length by simp [TW.E.b9]) hb)
     refine bo ?_
     rcases mY with ⟨k,rfl,rfl⟩ | ⟨e0,zZ,Io,d0,b0,rfl⟩
     · refine ⟨_,rfl,.int k,"tuple",_,false,rfl,.int k,rfl,_,rfl,iW ?_⟩
       refine ⟨⟨_,rfl⟩,s3,kH,vl,mZ,?_⟩
       rw [Z9,uA,aaC]
       show Paired _ vl (_++[])
       rw [aax]
       exact pr
     · obtain ⟨px,us,rfl,DP⟩:=zZ.Fc
       refine ⟨_,rfl,.ref px,"tuple",_,true,rfl,.tup (s3 _ _ DP),rfl,_,rfl,fR ?_⟩
       refine ⟨_,rfl,.inl ⟨rfl,_,ao.of mZ⟩,_,rfl,.ref px,e0,rfl,cE.keep (ag.tk s3) zZ,Io,d0,b0,fun l2 vJ H3 hl2 s4 g4 p4=>?_⟩
       have AA:=s4 _ _ mZ
       have tk:=TK.lst AA (o:=.lst (vl++vJ))
       refine ⟨fa,l2,_,_,rfl,rfl,AA,g4,Z8 (show _<=2000 by have:=Paired.length p4; omega) (by decide),⟨_,rfl⟩,aG (aa s3 s4) hfa,by rw [aj Ig]; exact s4 _ _ kH,vl++vJ,ae,?_⟩
       rw [Z9,uA,aaC]
       show Paired _ (vl++vJ) (_++(e0.b9++[]))
       rw [aax]
       exact Paired.app (Paired.aZ pr fun _ _ z=>b8.keep ((ag.tk s4).trans tk) z) (Paired.aZ p4 fun _ _ z=>b8.keep tk z)
   · obtain ⟨⟨pv,rfl⟩,s3,kH,vl,mZ,pr⟩:=z
     refine ⟨_,rfl,q fa vl H2 hfa s3 mZ ?_⟩
     rw [show (TW.E.two k a b).b9=(([a.b9,b.b9]:List (List (Str×Str))).take ([x1,x2]:List V).length).flatten by simp [TW.E.b9]]
     exact pr
theorem uT {f:Addr}{fd:aaf}:aP P w K mg base cK 1 f fd ["thing"] (eL 0):=by
 have no:∀vs H Q E,¬ eL 0 vs H Q E:=fun vs H Q E h=>by
   obtain ⟨_,_,_,_,_,h1,_⟩:=h
   omega
 exact ⟨fun vs H Q E h=>absurd h (no vs H Q E),fun A outer s H args us vs Q E _ _ _ _ h=>absurd h (no vs H Q E)⟩
theorem yb (s:Src K mg "_law_named" kL)(m_tuple:mg "tuple"=none)(m_isinstance:mg "isinstance"=none):∀n:Nat,aX P w K mg base "_law_named" ["thing"] (n + 1) (eL n):=by
 obtain ⟨f,fd,F,m⟩:=s
 have b:=F.binds (ps:=["thing"]) fun _ _ _ _ _ _ us hl=>match us,hl with | [_],_=>rfl
 intro n
 have all:aP P w K mg base cK (n + 1) f fd ["thing"] (eL n):=by
   induction n with
   | zero=>exact uT
   | succ n ih=>exact Bs F m_tuple m_isinstance ⟨f,fd,ih,F.kp,b,m⟩
 exact ⟨f,fd,all,F.kp,b,m⟩
abbrev nG:Stmt:=top 62
def fD (S:E->Prop)(d b:Nat)(H:Hp)(v:V):Prop:=∃e:E,cE H v e/\S e/\e≠.yes/\e.okIn ja/\e.dep<=d/\e.b9.length<=b
theorem fD.keep {S:E->Prop}{d b:Nat}{H H':Hp}{v:V}(h:fD S d b H v)(k:TK H H'):fD S d b H' v:=let ⟨e,a,r⟩:=h; ⟨e,cE.keep k a,r⟩
theorem fD.same {S:E->Prop}{d b:Nat}{H H':Hp}{v:V}(h:fD S d b H v)(s:ag H H'):fD S d b H' v:=h.keep (ag.tk s)
theorem fD.up {S:E->Prop}{d b d' b':Nat}{H:Hp}{v:V}(h:fD S d b H v)(hd:d<=d')(hb:b<=b'):fD S d' b' H v:=let ⟨e,a,s,n,o,x,y⟩:=h; ⟨e,a,s,n,o,by omega,by omega⟩
abbrev tM:=fD E.fQ 0 1
theorem nW {H:Hp}{p:Addr}{n:Int}(h:H p=some (.tup [.str "number",.int n]))(hn:n.natAbs < 2 ^ 100):fD E.fQ 0 0 H (.ref p):=⟨.num n,⟨p,rfl,h⟩,aat,(fun z=>nomatch z),hn,Z3 _,Z3 _⟩
theorem nV {H:Hp}{v:V}{b:Str×Str}(h:b8 H v b)(hb:b.1="mine"\/b.1="yours"):tM H v:=⟨.box b.1 b.2,h,aat,(fun z=>nomatch z),hb,Z3 _,Z3 _⟩
theorem dy {S S':E->Prop}{d b d' b':Nat}{H:Hp}{p:Addr}{x y:V}{k:K2}(hS:∀a b,S a->S b->S' (.two k a b))(h:H p=some (.tup [.str k.str,x,y]))(hx:fD S d b H x)(hy:fD S d' b' H y):fD S' (d + d' + 1) (b + b') H (.ref p):=by
 obtain ⟨e1,a1,s1,_,o1,d1,n1⟩:=hx
 obtain ⟨e2,a2,s2,_,o2,d2,n2⟩:=hy
 refine ⟨.two k e1 e2,⟨x,y,⟨p,rfl,h⟩,a1,a2⟩,hS _ _ s1 s2,(fun z=>nomatch z),⟨o1,o2⟩,?_,?_⟩
 · show max e1.dep e2.dep + 1<=_
   omega
 · show (e1.b9++e2.b9).length<=_
   rw [Z0]
   omega
theorem vF {d b:Nat}{H:Hp}{p:Addr}{x:V}(h:H p=some (.tup [.str "not",x]))(hx:fD E.gP d b H x):fD E.gP (d + 1) b H (.ref p):=by
 obtain ⟨e1,a1,s1,_,o1,d1,n1⟩:=hx
 exact ⟨.nt e1,⟨x,⟨p,rfl,h⟩,a1⟩,s1,(fun z=>nomatch z),o1,by show e1.dep + 1<=_; omega,n1⟩
def dH (H:Hp)(vl:List V):Prop:=∀v∈vl,tM H v
theorem dH.keep {H H':Hp}{vl:List V}(h:dH H vl)(k:TK H H'):dH H' vl:=fun v hv=>(h v hv).keep k
theorem dH.app {H:Hp}{xs ys:List V}(h:dH H xs)(k:dH H ys):dH H (xs++ys):=fun v hv=>(List.mem_append.mp hv).elim (h v) (k v)
theorem dH.rep {H:Hp}{xs:List V}(h:dH H xs)(k:Nat):dH H (aar k xs).flatten:=fun v hv=>by
 obtain ⟨ys,XO,hv⟩:=List.mem_flatten.mp hv
 rw [(List.mem_replicate.mp XO).2] at hv
 exact h v hv
theorem dH.one {H:Hp}{v:V}(h:tM H v):dH H [v]:=fun w hw=>by rw [List.mem_singleton.mp hw]; exact h
theorem dH.at {H:Hp}{xs:List V}(h:dH H xs){r:Int}(h0:0<=r)(h1:r < (xs.length:Int)):∃v,lQ xs r=some v/\tM H v:=by
 obtain ⟨v,gv,hv⟩:=qN (xs:=xs) h0 h1
 exact ⟨v,hv,h v (aab gv)⟩
def me:Sp:=fun vs H Q _=>∃(r ka:Addr) (row:List Int) (n:Nat) (vk:List V) (kn:List (Str×Str)),vs=[.ref r,.ref ka]/\H r=some (.lst (row.map V.int))/\Row (2 ^ 30) row n/\5<=n/\H ka=some (.lst vk)/\Paired (b8 H) vk kn/\vk.length<=20/\(∀b∈kn,b.1="mine"\/b.1="yours") /\
 ∀(v:V) (e:E) (H':Hp),ag H H'->cE H' v e->(e.fQ\/(e.gP/\e≠.yes))->e.okIn ja->e.dep < 20->e.b9.length<=1000->Q v H'
theorem dh:aD ["row","known","bad","side","name","turned","some","odd","one","other","first","menu"] ["row","known"] (ai nG):=⟨rfl,rfl,rfl,by decide +kernel,rfl,by decide +kernel,by decide +kernel⟩
theorem mW:aY nG "int":=by decide +kernel
theorem fk:aY nG "len":=by decide +kernel
theorem Bv {f:Addr}{fd:aaf}(F:dm K "_law_thing" "_law_thing" nG f fd)(m_int:mg "int"=none)(m_len:mg "len"=none):aP P w K mg base cK 1 f fd ["row","known"] me:=by
 refine F.ok dh (fun vs H Q E h=>?_) (fun cdv A outer s H vs Q E hr h=>?_)
 · obtain ⟨r,ka,row,n,vk,kn,rfl,_⟩:=h
   rfl
 obtain ⟨r,ka,row,n,vk,kn,rfl,CS,hR,n5,hk,pk,Y4,ktag,q⟩:=h
 obtain ⟨x0,a0,JW,Kt⟩:=hR.at (i:=0) (by decide) (by omega)
 obtain ⟨x1,a1,Ku,Kv⟩:=hR.at (i:=1) (by decide) (by omega)
 obtain ⟨x2,a2,Oq,Ot⟩:=hR.at (i:=2) (by decide) (by omega)
 obtain ⟨x3,a3,UK,UL⟩:=hR.at (i:=3) (by decide) (by omega)
 obtain ⟨x4,a4,RF,UM⟩:=hR.at (i:=4) (by decide) (by omega)
 obtain ⟨as,rfl⟩:=qz pk
 rw [ZX] at Y4
 have sH:=same_refl H
 have Pz:=hk
 have hr1:=CS
 refine kG ⟨_,(ad7 (aeh 2 dh.nd (aen (ad3 (aed (ad3 aeb (ad3 aeb ad5))) (ad3 (aed (ad3 aeb (ad3 aeb ad5))) (ad3 (aed (ad3 aeb (ad3 aeb ad5))) ad5)))))
   (ad7 (aeJ (aeA (ad4 1)) (aes 2 (aej (aee 3 dh.nd) (aej (aee 4 dh.nd) aet))) (ad7 (aeh 5 dh.nd (aed (ad3 (ad8 aeg (aen (ad3 aeb (ad3 aeb ad5))) (aew aeY mW m_int (by decide +kernel) (ad3 (aeE aeq (ad4 3) aeb) ad5))) (ad3 (ad4 4) ad5))))
   (aea (ael (aek (L3.Bj (m:=1) (bP hr _ (by decide))) (ad4 5) (ad4 1) (by rfl)) (aea (aeu (aeN (ad4 2) (ad3 (ad4 5) ad5)))) aem))))
   (ad7 (aeh 6 dh.nd (ad9 aeH (ad9 L3.wH (ad4 1) ad6) (ad9 L3.wH (aen (ad3 (aed (ad3 aeb (ad3 ad6 ad5))) ad5)) ad6)))
   (ad7 (aeh 7 dh.nd (ad9 aeH (ad4 6) (ad9 L3.wH (ad4 2) (aew aeY mW m_int (by decide +kernel) (ad3 (aeE aeq (ad9 aeo (ad8 aeg (ad4 0) ad6) ad6) ad6) ad5)))))
   (ad7 (aeh 8 dh.nd (ad8 aeg (ad4 7) (ad9 aeo (ad8 aeg (ad4 0) ad6) (aep aer fk m_len aad (ad3 (ad4 7) ad5)))))
   (ad7 (aeh 9 dh.nd (aed (ad3 aeb (ad3 (aed (ad3 aeb (ad3 (aed (ad3 aeb (ad3 ad6 ad5))) (ad3 (ad8 aeg (ad4 6) (ad9 aeo (ad8 aeg (ad4 0) ad6) (aep aer fk m_len aad (ad3 (ad4 6) ad5)))) ad5)))) (ad3 (ad8 aeg (ad4 7) (ad9 aeo (ad8 aeg (ad4 0) ad6) (aep aer fk m_len aad (ad3 (ad4 7) ad5)))) ad5)))))
   (ad7 (aeh 10 dh.nd (aed (ad3 aeb (ad3 (ad8 aeg (ad4 6) (ad9 aeo (ad8 aeg (ad4 0) ad6) (aep aer fk m_len aad (ad3 (ad4 6) ad5)))) (ad3 (aed (ad3 aeb (ad3 (ad9 aeo (ad8 aeg (ad4 0) ad6) ad6) ad5))) ad5)))))
   (ad7 (aeh 11 dh.nd (aen (ad3 (ad4 8) (ad3 (ad4 9) (ad3 (aed (ad3 aeb (ad3 (ad4 8) (ad3 (ad4 9) ad5)))) (ad3 (aed (ad3 aeb (ad3 (ad4 9) (ad3 (aed (ad3 aeb (ad3 ad6 ad5))) ad5)))) ad5))))))
   (ad7 (aeu (aeN (ad4 11) (ad3 (aed (ad3 aeb (ad3 (ad4 10) (ad3 (aed (ad3 aeb (ad3 (ad4 8) (ad3 (ad4 9) ad5)))) ad5)))) ad5)))
   (ad7 (aeu (aeN (ad4 11) (ad3 (aed (ad3 aeb (ad3 (aed (ad3 aeb (ad3 (aed (ad3 aeb (ad3 (ad4 10) ad5))) (ad3 (aed (ad3 aeb (ad3 (aed (ad3 aeb (ad3 (ad4 8) (ad3 (ad4 8) ad5)))) ad5))) ad5)))) ad5))) ad5)))
   (ad7 (aeu (aeN (ad4 11) (ad3 (aed (ad3 aeb (ad3 (ad4 10) (ad3 (aed (ad3 aeb (ad3 (ad4 9) (ad3 (ad4 8) ad5)))) ad5)))) ad5)))
   (ad7 (aeu (aeN (ad4 11) (ad3 (aed (ad3 aeb (ad3 (aed (ad3 aeb (ad3 (ad4 8) (ad3 (aed (ad3 aeb (ad3 ad6 ad5))) ad5)))) (ad3 (ad8 aeg (ad4 6) ad6) ad5)))) ad5)))
   (aea (aec (ad8 aeg (ad4 11) (ad9 aeo (ad8 aeg (ad4 0) ad6) ad6)))))))))))))))),?_⟩
 refine ⟨agd,fun b0 wj=>?_⟩
 obtain ⟨H1,z,g,zz⟩:=aJ wj (.tup [.str "mine",.str "qq"])
 rw [zz]; clear zz
 replace hk:=z _ _ hk
 replace hr1:=z _ _ hr1
 replace sH:=aa sH z
 have f0:tM H1 (.ref b0):=nV (b:=("mine","qq")) ⟨b0,rfl,g⟩ (by decide)
 clear z g
 refine ⟨agd,fun b1 zr=>?_⟩
 obtain ⟨H2,z,g,zz⟩:=aJ zr (.tup [.str "yours",.str "qq"])
 rw [zz]; clear zz
 replace hk:=z _ _ hk
 replace hr1:=z _ _ hr1
 replace f0:=f0.same z
 replace sH:=aa sH z
 have f1:tM H2 (.ref b1):=nV (b:=("yours","qq")) ⟨b1,rfl,g⟩ (by decide)
 clear z g
 refine ⟨agd,fun b2 n6=>?_⟩
 obtain ⟨H3,z,g,zz⟩:=aJ n6 (.tup [.str "mine",.str "w"])
 rw [zz]; clear zz
 replace hk:=z _ _ hk
 replace hr1:=z _ _ hr1
 replace f0:=f0.same z
 replace f1:=f1.same z
 replace sH:=aa sH z
 have f2:tM H3 (.ref b2):=nV (b:=("mine","w")) ⟨b2,rfl,g⟩ (by decide)
 clear z g
 refine ⟨age,fun ba Ta=>?_⟩
 have Ic:H ba=none:=aq sH Ta
 obtain ⟨H4,z,V3,zz⟩:=aJ Ta (.lst [.ref b0,.ref b1,.ref b2])
 rw [zz]; clear zz
 replace hk:=z _ _ hk
 replace hr1:=z _ _ hr1
 replace f0:=f0.same z
 replace f1:=f1.same z
 replace f2:=f2.same z
 replace sH:=aa sH z
 clear z
 have Sj:dH H4 [.ref b0,.ref b1,.ref b2]:=fun v hv=>by
   rcases List.mem_cons.mp hv with rfl | hv
   · exact f0
   rcases List.mem_cons.mp hv with rfl | hv
   · exact f1
   rw [List.mem_singleton.mp hv]
   exact f2
 clear f0 f1 f2
 refine ⟨_,rfl,ka,rfl,⟨_,ao.of hk⟩,?_⟩
 refine fU (xs:=as.map V.ref) (fun i σ Hx=>(∃sv nv tv,σ=[some (.ref r),some (.ref ka),some (.ref ba),sv,nv,tv,none,none,none,none,none,none])/\ag H Hx/\∃vl,Hx ba=some (.lst vl)/\dH Hx vl/\vl.length<=3 + i) ⟨⟨_,_,_,rfl⟩,sH,_,V3,Sj,Z3 _⟩ (fun i σ Hx _ z=>ao.of (z.2.1 _ _ Pz)) (fun i x σ Hx hx z=>?_) (fun σ Hx z=>?_)
 · obtain ⟨⟨sv,nv,tv,rfl⟩,sx,vl,hb,al,JV⟩:=z
   obtain ⟨b,fP,p,rfl,hp⟩:=Paired.get pk hx
   have dP:=(List.getElem?_eq_some_iff.mp hx).1
   rw [ZX] at dP
   have tg:=ktag b (aab fP)
   refine ⟨p,_,rfl,aK.of (sx _ _ hp),rfl,_,_,rfl,_,_,rfl,rfl,?_⟩
   refine ⟨agd,fun ml Lv=>?_⟩
   obtain ⟨Zb,sm,gm,zz⟩:=aJ Lv (.lst [.str "mine",.str "yours"])
   rw [zz]; clear zz
   obtain ⟨t0,Xz,O6⟩ : ∃t0:Str,(t0="mine"\/t0="yours")/\lQ [V.str "mine",V.str "yours"] (if decide (V.str b.1=V.str "mine")=true then 1 else 0)=some (.str t0):=by
     by_cases c:decide (V.str b.1=V.str "mine")=true
     · rw [if_pos c]
       exact ⟨"yours",.inr rfl,rfl⟩
     · rw [if_neg c]
       exact ⟨"mine",.inl rfl,rfl⟩
   refine ⟨_,rfl,rfl,.inr ⟨_,rfl,ml,_,_,_,rfl,rfl,ao.of gm,O6,_,rfl,agd,fun tp uG=>?_⟩⟩
   obtain ⟨Oy,st,gt,zz⟩:=aJ uG (.tup [.str t0,.str b.2])
   rw [zz]; clear zz
   have Rz:=aa sm st
   have sxt:=aa sx Rz
   have YU:∀a∈as,EB K Oy 1 (.ref a) (.ref tp) (twoF Oy t0 b.2 a):=fun a ha=>by
     obtain ⟨j,hj⟩:=List.mem_iff_getElem?.mp ha
     obtain ⟨bb,_,p',e',h'⟩:=Paired.get pk (show (as.map V.ref)[j]? = some (.ref a) by rw [aaq,hj]; rfl)
     cases e'
     exact two_eb (sxt _ _ h') gt
   refine ⟨_,rfl,_,rfl,ka,as,twoF Oy t0 b.2,rfl,ao.of (sxt _ _ Pz),YU,_,rfl,?_⟩
   have zr:=Rz _ _ hb
   have Si:=al.keep (ag.tk Rz)
   refine aF (fun _=>?_) (fun _=>?_)
   · refine ⟨_,rfl,.inl ⟨rfl,_,ao.of zr⟩,_,rfl,ba,vl,_,rfl,rfl,zr,aB (by omega),⟨_,_,_,rfl⟩,aG sxt Ic,_,ae,?_,by rw [Z0]; show _ + 1<=_; omega⟩
     have tk:=TK.lst zr (o:=.lst (vl++[.ref tp]))
     exact (Si.keep tk).app (dH.one ((nV (b:=(t0,b.2)) ⟨tp,rfl,gt⟩ Xz).keep tk))
   · exact ⟨⟨_,_,_,rfl⟩,sxt,vl,zr,Si,by omega⟩
 obtain ⟨⟨sv,nv,tv,rfl⟩,sH,vl,hb,al,JV⟩:=z
 rw [ZX] at JV
 have hk:=sH _ _ Pz
 have hr1:=sH _ _ CS
 have zv:dH Hx (as.map V.ref):=fun v hv=>by
   obtain ⟨j,hj⟩:=List.mem_iff_getElem?.mp hv
   obtain ⟨bb,hbb,h'⟩:=Paired.get pk hj
   exact (nV h' (ktag bb (aab hbb))).same sH
 obtain ⟨xs1,NB⟩ : ∃xs1,xs1=(aar (3:Int).toNat (as.map V.ref)).flatten:=⟨_,rfl⟩
 have X4:xs1.length=3 * as.length:=by rw [NB]; exact (L2.len_rep _ 3).trans (by rw [ZX])
 have tP:dH Hx xs1:=by rw [NB]; exact zv.rep 3
 refine ⟨_,rfl,ka,3,_,rfl,rfl,hk,(by decide),(by decide),Z8 (show _<=60 by rw [ZX]; show as.length * 3<=60; omega) (by decide),?_⟩
 rw [← NB]
 clear NB
 refine fun k3 FI=>?_
 obtain ⟨H5,z,g1,zz⟩:=aJ FI (.lst (xs1))
 rw [zz]; clear zz
 replace hk:=z _ _ hk
 replace hr1:=z _ _ hr1
 replace hb:=z _ _ hb
 replace sH:=aa sH z
 replace al:=al.keep (ag.tk z)
 replace zv:=zv.keep (ag.tk z)
 replace tP:=tP.keep (ag.tk z)
 clear z
 refine ⟨agd,fun n3 P7=>?_⟩
 obtain ⟨H6,z,g,zz⟩:=aJ P7 (.tup [.str "number",.int 3])
 rw [zz]; clear zz
 replace hk:=z _ _ hk
 replace hr1:=z _ _ hr1
 replace hb:=z _ _ hb
 replace g1:=z _ _ g1
 replace sH:=aa sH z
 replace al:=al.keep (ag.tk z)
 replace zv:=zv.keep (ag.tk z)
 replace tP:=tP.keep (ag.tk z)
 have fn:fD TW.E.fQ 0 0 H6 (.ref n3):=nW g (by decide)
 clear z g
 have Fq:dH H6 [.ref n3]:=dH.one (fn.up (Z3 _) (aaI _))
 clear fn
 refine ⟨agc,fun X5 P5=>?_⟩
 obtain ⟨H7,z,g2,zz⟩:=aJ P5 (.lst ([.ref n3]))
 rw [zz]; clear zz
 replace hk:=z _ _ hk
 replace hr1:=z _ _ hr1
 replace hb:=z _ _ hb
 replace g1:=z _ _ g1
 replace sH:=aa sH z
 replace al:=al.keep (ag.tk z)
 replace zv:=zv.keep (ag.tk z)
 replace tP:=tP.keep (ag.tk z)
 replace Fq:=Fq.keep (ag.tk z)
 clear z
 obtain ⟨xs2,NC⟩ : ∃xs2,xs2=(aar (3:Int).toNat [V.ref n3]).flatten:=⟨_,rfl⟩
 have ln2:xs2.length=3:=by rw [NC]; rfl
 have at2:dH H7 xs2:=by rw [NC]; exact Fq.rep 3
 refine ⟨X5,3,_,rfl,rfl,g2,(by decide),(by decide),Z8 (show _<=3 from Z3 3) (by decide),?_⟩
 rw [← NC]
 clear NC
 refine fun k4 CQ=>?_
 obtain ⟨H8,z,g3,zz⟩:=aJ CQ (.lst (xs2))
 rw [zz]; clear zz
 replace hk:=z _ _ hk
 replace hr1:=z _ _ hr1
 replace hb:=z _ _ hb
 replace g1:=z _ _ g1
 replace g2:=z _ _ g2
 replace sH:=aa sH z
 replace al:=al.keep (ag.tk z)
 replace zv:=zv.keep (ag.tk z)
 replace tP:=tP.keep (ag.tk z)
 replace Fq:=Fq.keep (ag.tk z)
 replace at2:=at2.keep (ag.tk z)
 clear z
 obtain ⟨ss,es⟩ : ∃ss,ss=xs1++xs2:=⟨_,rfl⟩
 have ZE:ss.length=3 * as.length + 3:=by rw [es,Z0,X4,ln2]
 have cQ:dH H8 ss:=by rw [es]; exact tP.app at2
 refine ⟨k3,k4,_,_,rfl,rfl,g1,g3,Z8 (show _<=63 by omega) (by decide),?_⟩
 rw [← es]
 clear es
 refine fun sa rP=>?_
 obtain ⟨H9,z,hs,zz⟩:=aJ rP (.lst (ss))
 rw [zz]; clear zz
 replace hk:=z _ _ hk
 replace hr1:=z _ _ hr1
 replace hb:=z _ _ hb
 replace g1:=z _ _ g1
 replace g2:=z _ _ g2
 replace g3:=z _ _ g3
 replace sH:=aa sH z
 replace al:=al.keep (ag.tk z)
 replace zv:=zv.keep (ag.tk z)
 replace tP:=tP.keep (ag.tk z)
 replace Fq:=Fq.keep (ag.tk z)
 replace at2:=at2.keep (ag.tk z)
 replace cQ:=cQ.keep (ag.tk z)
 clear z
 clear g1 g2 g3 Fq tP at2 zv
 refine bo ?_
 refine b7 [some (.ref r),some (.ref ka),some (.ref ba),sv,nv,tv,some (.ref sa),none,none,none,none,none] rfl ?_
 obtain ⟨c3,Vq⟩ : ∃c3,c3=decide (V.int (x3 % 3)=V.int 0):=⟨_,rfl⟩
 obtain ⟨k0,OR⟩ : ∃k0:Int,k0=if decide (V.int (x3 % 3)=V.int 0)=true then 1 else 0:=⟨_,rfl⟩
 have XY:0<=k0/\k0<=1:=by rw [OR]; split <;> decide
 obtain ⟨xs4,NF⟩ : ∃xs4,xs4=(aar k0.toNat vl).flatten:=⟨_,rfl⟩
 have ZC:xs4.length<=23:=by
   rw [NF,L2.len_rep]
   have:k0.toNat<=1:=by omega
   exact Z8 (Nat.mul_le_mul_right _ this) (by omega)
 have J7:dH H9 xs4:=by rw [NF]; exact al.rep _
 refine ⟨_,rfl,_,rfl,_,rfl,r,_,_,_,rfl,rfl,ao.of hr1,a3,_,_,rfl,rfl,(by show (0:Int) < 3; decide),rfl,.inr ⟨_,rfl,ba,k0,vl,rfl,(by rw [OR]),hb,(by omega),acV XY.2 (by decide),?_,?_⟩⟩
 · have:k0.toNat<=1:=by omega
   exact Z8 (Nat.mul_le_mul_left _ this) (Z8 (show _<=23 by omega) (by decide))
 rw [← NF]
 clear NF OR Vq
 refine fun k5 W3=>?_
 obtain ⟨GG,z,g4,zz⟩:=aJ W3 (.lst (xs4))
 rw [zz]; clear zz
 replace hk:=z _ _ hk
 replace hr1:=z _ _ hr1
 replace hb:=z _ _ hb
 replace hs:=z _ _ hs
 replace sH:=aa sH z
 replace al:=al.keep (ag.tk z)
 replace cQ:=cQ.keep (ag.tk z)
 replace J7:=J7.keep (ag.tk z)
 clear z
 obtain ⟨os,eo⟩ : ∃os,os=ss++xs4:=⟨_,rfl⟩
 have ZD:3<=os.length/\os.length<=100:=by rw [eo,Z0]; omega
 have mx:dH GG os:=by rw [eo]; exact cQ.app J7
 refine ⟨sa,k5,_,_,rfl,rfl,hs,g4,Z8 (show _<=100 by omega) (by decide),?_⟩
 rw [← eo]
 clear eo
 refine fun oa Lw=>?_
 obtain ⟨Ow,z,ho,zz⟩:=aJ Lw (.lst (os))
 rw [zz]; clear zz
 replace hk:=z _ _ hk
 replace hr1:=z _ _ hr1
 replace hb:=z _ _ hb
 replace hs:=z _ _ hs
 replace g4:=z _ _ g4
 replace sH:=aa sH z
 replace al:=al.keep (ag.tk z)
 replace cQ:=cQ.keep (ag.tk z)
 replace J7:=J7.keep (ag.tk z)
 replace mx:=mx.keep (ag.tk z)
 clear z
 clear g4 J7 al hb
 refine bo ?_
 refine b7 [some (.ref r),some (.ref ka),some (.ref ba),sv,nv,tv,some (.ref sa),some (.ref oa),none,none,none,none] rfl ?_
 obtain ⟨v1,Vv,f1⟩:=mx.at (r:=x0 % (os.length:Int)) (aaj _ (by omega)) (aac _ (by omega))
 refine ⟨_,rfl,_,rfl,r,_,_,_,rfl,rfl,ao.of hr1,a0,_,rfl,oa,_,rfl,.inl (ao.of ho),_,_,rfl,rfl,(by show (0:Int) < (os.length:Int); omega),oa,_,_,_,rfl,rfl,ao.of ho,Vv,?_⟩
 refine bo ?_
 refine b7 [some (.ref r),some (.ref ka),some (.ref ba),sv,nv,tv,some (.ref sa),some (.ref oa),some v1,none,none,none] rfl ?_
 refine ⟨agd,fun q1 oA=>?_⟩
 obtain ⟨Nm,z,g,zz⟩:=aJ oA (.tup [.str "number",.int 1])
 rw [zz]; clear zz
 replace hk:=z _ _ hk
 replace hr1:=z _ _ hr1
 replace hs:=z _ _ hs
 replace ho:=z _ _ ho
 replace f1:=f1.same z
 replace sH:=aa sH z
 replace cQ:=cQ.keep (ag.tk z)
 replace mx:=mx.keep (ag.tk z)
 have h1:fD TW.E.fQ 0 0 Nm (.ref q1):=nW g (by decide)
 clear z g
 obtain ⟨v2,Vw,f2⟩:=cQ.at (r:=x1 % (ss.length:Int)) (aaj _ (by omega)) (aac _ (by omega))
 refine ⟨_,rfl,_,rfl,r,_,_,_,rfl,rfl,ao.of hr1,a1,_,rfl,sa,_,rfl,.inl (ao.of hs),_,_,rfl,rfl,(by show (0:Int) < (ss.length:Int); omega),sa,_,_,_,rfl,rfl,ao.of hs,Vw,age,fun q2 oB=>?_⟩
 obtain ⟨RT,z,g,zz⟩:=aJ oB (.tup [.str "less",.ref q1,v2])
 rw [zz]; clear zz
 replace hk:=z _ _ hk
 replace hr1:=z _ _ hr1
 replace hs:=z _ _ hs
 replace ho:=z _ _ ho
 replace f1:=f1.same z
 replace h1:=h1.same z
 replace f2:=f2.same z
 replace sH:=aa sH z
 replace cQ:=cQ.keep (ag.tk z)
 replace mx:=mx.keep (ag.tk z)
 have h2:fD TW.E.fQ 1 1 RT (.ref q2):=dy (k:=.less) (fun _ _ a b=>⟨a,b⟩) g h1 f2
 clear z g
 obtain ⟨v3,OY,f3⟩:=mx.at (r:=x2 % (os.length:Int)) (aaj _ (by omega)) (aac _ (by omega))
 refine ⟨_,rfl,_,rfl,r,_,_,_,rfl,rfl,ao.of hr1,a2,_,rfl,oa,_,rfl,.inl (ao.of ho),_,_,rfl,rfl,(by show (0:Int) < (os.length:Int); omega),oa,_,_,_,rfl,rfl,ao.of ho,OY,age,fun q3 LD=>?_⟩
 obtain ⟨RV,z,g,zz⟩:=aJ LD (.tup [.str "plus",.ref q2,v3])
 rw [zz]; clear zz
 replace hk:=z _ _ hk
 replace hr1:=z _ _ hr1
 replace hs:=z _ _ hs
 replace ho:=z _ _ ho
 replace f1:=f1.same z
 replace h1:=h1.same z
 replace f2:=f2.same z
 replace h2:=h2.same z
 replace f3:=f3.same z
 replace sH:=aa sH z
 replace cQ:=cQ.keep (ag.tk z)
 replace mx:=mx.keep (ag.tk z)
 have h3:fD TW.E.fQ 2 2 RV (.ref q3):=dy (k:=.plus) (fun _ _ a b=>⟨a,b⟩) g h2 f3
 clear z g
 clear h1 h2 f3
 refine bo ?_
 refine b7 [some (.ref r),some (.ref ka),some (.ref ba),sv,nv,tv,some (.ref sa),some (.ref oa),some v1,some (.ref q3),none,none] rfl ?_
 have m2:(x2 % 2).natAbs < 2 ^ 100:=abJ (show _<=2 by omega) (by decide)
 obtain ⟨v4,Vx,f4⟩:=cQ.at (r:=x1 % (ss.length:Int)) (aaj _ (by omega)) (aac _ (by omega))
 refine ⟨_,rfl,_,rfl,r,_,_,_,rfl,rfl,ao.of hr1,a1,_,rfl,sa,_,rfl,.inl (ao.of hs),_,_,rfl,rfl,(by show (0:Int) < (ss.length:Int); omega),sa,_,_,_,rfl,rfl,ao.of hs,Vx,_,rfl,r,_,_,_,rfl,rfl,ao.of hr1,a2,_,_,rfl,rfl,(by show (0:Int) < 2; decide),agd,fun q4 Xo=>?_⟩
 obtain ⟨RX,z,g,zz⟩:=aJ Xo (.tup [.str "number",.int (x2 % 2)])
 rw [zz]; clear zz
 replace hk:=z _ _ hk
 replace hr1:=z _ _ hr1
 replace hs:=z _ _ hs
 replace ho:=z _ _ ho
 replace f1:=f1.same z
 replace f2:=f2.same z
 replace h3:=h3.same z
 replace f4:=f4.same z
 replace sH:=aa sH z
 replace cQ:=cQ.keep (ag.tk z)
 replace mx:=mx.keep (ag.tk z)
 have h4:fD TW.E.fQ 0 0 RX (.ref q4):=nW g m2
 clear z g
 refine ⟨age,fun q5 Xp=>?_⟩
 obtain ⟨RY,z,g,zz⟩:=aJ Xp (.tup [.str "same",v4,.ref q4])
 rw [zz]; clear zz
 replace hk:=z _ _ hk
 replace hr1:=z _ _ hr1
 replace hs:=z _ _ hs
 replace ho:=z _ _ ho
 replace f1:=f1.same z
 replace f2:=f2.same z
 replace h3:=h3.same z
 replace f4:=f4.same z
 replace h4:=h4.same z
 replace sH:=aa sH z
 replace cQ:=cQ.keep (ag.tk z)
 replace mx:=mx.keep (ag.tk z)
 have h5:fD TW.E.gP 1 1 RY (.ref q5):=dy (k:=.same) (fun _ _ a b=>⟨a,b⟩) g f4 h4
 clear z g
 clear h4 f4
 refine bo ?_
 refine b7 [some (.ref r),some (.ref ka),some (.ref ba),sv,nv,tv,some (.ref sa),some (.ref oa),some v1,some (.ref q3),some (.ref q5),none] rfl ?_
 refine ⟨_,rfl,_,rfl,_,rfl,_,rfl,age,fun q6 Xq=>?_⟩
 obtain ⟨RZ,z,g,zz⟩:=aJ Xq (.tup [.str "same",v1,.ref q3])
 rw [zz]; clear zz
 replace hk:=z _ _ hk
 replace hr1:=z _ _ hr1
 replace hs:=z _ _ hs
 replace ho:=z _ _ ho
 replace f1:=f1.same z
 replace f2:=f2.same z
 replace h3:=h3.same z
 replace h5:=h5.same z
 replace sH:=aa sH z
 replace cQ:=cQ.keep (ag.tk z)
 replace mx:=mx.keep (ag.tk z)
 have h6:fD TW.E.gP 3 3 RZ (.ref q6):=dy (k:=.same) (fun _ _ a b=>⟨a,b⟩) g f1 h3
 clear z g
 refine ⟨_,rfl,agd,fun q7 Xr=>?_⟩
 obtain ⟨R0,z,g,zz⟩:=aJ Xr (.tup [.str "number",.int 2])
 rw [zz]; clear zz
 replace hk:=z _ _ hk
 replace hr1:=z _ _ hr1
 replace hs:=z _ _ hs
 replace ho:=z _ _ ho
 replace f1:=f1.same z
 replace f2:=f2.same z
 replace h3:=h3.same z
 replace h5:=h5.same z
 replace h6:=h6.same z
 replace sH:=aa sH z
 replace cQ:=cQ.keep (ag.tk z)
 replace mx:=mx.keep (ag.tk z)
 have h7:fD TW.E.fQ 0 0 R0 (.ref q7):=nW g (by decide)
 clear z g
 refine ⟨age,fun q8 Xs=>?_⟩
 obtain ⟨R1,z,g,zz⟩:=aJ Xs (.tup [.str "under",.ref q3,.ref q7])
 rw [zz]; clear zz
 replace hk:=z _ _ hk
 replace hr1:=z _ _ hr1
 replace hs:=z _ _ hs
 replace ho:=z _ _ ho
 replace f1:=f1.same z
 replace f2:=f2.same z
 replace h3:=h3.same z
 replace h5:=h5.same z
 replace h6:=h6.same z
 replace h7:=h7.same z
 replace sH:=aa sH z
 replace cQ:=cQ.keep (ag.tk z)
 replace mx:=mx.keep (ag.tk z)
 have h8:fD TW.E.gP 3 2 R1 (.ref q8):=dy (k:=.under) (fun _ _ a b=>⟨a,b⟩) g h3 h7
 clear z g
 clear h7
 refine ⟨agf,fun mm NT=>?_⟩
 have nm:H mm=none:=aq sH NT
 have N7:sa≠mm:=ah hs NT
 have N6:r≠mm:=ah hr1 NT
 obtain ⟨R3,z,hm,zz⟩:=aJ NT (.lst [v1,.ref q3,.ref q6,.ref q8])
 rw [zz]; clear zz
 replace hk:=z _ _ hk
 replace hr1:=z _ _ hr1
 replace hs:=z _ _ hs
 replace ho:=z _ _ ho
 replace f1:=f1.same z
 replace f2:=f2.same z
 replace h3:=h3.same z
 replace h5:=h5.same z
 replace h6:=h6.same z
 replace h8:=h8.same z
 replace sH:=aa sH z
 replace cQ:=cQ.keep (ag.tk z)
 replace mx:=mx.keep (ag.tk z)
 clear z
 refine bo ?_
 refine b7 [some (.ref r),some (.ref ka),some (.ref ba),sv,nv,tv,some (.ref sa),some (.ref oa),some v1,some (.ref q3),some (.ref q5),some (.ref mm)] rfl ?_
 clear hk ho mx
 refine ⟨_,rfl,.inl ⟨rfl,_,ao.of hm⟩,_,rfl,_,rfl,_,rfl,age,fun w1 LN=>?_⟩
 obtain ⟨R4,z,g,zz⟩:=aJ LN (.tup [.str "under",v1,.ref q3])
 rw [zz]; clear zz
 replace hr1:=z _ _ hr1
 replace hs:=z _ _ hs
 replace hm:=z _ _ hm
 replace f1:=f1.same z
 replace f2:=f2.same z
 replace h3:=h3.same z
 replace h5:=h5.same z
 replace h6:=h6.same z
 replace h8:=h8.same z
 replace sH:=aa sH z
 replace cQ:=cQ.keep (ag.tk z)
 have j1:fD TW.E.gP 3 3 R4 (.ref w1):=dy (k:=.under) (fun _ _ a b=>⟨a,b⟩) g f1 h3
 clear z g
 refine ⟨age,fun w2 Kj=>?_⟩
 obtain ⟨zm,z,g,zz⟩:=aJ Kj (.tup [.str "both",.ref q5,.ref w1])
 rw [zz]; clear zz
 replace hr1:=z _ _ hr1
 replace hs:=z _ _ hs
 replace hm:=z _ _ hm
 replace f1:=f1.same z
 replace f2:=f2.same z
 replace h3:=h3.same z
 replace h5:=h5.same z
 replace h6:=h6.same z
 replace h8:=h8.same z
 replace j1:=j1.same z
 replace sH:=aa sH z
 replace cQ:=cQ.keep (ag.tk z)
 have j2:fD TW.E.gP 5 4 zm (.ref w2):=dy (k:=.both) (fun _ _ a b=>⟨a,b⟩) g h5 j1
 clear z g
 clear j1
 refine ⟨mm,_,_,rfl,rfl,hm,aB (by show 4<=1000; decide),?_⟩
 have tk:TK zm (upd zm mm (.lst [v1,.ref q3,.ref q6,.ref q8,.ref w2])):=TK.lst hm
 have hm2:(upd zm mm (.lst [v1,.ref q3,.ref q6,.ref q8,.ref w2])) mm=some (.lst [v1,.ref q3,.ref q6,.ref q8,.ref w2]):=ae
 have vm:ag H (upd zm mm (.lst [v1,.ref q3,.ref q6,.ref q8,.ref w2])):=aG sH nm
 have hs2:(upd zm mm (.lst [v1,.ref q3,.ref q6,.ref q8,.ref w2])) sa=some (.lst ss):=by rw [aj N7]; exact hs
 have m3:(upd zm mm (.lst [v1,.ref q3,.ref q6,.ref q8,.ref w2])) r=some (.lst (row.map V.int)):=by rw [aj N6]; exact hr1
 show _
 generalize e9:upd zm mm (.lst [v1,.ref q3,.ref q6,.ref q8,.ref w2])=R5 at tk hm2 vm hs2 m3
 rw [show upd zm mm (.lst ([v1,.ref q3,.ref q6,.ref q8]++[.ref w2]))=R5 from e9]
 clear e9
 replace f1:=f1.keep tk
 replace f2:=f2.keep tk
 replace h3:=h3.keep tk
 replace h5:=h5.keep tk
 replace h6:=h6.keep tk
 replace h8:=h8.keep tk
 replace j2:=j2.keep tk
 replace cQ:=cQ.keep tk
 clear sH hm hs hr1
 have sH:=vm
 have hm:=hm2
 have hs:=hs2
 have hr1:=m3
 clear tk vm hm2 hs2 m3
 refine ⟨_,rfl,.inl ⟨rfl,_,ao.of hm⟩,_,rfl,agd,fun w3 Kk=>?_⟩
 obtain ⟨R6,z,g,zz⟩:=aJ Kk (.tup [.str "not",.ref q5])
 rw [zz]; clear zz
 replace hr1:=z _ _ hr1
 replace hs:=z _ _ hs
 replace hm:=z _ _ hm
 replace f1:=f1.same z
 replace f2:=f2.same z
 replace h3:=h3.same z
 replace h5:=h5.same z
 replace h6:=h6.same z
 replace h8:=h8.same z
 replace j2:=j2.same z
 replace sH:=aa sH z
 replace cQ:=cQ.keep (ag.tk z)
 have j3:fD TW.E.gP 2 1 R6 (.ref w3):=vF g h5
 clear z g
 refine ⟨_,rfl,_,rfl,age,fun w4 XG=>?_⟩
 obtain ⟨Nn,z,g,zz⟩:=aJ XG (.tup [.str "same",v1,v1])
 rw [zz]; clear zz
 replace hr1:=z _ _ hr1
 replace hs:=z _ _ hs
 replace hm:=z _ _ hm
 replace f1:=f1.same z
 replace f2:=f2.same z
 replace h3:=h3.same z
 replace h5:=h5.same z
 replace h6:=h6.same z
 replace h8:=h8.same z
 replace j2:=j2.same z
 replace j3:=j3.same z
 replace sH:=aa sH z
 replace cQ:=cQ.keep (ag.tk z)
 have j4:fD TW.E.gP 1 2 Nn (.ref w4):=dy (k:=.same) (fun _ _ a b=>⟨a,b⟩) g f1 f1
 clear z g
 refine ⟨agd,fun w5 XH=>?_⟩
 obtain ⟨R7,z,g,zz⟩:=aJ XH (.tup [.str "not",.ref w4])
 rw [zz]; clear zz
 replace hr1:=z _ _ hr1
 replace hs:=z _ _ hs
 replace hm:=z _ _ hm
 replace f1:=f1.same z
 replace f2:=f2.same z
 replace h3:=h3.same z
 replace h5:=h5.same z
 replace h6:=h6.same z
 replace h8:=h8.same z
 replace j2:=j2.same z
 replace j3:=j3.same z
 replace j4:=j4.same z
 replace sH:=aa sH z
 replace cQ:=cQ.keep (ag.tk z)
 have j5:fD TW.E.gP 2 2 R7 (.ref w5):=vF g j4
 clear z g
 refine ⟨age,fun w6 LO=>?_⟩
 obtain ⟨R8,z,g,zz⟩:=aJ LO (.tup [.str "both",.ref w3,.ref w5])
 rw [zz]; clear zz
 replace hr1:=z _ _ hr1
 replace hs:=z _ _ hs
 replace hm:=z _ _ hm
 replace f1:=f1.same z
 replace f2:=f2.same z
 replace h3:=h3.same z
 replace h5:=h5.same z
 replace h6:=h6.same z
 replace h8:=h8.same z
 replace j2:=j2.same z
 replace j3:=j3.same z
 replace j4:=j4.same z
 replace j5:=j5.same z
 replace sH:=aa sH z
 replace cQ:=cQ.keep (ag.tk z)
 have j6:fD TW.E.gP 5 3 R8 (.ref w6):=dy (k:=.both) (fun _ _ a b=>⟨a,b⟩) g j3 j5
 clear z g
 refine ⟨agd,fun w7 XI=>?_⟩
 obtain ⟨CJ,z,g,zz⟩:=aJ XI (.tup [.str "not",.ref w6])
 rw [zz]; clear zz
 replace hr1:=z _ _ hr1
 replace hs:=z _ _ hs
 replace hm:=z _ _ hm
 replace f1:=f1.same z
 replace f2:=f2.same z
 replace h3:=h3.same z
 replace h5:=h5.same z
 replace h6:=h6.same z
 replace h8:=h8.same z
 replace j2:=j2.same z
 replace j3:=j3.same z
 replace j4:=j4.same z
 replace j5:=j5.same z
 replace j6:=j6.same z
 replace sH:=aa sH z
 replace cQ:=cQ.keep (ag.tk z)
 have j7:fD TW.E.gP 6 3 CJ (.ref w7):=vF g j6
 clear z g
 clear j3 j4 j5 j6
 refine ⟨mm,_,_,rfl,rfl,hm,aB (by show 5<=1000; decide),?_⟩
 have tk:TK CJ (upd CJ mm (.lst [v1,.ref q3,.ref q6,.ref q8,.ref w2,.ref w7])):=TK.lst hm
 have hm2:(upd CJ mm (.lst [v1,.ref q3,.ref q6,.ref q8,.ref w2,.ref w7])) mm=some (.lst [v1,.ref q3,.ref q6,.ref q8,.ref w2,.ref w7]):=ae
 have vm:ag H (upd CJ mm (.lst [v1,.ref q3,.ref q6,.ref q8,.ref w2,.ref w7])):=aG sH nm
 have hs2:(upd CJ mm (.lst [v1,.ref q3,.ref q6,.ref q8,.ref w2,.ref w7])) sa=some (.lst ss):=by rw [aj N7]; exact hs
 have m3:(upd CJ mm (.lst [v1,.ref q3,.ref q6,.ref q8,.ref w2,.ref w7])) r=some (.lst (row.map V.int)):=by rw [aj N6]; exact hr1
 show _
 generalize e9:upd CJ mm (.lst [v1,.ref q3,.ref q6,.ref q8,.ref w2,.ref w7])=R9 at tk hm2 vm hs2 m3
 rw [show upd CJ mm (.lst ([v1,.ref q3,.ref q6,.ref q8,.ref w2]++[.ref w7]))=R9 from e9]
 clear e9
 replace f1:=f1.keep tk
 replace f2:=f2.keep tk
 replace h3:=h3.keep tk
 replace h5:=h5.keep tk
 replace h6:=h6.keep tk
 replace h8:=h8.keep tk
 replace j2:=j2.keep tk
 replace j7:=j7.keep tk
 replace cQ:=cQ.keep tk
 clear sH hm hs hr1
 have sH:=vm
 have hm:=hm2
 have hs:=hs2
 have hr1:=m3
 clear tk vm hm2 hs2 m3
 refine ⟨_,rfl,.inl ⟨rfl,_,ao.of hm⟩,_,rfl,_,rfl,_,rfl,age,fun w8 XJ=>?_⟩
 obtain ⟨Sa,z,g,zz⟩:=aJ XJ (.tup [.str "same",.ref q3,v1])
 rw [zz]; clear zz
 replace hr1:=z _ _ hr1
 replace hs:=z _ _ hs
 replace hm:=z _ _ hm
 replace f1:=f1.same z
 replace f2:=f2.same z
 replace h3:=h3.same z
 replace h5:=h5.same z
 replace h6:=h6.same z
 replace h8:=h8.same z
 replace j2:=j2.same z
 replace j7:=j7.same z
 replace sH:=aa sH z
 replace cQ:=cQ.keep (ag.tk z)
 have j8:fD TW.E.gP 3 3 Sa (.ref w8):=dy (k:=.same) (fun _ _ a b=>⟨a,b⟩) g h3 f1
 clear z g
 refine ⟨age,fun w9 XM=>?_⟩
 obtain ⟨C7,z,g,zz⟩:=aJ XM (.tup [.str "both",.ref q5,.ref w8])
 rw [zz]; clear zz
 replace hr1:=z _ _ hr1
 replace hs:=z _ _ hs
 replace hm:=z _ _ hm
 replace f1:=f1.same z
 replace f2:=f2.same z
 replace h3:=h3.same z
 replace h5:=h5.same z
 replace h6:=h6.same z
 replace h8:=h8.same z
 replace j2:=j2.same z
 replace j7:=j7.same z
 replace j8:=j8.same z
 replace sH:=aa sH z
 replace cQ:=cQ.keep (ag.tk z)
 have j9:fD TW.E.gP 5 4 C7 (.ref w9):=dy (k:=.both) (fun _ _ a b=>⟨a,b⟩) g h5 j8
 clear z g
 clear j8
 refine ⟨mm,_,_,rfl,rfl,hm,aB (by show 6<=1000; decide),?_⟩
 have tk:TK C7 (upd C7 mm (.lst [v1,.ref q3,.ref q6,.ref q8,.ref w2,.ref w7,.ref w9])):=TK.lst hm
 have hm2:(upd C7 mm (.lst [v1,.ref q3,.ref q6,.ref q8,.ref w2,.ref w7,.ref w9])) mm=some (.lst [v1,.ref q3,.ref q6,.ref q8,.ref w2,.ref w7,.ref w9]):=ae
 have vm:ag H (upd C7 mm (.lst [v1,.ref q3,.ref q6,.ref q8,.ref w2,.ref w7,.ref w9])):=aG sH nm
 have hs2:(upd C7 mm (.lst [v1,.ref q3,.ref q6,.ref q8,.ref w2,.ref w7,.ref w9])) sa=some (.lst ss):=by rw [aj N7]; exact hs
 have m3:(upd C7 mm (.lst [v1,.ref q3,.ref q6,.ref q8,.ref w2,.ref w7,.ref w9])) r=some (.lst (row.map V.int)):=by rw [aj N6]; exact hr1
 show _
 generalize e9:upd C7 mm (.lst [v1,.ref q3,.ref q6,.ref q8,.ref w2,.ref w7,.ref w9])=UU at tk hm2 vm hs2 m3
 rw [show upd C7 mm (.lst ([v1,.ref q3,.ref q6,.ref q8,.ref w2,.ref w7]++[.ref w9]))=UU from e9]
 clear e9
 replace f1:=f1.keep tk
 replace f2:=f2.keep tk
 replace h3:=h3.keep tk
 replace h5:=h5.keep tk
 replace h6:=h6.keep tk
 replace h8:=h8.keep tk
 replace j2:=j2.keep tk
 replace j7:=j7.keep tk
 replace j9:=j9.keep tk
 replace cQ:=cQ.keep tk
 clear sH hm hs hr1
 have sH:=vm
 have hm:=hm2
 have hs:=hs2
 have hr1:=m3
 clear tk vm hm2 hs2 m3
 refine ⟨_,rfl,.inl ⟨rfl,_,ao.of hm⟩,_,rfl,agd,fun u1 Qu=>?_⟩
 obtain ⟨UW,z,g,zz⟩:=aJ Qu (.tup [.str "number",.int 1])
 rw [zz]; clear zz
 replace hr1:=z _ _ hr1
 replace hs:=z _ _ hs
 replace hm:=z _ _ hm
 replace f1:=f1.same z
 replace f2:=f2.same z
 replace h3:=h3.same z
 replace h5:=h5.same z
 replace h6:=h6.same z
 replace h8:=h8.same z
 replace j2:=j2.same z
 replace j7:=j7.same z
 replace j9:=j9.same z
 replace sH:=aa sH z
 replace cQ:=cQ.keep (ag.tk z)
 have k1:fD TW.E.fQ 0 0 UW (.ref u1):=nW g (by decide)
 clear z g
 refine ⟨age,fun u2 Qv=>?_⟩
 obtain ⟨UX,z,g,zz⟩:=aJ Qv (.tup [.str "plus",v1,.ref u1])
 rw [zz]; clear zz
 replace hr1:=z _ _ hr1
 replace hs:=z _ _ hs
 replace hm:=z _ _ hm
 replace f1:=f1.same z
 replace f2:=f2.same z
 replace h3:=h3.same z
 replace h5:=h5.same z
 replace h6:=h6.same z
 replace h8:=h8.same z
 replace j2:=j2.same z
 replace j7:=j7.same z
 replace j9:=j9.same z
 replace k1:=k1.same z
 replace sH:=aa sH z
 replace cQ:=cQ.keep (ag.tk z)
 have k2:fD TW.E.fQ 1 1 UX (.ref u2):=dy (k:=.plus) (fun _ _ a b=>⟨a,b⟩) g f1 k1
 clear z g
 obtain ⟨v5,Vy,f5⟩:=cQ.at (r:=0) (by decide) (by omega)
 refine ⟨_,rfl,sa,_,_,_,rfl,rfl,ao.of hs,Vy,age,fun u3 XE=>?_⟩
 obtain ⟨C8,z,g,zz⟩:=aJ XE (.tup [.str "less",.ref u2,v5])
 rw [zz]; clear zz
 replace hr1:=z _ _ hr1
 replace hs:=z _ _ hs
 replace hm:=z _ _ hm
 replace f1:=f1.same z
 replace f2:=f2.same z
 replace h3:=h3.same z
 replace h5:=h5.same z
 replace h6:=h6.same z
 replace h8:=h8.same z
 replace j2:=j2.same z
 replace j7:=j7.same z
 replace j9:=j9.same z
 replace k1:=k1.same z
 replace k2:=k2.same z
 replace f5:=f5.same z
 replace sH:=aa sH z
 replace cQ:=cQ.keep (ag.tk z)
 have QE:fD TW.E.fQ 2 2 C8 (.ref u3):=dy (k:=.less) (fun _ _ a b=>⟨a,b⟩) g k2 f5
 clear z g
 clear k1 k2 f5
 refine ⟨mm,_,_,rfl,rfl,hm,aB (by show 7<=1000; decide),?_⟩
 have tk:TK C8 (upd C8 mm (.lst [v1,.ref q3,.ref q6,.ref q8,.ref w2,.ref w7,.ref w9,.ref u3])):=TK.lst hm
 have hm2:(upd C8 mm (.lst [v1,.ref q3,.ref q6,.ref q8,.ref w2,.ref w7,.ref w9,.ref u3])) mm=some (.lst [v1,.ref q3,.ref q6,.ref q8,.ref w2,.ref w7,.ref w9,.ref u3]):=ae
 have vm:ag H (upd C8 mm (.lst [v1,.ref q3,.ref q6,.ref q8,.ref w2,.ref w7,.ref w9,.ref u3])):=aG sH nm
 have hs2:(upd C8 mm (.lst [v1,.ref q3,.ref q6,.ref q8,.ref w2,.ref w7,.ref w9,.ref u3])) sa=some (.lst ss):=by rw [aj N7]; exact hs
 have m3:(upd C8 mm (.lst [v1,.ref q3,.ref q6,.ref q8,.ref w2,.ref w7,.ref w9,.ref u3])) r=some (.lst (row.map V.int)):=by rw [aj N6]; exact hr1
 show _
 generalize e9:upd C8 mm (.lst [v1,.ref q3,.ref q6,.ref q8,.ref w2,.ref w7,.ref w9,.ref u3])=Ox at tk hm2 vm hs2 m3
 rw [show upd C8 mm (.lst ([v1,.ref q3,.ref q6,.ref q8,.ref w2,.ref w7,.ref w9]++[.ref u3]))=Ox from e9]
 clear e9
 replace f1:=f1.keep tk
 replace f2:=f2.keep tk
 replace h3:=h3.keep tk
 replace h5:=h5.keep tk
 replace h6:=h6.keep tk
 replace h8:=h8.keep tk
 replace j2:=j2.keep tk
 replace j7:=j7.keep tk
 replace j9:=j9.keep tk
 replace QE:=QE.keep tk
 replace cQ:=cQ.keep tk
 clear sH hm hs hr1
 have sH:=vm
 have hm:=hm2
 have hs:=hs2
 have hr1:=m3
 clear tk vm hm2 hs2 m3
 obtain ⟨vv,gv,Hl⟩:=qN (xs:=[v1,.ref q3,.ref q6,.ref q8,.ref w2,.ref w7,.ref w9,.ref u3]) (r:=x4 % 8) (aaj _ (by decide)) (aac _ (by decide))
 refine ⟨_,rfl,_,rfl,r,_,_,_,rfl,rfl,ao.of hr1,a4,_,_,rfl,rfl,(by show (0:Int) < 8; decide),mm,_,_,_,rfl,rfl,ao.of hm,Hl,?_⟩
 have fin:∀{S:TW.E->Prop} {d b:Nat} {v:V},fD S d b Ox v->(∀e,S e->e≠.yes->e.fQ\/(e.gP/\e≠.yes))->d < 20->b<=1000->Q v Ox:=fun hh hS hd hb=>by
   obtain ⟨e,ea,es,ey,eo,ed,eb⟩:=hh
   exact q _ e _ sH ea (hS e es ey) eo (by omega) (by omega)
 have iS:∀e:TW.E,e.fQ->e≠.yes->e.fQ\/(e.gP/\e≠.yes):=fun _ z _=>.inl z
 have iC:∀e:TW.E,e.gP->e≠.yes->e.fQ\/(e.gP/\e≠.yes):=fun _ z y=>.inr ⟨z,y⟩
 have hv:=aab gv
 rcases List.mem_cons.mp hv with rfl | hv
 · exact fin f1 iS (by decide) (by decide)
 rcases List.mem_cons.mp hv with rfl | hv
 · exact fin h3 iS (by decide) (by decide)
 rcases List.mem_cons.mp hv with rfl | hv
 · exact fin h6 iC (by decide) (by decide)
 rcases List.mem_cons.mp hv with rfl | hv
 · exact fin h8 iC (by decide) (by decide)
 rcases List.mem_cons.mp hv with rfl | hv
 · exact fin j2 iC (by decide) (by decide)
 rcases List.mem_cons.mp hv with rfl | hv
 · exact fin j7 iC (by decide) (by decide)
 rcases List.mem_cons.mp hv with rfl | hv
 · exact fin j9 iC (by decide) (by decide)
 rw [List.mem_singleton.mp hv]
 exact fin QE iS (by decide) (by decide)
theorem yd (s:Src K mg "_law_thing" nG)(m_int:mg "int"=none)(m_len:mg "len"=none):aX P w K mg base "_law_thing" ["row","known"] 1 me:=
 let ⟨f,fd,F,m⟩:=s
 ⟨f,fd,Bv F m_int m_len,F.kp,F.binds fun _ _ _ _ _ _ us hl=>match us,hl with | [_,_],_=>rfl,m⟩
abbrev E4:Stmt:=top 52
def xf:Sp:=fun vs H Q _=>∃(p B I N:Addr) (vb vi vn:List V),vs=[.ref p]/\H p=some (.tup [.ref B,.ref I,.ref N])/\H B=some (.lst vb)/\H I=some (.lst vi)/\H N=some (.lst vn) /\
 ∀(p' B' I' N':Addr) (H':Hp),ag H H'->H' p'=some (.tup [.ref B',.ref I',.ref N'])->H' B'=some (.lst vb)->H' I'=some (.lst vi)->H' N'=some (.lst vn)->Q (.ref p') H'
theorem MR:aD ["program"] ["program"] (ai E4):=⟨rfl,rfl,rfl,by decide +kernel,rfl,by decide +kernel,by decide +kernel⟩
theorem ku:aY E4 "list":=by decide +kernel
theorem Iq {f:Addr}{fd:aaf}(F:dm K "_law_copied" "_law_copied" E4 f fd)(m_list:mg "list"=none):aP P w K mg base cK 1 f fd ["program"] xf:=by
 refine F.ok MR (fun vs H Q E h=>?_) (fun cdv A outer s H vs Q E hr h=>?_)
 · obtain ⟨p,B,I,N,vb,vi,vn,rfl,_⟩:=h
   rfl
 obtain ⟨p,B,I,N,vb,vi,vn,rfl,hp,hB,hI,hN,q⟩:=h
 refine kG ⟨_,(aea (aec (aed (ad3 (aew aeK ku m_list (by decide +kernel) (ad3 (ad8 aei (ad4 0) ad6) ad5)) (ad3 (aew aeK ku m_list (by decide +kernel) (ad3 (ad8 aei (ad4 0) ad6) ad5)) (ad3 (aew aeK ku m_list (by decide +kernel) (ad3 (ad8 aei (ad4 0) ad6) ad5)) ad5)))))),?_⟩
 refine ⟨_,rfl,p,_,_,_,rfl,rfl,aK.of hp,rfl,B,_,rfl,.inl (ao.of hB),fun b1 zr=>?_⟩
 obtain ⟨H1,s1,g1,zz⟩:=aJ zr (.lst vb)
 rw [zz]; clear zz
 refine ⟨_,rfl,p,_,_,_,rfl,rfl,aK.of (s1 _ _ hp),rfl,I,_,rfl,.inl (ao.of (s1 _ _ hI)),fun i1 ux=>?_⟩
 obtain ⟨H2,s2,g2,zz⟩:=aJ ux (.lst vi)
 rw [zz]; clear zz
 have s02:=aa s1 s2
 refine ⟨_,rfl,p,_,_,_,rfl,rfl,aK.of (s02 _ _ hp),rfl,N,_,rfl,.inl (ao.of (s02 _ _ hN)),fun n1 Tj=>⟨age,fun p1 yk=>?_⟩⟩
 have s3:ag H2 (upd (upd H2 n1 (.lst vn)) p1 (.tup [.ref b1,.ref i1,.ref n1])):=aC (af Tj _) yk
 exact q p1 b1 i1 n1 _ (aa s02 s3) ae (s3 _ _ (s2 _ _ g1)) (s3 _ _ g2) (by rw [aj (ah ae yk)]; exact ae)
theorem Dw (s:Src K mg "_law_copied" E4)(m_list:mg "list"=none):aX P w K mg base "_law_copied" ["program"] 1 xf:=
 let ⟨f,fd,F,m⟩:=s
 ⟨f,fd,Iq F m_list,F.kp,F.binds fun _ _ _ _ _ _ us hl=>match us,hl with | [_],_=>rfl,m⟩
theorem m5 (bs:List (Str×Int)):∀ins:List Str,cI bs ins=ins.zip (ins.map (cj bs))
 | []=>rfl
 | x :: r=>by
   show (x,cj bs x) :: cI bs r=(x,cj bs x) :: r.zip (r.map (cj bs))
   rw [m5 bs r]
theorem DW {b1 b2:List (Str×Int)}{i1 i2:List Str}:cI b1 i1=cI b2 i2↔cL b1 b2 i1 i2:=by
 constructor
 · intro h
   have h1:=congrArg (List.map (·.1)) h
   have h2:=congrArg (List.map (·.2)) h
   unfold cI at h1 h2
   rw [aa9,aa9] at h1 h2
   have e1:∀(b:List (Str×Int)) (l:List Str),l.map ((fun x:Str×Int=>x.1) ∘ fun x=>(x,cj b x))=l:=fun b l=>List.map_id l
   rw [e1,e1] at h1
   exact ⟨h1,h2⟩
 · rintro ⟨rfl,h⟩
   rw [m5,m5,h]
def yx (b1 b2:List (Str×Int)):List (Str×Str):=b1.map (fun b=>(("mine":Str),b.1))++b2.map (fun b=>(("yours":Str),b.1))
theorem D1 {b1 b2:List (Str×Int)}{t x:Str}:Dj b1 b2 t x↔(t,x)∈yx b1 b2:=by
 unfold yx
 rw [List.mem_append]
 constructor
 · rintro (⟨rfl,h⟩ | ⟨rfl,h⟩)
   · obtain ⟨b,hb,e⟩:=List.mem_map.mp h
     exact .inl (List.mem_map.mpr ⟨b,hb,by rw [← e]⟩)
   · obtain ⟨b,hb,e⟩:=List.mem_map.mp h
     exact .inr (List.mem_map.mpr ⟨b,hb,by rw [← e]⟩)
 · rintro (h | h)
   · obtain ⟨b,hb,e⟩:=List.mem_map.mp h
     injection e with e1 e2
     exact .inl ⟨e1.symm,List.mem_map.mpr ⟨b,hb,e2⟩⟩
   · obtain ⟨b,hb,e⟩:=List.mem_map.mp h
     injection e with e1 e2
     exact .inr ⟨e1.symm,List.mem_map.mpr ⟨b,hb,e2⟩⟩
theorem D3 {b1 b2:List (Str×Int)}:∀b∈yx b1 b2,b.1="mine"\/b.1="yours":=fun b hb=>by
 rcases List.mem_append.mp hb with h | h
 · obtain ⟨c,_,rfl⟩:=List.mem_map.mp h
   exact .inl rfl
 · obtain ⟨c,_,rfl⟩:=List.mem_map.mp h
   exact .inr rfl
theorem gR {b1 b2:List (Str×Int)}:∀e:E,e.aQ (zo b1 b2)=(e.b9.map fun b=>decide (b∈yx b1 b2)).all id
 | .num _=>rfl
 | .box t x=>by
   show decide (Dj b1 b2 t x)=(decide ((t,x)∈yx b1 b2) && true)
   rw [adA,aa3,decide_eq_true_iff,decide_eq_true_iff]
   exact D1
 | .yes=>rfl
 | .nt a=>gR a
 | .two _ a b=>by
   show (a.aQ _ && b.aQ _)=((a.b9++b.b9).map _).all id
   rw [Z5,List.all_append,gR a,gR b]
theorem G4 {b1 b2:List (Str×Int)}{i1 i2:List Str}{w1 w2:List Int}{e:E}{p f s:Bool}{k:Nat}(h:zB b1 b2 i1 i2 w1 w2 e k)(hp:p=true↔cL b1 b2 i1 i2)(hf:f=true↔GoodW b1 w1)(hs:s=true↔GoodW b2 w2):k=oj p f s (e.aQ (zo b1 b2)):=by
 rcases h with ⟨rfl,h⟩ | ⟨rfl,h1,h2⟩ | ⟨rfl,h1,h2,h3,h4⟩ | ⟨rfl,h1,h2,h3,h4⟩
 · have:p=false:=by cases p with | false=>rfl | true=>exact absurd (hp.mp rfl) h
   rw [this]; rfl
 · have oz:p=true:=hp.mpr h1
   have:f=false\/s=false:=by
     cases f with
     | false=>exact .inl rfl
     | true=>cases s with
       | false=>exact .inr rfl
       | true=>exact absurd ⟨hf.mp rfl,hs.mp rfl⟩ h2
   unfold oj
   rw [oz,if_neg (by decide),if_pos this]
 · rw [hp.mpr h1,hf.mpr h2,hs.mpr h3,h4]; rfl
 · rw [hp.mpr h1,hf.mpr h2,hs.mpr h3,h4]; rfl
theorem G3 {b1 b2:List (Str×Int)}{i1 i2:List Str}{iw:List Int}{p f:Bool}{k:Nat}(h:Fn b1 b2 i1 i2 iw k)(hp:p=true↔cL b1 b2 i1 i2)(hf:f=true↔oH b1 i1 iw):k=oj p f true true:=by
 rcases h with ⟨rfl,h⟩ | ⟨rfl,h1,h2⟩ | ⟨rfl,h1,h2⟩
 · have:p=false:=by cases p with | false=>rfl | true=>exact absurd (hp.mp rfl) h
   rw [this]; rfl
 · have:f=false:=by cases f with | false=>rfl | true=>exact absurd (hf.mp rfl) h2
   rw [hp.mpr h1,this]; rfl
 · rw [hp.mpr h1,hf.mpr h2]; rfl
theorem GZ {K:ZY}{H:Hp}{n:Nat}:∀(u v:V) (x y:Str×Int),bG H u x->bG H v y->EB K H (n + 1) u v (decide (x=y)):=fun u v x y ⟨p,e,h⟩ ⟨q,e',h'⟩=>by
 subst e
 subst e'
 have k:=EB.pair (K:=K) (n:=n) h h' rfl rfl (by show (x.2 == x.2)=true; exact beq_self_eq_true _)
 have e:(decide (x.1=y.1) && kl (.int x.2) (.int y.2))=decide (x=y):=by
   show (decide (x.1=y.1) && (x.2 == y.2))=_
   rw [aa3,aaN,decide_eq_true_iff,beq_iff_eq,decide_eq_true_iff]
   exact ⟨fun z=>Prod.ext z.1 z.2,fun z=>by rw [z]; exact ⟨rfl,rfl⟩⟩
 rw [e] at k
 exact k
abbrev dM:Stmt:=top 64
def xj (K:ZY):Sp:=fun vs H Q _=>∃(a:Addr) (ns:List Int),vs=[.ref a]/\ao K H a (ns.map V.int)/\ns.length<=63/\∀H',Q (.bl true) H'
theorem RD {bs:List (Str×Int)}(h:bs.length<=3)(k:∀b∈bs,1<=b.2/\b.2<=6):n9 bs<=1000:=by
 have key:∀{n:Nat} {l:List (Str×Int)},l.length<=n->(∀b∈l,1<=b.2/\b.2<=6)->n9 l<=6 ^ n:=fun {n}=>by
   induction n with
   | zero=>intro l hl _; cases l with
     | nil=>exact (by decide)
     | cons _ _=>cases hl
   | succ n ih=>
     intro l hl hk
     cases l with
     | nil=>exact Nat.one_le_pow _ _ (by decide)
     | cons b r=>
       have h1:=ih (l:=r) (by simpa using hl) (fun c hc=>hk c (List.mem_cons.mpr (.inr hc)))
       have h2:=hk b (List.mem_cons.mpr (.inl rfl))
       show b.2.toNat * n9 r<=6 ^ (n + 1)
       rw [Nat.pow_succ,adY (6 ^ n)]
       exact acD (by omega) h1
 exact Z8 (key h k) (by decide)
theorem QV {nm:List Str}(h:GH nm)(ins:List Str)(c:Bool):∀x∈nm,fL ins c x≠"w":=fun x hx=>by
 have key:∀y∈([("a":Str),"ab","x","boxes","box"]:List Str),y≠"w"/\y++"z"≠"w":=by decide +kernel
 have hm:x∈([("a":Str),"ab","x","boxes","box"]:List Str):=by
   rcases h with rfl | rfl | rfl
   · exact (by decide +kernel:∀z∈([("a":Str),"ab"]:List Str),z∈([("a":Str),"ab","x","boxes","box"]:List Str)) x hx
   · exact (by decide +kernel:∀z∈([("x":Str),"a"]:List Str),z∈([("a":Str),"ab","x","boxes","box"]:List Str)) x hx
   · exact (by decide +kernel:∀z∈([("boxes":Str),"box"]:List Str),z∈([("a":Str),"ab","x","boxes","box"]:List Str)) x hx
 unfold fL
 split
 · exact (key x hm).1
 · split
   · exact (key x hm).2
   · exact (key x hm).1
theorem IQ {bs b':List (Str×Int)}{ins:List Str}{c:Bool}{st:Int}(h:cG bs ins)(o:tI bs ins c st b'):∀b∈b',b.1≠"w":=fun b hb=>by
 obtain ⟨nm,szs,h3,hl,_,e⟩:=h.nm
 have FG:b.1∈(dF st (bs.map fun b=>(fL ins c b.1,b.2))).map (·.1):=by rw [← o.bx]; exact List.mem_map.mpr ⟨b,hb,rfl⟩
 rw [pz,aa9] at FG
 have hm:b.1∈bs.map ((fun x=>x.1) ∘ fun b=>(fL ins c b.1,b.2)):=gZ.mp FG
 obtain ⟨b0,wj,e0⟩:=List.mem_map.mp hm
 rw [← e0]
 rw [e] at wj
 exact QV h3 ins c b0.1 (abr wj).1
theorem cD:aD ["script","one","row","far","made","called","places","behind","other","pair","known","handed","k","some","mine","yours","thing","there","due","inputs","good"] ["script"] (ai dM):=⟨rfl,rfl,rfl,by decide +kernel,rfl,by decide +kernel,by decide +kernel⟩
theorem ff:aY dM "_law_are":=by decide +kernel
theorem mL:aY dM "_law_asked":=by decide +kernel
theorem eQ:aY dM "_law_cell_at":=by decide +kernel
theorem fE:aY dM "_law_copied":=by decide +kernel
theorem jk:aY dM "_law_due":=by decide +kernel
theorem bJ:aY dM "_law_input_sizes":=by decide +kernel
theorem iJ:aY dM "_law_made_over":=by decide +kernel
theorem mM:aY dM "_law_named":=by decide +kernel
theorem kz:aY dM "_law_numbers":=by decide +kernel
theorem lG:aY dM "_law_parted":=by decide +kernel
theorem kC:aY dM "_law_program":=by decide +kernel
theorem cY:aY dM "_law_sizes":=by decide +kernel
theorem lH:aY dM "_law_spoilt":=by decide +kernel
theorem mO:aY dM "_law_thing":=by decide +kernel
theorem d6:aY dM "_law_wrong":=by decide +kernel
theorem Ab:aY dM "all":=by decide +kernel
theorem kD:aY dM "list":=by decide +kernel
theorem uc:aY dM "range":=by decide +kernel
theorem Iz {f:Addr}{fd:aaf}(F:dm K "law" "law" dM f fd)(m_list:mg "list"=none)(m_range:mg "range"=none)(m_all:mg "all"=none)(PR:aX P w K mg base "_law_program" ["script","most"] 64 (vB K))(NU:aX P w K mg base "_law_numbers" ["cell","many","base"] 64 dX)(CE:aX P w K mg base "_law_cell_at" ["script","k"] 64 (kP K))(OV:aX P w K mg base "_law_made_over" ["program","row"] 64 vA)(SP:aX P w K mg base "_law_spoilt" ["program","row"] 64 kc)(LI:aX P w K mg base "_law_input_sizes" ["program"] 64 xi)(CP:aX P w K mg base "_law_copied" ["program"] 64 xf)(WR:aX P w K mg base "_law_wrong" ["row","sizes","far"] 64 mf)(SZ:aX P w K mg base "_law_sizes" ["program"] 64 dS)(TH:aX P w K mg base "_law_thing" ["row","known"] 64 me)(NM:aX P w K mg base "_law_named" ["thing"] 64 (eL 20))(DU:aX P w K mg base "_law_due" ["pair","first","second","boxes"] 64 xg)(AR:aX P w K mg base "_law_are" ["worths","sizes"] 64 xb)(AK:aX P w K mg base "_law_asked" ["one","other","mine","yours","thing"] 64 ql)(PD:aX P w K mg base "_law_parted" ["one","other","inputs"] 64 nM):aP P w K mg base cK 65 f fd ["script"] (xj K):=by
 refine F.ok cD (fun vs H Q E h=>?_) (fun cdv A outer s H vs Q E ik h=>?_)
 · obtain ⟨a,ns,rfl,_⟩:=h
   rfl
 obtain ⟨a,ns,rfl,hS,Zj,q⟩:=h
 refine kG ⟨_,(ad7 (aeh 1 cD.nd (aef PR ik kC (ad3 (ad4 0) (ad3 ad6 ad5))))
   (ad7 (aeh 2 cD.nd (aef NU ik kz (ad3 (aef CE ik eQ (ad3 (ad4 0) (ad3 ad6 ad5))) (ad3 ad6 (ad3 ad6 ad5)))))
   (ad7 (aeh 3 cD.nd (ad9 aeo (aef CE ik eQ (ad3 (ad4 0) (ad3 ad6 ad5))) (ad9 aeT ad6 ad6)))
   (ad7 (aeO (aef OV ik iJ (ad3 (ad4 1) (ad3 (ad4 2) ad5))) (aes 4 (aej (aee 4 cD.nd) (aej (aee 5 cD.nd) (aej (aee 6 cD.nd) (aej (aee 7 cD.nd) aet))))))
   (ad7 (aeh 8 cD.nd (aef SP ik lH (ad3 (ad4 4) (ad3 (aeM (ad4 2) ad6) ad5))))
   (ad7 (aeh 9 cD.nd (aeE (L3.r6 (m:=1) (bP ik _ (by decide))) (aef LI ik bJ (ad3 (ad4 1) ad5)) (aef LI ik bJ (ad3 (ad4 8) ad5))))
   (ad7 (aeh 10 cD.nd (ad9 aeH (aeB [none,none] ["name","size"] (show aE _ (ai dM) from ⟨rfl,by decide +kernel,by decide +kernel,by decide +kernel⟩) (by rfl) (aeA (ad8 aei (ad4 1) ad6)) (fun _ _ _ _ _=>⟨(aes 2 (aej (aee 0 (show (["name","size"]:List Str).Nodup from by decide +kernel)) (aej (aee 1 (show (["name","size"]:List Str).Nodup from by decide +kernel)) aet))),aev,(aed (ad3 aeb (ad3 (ad4 0) ad5)))⟩)) (aeB [none,none] ["name","size"] (show aE _ (ai dM) from ⟨rfl,by decide +kernel,by decide +kernel,by decide +kernel⟩) (by rfl) (aeA (ad8 aei (ad4 8) ad6)) (fun _ _ _ _ _=>⟨(aes 2 (aej (aee 0 (show (["name","size"]:List Str).Nodup from by decide +kernel)) (aej (aee 1 (show (["name","size"]:List Str).Nodup from by decide +kernel)) aet))),aev,(aed (ad3 aeb (ad3 (ad4 0) ad5)))⟩))))
   (ad7 (aeh 11 cD.nd (aen (ad3 (aef CP ik fE (ad3 (ad4 1) ad5)) (ad3 (aef CP ik fE (ad3 (ad4 8) ad5)) ad5))))
   (ad7 (aeJ (aeV uc m_range (ad3 ad6 ad5)) (aee 12 cD.nd) (ad7 (aeh 13 cD.nd (L3.Cg (ad4 2) (ad9 aey ad6 (ad9 aeD ad6 (ad4 12))) (ad9 aey ad6 (ad9 aeD ad6 (ad4 12)))))
   (ad7 (aeh 14 cD.nd (aef WR ik d6 (ad3 (ad4 13) (ad3 (aef SZ ik cY (ad3 (ad4 1) ad5)) (ad3 (ad4 3) ad5)))))
   (ad7 (aeh 15 cD.nd (aef WR ik d6 (ad3 (aeM (ad4 13) ad6) (ad3 (aef SZ ik cY (ad3 (ad4 8) ad5)) (ad3 (ad4 3) ad5)))))
   (ad7 (aeh 16 cD.nd (aef TH ik mO (ad3 (aeM (ad4 13) ad6) (ad3 (ad4 10) ad5))))
   (ad7 (aeh 17 cD.nd (aep L3.Ft Ab m_all (by decide +kernel) (ad3 (aeB [none,some 10] ["box","known"] (show aE _ (ai dM) from ⟨rfl,by decide +kernel,by decide +kernel,by decide +kernel⟩) (by rfl) (aeA (aef NM ik mM (ad3 (ad4 16) ad5))) (fun _ _ _ _ _=>⟨(aee 0 (show (["box","known"]:List Str).Nodup from by decide +kernel)),aev,(aeE (L3.L8 (m:=1) (bP ik _ (by decide))) (ad4 0) (ad4 1) (by rfl))⟩)) ad5)))
   (ad7 (aeh 18 cD.nd (aef DU ik jk (ad3 (ad4 9) (ad3 (aef AR ik ff (ad3 (ad4 14) (ad3 (aef SZ ik cY (ad3 (ad4 1) ad5)) ad5))) (ad3 (aef AR ik ff (ad3 (ad4 15) (ad3 (aef SZ ik cY (ad3 (ad4 8) ad5)) ad5))) (ad3 (ad4 17) ad5))))))
   (ad7 (ael (aek (L3.wG (m:=0) (bP ik _ (by decide))) (aef AK ik mL (ad3 (ad8 aeg (ad4 11) ad6) (ad3 (ad8 aeg (ad4 11) ad6) (ad3 (aew aeK kD m_list (by decide +kernel) (ad3 (ad4 14) ad5)) (ad3 (aew aeK kD m_list (by decide +kernel) (ad3 (ad4 15) ad5)) (ad3 (ad4 16) ad5)))))) (ad4 18)) (aea (aec aex)) aem)
   (ad7 (aeh 19 cD.nd (aef WR ik d6 (ad3 (aeM (ad4 13) ad6) (ad3 (aeB [none,none] ["name","size"] (show aE _ (ai dM) from ⟨rfl,by decide +kernel,by decide +kernel,by decide +kernel⟩) (by rfl) (aeA (aef LI ik bJ (ad3 (ad4 1) ad5))) (fun _ _ _ _ _=>⟨(aes 2 (aej (aee 0 (show (["name","size"]:List Str).Nodup from by decide +kernel)) (aej (aee 1 (show (["name","size"]:List Str).Nodup from by decide +kernel)) aet))),aev,(ad4 1)⟩)) (ad3 (ad4 3) ad5)))))
   (ad7 (aeh 20 cD.nd (aef AR ik ff (ad3 (ad4 19) (ad3 (aeB [none,none] ["name","size"] (show aE _ (ai dM) from ⟨rfl,by decide +kernel,by decide +kernel,by decide +kernel⟩) (by rfl) (aeA (aef LI ik bJ (ad3 (ad4 1) ad5))) (fun _ _ _ _ _=>⟨(aes 2 (aej (aee 0 (show (["name","size"]:List Str).Nodup from by decide +kernel)) (aej (aee 1 (show (["name","size"]:List Str).Nodup from by decide +kernel)) aet))),aev,(ad4 1)⟩)) ad5))))
   (aea (ael (aek (L3.wG (m:=0) (bP ik _ (by decide))) (aef PD ik lG (ad3 (ad8 aeg (ad4 11) ad6) (ad3 (ad8 aeg (ad4 11) ad6) (ad3 (aew aeK kD m_list (by decide +kernel) (ad3 (ad4 19) ad5)) ad5)))) (aef DU ik jk (ad3 (ad4 9) (ad3 (ad4 20) (ad3 aex (ad3 aex ad5)))))) (aea (aec aex)) aem))))))))))))
   (aea (aec (aeE (L3.r6 (m:=3) (bP ik _ (by decide))) (ad4 11) (aen (ad3 (ad4 1) (ad3 (ad4 8) ad5))))))))))))))),?_⟩
 refine ⟨_,rfl,a,ns,4,rfl,hS,by decide,by decide,fun v1 HA bs ins nds sA pa zw=>?_⟩
 obtain ⟨p1,B1,I1,N1,JT,UI,rfl,yk,CM,hI1,Lf,u0,Uc⟩:=id pa
 refine ⟨_,rfl,a,ns,1,rfl,ag.seq sA hS,by decide,fun cc=>⟨cc,32,420,rfl,by decide,by decide,by decide,by decide,fun r row hr Ww=>?_⟩⟩
 obtain ⟨HB,sB,gr,zz⟩:=aJ hr (.lst (row.map V.int))
 rw [zz]; clear zz
 have hR:Row (2 ^ 30) row 32:=Ww.mono (by decide)
 refine ⟨_,rfl,a,ns,1,rfl,ag.seq (aa sA sB) hS,by decide,fun c2=>⟨_,_,rfl,rfl,⟨by decide,by decide,by decide⟩,_,_,rfl,rfl,(show (0:Int) < 10 ^ (20:Int).toNat by decide +kernel),?_⟩⟩
 obtain ⟨far,Dq⟩ : ∃far:Int,far=c2 % 10 ^ (20:Int).toNat:=⟨_,rfl⟩
 have Nz:(10:Int) ^ (20:Int).toNat=100000000000000000000:=by decide +kernel
 have f0:0<=far:=by rw [Dq,Nz]; exact aaj _ (by decide)
 have f1:far < 100000000000000000000:=by rw [Dq,Nz]; exact aac _ (by decide)
 refine bo ?_
 refine b7 [some (.ref a),some (.ref p1),some (.ref r),some (.int far),none,none,none,none,none,none,none,none,none,none,none,none,none,none,none,none,none] (by subst Dq; rfl) ?_
 clear Dq
 have few:=zw.few
 have CZ:=zw.bx
 have Yv:=pa.same sB
 have l2:=CZ.len
 have one:=zw.one
 refine ⟨_,rfl,_,rfl,.ref p1,r,bs,ins,nds,row,32,rfl,Yv,⟨l2,fun b hb=>Z8 (CZ.short b hb) (by decide),one,by omega,zw.good⟩,gr,hR,by decide,fun pp p2 T2 I2 N2 cA u5 tR HC Y5 vn2 b2 nds2 cz st sC wo cb O4 Yt Hk Wu Ys ZF ca ov ps dt Zx Aw no=>?_⟩
 refine ⟨pp,_,rfl,aK.of wo,rfl,_,_,rfl,_,_,rfl,_,_,rfl,_,_,rfl,rfl,?_⟩
 refine b7 [some (.ref a),some (.ref p1),some (.ref r),some (.int far),some (.ref p2),some (.ref cA),some (.ref u5),some (.ref tR),none,none,none,none,none,none,none,none,none,none,none,none,none] rfl ?_
 have FA:=Fz CZ
 obtain ⟨f2,M3,U9,bsz2,RQ⟩:=Mh CZ ov
 have good2:=yU no RQ zw.good
 have two1:1<=nds2.length:=by
   obtain ⟨p,b,_,_,h,_⟩:=no.all 0 nds[0] (ZZ (by omega))
   omega
 obtain ⟨Rg,OW,Rk⟩:=jM hR 6 (by decide)
 have Xv:=sC _ _ gr
 refine ⟨_,rfl,_,rfl,_,rfl,r,_,rfl,ao.of Xv,fun l6 yi=>?_⟩
 rw [bq,show br row (some (6:Int)) none=Rg from OW]
 obtain ⟨HD,sD,g6,zz⟩:=aJ yi (.lst (Rg.map V.int))
 rw [zz]; clear zz
 have UT:bD HD (.ref p2) b2 ins nds2:=⟨p2,T2,I2,N2,Y5,vn2,rfl,sD _ _ cb,sD _ _ O4,sD _ _ Hk,sD _ _ Wu,Paired.aZ Yt fun a b h=>Tp.keep (ag.tk sD) h,Paired.aZ Ys fun a b h=>cw.keep (ag.tk sD) h⟩
 refine ⟨.ref p2,l6,b2,ins,nds2,Rg,26,rfl,UT,⟨f2,by omega,DT CZ,fun b hb=>(bsz2 b hb).2,IQ CZ ov⟩,g6,Rk,by decide,fun vo b3 i3 HE sE Q7 Cm=>?_⟩
 refine bo ?_
 obtain ⟨p3,B3,I3,N3,JU,UJ,rfl,lK,Kc,S6,S8,Mk,Ud⟩:=id Q7
 refine b7 [some (.ref a),some (.ref p1),some (.ref r),some (.int far),some (.ref p2),some (.ref cA),some (.ref u5),some (.ref tR),some (.ref p3),none,none,none,none,none,none,none,none,none,none,none,none] rfl ?_
 have Ru:=aa sB (aa sC (aa sD sE))
 have Yu:=pa.same Ru
 refine ⟨_,rfl,.ref p1,bs,ins,nds,rfl,Yu,FA,fun la va HF Ls sF ga Yx=>?_⟩
 refine ⟨_,rfl,.ref p3,b3,i3,nds2,rfl,Q7.same sF,Cm.ft,fun lb vb HG NS sG gb Yy=>?_⟩
 refine ⟨_,RB.told (sG _ _ ga) gb (Paired.aZ Yx fun _ _ z=>Tp.keep (ag.tk sG) z) Yy GZ,?_⟩
 obtain ⟨pair,zV⟩ : ∃pair,pair=decide (cI bs ins=cI b3 i3):=⟨_,rfl⟩
 have FN:pair=true↔cL bs b3 ins i3:=by rw [zV,decide_eq_true_iff]; exact DW
 refine bo ?_
 refine b7 [some (.ref a),some (.ref p1),some (.ref r),some (.int far),some (.ref p2),some (.ref cA),some (.ref u5),some (.ref tR),some (.ref p3),some (.bl pair),none,none,none,none,none,none,none,none,none,none,none] (by subst zV; rfl) ?_
 clear zV
 have Va:=Cm.l3
 have sAG:=aa Ru (aa sF sG)
 have YO:=aa sF sG
 obtain ⟨q1,ZK,ZL,ZM⟩:=And.intro (sAG _ _ yk) (And.intro (sAG _ _ CM) (And.intro (sAG _ _ hI1) (sAG _ _ Lf)))
 have Mw:Paired (bG HG) JT bs:=Paired.aZ u0 fun _ _ z=>Tp.keep (ag.tk sAG) z
 have Qg:=sAG _ _ yk
 have Hi:=sAG _ _ CM
 refine ⟨_,rfl,p1,_,_,_,rfl,rfl,aK.of Qg,rfl,B1,rfl,⟨_,ao.of Hi⟩,fun k1 Th=>?_⟩
 have Wq:=Hi
 have LS:JT.length=bs.length:=Paired.length Mw
 refine bj (xs:=JT) (fun i H3=>∃vl:List V,ag HG H3/\H3 k1=some (.lst vl)/\vl.length=i/\Paired (b8 H3) vl ((bs.take i).map fun b=>(("mine":Str),b.1))) ⟨[],af Th _,ae,rfl,.nil⟩ (fun i H3 _ z=>by obtain ⟨_,s3,_⟩:=z; exact ao.of (s3 _ _ Hi)) (fun i x H3 hx z=>?_) (fun HI z=>?_)
 · obtain ⟨vl,s3,FI,kX,pt⟩:=z
   obtain ⟨b,fP,u0,rfl,rM⟩:=Paired.get Mw hx
   have dP:i < JT.length:=(List.getElem?_eq_some_iff.mp hx).1
   refine ⟨u0,_,rfl,aK.of (s3 _ _ rM),rfl,_,_,rfl,_,_,rfl,rfl,?_⟩
   refine bU (A:=fun H3=>de _ k1 _ H3 _) ?_
   refine ⟨_,rfl,agd,fun tp uG=>?_⟩
   obtain ⟨H4,s4,g4,zz⟩:=aJ uG (.tup [.str "mine",.str b.1])
   rw [zz]; clear zz
   have CQ:=s4 _ _ FI
   have tk:=TK.lst CQ (o:=.lst (vl++[.ref tp]))
   refine ⟨_,CQ,aB (by omega),aL (Pv:=fun i H3=>∃vl:List V,ag HG H3/\H3 k1=some (.lst vl)/\vl.length=i/\Paired (b8 H3) vl ((bs.take i).map fun b=>(("mine":Str),b.1))) (by repeat' constructor) dP ⟨_,aG (aa s3 s4) Th,ae,by rw [Z0,kX]; rfl,?_⟩⟩
   rw [Z9,fP,Z5]
   exact Paired.snoc (Paired.aZ pt fun _ _ z=>b8.keep ((ag.tk s4).trans tk) z) (b8.keep tk ⟨tp,rfl,g4⟩)
 obtain ⟨va1,sI,V6,X6,T9⟩:=z
 rw [LS,aao] at T9
 have Oe:=aa YO sI
 have Qh:=Oe _ _ lK
 have Hj:=Oe _ _ Kc
 have Mx:Paired (bG HI) JU b3:=Paired.aZ Mk fun _ _ z=>Tp.keep (ag.tk Oe) z
 refine ⟨_,rfl,p3,_,_,_,rfl,rfl,aK.of Qh,rfl,B3,rfl,⟨_,ao.of Hj⟩,fun k2 Kd=>?_⟩
 have Wr:=Hj
 have X2:JU.length=b3.length:=Paired.length Mx
 refine bj (xs:=JU) (fun i H3=>∃vl:List V,ag HI H3/\H3 k2=some (.lst vl)/\vl.length=i/\Paired (b8 H3) vl ((b3.take i).map fun b=>(("yours":Str),b.1))) ⟨[],af Kd _,ae,rfl,.nil⟩ (fun i H3 _ z=>by obtain ⟨_,s3,_⟩:=z; exact ao.of (s3 _ _ Hj)) (fun i x H3 hx z=>?_) (fun HJ z=>?_)
 · obtain ⟨vl,s3,FI,kX,pt⟩:=z
   obtain ⟨b,fP,u0,rfl,rM⟩:=Paired.get Mx hx
   have dP:i < JU.length:=(List.getElem?_eq_some_iff.mp hx).1
   refine ⟨u0,_,rfl,aK.of (s3 _ _ rM),rfl,_,_,rfl,_,_,rfl,rfl,?_⟩
   refine bU (A:=fun H3=>de _ k2 _ H3 _) ?_
   refine ⟨_,rfl,agd,fun tp uG=>?_⟩
   obtain ⟨H4,s4,g4,zz⟩:=aJ uG (.tup [.str "yours",.str b.1])
   rw [zz]; clear zz
   have CQ:=s4 _ _ FI
   have tk:=TK.lst CQ (o:=.lst (vl++[.ref tp]))
   refine ⟨_,CQ,aB (by omega),aL (Pv:=fun i H3=>∃vl:List V,ag HI H3/\H3 k2=some (.lst vl)/\vl.length=i/\Paired (b8 H3) vl ((b3.take i).map fun b=>(("yours":Str),b.1))) (by repeat' constructor) dP ⟨_,aG (aa s3 s4) Kd,ae,by rw [Z0,kX]; rfl,?_⟩⟩
   rw [Z9,fP,Z5]
   exact Paired.snoc (Paired.aZ pt fun _ _ z=>b8.keep ((ag.tk s4).trans tk) z) (b8.keep tk ⟨tp,rfl,g4⟩)
 obtain ⟨Oo,sJ,V7,X7,Ua⟩:=z
 rw [X2,aao] at Ua
 have O3:=sJ _ _ V6
 have WC:JU.length<=3:=by omega
 have WA:JT.length<=2:=by omega
 refine ⟨k1,k2,_,_,rfl,rfl,O3,V7,Z8 (show _<=10 by omega) (by decide),fun ka W5=>?_⟩
 obtain ⟨HK,sK,gK,zz⟩:=aJ W5 (.lst (va1++Oo))
 rw [zz]; clear zz
 have Yw:Paired (b8 HK) (va1++Oo) (yx bs b3):=Paired.app (Paired.aZ T9 fun _ _ z=>b8.keep (ag.tk (aa sJ sK)) z) (Paired.aZ Ua fun _ _ z=>b8.keep (ag.tk sK) z)
 refine bo ?_
 refine b7 [some (.ref a),some (.ref p1),some (.ref r),some (.int far),some (.ref p2),some (.ref cA),some (.ref u5),some (.ref tR),some (.ref p3),some (.bl pair),some (.ref ka),none,none,none,none,none,none,none,none,none,none] rfl ?_
 have sEK:=aa Oe (aa sJ sK)
 have MN:=aa Ru sEK
 refine ⟨_,rfl,p1,B1,I1,N1,JT,_,UI,rfl,MN _ _ yk,MN _ _ CM,MN _ _ hI1,MN _ _ Lf,fun c1 CB CI CN HL sL Tb SY S0 S2=>?_⟩
 refine ⟨_,rfl,p3,B3,I3,N3,JU,_,UJ,rfl,sL _ _ (sEK _ _ lK),sL _ _ (sEK _ _ Kc),sL _ _ (sEK _ _ S6),sL _ _ (sEK _ _ S8),fun c3 DB DI DN HM sM DF S3 S4 S5=>?_⟩
 refine ⟨agd,fun ha WW=>?_⟩
 obtain ⟨HN,sN,K9,zz⟩:=aJ WW (.lst [.ref c1,.ref c3])
 rw [zz]; clear zz
 refine bo ?_
 refine b7 [some (.ref a),some (.ref p1),some (.ref r),some (.int far),some (.ref p2),some (.ref cA),some (.ref u5),some (.ref tR),some (.ref p3),some (.bl pair),some (.ref ka),some (.ref ha),none,none,none,none,none,none,none,none,none] rfl ?_
 have Kr:=aa sM sN
 have Of:=aa sL Kr
 have MO:=aa sEK Of
 have Od:=aa MN Of
 have YN:ag HB HN:=aa (aa sC (aa sD sE)) MO
 have Xw:=YN _ _ gr
 have Nu:bD HN (.ref p1) bs ins nds:=pa.same Od
 have Se:bD HN (.ref p3) b3 i3 nds2:=Q7.same MO
 have OD:bD HN (.ref c1) bs ins nds:=⟨c1,CB,CI,CN,JT,UI,rfl,Kr _ _ Tb,Kr _ _ SY,Kr _ _ S0,Kr _ _ S2,Paired.aZ u0 fun _ _ z=>Tp.keep (ag.tk Od) z,Paired.aZ Uc fun _ _ z=>cw.keep (ag.tk Od) z⟩
 have OE:bD HN (.ref c3) b3 i3 nds2:=⟨c3,DB,DI,DN,JU,UJ,rfl,sN _ _ DF,sN _ _ S3,sN _ _ S4,sN _ _ S5,Paired.aZ Mk fun _ _ z=>Tp.keep (ag.tk MO) z,Paired.aZ Ud fun _ _ z=>cw.keep (ag.tk MO) z⟩
 have SN:=Of _ _ gK
 have Jm:Paired (b8 HN) (va1++Oo) (yx bs b3):=Paired.aZ Yw fun _ _ z=>b8.keep (ag.tk Of) z
 have good3:∀e∈nds2,e.good (· ∈ b3.map (·.1)) nds2.length 19:=fun e he=>Nd.good.imp (fun x z=>Cm.nm x z) (by decide) (good2 e he)
 have La:∀e∈nds,e.good (· ∈ bs.map (·.1)) nds.length 19:=fun e he=>Nd.good.imp (fun _ z=>z) (by decide) (zw.good e he)
 obtain ⟨as,Sw⟩:=qz Jm
 have V8:HN ka=some (.lst (as.map V.ref)):=by rw [← Sw]; exact SN
 have Ub:Paired (b8 HN) (as.map V.ref) (yx bs b3):=by rw [← Sw]; exact Jm
 have bsz:=CZ.sz
 have w1:∀z∈bs.map (·.2),1<=z/\z < 1000:=fun z hz=>by
   obtain ⟨b,hb,rfl⟩:=List.mem_map.mp hz
   have:=bsz b hb
   exact ⟨this.1,by omega⟩
 have w3:∀z∈b3.map (·.2),1<=z/\z < 1000:=fun z hz=>by
   obtain ⟨b,hb,rfl⟩:=List.mem_map.mp hz
   have:=Cm.ft.sz b hb
   have:=Cm.sz b hb
   exact ⟨by omega,by omega⟩
 have GY:∀{l:List Int},l.length<=100->(∀z∈l,1<=z/\z < 1000)->zA l:=fun hl h=>je (by omega) fun z hz=>by have:=h z hz; exact ⟨by omega,by omega⟩
 refine ⟨_,rfl,(by decide),(by decide),?_⟩
 refine ko (lo:=0) (n:=3) (fun i σ H2=>(∃QZ N8 L7 Kn Ii F6 Ec CV Bh:Option V,σ=[some (.ref a),some (.ref p1),some (.ref r),some (.int far),some (.ref p2),some (.ref cA),some (.ref u5),some (.ref tR),some (.ref p3),some (.bl pair),some (.ref ka),some (.ref ha),QZ,N8,L7,Kn,Ii,F6,Ec,CV,Bh])/\ag HN H2) ⟨⟨_,_,_,_,_,_,_,_,_,rfl⟩,same_refl _⟩ (fun i σ H2 hi z=>?_) (fun σ H2 z=>?_)
 · obtain ⟨⟨QZ,N8,L7,Kn,Ii,F6,Ec,CV,Bh,rfl⟩,s2⟩:=z
   refine bo ?_
   refine b7 [some (.ref a),some (.ref p1),some (.ref r),some (.int far),some (.ref p2),some (.ref cA),some (.ref u5),some (.ref tR),some (.ref p3),some (.bl pair),some (.ref ka),some (.ref ha),some (.int (0 + (i:Int))),N8,L7,Kn,Ii,F6,Ec,CV,Bh] rfl ?_
   obtain ⟨rk,Vs,Um⟩:=E2 hR (8 + 8 * i) (16 + 8 * i) (by omega) (by omega)
   have r8:Row (2 ^ 30) rk 8:=by rw [show (16 + 8 * i) - (8 + 8 * i)=8 by omega] at Um; exact Um
   refine ⟨_,rfl,_,rfl,_,_,rfl,rfl,.inl ⟨by decide,by decide⟩,_,_,rfl,rfl,_,rfl,_,rfl,_,_,rfl,rfl,.inl ⟨by decide,by decide⟩,_,_,rfl,rfl,_,rfl,r,_,rfl,ao.of (s2 _ _ Xw),fun ra NW=>?_⟩
   have OQ:br row (some (8 + 8 * (0 + (i:Int)))) (some (16 + 8 * (0 + (i:Int))))=rk:=by rw [← Vs,show (8 + 8 * (0 + (i:Int)))=((8 + 8 * i:Nat):Int) by omega,show (16 + 8 * (0 + (i:Int)))=((16 + 8 * i:Nat):Int) by omega]
   rw [bq,OQ]
   obtain ⟨H3,s3,NH,zz⟩:=aJ NW (.lst (rk.map V.int))
   rw [zz]; clear zz
   have i6:=aa s2 s3
   refine bo ?_
   refine b7 [some (.ref a),some (.ref p1),some (.ref r),some (.int far),some (.ref p2),some (.ref cA),some (.ref u5),some (.ref tR),some (.ref p3),some (.bl pair),some (.ref ka),some (.ref ha),some (.int (0 + (i:Int))),some (.ref ra),L7,Kn,Ii,F6,Ec,CV,Bh] rfl ?_
   refine ⟨_,rfl,_,rfl,.ref p1,bs,rfl,(Nu.same i6).bx,by omega,fun z1 QA=>?_⟩
   obtain ⟨H4,s4,Wh,zz⟩:=aJ QA (.lst ((bs.map (·.2)).map V.int))
   rw [zz]; clear zz
   refine ⟨_,rfl,ra,z1,rk,bs.map (·.2),far,8,rfl,⟨s4 _ _ NH,r8,by decide,Wh,by rw [ZX]; omega,w1,f0,f1⟩,fun ma wm H5 Zt s5 Wa Vd=>?_⟩
   refine bo ?_
   refine b7 [some (.ref a),some (.ref p1),some (.ref r),some (.int far),some (.ref p2),some (.ref cA),some (.ref u5),some (.ref tR),some (.ref p3),some (.bl pair),some (.ref ka),some (.ref ha),some (.int (0 + (i:Int))),some (.ref ra),some (.ref ma),Kn,Ii,F6,Ec,CV,Bh] rfl ?_
   have s35:=aa s4 s5
   have Kq:=aa i6 s35
   obtain ⟨Rc,OT,Ri⟩:=jM r8 3 (by decide)
   refine ⟨_,rfl,_,rfl,ra,_,rfl,ao.of (s35 _ _ NH),fun r3 Xt=>?_⟩
   rw [bq,show br rk (some (3:Int)) none=Rc from OT]
   obtain ⟨H6,s6,Wc,zz⟩:=aJ Xt (.lst (Rc.map V.int))
   rw [zz]; clear zz
   have BV:=aa Kq s6
   refine ⟨_,rfl,.ref p3,b3,rfl,(Se.same BV).bx,by omega,fun z2 XQ=>?_⟩
   obtain ⟨H7,s7,Wi,zz⟩:=aJ XQ (.lst ((b3.map (·.2)).map V.int))
   rw [zz]; clear zz
   refine ⟨_,rfl,r3,z2,Rc,b3.map (·.2),far,5,rfl,⟨s7 _ _ Wc,Ri,by decide,Wi,by rw [ZX]; omega,w3,f0,f1⟩,fun ya wy H8 ZA s8 Wg Vf=>?_⟩
   refine bo ?_
   refine b7 [some (.ref a),some (.ref p1),some (.ref r),some (.int far),some (.ref p2),some (.ref cA),some (.ref u5),some (.ref tR),some (.ref p3),some (.bl pair),some (.ref ka),some (.ref ha),some (.int (0 + (i:Int))),some (.ref ra),some (.ref ma),some (.ref ya),Ii,F6,Ec,CV,Bh] rfl ?_
   have Uw:=aa s6 (aa s7 s8)
   have s38:=aa s35 Uw
   have s08:=aa i6 s38
   obtain ⟨Rb,OS,Rh⟩:=jM r8 2 (by decide)
   refine ⟨_,rfl,_,rfl,ra,_,rfl,ao.of (s38 _ _ NH),fun r2 m3=>?_⟩
   rw [bq,show br rk (some (2:Int)) none=Rb from OS]
   obtain ⟨H9,s9,Wb,zz⟩:=aJ m3 (.lst (Rb.map V.int))
   rw [zz]; clear zz
   have JC:=aa s08 s9
   refine ⟨_,rfl,r2,ka,Rb,6,va1++Oo,yx bs b3,rfl,Wb,Rh,by decide,JC _ _ SN,Paired.aZ Jm (fun _ _ z=>b8.keep (ag.tk JC) z),by rw [Z0]; omega,D3,fun tv e GG Oc ev Vt Sx ed eb=>?_⟩
   refine bo ?_
   refine b7 [some (.ref a),some (.ref p1),some (.ref r),some (.int far),some (.ref p2),some (.ref cA),some (.ref u5),some (.ref tR),some (.ref p3),some (.bl pair),some (.ref ka),some (.ref ha),some (.int (0 + (i:Int))),some (.ref ra),some (.ref ma),some (.ref ya),some tv,F6,Ec,CV,Bh] rfl ?_
   have Rn:=aa JC Oc
   refine ⟨_,rfl,tv,e,rfl,ev,Sx,ed,eb,fun nl vn Ow ki MJ SQ Ue=>⟨nl,rfl,⟨_,ao.of SQ⟩,fun tl Tv=>?_⟩⟩
   have MG:=aa Rn MJ
   have Ya:vn.length=e.b9.length:=Paired.length Ue
   refine bj (xs:=vn) (fun i Hq=>ag Ow Hq/\Hq tl=some (.lst (((e.b9.take i).map fun b=>decide (b∈yx bs b3)).map V.bl))) ⟨af Tv _,ae⟩ (fun i Hq _ z=>ao.of (z.1 _ _ SQ)) (fun i x Hq hx z=>?_) (fun Nm z=>?_)
   · obtain ⟨sq,gq⟩:=z
     have dP:i < vn.length:=(List.getElem?_eq_some_iff.mp hx).1
     obtain ⟨b,fP,pb,rfl,rM⟩:=Paired.get Ue hx
     have s0q:=aa MG sq
     refine bo ?_
     refine bU (A:=fun H4=>de _ tl _ H4 _) ?_
     refine ⟨_,rfl,_,rfl,ka,as,twoF Hq b.1 b.2,rfl,ao.of (s0q _ _ V8),(fun a ha=>?_),_,gq,aB (by rw [ZX,ZX,aak]; omega),aL (Pv:=fun i Hq=>ag Ow Hq/\Hq tl=some (.lst (((e.b9.take i).map fun b=>decide (b∈yx bs b3)).map V.bl))) (by repeat' constructor) dP ⟨aG sq Tv,?_⟩⟩
     · obtain ⟨j,hj⟩:=List.mem_iff_getElem?.mp ha
       obtain ⟨bb,_,p',e',h'⟩:=Paired.get Ub (show (as.map V.ref)[j]? = some (.ref a) by rw [aaq,hj]; rfl)
       cases e'
       exact two_eb (s0q _ _ h') (sq _ _ rM)
     · have ea:as.any (twoF Hq b.1 b.2)=decide (b∈yx bs b3):=two_any (Paired.aZ Ub fun _ _ z=>b8.keep (ag.tk s0q) z)
       rw [ae,Z9,fP,Z5,Z5]
       show some (HO.lst (_++[V.bl (as.any (twoF Hq b.1 b.2))]))=_
       rw [ea]
       rfl
   obtain ⟨BW,SF⟩:=z
   rw [Ya,aao] at SF
   have JA:=aa MG BW
   refine ⟨tl,_,rfl,ao.of SF,?_⟩
   obtain ⟨th,OX⟩ : ∃th,th=(e.b9.map fun b=>decide (b∈yx bs b3)).all id:=⟨_,rfl⟩
   have XA:th=e.aQ (zo bs b3):=by rw [OX,gR]
   refine bo ?_
   refine b7 [some (.ref a),some (.ref p1),some (.ref r),some (.int far),some (.ref p2),some (.ref cA),some (.ref u5),some (.ref tR),some (.ref p3),some (.bl pair),some (.ref ka),some (.ref ha),some (.int (0 + (i:Int))),some (.ref ra),some (.ref ma),some (.ref ya),some tv,some (.bl th),Ec,CV,Bh] (by subst OX; rfl) ?_
   clear OX
   have Ry:ag H5 Nm:=aa Uw (aa s9 (aa Oc (aa MJ BW)))
   have FD:=Ry _ _ Wa
   have FE:Nm ya=some (.lst (wy.map V.int)):=aa s9 (aa Oc (aa MJ BW)) _ _ Wg
   refine ⟨_,rfl,_,rfl,_,rfl,.ref p1,bs,rfl,(Nu.same JA).bx,by omega,fun z3 QB=>?_⟩
   obtain ⟨RT,s13,Wj,zz⟩:=aJ QB (.lst ((bs.map (·.2)).map V.int))
   rw [zz]; clear zz
   refine ⟨ma,z3,wm,bs.map (·.2),rfl,s13 _ _ FD,Wj,by rw [ZX]; omega,fun fb RV WS BY=>?_⟩
   have Ro:=aa JA (aa s13 BY)
   refine ⟨_,rfl,_,rfl,.ref p3,b3,rfl,(Se.same Ro).bx,by omega,fun z4 XR=>?_⟩
   obtain ⟨RX,s15,Wk,zz⟩:=aJ XR (.lst ((b3.map (·.2)).map V.int))
   rw [zz]; clear zz
   have Gg:=aa s13 (aa BY s15)
   refine ⟨ya,z4,wy,b3.map (·.2),rfl,Gg _ _ FE,Wk,by rw [ZX]; omega,fun sb RY FQ B4=>?_⟩
   have MK:=aa Gg B4
   refine ⟨_,rfl,pair,fb,sb,th,rfl,fun du WL=>?_⟩
   obtain ⟨RZ,YD,V4,zz⟩:=aJ WL (.lst ((kb (oj pair fb sb th)).map V.bl))
   rw [zz]; clear zz
   refine bo ?_
   refine b7 [some (.ref a),some (.ref p1),some (.ref r),some (.int far),some (.ref p2),some (.ref cA),some (.ref u5),some (.ref tR),some (.ref p3),some (.bl pair),some (.ref ka),some (.ref ha),some (.int (0 + (i:Int))),some (.ref ra),some (.ref ma),some (.ref ya),some tv,some (.bl th),some (.ref du),CV,Bh] rfl ?_
   have s1217:=aa MK YD
   have s017:=aa JA s1217
   refine ⟨_,rfl,ha,_,_,_,rfl,rfl,ao.of (s017 _ _ K9),rfl,_,rfl,ha,_,_,_,rfl,rfl,ao.of (s017 _ _ K9),rfl,_,rfl,ma,_,rfl,.inl (ao.of (s1217 _ _ FD)),fun m2 hm2=>?_⟩
   obtain ⟨R0,s18,V9,zz⟩:=aJ hm2 (.lst (wm.map V.int))
   rw [zz]; clear zz
   refine ⟨_,rfl,ya,_,rfl,.inl (ao.of (s18 _ _ (s1217 _ _ FE))),fun y2 Qz=>?_⟩
   obtain ⟨R1,Uq,Wf,zz⟩:=aJ Qz (.lst (wy.map V.int))
   rw [zz]; clear zz
   have s1719:=aa s18 Uq
   have BU:=aa s017 s1719
   have Vz:=cE.keep (ag.tk (aa MJ (aa BW (aa s1217 s1719)))) ev
   refine ⟨_,rfl,.ref c1,.ref c3,m2,y2,tv,bs,b3,ins,i3,nds,nds2,wm,wy,e,rfl,⟨⟨OD.same BU,OE.same BU,FA,Cm.ft⟩,⟨(OD.same BU).bx,FA.nd,GY (by rw [ZX]; omega) w1,Uq _ _ V9,Vd⟩,⟨(OE.same BU).bx,Cm.ft.nd,GY (by rw [ZX]; omega) w3,Wf,Vf⟩,Vz,Sx,ed,fun gp=>by rw [Cm.eq gp.1.symm,U9],by omega⟩,Vt,fun k al R3 hk Zn Rt V2=>?_⟩
   have O2:=Rt _ _ (s1719 _ _ V4)
   refine ⟨_,rfl,_,RB.Sl V2 O2,_,rfl,?_⟩
   have ek:k=oj pair fb sb th:=by rw [XA]; exact G4 hk FN WS FQ
   refine aF (fun c=>absurd (show kb k=kb (oj pair fb sb th) by rw [ek]) (lW c)) (fun _=>?_)
   have Rp:=aa BU Rt
   have sx:ag H3 R3:=aa s38 (aa s9 (aa Oc (aa MJ (aa BW (aa s1217 (aa s1719 Rt))))))
   have wi:∀z∈ins.map (cj bs),1<=z/\z < 1000:=fun z hz=>by
     obtain ⟨x,hx,rfl⟩:=List.mem_map.mp hz
     obtain ⟨b,hb,rfl⟩:=List.mem_map.mp (FA.sub x hx)
     rw [kf FA.nd hb]
     have:=bsz b hb
     exact ⟨this.1,by omega⟩
   have ilen:=DT CZ
   obtain ⟨Rf,OU,Rj⟩:=jM r8 5 (by decide)
   refine ⟨_,rfl,_,rfl,ra,_,rfl,ao.of (sx _ _ NH),fun r5 Xu=>?_⟩
   rw [bq,show br rk (some (5:Int)) none=Rf from OU]
   obtain ⟨R4,YE,Wd,zz⟩:=aJ Xu (.lst (Rf.map V.int))
   rw [zz]; clear zz
   have MH:=aa Rp YE
   refine ⟨_,rfl,.ref p1,bs,ins,nds,rfl,Nu.same MH,FA,fun lc vc zm Zq s22 gc Ug=>⟨lc,rfl,⟨_,ao.of gc⟩,fun Oj LL=>?_⟩⟩
   have X8:vc.length=(cI bs ins).length:=Paired.length Ug
   have TR:(cI bs ins).length<=2:=by unfold cI; rw [ZX]; exact DT CZ
   refine bj (xs:=vc) (fun i Hq=>ag zm Hq/\Hq Oj=some (.lst ((((cI bs ins).take i).map (·.2)).map V.int))) ⟨af LL _,ae⟩ (fun i Hq _ z=>ao.of (z.1 _ _ gc)) (fun i x Hq hx z=>?_) (fun R5 z=>?_)
   · obtain ⟨sq,gq⟩:=z
     have dP:i < vc.length:=(List.getElem?_eq_some_iff.mp hx).1
     obtain ⟨b,fP,pb,rfl,rM⟩:=Paired.get Ug hx
     refine ⟨pb,_,rfl,aK.of (sq _ _ rM),rfl,_,_,rfl,_,_,rfl,rfl,?_⟩
     refine bU (A:=fun H4=>de _ Oj _ H4 _) ?_
     refine ⟨_,rfl,_,gq,aB (by rw [ZX,ZX,aak]; omega),aL (Pv:=fun i Hq=>ag zm Hq/\Hq Oj=some (.lst ((((cI bs ins).take i).map (·.2)).map V.int))) (by repeat' constructor) dP ⟨aG sq LL,?_⟩⟩
     rw [ae,Z9,fP,Z5,Z5]
     rfl
   obtain ⟨E3,Lc⟩:=z
   rw [X8,aao,show (cI bs ins).map (·.2)=ins.map (cj bs) by unfold cI; rw [aa9]; rfl] at Lc
   have Rq:=aa MH (aa s22 E3)
   refine ⟨_,rfl,r5,Oj,Rf,ins.map (cj bs),far,3,rfl,⟨E3 _ _ (s22 _ _ Wd),Rj,by decide,Lc,by rw [ZX]; omega,wi,f0,f1⟩,fun xa wx R6 Zz YF SR Ve=>?_⟩
   refine bo ?_
   refine b7 [some (.ref a),some (.ref p1),some (.ref r),some (.int far),some (.ref p2),some (.ref cA),some (.ref u5),some (.ref tR),some (.ref p3),some (.bl pair),some (.ref ka),some (.ref ha),some (.int (0 + (i:Int))),some (.ref ra),some (.ref ma),some (.ref ya),some tv,some (.bl th),some (.ref du),some (.ref xa),Bh] rfl ?_
   have MI:=aa Rq YF
   refine ⟨_,rfl,?_⟩
   refine ⟨_,rfl,.ref p1,bs,ins,nds,rfl,Nu.same MI,FA,fun ld vd Nn Zr s25 gd Uh=>⟨ld,rfl,⟨_,ao.of gd⟩,fun M3 LM=>?_⟩⟩
   have X9:vd.length=(cI bs ins).length:=Paired.length Uh
   have TU:(cI bs ins).length<=2:=by unfold cI; rw [ZX]; exact DT CZ
   refine bj (xs:=vd) (fun i Hq=>ag Nn Hq/\Hq M3=some (.lst ((((cI bs ins).take i).map (·.2)).map V.int))) ⟨af LM _,ae⟩ (fun i Hq _ z=>ao.of (z.1 _ _ gd)) (fun i x Hq hx z=>?_) (fun R7 z=>?_)
   · obtain ⟨sq,gq⟩:=z
     have dP:i < vd.length:=(List.getElem?_eq_some_iff.mp hx).1
     obtain ⟨b,fP,pb,rfl,rM⟩:=Paired.get Uh hx
     refine ⟨pb,_,rfl,aK.of (sq _ _ rM),rfl,_,_,rfl,_,_,rfl,rfl,?_⟩
     refine bU (A:=fun H4=>de _ M3 _ H4 _) ?_
     refine ⟨_,rfl,_,gq,aB (by rw [ZX,ZX,aak]; omega),aL (Pv:=fun i Hq=>ag Nn Hq/\Hq M3=some (.lst ((((cI bs ins).take i).map (·.2)).map V.int))) (by repeat' constructor) dP ⟨aG sq LM,?_⟩⟩
     rw [ae,Z9,fP,Z5,Z5]
     rfl
   obtain ⟨ML,Ld⟩:=z
   rw [X9,aao,show (cI bs ins).map (·.2)=ins.map (cj bs) by unfold cI; rw [aa9]; rfl] at Ld
   have Rr:=aa MI (aa s25 ML)
   refine ⟨xa,M3,wx,ins.map (cj bs),rfl,ML _ _ (s25 _ _ SR),Ld,by rw [ZX]; omega,fun gb R8 WT Ut=>?_⟩
   refine bo ?_
   refine b7 [some (.ref a),some (.ref p1),some (.ref r),some (.int far),some (.ref p2),some (.ref cA),some (.ref u5),some (.ref tR),some (.ref p3),some (.bl pair),some (.ref ka),some (.ref ha),some (.int (0 + (i:Int))),some (.ref ra),some (.ref ma),some (.ref ya),some tv,some (.bl th),some (.ref du),some (.ref xa),some (.bl gb)] rfl ?_
   have s027:=aa Rr Ut
   have s2427:=aa s25 (aa ML Ut)
   refine ⟨_,rfl,ha,_,_,_,rfl,rfl,ao.of (s027 _ _ K9),rfl,_,rfl,ha,_,_,_,rfl,rfl,ao.of (s027 _ _ K9),rfl,_,rfl,xa,_,rfl,.inl (ao.of (s2427 _ _ SR)),fun x2 yp=>?_⟩
   obtain ⟨CJ,YG,We,zz⟩:=aJ yp (.lst (wx.map V.int))
   rw [zz]; clear zz
   have JB:=aa s027 YG
   have Y2:=Fe l2 (fun b hb=>by have:=bsz b hb; omega)
   have Y3:n9 b3<=1000:=RD Va (fun b hb=>⟨Cm.ft.sz b hb,Cm.sz b hb⟩)
   have few1:nds.length * n9 bs<=100000:=Z8 (acD (show nds.length<=100 by omega) Y2) (by decide)
   have few2:nds2.length * n9 b3<=100000:=Z8 (acD (show nds2.length<=100 by omega) Y3) (by decide)
   refine ⟨.ref c1,.ref c3,x2,bs,b3,ins,i3,nds,nds2,wx,rfl,⟨⟨OD.same JB,FA,one,La⟩,⟨OE.same JB,Cm.ft,two1,good3⟩,We,Ve,GY (by rw [ZX]; omega) wi,few1,few2⟩,fun k2 Zc R9 Kd Wz YH O0=>?_⟩
   refine ⟨_,rfl,_,rfl,pair,gb,true,true,rfl,fun Zd Po=>?_⟩
   obtain ⟨Sa,s30,O1,zz⟩:=aJ Po (.lst ((kb (oj pair gb true true)).map V.bl))
   rw [zz]; clear zz
   refine ⟨_,RB.Sl (s30 _ _ O0) O1,_,rfl,?_⟩
   have Vr:k2=oj pair gb true true:=G3 Kd FN WT
   refine aF (fun c=>absurd (show kb k2=kb (oj pair gb true true) by rw [Vr]) (lW c)) (fun _=>?_)
   exact ⟨⟨_,_,_,_,_,_,_,_,_,rfl⟩,aa JB (aa YH s30)⟩
 obtain ⟨⟨QZ,N8,L7,Kn,Ii,F6,Ec,CV,Bh,rfl⟩,s2⟩:=z
 refine ⟨_,rfl,_,rfl,_,rfl,agd,fun hb WX=>?_⟩
 obtain ⟨HV,sV,V5,zz⟩:=aJ WX (.lst [.ref p1,.ref p3])
 rw [zz]; clear zz
 have sNV:=aa s2 sV
 have sLV:=aa Kr sNV
 have sMV:=aa sN sNV
 have sAV:=aa Od sNV
 have sEV:=aa MO sNV
 have rf:∀{n:Nat} {xs:List V},(∀x∈xs,ck x=true\/∃a,x=.ref a)->∀(j:Nat) (x y:V),xs[j]? = some x->xs[j]? = some y->ET K HV n x y:=fun hf j x y hx hy=>by
   rw [hx] at hy
   cases hy
   exact ET.refl (hf x (aab hx))
 have fs':∀l:List Str,∀x∈l.map V.str,ck x=true\/∃a,x=.ref a:=fun l x hx=>by obtain ⟨z,_,rfl⟩:=List.mem_map.mp hx; exact .inl rfl
 have fb:∀{HX:Hp} {vb:List V} {bs:List (Str×Int)},Paired (bG HX) vb bs->∀x∈vb,ck x=true\/∃a,x=.ref a:=fun pb x hx=>by
   obtain ⟨j,hj,ej⟩:=ab0 hx
   obtain ⟨b,_,hb⟩:=Paired.get pb (ZZ hj)
   rw [ej] at hb
   exact .inr hb.ref
 have fn:∀{HX:Hp} {vn:List V} {nds:List Nd},Paired (cw HX) vn nds->∀x∈vn,ck x=true\/∃a,x=.ref a:=fun pn x hx=>by
   obtain ⟨j,hj,ej⟩:=ab0 hx
   obtain ⟨b,_,hb⟩:=Paired.get pn (ZZ hj)
   rw [ej] at hb
   exact .inr hb.ref
 have Ui:∀{p p' B B' I I' N N':Addr} {vb vi vn:List V},HV p=some (.tup [.ref B,.ref I,.ref N])->HV p'=some (.tup [.ref B',.ref I',.ref N'])->HV B=some (.lst vb)->HV B'=some (.lst vb)->HV I=some (.lst vi)->HV I'=some (.lst vi)->HV N=some (.lst vn)->HV N'=some (.lst vn)->(∀x∈vb,ck x=true\/∃a,x=.ref a)->(∀x∈vi,ck x=true\/∃a,x=.ref a)->(∀x∈vn,ck x=true\/∃a,x=.ref a)->ET K HV 3 (.ref p) (.ref p'):=fun h1 h2 h3 h4 h5 h6 h7 h8 g1 g2 g3=>ET.tup (aK.of h1) (aK.of h2) rfl fun j x y hx hy=>by
   match j,hx,hy with
   | 0,hx,hy=>cases hx; cases hy; exact ET.lst (ao.of h3) (ao.of h4) rfl (rf g1)
   | 1,hx,hy=>cases hx; cases hy; exact ET.lst (ao.of h5) (ao.of h6) rfl (rf g2)
   | 2,hx,hy=>cases hx; cases hy; exact ET.lst (ao.of h7) (ao.of h8) rfl (rf g3)
 refine ⟨true,RB.lst (ao.of (sNV _ _ K9)) (ao.of V5) rfl (fun j x y hx hy=>?_),q _⟩
 match j,hx,hy with
 | 0,hx,hy=>cases hx; cases hy; exact Ui (sLV _ _ Tb) (sAV _ _ yk) (sLV _ _ SY) (sAV _ _ CM) (sLV _ _ S0) (sAV _ _ hI1) (sLV _ _ S2) (sAV _ _ Lf) (fb u0) (fs' _) (fn Uc)
 | 1,hx,hy=>cases hx; cases hy; exact Ui (sMV _ _ DF) (sEV _ _ lK) (sMV _ _ S3) (sEV _ _ Kc) (sMV _ _ S4) (sEV _ _ S6) (sMV _ _ S5) (sEV _ _ S8) (fb Mk) (fs' _) (fn Ud)
end
end TW
namespace TW
open PySem L2
theorem GS {P:Program}{w:World}{K:ZY}{mg:Str->Option Value}{fa:Addr}(hfa:mg "law"=some (.ref fa))(t:KH K mg) :
   ∃fd:aaf,(∀(s:Shared) (u:Value),BindsTo s fd ⟨[u],[]⟩ [("script",u)])/\∀base:Heap,K.In base->base.Ns aaR mg->aP P w K mg base cK 65 fa fd ["script"] (xj K):=by
 obtain ⟨f,fd,F,m⟩:=t.s_law
 have e:=hfa.symm.trans m
 cases e
 refine ⟨fd,fun s u=>?_,fun base _ _=>?_⟩
 · obtain ⟨oc,od,kV,doc,pm,an,cdv,ct,osl,rfl,lk,hcd⟩:=F.ex
   exact .of_eq rfl
 obtain ⟨T,aH,aA,az,aN,bf,bg,aR,aS,bA,aT,aU,R⟩:=t.cl
 have CE:aX P w K mg base "_law_cell_at" ["script","k"] 1 (kP K):=Ag t.s_law_cell_at t.m_len
 have NU:aX P w K mg base "_law_numbers" ["cell","many","base"] 1 dX:=rE t.s_law_numbers t.m_range
 have SM:aX P w K mg base "_law_sum" ["row","names"] 1 nP:=DE t.s_law_sum t.m_len
 have CO:=Ah t.s_law_condition SM
 have ND:=Ak t.s_law_node t.m_len SM CO
 have BX:aX P w K mg base "_law_boxes" ["number"] 1 jU:=xY t.s_law_boxes t.m_len t.m_range t.m_int
 have PR:=Am t.s_law_program t.m_len t.m_range CE NU BX ND
 have RN:aX P w K mg base "_law_renamed" ["thing","called"] 7 (jY 6):=DD t.s_law_renamed t.m_tuple t.m_isinstance 6
 have NA:=uj t.s_law_node_as RN
 have SK:aX P w K mg base "_law_skip" ["boxes","called","number","after"] 1 nO:=Ap t.s_law_skip t.m_len
 have OV:=Al t.s_law_made_over t.m_len t.m_range t.m_int t.m_list NA SK
 have CP:aX P w K mg base "_law_copied" ["program"] 1 xf:=Dw t.s_law_copied t.m_list
 have RW:aX P w K mg base "refuse_worths" ["sizes","worths"] 1 nN:=An t.s_refuse_worths t.m_len t.m_zip
 have KW:qH P w K mg base "known_worths" ["program","worths","side"] 1 dk "box":=ui t.s_known_worths t.m_zip
 have U1:aX P w K mg base "known_worths" ["program","worths","side"] 1 dk:=rC t.s_known_worths t.m_zip
 have WB:∀n,aX P w K mg base "worth_by" ["known","sum_told"] (n + 1) (cy n):=ye t.s_worth_by
 have HB:aX P w K mg base "holds_by" ["known","condition"] 22 (di 20):=x8 t.s_holds_by WB 20
 have WP:aX P w K mg base "worths_put" ["program","worths","put_name","told"] 1 nQ:=Ar t.s_worths_put t.m_zip
 have SA:=uv t.s_step_at t.m_list (KW.mono (by decide)) (WP.mono (by decide)) ((WB 20).mono (by decide)) (HB.mono (by decide))
 have IS:aX P w K mg base "input_sizes" ["program"] 1 fB:=Aj t.s_input_sizes t.m_dict
 have BG:=xW t.s_beginning_of t.m_dict t.m_zip RW IS
 have FS:aX P w K mg base "first_said" ["run","many"] 1 jV:=xZ t.s_first_said t.m_len t.m_list
 have ST:aX P w K mg base "numbers_that_settle" ["run","another"] 1 gH:=ur t.s_numbers_that_settle t.m_len t.m_max t.m_sum
 have AL:=uq t.s_said_alike t.m_len t.m_min t.m_enumerate t.m_zip ST FS
 have UP:aX P w K mg base "all_known" ["known","told"] 21 (dj 20):=uh t.s_all_known t.c_NAMELESS t.c_PARTED 20
 have RU:=rF t.s_refuse_unknown R.x_NoProgram UP
 have Sh:=yc (P:=P) (w:=w) (base:=base) t.s_refuse_worths R.x_NoWorths t.m_len t.m_zip
 have BZ:aX P w K mg base "box_sizes" ["program"] 1 dS:=xX t.s_box_sizes
 have U4:=uo t.s_refuse_box_worths Sh BZ
 have Sb:=rD t.s_refuse_no_pair R.x_NoPair IS
 have KB:=Dz t.s_known_between U1
 have KF:=Dy t.s_known_for_both Sb U4 KB RU
 have SB:=Aq t.s_sum_between (WB 20) KF
 have HO:=Ai t.s_holds_between HB KF
 have UQ:=Af t.s_beginning_of Sh IS
 have RE:=Ao t.s_run_of t.m_len t.m_tuple (BG.mono (by decide)) (SA.mono (by decide)) UQ
 have RP:=um t.s_runs_part Sb AL RE
 have KN:=x9 (P:=P) (w:=w) (base:=base) t.s_law_kinds R t.m_isinstance t.m_ValueError
 have AK:=xV t.s_law_asked R HO SB KN
 have PD:=uk t.s_law_parted R RP KN
 have SZ:aX P w K mg base "_law_sizes" ["program"] 1 dS:=DC t.s_law_sizes
 have LI:aX P w K mg base "_law_input_sizes" ["program"] 1 xi:=DA t.s_law_input_sizes t.m_dict
 have AR:aX P w K mg base "_law_are" ["worths","sizes"] 1 xb:=Dv t.s_law_are t.m_len t.m_all t.m_range
 have DU:aX P w K mg base "_law_due" ["pair","first","second","boxes"] 1 xg:=Dx t.s_law_due
 have WR:aX P w K mg base "_law_wrong" ["row","sizes","far"] 1 mf:=yf t.s_law_wrong t.m_len t.m_int
 have SP:aX P w K mg base "_law_spoilt" ["program","row"] 1 kc:=uu t.s_law_spoilt t.m_int
 have NM:aX P w K mg base "_law_named" ["thing"] 21 (eL 20):=yb t.s_law_named t.m_tuple t.m_isinstance 20
 have TH:aX P w K mg base "_law_thing" ["row","known"] 1 me:=yd t.s_law_thing t.m_int t.m_len
 exact Iz F t.m_list t.m_range t.m_all (PR.mono (by decide)) (NU.mono (by decide)) (CE.mono (by decide)) (OV.mono (by decide)) (SP.mono (by decide)) (LI.mono (by decide)) (CP.mono (by decide)) (WR.mono (by decide)) (SZ.mono (by decide)) (TH.mono (by decide)) (NM.mono (by decide)) (DU.mono (by decide)) (AR.mono (by decide)) (AK.mono (by decide)) (PD.mono (by decide))
end TW
namespace TW
open PySem L2
theorem walk {l:PySem.W.OpenLaw}{q:Program}{loose:List Str}{XP:(Str->Option Value)->Heap->Prop}{YP:World->Heap->Prop}{d:DefRec}{K:Params->ZY}(hn:l.most=some 63)(hdf:d.params.defaults=[])
   (hY:∀(w:World) (h:Heap),YP w h->(K w.params).In h)
   (F:∀(w:World) (mg:Str->Option Value) (fa:Addr) (h:Heap),(K w.params).In h->h.Ns aaR mg->mg d.name=some (.ref fa) ->
     ∃fd:aaf,(∀(s:Shared) (u:Value),BindsTo s fd ⟨[u],[]⟩ [("script",u)])/\∀base:Heap,(K w.params).In base->base.Ns aaR mg->aP l.prog w (K w.params) mg base cK 65 fa fd ["script"] (xj (K w.params))) :
   PySem.W.WalkO q loose XP YP l.row.toRowW d [] (fun f vs=>PySem.call f vs):=
 L2.Ff (n:=63) (k:=65) (x:="script") (CX:=fun _=>cK) (sp:=fun w=>xj (K w.params)) hn (by decide) hdf ⟨rfl,by decide,by decide⟩ hY F (fun _ _ a ns hl _ hS=>⟨a,ns,rfl,hS,hl,fun _=>rfl⟩) fun _ _ _ _ _ z=>z
end TW
namespace PySem.W.Fast
def tw10168235527580898304:=0
def tw10294810690602928533:=0
def tw10351063754011148034:=0
def tw10435526162888262529:=0
def tw10512927269179607784:=0
def tw10521815810308142515:=0
def tw1053658897326801975:=0
def tw10561251524779279807:=0
def tw1064068087224185739:=0
def tw10642179998934297654:=0
def tw10647643335717084053:=0
def tw10659637790128258212:=0
def tw10694012787456777325:=0
def tw1069718246445872720:=0
def tw10729503410108511792:=0
def tw10732888692783459531:=0
def tw10736002059974212494:=0
def tw10737342623492063047:=0
def tw10758117908446058164:=0
def tw10843067356356695814:=0
def tw10892445209848035758:=0
def tw1089282568033540091:=0
def tw1089603557430087145:=0
def tw10926117862803844837:=0
def tw10945727947256282628:=0
def tw10949804037167403133:=0
def tw11000968779762930498:=0
def tw1100814766456882741:=0
def tw112512496726570085:=0
def tw11281627844675378947:=0
def tw11287544388439188375:=0
def tw11381863228713992983:=0
def tw11385772670645105695:=0
def tw11401303582233127203:=0
def tw11408959869242117098:=0
def tw11472593308068358779:=0
def tw11477208255852203193:=0
def tw11502394378682255877:=0
def tw11522270711122175216:=0
def tw11553999944903027597:=0
def tw11595367877397792925:=0
def tw11601169693882974316:=0
def tw1163028925215846773:=0
def tw11644873571883993725:=0
def tw11682431967600003539:=0
def tw11687999214008763725:=0
def tw11735093375587618501:=0
def tw11736510667996378162:=0
def tw11798929114908861676:=0
def tw11831474996195872076:=0
def tw1186127783193012821:=0
def tw11866263435183536724:=0
def tw11911240020078989980:=0
def tw12093749046068411573:=0
def tw12128938106924454592:=0
def tw12129644334760988210:=0
def tw12130215159811571677:=0
def tw12156394780847588466:=0
def tw12190894339168666739:=0
def tw12207935128127234531:=0
def tw12211766138169870192:=0
def tw12226388928832040691:=0
def tw12229461470327360028:=0
def tw12247953392320356405:=0
def tw12319832383967548864:=0
def tw1247122080416471203:=0
def tw12483417592622207204:=0
def tw12580764083922410109:=0
def tw12621669553183437661:=0
def tw12656552070370874795:=0
def tw12711471328257796373:=0
def tw1281538344657324354:=0
def tw12830738553263806733:=0
def tw12864172082771036478:=0
def tw12894801509901659470:=0
def tw12904142725389129464:=0
def tw12941949231678959174:=0
def tw12967259531325906740:=0
def tw13055896788438447302:=0
def tw13207347812259929922:=0
def tw13210692413533136580:=0
def tw13306772001284818839:=0
def tw13316015849401175186:=0
def tw13384587005516215604:=0
def tw13542432040281332986:=0
def tw13547486262132385166:=0
def tw13559603021533504110:=0
def tw13579511329179828313:=0
def tw13639096404150562390:=0
def tw13694018369444338432:=0
def tw13716732111145125770:=0
def tw1373746958075644642:=0
def tw13753684993687135662:=0
def tw13756492245328830757:=0
def tw13825936137583916704:=0
def tw13898952384472949581:=0
def tw13939428081846728059:=0
def tw13957131277697028763:=0
def tw13979513735931273282:=0
def tw14022448211995924708:=0
def tw14037883318804836281:=0
def tw1412159977824530924:=0
def tw14132972461201271209:=0
def tw14139610922836389448:=0
def tw14226193515658686800:=0
def tw14312074118719595648:=0
def tw14328492402146267077:=0
def tw14355065444276259380:=0
def tw14364927086928775373:=0
def tw1440165319726207815:=0
def tw14454718335421158512:=0
def tw14486980027926563849:=0
def tw14507742151472122034:=0
def tw14562251830638992142:=0
def tw14588565047904113445:=0
def tw14632710350799236777:=0
def tw14671382496228573183:=0
def tw1474407650363621100:=0
def tw14807456868793322087:=0
def tw14814902253497891586:=0
def tw14845258084874990063:=0
def tw14848941215359705872:=0
def tw14857344521305370191:=0
def tw14865260957626354211:=0
def tw14883340269303078069:=0
def tw14921270746628859421:=0
def tw14922938478121821168:=0
def tw14930978968880394519:=0
def tw14947224449514209399:=0
def tw14974722919473091967:=0
def tw15038026475467301338:=0
def tw15044080908853348328:=0
def tw15044929126750916687:=0
def tw1504970947442112208:=0
def tw15068855534551651226:=0
def tw15100054029222701746:=0
def tw15228182461512246179:=0
def tw15247625959973909182:=0
def tw15286159217422544820:=0
def tw15289070658130262215:=0
def tw15313243585252978785:=0
def tw15381219152902269052:=0
def tw15411495853937361417:=0
def tw15449786416335657789:=0
def tw15467112149857887713:=0
def tw15501712501018063256:=0
def tw15523364365862788716:=0
def tw15533990898255468856:=0
def tw15539368967113785848:=0
def tw15578412123694165433:=0
def tw15596616968737817795:=0
def tw15655694750038541519:=0
def tw15662356728912074620:=0
def tw15696879966656658896:=0
def tw15717943226872379500:=0
def tw15732354467881485408:=0
def tw15747801764254726729:=0
def tw1576667618928607800:=0
def tw15791197235860183271:=0
def tw15812910859595754409:=0
def tw15820967309379675235:=0
def tw15849882391290517139:=0
def tw15851476358720600611:=0
def tw15905854907854053239:=0
def tw1590701069698627038:=0
def tw15909906905633478467:=0
def tw15985479824089669404:=0
def tw15985675320734772181:=0
def tw15987220801669580167:=0
def tw16031132914550859040:=0
def tw16043541174340761338:=0
def tw16063024820080374699:=0
def tw16072797160234826090:=0
def tw1608974253921610210:=0
def tw1624642364692757917:=0
def tw16255550764934573798:=0
def tw16269391883183131299:=0
def tw1628186316317897024:=0
def tw16286107740561560560:=0
def tw16296404263344489773:=0
def tw16310768735140381022:=0
def tw16321940567179378729:=0
def tw16334766733512928644:=0
def tw16441973468496902262:=0
def tw16490157794583189329:=0
def tw16524420035052568425:=0
def tw16539493260380771413:=0
def tw1657957079425483576:=0
def tw16631563176237048068:=0
def tw16675799534103014604:=0
def tw16696219749713756742:=0
def tw16698147861667723683:=0
def tw16741826816742793247:=0
def tw16753372573802137913:=0
def tw16823688741621589909:=0
def tw16912234006206096915:=0
def tw16974667508713754380:=0
def tw16978510849566844458:=0
def tw16990527455948562389:=0
def tw17029156851240806705:=0
def tw17057284778151342645:=0
def tw17106529029152817531:=0
def tw17131039988124932349:=0
def tw17149460637318917631:=0
def tw17198851842001439290:=0
def tw17205218665610864890:=0
def tw17230427239888979773:=0
def tw17243542476164026782:=0
def tw17293712862443401726:=0
def tw17319289887453694337:=0
def tw17348083770755231316:=0
def tw17394936528589806341:=0
def tw17425985870864434276:=0
def tw17434852500217559440:=0
def tw17448668178759100073:=0
def tw17454433566655305940:=0
def tw17479123601172122208:=0
def tw17513449683505787857:=0
def tw17515109492017123272:=0
def tw17533159937910849495:=0
def tw17607582567425891550:=0
def tw17767257487488600606:=0
def tw17854965896989088238:=0
def tw17913543582417061206:=0
def tw17929472473061749354:=0
def tw17934252371562979170:=0
def tw17949049444537178608:=0
def tw18027433453942993057:=0
def tw18097891102070195681:=0
def tw18207747737380207963:=0
def tw18224442127957395216:=0
def tw18237572409894659473:=0
def tw1832496615391942405:=0
def tw18384749190869835085:=0
def tw18385868583946044493:=0
def tw18390222186939735322:=0
def tw18433055211263018576:=0
def tw1844760183170223817:=0
def tw1868348500244972585:=0
def tw2028176331372829129:=0
def tw2069136850312113474:=0
def tw20906360672003883:=0
def tw209490396613607955:=0
def tw2137420899240157736:=0
def tw2239161224673628070:=0
def tw2241058311056101704:=0
def tw2275529425039643909:=0
def tw232096444658729291:=0
def tw2344419903587730929:=0
def tw2357304804222907502:=0
def tw2419803440801436259:=0
def tw2422753666690346803:=0
def tw2476305549146294247:=0
def tw2489086072497708088:=0
def tw2520582236675436747:=0
def tw2541334080437582338:=0
def tw2583136455647116632:=0
def tw2583323948848606243:=0
def tw2607043056351406804:=0
def tw2620160110988873901:=0
def tw264245101397302021:=0
def tw2656793867265219085:=0
def tw2713854767641590911:=0
def tw2757271287853518939:=0
def tw2757503420702514861:=0
def tw2764356636240798987:=0
def tw2906508634836294765:=0
def tw2920780291615800958:=0
def tw2935205077310131733:=0
def tw2984109745025315086:=0
def tw3007124270737836932:=0
def tw3023835924667936534:=0
def tw3084269372711185293:=0
def tw3084741426897767350:=0
def tw3163245838578412083:=0
def tw3178921684584252756:=0
def tw3179484915513813001:=0
def tw3181544926091568569:=0
def tw3226621112767307491:=0
def tw3240417159143066031:=0
def tw3326903679727477005:=0
def tw3387466790057432945:=0
def tw3407448491753236862:=0
def tw3409436591777264028:=0
def tw344359169531221875:=0
def tw3504216711359613944:=0
def tw3515932892640373340:=0
def tw3517940465540306912:=0
def tw3581167599049830194:=0
def tw3586869780062429216:=0
def tw3618255214534363702:=0
def tw366405064045623813:=0
def tw3690516974069264840:=0
def tw3697088662802070201:=0
def tw3817316605983297787:=0
def tw3828761391082179309:=0
def tw3850250057448659709:=0
def tw3858899440254058374:=0
def tw3858900990607604682:=0
def tw3877244374282678441:=0
def tw3894645417834655732:=0
def tw3961962302557302775:=0
def tw4123839529934108054:=0
def tw4171578541796870031:=0
def tw4190432020597940303:=0
def tw4279291772967023379:=0
def tw4314572836276016644:=0
def tw4327005234760324272:=0
def tw4349382394053254901:=0
def tw4404984019632548446:=0
def tw4472152375041731124:=0
def tw4493334765001516604:=0
def tw4523665901942899125:=0
def tw4757690683181360058:=0
def tw4770597453234349444:=0
def tw4852322892464437662:=0
def tw4868765859222560351:=0
def tw4871207331655161915:=0
def tw4944622693973005952:=0
def tw4958339203488925428:=0
def tw5016473257936739281:=0
def tw5057878643219729553:=0
def tw5062155701963320771:=0
def tw5096702915122223389:=0
def tw5114912697676617967:=0
def tw5124664170795750028:=0
def tw5166240221694566120:=0
def tw5249987689619538134:=0
def tw5318034544338893631:=0
def tw5330571437336403659:=0
def tw5337524257684911766:=0
def tw5389329062168915093:=0
def tw5395537507495966475:=0
def tw5434627079679966051:=0
def tw5456694458487268062:=0
def tw5463481271753478689:=0
def tw5509542949240443226:=0
def tw5567317078561694903:=0
def tw5588346510575770045:=0
def tw5614269447194496952:=0
def tw5693638751884785602:=0
def tw5711434593723611531:=0
def tw5751481437653029459:=0
def tw5770008938663187521:=0
def tw583500847885415178:=0
def tw5835503602990121761:=0
def tw5859644737224719861:=0
def tw588493284182337415:=0
def tw5890046351898306648:=0
def tw6003146691991146051:=0
def tw6015825992334434022:=0
def tw6029602031861425572:=0
def tw6082990122037215980:=0
def tw6084465848991607584:=0
def tw6089821162132690980:=0
def tw6092277051911045077:=0
def tw6167995658779766647:=0
def tw620768203873066240:=0
def tw6389685833234800186:=0
def tw6406451807803356412:=0
def tw6529716242089330878:=0
def tw6551709310392787287:=0
def tw6702260965080413294:=0
def tw6728398267060546919:=0
def tw6771373362721363602:=0
def tw6840543575451938528:=0
def tw6858932779712775776:=0
def tw6883011587109894300:=0
def tw6907129706914672446:=0
def tw6951637210340608437:=0
def tw6952800110319836565:=0
def tw699093744169506250:=0
def tw7039914625559225882:=0
def tw7150969242377889280:=0
def tw7175367690559772070:=0
def tw7235449177057434868:=0
def tw7400793114663995749:=0
def tw7420304909431428499:=0
def tw7514057374108372199:=0
def tw7519615577726987770:=0
def tw755073044852416008:=0
def tw7556851428721959009:=0
def tw7564484499872589421:=0
def tw76058395245045871:=0
def tw7635195906358820554:=0
def tw7694543898529844786:=0
def tw7822085662913893211:=0
def tw7831608379296513022:=0
def tw786939858927640954:=0
def tw7903279902600044581:=0
def tw7963722617705475118:=0
def tw7970487404433397436:=0
def tw7993175082816105614:=0
def tw7997127007003630828:=0
def tw8053711892226822161:=0
def tw8071643986113970266:=0
def tw8091407112475764882:=0
def tw8123913228013264334:=0
def tw812682279989880567:=0
def tw8281237191261767107:=0
def tw8283081938094889461:=0
def tw8358316880166419627:=0
def tw8369919221173643837:=0
def tw8378445812189602171:=0
def tw8383352574463805671:=0
def tw8420885253435006616:=0
def tw8503337992179017106:=0
def tw8509429980145278344:=0
def tw8765143262598685353:=0
def tw8800450019869477859:=0
def tw8835233367992890420:=0
def tw889352651421071360:=0
def tw8926673341130067230:=0
def tw893358713785962670:=0
def tw894706651661413936:=0
def tw8954119941175446762:=0
def tw8969623313324809922:=0
def tw8997493474294339372:=0
def tw9007006345312411126:=0
def tw9051139082618728392:=0
def tw9078659832095364459:=0
def tw9089097273178678615:=0
def tw9100906843826388976:=0
def tw9147129991184286258:=0
def tw9164424000639853451:=0
def tw9253944895203569724:=0
def tw9301508010737685299:=0
def tw9380799921295384931:=0
def tw9389335081497492574:=0
def tw9455952816795719054:=0
def tw9476155268222496564:=0
def tw950271787371533490:=0
def tw9509099055831976753:=0
def tw9519648455513626556:=0
def tw9554845170149705699:=0
def tw9610702706296388660:=0
def tw9635659864968406274:=0
def tw9648597121030009514:=0
def tw9665371043283761280:=0
def tw9675810191586707806:=0
def tw9756429481177002404:=0
def tw9759919509153440320:=0
def tw9765164654809339752:=0
def tw9768900863483875522:=0
def tw9781829248317690764:=0
def tw9807722232995067997:=0
def tw9942965949908455465:=0
def tw9950960707412968998:=0
end PySem.W.Fast
open PySem PySem.W PyProof.Rows
set_option maxRecDepth 100000 in
set_option maxHeartbeats 0 in
theorem PySem.Challenge.cw_twinwalk_k15_what_is_refused_holds : PySem.Challenge.rw_twinwalk_k15_what_is_refused.Holds := by
 w_on; o_law; k_head; (case hw=>w_witness2)
 k_fill
 refine TW.walk (l:=PySem.Challenge.rw_twinwalk_k15_what_is_refused) rfl rfl (fun w h Y=>PySem.W.kIn_of Y) ?F
 case F=>
   intro w mg fa h KX G hmg
   refine TW.GS hmg ?_
   refine' (⟨TW.aM KX G ?_ ?_ ?_ ?_,TW.aM KX G ?_ ?_ ?_ ?_,TW.aM KX G ?_ ?_ ?_ ?_,TW.aM KX G ?_ ?_ ?_ ?_,TW.aM KX G ?_ ?_ ?_ ?_,TW.aM KX G ?_ ?_ ?_ ?_,TW.aM KX G ?_ ?_ ?_ ?_,TW.aM KX G ?_ ?_ ?_ ?_,TW.aM KX G ?_ ?_ ?_ ?_,TW.aM KX G ?_ ?_ ?_ ?_,TW.aM KX G ?_ ?_ ?_ ?_,TW.aM KX G ?_ ?_ ?_ ?_,TW.aM KX G ?_ ?_ ?_ ?_,TW.aM KX G ?_ ?_ ?_ ?_,TW.aM KX G ?_ ?_ ?_ ?_,TW.aM KX G ?_ ?_ ?_ ?_,TW.aM KX G ?_ ?_ ?_ ?_,TW.aM KX G ?_ ?_ ?_ ?_,TW.aM KX G ?_ ?_ ?_ ?_,TW.aM KX G ?_ ?_ ?_ ?_,TW.aM KX G ?_ ?_ ?_ ?_,TW.aM KX G ?_ ?_ ?_ ?_,TW.aM KX G ?_ ?_ ?_ ?_,TW.aM KX G ?_ ?_ ?_ ?_,TW.aM KX G ?_ ?_ ?_ ?_,TW.aM KX G ?_ ?_ ?_ ?_,TW.aM KX G ?_ ?_ ?_ ?_,TW.aM KX G ?_ ?_ ?_ ?_,TW.aM KX G ?_ ?_ ?_ ?_,TW.aM KX G ?_ ?_ ?_ ?_,TW.aM KX G ?_ ?_ ?_ ?_,TW.aM KX G ?_ ?_ ?_ ?_,TW.aM KX G ?_ ?_ ?_ ?_,TW.aM KX G ?_ ?_ ?_ ?_,TW.aM KX G ?_ ?_ ?_ ?_,TW.aM KX G ?_ ?_ ?_ ?_,TW.aM KX G ?_ ?_ ?_ ?_,TW.aM KX G ?_ ?_ ?_ ?_,TW.aM KX G ?_ ?_ ?_ ?_,TW.aM KX G ?_ ?_ ?_ ?_,TW.aM KX G ?_ ?_ ?_ ?_,TW.aM KX G ?_ ?_ ?_ ?_,TW.aM KX G ?_ ?_ ?_ ?_,TW.aM KX G ?_ ?_ ?_ ?_,TW.aM KX G ?_ ?_ ?_ ?_,TW.E9 KX G ?_ ?_ ?_ ?_ ?_,TW.xo KX G ?_ ?_ ?_ ?_ ?_,TW.xo KX G ?_ ?_ ?_ ?_ ?_,⟨_,_,_,_,_,_,_,_,_,_,_,_,TW.xp KX G ?_ ?_ ?_ ?_,TW.xp KX G ?_ ?_ ?xl_NoPair ?_,TW.vL ?_ ?_ ?_ ?xhn ?xtk ?_ ?_ ?xl_NoPair,?_,?_,?_,?_,?_,TW.xp KX G ?_ ?_ ?xl_NoWorths ?_,TW.vL ?_ ?_ ?_ ?xhn ?xtk ?_ ?_ ?xl_NoWorths,?_,?_,?_,?_,?_,TW.xp KX G ?_ ?_ ?xl_NoProgram ?_,TW.vL ?_ ?_ ?_ ?xhn ?xtk ?_ ?_ ?xl_NoProgram,?_,?_,?_,?_,?_,aaY KX G ?_,aaY KX G ?_,aaY KX G ?_,aaY KX G ?_,aaY KX G ?_,aaY KX G ?_,aaY KX G ?_,aaY KX G ?_⟩,aaB KX G ?_,aaB KX G ?_,aaB KX G ?_,aaB KX G ?_,aaB KX G ?_,aaB KX G ?_,aaB KX G ?_,aaB KX G ?_,aaB KX G ?_,aaB KX G ?_,aaB KX G ?_,aaB KX G ?_,aaB KX G ?_,aaB KX G ?_⟩ : TW.KH _ _)
   any_goals first | k_is | k_exc | rfl
   any_goals first | kit_is | decide | (repeat' constructor)
