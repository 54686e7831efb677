import PyProof.Rows.All
import Wide.All
import OpenK.AllK
import Wide.FinOn
import Lean
import PyProof.EqAt
import PyProof.EqKinds
import PyProof.TupleCall
import PySem.Challenge.RW_twinwalk_k15_what_is_refused
open List renaming length_map->aab,getElem?_eq_getElem->aad,length_append->aae,map_append->aah,take_add_one->aal,size_toArray->aam,mem_of_getElem? -> aan,not_mem_nil->aau,length_take->aaw,length_cons->aay,getD_eq_getElem?_getD->aaz,take_length->aaA,getElem?_map->aaC,replicate->aaD,mem_cons->aaG,map_cons->aaI,append_nil->aaJ,range->aaM,flatten_append->aaO,mem_append_right->aaP,take_of_length_le->aaS,getElem?_append_left->aaV,mem_cons_of_mem->aaW,length_nil->aa7,getElem?_append_right->aba,mem_cons_self->abj,length_drop->abk,map_map->abm,filterMap_cons->abo,find?_cons->abu,getElem?_set_self->abA,take_append_drop->abD,of_mem_zip->abE,length_range->abH,any_cons->abI,mem_append_left->abK,replicate_succ->abO,length->abP,nodup_nil->ab1,drop_zero->ab2,getElem?_eq_none->ab3,all_eq_true->ab5,getElem?_set_ne->ab7,length_set->acb,getElem_of_mem->acd,forIn_cons->ace,drop_eq_getElem_cons->acm,take_sublist->aco,reverse_cons->acp,flatten_cons->acq,append_assoc->acr,lookup_cons->acz,getElem_mem->acA,sum_append->acF,nodup_cons->acG,length_replicate->acH,mem_of_mem_drop->acM,forIn_nil->acO,map_congr_left->acQ,length_reverse->acR,getElem?_take->ac2,filterMap_map->ac3,all_cons->ac4,nodup_append->ac8,getElem?_set->ac9,map_reverse->adh,cons_append->adi,getElem?_zip_eq_some->adF,getElem?_eq_none_iff->adG,getElem?_replicate->adM,eraseIdx_cons_succ->adN,range_succ_eq_map->adT,length_pos_of_mem->adU,drop_eq_nil_of_le->adV,getElem?_toArray->ad3,mem_of_mem_take->aee
open PySem.W renaming Frag->aac,kitOne->aaH,mg_none_of->aaN,kia_one->aaX,fnOf->aa6,mg_of->abb,keepIn->abc,codeIn->abW,kitAny->acg,findIn->ach,cellsFrom_some->acu,clsIn->acN,methodObj->acY,nsIn->ac1,instObj->ada,lookIn->ado,mroIn->adw,excIn->adx,hideAll_get->adS,of_hideAll->ad0,codeRec_of->ad1,callWith_K->ad2,specialIn->ad6,kitx_list->ad7,kitx_dict->ad8
open Nat renaming le_refl->aaf,le_trans->aak,lt_of_lt_of_le->aat,ne_of_lt->aaK,zero_le->aaU,le_of_lt->abi,lt_irrefl->abJ,pow_le_pow_right->abM,le_add_right->abN,min_eq_left->abU,lt_of_le_of_lt->abV,add_lt_add_left->aci,ne_of_gt->ack,mul_le_mul->acP,succ_mul->adg,strongRecOn->adA,sub_zero->aea,sub_self->aeb,mul_comm->aec,lt_trans->aed
open PySem.Heap renaming get?_push_of_some->aag,lt_size->aaj,get?_push_size->aaE,SameBut->aaT,get?_update_self->acI,get?_update_other->adW
open PySem renaming Spec->aai,FuncData->aao,boot_len->aaq,mem_of_lookup->aaY,wpAny_callSpecial?_slot->aa0,foldedSetIterable->aa1,mainGlobals->aa3,bootBuiltins->aa4,sysModules->abp,behindInMarks->abr,attributeBase->abt,wpAny_passesOwn->abL,ZipApart->abR,swapsWith->abZ,NameKind->ab0,wpAny_forIn_list->acf,wpAny_execs_nil->acn,sub_AttributeError->acv,wpAny_getItem_list_slice->acD,slicePick->acU,isSubtype_tuple_tuple->acV,builtinLookup_eq_fast->acW,swapsWithSole->adk,swappedStores->adl,evalPart_none->adm,bindArgs->adn,typeLookup->adu,getAttr? -> adL,typeLookup_type->adP,codeAny_builtin->adQ,wpAny_newFunctionEnv_cells->adZ,recursionLimit->ad4
open Int renaming emod_lt_of_pos->aap,emod_nonneg->aav,toNat_natCast->aa5,toNat_of_nonneg->acZ,lt_of_le_of_lt->ac7,zero_add->adj,le_refl->adB,ediv_one->aef
open PySem.Builtin.SmallTypes renaming ownedTupleIsFree->aar,nextOf->aaL,ownedTupleHandOut->abd
open Bool renaming false_ne_true->aas,and_eq_true->aaZ,false_eq_true->aa2,eq_iff_iff->abg,not_true->abT,false_and->adH,and_false->adI,and_true->adO
open PySem.Value renaming ref->aax,bool->aby,builtin->acs,int->acX,none->ac5,type->adC,str->adR
open Option.some renaming inj->aaB
open True renaming intro->aaF
open PyProof.Rows renaming callWith_type1->aaQ,slot_tuple_getitem->acE,Subscript_->adv
open PySem.NameKind renaming free->aaR,cell->ads
open PySem.Builtin.Tuple renaming tupleHashOf->aa8,tupleExact->abF,tupleItemsOf->acS
open PySem.Builtin.Int renaming intBits->aa9,intTooBig->adp
open Option renaming map_some->abe,isSome_map->acj
open PySem.Builtin.Dict renaming updateFrom->abf,selfAndRest->ab9,addKeywords->aca,pairItems->ade,mergeDict->adf
open PySem.Str renaming ofString->abh,empty->ad5
open ForInStep renaming yield->abl
open Sum renaming isLeft->abn
open False renaming elim->abq
open PySem.F renaming plainAttrs_list->abv,slot_zip_next->abw,slot_enumerate_next->ab8,slot_dict_get->acy,args_zip_next_1->acB,entry_zip_next->acJ,slot_dict_update->adq,plainAttrs_dict->ady,args_dict_get_3->adz,entry_dict_get->adD,args_enumerate_next_1->aeg
open Array renaming length_toList->abx,forIn_toList->abQ
open PySem.Builtin.List renaming listFitsIndex->abz,listTooLong->abG
open PySem.Calls renaming spliced_cons->abB,spliced_nil->abX,evalArgs_plain->ab6,callWith_builtin->acC,Name_function_global->adt
open PySem.Builtin.Slice renaming slicePlaces->abC,sliceAdjust->ab4,sliceApplied->acT
open PySem.Code renaming quiet_builtin->abS,compLoop->acx
open PySem.Heap.SameBut renaming update->abY
open PySem.Heap.IsSliceOf renaming new->acw
open PySem.Builtin.ObjectAttr renaming bindTo->acK
open Bind renaming bind->acL
open PySem.Heap.DictOf renaming new->ac0
open List.cons renaming injEq->ac6
open PySem.Obj renaming mapSeq->adb
open PUnit renaming unit->adE
open PySem.SeqAt.EqAt renaming str_int->adJ,int_str->adK
open PySem.BindsTo renaming of_defaults->adX
open PySem.Around renaming frames_deeper->adY
open PySem.PassesOwn renaming never->ad9
set_option Elab.async false
set_option linter.all false
set_option maxRecDepth 100000
theorem agp:0<=PySem.sizeLine:=by decide
theorem agq:1<=PySem.sizeLine:=by decide
theorem agr:2<=PySem.sizeLine:=by decide
theorem ags:3<=PySem.sizeLine:=by decide
theorem agt:4<=PySem.sizeLine:=by decide
theorem agu:5<=PySem.sizeLine:=by decide
theorem agv:8<=PySem.sizeLine:=by decide
namespace L2
open PySem PySem.Spec PyProof.Rows
abbrev Key:=Sum Int Str
def oY:Key->Value->Bool
 | .inl k,v=>Value.isInt k v
 | .inr x,v=>Value.isStrOf x v
def QQ (w:World):Key->Int
 | .inl k=>hashInt k
 | .inr x=>hashStr w x
theorem bK:∀{k:Key} {v:Value},oY k v=true->(∃i t,k=Sum.inl i/\v=acX i t)\/(∃x t,k=Sum.inr x/\v=adR x t)
 | .inl i,v,h=>by
   obtain ⟨t,e⟩:=Value.isInt_shape (k:=i) (v:=v) h
   exact .inl ⟨i,t,rfl,e⟩
 | .inr x,v,h=>by
   obtain ⟨t,e⟩:=Value.isStrOf_shape (x:=x) (v:=v) h
   exact .inr ⟨x,t,rfl,e⟩
theorem yB (i:Int)(t:Tok):oY (.inl i) (.int i t)=true:=by simp [oY,Value.isInt]
theorem yC (x:Str)(t:Tok):oY (.inr x) (.str x t)=true:=by simp [oY,Value.isStrOf]
theorem Ij (a b:Int):decide ((Sum.inl a:Key)=Sum.inl b)=(a == b):=by
 by_cases e:a=b
 · subst e; simp
 · have h:¬ (Sum.inl a:Key)=Sum.inl b:=fun q=>e (Sum.inl.inj q)
   rw [decide_eq_false h]
   exact (beq_eq_false_iff_ne.mpr e).symm
theorem Im (a b:Str):decide ((Sum.inr a:Key)=Sum.inr b)=decide (a=b):=by
 by_cases e:a=b
 · subst e; simp
 · have h:¬ (Sum.inr a:Key)=Sum.inr b:=fun q=>e (Sum.inr.inj q)
   rw [decide_eq_false h,decide_eq_false e]
theorem Ik (a:Int)(b:Str):decide ((Sum.inl a:Key)=Sum.inr b)=false:=decide_eq_false (fun q=>nomatch q)
theorem Il (a:Str)(b:Int):decide ((Sum.inr a:Key)=Sum.inl b)=false:=decide_eq_false (fun q=>nomatch q)
def aO (prog:Program)(w:World):PySem.KeyKind prog w Key where
 is:=oY
 hash:=QQ w
 inj:=fun v a b ha hb=>by
   rcases bK ha with ⟨i,t,rfl,rfl⟩ | ⟨x,t,rfl,rfl⟩
   · rcases bK hb with ⟨j,u,rfl,e⟩ | ⟨y,u,rfl,e⟩
     · injection e with e1 _; rw [e1]
     · exact nomatch e
   · rcases bK hb with ⟨j,u,rfl,e⟩ | ⟨y,u,rfl,e⟩
     · exact nomatch e
     · injection e with e1 _; rw [e1]
 byValue:=fun k v h=>by
   rcases bK h with ⟨i,t,rfl,rfl⟩ | ⟨x,t,rfl,rfl⟩ <;> rfl
 pyHash:=fun hv h=>by
   rcases bK hv with ⟨i,t,rfl,rfl⟩ | ⟨x,t,rfl,rfl⟩
   · exact wpAny_pyHash_int h
   · exact wpAny_pyHash_str h
 eqBool:=fun hu hv h=>by
   rcases bK hu with ⟨i,t,rfl,rfl⟩ | ⟨x,t,rfl,rfl⟩
   · rcases bK hv with ⟨j,u,rfl,rfl⟩ | ⟨y,u,rfl,rfl⟩
     · rw [Ij] at h; exact wpAny_eqBool_int h
     · rw [Ik] at h; exact adK i t y u _ _ _ _ h
   · rcases bK hv with ⟨j,u,rfl,rfl⟩ | ⟨y,u,rfl,rfl⟩
     · rw [Il] at h; exact adJ x t j u _ _ _ _ h
     · rw [Im] at h; exact wpAny_eqBool_str h
 «strs»:=fun k x t v h=>by
   rcases bK h with ⟨i,u,rfl,e⟩ | ⟨y,u,rfl,e⟩
   · exact nomatch e
   · injection e with e1 _
     subst e1
     cases v <;> rfl
theorem rX (prog:Program)(w:World)(i:Int)(t:Tok):(aO prog w).is (.inl i) (.int i t)=true:=yB i t
theorem rY (prog:Program)(w:World)(x:Str)(t:Tok):(aO prog w).is (.inr x) (.str x t)=true:=yC x t
inductive V where
 | bN | bl (b:Bool) | int (i:Int) | str (x:Str) | byt (b:Array UInt8) | flt (b:UInt64) | ref (a:Addr) | ty (n:String)
 deriving DecidableEq
def RelV:V->Value->Prop
 | .bN,u=>u=ac5
 | .bl b,u=>u=aby b
 | .int i,u=>∃t,u=acX i t
 | .str x,u=>∃t,u=adR x t
 | .byt b,u=>∃t,u=Value.bytes b t
 | .flt b,u=>∃t,u=Value.float b t
 | .ref a,u=>u=aax a
 | .ty n,u=>u=adC n
abbrev Vals:List V->List Value->Prop:=Paired RelV
theorem Vals.length {xs:List V}{us:List Value}(r:Vals xs us):xs.length=us.length:=Paired.length r
theorem Vals.get:∀{xs:List V} {us:List Value} {i:Nat} {x:V},Vals xs us->xs[i]? = some x->∃u,us[i]? = some u/\RelV x u
 | _,_,_,_,.nil,e=>by simp at e
 | _,_,0,_,.cons r _,e=>by simp at e; subst e; exact ⟨_,rfl,r⟩
 | _,_,i + 1,x,.cons _ t,e=>by
   obtain ⟨u,h1,h2⟩:=Vals.get (i:=i) (x:=x) t (by simpa using e)
   exact ⟨u,by simpa using h1,h2⟩
theorem Vals.set {x:V}{u:Value}(r:RelV x u):∀{xs:List V} {us:List Value} (i:Nat),Vals xs us->Vals (xs.set i x) (us.set i u)
 | _,_,_,.nil=>.nil
 | _,_,0,.cons _ t=>.cons r t
 | _,_,i + 1,.cons q t=>.cons q (Vals.set r i t)
theorem Vals.append:∀{xs ys:List V} {us ws:List Value},Vals xs us->Vals ys ws->Vals (xs++ys) (us++ws)
 | _,_,_,_,.nil,s=>s
 | _,_,_,_,.cons r t,s=>.cons r (Vals.append t s)
theorem Vals.take:∀{xs:List V} {us:List Value} (n:Nat),Vals xs us->Vals (xs.take n) (us.take n)
 | _,_,0,_=>.nil
 | _,_,_ + 1,.nil=>.nil
 | _,_,n + 1,.cons r t=>.cons r (Vals.take n t)
theorem Vals.drop:∀{xs:List V} {us:List Value} (n:Nat),Vals xs us->Vals (xs.drop n) (us.drop n)
 | _,_,0,r=>r
 | _,_,_ + 1,.nil=>.nil
 | _,_,n + 1,.cons _ t=>Vals.drop n t
def iB:Option V->Option Value->Prop
 | some v,some u=>RelV v u
 | none,none=>True
 | _,_=>False
def KV {κ:Type}:List (κ×V)->List (κ×Value)->Prop:=Paired fun (p:κ×V) (q:κ×Value)=>p.1=q.1/\RelV p.2 q.2
def kV:Key->V
 | .inl i=>.int i
 | .inr x=>.str x
inductive HO where
 | lst (xs:List V)
 | tup (xs:List V)
 | dK (kvs:List (Key×V)) | dT (kvs:List (List Key×V))
 | set (S:Int->Bool) (n:Nat)
 | ins (C dx:Addr) (fs:List (Str×V))
 | own (x:Addr)
 | xd (fs:List (Str×V))
 | met (f x:Addr)
 | rng (lo hi:Int)
 | frz (o:Obj) (u:HO)
 | tbl (ps:Array Value)
 | ext (φ:Heap->Prop)
abbrev Hp:=Addr->Option HO
def upd (H:Hp)(a:Addr)(o:HO):Hp:=fun b=>if b=a then some o else H b
theorem ae {H:Hp}{a:Addr}{o:HO}:upd H a o a=some o:=by unfold upd; rw [if_pos rfl]
theorem aj {H:Hp}{a b:Addr}{o:HO}(h:b≠a):upd H a o b=H b:=by unfold upd; rw [if_neg h]
theorem bT {H:Hp}{a:Addr}{o u:HO}:upd (upd H a o) a u=upd H a u:=by
 funext b; unfold upd; split <;> rfl
theorem fJ {H:Hp}{a b:Addr}{o u:HO}(h:H a=some o)(h':H b=some u)(d:o≠u):a≠b:=by
 intro e; subst e; rw [h] at h'; exact d (aaB h')
theorem ai {H:Hp}{a b:Addr}{o:HO}(h:H a=some o)(h':H b=none):a≠b:=by
 intro e; subst e; rw [h] at h'; cases h'
section
variable (P:Program)(w:World)
def bp (H:Hp)(h:Heap)(a:Addr):HO->Prop
 | .lst xs=>xs.length<=sizeLine/\∃(its:List Value) (n:Nat),Vals xs its/\h.get? a=some { cls:=.type "list",data:=.seq its.toArray n }
 | .tup xs=>xs.length<=sizeLine/\∃its:List Value,Vals xs its/\IsTup h a its.toArray
 | .dK kvs=>kvs.length<=sizeLine/\(a == abp)=false/\∃vs,KV kvs vs/\h.DictOf (aO P w) a vs
 | .dT kvs=>kvs.length<=sizeLine/\(a == abp)=false/\∃xs:List (List Key×Addr×Value),
     Paired (fun (p:List Key×V) (q:List Key×Addr×Value)=>p.1=q.1/\H q.2.1=some (.tup (p.1.map kV))/\RelV p.2 q.2.2) kvs xs /\
     ∃o es ep,h.get? a=some o/\o.ExactDict/\o.data=.dict es ep/\es.toList=xs.map (entryOfKey (tupleKind (aO P w)))/\(xs.map (·.1)).Nodup
 | .set S n=>h.SetOf (intKind P w) a S n
 | .ins C dx fs=>H dx=some (.own a)/\fs.length<=1000/\dx≠a/\h.get? a=some (ada C dx) /\
     ∃mA,h.Ns1 dx mA/\(∀f,iB (fs.lookup f) (mA f))/\PySem.Within mA (fs.map (·.1))
 | .own _=>∃o,h.get? a=some o
 | .xd fs=>∃mA,h.Ns1 a mA/\∀f,iB (fs.lookup f) (mA f)
 | .rng lo hi=>∃t u v,h.get? a=some { cls:=.type "range",data:=.fields #[.int lo t,.int hi u,.int 1 v] }
 | .frz o u=>h.get? a=some o/\bp H h a u
 | .tbl ps=>h.get? a=some { cls:=.none,data:=.fields ps }
 | .met f x=>h.get? a=some (acY (.ref f) (.ref x))
 | .ext φ=>φ h/\(∃o,h.get? a=some o)/\∀h1 h2:Heap,φ h1->(∀o,h1.get? a=some o->h2.get? a=some o)->φ h2
def fV (H:Hp)(h:Heap):Prop:=∀a o,H a=some o->bp P w H h a o
end
section
variable {P:Program}{w:World}{H H':Hp}{h h':Heap}{a:Addr}{o:HO}
theorem bp.lt (x:bp P w H h a o):a < h.objs.size:=by
 cases o with
 | lst xs=>obtain ⟨_,_,_,_,e⟩:=x; exact aaj e
 | tup xs=>obtain ⟨_,_,_,p⟩:=x; exact p.lt
 | dK kvs=>obtain ⟨_,_,_,_,o,_,_,e,_⟩:=x; exact aaj e
 | dT kvs=>obtain ⟨_,_,_,_,o,_,_,e,_⟩:=x; exact aaj e
 | set S n=>obtain ⟨o,_,_,_,e,_⟩:=x; exact aaj e
 | ins C dx fs=>obtain ⟨_,_,_,e,_⟩:=x; exact aaj e
 | own y=>obtain ⟨_,e⟩:=x; exact aaj e
 | xd fs=>obtain ⟨_,⟨_,_,_,e,_⟩,_⟩:=x; exact aaj e
 | rng lo hi=>obtain ⟨_,_,_,e⟩:=x; exact aaj e
 | frz ob u=>obtain ⟨e,_⟩:=x; exact aaj e
 | tbl ps=>exact aaj (show h.get? a=some _ from x)
 | met f y=>exact aaj (show h.get? a=some _ from x)
 | ext φ=>obtain ⟨_,⟨_,e⟩,_⟩:=x; exact aaj e
theorem Paired.aZ {α β:Type}{F G:α->β->Prop}:∀{l₁:List α} {l₂:List β},Paired F l₁ l₂->(∀a b,F a b->G a b)->Paired G l₁ l₂
 | _,_,.nil,_=>.nil
 | _,_,.cons r t,f=>.cons (f _ _ r) (Paired.aZ t f)
theorem bp.oH (x:bp P w H h a o)(k:∀b u,(b=a\/H b=some (.own a))->h.get? b=some u->h'.get? b=some u)
   (ho:∀b,H b=some (.own a)->H' b=some (.own a)) (ht:∀b xs,H b=some (.tup xs)->H' b=some (.tup xs)):bp P w H' h' a o:=by
 induction o with
 | lst xs=>obtain ⟨z,its,n,r,e⟩:=x; exact ⟨z,its,n,r,k _ _ (.inl rfl) e⟩
 | tup xs=>obtain ⟨z,its,r,ob,e,c⟩:=x; exact ⟨z,its,r,ob,k _ _ (.inl rfl) e,c⟩
 | dK kvs=>obtain ⟨z,y,vs,r,ob,es,ep,e,c⟩:=x; exact ⟨z,y,vs,r,ob,es,ep,k _ _ (.inl rfl) e,c⟩
 | dT kvs=>
   obtain ⟨z,y,xs,r,ob,es,ep,e,c⟩:=x
   exact ⟨z,y,xs,Paired.aZ r fun p q z=>⟨z.1,ht _ _ z.2.1,z.2.2⟩,ob,es,ep,k _ _ (.inl rfl) e,c⟩
 | set S n=>obtain ⟨ob,es,ep,t,e,c⟩:=x; exact ⟨ob,es,ep,t,k _ _ (.inl rfl) e,c⟩
 | ins C dx fs=>
   obtain ⟨d,z,ne,e,mA,⟨od,es,ep,e2,c⟩,r⟩:=x
   exact ⟨ho _ d,z,ne,k _ _ (.inl rfl) e,mA,⟨od,es,ep,k _ _ (.inr d) e2,c⟩,r⟩
 | own y=>obtain ⟨ob,e⟩:=x; exact ⟨ob,k _ _ (.inl rfl) e⟩
 | xd fs=>obtain ⟨mA,⟨od,es,ep,e,c⟩,r⟩:=x; exact ⟨mA,⟨od,es,ep,k _ _ (.inl rfl) e,c⟩,r⟩
 | rng lo hi=>obtain ⟨t,u,v,e⟩:=x; exact ⟨t,u,v,k _ _ (.inl rfl) e⟩
 | frz ob u ih=>obtain ⟨e,q⟩:=x; exact ⟨k _ _ (.inl rfl) e,ih q⟩
 | tbl ps=>
   have e:h.get? a=some { cls:=.none,data:=.fields ps }:=x
   show h'.get? a=some { cls:=.none,data:=.fields ps }
   exact k a _ (.inl rfl) e
 | met f y=>
   have e:h.get? a=some (acY (.ref f) (.ref y)):=x
   show h'.get? a=some (acY (.ref f) (.ref y))
   exact k a _ (.inl rfl) e
 | ext φ=>obtain ⟨p,⟨o,e⟩,st⟩:=x; exact ⟨st _ _ p fun o q=>k _ _ (.inl rfl) q,⟨o,k _ _ (.inl rfl) e⟩,st⟩
theorem fV.lt (x:fV P w H h)(e:H a=some o):a < h.objs.size:=(x a o e).lt
theorem fV.fresh (x:fV P w H h)(e:h.objs.size<=a):H a=none:=by
 cases q:H a with
 | none=>rfl
 | some u=>exact absurd (aat (x.lt q) e) (abJ _)
theorem fV.kept (x:fV P w H h)(k:∀b u,h.get? b=some u->h'.get? b=some u):fV P w H h':=fun a o e=>
 (x a o e).oH (fun b u _ q=>k b u q) (fun _ q=>q) fun _ _ q=>q
theorem fV.laid (x:fV P w H h)(k:∀b u,h.get? b=some u->h'.get? b=some u)(hp:h.objs.size<=a)(new:bp P w (upd H a o) h' a o):fV P w (upd H a o) h':=fun b u e=>by
 have hn:=x.fresh hp
 by_cases hb:b=a
 · subst hb; rw [ae] at e; cases e; exact new
 · rw [aj hb] at e
   exact (x b u e).oH (fun c v _ q=>k c v q) (fun c q=>by rw [aj (ai q hn)]; exact q) fun c xs q=>by rw [aj (ai q hn)]; exact q
end
def Rd (H:Hp)(a:Addr)(u:HO):Prop:=H a=some u\/∃o,H a=some (.frz o u)
theorem Rd.ok {P:Program}{w:World}{H:Hp}{h:Heap}{a:Addr}{u:HO}(r:Rd H a u)(x:fV P w H h):bp P w H h a u:=by
 rcases r with r | ⟨o,r⟩
 · exact x a u r
 · obtain ⟨_,q⟩:=x a _ r
   exact q
def KP:Option HO->Prop
 | some (.lst _)=>True
 | some (.dK _)=>True
 | some (.dT _)=>True
 | some (.set _ _)=>True
 | some (.ins _ _ _)=>True
 | some (.ext _)=>True
 | _=>False
section
variable {P:Program}{w:World}{H:Hp}{h h':Heap}{x e:Addr}{o':HO}
theorem fV.write (ok:fV P w H h)(mu:KP (H x))(he:e=x\/H e=some (.own x))(k:∀b u,b≠e->h.get? b=some u->h'.get? b=some u)(heo:∃u,h'.get? e=some u)
   (new:bp P w (upd H x o') h' x o'):fV P w (upd H x o') h':=fun b u q=>by
 have nown:∀c y,H c=some (.own y)->c≠x:=fun c y r z=>by subst z; rw [r] at mu; exact mu
 have ntup:∀c xs,H c=some (.tup xs)->c≠x:=fun c xs r z=>by subst z; rw [r] at mu; exact mu
 by_cases hb:b=x
 · subst hb; rw [ae] at q; cases q; exact new
 · rw [aj hb] at q
   by_cases HQ:b=e
   · have q':H b=some (.own x):=by
       rcases he with z | z
       · exact absurd (HQ.trans z) hb
       · rw [HQ]; exact z
     rw [q] at q'; cases q'
     obtain ⟨v,hv⟩:=heo
     exact ⟨v,by rw [HQ]; exact hv⟩
   · refine (ok b u q).oH (fun c v hc r=>k c v ?_ r) (fun c r=>by rw [aj (nown c b r)]; exact r) fun c xs r=>by rw [aj (ntup c xs r)]; exact r
     rcases hc with rfl | hc
     · exact HQ
     · rintro rfl
       rcases he with z | z
       · exact nown c b hc z
       · rw [hc] at z; cases z; exact hb rfl
end
structure Un (fs ex:List Addr)(H H':Hp)(h h':Heap):Prop where
 keep:∀b o,h.get? b=some o->H b=none->b ∉ fs->b ∉ ex->h'.get? b=some o
 slot:∀b o,h.get? b=some o->H b=none->b∈fs->b ∉ ex->∃sl,h'.get? b=some { o with slots:=sl }
 free:∀b o,h.get? b=some o->H b=none->b ∉ ex->H' b=none
 there:∀b o,h.get? b=some o->b ∉ ex->∃o',h'.get? b=some o'
 tups:∀b xs,H b=some (.tup xs)->H' b=some (.tup xs)
 frzs:∀b o u,H b=some (.frz o u)->H' b=some (.frz o u)
 tbls:∀b ps,H b=some (.tbl ps)->∃more,H' b=some (.tbl (ps++more))
section
variable {fs fs' ex Zs:List Addr}{H H1 H2:Hp}{h h1 h2 h':Heap}{a x e:Addr}{o:HO}
theorem Un.any (u:Un fs ex H H1 h h1){b:Addr}{ob:Obj}(q:h.get? b=some ob)(n:H b=none)(hx:b ∉ ex):∃sl,h1.get? b=some { ob with slots:=sl }:=by
 by_cases hb:b∈fs
 · exact u.slot b ob q n hb hx
 · exact ⟨ob.slots,u.keep b ob q n hb hx⟩
theorem Un.kept (k:∀b u,h.get? b=some u->h'.get? b=some u):Un fs ex H H h h':=
 ⟨fun b ob q _ _ _=>k b ob q,fun b ob q _ _ _=>⟨ob.slots,k b ob q⟩,fun _ _ _ n _=>n,fun b ob q _=>⟨ob,k b ob q⟩,fun _ _ q=>q,fun _ _ _ q=>q,fun _ ps q=>⟨#[],by rw [q]; simp⟩⟩
theorem Un.refl:Un fs ex H H h h:=Un.kept fun _ _ q=>q
theorem Un.laid (k:∀b u,h.get? b=some u->h'.get? b=some u)(hp:h.objs.size<=a)(hn:H a=none):Un fs ex H (upd H a o) h h' where
 keep:=fun b u q _ _ _=>k b u q
 slot:=fun b u q _ _ _=>⟨u.slots,k b u q⟩
 free:=fun b u q n _=>by rw [aj (aaK (aat (aaj q) hp))]; exact n
 there:=fun b u q _=>⟨u,k b u q⟩
 tups:=fun b xs q=>by rw [aj (ai q hn)]; exact q
 frzs:=fun b u xs q=>by rw [aj (ai q hn)]; exact q
 tbls:=fun b ps q=>⟨#[],by rw [aj (ai q hn),q]; simp⟩
theorem Un.write (mu:KP (H x))(he:e=x\/H e=some (.own x))(k:∀b u,b≠e->h.get? b=some u->h'.get? b=some u)(heo:∃u,h'.get? e=some u):Un fs ex H (upd H x o) h h':=by
 have hx:∀b,H b=none->b≠x:=fun b n z=>by subst z; rw [n] at mu; exact mu
 have hb:∀b,H b=none->b≠e:=fun b n z=>by
   subst z
   rcases he with r | r
   · exact hx b n r
   · rw [n] at r; cases r
 have hm:∀b u,H b=some u->¬ KP (some u)->b≠x:=fun b u q nm z=>by subst z; rw [q] at mu; exact nm mu
 refine ⟨fun b u q n _ _=>k b u (hb b n) q,fun b u q n _ _=>⟨u.slots,k b u (hb b n) q⟩,fun b u q n _=>by rw [aj (hx b n)]; exact n,fun b u q _=>?_,
   fun b xs q=>by rw [aj (hm b _ q fun z=>z)]; exact q,fun b u xs q=>by rw [aj (hm b _ q fun z=>z)]; exact q,fun b ps q=>⟨#[],by rw [aj (hm b _ q fun z=>z),q]; simp⟩⟩
 by_cases HQ:b=e
 · subst HQ; exact heo
 · exact ⟨u,k b u HQ q⟩
end
def zm (h:Heap)(H:Hp):List Addr:=(aaM h.objs.size).filter fun a=>(H a).isSome
def pX (h:Heap)(H:Hp):Heap:=PySem.W.hideAll h (zm h H)
theorem yp (h:Heap)(H:Hp):(pX h H).objs.size=h.objs.size:=PySem.W.hideAll_size _ _
theorem AM {h:Heap}{H:Hp}{b:Addr}{o:Obj}(e:h.get? b=some o)(n:H b=none):(pX h H).get? b=some o:=
 adS _ e fun hm=>by
   have q:(H b).isSome=true:=(List.mem_filter.mp hm).2
   rw [n] at q; simp at q
theorem Eo {h:Heap}{H:Hp}{b:Addr}{o:Obj}(e:(pX h H).get? b=some o):h.get? b=some o/\H b=none:=by
 have e':h.get? b=some o:=ad0 (zm h H) e
 refine ⟨e',?_⟩
 cases q:H b with
 | none=>rfl
 | some x=>
   have hm:b∈zm h H:=List.mem_filter.mpr ⟨List.mem_range.mpr (aaj e'),by simp [q]⟩
   have z:(pX h H).get? b=none:=PySem.W.hideAll_none (zm h H) hm
   rw [z] at e; cases e
structure Mod (K:aac)(mg:Str->Option Value)(base:Heap):Prop where
 kin:K.In base
 glob:base.Ns aa3 mg
 blt:∃mb,base.Ns builtinsNs mb/\∀x:Str,x≠"__name__"->mb x=aa4 x
 nolimit:base.NoLimit
structure Cx where
 prog:Program
 w:World
 K:aac
 mg:Str->Option Value
 base:Heap
 A:Around
 N:List Str
 s₀:Shared
 H₀:Hp
 env:Env
 outer:List Env
 stack:List Env
 ex:List Addr
 fn:Str->Bool
 calm:Bool
 pn:List (Addr×Obj)
 xe:Value->Shared->Prop
def ji (l:List Env):List Addr:=l.filterMap (·.frame)
abbrev Cx.fs (X:Cx):List Addr:=ji X.outer
def NL (sc:Scope)(x:Str):Prop:=sc.names.lookup x=some .local\/sc.names.lookup x=some .cell\/sc.names.lookup x=some .free
def Loc (sc:Scope)(x:Str):Prop:=sc.names.lookup x=some .local\/sc.names.lookup x=some .cell
def Look (env:Env)(h:Heap)(m:Str->Option Value)(x:Str)(u:Value):Prop:=
 (env.kindOf x=some .local/\m x=some u)\/((env.kindOf x=some .cell\/env.kindOf x=some .free)/\∃c,env.cells.lookup x=some c/\h.IsCell c (some u))
structure Cx.Ok (X:Cx):Prop where
 mod:Mod X.K X.mg X.base
 kind:X.env.scope.kind=.function
 glob:X.env.globals=aa3
 blt:X.env.builtins=builtinsNs
 above:X.s₀.heap.objs.size<=X.env.locals
 inj:∀x y c,X.env.cells.lookup x=some c->X.env.cells.lookup y=some c->x=y
 has:∀x,(X.env.kindOf x=some .cell\/X.env.kindOf x=some .free)->∃c,X.env.cells.lookup x=some c
 cab:∀x c,X.fn x=true->X.env.cells.lookup x=some c->X.s₀.heap.objs.size<=c
 hd:X.calm=true->X.A.handled=none
 frames:X.A.frames=some X.stack
 stk:X.stack=X.outer\/(X.stack=X.env :: X.outer/\X.env.frame=some X.env.locals)
 exf:∀b∈X.ex,b≠X.env.locals/\∀x c,X.env.cells.lookup x=some c->c≠b
 bs:∀b o,X.base.get? b=some o->X.s₀.heap.get? b=some o/\X.H₀ b=none
 bsz:X.base.objs.size<=X.s₀.heap.objs.size
 noex:∀b o,X.base.get? b=some o->b ∉ X.ex
 exfs:∀b∈X.ex,b ∉ X.fs
 hW:X.s₀.heap.FunFrames X.base X.outer
 frf:∀b∈X.fs,X.H₀ b=none
structure Inv (X:Cx)(pins:List (Addr×Obj))(σ:List (Option V))(H:Hp)(s:Shared):Prop where
 ok:X.Ok
 os:s.os=X.s₀.os
 bare:AllBare s.gens
 base:Un X.fs X.ex X.H₀ H X.s₀.heap s.heap
 loc:∃m,s.heap.Ns X.env.locals m/\∀(i:Nat) (x:Str) (v:V),X.N[i]? = some x->σ[i]? = some (some v)->NL X.env.scope x->∃u,RelV v u/\Look X.env s.heap m x u
 cell:∀x c,X.env.cells.lookup x=some c->∃v,s.heap.IsCell c v
 free:H X.env.locals=none
 freeC:∀x c,X.env.cells.lookup x=some c->H c=none
 pin:∀p∈X.pn++pins,s.heap.get? p.1=some p.2/\H p.1=none/\p.1≠X.env.locals/\p.1 ∉ X.fs/\∀v,p.2.data≠.cell v
 hok:fV X.prog X.w H s.heap
 len:σ.length=X.N.length
section
variable {X:Cx}{pins:List (Addr×Obj)}{σ:List (Option V)}{H H':Hp}{s:Shared}{h':Heap}
theorem Cx.Ok.Q7 (ok:X.Ok){b:Addr}{o:Obj}(e:X.base.get? b=some o):b ∉ X.fs:=fun hb=>by
 have:=(ok.hW.mem hb).1
 rw [e] at this; cases this
theorem Inv.bs (I:Inv X pins σ H s):∀b o,X.base.get? b=some o->s.heap.get? b=some o/\H b=none:=fun b o e=>
 ⟨I.base.keep b o (I.ok.bs b o e).1 (I.ok.bs b o e).2 (I.ok.Q7 e) (I.ok.noex b o e),I.base.free b o (I.ok.bs b o e).1 (I.ok.bs b o e).2 (I.ok.noex b o e)⟩
theorem Inv.bk (I:Inv X pins σ H s):∀b o,X.base.get? b=some o->s.heap.get? b=some o:=fun b o e=>(I.bs b o e).1
theorem Inv.mod (I:Inv X pins σ H s):Mod X.K X.mg X.base:=I.ok.mod
theorem Inv.lY (I:Inv X pins σ H s):X.K.In s.heap:=I.ok.mod.kin.keeps I.bk
theorem Inv.lt (I:Inv X pins σ H s):X.env.locals < s.heap.objs.size:=let ⟨_,hn,_⟩:=I.loc; hn.lt
theorem Inv.sz (I:Inv X pins σ H s):X.s₀.heap.objs.size<=s.heap.objs.size:=aak I.ok.above (abi I.lt)
theorem Inv.Q8 (I:Inv X pins σ H s){a:Addr}(h:s.heap.objs.size<=a):a ∉ X.fs:=fun hb=>by
 obtain ⟨_,o,ho,_⟩:=I.ok.hW.mem hb
 exact absurd (aat (aaj ho) (aak I.sz h)) (abJ _)
theorem Inv.xJ (I:Inv X pins σ H s):∀x c,X.env.cells.lookup x=some c->c≠X.env.locals:=fun x c e z=>by
 obtain ⟨v,o,ho,hd⟩:=I.cell x c e
 obtain ⟨m,⟨o',es,ep,ho',oA,_⟩,_⟩:=I.loc
 rw [z,ho'] at ho; cases ho; rw [oA] at hd; cases hd
theorem Inv.hW (I:Inv X pins σ H s):s.heap.FunFrames X.base X.outer:=by
 have all:∀(l:List Env),(∀b∈ji l,b∈X.fs)->X.s₀.heap.FunFrames X.base l->s.heap.FunFrames X.base l:=by
   intro l
   induction l with
   | nil=>intro _ _; trivial
   | cons env r ih=>
     intro hs hl
     obtain ⟨hk,⟨L,o,hf,hn,ho,hd⟩,hr⟩:=hl
     have hL:L∈X.fs:=hs L (by unfold ji; rw [abo,hf]; exact abj)
     obtain ⟨sl,e⟩:=I.base.slot L o ho (I.ok.frf L hL) hL fun z=>I.ok.exfs L z hL
     exact ⟨hk,⟨L,_,hf,hn,e,hd⟩,ih (fun b hb=>hs b (by unfold ji; rw [abo,hf]; exact aaW _ hb)) hr⟩
 exact all X.outer (fun _ hb=>hb) I.ok.hW
theorem Inv.stack (I:Inv X pins σ H s):s.heap.FunFrames X.base X.stack:=by
 rcases I.ok.stk with e | ⟨e,hf⟩
 · rw [e]; exact I.hW
 · rw [e]
   obtain ⟨m,hn,_⟩:=I.loc
   refine .cons (by rw [I.ok.kind]; decide) hf hn ?_ I.hW
   exact Heap.get?_none_of_le (aak I.ok.bsz I.ok.above)
theorem Inv.qz (I:Inv X pins σ H s):∀b∈ji X.stack,b∈X.env.locals :: X.fs:=fun b hb=>by
 rcases I.ok.stk with e | ⟨e,hf⟩
 · rw [e] at hb; exact aaW _ hb
 · rw [e] at hb
   unfold ji at hb
   rw [abo,hf] at hb
   exact hb
theorem Inv.qy (I:Inv X pins σ H s):∀b∈ji X.stack,H b=none:=fun b hb=>by
 rcases List.mem_cons.mp (I.qz b hb) with e | hb
 · rw [e]; exact I.free
 · obtain ⟨_,o,ho,_⟩:=I.ok.hW.mem hb
   exact I.base.free b o ho (I.ok.frf b hb) fun z=>I.ok.exfs b z hb
theorem Inv.step {g':Array GenState}{t':Nat}{d':Drawn}{ch:List Addr}(I:Inv X pins σ H s)
   (hch:∀b∈ch,(b∈X.ex\/X.s₀.heap.objs.size<=b)/\b≠X.env.locals/\(∀x c,X.env.cells.lookup x=some c->c≠b)/\∀p∈X.pn++pins,p.1≠b)
   (keep:∀b o,b≠X.env.locals->b ∉ X.fs->b ∉ ch->s.heap.get? b=some o->H b=none->h'.get? b=some o)
   (slot:∀b o,b≠X.env.locals->b∈X.fs->b ∉ ch->s.heap.get? b=some o->H b=none->∃sl,h'.get? b=some { o with slots:=sl }) (free:∀b o,b ∉ ch->s.heap.get? b=some o->H b=none->H' b=none)
   (there:∀b o,b ∉ ch->s.heap.get? b=some o->∃o',h'.get? b=some o')
   (tups:∀b xs,H b=some (.tup xs)->H' b=some (.tup xs)) (frzs:∀b o u,H b=some (.frz o u)->H' b=some (.frz o u)) (tbls:∀b ps,H b=some (.tbl ps)->∃more,H' b=some (.tbl (ps++more)))
   (ns:∀m,s.heap.Ns X.env.locals m->h'.Ns X.env.locals m) (hok:fV X.prog X.w H' h') (hg:AllBare g') :
   Inv X pins σ H' { s with heap:=h',gens:=g',drawn:=d',toks:=t' }:=by
 have neL:∀b o,X.s₀.heap.get? b=some o->b≠X.env.locals:=fun b o e=>aaK (aat (aaj e) I.ok.above)
 have neC:∀b o,X.s₀.heap.get? b=some o->b ∉ X.ex->b ∉ ch:=fun b o e hx hb=>by
   rcases (hch b hb).1 with z | z
   · exact hx z
   · exact absurd (aat (aaj e) z) (abJ _)
 have cellK:∀x c,X.env.cells.lookup x=some c->∀v,s.heap.IsCell c v->h'.IsCell c v:=fun x c e v ⟨o,ho,hd⟩=>by
   have Bh:c ∉ ch:=fun z=>(hch c z).2.2.1 x c e rfl
   by_cases hc:c∈X.fs
   · obtain ⟨sl,q⟩:=slot c o (I.xJ x c e) hc Bh ho (I.freeC x c e)
     exact ⟨_,q,hd⟩
   · exact ⟨o,keep c o (I.xJ x c e) hc Bh ho (I.freeC x c e),hd⟩
 refine ⟨I.ok,I.os,hg,⟨fun b o e n hb hx=>?_,fun b o e n hb hx=>?_,fun b o e n hx=>?_,fun b o e hx=>?_,fun b xs e=>tups b xs (I.base.tups b xs e),fun b o xs e=>frzs b o xs (I.base.frzs b o xs e),fun b ps e=>?_⟩,?_,fun x c e=>?_,?_,fun x c e=>?_,fun p hp=>?_,hok,I.len⟩
 · exact keep b o (neL b o e) hb (neC b o e hx) (I.base.keep b o e n hb hx) (I.base.free b o e n hx)
 · obtain ⟨sl,e1⟩:=I.base.slot b o e n hb hx
   obtain ⟨RK,e2⟩:=slot b _ (neL b o e) hb (neC b o e hx) e1 (I.base.free b o e n hx)
   exact ⟨RK,e2⟩
 · obtain ⟨o',e1⟩:=I.base.there b o e hx
   exact free b o' (neC b o e hx) e1 (I.base.free b o e n hx)
 · obtain ⟨o',e1⟩:=I.base.there b o e hx
   exact there b o' (neC b o e hx) e1
 · obtain ⟨m1,e1⟩:=I.base.tbls b ps e
   obtain ⟨m2,e2⟩:=tbls b _ e1
   exact ⟨m1++m2,by rw [e2,Array.append_assoc]⟩
 · obtain ⟨m,hn,hl⟩:=I.loc
   refine ⟨m,ns m hn,fun i x v e1 e2 e3=>?_⟩
   obtain ⟨u,r,l⟩:=hl i x v e1 e2 e3
   refine ⟨u,r,?_⟩
   rcases l with l | ⟨k,c,e,z⟩
   · exact .inl l
   · exact .inr ⟨k,c,e,cellK x c e _ z⟩
 · obtain ⟨v,z⟩:=I.cell x c e
   exact ⟨v,cellK x c e v z⟩
 · obtain ⟨m,⟨o,_,_,ho,_⟩,_⟩:=I.loc
   exact free _ o (fun z=>(hch _ z).2.1 rfl) ho I.free
 · obtain ⟨v,o,ho,hd⟩:=I.cell x c e
   exact free c o (fun z=>(hch c z).2.2.1 x c e rfl) ho (I.freeC x c e)
 · obtain ⟨e,n,ne,nf,d⟩:=I.pin p hp
   have Bh:p.1 ∉ ch:=fun z=>(hch p.1 z).2.2.2 p hp rfl
   exact ⟨keep p.1 p.2 ne nf Bh e n,free p.1 p.2 Bh e n,ne,nf,d⟩
theorem Inv.un {t':Nat}(I:Inv X pins σ H s)(u:Un X.fs [] H H' s.heap h')(hok:fV X.prog X.w H' h'):Inv X pins σ H' { s with heap:=h',toks:=t' }:=by
 obtain ⟨m,⟨o,es,ep,ho,r⟩,_⟩:=id I.loc
 obtain ⟨sl,hL⟩:=u.any ho I.free (by simp)
 exact I.step (g':=s.gens) (d':=s.drawn) (ch:=[]) (fun _ z=>nomatch z) (fun b o _ hb _ e n=>u.keep b o e n hb (by simp)) (fun b o _ hb _ e n=>u.slot b o e n hb (by simp)) (fun b o _ e n=>u.free b o e n (by simp)) (fun b o _ e=>u.there b o e (by simp)) u.tups u.frzs u.tbls (fun m' hm=>by
   obtain ⟨o',Ld,ep',ho',r'⟩:=hm
   rw [ho] at ho'; cases ho'
   exact ⟨_,Ld,ep',hL,r'⟩) hok I.bare
theorem Inv.call {g':Array GenState}{t':Nat}{d':Drawn}{ch:List Addr}(I:Inv X pins σ H s)(u:Un (ji X.stack) ch H H' s.heap h')(hok:fV X.prog X.w H' h')(hg:AllBare g')
   (hch:∀b∈ch,(b∈X.ex\/X.s₀.heap.objs.size<=b)/\b≠X.env.locals/\(∀x c,X.env.cells.lookup x=some c->c≠b)/\∀p∈X.pn++pins,p.1≠b) :
   Inv X pins σ H' { s with heap:=h',gens:=g',drawn:=d',toks:=t' }:=by
 obtain ⟨m,⟨o,es,ep,ho,r⟩,_⟩:=id I.loc
 obtain ⟨sl,hL⟩:=u.any ho I.free fun z=>(hch _ z).2.1 rfl
 exact I.step (ch:=ch) hch (fun b o hL hb hc e n=>u.keep b o e n (fun z=>(List.mem_cons.mp (I.qz b z)).elim hL hb) hc) (fun b o _ _ hc e n=>u.any e n hc) (fun b o hc e n=>u.free b o e n hc) (fun b o hc e=>u.there b o e hc) u.tups u.frzs u.tbls (fun m' hm=>by
   obtain ⟨o',Ld,ep',ho',r'⟩:=hm
   rw [ho] at ho'; cases ho'
   exact ⟨_,Ld,ep',hL,r'⟩) hok hg
theorem Inv.turned {t':Nat}{it:Addr}(I:Inv X pins σ H s)(k:∀b o,b≠it->s.heap.get? b=some o->h'.get? b=some o)(hn:H it=none)(hL:it≠X.env.locals)
   (h1:it∈X.ex\/X.s₀.heap.objs.size<=it) (h2:∀x c,X.env.cells.lookup x=some c->c≠it) (h3:∀p∈X.pn++pins,p.1≠it):Inv X pins σ H { s with heap:=h',toks:=t' }:=by
 have Uh:∀b u,H b=some u->b≠it:=fun b u e z=>by rw [z,hn] at e; cases e
 refine I.step (g':=s.gens) (d':=s.drawn) (ch:=[it]) (fun b hb=>?_) (fun b o _ _ hc e _=>k b o (fun z=>hc (by simp [z])) e) (fun b o _ _ hc e _=>⟨o.slots,k b o (fun z=>hc (by simp [z])) e⟩) (fun _ _ _ _ n=>n)
   (fun b o hc e=>⟨o,k b o (fun z=>hc (by simp [z])) e⟩) (fun _ _ e=>e) (fun _ _ _ e=>e) (fun b ps e=>⟨#[],by rw [e]; simp⟩) (fun m hm=>?_) (fun b u e=>?_) I.bare
 · have e:b=it:=by simpa using hb
   subst e
   exact ⟨h1,hL,h2,h3⟩
 · obtain ⟨o,es,ep,ho,r⟩:=hm
   exact ⟨o,es,ep,k _ o (Ne.symm hL) ho,r⟩
 · refine (I.hok b u e).oH (fun c v hc q=>k c v ?_ q) (fun _ q=>q) fun _ _ q=>q
   rcases hc with z | z
   · rw [z]; exact Uh b u e
   · exact Uh c _ z
theorem Inv.tok (I:Inv X pins σ H s)(t:Nat):Inv X pins σ H { s with toks:=t }:=I.un (h':=s.heap) (t':=t) Un.refl I.hok
theorem Inv.kept {t':Nat}(I:Inv X pins σ H s)(k:∀b u,s.heap.get? b=some u->h'.get? b=some u):Inv X pins σ H { s with heap:=h',toks:=t' }:=I.un (Un.kept k) (I.hok.kept k)
theorem Inv.laid {a:Addr}{o:HO}{t':Nat}(I:Inv X pins σ H s)(k:∀b u,s.heap.get? b=some u->h'.get? b=some u)(hp:s.heap.objs.size<=a)(new:bp X.prog X.w (upd H a o) h' a o) :
   Inv X pins σ (upd H a o) { s with heap:=h',toks:=t' }:=I.un (Un.laid k hp (I.hok.fresh hp)) (I.hok.laid k hp new)
theorem Inv.write {x e:Addr}{o:HO}{t':Nat}(I:Inv X pins σ H s)(mu:KP (H x))(he:e=x\/H e=some (.own x))(k:∀b u,b≠e->s.heap.get? b=some u->h'.get? b=some u)(heo:∃u,h'.get? e=some u)
   (new:bp X.prog X.w (upd H x o) h' x o):Inv X pins σ (upd H x o) { s with heap:=h',toks:=t' }:=I.un (Un.write mu he k heo) (I.hok.write mu he k heo new)
theorem Inv.weak {σ':List (Option V)}(I:Inv X pins σ H s)(hl:σ'.length=σ.length)(w:∀(i:Nat) v,σ'[i]? = some (some v)->σ[i]? = some (some v)):Inv X pins σ' H s:=
 ⟨I.ok,I.os,I.bare,I.base,let ⟨m,hn,P0⟩:=I.loc; ⟨m,hn,fun i x v e1 e2 e3=>P0 i x v e1 (w i v e2) e3⟩,I.cell,I.free,I.freeC,I.pin,I.hok,hl.trans I.len⟩
theorem Inv.wR {lq:List (Addr×Obj)}(I:Inv X pins σ H s)(h:∀p∈lq,s.heap.get? p.1=some p.2/\H p.1=none/\p.1≠X.env.locals/\p.1 ∉ X.fs/\∀v,p.2.data≠.cell v):Inv X lq σ H s:=
 ⟨I.ok,I.os,I.bare,I.base,I.loc,I.cell,I.free,I.freeC,fun p hp=>(List.mem_append.mp hp).elim (fun z=>I.pin p (abK _ z)) (h p),I.hok,I.len⟩
theorem r9 {N:List Str}(hN:N.Nodup){i j:Nat}{x:Str}(a:N[i]? = some x)(b:N[j]? = some x):i=j:=by
 obtain ⟨h1,e1⟩:=List.getElem?_eq_some_iff.mp a
 obtain ⟨h2,e2⟩:=List.getElem?_eq_some_iff.mp b
 exact (List.getElem_inj hN).mp (e1.trans e2.symm)
theorem pG {M:Model}{A:Around}{E:Value->Shared->Prop}{i:Nat}{x:Str}{v:V}{u:Value}{Q:Unit->Shared->Prop}(I:Inv X pins σ H s)(hN:X.N.Nodup)(hi:X.N[i]? = some x)(hx:Loc X.env.scope x)(r:RelV v u)
   (h:∀s',Inv X pins (σ.set i (some v)) H s'->(∃a,aaT a s.heap s'.heap/\(a=X.env.locals\/X.env.cells.lookup x=some a))->Q () s') (hf:X.fn x=true\/X.env.scope.names.lookup x=some .local:=by first | exact .inl rfl | exact .inr rfl | assumption):wpAny M A (storeName X.env x u) Q E s:=by
 obtain ⟨m,hn,hl⟩:=id I.loc
 have hcls:(X.env.scope.kind == .class || (X.env.scope.kind == .module && X.env.locals != X.env.globals))=false:=by rw [I.ok.kind]; rfl
 have hiσ:i < σ.length:=by rw [I.len]; exact (List.getElem?_eq_some_iff.mp hi).1
 have xJ:=I.xJ
 have tracked:∀{a:Addr} {h':Heap},(∃o,s.heap.get? a=some o/\H a=none)->aaT a s.heap h'->fV X.prog X.w H h':=fun {a h'} ha hs b ob e=>by
   obtain ⟨_,_,rM⟩:=ha
   refine (I.hok b ob e).oH (fun c w' hc q=>(hs.2 c ?_).trans q) (fun _ q=>q) fun _ _ q=>q
   rintro rfl
   rcases hc with rfl | hc
   · rw [rM] at e; cases e
   · rw [rM] at hc; cases hc
 rcases hx with hk | hk
 · refine wpAny_storeName_local hk hn (fun h' hn' hs=>?_) hcls
   obtain ⟨oL,_,_,Xu,_⟩:=id hn
   refine h _ ⟨I.ok,I.os,I.bare,⟨fun b o e n hb hx=>?_,fun b o e n hb hx=>?_,I.base.free,fun b o e hx=>?_,I.base.tups,I.base.frzs,I.base.tbls⟩,⟨_,hn',fun j y v' e1 e2 e3=>?_⟩,fun y c e=>?_,I.free,I.freeC,fun p hp=>?_,tracked ⟨oL,Xu,I.free⟩ hs,by simpa using I.len⟩ ⟨_,hs,.inl rfl⟩
   · exact (hs.2 b (aaK (aat (aaj e) I.ok.above))).trans (I.base.keep b o e n hb hx)
   · obtain ⟨sl,e1⟩:=I.base.slot b o e n hb hx
     exact ⟨sl,(hs.2 b (aaK (aat (aaj e) I.ok.above))).trans e1⟩
   · obtain ⟨o',e1⟩:=I.base.there b o e hx
     exact ⟨o',(hs.2 b (aaK (aat (aaj e) I.ok.above))).trans e1⟩
   · by_cases hj:j=i
     · subst hj
       rw [hi] at e1; cases e1
       rw [abA hiσ] at e2
       cases e2
       exact ⟨u,r,.inl ⟨hk,by simp⟩⟩
     · rw [ab7 (Ne.symm hj)] at e2
       obtain ⟨u',r',q⟩:=hl j y v' e1 e2 e3
       refine ⟨u',r',?_⟩
       rcases q with ⟨k,e⟩ | ⟨k,c,e,z⟩
       · refine .inl ⟨k,?_⟩
         have:y≠x:=fun e=>hj (r9 hN e1 (e ▸ hi))
         simp [this,e]
       · exact .inr ⟨k,c,e,z.sameBut hs (xJ y c e)⟩
   · obtain ⟨w',z⟩:=I.cell y c e
     exact ⟨w',z.sameBut hs (xJ y c e)⟩
   · obtain ⟨e,n,ne,nf,d⟩:=I.pin p hp
     exact ⟨(hs.2 p.1 ne).trans e,n,ne,nf,d⟩
 · have LA:X.fn x=true:=by
     rcases hf with z | z
     · exact z
     · rw [z] at hk; cases hk
   obtain ⟨c,hc⟩:=I.ok.has x (.inl hk)
   obtain ⟨w',z⟩:=I.cell x c hc
   refine wpAny_storeName_cell I.ok.kind hk hc z (fun h' dH hs=>?_)
   obtain ⟨oc,Kq,Qn⟩:=id z
   refine h { s with heap:=h' } ⟨I.ok,I.os,I.bare,⟨fun b o e n hb hx=>?_,fun b o e n hb hx=>?_,I.base.free,fun b o e hx=>?_,I.base.tups,I.base.frzs,I.base.tbls⟩,⟨m,hn.sameBut hs (Ne.symm (xJ x c hc)),fun j y v' e1 e2 e3=>?_⟩,fun y c' e=>?_,I.free,I.freeC,fun p hp=>?_,tracked ⟨oc,Kq,I.freeC x c hc⟩ hs,by simpa using I.len⟩ ⟨c,hs,.inr hc⟩
   · exact (hs.2 b (aaK (aat (aaj e) (I.ok.cab x c LA hc)))).trans (I.base.keep b o e n hb hx)
   · obtain ⟨sl,e1⟩:=I.base.slot b o e n hb hx
     exact ⟨sl,(hs.2 b (aaK (aat (aaj e) (I.ok.cab x c LA hc)))).trans e1⟩
   · obtain ⟨o',e1⟩:=I.base.there b o e hx
     exact ⟨o',(hs.2 b (aaK (aat (aaj e) (I.ok.cab x c LA hc)))).trans e1⟩
   · by_cases hj:j=i
     · subst hj
       rw [hi] at e1; cases e1
       rw [abA hiσ] at e2
       cases e2
       exact ⟨u,r,.inr ⟨.inl hk,c,hc,dH⟩⟩
     · rw [ab7 (Ne.symm hj)] at e2
       obtain ⟨u',r',q⟩:=hl j y v' e1 e2 e3
       refine ⟨u',r',?_⟩
       rcases q with q | ⟨k,c',e,z'⟩
       · exact .inl q
       · refine .inr ⟨k,c',e,z'.sameBut hs ?_⟩
         rintro rfl
         exact hj (r9 hN e1 (I.ok.inj _ _ _ e hc ▸ hi))
   · by_cases DT:c'=c
     · subst DT; exact ⟨_,dH⟩
     · obtain ⟨w2,z2⟩:=I.cell y c' e
       exact ⟨w2,z2.sameBut hs DT⟩
   · obtain ⟨e,n,ne,nf,d⟩:=I.pin p hp
     refine ⟨(hs.2 p.1 ?_).trans e,n,ne,nf,d⟩
     intro q
     rw [q,Kq] at e
     have q':oc=p.2:=aaB e
     exact d w' (by rw [← q']; exact Qn)
theorem gM {M:Model}{A:Around}{E:Value->Shared->Prop}{i:Nat}{x:Str}{v:V}{u:Value}{Q:Unit->Shared->Prop}(I:Inv X pins σ H s)(hN:X.N.Nodup)(hi:X.N[i]? = some x)(hx:Loc X.env.scope x)(r:RelV v u)
   (h:∀s',Inv X pins (σ.set i (some v)) H s'->Q () s') (hf:X.fn x=true\/X.env.scope.names.lookup x=some .local:=by first | exact .inl rfl | exact .inr rfl | assumption):wpAny M A (storeName X.env x u) Q E s:=
 pG I hN hi hx r (fun s' I' _=>h s' I') hf
theorem Inv.FH {s':Shared}{ch:List Addr}(I:Inv X pins σ H s)(ho:s'.os=s.os)(u:Un (ji X.stack) ch H H' s.heap s'.heap)(hok:fV X.prog X.w H' s'.heap)(hg:AllBare s'.gens)
   (hch:∀b∈ch,(b∈X.ex\/X.s₀.heap.objs.size<=b)/\b≠X.env.locals/\(∀x c,X.env.cells.lookup x=some c->c≠b)/\∀p∈X.pn++pins,p.1≠b):Inv X pins σ H' s':=by
 obtain ⟨h',g',d',t',o'⟩:=s'
 have e:o'=s.os:=ho
 subst e
 exact I.call (g':=g') (t':=t') (d':=d') u hok hg hch
end
abbrev XK:=Value->Option Addr->Hp->Prop
abbrev St:=List (Option V)
abbrev VK:=V->Hp->Prop
abbrev TE:=St->Hp->VK->Prop
abbrev TT:=St->Hp->(Bool->Hp->Prop)->Prop
abbrev TA:=St->Hp->(List V->Hp->Prop)->Prop
structure Ends where
 nx:St->Hp->Prop
 rt:VK
 bk:St->Hp->Prop:=fun _ _=>False
 ct:St->Hp->Prop:=fun _ _=>False
abbrev TS:=Ends->St->Hp->Prop
def EP (X:Cx)(pins:List (Addr×Obj))(σ:St)(Q:VK)(u:Value)(s':Shared):Prop:=∃v H',Inv X pins σ H' s'/\RelV v u/\Q v H'
def TP (X:Cx)(pins:List (Addr×Obj))(σ:St)(Q:Bool->Hp->Prop)(b:Bool)(s':Shared):Prop:=∃H',Inv X pins σ H' s'/\Q b H'
def AP (X:Cx)(pins:List (Addr×Obj))(σ:St)(Q:List V->Hp->Prop)(us:List Value)(s':Shared):Prop:=∃vs H',Inv X pins σ H' s'/\Vals vs us/\Q vs H'
def SP (X:Cx)(pins:List (Addr×Obj))(D:Ends)(f:Flow)(s':Shared):Prop:=
 match f with
 | .next=>∃σ' H',Inv X pins σ' H' s'/\D.nx σ' H'
 | .brk=>∃σ' H',Inv X pins σ' H' s'/\D.bk σ' H'
 | .cont=>∃σ' H',Inv X pins σ' H' s'/\D.ct σ' H'
 | .ret u=>∃v σ' H',Inv X pins σ' H' s'/\RelV v u/\D.rt v H'
def PE (X:Cx)(e:Expr)(t:TE):Prop:=
 ∀(pins:List (Addr×Obj)) (s:Shared) (σ:St) (H:Hp) (Q:VK),Inv X pins σ H s->t σ H Q->wpAny (model X.prog X.w) X.A (eval e X.env) (EP X pins σ Q) X.xe s
def PT (X:Cx)(e:Expr)(t:TT):Prop:=
 ∀(pins:List (Addr×Obj)) (s:Shared) (σ:St) (H:Hp) (Q:Bool->Hp->Prop),Inv X pins σ H s->t σ H Q->wpAny (model X.prog X.w) X.A (isTrue e X.env (eval e X.env)) (TP X pins σ Q) X.xe s
def PW (X:Cx)(e:Expr)(t:TT):Prop:=
 ∀(whole:Sem Value) (pins:List (Addr×Obj)) (s:Shared) (σ:St) (H:Hp) (Q:Bool->Hp->Prop),Inv X pins σ H s->t σ H Q->wpAny (model X.prog X.w) X.A (isTrue e X.env whole) (TP X pins σ Q) X.xe s
theorem PW.pt {X:Cx}{e:Expr}{t:TT}(h:PW X e t):PT X e t:=h _
def PA (X:Cx)(es:List Expr)(t:TA):Prop:=
 ∀(pos:Pos) (pins:List (Addr×Obj)) (s:Shared) (σ:St) (H:Hp) (Q:List V->Hp->Prop),Inv X pins σ H s->t σ H Q->wpAny (model X.prog X.w) X.A (spliced (backTo pos (starEach es X.env))) (AP X pins σ Q) X.xe s
def PS (X:Cx)(st:Stmt)(t:TS):Prop:=
 ∀(pins:List (Addr×Obj)) (s:Shared) (σ:St) (H:Hp) (D:Ends),Inv X pins σ H s->t D σ H->wpAny (model X.prog X.w) X.A (exec st X.env) (SP X pins D) X.xe s
def n8 (X:Cx)(st:List Stmt)(t:TS):Prop:=
 ∀(pins:List (Addr×Obj)) (s:Shared) (σ:St) (H:Hp) (D:Ends),Inv X pins σ H s->t D σ H->wpAny (model X.prog X.w) X.A (execs st X.env) (SP X pins D) X.xe s
theorem bt {α:Type}{t:Sem α}{Q Q':α->Shared->Prop}{M:Model}{A:Around}{E:Value->Shared->Prop}{s:Shared}(h:wpAny M A t Q E s)(hQ:∀a s,Q a s->Q' a s):wpAny M A t Q' E s:=wpAny_mono h hQ fun _ _ x=>x
section
variable {X:Cx}
def CF (i:Nat):TE:=fun σ H Q=>∃v,σ[i]? = some (some v)/\Q v H
def tC (v:V):TE:=fun _ H Q=>Q v H
theorem Jp {i:Nat}{x:Str}{pos:Pos}(hN:X.N[i]? = some x)(hv:NL X.env.scope x)(hd:(x == ("__debug__":Str))=false:=by decide)(hcd:(x == ("__classdict__":Str))=false:=by decide):PE X (.Name x pos) (CF i):=by
 intro pins s σ H Q I h
 obtain ⟨v,e,h⟩:=h
 obtain ⟨m,hn,hl⟩:=I.loc
 obtain ⟨u,r,l⟩:=hl i x v hN e hv
 have fin:EP X pins σ Q u s:=⟨v,H,I,r,h⟩
 rcases l with ⟨hk,hm⟩ | ⟨hk,c,hc,FU⟩
 · exact wpAny_Name (wpAny_loadName_local I.ok.kind hk hn hm fin) hd
 · rcases hk with hk | hk
   · exact wpAny_Name (wpAny_loadName_cell I.ok.kind hk hc FU fin) hd
   · exact wpAny_Name (wpAny_loadName_free I.ok.kind hk hc FU fin hcd) hd
theorem Ji {i j pos}:PE X (.Constant (.int i) j pos) (tC (.int i)):=fun _ _ _ H _ I h=>wpAny_Constant_int ⟨.int i,H,I.tok _,⟨_,rfl⟩,h⟩
theorem Mx {b j pos}:PE X (.Constant (.bool b) j pos) (tC (.bl b)):=fun _ _ _ H _ I h=>Constant_bool ⟨.bl b,H,I,rfl,h⟩
theorem Jk {j pos}:PE X (.Constant .none j pos) (tC .bN):=fun _ _ _ H _ I h=>Constant_none ⟨.bN,H,I,rfl,h⟩
theorem BP {x j pos}:PE X (.Constant (.str x) j pos) (tC (.str x)):=fun _ _ _ H _ I h=>Calls.Constant_str ⟨.str x,H,I.tok _,⟨_,rfl⟩,h⟩
def Gl (X:Cx)(x:Str):Prop:=X.env.kindOf x=some .globalImplicit
theorem jF {E:Value->Shared->Prop}{pins:List (Addr×Obj)}{s:Shared}{σ:St}{H:Hp}{x:Str}{u:Value}{pos:Pos}{Q:Value->Shared->Prop}(I:Inv X pins σ H s)(hg:Gl X x)(hm:X.mg x=some u)(h:Q u s)
   (hd:(x == ("__debug__":Str))=false:=by decide):wpAny (model X.prog X.w) X.A (eval (.Name x pos) X.env) Q E s:=
 adt I.ok.kind hg (Calls.loadGlobal_global (by rw [I.ok.glob]; exact I.mod.glob.keeps I.bk) hm h) hd
theorem eQ {E:Value->Shared->Prop}{pins:List (Addr×Obj)}{s:Shared}{σ:St}{H:Hp}{x:Str}{u:Value}{pos:Pos}{Q:Value->Shared->Prop}(I:Inv X pins σ H s)(hg:Gl X x)(hm:X.mg x=none)(hv:aa4 x=some u)(h:Q u s)
   (hn:x≠"__name__":=by decide) (hd:(x == ("__debug__":Str))=false:=by decide):wpAny (model X.prog X.w) X.A (eval (.Name x pos) X.env) Q E s:=by
 obtain ⟨mb,h1,h2⟩:=I.mod.blt
 exact adt I.ok.kind hg (Calls.loadGlobal_builtin (by rw [I.ok.glob]; exact I.mod.glob.keeps I.bk) hm (by rw [I.ok.blt]; exact h1.keeps I.bk) ((h2 x hn).trans hv) h) hd
theorem ES {x:Str}{v:V}{u:Value}{pos:Pos}(hg:Gl X x)(hm:X.mg x=some u)(r:RelV v u)(hd:(x == ("__debug__":Str))=false:=by decide):PE X (.Name x pos) (tC v):=
 fun _ _ _ H _ I h=>jF I hg hm ⟨v,H,I,r,h⟩ hd
theorem EL {x:Str}{v:V}{u:Value}{pos:Pos}(hg:Gl X x)(hm:X.mg x=none)(hv:aa4 x=some u)(r:RelV v u)(hn:x≠"__name__":=by decide)(hd:(x == ("__debug__":Str))=false:=by decide):PE X (.Name x pos) (tC v):=
 fun _ _ _ H _ I h=>eQ I hg hm hv ⟨v,H,I,r,h⟩ hn hd
variable {a b:Expr}{ta tb:TE}{pos:Pos}
def PC (X:Cx)(op:CmpOp)(a b:Expr)(t:TE):Prop:=
 ∀(pins:List (Addr×Obj)) (s:Shared) (σ:St) (H:Hp) (Q:VK),Inv X pins σ H s->t σ H Q ->
   wpAny (model X.prog X.w) X.A (eval a X.env) (fun v s₁=>wpAny (model X.prog X.w) X.A (eval b X.env) (fun u s₂=>wpAny (model X.prog X.w) X.A (compareOp op v u) (EP X pins σ Q) X.xe s₂) X.xe s₁) X.xe s
def tB (t:TE):TT:=fun σ H Q=>t σ H fun x H1=>∃c,x=.bl c/\Q c H1
theorem Jg {op:CmpOp}{t:TE}(h:PC X op a b t)(h1:abr op b=false:=by first | exact nu _ (by decide) (by decide) | rfl):PE X (.Compare a [op] [b] pos) t:=fun pins s σ H Q I hw=>wpAny_Compare1 (h pins s σ H Q I hw) h1
theorem JE {op:CmpOp}{t:TE}(h:PC X op a b t)(h1:abr op b=false:=by first | exact nu _ (by decide) (by decide) | rfl):PT X (.Compare a [op] [b] pos) (tB t):=by
 intro pins s σ H Q I hw
 refine wpAny_isTrue_Compare1 (bt (h pins s σ H _ I hw) fun v s1 h1=>bt h1 fun u s2 h2=>bt h2 fun c s3 ⟨x,H1,I1,r1,q1⟩=>?_) h1
 obtain ⟨d,rfl,q⟩:=q1
 cases r1
 exact wpAny_truthy_bool ⟨H1,I1,q⟩
theorem JG {e:Expr}{t:TE}(h:PE X e t)(he:∀whole,isTrue e X.env whole=(do let v ← whole; standAt e.pos; holding [v] (truthy v)):=by intro _; rfl):PT X e (tB t):=by
 intro pins s σ H Q I hw
 refine isTrue_plain (bt (h pins s σ H _ I hw) fun v s1 ⟨x,H1,I1,r1,q1⟩=>?_) (he _)
 obtain ⟨d,rfl,q⟩:=q1
 cases r1
 exact wpAny_truthy_bool ⟨H1,I1,q⟩
variable {tA OA:TT}{rest:List Expr}
def Ni (t u:TT):TT:=fun σ H Q=>t σ H fun c H1=>if c=true then u σ H1 Q else Q false H1
def UP (t u:TT):TT:=fun σ H Q=>t σ H fun c H1=>if c=true then Q true H1 else u σ H1 Q
def Nm (t:TT):TT:=fun σ H Q=>t σ H fun c H1=>Q (!c) H1
theorem E9 (ha:PT X a tA):PW X (.BoolOp .And [a] pos) tA:=by
 intro wh pins s σ H Q I h
 refine isTrue_and (bt (ha pins s σ H Q I h) fun c s1 e=>?_)
 cases c with
 | true=>exact isTrue_and_nil e
 | false=>exact e
theorem JI (ha:PT X a tA):PW X (.BoolOp .Or [a] pos) tA:=by
 intro wh pins s σ H Q I h
 refine isTrue_or (bt (ha pins s σ H Q I h) fun c s1 e=>?_)
 cases c with
 | false=>exact isTrue_or_nil e
 | true=>exact e
theorem JH (ha:PT X a tA)(hb:PW X (.BoolOp .And (b :: rest) pos) OA):PW X (.BoolOp .And (a :: b :: rest) pos) (Ni tA OA):=by
 intro wh pins s σ H Q I h
 refine isTrue_and (bt (ha pins s σ H _ I h) fun c s1 ⟨H1,I1,q1⟩=>?_)
 cases c with
 | true=>exact hb wh pins s1 σ H1 Q I1 q1
 | false=>exact ⟨H1,I1,q1⟩
theorem MH (ha:PT X a tA)(hb:PW X (.BoolOp .Or (b :: rest) pos) OA):PW X (.BoolOp .Or (a :: b :: rest) pos) (UP tA OA):=by
 intro wh pins s σ H Q I h
 refine isTrue_or (bt (ha pins s σ H _ I h) fun c s1 ⟨H1,I1,q1⟩=>?_)
 cases c with
 | true=>exact ⟨H1,I1,q1⟩
 | false=>exact hb wh pins s1 σ H1 Q I1 q1
theorem JF (ha:PT X a tA):PT X (.UnaryOp .Not a pos) (Nm tA):=by
 intro pins s σ H Q I h
 exact isTrue_not (ha pins s σ H (fun c H1=>Q (!c) H1) I h)
def GC (ta tb:TE):TE:=fun σ H Q=>ta σ H fun x H1=>∃c,x=.bl c/\if c=true then tb σ H1 Q else Q (.bl false) H1
def GK (ta:TE):TE:=fun σ H Q=>ta σ H fun x H1=>∃c,x=.bl c/\Q (.bl (!c)) H1
theorem Jm {op}{t:TE}(h:PE X a t):PE X (.BoolOp op [a] pos) t:=fun pins s σ H Q I hw=>BoolOp_one (h pins s σ H Q I hw)
theorem Jf (ha:PE X a ta)(hb:PE X (.BoolOp .And (b :: rest) pos) tb):PE X (.BoolOp .And (a :: b :: rest) pos) (GC ta tb):=by
 intro pins s σ H Q I h
 refine BoolOp_and (bt (ha pins s σ H _ I h) fun v s1 ⟨x,H1,I1,r1,q1⟩=>?_)
 obtain ⟨c,rfl,q1⟩:=q1
 cases r1
 refine wpAny_truthy_bool ?_
 cases c with
 | true=>exact hb pins s1 σ H1 Q I1 q1
 | false=>exact ⟨.bl false,H1,I1,rfl,q1⟩
theorem Jl (ha:PE X a ta):PE X (.UnaryOp .Not a pos) (GK ta):=by
 intro pins s σ H Q I h
 refine UnaryOp_ (bt (ha pins s σ H _ I h) fun v s1 ⟨x,H1,I1,r1,q1⟩=>?_)
 obtain ⟨c,rfl,q1⟩:=q1
 cases r1
 exact not_of (wpAny_truthy_bool ⟨.bl (!c),H1,I1,rfl,q1⟩)
def UO (t:TT)(ta tb:TE):TE:=fun σ H Q=>t σ H fun c H1=>if c=true then ta σ H1 Q else tb σ H1 Q
theorem BO {c:Expr}(hc:PT X c tA)(ha:PE X a ta)(hb:PE X b tb):PE X (.IfExp c a b pos) (UO tA ta tb):=by
 intro pins s σ H Q I h
 refine wpAny_IfExp (bt (hc pins s σ H _ I h) fun d s1 ⟨H1,I1,q1⟩=>?_)
 cases d with
 | true=>exact ha pins s1 σ H1 Q I1 q1
 | false=>exact hb pins s1 σ H1 Q I1 q1
end
def ao (K:aac)(H:Hp)(a:Addr)(xs:List V):Prop:=
 Rd H a (.lst xs) \/
   ∃(o:Obj) (its:Array Value) (n:Nat),K.lookup a=some o/\o.cls=.type "list"/\o.dict=none/\o.data=.seq its n/\its.size<=sizeLine/\Vals xs its.toList
def aK (K:aac)(H:Hp)(a:Addr)(xs:List V):Prop:=
 Rd H a (.tup xs) \/
   ∃(o:Obj) (its:Array Value) (n:Nat),K.lookup a=some o/\o.cls=.type "tuple"/\o.data=.seq its n/\its.size<=sizeLine/\Vals xs its.toList
def OT:Value->Option V
 | .none=>some .bN
 | .bool b=>some (.bl b)
 | .int i _=>some (.int i)
 | .str x _=>some (.str x)
 | .bytes b _=>some (.byt b)
 | .float b _=>some (.flt b)
 | .ref a=>some (.ref a)
 | .type n=>some (.ty n)
 | _=>none
theorem RelV.abs {x:V}{u:Value}(r:RelV x u):OT u=some x:=by
 cases x with
 | bN=>cases r; rfl
 | bl _=>cases r; rfl
 | int _=>obtain ⟨t,rfl⟩:=r; rfl
 | str _=>obtain ⟨t,rfl⟩:=r; rfl
 | byt _=>obtain ⟨t,rfl⟩:=r; rfl
 | flt _=>obtain ⟨t,rfl⟩:=r; rfl
 | ref _=>cases r; rfl
 | ty _=>cases r; rfl
theorem RelV.inj {x y:V}{u:Value}(r:RelV x u)(q:RelV y u):x=y:=aaB (r.abs.symm.trans q.abs)
theorem Vals.inj:∀{xs ys:List V} {us:List Value},Vals xs us->Vals ys us->xs=ys
 | _,_,_,.nil,.nil=>rfl
 | _,_,_,.cons r t,.cons r' t'=>by rw [r.inj r',Vals.inj t t']
section
variable {X:Cx}{pins:List (Addr×Obj)}{σ:St}{H:Hp}{s:Shared}{a:Addr}{xs ys:List V}
theorem ao.of {K:aac}(h:H a=some (.lst xs)):ao K H a xs:=.inl (.inl h)
theorem aK.of {K:aac}(h:H a=some (.tup xs)):aK K H a xs:=.inl (.inl h)
theorem Inv.list (I:Inv X pins σ H s)(h:ao X.K H a xs):∃its:List Value,Vals xs its/\PlainL s.heap a its.toArray/\xs.length<=sizeLine:=by
 rcases h with h | ⟨o,its,n,hk,hc,hd,hs,hz,r⟩
 · obtain ⟨z,its,n,r,e⟩:=h.ok I.hok
   exact ⟨its,r,⟨_,n,e,rfl,rfl,rfl⟩,z⟩
 · refine ⟨its.toList,r,⟨o,n,I.lY a o hk,hc,hd,by simpa using hs⟩,?_⟩
   have e:=r.length
   simp only [abx] at e
   omega
theorem Inv.tuple (I:Inv X pins σ H s)(h:aK X.K H a xs):∃its:List Value,Vals xs its/\IsTup s.heap a its.toArray/\xs.length<=sizeLine:=by
 rcases h with h | ⟨o,its,n,hk,hc,hs,hz,r⟩
 · obtain ⟨z,its,r,p⟩:=h.ok I.hok
   exact ⟨its,r,p,z⟩
 · refine ⟨its.toList,r,⟨o,I.lY a o hk,hc,n,by simpa using hs⟩,?_⟩
   have e:=r.length
   simp only [abx] at e
   omega
theorem Inv.gu (I:Inv X pins σ H s)(h:ao X.K H a xs)(h':ao X.K H a ys):xs=ys:=by
 obtain ⟨its,r,⟨o,n,e,_,_,d⟩,_⟩:=I.list h
 obtain ⟨its',r',⟨o',n',e',_,_,d'⟩,_⟩:=I.list h'
 rw [e] at e'; cases e'
 rw [d] at d'
 injection d' with d1 _
 have:its=its':=by simpa using congrArg Array.toList d1
 subst this
 exact r.inj r'
theorem Inv.zo (I:Inv X pins σ H s)(h:aK X.K H a xs)(h':aK X.K H a ys):xs=ys:=by
 obtain ⟨its,r,⟨o,e,_,n,d⟩,_⟩:=I.tuple h
 obtain ⟨its',r',⟨o',e',_,n',d'⟩,_⟩:=I.tuple h'
 rw [e] at e'; cases e'
 rw [d] at d'
 injection d' with d1 _
 have:its=its':=by simpa using congrArg Array.toList d1
 subst this
 exact r.inj r'
end
abbrev Cx.oJ (X:Cx)(E:Value->Shared->Prop):Cx:={ X with xe:=E }
abbrev Cx.Kx (X:Cx):Cx:=X.oJ fun _ _=>False
theorem Cx.Ok.oJ {X:Cx}(ok:X.Ok)(E:Value->Shared->Prop):(X.oJ E).Ok:=
 ⟨ok.mod,ok.kind,ok.glob,ok.blt,ok.above,ok.inj,ok.has,ok.cab,ok.hd,ok.frames,ok.stk,ok.exf,ok.bs,ok.bsz,ok.noex,ok.exfs,ok.hW,ok.frf⟩
theorem Cx.Ok.gN {X:Cx}{E:Value->Shared->Prop}(ok:(X.oJ E).Ok):X.Ok:=
 ⟨ok.mod,ok.kind,ok.glob,ok.blt,ok.above,ok.inj,ok.has,ok.cab,ok.hd,ok.frames,ok.stk,ok.exf,ok.bs,ok.bsz,ok.noex,ok.exfs,ok.hW,ok.frf⟩
section
variable {X:Cx}{pins:List (Addr×Obj)}{σ:St}{H:Hp}{s:Shared}{E:Value->Shared->Prop}
theorem Inv.oJ (I:Inv X pins σ H s)(E:Value->Shared->Prop):Inv (X.oJ E) pins σ H s:=⟨I.ok.oJ E,I.os,I.bare,I.base,I.loc,I.cell,I.free,I.freeC,I.pin,I.hok,I.len⟩
theorem Inv.gN (I:Inv (X.oJ E) pins σ H s):Inv X pins σ H s:=⟨I.ok.gN,I.os,I.bare,I.base,I.loc,I.cell,I.free,I.freeC,I.pin,I.hok,I.len⟩
theorem SP.gN {D:Ends}{f:Flow}{s':Shared}(h:SP (X.oJ E) pins D f s'):SP X pins D f s':=by
 cases f with
 | next=>obtain ⟨σ',H',I,q⟩:=h; exact ⟨σ',H',I.gN,q⟩
 | brk=>obtain ⟨σ',H',I,q⟩:=h; exact ⟨σ',H',I.gN,q⟩
 | cont=>obtain ⟨σ',H',I,q⟩:=h; exact ⟨σ',H',I.gN,q⟩
 | ret u=>obtain ⟨v,σ',H',I,r,q⟩:=h; exact ⟨v,σ',H',I.gN,r,q⟩
theorem n8.Kx {st:List Stmt}{t:TS}(h:n8 X.Kx st t):n8 X st t:=fun pins s σ H D I hw=>
 wpAny_mono (h pins s σ H D (I.oJ _) hw) (fun _ _ q=>q.gN) fun _ _ z=>abq z
end
section
variable {X:Cx}{st:Stmt}{rest:List Stmt}{t u:TS}{e:Expr}{te:TE}{pos:Pos}
def GJ:TS:=fun D σ H=>D.nx σ H
def kW (t u:TS):TS:=fun D σ H=>t { D with nx:=u D } σ H
theorem E6:n8 X [] GJ:=fun _ _ σ H _ I h=>acn ⟨σ,H,I,h⟩
theorem BY (h1:PS X st t)(h2:n8 X rest u):n8 X (st :: rest) (kW t u):=by
 intro pins s σ H D I h
 refine wpAny_execs_cons (bt (h1 pins s σ H { D with nx:=u D } I h) fun f s1 q=>?_)
 cases f with
 | next=>
   obtain ⟨σ',H',I',q⟩:=q
   exact h2 pins s1 σ' H' D I' q
 | ret v=>exact q
 | brk=>exact q
 | cont=>exact q
theorem E7 (h1:PS X st t):n8 X [st] t:=by
 intro pins s σ H D I h
 refine wpAny_execs_cons (bt (h1 pins s σ H D I h) fun f s1 q=>?_)
 cases f with
 | next=>exact acn q
 | ret v=>exact q
 | brk=>exact q
 | cont=>exact q
theorem Inv.quiet {pins:List (Addr×Obj)}{σ:St}{H:Hp}{s:Shared}(I:Inv X pins σ H s):interactive X.env=false:=by simp [interactive,I.ok.kind]
def GH (te:TE):TS:=fun D σ H=>te σ H fun _ H1=>D.nx σ H1
theorem E2 (he:PE X e te)(hs:abZ e none pos.line X.env=pure false:=by rfl):PS X (.Expr e pos) (GH te):=by
 intro pins s σ H D I h
 exact wpAny_Expr_any (bt (he pins s σ H _ I h) fun v s1 ⟨x,H1,I1,r1,q1⟩=>⟨σ,H1,I1,q1⟩) I.quiet hs
def Nn (te:TE):TS:=fun D σ H=>te σ H D.rt
theorem JB (he:PE X e te):PS X (.Return (some e) pos) (Nn te):=by
 intro pins s σ H D I h
 exact wpAny_Return_some (bt (he pins s σ H _ I h) fun v s1 ⟨x,H1,I1,r1,q1⟩=>⟨x,σ,H1,I1,r1,q1⟩)
def Nl (c:TT)(t u:TS):TS:=fun D σ H=>c σ H fun b H1=>if b=true then t D σ H1 else u D σ H1
theorem MF {c:Expr}{a b:List Stmt}{tc:TT}(hc:PT X c tc)(ha:n8 X a t)(hb:n8 X b u):PS X (.If c a b pos) (Nl tc t u):=by
 intro pins s σ H D I h
 refine wpAny_If (bt (hc pins s σ H _ I h) fun d s1 ⟨H1,I1,q1⟩=>?_)
 cases d with
 | true=>exact ha pins s1 σ H1 D I1 q1
 | false=>exact hb pins s1 σ H1 D I1 q1
def CC:TS:=fun _ _ _=>False
theorem zc {Y5:List Stmt}:n8 X Y5 CC:=fun _ _ _ _ _ _ h=>h.elim
end
abbrev TG:=V->St->Hp->(St->Hp->Prop)->Prop
abbrev CW:=List V->St->Hp->(St->Hp->Prop)->Prop
def PG (X:Cx)(target:Expr)(t:TG):Prop:=
 ∀(pins:List (Addr×Obj)) (s:Shared) (σ:St) (H:Hp) (v:V) (u:Value) (Q:St->Hp->Prop),Inv X pins σ H s->RelV v u->t v σ H Q ->
   wpAny (model X.prog X.w) X.A (assign target X.env u) (fun _ s'=>∃σ' H',Inv X pins σ' H' s'/\Q σ' H') X.xe s
def KR (X:Cx)(ts:List Expr)(t:CW):Prop:=
 ∀(pins:List (Addr×Obj)) (s:Shared) (σ:St) (H:Hp) (vs:List V) (us:List Value) (Q:St->Hp->Prop),Inv X pins σ H s->Vals vs us->t vs σ H Q ->
   wpAny (model X.prog X.w) X.A (assignInOrder ((assignEach ts X.env).map (·.2)) us) (fun _ s'=>∃σ' H',Inv X pins σ' H' s'/\Q σ' H') X.xe s
abbrev G0:=V->V->V->Hp->(Hp->Prop)->Prop
def KS (X:Cx)(t:G0):Prop:=
 ∀(pins:List (Addr×Obj)) (s:Shared) (σ:St) (H:Hp) (o i v:V) (ov iv u:Value) (Q:Hp->Prop),Inv X pins σ H s->RelV o ov->RelV i iv->RelV v u->t o i v H Q ->
   wpAny (model X.prog X.w) X.A (setItem ov iv u) (fun _ s'=>∃H',Inv X pins σ H' s'/\Q H') X.xe s
section
variable {X:Cx}{pos:Pos}
def kZ (i:Nat):TG:=fun v σ H Q=>Q (σ.set i (some v)) H
theorem EW {i:Nat}{x:Str}(hN:X.N.Nodup)(hi:X.N[i]? = some x)(hx:Loc X.env.scope x)(hf:X.fn x=true\/X.env.scope.names.lookup x=some .local:=by first | exact .inl rfl | exact .inr rfl | assumption):PG X (.Name x pos) (kZ i):=by
 intro pins s σ H v u Q I r h
 exact wpAny_assign_Name (gM I hN hi hx r (fun s' I'=>⟨_,H,I',h⟩) hf)
def Li:CW:=fun vs σ H Q=>vs=[]/\Q σ H
def FO (t:TG)(u:CW):CW:=fun vs σ H Q=>∃v r,vs=v :: r/\t v σ H fun σ' H'=>u r σ' H' Q
theorem EX:KR X [] Li:=by
 intro pins s σ H vs us Q I r h
 obtain ⟨e,h⟩:=h
 subst e
 cases r
 exact assignInOrder_nil ⟨σ,H,I,h⟩
theorem BQ {e:Expr}{es:List Expr}{t:TG}{u:CW}(h1:PG X e t)(h2:KR X es u)
   (hs:(assignEach (e :: es) X.env).map (·.2)=assign e X.env :: (assignEach es X.env).map (·.2):=by rfl):KR X (e :: es) (FO t u):=by
 intro pins s σ H vs us Q I r h
 obtain ⟨v,vr,e1,h⟩:=h
 subst e1
 cases r with
 | cons r rr=>
   rw [hs]
   refine assignInOrder_cons (bt (h1 pins s σ H _ _ _ I r h) fun _ s1 ⟨σ1,H1,I1,q1⟩=>?_)
   exact h2 pins s1 σ1 H1 _ _ Q I1 rr q1
def Lk (K:aac)(n:Nat)(t:CW):TG:=fun v σ H Q=>∃a xs,v=.ref a/\aK K H a xs/\xs.length=n/\t xs σ H Q
theorem Ju {es:List Expr}{k:Nat}{t:CW}{n:Nat}(hc:X.calm=true)(h:KR X es t)
   (hn:(assignEach es X.env).length=n:=by rfl) (hst:(assignEach es X.env).findIdx? (·.1)=none:=by rfl):PG X (.Tuple es k pos) (Lk X.K n t):=by
 intro pins s σ H v u Q I r hw
 obtain ⟨a,xs,e1,hq,hl,hw⟩:=hw
 subst e1
 cases r
 obtain ⟨its,rv,ht,hz⟩:=I.tuple hq
 refine assign_Tuple_tuple (I.ok.hd hc) ht (by simp [hn,← hl,rv.length]) hst fun h' hx=>?_
 have I1:Inv X pins σ H { s with heap:=h' }:=I.kept (t':=s.toks) fun b o e=>hx b o (aaK (aaj e)) e
 exact h pins _ σ H xs _ Q I1 (by simpa using rv) hw
def Lj (to ti:TE)(t:G0):TG:=fun v σ H Q=>to σ H fun o H1=>ti σ H1 fun i H2=>t o i v H2 fun H3=>Q σ H3
theorem Jt {o i:Expr}{to ti:TE}{t:G0}(ho:PE X o to)(hi:PE X i ti)(hs:KS X t)
   (ha:∀v,assign (.Subscript o i pos) X.env v=(do
     let ov ← holding [v] (eval o X.env)
     let iv ← holding [v,ov] (eval i X.env)
     standAt pos
     holding [v,ov,iv] (setItem ov iv v)
     release [v,ov,iv] []):=by intro _; rfl):PG X (.Subscript o i pos) (Lj to ti t):=by
 intro pins s σ H v u Q I r h
 rw [ha]
 refine wpAny_bind (wpAny_holding (bt (ho pins s σ H _ I h) fun ov s1 ⟨x,H1,I1,r1,q1⟩=>?_))
 refine wpAny_bind (wpAny_holding (bt (hi pins s1 σ H1 _ I1 q1) fun iv s2 ⟨y,H2,I2,r2,q2⟩=>?_))
 refine wpAny_bind (wpAny_standAt (wpAny_bind (wpAny_holding (bt (hs pins s2 σ H2 x y v ov iv u _ I2 r1 r2 r q2) fun _ s3 ⟨H3,I3,q3⟩=>?_))))
 exact wpAny_release ⟨σ,H3,I3,q3⟩
def vL (te:TE)(g:TG):TS:=fun D σ H=>te σ H fun x H1=>g x σ H1 D.nx
theorem Jz {tg e:Expr}{te:TE}{g:TG}(he:PE X e te)(hg:PG X tg g)(hs:adk [tg] e pos.line X.env=pure false:=by rfl)(hw:adl [tg] e X.env=pure none:=by rfl)
   (h1:(assignEach [tg] X.env).map (·.2)=[assign tg X.env]:=by rfl):PS X (.Assign [tg] e pos) (vL te g):=by
 intro pins s σ H D I h
 refine wpAny_Assign_stores (bt (he pins s σ H _ I h) fun v s1 ⟨x,H1,I1,r1,q1⟩=>?_) hs hw
 rw [h1]
 exact bt (hg pins s1 σ H1 x v _ I1 r1 q1) fun _ s2 q=>q
theorem JC {i:Nat}{x:Str}{e:Expr}{te:TE}{pos':Pos}(hN:X.N.Nodup)(hi:X.N[i]? = some x)(hx:Loc X.env.scope x)(he:PE X e te)(hs:abZ e (some (.Name x pos')) pos.line X.env=pure false:=by rfl)(hf:X.fn x=true\/X.env.scope.names.lookup x=some .local:=by first | exact .inl rfl | exact .inr rfl | assumption) :
   PS X (.Assign [.Name x pos'] e pos) (vL te (kZ i)):=by
 intro pins s σ H D I h
 refine wpAny_Assign_Name (bt (he pins s σ H _ I h) fun v s1 ⟨y,H1,I1,r1,q1⟩=>?_) hs
 exact gM I1 hN hi hx r1 (fun s2 I2=>⟨_,H1,I2,q1⟩) hf
end
section
variable {X:Cx}{pos:Pos}
def CG (c:TT)(tb:TS):TS:=fun D σ H=>∃W:Nat->St->Hp->Prop,(∃m,W m σ H)/\∀m σ H,W m σ H ->
 c σ H fun b H1=>if b=true then ∃N:St->Hp->Prop,(∀σ' H',N σ' H'->∃m',m' < m/\W m' σ' H')/\tb { D with nx:=N,ct:=N,bk:=D.nx } σ H1 else D.nx σ H1
theorem BW {c:Expr}{body:List Stmt}{tc:TT}{tb:TS}(hp:PassesOwn (model X.prog X.w) X.A X.env X.xe)(hc:PT X c tc)(hb:n8 X body tb):PS X (.While c body [] pos) (CG tc tb):=by
 intro pins s σ H D I h
 obtain ⟨W,⟨m0,w0⟩,turn⟩:=h
 refine wpAny_While (codeAny_whileLoop (fun n s'=>∃σ' H',Inv X pins σ' H' s'/\W n σ' H') ?_ m0 ⟨σ,H,I,w0⟩)
 rintro n s1 ⟨σ1,H1,I1,w1⟩
 refine abL hp (bt (hc pins s1 σ1 H1 _ I1 (turn n σ1 H1 w1)) fun b s2 ⟨H2,I2,q2⟩=>?_)
 cases b with
 | true=>
   obtain ⟨N,hN,q2⟩:=q2
   rw [if_pos rfl]
   refine abL hp (bt (hb pins s2 σ1 H2 _ I2 q2) fun f s3 q3=>?_)
   cases f with
   | next=>
     obtain ⟨σ3,H3,I3,n3⟩:=q3
     obtain ⟨m',hm,w3⟩:=hN σ3 H3 n3
     exact ⟨m',hm,σ3,H3,I3,w3⟩
   | cont=>
     obtain ⟨σ3,H3,I3,n3⟩:=q3
     obtain ⟨m',hm,w3⟩:=hN σ3 H3 n3
     exact ⟨m',hm,σ3,H3,I3,w3⟩
   | brk=>exact q3
   | ret v=>exact q3
 | false=>
   rw [if_neg aas]
   exact acn ⟨σ1,H2,I2,q2⟩
end
structure It where
 go:Nat->Hp->Prop
 yld:Nat->Hp->V->Hp->Prop
 stop:Nat->Hp->Prop
def dJ (X:Cx)(pins:List (Addr×Obj))(H:Hp)(b:Addr):Prop:=
 H b=none/\b≠X.env.locals/\b ∉ X.fs/\(b∈X.ex\/X.s₀.heap.objs.size<=b)/\(∀x c,X.env.cells.lookup x=some c->c≠b)/\∀p∈X.pn++pins,p.1≠b
theorem Inv.pT {X:Cx}{pins:List (Addr×Obj)}{σ:St}{H H':Hp}{s:Shared}{b:Addr}(I:Inv X pins σ H s)(hb:s.heap.objs.size<=b)(hn:H' b=none):dJ X pins H' b:=by
 refine ⟨hn,ack (aat I.lt hb),I.Q8 hb,.inr (aak I.sz hb),fun x c e z=>?_,fun p hp z=>?_⟩
 · obtain ⟨v,q⟩:=I.cell x c e
   exact absurd (aat q.lt (by rw [z]; exact hb)) (abJ _)
 · exact absurd (aat (aaj (I.pin p hp).1) (by rw [z]; exact hb)) (abJ _)
structure Turn (P:Program)(w:World)(K:aac)(tg:Expr)(J:It)(fp:List Addr)(it:Addr)(tn:Nat->Heap->Prop):Prop where
 mem:it∈fp
 obj:∀i h,tn i h->∀b∈fp,∃o,h.get? b=some o/\∀v,o.data≠.cell v
 keep:∀i h h',tn i h->(∀b∈fp,∀o,h.get? b=some o->h'.get? b=some o)->tn i h'
 item:∀(X:Cx),X.prog=P->X.w=w->X.K=K->X.calm=true->∀(i:Nat) (pins:List (Addr×Obj)) (s:Shared) (σ:St) (H:Hp) (E:Value->Shared->Prop),Inv X pins σ H s->(∀b∈fp,dJ X pins H b)->tn i s.heap->J.go i H ->
   wpAny (model P w) X.A (pyNext (.ref it)) (fun r s1=>∃u,r=some u /\
     wpAny (model P w) X.A (letOwnedTupleGo tg (.ref it) u) (fun _ s2=>∃x H',Inv X pins σ H' s2/\RelV x u/\J.yld i H x H'/\tn (i + 1) s2.heap/\∀b∈fp,H' b=none) E s1) E s
 done:∀(X:Cx),X.prog=P->X.w=w->X.K=K->X.calm=true->∀(i:Nat) (pins:List (Addr×Obj)) (s:Shared) (σ:St) (H:Hp) (E:Value->Shared->Prop),Inv X pins σ H s->(∀b∈fp,dJ X pins H b)->tn i s.heap->J.stop i H ->
   wpAny (model P w) X.A (pyNext (.ref it)) (fun r s1=>r=none/\Inv X pins σ H s1) E s
 self:∀(A:Around) (i:Nat) (s:Shared) (Q:Value->Shared->Prop) (E:Value->Shared->Prop),tn i s.heap->Q (.ref it) s->wpAny (model P w) A (pyIter (.ref it)) Q E s
abbrev TI:=St->Hp->(It->Hp->Prop)->Prop
def Ss (X:Cx)(pins:List (Addr×Obj))(σ:St)(tg:Expr)(R:It->Hp->Prop)(itv:Value)(s2:Shared):Prop:=
 ∃(it:Addr) (fp:List Addr) (tn:Nat->Heap->Prop) (J:It) (H':Hp),itv=.ref it/\Inv X pins σ H' s2/\Turn X.prog X.w X.K tg J fp it tn/\tn 0 s2.heap/\(∀b∈fp,dJ X pins H' b)/\R J H'
def PI (X:Cx)(tg iter:Expr)(wi:TI):Prop:=
 ∀(pins:List (Addr×Obj)) (s:Shared) (σ:St) (H:Hp) (R:It->Hp->Prop),Inv X pins σ H s->wi σ H R ->
   wpAny (model X.prog X.w) X.A (eval iter X.env) (fun v s1=>wpAny (model X.prog X.w) X.A (pyIter v) (Ss X pins σ tg R) X.xe s1) X.xe s
theorem Al {M:Model}{A:Around}{E:Value->Shared->Prop}{s:Shared}{tg:Expr}{it:Addr}{u:Value}{o:Obj}{n:String}{vs:Array Value}{Q:Unit->Shared->Prop}(ho:s.heap.get? it=some o)(hc:o.cls=.type n)(hd:o.data=.fields vs)
   (hn:["enumerate","zip","dict_itemiterator","dict_reverseitemiterator","odict_iterator","itertools.zip_longest","itertools.pairwise"].contains n=false) (hQ:Q () s):wpAny M A (letOwnedTupleGo tg (.ref it) u) Q E s:=by
 unfold letOwnedTupleGo
 cases tg <;> first
   | exact wpAny_pure hQ
   | (cases u <;> first
       | exact wpAny_pure hQ
       | (refine wpAny_bind (wpAny_load ho ?_)
          rw [hc,hd]
          show wpAny M A (if (["enumerate","zip","dict_itemiterator","dict_reverseitemiterator","odict_iterator","itertools.zip_longest","itertools.pairwise"].contains n && vs[0]? == some (rawInt _))=true then _ else _) Q E s
          rw [if_neg (by intro h; rw [hn,adH] at h; cases h)]
          exact wpAny_pure hQ))
def Kb (K:aac)(a:Addr):It:=
 ⟨fun i H=>∃xs x,ao K H a xs/\xs[i]? = some x,fun i H x H'=>H'=H/\∀xs,ao K H a xs->xs[i]? = some x,fun i H=>∃xs,ao K H a xs/\xs.length<=i⟩
def Kc (K:aac)(a:Addr):It:=
 ⟨fun i H=>∃xs x,aK K H a xs/\xs[i]? = some x,fun i H x H'=>H'=H/\∀xs,aK K H a xs->xs[i]? = some x,fun i H=>∃xs,aK K H a xs/\xs.length<=i⟩
def FA (lo:Int)(n:Nat):It:=⟨fun i _=>i < n,fun i H x H'=>H'=H/\x=.int (lo + i),fun i _=>n<=i⟩
theorem zp {P:Program}{w:World}{K:aac}{tg:Expr}(a it:Addr):Turn P w K tg (Kb K a) [it] it (fun i h=>h.IsListIter it a i) where
 mem:=by simp
 obj:=fun i h st b hb=>by
   have e:b=it:=by simpa using hb
   subst e
   obtain ⟨o,e,c,d⟩:=st
   exact ⟨o,e,fun v z=>by rw [d] at z; cases z⟩
 keep:=fun i h h' st k=>st.at fun o e=>k it (by simp) o e
 item:=by
   intro X hP hw hK hc i pins s σ H E I hf st hg
   subst hP hw hK
   obtain ⟨xs,x,hq,hx⟩:=hg
   obtain ⟨its,rv,p,hz⟩:=I.list hq
   obtain ⟨u,hu,ru⟩:=rv.get hx
   obtain ⟨f0,f1,f2,f3,f4,f5⟩:=hf it (by simp)
   refine wpAny_pyNext_list_item st p.isList (x:=u) (by simpa using hu) fun h' C8 sb=>?_
   have I1:Inv X pins σ H { s with heap:=h' }:=I.turned (t':=s.toks) (fun b o hb e=>(sb.2 b hb).trans e) f0 f1 f3 f4 f5
   obtain ⟨o,e,c,d⟩:=id C8
   exact ⟨u,rfl,Al (s:={ s with heap:=h' }) e c d (by decide) ⟨x,H,I1,ru,⟨rfl,fun ys hy=>by rw [I.gu hy hq]; exact hx⟩,C8,fun b hb=>(hf b hb).1⟩⟩
 done:=by
   intro X hP hw hK hc i pins s σ H E I hf st hg
   subst hP hw hK
   obtain ⟨xs,hq,hx⟩:=hg
   obtain ⟨its,rv,p,hz⟩:=I.list hq
   obtain ⟨f0,f1,f2,f3,f4,f5⟩:=hf it (by simp)
   have hl:=rv.length
   exact wpAny_pyNext_list_end (I.ok.hd hc) st p.isList (by simp; omega) fun h' eb=>⟨rfl,I.turned (t':=s.toks) (fun b o hb e=>eb b o hb e) f0 f1 f3 f4 f5⟩
 self:=fun _ _ _ _ _ st h=>wpAny_pyIter_listiter st h
theorem vP {P:Program}{w:World}{K:aac}{tg:Expr}(a it:Addr):Turn P w K tg (Kc K a) [it] it (fun i h=>h.IsTupleIter it a i) where
 mem:=by simp
 obj:=fun i h st b hb=>by
   have e:b=it:=by simpa using hb
   subst e
   obtain ⟨o,e,c,d⟩:=st
   exact ⟨o,e,fun v z=>by rw [d] at z; cases z⟩
 keep:=fun i h h' st k=>st.at fun o e=>k it (by simp) o e
 item:=by
   intro X hP hw hK hc i pins s σ H E I hf st hg
   subst hP hw hK
   obtain ⟨xs,x,hq,hx⟩:=hg
   obtain ⟨its,rv,p,hz⟩:=I.tuple hq
   obtain ⟨u,hu,ru⟩:=rv.get hx
   obtain ⟨f0,f1,f2,f3,f4,f5⟩:=hf it (by simp)
   refine wpAny_pyNext_tuple_item st (show s.heap.IsTuple a its.toArray from p) (x:=u) (by simpa using hu) fun h' C8 sb=>?_
   have I1:Inv X pins σ H { s with heap:=h' }:=I.turned (t':=s.toks) (fun b o hb e=>(sb.2 b hb).trans e) f0 f1 f3 f4 f5
   obtain ⟨o,e,c,d⟩:=id C8
   exact ⟨u,rfl,Al (s:={ s with heap:=h' }) e c d (by decide) ⟨x,H,I1,ru,⟨rfl,fun ys hy=>by rw [I.zo hy hq]; exact hx⟩,C8,fun b hb=>(hf b hb).1⟩⟩
 done:=by
   intro X hP hw hK hc i pins s σ H E I hf st hg
   subst hP hw hK
   obtain ⟨xs,hq,hx⟩:=hg
   obtain ⟨its,rv,p,hz⟩:=I.tuple hq
   obtain ⟨f0,f1,f2,f3,f4,f5⟩:=hf it (by simp)
   have hl:=rv.length
   exact wpAny_pyNext_tuple_end (I.ok.hd hc) st (show s.heap.IsTuple a its.toArray from p) (by simp; omega) fun h' eb=>⟨rfl,I.turned (t':=s.toks) (fun b o hb e=>eb b o hb e) f0 f1 f3 f4 f5⟩
 self:=fun _ _ _ _ _ st h=>wpAny_pyIter_tupleiter st h
theorem vO {P:Program}{w:World}{K:aac}{tg:Expr}(it:Addr)(lo:Int)(n:Nat):Turn P w K tg (FA lo n) [it] it (fun i h=>IsRangeIter h it (lo + (i:Nat) * 1) ((n:Int) - (i:Nat)) 1) where
 mem:=by simp
 obj:=fun i h st b hb=>by
   have e:b=it:=by simpa using hb
   subst e
   exact ⟨_,st,fun v z=>by
     have z':Data.fields _=Data.cell v:=z
     cases z'⟩
 keep:=fun i h h' st k=>k it (by simp) _ st
 item:=by
   intro X hP hw hK hc i pins s σ H E I hf st hg
   subst hP hw hK
   obtain ⟨f0,f1,f2,f3,f4,f5⟩:=hf it (by simp)
   have W:=Walks.range (prog:=X.prog) (w:=X.w) (I.ok.hd hc) it lo 1 n
   refine W.item i s _ _ hg st fun v h' tk hv C8 kk=>?_
   obtain ⟨t,rfl⟩:=hv
   have I1:Inv X pins σ H { s with heap:=h',toks:=tk }:=I.turned (fun b o hb e=>kk b o (by simpa using hb) e) f0 f1 f3 f4 f5
   refine ⟨_,rfl,Al (s:={ s with heap:=h',toks:=tk }) (n:="range_iterator") C8 rfl rfl (by decide) ⟨.int (lo + i),H,I1,⟨t,?_⟩,⟨rfl,rfl⟩,C8,fun b hb=>(hf b hb).1⟩⟩
   rw [Int.mul_one]
 done:=by
   intro X hP hw hK hc i pins s σ H E I hf st hg
   subst hP hw hK
   obtain ⟨f0,f1,f2,f3,f4,f5⟩:=hf it (by simp)
   exact wpAny_pyNext_range_end (I.ok.hd hc) st (by have:n<=i:=hg; omega) fun h' eb=>⟨rfl,I.turned (t':=s.toks) (fun b o hb e=>eb b o hb e) f0 f1 f3 f4 f5⟩
 self:=fun _ _ _ _ _ st h=>wpAny_pyIter_rangeiter st h
section
variable {X:Cx}{tg:Expr}
def Ga (K:aac)(tl:TE):TI:=fun σ H R=>tl σ H fun x H1=>∃a,x=.ref a/\(∃xs,ao K H1 a xs)/\R (Kb K a) H1
def L5 (K:aac)(tl:TE):TI:=fun σ H R=>tl σ H fun x H1=>∃a,x=.ref a/\(∃xs,aK K H1 a xs)/\R (Kc K a) H1
theorem EY {l:Expr}{tl:TE}(hl:PE X l tl):PI X tg l (Ga X.K tl):=by
 intro pins s σ H R I h
 refine bt (hl pins s σ H _ I h) fun v s1 ⟨x,H1,I1,r1,q1⟩=>?_
 obtain ⟨a,e,⟨xs,hq⟩,q⟩:=q1
 subst e
 cases r1
 obtain ⟨its,rv,p,hz⟩:=I1.list hq
 refine wpAny_pyIter_list p.isList ?_
 refine ⟨s1.heap.objs.size,[s1.heap.objs.size],_,_,H1,rfl,I1.kept (t':=s1.toks) fun b o e=>aag _ e,zp a _,⟨_,aaE _ rfl,rfl,rfl⟩,fun b hb=>?_,q⟩
 have e:b=s1.heap.objs.size:=by simpa using hb
 subst e
 exact I1.pT (aaf _) (I1.hok.fresh (aaf _))
theorem Jv {l:Expr}{tl:TE}(hl:PE X l tl):PI X tg l (L5 X.K tl):=by
 intro pins s σ H R I h
 refine bt (hl pins s σ H _ I h) fun v s1 ⟨x,H1,I1,r1,q1⟩=>?_
 obtain ⟨a,e,⟨xs,hq⟩,q⟩:=q1
 subst e
 cases r1
 obtain ⟨its,rv,p,hz⟩:=I1.tuple hq
 refine wpAny_pyIter_tuple (show s1.heap.IsTuple a its.toArray from p) ?_
 refine ⟨s1.heap.objs.size,[s1.heap.objs.size],_,_,H1,rfl,I1.kept (t':=s1.toks) fun b o e=>aag _ e,vP a _,⟨_,aaE _ rfl,rfl,rfl⟩,fun b hb=>?_,q⟩
 have e:b=s1.heap.objs.size:=by simpa using hb
 subst e
 exact I1.pT (aaf _) (I1.hok.fresh (aaf _))
theorem sP {pins:List (Addr×Obj)}{σ:St}{H:Hp}{s:Shared}{R:It->Hp->Prop}{E:Value->Shared->Prop}{lo hi:Int}{t u v:Tok}{tk:Nat}(I:Inv X pins σ H s)(h1 : -(2 ^ 62)<=lo)(h2:lo < 2 ^ 62)(h3 : -(2 ^ 62)<=hi)(h4:hi < 2 ^ 62)
   (q:R (FA lo (hi - lo).toNat) H):wpAny (model X.prog X.w) X.A (pyIter (.ref s.heap.objs.size)) (Ss X pins σ tg R) E { s with heap:=s.heap.push { cls:=.type "range",data:=.fields #[.int lo t,.int hi u,.int 1 v] },toks:=tk }:=by
 refine wpAny_pyIter_range (IsRange.new ..) (small_one h1 h2 h3 h4) ?_
 have I1:Inv X pins σ H { s with heap:=s.heap.push { cls:=.type "range",data:=.fields #[.int lo t,.int hi u,.int 1 v] },toks:=tk }:=I.kept fun b o e=>aag _ e
 refine ⟨(s.heap.push { cls:=.type "range",data:=.fields #[.int lo t,.int hi u,.int 1 v] }).objs.size,[(s.heap.push { cls:=.type "range",data:=.fields #[.int lo t,.int hi u,.int 1 v] }).objs.size],_,_,H,rfl,
   I1.kept (t':=tk) fun b o e=>aag _ e,vO _ lo (hi - lo).toNat,?_,fun b hb=>?_,q⟩
 · have e1:lo + ((0:Nat):Int) * 1=lo:=by simp
   have e2:(((hi - lo).toNat:Nat):Int) - ((0:Nat):Int)=Builtin.Range.rangeSize lo hi 1:=by rw [rangeSize_one]; split <;> omega
   show IsRangeIter _ _ (lo + ((0:Nat):Int) * 1) ((((hi - lo).toNat:Nat):Int) - ((0:Nat):Int)) 1
   rw [e1,e2]
   exact aaE _ rfl
 · have e:b=(s.heap.push { cls:=.type "range",data:=.fields #[.int lo t,.int hi u,.int 1 v] }).objs.size:=by simpa using hb
   subst e
   exact I1.pT (aaf _) (I1.hok.fresh (aaf _))
def A9 (ta:TA):TI:=fun σ H R=>ta σ H fun vs H1=>∃j:Int,vs=[.int j] /\ -(2 ^ 62)<=j/\j < 2 ^ 62/\R (FA 0 j.toNat) H1
def Gb (ta:TA):TI:=fun σ H R=>ta σ H fun vs H1=>∃i j:Int,vs=[.int i,.int j]/\(-(2 ^ 62)<=i/\i < 2 ^ 62 /\ -(2 ^ 62)<=j/\j < 2 ^ 62)/\R (FA i (j - i).toNat) H1
theorem y8 {a:Expr}{ta:TA}{p pos:Pos}(hg:Gl X "range")(hm:X.mg "range"=none)(ha:PA X [a] ta)(hs:starEach [a] X.env=[(false,eval a X.env)]:=by rfl):PI X tg (.Call (.Name "range" p) [a] [] pos) (A9 ta):=by
 intro pins s σ H R I h
 refine Call_ (eQ I hg hm boot_range (aaQ (bt (ha pos pins s σ H _ I h) fun us s1 ⟨vs,H1,I1,r1,q1⟩=>?_) hs rfl))
 obtain ⟨j,e,q1,q2,q⟩:=q1
 subst e
 cases r1 with
 | cons r rr=>
   cases rr
   obtain ⟨t,rfl⟩:=r
   exact call_range_1 (sP I1 (by omega) (by omega) q1 q2 (by simpa using q))
theorem y9 {a b:Expr}{ta:TA}{p pos:Pos}(hg:Gl X "range")(hm:X.mg "range"=none)(ha:PA X [a,b] ta)(hs:starEach [a,b] X.env=[(false,eval a X.env),(false,eval b X.env)]:=by rfl)(hs2:starEach [b] X.env=[(false,eval b X.env)]:=by rfl) :
   PI X tg (.Call (.Name "range" p) [a,b] [] pos) (Gb ta):=by
 intro pins s σ H R I h
 refine Call_ (eQ I hg hm boot_range (aaQ (bt (ha pos pins s σ H _ I h) fun us s1 ⟨vs,H1,I1,r1,q1⟩=>?_) (by rw [hs,hs2]) (by rw [hs2]; rfl)))
 obtain ⟨i,j,e,⟨q1,q2,q3,q4⟩,q⟩:=q1
 subst e
 cases r1 with
 | cons r rr=>
   cases rr with
   | cons r' rr=>
     cases rr
     obtain ⟨t,rfl⟩:=r
     obtain ⟨t',rfl⟩:=r'
     exact call_range_2 (sP I1 q1 q2 q3 q4 q)
def Nk (wi:TI)(g:TG)(tb:TS):TS:=fun D σ H=>wi σ H fun J H1=>∃W:Nat->Nat->St->Hp->Prop,(∃m,W 0 m σ H1)/\∀i m σ H,W i m σ H ->
 (J.stop i H/\D.nx σ H)\/(J.go i H/\∃N:St->Hp->Prop,(∀σ' H',N σ' H'->∃m',m' < m/\W (i + 1) m' σ' H')/\∀x H',J.yld i H x H'->g x σ H' fun σ2 H2=>tb { D with nx:=N,ct:=N,bk:=D.nx } σ2 H2)
def nE (fp:List Addr)(h:Heap):List (Addr×Obj):=fp.filterMap fun b=>(h.get? b).map fun o=>(b,o)
theorem fw {fp:List Addr}{h:Heap}{b:Addr}{o:Obj}(hb:b∈fp)(e:h.get? b=some o):(b,o)∈nE fp h:=List.mem_filterMap.mpr ⟨b,hb,by rw [e]; rfl⟩
theorem yO {fp:List Addr}{h:Heap}{p:Addr×Obj}(hp:p∈nE fp h):p.1∈fp/\h.get? p.1=some p.2:=by
 obtain ⟨b,hb,e⟩:=List.mem_filterMap.mp hp
 cases q:h.get? b with
 | none=>rw [q] at e; cases e
 | some o=>
   rw [q] at e
   have e':(b,o)=p:=aaB e
   subst e'
   exact ⟨hb,q⟩
theorem Inv.pinned {pins:List (Addr×Obj)}{σ:St}{H:Hp}{s:Shared}{fp:List Addr}(I:Inv X pins σ H s)(hf:∀b∈fp,dJ X pins H b)(ho:∀b∈fp,∃o,s.heap.get? b=some o/\∀v,o.data≠.cell v):Inv X (pins++nE fp s.heap) σ H s:=
 I.wR fun p hp=>(List.mem_append.mp hp).elim (fun z=>I.pin p (aaP _ z)) fun z=>by
   obtain ⟨hb,e⟩:=yO z
   obtain ⟨f0,f1,f2,_⟩:=hf p.1 hb
   obtain ⟨o,e',d⟩:=ho p.1 hb
   rw [e] at e'; cases e'
   exact ⟨e,f0,f1,f2,d⟩
theorem Inv.ki {pins pl:List (Addr×Obj)}{σ:St}{H:Hp}{s:Shared}(I:Inv X (pins++pl) σ H s):Inv X pins σ H s:=I.wR fun p hp=>I.pin p (aaP _ (abK _ hp))
theorem JA {iter:Expr}{body:List Stmt}{wi:TI}{g:TG}{tb:TS}{pos:Pos}(hp:PassesOwn (model X.prog X.w) X.A X.env X.xe)(hc:X.calm=true)(hi:PI X tg iter wi)(hg:PG X tg g)(hb:n8 X body tb)
   (hs:∀x,aa1 iter X.env x=pure x:=by intro _; rfl):PS X (.For tg iter body [] pos) (Nk wi g tb):=by
 intro pins s σ H D I h
 refine wpAny_For (bt (hi pins s σ H _ I h) fun v s1 h1=>bt h1 fun itv s2 h2=>?_) hs
 obtain ⟨it,fp,tn,J,H2,e,I2,T,Ow,f2,W,⟨m0,w0⟩,turn⟩:=h2
 subst e
 have stat:∀{H':Hp},(∀b∈fp,H' b=none)->∀b∈fp,dJ X pins H' b:=fun hn b hb=>⟨hn b hb,(f2 b hb).2⟩
 refine codeAny_forLoop_any (fun n s'=>∃i σ' H',Inv X pins σ' H' s'/\tn i s'.heap/\(∀b∈fp,H' b=none)/\W i n σ' H') ?_ m0 ⟨0,σ,H2,I2,Ow,fun b hb=>(f2 b hb).1,w0⟩
 rintro n s3 ⟨i,σ3,H3,I3,Cu,Km,w3⟩
 rcases turn i n σ3 H3 w3 with ⟨stop,qn⟩ | ⟨go,N,hN,step⟩
 · refine abL hp (bt (T.done X rfl rfl rfl hc i pins s3 σ3 H3 X.xe I3 (stat Km) Cu stop) fun r s4 ⟨hr,I4⟩=>?_)
   subst hr
   exact acn ⟨σ3,H3,I4,qn⟩
 · refine abL hp (bt (T.item X rfl rfl rfl hc i pins s3 σ3 H3 X.xe I3 (stat Km) Cu go) fun r s4 ⟨u,hr,h4⟩=>?_)
   subst hr
   refine abL hp (bt h4 fun _ s5 ⟨x,H5,I5,r5,y5,C9,Pa⟩=>?_)
   have OK:=I5.pinned (stat Pa) (T.obj _ _ C9)
   refine abL hp (bt (hg _ s5 σ3 H5 x u _ OK r5 (step x H5 y5)) fun _ s6 ⟨σ6,H6,I6,q6⟩=>?_)
   refine abL hp (bt (hb _ s6 σ6 H6 _ I6 q6) fun f s7 q7=>?_)
   have again:∀{σ7:St} {H7:Hp},Inv X (pins++nE fp s5.heap) σ7 H7 s7->N σ7 H7->∃m,m < n/\∃i σ' H',Inv X pins σ' H' s7/\tn i s7.heap/\(∀b∈fp,H' b=none)/\W i m σ' H':=fun {σ7 H7} I7 n7=>by
     obtain ⟨m',hm,w7⟩:=hN σ7 H7 n7
     refine ⟨m',hm,i + 1,σ7,H7,I7.ki,T.keep _ _ _ C9 fun b hb o e=>(I7.pin (b,o) (aaP _ (aaP _ (fw hb e)))).1,fun b hb=>?_,w7⟩
     obtain ⟨o,e,d⟩:=T.obj _ _ C9 b hb
     exact (I7.pin (b,o) (aaP _ (aaP _ (fw hb e)))).2.1
   cases f with
   | next=>obtain ⟨σ7,H7,I7,n7⟩:=q7; exact again I7 n7
   | cont=>obtain ⟨σ7,H7,I7,n7⟩:=q7; exact again I7 n7
   | brk=>obtain ⟨σ7,H7,I7,q7⟩:=q7; exact ⟨σ7,H7,I7.ki,q7⟩
   | ret v=>obtain ⟨x7,σ7,H7,I7,r7,q7⟩:=q7; exact ⟨x7,σ7,H7,I7.ki,r7,q7⟩
end
theorem fW {K:aac}{a:Addr}{xs:List V}{g:TG}{tb:TS}{D:Ends}{σ:St}{H:Hp}(Pv:Nat->St->Hp->Prop)(h0:Pv 0 σ H)(hl:∀i σ H,i<=xs.length->Pv i σ H->ao K H a xs)
   (hs:∀i x σ H,xs[i]? = some x->Pv i σ H->g x σ H fun σ2 H2=>tb { D with nx:=Pv (i + 1),ct:=Pv (i + 1),bk:=D.nx } σ2 H2) (hd:∀σ H,Pv xs.length σ H->D.nx σ H) :
   ∃W:Nat->Nat->St->Hp->Prop,(∃m,W 0 m σ H)/\∀i m σ H,W i m σ H ->
     ((Kb K a).stop i H/\D.nx σ H)\/((Kb K a).go i H/\∃N:St->Hp->Prop,(∀σ' H',N σ' H'->∃m',m' < m/\W (i + 1) m' σ' H')/\∀x H',(Kb K a).yld i H x H'->g x σ H' fun σ2 H2=>tb { D with nx:=N,ct:=N,bk:=D.nx } σ2 H2):=by
 refine ⟨fun i m σ H=>m=xs.length - i/\i<=xs.length/\Pv i σ H,⟨xs.length,by simp,aaU _,h0⟩,?_⟩
 rintro i m σ H ⟨rfl,hi,p⟩
 have q:=hl i σ H hi p
 by_cases hlt:i < xs.length
 · refine .inr ⟨⟨xs,xs[i],q,by simp [hlt]⟩,Pv (i + 1),fun σ' H' p'=>⟨xs.length - (i + 1),by omega,rfl,hlt,p'⟩,fun x H' y=>?_⟩
   obtain ⟨e,y⟩:=y
   subst e
   exact hs i x σ _ (y xs q) p
 · have e:i=xs.length:=by omega
   subst e
   exact .inl ⟨⟨xs,q,aaf _⟩,hd σ H p⟩
theorem gQ {K:aac}{a:Addr}{xs:List V}{g:TG}{tb:TS}{D:Ends}{σ:St}{H:Hp}(Pv:Nat->St->Hp->Prop)(h0:Pv 0 σ H)(hl:∀i σ H,i<=xs.length->Pv i σ H->aK K H a xs)
   (hs:∀i x σ H,xs[i]? = some x->Pv i σ H->g x σ H fun σ2 H2=>tb { D with nx:=Pv (i + 1),ct:=Pv (i + 1),bk:=D.nx } σ2 H2) (hd:∀σ H,Pv xs.length σ H->D.nx σ H) :
   ∃W:Nat->Nat->St->Hp->Prop,(∃m,W 0 m σ H)/\∀i m σ H,W i m σ H ->
     ((Kc K a).stop i H/\D.nx σ H)\/((Kc K a).go i H/\∃N:St->Hp->Prop,(∀σ' H',N σ' H'->∃m',m' < m/\W (i + 1) m' σ' H')/\∀x H',(Kc K a).yld i H x H'->g x σ H' fun σ2 H2=>tb { D with nx:=N,ct:=N,bk:=D.nx } σ2 H2):=by
 refine ⟨fun i m σ H=>m=xs.length - i/\i<=xs.length/\Pv i σ H,⟨xs.length,by simp,aaU _,h0⟩,?_⟩
 rintro i m σ H ⟨rfl,hi,p⟩
 have q:=hl i σ H hi p
 by_cases hlt:i < xs.length
 · refine .inr ⟨⟨xs,xs[i],q,by simp [hlt]⟩,Pv (i + 1),fun σ' H' p'=>⟨xs.length - (i + 1),by omega,rfl,hlt,p'⟩,fun x H' y=>?_⟩
   obtain ⟨e,y⟩:=y
   subst e
   exact hs i x σ _ (y xs q) p
 · have e:i=xs.length:=by omega
   subst e
   exact .inl ⟨⟨xs,q,aaf _⟩,hd σ H p⟩
theorem kr {lo:Int}{n:Nat}{g:TG}{tb:TS}{D:Ends}{σ:St}{H:Hp}(Pv:Nat->St->Hp->Prop)(h0:Pv 0 σ H)
   (hs:∀i σ H,i < n->Pv i σ H->g (.int (lo + i)) σ H fun σ2 H2=>tb { D with nx:=Pv (i + 1),ct:=Pv (i + 1),bk:=D.nx } σ2 H2) (hd:∀σ H,Pv n σ H->D.nx σ H) :
   ∃W:Nat->Nat->St->Hp->Prop,(∃m,W 0 m σ H)/\∀i m σ H,W i m σ H ->
     ((FA lo n).stop i H/\D.nx σ H)\/((FA lo n).go i H/\∃N:St->Hp->Prop,(∀σ' H',N σ' H'->∃m',m' < m/\W (i + 1) m' σ' H')/\∀x H',(FA lo n).yld i H x H'->g x σ H' fun σ2 H2=>tb { D with nx:=N,ct:=N,bk:=D.nx } σ2 H2):=by
 refine ⟨fun i m σ H=>m=n - i/\i<=n/\Pv i σ H,⟨n,by simp,aaU _,h0⟩,?_⟩
 rintro i m σ H ⟨rfl,hi,p⟩
 by_cases hlt:i < n
 · refine .inr ⟨hlt,Pv (i + 1),fun σ' H' p'=>⟨n - (i + 1),by omega,rfl,hlt,p'⟩,fun x H' y=>?_⟩
   obtain ⟨e,y⟩:=y
   subst e y
   exact hs i σ _ hlt p
 · have e:i=n:=by omega
   subst e
   exact .inl ⟨aaf _,hd σ H p⟩
abbrev R2:=V->V->Hp->VK->Prop
def hU (X:Cx)(f:Value->Value->Sem Value)(r:R2):Prop:=
 ∀(pins:List (Addr×Obj)) (s:Shared) (σ:St) (H:Hp) (x y:V) (v u:Value) (Q:VK),Inv X pins σ H s->RelV x v->RelV y u->r x y H Q ->
   wpAny (model X.prog X.w) X.A (f v u) (EP X pins σ Q) X.xe s
def OS (X:Cx)(f:Value->Sem Value)(r:V->Hp->VK->Prop):Prop:=
 ∀(pins:List (Addr×Obj)) (s:Shared) (σ:St) (H:Hp) (x:V) (v:Value) (Q:VK),Inv X pins σ H s->RelV x v->r x H Q ->
   wpAny (model X.prog X.w) X.A (f v) (EP X pins σ Q) X.xe s
def dC (X:Cx)(f:Value)(r:List V->Hp->VK->Prop):Prop:=
 ∀(pins:List (Addr×Obj)) (s:Shared) (σ:St) (H:Hp) (xs:List V) (us:List Value) (Q:VK),Inv X pins σ H s->Vals xs us->r xs H Q ->
   wpAny (model X.prog X.w) X.A (call f us) (EP X pins σ Q) X.xe s
def OR (X:Cx)(r:V->Hp->(Bool->Hp->Prop)->Prop):Prop:=
 ∀(pins:List (Addr×Obj)) (s:Shared) (σ:St) (H:Hp) (x:V) (v:Value) (Q:Bool->Hp->Prop),Inv X pins σ H s->RelV x v->r x H Q ->
   wpAny (model X.prog X.w) X.A (truthy v) (TP X pins σ Q) X.xe s
def GL (r:R2)(ta tb:TE):TE:=fun σ H Q=>ta σ H fun x H1=>tb σ H1 fun y H2=>r x y H2 Q
def UQ (r:V->Hp->VK->Prop)(ta:TE):TE:=fun σ H Q=>ta σ H fun x H1=>r x H1 Q
def rI (C:Int->Int->Prop)(g:Int->Int->V):R2:=fun x y H Q=>∃i j,x=.int i/\y=.int j/\C i j/\Q (g i j) H
def wX (g:Int->Int->V):R2:=fun x y H Q=>∃i j,x=.int i/\y=.int j/\Q (g i j) H
def rU (g:Int->V):V->Hp->VK->Prop:=fun x H Q=>∃i,x=.int i/\Q (g i) H
section
variable {X:Cx}{a b c:Expr}{ta tb tc:TE}{pos:Pos}
theorem G7 (ha:PE X a ta)(hb:PE X b tb){pins:List (Addr×Obj)}{s:Shared}{σ:St}{H:Hp}{R:V->V->Hp->Prop}(I:Inv X pins σ H s)
   (h:ta σ H fun x H1=>tb σ H1 fun y H2=>R x y H2) {Q:Value->Shared->Prop} {f:Value->Value->Sem Value}
   (hf:∀v u s2 x y H2,Inv X pins σ H2 s2->RelV x v->RelV y u->R x y H2->wpAny (model X.prog X.w) X.A (f v u) Q X.xe s2) :
   wpAny (model X.prog X.w) X.A (eval a X.env) (fun v s₁=>wpAny (model X.prog X.w) X.A (eval b X.env) (fun u s₂=>wpAny (model X.prog X.w) X.A (f v u) Q X.xe s₂) X.xe s₁) X.xe s:=by
 refine bt (ha pins s σ H _ I h) fun v s1 ⟨x,H1,I1,r1,q1⟩=>?_
 refine bt (hb pins s1 σ H1 _ I1 q1) fun u s2 ⟨y,H2,I2,r2,q2⟩=>?_
 exact hf v u s2 x y H2 I2 r1 r2 q2
theorem MA {op:Operator}{r:R2}(ho:hU X (binaryOp op) r)(ha:PE X a ta)(hb:PE X b tb):PE X (.BinOp a op b pos) (GL r ta tb):=by
 intro pins s σ H Q I h
 exact wpAny_BinOp (G7 ha hb I h fun v u s2 x y H2 I2 rx ry q=>ho pins s2 σ H2 x y v u Q I2 rx ry q)
theorem MB {op:UnaryOp}{r:V->Hp->VK->Prop}(ho:OS X (unaryOp op) r)(ha:PE X a ta):PE X (.UnaryOp op a pos) (UQ r ta):=by
 intro pins s σ H Q I h
 exact UnaryOp_ (bt (ha pins s σ H _ I h) fun v s1 ⟨x,H1,I1,r1,q1⟩=>ho pins s1 σ H1 x v Q I1 r1 q1)
theorem Ml {f:Value->Value->Sem Value}{C:Int->Int->Prop}{g:Int->Int->Int}
   (rule:∀(i j:Int) (t u:Tok) (s:Shared) (Q:Value->Shared->Prop) (E:Value->Shared->Prop),C i j->Q (.int (g i j) s.toks) { s with toks:=s.toks + 1 }->wpAny (model X.prog X.w) X.A (f (.int i t) (.int j u)) Q E s) :
   hU X f (rI C fun i j=>.int (g i j)):=by
 intro pins s σ H x y v u Q I rx ry h
 obtain ⟨i,j,rfl,rfl,hc,q⟩:=h
 obtain ⟨t,rfl⟩:=rx
 obtain ⟨t',rfl⟩:=ry
 exact rule i j t t' s _ _ hc ⟨.int (g i j),H,I.tok _,⟨_,rfl⟩,q⟩
theorem Mm {f:Value->Value->Sem Value}{g:Int->Int->Int}
   (rule:∀(i j:Int) (t u:Tok) (s:Shared) (Q:Value->Shared->Prop) (E:Value->Shared->Prop),Q (.int (g i j) s.toks) { s with toks:=s.toks + 1 }->wpAny (model X.prog X.w) X.A (f (.int i t) (.int j u)) Q E s) :
   hU X f (wX fun i j=>.int (g i j)):=by
 intro pins s σ H x y v u Q I rx ry h
 obtain ⟨i,j,rfl,rfl,q⟩:=h
 obtain ⟨t,rfl⟩:=rx
 obtain ⟨t',rfl⟩:=ry
 exact rule i j t t' s _ _ ⟨.int (g i j),H,I.tok _,⟨_,rfl⟩,q⟩
theorem EG {f:Value->Value->Sem Value}{g:Int->Int->Bool}
   (rule:∀(i j:Int) (t u:Tok) (s:Shared) (Q:Value->Shared->Prop) (E:Value->Shared->Prop),Q (.bool (g i j)) s->wpAny (model X.prog X.w) X.A (f (.int i t) (.int j u)) Q E s) :
   hU X f (wX fun i j=>.bl (g i j)):=by
 intro pins s σ H x y v u Q I rx ry h
 obtain ⟨i,j,rfl,rfl,q⟩:=h
 obtain ⟨t,rfl⟩:=rx
 obtain ⟨t',rfl⟩:=ry
 exact rule i j t t' s _ _ ⟨.bl (g i j),H,I,rfl,q⟩
def KO (i j:Int):Prop:=0<=j/\j<=1000000/\i.natAbs < 2 ^ 64
def Dc (i j:Int):Prop:=(-(2 ^ 64) < i/\i < 2 ^ 64)\/(-(2 ^ 64) < j/\j < 2 ^ 64)
theorem Dc.ok {i j:Int}(h:Dc i j):IntMulOk i j:=by
 rcases h with ⟨h1,h2⟩ | ⟨h1,h2⟩
 · exact .of_left (intBits_le_64 h1 h2)
 · exact .of_right (intBits_le_64 h1 h2)
theorem IQ:hU X (binaryOp .Add) (wX fun i j=>.int (i + j)):=Mm fun _ _ _ _ _ _ _ q=>add_int q
theorem Jb:hU X (binaryOp .Sub) (wX fun i j=>.int (i - j)):=Mm fun _ _ _ _ _ _ _ q=>sub_int q
theorem IY:hU X (binaryOp .Mult) (rI Dc fun i j=>.int (i * j)):=Ml fun _ _ _ _ _ _ _ hc q=>mul_int q hc.ok
theorem IX:hU X (binaryOp .Mod) (rI (fun _ j=>0 < j) fun i j=>.int (i % j)):=Ml fun i j _ _ _ _ _ hc q=>by
 have h1:(0:Int) < j:=hc
 exact mod_int' (by omega) (by rw [Int.fmod_eq_emod_of_nonneg i (by omega)]; exact q)
theorem I9:hU X (binaryOp .Pow) (rI KO fun i j=>.int (i ^ j.toNat)):=Ml fun _ _ _ _ _ _ _ hc q=>pow_int_small hc.1 hc.2.1 hc.2.2 q
theorem Y9 {f:Value->Sem Value}{g:Int->Int}
   (rule:∀(i:Int) (t:Tok) (s:Shared) (Q:Value->Shared->Prop) (E:Value->Shared->Prop),Q (.int (g i) s.toks) { s with toks:=s.toks + 1 }->wpAny (model X.prog X.w) X.A (f (.int i t)) Q E s) :
   OS X f (rU fun i=>.int (g i)):=by
 intro pins s σ H x v Q I rx h
 obtain ⟨i,rfl,q⟩:=h
 obtain ⟨t,rfl⟩:=rx
 exact rule i t s _ _ ⟨.int (g i),H,I.tok _,⟨_,rfl⟩,q⟩
theorem J4:OS X (unaryOp .USub) (rU fun i=>.int (-i)):=Y9 fun _ _ _ _ _ q=>neg_int q
end
def M9:V->V->Bool
 | .bN,.bN=>true | .bN,.int _=>true | .int _,.bN=>true | .bN,.bl _=>true | .bl _,.bN=>true | .bN,.str _=>true | .str _,.bN=>true
 | .int _,.int _=>true | .bl _,.bl _=>true | .str _,.str _=>true | .byt _,.byt _=>true
 | .int _,.str _=>true | .str _,.int _=>true | .bl _,.str _=>true | .str _,.bl _=>true
 | _,_=>false
def Ux:R2:=fun x y H Q=>M9 x y=true/\Q (.bl (decide (x=y))) H
def Uy:R2:=fun x y H Q=>M9 x y=true/\Q (.bl (!decide (x=y))) H
theorem wj {i j:Int}:decide (V.int i=V.int j)=(i == j):=by
 rw [abg]
 simp
theorem z0 {i j:Bool}:decide (V.bl i=V.bl j)=(i == j):=by
 rw [abg]
 simp
theorem wk {i j:Str}:decide (V.str i=V.str j)=(i == j):=by
 rw [abg]
 simp
theorem wg {i j:Array UInt8}:decide (V.byt i=V.byt j)=(i.toList == j.toList):=by
 rw [abg]
 cases i
 cases j
 simp
section
variable {X:Cx}{a b c:Expr}{ta tb tc:TE}{pos:Pos}
theorem bc {pins:List (Addr×Obj)}{σ:St}{H:Hp}{s:Shared}{Q:VK}{k k':Bool}(I:Inv X pins σ H s)(q:Q (.bl k) H)(e:k=k'):EP X pins σ Q (.bool k') s:=by
 subst e
 exact ⟨.bl k,H,I,rfl,q⟩
theorem Mn:hU X (compareOp .Eq) Ux:=by
 intro pins s σ H x y v u Q I rx ry h
 obtain ⟨hs,q⟩:=h
 cases x with
 | bN=>
   cases rx
   cases y with
   | bN=>cases ry; exact PySem.EqNone.eq_none_none (bc I q (by simp))
   | bl j=>cases ry; exact PySem.EqNone.eq_none_bool (bc I q (by simp))
   | int j=>obtain ⟨t',rfl⟩:=ry; exact PySem.EqNone.eq_none_int (bc I q (by simp))
   | str j=>obtain ⟨t',rfl⟩:=ry; exact PySem.EqNone.eq_none_str (bc I q (by simp))
   | _=>exact absurd (show false=true from hs) aas
 | bl i=>
   cases rx
   cases y with
   | bN=>cases ry; exact PySem.EqNone.eq_bool_none (bc I q (by simp))
   | bl j=>cases ry; exact eq_bool (bc I q z0)
   | str j=>obtain ⟨t',rfl⟩:=ry; exact PySem.EqMixed.eq_bool_str (bc I q (by simp))
   | _=>exact absurd (show false=true from hs) aas
 | int i=>
   obtain ⟨t,rfl⟩:=rx
   cases y with
   | bN=>cases ry; exact PySem.EqNone.eq_int_none (bc I q (by simp))
   | int j=>obtain ⟨t',rfl⟩:=ry; exact eq_int (bc I q wj)
   | str j=>obtain ⟨t',rfl⟩:=ry; exact PySem.EqMixed.eq_int_str (bc I q (by simp))
   | _=>exact absurd (show false=true from hs) aas
 | str i=>
   obtain ⟨t,rfl⟩:=rx
   cases y with
   | bN=>cases ry; exact PySem.EqNone.eq_str_none (bc I q (by simp))
   | bl j=>cases ry; exact PySem.EqMixed.eq_str_bool (bc I q (by simp))
   | int j=>obtain ⟨t',rfl⟩:=ry; exact PySem.EqMixed.eq_str_int (bc I q (by simp))
   | str j=>obtain ⟨t',rfl⟩:=ry; exact eq_str (bc I q wk)
   | _=>exact absurd (show false=true from hs) aas
 | byt i=>
   obtain ⟨t,rfl⟩:=rx
   cases y with
   | byt j=>obtain ⟨t',rfl⟩:=ry; exact PySem.W.eq_bytes (bc I q wg)
   | _=>exact absurd (show false=true from hs) aas
 | _=>cases y <;> exact absurd (show false=true from hs) aas
theorem Ms:hU X (compareOp .NotEq) Uy:=by
 intro pins s σ H x y v u Q I rx ry h
 obtain ⟨hs,q⟩:=h
 cases x with
 | bN=>
   cases rx
   cases y with
   | bN=>cases ry; exact PySem.EqNone.ne_none_none (bc I q (by simp))
   | bl j=>cases ry; exact PySem.EqNone.ne_none_bool (bc I q (by simp))
   | int j=>obtain ⟨t',rfl⟩:=ry; exact PySem.EqNone.ne_none_int (bc I q (by simp))
   | str j=>obtain ⟨t',rfl⟩:=ry; exact PySem.EqNone.ne_none_str (bc I q (by simp))
   | _=>exact absurd (show false=true from hs) aas
 | bl i=>
   cases rx
   cases y with
   | bN=>cases ry; exact PySem.EqNone.ne_bool_none (bc I q (by simp))
   | bl j=>cases ry; exact ne_bool (bc I q (congrArg not z0))
   | str j=>obtain ⟨t',rfl⟩:=ry; exact PySem.EqMixed.ne_bool_str (bc I q (by simp))
   | _=>exact absurd (show false=true from hs) aas
 | int i=>
   obtain ⟨t,rfl⟩:=rx
   cases y with
   | bN=>cases ry; exact PySem.EqNone.ne_int_none (bc I q (by simp))
   | int j=>obtain ⟨t',rfl⟩:=ry; exact ne_int (bc I q (congrArg not wj))
   | str j=>obtain ⟨t',rfl⟩:=ry; exact PySem.EqMixed.ne_int_str (bc I q (by simp))
   | _=>exact absurd (show false=true from hs) aas
 | str i=>
   obtain ⟨t,rfl⟩:=rx
   cases y with
   | bN=>cases ry; exact PySem.EqNone.ne_str_none (bc I q (by simp))
   | bl j=>cases ry; exact PySem.EqMixed.ne_str_bool (bc I q (by simp))
   | int j=>obtain ⟨t',rfl⟩:=ry; exact PySem.EqMixed.ne_str_int (bc I q (by simp))
   | str j=>obtain ⟨t',rfl⟩:=ry; exact ne_str (bc I q (congrArg not wk))
   | _=>exact absurd (show false=true from hs) aas
 | byt i=>
   obtain ⟨t,rfl⟩:=rx
   cases y with
   | byt j=>obtain ⟨t',rfl⟩:=ry; exact PySem.W.ne_bytes (bc I q (congrArg not wg))
   | _=>exact absurd (show false=true from hs) aas
 | _=>cases y <;> exact absurd (show false=true from hs) aas
theorem Mr:hU X (compareOp .Lt) (wX fun i j=>.bl (decide (i < j))):=EG fun _ _ _ _ _ _ _ q=>lt_int q
theorem Mq:hU X (compareOp .LtE) (wX fun i j=>.bl (decide (i<=j))):=EG fun _ _ _ _ _ _ _ q=>le_int q
theorem Mp:hU X (compareOp .Gt) (wX fun i j=>.bl (decide (j < i))):=EG fun _ _ _ _ _ _ _ q=>gt_int q
theorem Mo:hU X (compareOp .GtE) (wX fun i j=>.bl (decide (j<=i))):=EG fun _ _ _ _ _ _ _ q=>ge_int q
theorem IW:hU X (compareOp .Is) (fun x y H Q=>y=.bN/\Q (.bl (decide (x=.bN))) H):=by
 intro pins s σ H x y v u Q I rx ry h
 obtain ⟨rfl,q⟩:=h
 cases ry
 refine is_none_gen (bc I q ?_)
 cases x <;> first
   | (cases rx; rfl)
   | (obtain ⟨t,rfl⟩:=rx; rfl)
theorem EJ:hU X (compareOp .IsNot) (fun x y H Q=>y=.bN/\Q (.bl (!decide (x=.bN))) H):=by
 intro pins s σ H x y v u Q I rx ry h
 obtain ⟨rfl,q⟩:=h
 cases ry
 refine isnot_none_gen (bc I q ?_)
 cases x <;> first
   | (cases rx; rfl)
   | (obtain ⟨t,rfl⟩:=rx; rfl)
theorem Bi (b:Expr){op:CmpOp}(h:op≠.In:=by decide)(h2:op≠.NotIn:=by decide):abr op b=false:=by
 have e1:(op == CmpOp.In)=false:=by cases op <;> first | rfl | exact absurd rfl h
 have e2:(op == CmpOp.NotIn)=false:=by cases op <;> first | rfl | exact absurd rfl h2
 cases b <;> simp [abr,e1,e2]
theorem EM {op:CmpOp}{r:R2}(ho:hU X (compareOp op) r)(ha:PE X a ta)(hb:PE X b tb)(hm:abr op b=false):PE X (.Compare a [op] [b] pos) (GL r ta tb):=by
 intro pins s σ H Q I h
 exact wpAny_Compare1 (G7 ha hb I h fun v u s2 x y H2 I2 rx ry q=>ho pins s2 σ H2 x y v u Q I2 rx ry q) hm
def GP (t:TE):TT:=fun σ H Q=>t σ H fun x H'=>∃k,x=.bl k/\Q k H'
theorem E8 {op:CmpOp}{r:R2}(ho:hU X (compareOp op) r)(ha:PE X a ta)(hb:PE X b tb)(hm:abr op b=false):PT X (.Compare a [op] [b] pos) (GP (GL r ta tb)):=by
 intro pins s σ H Q I h
 refine wpAny_isTrue_Compare1 (bt (ha pins s σ H _ I h) fun v s1 ⟨x,H1,I1,r1,q1⟩=>bt (hb pins s1 σ H1 _ I1 q1) fun u s2 ⟨y,H2,I2,r2,q2⟩=>
   bt (ho pins s2 σ H2 x y v u _ I2 r1 r2 q2) fun c s3 ⟨z,H3,I3,r3,k,e,q3⟩=>?_) hm
 subst e
 cases r3
 exact wpAny_truthy_bool ⟨H3,I3,q3⟩
def Cv (r r':R2)(ta tb tc:TE):TE:=fun σ H Q=>ta σ H fun x H1=>tb σ H1 fun y H2=>r x y H2 fun z H3=>∃k,z=.bl k /\
 (if k=true then tc σ H3 fun w' H4=>r' y w' H4 Q else Q (.bl false) H3)
theorem BK {op IP:CmpOp}{r r':R2}(ho:hU X (compareOp op) r)(ho':hU X (compareOp IP) r')(ha:PE X a ta)(hb:PE X b tb)(hc:PE X c tc)
   (hm:lastMarks [op,IP] [b,c]=false:=by with_unfolding_all rfl):PE X (.Compare a [op,IP] [b,c] pos) (Cv r r' ta tb tc):=by
 intro pins s σ H Q I h
 refine Compare_chain (bt (ha pins s σ H _ I h) fun v s1 ⟨x,H1,I1,r1,q1⟩=>chain_link (bt (hb pins s1 σ H1 _ I1 q1) fun u s2 ⟨y,H2,I2,r2,q2⟩=>
   bt (ho pins s2 σ H2 x y v u _ I2 r1 r2 q2) fun d s3 ⟨z,H3,I3,r3,k,e,q3⟩=>?_)) hm
 subst e
 cases r3
 refine wpAny_truthy_bool ?_
 cases k with
 | false=>exact ite_ff ⟨.bl false,H3,I3,rfl,q3⟩
 | true=>exact ite_tt (chain_last (bt (hc pins s3 σ H3 _ I3 q3) fun w' s4 ⟨z',H4,I4,r4,q4⟩=>ho' pins s4 σ H4 y z' u w' Q I4 r2 r4 q4))
def G1 (K:aac)(x:V)(H:Hp)(k:Bool):Prop:=
 match x with
 | .bN=>k=false
 | .bl b=>k=b
 | .int i=>k=(i != 0)
 | .str y=>y.length<=sizeLine/\k=((y.length:Int) != 0)
 | .byt y=>y.size<=sizeLine/\k=((y.size:Int) != 0)
 | .ref p=>(∃xs,ao K H p xs/\k = !xs.isEmpty)\/(∃xs,aK K H p xs/\k = !xs.isEmpty)\/∃kvs,H p=some (.dK kvs)/\k = !kvs.isEmpty
 | _=>False
theorem uN {κ:Type}{kvs:List (κ×V)}{vs:List (κ×Value)}(r:KV kvs vs):(!vs.isEmpty) = !kvs.isEmpty:=by
 cases r <;> rfl
theorem ng {xs:List V}{its:List Value}(r:Vals xs its):(!its.toArray.isEmpty) = !xs.isEmpty:=by
 cases r <;> simp
theorem nk:(sizeLine:Nat) < 2 ^ 63:=by rw [sizeLine_eq]; decide
theorem J2:OR X (fun x H Q=>∃k,G1 X.K x H k/\Q k H):=by
 intro pins s σ H x v Q I rx h
 obtain ⟨k,e,q⟩:=h
 have hl:=nk
 have hs:sizeLine=16777216:=sizeLine_eq
 cases x with
 | bN=>
   cases rx
   have e':k=false:=e
   subst e'
   exact truthy_none ⟨H,I,q⟩
 | bl b=>
   cases rx
   have e':k=b:=e
   subst e'
   exact wpAny_truthy_bool ⟨H,I,q⟩
 | int i=>
   obtain ⟨t,rfl⟩:=rx
   have e':k=(i != 0):=e
   subst e'
   exact PySem.P.truthy_int ⟨H,I,q⟩
 | str y=>
   obtain ⟨t,rfl⟩:=rx
   obtain ⟨hy,e'⟩ : y.length<=sizeLine/\k=((y.length:Int) != 0):=e
   subst e'
   exact PySem.P.truthy_str (by omega) ⟨H,I.tok _,q⟩
 | byt y=>
   obtain ⟨t,rfl⟩:=rx
   obtain ⟨hy,e'⟩ : y.size<=sizeLine/\k=((y.size:Int) != 0):=e
   subst e'
   exact PySem.W.truthy_bytes (by omega) ⟨H,I.tok _,q⟩
 | ref p=>
   cases rx
   have e':(∃xs,ao X.K H p xs/\k = !xs.isEmpty)\/(∃xs,aK X.K H p xs/\k = !xs.isEmpty)\/∃kvs,H p=some (.dK kvs)/\k = !kvs.isEmpty:=e
   rcases e' with ⟨xs,hx,e'⟩ | ⟨xs,hx,e'⟩ | ⟨kvs,hx,e'⟩
   · subst e'
     obtain ⟨its,r,pl,hz⟩:=I.list hx
     have hlen:=r.length
     exact wpAny_truthy_list pl.isList (by simp only [aam]; omega) ⟨H,I.tok _,by rw [ng r]; exact q⟩
   · subst e'
     obtain ⟨its,r,pl,hz⟩:=I.tuple hx
     have hlen:=r.length
     exact truthy_tuple pl (by simp only [aam]; omega) ⟨H,I.tok _,by rw [ng r]; exact q⟩
   · subst e'
     obtain ⟨hz,hS,vs,r,m⟩ : kvs.length<=sizeLine/\(p == abp)=false/\∃vs,KV kvs vs/\s.heap.DictOf (aO X.prog X.w) p vs:=I.hok p _ hx
     have hlen:kvs.length=vs.length:=Paired.length r
     exact wpAny_truthy_dict hS m (by omega) ⟨H,I.tok _,by rw [uN r]; exact q⟩
 | _=>exact (show False from e).elim
theorem B4 (ha:PE X a ta)(he:∀whole,isTrue a X.env whole=(do let v ← whole; standAt a.pos; holding [v] (truthy v))) :
   PT X a (fun σ H Q=>ta σ H fun x H'=>∃k,G1 X.K x H' k/\Q k H'):=by
 intro pins s σ H Q I h
 exact isTrue_plain (bt (ha pins s σ H _ I h) fun v s1 ⟨x,H1,I1,r1,q1⟩=>J2 pins s1 σ H1 x v Q I1 r1 q1) (he _)
theorem vals1 {x:V}{us:List Value}(r:Vals [x] us):∃u,us=[u]/\RelV x u:=by
 cases r with
 | cons r1 r2=>cases r2; exact ⟨_,rfl,r1⟩
theorem vals2 {x y:V}{us:List Value}(r:Vals [x,y] us):∃u w',us=[u,w']/\RelV x u/\RelV y w':=by
 cases r with
 | cons r1 r2=>
   cases r2 with
   | cons r3 r4=>cases r4; exact ⟨_,_,rfl,r1,r3⟩
theorem xF (hc:X.calm=true):dC X (.builtin "max") (fun xs H Q=>∃i j,xs=[.int i,.int j]/\Q (.int (if j > i then j else i)) H):=by
 intro pins s σ H xs us Q I r h
 obtain ⟨i,j,rfl,q⟩:=h
 obtain ⟨u,w',rfl,⟨t,rfl⟩,⟨t',rfl⟩⟩:=vals2 r
 refine max_two_ints (I.ok.hd hc) fun h' tk k=>⟨_,H,I.kept k,?_,q⟩
 by_cases hj:j > i
 · rw [if_pos hj,if_pos hj]; exact ⟨_,rfl⟩
 · rw [if_neg hj,if_neg hj]; exact ⟨_,rfl⟩
theorem xG (hc:X.calm=true):dC X (.builtin "min") (fun xs H Q=>∃i j,xs=[.int i,.int j]/\Q (.int (if j < i then j else i)) H):=by
 intro pins s σ H xs us Q I r h
 obtain ⟨i,j,rfl,q⟩:=h
 obtain ⟨u,w',rfl,⟨t,rfl⟩,⟨t',rfl⟩⟩:=vals2 r
 refine min_two_ints (I.ok.hd hc) fun h' tk k=>⟨_,H,I.kept k,?_,q⟩
 by_cases hj:j < i
 · rw [if_pos hj,if_pos hj]; exact ⟨_,rfl⟩
 · rw [if_neg hj,if_neg hj]; exact ⟨_,rfl⟩
theorem xD:dC X (.type "int") (fun xs H Q=>(∃i,xs=[.int i]/\Q (.int i) H)\/∃k,xs=[.bl k]/\Q (.int (if k then 1 else 0)) H):=by
 intro pins s σ H xs us Q I r h
 rcases h with ⟨i,rfl,q⟩ | ⟨k,rfl,q⟩
 · obtain ⟨u,rfl,t,rfl⟩:=vals1 r
   exact call_int_int ⟨.int i,H,I,⟨_,rfl⟩,q⟩
 · obtain ⟨u,rfl,r1⟩:=vals1 r
   cases r1
   exact call_int_bool ⟨.int (if k then 1 else 0),H,I.tok _,⟨_,rfl⟩,q⟩
end
structure GV (h:Heap)(x dx C:Addr)(mA:Str->Option Value):Prop where
 obj:h.get? x=some (ada C dx)
 ns:h.Ns1 dx mA
 ne:dx≠x
theorem yG {h:Heap}{dx:Addr}{mA:Str->Option Value}(n:h.Ns1 dx mA):∃od,h.get? dx=some od/\∀name,ado name od=some (mA name):=by
 obtain ⟨o,es,ep,ho,hd,hk,_,hm⟩:=n
 refine ⟨o,ho,fun name=>?_⟩
 have e:=hm name
 unfold nsFind findBy at e
 rw [← Array.find?_toList] at e
 unfold ado
 rw [hd]
 dsimp only
 split
 · rename_i y q
   rw [q] at e
   exact congrArg some e
 · rename_i q
   rw [q] at e
   have a:es.toList.any (·.refKey)=false:=by
     rw [List.any_eq_false]
     intro y hy
     obtain ⟨z,t,hkey⟩:=hk y (Array.mem_toList_iff.mp hy)
     simp [DictEntry.refKey,hkey]
   have a':¬ es.toList.any (·.refKey)=true:=by rw [a]; exact aas
   rw [if_neg a']
   exact congrArg some e
theorem GV.look {h:Heap}{x dx C:Addr}{mA:Str->Option Value}(I:GV h x dx C mA):∃od,PySem.W.InstAt h x (ada C dx) C (some od)/\∀name,ado name od=some (mA name):=
 let ⟨od,ho,hl⟩:=yG I.ns
 ⟨od,⟨I.obj,rfl,rfl,ho⟩,hl⟩
theorem iB.some_of {v:V}{o:Option Value}(r:iB (some v) o):∃u,o=some u/\RelV v u:=by
 cases o with
 | none=>exact (show False from r).elim
 | some u=>exact ⟨u,rfl,r⟩
section
variable {P:Program}{w:World}{H H':Hp}{h h':Heap}{a C dx:Addr}{fs fs':List (Str×V)}
theorem D8 (hok:fV P w H h)(e:H a=some (.ins C dx fs)):∃mA,GV h a dx C mA/\(∀f,iB (fs.lookup f) (mA f))/\PySem.Within mA (fs.map (·.1))/\fs.length<=1000/\H dx=some (.own a):=by
 obtain ⟨d,z,ne,ob,mA,n,r,q⟩:=(show bp P w H h a (.ins C dx fs) from hok a _ e)
 exact ⟨mA,⟨ob,n,ne⟩,r,q,z,d⟩
end
structure OG (K:aac)(C:Addr):Prop where
 pg:PySem.W.plainGet K C ad5=true
 hd:PySem.W.hasDictIn K C=true
 po:PySem.W.plainOver K C=true
 sa:ach K (.ref C) "__setattr__"=some (some (.builtin "object.__setattr__"))
theorem OG.get {K:aac}{C:Addr}(c:OG K C)(f:Str):PySem.W.plainGet K C f=true:=c.pg
section
variable {X:Cx}{pins:List (Addr×Obj)}{σ:St}{H:Hp}{s:Shared}{A:Around}{E:Value->Shared->Prop}{Q:Value->Shared->Prop}{c:Value}{b:Bool}
inductive iE (K:aac) (H:Hp):V->Value->Prop where
 | bN:iE K H .bN (.type "NoneType")
 | bl (x:Bool):iE K H (.bl x) (.type "bool")
 | int (i:Int):iE K H (.int i) (.type "int")
 | str (x:Str):iE K H (.str x) (.type "str")
 | flt (x:UInt64):iE K H (.flt x) (.type "float")
 | lst {a:Addr} {xs:List V} (e:H a=some (.lst xs)):iE K H (.ref a) (.type "list")
 | frz {a:Addr} {o:Obj} {xs:List V} (e:H a=some (.frz o (.lst xs))):iE K H (.ref a) (.type "list")
 | tup {a:Addr} {xs:List V} (e:H a=some (.tup xs)):iE K H (.ref a) (.type "tuple")
 | dK {a:Addr} {kvs:List (Key×V)} (e:H a=some (.dK kvs)):iE K H (.ref a) (.type "dict")
 | dT {a:Addr} {kvs:List (List Key×V)} (e:H a=some (.dT kvs)):iE K H (.ref a) (.type "dict")
 | ins {a C dx:Addr} {fs:List (Str×V)} (e:H a=some (.ins C dx fs)) (cl:OG K C) (ha:ach K (.ref C) "__class__"=some (some (.builtin "object.__class__")))
     (hn:ad6 K (.builtin "object.__class__") "__get__"=some (some (.builtin "getset_descriptor.__get__"))) (htk:PySem.W.takesIn K (.builtin "object.__class__")=some true)
     (hm:adw K C (.type "object")=some true):iE K H (.ref a) (.ref C)
theorem yA {x:V}{u t:Value}(I:Inv X pins σ H s)(rx:RelV x u)(ty:iE X.K H x t)(e:aaH X.K t c=some b)(h:∀tk,Q (.bool b) { s with toks:=tk }) :
   wpAny (model X.prog X.w) A (call (.builtin "isinstance") [u,c]) Q E s:=by
 cases ty with
 | bN=>cases (show u=ac5 from rx); exact aaX PySem.W.kitx_none I.lY aaF e (fun z=>nomatch z) h
 | bl y=>cases (show u=aby y from rx); exact aaX PySem.W.kitx_bool I.lY aaF e (fun z=>nomatch z) h
 | int i=>obtain ⟨t,q⟩:=(show ∃t,u=acX i t from rx); cases q; exact aaX PySem.W.kitx_int I.lY aaF e (fun z=>nomatch z) h
 | str y=>obtain ⟨t,q⟩:=(show ∃t,u=adR y t from rx); cases q; exact aaX PySem.W.kitx_str I.lY aaF e (fun z=>nomatch z) h
 | flt y=>obtain ⟨t,q⟩:=(show ∃t,u=Value.float y t from rx); cases q; exact aaX PySem.W.kitx_float I.lY aaF e (fun z=>nomatch z) h
 | @lst a xs ea=>
   cases (show u=aax a from rx)
   obtain ⟨_,_,n,_,h1⟩:=(show bp X.prog X.w H s.heap a (.lst xs) from I.hok a _ ea)
   exact aaX ad7 I.lY ⟨_,h1,rfl⟩ e (fun z=>nomatch z) h
 | @frz a ob xs ea=>
   cases (show u=aax a from rx)
   obtain ⟨_,_,_,n,_,h1⟩:=(show bp X.prog X.w H s.heap a (.frz ob (.lst xs)) from I.hok a _ ea)
   exact aaX ad7 I.lY ⟨_,h1,rfl⟩ e (fun z=>nomatch z) h
 | @tup a xs ea=>
   cases (show u=aax a from rx)
   obtain ⟨_,_,_,p⟩:=(show bp X.prog X.w H s.heap a (.tup xs) from I.hok a _ ea)
   obtain ⟨o,h1,h2,_⟩:=p
   exact aaX PySem.W.kitx_tuple I.lY ⟨o,h1,h2⟩ e (fun z=>nomatch z) h
 | @dK a kvs ea=>
   cases (show u=aax a from rx)
   obtain ⟨_,_,vs,_,p⟩:=(show bp X.prog X.w H s.heap a (.dK kvs) from I.hok a _ ea)
   obtain ⟨o,es,ep,h1,h2,_⟩:=p
   exact aaX ad8 I.lY ⟨o,h1,h2.1⟩ e (fun z=>nomatch z) h
 | @dT a kvs ea=>
   cases (show u=aax a from rx)
   obtain ⟨_,_,xs,_,o,es,ep,h1,h2,_⟩:=(show bp X.prog X.w H s.heap a (.dT kvs) from I.hok a _ ea)
   exact aaX ad8 I.lY ⟨o,h1,h2.1⟩ e (fun z=>nomatch z) h
 | @ins a C dx fs ea cl ha hn htk hm=>
   cases (show u=aax a from rx)
   obtain ⟨mA,O,_⟩:=D8 I.hok ea
   obtain ⟨od,J,_⟩:=O.look
   exact aaX (PySem.W.kitx_own (cl.get _) cl.hd ha hn htk hm) I.lY J e (fun z=>nomatch z) h
end
structure dt (k:Nat)(A:Around):Prop where
 hd:A.handled=none
 dp:A.depth + 3 * k + 5 < ad4
 un:A.units + 16 * k + 200 < cLine
theorem dt.mono {j k:Nat}{A:Around}(r:dt k A)(h:j<=k):dt j A:=⟨r.hd,by have:=r.dp; omega,by have:=r.un; omega⟩
theorem dt.deeper {k:Nat}{A:Around}(r:dt (k + 1) A)(env:Env):dt k (A.deeper env):=
 ⟨r.hd,by have:=r.dp; show A.depth + 1 + 3 * k + 5 < _; omega,by have:=r.un; show A.units + 3 + 16 * k + 200 < _; omega⟩
theorem dt.depth {k:Nat}{A:Around}(r:dt k A):A.depth < ad4:=by have:=r.dp; omega
theorem dt.units {k:Nat}{A:Around}(r:dt k A):A.units + 64 < cLine:=by have:=r.un; omega
def JZ:TA:=fun _ H Q=>Q [] H
def Cw (ta:TE)(tr:TA):TA:=fun σ H Q=>ta σ H fun x H1=>tr σ H1 fun xs H2=>Q (x :: xs) H2
section
variable {X:Cx}{e:Expr}{es:List Expr}{te:TE}{t:TA}{pos:Pos}
theorem Jd:PA X [] JZ:=fun _ _ _ _ H Q I h=>abX ⟨[],H,I,.nil,h⟩
theorem EK (ha:PE X e te)(hr:PA X es t)(hs:starEach (e :: es) X.env=(false,eval e X.env) :: starEach es X.env:=by rfl):PA X (e :: es) (Cw te t):=by
 intro pos pins s σ H Q I h
 rw [hs]
 show wpAny _ _ (spliced ((false,eval e X.env) :: backTo pos (starEach es X.env))) _ _ s
 refine abB (bt (ha pins s σ H _ I h) fun u s1 ⟨x,H1,I1,r1,q1⟩=>?_)
 exact bt (hr pos pins s1 σ H1 _ I1 q1) fun us s2 ⟨xs,H2,I2,r2,q2⟩=>⟨x :: xs,H2,I2,.cons r1 r2,q2⟩
def J1 (t:TA):TE:=fun σ H Q=>t σ H fun xs H1=>xs.length<=sizeLine/\∀p,H1 p=none->Q (.ref p) (upd H1 p (.tup xs))
def JY (t:TA):TE:=fun σ H Q=>t σ H fun xs H1=>xs.length<=sizeLine/\∀p,H1 p=none->Q (.ref p) (upd H1 p (.lst xs))
theorem Jo {x1}(h:PA X es t):PE X (.Tuple es x1 pos) (J1 t):=by
 intro pins s σ H Q I hq
 refine wpAny_Tuple_spliced (bt (h pos pins s σ H _ I hq) fun us s1 ⟨xs,H1,I1,r,z,q⟩=>⟨by rw [← r.length]; exact z,?_⟩)
 have hf:H1 s1.heap.objs.size=none:=I1.hok.fresh (aaf _)
 refine ⟨.ref s1.heap.objs.size,upd H1 s1.heap.objs.size (.tup xs),I1.laid (t':=s1.toks) (fun b u e=>aag _ e) (aaf _) ?_,rfl,q _ hf⟩
 exact ⟨z,us,r,⟨_,aaE _ rfl,rfl,_,rfl⟩⟩
theorem Jj (h:PA X es t):PE X (.List es pos) (JY t):=by
 intro pins s σ H Q I hq
 refine wpAny_List_spliced (bt (h pos pins s σ H _ I hq) fun us s1 ⟨xs,H1,I1,r,z,q⟩=>⟨by rw [← r.length]; exact z,?_⟩)
 have hf:H1 s1.heap.objs.size=none:=I1.hok.fresh (aaf _)
 refine ⟨.ref s1.heap.objs.size,upd H1 s1.heap.objs.size (.lst xs),I1.laid (t':=s1.toks) (fun b u e=>aag _ e) (aaf _) ?_,rfl,q _ hf⟩
 exact ⟨z,us,0,r,aaE _ rfl⟩
end
abbrev Sp:=List V->Hp->VK->XK->Prop
abbrev vV:=List Env->Hp->Shared->XK->Value->Shared->Prop
structure xA (P:Program)(w:World)(K:aac)(mg:Str->Option Value)(base:Heap)(A:Around)(outer:List Env)(s:Shared)(H:Hp):Prop where
 frames:A.frames=some outer
 mod:Mod K mg base
 bs:∀b o,base.get? b=some o->s.heap.get? b=some o/\H b=none
 bsz:base.objs.size<=s.heap.objs.size
 hW:s.heap.FunFrames base outer
 frf:∀b∈ji outer,H b=none
 hok:fV P w H s.heap
 bare:AllBare s.gens
def CE (outer:List Env)(P:Program)(w:World)(H:Hp)(s:Shared)(Q:VK)(u:Value)(s':Shared):Prop:=
 ∃v H',s'.os=s.os/\AllBare s'.gens/\Un (ji outer) [] H H' s.heap s'.heap/\fV P w H' s'.heap/\RelV v u/\Q v H'
def CR (CX:vV)(outer:List Env)(P:Program)(w:World)(H:Hp)(s:Shared)(Q:VK)(E:XK)(r:Result)(s':Shared):Prop:=
 match r with
 | .ok (.ret u)=>CE outer P w H s Q u s'
 | .ok _=>False
 | .error e=>CX outer H s E e s'
structure aP (P:Program)(w:World)(K:aac)(mg:Str->Option Value)(base:Heap)(CX:vV)(k:Nat)(f:Addr)(fd:aao)(ps:List Str)(sp:Sp):Prop where
 len:∀vs H Q E,sp vs H Q E->vs.length=ps.length
 run:∀(A:Around) (outer:List Env) (s:Shared) (H:Hp) (args:Args) (us:List Value) (vs:List V) (Q:VK) (E:XK),dt k A->xA P w K mg base A outer s H->BindsTo s fd args (ps.zip us)->Vals vs us->sp vs H Q E ->
   codeAny (model P w) A (.call (.ref f) args) (CR CX outer P w H s Q E) s
theorem aP.mono {P:Program}{w:World}{K:aac}{mg:Str->Option Value}{base:Heap}{CX:vV}{j k:Nat}{f:Addr}{fd:aao}{ps:List Str}{sp:Sp}(F:aP P w K mg base CX j f fd ps sp)(h:j<=k) :
   aP P w K mg base CX k f fd ps sp:=⟨F.len,fun A outer s H args us vs Q E hr=>F.run A outer s H args us vs Q E (hr.mono h)⟩
section
variable {X:Cx}{pins:List (Addr×Obj)}{σ:St}{H:Hp}{s s':Shared}
theorem Inv.Lb (I:Inv X pins σ H s):xA X.prog X.w X.K X.mg X.base X.A X.stack s H:=
 ⟨I.ok.frames,I.ok.mod,I.bs,aak I.ok.bsz I.sz,I.stack,I.qy,I.hok,I.bare⟩
theorem Inv.after {Q:VK}{u:Value}(I:Inv X pins σ H s)(h:CE X.stack X.prog X.w H s Q u s'):EP X pins σ Q u s':=by
 obtain ⟨v,H',os,bare,un,hok,r,q⟩:=h
 obtain ⟨hh,g,d,t,YC⟩:=s'
 obtain rfl:YC=s.os:=os
 exact ⟨v,H',I.call (h':=hh) (g':=g) (d':=d) (t':=t) (ch:=[]) un hok bare (fun b z=>absurd z (by simp)),r,q⟩
end
def nW (sp:Sp)(dvs:List V)(E:XK)(t:TA):TE:=fun σ H Q=>t σ H fun vs H1=>sp (vs++dvs) H1 Q E
def Binds (K:aac)(fd:aao)(ps:List Str)(ds:List Value):Prop:=
 ∀(s:Shared) (us:List Value),K.In s.heap->(us++ds).length=ps.length->BindsTo s fd ⟨us,[]⟩ (ps.zip (us++ds))
theorem Binds.all {K:aac}{fd:aao}{ps:List Str}(h:∀us:List Value,us.length=ps.length->adn fd ⟨us,[]⟩ = pure (ps.zip us)):Binds K fd ps []:=fun s us _ hl=>by
 rw [aaJ] at hl ⊢
 exact .of_eq (h us hl)
def Passes (CX:vV)(X:Cx)(E:XK):Prop:=∀(pins:List (Addr×Obj)) (σ:St) (H:Hp) (s:Shared) (e:Value) (s':Shared),Inv X pins σ H s->CX X.stack H s E e s'->X.xe e s'
section
variable {X:Cx}{CX:vV}{k:Nat}{f C:Addr}{fd:aao}{ps:List Str}{sp:Sp}{dvs:List V}{ds:List Value}{E:XK}{x m:Str}{p pos apos:Pos}{e o:Expr}{es:List Expr}{ta:TE}{t:TA}
theorem JK {pins:List (Addr×Obj)}{σ:St}{H:Hp}{s:Shared}{Q:VK}{us:List Value}{vs:List V}(F:aP X.prog X.w X.K X.mg X.base CX k f fd ps sp)(hr:dt k X.A)(hb:Binds X.K fd ps ds)(hd:Vals dvs ds)(hx:Passes CX X E)
   (I:Inv X pins σ H s) (r:Vals vs us) (h:sp (vs++dvs) H Q E):wpAny (model X.prog X.w) X.A (call (.ref f) us) (EP X pins σ Q) X.xe s:=by
 have r2:Vals (vs++dvs) (us++ds):=r.append hd
 have hl:(us++ds).length=ps.length:=by rw [← r2.length]; exact F.len _ _ _ _ h
 refine wpAny_call (codeAny_mono (F.run X.A X.stack s H ⟨us,[]⟩ (us++ds) (vs++dvs) Q E hr I.Lb (hb s us I.lY hl) r2 h) fun r s' hq=>?_)
 cases r with
 | error e=>exact hx pins σ H s e s' I hq
 | ok fl=>
   cases fl with
   | ret u=>exact I.after hq
   | next=>exact abq hq
   | brk=>exact abq hq
   | cont=>exact abq hq
theorem qf (F:aP X.prog X.w X.K X.mg X.base CX k f fd ps sp)(hr:dt k X.A)(hg:Gl X x)(hm:X.mg x=some (.ref f))(hk:abc X.K (.ref f)=true)(hb:Binds X.K fd ps ds)(hd:Vals dvs ds)(hx:Passes CX X E)
   (ha:PA X (e :: es) t) (hdb:(x == ("__debug__":Str))=false:=by decide) (he:starEach (e :: es) X.env=(false,eval e X.env) :: starEach es X.env:=by rfl) (hpl:(backTo pos (starEach es X.env)).any (·.1)=false:=by rfl) :
   PE X (.Call (.Name x p) (e :: es) [] pos) (nW sp dvs E t):=by
 intro pins s σ H Q I h
 refine wpAny_Call_Name_kw (jF I hg hm ?_ hdb)
 refine ad2 (h₀:=X.base) I.ok.mod.kin hk (bt (ha pos pins s σ H _ I h) fun us s1 ⟨vs,H1,I1,r,q⟩=>⟨I1.lY,?_⟩) he hpl
 exact JK F hr hb hd hx I1 r q
end
structure aD (N P:List Str)(sc:Scope):Prop where
 kind:sc.kind=.function
 co:sc.isCoroutine=false
 gen:sc.isGenerator=false
 nd:N.Nodup
 pre:N.take P.length=P
 par:∀x∈P,sc.names.lookup x=some .local\/sc.names.lookup x=some .cell
 nofree:∀y∈sc.names,y.2≠.free
theorem oP {kindOf:Str->Option ab0}{x:Str}:∀{binds:List (Str×Value)} {m:Str->Option Value},(∀v,(x,v) ∉ binds)->bindL kindOf binds m x=m x
 | [],_,_=>rfl
 | (n,v) :: r,m,h=>by
   unfold bindL
   rw [oP fun w hw=>h w (aaW _ hw)]
   split
   · have:x≠n:=by rintro rfl; exact h v abj
     simp [this]
   · rfl
theorem oN {kindOf:Str->Option ab0}{x:Str}:∀{binds:List (Str×Value)} {m:Str->Option Value},(∀v,(x,v) ∉ binds)->bindC kindOf binds m x=m x
 | [],_,_=>rfl
 | (n,v) :: r,m,h=>by
   unfold bindC
   rw [oN fun w hw=>h w (aaW _ hw)]
   split
   · rfl
   · have:x≠n:=by rintro rfl; exact h v abj
     simp [this]
theorem oO {kindOf:Str->Option ab0}{x:Str}{v:Value}:∀{P:List Str} {vs:List Value} {i:Nat} {m:Str->Option Value},P.Nodup->P[i]? = some x->vs[i]? = some v->kindOf x=some .local ->
   bindL kindOf (P.zip vs) m x=some v
 | [],_,_,_,_,h,_,_=>by simp at h
 | _ :: _,[],_,_,_,_,h,_=>by simp at h
 | p :: P,w :: vs,0,m,nd,h1,h2,hk=>by
   simp at h1 h2; subst h1; subst h2
   show bindL kindOf ((p,w) :: P.zip vs) m p=_
   unfold bindL
   rw [oP fun v hv=>(List.nodup_cons.mp nd).1 (abE hv).1,if_pos hk]
   simp
 | p :: P,w :: vs,i + 1,m,nd,h1,h2,hk=>by
   show bindL kindOf ((p,w) :: P.zip vs) m x=_
   unfold bindL
   exact oO (i:=i) (List.nodup_cons.mp nd).2 (by simpa using h1) (by simpa using h2) hk
theorem oM {kindOf:Str->Option ab0}{x:Str}{v:Value}:∀{P:List Str} {vs:List Value} {i:Nat} {m:Str->Option Value},P.Nodup->P[i]? = some x->vs[i]? = some v->kindOf x≠some .local ->
   bindC kindOf (P.zip vs) m x=some v
 | [],_,_,_,_,h,_,_=>by simp at h
 | _ :: _,[],_,_,_,_,h,_=>by simp at h
 | p :: P,w :: vs,0,m,nd,h1,h2,hk=>by
   simp at h1 h2; subst h1; subst h2
   show bindC kindOf ((p,w) :: P.zip vs) m p=_
   unfold bindC
   rw [oN fun v hv=>(List.nodup_cons.mp nd).1 (abE hv).1,if_neg hk]
   simp
 | p :: P,w :: vs,i + 1,m,nd,h1,h2,hk=>by
   show bindC kindOf ((p,w) :: P.zip vs) m x=_
   unfold bindC
   exact oM (i:=i) (List.nodup_cons.mp nd).2 (by simpa using h1) (by simpa using h2) hk
def start (N:List Str)(vs:List V):St:=vs.map some++aaD (N.length - vs.length) none
def hV (CX:vV)(P:Program)(w:World)(K:aac)(mg:Str->Option Value)(base:Heap)(N:List Str)(qual:Str)(scope:Scope)(f:Addr)(cd:Value)(A:Around)(outer:List Env)(s:Shared)(H:Hp)(E:XK):Cx where
 prog:=P
 w:=w
 K:=K
 mg:=mg
 base:=base
 A:=A.deeper (envOfC qual scope s.heap.objs.size f cd)
 N:=N
 s₀:=s
 H₀:=H
 env:=envOfC qual scope s.heap.objs.size f cd
 outer:=outer
 stack:=envOfC qual scope s.heap.objs.size f cd :: outer
 ex:=[]
 calm:=true
 fn:=fun _=>true
 pn:=[]
 xe:=fun e s'=>wpAny (model P w) (A.deeper (envOfC qual scope s.heap.objs.size f cd)) (leaving (envOfC qual scope s.heap.objs.size f cd) e) (fun _ Ry=>CX outer H s E e Ry) (fun e' Ry=>CX outer H s E e' Ry) s'
theorem qW {sc:Scope}{n:Nat}{x:Str}(h:sc.names.lookup x=some .cell):∃c,(cellsFrom n sc.names []).lookup x=some c:=by
 have q:=acu sc.names n [] (.inl h)
 exact Option.isSome_iff_exists.mp q
theorem oW {CX:vV}{P:Program}{w:World}{K:aac}{mg:Str->Option Value}{base:Heap}{N ps:List Str}{qual:Str}{scope:Scope}{f:Addr}{cd:Value}{A:Around}{outer:List Env}{s s1:Shared}{H:Hp}{E:XK}{us:List Value}{vs:List V}
   (S:aD N ps scope) (hd:A.handled=none) (e0:xA P w K mg base A outer s H) (hl:vs.length=ps.length) (r:Vals vs us)
   (x:InCallC s s.heap.objs.size (bindL (envOfC qual scope s.heap.objs.size f cd).kindOf (ps.zip us) fun _=>none) (cellsFrom (s.heap.objs.size + 1) scope.names []) (bindC (envOfC qual scope s.heap.objs.size f cd).kindOf (ps.zip us) fun _=>none) s1) :
   Inv (hV CX P w K mg base N qual scope f cd A outer s H E) [] (start N vs) H s1:=by
 have hpl:ps.length<=N.length:=by have:=congrArg abP S.pre; rw [aaw] at this; omega
 obtain ⟨h1,tk,rfl,hk⟩:=x.done
 have noA:∀b:Addr,b ∉ (hV CX P w K mg base N qual scope f cd A outer s H E).ex:=fun b z=>absurd (show b∈([]:List Addr) from z) (by simp)
 refine ⟨⟨e0.mod,S.kind,rfl,rfl,aaf _,fun y z c h1 h2=>?_,fun y hy=>?_,fun y c _ h=>?_,fun _=>hd,adY e0.frames,.inr ⟨rfl,rfl⟩,fun b z=>absurd z (noA b),e0.bs,e0.bsz,fun b _ _=>noA b,fun b z=>absurd z (noA b),e0.hW,e0.frf⟩,
   rfl,e0.bare,Un.kept hk,⟨_,x.toInCall.ns,fun i y v h1 h2 h3=>?_⟩,fun y c h=>⟨_,x.cell y c h⟩,e0.hok.fresh (aaf _),fun y c h=>?_,fun p hp=>absurd (show p∈([]:List (Addr×Obj)) from hp) (by simp),e0.hok.kept hk,?_⟩
 · exact name_of_addr x.apart (aaY h1) (aaY h2)
 · have hy:scope.names.lookup y=some .cell\/scope.names.lookup y=some .free:=hy
   rcases hy with hy | hy
   · exact qW hy
   · exact absurd rfl (S.nofree _ (aaY hy))
 · exact abi (x.above y c (aaY h))
 · have hi:i < vs.length:=by
     unfold start at h2
     by_cases hi:i < vs.length
     · exact hi
     · rw [aba (by simpa using hi)] at h2
       rw [adM] at h2
       split at h2 <;> cases h2
   have ha:vs[i]? = some v:=by
     unfold start at h2
     rw [aaV (by simpa using hi),aaC] at h2
     cases e:vs[i]? with
     | none=>rw [e] at h2; cases h2
     | some a=>rw [e] at h2; cases h2; rfl
   obtain ⟨u,hu,rv⟩:=r.get ha
   have hp:ps[i]? = some y:=by
     rw [← S.pre,List.getElem?_take_of_lt (by omega)]; exact h1
   have Ue:ps.Nodup:=by rw [← S.pre]; exact S.nd.sublist (aco _ _)
   refine ⟨u,rv,?_⟩
   rcases S.par y (aan hp) with k | k
   · exact .inl ⟨k,oO Ue hp hu k⟩
   · obtain ⟨c,e⟩:=qW (n:=s.heap.objs.size + 1) k
     refine .inr ⟨.inl k,c,e,?_⟩
     have q:=x.cell y c e
     rw [oM Ue hp hu (by show scope.names.lookup y≠_; rw [k]; decide)] at q
     exact q
 · exact e0.hok.fresh (abi (x.above y c (aaY h)))
 · unfold start
   show _=N.length
   rw [aae,aab,acH]
   omega
theorem Ag {CX:vV}{P:Program}{w:World}{K:aac}{mg:Str->Option Value}{base:Heap}{k:Nat}{f:Addr}{name qual:Str}{params:Arguments}{body:List Stmt}{scope:Scope}{dV kV doc pm cdv ct oc:Value}{an od:Option Addr}
   {osl:Array (Option Value)} {N ps:List Str} {sp:Sp} (lk:K.lookup f=some ⟨oc,od,.func (aa6 name qual params body scope dV kV doc pm an cdv ct),osl⟩) (hcd:abW K cdv qual=true) (S:aD N ps scope)
   (len:∀vs H Q E,sp vs H Q E->vs.length=ps.length)
   (hbody:∀(A:Around) (outer:List Env) (s:Shared) (H:Hp) (vs:List V) (Q:VK) (E:XK),dt k (A.deeper (envOfC qual scope s.heap.objs.size f cdv))->sp vs H Q E ->
     ∃t,n8 (hV CX P w K mg base N qual scope f cdv A outer s H E) body t/\t { nx:=fun _ H'=>Q .bN H',rt:=Q } (start N vs) H) :
   aP P w K mg base CX (k + 1) f (aa6 name qual params body scope dV kV doc pm an cdv ct) ps sp:=by
 refine ⟨len,fun A outer s H args us vs Q E hr e0 hb r hsp=>?_⟩
 have hl:=len _ _ _ _ hsp
 have KX:K.In s.heap:=e0.mod.kin.keeps fun b o e=>(e0.bs b o e).1
 have lim:s.heap.NoLimit:=e0.mod.nolimit.keeps fun b o e=>(e0.bs b o e).1
 have LD:∀y∈ps.zip us,scope.names.lookup y.1=some .local\/(scope.names.lookup y.1=some .cell/\((cellsFrom (s.heap.objs.size + 1) scope.names []).lookup y.1).isSome=true):=fun ⟨n,v⟩ hy=>by
   rcases S.par n (abE hy).1 with q | q
   · exact .inl q
   · exact .inr ⟨q,acu _ _ _ (.inl q)⟩
 refine codeAny_call_function hr.depth (KX _ _ lk) rfl S.co S.gen rfl (ad1 KX hcd) (hb _ _ _ _ ?_)
 refine adZ S.kind LD fun env he s1 x=>?_
 subst he
 refine ⟨lim.keeps x.toInCall.keep,codeAny_func ?_⟩
 obtain ⟨t,ht,hq⟩:=hbody A outer s H vs Q E (hr.deeper _) hsp
 have I:Inv (hV CX P w K mg base N qual scope f cdv A outer s H E) [] (start N vs) H s1:=oW S hr.hd e0 hl r x
 refine wpAny_mono (ht [] s1 (start N vs) H _ I hq) (fun fl s' hs=>?_) fun e s' hs=>hs
 have fin:∀{σ':St} {H':Hp} {v:V} {u:Value},Inv (hV CX P w K mg base N qual scope f cdv A outer s H E) [] σ' H' s'->RelV v u->Q v H'->CE outer P w H s Q u s':=
   fun {σ' H' v u} J rv q=>⟨v,H',J.os,J.bare,J.base,J.hok,rv,q⟩
 cases fl with
 | ret u=>
   obtain ⟨v,σ',H',J,rv,q⟩:=hs
   exact fin J rv q
 | next=>
   obtain ⟨σ',H',J,q⟩:=hs
   exact fin (v:=V.bN) (u:=ac5) J rfl q
 | brk=>
   obtain ⟨_,_,_,q⟩:=hs
   exact abq q
 | cont=>
   obtain ⟨_,_,_,q⟩:=hs
   exact abq q
section
variable {X:Cx}{x:Str}{p pos:Pos}{e:Expr}{es:List Expr}{t:TA}{id T:String}{r:List V->Hp->VK->Prop}
def KG (r:List V->Hp->VK->Prop)(t:TA):TE:=fun σ H Q=>t σ H fun vs H1=>r vs H1 Q
theorem BI (hc:dC X (.builtin id) r)(hg:Gl X x)(hm:X.mg x=none)(hv:aa4 x=some (.builtin id))(ha:PA X (e :: es) t)(hn:x≠"__name__":=by decide)(hdb:(x == ("__debug__":Str))=false:=by decide)
   (he:starEach (e :: es) X.env=(false,eval e X.env) :: starEach es X.env:=by rfl) (hpl:(backTo pos (starEach es X.env)).any (·.1)=false:=by rfl):PE X (.Call (.Name x p) (e :: es) [] pos) (KG r t):=by
 intro pins s σ H Q I h
 refine wpAny_Call_Name_kw (eQ I hg hm hv ?_ hn hdb)
 exact PyProof.Rows.callWith_builtin1 (bt (ha pos pins s σ H _ I h) fun us s1 ⟨vs,H1,I1,r1,q1⟩=>hc pins s1 σ H1 vs us Q I1 r1 q1) he hpl
theorem y7 (hc:dC X (.type T) r)(hg:Gl X x)(hm:X.mg x=none)(hv:aa4 x=some (.type T))(ha:PA X (e :: es) t)(hn:x≠"__name__":=by decide)(hdb:(x == ("__debug__":Str))=false:=by decide)
   (he:starEach (e :: es) X.env=(false,eval e X.env) :: starEach es X.env:=by rfl) (hpl:(backTo pos (starEach es X.env)).any (·.1)=false:=by rfl):PE X (.Call (.Name x p) (e :: es) [] pos) (KG r t):=by
 intro pins s σ H Q I h
 refine wpAny_Call_Name_kw (eQ I hg hm hv ?_ hn hdb)
 exact aaQ (bt (ha pos pins s σ H _ I h) fun us s1 ⟨vs,H1,I1,r1,q1⟩=>hc pins s1 σ H1 vs us Q I1 r1 q1) he hpl
end
end L2
namespace HT
open PySem PyProof.Rows
section
variable {prog:Program}{w:World}{A:Around}{E:Value->Shared->Prop}{s:Shared}
def cM (n d:Nat):Option Int->Nat
 | none=>d
 | some v=>if v < 0 then (v + (n:Int)).toNat else min v.toNat n
theorem sT (n d:Nat):cM n d none=d:=rfl
theorem eL (n d k:Nat):cM n d (some (k:Int))=min k n:=by
 show (if (k:Int) < 0 then ((k:Int) + (n:Int)).toNat else min (k:Int).toNat n)=min k n
 rw [if_neg (by omega),aa5]
theorem JP (n d:Nat)(hd:d<=n)(o:Option Int):cM n d o<=n:=by
 cases o with
 | none=>exact hd
 | some v=>
   show (if v < 0 then (v + (n:Int)).toNat else min v.toNat n)<=n
   by_cases hv:v < 0
   · rw [if_pos hv]; omega
   · rw [if_neg hv]; exact Nat.min_le_right _ _
theorem wc (v:Int)(n d:Nat):(if v < 0 then max (v + (n:Int)) 0 else min v (n:Int))=((cM n d (some v):Nat):Int):=by
 show (if v < 0 then max (v + (n:Int)) 0 else min v (n:Int))=(((if v < 0 then (v + (n:Int)).toNat else min v.toNat n):Nat):Int)
 by_cases hv:v < 0
 · simp only [if_pos hv]; omega
 · simp only [if_neg hv]; omega
theorem tS (lo hi:Option Int)(n:Nat):ab4 lo hi 1 (n:Int)=(((cM n 0 lo:Nat):Int),((cM n n hi:Nat):Int)):=by
 have h1:¬ ((1:Int) < 0):=by omega
 unfold ab4
 simp only [h1,if_false]
 refine Prod.ext ?_ ?_
 · cases lo with
   | none=>rfl
   | some v=>exact wc v n 0
 · cases hi with
   | none=>rfl
   | some v=>exact wc v n n
theorem vm (i j:Nat):abC (i:Int) (j:Int) 1=j - i:=by
 unfold abC
 have h1:(1:Int) > 0:=by omega
 simp only [h1,if_true,aef]
 split <;> omega
theorem nO {v:Value}{o:Option Int}{Q:Option Int->Shared->Prop}(p:IsPart v o)(h:Q o s):wpAny (model prog w) A (Builtin.Slice.slicePartIndex v) Q E s:=by
 cases p with
 | none=>exact slicePart_none h
 | int i t=>exact slicePart_int h
theorem kQ {sl:Addr}{vl vu:Value}{lo hi:Option Int}{n:Nat}{Q:Int×Int×Nat->Shared->Prop}(hs:s.heap.IsSliceOf sl vl vu .none)(pl:IsPart vl lo)(pu:IsPart vu hi)
   (h:Q (((cM n 0 lo:Nat):Int),1,cM n n hi - cM n 0 lo) s):wpAny (model prog w) A (acT (.ref sl) (pure (n:Int))) Q E s:=by
 obtain ⟨os,LM,Ts,N5⟩:=id hs
 unfold acT Builtin.Slice.sliceFields
 refine wpAny_bind (wpAny_bind (wpAny_field LM N5 (x:=vl) rfl (wpAny_bind (wpAny_field LM N5 (x:=vu) rfl (wpAny_bind (wpAny_field LM N5 (x:=.none) rfl (wpAny_pure ?_)))))))
 refine wpAny_bind (slicePart_none ?_)
 show wpAny _ _ (if ((1:Int) == 0)=true then _ else _) _ _ s
 rw [if_neg (by decide)]
 refine wpAny_bind (nO pl (wpAny_bind (nO pu (wpAny_bind (wpAny_pure ?_)))))
 show wpAny _ _ (match ab4 lo hi 1 (n:Int) with | (lo,hi)=>pure (lo,(1:Int),abC lo hi 1)) _ _ s
 rw [tS lo hi n]
 show wpAny _ _ (pure (((cM n 0 lo:Nat):Int),(1:Int),abC ((cM n 0 lo:Nat):Int) ((cM n n hi:Nat):Int) 1)) _ _ s
 rw [vm]
 exact wpAny_pure h
theorem BR (xs:Array Value)(i k:Nat):((aaM k).filterMap fun (m:Nat)=>xs[((i:Int) + (m:Int) * 1).toNat]?).toArray=((xs.toList.drop i).take k).toArray:=by
 have e:(fun (m:Nat)=>xs[((i:Int) + (m:Int) * 1).toNat]?)=fun m=>xs[i + m]?:=by
   funext m
   have:((i:Int) + (m:Int) * 1).toNat=i + m:=by omega
   rw [this]
 rw [e]
 have:=pick_run xs i k
 rw [ac3] at this
 have e2:((fun x=>xs[x]?) ∘ fun x=>i + x)=fun m=>xs[i + m]?:=rfl
 rw [e2] at this
 rw [this]
theorem jw {t sl:Addr}{items:Array Value}{vl vu:Value}{lo hi:Option Int}{Q:Value->Shared->Prop}(ht:IsTup s.heap t items)(hs:s.heap.IsSliceOf sl vl vu .none)(pl:IsPart vl lo)(pu:IsPart vu hi)
   (hw:¬ (cM items.size 0 lo=0/\cM items.size items.size hi=items.size))
   (h:Q (.ref s.heap.objs.size) { s with heap:=s.heap.push { cls:=.type "tuple",data:=.seq ((items.toList.drop (cM items.size 0 lo)).take (cM items.size items.size hi - cM items.size 0 lo)).toArray } })
   (hsz:items.size<=sizeLine):wpAny (model prog w) A (getItem (.ref t) (.ref sl)) Q E s:=by
 have wD:sizeOk (.seq ((items.toList.drop (cM items.size 0 lo)).take (cM items.size items.size hi - cM items.size 0 lo)).toArray):=by
   show ((items.toList.drop (cM items.size 0 lo)).take (cM items.size items.size hi - cM items.size 0 lo)).toArray.size<=sizeLine
   rw [aam,aaw,abk,abx]
   omega
 have hj:cM items.size items.size hi<=items.size:=JP _ _ (aaf _) hi
 obtain ⟨os,LM,Ts,N5⟩:=id hs
 have WM:s.TypeIs (.ref sl) "slice":=⟨os,LM,Ts⟩
 unfold getItem
 try with_reducible refine wpAny_holding ?_
 first | refine wpAny_bind (wpAny_pure ?_) | skip
 refine wpAny_bind (wpAny_sequenceKey ht.typeIs (by decide) ?_)
 refine wpAny_bind (aa0 (name:=abh "__getitem__") ht.typeIs acE
   (wpAny_call_entry acE ht.typeIs entry_tuple_getitem ?_ (args_tuple_getitem _ _)))
 show wpAny _ _ (acS (.ref t) >>= _) _ _ s
 refine wpAny_bind (tupleItemsOf_ ht ?_)
 refine wpAny_bind (wpAny_typeOf WM ?_)
 rw [if_pos (by decide)]
 refine wpAny_bind (kQ hs pl pu ?_)
 have zB:¬ ((((cM items.size 0 lo:Nat):Int) == 0 && (1:Int) == 1 && (cM items.size items.size hi - cM items.size 0 lo) == items.size)=true):=by
   intro q
   rw [aaZ,aaZ] at q
   have q1:((cM items.size 0 lo:Nat):Int)=0:=eq_of_beq q.1.1
   have q2:cM items.size items.size hi - cM items.size 0 lo=items.size:=eq_of_beq q.2
   exact hw ⟨by omega,by omega⟩
 show wpAny _ _ (if (((cM items.size 0 lo:Nat):Int) == 0 && (1:Int) == 1 && (cM items.size items.size hi - cM items.size 0 lo) == items.size)=true then _ else _) _ _ s
 rw [if_neg zB,BR]
 first
   | exact wpAny_bind (m:=abF _) (wpAny_newObj_type (wpAny_pure ⟨_,rfl,wpAny_pure h⟩) wD)
   | exact wpAny_bind (m:=abF _) (wpAny_newObj_type (wpAny_bind (wpAny_pure (wpAny_pure ⟨_,rfl,wpAny_pure h⟩))) wD)
   | exact wpAny_bind (wpAny_bind (m:=abF _) (wpAny_newObj_type (wpAny_pure (wpAny_pure ⟨_,rfl,wpAny_pure h⟩)) wD))
   | exact wpAny_bind (wpAny_bind (m:=abF _) (wpAny_newObj_type (wpAny_pure ⟨_,rfl,wpAny_pure h⟩) wD))
end
end HT
namespace L2
open PySem PySem.Spec PyProof.Rows
abbrev TO:=St->Hp->(Option Int->Hp->Prop)->Prop
def PO (X:Cx)(e:Option Expr)(t:TO):Prop:=
 ∀(pins:List (Addr×Obj)) (s:Shared) (σ:St) (H:Hp) (Q:Option Int->Hp->Prop),Inv X pins σ H s->t σ H Q ->
   wpAny (model X.prog X.w) X.A (evalPart e X.env) (fun u s'=>∃o H',Inv X pins σ H' s'/\IsPart u o/\Q o H') X.xe s
def mq:TO:=fun _ H Q=>Q none H
def pH (t:TE):TO:=fun σ H Q=>t σ H fun x H1=>∃i,x=.int i/\Q (some i) H1
section
variable {X:Cx}{e:Expr}{te:TE}{lo hi:Option Expr}{tl th:TO}{pos p2:Pos}
theorem qg:PO X none mq:=by
 intro pins s σ H Q I h
 rw [adm]
 exact wpAny_pure ⟨none,H,I,.none,h⟩
theorem jM (h:PE X e te):PO X (some e) (pH te):=by
 intro pins s σ H Q I hw
 rw [evalPart_some]
 refine bt (h pins s σ H _ I hw) fun u s1 ⟨x,H1,I1,r1,q1⟩=>?_
 obtain ⟨i,rfl,q⟩:=q1
 obtain ⟨t,rfl⟩:=r1
 exact ⟨some i,H1,I1,.int i t,q⟩
def OQ (X:Cx)(r:V->Option Int->Option Int->Hp->VK->Prop):Prop:=
 ∀(pins:List (Addr×Obj)) (s:Shared) (σ:St) (H:Hp) (x:V) (v vl vu:Value) (lo hi:Option Int) (sl:Addr) (Q:VK),Inv X pins σ H s->RelV x v->s.heap.IsSliceOf sl vl vu .none->IsPart vl lo->IsPart vu hi->r x lo hi H Q ->
   ∃T id,adu (.type T) "__getitem__"=pure (some (.builtin id))/\s.TypeIs v T/\wpAny (model X.prog X.w) X.A (getItem v (.ref sl)) (EP X pins σ Q) X.xe s
def Nq (r:V->Option Int->Option Int->Hp->VK->Prop)(te:TE)(tl th:TO):TE:=fun σ H Q=>te σ H fun x H1=>tl σ H1 fun l H2=>th σ H2 fun u H3=>r x l u H3 Q
theorem jL {r:V->Option Int->Option Int->Hp->VK->Prop}(hr:OQ X r)(he:PE X e te)(hl:PO X lo tl)(hu:PO X hi th):PE X (.Subscript e (.Slice lo hi none p2) pos) (Nq r te tl th):=by
 intro pins s σ H Q I h
 refine adv (bt (he pins s σ H _ I h) fun v s1 ⟨x,H1,I1,r1,q1⟩=>?_)
 refine wpAny_Slice (bt (hl pins s1 σ H1 _ I1 q1) fun vl s2 ⟨l,H2,I2,pl,q2⟩=>bt (hu pins s2 σ H2 _ I2 q2) fun vu s3 ⟨u,H3,I3,pu,q3⟩=>?_)
 rw [adm]
 refine wpAny_pure ?_
 have I4:Inv X pins σ H3 { s3 with heap:=s3.heap.push { cls:=.type "slice",data:=.fields #[vl,vu,.none] } }:=I3.kept (t':=s3.toks) fun b ob q=>aag _ q
 obtain ⟨T,id,hT,ht,hg⟩:=hr pins { s3 with heap:=s3.heap.push { cls:=.type "slice",data:=.fields #[vl,vu,.none] } } σ H3 x v vl vu l u s3.heap.objs.size Q I4 r1 (acw ..) pl pu q3
 show wpAny (model X.prog X.w) X.A (subscriptTail e (.Slice lo hi none p2) v (.ref s3.heap.objs.size)) (EP X pins σ Q) X.xe { s3 with heap:=s3.heap.push { cls:=.type "slice",data:=.fields #[vl,vu,.none] } }
 exact tail_any (ops:=[.ref s3.heap.objs.size,v]) ht hT hg (by with_unfolding_all rfl)
def km (xs:List V)(lo hi:Option Int):List V:=(xs.drop (HT.cM xs.length 0 lo)).take (HT.cM xs.length xs.length hi - HT.cM xs.length 0 lo)
theorem kY (xs:List V)(lo hi:Option Int):(km xs lo hi).length<=xs.length:=by
 unfold km
 rw [aaw,abk]
 omega
def MP (K:aac):V->Option Int->Option Int->Hp->VK->Prop:=fun x lo hi H Q=>∃a xs,x=.ref a/\aK K H a xs /\
 ¬ (HT.cM xs.length 0 lo=0/\HT.cM xs.length xs.length hi=xs.length)/\∀p,H p=none->Q (.ref p) (upd H p (.tup (km xs lo hi)))
theorem JV:OQ X (MP X.K):=by
 intro pins s σ H x v vl vu lo hi sl Q I rx hs pl pu h
 obtain ⟨a,xs,rfl,hx,hw,q⟩:=h
 cases rx
 obtain ⟨its,r,ht,hz⟩:=I.tuple hx
 have hlen:its.toArray.size=xs.length:=by rw [aam]; exact r.length.symm
 refine ⟨"tuple",_,PyProof.Rows.slot_tuple_getitem.lookup,ht.typeIs,?_⟩
 refine HT.jw ht hs pl pu (by rw [hlen]; exact hw) ?_ (by rw [hlen]; exact hz)
 rw [hlen]
 refine ⟨.ref s.heap.objs.size,_,I.laid (t':=s.toks) (o:=.tup (km xs lo hi)) (fun b ob q=>aag _ q) (aaf _) ?_,rfl,q _ (I.hok.fresh (aaf _))⟩
 exact ⟨aak (kY xs lo hi) hz,_,(r.drop (HT.cM xs.length 0 lo)).take (HT.cM xs.length xs.length hi - HT.cM xs.length 0 lo),IsTup.new _ _⟩
end
def Bc (n:Nat)(i:Int):Option Nat:=if 0<=i then (if i < n then some i.toNat else none) else if -(n:Int)<=i then some (i + n).toNat else none
def lU {α:Type}(xs:List α)(i:Int):Option α:=(Bc xs.length i).bind fun j=>xs[j]?
theorem qa {n:Nat}{i:Int}{j:Nat}(h:Bc n i=some j):seqIndex? i n=some j/\j < n /\ -(n:Int)<=i/\i < n:=by
 unfold Bc at h
 by_cases h0:0<=i
 · rw [if_pos h0] at h
   by_cases h1:i < n
   · rw [if_pos h1] at h
     have e:i.toNat=j:=aaB h
     exact ⟨by rw [seqIndex_of h0 h1,e],by omega,by omega,h1⟩
   · rw [if_neg h1] at h; cases h
 · rw [if_neg h0] at h
   by_cases h1 : -(n:Int)<=i
   · rw [if_pos h1] at h
     have e:(i + n).toNat=j:=aaB h
     exact ⟨by rw [seqIndex_neg (by omega) h1,e],by omega,h1,by omega⟩
   · rw [if_neg h1] at h; cases h
theorem cG {α:Type}{xs:List α}{i:Int}{v:α}(h:lU xs i=some v):∃j,seqIndex? i xs.length=some j/\xs[j]? = some v/\j < xs.length /\ -(xs.length:Int)<=i/\i < xs.length:=by
 unfold lU at h
 cases e:Bc xs.length i with
 | none=>rw [e] at h; cases h
 | some j=>
   rw [e] at h
   obtain ⟨h1,h2,h3,h4⟩:=qa e
   exact ⟨j,h1,h,h2,h3,h4⟩
theorem gP {α:Type}{xs:List α}{j:Nat}{v:α}(h:xs[j]? = some v):lU xs (j:Int)=some v:=by
 have hj:j < xs.length:=(List.getElem?_eq_some_iff.mp h).1
 have e:Bc xs.length (j:Int)=some j:=by
   unfold Bc
   rw [if_pos (by omega),if_pos (by omega)]; simp
 unfold lU; rw [e]; exact h
def vY (b:Expr):Prop:=∀o i,subscripted b false o i=operate [o,i] (getItem o i)
def NF (X:Cx)(r:R2):Prop:=
 ∀(value slice:Expr) (pins:List (Addr×Obj)) (s:Shared) (σ:St) (H:Hp) (x y:V) (v u:Value) (Q:VK),Inv X pins σ H s->RelV x v->RelV y u->r x y H Q ->
   subscripted slice false v u=operate [v,u] (getItem v u)->wpAny (model X.prog X.w) X.A (subscriptTail value slice v u) (EP X pins σ Q) X.xe s
def NH (X:Cx)(id:String)(r:V->List V->Hp->VK->Prop):Prop:=
 ∀(pins:List (Addr×Obj)) (s:Shared) (σ:St) (H:Hp) (x:V) (xs:List V) (v:Value) (us:List Value) (Q:VK),Inv X pins σ H s->RelV x v->Vals xs us->r x xs H Q ->
   wpAny (model X.prog X.w) X.A (call (.builtin id) (v :: us)) (EP X pins σ Q) X.xe s
section
variable {X:Cx}{a b:Expr}{ta tb:TE}{pos:Pos}
theorem My {r:R2}(hr:NF X r)(ha:PE X a ta)(hb:PE X b tb)(hs:vY b):PE X (.Subscript a b pos) (GL r ta tb):=by
 intro pins s σ H Q I h
 exact adv (G7 ha hb I h fun v u s2 x y H2 I2 rx ry q=>hr a b pins s2 σ H2 x y v u Q I2 rx ry q (hs _ _))
def MM (K:aac):R2:=fun x y H Q=>∃p xs i v,x=.ref p/\y=.int i/\ao K H p xs/\lU xs i=some v/\Q v H
def MN (K:aac):R2:=fun x y H Q=>∃p xs i v,x=.ref p/\y=.int i/\aK K H p xs/\lU xs i=some v/\Q v H
theorem Eb:NF X (MM X.K):=by
 intro value slice pins s σ H x y v u Q I rx ry h hs
 obtain ⟨p,xs,i,z,rfl,rfl,hq,he,q⟩:=h
 cases rx
 obtain ⟨t,rfl⟩:=ry
 obtain ⟨its,r,pl,hz⟩:=I.list hq
 obtain ⟨j,h1,h2,h3,h4,h5⟩:=cG he
 obtain ⟨w,ew,rw'⟩:=r.get h2
 have hl:=r.length
 have hn:=nk
 have fin:EP X pins σ Q w s:=⟨z,H,I,rw',q⟩
 by_cases h0:0<=i
 · have hj:i.toNat=j:=by
     rw [seqIndex_of h0 h5] at h1
     exact aaB h1
   exact item_listR pl.isList h0 (by omega) (by rw [hj]; simpa using ew) fin hs
 · have hj:(i + (its.toArray.size:Int)).toNat=j:=by
     rw [seqIndex_neg (by omega) h4] at h1
     rw [aam,← hl]
     exact aaB h1
   exact subscriptTail_builtinR (x:=w) pl.isList.typeIs slot_list_getitem.lookup
     (wpAny_getItem_list_neg (Q:=fun r s'=>r=w/\EP X pins σ Q r s') pl.isList (by omega) (by rw [aam] <;> omega) (by omega) (by rw [hj]; simpa using ew) ⟨rfl,fin⟩) hs
theorem Ii:NF X (MN X.K):=by
 intro value slice pins s σ H x y v u Q I rx ry h hs
 obtain ⟨p,xs,i,z,rfl,rfl,hq,he,q⟩:=h
 cases rx
 obtain ⟨t,rfl⟩:=ry
 obtain ⟨its,r,pl,hz⟩:=I.tuple hq
 obtain ⟨j,h1,h2,h3,h4,h5⟩:=cG he
 obtain ⟨w,ew,rw'⟩:=r.get h2
 have hl:=r.length
 have hn:=nk
 have fin:EP X pins σ Q w s:=⟨z,H,I,rw',q⟩
 exact subscriptTail_builtinR (x:=w) pl.typeIs slot_tuple_getitem.lookup
   (getItem_tuple (j:=j) (Q:=fun r s'=>r=w/\EP X pins σ Q r s') pl (by omega) (by omega) (by rw [aam,← hl]; exact h1) (by simpa using ew) ⟨rfl,fin⟩) hs
theorem uT (its:List Value)(n j:Nat)(u:Value):adb (·.setIfInBounds j u) { cls:=.type "list",data:=.seq its.toArray n }={ cls:=.type "list",data:=.seq (its.set j u).toArray n }:=by
 simp [adb]
theorem Inv.lst {pins:List (Addr×Obj)}{σ:St}{H:Hp}{s:Shared}{p:Addr}{xs:List V}(I:Inv X pins σ H s)(h:H p=some (.lst xs)) :
   ∃(its:List Value) (n:Nat),Vals xs its/\s.heap.get? p=some { cls:=.type "list",data:=.seq its.toArray n }/\xs.length<=sizeLine:=by
 obtain ⟨z,its,n,r,e⟩:=I.hok p _ h
 exact ⟨its,n,r,e,z⟩
theorem Inv.Io {pins:List (Addr×Obj)}{σ:St}{H:Hp}{s:Shared}{p:Addr}{xs ys:List V}{its its':List Value}{n n':Nat}{f:Obj->Obj}(I:Inv X pins σ H s)(h:H p=some (.lst xs))
   (ho:s.heap.get? p=some { cls:=.type "list",data:=.seq its.toArray n }) (hf:f { cls:=.type "list",data:=.seq its.toArray n }={ cls:=.type "list",data:=.seq its'.toArray n' }) (r:Vals ys its') (hz:ys.length<=sizeLine) (t:Nat) :
   Inv X pins σ (upd H p (.lst ys)) { s with heap:=s.heap.update p f,toks:=t }:=by
 have e:(s.heap.update p f).get? p=some { cls:=.type "list",data:=.seq its'.toArray n' }:=by
   rw [acI f ho (by rw [hf] <;> rfl),hf]
 refine I.write (x:=p) (e:=p) (by rw [h]; trivial) (.inl rfl) (fun b u hb q=>(adW _ _ (Ne.symm hb)).trans q) ⟨_,e⟩ ?_
 exact ⟨hz,its',n',r,e⟩
def Gr:V->V->V->Hp->(Hp->Prop)->Prop:=fun o i v H Q=>∃p xs k j,o=.ref p/\i=.int k/\H p=some (.lst xs)/\Bc xs.length k=some j/\Q (upd H p (.lst (xs.set j v)))
theorem set_list:KS X Gr:=by
 intro pins s σ H o i v ov iv u Q I ro ri rv h
 obtain ⟨p,xs,k,j,rfl,rfl,hp,hj,q⟩:=h
 cases ro
 obtain ⟨t,rfl⟩:=ri
 obtain ⟨its,n,r,ho,hz⟩:=I.lst hp
 obtain ⟨h1,h2,h3,h4⟩:=qa hj
 have hl:=r.length
 have hn:=nk
 have I':Inv X pins σ (upd H p (.lst (xs.set j v))) { s with heap:=s.heap.update p (adb (·.setIfInBounds j u)) }:=
   I.Io hp ho (uT its n j u) (r.set rv j) (by rw [acb]; exact hz) s.toks
 by_cases h0:0<=k
 · have hk:k.toNat=j:=by
     rw [seqIndex_of h0 h4] at h1
     exact aaB h1
   exact PySem.W.ki_setAt ho h0 (by omega) (by rw [aam,← hl]; exact h4) (by rw [hk]; exact ⟨_,I',q⟩)
 · have hk:(k + (its.toArray.size:Int)).toNat=j:=by
     rw [seqIndex_neg (by omega) h3] at h1
     rw [aam,← hl]
     exact aaB h1
   exact PySem.W.ki_setBack ho (by omega) (by rw [aam,← hl]; exact h3) (by omega) (by rw [hk]; exact ⟨_,I',q⟩)
theorem qo (lo hi:Option Int)(n:Nat):(sliceBounds lo hi none n).1=((HT.cM n 0 lo:Nat):Int)/\(sliceBounds lo hi none n).2.1=((HT.cM n n hi:Nat):Int)/\(sliceBounds lo hi none n).2.2=1:=by
 refine ⟨?_,?_,rfl⟩
 · cases lo with
   | none=>simp [sliceBounds,HT.cM]
   | some i=>
     simp only [sliceBounds,HT.cM,Option.getD_none,show (1:Int) > 0 by decide,if_true]
     by_cases h:i < 0
     · simp only [h,if_true] <;> omega
     · simp only [h,if_false] <;> omega
 · cases hi with
   | none=>simp [sliceBounds,HT.cM]
   | some i=>
     simp only [sliceBounds,HT.cM,Option.getD_none,show (1:Int) > 0 by decide,if_true]
     by_cases h:i < 0
     · simp only [h,if_true] <;> omega
     · simp only [h,if_false] <;> omega
theorem oG (its:List Value)(lo hi:Option Int):acU its.toArray lo hi none=((its.drop (HT.cM its.length 0 lo)).take (HT.cM its.length its.length hi - HT.cM its.length 0 lo)).toArray:=by
 obtain ⟨h1,h2,h3⟩:=qo lo hi its.toArray.size
 unfold acU
 rw [h1,h2,h3]
 simp only [sliceRange_one,pick_run,aam] <;> rfl
def Fc (K:aac):V->Option Int->Option Int->Hp->VK->Prop:=fun x lo hi H Q=>∃a xs,x=.ref a/\ao K H a xs/\∀p,H p=none->Q (.ref p) (upd H p (.lst (km xs lo hi)))
theorem qm:OQ X (Fc X.K):=by
 intro pins s σ H x v vl vu lo hi sl Q I rx hs pl pu h
 obtain ⟨a,xs,rfl,hx,q⟩:=h
 cases rx
 obtain ⟨its,r,ht,hz⟩:=I.list hx
 have hlen:=r.length
 refine ⟨"list",_,slot_list_getitem.lookup,ht.isList.typeIs,?_⟩
 refine acD ht.isList hs pl pu .none (by simp) ?_ (by rw [aam] <;> omega)
 rw [oG,← hlen]
 refine ⟨.ref s.heap.objs.size,_,I.laid (t':=s.toks) (o:=.lst (km xs lo hi)) (fun b ob q=>aag _ q) (aaf _) ?_,rfl,q _ (I.hok.fresh (aaf _))⟩
 exact ⟨aak (kY xs lo hi) hz,_,0,(r.drop (HT.cM xs.length 0 lo)).take (HT.cM xs.length xs.length hi - HT.cM xs.length 0 lo),aaE _ rfl⟩
def cp:V->Bool
 | .bN=>true
 | .bl _=>true
 | .int _=>true
 | .str _=>true
 | _=>false
def ko:V->V->Bool
 | .bN,.bN=>true
 | .bl a,.bl b=>a == b
 | .bl a,.int b=>(if a then 1 else 0) == b
 | .int a,.bl b=>a == (if b then 1 else 0)
 | .int a,.int b=>a == b
 | .str a,.str b=>a == b
 | _,_=>false
theorem t9 {A:Around}{s:Shared}{y x:V}{u v:Value}(ry:RelV y u)(rx:RelV x v)(fy:cp y=true)(fx:cp x=true):SeqAt.EqAt A s u v (ko y x):=by
 cases y with
 | bN=>
   cases ry
   cases x with
   | bN=>cases rx; exact SeqAt.EqAt.same _
   | bl b=>cases rx; exact SeqAt.EqAt.none_bool b
   | int b=>obtain ⟨t,rfl⟩:=rx; exact SeqAt.EqAt.none_int b t
   | str b=>obtain ⟨t,rfl⟩:=rx; exact SeqAt.EqAt.none_str b t
   | _=>exact absurd (show false=true from fx) aas
 | bl a=>
   cases ry
   cases x with
   | bN=>cases rx; exact SeqAt.EqAt.bool_none a
   | bl b=>cases rx; exact SeqAt.EqAt.bool_bool a b
   | int b=>obtain ⟨t,rfl⟩:=rx; exact SeqAt.EqAt.bool_int a b t
   | str b=>obtain ⟨t,rfl⟩:=rx; exact SeqAt.EqAt.bool_str a b t
   | _=>exact absurd (show false=true from fx) aas
 | int a=>
   obtain ⟨t',rfl⟩:=ry
   cases x with
   | bN=>cases rx; exact SeqAt.EqAt.int_none a t'
   | bl b=>cases rx; exact SeqAt.EqAt.int_bool a t' b
   | int b=>obtain ⟨t,rfl⟩:=rx; exact SeqAt.EqAt.int_int a t' b t
   | str b=>obtain ⟨t,rfl⟩:=rx; exact adK a t' b t
   | _=>exact absurd (show false=true from fx) aas
 | str a=>
   obtain ⟨t',rfl⟩:=ry
   cases x with
   | bN=>cases rx; exact SeqAt.EqAt.str_none a t'
   | bl b=>cases rx; exact SeqAt.EqAt.str_bool a t' b
   | int b=>obtain ⟨t,rfl⟩:=rx; exact adJ a t' b t
   | str b=>obtain ⟨t,rfl⟩:=rx; exact SeqAt.EqAt.str_str a t' b t
   | _=>exact absurd (show false=true from fx) aas
 | _=>exact absurd (show false=true from fy) aas
def ua (x:V)(u:Value):Bool:=match u with
 | .none=>ko .bN x
 | .bool b=>ko (.bl b) x
 | .int i _=>ko (.int i) x
 | .str z _=>ko (.str z) x
 | _=>false
theorem Ab {x y:V}{u:Value}(r:RelV y u)(f:cp y=true):ua x u=ko y x:=by
 cases y with
 | bN=>cases r; rfl
 | bl b=>cases r; rfl
 | int i=>obtain ⟨t,rfl⟩:=r; rfl
 | str z=>obtain ⟨t,rfl⟩:=r; rfl
 | _=>exact absurd (show false=true from f) aas
theorem jf {x:V}:∀{xs:List V} {us:List Value},Vals xs us->xs.all cp=true->us.any (ua x)=xs.any fun y=>ko y x
 | _,_,.nil,_=>rfl
 | y :: xs,u :: us,.cons r t,f=>by
   rw [ac4,aaZ] at f
   rw [abI,abI,Ab r f.1,jf t f.2]
theorem gw {A:Around}{s:Shared}{x:V}{v:Value}(rx:RelV x v)(fx:cp x=true):∀{xs:List V} {us:List Value},Vals xs us->xs.all cp=true->∀u∈us,SeqAt.EqAt A s u v (ua x u)
 | _,_,.nil,_=>fun u hu=>by cases hu
 | y :: xs,u :: us,.cons r t,f=>fun u' hu=>by
   rw [ac4,aaZ] at f
   rcases List.mem_cons.mp hu with rfl | hu
   · rw [Ab r f.1]; exact t9 r rx f.1 fx
   · exact gw rx fx t f.2 u' hu
def zC (x:V)(xs:List V):Bool:=xs.any fun y=>ko y x
def Om (K:aac)(neg:Bool):R2:=fun x y H Q=>∃p xs,y=.ref p/\(ao K H p xs\/aK K H p xs)/\cp x=true/\xs.all cp=true/\Q (.bl (if neg then !zC x xs else zC x xs)) H
theorem yY:hU X (compareOp .In) (Om X.K false):=by
 intro pins s σ H x y v u Q I rx ry h
 obtain ⟨p,xs,rfl,hq,fx,fs,q⟩:=h
 cases ry
 rcases hq with hq | hq
 · obtain ⟨its,r,pl,hz⟩:=I.list hq
   refine SeqAt.in_listAt (ua x) pl.isList (fun w hw=>gw rx fx r fs w (by simpa using hw)) ⟨.bl _,H,I,rfl,?_⟩
   rw [show its.toArray.any (ua x)=its.any (ua x) by simp,jf r fs]
   exact q
 · obtain ⟨its,r,pl,hz⟩:=I.tuple hq
   refine SeqAt.in_tupleAt (ua x) pl (fun w hw=>gw rx fx r fs w (by simpa using hw)) ⟨.bl _,H,I,rfl,?_⟩
   rw [show its.toArray.any (ua x)=its.any (ua x) by simp,jf r fs]
   exact q
theorem qe:hU X (compareOp .NotIn) (Om X.K true):=by
 intro pins s σ H x y v u Q I rx ry h
 obtain ⟨p,xs,rfl,hq,fx,fs,q⟩:=h
 cases ry
 rcases hq with hq | hq
 · obtain ⟨its,r,pl,hz⟩:=I.list hq
   refine SeqAt.notIn_listAt (ua x) pl.isList (fun w hw=>gw rx fx r fs w (by simpa using hw)) ⟨.bl _,H,I,rfl,?_⟩
   rw [show its.toArray.any (ua x)=its.any (ua x) by simp,jf r fs]
   exact q
 · obtain ⟨its,r,pl,hz⟩:=I.tuple hq
   refine SeqAt.notIn_tupleAt (ua x) pl (fun w hw=>gw rx fx r fs w (by simpa using hw)) ⟨.bl _,H,I,rfl,?_⟩
   rw [show its.toArray.any (ua x)=its.any (ua x) by simp,jf r fs]
   exact q
theorem pO:dC X (.builtin "len") (fun xs H Q=>∃p ys,xs=[.ref p]/\(ao X.K H p ys\/aK X.K H p ys)/\Q (.int ys.length) H):=by
 intro pins s σ H xs us Q I r h
 obtain ⟨p,ys,rfl,hq,q⟩:=h
 obtain ⟨u,rfl,rx⟩:=vals1 r
 cases rx
 have hn:=nk
 rcases hq with hq | hq
 · obtain ⟨its,r',pl,hz⟩:=I.list hq
   have hlen:=r'.length
   exact Calls.call_len_list pl.isList (by simp only [aam] <;> omega) ⟨.int ys.length,H,I.tok _,⟨s.toks + 1,by rw [aam,hlen]⟩,q⟩
 · obtain ⟨its,r',pl,hz⟩:=I.tuple hq
   have hlen:=r'.length
   exact len_tuple pl (by simp only [aam] <;> omega) ⟨.int ys.length,H,I.tok _,⟨s.toks + 1,by rw [aam,hlen]⟩,q⟩
theorem pP:dC X (.type "list") (fun xs H Q=>∃p ys,xs=[.ref p]/\(ao X.K H p ys\/aK X.K H p ys)/\∀l,H l=none->Q (.ref l) (upd H l (.lst ys))):=by
 intro pins s σ H xs us Q I r h
 obtain ⟨p,ys,rfl,hq,q⟩:=h
 obtain ⟨u,rfl,rx⟩:=vals1 r
 cases rx
 have fin:∀(its:List Value),Vals ys its->ys.length<=sizeLine->∀(h':Heap) (c':Nat),(∀b o',s.heap.get? b=some o'->h'.get? b=some o') ->
     h'.get? s.heap.objs.size=some { cls:=.type "list",dict:=none,data:=.seq its.toArray c',slots:=#[] }->EP X pins σ Q (.ref s.heap.objs.size) { s with heap:=h' }:=fun its r' hz h' c' kp e=>
   ⟨.ref s.heap.objs.size,_,I.laid (t':=s.toks) kp (aaf _) (show bp X.prog X.w _ h' _ (.lst ys) from ⟨hz,its,c',r',e⟩),rfl,q _ (I.hok.fresh (aaf _))⟩
 rcases hq with hq | hq
 · obtain ⟨its,r',pl,hz⟩:=I.list hq
   have hlen:=r'.length
   obtain ⟨o,ho,hc,n,hd⟩:=pl.isList
   exact call_list_seq p (.inl rfl) ho hc hd (fun h' c' kp e=>fin its r' hz h' c' kp e) (by simp only [aam] <;> omega)
 · obtain ⟨its,r',pl,hz⟩:=I.tuple hq
   have hlen:=r'.length
   obtain ⟨o,ho,hc,n,hd⟩:=pl
   exact call_list_seq p (.inr rfl) ho hc hd (fun h' c' kp e=>fin its r' hz h' c' kp e) (by simp only [aam] <;> omega)
theorem om:dC X (.type "tuple") (fun xs H Q=>∃p ys,xs=[.ref p]/\((ao X.K H p ys/\∀l,H l=none->Q (.ref l) (upd H l (.tup ys)))\/(aK X.K H p ys/\Q (.ref p) H))):=by
 intro pins s σ H xs us Q I r h
 obtain ⟨p,ys,rfl,h⟩:=h
 obtain ⟨u,rfl,rx⟩:=vals1 r
 cases rx
 rcases h with ⟨hq,q⟩ | ⟨hq,q⟩
 · obtain ⟨its,r',pl,hz⟩:=I.list hq
   have hlen:=r'.length
   refine call_tuple_list pl.isList (fun h' kp=>?_) (by simp only [aam] <;> omega)
   have I1:Inv X pins σ H { s with heap:=h' }:=I.kept (t':=s.toks) kp
   have I2:Inv X pins σ (upd H h'.objs.size (.tup ys)) { s with heap:=h'.push { cls:=.type "tuple",data:=.seq its.toArray } }:=
     I1.laid (t':=s.toks) (fun b o e=>aag _ e) (aaf _) (show bp X.prog X.w _ _ _ (.tup ys) from ⟨hz,its,r',IsTup.new _ _⟩)
   exact ⟨.ref h'.objs.size,_,I2,rfl,q _ (I1.hok.fresh (aaf _))⟩
 · obtain ⟨its,r',pl,hz⟩:=I.tuple hq
   exact call_tuple_same pl ⟨.ref p,H,I,rfl,q⟩
def UT (K:aac)(T:String)(x:V)(H:Hp):Prop:=match x with
 | .str _=>T="str"
 | .int _=>T="int"
 | .ref p=>(T="list"/\∃xs,ao K H p xs)\/(T="tuple"/\∃o,K.lookup p=some o/\o.cls=.type "tuple"/\o.dict=none) \/
     (T="dict"/\((∃kvs,H p=some (.dK kvs))\/∃kvs,H p=some (.dT kvs)))\/(T="set"/\∃S n,H p=some (.set S n))
 | _=>False
theorem J3 {pins:List (Addr×Obj)}{σ:St}{H:Hp}{s:Shared}{T:String}{x:V}{v:Value}(I:Inv X pins σ H s)(r:RelV x v)(ty:UT X.K T x H) :
   s.TypeIs v T/\∀a,v=.ref a->∃ob,s.heap.get? a=some ob/\ob.dict=none:=by
 cases x with
 | str z=>
   obtain ⟨t,rfl⟩:=r
   cases (show T="str" from ty)
   exact ⟨typeIs_str s z t,fun _ e=>nomatch e⟩
 | int i=>
   obtain ⟨t,rfl⟩:=r
   cases (show T="int" from ty)
   exact ⟨typeIs_int s i t,fun _ e=>nomatch e⟩
 | ref p=>
   cases r
   rcases ty with ⟨rfl,xs,hq⟩ | ⟨rfl,o,hk,hc,hd⟩ | ⟨rfl,hk⟩ | ⟨rfl,S,n,hk⟩
   · obtain ⟨its,_,pl,_⟩:=I.list hq
     refine ⟨pl.isList.typeIs,fun a e=>?_⟩
     cases e
     obtain ⟨o,n,e,c,hd,_⟩:=pl
     exact ⟨o,e,hd⟩
   · refine ⟨⟨o,I.lY p o hk,hc⟩,fun a e=>?_⟩
     cases e
     exact ⟨o,I.lY _ o hk,hd⟩
   · have z:∃o,s.heap.get? p=some o/\o.ExactDict:=by
       rcases hk with ⟨kvs,hk⟩ | ⟨kvs,hk⟩
       · obtain ⟨_,_,_,_,o,_,_,e,ex,_⟩:=I.hok p _ hk
         exact ⟨o,e,ex⟩
       · obtain ⟨_,_,_,_,o,_,_,e,ex,_⟩:=I.hok p _ hk
         exact ⟨o,e,ex⟩
     obtain ⟨o,e,ex⟩:=z
     refine ⟨⟨o,e,ex.1⟩,fun a e2=>?_⟩
     cases e2
     exact ⟨o,e,ex.2.1⟩
   · obtain ⟨o,_,_,_,e,ex,_⟩:=I.hok p _ hk
     refine ⟨⟨o,e,ex.1⟩,fun a e2=>?_⟩
     cases e2
     exact ⟨o,e,ex.2.1⟩
 | _=>exact abq ty
def GD (K:aac)(T:String)(r:V->List V->Hp->VK->Prop)(to:TE)(t:TA):TE:=fun σ H Q=>to σ H fun x H1=>UT K T x H1/\t σ H1 fun xs H2=>r x xs H2 Q
variable {o e:Expr}{es:List Expr}{to:TE}{t:TA}{name:Str}{apos cpos:Pos}{T id:String}{r:V->List V->Hp->VK->Prop}
theorem Gn (pa:PlainAttrs T)(slot:Slot T name id)(hty:typeOf (.builtin id)=pure (.type "method_descriptor"))(hm:NH X id r)(ho:PE X o to)(ha:PA X (e :: es) t)
   (hbase:abt o name X.env (eval o X.env)=eval o X.env:=by rfl)
   (hfew:((backTo cpos (starEach (e :: es) X.env)).all (fun x=>!x.1) && (backToKw cpos (keywordEach [] X.env)).all (fun x=>x.1.isSome)
     && decide ((e :: es).length + ([]:List Keyword).length + (if ([]:List Keyword).isEmpty then 0 else 1) < 30))=true:=by rfl)
   (hline:(apos.endLine == cpos.line)=true:=by rfl) (hs:starEach (e :: es) X.env=(false,eval e X.env) :: starEach es X.env:=by rfl) (hplain:(backTo cpos (starEach es X.env)).any (·.1)=false:=by rfl) :
   PE X (.Call (.Attribute o name apos) (e :: es) [] cpos) (GD X.K T r to t):=by
 intro pins s σ H Q I h
 refine wpAny_Call_method_late hbase hfew hline rfl (bt (ho pins s σ H _ I h) fun v s1 ⟨x,H1,I1,r1,ty,q1⟩=>?_)
 obtain ⟨h1,h2⟩:=J3 I1 r1 ty
 refine ⟨T,id,pa,slot,hty,h1,h2,?_⟩
 have hA:=ha cpos pins s1 σ H1 _ I1 q1
 rw [hs] at hA ⊢
 refine acC (by show (false || (backTo cpos (starEach es X.env)).any (·.1))=false; rw [hplain] <;> rfl) (ab6 ?_)
 exact bt hA fun us s2 ⟨vs,H2,I2,r2,q2⟩=>hm pins s2 σ H2 x vs v us Q I2 r1 r2 q2
end
def NG (X:Cx)(id:String)(r:V->List V->Hp->VK->Prop):Prop:=
 ∀(pins:List (Addr×Obj)) (s:Shared) (σ:St) (H:Hp) (x:V) (xs:List V) (v:Value) (us:List Value) (Q:VK),Inv X pins σ H s->RelV x v->Vals xs us->r x xs H Q ->
   wpAny (model X.prog X.w) X.A (call (.builtin id) (v :: us)) (EP X pins σ Q) X.xe s
theorem Vals.one:∀{x:V} {us:List Value},Vals [x] us->∃u,us=[u]/\RelV x u
 | _,_,.cons r .nil=>⟨_,rfl,r⟩
theorem Vals.two:∀{x y:V} {us:List Value},Vals [x,y] us->∃u v,us=[u,v]/\RelV x u/\RelV y v
 | _,_,_,.cons r (.cons q .nil)=>⟨_,_,rfl,r,q⟩
theorem Vals.eraseIdx:∀{xs:List V} {us:List Value} (i:Nat),Vals xs us->Vals (xs.eraseIdx i) (us.eraseIdx i)
 | _,_,_,.nil=>.nil
 | _,_,0,.cons _ t=>t
 | _,_,i + 1,.cons r t=>.cons r (Vals.eraseIdx i t)
theorem Vals.reverse {xs:List V}{us:List Value}(h:Vals xs us):Vals xs.reverse us.reverse:=by
 induction h with
 | nil=>exact .nil
 | cons r t ih=>rw [acp,acp]; exact Vals.append ih (.cons r .nil)
theorem Vals.rep {xs:List V}{us:List Value}(h:Vals xs us):∀k:Nat,Vals (aaD k xs).flatten (aaD k us).flatten
 | 0=>.nil
 | k + 1=>by
   rw [abO,abO,acq,acq]
   exact Vals.append h (Vals.rep h k)
theorem oZ {α:Type}:∀(l:List α) (i:Nat),(l.eraseIdx i).length<=l.length
 | [],_=>aaf _
 | _ :: _,0=>Nat.le_succ _
 | _ :: r,i + 1=>Nat.succ_le_succ (oZ r i)
theorem foldl_rep (its:List Value):∀(k:Nat) (acc:List Value),
   List.foldl (fun x1 x2=>x1++x2) acc.toArray (aaD k its.toArray)=(acc++(aaD k its).flatten).toArray
 | 0,acc=>by simp
 | k + 1,acc=>by
   have e:acc.toArray++its.toArray=(acc++its).toArray:=by simp
   have e2:(acc++its)++(aaD k its).flatten=acc++(aaD (k + 1) its).flatten:=by
     rw [abO,acq,acr]
   rw [← e2,← foldl_rep its k (acc++its),← e,abO,List.foldl_cons]
section
variable {X:Cx}{pins:List (Addr×Obj)}{σ:St}{H:Hp}{s:Shared}{l b:Addr}{xs ys zs:List V}
theorem Inv.Eg {its its':List Value}{n:Nat}{f:Array Value->Array Value}{t':Nat}(I:Inv X pins σ H s)(hH:H l=some (.lst xs))
   (e:s.heap.get? l=some { cls:=.type "list",data:=.seq its.toArray n }) (hf:f its.toArray=its'.toArray) (hv:Vals ys its') (hz:ys.length<=sizeLine) :
   Inv X pins σ (upd H l (.lst ys)) { s with heap:=s.heap.update l (adb f),toks:=t' }:=by
 have q:=PySem.IsL.update e f
 rw [hf] at q
 refine I.write (x:=l) (e:=l) (by rw [hH]; exact trivial) (.inl rfl) (fun b' u hb hu=>(adW s.heap (adb f) (Ne.symm hb)).trans hu) ⟨_,q⟩ ?_
 exact ⟨hz,its',_,hv,q⟩
theorem Inv.Ma {its:List Value}{t':Nat}(I:Inv X pins σ H s)(hv:Vals ys its)(hz:ys.length<=sizeLine) :
   Inv X pins σ (upd H s.heap.objs.size (.lst ys)) { s with heap:=s.heap.push { cls:=.type "list",data:=.seq its.toArray },toks:=t' }:=
 I.laid (fun _ _ q=>aag _ q) (aaf _) ⟨hz,its,0,hv,aaE _ rfl⟩
theorem Inv.fresh (I:Inv X pins σ H s):H s.heap.objs.size=none:=I.hok.fresh (aaf _)
theorem Inv.rW (I:Inv X pins σ H s)(hH:H l=some (.lst xs)):xs.length<=sizeLine/\∃(its:List Value) (n:Nat),Vals xs its/\xs.length=its.length/\s.heap.get? l=some { cls:=.type "list",data:=.seq its.toArray n }:=by
 obtain ⟨z,its,n,r,e⟩:=I.hok l _ hH
 exact ⟨z,its,n,r,r.length,e⟩
theorem sf {n:Nat}(h:n<=sizeLine):abG n=false:=by
 unfold abG
 exact decide_eq_false (by omega)
end
section
variable {X:Cx}
def wU:V->List V->Hp->VK->Prop:=fun x vs H Q=>∃l xs y,x=.ref l/\vs=[y]/\H l=some (.lst xs)/\xs.length < sizeLine/\Q .bN (upd H l (.lst (xs++[y])))
theorem o9:NG X "list.append" wU:=by
 intro pins s σ H x vs v us Q I rx rv h
 obtain ⟨l,xs,y,rfl,rfl,hH,hz,q⟩:=h
 cases rx
 obtain ⟨u,rfl,ru⟩:=rv.one
 obtain ⟨z,its,n,r,hl,e⟩:=I.rW hH
 refine call_meets F.slot_list_append ⟨_,e,rfl⟩ F.entry_list_append (F.args_list_append_2 _ _) (PySem.list_append l its.toArray n u (by rw [aam]; omega)) ⟨e,?_⟩
 refine ⟨.bN,_,I.Eg (its':=its++[u]) hH e (by simp) (r.append (.cons ru .nil)) ?_,rfl,q⟩
 rw [aae,List.length_singleton]
 omega
def wW:V->List V->Hp->VK->Prop:=fun x vs H Q=>∃l b xs zs,x=.ref l/\vs=[.ref b]/\H l=some (.lst xs)/\H b=some (.lst zs)/\xs.length + zs.length<=sizeLine/\Q .bN (upd H l (.lst (xs++zs)))
theorem yI:NG X "list.extend" wW:=by
 intro pins s σ H x vs v us Q I rx rv h
 obtain ⟨l,b,xs,zs,rfl,rfl,hH,hB,hz,q⟩:=h
 cases rx
 obtain ⟨u,rfl,ru⟩:=rv.one
 cases ru
 obtain ⟨z,its,n,r,hl,e⟩:=I.rW hH
 obtain ⟨z2,eY,n2,r2,hl2,e2⟩:=I.rW hB
 have hsz:its.toArray.size + eY.toArray.size<=sizeLine:=by rw [aam,aam]; omega
 have AQ:¬ (!its.toArray.isEmpty && abG (its.toArray.size + eY.toArray.size))=true:=by
   rw [sf hsz,adI]
   exact aas
 refine call_meets F.slot_list_extend ⟨_,e,rfl⟩ F.entry_list_extend (F.args_list_extend_2 _ _)
   (AutoSeq1.list_extend_list_list_0 l its.toArray n b eY.toArray n2 AQ (by rw [aam]; omega) (by omega)) ⟨e,e2,?_⟩
 refine ⟨.bN,_,I.Eg (its':=its++eY) hH e (by simp) (r.append r2) ?_,rfl,q⟩
 rw [aae]
 omega
def B6:V->List V->Hp->VK->Prop:=fun x vs H Q=>∃l xs i k y,x=.ref l/\vs=[.int i]/\H l=some (.lst xs) /\ -(2 ^ 63)<=i/\i < 2 ^ 63/\seqIndex? i xs.length=some k/\xs[k]? = some y/\Q y (upd H l (.lst (xs.eraseIdx k)))
theorem Bg:NG X "list.pop" B6:=by
 intro pins s σ H x vs v us Q I rx rv h
 obtain ⟨l,xs,i,k,y,rfl,rfl,hH,h1,h2,hk,hy,q⟩:=h
 cases rx
 obtain ⟨u,rfl,ru⟩:=rv.one
 obtain ⟨t,rfl⟩:=ru
 obtain ⟨z,its,n,r,hl,e⟩:=I.rW hH
 obtain ⟨w,hw,rw'⟩:=r.get hy
 refine call_meets F.slot_list_pop ⟨_,e,rfl⟩ F.entry_list_pop (F.args_list_pop_2 _ _)
   (MeetsSeq.list_pop_at l its.toArray n i t k w (fitsIndex_both h1 h2) (by rw [aam,← hl]; exact hk) (by rw [← Array.getElem?_toList]; exact hw) (by rw [aam]; omega)) ⟨e,?_⟩
 refine ⟨y,_,I.Eg (its':=its.eraseIdx k) hH e ?_ (r.eraseIdx k) ?_,rw',q⟩
 · show its.toArray.eraseIdxIfInBounds k=(its.eraseIdx k).toArray
   rw [List.eraseIdxIfInBounds_toArray]
 · have:=oZ xs k
   omega
def MK:R2:=fun x y H Q=>∃l b xs zs,x=.ref l/\y=.ref b/\H l=some (.lst xs)/\H b=some (.lst zs)/\xs.length + zs.length<=sizeLine/\∀p,H p=none->Q (.ref p) (upd H p (.lst (xs++zs)))
theorem IT:hU X (binaryOp .Add) MK:=by
 intro pins s σ H x y v u Q I rx ry h
 obtain ⟨l,b,xs,zs,rfl,rfl,hH,hB,hz,q⟩:=h
 cases rx
 cases ry
 obtain ⟨z,its,n,r,hl,e⟩:=I.rW hH
 obtain ⟨z2,eY,n2,r2,hl2,e2⟩:=I.rW hB
 refine PySem.P.add_list e e2 ?_ (by rw [aam,aam]; omega)
 have ea:its.toArray++eY.toArray=(its++eY).toArray:=by simp
 rw [ea]
 exact ⟨.ref _,_,I.Ma (t':=s.toks) (r.append r2) (by rw [aae]; omega),rfl,q _ I.fresh⟩
def MO:R2:=fun x y H Q=>∃l k xs,x=.ref l/\y=.int k/\H l=some (.lst xs) /\ -(2 ^ 63)<=k/\k < 2 ^ 63/\xs.length * k.toNat<=sizeLine /\
 ∀p,H p=none->Q (.ref p) (upd H p (.lst (aaD k.toNat xs).flatten))
theorem len_rep {α:Type}(xs:List α)(k:Nat):(aaD k xs).flatten.length=k * xs.length:=by
 induction k with
 | zero=>simp
 | succ k ih=>rw [abO,acq,aae,ih,adg,Nat.add_comm]
theorem Ja:hU X (binaryOp .Mult) MO:=by
 intro pins s σ H x y v u Q I rx ry h
 obtain ⟨l,k,xs,rfl,rfl,hH,h1,h2,hz,q⟩:=h
 cases rx
 obtain ⟨t,rfl⟩:=ry
 obtain ⟨z,its,n,r,hl,e⟩:=I.rW hH
 have hlen:its.toArray.size * k.toNat<=sizeLine:=by rw [aam,← hl]; exact hz
 have hcap:¬ its.toArray.size * k.toNat > (2 ^ 63 - 1) / 8:=by
   have:(sizeLine:Nat)<=(2 ^ 63 - 1) / 8:=by decide
   omega
 have PL:¬ (!abz k)=true:=by
   rw [fitsIndex_both h1 h2]
   exact aas
 have AQ:¬ abG (its.toArray.size * k.toNat)=true:=by
   rw [sf hlen]
   exact aas
 have rO:List.foldl (fun x1 x2=>x1++x2) #[] (aaD (if its.toArray.isEmpty=true then 0 else k.toNat) its.toArray)=(aaD k.toNat its).flatten.toArray:=by
   have f0:∀m:Nat,List.foldl (fun x1 x2=>x1++x2) #[] (aaD m its.toArray)=(aaD m its).flatten.toArray:=fun m=>by
     have:=foldl_rep its m []
     rw [List.nil_append] at this
     exact this
   rw [f0]
   cases its with
   | nil=>simp
   | cons a r'=>rw [if_neg (by simp)]
 refine wpAny_binaryOp_repeat_ref (T:="list") (U:="int") (by decide) ⟨_,e,rfl⟩ (fun s'=>typeIs_int s' k t) noFill_list_mul F.fills_int_mul F.slot_int_rmul repeat_list F.slot_int_index.lookup
   (call_meets F.slot_int_rmul (typeIs_int s k t) F.entry_int_rmul (F.args_int_rmul_2 _ _) (int___rmul___int_list k t l its.toArray n)
     ⟨e,rfl,⟨_,e,rfl⟩,call_meets F.slot_list_mul ⟨_,e,rfl⟩ F.entry_list_mul (F.args_list_mul_2 _ _) (AutoListH.list___mul___list_int_3 l its.toArray n k t PL hcap AQ) ⟨e,?_⟩⟩)
 rw [rO]
 exact ⟨.ref _,_,I.Ma (t':=s.toks) (r.rep k.toNat) (by rw [len_rep,aec]; exact hz),rfl,q _ I.fresh⟩
end
end L2
namespace R6
open PySem PySem.W PySem.Calls PyProof.Rows
theorem lQ {P:Params}{h:Heap}:∀(ns:List Int) (vs:List Value),WellAll P h vs (ns.map WData.int)->IntsAre vs ns:=by
 intro ns
 induction ns with
 | nil=>
   intro vs w
   rw [List.map_nil] at w
   cases w
   exact .nil
 | cons n ns ih=>
   intro vs w
   rw [aaI] at w
   cases w with
   | cons a b=>
     cases a
     exact .cons _ _ (ih _ b)
theorem zh {l:OpenLaw}{n:Nat}(hn:l.most=some n){P:Params}{h:Heap}{args:List WData}{vals:List Value}
   (hpre:l.row.toRowW.claim.pre args=true) (hwl:WellAll P h vals args) :
   ∃a vs ns,vals=[aax a]/\args=[WData.list (ns.map WData.int)]/\h.get? a=some { cls:=.type "list",data:=.seq vs.toArray }/\IntsAre vs ns/\ns.length<=n:=by
 have F7:WShape.hasAll [] args [.list .int]=true:=(pre_splitW hpre).1
 have hc:l.pre.holds [] { args:=args }=true:=(pre_splitW hpre).2
 obtain ⟨d,r,rfl,h1,h2⟩:=hasAllW_cons F7
 obtain rfl:=hasAllW_nil h2
 obtain ⟨xs,rfl,h3⟩:=hasW_list h1
 obtain ⟨ns,rfl⟩:=items_int h3
 have hlen:ns.length<=n:=by
   unfold OpenLaw.pre at hc
   have h4:(WTm.not (.lt (.lit (.int (n:Int))) (.len (.arg 0)))).holds [] { args:=[.list (ns.map .int)] }=true:=by
     have h4:=(holds_andW hc).1
     rw [hn] at h4
     exact h4
   have h5:=condW_of h4 (w_not (w_lt w_lit (w_len_list (w_arg rfl))))
   rw [aab] at h5
   refine Nat.le_of_not_lt fun q=>?_
   have q':(n:Int) < ((ns.length:Nat):Int):=by omega
   first
     | (rw [decide_eq_true q'] at h5; exact absurd h5 (by decide))
     | (simp at h5; omega)
 cases hwl with
 | cons w1 w2=>
   cases w2
   cases w1 with
   | list ho Pj=>exact ⟨_,_,ns,rfl,rfl,ho,lQ ns _ Pj,hlen⟩
theorem za (l:OpenLaw)(args:List WData):l.row.toRowW.claim.post args (.bool true) args=true:=
 postW_of (r:=l.row.toRowW) (X:=(true == true))
   (show WShape.has [] (.bool true) .bool=true by first | rfl | decide | simp [WShape.has,WShape.arms,WShape.armsAll])
   (show (WTm.eq .res (.lit (.bool true))).value [] { args:=args,res:=some (.bool true),after:=args }=some (.bool (true == true)) from w_eq_bool (w_res rfl) w_lit) rfl
theorem qR {l:OpenLaw}{n:Nat}{q:Program}{loose:List Str}{XP:(Str->Option Value)->Heap->Prop}{YP:World->Heap->Prop}{d:DefRec}
   (hn:l.most=some n) (hdf:d.params.defaults=[])
   (call:∀(w:World) (s₀ s₁:Shared) (mg mb:Str->Option Value) (fa:Addr) (o:Obj) (pm cd doc:Value) (a:Addr) (vs:List Value) (ns:List Int),
     Ground q loose [] XP w s₀ mg mb s₁.heap->YP w s₁.heap ->
     s₁.heap.get? fa=some o->o.data=.func (docDef d.name d.params d.body d.scope pm cd doc)->s₁.heap.CodeRec cd d.name->mg d.name=some (.ref fa) ->
     s₁.heap.get? a=some { cls:=.type "list",data:=.seq vs.toArray }->IntsAre vs ns->ns.length<=n->s₁.gens = #[] ->
     codeAny (model l.prog w) callerA (.call (.ref fa) ⟨[.ref a],[]⟩) (fun r s'=>r=.ok (.ret (.bool true))/\OldK s₁.heap s'.heap/\s'.os=s₁.os/\AllBare s'.gens) s₁) :
   WalkO q loose XP YP l.row.toRowW d [] (fun f vs=>PySem.call f vs):=by
 intro w s₀ s₁ mg mb G Y fa o pm cd doc dV kV ho hd hcd hD hmg hg args vals as hpre Xm TN hwl ZF
 obtain rfl:dV=.none:=Dflts.none hD hdf
 obtain rfl:kV=.none:=Dflts.noKw hD
 obtain ⟨a,vs,ns,rfl,rfl,HY,hints,hlen⟩:=zh hn hpre hwl
 refine enter_call (codeAny_mono (call w s₀ s₁ mg mb fa o pm cd doc a vs ns G Y ho (fd_plain hd) hcd hmg HY hints hlen hg) fun r s' hq=>?_)
 obtain ⟨rfl,h2,h3,h4⟩:=hq
 exact ⟨.inl ⟨.bool true,.bool true,[],rfl,fun _=>rfl,.bool true,za l _,fun _=>⟨List.Pairwise.nil,fun _ hm=>(nomatch hm)⟩⟩,h2,h3,h4⟩
end R6
namespace L2
open PySem PySem.Spec PyProof.Rows
theorem pJ:∀{vs:List Value} {ns:List Int},IntsAre vs ns->Vals (ns.map V.int) vs
 | _,_,.nil=>.nil
 | _,_,.cons n t h=>.cons ⟨t,rfl⟩ (pJ h)
def GW (H:Hp):Prop:=∀b,H b=none\/∃o xs,H b=some (.frz o (.lst xs))
theorem Bd {P:Program}{w:World}{K:aac}{mg mb:Str->Option Value}{CX:vV}{k:Nat}{fa a:Addr}{fd:aao}{x:Str}{sp:Sp}{s₁:Shared}{vs:List Value}{ns:List Int}
   (KX:K.In s₁.heap) (hns:s₁.heap.Ns aa3 mg) (hb:s₁.heap.Ns builtinsNs mb) (hbb:∀x:Str,x≠"__name__"->mb x=aa4 x) (hlim:s₁.heap.NoLimit) (hg:s₁.gens = #[])
   (ha:s₁.heap.get? a=some { cls:=.type "list",data:=.seq vs.toArray }) (hi:IntsAre vs ns) (hl:ns.length<=sizeLine) (hr:dt k callerA)
   (F:∀base:Heap,K.In base->base.Ns aa3 mg->aP P w K mg base CX k fa fd [x] sp) (hbind:∀(s:Shared) (u:Value),BindsTo s fd ⟨[u],[]⟩ [(x,u)])
   (hsp:∀H:Hp,GW H->ao K H a (ns.map V.int)->sp [.ref a] H (fun v _=>v=.bl true) fun _ _ _=>False)
   (hCX:∀H e s',CX [] H s₁ (fun _ _ _=>False) e s'->False) :
   codeAny (model P w) callerA (.call (.ref fa) ⟨[.ref a],[]⟩) (fun r s'=>r=.ok (.ret (.bool true))/\OldK s₁.heap s'.heap/\s'.os=s₁.os/\AllBare s'.gens) s₁:=by
 have rv:=pJ hi
 have Q1:=hi.length
 have core:∀H:Hp,GW H->ao K H a (ns.map V.int)->fV P w H s₁.heap->(∀b,H b≠none->b=a)->(H a≠none->K.lookup a=none) ->
     codeAny (model P w) callerA (.call (.ref fa) ⟨[.ref a],[]⟩) (fun r s'=>r=.ok (.ret (.bool true))/\OldK s₁.heap s'.heap/\s'.os=s₁.os/\AllBare s'.gens) s₁:=by
   intro H hO hS hok hA hK
   have vZ:∀{b:Addr} {o:Obj},s₁.heap.get? b=some o->H b=none->(pX s₁.heap H).get? b=some o:=fun e n=>AM e n
   have noA:∀{b:Addr} {o:Obj} {es:Array DictEntry} {ep:Nat},s₁.heap.get? b=some o->o.data=.dict es ep->H b=none:=fun {b o es ep} e d=>by
     cases q:H b with
     | none=>rfl
     | some u=>
       have e':b=a:=hA b (by rw [q]; simp)
       subst e'
       rw [ha] at e; cases e
       have d':Data.seq vs.toArray _=Data.dict es ep:=d
       cases d'
   have nsK:∀{b:Addr} {m:Str->Option Value},s₁.heap.Ns b m->(pX s₁.heap H).Ns b m:=fun {b m} ⟨o,es,ep,e,d,r⟩=>⟨o,es,ep,vZ e (noA e d),d,r⟩
   have Tj:K.In (pX s₁.heap H):=fun b o e=>vZ (KX b o e) (by
     cases q:H b with
     | none=>rfl
     | some u=>
       have e':b=a:=hA b (by rw [q]; simp)
       subst e'
       rw [hK (by rw [q]; simp)] at e; cases e)
   have hM:Mod K mg (pX s₁.heap H):=⟨Tj,nsK hns,⟨mb,nsK hb,hbb⟩,let ⟨mc,h1,h2⟩:=hlim; ⟨mc,nsK h1,h2⟩⟩
   have e0:xA P w K mg (pX s₁.heap H) callerA [] s₁ H:=⟨rfl,hM,fun b o e=>Eo e,Nat.le_of_eq (yp _ _),trivial,fun b hb=>absurd (show b∈([]:List Addr) from hb) (by simp),hok,.of_eq hg⟩
   refine codeAny_mono ((F _ Tj (nsK hns)).run callerA [] s₁ H ⟨[.ref a],[]⟩ [.ref a] [.ref a] _ _ hr e0 (hbind s₁ (.ref a)) (.cons rfl .nil) (hsp H hO hS)) fun r s' h=>?_
   cases r with
   | error e=>exact (hCX H e s' h).elim
   | ok fl=>
     cases fl with
     | next=>exact abq h
     | brk=>exact abq h
     | cont=>exact abq h
     | ret u=>
       obtain ⟨v,H',os,bare,un,Qp,r',q⟩:=h
       have q':v=.bl true:=q
       subst q'
       obtain rfl:u=aby true:=r'
       refine ⟨rfl,OldK.of_keep fun b o e=>?_,os,bare⟩
       cases q:H b with
       | none=>exact un.keep b o e q (by intro z; exact absurd (show b∈([]:List Addr) from z) (by simp)) (by simp)
       | some u=>
         rcases hO b with z | ⟨ob,xs,z⟩
         · rw [q] at z; cases z
         · have z2:=un.frzs b ob _ z
           obtain ⟨e1,_⟩:=hok b _ z
           obtain ⟨e2,_⟩:=Qp b _ z2
           rw [e] at e1; cases e1
           exact e2
 cases hk:K.lookup a with
 | some o=>
   have e:=KX a o hk
   rw [ha] at e
   cases e
   refine core (fun _=>none) (fun _=>.inl rfl) (.inr ⟨_,vs.toArray,_,hk,rfl,rfl,rfl,by rw [aam,Q1]; exact hl,by simpa using rv⟩) (fun b u z=>by have z':(none:Option HO)=some u:=z; cases z') (fun b z=>absurd rfl z) fun z=>absurd rfl z
 | none=>
   refine core (fun b=>if b=a then some (.frz { cls:=.type "list",data:=.seq vs.toArray } (.lst (ns.map V.int))) else none) (fun b=>?_) (.inl (.inr ⟨{ cls:=.type "list",data:=.seq vs.toArray },if_pos rfl⟩)) (fun b u z=>?_) (fun b z=>?_) fun _=>hk
   · by_cases hb:b=a
     · exact .inr ⟨_,_,if_pos hb⟩
     · exact .inl (if_neg hb)
   · by_cases hb:b=a
     · have z':=(if_pos hb).symm.trans z
       cases z'
       subst hb
       exact ⟨ha,by rw [aab]; exact hl,vs,_,rv,ha⟩
     · have z':=(if_neg hb).symm.trans z
       cases z'
   · by_cases hb:b=a
     · exact hb
     · exact absurd (if_neg hb) z
theorem Fs {l:PySem.W.OpenLaw}{n k:Nat}{q:Program}{loose:List Str}{XP:(Str->Option Value)->Heap->Prop}{YP:World->Heap->Prop}{d:DefRec}{K:Params->aac}{CX:World->vV}{sp:World->Sp}{x:Str}
   (hn:l.most=some n) (hn2:n<=sizeLine) (hdf:d.params.defaults=[]) (hr:dt k callerA)
   (hY:∀(w:World) (h:Heap),YP w h->(K w.params).In h)
   (F:∀(w:World) (mg:Str->Option Value) (fa:Addr) (h:Heap),(K w.params).In h->h.Ns aa3 mg->mg d.name=some (.ref fa) ->
     ∃fd:aao,(∀(s:Shared) (u:Value),BindsTo s fd ⟨[u],[]⟩ [(x,u)]) /\
       ∀base:Heap,(K w.params).In base->base.Ns aa3 mg->aP l.prog w (K w.params) mg base (CX w) k fa fd [x] (sp w))
   (hsp:∀(w:World) (H:Hp) (a:Addr) (ns:List Int),ns.length<=n->GW H->ao (K w.params) H a (ns.map V.int)->sp w [.ref a] H (fun v _=>v=.bl true) fun _ _ _=>False)
   (hCX:∀(w:World) (H:Hp) (s:Shared) (e:Value) (s':Shared),CX w [] H s (fun _ _ _=>False) e s'->False) :
   PySem.W.WalkO q loose XP YP l.row.toRowW d [] (fun f vs=>PySem.call f vs):=by
 refine R6.qR hn hdf fun w s₀ s₁ mg mb fa o pm cd doc a vs ns G Y ho hd hcd hmg HY hints hlen hg=>?_
 have KX:=hY w _ Y
 obtain ⟨fd,hb,hF⟩:=F w mg fa _ KX G.T.g hmg
 exact Bd KX G.T.g G.T.b G.T.builtins G.T.nolimit hg HY hints (aak hlen hn2) hr hF hb (fun H hO hS=>hsp w H a ns hlen hO hS) fun H e s'=>hCX w H s₁ e s'
def cH (s:Stmt):Arguments:=match s with
 | .FunctionDef _ a _ _ _ _ _ _ _ _=>a
 | _=>{ posonlyargs:=[],args:=[],vararg:=none,kwonlyargs:=[],kw_defaults:=[],kwarg:=none,defaults:=[] }
def bO (s:Stmt):List Stmt:=match s with
 | .FunctionDef _ _ b _ _ _ _ _ _ _=>b
 | _=>[]
def ag (s:Stmt):Scope:=match s with
 | .FunctionDef _ _ _ _ _ _ sc _ _ _=>sc
 | _=>{ kind:=.function,names:=[],isGenerator:=false,isCoroutine:=false }
abbrev cO:vV:=fun _ _ _ _ _ _=>False
abbrev E0:XK:=fun _ _ _=>False
theorem Gm {X:Cx}:Passes cO X E0:=fun _ _ _ _ _ _ _ h=>h.elim
structure cJ (K:aac)(x qual:Str)(st:Stmt)(f:Addr)(fd:aao):Prop where
 ex:∃(oc:Value) (od:Option Addr) (kV doc pm:Value) (an:Option Addr) (cdv ct:Value) (osl:Array (Option Value)),
   fd=aa6 x qual (cH st) (bO st) (ag st) .none kV doc pm an cdv ct/\K.lookup f=some ⟨oc,od,.func fd,osl⟩ /\ abW K cdv qual=true
 kp:abc K (.ref f)=true
section
variable {P:Program}{w:World}{K:aac}{mg:Str->Option Value}{base:Heap}
theorem cJ.ok {x qual:Str}{st:Stmt}{f:Addr}{fd:aao}{N ps:List Str}{k:Nat}{sp:Sp}(F:cJ K x qual st f fd)(S:aD N ps (ag st))(len:∀vs H Q E,sp vs H Q E->vs.length=ps.length)
   (hbody:∀(cdv:Value) (A:Around) (outer:List Env) (s:Shared) (H:Hp) (vs:List V) (Q:VK) (E:XK),dt k (A.deeper (envOfC qual (ag st) s.heap.objs.size f cdv))->sp vs H Q E ->
     ∃t,n8 (hV cO P w K mg base N qual (ag st) f cdv A outer s H E).Kx (bO st) t/\t { nx:=fun _ H'=>Q .bN H',rt:=Q } (start N vs) H):aP P w K mg base cO (k + 1) f fd ps sp:=by
 obtain ⟨oc,od,kV,doc,pm,an,cdv,ct,osl,rfl,lk,hcd⟩:=F.ex
 refine Ag lk hcd S len fun A outer s H vs Q E hr hsp=>?_
 obtain ⟨t,h,q⟩:=hbody cdv A outer s H vs Q E hr hsp
 exact ⟨t,h.Kx,q⟩
theorem cJ.binds {x qual:Str}{st:Stmt}{f:Addr}{fd:aao}{ps:List Str}(F:cJ K x qual st f fd)
   (h:∀(kV doc pm:Value) (an:Option Addr) (cdv ct:Value) (us:List Value),us.length=ps.length->adn (aa6 x qual (cH st) (bO st) (ag st) .none kV doc pm an cdv ct) ⟨us,[]⟩ = pure (ps.zip us)):Binds K fd ps []:=by
 obtain ⟨oc,od,kV,doc,pm,an,cdv,ct,osl,rfl,lk,hcd⟩:=F.ex
 exact .all (h kV doc pm an cdv ct)
theorem Hu {x qual:Str}{st:Stmt}{f:Addr}{oc:Value}{od an:Option Addr}{osl:Array (Option Value)}{kV doc pm cdv ct:Value}(l:K.lookup f=some ⟨oc,od,.func (aa6 x qual (cH st) (bO st) (ag st) .none kV doc pm an cdv ct),osl⟩)
   (c:abW K cdv qual=true) (k:abc K (.ref f)=true):cJ K x qual st f (aa6 x qual (cH st) (bO st) (ag st) .none kV doc pm an cdv ct):=⟨⟨oc,od,kV,doc,pm,an,cdv,ct,osl,rfl,l,c⟩,k⟩
end
theorem aB {n:Nat}(h:n<=1000):n < sizeLine:=abV h (by decide)
theorem iY {A B:Prop}(h:B):if false=true then A else B:=by
 rw [if_neg aas]
 exact h
theorem fT {A B:Prop}(h:A):if true=true then A else B:=by
 rw [if_pos rfl]
 exact h
theorem aF {c A B:Prop}[Decidable c](h1:c->A)(h2:¬ c->B):if c then A else B:=by
 by_cases h:c
 · rw [if_pos h]
   exact h1 h
 · rw [if_neg h]
   exact h2 h
def ah (H H':Hp):Prop:=∀b o,H b=some o->H' b=some o
theorem ah.seq {K:aac}{H H':Hp}{a:Addr}{xs:List V}(e:ah H H')(h:ao K H a xs):ao K H' a xs:=by
 rcases h with (h | ⟨o,h⟩) | h
 · exact .inl (.inl (e _ _ h))
 · exact .inl (.inr ⟨o,e _ _ h⟩)
 · exact .inr h
section
variable {κ:Type}[DecidableEq κ]
def bE (kvs:List (κ×V))(k:κ):Option V:=(kvs.find? fun kv=>decide (kv.1=k)).map (·.2)
def putK (kvs:List (κ×V))(k:κ)(v:V):List (κ×V):=
 if (kvs.any fun kv=>decide (kv.1=k))=true then kvs.map (fun kv=>if kv.1=k then (kv.1,v) else kv) else kvs++[(k,v)]
theorem bM {p:κ×V}{r:List (κ×V)}{k:κ}(e:p.1=k):bE (p :: r) k=some p.2:=by simp [bE,abu,e]
theorem bB {p:κ×V}{r:List (κ×V)}{k:κ}(e:¬ p.1=k):bE (p :: r) k=bE r k:=by simp [bE,abu,e]
theorem gO (k:κ):∀kvs:List (κ×V),(kvs.any fun kv=>decide (kv.1=k))=(bE kvs k).isSome
 | []=>rfl
 | p :: r=>by
   rw [abI]
   by_cases e:p.1=k
   · simp only [bM e,decide_eq_true e,Bool.true_or,Option.isSome_some]
   · rw [bB e,decide_eq_false e,Bool.false_or]; exact gO k r
theorem tF (k j:κ)(y:V):∀kvs:List (κ×V),bE (kvs.map fun kv=>if kv.1=k then (kv.1,y) else kv) j=(bE kvs j).map fun x=>if j=k then y else x
 | []=>rfl
 | p :: r=>by
   have ih:=tF k j y r
   rw [aaI]
   by_cases h:p.1=k
   · rw [if_pos h]
     by_cases e:p.1=j
     · rw [bM (p:=(p.1,y)) e,bM e,abe,if_pos (e.symm.trans h)]
     · rw [bB (p:=(p.1,y)) e,bB e,ih]
   · rw [if_neg h]
     by_cases e:p.1=j
     · rw [bM (p:=p) e,bM e,abe,if_neg (fun z=>h (e.trans z))]
     · rw [bB (p:=p) e,bB e,ih]
theorem pI (k j:κ)(y:V):∀kvs:List (κ×V),bE kvs k=none->bE (kvs++[(k,y)]) j=if j=k then some y else bE kvs j
 | [],_=>by
   by_cases e:k=j
   · rw [if_pos e.symm]; exact bM (p:=(k,y)) e
   · rw [if_neg (fun z=>e z.symm)]; exact bB (p:=(k,y)) e
 | p :: r,hn=>by
   rw [adi]
   have hk:¬ p.1=k:=fun z=>by rw [bM z] at hn; cases hn
   rw [bB hk] at hn
   have ih:=pI k j y r hn
   by_cases e:p.1=j
   · rw [bM e,bM e,if_neg (fun z=>hk (e.trans z))]
   · rw [bB e,bB e,ih]
theorem ff (kvs:List (κ×V))(k j:κ)(y:V):bE (putK kvs k y) j=if j=k then some y else bE kvs j:=by
 unfold putK
 by_cases a:(kvs.any fun kv=>decide (kv.1=k))=true
 · rw [if_pos a,tF]
   rw [gO] at a
   by_cases e:j=k
   · obtain ⟨x,hx⟩:=Option.isSome_iff_exists.mp a
     rw [if_pos e,e,hx,abe,if_pos rfl]
   · rw [if_neg e]
     cases bE kvs j with
     | none=>rfl
     | some x=>rw [abe,if_neg e]
 · rw [if_neg a]
   refine pI k j y kvs ?_
   rw [gO] at a
   cases q:bE kvs k with
   | none=>rfl
   | some x=>rw [q] at a; exact (a rfl).elim
theorem bL (kvs:List (κ×V))(k:κ)(v:V):(putK kvs k v).length<=kvs.length + 1:=by
 unfold putK
 split
 · rw [aab]; omega
 · rw [aae,aay,aa7]; omega
theorem iB.eW {o:Option V}{u:Option Value}(r:iB o u):o.isSome=u.isSome:=by
 cases o with
 | none=>cases u with
   | none=>rfl
   | some _=>exact (show False from r).elim
 | some _=>cases u with
   | none=>exact (show False from r).elim
   | some _=>rfl
theorem iB.getD {o:Option V}{u:Option Value}{d:V}{d':Value}(r:iB o u)(rd:RelV d d'):RelV (o.getD d) (u.getD d'):=by
 cases o with
 | none=>cases u with
   | none=>exact rd
   | some _=>exact (show False from r).elim
 | some _=>cases u with
   | none=>exact (show False from r).elim
   | some _=>exact r
theorem KV.val {kvs:List (κ×V)}{vs:List (κ×Value)}(r:KV kvs vs)(k:κ):iB (bE kvs k) (valueAt vs k):=by
 unfold KV at r
 induction r with
 | nil=>exact aaF
 | @cons p q ps qs h t ih=>
   obtain ⟨h1,h2⟩:=h
   by_cases e:p.1=k
   · have e':q.1=k:=h1.symm.trans e
     have b:valueAt (q :: qs) k=some q.2:=by simp [valueAt,abu,e']
     rw [bM e,b]; exact h2
   · have e':¬ q.1=k:=fun z=>e (h1.trans z)
     have b:valueAt (q :: qs) k=valueAt qs k:=by simp [valueAt,abu,e']
     rw [bB e,b]; exact ih
theorem KV.any {kvs:List (κ×V)}{vs:List (κ×Value)}(r:KV kvs vs)(k:κ):(kvs.any fun kv=>decide (kv.1=k))=vs.any fun kv=>decide (kv.1=k):=by
 unfold KV at r
 induction r with
 | nil=>rfl
 | cons h t ih=>rw [abI,abI,ih,h.1]
theorem KV.JJ {kvs:List (κ×V)}{vs:List (κ×Value)}(r:KV kvs vs)(k:κ){y:V}{u:Value}(ry:RelV y u) :
   KV (kvs.map fun kv=>if kv.1=k then (kv.1,y) else kv) (vs.map fun kv=>if kv.1=k then (kv.1,u) else kv):=by
 unfold KV at r ⊢
 induction r with
 | nil=>exact .nil
 | @cons p q ps qs h t ih=>
   rw [aaI,aaI]
   refine .cons ?_ ih
   obtain ⟨h1,h2⟩:=h
   by_cases e:p.1=k
   · rw [if_pos e,if_pos (h1.symm.trans e)]; exact ⟨h1,ry⟩
   · rw [if_neg e,if_neg (fun z=>e (h1.trans z))]; exact ⟨h1,h2⟩
theorem KV.put {kvs:List (κ×V)}{vs:List (κ×Value)}(r:KV kvs vs)(k:κ){y:V}{u:Value}(ry:RelV y u):KV (putK kvs k y) (stored vs k u):=by
 unfold putK stored
 rw [r.any k]
 by_cases e:(vs.any fun kv=>decide (kv.1=k))=true
 · rw [if_pos e,if_pos e]; exact r.JJ k ry
 · rw [if_neg e,if_neg e]; exact Paired.snoc r ⟨rfl,ry⟩
theorem KV.length {kvs:List (κ×V)}{vs:List (κ×Value)}(r:KV kvs vs):kvs.length=vs.length:=Paired.length r
end
theorem jA {P:Program}{w:World}{k:Key}{u:Value}(r:RelV (kV k) u):(aO P w).is k u=true:=by
 cases k with
 | inl i=>obtain ⟨t,e⟩:=(show ∃t,u=acX i t from r); subst e; exact rX P w i t
 | inr x=>obtain ⟨t,e⟩:=(show ∃t,u=adR x t from r); subst e; exact rY P w x t
theorem oX {P:Program}{w:World}:∀{ks:List Key} {us:List Value},Vals (ks.map kV) us->ItemsAre (aO P w) ks us
 | [],_,r=>by rw [List.map_nil] at r; cases r; exact .nil
 | k :: ks,_,r=>by
   rw [aaI] at r
   cases r with
   | cons h t=>exact .cons (jA h) (oX t)
abbrev KT (H:Hp):List (List Key×V)->List (List Key×Addr×Value)->Prop:=Paired fun p q=>p.1=q.1/\H q.2.1=some (.tup (p.1.map kV))/\RelV p.2 q.2.2
theorem KT.val {H:Hp}{kvs:List (List Key×V)}{xs:List (List Key×Addr×Value)}(r:KT H kvs xs)(k:List Key):iB (bE kvs k) ((atKey xs k).map (·.2)):=by
 induction r with
 | nil=>exact aaF
 | @cons p q ps qs h t ih=>
   obtain ⟨h1,_,h2⟩:=h
   by_cases e:p.1=k
   · have e':q.1=k:=h1.symm.trans e
     have b:atKey (q :: qs) k=some q.2:=by simp [atKey,abu,e']
     rw [bM e,b]; exact h2
   · have e':¬ q.1=k:=fun z=>e (h1.trans z)
     have b:atKey (q :: qs) k=atKey qs k:=by simp [atKey,abu,e']
     rw [bB e,b]; exact ih
theorem KT.JJ {H:Hp}{kvs:List (List Key×V)}{xs:List (List Key×Addr×Value)}(r:KT H kvs xs)(k:List Key){y:V}{u:Value}(ry:RelV y u) :
   KT H (kvs.map fun kv=>if kv.1=k then (kv.1,y) else kv) (xs.map (putAt k u)):=by
 induction r with
 | nil=>exact .nil
 | @cons p q ps qs h t ih=>
   rw [aaI,aaI]
   refine .cons ?_ ih
   obtain ⟨h1,h2,h3⟩:=h
   unfold putAt
   by_cases e:p.1=k
   · rw [if_pos e,if_pos (h1.symm.trans e)]; exact ⟨h1,h2,ry⟩
   · rw [if_neg e,if_neg (fun z=>e (h1.trans z))]; exact ⟨h1,h2,h3⟩
theorem KT.put {H:Hp}{kvs:List (List Key×V)}{xs:List (List Key×Addr×Value)}(r:KT H kvs xs)(k:List Key){b:Addr}{y:V}{u:Value}(hb:H b=some (.tup (k.map kV)))(ry:RelV y u) :
   KT H (putK kvs k y) (storedH xs k b u):=by
 have e:(kvs.any fun kv=>decide (kv.1=k))=(atKey xs k).isSome:=by
   rw [gO,(r.val k).eW,acj]
 unfold putK storedH
 rw [e]
 by_cases q:(atKey xs k).isSome=true
 · rw [if_pos q,if_pos q]; exact r.JJ k ry
 · rw [if_neg q,if_neg q]; exact Paired.snoc r ⟨rfl,hb,ry⟩
theorem KT.keeps {H H':Hp}{kvs:List (List Key×V)}{xs:List (List Key×Addr×Value)}(r:KT H kvs xs)(ht:∀b ys,H b=some (.tup ys)->H' b=some (.tup ys)):KT H' kvs xs:=
 Paired.aZ r fun _ _ z=>⟨z.1,ht _ _ z.2.1,z.2.2⟩
section
variable {P:Program}{w:World}{H:Hp}{h:Heap}{a:Addr}
theorem Gs {u:HO}(ok:fV P w H h)(e:Rd H a u):bp P w H h a u:=e.ok ok
theorem oS {kvs:List (Key×V)}(ok:fV P w H h)(e:Rd H a (.dK kvs)):kvs.length<=sizeLine/\(a == abp)=false/\∃vs,KV kvs vs/\h.DictOf (aO P w) a vs:=
 show bp P w H h a (.dK kvs) from Gs ok e
theorem wo {kvs:List (Key×V)}(ok:fV P w H h)(e:H a=some (.dK kvs)):kvs.length<=sizeLine/\(a == abp)=false/\∃vs,KV kvs vs/\h.DictOf (aO P w) a vs:=oS ok (.inl e)
theorem i0 {ks:List Key}(ok:fV P w H h)(e:H a=some (.tup (ks.map kV))):(tupleKind (aO P w)).is h ks a:=by
 obtain ⟨_,its,r,o,h1,h2,n,h3⟩:=(show bp P w H h a (.tup (ks.map kV)) from ok a _ e)
 exact ⟨o,its.toArray,n,h1,h2,h3,by simpa using oX r⟩
theorem oT {kvs:List (List Key×V)}(ok:fV P w H h)(e:Rd H a (.dT kvs)):kvs.length<=sizeLine/\(a == abp)=false /\
   ∃xs,KT H kvs xs/\h.DictOfH (tupleKind (aO P w)) a xs:=by
 obtain ⟨z,y,xs,r,o,es,ep,h1,h2,h3,h4,h5⟩:=(show bp P w H h a (.dT kvs) from Gs ok e)
 refine ⟨z,y,xs,r,o,es,ep,h1,h2,h3,h4,fun x hx=>?_,h5⟩
 have all:∀{l:List (List Key×V)} {m:List (List Key×Addr×Value)},KT H l m->∀x∈m,(tupleKind (aO P w)).is h x.1 x.2.1:=by
   intro l m q
   induction q with
   | nil=>intro x hx; exact nomatch hx
   | @cons p q ps qs hq t ih=>
     intro x hx
     rcases List.mem_cons.mp hx with e | hx
     · subst e
       exact i0 ok (by rw [← hq.1]; exact hq.2.1)
     · exact ih x hx
 exact all r x hx
theorem wq {kvs:List (List Key×V)}(ok:fV P w H h)(e:H a=some (.dT kvs)):kvs.length<=sizeLine/\(a == abp)=false /\
   ∃xs,KT H kvs xs/\h.DictOfH (tupleKind (aO P w)) a xs:=oT ok (.inl e)
end
def fO (H:Hp)(a:Addr)(y:V)(r:Option V):Prop:=
 (∃kvs k,Rd H a (.dK kvs)/\y=kV k/\r=bE kvs k)\/∃kvs k b,Rd H a (.dT kvs)/\y=.ref b/\H b=some (.tup (k.map kV))/\r=bE kvs k
def mv (H:Hp)(a:Addr)(y v:V)(H':Hp):Prop:=
 (∃kvs k,H a=some (.dK kvs)/\y=kV k/\kvs.length < sizeLine/\H'=upd H a (.dK (putK kvs k v))) \/
 ∃kvs k b,H a=some (.dT kvs)/\y=.ref b/\H b=some (.tup (k.map kV))/\kvs.length < sizeLine/\H'=upd H a (.dT (putK kvs k v))
theorem fO.k {H:Hp}{a:Addr}{kvs:List (Key×V)}{k:Key}(e:H a=some (.dK kvs)):fO H a (kV k) (bE kvs k):=.inl ⟨kvs,k,.inl e,rfl,rfl⟩
theorem fO.t {H:Hp}{a b:Addr}{kvs:List (List Key×V)}{k:List Key}(e:H a=some (.dT kvs))(eb:H b=some (.tup (k.map kV))):fO H a (.ref b) (bE kvs k):=.inr ⟨kvs,k,b,.inl e,rfl,eb,rfl⟩
theorem mv.k {H:Hp}{a:Addr}{kvs:List (Key×V)}{k:Key}{v:V}(e:H a=some (.dK kvs))(hl:kvs.length < sizeLine):mv H a (kV k) v (upd H a (.dK (putK kvs k v))):=.inl ⟨kvs,k,e,rfl,hl,rfl⟩
theorem mv.t {H:Hp}{a b:Addr}{kvs:List (List Key×V)}{k:List Key}{v:V}(e:H a=some (.dT kvs))(eb:H b=some (.tup (k.map kV)))(hl:kvs.length < sizeLine) :
   mv H a (.ref b) v (upd H a (.dT (putK kvs k v))):=.inr ⟨kvs,k,b,e,rfl,eb,hl,rfl⟩
section
variable {X:Cx}{pins:List (Addr×Obj)}{σ:St}{H:Hp}{s:Shared}{a:Addr}{y v:V}{u r:Value}{o:Option V}{A:Around}{E:Value->Shared->Prop}
theorem Inv.big (I:Inv X pins σ H s):abp < s.heap.objs.size:=by
 have h:aa3 < s.heap.objs.size:=(I.mod.glob.keeps I.bk).lt
 exact aed (by decide) h
theorem xP {Q:Value->Shared->Prop}(hu:A.units + 1 < cLine)(I:Inv X pins σ H s)(g:fO H a y (some v))(ry:RelV y u)(h:∀w' s',Inv X pins σ H s'->RelV v w'->Q w' s') :
   wpAny (model X.prog X.w) A (getItem (.ref a) u) Q E s:=by
 rcases g with ⟨kvs,k,e,ey,l⟩ | ⟨kvs,k,b,e,ey,eb,l⟩
 · subst ey
   obtain ⟨z,hd,vs,rel,dd⟩:=oS I.hok e
   obtain ⟨w',hw,rw'⟩:=iB.some_of (v:=v) (o:=valueAt vs k) (by rw [l]; exact rel.val k)
   exact wpAny_getItem_of (jA ry) dd.mapOf hw (h w' _ (I.tok _) rw')
 · subst ey
   cases (show u=aax b from ry)
   obtain ⟨z,hd,xs,rel,dd⟩:=oT I.hok e
   obtain ⟨w',hw,rw'⟩:=iB.some_of (v:=v) (o:=(atKey xs k).map (·.2)) (by rw [l]; exact rel.val k)
   obtain ⟨p,hp,cf⟩:=Option.map_eq_some_iff.mp hw
   refine wpAny_getItem_heap (tupleKind_room_in1 hu) (i0 I.hok eb) dd hp ?_
   rw [cf]
   exact h w' _ (I.tok _) rw'
theorem O0 {Q:Value->Shared->Prop}(hu:A.units + 1 < cLine)(I:Inv X pins σ H s)(g:fO H a y o)(ry:RelV y u)(h:∀s',Inv X pins σ H s'->Q (.bool o.isSome) s') :
   wpAny (model X.prog X.w) A (compareOp .In u (.ref a)) Q E s:=by
 rcases g with ⟨kvs,k,e,ey,l⟩ | ⟨kvs,k,b,e,ey,eb,l⟩
 · subst ey
   obtain ⟨z,hd,vs,rel,dd⟩:=oS I.hok e
   refine wpAny_in_of (jA ry) hd dd.mapOf ?_
   rw [← (rel.val k).eW,← l]
   exact h _ (I.tok _)
 · subst ey
   cases (show u=aax b from ry)
   obtain ⟨z,hd,xs,rel,dd⟩:=oT I.hok e
   refine wpAny_in_heap (tupleKind_room_in1 hu) (i0 I.hok eb) hd dd ?_
   have q:=(rel.val k).eW
   rw [acj] at q
   rw [← q,← l]
   exact h _ (I.tok _)
theorem eE {h':Heap}{t':Nat}{ob:HO}(I:Inv X pins σ H s)(mu:KP (H a))(hs:aaT a s.heap h')(he:∃q,h'.get? a=some q)(new:bp X.prog X.w (upd H a ob) h' a ob) :
   Inv X pins σ (upd H a ob) { s with heap:=h',toks:=t' }:=
 I.write (x:=a) (e:=a) mu (.inl rfl) (fun b q hb z=>(hs.2 b hb).trans z) he new
theorem pR {P:Program}{w:World}{H':Hp}{h':Heap}{kvs:List (Key×V)}{vs:List (Key×Value)}(z:kvs.length<=sizeLine)(hd:(a == abp)=false)(rel:KV kvs vs)(dd:h'.DictOf (aO P w) a vs) :
   bp P w H' h' a (.dK kvs):=⟨z,hd,vs,rel,dd⟩
theorem xQ {H':Hp}{Q:Unit->Shared->Prop}(hu:A.units + 1 < cLine)(I:Inv X pins σ H s)(g:mv H a y v H')(ry:RelV y u)(rv:RelV v r)(h:∀s',Inv X pins σ H' s'->Q () s') :
   wpAny (model X.prog X.w) A (setItem (.ref a) u r) Q E s:=by
 rcases g with ⟨kvs,k,e,ey,l,eH⟩ | ⟨kvs,k,b,e,ey,eb,l,eH⟩
 · subst ey eH
   obtain ⟨z,hd,vs,rel,dd⟩:=wo I.hok e
   have hz:vs.length<=sizeLine:=by rw [← rel.length]; exact z
   have hl:(putK kvs k v).length<=sizeLine:=by have:=bL kvs k v; omega
   refine wpAny_setItem_pairs (hsz:=hz) (jA ry) dd fun h' oq hs=>h _ ?_
   have he:∃q,h'.get? a=some q:=let ⟨q,_,_,hq,_⟩:=oq; ⟨q,hq⟩
   exact eE I (by rw [e]; exact aaF) hs he (pR hl hd (rel.put k rv) oq)
 · subst ey eH
   cases (show u=aax b from ry)
   obtain ⟨z,hd,xs,rel,dd⟩:=wq I.hok e
   have hz:xs.length<=sizeLine:=by rw [← Paired.length rel]; exact z
   have hl:(putK kvs k v).length<=sizeLine:=by have:=bL kvs k v; omega
   refine wpAny_setItem_heap (hsz:=hz) (tupleKind_room_in1 hu) (i0 I.hok eb) dd fun h' oq hs=>h _ ?_
   obtain ⟨q,es,ep,hq,h2,h3,h4,_,h5⟩:=oq
   refine eE I (by rw [e]; exact aaF) hs ⟨q,hq⟩ ⟨hl,hd,_,(rel.put k eb rv).keeps fun c ys ec=>?_,q,es,ep,hq,h2,h3,h4,h5⟩
   rw [aj (fJ ec e (fun z=>nomatch z))]
   exact ec
end
def zK (i:Expr):Prop:=∀ov iv,subscripted i false ov iv=operate [ov,iv] (getItem ov iv)
theorem xr {prog:Program}{w:World}{A:Around}{E:Value->Shared->Prop}{s:Shared}{env:Env}{value slice:Expr}{pos:Pos}{T id:String}{Q:Value->Shared->Prop}
   (hl:adu (.type T) "__getitem__"=pure (some (.builtin id))) (hs:zK slice)
   (h:wpAny (model prog w) A (eval value env) (fun o s₁=>wpAny (model prog w) A (eval slice env) (fun i s₂=>s₂.TypeIs o T/\wpAny (model prog w) A (getItem o i) Q E s₂) E s₁) E s) :
   wpAny (model prog w) A (eval (.Subscript value slice pos) env) Q E s:=by
 refine adv (wpAny_mono h (fun o s₁ h₁=>wpAny_mono h₁ (fun i s₂ h₂=>?_) fun _ _ x=>x) fun _ _ x=>x)
 obtain ⟨hT,h₂⟩:=h₂
 unfold subscriptTail
 refine wpAny_bind ?_
 rw [getitemInPython_of_ne hT.not_modules]
 refine wpAny_bind (wpAny_specialOf hT hl ?_)
 have fin:wpAny (model prog w) A (subscripted slice false o i) (fun r s₃=>wpAny (model prog w) A (letTemporaryGo value o r >>= fun _=>pure r) Q E s₃) E s₂:=by
   rw [hs o i]
   exact wpAny_operating (wpAny_mono h₂ (fun r s₃ h₃=>wpAny_bind (wpAny_letTemporaryGo (wpAny_pure h₃))) fun _ _ x=>x)
 first
   | exact wpAny_pure (wpAny_bind fin)
   | exact wpAny_bind (wpAny_pure (wpAny_bind fin))
   | exact wpAny_bind fin
theorem rh {X:Cx}{pins:List (Addr×Obj)}{σ:St}{H:Hp}{s:Shared}{a:Addr}{y:V}{o:Option V}(I:Inv X pins σ H s)(g:fO H a y o):s.TypeIs (.ref a) "dict":=by
 rcases g with ⟨kvs,k,e,_,_⟩ | ⟨kvs,k,b,e,_,_,_⟩
 · obtain ⟨_,_,vs,_,dd⟩:=oS I.hok e
   exact dd.typeIs
 · obtain ⟨_,_,xs,_,dd⟩:=oT I.hok e
   exact dd.typeIs
def GF (td ty:TE):TE:=fun σ H Q=>td σ H fun x H1=>ty σ H1 fun y H2=>∃a v,x=.ref a/\fO H2 a y (some v)/\Q v H2
def Nj (ty td:TE):TE:=fun σ H Q=>ty σ H fun y H1=>td σ H1 fun x H2=>∃a o,x=.ref a/\fO H2 a y o/\Q (.bl o.isSome) H2
def Gv (td ty tv:TE):TS:=fun D σ H=>tv σ H fun v H1=>td σ H1 fun x H2=>ty σ H2 fun y H3=>∃a H4,x=.ref a/\mv H3 a y v H4/\D.nx σ H4
section
variable {X:Cx}{o i e value:Expr}{pos pos' Y7:Pos}{td ty tv:TE}
theorem EN (hu:X.A.units + 1 < cLine)(ho:PE X o td)(hi:PE X i ty)(hs:zK i):PE X (.Subscript o i pos) (GF td ty):=by
 intro pins s σ H Q I h
 refine xr PySem.F.slot_dict_getitem.lookup hs (bt (ho pins s σ H _ I h) fun u s1 ⟨x,H1,I1,rx,q1⟩=>bt (hi pins s1 σ H1 _ I1 q1) fun iv s2 ⟨y,H2,I2,ry,a,v,ex,g,q2⟩=>?_)
 subst ex
 obtain rfl:u=aax a:=rx
 exact ⟨rh I2 g,xP hu I2 g ry fun w' s3 I3 rw'=>⟨v,H2,I3,rw',q2⟩⟩
theorem Je (hu:X.A.units + 1 < cLine)(hi:PE X i ty)(ho:PE X o td):PC X .In i o (Nj ty td):=by
 intro pins s σ H Q I h
 refine bt (hi pins s σ H _ I h) fun iv s1 ⟨y,H1,I1,ry,q1⟩=>bt (ho pins s1 σ H1 _ I1 q1) fun u s2 ⟨x,H2,I2,rx,a,ov,ex,g,q2⟩=>?_
 subst ex
 obtain rfl:u=aax a:=rx
 exact O0 hu I2 g ry fun s3 I3=>⟨.bl ov.isSome,H2,I3,rfl,q2⟩
theorem E1 (hu:X.A.units + 1 < cLine)(ho:PE X o td)(hi:PE X i ty)(hv:PE X value tv)(hs:abZ value (some (.Subscript o i pos')) pos.line X.env=pure false) :
   PS X (.Assign [.Subscript o i pos'] value pos) (Gv td ty tv):=by
 intro pins s σ H D I h
 refine wpAny_Assign_Subscript (bt (hv pins s σ H _ I h) fun r s1 ⟨v,H1,I1,rv,q1⟩=>bt (ho pins s1 σ H1 _ I1 q1) fun u s2 ⟨x,H2,I2,rx,q2⟩=>bt (hi pins s2 σ H2 _ I2 q2) fun iv s3 ⟨y,H3,I3,ry,a,H4,ex,g,q3⟩=>?_) hs
 subst ex
 obtain rfl:u=aax a:=rx
 exact xQ hu I3 g ry rv fun s4 I4=>⟨σ,H4,I4,q3⟩
end
theorem mF {P:Program}{w:World}{H:Hp}(h:Heap)(hb:abp < h.objs.size):bp P w H (h.push { cls:=.type "dict",data:=.dict #[] }) h.objs.size (.dK []):=
 ⟨aaU _,beq_eq_false_iff_ne.mpr (Ne.symm (aaK hb)),[],.nil,ac0 h⟩
theorem z9 {P:Program}{w:World}{H:Hp}(h:Heap)(hb:abp < h.objs.size):bp P w H (h.push { cls:=.type "dict",data:=.dict #[] }) h.objs.size (.dT []):=
 ⟨aaU _,beq_eq_false_iff_ne.mpr (Ne.symm (aaK hb)),[],.nil,_,#[],0,aaE _ rfl,⟨rfl,rfl,rfl⟩,rfl,rfl,ab1⟩
def Cz:TE:=fun _ H Q=>∀p,H p=none->Q (.ref p) (upd H p (.dK []))
section
variable {X:Cx}{pos:Pos}
theorem BM:PE X (.Dict [] [] pos) Cz:=fun pins s σ H Q I h=>
 wpAny_Dict_empty ⟨.ref s.heap.objs.size,_,I.laid (a:=s.heap.objs.size) (o:=.dK []) (t':=s.toks) (fun _ _ q=>aag _ q) (aaf _) (mF s.heap I.big),rfl,h _ (I.hok.fresh (aaf _))⟩
end
structure M1 (X:Cx)(o:Expr)(m:Str)(apos:Pos)(e:Expr)(cpos:Pos):Prop where
 base:abt o m X.env (eval o X.env)=eval o X.env
 few:((backTo cpos (starEach [e] X.env)).all (fun x=>!x.1) && (backToKw cpos (keywordEach [] X.env)).all (fun x=>x.1.isSome)
   && decide (([e]:List Expr).length + ([]:List Keyword).length + (if ([]:List Keyword).isEmpty then 0 else 1) < 30))=true
 line:(apos.endLine == cpos.line)=true
 trees:backTo cpos (starEach [e] X.env)=[(false,eval e X.env)]
structure M2 (X:Cx)(o:Expr)(m:Str)(apos:Pos)(e f:Expr)(cpos:Pos):Prop where
 base:abt o m X.env (eval o X.env)=eval o X.env
 few:((backTo cpos (starEach [e,f] X.env)).all (fun x=>!x.1) && (backToKw cpos (keywordEach [] X.env)).all (fun x=>x.1.isSome)
   && decide (([e,f]:List Expr).length + ([]:List Keyword).length + (if ([]:List Keyword).isEmpty then 0 else 1) < 30))=true
 line:(apos.endLine == cpos.line)=true
 trees:backTo cpos (starEach [e,f] X.env)=[(false,eval e X.env),(false,eval f X.env)]
def OM (H:Hp)(a:Addr):Prop:=(∃kvs,Rd H a (.dK kvs))\/∃kvs,Rd H a (.dT kvs)
theorem Ba {X:Cx}{pins:List (Addr×Obj)}{σ:St}{H:Hp}{s:Shared}{a:Addr}(I:Inv X pins σ H s)(d:OM H a) :
   s.TypeIs (.ref a) "dict"/\(∀b,aax a=.ref b->∃ob,s.heap.get? b=some ob/\ob.dict=none)/\(a == abp)=false:=by
 rcases d with ⟨kvs,e⟩ | ⟨kvs,e⟩
 · obtain ⟨_,hd,vs,_,dd⟩:=oS I.hok e
   refine ⟨dd.typeIs,fun b q=>?_,hd⟩
   cases q
   obtain ⟨ob,_,_,h1,h2,_⟩:=dd
   exact ⟨ob,h1,h2.2.1⟩
 · obtain ⟨_,hd,xs,_,dd⟩:=oT I.hok e
   refine ⟨dd.typeIs,fun b q=>?_,hd⟩
   cases q
   obtain ⟨ob,_,_,h1,h2,_⟩:=dd
   exact ⟨ob,h1,h2.2.1⟩
section
variable {X:Cx}{pins:List (Addr×Obj)}{σ:St}{H:Hp}{s:Shared}{a:Addr}{y d:V}{u r:Value}{o:Option V}{A:Around}{E:Value->Shared->Prop}
theorem Hk {Q:Value->Shared->Prop}(hu:A.units + 1 < cLine)(I:Inv X pins σ H s)(g:fO H a y o)(ry:RelV y u)(rd:RelV d r)(h:∀w' s',Inv X pins σ H s'->RelV (o.getD d) w'->Q w' s') :
   wpAny (model X.prog X.w) A (call (.builtin "dict.get") [.ref a,u,r]) Q E s:=by
 rcases g with ⟨kvs,k,e,ey,l⟩ | ⟨kvs,k,b,e,ey,eb,l⟩
 · subst ey
   obtain ⟨z,hd,vs,rel,dd⟩:=oS I.hok e
   refine call_meetsIn acy dd.typeIs adD (adz _ _ _) (meets_dict_get_default (aO X.prog X.w) a (jA ry) hd r) ⟨_,dd.mapOf,h _ _ (I.tok _) ?_⟩
   rw [l]
   exact (rel.val k).getD rd
 · subst ey
   cases (show u=aax b from ry)
   obtain ⟨z,hd,xs,rel,dd⟩:=oT I.hok e
   refine call_meetsIn acy dd.typeIs adD (adz _ _ _) (meetsH_dict_get_default (tupleKind (aO X.prog X.w)) a b hd r) ⟨tupleKind_room_in1 hu,k,xs,i0 I.hok eb,dd,h _ _ (I.tok _) ?_⟩
   rw [l]
   exact (rel.val k).getD rd
end
def Cy (td ty tx:TE):TE:=fun σ H Q=>td σ H fun x H1=>∃a,x=.ref a/\OM H1 a/\ty σ H1 fun y H2=>tx σ H2 fun z H3=>∃o,fO H3 a y o/\Q (o.getD z) H3
section
variable {X:Cx}{o e f:Expr}{apos cpos:Pos}{td ty tx:TE}
theorem BL (hu:X.A.units + 1 < cLine)(ho:PE X o td)(he:PE X e ty)(hf:PE X f tx)(m:M2 X o "get" apos e f cpos):PE X (.Call (.Attribute o "get" apos) [e,f] [] cpos) (Cy td ty tx):=by
 intro pins s σ H Q I h
 refine wpAny_Call_method m.base m.few m.line ady acy PySem.F.type_dict_get (bt (ho pins s σ H _ I h) fun u s1 ⟨x,H1,I1,rx,a,ex,d,q1⟩=>?_)
 subst ex
 obtain rfl:u=aax a:=rx
 obtain ⟨t1,t2,_⟩:=Ba I1 d
 refine ⟨t1,t2,?_⟩
 rw [m.trees]
 refine acC rfl (ab6 (abB (bt (he pins s1 σ H1 _ I1 q1) fun iv s2 ⟨y,H2,I2,ry,q2⟩=>
   abB (bt (hf pins s2 σ H2 _ I2 q2) fun fv s3 ⟨z,H3,I3,rz,ov,g,q3⟩=>abX ?_))))
 exact Hk hu I3 g ry rz fun w' s4 I4 rw'=>⟨_,H3,I4,rw',q3⟩
end
section
variable {κ:Type}[DecidableEq κ]
theorem wL:∀{l:List κ} {k:κ},l.Nodup->¬ k∈l->(l++[k]).Nodup
 | [],k,_,_=>by simp
 | a :: r,k,h,hk=>by
   obtain ⟨h1,h2⟩:=List.nodup_cons.mp h
   show (a :: (r++[k])).Nodup
   refine List.nodup_cons.mpr ⟨fun m=>?_,wL h2 fun m=>hk (List.mem_cons.mpr (Or.inr m))⟩
   rcases List.mem_append.mp m with q | q
   · exact h1 q
   · exact hk (List.mem_cons.mpr (Or.inl (List.mem_singleton.mp q).symm))
end
def iG (scope:Scope)(env:Env):List (Str×Addr):=
 (scope.names.filterMap fun (p:Str×ab0)=>if p.2 == .free then (env.cells.lookup p.1).map fun c=>(p.1,c) else none).reverse
theorem mE (env:Env):∀(l:List (Str×ab0)) (acc:List (Str×Addr)),(∀p∈l,p.2=.free->∃c,env.cells.lookup p.1=some c) ->
   (forIn l acc fun (x:Str×ab0) (r:List (Str×Addr))=>if (x.2 == aaR)=true then do let c ← cellOf env x.1; pure (abl ((x.1,c) :: r)) else pure (abl r):Sem (List (Str×Addr))) =
     pure ((l.filterMap fun (p:Str×ab0)=>if p.2 == .free then (env.cells.lookup p.1).map fun c=>(p.1,c) else none).reverse++acc)
 | [],acc,_=>rfl
 | p :: l,acc,h=>by
   have ih:=fun acc=>mE env l acc fun q hq=>h q (aaW _ hq)
   rw [ace]
   by_cases hp:p.2=.free
   · obtain ⟨c,hc⟩:=h p abj hp
     have e:(p.2 == aaR)=true:=by rw [hp]; rfl
     rw [if_pos e]
     have ec:cellOf env p.1=pure c:=by unfold cellOf; rw [hc]
     rw [ec,abo,if_pos e,hc]
     show (forIn l ((p.1,c) :: acc) _:Sem _)=_
     rw [ih]
     simp
   · have e:¬ (p.2 == aaR)=true:=by intro z; exact hp (by simpa using z)
     rw [if_neg e,abo,if_neg e]
     show (forIn l acc _:Sem _)=_
     rw [ih]
theorem tY {scope:Scope}{env:Env}(h:∀p∈scope.names,p.2=.free->∃c,env.cells.lookup p.1=some c):closureFor scope env=pure (iG scope env):=by
 have e:=mE env scope.names [] h
 rw [aaJ] at e
 show ((forIn scope.names [] fun (x:Str×ab0) (r:List (Str×Addr))=>if (x.2 == aaR)=true then do let c ← cellOf env x.1; pure (abl ((x.1,c) :: r)) else pure (abl r)) >>= fun cs=>pure cs:Sem (List (Str×Addr)))=_
 rw [e]
 rfl
theorem tX {scope:Scope}{env:Env}{x:Str}{c:Addr}(h:(x,c)∈iG scope env):(x,aaR)∈scope.names/\env.cells.lookup x=some c:=by
 unfold iG at h
 obtain ⟨p,hp,e⟩:=List.mem_filterMap.mp (List.mem_reverse.mp h)
 obtain ⟨n,k⟩:=p
 dsimp only at e
 by_cases hk:(k == aaR)=true
 · rw [if_pos hk] at e
   have PV:k=.free:=by simpa using hk
   subst PV
   cases q:env.cells.lookup n with
   | none=>rw [q] at e; cases e
   | some c'=>rw [q] at e; cases e; exact ⟨hp,q⟩
 · rw [if_neg hk] at e; cases e
theorem oQ {scope:Scope}{env:Env}{x:Str}{c:Addr}(hm:(x,aaR)∈scope.names)(hc:env.cells.lookup x=some c):(iG scope env).lookup x=some c:=by
 have PM:(x,c)∈iG scope env:=by
   unfold iG
   refine List.mem_reverse.mpr (List.mem_filterMap.mpr ⟨(x,.free),hm,?_⟩)
   simp [hc]
 cases q:(iG scope env).lookup x with
 | none=>
   have:=List.lookup_eq_none_iff.mp q (x,c) PM
   simp at this
 | some c'=>
   obtain ⟨_,e⟩:=tX (aaY q)
   rw [hc] at e
   exact e.symm
structure aE (sc:Scope)(env:Scope):Prop where
 kind:sc.kind=.function
 cell:∀y∈sc.names,y.2≠.cell
 names:∀x∈sc.names,x.2=.local->sc.names.lookup x.1=some .local
 free:∀x∈sc.names,x.2=.free->env.names.lookup x.1=some .cell\/env.names.lookup x.1=some .free
def cX (sc:Scope)(src:List (Option Nat))(N' N:List Str):Bool:=
 src.length == N'.length && (src.zip N').all fun p=>match p.1 with
   | none=>true
   | some j=>N[j]? == some p.2 && sc.names.lookup p.2 == some .free
def capσ (src:List (Option Nat))(σ:St):St:=src.map fun o=>match o with
 | none=>none
 | some j=>match σ[j]? with
   | some v=>v
   | none=>none
theorem Dw {sc:Scope}{N N':List Str}{src:List (Option Nat)}(h:cX sc src N' N=true){i:Nat}{x:Str}{j:Nat}(h1:src[i]? = some (some j))(h2:N'[i]? = some x):N[j]? = some x/\sc.names.lookup x=some .free:=by
 unfold cX at h
 have h':=(aaZ _ _ ▸ h).2
 have hz:(src.zip N')[i]? = some (some j,x):=by rw [adF]; exact ⟨h1,h2⟩
 have q:=List.all_eq_true.mp h' _ (aan hz)
 simpa using q
theorem zW {sc:Scope}{N N':List Str}{src:List (Option Nat)}(h:cX sc src N' N=true):src.length=N'.length:=by
 unfold cX at h
 have h':=(aaZ _ _ ▸ h).1
 simpa using h'
def fP (X:Cx)(N':List Str)(sc:Scope)(s:Shared)(H:Hp)(C:Addr)(fp:List Addr)(xe:Value->Shared->Prop):Cx where
 prog:=X.prog
 w:=X.w
 K:=X.K
 mg:=X.mg
 base:=X.base
 A:=X.A
 N:=N'
 s₀:=s
 H₀:=H
 env:=compEnvC sc (iG sc X.env) C X.env
 outer:=X.stack
 stack:=X.stack
 ex:=fp
 fn:=fun _=>false
 calm:=X.calm
 pn:=[]
 xe:=xe
theorem gB {sc:Scope}{env:Env}{x:Str}:∀{names:List (Str×ab0)},
   (names.map fun (p:Str×ab0)=>if (p.2 == aaR && env.scope.kind == .function && env.kindOf p.1 == some .cell) then (p.1,ads) else (p.1,p.2)).lookup x =
     (names.lookup x).map fun k=>if (k == aaR && env.scope.kind == .function && env.kindOf x == some .cell) then ads else k
 | []=>rfl
 | (n,k) :: r=>by
   have ih:=@gB sc env x r
   rw [aaI]
   cases hx:x == n with
   | true=>
     have e:x=n:=by simpa using hx
     subst e
     by_cases hc:(k == aaR && env.scope.kind == .function && env.kindOf x == some .cell)=true
     · simp only [hc,if_true,acz,hx,abe]
     · simp only [hc,if_false,acz,hx,abe,aa2]
   | false=>
     by_cases hc:(k == aaR && env.scope.kind == .function && env.kindOf n == some .cell)=true
     · simp only [hc,if_true,acz,hx]; exact ih
     · simp only [hc,if_false,acz,hx,aa2]; exact ih
theorem oR {sc:Scope}{env:Env}{cl:List (Str×Addr)}{C:Addr}(x:Str):(compEnvC sc cl C env).kindOf x =
   (sc.names.lookup x).map fun k=>if (k == aaR && env.scope.kind == .function && env.kindOf x == some .cell) then ads else k:=
 gB (sc:=sc) (env:=env)
section
variable {X:Cx}{pins:List (Addr×Obj)}{σ:St}{H:Hp}{s:Shared}{N':List Str}{sc:Scope}{src:List (Option Nat)}{fp:List Addr}{xe:Value->Shared->Prop}
theorem tZ (I:Inv X pins σ H s)(S:aE sc X.env.scope)(hc:cX sc src N' X.N=true)(hf:∀b∈fp,dJ X pins H b)(ho:∀b∈fp,∃o,s.heap.get? b=some o){h₁:Heap}{tk:Nat}
   (hn:h₁.Ns s.heap.objs.size (fun _=>none)) (hk:∀b o,s.heap.get? b=some o->h₁.get? b=some o) :
   Inv (fP X N' sc s H s.heap.objs.size fp xe) [] (capσ src σ) H { s with heap:=h₁,toks:=tk }:=by
 have cellmem:∀x c,(iG sc X.env).lookup x=some c->X.env.cells.lookup x=some c:=fun x c e=>(tX (aaY e)).2
 have isfree:∀x,((compEnvC sc (iG sc X.env) s.heap.objs.size X.env).kindOf x=some .cell\/(compEnvC sc (iG sc X.env) s.heap.objs.size X.env).kindOf x=some .free)->(x,aaR)∈sc.names:=fun x hx=>by
   rw [oR] at hx
   cases q:sc.names.lookup x with
   | none=>rw [q] at hx; simp at hx
   | some k=>
     have hm:=aaY q
     by_cases PZ:k=.free
     · subst PZ; exact hm
     · have:(k == aaR)=false:=by simpa using PZ
       have e2:(k == aaR && X.env.scope.kind == .function && X.env.kindOf x == some .cell)=false:=by rw [this]; rfl
       rw [q,abe,e2] at hx
       have C3:(some k:Option ab0)=some .cell\/(some k:Option ab0)=some .free:=hx
       rcases C3 with hx | hx
       · exact absurd (aaB hx) (S.cell _ hm)
       · exact absurd (aaB hx) PZ
 have has:∀x,(x,aaR)∈sc.names->∃c,X.env.cells.lookup x=some c:=fun x hm=>I.ok.has x (S.free _ hm rfl)
 refine ⟨⟨I.ok.mod,S.kind,I.ok.glob,I.ok.blt,aaf _,fun x y c h1 h2=>I.ok.inj x y c (cellmem x c h1) (cellmem y c h2),fun x hx=>?_,fun x c LA _=>?_,I.ok.hd,I.ok.frames,.inl rfl,fun b hb=>⟨?_,fun x c e=>?_⟩,I.bs,aak I.ok.bsz I.sz,fun b o e hb=>?_,fun b hb hs=>?_,I.stack,I.qy⟩,
   rfl,I.bare,Un.kept hk,⟨_,hn,fun i x v h1 h2 h3=>?_⟩,fun x c e=>?_,I.hok.fresh (aaf _),fun x c e=>I.freeC x c (cellmem x c e),fun p hp=>absurd (show p∈([]:List (Addr×Obj)) from hp) (by simp),I.hok.kept hk,?_⟩
 · obtain ⟨c,e⟩:=has x (isfree x hx)
   exact ⟨c,oQ (isfree x hx) e⟩
 · exact absurd (show false=true from LA) (by simp)
 · obtain ⟨o,e⟩:=ho b hb
   exact aaK (aaj e)
 · exact (hf b hb).2.2.2.2.1 x c (cellmem x c e)
 · rcases (hf b hb).2.2.2.1 with z | z
   · exact I.ok.noex b o e z
   · exact absurd (aat (aaj e) (aak I.ok.bsz z)) (abJ _)
 · rcases List.mem_cons.mp (I.qz b hs) with z | z
   · exact (hf b hb).2.1 z
   · exact (hf b hb).2.2.1 z
 · -- a K5 name
   have rF:(capσ src σ)[i]? = some (some v):=h2
   unfold capσ at rF
   rw [aaC] at rF
   cases q:src[i]? with
   | none=>rw [q] at rF; cases rF
   | some o=>
     rw [q] at rF
     cases o with
     | none=>simp at rF
     | some j=>
       obtain ⟨hj,hfr⟩:=Dw hc q h1
       have hσ:σ[j]? = some (some v):=by
         simp only [abe,Option.some.injEq] at rF
         cases r:σ[j]? with
         | none=>rw [r] at rF; cases rF
         | some w=>rw [r] at rF; rw [← rF]
       have hm:=aaY hfr
       have LN:=S.free _ hm rfl
       obtain ⟨m,_,hl⟩:=I.loc
       obtain ⟨u,ru,lk⟩:=hl j x v hj hσ (Or.inr LN)
       refine ⟨u,ru,.inr ⟨?_,?_⟩⟩
       · show (compEnvC sc (iG sc X.env) s.heap.objs.size X.env).kindOf x=some .cell\/(compEnvC sc (iG sc X.env) s.heap.objs.size X.env).kindOf x=some .free
         rw [oR,hfr]
         by_cases z:(aaR == aaR && X.env.scope.kind == .function && X.env.kindOf x == some .cell)=true
         · exact .inl (by simp only [abe,z,if_true])
         · exact .inr (by simp only [abe,z,if_false,aa2])
       · rcases lk with ⟨z,_⟩ | ⟨_,c,e,z⟩
         · have z':X.env.scope.names.lookup x=some .local:=z
           rcases LN with y | y <;> (rw [z'] at y; cases y)
         · obtain ⟨oc,Kq,hd⟩:=z
           exact ⟨c,oQ hm e,oc,hk c oc Kq,hd⟩
 · obtain ⟨v,oc,Kq,hd⟩:=I.cell x c (cellmem x c e)
   exact ⟨v,oc,hk c oc Kq,hd⟩
 · show (capσ src σ).length=N'.length
   unfold capσ
   rw [aab]
   exact zW hc
theorem t5 {H':Hp}{σ':St}{s':Shared}(I:Inv X pins σ H s)(hf:∀b∈fp,dJ X pins H b)(I':Inv (fP X N' sc s H s.heap.objs.size fp xe) [] σ' H' s'):Inv X pins σ H' s':=
 I.FH I'.os I'.base I'.hok I'.bare fun b hb=>⟨(hf b hb).2.2.2.1,(hf b hb).2.1,(hf b hb).2.2.2.2.1,(hf b hb).2.2.2.2.2⟩
theorem Dy {H':Hp}{σ':St}{s':Shared}(I':Inv (fP X N' sc s H s.heap.objs.size fp xe) [] σ' H' s'):∃m,s'.heap.Ns s.heap.objs.size m:=let ⟨m,hn,_⟩:=I'.loc; ⟨m,hn⟩
theorem xK {H1:Hp}{σ1:St}{s1:Shared}{h':Heap}(I:Inv X pins σ H s)(I1:Inv X pins σ1 H1 s1)(hn:H1 s.heap.objs.size=none)(hs:aaT s.heap.objs.size s1.heap h'):Inv X pins σ1 H1 { s1 with heap:=h' }:=by
 obtain ⟨f0,f1,f2,f3,f4,f5⟩:=I.pT (H':=H1) (aaf _) hn
 exact I1.turned (t':=s1.toks) (fun b o hb e=>(hs.2 b hb).trans e) f0 f1 f3 f4 f5
end
def bC:St->St->Prop
 | [],[]=>True
 | none :: r,_ :: r'=>bC r r'
 | some v :: r,u :: r'=>u=some v/\bC r r'
 | _,_=>False
theorem bC.len:∀{a b:St},bC a b->a.length=b.length
 | [],[],_=>rfl
 | [],_ :: _,h=>h.elim
 | none :: _,[],h=>h.elim
 | some _ :: _,[],h=>h.elim
 | none :: r,_ :: r',h=>by
   have h':bC r r':=h
   rw [aay,aay,h'.len]
 | some v :: r,u :: r',h=>by
   have h':u=some v/\bC r r':=h
   rw [aay,aay,h'.2.len]
theorem bC.get:∀{a b:St},bC a b->∀(i:Nat) (v:V),a[i]? = some (some v)->b[i]? = some (some v)
 | [],[],_,i,v,e=>by simp at e
 | [],_ :: _,h,_,_,_=>h.elim
 | none :: _,[],h,_,_,_=>h.elim
 | some _ :: _,[],h,_,_,_=>h.elim
 | none :: r,_ :: r',h,0,v,e=>by simp at e
 | none :: r,_ :: r',h,i + 1,v,e=>by
   have h':bC r r':=h
   simpa using h'.get i v (by simpa using e)
 | some w :: r,u :: r',h,0,v,e=>by
   have h':u=some w/\bC r r':=h
   simp at e
   subst e
   simp [h'.1]
 | some w :: r,u :: r',h,i + 1,v,e=>by
   have h':u=some w/\bC r r':=h
   simpa using h'.2.get i v (by simpa using e)
def oj (X:Cx)(cs:List Expr)(t:TT):Prop:=
 ∀(pins:List (Addr×Obj)) (s:Shared) (σ:St) (H:Hp) (Q:Bool->Hp->Prop),Inv X pins σ H s->t σ H Q ->
   wpAny (model X.prog X.w) X.A (forIn cs true fun c r=>if r=true then do let ok ← isTrue c X.env (eval c X.env); pure (abl ok) else pure (abl r)) (TP X pins σ Q) X.xe s
def JX:TT:=fun _ H Q=>Q true H
theorem Rn {X:Cx}:oj X [] JX:=fun _ _ _ H _ I h=>wpAny_tests_nil ⟨H,I,h⟩
theorem Ro {X:Cx}{c:Expr}{t:TT}(h:PT X c t):oj X [c] t:=fun pins s σ H Q I q=>wpAny_tests_one (h pins s σ H Q I q)
abbrev TM:=St->Hp->(Hp->Prop)->Prop
def Kf (X:Cx)(m:Sem Unit)(t:TM):Prop:=
 ∀(pins:List (Addr×Obj)) (s:Shared) (σ:St) (H:Hp) (Q:Hp->Prop),Inv X pins σ H s->t σ H Q ->
   wpAny (model X.prog X.w) X.A m (fun _ s'=>∃H',Inv X pins σ H' s'/\Q H') X.xe s
def vN (tg:Expr)(ipos:Pos)(ifs:List Expr)(it:Value)(env:Env)(cont:Sem Unit)(more:Sem Fin):Sem Fin:=do
 standAt ipos
 match ← pyNext it with
 | none=>pure (.done .next)
 | some v=>
   letOwnedTupleGo tg it v
   assign tg env v
   let mut ok:=true
   for c in ifs do
     if ok then ok ← isTrue c env (eval c env)
   if ok then cont
   more
def nX (J:It)(σ0:St)(g:TG)(tifs:TT)(tm:TM)(Z:Hp->Prop)(H:Hp):Prop:=
 ∃W:Nat->Nat->Hp->Prop,(∃m,W 0 m H)/\∀i m H,W i m H->(J.stop i H/\Z H) \/
   (J.go i H/\∀x H',J.yld i H x H'->g x σ0 H' fun σ2 H2=>tifs σ2 H2 fun b H3=>
     if b=true then tm σ2 H3 fun H4=>bC σ0 σ2/\∃m',m' < m/\W (i + 1) m' H4 else bC σ0 σ2/\∃m',m' < m/\W (i + 1) m' H3)
section
variable {X:Cx}{e tg:Expr}{ipos:Pos}{ifs:List Expr}{depth:Nat}{acc:Value}{cont:Sem Unit}{it:Addr}{fp:List Addr}{tn:Nat->Heap->Prop}{J:It}{g:TG}{tifs:TT}{tm:TM}{σ0:St}{Z:Hp->Prop}{R:Result->Shared->Prop}
theorem xM (hX:X.xe=notedBy (model X.prog X.w) X.A X.env fun e s'=>R (.error e) s')
   (heq:compTurn e depth (.ref it) acc X.env=vN tg ipos ifs (.ref it) X.env cont (again (.compLoop e depth (.ref it) acc X.env)))
   (hq:(acx e depth (.ref it) acc X.env).quiet=true) (hA:X.A.under (.compLoop e depth (.ref it) acc X.env)=X.A) (hF:(acx e depth (.ref it) acc X.env).isFrame=false)
   (hc:X.calm=true) (T:Turn X.prog X.w X.K tg J fp it tn) (hg:PG X tg g) (hif:oj X ifs tifs) (hm:Kf X cont tm)
   {pins:List (Addr×Obj)} {H:Hp} {s:Shared} (hf:∀b∈fp,dJ X pins H b) (I:Inv X pins σ0 H s) (st:tn 0 s.heap)
   (hZ:∀H' s',Inv X pins σ0 H' s'->(∀b∈fp,H' b=none)->Z H'->R (.ok .next) s') (h:nX J σ0 g tifs tm Z H) :
   codeAny (model X.prog X.w) X.A (.compLoop e depth (.ref it) acc X.env) R s:=by
 obtain ⟨W,⟨m0,w0⟩,turn⟩:=h
 have stat:∀{H':Hp},(∀b∈fp,H' b=none)->∀b∈fp,dJ X pins H' b:=fun hn b hb=>⟨hn b hb,(hf b hb).2⟩
 refine codeAny_loop hq (fun n s'=>∃i H',Inv X pins σ0 H' s'/\tn i s'.heap/\(∀b∈fp,H' b=none)/\W i n H') ?_ m0 ⟨0,H,I,st,fun b hb=>(hf b hb).1,w0⟩
 rintro n s3 ⟨i,H3,I3,Cu,Km,w3⟩
 rw [hA]
 have PB:(model X.prog X.w).den (.compLoop e depth (.ref it) acc X.env)=(compTurn e depth (.ref it) acc X.env).onRaise (fun x=>do noteFrame x X.env; theTreesLotGoes x):=by
   show (if (acx e depth (.ref it) acc X.env).isFrame then _ else _)=_
   rw [if_neg (by rw [hF]; decide)]
 rw [PB]
 refine wpAny_noted ?_
 rw [← hX,heq]
 unfold vN
 refine wpAny_bind (wpAny_standAt ?_)
 have zM:∀{σ7:St} {H7:Hp} {s5 s7:Shared},tn (i + 1) s5.heap->Inv X (pins++nE fp s5.heap) σ7 H7 s7->bC σ0 σ7->(∃m',m' < n/\W (i + 1) m' H7) ->
     ∃m,m < n/\∃i H',Inv X pins σ0 H' s7/\tn i s7.heap/\(∀b∈fp,H' b=none)/\W i m H':=fun {σ7 H7 s5 s7} C9 I7 k7 ⟨m',LH,w7⟩=>by
   refine ⟨m',LH,i + 1,H7,I7.ki.weak k7.len k7.get,T.keep _ _ _ C9 fun b hb o e=>(I7.pin (b,o) (aaP _ (aaP _ (fw hb e)))).1,fun b hb=>?_,w7⟩
   obtain ⟨o,e,d⟩:=T.obj _ _ C9 b hb
   exact (I7.pin (b,o) (aaP _ (aaP _ (fw hb e)))).2.1
 rcases turn i n H3 w3 with ⟨stop,qn⟩ | ⟨go,step⟩
 · refine wpAny_bind (bt (T.done X rfl rfl rfl hc i pins s3 σ0 H3 X.xe I3 (stat Km) Cu stop) fun r s4 ⟨hr,I4⟩=>?_)
   subst hr
   exact wpAny_pure (hZ H3 s4 I4 Km qn)
 · refine wpAny_bind (bt (T.item X rfl rfl rfl hc i pins s3 σ0 H3 X.xe I3 (stat Km) Cu go) fun r s4 ⟨u,hr,h4⟩=>?_)
   subst hr
   refine wpAny_bind (bt h4 fun _ s5 ⟨x,H5,I5,r5,y5,C9,Pa⟩=>?_)
   have OK:=I5.pinned (stat Pa) (T.obj _ _ C9)
   refine wpAny_bind (bt (hg _ s5 σ0 H5 x u _ OK r5 (step x H5 y5)) fun _ s6 ⟨σ6,H6,I6,q6⟩=>?_)
   refine wpAny_bind (bt (hif _ s6 σ6 H6 _ I6 q6) fun b s7 ⟨H7,I7,q7⟩=>?_)
   cases b with
   | false=>
     obtain ⟨k7,w7⟩:=q7
     exact wpAny_pure ⟨rfl,zM C9 I7 k7 w7⟩
   | true=>
     refine wpAny_bind (bt (hm _ s7 σ6 H7 _ I7 q7) fun _ s8 ⟨H8,I8,k8,w8⟩=>?_)
     exact wpAny_pure ⟨rfl,zM C9 I8 k8 w8⟩
end
structure fU (P:Program)(w:World)(A:Around)(e:Expr)(tg iter:Expr)(ifs:List Expr)(emit:Addr->Env->Sem Unit):Prop where
 cl:clausesOf e=[⟨tg,iter,ifs,0⟩]
 turn:∀it D env,compTurn e 0 (.ref it) (.ref D) env=vN tg iter.pos ifs (.ref it) env (emit D env) (again (.compLoop e 0 (.ref it) (.ref D) env))
 start:∀(R:Result->Shared->Prop) (s:Shared) (it acc:Value) (env:Env),codeAny (model P w) A (.compLoop e 0 it acc env) R s ->
   wpAny (model P w) A (pyIter it) (fun X7 s'=>codeAny (model P w) A (.compLoop e 0 X7 acc env) R s') (notedBy (model P w) A env fun x s'=>R (.error x) s') s->codeAny (model P w) A (.compStart e 0 it acc env) R s
 quiet:∀it acc env,(acx e 0 it acc env).quiet=true
 under:∀it acc env,A.under (.compLoop e 0 it acc env)=A
 frame:∀it acc env,(acx e 0 it acc env).isFrame=false
theorem v8 {P:Program}{w:World}{A:Around}{elt tg iter:Expr}{ifs:List Expr}{sc:Scope}{pos:Pos} :
   fU P w A (.ListComp elt [⟨tg,iter,ifs,0⟩] sc pos) tg iter ifs (fun D env=>do let _ ← call (.builtin "list.append") [.ref D,← eval elt env]) where
 cl:=rfl
 turn:=fun it D env=>by rw [compTurn_list]; rfl
 start:=fun R s it acc env h0 h=>codeAny_compStart_list h0 h
 quiet:=fun _ _ _=>rfl
 under:=fun _ _ _=>rfl
 frame:=fun _ _ _=>rfl
theorem Dx {P:Program}{w:World}{A:Around}{kx vx tg iter:Expr}{ifs:List Expr}{sc:Scope}{pos:Pos} :
   fU P w A (.DictComp kx vx [⟨tg,iter,ifs,0⟩] sc pos) tg iter ifs (fun D env=>do
     let kv ← eval kx env
     let vv ← holding [kv] (eval vx env)
     standAt { kx.pos with endLine:=vx.pos.endLine,endCol:=vx.pos.endCol }
     holding [kv,vv] (dictSet D kv vv)) where
 cl:=rfl
 turn:=fun it D env=>by rw [compTurn_dict]; rfl
 start:=fun R s it acc env h0 h=>codeAny_compStart_dict h0 h
 quiet:=fun _ _ _=>rfl
 under:=fun _ _ _=>rfl
 frame:=fun _ _ _=>rfl
section
variable {X:Cx}{e tg iter:Expr}{ifs:List Expr}{emit:Addr->Env->Sem Unit}{sc:Scope}{pos:Pos}{wi:TI}{N':List Str}{src:List (Option Nat)}{g:TG}{tifs:TT}{tm:Addr->TM}{newAcc:Sem Value}{ob:Obj}{accO:HO}
def fE (src:List (Option Nat))(accO:HO)(wi:TI)(g:TG)(tifs:TT)(tm:Addr->TM):TE:=
 fun σ H Q=>wi σ H fun J H1=>∀D,H1 D=none->nX J (capσ src σ) g tifs (tm D) (fun H'=>Q (.ref D) H') (upd H1 D accO)
structure mr (X:Cx)(newAcc:Sem Value)(ob:Obj)(accO:HO):Prop where
 new:∀(s:Shared) (Q:Value->Shared->Prop) (E:Value->Shared->Prop),Q (.ref s.heap.objs.size) { s with heap:=s.heap.push ob }->wpAny (model X.prog X.w) X.A newAcc Q E s
 live:ob.isFreed=false
 ok:∀(pins:List (Addr×Obj)) (σ:St) (H:Hp) (s:Shared),Inv X pins σ H s->bp X.prog X.w (upd H s.heap.objs.size accO) (s.heap.push ob) s.heap.objs.size accO
theorem qX {use:Option (Value->Sem Unit)}{Q':Value->Shared->Prop}(K:fU X.prog X.w X.A e tg iter ifs emit)(hc:X.calm=true)(S:aE sc X.env.scope)(hcap:cX sc src N' X.N=true)(hi:PI X tg iter wi)
   (hb:∀s H C fp xe D,PG (fP X N' sc s H C fp xe) tg g/\oj (fP X N' sc s H C fp xe) ifs tifs/\Kf (fP X N' sc s H C fp xe) (emit D (fP X N' sc s H C fp xe).env) (tm D)) (N:mr X newAcc ob accO)
   (hs:∀x,aa1 iter X.env x=pure x)
   {pins:List (Addr×Obj)} {s:Shared} {σ:St} {H:Hp} {Q:VK} (I:Inv X pins σ H s) (h:fE src accO wi g tifs tm σ H Q)
   (hQ:∀(C D:Addr) (H':Hp) (s':Shared),Inv X pins σ H' s'->Q (.ref D) H'->H' C=none->(∃m,s'.heap.Ns C m)->(∀(σ1:St) (H1:Hp) (s1:Shared) (h':Heap),Inv X pins σ1 H1 s1->H1 C=none->aaT C s1.heap h'->Inv X pins σ1 H1 { s1 with heap:=h' }) ->
     (C≠X.env.locals/\∀x c,X.env.cells.lookup x=some c->c≠C)->compPost (model X.prog X.w) X.A X.xe use Q' (.ref D) C (.ok .next) s') :
   wpAny (model X.prog X.w) X.A (comprehension e sc X.env pos newAcc false (eval iter X.env) use) Q' X.xe s:=by
 refine wpAny_comprehension_free (g:=⟨tg,iter,ifs,0⟩) (gs:=[]) K.cl hs (tY fun p hp hf=>I.ok.has p.1 (S.free p hp hf)) S.kind S.names ?_
 refine bt (hi pins s σ H _ I h) fun v s1 h1=>bt h1 fun itv s2 h2=>?_
 obtain ⟨it,fp,tn,J,H2,e1,I2,T,Ow,f2,q2⟩:=h2
 subst e1
 refine N.new s2 _ _ ?_
 have hD:H2 s2.heap.objs.size=none:=I2.hok.fresh (aaf _)
 have FV:∀b o,s2.heap.get? b=some o->(s2.heap.push ob).get? b=some o:=fun b o e=>aag _ e
 have I3:Inv X pins σ (upd H2 s2.heap.objs.size accO) { s2 with heap:=s2.heap.push ob }:=I2.laid (t':=s2.toks) FV (aaf _) (N.ok pins σ H2 s2 I2)
 have Cu:tn 0 (s2.heap.push ob):=T.keep _ _ _ Ow fun b _ o e=>FV b o e
 have Rf:∀b∈fp,∃o,(s2.heap.push ob).get? b=some o:=fun b hb=>let ⟨o,e,_⟩:=T.obj _ _ Cu b hb; ⟨o,e⟩
 have f3:∀b∈fp,dJ X pins (upd H2 s2.heap.objs.size accO) b:=fun b hb=>by
   refine ⟨?_,(f2 b hb).2⟩
   obtain ⟨o,e,_⟩:=T.obj _ _ Ow b hb
   rw [aj (aaK (aaj e))]
   exact (f2 b hb).1
 have qq:=q2 s2.heap.objs.size hD
 generalize F5:({ s2 with heap:=s2.heap.push ob }:Shared)=s3 at I3 ⊢
 have W8:s2.heap.push ob=s3.heap:=by rw [← F5]
 rw [W8] at Cu Rf
 generalize s2.heap.objs.size=D at I3 f3 qq hD ⊢
 refine wpAny_newFunctionEnv S.cell (by intro y hy; simp at hy) (fun h₁ hns F6=>?_) S.kind
 have Qk:h₁.Ns s3.heap.objs.size (fun _=>none):=hns
 have C0:∀b o,s3.heap.get? b=some o->h₁.get? b=some o:=fun b o e=>F6.extBut b o (aaK (aaj e)) (aag _ e)
 let R:Result->Shared->Prop:=compPost (model X.prog X.w) X.A X.xe use Q' (.ref D) s3.heap.objs.size
 let X':Cx:=fP X N' sc s3 (upd H2 D accO) s3.heap.objs.size fp (notedBy (model X.prog X.w) X.A (compEnvC sc (iG sc X.env) s3.heap.objs.size X.env) fun e s'=>R (.error e) s')
 have I4:Inv X' [] (capσ src σ) (upd H2 D accO) { s3 with heap:=h₁,toks:=s3.toks + ([]:List (Str×Value)).length }:=tZ I3 S hcap f3 Rf Qk C0
 have Ox:tn 0 h₁:=T.keep _ _ _ Cu fun b _ o e=>C0 b o e
 obtain ⟨hg,hif,hm⟩:=hb s3 (upd H2 D accO) s3.heap.objs.size fp (notedBy (model X.prog X.w) X.A (compEnvC sc (iG sc X.env) s3.heap.objs.size X.env) fun e s'=>R (.error e) s') D
 have f4:∀b∈fp,dJ X' [] (upd H2 D accO) b:=fun b hb=>by
   obtain ⟨g0,g1,g2,g3,g4,g5⟩:=f3 b hb
   refine ⟨g0,?_,?_,.inl hb,fun x c e=>?_,fun p hp=>absurd (show p∈([]:List (Addr×Obj)) from hp) (by simp)⟩
   · obtain ⟨o,e⟩:=Rf b hb
     exact aaK (aaj e)
   · intro z
     rcases List.mem_cons.mp (I3.qz b z) with y | y
     · exact g1 y
     · exact g2 y
   · exact g4 x c (tX (aaY e)).2
 have S2:dJ X pins (upd H2 D accO) s3.heap.objs.size:=I3.pT (aaf _) (I3.hok.fresh (aaf _))
 have loop:∀s4:Shared,s4={ s3 with heap:=h₁,toks:=s3.toks + ([]:List (Str×Value)).length }->codeAny (model X.prog X.w) X.A (.compLoop e 0 (.ref it) (.ref D) X'.env) R s4:=by
   rintro s4 rfl
   refine xM (X:=X') (Z:=fun H'=>Q (.ref D) H') rfl (K.turn it D X'.env) (K.quiet _ _ _) (K.under _ _ _) (K.frame _ _ _) hc T hg hif hm f4 I4 Ox (fun H' s' I' _ z=>?_) qq
   refine hQ s3.heap.objs.size D H' s' (t5 I3 f3 I') z I'.free (Dy I') (fun σ1 H1 s1 h' I1 n1 Qy=>xK I3 I1 n1 Qy) ⟨S2.2.1,fun x c e=>S2.2.2.2.2.1 x c e⟩
 exact K.start R _ (.ref it) (.ref D) X'.env (loop _ rfl) (T.self X.A 0 _ _ _ Ox (loop _ rfl))
theorem wQ (K:fU X.prog X.w X.A e tg iter ifs emit)(hc:X.calm=true)(S:aE sc X.env.scope)(hcap:cX sc src N' X.N=true)(hi:PI X tg iter wi)
   (hb:∀s H C fp xe D,PG (fP X N' sc s H C fp xe) tg g/\oj (fP X N' sc s H C fp xe) ifs tifs/\Kf (fP X N' sc s H C fp xe) (emit D (fP X N' sc s H C fp xe).env) (tm D)) (N:mr X newAcc ob accO)
   (hs:∀x,aa1 iter X.env x=pure x) (he:eval e X.env=comprehension e sc X.env pos newAcc false (eval iter X.env)):PE X e (fE src accO wi g tifs tm):=by
 intro pins s σ H Q I h
 rw [he]
 refine qX (use:=none) (Q:=Q) K hc S hcap hi hb N hs I h fun C D H' s' I' q hn ⟨m,hm⟩ gone _=>?_
 exact ⟨m,hm,fun h' pZ=>⟨.ref D,H',gone σ H' s' h' I' hn pZ,rfl,q⟩⟩
theorem EZ {i:Nat}{x:Str}{pos' dR:Pos}(K:fU X.prog X.w X.A e tg iter ifs emit)(hc:X.calm=true)(S:aE sc X.env.scope)(hcap:cX sc src N' X.N=true)(hi:PI X tg iter wi)
   (hb:∀s H C fp xe D,PG (fP X N' sc s H C fp xe) tg g/\oj (fP X N' sc s H C fp xe) ifs tifs/\Kf (fP X N' sc s H C fp xe) (emit D (fP X N' sc s H C fp xe).env) (tm D)) (N:mr X newAcc ob accO)
   (hs:∀x,aa1 iter X.env x=pure x) (he:∀u,evalThenUse e X.env u=(do let _ ← comprehension e sc X.env pos newAcc false (eval iter X.env) (some u)))
   (hN:X.N.Nodup) (hix:X.N[i]? = some x) (hx:Loc X.env.scope x) (hsw:abZ e (some (.Name x pos')) dR.line X.env=pure true)
   (hf:X.fn x=true\/X.env.scope.names.lookup x=some .local:=by first | exact .inl rfl | exact .inr rfl | assumption) :
   PS X (.Assign [.Name x pos'] e dR) (vL (fE src accO wi g tifs tm) (kZ i)):=by
 intro pins s σ H D0 I h
 rw [exec_Assign_Name_used x pos' e dR hsw,he]
 refine wpAny_bind (wpAny_standAt (wpAny_bind (wpAny_bind ?_)))
 refine qX (use:=some (assign (.Name x pos') X.env)) (Q:=fun v H'=>D0.nx (σ.set i (some v)) H') (Q':=fun _ s'=>wpAny _ _ _ _ _ s') K hc S hcap hi hb N hs I h fun C D H' s' I' q hn ⟨m,hm⟩ gone ⟨WG,hCc⟩=>?_
 refine wpAny_assign_Name (pG (v:=.ref D) I' hN hix hx rfl (fun s2 I2 hch=>?_) hf)
 obtain ⟨a,F6,ha⟩:=hch
 have hne:C≠a:=by
   rcases ha with z | z
   · rw [z]; exact WG
   · exact (hCc x a z).symm
 refine ⟨m,hm.sameBut F6 hne,fun h' pZ=>?_⟩
 exact wpAny_pure (wpAny_pure ⟨_,H',gone _ H' s2 h' I2 hn pZ,q⟩)
end
section
variable {X:Cx}{elt kx vx:Expr}{te tk tv:TE}
def dg (te:TE)(D:Addr):TM:=fun σ H K=>te σ H fun y H1=>∃ys,H1 D=some (.lst ys)/\ys.length < sizeLine/\K (upd H1 D (.lst (ys++[y])))
theorem BS (h:PE X elt te)(D:Addr):Kf X (do let _ ← call (.builtin "list.append") [.ref D,← eval elt X.env]) (dg te D):=by
 intro pins s σ H Q I q
 refine wpAny_bind (bt (h pins s σ H _ I q) fun u s1 ⟨y,H1,I1,ru,ys,e,z,k⟩=>?_)
 refine wpAny_bind (bt (o9 pins s1 σ H1 (.ref D) [y] (.ref D) [u] (fun _ H'=>Q H') I1 rfl (.cons ru .nil) ⟨D,ys,y,rfl,rfl,e,z,k⟩) fun r s2 ⟨v,H2,I2,_,k2⟩=>?_)
 exact wpAny_pure ⟨H2,I2,k2⟩
theorem xO {pins:List (Addr×Obj)}{σ:St}{H H':Hp}{s:Shared}{a:Addr}{y v:V}{u r:Value}{A:Around}{E:Value->Shared->Prop}{Q:Unit->Shared->Prop}(hu:A.units + 1 < cLine)(I:Inv X pins σ H s)(g:mv H a y v H')(ry:RelV y u)(rv:RelV v r)(h:∀s',Inv X pins σ H' s'->Q () s') :
   wpAny (model X.prog X.w) A (dictSet a u r) Q E s:=by
 rcases g with ⟨kvs,k,e,ey,l,eH⟩ | ⟨kvs,k,b,e,ey,eb,l,eH⟩
 · subst ey eH
   obtain ⟨z,hd,vs,rel,dd⟩:=wo I.hok e
   have hz:vs.length<=sizeLine:=by rw [← rel.length]; exact z
   have hl:(putK kvs k v).length<=sizeLine:=by have:=bL kvs k v; omega
   refine wpAny_dictSet_pairs (hsz:=hz) (jA ry) dd fun h' oq hs=>h _ ?_
   have he:∃q,h'.get? a=some q:=let ⟨q,_,_,hq,_⟩:=oq; ⟨q,hq⟩
   exact eE I (by rw [e]; exact aaF) hs he (pR hl hd (rel.put k rv) oq)
 · subst ey eH
   cases (show u=aax b from ry)
   obtain ⟨z,hd,xs,rel,dd⟩:=wq I.hok e
   have hz:xs.length<=sizeLine:=by rw [← Paired.length rel]; exact z
   have hl:(putK kvs k v).length<=sizeLine:=by have:=bL kvs k v; omega
   have LS:(tupleKind (aO X.prog X.w)).room A:=show A.units < cLine by omega
   refine wpAny_dictSet_heap (hsz:=hz) LS (i0 I.hok eb) dd fun h' oq hs=>h _ ?_
   obtain ⟨q,es,ep,hq,h2,h3,h4,_,h5⟩:=oq
   refine eE I (by rw [e]; exact aaF) hs ⟨q,hq⟩ ⟨hl,hd,_,(rel.put k eb rv).keeps fun c ys ec=>?_,q,es,ep,hq,h2,h3,h4,h5⟩
   rw [aj (fJ ec e (fun z=>nomatch z))]
   exact ec
def Eh (tk tv:TE)(D:Addr):TM:=fun σ H K=>tk σ H fun y H1=>tv σ H1 fun v H2=>∃H3,mv H2 D y v H3/\K H3
theorem Jy (hu:X.A.units + 1 < cLine)(hk:PE X kx tk)(hv:PE X vx tv)(D:Addr):Kf X (do
     let kv ← eval kx X.env
     let vv ← holding [kv] (eval vx X.env)
     standAt { kx.pos with endLine:=vx.pos.endLine,endCol:=vx.pos.endCol }
     holding [kv,vv] (dictSet D kv vv)) (Eh tk tv D):=by
 intro pins s σ H Q I q
 refine wpAny_bind (bt (hk pins s σ H _ I q) fun u s1 ⟨y,H1,I1,ru,q1⟩=>?_)
 refine wpAny_bind (wpAny_holding (bt (hv pins s1 σ H1 _ I1 q1) fun r s2 ⟨v,H2,I2,rv,H3,g,q2⟩=>?_))
 exact wpAny_bind (wpAny_standAt (wpAny_holding (xO hu I2 g ru rv fun s3 I3=>⟨H3,I3,q2⟩)))
theorem G3:mr X newDict { cls:=.type "dict",data:=.dict #[] } (.dT []) where
 new:=fun s Q E h=>wpAny_newObj_type h
 live:=rfl
 ok:=fun pins σ H s I=>z9 s.heap I.big
theorem qO:mr X (newList []) { cls:=.type "list",data:=.seq #[] } (.lst []) where
 new:=fun s Q E h=>wpAny_newObj_type h
 live:=rfl
 ok:=fun pins σ H s I=>⟨aaU _,[],0,.nil,aaE _ rfl⟩
end
section
variable {X:Cx}{elt kx vx tg iter:Expr}{ifs:List Expr}{sc:Scope}{pos:Pos}{wi:TI}{N':List Str}{src:List (Option Nat)}{g:TG}{tifs:TT}{te tk tv:TE}
theorem Mz (src:List (Option Nat))(N':List Str)(hc:X.calm=true)(S:aE sc X.env.scope)(hcap:cX sc src N' X.N=true)(hi:PI X tg iter wi)
   (hb:∀s H C fp xe,PG (fP X N' sc s H C fp xe) tg g/\oj (fP X N' sc s H C fp xe) ifs tifs/\PE (fP X N' sc s H C fp xe) elt te)
   (hs:∀x,aa1 iter X.env x=pure x:=by intro _; rfl):PE X (.ListComp elt [⟨tg,iter,ifs,0⟩] sc pos) (fE src (.lst []) wi g tifs (dg te)):=
 wQ v8 hc S hcap hi (fun s H C fp xe D=>⟨(hb s H C fp xe).1,(hb s H C fp xe).2.1,BS (hb s H C fp xe).2.2 D⟩) qO hs rfl
theorem MG {i:Nat}{x:Str}{pos' dR:Pos}(src:List (Option Nat))(N':List Str)(hc:X.calm=true)(S:aE sc X.env.scope)(hcap:cX sc src N' X.N=true)(hi:PI X tg iter wi)
   (hb:∀s H C fp xe,PG (fP X N' sc s H C fp xe) tg g/\oj (fP X N' sc s H C fp xe) ifs tifs/\PE (fP X N' sc s H C fp xe) elt te)
   (hN:X.N.Nodup) (hix:X.N[i]? = some x) (hx:Loc X.env.scope x) (hsw:abZ (.ListComp elt [⟨tg,iter,ifs,0⟩] sc pos) (some (.Name x pos')) dR.line X.env=pure true:=by rfl)
   (hs:∀x,aa1 iter X.env x=pure x:=by intro _; rfl) (hf:X.fn x=true\/X.env.scope.names.lookup x=some .local:=by first | exact .inl rfl | exact .inr rfl | assumption) :
   PS X (.Assign [.Name x pos'] (.ListComp elt [⟨tg,iter,ifs,0⟩] sc pos) dR) (vL (fE src (.lst []) wi g tifs (dg te)) (kZ i)):=
 EZ v8 hc S hcap hi (fun s H C fp xe D=>⟨(hb s H C fp xe).1,(hb s H C fp xe).2.1,BS (hb s H C fp xe).2.2 D⟩) qO hs (fun _=>rfl) hN hix hx hsw hf
theorem Jh (src:List (Option Nat))(N':List Str)(hu:X.A.units + 1 < cLine)(hc:X.calm=true)(S:aE sc X.env.scope)(hcap:cX sc src N' X.N=true)(hi:PI X tg iter wi)
   (hb:∀s H C fp xe,PG (fP X N' sc s H C fp xe) tg g/\oj (fP X N' sc s H C fp xe) ifs tifs/\PE (fP X N' sc s H C fp xe) kx tk/\PE (fP X N' sc s H C fp xe) vx tv)
   (hs:∀x,aa1 iter X.env x=pure x:=by intro _; rfl):PE X (.DictComp kx vx [⟨tg,iter,ifs,0⟩] sc pos) (fE src (.dT []) wi g tifs (Eh tk tv)):=
 wQ Dx hc S hcap hi (fun s H C fp xe D=>⟨(hb s H C fp xe).1,(hb s H C fp xe).2.1,Jy (X:=fP X N' sc s H C fp xe) hu (hb s H C fp xe).2.2.1 (hb s H C fp xe).2.2.2 D⟩) G3 hs rfl
end
section
variable {K:aac}{a:Addr}{xs:List V}{g:TG}{tifs:TT}{tm:TM}{σ0:St}{Z:Hp->Prop}{H:Hp}
theorem lW (n:Nat){J:It}(Pv:Nat->Hp->Prop)(h0:Pv 0 H)(hgo:∀i H,i < n->Pv i H->J.go i H)(hst:∀H,Pv n H->J.stop n H)
   (turn:∀i H,i < n->Pv i H->∀x H',J.yld i H x H'->g x σ0 H' fun σ2 H2=>tifs σ2 H2 fun b H3=>
     if b=true then tm σ2 H3 fun H4=>bC σ0 σ2/\∃m',m' < n - i/\(m'=n - (i + 1)/\i + 1<=n/\Pv (i + 1) H4) else bC σ0 σ2/\∃m',m' < n - i/\(m'=n - (i + 1)/\i + 1<=n/\Pv (i + 1) H3))
   (hZ:∀H,Pv n H->Z H):nX J σ0 g tifs tm Z H:=by
 refine ⟨fun i m H=>m=n - i/\i<=n/\Pv i H,⟨n,by simp,aaU _,h0⟩,?_⟩
 rintro i m H ⟨rfl,hi,p⟩
 by_cases hlt:i < n
 · exact .inr ⟨hgo i H hlt p,turn i H hlt p⟩
 · have e:i=n:=by omega
   subst e
   exact .inl ⟨hst H p,hZ H p⟩
theorem bj (Pv:Nat->Hp->Prop)(h0:Pv 0 H)(hl:∀i H,i<=xs.length->Pv i H->ao K H a xs)
   (turn:∀i x H,xs[i]? = some x->Pv i H->g x σ0 H fun σ2 H2=>tifs σ2 H2 fun b H3=>
     if b=true then tm σ2 H3 fun H4=>bC σ0 σ2/\∃m',m' < xs.length - i/\(m'=xs.length - (i + 1)/\i + 1<=xs.length/\Pv (i + 1) H4) else bC σ0 σ2/\∃m',m' < xs.length - i/\(m'=xs.length - (i + 1)/\i + 1<=xs.length/\Pv (i + 1) H3))
   (hZ:∀H,Pv xs.length H->Z H):nX (Kb K a) σ0 g tifs tm Z H:=by
 refine lW xs.length Pv h0 (fun i H hi p=>⟨xs,xs[i],hl i H (abi hi) p,by simp [hi]⟩) (fun H p=>⟨xs,hl _ H (aaf _) p,aaf _⟩) (fun i H hi p x H' y=>?_) hZ
 obtain ⟨e,y⟩:=y
 subst e
 exact turn i x _ (y xs (hl i _ (abi hi) p)) p
theorem qY (Pv:Nat->Hp->Prop)(h0:Pv 0 H)(hl:∀i H,i<=xs.length->Pv i H->aK K H a xs)
   (turn:∀i x H,xs[i]? = some x->Pv i H->g x σ0 H fun σ2 H2=>tifs σ2 H2 fun b H3=>
     if b=true then tm σ2 H3 fun H4=>bC σ0 σ2/\∃m',m' < xs.length - i/\(m'=xs.length - (i + 1)/\i + 1<=xs.length/\Pv (i + 1) H4) else bC σ0 σ2/\∃m',m' < xs.length - i/\(m'=xs.length - (i + 1)/\i + 1<=xs.length/\Pv (i + 1) H3))
   (hZ:∀H,Pv xs.length H->Z H):nX (Kc K a) σ0 g tifs tm Z H:=by
 refine lW xs.length Pv h0 (fun i H hi p=>⟨xs,xs[i],hl i H (abi hi) p,by simp [hi]⟩) (fun H p=>⟨xs,hl _ H (aaf _) p,aaf _⟩) (fun i H hi p x H' y=>?_) hZ
 obtain ⟨e,y⟩:=y
 subst e
 exact turn i x _ (y xs (hl i _ (abi hi) p)) p
theorem d6 {lo:Int}{n:Nat}(Pv:Nat->Hp->Prop)(h0:Pv 0 H)
   (turn:∀i H,i < n->Pv i H->g (.int (lo + i)) σ0 H fun σ2 H2=>tifs σ2 H2 fun b H3=>
     if b=true then tm σ2 H3 fun H4=>bC σ0 σ2/\∃m',m' < n - i/\(m'=n - (i + 1)/\i + 1<=n/\Pv (i + 1) H4) else bC σ0 σ2/\∃m',m' < n - i/\(m'=n - (i + 1)/\i + 1<=n/\Pv (i + 1) H3))
   (hZ:∀H,Pv n H->Z H):nX (FA lo n) σ0 g tifs tm Z H:=by
 refine lW n Pv h0 (fun i H hi p=>hi) (fun H p=>aaf _) (fun i H hi p x H' y=>?_) hZ
 obtain ⟨e,y⟩:=y
 subst e y
 exact turn i _ hi p
theorem aL {n i:Nat}{P:Prop}{Pv:Nat->Hp->Prop}{H:Hp}(k:P)(hi:i < n)(p:Pv (i + 1) H):P/\∃m',m' < n - i/\(m'=n - (i + 1)/\i + 1<=n/\Pv (i + 1) H):=⟨k,_,by omega,rfl,hi,p⟩
end
section
variable {X:Cx}{pins:List (Addr×Obj)}{σ:St}{H:Hp}{s:Shared}{h':Heap}{ch:List Addr}{a:Addr}{o:HO}
theorem Inv.many {t':Nat}(I:Inv X pins σ H s)(hch:∀b∈ch,dJ X pins H b)(k:∀b ob,b ∉ ch->s.heap.get? b=some ob->h'.get? b=some ob)(hp:s.heap.objs.size<=a)(new:bp X.prog X.w (upd H a o) h' a o) :
   Inv X pins σ (upd H a o) { s with heap:=h',toks:=t' }:=by
 have hn:H a=none:=I.hok.fresh hp
 have na:∀b ob,s.heap.get? b=some ob->b≠a:=fun b ob e=>aaK (aat (aaj e) hp)
 have Bh:∀b u,H b=some u->b ∉ ch:=fun b u e z=>by rw [(hch b z).1] at e; cases e
 refine I.step (g':=s.gens) (d':=s.drawn) (ch:=ch) (fun b hb=>⟨(hch b hb).2.2.2.1,(hch b hb).2.1,(hch b hb).2.2.2.2.1,(hch b hb).2.2.2.2.2⟩) (fun b ob _ _ hc e _=>k b ob hc e) (fun b ob _ _ hc e _=>⟨ob.slots,k b ob hc e⟩)
   (fun b ob _ e n=>by rw [aj (na b ob e)]; exact n) (fun b ob hc e=>⟨ob,k b ob hc e⟩) (fun b xs e=>by rw [aj (ai e hn)]; exact e) (fun b ob u e=>by rw [aj (ai e hn)]; exact e)
   (fun b ps e=>⟨#[],by rw [aj (ai e hn),e]; simp⟩) (fun m hm=>?_) (fun b u e=>?_) I.bare
 · obtain ⟨ob,es,ep,ho,r⟩:=hm
   exact ⟨ob,es,ep,k _ ob (fun z=>(hch _ z).2.1 rfl) ho,r⟩
 · by_cases hb:b=a
   · subst hb; rw [ae] at e; cases e; exact new
   · rw [aj hb] at e
     refine (I.hok b u e).oH (fun c v hc q=>k c v ?_ q) (fun c q=>by rw [aj (ai q hn)]; exact q) fun c xs q=>by rw [aj (ai q hn)]; exact q
     rcases hc with z | z
     · subst z; exact Bh c u e
     · exact Bh c _ z
theorem Inv.wK {t':Nat}(I:Inv X pins σ H s)(hch:∀b∈ch,dJ X pins H b)(k:∀b ob,b ∉ ch->s.heap.get? b=some ob->h'.get? b=some ob) :
   Inv X pins σ H { s with heap:=h',toks:=t' }:=by
 have Bh:∀b u,H b=some u->b ∉ ch:=fun b u e z=>by rw [(hch b z).1] at e; cases e
 refine I.step (g':=s.gens) (d':=s.drawn) (ch:=ch) (fun b hb=>⟨(hch b hb).2.2.2.1,(hch b hb).2.1,(hch b hb).2.2.2.2.1,(hch b hb).2.2.2.2.2⟩) (fun b ob _ _ hc e _=>k b ob hc e) (fun b ob _ _ hc e _=>⟨ob.slots,k b ob hc e⟩)
   (fun b ob _ e n=>n) (fun b ob hc e=>⟨ob,k b ob hc e⟩) (fun b xs e=>e) (fun b ob u e=>e)
   (fun b ps e=>⟨#[],by rw [e]; simp⟩) (fun m hm=>?_) (fun b u e=>?_) I.bare
 · obtain ⟨ob,es,ep,ho,r⟩:=hm
   exact ⟨ob,es,ep,k _ ob (fun z=>(hch _ z).2.1 rfl) ho,r⟩
 · refine (I.hok b u e).oH (fun c v hc q=>k c v ?_ q) (fun c q=>q) fun c xs q=>q
   rcases hc with z | z
   · subst z; exact Bh c u e
   · exact Bh c _ z
end
def Kd (K:aac)(a b:Addr):It:=
 ⟨fun i H=>∃xs ys x y,ao K H a xs/\ao K H b ys/\xs[i]? = some x/\ys[i]? = some y,
  fun i H v H'=>∃p x y,H p=none/\v=.ref p/\H'=upd H p (.tup [x,y])/\∀xs ys,ao K H a xs->ao K H b ys->xs[i]? = some x/\ys[i]? = some y,
  fun i H=>∃xs ys,ao K H a xs/\ao K H b ys/\(xs.length<=i\/ys.length<=i)⟩
theorem CJ {P:Program}{w:World}{K:aac}{elts:List Expr}{x1:Nat}{tp:Pos}{a b z TI TO i1 i2:Addr}(D:abR z TI TO i1 i2 a b) :
   Turn P w K (.Tuple elts x1 tp) (Kd K a b) [z,TI,TO,i1,i2] z (fun i h=>IsZip h z TI TO .none/\IsPair h TI (.ref i1) (.ref i2)/\(∃x y,IsPair h TO x y)/\h.IsListIter i1 a i/\h.IsListIter i2 b i) where
 mem:=by simp
 obj:=fun i h st c hc=>by
   obtain ⟨hz,hTI,⟨x,y,hTO⟩,⟨o1,e1,c1,d1⟩,⟨o2,e2,c2,d2⟩⟩:=st
   simp only [aaG,aau,or_false] at hc
   rcases hc with rfl | rfl | rfl | rfl | rfl
   · exact ⟨_,hz,fun v q=>nomatch q⟩
   · exact ⟨_,hTI,fun v q=>nomatch q⟩
   · exact ⟨_,hTO,fun v q=>nomatch q⟩
   · exact ⟨_,e1,fun v q=>by rw [d1] at q; cases q⟩
   · exact ⟨_,e2,fun v q=>by rw [d2] at q; cases q⟩
 keep:=fun i h h' st k=>by
   obtain ⟨hz,hTI,⟨x,y,hTO⟩,h1,h2⟩:=st
   exact ⟨k z (by simp) _ hz,k TI (by simp) _ hTI,⟨x,y,k TO (by simp) _ hTO⟩,h1.at fun o e=>k i1 (by simp) o e,h2.at fun o e=>k i2 (by simp) o e⟩
 item:=by
   intro X hP hw hK hc i pins s σ H E I hf st hg
   subst hP hw hK
   obtain ⟨xs,ys,x,y,oD,oE,hx,hy⟩:=hg
   obtain ⟨uO,vz,p1,_⟩:=I.list oD
   obtain ⟨eY,vA,p2,_⟩:=I.list oE
   obtain ⟨u,hu,ru⟩:=vz.get hx
   obtain ⟨v,hv,rv⟩:=vA.get hy
   obtain ⟨hz,hTI,⟨x0,y0,hTO⟩,h1,h2⟩:=st
   refine wpAny_pyNext_zip_item D hz hTI hTO h1 h2 p1.isList p2.isList (x:=u) (y:=v) (by simpa using hu) (by simpa using hv) fun h' a1 a2 a3 a4 a5 a6 hk=>?_
   refine ⟨_,rfl,wpAny_letOwnedTupleGo_zip (s:={ s with heap:=h' }) a1 fun rF Ie pZ=>?_⟩
   have hT:H s.heap.objs.size=none:=I.hok.fresh (aaf _)
   have Ud:z < s.heap.objs.size:=aaj hz
   have kk:∀c o,c ∉ ([z,TO,i1,i2]:List Addr)->s.heap.get? c=some o->rF.get? c=some o:=fun c o dH e=>by
     simp only [aaG,aau,or_false,not_or] at dH
     exact pZ.extBut _ _ dH.1 (hk c o dH.1 dH.2.1 dH.2.2.1 dH.2.2.2 e)
   have Ph:IsPair rF s.heap.objs.size u v:=pZ.extBut _ _ (ack Ud) a5
   have I1:Inv X pins σ (upd H s.heap.objs.size (.tup [x,y])) { s with heap:=rF,toks:=s.toks }:=I.many (ch:=[z,TO,i1,i2]) (fun c dH=>hf c (by simp only [aaG,aau,or_false] at dH ⊢; rcases dH with r | r | r | r <;> simp [r])) kk (aaf _)
     ⟨by show 2<=sizeLine; decide,[u,v],.cons ru (.cons rv .nil),_,Ph,rfl,_,rfl⟩
   refine ⟨.ref s.heap.objs.size,_,I1,rfl,⟨_,x,y,hT,rfl,rfl,fun Zk Nw q1 q2=>?_⟩,?_,fun c dH=>?_⟩
   · rw [I.gu q1 oD,I.gu q2 oE]; exact ⟨hx,hy⟩
   · exact ⟨Ie,pZ.extBut _ _ D.TIz (hk _ _ D.TIz D.TITO D.TIi1 D.TIi2 hTI),⟨_,_,pZ.extBut _ _ D.TOz a2⟩,a3.extBut pZ.extBut D.i1z,a4.extBut pZ.extBut D.i2z⟩
   · have lt:c < s.heap.objs.size:=by
       simp only [aaG,aau,or_false] at dH
       rcases dH with rfl | rfl | rfl | rfl | rfl
       · exact Ud
       · exact aaj hTI
       · exact aaj hTO
       · obtain ⟨_,e,_⟩:=h1; exact aaj e
       · obtain ⟨_,e,_⟩:=h2; exact aaj e
     rw [aj (aaK lt)]
     exact (hf c dH).1
 done:=by
   intro X hP hw hK hc i pins s σ H E I hf st hg
   subst hP hw hK
   obtain ⟨xs,ys,oD,oE,hend⟩:=hg
   obtain ⟨uO,vz,p1,_⟩:=I.list oD
   obtain ⟨eY,vA,p2,_⟩:=I.list oE
   have l1:=vz.length
   have l2:=vA.length
   obtain ⟨hz,hTI,⟨x0,y0,hTO⟩,h1,h2⟩:=st
   refine wpAny_pyNext_zip_end (I.ok.hd hc) D hz hTI hTO h1 h2 p1.isList p2.isList ?_ fun h' hk=>⟨rfl,?_⟩
   · rcases hend with q | q
     · exact .inl (by simp; omega)
     · exact .inr (by simp; omega)
   · exact I.wK (t':=s.toks) (ch:=[z,TO,i1,i2]) (fun c dH=>hf c (by simp only [aaG,aau,or_false] at dH ⊢; rcases dH with r | r | r | r <;> simp [r])) fun c o dH e=>by
       simp only [aaG,aau,or_false,not_or] at dH
       exact hk c o dH.1 dH.2.1 dH.2.2.1 dH.2.2.2 e
 self:=fun _ _ _ _ _ st h=>wpAny_pyIter_zip st.1 h
def Ig (K:aac)(ta:TA):TI:=fun σ H R=>ta σ H fun vs H1=>∃a b,vs=[.ref a,.ref b]/\(∃xs,ao K H1 a xs)/\(∃ys,ao K H1 b ys)/\R (Kd K a b) H1
section
variable {X:Cx}
theorem Jw {a b:Expr}{ta:TA}{p pos tp:Pos}{elts:List Expr}{x1:Nat}(hg:Gl X "zip")(hm:X.mg "zip"=none)(ha:PA X [a,b] ta)(hs:starEach [a,b] X.env=[(false,eval a X.env),(false,eval b X.env)]:=by rfl)(hs2:starEach [b] X.env=[(false,eval b X.env)]:=by rfl)
   (hb:aa4 "zip"=some (.type "zip"):=by first | rfl | decide +kernel) :
   PI X (.Tuple elts x1 tp) (.Call (.Name "zip" p) [a,b] [] pos) (Ig X.K ta):=by
 intro pins s σ H R I h
 refine Call_ (eQ I hg hm hb (aaQ (bt (ha pos pins s σ H _ I h) fun us s1 ⟨vs,H1,I1,r1,q1⟩=>?_) (by rw [hs,hs2]) (by rw [hs2]; rfl)))
 obtain ⟨l1,l2,e,⟨xs,oD⟩,⟨ys,oE⟩,q⟩:=q1
 subst e
 obtain ⟨u,v,rfl,ru,rv⟩:=Vals.two r1
 obtain rfl:u=aax l1:=ru
 obtain rfl:v=aax l2:=rv
 obtain ⟨uO,vz,p1,_⟩:=I1.list oD
 obtain ⟨eY,vA,p2,_⟩:=I1.list oE
 have Mb:l1 < s1.heap.objs.size:=by obtain ⟨_,_,e,_⟩:=p1; exact aaj e
 have Mc:l2 < s1.heap.objs.size:=by obtain ⟨_,_,e,_⟩:=p2; exact aaj e
 refine call_zip_2 p1.isList p2.isList fun h' hz hTI hTO uD DW hsz hk=>?_
 refine wpAny_pyIter_zip hz ?_
 have I2:Inv X pins σ H1 { s1 with heap:=h' }:=I1.kept (t':=s1.toks) hk
 have D:=zipApart_new Mb Mc
 refine ⟨_,_,_,_,H1,rfl,I2,CJ D,⟨hz,hTI,⟨_,_,hTO⟩,uD,DW⟩,fun c hc=>?_,q⟩
 simp only [aaG,aau,or_false] at hc
 have up:∀k,dJ X pins H1 (s1.heap.objs.size + k):=fun k=>I1.pT (abN _ _) (I1.hok.fresh (abN _ _))
 rcases hc with rfl | rfl | rfl | rfl | rfl
 · exact up 4
 · exact up 2
 · exact up 3
 · exact up 0
 · exact up 1
end
section
variable {K:aac}{a b:Addr}{xs ys:List V}{g:TG}
theorem wz {tb:TS}{D:Ends}{σ:St}{H:Hp}(hlen:xs.length=ys.length)(Pv:Nat->St->Hp->Prop)(h0:Pv 0 σ H)(hl:∀i σ H,i<=xs.length->Pv i σ H->ao K H a xs/\ao K H b ys)
   (hs:∀i x y p σ H,xs[i]? = some x->ys[i]? = some y->Pv i σ H->H p=none->g (.ref p) σ (upd H p (.tup [x,y])) fun σ2 H2=>tb { D with nx:=Pv (i + 1),ct:=Pv (i + 1),bk:=D.nx } σ2 H2) (hd:∀σ H,Pv xs.length σ H->D.nx σ H) :
   ∃W:Nat->Nat->St->Hp->Prop,(∃m,W 0 m σ H)/\∀i m σ H,W i m σ H ->
     ((Kd K a b).stop i H/\D.nx σ H)\/((Kd K a b).go i H/\∃N:St->Hp->Prop,(∀σ' H',N σ' H'->∃m',m' < m/\W (i + 1) m' σ' H')/\∀x H',(Kd K a b).yld i H x H'->g x σ H' fun σ2 H2=>tb { D with nx:=N,ct:=N,bk:=D.nx } σ2 H2):=by
 refine ⟨fun i m σ H=>m=xs.length - i/\i<=xs.length/\Pv i σ H,⟨xs.length,by simp,aaU _,h0⟩,?_⟩
 rintro i m σ H ⟨rfl,hi,p⟩
 obtain ⟨q1,q2⟩:=hl i σ H hi p
 by_cases hlt:i < xs.length
 · refine .inr ⟨⟨xs,ys,xs[i],ys[i]'(hlen ▸ hlt),q1,q2,by simp [hlt],by simp [hlen ▸ hlt]⟩,Pv (i + 1),fun σ' H' p'=>⟨xs.length - (i + 1),by omega,rfl,hlt,p'⟩,fun x H' y=>?_⟩
   obtain ⟨pp,x1,y1,hn,rfl,rfl,k⟩:=y
   obtain ⟨k1,k2⟩:=k xs ys q1 q2
   exact hs i x1 y1 pp σ H k1 k2 p hn
 · have e:i=xs.length:=by omega
   subst e
   exact .inl ⟨⟨xs,ys,q1,q2,.inl (aaf _)⟩,hd σ H p⟩
theorem qZ {tifs:TT}{tm:TM}{σ0:St}{Z:Hp->Prop}{H:Hp}(hlen:xs.length=ys.length)(Pv:Nat->Hp->Prop)(h0:Pv 0 H)(hl:∀i H,i<=xs.length->Pv i H->ao K H a xs/\ao K H b ys)
   (turn:∀i x y p H,xs[i]? = some x->ys[i]? = some y->Pv i H->H p=none->g (.ref p) σ0 (upd H p (.tup [x,y])) fun σ2 H2=>tifs σ2 H2 fun b H3=>
     if b=true then tm σ2 H3 fun H4=>bC σ0 σ2/\∃m',m' < xs.length - i/\(m'=xs.length - (i + 1)/\i + 1<=xs.length/\Pv (i + 1) H4) else bC σ0 σ2/\∃m',m' < xs.length - i/\(m'=xs.length - (i + 1)/\i + 1<=xs.length/\Pv (i + 1) H3))
   (hZ:∀H,Pv xs.length H->Z H):nX (Kd K a b) σ0 g tifs tm Z H:=by
 refine lW xs.length Pv h0 (fun i H hi p=>⟨xs,ys,xs[i],ys[i]'(hlen ▸ hi),(hl i H (abi hi) p).1,(hl i H (abi hi) p).2,by simp [hi],by simp [hlen ▸ hi]⟩) (fun H p=>⟨xs,ys,(hl _ H (aaf _) p).1,(hl _ H (aaf _) p).2,.inl (aaf _)⟩) (fun i H hi p x H' y=>?_) hZ
 obtain ⟨pp,x1,y1,hn,rfl,rfl,k⟩:=y
 obtain ⟨k1,k2⟩:=k xs ys (hl i H (abi hi) p).1 (hl i H (abi hi) p).2
 exact turn i x1 y1 pp H k1 k2 p hn
end
end L2
namespace PySem
theorem qb:adu (.type "list") "keys"=pure none:=by rw [adP,acW]; kernel_rfl
section
variable {prog:Program}{w:World}{A:Around}{E:Value->Shared->Prop}{s:Shared}
theorem jD {a:Addr}{xs:Array Value}{k:Nat}{u:Tok}{Q:Value->Shared->Prop}(hx:s.heap.get? a=some { cls:=.type "list",data:=.seq xs k })(hA:A.handled=none)
   (h:∀h' tk e,Heap.NewAttrErr s.heap h' e (.ref a) "keys"->E (.ref e) { s with heap:=h',toks:=tk }) :
   wpAny (model prog w) A (getAttrBy (.ref a) (.str "keys" u) false) Q E s:=by
 obtain ⟨hp,g,d,tk,os⟩:=s
 have hT:∀OB,(⟨hp,g,d,OB,os⟩ : Shared).TypeIs (.ref a) "list":=fun _=>⟨_,hx,rfl⟩
 have f1:=acv
 have f3:=F.slot_list_getattribute.lookup
 have f4:=F.slot_list_getattribute.bind (.ref a)
 have f5:=am_list_getattr_none
 unfold getAttrBy
 repeat (any_goals (first | assumption | exact hT _ | ((with_reducible show wpAny _ _ (call (acs "list.__getattribute__") _ _) _ _ _); refine call_meets F.slot_list_getattribute (hT _) am_entry_list_getattribute (F.args_list_getattribute_2 _ _) (meets_getattribute_miss_list a xs k #[] "keys" _ qb (by decide +kernel)) ⟨hx,hA,fun h' OB e C3=>?_⟩) | wp_step))
 obtain ⟨t',u',he⟩:=C3.there
 show wpAny _ _ (getattributeRaised _ _ _ _ _ _ _) _ _ _
 unfold getattributeRaised
 repeat (any_goals (first | assumption | wp_step))
 exact h _ _ _ C3
theorem lS {a:Addr}{xs:Array Value}{k:Nat}{Q:Option Value->Shared->Prop}(hx:s.heap.get? a=some { cls:=.type "list",data:=.seq xs k })(hA:A.handled=none)
   (h:∀h' tk,(∀b o,s.heap.get? b=some o->h'.get? b=some o)->Q none { s with heap:=h',toks:=tk }):wpAny (model prog w) A (adL (.ref a) "keys") Q E s:=by
 unfold adL getAttrBy?
 refine wpAny_bind (wpAny_mkText (wpAny_bind (wpAny_attempt (jD hx hA fun h' tk e ne=>?_))))
 obtain ⟨t',u',he⟩:=ne.there
 refine wpAny_bind (wpAny_isInstance (T:="AttributeError") (b:=true) ⟨_,he,rfl⟩ acv ?_)
 exact wpAny_pure (h h' _ ne.keeps)
theorem jE {t:Addr}{vs:Array Value}{Q:List Value->Shared->Prop}(ht:s.heap.IsTuple t vs)(h:Q vs.toList s):wpAny (model prog w) A (ade (.ref t)) Q E s:=by
 obtain ⟨o,ho,hc,n,hd⟩:=ht
 unfold ade
 refine wpAny_bind (wpAny_typeOf (T:="tuple") ⟨o,ho,hc⟩ ?_)
 rw [if_pos (by decide)]
 refine wpAny_bind ?_
 obtain ⟨hp,g,d,tk,os⟩:=s
 unfold seqItems?
 repeat (any_goals (first | assumption | wp_step))
 all_goals (first | (rw [hd]; repeat (any_goals (first | assumption | wp_step))) | skip)
end
end PySem
namespace L2
open PySem PySem.Spec PyProof.Rows
section
variable {X:Cx}
theorem dE:entryFor table "dict.update.loop"=some Builtin.«dict.update.loop»:=entryFor_of_tree (by kernel_rfl)
def tO (H:Hp)(t:V)(kv:Key×V):Prop:=∃a,t=.ref a/\H a=some (.tup [kV kv.1,kv.2])
def putAll (d:List (Key×V))(kvs:List (Key×V)):List (Key×V):=kvs.foldl (fun d p=>putK d p.1 p.2) d
theorem tE {pins:List (Addr×Obj)}{σ:St}{A:Around}{D l it:Addr}{xs:List V}(hh:A.handled=none) :
   ∀(n i:Nat) (j:Int) (t:Tok) (kvs d:List (Key×V)) (H:Hp) (s:Shared) (R:Result->Shared->Prop),xs.length - i=n->i<=xs.length->Inv X pins σ H s->H D=some (.dK d)->d.length + n<=sizeLine->ao X.K H l xs->dJ X pins H it->s.heap.IsListIter it l i ->
     Paired (tO H) (xs.drop i) kvs->(∀s',Inv X pins σ (upd H D (.dK (putAll d kvs))) s'->R (.ok (.ret .none)) s') ->
     codeAny (model X.prog X.w) A (.builtin "dict.update.loop" ⟨[.ref D,.ref it,.int j t,.none],[]⟩) R s:=by
 intro n
 induction n using adA with
 | _ n ih=>
   intro i j t kvs d H s R hn hi I hD hz hq hf hit hp hR
   obtain ⟨its,rv,p,_⟩:=I.list hq
   have hl:=rv.length
   obtain ⟨f0,f1,f2,f3,f4,f5⟩:=id hf
   refine adQ dE ?_
   have hA:(A.under (.builtin "dict.update.loop" ⟨[.ref D,.ref it,.int j t,.none],[]⟩)).handled=none:=by rw [show (A.under (.builtin "dict.update.loop" ⟨[.ref D,.ref it,.int j t,.none],[]⟩)).handled=A.handled from rfl]; exact hh
   generalize A.under (.builtin "dict.update.loop" ⟨[.ref D,.ref it,.int j t,.none],[]⟩)=A' at hA ⊢
   unfold Builtin.«dict.update.loop»
   show wpAny _ _ (pyNext (.ref it) >>= _) _ _ _
   cases hx:xs[i]? with
   | none=>
     have LB:xs.length<=i:=List.getElem?_eq_none_iff.mp hx
     refine wpAny_bind (wpAny_pyNext_list_end hA hit p.isList (by simp; omega) fun h' eb=>?_)
     have I1:Inv X pins σ H { s with heap:=h' }:=I.turned (t':=s.toks) (fun b o hb e=>eb b o hb e) f0 f1 f3 f4 f5
     have PH:xs.drop i=[]:=adV LB
     rw [PH] at hp
     cases hp
     have e:upd H D (.dK (putAll d []))=H:=by
       funext b
       unfold upd
       split
       · rename_i hb; rw [hb,hD]; rfl
       · rfl
     rw [e] at hR
     show wpAny _ _ (aca D [] >>= _) _ _ _
     exact wpAny_bind (wpAny_pure (wpAny_pure (hR _ I1)))
   | some x=>
     have hlt:i < xs.length:=(List.getElem?_eq_some_iff.mp hx).1
     obtain ⟨u,hu,ru⟩:=rv.get hx
     have PH:xs.drop i=x :: xs.drop (i + 1):=by
       have e:xs[i]=x:=(List.getElem?_eq_some_iff.mp hx).2
       rw [acm hlt,e]
     rw [PH] at hp
     cases hp with
     | @cons _ kv _ r DX fI=>
       obtain ⟨ta,rfl,C2⟩:=DX
       obtain rfl:u=aax ta:=ru
       refine wpAny_bind (wpAny_pyNext_list_item hit p.isList (x:=.ref ta) (by simpa using hu) fun h' PQ sb=>?_)
       have I1:Inv X pins σ H { s with heap:=h' }:=I.turned (t':=s.toks) (fun b o hb e=>(sb.2 b hb).trans e) f0 f1 f3 f4 f5
       obtain ⟨eY,vA,p2,_⟩:=I1.tuple (aK.of C2)
       obtain ⟨w1,w2,rfl,r1,r2⟩:=Vals.two vA
       refine wpAny_bind (wpAny_holding ?_)
       refine wpAny_bind (wpAny_tryCatch (jE (show ({ s with heap:=h' }:Shared).heap.IsTuple ta #[w1,w2] from (show IsTup h' ta #[w1,w2] by simpa using p2)) ?_))
       show wpAny _ _ (holding [w1,w2] (dictSet D w1 w2)) _ _ _
       obtain ⟨z,oA,vs,rel,dd⟩:=wo I1.hok hD
       have QN:vs.length<=sizeLine:=by rw [← rel.length]; exact z
       have Xn:(putK d kv.1 kv.2).length<=d.length + 1:=bL d kv.1 kv.2
       have TB:n=xs.length - (i + 1) + 1:=by omega
       refine wpAny_holding (wpAny_dictSet_pairs (hsz:=QN) (jA r1) dd fun h2 oq hs2=>?_)
       have he:∃q,h2.get? D=some q:=let ⟨q,_,_,hq,_⟩:=oq; ⟨q,hq⟩
       have Lq:D≠it:=fun z=>by rw [z,f0] at hD; cases hD
       have Xl:ao X.K (upd H D (.dK (putK d kv.1 kv.2))) l xs:=by
         rcases hq with (q | ⟨o,q⟩) | q
         · exact .inl (.inl (by rw [aj (fJ q hD (fun z=>nomatch z))]; exact q))
         · exact .inl (.inr ⟨o,by rw [aj (fJ q hD (fun z=>nomatch z))]; exact q⟩)
         · exact .inr q
       refine wpAny_pure ⟨abS _ (by decide +kernel),?_⟩
       refine ih (xs.length - (i + 1)) (by omega) (i + 1) _ _ r (putK d kv.1 kv.2) (upd H D (.dK (putK d kv.1 kv.2))) _ R rfl hlt (eE (t':=_) I1 (by rw [hD]; exact aaF) hs2 he (pR (by omega) oA (rel.put kv.1 r2) oq)) ae (by omega) Xl ⟨by rw [aj Lq.symm]; exact f0,hf.2⟩ (PQ.extBut hs2.extBut Lq.symm) ?_ ?_
       · exact Paired.aZ fI fun a b ⟨c,e1,e2⟩=>⟨c,e1,by rw [aj (fJ e2 hD (fun z=>nomatch z))]; exact e2⟩
       · intro s' I'
         rw [bT] at I'
         exact hR s' I'
def wV (K:aac):List V->Hp->VK->Prop:=fun vs H Q=>∃l xs kvs,vs=[.ref l]/\H l=some (.lst xs)/\Paired (tO H) xs kvs/\∀D,H D=none->Q (.ref D) (upd H D (.dK (putAll [] kvs)))
theorem lF (hc:X.calm=true):dC X (.type "dict") (wV X.K):=by
 intro pins s σ H vs us Q I r h
 obtain ⟨l,xs,kvs,rfl,hl,hp,q⟩:=h
 obtain ⟨u,rfl,ru⟩:=vals1 r
 obtain rfl:u=aax l:=ru
 have hh:X.A.handled=none:=I.ok.hd hc
 have hD:H s.heap.objs.size=none:=I.hok.fresh (aaf _)
 have I1:Inv X pins σ (upd H s.heap.objs.size (.dK [])) { s with heap:=s.heap.push { cls:=.type "dict",data:=.dict #[] } }:=I.laid (t':=s.toks) (fun _ _ e=>aag _ e) (aaf _) (mF s.heap I.big)
 refine callType_codes (Q₁:=fun obj s₁=>obj=.ref s.heap.objs.size/\s₁={ s with heap:=s.heap.push { cls:=.type "dict",data:=.dict #[] } }) F.kt_called_dict (F.kt_typeCall_dict_1 _) F.entry_dict_init (kt_code_dict_new _ ⟨rfl,rfl⟩) ?_
 rintro obj s₁ ⟨rfl,rfl⟩
 have rO:(s.heap.push { cls:=.type "dict",data:=.dict #[] }).DictOf (aO X.prog X.w) s.heap.objs.size []:=ac0 s.heap
 generalize Qy:({ s with heap:=s.heap.push { cls:=.type "dict",data:=.dict #[] } }:Shared)=s1 at I1 ⊢
 have AU:s1.heap.DictOf (aO X.prog X.w) s.heap.objs.size []:=by rw [← Qy]; exact rO
 generalize s.heap.objs.size=D at hD I1 AU ⊢
 have hl1:(upd H D (.dK [])) l=some (.lst xs):=by rw [aj (ai hl hD)]; exact hl
 refine ⟨AU.typeIs,F.args_dict_init_2 _ _,?_⟩
 unfold Builtin.«dict.__init__»
 refine wpAny_bind ?_
 unfold ab9
 refine wpAny_bind (wpAny_notOrdered_dict AU.typeIs ?_)
 show wpAny _ _ (pure (D,[aax l])) _ _ _
 refine wpAny_pure ?_
 show wpAny _ _ (abf "dict.__init__" D (.ref l) [] .none) _ _ _
 unfold abf
 obtain ⟨z,its,n,rv,e⟩:=(show bp X.prog X.w _ s1.heap l (.lst xs) from I1.hok l _ hl1)
 refine wpAny_bind (wpAny_typeOf (T:="list") ⟨_,e,rfl⟩ ?_)
 rw [if_pos (by decide)]
 refine wpAny_bind (lS e hh fun h' tk hk=>?_)
 rw [if_pos (show (Option.isNone (none:Option Value))=true from rfl)]
 have I2:Inv X pins σ (upd H D (.dK [])) { s1 with heap:=h',toks:=tk }:=I1.kept hk
 refine wpAny_bind (wpAny_rule ?_)
 refine wpAny_bind (wpAny_pyIter_list ⟨_,hk _ _ e,rfl,n,rfl⟩ ?_)
 have I3:=I2.kept (h':=h'.push { cls:=.type "list_iterator",data:=.fields #[.ref l,.int 0 0] }) (t':=tk) fun b o e=>aag _ e
 refine wpAny_pure ⟨abS _ (by decide +kernel),?_⟩
 refine tE (l:=l) (it:=h'.objs.size) (xs:=xs) (d:=[]) (kvs:=kvs) (pins:=pins) (σ:=σ) (A:=X.A.in1) (show X.A.in1.handled=none from hh) xs.length 0 _ _ _ _ _ (by simp) (aaU _) I3 ae (by simpa using z) (ao.of hl1) (I2.pT (aaf _) (I2.hok.fresh (aaf _))) ⟨_,aaE _ rfl,rfl,rfl⟩ ?_ ?_
 · exact Paired.aZ hp fun a b ⟨c,e1,e2⟩=>⟨c,e1,by rw [aj (ai e2 hD)]; exact e2⟩
 · intro s' I'
   rw [bT] at I'
   exact ⟨rfl,.ref D,_,I',rfl,q D hD⟩
end
end L2
namespace L2
open PySem PySem.Spec PyProof.Rows SeqAt
inductive EB (K:aac) (H:Hp):Nat->V->V->Bool->Prop where
 | flat {n:Nat} {x y:V}:cp x=true->cp y=true->EB K H n x y (ko x y)
 | same {n:Nat} {a:Addr}:EB K H n (.ref a) (.ref a) true
 | lst {n:Nat} {a b:Addr} {xs ys:List V} {e:Nat->Bool}:a≠b->ao K H a xs->ao K H b ys->xs.length=ys.length->(∀j x y,xs[j]? = some x->ys[j]? = some y->EB K H n x y (e j)) ->
     EB K H (n + 1) (.ref a) (.ref b) ((aaM xs.length).all e)
 | len {n:Nat} {a b:Addr} {xs ys:List V}:a≠b->ao K H a xs->ao K H b ys->xs.length≠ys.length->EB K H n (.ref a) (.ref b) false
 | tup {n:Nat} {a b:Addr} {xs ys:List V} {e:Nat->Bool}:a≠b->aK K H a xs->aK K H b ys->(∀j x y,xs[j]? = some x->ys[j]? = some y->EB K H n x y (e j)) ->
     EB K H (n + 1) (.ref a) (.ref b) ((aaM (min xs.length ys.length)).all e && xs.length == ys.length)
section
variable {X:Cx}{pins:List (Addr×Obj)}{σ:St}{H:Hp}{s:Shared}
theorem eX {K:aac}{n:Nat}{A:Around}{xs ys:List V}{us vs:List Value}{e:Nat->Bool}(rv:Vals xs us)(rw':Vals ys vs)
   (h:∀j x y,xs[j]? = some x->ys[j]? = some y->∀(A:Around) (u v:Value),RelV x u->RelV y v->A.units + n < cLine->EqAt A s u v (e j)) (hu:A.units + (n + 1) < cLine) :
   ∀j (h1:j < us.toArray.size) (h2:j < vs.toArray.size),EqAt A.in1 s us.toArray[j] vs.toArray[j] (e j):=fun j h1 h2=>by
 have l1:=rv.length
 have l2:=rw'.length
 have Wy:j < us.length:=by simpa using h1
 have rF:j < vs.length:=by simpa using h2
 have hx:xs[j]? = some (xs[j]'(by omega)):=aad _
 have hy:ys[j]? = some (ys[j]'(by omega)):=aad _
 obtain ⟨u,QF,ru⟩:=rv.get hx
 obtain ⟨v,hv1,vz⟩:=rw'.get hy
 have eu:us[j]=u:=by have:=aad Wy; rw [QF] at this; exact (aaB this).symm
 have ev:vs[j]=v:=by have:=aad rF; rw [hv1] at this; exact (aaB this).symm
 have q:=h j _ _ hx hy A.in1 u v ru vz (by show A.units + 1 + n < cLine; omega)
 simpa [eu,ev] using q
theorem EB.at (I:Inv X pins σ H s){n:Nat}{x y:V}{b:Bool}(q:EB X.K H n x y b):∀(A:Around) (u v:Value),RelV x u->RelV y v->A.units + n < cLine->EqAt A s u v b:=by
 induction q with
 | flat h1 h2=>exact fun A u v ru rv _=>t9 ru rv h1 h2
 | same=>intro A u v ru rv _; cases ru; cases rv; exact EqAt.same _
 | @lst n a b xs ys e hne ha hb hl _ ih=>
   intro A u v ru rv hu
   cases ru; cases rv
   obtain ⟨us,r1,p1,_⟩:=I.list ha
   obtain ⟨vs,r2,p2,_⟩:=I.list hb
   have l1:=r1.length
   have l2:=r2.length
   have q:=RcAt.lists (A:=A) p1.isList p2.isList (by simp; omega) (by omega) (eX (K:=X.K) r1 r2 ih hu)
   rw [show us.toArray.size=xs.length by simp [l1]] at q
   exact EqAt.of_refs hne q
 | @len n a b xs ys hne ha hb hl=>
   intro A u v ru rv hu
   cases ru; cases rv
   obtain ⟨us,r1,p1,_⟩:=I.list ha
   obtain ⟨vs,r2,p2,_⟩:=I.list hb
   have l1:=r1.length
   have l2:=r2.length
   exact EqAt.of_refs hne (RcAt.lists_lengths p1.isList p2.isList (by simp; omega) (by omega))
 | @tup n a b xs ys e hne ha hb _ ih=>
   intro A u v ru rv hu
   cases ru; cases rv
   obtain ⟨us,r1,p1,_⟩:=I.tuple ha
   obtain ⟨vs,r2,p2,_⟩:=I.tuple hb
   have l1:=r1.length
   have l2:=r2.length
   have q:=RcAt.tuples (A:=A) (show s.heap.IsTuple a us.toArray from p1) (show s.heap.IsTuple b vs.toArray from p2) (by omega) (eX (K:=X.K) r1 r2 ih hu)
   rw [show us.toArray.size=xs.length by simp [l1],show vs.toArray.size=ys.length by simp [l2]] at q
   exact EqAt.of_refs hne q
end
def RB (K:aac)(H:Hp)(n:Nat)(x y:V)(b:Bool):Prop:=∃a c xs ys,x=.ref a/\y=.ref c /\
 ((∃e:Nat->Bool,ao K H a xs/\ao K H c ys/\xs.length=ys.length/\(∀j x y,xs[j]? = some x->ys[j]? = some y->EB K H n x y (e j))/\b=(aaM xs.length).all e) \/
  (ao K H a xs/\ao K H c ys/\xs.length≠ys.length/\b=false) \/
  (∃e:Nat->Bool,aK K H a xs/\aK K H c ys/\(∀j x y,xs[j]? = some x->ys[j]? = some y->EB K H n x y (e j))/\b=((aaM (min xs.length ys.length)).all e && xs.length == ys.length)))
section
variable {X:Cx}
theorem IU {m:Nat}(hu:X.A.units + (m + 1) < cLine):hU X (compareOp .Eq) (fun x y H Q=>∃b,RB X.K H m x y b/\Q (.bl b) H):=by
 intro pins s σ H x y v u Q I rx ry h
 obtain ⟨b,⟨a,c,xs,ys,rfl,rfl,q⟩,k⟩:=h
 cases rx; cases ry
 rcases q with ⟨e,ha,hb,hl,he,rfl⟩ | ⟨ha,hb,hl,rfl⟩ | ⟨e,ha,hb,he,rfl⟩
 · obtain ⟨us,r1,p1,_⟩:=I.list ha
   obtain ⟨vs,r2,p2,_⟩:=I.list hb
   have l1:=r1.length
   have l2:=r2.length
   refine eq_listAt p1.isList p2.isList (by simp; omega) (by omega) (eX (K:=X.K) r1 r2 (fun j x y h1 h2=>(he j x y h1 h2).at I) hu) ?_
   rw [show us.toArray.size=xs.length by simp [l1]]
   exact ⟨.bl _,H,I,rfl,k⟩
 · obtain ⟨us,r1,p1,_⟩:=I.list ha
   obtain ⟨vs,r2,p2,_⟩:=I.list hb
   have l1:=r1.length
   have l2:=r2.length
   exact eq_list_lengthsAt p1.isList p2.isList (by simp; omega) (by omega) ⟨.bl _,H,I,rfl,k⟩
 · obtain ⟨us,r1,p1,_⟩:=I.tuple ha
   obtain ⟨vs,r2,p2,_⟩:=I.tuple hb
   have l1:=r1.length
   have l2:=r2.length
   refine eq_tupleAt (show s.heap.IsTuple a us.toArray from p1) (show s.heap.IsTuple c vs.toArray from p2) (by omega) (eX (K:=X.K) r1 r2 (fun j x y h1 h2=>(he j x y h1 h2).at I) hu) ?_
   rw [show us.toArray.size=xs.length by simp [l1],show vs.toArray.size=ys.length by simp [l2]]
   exact ⟨.bl _,H,I,rfl,k⟩
theorem IZ {m:Nat}(hu:X.A.units + (m + 1) < cLine):hU X (compareOp .NotEq) (fun x y H Q=>∃b,RB X.K H m x y b/\Q (.bl (!b)) H):=by
 intro pins s σ H x y v u Q I rx ry h
 obtain ⟨b,⟨a,c,xs,ys,rfl,rfl,q⟩,k⟩:=h
 cases rx; cases ry
 rcases q with ⟨e,ha,hb,hl,he,rfl⟩ | ⟨ha,hb,hl,rfl⟩ | ⟨e,ha,hb,he,rfl⟩
 · obtain ⟨us,r1,p1,_⟩:=I.list ha
   obtain ⟨vs,r2,p2,_⟩:=I.list hb
   have l1:=r1.length
   have l2:=r2.length
   refine RcNeAt.lists p1.isList p2.isList (by simp; omega) (by omega) (eX (K:=X.K) r1 r2 (fun j x y h1 h2=>(he j x y h1 h2).at I) hu) X.prog X.w X.xe _ ?_
   rw [show us.toArray.size=xs.length by simp [l1]]
   exact ⟨.bl _,H,I,rfl,k⟩
 · obtain ⟨us,r1,p1,_⟩:=I.list ha
   obtain ⟨vs,r2,p2,_⟩:=I.list hb
   have l1:=r1.length
   have l2:=r2.length
   exact RcNeAt.lists_lengths p1.isList p2.isList (by simp; omega) (by omega) X.prog X.w X.xe _ ⟨.bl _,H,I,rfl,k⟩
 · obtain ⟨us,r1,p1,_⟩:=I.tuple ha
   obtain ⟨vs,r2,p2,_⟩:=I.tuple hb
   have l1:=r1.length
   have l2:=r2.length
   refine RcNeAt.tuples (show s.heap.IsTuple a us.toArray from p1) (show s.heap.IsTuple c vs.toArray from p2) (by omega) (eX (K:=X.K) r1 r2 (fun j x y h1 h2=>(he j x y h1 h2).at I) hu) X.prog X.w X.xe _ ?_
   rw [show us.toArray.size=xs.length by simp [l1],show vs.toArray.size=ys.length by simp [l2]]
   exact ⟨.bl _,H,I,rfl,k⟩
end
def ET (K:aac)(H:Hp)(n:Nat)(x y:V):Prop:=EB K H n x y true
theorem all_true {n:Nat}:(aaM n).all (fun _=>true)=true:=by rw [ab5]; intro _ _; rfl
theorem ET.lst {K:aac}{H:Hp}{n:Nat}{a b:Addr}{xs ys:List V}(ha:ao K H a xs)(hb:ao K H b ys)(hl:xs.length=ys.length)(h:∀(j:Nat) (x y:V),xs[j]? = some x->ys[j]? = some y->ET K H n x y):ET K H (n + 1) (.ref a) (.ref b):=by
 by_cases e:a=b
 · subst e; exact .same
 · have q:=EB.lst (e:=fun _=>true) e ha hb hl h
   rw [all_true] at q
   exact q
theorem ET.tup {K:aac}{H:Hp}{n:Nat}{a b:Addr}{xs ys:List V}(ha:aK K H a xs)(hb:aK K H b ys)(hl:xs.length=ys.length)(h:∀(j:Nat) (x y:V),xs[j]? = some x->ys[j]? = some y->ET K H n x y):ET K H (n + 1) (.ref a) (.ref b):=by
 by_cases e:a=b
 · subst e; exact .same
 · have q:=EB.tup (e:=fun _=>true) e ha hb h
   rw [all_true,hl,beq_self_eq_true] at q
   exact q
theorem Ac {x:V}(h:cp x=true):ko x x=true:=by cases x <;> simp_all [cp,ko]
theorem ET.refl {K:aac}{H:Hp}{n:Nat}{x:V}(h:cp x=true\/∃a,x=.ref a):ET K H n x x:=by
 rcases h with h | ⟨a,rfl⟩
 · have q:=EB.flat (K:=K) (H:=H) (n:=n) h h
   rw [Ac h] at q
   exact q
 · exact .same
theorem RB.lst {K:aac}{H:Hp}{n:Nat}{a b:Addr}{xs ys:List V}(ha:ao K H a xs)(hb:ao K H b ys)(hl:xs.length=ys.length)(h:∀(j:Nat) (x y:V),xs[j]? = some x->ys[j]? = some y->ET K H n x y):RB K H n (.ref a) (.ref b) true:=
 ⟨a,b,xs,ys,rfl,rfl,.inl ⟨fun _=>true,ha,hb,hl,h,all_true.symm⟩⟩
theorem RB.nil {K:aac}{H:Hp}{n:Nat}{a b:Addr}{xs:List V}(ha:ao K H a xs)(hb:ao K H b []):RB K H n (.ref a) (.ref b) xs.isEmpty:=by
 cases xs with
 | nil=>exact RB.lst ha hb rfl (fun j x y h=>by simp at h)
 | cons x r=>exact ⟨a,b,_,[],rfl,rfl,.inr (.inl ⟨ha,hb,by simp,rfl⟩)⟩
section
variable {X:Cx}{pos:Pos}
def Fx (i j:Int):Prop:=0 < j/\j < 2 ^ 1000
theorem BH:hU X (binaryOp .FloorDiv) (rI Fx fun i j=>.int (i / j)):=Ml fun i j _ _ _ _ _ hc q=>by
 have h1:(0:Int) < j:=hc.1
 have h2:j < 2 ^ 1000:=hc.2
 have h3:j.natAbs < 2 ^ 1000:=by omega
 exact floordiv_int (by omega) (by rw [Int.fdiv_eq_ediv_of_nonneg i (by omega)]; exact q) (.inl (PyProof.noPylong_of_log2 (aat ((Nat.log2_lt (by omega)).mpr h3) (by decide))))
def Fy (i j:Int):Prop:=i.natAbs < 2 ^ 1000/\j.natAbs < 2 ^ 1000
theorem FE {i:Int}(h:i.natAbs < 2 ^ 1000):aa9 i<=1000:=by
 unfold aa9
 split
 · exact aaU _
 · rename_i hi
   have h0:i.natAbs≠0:=by intro z; have:i=0:=(by omega); subst this; simp at hi
   have:=(Nat.log2_lt h0).mpr h
   omega
theorem EI:hU X (binaryOp .Mult) (rI Fy fun i j=>.int (i * j)):=Ml fun i j _ _ _ _ _ hc q=>by
 have b1:=FE hc.1
 have b2:=FE hc.2
 refine mul_int q ?_
 unfold IntMulOk
 have hb:adp ((aa9 i:Int) + (aa9 j:Int))=false:=by
   unfold adp
   refine decide_eq_false ?_
   have:(2000:Int)<=(bitsLine:Int):=by rw [PySem.bitsLine_eq]; decide
   omega
 have e:((aa9 i + aa9 j:Nat):Int)=(aa9 i:Int) + (aa9 j:Int):=by omega
 simp [hb]
theorem zV:dC X (.builtin "isinstance") (fun xs H Q=>∃x n t b,xs=[x,.ty n]/\iE X.K H x t/\aaH X.K t (.type n)=some b/\Q (.bl b) H):=by
 intro pins s σ H xs us Q I r h
 obtain ⟨x,n,t,b,rfl,ty,e,q⟩:=h
 obtain ⟨u,v,rfl,ru,rv⟩:=Vals.two r
 obtain rfl:v=adC n:=rv
 exact yA I ru ty e fun tk=>⟨.bl b,H,I.tok tk,rfl,q⟩
end
end L2
namespace TW
open PySem L2
inductive K2 where
 | plus | less | same | under | both
def K2.str:K2->Str
 | .plus=>"plus" | .less=>"less" | .same=>"same" | .under=>"under" | .both=>"both"
inductive E where
 | num (n:Int) | box (tag x:Str) | yes | nt (a:E) | two (k:K2) (a b:E)
def Tp (H:Hp)(v:V)(xs:List V):Prop:=∃p,v=.ref p/\H p=some (.tup xs)
def cF (H:Hp):V->E->Prop
 | v,.num n=>Tp H v [.str "number",.int n]
 | v,.box t x=>Tp H v [.str t,.str x]
 | v,.yes=>Tp H v [.str "yes"]
 | v,.nt a=>∃x,Tp H v [.str "not",x]/\cF H x a
 | v,.two k a b=>∃x y,Tp H v [.str k.str,x,y]/\cF H x a/\cF H y b
def TK (H H':Hp):Prop:=∀b xs,H b=some (.tup xs)->H' b=some (.tup xs)
theorem TK.trans {A B C:Hp}(a:TK A B)(b:TK B C):TK A C:=fun c o h=>b c o (a c o h)
theorem Tp.keep {H H':Hp}{v:V}{xs:List V}(k:TK H H')(h:Tp H v xs):Tp H' v xs:=let ⟨p,e,q⟩:=h; ⟨p,e,k p xs q⟩
theorem cF.keep {H H':Hp}(k:TK H H'):∀{e:E} {v:V},cF H v e->cF H' v e
 | .num _,_,h=>Tp.keep k h
 | .box _ _,_,h=>Tp.keep k h
 | .yes,_,h=>Tp.keep k h
 | .nt _,_,⟨x,h,a⟩=>⟨x,h.keep k,cF.keep k a⟩
 | .two _ _ _,_,⟨x,y,h,a,b⟩=>⟨x,y,h.keep k,cF.keep k a,cF.keep k b⟩
def E.dep:E->Nat
 | .num _=>0 | .box _ _=>0 | .yes=>0 | .nt a=>a.dep + 1 | .two _ a b=>max a.dep b.dep + 1
def E.fS:E->Prop
 | .num _=>True
 | .box _ _=>True
 | .two .plus a b=>a.fS/\b.fS
 | .two .less a b=>a.fS/\b.fS
 | _=>False
def E.gR:E->Prop
 | .yes=>True
 | .nt a=>a.gR
 | .two .same a b=>a.fS/\b.fS
 | .two .under a b=>a.fS/\b.fS
 | .two .both a b=>a.gR/\b.gR
 | _=>False
def E.okIn (P:Str->Str->Prop):E->Prop
 | .num n=>n.natAbs < 2 ^ 100 | .box t x=>P t x | .yes=>True | .nt a=>a.okIn P | .two _ a b=>a.okIn P/\b.okIn P
theorem E.okIn.imp {P Q:Str->Str->Prop}(f:∀t x,P t x->Q t x):∀{e:E},e.okIn P->e.okIn Q
 | .num _,h=>h | .box t x,h=>f t x h | .yes,_=>aaF | .nt a,h=>E.okIn.imp f (e:=a) h | .two _ a b,h=>⟨E.okIn.imp f (e:=a) h.1,E.okIn.imp f (e:=b) h.2⟩
def E.worth (w:Str->Str->Int):E->Int
 | .num n=>n
 | .box t x=>w t x
 | .two .plus a b=>a.worth w + b.worth w
 | .two .less a b=>a.worth w - b.worth w
 | _=>0
def E.holds (w:Str->Str->Int):E->Bool
 | .yes=>true
 | .nt a=>!(a.holds w)
 | .two .same a b=>decide (a.worth w=b.worth w)
 | .two .under a b=>decide (a.worth w < b.worth w)
 | .two .both a b=>a.holds w && b.holds w
 | _=>false
inductive Nd where
 | put (x:Str) (s:E) (n:Int) | say (s:E) (n:Int) | test (c:E) (n o:Int) | fin
def cy (H:Hp):V->Nd->Prop
 | v,.put x s n=>∃u,Tp H v [.str "put",.str x,u,.int n]/\cF H u s
 | v,.say s n=>∃u,Tp H v [.str "say",u,.int n]/\cF H u s
 | v,.test c n o=>∃u,Tp H v [.str "test",u,.int n,.int o]/\cF H u c
 | v,.fin=>Tp H v [.str "end"]
theorem cy.keep {H H':Hp}(k:TK H H'):∀{e:Nd} {v:V},cy H v e->cy H' v e
 | .put _ _ _,_,⟨u,h,a⟩=>⟨u,h.keep k,a.keep k⟩
 | .say _ _,_,⟨u,h,a⟩=>⟨u,h.keep k,a.keep k⟩
 | .test _ _ _,_,⟨u,h,a⟩=>⟨u,h.keep k,a.keep k⟩
 | .fin,_,h=>Tp.keep k h
theorem cy.ref {H:Hp}:∀{e:Nd} {v:V},cy H v e->∃a,v=.ref a
 | .put _ _ _,_,⟨_,⟨p,h,_⟩,_⟩=>⟨p,h⟩
 | .say _ _,_,⟨_,⟨p,h,_⟩,_⟩=>⟨p,h⟩
 | .test _ _ _,_,⟨_,⟨p,h,_⟩,_⟩=>⟨p,h⟩
 | .fin,_,⟨p,h,_⟩=>⟨p,h⟩
def Nd.good (P:Str->Prop)(many:Int)(d:Nat):Nd->Prop
 | .put x s n=>P x/\s.fS/\s.okIn (fun t y=>t="box"/\P y)/\s.dep<=d/\0<=n/\n < many
 | .say s n=>s.fS/\s.okIn (fun t y=>t="box"/\P y)/\s.dep<=d/\0<=n/\n < many
 | .test c n o=>c.gR/\c.okIn (fun t y=>t="box"/\P y)/\c.dep<=d/\0<=n/\n < many/\0<=o/\o < many
 | .fin=>True
theorem af {H:Hp}{p:Addr}(h:H p=none)(o:HO):ah H (upd H p o):=fun b u q=>by rw [aj (ai q h)]; exact q
theorem ah.tk {H H':Hp}(s:ah H H'):TK H H':=fun b xs h=>s b _ h
theorem aI {H:Hp}{p:Addr}(h:H p=none)(o:HO):TK H (upd H p o):=ah.tk (af h o)
theorem small {n:Nat}(h:n<=1000):n<=sizeLine:=abi (aB h)
def bG (H:Hp)(v:V)(b:Str×Int):Prop:=Tp H v [.str b.1,.int b.2]
structure bD (H:Hp)(v:V)(bs:List (Str×Int))(ins:List Str)(nds:List Nd):Prop where
 at_:∃p B I N vb vn,v=.ref p/\H p=some (.tup [.ref B,.ref I,.ref N])/\H B=some (.lst vb)/\H I=some (.lst (ins.map V.str))/\H N=some (.lst vn)/\Paired (bG H) vb bs/\Paired (cy H) vn nds
end TW
set_option exponentiation.threshold 4000
namespace TW
open PySem L2
def Src (K:aac)(mg:Str->Option Value)(x:Str)(st:Stmt):Prop:=∃f fd,cJ K x x st f fd/\mg x=some (.ref f)
def aX (P:Program)(w:World)(K:aac)(mg:Str->Option Value)(base:Heap)(x:Str)(ps:List Str)(k:Nat)(sp:Sp):Prop:=
 ∃f fd,aP P w K mg base cO k f fd ps sp/\abc K (.ref f)=true/\Binds K fd ps []/\mg x=some (.ref f)
theorem aX.mono {P:Program}{w:World}{K:aac}{mg:Str->Option Value}{base:Heap}{x:Str}{ps:List Str}{j k:Nat}{sp:Sp}(h:aX P w K mg base x ps j sp)(hk:j<=k):aX P w K mg base x ps k sp:=
 let ⟨f,fd,a,b,c,d⟩:=h; ⟨f,fd,a.mono hk,b,c,d⟩
theorem bQ {A:Around}{k:Nat}(hr:dt k A)(m:Nat)(hm:m<=64):A.units + m < cLine:=by have:=hr.units; omega
end TW
namespace L2
open PySem PySem.Spec PyProof.Rows
structure bF (e:Expr):Prop where
 h:∀(es:List Expr) (env:Env),starEach (e :: es) env=(false,eval e env) :: starEach es env
theorem fK {e:Expr}(h:∀x p,e≠.Starred x p):bF e:=⟨fun es env=>by
 cases e <;> first | rfl | exact absurd rfl (h _ _)⟩
theorem jI {c k p}:bF (.Constant c k p):=fK fun _ _ z=>nomatch z
theorem fB {x p}:bF (.Name x p):=fK fun _ _ z=>nomatch z
theorem fA {f a k p}:bF (.Call f a k p):=fK fun _ _ z=>nomatch z
theorem u5 {a o b p}:bF (.BinOp a o b p):=fK fun _ _ z=>nomatch z
theorem i4 {a b p}:bF (.Subscript a b p):=fK fun _ _ z=>nomatch z
theorem Bm {a b p}:bF (.Tuple a b p):=fK fun _ _ z=>nomatch z
theorem Bl {a p}:bF (.List a p):=fK fun _ _ z=>nomatch z
theorem Bk {a b c p}:bF (.Compare a b c p):=fK fun _ _ z=>nomatch z
theorem Gg {a b c p}:bF (.ListComp a b c p):=fK fun _ _ z=>nomatch z
theorem Gh {a b p}:bF (.UnaryOp a b p):=fK fun _ _ z=>nomatch z
def je (es:List Expr):Prop:=∀(pos:Pos) (env:Env),(backTo pos (starEach es env)).any (·.1)=false
theorem Em:je []:=fun _ _=>rfl
theorem Bn {e:Expr}{es:List Expr}(h:bF e)(hs:je es):je (e :: es):=fun pos env=>by
 rw [h.h es env]
 exact hs pos env
structure tN (X:Cx)(es:List Expr)(t:TA):Prop where
 pa:PA X es t
 ns:∀e r,es=e :: r->bF e/\je r
 nss:je es
section
variable {X:Cx}{e:Expr}{es:List Expr}{te:TE}{t:TA}{pos:Pos}
theorem an:tN X [] JZ:=⟨Jd,(fun _ _ z=>nomatch z),Em⟩
theorem ac (ha:PE X e te)(hr:tN X es t)
   (hs:bF e:=by first | exact jI | exact fB | exact fA | exact u5 | exact i4 | exact Bm | exact Bl | exact Bk | exact Gg | exact Mi | exact Gh | exact El | exact Ek):tN X (e :: es) (Cw te t):=
 ⟨EK ha hr.pa (hs.h es X.env),fun e' r z=>by injection z with z1 z2; subst z1 z2; exact ⟨hs,hr.nss⟩,Bn hs hr.nss⟩
theorem R0 {x1}(h:tN X es t):PE X (.Tuple es x1 pos) (J1 t):=Jo h.pa
theorem RY (h:tN X es t):PE X (.List es pos) (JY t):=Jj h.pa
theorem J9 {x:Str}{p:Pos}{id:String}{r:List V->Hp->VK->Prop}(hc:dC X (.builtin id) r)(hg:Gl X x)(hm:X.mg x=none)(hv:aa4 x=some (.builtin id))(ha:tN X (e :: es) t)(hn:x≠"__name__":=by decide)(hdb:(x == ("__debug__":Str))=false:=by decide) :
   PE X (.Call (.Name x p) (e :: es) [] pos) (KG r t):=BI hc hg hm hv ha.pa hn hdb ((ha.ns e es rfl).1.h es X.env) ((ha.ns e es rfl).2 pos X.env)
theorem Ka {x:Str}{p:Pos}{T:String}{r:List V->Hp->VK->Prop}(hc:dC X (.type T) r)(hg:Gl X x)(hm:X.mg x=none)(hv:aa4 x=some (.type T))(ha:tN X (e :: es) t)(hn:x≠"__name__":=by decide)(hdb:(x == ("__debug__":Str))=false:=by decide) :
   PE X (.Call (.Name x p) (e :: es) [] pos) (KG r t):=y7 hc hg hm hv ha.pa hn hdb ((ha.ns e es rfl).1.h es X.env) ((ha.ns e es rfl).2 pos X.env)
theorem RZ {x:Str}{p:Pos}{ps:List Str}{k:Nat}{sp:Sp}(D:TW.aX X.prog X.w X.K X.mg X.base x ps k sp)(hr:dt k X.A)(hg:Gl X x)(ha:tN X (e :: es) t)(hdb:(x == ("__debug__":Str))=false:=by decide) :
   PE X (.Call (.Name x p) (e :: es) [] pos) (nW sp [] E0 t):=
 let ⟨_,_,G,kp,b,m⟩:=D
 qf G hr hg m kp b .nil Gm ha.pa hdb ((ha.ns e es rfl).1.h es X.env) ((ha.ns e es rfl).2 pos X.env)
theorem Ft {tg a:Expr}{ta:TA}{p:Pos}(hg:Gl X "range")(hm:X.mg "range"=none)(ha:tN X [a] ta):PI X tg (.Call (.Name "range" p) [a] [] pos) (A9 ta):=
 y8 hg hm ha.pa ((ha.ns a [] rfl).1.h [] X.env)
theorem R1 {a b:Expr}{ta:TA}{p tp:Pos}{elts:List Expr}{x1:Nat}(hg:Gl X "zip")(hm:X.mg "zip"=none)(ha:tN X [a,b] ta)(hb:bF b:=by first | exact fB | exact i4 | exact fA):PI X (.Tuple elts x1 tp) (.Call (.Name "zip" p) [a,b] [] pos) (Ig X.K ta):=
 Jw hg hm ha.pa (by rw [(ha.ns a [b] rfl).1.h [b] X.env,hb.h [] X.env]; rfl) (by rw [hb.h [] X.env]; rfl)
theorem RX {o:Expr}{name:Str}{apos:Pos}{T id:String}{r:V->List V->Hp->VK->Prop}{to:TE}(pa:PlainAttrs T)(slot:Slot T name id)(hty:typeOf (.builtin id)=pure (.type "method_descriptor"))(hm:NH X id r)(ho:PE X o to)(ha:tN X [e] t)
   (hbase:abt o name X.env (eval o X.env)=eval o X.env:=by rfl) (hline:(apos.endLine == pos.line)=true:=by rfl):PE X (.Call (.Attribute o name apos) [e] [] pos) (GD X.K T r to t):=
 Gn pa slot hty hm ho ha.pa hbase (by rw [(ha.ns e [] rfl).1.h [] X.env]; rfl) hline ((ha.ns e [] rfl).1.h [] X.env) ((ha.ns e [] rfl).2 pos X.env)
end
end L2
namespace L3
open PySem PySem.Spec PyProof.Rows L2
structure SE (X:Cx)(e:Expr)(t:TE):Prop where
 h:PE X e t
structure ST (X:Cx)(e:Expr)(t:TT):Prop where
 h:PT X e t
structure SW (X:Cx)(e:Expr)(t:TT):Prop where
 h:PW X e t
structure SA (X:Cx)(es:List Expr)(t:TA):Prop where
 h:tN X es t
structure SS (X:Cx)(s:Stmt)(t:TS):Prop where
 h:PS X s t
structure SL (X:Cx)(ss:List Stmt)(t:TS):Prop where
 h:n8 X ss t
structure SG (X:Cx)(e:Expr)(t:TG):Prop where
 h:PG X e t
structure NK (X:Cx)(es:List Expr)(t:CW):Prop where
 h:KR X es t
structure SI (X:Cx)(tg iter:Expr)(t:TI):Prop where
 h:PI X tg iter t
structure KY (X:Cx)(cs:List Expr)(t:TT):Prop where
 h:oj X cs t
structure SO (X:Cx)(f:Value->Value->Sem Value)(r:R2):Prop where
 h:hU X f r
structure SX (X:Cx)(r:R2):Prop where
 h:NF X r
structure SC (X:Cx)(f:Value)(r:List V->Hp->VK->Prop):Prop where
 h:dC X f r
structure SM (X:Cx)(id:String)(r:V->List V->Hp->VK->Prop):Prop where
 h:NH X id r
section
variable {X:Cx}{a b c e o:Expr}{es:List Expr}{ta tb tc te:TE}{t:TA}{tA uB:TT}{pos:Pos}{r:R2}
theorem v (i:Nat){x:Str}(hN:X.N[i]? = some x:=by rfl)(hv:NL X.env.scope x:=by first | exact Or.inl rfl | exact Or.inr (Or.inl rfl) | exact Or.inr (Or.inr rfl))(hd:(x == ("__debug__":Str))=false:=by decide)
   (hcd:(x == ("__classdict__":Str))=false:=by decide):SE X (.Name x pos) (CF i):=⟨Jp hN hv hd hcd⟩
theorem int {i j}:SE X (.Constant (.int i) j pos) (tC (.int i)):=⟨Ji⟩
theorem bl {k j}:SE X (.Constant (.bool k) j pos) (tC (.bl k)):=⟨Mx⟩
theorem bN {j}:SE X (.Constant .none j pos) (tC .bN):=⟨Jk⟩
theorem str {x j}:SE X (.Constant (.str x) j pos) (tC (.str x)):=⟨BP⟩
theorem glob {x:Str}{w:V}{u:Value}(hg:Gl X x)(hm:X.mg x=some u)(r:RelV w u)(hd:(x == ("__debug__":Str))=false:=by decide):SE X (.Name x pos) (tC w):=⟨ES hg hm r hd⟩
theorem G8 {x:Str}{w:V}{u:Value}(hg:Gl X x)(hm:X.mg x=none)(hv:aa4 x=some u)(r:RelV w u)(hn:x≠"__name__":=by decide)(hd:(x == ("__debug__":Str))=false:=by decide):SE X (.Name x pos) (tC w):=⟨EL hg hm hv r hn hd⟩
theorem op {k:Operator}(ho:SO X (binaryOp k) r)(ha:SE X a ta)(hb:SE X b tb):SE X (.BinOp a k b pos) (GL r ta tb):=⟨MA ho.h ha.h hb.h⟩
theorem cmp {k:CmpOp}(ho:SO X (compareOp k) r)(ha:SE X a ta)(hb:SE X b tb)(hm:abr k b=false:=by exact Bi _):ST X (.Compare a [k] [b] pos) (GP (GL r ta tb)):=⟨E8 ho.h ha.h hb.h hm⟩
theorem iH {k:CmpOp}(ho:SO X (compareOp k) r)(ha:SE X a ta)(hb:SE X b tb)(hm:abr k b=false:=by exact Bi _):SE X (.Compare a [k] [b] pos) (GL r ta tb):=⟨EM ho.h ha.h hb.h hm⟩
theorem cq:SO X (binaryOp .Add) (wX fun i j=>.int (i + j)):=⟨IQ⟩
theorem nA:SO X (binaryOp .Sub) (wX fun i j=>.int (i - j)):=⟨Jb⟩
theorem el:SO X (binaryOp .Mult) (rI Dc fun i j=>.int (i * j)):=⟨IY⟩
theorem IB:SO X (binaryOp .Mult) (rI Fy fun i j=>.int (i * j)):=⟨EI⟩
theorem aV:SO X (binaryOp .Mod) (rI (fun _ j=>0 < j) fun i j=>.int (i % j)):=⟨IX⟩
theorem eK:SO X (binaryOp .FloorDiv) (rI Fx fun i j=>.int (i / j)):=⟨BH⟩
theorem ny:SO X (binaryOp .Pow) (rI KO fun i j=>.int (i ^ j.toNat)):=⟨I9⟩
theorem eZ:SO X (binaryOp .Add) MK:=⟨IT⟩
theorem bY:SO X (compareOp .Eq) Ux:=⟨Mn⟩
theorem yN:SO X (compareOp .NotEq) Uy:=⟨Ms⟩
theorem i5:SO X (compareOp .Lt) (wX fun i j=>.bl (decide (i < j))):=⟨Mr⟩
theorem Rb:SO X (compareOp .Gt) (wX fun i j=>.bl (decide (j < i))):=⟨Mp⟩
theorem Iz:SO X (compareOp .GtE) (wX fun i j=>.bl (decide (j<=i))):=⟨Mo⟩
theorem Rc:SO X (compareOp .LtE) (wX fun i j=>.bl (decide (i<=j))):=⟨Mq⟩
theorem si {KK:aac}{m:Nat}(hu:X.A.units + (m + 1) < cLine)(hK:X.K=KK:=by first | exact bz | rfl):SO X (compareOp .Eq) (fun x y H Q=>∃b,RB KK H m x y b/\Q (.bl b) H):=by
 subst hK
 exact ⟨IU hu⟩
theorem wN {KK:aac}{m:Nat}(hu:X.A.units + (m + 1) < cLine)(hK:X.K=KK:=by first | exact bz | rfl):SO X (compareOp .NotEq) (fun x y H Q=>∃b,RB KK H m x y b/\Q (.bl (!b)) H):=by
 subst hK
 exact ⟨IZ hu⟩
theorem IA {KK:aac}(hK:X.K=KK:=by first | exact bz | rfl):SO X (compareOp .In) (Om KK false):=by
 subst hK
 exact ⟨yY⟩
theorem qd {KK:aac}(hK:X.K=KK:=by first | exact bz | rfl):SO X (compareOp .NotIn) (Om KK true):=by
 subst hK
 exact ⟨qe⟩
theorem Bp:SO X (compareOp .Is) (fun x y H Q=>y=.bN/\Q (.bl (decide (x=.bN))) H):=⟨IW⟩
theorem O1 (hu:X.A.units + 1 < cLine)(hi:SE X a ta)(ho:SE X b tb)(h1:abr .In b=false:=by first | exact nu _ (by decide) (by decide) | rfl):SE X (.Compare a [.In] [b] pos) (Nj ta tb):=⟨Jg (Je hu hi.h ho.h) h1⟩
theorem Gk {rest:List Expr}(ha:ST X a tA)(hb:SW X (.BoolOp .Or (b :: rest) pos) uB):SW X (.BoolOp .Or (a :: b :: rest) pos) (UP tA uB):=⟨MH ha.h hb.h⟩
theorem Gj (ha:ST X a tA):SW X (.BoolOp .Or [a] pos) tA:=⟨JI ha.h⟩
theorem G6 {rest:List Expr}(ha:ST X a tA)(hb:SW X (.BoolOp .And (b :: rest) pos) uB):SW X (.BoolOp .And (a :: b :: rest) pos) (Ni tA uB):=⟨JH ha.h hb.h⟩
theorem G5 (ha:ST X a tA):SW X (.BoolOp .And [a] pos) tA:=⟨E9 ha.h⟩
theorem tw (h:SW X e tA):ST X e tA:=⟨h.h.pt⟩
theorem nt (ha:ST X a tA):ST X (.UnaryOp .Not a pos) (Nm tA):=⟨JF ha.h⟩
theorem qB (h:SE X e te)(he:∀whole,isTrue e X.env whole=(do let v ← whole; standAt e.pos; holding [v] (truthy v)):=by intro _; rfl):ST X e (tB te):=⟨JG h.h he⟩
theorem ix (hr:SX X r)(ha:SE X a ta)(hb:SE X b tb)(hs:vY b:=by exact fun _ _=>rfl):SE X (.Subscript a b pos) (GL r ta tb):=⟨My hr.h ha.h hb.h hs⟩
theorem bX {KK:aac}(hK:X.K=KK:=by first | exact bz | rfl):SX X (MM KK):=by
 subst hK
 exact ⟨Eb⟩
theorem cg {KK:aac}(hK:X.K=KK:=by first | exact bz | rfl):SX X (MN KK):=by
 subst hK
 exact ⟨Ii⟩
theorem t6 (hu:X.A.units + 1 < cLine)(ho:SE X a ta)(hi:SE X b tb)(hs:zK b:=by exact fun _ _=>rfl):SE X (.Subscript a b pos) (GF ta tb):=⟨EN hu ho.h hi.h hs⟩
theorem Nc {KK:aac}{p2:Pos}(ha:SE X a ta)(hb:SE X b tb)(hK:X.K=KK:=by first | exact bz | rfl):SE X (.Subscript a (.Slice (some b) none none p2) pos) (Nq (MP KK) ta (pH tb) mq):=by
 subst hK
 exact ⟨jL JV ha.h (jM hb.h) qg⟩
theorem vH {KK:aac}{p2:Pos}(ha:SE X a ta)(hb:SE X b tb)(hK:X.K=KK:=by first | exact bz | rfl):SE X (.Subscript a (.Slice none (some b) none p2) pos) (Nq (Fc KK) ta mq (pH tb)):=by
 subst hK
 exact ⟨jL qm ha.h qg (jM hb.h)⟩
theorem n:SA X [] JZ:=⟨an⟩
theorem k (ha:SE X e te)(hr:SA X es t)(hs:bF e:=by first | exact jI | exact fB | exact fA | exact u5 | exact i4 | exact Bm | exact Bl | exact Bk | exact Gg | exact Mi | exact Gh | exact El | exact Ek) :
   SA X (e :: es) (Cw te t):=⟨ac ha.h hr.h hs⟩
theorem tup {x1}(h:SA X es t):SE X (.Tuple es x1 pos) (J1 t):=⟨R0 h.h⟩
theorem lst (h:SA X es t):SE X (.List es pos) (JY t):=⟨RY h.h⟩
theorem aW {x:Str}{p:Pos}{id:String}{rr:List V->Hp->VK->Prop}(hc:SC X (.builtin id) rr)(hg:Gl X x)(hm:X.mg x=none)(hv:aa4 x=some (.builtin id))(ha:SA X (e :: es) t)(hn:x≠"__name__":=by decide)(hdb:(x == ("__debug__":Str))=false:=by decide) :
   SE X (.Call (.Name x p) (e :: es) [] pos) (KG rr t):=⟨J9 hc.h hg hm hv ha.h hn hdb⟩
theorem bU {x:Str}{p:Pos}{T:String}{rr:List V->Hp->VK->Prop}(hc:SC X (.type T) rr)(hg:Gl X x)(hm:X.mg x=none)(hv:aa4 x=some (.type T))(ha:SA X (e :: es) t)(hn:x≠"__name__":=by decide)(hdb:(x == ("__debug__":Str))=false:=by decide) :
   SE X (.Call (.Name x p) (e :: es) [] pos) (KG rr t):=⟨Ka hc.h hg hm hv ha.h hn hdb⟩
theorem own {x:Str}{p:Pos}{ps:List Str}{kk:Nat}{sp:Sp}(D:TW.aX X.prog X.w X.K X.mg X.base x ps kk sp)(hr:dt kk X.A)(hg:Gl X x)(ha:SA X (e :: es) t)(hdb:(x == ("__debug__":Str))=false:=by decide) :
   SE X (.Call (.Name x p) (e :: es) [] pos) (nW sp [] E0 t):=⟨RZ D hr hg ha.h hdb⟩
theorem NQ {KK:aac}{name:Str}{apos:Pos}{T id:String}{rr:V->List V->Hp->VK->Prop}(pa:PlainAttrs T)(slot:Slot T name id)(hty:typeOf (.builtin id)=pure (.type "method_descriptor"))(hm:SM X id rr)(ho:SE X o ta)(ha:SA X [e] t)
   (hbase:abt o name X.env (eval o X.env)=eval o X.env:=by rfl) (hline:(apos.endLine == pos.line)=true:=by rfl) (hK:X.K=KK:=by first | exact bz | rfl):SE X (.Call (.Attribute o name apos) [e] [] pos) (GD KK T rr ta t):=by
 subst hK
 exact ⟨RX pa slot hty hm.h ho.h ha.h hbase hline⟩
theorem append {KK:aac}{apos:Pos}(ho:SE X o ta)(ha:SA X [e] t)(hbase:abt o "append" X.env (eval o X.env)=eval o X.env:=by rfl)(hline:(apos.endLine == pos.line)=true:=by rfl)(hK:X.K=KK:=by first | exact bz | rfl):SE X (.Call (.Attribute o "append" apos) [e] [] pos) (GD KK "list" wU ta t):=by
 subst hK
 exact NQ abv PySem.F.slot_list_append PySem.F.type_list_append ⟨o9⟩ ho ha hbase hline
theorem MD {KK:aac}{apos:Pos}(ho:SE X o ta)(ha:SA X [e] t)(hbase:abt o "pop" X.env (eval o X.env)=eval o X.env:=by rfl)(hline:(apos.endLine == pos.line)=true:=by rfl)(hK:X.K=KK:=by first | exact bz | rfl):SE X (.Call (.Attribute o "pop" apos) [e] [] pos) (GD KK "list" B6 ta t):=by
 subst hK
 exact NQ abv PySem.F.slot_list_pop PySem.F.type_list_pop ⟨Bg⟩ ho ha hbase hline
theorem bu {KK:aac}(hK:X.K=KK:=by first | exact bz | rfl):SC X (.builtin "len") (fun xs H Q=>∃p ys,xs=[.ref p]/\(ao KK H p ys\/aK KK H p ys)/\Q (.int ys.length) H):=by
 subst hK
 exact ⟨pO⟩
theorem dM {KK:aac}(hK:X.K=KK:=by first | exact bz | rfl):SC X (.type "list") (fun xs H Q=>∃p ys,xs=[.ref p]/\(ao KK H p ys\/aK KK H p ys)/\∀l,H l=none->Q (.ref l) (upd H l (.lst ys))):=by
 subst hK
 exact ⟨pP⟩
theorem zS {KK:aac}(hc:X.calm=true:=by rfl)(hK:X.K=KK:=by first | exact bz | rfl):SC X (.type "dict") (wV KK):=by
 subst hK
 exact ⟨lF hc⟩
theorem mD:SC X (.type "int") (fun xs H Q=>(∃i,xs=[.int i]/\Q (.int i) H)\/∃k,xs=[.bl k]/\Q (.int (if k then 1 else 0)) H):=⟨xD⟩
theorem FG {KK:aac}(hK:X.K=KK:=by first | exact bz | rfl):SC X (.builtin "isinstance") (fun xs H Q=>∃x n t b,xs=[x,.ty n]/\iE KK H x t/\aaH KK t (.type n)=some b/\Q (.bl b) H):=by
 subst hK
 exact ⟨zV⟩
theorem gn (i:Nat){x:Str}(hN:X.N.Nodup)(hi:X.N[i]? = some x:=by rfl)(hx:Loc X.env.scope x:=by first | exact Or.inl rfl | exact Or.inr rfl)(hf:X.fn x=true\/X.env.scope.names.lookup x=some .local:=by first | exact .inl rfl | exact .inr rfl):SG X (.Name x pos) (kZ i):=⟨EW hN hi hx hf⟩
theorem jd:NK X [] Li:=⟨EX⟩
theorem cw {t:TG}{u:CW}(h1:SG X e t)(h2:NK X es u)(hs:(assignEach (e :: es) X.env).map (·.2)=assign e X.env :: (assignEach es X.env).map (·.2):=by rfl):NK X (e :: es) (FO t u):=⟨BQ h1.h h2.h hs⟩
theorem cS {KK:aac}{kk:Nat}{t:CW}(m:Nat)(h:NK X es t)(hc:X.calm=true:=by rfl)(hn:(assignEach es X.env).length=m:=by rfl)(hst:(assignEach es X.env).findIdx? (·.1)=none:=by rfl)(hK:X.K=KK:=by first | exact bz | rfl):SG X (.Tuple es kk pos) (Lk KK m t):=by
 subst hK
 exact ⟨Ju hc h.h hn hst⟩
theorem iL {KK:aac}{tg:Expr}(h:SE X a ta)(hK:X.K=KK:=by first | exact bz | rfl):SI X tg a (Ga KK ta):=by
 subst hK
 exact ⟨EY h.h⟩
theorem iT {KK:aac}{tg:Expr}(h:SE X a ta)(hK:X.K=KK:=by first | exact bz | rfl):SI X tg a (L5 KK ta):=by
 subst hK
 exact ⟨Jv h.h⟩
theorem iR {tg:Expr}{p:Pos}(hg:Gl X "range")(hm:X.mg "range"=none)(ha:SA X [a] t):SI X tg (.Call (.Name "range" p) [a] [] pos) (A9 t):=⟨Ft hg hm ha.h⟩
theorem iZ {KK:aac}{p tp:Pos}{elts:List Expr}{x1:Nat}(hg:Gl X "zip")(hm:X.mg "zip"=none)(ha:SA X [a,b] t)(hb:bF b:=by first | exact fB | exact i4 | exact fA)(hK:X.K=KK:=by first | exact bz | rfl):SI X (.Tuple elts x1 tp) (.Call (.Name "zip" p) [a,b] [] pos) (Ig KK t):=by
 subst hK
 exact ⟨R1 hg hm ha.h hb⟩
theorem lP:KY X [] JX:=⟨Rn⟩
theorem if1 (h:ST X a tA):KY X [a] tA:=⟨Ro h.h⟩
theorem lc {tg iter elt:Expr}{ifs:List Expr}{sc:Scope}{wi:TI}{g:TG}{tifs:TT}(src:List (Option Nat))(N':List Str)(S:aE sc X.env.scope)(hcap:cX sc src N' X.N=true)(hi:SI X tg iter wi)
   (hb:∀s H C fp xe,SG (fP X N' sc s H C fp xe) tg g/\KY (fP X N' sc s H C fp xe) ifs tifs/\SE (fP X N' sc s H C fp xe) elt te) (hc:X.calm=true:=by rfl)
   (hs:∀x,aa1 iter X.env x=pure x:=by intro _; rfl):SE X (.ListComp elt [⟨tg,iter,ifs,0⟩] sc pos) (fE src (.lst []) wi g tifs (dg te)):=
 ⟨Mz src N' hc S hcap hi.h (fun s H C fp xe=>⟨(hb s H C fp xe).1.h,(hb s H C fp xe).2.1.h,(hb s H C fp xe).2.2.h⟩) hs⟩
theorem JW {tg iter elt:Expr}{ifs:List Expr}{sc:Scope}{wi:TI}{g:TG}{tifs:TT}{i:Nat}{x:Str}{pos' dR:Pos}(src:List (Option Nat))(N':List Str)(S:aE sc X.env.scope)(hcap:cX sc src N' X.N=true)(hi:SI X tg iter wi)
   (hb:∀s H C fp xe,SG (fP X N' sc s H C fp xe) tg g/\KY (fP X N' sc s H C fp xe) ifs tifs/\SE (fP X N' sc s H C fp xe) elt te) (hN:X.N.Nodup) (hix:X.N[i]? = some x:=by rfl) (hx:Loc X.env.scope x:=by exact Or.inl rfl)
   (hsw:abZ (.ListComp elt [⟨tg,iter,ifs,0⟩] sc pos) (some (.Name x pos')) dR.line X.env=pure true:=by rfl) (hc:X.calm=true:=by rfl)
   (hs:∀x,aa1 iter X.env x=pure x:=by intro _; rfl) (hf:X.fn x=true\/X.env.scope.names.lookup x=some .local:=by first | exact .inl rfl | exact .inr rfl) :
   SS X (.Assign [.Name x pos'] (.ListComp elt [⟨tg,iter,ifs,0⟩] sc pos) dR) (vL (fE src (.lst []) wi g tifs (dg te)) (kZ i)):=
 ⟨MG src N' hc S hcap hi.h (fun s H C fp xe=>⟨(hb s H C fp xe).1.h,(hb s H C fp xe).2.1.h,(hb s H C fp xe).2.2.h⟩) hN hix hx hsw hs hf⟩
theorem Vx {tg iter kx vx:Expr}{ifs:List Expr}{sc:Scope}{wi:TI}{g:TG}{tifs:TT}{tk tv:TE}(src:List (Option Nat))(N':List Str)(hu:X.A.units + 1 < cLine)(S:aE sc X.env.scope)(hcap:cX sc src N' X.N=true)(hi:SI X tg iter wi)
   (hb:∀s H C fp xe,SG (fP X N' sc s H C fp xe) tg g/\KY (fP X N' sc s H C fp xe) ifs tifs/\SE (fP X N' sc s H C fp xe) kx tk/\SE (fP X N' sc s H C fp xe) vx tv) (hc:X.calm=true:=by rfl)
   (hs:∀x,aa1 iter X.env x=pure x:=by intro _; rfl):SE X (.DictComp kx vx [⟨tg,iter,ifs,0⟩] sc pos) (fE src (.dT []) wi g tifs (Eh tk tv)):=
 ⟨Jh src N' hu hc S hcap hi.h (fun s H C fp xe=>⟨(hb s H C fp xe).1.h,(hb s H C fp xe).2.1.h,(hb s H C fp xe).2.2.1.h,(hb s H C fp xe).2.2.2.h⟩) hs⟩
variable {st:Stmt}{rest:List Stmt}{u1 u2:TS}
theorem nil:SL X [] GJ:=⟨E6⟩
theorem cons (h1:SS X st u1)(h2:SL X rest u2):SL X (st :: rest) (kW u1 u2):=⟨BY h1.h h2.h⟩
theorem one (h1:SS X st u1):SL X [st] u1:=⟨E7 h1.h⟩
theorem never:SL X rest CC:=⟨zc⟩
theorem ret (he:SE X e te):SS X (.Return (some e) pos) (Nn te):=⟨JB he.h⟩
theorem ex (he:SE X e te)(hs:abZ e none pos.line X.env=pure false:=by rfl):SS X (.Expr e pos) (GH te):=⟨E2 he.h hs⟩
theorem ifs {tc:TT}{x y:List Stmt}(hc:ST X c tc)(ha:SL X x u1)(hb:SL X y u2):SS X (.If c x y pos) (Nl tc u1 u2):=⟨MF hc.h ha.h hb.h⟩
theorem set (i:Nat){x:Str}{pos':Pos}(hN:X.N.Nodup)(he:SE X e te)(hi:X.N[i]? = some x:=by rfl)(hx:Loc X.env.scope x:=by first | exact Or.inl rfl | exact Or.inr rfl)(hs:abZ e (some (.Name x pos')) pos.line X.env=pure false:=by rfl)(hf:X.fn x=true\/X.env.scope.names.lookup x=some .local:=by first | exact .inl rfl | exact .inr rfl) :
   SS X (.Assign [.Name x pos'] e pos) (vL te (kZ i)):=⟨JC hN hi hx he.h hs hf⟩
theorem asg {tg:Expr}{g:TG}(he:SE X e te)(hg:SG X tg g)(hs:adk [tg] e pos.line X.env=pure false:=by rfl)(hw:adl [tg] e X.env=pure none:=by rfl)
   (h1:(assignEach [tg] X.env).map (·.2)=[assign tg X.env]:=by rfl):SS X (.Assign [tg] e pos) (vL te g):=⟨Jz he.h hg.h hs hw h1⟩
theorem lG {tg iter:Expr}{body:List Stmt}{wi:TI}{g:TG}(hi:SI X tg iter wi)(hg:SG X tg g)(hb:SL X body u1)(hp:PassesOwn (model X.prog X.w) X.A X.env X.xe:=by exact ad9)(hc:X.calm=true:=by rfl)
   (hs:∀x,aa1 iter X.env x=pure x:=by intro _; rfl):SS X (.For tg iter body [] pos) (Nk wi g u1):=⟨JA hp hc hi.h hg.h hb.h hs⟩
theorem run {ss:List Stmt}{u:TS}(h:SL X ss u):n8 X ss u:=h.h
end
end L3
namespace L3
open PySem PySem.Spec PyProof.Rows L2
section
variable {X:Cx}{a b c e o:Expr}{es:List Expr}{ta tb tc te:TE}{t:TA}{tA uB:TT}{pos:Pos}{r:R2}
theorem neg (ha:SE X a ta):SE X (.UnaryOp .USub a pos) (UQ (rU fun i=>.int (-i)) ta):=⟨MB J4 ha.h⟩
theorem Yu (ha:SE X a ta):SE X (.UnaryOp .Not a pos) (GK ta):=⟨Jl ha.h⟩
theorem K0 {rest:List Expr}(ha:SE X a ta)(hb:SE X (.BoolOp .And (b :: rest) pos) tb):SE X (.BoolOp .And (a :: b :: rest) pos) (GC ta tb):=⟨Jf ha.h hb.h⟩
theorem Rh {op}(ha:SE X a ta):SE X (.BoolOp op [a] pos) ta:=⟨Jm ha.h⟩
theorem T6 (hc:ST X c tA)(ha:SE X a ta)(hb:SE X b tb):SE X (.IfExp c a b pos) (UO tA ta tb):=⟨BO hc.h ha.h hb.h⟩
theorem Br:SO X (compareOp .IsNot) (fun x y H Q=>y=.bN/\Q (.bl (!decide (x=.bN))) H):=⟨EJ⟩
theorem Ln {x:Str}{p:Pos}(ho:SE X a ta)(hi:SE X (.Name x p) tb):SG X (.Subscript a (.Name x p) pos) (Lj ta tb Gr):=⟨Jt ho.h hi.h set_list (fun _=>rfl)⟩
end
end L3
namespace L2
open PySem PySem.Spec PyProof.Rows
end L2
namespace L3
open PySem PySem.Spec PyProof.Rows L2
end L3
namespace PySem
open Sem (wp)
abbrev dO (h:Heap)(z TI TO T:Addr)(f:Bool):Prop:=
 h.get? z=some { cls:=.type "zip",dict:=none,data:=.fields #[rawInt T,.bool f,.bool false,.ref TI,.ref TO],slots:=#[] }
section
variable {prog:Program}{w:World}{A:Around}{E:Value->Shared->Prop}{s:Shared}
theorem lB {a:Addr}{o:Obj}{Q:Option Obj->Shared->Prop}(h:s.heap.get? a=some o)(k:Q (some o) s):wpAny (model prog w) A (loadIfAlive a) Q E s:=fun Γ p hΓ=>by
 show Sem.wp _ _ (Sem.loadIfAlive a .pure) _ _ _ _
 rw [Sem.wp_loadIfAlive,h]
 exact (wpAny_pure k:wpAny (model prog w) A (Sem.pure (some o)) Q E s) Γ p hΓ
theorem pK {z TI TO T i1 i2 l1 l2:Addr}{f:Bool}{ot:Obj}{k1 k2:Nat}{xs ys:Array Value}{x y:Value}{Q:Value->Shared->Prop}(D:abR z TI TO i1 i2 l1 l2)(hz:dO s.heap z TI TO T f)(hT:s.heap.get? T=some ot)(hTI:IsPair s.heap TI (.ref i1) (.ref i2))
   (h1:s.heap.IsListIter i1 l1 k1) (h2:s.heap.IsListIter i2 l2 k2) (hl1:s.heap.IsList l1 xs) (hl2:s.heap.IsList l2 ys) (hx:xs[k1]? = some x) (hy:ys[k2]? = some y)
   (hQ:∀h',dO h' z TI TO T true->h'.IsListIter i1 l1 (k1 + 1)->h'.IsListIter i2 l2 (k2 + 1)->IsPair h' s.heap.objs.size x y->(∀c o,c≠z->c≠i1->c≠i2->s.heap.get? c=some o->h'.get? c=some o)->Q (.ref s.heap.objs.size) { s with heap:=h' }) :
   wpAny (model prog w) A (Builtin.«zip.__next__» ⟨[.ref z],[]⟩) (fun fin s'=>∃v,fin=.done (.ret v)/\Q v s') E s:=by
 show wpAny _ _ (field (.ref z) 2 >>= _) _ _ _
 refine wpAny_bind (wpAny_field hz rfl (x:=.bool false) rfl ?_)
 show wpAny _ _ (field (.ref z) 3 >>= _) _ _ _
 refine wpAny_bind (wpAny_field hz rfl (x:=.ref TI) rfl ?_)
 refine wpAny_bind (wpAny_seqItems hTI rfl ?_)
 show wpAny _ _ (aar (.ref z) >>= _) _ _ _
 refine wpAny_bind ?_
 unfold aar
 refine wpAny_bind (wpAny_field hz rfl (x:=rawInt T) rfl ?_)
 show wpAny _ _ (loadIfAlive (T:Int).toNat >>= _) _ _ _
 rw [aa5]
 refine wpAny_bind (lB hT ?_)
 rw [if_neg (by simp)]
 refine wpAny_bind (wpAny_field hz rfl (x:=.bool f) rfl ?_)
 refine wpAny_mono (Q:=fun b t=>b=false/\∃g,t={ s with heap:=g }/\dO g z TI TO T true/\aaT z s.heap g) ?mark (fun b t hb=>?next) (fun _ _ h=>h)
 case mark=>
   cases f
   · show wpAny _ _ (setField (.ref z) 1 (.bool true) >>= _) _ _ _
     exact wpAny_bind (wpAny_setField_rec hz (by simp) fun g hg hs=>wpAny_pure ⟨rfl,g,rfl,hg,hs⟩)
   · exact wpAny_pure ⟨rfl,s.heap,rfl,hz,⟨rfl,fun _ _=>rfl⟩⟩
 case next=>
   obtain ⟨rfl,g,rfl,gz,gs⟩:=hb
   rw [if_neg (by decide)]
   simp only [← abQ]
   simp only [ace,acO]
   refine wpAny_bind (wpAny_bind (wpAny_bind (wpAny_holding ?_)))
   show wpAny _ _ (aaL (.ref i1) >>= _) _ _ _
   refine wpAny_bind (wpAny_nextOf_list_item (h1.extBut gs.extBut D.i1z) (hl1.extBut gs.extBut D.l1z) hx fun g2 a2 s2=>wpAny_pure ?_)
   refine wpAny_pure ?_
   refine wpAny_bind (wpAny_bind (wpAny_holding ?_))
   show wpAny _ _ (aaL (.ref i2) >>= _) _ _ _
   refine wpAny_bind (wpAny_nextOf_list_item ((h2.extBut gs.extBut D.i2z).extBut s2.extBut D.i12.symm) ((hl2.extBut gs.extBut D.l2z).extBut s2.extBut D.l2i1) hy fun g3 a3 s3=>wpAny_pure ?_)
   refine wpAny_pure ?_
   refine wpAny_pure ?_
   show wpAny _ _ (newTuple [x,y] >>= _) _ _ _
   refine wpAny_bind (wpAny_newTuple (wpAny_pure ⟨_,rfl,?_⟩))
   have sz:g3.objs.size=s.heap.objs.size:=by rw [s3.1,s2.1,gs.1]
   have up:∀c o,c≠z->c≠i1->c≠i2->s.heap.get? c=some o->(g3.push { cls:=.type "tuple",data:=.seq [x,y].toArray }).get? c=some o:=fun c o n1 n2 n3 e=>
     aag _ (s3.extBut _ _ n3 (s2.extBut _ _ n2 (gs.extBut _ _ n1 e)))
   show Q (.ref g3.objs.size) _
   have rO:IsPair (g3.push { cls:=.type "tuple",data:=.seq [x,y].toArray }) g3.objs.size x y:=aaE _ rfl
   rw [sz] at rO ⊢
   exact hQ _ (aag _ (s3.extBut _ _ D.i2z.symm (s2.extBut _ _ D.i1z.symm gz))) ((a2.extBut s3.extBut D.i12).at fun o e=>aag _ e) (a3.at fun o e=>aag _ e) rO up
theorem tG {z TI TO T i1 i2 l1 l2:Addr}{f:Bool}{ot:Obj}{k1 k2:Nat}{xs ys:Array Value}{Q:Fin->Shared->Prop}(hh:A.handled=none)(D:abR z TI TO i1 i2 l1 l2)(hz:dO s.heap z TI TO T f)(hT:s.heap.get? T=some ot)(hTI:IsPair s.heap TI (.ref i1) (.ref i2))
   (h1:s.heap.IsListIter i1 l1 k1) (h2:s.heap.IsListIter i2 l2 k2) (hl1:s.heap.IsList l1 xs) (hl2:s.heap.IsList l2 ys) (hend:xs[k1]? = none\/ys[k2]? = none)
   (hE:∀h' e,(∀c o,c≠z->c≠i1->c≠i2->s.heap.get? c=some o->h'.get? c=some o)->(∃o,h'.get? e=some o/\o.cls=.type "StopIteration")->E (.ref e) { s with heap:=h' }) :
   wpAny (model prog w) A (Builtin.«zip.__next__» ⟨[.ref z],[]⟩) Q E s:=by
 show wpAny _ _ (field (.ref z) 2 >>= _) _ _ _
 refine wpAny_bind (wpAny_field hz rfl (x:=.bool false) rfl ?_)
 show wpAny _ _ (field (.ref z) 3 >>= _) _ _ _
 refine wpAny_bind (wpAny_field hz rfl (x:=.ref TI) rfl ?_)
 refine wpAny_bind (wpAny_seqItems hTI rfl ?_)
 show wpAny _ _ (aar (.ref z) >>= _) _ _ _
 refine wpAny_bind ?_
 unfold aar
 refine wpAny_bind (wpAny_field hz rfl (x:=rawInt T) rfl ?_)
 show wpAny _ _ (loadIfAlive (T:Int).toNat >>= _) _ _ _
 rw [aa5]
 refine wpAny_bind (lB hT ?_)
 rw [if_neg (by simp)]
 refine wpAny_bind (wpAny_field hz rfl (x:=.bool f) rfl ?_)
 refine wpAny_mono (Q:=fun b t=>b=false/\∃g,t={ s with heap:=g }/\dO g z TI TO T true/\aaT z s.heap g) ?mark (fun b t hb=>?next) (fun _ _ h=>h)
 case mark=>
   cases f
   · show wpAny _ _ (setField (.ref z) 1 (.bool true) >>= _) _ _ _
     exact wpAny_bind (wpAny_setField_rec hz (by simp) fun g hg hs=>wpAny_pure ⟨rfl,g,rfl,hg,hs⟩)
   · exact wpAny_pure ⟨rfl,s.heap,rfl,hz,⟨rfl,fun _ _=>rfl⟩⟩
 case next=>
   obtain ⟨rfl,g,rfl,gz,gs⟩:=hb
   rw [if_neg (by decide)]
   simp only [← abQ]
   simp only [ace,acO]
   refine wpAny_bind (wpAny_bind (wpAny_bind (wpAny_holding ?_)))
   show wpAny _ _ (aaL (.ref i1) >>= _) _ _ _
   cases hx:xs[k1]? with
   | none=>
     refine wpAny_bind (wpAny_nextOf_list_end hh (h1.extBut gs.extBut D.i1z) (hl1.extBut gs.extBut D.l1z) hx fun g2 e k2 he=>?_)
     exact hE g2 e (fun c o n1 n2 _ q=>k2 _ _ n2 (gs.extBut _ _ n1 q)) he
   | some x=>
     have hy:ys[k2]? = none:=by
       rcases hend with q | q
       · rw [hx] at q; cases q
       · exact q
     refine wpAny_bind (wpAny_nextOf_list_item (h1.extBut gs.extBut D.i1z) (hl1.extBut gs.extBut D.l1z) hx fun g2 a2 s2=>wpAny_pure ?_)
     refine wpAny_pure ?_
     refine wpAny_bind (wpAny_bind (wpAny_holding ?_))
     show wpAny _ _ (aaL (.ref i2) >>= _) _ _ _
     refine wpAny_bind (wpAny_nextOf_list_end hh ((h2.extBut gs.extBut D.i2z).extBut s2.extBut D.i12.symm) ((hl2.extBut gs.extBut D.l2z).extBut s2.extBut D.l2i1) hy fun g3 e k3 he=>?_)
     exact hE g3 e (fun c o n1 n2 n3 q=>k3 _ _ n3 (s2.extBut _ _ n2 (gs.extBut _ _ n1 q))) he
theorem uW {z TI TO T i1 i2 l1 l2:Addr}{f:Bool}{ot:Obj}{k1 k2:Nat}{xs ys:Array Value}{x y:Value}{Q:Option Value->Shared->Prop}(D:abR z TI TO i1 i2 l1 l2)(hz:dO s.heap z TI TO T f)(hT:s.heap.get? T=some ot)(hTI:IsPair s.heap TI (.ref i1) (.ref i2))
   (h1:s.heap.IsListIter i1 l1 k1) (h2:s.heap.IsListIter i2 l2 k2) (hl1:s.heap.IsList l1 xs) (hl2:s.heap.IsList l2 ys) (hx:xs[k1]? = some x) (hy:ys[k2]? = some y)
   (hQ:∀h',dO h' z TI TO T true->h'.IsListIter i1 l1 (k1 + 1)->h'.IsListIter i2 l2 (k2 + 1)->IsPair h' s.heap.objs.size x y->(∀c o,c≠z->c≠i1->c≠i2->s.heap.get? c=some o->h'.get? c=some o)->Q (some (.ref s.heap.objs.size)) { s with heap:=h' }) :
   wpAny (model prog w) A (pyNext (.ref z)) Q E s:=by
 have ty:s.TypeIs (.ref z) "zip":=⟨_,hz,rfl⟩
 unfold pyNext
 refine wpAny_bind (wpAny_attempt (aa0 (name:=abh "__next__") ty abw (wpAny_call_entry abw ty acJ (pK D hz hT hTI h1 h2 hl1 hl2 hx hy ?_) (acB _))))
 exact fun g a b c d e=>wpAny_pure (hQ g a b c d e)
theorem yM {z TI TO T i1 i2 l1 l2:Addr}{f:Bool}{ot:Obj}{k1 k2:Nat}{xs ys:Array Value}{Q:Option Value->Shared->Prop}(hh:A.handled=none)(D:abR z TI TO i1 i2 l1 l2)(hz:dO s.heap z TI TO T f)(hT:s.heap.get? T=some ot)(hTI:IsPair s.heap TI (.ref i1) (.ref i2))
   (h1:s.heap.IsListIter i1 l1 k1) (h2:s.heap.IsListIter i2 l2 k2) (hl1:s.heap.IsList l1 xs) (hl2:s.heap.IsList l2 ys) (hend:xs[k1]? = none\/ys[k2]? = none)
   (hQ:∀h',(∀c o,c≠z->c≠i1->c≠i2->s.heap.get? c=some o->h'.get? c=some o)->Q none { s with heap:=h' }):wpAny (model prog w) A (pyNext (.ref z)) Q E s:=by
 have ty:s.TypeIs (.ref z) "zip":=⟨_,hz,rfl⟩
 unfold pyNext
 refine wpAny_bind (wpAny_attempt (aa0 (name:=abh "__next__") ty abw (wpAny_call_entry abw ty acJ (tG hh D hz hT hTI h1 h2 hl1 hl2 hend fun g e kk he=>?_) (acB _))))
 obtain ⟨o,ho,hc⟩:=he
 exact wpAny_bind (wpAny_isInstance (T:="StopIteration") (b:=true) ⟨o,ho,hc⟩ isSubtype_stop (wpAny_pure (hQ _ kk)))
end
end PySem
namespace PySem
theorem Fu:adu (.type "zip") "keys"=pure none:=by rw [adP,acW]; kernel_rfl
theorem Ny:adu (.type "zip") "__getattr__"=pure none:=by rw [adP,acW]; kernel_rfl
theorem CU:entryFor table "zip.__getattribute__"=some Builtin.«object.__getattribute__»:=entryFor_alias (id':="object.__getattribute__") (by kernel_rfl) (by decide +kernel) (by decide +kernel) (by kernel_rfl)
theorem Fv (z:Addr)(fl:Array Value)(u:Tok) :
   Meets (Builtin.«object.__getattribute__» ⟨[.ref z,.str "keys" u],[]⟩) (fun A R s=>s.heap.get? z=some { cls:=.type "zip",dict:=none,data:=.fields fl,slots:=#[] }/\raisesAttr (.ref z) "keys" A R s):=
 Meets.of_wp fun P w A R s h=>by
   obtain ⟨hp,g,d,tk,os⟩:=s
   obtain ⟨hz,h⟩:=h
   have ty:(⟨hp,g,d,tk,os⟩ : Shared).TypeIs (.ref z) "zip":=⟨_,hz,rfl⟩
   have e0:=Fu
   unfold Builtin.«object.__getattribute__»
   repeat (any_goals (first | assumption | wp_step))
   exact wpAny_raiseAttrError h.1 h.2 (attrMsg_fits (by decide +kernel) (by decide +kernel))
section
variable {P:Program}{w:World}{A:Around}{E:Value->Shared->Prop}{s:Shared}
theorem Nx {z:Addr}{fl:Array Value}{u:Tok}{Q:Value->Shared->Prop}(hz:s.heap.get? z=some { cls:=.type "zip",dict:=none,data:=.fields fl,slots:=#[] })(free:A.handled=none)
   (k:∀g tk e,Heap.NewAttrErr s.heap g e (.ref z) "keys"->E (.ref e) { s with heap:=g,toks:=tk }):wpAny (model P w) A (getAttrBy (.ref z) (.str "keys" u) false) Q E s:=by
 obtain ⟨hp,g,d,tk,os⟩:=s
 have ty:∀t,(⟨hp,g,d,t,os⟩ : Shared).TypeIs (.ref z) "zip":=fun _=>⟨_,hz,rfl⟩
 have q1:=acv
 have q2:=F.slot_zip_getattribute.lookup
 have q3:=F.slot_zip_getattribute.bind (.ref z)
 have q4:=Ny
 unfold getAttrBy
 repeat (any_goals (first | assumption | exact ty _ | ((with_reducible show wpAny _ _ (call (acs "zip.__getattribute__") _ _) _ _ _); refine call_meets F.slot_zip_getattribute (ty _) CU (F.args_zip_getattribute_2 _ _) (Fv z fl _) ⟨hz,free,fun g' OB e ne=>?_⟩) | wp_step))
 obtain ⟨t',u',he⟩:=ne.there
 show wpAny _ _ (getattributeRaised _ _ _ _ _ _ _) _ _ _
 unfold getattributeRaised
 repeat (any_goals (first | assumption | wp_step))
 exact k _ _ _ ne
theorem Fw {z:Addr}{fl:Array Value}{Q:Option Value->Shared->Prop}(hz:s.heap.get? z=some { cls:=.type "zip",dict:=none,data:=.fields fl,slots:=#[] })(free:A.handled=none)
   (k:∀g tk,(∀b o,s.heap.get? b=some o->g.get? b=some o)->Q none { s with heap:=g,toks:=tk }):wpAny (model P w) A (adL (.ref z) "keys") Q E s:=by
 unfold adL getAttrBy?
 refine wpAny_bind (wpAny_mkText (wpAny_bind (wpAny_attempt (Nx hz free fun g tk e ne=>?_))))
 obtain ⟨t',u',he⟩:=ne.there
 refine wpAny_bind (wpAny_isInstance (T:="AttributeError") (b:=true) ⟨_,he,rfl⟩ acv (wpAny_pure (k g _ ne.keeps)))
end
end PySem
namespace L2
open PySem PySem.Spec PyProof.Rows
structure qN (h:Heap)(z TI TO i1 i2 l1 l2:Addr)(i:Nat):Prop where
 ti:IsPair h TI (.ref i1) (.ref i2)
 to:∃x y,IsPair h TO x y
 a:h.IsListIter i1 l1 i
 b:h.IsListIter i2 l2 i
 z:IsZip h z TI TO .none\/∃T f x y,dO h z TI TO T f/\IsPair h T x y
theorem qN.ob {h:Heap}{z TI TO i1 i2 l1 l2:Addr}{i:Nat}(s:qN h z TI TO i1 i2 l1 l2 i):∃fl,h.get? z=some { cls:=.type "zip",dict:=none,data:=.fields fl,slots:=#[] }:=by
 rcases s.z with e | ⟨T,f,x,y,e,_⟩
 · exact ⟨_,e⟩
 · exact ⟨_,e⟩
theorem qN.but {h g:Heap}{z TI TO i1 i2 l1 l2 D:Addr}{i:Nat}(s:qN h z TI TO i1 i2 l1 l2 i)(k:Heap.ExtBut D h g)(n1:z≠D)(n2:TI≠D)(n3:TO≠D)(n4:i1≠D)(n5:i2≠D)(dict:∀x y,¬ IsPair h D x y):qN g z TI TO i1 i2 l1 l2 i:=by
 obtain ⟨t1,⟨x,y,t2⟩,a,b,zz⟩:=s
 refine ⟨k _ _ n2 t1,⟨x,y,k _ _ n3 t2⟩,a.extBut k n4,b.extBut k n5,?_⟩
 rcases zz with e | ⟨T,f,x,y,e,p⟩
 · exact .inl (k _ _ n1 e)
 · exact .inr ⟨T,f,x,y,k _ _ n1 e,k _ _ (fun q=>dict x y (q ▸ p)) p⟩
section
variable {P:Program}{w:World}{A:Around}{E:Value->Shared->Prop}{s:Shared}
theorem qN.item {z TI TO i1 i2 l1 l2:Addr}{i:Nat}{us vs:Array Value}{u v:Value}{Q:Option Value->Shared->Prop}(D:abR z TI TO i1 i2 l1 l2)(st:qN s.heap z TI TO i1 i2 l1 l2 i)(h1:s.heap.IsList l1 us)(h2:s.heap.IsList l2 vs)(hu:us[i]? = some u)(hv:vs[i]? = some v)
   (k:∀g,qN g z TI TO i1 i2 l1 l2 (i + 1)->IsPair g s.heap.objs.size u v->(∀c o,c ∉ ([z,TO,i1,i2]:List Addr)->s.heap.get? c=some o->g.get? c=some o)->Q (some (.ref s.heap.objs.size)) { s with heap:=g }):wpAny (model P w) A (pyNext (.ref z)) Q E s:=by
 obtain ⟨t1,⟨x,y,t2⟩,a,b,zz⟩:=st
 rcases zz with e | ⟨T,f,x',y',e,p⟩
 · refine wpAny_pyNext_zip_item D e t1 t2 a b h1 h2 hu hv fun g b1 b2 b3 b4 b5 b6 kk=>?_
   refine k g ⟨kk _ _ D.TIz D.TITO D.TIi1 D.TIi2 t1,⟨_,_,b2⟩,b3,b4,.inr ⟨_,_,_,_,b1,b5⟩⟩ b5 fun c o hc q=>?_
   simp only [aaG,aau,or_false,not_or] at hc
   exact kk c o hc.1 hc.2.1 hc.2.2.1 hc.2.2.2 q
 · have nz:T≠z:=fun q=>by
     subst q
     have h:=congrArg Obj.cls (aaB (e.symm.trans p))
     simp at h
   have n1:T≠i1:=fun q=>by
     subst q
     obtain ⟨o,ho,hc,_⟩:=a
     rw [aaB (ho.symm.trans p)] at hc
     simp at hc
   have n2:T≠i2:=fun q=>by
     subst q
     obtain ⟨o,ho,hc,_⟩:=b
     rw [aaB (ho.symm.trans p)] at hc
     simp at hc
   refine uW D e p t1 a b h1 h2 hu hv fun g b1 b3 b4 b5 kk=>?_
   refine k g ⟨kk _ _ D.TIz D.TIi1 D.TIi2 t1,⟨_,_,kk _ _ D.TOz D.TOi1 D.TOi2 t2⟩,b3,b4,.inr ⟨T,true,_,_,b1,kk _ _ nz n1 n2 p⟩⟩ b5 fun c o hc q=>?_
   simp only [aaG,aau,or_false,not_or] at hc
   exact kk c o hc.1 hc.2.2.1 hc.2.2.2 q
theorem qN.done {z TI TO i1 i2 l1 l2:Addr}{i:Nat}{us vs:Array Value}{Q:Option Value->Shared->Prop}(free:A.handled=none)(D:abR z TI TO i1 i2 l1 l2)(st:qN s.heap z TI TO i1 i2 l1 l2 i)(h1:s.heap.IsList l1 us)(h2:s.heap.IsList l2 vs)(hu:us[i]? = none)
   (k:∀g,(∀c o,c ∉ ([z,TO,i1,i2]:List Addr)->s.heap.get? c=some o->g.get? c=some o)->Q none { s with heap:=g }):wpAny (model P w) A (pyNext (.ref z)) Q E s:=by
 obtain ⟨t1,⟨x,y,t2⟩,a,b,zz⟩:=st
 rcases zz with e | ⟨T,f,x',y',e,p⟩
 · refine wpAny_pyNext_zip_end free D e t1 t2 a b h1 h2 (.inl hu) fun g kk=>k g fun c o hc q=>?_
   simp only [aaG,aau,or_false,not_or] at hc
   exact kk c o hc.1 hc.2.1 hc.2.2.1 hc.2.2.2 q
 · refine yM free D e p t1 a b h1 h2 (.inl hu) fun g kk=>k g fun c o hc q=>?_
   simp only [aaG,aau,or_false,not_or] at hc
   exact kk c o hc.1 hc.2.2.1 hc.2.2.2 q
end
section
variable {X:Cx}
theorem Ef {ks:List Key}{ys:List V}{i:Nat}{k:Key}{y:V}(h1:ks[i]? = some k)(h2:ys[i]? = some y):(ks.drop i).zip (ys.drop i)=(k,y) :: (ks.drop (i + 1)).zip (ys.drop (i + 1)):=by
 have l1:=(List.getElem?_eq_some_iff.mp h1)
 have l2:=(List.getElem?_eq_some_iff.mp h2)
 obtain ⟨a1,e1⟩:=l1
 obtain ⟨a2,e2⟩:=l2
 rw [acm a1,acm a2,e1,e2]
 rfl
theorem CT {pins:List (Addr×Obj)}{σ:St}{A:Around}{D z TI TO i1 i2 l1 l2:Addr}{ks:List Key}{ys:List V}(hh:A.handled=none)(ap:abR z TI TO i1 i2 l1 l2)(hly:ks.length=ys.length) :
   ∀(n i:Nat) (j:Int) (t:Tok) (d:List (Key×V)) (H:Hp) (s:Shared) (R:Result->Shared->Prop),ks.length - i=n->i<=ks.length->Inv X pins σ H s->H D=some (.dK d)->d.length + n<=sizeLine->ao X.K H l1 (ks.map kV)->ao X.K H l2 ys->(∀c∈([z,TI,TO,i1,i2]:List Addr),dJ X pins H c) ->
     qN s.heap z TI TO i1 i2 l1 l2 i->(∀s',Inv X pins σ (upd H D (.dK (putAll d ((ks.drop i).zip (ys.drop i))))) s'->R (.ok (.ret .none)) s') ->
     codeAny (model X.prog X.w) A (.builtin "dict.update.loop" ⟨[.ref D,.ref z,.int j t,.none],[]⟩) R s:=by
 intro n
 induction n using adA with
 | _ n ih=>
   intro i j t d H s R hn hi I hD hz oD oE fp st hR
   obtain ⟨uO,vz,p1,_⟩:=I.list oD
   obtain ⟨eY,vA,p2,_⟩:=I.list oE
   have hl1:=vz.length
   have hl2:=vA.length
   rw [aab] at hl1
   have ch:∀c∈([z,TO,i1,i2]:List Addr),dJ X pins H c:=fun c hc=>fp c (by simp only [aaG,aau,or_false] at hc ⊢; rcases hc with r | r | r | r <;> simp [r])
   refine adQ dE ?_
   have hA:(A.under (.builtin "dict.update.loop" ⟨[.ref D,.ref z,.int j t,.none],[]⟩)).handled=none:=hh
   generalize A.under (.builtin "dict.update.loop" ⟨[.ref D,.ref z,.int j t,.none],[]⟩)=A' at hA ⊢
   unfold Builtin.«dict.update.loop»
   show wpAny _ _ (pyNext (.ref z) >>= _) _ _ _
   by_cases hlt:i < ks.length
   · obtain ⟨kk,hk⟩ : ∃kk,ks[i]? = some kk:=⟨ks[i],aad hlt⟩
     obtain ⟨yy,hy⟩ : ∃yy,ys[i]? = some yy:=⟨ys[i]'(by omega),aad (by omega)⟩
     obtain ⟨u,hu,ru⟩:=vz.get (show (ks.map kV)[i]? = some (kV kk) by rw [aaC,hk]; rfl)
     obtain ⟨v,hv,rv⟩:=vA.get hy
     refine wpAny_bind (st.item ap p1.isList p2.isList (u:=u) (v:=v) (by simpa using hu) (by simpa using hv) fun g C8 np kp=>?_)
     have I1:Inv X pins σ H { s with heap:=g }:=I.wK (t':=s.toks) ch kp
     refine wpAny_bind (wpAny_holding ?_)
     refine wpAny_bind (wpAny_tryCatch (jE (show ({ s with heap:=g }:Shared).heap.IsTuple s.heap.objs.size #[u,v] from ⟨_,np,rfl,_,rfl⟩) ?_))
     show wpAny _ _ (holding [u,v] (dictSet D u v)) _ _ _
     obtain ⟨_,oA,vs,rel,dd⟩:=wo I1.hok hD
     have QN:vs.length<=sizeLine:=by rw [← rel.length]; omega
     have Xn:(putK d kk yy).length<=d.length + 1:=bL d kk yy
     refine wpAny_holding (wpAny_dictSet_pairs (hsz:=QN) (jA ru) dd fun h2 oq hs2=>?_)
     have he:∃q,h2.get? D=some q:=let ⟨q,_,_,hq,_⟩:=oq; ⟨q,hq⟩
     have ne:∀c∈([z,TI,TO,i1,i2]:List Addr),c≠D:=fun c hc q=>by have:=(fp c hc).1; rw [q,hD] at this; cases this
     have keepL:∀{l:Addr} {xs:List V},ao X.K H l xs->ao X.K (upd H D (.dK (putK d kk yy))) l xs:=fun hq=>by
       rcases hq with (q | ⟨o,q⟩) | q
       · exact .inl (.inl (by rw [aj (fJ q hD (fun z=>nomatch z))]; exact q))
       · exact .inl (.inr ⟨o,by rw [aj (fJ q hD (fun z=>nomatch z))]; exact q⟩)
       · exact .inr q
     have nodict:∀x y,¬ IsPair g D x y:=fun x y q=>by
       obtain ⟨o,ho,hc⟩:=(show Shared.TypeIs { s with heap:=g } (.ref D) "dict" from dd.typeIs)
       rw [aaB (ho.symm.trans q)] at hc
       simp at hc
     refine wpAny_pure ⟨abS _ (by decide +kernel),?_⟩
     refine ih (ks.length - (i + 1)) (by omega) (i + 1) _ _ (putK d kk yy) (upd H D (.dK (putK d kk yy))) _ R rfl hlt (eE (t':=_) I1 (by rw [hD]; exact aaF) hs2 he (pR (by omega) oA (rel.put kk rv) oq)) ae (by omega) (keepL oD) (keepL oE) (fun c hc=>⟨by rw [aj (ne c hc)]; exact (fp c hc).1,(fp c hc).2⟩)
       (C8.but hs2.extBut (ne z (by simp)) (ne TI (by simp)) (ne TO (by simp)) (ne i1 (by simp)) (ne i2 (by simp)) nodict) ?_
     intro s' I'
     rw [bT] at I'
     rw [Ef hk hy] at hR
     exact hR s' I'
   · have LB:ks.length<=i:=by omega
     refine wpAny_bind (st.done hA ap p1.isList p2.isList (by simp; omega) fun g kp=>?_)
     have I1:Inv X pins σ H { s with heap:=g }:=I.wK (t':=s.toks) ch kp
     have e0:(ks.drop i).zip (ys.drop i)=[]:=by rw [adV LB]; rfl
     have e:upd H D (.dK (putAll d ((ks.drop i).zip (ys.drop i))))=H:=by
       rw [e0]
       funext b
       unfold upd
       split
       · rename_i hb; rw [hb,hD]; rfl
       · rfl
     rw [e] at hR
     show wpAny _ _ (aca D [] >>= _) _ _ _
     exact wpAny_bind (wpAny_pure (wpAny_pure (hR _ I1)))
end
theorem qN.up {h g:Heap}{z TI TO i1 i2 l1 l2:Addr}{i:Nat}(s:qN h z TI TO i1 i2 l1 l2 i)(k:∀c o,h.get? c=some o->g.get? c=some o):qN g z TI TO i1 i2 l1 l2 i:=by
 obtain ⟨t1,⟨x,y,t2⟩,a,b,zz⟩:=s
 refine ⟨k _ _ t1,⟨x,y,k _ _ t2⟩,a.at fun o e=>k _ o e,b.at fun o e=>k _ o e,?_⟩
 rcases zz with e | ⟨T,f,x,y,e,p⟩
 · exact .inl (k _ _ e)
 · exact .inr ⟨T,f,x,y,k _ _ e,k _ _ p⟩
def tD (K:aac)(ta:TA):TE:=fun σ H Q=>ta σ H fun vs H1=>∃(l1 l2:Addr) (ks:List Key) (ys:List V),vs=[.ref l1,.ref l2]/\ao K H1 l1 (ks.map kV)/\ao K H1 l2 ys/\ks.length=ys.length/\ks.length<=1000/\∀D,H1 D=none->Q (.ref D) (upd H1 D (.dK (putAll [] (ks.zip ys))))
section
variable {X:Cx}{a b:Expr}{ta:TA}{p1 p2 pos dR:Pos}
theorem vh (hc:X.calm=true)(hg1:Gl X "dict")(hm1:X.mg "dict"=none)(hg2:Gl X "zip")(hm2:X.mg "zip"=none)(ha:tN X [a,b] ta)(hb:bF b)(hv1:aa4 "dict"=some (.type "dict"):=by first | rfl | decide +kernel)(hv2:aa4 "zip"=some (.type "zip"):=by first | rfl | decide +kernel) :
   PE X (.Call (.Name "dict" p1) [.Call (.Name "zip" p2) [a,b] [] dR] [] pos) (tD X.K ta):=by
 intro pins s σ H Q I h
 refine wpAny_Call_Name_kw (eQ I hg1 hm1 hv1 ?_ (by decide) (by decide))
 refine aaQ ?_ rfl rfl
 show wpAny _ _ (spliced ((false,eval (.Call (.Name "zip" p2) [a,b] [] dR) X.env) :: [])) _ _ s
 refine abB (wpAny_Call_Name_kw (eQ I hg2 hm2 hv2 ?_ (by decide) (by decide)))
 refine aaQ (bt (ha.pa dR pins s σ H _ I h) fun us s1 ⟨vs,H1,I1,r1,q1⟩=>?_) ((ha.ns a [b] rfl).1.h [b] X.env) ((ha.ns a [b] rfl).2 dR X.env)
 obtain ⟨l1,l2,ks,ys,e,oD,oE,hlen,FR,q⟩:=q1
 subst e
 obtain ⟨u,v,rfl,ru,rv⟩:=Vals.two r1
 obtain rfl:u=aax l1:=ru
 obtain rfl:v=aax l2:=rv
 obtain ⟨uO,vz,p1,_⟩:=I1.list oD
 obtain ⟨eY,vA,p2,_⟩:=I1.list oE
 have Mb:l1 < s1.heap.objs.size:=by obtain ⟨_,_,e,_⟩:=p1; exact aaj e
 have Mc:l2 < s1.heap.objs.size:=by obtain ⟨_,_,e,_⟩:=p2; exact aaj e
 refine call_zip_2 p1.isList p2.isList fun h' hz hTI hTO uD DW hsz hk=>?_
 refine abX ?_
 have hh:X.A.handled=none:=I1.ok.hd hc
 have ap:=zipApart_new Mb Mc
 have st:qN h' (s1.heap.objs.size + 4) (s1.heap.objs.size + 2) (s1.heap.objs.size + 3) s1.heap.objs.size (s1.heap.objs.size + 1) l1 l2 0:=⟨hTI,⟨_,_,hTO⟩,uD,DW,.inl hz⟩
 have I2:Inv X pins σ H1 { s1 with heap:=h' }:=I1.kept (t':=s1.toks) hk
 have up:∀k,dJ X pins H1 (s1.heap.objs.size + k):=fun k=>I1.pT (abN _ _) (I1.hok.fresh (abN _ _))
 have fp1:∀c∈([s1.heap.objs.size + 4,s1.heap.objs.size + 2,s1.heap.objs.size + 3,s1.heap.objs.size,s1.heap.objs.size + 1]:List Addr),dJ X pins H1 c/\c < h'.objs.size:=fun c DT=>by
   simp only [aaG,aau,or_false] at DT
   rw [hsz]
   rcases DT with rfl | rfl | rfl | rfl | rfl
   · exact ⟨up 4,Nat.lt_succ_self _⟩
   · exact ⟨up 2,by show _ + 2 < _ + 5; exact aci (by decide) _⟩
   · exact ⟨up 3,by show _ + 3 < _ + 5; exact aci (by decide) _⟩
   · exact ⟨up 0,by show _ + 0 < _ + 5; exact aci (by decide) _⟩
   · exact ⟨up 1,by show _ + 1 < _ + 5; exact aci (by decide) _⟩
 generalize s1.heap.objs.size + 4=z at hz st ap fp1 ⊢
 generalize s1.heap.objs.size + 2=TI at hz hTI st ap fp1
 generalize s1.heap.objs.size + 3=TO at hz hTO st ap fp1
 generalize s1.heap.objs.size + 1=i2 at st ap fp1
 generalize s1.heap.objs.size=i1 at st ap fp1
 have hD:H1 h'.objs.size=none:=I2.hok.fresh (aaf _)
 have I3:Inv X pins σ (upd H1 h'.objs.size (.dK [])) { s1 with heap:=h'.push { cls:=.type "dict",data:=.dict #[] } }:=I2.laid (t':=s1.toks) (fun _ _ e=>aag _ e) (aaf _) (mF h' I2.big)
 have Cu:=st.up (g:=h'.push { cls:=.type "dict",data:=.dict #[] }) fun c o e=>aag _ e
 refine callType_codes (s:={ s1 with heap:=h' }) (Q₁:=fun obj t=>obj=.ref h'.objs.size/\t={ s1 with heap:=h'.push { cls:=.type "dict",data:=.dict #[] } }) F.kt_called_dict (F.kt_typeCall_dict_1 _) F.entry_dict_init (kt_code_dict_new _ ⟨rfl,rfl⟩) ?_
 rintro obj t ⟨rfl,rfl⟩
 have rO:(h'.push { cls:=.type "dict",data:=.dict #[] }).DictOf (aO X.prog X.w) h'.objs.size []:=ac0 h'
 have S3:∀c∈([z,TI,TO,i1,i2]:List Addr),dJ X pins (upd H1 h'.objs.size (.dK [])) c:=fun c DT=>⟨by rw [aj (aaK (fp1 c DT).2)]; exact (fp1 c DT).1.1,(fp1 c DT).1.2⟩
 generalize F5:({ s1 with heap:=h'.push { cls:=.type "dict",data:=.dict #[] } }:Shared)=s3 at I3 ⊢
 have AV:s3.heap.DictOf (aO X.prog X.w) h'.objs.size []:=by rw [← F5]; exact rO
 have QM:IsZip s3.heap z TI TO .none:=by rw [← F5]; exact aag _ hz
 have Ng:qN s3.heap z TI TO i1 i2 l1 l2 0:=by rw [← F5]; exact Cu
 generalize h'.objs.size=D at hD I3 AV S3 ⊢
 have keepL:∀{l:Addr} {xs:List V},ao X.K H1 l xs->ao X.K (upd H1 D (.dK [])) l xs:=fun hq=>by
   rcases hq with (r | ⟨o,r⟩) | r
   · exact .inl (.inl (by rw [aj (ai r hD)]; exact r))
   · exact .inl (.inr ⟨o,by rw [aj (ai r hD)]; exact r⟩)
   · exact .inr r
 refine ⟨AV.typeIs,F.args_dict_init_2 _ _,?_⟩
 unfold Builtin.«dict.__init__»
 refine wpAny_bind ?_
 unfold ab9
 refine wpAny_bind (wpAny_notOrdered_dict AV.typeIs ?_)
 show wpAny _ _ (pure (D,[aax z])) _ _ _
 refine wpAny_pure ?_
 show wpAny _ _ (abf "dict.__init__" D (.ref z) [] .none) _ _ _
 unfold abf
 obtain ⟨fl,eo⟩:=Ng.ob
 refine wpAny_bind (wpAny_typeOf (T:="zip") ⟨_,eo,rfl⟩ ?_)
 rw [if_pos (by decide)]
 refine wpAny_bind (Fw eo hh fun g tk kk=>?_)
 rw [if_pos (show (Option.isNone (none:Option Value))=true from rfl)]
 have I4:Inv X pins σ (upd H1 D (.dK [])) { s3 with heap:=g,toks:=tk }:=I3.kept kk
 have Ox:qN g z TI TO i1 i2 l1 l2 0:=Ng.up kk
 refine wpAny_bind (wpAny_rule ?_)
 refine wpAny_bind (wpAny_pyIter_zip (kk _ _ QM) ?_)
 refine wpAny_pure ⟨abS _ (by decide +kernel),?_⟩
 refine CT (D:=D) (pins:=pins) (σ:=σ) (A:=X.A.in1) (show X.A.in1.handled=none from hh) ap hlen ks.length 0 _ _ [] _ _ _ (by simp) (aaU _) I4 ae (by simp; exact aak FR (by decide)) (keepL oD) (keepL oE) S3 Ox ?_
 intro s' I'
 rw [bT,ab2,ab2] at I'
 exact ⟨rfl,.ref D,_,I',rfl,q D hD⟩
end
end L2
namespace L3
open PySem PySem.Spec PyProof.Rows L2
theorem DA {X:Cx}{a b:Expr}{t:TA}{p1 p2 pos dR:Pos}{KK:aac}(hg1:Gl X "dict")(hm1:X.mg "dict"=none)(hg2:Gl X "zip")(hm2:X.mg "zip"=none)(ha:SA X [a,b] t)(hb:bF b:=by first | exact fB | exact i4 | exact fA)(hc:X.calm=true:=by rfl)(hK:X.K=KK:=by first | exact bz | rfl) :
   SE X (.Call (.Name "dict" p1) [.Call (.Name "zip" p2) [a,b] [] dR] [] pos) (tD KK t):=by
 subst hK
 exact ⟨vh hc hg1 hm1 hg2 hm2 ha.h hb⟩
end L3
namespace L2
open PySem PySem.Spec PyProof.Rows
end L2
namespace L3
open PySem PySem.Spec PyProof.Rows L2
section
variable {X:Cx}{a b c e o:Expr}{es:List Expr}{ta tb tc te:TE}{t:TA}{pos:Pos}
theorem extend {apos:Pos}{KK:aac}(ho:SE X o ta)(ha:SA X [e] t)(hbase:abt o "extend" X.env (eval o X.env)=eval o X.env:=by rfl)(hline:(apos.endLine == pos.line)=true:=by rfl)(hK:X.K=KK:=by first | exact bz | rfl) :
   SE X (.Call (.Attribute o "extend" apos) [e] [] pos) (GD KK "list" wW ta t):=by
 subst hK
 exact NQ abv PySem.F.slot_list_extend PySem.F.type_list_extend ⟨yI⟩ ho ha hbase hline
theorem K8 {f:Expr}{tf:TE}{apos:Pos}(hu:X.A.units + 1 < cLine)(ho:SE X o ta)(he:SE X e te)(hf:SE X f tf)(m:M2 X o "get" apos e f pos:=by exact ⟨rfl,rfl,rfl,rfl⟩):SE X (.Call (.Attribute o "get" apos) [e,f] [] pos) (Cy ta te tf):=⟨BL hu ho.h he.h hf.h m⟩
theorem CM {SN:Expr}{body:List Stmt}{UR:TT}{u1:TS}(hcn:ST X SN UR)(hb:SL X body u1)(hp:PassesOwn (model X.prog X.w) X.A X.env X.xe:=by exact ad9):SS X (.While SN body [] pos) (CG UR u1):=⟨BW hp hcn.h hb.h⟩
end
end L3
namespace L2
open PySem PySem.Spec PyProof.Rows
abbrev NI:=Key ⊕ List Key
section
variable (P:Program)(w:World)
def lE (h:Heap):NI->Value->Prop
 | .inl k,v=>(aO P w).is k v=true
 | .inr ks,v=>∃b,v=.ref b/\IsTupleKey (aO P w) h ks b
def iX:NI->Int
 | .inl k=>(aO P w).hash k
 | .inr ks=>tupleKeyHash (aO P w) ks
def wI:NI->Nat
 | .inl _=>1
 | .inr ks=>ks.length + 1
def fz (ks:List NI):Nat:=(ks.map wI).sum
def cK (sh:List Bool)(h:Heap)(ks:List NI)(a:Addr):Prop:=
 ks.map abn=sh/\∃ob its n,h.get? a=some ob/\ob.cls=.type "tuple"/\ob.data=.seq its n/\Paired (lE P w h) ks its.toList
def rZ (ks:List NI):Int:=reduceHash (aa8 (ks.map (iX P w)))
end
section
variable {P:Program}{w:World}{sh:List Bool}{h h':Heap}{A:Around}{E:Value->Shared->Prop}{s:Shared}
theorem lj (xs:List NI)(x:NI):fz (xs++[x])=fz xs + wI x:=by
 unfold fz
 rw [aah,acF]
 simp
theorem cK.zq {ks:List NI}{a:Addr}(x:cK P w sh s.heap ks a):s.TypeIs (.ref a) "tuple":=by
 obtain ⟨_,ob,_,_,e,c,_⟩:=x
 exact ⟨ob,e,c⟩
theorem Bb {x y:NI}{v:Value}(hs:x.isLeft=y.isLeft)(hx:lE P w h x v)(hy:lE P w h y v):x=y:=by
 cases x with
 | inl k=>
   cases y with
   | inl j=>rw [(aO P w).inj v k j hx hy]
   | inr js=>simp at hs
 | inr ks=>
   cases y with
   | inl j=>simp at hs
   | inr js=>
     obtain ⟨b,rfl,hb⟩:=hx
     obtain ⟨c,e,hc⟩:=hy
     cases e
     rw [hb.inj hc]
theorem wJ:∀{xs ys:List NI} {vs:List Value},xs.map abn=ys.map abn->Paired (lE P w h) xs vs->Paired (lE P w h) ys vs->xs=ys
 | _,_,_,_,.nil,.nil=>rfl
 | _,_,_,hs,.cons p q,.cons p' q'=>by
   simp only [aaI,ac6] at hs
   rw [Bb hs.1 p p',wJ hs.2 q q']
theorem cK.uniq {xs ys:List NI}{a:Addr}(hx:cK P w sh h xs a)(hy:cK P w sh h ys a):xs=ys:=by
 obtain ⟨e1,ob,its,n,g1,_,d1,p1⟩:=hx
 obtain ⟨e2,ZU,its',n',g2,_,d2,p2⟩:=hy
 rw [g1] at g2
 cases g2
 rw [d1] at d2
 injection d2 with z _
 subst z
 exact wJ (e1.trans e2.symm) p1 p2
theorem cK.stays {ks:List NI}{a d:Addr}{ob:Obj}{es ep}(x:cK P w sh h ks a)(g:h.get? d=some ob)(dd:ob.data=.dict es ep)(sb:aaT d h h'):cK P w sh h' ks a:=by
 obtain ⟨e1,o2,its,n,g2,c2,d2,p2⟩:=x
 have ne:a≠d:=fun z=>by
   subst z
   rw [g] at g2
   cases g2
   rw [dd] at d2
   cases d2
 refine ⟨e1,o2,its,n,(sb.2 a ne).trans g2,c2,d2,Paired.aZ p2 fun i v z=>?_⟩
 cases i with
 | inl k=>exact z
 | inr js=>
   obtain ⟨b,e,q⟩:=z
   exact ⟨b,e,q.keeps g dd sb⟩
theorem yo {ks:List NI}{a:Addr}{Q:Int->Shared->Prop}(hu:A.units + 1 < cLine)(hk:cK P w sh s.heap ks a)(fin:Q (rZ P w ks) { s with toks:=s.toks + (fz ks + 1) }) :
   wpAny (model P w) A (pyHash (.ref a)) Q E s:=by
 have ty:=hk.zq
 obtain ⟨_,ob,its,n,g,_,dd,pr⟩:=hk
 unfold pyHash pyHashByItsType
 refine wpAny_bind (wpAny_cRoomFor_or (.inr (Nat.lt_of_succ_lt hu)) ?_)
 refine wpAny_bind (wpAny_specialOf ty F.slot_tuple_hash.lookup ?_)
 show wpAny _ _ (ite ((some (acs "tuple.__hash__") == some ac5)=true) _ _) Q E s
 rw [if_neg (fun z=>by rw [beq_builtin_none] at z; cases z)]
 refine wpAny_bind (wpAny_specialOf ty F.slot_tuple_hash.lookup ?_)
 show wpAny _ _ (acL (callSpecialIfBoundUnlessNone? (.ref a) "__hash__" _) _) Q E s
 refine wpAny_bind (wpAny_callSpecialIfBoundUnlessNone?_slot ty F.slot_tuple_hash (wpAny_call_entry F.slot_tuple_hash ty F.entry_tuple_hash ?_ (F.args_tuple_hash_1 _)))
 show wpAny _ _ (acL (acS (.ref a)) _) _ _ s
 refine wpAny_bind (wpAny_tupleItemsOf g dd ?_)
 refine wpAny_bind ?_
 rw [← abQ]
 refine acf _
   (fun rest (b:Array Int) s'=>∃done left,ks=done++left/\Paired (lE P w s.heap) left rest/\b.toList=done.map (iX P w)/\s'={ s with toks:=s.toks + fz done })
   _ ?_ ?_ _ _ ⟨[],ks,rfl,pr,rfl,rfl⟩
 · rintro x rest b s' ⟨done,left,rfl,hl,hb,rfl⟩
   cases hl with
   | @cons k _ Yc _ h1 P0=>
     have go:∀(A':Around) (E':Value->Shared->Prop),A'.units < cLine->wpAny (model P w) A' (pyHash x) (fun i s2=>i=iX P w k/\s2={ s with toks:=s.toks + fz (done++[k]) }) E' { s with toks:=s.toks + fz done }:=by
       intro A' E' XS
       cases k with
       | inl k=>exact (aO P w).pyHash h1 ⟨rfl,by rw [lj]; rfl⟩
       | inr js=>
         obtain ⟨c,rfl,hc⟩:=h1
         exact wpAny_pyHash_tuple (s:={ s with toks:=s.toks + fz done }) XS hc ⟨rfl,by rw [lj]; exact congrArg (fun t=>({ s with toks:=t }:Shared)) (Nat.add_assoc _ _ _)⟩
     refine wpAny_bind (bt (go _ _ hu) fun i s2 z=>?_)
     obtain ⟨rfl,rfl⟩:=z
     exact wpAny_pure ⟨done++[k],Yc,by simp,P0,by simp [hb],rfl⟩
 · rintro b s' ⟨done,left,rfl,hl,hb,rfl⟩
   cases hl
   rw [aaJ] at fin
   show wpAny _ _ (retInt (aa8 b.toList)) _ _ _
   rw [hb]
   refine wpAny_ret_mkInt ?_
   unfold rZ reduceHash at fin
   rw [← Nat.add_assoc] at fin
   show wpAny _ _ (ite ((decide (-(2:Int) ^ 63<=aa8 (done.map (iX P w))) && decide (aa8 (done.map (iX P w)) < 2 ^ 63))=true) _ _) Q E _
   by_cases z:(decide (-(2:Int) ^ 63<=aa8 (done.map (iX P w))) && decide (aa8 (done.map (iX P w)) < 2 ^ 63))=true
   · rw [if_pos z] at fin ⊢
     exact wpAny_pure fin
   · rw [if_neg z] at fin ⊢
     exact wpAny_bind (wpAny_rule (wpAny_pure fin))
theorem Ea {x y:NI}{u v:Value}{Q:Bool->Shared->Prop}(hu:A.units < cLine)(hs:x.isLeft=y.isLeft)(hx:lE P w s.heap x u)(hy:lE P w s.heap y v)(fin:Q (decide (x=y)) s):wpAny (model P w) A (eqBool u v) Q E s:=by
 cases x with
 | inl k=>
   cases y with
   | inl j=>
     refine (aO P w).eqBool hx hy ?_
     have e:decide (k=j)=decide ((Sum.inl k:NI)=.inl j):=by simp
     rw [e]
     exact fin
   | inr js=>simp at hs
 | inr ks=>
   cases y with
   | inl j=>simp at hs
   | inr js=>
     obtain ⟨b,rfl,hb⟩:=hx
     obtain ⟨c,rfl,hc⟩:=hy
     refine wpAny_eqBool_tuple hu hb hc ?_
     have e:decide (ks=js)=decide ((Sum.inr ks:NI)=.inr js):=by simp
     rw [e]
     exact fin
theorem DD {xs ys:List NI}{a b:Addr}{Pf:Fin->Shared->Prop}(hu:A.units < cLine)(hx:cK P w sh s.heap xs a)(hy:cK P w sh s.heap ys b)(fin:Pf (.done (.ret (.bool (decide (xs=ys))))) s) :
   wpAny (model P w) A (Builtin.«tuple.__eq__» ⟨[.ref a,.ref b],[]⟩) Pf E s:=by
 have tb:=hy.zq
 obtain ⟨e1,oa,us,na,ga,_,da,pa⟩:=hx
 obtain ⟨e2,ob,vs,nb,gb,_,db,pb⟩:=hy
 show wpAny _ _ (acL (isInstance (.ref b) (.type "tuple")) _) _ _ s
 refine wpAny_bind (wpAny_isInstance tb acV ?_)
 simp only [abT,aa2,if_false]
 refine wpAny_bind (wpAny_tupleItemsOf ga da ?_)
 refine wpAny_bind (wpAny_tupleItemsOf gb db ?_)
 refine wpAny_bind ?_
 have l1:=Paired.length pa
 have l2:=Paired.length pb
 have l3:xs.length=ys.length:=by have:=congrArg abP (e1.trans e2.symm); simpa using this
 refine acf _
   (fun rest r s2=>r.1=none/\s2=s/\∃x' y' u' v',rest=List.zip u' v'/\x'.map abn=y'.map abn/\Paired (lE P w s.heap) x' u'/\Paired (lE P w s.heap) y' v'/\decide (x'=y')=decide (xs=ys))
   _ ?_ ?_ _ _ ⟨rfl,rfl,xs,ys,us.toList,vs.toList,rfl,e1.trans e2.symm,pa,pb,rfl⟩
 · rintro ⟨u,v⟩ rest r s2 ⟨hr,rfl,x',y',u',v',hz,hs,C3,Oe,hd⟩
   cases C3 with
   | nil=>simp at hz
   | @cons k1 u1 x2 u2 h1 yx=>
     cases Oe with
     | nil=>simp at hz
     | @cons k2 v1 y2 v2 h2 QK=>
       simp only [List.zip_cons_cons,ac6,Prod.mk.injEq] at hz
       obtain ⟨⟨rfl,rfl⟩,rfl⟩:=hz
       simp only [aaI,ac6] at hs
       refine wpAny_bind (Ea hu hs.1 h1 h2 ?_)
       by_cases hk:k1=k2
       · subst hk
         rw [decide_eq_true rfl]
         simp only [abT,aa2,if_false]
         refine wpAny_pure ⟨rfl,rfl,x2,y2,u2,v2,rfl,hs.2,yx,QK,?_⟩
         rw [← hd]
         simp
       · rw [decide_eq_false hk]
         simp only [Bool.not_false,if_true]
         have hf:decide (xs=ys)=false:=by rw [← hd]; simp [hk]
         rw [hf] at fin
         exact wpAny_bind (wpAny_pure (wpAny_pure (wpAny_pure fin)))
 · rintro ⟨r1,r2⟩ s2 ⟨hr,rfl,x',y',u',v',hz,hs,C3,Oe,hd⟩
   simp only at hr
   subst hr
   refine wpAny_pure ?_
   have e3:(us.size == vs.size)=true:=by
     rw [beq_iff_eq,← abx,← abx]
     omega
   have e4:decide (xs=ys)=true:=by
     rw [← hd]
     cases C3 with
     | nil=>
       cases Oe with
       | nil=>rfl
       | cons _ _=>simp at hs
     | cons _ _=>
       cases Oe with
       | nil=>simp at hs
       | cons _ _=>simp at hz
   show Pf (.done (.ret (.bool (us.size == vs.size)))) s2
   rw [e3,← e4]
   exact fin
theorem Ad {xs ys:List NI}{a b:Addr}{Q:Bool->Shared->Prop}(hu:A.units + 1 < cLine)(hx:cK P w sh s.heap xs a)(hy:cK P w sh s.heap ys b)(fin:Q (decide (xs=ys)) s) :
   wpAny (model P w) A (eqBool (.ref a) (.ref b)) Q E s:=by
 unfold eqBool
 refine wpAny_holding ?_
 show wpAny _ _ (ite ((aax a == aax b)=true) _ _) Q E s
 by_cases ab:(aax a == aax b)=true
 · rw [if_pos ab]
   have e:=eq_of_beq ab
   cases e
   obtain rfl:=hx.uniq hy
   exact wpAny_bind (wpAny_rule (wpAny_pure (by simpa using fin)))
 · rw [if_neg ab]
   exact wpAny_bind (wpAny_richCompare_same_room (op:=.Eq) hx.zq hy.zq F.slot_tuple_eq
     (wpAny_call_entry F.slot_tuple_eq hx.zq F.entry_tuple_eq (DD hu hx hy ⟨_,rfl,(fun z=>nomatch z),wpAny_truthy_bool fin⟩) (F.args_tuple_eq_2 _ _)) (Nat.lt_of_succ_lt hu))
theorem vp {m:Nat}{ks:List Key}{a:Addr}{Q:Bool->Shared->Prop}(hk:IsTupleKey (aO P w) s.heap ks a)(fin:Q true s):wpAny (model P w) A (eqIsQuiet (m + 1) (.ref a)) Q E s:=by
 have ty:=hk.typeIs
 obtain ⟨ob,its,n,g,_,dd,hi⟩:=hk
 unfold eqIsQuiet
 refine wpAny_bind (wpAny_specialOf ty F.slot_tuple_eq.lookup ?_)
 show wpAny _ _ (acL (isInstance (.ref a) (.type "tuple")) _) _ _ s
 refine wpAny_bind (wpAny_isInstance ty acV ?_)
 simp only [abT,aa2,if_false]
 refine wpAny_bind (wpAny_seqItems g dd ?_)
 refine wpAny_bind ?_
 show wpAny _ _ (forIn its _ _) _ _ s
 rw [← abQ]
 refine acf _ (fun rest r s2=>r.1=none/\s2=s/\∀v∈rest,carriedByValue v=true) _ ?_ ?_ _ _ ⟨rfl,rfl,hi.byValue⟩
 · rintro v rest r s2 ⟨hr,rfl,all⟩
   rw [eqIsQuiet_byValue _ (all v abj)]
   refine wpAny_bind (wpAny_pure ?_)
   simp only [abT,aa2,if_false]
   exact wpAny_pure ⟨rfl,rfl,fun u hu=>all u (aaW _ hu)⟩
 · rintro ⟨r1,r2⟩ s2 ⟨hr,rfl,_⟩
   simp only at hr
   subst hr
   exact wpAny_pure fin
theorem vq {ks:List NI}{a:Addr}{Q:Bool->Shared->Prop}(hk:cK P w sh s.heap ks a)(fin:Q true s):wpAny (model P w) A (eqIsQuiet 8 (.ref a)) Q E s:=by
 have ty:=hk.zq
 obtain ⟨_,ob,its,n,g,_,dd,pr⟩:=hk
 unfold eqIsQuiet
 refine wpAny_bind (wpAny_specialOf ty F.slot_tuple_eq.lookup ?_)
 show wpAny _ _ (acL (isInstance (.ref a) (.type "tuple")) _) _ _ s
 refine wpAny_bind (wpAny_isInstance ty acV ?_)
 simp only [abT,aa2,if_false]
 refine wpAny_bind (wpAny_seqItems g dd ?_)
 refine wpAny_bind ?_
 show wpAny _ _ (forIn its _ _) _ _ s
 rw [← abQ]
 refine acf _ (fun rest r s2=>r.1=none/\s2=s/\∃left,Paired (lE P w s.heap) left rest) _ ?_ ?_ _ _ ⟨rfl,rfl,_,pr⟩
 · rintro v rest r s2 ⟨hr,rfl,left,pl⟩
   cases pl with
   | @cons k _ L9 _ h1 h2=>
     have go:wpAny (model P w) A (eqIsQuiet 7 v) (fun b s3=>b=true/\s3=s2) E s2:=by
       cases k with
       | inl k=>
         rw [eqIsQuiet_byValue _ ((aO P w).byValue _ _ h1)]
         exact wpAny_pure ⟨rfl,rfl⟩
       | inr js=>
         obtain ⟨c,rfl,hc⟩:=h1
         exact vp hc ⟨rfl,rfl⟩
     refine wpAny_bind (bt go fun b s3 z=>?_)
     obtain ⟨rfl,rfl⟩:=z
     simp only [abT,aa2,if_false]
     exact wpAny_pure ⟨rfl,rfl,L9,h2⟩
 · rintro ⟨r1,r2⟩ s2 ⟨hr,rfl,_⟩
   simp only at hr
   subst hr
   exact wpAny_pure fin
def jH (P:Program)(w:World)(sh:List Bool):HeapKind P w (List NI) where
 is:=cK P w sh
 hash:=rZ P w
 draws:=fun ks=>fz ks + 1
 room:=fun A=>A.units + 1 < cLine
 inj:=fun hx hy=>hx.uniq hy
 keeps:=fun x g d sb=>x.stays g d sb
 pyHash:=fun hu hk fin=>yo hu hk fin
 eqBool:=fun hu hx hy fin=>Ad hu hx hy fin
 quiet:=fun hk fin=>vq hk fin
theorem kL (hu:A.units + 2 < cLine):(jH P w sh).room A.in1:=hu
end
abbrev vW:=List (List NI×Addr×V)
abbrev tL:vW->List (List NI×Addr×Value)->Prop:=Paired fun p q=>p.1=q.1/\p.2.1=q.2.1/\RelV p.2.2 q.2.2
def U5 (P:Program)(w:World)(d:Addr)(kvs:vW):Heap->Prop:=fun h=>∃xs,tL kvs xs/\∃o es ep,h.get? d=some o/\o.ExactDict/\o.data=.dict es ep/\es.toList=xs.map fun x=>⟨rZ P w x.1,.ref x.2.1,x.2.2⟩
def DN (P:Program)(w:World)(d:Addr)(kvs:vW):HO:=.ext (U5 P w d kvs)
def T7 (H:Hp):NI->V->Prop
 | .inl k,v=>v=kV k
 | .inr ks,v=>∃c,v=.ref c/\H c=some (.tup (ks.map kV))
def dZ (H:Hp)(b:Addr)(ks:List NI):Prop:=∃us,H b=some (.tup us)/\Paired (T7 H) ks us
structure ND (P:Program)(w:World)(sh:List Bool)(H:Hp)(d:Addr)(kvs:vW):Prop where
 at_:H d=some (DN P w d kvs)
 len:kvs.length<=sizeLine
 nd:(kvs.map (·.1)).Nodup
 keys:∀p∈kvs,dZ H p.2.1 p.1/\p.1.map abn=sh
 main:(d == abp)=false
def valN (kvs:vW)(k:List NI):Option V:=(kvs.find? fun p=>decide (p.1=k)).map (·.2.2)
theorem dZ.keep {H H':Hp}{b:Addr}{ks:List NI}(h:dZ H b ks)(ht:∀b us,H b=some (.tup us)->H' b=some (.tup us)):dZ H' b ks:=by
 obtain ⟨us,e,p⟩:=h
 refine ⟨us,ht _ _ e,Paired.aZ p fun i v z=>?_⟩
 cases i with
 | inl k=>exact z
 | inr js=>
   obtain ⟨c,ec,hc⟩:=z
   exact ⟨c,ec,ht _ _ hc⟩
section
variable {P:Program}{w:World}{sh:List Bool}{H H':Hp}{h h':Heap}{d:Addr}{kvs:vW}
theorem ND.keep (x:ND P w sh H d kvs)(hd:H' d=some (DN P w d kvs))(ht:∀b us,H b=some (.tup us)->H' b=some (.tup us)):ND P w sh H' d kvs:=
 ⟨hd,x.len,x.nd,fun p hp=>⟨(x.keys p hp).1.keep ht,(x.keys p hp).2⟩,x.main⟩
theorem zr {k:List NI}(e:valN kvs k=none):k ∉ kvs.map (·.1):=by
 intro hm
 obtain ⟨p,hp,rfl⟩:=List.mem_map.mp hm
 unfold valN at e
 rw [Option.map_eq_none_iff,List.find?_eq_none] at e
 exact e p hp (decide_eq_true rfl)
theorem ND.put {b:Addr}{ks:List NI}{v:V}(x:ND P w sh H d kvs)(kb:dZ H b ks)(hs:ks.map abn=sh)(no:valN kvs ks=none)(hl:kvs.length < sizeLine) :
   ND P w sh (upd H d (DN P w d (kvs++[(ks,b,v)]))) d (kvs++[(ks,b,v)]):=by
 have ht:∀c us,H c=some (.tup us)->(upd H d (DN P w d (kvs++[(ks,b,v)]))) c=some (.tup us):=fun c us e=>by
   rw [aj (fJ e x.at_ (fun z=>nomatch z))]
   exact e
 refine ⟨ae,by rw [aae]; exact hl,?_,fun p hp=>?_,x.main⟩
 · rw [aah]
   refine wL x.nd ?_
   exact zr no
 · rcases List.mem_append.mp hp with z | z
   · exact ⟨(x.keys p z).1.keep ht,(x.keys p z).2⟩
   · obtain rfl:p=(ks,b,v):=by simpa using z
     exact ⟨kb.keep ht,hs⟩
theorem jB {b:Addr}{ks:List NI}(ok:fV P w H h)(kb:dZ H b ks)(hs:ks.map abn=sh):(jH P w sh).is h ks b:=by
 obtain ⟨us,e,p⟩:=kb
 obtain ⟨_,its,r,o,h1,h2,n,h3⟩:=(show bp P w H h b (.tup us) from ok b _ e)
 refine ⟨hs,o,its.toArray,n,h1,h2,h3,?_⟩
 have go:∀{ks:List NI} {us:List V} {its:List Value},Paired (T7 H) ks us->Vals us its->Paired (lE P w h) ks its:=by
   intro ks us its p
   induction p generalizing its with
   | nil=>intro r; cases r; exact .nil
   | @cons i v _ _ q _ ih=>
     intro r
     cases r with
     | cons a b=>
       refine .cons ?_ (ih b)
       cases i with
       | inl k=>subst q; exact jA a
       | inr js=>
         obtain ⟨c,rfl,hc⟩:=q
         cases a
         exact ⟨c,rfl,i0 ok hc⟩
 exact go p r
theorem tL.val {kvs:vW}{xs:List (List NI×Addr×Value)}(r:tL kvs xs)(k:List NI):iB (valN kvs k) ((atKey xs k).map (·.2)):=by
 induction r with
 | nil=>exact aaF
 | @cons p q _ _ z t ih=>
   unfold valN atKey at ih ⊢
   rw [abu,abu,← z.1]
   by_cases e:p.1=k
   · rw [decide_eq_true e]
     exact z.2.2
   · rw [decide_eq_false e]
     exact ih
theorem eS (ok:fV P w H h)(x:ND P w sh H d kvs):∃xs,tL kvs xs/\h.DictOfH (jH P w sh) d xs:=by
 obtain ⟨⟨xs,r,o,es,ep,h1,h2,h3,h4⟩,_,_⟩:=(show bp P w H h d (DN P w d kvs) from ok d _ x.at_)
 refine ⟨xs,r,o,es,ep,h1,h2,h3,h4,fun q hq=>?_,?_⟩
 · have all:∀{l:vW} {m:List (List NI×Addr×Value)},tL l m->(∀p∈l,dZ H p.2.1 p.1/\p.1.map abn=sh)->∀q∈m,(jH P w sh).is h q.1 q.2.1:=by
     intro l m z
     induction z with
     | nil=>intro _ q hq; exact nomatch hq
     | @cons p q0 _ _ zz t ih=>
       intro hk q hq
       rcases List.mem_cons.mp hq with e | hq
       · subst e
         obtain ⟨k1,k2⟩:=hk p abj
         rw [← zz.1,← zz.2.1]
         exact jB ok k1 k2
       · exact ih (fun p hp=>hk p (aaW _ hp)) q hq
   exact all r x.keys q hq
 · have e:xs.map (·.1)=kvs.map (·.1):=by
     have go:∀{l:vW} {m:List (List NI×Addr×Value)},tL l m->m.map (·.1)=l.map (·.1):=by
       intro l m z
       induction z with
       | nil=>rfl
       | cons a _ ih=>rw [aaI,aaI,ih,a.1]
     exact go r
   rw [e]
   exact x.nd
theorem FI {H2:Hp}{xs:List (List NI×Addr×Value)}(r:tL kvs xs){o:Obj}{es ep}(h1:h.get? d=some o)(h2:o.ExactDict)(h3:o.data=.dict es ep)(h4:es.toList=xs.map fun x=>⟨rZ P w x.1,.ref x.2.1,x.2.2⟩):bp P w H2 h d (DN P w d kvs):=by
 refine ⟨⟨xs,r,o,es,ep,h1,h2,h3,h4⟩,⟨o,h1⟩,fun g1 g2 x k=>?_⟩
 obtain ⟨ys,r',o',Ld,ep',k1,k2,k3,k4⟩:=x
 exact ⟨ys,r',o',Ld,ep',k _ k1,k2,k3,k4⟩
end
section
variable {X:Cx}{pins:List (Addr×Obj)}{σ:St}{H:Hp}{s:Shared}{d b:Addr}{sh:List Bool}{kvs:vW}{ks:List NI}{v:V}{A:Around}{E:Value->Shared->Prop}
theorem Ei {Q:Value->Shared->Prop}(hu:A.units + 2 < cLine)(I:Inv X pins σ H s)(x:ND X.prog X.w sh H d kvs)(kb:dZ H b ks)(hs:ks.map abn=sh)(fin:∀s2,Inv X pins σ H s2->Q (.bool (!(valN kvs ks).isSome)) s2) :
   wpAny (model X.prog X.w) A (compareOp .NotIn (.ref b) (.ref d)) Q E s:=by
 obtain ⟨xs,r,dd⟩:=eS I.hok x
 refine wpAny_notIn_heap (kL hu) (jB I.hok kb hs) x.main dd ?_
 have q:=(r.val ks).eW
 rw [acj] at q
 rw [← q]
 exact fin _ (I.tok _)
theorem Me {Q:Value->Shared->Prop}(hu:A.units + 2 < cLine)(I:Inv X pins σ H s)(x:ND X.prog X.w sh H d kvs)(kb:dZ H b ks)(hs:ks.map abn=sh)(hv:valN kvs ks=some v)(fin:∀u s2,Inv X pins σ H s2->RelV v u->Q u s2) :
   wpAny (model X.prog X.w) A (getItem (.ref d) (.ref b)) Q E s:=by
 obtain ⟨xs,r,dd⟩:=eS I.hok x
 obtain ⟨u,QG,ru⟩:=iB.some_of (v:=v) (o:=(atKey xs ks).map (·.2)) (by rw [← hv]; exact r.val ks)
 obtain ⟨p,hp,cf⟩:=Option.map_eq_some_iff.mp QG
 refine wpAny_getItem_heap (kL hu) (jB I.hok kb hs) dd hp ?_
 rw [cf]
 exact fin u _ (I.tok _) ru
theorem Mg {r:Value}{Q:Unit->Shared->Prop}(hu:A.units + 2 < cLine)(I:Inv X pins σ H s)(x:ND X.prog X.w sh H d kvs)(kb:dZ H b ks)(hs:ks.map abn=sh)(no:valN kvs ks=none)(rv:RelV v r)(fin:∀s2,Inv X pins σ (upd H d (DN X.prog X.w d (kvs++[(ks,b,v)]))) s2->Q () s2) :
   wpAny (model X.prog X.w) A (setItem (.ref d) (.ref b) r) Q E s:=by
 obtain ⟨xs,rel,dd⟩:=eS I.hok x
 have hz:xs.length<=sizeLine:=by rw [← Paired.length rel]; exact x.len
 have e:atKey xs ks=none:=by
   have q:=(rel.val ks).eW
   rw [no,acj] at q
   cases z:atKey xs ks with
   | none=>rfl
   | some p=>rw [z] at q; cases q
 refine wpAny_setItem_heap (hsz:=hz) (kL hu) (jB I.hok kb hs) dd fun h' oq pZ=>fin _ ?_
 obtain ⟨q,es,ep,hq,h2,h3,h4,_,h5⟩:=oq
 rw [storedH_new e] at h4
 refine eE I (by rw [x.at_]; exact aaF) pZ ⟨q,hq⟩ (FI (Paired.snoc rel ⟨rfl,rfl,rv⟩) hq h2 h3 h4)
theorem Mf {Q:Value->Shared->Prop}(I:Inv X pins σ H s)(x:ND X.prog X.w sh H d kvs)(fin:∀t s2,Inv X pins σ H s2->Q (.int kvs.length t) s2):wpAny (model X.prog X.w) A (call (.builtin "len") [.ref d]) Q E s:=by
 obtain ⟨xs,rel,dd⟩:=eS I.hok x
 have ty:=dd.typeIs
 obtain ⟨o,es,ep,h1,_,h3,h4,_⟩:=dd
 have hl:es.size=kvs.length:=by rw [← abx,h4,aab,Paired.length rel]
 have hk:=x.len
 refine Calls.call_function_entry kind_len plain_len entry_len (args_len1 _) ?_
 unfold Builtin.«len»
 refine wpAny_bind (m:=oneArg "len" _) (wpAny_pure ?_)
 refine wpAny_bind (m:=callSpecial? (.ref d) (abh "__len__")) (aa0 (name:=abh "__len__") ty F.slot_dict_len (wpAny_call_entry F.slot_dict_len ty F.entry_dict_len ?_ (F.args_dict_len_1 _)))
 show wpAny _ _ (acL (dictSize d) _) _ _ s
 unfold dictSize
 refine wpAny_bind (wpAny_bind (wpAny_dictEntries h1 h3 (wpAny_pure ?_)))
 show wpAny _ _ (acL (Builtin.Dict.pendingCount d) _) _ _ s
 refine wpAny_bind (wpAny_pendingCount_other x.main ?_)
 refine wpAny_ret_mkInt ?_
 have hc:(es.size:Int) < 2 ^ 63:=by rw [hl]; exact ac7 (Int.ofNat_le.mpr hk) (by decide)
 have e0:(es.size:Int) + ((0:Nat):Int)=kvs.length:=by rw [hl]; exact Int.add_zero _
 rw [e0]
 refine wpAny_bind (wpAny_holding (wpAny_pure ?_))
 refine wpAny_bind (wpAny_letGo ?_)
 show wpAny _ _ (ite ((kvs.length:Int) < 0) _ _) _ _ _
 rw [if_neg (Int.not_lt.mpr (Int.natCast_nonneg _))]
 show wpAny _ _ (ite ((kvs.length:Int) ≥ 2 ^ 63) _ _) _ _ _
 rw [if_neg (fun z=>by rw [hl] at hc; exact absurd hc (Int.not_lt.mpr z))]
 exact wpAny_bind (wpAny_mkInt (wpAny_pure ⟨_,rfl,fin _ _ ((I.tok _).tok _)⟩))
def xt (P:Program)(w:World)(ty td:TE):TE:=fun σ H Q=>ty σ H fun y H1=>td σ H1 fun x H2=>∃d b sh kvs ks,x=.ref d/\y=.ref b/\ND P w sh H2 d kvs/\dZ H2 b ks/\ks.map abn=sh/\Q (.bl (!(valN kvs ks).isSome)) H2
def GI (P:Program)(w:World)(td ty:TE):TE:=fun σ H Q=>td σ H fun x H1=>ty σ H1 fun y H2=>∃d b sh kvs ks v,x=.ref d/\y=.ref b/\ND P w sh H2 d kvs/\dZ H2 b ks/\ks.map abn=sh/\valN kvs ks=some v/\Q v H2
def Gw (P:Program)(w:World)(td ty tv:TE):TS:=fun D σ H=>tv σ H fun v H1=>td σ H1 fun x H2=>ty σ H2 fun y H3=>∃d b sh kvs ks,x=.ref d/\y=.ref b/\ND P w sh H3 d kvs/\dZ H3 b ks/\ks.map abn=sh/\valN kvs ks=none/\D.nx σ (upd H3 d (DN P w d (kvs++[(ks,b,v)])))
def CA (P:Program)(w:World):TE:=fun _ H Q=>∀p,H p=none->(p == abp)=false->Q (.ref p) (upd H p (DN P w p []))
section
variable {o i e value:Expr}{pos pos':Pos}{td ty tv:TE}
theorem BN:PE X (.Dict [] [] pos) (CA X.prog X.w):=fun pins s σ H Q I h=>
 wpAny_Dict_empty ⟨.ref s.heap.objs.size,_,I.laid (a:=s.heap.objs.size) (o:=DN X.prog X.w s.heap.objs.size []) (t':=s.toks) (fun _ _ q=>aag _ q) (aaf _) (FI (xs:=[]) .nil (aaE _ rfl) ⟨rfl,rfl,rfl⟩ rfl rfl),rfl,
   h _ (I.hok.fresh (aaf _)) (beq_eq_false_iff_ne.mpr (Ne.symm (aaK I.big)))⟩
theorem EU (hu:X.A.units + 2 < cLine)(ho:PE X o td)(hi:PE X i ty)(hs:zK i):PE X (.Subscript o i pos) (GI X.prog X.w td ty):=by
 intro pins s σ H Q I h
 refine xr PySem.F.slot_dict_getitem.lookup hs (bt (ho pins s σ H _ I h) fun u s1 ⟨x,H1,I1,rx,q1⟩=>bt (hi pins s1 σ H1 _ I1 q1) fun iv s2 ⟨y,H2,I2,ry,d,b,sh,kvs,ks,v,ex,ey,n,kb,F7,hv,q2⟩=>?_)
 subst ex ey
 cases rx
 cases ry
 obtain ⟨xs,_,dd⟩:=eS I2.hok n
 exact ⟨dd.typeIs,Me hu I2 n kb F7 hv fun w' s3 I3 rw'=>⟨v,H2,I3,rw',q2⟩⟩
theorem y6 (hu:X.A.units + 2 < cLine)(hi:PE X i ty)(ho:PE X o td):PC X .NotIn i o (xt X.prog X.w ty td):=by
 intro pins s σ H Q I h
 refine bt (hi pins s σ H _ I h) fun iv s1 ⟨y,H1,I1,ry,q1⟩=>bt (ho pins s1 σ H1 _ I1 q1) fun u s2 ⟨x,H2,I2,rx,d,b,sh,kvs,ks,ex,ey,n,kb,F7,q2⟩=>?_
 subst ex ey
 cases rx
 cases ry
 exact Ei hu I2 n kb F7 fun s3 I3=>⟨.bl (!(valN kvs ks).isSome),H2,I3,rfl,q2⟩
theorem E3 (hu:X.A.units + 2 < cLine)(ho:PE X o td)(hi:PE X i ty)(hv:PE X value tv)(hs:abZ value (some (.Subscript o i pos')) pos.line X.env=pure false) :
   PS X (.Assign [.Subscript o i pos'] value pos) (Gw X.prog X.w td ty tv):=by
 intro pins s σ H D I h
 refine wpAny_Assign_Subscript (bt (hv pins s σ H _ I h) fun r s1 ⟨v,H1,I1,rv,q1⟩=>bt (ho pins s1 σ H1 _ I1 q1) fun u s2 ⟨x,H2,I2,rx,q2⟩=>bt (hi pins s2 σ H2 _ I2 q2) fun iv s3 ⟨y,H3,I3,ry,d,b,sh,kvs,ks,ex,ey,n,kb,F7,no,q3⟩=>?_) hs
 subst ex ey
 cases rx
 cases ry
 exact Mg hu I3 n kb F7 no rv fun s4 I4=>⟨σ,_,I4,q3⟩
theorem xE:dC X (.builtin "len") (fun xs H Q=>∃d sh kvs,xs=[V.ref d]/\ND X.prog X.w sh H d kvs/\Q (.int kvs.length) H):=by
 intro pins s σ H xs us Q I r h
 obtain ⟨d,sh,kvs,rfl,n,q⟩:=h
 obtain ⟨u,rfl,ru⟩:=vals1 r
 cases ru
 exact Mf I n fun t s' I'=>⟨.int kvs.length,H,I',⟨t,rfl⟩,q⟩
end
end
end L2
namespace L3
open PySem PySem.Spec PyProof.Rows L2
section
variable {X:Cx}{a b c e o:Expr}{es:List Expr}{ta tb tc te:TE}{t:TA}{pos pos':Pos}{P:Program}{w:World}
theorem FJ (hP:X.prog=P:=by rfl)(hw:X.w=w:=by rfl):SE X (.Dict [] [] pos) (CA P w):=by
 subst hP hw
 exact ⟨BN⟩
theorem Q5 (hu:X.A.units + 2 < cLine)(ho:SE X a ta)(hi:SE X b tb)(hs:zK b:=by exact fun _ _=>rfl)(hP:X.prog=P:=by rfl)(hw:X.w=w:=by rfl):SE X (.Subscript a b pos) (GI P w ta tb):=by
 subst hP hw
 exact ⟨EU hu ho.h hi.h hs⟩
theorem Iv (hu:X.A.units + 2 < cLine)(hi:SE X a ta)(ho:SE X b tb)(h1:abr .NotIn b=false:=by first | exact nu _ (by decide) (by decide) | rfl)(hP:X.prog=P:=by rfl)(hw:X.w=w:=by rfl):ST X (.Compare a [.NotIn] [b] pos) (tB (xt P w ta tb)):=by
 subst hP hw
 exact ⟨JE (y6 hu hi.h ho.h) h1⟩
theorem Q9 (hu:X.A.units + 2 < cLine)(ho:SE X a ta)(hi:SE X b tb)(hv:SE X c tc)(hs:abZ c (some (.Subscript a b pos')) pos.line X.env=pure false:=by rfl)(hP:X.prog=P:=by rfl)(hw:X.w=w:=by rfl):SS X (.Assign [.Subscript a b pos'] c pos) (Gw P w ta tb tc):=by
 subst hP hw
 exact ⟨E3 hu ho.h hi.h hv.h hs⟩
theorem zT (hP:X.prog=P:=by rfl)(hw:X.w=w:=by rfl):SC X (.builtin "len") (fun xs H Q=>∃d sh kvs,xs=[V.ref d]/\ND P w sh H d kvs/\Q (.int kvs.length) H):=by
 subst hP hw
 exact ⟨xE⟩
theorem lV {KK:aac}(hK:X.K=KK:=by first | exact bz | rfl):SC X (.type "tuple") (fun xs H Q=>∃p ys,xs=[.ref p]/\ao KK H p ys/\∀l,H l=none->Q (.ref l) (upd H l (.tup ys))):=by
 subst hK
 refine ⟨fun pins s σ H xs us Q I r h=>?_⟩
 obtain ⟨p,ys,e,hq,q⟩:=h
 exact om pins s σ H xs us Q I r ⟨p,ys,e,.inl ⟨hq,q⟩⟩
theorem K3 (hc:X.calm=true:=by rfl):SC X (.builtin "min") (fun xs H Q=>∃i j,xs=[.int i,.int j]/\Q (.int (if j < i then j else i)) H):=⟨xG hc⟩
end
end L3
namespace L2
open PySem PySem.Spec PyProof.Rows
theorem wM {a b p}:bF (.Dict a b p):=fK fun _ _ z=>nomatch z
end L2
namespace L3
open PySem PySem.Spec PyProof.Rows L2
section
variable {X:Cx}{a b c e o:Expr}{es:List Expr}{ta tb tc te:TE}{t:TA}{pos:Pos}
theorem nN {KK:aac}{p2:Pos}(ha:SE X a ta)(hb:SE X b tb)(hK:X.K=KK:=by first | exact bz | rfl):SE X (.Subscript a (.Slice (some b) none none p2) pos) (Nq (Fc KK) ta (pH tb) mq):=by
 subst hK
 exact ⟨jL qm ha.h (jM hb.h) qg⟩
end
end L3
namespace TW
section
variable {S:Type}(f:S->Option (List Int×S))
def tr:Nat->S->Option (S×List Int)
 | 0,s=>some (s,[])
 | n + 1,s=>match tr n s with
   | none=>none
   | some z=>match f z.1 with
     | none=>none
     | some r=>some (r.2,z.2++r.1)
variable {f}
theorem qA {n:Nat}{s t u:S}{sd x:List Int}(h:tr f n s=some (t,sd))(hf:f t=some (x,u)):tr f (n + 1) s=some (u,sd++x):=by
 show (match tr f n s with | none=>none | some z=>match f z.1 with | none=>none | some r=>some (r.2,z.2++r.1))=_
 rw [h]
 show (match f t with | none=>none | some r=>some (r.2,sd++r.1))=_
 rw [hf]
theorem xv {n:Nat}{s t:S}{sd:List Int}(h:tr f n s=some (t,sd))(hf:f t=none):tr f (n + 1) s=none:=by
 show (match tr f n s with | none=>none | some z=>match f z.1 with | none=>none | some r=>some (r.2,z.2++r.1))=_
 rw [h]
 show (match f t with | none=>none | some r=>some (r.2,sd++r.1))=_
 rw [hf]
theorem xu {n:Nat}{s:S}(h:tr f n s=none):tr f (n + 1) s=none:=by
 show (match tr f n s with | none=>none | some z=>match f z.1 with | none=>none | some r=>some (r.2,z.2++r.1))=_
 rw [h]
theorem GR {s:S}:∀{n m:Nat} {z:S×List Int},tr f n s=some z->m<=n->∃y,tr f m s=some y/\∃rest,z.2=y.2++rest
 | 0,m,z,h,hm=>by
   obtain rfl:m=0:=by omega
   exact ⟨z,h,[],(aaJ _).symm⟩
 | n + 1,m,z,h,hm=>by
   by_cases e:m=n + 1
   · subst e
     exact ⟨z,h,[],(aaJ _).symm⟩
   · cases e1:tr f n s with
     | none=>rw [xu e1] at h; cases h
     | some y=>
       obtain ⟨y2,h2,rest,h3⟩:=GR (n:=n) (m:=m) e1 (by omega)
       cases e2:f y.1 with
       | none=>rw [xv (t:=y.1) (sd:=y.2) e1 e2] at h; cases h
       | some r=>
         rw [qA (t:=y.1) (u:=r.2) (x:=r.1) (sd:=y.2) e1 e2] at h
         cases h
         exact ⟨y2,h2,rest++r.1,by show y.2++r.1=_; rw [h3,acr]⟩
abbrev Rs:=List Int×Option (List Int)×Nat
variable (f)
def Ends (s:S)(r:Rs):Prop:=∃n t sd,tr f n s=some (t,sd)/\f t=none/\r=(sd,none,n)
def GY (s:S)(r:Rs):Prop:=∃j i t sj sd,j < i/\tr f j s=some (t,sj)/\tr f i s=some (t,sj++sd)/\(∀a b x y u v,a < b->b < i->tr f a s=some (x,u)->tr f b s=some (y,v)->x≠y)/\r=(sj,some sd,j)
def GZ (s:S)(r:Rs):Prop:=Ends f s r\/GY f s r
variable {f}
def zO:List (Str×Int)->List (List Int)
 | []=>[[]]
 | b :: bs=>(aaM b.2.toNat).flatMap fun x:Nat=>(zO bs).map fun ws=>(x:Int) :: ws
theorem uS {α β:Type}(g:α->List β)(c:Nat)(h:∀a,(g a).length=c):∀l:List α,(l.flatMap g).length=l.length * c
 | []=>by simp
 | a :: l=>by
   rw [List.flatMap_cons,aae,uS g c h l,h,aay,adg,Nat.add_comm]
def oi:List (Str×Int)->Nat
 | []=>1
 | b :: bs=>b.2.toNat * oi bs
theorem qP:∀bs:List (Str×Int),(zO bs).length=oi bs
 | []=>rfl
 | b :: bs=>by
   show ((aaM b.2.toNat).flatMap fun x:Nat=>(zO bs).map fun ws=>(x:Int) :: ws).length=b.2.toNat * oi bs
   rw [uS _ (oi bs) (fun x=>by rw [aab,qP bs]),abH]
def Dp (bs:List (Str×Int))(m:Nat):List (Int×List Int):=(aaM m).flatMap fun x:Nat=>(zO bs).map fun ws=>((x:Int),ws)
theorem zN (bs:List (Str×Int))(m:Nat):(Dp bs m).length=m * oi bs:=by
 unfold Dp
 rw [uS _ (oi bs) (fun x=>by rw [aab,qP bs]),abH]
end
end TW
namespace L2
open PySem PySem.Spec PyProof.Rows
end L2
namespace L3
open PySem PySem.Spec PyProof.Rows L2
end L3
namespace L2
open PySem PySem.Spec PyProof.Rows SeqAt
end L2
namespace L3
open PySem PySem.Spec PyProof.Rows L2
theorem wO {X:Cx}:SO X (binaryOp .Mult) MO:=⟨Ja⟩
end L3
namespace L2
open PySem PySem.Spec PyProof.Rows
theorem bp.ex {P:Program}{w:World}{H:Hp}{h:Heap}{a:Addr}{o:HO}(x:bp P w H h a o):∃ob,h.get? a=some ob:=by
 cases o with
 | lst xs=>obtain ⟨_,_,_,_,e⟩:=x; exact ⟨_,e⟩
 | tup xs=>obtain ⟨_,_,_,ob,e,_⟩:=x; exact ⟨ob,e⟩
 | dK kvs=>obtain ⟨_,_,_,_,o,_,_,e,_⟩:=x; exact ⟨o,e⟩
 | dT kvs=>obtain ⟨_,_,_,_,o,_,_,e,_⟩:=x; exact ⟨o,e⟩
 | set S n=>obtain ⟨o,_,_,_,e,_⟩:=x; exact ⟨o,e⟩
 | ins C dx fs=>obtain ⟨_,_,_,e,_⟩:=x; exact ⟨_,e⟩
 | own y=>obtain ⟨ob,e⟩:=x; exact ⟨ob,e⟩
 | xd fs=>obtain ⟨_,⟨ob,_,_,e,_⟩,_⟩:=x; exact ⟨ob,e⟩
 | rng lo hi=>obtain ⟨_,_,_,e⟩:=x; exact ⟨_,e⟩
 | frz ob u=>obtain ⟨e,_⟩:=x; exact ⟨ob,e⟩
 | tbl ps=>exact ⟨_,(show h.get? a=some _ from x)⟩
 | met f y=>exact ⟨_,(show h.get? a=some _ from x)⟩
 | ext φ=>obtain ⟨_,⟨ob,e⟩,_⟩:=x; exact ⟨ob,e⟩
def lC (P:Program)(w:World)(base:Heap):vV:=fun outer H s E e s'=>∃(ea:Addr) (cls a0:Value) (B:Heap) (H':Hp),e=.ref ea/\s'.os=s.os/\AllBare s'.gens/\Un (ji outer) [] H H' s.heap s'.heap/\fV P w H' s'.heap /\
 base.StaysIn B/\Heap.FlyingW B outer ea cls a0 s'.heap/\(∀b o,s.heap.get? b=some o->b ∉ ji outer->∃o',B.get? b=some o')/\(∀b u,H' b=some u->∃o,B.get? b=some o)/\s.heap.get? ea=none/\E cls none H'
section
variable {P:Program}{w:World}{K:aac}{mg:Str->Option Value}{base:Heap}{N:List Str}{qual:Str}{scope:Scope}{f:Addr}{cd:Value}{A:Around}{outer:List Env}{s:Shared}{H:Hp}{E:XK}
theorem kT {H1:Hp}{h B g:Heap}(ok:fV P w H1 h)(inB:∀b u,H1 b=some u->∃o,B.get? b=some o)(sb:B.StaysIn h)(sg:B.StaysIn g):fV P w H1 g:=fun a u e=>by
 refine (ok a u e).oH (fun b o hb q=>?_) (fun _ q=>q) (fun _ _ q=>q)
 have FT:∃v,H1 b=some v:=by
   rcases hb with rfl | hb
   · exact ⟨u,e⟩
   · exact ⟨_,hb⟩
 obtain ⟨v,hv⟩:=FT
 obtain ⟨o',ho'⟩:=inB b v hv
 have:=sb b o' ho'
 rw [q] at this
 cases this
 exact sg b o ho'
theorem uR {pins:List (Addr×Obj)}{σ:St}{H1:Hp}{s1:Shared}{h':Heap}{e:Addr}{cls:Value}{args:List Value}(I:Inv (hV (lC P w base) P w K mg base N qual scope f cd A outer s H E) pins σ H1 s1)(hx:Heap.MadeExcOf s1.heap h' e cls args)(q:E cls none H1) :
   (hV (lC P w base) P w K mg base N qual scope f cd A outer s H E).xe (.ref e) { s1 with heap:=h' }:=by
 have Ic:(hV (lC P w base) P w K mg base N qual scope f cd A outer s H E).stack=envOfC qual scope s.heap.objs.size f cd :: outer:=rfl
 have fr:s1.heap.FunFrames base (envOfC qual scope s.heap.objs.size f cd :: outer):=I.stack
 have frf:=I.qy
 rw [Ic] at frf
 have hbase:∀b o,base.get? b=some o->s1.heap.get? b=some o:=I.bk
 have oh:Un (ji outer) [] H H1 s.heap s1.heap:=I.base
 have hex:∀b:Addr,b ∉ ([]:List Addr):=fun b z=>nomatch z
 have hloc:∀b o,s.heap.get? b=some o->b ∉ ji outer->b ∉ ji (envOfC qual scope s.heap.objs.size f cd :: outer):=fun b o hb hn hm=>by
   rcases List.mem_cons.mp (show b∈s.heap.objs.size :: ji outer from hm) with z | z
   · exact absurd (aaj hb) (by rw [z]; exact abJ _)
   · exact hn z
 let B:=PySem.W.hideAll s1.heap (ji (envOfC qual scope s.heap.objs.size f cd :: outer))
 have bget:∀b o,s1.heap.get? b=some o->b ∉ ji (envOfC qual scope s.heap.objs.size f cd :: outer)->B.get? b=some o:=fun b o hb hn=>adS _ hb hn
 have SF:B.StaysIn s1.heap:=fun b o hb=>ad0 _ hb
 have Oy:base.StaysIn B:=fun b o hb=>bget b o (hbase b o hb) fun hm=>by
   have:=(fr.mem hm).1
   rw [hb] at this
   cases this
 have VZ:s1.heap.FunFrames B (envOfC qual scope s.heap.objs.size f cd :: outer):=PySem.W.funFrames_hide fr fun env he a ha=>List.mem_filterMap.mpr ⟨env,he,ha⟩
 have zm:∀b u,H1 b=some u->∃o,B.get? b=some o:=fun b u hu=>by
   obtain ⟨o,ho⟩:=(I.hok b u hu).ex
   refine ⟨o,bget b o ho fun hm=>?_⟩
   rw [frf b hm] at hu
   cases hu
 refine wpAny_leaves_madeW (base:=B) (h:=s1.heap) (args:=args) I.ok.frames rfl SF VZ hx fun h2 t x1 x2 x3 x4=>?_
 refine ⟨e,cls,.ref t,B,H1,rfl,I.os,I.bare,⟨fun b o hb n hf _=>?_,fun b o hb n hf _=>?_,fun b o hb n _=>oh.free b o hb n (hex b),fun b o hb _=>?_,oh.tups,oh.frzs,oh.tbls⟩,kT I.hok zm SF x1.1,Oy,x1,fun b o hb hf=>?_,zm,?_,q⟩
 · exact x1.1 b o (bget b o (oh.keep b o hb n hf (hex b)) (hloc b o hb hf))
 · obtain ⟨sl,e1⟩:=oh.slot b o hb n hf (hex b)
   obtain ⟨_,o2,qF,hd2⟩:=fr.mem (show b∈ji (envOfC qual scope s.heap.objs.size f cd :: outer) from aaW _ hf)
   rw [e1] at qF
   cases qF
   obtain ⟨RL,e2⟩:=x4 b _ (hx.keeps b _ e1) hd2
   exact ⟨RL,e2⟩
 · obtain ⟨o1,e1⟩:=oh.there b o hb (hex b)
   by_cases hm:b∈ji (envOfC qual scope s.heap.objs.size f cd :: outer)
   · obtain ⟨_,o2,qF,hd2⟩:=fr.mem hm
     obtain ⟨RL,e2⟩:=x4 b _ (hx.keeps b _ qF) hd2
     exact ⟨_,e2⟩
   · exact ⟨o1,x1.1 b o1 (bget b o1 e1 hm)⟩
 · obtain ⟨o1,e1⟩:=oh.there b o hb (hex b)
   exact ⟨o1,bget b o1 e1 (hloc b o hb hf)⟩
 · cases z:s.heap.get? e with
   | none=>rfl
   | some o=>
     obtain ⟨o1,e1⟩:=oh.there e o z (hex e)
     rw [hx.new] at e1
     cases e1
theorem Mv {E':XK}(hE:∀c d H2,E' c d H2->E c d H2):Passes (lC P w base) (hV (lC P w base) P w K mg base N qual scope f cd A outer s H E) E':=by
 intro pins σ H1 s1 e s2 I cx
 obtain ⟨ea,cls,a0,B,H2,rfl,Ri,zP,CK,HZ,Oy,Af,inB,zm,Of,q⟩:=cx
 have oh:Un (ji outer) [] H H1 s.heap s1.heap:=I.base
 have hex:∀b:Addr,b ∉ ([]:List Addr):=fun b z=>nomatch z
 have Ic:(hV (lC P w base) P w K mg base N qual scope f cd A outer s H E).stack=envOfC qual scope s.heap.objs.size f cd :: outer:=rfl
 rw [Ic] at Af CK inB
 have hloc:∀b o,s.heap.get? b=some o->b ∉ ji outer->b ∉ ji (envOfC qual scope s.heap.objs.size f cd :: outer):=fun b o hb hn hm=>by
   rcases List.mem_cons.mp (show b∈s.heap.objs.size :: ji outer from hm) with z | z
   · exact absurd (aaj hb) (by rw [z]; exact abJ _)
   · exact hn z
 have NX:=Af.2.2.1
 have sB2:=Af.1
 refine wpAny_leaves_onW I.ok.frames rfl Af fun h3 x1 x2=>?_
 have L6:∀b o,s.heap.get? b=some o->b ∉ ji outer->∃o',B.get? b=some o':=fun b o hb hf=>by
   obtain ⟨o1,e1⟩:=oh.there b o hb (hex b)
   exact inB b o1 e1 (hloc b o hb hf)
 refine ⟨ea,cls,a0,B,H2,rfl,Ri.trans I.os,zP,⟨fun b o hb n hf _=>?_,fun b o hb n hf _=>?_,fun b o hb n _=>?_,fun b o hb _=>?_,fun b xs h=>CK.tups b xs (oh.tups b xs h),fun b o u h=>CK.frzs b o u (oh.frzs b o u h),fun b ps h=>?_⟩,kT HZ zm sB2 x1.1,Oy,x1,L6,zm,?_,hE _ _ _ q⟩
 · have e1:=oh.keep b o hb n hf (hex b)
   have n1:=oh.free b o hb n (hex b)
   have e2:=CK.keep b o e1 n1 (hloc b o hb hf) (hex b)
   obtain ⟨o',ho'⟩:=L6 b o hb hf
   have e3:=sB2 b o' ho'
   rw [e2] at e3
   cases e3
   exact x1.1 b o ho'
 · obtain ⟨sl,e1⟩:=oh.slot b o hb n hf (hex b)
   have n1:=oh.free b o hb n (hex b)
   obtain ⟨RL,e2⟩:=CK.any e1 n1 (hex b)
   obtain ⟨_,o2,qF,hd2⟩:=NX.mem (show b∈ji (envOfC qual scope s.heap.objs.size f cd :: outer) from aaW _ hf)
   rw [e2] at qF
   cases qF
   obtain ⟨UL,e3⟩:=x2 b _ e2 hd2
   exact ⟨UL,e3⟩
 · obtain ⟨o1,e1⟩:=oh.there b o hb (hex b)
   exact CK.free b o1 e1 (oh.free b o hb n (hex b)) (hex b)
 · obtain ⟨o1,e1⟩:=oh.there b o hb (hex b)
   obtain ⟨o2,e2⟩:=CK.there b o1 e1 (hex b)
   by_cases hm:b∈ji (envOfC qual scope s.heap.objs.size f cd :: outer)
   · obtain ⟨_,o3,Xt,WX⟩:=NX.mem hm
     obtain ⟨UL,e3⟩:=x2 b _ Xt WX
     exact ⟨_,e3⟩
   · obtain ⟨o',ho'⟩:=inB b o1 e1 hm
     exact ⟨o',x1.1 b o' ho'⟩
 · obtain ⟨m1,e1⟩:=oh.tbls b ps h
   obtain ⟨m2,e2⟩:=CK.tbls b _ e1
   exact ⟨m1++m2,by rw [e2,Array.append_assoc]⟩
 · cases z:s.heap.get? ea with
   | none=>rfl
   | some o=>
     obtain ⟨o1,e1⟩:=oh.there ea o z (hex ea)
     rw [Of] at e1
     cases e1
end
abbrev vE:List Value:=[.type "ValueError",.type "Exception",.type "BaseException",.type "object"]
def pQ (K:aac)(C:Addr):Option (List Value):=match K.lookup C with
 | some ⟨_,_,.cls cd,_⟩=>some cd.mro
 | _=>none
structure Xc (K:aac)(mg:Str->Option Value)(x:Str)(C:Addr)(tl:List Value):Prop where
 m:mg x=some (.ref C)
 ex:adx K C vE "ValueError.__new__"=true
 mro:pQ K C=some (.ref C :: tl)
theorem Xc.obj {K:aac}{mg:Str->Option Value}{x:Str}{C:Addr}{tl:List Value}{h:Heap}(c:Xc K mg x C tl)(hk:K.In h) :
   ∃N nm q bs hdct sn sub ab col dd k0 k1 k2 k3 k5 mN,h.get? C=some (excClassObj nm q C N bs tl hdct sn sub ab col dd k0 k1 k2 k3 k5 "ValueError.__new__")/\h.Ns N mN/\mN "__init__"=none/\OwnTail h vE tl:=by
 have q:=c.ex
 have m:=c.mro
 unfold adx at q
 unfold pQ at m
 split at q
 · rename_i od cd sl look
   rw [look] at m
   split at q
   · rename_i C' bm k0 k1 k2 k3 n k5 hm hs
     simp only [aaZ,beq_iff_eq,Bool.not_eq_true'] at q
     obtain ⟨⟨⟨⟨⟨z1,z2⟩,Ly⟩,ht⟩,hok⟩,uF⟩:=q
     subst z1 z2
     have m2:cd.mro=.ref C' :: tl:=by injection m
     rw [hm] at m2
     have e1:bm=tl:=by injection m2
     subst e1
     obtain ⟨nm,bs,mro,ns,qn,hd,sn,sub,ab,col,del⟩:=cd
     dsimp only at hm Ly hok uF
     subst hm Ly
     have TU:sl = #[k0,k1,k2,k3,some (.builtin "ValueError.__new__"),k5]:=by
       obtain ⟨l⟩:=sl
       simp only at hs
       rw [hs]
     subst TU
     exact ⟨ns,nm,qn,bs,hd,sn,sub,ab,col,od,k0,k1,k2,k3,k5,_,hk _ _ look,.of_isNs (PySem.W.isNs_of_in hk hok),PySem.W.nsMap_none_of_in hk hok uF,PySem.W.tail_of_in hk ht⟩
   · cases q
 · cases q
abbrev TF:=St->Hp->(Hp->Prop)->Prop
def PF (X:Cx)(parts:List Expr)(n:Nat)(t:TF):Prop:=∀(pins:List (Addr×Obj)) (s:Shared) (σ:St) (H:Hp) (acc:Str) (k:Hp->Prop),Inv X pins σ H s->t σ H k->acc.length + n * 2000<=sizeLine ->
 Joins (model X.prog X.w) X.A X.xe (evalEach parts X.env) acc (fun out s1=>out.length<=sizeLine/\∃H',Inv X pins σ H' s1/\k H') s
def Kl (x:V):Prop:=(∃i,x=.int i/\i.natAbs.log2 < 1920)\/∃y:Str,x=.str y/\y.length<=2000
section
variable {X:Cx}{a:Expr}{ps:List Expr}{n:Nat}{t:TF}{te:TE}{pos:Pos}
theorem Jq:PF X [] 0 (fun _ H k=>k H):=fun pins s σ H acc k I h hl=>⟨by omega,H,I,h⟩
theorem Jr {x:Str}{j}(hx:x.length<=2000)(hr:PF X ps n t):PF X (.Constant (.str x) j pos :: ps) (n + 1) t:=by
 intro pins s σ H acc k I h hl
 have hp:=BP (X:=X) (x:=x) (j:=j) (pos:=pos) pins s σ H (fun v H1=>v=.str x/\H1=H) I ⟨rfl,rfl⟩
 refine bt hp fun u s1 ⟨v,H1,I1,rv,e1,e2⟩=>?_
 subst e1 e2
 obtain ⟨tk,rfl⟩:=rv
 have hlen:(acc++x).length=acc.length + x.length:=strLen_append ..
 exact ⟨x,tk,rfl,by omega,hr pins s1 σ H1 (acc++x) k I1 h (by omega)⟩
theorem Js (ha:PE X a te)(hr:PF X ps n t):PF X (.FormattedValue a (-1) none pos :: ps) (n + 1) (fun σ H k=>te σ H fun x H1=>Kl x/\t σ H1 k):=by
 intro pins s σ H acc k I h hl
 refine FormattedValue_plain (bt (ha pins s σ H _ I h) fun u s1 ⟨v,H1,I1,rv,fo,q⟩=>?_)
 rcases fo with ⟨i,rfl,hi⟩ | ⟨y,rfl,hy⟩
 · obtain ⟨tk,rfl⟩:=rv
   refine formatField_int_small hi ?_
   have h1:=int_text_length_le (k:=1920) (by decide) hi
   have h2:(abh (toString i)).length<=1921:=by rw [PySem.ofString_length]; exact h1
   have hlen:(acc++abh (toString i)).length=acc.length + (abh (toString i)).length:=strLen_append ..
   exact ⟨abh (toString i),_,rfl,by omega,hr pins _ σ H1 _ k ((I1.tok _).tok _) q (by omega)⟩
 · obtain ⟨tk,rfl⟩:=rv
   refine formatField_str (fun t' OB=>?_) (aak hy (by decide))
   have hlen:(acc++y).length=acc.length + y.length:=strLen_append ..
   exact ⟨y,_,rfl,by omega,hr pins _ σ H1 _ k (I1.tok _) q (by omega)⟩
theorem ER {v1 v2:Expr}(h:PF X (v1 :: v2 :: ps) n t)(hn:n<=1000):PE X (.JoinedStr (v1 :: v2 :: ps) pos) (fun σ H Q=>t σ H fun H1=>∀x,Q (.str x) H1):=by
 intro pins s σ H Q I hq
 refine PySem.wpAny_JoinedStr ?_
 have hz:(ad5:Str).length + n * 2000<=sizeLine:=by
   have:(ad5:Str).length=0:=rfl
   have:(2000000:Nat)<=sizeLine:=by decide
   omega
 have j:=h pins s σ H ad5 _ I hq hz
 have go:∀(l:List (Sem Value)) (acc:Str) (s:Shared),Joins (model X.prog X.w) X.A X.xe l acc (fun out s1=>out.length<=sizeLine/\∃H',Inv X pins σ H' s1/\∀x,Q (.str x) H') s->Joins (model X.prog X.w) X.A X.xe l acc (fun out s1=>out.length<=sizeLine/\EP X pins σ Q (.str out s1.toks) { s1 with toks:=s1.toks + 1 }) s:=by
   intro l
   induction l with
   | nil=>
     rintro acc s ⟨h1,H',I',q⟩
     exact ⟨h1,.str acc,H',I'.tok _,⟨_,rfl⟩,q acc⟩
   | cons x l ih=>
     intro acc s hj
     exact bt hj fun u s1 ⟨y,tk,e,hl,r⟩=>⟨y,tk,e,hl,ih _ _ r⟩
 exact go _ _ _ j
def CD (Ex:XK)(C:Addr)(ta:TA):TS:=fun _ σ H=>ta σ H fun vs H1=>∃v,vs=[v]/\Ex (.ref C) none H1
def mx (X:Cx)(Ex:XK):Prop:=∀{pins:List (Addr×Obj)} {σ:St} {H:Hp} {s:Shared} {h':Heap} {e:Addr} {cls:Value} {args:List Value},Inv X pins σ H s->Heap.MadeExcOf s.heap h' e cls args->Ex cls none H->X.xe (.ref e) { s with heap:=h' }
theorem BV {x:Str}{C:Addr}{tl:List Value}{Ex:XK}{ta:TA}{np cpos:Pos}(hx:mx X Ex)(c:Xc X.K X.mg x C tl)(hb:tl.contains (.type "BaseException")=true)(hg:Gl X x)(hc:X.calm=true)(ha:tN X [a] ta)(hd:(x == ("__debug__":Str))=false:=by decide) :
   PS X (.Raise (some (.Call (.Name x np) [a] [] cpos)) none pos) (CD Ex C ta):=by
 intro pins s σ H D I h
 obtain ⟨N,nm,q,bs,hdct,sn,sub,ab,col,dd,k0,k1,k2,k3,k5,mN,hC,hN,uF,T⟩:=c.obj I.ok.mod.kin
 refine wpAny_Raise_call_subT (C:=C) (nm:=nm) (q:=q) (N:=N) (bs:=bs) (bm:=tl) (hdct:=hdct) (sn:=sn) (sub:=sub) (ab:=ab) (col:=col) (dd:=dd) (k0:=k0) (k1:=k1) (k2:=k2) (k3:=k3) (k5:=k5) PySem.F.excBase_ValueError (mN:=mN) hb (I.ok.hd hc)
   (by rw [(ha.ns a [] rfl).1.h [] X.env]; exact (ha.ns a [] rfl).2 cpos X.env) uF (jF I hg c.m ⟨rfl,?_⟩ hd)
 have he:=(ha.ns a [] rfl).1.h [] X.env
 have h2:=ha.pa cpos pins s σ H _ I h
 rw [he] at h2 ⊢
 refine ab6 (bt h2 fun us s2 ⟨vs,H1,I1,r,v,ev,q1⟩=>⟨rfl,?_,I1.bk _ _ hC,hN.keeps I1.bk,T.keeps I1.bk,fun h' e hm=>hx I1 hm q1⟩)
 have h1:=r.length
 rw [ev] at h1
 show us.length<=sizeLine
 rw [← h1]
 exact (by decide:1<=sizeLine)
end
end L2
namespace L2
open PySem PySem.Spec PyProof.Rows PySem.W PySem.Builtin PySem.Builtin.ObjectAttr PySem.Builtin.Getset_descriptor
section
variable {prog:Program}{w:World}{A:Around}{E:Value->Shared->Prop}{s:Shared}{K:Frag}{x C:Addr}{ox:Obj}
def lD (x C:Addr)(h:Heap):Prop:=∃o,h.get? x=some o/\o.cls=.ref C
theorem lD.ty {x C:Addr}{h:Heap}{M:Model}(p:lD x C h):Looks M h (typeOf (.ref x)) (.ref C):=by
 obtain ⟨o,h1,h2⟩:=p
 exact h2 ▸ (Looks.ld h1).andThen .now
theorem DE {R:Result->Shared->Prop}{tp:Value}(X:K.In s.heap)(I:lD x C s.heap)(hm:mroIn K C (.type "object")=some true)
   (h:R (.ok (.ret (.ref C))) s):codeAny (model prog w) A (.call (.builtin "getset_descriptor.__get__") ⟨[.builtin "object.__class__",.ref x,tp],[]⟩) R s:=by
 obtain ⟨hh,g,dr,t,os⟩:=s
 have q0:=I.ty (M:=model prog w)
 have q1:=looks_mroIn (M:=model prog w) X hm
 refine codeAny_call_builtin KF.slot_gs.plain KF.entry_gs (KF.slot_gs.check _ _ _ _ _ _ _ _ KF.type_class (KF.args_gs _ _ _) ?_)
 unfold Builtin.«getset_descriptor.__get__» descrGet
 rw [dga_obj]
 refine wpAny_bind (wpAny_pure ?_)
 unfold descrGetter descrCheckInstance descrNameAndClass isInstance
 simp only [KF.owner_class]
 repeat lk
 refine ⟨abS _ (by decide +kernel),adQ KF.entry_class ?_⟩
 unfold Builtin.«object.__class__» shownTypeOf
 repeat lk
 exact h
theorem xT {tk:Tok}{P:Value->Shared->Prop}(X:K.In s.heap)(I:lD x C s.heap)(ha:findIn K (.ref C) "__class__"=some (some (.builtin "object.__class__")))(hn:specialIn K (.builtin "object.__class__") "__get__"=some (some (.builtin "getset_descriptor.__get__")))
   (htk:takesIn K (.builtin "object.__class__")=some true) (hm:mroIn K C (.type "object")=some true) (h:P (.ref C) s) :
   wpAny (model prog w) A (Builtin.«object.__getattribute__» ⟨[.ref x,.str "__class__" tk],[]⟩) (fun fin s'=>∃v,fin=.done (.ret v)/\P v s') E s:=by
 obtain ⟨hh,g,d,t,os⟩:=s
 have l0:=I.ty (M:=model prog w)
 have l1:=looks_findIn (M:=model prog w) X ha
 have l2:=looks_specialIn (M:=model prog w) X hn
 have l3:=looks_takesIn (M:=model prog w) X htk
 unfold Builtin.«object.__getattribute__»
 refine wpAny_bind (wpAny_pure ?_)
 dsimp only
 refine wpAny_bind (wpAny_pure ?_)
 refine wpAny_bind (l0.at ?_)
 refine wpAny_bind ?_
 unfold Builtin.ObjectAttr.find
 refine wpAny_bind (l1.at ?_)
 refine wpAny_bind (l2.at ?_)
 refine wpAny_bind (wpAny_bind (l3.at ?_))
 rw [if_pos rfl]
 refine wpAny_pure ?_
 refine wpAny_bind (wpAny_rule (wpAny_pure ?_))
 show wpAny _ _ (acK (.builtin "getset_descriptor.__get__") (.builtin "object.__class__") (.ref x) (.ref C)) _ _ _
 unfold acK
 dsimp only
 refine wpAny_bind (wpAny_holding (wpAny_call (DE X I hm ?_)))
 exact wpAny_pure ⟨_,rfl,h⟩
theorem xR {M:Model}{Gf:Value}{Q:Unit->Shared->Prop}(X:K.In s.heap)(I:lD x C s.heap)(hb:mroIn K C (.type "BaseException")=some true)(h:Q () s) :
   wpAny M A (checkBuiltinCall "BaseException.__getattribute__" ⟨[.ref x,Gf],[]⟩) Q E s:=by
 obtain ⟨hh,g,d,t,os⟩:=s
 have l0:=I.ty (M:=M)
 have l1:=looks_mroIn (M:=M) X hb
 have kd:builtinKind "BaseException.__getattribute__"=some .slot:=by decide +kernel
 have sp:splitId "BaseException.__getattribute__"=some ("BaseException","__getattribute__"):=by decide +kernel
 have ar:=F.args_bexc_ga (.ref x) Gf
 simp only [checkBuiltinCall,kd,sp]
 unfold isInstance
 refine wpAny_bind (wpAny_bind (l0.at (l1.at ?_)))
 repeat (first | exact h | assumption | wp_step)
theorem xS {Q:Option Value->Shared->Prop}(X:K.In s.heap)(I:lD x C s.heap)(hga:findIn K (.ref C) "__getattribute__"=some (some (.builtin "BaseException.__getattribute__")))(hgn:findIn K (.ref C) "__getattr__"=some none)
   (ha:findIn K (.ref C) "__class__"=some (some (.builtin "object.__class__"))) (hn:specialIn K (.builtin "object.__class__") "__get__"=some (some (.builtin "getset_descriptor.__get__"))) (htk:takesIn K (.builtin "object.__class__")=some true)
   (hm:mroIn K C (.type "object")=some true) (hb:mroIn K C (.type "BaseException")=some true) (h:Q (some (.ref C)) { s with toks:=s.toks + 1 }) :
   wpAny (model prog w) A (adL (.ref x) "__class__") Q E s:=by
 obtain ⟨hh,g,d,t,os⟩:=s
 have l0:=I.ty (M:=model prog w)
 have l1:=looks_findIn (M:=model prog w) X hga
 have l2:=looks_findIn (M:=model prog w) X hgn
 unfold adL getAttrBy? getAttrBy
 refine wpAny_bind (wpAny_mkText (wpAny_bind (wpAny_attempt (wpAny_holding (wpAny_bind (l0.at (wpAny_bind (l1.at ?_))))))))
 dsimp only
 rw [if_neg (fun z=>by rw [show (acs "BaseException.__getattribute__" == acs "object.__getattribute__")=false by decide +kernel,adI] at z; cases z)]
 unfold getAttrByItsOwn hookBefore
 rw [if_pos (show onTheHeap (aax C)=true by rfl)]
 refine wpAny_bind (l2.at ?_)
 refine wpAny_bind (wpAny_attempt (wpAny_holding ?_))
 show wpAny _ _ (boundAndCalled (.builtin "BaseException.__getattribute__") (.ref x) (.str "__class__" t)) _ _ _
 unfold boundAndCalled
 rw [F.attr_ValueError.ga.bind (.ref x)]
 refine wpAny_bind (wpAny_pure ?_)
 refine wpAny_call (codeAny_call_builtin F.attr_ValueError.ga.plain F.entry_bexc_ga (xR (s:=⟨hh,g,d,t + 1,os⟩) X I hb ?_))
 refine wpAny_mono (xT (s:=⟨hh,g,d,t + 1,os⟩) X I ha hn htk hm (P:=fun v s'=>v=.ref C/\s'=⟨hh,g,d,t + 1,os⟩) ⟨rfl,rfl⟩) (fun fin s' z=>?_) fun _ _ z=>z
 obtain ⟨v,rfl,rfl,rfl⟩:=z
 show wpAny (model prog w) A (handedOut (.ref C)) _ _ _
 exact handed_on rfl (wpAny_pure h)
structure G2 (K:Frag)(C:Addr):Prop where
 ga:findIn K (.ref C) "__getattribute__"=some (some (.builtin "BaseException.__getattribute__"))
 gn:findIn K (.ref C) "__getattr__"=some none
 ha:findIn K (.ref C) "__class__"=some (some (.builtin "object.__class__"))
 hn:specialIn K (.builtin "object.__class__") "__get__"=some (some (.builtin "getset_descriptor.__get__"))
 htk:takesIn K (.builtin "object.__class__")=some true
 hm:mroIn K C (.type "object")=some true
 hb:mroIn K C (.type "BaseException")=some true
 hc:(clsIn K C).isSome=true
theorem ni (k:G2 K C):KitX K (.ref x) (.ref C) (lD x C) where
 ty:=fun _ _ _ I=>I.ty
 it:=fun _ _ X _=>by
   obtain ⟨cd,e⟩:=Option.isSome_iff_exists.mp k.hc
   unfold clsIn at e
   split at e
   · rename_i c' d' Vs RK look
     intro A' Q' E' s' st q
     unfold isType loadHead
     exact wpAny_bind (wpAny_loadPart (st _ _ (X _ _ look)) (wpAny_pure q))
   · cases e
 ne:=fun h tp dd its n sl X uL=>by
   obtain ⟨cd,e⟩:=Option.isSome_iff_exists.mp k.hc
   refine Bool.eq_false_iff.mpr fun q=>?_
   have z:C=tp:=Value.ref.inj (beq_iff_eq.mp q)
   subst z
   unfold clsIn at e
   split at e
   · rename_i c' d' Vs RK look
     have y:=(X _ _ look).symm.trans uL
     cases y
   · cases e
 ca:=fun X I q=>xS X I k.ga k.gn k.ha k.hn k.htk k.hm k.hb q
end
theorem CL {fs:List Addr}{H1 H2:Hp}{h1 h2 h3 B:Heap}(u:Un fs [] H1 H2 h1 h2)(s2:B.StaysIn h2)(s3:B.StaysIn h3)(inB:∀b o,h1.get? b=some o->b ∉ fs->∃o',B.get? b=some o')
   (sl:∀b o,b∈fs->h2.get? b=some o->∃x,h3.get? b=some { o with slots:=x }):Un fs [] H1 H2 h1 h3:=by
 have hex:∀b:Addr,b ∉ ([]:List Addr):=fun b z=>nomatch z
 refine ⟨fun b o hb n hf _=>?_,fun b o hb n hf _=>?_,fun b o hb n _=>u.free b o hb n (hex b),fun b o hb _=>?_,u.tups,u.frzs,u.tbls⟩
 · have e2:=u.keep b o hb n hf (hex b)
   obtain ⟨o',ho'⟩:=inB b o hb hf
   have e3:=s2 b o' ho'
   rw [e2] at e3
   cases e3
   exact s3 b o ho'
 · obtain ⟨x,e2⟩:=u.slot b o hb n hf (hex b)
   obtain ⟨y,e3⟩:=sl b _ hf e2
   exact ⟨y,e3⟩
 · by_cases hm:b∈fs
   · obtain ⟨o2,e2⟩:=u.there b o hb (hex b)
     obtain ⟨y,e3⟩:=sl b _ hm e2
     exact ⟨_,e3⟩
   · obtain ⟨o',ho'⟩:=inB b o hb hm
     exact ⟨o',s3 b o' ho'⟩
theorem Cr {h2 h3 B:Heap}{l:List Env}(fr:h2.FunFrames B l)(x:h2.UpToSlots h3):∀b o,b∈ji l->h2.get? b=some o->∃y,h3.get? b=some { o with slots:=y }:=fun b o hm ho=>by
 obtain ⟨_,o2,qF,hd2⟩:=fr.mem hm
 rw [ho] at qF
 cases qF
 exact x b o ho hd2
def zy (ea C:Addr):HO:=.ext (lD ea C)
theorem Hr {P:Program}{w:World}{H:Hp}{h:Heap}{ea C:Addr}(x:lD ea C h):bp P w H h ea (zy ea C):=by
 obtain ⟨o,h1,h2⟩:=id x
 exact ⟨x,⟨o,h1⟩,fun g1 g2 ⟨o',a,b⟩ k=>⟨o',k _ a,b⟩⟩
section
variable {X:Cx}{pins:List (Addr×Obj)}{σ:St}{H:Hp}{s:Shared}{ea C:Addr}
theorem Inv.Nr (I:Inv X pins σ H s)(n:H ea=none)(x:lD ea C s.heap)(n0:X.s₀.heap.get? ea=none)(nl:ea≠X.env.locals)(nc:∀y c,X.env.cells.lookup y=some c->c≠ea)(np:∀p∈X.pn++pins,p.1≠ea):Inv X pins σ (upd H ea (zy ea C)) s:=by
 have ne:∀b u,H b=some u->b≠ea:=fun b u e z=>by rw [z,n] at e; cases e
 have k:∀b u,H b=some u->(upd H ea (zy ea C)) b=some u:=fun b u e=>by rw [aj (ne b u e)]; exact e
 refine ⟨I.ok,I.os,I.bare,⟨I.base.keep,I.base.slot,fun b o e m hx=>?_,I.base.there,fun b xs e=>k _ _ (I.base.tups b xs e),fun b o u e=>k _ _ (I.base.frzs b o u e),fun b ps e=>?_⟩,I.loc,I.cell,?_,fun y c e=>?_,fun p hp=>?_,fun b u e=>?_,I.len⟩
 · rw [aj (fun z=>by rw [z,n0] at e; cases e)]
   exact I.base.free b o e m hx
 · obtain ⟨more,e1⟩:=I.base.tbls b ps e
   exact ⟨more,k _ _ e1⟩
 · rw [aj (Ne.symm nl)]
   exact I.free
 · rw [aj (nc y c e)]
   exact I.freeC y c e
 · obtain ⟨a1,a2,a3,a4,a5⟩:=I.pin p hp
   exact ⟨a1,by rw [aj (np p hp)]; exact a2,a3,a4,a5⟩
 · by_cases hb:b=ea
   · subst hb
     rw [ae] at e
     cases e
     exact Hr x
   · rw [aj hb] at e
     exact (I.hok b u e).oH (fun c v _ q=>q) (fun c q=>k _ _ q) fun c xs q=>k _ _ q
end
section
variable {M:Model}{A:Around}{E:Value->Shared->Prop}{s:Shared}{nm q:Str}{C N:Addr}{bs bm:List Value}{hdct:Bool}{sn:List Str}{sub:List Value}{ab:Bool}{col:Option Bool}{dd:Option Addr}{k0 k1 k2 k3 k5:Option Value}{newId:String}
 {Yq q':Str} {T N':Addr} {bs' OU:List Value} {Lx:Bool} {Y4:List Str} {RR:List Value} {Vj:Bool} {OY:Option Bool} {oq:Option Addr} {j0 j1 j2 j3 j5:Option Value} {Ir:String}
theorem uU {h:Heap}{g:Array GenState}{d:Drawn}{t:Nat}{os:OsState}{e:Addr}{oe:Obj}{Q:Bool->Shared->Prop}(hC:h.get? C=some (excClassObj nm q C N bs bm hdct sn sub ab col dd k0 k1 k2 k3 k5 newId))(hT:h.get? T=some (excClassObj Yq q' T N' bs' OU Lx Y4 RR Vj OY oq j0 j1 j2 j3 j5 Ir))
   (he:h.get? e=some oe) (hcls:oe.cls=.ref C) (hup:(aax C :: bm).contains (.ref T)=true) (hbase:OU.contains (.type "BaseException")=true) (hq:Q true ⟨h,g,d,t,os⟩):wpAny M A (excMatches (.ref e) (.ref T)) Q E ⟨h,g,d,t,os⟩:=by
 have WV:(aax T :: OU).contains (.type "BaseException")=true:=by rw [List.contains_cons,hbase,Bool.or_true]
 have f:=tc_notTuple
 unfold excMatches
 repeat (first | (with_reducible refine wpAny_loadPart_at he ?_; rw [hcls]) | with_reducible refine wpAny_loadPart_at hT ?_ | (with_reducible refine wpAny_isSubtype_exc hT ?_; rw [WV]) | (with_reducible refine wpAny_isSubtype_exc hC ?_; rw [hup]) | wp_step)
 exact hq
end
section
variable {X:Cx}{pins:List (Addr×Obj)}{σ:St}{H:Hp}{s:Shared}
theorem Inv.forget {σ':St}{h':Heap}{t':Nat}{m:Str->Option Value}{en:Str}{v:Option Value}(I:Inv X pins σ H s)(hm:∀(i:Nat) (x:Str) (v:V),X.N[i]? = some x->σ[i]? = some (some v)->NL X.env.scope x->∃u,RelV v u/\Look X.env s.heap m x u)
   (hn':h'.Ns X.env.locals (fun x=>if x=en then v else m x)) (hs:aaT X.env.locals s.heap h') (hl:σ'.length=σ.length) (hw:∀(i:Nat) v,σ'[i]? = some (some v)->σ[i]? = some (some v)/\X.N[i]? ≠ some en):Inv X pins σ' H { s with heap:=h',toks:=t' }:=by
 have neL:∀b o,X.s₀.heap.get? b=some o->b≠X.env.locals:=fun b o e=>aaK (aat (aaj e) I.ok.above)
 refine ⟨I.ok,I.os,I.bare,⟨fun b o e n hb hx=>?_,fun b o e n hb hx=>?_,I.base.free,fun b o e hx=>?_,I.base.tups,I.base.frzs,I.base.tbls⟩,⟨_,hn',fun j y v' e1 e2 e3=>?_⟩,fun y c e=>?_,I.free,I.freeC,fun p hp=>?_,fun b u e=>?_,hl.trans I.len⟩
 · exact (hs.2 b (neL b o e)).trans (I.base.keep b o e n hb hx)
 · obtain ⟨sl,e1⟩:=I.base.slot b o e n hb hx
   exact ⟨sl,(hs.2 b (neL b o e)).trans e1⟩
 · obtain ⟨o',e1⟩:=I.base.there b o e hx
   exact ⟨o',(hs.2 b (neL b o e)).trans e1⟩
 · obtain ⟨w1,w2⟩:=hw j v' e2
   obtain ⟨u,r,l⟩:=hm j y v' e1 w1 e3
   refine ⟨u,r,?_⟩
   rcases l with ⟨k,e⟩ | ⟨k,c,e,z⟩
   · refine .inl ⟨k,?_⟩
     have:y≠en:=fun z=>w2 (by rw [e1,z])
     show (if y=en then v else m y)=some u
     rw [if_neg this]
     exact e
   · exact .inr ⟨k,c,e,z.sameBut hs (I.xJ y c e)⟩
 · obtain ⟨w',z⟩:=I.cell y c e
   exact ⟨w',z.sameBut hs (I.xJ y c e)⟩
 · obtain ⟨e,n,ne,nf,d⟩:=I.pin p hp
   exact ⟨(hs.2 p.1 ne).trans e,n,ne,nf,d⟩
 · have rM:=I.free
   refine (I.hok b u e).oH (fun c w' hc q=>(hs.2 c ?_).trans q) (fun _ q=>q) fun _ _ q=>q
   intro z
   rcases hc with hc | hc
   · rw [hc] at z
     rw [z,rM] at e
     cases e
   · rw [z,rM] at hc
     cases hc
theorem Inv.other {W:Value->Shared->Prop}{pn lq:List (Addr×Obj)}(I:Inv X pins σ H s)(h:∀p∈pn++lq,p∈X.pn++pins):Inv { X with xe:=W,pn:=pn } lq σ H s:=
 ⟨⟨I.ok.mod,I.ok.kind,I.ok.glob,I.ok.blt,I.ok.above,I.ok.inj,I.ok.has,I.ok.cab,I.ok.hd,I.ok.frames,I.ok.stk,I.ok.exf,I.ok.bs,I.ok.bsz,I.ok.noex,I.ok.exfs,I.ok.hW,I.ok.frf⟩,I.os,I.bare,I.base,I.loc,I.cell,I.free,I.freeC,fun p hp=>I.pin p (h p hp),I.hok,I.len⟩
theorem Inv.back {W:Value->Shared->Prop}{pn lq:List (Addr×Obj)}(I:Inv { X with xe:=W,pn:=pn } lq σ H s)(h:∀p∈X.pn++pins,p∈pn++lq):Inv X pins σ H s:=
 ⟨⟨I.ok.mod,I.ok.kind,I.ok.glob,I.ok.blt,I.ok.above,I.ok.inj,I.ok.has,I.ok.cab,I.ok.hd,I.ok.frames,I.ok.stk,I.ok.exf,I.ok.bs,I.ok.bsz,I.ok.noex,I.ok.exfs,I.ok.hW,I.ok.frf⟩,I.os,I.bare,I.base,I.loc,I.cell,I.free,I.freeC,fun p hp=>I.pin p (h p hp),I.hok,I.len⟩
theorem Inv.mark {e:Option Value}(I:Inv X pins σ H s):Inv { X with A:=X.A.mark e,calm:=false,xe:=fun _ _=>False } pins σ H s:=
 ⟨⟨I.ok.mod,I.ok.kind,I.ok.glob,I.ok.blt,I.ok.above,I.ok.inj,I.ok.has,I.ok.cab,(fun z=>nomatch z),I.ok.frames,I.ok.stk,I.ok.exf,I.ok.bs,I.ok.bsz,I.ok.noex,I.ok.exfs,I.ok.hW,I.ok.frf⟩,I.os,I.bare,I.base,I.loc,I.cell,I.free,I.freeC,I.pin,I.hok,I.len⟩
theorem Inv.unmark {e:Option Value}{σ':St}{H':Hp}{s':Shared}(I0:Inv X pins σ H s)(I:Inv { X with A:=X.A.mark e,calm:=false,xe:=fun _ _=>False } pins σ' H' s'):Inv X pins σ' H' s':=
 ⟨I0.ok,I.os,I.bare,I.base,I.loc,I.cell,I.free,I.freeC,I.pin,I.hok,I.len⟩
end
section
variable {P:Program}{w:World}{K:aac}{mg:Str->Option Value}{base:Heap}
theorem cJ.C6 {x qual:Str}{st:Stmt}{f:Addr}{fd:aao}{N ps:List Str}{k:Nat}{sp:Sp}(F:cJ K x qual st f fd)(S:aD N ps (ag st))(len:∀vs H Q E,sp vs H Q E->vs.length=ps.length)
   (hbody:∀(cdv:Value) (A:Around) (outer:List Env) (s:Shared) (H:Hp) (vs:List V) (Q:VK) (E:XK),dt k (A.deeper (envOfC qual (ag st) s.heap.objs.size f cdv))->sp vs H Q E ->
     ∃t,n8 (hV (lC P w base) P w K mg base N qual (ag st) f cdv A outer s H E) (bO st) t/\t { nx:=fun _ H'=>Q .bN H',rt:=Q } (start N vs) H):aP P w K mg base (lC P w base) (k + 1) f fd ps sp:=by
 obtain ⟨oc,od,kV,doc,pm,an,cdv,ct,osl,rfl,lk,hcd⟩:=F.ex
 exact Ag lk hcd S len fun A outer s H vs Q E hr hsp=>hbody cdv A outer s H vs Q E hr hsp
theorem l4 {N:List Str}{qual:Str}{scope:Scope}{f:Addr}{cd:Value}{A:Around}{outer:List Env}{s:Shared}{H:Hp}{E:XK}:mx (hV (lC P w base) P w K mg base N qual scope f cd A outer s H E) E:=fun I hm q=>uR I hm q
theorem fL {N:List Str}{qual:Str}{scope:Scope}{f:Addr}{cd:Value}{A:Around}{outer:List Env}{s:Shared}{H:Hp}{E:XK}:Passes (lC P w base) (hV (lC P w base) P w K mg base N qual scope f cd A outer s H E) E:=Mv fun _ _ _ h=>h
end
def ML (K:aac):List V->Hp->VK->Prop:=fun xs H Q=>∃ea C b,H ea=some (zy ea C)/\G2 K C/\((∃D,xs=[.ref ea,.ref D]/\aaH K (.ref C) (.ref D)=some b)\/(∃n,xs=[.ref ea,.ty n]/\aaH K (.ref C) (.type n)=some b) \/
 (∃(t:Addr) (ds:List Addr),xs=[.ref ea,.ref t]/\H t=some (.tup (ds.map V.ref))/\acg K (.ref C) (ds.map aax)=some b))/\Q (.bl b) H
theorem fg:∀{ds:List Addr} {its:List Value},Vals (ds.map V.ref) its->its=ds.map aax
 | [],_,.nil=>rfl
 | d :: ds,_,.cons r t=>by rw [fg t,show _=aax d from r]; rfl
section
variable {X:Cx}
theorem zU:dC X (.builtin "isinstance") (ML X.K):=by
 intro pins s σ H xs us Q I r h
 obtain ⟨ea,C,b,AH,k,cs,q⟩:=h
 have ex:lD ea C s.heap:=(show bp X.prog X.w H s.heap ea (zy ea C) from I.hok ea _ AH).1
 rcases cs with ⟨D,rfl,e⟩ | ⟨n,rfl,e⟩ | ⟨t,ds,rfl,ht,e⟩
 · obtain ⟨u,v,rfl,ru,rv⟩:=Vals.two r
   obtain rfl:u=aax ea:=ru
   obtain rfl:v=aax D:=rv
   exact aaX (ni k) I.lY ex e (fun z=>nomatch z) fun tk=>⟨.bl b,H,I.tok tk,rfl,q⟩
 · obtain ⟨u,v,rfl,ru,rv⟩:=Vals.two r
   obtain rfl:u=aax ea:=ru
   obtain rfl:v=adC n:=rv
   exact aaX (ni k) I.lY ex e (fun z=>nomatch z) fun tk=>⟨.bl b,H,I.tok tk,rfl,q⟩
 · obtain ⟨u,v,rfl,ru,rv⟩:=Vals.two r
   obtain rfl:u=aax ea:=ru
   obtain rfl:v=aax t:=rv
   obtain ⟨_,its,rl,o,h1,h2,n,h3⟩:=(show bp X.prog X.w H s.heap t (.tup (ds.map V.ref)) from I.hok t _ ht)
   rw [fg rl] at h3
   obtain ⟨oc,od,Yz,osl⟩:=o
   simp only at h2 h3
   subst h2 h3
   exact PySem.W.kia_tup (ni k) I.lY ex h1 e (fun z=>nomatch z) fun tk=>⟨.bl b,H,I.tok tk,rfl,q⟩
end
theorem pe {a p}:bF (.JoinedStr a p):=fK fun _ _ z=>nomatch z
end L2
namespace TW
open PySem L2
def bR (P:Program)(w:World)(K:aac)(mg:Str->Option Value)(base:Heap)(x:Str)(ps:List Str)(k:Nat)(sp:Sp):Prop:=
 ∃f fd,aP P w K mg base (lC P w base) k f fd ps sp/\abc K (.ref f)=true/\Binds K fd ps []/\mg x=some (.ref f)
theorem bR.mono {P:Program}{w:World}{K:aac}{mg:Str->Option Value}{base:Heap}{x:Str}{ps:List Str}{j k:Nat}{sp:Sp}(h:bR P w K mg base x ps j sp)(hk:j<=k):bR P w K mg base x ps k sp:=
 let ⟨f,fd,a,b,c,d⟩:=h; ⟨f,fd,a.mono hk,b,c,d⟩
end TW
namespace L3
open PySem PySem.Spec PyProof.Rows L2
structure Kh (X:Cx)(ps:List Expr)(n:Nat)(t:TF):Prop where
 h:PF X ps n t
section
variable {X:Cx}{a b c e o:Expr}{es:List Expr}{ta tb tc te:TE}{t:TA}{tf:TF}{pos:Pos}{n:Nat}
theorem fn:Kh X [] 0 (fun _ H k=>k H):=⟨Jq⟩
theorem fs {x:Str}{j}(hr:Kh X es n tf)(hx:x.length<=2000:=by decide):Kh X (.Constant (.str x) j pos :: es) (n + 1) tf:=⟨Jr hx hr.h⟩
theorem fv (ha:SE X a ta)(hr:Kh X es n tf):Kh X (.FormattedValue a (-1) none pos :: es) (n + 1) (fun σ H k=>ta σ H fun x H1=>Kl x/\tf σ H1 k):=⟨Js ha.h hr.h⟩
theorem Lh (h:Kh X (a :: b :: es) n tf)(hn:n<=1000:=by decide):SE X (.JoinedStr (a :: b :: es) pos) (fun σ H Q=>tf σ H fun H1=>∀x,Q (.str x) H1):=⟨ER h.h hn⟩
theorem qh {x:Str}{C:Addr}{tl:List Value}{Ex:XK}{np cpos:Pos}(hx:mx X Ex)(cc:Xc X.K X.mg x C tl)(hb:tl.contains (.type "BaseException")=true)(hg:Gl X x)(ha:SA X [a] t)(hc:X.calm=true:=by rfl)(hd:(x == ("__debug__":Str))=false:=by decide) :
   SS X (.Raise (some (.Call (.Name x np) [a] [] cpos)) none pos) (CD Ex C t):=⟨BV hx cc hb hg hc ha.h hd⟩
theorem i6 {x:Str}{p:Pos}{ps:List Str}{kk:Nat}{sp:Sp}{Ex:XK}(hp:Passes (lC X.prog X.w X.base) X Ex)(D:TW.bR X.prog X.w X.K X.mg X.base x ps kk sp)(hr:dt kk X.A)(hg:Gl X x)(ha:SA X (e :: es) t)(hdb:(x == ("__debug__":Str))=false:=by decide) :
   SE X (.Call (.Name x p) (e :: es) [] pos) (nW sp [] Ex t):=
 let ⟨_,_,G,kp,b,m⟩:=D
 ⟨qf G hr hg m kp b .nil hp ha.h.pa hdb ((ha.h.ns e es rfl).1.h es X.env) ((ha.h.ns e es rfl).2 pos X.env)⟩
theorem qV {KK:aac}(hK:X.K=KK:=by first | exact bz | rfl):SC X (.builtin "isinstance") (ML KK):=by
 subst hK
 exact ⟨zU⟩
end
end L3
namespace L2
open PySem PySem.Spec PyProof.Rows
end L2
namespace L3
open PySem PySem.Spec PyProof.Rows L2
end L3
namespace L2
open PySem PySem.Spec PyProof.Rows
section
variable {X:Cx}{a:Expr}{ta:TA}{p1 p2 pos dR:Pos}
def wZ:V->List V->Hp->VK->Prop:=fun x vs H Q=>∃l xs y i,x=.ref l/\vs=[.int i,y]/\H l=some (.lst xs)/\0<=i/\i<=(xs.length:Int)/\xs.length < 1000/\Q .bN (upd H l (.lst (xs.take i.toNat++y :: xs.drop i.toNat)))
theorem yK:NG X "list.insert" wZ:=by
 intro pins s σ H x vs v us Q I rx rv h
 obtain ⟨l,xs,y,i,rfl,rfl,hH,h0,hk,hz,q⟩:=h
 cases rx
 obtain ⟨u1,u,rfl,⟨tk,rfl⟩,ru⟩:=Vals.two rv
 obtain ⟨z,its,n,r,hl,e⟩:=I.rW hH
 have hlen:=r.length
 have fits:¬(!abz i)=true:=by
   have:abz i=true:=by
     unfold abz
     simp
     omega
   simp [this]
 have few:its.toArray.size<=sizeLine:=by rw [aam]; exact aak (show _<=1000 by omega) (by decide)
 refine call_meets F.slot_list_insert ⟨_,e,rfl⟩ F.entry_list_insert (F.args_list_insert_3 _ _ _) (PySem.AutoSeq1.list_insert_list_int_val_1 l its.toArray n i tk u fits few) ⟨e,?_⟩
 refine ⟨.bN,_,I.Eg (its':=its.take i.toNat++u :: its.drop i.toNat) hH e ?_ ((r.take i.toNat).append (.cons ru (r.drop i.toNat))) ?_,rfl,q⟩
 · have e1:(if i < 0 then (i + (its.toArray.size:Int)).toNat else min i.toNat its.toArray.size)=i.toNat:=by
     rw [if_neg (by omega),aam]
     omega
   dsimp only
   rw [e1]
   apply Array.ext'
   simp
   exact aaS (by rw [abk]; exact aaf _)
 · rw [aae,aay,aaw,abk]
   exact aak (show _<=1000 by omega) (by decide)
end
end L2
namespace L3
open PySem PySem.Spec PyProof.Rows L2
section
variable {X:Cx}{a b c e o:Expr}{es:List Expr}{ta tb tc te:TE}{t:TA}{pos:Pos}
theorem insert {apos:Pos}{KK:aac}{e1 e2:Expr}(ho:SE X o ta)(ha:SA X [e1,e2] t)(hn:bF e2:=by first | exact jI | exact fB | exact fA | exact i4)(hbase:abt o "insert" X.env (eval o X.env)=eval o X.env:=by rfl)(hline:(apos.endLine == pos.line)=true:=by rfl)(hK:X.K=KK:=by first | exact bz | rfl) :
   SE X (.Call (.Attribute o "insert" apos) [e1,e2] [] pos) (GD KK "list" wZ ta t):=by
 subst hK
 exact ⟨Gn abv PySem.F.slot_list_insert PySem.F.type_list_insert yK ho.h ha.h.pa hbase (by rw [(ha.h.ns e1 [e2] rfl).1.h [e2] X.env,hn.h [] X.env]; rfl) hline ((ha.h.ns e1 [e2] rfl).1.h [e2] X.env) ((ha.h.ns e1 [e2] rfl).2 pos X.env)⟩
end
end L3
namespace L2
open PySem PySem.Spec PyProof.Rows
end L2
namespace L3
open PySem PySem.Spec PyProof.Rows L2
end L3
namespace L2
open PySem PySem.Spec PyProof.Rows
theorem rj {α β:Type}{f g:α->Option β}:∀{l:List α},(∀x∈l,f x=g x)->l.filterMap f=l.filterMap g
 | [],_=>rfl
 | x :: r,h=>by rw [abo,abo,h x abj,rj fun y hy=>h y (List.mem_cons.mpr (.inr hy))]
theorem iA (its:List Value):acU its.toArray none none (some (-1))=its.reverse.toArray:=by
 have hb:sliceBounds none none (some (-1)) its.toArray.size=(((its.length:Nat):Int) - 1,-1,-1):=by
   simp [sliceBounds]
 have hr:sliceRange (((its.length:Nat):Int) - 1) (-1) (-1)=(aaM its.length).map fun k=>its.length - 1 - k:=by
   unfold sliceRange
   have h1:¬ ((-1:Int) > 0):=by decide
   simp only [h1,if_false]
   have hc:(if ((its.length:Nat):Int) - 1 > -1 then (((its.length:Nat):Int) - 1 - -1 - -1 - 1) / (- -1) else 0).toNat=its.length:=by
     simp only [Int.neg_neg,aef]
     split <;> omega
   rw [hc]
   refine acQ fun k hk=>?_
   have:=List.mem_range.mp hk
   omega
 unfold acU
 rw [hb]
 show ((sliceRange (((its.length:Nat):Int) - 1) (-1) (-1)).filterMap (its.toArray[·]?)).toArray=_
 rw [hr,ac3]
 have e:(aaM its.length).filterMap ((fun x=>its.toArray[x]?) ∘ fun k=>its.length - 1 - k)=((aaM its.length).map (0 + ·)).filterMap (its.reverse.toArray[·]?):=by
   rw [ac3]
   refine rj fun k hk=>?_
   have PV:=List.mem_range.mp hk
   show its.toArray[its.length - 1 - k]? = its.reverse.toArray[0 + k]?
   rw [Nat.zero_add,ad3,ad3,List.getElem?_reverse PV]
 rw [e,pick_run,ab2,aaS (by simp)]
def Np (K:aac)(te Fn:TE):TE:=fun σ H Q=>te σ H fun x H1=>Fn σ H1 fun y H2=>y=.int (-1)/\∃a xs,x=.ref a/\ao K H2 a xs/\∀p,H2 p=none->Q (.ref p) (upd H2 p (.lst xs.reverse))
theorem Jn {X:Cx}{e st:Expr}{te Fn:TE}{p2 pos:Pos}(he:PE X e te)(hst:PE X st Fn):PE X (.Subscript e (.Slice none none (some st) p2) pos) (Np X.K te Fn):=by
 intro pins s σ H Q I h
 refine adv (bt (he pins s σ H _ I h) fun v s1 ⟨x,H1,I1,r1,q1⟩=>?_)
 refine wpAny_Slice ?_
 rw [adm]
 refine wpAny_pure (wpAny_pure ?_)
 rw [evalPart_some]
 refine bt (hst pins s1 σ H1 _ I1 q1) fun vs s3 ⟨y,H3,I3,ry,hy,a,xs,hx,hs,q⟩=>?_
 subst hy hx
 obtain ⟨t,rfl⟩:=ry
 cases r1
 have I4:Inv X pins σ H3 { s3 with heap:=s3.heap.push { cls:=.type "slice",data:=.fields #[.none,.none,.int (-1) t] } }:=I3.kept (t':=s3.toks) fun b ob q=>aag _ q
 obtain ⟨its,r,ht,hz⟩:=I4.list hs
 have hlen:=r.length
 show wpAny (model X.prog X.w) X.A (subscriptTail e (.Slice none none (some st) p2) (.ref a) (.ref s3.heap.objs.size)) (EP X pins σ Q) X.xe { s3 with heap:=s3.heap.push { cls:=.type "slice",data:=.fields #[.none,.none,.int (-1) t] } }
 refine tail_any (ops:=[.ref a,.ref s3.heap.objs.size]) ht.isList.typeIs slot_list_getitem.lookup ?_ (by with_unfolding_all rfl)
 refine acD ht.isList (acw ..) .none .none (.int (-1) t) (by simp) ?_ (by rw [aam] <;> omega)
 rw [iA]
 refine ⟨.ref (s3.heap.push { cls:=.type "slice",data:=.fields #[.none,.none,.int (-1) t] }).objs.size,_,I4.laid (t':=s3.toks) (o:=.lst xs.reverse) (fun b ob q=>aag _ q) (aaf _) ?_,rfl,q _ (I4.hok.fresh (aaf _))⟩
 exact ⟨by rw [acR]; exact hz,_,0,r.reverse,aaE _ rfl⟩
end L2
namespace L3
open PySem PySem.Spec PyProof.Rows L2
theorem Nb {X:Cx}{a b:Expr}{ta tb:TE}{KK:aac}{p2 pos:Pos}(ha:SE X a ta)(hb:SE X b tb)(hK:X.K=KK:=by first | exact bz | rfl):SE X (.Subscript a (.Slice none none (some b) p2) pos) (Np KK ta tb):=by
 subst hK
 exact ⟨Jn ha.h hb.h⟩
end L3
namespace TW
end TW
namespace L3
open PySem PySem.Spec PyProof.Rows L2
section
variable {X:Cx}{a b o i value:Expr}{ta tb td ty tv:TE}{pos:Pos}
theorem dput {pos':Pos}(hu:X.A.units + 1 < cLine)(ho:SE X o td)(hi:SE X i ty)(hv:SE X value tv)(hs:abZ value (some (.Subscript o i pos')) pos.line X.env=pure false:=by rfl):SS X (.Assign [.Subscript o i pos'] value pos) (Gv td ty tv):=⟨E1 hu ho.h hi.h hv.h hs⟩
end
end L3
namespace L2
open PySem PySem.Spec PyProof.Rows
theorem slicePick_all (its:List Value):acU its.toArray none none (some 1)=its.toArray:=by
 have hb:sliceBounds none none (some 1) its.toArray.size=(0,(its.length:Int),1):=by
   simp [sliceBounds]
 have hr:sliceRange 0 (its.length:Int) 1=(aaM its.length).map (0 + ·):=by
   unfold sliceRange
   have h1:((1:Int) > 0):=by decide
   simp only [h1,if_true]
   have hc:(if (its.length:Int) > 0 then ((its.length:Int) - 0 + 1 - 1) / 1 else 0).toNat=its.length:=by
     simp only [aef]
     split <;> omega
   rw [hc]
   refine acQ fun k hk=>?_
   have:=List.mem_range.mp hk
   omega
 unfold acU
 rw [hb]
 show ((sliceRange 0 (its.length:Int) 1).filterMap (its.toArray[·]?)).toArray=_
 rw [hr,pick_run,ab2,aaS (by simp)]
def eB (n:Int)(xs:List V):List V:=if n=1 then xs else xs.reverse
theorem zj {n:Int}{xs:List V}:(eB n xs).length=xs.length:=by unfold eB; split <;> simp
def GO (K:aac)(te Fn:TE):TE:=fun σ H Q=>te σ H fun x H1=>Fn σ H1 fun y H2=>∃n,y=.int n/\(n=1\/n = -1)/\∃a xs,x=.ref a/\ao K H2 a xs/\∀p,H2 p=none->Q (.ref p) (upd H2 p (.lst (eB n xs)))
theorem EV {X:Cx}{e st:Expr}{te Fn:TE}{p2 pos:Pos}(he:PE X e te)(hst:PE X st Fn):PE X (.Subscript e (.Slice none none (some st) p2) pos) (GO X.K te Fn):=by
 intro pins s σ H Q I h
 refine adv (bt (he pins s σ H _ I h) fun v s1 ⟨x,H1,I1,r1,q1⟩=>?_)
 refine wpAny_Slice ?_
 rw [adm]
 refine wpAny_pure (wpAny_pure ?_)
 rw [evalPart_some]
 refine bt (hst pins s1 σ H1 _ I1 q1) fun vs s3 ⟨y,H3,I3,ry,n,hy,hn,a,xs,hx,hs,q⟩=>?_
 subst hy hx
 obtain ⟨t,rfl⟩:=ry
 cases r1
 have I4:Inv X pins σ H3 { s3 with heap:=s3.heap.push { cls:=.type "slice",data:=.fields #[.none,.none,.int n t] } }:=I3.kept (t':=s3.toks) fun b ob q=>aag _ q
 obtain ⟨its,r,ht,hz⟩:=I4.list hs
 have hlen:=r.length
 show wpAny (model X.prog X.w) X.A (subscriptTail e (.Slice none none (some st) p2) (.ref a) (.ref s3.heap.objs.size)) (EP X pins σ Q) X.xe { s3 with heap:=s3.heap.push { cls:=.type "slice",data:=.fields #[.none,.none,.int n t] } }
 refine tail_any (ops:=[.ref a,.ref s3.heap.objs.size]) ht.isList.typeIs slot_list_getitem.lookup ?_ (by with_unfolding_all rfl)
 refine acD ht.isList (acw ..) .none .none (.int n t) (by rcases hn with rfl | rfl <;> simp) ?_ (by rw [aam] <;> omega)
 have key:∃eY:List Value,acU its.toArray none none (some n)=eY.toArray/\Vals (eB n xs) eY:=by
   rcases hn with rfl | rfl
   · exact ⟨its,slicePick_all its,r⟩
   · exact ⟨its.reverse,iA its,r.reverse⟩
 obtain ⟨eY,e2,r2⟩:=key
 rw [e2]
 refine ⟨.ref (s3.heap.push { cls:=.type "slice",data:=.fields #[.none,.none,.int n t] }).objs.size,_,I4.laid (t':=s3.toks) (o:=.lst (eB n xs)) (fun b ob q=>aag _ q) (aaf _) ?_,rfl,q _ (I4.hok.fresh (aaf _))⟩
 exact ⟨by rw [zj]; exact hz,_,0,r2,aaE _ rfl⟩
def Gq:R2:=fun x y H Q=>∃a b:Str,x=.str a/\y=.str b/\a.length + b.length<=sizeLine/\Q (.str (a++b)) H
theorem EH {X:Cx}:hU X (binaryOp .Add) Gq:=by
 intro pins s σ H x y u v Q I rx ry h
 obtain ⟨a,b,rfl,rfl,hl,q⟩:=h
 obtain ⟨t,rfl⟩:=rx
 obtain ⟨t2,rfl⟩:=ry
 exact PyProof.Rows.add_str (fun t' tk=>⟨.str (a++b),H,I.tok _,⟨_,rfl⟩,q⟩) hl
def wY (K:aac):V->List V->Hp->VK->Prop:=fun x vs H Q=>∃(l:Addr) (xs:List Int) (y:Int) (j:Nat),x=.ref l/\vs=[.int y]/\ao K H l (xs.map V.int)/\xs[j]? = some y/\(∀m,m < j->xs[m]? ≠ some y)/\xs.length<=1000/\Q (.int j) H
theorem wG:∀{xs:List Int} {its:List Value} {i:Nat} {a:Value},Vals (xs.map V.int) its->its[i]? = some a->∃t,a=.int (xs.getD i 0) t
 | [],_,_,_,.nil,h=>by simp at h
 | x :: xs,_,0,a,.cons r _,h=>by
   obtain ⟨t,e⟩:=r
   simp at h
   subst h
   exact ⟨t,e⟩
 | x :: xs,_,i + 1,a,.cons _ q,h=>by
   obtain ⟨t,e⟩:=wG (i:=i) q (by simpa using h)
   exact ⟨t,by simpa using e⟩
theorem yJ {X:Cx}:NH X "list.index" (wY X.K):=by
 intro pins s σ H x vs v us Q I rx rv h
 obtain ⟨l,xs,y,j,rfl,rfl,hq,hj,zB,FR,q⟩:=h
 cases rx
 obtain ⟨u,rfl,ru⟩:=rv.one
 obtain ⟨its,rl,pl,hz⟩:=I.list hq
 have hlen:=rl.length
 rw [aab] at hlen
 have Tv:j < xs.length:=(List.getElem?_eq_some_iff.mp hj).1
 obtain ⟨o,ho,DV,n,hd⟩:=pl.isList
 obtain ⟨oc,od,Yz,osl⟩:=o
 simp only at DV hd
 subst DV
 subst hd
 have tx:∀m (hm:m < its.toArray.size),∃t,its.toArray[m]=acX (xs[m]'(by simp at hm; omega)) t:=fun m hm=>by
   have LH:m < xs.length:=by simp at hm; omega
   obtain ⟨t,e⟩:=wG (xs:=xs) (i:=m) rl (show its[m]? = some (its.toArray[m]) by simp at hm ⊢)
   refine ⟨t,e.trans ?_⟩
   rw [aaz,aad LH]
   rfl
 let e:Value->Bool:=fun a=>match a with | .int z _=>decide (z=y) | _=>false
 refine call_meets F.slot_list_index ⟨_,ho,rfl⟩ F.entry_list_index (F.args_list_index_2 _ _) (SeqAt.list_indexAt l its.toArray n od osl u e j (by simp; omega) (by omega) ?hit ?no) ⟨ho,?eqs,?fin⟩
 case hit=>
   obtain ⟨t,et⟩:=tx j (by simp; omega)
   rw [et]
   show decide (_=y)=true
   rw [(List.getElem?_eq_some_iff.mp hj).2]
   simp
 case no=>
   intro m hm Xo
   obtain ⟨t,et⟩:=tx m hm
   rw [et]
   show decide (_=y)=false
   have LH:m < xs.length:=by simp at hm; omega
   have:=zB m Xo
   rw [aad LH] at this
   simpa using this
 case eqs=>
   intro a ha
   obtain ⟨m,hm,em⟩:=Array.getElem_of_mem ha
   obtain ⟨t,et⟩:=tx m hm
   rw [em] at et
   have r1:RelV (V.int (xs[m]'(by simp at hm; omega))) a:=⟨t,et⟩
   have h1:=t9 (A:=X.A.in1) (s:=s) r1 ru rfl rfl
   have h2:ko (V.int (xs[m]'(by simp at hm; omega))) (.int y)=e a:=by
     rw [et]
     show decide (xs[m]'(by simp at hm; omega)=y)=decide (_=y)
     rfl
   rw [h2] at h1
   exact h1
 case fin=>exact ⟨.int j,H,I.tok _,⟨_,rfl⟩,q⟩
end L2
namespace L3
open PySem PySem.Spec PyProof.Rows L2
section
variable {X:Cx}{a b c e o:Expr}{es:List Expr}{ta tb tc te:TE}{t:TA}{pos:Pos}
theorem Cq {KK:aac}{p2 pos:Pos}(ha:SE X a ta)(hb:SE X b tb)(hK:X.K=KK:=by first | exact bz | rfl):SE X (.Subscript a (.Slice none none (some b) p2) pos) (GO KK ta tb):=by
 subst hK
 exact ⟨EV ha.h hb.h⟩
theorem Cp {KK:aac}{p2:Pos}(ha:SE X a ta)(hb:SE X b tb)(hc:SE X c tc)(hK:X.K=KK:=by first | exact bz | rfl):SE X (.Subscript a (.Slice (some b) (some c) none p2) pos) (Nq (Fc KK) ta (pH tb) (pH tc)):=by
 subst hK
 exact ⟨jL qm ha.h (jM hb.h) (jM hc.h)⟩
theorem Iy:SO X (binaryOp .Add) Gq:=⟨EH⟩
theorem K9:SE X (.Dict [] [] pos) Cz:=⟨BM⟩
theorem X6 {tg:Expr}{p:Pos}(hg:Gl X "range")(hm:X.mg "range"=none)(ha:SA X [a,b] t)(hb:bF b:=by first | exact fB | exact i4 | exact fA | exact jI | exact u5):SI X tg (.Call (.Name "range" p) [a,b] [] pos) (Gb t):=
 ⟨y9 hg hm ha.h.pa (by rw [(ha.h.ns a [b] rfl).1.h [b] X.env,hb.h [] X.env]; rfl) (by rw [hb.h [] X.env]; rfl)⟩
theorem uM {apos:Pos}{KK:aac}(ho:SE X o ta)(ha:SA X [e] t)(hbase:abt o "index" X.env (eval o X.env)=eval o X.env:=by rfl)(hline:(apos.endLine == pos.line)=true:=by rfl)(hK:X.K=KK:=by first | exact bz | rfl) :
   SE X (.Call (.Attribute o "index" apos) [e] [] pos) (GD KK "list" (wY KK) ta t):=by
 subst hK
 exact NQ abv PySem.F.slot_list_index PySem.F.type_list_index ⟨yJ⟩ ho ha hbase hline
end
end L3
namespace L2
open PySem PySem.Spec PyProof.Rows
section
variable {prog:Program}{w:World}{K:Type}[DecidableEq K]{knd:HeapKind prog w K}{A:Around}{E:Value->Shared->Prop}{s:Shared}
theorem nM {d a:Addr}{xs:List (K×Addr×Value)}{k:K}{v:Value}{Q:Unit->Shared->Prop}(hu:knd.room A)(hkey:knd.is s.heap k a)(hm:s.heap.DictOfH knd d xs)(hsz:xs.length<=sizeLine)
   (hQ:∀h',h'.DictOfH knd d (storedH xs k a v)->aaT d s.heap h'->Q () { s with heap:=h' }):wpAny (model prog w) A (dictSetHashed d (.ref a) (knd.hash k) v) Q E s:=by
 obtain ⟨o,es,ep,ho,hc,hd,he,his,hn⟩:=hm
 have W4:es.size<=sizeLine:=by rw [size_of_entries he]; exact hsz
 unfold dictSetHashed
 try with_reducible refine wpAny_holding ?_
 refine wpAny_bind (wpAny_dictFind_heap hu hkey ho hd he his hn (fun zB=>?_) (fun j p hj=>?_))
 · have e0:=storedH_new (atKey_none_of_get zB) a v
   have Qj:=not_mem_keys_of_get zB
   refine wpAny_bind (wpAny_rule (wpAny_updateDictKeys (hz:=W4) ho hd (hQ _ ⟨_,_,ep + 1,acI _ ho (Obj.isFreed_of_dict (Obj.data_mapDictKeys hd _)),hc.mapDictKeys _,Obj.data_mapDictKeys hd _,?_,?_,?_⟩ (abY ..))))
   · rw [e0]
     simp [he,entryOfKey]
   · rw [e0]
     intro x hx
     have h2:knd.is s.heap x.1 x.2.1:=by
       rcases List.mem_append.mp hx with hx | hx
       · exact his x hx
       · have ex:x=(k,a,v):=by simpa using hx
         subst ex
         exact hkey
     exact knd.keeps h2 ho hd (abY ..)
   · rw [e0,aah,ac8]
     refine ⟨hn,by simp,fun x hx y hy=>?_⟩
     have ey:y=k:=by simpa using hy
     subst ey
     exact fun e=>Qj (e ▸ hx)
 · have e0:=storedH_old (atKey_of_get hn hj) a v
   refine wpAny_bind (wpAny_rule (wpAny_bind (wpAny_updateDict ho hd (wpAny_point (hQ _ ⟨_,_,ep,acI _ ho (Obj.isFreed_of_dict (Obj.data_mapDict hd _)),hc.mapDict _,Obj.data_mapDict hd _,?_,?_,?_⟩ (abY ..))))))
   · rw [e0]
     have:=modify_map_putAt (entryOfKey knd) (fun e:DictEntry=>{ e with val:=v }) k v (fun _ _=>rfl) hn hj
     rw [← he] at this
     obtain ⟨l⟩:=es
     simpa using this
   · rw [e0]
     intro x hx
     obtain ⟨y,hy,rfl⟩:=List.mem_map.mp hx
     unfold putAt
     split <;> exact knd.keeps (his y hy) ho hd (abY ..)
   · rw [e0,keys_map_putAt]
     exact hn
def dA (xs more:List (K×Addr×Value)):List (K×Addr×Value):=more.foldl (fun acc x=>storedH acc x.1 x.2.1 x.2.2) xs
theorem tq (xs:List (K×Addr×Value))(k:K)(a:Addr)(v:Value):(storedH xs k a v).length<=xs.length + 1:=by
 unfold storedH
 split <;> simp
theorem lh:∀(more xs:List (K×Addr×Value)),(dA xs more).length<=xs.length + more.length
 | [],xs=>aaf _
 | x :: r,xs=>by
   have h1:=lh r (storedH xs x.1 x.2.1 x.2.2)
   have h2:=tq xs x.1 x.2.1 x.2.2
   show (dA (storedH xs x.1 x.2.1 x.2.2) r).length<=_
   rw [aay]
   omega
theorem qc {xs more:List (K×Addr×Value)}{i:Nat}{x:K×Addr×Value}(h:more[i]? = some x):dA xs (more.take (i + 1))=storedH (dA xs (more.take i)) x.1 x.2.1 x.2.2:=by
 unfold dA
 rw [aal,h,List.foldl_append]
 rfl
theorem Ip {nm:String}{d o:Addr}{xs more:List (K×Addr×Value)}{Q:Unit->Shared->Prop}(hu:knd.room A)(hdo:d≠o)(hoS:(o == abp)=false)(hd:s.heap.DictOfH knd d xs)(ho:s.heap.DictOfH knd o more)(hne:xs≠[]\/more=[])(hsz:xs.length + more.length<=sizeLine)
   (hQ:∀h',h'.DictOfH knd d (dA xs more)->aaT d s.heap h'->Q () { s with heap:=h' }):wpAny (model prog w) A (adf nm d o) Q E s:=by
 obtain ⟨od,VG,Zq,TC,hcd,Tt,Tu,Xe,yr⟩:=id hd
 obtain ⟨oo,wt,Zr,N9,ZA,AG,heo,hiso,zB⟩:=id ho
 have hlen:wt.size=more.length:=size_of_entries heo
 unfold adf
 rw [if_neg (by simpa using hdo)]
 unfold Builtin.Dict.showsAll
 rw [if_neg (by rw [hoS]; exact aas)]
 refine wpAny_bind (wpAny_pure ?_)
 refine wpAny_bind (wpAny_dictEntries N9 AG ?_)
 have loop:wpAny (model prog w) A (do
     let Lc ← dictEpoch o
     let l ← dictEntries o
     forIn [:l.size] adE fun i (_:PUnit)=>(do
         let l' ← dictEntries o
         match l'[i]? with
           | some e=>do
             holding [e.key,e.val] (dictSetHashed d e.key e.hash e.val)
             let ep' ← dictEpoch o
             if (ep' != Lc)=true then do
                 (unsupported (toString nm++toString ":source-changed-during-callback"):Sem PUnit)
                 pure (abl adE)
               else pure (abl adE)
           | _=>do
             (unsupported "internal:dict-merge":Sem PUnit)
             pure (abl adE):Sem (ForInStep PUnit))
     pure ()) Q E s:=by
   refine wpAny_bind (wpAny_dictEpoch N9 AG ?_)
   refine wpAny_bind (wpAny_dictEntries N9 AG ?_)
   refine wpAny_bind ?_
   rw [Std.Legacy.Range.forIn_eq_forIn_range']
   simp only [Std.Legacy.Range.size,aea,Nat.add_sub_cancel,Nat.div_one]
   refine acf _ (fun rest _ s'=>∃h' i,s'={ s with heap:=h' }/\rest=List.range' i (wt.size - i)/\i<=wt.size/\h'.DictOfH knd d (dA xs (more.take i))/\h'.get? o=some oo/\aaT d s.heap h') _ ?_ ?_ _ _
     ⟨s.heap,0,rfl,by simp,aaU _,hd,N9,Heap.SameBut.refl _ _⟩
   · rintro x rest b s' ⟨h',i,rfl,hr,hi,oA,H0,pZ⟩
     have hlt:i < wt.size:=by
       rcases Nat.lt_or_ge i wt.size with h | h
       · exact h
       · rw [Nat.sub_eq_zero_of_le h] at hr
         simp at hr
     obtain ⟨rfl,fI⟩ : x=i/\rest=List.range' (i + 1) (wt.size - (i + 1)):=by
       have e:wt.size - i=(wt.size - (i + 1)) + 1:=by omega
       rw [e,List.range'_succ] at hr
       injection hr with h1 h2
       exact ⟨h1,h2⟩
     refine wpAny_bind (wpAny_dictEntries H0 AG ?_)
     have LJ:x < more.length:=by omega
     have DX:more[x]? = some more[x]:=aad LJ
     have hex:wt[x]? = some (entryOfKey knd more[x]):=by rw [entry_at heo x,DX]; rfl
     rw [hex]
     have Xp:(dA xs (more.take x)).length<=sizeLine:=by
       have e1:=lh (more.take x) xs
       have e2:(more.take x).length<=more.length:=by rw [aaw]; omega
       omega
     have PN:knd.is h' more[x].1 more[x].2.1:=knd.keeps (hiso _ (acA LJ)) TC Tt pZ
     show wpAny _ _ (holding [_,_] (dictSetHashed d (.ref more[x].2.1) (knd.hash more[x].1) more[x].2.2) >>= _) _ _ _
     refine wpAny_bind (wpAny_holding (nM hu PN oA Xp fun Ta Pz LV=>?_))
     have FY:Ta.get? o=some oo:=(LV.2 o (Ne.symm hdo)).trans H0
     refine wpAny_bind (wpAny_dictEpoch FY AG ?_)
     rw [if_neg (by simp)]
     exact wpAny_pure ⟨Ta,x + 1,rfl,fI,hlt,by rw [qc DX]; exact Pz,FY,pZ.trans LV⟩
   · rintro b s' ⟨h',i,rfl,hr,hi,oA,H0,pZ⟩
     have PM:i=wt.size:=by
       rcases Nat.lt_or_ge i wt.size with h | h
       · have e:wt.size - i=(wt.size - (i + 1)) + 1:=by omega
         rw [e,List.range'_succ] at hr
         exact nomatch hr
       · exact Nat.le_antisymm hi h
     refine wpAny_pure (hQ h' ?_ pZ)
     rw [PM,hlen,aaA] at oA
     exact oA
 dsimp only
 split
 · rename_i hfew
   refine wpAny_bind (wpAny_dictEntries TC Tt ?_)
   split
   · rename_i PK
     exfalso
     rcases hne with z | z
     · have h0:VG = #[]:=Array.isEmpty_iff.mp PK
       rw [h0] at Tu
       exact z (List.length_eq_zero_iff.mp (by have:=congrArg abP Tu; simpa using this.symm))
     · have h0:wt = #[]:=by
         rw [z] at hlen
         exact Array.eq_empty_of_size_eq_zero hlen
       rw [h0] at hfew
       simp at hfew
   · exact loop
 · exact loop
end
section
variable {X:Cx}{pins:List (Addr×Obj)}{σ:St}{H:Hp}{s:Shared}{E:Value->Shared->Prop}
def putAllT (d:List (List Key×V))(kvs:List (List Key×V)):List (List Key×V):=kvs.foldl (fun d p=>putK d p.1 p.2) d
theorem lr:∀(kvs d:List (List Key×V)),(putAllT d kvs).length<=d.length + kvs.length
 | [],d=>by simp [putAllT]
 | p :: r,d=>by
   have h:=lr r (putK d p.1 p.2)
   have h2:=bL d p.1 p.2
   show (putAllT (putK d p.1 p.2) r).length<=_
   rw [aay]
   omega
theorem KT.merge {H:Hp}:∀{uP:List (List Key×V)} {more:List (List Key×Addr×Value)},KT H uP more->∀{kvs:List (List Key×V)} {xs:List (List Key×Addr×Value)},KT H kvs xs->KT H (putAllT kvs uP) (dA xs more):=by
 intro uP more r
 induction r with
 | nil=>exact fun h=>h
 | @cons p q ps qs h t ih=>
   intro kvs xs k
   obtain ⟨h1,h2,h3⟩:=h
   have k2:=k.put p.1 h2 h3
   rw [h1] at k2
   have e:putAllT kvs (p :: ps)=putAllT (putK kvs q.1 p.2) ps:=by rw [← h1]; rfl
   rw [e]
   exact ih k2
theorem zZ {d o:Addr}{kvs uP:List (List Key×V)}{Q:Value->Shared->Prop}(hu:X.A.units + 1 < cLine)(I:Inv X pins σ H s)(ed:H d=some (.dT kvs))(eo:H o=some (.dT uP))(hdo:d≠o)(hne:kvs≠[]\/uP=[])(hsz:kvs.length + uP.length<=sizeLine)
   (h:∀s',Inv X pins σ (upd H d (.dT (putAllT kvs uP))) s'->Q .none s'):wpAny (model X.prog X.w) X.A (call (.builtin "dict.update") [.ref d,.ref o]) Q E s:=by
 obtain ⟨z1,WW,xs,MQ,SR⟩:=wq I.hok ed
 obtain ⟨z2,hd2,more,MR,Vy⟩:=wq I.hok eo
 have l1:=Paired.length MQ
 have l2:=Paired.length MR
 have M:MeetsIn X.prog X.w (Builtin.«dict.update» ⟨[.ref d,.ref o],[]⟩) (fun B R s=>(tupleKind (aO X.prog X.w)).room B.in1/\s.heap.DictOfH (tupleKind (aO X.prog X.w)) d xs/\s.heap.DictOfH (tupleKind (aO X.prog X.w)) o more /\
     ∀h',h'.DictOfH (tupleKind (aO X.prog X.w)) d (dA xs more)->aaT d s.heap h'->R (.ok (.ret .none)) { s with heap:=h' }):=
   .of_wp fun A R s ⟨hr,hd,ho,hh⟩=>by
     unfold Builtin.«dict.update»
     refine wpAny_bind ?_
     unfold ab9
     refine wpAny_bind (wpAny_notOrdered_dict hd.typeIs ?_)
     show wpAny _ _ (pure (d,[aax o])) _ _ s
     refine wpAny_pure ?_
     show wpAny _ _ (abf "dict.update" d (.ref o) [] .none) _ _ s
     unfold abf
     refine wpAny_bind (wpAny_typeOf ho.typeIs ?_)
     rw [if_neg (by decide)]
     refine wpAny_bind ?_
     unfold Builtin.Dict.merge
     refine wpAny_bind ?_
     unfold Builtin.Dict.readDirectly
     refine wpAny_bind (wpAny_isInstance ho.typeIs isSubtype_dict_dict ?_)
     simp only [abT,aa2,if_false]
     refine wpAny_bind (wpAny_specialOf ho.typeIs F.slot_dict_iter.lookup (wpAny_pure ?_))
     simp only [beq_self_eq_true,if_true]
     refine wpAny_bind (wpAny_pure ?_)
     refine Ip hr hdo hd2 hd ho ?_ (by omega) fun h' oA pZ=>?_
     · rcases hne with z | z
       · refine .inl fun e=>z (List.length_eq_zero_iff.mp ?_)
         rw [l1,e]
         rfl
       · refine .inr (List.length_eq_zero_iff.mp ?_)
         rw [← l2,z]
         rfl
     show wpAny _ _ (aca d [] >>= _) _ _ _
     exact wpAny_bind (wpAny_pure (wpAny_pure ⟨.none,rfl,hh h' oA pZ⟩))
 refine call_meetsIn adq SR.typeIs PySem.F.entry_dict_update (PySem.F.args_dict_update_2 _ _) M ⟨tupleKind_room_in1 hu,SR,Vy,fun h' oq hs=>h _ ?_⟩
 obtain ⟨q,es,ep,hq,h2,h3,h4,_,h5⟩:=oq
 have hl:=lr uP kvs
 refine eE (t':=s.toks) I (by rw [ed]; exact aaF) hs ⟨q,hq⟩ ⟨by omega,WW,_,(KT.merge MR MQ).keeps fun c ys ec=>?_,q,es,ep,hq,h2,h3,h4,h5⟩
 rw [aj (fJ ec ed (fun z=>nomatch z))]
 exact ec
def GG (td ty:TE):TE:=fun σ H Q=>td σ H fun x H1=>∃a,x=.ref a/\OM H1 a/\ty σ H1 fun y H2=>∃o kvs uP,y=.ref o/\H2 a=some (.dT kvs)/\H2 o=some (.dT uP)/\a≠o/\(kvs≠[]\/uP=[])/\kvs.length + uP.length<=sizeLine/\Q .bN (upd H2 a (.dT (putAllT kvs uP)))
theorem EO {o e:Expr}{apos cpos:Pos}{td ty:TE}(hu:X.A.units + 1 < cLine)(ho:PE X o td)(he:PE X e ty)(m:M1 X o "update" apos e cpos):PE X (.Call (.Attribute o "update" apos) [e] [] cpos) (GG td ty):=by
 intro pins s σ H Q I h
 refine wpAny_Call_method m.base m.few m.line ady adq PySem.F.type_dict_update (bt (ho pins s σ H _ I h) fun u s1 ⟨x,H1,I1,rx,a,ex,d,q1⟩=>?_)
 subst ex
 obtain rfl:u=aax a:=rx
 obtain ⟨t1,t2,_⟩:=Ba I1 d
 refine ⟨t1,t2,?_⟩
 rw [m.trees]
 refine acC rfl (ab6 (abB (bt (he pins s1 σ H1 _ I1 q1) fun iv s2 ⟨y,H2,I2,ry,o2,kvs,uP,ey,h1,h2,hne,Xw,hsz,q2⟩=>abX ?_)))
 subst ey
 obtain rfl:iv=aax o2:=ry
 exact zZ hu I2 h1 h2 hne Xw hsz fun s3 I3=>⟨.bN,_,I3,rfl,q2⟩
end
end L2
namespace L3
open PySem PySem.Spec PyProof.Rows L2
theorem update {X:Cx}{o e:Expr}{ta te:TE}{pos apos:Pos}(hu:X.A.units + 1 < cLine)(ho:SE X o ta)(he:SE X e te)(m:M1 X o "update" apos e pos:=by exact ⟨rfl,rfl,rfl,rfl⟩):SE X (.Call (.Attribute o "update" apos) [e] [] pos) (GG ta te):=⟨EO hu ho.h he.h m⟩
end L3
namespace PySem
open Sem (wp)
abbrev iF (h:Heap)(z TI TO:Addr)(v:Value)(f:Bool):Prop:=
 h.get? z=some { cls:=.type "zip",dict:=none,data:=.fields #[v,.bool f,.bool false,.ref TI,.ref TO],slots:=#[] }
section
variable {prog:Program}{w:World}{A:Around}{E:Value->Shared->Prop}{s:Shared}
theorem vR {a:Addr}{Q:Option Obj->Shared->Prop}(h:s.heap.get? a=none)(k:Q none s):wpAny (model prog w) A (loadIfAlive a) Q E s:=fun Γ p hΓ=>by
 show Sem.wp _ _ (Sem.loadIfAlive a .pure) _ _ _ _
 rw [Sem.wp_loadIfAlive,h]
 exact (wpAny_pure k:wpAny (model prog w) A (Sem.pure none) Q E s) Γ p hΓ
theorem n6 {z TI TO T:Addr}{f:Bool}(hz:iF s.heap z TI TO (rawInt T) f)(hT:s.heap.get? T=none){Q:Bool->Shared->Prop}{E:Value->Shared->Prop}(k:Q true s):wpAny (model prog w) A (aar (.ref z)) Q E s:=by
 unfold aar
 refine wpAny_bind (wpAny_field hz rfl (x:=rawInt T) rfl ?_)
 show wpAny _ _ (loadIfAlive (T:Int).toNat >>= _) _ _ _
 rw [aa5]
 refine wpAny_bind (vR hT ?_)
 exact wpAny_pure k
theorem vT {z TI TO i1 i2 l1 l2:Addr}{v:Value}{f:Bool}{k1 k2:Nat}{xs ys:Array Value}{x y a b:Value}{Q:Value->Shared->Prop}(D:abR z TI TO i1 i2 l1 l2)(hz:iF s.heap z TI TO v f)
   (free:∀{Q:Bool->Shared->Prop} {E:Value->Shared->Prop},Q true s->wpAny (model prog w) A (aar (.ref z)) Q E s) (hTI:IsPair s.heap TI (.ref i1) (.ref i2)) (hTO:IsPair s.heap TO a b)
   (h1:s.heap.IsListIter i1 l1 k1) (h2:s.heap.IsListIter i2 l2 k2) (hl1:s.heap.IsList l1 xs) (hl2:s.heap.IsList l2 ys) (hx:xs[k1]? = some x) (hy:ys[k2]? = some y)
   (hQ:∀g,iF g z TI TO (rawInt s.heap.objs.size) false->IsPair g TO x y->g.IsListIter i1 l1 (k1 + 1)->g.IsListIter i2 l2 (k2 + 1)->IsPair g s.heap.objs.size x y->(∀c o,c≠z->c≠TO->c≠i1->c≠i2->s.heap.get? c=some o->g.get? c=some o)->Q (.ref s.heap.objs.size) { s with heap:=g }) :
   wpAny (model prog w) A (Builtin.«zip.__next__» ⟨[.ref z],[]⟩) (fun fin s'=>∃v,fin=.done (.ret v)/\Q v s') E s:=by
 show wpAny _ _ (field (.ref z) 2 >>= _) _ _ _
 refine wpAny_bind (wpAny_field hz rfl (x:=.bool false) rfl ?_)
 show wpAny _ _ (field (.ref z) 3 >>= _) _ _ _
 refine wpAny_bind (wpAny_field hz rfl (x:=.ref TI) rfl ?_)
 refine wpAny_bind (wpAny_seqItems hTI rfl ?_)
 show wpAny _ _ (aar (.ref z) >>= _) _ _ _
 refine wpAny_bind (free ?_)
 simp only [if_true]
 refine wpAny_bind (wpAny_rule ?_)
 refine wpAny_bind (wpAny_field hz rfl (x:=.ref TO) rfl ?_)
 refine wpAny_bind (wpAny_setField_rec hz (by simp) fun g1 z1 e1=>?_)
 have OF:iF g1 z TI TO .ellipsis f:=z1
 refine wpAny_bind ?_
 simp only [List.zipIdx_cons,List.zipIdx_nil,ace,acO]
 refine wpAny_bind (wpAny_bind (wpAny_onRaise ?_))
 show wpAny _ _ (aaL (.ref i1) >>= _) _ _ _
 refine wpAny_bind (wpAny_nextOf_list_item (h1.extBut e1.extBut D.i1z) (hl1.extBut e1.extBut D.l1z) hx fun g2 n2 e2=>wpAny_pure ?_)
 have o2:IsPair g2 TO a b:=e2.extBut _ _ D.TOi1 (e1.extBut _ _ D.TOz hTO)
 refine wpAny_bind (wpAny_seqItems o2 rfl (wpAny_bind (wpAny_updateSeq_pair o2 fun g3 o3 e3=>wpAny_bind (wpAny_letGo (wpAny_pure ?_)))))
 have Yw:IsPair g3 TO x b:=o3
 refine wpAny_bind (wpAny_bind (wpAny_onRaise ?_))
 show wpAny _ _ (aaL (.ref i2) >>= _) _ _ _
 refine wpAny_bind (wpAny_nextOf_list_item (((h2.extBut e1.extBut D.i2z).extBut e2.extBut D.i12.symm).extBut e3.extBut D.TOi2.symm) (((hl2.extBut e1.extBut D.l2z).extBut e2.extBut D.l2i1).extBut e3.extBut D.l2TO) hy fun g4 n4 e4=>wpAny_pure ?_)
 have o4:IsPair g4 TO x b:=e4.extBut _ _ D.TOi2 Yw
 refine wpAny_bind (wpAny_seqItems o4 rfl (wpAny_bind (wpAny_updateSeq_pair o4 fun g5 o5 e5=>wpAny_bind (wpAny_letGo (wpAny_pure (wpAny_pure ?_))))))
 have Uk:IsPair g5 TO x y:=o5
 refine wpAny_bind (wpAny_seqItems Uk rfl (wpAny_bind (wpAny_newTuple ?_)))
 have sz:g5.objs.size=s.heap.objs.size:=by rw [e5.1,e4.1,e3.1,e2.1,e1.1]
 have z5:iF g5 z TI TO .ellipsis f:=e5.extBut _ _ D.TOz.symm (e4.extBut _ _ D.i2z.symm (e3.extBut _ _ D.TOz.symm (e2.extBut _ _ D.i1z.symm OF)))
 have keep:∀c o,c≠z->c≠TO->c≠i1->c≠i2->s.heap.get? c=some o->g5.get? c=some o:=fun c o c1 c2 c3 c4 q=>e5.extBut _ _ c2 (e4.extBut _ _ c4 (e3.extBut _ _ c2 (e2.extBut _ _ c3 (e1.extBut _ _ c1 q))))
 have X8:g5.IsListIter i1 l1 (k1 + 1):=((n2.extBut e3.extBut D.TOi1.symm).extBut e4.extBut D.i12).extBut e5.extBut D.TOi1.symm
 have X9:g5.IsListIter i2 l2 (k2 + 1):=n4.extBut e5.extBut D.TOi2.symm
 have U1:z < g5.objs.size:=aaj z5
 show wpAny _ _ (abd (.ref z) (.ref g5.objs.size) >>= _) _ _ _
 refine wpAny_bind ?_
 unfold abd
 have z6:iF (g5.push { cls:=.type "tuple",data:=.seq #[x,y] }) z TI TO .ellipsis f:=aag _ z5
 refine wpAny_bind (wpAny_setField_rec z6 (by simp) fun g7 z7 e7=>?_)
 have Zl:iF g7 z TI TO (rawInt g5.objs.size) f:=z7
 refine wpAny_setField_rec Zl (by simp) fun g8 z8 e8=>?_
 have U0:iF g8 z TI TO (rawInt g5.objs.size) false:=z8
 have up:∀c o,c≠z->g5.get? c=some o->g8.get? c=some o:=fun c o c1 q=>e8.extBut _ _ c1 (e7.extBut _ _ c1 (aag _ q))
 have new:IsPair g8 g5.objs.size x y:=e8.extBut _ _ (ack U1) (e7.extBut _ _ (ack U1) (aaE _ rfl))
 rw [sz] at U0 new
 refine wpAny_pure ⟨_,rfl,?_⟩
 show Q (.ref g5.objs.size) _
 rw [sz]
 exact hQ g8 U0 (up _ _ D.TOz Uk) (X8.at fun o q=>up _ o D.i1z q) (X9.at fun o q=>up _ o D.i2z q) new fun c o c1 c2 c3 c4 q=>up c o c1 (keep c o c1 c2 c3 c4 q)
theorem zu {z TI TO i1 i2 l1 l2:Addr}{v:Value}{f:Bool}{k1 k2:Nat}{xs ys:Array Value}{a b:Value}{Q:Fin->Shared->Prop}(hh:A.handled=none)(D:abR z TI TO i1 i2 l1 l2)(hz:iF s.heap z TI TO v f)
   (free:∀{Q:Bool->Shared->Prop} {E:Value->Shared->Prop},Q true s->wpAny (model prog w) A (aar (.ref z)) Q E s) (hTI:IsPair s.heap TI (.ref i1) (.ref i2)) (hTO:IsPair s.heap TO a b)
   (h1:s.heap.IsListIter i1 l1 k1) (h2:s.heap.IsListIter i2 l2 k2) (hl1:s.heap.IsList l1 xs) (hl2:s.heap.IsList l2 ys) (hend:xs[k1]? = none\/ys[k2]? = none)
   (hE:∀g e,(∀c o,c≠z->c≠TO->c≠i1->c≠i2->s.heap.get? c=some o->g.get? c=some o)->(∃o,g.get? e=some o/\o.cls=.type "StopIteration")->E (.ref e) { s with heap:=g }) :
   wpAny (model prog w) A (Builtin.«zip.__next__» ⟨[.ref z],[]⟩) Q E s:=by
 show wpAny _ _ (field (.ref z) 2 >>= _) _ _ _
 refine wpAny_bind (wpAny_field hz rfl (x:=.bool false) rfl ?_)
 show wpAny _ _ (field (.ref z) 3 >>= _) _ _ _
 refine wpAny_bind (wpAny_field hz rfl (x:=.ref TI) rfl ?_)
 refine wpAny_bind (wpAny_seqItems hTI rfl ?_)
 show wpAny _ _ (aar (.ref z) >>= _) _ _ _
 refine wpAny_bind (free ?_)
 simp only [if_true]
 refine wpAny_bind (wpAny_rule ?_)
 refine wpAny_bind (wpAny_field hz rfl (x:=.ref TO) rfl ?_)
 refine wpAny_bind (wpAny_setField_rec hz (by simp) fun g1 z1 e1=>?_)
 have OF:iF g1 z TI TO .ellipsis f:=z1
 refine wpAny_bind ?_
 simp only [List.zipIdx_cons,List.zipIdx_nil,ace,acO]
 refine wpAny_bind (wpAny_bind (wpAny_onRaise ?_))
 show wpAny _ _ (aaL (.ref i1) >>= _) _ _ _
 have stop:∀{g:Heap} {e:Addr},iF g z TI TO .ellipsis f->(∃o,g.get? e=some o/\o.cls=.type "StopIteration")->e≠z:=fun zz ho q=>by
   obtain ⟨o,ho,hc⟩:=ho
   subst q
   rw [zz] at ho
   cases ho
   simp at hc
 cases hx:xs[k1]? with
 | none=>
   refine wpAny_bind (wpAny_nextOf_list_end hh (h1.extBut e1.extBut D.i1z) (hl1.extBut e1.extBut D.l1z) hx fun g2 e e2 he=>?_)
   have z2:iF g2 z TI TO .ellipsis f:=e2 _ _ D.i1z.symm OF
   have ne:=stop z2 he
   obtain ⟨oe,Qo,rL⟩:=he
   exact wpAny_setField_rec z2 (by simp) fun g3 _ e3=>hE g3 e (fun c o c1 _ c3 _ q=>e3.extBut _ _ c1 (e2 _ _ c3 (e1.extBut _ _ c1 q))) ⟨oe,e3.extBut _ _ ne Qo,rL⟩
 | some x=>
   have hy:ys[k2]? = none:=by
     rcases hend with q | q
     · rw [hx] at q; cases q
     · exact q
   refine wpAny_bind (wpAny_nextOf_list_item (h1.extBut e1.extBut D.i1z) (hl1.extBut e1.extBut D.l1z) hx fun g2 n2 e2=>wpAny_pure ?_)
   have o2:IsPair g2 TO a b:=e2.extBut _ _ D.TOi1 (e1.extBut _ _ D.TOz hTO)
   refine wpAny_bind (wpAny_seqItems o2 rfl (wpAny_bind (wpAny_updateSeq_pair o2 fun g3 o3 e3=>wpAny_bind (wpAny_letGo (wpAny_pure ?_)))))
   refine wpAny_bind (wpAny_bind (wpAny_onRaise ?_))
   show wpAny _ _ (aaL (.ref i2) >>= _) _ _ _
   refine wpAny_bind (wpAny_nextOf_list_end hh (((h2.extBut e1.extBut D.i2z).extBut e2.extBut D.i12.symm).extBut e3.extBut D.TOi2.symm) (((hl2.extBut e1.extBut D.l2z).extBut e2.extBut D.l2i1).extBut e3.extBut D.l2TO) hy fun g4 e e4 he=>?_)
   have z4:iF g4 z TI TO .ellipsis f:=e4 _ _ D.i2z.symm (e3.extBut _ _ D.TOz.symm (e2.extBut _ _ D.i1z.symm OF))
   have ne:=stop z4 he
   obtain ⟨oe,Qo,rL⟩:=he
   exact wpAny_setField_rec z4 (by simp) fun g5 _ e5=>hE g5 e (fun c o c1 c2 c3 c4 q=>e5.extBut _ _ c1 (e4 _ _ c4 (e3.extBut _ _ c2 (e2.extBut _ _ c3 (e1.extBut _ _ c1 q))))) ⟨oe,e5.extBut _ _ ne Qo,rL⟩
structure ZS (h:Heap)(z TI TO i1 i2 l1 l2:Addr)(i:Nat):Prop where
 ti:IsPair h TI (.ref i1) (.ref i2)
 to:∃x y,IsPair h TO x y
 a:h.IsListIter i1 l1 i
 b:h.IsListIter i2 l2 i
 z:iF h z TI TO .none false\/∃(T:Addr) (f:Bool),iF h z TI TO (rawInt T) f
theorem ZS.ob {h:Heap}{z TI TO i1 i2 l1 l2:Addr}{i:Nat}(st:ZS h z TI TO i1 i2 l1 l2 i):∃fl,h.get? z=some { cls:=.type "zip",dict:=none,data:=.fields fl,slots:=#[] }:=by
 rcases st.z with e | ⟨T,f,e⟩
 · exact ⟨_,e⟩
 · exact ⟨_,e⟩
theorem ZS.on {h g:Heap}{z TI TO i1 i2 l1 l2:Addr}{i:Nat}(st:ZS h z TI TO i1 i2 l1 l2 i)(k:∀c∈([z,TI,TO,i1,i2]:List Addr),∀o,h.get? c=some o->g.get? c=some o):ZS g z TI TO i1 i2 l1 l2 i:=by
 obtain ⟨t1,⟨x,y,t2⟩,a,b,zz⟩:=st
 refine ⟨k _ (by simp) _ t1,⟨x,y,k _ (by simp) _ t2⟩,a.at fun o e=>k _ (by simp) o e,b.at fun o e=>k _ (by simp) o e,?_⟩
 rcases zz with e | ⟨T,f,e⟩
 · exact .inl (k _ (by simp) _ e)
 · exact .inr ⟨T,f,k _ (by simp) _ e⟩
theorem ZS.item {z TI TO i1 i2 l1 l2:Addr}{i:Nat}{us vs:Array Value}{u v:Value}{Q:Value->Shared->Prop}(D:abR z TI TO i1 i2 l1 l2)(st:ZS s.heap z TI TO i1 i2 l1 l2 i)(h1:s.heap.IsList l1 us)(h2:s.heap.IsList l2 vs)(hu:us[i]? = some u)(hv:vs[i]? = some v)
   (k:∀g,ZS g z TI TO i1 i2 l1 l2 (i + 1)->IsPair g s.heap.objs.size u v->(∀c o,c ∉ ([z,TO,i1,i2]:List Addr)->s.heap.get? c=some o->g.get? c=some o)->Q (.ref s.heap.objs.size) { s with heap:=g }) :
   wpAny (model prog w) A (Builtin.«zip.__next__» ⟨[.ref z],[]⟩) (fun fin s'=>∃v,fin=.done (.ret v)/\Q v s') E s:=by
 obtain ⟨t1,⟨x,y,t2⟩,a,b,zz⟩:=st
 rcases zz with e | ⟨T,f,e⟩
 · refine zip_next_item D e t1 t2 a b h1 h2 hu hv fun g b1 b2 b3 b4 b5 b6 kk=>?_
   refine k g ⟨kk _ _ D.TIz D.TITO D.TIi1 D.TIi2 t1,⟨_,_,b2⟩,b3,b4,.inr ⟨_,_,b1⟩⟩ b5 fun c o hc q=>?_
   simp only [aaG,aau,or_false,not_or] at hc
   exact kk c o hc.1 hc.2.1 hc.2.2.1 hc.2.2.2 q
 · cases hT:s.heap.get? T with
   | some ot=>
     refine pK D e hT t1 a b h1 h2 hu hv fun g b1 b3 b4 b5 kk=>?_
     refine k g ⟨kk _ _ D.TIz D.TIi1 D.TIi2 t1,⟨_,_,kk _ _ D.TOz D.TOi1 D.TOi2 t2⟩,b3,b4,.inr ⟨T,true,b1⟩⟩ b5 fun c o hc q=>?_
     simp only [aaG,aau,or_false,not_or] at hc
     exact kk c o hc.1 hc.2.2.1 hc.2.2.2 q
   | none=>
     refine vT D e (n6 e hT) t1 t2 a b h1 h2 hu hv fun g b1 b2 b3 b4 b5 kk=>?_
     refine k g ⟨kk _ _ D.TIz D.TITO D.TIi1 D.TIi2 t1,⟨_,_,b2⟩,b3,b4,.inr ⟨_,_,b1⟩⟩ b5 fun c o hc q=>?_
     simp only [aaG,aau,or_false,not_or] at hc
     exact kk c o hc.1 hc.2.1 hc.2.2.1 hc.2.2.2 q
theorem ZS.done {z TI TO i1 i2 l1 l2:Addr}{i:Nat}{us vs:Array Value}{Q:Fin->Shared->Prop}(free:A.handled=none)(D:abR z TI TO i1 i2 l1 l2)(st:ZS s.heap z TI TO i1 i2 l1 l2 i)(h1:s.heap.IsList l1 us)(h2:s.heap.IsList l2 vs)(hu:us[i]? = none\/vs[i]? = none)
   (k:∀g e,(∀c o,c ∉ ([z,TO,i1,i2]:List Addr)->s.heap.get? c=some o->g.get? c=some o)->(∃o,g.get? e=some o/\o.cls=.type "StopIteration")->E (.ref e) { s with heap:=g }) :
   wpAny (model prog w) A (Builtin.«zip.__next__» ⟨[.ref z],[]⟩) Q E s:=by
 obtain ⟨t1,⟨x,y,t2⟩,a,b,zz⟩:=st
 rcases zz with e | ⟨T,f,e⟩
 · refine zip_next_end free D e t1 t2 a b h1 h2 hu fun g ee kk=>k g ee fun c o hc q=>?_
   simp only [aaG,aau,or_false,not_or] at hc
   exact kk c o hc.1 hc.2.1 hc.2.2.1 hc.2.2.2 q
 · cases hT:s.heap.get? T with
   | some ot=>
     refine tG free D e hT t1 a b h1 h2 hu fun g ee kk=>k g ee fun c o hc q=>?_
     simp only [aaG,aau,or_false,not_or] at hc
     exact kk c o hc.1 hc.2.2.1 hc.2.2.2 q
   | none=>
     refine zu free D e (n6 e hT) t1 t2 a b h1 h2 hu fun g ee kk=>k g ee fun c o hc q=>?_
     simp only [aaG,aau,or_false,not_or] at hc
     exact kk c o hc.1 hc.2.1 hc.2.2.1 hc.2.2.2 q
theorem DF {e z TI TO i1 i2 l1 l2:Addr}{i:Nat}{us vs:Array Value}{u v old:Value}{Q:Value->Shared->Prop}(D:abR z TI TO i1 i2 l1 l2)(he:IsEnum s.heap e z i old)(ne:e ∉ ([z,TI,TO,i1,i2]:List Addr))(st:ZS s.heap z TI TO i1 i2 l1 l2 i)(h1:s.heap.IsList l1 us)(h2:s.heap.IsList l2 vs)(hu:us[i]? = some u)(hv:vs[i]? = some v)
   (k:∀g h',ZS g z TI TO i1 i2 l1 l2 (i + 1)->IsPair g s.heap.objs.size u v->(∀c o,c ∉ ([z,TO,i1,i2]:List Addr)->s.heap.get? c=some o->g.get? c=some o)->IsEnumOut h' e z ((i:Int) + 1) (.ref s.heap.objs.size) g.objs.size->IsPair h' g.objs.size (.int i s.toks) (.ref s.heap.objs.size) ->
     (∀c o,c≠e->g.get? c=some o->h'.get? c=some o)->Q (.ref g.objs.size) { s with heap:=h',toks:=s.toks + 1 }) :
   wpAny (model prog w) A (Builtin.«enumerate.__next__» ⟨[.ref e],[]⟩) (fun fin s'=>∃v,fin=.done (.ret v)/\Q v s') E s:=by
 obtain ⟨hp,gg,dd,tk,os⟩:=s
 show wpAny _ _ (field (.ref e) 2 >>= _) _ _ _
 refine wpAny_bind (wpAny_field he rfl (x:=.ref z) rfl ?_)
 have ty:(⟨hp,gg,dd,tk,os⟩ : Shared).TypeIs (.ref z) "zip":=by obtain ⟨fl,q⟩:=st.ob; exact ⟨_,q,rfl⟩
 have ne4:e ∉ ([z,TO,i1,i2]:List Addr):=fun q=>ne (by simp only [aaG,aau,or_false] at q ⊢; rcases q with r | r | r | r <;> simp [r])
 refine wpAny_bind ?_
 unfold aaL
 refine wpAny_bind (aa0 (name:=abh "__next__") ty abw (wpAny_call_entry abw ty acJ (ZS.item D st h1 h2 hu hv fun g zs gp gk=>?_) (acB _)))
 refine wpAny_pure ?_
 have e1:IsEnum g e z i old:=gk e _ ne4 he
 show wpAny _ _ (field (.ref e) 3 >>= _) _ _ ⟨g,gg,dd,tk,os⟩
 refine wpAny_bind (wpAny_field e1 rfl (x:=rawInt i) rfl ?_)
 show wpAny _ _ (field (.ref e) 4 >>= _) _ _ ⟨g,gg,dd,tk,os⟩
 refine wpAny_bind (wpAny_field e1 rfl (x:=.none) rfl ?_)
 show wpAny _ _ (mkInt i >>= _) _ _ ⟨g,gg,dd,tk,os⟩
 refine wpAny_bind (wpAny_mkInt ?_)
 show wpAny _ _ (setField (.ref e) 3 (rawInt ((i:Int) + 1)) >>= _) _ _ ⟨g,gg,dd,tk + 1,os⟩
 refine wpAny_bind (wpAny_setField_rec e1 (by simp) fun g2 e2 s2=>?_)
 have Ho:IsEnum g2 e z ((i:Int) + 1) old:=e2
 show wpAny _ _ (setField (.ref e) 4 .none >>= _) _ _ ⟨g2,gg,dd,tk + 1,os⟩
 refine wpAny_bind (wpAny_setField_rec Ho (by simp) fun g3 e3 s3=>?_)
 have e3':IsEnum g3 e z ((i:Int) + 1) old:=e3
 show wpAny _ _ (newTuple [.int i tk,.ref hp.objs.size] >>= _) _ _ ⟨g3,gg,dd,tk + 1,os⟩
 refine wpAny_bind (wpAny_newTuple ?_)
 have UE:aaT e g g2:=s2
 have UH:aaT e g2 g3:=s3
 have sz:g3.objs.size=g.objs.size:=by rw [UH.1,UE.1]
 have elt:e < g3.objs.size:=aaj e3'
 have e4:IsEnum (g3.push { cls:=.type "tuple",data:=.seq #[.int i tk,.ref hp.objs.size] }) e z ((i:Int) + 1) old:=aag _ e3'
 have t4:IsPair (g3.push { cls:=.type "tuple",data:=.seq #[.int i tk,.ref hp.objs.size] }) g3.objs.size (.int i tk) (.ref hp.objs.size):=aaE _ rfl
 have k4:∀c o,c≠e->g.get? c=some o->(g3.push { cls:=.type "tuple",data:=.seq #[.int i tk,.ref hp.objs.size] }).get? c=some o:=fun c o hc q=>aag _ (UH.extBut c o hc (UE.extBut c o hc q))
 generalize g3.push { cls:=.type "tuple",data:=.seq #[.int i tk,.ref hp.objs.size] }=g4 at e4 t4 k4
 show wpAny _ _ (aar (.ref e) >>= _) _ _ ⟨g4,gg,dd,tk + 1,os⟩
 refine wpAny_bind ?_
 unfold aar
 refine wpAny_bind (wpAny_field e4 rfl (x:=.none) rfl (wpAny_pure ?_))
 simp only [if_true]
 refine wpAny_bind (wpAny_rule (wpAny_bind (wpAny_field e4 rfl (x:=old) rfl (wpAny_bind (wpAny_setField_rec e4 (by simp) fun g5 e5 s5=>?_)))))
 have VA:IsEnum g5 e z ((i:Int) + 1) (.ref hp.objs.size):=e5
 have YV:aaT e g4 g5:=s5
 show wpAny _ _ (abd (.ref e) (.ref g3.objs.size) >>= _) _ _ ⟨g5,gg,dd,tk + 1,os⟩
 refine wpAny_bind ?_
 unfold abd
 refine wpAny_bind (wpAny_setField_rec VA (by simp) fun g6 e6 s6=>?_)
 have VB:IsEnumOut g6 e z ((i:Int) + 1) (.ref hp.objs.size) g3.objs.size:=e6
 have YW:aaT e g5 g6:=s6
 refine wpAny_setField_rec VB (by simp) fun g7 e7 s7=>?_
 have SU:IsEnumOut g7 e z ((i:Int) + 1) (.ref hp.objs.size) g3.objs.size:=e7
 have YX:aaT e g6 g7:=s7
 have u7:∀c o,c≠e->g4.get? c=some o->g7.get? c=some o:=fun c o hc q=>YX.extBut _ _ hc (YW.extBut _ _ hc (YV.extBut _ _ hc q))
 have t7:=u7 _ _ (ack elt) t4
 rw [sz] at SU t7
 refine wpAny_bind (wpAny_letGo (wpAny_pure ⟨_,rfl,?_⟩))
 show Q (.ref g3.objs.size) _
 rw [sz]
 exact k g g7 zs gp gk SU t7 fun c o hc q=>u7 c o hc (k4 c o hc q)
end
end PySem
namespace PySem
open Sem (wp)
open AutoSeq1 (wpAny_loadPart')
theorem Be (z TI TO:Addr):Meets (Builtin.«enumerate.__new__» ⟨[.type "enumerate",.ref z],[]⟩) (fun _ R s=>IsZip s.heap z TI TO .none /\
   R (.ok (.ret (.ref s.heap.objs.size))) { s with heap:=s.heap.push { cls:=.type "enumerate",data:=.fields #[.none,.bool false,.ref z,rawInt 0,.none,.none] } }):=
 .of_wp fun prog w A R s h=>by
   obtain ⟨hp,g,d,tk,os⟩:=s
   obtain ⟨hz,k⟩:=h
   have XM:=sub_enumerate
   have Ie:IsZip (Shared.heap ⟨hp,g,d,tk,os⟩) z TI TO .none:=hz
   wp_walk using wpAny_loadPart' hz
   refine wpAny_stack_any fun st=>wpAny_pure ?_
   split
   · rename_i c _ _ _ _ _
     cases (c == adC "enumerate")
     · wp_walk using wpAny_loadPart' hz,wpAny_pyIter_zip Ie
       exact ⟨_,rfl,k⟩
     · wp_walk using wpAny_loadPart' hz,wpAny_pyIter_zip Ie
       exact ⟨_,rfl,k⟩
   · wp_walk using wpAny_loadPart' hz,wpAny_pyIter_zip Ie
     exact ⟨_,rfl,k⟩
section
variable {prog:Program}{w:World}{A:Around}{E:Value->Shared->Prop}{s:Shared}
theorem Dv {z TI TO:Addr}{Q:Value->Shared->Prop}(hz:IsZip s.heap z TI TO .none)(k:∀g,IsEnum g s.heap.objs.size z 0 .none->(∀b o,s.heap.get? b=some o->g.get? b=some o)->Q (.ref s.heap.objs.size) { s with heap:=g }) :
   wpAny (model prog w) A (call (.type "enumerate") [.ref z]) Q E s:=by
 refine callType_new F.called_enumerate (by decide) (F.typeCall_enumerate_1 _) (F.newCall_enumerate_1 _) (fun obj=>F.args_object_init_2 obj _) F.entry_enumerate_new (Be z TI TO) ⟨hz,?_⟩
 have he:IsEnum (s.heap.push { cls:=.type "enumerate",data:=.fields #[.none,.bool false,.ref z,rawInt 0,.none,.none] }) s.heap.objs.size z 0 .none:=aaE _ rfl
 exact ⟨⟨_,he,rfl⟩,k _ he fun b o q=>aag _ q⟩
end
end PySem
namespace L2
open PySem PySem.Spec PyProof.Rows
def zJ (K:aac)(a b:Addr):It:=
 ⟨fun i H=>∃xs ys x y,ao K H a xs/\ao K H b ys/\xs[i]? = some x/\ys[i]? = some y,
  fun i H v H'=>∃p q x y,H p=none/\(upd H p (.tup [x,y])) q=none/\v=.ref q/\H'=upd (upd H p (.tup [x,y])) q (.tup [.int (i:Nat),.ref p])/\∀xs ys,ao K H a xs->ao K H b ys->xs[i]? = some x/\ys[i]? = some y,
  fun i H=>∃xs ys,ao K H a xs/\ao K H b ys/\(xs.length<=i\/ys.length<=i)⟩
theorem Fp {P:Program}{w:World}{K:aac}{elts:List Expr}{x1:Nat}{tp:Pos}{a b e z TI TO i1 i2:Addr}(D:abR z TI TO i1 i2 a b)(ne:e ∉ ([z,TI,TO,i1,i2]:List Addr)) :
   Turn P w K (.Tuple elts x1 tp) (zJ K a b) [e,z,TI,TO,i1,i2] e (fun i h=>(∃old,IsEnum h e z (i:Nat) old)/\ZS h z TI TO i1 i2 a b i) where
 mem:=by simp
 obj:=fun i h st c hc=>by
   obtain ⟨⟨old,he⟩,zs⟩:=st
   obtain ⟨fl,hz⟩:=zs.ob
   obtain ⟨hTI,⟨x,y,hTO⟩,⟨o1,e1,c1,d1⟩,⟨o2,e2,c2,d2⟩,_⟩:=zs
   simp only [aaG,aau,or_false] at hc
   rcases hc with rfl | rfl | rfl | rfl | rfl | rfl
   · exact ⟨_,he,fun v q=>nomatch q⟩
   · exact ⟨_,hz,fun v q=>nomatch q⟩
   · exact ⟨_,hTI,fun v q=>nomatch q⟩
   · exact ⟨_,hTO,fun v q=>nomatch q⟩
   · exact ⟨_,e1,fun v q=>by rw [d1] at q; cases q⟩
   · exact ⟨_,e2,fun v q=>by rw [d2] at q; cases q⟩
 keep:=fun i h h' st k=>by
   obtain ⟨⟨old,he⟩,zs⟩:=st
   exact ⟨⟨old,k e (by simp) _ he⟩,zs.on fun c hc o q=>k c (aaW _ hc) o q⟩
 item:=by
   intro X hP hw hK hc i pins s σ H E I hf st hg
   subst hP hw hK
   obtain ⟨xs,ys,x,y,oD,oE,hx,hy⟩:=hg
   obtain ⟨uO,vz,p1,_⟩:=I.list oD
   obtain ⟨eY,vA,p2,_⟩:=I.list oE
   obtain ⟨u,hu,ru⟩:=vz.get hx
   obtain ⟨v,hv,rv⟩:=vA.get hy
   obtain ⟨⟨old,he⟩,zs⟩:=st
   have hT:s.TypeIs (.ref e) "enumerate":=⟨_,he,rfl⟩
   have ltf:∀c∈([e,z,TI,TO,i1,i2]:List Addr),c < s.heap.objs.size:=fun c dH=>by
     obtain ⟨fl,hz⟩:=zs.ob
     obtain ⟨hTI,⟨x,y,hTO⟩,⟨o1,e1,_,_⟩,⟨o2,e2,_,_⟩,_⟩:=zs
     simp only [aaG,aau,or_false] at dH
     rcases dH with rfl | rfl | rfl | rfl | rfl | rfl
     · exact aaj he
     · exact aaj hz
     · exact aaj hTI
     · exact aaj hTO
     · exact aaj e1
     · exact aaj e2
   unfold pyNext
   refine wpAny_bind (wpAny_attempt (aa0 (name:=abh "__next__") hT ab8 (wpAny_call_entry ab8 hT F.entry_enumerate_next
     (DF D he ne zs p1.isList p2.isList (u:=u) (v:=v) (by simpa using hu) (by simpa using hv) fun g h' Zm gp gk eo tp kk=>wpAny_pure ?_) (aeg _))))
   refine ⟨_,rfl,wpAny_letOwnedTupleGo_enum (s:={ s with heap:=h',toks:=s.toks + 1 }) eo fun h2 W0 hs2=>?_⟩
   have LW:aaT e h' h2:=hs2
   have sub4:∀c∈([z,TO,i1,i2]:List Addr),c∈([e,z,TI,TO,i1,i2]:List Addr):=fun c dH=>by
     simp only [aaG,aau,or_false] at dH ⊢
     rcases dH with r | r | r | r <;> simp [r]
   have n0:H s.heap.objs.size=none:=I.hok.fresh (aaf _)
   have I1:Inv X pins σ (upd H s.heap.objs.size (.tup [x,y])) { s with heap:=g,toks:=s.toks }:=I.many (ch:=[z,TO,i1,i2]) (fun c dH=>hf c (sub4 c dH)) (fun c o dH q=>gk c o dH q) (aaf _) ⟨by show 2<=sizeLine; decide,[u,v],.cons ru (.cons rv .nil),_,gp,rfl,_,rfl⟩
   have Uc:s.heap.objs.size < g.objs.size:=aaj gp
   have n1:(upd H s.heap.objs.size (.tup [x,y])) g.objs.size=none:=I1.hok.fresh (aaf _)
   have elt:e < g.objs.size:=aed (ltf e (by simp)) Uc
   have t2:IsPair h2 g.objs.size (.int i s.toks) (.ref s.heap.objs.size):=LW.extBut _ _ (ack elt) tp
   have fe:dJ X pins (upd H s.heap.objs.size (.tup [x,y])) e:=⟨by rw [aj (aaK (ltf e (by simp)))]; exact (hf e (by simp)).1,(hf e (by simp)).2⟩
   have T9:∀c o,c≠e->g.get? c=some o->h2.get? c=some o:=fun c o dH q=>LW.extBut _ _ dH (kk c o dH q)
   have I2:Inv X pins σ (upd (upd H s.heap.objs.size (.tup [x,y])) g.objs.size (.tup [.int (i:Nat),.ref s.heap.objs.size])) { s with heap:=h2,toks:=s.toks + 1 }:=I1.many (ch:=[e]) (fun c dH=>by rw [List.mem_singleton.mp dH]; exact fe) (fun c o dH q=>T9 c o (fun z=>dH (by rw [z]; simp)) q) (aaf _)
     ⟨by show 2<=sizeLine; decide,[.int i s.toks,.ref s.heap.objs.size],.cons ⟨_,rfl⟩ (.cons rfl .nil),_,t2,rfl,_,rfl⟩
   refine ⟨.ref g.objs.size,_,I2,rfl,⟨_,_,x,y,n0,n1,rfl,rfl,fun Zk Nw q1 q2=>?_⟩,⟨⟨_,by simpa using W0⟩,Zm.on fun c dH o q=>T9 c o (fun z=>ne (z ▸ dH)) q⟩,fun c dH=>?_⟩
   · rw [I.gu q1 oD,I.gu q2 oE]; exact ⟨hx,hy⟩
   · have lt:=ltf c dH
     rw [aj (aaK (aed lt Uc)),aj (aaK lt)]
     exact (hf c dH).1
 done:=by
   intro X hP hw hK hc i pins s σ H E I hf st hg
   subst hP hw hK
   obtain ⟨xs,ys,oD,oE,hend⟩:=hg
   obtain ⟨uO,vz,p1,_⟩:=I.list oD
   obtain ⟨eY,vA,p2,_⟩:=I.list oE
   have l1:=vz.length
   have l2:=vA.length
   obtain ⟨⟨old,he⟩,zs⟩:=st
   have hT:s.TypeIs (.ref e) "enumerate":=⟨_,he,rfl⟩
   have ty:s.TypeIs (.ref z) "zip":=by obtain ⟨fl,q⟩:=zs.ob; exact ⟨_,q,rfl⟩
   unfold pyNext
   refine wpAny_bind (wpAny_attempt (aa0 (name:=abh "__next__") hT ab8 (wpAny_call_entry ab8 hT F.entry_enumerate_next ?_ (aeg _))))
   show wpAny _ _ (field (.ref e) 2 >>= _) _ _ _
   refine wpAny_bind (wpAny_field he rfl (x:=.ref z) rfl (wpAny_bind ?_))
   unfold aaL
   refine wpAny_bind (aa0 (name:=abh "__next__") ty abw (wpAny_call_entry abw ty acJ (ZS.done (I.ok.hd hc) D zs p1.isList p2.isList ?_ fun g ee gk W2=>?_) (acB _)))
   · rcases hend with q | q
     · exact .inl (by simp; omega)
     · exact .inr (by simp; omega)
   · obtain ⟨o,ho,DV⟩:=W2
     refine wpAny_bind (wpAny_isInstance (T:="StopIteration") (b:=true) ⟨o,ho,DV⟩ isSubtype_stop (wpAny_pure ⟨rfl,?_⟩))
     exact I.wK (t':=s.toks) (ch:=[z,TO,i1,i2]) (fun c dH=>hf c (by simp only [aaG,aau,or_false] at dH ⊢; rcases dH with r | r | r | r <;> simp [r])) fun c o dH q=>gk c o dH q
 self:=fun _ _ _ _ _ st h=>by
   obtain ⟨⟨old,he⟩,_⟩:=st
   exact wpAny_pyIter_enum he h
def T5 (K:aac)(ta:TA):TI:=fun σ H R=>ta σ H fun vs H1=>∃a b,vs=[.ref a,.ref b]/\(∃xs,ao K H1 a xs)/\(∃ys,ao K H1 b ys)/\R (zJ K a b) H1
section
variable {X:Cx}{a b:Expr}{ta:TA}{p1 p2 pos dR tp:Pos}{elts:List Expr}{x1:Nat}
theorem MC (hg1:Gl X "enumerate")(hm1:X.mg "enumerate"=none)(hg2:Gl X "zip")(hm2:X.mg "zip"=none)(ha:tN X [a,b] ta)(hv1:aa4 "enumerate"=some (.type "enumerate"):=by first | rfl | decide +kernel)(hv2:aa4 "zip"=some (.type "zip"):=by first | rfl | decide +kernel) :
   PI X (.Tuple elts x1 tp) (.Call (.Name "enumerate" p1) [.Call (.Name "zip" p2) [a,b] [] dR] [] pos) (T5 X.K ta):=by
 intro pins s σ H R I h
 refine wpAny_Call_Name_kw (eQ I hg1 hm1 hv1 ?_ (by decide) (by decide))
 refine aaQ ?_ rfl rfl
 show wpAny _ _ (spliced ((false,eval (.Call (.Name "zip" p2) [a,b] [] dR) X.env) :: [])) _ _ s
 refine abB (wpAny_Call_Name_kw (eQ I hg2 hm2 hv2 ?_ (by decide) (by decide)))
 refine aaQ (bt (ha.pa dR pins s σ H _ I h) fun us s1 ⟨vs,H1,I1,r1,q1⟩=>?_) ((ha.ns a [b] rfl).1.h [b] X.env) ((ha.ns a [b] rfl).2 dR X.env)
 obtain ⟨l1,l2,e,⟨xs,oD⟩,⟨ys,oE⟩,q⟩:=q1
 subst e
 obtain ⟨u,v,rfl,ru,rv⟩:=Vals.two r1
 obtain rfl:u=aax l1:=ru
 obtain rfl:v=aax l2:=rv
 obtain ⟨uO,vz,p1,_⟩:=I1.list oD
 obtain ⟨eY,vA,p2,_⟩:=I1.list oE
 have Mb:l1 < s1.heap.objs.size:=by obtain ⟨_,_,e,_⟩:=p1; exact aaj e
 have Mc:l2 < s1.heap.objs.size:=by obtain ⟨_,_,e,_⟩:=p2; exact aaj e
 refine call_zip_2 p1.isList p2.isList fun h' hz hTI hTO uD DW hsz hk=>?_
 refine abX ?_
 refine Dv (s:={ s1 with heap:=h' }) hz fun g he gk=>?_
 refine wpAny_pyIter_enum he ?_
 have I2:Inv X pins σ H1 { s1 with heap:=g }:=I1.kept (t':=s1.toks) fun c o q=>gk _ _ (hk c o q)
 have D:=zipApart_new Mb Mc
 have up:∀k,dJ X pins H1 (s1.heap.objs.size + k):=fun k=>I1.pT (abN _ _) (I1.hok.fresh (abN _ _))
 have sz:h'.objs.size=s1.heap.objs.size + 5:=hsz
 have ne:h'.objs.size ∉ ([s1.heap.objs.size + 4,s1.heap.objs.size + 2,s1.heap.objs.size + 3,s1.heap.objs.size,s1.heap.objs.size + 1]:List Addr):=fun hc=>by
   rw [sz] at hc
   have key:∀n:Nat,¬ (n + 5)∈([n + 4,n + 2,n + 3,n,n + 1]:List Nat):=fun n hc=>by
     simp only [aaG,aau,or_false] at hc
     omega
   exact key _ hc
 refine ⟨_,_,_,_,H1,rfl,I2,Fp D ne,⟨⟨_,he⟩,⟨gk _ _ hTI,⟨_,_,gk _ _ hTO⟩,uD.at fun o q=>gk _ o q,DW.at fun o q=>gk _ o q,.inl (gk _ _ hz)⟩⟩,fun c hc=>?_,q⟩
 simp only [aaG,aau,or_false] at hc
 rcases hc with rfl | rfl | rfl | rfl | rfl | rfl
 · show dJ X pins H1 h'.objs.size
   rw [sz]
   exact up 5
 · exact up 4
 · exact up 2
 · exact up 3
 · exact up 0
 · exact up 1
end
section
variable {K:aac}{a b:Addr}{xs ys:List V}{g:TG}
theorem Ht {tb:TS}{D:Ends}{σ:St}{H:Hp}(Pv:Nat->St->Hp->Prop)(h0:Pv 0 σ H)(hl:∀i σ H,Pv i σ H->ao K H a xs/\ao K H b ys)
   (hs:∀i x y p q σ H,xs[i]? = some x->ys[i]? = some y->Pv i σ H->H p=none->(upd H p (.tup [x,y])) q=none->g (.ref q) σ (upd (upd H p (.tup [x,y])) q (.tup [.int (i:Nat),.ref p])) fun σ2 H2=>tb { D with nx:=Pv (i + 1),ct:=Pv (i + 1),bk:=D.nx } σ2 H2)
   (hd:∀σ H,Pv (min xs.length ys.length) σ H->D.nx σ H) :
   ∃W:Nat->Nat->St->Hp->Prop,(∃m,W 0 m σ H)/\∀i m σ H,W i m σ H ->
     ((zJ K a b).stop i H/\D.nx σ H)\/((zJ K a b).go i H/\∃N:St->Hp->Prop,(∀σ' H',N σ' H'->∃m',m' < m/\W (i + 1) m' σ' H')/\∀x H',(zJ K a b).yld i H x H'->g x σ H' fun σ2 H2=>tb { D with nx:=N,ct:=N,bk:=D.nx } σ2 H2):=by
 refine ⟨fun i m σ H=>m=min xs.length ys.length - i/\i<=min xs.length ys.length/\Pv i σ H,⟨min xs.length ys.length,by simp,aaU _,h0⟩,?_⟩
 rintro i m σ H ⟨rfl,hi,p⟩
 obtain ⟨q1,q2⟩:=hl i σ H p
 by_cases hlt:i < min xs.length ys.length
 · have h1:i < xs.length:=by omega
   have h2:i < ys.length:=by omega
   refine .inr ⟨⟨xs,ys,xs[i],ys[i],q1,q2,by simp [h1],by simp [h2]⟩,Pv (i + 1),fun σ' H' p'=>⟨min xs.length ys.length - (i + 1),by omega,rfl,hlt,p'⟩,fun x H' y=>?_⟩
   obtain ⟨pp,qq,x1,y1,n0,n1,rfl,rfl,k⟩:=y
   obtain ⟨k1,k2⟩:=k xs ys q1 q2
   exact hs i x1 y1 pp qq σ H k1 k2 p n0 n1
 · have e:i=min xs.length ys.length:=by omega
   subst e
   exact .inl ⟨⟨xs,ys,q1,q2,by omega⟩,hd σ H p⟩
end
end L2
namespace L3
open PySem PySem.Spec PyProof.Rows L2
theorem X5 {X:Cx}{a b:Expr}{t:TA}{KK:aac}{p1 p2 pos dR tp:Pos}{elts:List Expr}{x1:Nat}(hg1:Gl X "enumerate")(hm1:X.mg "enumerate"=none)(hg2:Gl X "zip")(hm2:X.mg "zip"=none)(ha:SA X [a,b] t)(hK:X.K=KK:=by first | exact bz | rfl) :
   SI X (.Tuple elts x1 tp) (.Call (.Name "enumerate" p1) [.Call (.Name "zip" p2) [a,b] [] dR] [] pos) (T5 KK t):=by
 subst hK
 exact ⟨MC hg1 hm1 hg2 hm2 ha.h⟩
end L3
namespace L2
open PySem PySem.Spec PyProof.Rows
section
variable {X:Cx}{pos:Pos}
def GN (i j:Nat)(ta:TA):TS:=fun D σ H=>ta σ H fun vs H1=>∃u v,vs=[u,v]/\D.nx ((σ.set i (some u)).set j (some v)) H1
theorem E4 {i j:Nat}{x y:Str}{a b:Expr}{ta:TA}{px py pt:Pos}{kt k2 JD}(hc:X.calm=true)(hN:X.N.Nodup)(hi:X.N[i]? = some x)(hj:X.N[j]? = some y)(hij:i≠j)
   (hx:X.env.scope.names.lookup x=some .local) (hy:X.env.scope.names.lookup y=some .local) (ha:PA X [a,b] ta)
   (hw:adl [.Tuple [.Name x px,.Name y py] kt pt] (.Tuple [a,b] k2 JD) X.env=pure (some [x,y]))
   (hs:adk [.Tuple [.Name x px,.Name y py] kt pt] (.Tuple [a,b] k2 JD) pos.line X.env=pure false:=by rfl) :
   PS X (.Assign [.Tuple [.Name x px,.Name y py] kt pt] (.Tuple [a,b] k2 JD) pos) (GN i j ta):=by
 intro pins s σ H D I h
 rw [exec_Assign_arm]
 refine wpAny_bind (wpAny_standAt ?_)
 rw [hs]
 refine wpAny_bind (wpAny_pure ?_)
 rw [if_neg (by decide)]
 refine wpAny_bind (Tuple_ (bt (ha _ pins s σ H _ I h) fun us s1 ⟨vs,H1,I1,r1,q1⟩=>?_))
 obtain ⟨u,v,e1,q1⟩:=q1
 subst e1
 obtain ⟨u1,u2,rfl,ru,rv⟩:=Vals.two r1
 refine wpAny_newObj_type ?_ agr
 have I2:Inv X pins σ H1 { s1 with heap:=s1.heap.push { cls:=.type "tuple",data:=.seq [u1,u2].toArray } }:=I1.kept (t':=s1.toks) fun b o e=>aag _ e
 rw [hw]
 refine wpAny_bind (wpAny_pure ?_)
 show wpAny (model X.prog X.w) X.A (do rule "assign.swapped-stores"; let items ← unpackItems (.ref s1.heap.objs.size) 2 none; assignInOrder [fun v=>bindName X.env y v,fun v=>bindName X.env x v] items.reverse; pure Flow.next) _ _ _
 refine wpAny_bind (wpAny_rule (wpAny_bind (unpackItems_tuple (items:=#[u1,u2]) (I.ok.hd hc) (IsTup.new s1.heap _) fun h' C3=>?_)))
 have I3:=I2.kept (h':=h') (t':=s1.toks) fun b o e=>C3 b o (aaK (aaj e)) e
 show wpAny _ _ (assignInOrder [fun v=>bindName X.env y v,fun v=>bindName X.env x v] [u2,u1] >>= fun _=>pure Flow.next) _ _ _
 refine wpAny_bind (assignInOrder_cons (wpAny_bindName (gM I3 hN hj (.inl hy) rv (fun s2 I4=>?_) (.inr hy))))
 refine assignInOrder_cons (wpAny_bindName (gM I4 hN hi (.inl hx) ru (fun s3 I5=>assignInOrder_nil (wpAny_pure ?_)) (.inr hx)))
 rw [List.set_comm _ _ hij.symm] at I5
 exact ⟨_,H1,I5,q1⟩
theorem wH:∀{ns:List Int} {us:List Value},Vals (ns.map V.int) us->∃l:List (Int×Tok),us=l.map (fun p=>acX p.1 p.2)/\l.map (·.1)=ns
 | [],_,.nil=>⟨[],rfl,rfl⟩
 | n :: ns,_,.cons r q=>by
   obtain ⟨t,rfl⟩:=r
   obtain ⟨l,rfl,rfl⟩:=wH q
   exact ⟨(n,t) :: l,rfl,rfl⟩
theorem xH (hc:X.calm=true):dC X (.builtin "sum") (fun xs H Q=>∃(l:Addr) (ns:List Int),xs=[.ref l]/\ao X.K H l (ns.map V.int)/\Q (.int ns.sum) H):=by
 intro pins s σ H xs us Q I r h
 obtain ⟨l,ns,rfl,hq,q⟩:=h
 obtain ⟨u,rfl,ru⟩:=vals1 r
 obtain rfl:u=aax l:=ru
 obtain ⟨its,rv,pl,_⟩:=I.list hq
 obtain ⟨ps,e1,e2⟩:=wH rv
 have hl:s.heap.IsList l (intItems ps.toArray):=by
   have:=pl.isList
   rw [e1] at this
   simpa [intItems] using this
 refine sum_intListG (I.ok.hd hc) hl fun h' tk t' k=>⟨.int ns.sum,H,I.kept k,⟨t',?_⟩,q⟩
 have e3:preSum (numAt ps.toArray) ps.toArray.size=ns.sum:=by
   rw [preSum_eq,aaS (by simp),← e2]
 rw [e3]
end
end L2
namespace L3
open PySem PySem.Spec PyProof.Rows L2
section
variable {X:Cx}{a b c e o:Expr}{es:List Expr}{ta tb tc te:TE}{t:TA}{pos:Pos}
theorem Rm (i j:Nat){x y:Str}{px py pt:Pos}{kt k2 JD}(hN:X.N.Nodup)(ha:SA X [a,b] t)(hi:X.N[i]? = some x:=by rfl)(hj:X.N[j]? = some y:=by rfl)(hij:i≠j:=by decide)
   (hx:X.env.scope.names.lookup x=some .local:=by rfl) (hy:X.env.scope.names.lookup y=some .local:=by rfl)
   (hw:adl [.Tuple [.Name x px,.Name y py] kt pt] (.Tuple [a,b] k2 JD) X.env=pure (some [x,y]):=by rfl)
   (hs:adk [.Tuple [.Name x px,.Name y py] kt pt] (.Tuple [a,b] k2 JD) pos.line X.env=pure false:=by rfl) (hc:X.calm=true:=by rfl) :
   SS X (.Assign [.Tuple [.Name x px,.Name y py] kt pt] (.Tuple [a,b] k2 JD) pos) (GN i j t):=⟨E4 hc hN hi hj hij hx hy ha.h.pa hw hs⟩
theorem K1 (hc:X.calm=true:=by rfl):SC X (.builtin "max") (fun xs H Q=>∃i j,xs=[.int i,.int j]/\Q (.int (if j > i then j else i)) H):=⟨xF hc⟩
theorem K4 {KK:aac}(hc:X.calm=true:=by rfl)(hK:X.K=KK:=by first | exact bz | rfl):SC X (.builtin "sum") (fun xs H Q=>∃(l:Addr) (ns:List Int),xs=[.ref l]/\ao KK H l (ns.map V.int)/\Q (.int ns.sum) H):=by
 subst hK
 exact ⟨xH hc⟩
theorem Y8 {KK:aac}(ha:SE X a ta)(he:∀whole,isTrue a X.env whole=(do let v ← whole; standAt a.pos; holding [v] (truthy v)):=by intro _; rfl)(hK:X.K=KK:=by first | exact bz | rfl) :
   ST X a (fun σ H Q=>ta σ H fun x H'=>∃k,G1 KK x H' k/\Q k H'):=by
 subst hK
 exact ⟨B4 ha.h he⟩
end
end L3
namespace TW
def bH (sd:List Int)(rd:Option (List Int))(i:Nat):Option Int:=if i < sd.length then sd[i]? else
 match rd with
 | none=>none
 | some xs=>if xs.length=0 then none else xs[(i - sd.length) % xs.length]?
def rep (n:Nat)(xs:List Int):List Int:=(aaD n xs).flatten
theorem nH (n:Nat)(xs:List Int):rep (n + 1) xs=rep n xs++xs:=by
 unfold rep
 rw [List.replicate_succ',aaO,List.flatten_singleton]
theorem l7 (n:Nat)(xs:List Int):(rep n xs).length=n * xs.length:=by
 induction n with
 | zero=>unfold rep; simp
 | succ n ih=>rw [nH,aae,ih,adg]
theorem xb {xs:List Int}:∀{n j:Nat},j < n * xs.length->(rep n xs)[j]? = xs[j % xs.length]?
 | 0,j,h=>by omega
 | n + 1,j,h=>by
   rw [nH]
   by_cases hj:j < n * xs.length
   · rw [aaV (by rw [l7]; exact hj)]
     exact xb hj
   · rw [aba (by rw [l7]; omega),l7]
     rw [adg] at h
     have e:j % xs.length=j - n * xs.length:=by
       obtain ⟨c,hc⟩ : ∃c,c=j - n * xs.length:=⟨_,rfl⟩
       have h1:j=c + xs.length * n:=by rw [aec xs.length n]; omega
       rw [← hc,h1,Nat.add_mul_mod_self_left,Nat.mod_eq_of_lt (by omega)]
     rw [e]
theorem CQ {sd xs:List Int}{k i:Nat}(h:i < (sd++rep k xs).length):(sd++rep k xs)[i]? = bH sd (some xs) i:=by
 unfold bH
 by_cases hi:i < sd.length
 · rw [if_pos hi,aaV hi]
 · rw [aae,l7] at h
   have hx:¬ xs.length=0:=fun z=>by rw [z] at h; omega
   rw [if_neg hi,aba (by omega)]
   show _=if xs.length=0 then none else xs[(i - sd.length) % xs.length]?
   rw [if_neg hx,xb (by omega)]
def eP (sd:List Int)(rd:Option (List Int))(m:Nat)(fs:List Int):Prop:=∀i,fs[i]? = if i < m then bH sd rd i else none
theorem mG {sd:List Int}{rd:Option (List Int)}{m:Nat}(h:rd.getD []=[]):eP sd rd m (sd.take m):=fun i=>by
 rw [ac2]
 by_cases hi:i < m
 · rw [if_pos hi,if_pos hi]
   unfold bH
   by_cases hs:i < sd.length
   · rw [if_pos hs]
   · rw [if_neg hs,ab3 (by omega)]
     cases rd with
     | none=>rfl
     | some xs=>
       have:xs=[]:=h
       subst this
       rfl
 · rw [if_neg hi,if_neg hi]
theorem ub {sd xs:List Int}{m k:Nat}(h:m<=(sd++rep k xs).length):eP sd (some xs) m ((sd++rep k xs).take m):=fun i=>by
 rw [ac2]
 by_cases hi:i < m
 · rw [if_pos hi,if_pos hi]
   exact CQ (by omega)
 · rw [if_neg hi,if_neg hi]
theorem eP.len {sd:List Int}{rd:Option (List Int)}{m:Nat}{fs:List Int}(h:eP sd rd m fs):fs.length<=m:=by
 by_cases z:fs.length<=m
 · exact z
 · have:=h m
   rw [if_neg (by omega),adG] at this
   omega
theorem eP.at {sd:List Int}{rd:Option (List Int)}{m:Nat}{fs:List Int}(h:eP sd rd m fs){i:Nat}(hi:i < m):bH sd rd i=fs[i]?:=by
 rw [h i,if_pos hi]
def tK (sd:List Int)(rd:Option (List Int))(sd':List Int)(rd':Option (List Int)):Prop:=(∀i,bH sd rd i=bH sd' rd' i)/\rd.isNone=rd'.isNone
def Dd (sd:List Int)(rd:Option (List Int))(sd':List Int)(rd':Option (List Int))(n:Nat):Prop:=
 (∀i,i < n->bH sd rd i=bH sd' rd' i/\(bH sd rd i).isSome=true)/\¬ (bH sd rd n=bH sd' rd' n/\(bH sd rd n).isSome=true)
def jG (sd:List Int)(rd:Option (List Int))(sd':List Int)(rd':Option (List Int)):Nat:=max sd.length sd'.length + ((rd.getD []).length + (rd'.getD []).length)
theorem gA {sd:List Int}{rd:Option (List Int)}(h:(rd.getD []).length=0){i:Nat}(hi:sd.length<=i):bH sd rd i=none:=by
 unfold bH
 rw [if_neg (by omega)]
 cases rd with
 | none=>rfl
 | some xs=>
   show (if xs.length=0 then none else xs[(i - sd.length) % xs.length]?)=none
   rw [if_pos (show xs.length=0 from h)]
theorem pf {sd:List Int}{rd:Option (List Int)}(h:0 < (rd.getD []).length)(i:Nat):(bH sd rd i).isSome=true:=by
 unfold bH
 by_cases hi:i < sd.length
 · rw [if_pos hi,aad hi]
   rfl
 · rw [if_neg hi]
   cases rd with
   | none=>simp at h
   | some xs=>
     have h':0 < xs.length:=h
     show (if xs.length=0 then none else xs[(i - sd.length) % xs.length]?).isSome=true
     rw [if_neg (by omega),aad (Nat.mod_lt _ h')]
     rfl
theorem jJ {sd:List Int}{rd:Option (List Int)}{i:Nat}(hi:sd.length<=i):bH sd rd (i + (rd.getD []).length)=bH sd rd i:=by
 unfold bH
 rw [if_neg (by omega),if_neg (by omega)]
 cases rd with
 | none=>rfl
 | some xs=>
   show (if xs.length=0 then none else xs[(i + xs.length - sd.length) % xs.length]?)=if xs.length=0 then none else xs[(i - sd.length) % xs.length]?
   by_cases h:xs.length=0
   · rw [if_pos h,if_pos h]
   · rw [if_neg h,if_neg h,show i + xs.length - sd.length=(i - sd.length) + xs.length by omega,Nat.add_mod_right]
theorem Fl {sd:List Int}{rd:Option (List Int)}{sd':List Int}{rd':Option (List Int)}{m:Nat}(hm:jG sd rd sd' rd'<=m)(h:∀i,i < m->bH sd rd i=bH sd' rd' i)(i:Nat):bH sd rd i=bH sd' rd' i:=by
 unfold jG at hm
 have h1:=Nat.le_max_left sd.length sd'.length
 have h2:=Nat.le_max_right sd.length sd'.length
 by_cases ha:(rd.getD []).length=0
 · by_cases hb:(rd'.getD []).length=0
   · by_cases hi:i < m
     · exact h i hi
     · rw [gA ha (by omega),gA hb (by omega)]
   · have q:=h (max sd.length sd'.length) (by omega)
     rw [gA ha h1] at q
     have:=pf (sd:=sd') (rd:=rd') (by omega) (max sd.length sd'.length)
     rw [← q] at this
     cases this
 · by_cases hb:(rd'.getD []).length=0
   · have q:=h (max sd.length sd'.length) (by omega)
     rw [gA hb h2] at q
     have:=pf (sd:=sd) (rd:=rd) (by omega) (max sd.length sd'.length)
     rw [q] at this
     cases this
   · induction i using adA with
     | _ i ih=>
       by_cases hi:i < m
       · exact h i hi
       · have e1:bH sd rd i=bH sd rd (i - (rd.getD []).length):=by
           have:=jJ (sd:=sd) (rd:=rd) (i:=i - (rd.getD []).length) (by omega)
           rwa [show i - (rd.getD []).length + (rd.getD []).length=i by omega] at this
         have e2:bH sd' rd' (i - (rd.getD []).length)=bH sd' rd' (i - (rd.getD []).length - (rd'.getD []).length):=by
           have:=jJ (sd:=sd') (rd:=rd') (i:=i - (rd.getD []).length - (rd'.getD []).length) (by omega)
           rwa [show i - (rd.getD []).length - (rd'.getD []).length + (rd'.getD []).length=i - (rd.getD []).length by omega] at this
         have e3:bH sd rd (i - (rd'.getD []).length)=bH sd rd (i - (rd.getD []).length - (rd'.getD []).length):=by
           have:=jJ (sd:=sd) (rd:=rd) (i:=i - (rd.getD []).length - (rd'.getD []).length) (by omega)
           rwa [show i - (rd.getD []).length - (rd'.getD []).length + (rd.getD []).length=i - (rd'.getD []).length by omega] at this
         have e4:bH sd' rd' i=bH sd' rd' (i - (rd'.getD []).length):=by
           have:=jJ (sd:=sd') (rd:=rd') (i:=i - (rd'.getD []).length) (by omega)
           rwa [show i - (rd'.getD []).length + (rd'.getD []).length=i by omega] at this
         rw [e1,ih _ (by omega),e2,← ih _ (by omega),← e3,ih _ (by omega),← e4]
theorem pd {sd:List Int}{rd:Option (List Int)}{m:Nat}{fs:List Int}(h:eP sd rd m fs)(hlt:fs.length < m):bH sd rd fs.length=none:=by
 rw [h.at hlt,adG]
 omega
end TW
namespace L2
open PySem PySem.Spec PyProof.Rows SeqAt
theorem all_ints {xs ys:List Int}(h:xs.length=ys.length):(aaM xs.length).all (fun j=>ko (.int (xs.getD j 0)) (.int (ys.getD j 0)))=decide (xs=ys):=by
 have key:(∀j,j < xs.length->xs.getD j 0=ys.getD j 0)↔xs=ys:=by
   constructor
   · intro k
     refine List.ext_getElem h fun j h1 h2=>?_
     have:=k j h1
     rw [aaz,aaz,aad h1,aad h2] at this
     exact this
   · intro e j _
     rw [e]
 by_cases e:xs=ys
 · rw [decide_eq_true e,ab5]
   intro j hj
   show decide (xs.getD j 0=ys.getD j 0)=true
   exact decide_eq_true (key.mpr e j (List.mem_range.mp hj))
 · rw [decide_eq_false e]
   rw [Bool.eq_false_iff]
   intro z
   rw [ab5] at z
   exact e (key.mp fun j hj=>of_decide_eq_true (show decide (xs.getD j 0=ys.getD j 0)=true from z j (List.mem_range.mpr hj)))
theorem yz {K:aac}{H:Hp}{n:Nat}{xs ys:List Int}:∀(j:Nat) (x y:V),(xs.map V.int)[j]? = some x->(ys.map V.int)[j]? = some y->EB K H n x y (ko (.int (xs.getD j 0)) (.int (ys.getD j 0))):=fun j x y hx hy=>by
 rw [aaC] at hx hy
 obtain ⟨a,ha,rfl⟩:=Option.map_eq_some_iff.mp hx
 obtain ⟨b,hb,rfl⟩:=Option.map_eq_some_iff.mp hy
 rw [aaz,aaz,ha,hb]
 exact EB.flat rfl rfl
theorem RB.ints {K:aac}{H:Hp}{n:Nat}{a b:Addr}{xs ys:List Int}(ha:H a=some (.lst (xs.map V.int)))(hb:H b=some (.lst (ys.map V.int))):RB K H n (.ref a) (.ref b) (decide (xs=ys)):=by
 by_cases hl:xs.length=ys.length
 · refine ⟨a,b,_,_,rfl,rfl,.inl ⟨_,ao.of ha,ao.of hb,by rw [aab,aab]; exact hl,yz,?_⟩⟩
   rw [aab,all_ints hl]
 · exact ⟨a,b,_,_,rfl,rfl,.inr (.inl ⟨ao.of ha,ao.of hb,by rw [aab,aab]; exact hl,decide_eq_false fun z=>hl (by rw [z])⟩)⟩
end L2
namespace L3
open PySem PySem.Spec PyProof.Rows L2
end L3
namespace TW
end TW
namespace TW
end TW
namespace L2
open PySem PySem.Spec PyProof.Rows
section
variable {X:Cx}
theorem qT:∀{bs:List Bool} {us:List Value},Vals (bs.map V.bl) us->us=bs.map aby
 | [],_,.nil=>rfl
 | b :: bs,_,.cons r q=>by
   cases r
   rw [qT q]
   rfl
theorem xC (hc:X.calm=true):dC X (.builtin "all") (fun xs H Q=>∃(l:Addr) (bs:List Bool),xs=[.ref l]/\ao X.K H l (bs.map V.bl)/\Q (.bl (bs.all id)) H):=by
 intro pins s σ H xs us Q I r h
 obtain ⟨l,bs,rfl,hq,q⟩:=h
 obtain ⟨u,rfl,ru⟩:=vals1 r
 obtain rfl:u=aax l:=ru
 obtain ⟨its,rv,pl,_⟩:=I.list hq
 have e1:=qT rv
 subst e1
 have hl:=pl.isList
 have hlt:l < s.heap.objs.size:=by obtain ⟨_,e,_⟩:=hl; exact aaj e
 refine call_all_walk (wpAny_pyIter_list hl ?_)
 refine ⟨_,_,_,_,_,_,fun i=>bs.getD i true,rfl,Walks.list (A:=X.A.in1) (show X.A.in1.handled=none from I.ok.hd hc) s.heap.objs.size l (aaK hlt) (bs.map aby).toArray,⟨⟨_,aaE _ rfl,rfl,rfl⟩,hl.push _⟩,?_,fun h' tk hk=>?_⟩
 · intro i v s' Q' E' hP WJ
   have hv:bs[i]?.map aby=some v:=by simpa using hP
   obtain ⟨b,hb,rfl⟩:=Option.map_eq_some_iff.mp hv
   have To:Q' (bs.getD i true) s':=WJ
   rw [aaz,hb] at To
   exact wpAny_truthy_bool To
 · have kk:∀b o,s.heap.get? b=some o->h'.get? b=some o:=old_kept hk
   refine ⟨.bl (bs.all id),H,I.kept kk,?_,q⟩
   have e:(aaM (bs.map aby).toArray.size).all (fun i=>bs.getD i true)=bs.all id:=by
     rw [show (bs.map aby).toArray.size=bs.length by simp]
     have key:(∀i,i < bs.length->bs.getD i true=true)↔∀b∈bs,b=true:=by
       constructor
       · intro k b hb
         obtain ⟨i,hi,e⟩:=acd hb
         have:=k i hi
         rw [aaz,aad hi] at this
         rw [← e]
         exact this
       · intro k i hi
         rw [aaz,aad hi]
         exact k _ (acA hi)
     rw [abg,ab5,ab5]
     exact ⟨fun k b hb=>key.mp (fun i hi=>k i (List.mem_range.mpr hi)) b hb,fun k i hi=>key.mpr (fun b hb=>k b hb) i (List.mem_range.mp hi)⟩
   rw [e]
   rfl
end
end L2
namespace L3
open PySem PySem.Spec PyProof.Rows L2
theorem FF {X:Cx}{KK:aac}(hc:X.calm=true:=by rfl)(hK:X.K=KK:=by first | exact bz | rfl):SC X (.builtin "all") (fun xs H Q=>∃(l:Addr) (bs:List Bool),xs=[.ref l]/\ao KK H l (bs.map V.bl)/\Q (.bl (bs.all id)) H):=by
 subst hK
 exact ⟨xC hc⟩
end L3
namespace L2
open PySem PySem.Spec PyProof.Rows SeqAt
theorem aP.Za {P:Program}{w:World}{K:aac}{mg:Str->Option Value}{base:Heap}{CX:vV}{k:Nat}{f:Addr}{fd:aao}{ps:List Str}{sp:Sp}(F:aP P w K mg base cO k f fd ps sp):aP P w K mg base CX k f fd ps sp:=
 ⟨F.len,fun A outer s H args us vs Q E hr he hb hv hs=>codeAny_mono (F.run A outer s H args us vs Q E hr he hb hv hs) fun r s' h=>by
   cases r with
   | error e=>exact h.elim
   | ok f=>
     cases f with
     | ret u=>exact h
     | _=>exact h.elim⟩
theorem aP.or {P:Program}{w:World}{K:aac}{mg:Str->Option Value}{base:Heap}{CX:vV}{k:Nat}{f:Addr}{fd:aao}{ps:List Str}{sp UM:Sp}(F:aP P w K mg base CX k f fd ps sp)(F':aP P w K mg base CX k f fd ps UM):aP P w K mg base CX k f fd ps (fun vs H Q E=>sp vs H Q E\/UM vs H Q E):=
 ⟨fun vs H Q E h=>h.elim (F.len vs H Q E) (F'.len vs H Q E),fun A outer s H args us vs Q E hr he hb hv hs=>hs.elim (F.run A outer s H args us vs Q E hr he hb hv) (F'.run A outer s H args us vs Q E hr he hb hv)⟩
section
variable {K:aac}{H:Hp}{α:Type}[DecidableEq α]{At:V->α->Prop}{n:Nat}
theorem nC:∀{vx vy:List V} {xs ys:List α},Paired At vx xs->Paired At vy ys->vx.length=vy.length->(∀u v x y,At u x->At v y->EB K H n u v (decide (x=y))) ->
   ∃e:Nat->Bool,(∀j x y,vx[j]? = some x->vy[j]? = some y->EB K H n x y (e j))/\(aaM vx.length).all e=decide (xs=ys)
 | [],[],_,_,.nil,.nil,_,_=>⟨fun _=>true,(fun j x y h=>by cases j <;> cases h),rfl⟩
 | u :: vx,v :: vy,x :: xs,y :: ys,.cons h1 r1,.cons h2 r2,hl,k=>by
   obtain ⟨e,he,ha⟩:=nC r1 r2 (by simpa using hl) k
   refine ⟨fun j=>match j with | 0=>decide (x=y) | j + 1=>e j,fun j a b hx hy=>?_,?_⟩
   · cases j with
     | zero=>
       cases hx
       cases hy
       exact k u v x y h1 h2
     | succ j=>exact he j a b hx hy
   · rw [aay,adT,ac4,List.all_map]
     show (decide (x=y) && (aaM vx.length).all e)=_
     rw [ha]
     by_cases c:x=y <;> by_cases d:xs=ys <;> simp [c,d]
theorem RB.told {a b:Addr}{vx vy:List V}{xs ys:List α}(ha:H a=some (.lst vx))(hb:H b=some (.lst vy))(px:Paired At vx xs)(py:Paired At vy ys)(k:∀u v x y,At u x->At v y->EB K H n u v (decide (x=y))):RB K H n (.ref a) (.ref b) (decide (xs=ys)):=by
 have lx:=Paired.length px
 have ly:=Paired.length py
 by_cases hl:vx.length=vy.length
 · obtain ⟨e,h1,h2⟩:=nC px py hl k
   exact ⟨a,b,_,_,rfl,rfl,.inl ⟨e,ao.of ha,ao.of hb,hl,h1,h2.symm⟩⟩
 · exact ⟨a,b,_,_,rfl,rfl,.inr (.inl ⟨ao.of ha,ao.of hb,hl,decide_eq_false fun z=>hl (by rw [lx,ly,z])⟩)⟩
end
theorem dF {α:Type}(c:α->V):∀xs:List α,Paired (fun v x=>v=c x) (xs.map c) xs
 | []=>.nil
 | _ :: r=>.cons rfl (dF c r)
theorem RB.strs {K:aac}{H:Hp}{n:Nat}{a b:Addr}{xs ys:List Str}(ha:H a=some (.lst (xs.map V.str)))(hb:H b=some (.lst (ys.map V.str))):RB K H n (.ref a) (.ref b) (decide (xs=ys)):=
 RB.told ha hb (dF V.str xs) (dF V.str ys) fun u v x y h1 h2=>by
   subst h1
   subst h2
   have e:ko (.str x) (.str y)=decide (x=y):=by
     show (x == y)=_
     rw [abg,beq_iff_eq,decide_eq_true_iff]
   rw [← e]
   exact EB.flat rfl rfl
theorem RB.Sz {K:aac}{H:Hp}{n:Nat}{a b:Addr}{xs ys:List Bool}(ha:H a=some (.lst (xs.map V.bl)))(hb:H b=some (.lst (ys.map V.bl))):RB K H n (.ref a) (.ref b) (decide (xs=ys)):=
 RB.told ha hb (dF V.bl xs) (dF V.bl ys) fun u v x y h1 h2=>by
   subst h1
   subst h2
   have e:ko (.bl x) (.bl y)=decide (x=y):=by
     cases x <;> cases y <;> rfl
   rw [← e]
   exact EB.flat rfl rfl
theorem EB.pair {K:aac}{H:Hp}{n:Nat}{p q:Addr}{a b:Str}{x y:V}(hp:H p=some (.tup [.str a,x]))(hq:H q=some (.tup [.str b,y]))(fx:cp x=true)(fy:cp y=true)(hs:ko x x=true):EB K H (n + 1) (.ref p) (.ref q) (decide (a=b) && ko x y):=by
 by_cases e:p=q
 · subst e
   rw [hp] at hq
   cases hq
   rw [decide_eq_true rfl,hs]
   exact .same
 · have k:=EB.tup (K:=K) (H:=H) (n:=n) (e:=fun j=>match j with | 0=>ko (.str a) (.str b) | _=>ko x y) e (aK.of hp) (aK.of hq) (fun j u v hu hv=>by
     match j,hu,hv with
     | 0,hu,hv=>cases hu; cases hv; exact EB.flat rfl rfl
     | 1,hu,hv=>cases hu; cases hv; exact EB.flat fx fy)
   have e:((aaM (min [V.str a,x].length [V.str b,y].length)).all (fun j=>match j with | 0=>ko (.str a) (.str b) | _=>ko x y) && [V.str a,x].length == [V.str b,y].length)=(decide (a=b) && ko x y):=by
     show (((a == b) && (ko x y && true)) && true)=_
     rw [adO,adO]
     congr 1
   rw [e] at k
   exact k
structure qL (k:Nat)(A:Around):Prop where
 dp:A.depth + 3 * k + 5 < ad4
 un:A.units + 16 * k + 200 < cLine
theorem dt.h {k:Nat}{A:Around}(r:dt k A)(e:Option Value):qL k (A.mark e):=⟨r.dp,r.un⟩
abbrev OZ (P:Program)(w:World)(K:aac)(mg:Str->Option Value)(base:Heap)(N:List Str)(qual:Str)(scope:Scope)(f:Addr)(cd:Value)(A:Around)(outer:List Env)(s:Shared)(H:Hp)(E:XK):Cx:=
 { hV cO P w K mg base N qual scope f cd A outer s H E with calm:=false,xe:=fun _ _=>False }
structure mw (P:Program)(w:World)(K:aac)(mg:Str->Option Value)(base:Heap)(k:Nat)(f:Addr)(fd:aao)(ps:List Str)(sp:Sp):Prop where
 len:∀vs H Q E,sp vs H Q E->vs.length=ps.length
 run:∀(A:Around) (outer:List Env) (s:Shared) (H:Hp) (args:Args) (us:List Value) (vs:List V) (Q:VK) (E:XK),qL k A->xA P w K mg base A outer s H->BindsTo s fd args (ps.zip us)->Vals vs us->sp vs H Q E ->
   codeAny (model P w) A (.call (.ref f) args) (CR cO outer P w H s Q E) s
theorem mw.mono {P:Program}{w:World}{K:aac}{mg:Str->Option Value}{base:Heap}{j k:Nat}{f:Addr}{fd:aao}{ps:List Str}{sp:Sp}(F:mw P w K mg base j f fd ps sp)(h:j<=k):mw P w K mg base k f fd ps sp:=
 ⟨F.len,fun A outer s H args us vs Q E hr=>F.run A outer s H args us vs Q E ⟨by have:=hr.dp; omega,by have:=hr.un; omega⟩⟩
section
variable {P:Program}{w:World}{K:aac}{mg:Str->Option Value}{base:Heap}
theorem cJ.YA {x qual:Str}{st:Stmt}{f:Addr}{fd:aao}{N ps:List Str}{k:Nat}{sp:Sp}(F:cJ K x qual st f fd)(S:aD N ps (ag st))(len:∀vs H Q E,sp vs H Q E->vs.length=ps.length)
   (hbody:∀(cdv:Value) (A:Around) (outer:List Env) (s:Shared) (H:Hp) (vs:List V) (Q:VK) (E:XK),qL k (A.deeper (envOfC qual (ag st) s.heap.objs.size f cdv))->sp vs H Q E ->
     ∃t,n8 (OZ P w K mg base N qual (ag st) f cdv A outer s H E) (bO st) t/\t { nx:=fun _ H'=>Q .bN H',rt:=Q } (start N vs) H):mw P w K mg base (k + 1) f fd ps sp:=by
 obtain ⟨oc,od,kV,doc,pm,an,cdv,ct,osl,rfl,lk,hcd⟩:=F.ex
 refine ⟨len,fun A outer s H args us vs Q E hr e0 hb r hsp=>?_⟩
 have hl:=len _ _ _ _ hsp
 have kb:=fun b o e=>(e0.bs b o e).1
 have KX:K.In s.heap:=e0.mod.kin.keeps kb
 have lim:s.heap.NoLimit:=e0.mod.nolimit.keeps kb
 have hk:∀y∈ps.zip us,(ag st).names.lookup y.1=some .local\/((ag st).names.lookup y.1=some .cell/\((cellsFrom (s.heap.objs.size + 1) (ag st).names []).lookup y.1).isSome=true):=fun ⟨n,v⟩ hy=>
   (S.par n (abE hy).1).elim .inl fun q=>.inr ⟨q,acu _ _ _ (.inl q)⟩
 refine codeAny_call_function (by have:=hr.dp; omega) (KX _ _ lk) rfl S.co S.gen rfl (ad1 KX hcd) (hb _ _ _ _ ?_)
 refine adZ S.kind hk fun env he s1 z=>?_
 subst he
 refine ⟨lim.keeps z.toInCall.keep,codeAny_func ?_⟩
 obtain ⟨t,ht,hq⟩:=hbody cdv A outer s H vs Q E ⟨by have:=hr.dp; show A.depth + 1 + 3 * k + 5 < _; omega,by have:=hr.un; show A.units + 3 + 16 * k + 200 < _; omega⟩ hsp
 have e1:xA P w K mg base ({ A with handled:=none }:Around) outer s H:=⟨e0.frames,e0.mod,e0.bs,e0.bsz,e0.hW,e0.frf,e0.hok,e0.bare⟩
 have I0:=oW (CX:=cO) (qual:=qual) (f:=f) (cd:=cdv) (E:=E) S (show ({ A with handled:=none }:Around).handled=none from rfl) e1 hl r z
 have I:Inv (OZ P w K mg base N qual (ag st) f cdv A outer s H E) [] (start N vs) H s1:=
   ⟨⟨I0.ok.mod,I0.ok.kind,I0.ok.glob,I0.ok.blt,I0.ok.above,I0.ok.inj,I0.ok.has,I0.ok.cab,(fun z=>nomatch z),adY e0.frames,I0.ok.stk,I0.ok.exf,I0.ok.bs,I0.ok.bsz,I0.ok.noex,I0.ok.exfs,I0.ok.hW,I0.ok.frf⟩,I0.os,I0.bare,I0.base,I0.loc,I0.cell,I0.free,I0.freeC,I0.pin,I0.hok,I0.len⟩
 refine wpAny_mono (ht [] s1 (start N vs) H _ I hq) (fun fl s' hs=>?_) fun e s' hs=>hs.elim
 have fin:∀{σ':St} {H':Hp} {v:V} {u:Value},Inv (OZ P w K mg base N qual (ag st) f cdv A outer s H E) [] σ' H' s'->RelV v u->Q v H'->CE outer P w H s Q u s':=
   fun {σ' H' v u} J rv q=>⟨v,H',J.os,J.bare,J.base,J.hok,rv,q⟩
 cases fl with
 | ret u=>
   obtain ⟨v,σ',H',J,rv,q⟩:=hs
   exact fin J rv q
 | next=>
   obtain ⟨σ',H',J,q⟩:=hs
   exact fin (v:=V.bN) (u:=ac5) J rfl q
 | brk=>obtain ⟨_,_,_,q⟩:=hs; exact q.elim
 | cont=>obtain ⟨_,_,_,q⟩:=hs; exact q.elim
end
section
variable {X:Cx}{k:Nat}{f:Addr}{fd:aao}{ps:List Str}{sp:Sp}{x:Str}{p pos:Pos}{e:Expr}{es:List Expr}{t:TA}
theorem BJ (F:mw X.prog X.w X.K X.mg X.base k f fd ps sp)(hr:qL k X.A)(hg:Gl X x)(hm:X.mg x=some (.ref f))(hk:abc X.K (.ref f)=true)(hb:Binds X.K fd ps [])
   (ha:PA X (e :: es) t) (hdb:(x == ("__debug__":Str))=false:=by decide) (he:starEach (e :: es) X.env=(false,eval e X.env) :: starEach es X.env:=by rfl) (hpl:(backTo pos (starEach es X.env)).any (·.1)=false:=by rfl) :
   PE X (.Call (.Name x p) (e :: es) [] pos) (nW sp [] E0 t):=by
 intro pins s σ H Q I h
 refine wpAny_Call_Name_kw (jF I hg hm ?_ hdb)
 refine ad2 (h₀:=X.base) I.ok.mod.kin hk (bt (ha pos pins s σ H _ I h) fun us s1 ⟨vs,H1,I1,r,q⟩=>⟨I1.lY,?_⟩) he hpl
 have q':sp vs H1 Q E0:=by have z:sp (vs++[]) H1 Q E0:=q; rw [aaJ] at z; exact z
 have hl:us.length=ps.length:=by rw [← r.length]; exact F.len _ _ _ _ q'
 have FT:=hb s1 us I1.lY (by rw [aaJ]; exact hl)
 rw [aaJ] at FT
 refine wpAny_call (codeAny_mono (F.run X.A X.stack s1 H1 ⟨us,[]⟩ us vs Q E0 hr I1.Lb FT r q') fun r s' hq=>?_)
 cases r with
 | error e=>exact abq hq
 | ok fl=>
   cases fl with
   | ret u=>exact I1.after hq
   | next=>exact abq hq
   | brk=>exact abq hq
   | cont=>exact abq hq
end
def GQ (K:aac)(mg:Str->Option Value)(T:Addr)(n ie:Nat)(tb:XK->TS)(th:TS):TS:=fun D σ H=>tb (fun cls _ H2=>∃C tl x,cls=.ref C/\Xc K mg x C tl/\(aax C :: tl).contains (.ref T)=true/\∀ea,H2 ea=none->th { nx:=fun σ8 H8=>D.nx (σ8.set ie none) H8,rt:=fun _ _=>False } ((aaD n none).set ie (some (.ref ea))) (upd H2 ea (zy ea C))) D σ H
theorem E5 {X:Cx}{tn en:Str}{T:Addr}{ie:Nat}{body fI:List Stmt}{hst0:Stmt}{tb:XK->TS}{th:TS}{np hp pos:Pos}(hst:X.stack=X.env :: X.outer)(hex:X.ex=[])(hfr:X.env.frame=some X.env.locals)(hN:X.N.Nodup)(hie:X.N[ie]? = some en)
   (hle:X.env.scope.names.lookup en=some .local) (cT:Xc X.K X.mg tn T vE) (hg:Gl X tn)
   (hb:∀(W:Value->Shared->Prop) (pn:List (Addr×Obj)) (Ex:XK),Passes (lC X.prog X.w X.base) { X with xe:=W,pn:=pn } Ex->n8 { X with xe:=W,pn:=pn } body (tb Ex))
   (hh:∀ea:Addr,n8 { X with A:=X.A.mark (some (.ref ea)),calm:=false,xe:=fun _ _=>False } (hst0 :: fI) th) (hdt:(tn == ("__debug__":Str))=false) :
   PS X (.Try body [.ExceptHandler (some (.Name tn np)) (some en) (hst0 :: fI) hp] [] [] pos) (GQ X.K X.mg T X.N.length ie tb th):=by
 intro pins s σ H D I h
 let Hd:List ExceptHandler:=[.ExceptHandler (some (.Name tn np)) (some en) (hst0 :: fI) hp]
 let W:Value->Shared->Prop:=fun e s1=>wpAny (model X.prog X.w) X.A (noteFrame e X.env) (fun _ s2=>wpAny (model X.prog X.w) X.A (setFlight e none) (fun _ s3=>wpAny (model X.prog X.w) X.A (handleBy e X.env Hd) (SP X pins D) X.xe s3) X.xe s2) X.xe s1
 have RS:∀p∈(X.pn++pins)++[],p∈X.pn++pins:=fun p hp=>by rw [aaJ] at hp; exact hp
 have back:∀{σ1:St} {H1:Hp} {s1:Shared} {Gp:List (Addr×Obj)},Inv { X with xe:=W,pn:=X.pn++pins } Gp σ1 H1 s1->Inv X pins σ1 H1 s1:=fun J=>J.back fun p hp=>abK _ hp
 refine wpAny_Try_except ?_
 refine wpAny_mono (hb W (X.pn++pins) _ ?_ [] s σ H D (I.other RS) h) (fun f s1 hs=>?_) (fun e s1 he=>he)
 · -- an exception of a callee
   intro Gp σ1 H1 s1 e s2 J cx
   obtain ⟨ea,cls,a0,B,H2,rfl,Ri,zP,CK,HZ,Oy,Af,inB,zm,Of,C,tl,x,rfl,xc,hup,q⟩:=cx
   have J0:=back J
   have QD:({ X with xe:=W,pn:=X.pn++pins }:Cx).stack=X.env :: X.outer:=hst
   rw [QD] at CK Af inB
   have NX:=Af.2.2.1
   have at_:∀h3:Heap,B.StaysIn h3->s2.heap.UpToSlots h3->Inv X pins σ1 H2 { s2 with heap:=h3 }:=fun h3 s3 up=>by
     refine J0.FH (s':={ s2 with heap:=h3 }) (ch:=[]) Ri ?_ (kT HZ zm Af.1 s3) zP (fun b z=>nomatch z)
     rw [hst]
     exact CL CK Af.1 s3 inB (Cr NX up)
   have n2:H2 ea=none:=by
     cases z:H2 ea with
     | none=>rfl
     | some u=>
       obtain ⟨o,ho⟩:=zm ea u z
       rw [Af.2.1] at ho
       cases ho
   show wpAny (model X.prog X.w) X.A (noteFrame (.ref ea) X.env) _ _ _
   have V0:X.A.frames=some (X.env :: X.outer):=by rw [← hst]; exact I.ok.frames
   refine wpAny_looks_onW V0 hfr Af fun h4 Lz Zb=>?_
   refine wpAny_landsW Lz fun h5 Hs Zc=>?_
   have Nu:=Zb.trans Zc
   have I5:=at_ h5 Hs.1 Nu
   refine wpAny_handleBy_cons (codeAny_handlers_test (jF (I5.mark (e:=some (.ref ea))) hg cT.m ?_ hdt)) (by intro z; cases z)
   obtain ⟨N1,a1,a2,a3,a4,a5,a6,a7,a8,a9,b0,b1,b2,b3,b5,m1,hC,_,_,_⟩:=xc.obj I5.lY
   obtain ⟨N2,c1,c2,c3,c4,c5,c6,c7,c8,c9,d0,d1,d2,d3,d5,m2,hT,_,_,_⟩:=cT.obj I5.lY
   obtain ⟨ob,Xv,Qm⟩:=Hs.there
   refine uU hC hT Xv Qm hup rfl (codeAny_handlers_suite_as ?_)
   refine lands_againW Hs fun h6 Lg Zd=>?_
   have I6:=at_ h6 Lg.1 (Nu.trans Zd)
   have VN:lD ea C h6:=Lg.there
   have ne_of1:∀b o,s1.heap.get? b=some o->b≠ea:=fun b o hb z=>by rw [z,Of] at hb; cases hb
   have Va:=I6.Nr n2 VN (by
     cases z:X.s₀.heap.get? ea with
     | none=>rfl
     | some o=>
       by_cases hx:ea∈X.ex
       · rw [hex] at hx
         exact nomatch hx
       · obtain ⟨o',e1⟩:=J0.base.there ea o z hx
         rw [Of] at e1
         cases e1) (by
     obtain ⟨m,⟨o,_,_,ho,_⟩,_⟩:=J0.loc
     exact (ne_of1 _ o ho).symm) (fun y c e=>by
     obtain ⟨v,o,ho,_⟩:=J0.cell y c e
     exact ne_of1 c o ho) (fun p hp=>ne_of1 p.1 p.2 (J0.pin p hp).1)
   refine gM Va hN hie (.inl hle) (v:=.ref ea) rfl (fun s7 I7=>?_) (.inr hle)
   have hlenσ:σ1.length=X.N.length:=J0.len
   have HR:ie < σ1.length:=by rw [hlenσ]; exact (List.getElem?_eq_some_iff.mp hie).1
   have Vb:=I7.weak (σ':=(aaD X.N.length none).set ie (some (.ref ea))) (by rw [acb,acb,acH,hlenσ]) (fun i v e=>by
     by_cases hi:i=ie
     · subst hi
       rw [abA (by rw [acH,← hlenσ]; exact HR)] at e
       rw [abA HR]
       exact e
     · rw [ab7 (Ne.symm hi),adM] at e
       split at e <;> cases e)
   refine wpAny_mono (hh ea pins s7 _ _ _ (Vb.mark (e:=some (.ref ea))) (q ea n2)) (fun f s8 hs=>?_) (fun _ _ z=>z.elim)
   cases f with
   | next=>
     obtain ⟨σ8,H8,I8,z8⟩:=hs
     have OL:=I6.unmark I8
     obtain ⟨m8,Xr,Xk⟩:=id OL.loc
     refine wpAny_nameGoes_keeps (by exact hle) Xr (by rw [I.ok.kind]; rfl) fun h9 v9 Xs XJ=>?_
     refine ⟨_,_,OL.forget (σ':=σ8.set ie none) Xk Xs XJ (by rw [acb]) (fun i v e=>?_),z8⟩
     have l8:σ8.length=X.N.length:=OL.len
     by_cases hi:i=ie
     · subst hi
       rw [abA (by rw [l8,← hlenσ]; exact HR)] at e
       cases e
     · rw [ab7 (Ne.symm hi)] at e
       refine ⟨e,fun z=>hi ?_⟩
       obtain ⟨h1,e1⟩:=List.getElem?_eq_some_iff.mp z
       obtain ⟨h2,e2⟩:=List.getElem?_eq_some_iff.mp hie
       rcases Nat.lt_trichotomy i ie with c | c | c
       · exact absurd (e1.trans e2.symm) (List.pairwise_iff_getElem.mp hN i ie h1 h2 c)
       · exact c
       · exact absurd (e2.trans e1.symm) (List.pairwise_iff_getElem.mp hN ie i h2 h1 c)
   | brk=>obtain ⟨_,_,_,z⟩:=hs; exact z.elim
   | cont=>obtain ⟨_,_,_,z⟩:=hs; exact z.elim
   | ret u=>obtain ⟨_,_,_,_,_,z⟩:=hs; exact z.elim
 · cases f with
   | next=>
     obtain ⟨σ',H',J,z⟩:=hs
     exact acn ⟨σ',H',back J,z⟩
   | brk=>obtain ⟨σ',H',J,z⟩:=hs; exact ⟨σ',H',back J,z⟩
   | cont=>obtain ⟨σ',H',J,z⟩:=hs; exact ⟨σ',H',back J,z⟩
   | ret u=>obtain ⟨v,σ',H',J,r,z⟩:=hs; exact ⟨v,σ',H',back J,r,z⟩
end L2
namespace TW
open PySem L2
def pL (P:Program)(w:World)(K:aac)(mg:Str->Option Value)(base:Heap)(x:Str)(ps:List Str)(k:Nat)(sp:Sp):Prop:=
 ∃f fd,mw P w K mg base k f fd ps sp/\abc K (.ref f)=true/\Binds K fd ps []/\mg x=some (.ref f)
theorem pL.mono {P:Program}{w:World}{K:aac}{mg:Str->Option Value}{base:Heap}{x:Str}{ps:List Str}{j k:Nat}{sp:Sp}(h:pL P w K mg base x ps j sp)(hk:j<=k):pL P w K mg base x ps k sp:=
 let ⟨f,fd,a,b,c,d⟩:=h; ⟨f,fd,a.mono hk,b,c,d⟩
end TW
namespace L3
open PySem L2
section
variable {X:Cx}{e:Expr}{es:List Expr}{t:TA}{pos:Pos}
theorem Mu {x:Str}{p:Pos}{ps:List Str}{kk:Nat}{sp:Sp}(D:TW.pL X.prog X.w X.K X.mg X.base x ps kk sp)(hr:qL kk X.A)(hg:Gl X x)(ha:SA X (e :: es) t)(hdb:(x == ("__debug__":Str))=false:=by decide) :
   SE X (.Call (.Name x p) (e :: es) [] pos) (nW sp [] E0 t):=
 let ⟨_,_,G,kp,b,m⟩:=D
 ⟨BJ G hr hg m kp b ha.h.pa hdb ((ha.h.ns e es rfl).1.h es X.env) ((ha.h.ns e es rfl).2 pos X.env)⟩
theorem Nt {tn en:Str}{T:Addr}(ie:Nat){body fI:List Stmt}{hst0:Stmt}{tbb:XK->TS}{th:TS}{np hp:Pos}{KK:aac}{mg:Str->Option Value}{NN:Nat}(hN:X.N.Nodup)(cT:Xc X.K X.mg tn T vE)(hg:Gl X tn)
   (hb:∀(W:Value->Shared->Prop) (pn:List (Addr×Obj)) (Ex:XK),Passes (lC X.prog X.w X.base) { X with xe:=W,pn:=pn } Ex->SL { X with xe:=W,pn:=pn } body (tbb Ex))
   (hh:∀ea:Addr,SL { X with A:=X.A.mark (some (.ref ea)),calm:=false,xe:=fun _ _=>False } (hst0 :: fI) th)
   (hie:X.N[ie]? = some en:=by rfl) (hle:X.env.scope.names.lookup en=some .local:=by rfl)
   (hst:X.stack=X.env :: X.outer:=by rfl) (hex:X.ex=[]:=by rfl) (hfr:X.env.frame=some X.env.locals:=by rfl) (hK:X.K=KK:=by rfl) (hm:X.mg=mg:=by rfl) (hNN:X.N.length=NN:=by rfl)
   (hdt:(tn == ("__debug__":Str))=false:=by decide) :
   SS X (.Try body [.ExceptHandler (some (.Name tn np)) (some en) (hst0 :: fI) hp] [] [] pos) (GQ KK mg T NN ie tbb th):=by
 subst hK hm hNN
 exact ⟨E5 hst hex hfr hN hie hle cT hg (fun W pn Ex wC=>(hb W pn Ex wC).h) (fun ea=>(hh ea).h) hdt⟩
theorem Hi {a b c:Expr}{ta tb tc:TE}{op IP:CmpOp}{r r':R2}(ho:SO X (compareOp op) r)(ho':SO X (compareOp IP) r')(ha:SE X a ta)(hb:SE X b tb)(hc:SE X c tc)(hm:lastMarks [op,IP] [b,c]=false:=by with_unfolding_all rfl):SE X (.Compare a [op,IP] [b,c] pos) (Cv r r' ta tb tc):=⟨BK ho.h ho'.h ha.h hb.h hc.h hm⟩
end
end L3
namespace L2
open PySem PySem.Spec PyProof.Rows SeqAt
def Fb (K:aac)(m:Nat)(neg:Bool):R2:=fun x y H Q=>∃(p:Addr) (as:List Addr) (f:Addr->Bool),y=.ref p/\ao K H p (as.map V.ref)/\(∀a∈as,EB K H m (.ref a) x (f a))/\Q (.bl (if neg then !as.any f else as.any f)) H
def Fd (f:Addr->Bool):Value->Bool
 | .ref a=>f a
 | _=>false
theorem mz (f:Addr->Bool):∀as:List Addr,(as.map aax).any (Fd f)=as.any f
 | []=>rfl
 | a :: r=>by
   rw [aaI,abI,abI,mz f r]
   rfl
section
variable {X:Cx}
theorem pq {pins:List (Addr×Obj)}{σ:St}{H:Hp}{s:Shared}{x:V}{v:Value}{m:Nat}{as:List Addr}{f:Addr->Bool}{its:List Value}(hu:X.A.units + (m + 1) < cLine)(I:Inv X pins σ H s)(rx:RelV x v)(r:Vals (as.map V.ref) its)(h:∀a∈as,EB X.K H m (.ref a) x (f a)):∀y,y∈its.toArray->EqAt X.A.in1 s y v (Fd f y):=fun z hz=>by
 have e:=fg r
 subst e
 have Ie:z∈as.map aax:=by simpa using hz
 obtain ⟨a,ha,rfl⟩:=List.mem_map.mp Ie
 exact (h a ha).at I _ _ _ rfl rx (by show X.A.units + 1 + m < cLine; omega)
theorem IV {m:Nat}(hu:X.A.units + (m + 1) < cLine):hU X (compareOp .In) (Fb X.K m false):=by
 intro pins s σ H x y v u Q I rx ry h
 obtain ⟨p,as,f,rfl,hq,eb,q⟩:=h
 cases ry
 obtain ⟨its,r,pl,_⟩:=I.list hq
 refine in_listAt (Fd f) pl.isList (pq hu I rx r eb) ⟨.bl (as.any f),H,I,?_,q⟩
 show aby _=aby _
 have e:=fg r
 subst e
 congr 1
 rw [List.any_toArray]
 exact mz f as
theorem yZ {m:Nat}(hu:X.A.units + (m + 1) < cLine):hU X (compareOp .NotIn) (Fb X.K m true):=by
 intro pins s σ H x y v u Q I rx ry h
 obtain ⟨p,as,f,rfl,hq,eb,q⟩:=h
 cases ry
 obtain ⟨its,r,pl,_⟩:=I.list hq
 refine notIn_listAt (Fd f) pl.isList (pq hu I rx r eb) ⟨.bl (!as.any f),H,I,?_,q⟩
 show aby _=aby _
 have e:=fg r
 subst e
 congr 2
 rw [List.any_toArray]
 exact mz f as
end
def twoF (H:Hp)(t x:Str)(a:Addr):Bool:=match H a with
 | some (.tup [.str s,.str y])=>decide (s=t) && ko (.str y) (.str x)
 | _=>false
theorem two_eb {K:aac}{H:Hp}{n:Nat}{a p:Addr}{s y t x:Str}(ha:H a=some (.tup [.str s,.str y]))(hp:H p=some (.tup [.str t,.str x])):EB K H (n + 1) (.ref a) (.ref p) (twoF H t x a):=by
 unfold twoF
 rw [ha]
 exact EB.pair ha hp rfl rfl (by show (y == y)=true; exact beq_self_eq_true y)
def b9 (H:Hp)(v:V)(b:Str×Str):Prop:=∃p,v=.ref p/\H p=some (.tup [.str b.1,.str b.2])
theorem two_any {H:Hp}{t x:Str}:∀{as:List Addr} {kn:List (Str×Str)},Paired (b9 H) (as.map V.ref) kn->as.any (twoF H t x)=decide ((t,x)∈kn)
 | [],[],_=>rfl
 | a :: as,b :: kn,.cons ⟨p,e,h⟩ r=>by
   cases e
   rw [abI,two_any r]
   have e:twoF H t x a=decide (b=(t,x)):=by
     unfold twoF
     rw [h]
     show (decide (b.1=t) && (b.2 == x))=_
     rw [abg,aaZ,decide_eq_true_iff,beq_iff_eq,decide_eq_true_iff]
     exact ⟨fun z=>Prod.ext z.1 z.2,fun z=>by rw [z]; exact ⟨rfl,rfl⟩⟩
   rw [e,abg,Bool.or_eq_true,decide_eq_true_iff,decide_eq_true_iff,decide_eq_true_iff,aaG]
   exact ⟨fun z=>z.elim (fun h=>.inl h.symm) .inr,fun z=>z.elim (fun h=>.inl h.symm) .inr⟩
theorem qC {H:Hp}:∀{vs:List V} {kn:List (Str×Str)},Paired (b9 H) vs kn->∃as:List Addr,vs=as.map V.ref
 | _,_,.nil=>⟨[],rfl⟩
 | _,_,.cons ⟨p,e,_⟩ r=>let ⟨as,h⟩:=qC r; ⟨p :: as,by rw [e,h]; rfl⟩
end L2
namespace L3
open PySem PySem.Spec PyProof.Rows L2
theorem Mk {X:Cx}{KK:aac}{m:Nat}(hu:X.A.units + (m + 1) < cLine)(hK:X.K=KK:=by first | exact bz | rfl):SO X (compareOp .In) (Fb KK m false):=by
 subst hK
 exact ⟨IV hu⟩
theorem Bq {X:Cx}{KK:aac}{m:Nat}(hu:X.A.units + (m + 1) < cLine)(hK:X.K=KK:=by first | exact bz | rfl):SO X (compareOp .NotIn) (Fb KK m true):=by
 subst hK
 exact ⟨yZ hu⟩
end L3
open L3 renaming k->aeh,v->aei,n->aej,int->aek,cons->ael,ix->aem,op->aen,one->aeo,str->aep,ret->aeq,tup->aer,gn->aes,own->aet,bX->aeu,set->aev,cg->aew,cw->aex,cmp->aey,ifs->aez,nil->aeA,lst->aeB,aV->aeC,aW->aeD,bY->aeE,bu->aeF,cS->aeG,jd->aeH,ex->aeI,lP->aeJ,bU->aeK,bl->aeL,cq->aeM,run->aeN,iL->aeO,lc->aeP,i5->aeQ,el->aeR,iH->aeS,i6->aeT,eK->aeU,eZ->aeV,glob->aeW,lG->aeX,dM->aeY,tw->aeZ,nN->ae0,append->ae1,asg->ae2,qB->ae3,Gk->ae4,Gj->ae5,bN->ae6,ny->ae7,nA->ae8,iR->ae9,JW->afa,vH->afb,mD->afc,t6->afd,never->afi,extend->afw
set_option maxHeartbeats 1000000
namespace TW
open PySem L2
section
variable {P:Program}{w:World}{K:aac}{mg:Str->Option Value}{base:Heap}
theorem qS {x qual:Str}{st:Stmt}{f:Addr}{fd:aao}{p0:Str}(F:cJ K x qual st f fd)(h:∀(kV doc pm:Value) (an:Option Addr) (cdv ct u0:Value),adn (aa6 x qual (cH st) (bO st) (ag st) .none kV doc pm an cdv ct) ⟨[u0],[]⟩ = pure (([p0]:List Str).zip [u0])):Binds K fd [p0] []:=F.binds fun kV doc pm an cdv ct us hl=>match us,hl with | [u0],_=>h kV doc pm an cdv ct u0
theorem d4 {x qual:Str}{st:Stmt}{f:Addr}{fd:aao}{p0 p1:Str}(F:cJ K x qual st f fd)(h:∀(kV doc pm:Value) (an:Option Addr) (cdv ct u0 u1:Value),adn (aa6 x qual (cH st) (bO st) (ag st) .none kV doc pm an cdv ct) ⟨[u0,u1],[]⟩ = pure (([p0,p1]:List Str).zip [u0,u1])):Binds K fd [p0,p1] []:=F.binds fun kV doc pm an cdv ct us hl=>match us,hl with | [u0,u1],_=>h kV doc pm an cdv ct u0 u1
theorem tW {x qual:Str}{st:Stmt}{f:Addr}{fd:aao}{p0 p1 p2:Str}(F:cJ K x qual st f fd)(h:∀(kV doc pm:Value) (an:Option Addr) (cdv ct u0 u1 u2:Value),adn (aa6 x qual (cH st) (bO st) (ag st) .none kV doc pm an cdv ct) ⟨[u0,u1,u2],[]⟩ = pure (([p0,p1,p2]:List Str).zip [u0,u1,u2])):Binds K fd [p0,p1,p2] []:=F.binds fun kV doc pm an cdv ct us hl=>match us,hl with | [u0,u1,u2],_=>h kV doc pm an cdv ct u0 u1 u2
theorem Ds {x qual:Str}{st:Stmt}{f:Addr}{fd:aao}{p0 p1 p2 p3:Str}(F:cJ K x qual st f fd)(h:∀(kV doc pm:Value) (an:Option Addr) (cdv ct u0 u1 u2 u3:Value),adn (aa6 x qual (cH st) (bO st) (ag st) .none kV doc pm an cdv ct) ⟨[u0,u1,u2,u3],[]⟩ = pure (([p0,p1,p2,p3]:List Str).zip [u0,u1,u2,u3])):Binds K fd [p0,p1,p2,p3] []:=F.binds fun kV doc pm an cdv ct us hl=>match us,hl with | [u0,u1,u2,u3],_=>h kV doc pm an cdv ct u0 u1 u2 u3
theorem Dt {x qual:Str}{st:Stmt}{f:Addr}{fd:aao}{p0 p1 p2 p3 p4:Str}(F:cJ K x qual st f fd)(h:∀(kV doc pm:Value) (an:Option Addr) (cdv ct u0 u1 u2 u3 u4:Value),adn (aa6 x qual (cH st) (bO st) (ag st) .none kV doc pm an cdv ct) ⟨[u0,u1,u2,u3,u4],[]⟩ = pure (([p0,p1,p2,p3,p4]:List Str).zip [u0,u1,u2,u3,u4])):Binds K fd [p0,p1,p2,p3,p4] []:=F.binds fun kV doc pm an cdv ct us hl=>match us,hl with | [u0,u1,u2,u3,u4],_=>h kV doc pm an cdv ct u0 u1 u2 u3 u4
def top (i:Nat):Stmt:=PySem.Challenge.pw_twinwalk_k15_what_is_refused.main.body.getD i (.Pass ⟨0,0,0,0⟩)
abbrev xg:Stmt:=top 41
abbrev jP:Stmt:=top 42
theorem TK.lst {H:Hp}{a:Addr}{xs:List V}{o:HO}(h:H a=some (.lst xs)):TK H (upd H a o):=fun b ys e=>by rw [aj (fJ e h (fun z=>nomatch z))]; exact e
theorem o8 {α β:Type}(f:α->β):∀(l:List α) (i:Nat),(l.eraseIdx i).map f=(l.map f).eraseIdx i
 | [],_=>rfl
 | _ :: _,0=>rfl
 | a :: r,i + 1=>by simp only [adN,aaI,o8 f r i]
theorem Paired.get {α β:Type}{F:α->β->Prop}:∀{l₁:List α} {l₂:List β} {i:Nat} {x:α},Paired F l₁ l₂->l₁[i]? = some x->∃y,l₂[i]? = some y/\F x y
 | _,_,_,_,.nil,e=>by simp at e
 | _,_,0,_,.cons r _,e=>by simp at e; subst e; exact ⟨_,rfl,r⟩
 | _,_,i + 1,x,.cons _ t,e=>by
   obtain ⟨u,h1,h2⟩:=Paired.get (i:=i) (x:=x) t (by simpa using e)
   exact ⟨u,by simpa using h1,h2⟩
theorem bV {σ:L2.St}{H:Hp}{A B:Hp->Prop}(h:A H):JX σ H (fun b H3=>if b=true then A H3 else B H3):=fT (A:=A H) (B:=B H) h
theorem bo {i:Nat}{v:V}{σ:L2.St}{H:Hp}{Q:L2.St->Hp->Prop}(h:Q (σ.set i (some v)) H):kZ i v σ H Q:=h
theorem bG.ref {H:Hp}{v:V}{b:Str×Int}(h:bG H v b):∃p,v=.ref p:=let ⟨p,e,_⟩:=h; ⟨p,e⟩
theorem aa {A B C:Hp}(a:ah A B)(b:ah B C):ah A C:=fun p o h=>b p o (a p o h)
theorem same_refl (A:Hp):ah A A:=fun _ _ h=>h
theorem aJ {H:Hp}{p:Addr}(h:H p=none)(o:HO):∃H1,ah H H1/\H1 p=some o/\upd H p o=H1:=⟨_,af h o,ae,rfl⟩
abbrev aY (s:Stmt)(x:Str):Prop:=(ag s).names.lookup x=some .globalImplicit
theorem aq {H H':Hp}{a:Addr}(s:ah H H')(h:H' a=none):H a=none:=by
 match e:H a with
 | none=>rfl
 | some o=>rw [s _ _ e] at h; cases h
theorem aG {H H':Hp}{a:Addr}{o:HO}(s:ah H H')(h:H a=none):ah H (upd H' a o):=fun b u e=>by rw [aj (ai e h)]; exact s b u e
theorem aC {H H':Hp}{a:Addr}{o:HO}(s:ah H H')(h:H' a=none):ah H (upd H' a o):=aG s (aq s h)
theorem cG {α:Type}(f:α->V)(xs:List α){r:Int}(h0:0<=r)(h1:r < (xs.length:Int)):∃x,xs[r.toNat]? = some x/\x∈xs/\lU (xs.map f) r=some (f x):=by
 have hr:r.toNat < xs.length:=by omega
 have e:r=((r.toNat:Nat):Int):=by omega
 have q:lU (xs.map f) ((r.toNat:Nat):Int)=some (f xs[r.toNat]):=gP (by rw [aaC,aad hr]; rfl)
 rw [← e] at q
 exact ⟨xs[r.toNat],aad hr,acA hr,q⟩
theorem qQ {xs:List V}{r:Int}(h0:0<=r)(h1:r < (xs.length:Int)):∃x,xs[r.toNat]? = some x/\lU xs r=some x:=by
 have hr:r.toNat < xs.length:=by omega
 have e:r=((r.toNat:Nat):Int):=by omega
 have q:lU xs ((r.toNat:Nat):Int)=some xs[r.toNat]:=gP (aad hr)
 rw [← e] at q
 exact ⟨xs[r.toNat],aad hr,q⟩
structure Row (b:Int)(row:List Int)(n:Nat):Prop where
 len:row.length=n
 all:∀x∈row,0<=x/\x < b
theorem Row.at {b:Int}{row:List Int}{n:Nat}(h:Row b row n){i:Int}(h0:0<=i)(h1:i < n):∃x,lU (row.map V.int) i=some (.int x)/\0<=x/\x < b:=by
 obtain ⟨x,_,hx,e⟩:=cG V.int row (r:=i) h0 (by rw [h.len]; exact h1)
 exact ⟨x,e,h.all x hx⟩
def kS (K:aac):Sp:=fun vs H Q _=>∃(a:Addr) (ns:List Int) (k:Int),vs=[.ref a,.int k]/\ao K H a (ns.map V.int)/\0<=k/\∀c:Int,Q (.int c) H
theorem JR:aD ["script","k"] ["script","k"] (ag xg):=⟨rfl,rfl,rfl,by decide +kernel,rfl,by decide +kernel,by decide +kernel⟩
theorem xU:aY xg "len":=by decide +kernel
theorem Er {f:Addr}{fd:aao}(F:cJ K "_law_cell_at" "_law_cell_at" xg f fd)(m_len:mg "len"=none):aP P w K mg base cO 1 f fd ["script","k"] (kS K):=by
 refine F.ok JR (fun vs H Q E h=>?_) (fun cdv A outer s H vs Q E hr h=>?_)
 · obtain ⟨a,ns,k,rfl,_⟩:=h
   rfl
 obtain ⟨a,ns,k,rfl,hs,h0,q⟩:=h
 refine ⟨_,aeN (ael (aez (aey aeQ (aei 1) (aeD aeF xU m_len aaq (aeh (aei 0) aej))) (aeo (aeq (aem aeu (aei 0) (aei 1)))) aeA)
   (aeo (aeq aek))),?_⟩
 refine ⟨_,rfl,_,rfl,a,_,rfl,.inl hs,_,_,rfl,rfl,_,rfl,?_⟩
 refine aF (fun c=>?_) (fun _=>q 0)
 have hk:k < ((ns.map V.int).length:Int):=of_decide_eq_true c
 rw [aab] at hk
 obtain ⟨x,_,_,n9⟩:=cG V.int ns h0 hk
 exact ⟨_,rfl,_,rfl,a,_,_,_,rfl,rfl,hs,n9,q x⟩
theorem An (s:Src K mg "_law_cell_at" xg)(m_len:mg "len"=none):aX P w K mg base "_law_cell_at" ["script","k"] 1 (kS K):=
 let ⟨f,fd,F,m⟩:=s
 ⟨f,fd,Er F m_len,F.kp,d4 F fun _ _ _ _ _ _ _ _=>rfl,m⟩
def dY:Sp:=fun vs H Q _=>∃(c many bs:Int),vs=[.int c,.int many,.int bs]/\0<=many/\many<=900/\0 < bs/\bs < 2 ^ 30/\∀l row,H l=none->Row bs row many.toNat->Q (.ref l) (upd H l (.lst (row.map V.int)))
theorem bW:aD ["cell","many","base","row","rest","k","stir"] ["cell","many","base"] (ag jP):=⟨rfl,rfl,rfl,by decide +kernel,rfl,by decide +kernel,by decide +kernel⟩
theorem mT:aY jP "range":=by decide +kernel
theorem u9 {f:Addr}{fd:aao}(F:cJ K "_law_numbers" "_law_numbers" jP f fd)(m_range:mg "range"=none):aP P w K mg base cO 1 f fd ["cell","many","base"] dY:=by
 refine F.ok bW (fun vs H Q E h=>?_) (fun cdv A outer s H vs Q E hr h=>?_)
 · obtain ⟨c,many,bs,rfl,_⟩:=h
   rfl
 obtain ⟨c,many,bs,rfl,AS,hm1,wA,zA,q⟩:=h
 refine ⟨_,aeN (ael (aev 0 bW.nd (aen aeC (aei 0) (aen L3.IB (aen ae7 aek aek) (aen ae7 aek aek))))
   (ael (aev 3 bW.nd (aeB aej))
   (ael (aev 4 bW.nd (aen ae8 (aei 0) (aen ae7 aek aek)))
   (ael (aeX (ae9 mT m_range (aeh (aei 1) aej)) (aes 5 bW.nd) (ael (aev 6 bW.nd (aen aeC (aen aeR (aen aeM (aen aeM (aei 0) (aen aeR aek (aei 5))) aek) aek) aek))
   (ael (aev 6 bW.nd (aen aeC (aen aeR (aei 6) (aei 6)) aek))
   (ael (aev 6 bW.nd (aen aeU (aen aeC (aen aeR (aen aeM (aei 6) (aen aeR aek (aen aeM (aei 5) aek))) aek) aek) aek))
   (ael (aez (aey L3.Iz (aei 0) (aen ae7 aek aek)) (ael (aev 6 bW.nd (aei 4))
   (aeo (aev 4 bW.nd (aen aeU (aei 4) (aei 2))))) aeA)
   (aeo (aeI (ae1 (aei 3) (aeh (aen aeC (aei 6) (aei 2)) aej)))))))))
   (aeo (aeq (aei 3))))))),?_⟩
 have YD:(0:Int) < 10 ^ (45:Int).toNat * 10 ^ (45:Int).toNat:=by decide +kernel
 have Sy:((10:Int) ^ (45:Int).toNat).natAbs < 2 ^ 150:=by decide +kernel
 refine ⟨_,rfl,_,_,rfl,rfl,⟨by decide,by decide,by decide⟩,_,_,rfl,rfl,⟨by decide,by decide,by decide⟩,_,_,rfl,rfl,⟨aat Sy (abM (by decide) (by decide)),aat Sy (abM (by decide) (by decide))⟩,_,_,rfl,rfl,YD,?_⟩
 refine ⟨agp,fun l hl=>?_⟩
 refine ⟨_,rfl,_,_,rfl,rfl,⟨by decide,by decide,by decide⟩,_,_,rfl,rfl,?_⟩
 refine ⟨_,rfl,many,rfl,by omega,by omega,?_⟩
 refine kr (lo:=0) (n:=many.toNat) (fun i σ H2=>∃(c rest:Int) (kv sv:Option V) (row:List Int),σ=[some (.int c),some (.int many),some (.int bs),some (.ref l),some (.int rest),kv,sv]/\H2=upd H l (.lst (row.map V.int))/\Row bs row i) ?_ ?_ ?_
 · exact ⟨_,_,none,none,[],rfl,rfl,⟨rfl,fun x hx=>nomatch hx⟩⟩
 · rintro i σ H2 hi ⟨c,rest,kv,sv,row,rfl,rfl,uI⟩
   refine ⟨_,rfl,_,rfl,_,_,rfl,rfl,.inl ⟨by decide,by decide⟩,_,_,rfl,rfl,_,_,rfl,rfl,_,_,rfl,rfl,.inr ⟨by decide,by decide⟩,_,_,rfl,rfl,(by show (0:Int) < 2147483647; decide),?_⟩
   have s1:∀n:Int,0<=n % 2147483647/\n % 2147483647 < 2147483647:=fun n=>⟨aav _ (by decide),aap _ (by decide)⟩
   refine ⟨_,rfl,_,rfl,_,_,rfl,rfl,.inr ⟨by have:=s1 ((c + 977 * (0 + (i:Int)) + 1) * 48271); omega,by have:=s1 ((c + 977 * (0 + (i:Int)) + 1) * 48271); omega⟩,_,_,rfl,rfl,(by show (0:Int) < 2147483629; decide),?_⟩
   refine ⟨_,rfl,_,rfl,_,_,rfl,rfl,_,_,rfl,rfl,.inl ⟨by decide,by decide⟩,_,_,rfl,rfl,_,_,rfl,rfl,.inr ⟨by decide,by decide⟩,_,_,rfl,rfl,(by show (0:Int) < 2147483563; decide),_,_,rfl,rfl,⟨(by show (0:Int) < 8; decide),(by show (8:Int) < 2 ^ 1000; decide +kernel)⟩,?_⟩
   have hd:row.length<=1000:=by have:=uI.len; omega
   refine ⟨_,rfl,_,_,rfl,rfl,⟨by decide,by decide,by decide⟩,_,_,rfl,rfl,_,rfl,?_⟩
   refine aF (fun c1=>?_) (fun c1=>?_)
   · refine ⟨_,rfl,?_⟩
     refine ⟨_,rfl,_,rfl,_,_,rfl,rfl,⟨wA,Int.lt_trans zA (by decide +kernel)⟩,?_⟩
     refine ⟨_,rfl,.inl ⟨rfl,_,ao.of ae⟩,_,rfl,_,rfl,_,_,rfl,rfl,wA,l,_,_,rfl,rfl,ae,by rw [aab]; exact aB hd,?_⟩
     refine ⟨_,_,_,_,row++[_],rfl,by rw [bT,aah]; rfl,⟨by rw [aae,uI.len]; rfl,fun x hx=>?_⟩⟩
     rcases List.mem_append.mp hx with z | z
     · exact uI.all x z
     · have e:=List.mem_singleton.mp z
       rw [e]
       exact ⟨aav _ (by omega),aap _ wA⟩
   · refine ⟨_,rfl,.inl ⟨rfl,_,ao.of ae⟩,_,rfl,_,rfl,_,_,rfl,rfl,wA,l,_,_,rfl,rfl,ae,by rw [aab]; exact aB hd,?_⟩
     refine ⟨_,_,_,_,row++[_],rfl,by rw [bT,aah]; rfl,⟨by rw [aae,uI.len]; rfl,fun x hx=>?_⟩⟩
     rcases List.mem_append.mp hx with z | z
     · exact uI.all x z
     · have e:=List.mem_singleton.mp z
       rw [e]
       exact ⟨aav _ (by omega),aap _ wA⟩
 · rintro σ H2 ⟨c,rest,kv,sv,row,rfl,rfl,uI⟩
   exact ⟨_,rfl,q l row hl uI⟩
theorem rJ (s:Src K mg "_law_numbers" jP)(m_range:mg "range"=none):aX P w K mg base "_law_numbers" ["cell","many","base"] 1 dY:=
 let ⟨f,fd,F,m⟩:=s
 ⟨f,fd,u9 F m_range,F.kp,tW F fun _ _ _ _ _ _ _ _ _=>rfl,m⟩
abbrev Cf:Stmt:=top 43
abbrev xh:Stmt:=top 44
theorem Row.mono {b c:Int}{row:List Int}{n:Nat}(h:Row b row n)(hb:b<=c):Row c row n:=⟨h.len,fun x hx=>⟨(h.all x hx).1,Int.lt_of_lt_of_le (h.all x hx).2 hb⟩⟩
abbrev Kw (names:List Str):Str->Str->Prop:=fun t y=>t="box"/\y∈names
def nS:Sp:=fun vs H Q _=>∃(r na:Addr) (row:List Int) (n:Nat) (names:List Str),vs=[.ref r,.ref na]/\H r=some (.lst (row.map V.int))/\Row (2 ^ 40) row n/\3<=n/\H na=some (.lst (names.map V.str))/\names.length<=900 /\
 ∀(v:V) (H':Hp) (e:E),ah H H'->cF H' v e->e.fS->e.okIn (Kw names)->e.dep<=2->Q v H'
theorem pC:aD ["row","names","number","some","one","other","way"] ["row","names"] (ag Cf):=⟨rfl,rfl,rfl,by decide +kernel,rfl,by decide +kernel,by decide +kernel⟩
theorem rE:aY Cf "len":=by decide +kernel
theorem IM {f:Addr}{fd:aao}(F:cJ K "_law_sum" "_law_sum" Cf f fd)(m_len:mg "len"=none):aP P w K mg base cO 1 f fd ["row","names"] nS:=by
 refine F.ok pC (fun vs H Q E h=>?_) (fun cdv A outer s H vs Q E hr h=>?_)
 · obtain ⟨r,na,row,n,names,rfl,_⟩:=h
   rfl
 obtain ⟨r,na,row,n,names,rfl,uJ,hR,Qi,jx,kl,q⟩:=h
 refine ⟨_,aeN (ael (aev 2 pC.nd (aem aeu (aeB (aeh (aen aeC (aem aeu (aei 0) aek) aek) (aeh (aen aeC (aem aeu (aei 0) aek) aek) (aeh (aen aeM (aen ae7 aek aek) (aem aeu (aei 0) aek)) aej)))) (aen aeU (aen aeC (aem aeu (aei 0) aek) aek) aek)))
   (ael (aev 3 pC.nd (aen aeV (aeB (aeh (aer (aeh aep (aeh (aei 2) aej))) aej)) (aeP [none] ["name"] (show aE _ (ag Cf) from ⟨rfl,by decide +kernel,by decide +kernel,by decide +kernel⟩) (by rfl) (aeO (aei 1)) (fun _ _ _ _ _=>⟨(aes 0 (show (["name"]:List Str).Nodup from by decide +kernel)),aeJ,(aer (aeh aep (aeh (aei 0) aej)))⟩))))
   (ael (aev 4 pC.nd (aem aeu (aei 3) (aen aeC (aen aeU (aem aeu (aei 0) aek) aek) (aeD aeF rE m_len aaq (aeh (aei 3) aej)))))
   (ael (aev 5 pC.nd (aem aeu (aei 3) (aen aeC (aen aeU (aem aeu (aei 0) aek) aek) (aeD aeF rE m_len aaq (aeh (aei 3) aej)))))
   (ael (aev 6 pC.nd (aen aeC (aem aeu (aei 0) aek) aek))
   (ael (aez (aey aeQ (aei 6) aek) (aeo (aeq (aei 4))) aeA)
   (ael (aez (aey aeE (aei 6) aek) (aeo (aeq (aer (aeh aep (aeh (aei 4) (aeh (aei 5) aej)))))) aeA)
   (ael (aez (aey aeE (aei 6) aek) (aeo (aeq (aer (aeh aep (aeh (aer (aeh aep (aeh (aei 5) (aeh (aer (aeh aep (aeh (aen aeC (aem aeu (aei 0) aek) aek) aej))) aej)))) (aeh (aei 4) aej)))))) aeA)
   (aeo (aeq (aer (aeh aep (aeh (aei 4) (aeh (aer (aeh aep (aeh (aen aeC (aem aeu (aei 0) aek) aek) aej))) aej)))))))))))))),?_⟩
 obtain ⟨x0,a0,J8,KH⟩:=hR.at (i:=0) (by decide) (by omega)
 obtain ⟨x1,a1,KI,KJ⟩:=hR.at (i:=1) (by decide) (by omega)
 obtain ⟨x2,a2,OD,OE⟩:=hR.at (i:=2) (by decide) (by omega)
 have pick:∃num:Int,lU ([.int (x1 % 3),.int (x1 % 7),.int (10 ^ (20:Int).toNat + x1)]:List V) (x2 % 12 / 5)=some (.int num)/\num.natAbs < 2 ^ 100:=by
   have NS:(10:Int) ^ (20:Int).toNat=100000000000000000000:=by decide +kernel
   rw [NS]
   rcases (show x2 % 12 / 5=0\/x2 % 12 / 5=1\/x2 % 12 / 5=2 by omega) with e | e | e <;> rw [e]
   · exact ⟨_,rfl,by omega⟩
   · exact ⟨_,rfl,by omega⟩
   · exact ⟨_,rfl,by omega⟩
 obtain ⟨num,n9,Ql⟩:=pick
 refine ⟨_,rfl,r,_,_,_,rfl,rfl,ao.of uJ,a1,_,_,rfl,rfl,(by show (0:Int) < 3; decide),_,rfl,r,_,_,_,rfl,rfl,ao.of uJ,a1,_,_,rfl,rfl,(by show (0:Int) < 7; decide),?_⟩
 refine ⟨_,_,rfl,rfl,⟨by decide,by decide,by decide⟩,_,rfl,r,_,_,_,rfl,rfl,ao.of uJ,a1,_,_,rfl,rfl,ags,fun l hl=>?_⟩
 have s1:ah H (upd H l (.lst [.int (x1 % 3),.int (x1 % 7),.int (10 ^ (20:Int).toNat + x1)])):=af hl _
 refine ⟨_,rfl,r,_,_,_,rfl,rfl,ao.of (s1 _ _ uJ),a2,_,_,rfl,rfl,(by show (0:Int) < 12; decide),_,_,rfl,rfl,⟨(by show (0:Int) < 5; decide),(by show (5:Int) < 2 ^ 1000; decide +kernel)⟩,l,_,_,_,rfl,rfl,ao.of ae,n9,?_⟩
 generalize (upd H l (.lst [.int (x1 % 3),.int (x1 % 7),.int (10 ^ (20:Int).toNat + x1)]))=H1 at s1 ⊢
 refine ⟨_,rfl,agr,fun p hp=>⟨agq,fun l1 hl1=>?_⟩⟩
 have s2:ah H (upd (upd H1 p (.tup [.str "number",.int num])) l1 (.lst [.ref p])):=aC (aC s1 hp) hl1
 have S0:cF (upd (upd H1 p (.tup [.str "number",.int num])) l1 (.lst [.ref p])) (.ref p) (.num num):=⟨p,rfl,by rw [aj (ai ae hl1),ae]⟩
 have hl2:(upd (upd H1 p (.tup [.str "number",.int num])) l1 (.lst [.ref p])) l1=some (.lst [.ref p]):=ae
 generalize (upd (upd H1 p (.tup [.str "number",.int num])) l1 (.lst [.ref p]))=H2 at s2 S0 hl2 ⊢
 have DZ:=s2 _ _ jx
 refine ⟨_,rfl,na,rfl,⟨_,ao.of DZ⟩,fun nb tH=>?_⟩
 refine bj (xs:=names.map V.str) (fun i H3=>∃vb:List V,ah H2 H3/\H3 nb=some (.lst vb)/\vb.length=i/\Paired (cF H3) vb ((names.take i).map (TW.E.box "box"))) ⟨[],af tH _,ae,rfl,.nil⟩ (fun i H3 _ z=>ao.of (z.choose_spec.1 _ _ DZ)) (fun i x H3 hx z=>?_) (fun H3 z=>?_)
 · obtain ⟨vb,s3,AD,lg,pb⟩:=z
   obtain ⟨nm,uF,rfl⟩ : ∃nm,names[i]? = some nm/\x=V.str nm:=by
     rw [aaC] at hx
     obtain ⟨y,h1,h2⟩:=Option.map_eq_some_iff.mp hx
     exact ⟨y,h1,h2.symm⟩
   have dQ:i < names.length:=(List.getElem?_eq_some_iff.mp uF).1
   refine bo ?_
   refine bV (A:=fun H3=>dg _ nb _ H3 _) ?_
   refine ⟨_,rfl,agr,fun p2 cf=>⟨vb,?_,aB (by omega),aL (Pv:=fun i H3=>∃vb:List V,ah H2 H3/\H3 nb=some (.lst vb)/\vb.length=i/\Paired (cF H3) vb ((names.take i).map (TW.E.box "box"))) (by repeat' constructor) (by rw [aab]; exact dQ) ?_⟩⟩
   · rw [aj (ai AD cf)]; exact AD
   · have HP:(upd H3 p2 (.tup [.str "box",.str nm])) nb=some (.lst vb):=by rw [aj (ai AD cf)]; exact AD
     have t4:TK H3 (upd (upd H3 p2 (.tup [.str "box",.str nm])) nb (.lst (vb++[.ref p2]))):=(aI cf _).trans (TK.lst HP)
     refine ⟨vb++[.ref p2],aG (aC s3 cf) tH,ae,by rw [aae,lg]; rfl,?_⟩
     rw [aal,uF,aah]
     exact Paired.snoc (Paired.aZ pb fun a b h=>h.keep t4) ⟨p2,rfl,by rw [aj (ai AD cf).symm]; exact ae⟩
 · obtain ⟨vb,s3,AD,lg,pb⟩:=z
   rw [aab] at lg pb
   rw [aaA] at pb
   refine ⟨l1,nb,_,_,rfl,rfl,s3 _ _ hl2,AD,small (show 1 + vb.length<=1000 by omega),fun so QC=>?_⟩
   have s4:=aC (o:=.lst ([.ref p]++vb)) (aa s2 s3) QC
   have all:∀(j:Int) (H4:Hp),ah (upd H3 so (.lst ([V.ref p]++vb))) H4->0<=j->∃v e,lU ([V.ref p]++vb) (j % (([V.ref p]++vb).length:Int))=some v/\cF H4 v e/\e.fS/\e.okIn (Kw names)/\e.dep=0:=fun j H4 s5 hj=>by
     have lO:(0:Int) < (([V.ref p]++vb).length:Int):=by rw [aae]; show (0:Int) < ((1 + vb.length:Nat):Int); omega
     obtain ⟨v,h1,h2⟩:=qQ (xs:=[V.ref p]++vb) (r:=j % (([V.ref p]++vb).length:Int)) (aav _ (by omega)) (aap _ lO)
     have pa:Paired (cF (upd H3 so (.lst ([V.ref p]++vb)))) ([V.ref p]++vb) (TW.E.num num :: names.map (TW.E.box "box")):=.cons ((S0.keep (ah.tk s3)).keep (aI QC _)) (Paired.aZ pb fun a b h=>h.keep (aI QC _))
     obtain ⟨e,h3,h4⟩:=Paired.get pa h1
     refine ⟨v,e,h2,h4.keep (ah.tk s5),?_⟩
     rcases List.mem_cons.mp (aan h3) with z | z
     · subst z
       exact ⟨aaF,Ql,rfl⟩
     · obtain ⟨y,hy,rfl⟩:=List.mem_map.mp z
       exact ⟨aaF,⟨rfl,hy⟩,rfl⟩
   have yw:(upd H3 so (.lst ([V.ref p]++vb))) so=some (.lst ([.ref p]++vb)):=ae
   have uK:=s4 _ _ uJ
   have tI:(0:Int) < (([V.ref p]++vb).length:Int):=by rw [aae]; show (0:Int) < ((1 + vb.length:Nat):Int); omega
   generalize ([V.ref p]++vb)=sv at all yw s4 uK tI ⊢
   generalize (upd H3 so (.lst sv))=H4 at all yw s4 uK ⊢
   have d8:(8:Int) < 2 ^ 1000:=by decide +kernel
   have Vv:(12:Int) < 2 ^ 1000:=by decide +kernel
   obtain ⟨v1,e1,tT,lX,lR,iz,zx⟩:=all (x0 / 8) H4 (same_refl _) (by omega)
   obtain ⟨v2,e2,at2,FK,Gd,C5,Vz⟩:=all (x2 / 12) H4 (same_refl _) (by omega)
   refine ⟨_,rfl,_,rfl,r,_,_,_,rfl,rfl,ao.of uK,a0,_,_,rfl,rfl,⟨(by show (0:Int) < 8; decide),d8⟩,_,rfl,so,_,rfl,.inl (ao.of yw),_,_,rfl,rfl,tI,so,_,_,_,rfl,rfl,ao.of yw,tT,?_⟩
   refine ⟨_,rfl,_,rfl,r,_,_,_,rfl,rfl,ao.of uK,a2,_,_,rfl,rfl,⟨(by show (0:Int) < 12; decide),Vv⟩,_,rfl,so,_,rfl,.inl (ao.of yw),_,_,rfl,rfl,tI,so,_,_,_,rfl,rfl,ao.of yw,at2,?_⟩
   refine ⟨_,rfl,r,_,_,_,rfl,rfl,ao.of uK,a0,_,_,rfl,rfl,(by show (0:Int) < 8; decide),?_⟩
   refine ⟨_,rfl,_,_,rfl,rfl,_,rfl,?_⟩
   refine aF (fun _=>⟨_,rfl,q v1 H4 e1 s4 lX lR iz (by omega)⟩) (fun _=>?_)
   refine ⟨_,rfl,rfl,_,rfl,?_⟩
   refine aF (fun _=>?_) (fun _=>?_)
   · refine ⟨_,rfl,_,rfl,ags,fun p5 qG=>?_⟩
     exact q (.ref p5) _ (.two .less e1 e2) (aC s4 qG) ⟨v1,v2,⟨p5,rfl,ae⟩,lX.keep (aI qG _),FK.keep (aI qG _)⟩ ⟨lR,Gd⟩ ⟨iz,C5⟩ (by show max e1.dep e2.dep + 1<=2; omega)
   refine ⟨_,rfl,rfl,_,rfl,?_⟩
   refine aF (fun _=>?_) (fun _=>?_)
   · refine ⟨_,rfl,_,rfl,r,_,_,_,rfl,rfl,ao.of uK,a1,_,_,rfl,rfl,(by show (0:Int) < 5; decide),agr,fun p5 qG=>⟨ags,fun p6 uH=>⟨_,rfl,ags,fun p7 Ia=>?_⟩⟩⟩
     have k5:cF (upd H4 p5 (.tup [.str "number",.int (x1 % 5)])) (.ref p5) (.num (x1 % 5)):=⟨p5,rfl,ae⟩
     have k6:cF (upd (upd H4 p5 (.tup [.str "number",.int (x1 % 5)])) p6 (.tup [.str "less",v2,.ref p5])) (.ref p6) (.two .less e2 (.num (x1 % 5))):=⟨v2,.ref p5,⟨p6,rfl,ae⟩,(FK.keep (aI qG _)).keep (aI uH _),k5.keep (aI uH _)⟩
     refine q (.ref p7) _ (.two .plus (.two .less e2 (.num (x1 % 5))) e1) (aC (aC (aC s4 qG) uH) Ia) ⟨.ref p6,v1,⟨p7,rfl,ae⟩,k6.keep (aI Ia _),((lX.keep (aI qG _)).keep (aI uH _)).keep (aI Ia _)⟩ ⟨⟨Gd,aaF⟩,lR⟩ ⟨⟨C5,?_⟩,iz⟩ (by show max (max e2.dep 0 + 1) e1.dep + 1<=2; omega)
     show (x1 % 5).natAbs < 2 ^ 100
     omega
   · refine ⟨_,rfl,_,rfl,r,_,_,_,rfl,rfl,ao.of uK,a1,_,_,rfl,rfl,(by show (0:Int) < 4; decide),agr,fun p5 qG=>⟨ags,fun p6 uH=>?_⟩⟩
     have k5:cF (upd H4 p5 (.tup [.str "number",.int (x1 % 4)])) (.ref p5) (.num (x1 % 4)):=⟨p5,rfl,ae⟩
     refine q (.ref p6) _ (.two .plus e1 (.num (x1 % 4))) (aC (aC s4 qG) uH) ⟨v1,.ref p5,⟨p6,rfl,ae⟩,(lX.keep (aI qG _)).keep (aI uH _),k5.keep (aI uH _)⟩ ⟨lR,aaF⟩ ⟨iz,?_⟩ (by show max e1.dep 0 + 1<=2; omega)
     show (x1 % 4).natAbs < 2 ^ 100
     omega
theorem DR (s:Src K mg "_law_sum" Cf)(m_len:mg "len"=none):aX P w K mg base "_law_sum" ["row","names"] 1 nS:=
 let ⟨f,fd,F,m⟩:=s
 ⟨f,fd,IM F m_len,F.kp,d4 F fun _ _ _ _ _ _ _ _=>rfl,m⟩
def qt:Sp:=fun vs H Q _=>∃(r na:Addr) (row:List Int) (n:Nat) (names:List Str),vs=[.ref r,.ref na]/\H r=some (.lst (row.map V.int))/\Row (2 ^ 30) row n/\4<=n/\H na=some (.lst (names.map V.str))/\names.length<=900 /\
 ∀(v:V) (H':Hp) (e:E),ah H H'->cF H' v e->e.gR->e.okIn (Kw names)->e.dep<=5->Q v H'
theorem qj:aD ["row","names","one","other","way"] ["row","names"] (ag xh):=⟨rfl,rfl,rfl,by decide +kernel,rfl,by decide +kernel,by decide +kernel⟩
theorem iu:aY xh "_law_sum":=by decide +kernel
theorem Es {f:Addr}{fd:aao}(F:cJ K "_law_condition" "_law_condition" xh f fd)(S:aX P w K mg base "_law_sum" ["row","names"] 1 nS):aP P w K mg base cO 2 f fd ["row","names"] qt:=by
 refine F.ok qj (fun vs H Q E h=>?_) (fun cdv A outer s H vs Q E hr h=>?_)
 · obtain ⟨r,na,row,n,names,rfl,_⟩:=h
   rfl
 obtain ⟨r,na,row,n,names,rfl,uJ,hR,Qi,jx,kl,q⟩:=h
 refine ⟨_,aeN (ael (aev 2 qj.nd (aet S hr iu (aeh (aeB (aeh (aen aeR aek (aem aeu (aei 0) aek)) (aeh (aem aeu (aei 0) aek) (aeh (aem aeu (aei 0) aek) aej)))) (aeh (aei 1) aej))))
   (ael (aev 3 qj.nd (aet S hr iu (aeh (aeB (aeh (aen aeU (aem aeu (aei 0) aek) aek) (aeh (aem aeu (aei 0) aek) (aeh (aem aeu (aei 0) aek) aej)))) (aeh (aei 1) aej))))
   (ael (aev 4 qj.nd (aen aeC (aem aeu (aei 0) aek) aek))
   (ael (aez (aey aeE (aei 4) aek) (aeo (aeq (aer (aeh aep aej)))) aeA)
   (ael (aez (aey aeE (aei 4) aek) (aeo (aeq (aer (aeh aep (aeh (aer (aeh aep (aeh (aei 2) (aeh (aei 3) aej)))) aej))))) aeA)
   (ael (aez (aey aeE (aei 4) aek) (aeo (aeq (aer (aeh aep (aeh (aer (aeh aep (aeh (aei 2) (aeh (aei 3) aej)))) (aeh (aer (aeh aep (aeh (aer (aeh aep (aeh (aei 3) (aeh (aei 2) aej)))) aej))) aej)))))) aeA)
   (aeo (aeq (aem aeu (aeB (aeh (aer (aeh aep (aeh (aei 2) (aeh (aei 3) aej)))) (aeh (aer (aeh aep (aeh (aei 2) (aeh (aei 3) aej)))) aej))) (aen aeC (aei 4) aek)))))))))),?_⟩
 obtain ⟨x0,a0,J8,KH⟩:=hR.at (i:=0) (by decide) (by omega)
 obtain ⟨x1,a1,KI,KJ⟩:=hR.at (i:=1) (by decide) (by omega)
 obtain ⟨x2,a2,OD,OE⟩:=hR.at (i:=2) (by decide) (by omega)
 obtain ⟨x3,a3,UX,UY⟩:=hR.at (i:=3) (by decide) (by omega)
 have UA:∀a b c:Int,0<=a->a < 2 ^ 40->0<=b->b < 2 ^ 40->0<=c->c < 2 ^ 40->Row (2 ^ 40) [a,b,c] 3:=fun a b c h1 h2 h3 h4 h5 h6=>⟨rfl,fun x hx=>by
   rcases List.mem_cons.mp hx with e | hx
   · rw [e]; exact ⟨h1,h2⟩
   rcases List.mem_cons.mp hx with e | hx
   · rw [e]; exact ⟨h3,h4⟩
   rw [List.mem_singleton.mp hx]; exact ⟨h5,h6⟩⟩
 refine ⟨_,rfl,r,_,_,_,rfl,rfl,ao.of uJ,a3,_,_,rfl,rfl,.inl ⟨by decide,by decide⟩,_,rfl,r,_,_,_,rfl,rfl,ao.of uJ,a1,_,rfl,r,_,_,_,rfl,rfl,ao.of uJ,a2,ags,fun l hl=>?_⟩
 refine ⟨_,rfl,l,na,[8 * x3,x1,x2],3,names,rfl,ae,UA _ _ _ (by omega) (by omega) (by omega) (by omega) (by omega) (by omega),aaf _,by rw [aj (ai jx hl)]; exact jx,kl,fun v1 H1 e1 s1 lX lR iz zx=>?_⟩
 have s1:=aa (af hl _) s1
 have jz:=s1 _ _ uJ
 have d8:(8:Int) < 2 ^ 1000:=by decide +kernel
 refine ⟨_,rfl,r,_,_,_,rfl,rfl,ao.of jz,a0,_,_,rfl,rfl,⟨(by show (0:Int) < 8; decide),d8⟩,_,rfl,r,_,_,_,rfl,rfl,ao.of jz,a2,_,rfl,r,_,_,_,rfl,rfl,ao.of jz,a1,ags,fun l2 hl2=>?_⟩
 have jy:=s1 _ _ jx
 refine ⟨_,rfl,l2,na,[x0 / 8,x2,x1],3,names,rfl,ae,UA _ _ _ (by omega) (by omega) (by omega) (by omega) (by omega) (by omega),aaf _,by rw [aj (ai jy hl2)]; exact jy,kl,fun v2 H2 e2 s2 FK Gd C5 Vz=>?_⟩
 have B9:ah H1 H2:=aa (af hl2 _) s2
 have lX:=lX.keep (ah.tk B9)
 have s2:=aa s1 B9
 have Qx:=s2 _ _ uJ
 refine ⟨_,rfl,r,_,_,_,rfl,rfl,ao.of Qx,a0,_,_,rfl,rfl,(by show (0:Int) < 8; decide),?_⟩
 refine ⟨_,rfl,rfl,_,rfl,?_⟩
 refine aF (fun _=>?_) (fun _=>?_)
 · refine ⟨agq,fun p hp=>?_⟩
   exact q (.ref p) _ .yes (aC s2 hp) ⟨p,rfl,ae⟩ aaF aaF (by show 0<=5; omega)
 refine ⟨_,rfl,rfl,_,rfl,?_⟩
 refine aF (fun _=>?_) (fun _=>?_)
 · refine ⟨_,rfl,_,rfl,ags,fun p hp=>⟨agr,fun p2 cf=>?_⟩⟩
   have k1:cF (upd H2 p (.tup [.str "same",v1,v2])) (.ref p) (.two .same e1 e2):=⟨v1,v2,⟨p,rfl,ae⟩,lX.keep (aI hp _),FK.keep (aI hp _)⟩
   exact q (.ref p2) _ (.nt (.two .same e1 e2)) (aC (aC s2 hp) cf) ⟨.ref p,⟨p2,rfl,ae⟩,k1.keep (aI cf _)⟩ ⟨lR,Gd⟩ ⟨iz,C5⟩ (by show max e1.dep e2.dep + 1 + 1<=5; omega)
 refine ⟨_,rfl,rfl,_,rfl,?_⟩
 refine aF (fun _=>?_) (fun _=>?_)
 · refine ⟨_,rfl,_,rfl,ags,fun p hp=>⟨_,rfl,_,rfl,ags,fun p2 cf=>⟨agr,fun p3 lN=>⟨ags,fun p4 tI=>?_⟩⟩⟩⟩
   have k1:cF (upd H2 p (.tup [.str "under",v1,v2])) (.ref p) (.two .under e1 e2):=⟨v1,v2,⟨p,rfl,ae⟩,lX.keep (aI hp _),FK.keep (aI hp _)⟩
   have k2:cF (upd (upd H2 p (.tup [.str "under",v1,v2])) p2 (.tup [.str "under",v2,v1])) (.ref p2) (.two .under e2 e1):=⟨v2,v1,⟨p2,rfl,ae⟩,(FK.keep (aI hp _)).keep (aI cf _),(lX.keep (aI hp _)).keep (aI cf _)⟩
   have k3:cF (upd (upd (upd H2 p (.tup [.str "under",v1,v2])) p2 (.tup [.str "under",v2,v1])) p3 (.tup [.str "not",.ref p2])) (.ref p3) (.nt (.two .under e2 e1)):=⟨.ref p2,⟨p3,rfl,ae⟩,k2.keep (aI lN _)⟩
   exact q (.ref p4) _ (.two .both (.two .under e1 e2) (.nt (.two .under e2 e1))) (aC (aC (aC (aC s2 hp) cf) lN) tI) ⟨.ref p,.ref p3,⟨p4,rfl,ae⟩,((k1.keep (aI cf _)).keep (aI lN _)).keep (aI tI _),k3.keep (aI tI _)⟩ ⟨⟨lR,Gd⟩,⟨Gd,lR⟩⟩ ⟨⟨iz,C5⟩,⟨C5,iz⟩⟩
     (by show max (max e1.dep e2.dep + 1) (max e2.dep e1.dep + 1 + 1) + 1<=5; omega)
 · refine ⟨_,rfl,_,rfl,ags,fun p hp=>⟨_,rfl,_,rfl,ags,fun p2 cf=>⟨agr,fun l3 kJ=>?_⟩⟩⟩
   have k1:cF (upd H2 p (.tup [.str "same",v1,v2])) (.ref p) (.two .same e1 e2):=⟨v1,v2,⟨p,rfl,ae⟩,lX.keep (aI hp _),FK.keep (aI hp _)⟩
   have k2:cF (upd (upd H2 p (.tup [.str "same",v1,v2])) p2 (.tup [.str "under",v1,v2])) (.ref p2) (.two .under e1 e2):=⟨v1,v2,⟨p2,rfl,ae⟩,(lX.keep (aI hp _)).keep (aI cf _),(FK.keep (aI hp _)).keep (aI cf _)⟩
   have last:∀X:Int,X=x0 % 8 % 2->∃(v:V) (e:TW.E),lU [V.ref p,V.ref p2] X=some v/\cF (upd (upd H2 p (.tup [.str "same",v1,v2])) p2 (.tup [.str "under",v1,v2])) v e/\e.gR/\e.okIn (Kw names)/\e.dep<=5:=fun X hX=>by
     rcases (show X=0\/X=1 by omega) with rfl | rfl
     · exact ⟨_,_,rfl,k1.keep (aI cf _),⟨lR,Gd⟩,⟨iz,C5⟩,(by show max e1.dep e2.dep + 1<=5; omega)⟩
     · exact ⟨_,_,rfl,k2,⟨lR,Gd⟩,⟨iz,C5⟩,(by show max e1.dep e2.dep + 1<=5; omega)⟩
   obtain ⟨v,e,n9,ke,h1,h2,h3⟩:=last _ rfl
   exact ⟨_,rfl,_,_,rfl,rfl,(by show (0:Int) < 2; decide),l3,_,_,_,rfl,rfl,ao.of ae,n9,q v _ e (aC (aC (aC s2 hp) cf) kJ) (ke.keep (aI kJ _)) h1 h2 h3⟩
theorem Ao (s:Src K mg "_law_condition" xh)(S:aX P w K mg base "_law_sum" ["row","names"] 1 nS):aX P w K mg base "_law_condition" ["row","names"] 2 qt:=
 let ⟨f,fd,F,m⟩:=s
 ⟨f,fd,Es F S,F.kp,d4 F fun _ _ _ _ _ _ _ _=>rfl,m⟩
abbrev pz:Stmt:=top 45
def qu:Sp:=fun vs H Q _=>∃(r na:Addr) (row:List Int) (n:Nat) (names:List Str) (many:Int),vs=[.ref r,.ref na,.int many]/\H r=some (.lst (row.map V.int))/\Row (2 ^ 30) row n/\7<=n/\H na=some (.lst (names.map V.str))/\names.length<=900/\0 < many/\many < 2 ^ 30 /\
 ∀(v:V) (H':Hp) (e:Nd),ah H H'->cy H' v e->e.good (· ∈ names) many 5->Q v H'
theorem vF:aD ["row","names","many","after","way"] ["row","names","many"] (ag pz):=⟨rfl,rfl,rfl,by decide +kernel,rfl,by decide +kernel,by decide +kernel⟩
theorem iy:aY pz "_law_sum":=by decide +kernel
theorem ik:aY pz "_law_condition":=by decide +kernel
theorem xW:aY pz "len":=by decide +kernel
theorem Ew {f:Addr}{fd:aao}(F:cJ K "_law_node" "_law_node" pz f fd)(m_len:mg "len"=none)(S:aX P w K mg base "_law_sum" ["row","names"] 1 nS)(C:aX P w K mg base "_law_condition" ["row","names"] 2 qt):aP P w K mg base cO 3 f fd ["row","names","many"] qu:=by
 refine F.ok vF (fun vs H Q E h=>?_) (fun cdv A outer s H vs Q E hr h=>?_)
 · obtain ⟨r,na,row,n,names,many,rfl,_⟩:=h
   rfl
 obtain ⟨r,na,row,n,names,many,rfl,uJ,hR,ZJ,jx,kl,AS,hm1,q⟩:=h
 have S1:=S.mono (show 1<=2 by decide)
 refine ⟨_,aeN (ael (aev 3 vF.nd (aen aeC (aem aeu (aei 0) aek) (aei 2)))
   (ael (aev 4 vF.nd (aen aeC (aem aeu (aei 0) aek) aek))
   (ael (aez (aeZ (ae4 (aey aeE (aei 4) aek) (ae5 (aeZ (L3.G6 (aey (L3.si (m:=0) (bQ hr _ (by decide))) (aei 1) (aeB aej)) (L3.G5 (aey aeQ (aei 4) aek))))))) (aeo (aeq (aer (aeh aep aej)))) aeA)
   (ael (aez (aey aeQ (aei 4) aek) (aeo (aeq (aer (aeh aep (aeh (aem aeu (aei 1) (aen aeC (aem aeu (aei 0) aek) (aeD aeF xW m_len aaq (aeh (aei 1) aej)))) (aeh (aet S1 hr iy (aeh (aei 0) (aeh (aei 1) aej))) (aeh (aei 3) aej))))))) aeA)
   (ael (aez (aey aeQ (aei 4) aek) (aeo (aeq (aer (aeh aep (aeh (aet S1 hr iy (aeh (aei 0) (aeh (aei 1) aej))) (aeh (aei 3) aej)))))) aeA)
   (aeo (aeq (aer (aeh aep (aeh (aet C hr ik (aeh (aei 0) (aeh (aei 1) aej))) (aeh (aei 3) (aeh (aen aeC (aem aeu (aei 0) aek) (aei 2)) aej)))))))))))),?_⟩
 obtain ⟨x4,a4,RV,UZ⟩:=hR.at (i:=4) (by decide) (by omega)
 obtain ⟨x5,a5,Zi,Zj⟩:=hR.at (i:=5) (by decide) (by omega)
 obtain ⟨x6,a6,Z8,Z9⟩:=hR.at (i:=6) (by decide) (by omega)
 have f0:∀x:Int,0<=x % many/\x % many < many:=fun x=>⟨aav _ (by omega),aap _ AS⟩
 refine ⟨_,rfl,r,_,_,_,rfl,rfl,ao.of uJ,a4,_,rfl,_,_,rfl,rfl,AS,?_⟩
 refine ⟨_,rfl,r,_,_,_,rfl,rfl,ao.of uJ,a5,_,_,rfl,rfl,(by show (0:Int) < 8; decide),?_⟩
 refine ⟨_,rfl,rfl,_,rfl,?_⟩
 refine aF (fun c1=>?_) (fun c1=>?_)
 · refine fT ?_
   refine ⟨agq,fun p hp=>?_⟩
   exact q (.ref p) _ .fin (af hp _) ⟨p,rfl,ae⟩ aaF
 refine ⟨_,rfl,agp,fun lz FX=>?_⟩
 obtain ⟨H1,s1,QL,zz⟩:=aJ FX (.lst [])
 rw [zz]; clear zz
 have jz:=s1 _ _ uJ
 have jy:=s1 _ _ jx
 refine ⟨_,RB.nil (ao.of jy) (ao.of QL),_,rfl,?_⟩
 refine aF (fun c2=>?_) (fun c2=>?_)
 · refine ⟨_,rfl,_,_,rfl,rfl,_,rfl,?_⟩
   refine aF (fun c3=>?_) (fun c3=>?_)
   · refine ⟨agq,fun p hp=>?_⟩
     exact q (.ref p) _ .fin (aC s1 hp) ⟨p,rfl,ae⟩ aaF
   · have hz:names≠[]\/¬ x5 % 8 < 3:=.inr fun z=>c3 (decide_eq_true z)
     refine ⟨_,rfl,_,_,rfl,rfl,_,rfl,?_⟩
     refine aF (fun c4=>?_) (fun c4=>?_)
     · have hw:x5 % 8 < 3:=of_decide_eq_true c4
       have lO:0 < names.length:=by
         rcases hz with z | z
         · exact List.length_pos_iff.mpr z
         · exact absurd hw z
       have rR:(0:Int) < ((names.map V.str).length:Int):=by rw [aab]; omega
       have hlt:=aap x6 rR
       obtain ⟨y,_,hy,n9⟩:=cG V.str names (r:=x6 % ((names.map V.str).length:Int)) (aav _ (by omega)) (by rw [aab] at hlt ⊢; exact hlt)
       refine ⟨_,rfl,_,rfl,r,_,_,_,rfl,rfl,ao.of jz,a6,_,rfl,na,_,rfl,.inl (ao.of jy),_,_,rfl,rfl,rR,na,_,_,_,rfl,rfl,ao.of jy,n9,?_⟩
       refine ⟨_,rfl,_,rfl,r,na,row,n,names,rfl,jz,hR.mono (by decide),by omega,jy,kl,fun v1 H2 e1 s2 lX lR iz zx=>?_⟩
       refine ⟨_,rfl,agt,fun p hp=>?_⟩
       exact q (.ref p) _ (.put y e1 (x4 % many)) (aC (aa s1 s2) hp) ⟨v1,⟨p,rfl,ae⟩,lX.keep (aI hp _)⟩ ⟨hy,lR,iz,by omega,(f0 x4).1,(f0 x4).2⟩
     refine ⟨_,rfl,_,_,rfl,rfl,_,rfl,?_⟩
     refine aF (fun c5=>?_) (fun c5=>?_)
     · refine ⟨_,rfl,_,rfl,r,na,row,n,names,rfl,jz,hR.mono (by decide),by omega,jy,kl,fun v1 H2 e1 s2 lX lR iz zx=>?_⟩
       refine ⟨_,rfl,ags,fun p hp=>?_⟩
       exact q (.ref p) _ (.say e1 (x4 % many)) (aC (aa s1 s2) hp) ⟨v1,⟨p,rfl,ae⟩,lX.keep (aI hp _)⟩ ⟨lR,iz,by omega,(f0 x4).1,(f0 x4).2⟩
     · refine ⟨_,rfl,_,rfl,r,na,row,n,names,rfl,jz,hR,by omega,jy,kl,fun v1 H2 e1 s2 lX lR iz zx=>?_⟩
       refine ⟨_,rfl,_,rfl,r,_,_,_,rfl,rfl,ao.of (s2 _ _ jz),a6,_,rfl,_,_,rfl,rfl,AS,agt,fun p hp=>?_⟩
       exact q (.ref p) _ (.test e1 (x4 % many) (x6 % many)) (aC (aa s1 s2) hp) ⟨v1,⟨p,rfl,ae⟩,lX.keep (aI hp _)⟩ ⟨lR,iz,zx,(f0 x4).1,(f0 x4).2,(f0 x6).1,(f0 x6).2⟩
 · refine iY ?_
   have hz:names≠[]\/¬ x5 % 8 < 3:=.inl fun z=>c2 (by rw [z]; rfl)
   refine ⟨_,rfl,_,_,rfl,rfl,_,rfl,?_⟩
   refine aF (fun c4=>?_) (fun c4=>?_)
   · have hw:x5 % 8 < 3:=of_decide_eq_true c4
     have lO:0 < names.length:=by
       rcases hz with z | z
       · exact List.length_pos_iff.mpr z
       · exact absurd hw z
     have rR:(0:Int) < ((names.map V.str).length:Int):=by rw [aab]; omega
     have hlt:=aap x6 rR
     obtain ⟨y,_,hy,n9⟩:=cG V.str names (r:=x6 % ((names.map V.str).length:Int)) (aav _ (by omega)) (by rw [aab] at hlt ⊢; exact hlt)
     refine ⟨_,rfl,_,rfl,r,_,_,_,rfl,rfl,ao.of jz,a6,_,rfl,na,_,rfl,.inl (ao.of jy),_,_,rfl,rfl,rR,na,_,_,_,rfl,rfl,ao.of jy,n9,?_⟩
     refine ⟨_,rfl,_,rfl,r,na,row,n,names,rfl,jz,hR.mono (by decide),by omega,jy,kl,fun v1 H2 e1 s2 lX lR iz zx=>?_⟩
     refine ⟨_,rfl,agt,fun p hp=>?_⟩
     exact q (.ref p) _ (.put y e1 (x4 % many)) (aC (aa s1 s2) hp) ⟨v1,⟨p,rfl,ae⟩,lX.keep (aI hp _)⟩ ⟨hy,lR,iz,by omega,(f0 x4).1,(f0 x4).2⟩
   refine ⟨_,rfl,_,_,rfl,rfl,_,rfl,?_⟩
   refine aF (fun c5=>?_) (fun c5=>?_)
   · refine ⟨_,rfl,_,rfl,r,na,row,n,names,rfl,jz,hR.mono (by decide),by omega,jy,kl,fun v1 H2 e1 s2 lX lR iz zx=>?_⟩
     refine ⟨_,rfl,ags,fun p hp=>?_⟩
     exact q (.ref p) _ (.say e1 (x4 % many)) (aC (aa s1 s2) hp) ⟨v1,⟨p,rfl,ae⟩,lX.keep (aI hp _)⟩ ⟨lR,iz,by omega,(f0 x4).1,(f0 x4).2⟩
   · refine ⟨_,rfl,_,rfl,r,na,row,n,names,rfl,jz,hR,by omega,jy,kl,fun v1 H2 e1 s2 lX lR iz zx=>?_⟩
     refine ⟨_,rfl,_,rfl,r,_,_,_,rfl,rfl,ao.of (s2 _ _ jz),a6,_,rfl,_,_,rfl,rfl,AS,agt,fun p hp=>?_⟩
     exact q (.ref p) _ (.test e1 (x4 % many) (x6 % many)) (aC (aa s1 s2) hp) ⟨v1,⟨p,rfl,ae⟩,lX.keep (aI hp _)⟩ ⟨lR,iz,zx,(f0 x4).1,(f0 x4).2,(f0 x6).1,(f0 x6).2⟩
theorem Ar (s:Src K mg "_law_node" pz)(m_len:mg "len"=none)(S:aX P w K mg base "_law_sum" ["row","names"] 1 nS)(C:aX P w K mg base "_law_condition" ["row","names"] 2 qt):aX P w K mg base "_law_node" ["row","names","many"] 3 qu:=
 let ⟨f,fd,F,m⟩:=s
 ⟨f,fd,Ew F m_len S C,F.kp,tW F fun _ _ _ _ _ _ _ _ _=>rfl,m⟩
theorem kI {X:Cx}{ss:List Stmt}{G:TS->Prop}(h:∃t,L3.SL X ss t/\G t):∃t,n8 X ss t/\G t:=let ⟨t,a,b⟩:=h; ⟨t,a.h,b⟩
def br {α:Type}(xs:List α)(lo hi:Option Int):List α:=(xs.drop (HT.cM xs.length 0 lo)).take (HT.cM xs.length xs.length hi - HT.cM xs.length 0 lo)
theorem bq {α:Type}(f:α->V)(xs:List α)(lo hi:Option Int):km (xs.map f) lo hi=(br xs lo hi).map f:=by
 unfold km br
 rw [aab,← List.map_drop,← List.map_take]
theorem d7 {α:Type}(xs:List α)(lo hi:Option Int):(br xs lo hi).Sublist xs:=(aco _ _).trans (List.drop_sublist _ _)
theorem rb {α:Type}(xs:List α)(lo hi:Option Int):(br xs lo hi).length<=xs.length:=(d7 xs lo hi).length_le
theorem we {α:Type}(xs:List α)(n:Nat):br xs none (some (n:Int))=xs.take n:=by
 unfold br
 rw [HT.eL,HT.sT,ab2,aea]
 by_cases h:n<=xs.length
 · rw [abU h]
 · rw [Nat.min_eq_right (by omega),aaA,aaS (by omega)]
theorem xN {α:Type}(xs:List α)(n:Nat):br xs (some (n:Int)) none=xs.drop n:=by
 unfold br
 rw [HT.eL,HT.sT]
 by_cases h:n<=xs.length
 · rw [abU h,aaS (by rw [abk]; omega)]
 · rw [Nat.min_eq_right (by omega),List.drop_length,List.drop_of_length_le (by omega)]
   simp
theorem rg {α:Type}(xs:List α)(m n:Nat)(h:n<=xs.length)(hm:m<=n):br xs (some (m:Int)) (some (n:Int))=(xs.drop m).take (n - m):=by
 unfold br
 rw [HT.eL,HT.eL,abU h,abU (by omega)]
def dG {α:Type}(n:Int)(xs:List α):List α:=if n=1 then xs else xs.reverse
theorem zk {α:Type}(f:α->V)(n:Int)(xs:List α):eB n (xs.map f)=(dG n xs).map f:=by
 unfold eB dG
 split
 · rfl
 · rw [adh]
theorem hJ {α:Type}{n:Int}{xs:List α}{x:α}:x∈dG n xs↔x∈xs:=by
 unfold dG
 split
 · exact Iff.rfl
 · exact List.mem_reverse
theorem sZ {α:Type}{n:Int}{xs:List α}(h:xs.Nodup):(dG n xs).Nodup:=by
 unfold dG
 split
 · exact h
 · exact (List.Perm.nodup_iff (List.reverse_perm xs)).mpr h
theorem zi {α:Type}{n:Int}{xs:List α}:(dG n xs).length=xs.length:=by
 unfold dG
 split
 · rfl
 · exact acR
abbrev ja:Stmt:=top 46
def GU (nm:List Str):Prop:=nm=(["a","ab"]:List Str)\/nm=(["x","a"]:List Str)\/nm=(["boxes","box"]:List Str)
structure cI (bs:List (Str×Int))(ins:List Str):Prop where
 nm:∃nm szs,GU nm/\szs.length<=2/\(∀s∈szs,(1:Int)<=s/\s<=5)/\bs=nm.zip szs
 ind:ins.Nodup
 insub:∀x∈ins,x∈bs.map (·.1)
theorem GU.len {nm:List Str}(h:GU nm):nm.length=2:=by rcases h with rfl | rfl | rfl <;> rfl
theorem GU.nd {nm:List Str}(h:GU nm):nm.Nodup:=by rcases h with rfl | rfl | rfl <;> decide +kernel
theorem qE {α β:Type}:∀(xs:List α) (ys:List β),ys.length<=xs.length->(xs.zip ys).map (·.1)=xs.take ys.length
 | [],[],_=>rfl
 | _ :: _,[],_=>rfl
 | [],_ :: _,h=>by simp at h
 | x :: xs,y :: ys,h=>by
   show x :: (xs.zip ys).map (·.1)=x :: xs.take ys.length
   rw [qE xs ys (by simpa using h)]
theorem cI.nd {bs:List (Str×Int)}{ins:List Str}(h:cI bs ins):(bs.map (·.1)).Nodup:=by
 obtain ⟨nm,szs,h1,h2,_,rfl⟩:=h.nm
 rw [qE _ _ (by rw [h1.len]; exact h2)]
 exact h1.nd.sublist (aco _ _)
theorem cI.len {bs:List (Str×Int)}{ins:List Str}(h:cI bs ins):bs.length<=2:=by
 obtain ⟨nm,szs,h1,h2,_,rfl⟩:=h.nm
 rw [List.length_zip]
 omega
theorem cI.sz {bs:List (Str×Int)}{ins:List Str}(h:cI bs ins):∀b∈bs,1<=b.2/\b.2<=5:=fun b hb=>by
 obtain ⟨nm,szs,h1,h2,h3,rfl⟩:=h.nm
 exact h3 _ (abE (a:=b.1) (b:=b.2) hb).2
def jW:Sp:=fun vs H Q _=>∃(n:Int),vs=[.int n]/\0<=n/\∀(p B I:Addr) (H':Hp) (vb:List V) (bs:List (Str×Int)) (ins:List Str),ah H H'->H' p=some (.tup [.ref B,.ref I])->H' B=some (.lst vb)->Paired (bG H') vb bs->H' I=some (.lst (ins.map V.str))->cI bs ins->Q (.ref p) H'
theorem jT:aD ["number","sizes","names","boxes","inputs"] ["number"] (ag ja):=⟨rfl,rfl,rfl,by decide +kernel,rfl,by decide +kernel,by decide +kernel⟩
theorem mI:aY ja "len":=by decide +kernel
theorem pU:aY ja "range":=by decide +kernel
theorem ue:aY ja "int":=by decide +kernel
theorem Bv {f:Addr}{fd:aao}(F:cJ K "_law_boxes" "_law_boxes" ja f fd)(m_len:mg "len"=none)(m_range:mg "range"=none)(m_int:mg "int"=none):aP P w K mg base cO 1 f fd ["number"] jW:=by
 refine F.ok jT (fun vs H Q E h=>?_) (fun cdv A outer s H vs Q E hr h=>?_)
 · obtain ⟨n,rfl,_⟩:=h
   rfl
 obtain ⟨n,rfl,Xq,q⟩:=h
 refine kI ⟨_,(ael (aev 1 jT.nd (aem aeu (aeB (aeh (aeB (aeh aek aej)) (aeh (aeB (aeh aek (aeh aek aej))) (aeh (aeB aej) (aeh (aeB (aeh aek aej)) (aeh (aeB (aeh aek (aeh aek aej))) (aeh (aeB (aeh aek aej)) (aeh (aeB (aeh aek (aeh aek aej))) (aeh (aeB (aeh aek aej)) aej))))))))) (aen aeC (aei 0) aek)))
   (ael (aev 2 jT.nd (aem aeu (aeB (aeh (aeB (aeh aep (aeh aep aej))) (aeh (aeB (aeh aep (aeh aep aej))) (aeh (aeB (aeh aep (aeh aep aej))) aej)))) (aen aeC (aen aeU (aei 0) aek) aek)))
   (ael (afa (i:=3) [none,some 2,some 1] ["k","names","sizes"] (show aE _ (ag ja) from ⟨rfl,by decide +kernel,by decide +kernel,by decide +kernel⟩) (by rfl) (ae9 pU m_range (aeh (aeD aeF mI m_len aaq (aeh (aei 1) aej)) aej)) (fun _ _ _ _ _=>⟨(aes 0 (show (["k","names","sizes"]:List Str).Nodup from by decide +kernel)),aeJ,(aer (aeh (aem aeu (aei 1) (aei 0)) (aeh (aem aeu (aei 2) (aei 0)) aej)))⟩) jT.nd)
   (ael (aev 4 jT.nd (ae0 (afb (aei 2) (aeD aeF mI m_len aaq (aeh (aei 1) aej))) (aen aeR (aen aeC (aen aeU (aei 0) aek) aek) (aeK afc ue m_int (by decide +kernel) (aeh (aeS aeQ (aen aeC (aen aeU (aei 0) aek) aek) aek) aej)))))
   (aeo (aeq (aer (aeh (aei 3) (aeh (L3.Cq (aei 4) (aen ae8 aek (aen aeR aek (aen aeC (aen aeU (aei 0) aek) aek)))) aej))))))))),?_⟩
 refine ⟨agq,fun QR P1=>?_⟩
 obtain ⟨A0,YY,V1,zz⟩:=aJ P1 (.lst [.int 2])
 rw [zz]; clear zz
 refine ⟨agr,fun QS P2=>?_⟩
 obtain ⟨A1,sA1,V2,zz⟩:=aJ P2 (.lst [.int 2,.int 3])
 rw [zz]; clear zz
 refine ⟨agp,fun QT P4=>?_⟩
 obtain ⟨A2,sA2,V3,zz⟩:=aJ P4 (.lst [])
 rw [zz]; clear zz
 refine ⟨agq,fun QU P5=>?_⟩
 obtain ⟨A3,sA3,V4,zz⟩:=aJ P5 (.lst [.int 3])
 rw [zz]; clear zz
 refine ⟨agr,fun QV P6=>?_⟩
 obtain ⟨A4,sA4,V5,zz⟩:=aJ P6 (.lst [.int 2,.int 2])
 rw [zz]; clear zz
 refine ⟨agq,fun QW P7=>?_⟩
 obtain ⟨A5,sA5,V6,zz⟩:=aJ P7 (.lst [.int 5])
 rw [zz]; clear zz
 refine ⟨agr,fun QX P8=>?_⟩
 obtain ⟨A6,sA6,V7,zz⟩:=aJ P8 (.lst [.int 1,.int 3])
 rw [zz]; clear zz
 refine ⟨agq,fun QY P9=>?_⟩
 obtain ⟨A7,sA7,V8,zz⟩:=aJ P9 (.lst [.int 4])
 rw [zz]; clear zz
 refine ⟨agv,fun Yd Qa=>?_⟩
 obtain ⟨Az,sAz,V9,zz⟩:=aJ Qa (.lst [.ref QR,.ref QS,.ref QT,.ref QU,.ref QV,.ref QW,.ref QX,.ref QY])
 rw [zz]; clear zz
 have VO:=(sAz _ _ (sA7 _ _ (sA6 _ _ (sA5 _ _ (sA4 _ _ (sA3 _ _ (sA2 _ _ (sA1 _ _ V1))))))))
 have VP:=(sAz _ _ (sA7 _ _ (sA6 _ _ (sA5 _ _ (sA4 _ _ (sA3 _ _ (sA2 _ _ V2)))))))
 have VQ:=(sAz _ _ (sA7 _ _ (sA6 _ _ (sA5 _ _ (sA4 _ _ (sA3 _ _ V3))))))
 have VR:=(sAz _ _ (sA7 _ _ (sA6 _ _ (sA5 _ _ (sA4 _ _ V4)))))
 have VS:=(sAz _ _ (sA7 _ _ (sA6 _ _ (sA5 _ _ V5))))
 have VT:=(sAz _ _ (sA7 _ _ (sA6 _ _ V6)))
 have VU:=(sAz _ _ (sA7 _ _ V7))
 have VV:=(sAz _ _ V8)
 have kA:ah H Az:=(aa (aa (aa (aa (aa (aa (aa (aa (aa (same_refl _) YY) sA1) sA2) sA3) sA4) sA5) sA6) sA7) sAz)
 have pA:∃(sa:Addr) (szs:List Int),lU ([.ref QR,.ref QS,.ref QT,.ref QU,.ref QV,.ref QW,.ref QX,.ref QY]:List V) (n % 8)=some (.ref sa)/\Az sa=some (.lst (szs.map V.int))/\szs.length<=2/\∀s∈szs,(1:Int)<=s/\s<=5:=by
   rcases (show n % 8=0\/n % 8=1\/n % 8=2\/n % 8=3\/n % 8=4\/n % 8=5\/n % 8=6\/n % 8=7 by omega) with e | e | e | e | e | e | e | e <;> rw [e]
   · exact ⟨QR,[2],rfl,VO,by decide,by decide⟩
   · exact ⟨QS,[2,3],rfl,VP,by decide,by decide⟩
   · exact ⟨QT,[],rfl,VQ,by decide,by decide⟩
   · exact ⟨QU,[3],rfl,VR,by decide,by decide⟩
   · exact ⟨QV,[2,2],rfl,VS,by decide,by decide⟩
   · exact ⟨QW,[5],rfl,VT,by decide,by decide⟩
   · exact ⟨QX,[1,3],rfl,VU,by decide,by decide⟩
   · exact ⟨QY,[4],rfl,VV,by decide,by decide⟩
 obtain ⟨sa,szs,Pn,rT,hs2,Od⟩:=pA
 refine ⟨_,rfl,_,_,rfl,rfl,(by show (0:Int) < 8; decide),Yd,_,_,_,rfl,rfl,ao.of V9,Pn,?_⟩
 refine ⟨agr,fun QZ Qb=>?_⟩
 obtain ⟨B0,YZ,Wa,zz⟩:=aJ Qb (.lst [.str "a",.str "ab"])
 rw [zz]; clear zz
 refine ⟨agr,fun L7 Qc=>?_⟩
 obtain ⟨B1,sB1,Wb,zz⟩:=aJ Qc (.lst [.str "x",.str "a"])
 rw [zz]; clear zz
 refine ⟨agr,fun Q0 Qd=>?_⟩
 obtain ⟨B2,sB2,Wc,zz⟩:=aJ Qd (.lst [.str "boxes",.str "box"])
 rw [zz]; clear zz
 refine ⟨ags,fun Yf Qe=>?_⟩
 obtain ⟨Bz,sBz,Wd,zz⟩:=aJ Qe (.lst [.ref QZ,.ref L7,.ref Q0])
 rw [zz]; clear zz
 have VW:=(sBz _ _ (sB2 _ _ (sB1 _ _ Wa)))
 have VX:=(sBz _ _ (sB2 _ _ Wb))
 have VY:=(sBz _ _ Wc)
 have kB:ah Az Bz:=(aa (aa (aa (aa (same_refl _) YZ) sB1) sB2) sBz)
 have pB:∃(na:Addr) (nm:List Str),lU ([.ref QZ,.ref L7,.ref Q0]:List V) (n / 8 % 3)=some (.ref na)/\Bz na=some (.lst (nm.map V.str))/\GU nm:=by
   rcases (show n / 8 % 3=0\/n / 8 % 3=1\/n / 8 % 3=2 by omega) with e | e | e <;> rw [e]
   · exact ⟨QZ,["a","ab"],rfl,VW,.inl rfl⟩
   · exact ⟨L7,["x","a"],rfl,VX,.inr (.inl rfl)⟩
   · exact ⟨Q0,["boxes","box"],rfl,VY,.inr (.inr rfl)⟩
 obtain ⟨na,nm,Po,jx,uG⟩:=pB
 have d8:(8:Int) < 2 ^ 1000:=by decide +kernel
 have SQ:(24:Int) < 2 ^ 1000:=by decide +kernel
 have Vw:(72:Int) < 2 ^ 1000:=by decide +kernel
 refine ⟨_,rfl,_,_,rfl,rfl,⟨(by show (0:Int) < 8; decide),d8⟩,_,_,rfl,rfl,(by show (0:Int) < 3; decide),Yf,_,_,_,rfl,rfl,ao.of Wd,Po,?_⟩
 have rT:=kB _ _ rT
 have k0:=aa kA kB
 have ZT:=uG.len
 have FX:(nm.zip szs).length=szs.length:=by rw [List.length_zip]; omega
 refine ⟨_,rfl,sa,_,rfl,.inl (ao.of rT),_,rfl,by rw [aab]; omega,by rw [aab]; omega,fun nb tH=>?_⟩
 rw [aab]
 refine d6 (lo:=0) (n:=((szs.length:Nat):Int).toNat) (fun i H2=>∃vb:List V,ah Bz H2/\H2 nb=some (.lst vb)/\vb.length=i/\Paired (bG H2) vb ((nm.zip szs).take i)) ⟨[],af tH _,ae,rfl,.nil⟩ (fun i H2 hi z=>?_) (fun H2 z=>?_)
 · obtain ⟨vb,s2,og,lg,pb⟩:=z
   have uD:i < szs.length:=by omega
   have DW:i < nm.length:=by omega
   have e0:((0:Int) + (i:Int)).toNat=i:=by omega
   obtain ⟨y,gy,_,Pp⟩:=cG V.str nm (r:=0 + (i:Int)) (by omega) (by omega)
   obtain ⟨z,gz,_,Pq⟩:=cG V.int szs (r:=0 + (i:Int)) (by omega) (by omega)
   rw [e0] at gy gz
   refine bo ?_
   refine bV (A:=fun H3=>dg _ nb _ H3 _) ?_
   refine ⟨_,rfl,_,rfl,na,_,_,_,rfl,rfl,ao.of (s2 _ _ jx),Pp,_,rfl,_,rfl,sa,_,_,_,rfl,rfl,ao.of (s2 _ _ rT),Pq,agr,fun p2 cf=>⟨vb,?_,aB (by omega),aL (Pv:=fun i H2=>∃vb:List V,ah Bz H2/\H2 nb=some (.lst vb)/\vb.length=i/\Paired (bG H2) vb ((nm.zip szs).take i)) (by repeat' constructor) hi ?_⟩⟩
   · rw [aj (ai og cf)]; exact og
   · have HP:(upd H2 p2 (.tup [.str y,.int z])) nb=some (.lst vb):=by rw [aj (ai og cf)]; exact og
     have t4:TK H2 (upd (upd H2 p2 (.tup [.str y,.int z])) nb (.lst (vb++[.ref p2]))):=(aI cf _).trans (TK.lst HP)
     refine ⟨vb++[.ref p2],aG (aC s2 cf) tH,ae,by rw [aae,lg]; rfl,?_⟩
     have ez:(nm.zip szs)[i]? = some (y,z):=by rw [adF]; exact ⟨gy,gz⟩
     rw [aal,ez]
     exact Paired.snoc (Paired.aZ pb fun a b h=>Tp.keep t4 h) ⟨p2,rfl,by rw [aj (ai og cf).symm]; exact ae⟩
 · obtain ⟨vb,s2,og,lg,pb⟩:=z
   rw [aa5,← FX,aaA] at pb
   have k2:=aa k0 s2
   have DZ:=s2 _ _ jx
   have QA:=s2 _ _ rT
   refine ⟨_,rfl,_,rfl,sa,_,rfl,.inl (ao.of QA),_,rfl,na,_,rfl,ao.of DZ,fun p3 lN=>?_⟩
   rw [aab,bq,we]
   have cl:∀c:Bool,(-(2 ^ 64):Int) < (if c=true then 1 else 0)/\(if c=true then (1:Int) else 0) < 2 ^ 64:=by decide
   refine ⟨_,rfl,_,_,rfl,rfl,⟨(by show (0:Int) < 24; decide),SQ⟩,_,_,rfl,rfl,(by show (0:Int) < 3; decide),_,rfl,_,_,rfl,rfl,⟨(by show (0:Int) < 24; decide),SQ⟩,_,_,rfl,rfl,(by show (0:Int) < 3; decide),_,_,rfl,rfl,.inr ⟨_,rfl,_,_,rfl,rfl,.inr (cl _),_,rfl,p3,_,rfl,ao.of ae,fun p4 tI=>?_⟩⟩
   rw [bq]
   have sub:=(d7 (nm.take szs.length) (some (n / 24 % 3 * if decide (n / 24 % 3 < 2)=true then 1 else 0)) none)
   generalize br (nm.take szs.length) (some (n / 24 % 3 * if decide (n / 24 % 3 < 2)=true then 1 else 0)) none=Ih at sub ⊢
   refine ⟨_,rfl,_,rfl,_,rfl,_,_,rfl,rfl,⟨(by show (0:Int) < 72; decide),Vw⟩,_,_,rfl,rfl,(by show (0:Int) < 2; decide),_,_,rfl,rfl,.inl ⟨by decide,by decide⟩,_,_,rfl,rfl,_,rfl,?_,p4,_,rfl,ao.of ae,fun p5 qG=>⟨agr,fun p6 uH=>?_⟩⟩
   · have:=aav (n / 72) (show (2:Int)≠0 by decide)
     have:=aap (n / 72) (show (0:Int) < 2 by decide)
     omega
   have k6:=aC (o:=.tup [.ref nb,.ref p5]) (aC (o:=.lst (eB (1 - 2 * (n / 72 % 2)) (Ih.map V.str))) (aC (o:=.lst (Ih.map V.str)) (aC (o:=.lst ((nm.take szs.length).map V.str)) (same_refl H2) lN) tI) qG) uH
   refine q p6 nb p5 _ vb (nm.zip szs) (dG (1 - 2 * (n / 72 % 2)) Ih) (aa k2 k6) ae (k6 _ _ og) (Paired.aZ pb fun a b h=>Tp.keep (ah.tk k6) h) ?_ ⟨⟨nm,szs,uG,hs2,Od,rfl⟩,?_,fun x hx=>?_⟩
   · rw [aj (ai ae uH),ae,zk]
   · exact sZ ((uG.nd.sublist (aco _ _)).sublist sub)
   · rw [qE _ _ (by omega)]
     exact sub.mem (hJ.mp hx)
theorem ye (s:Src K mg "_law_boxes" ja)(m_len:mg "len"=none)(m_range:mg "range"=none)(m_int:mg "int"=none):aX P w K mg base "_law_boxes" ["number"] 1 jW:=
 let ⟨f,fd,F,m⟩:=s
 ⟨f,fd,Bv F m_len m_range m_int,F.kp,qS F fun _ _ _ _ _ _ _=>rfl,m⟩
theorem q9 {α:Type}(xs:List α)(m n:Nat):(br xs (some (m:Int)) (some (n:Int))).length<=n - m:=by
 unfold br
 rw [HT.eL,HT.eL,aaw]
 omega
abbrev gF:Stmt:=top 47
structure Dk (bs:List (Str×Int))(ins:List Str)(nds:List Nd)(most:Int):Prop where
 bx:cI bs ins
 one:1<=nds.length
 few:(nds.length:Int)<=most
 good:∀e∈nds,e.good (· ∈ bs.map (·.1)) nds.length 5
def vJ (K:aac):Sp:=fun vs H Q _=>∃(a:Addr) (ns:List Int) (most:Int),vs=[.ref a,.int most]/\ao K H a (ns.map V.int)/\0 < most/\most<=100/\∀(v:V) (H':Hp) (bs:List (Str×Int)) (ins:List Str) (nds:List Nd),ah H H'->bD H' v bs ins nds->Dk bs ins nds most->Q v H'
theorem eR:aD ["script","most","head","boxes","inputs","names","cells","far","nodes","cell"] ["script","most"] (ag gF):=⟨rfl,rfl,rfl,by decide +kernel,rfl,by decide +kernel,by decide +kernel⟩
theorem eI:aY gF "_law_numbers":=by decide +kernel
theorem eG:aY gF "_law_cell_at":=by decide +kernel
theorem lM:aY gF "_law_boxes":=by decide +kernel
theorem mW:aY gF "_law_node":=by decide +kernel
theorem xY:aY gF "len":=by decide +kernel
theorem rq:aY gF "range":=by decide +kernel
theorem Ez {f:Addr}{fd:aao}(F:cJ K "_law_program" "_law_program" gF f fd)(m_len:mg "len"=none)(m_range:mg "range"=none)(CE:aX P w K mg base "_law_cell_at" ["script","k"] 1 (kS K))(NU:aX P w K mg base "_law_numbers" ["cell","many","base"] 1 dY)
    (BX:aX P w K mg base "_law_boxes" ["number"] 1 jW) (ND:aX P w K mg base "_law_node" ["row","names","many"] 3 qu):aP P w K mg base cO 4 f fd ["script","most"] (vJ K):=by
 refine F.ok eR (fun vs H Q E h=>?_) (fun cdv A outer s H vs Q E hr h=>?_)
 · obtain ⟨a,ns,most,rfl,_⟩:=h
   rfl
 obtain ⟨a,ns,most,rfl,hS,AS,hm1,q⟩:=h
 have R7:=CE.mono (show 1<=3 by decide)
 have Sq:=NU.mono (show 1<=3 by decide)
 have U4:=BX.mono (show 1<=3 by decide)
 refine kI ⟨_,(ael (aev 2 eR.nd (aet Sq hr eI (aeh (aet R7 hr eG (aeh (aei 0) (aeh aek aej))) (aeh aek (aeh aek aej)))))
   (ael (ae2 (aet U4 hr lM (aeh (aem aeu (aei 2) aek) aej)) (aeG 2 (aex (aes 3 eR.nd) (aex (aes 4 eR.nd) aeH))))
   (ael (afa (i:=5) [none,none] ["name","size"] (show aE _ (ag gF) from ⟨rfl,by decide +kernel,by decide +kernel,by decide +kernel⟩) (by rfl) (aeO (aei 3)) (fun _ _ _ _ _=>⟨(aeG 2 (aex (aes 0 (show (["name","size"]:List Str).Nodup from by decide +kernel)) (aex (aes 1 (show (["name","size"]:List Str).Nodup from by decide +kernel)) aeH))),aeJ,(aei 0)⟩) eR.nd)
   (ael (aev 6 eR.nd (L3.Cp (aei 0) aek (aen aeM aek (aei 1))))
   (ael (aez (aey (L3.si (m:=0) (bQ hr _ (by decide))) (aei 6) (aeB aej)) (ael (aev 7 eR.nd (aen aeC (aet R7 hr eG (aeh (aei 0) (aeh aek aej))) (aen ae7 aek aek)))
   (aeo (afa (i:=6) [none,some 7] ["k","far"] (show aE _ (ag gF) from ⟨rfl,by decide +kernel,by decide +kernel,by decide +kernel⟩) (by rfl) (ae9 rq m_range (aeh (aen aeM aek (aen aeC (aem aeu (aei 2) aek) (aei 1))) aej)) (fun _ _ _ _ _=>⟨(aes 0 (show (["k","far"]:List Str).Nodup from by decide +kernel)),aeJ,(aen aeM (aei 1) (aen aeR aek (aei 0)))⟩) eR.nd))) aeA)
   (ael (aev 8 eR.nd (aeB aej))
   (ael (aeX (aeO (aei 6)) (aes 9 eR.nd) (aeo (aeI (ae1 (aei 8) (aeh (aet ND hr mW (aeh (aet Sq hr eI (aeh (aei 9) (aeh aek (aeh aek aej)))) (aeh (aei 5) (aeh (aeD aeF xY m_len aaq (aeh (aei 6) aej)) aej)))) aej)))))
   (aeo (aeq (aer (aeh (aei 3) (aeh (aei 4) (aeh (aei 8) aej))))))))))))),?_⟩
 refine ⟨_,rfl,a,ns,0,rfl,hS,adB _,fun c=>⟨c,2,5040,rfl,by decide,by decide,by decide,by decide,fun hd row Xb hR=>?_⟩⟩
 obtain ⟨H1,s1,h1,zz⟩:=aJ Xb (.lst (row.map V.int))
 rw [zz]; clear zz
 obtain ⟨x0,a0,J8,KH⟩:=hR.at (i:=0) (by decide) (by decide)
 obtain ⟨x1,a1,KI,KJ⟩:=hR.at (i:=1) (by decide) (by decide)
 refine ⟨_,rfl,hd,_,_,_,rfl,rfl,ao.of h1,a0,x0,rfl,J8,fun p B I H2 vb bs ins s2 hp hB pb hI OW=>?_⟩
 have k2:=aa s1 s2
 have lg:vb.length=bs.length:=Paired.length pb
 have og:=OW.len
 refine ⟨p,_,rfl,aK.of hp,rfl,_,_,rfl,_,_,rfl,rfl,?_⟩
 refine ⟨_,rfl,B,rfl,⟨_,ao.of hB⟩,fun na jx=>?_⟩
 have Iq:B≠na:=ai hB jx
 refine bj (xs:=vb) (fun i H3=>H3=upd H2 na (.lst ((bs.take i).map fun b=>V.str b.1))) rfl (fun i H3 _ e=>?_) (fun i x H3 hx e=>?_) (fun H3 e=>?_)
 · subst e
   exact ao.of (by rw [aj Iq]; exact hB)
 · subst e
   obtain ⟨b,fR,p,rfl,hp⟩:=Paired.get pb hx
   have dQ:i < vb.length:=(List.getElem?_eq_some_iff.mp hx).1
   refine ⟨p,_,rfl,aK.of (by rw [aj (ai hp jx)]; exact hp),rfl,_,_,rfl,_,_,rfl,rfl,?_⟩
   refine bV (A:=fun H3=>dg (CF 0) na _ H3 _) ⟨_,rfl,_,ae,aB (by rw [aab,aaw]; omega),aL (Pv:=fun i H3=>H3=upd H2 na (.lst ((bs.take i).map fun b=>V.str b.1))) (by repeat' constructor) dQ ?_⟩
   rw [bT]
   congr 2
   rw [aal,fR,aah]
   rfl
 subst e
 have et:(bs.take vb.length).map (fun b=>V.str b.1)=(bs.map (·.1)).map V.str:=by rw [lg,aaA,abm]; rfl
 rw [et]
 obtain ⟨H3,s3,jx,zz⟩:=aJ jx (.lst ((bs.map (·.1)).map V.str))
 rw [zz]; clear zz
 have k3:=aa k2 s3
 have WL:=ah.seq k3 hS
 have hB:=s3 _ _ hB
 have hI:=s3 _ _ hI
 have pb:Paired (bG H3) vb bs:=Paired.aZ pb fun a b h=>Tp.keep (ah.tk s3) h
 refine ⟨_,rfl,_,rfl,_,rfl,_,_,rfl,rfl,_,rfl,a,_,rfl,WL,fun ce rL=>?_⟩
 have e2:(2 + most:Int)=((2 + most.toNat:Nat):Int):=by omega
 rw [bq]
 have K6:(br ns (some 2) (some (2 + most))).length<=most.toNat:=by
   have:=q9 ns 2 (2 + most.toNat)
   rw [← e2] at this
   exact aak this (by omega)
 generalize br ns (some 2) (some (2 + most))=cs at K6 ⊢
 obtain ⟨H4,s4,rL,zz⟩:=aJ rL (.lst (cs.map V.int))
 rw [zz]; clear zz
 refine ⟨_,rfl,agp,fun lz FX=>?_⟩
 have s4:=aa s4 (af FX (.lst []))
 have rL:=af FX (.lst []) _ _ rL
 have hz:(upd H4 lz (.lst [])) lz=some (.lst []):=ae
 generalize upd H4 lz (.lst [])=H4 at s4 rL hz ⊢
 have k4:=aa k3 s4
 have jx:=s4 _ _ jx
 have hB:=s4 _ _ hB
 have hI:=s4 _ _ hI
 have pb:Paired (bG H4) vb bs:=Paired.aZ pb fun a b h=>Tp.keep (ah.tk s4) h
 refine ⟨_,RB.nil (ao.of rL) (ao.of hz),_,rfl,?_⟩
 refine aF (fun cc=>?_) (fun cc=>?_)
 · have WC:=s4 _ _ (s3 _ _ (s2 _ _ h1))
   refine ⟨_,rfl,a,ns,0,rfl,ah.seq k4 hS,adB _,fun c2=>⟨_,_,rfl,rfl,⟨by decide,by decide,by decide⟩,_,_,rfl,rfl,(show (0:Int) < 10 ^ (17:Int).toNat by decide +kernel),?_⟩⟩
   refine ⟨_,rfl,hd,_,_,_,rfl,rfl,ao.of WC,a1,_,rfl,_,_,rfl,rfl,AS,_,_,rfl,rfl,_,rfl,?_,?_,fun Kk Py=>?_⟩
   · have:=aav x1 (show most≠0 by omega); omega
   · have:=aap x1 AS; omega
   have ZH:=aav x1 (show most≠0 by omega)
   have LJ:=aap x1 AS
   refine d6 (lo:=0) (n:=(1 + x1 % most).toNat) (fun i H5=>∃cs:List Int,H5=upd H4 Kk (.lst (cs.map V.int))/\cs.length=i) ⟨[],rfl,rfl⟩ (fun i H5 hi z=>?_) (fun H5 z=>?_)
   · obtain ⟨cs,rfl,DV⟩:=z
     refine bo ?_
     refine bV (A:=fun H3=>dg _ Kk _ H3 _) ?_
     refine ⟨_,rfl,_,rfl,_,_,rfl,rfl,.inl ⟨by decide,by decide⟩,_,_,rfl,rfl,_,ae,aB (by rw [aab]; omega),aL (Pv:=fun i H5=>∃cs:List Int,H5=upd H4 Kk (.lst (cs.map V.int))/\cs.length=i) (by repeat' constructor) hi ⟨cs++[c2 % 10 ^ (17:Int).toNat + 211 * (0 + (i:Int))],?_,by rw [aae,DV]; rfl⟩⟩
     rw [bT,aah]
     rfl
   · obtain ⟨CY,rfl,DV⟩:=z
     obtain ⟨HH,s5,rL,zz⟩:=aJ Py (.lst (CY.map V.int))
     rw [zz]; clear zz
     have UK:=aa k4 s5
     have jx:=s5 _ _ jx
     have hB:=s5 _ _ hB
     have hI:=s5 _ _ hI
     have pb:Paired (bG HH) vb bs:=Paired.aZ pb fun a b h=>Tp.keep (ah.tk s5) h
     have xJ:CY≠[]:=fun z=>by rw [z] at DV; simp at DV; omega
     have K6:CY.length<=most.toNat:=by omega
     refine ⟨agp,fun nb tH=>?_⟩
     have cl:0 < CY.length:=List.length_pos_iff.mpr xJ
     have uC:((CY.map V.int).length:Int)=(CY.length:Int):=by rw [aab]
     refine ⟨_,rfl,Kk,rfl,⟨_,ao.of (af tH _ _ _ rL)⟩,?_⟩
     refine fW (xs:=CY.map V.int) (fun i σ H5=>(∃cv,σ=[some (.ref a),some (.int most),some (.ref hd),some (.ref B),some (.ref I),some (.ref na),some (.ref Kk),some (.int (c2 % 10 ^ (17:Int).toNat)),some (.ref nb),cv])/\∃(vn:List V) (nds:List Nd),ah HH H5/\H5 nb=some (.lst vn)/\Paired (cy H5) vn nds/\nds.length=i/\∀e∈nds,e.good (· ∈ bs.map (·.1)) CY.length 5) ⟨⟨_,rfl⟩,[],[],af tH _,ae,.nil,rfl,fun e he=>nomatch he⟩ (fun i σ H5 _ z=>?_) (fun i x σ H5 hx z=>?_) (fun σ H5 z=>?_)
     · obtain ⟨_,vn,nds,s5,_⟩:=z
       exact ao.of (s5 _ _ rL)
     · obtain ⟨⟨cv,rfl⟩,vn,nds,s5,pY,pn,kl,gd⟩:=z
       obtain ⟨c3,DS,rfl⟩ : ∃c,CY[i]? = some c/\x=V.int c:=by
         rw [aaC] at hx
         obtain ⟨y,h1,h2⟩:=Option.map_eq_some_iff.mp hx
         exact ⟨y,h1,h2.symm⟩
       have dQ:i < CY.length:=(List.getElem?_eq_some_iff.mp DS).1
       have TY:vn.length=nds.length:=Paired.length pn
       refine ⟨_,rfl,.inl ⟨rfl,_,ao.of pY⟩,?_⟩
       refine ⟨_,rfl,c3,7,720,rfl,by decide,by decide,by decide,by decide,fun l row hl hR=>?_⟩
       have s6:=aa s5 (af hl (.lst (row.map V.int)))
       refine ⟨_,rfl,_,rfl,Kk,_,rfl,.inl (ao.of (s6 _ _ rL)),l,na,row,7,bs.map (·.1),_,rfl,ae,hR.mono (by decide),aaf _,s6 _ _ jx,by rw [aab]; omega,by rw [uC]; omega,by rw [uC]; omega,fun v H7 e s7 ea ge=>?_⟩
       rw [uC] at ge
       have uE:H7 nb=some (.lst vn):=s7 _ _ (af hl _ _ _ pY)
       refine ⟨nb,vn,v,rfl,rfl,uE,aB (by omega),⟨_,rfl⟩,?_⟩
       have t8:TK H5 (upd H7 nb (.lst (vn++[v]))):=((aI hl _).trans (ah.tk s7)).trans (TK.lst uE)
       refine ⟨vn++[v],nds++[e],aG (aa s6 s7) tH,ae,Paired.snoc (Paired.aZ pn fun a b h=>cy.keep t8 h) (cy.keep (TK.lst uE) ea),by rw [aae,kl]; rfl,fun x hx=>?_⟩
       rcases List.mem_append.mp hx with y | y
       · exact gd x y
       · rw [List.mem_singleton.mp y]
         exact ge
     · obtain ⟨⟨cv,rfl⟩,vn,nds,s5,pY,pn,kl,gd⟩:=z
       rw [aab] at kl
       refine ⟨_,rfl,_,rfl,_,rfl,ags,fun p9 wB=>?_⟩
       have s9:=aC (o:=.tup [.ref B,.ref I,.ref nb]) s5 wB
       have MY:ah H5 (upd H5 p9 (.tup [.ref B,.ref I,.ref nb])):=af wB _
       refine q (.ref p9) _ bs ins nds (aa UK s9) ⟨p9,B,I,nb,vb,vn,rfl,ae,s9 _ _ hB,s9 _ _ hI,MY _ _ pY,Paired.aZ pb fun a b h=>Tp.keep (ah.tk s9) h,Paired.aZ pn fun a b h=>cy.keep (ah.tk MY) h⟩ ⟨OW,by omega,by omega,by rw [kl]; exact gd⟩
 · have xJ:cs≠[]:=fun z=>cc (by rw [z]; rfl)
   have UK:=k4
   refine ⟨agp,fun nb tH=>?_⟩
   have cl:0 < cs.length:=List.length_pos_iff.mpr xJ
   have uC:((cs.map V.int).length:Int)=(cs.length:Int):=by rw [aab]
   refine ⟨_,rfl,ce,rfl,⟨_,ao.of (af tH _ _ _ rL)⟩,?_⟩
   refine fW (xs:=cs.map V.int) (fun i σ H5=>(∃cv,σ=[some (.ref a),some (.int most),some (.ref hd),some (.ref B),some (.ref I),some (.ref na),some (.ref ce),none,some (.ref nb),cv])/\∃(vn:List V) (nds:List Nd),ah H4 H5/\H5 nb=some (.lst vn)/\Paired (cy H5) vn nds/\nds.length=i/\∀e∈nds,e.good (· ∈ bs.map (·.1)) cs.length 5) ⟨⟨_,rfl⟩,[],[],af tH _,ae,.nil,rfl,fun e he=>nomatch he⟩ (fun i σ H5 _ z=>?_) (fun i x σ H5 hx z=>?_) (fun σ H5 z=>?_)
   · obtain ⟨_,vn,nds,s5,_⟩:=z
     exact ao.of (s5 _ _ rL)
   · obtain ⟨⟨cv,rfl⟩,vn,nds,s5,pY,pn,kl,gd⟩:=z
     obtain ⟨c3,DS,rfl⟩ : ∃c,cs[i]? = some c/\x=V.int c:=by
       rw [aaC] at hx
       obtain ⟨y,h1,h2⟩:=Option.map_eq_some_iff.mp hx
       exact ⟨y,h1,h2.symm⟩
     have dQ:i < cs.length:=(List.getElem?_eq_some_iff.mp DS).1
     have TY:vn.length=nds.length:=Paired.length pn
     refine ⟨_,rfl,.inl ⟨rfl,_,ao.of pY⟩,?_⟩
     refine ⟨_,rfl,c3,7,720,rfl,by decide,by decide,by decide,by decide,fun l row hl hR=>?_⟩
     have s6:=aa s5 (af hl (.lst (row.map V.int)))
     refine ⟨_,rfl,_,rfl,ce,_,rfl,.inl (ao.of (s6 _ _ rL)),l,na,row,7,bs.map (·.1),_,rfl,ae,hR.mono (by decide),aaf _,s6 _ _ jx,by rw [aab]; omega,by rw [uC]; omega,by rw [uC]; omega,fun v H7 e s7 ea ge=>?_⟩
     rw [uC] at ge
     have uE:H7 nb=some (.lst vn):=s7 _ _ (af hl _ _ _ pY)
     refine ⟨nb,vn,v,rfl,rfl,uE,aB (by omega),⟨_,rfl⟩,?_⟩
     have t8:TK H5 (upd H7 nb (.lst (vn++[v]))):=((aI hl _).trans (ah.tk s7)).trans (TK.lst uE)
     refine ⟨vn++[v],nds++[e],aG (aa s6 s7) tH,ae,Paired.snoc (Paired.aZ pn fun a b h=>cy.keep t8 h) (cy.keep (TK.lst uE) ea),by rw [aae,kl]; rfl,fun x hx=>?_⟩
     rcases List.mem_append.mp hx with y | y
     · exact gd x y
     · rw [List.mem_singleton.mp y]
       exact ge
   · obtain ⟨⟨cv,rfl⟩,vn,nds,s5,pY,pn,kl,gd⟩:=z
     rw [aab] at kl
     refine ⟨_,rfl,_,rfl,_,rfl,ags,fun p9 wB=>?_⟩
     have s9:=aC (o:=.tup [.ref B,.ref I,.ref nb]) s5 wB
     have MY:ah H5 (upd H5 p9 (.tup [.ref B,.ref I,.ref nb])):=af wB _
     refine q (.ref p9) _ bs ins nds (aa k4 s9) ⟨p9,B,I,nb,vb,vn,rfl,ae,s9 _ _ hB,s9 _ _ hI,MY _ _ pY,Paired.aZ pb fun a b h=>Tp.keep (ah.tk s9) h,Paired.aZ pn fun a b h=>cy.keep (ah.tk MY) h⟩ ⟨OW,by omega,by omega,by rw [kl]; exact gd⟩
theorem Au (s:Src K mg "_law_program" gF)(m_len:mg "len"=none)(m_range:mg "range"=none)(CE:aX P w K mg base "_law_cell_at" ["script","k"] 1 (kS K))(NU:aX P w K mg base "_law_numbers" ["cell","many","base"] 1 dY)(BX:aX P w K mg base "_law_boxes" ["number"] 1 jW)(ND:aX P w K mg base "_law_node" ["row","names","many"] 3 qu):aX P w K mg base "_law_program" ["script","most"] 4 (vJ K):=
 let ⟨f,fd,F,m⟩:=s
 ⟨f,fd,Ez F m_len m_range CE NU BX ND,F.kp,d4 F fun _ _ _ _ _ _ _ _=>rfl,m⟩
end
end TW
namespace TW
open PySem L2
structure Dg (K:aac)(x qual:Str)(st:Stmt)(dV:Value)(f:Addr)(fd:aao):Prop where
 ex:∃(oc:Value) (od:Option Addr) (kV doc pm:Value) (an:Option Addr) (cdv ct:Value) (osl:Array (Option Value)),
   fd=aa6 x qual (cH st) (bO st) (ag st) dV kV doc pm an cdv ct/\K.lookup f=some ⟨oc,od,.func fd,osl⟩ /\ abW K cdv qual=true
 kp:abc K (.ref f)=true
section
variable {P:Program}{w:World}{K:aac}{mg:Str->Option Value}{base:Heap}
theorem Dg.ok {x qual:Str}{st:Stmt}{dV:Value}{f:Addr}{fd:aao}{N ps:List Str}{k:Nat}{sp:Sp}(F:Dg K x qual st dV f fd)(S:aD N ps (ag st))(len:∀vs H Q E,sp vs H Q E->vs.length=ps.length)
   (hbody:∀(cdv:Value) (A:Around) (outer:List Env) (s:Shared) (H:Hp) (vs:List V) (Q:VK) (E:XK),dt k (A.deeper (PyProof.Rows.envOfC qual (ag st) s.heap.objs.size f cdv))->sp vs H Q E ->
     ∃t,n8 (hV cO P w K mg base N qual (ag st) f cdv A outer s H E).Kx (bO st) t/\t { nx:=fun _ H'=>Q .bN H',rt:=Q } (start N vs) H):aP P w K mg base cO (k + 1) f fd ps sp:=by
 obtain ⟨oc,od,kV,doc,pm,an,cdv,ct,osl,rfl,lk,hcd⟩:=F.ex
 refine Ag lk hcd S len fun A outer s H vs Q E hr hsp=>?_
 obtain ⟨t,h,q⟩:=hbody cdv A outer s H vs Q E hr hsp
 exact ⟨t,h.Kx,q⟩
end
def Dl (K:aac)(mg:Str->Option Value)(x:Str)(st:Stmt)(d:Str):Prop:=
 ∃f fd T tk oc od n sl,Dg K x x st (.ref T) f fd/\mg x=some (.ref f)/\K.lookup T=some ⟨oc,od,.seq #[.str d tk] n,sl⟩
def tR (K:aac)(mg:Str->Option Value)(x:Str)(xs:List Str):Prop:=∃t,mg x=some (.ref t)/\∀H:Hp,aK K H t (xs.map V.str)
theorem xI {K:aac}{C:Addr}{cd:ClassData}{l:List Value}(h:acN K C=some cd)(m:cd.mro=l):pQ K C=some l:=by
 unfold acN at h
 unfold pQ
 split at h
 · rename_i e
   cases h
   rw [e,← m]
 · cases h
structure FC (K:aac)(mg:Str->Option Value)(T aH aA az aN bf bg aR aS bA aT aU:Addr):Prop where
 t:Xc K mg "TwinError" T vE
 x_NoPair:Xc K mg "NoPair" aH (.ref T :: vE)
 k_NoPair:G2 K aH
 o_NoPair:acg K (.ref aH) [.ref aN,.ref bf,.ref bg,.ref aR,.ref aS,.ref bA,.ref aT,.ref aU]=some false
 v_NoPair:aaH K (.ref aH) (.type "ValueError")=some true
 i_NoPair_NoPair:aaH K (.ref aH) (.ref aH)=some true
 i_NoPair_NoWorths:aaH K (.ref aH) (.ref aA)=some false
 i_NoPair_NoProgram:aaH K (.ref aH) (.ref az)=some false
 x_NoWorths:Xc K mg "NoWorths" aA (.ref T :: vE)
 k_NoWorths:G2 K aA
 o_NoWorths:acg K (.ref aA) [.ref aN,.ref bf,.ref bg,.ref aR,.ref aS,.ref bA,.ref aT,.ref aU]=some false
 v_NoWorths:aaH K (.ref aA) (.type "ValueError")=some true
 i_NoWorths_NoPair:aaH K (.ref aA) (.ref aH)=some false
 i_NoWorths_NoWorths:aaH K (.ref aA) (.ref aA)=some true
 i_NoWorths_NoProgram:aaH K (.ref aA) (.ref az)=some false
 x_NoProgram:Xc K mg "NoProgram" az (.ref T :: vE)
 k_NoProgram:G2 K az
 o_NoProgram:acg K (.ref az) [.ref aN,.ref bf,.ref bg,.ref aR,.ref aS,.ref bA,.ref aT,.ref aU]=some false
 v_NoProgram:aaH K (.ref az) (.type "ValueError")=some true
 i_NoProgram_NoPair:aaH K (.ref az) (.ref aH)=some false
 i_NoProgram_NoWorths:aaH K (.ref az) (.ref aA)=some false
 i_NoProgram_NoProgram:aaH K (.ref az) (.ref az)=some true
 m_NoChange:mg "NoChange"=some (.ref aN)
 m_NoForm:mg "NoForm"=some (.ref bf)
 m_NoNode:mg "NoNode"=some (.ref bg)
 m_NoPaper:mg "NoPaper"=some (.ref aR)
 m_NoPicks:mg "NoPicks"=some (.ref aS)
 m_NoRow:mg "NoRow"=some (.ref bA)
 m_NoneYet:mg "NoneYet"=some (.ref aT)
 m_TooMany:mg "TooMany"=some (.ref aU)
theorem xx {K:aac}{h:Heap}{mg:Str->Option Value}{x:Str}{C:Addr}{cd:ClassData}{tl:List Value}(X:K.In h)(G:h.Ns aa3 mg)(a:ac1 K aa3 x=some (some (.ref C)))(e:adx K C vE "ValueError.__new__"=true)(l:acN K C=some cd)(m:cd.mro=.ref C :: tl):Xc K mg x C tl:=⟨abb X G a,e,xI l m⟩
theorem vS {K:aac}{C:Addr}{cd:ClassData}(ga:ach K (.ref C) "__getattribute__"=some (some (.builtin "BaseException.__getattribute__")))(gn:ach K (.ref C) "__getattr__"=some none)(ha:ach K (.ref C) "__class__"=some (some (.builtin "object.__class__")))(hn:ad6 K (.builtin "object.__class__") "__get__"=some (some (.builtin "getset_descriptor.__get__")))(htk:PySem.W.takesIn K (.builtin "object.__class__")=some true)(hm:adw K C (.type "object")=some true)(hb:adw K C (.type "BaseException")=some true)(l:acN K C=some cd):G2 K C:=⟨ga,gn,ha,hn,htk,hm,hb,by rw [l]; rfl⟩
theorem xw {K:aac}{h:Heap}{mg:Str->Option Value}{x:Str}{t:Addr}{od:Option Addr}{sl:Array (Option Value)}{n:Nat}{us:Array Value}{xs:List Str}(X:K.In h)(G:h.Ns aa3 mg)(a:ac1 K aa3 x=some (some (.ref t)))(l:K.lookup t=some ⟨.type "tuple",od,.seq us n,sl⟩)(b:us.size<=sizeLine)(e:us.toList.length=xs.length)(r:Vals (xs.map V.str) us.toList):tR K mg x xs:=⟨_,abb X G a,fun _=>.inr ⟨_,_,_,l,rfl,rfl,b,r⟩⟩
theorem aM {K:aac}{h:Heap}{mg:Str->Option Value}{x:Str}{st:Stmt}{od an:Option Addr}{sl:Array (Option Value)}{oc kV dc pm cd ct:Value}{f:Addr}(X:K.In h)(G:h.Ns aa3 mg)(a:ac1 K aa3 x=some (some (.ref f)))
   (l:K.lookup f=some ⟨oc,od,.func (aa6 x x (cH st) (bO st) (ag st) .none kV dc pm an cd ct),sl⟩) (c:abW K cd x=true) (k:abc K (.ref f)=true):Src K mg x st:=⟨_,_,Hu l c k,abb X G a⟩
theorem Fm {K:aac}{h:Heap}{mg:Str->Option Value}{x d:Str}{st:Stmt}{od an Yy:Option Addr}{sl Y3:Array (Option Value)}{oc kV dc pm cd ct Yx:Value}{f T:Addr}{tk:Tok}{nT:Nat}(X:K.In h)(G:h.Ns aa3 mg)(a:ac1 K aa3 x=some (some (.ref f)))
   (l:K.lookup f=some ⟨oc,od,.func (aa6 x x (cH st) (bO st) (ag st) (.ref T) kV dc pm an cd ct),sl⟩) (c:abW K cd x=true) (k:abc K (.ref f)=true) (lT:K.lookup T=some ⟨Yx,Yy,.seq #[.str d tk] nT,Y3⟩):Dl K mg x st d:=⟨_,_,_,_,_,_,_,_,⟨⟨_,_,_,_,_,_,_,_,_,rfl,l,c⟩,k⟩,abb X G a,lT⟩
structure KZ (K:aac)(mg:Str->Option Value):Prop where
 s_refuse_unknown:Src K mg "refuse_unknown" (top 16)
 s_all_known:Src K mg "all_known" (top 17)
 s_refuse_worths:Src K mg "refuse_worths" (top 18)
 s_box_sizes:Src K mg "box_sizes" (top 19)
 s_refuse_box_worths:Src K mg "refuse_box_worths" (top 20)
 s_worth_by:Src K mg "worth_by" (top 22)
 s_holds_by:Src K mg "holds_by" (top 23)
 s_step_at:Src K mg "step_at" (top 25)
 s_worths_put:Src K mg "worths_put" (top 26)
 s_input_sizes:Src K mg "input_sizes" (top 27)
 s_beginning_of:Src K mg "beginning_of" (top 28)
 s_run_of:Src K mg "run_of" (top 29)
 s_refuse_no_pair:Src K mg "refuse_no_pair" (top 31)
 s_known_between:Src K mg "known_between" (top 32)
 s_known_for_both:Src K mg "known_for_both" (top 33)
 s_sum_between:Src K mg "sum_between" (top 34)
 s_holds_between:Src K mg "holds_between" (top 35)
 s_runs_part:Src K mg "runs_part" (top 36)
 s_said_alike:Src K mg "said_alike" (top 37)
 s_numbers_that_settle:Src K mg "numbers_that_settle" (top 38)
 s_first_said:Src K mg "first_said" (top 39)
 s_law_cell_at:Src K mg "_law_cell_at" (top 41)
 s_law_numbers:Src K mg "_law_numbers" (top 42)
 s_law_sum:Src K mg "_law_sum" (top 43)
 s_law_condition:Src K mg "_law_condition" (top 44)
 s_law_node:Src K mg "_law_node" (top 45)
 s_law_boxes:Src K mg "_law_boxes" (top 46)
 s_law_program:Src K mg "_law_program" (top 47)
 s_law_renamed:Src K mg "_law_renamed" (top 48)
 s_law_node_as:Src K mg "_law_node_as" (top 49)
 s_law_made_over:Src K mg "_law_made_over" (top 50)
 s_law_skip:Src K mg "_law_skip" (top 51)
 s_law_copied:Src K mg "_law_copied" (top 52)
 s_law_kinds:Src K mg "_law_kinds" (top 53)
 s_law_asked:Src K mg "_law_asked" (top 54)
 s_law_parted:Src K mg "_law_parted" (top 55)
 s_law_spoilt:Src K mg "_law_spoilt" (top 56)
 s_law_wrong:Src K mg "_law_wrong" (top 57)
 s_law_are:Src K mg "_law_are" (top 58)
 s_law_sizes:Src K mg "_law_sizes" (top 59)
 s_law_input_sizes:Src K mg "_law_input_sizes" (top 60)
 s_law_due:Src K mg "_law_due" (top 61)
 s_law_thing:Src K mg "_law_thing" (top 62)
 s_law_named:Src K mg "_law_named" (top 63)
 s_law:Src K mg "law" (top 64)
 s_known_worths:Dl K mg "known_worths" (top 21) "box"
 c_PARTED:tR K mg "PARTED" ["plus","less","same","under","not","both"]
 c_NAMELESS:tR K mg "NAMELESS" ["number","yes"]
 cl:∃T aH aA az aN bf bg aR aS bA aT aU,FC K mg T aH aA az aN bf bg aR aS bA aT aU
 m_len:mg "len"=none
 m_list:mg "list"=none
 m_range:mg "range"=none
 m_zip:mg "zip"=none
 m_dict:mg "dict"=none
 m_int:mg "int"=none
 m_isinstance:mg "isinstance"=none
 m_tuple:mg "tuple"=none
 m_max:mg "max"=none
 m_min:mg "min"=none
 m_sum:mg "sum"=none
 m_enumerate:mg "enumerate"=none
 m_all:mg "all"=none
 m_ValueError:mg "ValueError"=none
end TW
namespace TW
open PySem L2
section
variable {P:Program}{w:World}{K:aac}{mg:Str->Option Value}{base:Heap}
abbrev jS:Stmt:=top 22
def Dj (H:Hp)(a:Addr)(P:Str->Str->Prop)(W:Str->Str->Int):Prop:=∃kvs,H a=some (.dT kvs)/\∀t x,P t x->bE kvs [.inr t,.inr x]=some (.int (W t x))
def Dm (P:Str->Str->Prop):Prop:=∀t x,P t x->t="box"\/t="mine"\/t="yours"
def cB (n:Nat):Sp:=fun vs H Q _=>∃(a:Addr) (v:V) (e:E) (Pb:Str->Str->Prop) (W:Str->Str->Int),vs=[.ref a,v]/\Dj H a Pb W/\Dm Pb/\cF H v e/\e.fS/\e.okIn Pb/\e.dep < n/\Q (.int (e.worth W)) H
theorem zg:aD ["known","sum_told"] ["known","sum_told"] (ag jS):=⟨rfl,rfl,rfl,by decide +kernel,rfl,by decide +kernel,by decide +kernel⟩
theorem b7:aY jS "worth_by":=by decide +kernel
theorem BE {n:Nat}{f:Addr}{fd:aao}(F:cJ K "worth_by" "worth_by" jS f fd)(G:aX P w K mg base "worth_by" ["known","sum_told"] (n + 1) (cB n)) :
    aP P w K mg base cO (n + 2) f fd ["known","sum_told"] (cB (n + 1)):=by
 refine F.ok zg (fun vs H Q E h=>?_) (fun cdv A outer s H vs Q E hr h=>?_)
 · obtain ⟨a,v,e,Pb,W,rfl,_⟩:=h
   rfl
 obtain ⟨a,v,e,Pb,W,rfl,kn,tg,ev,es,ok,hd,q⟩:=h
 refine ⟨_,aeN (ael (aez (aey aeE (aem aew (aei 1) aek) aep) (aeo (aeq (aem aew (aei 1) aek))) aeA)
   (ael (aez (aey aeE (aem aew (aei 1) aek) aep) (aeo (aeq (aen aeM (aet G hr b7 (aeh (aei 0) (aeh (aem aew (aei 1) aek) aej))) (aet G hr b7 (aeh (aei 0) (aeh (aem aew (aei 1) aek) aej)))))) aeA)
   (ael (aez (aey aeE (aem aew (aei 1) aek) aep) (aeo (aeq (aen ae8 (aet G hr b7 (aeh (aei 0) (aeh (aem aew (aei 1) aek) aej))) (aet G hr b7 (aeh (aei 0) (aeh (aem aew (aei 1) aek) aej)))))) aeA)
   (aeo (aeq (afd (bQ hr _ (by decide)) (aei 0) (aei 1))))))),?_⟩
 cases e with
 | num m=>
   obtain ⟨p,rfl,hp⟩:=ev
   refine ⟨_,rfl,p,_,_,_,rfl,rfl,aK.of hp,rfl,rfl,_,rfl,?_⟩
   refine aF (fun _=>?_) (fun c=>absurd (decide_eq_true rfl) c)
   exact ⟨_,rfl,p,_,_,_,rfl,rfl,aK.of hp,rfl,q⟩
 | box t x=>
   obtain ⟨p,rfl,hp⟩:=ev
   obtain ⟨kvs,hk,hv⟩:=kn
   have ht:=tg t x ok
   refine ⟨_,rfl,p,_,_,_,rfl,rfl,aK.of hp,rfl,rfl,_,rfl,?_⟩
   refine aF (fun c=>?_) (fun _=>?_)
   · have:=of_decide_eq_true c
     injection this with z
     subst z
     exact absurd ht (by decide)
   refine ⟨_,rfl,p,_,_,_,rfl,rfl,aK.of hp,rfl,rfl,_,rfl,?_⟩
   refine aF (fun c=>?_) (fun _=>?_)
   · have:=of_decide_eq_true c
     injection this with z
     subst z
     exact absurd ht (by decide)
   refine ⟨_,rfl,p,_,_,_,rfl,rfl,aK.of hp,rfl,rfl,_,rfl,?_⟩
   refine aF (fun c=>?_) (fun _=>?_)
   · have:=of_decide_eq_true c
     injection this with z
     subst z
     exact absurd ht (by decide)
   refine ⟨_,rfl,_,rfl,a,_,rfl,?_,q⟩
   have g:=fO.t (k:=[.inr t,.inr x]) hk hp
   rw [hv t x ok] at g
   exact g
 | yes=>exact es.elim
 | nt a=>exact es.elim
 | two k e1 e2=>
   obtain ⟨x,y,⟨p,rfl,hp⟩,ax,ay⟩:=ev
   have oA:max e1.dep e2.dep + 1 < n + 1:=hd
   cases k with
   | plus=>
     refine ⟨_,rfl,p,_,_,_,rfl,rfl,aK.of hp,rfl,rfl,_,rfl,?_⟩
     refine aF (fun c=>absurd (of_decide_eq_true c) (by decide)) (fun _=>?_)
     refine ⟨_,rfl,p,_,_,_,rfl,rfl,aK.of hp,rfl,rfl,_,rfl,?_⟩
     refine aF (fun _=>?_) (fun c=>absurd (decide_eq_true rfl) c)
     refine ⟨_,rfl,_,rfl,p,_,_,_,rfl,rfl,aK.of hp,rfl,a,x,e1,Pb,W,rfl,kn,tg,ax,es.1,ok.1,by omega,?_⟩
     refine ⟨_,rfl,_,rfl,p,_,_,_,rfl,rfl,aK.of hp,rfl,a,y,e2,Pb,W,rfl,kn,tg,ay,es.2,ok.2,by omega,?_⟩
     exact ⟨_,_,rfl,rfl,q⟩
   | less=>
     refine ⟨_,rfl,p,_,_,_,rfl,rfl,aK.of hp,rfl,rfl,_,rfl,?_⟩
     refine aF (fun c=>absurd (of_decide_eq_true c) (by decide)) (fun _=>?_)
     refine ⟨_,rfl,p,_,_,_,rfl,rfl,aK.of hp,rfl,rfl,_,rfl,?_⟩
     refine aF (fun c=>absurd (of_decide_eq_true c) (by decide)) (fun _=>?_)
     refine ⟨_,rfl,p,_,_,_,rfl,rfl,aK.of hp,rfl,rfl,_,rfl,?_⟩
     refine aF (fun _=>?_) (fun c=>absurd (decide_eq_true rfl) c)
     refine ⟨_,rfl,_,rfl,p,_,_,_,rfl,rfl,aK.of hp,rfl,a,x,e1,Pb,W,rfl,kn,tg,ax,es.1,ok.1,by omega,?_⟩
     refine ⟨_,rfl,_,rfl,p,_,_,_,rfl,rfl,aK.of hp,rfl,a,y,e2,Pb,W,rfl,kn,tg,ay,es.2,ok.2,by omega,?_⟩
     exact ⟨_,_,rfl,rfl,q⟩
   | same=>exact es.elim
   | under=>exact es.elim
   | both=>exact es.elim
theorem uZ {f:Addr}{fd:aao}:aP P w K mg base cO 1 f fd ["known","sum_told"] (cB 0):=by
 have no:∀vs H Q E,¬ cB 0 vs H Q E:=fun vs H Q E h=>by
   obtain ⟨_,_,_,_,_,_,_,_,_,_,_,h1,_⟩:=h
   omega
 exact ⟨fun vs H Q E h=>absurd h (no vs H Q E),fun A outer s H args us vs Q E _ _ _ _ h=>absurd h (no vs H Q E)⟩
theorem ym (s:Src K mg "worth_by" jS):∀n:Nat,aX P w K mg base "worth_by" ["known","sum_told"] (n + 1) (cB n):=by
 obtain ⟨f,fd,F,m⟩:=s
 have b:Binds K fd ["known","sum_told"] []:=d4 F fun _ _ _ _ _ _ _ _=>rfl
 intro n
 have all:aP P w K mg base cO (n + 1) f fd ["known","sum_told"] (cB n):=by
   induction n with
   | zero=>exact uZ
   | succ n ih=>exact BE F ⟨f,fd,ih,F.kp,b,m⟩
 exact ⟨f,fd,all,F.kp,b,m⟩
theorem Dj.same {H H':Hp}{a:Addr}{Pb:Str->Str->Prop}{W:Str->Str->Int}(h:Dj H a Pb W)(s:ah H H'):Dj H' a Pb W:=let ⟨kvs,e,v⟩:=h; ⟨kvs,s _ _ e,v⟩
theorem cF.same {H H':Hp}{v:V}{e:E}(h:cF H v e)(s:ah H H'):cF H' v e:=cF.keep (ah.tk s) h
abbrev sU:Stmt:=top 18
abbrev qi:Stmt:=top 19
theorem Paired.DG {α β:Type}{F:α->β->Prop}{l₁:List α}{l₂:List β}{i:Nat}{x:α}{y:β}(h:Paired F l₁ l₂)(e1:l₁[i]? = some x)(e2:l₂[i]? = some y):F x y:=by
 obtain ⟨z,h1,h2⟩:=Paired.get h e1
 rw [e2] at h1
 cases h1
 exact h2
theorem dh {α β:Type}{f:α->β}{l:List α}{i:Nat}{y:β}(h:(l.map f)[i]? = some y):∃x,l[i]? = some x/\y=f x:=by
 rw [aaC] at h
 obtain ⟨x,h1,h2⟩:=Option.map_eq_some_iff.mp h
 exact ⟨x,h1,h2.symm⟩
def Within (s w:Int):Prop:=0<=w/\w < s
def nQ:Sp:=fun vs H Q _=>∃(sa wa:Addr) (szs ws:List Int),vs=[.ref sa,.ref wa]/\H sa=some (.lst (szs.map V.int))/\H wa=some (.lst (ws.map V.int))/\Paired Within szs ws/\∀H',ah H H'->Q .bN H'
theorem vG:aD ["sizes","worths","size","worth"] ["sizes","worths"] (ag sU):=⟨rfl,rfl,rfl,by decide +kernel,rfl,by decide +kernel,by decide +kernel⟩
theorem oV:aY sU "len":=by decide +kernel
theorem xZ:aY sU "zip":=by decide +kernel
theorem EA {f:Addr}{fd:aao}(F:cJ K "refuse_worths" "refuse_worths" sU f fd)(m_len:mg "len"=none)(m_zip:mg "zip"=none):aP P w K mg base cO 1 f fd ["sizes","worths"] nQ:=by
 refine F.ok vG (fun vs H Q E h=>?_) (fun cdv A outer s H vs Q E hr h=>?_)
 · obtain ⟨sa,wa,szs,ws,rfl,_⟩:=h
   rfl
 obtain ⟨sa,wa,szs,ws,rfl,hs,hw,pw,q⟩:=h
 refine ⟨_,aeN (ael (aez (aey L3.yN (aeD aeF oV m_len aaq (aeh (aei 1) aej)) (aeD aeF oV m_len aaq (aeh (aei 0) aej))) afi aeA)
   (aeo (aeX (L3.iZ xZ m_zip (aeh (aei 0) (aeh (aei 1) aej))) (aeG 2 (aex (aes 2 vG.nd) (aex (aes 3 vG.nd) aeH))) (aeo (aez (aeZ (ae4 (aey aeQ (aei 3) aek) (ae5 (aey L3.Iz (aei 3) (aei 2))))) afi aeA))))),?_⟩
 have hl:szs.length=ws.length:=Paired.length pw
 have FW:(szs.map V.int).length=(ws.map V.int).length:=by rw [aab,aab]; exact hl
 refine ⟨_,rfl,wa,_,rfl,.inl (ao.of hw),_,rfl,sa,_,rfl,.inl (ao.of hs),rfl,_,rfl,?_⟩
 refine aF (fun c=>?_) (fun _=>?_)
 · rw [FW,decide_eq_true rfl] at c
   exact absurd c (by decide)
 refine ⟨_,rfl,_,rfl,sa,wa,rfl,⟨_,ao.of hs⟩,⟨_,ao.of hw⟩,?_⟩
 refine wz (xs:=szs.map V.int) (ys:=ws.map V.int) FW (fun i σ H2=>(∃v1 v2,σ=[some (.ref sa),some (.ref wa),v1,v2])/\ah H H2) ⟨⟨_,_,rfl⟩,same_refl _⟩ (fun i σ H2 _ z=>⟨ao.of (z.2 _ _ hs),ao.of (z.2 _ _ hw)⟩) (fun i x y p σ H2 hx hy z hp=>?_) (fun σ H2 z=>?_)
 · obtain ⟨⟨v1,v2,rfl⟩,z⟩:=z
   obtain ⟨s0,e1,rfl⟩:=dh hx
   obtain ⟨w0,e2,rfl⟩:=dh hy
   obtain ⟨g0,g1⟩:=Paired.DG pw e1 e2
   refine ⟨p,_,rfl,aK.of ae,rfl,_,_,rfl,_,_,rfl,rfl,?_⟩
   refine ⟨_,rfl,_,_,rfl,rfl,_,rfl,?_⟩
   refine aF (fun c=>absurd (of_decide_eq_true c) (by omega)) (fun _=>?_)
   refine ⟨_,rfl,_,rfl,_,_,rfl,rfl,_,rfl,?_⟩
   refine aF (fun c=>absurd (of_decide_eq_true c) (by omega)) (fun _=>?_)
   exact ⟨⟨_,_,rfl⟩,aa z (af hp _)⟩
 · exact q _ z.2
theorem Av (s:Src K mg "refuse_worths" sU)(m_len:mg "len"=none)(m_zip:mg "zip"=none):aX P w K mg base "refuse_worths" ["sizes","worths"] 1 nQ:=
 let ⟨f,fd,F,m⟩:=s
 ⟨f,fd,EA F m_len m_zip,F.kp,d4 F fun _ _ _ _ _ _ _ _=>rfl,m⟩
def qJ (H:Hp)(v:V)(bs:List (Str×Int)):Prop:=∃p B I N vb,v=.ref p/\H p=some (.tup [.ref B,I,N])/\H B=some (.lst vb)/\Paired (bG H) vb bs
theorem qJ.same {H H':Hp}{v:V}{bs:List (Str×Int)}(h:qJ H v bs)(s:ah H H'):qJ H' v bs:=
 let ⟨p,B,I,N,vb,e,h1,h2,h3⟩:=h; ⟨p,B,I,N,vb,e,s _ _ h1,s _ _ h2,Paired.aZ h3 fun _ _ z=>Tp.keep (ah.tk s) z⟩
def dU:Sp:=fun vs H Q _=>∃(v:V) (bs:List (Str×Int)),vs=[v]/\qJ H v bs/\bs.length<=900/\∀l,H l=none->Q (.ref l) (upd H l (.lst ((bs.map (·.2)).map V.int)))
theorem Fj:aD ["program"] ["program"] (ag qi):=⟨rfl,rfl,rfl,by decide +kernel,rfl,by decide +kernel,by decide +kernel⟩
theorem Bu {f:Addr}{fd:aao}(F:cJ K "box_sizes" "box_sizes" qi f fd):aP P w K mg base cO 1 f fd ["program"] dU:=by
 refine F.ok Fj (fun vs H Q E h=>?_) (fun cdv A outer s H vs Q E hr h=>?_)
 · obtain ⟨v,bs,rfl,_⟩:=h
   rfl
 obtain ⟨v,bs,rfl,⟨p,B,I,N,vb,rfl,hp,hB,pb⟩,HP,q⟩:=h
 refine ⟨_,aeN (aeo (aeq (aeP [none,none] ["name","size"] (show aE _ (ag qi) from ⟨rfl,by decide +kernel,by decide +kernel,by decide +kernel⟩) (by rfl) (aeO (aem aew (aei 0) aek)) (fun _ _ _ _ _=>⟨(aeG 2 (aex (aes 0 (show (["name","size"]:List Str).Nodup from by decide +kernel)) (aex (aes 1 (show (["name","size"]:List Str).Nodup from by decide +kernel)) aeH))),aeJ,(aei 1)⟩)))),?_⟩
 have lg:vb.length=bs.length:=Paired.length pb
 refine ⟨_,rfl,p,_,_,_,rfl,rfl,aK.of hp,rfl,B,rfl,⟨_,ao.of hB⟩,fun na jx=>?_⟩
 have Iq:B≠na:=ai hB jx
 refine bj (xs:=vb) (fun i H2=>H2=upd H na (.lst ((bs.take i).map fun b=>V.int b.2))) rfl (fun i H2 _ e=>?_) (fun i x H2 hx e=>?_) (fun H2 e=>?_)
 · subst e
   exact ao.of (by rw [aj Iq]; exact hB)
 · subst e
   obtain ⟨b,fR,p,rfl,hp⟩:=Paired.get pb hx
   have dQ:i < vb.length:=(List.getElem?_eq_some_iff.mp hx).1
   refine ⟨p,_,rfl,aK.of (by rw [aj (ai hp jx)]; exact hp),rfl,_,_,rfl,_,_,rfl,rfl,?_⟩
   refine bV (A:=fun H3=>dg (CF 1) na _ H3 _) ⟨_,rfl,_,ae,aB (by rw [aab,aaw]; omega),aL (Pv:=fun i H2=>H2=upd H na (.lst ((bs.take i).map fun b=>V.int b.2))) (by repeat' constructor) dQ ?_⟩
   rw [bT]
   congr 2
   rw [aal,fR,aah]
   rfl
 · subst e
   have et:(bs.take vb.length).map (fun b=>V.int b.2)=(bs.map (·.2)).map V.int:=by rw [lg,aaA,abm]; rfl
   rw [et]
   exact q na jx
theorem yd (s:Src K mg "box_sizes" qi)  : aX P w K mg base "box_sizes" ["program"] 1 dU:=
 let ⟨f,fd,F,m⟩:=s
 ⟨f,fd,Bu F ,F.kp,qS F fun _ _ _ _ _ _ _=>rfl,m⟩
abbrev gV:Stmt:=top 21
def oI:List (Str×Int)->List Int->Str->Int
 | b :: bs,w :: ws,x=>if b.1=x then w else oI bs ws x
 | _,_,_=>0
def bS (side:Str):List (Str×Int)->List Int->List (List Key×V)
 | b :: bs,w :: ws=>([.inr side,.inr b.1],.int w) :: bS side bs ws
 | _,_=>[]
theorem gS (side:Str):∀(bs:List (Str×Int)) (ws:List Int),(bS side bs ws).length<=bs.length
 | [],_=>by simp [bS]
 | _ :: _,[]=>by simp [bS]
 | _ :: bs,_ :: ws=>by simp [bS]; exact gS side bs ws
theorem dW (side:Str):∀(bs:List (Str×Int)) (ws:List Int) (x:Str),bs.length=ws.length->x∈bs.map (·.1)->bE (bS side bs ws) [.inr side,.inr x]=some (.int (oI bs ws x))
 | [],_,_,_,h=>by simp at h
 | _ :: _,[],_,h,_=>by simp at h
 | b :: bs,w :: ws,x,hl,hx=>by
   show bE (([.inr side,.inr b.1],V.int w) :: bS side bs ws) _=some (.int (if b.1=x then w else oI bs ws x))
   by_cases e:b.1=x
   · rw [if_pos e,bM (p:=(([.inr side,.inr b.1]:List Key),V.int w)) (by rw [← e])]
   · rw [if_neg e,bB (p:=(([.inr side,.inr b.1]:List Key),V.int w)) (fun z=>by injection z with _ z; injection z with z _; injection z with z; exact e z)]
     refine dW side bs ws x (by simpa using hl) ?_
     rcases List.mem_cons.mp hx with z | z
     · exact absurd z.symm e
     · exact z
theorem dw (side:Str):∀(bs:List (Str×Int)) (ws:List Int) (s x:Str),(s=side->x ∉ bs.map (·.1))->bE (bS side bs ws) [.inr s,.inr x]=none
 | [],_,_,_,_=>rfl
 | _ :: _,[],_,_,_=>rfl
 | b :: bs,w :: ws,s,x,h=>by
   show bE (([.inr side,.inr b.1],V.int w) :: bS side bs ws) _=none
   rw [bB (p:=(([.inr side,.inr b.1]:List Key),V.int w)) (fun z=>by injection z with z1 z; injection z1 with z1; injection z with z _; injection z with z; exact h z1.symm (List.mem_cons.mpr (.inl z.symm)))]
   exact dw side bs ws s x fun e z=>h e (List.mem_cons.mpr (.inr z))
theorem su {κ:Type}[DecidableEq κ]{kvs:List (κ×V)}{k:κ}{v:V}(h:bE kvs k=none):putK kvs k v=kvs++[(k,v)]:=by
 unfold putK
 rw [gO,h]
 rfl
theorem nj (side:Str):∀(bs:List (Str×Int)) (ws:List Int) (b:Str×Int) (w:Int),bs.length=ws.length->bS side (bs++[b]) (ws++[w])=bS side bs ws++[([.inr side,.inr b.1],.int w)]
 | [],[],_,_,_=>rfl
 | [],_ :: _,_,_,h=>by simp at h
 | _ :: _,[],_,_,h=>by simp at h
 | b :: bs,w :: ws,c,v,h=>by
   show _ :: bS side (bs++[c]) (ws++[v])=_
   rw [nj side bs ws c v (by simpa using h)]
   rfl
theorem Ej {bs:List (Str×Int)}(nd:(bs.map (·.1)).Nodup){i:Nat}{b:Str×Int}(h:bs[i]? = some b):b.1 ∉ (bs.take i).map (·.1):=by
 intro z
 have hi:i < bs.length:=(List.getElem?_eq_some_iff.mp h).1
 have e:bs[i]=b:=(List.getElem?_eq_some_iff.mp h).2
 obtain ⟨c,hc,e2⟩:=List.mem_map.mp z
 obtain ⟨j,hj,e3⟩:=acd hc
 have Xf:j < i:=by rw [aaw] at hj; omega
 rw [List.getElem_take] at e3
 have k1:(bs.map (·.1))[j]'(by rw [aab]; omega)=(bs.map (·.1))[i]'(by rw [aab]; omega):=by
   rw [List.getElem_map,List.getElem_map,e3,e,e2]
 exact (List.pairwise_iff_getElem.mp nd) j i _ _ Xf k1
def dn:Sp:=fun vs H Q _=>∃(v:V) (wa:Addr) (side:Str) (bs:List (Str×Int)) (ws:List Int),vs=[v,.ref wa,.str side]/\qJ H v bs/\(bs.map (·.1)).Nodup/\bs.length<=900/\H wa=some (.lst (ws.map V.int))/\bs.length=ws.length /\
 ∀D H',H D=none->ah H H'->H' D=some (.dT (bS side bs ws))->Q (.ref D) H'
theorem Ci:aD ["program","worths","side"] ["program","worths","side"] (ag gV):=⟨rfl,rfl,rfl,by decide +kernel,rfl,by decide +kernel,by decide +kernel⟩
theorem rp:aY gV "zip":=by decide +kernel
theorem ph {f:Addr}{fd:aao}{dV:Value}(F:Dg K "known_worths" "known_worths" gV dV f fd)(m_zip:mg "zip"=none):aP P w K mg base cO 1 f fd ["program","worths","side"] dn:=by
 refine F.ok Ci (fun vs H Q E h=>?_) (fun cdv A outer s H vs Q E hr h=>?_)
 · obtain ⟨v,wa,side,bs,ws,rfl,_⟩:=h
   rfl
 obtain ⟨v,wa,side,bs,ws,rfl,⟨p,B,I,N,vb,rfl,hp,hB,pb⟩,nd,HP,hw,hlen,q⟩:=h
 refine ⟨_,aeN (aeo (aeq (L3.Vx [none,none,none,some 2] ["name","size","worth","side"] (bQ hr _ (by decide)) (show aE _ (ag gV) from ⟨rfl,by decide +kernel,by decide +kernel,by decide +kernel⟩) (by rfl) (L3.iZ rp m_zip (aeh (aem aew (aei 0) aek) (aeh (aei 1) aej))) (fun _ _ _ _ _=>⟨(aeG 2 (aex (aeG 2 (aex (aes 0 (show (["name","size","worth","side"]:List Str).Nodup from by decide +kernel)) (aex (aes 1 (show (["name","size","worth","side"]:List Str).Nodup from by decide +kernel)) aeH))) (aex (aes 2 (show (["name","size","worth","side"]:List Str).Nodup from by decide +kernel)) aeH))),aeJ,(aer (aeh (aei 3) (aeh (aei 0) aej))),(aei 2)⟩)))),?_⟩
 have lg:vb.length=bs.length:=Paired.length pb
 have FW:vb.length=(ws.map V.int).length:=by rw [aab]; omega
 refine ⟨_,rfl,p,_,_,_,rfl,rfl,aK.of hp,rfl,_,rfl,B,wa,rfl,⟨_,ao.of hB⟩,⟨_,ao.of hw⟩,fun D hD=>?_⟩
 have nB:B≠D:=ai hB hD
 have nw:wa≠D:=ai hw hD
 refine qZ (xs:=vb) (ys:=ws.map V.int) FW (fun i H2=>(∀b o,H b=some o->H2 b=some o)/\H2 D=some (.dT (bS side (bs.take i) (ws.take i)))) ⟨af hD _,ae⟩ (fun i H2 _ z=>⟨ao.of (z.1 _ _ hB),ao.of (z.1 _ _ hw)⟩) (fun i x y pr H2 hx hy z F0=>?_) (fun H2 z=>?_)
 · obtain ⟨z,um⟩:=z
   obtain ⟨b,fR,pp,rfl,wC⟩:=Paired.get pb hx
   obtain ⟨w0,QJ,rfl⟩:=dh hy
   have dQ:i < vb.length:=(List.getElem?_eq_some_iff.mp hx).1
   have AZ:=z _ _ wC
   refine ⟨pr,_,rfl,aK.of ae,rfl,_,_,rfl,⟨pp,_,rfl,aK.of (by rw [aj (ai AZ F0)]; exact AZ),rfl,_,_,rfl,_,_,rfl,rfl,_,_,rfl,rfl,?_⟩⟩
   refine bV (A:=fun H3=>Eh _ _ D _ H3 _) ?_
   refine ⟨_,rfl,_,rfl,agr,fun kp LF=>⟨_,rfl,?_⟩⟩
   have Yp:D≠kp:=ai (show (upd H2 pr _) D=some _ by rw [aj (ai um F0)]; exact um) LF
   have NZ:(upd (upd H2 pr (.tup [.ref pp,.int w0])) kp (.tup [.str side,.str b.1])) D=some (.dT (bS side (bs.take i) (ws.take i))):=by
     rw [aj Yp,aj (ai um F0)]; exact um
   have DY:=gS side (bs.take i) (ws.take i)
   have ZC:(bs.take i).length<=bs.length:=by rw [aaw]; omega
   refine ⟨_,mv.t (k:=[.inr side,.inr b.1]) NZ ae (aB (by omega)),aL (Pv:=fun i H2=>(∀b o,H b=some o->H2 b=some o)/\H2 D=some (.dT (bS side (bs.take i) (ws.take i)))) (by repeat' constructor) dQ ⟨fun c o hc=>?_,?_⟩⟩
   · have Lw:=z c o hc
     have n1:c≠D:=ai hc hD
     have DS:(upd H2 pr (.tup [.ref pp,.int w0])) c=some o:=by rw [aj (ai Lw F0)]; exact Lw
     rw [aj n1,aj (ai DS LF)]
     exact DS
   · rw [ae,su (dw side _ _ _ _ fun _=>Ej nd fR),aal,aal,fR,QJ]
     show _=some (HO.dT (bS side (bs.take i++[b]) (ws.take i++[w0])))
     rw [nj side _ _ b w0 (by rw [aaw,aaw]; omega)]
 · obtain ⟨z,um⟩:=z
   rw [lg,aaA,hlen,aaA] at um
   exact q D H2 hD z um
def qK (P:Program)(w:World)(K:aac)(mg:Str->Option Value)(base:Heap)(x:Str)(ps:List Str)(k:Nat)(sp:Sp)(d:Str):Prop:=
 ∃f fd tk,aP P w K mg base cO k f fd ps sp/\abc K (.ref f)=true/\Binds K fd ps [.str d tk]/\mg x=some (.ref f)
theorem uq (s:Dl K mg "known_worths" gV "box")(m_zip:mg "zip"=none):qK P w K mg base "known_worths" ["program","worths","side"] 1 dn "box":=by
 obtain ⟨f,fd,T,tk,oc,od,n,sl,F,m,lT⟩:=s
 refine ⟨f,fd,tk,ph F m_zip,F.kp,?_,m⟩
 obtain ⟨oc,od,kV,doc,pm,an,cdv,ct,osl,rfl,lk,hcd⟩:=F.ex
 intro s us kin hl
 have h2:us.length=2:=by simpa using hl
 match us,h2 with
 | [u1,u2],_=>exact adX rfl (kin _ _ lT) rfl rfl rfl
theorem qK.mono {x:Str}{ps:List Str}{j k:Nat}{sp:Sp}{d:Str}(h:qK P w K mg base x ps j sp d)(hk:j<=k):qK P w K mg base x ps k sp d:=
 let ⟨f,fd,tk,a,b,c,e⟩:=h; ⟨f,fd,tk,a.mono hk,b,c,e⟩
theorem Rj {X:Cx}{x:Str}{d:Str}{p pos:Pos}{ps:List Str}{kk:Nat}{sp:Sp}{e:Expr}{es:List Expr}{t:TA}(D:qK X.prog X.w X.K X.mg X.base x ps kk sp d)(hr:dt kk X.A)(hg:Gl X x)(ha:L3.SA X (e :: es) t)(hdb:(x == ("__debug__":Str))=false:=by decide) :
   L3.SE X (.Call (.Name x p) (e :: es) [] pos) (nW sp [.str d] E0 t):=
 let ⟨_,_,tk,G,kp,b,m⟩:=D
 ⟨qf G hr hg m kp b (.cons ⟨tk,rfl⟩ .nil) Gm ha.h.pa hdb ((ha.h.ns e es rfl).1.h es X.env) ((ha.h.ns e es rfl).2 pos X.env)⟩
abbrev NR (bs:List (Str×Int)):Str->Str->Prop:=fun t y=>t="box"/\y∈bs.map (·.1)
theorem mC (bs:List (Str×Int)):Dm (NR bs):=fun t _ h=>.inl h.1
abbrev gD:Stmt:=top 23
def dk (n:Nat):Sp:=fun vs H Q _=>∃(a:Addr) (v:V) (e:E) (Pb:Str->Str->Prop) (W:Str->Str->Int),vs=[.ref a,v]/\Dj H a Pb W/\Dm Pb/\cF H v e/\e.gR/\e.okIn Pb/\e.dep < n/\Q (.bl (e.holds W)) H
theorem zd:aD ["known","condition"] ["known","condition"] (ag gD):=⟨rfl,rfl,rfl,by decide +kernel,rfl,by decide +kernel,by decide +kernel⟩
theorem bZ:aY gD "worth_by":=by decide +kernel
theorem cY:aY gD "holds_by":=by decide +kernel
theorem Bx {n:Nat}{f:Addr}{fd:aao}(F:cJ K "holds_by" "holds_by" gD f fd)(WB:∀n,aX P w K mg base "worth_by" ["known","sum_told"] (n + 1) (cB n))(G:aX P w K mg base "holds_by" ["known","condition"] (n + 2) (dk n)) :
    aP P w K mg base cO (n + 3) f fd ["known","condition"] (dk (n + 1)):=by
 refine F.ok zd (fun vs H Q E h=>?_) (fun cdv A outer s H vs Q E hr h=>?_)
 · obtain ⟨a,v,e,Pb,W,rfl,_⟩:=h
   rfl
 obtain ⟨a,v,e,Pb,W,rfl,kn,tg,ev,es,ok,hd,q⟩:=h
 have W1:=(WB n).mono (show n + 1<=n + 2 by omega)
 refine ⟨_,aeN (ael (aez (aey aeE (aem aew (aei 1) aek) aep) (aeo (aeq aeL)) aeA)
   (ael (aez (aey aeE (aem aew (aei 1) aek) aep) (aeo (aeq (aeS aeE (aet W1 hr bZ (aeh (aei 0) (aeh (aem aew (aei 1) aek) aej))) (aet W1 hr bZ (aeh (aei 0) (aeh (aem aew (aei 1) aek) aej)))))) aeA)
   (ael (aez (aey aeE (aem aew (aei 1) aek) aep) (aeo (aeq (aeS aeQ (aet W1 hr bZ (aeh (aei 0) (aeh (aem aew (aei 1) aek) aej))) (aet W1 hr bZ (aeh (aei 0) (aeh (aem aew (aei 1) aek) aej)))))) aeA)
   (ael (aez (aey aeE (aem aew (aei 1) aek) aep) (aeo (aeq (L3.Yu (aet G hr cY (aeh (aei 0) (aeh (aem aew (aei 1) aek) aej)))))) aeA)
   (aeo (aeq (L3.K0 (aet G hr cY (aeh (aei 0) (aeh (aem aew (aei 1) aek) aej))) (L3.Rh (aet G hr cY (aeh (aei 0) (aeh (aem aew (aei 1) aek) aej))))))))))),?_⟩
 cases e with
 | num m=>exact es.elim
 | box t x=>exact es.elim
 | yes=>
   obtain ⟨p,rfl,hp⟩:=ev
   refine ⟨_,rfl,p,_,_,_,rfl,rfl,aK.of hp,rfl,rfl,_,rfl,?_⟩
   refine aF (fun _=>?_) (fun c=>absurd (decide_eq_true rfl) c)
   exact q
 | nt e1=>
   obtain ⟨x,⟨p,rfl,hp⟩,ax⟩:=ev
   have oA:e1.dep + 1 < n + 1:=hd
   refine ⟨_,rfl,p,_,_,_,rfl,rfl,aK.of hp,rfl,rfl,_,rfl,?_⟩
   refine aF (fun c=>absurd (of_decide_eq_true c) (by decide)) (fun _=>?_)
   refine ⟨_,rfl,p,_,_,_,rfl,rfl,aK.of hp,rfl,rfl,_,rfl,?_⟩
   refine aF (fun c=>absurd (of_decide_eq_true c) (by decide)) (fun _=>?_)
   refine ⟨_,rfl,p,_,_,_,rfl,rfl,aK.of hp,rfl,rfl,_,rfl,?_⟩
   refine aF (fun c=>absurd (of_decide_eq_true c) (by decide)) (fun _=>?_)
   refine ⟨_,rfl,p,_,_,_,rfl,rfl,aK.of hp,rfl,rfl,_,rfl,?_⟩
   refine aF (fun _=>?_) (fun c=>absurd (decide_eq_true rfl) c)
   exact ⟨_,rfl,_,rfl,p,_,_,_,rfl,rfl,aK.of hp,rfl,a,x,e1,Pb,W,rfl,kn,tg,ax,es,ok,by omega,_,rfl,q⟩
 | two k e1 e2=>
   obtain ⟨x,y,⟨p,rfl,hp⟩,ax,ay⟩:=ev
   have oA:max e1.dep e2.dep + 1 < n + 1:=hd
   cases k with
   | plus=>exact es.elim
   | less=>exact es.elim
   | same=>
     refine ⟨_,rfl,p,_,_,_,rfl,rfl,aK.of hp,rfl,rfl,_,rfl,?_⟩
     refine aF (fun c=>absurd (of_decide_eq_true c) (by decide)) (fun _=>?_)
     refine ⟨_,rfl,p,_,_,_,rfl,rfl,aK.of hp,rfl,rfl,_,rfl,?_⟩
     refine aF (fun _=>?_) (fun c=>absurd (decide_eq_true rfl) c)
     refine ⟨_,rfl,_,rfl,p,_,_,_,rfl,rfl,aK.of hp,rfl,a,x,e1,Pb,W,rfl,kn,tg,ax,es.1,ok.1,by omega,?_⟩
     refine ⟨_,rfl,_,rfl,p,_,_,_,rfl,rfl,aK.of hp,rfl,a,y,e2,Pb,W,rfl,kn,tg,ay,es.2,ok.2,by omega,?_⟩
     have eq:decide (V.int (e1.worth W)=V.int (e2.worth W))=decide (e1.worth W=e2.worth W):=decide_eq_decide.mpr ⟨fun z=>by injection z,fun z=>by rw [z]⟩
     refine ⟨rfl,?_⟩
     rw [eq]
     exact q
   | under=>
     refine ⟨_,rfl,p,_,_,_,rfl,rfl,aK.of hp,rfl,rfl,_,rfl,?_⟩
     refine aF (fun c=>absurd (of_decide_eq_true c) (by decide)) (fun _=>?_)
     refine ⟨_,rfl,p,_,_,_,rfl,rfl,aK.of hp,rfl,rfl,_,rfl,?_⟩
     refine aF (fun c=>absurd (of_decide_eq_true c) (by decide)) (fun _=>?_)
     refine ⟨_,rfl,p,_,_,_,rfl,rfl,aK.of hp,rfl,rfl,_,rfl,?_⟩
     refine aF (fun _=>?_) (fun c=>absurd (decide_eq_true rfl) c)
     refine ⟨_,rfl,_,rfl,p,_,_,_,rfl,rfl,aK.of hp,rfl,a,x,e1,Pb,W,rfl,kn,tg,ax,es.1,ok.1,by omega,?_⟩
     refine ⟨_,rfl,_,rfl,p,_,_,_,rfl,rfl,aK.of hp,rfl,a,y,e2,Pb,W,rfl,kn,tg,ay,es.2,ok.2,by omega,?_⟩
     exact ⟨_,_,rfl,rfl,q⟩
   | both=>
     refine ⟨_,rfl,p,_,_,_,rfl,rfl,aK.of hp,rfl,rfl,_,rfl,?_⟩
     refine aF (fun c=>absurd (of_decide_eq_true c) (by decide)) (fun _=>?_)
     refine ⟨_,rfl,p,_,_,_,rfl,rfl,aK.of hp,rfl,rfl,_,rfl,?_⟩
     refine aF (fun c=>absurd (of_decide_eq_true c) (by decide)) (fun _=>?_)
     refine ⟨_,rfl,p,_,_,_,rfl,rfl,aK.of hp,rfl,rfl,_,rfl,?_⟩
     refine aF (fun c=>absurd (of_decide_eq_true c) (by decide)) (fun _=>?_)
     refine ⟨_,rfl,p,_,_,_,rfl,rfl,aK.of hp,rfl,rfl,_,rfl,?_⟩
     refine aF (fun c=>absurd (of_decide_eq_true c) (by decide)) (fun _=>?_)
     refine ⟨_,rfl,_,rfl,p,_,_,_,rfl,rfl,aK.of hp,rfl,a,x,e1,Pb,W,rfl,kn,tg,ax,es.1,ok.1,by omega,_,rfl,?_⟩
     have q':Q (.bl (e1.holds W && e2.holds W)) H:=q
     refine aF (fun c=>?_) (fun c=>?_)
     · refine ⟨_,rfl,_,rfl,p,_,_,_,rfl,rfl,aK.of hp,rfl,a,y,e2,Pb,W,rfl,kn,tg,ay,es.2,ok.2,by omega,?_⟩
       rw [c,Bool.true_and] at q'
       exact q'
     · rw [Bool.eq_false_iff.mpr c,adH] at q'
       exact q'
theorem uX {f:Addr}{fd:aao}:aP P w K mg base cO 2 f fd ["known","condition"] (dk 0):=by
 have no:∀vs H Q E,¬ dk 0 vs H Q E:=fun vs H Q E h=>by
   obtain ⟨_,_,_,_,_,_,_,_,_,_,_,h1,_⟩:=h
   omega
 exact ⟨fun vs H Q E h=>absurd h (no vs H Q E),fun A outer s H args us vs Q E _ _ _ _ h=>absurd h (no vs H Q E)⟩
theorem yg (s:Src K mg "holds_by" gD)(WB:∀n,aX P w K mg base "worth_by" ["known","sum_told"] (n + 1) (cB n)):∀n:Nat,aX P w K mg base "holds_by" ["known","condition"] (n + 2) (dk n):=by
 obtain ⟨f,fd,F,m⟩:=s
 have b:Binds K fd ["known","condition"] []:=d4 F fun _ _ _ _ _ _ _ _=>rfl
 intro n
 have all:aP P w K mg base cO (n + 2) f fd ["known","condition"] (dk n):=by
   induction n with
   | zero=>exact uX
   | succ n ih=>exact Bx F WB ⟨f,fd,ih,F.kp,b,m⟩
 exact ⟨f,fd,all,F.kp,b,m⟩
abbrev sX:Stmt:=top 26
abbrev eN:Stmt:=top 25
def jN (bs:List (Str×Int))(ws:List Int)(x:Str)(t:Int):List Int:=List.zipWith (fun b w=>if b.1=x then t % b.2 else w) bs ws
theorem B5 {bs:List (Str×Int)}{ws:List Int}{x:Str}{t:Int}{i:Nat}{b:Str×Int}{w:Int}(h1:bs[i]? = some b)(h2:ws[i]? = some w):(jN bs ws x t)[i]? = some (if b.1=x then t % b.2 else w):=by
 unfold jN
 rw [List.getElem?_zipWith,h1,h2]
theorem sO {bs:List (Str×Int)}{ws:List Int}{x:Str}{t:Int}(h:bs.length=ws.length):(jN bs ws x t).length=bs.length:=by
 unfold jN
 rw [List.length_zipWith]
 omega
def nU:Sp:=fun vs H Q _=>∃(v:V) (wa:Addr) (x:Str) (t:Int) (bs:List (Str×Int)) (ws:List Int),vs=[v,.ref wa,.str x,.int t]/\qJ H v bs/\bs.length<=900/\(∀b∈bs,1<=b.2)/\H wa=some (.lst (ws.map V.int))/\bs.length=ws.length /\
 ∀l H',H l=none->ah H H'->H' l=some (.lst ((jN bs ws x t).map V.int))->Q (.ref l) H'
theorem JU:aD ["program","worths","put_name","told"] ["program","worths","put_name","told"] (ag sX):=⟨rfl,rfl,rfl,by decide +kernel,rfl,by decide +kernel,by decide +kernel⟩
theorem x9:aY sX "zip":=by decide +kernel
theorem EF {f:Addr}{fd:aao}(F:cJ K "worths_put" "worths_put" sX f fd)(m_zip:mg "zip"=none):aP P w K mg base cO 1 f fd ["program","worths","put_name","told"] nU:=by
 refine F.ok JU (fun vs H Q E h=>?_) (fun cdv A outer s H vs Q E hr h=>?_)
 · obtain ⟨v,wa,x,t,bs,ws,rfl,_⟩:=h
   rfl
 obtain ⟨v,wa,x,t,bs,ws,rfl,⟨p,B,I,N,vb,rfl,hp,hB,pb⟩,HP,sz,hw,hlen,q⟩:=h
 refine ⟨_,aeN (aeo (aeq (aeP [none,none,none,some 2,some 3] ["name","size","worth","put_name","told"] (show aE _ (ag sX) from ⟨rfl,by decide +kernel,by decide +kernel,by decide +kernel⟩) (by rfl) (L3.iZ x9 m_zip (aeh (aem aew (aei 0) aek) (aeh (aei 1) aej))) (fun _ _ _ _ _=>⟨(aeG 2 (aex (aeG 2 (aex (aes 0 (show (["name","size","worth","put_name","told"]:List Str).Nodup from by decide +kernel)) (aex (aes 1 (show (["name","size","worth","put_name","told"]:List Str).Nodup from by decide +kernel)) aeH))) (aex (aes 2 (show (["name","size","worth","put_name","told"]:List Str).Nodup from by decide +kernel)) aeH))),aeJ,(L3.T6 (aey aeE (aei 0) (aei 3)) (aen aeC (aei 4) (aei 1)) (aei 2))⟩)))),?_⟩
 have lg:vb.length=bs.length:=Paired.length pb
 have FW:vb.length=(ws.map V.int).length:=by rw [aab]; omega
 refine ⟨_,rfl,p,_,_,_,rfl,rfl,aK.of hp,rfl,_,rfl,B,wa,rfl,⟨_,ao.of hB⟩,⟨_,ao.of hw⟩,fun D hD=>?_⟩
 refine qZ (xs:=vb) (ys:=ws.map V.int) FW (fun i H2=>(∀b o,H b=some o->H2 b=some o)/\H2 D=some (.lst (((jN bs ws x t).take i).map V.int))) ⟨af hD _,ae⟩ (fun i H2 _ z=>⟨ao.of (z.1 _ _ hB),ao.of (z.1 _ _ hw)⟩) (fun i x0 y0 pr H2 hx hy z F0=>?_) (fun H2 z=>?_)
 · obtain ⟨z,um⟩:=z
   obtain ⟨b,fR,pp,rfl,wC⟩:=Paired.get pb hx
   obtain ⟨w0,QJ,rfl⟩:=dh hy
   have dQ:i < vb.length:=(List.getElem?_eq_some_iff.mp hx).1
   have AZ:=z _ _ wC
   have lO:=sz b (aan fR)
   have hg:=B5 (x:=x) (t:=t) fR QJ
   have Qf:((jN bs ws x t).take i).length<=900:=by rw [aaw,sO hlen]; omega
   have NZ:(upd H2 pr (.tup [.ref pp,.int w0])) D=some (.lst (((jN bs ws x t).take i).map V.int)):=by rw [aj (ai um F0)]; exact um
   have keep:∀u,∀c o,H c=some o->(upd (upd H2 pr (.tup [.ref pp,.int w0])) D u) c=some o:=fun u c o hc=>by
     have Lw:=z c o hc
     rw [aj (ai hc hD),aj (ai Lw F0)]
     exact Lw
   refine ⟨pr,_,rfl,aK.of ae,rfl,_,_,rfl,⟨pp,_,rfl,aK.of (by rw [aj (ai AZ F0)]; exact AZ),rfl,_,_,rfl,_,_,rfl,rfl,_,_,rfl,rfl,?_⟩⟩
   refine bV (A:=fun H3=>dg _ D _ H3 _) ?_
   refine ⟨_,rfl,_,rfl,rfl,_,rfl,?_⟩
   refine aF (fun c=>?_) (fun c=>?_)
   · have c':b.1=x:=by have:=of_decide_eq_true c; injection this
     refine ⟨_,rfl,_,rfl,_,_,rfl,rfl,(by show (0:Int) < b.2; omega),_,NZ,aB (by rw [aab]; omega),aL (Pv:=fun i H2=>(∀b o,H b=some o->H2 b=some o)/\H2 D=some (.lst (((jN bs ws x t).take i).map V.int))) (by repeat' constructor) dQ ⟨keep _,?_⟩⟩
     rw [ae,aal,hg,if_pos c',aah]
     rfl
   · have c':¬ b.1=x:=fun z=>c (decide_eq_true (by rw [z]))
     refine ⟨_,rfl,_,NZ,aB (by rw [aab]; omega),aL (Pv:=fun i H2=>(∀b o,H b=some o->H2 b=some o)/\H2 D=some (.lst (((jN bs ws x t).take i).map V.int))) (by repeat' constructor) dQ ⟨keep _,?_⟩⟩
     rw [ae,aal,hg,if_neg c',aah]
     rfl
 · obtain ⟨z,um⟩:=z
   have et:(jN bs ws x t).take vb.length=jN bs ws x t:=by rw [lg,← sO (x:=x) (t:=t) hlen,aaA]
   rw [et] at um
   exact q D H2 hD z um
theorem AA (s:Src K mg "worths_put" sX)(m_zip:mg "zip"=none):aX P w K mg base "worths_put" ["program","worths","put_name","told"] 1 nU:=
 let ⟨f,fd,F,m⟩:=s
 ⟨f,fd,EF F m_zip,F.kp,Ds F fun _ _ _ _ _ _ _ _ _ _=>rfl,m⟩
def kU (bs:List (Str×Int))(ws:List Int):Nd->Option (List Int×Int×List Int)
 | .fin=>none
 | .put x s n=>some ([],n,jN bs ws x (s.worth fun _ y=>oI bs ws y))
 | .say s n=>some ([s.worth fun _ y=>oI bs ws y],n,ws)
 | .test c n o=>some ([],if (c.holds fun _ y=>oI bs ws y)=true then n else o,ws)
structure pN (H:Hp)(v:V)(wa:Addr)(bs:List (Str×Int))(ws:List Int)(ins:List Str)(nds:List Nd)(pl:Int)(nd:Nd)(m:Int):Prop where
 pa:bD H v bs ins nds
 ndn:(bs.map (·.1)).Nodup
 len:bs.length<=900
 sz:∀b∈bs,1<=b.2
 wl:H wa=some (.lst (ws.map V.int))
 pw:Paired Within (bs.map (·.2)) ws
 p0:0<=pl
 here:nds[pl.toNat]? = some nd
 gd:nd.good (· ∈ bs.map (·.1)) m 19
theorem bD.same {H H':Hp}{v:V}{bs:List (Str×Int)}{ins:List Str}{nds:List Nd}(h:bD H v bs ins nds)(s:ah H H'):bD H' v bs ins nds:=by
 obtain ⟨p,B,I,N,vb,vn,rfl,hp,hB,hI,hN,pb,pn⟩:=h
 exact ⟨p,B,I,N,vb,vn,rfl,s _ _ hp,s _ _ hB,s _ _ hI,s _ _ hN,Paired.aZ pb fun _ _ z=>Tp.keep (ah.tk s) z,Paired.aZ pn fun _ _ z=>cy.keep (ah.tk s) z⟩
theorem pN.ll {H:Hp}{v:V}{wa:Addr}{bs:List (Str×Int)}{ws:List Int}{ins:List Str}{nds:List Nd}{pl:Int}{nd:Nd}{m:Int}(h:pN H v wa bs ws ins nds pl nd m):bs.length=ws.length:=by
 have:=Paired.length h.pw
 rw [aab] at this
 exact this
structure Told (H H':Hp)(r l1 l2:Addr)(said:List Int)(n:Int)(ws':List Int):Prop where
 s:ah H H'
 hr:H r=none
 h1:H l1=none
 h2:H l2=none
 er:H' r=some (.tup [.ref l1,.int n,.ref l2])
 e1:H' l1=some (.lst (said.map V.int))
 e2:H' l2=some (.lst (ws'.map V.int))
 ne:l1≠l2
def qv:Sp:=fun vs H Q _=>∃(v:V) (pl:Int) (wa:Addr) (bs:List (Str×Int)) (ws:List Int) (ins:List Str) (nds:List Nd) (nd:Nd) (m:Int),vs=[v,.int pl,.ref wa]/\pN H v wa bs ws ins nds pl nd m /\
 (kU bs ws nd=none->∀H',ah H H'->Q .bN H')/\∀said n ws',kU bs ws nd=some (said,n,ws')->∀r l1 l2 H',Told H H' r l1 l2 said n ws'->Q (.ref r) H'
theorem nL:aD ["program","place","worths","node","known"] ["program","place","worths"] (ag eN):=⟨rfl,rfl,rfl,by decide +kernel,rfl,by decide +kernel,by decide +kernel⟩
theorem kH:aY eN "holds_by":=by decide +kernel
theorem gf:aY eN "known_worths":=by decide +kernel
theorem fq:aY eN "list":=by decide +kernel
theorem eU:aY eN "worth_by":=by decide +kernel
theorem iV:aY eN "worths_put":=by decide +kernel
theorem yX {f:Addr}{fd:aao}(F:cJ K "step_at" "step_at" eN f fd)(m_list:mg "list"=none)(KW:qK P w K mg base "known_worths" ["program","worths","side"] 24 dn "box")(WP:aX P w K mg base "worths_put" ["program","worths","put_name","told"] 24 nU)
    (WB:aX P w K mg base "worth_by" ["known","sum_told"] 24 (cB 20)) (HB:aX P w K mg base "holds_by" ["known","condition"] 24 (dk 20)):aP P w K mg base cO 25 f fd ["program","place","worths"] qv:=by
 refine F.ok nL (fun vs H Q E h=>?_) (fun cdv A outer s H vs Q E hr h=>?_)
 · obtain ⟨v,pl,wa,bs,ws,ins,nds,nd,m,rfl,_⟩:=h
   rfl
 obtain ⟨v,pl,wa,bs,ws,ins,nds,nd,m,rfl,pre,qn,qs⟩:=h
 refine ⟨_,aeN (ael (aev 3 nL.nd (aem aeu (aem aew (aei 0) aek) (aei 1)))
   (ael (aez (aey aeE (aem aew (aei 3) aek) aep) (aeo (aeq ae6)) aeA)
   (ael (aev 4 nL.nd (Rj KW hr gf (aeh (aei 0) (aeh (aei 2) aej))))
   (ael (aez (aey aeE (aem aew (aei 3) aek) aep) (aeo (aeq (aer (aeh (aeB aej) (aeh (aem aew (aei 3) aek) (aeh (aet WP hr iV (aeh (aei 0) (aeh (aei 2) (aeh (aem aew (aei 3) aek) (aeh (aet WB hr eU (aeh (aei 4) (aeh (aem aew (aei 3) aek) aej))) aej))))) aej)))))) aeA)
   (ael (aez (aey aeE (aem aew (aei 3) aek) aep) (aeo (aeq (aer (aeh (aeB (aeh (aet WB hr eU (aeh (aei 4) (aeh (aem aew (aei 3) aek) aej))) aej)) (aeh (aem aew (aei 3) aek) (aeh (aeK aeY fq m_list (by decide +kernel) (aeh (aei 2) aej)) aej)))))) aeA)
   (ael (aez (ae3 (aet HB hr kH (aeh (aei 4) (aeh (aem aew (aei 3) aek) aej)))) (aeo (aeq (aer (aeh (aeB aej) (aeh (aem aew (aei 3) aek) (aeh (aeK aeY fq m_list (by decide +kernel) (aeh (aei 2) aej)) aej)))))) aeA)
   (aeo (aeq (aer (aeh (aeB aej) (aeh (aem aew (aei 3) aek) (aeh (aeK aeY fq m_list (by decide +kernel) (aeh (aei 2) aej)) aej)))))))))))),?_⟩
 obtain ⟨p,B,I,N,vb,vn,rfl,hp,hB,hI,hN,pb,pn⟩:=pre.pa
 have dQ:pl.toNat < nds.length:=(List.getElem?_eq_some_iff.mp pre.here).1
 have TY:vn.length=nds.length:=Paired.length pn
 obtain ⟨x0,F9⟩ : ∃x0,vn[pl.toNat]? = some x0:=⟨vn[pl.toNat]'(by omega),aad (by omega)⟩
 have n9:lU vn pl=some x0:=by
   have:=gP F9
   rw [acZ pre.p0] at this
   exact this
 have yr:=Paired.DG pn F9 pre.here
 have gd:=pre.gd
 refine ⟨_,rfl,p,_,_,_,rfl,rfl,aK.of hp,rfl,_,rfl,N,_,_,_,rfl,rfl,ao.of hN,n9,?_⟩
 cases nd with
 | fin=>
   obtain ⟨x,rfl,hx⟩:=yr
   refine ⟨_,rfl,x,_,_,_,rfl,rfl,aK.of hx,rfl,rfl,_,rfl,?_⟩
   refine aF (fun _=>?_) (fun c=>absurd (decide_eq_true rfl) c)
   exact qn rfl _ (same_refl _)
 | put nm e n=>
   obtain ⟨u,⟨x,rfl,hx⟩,eu⟩:=yr
   obtain ⟨g1,g2,g3,g4,g5,g6⟩:=gd
   refine ⟨_,rfl,x,_,_,_,rfl,rfl,aK.of hx,rfl,rfl,_,rfl,?_⟩
   refine aF (fun c=>absurd (of_decide_eq_true c) (by decide)) (fun _=>?_)
   refine ⟨_,rfl,_,rfl,.ref p,wa,"box",bs,ws,rfl,⟨p,B,_,_,vb,rfl,hp,hB,pb⟩,pre.ndn,pre.len,pre.wl,pre.ll,fun D H1 hD s1 hk=>?_⟩
   have kn:Dj H1 D (NR bs) (fun _ y=>oI bs ws y):=⟨_,hk,fun t x h=>by rw [h.1]; exact dW "box" bs ws x pre.ll h.2⟩
   have qH:=s1 _ _ hx
   have Nv:=s1 _ _ pre.wl
   refine ⟨_,rfl,x,_,_,_,rfl,rfl,aK.of qH,rfl,rfl,_,rfl,?_⟩
   refine aF (fun _=>?_) (fun c=>absurd (decide_eq_true rfl) c)
   refine ⟨agp,fun l1 hl1=>?_⟩
   have s2:=af hl1 (.lst [])
   have e1:(upd H1 l1 (.lst [])) l1=some (.lst []):=ae
   generalize upd H1 l1 (.lst [])=H2 at s2 e1 ⊢
   have s02:=aa s1 s2
   have yx:=s2 _ _ qH
   refine ⟨_,rfl,x,_,_,_,rfl,rfl,aK.of yx,rfl,_,rfl,_,rfl,_,rfl,x,_,_,_,rfl,rfl,aK.of yx,rfl,_,rfl,_,rfl,x,_,_,_,rfl,rfl,aK.of yx,rfl,D,u,e,_,_,rfl,kn.same s2,mC bs,eu.same s02,g2,g3,by omega,?_⟩
   refine ⟨.ref p,wa,nm,_,bs,ws,rfl,⟨p,B,_,_,vb,rfl,s02 _ _ hp,s02 _ _ hB,Paired.aZ pb fun _ _ z=>Tp.keep (ah.tk s02) z⟩,pre.len,pre.sz,s02 _ _ pre.wl,pre.ll,fun l2 H3 hl2 s3 e2=>⟨ags,fun r rS=>?_⟩⟩
   have s4:=af rS (.tup [.ref l1,.int n,.ref l2])
   have i8:=aa s02 s3
   exact qs _ _ _ rfl r l1 l2 _ ⟨aa i8 s4,aq i8 rS,aq s1 hl1,aq s02 hl2,ae,s4 _ _ (s3 _ _ e1),s4 _ _ e2,ai e1 hl2⟩
 | say e n=>
   obtain ⟨u,⟨x,rfl,hx⟩,eu⟩:=yr
   obtain ⟨g2,g3,g4,g5,g6⟩:=gd
   refine ⟨_,rfl,x,_,_,_,rfl,rfl,aK.of hx,rfl,rfl,_,rfl,?_⟩
   refine aF (fun c=>absurd (of_decide_eq_true c) (by decide)) (fun _=>?_)
   refine ⟨_,rfl,_,rfl,.ref p,wa,"box",bs,ws,rfl,⟨p,B,_,_,vb,rfl,hp,hB,pb⟩,pre.ndn,pre.len,pre.wl,pre.ll,fun D H1 hD s1 hk=>?_⟩
   have kn:Dj H1 D (NR bs) (fun _ y=>oI bs ws y):=⟨_,hk,fun t x h=>by rw [h.1]; exact dW "box" bs ws x pre.ll h.2⟩
   have qH:=s1 _ _ hx
   have Nv:=s1 _ _ pre.wl
   refine ⟨_,rfl,x,_,_,_,rfl,rfl,aK.of qH,rfl,rfl,_,rfl,?_⟩
   refine aF (fun c=>absurd (of_decide_eq_true c) (by decide)) (fun _=>?_)
   refine ⟨_,rfl,x,_,_,_,rfl,rfl,aK.of qH,rfl,rfl,_,rfl,?_⟩
   refine aF (fun _=>?_) (fun c=>absurd (decide_eq_true rfl) c)
   refine ⟨_,rfl,_,rfl,x,_,_,_,rfl,rfl,aK.of qH,rfl,D,u,e,_,_,rfl,kn,mC bs,eu.same s1,g2,g3,by omega,agq,fun l1 hl1=>?_⟩
   have s2:=af hl1 (.lst [.int (e.worth fun _ y=>oI bs ws y)])
   have e1:(upd H1 l1 (.lst [.int (e.worth fun _ y=>oI bs ws y)])) l1=some _:=ae
   generalize upd H1 l1 (.lst [.int (e.worth fun _ y=>oI bs ws y)])=H2 at s2 e1 ⊢
   have s02:=aa s1 s2
   refine ⟨_,rfl,x,_,_,_,rfl,rfl,aK.of (s2 _ _ qH),rfl,_,rfl,wa,_,rfl,.inl (ao.of (s2 _ _ Nv)),fun l2 hl2=>⟨ags,fun r rS=>?_⟩⟩
   have s3:=af hl2 (.lst (ws.map V.int))
   have s4:=af rS (.tup [.ref l1,.int n,.ref l2])
   have i8:=aa s02 s3
   exact qs _ _ _ rfl r l1 l2 _ ⟨aa i8 s4,aq i8 rS,aq s1 hl1,aq s02 hl2,ae,s4 _ _ (s3 _ _ e1),s4 _ _ ae,ai e1 hl2⟩
 | test c n o=>
   obtain ⟨u,⟨x,rfl,hx⟩,eu⟩:=yr
   obtain ⟨g2,g3,g4,g5,g6⟩:=gd
   refine ⟨_,rfl,x,_,_,_,rfl,rfl,aK.of hx,rfl,rfl,_,rfl,?_⟩
   refine aF (fun c=>absurd (of_decide_eq_true c) (by decide)) (fun _=>?_)
   refine ⟨_,rfl,_,rfl,.ref p,wa,"box",bs,ws,rfl,⟨p,B,_,_,vb,rfl,hp,hB,pb⟩,pre.ndn,pre.len,pre.wl,pre.ll,fun D H1 hD s1 hk=>?_⟩
   have kn:Dj H1 D (NR bs) (fun _ y=>oI bs ws y):=⟨_,hk,fun t x h=>by rw [h.1]; exact dW "box" bs ws x pre.ll h.2⟩
   have qH:=s1 _ _ hx
   have Nv:=s1 _ _ pre.wl
   refine ⟨_,rfl,x,_,_,_,rfl,rfl,aK.of qH,rfl,rfl,_,rfl,?_⟩
   refine aF (fun c=>absurd (of_decide_eq_true c) (by decide)) (fun _=>?_)
   refine ⟨_,rfl,x,_,_,_,rfl,rfl,aK.of qH,rfl,rfl,_,rfl,?_⟩
   refine aF (fun c=>absurd (of_decide_eq_true c) (by decide)) (fun _=>?_)
   refine ⟨_,rfl,_,rfl,x,_,_,_,rfl,rfl,aK.of qH,rfl,D,u,c,_,_,rfl,kn,mC bs,eu.same s1,g2,g3,by omega,_,rfl,?_⟩
   refine aF (fun hc=>?_) (fun hc=>?_)
   · refine ⟨agp,fun l1 hl1=>?_⟩
     have s2:=af hl1 (.lst [])
     have e1:(upd H1 l1 (.lst [])) l1=some (.lst []):=ae
     generalize upd H1 l1 (.lst [])=H2 at s2 e1 ⊢
     have s02:=aa s1 s2
     refine ⟨_,rfl,x,_,_,_,rfl,rfl,aK.of (s2 _ _ qH),rfl,_,rfl,wa,_,rfl,.inl (ao.of (s2 _ _ Nv)),fun l2 hl2=>⟨ags,fun r rS=>?_⟩⟩
     have s3:=af hl2 (.lst (ws.map V.int))
     have s4:=af rS (.tup [.ref l1,.int n,.ref l2])
     have i8:=aa s02 s3
     exact qs [] n ws (by show some _=some _; rw [if_pos hc]) r l1 l2 _ ⟨aa i8 s4,aq i8 rS,aq s1 hl1,aq s02 hl2,ae,s4 _ _ (s3 _ _ e1),s4 _ _ ae,ai e1 hl2⟩
   · refine ⟨agp,fun l1 hl1=>?_⟩
     have s2:=af hl1 (.lst [])
     have e1:(upd H1 l1 (.lst [])) l1=some (.lst []):=ae
     generalize upd H1 l1 (.lst [])=H2 at s2 e1 ⊢
     have s02:=aa s1 s2
     refine ⟨_,rfl,x,_,_,_,rfl,rfl,aK.of (s2 _ _ qH),rfl,_,rfl,wa,_,rfl,.inl (ao.of (s2 _ _ Nv)),fun l2 hl2=>⟨ags,fun r rS=>?_⟩⟩
     have s3:=af hl2 (.lst (ws.map V.int))
     have s4:=af rS (.tup [.ref l1,.int o,.ref l2])
     have i8:=aa s02 s3
     exact qs [] o ws (by show some _=some _; rw [if_neg hc]) r l1 l2 _ ⟨aa i8 s4,aq i8 rS,aq s1 hl1,aq s02 hl2,ae,s4 _ _ (s3 _ _ e1),s4 _ _ ae,ai e1 hl2⟩
theorem uA (s:Src K mg "step_at" eN)(m_list:mg "list"=none)(KW:qK P w K mg base "known_worths" ["program","worths","side"] 24 dn "box")(WP:aX P w K mg base "worths_put" ["program","worths","put_name","told"] 24 nU)(WB:aX P w K mg base "worth_by" ["known","sum_told"] 24 (cB 20))(HB:aX P w K mg base "holds_by" ["known","condition"] 24 (dk 20)):aX P w K mg base "step_at" ["program","place","worths"] 25 qv:=
 let ⟨f,fd,F,m⟩:=s
 ⟨f,fd,yX F m_list KW WP WB HB,F.kp,tW F fun _ _ _ _ _ _ _ _ _=>rfl,m⟩
def gj:List (Str×Int)->List Int->List (Key×V)
 | b :: bs,w :: ws=>(.inr b.1,.int w) :: gj bs ws
 | _,_=>[]
theorem kK:∀(bs:List (Str×Int)) (ws:List Int) (k:Key),k∈(gj bs ws).map (·.1)->∃x∈bs.map (·.1),k=.inr x
 | [],_,_,h=>by simp [gj] at h
 | _ :: _,[],_,h=>by simp [gj] at h
 | b :: bs,w :: ws,k,h=>by
   rcases List.mem_cons.mp h with z | z
   · exact ⟨b.1,List.mem_cons.mpr (.inl rfl),z⟩
   · obtain ⟨x,hx,e⟩:=kK bs ws k z
     exact ⟨x,List.mem_cons.mpr (.inr hx),e⟩
theorem i7:∀(kvs d:List (Key×V)) (k:Key),k ∉ kvs.map (·.1)->bE (putAll d kvs) k=bE d k
 | [],_,_,_=>rfl
 | p :: r,d,k,h=>by
   show bE (putAll (putK d p.1 p.2) r) k=_
   rw [i7 r _ k (fun z=>h (List.mem_cons.mpr (.inr z))),ff,if_neg (fun z=>h (List.mem_cons.mpr (.inl z)))]
theorem fC:∀(bs:List (Str×Int)) (ws:List Int) (d:List (Key×V)) (x:Str),bs.length=ws.length->(bs.map (·.1)).Nodup->x∈bs.map (·.1)->bE (putAll d (gj bs ws)) (.inr x)=some (.int (oI bs ws x))
 | [],_,_,_,_,_,h=>by simp at h
 | _ :: _,[],_,_,h,_,_=>by simp at h
 | b :: bs,w :: ws,d,x,hl,nd,hx=>by
   rw [aaI,acG] at nd
   show bE (putAll (putK d (.inr b.1) (.int w)) (gj bs ws)) (.inr x)=some (.int (if b.1=x then w else oI bs ws x))
   by_cases e:b.1=x
   · rw [if_pos e,i7 _ _ _ (fun z=>by
       obtain ⟨y,hy,e2⟩:=kK bs ws _ z
       injection e2 with e2
       subst e2
       exact nd.1 (e ▸ hy)),ff,if_pos (by rw [e])]
   · rw [if_neg e]
     refine fC bs ws _ x (by simpa using hl) nd.2 ?_
     rcases List.mem_cons.mp hx with z | z
     · exact absurd z.symm e
     · exact z
abbrev sS:Stmt:=top 27
abbrev gC:Stmt:=top 28
def ck (bs:List (Str×Int))(x:Str):Int:=oI bs (bs.map (·.2)) x
def yE (bs:List (Str×Int)):List (Key×V):=gj bs (bs.map (·.2))
theorem nD {H:Hp}:∀{vb:List V} {bs:List (Str×Int)},Paired (bG H) vb bs->Paired (tO H) vb (yE bs)
 | _,_,.nil=>.nil
 | _,_,.cons ⟨p,e,h⟩ r=>.cons ⟨p,e,h⟩ (nD r)
def tJ (ins:List Str):List (Str×Int):=ins.map fun x=>(x,0)
theorem eV (ins:List Str):(tJ ins).map (·.1)=ins:=by
 unfold tJ
 rw [abm]
 exact List.map_id _
def Aj (ins:List Str)(iw:List Int)(y:Str):Int:=oI (tJ ins) iw y
theorem CS:∀(ins:List Str) (iw:List Int),(ins.map (Sum.inr:Str->Key)).zip (iw.map V.int)=gj (tJ ins) iw
 | [],_=>by simp [tJ,gj]
 | _ :: _,[]=>by simp [tJ,gj]
 | x :: ins,w :: iw=>by
   show (Sum.inr x,V.int w) :: (ins.map (Sum.inr:Str->Key)).zip (iw.map V.int)=(Sum.inr x,V.int w) :: gj (tJ ins) iw
   rw [CS ins iw]
theorem qD:∀{bs:List (Str×Int)} {ws:List Int} {x:Str},x ∉ bs.map (·.1)->oI bs ws x=0
 | [],_,_,_=>rfl
 | _ :: _,[],_,_=>rfl
 | b :: bs,w :: ws,x,h=>by
   show (if b.1=x then w else oI bs ws x)=0
   rw [if_neg (fun e=>h (List.mem_cons.mpr (.inl e.symm)))]
   exact qD fun z=>h (List.mem_cons.mpr (.inr z))
def cR (bs:List (Str×Int))(ins:List Str)(iw:List Int):List Int:=bs.map fun b=>Aj ins iw b.1
theorem kh:∀{bs:List (Str×Int)} {b:Str×Int},(bs.map (·.1)).Nodup->b∈bs->ck bs b.1=b.2
 | [],_,_,h=>nomatch h
 | c :: bs,b,nd,h=>by
   rw [aaI,acG] at nd
   show (if c.1=b.1 then c.2 else oI bs (bs.map (·.2)) b.1)=b.2
   rcases List.mem_cons.mp h with rfl | h
   · rw [if_pos rfl]
   · rw [if_neg (fun e:c.1=b.1=>nd.1 (by rw [e]; exact List.mem_map.mpr ⟨b,h,rfl⟩))]
     exact kh nd.2 h
theorem Ak {sz:Str->Int}:∀{ins:List Str} {iw:List Int} {y:Str},Paired Within (ins.map sz) iw->y∈ins->0<=Aj ins iw y/\Aj ins iw y < sz y
 | [],_,_,_,h=>nomatch h
 | x :: ins,[],_,h,_=>nomatch h
 | x :: ins,w :: iw,y,.cons r t,h=>by
   show 0<=(if x=y then w else Aj ins iw y)/\(if x=y then w else Aj ins iw y) < sz y
   by_cases e:x=y
   · rw [if_pos e,← e]
     exact r
   · rw [if_neg e]
     rcases List.mem_cons.mp h with z | z
     · exact absurd z.symm e
     · exact Ak t z
theorem tU {bs:List (Str×Int)}{ins:List Str}{iw:List Int}(nd:(bs.map (·.1)).Nodup)(sz:∀b∈bs,1<=b.2)(pw:Paired Within (ins.map (ck bs)) iw):Paired Within (bs.map (·.2)) (cR bs ins iw):=by
 have go:∀cs:List (Str×Int),(∀c∈cs,c∈bs)->Paired Within (cs.map (·.2)) (cs.map fun b=>Aj ins iw b.1):=fun cs=>by
   induction cs with
   | nil=>exact fun _=>.nil
   | cons c cs ih=>
     intro h
     refine .cons ?_ (ih fun d hd=>h d (List.mem_cons.mpr (.inr hd)))
     have hc:=h c (List.mem_cons.mpr (.inl rfl))
     have h1:=sz c hc
     by_cases m:c.1∈ins
     · obtain ⟨a1,a2⟩:=Ak pw m
       rw [kh nd hc] at a2
       exact ⟨a1,a2⟩
     · have e:Aj ins iw c.1=0:=qD (by rw [eV]; exact m)
       show Within c.2 (Aj ins iw c.1)
       rw [e]
       exact ⟨adB 0,by omega⟩
 exact go bs fun _ h=>h
structure Fits (bs:List (Str×Int))(ins:List Str):Prop where
 nd:(bs.map (·.1)).Nodup
 len:bs.length<=900
 sz:∀b∈bs,1<=b.2
 ind:ins.Nodup
 sub:∀x∈ins,x∈bs.map (·.1)
 ilen:ins.length<=900
def fD:Sp:=fun vs H Q _=>∃(v:V) (bs:List (Str×Int)) (ins:List Str) (nds:List Nd),vs=[v]/\bD H v bs ins nds/\Fits bs ins/\∀l H',H l=none->ah H H'->H' l=some (.lst ((ins.map (ck bs)).map V.int))->Q (.ref l) H'
theorem Cg:aD ["program","sizes"] ["program"] (ag sS):=⟨rfl,rfl,rfl,by decide +kernel,rfl,by decide +kernel,by decide +kernel⟩
theorem ug:aY sS "dict":=by decide +kernel
theorem Eu {f:Addr}{fd:aao}(F:cJ K "input_sizes" "input_sizes" sS f fd)(m_dict:mg "dict"=none):aP P w K mg base cO 1 f fd ["program"] fD:=by
 refine F.ok Cg (fun vs H Q E h=>?_) (fun cdv A outer s H vs Q E hr h=>?_)
 · obtain ⟨v,bs,ins,nds,rfl,_⟩:=h
   rfl
 obtain ⟨v,bs,ins,nds,rfl,pa,ft,q⟩:=h
 refine ⟨_,aeN (ael (aev 1 Cg.nd (aeK L3.zS ug m_dict (by decide +kernel) (aeh (aem aew (aei 0) aek) aej)))
   (aeo (aeq (aeP [none,some 1] ["name","sizes"] (show aE _ (ag sS) from ⟨rfl,by decide +kernel,by decide +kernel,by decide +kernel⟩) (by rfl) (aeO (aem aew (aei 0) aek)) (fun _ _ _ _ _=>⟨(aes 0 (show (["name","sizes"]:List Str).Nodup from by decide +kernel)),aeJ,(afd (bQ hr _ (by decide)) (aei 1) (aei 0))⟩))))),?_⟩
 obtain ⟨p,B,I,N,vb,vn,rfl,hp,hB,hI,hN,pb,pn⟩:=pa
 have ilen:=ft.ilen
 refine ⟨_,rfl,p,_,_,_,rfl,rfl,aK.of hp,rfl,B,vb,yE bs,rfl,hB,nD pb,fun D hD=>?_⟩
 have s1:=af hD (.dK (putAll [] (yE bs)))
 have eD:(upd H D (.dK (putAll [] (yE bs)))) D=some (.dK (putAll [] (yE bs))):=ae
 generalize upd H D (.dK (putAll [] (yE bs)))=H2 at s1 eD ⊢
 have Hy:=s1 _ _ hI
 refine ⟨_,rfl,p,_,_,_,rfl,rfl,aK.of (s1 _ _ hp),rfl,I,rfl,⟨_,ao.of Hy⟩,fun l hl=>?_⟩
 refine bj (xs:=ins.map V.str) (fun i H3=>(∀b o,H2 b=some o->H3 b=some o)/\H3 l=some (.lst (((ins.map (ck bs)).take i).map V.int))) ⟨af hl _,ae⟩ (fun i H3 _ z=>ao.of (z.1 _ _ Hy)) (fun i x0 H3 hx z=>?_) (fun H3 z=>?_)
 · obtain ⟨z,kJ⟩:=z
   have dQ:=(List.getElem?_eq_some_iff.mp hx).1
   obtain ⟨x,L4,rfl⟩:=dh hx
   have hv:=fC bs (bs.map (·.2)) [] x (by rw [aab]) ft.nd (ft.sub x (aan L4))
   have g:=fO.k (k:=.inr x) (z _ _ eD)
   rw [show bE (putAll [] (yE bs)) (.inr x)=some (.int (ck bs x)) from hv] at g
   refine bo ?_
   refine bV (A:=fun H4=>dg _ l _ H4 _) ?_
   refine ⟨_,rfl,_,rfl,D,_,rfl,g,_,kJ,aB (by rw [aab,aaw,aab]; omega),aL (Pv:=fun i H3=>(∀b o,H2 b=some o->H3 b=some o)/\H3 l=some (.lst (((ins.map (ck bs)).take i).map V.int))) (by repeat' constructor) dQ ⟨fun c o hc=>?_,?_⟩⟩
   · rw [aj (ai hc hl)]
     exact z c o hc
   · rw [ae,aal,aaC,L4,aah]
     rfl
 · obtain ⟨z,kJ⟩:=z
   have et:(ins.map (ck bs)).take (ins.map V.str).length=ins.map (ck bs):=by rw [aab,← aab (f:=ck bs) (as:=ins),aaA]
   rw [et] at kJ
   exact q l H3 (aq s1 hl) (aa s1 z) kJ
theorem Aq (s:Src K mg "input_sizes" sS)(m_dict:mg "dict"=none):aX P w K mg base "input_sizes" ["program"] 1 fD:=
 let ⟨f,fd,F,m⟩:=s
 ⟨f,fd,Eu F m_dict,F.kp,qS F fun _ _ _ _ _ _ _=>rfl,m⟩
def mf:Sp:=fun vs H Q _=>∃(v:V) (ia:Addr) (bs:List (Str×Int)) (ins:List Str) (nds:List Nd) (iw:List Int),vs=[v,.ref ia]/\bD H v bs ins nds/\Fits bs ins/\H ia=some (.lst (iw.map V.int))/\Paired Within (ins.map (ck bs)) iw/\∀l H',H l=none->ah H H'->H' l=some (.lst ((cR bs ins iw).map V.int))->Q (.ref l) H'
theorem xj:aD ["program","inputs","given"] ["program","inputs"] (ag gC):=⟨rfl,rfl,rfl,by decide +kernel,rfl,by decide +kernel,by decide +kernel⟩
theorem rm:aY gC "dict":=by decide +kernel
theorem iJ:aY gC "input_sizes":=by decide +kernel
theorem fZ:aY gC "refuse_worths":=by decide +kernel
theorem ud:aY gC "zip":=by decide +kernel
theorem Bt {f:Addr}{fd:aao}(F:cJ K "beginning_of" "beginning_of" gC f fd)(m_dict:mg "dict"=none)(m_zip:mg "zip"=none)(RW:aX P w K mg base "refuse_worths" ["sizes","worths"] 1 nQ)(IS:aX P w K mg base "input_sizes" ["program"] 1 fD):aP P w K mg base cO 2 f fd ["program","inputs"] mf:=by
 refine F.ok xj (fun vs H Q E h=>?_) (fun cdv A outer s H vs Q E hr h=>?_)
 · obtain ⟨v,ia,bs,ins,nds,iw,rfl,_⟩:=h
   rfl
 obtain ⟨v,ia,bs,ins,nds,iw,rfl,pa,ft,hw,pw,q⟩:=h
 refine ⟨_,aeN (ael (aeI (aet RW hr fZ (aeh (aet IS hr iJ (aeh (aei 0) aej)) (aeh (aei 1) aej))))
   (ael (aev 2 xj.nd (L3.DA rm m_dict ud m_zip (aeh (aem aew (aei 0) aek) (aeh (aei 1) aej))))
   (aeo (aeq (aeP [none,none,some 2] ["name","size","given"] (show aE _ (ag gC) from ⟨rfl,by decide +kernel,by decide +kernel,by decide +kernel⟩) (by rfl) (aeO (aem aew (aei 0) aek)) (fun _ _ _ _ _=>⟨(aeG 2 (aex (aes 0 (show (["name","size","given"]:List Str).Nodup from by decide +kernel)) (aex (aes 1 (show (["name","size","given"]:List Str).Nodup from by decide +kernel)) aeH))),aeJ,(L3.K8 (bQ hr _ (by decide)) (aei 2) (aei 0) aek)⟩)))))),?_⟩
 have hlen:ins.length=iw.length:=by have:=Paired.length pw; rw [aab] at this; exact this
 have ilen:=ft.ilen
 have Vn:=ft.len
 refine ⟨_,rfl,v,bs,ins,nds,rfl,pa,ft,fun sl Ha TU sa ea=>?_⟩
 refine ⟨_,rfl,sl,ia,ins.map (ck bs),iw,rfl,ea,sa _ _ hw,pw,fun H1 sb=>?_⟩
 have s1:=aa sa sb
 obtain ⟨p,B,I,N,vb,vn,rfl,hp,hB,hI,hN,pb,pn⟩:=pa.same s1
 have lg:vb.length=bs.length:=Paired.length pb
 have L0:=s1 _ _ hw
 have Qh:(ins.map V.str)=(ins.map (Sum.inr:Str->Key)).map kV:=by rw [abm]; rfl
 refine ⟨_,rfl,p,_,_,_,rfl,rfl,aK.of hp,rfl,_,rfl,I,ia,ins.map Sum.inr,iw.map V.int,rfl,by rw [← Qh]; exact ao.of hI,ao.of L0,by rw [aab,aab]; exact hlen,by rw [aab]; omega,fun D hD=>?_⟩
 rw [CS]
 have s2:=af hD (.dK (putAll [] (gj (tJ ins) iw)))
 have eD:(upd H1 D (.dK (putAll [] (gj (tJ ins) iw)))) D=some (.dK (putAll [] (gj (tJ ins) iw))):=ae
 generalize upd H1 D (.dK (putAll [] (gj (tJ ins) iw)))=H3 at s2 eD ⊢
 have Kn:=s2 _ _ hB
 have Mw:Paired (bG H3) vb bs:=Paired.aZ pb fun _ _ z=>Tp.keep (ah.tk s2) z
 refine ⟨_,rfl,p,_,_,_,rfl,rfl,aK.of (s2 _ _ hp),rfl,B,rfl,⟨_,ao.of Kn⟩,fun l hl=>?_⟩
 refine bj (xs:=vb) (fun i H4=>(∀b o,H3 b=some o->H4 b=some o)/\H4 l=some (.lst (((cR bs ins iw).take i).map V.int))) ⟨af hl _,ae⟩ (fun i H4 _ z=>ao.of (z.1 _ _ Kn)) (fun i x0 H4 hx z=>?_) (fun H4 z=>?_)
 · obtain ⟨z,DY⟩:=z
   obtain ⟨b,fR,pp,rfl,wC⟩:=Paired.get Mw hx
   have dQ:i < vb.length:=(List.getElem?_eq_some_iff.mp hx).1
   have QH:(bE (putAll [] (gj (tJ ins) iw)) (.inr b.1)).getD (.int 0)=V.int (Aj ins iw b.1):=by
     by_cases m:b.1∈ins
     · have hv:=fC (tJ ins) iw [] b.1 (by unfold tJ; rw [aab]; exact hlen) (by rw [eV]; exact ft.ind) (by rw [eV]; exact m)
       rw [hv]
       rfl
     · have hv:bE (putAll [] (gj (tJ ins) iw)) (.inr b.1)=none:=by
         rw [i7 _ _ _ (fun zz=>by
           obtain ⟨y,hy,e2⟩:=kK (tJ ins) iw _ zz
           injection e2 with e2
           rw [eV] at hy
           exact m (e2 ▸ hy))]
         rfl
       rw [hv,show Aj ins iw b.1=0 from qD (by rw [eV]; exact m)]
       rfl
   refine ⟨pp,_,rfl,aK.of (z _ _ wC),rfl,_,_,rfl,_,_,rfl,rfl,?_⟩
   refine bV (A:=fun H5=>dg _ l _ H5 _) ?_
   refine ⟨_,rfl,D,rfl,.inl ⟨_,.inl (z _ _ eD)⟩,_,rfl,_,fO.k (k:=.inr b.1) (z _ _ eD),?_⟩
   rw [QH]
   refine ⟨_,DY,aB (by rw [aab,aaw]; unfold cR; rw [aab]; omega),aL (Pv:=fun i H4=>(∀b o,H3 b=some o->H4 b=some o)/\H4 l=some (.lst (((cR bs ins iw).take i).map V.int))) (by repeat' constructor) dQ ⟨fun c o hc=>?_,?_⟩⟩
   · rw [aj (ai hc hl)]
     exact z c o hc
   · rw [ae,aal,show (cR bs ins iw)[i]? = some (Aj ins iw b.1) by unfold cR; rw [aaC,fR]; rfl,aah]
     rfl
 · obtain ⟨z,DY⟩:=z
   have et:(cR bs ins iw).take vb.length=cR bs ins iw:=by
     have:vb.length=(cR bs ins iw).length:=by unfold cR; rw [aab]; exact lg
     rw [this,aaA]
   rw [et] at DY
   exact q l H4 (aq (aa s1 s2) hl) (aa s1 (aa s2 z)) DY
theorem yc (s:Src K mg "beginning_of" gC)(m_dict:mg "dict"=none)(m_zip:mg "zip"=none)(RW:aX P w K mg base "refuse_worths" ["sizes","worths"] 1 nQ)(IS:aX P w K mg base "input_sizes" ["program"] 1 fD):aX P w K mg base "beginning_of" ["program","inputs"] 2 mf:=
 let ⟨f,fd,F,m⟩:=s
 ⟨f,fd,Bt F m_dict m_zip RW IS,F.kp,d4 F fun _ _ _ _ _ _ _ _=>rfl,m⟩
abbrev jb:Stmt:=top 29
theorem nG {x:Str}{t:Int}:∀{bs:List (Str×Int)} {ws:List Int},(∀b∈bs,1<=b.2)->Paired Within (bs.map (·.2)) ws->Paired Within (bs.map (·.2)) (jN bs ws x t)
 | [],_,_,.nil=>.nil
 | b :: bs,w :: ws,sz,.cons r q=>by
   have h1:=sz b (List.mem_cons.mpr (.inl rfl))
   refine .cons ?_ (nG (fun c hc=>sz c (List.mem_cons.mpr (.inr hc))) q)
   show Within b.2 (if b.1=x then t % b.2 else w)
   by_cases e:b.1=x
   · rw [if_pos e]
     exact ⟨aav _ (by omega),aap _ (by omega)⟩
   · rw [if_neg e]
     exact r
theorem pF {bs:List (Str×Int)}{ws:List Int}{nd:Nd}{m:Int}{d:Nat}{r:List Int×Int×List Int}(sz:∀b∈bs,1<=b.2)(pw:Paired Within (bs.map (·.2)) ws)(gd:nd.good (· ∈ bs.map (·.1)) m d)(h:kU bs ws nd=some r):0<=r.2.1/\r.2.1 < m/\Paired Within (bs.map (·.2)) r.2.2/\r.1.length<=1:=by
 cases nd with
 | fin=>cases h
 | put x s n=>
   cases h
   exact ⟨gd.2.2.2.2.1,gd.2.2.2.2.2,nG sz pw,aaU _⟩
 | say s n=>
   cases h
   exact ⟨gd.2.2.2.1,gd.2.2.2.2,pw,aaf _⟩
 | test c n o=>
   cases h
   refine ⟨?_,?_,pw,aaU _⟩
   · show 0<=(if _ then n else o)
     split
     · exact gd.2.2.2.1
     · exact gd.2.2.2.2.2.1
   · show (if _ then n else o) < m
     split
     · exact gd.2.2.2.2.1
     · exact gd.2.2.2.2.2.2
structure Kg (H:Hp)(v:V)(bs:List (Str×Int))(ins:List Str)(nds:List Nd):Prop where
 pa:bD H v bs ins nds
 ft:Fits bs ins
 one:1<=nds.length
 gd:∀e∈nds,e.good (· ∈ bs.map (·.1)) nds.length 19
theorem Kg.same {H H':Hp}{v:V}{bs:List (Str×Int)}{ins:List Str}{nds:List Nd}(h:Kg H v bs ins nds)(s:ah H H'):Kg H' v bs ins nds:=⟨h.pa.same s,h.ft,h.one,h.gd⟩
def gL (bs:List (Str×Int))(nds:List Nd)(st:Int×List Int):Option (List Int×Int×List Int):=(nds[st.1.toNat]?).bind fun nd=>kU bs st.2 nd
theorem nV {bs:List (Str×Int)}{nds:List Nd}{pl:Int}{ws:List Int}{nd:Nd}(h:nds[pl.toNat]? = some nd):gL bs nds (pl,ws)=kU bs ws nd:=by
 show (nds[pl.toNat]?).bind (fun nd=>kU bs ws nd)=_
 rw [h]
 rfl
def zL (bs:List (Str×Int))(m:Nat)(st:Int×List Int):Prop:=0<=st.1/\st.1 < m/\Paired Within (bs.map (·.2)) st.2
theorem CH {bs:List (Str×Int)}{nds:List Nd}{s0:Int×List Int}(sz:∀b∈bs,1<=b.2)(gd:∀e∈nds,e.good (· ∈ bs.map (·.1)) nds.length 19)(h0:zL bs nds.length s0):∀{n:Nat} {st:Int×List Int} {sd:List Int},tr (gL bs nds) n s0=some (st,sd)->zL bs nds.length st/\sd.length<=n
 | 0,st,sd,h=>by
   cases h
   exact ⟨h0,aaf _⟩
 | n + 1,st,sd,h=>by
   cases e1:tr (gL bs nds) n s0 with
   | none=>rw [xu e1] at h; cases h
   | some y=>
     obtain ⟨⟨pl,ws⟩,sy⟩:=y
     obtain ⟨⟨p0,p1,pw⟩,sl⟩:=CH sz gd h0 e1
     cases e2:gL bs nds (pl,ws) with
     | none=>rw [xv e1 e2] at h; cases h
     | some r=>
       obtain ⟨nd,yr⟩ : ∃nd,nds[pl.toNat]? = some nd:=⟨nds[pl.toNat]'(by have:pl < nds.length:=p1; have:0<=pl:=p0; omega),aad _⟩
       rw [qA (u:=r.2) (x:=r.1) e1 e2] at h
       cases h
       rw [nV yr] at e2
       obtain ⟨a,b,c,d⟩:=pF sz pw (gd nd (aan yr)) e2
       refine ⟨⟨a,b,c⟩,?_⟩
       rw [aae]
       omega
def keyOf (st:Int×List Int):List NI:=[.inl (.inl st.1),.inr (st.2.map Sum.inl)]
theorem yD {a b:Int×List Int}(h:keyOf a=keyOf b):a=b:=by
 unfold keyOf at h
 injection h with h1 h2
 injection h1 with h1
 injection h1 with h1
 injection h2 with h2 _
 injection h2 with h2
 have go:∀{x y:List Int},x.map (Sum.inl:Int->Key)=y.map Sum.inl->x=y:=fun {x}=>by
   induction x with
   | nil=>
     intro y e
     cases y with
     | nil=>rfl
     | cons _ _=>cases e
   | cons u x ih=>
     intro y e
     cases y with
     | nil=>cases e
     | cons v y=>
       rw [aaI,aaI] at e
       injection e with e1 e2
       injection e1 with e1
       rw [e1,ih e2]
 obtain ⟨a1,a2⟩:=a
 obtain ⟨b1,b2⟩:=b
 rw [show a1=b1 from h1,show a2=b2 from go h2]
theorem Ec (ws:List Int):(ws.map (Sum.inl:Int->Key)).map kV=ws.map V.int:=by
 rw [abm]
 rfl
theorem nh {H:Hp}{b c:Addr}{pl:Int}{ws:List Int}(h1:H b=some (.tup [.int pl,.ref c]))(h2:H c=some (.tup (ws.map V.int))):dZ H b (keyOf (pl,ws)):=
 ⟨_,h1,.cons rfl (.cons ⟨c,rfl,by rw [Ec]; exact h2⟩ .nil)⟩
theorem wF:∀{bs:List (Str×Int)} {ws:List Int},Paired Within (bs.map (·.2)) ws->ws∈zO bs
 | [],_,.nil=>abj
 | b :: bs,w :: ws,.cons r t=>by
   refine List.mem_flatMap.mpr ⟨w.toNat,List.mem_range.mpr ?_,List.mem_map.mpr ⟨ws,wF t,?_⟩⟩
   · have h1:0<=w:=r.1
     have h2:w < b.2:=r.2
     omega
   · rw [acZ r.1]
theorem D6 {bs:List (Str×Int)}{m:Nat}{st:Int×List Int}(h:zL bs m st):st∈Dp bs m:=by
 obtain ⟨pl,ws⟩:=st
 obtain ⟨p0,p1,pw⟩:=h
 refine List.mem_flatMap.mpr ⟨pl.toNat,List.mem_range.mpr ?_,List.mem_map.mpr ⟨ws,wF pw,?_⟩⟩
 · have:pl < m:=p1
   have:0<=pl:=p0
   omega
 · rw [acZ p0]
theorem sub_len {α:Type}[DecidableEq α]:∀{xs ys:List α},xs.Nodup->(∀x∈xs,x∈ys)->xs.length<=ys.length
 | [],_,_,_=>aaU _
 | x :: r,ys,nd,h=>by
   rw [acG] at nd
   have hx:x∈ys:=h x (List.mem_cons.mpr (.inl rfl))
   have ih:=sub_len (xs:=r) (ys:=ys.erase x) nd.2 fun y hy=>(List.mem_erase_of_ne (a:=y) (b:=x) (fun e:y=x=>nd.1 (e ▸ hy))).mpr (h y (List.mem_cons.mpr (.inr hy)))
   have hl:=List.length_erase_of_mem hx
   have lO:0 < ys.length:=adU hx
   rw [aay]
   omega
structure cV (P:Program)(w:World)(f:Int×List Int->Option (List Int×Int×List Int))(s0:Int×List Int)(H:Hp)(d:Addr)(kvs:vW):Prop where
 nd:ND P w [true,false] H d kvs
 at_:∀j p,kvs[j]? = some p->∃t sj tj,tr f j s0=some (t,sj)/\p.1=keyOf t/\p.2.2=.ref tj/\H tj=some (.tup [.int (j:Nat),.int (sj.length:Nat)])
section
variable {f:Int×List Int->Option (List Int×Int×List Int)}{s0:Int×List Int}{H H':Hp}{d:Addr}{kvs:vW}
theorem cV.keep (x:cV P w f s0 H d kvs)(hd:H' d=some (DN P w d kvs))(ht:TK H H'):cV P w f s0 H' d kvs:=
 ⟨x.nd.keep hd ht,fun j p hp=>let ⟨t,sj,tj,a,b,c,e⟩:=x.at_ j p hp; ⟨t,sj,tj,a,b,c,ht _ _ e⟩⟩
theorem cV.same (x:cV P w f s0 H d kvs)(s:ah H H'):cV P w f s0 H' d kvs:=x.keep (s _ _ x.nd.at_) (ah.tk s)
theorem cV.put {b tv:Addr}{st:Int×List Int}{sd:List Int}(x:cV P w f s0 H d kvs)(kb:dZ H b (keyOf st))(hs:tr f kvs.length s0=some (st,sd))(no:valN kvs (keyOf st)=none)(hl:kvs.length < sizeLine)(ht:H tv=some (.tup [.int (kvs.length:Nat),.int (sd.length:Nat)])) :
   cV P w f s0 (upd H d (DN P w d (kvs++[(keyOf st,b,.ref tv)]))) d (kvs++[(keyOf st,b,.ref tv)]):=by
 have tk:TK H (upd H d (DN P w d (kvs++[(keyOf st,b,.ref tv)]))):=fun c us e=>by
   rw [aj (fJ e x.nd.at_ (fun z=>nomatch z))]
   exact e
 refine ⟨x.nd.put kb rfl no hl,fun j p hp=>?_⟩
 by_cases hj:j < kvs.length
 · rw [aaV hj] at hp
   obtain ⟨t,sj,tj,a1,a2,a3,a4⟩:=x.at_ j p hp
   exact ⟨t,sj,tj,a1,a2,a3,tk _ _ a4⟩
 · have N6:j=kvs.length:=by
     have:=(List.getElem?_eq_some_iff.mp hp).1
     rw [aae] at this
     simp only [aay,aa7] at this
     omega
   subst N6
   rw [aba (aaf _),aeb] at hp
   cases hp
   exact ⟨st,sd,tv,hs,rfl,rfl,tk _ _ ht⟩
theorem cV.find {st:Int×List Int}{v:V}(x:cV P w f s0 H d kvs)(h:valN kvs (keyOf st)=some v):∃j sj tj,j < kvs.length/\tr f j s0=some (st,sj)/\v=.ref tj/\H tj=some (.tup [.int (j:Nat),.int (sj.length:Nat)]):=by
 unfold valN at h
 obtain ⟨p,hp,rfl⟩:=Option.map_eq_some_iff.mp h
 have hk:p.1=keyOf st:=of_decide_eq_true (List.find?_some (p:=fun p:List NI×Addr×V=>decide (p.1=keyOf st)) hp)
 obtain ⟨j,hj⟩:=List.mem_iff_getElem?.mp (List.mem_of_find?_eq_some hp)
 obtain ⟨t,sj,tj,a1,a2,a3,a4⟩:=x.at_ j p hj
 obtain rfl:=yD (a2.symm.trans hk)
 exact ⟨j,sj,tj,(List.getElem?_eq_some_iff.mp hj).1,a1,a3,a4⟩
theorem cV.apart (x:cV P w f s0 H d kvs):∀a b y z u v,a < b->b < kvs.length->tr f a s0=some (y,u)->tr f b s0=some (z,v)->y≠z:=by
 intro a b y z u v N0 hb h1 h2 e
 subst e
 obtain ⟨t,sj,tj,a1,a2,_⟩:=x.at_ a kvs[a] (aad (by omega))
 obtain ⟨t',Z3,Z4,b1,b2,_⟩:=x.at_ b kvs[b] (aad hb)
 rw [h1] at a1
 cases a1
 rw [h2] at b1
 cases b1
 have n1:(kvs.map (·.1))[a]? = some (keyOf y):=by rw [aaC,aad (by omega)]; exact congrArg some a2
 have n2:(kvs.map (·.1))[b]? = some (keyOf y):=by rw [aaC,aad hb]; exact congrArg some b2
 have:=(List.getElem?_inj (by rw [aab]; omega) x.nd.nd).mp (n1.trans n2.symm)
 omega
theorem cV.bound {bs:List (Str×Int)}{m:Nat}(x:cV P w f s0 H d kvs)(hs:∀j st sd,tr f j s0=some (st,sd)->zL bs m st):kvs.length<=m * oi bs:=by
 rw [← zN,← aab (as:=kvs) (f:=(·.1)),← aab (as:=Dp bs m) (f:=keyOf)]
 refine sub_len x.nd.nd fun k hk=>?_
 obtain ⟨p,hp,rfl⟩:=List.mem_map.mp hk
 obtain ⟨j,hj⟩:=List.mem_iff_getElem?.mp hp
 obtain ⟨t,sj,tj,a1,a2,_⟩:=x.at_ j p hj
 exact List.mem_map.mpr ⟨t,D6 (hs j t sj a1),a2.symm⟩
end
def GX (H H':Hp)(sa:Addr):V->Option (List Int)->Prop
 | ro,none=>ro=.bN
 | ro,some xs=>∃l,ro=.ref l/\l≠sa/\H l=none/\H' l=some (.lst (xs.map V.int))
def GB:Sp:=fun vs H Q _=>∃(v:V) (ia:Addr) (bs:List (Str×Int)) (ins:List Str) (nds:List Nd) (iw:List Int),vs=[v,.ref ia]/\Kg H v bs ins nds/\H ia=some (.lst (iw.map V.int))/\Paired Within (ins.map (ck bs)) iw/\nds.length * oi bs<=100000 /\
 ∀(r sa:Addr) (ro:V) (n:Nat) (sd:List Int) (rd:Option (List Int)) (H':Hp),ah H H'->H r=none->H' r=some (.tup [.ref sa,ro,.int n])->H sa=none->H' sa=some (.lst (sd.map V.int))->GX H H' sa ro rd->sd.length + (rd.getD []).length<=100000->GZ (gL bs nds) (0,cR bs ins iw) (sd,rd,n)->Q (.ref r) H'
theorem Hj {xs ys:List Int}:km ((xs++ys).map V.int) none (some (xs.length:Int))=xs.map V.int:=by
 unfold km
 rw [HT.eL]
 show List.take (min xs.length _ - 0) (List.drop 0 _)=_
 rw [ab2,aea,aab,aae,abU (by omega),aah,List.take_left' (aab ..)]
theorem zY {xs ys:List Int}:km ((xs++ys).map V.int) (some (xs.length:Int)) none=ys.map V.int:=by
 unfold km
 rw [HT.eL]
 have e:min xs.length ((xs++ys).map V.int).length=xs.length:=by rw [aab,aae]; exact abU (by omega)
 rw [e,aah,List.drop_left' (aab ..)]
 refine aaS ?_
 show _<=HT.cM _ _ none - _
 show _<=(xs.map V.int++ys.map V.int).length - xs.length
 rw [aae,aab,aab]
 omega
theorem di:aD ["program","inputs","place","worths","said","met","step","spoken","steps","ahead"] ["program","inputs"] (ag jb):=⟨rfl,rfl,rfl,by decide +kernel,rfl,by decide +kernel,by decide +kernel⟩
theorem ip:aY jb "beginning_of":=by decide +kernel
theorem iQ:aY jb "len":=by decide +kernel
theorem mX:aY jb "step_at":=by decide +kernel
theorem fk:aY jb "tuple":=by decide +kernel
theorem BC {f:Addr}{fd:aao}(F:cJ K "run_of" "run_of" jb f fd)(m_len:mg "len"=none)(m_tuple:mg "tuple"=none)(BG:aX P w K mg base "beginning_of" ["program","inputs"] 30 mf)(SA:aX P w K mg base "step_at" ["program","place","worths"] 30 qv):aP P w K mg base cO 31 f fd ["program","inputs"] GB:=by
 refine F.ok di (fun vs H Q E h=>?_) (fun cdv A outer s H vs Q E hr h=>?_)
 · obtain ⟨v,ia,bs,ins,nds,iw,rfl,_⟩:=h
   rfl
 obtain ⟨v,ia,bs,ins,nds,iw,rfl,pg,hw,pw,hN,q⟩:=h
 refine ⟨_,aeN (ael (ae2 (aer (aeh aek (aeh (aet BG hr ip (aeh (aei 0) (aeh (aei 1) aej))) (aeh (aeB aej) (aeh (L3.FJ (P:=P) (w:=w)) aej wM))))) (aeG 4 (aex (aes 2 di.nd) (aex (aes 3 di.nd) (aex (aes 4 di.nd) (aex (aes 5 di.nd) aeH))))))
   (ael (L3.CM (L3.Iv (P:=P) (w:=w) (bQ hr _ (by decide)) (aer (aeh (aei 2) (aeh (aeK L3.lV fk m_tuple (by decide +kernel) (aeh (aei 3) aej)) aej))) (aei 5)) (ael (L3.Q9 (P:=P) (w:=w) (bQ hr _ (by decide)) (aei 5) (aer (aeh (aei 2) (aeh (aeK L3.lV fk m_tuple (by decide +kernel) (aeh (aei 3) aej)) aej))) (aer (aeh (aeD (L3.zT (P:=P) (w:=w)) iQ m_len aaq (aeh (aei 5) aej)) (aeh (aeD aeF iQ m_len aaq (aeh (aei 4) aej)) aej))))
   (ael (aev 6 di.nd (aet SA hr mX (aeh (aei 0) (aeh (aei 2) (aeh (aei 3) aej)))))
   (ael (aez (aey L3.Bp (aei 6) ae6) (aeo (aeq (aer (aeh (aei 4) (aeh ae6 (aeh (aen ae8 (aeD (L3.zT (P:=P) (w:=w)) iQ m_len aaq (aeh (aei 5) aej)) aek) aej)))))) aeA)
   (ael (ae2 (aei 6) (aeG 3 (aex (aes 7 di.nd) (aex (aes 2 di.nd) (aex (aes 3 di.nd) aeH)))))
   (aeo (aeI (afw (aei 4) (aeh (aei 7) aej)))))))))
   (ael (ae2 (L3.Q5 (P:=P) (w:=w) (bQ hr _ (by decide)) (aei 5) (aer (aeh (aei 2) (aeh (aeK L3.lV fk m_tuple (by decide +kernel) (aeh (aei 3) aej)) aej)))) (aeG 2 (aex (aes 8 di.nd) (aex (aes 9 di.nd) aeH))))
   (aeo (aeq (aer (aeh (afb (aei 4) (aei 9)) (aeh (ae0 (aei 4) (aei 9)) (aeh (aei 8) aej))))))))),?_⟩
 have WT:=tU pg.ft.nd pg.ft.sz pw
 have n1:=pg.one
 have h0:zL bs nds.length (0,cR bs ins iw):=⟨adB 0,by show (0:Int) < nds.length; omega,WT⟩
 have inv:=fun {n:Nat} {st:Int×List Int} {sd:List Int} h=>CH (n:=n) (st:=st) (sd:=sd) pg.ft.sz pg.gd h0 h
 refine ⟨_,rfl,_,rfl,v,ia,bs,ins,nds,iw,rfl,pg.pa,pg.ft,hw,pw,fun wa H1 ZL s1 e1=>⟨agp,fun sa rT d hd WY=>⟨agt,fun tt QE=>⟨tt,_,rfl,aK.of ae,rfl,_,_,rfl,_,_,rfl,_,_,rfl,_,_,rfl,rfl,?_⟩⟩⟩⟩
 have a1:=af rT (.lst [])
 have b1:(upd H1 sa (.lst [])) sa=some (.lst []):=ae
 generalize upd H1 sa (.lst [])=Ha at a1 b1 hd QE ⊢
 have Ug:d≠sa:=(ai b1 hd).symm
 have a2:=af hd (DN P w d [])
 have b2:(upd Ha d (DN P w d [])) d=some (DN P w d []):=ae
 generalize upd Ha d (DN P w d [])=Hb at a2 b2 QE ⊢
 generalize ho:(HO.tup [V.int 0,V.ref wa,V.ref sa,V.ref d])=ot
 have a3:=af QE ot
 generalize upd Hb tt ot=Hc at a3 ⊢
 have UD:=aa a1 (aa a2 a3)
 have Uj:H1 sa=none:=rT
 have Yn:H1 d=none:=aq a1 hd
 have Q2:cV P w (gL bs nds) (0,cR bs ins iw) Hc d []:=⟨⟨a3 _ _ b2,aaU _,ab1,(fun p hp=>nomatch hp),WY⟩,fun j p hp=>by simp at hp⟩
 refine ⟨(fun m σ H2=>∃(pl:Int) (ws sd:List Int) (wb:Addr) (kvs:vW) (o6 o7:Option V),m=nds.length * oi bs - kvs.length/\σ=[some v,some (.ref ia),some (.int pl),some (.ref wb),some (.ref sa),some (.ref d),o6,o7,none,none]/\ah H1 H2/\H2 sa=some (.lst (sd.map V.int))/\H2 wb=some (.lst (ws.map V.int))/\cV P w (gL bs nds) (0,cR bs ins iw) H2 d kvs/\tr (gL bs nds) kvs.length (0,cR bs ins iw)=some ((pl,ws),sd)),⟨_,0,cR bs ins iw,[],wa,[],_,_,rfl,rfl,UD,a3 _ _ (a2 _ _ b1),UD _ _ e1,Q2,rfl⟩,?_⟩
 rintro m σ H2 ⟨pl,ws,sd,wb,kvs,o6,o7,rfl,rfl,s2,hs2,Ku,met,Ks⟩
 obtain ⟨⟨p0,p1,Uw⟩,Y2⟩:=inv Ks
 have kb:=met.bound fun j st sd h=>(inv h).1
 refine ⟨_,rfl,_,rfl,wb,_,rfl,ao.of Ku,fun c hc=>⟨agr,fun b hb=>⟨_,rfl,d,b,[true,false],kvs,keyOf (pl,ws),rfl,rfl,?_⟩⟩⟩
 have c1:=af hc (.tup (ws.map V.int))
 have c2:(upd H2 c (.tup (ws.map V.int))) c=some (.tup (ws.map V.int)):=ae
 generalize upd H2 c (.tup (ws.map V.int))=Hd at c1 c2 hb ⊢
 have c3:=af hb (.tup [.int pl,.ref c])
 have c4:(upd Hd b (.tup [.int pl,.ref c])) b=some (.tup [.int pl,.ref c]):=ae
 generalize upd Hd b (.tup [.int pl,.ref c])=H3 at c3 c4 ⊢
 have Ff:=aa c1 c3
 have Bf:=met.same Ff
 refine ⟨Bf.nd,nh c4 (c3 _ _ c2),rfl,_,rfl,?_⟩
 refine aF (fun cc=>?_) (fun cc=>?_)
 · -- a new place
   have no:valN kvs (keyOf (pl,ws))=none:=by
     cases z:valN kvs (keyOf (pl,ws)) with
     | none=>rfl
     | some u=>rw [z] at cc; cases cc
   refine ⟨fun σ' H'=>∃m',m' < nds.length * oi bs - kvs.length/\(fun m σ H2=>∃(pl:Int) (ws sd:List Int) (wb:Addr) (kvs:vW) (o6 o7:Option V),m=nds.length * oi bs - kvs.length/\σ=[some v,some (.ref ia),some (.int pl),some (.ref wb),some (.ref sa),some (.ref d),o6,o7,none,none]/\ah H1 H2/\H2 sa=some (.lst (sd.map V.int))/\H2 wb=some (.lst (ws.map V.int))/\cV P w (gL bs nds) (0,cR bs ins iw) H2 d kvs/\tr (gL bs nds) kvs.length (0,cR bs ins iw)=some ((pl,ws),sd)) m' σ' H',fun _ _ h=>h,?_⟩
   have s13:=aa s2 Ff
   have i8:=aa s1 s13
   have F5:=Ff _ _ hs2
   have Kv:=Ff _ _ Ku
   refine ⟨_,rfl,d,_,kvs,rfl,Bf.nd,_,rfl,sa,_,rfl,.inl (ao.of F5),agr,fun tv XR=>?_⟩
   rw [aab]
   have d1:=af XR (.tup [.int (kvs.length:Nat),.int (sd.length:Nat)])
   have d2:(upd H3 tv (.tup [.int (kvs.length:Nat),.int (sd.length:Nat)])) tv=some (.tup [.int (kvs.length:Nat),.int (sd.length:Nat)]):=ae
   generalize upd H3 tv (.tup [.int (kvs.length:Nat),.int (sd.length:Nat)])=H4 at d1 d2 ⊢
   refine ⟨_,rfl,_,rfl,_,rfl,wb,_,rfl,ao.of (d1 _ _ Kv),fun c5 Px=>⟨agr,fun b5 Ls=>⟨d,b5,[true,false],kvs,keyOf (pl,ws),rfl,rfl,?_⟩⟩⟩
   have e1':=af Px (.tup (ws.map V.int))
   have Ho:(upd H4 c5 (.tup (ws.map V.int))) c5=some (.tup (ws.map V.int)):=ae
   generalize upd H4 c5 (.tup (ws.map V.int))=He at e1' Ho Ls ⊢
   have e3':=af Ls (.tup [.int pl,.ref c5])
   have La:(upd He b5 (.tup [.int pl,.ref c5])) b5=some (.tup [.int pl,.ref c5]):=ae
   generalize upd He b5 (.tup [.int pl,.ref c5])=H5 at e3' La ⊢
   have s35:=aa d1 (aa e1' e3')
   have Md:=Bf.same s35
   have k5:=nh La (e3' _ _ Ho)
   have hl:kvs.length < sizeLine:=abV (aak kb hN) (by decide)
   refine ⟨Md.nd,k5,rfl,no,?_⟩
   have yH:=Md.put (tv:=tv) k5 Ks no hl (e3' _ _ (e1' _ _ d2))
   have T8:=yH.bound fun j st sd h=>(inv h).1
   rw [aae] at T8
   simp only [aay,aa7] at T8
   have lt:nds.length * oi bs - (kvs.length + 1) < nds.length * oi bs - kvs.length:=by omega
   have Cb:ah H1 (upd H5 d (DN P w d (kvs++[(keyOf (pl,ws),b5,.ref tv)]))):=aG (aa s13 s35) Yn
   have LX:(upd H5 d (DN P w d (kvs++[(keyOf (pl,ws),b5,.ref tv)]))) sa=some (.lst (sd.map V.int)):=by rw [aj Ug.symm]; exact s35 _ _ F5
   have Yv:wb≠d:=fJ Ku met.nd.at_ (fun z=>nomatch z)
   have L1:(upd H5 d (DN P w d (kvs++[(keyOf (pl,ws),b5,.ref tv)]))) wb=some (.lst (ws.map V.int)):=by rw [aj Yv]; exact s35 _ _ Kv
   generalize Xh:kvs++[(keyOf (pl,ws),b5,V.ref tv)]=uQ at yH Cb LX L1 ⊢
   have yq:uQ.length=kvs.length + 1:=by rw [← Xh,aae]; rfl
   generalize upd H5 d (DN P w d uQ)=H6 at yH Cb LX L1 ⊢
   obtain ⟨nd,yr⟩ : ∃nd,nds[pl.toNat]? = some nd:=⟨nds[pl.toNat]'(by have:pl < nds.length:=p1; have:0<=pl:=p0; omega),aad _⟩
   have g0:=pg.gd nd (aan yr)
   have B8:=aa s1 Cb
   refine ⟨_,rfl,_,rfl,_,rfl,v,pl,wb,bs,ws,ins,nds,nd,_,rfl,⟨pg.pa.same B8,pg.ft.nd,pg.ft.len,pg.ft.sz,L1,Uw,p0,yr,g0⟩,fun en H7 s7=>?_,fun sx n ws' es r l1 l2 H7 td=>?_⟩
   · refine ⟨_,rfl,rfl,_,rfl,?_⟩
     refine aF (fun _=>?_) (fun c=>absurd (decide_eq_true rfl) c)
     have Q3:=yH.same s7
     refine ⟨_,rfl,_,rfl,d,_,uQ,rfl,Q3.nd,_,_,rfl,rfl,ags,fun r rS=>?_⟩
     show Q (V.ref r) (upd H7 r (.tup [.ref sa,.bN,.int (((uQ.length:Nat):Int) - 1)]))
     rw [show ((uQ.length:Nat):Int) - 1=((kvs.length:Nat):Int) by rw [yq]; omega]
     have s8:=af rS (.tup [.ref sa,.bN,.int (kvs.length:Nat)])
     have s78:=aa s7 s8
     refine q r sa .bN kvs.length sd none _ (aa B8 s78) (aq (aa B8 s7) rS) ae (aq s1 Uj) (s78 _ _ LX) rfl ?_ (.inl ⟨kvs.length,(pl,ws),sd,Ks,by rw [nV yr]; exact en,rfl⟩)
     show sd.length + 0<=_
     omega
   · refine ⟨_,rfl,rfl,_,rfl,?_⟩
     refine aF (fun c=>absurd (of_decide_eq_true c) (by simp)) (fun _=>?_)
     obtain ⟨q0,q1,q2,q3⟩:=pF pg.ft.sz Uw g0 es
     have Qz:=td.s _ _ LX
     refine ⟨_,rfl,r,_,rfl,aK.of td.er,rfl,_,_,rfl,_,_,rfl,_,_,rfl,rfl,?_⟩
     refine ⟨_,rfl,.inl ⟨rfl,_,ao.of Qz⟩,_,rfl,sa,l1,_,_,rfl,rfl,Qz,td.e1,?_,?_⟩
     · rw [aab,aab]
       have:sd.length + sx.length<=100001:=by have:sx.length<=1:=q3; omega
       exact aak this (by decide)
     have nl:l2≠sa:=fun z=>by have:=td.h2; rw [z,LX] at this; cases this
     have nds2:d≠sa:=Ug
     have Q4:cV P w (gL bs nds) (0,cR bs ins iw) (upd H7 sa (.lst (sd.map V.int++sx.map V.int))) d uQ:=(yH.same td.s).keep (by rw [aj nds2]; exact td.s _ _ yH.nd.at_) (TK.lst Qz)
     refine ⟨_,lt,n,ws',sd++sx,l2,uQ,_,_,by rw [yq],rfl,aG (aa Cb td.s) Uj,by rw [ae,aah],by rw [aj nl]; exact td.e2,Q4,?_⟩
     rw [yq]
     exact qA Ks (by rw [nV yr]; exact es)
 · -- Vu again
   have Nf:∃u,valN kvs (keyOf (pl,ws))=some u:=by
     cases z:valN kvs (keyOf (pl,ws)) with
     | none=>rw [z] at cc; exact absurd rfl cc
     | some u=>exact ⟨u,rfl⟩
   obtain ⟨u,hu⟩:=Nf
   obtain ⟨j,sj,tj,hj,US,rfl,XQ⟩:=Bf.find hu
   have Kv:=Ff _ _ Ku
   refine ⟨_,rfl,_,rfl,_,rfl,wb,_,rfl,ao.of Kv,fun c5 Px=>⟨agr,fun b5 Ls=>⟨d,b5,[true,false],kvs,keyOf (pl,ws),.ref tj,rfl,rfl,?_⟩⟩⟩
   have e1':=af Px (.tup (ws.map V.int))
   have Ho:(upd H3 c5 (.tup (ws.map V.int))) c5=some (.tup (ws.map V.int)):=ae
   generalize upd H3 c5 (.tup (ws.map V.int))=He at e1' Ho Ls ⊢
   have e3':=af Ls (.tup [.int pl,.ref c5])
   have La:(upd He b5 (.tup [.int pl,.ref c5])) b5=some (.tup [.int pl,.ref c5]):=ae
   generalize upd He b5 (.tup [.int pl,.ref c5])=H5 at e3' La ⊢
   have s35:=aa e1' e3'
   have s25:=aa Ff s35
   have Od:=s25 _ _ hs2
   refine ⟨(Bf.same s35).nd,nh La (e3' _ _ Ho),rfl,hu,tj,_,rfl,aK.of (s35 _ _ XQ),rfl,_,_,rfl,_,_,rfl,rfl,?_⟩
   obtain ⟨y,hy,rest,fI⟩:=GR Ks (abi hj)
   rw [US] at hy
   cases hy
   have QB:sd=sj++rest:=fI
   subst QB
   refine ⟨_,rfl,_,rfl,_,rfl,sa,_,rfl,ao.of Od,fun x1 qH=>?_⟩
   rw [Hj]
   have f1:=af qH (.lst (sj.map V.int))
   have f2:(upd H5 x1 (.lst (sj.map V.int))) x1=some (.lst (sj.map V.int)):=ae
   generalize upd H5 x1 (.lst (sj.map V.int))=Hf at f1 f2 ⊢
   refine ⟨_,rfl,_,rfl,_,rfl,sa,_,rfl,ao.of (f1 _ _ Od),fun x2 yx=>?_⟩
   rw [zY]
   have f3:=af yx (.lst (rest.map V.int))
   have f4:(upd Hf x2 (.lst (rest.map V.int))) x2=some (.lst (rest.map V.int)):=ae
   have nx:x2≠x1:=(ai f2 yx).symm
   generalize upd Hf x2 (.lst (rest.map V.int))=Hg at f3 f4 ⊢
   refine ⟨_,rfl,ags,fun r rS=>?_⟩
   have f5:=af rS (.tup [.ref x1,.ref x2,.int (j:Nat)])
   have UB:=aa s1 (aa s2 (aa s25 (aa f1 f3)))
   have YO:=aa s1 (aa s2 (aa s25 f1))
   have KC:=aa s1 (aa s2 s25)
   have f35:=aa f3 f5
   refine q r x1 (.ref x2) j sj (some rest) _ (aa UB f5) (aq UB rS) ae (aq KC qH) (f35 _ _ f2) ⟨x2,rfl,nx,aq YO yx,f5 _ _ f4⟩ ?_ (.inr ⟨j,kvs.length,(pl,ws),sj,rest,hj,US,Ks,met.apart,rfl⟩)
   show sj.length + rest.length<=_
   rw [aae] at Y2
   omega
abbrev nI:Stmt:=top 39
abbrev eM:Stmt:=top 38
abbrev dS:Stmt:=top 37
def tP (H:Hp):V->Option (List Int)->Prop
 | ro,none=>ro=.bN
 | ro,some xs=>∃l,ro=.ref l/\H l=some (.lst (xs.map V.int))
structure ir (H:Hp)(v:V)(sd:List Int)(rd:Option (List Int)):Prop where
 at_:∃p sa ro n,v=.ref p/\H p=some (.tup [.ref sa,ro,.int n])/\H sa=some (.lst (sd.map V.int))/\tP H ro rd
 few:sd.length + (rd.getD []).length<=100000
theorem tP.same {H H':Hp}(s:ah H H'):∀{rd:Option (List Int)} {ro:V},tP H ro rd->tP H' ro rd
 | none,_,h=>h
 | some _,_,⟨l,e,h⟩=>⟨l,e,s _ _ h⟩
theorem ir.same {H H':Hp}{v:V}{sd:List Int}{rd:Option (List Int)}(h:ir H v sd rd)(s:ah H H'):ir H' v sd rd:=by
 obtain ⟨p,sa,ro,n,e,h1,h2,h3⟩:=h.at_
 exact ⟨⟨p,sa,ro,n,e,s _ _ h1,s _ _ h2,h3.same s⟩,h.few⟩
def jX:Sp:=fun vs H Q _=>∃(v:V) (m:Nat) (sd:List Int) (rd:Option (List Int)),vs=[v,.int (m:Nat)]/\ir H v sd rd/\m<=1000000/\∀(l:Addr) (fs:List Int) (H':Hp),ah H H'->H l=none->H' l=some (.lst (fs.map V.int))->eP sd rd m fs->Q (.ref l) H'
theorem jU:aD ["run","many","ahead","around","steps","said"] ["run","many"] (ag nI):=⟨rfl,rfl,rfl,by decide +kernel,rfl,by decide +kernel,by decide +kernel⟩
theorem uf:aY nI "len":=by decide +kernel
theorem rn:aY nI "list":=by decide +kernel
theorem Bw {f:Addr}{fd:aao}(F:cJ K "first_said" "first_said" nI f fd)(m_len:mg "len"=none)(m_list:mg "list"=none):aP P w K mg base cO 1 f fd ["run","many"] jX:=by
 refine F.ok jU (fun vs H Q E h=>?_) (fun cdv A outer s H vs Q E hr h=>?_)
 · obtain ⟨v,m,sd,rd,rfl,_⟩:=h
   rfl
 obtain ⟨v,m,sd,rd,rfl,LU,hm,q⟩:=h
 refine kI ⟨_,(ael (ae2 (aei 0) (aeG 3 (aex (aes 2 jU.nd) (aex (aes 3 jU.nd) (aex (aes 4 jU.nd) aeH)))))
   (ael (aev 5 jU.nd (aeK aeY rn m_list (by decide +kernel) (aeh (aei 2) aej)))
   (ael (L3.CM (aeZ (L3.G6 (L3.Y8 (aei 3)) (L3.G5 (aey aeQ (aeD aeF uf m_len aaq (aeh (aei 5) aej)) (aei 1))))) (aeo (aeI (afw (aei 5) (aeh (aei 3) aej)))))
   (aeo (aeq (afb (aei 5) (aei 1))))))),?_⟩
 have few:=LU.few
 obtain ⟨p,sa,ro,n,rfl,hp,rT,Kr⟩:=LU.at_
 refine ⟨_,rfl,p,_,rfl,aK.of hp,rfl,_,_,rfl,_,_,rfl,_,_,rfl,rfl,?_⟩
 refine ⟨_,rfl,sa,_,rfl,.inl (ao.of rT),fun sb F6=>?_⟩
 obtain ⟨H1,s1,e1,zz⟩:=aJ F6 (.lst (sd.map V.int))
 rw [zz]; clear zz
 refine ⟨(fun M σ H2=>∃(wd:List Int) (k:Nat),M=m - wd.length/\σ=[some (.ref p),some (.int (m:Nat)),some (.ref sa),some ro,some (.int n),some (.ref sb)]/\ah H H2/\H2 sb=some (.lst (wd.map V.int))/\wd=sd++rep k (rd.getD [])/\wd.length<=1100000),⟨_,sd,0,rfl,rfl,s1,e1,by unfold rep; simp,by omega⟩,?_⟩
 rintro M σ H2 ⟨wd,k,rfl,rfl,s2,og,TZ,hwl⟩
 have fin:∀(sd':List Int),eP sd rd m (sd'.take m)->wd=sd'->∀(l:Addr),H2 l=none->Q (.ref l) (upd H2 l (.lst (km (wd.map V.int) none (some (m:Int))))):=fun sd' hf e l hl=>by
   rw [bq,we,e]
   exact q l (sd'.take m) _ (aC s2 hl) (aq s2 hl) ae hf
 cases rd with
 | none=>
   have A8:ro=.bN:=Kr
   subst A8
   refine ⟨_,rfl,false,rfl,iY (iY ?_)⟩
   have Kt:wd=sd:=by rw [TZ]; unfold rep; simp
   exact ⟨_,rfl,_,rfl,_,rfl,sb,_,rfl,ao.of og,fun l hl=>fin sd (mG rfl) Kt l hl⟩
 | some xs=>
   obtain ⟨la,rfl,LG⟩:=Kr
   have rN:=s2 _ _ LG
   have Lf:sd.length + xs.length<=100000:=few
   have D4:wd=sd++rep k xs:=TZ
   by_cases hx:xs=[]
   · subst hx
     refine ⟨_,rfl,false,.inl ⟨_,ao.of rN,rfl⟩,iY (iY ?_)⟩
     have Kt:wd=sd:=by rw [D4]; unfold rep; simp
     exact ⟨_,rfl,_,rfl,_,rfl,sb,_,rfl,ao.of og,fun l hl=>fin sd (mG rfl) Kt l hl⟩
   · have lO:0 < xs.length:=List.length_pos_iff.mpr hx
     refine ⟨_,rfl,true,.inl ⟨_,ao.of rN,by cases xs with | nil=>exact absurd rfl hx | cons a r=>rfl⟩,fT ?_⟩
     refine ⟨_,rfl,sb,_,rfl,.inl (ao.of og),_,rfl,_,_,rfl,rfl,_,rfl,?_⟩
     rw [aab]
     refine aF (fun c=>?_) (fun c=>?_)
     · have hlt:wd.length < m:=by have:=of_decide_eq_true c; omega
       refine ⟨fun σ' H'=>∃m',m' < m - wd.length/\(fun M σ H2=>∃(wd:List Int) (k:Nat),M=m - wd.length/\σ=[some (.ref p),some (.int (m:Nat)),some (.ref sa),some (.ref la),some (.int n),some (.ref sb)]/\ah H H2/\H2 sb=some (.lst (wd.map V.int))/\wd=sd++rep k ((some xs).getD [])/\wd.length<=1100000) m' σ' H',fun _ _ h=>h,?_⟩
       refine ⟨_,rfl,.inl ⟨rfl,_,ao.of og⟩,_,rfl,sb,la,_,_,rfl,rfl,og,rN,?_,?_⟩
       · rw [aab,aab]
         exact aak (show wd.length + xs.length<=1100000 by omega) (by decide)
       refine ⟨m - (wd++xs).length,by rw [aae]; omega,wd++xs,k + 1,rfl,rfl,aG s2 F6,by rw [ae,aah],?_,by rw [aae]; omega⟩
       show wd++xs=sd++rep (k + 1) xs
       rw [nH,← acr,← D4]
     · have LB:m<=wd.length:=by
         have:¬ ((wd.length:Int) < (m:Int)):=fun z=>c (decide_eq_true z)
         omega
       exact ⟨_,rfl,_,rfl,_,rfl,sb,_,rfl,ao.of og,fun l hl=>fin (sd++rep k xs) (ub (by rw [← D4]; exact LB)) D4 l hl⟩
theorem yf (s:Src K mg "first_said" nI)(m_len:mg "len"=none)(m_list:mg "list"=none):aX P w K mg base "first_said" ["run","many"] 1 jX:=
 let ⟨f,fd,F,m⟩:=s
 ⟨f,fd,Bw F m_len m_list,F.kp,d4 F fun _ _ _ _ _ _ _ _=>rfl,m⟩
def ON (H:Hp)(v:V)(z:List Int):Prop:=∃l,v=.ref l/\H l=some (.lst (z.map V.int))
def gJ:Sp:=fun vs H Q _=>∃(v v':V) (sd:List Int) (rd:Option (List Int)) (sd':List Int) (rd':Option (List Int)),vs=[v,v']/\ir H v sd rd/\ir H v' sd' rd'/\∀(H':Hp),ah H H'->Q (.int (jG sd rd sd' rd':Nat)) H'
theorem sY:aD ["run","another","rounds"] ["run","another"] (ag eM):=⟨rfl,rfl,rfl,by decide +kernel,rfl,by decide +kernel,by decide +kernel⟩
theorem k9:aY eM "len":=by decide +kernel
theorem rC:aY eM "max":=by decide +kernel
theorem rD:aY eM "sum":=by decide +kernel
theorem yV {f:Addr}{fd:aao}(F:cJ K "numbers_that_settle" "numbers_that_settle" eM f fd)(m_len:mg "len"=none)(m_max:mg "max"=none)(m_sum:mg "sum"=none):aP P w K mg base cO 1 f fd ["run","another"] gJ:=by
 refine F.ok sY (fun vs H Q E h=>?_) (fun cdv A outer s H vs Q E hr h=>?_)
 · obtain ⟨v,v',sd,rd,sd',rd',rfl,_⟩:=h
   rfl
 obtain ⟨v,v',sd,rd,sd',rd',rfl,r1,r2,q⟩:=h
 refine kI ⟨_,(ael (afa (i:=2) [none] ["told"] (show aE _ (ag eM) from ⟨rfl,by decide +kernel,by decide +kernel,by decide +kernel⟩) (by rfl) (L3.iT (aer (aeh (aei 0) (aeh (aei 1) aej)))) (fun _ _ _ _ _=>⟨(aes 0 (show (["told"]:List Str).Nodup from by decide +kernel)),(L3.if1 (aey L3.Br (aem aew (aei 0) aek) ae6)),(aem aew (aei 0) aek)⟩) sY.nd)
   (aeo (aeq (aen aeM (aeD L3.K1 rC m_max (by decide +kernel) (aeh (aeD aeF k9 m_len aaq (aeh (aem aew (aei 0) aek) aej)) (aeh (aeD aeF k9 m_len aaq (aeh (aem aew (aei 1) aek) aej)) aej))) (aeD L3.K4 rD m_sum (by decide +kernel) (aeh (aeP [none] ["told"] (show aE _ (ag eM) from ⟨rfl,by decide +kernel,by decide +kernel,by decide +kernel⟩) (by rfl) (aeO (aei 2)) (fun _ _ _ _ _=>⟨(aes 0 (show (["told"]:List Str).Nodup from by decide +kernel)),aeJ,(aeD aeF (by rfl) m_len aaq (aeh (aei 0) aej))⟩)) aej)))))),?_⟩
 obtain ⟨p,sa,ro,n,rfl,hp,rT,Kr⟩:=id r1.at_
 obtain ⟨p',M3,Oo,n',rfl,oC,D1,A8⟩:=id r2.at_
 refine ⟨_,rfl,_,rfl,agr,fun tp uL=>?_⟩
 obtain ⟨H1,s1,g1,zz⟩:=aJ uL (.tup [.ref p,.ref p'])
 rw [zz]; clear zz
 refine ⟨tp,rfl,⟨_,aK.of g1⟩,fun ra Oa=>?_⟩
 refine qY (xs:=[.ref p,.ref p']) (fun i H2=>∃(ys:List V) (zs:List (List Int)),ah H1 H2/\H2 ra=some (.lst ys)/\ys.length<=i/\Paired (ON H) ys zs/\(zs.map abP).sum=(([(rd.getD []).length,(rd'.getD []).length]:List Nat).take i).sum) ⟨[],[],af Oa _,ae,aaf _,.nil,rfl⟩ (fun i H2 _ z=>?_) (fun i x H2 hx z=>?_) (fun H2 z=>?_)
 · obtain ⟨ys,zs,s2,_⟩:=z
   exact aK.of (s2 _ _ g1)
 · obtain ⟨ys,zs,s2,yu,yl,py,zt⟩:=z
   have s02:=aa s1 s2
   have yx:∃(pp sx:Addr) (rx:V) (nx:Int) (rdx:Option (List Int)),x=.ref pp/\H pp=some (.tup [.ref sx,rx,.int nx])/\tP H rx rdx/\([(rd.getD []).length,(rd'.getD []).length]:List Nat)[i]? = some (rdx.getD []).length/\i < 2:=by
     match i,hx with
     | 0,hx=>cases hx; exact ⟨p,sa,ro,n,rd,rfl,hp,Kr,rfl,by decide⟩
     | 1,hx=>cases hx; exact ⟨p',M3,Oo,n',rd',rfl,oC,A8,rfl,by decide⟩
   obtain ⟨pp,sx,rx,nx,rdx,rfl,wC,TR,hlen,i2⟩:=yx
   refine bo ?_
   refine ⟨_,rfl,pp,_,_,_,rfl,rfl,aK.of (s02 _ _ wC),rfl,rfl,_,rfl,?_⟩
   cases rdx with
   | none=>
     have e:rx=.bN:=TR
     subst e
     refine aF (fun c=>absurd c (by decide)) (fun _=>?_)
     refine aL (Pv:=fun i H2=>∃(ys:List V) (zs:List (List Int)),ah H1 H2/\H2 ra=some (.lst ys)/\ys.length<=i/\Paired (ON H) ys zs/\(zs.map abP).sum=(([(rd.getD []).length,(rd'.getD []).length]:List Nat).take i).sum) (by repeat' constructor) i2 ⟨ys,zs,s2,yu,by omega,py,?_⟩
     rw [aal,hlen,zt,acF]
     rfl
   | some xs=>
     obtain ⟨l,rfl,hl⟩:=TR
     refine aF (fun _=>?_) (fun c=>absurd (by rw [decide_eq_false (fun z=>nomatch z)]; rfl) c)
     refine ⟨_,rfl,pp,_,_,_,rfl,rfl,aK.of (s02 _ _ wC),rfl,_,yu,aB (by omega),aL (Pv:=fun i H2=>∃(ys:List V) (zs:List (List Int)),ah H1 H2/\H2 ra=some (.lst ys)/\ys.length<=i/\Paired (ON H) ys zs/\(zs.map abP).sum=(([(rd.getD []).length,(rd'.getD []).length]:List Nat).take i).sum) (by repeat' constructor) i2 ⟨ys++[.ref l],zs++[xs],aG s2 Oa,ae,by rw [aae]; show ys.length + 1<=i + 1; omega,Paired.snoc py ⟨l,rfl,hl⟩,?_⟩⟩
     rw [aah,acF,zt,aal,hlen,acF]
     rfl
 obtain ⟨ys,zs,s2,yu,yl,py,zt⟩:=z
 have yl2:ys.length<=2:=yl
 have zt:(zs.map abP).sum=(rd.getD []).length + ((rd'.getD []).length + 0):=zt
 have s02:=aa s1 s2
 have zl:ys.length=zs.length:=Paired.length py
 refine ⟨_,rfl,p,_,_,_,rfl,rfl,aK.of (s02 _ _ hp),rfl,sa,_,rfl,.inl (ao.of (s02 _ _ rT)),_,rfl,p',_,_,_,rfl,rfl,aK.of (s02 _ _ oC),rfl,M3,_,rfl,.inl (ao.of (s02 _ _ D1)),_,_,rfl,?_⟩
 refine ⟨_,rfl,ra,rfl,⟨_,ao.of yu⟩,fun lb N7=>?_⟩
 have Yt:ra≠lb:=ai yu N7
 refine bj (xs:=ys) (fun i H4=>H4=upd H2 lb (.lst (((zs.take i).map fun z=>((z.length:Nat):Int)).map V.int))) rfl (fun i H4 _ z=>?_) (fun i x H4 hx z=>?_) (fun H4 z=>?_)
 · subst z
   exact ao.of (by rw [aj Yt]; exact yu)
 · subst z
   obtain ⟨zz,hz,l,rfl,hl⟩:=Paired.get py hx
   have dQ:i < ys.length:=(List.getElem?_eq_some_iff.mp hx).1
   refine bo ?_
   refine bV (A:=fun H3=>dg _ lb _ H3 _) ?_
   refine ⟨_,rfl,l,_,rfl,.inl (ao.of (af N7 _ _ _ (s02 _ _ hl))),_,ae,aB (by rw [aab,aab,aaw]; omega),aL (Pv:=fun i H4=>H4=upd H2 lb (.lst (((zs.take i).map fun z=>((z.length:Nat):Int)).map V.int))) (by repeat' constructor) dQ ?_⟩
   rw [bT,aal,hz,aah,aah,aab]
   rfl
 · subst z
   rw [zl,aaA]
   refine ⟨lb,_,rfl,ao.of ae,_,_,rfl,rfl,?_⟩
   have es:∀l:List (List Int),(l.map fun z=>((z.length:Nat):Int)).sum=(((l.map abP).sum:Nat):Int):=fun l=>by
     induction l with
     | nil=>rfl
     | cons a r ih=>rw [aaI,aaI,List.sum_cons,List.sum_cons,ih]; omega
   have ev:(if (((sd'.map V.int).length:Int)) > ((sd.map V.int).length:Int) then ((sd'.map V.int).length:Int) else ((sd.map V.int).length:Int)) + (zs.map fun z=>((z.length:Nat):Int)).sum=((jG sd rd sd' rd':Nat):Int):=by
     rw [es,zt,aab,aab]
     unfold jG
     split <;> omega
   have fin:=q _ (aa s02 (af N7 (.lst ((zs.map fun z=>((z.length:Nat):Int)).map V.int))))
   rw [← ev] at fin
   exact fin
theorem uy (s:Src K mg "numbers_that_settle" eM)(m_len:mg "len"=none)(m_max:mg "max"=none)(m_sum:mg "sum"=none):aX P w K mg base "numbers_that_settle" ["run","another"] 1 gJ:=
 let ⟨f,fd,F,m⟩:=s
 ⟨f,fd,yV F m_len m_max m_sum,F.kp,d4 F fun _ _ _ _ _ _ _ _=>rfl,m⟩
def kf:Sp:=fun vs H Q _=>∃(v v':V) (sd:List Int) (rd:Option (List Int)) (sd':List Int) (rd':Option (List Int)),vs=[v,v']/\ir H v sd rd/\ir H v' sd' rd'/\∀(u:V) (H':Hp),ah H H'->((tK sd rd sd' rd'/\u=.bN)\/(¬ tK sd rd sd' rd'/\∃n:Nat,u=.int (n:Nat)/\Dd sd rd sd' rd' n))->Q u H'
theorem xf {H:Hp}{rd:Option (List Int)}{ro:V}(h:tP H ro rd):decide (ro=.bN)=rd.isNone:=by
 cases rd with
 | none=>have e:ro=.bN:=h; subst e; rfl
 | some xs=>obtain ⟨l,rfl,_⟩:=h; rfl
theorem fc:aD ["run","another","many","first","second","at","number","heard"] ["run","another"] (ag dS):=⟨rfl,rfl,rfl,by decide +kernel,rfl,by decide +kernel,by decide +kernel⟩
theorem jv:aY dS "enumerate":=by decide +kernel
theorem eh:aY dS "first_said":=by decide +kernel
theorem eJ:aY dS "len":=by decide +kernel
theorem rA:aY dS "min":=by decide +kernel
theorem dP:aY dS "numbers_that_settle":=by decide +kernel
theorem rB:aY dS "zip":=by decide +kernel
theorem yU {f:Addr}{fd:aao}(F:cJ K "said_alike" "said_alike" dS f fd)(m_len:mg "len"=none)(m_min:mg "min"=none)(m_enumerate:mg "enumerate"=none)(m_zip:mg "zip"=none)(ST:aX P w K mg base "numbers_that_settle" ["run","another"] 1 gJ)(FS:aX P w K mg base "first_said" ["run","many"] 1 jX):aP P w K mg base cO 2 f fd ["run","another"] kf:=by
 refine F.ok fc (fun vs H Q E h=>?_) (fun cdv A outer s H vs Q E hr h=>?_)
 · obtain ⟨v,v',sd,rd,sd',rd',rfl,_⟩:=h
   rfl
 obtain ⟨v,v',sd,rd,sd',rd',rfl,r1,r2,q⟩:=h
 refine kI ⟨_,(ael (aev 2 fc.nd (aet ST hr dP (aeh (aei 0) (aeh (aei 1) aej))))
   (ael (L3.Rm 3 4 fc.nd (aeh (aet FS hr eh (aeh (aei 0) (aeh (aei 2) aej))) (aeh (aet FS hr eh (aeh (aei 1) (aeh (aei 2) aej))) aej)))
   (ael (aeX (L3.X5 jv m_enumerate rB m_zip (aeh (aei 3) (aeh (aei 4) aej))) (aeG 2 (aex (aes 5 fc.nd) (aex (aeG 2 (aex (aes 6 fc.nd) (aex (aes 7 fc.nd) aeH))) aeH))) (aeo (aez (aey L3.yN (aei 6) (aei 7)) (aeo (aeq (aei 5))) aeA)))
   (ael (aez (aeZ (ae4 (aey L3.yN (aeD aeF eJ m_len aaq (aeh (aei 3) aej)) (aeD aeF eJ m_len aaq (aeh (aei 4) aej))) (ae5 (aey L3.yN (aeS L3.Bp (aem aew (aei 0) aek) ae6) (aeS L3.Bp (aem aew (aei 1) aek) ae6))))) (aeo (aeq (aeD L3.K3 rA m_min (by decide +kernel) (aeh (aeD aeF eJ m_len aaq (aeh (aei 3) aej)) (aeh (aeD aeF eJ m_len aaq (aeh (aei 4) aej)) aej))))) aeA)
   (aeo (aeq ae6)))))),?_⟩
 have few1:=r1.few
 have few2:=r2.few
 refine ⟨_,rfl,_,rfl,v,v',sd,rd,sd',rd',rfl,r1,r2,fun H1 s1=>?_⟩
 have hm:jG sd rd sd' rd'<=1000000:=by unfold jG; omega
 obtain ⟨m,Tz⟩ : ∃m,m=jG sd rd sd' rd':=⟨_,rfl⟩
 rw [← Tz] at hm ⊢
 refine ⟨_,rfl,_,rfl,v,m,sd,rd,rfl,r1.same s1,hm,fun l1 fs H2 s2 _ e1 w1=>?_⟩
 have s02:=aa s1 s2
 refine ⟨_,rfl,_,rfl,v',m,sd',rd',rfl,r2.same s02,hm,fun l2 fs' H3 s3 _ e2 w2=>⟨_,_,rfl,?_⟩⟩
 have i8:=aa s02 s3
 have e1:=s3 _ _ e1
 have Zt:=w1.len
 have Zu:=w2.len
 obtain ⟨p,sa,ro,n,rfl,hp,rT,Kr⟩:=id (r1.same i8).at_
 obtain ⟨p',M3,Oo,n',rfl,oC,D1,A8⟩:=id (r2.same i8).at_
 have big:∀{n:Nat},n<=m->n < 2 ^ 63:=fun h=>by omega
 refine ⟨_,rfl,_,rfl,l1,l2,rfl,⟨_,ao.of e1⟩,⟨_,ao.of e2⟩,?_⟩
 refine Ht (xs:=fs.map V.int) (ys:=fs'.map V.int) (fun i σ H4=>(∃av nv hv,σ=[some (.ref p),some (.ref p'),some (.int (m:Nat)),some (.ref l1),some (.ref l2),av,nv,hv])/\ah H3 H4/\∀j,j < i->fs[j]? = fs'[j]?) ⟨⟨_,_,_,rfl⟩,same_refl _,fun j hj=>absurd hj (Nat.not_lt_zero _)⟩ (fun i σ H4 z=>⟨ao.of (z.2.1 _ _ e1),ao.of (z.2.1 _ _ e2)⟩) (fun i x y pp qq σ H4 hx hy z wC TL=>?_) (fun σ H4 z=>?_)
 · obtain ⟨⟨av,nv,hv,rfl⟩,s4,al⟩:=z
   obtain ⟨a,ha,rfl⟩:=dh hx
   obtain ⟨b,hb,rfl⟩:=dh hy
   have sp:ah H4 (upd H4 pp (.tup [.int a,.int b])):=af wC _
   have gp:(upd H4 pp (.tup [.int a,.int b])) pp=some (.tup [.int a,.int b]):=ae
   generalize upd H4 pp (.tup [.int a,.int b])=H5 at sp gp TL ⊢
   obtain ⟨H6,sq,gq,zz⟩:=aJ TL (.tup [.int (i:Nat),.ref pp])
   rw [zz]; clear zz
   have UI:=aa s4 (aa sp sq)
   refine ⟨qq,_,rfl,aK.of gq,rfl,_,_,rfl,_,_,rfl,⟨pp,_,rfl,aK.of (sq _ _ gp),rfl,_,_,rfl,_,_,rfl,rfl,rfl,?_⟩⟩
   refine ⟨_,rfl,_,rfl,rfl,_,rfl,?_⟩
   have uD:i < fs.length:=(List.getElem?_eq_some_iff.mp ha).1
   refine aF (fun c=>?_) (fun c=>?_)
   · have N0:a≠b:=fun z=>by rw [z,decide_eq_true rfl] at c; exact absurd c (by decide)
     have uF:bH sd rd i≠bH sd' rd' i:=by
       rw [w1.at (by omega),w2.at (by omega),ha,hb]
       exact fun z=>N0 (aaB z)
     refine ⟨_,rfl,q _ _ (aa i8 UI) (.inr ⟨fun al=>uF (al.1 i),i,rfl,fun j hj=>?_,fun z=>uF z.1⟩)⟩
     rw [w1.at (by omega),w2.at (by omega)]
     refine ⟨al j hj,?_⟩
     rw [aad (by omega)]
     rfl
   · have N0:a=b:=by
       by_cases z:a=b
       · exact z
       · exact absurd (by rw [decide_eq_false (fun y=>z (by injection y))]; rfl) c
     refine ⟨⟨_,_,_,rfl⟩,UI,fun j hj=>?_⟩
     by_cases e:j=i
     · subst e
       rw [ha,hb,N0]
     · exact al j (by omega)
 obtain ⟨⟨av,nv,hv,rfl⟩,s4,al⟩:=z
 rw [aab,aab] at al
 have e1:=s4 _ _ e1
 have e2:=s4 _ _ e2
 have KA:=aa i8 s4
 have pre:∀i,i < min fs.length fs'.length->bH sd rd i=bH sd' rd' i/\(bH sd rd i).isSome=true:=fun i hi=>by
   rw [w1.at (by omega),w2.at (by omega)]
   refine ⟨al i hi,?_⟩
   rw [aad (by omega)]
   rfl
 have mn:(if ((fs'.length:Nat):Int) < ((fs.length:Nat):Int) then ((fs'.length:Nat):Int) else ((fs.length:Nat):Int))=((min fs.length fs'.length:Nat):Int):=by split <;> omega
 have uV:(∀z:bH sd rd (min fs.length fs'.length)=bH sd' rd' (min fs.length fs'.length),¬ (bH sd rd (min fs.length fs'.length)).isSome=true)->¬ tK sd rd sd' rd'->Q (.int (if ((fs'.length:Nat):Int) < ((fs.length:Nat):Int) then ((fs'.length:Nat):Int) else ((fs.length:Nat):Int))) H4:=fun h1 h2=>by
   rw [mn]
   exact q _ _ KA (.inr ⟨h2,_,rfl,pre,fun z=>h1 z.1 z.2⟩)
 refine ⟨_,rfl,l1,_,rfl,.inl (ao.of e1),_,rfl,l2,_,rfl,.inl (ao.of e2),rfl,_,rfl,?_⟩
 rw [aab,aab]
 refine aF (fun c=>fT ?_) (fun c=>?_)
 · have hne:fs.length≠fs'.length:=fun z=>by rw [z,decide_eq_true rfl] at c; exact absurd c (by decide)
   refine ⟨_,rfl,l1,_,rfl,.inl (ao.of e1),_,rfl,l2,_,rfl,.inl (ao.of e2),_,_,rfl,?_⟩
   rw [aab,aab]
   by_cases hlt:fs.length < fs'.length
   · have em:min fs.length fs'.length=fs.length:=by omega
     have n1:=pd w1 (by omega)
     have n2:∃x,bH sd' rd' fs.length=some x:=⟨fs'[fs.length],by rw [w2.at (by omega),aad hlt]⟩
     obtain ⟨x,n2⟩:=n2
     refine uV (fun z=>by rw [em,n1]; decide) (fun al=>?_)
     have:=al.1 fs.length
     rw [n1,n2] at this
     cases this
   · have hlt:fs'.length < fs.length:=by omega
     have em:min fs.length fs'.length=fs'.length:=by omega
     have n2:=pd w2 (by omega)
     have n1:∃x,bH sd rd fs'.length=some x:=⟨fs[fs'.length],by rw [w1.at (by omega),aad hlt]⟩
     obtain ⟨x,n1⟩:=n1
     refine uV (fun z=>by rw [em,n1,n2] at z; cases z) (fun al=>?_)
     have:=al.1 fs'.length
     rw [n1,n2] at this
     cases this
 have hle:fs.length=fs'.length:=by
   by_cases z:fs.length=fs'.length
   · exact z
   · exact absurd (by rw [decide_eq_false (fun y=>z (by injection y with y; omega))]; rfl) c
 refine ⟨_,rfl,p,_,_,_,rfl,rfl,aK.of (s4 _ _ hp),rfl,rfl,_,rfl,p',_,_,_,rfl,rfl,aK.of (s4 _ _ oC),rfl,rfl,rfl,_,rfl,?_⟩
 have d1:=xf Kr
 have d2:=xf A8
 rw [d1,d2]
 refine aF (fun c=>?_) (fun c=>?_)
 · have hne:rd.isNone≠rd'.isNone:=fun z=>by rw [z,decide_eq_true rfl] at c; exact absurd c (by decide)
   refine ⟨_,rfl,l1,_,rfl,.inl (ao.of e1),_,rfl,l2,_,rfl,.inl (ao.of e2),_,_,rfl,?_⟩
   rw [aab,aab]
   have Ui:∀{sd:List Int} {rd:Option (List Int)} {fs:List Int},eP sd rd m fs->rd=none->sd.length<=m->bH sd rd fs.length=none:=fun {sd rd fs} w h1 h2=>by
     subst h1
     have h3:sd.length<=fs.length:=by
       by_cases z:sd.length<=fs.length
       · exact z
       · have:=w.at (i:=fs.length) (by omega)
         unfold bH at this
         rw [if_pos (by omega),aad (by omega),ab3 (aaf _)] at this
         cases this
     exact gA rfl h3
   refine uV (fun z y=>?_) (fun al=>hne al.2)
   unfold jG at Tz
   cases rd with
   | none=>
     rw [show min fs.length fs'.length=fs.length by omega,Ui w1 rfl (by omega)] at y
     cases y
   | some xs=>
     cases rd' with
     | none=>
       rw [z,show min fs.length fs'.length=fs'.length by omega,Ui w2 rfl (by omega)] at y
       cases y
     | some ys=>exact hne rfl
 · have heq:rd.isNone=rd'.isNone:=by
     by_cases z:rd.isNone=rd'.isNone
     · exact z
     · exact absurd (by rw [decide_eq_false (fun y=>z (by injection y))]; rfl) c
   refine q _ _ KA (.inl ⟨⟨Fl (m:=m) (by omega) fun i hi=>?_,heq⟩,rfl⟩)
   by_cases h:i < fs.length
   · exact (pre i (by omega)).1
   · rw [w1.at hi,w2.at hi,ab3 (by omega),ab3 (by omega)]
theorem ux (s:Src K mg "said_alike" dS)(m_len:mg "len"=none)(m_min:mg "min"=none)(m_enumerate:mg "enumerate"=none)(m_zip:mg "zip"=none)(ST:aX P w K mg base "numbers_that_settle" ["run","another"] 1 gJ)(FS:aX P w K mg base "first_said" ["run","many"] 1 jX):aX P w K mg base "said_alike" ["run","another"] 2 kf:=
 let ⟨f,fd,F,m⟩:=s
 ⟨f,fd,yU F m_len m_min m_enumerate m_zip ST FS,F.kp,d4 F fun _ _ _ _ _ _ _ _=>rfl,m⟩
theorem GX.ro {H H':Hp}{sa:Addr}:∀{rd:Option (List Int)} {ro:V},GX H H' sa ro rd->tP H' ro rd
 | none,_,h=>h
 | some _,_,⟨l,e,_,_,h⟩=>⟨l,e,h⟩
def E.vw (f:Str->Str):E->E
 | .num n=>.num n | .box t x=>.box t (f x) | .yes=>.yes | .nt a=>.nt (a.vw f) | .two k a b=>.two k (a.vw f) (b.vw f)
def Nd.as (f:Str->Str)(g:Int->Int):Nd->Nd
 | .put x s n=>.put (f x) (s.vw f) (g n) | .say s n=>.say (s.vw f) (g n) | .test c n o=>.test (c.vw f) (g n) (g o) | .fin=>.fin
def bP (H:Hp)(c:Addr)(dom:List Str)(f:Str->Str):Prop:=∃kvs,H c=some (.dK kvs)/\∀x∈dom,bE kvs (.inr x)=some (.str (f x))
theorem bP.same {H H':Hp}{c:Addr}{dom:List Str}{f:Str->Str}(h:bP H c dom f)(s:ah H H'):bP H' c dom f:=let ⟨kvs,e,v⟩:=h; ⟨kvs,s _ _ e,v⟩
theorem bP.get {H:Hp}{c:Addr}{dom:List Str}{f:Str->Str}(h:bP H c dom f){x:Str}(hx:x∈dom):fO H c (.str x) (some (.str (f x))):=by
 obtain ⟨kvs,e,v⟩:=h
 have g:=fO.k (k:=.inr x) e
 rw [v x hx] at g
 exact g
inductive Pt where
 | plain (v:V) | tree (e:E)
def Pt.isAt (H:Hp):V->Pt->Prop
 | v,.plain u=>v=u/\((∃s,u=.str s)\/∃i,u=.int i)
 | v,.tree e=>cF H v e
def Pt.jK (f:Str->Str)(H:Hp):V->Pt->Prop
 | v,.plain u=>v=u
 | v,.tree e=>cF H v (e.vw f)
theorem Pt.jK.keep {f:Str->Str}{H H':Hp}(k:TK H H'):∀{pt:Pt} {v:V},Pt.jK f H v pt->Pt.jK f H' v pt
 | .plain _,_,h=>h
 | .tree _,_,h=>cF.keep k h
def Pt.Rg (dom:List Str)(n:Nat):Pt->Prop
 | .plain _=>True
 | .tree e=>e.okIn (Kw dom)/\e.dep < n
abbrev Cd:Stmt:=top 48
def kc (n:Nat):Sp:=fun vs H Q _=>∃(v:V) (c:Addr) (e:E) (dom:List Str) (f:Str->Str),vs=[v,.ref c]/\cF H v e/\e.okIn (Kw dom)/\bP H c dom f/\e.dep < n/\∀(v':V) (H':Hp),ah H H'->cF H' v' (e.vw f)->Q v' H'
theorem M8:aD ["thing","called"] ["thing","called"] (ag Cd):=⟨rfl,rfl,rfl,by decide +kernel,rfl,by decide +kernel,by decide +kernel⟩
theorem uj:aY Cd "tuple":=by decide +kernel
theorem IL {n:Nat}{f:Addr}{fd:aao}(F:cJ K "_law_renamed" "_law_renamed" Cd f fd)(m_tuple:mg "tuple"=none)(m_isinstance:mg "isinstance"=none)(G:aX P w K mg base "_law_renamed" ["thing","called"] (n + 1) (kc n)):aP P w K mg base cO (n + 2) f fd ["thing","called"] (kc (n + 1)):=by
 refine F.ok M8 (fun vs H Q E h=>?_) (fun cdv A outer s H vs Q E hr h=>?_)
 · obtain ⟨v,c,e,dom,g,rfl,_⟩:=h
   rfl
 obtain ⟨v,c,e,dom,g,rfl,ev,ok,ca,hd,q⟩:=h
 refine kI ⟨_,(ael (aez (aey aeE (aem aew (aei 0) aek) aep) (aeo (aeq (aer (aeh aep (aeh (afd (bQ hr _ (by decide)) (aei 1) (aem aew (aei 0) aek)) aej))))) aeA)
   (aeo (aeq (aeK L3.lV uj m_tuple (by decide +kernel) (aeh (aeP [none,some 1] ["part","called"] (show aE _ (ag Cd) from ⟨rfl,by decide +kernel,by decide +kernel,by decide +kernel⟩) (by rfl) (L3.iT (aei 0)) (fun _ _ _ _ _=>⟨(aes 0 (show (["part","called"]:List Str).Nodup from by decide +kernel)),aeJ,(L3.T6 (ae3 (aeD L3.FG (by rfl) m_isinstance (by decide +kernel) (aeh (aei 0) (aeh (L3.G8 (w:=.ty "tuple") (by rfl) m_tuple (by decide +kernel) rfl) aej)))) (aet G hr (by rfl) (aeh (aei 0) (aeh (aei 1) aej))) (aei 0))⟩)) aej))))),?_⟩
 have key:(∃x,e=.box "box" x/\x∈dom)\/∃(p:Addr) (xs:List V) (pts:List Pt) (s0:Str),v=.ref p/\H p=some (.tup xs)/\Paired (Pt.isAt H) xs pts/\lU xs 0=some (.str s0)/\s0≠"box"/\(∀pt∈pts,pt.Rg dom n)/\xs.length<=4 /\
     ∀(p':Addr) (ys:List V) (H':Hp),ah H H'->H' p'=some (.tup ys)->Paired (Pt.jK g H') ys pts->Q (.ref p') H':=by
   cases e with
   | num m=>
     obtain ⟨p,rfl,hp⟩:=ev
     refine .inr ⟨p,_,[.plain (.str "number"),.plain (.int m)],"number",rfl,hp,.cons ⟨rfl,.inl ⟨_,rfl⟩⟩ (.cons ⟨rfl,.inr ⟨_,rfl⟩⟩ .nil),rfl,by decide,?_,by show 2<=4; decide,fun p' ys H' s' oC po=>q _ _ s' ?_⟩
     · intro pt hpt
       rcases List.mem_cons.mp hpt with z | z
       · subst z; trivial
       · rw [List.mem_singleton.mp z]; trivial
     · cases po with
       | cons h1 po=>cases po with
         | cons h2 po=>cases po; cases h1; cases h2; exact ⟨p',rfl,oC⟩
   | box t x=>
     obtain ⟨rfl,hx⟩:=ok
     exact .inl ⟨x,rfl,hx⟩
   | yes=>
     obtain ⟨p,rfl,hp⟩:=ev
     refine .inr ⟨p,_,[.plain (.str "yes")],"yes",rfl,hp,.cons ⟨rfl,.inl ⟨_,rfl⟩⟩ .nil,rfl,by decide,?_,by show 1<=4; decide,fun p' ys H' s' oC po=>q _ _ s' ?_⟩
     · intro pt hpt
       rw [List.mem_singleton.mp hpt]; trivial
     · cases po with
       | cons h1 po=>cases po; cases h1; exact ⟨p',rfl,oC⟩
   | nt a=>
     obtain ⟨x,⟨p,rfl,hp⟩,ax⟩:=ev
     have oA:a.dep + 1 < n + 1:=hd
     refine .inr ⟨p,_,[.plain (.str "not"),.tree a],"not",rfl,hp,.cons ⟨rfl,.inl ⟨_,rfl⟩⟩ (.cons ax .nil),rfl,by decide,?_,by show 2<=4; decide,fun p' ys H' s' oC po=>q _ _ s' ?_⟩
     · intro pt hpt
       rcases List.mem_cons.mp hpt with z | z
       · subst z; trivial
       · rw [List.mem_singleton.mp z]; exact ⟨ok,by omega⟩
     · cases po with
       | cons h1 po=>cases po with
         | cons h2 po=>cases po; cases h1; exact ⟨_,⟨p',rfl,oC⟩,h2⟩
   | two k a b=>
     obtain ⟨x,y,⟨p,rfl,hp⟩,ax,ay⟩:=ev
     have oA:max a.dep b.dep + 1 < n + 1:=hd
     refine .inr ⟨p,_,[.plain (.str k.str),.tree a,.tree b],k.str,rfl,hp,.cons ⟨rfl,.inl ⟨_,rfl⟩⟩ (.cons ax (.cons ay .nil)),rfl,by cases k <;> decide,?_,by show 3<=4; decide,fun p' ys H' s' oC po=>q _ _ s' ?_⟩
     · intro pt hpt
       rcases List.mem_cons.mp hpt with z | hpt
       · subst z; trivial
       rcases List.mem_cons.mp hpt with z | z
       · subst z; exact ⟨ok.1,by omega⟩
       · rw [List.mem_singleton.mp z]; exact ⟨ok.2,by omega⟩
     · cases po with
       | cons h1 po=>cases po with
         | cons h2 po=>cases po with
           | cons h3 po=>cases po; cases h1; exact ⟨_,_,⟨p',rfl,oC⟩,h2,h3⟩
 rcases key with ⟨x,rfl,hx⟩ | ⟨p,xs,pts,s0,rfl,hp,pp,h0,hne,YB,DY,q⟩
 · obtain ⟨p,rfl,hp⟩:=ev
   refine ⟨_,rfl,p,_,_,_,rfl,rfl,aK.of hp,rfl,rfl,_,rfl,?_⟩
   refine aF (fun _=>?_) (fun c=>absurd (decide_eq_true rfl) c)
   refine ⟨_,rfl,_,rfl,p,_,_,_,rfl,rfl,aK.of hp,rfl,c,_,rfl,ca.get hx,agr,fun p2 cf=>?_⟩
   exact q _ _ (af cf _) ⟨p2,rfl,ae⟩
 · refine ⟨_,rfl,p,_,_,_,rfl,rfl,aK.of hp,h0,rfl,_,rfl,?_⟩
   refine aF (fun c=>absurd (of_decide_eq_true c) (fun z=>hne (by injection z))) (fun _=>?_)
   refine ⟨_,rfl,p,rfl,⟨_,aK.of hp⟩,fun nb tH=>?_⟩
   refine qY (xs:=xs) (fun i H2=>∃ys:List V,ah H H2/\H2 nb=some (.lst ys)/\ys.length=i/\Paired (Pt.jK g H2) ys (pts.take i)) ⟨[],af tH _,ae,rfl,.nil⟩ (fun i H2 _ z=>aK.of (z.choose_spec.1 _ _ hp)) (fun i x H2 hx z=>?_) (fun H2 z=>?_)
   · obtain ⟨ys,s2,og,T4,py⟩:=z
     obtain ⟨pt,hpt,n9⟩:=Paired.get pp hx
     have dQ:i < xs.length:=(List.getElem?_eq_some_iff.mp hx).1
     have Ul:=YB pt (aan hpt)
     refine bo ?_
     refine bV (A:=fun H3=>dg _ nb _ H3 _) ?_
     have fin:∀(v:V) (H3:Hp),ah H2 H3->Pt.jK g H3 v pt->∃ys,H3 nb=some (.lst ys)/\ys.length < sizeLine/\∃Nw,ah H (upd H3 nb (.lst (ys++[v])))/\(upd H3 nb (.lst (ys++[v]))) nb=some (.lst Nw)/\Nw.length=i + 1/\Paired (Pt.jK g (upd H3 nb (.lst (ys++[v])))) Nw (pts.take (i + 1)):=fun v H3 s3 ho=>by
       have AD:=s3 _ _ og
       refine ⟨ys,AD,aB (by omega),ys++[v],aG (aa s2 s3) tH,ae,by rw [aae,T4]; rfl,?_⟩
       rw [aal,hpt]
       exact Paired.snoc (Paired.aZ py fun a b h=>h.keep ((ah.tk s3).trans (TK.lst AD))) (ho.keep (TK.lst AD))
     cases pt with
     | plain u=>
       obtain ⟨rfl,hu⟩:=n9
       have hty:∃T:String,iE K H2 x (.type T)/\aaH K (.type T) (.type "tuple")=some false:=by
         rcases hu with ⟨s,rfl⟩ | ⟨i,rfl⟩
         · exact ⟨"str",.str s,rfl⟩
         · exact ⟨"int",.int i,rfl⟩
       obtain ⟨T,ty,Yb⟩:=hty
       obtain ⟨R3,g1,g2,g3⟩:=fin x H2 (same_refl _) rfl
       refine ⟨_,rfl,x,"tuple",_,false,rfl,ty,Yb,_,rfl,?_⟩
       refine iY ⟨_,rfl,R3,g1,g2,aL (Pv:=fun i H2=>∃ys:List V,ah H H2/\H2 nb=some (.lst ys)/\ys.length=i/\Paired (Pt.jK g H2) ys (pts.take i)) (by repeat' constructor) dQ g3⟩
     | tree e1=>
       obtain ⟨px,ex,Xz⟩ : ∃px,x=.ref px/\∃us,H px=some (.tup us):=by
         have AB:cF H x e1:=n9
         cases e1 with
         | num m=>obtain ⟨p,e,h⟩:=AB; exact ⟨p,e,_,h⟩
         | box t y=>obtain ⟨p,e,h⟩:=AB; exact ⟨p,e,_,h⟩
         | yes=>obtain ⟨p,e,h⟩:=AB; exact ⟨p,e,_,h⟩
         | nt a=>obtain ⟨_,⟨p,e,h⟩,_⟩:=AB; exact ⟨p,e,_,h⟩
         | two k a b=>obtain ⟨_,_,⟨p,e,h⟩,_,_⟩:=AB; exact ⟨p,e,_,h⟩
       obtain ⟨us,D3⟩:=Xz
       subst ex
       refine ⟨_,rfl,.ref px,"tuple",_,true,rfl,.tup (s2 _ _ D3),rfl,_,rfl,?_⟩
       refine fT ⟨_,rfl,_,rfl,.ref px,c,e1,dom,g,rfl,cF.keep (ah.tk s2) n9,Ul.1,ca.same s2,Ul.2,fun v' H3 s3 O9=>?_⟩
       obtain ⟨R3,g1,g2,g3⟩:=fin v' H3 s3 O9
       exact ⟨R3,g1,g2,aL (Pv:=fun i H2=>∃ys:List V,ah H H2/\H2 nb=some (.lst ys)/\ys.length=i/\Paired (Pt.jK g H2) ys (pts.take i)) (by repeat' constructor) dQ g3⟩
   · obtain ⟨ys,s2,og,T4,py⟩:=z
     rw [Paired.length pp,aaA] at py
     refine ⟨nb,_,rfl,ao.of og,fun p' oC=>?_⟩
     exact q p' ys _ (aC s2 oC) ae (Paired.aZ py fun a b h=>h.keep (aI oC _))
theorem Bj {f:Addr}{fd:aao}:aP P w K mg base cO 1 f fd ["thing","called"] (kc 0):=by
 have no:∀vs H Q E,¬ kc 0 vs H Q E:=fun vs H Q E h=>by
   obtain ⟨_,_,_,_,_,_,_,_,_,h1,_⟩:=h
   omega
 exact ⟨fun vs H Q E h=>absurd h (no vs H Q E),fun A outer s H args us vs Q E _ _ _ _ h=>absurd h (no vs H Q E)⟩
theorem DQ (s:Src K mg "_law_renamed" Cd)(m_tuple:mg "tuple"=none)(m_isinstance:mg "isinstance"=none):∀n:Nat,aX P w K mg base "_law_renamed" ["thing","called"] (n + 1) (kc n):=by
 obtain ⟨f,fd,F,m⟩:=s
 have b:Binds K fd ["thing","called"] []:=d4 F fun _ _ _ _ _ _ _ _=>rfl
 intro n
 have all:aP P w K mg base cO (n + 1) f fd ["thing","called"] (kc n):=by
   induction n with
   | zero=>exact Bj
   | succ n ih=>exact IL F m_tuple m_isinstance ⟨f,fd,ih,F.kp,b,m⟩
 exact ⟨f,fd,all,F.kp,b,m⟩
abbrev l9:Stmt:=top 49
abbrev xi:Stmt:=top 51
def oF (ps:List Int)(n:Int):Int:=ps.getD n.toNat 0
theorem nF {ps:List Int}{n:Int}(h0:0<=n)(h1:n < (ps.length:Int)):lU (ps.map V.int) n=some (.int (oF ps n)):=by
 obtain ⟨x,g,_,e⟩:=cG V.int ps h0 h1
 rw [e]
 unfold oF
 rw [aaz,g]
 rfl
def jY:Sp:=fun vs H Q _=>∃(v:V) (c pl:Addr) (e:Nd) (dom:List Str) (f:Str->Str) (ps:List Int),vs=[v,.ref c,.ref pl]/\cy H v e/\e.good (· ∈ dom) ps.length 5/\bP H c dom f/\H pl=some (.lst (ps.map V.int))/\∀(v':V) (H':Hp),ah H H'->cy H' v' (e.as f (oF ps))->Q v' H'
theorem Cj:aD ["node","called","places"] ["node","called","places"] (ag l9):=⟨rfl,rfl,rfl,by decide +kernel,rfl,by decide +kernel,by decide +kernel⟩
theorem cC:aY l9 "_law_renamed":=by decide +kernel
theorem yQ {f:Addr}{fd:aao}(F:cJ K "_law_node_as" "_law_node_as" l9 f fd)(R:aX P w K mg base "_law_renamed" ["thing","called"] 7 (kc 6)):aP P w K mg base cO 8 f fd ["node","called","places"] jY:=by
 refine F.ok Cj (fun vs H Q E h=>?_) (fun cdv A outer s H vs Q E hr h=>?_)
 · obtain ⟨v,c,pl,e,dom,g,ps,rfl,_⟩:=h
   rfl
 obtain ⟨v,c,pl,e,dom,g,ps,rfl,ev,gd,ca,hpl,q⟩:=h
 refine kI ⟨_,(ael (aez (aey aeE (aem aew (aei 0) aek) aep) (aeo (aeq (aer (aeh aep (aeh (afd (bQ hr _ (by decide)) (aei 1) (aem aew (aei 0) aek)) (aeh (aet R hr cC (aeh (aem aew (aei 0) aek) (aeh (aei 1) aej))) (aeh (aem aeu (aei 2) (aem aew (aei 0) aek)) aej))))))) aeA)
   (ael (aez (aey aeE (aem aew (aei 0) aek) aep) (aeo (aeq (aer (aeh aep (aeh (aet R hr cC (aeh (aem aew (aei 0) aek) (aeh (aei 1) aej))) (aeh (aem aeu (aei 2) (aem aew (aei 0) aek)) aej)))))) aeA)
   (ael (aez (aey aeE (aem aew (aei 0) aek) aep) (aeo (aeq (aer (aeh aep (aeh (aet R hr cC (aeh (aem aew (aei 0) aek) (aeh (aei 1) aej))) (aeh (aem aeu (aei 2) (aem aew (aei 0) aek)) (aeh (aem aeu (aei 2) (aem aew (aei 0) aek)) aej))))))) aeA)
   (aeo (aeq (aei 0)))))),?_⟩
 cases e with
 | put x s1 n1=>
   obtain ⟨u,⟨p,rfl,hp⟩,au⟩:=ev
   obtain ⟨hx,lR,iz,zx,n0,nl⟩:=gd
   refine ⟨_,rfl,p,_,_,_,rfl,rfl,aK.of hp,rfl,rfl,_,rfl,?_⟩
   refine aF (fun _=>?_) (fun c=>absurd (decide_eq_true rfl) c)
   refine ⟨_,rfl,_,rfl,p,_,_,_,rfl,rfl,aK.of hp,rfl,c,_,rfl,ca.get hx,?_⟩
   refine ⟨_,rfl,p,_,_,_,rfl,rfl,aK.of hp,rfl,_,rfl,u,c,s1,dom,g,rfl,au,iz,ca,by omega,fun v' H2 s2 a2=>?_⟩
   refine ⟨_,rfl,_,rfl,p,_,_,_,rfl,rfl,aK.of (s2 _ _ hp),rfl,pl,_,_,_,rfl,rfl,ao.of (s2 _ _ hpl),nF n0 nl,agt,fun p2 cf=>?_⟩
   exact q _ _ (aC s2 cf) ⟨v',⟨p2,rfl,ae⟩,a2.keep (aI cf _)⟩
 | say s1 n1=>
   obtain ⟨u,⟨p,rfl,hp⟩,au⟩:=ev
   obtain ⟨lR,iz,zx,n0,nl⟩:=gd
   refine ⟨_,rfl,p,_,_,_,rfl,rfl,aK.of hp,rfl,rfl,_,rfl,?_⟩
   refine aF (fun c=>absurd (of_decide_eq_true c) (by decide)) (fun _=>?_)
   refine ⟨_,rfl,p,_,_,_,rfl,rfl,aK.of hp,rfl,rfl,_,rfl,?_⟩
   refine aF (fun _=>?_) (fun c=>absurd (decide_eq_true rfl) c)
   refine ⟨_,rfl,p,_,_,_,rfl,rfl,aK.of hp,rfl,_,rfl,u,c,s1,dom,g,rfl,au,iz,ca,by omega,fun v' H2 s2 a2=>?_⟩
   refine ⟨_,rfl,_,rfl,p,_,_,_,rfl,rfl,aK.of (s2 _ _ hp),rfl,pl,_,_,_,rfl,rfl,ao.of (s2 _ _ hpl),nF n0 nl,ags,fun p2 cf=>?_⟩
   exact q _ _ (aC s2 cf) ⟨v',⟨p2,rfl,ae⟩,a2.keep (aI cf _)⟩
 | test s1 n1 n2=>
   obtain ⟨u,⟨p,rfl,hp⟩,au⟩:=ev
   obtain ⟨lR,iz,zx,n0,nl,m0,ml⟩:=gd
   refine ⟨_,rfl,p,_,_,_,rfl,rfl,aK.of hp,rfl,rfl,_,rfl,?_⟩
   refine aF (fun c=>absurd (of_decide_eq_true c) (by decide)) (fun _=>?_)
   refine ⟨_,rfl,p,_,_,_,rfl,rfl,aK.of hp,rfl,rfl,_,rfl,?_⟩
   refine aF (fun c=>absurd (of_decide_eq_true c) (by decide)) (fun _=>?_)
   refine ⟨_,rfl,p,_,_,_,rfl,rfl,aK.of hp,rfl,rfl,_,rfl,?_⟩
   refine aF (fun _=>?_) (fun c=>absurd (decide_eq_true rfl) c)
   refine ⟨_,rfl,p,_,_,_,rfl,rfl,aK.of hp,rfl,_,rfl,u,c,s1,dom,g,rfl,au,iz,ca,by omega,fun v' H2 s2 a2=>?_⟩
   refine ⟨_,rfl,_,rfl,p,_,_,_,rfl,rfl,aK.of (s2 _ _ hp),rfl,pl,_,_,_,rfl,rfl,ao.of (s2 _ _ hpl),nF n0 nl,?_⟩
   refine ⟨_,rfl,_,rfl,p,_,_,_,rfl,rfl,aK.of (s2 _ _ hp),rfl,pl,_,_,_,rfl,rfl,ao.of (s2 _ _ hpl),nF m0 ml,agt,fun p2 cf=>?_⟩
   exact q _ _ (aC s2 cf) ⟨v',⟨p2,rfl,ae⟩,a2.keep (aI cf _)⟩
 | fin=>
   obtain ⟨p,rfl,hp⟩:=ev
   refine ⟨_,rfl,p,_,_,_,rfl,rfl,aK.of hp,rfl,rfl,_,rfl,?_⟩
   refine aF (fun c=>absurd (of_decide_eq_true c) (by decide)) (fun _=>?_)
   refine ⟨_,rfl,p,_,_,_,rfl,rfl,aK.of hp,rfl,rfl,_,rfl,?_⟩
   refine aF (fun c=>absurd (of_decide_eq_true c) (by decide)) (fun _=>?_)
   refine ⟨_,rfl,p,_,_,_,rfl,rfl,aK.of hp,rfl,rfl,_,rfl,?_⟩
   refine aF (fun c=>absurd (of_decide_eq_true c) (by decide)) (fun _=>?_)
   exact ⟨_,rfl,q _ _ (same_refl _) ⟨p,rfl,hp⟩⟩
theorem ur (s:Src K mg "_law_node_as" l9)(R:aX P w K mg base "_law_renamed" ["thing","called"] 7 (kc 6)):aX P w K mg base "_law_node_as" ["node","called","places"] 8 jY:=
 let ⟨f,fd,F,m⟩:=s
 ⟨f,fd,yQ F R,F.kp,tW F fun _ _ _ _ _ _ _ _ _=>rfl,m⟩
def my (bs:List (Str×Int))(f:Str->Str)(after:Int)(e:Nd):Prop:=(∃o,0<=o/\o<=after/\e=.test .yes after o)\/∃x∈bs.map (·.1),e=.put (f x) (.box "box" (f x)) after
def nR:Sp:=fun vs H Q _=>∃(B c:Addr) (vb:List V) (bs:List (Str×Int)) (f:Str->Str) (n after:Int),vs=[.ref B,.ref c,.int n,.int after]/\H B=some (.lst vb)/\Paired (bG H) vb bs/\bP H c (bs.map (·.1)) f/\0<=n/\0<=after/\∀(v':V) (H':Hp) (e:Nd),ah H H'->cy H' v' e->my bs f after e->Q v' H'
theorem Cn:aD ["boxes","called","number","after","name"] ["boxes","called","number","after"] (ag xi):=⟨rfl,rfl,rfl,by decide +kernel,rfl,by decide +kernel,by decide +kernel⟩
theorem x8:aY xi "len":=by decide +kernel
theorem ED {f:Addr}{fd:aao}(F:cJ K "_law_skip" "_law_skip" xi f fd)(m_len:mg "len"=none):aP P w K mg base cO 1 f fd ["boxes","called","number","after"] nR:=by
 refine F.ok Cn (fun vs H Q E h=>?_) (fun cdv A outer s H vs Q E hr h=>?_)
 · obtain ⟨B,c,vb,bs,g,n,after,rfl,_⟩:=h
   rfl
 obtain ⟨B,c,vb,bs,g,n,after,rfl,hB,pb,ca,Xq,Zy,q⟩:=h
 refine kI ⟨_,(ael (aez (aeZ (ae4 (aey (L3.si (m:=0) (bQ hr _ (by decide))) (aei 0) (aeB aej)) (ae5 (aey aeE (aen aeC (aei 2) aek) aek)))) (aeo (aeq (aer (aeh aep (aeh (aer (aeh aep aej)) (aeh (aei 3) (aeh (aen aeC (aen aeU (aei 2) aek) (aen aeM (aei 3) aek)) aej))))))) aeA)
   (ael (aev 4 Cn.nd (afd (bQ hr _ (by decide)) (aei 1) (aem aew (aem aeu (aei 0) (aen aeC (aen aeU (aei 2) aek) (aeD aeF x8 m_len aaq (aeh (aei 0) aej)))) aek)))
   (aeo (aeq (aer (aeh aep (aeh (aei 4) (aeh (aer (aeh aep (aeh (aei 4) aej))) (aeh (aei 3) aej))))))))),?_⟩
 have d2:(2:Int) < 2 ^ 1000:=by decide +kernel
 have lg:vb.length=bs.length:=Paired.length pb
 refine ⟨_,rfl,agp,fun lz FX=>?_⟩
 obtain ⟨H1,s1,hz,zz⟩:=aJ FX (.lst [])
 rw [zz]; clear zz
 have CZ:=s1 _ _ hB
 refine ⟨_,RB.nil (ao.of CZ) (ao.of hz),_,rfl,?_⟩
 refine aF (fun c1=>?_) (fun c1=>?_)
 · refine fT ?_
   refine ⟨agq,fun p1 yt=>⟨_,rfl,_,rfl,_,_,rfl,rfl,⟨(by show (0:Int) < 2; decide),d2⟩,_,rfl,_,_,rfl,rfl,_,_,rfl,rfl,(by show (0:Int) < after + 1; omega),agt,fun p2 cf=>?_⟩⟩
   have k1:cF (upd H1 p1 (.tup [.str "yes"])) (.ref p1) .yes:=⟨p1,rfl,ae⟩
   exact q _ _ (.test .yes after (n / 2 % (after + 1))) (aC (aC s1 yt) cf) ⟨.ref p1,⟨p2,rfl,ae⟩,k1.keep (aI cf _)⟩ (.inl ⟨_,aav _ (by omega),by have:=aap (n / 2) (show 0 < after + 1 by omega); omega,rfl⟩)
 refine ⟨_,rfl,_,_,rfl,rfl,(by show (0:Int) < 2; decide),rfl,_,rfl,?_⟩
 refine aF (fun c2=>?_) (fun c2=>?_)
 · refine ⟨agq,fun p1 yt=>⟨_,rfl,_,rfl,_,_,rfl,rfl,⟨(by show (0:Int) < 2; decide),d2⟩,_,rfl,_,_,rfl,rfl,_,_,rfl,rfl,(by show (0:Int) < after + 1; omega),agt,fun p2 cf=>?_⟩⟩
   have k1:cF (upd H1 p1 (.tup [.str "yes"])) (.ref p1) .yes:=⟨p1,rfl,ae⟩
   exact q _ _ (.test .yes after (n / 2 % (after + 1))) (aC (aC s1 yt) cf) ⟨.ref p1,⟨p2,rfl,ae⟩,k1.keep (aI cf _)⟩ (.inl ⟨_,aav _ (by omega),by have:=aap (n / 2) (show 0 < after + 1 by omega); omega,rfl⟩)
 have lO:(0:Int) < (vb.length:Int):=by
   cases vb with
   | nil=>exact absurd rfl c1
   | cons x r=>simp only [aay]; omega
 obtain ⟨x,gx,n9⟩:=qQ (xs:=vb) (r:=n / 2 % (vb.length:Int)) (aav _ (by omega)) (aap _ lO)
 obtain ⟨b,gb,p,rfl,hp⟩:=Paired.get pb gx
 have hx:b.1∈bs.map (·.1):=List.mem_map.mpr ⟨b,aan gb,rfl⟩
 refine ⟨_,rfl,_,rfl,_,rfl,_,_,rfl,rfl,⟨(by show (0:Int) < 2; decide),d2⟩,_,rfl,B,_,rfl,.inl (ao.of CZ),_,_,rfl,rfl,lO,B,_,_,_,rfl,rfl,ao.of CZ,n9,p,_,_,_,rfl,rfl,aK.of (s1 _ _ hp),rfl,c,_,rfl,(ca.same s1).get hx,?_⟩
 refine ⟨_,rfl,_,rfl,agr,fun p1 yt=>⟨_,rfl,agt,fun p2 cf=>?_⟩⟩
 have k1:cF (upd H1 p1 (.tup [.str "box",.str (g b.1)])) (.ref p1) (.box "box" (g b.1)):=⟨p1,rfl,ae⟩
 exact q _ _ (.put (g b.1) (.box "box" (g b.1)) after) (aC (aC s1 yt) cf) ⟨.ref p1,⟨p2,rfl,ae⟩,k1.keep (aI cf _)⟩ (.inr ⟨b.1,hx,rfl⟩)
theorem Ax (s:Src K mg "_law_skip" xi)(m_len:mg "len"=none):aX P w K mg base "_law_skip" ["boxes","called","number","after"] 1 nR:=
 let ⟨f,fd,F,m⟩:=s
 ⟨f,fd,ED F m_len,F.kp,Ds F fun _ _ _ _ _ _ _ _ _ _=>rfl,m⟩
abbrev fM:Stmt:=top 50
theorem rV (x:Str):∀(ins:List Str),zC (.str x) (ins.map V.str)=decide (x∈ins)
 | []=>rfl
 | y :: r=>by
   show (ko (.str y) (.str x) || zC (.str x) (r.map V.str))=_
   rw [rV x r]
   show ((y == x) || decide (x∈r))=_
   by_cases h:y=x
   · subst h
     simp
   · have h1:(y == x)=false:=beq_eq_false_iff_ne.mpr h
     have h2:¬ x=y:=fun z=>h z.symm
     rw [h1,Bool.false_or]
     by_cases h3:x∈r <;> simp [h2,h3]
theorem kq (ins:List Str):(ins.map V.str).all cp=true:=by
 rw [List.all_map]
 exact List.all_eq_true.mpr fun x _=>rfl
theorem jh {α:Type}[DecidableEq α]{y:α}:∀{xs:List α},y∈xs->∃j:Nat,xs[j]? = some y/\∀m,m < j->xs[m]? ≠ some y
 | x :: r,h=>by
   by_cases e:x=y
   · exact ⟨0,by rw [e]; rfl,fun m hm=>absurd hm (Nat.not_lt_zero _)⟩
   · obtain ⟨j,h1,h2⟩:=jh (xs:=r) ((List.mem_cons.mp h).resolve_left fun z=>e z.symm)
     refine ⟨j + 1,by simpa using h1,fun m hm=>?_⟩
     cases m with
     | zero=>intro z; simp at z; exact e z
     | succ m=>simpa using h2 m (by omega)
theorem nq {α:Type}:∀{l:List α} {i:Nat} (h:i < l.length) {x:α},x∈l->x=l[i]\/x∈l.eraseIdx i
 | a :: r,0,_,x,hx=>by
   rcases List.mem_cons.mp hx with z | z
   · exact .inl z
   · exact .inr (by rw [List.eraseIdx_cons_zero]; exact z)
 | a :: r,i + 1,h,x,hx=>by
   have h':i < r.length:=by simpa using h
   rw [adN]
   rcases List.mem_cons.mp hx with z | z
   · exact .inr (List.mem_cons.mpr (.inl z))
   · rcases nq h' z with y | y
     · exact .inl y
     · exact .inr (List.mem_cons.mpr (.inr y))
theorem cI.short {bs:List (Str×Int)}{ins:List Str}(h:cI bs ins):∀b∈bs,b.1.length<=5:=fun b hb=>by
 obtain ⟨nm,szs,h1,h2,h3,rfl⟩:=h.nm
 have zA:=(abE (a:=b.1) (b:=b.2) hb).1
 have:∀x∈nm,x.length<=5:=by rcases h1 with rfl | rfl | rfl <;> decide +kernel
 exact this _ zA
def fN (ins:List Str)(c:Bool)(x:Str):Str:=if x∈ins then x else if c=true then x++"z" else x
structure tM (bs:List (Str×Int))(ins:List Str)(c:Bool)(st:Int)(bs':List (Str×Int)):Prop where
 bx:bs'=dG st (bs.map fun b=>(fN ins c b.1,b.2))
 st:st=1\/st = -1
theorem vf {α β:Type}{R:α->β->Prop}{xs:List α}{ys:List β}(h:Paired R xs ys):Paired R xs.reverse ys.reverse:=by
 induction h with
 | nil=>exact .nil
 | @cons a b as bs r t ih=>rw [acp,acp]; exact Paired.snoc ih r
theorem sr {β:Type}{R:V->β->Prop}{n:Int}{xs:List V}{ys:List β}(h:Paired R xs ys):Paired R (eB n xs) (dG n ys):=by
 unfold eB dG
 by_cases e:n=1
 · rw [if_pos e,if_pos e]; exact h
 · rw [if_neg e,if_neg e]; exact vf h
theorem Co {Pm:Hp->List Int->Prop}{G:Hp->Prop}{M:Prop}(main:(∀H l,Pm H l->G H)->M)(rest:∀H l,Pm H l->G H):M:=main rest
def xB (ord ps:List Int):Prop:=∀(k:Nat) (x:Int),ps[k]? = some x->∃j:Nat,x=(j:Int)/\ord[j]? = some (k:Int)/\∀m,m < j->ord[m]? ≠ some (k:Int)
theorem zb {ord ps:List Int}{j:Nat}(h:xB ord ps)(hj:ord[j]? = some ((ps.length:Nat):Int))(hn:∀m,m < j->ord[m]? ≠ some ((ps.length:Nat):Int)):xB ord (ps++[(j:Int)]):=fun k x hx=>by
 by_cases hk:k < ps.length
 · rw [aaV hk] at hx
   exact h k x hx
 · have hl:=(List.getElem?_eq_some_iff.mp hx).1
   rw [aae] at hl
   have e:k=ps.length:=by simp at hl; omega
   subst e
   rw [aba (aaf _),aeb] at hx
   cases hx
   exact ⟨j,rfl,hj,hn⟩
theorem pj {ord ps:List Int}(h:xB ord ps)(h0:ord[0]? = some 0)(hl:0 < ps.length):ps[0]? = some 0:=by
 obtain ⟨j,e,hj,hn⟩:=h 0 ps[0] (aad hl)
 have AN:j=0:=by
   by_cases z:j=0
   · exact z
   · exact absurd h0 (hn 0 (by omega))
 rw [aad hl,e,AN]
 rfl
def vU (ord:List Int)(many:Int)(ps dv:List Int)(sk:Nat):Prop:=∀(k:Nat) (x:Int),dv[k]? = some x->ps[k]? = some x\/(k=sk/\∃j:Nat,x=(j:Int)/\ord[j]? = some many)
def vX (bs:List (Str×Int))(f:Str->Str)(nds:List Nd)(ord ps dv:List Int)(sk:Int)(nds2:List Nd):Prop:=∀(j:Nat) (e':Nd),nds2[j]? = some e'->∃k:Int,ord[j]? = some k/\((∃e,0<=k/\nds[k.toNat]? = some e/\e'=e.as f (oF dv))\/(k=(nds.length:Int)/\sk < (nds.length:Int)/\my bs f (oF ps sk) e'))
theorem nr {bs:List (Str×Int)}{f:Str->Str}{nds:List Nd}{ord ps dv:List Int}{sk:Int}{nds2:List Nd}{e:Nd}(h:vX bs f nds ord ps dv sk nds2)(hn:∃k:Int,ord[nds2.length]? = some k/\((∃e1,0<=k/\nds[k.toNat]? = some e1/\e=e1.as f (oF dv))\/(k=(nds.length:Int)/\sk < (nds.length:Int)/\my bs f (oF ps sk) e))):vX bs f nds ord ps dv sk (nds2++[e]):=fun j e' hj=>by
 by_cases hk:j < nds2.length
 · rw [aaV hk] at hj
   exact h j e' hj
 · have hl:=(List.getElem?_eq_some_iff.mp hj).1
   rw [aae] at hl
   have e1:j=nds2.length:=by simp at hl; omega
   subst e1
   rw [aba (aaf _),aeb] at hj
   cases hj
   exact hn
structure pM (bs:List (Str×Int))(f:Str->Str)(nds nds2:List Nd)(ps dv:List Int):Prop where
 pl:ps.length=nds.length
 bl:dv.length=nds.length
 all:∀(k:Nat) (e:Nd),nds[k]? = some e->∃p b:Nat,ps[k]? = some (p:Int)/\dv[k]? = some (b:Int)/\p < nds2.length/\b < nds2.length/\nds2[p]? = some (e.as f (oF dv))/\(b=p\/∃e',nds2[b]? = some e'/\my bs f (p:Int) e')
 only:∀(j:Nat) (e':Nd),nds2[j]? = some e'->(∃e∈nds,e'=e.as f (oF dv))\/∃p:Nat,p < nds2.length/\my bs f (p:Int) e'
 zero:dv[0]? = some 0
theorem yL {bs:List (Str×Int)}{f:Str->Str}{nds nds2:List Nd}{ord ps dv:List Int}{sk:Int}(pl:ps.length=nds.length)(bl:dv.length=nds.length)(hp:xB ord ps)(hb:vU ord (nds.length:Int) ps dv sk.toNat)(hn:vX bs f nds ord ps dv sk nds2)(hl:nds2.length=ord.length)(zero:dv[0]? = some 0):pM bs f nds nds2 ps dv:=by
 have pat:∀(k:Nat),k < nds.length->∃p:Nat,ps[k]? = some (p:Int)/\ord[p]? = some (k:Int)/\p < nds2.length:=fun k hk=>by
   have LF:k < ps.length:=by omega
   obtain ⟨j,e,hj,_⟩:=hp k ps[k] (aad LF)
   have:=(List.getElem?_eq_some_iff.mp hj).1
   exact ⟨j,by rw [aad LF,e],hj,by omega⟩
 have YL:∀{k p:Nat},ps[k]? = some (p:Int)->oF ps (k:Int)=(p:Int):=fun h=>by
   unfold oF
   rw [aaz,aa5,h]
   rfl
 refine ⟨pl,bl,fun k e he=>?_,fun j e' hj=>?_,zero⟩
 · have hk:k < nds.length:=(List.getElem?_eq_some_iff.mp he).1
   obtain ⟨p,h1,h2,h3⟩:=pat k hk
   have PY:k < dv.length:=by omega
   have cf:nds2[p]? = some (e.as f (oF dv)):=by
     obtain ⟨k',h4,h5⟩:=hn p nds2[p] (aad h3)
     rw [h2] at h4
     cases h4
     rcases h5 with ⟨e1,_,h6,h7⟩ | ⟨h6,_⟩
     · rw [aa5,he] at h6
       cases h6
       rw [aad h3,h7]
     · omega
   rcases hb k dv[k] (aad PY) with h4 | ⟨h4,j,h5,h6⟩
   · have e1:dv[k]=(p:Int):=by
       rw [h1] at h4
       exact (aaB h4).symm
     exact ⟨p,p,h1,by rw [aad PY,e1],h3,h3,cf,.inl rfl⟩
   · have Tv:=(List.getElem?_eq_some_iff.mp h6).1
     have HS:j < nds2.length:=by omega
     obtain ⟨k',h7,h8⟩:=hn j nds2[j] (aad HS)
     rw [h6] at h7
     cases h7
     refine ⟨p,j,h1,by rw [aad PY,h5],h3,HS,cf,.inr ⟨_,aad HS,?_⟩⟩
     rcases h8 with ⟨e1,_,h9,_⟩ | ⟨_,h9,Wz⟩
     · have:=(List.getElem?_eq_some_iff.mp h9).1
       omega
     · have yv:oF ps sk=(p:Int):=by
         have WA:oF ps sk=oF ps (k:Int):=by unfold oF; rw [h4,aa5]
         rw [WA,YL h1]
       rw [← yv]
       exact Wz
 · obtain ⟨k',h4,h5⟩:=hn j e' hj
   rcases h5 with ⟨e1,_,h6,h7⟩ | ⟨_,h6,h7⟩
   · exact .inl ⟨e1,aan h6,h7⟩
   · have hk:sk.toNat < nds.length:=by
       have:=adU (aan (show dv[0]? = some 0 from zero))
       omega
     obtain ⟨p,h1,h2,h3⟩:=pat sk.toNat hk
     refine .inr ⟨p,h3,?_⟩
     have e1:oF ps sk=(p:Int):=by
       unfold oF
       rw [aaz,h1]
       rfl
     rw [← e1]
     exact h7
structure KQ (bs:List (Str×Int))(nds:List Nd):Prop where
 l2:bs.length<=2
 sh:∀b∈bs,b.1.length<=20
 one:1<=nds.length
 few:(nds.length:Int)<=100
 good:∀e∈nds,e.good (· ∈ bs.map (·.1)) nds.length 5
def vI:Sp:=fun vs H Q _=>∃(v:V) (r:Addr) (bs:List (Str×Int)) (ins:List Str) (nds:List Nd) (row:List Int) (n:Nat),vs=[v,.ref r]/\bD H v bs ins nds/\KQ bs nds/\H r=some (.lst (row.map V.int))/\Row (2 ^ 30) row n/\6<=n /\
 ∀(p q T I2 N2 c pl bh:Addr) (H':Hp) (vt vn2:List V) (bs':List (Str×Int)) (nds2:List Nd) (cz:Bool) (st:Int),ah H H'->H' p=some (.tup [.ref q,.ref c,.ref pl,.ref bh])->H' q=some (.tup [.ref T,.ref I2,.ref N2])->H' T=some (.lst vt)->Paired (bG H') vt bs'->H' I2=some (.lst (ins.map V.str))->H' N2=some (.lst vn2)->Paired (cy H') vn2 nds2->nds2.length<=nds.length + 1 ->
   bP H' c (bs.map (·.1)) (fN ins cz)->tM bs ins cz st bs'->∀(ps dv:List Int),H' pl=some (.lst (ps.map V.int))->H' bh=some (.lst (dv.map V.int))->pM bs (fN ins cz) nds nds2 ps dv->Q (.ref p) H'
theorem eC {u1 u2:TS}{D:L2.Ends}{σ:L2.St}{H:Hp}(h:∀R:L2.St->Hp->Prop,(∀σ H,u2 D σ H->R σ H)->u1 { D with nx:=R } σ H):kW u1 u2 D σ H:=h _ fun _ _ z=>z
theorem K7 {u1 u2 u3:TS}{D:L2.Ends}{σ:L2.St}{H:Hp}(h:∀R:L2.St->Hp->Prop,(∀σ H,u3 D σ H->R σ H)->kW u1 (kW u2 fun _=>R) D σ H):kW u1 (kW u2 u3) D σ H:=h (u3 D) fun _ _ z=>z
theorem Dz {u1 u2 u3 u4:TS}{D:L2.Ends}{σ:L2.St}{H:Hp}(h:∀R:L2.St->Hp->Prop,(∀σ H,u4 D σ H->R σ H)->kW u1 (kW u2 (kW u3 fun _=>R)) D σ H):kW u1 (kW u2 (kW u3 u4)) D σ H:=h (u4 D) fun _ _ z=>z
theorem cu:aD ["program","row","boxes","inputs","nodes","called","name","size","many","skipped","left","order","k","places","behind","found","turned"] ["program","row"] (ag fM):=⟨rfl,rfl,rfl,by decide +kernel,rfl,by decide +kernel,by decide +kernel⟩
theorem oU:aY fM "len":=by decide +kernel
theorem f7:aY fM "range":=by decide +kernel
theorem xX:aY fM "int":=by decide +kernel
theorem mV:aY fM "list":=by decide +kernel
theorem jo:aY fM "_law_node_as":=by decide +kernel
theorem mU:aY fM "_law_skip":=by decide +kernel
theorem Ey {f:Addr}{fd:aao}(F:cJ K "_law_made_over" "_law_made_over" fM f fd)(m_len:mg "len"=none)(m_range:mg "range"=none)(m_int:mg "int"=none)(m_list:mg "list"=none)(NA:aX P w K mg base "_law_node_as" ["node","called","places"] 8 jY)(SK:aX P w K mg base "_law_skip" ["boxes","called","number","after"] 1 nR):aP P w K mg base cO 9 f fd ["program","row"] vI:=by
 refine F.ok cu (fun vs H Q E h=>?_) (fun cdv A outer s H vs Q E hr h=>?_)
 · obtain ⟨v,r,bs,ins,nds,row,n,rfl,_⟩:=h
   rfl
 obtain ⟨v,r,bs,ins,nds,row,n,rfl,⟨p,B,I,N,vb,vn,rfl,hp,hB,hI,hN,pb,pn⟩,zE,C1,hR,ZI,q⟩:=h
 have Ve:=NA
 have Vh:=SK.mono (show 1<=8 by decide)
 refine kI ⟨_,(ael (ae2 (aei 0) (aeG 3 (aex (aes 2 cu.nd) (aex (aes 3 cu.nd) (aex (aes 4 cu.nd) aeH)))))
   (ael (aev 5 cu.nd L3.K9)
   (ael (aeX (aeO (aei 2)) (aeG 2 (aex (aes 6 cu.nd) (aex (aes 7 cu.nd) aeH))) (ael (L3.dput (bQ hr _ (by decide)) (aei 5) (aei 6) (aei 6))
   (aeo (aez (aeZ (L3.G6 (aey L3.qd (aei 6) (aei 3) (by rfl)) (L3.G5 (aey aeE (aen aeC (aem aeu (aei 1) aek) aek) aek)))) (aeo (L3.dput (bQ hr _ (by decide)) (aei 5) (aei 6) (aen L3.Iy (aei 6) aep))) aeA))))
   (ael (aev 8 cu.nd (aeD aeF oU m_len aaq (aeh (aei 4) aej)))
   (ael (aev 9 cu.nd (aen aeC (aem aeu (aei 1) aek) (aen aeR aek (aei 8))))
   (ael (afa (i:=10) [none] ["k"] (show aE _ (ag fM) from ⟨rfl,by decide +kernel,by decide +kernel,by decide +kernel⟩) (by rfl) (L3.X6 f7 m_range (aeh aek (aeh (aei 8) aej))) (fun _ _ _ _ _=>⟨(aes 0 (show (["k"]:List Str).Nodup from by decide +kernel)),aeJ,(aei 0)⟩) cu.nd)
   (ael (aev 11 cu.nd (aeB (aeh aek aej)))
   (ael (aeX (ae9 f7 m_range (aeh (aen ae8 (aei 8) aek) aej)) (aes 12 cu.nd) (aeo (aeI (ae1 (aei 11) (aeh (L3.MD (aei 10) (aeh (aen aeC (aen aeU (aem aeu (aei 1) aek) (aen aeM (aei 12) aek)) (aeD aeF oU m_len aaq (aeh (aei 10) aej))) aej)) aej)))))
   (ael (aez (aey aeQ (aei 9) (aei 8)) (aeo (aeI (L3.insert (aei 11) (aeh (aen aeM (L3.uM (aei 11) (aeh (aei 9) aej)) (aen aeR (aen aeC (aem aeu (aei 1) aek) aek) (aeK afc xX m_int (by decide +kernel) (aeh (aeS L3.Rb (aei 9) aek) aej)))) (aeh (aei 8) aej))))) aeA)
   (ael (afa (i:=13) [none,some 11] ["k","order"] (show aE _ (ag fM) from ⟨rfl,by decide +kernel,by decide +kernel,by decide +kernel⟩) (by rfl) (ae9 f7 m_range (aeh (aei 8) aej)) (fun _ _ _ _ _=>⟨(aes 0 (show (["k","order"]:List Str).Nodup from by decide +kernel)),aeJ,(L3.uM (aei 1) (aeh (aei 0) aej))⟩) cu.nd)
   (ael (aev 14 cu.nd (aeK aeY mV m_list (by decide +kernel) (aeh (aei 13) aej)))
   (ael (aez (aey aeQ (aei 9) (aei 8)) (aeo (ae2 (L3.uM (aei 11) (aeh (aei 8) aej)) (L3.Ln (aei 14) (aei 9)))) aeA)
   (ael (aev 15 cu.nd (aeB aej))
   (ael (aeX (aeO (aei 11)) (aes 12 cu.nd) (aeo (aez (aey aeQ (aei 12) (aei 8)) (aeo (aeI (ae1 (aei 15) (aeh (aet Ve hr jo (aeh (aem aeu (aei 4) (aei 12)) (aeh (aei 5) (aeh (aei 14) aej)))) aej)))) (aeo (aeI (ae1 (aei 15) (aeh (aet Vh hr mU (aeh (aei 2) (aeh (aei 5) (aeh (aem aeu (aei 1) aek) (aeh (aem aeu (aei 13) (aei 9)) aej))))) aej)))))))
   (ael (aev 16 cu.nd (L3.Cq (aeP [none,none,some 5] ["name","size","called"] (show aE _ (ag fM) from ⟨rfl,by decide +kernel,by decide +kernel,by decide +kernel⟩) (by rfl) (aeO (aei 2)) (fun _ _ _ _ _=>⟨(aeG 2 (aex (aes 0 (show (["name","size","called"]:List Str).Nodup from by decide +kernel)) (aex (aes 1 (show (["name","size","called"]:List Str).Nodup from by decide +kernel)) aeH))),aeJ,(aer (aeh (afd (bQ hr _ (by decide)) (aei 2) (aei 0)) (aeh (aei 1) aej)))⟩)) (aen ae8 aek (aen aeR aek (aen aeC (aem aeu (aei 1) aek) aek)))))
   (aeo (aeq (aer (aeh (aer (aeh (aei 16) (aeh (aeK aeY mV m_list (by decide +kernel) (aeh (aei 3) aej)) (aeh (aei 15) aej)))) (aeh (aei 5) (aeh (aei 13) (aeh (aei 14) aej)))))))))))))))))))))),?_⟩
 refine Dz fun Rk kR=>?_
 obtain ⟨x0,a0,J8,KH⟩:=hR.at (i:=0) (by decide) (by omega)
 obtain ⟨x1,a1,KI,KJ⟩:=hR.at (i:=1) (by decide) (by omega)
 obtain ⟨x2,a2,OD,OE⟩:=hR.at (i:=2) (by decide) (by omega)
 obtain ⟨x3,a3,UX,UY⟩:=hR.at (i:=3) (by decide) (by omega)
 obtain ⟨x4,a4,RV,UZ⟩:=hR.at (i:=4) (by decide) (by omega)
 obtain ⟨x5,a5,Zi,Zj⟩:=hR.at (i:=5) (by decide) (by omega)
 have lg:vb.length=bs.length:=Paired.length pb
 have og:=zE.l2
 have kl:vn.length=nds.length:=Paired.length pn
 have one:=zE.one
 have few:=zE.few
 refine ⟨_,rfl,p,_,rfl,aK.of hp,rfl,_,_,rfl,_,_,rfl,_,_,rfl,rfl,?_⟩
 refine fun c hc=>?_
 refine ⟨_,rfl,B,rfl,⟨_,ao.of (af hc _ _ _ hB)⟩,?_⟩
 have hI1:=fun kvs=>af hc (.dK kvs) _ _ hI
 have hr1:=fun kvs=>af hc (.dK kvs) _ _ C1
 refine fW (xs:=vb) (fun i σ H2=>(∃nv sv,σ=[some (.ref p),some (.ref r),some (.ref B),some (.ref I),some (.ref N),some (.ref c),nv,sv,none,none,none,none,none,none,none,none,none])/\∃kvs:List (Key×V),H2=upd H c (.dK kvs)/\kvs.length<=2 * i/\∀x∈(bs.take i).map (·.1),bE kvs (.inr x)=some (.str (fN ins (decide (x0 % 2=1)) x))) ⟨⟨_,_,rfl⟩,[],rfl,aaf _,fun x hx=>nomatch hx⟩ (fun i σ H2 _ z=>?_) (fun i x σ H2 hx z=>?_) (fun σ H2 z=>?_)
 · obtain ⟨_,kvs,rfl,_⟩:=z
   exact ao.of (af hc _ _ _ hB)
 · obtain ⟨⟨nv,sv,rfl⟩,kvs,rfl,Xj,DX⟩:=z
   obtain ⟨b,fR,vg,rfl,rQ⟩:=Paired.get pb hx
   have dQ:i < vb.length:=(List.getElem?_eq_some_iff.mp hx).1
   have WS:b∈bs:=aan fR
   have F7:=zE.sh b WS
   have hl1:=bL kvs (.inr b.1) (V.str b.1)
   refine ⟨vg,_,rfl,aK.of (af hc _ _ _ rQ),rfl,_,_,rfl,_,_,rfl,rfl,?_⟩
   refine ⟨_,rfl,_,rfl,_,rfl,c,_,rfl,mv.k (k:=.inr b.1) ae (aB (by omega)),?_⟩
   rw [bT]
   have keep:∀(w:Str) (kvs':List (Key×V)),(∀j:Key,bE kvs' j=if j=.inr b.1 then some (.str w) else bE kvs j)->w=fN ins (decide (x0 % 2=1)) b.1->∀x∈(bs.take (i + 1)).map (·.1),bE kvs' (.inr x)=some (.str (fN ins (decide (x0 % 2=1)) x)):=fun w kvs' hv hw x hx=>by
     rw [hv]
     by_cases e:(Sum.inr x:Key)=.inr b.1
     · rw [if_pos e,hw]
       injection e with e
       rw [e]
     · rw [if_neg e]
       refine DX x ?_
       rw [aal,fR,aah] at hx
       rcases List.mem_append.mp hx with z | z
       · exact z
       · exact absurd (by rw [List.mem_singleton.mp z]) e
   refine ⟨_,rfl,_,rfl,I,_,rfl,.inl (ao.of (hI1 _)),rfl,kq ins,_,rfl,?_⟩
   rw [if_pos rfl,rV]
   refine aF (fun c1=>?_) (fun c1=>?_)
   · have uF:b.1 ∉ ins:=fun z=>by rw [decide_eq_true z] at c1; exact absurd c1 (by decide)
     refine ⟨_,rfl,r,_,_,_,rfl,rfl,ao.of (hr1 _),a0,_,_,rfl,rfl,(by show (0:Int) < 2; decide),rfl,_,rfl,?_⟩
     refine aF (fun c2=>?_) (fun c2=>?_)
     · have e2:x0 % 2=1:=by have:=of_decide_eq_true c2; injection this
       have hl2:=bL (putK kvs (.inr b.1) (V.str b.1)) (.inr b.1) (V.str (b.1++"z"))
       refine ⟨_,rfl,_,_,rfl,rfl,small (show _<=1000 by have:Str.length ("z":Str)=1:=(by decide +kernel); omega),_,rfl,_,rfl,c,_,rfl,mv.k (k:=.inr b.1) ae (aB (by omega)),?_⟩
       rw [bT]
       refine ⟨⟨_,_,rfl⟩,_,rfl,by omega,keep (b.1++"z") _ (fun j=>?_) ?_⟩
       · rw [ff,ff]
         by_cases e:j=(.inr b.1:Key)
         · rw [if_pos e,if_pos e]
         · rw [if_neg e,if_neg e,if_neg e]
       · unfold fN
         rw [if_neg uF,if_pos (decide_eq_true e2)]
     · have e2:¬ x0 % 2=1:=fun z=>c2 (decide_eq_true (show V.int (x0 % 2)=V.int 1 by rw [z]))
       refine ⟨⟨_,_,rfl⟩,_,rfl,by omega,keep b.1 _ (fun j=>ff _ _ _ _) ?_⟩
       unfold fN
       rw [if_neg uF,if_neg (fun z=>e2 (of_decide_eq_true z))]
   · refine iY ⟨⟨_,_,rfl⟩,_,rfl,by omega,keep b.1 _ (fun j=>ff _ _ _ _) ?_⟩
     have uF:b.1∈ins:=Classical.byContradiction fun z=>c1 (by rw [decide_eq_false z]; rfl)
     unfold fN
     rw [if_pos uF]
 obtain ⟨⟨nv,sv,rfl⟩,kvs,rfl,Xj,DX⟩:=z
 rw [lg,aaA] at DX
 have s1:ah H (upd H c (.dK kvs)):=af hc _
 have ca:bP (upd H c (.dK kvs)) c (bs.map (·.1)) (fN ins (decide (x0 % 2=1))):=⟨kvs,ae,DX⟩
 generalize upd H c (.dK kvs)=H1 at s1 ca ⊢
 have Lr:=s1 _ _ hN
 have hr1:=s1 _ _ C1
 refine kR _ _ ?_
 refine Dz fun Rk kR=>?_
 refine ⟨_,rfl,N,_,rfl,.inl (ao.of Lr),?_⟩
 have AS:(0:Int) < 2 * (vn.length:Int):=by omega
 refine ⟨_,rfl,r,_,_,_,rfl,rfl,ao.of hr1,a1,_,rfl,_,_,rfl,rfl,.inl ⟨by decide,by decide⟩,_,_,rfl,rfl,AS,?_⟩
 have Na:0<=x1 % (2 * (vn.length:Int)):=aav _ (by omega)
 obtain ⟨sk,yv⟩ : ∃sk:Int,sk=x1 % (2 * (vn.length:Int)):=⟨_,rfl⟩
 rw [← yv] at Na
 refine ⟨_,rfl,_,_,rfl,⟨by decide,by decide,by omega,by omega⟩,fun la LG=>?_⟩
 refine d6 (lo:=1) (n:=((vn.length:Int) - 1).toNat) (fun i H2=>H2=upd H1 la (.lst (((aaM i).map fun j:Nat=>(1:Int) + (j:Int)).map V.int))) rfl (fun i H2 hi z=>?_) (fun H2 z=>?_)
 · subst z
   refine bo ?_
   refine bV (A:=fun H3=>dg _ la _ H3 _) ?_
   refine ⟨_,rfl,_,ae,aB (by rw [aab,aab,abH]; omega),aL (Pv:=fun i H2=>H2=upd H1 la (.lst (((aaM i).map fun j:Nat=>(1:Int) + (j:Int)).map V.int))) (by repeat' constructor) hi ?_⟩
   rw [bT,List.range_succ,aah,aah]
   rfl
 subst z
 refine kR _ _ ?_
 refine K7 fun Rk kR=>?_
 refine ⟨agq,fun oa LK=>?_⟩
 have Og:la≠oa:=ai ae LK
 have HU:H1 oa=none:=by rw [aj Og.symm] at LK; exact LK
 refine ⟨_,rfl,_,_,rfl,rfl,_,rfl,by omega,by omega,?_⟩
 refine kr (lo:=0) (n:=((vn.length:Int) - 1).toNat) (fun i σ H2=>∃(kv:Option V) (ord left:List Int),σ=[some (.ref p),some (.ref r),some (.ref B),some (.ref I),some (.ref N),some (.ref c),nv,sv,some (.int (vn.length:Int)),some (.int (x1 % (2 * (vn.length:Int)))),some (.ref la),some (.ref oa),kv,none,none,none,none]/\ah H1 H2/\H2 la=some (.lst (left.map V.int))/\H2 oa=some (.lst (ord.map V.int))/\ord.length=i + 1/\left.length + i + 1=vn.length/\(∀x∈ord,0<=x/\x < (vn.length:Int))/\(∀x∈left,0<=x/\x < (vn.length:Int))/\(∀x:Int,0<=x->x < (vn.length:Int)->x∈ord\/x∈left)/\ord[0]? = some 0) ?_ ?_ ?_
 · refine ⟨none,[0],(aaM ((vn.length:Int) - 1).toNat).map fun j:Nat=>(1:Int) + (j:Int),rfl,aG (af LG _) HU,?_,ae,rfl,?_,?_,?_,?_,rfl⟩
   · rw [aj Og]; exact ae
   · rw [aab,abH]; omega
   · intro x hx
     rw [List.mem_singleton.mp hx]
     omega
   · intro x hx
     obtain ⟨j,hj,rfl⟩:=List.mem_map.mp hx
     have:=List.mem_range.mp hj
     omega
   · intro x h0 h1
     by_cases e:x=0
     · exact .inl (List.mem_singleton.mpr e)
     · exact .inr (List.mem_map.mpr ⟨(x - 1).toNat,List.mem_range.mpr (by omega),by omega⟩)
 · rintro i σ H2 hi ⟨kv,ord,left,rfl,s2,rN,rP,TJ,Qf,ho,hl,cov,y3⟩
   have m6:=s2 _ _ hr1
   have lO:(0:Int) < ((left.map V.int).length:Int):=by rw [aab]; omega
   have d0:(0:Int) + (i:Int) + 1 < 2 ^ 1000:=ac7 (show _<=(2 ^ 40:Int) by omega) (by decide +kernel)
   refine ⟨_,rfl,.inl ⟨rfl,_,ao.of rP⟩,_,rfl,.inl ⟨rfl,_,ao.of rN⟩,_,rfl,r,_,_,_,rfl,rfl,ao.of m6,a2,_,rfl,_,_,rfl,rfl,_,_,rfl,rfl,⟨(by show (0:Int) < 0 + (i:Int) + 1; omega),d0⟩,_,rfl,la,_,rfl,.inl (ao.of rN),_,_,rfl,rfl,lO,?_⟩
   have r0:=aav (x2 / (0 + (i:Int) + 1)) (show ((left.map V.int).length:Int)≠0 by omega)
   have rl:=aap (x2 / (0 + (i:Int) + 1)) lO
   obtain ⟨rr,TQ⟩ : ∃rr:Int,rr=x2 / (0 + (i:Int) + 1) % ((left.map V.int).length:Int):=⟨_,rfl⟩
   rw [← TQ] at r0 rl
   rw [aab] at rl
   have Ob:rr.toNat < left.length:=by omega
   have hix:Bc (left.map V.int).length rr=some rr.toNat:=by rw [aab]; unfold Bc; rw [if_pos r0,if_pos rl]
   have W7:(left.map V.int)[rr.toNat]? = some (V.int left[rr.toNat]):=by rw [aaC,aad Ob]; rfl
   have oB:(upd H2 la (.lst ((left.eraseIdx rr.toNat).map V.int))) oa=some (.lst (ord.map V.int)):=by rw [aj Og.symm]; exact rP
   refine ⟨la,_,rr,rr.toNat,_,rfl,(by subst TQ; rfl),rN,by omega,by omega,(qa hix).1,W7,?_⟩
   rw [(o8 V.int left rr.toNat).symm]
   refine ⟨oa,_,_,rfl,rfl,oB,aB (by rw [aab]; omega),?_⟩
   have hle:=List.length_eraseIdx_of_lt Ob
   refine ⟨_,ord++[left[rr.toNat]],left.eraseIdx rr.toNat,rfl,aG (aG s2 LG) HU,?_,?_,?_,?_,?_,?_,?_,by rw [aaV (by omega)]; exact y3⟩
   · rw [aj Og]; exact ae
   · rw [ae,aah]; rfl
   · rw [aae,TJ]; rfl
   · omega
   · intro x hx
     rcases List.mem_append.mp hx with z | z
     · exact ho x z
     · rw [List.mem_singleton.mp z]
       exact hl _ (acA Ob)
   · exact fun x hx=>hl x ((List.eraseIdx_sublist _ _).mem hx)
   · intro x h0 h1
     rcases cov x h0 h1 with z | z
     · exact .inl (List.mem_append.mpr (.inl z))
     · rcases nq Ob z with y | y
       · exact .inl (List.mem_append.mpr (.inr (List.mem_singleton.mpr y)))
       · exact .inr y
 rintro σ H2 ⟨kv,ord,left,rfl,s2,rN,rP,TJ,Qf,ho,hl,cov,y3⟩
 have L8:left=[]:=List.length_eq_zero_iff.mp (by omega)
 have cov:∀x:Int,0<=x->x < (vn.length:Int)->x∈ord:=fun x h0 h1=>(cov x h0 h1).resolve_right fun z=>by rw [L8] at z; exact nomatch z
 clear hl Qf
 have m6:=s2 _ _ hr1
 have cl:∀c:Bool,(-(2 ^ 64):Int) < (if c=true then 1 else 0)/\(if c=true then (1:Int) else 0) < 2 ^ 64:=by decide
 refine kR _ _ ?_
 refine ⟨_,rfl,_,rfl,_,_,rfl,rfl,_,rfl,?_⟩
 have factB:¬ decide (x1 % (2 * (vn.length:Int)) < (vn.length:Int))=true->ah H1 H2/\H2 oa=some (.lst (ord.map V.int))/\(∀x∈ord,0<=x/\(x < (vn.length:Int)\/(x=(vn.length:Int)/\sk < (vn.length:Int))))/\(∀x:Int,0<=x->x < (vn.length:Int)->x∈ord)/\ord.length<=vn.length + 1/\(sk < (vn.length:Int)->(vn.length:Int)∈ord)/\(sk=0/\sk < (vn.length:Int)->ord[0]? = some (vn.length:Int))/\(¬ (sk=0/\sk < (vn.length:Int))->ord[0]? = some 0):=fun c1=>by
   have zF:¬ sk < (vn.length:Int):=fun z=>c1 (decide_eq_true (by rw [← yv]; exact z))
   exact ⟨s2,rP,fun x hx=>⟨(ho x hx).1,.inl (ho x hx).2⟩,fun x h0 h1=>cov x h0 h1,by omega,fun z=>absurd z zF,fun z=>absurd z.2 zF,fun _=>y3⟩
 refine Co (Pm:=fun H3 cj=>ah H1 H3/\H3 oa=some (.lst (cj.map V.int))/\(∀x∈cj,0<=x/\(x < (vn.length:Int)\/(x=(vn.length:Int)/\sk < (vn.length:Int))))/\(∀x:Int,0<=x->x < (vn.length:Int)->x∈cj)/\cj.length<=vn.length + 1/\(sk < (vn.length:Int)->(vn.length:Int)∈cj)/\(sk=0/\sk < (vn.length:Int)->cj[0]? = some (vn.length:Int))/\(¬ (sk=0/\sk < (vn.length:Int))->cj[0]? = some 0)) (fun rest=>aF (fun c1=>?brA) (fun c1=>rest H2 ord (factB c1))) ?rest1
 case brA=>
   have zF:sk < (vn.length:Int):=by rw [yv]; exact of_decide_eq_true c1
   obtain ⟨j,hj,hjn⟩:=jh (cov sk Na zF)
   have Tv:j < ord.length:=(List.getElem?_eq_some_iff.mp hj).1
   have Z7:=aav x3 (show (2:Int)≠0 by decide)
   have Z6:=aap x3 (show (0:Int) < 2 by decide)
   have Vo:∀b:Bool,0<=x3 % 2 * (if b=true then 1 else 0)/\x3 % 2 * (if b=true then 1 else 0)<=1:=fun b=>by cases b <;> simp <;> omega
   have b1:=Vo (decide (0 < x1 % (2 * (vn.length:Int))))
   obtain ⟨ix,LC⟩ : ∃ix:Int,ix=(j:Int) + x3 % 2 * (if decide (0 < x1 % (2 * (vn.length:Int)))=true then 1 else 0):=⟨_,rfl⟩
   refine ⟨_,rfl,.inl ⟨rfl,_,ao.of rP⟩,_,rfl,.inl ⟨rfl,_,ao.of rP⟩,_,rfl,oa,ord,sk,j,rfl,(by rw [yv]),ao.of rP,hj,hjn,by omega,_,rfl,r,_,_,_,rfl,rfl,ao.of m6,a3,_,_,rfl,rfl,(by show (0:Int) < 2; decide),_,rfl,_,_,rfl,rfl,.inr ⟨_,rfl,_,_,rfl,rfl,.inr (cl _),_,_,rfl,rfl,_,rfl,oa,_,_,ix,rfl,(by subst LC; rfl),rP,by omega,by rw [aab]; omega,by rw [aab]; omega,?_⟩⟩
   obtain ⟨cj,qF⟩ : ∃cj:List Int,cj=ord.take ix.toNat++(vn.length:Int) :: ord.drop ix.toNat:=⟨_,rfl⟩
   have eo:(ord.map V.int).take ix.toNat++V.int (vn.length:Int) :: (ord.map V.int).drop ix.toNat=cj.map V.int:=by rw [qF,aah,aaI,List.map_take,List.map_drop]
   have F1:∀x∈cj,0<=x/\(x < (vn.length:Int)\/(x=(vn.length:Int)/\sk < (vn.length:Int))):=fun x hx=>by
     rw [qF] at hx
     rcases List.mem_append.mp hx with z | z
     · exact ⟨(ho x (aee z)).1,.inl (ho x (aee z)).2⟩
     · rcases List.mem_cons.mp z with z | z
       · exact ⟨by omega,.inr ⟨z,zF⟩⟩
       · exact ⟨(ho x (acM z)).1,.inl (ho x (acM z)).2⟩
   have F2:∀x:Int,0<=x->x < (vn.length:Int)->x∈cj:=fun x h0 h1=>by
     have:=cov x h0 h1
     rw [← abD ix.toNat ord] at this
     rw [qF]
     rcases List.mem_append.mp this with z | z
     · exact List.mem_append.mpr (.inl z)
     · exact List.mem_append.mpr (.inr (List.mem_cons.mpr (.inr z)))
   have F3:cj.length<=vn.length + 1:=by
     rw [qF,aae,aay,aaw,abk]
     omega
   have F4:(vn.length:Int)∈cj:=by
     rw [qF]
     exact List.mem_append.mpr (.inr (List.mem_cons.mpr (.inl rfl)))
   rw [eo]
   have s3:ah H1 (upd H2 oa (.lst (cj.map V.int))):=aG s2 HU
   have oB:(upd H2 oa (.lst (cj.map V.int))) oa=some (.lst (cj.map V.int)):=ae
   generalize upd H2 oa (.lst (cj.map V.int))=H3 at s3 oB ⊢
   refine rest H3 cj ⟨s3,oB,F1,F2,F3,fun _=>F4,fun e=>?_,fun e=>?_⟩
   · have ei:ix.toNat=0:=by
       have AN:j=0:=by
         by_cases AN:j=0
         · exact AN
         · exact absurd (by rw [e.1]; exact y3) (hjn 0 (by omega))
       rw [LC,← yv,e.1,AN,show decide ((0:Int) < 0)=false from rfl]
       simp
     rw [qF,ei]
     rfl
   · have Tw:0 < j:=by
       by_cases AN:j=0
       · subst AN
         rw [y3] at hj
         exact absurd ⟨(aaB hj).symm,zF⟩ e
       · omega
     have Xd:0 < ix.toNat:=by omega
     rw [qF,aaV (by rw [aaw]; omega),ac2,if_pos Xd]
     exact y3
 case rest1=>
   rintro H3 cj ⟨s3,oB,F1,F2,F3,F4,Z1,Z2⟩
   have i8:=aa s1 s3
   refine ⟨_,rfl,_,rfl,by omega,by omega,fun pa LP=>?_⟩
   have Ys:oa≠pa:=ai oB LP
   refine d6 (lo:=0) (n:=(vn.length:Int).toNat) (fun i H4=>∃ps:List Int,H4=upd H3 pa (.lst (ps.map V.int))/\ps.length=i/\(∀x∈ps,0<=x)/\xB cj ps) ⟨[],rfl,rfl,(fun x hx=>nomatch hx),fun k x hx=>by simp at hx⟩ (fun i H4 hi z=>?_) (fun H4 z=>?_)
   · obtain ⟨ps,rfl,hpl,Qq,LQ⟩:=z
     obtain ⟨j,hj,hjn⟩:=jh (F2 (0 + (i:Int)) (by omega) (by omega))
     have LL:(upd H3 pa (.lst (ps.map V.int))) oa=some (.lst (cj.map V.int)):=by rw [aj Ys]; exact oB
     refine bo ?_
     refine bV (A:=fun H3=>dg _ pa _ H3 _) ?_
     refine ⟨_,rfl,.inl ⟨rfl,_,ao.of LL⟩,_,rfl,oa,cj,0 + (i:Int),j,rfl,rfl,ao.of LL,hj,hjn,by omega,_,ae,aB (by rw [aab]; omega),aL (Pv:=fun i H4=>∃ps:List Int,H4=upd H3 pa (.lst (ps.map V.int))/\ps.length=i/\(∀x∈ps,0<=x)/\xB cj ps) (by repeat' constructor) hi ⟨ps++[(j:Int)],?_,by rw [aae,hpl]; rfl,fun x hx=>?_,zb LQ (by rw [hpl,← adj (i:Int)]; exact hj) (by rw [hpl,← adj (i:Int)]; exact hjn)⟩⟩
     · rw [bT,aah]
       rfl
     · rcases List.mem_append.mp hx with z | z
       · exact Qq x z
       · rw [List.mem_singleton.mp z]; omega
   obtain ⟨ps,rfl,hpl,Qq,LQ⟩:=z
   rw [aa5] at hpl
   have s4:ah H3 (upd H3 pa (.lst (ps.map V.int))):=af LP _
   have AX:(upd H3 pa (.lst (ps.map V.int))) pa=some (.lst (ps.map V.int)):=ae
   have Xx:H pa=none:=aq i8 LP
   generalize upd H3 pa (.lst (ps.map V.int))=H4 at s4 AX ⊢
   refine ⟨_,rfl,pa,_,rfl,.inl (ao.of AX),fun bh Lu=>?_⟩
   obtain ⟨H5,s5,Lv,zz⟩:=aJ Lu (.lst (ps.map V.int))
   rw [zz]; clear zz
   have KC:=aa (aa i8 s4) s5
   have Pu:H bh=none:=aq (aa i8 s4) Lu
   refine ⟨_,rfl,_,rfl,_,_,rfl,rfl,_,rfl,?_⟩
   have factC:¬ decide (x1 % (2 * (vn.length:Int)) < (vn.length:Int))=true->ah H H5/\H5 oa=some (.lst (cj.map V.int))/\H5 pa=some (.lst (ps.map V.int))/\bP H5 c (bs.map (·.1)) (fN ins (decide (x0 % 2=1)))/\H5 bh=some (.lst (ps.map V.int))/\ps.length=vn.length/\vU cj (vn.length:Int) ps ps sk.toNat/\ps[0]? = some 0:=fun z=>by
     have zF:¬ sk < (vn.length:Int):=fun y=>z (decide_eq_true (by rw [← yv]; exact y))
     exact ⟨KC,s5 _ _ (s4 _ _ oB),s5 _ _ AX,ca.same (aa (aa s3 s4) s5),Lv,hpl,fun k x hx=>.inl hx,pj LQ (Z2 fun e=>zF e.2) (by omega)⟩
   refine Co (Pm:=fun H6 dv=>ah H H6/\H6 oa=some (.lst (cj.map V.int))/\H6 pa=some (.lst (ps.map V.int))/\bP H6 c (bs.map (·.1)) (fN ins (decide (x0 % 2=1)))/\H6 bh=some (.lst (dv.map V.int))/\dv.length=vn.length/\vU cj (vn.length:Int) ps dv sk.toNat/\dv[0]? = some 0) (fun rest=>aF (fun c2=>?brC) (fun c2=>rest H5 ps (factC c2))) ?rest2
   case brC=>
     have zF:sk < (vn.length:Int):=by rw [yv]; exact of_decide_eq_true c2
     have F4:=F4 zF
     have HW:=s5 _ _ (s4 _ _ oB)
     obtain ⟨j2,N6,hj2n⟩:=jh F4
     have PU:Bc (ps.map V.int).length sk=some sk.toNat:=by rw [aab,hpl]; unfold Bc; rw [if_pos Na,if_pos zF]
     refine ⟨_,rfl,.inl ⟨rfl,_,ao.of HW⟩,_,rfl,oa,cj,_,j2,rfl,rfl,ao.of HW,N6,hj2n,by omega,_,rfl,_,rfl,bh,_,sk,sk.toNat,rfl,(by rw [yv]),Lv,PU,?_⟩
     obtain ⟨dv,AF⟩ : ∃dv:List Int,dv=ps.set sk.toNat (j2:Int):=⟨_,rfl⟩
     have eb:(ps.map V.int).set sk.toNat (V.int (j2:Int))=dv.map V.int:=by rw [AF,List.map_set]
     have N4:dv.length=vn.length:=by rw [AF,acb]; exact hpl
     have Pw:vU cj (vn.length:Int) ps dv sk.toNat:=fun k x hx=>by
       rw [AF,ac9] at hx
       by_cases e:sk.toNat=k
       · rw [if_pos e] at hx
         by_cases e2:sk.toNat < ps.length
         · rw [if_pos e2] at hx
           cases hx
           exact .inr ⟨e.symm,j2,rfl,N6⟩
         · rw [if_neg e2] at hx
           cases hx
       · rw [if_neg e] at hx
         exact .inl hx
     have wA:dv[0]? = some 0:=by
       rw [AF]
       by_cases e:sk=0
       · have h2:=Z1 ⟨e,zF⟩
         have AN:j2=0:=by
           by_cases AN:j2=0
           · exact AN
           · exact absurd h2 (hj2n 0 (by omega))
         rw [e,AN]
         have:0 < ps.length:=by omega
         rw [ac9]
         simp [this]
       · rw [ac9,if_neg (by omega)]
         exact pj LQ (Z2 fun z=>e z.1) (by omega)
     rw [eb]
     have Qt:=s5 _ _ AX
     have Yr:pa≠bh:=ai AX Lu
     have B8:ah H (upd H5 bh (.lst (dv.map V.int))):=aG KC Pu
     have AW:(upd H5 bh (.lst (dv.map V.int))) oa=some (.lst (cj.map V.int)):=by rw [aj (ai (s4 _ _ oB) Lu)]; exact HW
     have AY:(upd H5 bh (.lst (dv.map V.int))) pa=some (.lst (ps.map V.int)):=by rw [aj Yr]; exact Qt
     have Kj:bP (upd H5 bh (.lst (dv.map V.int))) c (bs.map (·.1)) (fN ins (decide (x0 % 2=1))):=by
       obtain ⟨kvs,hk,hv⟩:=ca
       exact ⟨kvs,by rw [aj (ai (s4 _ _ (s3 _ _ hk)) Lu)]; exact s5 _ _ (s4 _ _ (s3 _ _ hk)),hv⟩
     have AE:(upd H5 bh (.lst (dv.map V.int))) bh=some (.lst (dv.map V.int)):=ae
     generalize upd H5 bh (.lst (dv.map V.int))=H6 at B8 AW AY Kj AE ⊢
     exact rest H6 dv ⟨B8,AW,AY,Kj,AE,N4,Pw,wA⟩
   case rest2=>
     rintro H6 dv ⟨B8,AW,AY,Kj,AE,N4,Pw,wA⟩
     refine ⟨agp,fun fa hfa=>?_⟩
     refine ⟨_,rfl,oa,rfl,⟨_,ao.of (af hfa _ _ _ AW)⟩,?_⟩
     refine fW (xs:=cj.map V.int) (fun i σ H7=>(∃kv,σ=[some (.ref p),some (.ref r),some (.ref B),some (.ref I),some (.ref N),some (.ref c),nv,sv,some (.int (vn.length:Int)),some (.int (x1 % (2 * (vn.length:Int)))),some (.ref la),some (.ref oa),kv,some (.ref pa),some (.ref bh),some (.ref fa),none])/\∃(vn2:List V) (nds2:List Nd),ah H6 H7/\H7 fa=some (.lst vn2)/\Paired (cy H7) vn2 nds2/\nds2.length=i/\vX bs (fN ins (decide (x0 % 2=1))) nds cj ps dv sk nds2) ⟨⟨_,rfl⟩,[],[],af hfa _,ae,.nil,rfl,fun j e hj=>by simp at hj⟩ (fun i σ H7 _ z=>?_) (fun i x σ H7 hx z=>?_) (fun σ H7 z=>?_)
     · obtain ⟨_,vn2,nds2,s7,_⟩:=z
       exact ao.of (s7 _ _ AW)
     · obtain ⟨⟨kv,rfl⟩,vn2,nds2,s7,AJ,Ol,hn2,zB⟩:=z
       obtain ⟨k,hk,rfl⟩ : ∃k,cj[i]? = some k/\x=V.int k:=by
         rw [aaC] at hx
         obtain ⟨y,h1,h2⟩:=Option.map_eq_some_iff.mp hx
         exact ⟨y,h1,h2.symm⟩
       have dQ:i < cj.length:=(List.getElem?_eq_some_iff.mp hk).1
       obtain ⟨k0,k1⟩:=F1 k (aan hk)
       have s07:=aa B8 s7
       have XU:vn2.length=nds2.length:=Paired.length Ol
       have app:∀(v':V) (H8:Hp) (e':Nd),ah H7 H8->cy H8 v' e'->H8 fa=some (.lst vn2)/\ah H6 (upd H8 fa (.lst (vn2++[v'])))/\Paired (cy (upd H8 fa (.lst (vn2++[v'])))) (vn2++[v']) (nds2++[e']):=fun v' H8 e' s8 Mh=>by
         have h8:=s8 _ _ AJ
         exact ⟨h8,aG (aa s7 s8) hfa,Paired.snoc (Paired.aZ Ol fun a b h=>cy.keep ((ah.tk s8).trans (TK.lst h8)) h) (cy.keep (TK.lst h8) Mh)⟩
       refine ⟨_,rfl,_,rfl,_,_,rfl,rfl,_,rfl,?_⟩
       refine aF (fun c5=>?_) (fun c5=>?_)
       · have Kp:k < (vn.length:Int):=of_decide_eq_true c5
         obtain ⟨v9,g9,Hz⟩:=qQ (xs:=vn) (r:=k) k0 Kp
         obtain ⟨e9,S6,Yo⟩:=Paired.get pn g9
         have S5:=zE.good e9 (aan S6)
         rw [← kl,← N4] at S5
         refine ⟨_,rfl,.inl ⟨rfl,_,ao.of AJ⟩,_,rfl,_,rfl,N,_,_,_,rfl,rfl,ao.of (s07 _ _ hN),Hz,_,rfl,_,rfl,v9,c,bh,e9,bs.map (·.1),_,dv,rfl,cy.keep (ah.tk s07) Yo,S5,Kj.same s7,s7 _ _ AE,fun v' H8 s8 Mh=>?_⟩
         obtain ⟨z1,z2,z3⟩:=app v' H8 _ s8 Mh
         exact ⟨fa,vn2,v',rfl,rfl,z1,aB (by omega),⟨_,rfl⟩,_,_,z2,ae,z3,by rw [aae,hn2]; rfl,nr zB ⟨k,by rw [hn2]; exact hk,.inl ⟨e9,k0,S6,rfl⟩⟩⟩
       · have Kp:k=(vn.length:Int)/\sk < (vn.length:Int):=k1.resolve_left fun z=>c5 (decide_eq_true z)
         have Qu:=nF (ps:=ps) Na (by rw [hpl]; exact Kp.2)
         rw [yv] at Qu
         have Qv:0<=oF ps (x1 % (2 * (vn.length:Int))):=by
           obtain ⟨y,_,hy,e⟩:=cG V.int ps (r:=sk) Na (by rw [hpl]; exact Kp.2)
           rw [yv,Qu] at e
           injection e with e
           injection e with e
           rw [e]
           exact Qq y hy
         refine ⟨_,rfl,.inl ⟨rfl,_,ao.of AJ⟩,_,rfl,_,rfl,_,rfl,r,_,_,_,rfl,rfl,ao.of (s07 _ _ C1),a4,_,rfl,_,rfl,pa,_,_,_,rfl,rfl,ao.of (s7 _ _ AY),Qu,B,c,vb,bs,_,x4,_,rfl,s07 _ _ hB,Paired.aZ pb (fun a b h=>Tp.keep (ah.tk s07) h),Kj.same s7,RV,Qv,fun v' H8 e' s8 Mh QB=>?_⟩
         obtain ⟨z1,z2,z3⟩:=app v' H8 e' s8 Mh
         exact ⟨fa,vn2,v',rfl,rfl,z1,aB (by omega),⟨_,rfl⟩,_,_,z2,ae,z3,by rw [aae,hn2]; rfl,nr zB ⟨k,by rw [hn2]; exact hk,.inr ⟨by rw [Kp.1,kl],by rw [← kl]; exact Kp.2,by rw [yv]; exact QB⟩⟩⟩
     obtain ⟨⟨kv,rfl⟩,vn2,nds2,s7,AJ,Ol,hn2,zB⟩:=z
     rw [aab] at hn2
     have NO:pM bs (fN ins (decide (x0 % 2=1))) nds nds2 ps dv:=yL (by rw [hpl]; exact kl) (by rw [N4]; exact kl) LQ (by rw [← kl]; exact Pw) zB hn2 wA
     have s07:=aa B8 s7
     have Tb:=s07 _ _ hB
     have SJ:=Kj.same s7
     refine ⟨_,rfl,B,rfl,⟨_,ao.of Tb⟩,fun ta C2=>?_⟩
     refine bj (xs:=vb) (fun i H8=>∃vt:List V,ah H7 H8/\H8 ta=some (.lst vt)/\vt.length=i/\Paired (bG H8) vt ((bs.map fun b=>(fN ins (decide (x0 % 2=1)) b.1,b.2)).take i)) ⟨[],af C2 _,ae,rfl,.nil⟩ (fun i H8 _ z=>ao.of (z.choose_spec.1 _ _ Tb)) (fun i x H8 hx z=>?_) (fun H8 z=>?_)
     · obtain ⟨vt,s8,iW,F8,pt⟩:=z
       obtain ⟨b,fR,vg,rfl,rQ⟩:=Paired.get pb hx
       have dQ:i < vb.length:=(List.getElem?_eq_some_iff.mp hx).1
       have qH:b.1∈bs.map (·.1):=List.mem_map.mpr ⟨b,aan fR,rfl⟩
       refine ⟨vg,_,rfl,aK.of (s8 _ _ (s07 _ _ rQ)),rfl,_,_,rfl,_,_,rfl,rfl,?_⟩
       refine bV (A:=fun H3=>dg _ ta _ H3 _) ?_
       refine ⟨_,rfl,_,rfl,c,_,rfl,(SJ.same s8).get qH,_,rfl,agr,fun p2 cf=>⟨vt,?_,aB (by omega),aL (Pv:=fun i H8=>∃vt:List V,ah H7 H8/\H8 ta=some (.lst vt)/\vt.length=i/\Paired (bG H8) vt ((bs.map fun b=>(fN ins (decide (x0 % 2=1)) b.1,b.2)).take i)) (by repeat' constructor) dQ ?_⟩⟩
       · rw [aj (ai iW cf)]; exact iW
       · have h4:(upd H8 p2 (.tup [.str (fN ins (decide (x0 % 2=1)) b.1),.int b.2])) ta=some (.lst vt):=by rw [aj (ai iW cf)]; exact iW
         refine ⟨vt++[.ref p2],aG (aC s8 cf) C2,ae,by rw [aae,F8]; rfl,?_⟩
         have eg:(bs.map fun b=>(fN ins (decide (x0 % 2=1)) b.1,b.2))[i]? = some (fN ins (decide (x0 % 2=1)) b.1,b.2):=by rw [aaC,fR]; rfl
         rw [aal,eg]
         exact Paired.snoc (Paired.aZ pt fun a b h=>Tp.keep ((aI cf _).trans (TK.lst h4)) h) ⟨p2,rfl,by rw [aj (ai iW cf).symm]; exact ae⟩
     obtain ⟨vt,s8,iW,F8,pt⟩:=z
     have Le:(bs.map fun b=>(fN ins (decide (x0 % 2=1)) b.1,b.2)).take vb.length=bs.map fun b=>(fN ins (decide (x0 % 2=1)) b.1,b.2):=aaS (by rw [aab]; omega)
     rw [Le] at pt
     have s08:=aa s07 s8
     have UN:1 - 2 * (x5 % 2)=1\/1 - 2 * (x5 % 2) = -1:=by
       have:=aav x5 (show (2:Int)≠0 by decide)
       have:=aap x5 (show (0:Int) < 2 by decide)
       omega
     refine ⟨_,rfl,r,_,_,_,rfl,rfl,ao.of (s08 _ _ C1),a5,_,_,rfl,rfl,(by show (0:Int) < 2; decide),_,_,rfl,rfl,.inl ⟨by decide,by decide⟩,_,_,rfl,rfl,_,rfl,UN,ta,_,rfl,ao.of iW,fun tu TX=>?_⟩
     refine ⟨_,rfl,_,rfl,I,_,rfl,.inl (ao.of (af TX _ _ _ (s08 _ _ hI))),fun i2 DW=>⟨_,rfl,ags,fun q3 LR=>⟨_,rfl,_,rfl,_,rfl,agt,fun p4 tI=>?_⟩⟩⟩
     have t1:ah H8 (upd H8 tu (.lst (eB (1 - 2 * (x5 % 2)) vt))):=af TX _
     have g1:(upd H8 tu (.lst (eB (1 - 2 * (x5 % 2)) vt))) tu=some (.lst (eB (1 - 2 * (x5 % 2)) vt)):=ae
     generalize upd H8 tu (.lst (eB (1 - 2 * (x5 % 2)) vt))=H9 at t1 g1 DW LR tI ⊢
     have t2:ah H9 (upd H9 i2 (.lst (ins.map V.str))):=af DW _
     have g2:(upd H9 i2 (.lst (ins.map V.str))) i2=some (.lst (ins.map V.str)):=ae
     generalize upd H9 i2 (.lst (ins.map V.str))=HA at t2 g2 LR tI ⊢
     have t3:ah HA (upd HA q3 (.tup [.ref tu,.ref i2,.ref fa])):=af LR _
     have g3:(upd HA q3 (.tup [.ref tu,.ref i2,.ref fa])) q3=some (.tup [.ref tu,.ref i2,.ref fa]):=ae
     generalize upd HA q3 (.tup [.ref tu,.ref i2,.ref fa])=HB at t3 g3 tI ⊢
     have t4:ah HB (upd HB p4 (.tup [.ref q3,.ref c,.ref pa,.ref bh])):=af tI _
     have t78:=aa s8 (aa t1 (aa t2 (aa t3 t4)))
     have t8:=aa t1 (aa t2 (aa t3 t4))
     refine q p4 q3 tu i2 fa c pa bh _ (eB (1 - 2 * (x5 % 2)) vt) vn2 (dG (1 - 2 * (x5 % 2)) (bs.map fun b=>(fN ins (decide (x0 % 2=1)) b.1,b.2))) nds2 (decide (x0 % 2=1)) (1 - 2 * (x5 % 2)) (aa s08 t8) ae (t4 _ _ g3) (t4 _ _ (t3 _ _ (t2 _ _ g1))) ?_ (t4 _ _ (t3 _ _ g2)) (t78 _ _ AJ) (Paired.aZ Ol fun a b h=>cy.keep (ah.tk t78) h) (by omega) (SJ.same t78) ⟨rfl,UN⟩ ps dv (t78 _ _ (s7 _ _ AY)) (t78 _ _ (s7 _ _ AE)) NO
     exact sr (Paired.aZ pt fun a b h=>Tp.keep (ah.tk t8) h)
theorem As (s:Src K mg "_law_made_over" fM)(m_len:mg "len"=none)(m_range:mg "range"=none)(m_int:mg "int"=none)(m_list:mg "list"=none)(NA:aX P w K mg base "_law_node_as" ["node","called","places"] 8 jY)(SK:aX P w K mg base "_law_skip" ["boxes","called","number","after"] 1 nR):aX P w K mg base "_law_made_over" ["program","row"] 9 vI:=
 let ⟨f,fd,F,m⟩:=s
 ⟨f,fd,Ey F m_len m_range m_int m_list NA SK,F.kp,d4 F fun _ _ _ _ _ _ _ _=>rfl,m⟩
theorem pE {α β:Type}(f:α->β)(n:Int)(xs:List α):(dG n xs).map f=dG n (xs.map f):=by
 unfold dG
 split
 · rfl
 · rw [adh]
theorem R4 {bs:List (Str×Int)}{ins:List Str}(h:cI bs ins)(cz:Bool):((bs.map fun b=>(fN ins cz b.1,b.2)).map (·.1)).Nodup:=by
 obtain ⟨nm,szs,h1,h2,_,rfl⟩:=h.nm
 have two:∀x y:Str,x≠y->x++"z"≠y->x≠y++"z"->x++"z"≠y++"z"->fN ins cz x≠fN ins cz y:=fun x y e1 e2 e3 e4=>by
   unfold fN
   split <;> split <;> (try split) <;> (try split) <;> assumption
 have all:∀x y:Str,fN ins cz x≠fN ins cz y->((([x,y].zip szs).map fun b=>(fN ins cz b.1,b.2)).map (·.1)).Nodup:=fun x y e=>by
   match szs,h2 with
   | [],_=>exact ab1
   | [a],_=>exact List.nodup_cons.mpr ⟨(fun z=>nomatch z),ab1⟩
   | [a,b],_=>exact List.nodup_cons.mpr ⟨fun z=>e (List.mem_singleton.mp z),List.nodup_cons.mpr ⟨(fun z=>nomatch z),ab1⟩⟩
   | _ :: _ :: _ :: _,h=>simp at h
 rcases h1 with rfl | rfl | rfl
 · exact all _ _ (two _ _ (by decide +kernel) (by decide +kernel) (by decide +kernel) (by decide +kernel))
 · exact all _ _ (two _ _ (by decide +kernel) (by decide +kernel) (by decide +kernel) (by decide +kernel))
 · exact all _ _ (two _ _ (by decide +kernel) (by decide +kernel) (by decide +kernel) (by decide +kernel))
theorem Fe {row:List Int}{n:Nat}(hR:Row (2 ^ 30) row n)(lo hi:Nat)(h1:lo<=hi)(h2:hi<=n):∃rk,br row (some (lo:Int)) (some (hi:Int))=rk/\Row (2 ^ 30) rk (hi - lo):=by
 have:=hR.len
 refine ⟨_,rfl,?_,fun x hx=>hR.all x ((d7 _ _ _).mem hx)⟩
 rw [rg row _ _ (by omega) h1,aaw,abk]
 omega
theorem jO {row:List Int}{n:Nat}(hR:Row (2 ^ 30) row n)(lo:Nat)(h1:lo<=n):∃rk,br row (some (lo:Int)) none=rk/\Row (2 ^ 30) rk (n - lo):=by
 have:=hR.len
 refine ⟨_,xN row lo,?_,fun x hx=>hR.all x (acM hx)⟩
 rw [abk]
 omega
theorem FL {bs:List (Str×Int)}{ins:List Str}(h:cI bs ins):Fits bs ins:=by
 have l2:=h.len
 have il:ins.length<=900:=by
   have:=sub_len h.ind h.insub
   rw [aab] at this
   omega
 exact ⟨h.nd,by omega,fun b hb=>(h.sz b hb).1,h.ind,h.insub,il⟩
theorem D7 {bs:List (Str×Int)}{ins:List Str}(h:cI bs ins):ins.length<=2:=by
 have:=sub_len h.ind h.insub
 rw [aab] at this
 have l2:=h.len
 omega
theorem Fq {bs:List (Str×Int)}(h:bs.length<=2)(k:∀b∈bs,1<=b.2/\b.2<=16):oi bs<=256:=by
 match bs,h,k with
 | [],_,_=>exact (by decide)
 | [b],_,k=>
   obtain ⟨h1,h2⟩:=k b (List.mem_cons.mpr (.inl rfl))
   show b.2.toNat * 1<=256
   omega
 | [b,c],_,k=>
   obtain ⟨h1,h2⟩:=k b (List.mem_cons.mpr (.inl rfl))
   obtain ⟨h3,h4⟩:=k c (List.mem_cons.mpr (.inr (List.mem_cons.mpr (.inl rfl))))
   show b.2.toNat * (c.2.toNat * 1)<=256
   have:b.2.toNat * (c.2.toNat * 1)<=16 * 16:=acP (by omega) (by omega)
   omega
 | _ :: _ :: _ :: _,h,_=>simp at h
theorem Mt {bs b':List (Str×Int)}{ins:List Str}{cz:Bool}{st:Int}(h:cI bs ins)(o:tM bs ins cz st b'):Fits b' ins/\ins.map (ck bs)=ins.map (ck b')/\b'.length=bs.length/\(∀b∈b',1<=b.2/\b.2<=5)/\∀x∈bs.map (·.1),fN ins cz x∈b'.map (·.1):=by
 have hl:b'.length=bs.length:=by rw [o.bx,zi,aab]
 have l2:=h.len
 have f1:=FL h
 have nd:(b'.map (·.1)).Nodup:=by
   rw [o.bx,pE]
   exact sZ (R4 h cz)
 have mem:∀b∈bs,(fN ins cz b.1,b.2)∈b':=fun b hb=>by
   rw [o.bx]
   exact hJ.mpr (List.mem_map.mpr ⟨b,hb,rfl⟩)
 have szs:∀c∈b',1<=c.2/\c.2<=5:=fun c hc=>by
   rw [o.bx] at hc
   obtain ⟨b,hb,rfl⟩:=List.mem_map.mp (hJ.mp hc)
   exact h.sz b hb
 have key:∀x∈ins,∃b∈bs,b.1=x/\(x,b.2)∈b':=fun x hx=>by
   obtain ⟨b,hb,e⟩:=List.mem_map.mp (h.insub x hx)
   refine ⟨b,hb,e,?_⟩
   have:=mem b hb
   rw [show fN ins cz b.1=x by unfold fN; rw [e,if_pos hx]] at this
   exact this
 refine ⟨⟨nd,by omega,fun c hc=>(szs c hc).1,h.ind,fun x hx=>?_,f1.ilen⟩,acQ fun x hx=>?_,hl,szs,fun x hx=>?_⟩
 · obtain ⟨b,hb,e,hm⟩:=key x hx
   exact List.mem_map.mpr ⟨_,hm,rfl⟩
 · obtain ⟨b,hb,e,hm⟩:=key x hx
   have e1:=kh h.nd hb
   have e2:=kh nd hm
   rw [e] at e1
   rw [e1]
   exact e2.symm
 · obtain ⟨b,hb,rfl⟩:=List.mem_map.mp hx
   exact List.mem_map.mpr ⟨_,mem b hb,rfl⟩
theorem E.gU (f:Str->Str):∀e:E,(e.vw f).dep=e.dep
 | .num _=>rfl
 | .box _ _=>rfl
 | .yes=>rfl
 | .nt a=>by show (a.vw f).dep + 1=a.dep + 1; rw [E.gU f a]
 | .two _ a b=>by show max (a.vw f).dep (b.vw f).dep + 1=max a.dep b.dep + 1; rw [E.gU f a,E.gU f b]
theorem E.dB (f:Str->Str):∀e:E,e.fS->(e.vw f).fS
 | .num _,_=>aaF
 | .box _ _,_=>aaF
 | .two .plus a b,h=>⟨E.dB f a h.1,E.dB f b h.2⟩
 | .two .less a b,h=>⟨E.dB f a h.1,E.dB f b h.2⟩
theorem E.l5 (f:Str->Str):∀e:E,e.gR->(e.vw f).gR
 | .yes,_=>aaF
 | .nt a,h=>E.l5 f a h
 | .two .same a b,h=>⟨E.dB f a h.1,E.dB f b h.2⟩
 | .two .under a b,h=>⟨E.dB f a h.1,E.dB f b h.2⟩
 | .two .both a b,h=>⟨E.l5 f a h.1,E.l5 f b h.2⟩
theorem E.kM {f:Str->Str}{A B:Str->Prop}(hf:∀x,A x->B (f x)):∀e:E,e.okIn (fun t y=>t="box"/\A y)->(e.vw f).okIn (fun t y=>t="box"/\B y)
 | .num _,h=>h
 | .box _ _,h=>⟨h.1,hf _ h.2⟩
 | .yes,_=>aaF
 | .nt a,h=>E.kM hf a h
 | .two _ a b,h=>⟨E.kM hf a h.1,E.kM hf b h.2⟩
theorem Nd.good.imp {A B:Str->Prop}{m:Int}{d d':Nat}(hf:∀x,A x->B x)(hd:d<=d'):∀{e:Nd},e.good A m d->e.good B m d'
 | .put x s n,h=>⟨hf x h.1,h.2.1,E.okIn.imp (fun t y z=>⟨z.1,hf y z.2⟩) h.2.2.1,aak h.2.2.2.1 hd,h.2.2.2.2.1,h.2.2.2.2.2⟩
 | .say s n,h=>⟨h.1,E.okIn.imp (fun t y z=>⟨z.1,hf y z.2⟩) h.2.1,aak h.2.2.1 hd,h.2.2.2.1,h.2.2.2.2⟩
 | .test c n o,h=>⟨h.1,E.okIn.imp (fun t y z=>⟨z.1,hf y z.2⟩) h.2.1,aak h.2.2.1 hd,h.2.2.2.1,h.2.2.2.2.1,h.2.2.2.2.2.1,h.2.2.2.2.2.2⟩
 | .fin,_=>aaF
theorem Nd.Dq {f:Str->Str}{g:Int->Int}{A B:Str->Prop}{m m':Int}{d:Nat}(hf:∀x,A x->B (f x))(hg:∀n,0<=n->n < m->0<=g n/\g n < m'):∀{e:Nd},e.good A m d->(e.as f g).good B m' d
 | .put x s n,h=>⟨hf x h.1,E.dB f s h.2.1,E.kM hf s h.2.2.1,by rw [E.gU]; exact h.2.2.2.1,hg n h.2.2.2.2.1 h.2.2.2.2.2⟩
 | .say s n,h=>⟨E.dB f s h.1,E.kM hf s h.2.1,by rw [E.gU]; exact h.2.2.1,hg n h.2.2.2.1 h.2.2.2.2⟩
 | .test c n o,h=>⟨E.l5 f c h.1,E.kM hf c h.2.1,by rw [E.gU]; exact h.2.2.1,(hg n h.2.2.2.1 h.2.2.2.2.1).1,(hg n h.2.2.2.1 h.2.2.2.2.1).2,(hg o h.2.2.2.2.2.1 h.2.2.2.2.2.2).1,(hg o h.2.2.2.2.2.1 h.2.2.2.2.2.2).2⟩
 | .fin,_=>aaF
theorem y4 {bs b':List (Str×Int)}{f:Str->Str}{nds nds2:List Nd}{ps dv:List Int}(no:pM bs f nds nds2 ps dv)(hf:∀x∈bs.map (·.1),f x∈b'.map (·.1))(good:∀e∈nds,e.good (· ∈ bs.map (·.1)) nds.length 5):∀e∈nds2,e.good (· ∈ b'.map (·.1)) nds2.length 5:=fun e' he=>by
 obtain ⟨j,hj⟩:=List.mem_iff_getElem?.mp he
 rcases no.only j e' hj with ⟨e,W3,rfl⟩ | ⟨p,hp,hs⟩
 · refine Nd.Dq (A:=(· ∈ bs.map (·.1))) hf (fun n h0 h1=>?_) (good e W3)
   have hn:n.toNat < nds.length:=by omega
   obtain ⟨p,b,h2,h3,h4,h5,_⟩:=no.all n.toNat nds[n.toNat] (aad hn)
   have:oF dv n=(b:Int):=by
     unfold oF
     rw [aaz,h3]
     rfl
   rw [this]
   omega
 · rcases hs with ⟨o,h0,h1,rfl⟩ | ⟨x,hx,rfl⟩
   · exact ⟨aaF,aaF,aaU _,by omega,by omega,h0,by omega⟩
   · exact ⟨hf x hx,aaF,⟨rfl,hf x hx⟩,aaU _,by omega,by omega⟩
abbrev dy:Stmt:=top 17
abbrev gG:Stmt:=top 16
def E.aQ (f:Str->Str->Bool):E->Bool
 | .num _=>true | .box t x=>f t x | .yes=>true | .nt a=>a.aQ f | .two _ a b=>a.aQ f && b.aQ f
def df (kvs:List (List Key×V))(t x:Str):Bool:=(bE kvs [.inr t,.inr x]).isSome
abbrev jc:Str->Str->Prop:=fun t _=>t="mine"\/t="yours"
def dm (n:Nat):Sp:=fun vs H Q _=>∃(a:Addr) (v:V) (e:E) (kvs:List (List Key×V)),vs=[.ref a,v]/\H a=some (.dT kvs)/\cF H v e/\e.okIn jc/\e.dep < n/\∀H',ah H H'->Q (.bl (e.aQ (df kvs))) H'
theorem lA:aD ["known","told","part"] ["known","told"] (ag dy):=⟨rfl,rfl,rfl,by decide +kernel,rfl,by decide +kernel,by decide +kernel⟩
theorem fX:aY dy "all_known":=by decide +kernel
theorem ib:aY dy "NAMELESS":=by decide +kernel
theorem jj:aY dy "PARTED":=by decide +kernel
theorem yP {n:Nat}{f:Addr}{fd:aao}(F:cJ K "all_known" "all_known" dy f fd)(N:tR K mg "NAMELESS" ["number","yes"])(PT:tR K mg "PARTED" ["plus","less","same","under","not","both"])
    (G:aX P w K mg base "all_known" ["known","told"] (n + 1) (dm n)):aP P w K mg base cO (n + 2) f fd ["known","told"] (dm (n + 1)):=by
 obtain ⟨tn,mN,cN⟩:=N
 obtain ⟨tp,mP,cP⟩:=PT
 refine F.ok lA (fun vs H Q E h=>?_) (fun cdv A outer s H vs Q E hr h=>?_)
 · obtain ⟨a,v,e,kvs,rfl,_⟩:=h
   rfl
 obtain ⟨a,v,e,kvs,rfl,hk,ev,ok,hd,q⟩:=h
 refine ⟨_,aeN (ael (aez (aey L3.IA (aem aew (aei 1) aek) (aeW (w:=.ref tn) ib mN rfl) (by rfl)) (aeo (aeq aeL)) aeA)
   (ael (aez (aey L3.qd (aem aew (aei 1) aek) (aeW (w:=.ref tp) jj mP rfl) (by rfl)) (aeo (aeq (L3.O1 (bQ hr _ (by decide)) (aei 1) (aei 0)))) aeA)
   (ael (aeX (L3.iT (L3.Nc (aei 1) aek)) (aes 2 lA.nd) (aeo (aez (L3.nt (ae3 (aet G hr fX (aeh (aei 0) (aeh (aei 2) aej))))) (aeo (aeq aeL)) aeA)))
   (aeo (aeq aeL))))),?_⟩
 cases e with
 | num m=>
   obtain ⟨p,rfl,hp⟩:=ev
   refine ⟨_,rfl,p,_,_,_,rfl,rfl,aK.of hp,rfl,tn,_,rfl,.inr (cN _),rfl,rfl,_,rfl,?_⟩
   refine aF (fun _=>?_) (fun c=>absurd (show zC (.str "number") _=true by decide) c)
   exact q _ (same_refl _)
 | yes=>
   obtain ⟨p,rfl,hp⟩:=ev
   refine ⟨_,rfl,p,_,_,_,rfl,rfl,aK.of hp,rfl,tn,_,rfl,.inr (cN _),rfl,rfl,_,rfl,?_⟩
   refine aF (fun _=>?_) (fun c=>absurd (show zC (.str "yes") _=true by decide) c)
   exact q _ (same_refl _)
 | box t x=>
   obtain ⟨p,rfl,hp⟩:=ev
   have Kz:t="mine"\/t="yours":=ok
   have g:=fO.t (k:=[.inr t,.inr x]) hk hp
   refine ⟨_,rfl,p,_,_,_,rfl,rfl,aK.of hp,rfl,tn,_,rfl,.inr (cN _),rfl,rfl,_,rfl,?_⟩
   refine aF (fun c=>absurd c (by rcases Kz with rfl | rfl <;> decide)) (fun _=>?_)
   refine ⟨_,rfl,p,_,_,_,rfl,rfl,aK.of hp,rfl,tp,_,rfl,.inr (cP _),rfl,rfl,_,rfl,?_⟩
   refine aF (fun _=>?_) (fun c=>absurd (by rcases Kz with rfl | rfl <;> decide) c)
   exact ⟨_,rfl,_,rfl,a,_,rfl,g,q _ (same_refl _)⟩
 | nt e1=>
   obtain ⟨x,⟨p,rfl,hp⟩,ax⟩:=ev
   have oA:e1.dep + 1 < n + 1:=hd
   have iz:e1.okIn jc:=ok
   refine ⟨_,rfl,p,_,_,_,rfl,rfl,aK.of hp,rfl,tn,_,rfl,.inr (cN _),rfl,rfl,_,rfl,?_⟩
   refine aF (fun c=>absurd c (by decide)) (fun _=>?_)
   refine ⟨_,rfl,p,_,_,_,rfl,rfl,aK.of hp,rfl,tp,_,rfl,.inr (cP _),rfl,rfl,_,rfl,?_⟩
   refine aF (fun c=>absurd c (by decide)) (fun _=>?_)
   refine ⟨_,rfl,_,rfl,p,_,rfl,aK.of hp,(fun z=>absurd z.1 (show ¬ HT.cM 2 0 (some 1)=0 by decide)),fun l hl=>⟨l,rfl,⟨_,aK.of ae⟩,?_⟩⟩
   refine gQ (xs:=[x]) (fun i σ H2=>(∃pv,σ=[some (.ref a),some (.ref p),pv])/\ah (upd H l (.tup [x])) H2/\(1<=i->e1.aQ (df kvs)=true)) ⟨⟨_,rfl⟩,same_refl _,fun z=>absurd z (by decide)⟩ (fun i σ H2 _ z=>aK.of (z.2.1 _ _ ae)) (fun i x0 σ H2 hx z=>?_) (fun σ H2 z=>?_)
   · obtain ⟨⟨pv,rfl⟩,z,_⟩:=z
     have s2:=aa (af hl _) z
     have F9:x0=x:=by
       match i,hx with
       | 0,hx=>exact (aaB hx).symm
     subst F9
     refine ⟨_,rfl,_,rfl,a,x0,e1,kvs,rfl,s2 _ _ hk,ax.same s2,iz,by omega,fun H3 s3=>⟨_,rfl,?_⟩⟩
     refine aF (fun c=>?_) (fun c=>?_)
     · have c':e1.aQ (df kvs)=false:=by cases zz:e1.aQ (df kvs) <;> simp_all
       have q':=q H3 (aa s2 s3)
       rw [show (TW.E.nt e1).aQ (df kvs)=false from c'] at q'
       exact q'
     · have c':e1.aQ (df kvs)=true:=by cases zz:e1.aQ (df kvs) <;> simp_all
       exact ⟨⟨_,rfl⟩,aa z s3,fun _=>c'⟩
   · have q':=q H2 (aa (af hl _) z.2.1)
     rw [show (TW.E.nt e1).aQ (df kvs)=true from z.2.2 (by show 1<=1; decide)] at q'
     exact q'
 | two k e1 e2=>
   obtain ⟨x,y,⟨p,rfl,hp⟩,ax,ay⟩:=ev
   have oA:max e1.dep e2.dep + 1 < n + 1:=hd
   have iz:e1.okIn jc:=ok.1
   have C5:e2.okIn jc:=ok.2
   refine ⟨_,rfl,p,_,_,_,rfl,rfl,aK.of hp,rfl,tn,_,rfl,.inr (cN _),rfl,rfl,_,rfl,?_⟩
   refine aF (fun c=>absurd c (by cases k <;> decide)) (fun _=>?_)
   refine ⟨_,rfl,p,_,_,_,rfl,rfl,aK.of hp,rfl,tp,_,rfl,.inr (cP _),rfl,rfl,_,rfl,?_⟩
   refine aF (fun c=>absurd c (by cases k <;> decide)) (fun _=>?_)
   refine ⟨_,rfl,_,rfl,p,_,rfl,aK.of hp,(fun z=>absurd z.1 (show ¬ HT.cM 3 0 (some 1)=0 by decide)),fun l hl=>⟨l,rfl,⟨_,aK.of ae⟩,?_⟩⟩
   refine gQ (xs:=[x,y]) (fun i σ H2=>(∃pv,σ=[some (.ref a),some (.ref p),pv])/\ah (upd H l (.tup [x,y])) H2/\(1<=i->e1.aQ (df kvs)=true)/\(2<=i->e2.aQ (df kvs)=true)) ⟨⟨_,rfl⟩,same_refl _,(fun z=>absurd z (by decide)),fun z=>absurd z (by decide)⟩ (fun i σ H2 _ z=>aK.of (z.2.1 _ _ ae)) (fun i x0 σ H2 hx z=>?_) (fun σ H2 z=>?_)
   · obtain ⟨⟨pv,rfl⟩,z,z1,z2⟩:=z
     have s2:=aa (af hl _) z
     have F9:∃e0,cF H x0 e0/\e0.okIn jc/\e0.dep < n/\(e0.aQ (df kvs)=false->(TW.E.two k e1 e2).aQ (df kvs)=false)/\(e0.aQ (df kvs)=true->(1<=i + 1->e1.aQ (df kvs)=true)/\(2<=i + 1->e2.aQ (df kvs)=true)):=by
       match i,hx,z1 with
       | 0,hx,_=>exact ⟨e1,(aaB hx) ▸ ax,iz,by omega,fun c=>by show (e1.aQ _ && e2.aQ _)=false; rw [c]; rfl,fun c=>⟨fun _=>c,fun z=>absurd z (by decide)⟩⟩
       | 1,hx,z1=>exact ⟨e2,(aaB hx) ▸ ay,C5,by omega,fun c=>by show (e1.aQ _ && e2.aQ _)=false; rw [c,adI],fun c=>⟨fun _=>z1 (by decide),fun _=>c⟩⟩
     obtain ⟨e0,a0,o0,d0,f0,t0⟩:=F9
     refine ⟨_,rfl,_,rfl,a,x0,e0,kvs,rfl,s2 _ _ hk,a0.same s2,o0,d0,fun H3 s3=>⟨_,rfl,?_⟩⟩
     refine aF (fun c=>?_) (fun c=>?_)
     · have c':e0.aQ (df kvs)=false:=by cases zz:e0.aQ (df kvs) <;> simp_all
       have q':=q H3 (aa s2 s3)
       rw [f0 c'] at q'
       exact q'
     · have c':e0.aQ (df kvs)=true:=by cases zz:e0.aQ (df kvs) <;> simp_all
       exact ⟨⟨_,rfl⟩,aa z s3,t0 c'⟩
   · have q':=q H2 (aa (af hl _) z.2.1)
     rw [show (TW.E.two k e1 e2).aQ (df kvs)=true by show (e1.aQ _ && e2.aQ _)=true; rw [z.2.2.1 (by show 1<=2; decide),z.2.2.2 (by show 2<=2; decide)]; rfl] at q'
     exact q'
theorem se {f:Addr}{fd:aao}:aP P w K mg base cO 1 f fd ["known","told"] (dm 0):=by
 have no:∀vs H Q E,¬ dm 0 vs H Q E:=fun vs H Q E h=>by
   obtain ⟨_,_,_,_,_,_,_,_,h1,_⟩:=h
   omega
 exact ⟨fun vs H Q E h=>absurd h (no vs H Q E),fun A outer s H args us vs Q E _ _ _ _ h=>absurd h (no vs H Q E)⟩
theorem uo (s:Src K mg "all_known" dy)(N:tR K mg "NAMELESS" ["number","yes"])(PT:tR K mg "PARTED" ["plus","less","same","under","not","both"]):∀n:Nat,aX P w K mg base "all_known" ["known","told"] (n + 1) (dm n):=by
 obtain ⟨f,fd,F,m⟩:=s
 have b:Binds K fd ["known","told"] []:=d4 F fun _ _ _ _ _ _ _ _=>rfl
 intro n
 have all:aP P w K mg base cO (n + 1) f fd ["known","told"] (dm n):=by
   induction n with
   | zero=>exact se
   | succ n ih=>exact yP F N PT ⟨f,fd,ih,F.kp,b,m⟩
 exact ⟨f,fd,all,F.kp,b,m⟩
def gZ (C:Addr)(n:Nat):Sp:=fun vs H Q X=>∃(a:Addr) (v:V) (e:E) (kvs:List (List Key×V)),vs=[.ref a,v]/\H a=some (.dT kvs)/\cF H v e/\e.okIn jc/\e.dep < n /\
 (e.aQ (df kvs)=true->∀H',ah H H'->Q .bN H')/\(e.aQ (df kvs)=false->∀H',ah H H'->X (.ref C) none H')
theorem zf:aD ["known","told"] ["known","told"] (ag gG):=⟨rfl,rfl,rfl,by decide +kernel,rfl,by decide +kernel,by decide +kernel⟩
theorem iP:aY gG "all_known":=by decide +kernel
theorem iO:aY gG "NoProgram":=by decide +kernel
theorem ve {n:Nat}{C T:Addr}{f:Addr}{fd:aao}(F:cJ K "refuse_unknown" "refuse_unknown" gG f fd)(cP:Xc K mg "NoProgram" C (.ref T :: vE))(G:aX P w K mg base "all_known" ["known","told"] (n + 1) (dm n)):aP P w K mg base (lC P w base) (n + 2) f fd ["known","told"] (gZ C n):=by
 refine F.C6 zf (fun vs H Q E h=>?_) (fun cdv A outer s H vs Q E hr h=>?_)
 · obtain ⟨a,v,e,kvs,rfl,_⟩:=h
   rfl
 · obtain ⟨a,v,e,kvs,rfl,hk,ev,ok,hd,q1,q2⟩:=h
   refine ⟨_,aeN (aeo (aez (L3.nt (ae3 (aet G hr iP (aeh (aei 0) (aeh (aei 1) aej))))) (aeo (L3.qh l4 cP (by rfl) iO (aeh aep aej))) aeA)),?_⟩
   refine ⟨_,rfl,_,rfl,a,v,e,kvs,rfl,hk,ev,ok,hd,fun H3 s3=>⟨_,rfl,?_⟩⟩
   refine aF (fun c=>?_) (fun c=>?_)
   · have c':e.aQ (df kvs)=false:=by cases zz:e.aQ (df kvs) <;> simp_all
     exact ⟨_,rfl,q2 c' _ s3⟩
   · have c':e.aQ (df kvs)=true:=by cases zz:e.aQ (df kvs) <;> simp_all
     exact q1 c' _ s3
theorem rK {n:Nat}{C T:Addr}(s:Src K mg "refuse_unknown" gG)(cP:Xc K mg "NoProgram" C (.ref T :: vE))(G:aX P w K mg base "all_known" ["known","told"] (n + 1) (dm n)):bR P w K mg base "refuse_unknown" ["known","told"] (n + 2) (gZ C n):=
 let ⟨f,fd,F,m⟩:=s
 ⟨f,fd,ve F cP G,F.kp,d4 F fun _ _ _ _ _ _ _ _=>rfl,m⟩
abbrev kO:Stmt:=top 18
abbrev jQ:Stmt:=top 20
theorem pS {i:Int}(h:i.natAbs < 2 ^ 1900):Kl (.int i):=.inl ⟨i,rfl,by
 by_cases z:i.natAbs=0
 · rw [z]; decide
 · exact (Nat.log2_lt z).mpr (aat h (abM (by decide) (by decide)))⟩
theorem wu {n:Nat}(h:n<=1000):Kl (.int n):=pS (by
 have:((n:Int)).natAbs=n:=Int.natAbs_natCast n
 rw [this]
 exact abV h (aat (show 1000 < 2 ^ 10 by decide) (abM (by decide) (by decide))))
def zH (ws:List Int):Prop:=ws.length<=900/\∀z∈ws,z.natAbs < 2 ^ 1900
def hG (C:Addr):Sp:=fun vs H Q X=>∃(sa wa:Addr) (szs ws:List Int),vs=[.ref sa,.ref wa]/\H sa=some (.lst (szs.map V.int))/\H wa=some (.lst (ws.map V.int))/\zH szs/\zH ws /\
 (Paired Within szs ws->∀H',ah H H'->Q .bN H')/\(¬ Paired Within szs ws->∀H',ah H H'->X (.ref C) none H')
theorem ql:aD ["sizes","worths","size","worth"] ["sizes","worths"] (ag kO):=⟨rfl,rfl,rfl,by decide +kernel,rfl,by decide +kernel,by decide +kernel⟩
theorem fj:aY kO "len":=by decide +kernel
theorem ui:aY kO "zip":=by decide +kernel
theorem fH:aY kO "NoWorths":=by decide +kernel
theorem BB {C T:Addr}{f:Addr}{fd:aao}(F:cJ K "refuse_worths" "refuse_worths" kO f fd)(cW:Xc K mg "NoWorths" C (.ref T :: vE))(m_len:mg "len"=none)(m_zip:mg "zip"=none):aP P w K mg base (lC P w base) 1 f fd ["sizes","worths"] (hG C):=by
 refine F.C6 ql (fun vs H Q E h=>?_) (fun cdv A outer s H vs Q E hr h=>?_)
 · obtain ⟨sa,wa,szs,ws,rfl,_⟩:=h
   rfl
 · obtain ⟨sa,wa,szs,ws,rfl,hs,hw,bs,bw,q1,q2⟩:=h
   refine ⟨_,aeN (ael (aez (aey L3.yN (aeD aeF fj m_len aaq (aeh (aei 1) aej)) (aeD aeF fj m_len aaq (aeh (aei 0) aej))) (aeo (L3.qh l4 cW (by rfl) fH (aeh (L3.Lh (L3.fv (aeD aeF fj m_len aaq (aeh (aei 1) aej)) (L3.fs (L3.fv (aeD aeF fj m_len aaq (aeh (aei 0) aej)) (L3.fs L3.fn))))) aej pe))) aeA)
     (aeo (aeX (L3.iZ ui m_zip (aeh (aei 0) (aeh (aei 1) aej))) (aeG 2 (aex (aes 2 ql.nd) (aex (aes 3 ql.nd) aeH))) (aeo (aez (aeZ (ae4 (aey aeQ (aei 3) aek) (ae5 (aey L3.Iz (aei 3) (aei 2))))) (aeo (L3.qh l4 cW (by rfl) fH (aeh (L3.Lh (L3.fs (L3.fv (aei 3) (L3.fs (L3.fv (aei 2) L3.fn))))) aej pe))) aeA)) (hp:=PySem.PassesOwn.leaving)))),?_⟩
   refine ⟨_,rfl,wa,_,rfl,.inl (ao.of hw),_,rfl,sa,_,rfl,.inl (ao.of hs),rfl,_,rfl,?_⟩
   refine aF (fun c=>?_) (fun c=>?_)
   · have hne:szs.length≠ws.length:=fun z=>by
       rw [aab,aab,z] at c
       simp at c
     refine ⟨_,rfl,wa,_,rfl,.inl (ao.of hw),wu (by rw [aab]; have:=bw.1; omega),_,rfl,sa,_,rfl,.inl (ao.of hs),wu (by rw [aab]; have:=bs.1; omega),fun x=>⟨_,rfl,?_⟩⟩
     exact q2 (fun z=>hne (Paired.length z)) _ (same_refl _)
   have hl:szs.length=ws.length:=by
     rw [aab,aab] at c
     by_cases z:ws.length=szs.length
     · exact z.symm
     · exfalso; apply c; simp; omega
   have FW:(szs.map V.int).length=(ws.map V.int).length:=by rw [aab,aab]; exact hl
   refine ⟨_,rfl,_,rfl,sa,wa,rfl,⟨_,ao.of hs⟩,⟨_,ao.of hw⟩,?_⟩
   refine wz (xs:=szs.map V.int) (ys:=ws.map V.int) FW (fun i σ H2=>(∃v1 v2,σ=[some (.ref sa),some (.ref wa),v1,v2])/\ah H H2/\Paired Within (szs.take i) (ws.take i)) ⟨⟨_,_,rfl⟩,same_refl _,.nil⟩ (fun i σ H2 _ z=>⟨ao.of (z.2.1 _ _ hs),ao.of (z.2.1 _ _ hw)⟩) (fun i x y p σ H2 hx hy z hp=>?_) (fun σ H2 z=>?_)
   · obtain ⟨⟨v1,v2,rfl⟩,z,pw⟩:=z
     obtain ⟨s0,e1,rfl⟩:=dh hx
     obtain ⟨w0,e2,rfl⟩:=dh hy
     have SH:Kl (.int w0):=pS (bw.2 w0 (aan e2))
     have SD:Kl (.int s0):=pS (bs.2 s0 (aan e1))
     have sp:=aa z (af hp (.tup [.int s0,.int w0]))
     refine ⟨p,_,rfl,aK.of ae,rfl,_,_,rfl,_,_,rfl,rfl,?_⟩
     refine ⟨_,rfl,_,_,rfl,rfl,_,rfl,?_⟩
     refine aF (fun c=>?_) (fun c=>?_)
     · have c':w0 < 0:=of_decide_eq_true c
       refine fT ?_
       refine ⟨_,rfl,SH,_,rfl,SD,fun x=>⟨_,rfl,?_⟩⟩
       exact q2 (fun z=>by have:=(Paired.DG z e1 e2).1; omega) _ sp
     · have c':¬ w0 < 0:=fun zz=>c (decide_eq_true zz)
       refine ⟨_,rfl,_,rfl,_,_,rfl,rfl,_,rfl,?_⟩
       refine aF (fun d=>?_) (fun d=>?_)
       · have d':w0 ≥ s0:=of_decide_eq_true d
         refine ⟨_,rfl,SH,_,rfl,SD,fun x=>⟨_,rfl,?_⟩⟩
         exact q2 (fun z=>by have:=(Paired.DG z e1 e2).2; omega) _ sp
       · have d':¬ w0 ≥ s0:=fun zz=>d (decide_eq_true zz)
         refine ⟨⟨_,_,rfl⟩,sp,?_⟩
         rw [aal,aal,e1,e2]
         exact Paired.snoc pw ⟨by omega,by omega⟩
   · have pw:=z.2.2
     rw [aab,aaA,hl,aaA] at pw
     exact q1 pw _ z.2.1
theorem yj {C T:Addr}(s:Src K mg "refuse_worths" kO)(cW:Xc K mg "NoWorths" C (.ref T :: vE))(m_len:mg "len"=none)(m_zip:mg "zip"=none):bR P w K mg base "refuse_worths" ["sizes","worths"] 1 (hG C):=
 let ⟨f,fd,F,m⟩:=s
 ⟨f,fd,BB F cW m_len m_zip,F.kp,d4 F fun _ _ _ _ _ _ _ _=>rfl,m⟩
structure qI (H:Hp)(v:V)(wa:Addr)(bs:List (Str×Int))(ws:List Int):Prop where
 bx:qJ H v bs
 nd:(bs.map (·.1)).Nodup
 sb:zH (bs.map (·.2))
 wl:H wa=some (.lst (ws.map V.int))
 wb:zH ws
theorem qI.same {H H':Hp}{v:V}{wa:Addr}{bs:List (Str×Int)}{ws:List Int}(h:qI H v wa bs ws)(s:ah H H'):qI H' v wa bs ws:=⟨h.bx.same s,h.nd,h.sb,s _ _ h.wl,h.wb⟩
theorem qI.len {H:Hp}{v:V}{wa:Addr}{bs:List (Str×Int)}{ws:List Int}(h:qI H v wa bs ws):bs.length<=900:=by have:=h.sb.1; rw [aab] at this; exact this
abbrev GoodW (bs:List (Str×Int))(ws:List Int):Prop:=Paired Within (bs.map (·.2)) ws
def jZ (C:Addr):Sp:=fun vs H Q X=>∃(v:V) (wa:Addr) (bs:List (Str×Int)) (ws:List Int),vs=[v,.ref wa]/\qI H v wa bs ws/\(GoodW bs ws->∀H',ah H H'->Q .bN H')/\(¬ GoodW bs ws->∀H',ah H H'->X (.ref C) none H')
theorem Cm:aD ["program","worths"] ["program","worths"] (ag jQ):=⟨rfl,rfl,rfl,by decide +kernel,rfl,by decide +kernel,by decide +kernel⟩
theorem fQ:aY jQ "refuse_worths":=by decide +kernel
theorem ju:aY jQ "box_sizes":=by decide +kernel
theorem yT {C:Addr}{f:Addr}{fd:aao}(F:cJ K "refuse_box_worths" "refuse_box_worths" jQ f fd)(R:bR P w K mg base "refuse_worths" ["sizes","worths"] 1 (hG C))(B:aX P w K mg base "box_sizes" ["program"] 1 dU):aP P w K mg base (lC P w base) 2 f fd ["program","worths"] (jZ C):=by
 refine F.C6 Cm (fun vs H Q E h=>?_) (fun cdv A outer s H vs Q E hr h=>?_)
 · obtain ⟨v,wa,bs,ws,rfl,_⟩:=h
   rfl
 · obtain ⟨v,wa,bs,ws,rfl,ak,q1,q2⟩:=h
   refine ⟨_,aeN (aeo (aeI (aeT fL R hr fQ (aeh (aet B hr ju (aeh (aei 0) aej)) (aeh (aei 1) aej))))),?_⟩
   refine ⟨_,rfl,v,bs,rfl,ak.bx,ak.len,fun l hl=>?_⟩
   refine ⟨_,rfl,l,wa,_,ws,rfl,ae,by rw [aj (ai ak.wl hl)]; exact ak.wl,ak.sb,ak.wb,fun g H' s'=>q1 g _ (aa (af hl _) s'),fun g H' s'=>q2 g _ (aa (af hl _) s')⟩
theorem uw {C:Addr}(s:Src K mg "refuse_box_worths" jQ)(R:bR P w K mg base "refuse_worths" ["sizes","worths"] 1 (hG C))(B:aX P w K mg base "box_sizes" ["program"] 1 dU):bR P w K mg base "refuse_box_worths" ["program","worths"] 2 (jZ C):=
 let ⟨f,fd,F,m⟩:=s
 ⟨f,fd,yT F R B,F.kp,d4 F fun _ _ _ _ _ _ _ _=>rfl,m⟩
abbrev gE:Stmt:=top 31
theorem ze:aD ["one","other"] ["one","other"] (ag gE):=⟨rfl,rfl,rfl,by decide +kernel,rfl,by decide +kernel,by decide +kernel⟩
theorem lL:aY gE "NoPair":=by decide +kernel
theorem dD:aY gE "input_sizes":=by decide +kernel
structure KU (H:Hp)(v1 v2:V)(b1 b2:List (Str×Int))(i1 i2:List Str)(n1 n2:List Nd):Prop where
 p1:bD H v1 b1 i1 n1
 p2:bD H v2 b2 i2 n2
 f1:Fits b1 i1
 f2:Fits b2 i2
theorem KU.same {H H':Hp}{v1 v2:V}{b1 b2:List (Str×Int)}{i1 i2:List Str}{n1 n2:List Nd}(h:KU H v1 v2 b1 b2 i1 i2 n1 n2)(s:ah H H'):KU H' v1 v2 b1 b2 i1 i2 n1 n2:=⟨h.p1.same s,h.p2.same s,h.f1,h.f2⟩
abbrev cQ (b1 b2:List (Str×Int))(i1 i2:List Str):Prop:=i1=i2/\i1.map (ck b1)=i2.map (ck b2)
def dX (C:Addr):Sp:=fun vs H Q X=>∃(v1 v2:V) (b1 b2:List (Str×Int)) (i1 i2:List Str) (n1 n2:List Nd),vs=[v1,v2]/\KU H v1 v2 b1 b2 i1 i2 n1 n2/\(cQ b1 b2 i1 i2->∀H',ah H H'->Q .bN H')/\(¬ cQ b1 b2 i1 i2->∀H',ah H H'->X (.ref C) none H')
theorem lZ {p:Prop}[Decidable p](c:(!decide p)=true):¬ p:=fun h=>by rw [decide_eq_true h] at c; cases c
theorem r6 {p:Prop}[Decidable p](c:¬ (!decide p)=true):p:=by
 by_cases h:p
 · exact h
 · rw [decide_eq_false h] at c
   exact absurd rfl c
theorem u6 {C T:Addr}{f:Addr}{fd:aao}(F:cJ K "refuse_no_pair" "refuse_no_pair" gE f fd)(cN:Xc K mg "NoPair" C (.ref T :: vE))(IS:aX P w K mg base "input_sizes" ["program"] 1 fD):aP P w K mg base (lC P w base) 2 f fd ["one","other"] (dX C):=by
 refine F.C6 ze (fun vs H Q E h=>?_) (fun cdv A outer s H vs Q E hr h=>?_)
 · obtain ⟨v1,v2,b1,b2,i1,i2,n1,n2,rfl,_⟩:=h
   rfl
 · obtain ⟨v1,v2,b1,b2,i1,i2,n1,n2,rfl,T,q,qx⟩:=h
   refine kI ⟨_,(aeo (aez (aeZ (ae4 (aey (L3.wN (m:=0) (bQ hr _ (by decide))) (aem aew (aei 0) aek) (aem aew (aei 1) aek)) (ae5 (aey (L3.wN (m:=0) (bQ hr _ (by decide))) (aet IS hr dD (aeh (aei 0) aej)) (aet IS hr dD (aeh (aei 1) aej)))))) (aeo (L3.qh l4 cN (by rfl) lL (aeh aep aej))) aeA)),?_⟩
   obtain ⟨p,B,I,N,vb,vn,rfl,hp,hB,hI,hN,pb,pn⟩:=T.p1
   obtain ⟨p',B',I',N',vb',Z5,rfl,oC,Zw,WH,Zx,ZV,ZW⟩:=T.p2
   refine ⟨_,rfl,p,_,_,_,rfl,rfl,aK.of hp,rfl,_,rfl,p',_,_,_,rfl,rfl,aK.of oC,rfl,_,RB.strs hI WH,_,rfl,?_⟩
   refine aF (fun c=>fT ?_) (fun c=>?_)
   · exact ⟨_,rfl,qx (fun z=>lZ c z.1) _ (same_refl _)⟩
   have ei:=r6 c
   refine ⟨_,rfl,_,b1,i1,n1,rfl,T.p1,T.f1,fun l1 H1 hl1 s1 g1=>?_⟩
   refine ⟨_,rfl,_,b2,i2,n2,rfl,T.p2.same s1,T.f2,fun l2 H2 hl2 s2 g2=>?_⟩
   refine ⟨_,RB.ints (s2 _ _ g1) g2,_,rfl,?_⟩
   refine aF (fun c=>?_) (fun c=>?_)
   · exact ⟨_,rfl,qx (fun z=>lZ c z.2) _ (aa s1 s2)⟩
   · exact q ⟨ei,r6 c⟩ _ (aa s1 s2)
theorem rH {C T:Addr}(s:Src K mg "refuse_no_pair" gE)(cN:Xc K mg "NoPair" C (.ref T :: vE))(IS:aX P w K mg base "input_sizes" ["program"] 1 fD):bR P w K mg base "refuse_no_pair" ["one","other"] 2 (dX C):=
 let ⟨f,fd,F,m⟩:=s
 ⟨f,fd,u6 F cN IS,F.kp,d4 F fun _ _ _ _ _ _ _ _=>rfl,m⟩
abbrev Fh:Stmt:=top 32
abbrev vD:Stmt:=top 33
theorem kj {κ:Type}[DecidableEq κ]:∀(xs ys:List (κ×V)) (k:κ),bE (xs++ys) k=match bE xs k with | some v=>some v | none=>bE ys k
 | [],_,_=>rfl
 | p :: r,ys,k=>by
   by_cases e:p.1=k
   · rw [adi,bM e,bM e]
   · rw [adi,bB e,bB e,kj r ys k]
theorem lu (side:Str):∀(bs:List (Str×Int)) (ws:List Int) (acc:List (List Key×V)),(bs.map (·.1)).Nodup->(∀x∈bs.map (·.1),bE acc [.inr side,.inr x]=none)->putAllT acc (bS side bs ws)=acc++bS side bs ws
 | [],_,acc,_,_=>by show acc=acc++[]; rw [aaJ]
 | _ :: _,[],acc,_,_=>by show acc=acc++[]; rw [aaJ]
 | b :: bs,w :: ws,acc,nd,h=>by
   rw [aaI,acG] at nd
   show putAllT (putK acc [.inr side,.inr b.1] (.int w)) (bS side bs ws)=acc++([.inr side,.inr b.1],.int w) :: bS side bs ws
   rw [su (h b.1 (List.mem_cons.mpr (.inl rfl))),lu side bs ws _ nd.2 (fun x hx=>?_),acr]
   · rfl
   · rw [kj,h x (List.mem_cons.mpr (.inr hx))]
     show bE [(([.inr side,.inr b.1]:List Key),V.int w)] [.inr side,.inr x]=none
     rw [bB (p:=(([.inr side,.inr b.1]:List Key),V.int w)) (fun z=>by injection z with _ z; injection z with z _; injection z with z; exact nd.1 (z ▸ hx))]
     rfl
abbrev Du (b1 b2:List (Str×Int)):Str->Str->Prop:=fun t x=>(t="mine"/\x∈b1.map (·.1))\/(t="yours"/\x∈b2.map (·.1))
def OX (b1:List (Str×Int))(w1:List Int)(b2:List (Str×Int))(w2:List Int):Str->Str->Int:=fun t x=>if t="mine" then oI b1 w1 x else oI b2 w2 x
theorem qU (b1 b2:List (Str×Int)):Dm (Du b1 b2):=fun t _ h=>by
 rcases h with h | h
 · exact .inr (.inl h.1)
 · exact .inr (.inr h.1)
theorem zR {b1 b2:List (Str×Int)}{w1 w2:List Int}(l1:b1.length=w1.length)(l2:b2.length=w2.length):∀t x,Du b1 b2 t x->bE (bS "mine" b1 w1++bS "yours" b2 w2) [.inr t,.inr x]=some (.int (OX b1 w1 b2 w2 t x)):=fun t x h=>by
 rw [kj]
 unfold OX
 rcases h with ⟨rfl,h⟩ | ⟨rfl,h⟩
 · rw [dW "mine" b1 w1 x l1 h,if_pos rfl]
 · rw [dw "mine" b1 w1 "yours" x (fun z=>absurd z (by decide)),if_neg (by decide)]
   exact dW "yours" b2 w2 x l2 h
structure Dn (H:Hp)(v1 v2:V)(m y:Addr)(b1 b2:List (Str×Int))(ins:List Str)(n1 n2:List Nd)(w1 w2:List Int):Prop where
 p1:bD H v1 b1 ins n1
 p2:bD H v2 b2 ins n2
 f1:Fits b1 ins
 f2:Fits b2 ins
 sz:ins.map (ck b1)=ins.map (ck b2)
 hm:H m=some (.lst (w1.map V.int))
 hy:H y=some (.lst (w2.map V.int))
 pw1:Paired Within (b1.map (·.2)) w1
 pw2:Paired Within (b2.map (·.2)) w2
 len:b1.length=b2.length
 few:b1.length<=100
theorem bD.bx {H:Hp}{v:V}{bs:List (Str×Int)}{ins:List Str}{nds:List Nd}(h:bD H v bs ins nds):qJ H v bs:=by
 obtain ⟨p,B,I,N,vb,vn,e,h1,h2,h3,h4,h5,h6⟩:=h
 exact ⟨p,B,_,_,vb,e,h1,h2,h5⟩
section
variable {H H':Hp}{v1 v2:V}{m y:Addr}{b1 b2:List (Str×Int)}{ins:List Str}{n1 n2:List Nd}{w1 w2:List Int}
theorem Dn.same (h:Dn H v1 v2 m y b1 b2 ins n1 n2 w1 w2)(s:ah H H'):Dn H' v1 v2 m y b1 b2 ins n1 n2 w1 w2:=⟨h.p1.same s,h.p2.same s,h.f1,h.f2,h.sz,s _ _ h.hm,s _ _ h.hy,h.pw1,h.pw2,h.len,h.few⟩
theorem Dn.l1 (h:Dn H v1 v2 m y b1 b2 ins n1 n2 w1 w2):b1.length=w1.length:=by have:=Paired.length h.pw1; rwa [aab] at this
theorem Dn.l2 (h:Dn H v1 v2 m y b1 b2 ins n1 n2 w1 w2):b2.length=w2.length:=by have:=Paired.length h.pw2; rwa [aab] at this
end
theorem rG (s:Dl K mg "known_worths" gV "box")(m_zip:mg "zip"=none):aX P w K mg base "known_worths" ["program","worths","side"] 1 dn:=by
 obtain ⟨f,fd,T,tk,oc,od,n,sl,F,m,lT⟩:=s
 refine ⟨f,fd,ph F m_zip,F.kp,?_,m⟩
 obtain ⟨oc,od,kV,doc,pm,an,cdv,ct,osl,rfl,lk,hcd⟩:=F.ex
 intro s us kin hl
 have h2:us.length=3:=by simpa using hl
 match us,h2 with
 | [u1,u2,u3],_=>first | exact BindsTo.of_eq rfl | exact adX rfl (kin _ _ lT) rfl rfl rfl
abbrev v7 (b1:List (Str×Int))(w1:List Int)(b2:List (Str×Int))(w2:List Int):List (List Key×V):=bS "mine" b1 w1++bS "yours" b2 w2
def xo:Sp:=fun vs H Q _=>∃(v1 v2:V) (m y:Addr) (b1 b2:List (Str×Int)) (ins:List Str) (n1 n2:List Nd) (w1 w2:List Int),vs=[v1,v2,.ref m,.ref y]/\Dn H v1 v2 m y b1 b2 ins n1 n2 w1 w2/\∀D H',H D=none->ah H H'->H' D=some (.dT (v7 b1 w1 b2 w2))->Q (.ref D) H'
theorem Gz:aD ["one","other","mine","yours","known"] ["one","other","mine","yours"] (ag Fh):=⟨rfl,rfl,rfl,by decide +kernel,rfl,by decide +kernel,by decide +kernel⟩
theorem eF:aY Fh "known_worths":=by decide +kernel
theorem IH {f:Addr}{fd:aao}(F:cJ K "known_between" "known_between" Fh f fd)(KW:aX P w K mg base "known_worths" ["program","worths","side"] 1 dn):aP P w K mg base cO 2 f fd ["one","other","mine","yours"] xo:=by
 refine F.ok Gz (fun vs H Q E h=>?_) (fun cdv A outer s H vs Q E hr h=>?_)
 · obtain ⟨v1,v2,m,y,b1,b2,ins,n1,n2,w1,w2,rfl,_⟩:=h
   rfl
 obtain ⟨v1,v2,m,y,b1,b2,ins,n1,n2,w1,w2,rfl,T,q⟩:=h
 refine kI ⟨_,(ael (aev 4 Gz.nd (aet KW hr eF (aeh (aei 0) (aeh (aei 2) (aeh aep aej)))))
   (ael (aeI (L3.update (bQ hr _ (by decide)) (aei 4) (aet KW hr eF (aeh (aei 1) (aeh (aei 3) (aeh aep aej))))))
   (aeo (aeq (aei 4))))),?_⟩
 have few:=T.few
 have len:=T.len
 refine ⟨_,rfl,_,rfl,v1,m,"mine",b1,w1,rfl,T.p1.bx,T.f1.nd,by omega,T.hm,T.l1,fun D H1 hD s1 hk=>?_⟩
 have T1:=T.same s1
 refine ⟨_,rfl,D,rfl,.inr ⟨_,.inl hk⟩,_,rfl,_,rfl,v2,y,"yours",b2,w2,rfl,T1.p2.bx,T.f2.nd,by omega,T1.hy,T.l2,fun D2 H2 um s2 Ko=>?_⟩
 have k1:=gS "mine" b1 w1
 have k2:=gS "yours" b2 w2
 refine ⟨D2,_,_,rfl,s2 _ _ hk,Ko,ai hk um,?_,small (by omega),?_⟩
 · cases b1 with
   | nil=>refine .inr ?_; cases b2 with
     | nil=>rfl
     | cons b r=>simp at len
   | cons b r=>
     refine .inl ?_
     have l1:=T.l1
     cases w1 with
     | nil=>simp at l1
     | cons x xs=>intro z; cases z
 · rw [lu "yours" b2 w2 _ T.f2.nd (fun x _=>dw "mine" b1 w1 "yours" x (fun z=>absurd z (by decide)))]
   exact ⟨_,rfl,q D _ hD (aG (aa s1 s2) hD) ae⟩
theorem DM (s:Src K mg "known_between" Fh)(KW:aX P w K mg base "known_worths" ["program","worths","side"] 1 dn):aX P w K mg base "known_between" ["one","other","mine","yours"] 2 xo:=
 let ⟨f,fd,F,m⟩:=s
 ⟨f,fd,IH F KW,F.kp,Ds F fun _ _ _ _ _ _ _ _ _ _=>rfl,m⟩
def zw (b1 b2:List (Str×Int))(t x:Str):Bool:=decide (Du b1 b2 t x)
theorem D5 {b1 b2:List (Str×Int)}{w1 w2:List Int}(l1:b1.length=w1.length)(l2:b2.length=w2.length)(t x:Str):df (v7 b1 w1 b2 w2) t x=zw b1 b2 t x:=by
 unfold df zw
 by_cases h:Du b1 b2 t x
 · rw [zR l1 l2 t x h,decide_eq_true h]
   rfl
 · rw [decide_eq_false h]
   unfold v7
   rw [kj,dw "mine" b1 w1 t x (fun e z=>h (.inl ⟨e,z⟩))]
   show (bE (bS "yours" b2 w2) [.inr t,.inr x]).isSome=false
   rw [dw "yours" b2 w2 t x (fun e z=>h (.inr ⟨e,z⟩))]
   rfl
theorem jC {f g:Str->Str->Bool}(h:∀t x,f t x=g t x):∀{e:E},e.aQ f=e.aQ g
 | .num _=>rfl
 | .box t x=>h t x
 | .yes=>rfl
 | .nt a=>jC h (e:=a)
 | .two _ a b=>by
   show (a.aQ f && b.aQ f)=(a.aQ g && b.aQ g)
   rw [jC h (e:=a),jC h (e:=b)]
theorem eA {b1 b2:List (Str×Int)}:∀{e:E},e.okIn jc->e.aQ (zw b1 b2)=true->e.okIn (Du b1 b2)
 | .num _,ok,_=>ok
 | .box t x,_,h=>(show Du b1 b2 t x from of_decide_eq_true h)
 | .yes,_,_=>aaF
 | .nt a,ok,h=>eA (e:=a) ok h
 | .two _ a b,ok,h=>by
   have h':(a.aQ (zw b1 b2) && b.aQ (zw b1 b2))=true:=h
   rw [aaZ] at h'
   exact ⟨eA (e:=a) ok.1 h'.1,eA (e:=b) ok.2 h'.2⟩
structure xy (n:Nat)(H:Hp)(v1 v2:V)(m y:Addr)(tv:V)(b1 b2:List (Str×Int))(i1 i2:List Str)(n1 n2:List Nd)(w1 w2:List Int)(e:E):Prop where
 pr:KU H v1 v2 b1 b2 i1 i2 n1 n2
 a1:qI H v1 m b1 w1
 a2:qI H v2 y b2 w2
 ev:cF H tv e
 ok:e.okIn jc
 hd:e.dep < n
 len:cQ b1 b2 i1 i2->b1.length=b2.length
 few:b1.length<=100
theorem xy.same {n:Nat}{H H':Hp}{v1 v2:V}{m y:Addr}{tv:V}{b1 b2:List (Str×Int)}{i1 i2:List Str}{n1 n2:List Nd}{w1 w2:List Int}{e:E}(h:xy n H v1 v2 m y tv b1 b2 i1 i2 n1 n2 w1 w2 e)(s:ah H H'):xy n H' v1 v2 m y tv b1 b2 i1 i2 n1 n2 w1 w2 e:=⟨h.pr.same s,h.a1.same s,h.a2.same s,h.ev.same s,h.ok,h.hd,h.len,h.few⟩
def Df (cN cW cP:Addr)(b1 b2:List (Str×Int))(i1 i2:List Str)(w1 w2:List Int)(e:E)(k:Addr):Prop:=
 (¬ cQ b1 b2 i1 i2/\k=cN)\/(cQ b1 b2 i1 i2/\¬ (GoodW b1 w1/\GoodW b2 w2)/\k=cW)\/(cQ b1 b2 i1 i2/\GoodW b1 w1/\GoodW b2 w2/\e.aQ (zw b1 b2)=false/\k=cP)
def De (b1 b2:List (Str×Int))(i1 i2:List Str)(w1 w2:List Int)(e:E):Prop:=cQ b1 b2 i1 i2/\GoodW b1 w1/\GoodW b2 w2/\e.aQ (zw b1 b2)=true
def pD (cN cW cP:Addr)(n:Nat):Sp:=fun vs H Q X=>∃(v1 v2:V) (m y:Addr) (tv:V) (b1 b2:List (Str×Int)) (i1 i2:List Str) (n1 n2:List Nd) (w1 w2:List Int) (e:E),vs=[v1,v2,.ref m,.ref y,tv]/\xy n H v1 v2 m y tv b1 b2 i1 i2 n1 n2 w1 w2 e /\
 (De b1 b2 i1 i2 w1 w2 e->∀D H',H D=none->ah H H'->Dj H' D (Du b1 b2) (OX b1 w1 b2 w2)->Q (.ref D) H')/\(∀k,Df cN cW cP b1 b2 i1 i2 w1 w2 e k->∀H',ah H H'->X (.ref k) none H')
theorem Gy:aD ["one","other","mine","yours","told","known"] ["one","other","mine","yours","told"] (ag vD):=⟨rfl,rfl,rfl,by decide +kernel,rfl,by decide +kernel,by decide +kernel⟩
theorem iK:aY vD "known_between":=by decide +kernel
theorem cZ:aY vD "refuse_box_worths":=by decide +kernel
theorem ig:aY vD "refuse_no_pair":=by decide +kernel
theorem ij:aY vD "refuse_unknown":=by decide +kernel
theorem IG {n:Nat}{cN cW cP:Addr}{f:Addr}{fd:aao}(F:cJ K "known_for_both" "known_for_both" vD f fd)(NP:bR P w K mg base "refuse_no_pair" ["one","other"] 2 (dX cN))(RB:bR P w K mg base "refuse_box_worths" ["program","worths"] 2 (jZ cW))(KB:aX P w K mg base "known_between" ["one","other","mine","yours"] 2 xo)
   (U:bR P w K mg base "refuse_unknown" ["known","told"] (n + 2) (gZ cP n)):aP P w K mg base (lC P w base) (n + 3) f fd ["one","other","mine","yours","told"] (pD cN cW cP n):=by
 refine F.C6 Gy (fun vs H Q E h=>?_) (fun cdv A outer s H vs Q E hr h=>?_)
 · obtain ⟨v1,v2,m,y,tv,b1,b2,i1,i2,n1,n2,w1,w2,e,rfl,_⟩:=h
   rfl
 · obtain ⟨v1,v2,m,y,tv,b1,b2,i1,i2,n1,n2,w1,w2,e,rfl,T,q,qx⟩:=h
   have Vf:=NP.mono (show 2<=n + 2 by omega)
   have Su:=RB.mono (show 2<=n + 2 by omega)
   have Vc:=KB.mono (show 2<=n + 2 by omega)
   refine kI ⟨_,(ael (aeI (aeT fL Vf hr ig (aeh (aei 0) (aeh (aei 1) aej))))
     (ael (aeI (aeT fL Su hr cZ (aeh (aei 0) (aeh (aei 2) aej))))
     (ael (aeI (aeT fL Su hr cZ (aeh (aei 1) (aeh (aei 3) aej))))
     (ael (aev 5 Gy.nd (aet Vc hr iK (aeh (aei 0) (aeh (aei 1) (aeh (aei 2) (aeh (aei 3) aej))))))
     (ael (aeI (aeT fL U hr ij (aeh (aei 5) (aeh (aei 4) aej))))
     (aeo (aeq (aei 5)))))))),?_⟩
   refine ⟨_,rfl,_,rfl,v1,v2,b1,b2,i1,i2,n1,n2,rfl,T.pr,fun gp H1 s1=>?_,fun gp H1 s1=>qx _ (.inl ⟨gp,rfl⟩) _ s1⟩
   have T1:=T.same s1
   refine ⟨_,rfl,_,rfl,v1,m,b1,w1,rfl,T1.a1,fun g1 H2 s2=>?_,fun g1 H2 s2=>qx _ (.inr (.inl ⟨gp,fun z=>g1 z.1,rfl⟩)) _ (aa s1 s2)⟩
   have T2:=T1.same s2
   refine ⟨_,rfl,_,rfl,v2,y,b2,w2,rfl,T2.a2,fun g2 H3 s3=>?_,fun g2 H3 s3=>qx _ (.inr (.inl ⟨gp,fun z=>g2 z.2,rfl⟩)) _ (aa s1 (aa s2 s3))⟩
   have T3:=T2.same s3
   have i8:=aa s1 (aa s2 s3)
   obtain ⟨ei,es⟩:=id gp
   subst ei
   have tw:Dn H3 v1 v2 m y b1 b2 i1 n1 n2 w1 w2:=⟨T3.pr.p1,T3.pr.p2,T3.pr.f1,T3.pr.f2,es,T3.a1.wl,T3.a2.wl,g1,g2,T.len gp,T.few⟩
   refine ⟨_,rfl,_,rfl,_,rfl,_,rfl,v1,v2,m,y,b1,b2,i1,n1,n2,w1,w2,rfl,tw,fun D H4 hD s4 hk=>?_⟩
   have KA:=aa i8 s4
   have ke:e.aQ (df (v7 b1 w1 b2 w2))=e.aQ (zw b1 b2):=jC (D5 tw.l1 tw.l2)
   refine ⟨_,rfl,_,rfl,D,tv,e,_,rfl,hk,T.ev.same KA,T.ok,T.hd,fun c H5 s5=>?_,fun c H5 s5=>?_⟩
   · rw [ke] at c
     exact ⟨_,rfl,q ⟨gp,g1,g2,c⟩ D H5 (aq i8 hD) (aa KA s5) ⟨_,s5 _ _ hk,zR tw.l1 tw.l2⟩⟩
   · rw [ke] at c
     exact qx _ (.inr (.inr ⟨gp,g1,g2,c,rfl⟩)) _ (aa KA s5)
theorem DL {n:Nat}{cN cW cP:Addr}(s:Src K mg "known_for_both" vD)(NP:bR P w K mg base "refuse_no_pair" ["one","other"] 2 (dX cN))(RB:bR P w K mg base "refuse_box_worths" ["program","worths"] 2 (jZ cW))(KB:aX P w K mg base "known_between" ["one","other","mine","yours"] 2 xo)(U:bR P w K mg base "refuse_unknown" ["known","told"] (n + 2) (gZ cP n)):bR P w K mg base "known_for_both" ["one","other","mine","yours","told"] (n + 3) (pD cN cW cP n):=
 let ⟨f,fd,F,m⟩:=s
 ⟨f,fd,IG F NP RB KB U,F.kp,Dt F fun _ _ _ _ _ _ _ _ _ _ _=>rfl,m⟩
def gI (S:E->Prop)(cN cW cP:Addr)(n:Nat):Sp:=fun vs H Q X=>∃(v1 v2:V) (m y:Addr) (tv:V) (b1 b2:List (Str×Int)) (i1 i2:List Str) (n1 n2:List Nd) (w1 w2:List Int) (e:E),vs=[v1,v2,.ref m,.ref y,tv]/\xy n H v1 v2 m y tv b1 b2 i1 i2 n1 n2 w1 w2 e/\S e /\
 (De b1 b2 i1 i2 w1 w2 e->∀u H',ah H H'->Q u H')/\(∀k,Df cN cW cP b1 b2 i1 i2 w1 w2 e k->∀H',ah H H'->X (.ref k) none H')
abbrev sW:Stmt:=top 34
theorem JT:aD ["one","other","mine","yours","sum_told"] ["one","other","mine","yours","sum_told"] (ag sW):=⟨rfl,rfl,rfl,by decide +kernel,rfl,by decide +kernel,by decide +kernel⟩
theorem gh:aY sW "known_for_both":=by decide +kernel
theorem mY:aY sW "worth_by":=by decide +kernel
theorem EE {n:Nat}{cN cW cP:Addr}{f:Addr}{fd:aao}(F:cJ K "sum_between" "sum_between" sW f fd)(WB0:aX P w K mg base "worth_by" ["known","sum_told"] (n + 1) (cB n))(KF:bR P w K mg base "known_for_both" ["one","other","mine","yours","told"] (n + 3) (pD cN cW cP n)):aP P w K mg base (lC P w base) (n + 4) f fd ["one","other","mine","yours","sum_told"] (gI E.fS cN cW cP n):=by
 refine F.C6 JT (fun vs H Q E h=>?_) (fun cdv A outer s H vs Q E hr h=>?_)
 · obtain ⟨v1,v2,m,y,tv,b1,b2,i1,i2,n1,n2,w1,w2,e,rfl,_⟩:=h
   rfl
 · obtain ⟨v1,v2,m,y,tv,b1,b2,i1,i2,n1,n2,w1,w2,e,rfl,T,es,q,qx⟩:=h
   have WB:=WB0.mono (show n + 1<=n + 3 by omega)
   refine kI ⟨_,(aeo (aeq (aet WB hr mY (aeh (aeT fL KF hr gh (aeh (aei 0) (aeh (aei 1) (aeh (aei 2) (aeh (aei 3) (aeh (aei 4) aej)))))) (aeh (aei 4) aej))))),?_⟩
   refine ⟨_,rfl,_,rfl,_,rfl,_,rfl,_,rfl,v1,v2,m,y,tv,b1,b2,i1,i2,n1,n2,w1,w2,e,rfl,T,fun dq D H1 hD s1 kn=>?_,qx⟩
   exact ⟨_,rfl,D,tv,e,_,_,rfl,kn,qU b1 b2,T.ev.same s1,es,eA T.ok dq.2.2.2,T.hd,q dq _ _ s1⟩
theorem Ay {n:Nat}{cN cW cP:Addr}(s:Src K mg "sum_between" sW)(WB0:aX P w K mg base "worth_by" ["known","sum_told"] (n + 1) (cB n))(KF:bR P w K mg base "known_for_both" ["one","other","mine","yours","told"] (n + 3) (pD cN cW cP n)):bR P w K mg base "sum_between" ["one","other","mine","yours","sum_told"] (n + 4) (gI E.fS cN cW cP n):=
 let ⟨f,fd,F,m⟩:=s
 ⟨f,fd,EE F WB0 KF,F.kp,Dt F fun _ _ _ _ _ _ _ _ _ _ _=>rfl,m⟩
abbrev sR:Stmt:=top 35
theorem JS:aD ["one","other","mine","yours","condition"] ["one","other","mine","yours","condition"] (ag sR):=⟨rfl,rfl,rfl,by decide +kernel,rfl,by decide +kernel,by decide +kernel⟩
theorem mJ:aY sR "holds_by":=by decide +kernel
theorem f6:aY sR "known_for_both":=by decide +kernel
theorem Et {n:Nat}{cN cW cP:Addr}{f:Addr}{fd:aao}(F:cJ K "holds_between" "holds_between" sR f fd)(WB0:aX P w K mg base "holds_by" ["known","condition"] (n + 2) (dk n))(KF:bR P w K mg base "known_for_both" ["one","other","mine","yours","told"] (n + 3) (pD cN cW cP n)):aP P w K mg base (lC P w base) (n + 4) f fd ["one","other","mine","yours","condition"] (gI E.gR cN cW cP n):=by
 refine F.C6 JS (fun vs H Q E h=>?_) (fun cdv A outer s H vs Q E hr h=>?_)
 · obtain ⟨v1,v2,m,y,tv,b1,b2,i1,i2,n1,n2,w1,w2,e,rfl,_⟩:=h
   rfl
 · obtain ⟨v1,v2,m,y,tv,b1,b2,i1,i2,n1,n2,w1,w2,e,rfl,T,es,q,qx⟩:=h
   have WB:=WB0.mono (show n + 2<=n + 3 by omega)
   refine kI ⟨_,(aeo (aeq (aet WB hr mJ (aeh (aeT fL KF hr f6 (aeh (aei 0) (aeh (aei 1) (aeh (aei 2) (aeh (aei 3) (aeh (aei 4) aej)))))) (aeh (aei 4) aej))))),?_⟩
   refine ⟨_,rfl,_,rfl,_,rfl,_,rfl,_,rfl,v1,v2,m,y,tv,b1,b2,i1,i2,n1,n2,w1,w2,e,rfl,T,fun dq D H1 hD s1 kn=>?_,qx⟩
   exact ⟨_,rfl,D,tv,e,_,_,rfl,kn,qU b1 b2,T.ev.same s1,es,eA T.ok dq.2.2.2,T.hd,q dq _ _ s1⟩
theorem Ap {n:Nat}{cN cW cP:Addr}(s:Src K mg "holds_between" sR)(WB0:aX P w K mg base "holds_by" ["known","condition"] (n + 2) (dk n))(KF:bR P w K mg base "known_for_both" ["one","other","mine","yours","told"] (n + 3) (pD cN cW cP n)):bR P w K mg base "holds_between" ["one","other","mine","yours","condition"] (n + 4) (gI E.gR cN cW cP n):=
 let ⟨f,fd,F,m⟩:=s
 ⟨f,fd,Et F WB0 KF,F.kp,Dt F fun _ _ _ _ _ _ _ _ _ _ _=>rfl,m⟩
structure KL (H:Hp)(v:V)(ia:Addr)(bs:List (Str×Int))(ins:List Str)(nds:List Nd)(iw:List Int):Prop where
 pa:bD H v bs ins nds
 ft:Fits bs ins
 hw:H ia=some (.lst (iw.map V.int))
 b1:zH (ins.map (ck bs))
 b2:zH iw
 bad:¬ Paired Within (ins.map (ck bs)) iw
abbrev sQ:Stmt:=top 28
def qr (C:Addr):Sp:=fun vs H Q X=>∃(v:V) (ia:Addr) (bs:List (Str×Int)) (ins:List Str) (nds:List Nd) (iw:List Int),vs=[v,.ref ia]/\KL H v ia bs ins nds iw/\∀H',ah H H'->X (.ref C) none H'
theorem JQ:aD ["program","inputs","given"] ["program","inputs"] (ag sQ):=⟨rfl,rfl,rfl,by decide +kernel,rfl,by decide +kernel,by decide +kernel⟩
theorem jk:aY sQ "input_sizes":=by decide +kernel
theorem ic:aY sQ "refuse_worths":=by decide +kernel
theorem Ep {C:Addr}{f:Addr}{fd:aao}(F:cJ K "beginning_of" "beginning_of" sQ f fd)(RW:bR P w K mg base "refuse_worths" ["sizes","worths"] 1 (hG C))(IS:aX P w K mg base "input_sizes" ["program"] 1 fD):aP P w K mg base (lC P w base) 2 f fd ["program","inputs"] (qr C):=by
 refine F.C6 JQ (fun vs H Q E h=>?_) (fun cdv A outer s H vs Q E hr h=>?_)
 · obtain ⟨v,ia,bs,ins,nds,iw,rfl,_⟩:=h
   rfl
 · obtain ⟨v,ia,bs,ins,nds,iw,rfl,ak,q⟩:=h
   refine ⟨_,aeN (ael (aeI (aeT fL RW hr ic (aeh (aet IS hr jk (aeh (aei 0) aej)) (aeh (aei 1) aej)))) afi),?_⟩
   refine ⟨_,rfl,v,bs,ins,nds,rfl,ak.pa,ak.ft,fun l H1 hl s1 h1=>?_⟩
   exact ⟨_,rfl,l,ia,_,iw,rfl,h1,s1 _ _ ak.hw,ak.b1,ak.b2,fun g=>absurd g ak.bad,fun _ H' s'=>q _ (aa s1 s')⟩
theorem Am {C:Addr}(s:Src K mg "beginning_of" sQ)(RW:bR P w K mg base "refuse_worths" ["sizes","worths"] 1 (hG C))(IS:aX P w K mg base "input_sizes" ["program"] 1 fD):bR P w K mg base "beginning_of" ["program","inputs"] 2 (qr C):=
 let ⟨f,fd,F,m⟩:=s
 ⟨f,fd,Ep F RW IS,F.kp,d4 F fun _ _ _ _ _ _ _ _=>rfl,m⟩
abbrev Ce:Stmt:=top 29
def Cs (C:Addr):Sp:=fun vs H Q X=>∃(v:V) (ia:Addr) (bs:List (Str×Int)) (ins:List Str) (nds:List Nd) (iw:List Int),vs=[v,.ref ia]/\KL H v ia bs ins nds iw/\∀H',ah H H'->X (.ref C) none H'
theorem nK:aD ["program","inputs","place","worths","said","met","step","spoken","steps","ahead"] ["program","inputs"] (ag Ce):=⟨rfl,rfl,rfl,by decide +kernel,rfl,by decide +kernel,by decide +kernel⟩
theorem iU:aY Ce "beginning_of":=by decide +kernel
theorem EC {C:Addr}{f:Addr}{fd:aao}(F:cJ K "run_of" "run_of" Ce f fd)(BG:bR P w K mg base "beginning_of" ["program","inputs"] 2 (qr C)):aP P w K mg base (lC P w base) 3 f fd ["program","inputs"] (Cs C):=by
 refine F.C6 nK (fun vs H Q E h=>?_) (fun cdv A outer s H vs Q E hr h=>?_)
 · obtain ⟨v,ia,bs,ins,nds,iw,rfl,_⟩:=h
   rfl
 · obtain ⟨v,ia,bs,ins,nds,iw,rfl,ak,q⟩:=h
   refine ⟨_,aeN (ael (ae2 (aer (aeh aek (aeh (aeT fL BG hr iU (aeh (aei 0) (aeh (aei 1) aej))) (aeh (aeB aej) (aeh (L3.FJ (P:=P) (w:=w)) aej wM))))) (aeG 4 (aex (aes 2 nK.nd) (aex (aes 3 nK.nd) (aex (aes 4 nK.nd) (aex (aes 5 nK.nd) aeH)))))) afi),?_⟩
   exact ⟨_,rfl,_,rfl,v,ia,bs,ins,nds,iw,rfl,ak,fun H' s'=>q _ s'⟩
def vK (C:Addr):Sp:=fun vs H Q X=>GB vs H Q X\/Cs C vs H Q X
theorem Aw {C:Addr}(s:Src K mg "run_of" jb)(m_len:mg "len"=none)(m_tuple:mg "tuple"=none)(BG:aX P w K mg base "beginning_of" ["program","inputs"] 30 mf)(SA:aX P w K mg base "step_at" ["program","place","worths"] 30 qv)(BX:bR P w K mg base "beginning_of" ["program","inputs"] 2 (qr C)):bR P w K mg base "run_of" ["program","inputs"] 31 (vK C):=
 let ⟨f,fd,F,m⟩:=s
 ⟨f,fd,aP.or (aP.Za (BC F m_len m_tuple BG SA)) ((EC F BX).mono (by decide)),F.kp,d4 F fun _ _ _ _ _ _ _ _=>rfl,m⟩
structure zG (H:Hp)(v1 v2:V)(ia:Addr)(b1 b2:List (Str×Int))(i1 i2:List Str)(n1 n2:List Nd)(iw:List Int):Prop where
 g1:Kg H v1 b1 i1 n1
 g2:Kg H v2 b2 i2 n2
 hi:H ia=some (.lst (iw.map V.int))
 bi:zH iw
 bs:zH (i1.map (ck b1))
 few1:n1.length * oi b1<=100000
 few2:n2.length * oi b2<=100000
theorem zG.same {H H':Hp}{v1 v2:V}{ia:Addr}{b1 b2:List (Str×Int)}{i1 i2:List Str}{n1 n2:List Nd}{iw:List Int}(h:zG H v1 v2 ia b1 b2 i1 i2 n1 n2 iw)(s:ah H H'):zG H' v1 v2 ia b1 b2 i1 i2 n1 n2 iw:=⟨h.g1.same s,h.g2.same s,s _ _ h.hi,h.bi,h.bs,h.few1,h.few2⟩
abbrev oK (b1:List (Str×Int))(i1:List Str)(iw:List Int):Prop:=Paired Within (i1.map (ck b1)) iw
def mh (cN cW:Addr):Sp:=fun vs H Q X=>∃(v1 v2:V) (ia:Addr) (b1 b2:List (Str×Int)) (i1 i2:List Str) (n1 n2:List Nd) (iw:List Int),vs=[v1,v2,.ref ia]/\zG H v1 v2 ia b1 b2 i1 i2 n1 n2 iw /\
 (cQ b1 b2 i1 i2->oK b1 i1 iw->∀u H',ah H H'->Q u H')/\(cQ b1 b2 i1 i2->¬ oK b1 i1 iw->∀H',ah H H'->X (.ref cW) none H')/\(¬ cQ b1 b2 i1 i2->∀H',ah H H'->X (.ref cN) none H')
abbrev gX:Stmt:=top 36
theorem Ck:aD ["one","other","inputs"] ["one","other","inputs"] (ag gX):=⟨rfl,rfl,rfl,by decide +kernel,rfl,by decide +kernel,by decide +kernel⟩
theorem fi:aY gX "refuse_no_pair":=by decide +kernel
theorem f9:aY gX "run_of":=by decide +kernel
theorem iN:aY gX "said_alike":=by decide +kernel
theorem yS {cN cW:Addr}{f:Addr}{fd:aao}(F:cJ K "runs_part" "runs_part" gX f fd)(NP0:bR P w K mg base "refuse_no_pair" ["one","other"] 2 (dX cN))(SA0:aX P w K mg base "said_alike" ["run","another"] 2 kf)(RO:bR P w K mg base "run_of" ["program","inputs"] 31 (vK cW)):aP P w K mg base (lC P w base) 32 f fd ["one","other","inputs"] (mh cN cW):=by
 refine F.C6 Ck (fun vs H Q E h=>?_) (fun cdv A outer s H vs Q E hr h=>?_)
 · obtain ⟨v1,v2,ia,b1,b2,i1,i2,n1,n2,iw,rfl,_⟩:=h
   rfl
 · obtain ⟨v1,v2,ia,b1,b2,i1,i2,n1,n2,iw,rfl,pre,q,qw,qn⟩:=h
   have NP:=NP0.mono (show 2<=31 by decide)
   have SA:=SA0.mono (show 2<=31 by decide)
   refine kI ⟨_,(ael (aeI (aeT fL NP hr fi (aeh (aei 0) (aeh (aei 1) aej))))
     (aeo (aeq (aeS L3.Br (aet SA hr iN (aeh (aeT fL RO hr f9 (aeh (aei 0) (aeh (aei 2) aej))) (aeh (aeT fL RO hr f9 (aeh (aei 1) (aeh (aei 2) aej))) aej))) ae6)))),?_⟩
   refine ⟨_,rfl,_,rfl,v1,v2,b1,b2,i1,i2,n1,n2,rfl,⟨pre.g1.pa,pre.g2.pa,pre.g1.ft,pre.g2.ft⟩,fun gp H1 s1=>?_,fun gp H1 s1=>qn gp _ s1⟩
   have BU:=pre.same s1
   by_cases gi:oK b1 i1 iw
   · obtain ⟨ei,es⟩:=id gp
     subst ei
     refine ⟨_,rfl,_,rfl,.inl ⟨v1,ia,b1,i1,n1,iw,rfl,BU.g1,BU.hi,gi,pre.few1,fun r sa ro n sd rd H2 s2 _ hr1 _ rT TN few rt=>?_⟩⟩
     have ME:=BU.same s2
     refine ⟨_,rfl,_,rfl,.inl ⟨v2,ia,b2,i1,n2,iw,rfl,ME.g2,ME.hi,(by rw [← es]; exact gi),pre.few2,fun r' M3 Oo n' sd' rd' H3 s3 _ m6 _ D1 Qw Lf Z0=>?_⟩⟩
     have YM:ir H3 (.ref r) sd rd:=⟨⟨r,sa,ro,_,rfl,s3 _ _ hr1,s3 _ _ rT,TN.ro.same s3⟩,few⟩
     have YN:ir H3 (.ref r') sd' rd':=⟨⟨r',M3,Oo,_,rfl,m6,D1,Qw.ro⟩,Lf⟩
     refine ⟨.ref r,.ref r',sd,rd,sd',rd',rfl,YM,YN,fun u H4 s4 hu=>⟨rfl,?_⟩⟩
     exact q gp gi _ H4 (aa s1 (aa s2 (aa s3 s4)))
   · exact ⟨_,rfl,_,rfl,.inr ⟨v1,ia,b1,i1,n1,iw,rfl,⟨BU.g1.pa,pre.g1.ft,BU.hi,pre.bs,pre.bi,gi⟩,fun H2 s2=>qw gp gi _ (aa s1 s2)⟩⟩
theorem uv {cN cW:Addr}(s:Src K mg "runs_part" gX)(NP0:bR P w K mg base "refuse_no_pair" ["one","other"] 2 (dX cN))(SA0:aX P w K mg base "said_alike" ["run","another"] 2 kf)(RO:bR P w K mg base "run_of" ["program","inputs"] 31 (vK cW)):bR P w K mg base "runs_part" ["one","other","inputs"] 32 (mh cN cW):=
 let ⟨f,fd,F,m⟩:=s
 ⟨f,fd,yS F NP0 SA0 RO,F.kp,tW F fun _ _ _ _ _ _ _ _ _=>rfl,m⟩
abbrev cD:Stmt:=top 53
abbrev i9:Stmt:=top 54
abbrev gW:Stmt:=top 55
def kb:Nat->List Bool
 | 0=>[true,false,false,true,false]
 | 1=>[false,true,false,true,false]
 | 2=>[false,false,true,true,false]
 | _=>[]
def NC (cN cW cP:Addr)(k:Nat)(C:Addr):Prop:=(k=0/\C=cN)\/(k=1/\C=cW)\/(k=2/\C=cP)
def gY (cN cW cP:Addr):Sp:=fun vs H Q _=>∃(ea C:Addr) (k:Nat),vs=[.ref ea]/\H ea=some (zy ea C)/\NC cN cW cP k C/\∀(l:Addr) (H':Hp),H l=none->ah H H'->H' l=some (.lst ((kb k).map V.bl))->Q (.ref l) H'
theorem xk:aD ["e","told"] ["e"] (ag cD):=⟨rfl,rfl,rfl,by decide +kernel,rfl,by decide +kernel,by decide +kernel⟩
theorem bI:aY cD "isinstance":=by decide +kernel
theorem jl:aY cD "ValueError":=by decide +kernel
theorem oz:aY cD "NoPair":=by decide +kernel
theorem lI:aY cD "NoWorths":=by decide +kernel
theorem kC:aY cD "NoProgram":=by decide +kernel
theorem lH:aY cD "NoChange":=by decide +kernel
theorem ow:aY cD "NoForm":=by decide +kernel
theorem oy:aY cD "NoNode":=by decide +kernel
theorem mK:aY cD "NoPaper":=by decide +kernel
theorem mL:aY cD "NoPicks":=by decide +kernel
theorem pV:aY cD "NoRow":=by decide +kernel
theorem mM:aY cD "NoneYet":=by decide +kernel
theorem mO:aY cD "TooMany":=by decide +kernel
theorem By {T aH aA az aN bf bg aR aS bA aT aU:Addr}{f:Addr}{fd:aao}(F:cJ K "_law_kinds" "_law_kinds" cD f fd)(R:FC K mg T aH aA az aN bf bg aR aS bA aT aU)(m_isinstance:mg "isinstance"=none)(m_ValueError:mg "ValueError"=none):mw P w K mg base 1 f fd ["e"] (gY aH aA az):=by
 refine F.YA xk (fun vs H Q E h=>?_) (fun cdv A outer s H vs Q E hr h=>?_)
 · obtain ⟨ea,C,k,rfl,_⟩:=h
   rfl
 · obtain ⟨ea,C,k,rfl,he,hk,q⟩:=h
   obtain ⟨kk,i1,i2,i3,iv,io,ek⟩ : G2 K C/\aaH K (.ref C) (.ref aH)=some (decide (k=0))/\aaH K (.ref C) (.ref aA)=some (decide (k=1))/\aaH K (.ref C) (.ref az)=some (decide (k=2))/\aaH K (.ref C) (.type "ValueError")=some true/\acg K (.ref C) [.ref aN,.ref bf,.ref bg,.ref aR,.ref aS,.ref bA,.ref aT,.ref aU]=some false/\kb k=[decide (k=0),decide (k=1),decide (k=2),true,false]:=by
     rcases hk with ⟨rfl,rfl⟩ | ⟨rfl,rfl⟩ | ⟨rfl,rfl⟩
     · exact ⟨R.k_NoPair,R.i_NoPair_NoPair,R.i_NoPair_NoWorths,R.i_NoPair_NoProgram,R.v_NoPair,R.o_NoPair,rfl⟩
     · exact ⟨R.k_NoWorths,R.i_NoWorths_NoPair,R.i_NoWorths_NoWorths,R.i_NoWorths_NoProgram,R.v_NoWorths,R.o_NoWorths,rfl⟩
     · exact ⟨R.k_NoProgram,R.i_NoProgram_NoPair,R.i_NoProgram_NoWorths,R.i_NoProgram_NoProgram,R.v_NoProgram,R.o_NoProgram,rfl⟩
   refine kI ⟨_,(ael (aev 1 xk.nd (aeB (aeh (aeD L3.qV bI m_isinstance (by decide +kernel) (aeh (aei 0) (aeh (aeW (w:=.ref aH) oz R.x_NoPair.m rfl) aej))) (aeh (aeD L3.qV bI m_isinstance (by decide +kernel) (aeh (aei 0) (aeh (aeW (w:=.ref aA) lI R.x_NoWorths.m rfl) aej))) (aeh (aeD L3.qV bI m_isinstance (by decide +kernel) (aeh (aei 0) (aeh (aeW (w:=.ref az) kC R.x_NoProgram.m rfl) aej))) (aeh (aeD L3.qV bI m_isinstance (by decide +kernel) (aeh (aei 0) (aeh (L3.G8 (w:=.ty "ValueError") jl m_ValueError (by decide +kernel) rfl) aej))) aej))))))
     (aeo (aeq (aen aeV (aei 1) (aeB (aeh (aeD L3.qV bI m_isinstance (by decide +kernel) (aeh (aei 0) (aeh (aer (aeh (aeW (w:=.ref aN) lH R.m_NoChange rfl) (aeh (aeW (w:=.ref bf) ow R.m_NoForm rfl) (aeh (aeW (w:=.ref bg) oy R.m_NoNode rfl) (aeh (aeW (w:=.ref aR) mK R.m_NoPaper rfl) (aeh (aeW (w:=.ref aS) mL R.m_NoPicks rfl) (aeh (aeW (w:=.ref bA) pV R.m_NoRow rfl) (aeh (aeW (w:=.ref aT) mM R.m_NoneYet rfl) (aeh (aeW (w:=.ref aU) mO R.m_TooMany rfl) aej))))))))) aej))) aej)))))),?_⟩
   refine ⟨_,rfl,ea,C,_,he,kk,.inl ⟨_,rfl,i1⟩,_,rfl,ea,C,_,he,kk,.inl ⟨_,rfl,i2⟩,_,rfl,ea,C,_,he,kk,.inl ⟨_,rfl,i3⟩,_,rfl,ea,C,_,he,kk,.inr (.inl ⟨_,rfl,iv⟩),agt,fun l0 AO=>?_⟩
   obtain ⟨H1,s1,g1,zz⟩:=aJ AO (.lst [.bl (decide (k=0)),.bl (decide (k=1)),.bl (decide (k=2)),.bl true])
   rw [zz]; clear zz
   refine ⟨_,rfl,_,rfl,agv,fun tp uL=>?_⟩
   obtain ⟨H2,s2,g2,zz⟩:=aJ uL (.tup [.ref aN,.ref bf,.ref bg,.ref aR,.ref aS,.ref bA,.ref aT,.ref aU])
   rw [zz]; clear zz
   refine ⟨ea,C,false,s2 _ _ (s1 _ _ he),kk,.inr (.inr ⟨tp,[aN,bf,bg,aR,aS,bA,aT,aU],rfl,g2,io⟩),agq,fun l1 hl1=>?_⟩
   obtain ⟨H3,s3,g3,zz⟩:=aJ hl1 (.lst [.bl false])
   rw [zz]; clear zz
   refine ⟨l0,l1,_,_,rfl,rfl,s3 _ _ (s2 _ _ g1),g3,(by show 4 + 1<=sizeLine; decide),fun p hp=>?_⟩
   have i8:=aa s1 (aa s2 s3)
   exact q p _ (aq i8 hp) (aa i8 (af hp _)) (by rw [ae,ek]; rfl)
theorem yh {T aH aA az aN bf bg aR aS bA aT aU:Addr}(s:Src K mg "_law_kinds" cD)(R:FC K mg T aH aA az aN bf bg aR aS bA aT aU)(m_isinstance:mg "isinstance"=none)(m_ValueError:mg "ValueError"=none):pL P w K mg base "_law_kinds" ["e"] 1 (gY aH aA az):=
 let ⟨f,fd,F,m⟩:=s
 ⟨f,fd,By F R m_isinstance m_ValueError,F.kp,qS F fun _ _ _ _ _ _ _=>rfl,m⟩
def zI (b1 b2:List (Str×Int))(i1 i2:List Str)(w1 w2:List Int)(e:E)(k:Nat):Prop:=
 (k=0/\¬ cQ b1 b2 i1 i2)\/(k=1/\cQ b1 b2 i1 i2/\¬ (GoodW b1 w1/\GoodW b2 w2))\/(k=2/\cQ b1 b2 i1 i2/\GoodW b1 w1/\GoodW b2 w2/\e.aQ (zw b1 b2)=false)\/(k=3/\De b1 b2 i1 i2 w1 w2 e)
theorem Hn {cN cW cP:Addr}{b1 b2:List (Str×Int)}{i1 i2:List Str}{w1 w2:List Int}{e:E}{C:Addr}(h:Df cN cW cP b1 b2 i1 i2 w1 w2 e C):∃k,NC cN cW cP k C/\zI b1 b2 i1 i2 w1 w2 e k:=by
 rcases h with ⟨h,rfl⟩ | ⟨h1,h2,rfl⟩ | ⟨h1,h2,h3,h4,rfl⟩
 · exact ⟨0,.inl ⟨rfl,rfl⟩,.inl ⟨rfl,h⟩⟩
 · exact ⟨1,.inr (.inl ⟨rfl,rfl⟩),.inr (.inl ⟨rfl,h1,h2⟩)⟩
 · exact ⟨2,.inr (.inr ⟨rfl,rfl⟩),.inr (.inr (.inl ⟨rfl,h1,h2,h3,h4⟩))⟩
theorem Ge {T aH aA az aN bf bg aR aS bA aT aU:Addr}{k:Nat}{C:Addr}(R:FC K mg T aH aA az aN bf bg aR aS bA aT aU)(h:NC aH aA az k C):∃x,Xc K mg x C (.ref T :: vE):=by
 rcases h with ⟨_,rfl⟩ | ⟨_,rfl⟩ | ⟨_,rfl⟩
 · exact ⟨_,R.x_NoPair⟩
 · exact ⟨_,R.x_NoWorths⟩
 · exact ⟨_,R.x_NoProgram⟩
def qp:Sp:=fun vs H Q _=>∃(v1 v2:V) (m y:Addr) (tv:V) (b1 b2:List (Str×Int)) (i1 i2:List Str) (n1 n2:List Nd) (w1 w2:List Int) (e:E),vs=[v1,v2,.ref m,.ref y,tv]/\xy 20 H v1 v2 m y tv b1 b2 i1 i2 n1 n2 w1 w2 e/\(e.fS\/(e.gR/\e≠.yes)) /\
 ∀(k:Nat) (l:Addr) (H':Hp),zI b1 b2 i1 i2 w1 w2 e k->H l=none->ah H H'->H' l=some (.lst ((kb k).map V.bl))->Q (.ref l) H'
theorem md:aD ["one","other","mine","yours","thing","told","e"] ["one","other","mine","yours","thing"] (ag i9):=⟨rfl,rfl,rfl,by decide +kernel,rfl,by decide +kernel,by decide +kernel⟩
theorem ku:aY i9 "TwinError":=by decide +kernel
theorem ky:aY i9 "_law_kinds":=by decide +kernel
theorem fY:aY i9 "holds_between":=by decide +kernel
theorem iI:aY i9 "sum_between":=by decide +kernel
theorem Bs {T aH aA az aN bf bg aR aS bA aT aU:Addr}{f:Addr}{fd:aao}(F:cJ K "_law_asked" "_law_asked" i9 f fd)(R:FC K mg T aH aA az aN bf bg aR aS bA aT aU)(HB:bR P w K mg base "holds_between" ["one","other","mine","yours","condition"] 24 (gI E.gR aH aA az 20))(SB:bR P w K mg base "sum_between" ["one","other","mine","yours","sum_told"] 24 (gI E.fS aH aA az 20))(KN0:pL P w K mg base "_law_kinds" ["e"] 1 (gY aH aA az)):aP P w K mg base cO 25 f fd ["one","other","mine","yours","thing"] qp:=by
 have KN:=KN0.mono (show 1<=24 by decide)
 refine F.ok md (fun vs H Q E h=>?_) (fun cdv A outer s H vs Q E hr h=>?_)
 · obtain ⟨v1,v2,m,y,tv,b1,b2,i1,i2,n1,n2,w1,w2,e,rfl,_⟩:=h
   rfl
 obtain ⟨v1,v2,m,y,tv,b1,b2,i1,i2,n1,n2,w1,w2,e,rfl,T0,Ib,q⟩:=h
 refine kI ⟨_,(ael (aev 5 md.nd (aeB aej))
   (ael (L3.Nt 6 md.nd R.t ku (fun W pn Ex hp=>(aeo (aez (aey L3.IA (aem aew (aei 4) aek) (aer (aeh aep (aeh aep (aeh aep (aeh aep aej))))) (by rfl)) (aeo (aeI (aeT hp HB hr fY (aeh (aei 0) (aeh (aei 1) (aeh (aei 2) (aeh (aei 3) (aeh (aei 4) aej)))))))) (aeo (aeI (aeT hp SB hr iI (aeh (aei 0) (aeh (aei 1) (aeh (aei 2) (aeh (aei 3) (aeh (aei 4) aej))))))))))) (fun ea=>(aeo (aev 5 md.nd (L3.Mu KN (dt.h hr _) ky (aeh (aei 6) aej))))))
   (aeo (aeq (aei 5))))),?_⟩
 refine ⟨agp,fun l0 AO=>?_⟩
 obtain ⟨H1,s1,g1,zz⟩:=aJ AO (.lst [])
 rw [zz]; clear zz
 have T1:=T0.same s1
 have zX:∀(C:Addr),Df aH aA az b1 b2 i1 i2 w1 w2 e C->∀H4,ah H1 H4->∃k,NC aH aA az k C/\∀ea,H4 ea=none->∀(l:Addr) (H5:Hp),upd H4 ea (zy ea C) l=none->ah (upd H4 ea (zy ea C)) H5->H5 l=some (.lst ((kb k).map V.bl))->Q (.ref l) H5:=fun C hC H4 s4=>by
   obtain ⟨k,hk,hd⟩:=Hn hC
   refine ⟨k,hk,fun ea AH l H5 hl s5 g5=>?_⟩
   have Ca:ah H (upd H4 ea (zy ea C)):=aa s1 (aa s4 (af AH _))
   exact q k l H5 hd (aq Ca hl) (aa Ca s5) g5
 have done:De b1 b2 i1 i2 w1 w2 e->∀H4,ah H1 H4->Q (.ref l0) H4:=fun dq H4 s4=>q 3 l0 H4 (.inr (.inr (.inr ⟨rfl,dq⟩))) AO (aa s1 s4) (s4 _ _ g1)
 obtain ⟨p,x0,xs,rfl,hp,F9⟩ : ∃(p:Addr) (x0:Str) (xs:List V),tv=.ref p/\H1 p=some (.tup (.str x0 :: xs))/\((e.fS/\zC (.str x0) [.str "same",.str "under",.str "both",.str "not"]=false)\/(e.gR/\zC (.str x0) [.str "same",.str "under",.str "both",.str "not"]=true)):=by
   have ev:=T1.ev
   have ok:=T1.ok
   cases e with
   | num n=>
     obtain ⟨p,rfl,hp⟩:=ev
     exact ⟨p,_,_,rfl,hp,.inl ⟨aaF,by decide⟩⟩
   | yes=>exact Ib.elim (fun z=>absurd z (fun z=>z.elim)) (fun z=>absurd rfl z.2)
   | box t x=>
     obtain ⟨p,rfl,hp⟩:=ev
     have Kz:t="mine"\/t="yours":=ok
     exact ⟨p,_,_,rfl,hp,.inl ⟨aaF,by rcases Kz with rfl | rfl <;> decide⟩⟩
   | nt a=>
     obtain ⟨z,⟨p,rfl,hp⟩,_⟩:=ev
     exact ⟨p,_,_,rfl,hp,.inr ⟨Ib.elim (fun z=>absurd z (fun z=>z.elim)) (fun z=>z.1),by decide⟩⟩
   | two k a b=>
     obtain ⟨z1,z2,⟨p,rfl,hp⟩,_⟩:=ev
     refine ⟨p,_,_,rfl,hp,?_⟩
     cases k with
     | plus=>exact .inl ⟨Ib.elim id (fun z=>absurd z.1 (fun z=>z.elim)),by decide⟩
     | less=>exact .inl ⟨Ib.elim id (fun z=>absurd z.1 (fun z=>z.elim)),by decide⟩
     | same=>exact .inr ⟨Ib.elim (fun z=>absurd z (fun z=>z.elim)) (fun z=>z.1),by decide⟩
     | under=>exact .inr ⟨Ib.elim (fun z=>absurd z (fun z=>z.elim)) (fun z=>z.1),by decide⟩
     | both=>exact .inr ⟨Ib.elim (fun z=>absurd z (fun z=>z.elim)) (fun z=>z.1),by decide⟩
 refine ⟨_,rfl,p,_,_,_,rfl,rfl,aK.of hp,(show lU (.str x0 :: xs) ((0:Nat):Int)=some (.str x0) from gP rfl),agt,fun tp uL=>?_⟩
 obtain ⟨H2,s2,g2,zz⟩:=aJ uL (.tup [.str "same",.str "under",.str "both",.str "not"])
 rw [zz]; clear zz
 have T2:=T1.same s2
 refine ⟨tp,_,rfl,.inr (aK.of g2),rfl,rfl,_,rfl,?_⟩
 rcases F9 with ⟨es,hx⟩ | ⟨es,hx⟩
 · refine aF (fun c=>absurd c (by rw [hx]; decide)) (fun _=>?_)
   refine ⟨_,rfl,_,rfl,_,rfl,_,rfl,_,rfl,v1,v2,m,y,_,b1,b2,i1,i2,n1,n2,w1,w2,e,rfl,T2,es,fun dq u H3 s3=>?_,fun C hC H3 s3=>?_⟩
   · exact ⟨_,rfl,done dq _ (aa s2 s3)⟩
   · obtain ⟨k,hk,fin⟩:=zX C hC H3 (aa s2 s3)
     obtain ⟨x,hx⟩:=Ge R hk
     exact ⟨C,_,x,rfl,hx,(by simp),fun ea AH=>⟨_,rfl,ea,C,k,rfl,ae,hk,fun l H5 hl s5 g5=>⟨_,rfl,fin ea AH l H5 hl s5 g5⟩⟩⟩
 · refine aF (fun _=>?_) (fun c=>absurd hx c)
   refine ⟨_,rfl,_,rfl,_,rfl,_,rfl,_,rfl,v1,v2,m,y,_,b1,b2,i1,i2,n1,n2,w1,w2,e,rfl,T2,es,fun dq u H3 s3=>?_,fun C hC H3 s3=>?_⟩
   · exact ⟨_,rfl,done dq _ (aa s2 s3)⟩
   · obtain ⟨k,hk,fin⟩:=zX C hC H3 (aa s2 s3)
     obtain ⟨x,hx⟩:=Ge R hk
     exact ⟨C,_,x,rfl,hx,(by simp),fun ea AH=>⟨_,rfl,ea,C,k,rfl,ae,hk,fun l H5 hl s5 g5=>⟨_,rfl,fin ea AH l H5 hl s5 g5⟩⟩⟩
theorem yb {T aH aA az aN bf bg aR aS bA aT aU:Addr}(s:Src K mg "_law_asked" i9)(R:FC K mg T aH aA az aN bf bg aR aS bA aT aU)(HB:bR P w K mg base "holds_between" ["one","other","mine","yours","condition"] 24 (gI E.gR aH aA az 20))(SB:bR P w K mg base "sum_between" ["one","other","mine","yours","sum_told"] 24 (gI E.fS aH aA az 20))(KN0:pL P w K mg base "_law_kinds" ["e"] 1 (gY aH aA az)):aX P w K mg base "_law_asked" ["one","other","mine","yours","thing"] 25 qp:=
 let ⟨f,fd,F,m⟩:=s
 ⟨f,fd,Bs F R HB SB KN0,F.kp,Dt F fun _ _ _ _ _ _ _ _ _ _ _=>rfl,m⟩
def Fz (b1 b2:List (Str×Int))(i1 i2:List Str)(iw:List Int)(k:Nat):Prop:=
 (k=0/\¬ cQ b1 b2 i1 i2)\/(k=1/\cQ b1 b2 i1 i2/\¬ oK b1 i1 iw)\/(k=3/\cQ b1 b2 i1 i2/\oK b1 i1 iw)
def nP:Sp:=fun vs H Q _=>∃(v1 v2:V) (ia:Addr) (b1 b2:List (Str×Int)) (i1 i2:List Str) (n1 n2:List Nd) (iw:List Int),vs=[v1,v2,.ref ia]/\zG H v1 v2 ia b1 b2 i1 i2 n1 n2 iw /\
 ∀(k:Nat) (l:Addr) (H':Hp),Fz b1 b2 i1 i2 iw k->H l=none->ah H H'->H' l=some (.lst ((kb k).map V.bl))->Q (.ref l) H'
theorem jV:aD ["one","other","inputs","told","e"] ["one","other","inputs"] (ag gW):=⟨rfl,rfl,rfl,by decide +kernel,rfl,by decide +kernel,by decide +kernel⟩
theorem jq:aY gW "TwinError":=by decide +kernel
theorem jr:aY gW "_law_kinds":=by decide +kernel
theorem jt:aY gW "runs_part":=by decide +kernel
theorem yR {T aH aA az aN bf bg aR aS bA aT aU:Addr}{f:Addr}{fd:aao}(F:cJ K "_law_parted" "_law_parted" gW f fd)(R:FC K mg T aH aA az aN bf bg aR aS bA aT aU)(RP:bR P w K mg base "runs_part" ["one","other","inputs"] 32 (mh aH aA))(KN0:pL P w K mg base "_law_kinds" ["e"] 1 (gY aH aA az)):aP P w K mg base cO 33 f fd ["one","other","inputs"] nP:=by
 have KN:=KN0.mono (show 1<=32 by decide)
 refine F.ok jV (fun vs H Q E h=>?_) (fun cdv A outer s H vs Q E hr h=>?_)
 · obtain ⟨v1,v2,ia,b1,b2,i1,i2,n1,n2,iw,rfl,_⟩:=h
   rfl
 obtain ⟨v1,v2,ia,b1,b2,i1,i2,n1,n2,iw,rfl,T0,q⟩:=h
 refine kI ⟨_,(ael (aev 3 jV.nd (aeB aej))
   (ael (L3.Nt 4 jV.nd R.t jq (fun W pn Ex hp=>(aeo (aeI (aeT hp RP hr jt (aeh (aei 0) (aeh (aei 1) (aeh (aei 2) aej))))))) (fun ea=>(aeo (aev 3 jV.nd (L3.Mu KN (dt.h hr _) jr (aeh (aei 4) aej))))))
   (aeo (aeq (aei 3))))),?_⟩
 refine ⟨agp,fun l0 AO=>?_⟩
 obtain ⟨H1,s1,g1,zz⟩:=aJ AO (.lst [])
 rw [zz]; clear zz
 have T1:=T0.same s1
 refine ⟨_,rfl,_,rfl,_,rfl,v1,v2,ia,b1,b2,i1,i2,n1,n2,iw,rfl,T1,fun gp gi u H3 s3=>?_,fun gp gi H3 s3=>?_,fun gp H3 s3=>?_⟩
 · exact ⟨_,rfl,q 3 l0 _ (.inr (.inr ⟨rfl,gp,gi⟩)) AO (aa s1 s3) (s3 _ _ g1)⟩
 · refine ⟨_,_,_,rfl,R.x_NoWorths,(by simp),fun ea AH=>⟨_,rfl,ea,_,1,rfl,ae,.inr (.inl ⟨rfl,rfl⟩),fun l H5 hl s5 g5=>⟨_,rfl,?_⟩⟩⟩
   have Ca:=aa s1 (aa s3 (af AH (zy ea aA)))
   exact q 1 l H5 (.inr (.inl ⟨rfl,gp,gi⟩)) (aq Ca hl) (aa Ca s5) g5
 · refine ⟨_,_,_,rfl,R.x_NoPair,(by simp),fun ea AH=>⟨_,rfl,ea,_,0,rfl,ae,.inl ⟨rfl,rfl⟩,fun l H5 hl s5 g5=>⟨_,rfl,?_⟩⟩⟩
   have Ca:=aa s1 (aa s3 (af AH (zy ea aH)))
   exact q 0 l H5 (.inl ⟨rfl,gp⟩) (aq Ca hl) (aa Ca s5) g5
theorem uu {T aH aA az aN bf bg aR aS bA aT aU:Addr}(s:Src K mg "_law_parted" gW)(R:FC K mg T aH aA az aN bf bg aR aS bA aT aU)(RP:bR P w K mg base "runs_part" ["one","other","inputs"] 32 (mh aH aA))(KN0:pL P w K mg base "_law_kinds" ["e"] 1 (gY aH aA az)):aX P w K mg base "_law_parted" ["one","other","inputs"] 33 nP:=
 let ⟨f,fd,F,m⟩:=s
 ⟨f,fd,yR F R RP KN0,F.kp,tW F fun _ _ _ _ _ _ _ _ _=>rfl,m⟩
abbrev Fi:Stmt:=top 59
abbrev Cc:Stmt:=top 60
abbrev vB:Stmt:=top 58
abbrev JO:Stmt:=top 61
theorem M7:aD ["program"] ["program"] (ag Fi):=⟨rfl,rfl,rfl,by decide +kernel,rfl,by decide +kernel,by decide +kernel⟩
theorem IJ {f:Addr}{fd:aao}(F:cJ K "_law_sizes" "_law_sizes" Fi f fd):aP P w K mg base cO 1 f fd ["program"] dU:=by
 refine F.ok M7 (fun vs H Q E h=>?_) (fun cdv A outer s H vs Q E hr h=>?_)
 · obtain ⟨v,bs,rfl,_⟩:=h
   rfl
 obtain ⟨v,bs,rfl,⟨p,B,I,N,vb,rfl,hp,hB,pb⟩,HP,q⟩:=h
 refine ⟨_,aeN (aeo (aeq (aeP [none,none] ["name","size"] (show aE _ (ag Fi) from ⟨rfl,by decide +kernel,by decide +kernel,by decide +kernel⟩) (by rfl) (aeO (aem aew (aei 0) aek)) (fun _ _ _ _ _=>⟨(aeG 2 (aex (aes 0 (show (["name","size"]:List Str).Nodup from by decide +kernel)) (aex (aes 1 (show (["name","size"]:List Str).Nodup from by decide +kernel)) aeH))),aeJ,(aei 1)⟩)))),?_⟩
 have lg:vb.length=bs.length:=Paired.length pb
 refine ⟨_,rfl,p,_,_,_,rfl,rfl,aK.of hp,rfl,B,rfl,⟨_,ao.of hB⟩,fun na jx=>?_⟩
 have Iq:B≠na:=ai hB jx
 refine bj (xs:=vb) (fun i H2=>H2=upd H na (.lst ((bs.take i).map fun b=>V.int b.2))) rfl (fun i H2 _ e=>?_) (fun i x H2 hx e=>?_) (fun H2 e=>?_)
 · subst e
   exact ao.of (by rw [aj Iq]; exact hB)
 · subst e
   obtain ⟨b,fR,p,rfl,hp⟩:=Paired.get pb hx
   have dQ:i < vb.length:=(List.getElem?_eq_some_iff.mp hx).1
   refine ⟨p,_,rfl,aK.of (by rw [aj (ai hp jx)]; exact hp),rfl,_,_,rfl,_,_,rfl,rfl,?_⟩
   refine bV (A:=fun H3=>dg (CF 1) na _ H3 _) ⟨_,rfl,_,ae,aB (by rw [aab,aaw]; omega),aL (Pv:=fun i H2=>H2=upd H na (.lst ((bs.take i).map fun b=>V.int b.2))) (by repeat' constructor) dQ ?_⟩
   rw [bT]
   congr 2
   rw [aal,fR,aah]
   rfl
 · subst e
   have et:(bs.take vb.length).map (fun b=>V.int b.2)=(bs.map (·.2)).map V.int:=by rw [lg,aaA,abm]; rfl
   rw [et]
   exact q na jx
theorem DP (s:Src K mg "_law_sizes" Fi)  : aX P w K mg base "_law_sizes" ["program"] 1 dU:=
 let ⟨f,fd,F,m⟩:=s
 ⟨f,fd,IJ F ,F.kp,qS F fun _ _ _ _ _ _ _=>rfl,m⟩
def cL (bs:List (Str×Int))(ins:List Str):List (Str×Int):=ins.map fun x=>(x,ck bs x)
def xp:Sp:=fun vs H Q _=>∃(v:V) (bs:List (Str×Int)) (ins:List Str) (nds:List Nd),vs=[v]/\bD H v bs ins nds/\Fits bs ins/\∀(l:Addr) (vl:List V) (H':Hp),H l=none->ah H H'->H' l=some (.lst vl)->Paired (bG H') vl (cL bs ins)->Q (.ref l) H'
theorem GA:aD ["program","sizes"] ["program"] (ag Cc):=⟨rfl,rfl,rfl,by decide +kernel,rfl,by decide +kernel,by decide +kernel⟩
theorem xV:aY Cc "dict":=by decide +kernel
theorem II {f:Addr}{fd:aao}(F:cJ K "_law_input_sizes" "_law_input_sizes" Cc f fd)(m_dict:mg "dict"=none):aP P w K mg base cO 1 f fd ["program"] xp:=by
 refine F.ok GA (fun vs H Q E h=>?_) (fun cdv A outer s H vs Q E hr h=>?_)
 · obtain ⟨v,bs,ins,nds,rfl,_⟩:=h
   rfl
 obtain ⟨v,bs,ins,nds,rfl,pa,ft,q⟩:=h
 refine kI ⟨_,(ael (aev 1 GA.nd (aeK L3.zS xV m_dict (by decide +kernel) (aeh (aem aew (aei 0) aek) aej)))
   (aeo (aeq (aeP [none,some 1] ["name","sizes"] (show aE _ (ag Cc) from ⟨rfl,by decide +kernel,by decide +kernel,by decide +kernel⟩) (by rfl) (aeO (aem aew (aei 0) aek)) (fun _ _ _ _ _=>⟨(aes 0 (show (["name","sizes"]:List Str).Nodup from by decide +kernel)),aeJ,(aer (aeh (aei 0) (aeh (afd (bQ hr _ (by decide)) (aei 1) (aei 0)) aej)))⟩))))),?_⟩
 obtain ⟨p,B,I,N,vb,vn,rfl,hp,hB,hI,hN,pb,pn⟩:=pa
 have ilen:=ft.ilen
 refine ⟨_,rfl,p,_,_,_,rfl,rfl,aK.of hp,rfl,B,vb,yE bs,rfl,hB,nD pb,fun D hD=>?_⟩
 have s1:=af hD (.dK (putAll [] (yE bs)))
 have eD:(upd H D (.dK (putAll [] (yE bs)))) D=some (.dK (putAll [] (yE bs))):=ae
 generalize upd H D (.dK (putAll [] (yE bs)))=H2 at s1 eD ⊢
 have Hy:=s1 _ _ hI
 refine ⟨_,rfl,p,_,_,_,rfl,rfl,aK.of (s1 _ _ hp),rfl,I,rfl,⟨_,ao.of Hy⟩,fun l hl=>?_⟩
 refine bj (xs:=ins.map V.str) (fun i H3=>ah H2 H3/\∃vl,H3 l=some (.lst vl)/\Paired (bG H3) vl ((cL bs ins).take i)) ⟨af hl _,[],ae,.nil⟩ (fun i H3 _ z=>ao.of (z.1 _ _ Hy)) (fun i x0 H3 hx z=>?_) (fun H3 z=>?_)
 · obtain ⟨z,vl,kJ,pr⟩:=z
   have dQ:=(List.getElem?_eq_some_iff.mp hx).1
   obtain ⟨x,L4,rfl⟩:=dh hx
   have hv:=fC bs (bs.map (·.2)) [] x (by rw [aab]) ft.nd (ft.sub x (aan L4))
   have g:=fO.k (k:=.inr x) (z _ _ eD)
   rw [show bE (putAll [] (yE bs)) (.inr x)=some (.int (ck bs x)) from hv] at g
   have J7:vl.length<=900:=by rw [Paired.length pr,aaw]; unfold cL; rw [aab]; omega
   refine bo ?_
   refine bV (A:=fun H4=>dg _ l _ H4 _) ?_
   refine ⟨_,rfl,_,rfl,_,rfl,D,_,rfl,g,agr,fun tp uL=>?_⟩
   obtain ⟨H4,s4,g4,zz⟩:=aJ uL (.tup [.str x,.int (ck bs x)])
   rw [zz]; clear zz
   have DY:=s4 _ _ kJ
   have tk:=TK.lst DY (o:=.lst (vl++[.ref tp]))
   refine ⟨_,DY,aB (by omega),aL (Pv:=fun i H3=>ah H2 H3/\∃vl,H3 l=some (.lst vl)/\Paired (bG H3) vl ((cL bs ins).take i)) (by repeat' constructor) dQ ⟨aG (aa z s4) hl,_,ae,?_⟩⟩
   rw [aal,show (cL bs ins)[i]? = some (x,ck bs x) by unfold cL; rw [aaC,L4]; rfl]
   exact Paired.snoc (Paired.aZ pr fun _ _ z=>Tp.keep ((ah.tk s4).trans tk) z) (Tp.keep tk ⟨tp,rfl,g4⟩)
 · obtain ⟨z,vl,kJ,pr⟩:=z
   have et:(cL bs ins).take (ins.map V.str).length=cL bs ins:=by rw [aab,show ins.length=(cL bs ins).length by unfold cL; rw [aab],aaA]
   rw [et] at pr
   exact q l vl H3 (aq s1 hl) (aa s1 z) kJ pr
theorem DO (s:Src K mg "_law_input_sizes" Cc)(m_dict:mg "dict"=none):aX P w K mg base "_law_input_sizes" ["program"] 1 xp:=
 let ⟨f,fd,F,m⟩:=s
 ⟨f,fd,II F m_dict,F.kp,qS F fun _ _ _ _ _ _ _=>rfl,m⟩
def xl:Sp:=fun vs H Q _=>∃(wa sa:Addr) (ws szs:List Int),vs=[.ref wa,.ref sa]/\H wa=some (.lst (ws.map V.int))/\H sa=some (.lst (szs.map V.int))/\szs.length<=900/\∀(b:Bool) (H':Hp),(b=true↔Paired Within szs ws)->ah H H'->Q (.bl b) H'
def kX (ws szs:List Int)(k:Nat):Bool:=decide (0<=ws.getD k 0) && decide (ws.getD k 0 < szs.getD k 0)
theorem lp:∀{szs ws:List Int},szs.length=ws.length->(((aaM szs.length).map (kX ws szs)).all id=true↔Paired Within szs ws)
 | [],[],_=>⟨fun _=>.nil,fun _=>rfl⟩
 | s :: szs,w :: ws,h=>by
   have ih:=lp (szs:=szs) (ws:=ws) (by simpa using h)
   have e:((aaM (s :: szs).length).map (kX (w :: ws) (s :: szs))).all id=(kX (w :: ws) (s :: szs) 0 && ((aaM szs.length).map (kX ws szs)).all id):=by
     rw [aay,adT,aaI,ac4,abm]
     rfl
   rw [e,aaZ,ih]
   have e0:kX (w :: ws) (s :: szs) 0=true↔Within s w:=by
     show (decide (0<=w) && decide (w < s))=true↔_
     rw [aaZ,decide_eq_true_iff,decide_eq_true_iff]
     exact Iff.rfl
   rw [e0]
   exact ⟨fun z=>.cons z.1 z.2,fun z=>by cases z with | cons a b=>exact ⟨a,b⟩⟩
theorem M4:aD ["worths","sizes"] ["worths","sizes"] (ag vB):=⟨rfl,rfl,rfl,by decide +kernel,rfl,by decide +kernel,by decide +kernel⟩
theorem Ah:aY vB "all":=by decide +kernel
theorem mH:aY vB "len":=by decide +kernel
theorem uc:aY vB "range":=by decide +kernel
theorem ID {f:Addr}{fd:aao}(F:cJ K "_law_are" "_law_are" vB f fd)(m_len:mg "len"=none)(m_all:mg "all"=none)(m_range:mg "range"=none):aP P w K mg base cO 1 f fd ["worths","sizes"] xl:=by
 refine F.ok M4 (fun vs H Q E h=>?_) (fun cdv A outer s H vs Q E hr h=>?_)
 · obtain ⟨wa,sa,ws,szs,rfl,_⟩:=h
   rfl
 obtain ⟨wa,sa,ws,szs,rfl,hw,hs,h9,q⟩:=h
 refine kI ⟨_,(ael (aez (aey L3.yN (aeD aeF mH m_len aaq (aeh (aei 0) aej)) (aeD aeF mH m_len aaq (aeh (aei 1) aej))) (aeo (aeq aeL)) aeA)
   (aeo (aeq (aeD L3.FF Ah m_all (by decide +kernel) (aeh (aeP [none,some 0,some 1] ["k","worths","sizes"] (show aE _ (ag vB) from ⟨rfl,by decide +kernel,by decide +kernel,by decide +kernel⟩) (by rfl) (ae9 uc m_range (aeh (aeD aeF mH m_len aaq (aeh (aei 1) aej)) aej)) (fun _ _ _ _ _=>⟨(aes 0 (show (["k","worths","sizes"]:List Str).Nodup from by decide +kernel)),aeJ,(L3.Hi L3.Rc aeQ aek (aem aeu (aei 1) (aei 0)) (aem aeu (aei 2) (aei 0)))⟩)) aej))))),?_⟩
 refine ⟨_,rfl,wa,_,rfl,.inl (ao.of hw),_,rfl,sa,_,rfl,.inl (ao.of hs),rfl,_,rfl,?_⟩
 rw [aab,aab]
 refine aF (fun c=>?_) (fun c=>?_)
 · exact q false _ ⟨fun z=>(nomatch z),fun z=>absurd (Paired.length z) (fun e=>by rw [e,decide_eq_true rfl] at c; cases c)⟩ (same_refl _)
 have hl:szs.length=ws.length:=by
   by_cases z:szs.length=ws.length
   · exact z
   · exact absurd (by rw [decide_eq_false (fun y=>z (by injection y with y; omega))]; rfl) c
 refine ⟨_,rfl,sa,_,rfl,.inl (ao.of hs),_,rfl,by rw [aab]; omega,by rw [aab]; omega,fun l AO=>?_⟩
 rw [aab,aa5]
 refine d6 (lo:=0) (n:=szs.length) (fun i H2=>ah H H2/\H2 l=some (.lst (((aaM i).map (kX ws szs)).map V.bl))) ⟨af AO _,ae⟩ (fun i H2 hi z=>?_) (fun H2 z=>?_)
 · obtain ⟨z,hl2⟩:=z
   obtain ⟨w0,Kt⟩ : ∃w0,ws[i]? = some w0:=⟨_,aad (by omega)⟩
   obtain ⟨s0,Oc⟩ : ∃s0,szs[i]? = some s0:=⟨_,aad hi⟩
   have aw:lU (ws.map V.int) (0 + (i:Int))=some (.int w0):=by rw [adj]; exact gP (by rw [aaC,Kt]; rfl)
   have Vk:lU (szs.map V.int) (0 + (i:Int))=some (.int s0):=by rw [adj]; exact gP (by rw [aaC,Oc]; rfl)
   have ew:kX ws szs i=(decide (0<=w0) && decide (w0 < s0)):=by
     unfold kX
     rw [aaz,aaz,Kt,Oc]
     rfl
   have e1:((aaM (i + 1)).map (kX ws szs)).map V.bl=((aaM i).map (kX ws szs)).map V.bl++[.bl (kX ws szs i)]:=by rw [List.range_succ,aah,aah]; rfl
   refine bo ?_
   refine bV (A:=fun H4=>dg _ l _ H4 _) ?_
   refine ⟨_,rfl,_,rfl,wa,_,_,_,rfl,rfl,ao.of (z _ _ hw),aw,_,_,rfl,rfl,_,rfl,?_⟩
   refine aF (fun c=>?_) (fun c=>?_)
   · have c':(0:Int)<=w0:=of_decide_eq_true c
     refine ⟨_,rfl,_,rfl,sa,_,_,_,rfl,rfl,ao.of (z _ _ hs),Vk,_,_,rfl,rfl,_,hl2,aB (by rw [aab,aab,abH]; omega),aL (Pv:=(fun i H2=>ah H H2/\H2 l=some (.lst (((aaM i).map (kX ws szs)).map V.bl)))) (by repeat' constructor) hi ⟨aG z AO,?_⟩⟩
     rw [ae,e1,ew,decide_eq_true c',Bool.true_and]
   · have c':¬ (0:Int)<=w0:=fun y=>c (decide_eq_true y)
     refine ⟨_,hl2,aB (by rw [aab,aab,abH]; omega),aL (Pv:=(fun i H2=>ah H H2/\H2 l=some (.lst (((aaM i).map (kX ws szs)).map V.bl)))) (by repeat' constructor) hi ⟨aG z AO,?_⟩⟩
     rw [ae,e1,ew,decide_eq_false c',adH]
 · obtain ⟨z,hl2⟩:=z
   exact ⟨l,_,rfl,ao.of hl2,q _ _ (lp hl) z⟩
theorem DH (s:Src K mg "_law_are" vB)(m_len:mg "len"=none)(m_all:mg "all"=none)(m_range:mg "range"=none):aX P w K mg base "_law_are" ["worths","sizes"] 1 xl:=
 let ⟨f,fd,F,m⟩:=s
 ⟨f,fd,ID F m_len m_all m_range,F.kp,d4 F fun _ _ _ _ _ _ _ _=>rfl,m⟩
def ou (p f s b:Bool):Nat:=if p=false then 0 else if f=false\/s=false then 1 else if b=false then 2 else 3
def xn:Sp:=fun vs H Q _=>∃(p f s b:Bool),vs=[.bl p,.bl f,.bl s,.bl b]/\∀(l:Addr),H l=none->Q (.ref l) (upd H l (.lst ((kb (ou p f s b)).map V.bl)))
theorem M6:aD ["pair","first","second","boxes"] ["pair","first","second","boxes"] (ag JO):=⟨rfl,rfl,rfl,by decide +kernel,rfl,by decide +kernel,by decide +kernel⟩
theorem IF {f:Addr}{fd:aao}(F:cJ K "_law_due" "_law_due" JO f fd):aP P w K mg base cO 1 f fd ["pair","first","second","boxes"] xn:=by
 refine F.ok M6 (fun vs H Q E h=>?_) (fun cdv A outer s H vs Q E hr h=>?_)
 · obtain ⟨p,f1,s1,b,rfl,_⟩:=h
   rfl
 obtain ⟨p,f1,s1,b,rfl,q⟩:=h
 refine kI ⟨_,(ael (aez (L3.nt (ae3 (aei 0))) (aeo (aeq (aeB (aeh aeL (aeh aeL (aeh aeL (aeh aeL (aeh aeL aej)))))))) aeA)
   (ael (aez (aeZ (ae4 (L3.nt (ae3 (aei 1))) (ae5 (L3.nt (ae3 (aei 2)))))) (aeo (aeq (aeB (aeh aeL (aeh aeL (aeh aeL (aeh aeL (aeh aeL aej)))))))) aeA)
   (ael (aez (L3.nt (ae3 (aei 3))) (aeo (aeq (aeB (aeh aeL (aeh aeL (aeh aeL (aeh aeL (aeh aeL aej)))))))) aeA)
   (aeo (aeq (aeB aej)))))),?_⟩
 cases p with
 | false=>exact ⟨_,rfl,_,rfl,fT ⟨agu,fun l hl=>q l hl⟩⟩
 | true=>
   refine ⟨_,rfl,_,rfl,iY ?_⟩
   cases f1 with
   | false=>exact ⟨_,rfl,_,rfl,fT (fT ⟨agu,fun l hl=>q l hl⟩)⟩
   | true=>
     refine ⟨_,rfl,_,rfl,iY ?_⟩
     cases s1 with
     | false=>exact ⟨_,rfl,_,rfl,fT ⟨agu,fun l hl=>q l hl⟩⟩
     | true=>
       refine ⟨_,rfl,_,rfl,iY ?_⟩
       cases b with
       | false=>exact ⟨_,rfl,_,rfl,fT ⟨agu,fun l hl=>q l hl⟩⟩
       | true=>exact ⟨_,rfl,_,rfl,iY ⟨agp,fun l hl=>q l hl⟩⟩
theorem DK (s:Src K mg "_law_due" JO)  : aX P w K mg base "_law_due" ["pair","first","second","boxes"] 1 xn:=
 let ⟨f,fd,F,m⟩:=s
 ⟨f,fd,IF F ,F.kp,Ds F fun _ _ _ _ _ _ _ _ _ _=>rfl,m⟩
abbrev kP:Stmt:=top 57
theorem b8 {F:L2.St->Hp->Prop}{σ:L2.St}{H:Hp}(σ':L2.St)(e:σ=σ')(h:F σ' H):F σ H:=by subst e; exact h
structure Vi (H:Hp)(r sa:Addr)(row szs:List Int)(far:Int)(n:Nat):Prop where
 hr:H r=some (.lst (row.map V.int))
 R:Row (2 ^ 30) row n
 n3:3<=n
 hs:H sa=some (.lst (szs.map V.int))
 sl:szs.length<=100
 sz:∀z∈szs,1<=z/\z < 1000
 f0:0<=far
 f1:far < 100000000000000000000
def mj:Sp:=fun vs H Q _=>∃(r sa:Addr) (row szs:List Int) (far:Int) (n:Nat),vs=[.ref r,.ref sa,.int far]/\Vi H r sa row szs far n/\∀(l:Addr) (ws:List Int) (H':Hp),H l=none->ah H H'->H' l=some (.lst (ws.map V.int))->zH ws->Q (.ref l) H'
theorem Dr {z:Int}(h0 : -200000000000000000000<=z)(h1:z<=200000000000000000000):z.natAbs < 2 ^ 1900:=by
 have h:z.natAbs<=200000000000000000000:=by omega
 exact abV h (aat (show 200000000000000000000 < 2 ^ 100 by decide) (abM (by decide) (by decide)))
def Ke (z:Int):Prop:=-200000000000000000000<=z/\z<=200000000000000000000
theorem jg {ws:List Int}(hl:ws.length<=900)(h:∀z∈ws,Ke z):zH ws:=⟨hl,fun z hz=>Dr (h z hz).1 (h z hz).2⟩
theorem me:aD ["row","sizes","far","worths","at","bad"] ["row","sizes","far"] (ag kP):=⟨rfl,rfl,rfl,by decide +kernel,rfl,by decide +kernel,by decide +kernel⟩
theorem uk:aY kP "int":=by decide +kernel
theorem m3:aY kP "len":=by decide +kernel
theorem BF {f:Addr}{fd:aao}(F:cJ K "_law_wrong" "_law_wrong" kP f fd)(m_len:mg "len"=none)(m_int:mg "int"=none):aP P w K mg base cO 1 f fd ["row","sizes","far"] mj:=by
 refine F.ok me (fun vs H Q E h=>?_) (fun cdv A outer s H vs Q E hr h=>?_)
 · obtain ⟨r,sa,row,szs,far,n,rfl,_⟩:=h
   rfl
 obtain ⟨r,sa,row,szs,far,n,rfl,T,q⟩:=h
 have sl:=T.sl
 have f0:=T.f0
 have f1:=T.f1
 have n3:=T.n3
 obtain ⟨x0,a0,J8,KH⟩:=T.R.at (i:=0) (by decide) (by omega)
 obtain ⟨x1,a1,KI,KJ⟩:=T.R.at (i:=1) (by decide) (by omega)
 obtain ⟨x2,a2,OD,OE⟩:=T.R.at (i:=2) (by decide) (by omega)
 refine kI ⟨_,(ael (afa (i:=3) [none,some 0] ["size","row"] (show aE _ (ag kP) from ⟨rfl,by decide +kernel,by decide +kernel,by decide +kernel⟩) (by rfl) (aeO (aei 1)) (fun _ _ _ _ _=>⟨(aes 0 (show (["size","row"]:List Str).Nodup from by decide +kernel)),aeJ,(aen aeC (aen aeU (aem aeu (aei 1) aek) aek) (aei 0))⟩) me.nd)
   (ael (aev 4 me.nd (aen aeC (aem aeu (aei 0) aek) (aen aeM (aeD aeF m3 m_len aaq (aeh (aei 3) aej)) aek)))
   (ael (aev 5 me.nd (aem aeu (aen aeV (aeB (aeh (aen ae8 (L3.neg aek) (aei 2)) (aeh (aen aeM aek (aei 2)) (aeh (L3.neg aek) aej)))) (aen L3.wO (L3.Cp (aei 1) (aei 4) (aen aeM (aei 4) aek)) aek)) (aen aeC (aem aeu (aei 0) aek) (aen aeM aek (aen aeR aek (aeK afc uk m_int (by decide +kernel) (aeh (aeS aeQ (aei 4) (aeD aeF m3 m_len aaq (aeh (aei 1) aej))) aej)))))))
   (ael (aez (aey aeE (aen aeC (aem aeu (aei 0) aek) aek) aek) (aeo (aeq (aen aeV (aen aeV (afb (aei 3) (aei 4)) (aeB (aeh aek aej))) (ae0 (aei 3) (aei 4))))) aeA)
   (ael (aez (aey aeE (aen aeC (aem aeu (aei 0) aek) aek) aek) (aeo (aeq (aen aeV (afb (aei 3) (aei 4)) (ae0 (aei 3) (aen aeM (aei 4) aek))))) aeA)
   (ael (aez (aey aeE (aen aeC (aem aeu (aei 0) aek) aek) aek) (aeo (aeq (aen aeV (aen aeV (afb (aei 3) (aei 4)) (aeB (aeh (aei 5) aej))) (ae0 (aei 3) (aen aeM (aei 4) aek))))) aeA)
   (aeo (aeq (aei 3))))))))),?_⟩
 refine ⟨_,rfl,sa,rfl,⟨_,ao.of T.hs⟩,fun l hl=>?_⟩
 refine bj (xs:=szs.map V.int) (fun i H2=>ah H H2/\∃ws:List Int,H2 l=some (.lst (ws.map V.int))/\ws.length=i/\∀z∈ws,Ke z) ⟨af hl _,[],ae,rfl,fun z hz=>nomatch hz⟩ (fun i H2 _ z=>ao.of (z.1 _ _ T.hs)) (fun i x H2 hx z=>?_) (fun H2 z=>?_)
 · obtain ⟨z,ws,hl2,wl,wm⟩:=z
   have dQ:=(List.getElem?_eq_some_iff.mp hx).1
   obtain ⟨s0,Oc,rfl⟩:=dh hx
   have hz:=T.sz s0 (aan Oc)
   rw [aab] at dQ
   refine bo ?_
   refine bV (A:=fun H4=>dg _ l _ H4 _) ?_
   refine ⟨_,rfl,r,_,_,_,rfl,rfl,ao.of (z _ _ T.hr),a0,_,_,rfl,rfl,(by exact ⟨by decide,by decide⟩),_,rfl,_,_,rfl,rfl,(by show (0:Int) < s0; omega),_,hl2,aB (by rw [aab]; omega),aL (Pv:=fun i H2=>ah H H2/\∃ws:List Int,H2 l=some (.lst (ws.map V.int))/\ws.length=i/\∀z∈ws,Ke z) (by repeat' constructor) (by rw [aab]; exact dQ) ⟨aG z hl,ws++[x0 / 4 % s0],by rw [ae,aah]; rfl,by rw [aae,wl]; rfl,fun y hy=>?_⟩⟩
   rcases List.mem_append.mp hy with hy | hy
   · exact wm y hy
   · rw [List.mem_singleton.mp hy]
     have h1:=aav (x0 / 4) (show s0≠0 by omega)
     have h2:=aap (x0 / 4) (show 0 < s0 by omega)
     exact ⟨by omega,by omega⟩
 obtain ⟨s1,ws,hl2,wl,wm⟩:=z
 rw [aab] at wl
 refine ⟨_,rfl,r,_,_,_,rfl,rfl,ao.of (s1 _ _ T.hr),a1,_,rfl,l,_,rfl,.inl (ao.of hl2),_,_,rfl,rfl,_,_,rfl,rfl,(by rw [aab]; show (0:Int) < (ws.length:Int) + 1; omega),?_⟩
 rw [aab]
 obtain ⟨at_,n9⟩ : ∃at_,at_=x1 % ((ws.length:Int) + 1):=⟨_,rfl⟩
 have Sx:0<=at_:=by rw [n9]; exact aav _ (by omega)
 have tT:at_ < (ws.length:Int) + 1:=by rw [n9]; exact aap _ (by omega)
 refine bo ?_
 refine b8 [some (.ref r),some (.ref sa),some (.int far),some (.ref l),some (.int at_),none] (by subst n9; rfl) ?_
 clear n9
 obtain ⟨k,rfl⟩ : ∃k:Nat,at_=(k:Int):=⟨at_.toNat,by omega⟩
 refine ⟨_,rfl,_,rfl,_,_,rfl,rfl,_,rfl,_,_,rfl,rfl,_,rfl,ags,fun l1 hl1=>?_⟩
 obtain ⟨H3,s2,g2,zz⟩:=aJ hl1 (.lst [.int (-1 - far),.int (6 + far),.int (-1)])
 rw [zz]; clear zz
 refine ⟨_,rfl,_,rfl,_,rfl,_,rfl,_,_,rfl,rfl,_,rfl,sa,_,rfl,ao.of (s2 _ _ (s1 _ _ T.hs)),fun p2 cf=>?_⟩
 rw [bq]
 obtain ⟨H4,s3,g3,zz⟩:=aJ cf (.lst ((br szs (some (k:Int)) (some ((k:Int) + 1))).map V.int))
 rw [zz]; clear zz
 have cl:(br szs (some (k:Int)) (some ((k:Int) + 1))).length<=1:=by have:=q9 szs k (k + 1); rw [show (((k + 1:Nat):Int))=(k:Int) + 1 by omega] at this; omega
 refine ⟨p2,3,_,rfl,rfl,g3,(by decide),(by decide),aak (show _<=3 by rw [aab]; show _ * 3<=3; omega) (by decide),fun p3 lN=>?_⟩
 have ef:(aaD (3:Int).toNat ((br szs (some (k:Int)) (some ((k:Int) + 1))).map V.int)).flatten=((aaD 3 (br szs (some (k:Int)) (some ((k:Int) + 1)))).flatten).map V.int:=by
   show (aaD 3 _).flatten=_
   rw [List.map_flatten,List.map_replicate]
 rw [ef]
 have fl:((aaD 3 (br szs (some (k:Int)) (some ((k:Int) + 1)))).flatten).length=3 * (br szs (some (k:Int)) (some ((k:Int) + 1))).length:=L2.len_rep _ 3
 have fm:∀z∈(aaD 3 (br szs (some (k:Int)) (some ((k:Int) + 1)))).flatten,Ke z:=fun z hz=>by
   obtain ⟨xs,X1,hz⟩:=List.mem_flatten.mp hz
   rw [(List.mem_replicate.mp X1).2] at hz
   have:=T.sz z ((d7 _ _ _).subset hz)
   exact ⟨by omega,by omega⟩
 have Vt:(k:Int) < (szs.length:Int)->(br szs (some (k:Int)) (some ((k:Int) + 1))).length=1:=fun h=>by
   have e:=rg szs k (k + 1) (by omega) (by omega)
   rw [show (((k + 1:Nat):Int))=(k:Int) + 1 by omega] at e
   rw [e,aaw,abk]
   omega
 generalize (aaD 3 (br szs (some (k:Int)) (some ((k:Int) + 1)))).flatten=ex at fl fm ⊢
 obtain ⟨H5,s4,g4,zz⟩:=aJ lN (.lst (ex.map V.int))
 rw [zz]; clear zz
 refine ⟨l1,p3,_,_,rfl,rfl,s4 _ _ (s3 _ _ g2),g4,aak (show _<=6 by rw [aab,fl]; show 3 + _<=6; omega) (by decide),fun p4 tI=>?_⟩
 have ec:([.int (-1 - far),.int (6 + far),.int (-1)]:List V)++ex.map V.int=([-1 - far,6 + far,-1]++ex).map V.int:=by rw [aah]; rfl
 obtain ⟨H6,s5,g5,zz⟩:=aJ tI (.lst ([.int (-1 - far),.int (6 + far),.int (-1)]++ex.map V.int))
 rw [zz]; clear zz
 have s15:=aa s1 (aa s2 (aa s3 (aa s4 s5)))
 have bm:∀z∈([-1 - far,6 + far,-1]++ex:List Int),Ke z:=fun z hz=>by
   rcases List.mem_append.mp hz with hz | hz
   · rcases List.mem_cons.mp hz with rfl | hz
     · exact ⟨by omega,by omega⟩
     rcases List.mem_cons.mp hz with rfl | hz
     · exact ⟨by omega,by omega⟩
     rw [List.mem_singleton.mp hz]
     exact ⟨by decide,by decide⟩
   · exact fm z hz
 refine ⟨_,rfl,r,_,_,_,rfl,rfl,ao.of (s15 _ _ T.hr),a2,_,rfl,_,rfl,sa,_,rfl,.inl (ao.of (s15 _ _ T.hs)),_,_,rfl,rfl,.inr ⟨_,rfl,_,_,rfl,rfl,.inl ⟨by decide,by decide⟩,_,_,rfl,rfl,_,_,rfl,rfl,?_,?_⟩⟩
 · split <;> decide
 obtain ⟨ix,hix⟩ : ∃ix,ix=x2 % (3 + 3 * (if decide ((k:Int) < ((szs.map V.int).length:Int))=true then 1 else 0)):=⟨_,rfl⟩
 have QO:0<=ix/\ix < (([-1 - far,6 + far,-1]++ex:List Int).length:Int):=by
   rw [hix,aae,fl]
   rw [aab]
   by_cases c:(k:Int) < (szs.length:Int)
   · rw [decide_eq_true c,if_pos rfl,Vt c]
     exact ⟨aav _ (by decide),aap _ (by decide)⟩
   · rw [decide_eq_false c,if_neg (by decide)]
     have h1:=aav x2 (show (3:Int) + 3 * 0≠0 by decide)
     have h2:=aap x2 (show (0:Int) < 3 + 3 * 0 by decide)
     refine ⟨h1,?_⟩
     show _ < (((3:Nat) + _:Nat):Int)
     omega
 obtain ⟨bad,_,Pr,Pl⟩:=cG V.int ([-1 - far,6 + far,-1]++ex) (r:=ix) QO.1 QO.2
 refine ⟨p4,_,ix,_,rfl,(by subst hix; rfl),ao.of (by rw [g5,ec]),Pl,?_⟩
 have mb:=bm bad Pr
 clear hix QO
 refine bo ?_
 refine b8 [some (.ref r),some (.ref sa),some (.int far),some (.ref l),some (.int (k:Int)),some (.int bad)] rfl ?_
 have MX:ah H2 H6:=aa s2 (aa s3 (aa s4 s5))
 have yq:=MX _ _ hl2
 have Cb:ah H H6:=s15
 have cm:∀lo hi,∀z∈br ws lo hi,Ke z:=fun lo hi z hz=>wm z ((d7 _ _ _).subset hz)
 have cn:∀lo hi,(br ws lo hi).length<=100:=fun lo hi=>aak (rb _ _ _) (by omega)
 refine ⟨_,rfl,r,_,_,_,rfl,rfl,ao.of (s15 _ _ T.hr),a0,_,_,rfl,rfl,(by show (0:Int) < 4; decide),rfl,_,rfl,?_⟩
 refine aF (fun _=>?_) (fun _=>?_)
 · refine ⟨_,rfl,_,rfl,_,rfl,l,_,rfl,ao.of yq,fun p5 qG=>?_⟩
   rw [bq]
   obtain ⟨H7,s6,g6,zz⟩:=aJ qG (.lst ((br ws none (some (k:Int))).map V.int))
   rw [zz]; clear zz
   refine ⟨agq,fun p6 uH=>?_⟩
   obtain ⟨H8,s7,g7,zz⟩:=aJ uH (.lst [.int 0])
   rw [zz]; clear zz
   refine ⟨p5,p6,_,_,rfl,rfl,s7 _ _ g6,g7,aak (show _<=1000 by simp only [aae,aab,aay,aa7]; have:=cn none (some (k:Int)); have:=cn (some (k:Int)) none; have:=cn (some ((k:Int) + 1)) none; omega) (by decide),fun p7 Ia=>?_⟩
   obtain ⟨H9,s8,g8,zz⟩:=aJ Ia (.lst ((br ws none (some (k:Int))).map V.int++[.int 0]))
   rw [zz]; clear zz
   have s69:=aa s6 (aa s7 s8)
   refine ⟨_,rfl,_,rfl,_,rfl,l,_,rfl,ao.of (s69 _ _ yq),fun p8 LO=>?_⟩
   rw [bq]
   obtain ⟨GS,s9,g9,zz⟩:=aJ LO (.lst ((br ws (some ((k:Int))) none).map V.int))
   rw [zz]; clear zz
   refine ⟨p7,p8,_,_,rfl,rfl,s9 _ _ g8,g9,aak (show _<=1000 by simp only [aae,aab,aay,aa7]; have:=cn none (some (k:Int)); have:=cn (some (k:Int)) none; have:=cn (some ((k:Int) + 1)) none; omega) (by decide),fun p9 wB=>?_⟩
   have Gx:=aa Cb (aa s69 s9)
   refine q p9 ((br ws none (some (k:Int)))++[0]++(br ws (some ((k:Int))) none)) _ (aq Gx wB) (aa Gx (af wB _)) (by rw [ae,aah,aah]; rfl) (jg (by simp only [aae,aay,aa7]; have:=cn none (some (k:Int)); have:=cn (some ((k:Int))) none; omega) fun z hz=>?_)
   rcases List.mem_append.mp hz with hz | hz
   · rcases List.mem_append.mp hz with hz | hz
     · exact cm _ _ z hz
     · rw [List.mem_singleton.mp hz]
       exact ⟨by decide,by decide⟩
   · exact cm _ _ z hz
 refine ⟨_,rfl,r,_,_,_,rfl,rfl,ao.of (s15 _ _ T.hr),a0,_,_,rfl,rfl,(by show (0:Int) < 4; decide),rfl,_,rfl,?_⟩
 refine aF (fun _=>?_) (fun _=>?_)
 · refine ⟨_,rfl,_,rfl,_,rfl,l,_,rfl,ao.of yq,fun p5 qG=>?_⟩
   rw [bq]
   obtain ⟨H7,s6,g6,zz⟩:=aJ qG (.lst ((br ws none (some (k:Int))).map V.int))
   rw [zz]; clear zz
   have s69:=s6
   refine ⟨_,rfl,_,rfl,_,_,rfl,rfl,_,rfl,l,_,rfl,ao.of (s69 _ _ yq),fun p8 LO=>?_⟩
   rw [bq]
   obtain ⟨GS,s9,g9,zz⟩:=aJ LO (.lst ((br ws (some ((k:Int) + 1)) none).map V.int))
   rw [zz]; clear zz
   refine ⟨p5,p8,_,_,rfl,rfl,s9 _ _ g6,g9,aak (show _<=1000 by simp only [aae,aab,aay,aa7]; have:=cn none (some (k:Int)); have:=cn (some (k:Int)) none; have:=cn (some ((k:Int) + 1)) none; omega) (by decide),fun p9 wB=>?_⟩
   have Gx:=aa Cb (aa s69 s9)
   refine q p9 ((br ws none (some (k:Int)))++(br ws (some ((k:Int) + 1)) none)) _ (aq Gx wB) (aa Gx (af wB _)) (by rw [ae,aah]) (jg (by simp only [aae,aay,aa7]; have:=cn none (some (k:Int)); have:=cn (some ((k:Int) + 1)) none; omega) fun z hz=>?_)
   rcases List.mem_append.mp hz with hz | hz
   · exact cm _ _ z hz
   · exact cm _ _ z hz
 refine ⟨_,rfl,r,_,_,_,rfl,rfl,ao.of (s15 _ _ T.hr),a0,_,_,rfl,rfl,(by show (0:Int) < 4; decide),rfl,_,rfl,?_⟩
 refine aF (fun _=>?_) (fun _=>?_)
 · refine ⟨_,rfl,_,rfl,_,rfl,l,_,rfl,ao.of yq,fun p5 qG=>?_⟩
   rw [bq]
   obtain ⟨H7,s6,g6,zz⟩:=aJ qG (.lst ((br ws none (some (k:Int))).map V.int))
   rw [zz]; clear zz
   refine ⟨_,rfl,agq,fun p6 uH=>?_⟩
   obtain ⟨H8,s7,g7,zz⟩:=aJ uH (.lst [.int bad])
   rw [zz]; clear zz
   refine ⟨p5,p6,_,_,rfl,rfl,s7 _ _ g6,g7,aak (show _<=1000 by simp only [aae,aab,aay,aa7]; have:=cn none (some (k:Int)); have:=cn (some (k:Int)) none; have:=cn (some ((k:Int) + 1)) none; omega) (by decide),fun p7 Ia=>?_⟩
   obtain ⟨H9,s8,g8,zz⟩:=aJ Ia (.lst ((br ws none (some (k:Int))).map V.int++[.int bad]))
   rw [zz]; clear zz
   have s69:=aa s6 (aa s7 s8)
   refine ⟨_,rfl,_,rfl,_,_,rfl,rfl,_,rfl,l,_,rfl,ao.of (s69 _ _ yq),fun p8 LO=>?_⟩
   rw [bq]
   obtain ⟨GS,s9,g9,zz⟩:=aJ LO (.lst ((br ws (some ((k:Int) + 1)) none).map V.int))
   rw [zz]; clear zz
   refine ⟨p7,p8,_,_,rfl,rfl,s9 _ _ g8,g9,aak (show _<=1000 by simp only [aae,aab,aay,aa7]; have:=cn none (some (k:Int)); have:=cn (some (k:Int)) none; have:=cn (some ((k:Int) + 1)) none; omega) (by decide),fun p9 wB=>?_⟩
   have Gx:=aa Cb (aa s69 s9)
   refine q p9 ((br ws none (some (k:Int)))++[bad]++(br ws (some ((k:Int) + 1)) none)) _ (aq Gx wB) (aa Gx (af wB _)) (by rw [ae,aah,aah]; rfl) (jg (by simp only [aae,aay,aa7]; have:=cn none (some (k:Int)); have:=cn (some ((k:Int) + 1)) none; omega) fun z hz=>?_)
   rcases List.mem_append.mp hz with hz | hz
   · rcases List.mem_append.mp hz with hz | hz
     · exact cm _ _ z hz
     · rw [List.mem_singleton.mp hz]
       exact mb
   · exact cm _ _ z hz
 exact ⟨_,rfl,q l ws _ hl Cb yq (jg (by omega) wm)⟩
theorem yn (s:Src K mg "_law_wrong" kP)(m_len:mg "len"=none)(m_int:mg "int"=none):aX P w K mg base "_law_wrong" ["row","sizes","far"] 1 mj:=
 let ⟨f,fd,F,m⟩:=s
 ⟨f,fd,BF F m_len m_int,F.kp,tW F fun _ _ _ _ _ _ _ _ _=>rfl,m⟩
abbrev jR:Stmt:=top 56
structure iD (bs:List (Str×Int))(ins:List Str):Prop where
 ft:Fits bs ins
 l2:bs.length<=2
 il:ins.length<=2
 sz:∀b∈bs,b.2<=5
 nw:∀b∈bs,b.1≠"w"
structure qM (bs:List (Str×Int))(ins:List Str)(bs':List (Str×Int))(ins':List Str):Prop where
 ft:Fits bs' ins'
 nm:∀x∈bs.map (·.1),x∈bs'.map (·.1)
 l3:bs'.length<=3
 sz:∀b∈bs',b.2<=6
 eq:ins'=ins->bs'.length=bs.length
def kg:Sp:=fun vs H Q _=>∃(v:V) (r:Addr) (bs:List (Str×Int)) (ins:List Str) (nds:List Nd) (row:List Int) (n:Nat),vs=[v,.ref r]/\bD H v bs ins nds/\iD bs ins/\H r=some (.lst (row.map V.int))/\Row (2 ^ 30) row n/\2<=n /\
 ∀(v':V) (bs':List (Str×Int)) (ins':List Str) (H':Hp),ah H H'->bD H' v' bs' ins' nds->qM bs ins bs' ins'->Q v' H'
section
variable {bs bs':List (Str×Int)}{ins ins':List Str}
theorem iD.sub (h:iD bs ins)(hn:ins'.Nodup)(hs:∀x∈ins',x∈ins)(hl:ins'.length<=900):qM bs ins bs ins':=
 ⟨⟨h.ft.nd,h.ft.len,h.ft.sz,hn,fun x hx=>h.ft.sub x (hs x hx),hl⟩,fun _ z=>z,by have:=h.l2; omega,fun b hb=>by have:=h.sz b hb; omega,fun _=>rfl⟩
theorem iD.res (h:iD bs ins)(hn:bs'.map (·.1)=bs.map (·.1))(hs:∀c∈bs',1<=c.2/\c.2<=6):qM bs ins bs' ins:=by
 have hl:bs'.length=bs.length:=by rw [← aab (f:=(·.1)),hn,aab]
 have:=h.l2
 exact ⟨⟨by rw [hn]; exact h.ft.nd,by omega,fun b hb=>(hs b hb).1,h.ft.ind,by rw [hn]; exact h.ft.sub,h.ft.ilen⟩,fun x hx=>by rw [hn]; exact hx,by omega,fun b hb=>(hs b hb).2,fun _=>hl⟩
theorem iD.more (h:iD bs ins):qM bs ins (bs++[(("w":Str),(2:Int))]) (ins++[("w":Str)]):=by
 have h2:=h.l2
 have i2:=h.il
 have nb:("w":Str) ∉ bs.map (·.1):=fun z=>by
   obtain ⟨b,hb,e⟩:=List.mem_map.mp z
   exact h.nw b hb e
 refine ⟨⟨?_,by rw [aae]; show _ + 1<=_; omega,fun b hb=>?_,?_,fun x hx=>?_,by rw [aae]; show _ + 1<=_; omega⟩,fun x hx=>by rw [aah]; exact abK _ hx,by rw [aae]; show _ + 1<=_; omega,fun b hb=>?_,fun e=>?_⟩
 · rw [aah,ac8]
   exact ⟨h.ft.nd,by simp,fun a ha b hb e=>nb (by rw [List.mem_singleton.mp hb] at e; have e':a=("w":Str):=e; exact e' ▸ ha)⟩
 · rcases List.mem_append.mp hb with hb | hb
   · exact h.ft.sz b hb
   · rw [List.mem_singleton.mp hb]; decide
 · rw [ac8]
   exact ⟨h.ft.ind,by simp,fun a ha b hb e=>nb (by rw [List.mem_singleton.mp hb] at e; exact e ▸ h.ft.sub a ha)⟩
 · rw [aah]
   rcases List.mem_append.mp hx with hx | hx
   · exact abK _ (h.ft.sub x hx)
   · rw [List.mem_singleton.mp hx]; exact aaP _ (List.mem_singleton.mpr rfl)
 · rcases List.mem_append.mp hb with hb | hb
   · have:=h.sz b hb; omega
   · rw [List.mem_singleton.mp hb]; decide
 · have:=congrArg abP e
   rw [aae] at this
   have:ins.length + 1=ins.length:=this
   omega
end
theorem zQ {x:Int}(h1:1<=x)(h2:x<=5)(c:Bool):1<=x + (if c=true then 1 else 0)/\x + (if c=true then 1 else 0)<=6:=by
 cases c
 · exact ⟨by show 1<=x + 0; omega,by show x + 0<=6; omega⟩
 · exact ⟨by show 1<=x + 1; omega,by show x + 1<=6; omega⟩
theorem gH:aD ["program","row","boxes","inputs","nodes","way"] ["program","row"] (ag jR):=⟨rfl,rfl,rfl,by decide +kernel,rfl,by decide +kernel,by decide +kernel⟩
theorem yW {f:Addr}{fd:aao}(F:cJ K "_law_spoilt" "_law_spoilt" jR f fd)(m_int:mg "int"=none):aP P w K mg base cO 1 f fd ["program","row"] kg:=by
 refine F.ok gH (fun vs H Q E h=>?_) (fun cdv A outer s H vs Q E hr h=>?_)
 · obtain ⟨v,r,bs,ins,nds,row,n,rfl,_⟩:=h
   rfl
 obtain ⟨v,r,bs,ins,nds,row,n,rfl,⟨p,B,I,N,vb,vn,rfl,hp,hB,hI,hN,pb,pn⟩,pre,C1,hR,n2,q⟩:=h
 obtain ⟨x0,a0,J8,KH⟩:=hR.at (i:=0) (by decide) (by omega)
 obtain ⟨x1,a1,KI,KJ⟩:=hR.at (i:=1) (by decide) (by omega)
 have lg:vb.length=bs.length:=Paired.length pb
 have hl2:=pre.l2
 have il:=pre.il
 refine kI ⟨_,(ael (ae2 (aei 0) (aeG 3 (aex (aes 2 gH.nd) (aex (aes 3 gH.nd) (aex (aes 4 gH.nd) aeH)))))
   (ael (aev 5 gH.nd (aen aeC (aem aeu (aei 1) aek) aek))
   (ael (aez (aey aeE (aei 5) aek) (aeo (aeq (aer (aeh (aei 2) (aeh (aeB aej) (aeh (aei 4) aej)))))) aeA)
   (ael (aez (aey aeE (aei 5) aek) (aeo (aeq (aer (aeh (aei 2) (aeh (ae0 (aei 3) aek) (aeh (aei 4) aej)))))) aeA)
   (ael (aez (aey aeE (aei 5) aek) (aeo (aeq (aer (aeh (aeP [none,none,some 3,some 1] ["name","size","inputs","row"] (show aE _ (ag jR) from ⟨rfl,by decide +kernel,by decide +kernel,by decide +kernel⟩) (by rfl) (aeO (aei 2)) (fun _ _ _ _ _=>⟨(aeG 2 (aex (aes 0 (show (["name","size","inputs","row"]:List Str).Nodup from by decide +kernel)) (aex (aes 1 (show (["name","size","inputs","row"]:List Str).Nodup from by decide +kernel)) aeH))),aeJ,(aer (aeh (aei 0) (aeh (aen aeM (aei 1) (aeK afc (by rfl) m_int (by decide +kernel) (aeh (aeS L3.IA (aei 0) (afb (ae0 (aei 2) (aen aeC (aem aeu (aei 3) aek) aek)) aek) (by rfl)) aej))) aej)))⟩)) (aeh (aei 3) (aeh (aei 4) aej)))))) aeA)
   (ael (aez (aey aeE (aei 5) aek) (aeo (aeq (aer (aeh (aei 2) (aeh (L3.Nb (aei 3) (L3.neg aek)) (aeh (aei 4) aej)))))) aeA)
   (ael (aez (aey aeE (aei 5) aek) (aeo (aeq (aer (aeh (aen aeV (aei 2) (aeB (aeh (aer (aeh aep (aeh aek aej))) aej))) (aeh (aen aeV (aei 3) (aeB (aeh aep aej))) (aeh (aei 4) aej)))))) aeA)
   (ael (aez (aey aeE (aei 5) aek) (aeo (aeq (aer (aeh (aeP [none,none,some 3] ["name","size","inputs"] (show aE _ (ag jR) from ⟨rfl,by decide +kernel,by decide +kernel,by decide +kernel⟩) (by rfl) (aeO (aei 2)) (fun _ _ _ _ _=>⟨(aeG 2 (aex (aes 0 (show (["name","size","inputs"]:List Str).Nodup from by decide +kernel)) (aex (aes 1 (show (["name","size","inputs"]:List Str).Nodup from by decide +kernel)) aeH))),aeJ,(aer (aeh (aei 0) (aeh (aen aeM (aei 1) (aeK afc (by rfl) m_int (by decide +kernel) (aeh (aeS L3.qd (aei 0) (aei 2) (by rfl)) aej))) aej)))⟩)) (aeh (aei 3) (aeh (aei 4) aej)))))) aeA)
   (aeo (aeq (aer (aeh (aei 2) (aeh (aei 3) (aeh (aei 4) aej)))))))))))))),?_⟩
 refine ⟨_,rfl,p,_,rfl,aK.of hp,rfl,_,_,rfl,_,_,rfl,_,_,rfl,rfl,?_⟩
 refine ⟨_,rfl,r,_,_,_,rfl,rfl,ao.of C1,a0,_,_,rfl,rfl,(by show (0:Int) < 8; decide),?_⟩
 obtain ⟨way,QI⟩ : ∃way,way=x0 % 8:=⟨_,rfl⟩
 refine bo ?_
 refine b8 [some (.ref p),some (.ref r),some (.ref B),some (.ref I),some (.ref N),some (.int way)] (by subst QI; rfl) ?_
 have fin:∀(B' I' p':Addr) (vb':List V) (bs':List (Str×Int)) (ins':List Str) (H1:Hp),ah H H1->H1 B'=some (.lst vb')->H1 I'=some (.lst (ins'.map V.str))->Paired (bG H1) vb' bs'->qM bs ins bs' ins'->H1 p'=none->Q (.ref p') (upd H1 p' (.tup [.ref B',.ref I',.ref N])):=fun B' I' p' vb' bs' ins' H1 s1 h1 h2 h3 h4 oC=>by
   have t3:ah H1 (upd H1 p' (.tup [.ref B',.ref I',.ref N])):=af oC _
   have s3:=aa s1 t3
   exact q (.ref p') bs' ins' _ s3 ⟨p',B',I',N,vb',vn,rfl,ae,t3 _ _ h1,t3 _ _ h2,s3 _ _ hN,Paired.aZ h3 fun a b h=>Tp.keep (ah.tk t3) h,Paired.aZ pn fun _ _ z=>cy.keep (ah.tk s3) z⟩ h4
 have pbs:∀{H1:Hp},ah H H1->Paired (bG H1) vb bs:=fun s=>Paired.aZ pb fun a b h=>Tp.keep (ah.tk s) h
 refine ⟨_,rfl,rfl,_,rfl,?_⟩
 refine aF (fun _=>?_) (fun _=>?_)
 · refine ⟨_,rfl,agp,fun i1 uD=>?_⟩
   have s1:ah H (upd H i1 (.lst [])):=af uD _
   exact ⟨_,rfl,ags,fun p3 lN=>fin B i1 p3 vb bs [] _ s1 (s1 _ _ hB) ae (pbs s1) (pre.sub ab1 (fun x hx=>nomatch hx) (aaU _)) lN⟩
 refine ⟨_,rfl,rfl,_,rfl,?_⟩
 refine aF (fun _=>?_) (fun _=>?_)
 · refine ⟨_,rfl,_,rfl,_,rfl,I,_,rfl,ao.of hI,fun i1 uD=>?_⟩
   rw [bq]
   have s1:ah H (upd H i1 (.lst ((br ins (some 1) none).map V.str))):=af uD _
   exact ⟨_,rfl,ags,fun p3 lN=>fin B i1 p3 vb bs _ _ s1 (s1 _ _ hB) ae (pbs s1) (pre.sub (List.Nodup.sublist (d7 _ _ _) pre.ft.ind) (fun x hx=>(d7 _ _ _).subset hx) (aak (rb _ _ _) (by omega))) lN⟩
 refine ⟨_,rfl,rfl,_,rfl,?_⟩
 refine aF (fun _=>?_) (fun _=>?_)
 · refine ⟨_,rfl,B,rfl,⟨_,ao.of hB⟩,fun ta C2=>?_⟩
   refine bj (xs:=vb) (fun i H8=>∃(vt:List V) (cs:List (Str×Int)),ah H H8/\H8 ta=some (.lst vt)/\vt.length=i/\Paired (bG H8) vt cs/\cs.map (·.1)=(bs.take i).map (·.1)/\∀c∈cs,1<=c.2/\c.2<=6) ⟨[],[],af C2 _,ae,rfl,.nil,rfl,fun c hc=>nomatch hc⟩ (fun i H8 _ z=>by obtain ⟨_,_,s8,_⟩:=z; exact ao.of (s8 _ _ hB)) (fun i x H8 hx z=>?_) (fun H8 z=>?_)
   · obtain ⟨vt,cs,s8,iW,F8,pt,cn,cz⟩:=z
     obtain ⟨b,fR,vg,rfl,rQ⟩:=Paired.get pb hx
     have dQ:i < vb.length:=(List.getElem?_eq_some_iff.mp hx).1
     have bm:=aan fR
     have b1:=pre.ft.sz b bm
     have b5:=pre.sz b bm
     refine ⟨vg,_,rfl,aK.of (s8 _ _ rQ),rfl,_,_,rfl,_,_,rfl,rfl,?_⟩
     refine bV (A:=fun H3=>dg _ ta _ H3 _) ?_
     refine ⟨_,rfl,_,rfl,_,rfl,_,rfl,_,rfl,r,_,_,_,rfl,rfl,ao.of (s8 _ _ C1),a1,_,_,rfl,rfl,(by show (0:Int) < 2; decide),_,rfl,I,_,rfl,ao.of (s8 _ _ hI),fun pa LP=>?_⟩
     rw [bq]
     obtain ⟨H9,sa,ga,zz⟩:=aJ LP (.lst ((br ins (some (x1 % 2)) none).map V.str))
     rw [zz]; clear zz
     refine ⟨_,rfl,pa,_,rfl,ao.of ga,fun pc Xy=>?_⟩
     rw [bq]
     obtain ⟨GS,sb,gb,zz⟩:=aJ Xy (.lst ((br (br ins (some (x1 % 2)) none) none (some 1)).map V.str))
     rw [zz]; clear zz
     have RJ:=aa sa sb
     have m7:=RJ _ _ iW
     have JN:=aa s8 RJ
     obtain ⟨c0,WU⟩ : ∃c0,c0=zC (.str b.1) ((br (br ins (some (x1 % 2)) none) none (some 1)).map V.str):=⟨_,rfl⟩
     refine ⟨pc,_,rfl,.inl (ao.of gb),rfl,kq _,.inr ⟨_,rfl,_,_,rfl,rfl,agr,fun p2 cf=>⟨vt,?_,aB (by omega),aL (Pv:=fun i H8=>∃(vt:List V) (cs:List (Str×Int)),ah H H8/\H8 ta=some (.lst vt)/\vt.length=i/\Paired (bG H8) vt cs/\cs.map (·.1)=(bs.take i).map (·.1)/\∀c∈cs,1<=c.2/\c.2<=6) (by repeat' constructor) dQ ?_⟩⟩⟩
     · rw [aj (ai m7 cf)]; exact m7
     · have h4:∀o,(upd GS p2 o) ta=some (.lst vt):=fun o=>by rw [aj (ai m7 cf)]; exact m7
       refine ⟨vt++[.ref p2],cs++[(b.1,b.2 + (if zC (.str b.1) ((br (br ins (some (x1 % 2)) none) none (some 1)).map V.str)=true then 1 else 0))],aG (aC JN cf) C2,ae,by rw [aae,F8]; rfl,?_,?_,fun c hc=>?_⟩
       · refine Paired.snoc (Paired.aZ pt fun a b h=>Tp.keep (((ah.tk RJ).trans (aI cf _)).trans (TK.lst (h4 _))) h) ⟨p2,rfl,?_⟩
         rw [aj (ai m7 cf).symm,ae]
         rfl
       · rw [aah,cn,aal,fR,aah]
         rfl
       · rcases List.mem_append.mp hc with hc | hc
         · exact cz c hc
         · rw [List.mem_singleton.mp hc]
           exact zQ b1 b5 _
   · obtain ⟨vt,cs,s8,iW,F8,pt,cn,cz⟩:=z
     have Le:bs.take vb.length=bs:=aaS (by omega)
     rw [Le] at cn
     refine ⟨_,rfl,_,rfl,ags,fun p3 lN=>?_⟩
     have t3:ah H8 (upd H8 p3 (.tup [.ref ta,.ref I,.ref N])):=af lN _
     have s3:=aa s8 t3
     exact q (.ref p3) cs ins _ s3 ⟨p3,ta,I,N,vt,vn,rfl,ae,t3 _ _ iW,s3 _ _ hI,s3 _ _ hN,Paired.aZ pt fun a b h=>Tp.keep (ah.tk t3) h,Paired.aZ pn fun _ _ z=>cy.keep (ah.tk s3) z⟩ (pre.res cn cz)
 refine ⟨_,rfl,rfl,_,rfl,?_⟩
 refine aF (fun _=>?_) (fun _=>?_)
 · refine ⟨_,rfl,_,rfl,_,rfl,rfl,I,_,rfl,ao.of hI,fun i1 uD=>?_⟩
   rw [← adh]
   have s1:ah H (upd H i1 (.lst (ins.reverse.map V.str))):=af uD _
   exact ⟨_,rfl,ags,fun p3 lN=>fin B i1 p3 vb bs _ _ s1 (s1 _ _ hB) ae (pbs s1) (pre.sub (List.pairwise_reverse.mpr (List.Pairwise.imp (fun h=>Ne.symm h) pre.ft.ind)) (fun x hx=>List.mem_reverse.mp hx) (by rw [acR]; omega)) lN⟩
 refine ⟨_,rfl,rfl,_,rfl,?_⟩
 refine aF (fun _=>?_) (fun _=>?_)
 · refine ⟨_,rfl,agr,fun w1 L0=>?_⟩
   obtain ⟨H1,s1,g1,zz⟩:=aJ L0 (.tup [.str "w",.int 2])
   rw [zz]; clear zz
   refine ⟨agq,fun l1 hl1=>?_⟩
   obtain ⟨H2,s2,g2,zz⟩:=aJ hl1 (.lst [.ref w1])
   rw [zz]; clear zz
   have B9:=aa s1 s2
   refine ⟨B,l1,_,_,rfl,rfl,B9 _ _ hB,g2,aak (show _<=3 by show vb.length + 1<=3; omega) (by decide),fun B1 CZ=>?_⟩
   obtain ⟨H3,s3,g3,zz⟩:=aJ CZ (.lst (vb++[.ref w1]))
   rw [zz]; clear zz
   have s13:=aa B9 s3
   refine ⟨_,rfl,agq,fun l2 hl2=>?_⟩
   obtain ⟨H4,s4,g4,zz⟩:=aJ hl2 (.lst [.str "w"])
   rw [zz]; clear zz
   refine ⟨I,l2,_,_,rfl,rfl,s4 _ _ (s13 _ _ hI),g4,aak (show _<=3 by rw [aab]; show ins.length + 1<=3; omega) (by decide),fun I1 hI1=>?_⟩
   obtain ⟨H5,s5,g5,zz⟩:=aJ hI1 (.lst (ins.map V.str++[.str "w"]))
   rw [zz]; clear zz
   have s35:=aa s4 s5
   have s15:=aa s13 s35
   exact ⟨_,rfl,ags,fun p3 lN=>fin B1 I1 p3 _ (bs++[(("w":Str),(2:Int))]) (ins++[("w":Str)]) _ s15 (s35 _ _ g3) (by rw [g5,aah]; rfl) (Paired.snoc (pbs s15) ⟨w1,rfl,s35 _ _ (s3 _ _ (s2 _ _ g1))⟩) pre.more lN⟩
 refine ⟨_,rfl,rfl,_,rfl,?_⟩
 refine aF (fun _=>?_) (fun _=>?_)
 · refine ⟨_,rfl,B,rfl,⟨_,ao.of hB⟩,fun ta C2=>?_⟩
   refine bj (xs:=vb) (fun i H8=>∃(vt:List V) (cs:List (Str×Int)),ah H H8/\H8 ta=some (.lst vt)/\vt.length=i/\Paired (bG H8) vt cs/\cs.map (·.1)=(bs.take i).map (·.1)/\∀c∈cs,1<=c.2/\c.2<=6) ⟨[],[],af C2 _,ae,rfl,.nil,rfl,fun c hc=>nomatch hc⟩ (fun i H8 _ z=>by obtain ⟨_,_,s8,_⟩:=z; exact ao.of (s8 _ _ hB)) (fun i x H8 hx z=>?_) (fun H8 z=>?_)
   · obtain ⟨vt,cs,s8,iW,F8,pt,cn,cz⟩:=z
     obtain ⟨b,fR,vg,rfl,rQ⟩:=Paired.get pb hx
     have dQ:i < vb.length:=(List.getElem?_eq_some_iff.mp hx).1
     have bm:=aan fR
     have b1:=pre.ft.sz b bm
     have b5:=pre.sz b bm
     refine ⟨vg,_,rfl,aK.of (s8 _ _ rQ),rfl,_,_,rfl,_,_,rfl,rfl,?_⟩
     refine bV (A:=fun H3=>dg _ ta _ H3 _) ?_
     have Rz:=same_refl H8
     refine ⟨_,rfl,_,rfl,_,rfl,_,rfl,?_⟩
     have m7:=Rz _ _ iW
     have JN:=aa s8 Rz
     obtain ⟨c0,WU⟩ : ∃c0,c0=(!zC (.str b.1) (ins.map V.str)):=⟨_,rfl⟩
     refine ⟨I,_,rfl,.inl (ao.of (s8 _ _ hI)),rfl,kq _,.inr ⟨_,rfl,_,_,rfl,rfl,agr,fun p2 cf=>⟨vt,?_,aB (by omega),aL (Pv:=fun i H8=>∃(vt:List V) (cs:List (Str×Int)),ah H H8/\H8 ta=some (.lst vt)/\vt.length=i/\Paired (bG H8) vt cs/\cs.map (·.1)=(bs.take i).map (·.1)/\∀c∈cs,1<=c.2/\c.2<=6) (by repeat' constructor) dQ ?_⟩⟩⟩
     · rw [aj (ai m7 cf)]; exact m7
     · have h4:∀o,(upd H8 p2 o) ta=some (.lst vt):=fun o=>by rw [aj (ai m7 cf)]; exact m7
       refine ⟨vt++[.ref p2],cs++[(b.1,b.2 + (if (!zC (.str b.1) (ins.map V.str))=true then 1 else 0))],aG (aC JN cf) C2,ae,by rw [aae,F8]; rfl,?_,?_,fun c hc=>?_⟩
       · refine Paired.snoc (Paired.aZ pt fun a b h=>Tp.keep (((ah.tk Rz).trans (aI cf _)).trans (TK.lst (h4 _))) h) ⟨p2,rfl,?_⟩
         rw [aj (ai m7 cf).symm,ae]
         rfl
       · rw [aah,cn,aal,fR,aah]
         rfl
       · rcases List.mem_append.mp hc with hc | hc
         · exact cz c hc
         · rw [List.mem_singleton.mp hc]
           exact zQ b1 b5 _
   · obtain ⟨vt,cs,s8,iW,F8,pt,cn,cz⟩:=z
     have Le:bs.take vb.length=bs:=aaS (by omega)
     rw [Le] at cn
     refine ⟨_,rfl,_,rfl,ags,fun p3 lN=>?_⟩
     have t3:ah H8 (upd H8 p3 (.tup [.ref ta,.ref I,.ref N])):=af lN _
     have s3:=aa s8 t3
     exact q (.ref p3) cs ins _ s3 ⟨p3,ta,I,N,vt,vn,rfl,ae,t3 _ _ iW,s3 _ _ hI,s3 _ _ hN,Paired.aZ pt fun a b h=>Tp.keep (ah.tk t3) h,Paired.aZ pn fun _ _ z=>cy.keep (ah.tk s3) z⟩ (pre.res cn cz)
 exact ⟨_,rfl,_,rfl,_,rfl,ags,fun p3 lN=>fin B I p3 vb bs ins H (same_refl _) hB hI pb (pre.sub pre.ft.ind (fun _ z=>z) pre.ft.ilen) lN⟩
theorem uz (s:Src K mg "_law_spoilt" jR)(m_int:mg "int"=none):aX P w K mg base "_law_spoilt" ["program","row"] 1 kg:=
 let ⟨f,fd,F,m⟩:=s
 ⟨f,fd,yW F m_int,F.kp,d4 F fun _ _ _ _ _ _ _ _=>rfl,m⟩
abbrev kN:Stmt:=top 63
def E.cb:E->List (Str×Str)
 | .num _=>[] | .box t x=>[(t,x)] | .yes=>[] | .nt a=>a.cb | .two _ a b=>a.cb++b.cb
theorem b9.keep {H H':Hp}(k:TK H H'){v:V}{b:Str×Str}(h:b9 H v b):b9 H' v b:=Tp.keep k (show Tp H v [.str b.1,.str b.2] from h)
theorem Paired.app {α β:Type}{R:α->β->Prop}:∀{xs:List α} {ys:List β} {zs:List α} {ws:List β},Paired R xs ys->Paired R zs ws->Paired R (xs++zs) (ys++ws)
 | _,_,_,_,.nil,q=>q
 | _,_,_,_,.cons h r,q=>.cons h (Paired.app r q)
theorem cF.Fo {H:Hp}{v:V}:∀{e:E},cF H v e->∃p us,v=.ref p/\H p=some (.tup us)
 | .num _,⟨p,e,h⟩=>⟨p,_,e,h⟩
 | .box _ _,⟨p,e,h⟩=>⟨p,_,e,h⟩
 | .yes,⟨p,e,h⟩=>⟨p,_,e,h⟩
 | .nt _,⟨_,⟨p,e,h⟩,_⟩=>⟨p,_,e,h⟩
 | .two _ _ _,⟨_,_,⟨p,e,h⟩,_,_⟩=>⟨p,_,e,h⟩
def eO (n:Nat):Sp:=fun vs H Q _=>∃(v:V) (e:E),vs=[v]/\cF H v e/\e.okIn jc/\e.dep < n/\e.cb.length<=1000/\∀(l:Addr) (vl:List V) (H':Hp),H l=none->ah H H'->H' l=some (.lst vl)->Paired (b9 H') vl e.cb->Q (.ref l) H'
theorem qk:aD ["thing","found","part"] ["thing"] (ag kN):=⟨rfl,rfl,rfl,by decide +kernel,rfl,by decide +kernel,by decide +kernel⟩
theorem kG:aY kN "_law_named":=by decide +kernel
theorem jn:aY kN "isinstance":=by decide +kernel
theorem pW:aY kN "tuple":=by decide +kernel
theorem BA {n:Nat}{f:Addr}{fd:aao}(F:cJ K "_law_named" "_law_named" kN f fd)(m_tuple:mg "tuple"=none)(m_isinstance:mg "isinstance"=none)(G:aX P w K mg base "_law_named" ["thing"] (n + 1) (eO n)):aP P w K mg base cO (n + 2) f fd ["thing"] (eO (n + 1)):=by
 refine F.ok qk (fun vs H Q E h=>?_) (fun cdv A outer s H vs Q E hr h=>?_)
 · obtain ⟨v,e,rfl,_⟩:=h
   rfl
 obtain ⟨v,e,rfl,ev,ok,hd,hb,q⟩:=h
 refine kI ⟨_,(ael (aez (aeZ (ae4 (aey aeE (aem aew (aei 0) aek) aep) (ae5 (aey aeE (aem aew (aei 0) aek) aep)))) (aeo (aeq (aeB (aeh (aei 0) aej)))) aeA)
   (ael (aev 1 qk.nd (aeB aej))
   (ael (aeX (L3.iT (L3.Nc (aei 0) aek)) (aes 2 qk.nd) (aeo (aez (ae3 (aeD L3.FG jn m_isinstance (by decide +kernel) (aeh (aei 2) (aeh (L3.G8 (w:=.ty "tuple") pW m_tuple (by decide +kernel) rfl) aej)))) (aeo (aeI (afw (aei 1) (aeh (aet G hr kG (aeh (aei 2) aej)) aej)))) aeA)))
   (aeo (aeq (aei 1)))))),?_⟩
 cases e with
 | num m=>
   obtain ⟨p,rfl,hp⟩:=ev
   refine ⟨_,rfl,p,_,_,_,rfl,rfl,aK.of hp,rfl,rfl,_,rfl,?_⟩
   refine aF (fun c=>absurd (of_decide_eq_true c) (by decide)) (fun _=>?_)
   refine ⟨_,rfl,p,_,_,_,rfl,rfl,aK.of hp,rfl,rfl,_,rfl,?_⟩
   refine aF (fun c=>absurd (of_decide_eq_true c) (by decide)) (fun _=>?_)
   refine ⟨agp,fun fa hfa=>?_⟩
   obtain ⟨H1,s1,g1,zz⟩:=aJ hfa (.lst [])
   rw [zz]; clear zz
   refine ⟨_,rfl,_,rfl,p,_,rfl,aK.of (s1 _ _ hp),(fun z=>absurd z.1 (show ¬ HT.cM 2 0 (some 1)=0 by decide)),fun l hl=>⟨l,rfl,⟨_,aK.of ae⟩,?_⟩⟩
   have s2:ah H1 (upd H1 l (.tup [.int m])):=af hl _
   have Iu:l≠fa:=(ai g1 hl).symm
   refine gQ (xs:=[.int m]) (fun i σ H2=>(∃pv,σ=[some (.ref p),some (.ref fa),pv])/\ah H H2/\H2 l=some (.tup [.int m])/\∃vl,H2 fa=some (.lst vl)/\Paired (b9 H2) vl (([[]]:List (List (Str×Str))).take i).flatten) ⟨⟨_,rfl⟩,aa s1 s2,ae,[],s2 _ _ g1,.nil⟩ (fun i σ H2 _ z=>aK.of z.2.2.1) (fun i x σ H2 hx z=>?_) (fun σ H2 z=>?_)
   · obtain ⟨⟨pv,rfl⟩,s3,kJ,vl,m5,pr⟩:=z
     obtain ⟨nm,uG,m4⟩ : ∃nm:List (Str×Str),([[]]:List (List (Str×Str)))[i]? = some nm/\((∃k,x=.int k/\nm=[])\/∃e0:TW.E,cF H x e0/\e0.okIn jc/\e0.dep < n/\e0.cb.length<=1000/\nm=e0.cb):=by
       match i,hx with
       | 0,hx=>cases hx; exact ⟨[],rfl,.inl ⟨m,rfl,rfl⟩⟩
     have J7:vl.length<=1000:=by
       rw [Paired.length pr]
       have h1:((([[]]:List (List (Str×Str))).take i).flatten).length<=(([[]]:List (List (Str×Str))).flatten).length:=by
         have e:([[]]:List (List (Str×Str))).flatten=(([[]]:List (List (Str×Str))).take i).flatten++(([[]]:List (List (Str×Str))).drop i).flatten:=by rw [← aaO,abD]
         rw [e,aae]
         omega
       exact aak h1 (aak (show _<=(TW.E.num m).cb.length by simp [TW.E.cb]) hb)
     refine bo ?_
     rcases m4 with ⟨k,rfl,rfl⟩ | ⟨e0,Ae,IC,d0,b0,rfl⟩
     · refine ⟨_,rfl,.int k,"tuple",_,false,rfl,.int k,rfl,_,rfl,iY ?_⟩
       refine ⟨⟨_,rfl⟩,s3,kJ,vl,m5,?_⟩
       rw [aal,uG,aaO]
       show Paired _ vl (_++[])
       rw [aaJ]
       exact pr
     · obtain ⟨px,us,rfl,D3⟩:=Ae.Fo
       refine ⟨_,rfl,.ref px,"tuple",_,true,rfl,.tup (s3 _ _ D3),rfl,_,rfl,fT ?_⟩
       refine ⟨_,rfl,.inl ⟨rfl,_,ao.of m5⟩,_,rfl,.ref px,e0,rfl,cF.keep (ah.tk s3) Ae,IC,d0,b0,fun l2 vQ H3 hl2 s4 g4 p4=>?_⟩
       have AI:=s4 _ _ m5
       have tk:=TK.lst AI (o:=.lst (vl++vQ))
       refine ⟨fa,l2,_,_,rfl,rfl,AI,g4,aak (show _<=2000 by have:=Paired.length p4; omega) (by decide),⟨_,rfl⟩,aG (aa s3 s4) hfa,by rw [aj Iu]; exact s4 _ _ kJ,vl++vQ,ae,?_⟩
       rw [aal,uG,aaO]
       show Paired _ (vl++vQ) (_++(e0.cb++[]))
       rw [aaJ]
       exact Paired.app (Paired.aZ pr fun _ _ z=>b9.keep ((ah.tk s4).trans tk) z) (Paired.aZ p4 fun _ _ z=>b9.keep tk z)
   · obtain ⟨⟨pv,rfl⟩,s3,kJ,vl,m5,pr⟩:=z
     refine ⟨_,rfl,q fa vl H2 hfa s3 m5 ?_⟩
     rw [show (TW.E.num m).cb=(([[]]:List (List (Str×Str))).take ([.int m]:List V).length).flatten by simp [TW.E.cb]]
     exact pr
 | yes=>
   obtain ⟨p,rfl,hp⟩:=ev
   refine ⟨_,rfl,p,_,_,_,rfl,rfl,aK.of hp,rfl,rfl,_,rfl,?_⟩
   refine aF (fun c=>absurd (of_decide_eq_true c) (by decide)) (fun _=>?_)
   refine ⟨_,rfl,p,_,_,_,rfl,rfl,aK.of hp,rfl,rfl,_,rfl,?_⟩
   refine aF (fun c=>absurd (of_decide_eq_true c) (by decide)) (fun _=>?_)
   refine ⟨agp,fun fa hfa=>?_⟩
   obtain ⟨H1,s1,g1,zz⟩:=aJ hfa (.lst [])
   rw [zz]; clear zz
   refine ⟨_,rfl,_,rfl,p,_,rfl,aK.of (s1 _ _ hp),(fun z=>absurd z.1 (show ¬ HT.cM 1 0 (some 1)=0 by decide)),fun l hl=>⟨l,rfl,⟨_,aK.of ae⟩,?_⟩⟩
   have s2:ah H1 (upd H1 l (.tup [])):=af hl _
   have Iu:l≠fa:=(ai g1 hl).symm
   refine gQ (xs:=[]) (fun i σ H2=>(∃pv,σ=[some (.ref p),some (.ref fa),pv])/\ah H H2/\H2 l=some (.tup [])/\∃vl,H2 fa=some (.lst vl)/\Paired (b9 H2) vl (([]:List (List (Str×Str))).take i).flatten) ⟨⟨_,rfl⟩,aa s1 s2,ae,[],s2 _ _ g1,.nil⟩ (fun i σ H2 _ z=>aK.of z.2.2.1) (fun i x σ H2 hx z=>?_) (fun σ H2 z=>?_)
   · obtain ⟨⟨pv,rfl⟩,s3,kJ,vl,m5,pr⟩:=z
     obtain ⟨nm,uG,m4⟩ : ∃nm:List (Str×Str),([]:List (List (Str×Str)))[i]? = some nm/\((∃k,x=.int k/\nm=[])\/∃e0:TW.E,cF H x e0/\e0.okIn jc/\e0.dep < n/\e0.cb.length<=1000/\nm=e0.cb):=by
       cases hx
     have J7:vl.length<=1000:=by
       rw [Paired.length pr]
       have h1:((([]:List (List (Str×Str))).take i).flatten).length<=(([]:List (List (Str×Str))).flatten).length:=by
         have e:([]:List (List (Str×Str))).flatten=(([]:List (List (Str×Str))).take i).flatten++(([]:List (List (Str×Str))).drop i).flatten:=by rw [← aaO,abD]
         rw [e,aae]
         omega
       exact aak h1 (aak (show _<=(TW.E.yes).cb.length by simp [TW.E.cb]) hb)
     refine bo ?_
     rcases m4 with ⟨k,rfl,rfl⟩ | ⟨e0,Ae,IC,d0,b0,rfl⟩
     · refine ⟨_,rfl,.int k,"tuple",_,false,rfl,.int k,rfl,_,rfl,iY ?_⟩
       refine ⟨⟨_,rfl⟩,s3,kJ,vl,m5,?_⟩
       rw [aal,uG,aaO]
       show Paired _ vl (_++[])
       rw [aaJ]
       exact pr
     · obtain ⟨px,us,rfl,D3⟩:=Ae.Fo
       refine ⟨_,rfl,.ref px,"tuple",_,true,rfl,.tup (s3 _ _ D3),rfl,_,rfl,fT ?_⟩
       refine ⟨_,rfl,.inl ⟨rfl,_,ao.of m5⟩,_,rfl,.ref px,e0,rfl,cF.keep (ah.tk s3) Ae,IC,d0,b0,fun l2 vQ H3 hl2 s4 g4 p4=>?_⟩
       have AI:=s4 _ _ m5
       have tk:=TK.lst AI (o:=.lst (vl++vQ))
       refine ⟨fa,l2,_,_,rfl,rfl,AI,g4,aak (show _<=2000 by have:=Paired.length p4; omega) (by decide),⟨_,rfl⟩,aG (aa s3 s4) hfa,by rw [aj Iu]; exact s4 _ _ kJ,vl++vQ,ae,?_⟩
       rw [aal,uG,aaO]
       show Paired _ (vl++vQ) (_++(e0.cb++[]))
       rw [aaJ]
       exact Paired.app (Paired.aZ pr fun _ _ z=>b9.keep ((ah.tk s4).trans tk) z) (Paired.aZ p4 fun _ _ z=>b9.keep tk z)
   · obtain ⟨⟨pv,rfl⟩,s3,kJ,vl,m5,pr⟩:=z
     refine ⟨_,rfl,q fa vl H2 hfa s3 m5 ?_⟩
     rw [show (TW.E.yes).cb=(([]:List (List (Str×Str))).take ([]:List V).length).flatten by simp [TW.E.cb]]
     exact pr
 | box t x=>
   obtain ⟨p,rfl,hp⟩:=ev
   have Kz:t="mine"\/t="yours":=ok
   have fin:∀l,H l=none->Q (.ref l) (upd H l (.lst [.ref p])):=fun l hl=>q l [.ref p] _ hl (af hl _) ae (.cons ⟨p,rfl,af hl _ _ _ hp⟩ .nil)
   refine ⟨_,rfl,p,_,_,_,rfl,rfl,aK.of hp,rfl,rfl,_,rfl,?_⟩
   rcases Kz with rfl | rfl
   · refine aF (fun _=>fT ?_) (fun c=>absurd (decide_eq_true rfl) c)
     exact ⟨_,rfl,agq,fun l hl=>fin l hl⟩
   · refine aF (fun c=>absurd (of_decide_eq_true c) (by decide)) (fun _=>?_)
     refine ⟨_,rfl,p,_,_,_,rfl,rfl,aK.of hp,rfl,rfl,_,rfl,?_⟩
     refine aF (fun _=>?_) (fun c=>absurd (decide_eq_true rfl) c)
     exact ⟨_,rfl,agq,fun l hl=>fin l hl⟩
 | nt a=>
   obtain ⟨x1,⟨p,rfl,hp⟩,ax⟩:=ev
   have oA:a.dep + 1 < n + 1:=hd
   refine ⟨_,rfl,p,_,_,_,rfl,rfl,aK.of hp,rfl,rfl,_,rfl,?_⟩
   refine aF (fun c=>absurd (of_decide_eq_true c) (by decide)) (fun _=>?_)
   refine ⟨_,rfl,p,_,_,_,rfl,rfl,aK.of hp,rfl,rfl,_,rfl,?_⟩
   refine aF (fun c=>absurd (of_decide_eq_true c) (by decide)) (fun _=>?_)
   refine ⟨agp,fun fa hfa=>?_⟩
   obtain ⟨H1,s1,g1,zz⟩:=aJ hfa (.lst [])
   rw [zz]; clear zz
   refine ⟨_,rfl,_,rfl,p,_,rfl,aK.of (s1 _ _ hp),(fun z=>absurd z.1 (show ¬ HT.cM 2 0 (some 1)=0 by decide)),fun l hl=>⟨l,rfl,⟨_,aK.of ae⟩,?_⟩⟩
   have s2:ah H1 (upd H1 l (.tup [x1])):=af hl _
   have Iu:l≠fa:=(ai g1 hl).symm
   refine gQ (xs:=[x1]) (fun i σ H2=>(∃pv,σ=[some (.ref p),some (.ref fa),pv])/\ah H H2/\H2 l=some (.tup [x1])/\∃vl,H2 fa=some (.lst vl)/\Paired (b9 H2) vl (([a.cb]:List (List (Str×Str))).take i).flatten) ⟨⟨_,rfl⟩,aa s1 s2,ae,[],s2 _ _ g1,.nil⟩ (fun i σ H2 _ z=>aK.of z.2.2.1) (fun i x σ H2 hx z=>?_) (fun σ H2 z=>?_)
   · obtain ⟨⟨pv,rfl⟩,s3,kJ,vl,m5,pr⟩:=z
     obtain ⟨nm,uG,m4⟩ : ∃nm:List (Str×Str),([a.cb]:List (List (Str×Str)))[i]? = some nm/\((∃k,x=.int k/\nm=[])\/∃e0:TW.E,cF H x e0/\e0.okIn jc/\e0.dep < n/\e0.cb.length<=1000/\nm=e0.cb):=by
       match i,hx with
       | 0,hx=>cases hx; exact ⟨_,rfl,.inr ⟨a,ax,ok,by omega,hb,rfl⟩⟩
     have J7:vl.length<=1000:=by
       rw [Paired.length pr]
       have h1:((([a.cb]:List (List (Str×Str))).take i).flatten).length<=(([a.cb]:List (List (Str×Str))).flatten).length:=by
         have e:([a.cb]:List (List (Str×Str))).flatten=(([a.cb]:List (List (Str×Str))).take i).flatten++(([a.cb]:List (List (Str×Str))).drop i).flatten:=by rw [← aaO,abD]
         rw [e,aae]
         omega
       exact aak h1 (aak (show _<=(TW.E.nt a).cb.length by simp [TW.E.cb]) hb)
     refine bo ?_
     rcases m4 with ⟨k,rfl,rfl⟩ | ⟨e0,Ae,IC,d0,b0,rfl⟩
     · refine ⟨_,rfl,.int k,"tuple",_,false,rfl,.int k,rfl,_,rfl,iY ?_⟩
       refine ⟨⟨_,rfl⟩,s3,kJ,vl,m5,?_⟩
       rw [aal,uG,aaO]
       show Paired _ vl (_++[])
       rw [aaJ]
       exact pr
     · obtain ⟨px,us,rfl,D3⟩:=Ae.Fo
       refine ⟨_,rfl,.ref px,"tuple",_,true,rfl,.tup (s3 _ _ D3),rfl,_,rfl,fT ?_⟩
       refine ⟨_,rfl,.inl ⟨rfl,_,ao.of m5⟩,_,rfl,.ref px,e0,rfl,cF.keep (ah.tk s3) Ae,IC,d0,b0,fun l2 vQ H3 hl2 s4 g4 p4=>?_⟩
       have AI:=s4 _ _ m5
       have tk:=TK.lst AI (o:=.lst (vl++vQ))
       refine ⟨fa,l2,_,_,rfl,rfl,AI,g4,aak (show _<=2000 by have:=Paired.length p4; omega) (by decide),⟨_,rfl⟩,aG (aa s3 s4) hfa,by rw [aj Iu]; exact s4 _ _ kJ,vl++vQ,ae,?_⟩
       rw [aal,uG,aaO]
       show Paired _ (vl++vQ) (_++(e0.cb++[]))
       rw [aaJ]
       exact Paired.app (Paired.aZ pr fun _ _ z=>b9.keep ((ah.tk s4).trans tk) z) (Paired.aZ p4 fun _ _ z=>b9.keep tk z)
   · obtain ⟨⟨pv,rfl⟩,s3,kJ,vl,m5,pr⟩:=z
     refine ⟨_,rfl,q fa vl H2 hfa s3 m5 ?_⟩
     rw [show (TW.E.nt a).cb=(([a.cb]:List (List (Str×Str))).take ([x1]:List V).length).flatten by simp [TW.E.cb]]
     exact pr
 | two k a b=>
   obtain ⟨x1,x2,⟨p,rfl,hp⟩,ax,ay⟩:=ev
   have oA:max a.dep b.dep + 1 < n + 1:=hd
   have FT:a.cb.length + b.cb.length<=1000:=by have z:=hb; rw [show (TW.E.two k a b).cb=a.cb++b.cb from rfl,aae] at z; exact z
   refine ⟨_,rfl,p,_,_,_,rfl,rfl,aK.of hp,rfl,rfl,_,rfl,?_⟩
   refine aF (fun c=>absurd (of_decide_eq_true c) (by cases k <;> decide)) (fun _=>?_)
   refine ⟨_,rfl,p,_,_,_,rfl,rfl,aK.of hp,rfl,rfl,_,rfl,?_⟩
   refine aF (fun c=>absurd (of_decide_eq_true c) (by cases k <;> decide)) (fun _=>?_)
   refine ⟨agp,fun fa hfa=>?_⟩
   obtain ⟨H1,s1,g1,zz⟩:=aJ hfa (.lst [])
   rw [zz]; clear zz
   refine ⟨_,rfl,_,rfl,p,_,rfl,aK.of (s1 _ _ hp),(fun z=>absurd z.1 (show ¬ HT.cM 3 0 (some 1)=0 by decide)),fun l hl=>⟨l,rfl,⟨_,aK.of ae⟩,?_⟩⟩
   have s2:ah H1 (upd H1 l (.tup [x1,x2])):=af hl _
   have Iu:l≠fa:=(ai g1 hl).symm
   refine gQ (xs:=[x1,x2]) (fun i σ H2=>(∃pv,σ=[some (.ref p),some (.ref fa),pv])/\ah H H2/\H2 l=some (.tup [x1,x2])/\∃vl,H2 fa=some (.lst vl)/\Paired (b9 H2) vl (([a.cb,b.cb]:List (List (Str×Str))).take i).flatten) ⟨⟨_,rfl⟩,aa s1 s2,ae,[],s2 _ _ g1,.nil⟩ (fun i σ H2 _ z=>aK.of z.2.2.1) (fun i x σ H2 hx z=>?_) (fun σ H2 z=>?_)
   · obtain ⟨⟨pv,rfl⟩,s3,kJ,vl,m5,pr⟩:=z
     obtain ⟨nm,uG,m4⟩ : ∃nm:List (Str×Str),([a.cb,b.cb]:List (List (Str×Str)))[i]? = some nm/\((∃k,x=.int k/\nm=[])\/∃e0:TW.E,cF H x e0/\e0.okIn jc/\e0.dep < n/\e0.cb.length<=1000/\nm=e0.cb):=by
       match i,hx with
       | 0,hx=>cases hx; exact ⟨_,rfl,.inr ⟨a,ax,ok.1,by omega,by omega,rfl⟩⟩
       | 1,hx=>cases hx; exact ⟨_,rfl,.inr ⟨b,ay,ok.2,by omega,by omega,rfl⟩⟩
     have J7:vl.length<=1000:=by
       rw [Paired.length pr]
       have h1:((([a.cb,b.cb]:List (List (Str×Str))).take i).flatten).length<=(([a.cb,b.cb]:List (List (Str×Str))).flatten).length:=by
         have e:([a.cb,b.cb]:List (List (Str×Str))).flatten=(([a.cb,b.cb]:List (List (Str×Str))).take i).flatten++(([a.cb,b.cb]:List (List (Str×Str))).drop i).flatten:=by rw [← aaO,abD]
         rw [e,aae]
         omega
       exact aak h1 (aak (show _<=(TW.E.two k a b).cb.length by simp [TW.E.cb]) hb)
     refine bo ?_
     rcases m4 with ⟨k,rfl,rfl⟩ | ⟨e0,Ae,IC,d0,b0,rfl⟩
     · refine ⟨_,rfl,.int k,"tuple",_,false,rfl,.int k,rfl,_,rfl,iY ?_⟩
       refine ⟨⟨_,rfl⟩,s3,kJ,vl,m5,?_⟩
       rw [aal,uG,aaO]
       show Paired _ vl (_++[])
       rw [aaJ]
       exact pr
     · obtain ⟨px,us,rfl,D3⟩:=Ae.Fo
       refine ⟨_,rfl,.ref px,"tuple",_,true,rfl,.tup (s3 _ _ D3),rfl,_,rfl,fT ?_⟩
       refine ⟨_,rfl,.inl ⟨rfl,_,ao.of m5⟩,_,rfl,.ref px,e0,rfl,cF.keep (ah.tk s3) Ae,IC,d0,b0,fun l2 vQ H3 hl2 s4 g4 p4=>?_⟩
       have AI:=s4 _ _ m5
       have tk:=TK.lst AI (o:=.lst (vl++vQ))
       refine ⟨fa,l2,_,_,rfl,rfl,AI,g4,aak (show _<=2000 by have:=Paired.length p4; omega) (by decide),⟨_,rfl⟩,aG (aa s3 s4) hfa,by rw [aj Iu]; exact s4 _ _ kJ,vl++vQ,ae,?_⟩
       rw [aal,uG,aaO]
       show Paired _ (vl++vQ) (_++(e0.cb++[]))
       rw [aaJ]
       exact Paired.app (Paired.aZ pr fun _ _ z=>b9.keep ((ah.tk s4).trans tk) z) (Paired.aZ p4 fun _ _ z=>b9.keep tk z)
   · obtain ⟨⟨pv,rfl⟩,s3,kJ,vl,m5,pr⟩:=z
     refine ⟨_,rfl,q fa vl H2 hfa s3 m5 ?_⟩
     rw [show (TW.E.two k a b).cb=(([a.cb,b.cb]:List (List (Str×Str))).take ([x1,x2]:List V).length).flatten by simp [TW.E.cb]]
     exact pr
theorem uY {f:Addr}{fd:aao}:aP P w K mg base cO 1 f fd ["thing"] (eO 0):=by
 have no:∀vs H Q E,¬ eO 0 vs H Q E:=fun vs H Q E h=>by
   obtain ⟨_,_,_,_,_,h1,_⟩:=h
   omega
 exact ⟨fun vs H Q E h=>absurd h (no vs H Q E),fun A outer s H args us vs Q E _ _ _ _ h=>absurd h (no vs H Q E)⟩
theorem yi (s:Src K mg "_law_named" kN)(m_tuple:mg "tuple"=none)(m_isinstance:mg "isinstance"=none):∀n:Nat,aX P w K mg base "_law_named" ["thing"] (n + 1) (eO n):=by
 obtain ⟨f,fd,F,m⟩:=s
 have b:Binds K fd ["thing"] []:=qS F fun _ _ _ _ _ _ _=>rfl
 intro n
 have all:aP P w K mg base cO (n + 1) f fd ["thing"] (eO n):=by
   induction n with
   | zero=>exact uY
   | succ n ih=>exact BA F m_tuple m_isinstance ⟨f,fd,ih,F.kp,b,m⟩
 exact ⟨f,fd,all,F.kp,b,m⟩
abbrev nJ:Stmt:=top 62
def fF (S:E->Prop)(d b:Nat)(H:Hp)(v:V):Prop:=∃e:E,cF H v e/\S e/\e≠.yes/\e.okIn jc/\e.dep<=d/\e.cb.length<=b
theorem fF.keep {S:E->Prop}{d b:Nat}{H H':Hp}{v:V}(h:fF S d b H v)(k:TK H H'):fF S d b H' v:=let ⟨e,a,r⟩:=h; ⟨e,cF.keep k a,r⟩
theorem fF.same {S:E->Prop}{d b:Nat}{H H':Hp}{v:V}(h:fF S d b H v)(s:ah H H'):fF S d b H' v:=h.keep (ah.tk s)
theorem fF.up {S:E->Prop}{d b d' b':Nat}{H:Hp}{v:V}(h:fF S d b H v)(hd:d<=d')(hb:b<=b'):fF S d' b' H v:=let ⟨e,a,s,n,o,x,y⟩:=h; ⟨e,a,s,n,o,by omega,by omega⟩
abbrev tQ:=fF E.fS 0 1
theorem nZ {H:Hp}{p:Addr}{n:Int}(h:H p=some (.tup [.str "number",.int n]))(hn:n.natAbs < 2 ^ 100):fF E.fS 0 0 H (.ref p):=⟨.num n,⟨p,rfl,h⟩,aaF,(fun z=>nomatch z),hn,aaf _,aaf _⟩
theorem nY {H:Hp}{v:V}{b:Str×Str}(h:b9 H v b)(hb:b.1="mine"\/b.1="yours"):tQ H v:=⟨.box b.1 b.2,h,aaF,(fun z=>nomatch z),hb,aaf _,aaf _⟩
theorem dz {S S':E->Prop}{d b d' b':Nat}{H:Hp}{p:Addr}{x y:V}{k:K2}(hS:∀a b,S a->S b->S' (.two k a b))(h:H p=some (.tup [.str k.str,x,y]))(hx:fF S d b H x)(hy:fF S d' b' H y):fF S' (d + d' + 1) (b + b') H (.ref p):=by
 obtain ⟨e1,a1,s1,_,o1,d1,n1⟩:=hx
 obtain ⟨e2,a2,s2,_,o2,d2,n2⟩:=hy
 refine ⟨.two k e1 e2,⟨x,y,⟨p,rfl,h⟩,a1,a2⟩,hS _ _ s1 s2,(fun z=>nomatch z),⟨o1,o2⟩,?_,?_⟩
 · show max e1.dep e2.dep + 1<=_
   omega
 · show (e1.cb++e2.cb).length<=_
   rw [aae]
   omega
theorem vM {d b:Nat}{H:Hp}{p:Addr}{x:V}(h:H p=some (.tup [.str "not",x]))(hx:fF E.gR d b H x):fF E.gR (d + 1) b H (.ref p):=by
 obtain ⟨e1,a1,s1,_,o1,d1,n1⟩:=hx
 exact ⟨.nt e1,⟨x,⟨p,rfl,h⟩,a1⟩,s1,(fun z=>nomatch z),o1,by show e1.dep + 1<=_; omega,n1⟩
def dI (H:Hp)(vl:List V):Prop:=∀v∈vl,tQ H v
theorem dI.keep {H H':Hp}{vl:List V}(h:dI H vl)(k:TK H H'):dI H' vl:=fun v hv=>(h v hv).keep k
theorem dI.app {H:Hp}{xs ys:List V}(h:dI H xs)(k:dI H ys):dI H (xs++ys):=fun v hv=>(List.mem_append.mp hv).elim (h v) (k v)
theorem dI.rep {H:Hp}{xs:List V}(h:dI H xs)(k:Nat):dI H (aaD k xs).flatten:=fun v hv=>by
 obtain ⟨ys,X2,hv⟩:=List.mem_flatten.mp hv
 rw [(List.mem_replicate.mp X2).2] at hv
 exact h v hv
theorem dI.one {H:Hp}{v:V}(h:tQ H v):dI H [v]:=fun w hw=>by rw [List.mem_singleton.mp hw]; exact h
theorem dI.at {H:Hp}{xs:List V}(h:dI H xs){r:Int}(h0:0<=r)(h1:r < (xs.length:Int)):∃v,lU xs r=some v/\tQ H v:=by
 obtain ⟨v,gv,hv⟩:=qQ (xs:=xs) h0 h1
 exact ⟨v,hv,h v (aan gv)⟩
def mi:Sp:=fun vs H Q _=>∃(r ka:Addr) (row:List Int) (n:Nat) (vk:List V) (kn:List (Str×Str)),vs=[.ref r,.ref ka]/\H r=some (.lst (row.map V.int))/\Row (2 ^ 30) row n/\5<=n/\H ka=some (.lst vk)/\Paired (b9 H) vk kn/\vk.length<=20/\(∀b∈kn,b.1="mine"\/b.1="yours") /\
 ∀(v:V) (e:E) (H':Hp),ah H H'->cF H' v e->(e.fS\/(e.gR/\e≠.yes))->e.okIn jc->e.dep < 20->e.cb.length<=1000->Q v H'
theorem dj:aD ["row","known","bad","side","name","turned","some","odd","one","other","first","menu"] ["row","known"] (ag nJ):=⟨rfl,rfl,rfl,by decide +kernel,rfl,by decide +kernel,by decide +kernel⟩
theorem mZ:aY nJ "int":=by decide +kernel
theorem fu:aY nJ "len":=by decide +kernel
theorem BD {f:Addr}{fd:aao}(F:cJ K "_law_thing" "_law_thing" nJ f fd)(m_int:mg "int"=none)(m_len:mg "len"=none):aP P w K mg base cO 1 f fd ["row","known"] mi:=by
 refine F.ok dj (fun vs H Q E h=>?_) (fun cdv A outer s H vs Q E hr h=>?_)
 · obtain ⟨r,ka,row,n,vk,kn,rfl,_⟩:=h
   rfl
 obtain ⟨r,ka,row,n,vk,kn,rfl,C1,hR,n5,hk,pk,Zg,ktag,q⟩:=h
 obtain ⟨x0,a0,J8,KH⟩:=hR.at (i:=0) (by decide) (by omega)
 obtain ⟨x1,a1,KI,KJ⟩:=hR.at (i:=1) (by decide) (by omega)
 obtain ⟨x2,a2,OD,OE⟩:=hR.at (i:=2) (by decide) (by omega)
 obtain ⟨x3,a3,UX,UY⟩:=hR.at (i:=3) (by decide) (by omega)
 obtain ⟨x4,a4,RV,UZ⟩:=hR.at (i:=4) (by decide) (by omega)
 obtain ⟨as,rfl⟩:=qC pk
 rw [aab] at Zg
 have sH:=same_refl H
 have PX:=hk
 have hr1:=C1
 refine kI ⟨_,(ael (aev 2 dj.nd (aeB (aeh (aer (aeh aep (aeh aep aej))) (aeh (aer (aeh aep (aeh aep aej))) (aeh (aer (aeh aep (aeh aep aej))) aej)))))
   (ael (aeX (aeO (aei 1)) (aeG 2 (aex (aes 3 dj.nd) (aex (aes 4 dj.nd) aeH))) (ael (aev 5 dj.nd (aer (aeh (aem aeu (aeB (aeh aep (aeh aep aej))) (aeK afc mZ m_int (by decide +kernel) (aeh (aeS aeE (aei 3) aep) aej))) (aeh (aei 4) aej))))
   (aeo (aez (aey (L3.Bq (m:=1) (bQ hr _ (by decide))) (aei 5) (aei 1) (by rfl)) (aeo (aeI (ae1 (aei 2) (aeh (aei 5) aej)))) aeA))))
   (ael (aev 6 dj.nd (aen aeV (aen L3.wO (aei 1) aek) (aen L3.wO (aeB (aeh (aer (aeh aep (aeh aek aej))) aej)) aek)))
   (ael (aev 7 dj.nd (aen aeV (aei 6) (aen L3.wO (aei 2) (aeK afc mZ m_int (by decide +kernel) (aeh (aeS aeE (aen aeC (aem aeu (aei 0) aek) aek) aek) aej)))))
   (ael (aev 8 dj.nd (aem aeu (aei 7) (aen aeC (aem aeu (aei 0) aek) (aeD aeF fu m_len aaq (aeh (aei 7) aej)))))
   (ael (aev 9 dj.nd (aer (aeh aep (aeh (aer (aeh aep (aeh (aer (aeh aep (aeh aek aej))) (aeh (aem aeu (aei 6) (aen aeC (aem aeu (aei 0) aek) (aeD aeF fu m_len aaq (aeh (aei 6) aej)))) aej)))) (aeh (aem aeu (aei 7) (aen aeC (aem aeu (aei 0) aek) (aeD aeF fu m_len aaq (aeh (aei 7) aej)))) aej)))))
   (ael (aev 10 dj.nd (aer (aeh aep (aeh (aem aeu (aei 6) (aen aeC (aem aeu (aei 0) aek) (aeD aeF fu m_len aaq (aeh (aei 6) aej)))) (aeh (aer (aeh aep (aeh (aen aeC (aem aeu (aei 0) aek) aek) aej))) aej)))))
   (ael (aev 11 dj.nd (aeB (aeh (aei 8) (aeh (aei 9) (aeh (aer (aeh aep (aeh (aei 8) (aeh (aei 9) aej)))) (aeh (aer (aeh aep (aeh (aei 9) (aeh (aer (aeh aep (aeh aek aej))) aej)))) aej))))))
   (ael (aeI (ae1 (aei 11) (aeh (aer (aeh aep (aeh (aei 10) (aeh (aer (aeh aep (aeh (aei 8) (aeh (aei 9) aej)))) aej)))) aej)))
   (ael (aeI (ae1 (aei 11) (aeh (aer (aeh aep (aeh (aer (aeh aep (aeh (aer (aeh aep (aeh (aei 10) aej))) (aeh (aer (aeh aep (aeh (aer (aeh aep (aeh (aei 8) (aeh (aei 8) aej)))) aej))) aej)))) aej))) aej)))
   (ael (aeI (ae1 (aei 11) (aeh (aer (aeh aep (aeh (aei 10) (aeh (aer (aeh aep (aeh (aei 9) (aeh (aei 8) aej)))) aej)))) aej)))
   (ael (aeI (ae1 (aei 11) (aeh (aer (aeh aep (aeh (aer (aeh aep (aeh (aei 8) (aeh (aer (aeh aep (aeh aek aej))) aej)))) (aeh (aem aeu (aei 6) aek) aej)))) aej)))
   (aeo (aeq (aem aeu (aei 11) (aen aeC (aem aeu (aei 0) aek) aek)))))))))))))))),?_⟩
 refine Dz fun Rk kR=>?_
 refine ⟨agr,fun b0 wA=>?_⟩
 obtain ⟨H1,z,g,zz⟩:=aJ wA (.tup [.str "mine",.str "qq"])
 rw [zz]; clear zz
 replace hk:=z _ _ hk
 replace hr1:=z _ _ hr1
 replace sH:=aa sH z
 have f0:tQ H1 (.ref b0):=nY (b:=("mine","qq")) ⟨b0,rfl,g⟩ (by decide)
 clear z g
 refine ⟨agr,fun b1 zA=>?_⟩
 obtain ⟨H2,z,g,zz⟩:=aJ zA (.tup [.str "yours",.str "qq"])
 rw [zz]; clear zz
 replace hk:=z _ _ hk
 replace hr1:=z _ _ hr1
 replace f0:=f0.same z
 replace sH:=aa sH z
 have f1:tQ H2 (.ref b1):=nY (b:=("yours","qq")) ⟨b1,rfl,g⟩ (by decide)
 clear z g
 refine ⟨agr,fun b2 og=>?_⟩
 obtain ⟨H3,z,g,zz⟩:=aJ og (.tup [.str "mine",.str "w"])
 rw [zz]; clear zz
 replace hk:=z _ _ hk
 replace hr1:=z _ _ hr1
 replace f0:=f0.same z
 replace f1:=f1.same z
 replace sH:=aa sH z
 have f2:tQ H3 (.ref b2):=nY (b:=("mine","w")) ⟨b2,rfl,g⟩ (by decide)
 clear z g
 refine ⟨ags,fun ba Tq=>?_⟩
 have Iq:H ba=none:=aq sH Tq
 obtain ⟨H4,z,Wf,zz⟩:=aJ Tq (.lst [.ref b0,.ref b1,.ref b2])
 rw [zz]; clear zz
 replace hk:=z _ _ hk
 replace hr1:=z _ _ hr1
 replace f0:=f0.same z
 replace f1:=f1.same z
 replace f2:=f2.same z
 replace sH:=aa sH z
 clear z
 have Sx:dI H4 [.ref b0,.ref b1,.ref b2]:=fun v hv=>by
   rcases List.mem_cons.mp hv with rfl | hv
   · exact f0
   rcases List.mem_cons.mp hv with rfl | hv
   · exact f1
   rw [List.mem_singleton.mp hv]
   exact f2
 clear f0 f1 f2
 refine ⟨_,rfl,ka,rfl,⟨_,ao.of hk⟩,?_⟩
 refine fW (xs:=as.map V.ref) (fun i σ Hx=>(∃sv nv tv,σ=[some (.ref r),some (.ref ka),some (.ref ba),sv,nv,tv,none,none,none,none,none,none])/\ah H Hx/\∃vl,Hx ba=some (.lst vl)/\dI Hx vl/\vl.length<=3 + i) ⟨⟨_,_,_,rfl⟩,sH,_,Wf,Sx,aaf _⟩ (fun i σ Hx _ z=>ao.of (z.2.1 _ _ PX)) (fun i x σ Hx hx z=>?_) (fun σ Hx z=>?_)
 · obtain ⟨⟨sv,nv,tv,rfl⟩,sx,vl,hb,al,J7⟩:=z
   obtain ⟨b,fR,p,rfl,hp⟩:=Paired.get pk hx
   have dQ:=(List.getElem?_eq_some_iff.mp hx).1
   rw [aab] at dQ
   have tg:=ktag b (aan fR)
   refine ⟨p,_,rfl,aK.of (sx _ _ hp),rfl,_,_,rfl,_,_,rfl,rfl,?_⟩
   refine ⟨agr,fun ml LJ=>?_⟩
   obtain ⟨Zn,sm,gm,zz⟩:=aJ LJ (.lst [.str "mine",.str "yours"])
   rw [zz]; clear zz
   obtain ⟨t0,XN,Pk⟩ : ∃t0:Str,(t0="mine"\/t0="yours")/\lU [V.str "mine",V.str "yours"] (if decide (V.str b.1=V.str "mine")=true then 1 else 0)=some (.str t0):=by
     by_cases c:decide (V.str b.1=V.str "mine")=true
     · rw [if_pos c]
       exact ⟨"yours",.inr rfl,rfl⟩
     · rw [if_neg c]
       exact ⟨"mine",.inl rfl,rfl⟩
   refine ⟨_,rfl,rfl,.inr ⟨_,rfl,ml,_,_,_,rfl,rfl,ao.of gm,Pk,_,rfl,agr,fun tp uL=>?_⟩⟩
   obtain ⟨OJ,st,gt,zz⟩:=aJ uL (.tup [.str t0,.str b.2])
   rw [zz]; clear zz
   have RQ:=aa sm st
   have sxt:=aa sx RQ
   have Y6:∀a∈as,EB K OJ 1 (.ref a) (.ref tp) (twoF OJ t0 b.2 a):=fun a ha=>by
     obtain ⟨j,hj⟩:=List.mem_iff_getElem?.mp ha
     obtain ⟨bb,_,p',e',h'⟩:=Paired.get pk (show (as.map V.ref)[j]? = some (.ref a) by rw [aaC,hj]; rfl)
     cases e'
     exact two_eb (sxt _ _ h') gt
   refine ⟨_,rfl,_,rfl,ka,as,twoF OJ t0 b.2,rfl,ao.of (sxt _ _ PX),Y6,_,rfl,?_⟩
   have zA:=RQ _ _ hb
   have Sw:=al.keep (ah.tk RQ)
   refine aF (fun _=>?_) (fun _=>?_)
   · refine ⟨_,rfl,.inl ⟨rfl,_,ao.of zA⟩,_,rfl,ba,vl,_,rfl,rfl,zA,aB (by omega),⟨_,_,_,rfl⟩,aG sxt Iq,_,ae,?_,by rw [aae]; show _ + 1<=_; omega⟩
     have tk:=TK.lst zA (o:=.lst (vl++[.ref tp]))
     exact (Sw.keep tk).app (dI.one ((nY (b:=(t0,b.2)) ⟨tp,rfl,gt⟩ XN).keep tk))
   · exact ⟨⟨_,_,_,rfl⟩,sxt,vl,zA,Sw,by omega⟩
 obtain ⟨⟨sv,nv,tv,rfl⟩,sH,vl,hb,al,J7⟩:=z
 rw [aab] at J7
 have hk:=sH _ _ PX
 have hr1:=sH _ _ C1
 have zD:dI Hx (as.map V.ref):=fun v hv=>by
   obtain ⟨j,hj⟩:=List.mem_iff_getElem?.mp hv
   obtain ⟨bb,hbb,h'⟩:=Paired.get pk hj
   exact (nY h' (ktag bb (aan hbb))).same sH
 obtain ⟨xs1,NT⟩ : ∃xs1,xs1=(aaD (3:Int).toNat (as.map V.ref)).flatten:=⟨_,rfl⟩
 have Yg:xs1.length=3 * as.length:=by rw [NT]; exact (L2.len_rep _ 3).trans (by rw [aab])
 have tT:dI Hx xs1:=by rw [NT]; exact zD.rep 3
 refine ⟨_,rfl,ka,3,_,rfl,rfl,hk,(by decide),(by decide),aak (show _<=60 by rw [aab]; show as.length * 3<=60; omega) (by decide),?_⟩
 rw [← NT]
 clear NT
 refine fun k3 FV=>?_
 obtain ⟨H5,z,g1,zz⟩:=aJ FV (.lst (xs1))
 rw [zz]; clear zz
 replace hk:=z _ _ hk
 replace hr1:=z _ _ hr1
 replace hb:=z _ _ hb
 replace sH:=aa sH z
 replace al:=al.keep (ah.tk z)
 replace zD:=zD.keep (ah.tk z)
 replace tT:=tT.keep (ah.tk z)
 clear z
 refine ⟨agr,fun n3 Qi=>?_⟩
 obtain ⟨H6,z,g,zz⟩:=aJ Qi (.tup [.str "number",.int 3])
 rw [zz]; clear zz
 replace hk:=z _ _ hk
 replace hr1:=z _ _ hr1
 replace hb:=z _ _ hb
 replace g1:=z _ _ g1
 replace sH:=aa sH z
 replace al:=al.keep (ah.tk z)
 replace zD:=zD.keep (ah.tk z)
 replace tT:=tT.keep (ah.tk z)
 have fn:fF TW.E.fS 0 0 H6 (.ref n3):=nZ g (by decide)
 clear z g
 have FD:dI H6 [.ref n3]:=dI.one (fn.up (aaf _) (aaU _))
 clear fn
 refine ⟨agq,fun Yh Qg=>?_⟩
 obtain ⟨H7,z,g2,zz⟩:=aJ Qg (.lst ([.ref n3]))
 rw [zz]; clear zz
 replace hk:=z _ _ hk
 replace hr1:=z _ _ hr1
 replace hb:=z _ _ hb
 replace g1:=z _ _ g1
 replace sH:=aa sH z
 replace al:=al.keep (ah.tk z)
 replace zD:=zD.keep (ah.tk z)
 replace tT:=tT.keep (ah.tk z)
 replace FD:=FD.keep (ah.tk z)
 clear z
 obtain ⟨xs2,NV⟩ : ∃xs2,xs2=(aaD (3:Int).toNat [V.ref n3]).flatten:=⟨_,rfl⟩
 have ln2:xs2.length=3:=by rw [NV]; rfl
 have at2:dI H7 xs2:=by rw [NV]; exact FD.rep 3
 refine ⟨Yh,3,_,rfl,rfl,g2,(by decide),(by decide),aak (show _<=3 from aaf 3) (by decide),?_⟩
 rw [← NV]
 clear NV
 refine fun k4 C0=>?_
 obtain ⟨H8,z,g3,zz⟩:=aJ C0 (.lst (xs2))
 rw [zz]; clear zz
 replace hk:=z _ _ hk
 replace hr1:=z _ _ hr1
 replace hb:=z _ _ hb
 replace g1:=z _ _ g1
 replace g2:=z _ _ g2
 replace sH:=aa sH z
 replace al:=al.keep (ah.tk z)
 replace zD:=zD.keep (ah.tk z)
 replace tT:=tT.keep (ah.tk z)
 replace FD:=FD.keep (ah.tk z)
 replace at2:=at2.keep (ah.tk z)
 clear z
 obtain ⟨ss,es⟩ : ∃ss,ss=xs1++xs2:=⟨_,rfl⟩
 have ZQ:ss.length=3 * as.length + 3:=by rw [es,aae,Yg,ln2]
 have cU:dI H8 ss:=by rw [es]; exact tT.app at2
 refine ⟨k3,k4,_,_,rfl,rfl,g1,g3,aak (show _<=63 by omega) (by decide),?_⟩
 rw [← es]
 clear es
 refine fun sa rT=>?_
 obtain ⟨H9,z,hs,zz⟩:=aJ rT (.lst (ss))
 rw [zz]; clear zz
 replace hk:=z _ _ hk
 replace hr1:=z _ _ hr1
 replace hb:=z _ _ hb
 replace g1:=z _ _ g1
 replace g2:=z _ _ g2
 replace g3:=z _ _ g3
 replace sH:=aa sH z
 replace al:=al.keep (ah.tk z)
 replace zD:=zD.keep (ah.tk z)
 replace tT:=tT.keep (ah.tk z)
 replace FD:=FD.keep (ah.tk z)
 replace at2:=at2.keep (ah.tk z)
 replace cU:=cU.keep (ah.tk z)
 clear z
 clear g1 g2 g3 FD tT at2 zD
 refine bo ?_
 refine kR _ _ ?_
 refine b8 [some (.ref r),some (.ref ka),some (.ref ba),sv,nv,tv,some (.ref sa),none,none,none,none,none] rfl ?_
 refine eC fun Rk kR=>?_
 obtain ⟨c3,VC⟩ : ∃c3,c3=decide (V.int (x3 % 3)=V.int 0):=⟨_,rfl⟩
 obtain ⟨k0,O3⟩ : ∃k0:Int,k0=if decide (V.int (x3 % 3)=V.int 0)=true then 1 else 0:=⟨_,rfl⟩
 have Ya:0<=k0/\k0<=1:=by rw [O3]; split <;> decide
 obtain ⟨xs4,NW⟩ : ∃xs4,xs4=(aaD k0.toNat vl).flatten:=⟨_,rfl⟩
 have ZO:xs4.length<=23:=by
   rw [NW,L2.len_rep]
   have:k0.toNat<=1:=by omega
   exact aak (Nat.mul_le_mul_right _ this) (by omega)
 have Ki:dI H9 xs4:=by rw [NW]; exact al.rep _
 refine ⟨_,rfl,_,rfl,_,rfl,r,_,_,_,rfl,rfl,ao.of hr1,a3,_,_,rfl,rfl,(by show (0:Int) < 3; decide),rfl,.inr ⟨_,rfl,ba,k0,vl,rfl,(by rw [O3]),hb,(by omega),ac7 Ya.2 (by decide),?_,?_⟩⟩
 · have:k0.toNat<=1:=by omega
   exact aak (Nat.mul_le_mul_left _ this) (aak (show _<=23 by omega) (by decide))
 rw [← NW]
 clear NW O3 VC
 refine fun k5 Xg=>?_
 obtain ⟨GS,z,g4,zz⟩:=aJ Xg (.lst (xs4))
 rw [zz]; clear zz
 replace hk:=z _ _ hk
 replace hr1:=z _ _ hr1
 replace hb:=z _ _ hb
 replace hs:=z _ _ hs
 replace sH:=aa sH z
 replace al:=al.keep (ah.tk z)
 replace cU:=cU.keep (ah.tk z)
 replace Ki:=Ki.keep (ah.tk z)
 clear z
 obtain ⟨os,eo⟩ : ∃os,os=ss++xs4:=⟨_,rfl⟩
 have ZP:3<=os.length/\os.length<=100:=by rw [eo,aae]; omega
 have mB:dI GS os:=by rw [eo]; exact cU.app Ki
 refine ⟨sa,k5,_,_,rfl,rfl,hs,g4,aak (show _<=100 by omega) (by decide),?_⟩
 rw [← eo]
 clear eo
 refine fun oa LK=>?_
 obtain ⟨OH,z,ho,zz⟩:=aJ LK (.lst (os))
 rw [zz]; clear zz
 replace hk:=z _ _ hk
 replace hr1:=z _ _ hr1
 replace hb:=z _ _ hb
 replace hs:=z _ _ hs
 replace g4:=z _ _ g4
 replace sH:=aa sH z
 replace al:=al.keep (ah.tk z)
 replace cU:=cU.keep (ah.tk z)
 replace Ki:=Ki.keep (ah.tk z)
 replace mB:=mB.keep (ah.tk z)
 clear z
 clear g4 Ki al hb
 refine bo ?_
 refine kR _ _ ?_
 refine b8 [some (.ref r),some (.ref ka),some (.ref ba),sv,nv,tv,some (.ref sa),some (.ref oa),none,none,none,none] rfl ?_
 refine eC fun Rk kR=>?_
 obtain ⟨v1,VH,f1⟩:=mB.at (r:=x0 % (os.length:Int)) (aav _ (by omega)) (aap _ (by omega))
 refine ⟨_,rfl,_,rfl,r,_,_,_,rfl,rfl,ao.of hr1,a0,_,rfl,oa,_,rfl,.inl (ao.of ho),_,_,rfl,rfl,(by show (0:Int) < (os.length:Int); omega),oa,_,_,_,rfl,rfl,ao.of ho,VH,?_⟩
 refine bo ?_
 refine kR _ _ ?_
 refine b8 [some (.ref r),some (.ref ka),some (.ref ba),sv,nv,tv,some (.ref sa),some (.ref oa),some v1,none,none,none] rfl ?_
 refine eC fun Rk kR=>?_
 refine ⟨agr,fun q1 oD=>?_⟩
 obtain ⟨Nz,z,g,zz⟩:=aJ oD (.tup [.str "number",.int 1])
 rw [zz]; clear zz
 replace hk:=z _ _ hk
 replace hr1:=z _ _ hr1
 replace hs:=z _ _ hs
 replace ho:=z _ _ ho
 replace f1:=f1.same z
 replace sH:=aa sH z
 replace cU:=cU.keep (ah.tk z)
 replace mB:=mB.keep (ah.tk z)
 have h1:fF TW.E.fS 0 0 Nz (.ref q1):=nZ g (by decide)
 clear z g
 obtain ⟨v2,VI,f2⟩:=cU.at (r:=x1 % (ss.length:Int)) (aav _ (by omega)) (aap _ (by omega))
 refine ⟨_,rfl,_,rfl,r,_,_,_,rfl,rfl,ao.of hr1,a1,_,rfl,sa,_,rfl,.inl (ao.of hs),_,_,rfl,rfl,(by show (0:Int) < (ss.length:Int); omega),sa,_,_,_,rfl,rfl,ao.of hs,VI,ags,fun q2 oE=>?_⟩
 obtain ⟨R8,z,g,zz⟩:=aJ oE (.tup [.str "less",.ref q1,v2])
 rw [zz]; clear zz
 replace hk:=z _ _ hk
 replace hr1:=z _ _ hr1
 replace hs:=z _ _ hs
 replace ho:=z _ _ ho
 replace f1:=f1.same z
 replace h1:=h1.same z
 replace f2:=f2.same z
 replace sH:=aa sH z
 replace cU:=cU.keep (ah.tk z)
 replace mB:=mB.keep (ah.tk z)
 have h2:fF TW.E.fS 1 1 R8 (.ref q2):=dz (k:=.less) (fun _ _ a b=>⟨a,b⟩) g h1 f2
 clear z g
 obtain ⟨v3,O9,f3⟩:=mB.at (r:=x2 % (os.length:Int)) (aav _ (by omega)) (aap _ (by omega))
 refine ⟨_,rfl,_,rfl,r,_,_,_,rfl,rfl,ao.of hr1,a2,_,rfl,oa,_,rfl,.inl (ao.of ho),_,_,rfl,rfl,(by show (0:Int) < (os.length:Int); omega),oa,_,_,_,rfl,rfl,ao.of ho,O9,ags,fun q3 LR=>?_⟩
 obtain ⟨R9,z,g,zz⟩:=aJ LR (.tup [.str "plus",.ref q2,v3])
 rw [zz]; clear zz
 replace hk:=z _ _ hk
 replace hr1:=z _ _ hr1
 replace hs:=z _ _ hs
 replace ho:=z _ _ ho
 replace f1:=f1.same z
 replace h1:=h1.same z
 replace f2:=f2.same z
 replace h2:=h2.same z
 replace f3:=f3.same z
 replace sH:=aa sH z
 replace cU:=cU.keep (ah.tk z)
 replace mB:=mB.keep (ah.tk z)
 have h3:fF TW.E.fS 2 2 R9 (.ref q3):=dz (k:=.plus) (fun _ _ a b=>⟨a,b⟩) g h2 f3
 clear z g
 clear h1 h2 f3
 refine bo ?_
 refine kR _ _ ?_
 refine b8 [some (.ref r),some (.ref ka),some (.ref ba),sv,nv,tv,some (.ref sa),some (.ref oa),some v1,some (.ref q3),none,none] rfl ?_
 refine eC fun Rk kR=>?_
 have m2:(x2 % 2).natAbs < 2 ^ 100:=abV (show _<=2 by omega) (by decide)
 obtain ⟨v4,VJ,f4⟩:=cU.at (r:=x1 % (ss.length:Int)) (aav _ (by omega)) (aap _ (by omega))
 refine ⟨_,rfl,_,rfl,r,_,_,_,rfl,rfl,ao.of hr1,a1,_,rfl,sa,_,rfl,.inl (ao.of hs),_,_,rfl,rfl,(by show (0:Int) < (ss.length:Int); omega),sa,_,_,_,rfl,rfl,ao.of hs,VJ,_,rfl,r,_,_,_,rfl,rfl,ao.of hr1,a2,_,_,rfl,rfl,(by show (0:Int) < 2; decide),agr,fun q4 XA=>?_⟩
 obtain ⟨Sa,z,g,zz⟩:=aJ XA (.tup [.str "number",.int (x2 % 2)])
 rw [zz]; clear zz
 replace hk:=z _ _ hk
 replace hr1:=z _ _ hr1
 replace hs:=z _ _ hs
 replace ho:=z _ _ ho
 replace f1:=f1.same z
 replace f2:=f2.same z
 replace h3:=h3.same z
 replace f4:=f4.same z
 replace sH:=aa sH z
 replace cU:=cU.keep (ah.tk z)
 replace mB:=mB.keep (ah.tk z)
 have h4:fF TW.E.fS 0 0 Sa (.ref q4):=nZ g m2
 clear z g
 refine ⟨ags,fun q5 XB=>?_⟩
 obtain ⟨Sb,z,g,zz⟩:=aJ XB (.tup [.str "same",v4,.ref q4])
 rw [zz]; clear zz
 replace hk:=z _ _ hk
 replace hr1:=z _ _ hr1
 replace hs:=z _ _ hs
 replace ho:=z _ _ ho
 replace f1:=f1.same z
 replace f2:=f2.same z
 replace h3:=h3.same z
 replace f4:=f4.same z
 replace h4:=h4.same z
 replace sH:=aa sH z
 replace cU:=cU.keep (ah.tk z)
 replace mB:=mB.keep (ah.tk z)
 have h5:fF TW.E.gR 1 1 Sb (.ref q5):=dz (k:=.same) (fun _ _ a b=>⟨a,b⟩) g f4 h4
 clear z g
 clear h4 f4
 refine bo ?_
 refine kR _ _ ?_
 refine b8 [some (.ref r),some (.ref ka),some (.ref ba),sv,nv,tv,some (.ref sa),some (.ref oa),some v1,some (.ref q3),some (.ref q5),none] rfl ?_
 refine eC fun Rk kR=>?_
 refine ⟨_,rfl,_,rfl,_,rfl,_,rfl,ags,fun q6 XC=>?_⟩
 obtain ⟨Sd,z,g,zz⟩:=aJ XC (.tup [.str "same",v1,.ref q3])
 rw [zz]; clear zz
 replace hk:=z _ _ hk
 replace hr1:=z _ _ hr1
 replace hs:=z _ _ hs
 replace ho:=z _ _ ho
 replace f1:=f1.same z
 replace f2:=f2.same z
 replace h3:=h3.same z
 replace h5:=h5.same z
 replace sH:=aa sH z
 replace cU:=cU.keep (ah.tk z)
 replace mB:=mB.keep (ah.tk z)
 have h6:fF TW.E.gR 3 3 Sd (.ref q6):=dz (k:=.same) (fun _ _ a b=>⟨a,b⟩) g f1 h3
 clear z g
 refine ⟨_,rfl,agr,fun q7 XD=>?_⟩
 obtain ⟨Se,z,g,zz⟩:=aJ XD (.tup [.str "number",.int 2])
 rw [zz]; clear zz
 replace hk:=z _ _ hk
 replace hr1:=z _ _ hr1
 replace hs:=z _ _ hs
 replace ho:=z _ _ ho
 replace f1:=f1.same z
 replace f2:=f2.same z
 replace h3:=h3.same z
 replace h5:=h5.same z
 replace h6:=h6.same z
 replace sH:=aa sH z
 replace cU:=cU.keep (ah.tk z)
 replace mB:=mB.keep (ah.tk z)
 have h7:fF TW.E.fS 0 0 Se (.ref q7):=nZ g (by decide)
 clear z g
 refine ⟨ags,fun q8 XE=>?_⟩
 obtain ⟨Sf,z,g,zz⟩:=aJ XE (.tup [.str "under",.ref q3,.ref q7])
 rw [zz]; clear zz
 replace hk:=z _ _ hk
 replace hr1:=z _ _ hr1
 replace hs:=z _ _ hs
 replace ho:=z _ _ ho
 replace f1:=f1.same z
 replace f2:=f2.same z
 replace h3:=h3.same z
 replace h5:=h5.same z
 replace h6:=h6.same z
 replace h7:=h7.same z
 replace sH:=aa sH z
 replace cU:=cU.keep (ah.tk z)
 replace mB:=mB.keep (ah.tk z)
 have h8:fF TW.E.gR 3 2 Sf (.ref q8):=dz (k:=.under) (fun _ _ a b=>⟨a,b⟩) g h3 h7
 clear z g
 clear h7
 refine ⟨agt,fun mm N8=>?_⟩
 have nm:H mm=none:=aq sH N8
 have Oi:sa≠mm:=ai hs N8
 have Oh:r≠mm:=ai hr1 N8
 obtain ⟨Sg,z,hm,zz⟩:=aJ N8 (.lst [v1,.ref q3,.ref q6,.ref q8])
 rw [zz]; clear zz
 replace hk:=z _ _ hk
 replace hr1:=z _ _ hr1
 replace hs:=z _ _ hs
 replace ho:=z _ _ ho
 replace f1:=f1.same z
 replace f2:=f2.same z
 replace h3:=h3.same z
 replace h5:=h5.same z
 replace h6:=h6.same z
 replace h8:=h8.same z
 replace sH:=aa sH z
 replace cU:=cU.keep (ah.tk z)
 replace mB:=mB.keep (ah.tk z)
 clear z
 refine bo ?_
 refine kR _ _ ?_
 refine b8 [some (.ref r),some (.ref ka),some (.ref ba),sv,nv,tv,some (.ref sa),some (.ref oa),some v1,some (.ref q3),some (.ref q5),some (.ref mm)] rfl ?_
 refine eC fun Rk kR=>?_
 clear hk ho mB
 refine ⟨_,rfl,.inl ⟨rfl,_,ao.of hm⟩,_,rfl,_,rfl,_,rfl,ags,fun w1 L0=>?_⟩
 obtain ⟨Sh,z,g,zz⟩:=aJ L0 (.tup [.str "under",v1,.ref q3])
 rw [zz]; clear zz
 replace hr1:=z _ _ hr1
 replace hs:=z _ _ hs
 replace hm:=z _ _ hm
 replace f1:=f1.same z
 replace f2:=f2.same z
 replace h3:=h3.same z
 replace h5:=h5.same z
 replace h6:=h6.same z
 replace h8:=h8.same z
 replace sH:=aa sH z
 replace cU:=cU.keep (ah.tk z)
 have j1:fF TW.E.gR 3 3 Sh (.ref w1):=dz (k:=.under) (fun _ _ a b=>⟨a,b⟩) g f1 h3
 clear z g
 refine ⟨ags,fun w2 Ku=>?_⟩
 obtain ⟨zv,z,g,zz⟩:=aJ Ku (.tup [.str "both",.ref q5,.ref w1])
 rw [zz]; clear zz
 replace hr1:=z _ _ hr1
 replace hs:=z _ _ hs
 replace hm:=z _ _ hm
 replace f1:=f1.same z
 replace f2:=f2.same z
 replace h3:=h3.same z
 replace h5:=h5.same z
 replace h6:=h6.same z
 replace h8:=h8.same z
 replace j1:=j1.same z
 replace sH:=aa sH z
 replace cU:=cU.keep (ah.tk z)
 have j2:fF TW.E.gR 5 4 zv (.ref w2):=dz (k:=.both) (fun _ _ a b=>⟨a,b⟩) g h5 j1
 clear z g
 clear j1
 refine ⟨mm,_,_,rfl,rfl,hm,aB (by show 4<=1000; decide),?_⟩
 refine kR _ _ ?_
 refine eC fun Rk kR=>?_
 have tk:TK zv (upd zv mm (.lst [v1,.ref q3,.ref q6,.ref q8,.ref w2])):=TK.lst hm
 have hm2:(upd zv mm (.lst [v1,.ref q3,.ref q6,.ref q8,.ref w2])) mm=some (.lst [v1,.ref q3,.ref q6,.ref q8,.ref w2]):=ae
 have vC:ah H (upd zv mm (.lst [v1,.ref q3,.ref q6,.ref q8,.ref w2])):=aG sH nm
 have hs2:(upd zv mm (.lst [v1,.ref q3,.ref q6,.ref q8,.ref w2])) sa=some (.lst ss):=by rw [aj Oi]; exact hs
 have m6:(upd zv mm (.lst [v1,.ref q3,.ref q6,.ref q8,.ref w2])) r=some (.lst (row.map V.int)):=by rw [aj Oh]; exact hr1
 show _
 generalize e9:upd zv mm (.lst [v1,.ref q3,.ref q6,.ref q8,.ref w2])=Si at tk hm2 vC hs2 m6
 rw [show upd zv mm (.lst ([v1,.ref q3,.ref q6,.ref q8]++[.ref w2]))=Si from e9]
 clear e9
 replace f1:=f1.keep tk
 replace f2:=f2.keep tk
 replace h3:=h3.keep tk
 replace h5:=h5.keep tk
 replace h6:=h6.keep tk
 replace h8:=h8.keep tk
 replace j2:=j2.keep tk
 replace cU:=cU.keep tk
 clear sH hm hs hr1
 have sH:=vC
 have hm:=hm2
 have hs:=hs2
 have hr1:=m6
 clear tk vC hm2 hs2 m6
 refine ⟨_,rfl,.inl ⟨rfl,_,ao.of hm⟩,_,rfl,agr,fun w3 Kv=>?_⟩
 obtain ⟨Sj,z,g,zz⟩:=aJ Kv (.tup [.str "not",.ref q5])
 rw [zz]; clear zz
 replace hr1:=z _ _ hr1
 replace hs:=z _ _ hs
 replace hm:=z _ _ hm
 replace f1:=f1.same z
 replace f2:=f2.same z
 replace h3:=h3.same z
 replace h5:=h5.same z
 replace h6:=h6.same z
 replace h8:=h8.same z
 replace j2:=j2.same z
 replace sH:=aa sH z
 replace cU:=cU.keep (ah.tk z)
 have j3:fF TW.E.gR 2 1 Sj (.ref w3):=vM g h5
 clear z g
 refine ⟨_,rfl,_,rfl,ags,fun w4 XW=>?_⟩
 obtain ⟨NB,z,g,zz⟩:=aJ XW (.tup [.str "same",v1,v1])
 rw [zz]; clear zz
 replace hr1:=z _ _ hr1
 replace hs:=z _ _ hs
 replace hm:=z _ _ hm
 replace f1:=f1.same z
 replace f2:=f2.same z
 replace h3:=h3.same z
 replace h5:=h5.same z
 replace h6:=h6.same z
 replace h8:=h8.same z
 replace j2:=j2.same z
 replace j3:=j3.same z
 replace sH:=aa sH z
 replace cU:=cU.keep (ah.tk z)
 have j4:fF TW.E.gR 1 2 NB (.ref w4):=dz (k:=.same) (fun _ _ a b=>⟨a,b⟩) g f1 f1
 clear z g
 refine ⟨agr,fun w5 XX=>?_⟩
 obtain ⟨Sk,z,g,zz⟩:=aJ XX (.tup [.str "not",.ref w4])
 rw [zz]; clear zz
 replace hr1:=z _ _ hr1
 replace hs:=z _ _ hs
 replace hm:=z _ _ hm
 replace f1:=f1.same z
 replace f2:=f2.same z
 replace h3:=h3.same z
 replace h5:=h5.same z
 replace h6:=h6.same z
 replace h8:=h8.same z
 replace j2:=j2.same z
 replace j3:=j3.same z
 replace j4:=j4.same z
 replace sH:=aa sH z
 replace cU:=cU.keep (ah.tk z)
 have j5:fF TW.E.gR 2 2 Sk (.ref w5):=vM g j4
 clear z g
 refine ⟨ags,fun w6 L1=>?_⟩
 obtain ⟨Sl,z,g,zz⟩:=aJ L1 (.tup [.str "both",.ref w3,.ref w5])
 rw [zz]; clear zz
 replace hr1:=z _ _ hr1
 replace hs:=z _ _ hs
 replace hm:=z _ _ hm
 replace f1:=f1.same z
 replace f2:=f2.same z
 replace h3:=h3.same z
 replace h5:=h5.same z
 replace h6:=h6.same z
 replace h8:=h8.same z
 replace j2:=j2.same z
 replace j3:=j3.same z
 replace j4:=j4.same z
 replace j5:=j5.same z
 replace sH:=aa sH z
 replace cU:=cU.keep (ah.tk z)
 have j6:fF TW.E.gR 5 3 Sl (.ref w6):=dz (k:=.both) (fun _ _ a b=>⟨a,b⟩) g j3 j5
 clear z g
 refine ⟨agr,fun w7 XY=>?_⟩
 obtain ⟨CV,z,g,zz⟩:=aJ XY (.tup [.str "not",.ref w6])
 rw [zz]; clear zz
 replace hr1:=z _ _ hr1
 replace hs:=z _ _ hs
 replace hm:=z _ _ hm
 replace f1:=f1.same z
 replace f2:=f2.same z
 replace h3:=h3.same z
 replace h5:=h5.same z
 replace h6:=h6.same z
 replace h8:=h8.same z
 replace j2:=j2.same z
 replace j3:=j3.same z
 replace j4:=j4.same z
 replace j5:=j5.same z
 replace j6:=j6.same z
 replace sH:=aa sH z
 replace cU:=cU.keep (ah.tk z)
 have j7:fF TW.E.gR 6 3 CV (.ref w7):=vM g j6
 clear z g
 clear j3 j4 j5 j6
 refine ⟨mm,_,_,rfl,rfl,hm,aB (by show 5<=1000; decide),?_⟩
 refine kR _ _ ?_
 refine eC fun Rk kR=>?_
 have tk:TK CV (upd CV mm (.lst [v1,.ref q3,.ref q6,.ref q8,.ref w2,.ref w7])):=TK.lst hm
 have hm2:(upd CV mm (.lst [v1,.ref q3,.ref q6,.ref q8,.ref w2,.ref w7])) mm=some (.lst [v1,.ref q3,.ref q6,.ref q8,.ref w2,.ref w7]):=ae
 have vC:ah H (upd CV mm (.lst [v1,.ref q3,.ref q6,.ref q8,.ref w2,.ref w7])):=aG sH nm
 have hs2:(upd CV mm (.lst [v1,.ref q3,.ref q6,.ref q8,.ref w2,.ref w7])) sa=some (.lst ss):=by rw [aj Oi]; exact hs
 have m6:(upd CV mm (.lst [v1,.ref q3,.ref q6,.ref q8,.ref w2,.ref w7])) r=some (.lst (row.map V.int)):=by rw [aj Oh]; exact hr1
 show _
 generalize e9:upd CV mm (.lst [v1,.ref q3,.ref q6,.ref q8,.ref w2,.ref w7])=Sm at tk hm2 vC hs2 m6
 rw [show upd CV mm (.lst ([v1,.ref q3,.ref q6,.ref q8,.ref w2]++[.ref w7]))=Sm from e9]
 clear e9
 replace f1:=f1.keep tk
 replace f2:=f2.keep tk
 replace h3:=h3.keep tk
 replace h5:=h5.keep tk
 replace h6:=h6.keep tk
 replace h8:=h8.keep tk
 replace j2:=j2.keep tk
 replace j7:=j7.keep tk
 replace cU:=cU.keep tk
 clear sH hm hs hr1
 have sH:=vC
 have hm:=hm2
 have hs:=hs2
 have hr1:=m6
 clear tk vC hm2 hs2 m6
 refine ⟨_,rfl,.inl ⟨rfl,_,ao.of hm⟩,_,rfl,_,rfl,_,rfl,ags,fun w8 XZ=>?_⟩
 obtain ⟨Sn,z,g,zz⟩:=aJ XZ (.tup [.str "same",.ref q3,v1])
 rw [zz]; clear zz
 replace hr1:=z _ _ hr1
 replace hs:=z _ _ hs
 replace hm:=z _ _ hm
 replace f1:=f1.same z
 replace f2:=f2.same z
 replace h3:=h3.same z
 replace h5:=h5.same z
 replace h6:=h6.same z
 replace h8:=h8.same z
 replace j2:=j2.same z
 replace j7:=j7.same z
 replace sH:=aa sH z
 replace cU:=cU.keep (ah.tk z)
 have j8:fF TW.E.gR 3 3 Sn (.ref w8):=dz (k:=.same) (fun _ _ a b=>⟨a,b⟩) g h3 f1
 clear z g
 refine ⟨ags,fun w9 X0=>?_⟩
 obtain ⟨Dh,z,g,zz⟩:=aJ X0 (.tup [.str "both",.ref q5,.ref w8])
 rw [zz]; clear zz
 replace hr1:=z _ _ hr1
 replace hs:=z _ _ hs
 replace hm:=z _ _ hm
 replace f1:=f1.same z
 replace f2:=f2.same z
 replace h3:=h3.same z
 replace h5:=h5.same z
 replace h6:=h6.same z
 replace h8:=h8.same z
 replace j2:=j2.same z
 replace j7:=j7.same z
 replace j8:=j8.same z
 replace sH:=aa sH z
 replace cU:=cU.keep (ah.tk z)
 have j9:fF TW.E.gR 5 4 Dh (.ref w9):=dz (k:=.both) (fun _ _ a b=>⟨a,b⟩) g h5 j8
 clear z g
 clear j8
 refine ⟨mm,_,_,rfl,rfl,hm,aB (by show 6<=1000; decide),?_⟩
 refine kR _ _ ?_
 refine eC fun Rk kR=>?_
 have tk:TK Dh (upd Dh mm (.lst [v1,.ref q3,.ref q6,.ref q8,.ref w2,.ref w7,.ref w9])):=TK.lst hm
 have hm2:(upd Dh mm (.lst [v1,.ref q3,.ref q6,.ref q8,.ref w2,.ref w7,.ref w9])) mm=some (.lst [v1,.ref q3,.ref q6,.ref q8,.ref w2,.ref w7,.ref w9]):=ae
 have vC:ah H (upd Dh mm (.lst [v1,.ref q3,.ref q6,.ref q8,.ref w2,.ref w7,.ref w9])):=aG sH nm
 have hs2:(upd Dh mm (.lst [v1,.ref q3,.ref q6,.ref q8,.ref w2,.ref w7,.ref w9])) sa=some (.lst ss):=by rw [aj Oi]; exact hs
 have m6:(upd Dh mm (.lst [v1,.ref q3,.ref q6,.ref q8,.ref w2,.ref w7,.ref w9])) r=some (.lst (row.map V.int)):=by rw [aj Oh]; exact hr1
 show _
 generalize e9:upd Dh mm (.lst [v1,.ref q3,.ref q6,.ref q8,.ref w2,.ref w7,.ref w9])=U7 at tk hm2 vC hs2 m6
 rw [show upd Dh mm (.lst ([v1,.ref q3,.ref q6,.ref q8,.ref w2,.ref w7]++[.ref w9]))=U7 from e9]
 clear e9
 replace f1:=f1.keep tk
 replace f2:=f2.keep tk
 replace h3:=h3.keep tk
 replace h5:=h5.keep tk
 replace h6:=h6.keep tk
 replace h8:=h8.keep tk
 replace j2:=j2.keep tk
 replace j7:=j7.keep tk
 replace j9:=j9.keep tk
 replace cU:=cU.keep tk
 clear sH hm hs hr1
 have sH:=vC
 have hm:=hm2
 have hs:=hs2
 have hr1:=m6
 clear tk vC hm2 hs2 m6
 refine ⟨_,rfl,.inl ⟨rfl,_,ao.of hm⟩,_,rfl,agr,fun u1 QF=>?_⟩
 obtain ⟨U8,z,g,zz⟩:=aJ QF (.tup [.str "number",.int 1])
 rw [zz]; clear zz
 replace hr1:=z _ _ hr1
 replace hs:=z _ _ hs
 replace hm:=z _ _ hm
 replace f1:=f1.same z
 replace f2:=f2.same z
 replace h3:=h3.same z
 replace h5:=h5.same z
 replace h6:=h6.same z
 replace h8:=h8.same z
 replace j2:=j2.same z
 replace j7:=j7.same z
 replace j9:=j9.same z
 replace sH:=aa sH z
 replace cU:=cU.keep (ah.tk z)
 have k1:fF TW.E.fS 0 0 U8 (.ref u1):=nZ g (by decide)
 clear z g
 refine ⟨ags,fun u2 QG=>?_⟩
 obtain ⟨U9,z,g,zz⟩:=aJ QG (.tup [.str "plus",v1,.ref u1])
 rw [zz]; clear zz
 replace hr1:=z _ _ hr1
 replace hs:=z _ _ hs
 replace hm:=z _ _ hm
 replace f1:=f1.same z
 replace f2:=f2.same z
 replace h3:=h3.same z
 replace h5:=h5.same z
 replace h6:=h6.same z
 replace h8:=h8.same z
 replace j2:=j2.same z
 replace j7:=j7.same z
 replace j9:=j9.same z
 replace k1:=k1.same z
 replace sH:=aa sH z
 replace cU:=cU.keep (ah.tk z)
 have k2:fF TW.E.fS 1 1 U9 (.ref u2):=dz (k:=.plus) (fun _ _ a b=>⟨a,b⟩) g f1 k1
 clear z g
 obtain ⟨v5,VL,f5⟩:=cU.at (r:=0) (by decide) (by omega)
 refine ⟨_,rfl,sa,_,_,_,rfl,rfl,ao.of hs,VL,ags,fun u3 XT=>?_⟩
 obtain ⟨Di,z,g,zz⟩:=aJ XT (.tup [.str "less",.ref u2,v5])
 rw [zz]; clear zz
 replace hr1:=z _ _ hr1
 replace hs:=z _ _ hs
 replace hm:=z _ _ hm
 replace f1:=f1.same z
 replace f2:=f2.same z
 replace h3:=h3.same z
 replace h5:=h5.same z
 replace h6:=h6.same z
 replace h8:=h8.same z
 replace j2:=j2.same z
 replace j7:=j7.same z
 replace j9:=j9.same z
 replace k1:=k1.same z
 replace k2:=k2.same z
 replace f5:=f5.same z
 replace sH:=aa sH z
 replace cU:=cU.keep (ah.tk z)
 have QP:fF TW.E.fS 2 2 Di (.ref u3):=dz (k:=.less) (fun _ _ a b=>⟨a,b⟩) g k2 f5
 clear z g
 clear k1 k2 f5
 refine ⟨mm,_,_,rfl,rfl,hm,aB (by show 7<=1000; decide),?_⟩
 refine kR _ _ ?_
 have tk:TK Di (upd Di mm (.lst [v1,.ref q3,.ref q6,.ref q8,.ref w2,.ref w7,.ref w9,.ref u3])):=TK.lst hm
 have hm2:(upd Di mm (.lst [v1,.ref q3,.ref q6,.ref q8,.ref w2,.ref w7,.ref w9,.ref u3])) mm=some (.lst [v1,.ref q3,.ref q6,.ref q8,.ref w2,.ref w7,.ref w9,.ref u3]):=ae
 have vC:ah H (upd Di mm (.lst [v1,.ref q3,.ref q6,.ref q8,.ref w2,.ref w7,.ref w9,.ref u3])):=aG sH nm
 have hs2:(upd Di mm (.lst [v1,.ref q3,.ref q6,.ref q8,.ref w2,.ref w7,.ref w9,.ref u3])) sa=some (.lst ss):=by rw [aj Oi]; exact hs
 have m6:(upd Di mm (.lst [v1,.ref q3,.ref q6,.ref q8,.ref w2,.ref w7,.ref w9,.ref u3])) r=some (.lst (row.map V.int)):=by rw [aj Oh]; exact hr1
 show _
 generalize e9:upd Di mm (.lst [v1,.ref q3,.ref q6,.ref q8,.ref w2,.ref w7,.ref w9,.ref u3])=OI at tk hm2 vC hs2 m6
 rw [show upd Di mm (.lst ([v1,.ref q3,.ref q6,.ref q8,.ref w2,.ref w7,.ref w9]++[.ref u3]))=OI from e9]
 clear e9
 replace f1:=f1.keep tk
 replace f2:=f2.keep tk
 replace h3:=h3.keep tk
 replace h5:=h5.keep tk
 replace h6:=h6.keep tk
 replace h8:=h8.keep tk
 replace j2:=j2.keep tk
 replace j7:=j7.keep tk
 replace j9:=j9.keep tk
 replace QP:=QP.keep tk
 replace cU:=cU.keep tk
 clear sH hm hs hr1
 have sH:=vC
 have hm:=hm2
 have hs:=hs2
 have hr1:=m6
 clear tk vC hm2 hs2 m6
 obtain ⟨vv,gv,Hz⟩:=qQ (xs:=[v1,.ref q3,.ref q6,.ref q8,.ref w2,.ref w7,.ref w9,.ref u3]) (r:=x4 % 8) (aav _ (by decide)) (aap _ (by decide))
 refine ⟨_,rfl,_,rfl,r,_,_,_,rfl,rfl,ao.of hr1,a4,_,_,rfl,rfl,(by show (0:Int) < 8; decide),mm,_,_,_,rfl,rfl,ao.of hm,Hz,?_⟩
 have fin:∀{S:TW.E->Prop} {d b:Nat} {v:V},fF S d b OI v->(∀e,S e->e≠.yes->e.fS\/(e.gR/\e≠.yes))->d < 20->b<=1000->Q v OI:=fun hh hS hd hb=>by
   obtain ⟨e,ea,es,ey,eo,ed,eb⟩:=hh
   exact q _ e _ sH ea (hS e es ey) eo (by omega) (by omega)
 have iS:∀e:TW.E,e.fS->e≠.yes->e.fS\/(e.gR/\e≠.yes):=fun _ z _=>.inl z
 have iC:∀e:TW.E,e.gR->e≠.yes->e.fS\/(e.gR/\e≠.yes):=fun _ z y=>.inr ⟨z,y⟩
 have hv:=aan gv
 rcases List.mem_cons.mp hv with rfl | hv
 · exact fin f1 iS (by decide) (by decide)
 rcases List.mem_cons.mp hv with rfl | hv
 · exact fin h3 iS (by decide) (by decide)
 rcases List.mem_cons.mp hv with rfl | hv
 · exact fin h6 iC (by decide) (by decide)
 rcases List.mem_cons.mp hv with rfl | hv
 · exact fin h8 iC (by decide) (by decide)
 rcases List.mem_cons.mp hv with rfl | hv
 · exact fin j2 iC (by decide) (by decide)
 rcases List.mem_cons.mp hv with rfl | hv
 · exact fin j7 iC (by decide) (by decide)
 rcases List.mem_cons.mp hv with rfl | hv
 · exact fin j9 iC (by decide) (by decide)
 rw [List.mem_singleton.mp hv]
 exact fin QP iS (by decide) (by decide)
theorem yk (s:Src K mg "_law_thing" nJ)(m_int:mg "int"=none)(m_len:mg "len"=none):aX P w K mg base "_law_thing" ["row","known"] 1 mi:=
 let ⟨f,fd,F,m⟩:=s
 ⟨f,fd,BD F m_int m_len,F.kp,d4 F fun _ _ _ _ _ _ _ _=>rfl,m⟩
abbrev Fg:Stmt:=top 52
def xm:Sp:=fun vs H Q _=>∃(p B I N:Addr) (vb vi vn:List V),vs=[.ref p]/\H p=some (.tup [.ref B,.ref I,.ref N])/\H B=some (.lst vb)/\H I=some (.lst vi)/\H N=some (.lst vn) /\
 ∀(p' B' I' N':Addr) (H':Hp),ah H H'->H' p'=some (.tup [.ref B',.ref I',.ref N'])->H' B'=some (.lst vb)->H' I'=some (.lst vi)->H' N'=some (.lst vn)->Q (.ref p') H'
theorem M5:aD ["program"] ["program"] (ag Fg):=⟨rfl,rfl,rfl,by decide +kernel,rfl,by decide +kernel,by decide +kernel⟩
theorem kz:aY Fg "list":=by decide +kernel
theorem IE {f:Addr}{fd:aao}(F:cJ K "_law_copied" "_law_copied" Fg f fd)(m_list:mg "list"=none):aP P w K mg base cO 1 f fd ["program"] xm:=by
 refine F.ok M5 (fun vs H Q E h=>?_) (fun cdv A outer s H vs Q E hr h=>?_)
 · obtain ⟨p,B,I,N,vb,vi,vn,rfl,_⟩:=h
   rfl
 obtain ⟨p,B,I,N,vb,vi,vn,rfl,hp,hB,hI,hN,q⟩:=h
 refine kI ⟨_,(aeo (aeq (aer (aeh (aeK aeY kz m_list (by decide +kernel) (aeh (aem aew (aei 0) aek) aej)) (aeh (aeK aeY kz m_list (by decide +kernel) (aeh (aem aew (aei 0) aek) aej)) (aeh (aeK aeY kz m_list (by decide +kernel) (aeh (aem aew (aei 0) aek) aej)) aej)))))),?_⟩
 refine ⟨_,rfl,p,_,_,_,rfl,rfl,aK.of hp,rfl,B,_,rfl,.inl (ao.of hB),fun b1 zA=>?_⟩
 obtain ⟨H1,s1,g1,zz⟩:=aJ zA (.lst vb)
 rw [zz]; clear zz
 refine ⟨_,rfl,p,_,_,_,rfl,rfl,aK.of (s1 _ _ hp),rfl,I,_,rfl,.inl (ao.of (s1 _ _ hI)),fun i1 uD=>?_⟩
 obtain ⟨H2,s2,g2,zz⟩:=aJ uD (.lst vi)
 rw [zz]; clear zz
 have s02:=aa s1 s2
 refine ⟨_,rfl,p,_,_,_,rfl,rfl,aK.of (s02 _ _ hp),rfl,N,_,rfl,.inl (ao.of (s02 _ _ hN)),fun n1 TB=>⟨ags,fun p1 yt=>?_⟩⟩
 have s3:ah H2 (upd (upd H2 n1 (.lst vn)) p1 (.tup [.ref b1,.ref i1,.ref n1])):=aC (af TB _) yt
 exact q p1 b1 i1 n1 _ (aa s02 s3) ae (s3 _ _ (s2 _ _ g1)) (s3 _ _ g2) (by rw [aj (ai ae yt)]; exact ae)
theorem DJ (s:Src K mg "_law_copied" Fg)(m_list:mg "list"=none):aX P w K mg base "_law_copied" ["program"] 1 xm:=
 let ⟨f,fd,F,m⟩:=s
 ⟨f,fd,IE F m_list,F.kp,qS F fun _ _ _ _ _ _ _=>rfl,m⟩
theorem m9 (bs:List (Str×Int)):∀ins:List Str,cL bs ins=ins.zip (ins.map (ck bs))
 | []=>rfl
 | x :: r=>by
   show (x,ck bs x) :: cL bs r=(x,ck bs x) :: r.zip (r.map (ck bs))
   rw [m9 bs r]
theorem D9 {b1 b2:List (Str×Int)}{i1 i2:List Str}:cL b1 i1=cL b2 i2↔cQ b1 b2 i1 i2:=by
 constructor
 · intro h
   have h1:=congrArg (List.map (·.1)) h
   have h2:=congrArg (List.map (·.2)) h
   unfold cL at h1 h2
   rw [abm,abm] at h1 h2
   have e1:∀(b:List (Str×Int)) (l:List Str),l.map ((fun x:Str×Int=>x.1) ∘ fun x=>(x,ck b x))=l:=fun b l=>List.map_id l
   rw [e1,e1] at h1
   exact ⟨h1,h2⟩
 · rintro ⟨rfl,h⟩
   rw [m9,m9,h]
def yF (b1 b2:List (Str×Int)):List (Str×Str):=b1.map (fun b=>(("mine":Str),b.1))++b2.map (fun b=>(("yours":Str),b.1))
theorem Ed {b1 b2:List (Str×Int)}{t x:Str}:Du b1 b2 t x↔(t,x)∈yF b1 b2:=by
 unfold yF
 rw [List.mem_append]
 constructor
 · rintro (⟨rfl,h⟩ | ⟨rfl,h⟩)
   · obtain ⟨b,hb,e⟩:=List.mem_map.mp h
     exact .inl (List.mem_map.mpr ⟨b,hb,by rw [← e]⟩)
   · obtain ⟨b,hb,e⟩:=List.mem_map.mp h
     exact .inr (List.mem_map.mpr ⟨b,hb,by rw [← e]⟩)
 · rintro (h | h)
   · obtain ⟨b,hb,e⟩:=List.mem_map.mp h
     injection e with e1 e2
     exact .inl ⟨e1.symm,List.mem_map.mpr ⟨b,hb,e2⟩⟩
   · obtain ⟨b,hb,e⟩:=List.mem_map.mp h
     injection e with e1 e2
     exact .inr ⟨e1.symm,List.mem_map.mpr ⟨b,hb,e2⟩⟩
theorem Ee {b1 b2:List (Str×Int)}:∀b∈yF b1 b2,b.1="mine"\/b.1="yours":=fun b hb=>by
 rcases List.mem_append.mp hb with h | h
 · obtain ⟨c,_,rfl⟩:=List.mem_map.mp h
   exact .inl rfl
 · obtain ⟨c,_,rfl⟩:=List.mem_map.mp h
   exact .inr rfl
theorem gT {b1 b2:List (Str×Int)}:∀e:E,e.aQ (zw b1 b2)=(e.cb.map fun b=>decide (b∈yF b1 b2)).all id
 | .num _=>rfl
 | .box t x=>by
   show decide (Du b1 b2 t x)=(decide ((t,x)∈yF b1 b2) && true)
   rw [adO,abg,decide_eq_true_iff,decide_eq_true_iff]
   exact Ed
 | .yes=>rfl
 | .nt a=>gT a
 | .two _ a b=>by
   show (a.aQ _ && b.aQ _)=((a.cb++b.cb).map _).all id
   rw [aah,List.all_append,gT a,gT b]
theorem Hm {b1 b2:List (Str×Int)}{i1 i2:List Str}{w1 w2:List Int}{e:E}{p f s:Bool}{k:Nat}(h:zI b1 b2 i1 i2 w1 w2 e k)(hp:p=true↔cQ b1 b2 i1 i2)(hf:f=true↔GoodW b1 w1)(hs:s=true↔GoodW b2 w2):k=ou p f s (e.aQ (zw b1 b2)):=by
 rcases h with ⟨rfl,h⟩ | ⟨rfl,h1,h2⟩ | ⟨rfl,h1,h2,h3,h4⟩ | ⟨rfl,h1,h2,h3,h4⟩
 · have:p=false:=by cases p with | false=>rfl | true=>exact absurd (hp.mp rfl) h
   rw [this]; rfl
 · have oC:p=true:=hp.mpr h1
   have:f=false\/s=false:=by
     cases f with
     | false=>exact .inl rfl
     | true=>cases s with
       | false=>exact .inr rfl
       | true=>exact absurd ⟨hf.mp rfl,hs.mp rfl⟩ h2
   unfold ou
   rw [oC,if_neg (by decide),if_pos this]
 · rw [hp.mpr h1,hf.mpr h2,hs.mpr h3,h4]; rfl
 · rw [hp.mpr h1,hf.mpr h2,hs.mpr h3,h4]; rfl
theorem Hl {b1 b2:List (Str×Int)}{i1 i2:List Str}{iw:List Int}{p f:Bool}{k:Nat}(h:Fz b1 b2 i1 i2 iw k)(hp:p=true↔cQ b1 b2 i1 i2)(hf:f=true↔oK b1 i1 iw):k=ou p f true true:=by
 rcases h with ⟨rfl,h⟩ | ⟨rfl,h1,h2⟩ | ⟨rfl,h1,h2⟩
 · have:p=false:=by cases p with | false=>rfl | true=>exact absurd (hp.mp rfl) h
   rw [this]; rfl
 · have:f=false:=by cases f with | false=>rfl | true=>exact absurd (hf.mp rfl) h2
   rw [hp.mpr h1,this]; rfl
 · rw [hp.mpr h1,hf.mpr h2]; rfl
theorem Hh {K:aac}{H:Hp}{n:Nat}:∀(u v:V) (x y:Str×Int),bG H u x->bG H v y->EB K H (n + 1) u v (decide (x=y)):=fun u v x y ⟨p,e,h⟩ ⟨q,e',h'⟩=>by
 subst e
 subst e'
 have k:=EB.pair (K:=K) (n:=n) h h' rfl rfl (by show (x.2 == x.2)=true; exact beq_self_eq_true _)
 have e:(decide (x.1=y.1) && ko (.int x.2) (.int y.2))=decide (x=y):=by
   show (decide (x.1=y.1) && (x.2 == y.2))=_
   rw [abg,aaZ,decide_eq_true_iff,beq_iff_eq,decide_eq_true_iff]
   exact ⟨fun z=>Prod.ext z.1 z.2,fun z=>by rw [z]; exact ⟨rfl,rfl⟩⟩
 rw [e] at k
 exact k
abbrev dN:Stmt:=top 64
def xq (K:aac):Sp:=fun vs H Q _=>∃(a:Addr) (ns:List Int),vs=[.ref a]/\ao K H a (ns.map V.int)/\ns.length<=63/\∀H',Q (.bl true) H'
theorem RT {bs:List (Str×Int)}(h:bs.length<=3)(k:∀b∈bs,1<=b.2/\b.2<=6):oi bs<=1000:=by
 have key:∀{n:Nat} {l:List (Str×Int)},l.length<=n->(∀b∈l,1<=b.2/\b.2<=6)->oi l<=6 ^ n:=fun {n}=>by
   induction n with
   | zero=>intro l hl _; cases l with
     | nil=>exact (by decide)
     | cons _ _=>cases hl
   | succ n ih=>
     intro l hl hk
     cases l with
     | nil=>exact Nat.one_le_pow _ _ (by decide)
     | cons b r=>
       have h1:=ih (l:=r) (by simpa using hl) (fun c hc=>hk c (List.mem_cons.mpr (.inr hc)))
       have h2:=hk b (List.mem_cons.mpr (.inl rfl))
       show b.2.toNat * oi r<=6 ^ (n + 1)
       rw [Nat.pow_succ,aec (6 ^ n)]
       exact acP (by omega) h1
 exact aak (key h k) (by decide)
theorem Q6 {nm:List Str}(h:GU nm)(ins:List Str)(c:Bool):∀x∈nm,fN ins c x≠"w":=fun x hx=>by
 have key:∀y∈([("a":Str),"ab","x","boxes","box"]:List Str),y≠"w"/\y++"z"≠"w":=by decide +kernel
 have hm:x∈([("a":Str),"ab","x","boxes","box"]:List Str):=by
   rcases h with rfl | rfl | rfl
   · exact (by decide +kernel:∀z∈([("a":Str),"ab"]:List Str),z∈([("a":Str),"ab","x","boxes","box"]:List Str)) x hx
   · exact (by decide +kernel:∀z∈([("x":Str),"a"]:List Str),z∈([("a":Str),"ab","x","boxes","box"]:List Str)) x hx
   · exact (by decide +kernel:∀z∈([("boxes":Str),"box"]:List Str),z∈([("a":Str),"ab","x","boxes","box"]:List Str)) x hx
 unfold fN
 split
 · exact (key x hm).1
 · split
   · exact (key x hm).2
   · exact (key x hm).1
theorem Jc {bs b':List (Str×Int)}{ins:List Str}{c:Bool}{st:Int}(h:cI bs ins)(o:tM bs ins c st b'):∀b∈b',b.1≠"w":=fun b hb=>by
 obtain ⟨nm,szs,h3,hl,_,e⟩:=h.nm
 have FT:b.1∈(dG st (bs.map fun b=>(fN ins c b.1,b.2))).map (·.1):=by rw [← o.bx]; exact List.mem_map.mpr ⟨b,hb,rfl⟩
 rw [pE,abm] at FT
 have hm:b.1∈bs.map ((fun x=>x.1) ∘ fun b=>(fN ins c b.1,b.2)):=hJ.mp FT
 obtain ⟨b0,wA,e0⟩:=List.mem_map.mp hm
 rw [← e0]
 rw [e] at wA
 exact Q6 h3 ins c b0.1 (abE wA).1
theorem cE:aD ["script","one","row","far","made","called","places","behind","other","pair","known","handed","k","some","mine","yours","thing","there","due","inputs","good"] ["script"] (ag dN):=⟨rfl,rfl,rfl,by decide +kernel,rfl,by decide +kernel,by decide +kernel⟩
theorem fh:aY dN "_law_are":=by decide +kernel
theorem mQ:aY dN "_law_asked":=by decide +kernel
theorem eT:aY dN "_law_cell_at":=by decide +kernel
theorem fG:aY dN "_law_copied":=by decide +kernel
theorem jm:aY dN "_law_due":=by decide +kernel
theorem bJ:aY dN "_law_input_sizes":=by decide +kernel
theorem iM:aY dN "_law_made_over":=by decide +kernel
theorem mR:aY dN "_law_named":=by decide +kernel
theorem kD:aY dN "_law_numbers":=by decide +kernel
theorem lJ:aY dN "_law_parted":=by decide +kernel
theorem kE:aY dN "_law_program":=by decide +kernel
theorem de:aY dN "_law_sizes":=by decide +kernel
theorem lK:aY dN "_law_spoilt":=by decide +kernel
theorem mS:aY dN "_law_thing":=by decide +kernel
theorem d9:aY dN "_law_wrong":=by decide +kernel
theorem Ai:aY dN "all":=by decide +kernel
theorem kF:aY dN "list":=by decide +kernel
theorem uh:aY dN "range":=by decide +kernel
theorem IK {f:Addr}{fd:aao}(F:cJ K "law" "law" dN f fd)(m_list:mg "list"=none)(m_range:mg "range"=none)(m_all:mg "all"=none)(PR:aX P w K mg base "_law_program" ["script","most"] 64 (vJ K))(NU:aX P w K mg base "_law_numbers" ["cell","many","base"] 64 dY)(CE:aX P w K mg base "_law_cell_at" ["script","k"] 64 (kS K))(OV:aX P w K mg base "_law_made_over" ["program","row"] 64 vI)(SP:aX P w K mg base "_law_spoilt" ["program","row"] 64 kg)(LI:aX P w K mg base "_law_input_sizes" ["program"] 64 xp)(CP:aX P w K mg base "_law_copied" ["program"] 64 xm)(WR:aX P w K mg base "_law_wrong" ["row","sizes","far"] 64 mj)(SZ:aX P w K mg base "_law_sizes" ["program"] 64 dU)(TH:aX P w K mg base "_law_thing" ["row","known"] 64 mi)(NM:aX P w K mg base "_law_named" ["thing"] 64 (eO 20))(DU:aX P w K mg base "_law_due" ["pair","first","second","boxes"] 64 xn)(AR:aX P w K mg base "_law_are" ["worths","sizes"] 64 xl)(AK:aX P w K mg base "_law_asked" ["one","other","mine","yours","thing"] 64 qp)(PD:aX P w K mg base "_law_parted" ["one","other","inputs"] 64 nP):aP P w K mg base cO 65 f fd ["script"] (xq K):=by
 refine F.ok cE (fun vs H Q E h=>?_) (fun cdv A outer s H vs Q E iq h=>?_)
 · obtain ⟨a,ns,rfl,_⟩:=h
   rfl
 obtain ⟨a,ns,rfl,hS,Zv,q⟩:=h
 refine kI ⟨_,(ael (aev 1 cE.nd (aet PR iq kE (aeh (aei 0) (aeh aek aej))))
   (ael (aev 2 cE.nd (aet NU iq kD (aeh (aet CE iq eT (aeh (aei 0) (aeh aek aej))) (aeh aek (aeh aek aej)))))
   (ael (aev 3 cE.nd (aen aeC (aet CE iq eT (aeh (aei 0) (aeh aek aej))) (aen ae7 aek aek)))
   (ael (ae2 (aet OV iq iM (aeh (aei 1) (aeh (aei 2) aej))) (aeG 4 (aex (aes 4 cE.nd) (aex (aes 5 cE.nd) (aex (aes 6 cE.nd) (aex (aes 7 cE.nd) aeH))))))
   (ael (aev 8 cE.nd (aet SP iq lK (aeh (aei 4) (aeh (ae0 (aei 2) aek) aej))))
   (ael (aev 9 cE.nd (aeS (L3.si (m:=1) (bQ iq _ (by decide))) (aet LI iq bJ (aeh (aei 1) aej)) (aet LI iq bJ (aeh (aei 8) aej))))
   (ael (aev 10 cE.nd (aen aeV (aeP [none,none] ["name","size"] (show aE _ (ag dN) from ⟨rfl,by decide +kernel,by decide +kernel,by decide +kernel⟩) (by rfl) (aeO (aem aew (aei 1) aek)) (fun _ _ _ _ _=>⟨(aeG 2 (aex (aes 0 (show (["name","size"]:List Str).Nodup from by decide +kernel)) (aex (aes 1 (show (["name","size"]:List Str).Nodup from by decide +kernel)) aeH))),aeJ,(aer (aeh aep (aeh (aei 0) aej)))⟩)) (aeP [none,none] ["name","size"] (show aE _ (ag dN) from ⟨rfl,by decide +kernel,by decide +kernel,by decide +kernel⟩) (by rfl) (aeO (aem aew (aei 8) aek)) (fun _ _ _ _ _=>⟨(aeG 2 (aex (aes 0 (show (["name","size"]:List Str).Nodup from by decide +kernel)) (aex (aes 1 (show (["name","size"]:List Str).Nodup from by decide +kernel)) aeH))),aeJ,(aer (aeh aep (aeh (aei 0) aej)))⟩))))
   (ael (aev 11 cE.nd (aeB (aeh (aet CP iq fG (aeh (aei 1) aej)) (aeh (aet CP iq fG (aeh (aei 8) aej)) aej))))
   (ael (aeX (ae9 uh m_range (aeh aek aej)) (aes 12 cE.nd) (ael (aev 13 cE.nd (L3.Cp (aei 2) (aen aeM aek (aen aeR aek (aei 12))) (aen aeM aek (aen aeR aek (aei 12)))))
   (ael (aev 14 cE.nd (aet WR iq d9 (aeh (aei 13) (aeh (aet SZ iq de (aeh (aei 1) aej)) (aeh (aei 3) aej)))))
   (ael (aev 15 cE.nd (aet WR iq d9 (aeh (ae0 (aei 13) aek) (aeh (aet SZ iq de (aeh (aei 8) aej)) (aeh (aei 3) aej)))))
   (ael (aev 16 cE.nd (aet TH iq mS (aeh (ae0 (aei 13) aek) (aeh (aei 10) aej))))
   (ael (aev 17 cE.nd (aeD L3.FF Ai m_all (by decide +kernel) (aeh (aeP [none,some 10] ["box","known"] (show aE _ (ag dN) from ⟨rfl,by decide +kernel,by decide +kernel,by decide +kernel⟩) (by rfl) (aeO (aet NM iq mR (aeh (aei 16) aej))) (fun _ _ _ _ _=>⟨(aes 0 (show (["box","known"]:List Str).Nodup from by decide +kernel)),aeJ,(aeS (L3.Mk (m:=1) (bQ iq _ (by decide))) (aei 0) (aei 1) (by rfl))⟩)) aej)))
   (ael (aev 18 cE.nd (aet DU iq jm (aeh (aei 9) (aeh (aet AR iq fh (aeh (aei 14) (aeh (aet SZ iq de (aeh (aei 1) aej)) aej))) (aeh (aet AR iq fh (aeh (aei 15) (aeh (aet SZ iq de (aeh (aei 8) aej)) aej))) (aeh (aei 17) aej))))))
   (ael (aez (aey (L3.wN (m:=0) (bQ iq _ (by decide))) (aet AK iq mQ (aeh (aem aeu (aei 11) aek) (aeh (aem aeu (aei 11) aek) (aeh (aeK aeY kF m_list (by decide +kernel) (aeh (aei 14) aej)) (aeh (aeK aeY kF m_list (by decide +kernel) (aeh (aei 15) aej)) (aeh (aei 16) aej)))))) (aei 18)) (aeo (aeq aeL)) aeA)
   (ael (aev 19 cE.nd (aet WR iq d9 (aeh (ae0 (aei 13) aek) (aeh (aeP [none,none] ["name","size"] (show aE _ (ag dN) from ⟨rfl,by decide +kernel,by decide +kernel,by decide +kernel⟩) (by rfl) (aeO (aet LI iq bJ (aeh (aei 1) aej))) (fun _ _ _ _ _=>⟨(aeG 2 (aex (aes 0 (show (["name","size"]:List Str).Nodup from by decide +kernel)) (aex (aes 1 (show (["name","size"]:List Str).Nodup from by decide +kernel)) aeH))),aeJ,(aei 1)⟩)) (aeh (aei 3) aej)))))
   (ael (aev 20 cE.nd (aet AR iq fh (aeh (aei 19) (aeh (aeP [none,none] ["name","size"] (show aE _ (ag dN) from ⟨rfl,by decide +kernel,by decide +kernel,by decide +kernel⟩) (by rfl) (aeO (aet LI iq bJ (aeh (aei 1) aej))) (fun _ _ _ _ _=>⟨(aeG 2 (aex (aes 0 (show (["name","size"]:List Str).Nodup from by decide +kernel)) (aex (aes 1 (show (["name","size"]:List Str).Nodup from by decide +kernel)) aeH))),aeJ,(aei 1)⟩)) aej))))
   (aeo (aez (aey (L3.wN (m:=0) (bQ iq _ (by decide))) (aet PD iq lJ (aeh (aem aeu (aei 11) aek) (aeh (aem aeu (aei 11) aek) (aeh (aeK aeY kF m_list (by decide +kernel) (aeh (aei 19) aej)) aej)))) (aet DU iq jm (aeh (aei 9) (aeh (aei 20) (aeh aeL (aeh aeL aej)))))) (aeo (aeq aeL)) aeA))))))))))))
   (aeo (aeq (aeS (L3.si (m:=3) (bQ iq _ (by decide))) (aei 11) (aeB (aeh (aei 1) (aeh (aei 8) aej))))))))))))))),?_⟩
 refine Dz fun Rk kR=>?_
 refine ⟨_,rfl,a,ns,4,rfl,hS,by decide,by decide,fun v1 HA bs ins nds sA pa zE=>?_⟩
 obtain ⟨p1,B1,I1,N1,J5,UU,rfl,yt,CZ,hI1,Lr,vg,Uq⟩:=id pa
 refine ⟨_,rfl,a,ns,1,rfl,ah.seq sA hS,by decide,fun cc=>⟨cc,32,420,rfl,by decide,by decide,by decide,by decide,fun r row hr WK=>?_⟩⟩
 obtain ⟨HB,sB,gr,zz⟩:=aJ hr (.lst (row.map V.int))
 rw [zz]; clear zz
 have hR:Row (2 ^ 30) row 32:=WK.mono (by decide)
 refine ⟨_,rfl,a,ns,1,rfl,ah.seq (aa sA sB) hS,by decide,fun c2=>⟨_,_,rfl,rfl,⟨by decide,by decide,by decide⟩,_,_,rfl,rfl,(show (0:Int) < 10 ^ (20:Int).toNat by decide +kernel),?_⟩⟩
 obtain ⟨far,DC⟩ : ∃far:Int,far=c2 % 10 ^ (20:Int).toNat:=⟨_,rfl⟩
 have NS:(10:Int) ^ (20:Int).toNat=100000000000000000000:=by decide +kernel
 have f0:0<=far:=by rw [DC,NS]; exact aav _ (by decide)
 have f1:far < 100000000000000000000:=by rw [DC,NS]; exact aap _ (by decide)
 refine bo ?_
 refine kR _ _ ?_
 refine b8 [some (.ref a),some (.ref p1),some (.ref r),some (.int far),none,none,none,none,none,none,none,none,none,none,none,none,none,none,none,none,none] (by subst DC; rfl) ?_
 refine eC fun Rk kR=>?_
 clear DC
 have few:=zE.few
 have C7:=zE.bx
 have YH:=pa.same sB
 have l2:=C7.len
 have one:=zE.one
 refine ⟨_,rfl,_,rfl,.ref p1,r,bs,ins,nds,row,32,rfl,YH,⟨l2,fun b hb=>aak (C7.short b hb) (by decide),one,by omega,zE.good⟩,gr,hR,by decide,fun pp p2 T2 I2 N2 cA vj tV HC Zh vn2 b2 nds2 cz st sC wC cf Ph YF Hy WI YE ZR ca ov ps dv ZK AF no=>?_⟩
 refine ⟨pp,_,rfl,aK.of wC,rfl,_,_,rfl,_,_,rfl,_,_,rfl,_,_,rfl,rfl,?_⟩
 refine kR _ _ ?_
 refine b8 [some (.ref a),some (.ref p1),some (.ref r),some (.int far),some (.ref p2),some (.ref cA),some (.ref vj),some (.ref tV),none,none,none,none,none,none,none,none,none,none,none,none,none] rfl ?_
 refine eC fun Rk kR=>?_
 have FN:=FL C7
 obtain ⟨f2,Nh,Vl,bsz2,R5⟩:=Mt C7 ov
 have good2:=y4 no R5 zE.good
 have two1:1<=nds2.length:=by
   obtain ⟨p,b,_,_,h,_⟩:=no.all 0 nds[0] (aad (by omega))
   omega
 obtain ⟨Rt,O7,Rx⟩:=jO hR 6 (by decide)
 have XH:=sC _ _ gr
 refine ⟨_,rfl,_,rfl,_,rfl,r,_,rfl,ao.of XH,fun l6 yq=>?_⟩
 rw [bq,show br row (some (6:Int)) none=Rt from O7]
 obtain ⟨HD,sD,g6,zz⟩:=aJ yq (.lst (Rt.map V.int))
 rw [zz]; clear zz
 have U6:bD HD (.ref p2) b2 ins nds2:=⟨p2,T2,I2,N2,Zh,vn2,rfl,sD _ _ cf,sD _ _ Ph,sD _ _ Hy,sD _ _ WI,Paired.aZ YF fun a b h=>Tp.keep (ah.tk sD) h,Paired.aZ YE fun a b h=>cy.keep (ah.tk sD) h⟩
 refine ⟨.ref p2,l6,b2,ins,nds2,Rt,26,rfl,U6,⟨f2,by omega,D7 C7,fun b hb=>(bsz2 b hb).2,Jc C7 ov⟩,g6,Rx,by decide,fun vo b3 i3 HE sE Rl Ct=>?_⟩
 refine bo ?_
 obtain ⟨p3,B3,I3,N3,J6,UW,rfl,lN,Kn,Ti,Tn,Mw,Ur⟩:=id Rl
 refine kR _ _ ?_
 refine b8 [some (.ref a),some (.ref p1),some (.ref r),some (.int far),some (.ref p2),some (.ref cA),some (.ref vj),some (.ref tV),some (.ref p3),none,none,none,none,none,none,none,none,none,none,none,none] rfl ?_
 refine eC fun Rk kR=>?_
 have RI:=aa sB (aa sC (aa sD sE))
 have YG:=pa.same RI
 refine ⟨_,rfl,.ref p1,bs,ins,nds,rfl,YG,FN,fun la va HF LG sF ga YJ=>?_⟩
 refine ⟨_,rfl,.ref p3,b3,i3,nds2,rfl,Rl.same sF,Ct.ft,fun lb vb HG N7 sG gb YK=>?_⟩
 refine ⟨_,RB.told (sG _ _ ga) gb (Paired.aZ YJ fun _ _ z=>Tp.keep (ah.tk sG) z) YK Hh,?_⟩
 obtain ⟨pair,Aa⟩ : ∃pair,pair=decide (cL bs ins=cL b3 i3):=⟨_,rfl⟩
 have FZ:pair=true↔cQ bs b3 ins i3:=by rw [Aa,decide_eq_true_iff]; exact D9
 refine bo ?_
 refine kR _ _ ?_
 refine b8 [some (.ref a),some (.ref p1),some (.ref r),some (.int far),some (.ref p2),some (.ref cA),some (.ref vj),some (.ref tV),some (.ref p3),some (.bl pair),none,none,none,none,none,none,none,none,none,none,none] (by subst Aa; rfl) ?_
 refine eC fun Rk kR=>?_
 clear Aa
 have Vm:=Ct.l3
 have sAG:=aa RI (aa sF sG)
 have Y1:=aa sF sG
 obtain ⟨q1,ZX,ZY,ZZ⟩:=And.intro (sAG _ _ yt) (And.intro (sAG _ _ CZ) (And.intro (sAG _ _ hI1) (sAG _ _ Lr)))
 have MI:Paired (bG HG) J5 bs:=Paired.aZ vg fun _ _ z=>Tp.keep (ah.tk sAG) z
 have Qr:=sAG _ _ yt
 have Hv:=sAG _ _ CZ
 refine ⟨_,rfl,p1,_,_,_,rfl,rfl,aK.of Qr,rfl,B1,rfl,⟨_,ao.of Hv⟩,fun k1 Tx=>?_⟩
 have WD:=Hv
 have L7:J5.length=bs.length:=Paired.length MI
 refine bj (xs:=J5) (fun i H3=>∃vl:List V,ah HG H3/\H3 k1=some (.lst vl)/\vl.length=i/\Paired (b9 H3) vl ((bs.take i).map fun b=>(("mine":Str),b.1))) ⟨[],af Tx _,ae,rfl,.nil⟩ (fun i H3 _ z=>by obtain ⟨_,s3,_⟩:=z; exact ao.of (s3 _ _ Hv)) (fun i x H3 hx z=>?_) (fun HI z=>?_)
 · obtain ⟨vl,s3,FV,lg,pt⟩:=z
   obtain ⟨b,fR,vg,rfl,rQ⟩:=Paired.get MI hx
   have dQ:i < J5.length:=(List.getElem?_eq_some_iff.mp hx).1
   refine ⟨vg,_,rfl,aK.of (s3 _ _ rQ),rfl,_,_,rfl,_,_,rfl,rfl,?_⟩
   refine bV (A:=fun H3=>dg _ k1 _ H3 _) ?_
   refine ⟨_,rfl,agr,fun tp uL=>?_⟩
   obtain ⟨H4,s4,g4,zz⟩:=aJ uL (.tup [.str "mine",.str b.1])
   rw [zz]; clear zz
   have C0:=s4 _ _ FV
   have tk:=TK.lst C0 (o:=.lst (vl++[.ref tp]))
   refine ⟨_,C0,aB (by omega),aL (Pv:=fun i H3=>∃vl:List V,ah HG H3/\H3 k1=some (.lst vl)/\vl.length=i/\Paired (b9 H3) vl ((bs.take i).map fun b=>(("mine":Str),b.1))) (by repeat' constructor) dQ ⟨_,aG (aa s3 s4) Tx,ae,by rw [aae,lg]; rfl,?_⟩⟩
   rw [aal,fR,aah]
   exact Paired.snoc (Paired.aZ pt fun _ _ z=>b9.keep ((ah.tk s4).trans tk) z) (b9.keep tk ⟨tp,rfl,g4⟩)
 obtain ⟨va1,sI,Wi,Yi,Um⟩:=z
 rw [L7,aaA] at Um
 have Ou:=aa Y1 sI
 have Qs:=Ou _ _ lN
 have Hw:=Ou _ _ Kn
 have MJ:Paired (bG HI) J6 b3:=Paired.aZ Mw fun _ _ z=>Tp.keep (ah.tk Ou) z
 refine ⟨_,rfl,p3,_,_,_,rfl,rfl,aK.of Qs,rfl,B3,rfl,⟨_,ao.of Hw⟩,fun k2 Ko=>?_⟩
 have WE:=Hw
 have Ye:J6.length=b3.length:=Paired.length MJ
 refine bj (xs:=J6) (fun i H3=>∃vl:List V,ah HI H3/\H3 k2=some (.lst vl)/\vl.length=i/\Paired (b9 H3) vl ((b3.take i).map fun b=>(("yours":Str),b.1))) ⟨[],af Ko _,ae,rfl,.nil⟩ (fun i H3 _ z=>by obtain ⟨_,s3,_⟩:=z; exact ao.of (s3 _ _ Hw)) (fun i x H3 hx z=>?_) (fun HJ z=>?_)
 · obtain ⟨vl,s3,FV,lg,pt⟩:=z
   obtain ⟨b,fR,vg,rfl,rQ⟩:=Paired.get MJ hx
   have dQ:i < J6.length:=(List.getElem?_eq_some_iff.mp hx).1
   refine ⟨vg,_,rfl,aK.of (s3 _ _ rQ),rfl,_,_,rfl,_,_,rfl,rfl,?_⟩
   refine bV (A:=fun H3=>dg _ k2 _ H3 _) ?_
   refine ⟨_,rfl,agr,fun tp uL=>?_⟩
   obtain ⟨H4,s4,g4,zz⟩:=aJ uL (.tup [.str "yours",.str b.1])
   rw [zz]; clear zz
   have C0:=s4 _ _ FV
   have tk:=TK.lst C0 (o:=.lst (vl++[.ref tp]))
   refine ⟨_,C0,aB (by omega),aL (Pv:=fun i H3=>∃vl:List V,ah HI H3/\H3 k2=some (.lst vl)/\vl.length=i/\Paired (b9 H3) vl ((b3.take i).map fun b=>(("yours":Str),b.1))) (by repeat' constructor) dQ ⟨_,aG (aa s3 s4) Ko,ae,by rw [aae,lg]; rfl,?_⟩⟩
   rw [aal,fR,aah]
   exact Paired.snoc (Paired.aZ pt fun _ _ z=>b9.keep ((ah.tk s4).trans tk) z) (b9.keep tk ⟨tp,rfl,g4⟩)
 obtain ⟨OC,sJ,Wj,Yj,Uo⟩:=z
 rw [Ye,aaA] at Uo
 have Pg:=sJ _ _ Wi
 have WQ:J6.length<=3:=by omega
 have WO:J5.length<=2:=by omega
 refine ⟨k1,k2,_,_,rfl,rfl,Pg,Wj,aak (show _<=10 by omega) (by decide),fun ka Xi=>?_⟩
 obtain ⟨HK,sK,gK,zz⟩:=aJ Xi (.lst (va1++OC))
 rw [zz]; clear zz
 have YI:Paired (b9 HK) (va1++OC) (yF bs b3):=Paired.app (Paired.aZ Um fun _ _ z=>b9.keep (ah.tk (aa sJ sK)) z) (Paired.aZ Uo fun _ _ z=>b9.keep (ah.tk sK) z)
 refine bo ?_
 refine kR _ _ ?_
 refine b8 [some (.ref a),some (.ref p1),some (.ref r),some (.int far),some (.ref p2),some (.ref cA),some (.ref vj),some (.ref tV),some (.ref p3),some (.bl pair),some (.ref ka),none,none,none,none,none,none,none,none,none,none] rfl ?_
 refine eC fun Rk kR=>?_
 have sEK:=aa Ou (aa sJ sK)
 have MZ:=aa RI sEK
 refine ⟨_,rfl,p1,B1,I1,N1,J5,_,UU,rfl,MZ _ _ yt,MZ _ _ CZ,MZ _ _ hI1,MZ _ _ Lr,fun c1 CB CI CN HL sL Tr Tc Td Te=>?_⟩
 refine ⟨_,rfl,p3,B3,I3,N3,J6,_,UW,rfl,sL _ _ (sEK _ _ lN),sL _ _ (sEK _ _ Kn),sL _ _ (sEK _ _ Ti),sL _ _ (sEK _ _ Tn),fun c3 DB DI DN HM sM DS Tf Tg Th=>?_⟩
 refine ⟨agr,fun ha W9=>?_⟩
 obtain ⟨HN,sN,Ll,zz⟩:=aJ W9 (.lst [.ref c1,.ref c3])
 rw [zz]; clear zz
 refine bo ?_
 refine kR _ _ ?_
 refine b8 [some (.ref a),some (.ref p1),some (.ref r),some (.int far),some (.ref p2),some (.ref cA),some (.ref vj),some (.ref tV),some (.ref p3),some (.bl pair),some (.ref ka),some (.ref ha),none,none,none,none,none,none,none,none,none] rfl ?_
 refine eC fun Rk kR=>?_
 have KD:=aa sM sN
 have Ov:=aa sL KD
 have M0:=aa sEK Ov
 have Ot:=aa MZ Ov
 have Y0:ah HB HN:=aa (aa sC (aa sD sE)) M0
 have XI:=Y0 _ _ gr
 have NJ:bD HN (.ref p1) bs ins nds:=pa.same Ot
 have Sr:bD HN (.ref p3) b3 i3 nds2:=Rl.same M0
 have OO:bD HN (.ref c1) bs ins nds:=⟨c1,CB,CI,CN,J5,UU,rfl,KD _ _ Tr,KD _ _ Tc,KD _ _ Td,KD _ _ Te,Paired.aZ vg fun _ _ z=>Tp.keep (ah.tk Ot) z,Paired.aZ Uq fun _ _ z=>cy.keep (ah.tk Ot) z⟩
 have OP:bD HN (.ref c3) b3 i3 nds2:=⟨c3,DB,DI,DN,J6,UW,rfl,sN _ _ DS,sN _ _ Tf,sN _ _ Tg,sN _ _ Th,Paired.aZ Mw fun _ _ z=>Tp.keep (ah.tk M0) z,Paired.aZ Ur fun _ _ z=>cy.keep (ah.tk M0) z⟩
 have S7:=Ov _ _ gK
 have Jx:Paired (b9 HN) (va1++OC) (yF bs b3):=Paired.aZ YI fun _ _ z=>b9.keep (ah.tk Ov) z
 have good3:∀e∈nds2,e.good (· ∈ b3.map (·.1)) nds2.length 19:=fun e he=>Nd.good.imp (fun x z=>Ct.nm x z) (by decide) (good2 e he)
 have Lm:∀e∈nds,e.good (· ∈ bs.map (·.1)) nds.length 19:=fun e he=>Nd.good.imp (fun _ z=>z) (by decide) (zE.good e he)
 obtain ⟨as,SV⟩:=qC Jx
 have Wk:HN ka=some (.lst (as.map V.ref)):=by rw [← SV]; exact S7
 have Up:Paired (b9 HN) (as.map V.ref) (yF bs b3):=by rw [← SV]; exact Jx
 have bsz:=C7.sz
 have w1:∀z∈bs.map (·.2),1<=z/\z < 1000:=fun z hz=>by
   obtain ⟨b,hb,rfl⟩:=List.mem_map.mp hz
   have:=bsz b hb
   exact ⟨this.1,by omega⟩
 have w3:∀z∈b3.map (·.2),1<=z/\z < 1000:=fun z hz=>by
   obtain ⟨b,hb,rfl⟩:=List.mem_map.mp hz
   have:=Ct.ft.sz b hb
   have:=Ct.sz b hb
   exact ⟨by omega,by omega⟩
 have G9:∀{l:List Int},l.length<=100->(∀z∈l,1<=z/\z < 1000)->zH l:=fun hl h=>jg (by omega) fun z hz=>by have:=h z hz; exact ⟨by omega,by omega⟩
 refine ⟨_,rfl,(by decide),(by decide),?_⟩
 refine kr (lo:=0) (n:=3) (fun i σ H2=>(∃Ra Oj Mj Ky Iw Gi En C4 Bo:Option V,σ=[some (.ref a),some (.ref p1),some (.ref r),some (.int far),some (.ref p2),some (.ref cA),some (.ref vj),some (.ref tV),some (.ref p3),some (.bl pair),some (.ref ka),some (.ref ha),Ra,Oj,Mj,Ky,Iw,Gi,En,C4,Bo])/\ah HN H2) ⟨⟨_,_,_,_,_,_,_,_,_,rfl⟩,same_refl _⟩ (fun i σ H2 hi z=>?_) (fun σ H2 z=>?_)
 · obtain ⟨⟨Ra,Oj,Mj,Ky,Iw,Gi,En,C4,Bo,rfl⟩,s2⟩:=z
   refine bo ?_
   refine b8 [some (.ref a),some (.ref p1),some (.ref r),some (.int far),some (.ref p2),some (.ref cA),some (.ref vj),some (.ref tV),some (.ref p3),some (.bl pair),some (.ref ka),some (.ref ha),some (.int (0 + (i:Int))),Oj,Mj,Ky,Iw,Gi,En,C4,Bo] rfl ?_
   refine eC fun Rk kR=>?_
   obtain ⟨rk,VE,Uz⟩:=Fe hR (8 + 8 * i) (16 + 8 * i) (by omega) (by omega)
   have r8:Row (2 ^ 30) rk 8:=by rw [show (16 + 8 * i) - (8 + 8 * i)=8 by omega] at Uz; exact Uz
   refine ⟨_,rfl,_,rfl,_,_,rfl,rfl,.inl ⟨by decide,by decide⟩,_,_,rfl,rfl,_,rfl,_,rfl,_,_,rfl,rfl,.inl ⟨by decide,by decide⟩,_,_,rfl,rfl,_,rfl,r,_,rfl,ao.of (s2 _ _ XI),fun ra Oa=>?_⟩
   have O2:br row (some (8 + 8 * (0 + (i:Int)))) (some (16 + 8 * (0 + (i:Int))))=rk:=by rw [← VE,show (8 + 8 * (0 + (i:Int)))=((8 + 8 * i:Nat):Int) by omega,show (16 + 8 * (0 + (i:Int)))=((16 + 8 * i:Nat):Int) by omega]
   rw [bq,O2]
   obtain ⟨H3,s3,NY,zz⟩:=aJ Oa (.lst (rk.map V.int))
   rw [zz]; clear zz
   have i8:=aa s2 s3
   refine bo ?_
   refine kR _ _ ?_
   refine b8 [some (.ref a),some (.ref p1),some (.ref r),some (.int far),some (.ref p2),some (.ref cA),some (.ref vj),some (.ref tV),some (.ref p3),some (.bl pair),some (.ref ka),some (.ref ha),some (.int (0 + (i:Int))),some (.ref ra),Mj,Ky,Iw,Gi,En,C4,Bo] rfl ?_
   refine eC fun Rk kR=>?_
   refine ⟨_,rfl,_,rfl,.ref p1,bs,rfl,(NJ.same i8).bx,by omega,fun z1 QL=>?_⟩
   obtain ⟨H4,s4,Wu,zz⟩:=aJ QL (.lst ((bs.map (·.2)).map V.int))
   rw [zz]; clear zz
   refine ⟨_,rfl,ra,z1,rk,bs.map (·.2),far,8,rfl,⟨s4 _ _ NY,r8,by decide,Wu,by rw [aab]; omega,w1,f0,f1⟩,fun ma wm H5 ZG s5 Wm Vp=>?_⟩
   refine bo ?_
   refine kR _ _ ?_
   refine b8 [some (.ref a),some (.ref p1),some (.ref r),some (.int far),some (.ref p2),some (.ref cA),some (.ref vj),some (.ref tV),some (.ref p3),some (.bl pair),some (.ref ka),some (.ref ha),some (.int (0 + (i:Int))),some (.ref ra),some (.ref ma),Ky,Iw,Gi,En,C4,Bo] rfl ?_
   refine eC fun Rk kR=>?_
   have s35:=aa s4 s5
   have KC:=aa i8 s35
   obtain ⟨Rq,O5,Rv⟩:=jO r8 3 (by decide)
   refine ⟨_,rfl,_,rfl,ra,_,rfl,ao.of (s35 _ _ NY),fun r3 XF=>?_⟩
   rw [bq,show br rk (some (3:Int)) none=Rq from O5]
   obtain ⟨H6,s6,Wo,zz⟩:=aJ XF (.lst (Rq.map V.int))
   rw [zz]; clear zz
   have B8:=aa KC s6
   refine ⟨_,rfl,.ref p3,b3,rfl,(Sr.same B8).bx,by omega,fun z2 X3=>?_⟩
   obtain ⟨H7,s7,Wv,zz⟩:=aJ X3 (.lst ((b3.map (·.2)).map V.int))
   rw [zz]; clear zz
   refine ⟨_,rfl,r3,z2,Rq,b3.map (·.2),far,5,rfl,⟨s7 _ _ Wo,Rv,by decide,Wv,by rw [aab]; omega,w3,f0,f1⟩,fun ya wy H8 ZN s8 Wt Vr=>?_⟩
   refine bo ?_
   refine kR _ _ ?_
   refine b8 [some (.ref a),some (.ref p1),some (.ref r),some (.int far),some (.ref p2),some (.ref cA),some (.ref vj),some (.ref tV),some (.ref p3),some (.bl pair),some (.ref ka),some (.ref ha),some (.int (0 + (i:Int))),some (.ref ra),some (.ref ma),some (.ref ya),Iw,Gi,En,C4,Bo] rfl ?_
   refine eC fun Rk kR=>?_
   have UJ:=aa s6 (aa s7 s8)
   have s38:=aa s35 UJ
   have s08:=aa i8 s38
   obtain ⟨Rp,O4,Ru⟩:=jO r8 2 (by decide)
   refine ⟨_,rfl,_,rfl,ra,_,rfl,ao.of (s38 _ _ NY),fun r2 m6=>?_⟩
   rw [bq,show br rk (some (2:Int)) none=Rp from O4]
   obtain ⟨H9,s9,Wn,zz⟩:=aJ m6 (.lst (Rp.map V.int))
   rw [zz]; clear zz
   have JN:=aa s08 s9
   refine ⟨_,rfl,r2,ka,Rp,6,va1++OC,yF bs b3,rfl,Wn,Ru,by decide,JN _ _ S7,Paired.aZ Jx (fun _ _ z=>b9.keep (ah.tk JN) z),by rw [aae]; omega,Ee,fun tv e GS Oq ev VF SY ed eb=>?_⟩
   refine bo ?_
   refine kR _ _ ?_
   refine b8 [some (.ref a),some (.ref p1),some (.ref r),some (.int far),some (.ref p2),some (.ref cA),some (.ref vj),some (.ref tV),some (.ref p3),some (.bl pair),some (.ref ka),some (.ref ha),some (.int (0 + (i:Int))),some (.ref ra),some (.ref ma),some (.ref ya),some tv,Gi,En,C4,Bo] rfl ?_
   refine eC fun Rk kR=>?_
   have RA:=aa JN Oq
   refine ⟨_,rfl,tv,e,rfl,ev,SY,ed,eb,fun nl vn OH kl MV S8 Us=>⟨nl,rfl,⟨_,ao.of S8⟩,fun tl TV=>?_⟩⟩
   have MS:=aa RA MV
   have Ym:vn.length=e.cb.length:=Paired.length Us
   refine bj (xs:=vn) (fun i Hq=>ah OH Hq/\Hq tl=some (.lst (((e.cb.take i).map fun b=>decide (b∈yF bs b3)).map V.bl))) ⟨af TV _,ae⟩ (fun i Hq _ z=>ao.of (z.1 _ _ S8)) (fun i x Hq hx z=>?_) (fun Nz z=>?_)
   · obtain ⟨sq,gq⟩:=z
     have dQ:i < vn.length:=(List.getElem?_eq_some_iff.mp hx).1
     obtain ⟨b,fR,pb,rfl,rQ⟩:=Paired.get Us hx
     have s0q:=aa MS sq
     refine bo ?_
     refine bV (A:=fun H4=>dg _ tl _ H4 _) ?_
     refine ⟨_,rfl,_,rfl,ka,as,twoF Hq b.1 b.2,rfl,ao.of (s0q _ _ Wk),(fun a ha=>?_),_,gq,aB (by rw [aab,aab,aaw]; omega),aL (Pv:=fun i Hq=>ah OH Hq/\Hq tl=some (.lst (((e.cb.take i).map fun b=>decide (b∈yF bs b3)).map V.bl))) (by repeat' constructor) dQ ⟨aG sq TV,?_⟩⟩
     · obtain ⟨j,hj⟩:=List.mem_iff_getElem?.mp ha
       obtain ⟨bb,_,p',e',h'⟩:=Paired.get Up (show (as.map V.ref)[j]? = some (.ref a) by rw [aaC,hj]; rfl)
       cases e'
       exact two_eb (s0q _ _ h') (sq _ _ rQ)
     · have ea:as.any (twoF Hq b.1 b.2)=decide (b∈yF bs b3):=two_any (Paired.aZ Up fun _ _ z=>b9.keep (ah.tk s0q) z)
       rw [ae,aal,fR,aah,aah]
       show some (HO.lst (_++[V.bl (as.any (twoF Hq b.1 b.2))]))=_
       rw [ea]
       rfl
   obtain ⟨B9,S4⟩:=z
   rw [Ym,aaA] at S4
   have JL:=aa MS B9
   refine ⟨tl,_,rfl,ao.of S4,?_⟩
   obtain ⟨th,O8⟩ : ∃th,th=(e.cb.map fun b=>decide (b∈yF bs b3)).all id:=⟨_,rfl⟩
   have XO:th=e.aQ (zw bs b3):=by rw [O8,gT]
   refine bo ?_
   refine kR _ _ ?_
   refine b8 [some (.ref a),some (.ref p1),some (.ref r),some (.int far),some (.ref p2),some (.ref cA),some (.ref vj),some (.ref tV),some (.ref p3),some (.bl pair),some (.ref ka),some (.ref ha),some (.int (0 + (i:Int))),some (.ref ra),some (.ref ma),some (.ref ya),some tv,some (.bl th),En,C4,Bo] (by subst O8; rfl) ?_
   refine eC fun Rk kR=>?_
   clear O8
   have RM:ah H5 Nz:=aa UJ (aa s9 (aa Oq (aa MV B9)))
   have FP:=RM _ _ Wm
   have FQ:Nz ya=some (.lst (wy.map V.int)):=aa s9 (aa Oq (aa MV B9)) _ _ Wt
   refine ⟨_,rfl,_,rfl,_,rfl,.ref p1,bs,rfl,(NJ.same JL).bx,by omega,fun z3 QM=>?_⟩
   obtain ⟨R8,s13,Ww,zz⟩:=aJ QM (.lst ((bs.map (·.2)).map V.int))
   rw [zz]; clear zz
   refine ⟨ma,z3,wm,bs.map (·.2),rfl,s13 _ _ FP,Ww,by rw [aab]; omega,fun fb R9 W5 Ca=>?_⟩
   have RC:=aa JL (aa s13 Ca)
   refine ⟨_,rfl,_,rfl,.ref p3,b3,rfl,(Sr.same RC).bx,by omega,fun z4 X4=>?_⟩
   obtain ⟨Sa,s15,Wx,zz⟩:=aJ X4 (.lst ((b3.map (·.2)).map V.int))
   rw [zz]; clear zz
   have Gu:=aa s13 (aa Ca s15)
   refine ⟨ya,z4,wy,b3.map (·.2),rfl,Gu _ _ FQ,Wx,by rw [aab]; omega,fun sb Sb F6 Cb=>?_⟩
   have MW:=aa Gu Cb
   refine ⟨_,rfl,pair,fb,sb,th,rfl,fun du WZ=>?_⟩
   obtain ⟨Sd,YQ,Wg,zz⟩:=aJ WZ (.lst ((kb (ou pair fb sb th)).map V.bl))
   rw [zz]; clear zz
   refine bo ?_
   refine kR _ _ ?_
   refine b8 [some (.ref a),some (.ref p1),some (.ref r),some (.int far),some (.ref p2),some (.ref cA),some (.ref vj),some (.ref tV),some (.ref p3),some (.bl pair),some (.ref ka),some (.ref ha),some (.int (0 + (i:Int))),some (.ref ra),some (.ref ma),some (.ref ya),some tv,some (.bl th),some (.ref du),C4,Bo] rfl ?_
   refine K7 fun Rk kR=>?_
   have s1217:=aa MW YQ
   have s017:=aa JL s1217
   refine ⟨_,rfl,ha,_,_,_,rfl,rfl,ao.of (s017 _ _ Ll),rfl,_,rfl,ha,_,_,_,rfl,rfl,ao.of (s017 _ _ Ll),rfl,_,rfl,ma,_,rfl,.inl (ao.of (s1217 _ _ FP)),fun m2 hm2=>?_⟩
   obtain ⟨Se,s18,Wl,zz⟩:=aJ hm2 (.lst (wm.map V.int))
   rw [zz]; clear zz
   refine ⟨_,rfl,ya,_,rfl,.inl (ao.of (s18 _ _ (s1217 _ _ FQ))),fun y2 QK=>?_⟩
   obtain ⟨Sf,UC,Ws,zz⟩:=aJ QK (.lst (wy.map V.int))
   rw [zz]; clear zz
   have s1719:=aa s18 UC
   have B7:=aa s017 s1719
   have VM:=cF.keep (ah.tk (aa MV (aa B9 (aa s1217 s1719)))) ev
   refine ⟨_,rfl,.ref c1,.ref c3,m2,y2,tv,bs,b3,ins,i3,nds,nds2,wm,wy,e,rfl,⟨⟨OO.same B7,OP.same B7,FN,Ct.ft⟩,⟨(OO.same B7).bx,FN.nd,G9 (by rw [aab]; omega) w1,UC _ _ Wl,Vp⟩,⟨(OP.same B7).bx,Ct.ft.nd,G9 (by rw [aab]; omega) w3,Ws,Vr⟩,VM,SY,ed,fun gp=>by rw [Ct.eq gp.1.symm,Vl],by omega⟩,VF,fun k al Sg hk Zz RH We=>?_⟩
   have Pe:=RH _ _ (s1719 _ _ Wg)
   refine ⟨_,rfl,_,RB.Sz We Pe,_,rfl,?_⟩
   have ek:k=ou pair fb sb th:=by rw [XO]; exact Hm hk FZ W5 F6
   refine aF (fun c=>absurd (show kb k=kb (ou pair fb sb th) by rw [ek]) (lZ c)) (fun _=>?_)
   have RD:=aa B7 RH
   have sx:ah H3 Sg:=aa s38 (aa s9 (aa Oq (aa MV (aa B9 (aa s1217 (aa s1719 RH))))))
   have wi:∀z∈ins.map (ck bs),1<=z/\z < 1000:=fun z hz=>by
     obtain ⟨x,hx,rfl⟩:=List.mem_map.mp hz
     obtain ⟨b,hb,rfl⟩:=List.mem_map.mp (FN.sub x hx)
     rw [kh FN.nd hb]
     have:=bsz b hb
     exact ⟨this.1,by omega⟩
   have ilen:=D7 C7
   obtain ⟨Rr,O6,Rw⟩:=jO r8 5 (by decide)
   refine ⟨_,rfl,_,rfl,ra,_,rfl,ao.of (sx _ _ NY),fun r5 XG=>?_⟩
   rw [bq,show br rk (some (5:Int)) none=Rr from O6]
   obtain ⟨Sh,YR,Wq,zz⟩:=aJ XG (.lst (Rr.map V.int))
   rw [zz]; clear zz
   have MT:=aa RD YR
   refine ⟨_,rfl,.ref p1,bs,ins,nds,rfl,NJ.same MT,FN,fun lc vc zv ZD s22 gc Ut=>⟨lc,rfl,⟨_,ao.of gc⟩,fun Oz LY=>?_⟩⟩
   have Yk:vc.length=(cL bs ins).length:=Paired.length Ut
   have Ua:(cL bs ins).length<=2:=by unfold cL; rw [aab]; exact D7 C7
   refine bj (xs:=vc) (fun i Hq=>ah zv Hq/\Hq Oz=some (.lst ((((cL bs ins).take i).map (·.2)).map V.int))) ⟨af LY _,ae⟩ (fun i Hq _ z=>ao.of (z.1 _ _ gc)) (fun i x Hq hx z=>?_) (fun Si z=>?_)
   · obtain ⟨sq,gq⟩:=z
     have dQ:i < vc.length:=(List.getElem?_eq_some_iff.mp hx).1
     obtain ⟨b,fR,pb,rfl,rQ⟩:=Paired.get Ut hx
     refine ⟨pb,_,rfl,aK.of (sq _ _ rQ),rfl,_,_,rfl,_,_,rfl,rfl,?_⟩
     refine bV (A:=fun H4=>dg _ Oz _ H4 _) ?_
     refine ⟨_,rfl,_,gq,aB (by rw [aab,aab,aaw]; omega),aL (Pv:=fun i Hq=>ah zv Hq/\Hq Oz=some (.lst ((((cL bs ins).take i).map (·.2)).map V.int))) (by repeat' constructor) dQ ⟨aG sq LY,?_⟩⟩
     rw [ae,aal,fR,aah,aah]
     rfl
   obtain ⟨Ff,Lo⟩:=z
   rw [Yk,aaA,show (cL bs ins).map (·.2)=ins.map (ck bs) by unfold cL; rw [abm]; rfl] at Lo
   have RF:=aa MT (aa s22 Ff)
   refine ⟨_,rfl,r5,Oz,Rr,ins.map (ck bs),far,3,rfl,⟨Ff _ _ (s22 _ _ Wq),Rw,by decide,Lo,by rw [aab]; omega,wi,f0,f1⟩,fun xa wx Sj ZM YS S9 Vq=>?_⟩
   refine bo ?_
   refine kR _ _ ?_
   refine b8 [some (.ref a),some (.ref p1),some (.ref r),some (.int far),some (.ref p2),some (.ref cA),some (.ref vj),some (.ref tV),some (.ref p3),some (.bl pair),some (.ref ka),some (.ref ha),some (.int (0 + (i:Int))),some (.ref ra),some (.ref ma),some (.ref ya),some tv,some (.bl th),some (.ref du),some (.ref xa),Bo] rfl ?_
   refine eC fun Rk kR=>?_
   have MU:=aa RF YS
   refine ⟨_,rfl,?_⟩
   refine ⟨_,rfl,.ref p1,bs,ins,nds,rfl,NJ.same MU,FN,fun ld vd NB ZE s25 gd Uu=>⟨ld,rfl,⟨_,ao.of gd⟩,fun Nh LZ=>?_⟩⟩
   have Yl:vd.length=(cL bs ins).length:=Paired.length Uu
   have Ub:(cL bs ins).length<=2:=by unfold cL; rw [aab]; exact D7 C7
   refine bj (xs:=vd) (fun i Hq=>ah NB Hq/\Hq Nh=some (.lst ((((cL bs ins).take i).map (·.2)).map V.int))) ⟨af LZ _,ae⟩ (fun i Hq _ z=>ao.of (z.1 _ _ gd)) (fun i x Hq hx z=>?_) (fun Sk z=>?_)
   · obtain ⟨sq,gq⟩:=z
     have dQ:i < vd.length:=(List.getElem?_eq_some_iff.mp hx).1
     obtain ⟨b,fR,pb,rfl,rQ⟩:=Paired.get Uu hx
     refine ⟨pb,_,rfl,aK.of (sq _ _ rQ),rfl,_,_,rfl,_,_,rfl,rfl,?_⟩
     refine bV (A:=fun H4=>dg _ Nh _ H4 _) ?_
     refine ⟨_,rfl,_,gq,aB (by rw [aab,aab,aaw]; omega),aL (Pv:=fun i Hq=>ah NB Hq/\Hq Nh=some (.lst ((((cL bs ins).take i).map (·.2)).map V.int))) (by repeat' constructor) dQ ⟨aG sq LZ,?_⟩⟩
     rw [ae,aal,fR,aah,aah]
     rfl
   obtain ⟨MX,Lp⟩:=z
   rw [Yl,aaA,show (cL bs ins).map (·.2)=ins.map (ck bs) by unfold cL; rw [abm]; rfl] at Lp
   have RG:=aa MU (aa s25 MX)
   refine ⟨xa,Nh,wx,ins.map (ck bs),rfl,MX _ _ (s25 _ _ S9),Lp,by rw [aab]; omega,fun gb Sl W6 UG=>?_⟩
   refine bo ?_
   refine kR _ _ ?_
   refine b8 [some (.ref a),some (.ref p1),some (.ref r),some (.int far),some (.ref p2),some (.ref cA),some (.ref vj),some (.ref tV),some (.ref p3),some (.bl pair),some (.ref ka),some (.ref ha),some (.int (0 + (i:Int))),some (.ref ra),some (.ref ma),some (.ref ya),some tv,some (.bl th),some (.ref du),some (.ref xa),some (.bl gb)] rfl ?_
   have s027:=aa RG UG
   have s2427:=aa s25 (aa MX UG)
   refine ⟨_,rfl,ha,_,_,_,rfl,rfl,ao.of (s027 _ _ Ll),rfl,_,rfl,ha,_,_,_,rfl,rfl,ao.of (s027 _ _ Ll),rfl,_,rfl,xa,_,rfl,.inl (ao.of (s2427 _ _ S9)),fun x2 yx=>?_⟩
   obtain ⟨CV,YT,Wr,zz⟩:=aJ yx (.lst (wx.map V.int))
   rw [zz]; clear zz
   have JM:=aa s027 YT
   have Ze:=Fq l2 (fun b hb=>by have:=bsz b hb; omega)
   have Zf:oi b3<=1000:=RT Vm (fun b hb=>⟨Ct.ft.sz b hb,Ct.sz b hb⟩)
   have few1:nds.length * oi bs<=100000:=aak (acP (show nds.length<=100 by omega) Ze) (by decide)
   have few2:nds2.length * oi b3<=100000:=aak (acP (show nds2.length<=100 by omega) Zf) (by decide)
   refine ⟨.ref c1,.ref c3,x2,bs,b3,ins,i3,nds,nds2,wx,rfl,⟨⟨OO.same JM,FN,one,Lm⟩,⟨OP.same JM,Ct.ft,two1,good3⟩,Wr,Vq,G9 (by rw [aab]; omega) wi,few1,few2⟩,fun k2 Zo Sm Ko WN YU Pc=>?_⟩
   refine ⟨_,rfl,_,rfl,pair,gb,true,true,rfl,fun Zp PJ=>?_⟩
   obtain ⟨Sn,s30,Pd,zz⟩:=aJ PJ (.lst ((kb (ou pair gb true true)).map V.bl))
   rw [zz]; clear zz
   refine ⟨_,RB.Sz (s30 _ _ Pc) Pd,_,rfl,?_⟩
   have VD:k2=ou pair gb true true:=Hl Ko FZ W6
   refine aF (fun c=>absurd (show kb k2=kb (ou pair gb true true) by rw [VD]) (lZ c)) (fun _=>?_)
   exact ⟨⟨_,_,_,_,_,_,_,_,_,rfl⟩,aa JM (aa YU s30)⟩
 obtain ⟨⟨Ra,Oj,Mj,Ky,Iw,Gi,En,C4,Bo,rfl⟩,s2⟩:=z
 refine kR _ _ ?_
 refine ⟨_,rfl,_,rfl,_,rfl,agr,fun hb Xa=>?_⟩
 obtain ⟨HV,sV,Wh,zz⟩:=aJ Xa (.lst [.ref p1,.ref p3])
 rw [zz]; clear zz
 have sNV:=aa s2 sV
 have sLV:=aa KD sNV
 have sMV:=aa sN sNV
 have sAV:=aa Ot sNV
 have sEV:=aa M0 sNV
 have rf:∀{n:Nat} {xs:List V},(∀x∈xs,cp x=true\/∃a,x=.ref a)->∀(j:Nat) (x y:V),xs[j]? = some x->xs[j]? = some y->ET K HV n x y:=fun hf j x y hx hy=>by
   rw [hx] at hy
   cases hy
   exact ET.refl (hf x (aan hx))
 have fs':∀l:List Str,∀x∈l.map V.str,cp x=true\/∃a,x=.ref a:=fun l x hx=>by obtain ⟨z,_,rfl⟩:=List.mem_map.mp hx; exact .inl rfl
 have fb:∀{HX:Hp} {vb:List V} {bs:List (Str×Int)},Paired (bG HX) vb bs->∀x∈vb,cp x=true\/∃a,x=.ref a:=fun pb x hx=>by
   obtain ⟨j,hj,ej⟩:=acd hx
   obtain ⟨b,_,hb⟩:=Paired.get pb (aad hj)
   rw [ej] at hb
   exact .inr hb.ref
 have fn:∀{HX:Hp} {vn:List V} {nds:List Nd},Paired (cy HX) vn nds->∀x∈vn,cp x=true\/∃a,x=.ref a:=fun pn x hx=>by
   obtain ⟨j,hj,ej⟩:=acd hx
   obtain ⟨b,_,hb⟩:=Paired.get pn (aad hj)
   rw [ej] at hb
   exact .inr hb.ref
 have Uv:∀{p p' B B' I I' N N':Addr} {vb vi vn:List V},HV p=some (.tup [.ref B,.ref I,.ref N])->HV p'=some (.tup [.ref B',.ref I',.ref N'])->HV B=some (.lst vb)->HV B'=some (.lst vb)->HV I=some (.lst vi)->HV I'=some (.lst vi)->HV N=some (.lst vn)->HV N'=some (.lst vn)->(∀x∈vb,cp x=true\/∃a,x=.ref a)->(∀x∈vi,cp x=true\/∃a,x=.ref a)->(∀x∈vn,cp x=true\/∃a,x=.ref a)->ET K HV 3 (.ref p) (.ref p'):=fun h1 h2 h3 h4 h5 h6 h7 h8 g1 g2 g3=>ET.tup (aK.of h1) (aK.of h2) rfl fun j x y hx hy=>by
   match j,hx,hy with
   | 0,hx,hy=>cases hx; cases hy; exact ET.lst (ao.of h3) (ao.of h4) rfl (rf g1)
   | 1,hx,hy=>cases hx; cases hy; exact ET.lst (ao.of h5) (ao.of h6) rfl (rf g2)
   | 2,hx,hy=>cases hx; cases hy; exact ET.lst (ao.of h7) (ao.of h8) rfl (rf g3)
 refine ⟨true,RB.lst (ao.of (sNV _ _ Ll)) (ao.of Wh) rfl (fun j x y hx hy=>?_),q _⟩
 match j,hx,hy with
 | 0,hx,hy=>cases hx; cases hy; exact Uv (sLV _ _ Tr) (sAV _ _ yt) (sLV _ _ Tc) (sAV _ _ CZ) (sLV _ _ Td) (sAV _ _ hI1) (sLV _ _ Te) (sAV _ _ Lr) (fb vg) (fs' _) (fn Uq)
 | 1,hx,hy=>cases hx; cases hy; exact Uv (sMV _ _ DS) (sEV _ _ lN) (sMV _ _ Tf) (sEV _ _ Kn) (sMV _ _ Tg) (sEV _ _ Ti) (sMV _ _ Th) (sEV _ _ Tn) (fb Mw) (fs' _) (fn Ur)
end
end TW
namespace TW
open PySem L2
theorem G4 {P:Program}{w:World}{K:aac}{mg:Str->Option Value}{fa:Addr}(hfa:mg "law"=some (.ref fa))(t:KZ K mg) :
   ∃fd:aao,(∀(s:Shared) (u:Value),BindsTo s fd ⟨[u],[]⟩ [("script",u)])/\∀base:Heap,K.In base->base.Ns aa3 mg->aP P w K mg base cO 65 fa fd ["script"] (xq K):=by
 obtain ⟨f,fd,F,m⟩:=t.s_law
 have e:=hfa.symm.trans m
 cases e
 refine ⟨fd,fun s u=>?_,fun base _ _=>?_⟩
 · obtain ⟨oc,od,kV,doc,pm,an,cdv,ct,osl,rfl,lk,hcd⟩:=F.ex
   exact .of_eq rfl
 obtain ⟨T,aH,aA,az,aN,bf,bg,aR,aS,bA,aT,aU,R⟩:=t.cl
 have CE:aX P w K mg base "_law_cell_at" ["script","k"] 1 (kS K):=An t.s_law_cell_at t.m_len
 have NU:aX P w K mg base "_law_numbers" ["cell","many","base"] 1 dY:=rJ t.s_law_numbers t.m_range
 have SM:aX P w K mg base "_law_sum" ["row","names"] 1 nS:=DR t.s_law_sum t.m_len
 have CO:=Ao t.s_law_condition SM
 have ND:=Ar t.s_law_node t.m_len SM CO
 have BX:aX P w K mg base "_law_boxes" ["number"] 1 jW:=ye t.s_law_boxes t.m_len t.m_range t.m_int
 have PR:=Au t.s_law_program t.m_len t.m_range CE NU BX ND
 have RN:aX P w K mg base "_law_renamed" ["thing","called"] 7 (kc 6):=DQ t.s_law_renamed t.m_tuple t.m_isinstance 6
 have NA:=ur t.s_law_node_as RN
 have SK:aX P w K mg base "_law_skip" ["boxes","called","number","after"] 1 nR:=Ax t.s_law_skip t.m_len
 have OV:=As t.s_law_made_over t.m_len t.m_range t.m_int t.m_list NA SK
 have CP:aX P w K mg base "_law_copied" ["program"] 1 xm:=DJ t.s_law_copied t.m_list
 have RW:aX P w K mg base "refuse_worths" ["sizes","worths"] 1 nQ:=Av t.s_refuse_worths t.m_len t.m_zip
 have KW:qK P w K mg base "known_worths" ["program","worths","side"] 1 dn "box":=uq t.s_known_worths t.m_zip
 have Vd:aX P w K mg base "known_worths" ["program","worths","side"] 1 dn:=rG t.s_known_worths t.m_zip
 have WB:∀n,aX P w K mg base "worth_by" ["known","sum_told"] (n + 1) (cB n):=ym t.s_worth_by
 have HB:aX P w K mg base "holds_by" ["known","condition"] 22 (dk 20):=yg t.s_holds_by WB 20
 have WP:aX P w K mg base "worths_put" ["program","worths","put_name","told"] 1 nU:=AA t.s_worths_put t.m_zip
 have SA:=uA t.s_step_at t.m_list (KW.mono (by decide)) (WP.mono (by decide)) ((WB 20).mono (by decide)) (HB.mono (by decide))
 have IS:aX P w K mg base "input_sizes" ["program"] 1 fD:=Aq t.s_input_sizes t.m_dict
 have BG:=yc t.s_beginning_of t.m_dict t.m_zip RW IS
 have FS:aX P w K mg base "first_said" ["run","many"] 1 jX:=yf t.s_first_said t.m_len t.m_list
 have ST:aX P w K mg base "numbers_that_settle" ["run","another"] 1 gJ:=uy t.s_numbers_that_settle t.m_len t.m_max t.m_sum
 have AL:=ux t.s_said_alike t.m_len t.m_min t.m_enumerate t.m_zip ST FS
 have U2:aX P w K mg base "all_known" ["known","told"] 21 (dm 20):=uo t.s_all_known t.c_NAMELESS t.c_PARTED 20
 have RU:=rK t.s_refuse_unknown R.x_NoProgram U2
 have Sv:=yj (P:=P) (w:=w) (base:=base) t.s_refuse_worths R.x_NoWorths t.m_len t.m_zip
 have BZ:aX P w K mg base "box_sizes" ["program"] 1 dU:=yd t.s_box_sizes
 have Vg:=uw t.s_refuse_box_worths Sv BZ
 have So:=rH t.s_refuse_no_pair R.x_NoPair IS
 have KB:=DM t.s_known_between Vd
 have KF:=DL t.s_known_for_both So Vg KB RU
 have SB:=Ay t.s_sum_between (WB 20) KF
 have HO:=Ap t.s_holds_between HB KF
 have U3:=Am t.s_beginning_of Sv IS
 have RE:=Aw t.s_run_of t.m_len t.m_tuple (BG.mono (by decide)) (SA.mono (by decide)) U3
 have RP:=uv t.s_runs_part So AL RE
 have KN:=yh (P:=P) (w:=w) (base:=base) t.s_law_kinds R t.m_isinstance t.m_ValueError
 have AK:=yb t.s_law_asked R HO SB KN
 have PD:=uu t.s_law_parted R RP KN
 have SZ:aX P w K mg base "_law_sizes" ["program"] 1 dU:=DP t.s_law_sizes
 have LI:aX P w K mg base "_law_input_sizes" ["program"] 1 xp:=DO t.s_law_input_sizes t.m_dict
 have AR:aX P w K mg base "_law_are" ["worths","sizes"] 1 xl:=DH t.s_law_are t.m_len t.m_all t.m_range
 have DU:aX P w K mg base "_law_due" ["pair","first","second","boxes"] 1 xn:=DK t.s_law_due
 have WR:aX P w K mg base "_law_wrong" ["row","sizes","far"] 1 mj:=yn t.s_law_wrong t.m_len t.m_int
 have SP:aX P w K mg base "_law_spoilt" ["program","row"] 1 kg:=uz t.s_law_spoilt t.m_int
 have NM:aX P w K mg base "_law_named" ["thing"] 21 (eO 20):=yi t.s_law_named t.m_tuple t.m_isinstance 20
 have TH:aX P w K mg base "_law_thing" ["row","known"] 1 mi:=yk t.s_law_thing t.m_int t.m_len
 exact IK F t.m_list t.m_range t.m_all (PR.mono (by decide)) (NU.mono (by decide)) (CE.mono (by decide)) (OV.mono (by decide)) (SP.mono (by decide)) (LI.mono (by decide)) (CP.mono (by decide)) (WR.mono (by decide)) (SZ.mono (by decide)) (TH.mono (by decide)) (NM.mono (by decide)) (DU.mono (by decide)) (AR.mono (by decide)) (AK.mono (by decide)) (PD.mono (by decide))
end TW
namespace TW
open PySem L2
theorem walk {l:PySem.W.OpenLaw}{q:Program}{loose:List Str}{XP:(Str->Option Value)->Heap->Prop}{YP:World->Heap->Prop}{d:DefRec}{K:Params->aac}(hn:l.most=some 63)(hdf:d.params.defaults=[])
   (hY:∀(w:World) (h:Heap),YP w h->(K w.params).In h)
   (F:∀(w:World) (mg:Str->Option Value) (fa:Addr) (h:Heap),(K w.params).In h->h.Ns aa3 mg->mg d.name=some (.ref fa) ->
     ∃fd:aao,(∀(s:Shared) (u:Value),BindsTo s fd ⟨[u],[]⟩ [("script",u)])/\∀base:Heap,(K w.params).In base->base.Ns aa3 mg->aP l.prog w (K w.params) mg base cO 65 fa fd ["script"] (xq (K w.params))) :
   PySem.W.WalkO q loose XP YP l.row.toRowW d [] (fun f vs=>PySem.call f vs):=
 L2.Fs (n:=63) (k:=65) (x:="script") (CX:=fun _=>cO) (sp:=fun w=>xq (K w.params)) hn (by decide) hdf ⟨rfl,by decide,by decide⟩ hY F (fun _ _ a ns hl _ hS=>⟨a,ns,rfl,hS,hl,fun _=>rfl⟩) fun _ _ _ _ _ z=>z
end TW
namespace PySem.W.Fast
def tw10168235527580898304:=0
def tw10294810690602928533:=0
def tw10351063754011148034:=0
def tw10435526162888262529:=0
def tw10512927269179607784:=0
def tw10521815810308142515:=0
def tw1053658897326801975:=0
def tw10561251524779279807:=0
def tw1064068087224185739:=0
def tw10642179998934297654:=0
def tw10647643335717084053:=0
def tw10659637790128258212:=0
def tw10694012787456777325:=0
def tw1069718246445872720:=0
def tw10729503410108511792:=0
def tw10732888692783459531:=0
def tw10736002059974212494:=0
def tw10737342623492063047:=0
def tw10758117908446058164:=0
def tw10843067356356695814:=0
def tw10892445209848035758:=0
def tw1089282568033540091:=0
def tw1089603557430087145:=0
def tw10926117862803844837:=0
def tw10945727947256282628:=0
def tw10949804037167403133:=0
def tw11000968779762930498:=0
def tw1100814766456882741:=0
def tw112512496726570085:=0
def tw11281627844675378947:=0
def tw11287544388439188375:=0
def tw11381863228713992983:=0
def tw11385772670645105695:=0
def tw11401303582233127203:=0
def tw11408959869242117098:=0
def tw11472593308068358779:=0
def tw11477208255852203193:=0
def tw11502394378682255877:=0
def tw11522270711122175216:=0
def tw11553999944903027597:=0
def tw11595367877397792925:=0
def tw11601169693882974316:=0
def tw1163028925215846773:=0
def tw11644873571883993725:=0
def tw11682431967600003539:=0
def tw11687999214008763725:=0
def tw11735093375587618501:=0
def tw11736510667996378162:=0
def tw11798929114908861676:=0
def tw11831474996195872076:=0
def tw1186127783193012821:=0
def tw11866263435183536724:=0
def tw11911240020078989980:=0
def tw12093749046068411573:=0
def tw12128938106924454592:=0
def tw12129644334760988210:=0
def tw12130215159811571677:=0
def tw12156394780847588466:=0
def tw12190894339168666739:=0
def tw12207935128127234531:=0
def tw12211766138169870192:=0
def tw12226388928832040691:=0
def tw12229461470327360028:=0
def tw12247953392320356405:=0
def tw12319832383967548864:=0
def tw1247122080416471203:=0
def tw12483417592622207204:=0
def tw12580764083922410109:=0
def tw12621669553183437661:=0
def tw12656552070370874795:=0
def tw12711471328257796373:=0
def tw1281538344657324354:=0
def tw12830738553263806733:=0
def tw12864172082771036478:=0
def tw12894801509901659470:=0
def tw12904142725389129464:=0
def tw12941949231678959174:=0
def tw12967259531325906740:=0
def tw13055896788438447302:=0
def tw13207347812259929922:=0
def tw13210692413533136580:=0
def tw13306772001284818839:=0
def tw13316015849401175186:=0
def tw13384587005516215604:=0
def tw13542432040281332986:=0
def tw13547486262132385166:=0
def tw13559603021533504110:=0
def tw13579511329179828313:=0
def tw13639096404150562390:=0
def tw13694018369444338432:=0
def tw13716732111145125770:=0
def tw1373746958075644642:=0
def tw13753684993687135662:=0
def tw13756492245328830757:=0
def tw13825936137583916704:=0
def tw13898952384472949581:=0
def tw13939428081846728059:=0
def tw13957131277697028763:=0
def tw13979513735931273282:=0
def tw14022448211995924708:=0
def tw14037883318804836281:=0
def tw1412159977824530924:=0
def tw14132972461201271209:=0
def tw14139610922836389448:=0
def tw14226193515658686800:=0
def tw14312074118719595648:=0
def tw14328492402146267077:=0
def tw14355065444276259380:=0
def tw14364927086928775373:=0
def tw1440165319726207815:=0
def tw14454718335421158512:=0
def tw14486980027926563849:=0
def tw14507742151472122034:=0
def tw14562251830638992142:=0
def tw14588565047904113445:=0
def tw14632710350799236777:=0
def tw14671382496228573183:=0
def tw1474407650363621100:=0
def tw14807456868793322087:=0
def tw14814902253497891586:=0
def tw14845258084874990063:=0
def tw14848941215359705872:=0
def tw14857344521305370191:=0
def tw14865260957626354211:=0
def tw14883340269303078069:=0
def tw14921270746628859421:=0
def tw14922938478121821168:=0
def tw14930978968880394519:=0
def tw14947224449514209399:=0
def tw14974722919473091967:=0
def tw15038026475467301338:=0
def tw15044080908853348328:=0
def tw15044929126750916687:=0
def tw1504970947442112208:=0
def tw15068855534551651226:=0
def tw15100054029222701746:=0
def tw15228182461512246179:=0
def tw15247625959973909182:=0
def tw15286159217422544820:=0
def tw15289070658130262215:=0
def tw15313243585252978785:=0
def tw15381219152902269052:=0
def tw15411495853937361417:=0
def tw15449786416335657789:=0
def tw15467112149857887713:=0
def tw15501712501018063256:=0
def tw15523364365862788716:=0
def tw15533990898255468856:=0
def tw15539368967113785848:=0
def tw15578412123694165433:=0
def tw15596616968737817795:=0
def tw15655694750038541519:=0
def tw15662356728912074620:=0
def tw15696879966656658896:=0
def tw15717943226872379500:=0
def tw15732354467881485408:=0
def tw15747801764254726729:=0
def tw1576667618928607800:=0
def tw15791197235860183271:=0
def tw15812910859595754409:=0
def tw15820967309379675235:=0
def tw15849882391290517139:=0
def tw15851476358720600611:=0
def tw15905854907854053239:=0
def tw1590701069698627038:=0
def tw15909906905633478467:=0
def tw15985479824089669404:=0
def tw15985675320734772181:=0
def tw15987220801669580167:=0
def tw16031132914550859040:=0
def tw16043541174340761338:=0
def tw16063024820080374699:=0
def tw16072797160234826090:=0
def tw1608974253921610210:=0
def tw1624642364692757917:=0
def tw16255550764934573798:=0
def tw16269391883183131299:=0
def tw1628186316317897024:=0
def tw16286107740561560560:=0
def tw16296404263344489773:=0
def tw16310768735140381022:=0
def tw16321940567179378729:=0
def tw16334766733512928644:=0
def tw16441973468496902262:=0
def tw16490157794583189329:=0
def tw16524420035052568425:=0
def tw16539493260380771413:=0
def tw1657957079425483576:=0
def tw16631563176237048068:=0
def tw16675799534103014604:=0
def tw16696219749713756742:=0
def tw16698147861667723683:=0
def tw16741826816742793247:=0
def tw16753372573802137913:=0
def tw16823688741621589909:=0
def tw16912234006206096915:=0
def tw16974667508713754380:=0
def tw16978510849566844458:=0
def tw16990527455948562389:=0
def tw17029156851240806705:=0
def tw17057284778151342645:=0
def tw17106529029152817531:=0
def tw17131039988124932349:=0
def tw17149460637318917631:=0
def tw17198851842001439290:=0
def tw17205218665610864890:=0
def tw17230427239888979773:=0
def tw17243542476164026782:=0
def tw17293712862443401726:=0
def tw17319289887453694337:=0
def tw17348083770755231316:=0
def tw17394936528589806341:=0
def tw17425985870864434276:=0
def tw17434852500217559440:=0
def tw17448668178759100073:=0
def tw17454433566655305940:=0
def tw17479123601172122208:=0
def tw17513449683505787857:=0
def tw17515109492017123272:=0
def tw17533159937910849495:=0
def tw17607582567425891550:=0
def tw17767257487488600606:=0
def tw17854965896989088238:=0
def tw17913543582417061206:=0
def tw17929472473061749354:=0
def tw17934252371562979170:=0
def tw17949049444537178608:=0
def tw18027433453942993057:=0
def tw18097891102070195681:=0
def tw18207747737380207963:=0
def tw18224442127957395216:=0
def tw18237572409894659473:=0
def tw1832496615391942405:=0
def tw18384749190869835085:=0
def tw18385868583946044493:=0
def tw18390222186939735322:=0
def tw18433055211263018576:=0
def tw1844760183170223817:=0
def tw1868348500244972585:=0
def tw2028176331372829129:=0
def tw2069136850312113474:=0
def tw20906360672003883:=0
def tw209490396613607955:=0
def tw2137420899240157736:=0
def tw2239161224673628070:=0
def tw2241058311056101704:=0
def tw2275529425039643909:=0
def tw232096444658729291:=0
def tw2344419903587730929:=0
def tw2357304804222907502:=0
def tw2419803440801436259:=0
def tw2422753666690346803:=0
def tw2476305549146294247:=0
def tw2489086072497708088:=0
def tw2520582236675436747:=0
def tw2541334080437582338:=0
def tw2583136455647116632:=0
def tw2583323948848606243:=0
def tw2607043056351406804:=0
def tw2620160110988873901:=0
def tw264245101397302021:=0
def tw2656793867265219085:=0
def tw2713854767641590911:=0
def tw2757271287853518939:=0
def tw2757503420702514861:=0
def tw2764356636240798987:=0
def tw2906508634836294765:=0
def tw2920780291615800958:=0
def tw2935205077310131733:=0
def tw2984109745025315086:=0
def tw3007124270737836932:=0
def tw3023835924667936534:=0
def tw3084269372711185293:=0
def tw3084741426897767350:=0
def tw3163245838578412083:=0
def tw3178921684584252756:=0
def tw3179484915513813001:=0
def tw3181544926091568569:=0
def tw3226621112767307491:=0
def tw3240417159143066031:=0
def tw3326903679727477005:=0
def tw3387466790057432945:=0
def tw3407448491753236862:=0
def tw3409436591777264028:=0
def tw344359169531221875:=0
def tw3504216711359613944:=0
def tw3515932892640373340:=0
def tw3517940465540306912:=0
def tw3581167599049830194:=0
def tw3586869780062429216:=0
def tw3618255214534363702:=0
def tw366405064045623813:=0
def tw3690516974069264840:=0
def tw3697088662802070201:=0
def tw3817316605983297787:=0
def tw3828761391082179309:=0
def tw3850250057448659709:=0
def tw3858899440254058374:=0
def tw3858900990607604682:=0
def tw3877244374282678441:=0
def tw3894645417834655732:=0
def tw3961962302557302775:=0
def tw4123839529934108054:=0
def tw4171578541796870031:=0
def tw4190432020597940303:=0
def tw4279291772967023379:=0
def tw4314572836276016644:=0
def tw4327005234760324272:=0
def tw4349382394053254901:=0
def tw4404984019632548446:=0
def tw4472152375041731124:=0
def tw4493334765001516604:=0
def tw4523665901942899125:=0
def tw4757690683181360058:=0
def tw4770597453234349444:=0
def tw4852322892464437662:=0
def tw4868765859222560351:=0
def tw4871207331655161915:=0
def tw4944622693973005952:=0
def tw4958339203488925428:=0
def tw5016473257936739281:=0
def tw5057878643219729553:=0
def tw5062155701963320771:=0
def tw5096702915122223389:=0
def tw5114912697676617967:=0
def tw5124664170795750028:=0
def tw5166240221694566120:=0
def tw5249987689619538134:=0
def tw5318034544338893631:=0
def tw5330571437336403659:=0
def tw5337524257684911766:=0
def tw5389329062168915093:=0
def tw5395537507495966475:=0
def tw5434627079679966051:=0
def tw5456694458487268062:=0
def tw5463481271753478689:=0
def tw5509542949240443226:=0
def tw5567317078561694903:=0
def tw5588346510575770045:=0
def tw5614269447194496952:=0
def tw5693638751884785602:=0
def tw5711434593723611531:=0
def tw5751481437653029459:=0
def tw5770008938663187521:=0
def tw583500847885415178:=0
def tw5835503602990121761:=0
def tw5859644737224719861:=0
def tw588493284182337415:=0
def tw5890046351898306648:=0
def tw6003146691991146051:=0
def tw6015825992334434022:=0
def tw6029602031861425572:=0
def tw6082990122037215980:=0
def tw6084465848991607584:=0
def tw6089821162132690980:=0
def tw6092277051911045077:=0
def tw6167995658779766647:=0
def tw620768203873066240:=0
def tw6389685833234800186:=0
def tw6406451807803356412:=0
def tw6529716242089330878:=0
def tw6551709310392787287:=0
def tw6702260965080413294:=0
def tw6728398267060546919:=0
def tw6771373362721363602:=0
def tw6840543575451938528:=0
def tw6858932779712775776:=0
def tw6883011587109894300:=0
def tw6907129706914672446:=0
def tw6951637210340608437:=0
def tw6952800110319836565:=0
def tw699093744169506250:=0
def tw7039914625559225882:=0
def tw7150969242377889280:=0
def tw7175367690559772070:=0
def tw7235449177057434868:=0
def tw7400793114663995749:=0
def tw7420304909431428499:=0
def tw7514057374108372199:=0
def tw7519615577726987770:=0
def tw755073044852416008:=0
def tw7556851428721959009:=0
def tw7564484499872589421:=0
def tw76058395245045871:=0
def tw7635195906358820554:=0
def tw7694543898529844786:=0
def tw7822085662913893211:=0
def tw7831608379296513022:=0
def tw786939858927640954:=0
def tw7903279902600044581:=0
def tw7963722617705475118:=0
def tw7970487404433397436:=0
def tw7993175082816105614:=0
def tw7997127007003630828:=0
def tw8053711892226822161:=0
def tw8071643986113970266:=0
def tw8091407112475764882:=0
def tw8123913228013264334:=0
def tw812682279989880567:=0
def tw8281237191261767107:=0
def tw8283081938094889461:=0
def tw8358316880166419627:=0
def tw8369919221173643837:=0
def tw8378445812189602171:=0
def tw8383352574463805671:=0
def tw8420885253435006616:=0
def tw8503337992179017106:=0
def tw8509429980145278344:=0
def tw8765143262598685353:=0
def tw8800450019869477859:=0
def tw8835233367992890420:=0
def tw889352651421071360:=0
def tw8926673341130067230:=0
def tw893358713785962670:=0
def tw894706651661413936:=0
def tw8954119941175446762:=0
def tw8969623313324809922:=0
def tw8997493474294339372:=0
def tw9007006345312411126:=0
def tw9051139082618728392:=0
def tw9078659832095364459:=0
def tw9089097273178678615:=0
def tw9100906843826388976:=0
def tw9147129991184286258:=0
def tw9164424000639853451:=0
def tw9253944895203569724:=0
def tw9301508010737685299:=0
def tw9380799921295384931:=0
def tw9389335081497492574:=0
def tw9455952816795719054:=0
def tw9476155268222496564:=0
def tw950271787371533490:=0
def tw9509099055831976753:=0
def tw9519648455513626556:=0
def tw9554845170149705699:=0
def tw9610702706296388660:=0
def tw9635659864968406274:=0
def tw9648597121030009514:=0
def tw9665371043283761280:=0
def tw9675810191586707806:=0
def tw9756429481177002404:=0
def tw9759919509153440320:=0
def tw9765164654809339752:=0
def tw9768900863483875522:=0
def tw9781829248317690764:=0
def tw9807722232995067997:=0
def tw9942965949908455465:=0
def tw9950960707412968998:=0
end PySem.W.Fast
open PySem PySem.W PyProof.Rows
set_option maxRecDepth 100000 in
set_option maxHeartbeats 0 in
theorem PySem.Challenge.cw_twinwalk_k15_what_is_refused_holds : PySem.Challenge.rw_twinwalk_k15_what_is_refused.Holds := by
 w_on; o_law; k_head; (case hw=>w_witness2)
 k_fill
 refine TW.walk (l:=PySem.Challenge.rw_twinwalk_k15_what_is_refused) rfl rfl (fun w h Y=>PySem.W.kIn_of Y) ?F
 case F=>
   intro w mg fa h KX G hmg
   refine TW.G4 hmg ?_
   refine' (⟨TW.aM KX G ?_ ?_ ?_ ?_,TW.aM KX G ?_ ?_ ?_ ?_,TW.aM KX G ?_ ?_ ?_ ?_,TW.aM KX G ?_ ?_ ?_ ?_,TW.aM KX G ?_ ?_ ?_ ?_,TW.aM KX G ?_ ?_ ?_ ?_,TW.aM KX G ?_ ?_ ?_ ?_,TW.aM KX G ?_ ?_ ?_ ?_,TW.aM KX G ?_ ?_ ?_ ?_,TW.aM KX G ?_ ?_ ?_ ?_,TW.aM KX G ?_ ?_ ?_ ?_,TW.aM KX G ?_ ?_ ?_ ?_,TW.aM KX G ?_ ?_ ?_ ?_,TW.aM KX G ?_ ?_ ?_ ?_,TW.aM KX G ?_ ?_ ?_ ?_,TW.aM KX G ?_ ?_ ?_ ?_,TW.aM KX G ?_ ?_ ?_ ?_,TW.aM KX G ?_ ?_ ?_ ?_,TW.aM KX G ?_ ?_ ?_ ?_,TW.aM KX G ?_ ?_ ?_ ?_,TW.aM KX G ?_ ?_ ?_ ?_,TW.aM KX G ?_ ?_ ?_ ?_,TW.aM KX G ?_ ?_ ?_ ?_,TW.aM KX G ?_ ?_ ?_ ?_,TW.aM KX G ?_ ?_ ?_ ?_,TW.aM KX G ?_ ?_ ?_ ?_,TW.aM KX G ?_ ?_ ?_ ?_,TW.aM KX G ?_ ?_ ?_ ?_,TW.aM KX G ?_ ?_ ?_ ?_,TW.aM KX G ?_ ?_ ?_ ?_,TW.aM KX G ?_ ?_ ?_ ?_,TW.aM KX G ?_ ?_ ?_ ?_,TW.aM KX G ?_ ?_ ?_ ?_,TW.aM KX G ?_ ?_ ?_ ?_,TW.aM KX G ?_ ?_ ?_ ?_,TW.aM KX G ?_ ?_ ?_ ?_,TW.aM KX G ?_ ?_ ?_ ?_,TW.aM KX G ?_ ?_ ?_ ?_,TW.aM KX G ?_ ?_ ?_ ?_,TW.aM KX G ?_ ?_ ?_ ?_,TW.aM KX G ?_ ?_ ?_ ?_,TW.aM KX G ?_ ?_ ?_ ?_,TW.aM KX G ?_ ?_ ?_ ?_,TW.aM KX G ?_ ?_ ?_ ?_,TW.aM KX G ?_ ?_ ?_ ?_,TW.Fm KX G ?_ ?_ ?_ ?_ ?_,TW.xw KX G ?_ ?_ ?_ ?_ ?_,TW.xw KX G ?_ ?_ ?_ ?_ ?_,⟨_,_,_,_,_,_,_,_,_,_,_,_,TW.xx KX G ?_ ?_ ?_ ?_,TW.xx KX G ?_ ?_ ?xl_NoPair ?_,TW.vS ?_ ?_ ?_ ?xhn ?xtk ?_ ?_ ?xl_NoPair,?_,?_,?_,?_,?_,TW.xx KX G ?_ ?_ ?xl_NoWorths ?_,TW.vS ?_ ?_ ?_ ?xhn ?xtk ?_ ?_ ?xl_NoWorths,?_,?_,?_,?_,?_,TW.xx KX G ?_ ?_ ?xl_NoProgram ?_,TW.vS ?_ ?_ ?_ ?xhn ?xtk ?_ ?_ ?xl_NoProgram,?_,?_,?_,?_,?_,abb KX G ?_,abb KX G ?_,abb KX G ?_,abb KX G ?_,abb KX G ?_,abb KX G ?_,abb KX G ?_,abb KX G ?_⟩,aaN KX G ?_,aaN KX G ?_,aaN KX G ?_,aaN KX G ?_,aaN KX G ?_,aaN KX G ?_,aaN KX G ?_,aaN KX G ?_,aaN KX G ?_,aaN KX G ?_,aaN KX G ?_,aaN KX G ?_,aaN KX G ?_,aaN KX G ?_⟩ : TW.KZ _ _)
   any_goals first | k_is | k_exc | rfl
   any_goals first | kit_is | decide | (repeat' constructor)
