import PyProof.Rows.All
import Wide.All
import OpenK.AllK
import Wide.FinOn
import Lean
import PyProof.EqAt
import PyProof.EqKinds
import PyProof.TupleCall
import PySem.Challenge.RW_twinwalk_k65_puts_exchanged
set_option maxHeartbeats 1000000
set_option compiler.extract_closed false
local macro_rules|`(tactic|show$e)=>`(tactic|refine$e)
local macro_rules|`(tactic|left)=>`(tactic|decide)
local macro_rules|`(tactic|right)=>`(tactic|decide +kernel)
theorem U.{u}{α:Sort u}{a:α}:a=a:=rfl
open PySem.W renaming Frag->ZV,mg_none_of->aai,kia_one->aaH,fnOf->aaZ,keepIn->abH,kitOne->ab3,findIn->ab4,kia_tup->acp,codeIn->acB,mg_of->acL,clsIn->acM,methodObj->acV,kitx_list->acW,instObj->ac5,lookIn->adg,mroIn->adq,excIn->ads,cellsFrom_some->adE,nsIn->adR,hideAll_get->adZ,of_hideAll->ad3,kitx_tuple->ad4,specialIn->ad7,kitx_dict->ad8
open List renaming length_map->ZW,mem_of_getElem? -> ZZ,length_append->Z1,getElem?_eq_getElem->Z3,replicate->Z4,size_toArray->Z5,map_append->Z9,length_take->aac,take_add_one->aad,take_length->aag,mem_append_right->aam,getElem?_map->aap,length_cons->aau,map_cons->aav,not_mem_nil->aaw,range->aax,replicate_succ->aaz,length_set->aaD,mem_cons->aaI,mem_cons_of_mem->aaK,getD_eq_getElem?_getD->aaO,take_of_length_le->aaP,take_zero->aaT,append_nil->aaV,mem_of_mem_take->aa0,mem_append_left->aa1,getElem?_set_self->aa4,length_drop->aa8,length_replicate->aa9,getElem?_set_ne->abc,any_cons->abg,nodup_nil->abh,mem_cons_self->abm,length_range->abt,drop_zero->abv,all_eq_true->aby,filterMap_cons->abC,find?_cons->abG,find?_cons_of_neg->abJ,flatten_cons->abL,length_singleton->abP,getElem?_eq_none->abQ,getElem_mem->abT,filter_cons->abU,mem_of_mem_drop->abV,of_mem_zip->ab1,nodup_cons->ab2,take_sublist->ach,nodup_append->aci,any_eq_false->acj,lookup_cons->acr,find?_cons_of_pos->acx,take_append_drop->acC,map_map->acD,length_filter_le->acE,forIn_cons->acF,getElem_of_mem->acN,set_comm->acY,map_take->acZ,getElem?_set->ac4,zipIdx_cons->ada,zipIdx_nil->adk,length->adl,getElem?_append_right->adz,mem_or_eq_of_mem_set->adI,getElem?_append_left->adJ,forIn_nil->adK,drop_eq_getElem_cons->adL,eq_of_mem_replicate->adT,getElem?_replicate->adW,length_pos_of_mem->ad0,drop_eq_nil_of_le->ad1,map_nil->ad5,getElem?_of_mem->aeb
open PySem.Heap renaming get?_push_of_some->ZX,get?_push_size->Z6,lt_size->Z7,SameBut->aaM,get?_update_other->abk,get?_update_self->abo,size_push->adM
open PySem renaming Spec->ZY,FuncData->aaa,boot_len->aah,mem_of_lookup->aay,wpAny_callSpecial?_slot->aaA,foldedSetIterable->aaB,mainGlobals->aaN,bootBuiltins->aaR,attributeBase->aaX,sysModules->aa5,swapsWithSole->abw,swappedStores->abx,NameKind->abM,swapsWith->abY,behindInMarks->ab7,wpAny_passesOwn->acf,bindName->acn,sizeLine_eq->acG,wpAny_execs_nil->acS,call_meetsIn->acT,firstArgMember->ac3,seqIndex? -> ade,bindArgs->adf,wpAny_Call_method->ado,noFill_tuple_add->adO
open Nat renaming le_refl->Z0,ne_of_lt->aaf,lt_of_lt_of_le->aak,zero_le->aan,le_trans->aar,le_of_lt->aaC,lt_irrefl->aba,pow_le_pow_right->abd,le_add_right->abB,sub_zero->abR,ne_of_gt->acb,lt_succ_of_lt->ac6,not_lt_zero->adx,min_eq_left->ady,succ_pos->aea
open Bool renaming false_ne_true->Z8,false_eq_true->aaj,and_eq_true->aaY,eq_iff_iff->abe,and_false->ace,not_eq_true'->ack,not_true->ac0,and_true->adX
open PySem.Value renaming ref->aab,bool->aa6,none->abb,type->abA,int->acy,str->acU
open True renaming intro->aae
open Int renaming toNat_of_nonneg->aal,toNat_natCast->aaq,mul_le_mul_of_nonneg_left->aaE,lt_of_le_of_lt->aaL,zero_mul->aa2,add_mul->abO,mul_assoc->abZ,one_mul->acs,le_refl->acu,zero_add->acH,natCast_add->acI,mul_ediv_add_emod->acJ,le_trans->acK,mul_le_mul->acO,emod_lt_of_pos->ac1,emod_eq_of_lt->ac7,mul_comm->adb,mul_one->adA,emod_nonneg->adB,add_mul_emod_self_right->adC,mul_nonneg->adV
open PySem.Builtin.SmallTypes renaming nextOf->aao,ownedTupleIsFree->aaU,ownedTupleHandOut->ab5
open Option.some renaming inj->aas
open PySem.NameKind renaming free->aat,cell->adj
open PyProof.Rows renaming callWith_type1->aaF,slot_tupleiter_next->aa3,slot_tuple_getitem->aa7,IsTupIter->abN,entry_tupleiter_next->acw,args_tupleiter_next->acz,assignInOrder_nil->adp,get?_update_seq->adY
open PySem.Obj renaming mapSeq->aaG,data_mapFields->aca,isFreed_of_fields->ad9
open PySem.Heap.SameBut renaming update->aaJ,refl->adN
open ForInStep renaming yield->aaQ
open Option renaming map_some->aaS
open PySem.Builtin.Dict renaming updateFrom->aaW,selfAndRest->abW,addKeywords->abX,showsAll->acd,pairItems->ac8,mergeDict->ac9
open PySem.F renaming plainAttrs_list->abf,slot_dict_keyiterator_next->abp,plainAttrs_dict->abE,slot_zip_next->abI,args_tuple_add_2->ab8,entry_tuple_add->acg,slot_tuple_add->acm,slot_dict_get->acq,slot_dict_update->adi,args_dict_keyiterator_next_1->adm,slot_dict_items->adt,plain_list_iadd->adu,args_zip_next_1->adv,args_dict_get_3->adw,entry_dict_keyiterator_next->adD,entry_zip_next->adF,entry_dict_get->adG,slot_dict_pop->adS
open PySem.Calls renaming callWith_builtin->abi,spliced_cons->abl,evalArgs_plain->abu,spliced_nil->abK,Name_function_global->adn
open PySem.Builtin.List renaming listFitsIndex->abj,listTooLong->abr,listItems->ab6,listExtendWith->acR,listSameRef->ac2
open PySem.Builtin.Slice renaming slicePlaces->abn,sliceAdjust->abS,sliceApplied->acQ
open PySem.Builtin.Tuple renaming tupleExact->abq,tupleItemsOf->acP
open Array renaming length_toList->abz,getElem?_toList->acA
open False renaming elim->abD
open PySem.Str renaming ofString->abF
open PySem.Builtin.Range renaming rangeSize->ab0
open PySem.Code renaming quiet_builtin->ab9,compLoop->aco
open PySem.Builtin.Dict_items renaming ownsTuple->acv
open PySem.Heap.DictOf renaming new->acX
open PyProof.Rows.IsTup renaming new->adh
open PUnit renaming unit->adH
open PySem.SeqAt.EqAt renaming str_int->adP,int_str->adQ
open List.Nodup renaming sublist->adU
open PySem.Around renaming under_plainId->ad2
open PySem.Flow renaming next->ad6
set_option Elab.async false
set_option linter.all false
set_option maxRecDepth 100000
def aB {a b:Prop}(h₁:a)(h₂:¬a):b:=absurd h₁ h₂
def ba.{u}{c:Prop}{h:Decidable c}(hc:c){α:Sort u}{t e:α}:ite c t e=t:=if_pos hc
def aQ.{u}{c:Prop}{h:Decidable c}(hc:¬c){α:Sort u}{t e:α}:ite c t e=e:=if_neg hc
def iN {p:Prop}{i:Decidable p}(h:decide p=true):p:=of_decide_eq_true h
def dE {p:Prop}{i:Decidable p}(h:p):decide p=true:=decide_eq_true h
def eX {p:Prop}{i:Decidable p}(h:¬p):decide p=false:=decide_eq_false h
abbrev ao:=List (PySem.Str×Int)
def agk:0<=PySem.sizeLine:=by left
def agl:1<=PySem.sizeLine:=by left
def agm:2<=PySem.sizeLine:=by left
def agn:3<=PySem.sizeLine:=by left
def ago:4<=PySem.sizeLine:=by left
def agp:5<=PySem.sizeLine:=by left
namespace L2
open PySem PySem.Spec PyProof.Rows
abbrev Key:=Sum Int Str
def ky:Key->Value->Bool
 | .inl k,v=>Value.isInt k v
 | .inr x,v=>Value.isStrOf x v
def OB (w:World):Key->Int
 | .inl k=>hashInt k
 | .inr x=>hashStr w x
def bq:∀{k:Key} {v:Value},ky k v=true->(∃i t,k=Sum.inl i/\v=acy i t)\/(∃x t,k=Sum.inr x/\v=acU x t)
 | .inl i,v,h=>by
   obtain⟨t,e⟩:=Value.isInt_shape (k:=i) (v:=v) h
   show .inl ⟨i,t,U,e⟩
 | .inr x,v,h=>by
   obtain⟨t,e⟩:=Value.isStrOf_shape (x:=x) (v:=v) h
   show .inr ⟨x,t,U,e⟩
def sZ (i:Int)(t:Tok):ky (.inl i) (.int i t)=true:=by simp[ky,Value.isInt]
def tj (x:Str)(t:Tok):ky (.inr x) (.str x t)=true:=by simp[ky,Value.isStrOf]
def Dc (a b:Int):decide ((Sum.inl a:Key)=Sum.inl b)=(a==b):=by
 by_cases e:a=b
 . subst e;simp
 . have h:¬ (Sum.inl a:Key)=Sum.inl b:=fun q=>e (Sum.inl.inj q)
   rw[eX h]
   show(beq_eq_false_iff_ne.mpr e).symm
def Df (a b:Str):decide ((Sum.inr a:Key)=Sum.inr b)=decide (a=b):=by
 by_cases e:a=b
 . subst e;simp
 . have h:¬ (Sum.inr a:Key)=Sum.inr b:=fun q=>e (Sum.inr.inj q)
   rw[eX h,eX e]
def Dd (a:Int)(b:Str):decide ((Sum.inl a:Key)=Sum.inr b)=false:=eX (fun q=>nomatch q)
def De (a:Str)(b:Int):decide ((Sum.inr a:Key)=Sum.inl b)=false:=eX (fun q=>nomatch q)
def aI (prog:Program)(w:World):PySem.KeyKind prog w Key where
 is:=ky
 hash:=OB w
 inj:=fun v a b ha hb=>by
   rcases bq ha with⟨i,t,rfl,rfl⟩|⟨x,t,rfl,rfl⟩
   . rcases bq hb with⟨j,u,rfl,e⟩|⟨y,u,rfl,e⟩
     . injection e with e1 _;rw[e1]
     . show nomatch e
   . rcases bq hb with⟨j,u,rfl,e⟩|⟨y,u,rfl,e⟩
     . show nomatch e
     . injection e with e1 _;rw[e1]
 byValue:=fun k v h=>by
   rcases bq h with⟨i,t,rfl,rfl⟩|⟨x,t,rfl,rfl⟩<;>rfl
 pyHash:=fun hv h=>by
   rcases bq hv with⟨i,t,rfl,rfl⟩|⟨x,t,rfl,rfl⟩
   . show wpAny_pyHash_int h
   . show wpAny_pyHash_str h
 eqBool:=fun hu hv h=>by
   rcases bq hu with⟨i,t,rfl,rfl⟩|⟨x,t,rfl,rfl⟩
   . rcases bq hv with⟨j,u,rfl,rfl⟩|⟨y,u,rfl,rfl⟩
     . rw[Dc]at h;show wpAny_eqBool_int h
     . rw[Dd]at h;show adQ i t y u _ _ _ _ h
   . rcases bq hv with⟨j,u,rfl,rfl⟩|⟨y,u,rfl,rfl⟩
     . rw[De]at h;show adP x t j u _ _ _ _ h
     . rw[Df]at h;show wpAny_eqBool_str h
 «strs»:=fun k x t v h=>by
   rcases bq h with⟨i,u,rfl,e⟩|⟨y,u,rfl,e⟩
   . show nomatch e
   . injection e with e1 _
     subst e1
     cases v<;>rfl
def ny (prog:Program)(w:World)(i:Int)(t:Tok):(aI prog w).is (.inl i) (.int i t)=true:=sZ i t
def nz (prog:Program)(w:World)(x:Str)(t:Tok):(aI prog w).is (.inr x) (.str x t)=true:=tj x t
inductive V where
 | br|bl (b:Bool)|int (i:Int)|str (x:Str)|byt (b:Array UInt8)|flt (b:UInt64)|ref (a:Addr)|ty (n:String)
 deriving DecidableEq
def RelV:V->Value->Prop
 | .br,u=>u=abb
 | .bl b,u=>u=aa6 b
 | .int i,u=>∃t,u=acy i t
 | .str x,u=>∃t,u=acU x t
 | .byt b,u=>∃t,u=Value.bytes b t
 | .flt b,u=>∃t,u=Value.float b t
 | .ref a,u=>u=aab a
 | .ty n,u=>u=abA n
abbrev Vals:List V->List Value->Prop:=Paired RelV
def Vals.length {xs:List V}{us:List Value}(r:Vals xs us):xs.length=us.length:=Paired.length r
theorem Vals.get:∀{xs:List V} {us:List Value} {i:Nat} {x:V},Vals xs us->xs[i]?=some x->∃u,us[i]?=some u/\RelV x u
 | _,_,_,_,.nil,e=>by simp at e
 | _,_,0,_,.cons r _,e=>by simp at e;subst e;show⟨_,rfl,r⟩
 | _,_,i+1,x,.cons _ t,e=>by
   obtain⟨u,h1,h2⟩:=Vals.get (i:=i) (x:=x) t (by simpa using e)
   show⟨u,by simpa using h1,h2⟩
theorem Vals.set {x:V}{u:Value}(r:RelV x u):∀{xs:List V} {us:List Value} (i:Nat),Vals xs us->Vals (xs.set i x) (us.set i u)
 | _,_,_,.nil=>.nil
 | _,_,0,.cons _ t=>.cons r t
 | _,_,i+1,.cons q t=>.cons q (Vals.set r i t)
theorem Vals.append:∀{xs ys:List V} {us ws:List Value},Vals xs us->Vals ys ws->Vals (xs++ys) (us++ws)
 | _,_,_,_,.nil,s=>s
 | _,_,_,_,.cons r t,s=>.cons r (Vals.append t s)
theorem Vals.take:∀{xs:List V} {us:List Value} (n:Nat),Vals xs us->Vals (xs.take n) (us.take n)
 | _,_,0,_=>.nil
 | _,_,_+1,.nil=>.nil
 | _,_,n+1,.cons r t=>.cons r (Vals.take n t)
theorem Vals.drop:∀{xs:List V} {us:List Value} (n:Nat),Vals xs us->Vals (xs.drop n) (us.drop n)
 | _,_,0,r=>r
 | _,_,_+1,.nil=>.nil
 | _,_,n+1,.cons _ t=>Vals.drop n t
def fH:Option V->Option Value->Prop
 | some v,some u=>RelV v u
 | none,none=>True
 | _,_=>False
def KV {κ:Type}:List (κ×V)->List (κ×Value)->Prop:=Paired fun(p:κ×V) (q:κ×Value)=>p.1=q.1/\RelV p.2 q.2
def kV:Key->V
 | .inl i=>.int i
 | .inr x=>.str x
inductive HO where
 | lst (xs:List V)
 | tup (xs:List V)
 | dK (kvs:List (Key×V))|dT (kvs:List (List Key×V))
 | set (S:Int->Bool) (n:Nat)
 | ins (C dx:Addr) (fs:List (Str×V))
 | own (x:Addr)
 | xd (fs:List (Str×V))
 | met (f x:Addr)
 | rng (lo hi:Int)
 | frz (o:Obj) (u:HO)
 | tbl (ps:Array Value)
 | ext (φ:Heap->Prop)
abbrev Hp:=Addr->Option HO
def upd (H:Hp)(a:Addr)(o:HO):Hp:=fun b=>if b=a then some o else H b
def ae {H:Hp}{a:Addr}{o:HO}:upd H a o a=some o:=by unfold upd;rw[ba rfl]
def au {H:Hp}{a b:Addr}{o:HO}(h:b≠a):upd H a o b=H b:=by unfold upd;rw[aQ h]
def iS {H:Hp}{a:Addr}{o u:HO}:upd (upd H a o) a u=upd H a u:=by
 funext b;unfold upd;split<;>rfl
def bX {H:Hp}{a b:Addr}{o u:HO}(h:H a=some o)(h':H b=some u)(d:o≠u):a≠b:=by
 intro e;subst e;rw[h]at h';show d (aas h')
def ar {H:Hp}{a b:Addr}{o:HO}(h:H a=some o)(h':H b=none):a≠b:=by
 intro e;subst e;rw[h]at h';cases h'
section
variable(P:Program)(w:World)
def aR (H:Hp)(h:Heap)(a:Addr):HO->Prop
 | .lst xs=>xs.length<=sizeLine/\∃(its:List Value) (n:Nat),Vals xs its/\h.get? a=some {cls:=.type "list",data:=.seq its.toArray n}
 | .tup xs=>xs.length<=sizeLine/\∃its:List Value,Vals xs its/\IsTup h a its.toArray
 | .dK kvs=>kvs.length<=sizeLine/\(a==aa5)=false/\∃vs,KV kvs vs/\h.DictOf (aI P w) a vs
 | .dT kvs=>kvs.length<=sizeLine/\(a==aa5)=false/\∃xs:List (List Key×Addr×Value),
     Paired (fun(p:List Key×V) (q:List Key×Addr×Value)=>p.1=q.1/\H q.2.1=some (.tup (p.1.map kV))/\RelV p.2 q.2.2) kvs xs /\
     ∃o es ep,h.get? a=some o/\o.ExactDict/\o.data=.dict es ep/\es.toList=xs.map (entryOfKey (tupleKind (aI P w)))/\(xs.map (·.1)).Nodup
 | .set S n=>h.SetOf (intKind P w) a S n
 | .ins C dx fs=>H dx=some (.own a)/\fs.length<=1000/\dx≠a/\h.get? a=some (ac5 C dx) /\
     ∃mA,h.Ns1 dx mA/\(∀f,fH (fs.lookup f) (mA f))/\PySem.Within mA (fs.map (·.1))
 | .own _=>∃o,h.get? a=some o
 | .xd fs=>∃mA,h.Ns1 a mA/\∀f,fH (fs.lookup f) (mA f)
 | .rng lo hi=>∃t u v,h.get? a=some {cls:=.type "range",data:=.fields #[.int lo t,.int hi u,.int 1 v]}
 | .frz o u=>h.get? a=some o/\aR H h a u
 | .tbl ps=>h.get? a=some {cls:=.none,data:=.fields ps}
 | .met f x=>h.get? a=some (acV (.ref f) (.ref x))
 | .ext φ=>φ h/\(∃o,h.get? a=some o)/\∀h1 h2:Heap,φ h1->(∀o,h1.get? a=some o->h2.get? a=some o)->φ h2
def eL (H:Hp)(h:Heap):Prop:=∀a o,H a=some o->aR P w H h a o
end
section
variable{P:Program}{w:World}{H H':Hp}{h h':Heap}{a:Addr}{o:HO}
theorem aR.lt (x:aR P w H h a o):a<h.objs.size:=by
 cases o with
 | lst xs=>obtain⟨_,_,_,_,e⟩:=x;show Z7 e
 | tup xs=>obtain⟨_,_,_,p⟩:=x;show p.lt
 | dK kvs=>obtain⟨_,_,_,_,o,_,_,e,_⟩:=x;show Z7 e
 | dT kvs=>obtain⟨_,_,_,_,o,_,_,e,_⟩:=x;show Z7 e
 | set S n=>obtain⟨o,_,_,_,e,_⟩:=x;show Z7 e
 | ins C dx fs=>obtain⟨_,_,_,e,_⟩:=x;show Z7 e
 | own y=>obtain⟨_,e⟩:=x;show Z7 e
 | xd fs=>obtain⟨_,⟨_,_,_,e,_⟩,_⟩:=x;show Z7 e
 | rng lo hi=>obtain⟨_,_,_,e⟩:=x;show Z7 e
 | frz ob u=>obtain⟨e,_⟩:=x;show Z7 e
 | tbl ps=>show Z7 (show h.get? a=some _ from x)
 | met f y=>show Z7 (show h.get? a=some _ from x)
 | ext φ=>obtain⟨_,⟨_,e⟩,_⟩:=x;show Z7 e
theorem Paired.aV {α β:Type}{F G:α->β->Prop}:∀{l₁:List α} {l₂:List β},Paired F l₁ l₂->(∀a b,F a b->G a b)->Paired G l₁ l₂
 | _,_,.nil,_=>.nil
 | _,_,.cons r t,f=>.cons (f _ _ r) (Paired.aV t f)
def aR.b8 (x:aR P w H h a o)(k:∀b u,(b=a\/H b=some (.own a))->h.get? b=some u->h'.get? b=some u)
   (ho:∀b,H b=some (.own a)->H' b=some (.own a)) (ht:∀b xs,H b=some (.tup xs)->H' b=some (.tup xs)):aR P w H' h' a o:=by
 induction o with
 | lst xs=>obtain⟨z,its,n,r,e⟩:=x;show⟨z,its,n,r,k _ _ (.inl rfl) e⟩
 | tup xs=>obtain⟨z,its,r,ob,e,c⟩:=x;show⟨z,its,r,ob,k _ _ (.inl rfl) e,c⟩
 | dK kvs=>obtain⟨z,y,vs,r,ob,es,ep,e,c⟩:=x;show⟨z,y,vs,r,ob,es,ep,k _ _ (.inl rfl) e,c⟩
 | dT kvs=>
   obtain⟨z,y,xs,r,ob,es,ep,e,c⟩:=x
   show⟨z,y,xs,Paired.aV r fun p q z=>⟨z.1,ht _ _ z.2.1,z.2.2⟩,ob,es,ep,k _ _ (.inl rfl) e,c⟩
 | set S n=>obtain⟨ob,es,ep,t,e,c⟩:=x;show⟨ob,es,ep,t,k _ _ (.inl rfl) e,c⟩
 | ins C dx fs=>
   obtain⟨d,z,ne,e,mA,⟨od,es,ep,e2,c⟩,r⟩:=x
   show⟨ho _ d,z,ne,k _ _ (.inl rfl) e,mA,⟨od,es,ep,k _ _ (.inr d) e2,c⟩,r⟩
 | own y=>obtain⟨ob,e⟩:=x;show⟨ob,k _ _ (.inl rfl) e⟩
 | xd fs=>obtain⟨mA,⟨od,es,ep,e,c⟩,r⟩:=x;show⟨mA,⟨od,es,ep,k _ _ (.inl rfl) e,c⟩,r⟩
 | rng lo hi=>obtain⟨t,u,v,e⟩:=x;show⟨t,u,v,k _ _ (.inl rfl) e⟩
 | frz ob u ih=>obtain⟨e,q⟩:=x;show⟨k _ _ (.inl rfl) e,ih q⟩
 | tbl ps=>
   have e:h.get? a=some {cls:=.none,data:=.fields ps}:=x
   change h'.get? a=some {cls:=.none,data:=.fields ps}
   show k a _ (.inl rfl) e
 | met f y=>
   have e:h.get? a=some (acV (.ref f) (.ref y)):=x
   change h'.get? a=some (acV (.ref f) (.ref y))
   show k a _ (.inl rfl) e
 | ext φ=>obtain⟨p,⟨o,e⟩,st⟩:=x;show⟨st _ _ p fun o q=>k _ _ (.inl rfl) q,⟨o,k _ _ (.inl rfl) e⟩,st⟩
def eL.lt (x:eL P w H h)(e:H a=some o):a<h.objs.size:=(x a o e).lt
def eL.fresh (x:eL P w H h)(e:h.objs.size<=a):H a=none:=by
 cases q:H a with
 | none=>rfl
 | some u=>show aB (aak (x.lt q) e) (aba _)
def eL.kept (x:eL P w H h)(k:∀b u,h.get? b=some u->h'.get? b=some u):eL P w H h':=fun a o e=>
 (x a o e).b8 (fun b u z q=>k b u q) (fun z q=>q) fun z z q=>q
def eL.laid (x:eL P w H h)(k:∀b u,h.get? b=some u->h'.get? b=some u)(hp:h.objs.size<=a)(new:aR P w (upd H a o) h' a o):eL P w (upd H a o) h':=fun b u e=>by
 have hn:=x.fresh hp
 by_cases hb:b=a
 . subst hb;rw[ae]at e;cases e;show new
 . rw[au hb]at e
   show(x b u e).b8 (fun c v z q=>k c v q) (fun c q=>by rw[au (ar q hn)];show q) fun c xs q=>by rw[au (ar q hn)];show q
end
def Rd (H:Hp)(a:Addr)(u:HO):Prop:=H a=some u\/∃o,H a=some (.frz o u)
def Rd.ok {P:Program}{w:World}{H:Hp}{h:Heap}{a:Addr}{u:HO}(r:Rd H a u)(x:eL P w H h):aR P w H h a u:=by
 rcases r with r|⟨o,r⟩
 . show x a u r
 . obtain⟨_,q⟩:=x a _ r
   show q
def Gm:Option HO->Prop
 | some (.lst _)=>True
 | some (.dK _)=>True
 | some (.dT _)=>True
 | some (.set _ _)=>True
 | some (.ins _ _ _)=>True
 | some (.ext _)=>True
 | _=>False
section
variable{P:Program}{w:World}{H:Hp}{h h':Heap}{x e:Addr}{o':HO}
def eL.write (ok:eL P w H h)(mu:Gm (H x))(he:e=x\/H e=some (.own x))(k:∀b u,b≠e->h.get? b=some u->h'.get? b=some u)(heo:∃u,h'.get? e=some u)
   (new:aR P w (upd H x o') h' x o'):eL P w (upd H x o') h':=fun b u q=>by
 have nown:∀c y,H c=some (.own y)->c≠x:=fun c y r z=>by subst z;rw[r]at mu;show mu
 have ntup:∀c xs,H c=some (.tup xs)->c≠x:=fun c xs r z=>by subst z;rw[r]at mu;show mu
 by_cases hb:b=x
 . subst hb;rw[ae]at q;cases q;show new
 . rw[au hb]at q
   by_cases CC:b=e
   . have q':H b=some (.own x):=by
       rcases he with z|z
       . show aB (CC.trans z) hb
       . rw[CC];show z
     rw[q]at q';cases q'
     obtain⟨v,hv⟩:=heo
     show⟨v,by rw[CC];show hv⟩
   . show(ok b u q).b8 (fun c v hc r=>k c v ?_ r) (fun c r=>by rw[au (nown c b r)];show r) fun c xs r=>by rw[au (ntup c xs r)];show r
     rcases hc with rfl|hc
     . show CC
     . rintro rfl
       rcases he with z|z
       . show nown c b hc z
       . rw[hc]at z;cases z;show hb rfl
end
structure Un (fs ex:List Addr)(H H':Hp)(h h':Heap):Prop where
 keep:∀b o,h.get? b=some o->H b=none->b∉fs->b∉ex->h'.get? b=some o
 slot:∀b o,h.get? b=some o->H b=none->b∈fs->b∉ex->∃sl,h'.get? b=some {o with slots:=sl}
 free:∀b o,h.get? b=some o->H b=none->b∉ex->H' b=none
 there:∀b o,h.get? b=some o->b∉ex->∃o',h'.get? b=some o'
 tups:∀b xs,H b=some (.tup xs)->H' b=some (.tup xs)
 frzs:∀b o u,H b=some (.frz o u)->H' b=some (.frz o u)
 tbls:∀b ps,H b=some (.tbl ps)->∃more,H' b=some (.tbl (ps++more))
section
variable{fs Vm ex Y0:List Addr}{H H1 H2:Hp}{h h1 h2 h':Heap}{a x e:Addr}{o:HO}
def Un.any (u:Un fs ex H H1 h h1){b:Addr}{ob:Obj}(q:h.get? b=some ob)(n:H b=none)(hx:b∉ex):∃sl,h1.get? b=some {ob with slots:=sl}:=by
 by_cases hb:b∈fs
 . show u.slot b ob q n hb hx
 . show⟨ob.slots,u.keep b ob q n hb hx⟩
def Un.kept (k:∀b u,h.get? b=some u->h'.get? b=some u):Un fs ex H H h h':=
 ⟨fun b ob q z z z=>k b ob q,fun b ob q z z z=>⟨ob.slots,k b ob q⟩,fun z z z n z=>n,fun b ob q z=>⟨ob,k b ob q⟩,fun z z q=>q,fun z z z q=>q,fun z ps q=>⟨#[],by rw[q];simp⟩⟩
def Un.refl:Un fs ex H H h h:=Un.kept fun z z q=>q
def Un.laid (k:∀b u,h.get? b=some u->h'.get? b=some u)(hp:h.objs.size<=a)(hn:H a=none):Un fs ex H (upd H a o) h h' where
 keep:=fun b u q z z z=>k b u q
 slot:=fun b u q z z z=>⟨u.slots,k b u q⟩
 free:=fun b u q n z=>by rw[au (aaf (aak (Z7 q) hp))];show n
 there:=fun b u q z=>⟨u,k b u q⟩
 tups:=fun b xs q=>by rw[au (ar q hn)];show q
 frzs:=fun b u xs q=>by rw[au (ar q hn)];show q
 tbls:=fun b ps q=>⟨#[],by rw[au (ar q hn),q];simp⟩
def Un.write (mu:Gm (H x))(he:e=x\/H e=some (.own x))(k:∀b u,b≠e->h.get? b=some u->h'.get? b=some u)(heo:∃u,h'.get? e=some u):Un fs ex H (upd H x o) h h':=by
 have hx:∀b,H b=none->b≠x:=fun b n z=>by subst z;rw[n]at mu;show mu
 have hb:∀b,H b=none->b≠e:=fun b n z=>by
   subst z
   rcases he with r|r
   . show hx b n r
   . rw[n]at r;cases r
 have hm:∀b u,H b=some u->¬ Gm (some u)->b≠x:=fun b u q nm z=>by subst z;rw[q]at mu;show nm mu
 show⟨fun b u q n y y=>k b u (hb b n) q,fun b u q n y y=>⟨u.slots,k b u (hb b n) q⟩,fun b u q n y=>by rw[au (hx b n)];show n,fun b u q y=>?_,
   fun b xs q=>by rw[au (hm b _ q fun z=>z)];show q,fun b u xs q=>by rw[au (hm b _ q fun z=>z)];show q,fun b ps q=>⟨#[],by rw[au (hm b _ q fun z=>z),q];simp⟩⟩
 by_cases CC:b=e
 . subst CC;show heo
 . show⟨u,k b u CC q⟩
end
def uD (h:Heap)(H:Hp):List Addr:=(aax h.objs.size).filter fun a=>(H a).isSome
def lG (h:Heap)(H:Hp):Heap:=PySem.W.hideAll h (uD h H)
def sQ (h:Heap)(H:Hp):(lG h H).objs.size=h.objs.size:=PySem.W.hideAll_size _ _
def vd {h:Heap}{H:Hp}{b:Addr}{o:Obj}(e:h.get? b=some o)(n:H b=none):(lG h H).get? b=some o:=
 adZ _ e fun hm=>by
   have q:(H b).isSome=true:=(List.mem_filter.mp hm).2
   rw[n]at q;simp at q
def yR {h:Heap}{H:Hp}{b:Addr}{o:Obj}(e:(lG h H).get? b=some o):h.get? b=some o/\H b=none:=by
 have e':h.get? b=some o:=ad3 (uD h H) e
 show⟨e',?_⟩
 cases q:H b with
 | none=>rfl
 | some x=>
   have hm:b∈uD h H:=List.mem_filter.mpr ⟨List.mem_range.mpr (Z7 e'),by simp[q]⟩
   have z:(lG h H).get? b=none:=PySem.W.hideAll_none (uD h H) hm
   rw[z]at e;cases e
structure Mod (K:ZV)(mg:Str->Option Value)(base:Heap):Prop where
 kin:K.In base
 glob:base.Ns aaN mg
 blt:∃mb,base.Ns builtinsNs mb/\∀x:Str,x≠"__name__"->mb x=aaR x
 nolimit:base.NoLimit
structure Cx where
 prog:Program
 w:World
 K:ZV
 mg:Str->Option Value
 base:Heap
 A:Around
 N:List Str
 s₀:Shared
 H₀:Hp
 env:Env
 outer:List Env
 stack:List Env
 ex:List Addr
 fn:Str->Bool
 calm:Bool
 pn:List (Addr×Obj)
 xe:Value->Shared->Prop
def fK (l:List Env):List Addr:=l.filterMap (·.frame)
abbrev Cx.fs (X:Cx):List Addr:=fK X.outer
def KO (sc:Scope)(x:Str):Prop:=sc.names.lookup x=some .local\/sc.names.lookup x=some .cell\/sc.names.lookup x=some .free
def Loc (sc:Scope)(x:Str):Prop:=sc.names.lookup x=some .local\/sc.names.lookup x=some .cell
def Look (env:Env)(h:Heap)(m:Str->Option Value)(x:Str)(u:Value):Prop:=
 (env.kindOf x=some .local/\m x=some u)\/((env.kindOf x=some .cell\/env.kindOf x=some .free)/\∃c,env.cells.lookup x=some c/\h.IsCell c (some u))
structure Cx.Ok (X:Cx):Prop where
 mod:Mod X.K X.mg X.base
 kind:X.env.scope.kind=.function
 glob:X.env.globals=aaN
 blt:X.env.builtins=builtinsNs
 above:X.s₀.heap.objs.size<=X.env.locals
 inj:∀x y c,X.env.cells.lookup x=some c->X.env.cells.lookup y=some c->x=y
 has:∀x,(X.env.kindOf x=some .cell\/X.env.kindOf x=some .free)->∃c,X.env.cells.lookup x=some c
 cab:∀x c,X.fn x=true->X.env.cells.lookup x=some c->X.s₀.heap.objs.size<=c
 hd:X.calm=true->X.A.handled=none
 frames:X.A.frames=some X.stack
 stk:X.stack=X.outer\/(X.stack=X.env::X.outer/\X.env.frame=some X.env.locals)
 exf:∀b∈X.ex,b≠X.env.locals/\∀x c,X.env.cells.lookup x=some c->c≠b
 bs:∀b o,X.base.get? b=some o->X.s₀.heap.get? b=some o/\X.H₀ b=none
 bsz:X.base.objs.size<=X.s₀.heap.objs.size
 noex:∀b o,X.base.get? b=some o->b∉X.ex
 exfs:∀b∈X.ex,b∉X.fs
 fL:X.s₀.heap.FunFrames X.base X.outer
 frf:∀b∈X.fs,X.H₀ b=none
structure Inv (X:Cx)(pins:List (Addr×Obj))(σ:List (Option V))(H:Hp)(s:Shared):Prop where
 ok:X.Ok
 os:s.os=X.s₀.os
 bare:AllBare s.gens
 base:Un X.fs X.ex X.H₀ H X.s₀.heap s.heap
 loc:∃m,s.heap.Ns X.env.locals m/\∀(i:Nat) (x:Str) (v:V),X.N[i]?=some x->σ[i]?=some (some v)->KO X.env.scope x->∃u,RelV v u/\Look X.env s.heap m x u
 cell:∀x c,X.env.cells.lookup x=some c->∃v,s.heap.IsCell c v
 free:H X.env.locals=none
 freeC:∀x c,X.env.cells.lookup x=some c->H c=none
 pin:∀p∈X.pn++pins,s.heap.get? p.1=some p.2/\H p.1=none/\p.1≠X.env.locals/\p.1∉X.fs/\∀v,p.2.data≠.cell v
 hok:eL X.prog X.w H s.heap
 len:σ.length=X.N.length
section
variable{X:Cx}{pins:List (Addr×Obj)}{σ:List (Option V)}{H H':Hp}{s:Shared}{h':Heap}
def Cx.Ok.OV (ok:X.Ok){b:Addr}{o:Obj}(e:X.base.get? b=some o):b∉X.fs:=fun hb=>by
 have:=(ok.fL.mem hb).1
 rw[e]at this;cases this
def Inv.bs (I:Inv X pins σ H s):∀b o,X.base.get? b=some o->s.heap.get? b=some o/\H b=none:=fun b o e=>
 ⟨I.base.keep b o (I.ok.bs b o e).1 (I.ok.bs b o e).2 (I.ok.OV e) (I.ok.noex b o e),I.base.free b o (I.ok.bs b o e).1 (I.ok.bs b o e).2 (I.ok.noex b o e)⟩
def Inv.bk (I:Inv X pins σ H s):∀b o,X.base.get? b=some o->s.heap.get? b=some o:=fun b o e=>(I.bs b o e).1
def Inv.mod (I:Inv X pins σ H s):Mod X.K X.mg X.base:=I.ok.mod
def Inv.jk (I:Inv X pins σ H s):X.K.In s.heap:=I.ok.mod.kin.keeps I.bk
def Inv.lt (I:Inv X pins σ H s):X.env.locals<s.heap.objs.size:=by obtain⟨_,hn,_⟩:=I.loc;show hn.lt
def Inv.sz (I:Inv X pins σ H s):X.s₀.heap.objs.size<=s.heap.objs.size:=aar I.ok.above (aaC I.lt)
def Inv.OW (I:Inv X pins σ H s){a:Addr}(h:s.heap.objs.size<=a):a∉X.fs:=fun hb=>by
 obtain⟨_,o,ho,_⟩:=I.ok.fL.mem hb
 show aB (aak (Z7 ho) (aar I.sz h)) (aba _)
def Inv.Cd (I:Inv X pins σ H s):∀x c,X.env.cells.lookup x=some c->c≠X.env.locals:=fun x c e z=>by
 obtain⟨v,o,ho,hd⟩:=I.cell x c e
 obtain⟨m,⟨o',es,ep,ho',qK,_⟩,_⟩:=I.loc
 rw[z,ho']at ho;cases ho;rw[qK]at hd;cases hd
theorem Inv.fL (I:Inv X pins σ H s):s.heap.FunFrames X.base X.outer:=by
 have all:∀(l:List Env),(∀b∈fK l,b∈X.fs)->X.s₀.heap.FunFrames X.base l->s.heap.FunFrames X.base l:=by
   intro l
   induction l with
   | nil=>intro _ _;trivial
   | cons env r ih=>
     intro hs hl
     obtain⟨hk,⟨L8,o,hf,hn,ho,hd⟩,hr⟩:=hl
     have hL:L8∈X.fs:=hs L8 (by unfold fK;rw[abC,hf];show abm)
     obtain⟨sl,e⟩:=I.base.slot L8 o ho (I.ok.frf L8 hL) hL fun z=>I.ok.exfs L8 z hL
     show⟨hk,⟨L8,_,hf,hn,e,hd⟩,ih (fun b hb=>hs b (by unfold fK;rw[abC,hf];show aaK _ hb)) hr⟩
 show all X.outer (fun y hb=>hb) I.ok.fL
def Inv.stack (I:Inv X pins σ H s):s.heap.FunFrames X.base X.stack:=by
 rcases I.ok.stk with e|⟨e,hf⟩
 . rw[e];show I.fL
 . rw[e]
   obtain⟨m,hn,_⟩:=I.loc
   show .cons (by rw[I.ok.kind];decide) hf hn ?_ I.fL
   show Heap.get?_none_of_le (aar I.ok.bsz I.ok.above)
def Inv.mx (I:Inv X pins σ H s):∀b∈fK X.stack,b∈X.env.locals::X.fs:=fun b hb=>by
 rcases I.ok.stk with e|⟨e,hf⟩
 . rw[e]at hb;show aaK _ hb
 . rw[e]at hb
   unfold fK at hb
   rw[abC,hf]at hb
   show hb
def Inv.mw (I:Inv X pins σ H s):∀b∈fK X.stack,H b=none:=fun b hb=>by
 rcases List.mem_cons.mp (I.mx b hb)with e|hb
 . rw[e];show I.free
 . obtain⟨_,o,ho,_⟩:=I.ok.fL.mem hb
   show I.base.free b o ho (I.ok.frf b hb) fun z=>I.ok.exfs b z hb
def Inv.step {g':Array GenState}{t':Nat}{d':Drawn}{ch:List Addr}(I:Inv X pins σ H s)
   (hch:∀b∈ch,(b∈X.ex\/X.s₀.heap.objs.size<=b)/\b≠X.env.locals/\(∀x c,X.env.cells.lookup x=some c->c≠b)/\∀p∈X.pn++pins,p.1≠b)
   (keep:∀b o,b≠X.env.locals->b∉X.fs->b∉ch->s.heap.get? b=some o->H b=none->h'.get? b=some o)
   (slot:∀b o,b≠X.env.locals->b∈X.fs->b∉ch->s.heap.get? b=some o->H b=none->∃sl,h'.get? b=some {o with slots:=sl}) (free:∀b o,b∉ch->s.heap.get? b=some o->H b=none->H' b=none)
   (there:∀b o,b∉ch->s.heap.get? b=some o->∃o',h'.get? b=some o')
   (tups:∀b xs,H b=some (.tup xs)->H' b=some (.tup xs)) (frzs:∀b o u,H b=some (.frz o u)->H' b=some (.frz o u)) (tbls:∀b ps,H b=some (.tbl ps)->∃more,H' b=some (.tbl (ps++more)))
   (ns:∀m,s.heap.Ns X.env.locals m->h'.Ns X.env.locals m) (hok:eL X.prog X.w H' h') (hg:AllBare g') :
   Inv X pins σ H' {s with heap:=h',gens:=g',drawn:=d',toks:=t'}:=by
 have neL:∀b o,X.s₀.heap.get? b=some o->b≠X.env.locals:=fun b o e=>aaf (aak (Z7 e) I.ok.above)
 have neC:∀b o,X.s₀.heap.get? b=some o->b∉X.ex->b∉ch:=fun b o e hx hb=>by
   rcases(hch b hb).1 with z|z
   . show hx z
   . show aB (aak (Z7 e) z) (aba _)
 have cellK:∀x c,X.env.cells.lookup x=some c->∀v,s.heap.IsCell c v->h'.IsCell c v:=fun x c e v ⟨o,ho,hd⟩=>by
   have vF:c∉ch:=fun z=>(hch c z).2.2.1 x c e rfl
   by_cases hc:c∈X.fs
   . obtain⟨sl,q⟩:=slot c o (I.Cd x c e) hc vF ho (I.freeC x c e)
     show⟨_,q,hd⟩
   . show⟨o,keep c o (I.Cd x c e) hc vF ho (I.freeC x c e),hd⟩
 show⟨I.ok,I.os,hg,⟨fun b o e n hb hx=>?_,fun b o e n hb hx=>?_,fun b o e n hx=>?_,fun b o e hx=>?_,fun b xs e=>tups b xs (I.base.tups b xs e),fun b o xs e=>frzs b o xs (I.base.frzs b o xs e),fun b ps e=>?_⟩,?_,fun x c e=>?_,?_,fun x c e=>?_,fun p hp=>?_,hok,I.len⟩
 . show keep b o (neL b o e) hb (neC b o e hx) (I.base.keep b o e n hb hx) (I.base.free b o e n hx)
 . obtain⟨sl,e1⟩:=I.base.slot b o e n hb hx
   obtain⟨X5,e2⟩:=slot b _ (neL b o e) hb (neC b o e hx) e1 (I.base.free b o e n hx)
   show⟨X5,e2⟩
 . obtain⟨o',e1⟩:=I.base.there b o e hx
   show free b o' (neC b o e hx) e1 (I.base.free b o e n hx)
 . obtain⟨o',e1⟩:=I.base.there b o e hx
   show there b o' (neC b o e hx) e1
 . obtain⟨m1,e1⟩:=I.base.tbls b ps e
   obtain⟨m2,e2⟩:=tbls b _ e1
   show⟨m1++m2,by rw[e2,Array.append_assoc]⟩
 . obtain⟨m,hn,hl⟩:=I.loc
   show⟨m,ns m hn,fun i x v e1 e2 e3=>?_⟩
   obtain⟨u,r,l⟩:=hl i x v e1 e2 e3
   show⟨u,r,?_⟩
   rcases l with l|⟨k,c,e,z⟩
   . show .inl l
   . show .inr ⟨k,c,e,cellK x c e _ z⟩
 . obtain⟨v,z⟩:=I.cell x c e
   show⟨v,cellK x c e v z⟩
 . obtain⟨m,⟨o,_,_,ho,_⟩,_⟩:=I.loc
   show free _ o (fun z=>(hch _ z).2.1 rfl) ho I.free
 . obtain⟨v,o,ho,hd⟩:=I.cell x c e
   show free c o (fun z=>(hch c z).2.2.1 x c e rfl) ho (I.freeC x c e)
 . obtain⟨e,n,ne,nf,d⟩:=I.pin p hp
   have vF:p.1∉ch:=fun z=>(hch p.1 z).2.2.2 p hp rfl
   show⟨keep p.1 p.2 ne nf vF e n,free p.1 p.2 vF e n,ne,nf,d⟩
def Inv.un {t':Nat}(I:Inv X pins σ H s)(u:Un X.fs [] H H' s.heap h')(hok:eL X.prog X.w H' h'):Inv X pins σ H' {s with heap:=h',toks:=t'}:=by
 obtain⟨m,⟨o,es,ep,ho,r⟩,_⟩:=id I.loc
 obtain⟨sl,hL⟩:=u.any ho I.free (by simp)
 show I.step (g':=s.gens) (d':=s.drawn) (ch:=[]) (fun y z=>nomatch z) (fun b o y hb y e n=>u.keep b o e n hb (by simp)) (fun b o y hb y e n=>u.slot b o e n hb (by simp)) (fun b o y e n=>u.free b o e n (by simp)) (fun b o y e=>u.there b o e (by simp)) u.tups u.frzs u.tbls (fun m' hm=>by
   obtain⟨o',GN,ep',ho',r'⟩:=hm
   rw[ho]at ho';cases ho'
   show⟨_,GN,ep',hL,r'⟩) hok I.bare
def Inv.call {g':Array GenState}{t':Nat}{d':Drawn}{ch:List Addr}(I:Inv X pins σ H s)(u:Un (fK X.stack) ch H H' s.heap h')(hok:eL X.prog X.w H' h')(hg:AllBare g')
   (hch:∀b∈ch,(b∈X.ex\/X.s₀.heap.objs.size<=b)/\b≠X.env.locals/\(∀x c,X.env.cells.lookup x=some c->c≠b)/\∀p∈X.pn++pins,p.1≠b) :
   Inv X pins σ H' {s with heap:=h',gens:=g',drawn:=d',toks:=t'}:=by
 obtain⟨m,⟨o,es,ep,ho,r⟩,_⟩:=id I.loc
 obtain⟨sl,hL⟩:=u.any ho I.free fun z=>(hch _ z).2.1 rfl
 show I.step (ch:=ch) hch (fun b o hL hb hc e n=>u.keep b o e n (fun z=>(List.mem_cons.mp (I.mx b z)).elim hL hb) hc) (fun b o y y hc e n=>u.any e n hc) (fun b o hc e n=>u.free b o e n hc) (fun b o hc e=>u.there b o e hc) u.tups u.frzs u.tbls (fun m' hm=>by
   obtain⟨o',GN,ep',ho',r'⟩:=hm
   rw[ho]at ho';cases ho'
   show⟨_,GN,ep',hL,r'⟩) hok hg
def Inv.turned {t':Nat}{it:Addr}(I:Inv X pins σ H s)(k:∀b o,b≠it->s.heap.get? b=some o->h'.get? b=some o)(hn:H it=none)(hL:it≠X.env.locals)
   (h1:it∈X.ex\/X.s₀.heap.objs.size<=it) (h2:∀x c,X.env.cells.lookup x=some c->c≠it) (h3:∀p∈X.pn++pins,p.1≠it):Inv X pins σ H {s with heap:=h',toks:=t'}:=by
 have Su:∀b u,H b=some u->b≠it:=fun b u e z=>by rw[z,hn]at e;cases e
 show I.step (g':=s.gens) (d':=s.drawn) (ch:=[it]) (fun b hb=>?_) (fun b o y y hc e y=>k b o (fun z=>hc (by simp[z])) e) (fun b o y y hc e y=>⟨o.slots,k b o (fun z=>hc (by simp[z])) e⟩) (fun y y y y n=>n)
   (fun b o hc e=>⟨o,k b o (fun z=>hc (by simp[z])) e⟩) (fun y y e=>e) (fun y y y e=>e) (fun b ps e=>⟨#[],by rw[e];simp⟩) (fun m hm=>?_) (fun b u e=>?_) I.bare
 . have e:b=it:=by simpa using hb
   subst e
   show⟨h1,hL,h2,h3⟩
 . obtain⟨o,es,ep,ho,r⟩:=hm
   show⟨o,es,ep,k _ o (Ne.symm hL) ho,r⟩
 . show(I.hok b u e).b8 (fun c v hc q=>k c v ?_ q) (fun y q=>q) fun y y q=>q
   rcases hc with z|z
   . rw[z];show Su b u e
   . show Su c _ z
def Inv.tok (I:Inv X pins σ H s)(t:Nat):Inv X pins σ H {s with toks:=t}:=I.un (h':=s.heap) (t':=t) Un.refl I.hok
def Inv.kept {t':Nat}(I:Inv X pins σ H s)(k:∀b u,s.heap.get? b=some u->h'.get? b=some u):Inv X pins σ H {s with heap:=h',toks:=t'}:=I.un (Un.kept k) (I.hok.kept k)
def Inv.laid {a:Addr}{o:HO}{t':Nat}(I:Inv X pins σ H s)(k:∀b u,s.heap.get? b=some u->h'.get? b=some u)(hp:s.heap.objs.size<=a)(new:aR X.prog X.w (upd H a o) h' a o) :
   Inv X pins σ (upd H a o) {s with heap:=h',toks:=t'}:=I.un (Un.laid k hp (I.hok.fresh hp)) (I.hok.laid k hp new)
def Inv.write {x e:Addr}{o:HO}{t':Nat}(I:Inv X pins σ H s)(mu:Gm (H x))(he:e=x\/H e=some (.own x))(k:∀b u,b≠e->s.heap.get? b=some u->h'.get? b=some u)(heo:∃u,h'.get? e=some u)
   (new:aR X.prog X.w (upd H x o) h' x o):Inv X pins σ (upd H x o) {s with heap:=h',toks:=t'}:=I.un (Un.write mu he k heo) (I.hok.write mu he k heo new)
def Inv.weak {σ':List (Option V)}(I:Inv X pins σ H s)(hl:σ'.length=σ.length)(w:∀(i:Nat) v,σ'[i]?=some (some v)->σ[i]?=some (some v)):Inv X pins σ' H s:=
 ⟨I.ok,I.os,I.bare,I.base,let⟨m,hn,xP⟩:=I.loc;⟨m,hn,fun i x v e1 e2 e3=>xP i x v e1 (w i v e2) e3⟩,I.cell,I.free,I.freeC,I.pin,I.hok,hl.trans I.len⟩
def Inv.qZ {ie:List (Addr×Obj)}(I:Inv X pins σ H s)(h:∀p∈ie,s.heap.get? p.1=some p.2/\H p.1=none/\p.1≠X.env.locals/\p.1∉X.fs/\∀v,p.2.data≠.cell v):Inv X ie σ H s:=
 ⟨I.ok,I.os,I.bare,I.base,I.loc,I.cell,I.free,I.freeC,fun p hp=>(List.mem_append.mp hp).elim (fun z=>I.pin p (aa1 _ z)) (h p),I.hok,I.len⟩
def nC {N:List Str}(hN:N.Nodup){i j:Nat}{x:Str}(a:N[i]?=some x)(b:N[j]?=some x):i=j:=by
 obtain⟨h1,e1⟩:=List.getElem?_eq_some_iff.mp a
 obtain⟨h2,e2⟩:=List.getElem?_eq_some_iff.mp b
 show(List.getElem_inj hN).mp (e1.trans e2.symm)
def kO {M8:Model}{A:Around}{E:Value->Shared->Prop}{i:Nat}{x:Str}{v:V}{u:Value}{Q:Unit->Shared->Prop}(I:Inv X pins σ H s)(hN:X.N.Nodup)(hi:X.N[i]?=some x)(hx:Loc X.env.scope x)(r:RelV v u)
   (h:∀s',Inv X pins (σ.set i (some v)) H s'->(∃a,aaM a s.heap s'.heap/\(a=X.env.locals\/X.env.cells.lookup x=some a))->Q () s') (hf:X.fn x=true\/X.env.scope.names.lookup x=some .local:=by first|show .inl rfl|show .inr rfl|assumption):wpAny M8 A (storeName X.env x u) Q E s:=by
 obtain⟨m,hn,hl⟩:=id I.loc
 have hcls:(X.env.scope.kind==.class || (X.env.scope.kind==.module&&X.env.locals != X.env.globals))=false:=by rw[I.ok.kind];rfl
 have hiσ:i<σ.length:=by rw[I.len];show(List.getElem?_eq_some_iff.mp hi).1
 have Cd:=I.Cd
 have tracked:∀{a:Addr} {h':Heap},(∃o,s.heap.get? a=some o/\H a=none)->aaM a s.heap h'->eL X.prog X.w H h':=fun{a h'} ha hs b ob e=>by
   obtain⟨_,_,Ay⟩:=ha
   show(I.hok b ob e).b8 (fun c w' hc q=>(hs.2 c ?_).trans q) (fun t q=>q) fun t t q=>q
   rintro rfl
   rcases hc with rfl|hc
   . rw[Ay]at e;cases e
   . rw[Ay]at hc;cases hc
 rcases hx with hk|hk
 . show wpAny_storeName_local hk hn (fun h' Wi hs=>?_) hcls
   obtain⟨oL,_,_,CJ,_⟩:=id hn
   show h _ ⟨I.ok,I.os,I.bare,⟨fun b o e n hb hx=>?_,fun b o e n hb hx=>?_,I.base.free,fun b o e hx=>?_,I.base.tups,I.base.frzs,I.base.tbls⟩,⟨_,Wi,fun j y v' e1 e2 e3=>?_⟩,fun y c e=>?_,I.free,I.freeC,fun p hp=>?_,tracked ⟨oL,CJ,I.free⟩ hs,by simpa using I.len⟩ ⟨_,hs,.inl rfl⟩
   . show(hs.2 b (aaf (aak (Z7 e) I.ok.above))).trans (I.base.keep b o e n hb hx)
   . obtain⟨sl,e1⟩:=I.base.slot b o e n hb hx
     show⟨sl,(hs.2 b (aaf (aak (Z7 e) I.ok.above))).trans e1⟩
   . obtain⟨o',e1⟩:=I.base.there b o e hx
     show⟨o',(hs.2 b (aaf (aak (Z7 e) I.ok.above))).trans e1⟩
   . by_cases hj:j=i
     . subst hj
       rw[hi]at e1;cases e1
       rw[aa4 hiσ]at e2
       cases e2
       show⟨u,r,.inl ⟨hk,by simp⟩⟩
     . rw[abc (Ne.symm hj)]at e2
       obtain⟨u',r',q⟩:=hl j y v' e1 e2 e3
       show⟨u',r',?_⟩
       rcases q with⟨k,e⟩|⟨k,c,e,z⟩
       . show .inl ⟨k,?_⟩
         have:y≠x:=fun e=>hj (nC hN e1 (e▸hi))
         simp[this,e]
       . show .inr ⟨k,c,e,z.sameBut hs (Cd y c e)⟩
   . obtain⟨w',z⟩:=I.cell y c e
     show⟨w',z.sameBut hs (Cd y c e)⟩
   . obtain⟨e,n,ne,nf,d⟩:=I.pin p hp
     show⟨(hs.2 p.1 ne).trans e,n,ne,nf,d⟩
 . have HJ:X.fn x=true:=by
     rcases hf with z|z
     . show z
     . rw[z]at hk;cases hk
   obtain⟨c,hc⟩:=I.ok.has x (.inl hk)
   obtain⟨w',z⟩:=I.cell x c hc
   show wpAny_storeName_cell I.ok.kind hk hc z (fun h' mW hs=>?_)
   obtain⟨oc,FL,N9⟩:=id z
   show h {s with heap:=h'} ⟨I.ok,I.os,I.bare,⟨fun b o e n hb hx=>?_,fun b o e n hb hx=>?_,I.base.free,fun b o e hx=>?_,I.base.tups,I.base.frzs,I.base.tbls⟩,⟨m,hn.sameBut hs (Ne.symm (Cd x c hc)),fun j y v' e1 e2 e3=>?_⟩,fun y c' e=>?_,I.free,I.freeC,fun p hp=>?_,tracked ⟨oc,FL,I.freeC x c hc⟩ hs,by simpa using I.len⟩ ⟨c,hs,.inr hc⟩
   . show(hs.2 b (aaf (aak (Z7 e) (I.ok.cab x c HJ hc)))).trans (I.base.keep b o e n hb hx)
   . obtain⟨sl,e1⟩:=I.base.slot b o e n hb hx
     show⟨sl,(hs.2 b (aaf (aak (Z7 e) (I.ok.cab x c HJ hc)))).trans e1⟩
   . obtain⟨o',e1⟩:=I.base.there b o e hx
     show⟨o',(hs.2 b (aaf (aak (Z7 e) (I.ok.cab x c HJ hc)))).trans e1⟩
   . by_cases hj:j=i
     . subst hj
       rw[hi]at e1;cases e1
       rw[aa4 hiσ]at e2
       cases e2
       show⟨u,r,.inr ⟨.inl hk,c,hc,mW⟩⟩
     . rw[abc (Ne.symm hj)]at e2
       obtain⟨u',r',q⟩:=hl j y v' e1 e2 e3
       show⟨u',r',?_⟩
       rcases q with q|⟨k,c',e,z'⟩
       . show .inl q
       . show .inr ⟨k,c',e,z'.sameBut hs ?_⟩
         rintro rfl
         show hj (nC hN e1 (I.ok.inj _ _ _ e hc▸hi))
   . by_cases RC:c'=c
     . subst RC;show⟨_,mW⟩
     . obtain⟨w2,z2⟩:=I.cell y c' e
       show⟨w2,z2.sameBut hs RC⟩
   . obtain⟨e,n,ne,nf,d⟩:=I.pin p hp
     show⟨(hs.2 p.1 ?_).trans e,n,ne,nf,d⟩
     intro q
     rw[q,FL]at e
     have q':oc=p.2:=aas e
     show d w' (by rw[← q'];show N9)
def cG {M8:Model}{A:Around}{E:Value->Shared->Prop}{i:Nat}{x:Str}{v:V}{u:Value}{Q:Unit->Shared->Prop}(I:Inv X pins σ H s)(hN:X.N.Nodup)(hi:X.N[i]?=some x)(hx:Loc X.env.scope x)(r:RelV v u)
   (h:∀s',Inv X pins (σ.set i (some v)) H s'->Q () s') (hf:X.fn x=true\/X.env.scope.names.lookup x=some .local:=by first|show .inl rfl|show .inr rfl|assumption):wpAny M8 A (storeName X.env x u) Q E s:=
 kO I hN hi hx r (fun s' I' z=>h s' I') hf
def Inv.An {s':Shared}{ch:List Addr}(I:Inv X pins σ H s)(ho:s'.os=s.os)(u:Un (fK X.stack) ch H H' s.heap s'.heap)(hok:eL X.prog X.w H' s'.heap)(hg:AllBare s'.gens)
   (hch:∀b∈ch,(b∈X.ex\/X.s₀.heap.objs.size<=b)/\b≠X.env.locals/\(∀x c,X.env.cells.lookup x=some c->c≠b)/\∀p∈X.pn++pins,p.1≠b):Inv X pins σ H' s':=by
 obtain⟨h',g',d',t',o'⟩:=s'
 have e:o'=s.os:=ho
 subst e
 show I.call (g':=g') (t':=t') (d':=d') u hok hg hch
end
abbrev XK:=Value->Option Addr->Hp->Prop
abbrev St:=List (Option V)
abbrev VK:=V->Hp->Prop
abbrev TE:=St->Hp->VK->Prop
abbrev TT:=St->Hp->(Bool->Hp->Prop)->Prop
abbrev TA:=St->Hp->(List V->Hp->Prop)->Prop
structure Ends where
 nx:St->Hp->Prop
 rt:VK
 bk:St->Hp->Prop:=fun _ _=>False
 ct:St->Hp->Prop:=fun _ _=>False
abbrev TS:=Ends->St->Hp->Prop
def EP (X:Cx)(pins:List (Addr×Obj))(σ:St)(Q:VK)(u:Value)(s':Shared):Prop:=∃v H',Inv X pins σ H' s'/\RelV v u/\Q v H'
def TP (X:Cx)(pins:List (Addr×Obj))(σ:St)(Q:Bool->Hp->Prop)(b:Bool)(s':Shared):Prop:=∃H',Inv X pins σ H' s'/\Q b H'
def AP (X:Cx)(pins:List (Addr×Obj))(σ:St)(Q:List V->Hp->Prop)(us:List Value)(s':Shared):Prop:=∃vs H',Inv X pins σ H' s'/\Vals vs us/\Q vs H'
def SP (X:Cx)(pins:List (Addr×Obj))(D:Ends)(f:Flow)(s':Shared):Prop:=
 match f with
 | .next=>∃σ' H',Inv X pins σ' H' s'/\D.nx σ' H'
 | .brk=>∃σ' H',Inv X pins σ' H' s'/\D.bk σ' H'
 | .cont=>∃σ' H',Inv X pins σ' H' s'/\D.ct σ' H'
 | .ret u=>∃v σ' H',Inv X pins σ' H' s'/\RelV v u/\D.rt v H'
def PE (X:Cx)(e:Expr)(t:TE):Prop:=
 ∀(pins:List (Addr×Obj)) (s:Shared) (σ:St) (H:Hp) (Q:VK),Inv X pins σ H s->t σ H Q->wpAny (model X.prog X.w) X.A (eval e X.env) (EP X pins σ Q) X.xe s
def PT (X:Cx)(e:Expr)(t:TT):Prop:=
 ∀(pins:List (Addr×Obj)) (s:Shared) (σ:St) (H:Hp) (Q:Bool->Hp->Prop),Inv X pins σ H s->t σ H Q->wpAny (model X.prog X.w) X.A (isTrue e X.env (eval e X.env)) (TP X pins σ Q) X.xe s
def PW (X:Cx)(e:Expr)(t:TT):Prop:=
 ∀(whole:Sem Value) (pins:List (Addr×Obj)) (s:Shared) (σ:St) (H:Hp) (Q:Bool->Hp->Prop),Inv X pins σ H s->t σ H Q->wpAny (model X.prog X.w) X.A (isTrue e X.env whole) (TP X pins σ Q) X.xe s
def PW.pt {X:Cx}{e:Expr}{t:TT}(h:PW X e t):PT X e t:=h _
def PA (X:Cx)(es:List Expr)(t:TA):Prop:=
 ∀(pos:Pos) (pins:List (Addr×Obj)) (s:Shared) (σ:St) (H:Hp) (Q:List V->Hp->Prop),Inv X pins σ H s->t σ H Q->wpAny (model X.prog X.w) X.A (spliced (backTo pos (starEach es X.env))) (AP X pins σ Q) X.xe s
def PS (X:Cx)(st:Stmt)(t:TS):Prop:=
 ∀(pins:List (Addr×Obj)) (s:Shared) (σ:St) (H:Hp) (D:Ends),Inv X pins σ H s->t D σ H->wpAny (model X.prog X.w) X.A (exec st X.env) (SP X pins D) X.xe s
def kZ (X:Cx)(st:List Stmt)(t:TS):Prop:=
 ∀(pins:List (Addr×Obj)) (s:Shared) (σ:St) (H:Hp) (D:Ends),Inv X pins σ H s->t D σ H->wpAny (model X.prog X.w) X.A (execs st X.env) (SP X pins D) X.xe s
def bu {α:Type}{t:Sem α}{Q Q':α->Shared->Prop}{M8:Model}{A:Around}{E:Value->Shared->Prop}{s:Shared}(h:wpAny M8 A t Q E s)(hQ:∀a s,Q a s->Q' a s):wpAny M8 A t Q' E s:=wpAny_mono h hQ fun z z x=>x
section
variable{X:Cx}
def Ks (i:Nat):TE:=fun σ H Q=>∃v,σ[i]?=some (some v)/\Q v H
def tC (v:V):TE:=fun z H Q=>Q v H
def Ek {i:Nat}{x:Str}{pos:Pos}(hN:X.N[i]?=some x)(hv:KO X.env.scope x)(hd:(x==("__debug__":Str))=false:=by left)(hcd:(x==("__classdict__":Str))=false:=by left):PE X (.Name x pos) (Ks i):=by
 intro pins s σ H Q I h
 obtain⟨v,e,h⟩:=h
 obtain⟨m,hn,hl⟩:=I.loc
 obtain⟨u,r,l⟩:=hl i x v hN e hv
 have fin:EP X pins σ Q u s:=⟨v,H,I,r,h⟩
 rcases l with⟨hk,hm⟩|⟨hk,c,hc,qJ⟩
 . show wpAny_Name (wpAny_loadName_local I.ok.kind hk hn hm fin) hd
 . rcases hk with hk|hk
   . show wpAny_Name (wpAny_loadName_cell I.ok.kind hk hc qJ fin) hd
   . show wpAny_Name (wpAny_loadName_free I.ok.kind hk hc qJ fin hcd) hd
def Ed {i j pos}:PE X (.Constant (.int i) j pos) (tC (.int i)):=fun z z z H z I h=>wpAny_Constant_int ⟨.int i,H,I.tok _,⟨_,rfl⟩,h⟩
def Ju {b j pos}:PE X (.Constant (.bool b) j pos) (tC (.bl b)):=fun z z z H z I h=>Constant_bool ⟨.bl b,H,I,rfl,h⟩
def Ef {j pos}:PE X (.Constant .none j pos) (tC .br):=fun z z z H z I h=>Constant_none ⟨.br,H,I,rfl,h⟩
def Ei {x j pos}:PE X (.Constant (.str x) j pos) (tC (.str x)):=fun z z z H z I h=>Calls.Constant_str ⟨.str x,H,I.tok _,⟨_,rfl⟩,h⟩
def Gl (X:Cx)(x:Str):Prop:=X.env.kindOf x=some .globalImplicit
def iH {E:Value->Shared->Prop}{pins:List (Addr×Obj)}{s:Shared}{σ:St}{H:Hp}{x:Str}{u:Value}{pos:Pos}{Q:Value->Shared->Prop}(I:Inv X pins σ H s)(hg:Gl X x)(hm:X.mg x=some u)(h:Q u s)
   (hd:(x==("__debug__":Str))=false:=by left):wpAny (model X.prog X.w) X.A (eval (.Name x pos) X.env) Q E s:=
 adn I.ok.kind hg (Calls.loadGlobal_global (by rw[I.ok.glob];show I.mod.glob.keeps I.bk) hm h) hd
def eC {E:Value->Shared->Prop}{pins:List (Addr×Obj)}{s:Shared}{σ:St}{H:Hp}{x:Str}{u:Value}{pos:Pos}{Q:Value->Shared->Prop}(I:Inv X pins σ H s)(hg:Gl X x)(hm:X.mg x=none)(hv:aaR x=some u)(h:Q u s)
   (hn:x≠"__name__":=by left) (hd:(x==("__debug__":Str))=false:=by left):wpAny (model X.prog X.w) X.A (eval (.Name x pos) X.env) Q E s:=by
 obtain⟨mb,h1,h2⟩:=I.mod.blt
 show adn I.ok.kind hg (Calls.loadGlobal_builtin (by rw[I.ok.glob];show I.mod.glob.keeps I.bk) hm (by rw[I.ok.blt];show h1.keeps I.bk) ((h2 x hn).trans hv) h) hd
def zi {x:Str}{v:V}{u:Value}{pos:Pos}(hg:Gl X x)(hm:X.mg x=some u)(r:RelV v u)(hd:(x==("__debug__":Str))=false:=by left):PE X (.Name x pos) (tC v):=
 fun z z z H z I h=>iH I hg hm ⟨v,H,I,r,h⟩ hd
def zd {x:Str}{v:V}{u:Value}{pos:Pos}(hg:Gl X x)(hm:X.mg x=none)(hv:aaR x=some u)(r:RelV v u)(hn:x≠"__name__":=by left)(hd:(x==("__debug__":Str))=false:=by left):PE X (.Name x pos) (tC v):=
 fun z z z H z I h=>eC I hg hm hv ⟨v,H,I,r,h⟩ hn hd
variable{a b:Expr}{ta tb:TE}{pos:Pos}
def tB (t:TE):TT:=fun σ H Q=>t σ H fun x H1=>∃c,x=.bl c/\Q c H1
def Ez {e:Expr}{t:TE}(h:PE X e t)(he:∀whole,isTrue e X.env whole=(do let v←whole;standAt e.pos;holding [v] (truthy v)):=by intro _;rfl):PT X e (tB t):=by
 intro pins s σ H Q I hw
 show isTrue_plain (bu (h pins s σ H _ I hw) fun v s1 h9=>?_) (he _)
 obtain⟨x,H1,I1,r1,q1⟩:=h9
 obtain⟨d,rfl,q⟩:=q1
 cases r1
 show wpAny_truthy_bool ⟨H1,I1,q⟩
variable{tA L7:TT}{rest:List Expr}
def Kk (t u:TT):TT:=fun σ H Q=>t σ H fun c H1=>if c=true then u σ H1 Q else Q false H1
def TJ (t u:TT):TT:=fun σ H Q=>t σ H fun c H1=>if c=true then Q true H1 else u σ H1 Q
def Kp (t:TT):TT:=fun σ H Q=>t σ H fun c H1=>Q (!c) H1
def zN (ha:PT X a tA):PW X (.BoolOp .And [a] pos) tA:=by
 intro wh pins s σ H Q I h
 show isTrue_and (bu (ha pins s σ H Q I h) fun c s1 e=>?_)
 cases c with
 | true=>show isTrue_and_nil e
 | false=>show e
def EC (ha:PT X a tA):PW X (.BoolOp .Or [a] pos) tA:=by
 intro wh pins s σ H Q I h
 show isTrue_or (bu (ha pins s σ H Q I h) fun c s1 e=>?_)
 cases c with
 | false=>show isTrue_or_nil e
 | true=>show e
def EA (ha:PT X a tA)(hb:PW X (.BoolOp .And (b::rest) pos) L7):PW X (.BoolOp .And (a::b::rest) pos) (Kk tA L7):=by
 intro wh pins s σ H Q I h
 show isTrue_and (bu (ha pins s σ H _ I h) fun c s1 h9=>?_)
 obtain⟨H1,I1,q1⟩:=h9
 cases c with
 | true=>show hb wh pins s1 σ H1 Q I1 q1
 | false=>show⟨H1,I1,q1⟩
def JH (ha:PT X a tA)(hb:PW X (.BoolOp .Or (b::rest) pos) L7):PW X (.BoolOp .Or (a::b::rest) pos) (TJ tA L7):=by
 intro wh pins s σ H Q I h
 show isTrue_or (bu (ha pins s σ H _ I h) fun c s1 h9=>?_)
 obtain⟨H1,I1,q1⟩:=h9
 cases c with
 | true=>show⟨H1,I1,q1⟩
 | false=>show hb wh pins s1 σ H1 Q I1 q1
def Ey (ha:PT X a tA):PT X (.UnaryOp .Not a pos) (Kp tA):=by
 intro pins s σ H Q I h
 show isTrue_not (ha pins s σ H (fun c H1=>Q (!c) H1) I h)
def Bp (ta tb:TE):TE:=fun σ H Q=>ta σ H fun x H1=>∃c,x=.bl c/\if c=true then tb σ H1 Q else Q (.bl false) H1
def Kq (ta tb:TE):TE:=fun σ H Q=>ta σ H fun x H1=>∃c,x=.bl c/\if c=true then Q (.bl true) H1 else tb σ H1 Q
def By (ta:TE):TE:=fun σ H Q=>ta σ H fun x H1=>∃c,x=.bl c/\Q (.bl (!c)) H1
def Eh {op}{t:TE}(h:PE X a t):PE X (.BoolOp op [a] pos) t:=fun pins s σ H Q I hw=>BoolOp_one (h pins s σ H Q I hw)
def Ec (ha:PE X a ta)(hb:PE X (.BoolOp .And (b::rest) pos) tb):PE X (.BoolOp .And (a::b::rest) pos) (Bp ta tb):=by
 intro pins s σ H Q I h
 show BoolOp_and (bu (ha pins s σ H _ I h) fun v s1 h9=>?_)
 obtain⟨x,H1,I1,r1,q1⟩:=h9
 obtain⟨c,rfl,q1⟩:=q1
 cases r1
 show wpAny_truthy_bool ?_
 cases c with
 | true=>show hb pins s1 σ H1 Q I1 q1
 | false=>show⟨.bl false,H1,I1,rfl,q1⟩
def Jy (ha:PE X a ta)(hb:PE X (.BoolOp .Or (b::rest) pos) tb):PE X (.BoolOp .Or (a::b::rest) pos) (Kq ta tb):=by
 intro pins s σ H Q I h
 show BoolOp_or (bu (ha pins s σ H _ I h) fun v s1 h9=>?_)
 obtain⟨x,H1,I1,r1,q1⟩:=h9
 obtain⟨c,rfl,q1⟩:=q1
 cases r1
 show wpAny_truthy_bool ?_
 cases c with
 | false=>show hb pins s1 σ H1 Q I1 q1
 | true=>show⟨.bl true,H1,I1,rfl,q1⟩
def Eg (ha:PE X a ta):PE X (.UnaryOp .Not a pos) (By ta):=by
 intro pins s σ H Q I h
 show UnaryOp_ (bu (ha pins s σ H _ I h) fun v s1 h9=>?_)
 obtain⟨x,H1,I1,r1,q1⟩:=h9
 obtain⟨c,rfl,q1⟩:=q1
 cases r1
 show not_of (wpAny_truthy_bool ⟨.bl (!c),H1,I1,U,q1⟩)
def TH (t:TT)(ta tb:TE):TE:=fun σ H Q=>t σ H fun c H1=>if c=true then ta σ H1 Q else tb σ H1 Q
def wd {c:Expr}(hc:PT X c tA)(ha:PE X a ta)(hb:PE X b tb):PE X (.IfExp c a b pos) (TH tA ta tb):=by
 intro pins s σ H Q I h
 show wpAny_IfExp (bu (hc pins s σ H _ I h) fun d s1 h9=>?_)
 obtain⟨H1,I1,q1⟩:=h9
 cases d with
 | true=>show ha pins s1 σ H1 Q I1 q1
 | false=>show hb pins s1 σ H1 Q I1 q1
end
def aE (K:ZV)(H:Hp)(a:Addr)(xs:List V):Prop:=
 Rd H a (.lst xs) \/
   ∃(o:Obj) (its:Array Value) (n:Nat),K.lookup a=some o/\o.cls=.type "list"/\o.dict=none/\o.data=.seq its n/\its.size<=sizeLine/\Vals xs its.toList
def aN (K:ZV)(H:Hp)(a:Addr)(xs:List V):Prop:=
 Rd H a (.tup xs) \/
   ∃(o:Obj) (its:Array Value) (n:Nat),K.lookup a=some o/\o.cls=.type "tuple"/\o.data=.seq its n/\its.size<=sizeLine/\Vals xs its.toList
def Mn:Value->Option V
 | .none=>some .br
 | .bool b=>some (.bl b)
 | .int i _=>some (.int i)
 | .str x _=>some (.str x)
 | .bytes b _=>some (.byt b)
 | .float b _=>some (.flt b)
 | .ref a=>some (.ref a)
 | .type n=>some (.ty n)
 | _=>none
def RelV.abs {x:V}{u:Value}(r:RelV x u):Mn u=some x:=by
 cases x with
 | br=>cases r;rfl
 | bl _=>cases r;rfl
 | int _=>obtain⟨t,rfl⟩:=r;rfl
 | str _=>obtain⟨t,rfl⟩:=r;rfl
 | byt _=>obtain⟨t,rfl⟩:=r;rfl
 | flt _=>obtain⟨t,rfl⟩:=r;rfl
 | ref _=>cases r;rfl
 | ty _=>cases r;rfl
def RelV.inj {x y:V}{u:Value}(r:RelV x u)(q:RelV y u):x=y:=aas (r.abs.symm.trans q.abs)
theorem Vals.inj:∀{xs ys:List V} {us:List Value},Vals xs us->Vals ys us->xs=ys
 | _,_,_,.nil,.nil=>rfl
 | _,_,_,.cons r t,.cons r' t'=>by rw[r.inj r',Vals.inj t t']
section
variable{X:Cx}{pins:List (Addr×Obj)}{σ:St}{H:Hp}{s:Shared}{a:Addr}{xs ys:List V}
def aE.of {K:ZV}(h:H a=some (.lst xs)):aE K H a xs:=.inl (.inl h)
def aN.of {K:ZV}(h:H a=some (.tup xs)):aN K H a xs:=.inl (.inl h)
def Inv.list (I:Inv X pins σ H s)(h:aE X.K H a xs):∃its:List Value,Vals xs its/\PlainL s.heap a its.toArray/\xs.length<=sizeLine:=by
 rcases h with h|⟨o,its,n,hk,hc,hd,hs,hz,r⟩
 . obtain⟨z,its,n,r,e⟩:=h.ok I.hok
   show⟨its,r,⟨_,n,e,U,U,U⟩,z⟩
 . show⟨its.toList,r,⟨o,n,I.jk a o hk,hc,hd,by simpa using hs⟩,?_⟩
   have e:=r.length
   simp only[abz]at e
   lia
def Inv.tuple (I:Inv X pins σ H s)(h:aN X.K H a xs):∃its:List Value,Vals xs its/\IsTup s.heap a its.toArray/\xs.length<=sizeLine:=by
 rcases h with h|⟨o,its,n,hk,hc,hs,hz,r⟩
 . obtain⟨z,its,r,p⟩:=h.ok I.hok
   show⟨its,r,p,z⟩
 . show⟨its.toList,r,⟨o,I.jk a o hk,hc,n,by simpa using hs⟩,?_⟩
   have e:=r.length
   simp only[abz]at e
   lia
def Inv.jm (I:Inv X pins σ H s)(h:aE X.K H a xs)(h':aE X.K H a ys):xs=ys:=by
 obtain⟨its,r,⟨o,n,e,_,_,d⟩,_⟩:=I.list h
 obtain⟨its',r',⟨o',n',e',_,_,d'⟩,_⟩:=I.list h'
 rw[e]at e';cases e'
 rw[d]at d'
 injection d' with d1 _
 have:its=its':=by simpa using congrArg Array.toList d1
 subst this
 show r.inj r'
def Inv.kS (I:Inv X pins σ H s)(h:aN X.K H a xs)(h':aN X.K H a ys):xs=ys:=by
 obtain⟨its,r,⟨o,e,_,n,d⟩,_⟩:=I.tuple h
 obtain⟨its',r',⟨o',e',_,n',d'⟩,_⟩:=I.tuple h'
 rw[e]at e';cases e'
 rw[d]at d'
 injection d' with d1 _
 have:its=its':=by simpa using congrArg Array.toList d1
 subst this
 show r.inj r'
end
abbrev Cx.jZ (X:Cx)(E:Value->Shared->Prop):Cx:={X with xe:=E}
abbrev Cx.IC (X:Cx):Cx:=X.jZ fun _ _=>False
def Cx.Ok.jZ {X:Cx}(ok:X.Ok)(E:Value->Shared->Prop):(X.jZ E).Ok:=
 ⟨ok.mod,ok.kind,ok.glob,ok.blt,ok.above,ok.inj,ok.has,ok.cab,ok.hd,ok.frames,ok.stk,ok.exf,ok.bs,ok.bsz,ok.noex,ok.exfs,ok.fL,ok.frf⟩
def Cx.Ok.eK {X:Cx}{E:Value->Shared->Prop}(ok:(X.jZ E).Ok):X.Ok:=
 ⟨ok.mod,ok.kind,ok.glob,ok.blt,ok.above,ok.inj,ok.has,ok.cab,ok.hd,ok.frames,ok.stk,ok.exf,ok.bs,ok.bsz,ok.noex,ok.exfs,ok.fL,ok.frf⟩
section
variable{X:Cx}{pins:List (Addr×Obj)}{σ:St}{H:Hp}{s:Shared}{E:Value->Shared->Prop}
def Inv.jZ (I:Inv X pins σ H s)(E:Value->Shared->Prop):Inv (X.jZ E) pins σ H s:=⟨I.ok.jZ E,I.os,I.bare,I.base,I.loc,I.cell,I.free,I.freeC,I.pin,I.hok,I.len⟩
def Inv.eK (I:Inv (X.jZ E) pins σ H s):Inv X pins σ H s:=⟨I.ok.eK,I.os,I.bare,I.base,I.loc,I.cell,I.free,I.freeC,I.pin,I.hok,I.len⟩
theorem SP.eK {D:Ends}{f:Flow}{s':Shared}(h:SP (X.jZ E) pins D f s'):SP X pins D f s':=by
 cases f with
 | next=>obtain⟨σ',H',I,q⟩:=h;show⟨σ',H',I.eK,q⟩
 | brk=>obtain⟨σ',H',I,q⟩:=h;show⟨σ',H',I.eK,q⟩
 | cont=>obtain⟨σ',H',I,q⟩:=h;show⟨σ',H',I.eK,q⟩
 | ret u=>obtain⟨v,σ',H',I,r,q⟩:=h;show⟨v,σ',H',I.eK,r,q⟩
def kZ.IC {st:List Stmt}{t:TS}(h:kZ X.IC st t):kZ X st t:=fun pins s σ H D I hw=>
 wpAny_mono (h pins s σ H D (I.jZ _) hw) (fun y y q=>q.eK) fun y y z=>abD z
end
section
variable{X:Cx}{st:Stmt}{rest:List Stmt}{t u:TS}{e:Expr}{te:TE}{pos:Pos}
def Bw:TS:=fun D σ H=>D.nx σ H
def p9 (t u:TS):TS:=fun D σ H=>t {D with nx:=u D} σ H
def zH:kZ X [] Bw:=fun z z σ H z I h=>acS ⟨σ,H,I,h⟩
def wx (h1:PS X st t)(h2:kZ X rest u):kZ X (st::rest) (p9 t u):=by
 intro pins s σ H D I h
 show wpAny_execs_cons (bu (h1 pins s σ H {D with nx:=u D} I h) fun f s1 q=>?_)
 cases f with
 | next=>
   obtain⟨σ',H',I',q⟩:=q
   show h2 pins s1 σ' H' D I' q
 | ret v=>show q
 | brk=>show q
 | cont=>show q
def zJ (h1:PS X st t):kZ X [st] t:=by
 intro pins s σ H D I h
 show wpAny_execs_cons (bu (h1 pins s σ H D I h) fun f s1 q=>?_)
 cases f with
 | next=>show acS q
 | ret v=>show q
 | brk=>show q
 | cont=>show q
def Inv.quiet {pins:List (Addr×Obj)}{σ:St}{H:Hp}{s:Shared}(I:Inv X pins σ H s):interactive X.env=false:=by simp[interactive,I.ok.kind]
def Bv (te:TE):TS:=fun D σ H=>te σ H fun z H1=>D.nx σ H1
def zD (he:PE X e te)(hs:abY e none pos.line X.env=pure false:=by rfl):PS X (.Expr e pos) (Bv te):=by
 intro pins s σ H D I h
 show wpAny_Expr_any (bu (he pins s σ H _ I h) fun v s1 h9=>?_) I.quiet hs
 obtain⟨x,H1,I1,r1,q1⟩:=h9
 show⟨σ,H1,I1,q1⟩
def Kr (te:TE):TS:=fun D σ H=>te σ H D.rt
def Eu (he:PE X e te):PS X (.Return (some e) pos) (Kr te):=by
 intro pins s σ H D I h
 show wpAny_Return_some (bu (he pins s σ H _ I h) fun v s1 h9=>?_)
 obtain⟨x,H1,I1,r1,q1⟩:=h9
 show⟨x,σ,H1,I1,r1,q1⟩
def Ko (c:TT)(t u:TS):TS:=fun D σ H=>c σ H fun b H1=>if b=true then t D σ H1 else u D σ H1
def JF {c:Expr}{a b:List Stmt}{tc:TT}(hc:PT X c tc)(ha:kZ X a t)(hb:kZ X b u):PS X (.If c a b pos) (Ko tc t u):=by
 intro pins s σ H D I h
 show wpAny_If (bu (hc pins s σ H _ I h) fun d s1 h9=>?_)
 obtain⟨H1,I1,q1⟩:=h9
 cases d with
 | true=>show ha pins s1 σ H1 D I1 q1
 | false=>show hb pins s1 σ H1 D I1 q1
def xu:TS:=fun z z z=>False
def tU {X8:List Stmt}:kZ X X8 xu:=fun z z z z z z h=>h.elim
end
abbrev TG:=V->St->Hp->(St->Hp->Prop)->Prop
abbrev rX:=List V->St->Hp->(St->Hp->Prop)->Prop
def PG (X:Cx)(target:Expr)(t:TG):Prop:=
 ∀(pins:List (Addr×Obj)) (s:Shared) (σ:St) (H:Hp) (v:V) (u:Value) (Q:St->Hp->Prop),Inv X pins σ H s->RelV v u->t v σ H Q ->
   wpAny (model X.prog X.w) X.A (assign target X.env u) (fun z s'=>∃σ' H',Inv X pins σ' H' s'/\Q σ' H') X.xe s
def Fz (X:Cx)(ts:List Expr)(t:rX):Prop:=
 ∀(pins:List (Addr×Obj)) (s:Shared) (σ:St) (H:Hp) (vs:List V) (us:List Value) (Q:St->Hp->Prop),Inv X pins σ H s->Vals vs us->t vs σ H Q ->
   wpAny (model X.prog X.w) X.A (assignInOrder ((assignEach ts X.env).map (·.2)) us) (fun z s'=>∃σ' H',Inv X pins σ' H' s'/\Q σ' H') X.xe s
abbrev B3:=V->V->V->Hp->(Hp->Prop)->Prop
def Gp (X:Cx)(t:B3):Prop:=
 ∀(pins:List (Addr×Obj)) (s:Shared) (σ:St) (H:Hp) (o i v:V) (ov iv u:Value) (Q:Hp->Prop),Inv X pins σ H s->RelV o ov->RelV i iv->RelV v u->t o i v H Q ->
   wpAny (model X.prog X.w) X.A (setItem ov iv u) (fun z s'=>∃H',Inv X pins σ H' s'/\Q H') X.xe s
abbrev KN:=V->V->Hp->VK->Prop
def Qy (X:Cx)(op:Operator)(t:KN):Prop:=
 ∀(pins:List (Addr×Obj)) (s:Shared) (σ:St) (H:Hp) (x y:V) (v u:Value) (Q:VK),Inv X pins σ H s->RelV x v->RelV y u->t x y H Q ->
   wpAny (model X.prog X.w) X.A (inplaceOp op v u) (EP X pins σ Q) X.xe s
section
variable{X:Cx}{pos:Pos}
def dq (i:Nat):TG:=fun v σ H Q=>Q (σ.set i (some v)) H
def zj {i:Nat}{x:Str}(hN:X.N.Nodup)(hi:X.N[i]?=some x)(hx:Loc X.env.scope x)(hf:X.fn x=true\/X.env.scope.names.lookup x=some .local:=by first|show .inl rfl|show .inr rfl|assumption):PG X (.Name x pos) (dq i):=by
 intro pins s σ H v u Q I r h
 show wpAny_assign_Name (cG I hN hi hx r (fun s' I'=>⟨_,H,I',h⟩) hf)
def yj:rX:=fun vs σ H Q=>vs=[]/\Q σ H
def jc (t:TG)(u:rX):rX:=fun vs σ H Q=>∃v r,vs=v::r/\t v σ H fun σ' H'=>u r σ' H' Q
def zk:Fz X [] yj:=by
 intro pins s σ H vs us Q I r h
 obtain⟨e,h⟩:=h
 subst e
 cases r
 show adp ⟨σ,H,I,h⟩
def we {e:Expr}{es:List Expr}{t:TG}{u:rX}(h1:PG X e t)(h2:Fz X es u)
   (hs:(assignEach (e::es) X.env).map (·.2)=assign e X.env::(assignEach es X.env).map (·.2):=by rfl):Fz X (e::es) (jc t u):=by
 intro pins s σ H vs us Q I r h
 obtain⟨v,vr,e1,h⟩:=h
 subst e1
 cases r with
 | cons r rr=>
   rw[hs]
   show assignInOrder_cons (bu (h1 pins s σ H _ _ _ I r h) fun z s1 h9=>?_)
   obtain⟨σ1,H1,I1,q1⟩:=h9
   show h2 pins s1 σ1 H1 _ _ Q I1 rr q1
def ym (K:ZV)(n:Nat)(t:rX):TG:=fun v σ H Q=>∃a xs,v=.ref a/\aN K H a xs/\xs.length=n/\t xs σ H Q
def Em {es:List Expr}{k:Nat}{t:rX}{n:Nat}(hc:X.calm=true)(h:Fz X es t)
   (hn:(assignEach es X.env).length=n:=by rfl) (hst:(assignEach es X.env).findIdx? (·.1)=none:=by rfl):PG X (.Tuple es k pos) (ym X.K n t):=by
 intro pins s σ H v u Q I r hw
 obtain⟨a,xs,e1,hq,hl,hw⟩:=hw
 subst e1
 cases r
 obtain⟨its,rv,ht,hz⟩:=I.tuple hq
 show assign_Tuple_tuple (I.ok.hd hc) ht (by simp[hn,← hl,rv.length]) hst fun h' hx=>?_
 have I1:Inv X pins σ H {s with heap:=h'}:=I.kept (t':=s.toks) fun b o e=>hx b o (aaf (Z7 e)) e
 show h pins _ σ H xs _ Q I1 (by simpa using rv) hw
def yk (to ti:TE)(t:B3):TG:=fun v σ H Q=>to σ H fun o H1=>ti σ H1 fun i H2=>t o i v H2 fun H3=>Q σ H3
def pK {o i:Expr}{to ti:TE}{t:B3}(ho:PE X o to)(hi:PE X i ti)(hs:Gp X t)
   (ha:∀v,assign (.Subscript o i pos) X.env v=(do
     let ov←holding [v] (eval o X.env)
     let iv←holding [v,ov] (eval i X.env)
     standAt pos
     holding [v,ov,iv] (setItem ov iv v)
     release [v,ov,iv] []):=by intro _;rfl):PG X (.Subscript o i pos) (yk to ti t):=by
 intro pins s σ H v u Q I r h
 rw[ha]
 show wpAny_bind (wpAny_holding (bu (ho pins s σ H _ I h) fun ov s1 h9=>?_))
 obtain⟨x,H1,I1,r1,q1⟩:=h9
 show wpAny_bind (wpAny_holding (bu (hi pins s1 σ H1 _ I1 q1) fun iv s2 h9=>?_))
 obtain⟨y,H2,I2,r2,q2⟩:=h9
 show wpAny_bind (wpAny_standAt (wpAny_bind (wpAny_holding (bu (hs pins s2 σ H2 x y v ov iv u _ I2 r1 r2 r q2) fun z s3 h9=>?_))))
 obtain⟨H3,I3,q3⟩:=h9
 show wpAny_release ⟨σ,H3,I3,q3⟩
def n6 (te:TE)(g:TG):TS:=fun D σ H=>te σ H fun x H1=>g x σ H1 D.nx
def Er {tg e:Expr}{te:TE}{g:TG}(he:PE X e te)(hg:PG X tg g)(hs:abw [tg] e pos.line X.env=pure false:=by rfl)(hw:abx [tg] e X.env=pure none:=by rfl)
   (h1:(assignEach [tg] X.env).map (·.2)=[assign tg X.env]:=by rfl):PS X (.Assign [tg] e pos) (n6 te g):=by
 intro pins s σ H D I h
 show wpAny_Assign_stores (bu (he pins s σ H _ I h) fun v s1 h9=>?_) hs hw
 obtain⟨x,H1,I1,r1,q1⟩:=h9
 rw[h1]
 show bu (hg pins s1 σ H1 x v _ I1 r1 q1) fun z s2 q=>q
def Ew {i:Nat}{x:Str}{e:Expr}{te:TE}{pos':Pos}(hN:X.N.Nodup)(hi:X.N[i]?=some x)(hx:Loc X.env.scope x)(he:PE X e te)(hs:abY e (some (.Name x pos')) pos.line X.env=pure false:=by rfl)(hf:X.fn x=true\/X.env.scope.names.lookup x=some .local:=by first|show .inl rfl|show .inr rfl|assumption) :
   PS X (.Assign [.Name x pos'] e pos) (n6 te (dq i)):=by
 intro pins s σ H D I h
 show wpAny_Assign_Name (bu (he pins s σ H _ I h) fun v s1 h9=>?_) hs
 obtain⟨y,H1,I1,r1,q1⟩:=h9
 show cG I1 hN hi hx r1 (fun s2 I2=>⟨_,H1,I2,q1⟩) hf
def Kl (i:Nat)(te:TE)(ti:KN):TS:=fun D σ H=>∃x,σ[i]?=some (some x)/\te σ H fun y H1=>ti x y H1 fun z H2=>D.nx (σ.set i (some z)) H2
def Es {i:Nat}{x:Str}{e:Expr}{te:TE}{op:Operator}{ti:KN}{pos':Pos}(hN:X.N.Nodup)(hi:X.N[i]?=some x)(hx:Loc X.env.scope x)(he:PE X e te)(ho:Qy X op ti)(hf:X.fn x=true\/X.env.scope.names.lookup x=some .local:=by first|show .inl rfl|show .inr rfl|assumption) :
   PS X (.AugAssign (.Name x pos') op e pos) (Kl i te ti):=by
 intro pins s σ H D I h
 obtain⟨v,e1,h⟩:=h
 obtain⟨m,hn,hl⟩:=I.loc
 have Yl:KO X.env.scope x:=by rcases hx with k|k;show .inl k;show .inr (.inl k)
 obtain⟨u,r,l⟩:=hl i x v hi e1 Yl
 show wpAny_AugAssign_Name ?_
 have go:wpAny (model X.prog X.w) X.A (eval e X.env) (fun w s₂=>wpAny (model X.prog X.w) X.A (inplaceOp op u w) (fun r s₃=>wpAny (model X.prog X.w) X.A (storeName X.env x r) (fun t=>SP X pins D .next) X.xe s₃) X.xe s₂) X.xe s:=by
   show bu (he pins s σ H _ I h) fun w s1 h9=>?_
   obtain⟨y,H1,I1,r1,q1⟩:=h9
   show bu (ho pins s1 σ H1 v y u w _ I1 r r1 q1) fun z s2 h9=>?_
   obtain⟨zv,H2,I2,r2,q2⟩:=h9
   show cG I2 hN hi hx r2 (fun s3 I3=>⟨_,H2,I3,q2⟩) hf
 rcases l with⟨hk,hm⟩|⟨hk,c,hc,qJ⟩
 . show wpAny_loadName_local I.ok.kind hk hn hm go
 . rcases hk with hk|hk
   . show wpAny_loadName_cell I.ok.kind hk hc qJ go
   . rcases hx with k|k
     . have:X.env.scope.names.lookup x=some .free:=hk
       rw[k]at this;cases this
     . have:X.env.scope.names.lookup x=some .free:=hk
       rw[k]at this;cases this
def RX (f:Int->Int->Int):KN:=fun x y H Q=>∃i j,x=.int i/\y=.int j/\Q (.int (f i j)) H
def C7:Qy X .Add (RX fun i j=>i+j):=by
 intro pins s σ H x y v u Q I r1 r2 h
 obtain⟨i,j,e1,e2,q⟩:=h
 subst e1;subst e2
 obtain⟨t,rfl⟩:=r1
 obtain⟨t',rfl⟩:=r2
 show iadd_int ⟨.int _,H,I.tok _,⟨_,U⟩,q⟩
end
structure It where
 go:Nat->Hp->Prop
 yld:Nat->Hp->V->Hp->Prop
 stop:Nat->Hp->Prop
def dG (X:Cx)(pins:List (Addr×Obj))(H:Hp)(b:Addr):Prop:=
 H b=none/\b≠X.env.locals/\b∉X.fs/\(b∈X.ex\/X.s₀.heap.objs.size<=b)/\(∀x c,X.env.cells.lookup x=some c->c≠b)/\∀p∈X.pn++pins,p.1≠b
def Inv.jP {X:Cx}{pins:List (Addr×Obj)}{σ:St}{H H':Hp}{s:Shared}{b:Addr}(I:Inv X pins σ H s)(hb:s.heap.objs.size<=b)(hn:H' b=none):dG X pins H' b:=by
 show⟨hn,acb (aak I.lt hb),I.OW hb,.inr (aar I.sz hb),fun x c e z=>?_,fun p hp z=>?_⟩
 . obtain⟨v,q⟩:=I.cell x c e
   show aB (aak q.lt (by rw[z];show hb)) (aba _)
 . show aB (aak (Z7 (I.pin p hp).1) (by rw[z];show hb)) (aba _)
structure Turn (P:Program)(w:World)(K:ZV)(tg:Expr)(J:It)(fp:List Addr)(it:Addr)(tn:Nat->Heap->Prop):Prop where
 mem:it∈fp
 obj:∀i h,tn i h->∀b∈fp,∃o,h.get? b=some o/\∀v,o.data≠.cell v
 keep:∀i h h',tn i h->(∀b∈fp,∀o,h.get? b=some o->h'.get? b=some o)->tn i h'
 item:∀(X:Cx),X.prog=P->X.w=w->X.K=K->X.calm=true->∀(i:Nat) (pins:List (Addr×Obj)) (s:Shared) (σ:St) (H:Hp) (E:Value->Shared->Prop),Inv X pins σ H s->(∀b∈fp,dG X pins H b)->tn i s.heap->J.go i H ->
   wpAny (model P w) X.A (pyNext (.ref it)) (fun r s1=>∃u,r=some u /\
     wpAny (model P w) X.A (letOwnedTupleGo tg (.ref it) u) (fun _ s2=>∃x H',Inv X pins σ H' s2/\RelV x u/\J.yld i H x H'/\tn (i+1) s2.heap/\∀b∈fp,H' b=none) E s1) E s
 done:∀(X:Cx),X.prog=P->X.w=w->X.K=K->X.calm=true->∀(i:Nat) (pins:List (Addr×Obj)) (s:Shared) (σ:St) (H:Hp) (E:Value->Shared->Prop),Inv X pins σ H s->(∀b∈fp,dG X pins H b)->tn i s.heap->J.stop i H ->
   wpAny (model P w) X.A (pyNext (.ref it)) (fun r s1=>r=none/\Inv X pins σ H s1) E s
 self:∀(A:Around) (i:Nat) (s:Shared) (Q:Value->Shared->Prop) (E:Value->Shared->Prop),tn i s.heap->Q (.ref it) s->wpAny (model P w) A (pyIter (.ref it)) Q E s
abbrev TI:=St->Hp->(It->Hp->Prop)->Prop
def Qx (X:Cx)(pins:List (Addr×Obj))(σ:St)(tg:Expr)(R:It->Hp->Prop)(itv:Value)(s2:Shared):Prop:=
 ∃(it:Addr) (fp:List Addr) (tn:Nat->Heap->Prop) (J:It) (H':Hp),itv=.ref it/\Inv X pins σ H' s2/\Turn X.prog X.w X.K tg J fp it tn/\tn 0 s2.heap/\(∀b∈fp,dG X pins H' b)/\R J H'
def PI (X:Cx)(tg iter:Expr)(wi:TI):Prop:=
 ∀(pins:List (Addr×Obj)) (s:Shared) (σ:St) (H:Hp) (R:It->Hp->Prop),Inv X pins σ H s->wi σ H R ->
   wpAny (model X.prog X.w) X.A (eval iter X.env) (fun v s1=>wpAny (model X.prog X.w) X.A (pyIter v) (Qx X pins σ tg R) X.xe s1) X.xe s
def uY {M8:Model}{A:Around}{E:Value->Shared->Prop}{s:Shared}{tg:Expr}{it:Addr}{u:Value}{o:Obj}{n:String}{vs:Array Value}{Q:Unit->Shared->Prop}(ho:s.heap.get? it=some o)(hc:o.cls=.type n)(hd:o.data=.fields vs)
   (hn:["enumerate","zip","dict_itemiterator","dict_reverseitemiterator","odict_iterator","itertools.zip_longest","itertools.pairwise"].contains n=false) (hQ:Q () s):wpAny M8 A (letOwnedTupleGo tg (.ref it) u) Q E s:=by
 unfold letOwnedTupleGo
 cases tg<;>first
   | show wpAny_pure hQ
   | (cases u<;>first
       | show wpAny_pure hQ
       | (show wpAny_bind (wpAny_load ho ?_)
          rw[hc,hd]
          change wpAny M8 A (if(["enumerate","zip","dict_itemiterator","dict_reverseitemiterator","odict_iterator","itertools.zip_longest","itertools.pairwise"].contains n&&vs[0]?==some (rawInt _))=true then _ else _) Q E s
          rw[aQ (by intro h;rw[hn,Bool.false_and]at h;cases h)]
          show wpAny_pure hQ))
def Fv (K:ZV)(a:Addr):It:=
 ⟨fun i H=>∃xs x,aE K H a xs/\xs[i]?=some x,fun i H x H'=>H'=H/\∀xs,aE K H a xs->xs[i]?=some x,fun i H=>∃xs,aE K H a xs/\xs.length<=i⟩
def Fw (K:ZV)(a:Addr):It:=
 ⟨fun i H=>∃xs x,aN K H a xs/\xs[i]?=some x,fun i H x H'=>H'=H/\∀xs,aN K H a xs->xs[i]?=some x,fun i H=>∃xs,aN K H a xs/\xs.length<=i⟩
def BV (lo:Int)(n:Nat):It:=⟨fun i z=>i<n,fun i H x H'=>H'=H/\x=.int (lo+i),fun i z=>n<=i⟩
def ui {P:Program}{w:World}{K:ZV}{tg:Expr}(a it:Addr):Turn P w K tg (Fv K a) [it] it (fun i h=>h.IsListIter it a i) where
 mem:=by simp
 obj:=fun i h st b hb=>by
   have e:b=it:=by simpa using hb
   subst e
   obtain⟨o,e,c,d⟩:=st
   show⟨o,e,fun v z=>by rw[d]at z;cases z⟩
 keep:=fun i h h' st k=>st.at fun o e=>k it (by simp) o e
 item:=by
   intro X hP hw hK hc i pins s σ H E I hf st hg
   subst hP hw hK
   obtain⟨xs,x,hq,hx⟩:=hg
   obtain⟨its,rv,p,hz⟩:=I.list hq
   obtain⟨u,hu,ru⟩:=rv.get hx
   obtain⟨f0,f1,f2,f3,f4,f5⟩:=hf it (by simp)
   show wpAny_pyNext_list_item st p.isList (x:=u) (by simpa using hu) fun h' bW sb=>?_
   have I1:Inv X pins σ H {s with heap:=h'}:=I.turned (t':=s.toks) (fun b o hb e=>(sb.2 b hb).trans e) f0 f1 f3 f4 f5
   obtain⟨o,e,c,d⟩:=id bW
   show⟨u,U,uY (s:={s with heap:=h'}) e c d (by left) ⟨x,H,I1,ru,⟨U,fun ys hy=>by rw[I.jm hy hq];show hx⟩,bW,fun b hb=>(hf b hb).1⟩⟩
 done:=by
   intro X hP hw hK hc i pins s σ H E I hf st hg
   subst hP hw hK
   obtain⟨xs,hq,hx⟩:=hg
   obtain⟨its,rv,p,hz⟩:=I.list hq
   obtain⟨f0,f1,f2,f3,f4,f5⟩:=hf it (by simp)
   have hl:=rv.length
   show wpAny_pyNext_list_end (I.ok.hd hc) st p.isList (by simp;lia) fun h' eb=>⟨U,I.turned (t':=s.toks) (fun b o hb e=>eb b o hb e) f0 f1 f3 f4 f5⟩
 self:=fun y y y y y st h=>wpAny_pyIter_listiter st h
def qe {P:Program}{w:World}{K:ZV}{tg:Expr}(a it:Addr):Turn P w K tg (Fw K a) [it] it (fun i h=>h.IsTupleIter it a i) where
 mem:=by simp
 obj:=fun i h st b hb=>by
   have e:b=it:=by simpa using hb
   subst e
   obtain⟨o,e,c,d⟩:=st
   show⟨o,e,fun v z=>by rw[d]at z;cases z⟩
 keep:=fun i h h' st k=>st.at fun o e=>k it (by simp) o e
 item:=by
   intro X hP hw hK hc i pins s σ H E I hf st hg
   subst hP hw hK
   obtain⟨xs,x,hq,hx⟩:=hg
   obtain⟨its,rv,p,hz⟩:=I.tuple hq
   obtain⟨u,hu,ru⟩:=rv.get hx
   obtain⟨f0,f1,f2,f3,f4,f5⟩:=hf it (by simp)
   show wpAny_pyNext_tuple_item st (show s.heap.IsTuple a its.toArray from p) (x:=u) (by simpa using hu) fun h' bW sb=>?_
   have I1:Inv X pins σ H {s with heap:=h'}:=I.turned (t':=s.toks) (fun b o hb e=>(sb.2 b hb).trans e) f0 f1 f3 f4 f5
   obtain⟨o,e,c,d⟩:=id bW
   show⟨u,U,uY (s:={s with heap:=h'}) e c d (by left) ⟨x,H,I1,ru,⟨U,fun ys hy=>by rw[I.kS hy hq];show hx⟩,bW,fun b hb=>(hf b hb).1⟩⟩
 done:=by
   intro X hP hw hK hc i pins s σ H E I hf st hg
   subst hP hw hK
   obtain⟨xs,hq,hx⟩:=hg
   obtain⟨its,rv,p,hz⟩:=I.tuple hq
   obtain⟨f0,f1,f2,f3,f4,f5⟩:=hf it (by simp)
   have hl:=rv.length
   show wpAny_pyNext_tuple_end (I.ok.hd hc) st (show s.heap.IsTuple a its.toArray from p) (by simp;lia) fun h' eb=>⟨U,I.turned (t':=s.toks) (fun b o hb e=>eb b o hb e) f0 f1 f3 f4 f5⟩
 self:=fun y y y y y st h=>wpAny_pyIter_tupleiter st h
def qd {P:Program}{w:World}{K:ZV}{tg:Expr}(it:Addr)(lo:Int)(n:Nat):Turn P w K tg (BV lo n) [it] it (fun i h=>IsRangeIter h it (lo+(i:Nat)*1) ((n:Int)-(i:Nat)) 1) where
 mem:=by simp
 obj:=fun i h st b hb=>by
   have e:b=it:=by simpa using hb
   subst e
   show⟨_,st,fun v z=>by
     have z':Data.fields _=Data.cell v:=z
     cases z'⟩
 keep:=fun i h h' st k=>k it (by simp) _ st
 item:=by
   intro X hP hw hK hc i pins s σ H E I hf st hg
   subst hP hw hK
   obtain⟨f0,f1,f2,f3,f4,f5⟩:=hf it (by simp)
   have W:=Walks.range (prog:=X.prog) (w:=X.w) (I.ok.hd hc) it lo 1 n
   show W.item i s _ _ hg st fun v h' tk hv bW kk=>?_
   obtain⟨t,rfl⟩:=hv
   have I1:Inv X pins σ H {s with heap:=h',toks:=tk}:=I.turned (fun b o hb e=>kk b o (by simpa using hb) e) f0 f1 f3 f4 f5
   show⟨_,U,uY (s:={s with heap:=h',toks:=tk}) (n:="range_iterator") bW rfl rfl (by left) ⟨.int (lo+i),H,I1,⟨t,?_⟩,⟨U,U⟩,bW,fun b hb=>(hf b hb).1⟩⟩
   rw[adA]
 done:=by
   intro X hP hw hK hc i pins s σ H E I hf st hg
   subst hP hw hK
   obtain⟨f0,f1,f2,f3,f4,f5⟩:=hf it (by simp)
   show wpAny_pyNext_range_end (I.ok.hd hc) st (by have:n<=i:=hg;lia) fun h' eb=>⟨U,I.turned (t':=s.toks) (fun b o hb e=>eb b o hb e) f0 f1 f3 f4 f5⟩
 self:=fun y y y y y st h=>wpAny_pyIter_rangeiter st h
section
variable{X:Cx}{tg:Expr}
def AH (K:ZV)(tl:TE):TI:=fun σ H R=>tl σ H fun x H1=>∃a,x=.ref a/\(∃xs,aE K H1 a xs)/\R (Fv K a) H1
def Ia (K:ZV)(tl:TE):TI:=fun σ H R=>tl σ H fun x H1=>∃a,x=.ref a/\(∃xs,aN K H1 a xs)/\R (Fw K a) H1
def zo {l:Expr}{tl:TE}(hl:PE X l tl):PI X tg l (AH X.K tl):=by
 intro pins s σ H R I h
 show bu (hl pins s σ H _ I h) fun v s1 h9=>?_
 obtain⟨x,H1,I1,r1,q1⟩:=h9
 obtain⟨a,e,⟨xs,hq⟩,q⟩:=q1
 subst e
 cases r1
 obtain⟨its,rv,p,hz⟩:=I1.list hq
 show wpAny_pyIter_list p.isList ?_
 show⟨s1.heap.objs.size,[s1.heap.objs.size],_,_,H1,U,I1.kept (t':=s1.toks) fun b o e=>ZX _ e,ui a _,⟨_,Z6 _ rfl,U,U⟩,fun b hb=>?_,q⟩
 have e:b=s1.heap.objs.size:=by simpa using hb
 subst e
 show I1.jP (Z0 _) (I1.hok.fresh (Z0 _))
def Eo {l:Expr}{tl:TE}(hl:PE X l tl):PI X tg l (Ia X.K tl):=by
 intro pins s σ H R I h
 show bu (hl pins s σ H _ I h) fun v s1 h9=>?_
 obtain⟨x,H1,I1,r1,q1⟩:=h9
 obtain⟨a,e,⟨xs,hq⟩,q⟩:=q1
 subst e
 cases r1
 obtain⟨its,rv,p,hz⟩:=I1.tuple hq
 show wpAny_pyIter_tuple (show s1.heap.IsTuple a its.toArray from p) ?_
 show⟨s1.heap.objs.size,[s1.heap.objs.size],_,_,H1,U,I1.kept (t':=s1.toks) fun b o e=>ZX _ e,qe a _,⟨_,Z6 _ rfl,U,U⟩,fun b hb=>?_,q⟩
 have e:b=s1.heap.objs.size:=by simpa using hb
 subst e
 show I1.jP (Z0 _) (I1.hok.fresh (Z0 _))
def wI {pins:List (Addr×Obj)}{σ:St}{H:Hp}{s:Shared}{R:It->Hp->Prop}{E:Value->Shared->Prop}{lo hi:Int}{t u v:Tok}{tk:Nat}(I:Inv X pins σ H s)(h1 : -(2^62)<=lo)(h2:lo<2^62)(h3 : -(2^62)<=hi)(h4:hi<2^62)
   (q:R (BV lo (hi-lo).toNat) H):wpAny (model X.prog X.w) X.A (pyIter (.ref s.heap.objs.size)) (Qx X pins σ tg R) E {s with heap:=s.heap.push {cls:=.type "range",data:=.fields #[.int lo t,.int hi u,.int 1 v]},toks:=tk}:=by
 show wpAny_pyIter_range (IsRange.new ..) (small_one h1 h2 h3 h4) ?_
 have I1:Inv X pins σ H {s with heap:=s.heap.push {cls:=.type "range",data:=.fields #[.int lo t,.int hi u,.int 1 v]},toks:=tk}:=I.kept fun b o e=>ZX _ e
 show⟨(s.heap.push {cls:=.type "range",data:=.fields #[.int lo t,.int hi u,.int 1 v]}).objs.size,[(s.heap.push {cls:=.type "range",data:=.fields #[.int lo t,.int hi u,.int 1 v]}).objs.size],_,_,H,rfl,
   I1.kept (t':=tk) fun b o e=>ZX _ e,qd _ lo (hi-lo).toNat,?_,fun b hb=>?_,q⟩
 . have e1:lo+((0:Nat):Int)*1=lo:=by simp
   have e2:(((hi-lo).toNat:Nat):Int)-((0:Nat):Int)=ab0 lo hi 1:=by rw[rangeSize_one];split<;>lia
   change IsRangeIter _ _ (lo+((0:Nat):Int)*1) ((((hi-lo).toNat:Nat):Int)-((0:Nat):Int)) 1
   rw[e1,e2]
   show Z6 _ rfl
 . have e:b=(s.heap.push {cls:=.type "range",data:=.fields #[.int lo t,.int hi u,.int 1 v]}).objs.size:=by simpa using hb
   subst e
   show I1.jP (Z0 _) (I1.hok.fresh (Z0 _))
def vm (ta:TA):TI:=fun σ H R=>ta σ H fun vs H1=>∃j:Int,vs=[.int j]/\-(2^62)<=j/\j<2^62/\R (BV 0 j.toNat) H1
def tS {a:Expr}{ta:TA}{p pos:Pos}(hg:Gl X "range")(hm:X.mg "range"=none)(ha:PA X [a] ta)(hs:starEach [a] X.env=[(false,eval a X.env)]:=by rfl):PI X tg (.Call (.Name "range" p) [a] [] pos) (vm ta):=by
 intro pins s σ H R I h
 show Call_ (eC I hg hm boot_range (aaF (bu (ha pos pins s σ H _ I h) fun us s1 h9=>?_) hs rfl))
 obtain⟨vs,H1,I1,r1,q1⟩:=h9
 obtain⟨j,e,q1,q2,q⟩:=q1
 subst e
 cases r1 with
 | cons r rr=>
   cases rr
   obtain⟨t,rfl⟩:=r
   show call_range_1 (wI I1 (by lia) (by lia) q1 q2 (by simpa using q))
def Km (wi:TI)(g:TG)(tb:TS):TS:=fun D σ H=>wi σ H fun J H1=>∃W:Nat->Nat->St->Hp->Prop,(∃m,W 0 m σ H1)/\∀i m σ H,W i m σ H ->
 (J.stop i H/\D.nx σ H)\/(J.go i H/\∃N:St->Hp->Prop,(∀σ' H',N σ' H'->∃m',m'<m/\W (i+1) m' σ' H')/\∀x H',J.yld i H x H'->g x σ H' fun σ2 H2=>tb {D with nx:=N,ct:=N,bk:=D.nx} σ2 H2)
def jz (fp:List Addr)(h:Heap):List (Addr×Obj):=fp.filterMap fun b=>(h.get? b).map fun o=>(b,o)
def dH {fp:List Addr}{h:Heap}{b:Addr}{o:Obj}(hb:b∈fp)(e:h.get? b=some o):(b,o)∈jz fp h:=List.mem_filterMap.mpr ⟨b,hb,by rw[e];rfl⟩
def tM {fp:List Addr}{h:Heap}{p:Addr×Obj}(hp:p∈jz fp h):p.1∈fp/\h.get? p.1=some p.2:=by
 obtain⟨b,hb,e⟩:=List.mem_filterMap.mp hp
 cases q:h.get? b with
 | none=>rw[q]at e;cases e
 | some o=>
   rw[q]at e
   have e':(b,o)=p:=aas e
   subst e'
   show⟨hb,q⟩
def Inv.pinned {pins:List (Addr×Obj)}{σ:St}{H:Hp}{s:Shared}{fp:List Addr}(I:Inv X pins σ H s)(hf:∀b∈fp,dG X pins H b)(ho:∀b∈fp,∃o,s.heap.get? b=some o/\∀v,o.data≠.cell v):Inv X (pins++jz fp s.heap) σ H s:=
 I.qZ fun p hp=>(List.mem_append.mp hp).elim (fun z=>I.pin p (aam _ z)) fun z=>by
   obtain⟨hb,e⟩:=tM z
   obtain⟨f0,f1,f2,_⟩:=hf p.1 hb
   obtain⟨o,e',d⟩:=ho p.1 hb
   rw[e]at e';cases e'
   show⟨e,f0,f1,f2,d⟩
def Inv.gh {pins pl:List (Addr×Obj)}{σ:St}{H:Hp}{s:Shared}(I:Inv X (pins++pl) σ H s):Inv X pins σ H s:=I.qZ fun p hp=>I.pin p (aam _ (aa1 _ hp))
def Et {iter:Expr}{body:List Stmt}{wi:TI}{g:TG}{tb:TS}{pos:Pos}(hp:PassesOwn (model X.prog X.w) X.A X.env X.xe)(hc:X.calm=true)(hi:PI X tg iter wi)(hg:PG X tg g)(hb:kZ X body tb)
   (hs:∀x,aaB iter X.env x=pure x:=by intro _;rfl):PS X (.For tg iter body [] pos) (Km wi g tb):=by
 intro pins s σ H D I h
 show wpAny_For (bu (hi pins s σ H _ I h) fun v s1 h1=>bu h1 fun itv s2 h2=>?_) hs
 obtain⟨it,fp,tn,J,H2,e,I2,T,F3,f2,W,⟨m0,w0⟩,turn⟩:=h2
 subst e
 have stat:∀{H':Hp},(∀b∈fp,H' b=none)->∀b∈fp,dG X pins H' b:=fun hn b hb=>⟨hn b hb,(f2 b hb).2⟩
 show codeAny_forLoop_any (fun n s'=>∃i σ' H',Inv X pins σ' H' s'/\tn i s'.heap/\(∀b∈fp,H' b=none)/\W i n σ' H') ?_ m0 ⟨0,σ,H2,I2,F3,fun b hb=>(f2 b hb).1,w0⟩
 rintro n s3 ⟨i,σ3,H3,I3,oD,FG,w3⟩
 rcases turn i n σ3 H3 w3 with⟨stop,qn⟩|⟨go,N,hN,step⟩
 . show acf hp (bu (T.done X rfl rfl rfl hc i pins s3 σ3 H3 X.xe I3 (stat FG) oD stop) fun r s4 h9=>?_)
   obtain⟨hr,I4⟩:=h9
   subst hr
   show acS ⟨σ3,H3,I4,qn⟩
 . show acf hp (bu (T.item X rfl rfl rfl hc i pins s3 σ3 H3 X.xe I3 (stat FG) oD go) fun r s4 h9=>?_)
   obtain⟨u,hr,h4⟩:=h9
   subst hr
   show acf hp (bu h4 fun z s5 h9=>?_)
   obtain⟨x,H5,I5,r5,y5,jX,MT⟩:=h9
   have Mj:=I5.pinned (stat MT) (T.obj _ _ jX)
   show acf hp (bu (hg _ s5 σ3 H5 x u _ Mj r5 (step x H5 y5)) fun z s6 h9=>?_)
   obtain⟨σ6,H6,I6,q6⟩:=h9
   show acf hp (bu (hb _ s6 σ6 H6 _ I6 q6) fun f s7 q7=>?_)
   have again:∀{σ7:St} {H7:Hp},Inv X (pins++jz fp s5.heap) σ7 H7 s7->N σ7 H7->∃m,m<n/\∃i σ' H',Inv X pins σ' H' s7/\tn i s7.heap/\(∀b∈fp,H' b=none)/\W i m σ' H':=fun{σ7 H7} I7 n7=>by
     obtain⟨m',hm,w7⟩:=hN σ7 H7 n7
     show⟨m',hm,i+1,σ7,H7,I7.gh,T.keep _ _ _ jX fun b hb o e=>(I7.pin (b,o) (aam _ (aam _ (dH hb e)))).1,fun b hb=>?_,w7⟩
     obtain⟨o,e,d⟩:=T.obj _ _ jX b hb
     show(I7.pin (b,o) (aam _ (aam _ (dH hb e)))).2.1
   cases f with
   | next=>obtain⟨σ7,H7,I7,n7⟩:=q7;show again I7 n7
   | cont=>obtain⟨σ7,H7,I7,n7⟩:=q7;show again I7 n7
   | brk=>obtain⟨σ7,H7,I7,q7⟩:=q7;show⟨σ7,H7,I7.gh,q7⟩
   | ret v=>obtain⟨x7,σ7,H7,I7,r7,q7⟩:=q7;show⟨x7,σ7,H7,I7.gh,r7,q7⟩
end
def bC {K:ZV}{a:Addr}{xs:List V}{g:TG}{tb:TS}{D:Ends}{σ:St}{H:Hp}(Pv:Nat->St->Hp->Prop)(h0:Pv 0 σ H)(hl:∀i σ H,i<=xs.length->Pv i σ H->aE K H a xs)
   (hs:∀i x σ H,xs[i]?=some x->Pv i σ H->g x σ H fun σ2 H2=>tb {D with nx:=Pv (i+1),ct:=Pv (i+1),bk:=D.nx} σ2 H2) (hd:∀σ H,Pv xs.length σ H->D.nx σ H) :
   ∃W:Nat->Nat->St->Hp->Prop,(∃m,W 0 m σ H)/\∀i m σ H,W i m σ H ->
     ((Fv K a).stop i H/\D.nx σ H)\/((Fv K a).go i H/\∃N:St->Hp->Prop,(∀σ' H',N σ' H'->∃m',m'<m/\W (i+1) m' σ' H')/\∀x H',(Fv K a).yld i H x H'->g x σ H' fun σ2 H2=>tb {D with nx:=N,ct:=N,bk:=D.nx} σ2 H2):=by
 show⟨fun i m σ H=>m=xs.length-i/\i<=xs.length/\Pv i σ H,⟨xs.length,by simp,aan _,h0⟩,?_⟩
 rintro i m σ H ⟨rfl,hi,p⟩
 have q:=hl i σ H hi p
 by_cases cZ:i<xs.length
 . show .inr ⟨⟨xs,xs[i],q,by simp[cZ]⟩,Pv (i+1),fun σ' H' p'=>⟨xs.length-(i+1),by lia,U,cZ,p'⟩,fun x H' y=>?_⟩
   obtain⟨e,y⟩:=y
   subst e
   show hs i x σ _ (y xs q) p
 . have e:i=xs.length:=by lia
   subst e
   show .inl ⟨⟨xs,q,Z0 _⟩,hd σ H p⟩
def iG {K:ZV}{a:Addr}{xs:List V}{g:TG}{tb:TS}{D:Ends}{σ:St}{H:Hp}(Pv:Nat->St->Hp->Prop)(h0:Pv 0 σ H)(hl:∀i σ H,i<=xs.length->Pv i σ H->aN K H a xs)
   (hs:∀i x σ H,xs[i]?=some x->Pv i σ H->g x σ H fun σ2 H2=>tb {D with nx:=Pv (i+1),ct:=Pv (i+1),bk:=D.nx} σ2 H2) (hd:∀σ H,Pv xs.length σ H->D.nx σ H) :
   ∃W:Nat->Nat->St->Hp->Prop,(∃m,W 0 m σ H)/\∀i m σ H,W i m σ H ->
     ((Fw K a).stop i H/\D.nx σ H)\/((Fw K a).go i H/\∃N:St->Hp->Prop,(∀σ' H',N σ' H'->∃m',m'<m/\W (i+1) m' σ' H')/\∀x H',(Fw K a).yld i H x H'->g x σ H' fun σ2 H2=>tb {D with nx:=N,ct:=N,bk:=D.nx} σ2 H2):=by
 show⟨fun i m σ H=>m=xs.length-i/\i<=xs.length/\Pv i σ H,⟨xs.length,by simp,aan _,h0⟩,?_⟩
 rintro i m σ H ⟨rfl,hi,p⟩
 have q:=hl i σ H hi p
 by_cases cZ:i<xs.length
 . show .inr ⟨⟨xs,xs[i],q,by simp[cZ]⟩,Pv (i+1),fun σ' H' p'=>⟨xs.length-(i+1),by lia,U,cZ,p'⟩,fun x H' y=>?_⟩
   obtain⟨e,y⟩:=y
   subst e
   show hs i x σ _ (y xs q) p
 . have e:i=xs.length:=by lia
   subst e
   show .inl ⟨⟨xs,q,Z0 _⟩,hd σ H p⟩
def kh {lo:Int}{n:Nat}{g:TG}{tb:TS}{D:Ends}{σ:St}{H:Hp}(Pv:Nat->St->Hp->Prop)(h0:Pv 0 σ H)
   (hs:∀i σ H,i<n->Pv i σ H->g (.int (lo+i)) σ H fun σ2 H2=>tb {D with nx:=Pv (i+1),ct:=Pv (i+1),bk:=D.nx} σ2 H2) (hd:∀σ H,Pv n σ H->D.nx σ H) :
   ∃W:Nat->Nat->St->Hp->Prop,(∃m,W 0 m σ H)/\∀i m σ H,W i m σ H ->
     ((BV lo n).stop i H/\D.nx σ H)\/((BV lo n).go i H/\∃N:St->Hp->Prop,(∀σ' H',N σ' H'->∃m',m'<m/\W (i+1) m' σ' H')/\∀x H',(BV lo n).yld i H x H'->g x σ H' fun σ2 H2=>tb {D with nx:=N,ct:=N,bk:=D.nx} σ2 H2):=by
 show⟨fun i m σ H=>m=n-i/\i<=n/\Pv i σ H,⟨n,by simp,aan _,h0⟩,?_⟩
 rintro i m σ H ⟨rfl,hi,p⟩
 by_cases cZ:i<n
 . show .inr ⟨cZ,Pv (i+1),fun σ' H' p'=>⟨n-(i+1),by lia,U,cZ,p'⟩,fun x H' y=>?_⟩
   obtain⟨e,y⟩:=y
   subst e y
   show hs i σ _ cZ p
 . have e:i=n:=by lia
   subst e
   show .inl ⟨Z0 _,hd σ H p⟩
abbrev R2:=V->V->Hp->VK->Prop
def eV (X:Cx)(f:Value->Value->Sem Value)(r:R2):Prop:=
 ∀(pins:List (Addr×Obj)) (s:Shared) (σ:St) (H:Hp) (x y:V) (v u:Value) (Q:VK),Inv X pins σ H s->RelV x v->RelV y u->r x y H Q ->
   wpAny (model X.prog X.w) X.A (f v u) (EP X pins σ Q) X.xe s
def Ml (X:Cx)(f:Value->Sem Value)(r:V->Hp->VK->Prop):Prop:=
 ∀(pins:List (Addr×Obj)) (s:Shared) (σ:St) (H:Hp) (x:V) (v:Value) (Q:VK),Inv X pins σ H s->RelV x v->r x H Q ->
   wpAny (model X.prog X.w) X.A (f v) (EP X pins σ Q) X.xe s
def bY (X:Cx)(f:Value)(r:List V->Hp->VK->Prop):Prop:=
 ∀(pins:List (Addr×Obj)) (s:Shared) (σ:St) (H:Hp) (xs:List V) (us:List Value) (Q:VK),Inv X pins σ H s->Vals xs us->r xs H Q ->
   wpAny (model X.prog X.w) X.A (call f us) (EP X pins σ Q) X.xe s
def Bz (r:R2)(ta tb:TE):TE:=fun σ H Q=>ta σ H fun x H1=>tb σ H1 fun y H2=>r x y H2 Q
def TL (r:V->Hp->VK->Prop)(ta:TE):TE:=fun σ H Q=>ta σ H fun x H1=>r x H1 Q
def rI (C:Int->Int->Prop)(g:Int->Int->V):R2:=fun x y H Q=>∃i j,x=.int i/\y=.int j/\C i j/\Q (g i j) H
def rm (g:Int->Int->V):R2:=fun x y H Q=>∃i j,x=.int i/\y=.int j/\Q (g i j) H
def rU (g:Int->V):V->Hp->VK->Prop:=fun x H Q=>∃i,x=.int i/\Q (g i) H
section
variable{X:Cx}{a b c:Expr}{ta tb tc:TE}{pos:Pos}
def B6 (ha:PE X a ta)(hb:PE X b tb){pins:List (Addr×Obj)}{s:Shared}{σ:St}{H:Hp}{R:V->V->Hp->Prop}(I:Inv X pins σ H s)
   (h:ta σ H fun x H1=>tb σ H1 fun y H2=>R x y H2) {Q:Value->Shared->Prop} {f:Value->Value->Sem Value}
   (hf:∀v u s2 x y H2,Inv X pins σ H2 s2->RelV x v->RelV y u->R x y H2->wpAny (model X.prog X.w) X.A (f v u) Q X.xe s2) :
   wpAny (model X.prog X.w) X.A (eval a X.env) (fun v s₁=>wpAny (model X.prog X.w) X.A (eval b X.env) (fun u s₂=>wpAny (model X.prog X.w) X.A (f v u) Q X.xe s₂) X.xe s₁) X.xe s:=by
 show bu (ha pins s σ H _ I h) fun v s1 h9=>?_
 obtain⟨x,H1,I1,r1,q1⟩:=h9
 show bu (hb pins s1 σ H1 _ I1 q1) fun u s2 h9=>?_
 obtain⟨y,H2,I2,r2,q2⟩:=h9
 show hf v u s2 x y H2 I2 r1 r2 q2
def Jx {op:Operator}{r:R2}(ho:eV X (binaryOp op) r)(ha:PE X a ta)(hb:PE X b tb):PE X (.BinOp a op b pos) (Bz r ta tb):=by
 intro pins s σ H Q I h
 show wpAny_BinOp (B6 ha hb I h fun v u s2 x y H2 I2 rx ry q=>ho pins s2 σ H2 x y v u Q I2 rx ry q)
def Jz {op:UnaryOp}{r:V->Hp->VK->Prop}(ho:Ml X (unaryOp op) r)(ha:PE X a ta):PE X (.UnaryOp op a pos) (TL r ta):=by
 intro pins s σ H Q I h
 show UnaryOp_ (bu (ha pins s σ H _ I h) fun v s1 h9=>?_)
 obtain⟨x,H1,I1,r1,q1⟩:=h9
 show ho pins s1 σ H1 x v Q I1 r1 q1
def LM {f:Value->Value->Sem Value}{C:Int->Int->Prop}{g:Int->Int->Int}
   (rule:∀(i j:Int) (t u:Tok) (s:Shared) (Q:Value->Shared->Prop) (E:Value->Shared->Prop),C i j->Q (.int (g i j) s.toks) {s with toks:=s.toks+1}->wpAny (model X.prog X.w) X.A (f (.int i t) (.int j u)) Q E s) :
   eV X f (rI C fun i j=>.int (g i j)):=by
 intro pins s σ H x y v u Q I rx ry h
 obtain⟨i,j,rfl,rfl,hc,q⟩:=h
 obtain⟨t,rfl⟩:=rx
 obtain⟨t',rfl⟩:=ry
 show rule i j t t' s _ _ hc ⟨.int (g i j),H,I.tok _,⟨_,U⟩,q⟩
def Jc {f:Value->Value->Sem Value}{g:Int->Int->Int}
   (rule:∀(i j:Int) (t u:Tok) (s:Shared) (Q:Value->Shared->Prop) (E:Value->Shared->Prop),Q (.int (g i j) s.toks) {s with toks:=s.toks+1}->wpAny (model X.prog X.w) X.A (f (.int i t) (.int j u)) Q E s) :
   eV X f (rm fun i j=>.int (g i j)):=by
 intro pins s σ H x y v u Q I rx ry h
 obtain⟨i,j,rfl,rfl,q⟩:=h
 obtain⟨t,rfl⟩:=rx
 obtain⟨t',rfl⟩:=ry
 show rule i j t t' s _ _ ⟨.int (g i j),H,I.tok _,⟨_,U⟩,q⟩
def y8 {f:Value->Value->Sem Value}{g:Int->Int->Bool}
   (rule:∀(i j:Int) (t u:Tok) (s:Shared) (Q:Value->Shared->Prop) (E:Value->Shared->Prop),Q (.bool (g i j)) s->wpAny (model X.prog X.w) X.A (f (.int i t) (.int j u)) Q E s) :
   eV X f (rm fun i j=>.bl (g i j)):=by
 intro pins s σ H x y v u Q I rx ry h
 obtain⟨i,j,rfl,rfl,q⟩:=h
 obtain⟨t,rfl⟩:=rx
 obtain⟨t',rfl⟩:=ry
 show rule i j t t' s _ _ ⟨.bl (g i j),H,I,U,q⟩
def Gi (i j:Int):Prop:=0<=j/\j<=1000000/\i.natAbs<2^64
def xW (i j:Int):Prop:=(-(2^64)<i/\i<2^64)\/(-(2^64)<j/\j<2^64)
def xW.ok {i j:Int}(h:xW i j):IntMulOk i j:=by
 rcases h with⟨h1,h2⟩|⟨h1,h2⟩
 . show .of_left (intBits_le_64 h1 h2)
 . show .of_right (intBits_le_64 h1 h2)
def DP:eV X (binaryOp .Add) (rm fun i j=>.int (i+j)):=Jc fun z z z z z z z q=>add_int q
def D7:eV X (binaryOp .Sub) (rm fun i j=>.int (i-j)):=Jc fun z z z z z z z q=>sub_int q
def DW:eV X (binaryOp .Mult) (rI xW fun i j=>.int (i*j)):=LM fun z z z z z z z hc q=>mul_int q hc.ok
def DV:eV X (binaryOp .Mod) (rI (fun z j=>0<j) fun i j=>.int (i%j)):=LM fun i j z z z z z hc q=>by
 have h1:(0:Int)<j:=hc
 show mod_int' (by lia) (by rw[Int.fmod_eq_emod_of_nonneg i (by lia)];show q)
def DY:eV X (binaryOp .Pow) (rI Gi fun i j=>.int (i^j.toNat)):=LM fun z z z z z z z hc q=>pow_int_small hc.1 hc.2.1 hc.2.2 q
def Yg {f:Value->Sem Value}{g:Int->Int}
   (rule:∀(i:Int) (t:Tok) (s:Shared) (Q:Value->Shared->Prop) (E:Value->Shared->Prop),Q (.int (g i) s.toks) {s with toks:=s.toks+1}->wpAny (model X.prog X.w) X.A (f (.int i t)) Q E s) :
   Ml X f (rU fun i=>.int (g i)):=by
 intro pins s σ H x v Q I rx h
 obtain⟨i,rfl,q⟩:=h
 obtain⟨t,rfl⟩:=rx
 show rule i t s _ _ ⟨.int (g i),H,I.tok _,⟨_,U⟩,q⟩
def Fl:Ml X (unaryOp .USub) (rU fun i=>.int (-i)):=Yg fun z z z z z q=>neg_int q
end
def J4:V->V->Bool
 | .br,.br=>true|.br,.int _=>true|.int _,.br=>true|.br,.bl _=>true|.bl _,.br=>true|.br,.str _=>true|.str _,.br=>true
 | .int _,.int _=>true|.bl _,.bl _=>true|.str _,.str _=>true|.byt _,.byt _=>true
 | .int _,.str _=>true|.str _,.int _=>true|.bl _,.str _=>true|.str _,.bl _=>true
 | _,_=>false
def SF:R2:=fun x y H Q=>J4 x y=true/\Q (.bl (decide (x=y))) H
def SJ:R2:=fun x y H Q=>J4 x y=true/\Q (.bl (!decide (x=y))) H
def qE {i j:Int}:decide (V.int i=V.int j)=(i==j):=by
 rw[abe]
 simp
def uQ {i j:Bool}:decide (V.bl i=V.bl j)=(i==j):=by
 rw[abe]
 simp
def qF {i j:Str}:decide (V.str i=V.str j)=(i==j):=by
 rw[abe]
 simp
def qD {i j:Array UInt8}:decide (V.byt i=V.byt j)=(i.toList==j.toList):=by
 rw[abe]
 cases i
 cases j
 simp
section
variable{X:Cx}{a b c:Expr}{ta tb tc:TE}{pos:Pos}
def aP {pins:List (Addr×Obj)}{σ:St}{H:Hp}{s:Shared}{Q:VK}{k k':Bool}(I:Inv X pins σ H s)(q:Q (.bl k) H)(e:k=k'):EP X pins σ Q (.bool k') s:=by
 subst e
 show⟨.bl k,H,I,U,q⟩
def Jd:eV X (compareOp .Eq) SF:=by
 intro pins s σ H x y v u Q I rx ry h
 obtain⟨hs,q⟩:=h
 cases x with
 | br=>
   cases rx
   cases y with
   | br=>cases ry;show PySem.EqNone.eq_none_none (aP I q (by simp))
   | bl j=>cases ry;show PySem.EqNone.eq_none_bool (aP I q (by simp))
   | int j=>obtain⟨t',rfl⟩:=ry;show PySem.EqNone.eq_none_int (aP I q (by simp))
   | str j=>obtain⟨t',rfl⟩:=ry;show PySem.EqNone.eq_none_str (aP I q (by simp))
   | _=>show aB (show false=true from hs) Z8
 | bl i=>
   cases rx
   cases y with
   | br=>cases ry;show PySem.EqNone.eq_bool_none (aP I q (by simp))
   | bl j=>cases ry;show eq_bool (aP I q uQ)
   | str j=>obtain⟨t',rfl⟩:=ry;show PySem.EqMixed.eq_bool_str (aP I q (by simp))
   | _=>show aB (show false=true from hs) Z8
 | int i=>
   obtain⟨t,rfl⟩:=rx
   cases y with
   | br=>cases ry;show PySem.EqNone.eq_int_none (aP I q (by simp))
   | int j=>obtain⟨t',rfl⟩:=ry;show eq_int (aP I q qE)
   | str j=>obtain⟨t',rfl⟩:=ry;show PySem.EqMixed.eq_int_str (aP I q (by simp))
   | _=>show aB (show false=true from hs) Z8
 | str i=>
   obtain⟨t,rfl⟩:=rx
   cases y with
   | br=>cases ry;show PySem.EqNone.eq_str_none (aP I q (by simp))
   | bl j=>cases ry;show PySem.EqMixed.eq_str_bool (aP I q (by simp))
   | int j=>obtain⟨t',rfl⟩:=ry;show PySem.EqMixed.eq_str_int (aP I q (by simp))
   | str j=>obtain⟨t',rfl⟩:=ry;show eq_str (aP I q qF)
   | _=>show aB (show false=true from hs) Z8
 | byt i=>
   obtain⟨t,rfl⟩:=rx
   cases y with
   | byt j=>obtain⟨t',rfl⟩:=ry;show PySem.W.eq_bytes (aP I q qD)
   | _=>show aB (show false=true from hs) Z8
 | _=>cases y<;>show aB (show false=true from hs) Z8
def Ji:eV X (compareOp .NotEq) SJ:=by
 intro pins s σ H x y v u Q I rx ry h
 obtain⟨hs,q⟩:=h
 cases x with
 | br=>
   cases rx
   cases y with
   | br=>cases ry;show PySem.EqNone.ne_none_none (aP I q (by simp))
   | bl j=>cases ry;show PySem.EqNone.ne_none_bool (aP I q (by simp))
   | int j=>obtain⟨t',rfl⟩:=ry;show PySem.EqNone.ne_none_int (aP I q (by simp))
   | str j=>obtain⟨t',rfl⟩:=ry;show PySem.EqNone.ne_none_str (aP I q (by simp))
   | _=>show aB (show false=true from hs) Z8
 | bl i=>
   cases rx
   cases y with
   | br=>cases ry;show PySem.EqNone.ne_bool_none (aP I q (by simp))
   | bl j=>cases ry;show ne_bool (aP I q (congrArg not uQ))
   | str j=>obtain⟨t',rfl⟩:=ry;show PySem.EqMixed.ne_bool_str (aP I q (by simp))
   | _=>show aB (show false=true from hs) Z8
 | int i=>
   obtain⟨t,rfl⟩:=rx
   cases y with
   | br=>cases ry;show PySem.EqNone.ne_int_none (aP I q (by simp))
   | int j=>obtain⟨t',rfl⟩:=ry;show ne_int (aP I q (congrArg not qE))
   | str j=>obtain⟨t',rfl⟩:=ry;show PySem.EqMixed.ne_int_str (aP I q (by simp))
   | _=>show aB (show false=true from hs) Z8
 | str i=>
   obtain⟨t,rfl⟩:=rx
   cases y with
   | br=>cases ry;show PySem.EqNone.ne_str_none (aP I q (by simp))
   | bl j=>cases ry;show PySem.EqMixed.ne_str_bool (aP I q (by simp))
   | int j=>obtain⟨t',rfl⟩:=ry;show PySem.EqMixed.ne_str_int (aP I q (by simp))
   | str j=>obtain⟨t',rfl⟩:=ry;show ne_str (aP I q (congrArg not qF))
   | _=>show aB (show false=true from hs) Z8
 | byt i=>
   obtain⟨t,rfl⟩:=rx
   cases y with
   | byt j=>obtain⟨t',rfl⟩:=ry;show PySem.W.ne_bytes (aP I q (congrArg not qD))
   | _=>show aB (show false=true from hs) Z8
 | _=>cases y<;>show aB (show false=true from hs) Z8
def Jh:eV X (compareOp .Lt) (rm fun i j=>.bl (decide (i<j))):=y8 fun z z z z z z z q=>lt_int q
def Jg:eV X (compareOp .LtE) (rm fun i j=>.bl (decide (i<=j))):=y8 fun z z z z z z z q=>le_int q
def Jf:eV X (compareOp .Gt) (rm fun i j=>.bl (decide (j<i))):=y8 fun z z z z z z z q=>gt_int q
def Je:eV X (compareOp .GtE) (rm fun i j=>.bl (decide (j<=i))):=y8 fun z z z z z z z q=>ge_int q
def DT:eV X (compareOp .Is) (fun x y H Q=>y=.br/\Q (.bl (decide (x=.br))) H):=by
 intro pins s σ H x y v u Q I rx ry h
 obtain⟨rfl,q⟩:=h
 cases ry
 show is_none_gen (aP I q ?_)
 cases x<;>first
   | (cases rx;rfl)
   | (obtain⟨t,rfl⟩:=rx;rfl)
def za:eV X (compareOp .IsNot) (fun x y H Q=>y=.br/\Q (.bl (!decide (x=.br))) H):=by
 intro pins s σ H x y v u Q I rx ry h
 obtain⟨rfl,q⟩:=h
 cases ry
 show isnot_none_gen (aP I q ?_)
 cases x<;>first
   | (cases rx;rfl)
   | (obtain⟨t,rfl⟩:=rx;rfl)
def vJ (b:Expr){op:CmpOp}(h:op≠.In:=by left)(h2:op≠.NotIn:=by left):ab7 op b=false:=by
 have e1:(op==CmpOp.In)=false:=by cases op<;>first|rfl|show aB rfl h
 have e2:(op==CmpOp.NotIn)=false:=by cases op<;>first|rfl|show aB rfl h2
 cases b<;>simp[ab7,e1,e2]
def ze {op:CmpOp}{r:R2}(ho:eV X (compareOp op) r)(ha:PE X a ta)(hb:PE X b tb)(hm:ab7 op b=false):PE X (.Compare a [op] [b] pos) (Bz r ta tb):=by
 intro pins s σ H Q I h
 show wpAny_Compare1 (B6 ha hb I h fun v u s2 x y H2 I2 rx ry q=>ho pins s2 σ H2 x y v u Q I2 rx ry q) hm
def BC (t:TE):TT:=fun σ H Q=>t σ H fun x H'=>∃k,x=.bl k/\Q k H'
def zM {op:CmpOp}{r:R2}(ho:eV X (compareOp op) r)(ha:PE X a ta)(hb:PE X b tb)(hm:ab7 op b=false):PT X (.Compare a [op] [b] pos) (BC (Bz r ta tb)):=by
 intro pins s σ H Q I h
 show wpAny_isTrue_Compare1 (bu (ha pins s σ H _ I h) fun v s1 ⟨x,H1,I1,r1,q1⟩=>bu (hb pins s1 σ H1 _ I1 q1) fun u s2 ⟨y,H2,I2,r2,q2⟩=>
   bu (ho pins s2 σ H2 x y v u _ I2 r1 r2 q2) fun c s3 ⟨z,H3,I3,r3,k,e,q3⟩=>?_) hm
 subst e
 cases r3
 show wpAny_truthy_bool ⟨H3,I3,q3⟩
def xo (r r':R2)(ta tb tc:TE):TE:=fun σ H Q=>ta σ H fun x H1=>tb σ H1 fun y H2=>r x y H2 fun z H3=>∃k,z=.bl k /\
 (if k=true then tc σ H3 fun w' H4=>r' y w' H4 Q else Q (.bl false) H3)
def v7 {op DO:CmpOp}{r r':R2}(ho:eV X (compareOp op) r)(ho':eV X (compareOp DO) r')(ha:PE X a ta)(hb:PE X b tb)(hc:PE X c tc)
   (hm:lastMarks [op,DO] [b,c]=false:=by with_unfolding_all rfl):PE X (.Compare a [op,DO] [b,c] pos) (xo r r' ta tb tc):=by
 intro pins s σ H Q I h
 show Compare_chain (bu (ha pins s σ H _ I h) fun v s1 ⟨x,H1,I1,r1,q1⟩=>chain_link (bu (hb pins s1 σ H1 _ I1 q1) fun u s2 ⟨y,H2,I2,r2,q2⟩=>
   bu (ho pins s2 σ H2 x y v u _ I2 r1 r2 q2) fun d s3 ⟨z,H3,I3,r3,k,e,q3⟩=>?_)) hm
 subst e
 cases r3
 show wpAny_truthy_bool ?_
 cases k with
 | false=>show ite_ff ⟨.bl false,H3,I3,rfl,q3⟩
 | true=>show ite_tt (chain_last (bu (hc pins s3 σ H3 _ I3 q3) fun w' s4 ⟨z',H4,I4,r4,q4⟩=>ho' pins s4 σ H4 y z' u w' Q I4 r2 r4 q4))
def lO:(sizeLine:Nat)<2^63:=by rw[acG];decide
def vals1 {x:V}{us:List Value}(r:Vals [x] us):∃u,us=[u]/\RelV x u:=by
 cases r with
 | cons r1 r2=>cases r2;show⟨_,rfl,r1⟩
def vals2 {x y:V}{us:List Value}(r:Vals [x,y] us):∃u w',us=[u,w']/\RelV x u/\RelV y w':=by
 cases r with
 | cons r1 r2=>
   cases r2 with
   | cons r3 r4=>cases r4;show⟨_,_,rfl,r1,r3⟩
def r9 (hc:X.calm=true):bY X (.builtin "max") (fun xs H Q=>∃i j,xs=[.int i,.int j]/\Q (.int (if j > i then j else i)) H):=by
 intro pins s σ H xs us Q I r h
 obtain⟨i,j,rfl,q⟩:=h
 obtain⟨u,w',rfl,⟨t,rfl⟩,⟨t',rfl⟩⟩:=vals2 r
 show max_two_ints (I.ok.hd hc) fun h' tk k=>⟨_,H,I.kept k,?_,q⟩
 by_cases hj:j > i
 . rw[ba hj,ba hj];show⟨_,rfl⟩
 . rw[aQ hj,aQ hj];show⟨_,rfl⟩
def sh (hc:X.calm=true):bY X (.builtin "min") (fun xs H Q=>∃i j,xs=[.int i,.int j]/\Q (.int (if j<i then j else i)) H):=by
 intro pins s σ H xs us Q I r h
 obtain⟨i,j,rfl,q⟩:=h
 obtain⟨u,w',rfl,⟨t,rfl⟩,⟨t',rfl⟩⟩:=vals2 r
 show min_two_ints (I.ok.hd hc) fun h' tk k=>⟨_,H,I.kept k,?_,q⟩
 by_cases hj:j<i
 . rw[ba hj,ba hj];show⟨_,rfl⟩
 . rw[aQ hj,aQ hj];show⟨_,rfl⟩
def r8:bY X (.type "int") (fun xs H Q=>(∃i,xs=[.int i]/\Q (.int i) H)\/∃k,xs=[.bl k]/\Q (.int (if k then 1 else 0)) H):=by
 intro pins s σ H xs us Q I r h
 rcases h with⟨i,rfl,q⟩|⟨k,rfl,q⟩
 . obtain⟨u,rfl,t,rfl⟩:=vals1 r
   show call_int_int ⟨.int i,H,I,⟨_,U⟩,q⟩
 . obtain⟨u,rfl,r1⟩:=vals1 r
   cases r1
   show call_int_bool ⟨.int (if k then 1 else 0),H,I.tok _,⟨_,U⟩,q⟩
end
structure BY (h:Heap)(x dx C:Addr)(mA:Str->Option Value):Prop where
 obj:h.get? x=some (ac5 C dx)
 ns:h.Ns1 dx mA
 ne:dx≠x
def tF {h:Heap}{dx:Addr}{mA:Str->Option Value}(n:h.Ns1 dx mA):∃od,h.get? dx=some od/\∀name,adg name od=some (mA name):=by
 obtain⟨o,es,ep,ho,hd,hk,_,hm⟩:=n
 show⟨o,ho,fun name=>?_⟩
 have e:=hm name
 unfold nsFind findBy at e
 rw[← Array.find?_toList]at e
 unfold adg
 rw[hd]
 dsimp only
 split
 . rename_i y q
   rw[q]at e
   show congrArg some e
 . rename_i q
   rw[q]at e
   have a:es.toList.any (·.refKey)=false:=by
     rw[acj]
     intro y hy
     obtain⟨z,t,hkey⟩:=hk y (Array.mem_toList_iff.mp hy)
     simp[DictEntry.refKey,hkey]
   have a':¬ es.toList.any (·.refKey)=true:=by rw[a];show Z8
   rw[aQ a']
   show congrArg some e
def BY.look {h:Heap}{x dx C:Addr}{mA:Str->Option Value}(I:BY h x dx C mA):∃od,PySem.W.InstAt h x (ac5 C dx) C (some od)/\∀name,adg name od=some (mA name):=
 let⟨od,ho,hl⟩:=tF I.ns
 ⟨od,⟨I.obj,rfl,rfl,ho⟩,hl⟩
def fH.some_of {v:V}{o:Option Value}(r:fH (some v) o):∃u,o=some u/\RelV v u:=by
 cases o with
 | none=>show(show False from r).elim
 | some u=>show⟨u,rfl,r⟩
section
variable{P:Program}{w:World}{H H':Hp}{h h':Heap}{a C dx:Addr}{fs Vm:List (Str×V)}
def yy (hok:eL P w H h)(e:H a=some (.ins C dx fs)):∃mA,BY h a dx C mA/\(∀f,fH (fs.lookup f) (mA f))/\PySem.Within mA (fs.map (·.1))/\fs.length<=1000/\H dx=some (.own a):=by
 obtain⟨d,z,ne,ob,mA,n,r,q⟩:=(show aR P w H h a (.ins C dx fs)from hok a _ e)
 show⟨mA,⟨ob,n,ne⟩,r,q,z,d⟩
end
structure Mf (K:ZV)(C:Addr):Prop where
 pg:PySem.W.plainGet K C Str.empty=true
 hd:PySem.W.hasDictIn K C=true
 po:PySem.W.plainOver K C=true
 sa:ab4 K (.ref C) "__setattr__"=some (some (.builtin "object.__setattr__"))
def Mf.get {K:ZV}{C:Addr}(c:Mf K C)(f:Str):PySem.W.plainGet K C f=true:=c.pg
section
variable{X:Cx}{pins:List (Addr×Obj)}{σ:St}{H:Hp}{s:Shared}{A:Around}{E:Value->Shared->Prop}{Q:Value->Shared->Prop}{c:Value}{b:Bool}
inductive di (K:ZV) (H:Hp):V->Value->Prop where
 | br:di K H .br (.type "NoneType")
 | bl (x:Bool):di K H (.bl x) (.type "bool")
 | int (i:Int):di K H (.int i) (.type "int")
 | str (x:Str):di K H (.str x) (.type "str")
 | flt (x:UInt64):di K H (.flt x) (.type "float")
 | lst {a:Addr} {xs:List V} (e:H a=some (.lst xs)):di K H (.ref a) (.type "list")
 | frz {a:Addr} {o:Obj} {xs:List V} (e:H a=some (.frz o (.lst xs))):di K H (.ref a) (.type "list")
 | tup {a:Addr} {xs:List V} (e:H a=some (.tup xs)):di K H (.ref a) (.type "tuple")
 | dK {a:Addr} {kvs:List (Key×V)} (e:H a=some (.dK kvs)):di K H (.ref a) (.type "dict")
 | dT {a:Addr} {kvs:List (List Key×V)} (e:H a=some (.dT kvs)):di K H (.ref a) (.type "dict")
 | ins {a C dx:Addr} {fs:List (Str×V)} (e:H a=some (.ins C dx fs)) (cl:Mf K C) (ha:ab4 K (.ref C) "__class__"=some (some (.builtin "object.__class__")))
     (hn:ad7 K (.builtin "object.__class__") "__get__"=some (some (.builtin "getset_descriptor.__get__"))) (htk:PySem.W.takesIn K (.builtin "object.__class__")=some true)
     (hm:adq K C (.type "object")=some true):di K H (.ref a) (.ref C)
def sV {x:V}{u t:Value}(I:Inv X pins σ H s)(rx:RelV x u)(ty:di X.K H x t)(e:ab3 X.K t c=some b)(h:∀tk,Q (.bool b) {s with toks:=tk}) :
   wpAny (model X.prog X.w) A (call (.builtin "isinstance") [u,c]) Q E s:=by
 cases ty with
 | br=>cases(show u=abb from rx);show aaH PySem.W.kitx_none I.jk aae e (fun z=>nomatch z) h
 | bl y=>cases(show u=aa6 y from rx);show aaH PySem.W.kitx_bool I.jk aae e (fun z=>nomatch z) h
 | int i=>obtain⟨t,q⟩:=(show ∃t,u=acy i t from rx);cases q;show aaH PySem.W.kitx_int I.jk aae e (fun z=>nomatch z) h
 | str y=>obtain⟨t,q⟩:=(show ∃t,u=acU y t from rx);cases q;show aaH PySem.W.kitx_str I.jk aae e (fun z=>nomatch z) h
 | flt y=>obtain⟨t,q⟩:=(show ∃t,u=Value.float y t from rx);cases q;show aaH PySem.W.kitx_float I.jk aae e (fun z=>nomatch z) h
 | @lst a xs ea=>
   cases(show u=aab a from rx)
   obtain⟨_,_,n,_,h1⟩:=(show aR X.prog X.w H s.heap a (.lst xs)from I.hok a _ ea)
   show aaH acW I.jk ⟨_,h1,U⟩ e (fun z=>nomatch z) h
 | @frz a ob xs ea=>
   cases(show u=aab a from rx)
   obtain⟨_,_,_,n,_,h1⟩:=(show aR X.prog X.w H s.heap a (.frz ob (.lst xs))from I.hok a _ ea)
   show aaH acW I.jk ⟨_,h1,U⟩ e (fun z=>nomatch z) h
 | @tup a xs ea=>
   cases(show u=aab a from rx)
   obtain⟨_,_,_,p⟩:=(show aR X.prog X.w H s.heap a (.tup xs)from I.hok a _ ea)
   obtain⟨o,h1,h2,_⟩:=p
   show aaH ad4 I.jk ⟨o,h1,h2⟩ e (fun z=>nomatch z) h
 | @dK a kvs ea=>
   cases(show u=aab a from rx)
   obtain⟨_,_,vs,_,p⟩:=(show aR X.prog X.w H s.heap a (.dK kvs)from I.hok a _ ea)
   obtain⟨o,es,ep,h1,h2,_⟩:=p
   show aaH ad8 I.jk ⟨o,h1,h2.1⟩ e (fun z=>nomatch z) h
 | @dT a kvs ea=>
   cases(show u=aab a from rx)
   obtain⟨_,_,xs,_,o,es,ep,h1,h2,_⟩:=(show aR X.prog X.w H s.heap a (.dT kvs)from I.hok a _ ea)
   show aaH ad8 I.jk ⟨o,h1,h2.1⟩ e (fun z=>nomatch z) h
 | @ins a C dx fs ea cl ha hn htk hm=>
   cases(show u=aab a from rx)
   obtain⟨mA,O,_⟩:=yy I.hok ea
   obtain⟨od,J,_⟩:=O.look
   show aaH (PySem.W.kitx_own (cl.get _) cl.hd ha hn htk hm) I.jk J e (fun z=>nomatch z) h
end
structure cV (k:Nat)(A:Around):Prop where
 hd:A.handled=none
 dp:A.depth+3*k+5<recursionLimit
 un:A.units+16*k+200<cLine
def cV.mono {j k:Nat}{A:Around}(r:cV k A)(h:j<=k):cV j A:=⟨r.hd,by have:=r.dp;lia,by have:=r.un;lia⟩
def cV.deeper {k:Nat}{A:Around}(r:cV (k+1) A)(env:Env):cV k (A.deeper env):=
 ⟨r.hd,by have:=r.dp;change A.depth+1+3*k+5<_;lia,by have:=r.un;change A.units+3+16*k+200<_;lia⟩
def cV.depth {k:Nat}{A:Around}(r:cV k A):A.depth<recursionLimit:=by have:=r.dp;lia
def cV.units {k:Nat}{A:Around}(r:cV k A):A.units+64<cLine:=by have:=r.un;lia
def Fg:TA:=fun z H Q=>Q [] H
def xp (ta:TE)(tr:TA):TA:=fun σ H Q=>ta σ H fun x H1=>tr σ H1 fun xs H2=>Q (x::xs) H2
section
variable{X:Cx}{e:Expr}{es:List Expr}{te:TE}{t:TA}{pos:Pos}
def D8:PA X [] Fg:=fun z z z z H Q I h=>abK ⟨[],H,I,.nil,h⟩
def zc (ha:PE X e te)(hr:PA X es t)(hs:starEach (e::es) X.env=(false,eval e X.env)::starEach es X.env:=by rfl):PA X (e::es) (xp te t):=by
 intro pos pins s σ H Q I h
 rw[hs]
 change wpAny _ _ (spliced ((false,eval e X.env)::backTo pos (starEach es X.env))) _ _ s
 show abl (bu (ha pins s σ H _ I h) fun u s1 h9=>?_)
 obtain⟨x,H1,I1,r1,q1⟩:=h9
 show bu (hr pos pins s1 σ H1 _ I1 q1) fun us s2 h9=>?_
 obtain⟨xs,H2,I2,r2,q2⟩:=h9
 show⟨x::xs,H2,I2,.cons r1 r2,q2⟩
def Fh (t:TA):TE:=fun σ H Q=>t σ H fun xs H1=>xs.length<=sizeLine/\∀p,H1 p=none->Q (.ref p) (upd H1 p (.tup xs))
def Ff (t:TA):TE:=fun σ H Q=>t σ H fun xs H1=>xs.length<=sizeLine/\∀p,H1 p=none->Q (.ref p) (upd H1 p (.lst xs))
def Ej {x1}(h:PA X es t):PE X (.Tuple es x1 pos) (Fh t):=by
 intro pins s σ H Q I hq
 show wpAny_Tuple_spliced (bu (h pos pins s σ H _ I hq) fun us s1 g9=>?_)
 obtain⟨xs,H1,I1,r,z,q⟩:=g9
 show⟨by rw[← r.length];show z,?_⟩
 have hf:H1 s1.heap.objs.size=none:=I1.hok.fresh (Z0 _)
 show⟨.ref s1.heap.objs.size,upd H1 s1.heap.objs.size (.tup xs),I1.laid (t':=s1.toks) (fun b u e=>ZX _ e) (Z0 _) ?_,U,q _ hf⟩
 show⟨z,us,r,⟨_,Z6 _ rfl,U,_,U⟩⟩
def Ee (h:PA X es t):PE X (.List es pos) (Ff t):=by
 intro pins s σ H Q I hq
 show wpAny_List_spliced (bu (h pos pins s σ H _ I hq) fun us s1 g9=>?_)
 obtain⟨xs,H1,I1,r,z,q⟩:=g9
 show⟨by rw[← r.length];show z,?_⟩
 have hf:H1 s1.heap.objs.size=none:=I1.hok.fresh (Z0 _)
 show⟨.ref s1.heap.objs.size,upd H1 s1.heap.objs.size (.lst xs),I1.laid (t':=s1.toks) (fun b u e=>ZX _ e) (Z0 _) ?_,U,q _ hf⟩
 show⟨z,us,0,r,Z6 _ rfl⟩
end
abbrev Sp:=List V->Hp->VK->XK->Prop
abbrev ur:=List Env->Hp->Shared->XK->Value->Shared->Prop
structure xX (P:Program)(w:World)(K:ZV)(mg:Str->Option Value)(base:Heap)(A:Around)(outer:List Env)(s:Shared)(H:Hp):Prop where
 frames:A.frames=some outer
 mod:Mod K mg base
 bs:∀b o,base.get? b=some o->s.heap.get? b=some o/\H b=none
 bsz:base.objs.size<=s.heap.objs.size
 fL:s.heap.FunFrames base outer
 frf:∀b∈fK outer,H b=none
 hok:eL P w H s.heap
 bare:AllBare s.gens
def CE (outer:List Env)(P:Program)(w:World)(H:Hp)(s:Shared)(Q:VK)(u:Value)(s':Shared):Prop:=
 ∃v H',s'.os=s.os/\AllBare s'.gens/\Un (fK outer) [] H H' s.heap s'.heap/\eL P w H' s'.heap/\RelV v u/\Q v H'
def CR (CX:ur)(outer:List Env)(P:Program)(w:World)(H:Hp)(s:Shared)(Q:VK)(E:XK)(r:Result)(s':Shared):Prop:=
 match r with
 | .ok (.ret u)=>CE outer P w H s Q u s'
 | .ok _=>False
 | .error e=>CX outer H s E e s'
structure aK (P:Program)(w:World)(K:ZV)(mg:Str->Option Value)(base:Heap)(CX:ur)(k:Nat)(f:Addr)(fd:aaa)(ps:List Str)(sp:Sp):Prop where
 len:∀vs H Q E,sp vs H Q E->vs.length=ps.length
 run:∀(A:Around) (outer:List Env) (s:Shared) (H:Hp) (args:Args) (us:List Value) (vs:List V) (Q:VK) (E:XK),cV k A->xX P w K mg base A outer s H->BindsTo s fd args (ps.zip us)->Vals vs us->sp vs H Q E ->
   codeAny (model P w) A (.call (.ref f) args) (CR CX outer P w H s Q E) s
def aK.mono {P:Program}{w:World}{K:ZV}{mg:Str->Option Value}{base:Heap}{CX:ur}{j k:Nat}{f:Addr}{fd:aaa}{ps:List Str}{sp:Sp}(F:aK P w K mg base CX j f fd ps sp)(h:j<=k) :
   aK P w K mg base CX k f fd ps sp:=⟨F.len,fun A outer s H args us vs Q E hr=>F.run A outer s H args us vs Q E (hr.mono h)⟩
section
variable{X:Cx}{pins:List (Addr×Obj)}{σ:St}{H:Hp}{s s':Shared}
def Inv.MM (I:Inv X pins σ H s):xX X.prog X.w X.K X.mg X.base X.A X.stack s H:=
 ⟨I.ok.frames,I.ok.mod,I.bs,aar I.ok.bsz I.sz,I.stack,I.mw,I.hok,I.bare⟩
def Inv.after {Q:VK}{u:Value}(I:Inv X pins σ H s)(h:CE X.stack X.prog X.w H s Q u s'):EP X pins σ Q u s':=by
 obtain⟨v,H',os,bare,un,hok,r,q⟩:=h
 obtain⟨hh,g,d,t,XJ⟩:=s'
 obtain rfl:XJ=s.os:=os
 show⟨v,H',I.call (h':=hh) (g':=g) (d':=d) (t':=t) (ch:=[]) un hok bare (fun b z=>aB z (by simp)),r,q⟩
end
def rM (sp:Sp)(dvs:List V)(E:XK)(t:TA):TE:=fun σ H Q=>t σ H fun vs H1=>sp (vs++dvs) H1 Q E
def Binds (K:ZV)(fd:aaa)(ps:List Str)(ds:List Value):Prop:=
 ∀(s:Shared) (us:List Value),K.In s.heap->(us++ds).length=ps.length->BindsTo s fd ⟨us,[]⟩ (ps.zip (us++ds))
def Binds.all {K:ZV}{fd:aaa}{ps:List Str}(h:∀us:List Value,us.length=ps.length->adf fd ⟨us,[]⟩=pure (ps.zip us)):Binds K fd ps []:=fun s us z hl=>by
 rw[aaV]at hl ⊢
 show .of_eq (h us hl)
def Passes (CX:ur)(X:Cx)(E:XK):Prop:=∀(pins:List (Addr×Obj)) (σ:St) (H:Hp) (s:Shared) (e:Value) (s':Shared),Inv X pins σ H s->CX X.stack H s E e s'->X.xe e s'
section
variable{X:Cx}{CX:ur}{k:Nat}{f C:Addr}{fd:aaa}{ps:List Str}{sp:Sp}{dvs:List V}{ds:List Value}{E:XK}{x m:Str}{p pos apos:Pos}{e o:Expr}{es:List Expr}{ta:TE}{t:TA}
def EG {pins:List (Addr×Obj)}{σ:St}{H:Hp}{s:Shared}{Q:VK}{us:List Value}{vs:List V}(F:aK X.prog X.w X.K X.mg X.base CX k f fd ps sp)(hr:cV k X.A)(hb:Binds X.K fd ps ds)(hd:Vals dvs ds)(hx:Passes CX X E)
   (I:Inv X pins σ H s) (r:Vals vs us) (h:sp (vs++dvs) H Q E):wpAny (model X.prog X.w) X.A (call (.ref f) us) (EP X pins σ Q) X.xe s:=by
 have r2:Vals (vs++dvs) (us++ds):=r.append hd
 have hl:(us++ds).length=ps.length:=by rw[← r2.length];show F.len _ _ _ _ h
 show wpAny_call (codeAny_mono (F.run X.A X.stack s H ⟨us,[]⟩ (us++ds) (vs++dvs) Q E hr I.MM (hb s us I.jk hl) r2 h) fun r s' hq=>?_)
 cases r with
 | error e=>show hx pins σ H s e s' I hq
 | ok fl=>
   cases fl with
   | ret u=>show I.after hq
   | next=>show abD hq
   | brk=>show abD hq
   | cont=>show abD hq
def qX (F:aK X.prog X.w X.K X.mg X.base CX k f fd ps sp)(hr:cV k X.A)(hg:Gl X x)(hm:X.mg x=some (.ref f))(hk:abH X.K (.ref f)=true)(hb:Binds X.K fd ps ds)(hd:Vals dvs ds)(hx:Passes CX X E)
   (ha:PA X (e::es) t) (hdb:(x==("__debug__":Str))=false:=by left) (he:starEach (e::es) X.env=(false,eval e X.env)::starEach es X.env:=by rfl) (hpl:(backTo pos (starEach es X.env)).any (·.1)=false:=by rfl) :
   PE X (.Call (.Name x p) (e::es) [] pos) (rM sp dvs E t):=by
 intro pins s σ H Q I h
 show wpAny_Call_Name_kw (iH I hg hm ?_ hdb)
 show PySem.W.callWith_K (h₀:=X.base) I.ok.mod.kin hk (bu (ha pos pins s σ H _ I h) fun us s1 g9=>?_) he hpl
 obtain⟨vs,H1,I1,r,q⟩:=g9
 show⟨I1.jk,?_⟩
 show EG F hr hb hd hx I1 r q
end
structure az (N P:List Str)(sc:Scope):Prop where
 kind:sc.kind=.function
 co:sc.isCoroutine=false
 gen:sc.isGenerator=false
 nd:N.Nodup
 pre:N.take P.length=P
 par:∀x∈P,sc.names.lookup x=some .local\/sc.names.lookup x=some .cell
 nofree:∀y∈sc.names,y.2≠.free
def cU {N P:List Str}{sc:Scope}(a:sc.kind=.function:=by rfl)(b:sc.isCoroutine=false:=by rfl)(c:sc.isGenerator=false:=by rfl)(d:N.Nodup:=by right)(e:N.take P.length=P:=by rfl)(f:∀x∈P,sc.names.lookup x=some .local\/sc.names.lookup x=some .cell:=by right)(g:∀y∈sc.names,y.2≠.free:=by right):az N P sc:=⟨a,b,c,d,e,f,g⟩
theorem j9 {kindOf:Str->Option abM}{x:Str}:∀{binds:List (Str×Value)} {m:Str->Option Value},(∀v,(x,v)∉binds)->bindL kindOf binds m x=m x
 | [],_,_=>rfl
 | (n,v)::r,m,h=>by
   unfold bindL
   rw[j9 fun w hw=>h w (aaK _ hw)]
   split
   . have:x≠n:=by rintro rfl;show h v abm
     simp[this]
   . rfl
theorem j7 {kindOf:Str->Option abM}{x:Str}:∀{binds:List (Str×Value)} {m:Str->Option Value},(∀v,(x,v)∉binds)->bindC kindOf binds m x=m x
 | [],_,_=>rfl
 | (n,v)::r,m,h=>by
   unfold bindC
   rw[j7 fun w hw=>h w (aaK _ hw)]
   split
   . rfl
   . have:x≠n:=by rintro rfl;show h v abm
     simp[this]
theorem j8 {kindOf:Str->Option abM}{x:Str}{v:Value}:∀{P:List Str} {vs:List Value} {i:Nat} {m:Str->Option Value},P.Nodup->P[i]?=some x->vs[i]?=some v->kindOf x=some .local ->
   bindL kindOf (P.zip vs) m x=some v
 | [],_,_,_,_,h,_,_=>by simp at h
 | _::_,[],_,_,_,_,h,_=>by simp at h
 | p::P,w::vs,0,m,nd,h1,h2,hk=>by
   simp at h1 h2;subst h1;subst h2
   change bindL kindOf ((p,w)::P.zip vs) m p=_
   unfold bindL
   rw[j9 fun v hv=>(List.nodup_cons.mp nd).1 (ab1 hv).1,ba hk]
   simp
 | p::P,w::vs,i+1,m,nd,h1,h2,hk=>by
   change bindL kindOf ((p,w)::P.zip vs) m x=_
   unfold bindL
   show j8 (i:=i) (List.nodup_cons.mp nd).2 (by simpa using h1) (by simpa using h2) hk
theorem j6 {kindOf:Str->Option abM}{x:Str}{v:Value}:∀{P:List Str} {vs:List Value} {i:Nat} {m:Str->Option Value},P.Nodup->P[i]?=some x->vs[i]?=some v->kindOf x≠some .local ->
   bindC kindOf (P.zip vs) m x=some v
 | [],_,_,_,_,h,_,_=>by simp at h
 | _::_,[],_,_,_,_,h,_=>by simp at h
 | p::P,w::vs,0,m,nd,h1,h2,hk=>by
   simp at h1 h2;subst h1;subst h2
   change bindC kindOf ((p,w)::P.zip vs) m p=_
   unfold bindC
   rw[j7 fun v hv=>(List.nodup_cons.mp nd).1 (ab1 hv).1,aQ hk]
   simp
 | p::P,w::vs,i+1,m,nd,h1,h2,hk=>by
   change bindC kindOf ((p,w)::P.zip vs) m x=_
   unfold bindC
   show j6 (i:=i) (List.nodup_cons.mp nd).2 (by simpa using h1) (by simpa using h2) hk
def start (N:List Str)(vs:List V):St:=vs.map some++Z4 (N.length-vs.length) none
def fz (CX:ur)(P:Program)(w:World)(K:ZV)(mg:Str->Option Value)(base:Heap)(N:List Str)(qual:Str)(scope:Scope)(f:Addr)(cd:Value)(A:Around)(outer:List Env)(s:Shared)(H:Hp)(E:XK):Cx where
 prog:=P
 w:=w
 K:=K
 mg:=mg
 base:=base
 A:=A.deeper (envOfC qual scope s.heap.objs.size f cd)
 N:=N
 s₀:=s
 H₀:=H
 env:=envOfC qual scope s.heap.objs.size f cd
 outer:=outer
 stack:=envOfC qual scope s.heap.objs.size f cd::outer
 ex:=[]
 calm:=true
 fn:=fun z=>true
 pn:=[]
 xe:=fun e s'=>wpAny (model P w) (A.deeper (envOfC qual scope s.heap.objs.size f cd)) (leaving (envOfC qual scope s.heap.objs.size f cd) e) (fun z Pc=>CX outer H s E e Pc) (fun e' Pc=>CX outer H s E e' Pc) s'
def mL {sc:Scope}{n:Nat}{x:Str}(h:sc.names.lookup x=some .cell):∃c,(cellsFrom n sc.names []).lookup x=some c:=by
 have q:=adE sc.names n [] (.inl h)
 show Option.isSome_iff_exists.mp q
def sS {CX:ur}{P:Program}{w:World}{K:ZV}{mg:Str->Option Value}{base:Heap}{N ps:List Str}{qual:Str}{scope:Scope}{f:Addr}{cd:Value}{A:Around}{outer:List Env}{s s1:Shared}{H:Hp}{E:XK}{us:List Value}{vs:List V}
   (S:az N ps scope) (hd:A.handled=none) (e0:xX P w K mg base A outer s H) (hl:vs.length=ps.length) (r:Vals vs us)
   (x:InCallC s s.heap.objs.size (bindL (envOfC qual scope s.heap.objs.size f cd).kindOf (ps.zip us) fun t=>none) (cellsFrom (s.heap.objs.size+1) scope.names []) (bindC (envOfC qual scope s.heap.objs.size f cd).kindOf (ps.zip us) fun t=>none) s1) :
   Inv (fz CX P w K mg base N qual scope f cd A outer s H E) [] (start N vs) H s1:=by
 have hpl:ps.length<=N.length:=by have:=congrArg adl S.pre;rw[aac]at this;lia
 obtain⟨h1,tk,rfl,hk⟩:=x.done
 have noA:∀b:Addr,b∉(fz CX P w K mg base N qual scope f cd A outer s H E).ex:=fun b z=>aB (show b∈([]:List Addr)from z) (by simp)
 show⟨⟨e0.mod,S.kind,U,U,Z0 _,fun y z c h1 h2=>?_,fun y hy=>?_,fun y c t h=>?_,fun t=>hd,Around.frames_deeper e0.frames,.inr ⟨U,U⟩,fun b z=>aB z (noA b),e0.bs,e0.bsz,fun b t t=>noA b,fun b z=>aB z (noA b),e0.fL,e0.frf⟩,
   rfl,e0.bare,Un.kept hk,⟨_,x.toInCall.ns,fun i y v h1 h2 h3=>?_⟩,fun y c h=>⟨_,x.cell y c h⟩,e0.hok.fresh (Z0 _),fun y c h=>?_,fun p hp=>aB (show p∈([]:List (Addr×Obj))from hp) (by simp),e0.hok.kept hk,?_⟩
 . show name_of_addr x.apart (aay h1) (aay h2)
 . have hy:scope.names.lookup y=some .cell\/scope.names.lookup y=some .free:=hy
   rcases hy with hy|hy
   . show mL hy
   . show aB rfl (S.nofree _ (aay hy))
 . show aaC (x.above y c (aay h))
 . have hi:i<vs.length:=by
     unfold start at h2
     by_cases hi:i<vs.length
     . show hi
     . rw[adz (by simpa using hi)]at h2
       rw[adW]at h2
       split at h2<;>cases h2
   have ha:vs[i]?=some v:=by
     unfold start at h2
     rw[adJ (by simpa using hi),aap]at h2
     cases e:vs[i]? with
     | none=>rw[e]at h2;cases h2
     | some a=>rw[e]at h2;cases h2;rfl
   obtain⟨u,hu,rv⟩:=r.get ha
   have hp:ps[i]?=some y:=by
     rw[← S.pre,List.getElem?_take_of_lt (by lia)];show h1
   have So:ps.Nodup:=by rw[← S.pre];show S.nd.sublist (ach _ _)
   show⟨u,rv,?_⟩
   rcases S.par y (ZZ hp)with k|k
   . show .inl ⟨k,j8 So hp hu k⟩
   . obtain⟨c,e⟩:=mL (n:=s.heap.objs.size+1) k
     show .inr ⟨.inl k,c,e,?_⟩
     have q:=x.cell y c e
     rw[j6 So hp hu (by change scope.names.lookup y≠_;rw[k];decide)]at q
     show q
 . show e0.hok.fresh (aaC (x.above y c (aay h)))
 . unfold start
   change _=N.length
   rw[Z1,ZW,aa9]
   lia
def Ap {CX:ur}{P:Program}{w:World}{K:ZV}{mg:Str->Option Value}{base:Heap}{k:Nat}{f:Addr}{name qual:Str}{params:Arguments}{body:List Stmt}{scope:Scope}{dV kV doc pm cdv ct oc:Value}{an od:Option Addr}
   {osl:Array (Option Value)} {N ps:List Str} {sp:Sp} (lk:K.lookup f=some ⟨oc,od,.func (aaZ name qual params body scope dV kV doc pm an cdv ct),osl⟩) (hcd:acB K cdv qual=true) (S:az N ps scope)
   (len:∀vs H Q E,sp vs H Q E->vs.length=ps.length)
   (hbody:∀(A:Around) (outer:List Env) (s:Shared) (H:Hp) (vs:List V) (Q:VK) (E:XK),cV k (A.deeper (envOfC qual scope s.heap.objs.size f cdv))->sp vs H Q E ->
     ∃t,kZ (fz CX P w K mg base N qual scope f cdv A outer s H E) body t/\t {nx:=fun z H'=>Q .br H',rt:=Q} (start N vs) H) :
   aK P w K mg base CX (k+1) f (aaZ name qual params body scope dV kV doc pm an cdv ct) ps sp:=by
 show⟨len,fun A outer s H args us vs Q E hr e0 hb r hsp=>?_⟩
 have hl:=len _ _ _ _ hsp
 have KX:K.In s.heap:=e0.mod.kin.keeps fun b o e=>(e0.bs b o e).1
 have lim:s.heap.NoLimit:=e0.mod.nolimit.keeps fun b o e=>(e0.bs b o e).1
 have HL:∀y∈ps.zip us,scope.names.lookup y.1=some .local\/(scope.names.lookup y.1=some .cell/\((cellsFrom (s.heap.objs.size+1) scope.names []).lookup y.1).isSome=true):=fun⟨n,v⟩ hy=>by
   rcases S.par n (ab1 hy).1 with q|q
   . show .inl q
   . show .inr ⟨q,adE _ _ _ (.inl q)⟩
 show codeAny_call_function hr.depth (KX _ _ lk) rfl S.co S.gen rfl (PySem.W.codeRec_of KX hcd) (hb _ _ _ _ ?_)
 show wpAny_newFunctionEnv_cells S.kind HL fun env he s1 x=>?_
 subst he
 show⟨lim.keeps x.toInCall.keep,codeAny_func ?_⟩
 obtain⟨t,ht,hq⟩:=hbody A outer s H vs Q E (hr.deeper _) hsp
 have I:Inv (fz CX P w K mg base N qual scope f cdv A outer s H E) [] (start N vs) H s1:=sS S hr.hd e0 hl r x
 show wpAny_mono (ht [] s1 (start N vs) H _ I hq) (fun fl s' hs=>?_) fun e s' hs=>hs
 have fin:∀{σ':St} {H':Hp} {v:V} {u:Value},Inv (fz CX P w K mg base N qual scope f cdv A outer s H E) [] σ' H' s'->RelV v u->Q v H'->CE outer P w H s Q u s':=
   fun{σ' H' v u} J rv q=>⟨v,H',J.os,J.bare,J.base,J.hok,rv,q⟩
 cases fl with
 | ret u=>
   obtain⟨v,σ',H',J,rv,q⟩:=hs
   show fin J rv q
 | next=>
   obtain⟨σ',H',J,q⟩:=hs
   show fin (v:=V.br) (u:=abb) J rfl q
 | brk=>
   obtain⟨_,_,_,q⟩:=hs
   show abD q
 | cont=>
   obtain⟨_,_,_,q⟩:=hs
   show abD q
section
variable{X:Cx}{x:Str}{p pos:Pos}{e:Expr}{es:List Expr}{t:TA}{id T:String}{r:List V->Hp->VK->Prop}
def F7 (r:List V->Hp->VK->Prop)(t:TA):TE:=fun σ H Q=>t σ H fun vs H1=>r vs H1 Q
def v5 (hc:bY X (.builtin id) r)(hg:Gl X x)(hm:X.mg x=none)(hv:aaR x=some (.builtin id))(ha:PA X (e::es) t)(hn:x≠"__name__":=by left)(hdb:(x==("__debug__":Str))=false:=by left)
   (he:starEach (e::es) X.env=(false,eval e X.env)::starEach es X.env:=by rfl) (hpl:(backTo pos (starEach es X.env)).any (·.1)=false:=by rfl):PE X (.Call (.Name x p) (e::es) [] pos) (F7 r t):=by
 intro pins s σ H Q I h
 show wpAny_Call_Name_kw (eC I hg hm hv ?_ hn hdb)
 show PyProof.Rows.callWith_builtin1 (bu (ha pos pins s σ H _ I h) fun us s1 h9=>?_) he hpl
 obtain⟨vs,H1,I1,r1,q1⟩:=h9
 show hc pins s1 σ H1 vs us Q I1 r1 q1
def tR (hc:bY X (.type T) r)(hg:Gl X x)(hm:X.mg x=none)(hv:aaR x=some (.type T))(ha:PA X (e::es) t)(hn:x≠"__name__":=by left)(hdb:(x==("__debug__":Str))=false:=by left)
   (he:starEach (e::es) X.env=(false,eval e X.env)::starEach es X.env:=by rfl) (hpl:(backTo pos (starEach es X.env)).any (·.1)=false:=by rfl):PE X (.Call (.Name x p) (e::es) [] pos) (F7 r t):=by
 intro pins s σ H Q I h
 show wpAny_Call_Name_kw (eC I hg hm hv ?_ hn hdb)
 show aaF (bu (ha pos pins s σ H _ I h) fun us s1 h9=>?_) he hpl
 obtain⟨vs,H1,I1,r1,q1⟩:=h9
 show hc pins s1 σ H1 vs us Q I1 r1 q1
end
end L2
namespace HT
open PySem PyProof.Rows
section
variable{prog:Program}{w:World}{A:Around}{E:Value->Shared->Prop}{s:Shared}
def yb {t b:Addr}{vs ws:List Value}{Q:Value->Shared->Prop}(ht:IsTup s.heap t vs.toArray)(hb:IsTup s.heap b ws.toArray)(hv:vs≠[])
   (h1:ws=[]->Q (.ref t) s) (h2:ws≠[]->Q (.ref s.heap.objs.size) {s with heap:=s.heap.push {cls:=.type "tuple",data:=.seq (vs++ws).toArray} })
   (hsz:vs.length+ws.length<=sizeLine):wpAny (model prog w) A (binaryOp .Add (.ref t) (.ref b)) Q E s:=by
 obtain⟨⟨cls,dd,data,sl⟩,ho,hc,n,hd⟩:=id ht
 obtain⟨⟨Mx,FD,data2,w6⟩,jK,Hu,n2,hd2⟩:=id hb
 simp only at hc hd Hu hd2
 subst hc hd Hu hd2
 have e:vs.toArray++ws.toArray=(vs++ws).toArray:=by simp
 by_cases hw:ws=[]
 . show concat_meets ⟨_,ho,U⟩ ⟨_,jK,U⟩ adO seq_tuple_add acm acg (ab8 _ _)
     (tuple_addW1 t b vs.toArray ws.toArray n n2 dd FD sl w6 (by simpa using hv) (by simp[hw])) ⟨ho,jK,h1 hw⟩
 . show concat_meets ⟨_,ho,U⟩ ⟨_,jK,U⟩ adO seq_tuple_add acm acg (ab8 _ _)
     (tuple_addW2 t b vs.toArray ws.toArray n n2 dd FD sl w6 (by simpa using hv) (by simpa using hw) (by rw[Z5,Z5];show hsz)) ⟨ho,jK,?_⟩
   rw[e]
   show h2 hw
def bz (n d:Nat):Option Int->Nat
 | none=>d
 | some v=>if v<0 then(v+(n:Int)).toNat else min v.toNat n
def nQ (n d:Nat):bz n d none=d:=rfl
def eR (n d k:Nat):bz n d (some (k:Int))=min k n:=by
 change(if(k:Int)<0 then((k:Int)+(n:Int)).toNat else min (k:Int).toNat n)=min k n
 rw[aQ (by lia),aaq]
def EJ (n d:Nat)(hd:d<=n)(o:Option Int):bz n d o<=n:=by
 cases o with
 | none=>show hd
 | some v=>
   change(if v<0 then(v+(n:Int)).toNat else min v.toNat n)<=n
   by_cases hv:v<0
   . rw[ba hv];lia
   . rw[aQ hv];show Nat.min_le_right _ _
def qA (v:Int)(n d:Nat):(if v<0 then max (v+(n:Int)) 0 else min v (n:Int))=((bz n d (some v):Nat):Int):=by
 change(if v<0 then max (v+(n:Int)) 0 else min v (n:Int))=(((if v<0 then(v+(n:Int)).toNat else min v.toNat n):Nat):Int)
 by_cases hv:v<0
 . simp only[ba hv];lia
 . simp only[aQ hv];lia
def oH (lo hi:Option Int)(n:Nat):abS lo hi 1 (n:Int)=(((bz n 0 lo:Nat):Int),((bz n n hi:Nat):Int)):=by
 have h1:¬ ((1:Int)<0):=by lia
 unfold abS
 simp only[h1,if_false]
 show Prod.ext ?_ ?_
 . cases lo with
   | none=>rfl
   | some v=>show qA v n 0
 . cases hi with
   | none=>rfl
   | some v=>show qA v n n
def pL (i j:Nat):abn (i:Int) (j:Int) 1=j-i:=by
 unfold abn
 have h1:(1:Int) > 0:=by lia
 simp only[h1,if_true,Int.ediv_one]
 split<;>lia
def jG {v:Value}{o:Option Int}{Q:Option Int->Shared->Prop}(p:IsPart v o)(h:Q o s):wpAny (model prog w) A (Builtin.Slice.slicePartIndex v) Q E s:=by
 cases p with
 | none=>show slicePart_none h
 | int i t=>show slicePart_int h
def dC {sl:Addr}{vl vu:Value}{lo hi:Option Int}{n:Nat}{Q:Int×Int×Nat->Shared->Prop}(hs:s.heap.IsSliceOf sl vl vu .none)(pl:IsPart vl lo)(pu:IsPart vu hi)
   (h:Q (((bz n 0 lo:Nat):Int),1,bz n n hi-bz n 0 lo) s):wpAny (model prog w) A (acQ (.ref sl) (pure (n:Int))) Q E s:=by
 obtain⟨os,CQ,km,HF⟩:=id hs
 unfold acQ Builtin.Slice.sliceFields
 show wpAny_bind (wpAny_bind (wpAny_field CQ HF (x:=vl) rfl (wpAny_bind (wpAny_field CQ HF (x:=vu) rfl (wpAny_bind (wpAny_field CQ HF (x:=.none) rfl (wpAny_pure ?_)))))))
 show wpAny_bind (slicePart_none ?_)
 change wpAny _ _ (if((1:Int)==0)=true then _ else _) _ _ s
 rw[aQ (by left)]
 show wpAny_bind (jG pl (wpAny_bind (jG pu (wpAny_bind (wpAny_pure ?_)))))
 change wpAny _ _ (match abS lo hi 1 (n:Int)with|(lo,hi)=>pure (lo,(1:Int),abn lo hi 1)) _ _ s
 rw[oH lo hi n]
 change wpAny _ _ (pure (((bz n 0 lo:Nat):Int),(1:Int),abn ((bz n 0 lo:Nat):Int) ((bz n n hi:Nat):Int) 1)) _ _ s
 rw[pL]
 show wpAny_pure h
def wj (xs:Array Value)(i k:Nat):((aax k).filterMap fun(m:Nat)=>xs[((i:Int)+(m:Int)*1).toNat]?).toArray=((xs.toList.drop i).take k).toArray:=by
 have e:(fun(m:Nat)=>xs[((i:Int)+(m:Int)*1).toNat]?)=fun m=>xs[i+m]?:=by
   funext m
   have:((i:Int)+(m:Int)*1).toNat=i+m:=by lia
   rw[this]
 rw[e]
 have:=pick_run xs i k
 rw[List.filterMap_map]at this
 have e2:((fun x=>xs[x]?) ∘ fun x=>i+x)=fun m=>xs[i+m]?:=rfl
 rw[e2]at this
 rw[this]
def fN {t sl:Addr}{items:Array Value}{vl vu:Value}{lo hi:Option Int}{Q:Value->Shared->Prop}(ht:IsTup s.heap t items)(hs:s.heap.IsSliceOf sl vl vu .none)(pl:IsPart vl lo)(pu:IsPart vu hi)
   (hw:¬ (bz items.size 0 lo=0/\bz items.size items.size hi=items.size))
   (h:Q (.ref s.heap.objs.size) {s with heap:=s.heap.push {cls:=.type "tuple",data:=.seq ((items.toList.drop (bz items.size 0 lo)).take (bz items.size items.size hi-bz items.size 0 lo)).toArray} })
   (hsz:items.size<=sizeLine):wpAny (model prog w) A (getItem (.ref t) (.ref sl)) Q E s:=by
 have qL:sizeOk (.seq ((items.toList.drop (bz items.size 0 lo)).take (bz items.size items.size hi-bz items.size 0 lo)).toArray):=by
   change((items.toList.drop (bz items.size 0 lo)).take (bz items.size items.size hi-bz items.size 0 lo)).toArray.size<=sizeLine
   rw[Z5,aac,aa8,abz]
   lia
 have hj:bz items.size items.size hi<=items.size:=EJ _ _ (Z0 _) hi
 obtain⟨os,CQ,km,HF⟩:=id hs
 have Nv:s.TypeIs (.ref sl) "slice":=⟨os,CQ,km⟩
 unfold getItem
 try with_reducible show wpAny_holding ?_
 first|show wpAny_bind (wpAny_pure ?_)|skip
 show wpAny_bind (wpAny_sequenceKey ht.typeIs (by left) ?_)
 show wpAny_bind (aaA (name:=abF "__getitem__") ht.typeIs aa7
   (wpAny_call_entry aa7 ht.typeIs entry_tuple_getitem ?_ (args_tuple_getitem _ _)))
 change wpAny _ _ (acP (.ref t)>>=_) _ _ s
 show wpAny_bind (tupleItemsOf_ ht ?_)
 show wpAny_bind (wpAny_typeOf Nv ?_)
 rw[ba (by left)]
 show wpAny_bind (dC hs pl pu ?_)
 have HP:¬ ((((bz items.size 0 lo:Nat):Int)==0&&(1:Int)==1&&(bz items.size items.size hi-bz items.size 0 lo)==items.size)=true):=by
   intro q
   rw[aaY,aaY]at q
   have q1:((bz items.size 0 lo:Nat):Int)=0:=eq_of_beq q.1.1
   have q2:bz items.size items.size hi-bz items.size 0 lo=items.size:=eq_of_beq q.2
   show hw ⟨by lia,by lia⟩
 change wpAny _ _ (if(((bz items.size 0 lo:Nat):Int)==0&&(1:Int)==1&&(bz items.size items.size hi-bz items.size 0 lo)==items.size)=true then _ else _) _ _ s
 rw[aQ HP,wj]
 first
   | show wpAny_bind (m:=abq _) (wpAny_newObj_type (wpAny_pure ⟨_,rfl,wpAny_pure h⟩) qL)
   | show wpAny_bind (m:=abq _) (wpAny_newObj_type (wpAny_bind (wpAny_pure (wpAny_pure ⟨_,rfl,wpAny_pure h⟩))) qL)
   | show wpAny_bind (wpAny_bind (m:=abq _) (wpAny_newObj_type (wpAny_pure (wpAny_pure ⟨_,rfl,wpAny_pure h⟩)) qL))
   | show wpAny_bind (wpAny_bind (m:=abq _) (wpAny_newObj_type (wpAny_pure ⟨_,rfl,wpAny_pure h⟩) qL))
end
end HT
namespace L2
open PySem PySem.Spec PyProof.Rows
abbrev TO:=St->Hp->(Option Int->Hp->Prop)->Prop
def PO (X:Cx)(e:Option Expr)(t:TO):Prop:=
 ∀(pins:List (Addr×Obj)) (s:Shared) (σ:St) (H:Hp) (Q:Option Int->Hp->Prop),Inv X pins σ H s->t σ H Q ->
   wpAny (model X.prog X.w) X.A (evalPart e X.env) (fun u s'=>∃o H',Inv X pins σ H' s'/\IsPart u o/\Q o H') X.xe s
def eU:TO:=fun z H Q=>Q none H
def kQ (t:TE):TO:=fun σ H Q=>t σ H fun x H1=>∃i,x=.int i/\Q (some i) H1
section
variable{X:Cx}{e:Expr}{te:TE}{lo hi:Option Expr}{tl th:TO}{pos p2:Pos}
def fW:PO X none eU:=by
 intro pins s σ H Q I h
 rw[evalPart_none]
 show wpAny_pure ⟨none,H,I,.none,h⟩
def fX (h:PE X e te):PO X (some e) (kQ te):=by
 intro pins s σ H Q I hw
 rw[evalPart_some]
 show bu (h pins s σ H _ I hw) fun u s1 h9=>?_
 obtain⟨x,H1,I1,r1,q1⟩:=h9
 obtain⟨i,rfl,q⟩:=q1
 obtain⟨t,rfl⟩:=r1
 show⟨some i,H1,I1,.int i t,q⟩
def x8 (X:Cx)(r:V->Option Int->Option Int->Hp->VK->Prop):Prop:=
 ∀(pins:List (Addr×Obj)) (s:Shared) (σ:St) (H:Hp) (x:V) (v vl vu:Value) (lo hi:Option Int) (sl:Addr) (Q:VK),Inv X pins σ H s->RelV x v->s.heap.IsSliceOf sl vl vu .none->IsPart vl lo->IsPart vu hi->r x lo hi H Q ->
   ∃T id,typeLookup (.type T) "__getitem__"=pure (some (.builtin id))/\s.TypeIs v T/\wpAny (model X.prog X.w) X.A (getItem v (.ref sl)) (EP X pins σ Q) X.xe s
def x8.or {r r':V->Option Int->Option Int->Hp->VK->Prop}(h:x8 X r)(h':x8 X r'):x8 X (fun x lo hi H Q=>r x lo hi H Q\/r' x lo hi H Q):=by
 intro pins s σ H x v vl vu lo hi sl Q I rx hs pl pu q
 rcases q with q|q
 . show h pins s σ H x v vl vu lo hi sl Q I rx hs pl pu q
 . show h' pins s σ H x v vl vu lo hi sl Q I rx hs pl pu q
def F8 (r:V->Option Int->Option Int->Hp->VK->Prop)(te:TE)(tl th:TO):TE:=fun σ H Q=>te σ H fun x H1=>tl σ H1 fun l H2=>th σ H2 fun u H3=>r x l u H3 Q
def eG {r:V->Option Int->Option Int->Hp->VK->Prop}(hr:x8 X r)(he:PE X e te)(hl:PO X lo tl)(hu:PO X hi th):PE X (.Subscript e (.Slice lo hi none p2) pos) (F8 r te tl th):=by
 intro pins s σ H Q I h
 show Subscript_ (bu (he pins s σ H _ I h) fun v s1 h9=>?_)
 obtain⟨x,H1,I1,r1,q1⟩:=h9
 show wpAny_Slice (bu (hl pins s1 σ H1 _ I1 q1) fun vl s2 g9=>?_)
 obtain⟨l,H2,I2,pl,q2⟩:=g9
 show bu (hu pins s2 σ H2 _ I2 q2) fun vu s3 h9=>?_
 obtain⟨u,H3,I3,pu,q3⟩:=h9
 rw[evalPart_none]
 show wpAny_pure ?_
 have I4:Inv X pins σ H3 {s3 with heap:=s3.heap.push {cls:=.type "slice",data:=.fields #[vl,vu,.none]} }:=I3.kept (t':=s3.toks) fun b ob q=>ZX _ q
 obtain⟨T,id,hT,ht,hg⟩:=hr pins {s3 with heap:=s3.heap.push {cls:=.type "slice",data:=.fields #[vl,vu,.none]} } σ H3 x v vl vu l u s3.heap.objs.size Q I4 r1 (Heap.IsSliceOf.new ..) pl pu q3
 change wpAny (model X.prog X.w) X.A (subscriptTail e (.Slice lo hi none p2) v (.ref s3.heap.objs.size)) (EP X pins σ Q) X.xe {s3 with heap:=s3.heap.push {cls:=.type "slice",data:=.fields #[vl,vu,.none]} }
 show tail_any (ops:=[.ref s3.heap.objs.size,v]) ht hT hg (by with_unfolding_all rfl)
def dj (xs:List V)(lo hi:Option Int):List V:=(xs.drop (HT.bz xs.length 0 lo)).take (HT.bz xs.length xs.length hi-HT.bz xs.length 0 lo)
def gZ (xs:List V)(lo hi:Option Int):(dj xs lo hi).length<=xs.length:=by
 unfold dj
 rw[aac,aa8]
 lia
def zO (K:ZV):V->Option Int->Option Int->Hp->VK->Prop:=fun x lo hi H Q=>∃a xs,x=.ref a/\aN K H a xs /\
 ¬ (HT.bz xs.length 0 lo=0/\HT.bz xs.length xs.length hi=xs.length)/\∀p,H p=none->Q (.ref p) (upd H p (.tup (dj xs lo hi)))
def pS:x8 X (zO X.K):=by
 intro pins s σ H x v vl vu lo hi sl Q I rx hs pl pu h
 obtain⟨a,xs,rfl,hx,hw,q⟩:=h
 cases rx
 obtain⟨its,r,ht,hz⟩:=I.tuple hx
 have hlen:its.toArray.size=xs.length:=by rw[Z5];show r.length.symm
 show⟨"tuple",_,PyProof.Rows.slot_tuple_getitem.lookup,ht.typeIs,?_⟩
 show HT.fN ht hs pl pu (by rw[hlen];show hw) ?_ (by rw[hlen];show hz)
 rw[hlen]
 show⟨.ref s.heap.objs.size,_,I.laid (t':=s.toks) (o:=.tup (dj xs lo hi)) (fun b ob q=>ZX _ q) (Z0 _) ?_,U,q _ (I.hok.fresh (Z0 _))⟩
 show⟨aar (gZ xs lo hi) hz,_,(r.drop (HT.bz xs.length 0 lo)).take (HT.bz xs.length xs.length hi-HT.bz xs.length 0 lo),adh _ _⟩
def wz (K:ZV):R2:=fun x y H Q=>∃a b xs ys,x=.ref a/\y=.ref b/\aN K H a xs/\aN K H b ys/\xs≠[]/\xs.length+ys.length<=sizeLine /\
 (ys=[]->Q (.ref a) H)/\(ys≠[]->∀p,H p=none->Q (.ref p) (upd H p (.tup (xs++ys))))
def Vals.iJ {xs:List V}{us:List Value}(r:Vals xs us):us=[]↔xs=[]:=by
 cases r with
 | nil=>simp
 | cons _ _=>simp
def qV:eV X (binaryOp .Add) (wz X.K):=by
 intro pins s σ H x y v u Q I rx ry h
 obtain⟨a,b,xs,ys,rfl,rfl,ha,hb,hx,hz,q1,q2⟩:=h
 cases rx
 cases ry
 obtain⟨its,r1,p1,_⟩:=I.tuple ha
 obtain⟨fB,r2,p2,_⟩:=I.tuple hb
 show HT.yb p1 p2 (fun z=>hx (r1.iJ.mp z)) (fun z=>⟨.ref a,H,I,U,q1 (r2.iJ.mp z)⟩) (fun z=>?_) (by rw[← r1.length,← r2.length];show hz)
 show⟨.ref s.heap.objs.size,_,I.laid (t':=s.toks) (o:=.tup (xs++ys)) (fun b ob q=>ZX _ q) (Z0 _) ?_,U,q2 (fun w=>z (r2.iJ.mpr w)) _ (I.hok.fresh (Z0 _))⟩
 show⟨by rw[Z1];show hz,_,r1.append r2,adh _ _⟩
end
def sX (n:Nat)(i:Int):Option Nat:=if 0<=i then(if i<n then some i.toNat else none)else if -(n:Int)<=i then some (i+n).toNat else none
def gY {α:Type}(xs:List α)(i:Int):Option α:=(sX xs.length i).bind fun j=>xs[j]?
def lK {n:Nat}{i:Int}{j:Nat}(h:sX n i=some j):ade i n=some j/\j<n/\-(n:Int)<=i/\i<n:=by
 unfold sX at h
 by_cases h0:0<=i
 . rw[ba h0]at h
   by_cases h1:i<n
   . rw[ba h1]at h
     have e:i.toNat=j:=aas h
     show⟨by rw[seqIndex_of h0 h1,e],by lia,by lia,h1⟩
   . rw[aQ h1]at h;cases h
 . rw[aQ h0]at h
   by_cases h1 : -(n:Int)<=i
   . rw[ba h1]at h
     have e:(i+n).toNat=j:=aas h
     show⟨by rw[seqIndex_neg (by lia) h1,e],by lia,h1,by lia⟩
   . rw[aQ h1]at h;cases h
def fJ {α:Type}{xs:List α}{i:Int}{v:α}(h:gY xs i=some v):∃j,ade i xs.length=some j/\xs[j]?=some v/\j<xs.length/\-(xs.length:Int)<=i/\i<xs.length:=by
 unfold gY at h
 cases e:sX xs.length i with
 | none=>rw[e]at h;cases h
 | some j=>
   rw[e]at h
   obtain⟨h1,h2,h3,h4⟩:=lK e
   show⟨j,h1,h,h2,h3,h4⟩
def aZ {α:Type}{xs:List α}{j:Nat}{v:α}(h:xs[j]?=some v):gY xs (j:Int)=some v:=by
 have hj:j<xs.length:=(List.getElem?_eq_some_iff.mp h).1
 have e:sX xs.length (j:Int)=some j:=by
   unfold sX
   rw[ba (by lia),ba (by lia)];simp
 unfold gY;rw[e];show h
def qk (b:Expr):Prop:=∀o i,subscripted b false o i=operate [o,i] (getItem o i)
def KJ (X:Cx)(r:R2):Prop:=
 ∀(value slice:Expr) (pins:List (Addr×Obj)) (s:Shared) (σ:St) (H:Hp) (x y:V) (v u:Value) (Q:VK),Inv X pins σ H s->RelV x v->RelV y u->r x y H Q ->
   subscripted slice false v u=operate [v,u] (getItem v u)->wpAny (model X.prog X.w) X.A (subscriptTail value slice v u) (EP X pins σ Q) X.xe s
def KL (X:Cx)(id:String)(r:V->List V->Hp->VK->Prop):Prop:=
 ∀(pins:List (Addr×Obj)) (s:Shared) (σ:St) (H:Hp) (x:V) (xs:List V) (v:Value) (us:List Value) (Q:VK),Inv X pins σ H s->RelV x v->Vals xs us->r x xs H Q ->
   wpAny (model X.prog X.w) X.A (call (.builtin id) (v::us)) (EP X pins σ Q) X.xe s
section
variable{X:Cx}{a b:Expr}{ta tb:TE}{pos:Pos}
def Jv {r:R2}(hr:KJ X r)(ha:PE X a ta)(hb:PE X b tb)(hs:qk b):PE X (.Subscript a b pos) (Bz r ta tb):=by
 intro pins s σ H Q I h
 show Subscript_ (B6 ha hb I h fun v u s2 x y H2 I2 rx ry q=>hr a b pins s2 σ H2 x y v u Q I2 rx ry q (hs _ _))
def JL (K:ZV):R2:=fun x y H Q=>∃p xs i v,x=.ref p/\y=.int i/\aE K H p xs/\gY xs i=some v/\Q v H
def JM (K:ZV):R2:=fun x y H Q=>∃p xs i v,x=.ref p/\y=.int i/\aN K H p xs/\gY xs i=some v/\Q v H
def yA:KJ X (JL X.K):=by
 intro value slice pins s σ H x y v u Q I rx ry h hs
 obtain⟨p,xs,i,z,rfl,rfl,hq,he,q⟩:=h
 cases rx
 obtain⟨t,rfl⟩:=ry
 obtain⟨its,r,pl,hz⟩:=I.list hq
 obtain⟨j,h1,h2,h3,h4,h5⟩:=fJ he
 obtain⟨w,ew,rw'⟩:=r.get h2
 have hl:=r.length
 have hn:=lO
 have fin:EP X pins σ Q w s:=⟨z,H,I,rw',q⟩
 by_cases h0:0<=i
 . have hj:i.toNat=j:=by
     rw[seqIndex_of h0 h5]at h1
     show aas h1
   show item_listR pl.isList h0 (by lia) (by rw[hj];simpa using ew) fin hs
 . have hj:(i+(its.toArray.size:Int)).toNat=j:=by
     rw[seqIndex_neg (by lia) h4]at h1
     rw[Z5,← hl]
     show aas h1
   show subscriptTail_builtinR (x:=w) pl.isList.typeIs slot_list_getitem.lookup
     (wpAny_getItem_list_neg (Q:=fun r s'=>r=w/\EP X pins σ Q r s') pl.isList (by lia) (by rw[Z5]<;>lia) (by lia) (by rw[hj];simpa using ew) ⟨rfl,fin⟩) hs
def C9:KJ X (JM X.K):=by
 intro value slice pins s σ H x y v u Q I rx ry h hs
 obtain⟨p,xs,i,z,rfl,rfl,hq,he,q⟩:=h
 cases rx
 obtain⟨t,rfl⟩:=ry
 obtain⟨its,r,pl,hz⟩:=I.tuple hq
 obtain⟨j,h1,h2,h3,h4,h5⟩:=fJ he
 obtain⟨w,ew,rw'⟩:=r.get h2
 have hl:=r.length
 have hn:=lO
 have fin:EP X pins σ Q w s:=⟨z,H,I,rw',q⟩
 show subscriptTail_builtinR (x:=w) pl.typeIs slot_tuple_getitem.lookup
   (getItem_tuple (j:=j) (Q:=fun r s'=>r=w/\EP X pins σ Q r s') pl (by lia) (by lia) (by rw[Z5,← hl];show h1) (by simpa using ew) ⟨rfl,fin⟩) hs
def oZ (its:List Value)(n j:Nat)(u:Value):aaG (·.setIfInBounds j u) {cls:=.type "list",data:=.seq its.toArray n}={cls:=.type "list",data:=.seq (its.set j u).toArray n}:=by
 simp[aaG]
def Inv.lst {pins:List (Addr×Obj)}{σ:St}{H:Hp}{s:Shared}{p:Addr}{xs:List V}(I:Inv X pins σ H s)(h:H p=some (.lst xs)) :
   ∃(its:List Value) (n:Nat),Vals xs its/\s.heap.get? p=some {cls:=.type "list",data:=.seq its.toArray n}/\xs.length<=sizeLine:=by
 obtain⟨z,its,n,r,e⟩:=I.hok p _ h
 show⟨its,n,r,e,z⟩
def Inv.Dn {pins:List (Addr×Obj)}{σ:St}{H:Hp}{s:Shared}{p:Addr}{xs ys:List V}{its its':List Value}{n n':Nat}{f:Obj->Obj}(I:Inv X pins σ H s)(h:H p=some (.lst xs))
   (ho:s.heap.get? p=some {cls:=.type "list",data:=.seq its.toArray n}) (hf:f {cls:=.type "list",data:=.seq its.toArray n}={cls:=.type "list",data:=.seq its'.toArray n'}) (r:Vals ys its') (hz:ys.length<=sizeLine) (t:Nat) :
   Inv X pins σ (upd H p (.lst ys)) {s with heap:=s.heap.update p f,toks:=t}:=by
 have e:(s.heap.update p f).get? p=some {cls:=.type "list",data:=.seq its'.toArray n'}:=by
   rw[abo f ho (by rw[hf]<;>rfl),hf]
 show I.write (x:=p) (e:=p) (by rw[h];trivial) (.inl rfl) (fun b u hb q=>(abk _ _ (Ne.symm hb)).trans q) ⟨_,e⟩ ?_
 show⟨hz,its',n',r,e⟩
def rp:V->V->V->Hp->(Hp->Prop)->Prop:=fun o i v H Q=>∃p xs k j,o=.ref p/\i=.int k/\H p=some (.lst xs)/\sX xs.length k=some j/\Q (upd H p (.lst (xs.set j v)))
def set_list:Gp X rp:=by
 intro pins s σ H o i v ov iv u Q I ro ri rv h
 obtain⟨p,xs,k,j,rfl,rfl,hp,hj,q⟩:=h
 cases ro
 obtain⟨t,rfl⟩:=ri
 obtain⟨its,n,r,ho,hz⟩:=I.lst hp
 obtain⟨h1,h2,h3,h4⟩:=lK hj
 have hl:=r.length
 have hn:=lO
 have I':Inv X pins σ (upd H p (.lst (xs.set j v))) {s with heap:=s.heap.update p (aaG (·.setIfInBounds j u))}:=
   I.Dn hp ho (oZ its n j u) (r.set rv j) (by rw[aaD];show hz) s.toks
 by_cases h0:0<=k
 . have hk:k.toNat=j:=by
     rw[seqIndex_of h0 h4]at h1
     show aas h1
   show PySem.W.ki_setAt ho h0 (by lia) (by rw[Z5,← hl];show h4) (by rw[hk];show⟨_,I',q⟩)
 . have hk:(k+(its.toArray.size:Int)).toNat=j:=by
     rw[seqIndex_neg (by lia) h3]at h1
     rw[Z5,← hl]
     show aas h1
   show PySem.W.ki_setBack ho (by lia) (by rw[Z5,← hl];show h3) (by lia) (by rw[hk];show⟨_,I',q⟩)
def mj (lo hi:Option Int)(n:Nat):(sliceBounds lo hi none n).1=((HT.bz n 0 lo:Nat):Int)/\(sliceBounds lo hi none n).2.1=((HT.bz n n hi:Nat):Int)/\(sliceBounds lo hi none n).2.2=1:=by
 show⟨?_,?_,U⟩
 . cases lo with
   | none=>simp[sliceBounds,HT.bz]
   | some i=>
     simp only[sliceBounds,HT.bz,Option.getD_none,show(1:Int) > 0 by left,if_true]
     by_cases h:i<0
     . simp only[h,if_true]<;>lia
     . simp only[h,if_false]<;>lia
 . cases hi with
   | none=>simp[sliceBounds,HT.bz]
   | some i=>
     simp only[sliceBounds,HT.bz,Option.getD_none,show(1:Int) > 0 by left,if_true]
     by_cases h:i<0
     . simp only[h,if_true]<;>lia
     . simp only[h,if_false]<;>lia
def jW (its:List Value)(lo hi:Option Int):slicePick its.toArray lo hi none=((its.drop (HT.bz its.length 0 lo)).take (HT.bz its.length its.length hi-HT.bz its.length 0 lo)).toArray:=by
 obtain⟨h1,h2,h3⟩:=mj lo hi its.toArray.size
 unfold slicePick
 rw[h1,h2,h3]
 simp only[sliceRange_one,pick_run,Z5]<;>rfl
def ED (K:ZV):V->Option Int->Option Int->Hp->VK->Prop:=fun x lo hi H Q=>∃a xs,x=.ref a/\aE K H a xs/\∀p,H p=none->Q (.ref p) (upd H p (.lst (dj xs lo hi)))
def rE:x8 X (ED X.K):=by
 intro pins s σ H x v vl vu lo hi sl Q I rx hs pl pu h
 obtain⟨a,xs,rfl,hx,q⟩:=h
 cases rx
 obtain⟨its,r,ht,hz⟩:=I.list hx
 have hlen:=r.length
 show⟨"list",_,slot_list_getitem.lookup,ht.isList.typeIs,?_⟩
 show wpAny_getItem_list_slice ht.isList hs pl pu .none (by simp) ?_ (by rw[Z5]<;>lia)
 rw[jW,← hlen]
 show⟨.ref s.heap.objs.size,_,I.laid (t':=s.toks) (o:=.lst (dj xs lo hi)) (fun b ob q=>ZX _ q) (Z0 _) ?_,U,q _ (I.hok.fresh (Z0 _))⟩
 show⟨aar (gZ xs lo hi) hz,_,0,(r.drop (HT.bz xs.length 0 lo)).take (HT.bz xs.length xs.length hi-HT.bz xs.length 0 lo),Z6 _ rfl⟩
def cC:V->Bool
 | .br=>true
 | .bl _=>true
 | .int _=>true
 | .str _=>true
 | _=>false
def fA:V->V->Bool
 | .br,.br=>true
 | .bl a,.bl b=>a==b
 | .bl a,.int b=>(if a then 1 else 0)==b
 | .int a,.bl b=>a==(if b then 1 else 0)
 | .int a,.int b=>a==b
 | .str a,.str b=>a==b
 | _,_=>false
def oS {A:Around}{s:Shared}{y x:V}{u v:Value}(ry:RelV y u)(rx:RelV x v)(fy:cC y=true)(fx:cC x=true):SeqAt.EqAt A s u v (fA y x):=by
 cases y with
 | br=>
   cases ry
   cases x with
   | br=>cases rx;show SeqAt.EqAt.same _
   | bl b=>cases rx;show SeqAt.EqAt.none_bool b
   | int b=>obtain⟨t,rfl⟩:=rx;show SeqAt.EqAt.none_int b t
   | str b=>obtain⟨t,rfl⟩:=rx;show SeqAt.EqAt.none_str b t
   | _=>show aB (show false=true from fx) Z8
 | bl a=>
   cases ry
   cases x with
   | br=>cases rx;show SeqAt.EqAt.bool_none a
   | bl b=>cases rx;show SeqAt.EqAt.bool_bool a b
   | int b=>obtain⟨t,rfl⟩:=rx;show SeqAt.EqAt.bool_int a b t
   | str b=>obtain⟨t,rfl⟩:=rx;show SeqAt.EqAt.bool_str a b t
   | _=>show aB (show false=true from fx) Z8
 | int a=>
   obtain⟨t',rfl⟩:=ry
   cases x with
   | br=>cases rx;show SeqAt.EqAt.int_none a t'
   | bl b=>cases rx;show SeqAt.EqAt.int_bool a t' b
   | int b=>obtain⟨t,rfl⟩:=rx;show SeqAt.EqAt.int_int a t' b t
   | str b=>obtain⟨t,rfl⟩:=rx;show adQ a t' b t
   | _=>show aB (show false=true from fx) Z8
 | str a=>
   obtain⟨t',rfl⟩:=ry
   cases x with
   | br=>cases rx;show SeqAt.EqAt.str_none a t'
   | bl b=>cases rx;show SeqAt.EqAt.str_bool a t' b
   | int b=>obtain⟨t,rfl⟩:=rx;show adP a t' b t
   | str b=>obtain⟨t,rfl⟩:=rx;show SeqAt.EqAt.str_str a t' b t
   | _=>show aB (show false=true from fx) Z8
 | _=>show aB (show false=true from fy) Z8
def oT (x:V)(u:Value):Bool:=match u with
 | .none=>fA .br x
 | .bool b=>fA (.bl b) x
 | .int i _=>fA (.int i) x
 | .str z _=>fA (.str z) x
 | _=>false
def uT {x y:V}{u:Value}(r:RelV y u)(f:cC y=true):oT x u=fA y x:=by
 cases y with
 | br=>cases r;rfl
 | bl b=>cases r;rfl
 | int i=>obtain⟨t,rfl⟩:=r;rfl
 | str z=>obtain⟨t,rfl⟩:=r;rfl
 | _=>show aB (show false=true from f) Z8
theorem fI {x:V}:∀{xs:List V} {us:List Value},Vals xs us->xs.all cC=true->us.any (oT x)=xs.any fun y=>fA y x
 | _,_,.nil,_=>rfl
 | y::xs,u::us,.cons r t,f=>by
   rw[List.all_cons,aaY]at f
   rw[abg,abg,uT r f.1,fI t f.2]
theorem eE {A:Around}{s:Shared}{x:V}{v:Value}(rx:RelV x v)(fx:cC x=true):∀{xs:List V} {us:List Value},Vals xs us->xs.all cC=true->∀u∈us,SeqAt.EqAt A s u v (oT x u)
 | _,_,.nil,_=>fun u hu=>by cases hu
 | y::xs,u::us,.cons r t,f=>fun u' hu=>by
   rw[List.all_cons,aaY]at f
   rcases List.mem_cons.mp hu with rfl|hu
   . rw[uT r f.1];show oS r rx f.1 fx
   . show eE rx fx t f.2 u' hu
def oC (x:V)(xs:List V):Bool:=xs.any fun y=>fA y x
def LS (K:ZV)(neg:Bool):R2:=fun x y H Q=>∃p xs,y=.ref p/\(aE K H p xs\/aN K H p xs)/\cC x=true/\xs.all cC=true/\Q (.bl (if neg then !oC x xs else oC x xs)) H
def tN:eV X (compareOp .In) (LS X.K false):=by
 intro pins s σ H x y v u Q I rx ry h
 obtain⟨p,xs,rfl,hq,fx,fs,q⟩:=h
 cases ry
 rcases hq with hq|hq
 . obtain⟨its,r,pl,hz⟩:=I.list hq
   show SeqAt.in_listAt (oT x) pl.isList (fun w hw=>eE rx fx r fs w (by simpa using hw)) ⟨.bl _,H,I,U,?_⟩
   rw[show its.toArray.any (oT x)=its.any (oT x)by simp,fI r fs]
   show q
 . obtain⟨its,r,pl,hz⟩:=I.tuple hq
   show SeqAt.in_tupleAt (oT x) pl (fun w hw=>eE rx fx r fs w (by simpa using hw)) ⟨.bl _,H,I,U,?_⟩
   rw[show its.toArray.any (oT x)=its.any (oT x)by simp,fI r fs]
   show q
def lX:eV X (compareOp .NotIn) (LS X.K true):=by
 intro pins s σ H x y v u Q I rx ry h
 obtain⟨p,xs,rfl,hq,fx,fs,q⟩:=h
 cases ry
 rcases hq with hq|hq
 . obtain⟨its,r,pl,hz⟩:=I.list hq
   show SeqAt.notIn_listAt (oT x) pl.isList (fun w hw=>eE rx fx r fs w (by simpa using hw)) ⟨.bl _,H,I,U,?_⟩
   rw[show its.toArray.any (oT x)=its.any (oT x)by simp,fI r fs]
   show q
 . obtain⟨its,r,pl,hz⟩:=I.tuple hq
   show SeqAt.notIn_tupleAt (oT x) pl (fun w hw=>eE rx fx r fs w (by simpa using hw)) ⟨.bl _,H,I,U,?_⟩
   rw[show its.toArray.any (oT x)=its.any (oT x)by simp,fI r fs]
   show q
def k9:bY X (.builtin "len") (fun xs H Q=>∃p ys,xs=[.ref p]/\(aE X.K H p ys\/aN X.K H p ys)/\Q (.int ys.length) H):=by
 intro pins s σ H xs us Q I r h
 obtain⟨p,ys,rfl,hq,q⟩:=h
 obtain⟨u,rfl,rx⟩:=vals1 r
 cases rx
 have hn:=lO
 rcases hq with hq|hq
 . obtain⟨its,r',pl,hz⟩:=I.list hq
   have hlen:=r'.length
   show Calls.call_len_list pl.isList (by simp only[Z5]<;>lia) ⟨.int ys.length,H,I.tok _,⟨s.toks+1,by rw[Z5,hlen]⟩,q⟩
 . obtain⟨its,r',pl,hz⟩:=I.tuple hq
   have hlen:=r'.length
   show len_tuple pl (by simp only[Z5]<;>lia) ⟨.int ys.length,H,I.tok _,⟨s.toks+1,by rw[Z5,hlen]⟩,q⟩
def lh:bY X (.type "list") (fun xs H Q=>∃p ys,xs=[.ref p]/\(aE X.K H p ys\/aN X.K H p ys)/\∀l,H l=none->Q (.ref l) (upd H l (.lst ys))):=by
 intro pins s σ H xs us Q I r h
 obtain⟨p,ys,rfl,hq,q⟩:=h
 obtain⟨u,rfl,rx⟩:=vals1 r
 cases rx
 have fin:∀(its:List Value),Vals ys its->ys.length<=sizeLine->∀(h':Heap) (c':Nat),(∀b o',s.heap.get? b=some o'->h'.get? b=some o') ->
     h'.get? s.heap.objs.size=some {cls:=.type "list",dict:=none,data:=.seq its.toArray c',slots:=#[]}->EP X pins σ Q (.ref s.heap.objs.size) {s with heap:=h'}:=fun its r' hz h' c' kp e=>
   ⟨.ref s.heap.objs.size,_,I.laid (t':=s.toks) kp (Z0 _) (show aR X.prog X.w _ h' _ (.lst ys)from⟨hz,its,c',r',e⟩),rfl,q _ (I.hok.fresh (Z0 _))⟩
 rcases hq with hq|hq
 . obtain⟨its,r',pl,hz⟩:=I.list hq
   have hlen:=r'.length
   obtain⟨o,ho,hc,n,hd⟩:=pl.isList
   show call_list_seq p (.inl rfl) ho hc hd (fun h' c' kp e=>fin its r' hz h' c' kp e) (by simp only[Z5]<;>lia)
 . obtain⟨its,r',pl,hz⟩:=I.tuple hq
   have hlen:=r'.length
   obtain⟨o,ho,hc,n,hd⟩:=pl
   show call_list_seq p (.inr rfl) ho hc hd (fun h' c' kp e=>fin its r' hz h' c' kp e) (by simp only[Z5]<;>lia)
def jO:bY X (.type "tuple") (fun xs H Q=>∃p ys,xs=[.ref p]/\((aE X.K H p ys/\∀l,H l=none->Q (.ref l) (upd H l (.tup ys)))\/(aN X.K H p ys/\Q (.ref p) H))):=by
 intro pins s σ H xs us Q I r h
 obtain⟨p,ys,rfl,h⟩:=h
 obtain⟨u,rfl,rx⟩:=vals1 r
 cases rx
 rcases h with⟨hq,q⟩|⟨hq,q⟩
 . obtain⟨its,r',pl,hz⟩:=I.list hq
   have hlen:=r'.length
   show call_tuple_list pl.isList (fun h' kp=>?_) (by simp only[Z5]<;>lia)
   have I1:Inv X pins σ H {s with heap:=h'}:=I.kept (t':=s.toks) kp
   have I2:Inv X pins σ (upd H h'.objs.size (.tup ys)) {s with heap:=h'.push {cls:=.type "tuple",data:=.seq its.toArray} }:=
     I1.laid (t':=s.toks) (fun b o e=>ZX _ e) (Z0 _) (show aR X.prog X.w _ _ _ (.tup ys)from⟨hz,its,r',adh _ _⟩)
   show⟨.ref h'.objs.size,_,I2,U,q _ (I1.hok.fresh (Z0 _))⟩
 . obtain⟨its,r',pl,hz⟩:=I.tuple hq
   show call_tuple_same pl ⟨.ref p,H,I,U,q⟩
def PX (K:ZV)(T:String)(x:V)(H:Hp):Prop:=match x with
 | .str _=>T="str"
 | .int _=>T="int"
 | .ref p=>(T="list"/\∃xs,aE K H p xs)\/(T="tuple"/\∃o,K.lookup p=some o/\o.cls=.type "tuple"/\o.dict=none) \/
     (T="dict"/\((∃kvs,H p=some (.dK kvs))\/∃kvs,H p=some (.dT kvs)))\/(T="set"/\∃S n,H p=some (.set S n))
 | _=>False
def xA {pins:List (Addr×Obj)}{σ:St}{H:Hp}{s:Shared}{T:String}{x:V}{v:Value}(I:Inv X pins σ H s)(r:RelV x v)(ty:PX X.K T x H) :
   s.TypeIs v T/\∀a,v=.ref a->∃ob,s.heap.get? a=some ob/\ob.dict=none:=by
 cases x with
 | str z=>
   obtain⟨t,rfl⟩:=r
   cases(show T="str" from ty)
   show⟨typeIs_str s z t,fun y e=>nomatch e⟩
 | int i=>
   obtain⟨t,rfl⟩:=r
   cases(show T="int" from ty)
   show⟨typeIs_int s i t,fun y e=>nomatch e⟩
 | ref p=>
   cases r
   rcases ty with⟨rfl,xs,hq⟩|⟨rfl,o,hk,hc,hd⟩|⟨rfl,hk⟩|⟨rfl,S,n,hk⟩
   . obtain⟨its,_,pl,_⟩:=I.list hq
     show⟨pl.isList.typeIs,fun a e=>?_⟩
     cases e
     obtain⟨o,n,e,c,hd,_⟩:=pl
     show⟨o,e,hd⟩
   . show⟨⟨o,I.jk p o hk,hc⟩,fun a e=>?_⟩
     cases e
     show⟨o,I.jk _ o hk,hd⟩
   . have z:∃o,s.heap.get? p=some o/\o.ExactDict:=by
       rcases hk with⟨kvs,hk⟩|⟨kvs,hk⟩
       . obtain⟨_,_,_,_,o,_,_,e,ex,_⟩:=I.hok p _ hk
         show⟨o,e,ex⟩
       . obtain⟨_,_,_,_,o,_,_,e,ex,_⟩:=I.hok p _ hk
         show⟨o,e,ex⟩
     obtain⟨o,e,ex⟩:=z
     show⟨⟨o,e,ex.1⟩,fun a e2=>?_⟩
     cases e2
     show⟨o,e,ex.2.1⟩
   . obtain⟨o,_,_,_,e,ex,_⟩:=I.hok p _ hk
     show⟨⟨o,e,ex.1⟩,fun a e2=>?_⟩
     cases e2
     show⟨o,e,ex.2.1⟩
 | _=>show abD ty
def Fd (K:ZV)(T:String)(r:V->List V->Hp->VK->Prop)(to:TE):TE:=fun σ H Q=>to σ H fun x H1=>PX K T x H1/\r x [] H1 Q
def Fc (K:ZV)(T:String)(r:V->List V->Hp->VK->Prop)(to:TE)(t:TA):TE:=fun σ H Q=>to σ H fun x H1=>PX K T x H1/\t σ H1 fun xs H2=>r x xs H2 Q
variable{o e:Expr}{es:List Expr}{to:TE}{t:TA}{name:Str}{apos cpos:Pos}{T id:String}{r:V->List V->Hp->VK->Prop}
def v3 (pa:PlainAttrs T)(slot:Slot T name id)(hty:typeOf (.builtin id)=pure (.type "method_descriptor"))(hm:KL X id r)(ho:PE X o to)
   (hbase:aaX o name X.env (eval o X.env)=eval o X.env:=by rfl) (hline:(apos.endLine==cpos.line)=true:=by rfl):PE X (.Call (.Attribute o name apos) [] [] cpos) (Fd X.K T r to):=by
 intro pins s σ H Q I h
 show wpAny_Call_method0_late hbase hline (bu (ho pins s σ H _ I h) fun v s1 h9=>?_)
 obtain⟨x,H1,I1,r1,ty,q1⟩:=h9
 obtain⟨h1,h2⟩:=xA I1 r1 ty
 show⟨T,id,pa,slot,hty,h1,h2,abi rfl (PySem.evalArgs_none (hm pins s1 σ H1 x [] v [] Q I1 r1 .nil q1))⟩
def AZ (pa:PlainAttrs T)(slot:Slot T name id)(hty:typeOf (.builtin id)=pure (.type "method_descriptor"))(hm:KL X id r)(ho:PE X o to)(ha:PA X (e::es) t)
   (hbase:aaX o name X.env (eval o X.env)=eval o X.env:=by rfl)
   (hfew:((backTo cpos (starEach (e::es) X.env)).all (fun x=>!x.1)&&(backToKw cpos (keywordEach [] X.env)).all (fun x=>x.1.isSome)
     && decide ((e::es).length+([]:List Keyword).length+(if([]:List Keyword).isEmpty then 0 else 1)<30))=true:=by rfl)
   (hline:(apos.endLine==cpos.line)=true:=by rfl) (hs:starEach (e::es) X.env=(false,eval e X.env)::starEach es X.env:=by rfl) (hplain:(backTo cpos (starEach es X.env)).any (·.1)=false:=by rfl) :
   PE X (.Call (.Attribute o name apos) (e::es) [] cpos) (Fc X.K T r to t):=by
 intro pins s σ H Q I h
 show wpAny_Call_method_late hbase hfew hline rfl (bu (ho pins s σ H _ I h) fun v s1 h9=>?_)
 obtain⟨x,H1,I1,r1,ty,q1⟩:=h9
 obtain⟨h1,h2⟩:=xA I1 r1 ty
 show⟨T,id,pa,slot,hty,h1,h2,?_⟩
 have hA:=ha cpos pins s1 σ H1 _ I1 q1
 rw[hs]at hA ⊢
 show abi (by change(false || (backTo cpos (starEach es X.env)).any (·.1))=false;rw[hplain]<;>rfl) (abu ?_)
 show bu hA fun us s2 h9=>?_
 obtain⟨vs,H2,I2,r2,q2⟩:=h9
 show hm pins s2 σ H2 x vs v us Q I2 r1 r2 q2
end
def Fx (X:Cx)(id:String)(r:V->List V->Hp->VK->Prop):Prop:=
 ∀(pins:List (Addr×Obj)) (s:Shared) (σ:St) (H:Hp) (x:V) (xs:List V) (v:Value) (us:List Value) (Q:VK),Inv X pins σ H s->RelV x v->Vals xs us->r x xs H Q ->
   wpAny (model X.prog X.w) X.A (call (.builtin id) (v::us)) (EP X pins σ Q) X.xe s
def Vals.one:∀{x:V} {us:List Value},Vals [x] us->∃u,us=[u]/\RelV x u:=by
 intro x us h
 cases h with
 | cons r h=>cases h;show⟨_,rfl,r⟩
def Vals.two:∀{x y:V} {us:List Value},Vals [x,y] us->∃u v,us=[u,v]/\RelV x u/\RelV y v:=by
 intro x y us h
 cases h with
 | cons r h=>cases h with
   | cons q h=>cases h;show⟨_,_,rfl,r,q⟩
def Vals.zero:∀{us:List Value},Vals [] us->us=[]
 | _,.nil=>rfl
theorem Vals.eraseIdx:∀{xs:List V} {us:List Value} (i:Nat),Vals xs us->Vals (xs.eraseIdx i) (us.eraseIdx i)
 | _,_,_,.nil=>.nil
 | _,_,0,.cons _ t=>t
 | _,_,i+1,.cons r t=>.cons r (Vals.eraseIdx i t)
theorem Vals.rep {xs:List V}{us:List Value}(h:Vals xs us):∀k:Nat,Vals (Z4 k xs).flatten (Z4 k us).flatten
 | 0=>.nil
 | k+1=>by
   rw[aaz,aaz,abL,abL]
   show Vals.append h (Vals.rep h k)
theorem kB {α:Type}:∀(l:List α) (i:Nat),(l.eraseIdx i).length<=l.length
 | [],_=>Z0 _
 | _::_,0=>Nat.le_succ _
 | _::r,i+1=>Nat.succ_le_succ (kB r i)
theorem foldl_rep (its:List Value):∀(k:Nat) (acc:List Value),
   List.foldl (fun x1 x2=>x1++x2) acc.toArray (Z4 k its.toArray)=(acc++(Z4 k its).flatten).toArray
 | 0,acc=>by simp
 | k+1,acc=>by
   have e:acc.toArray++its.toArray=(acc++its).toArray:=by simp
   have e2:(acc++its)++(Z4 k its).flatten=acc++(Z4 (k+1) its).flatten:=by
     rw[aaz,abL,List.append_assoc]
   rw[← e2,← foldl_rep its k (acc++its),← e,aaz,List.foldl_cons]
section
variable{X:Cx}{pins:List (Addr×Obj)}{σ:St}{H:Hp}{s:Shared}{l b:Addr}{xs ys zs:List V}
def Inv.vy {its its':List Value}{n:Nat}{f:Array Value->Array Value}{t':Nat}(I:Inv X pins σ H s)(hH:H l=some (.lst xs))
   (e:s.heap.get? l=some {cls:=.type "list",data:=.seq its.toArray n}) (hf:f its.toArray=its'.toArray) (hv:Vals ys its') (hz:ys.length<=sizeLine) :
   Inv X pins σ (upd H l (.lst ys)) {s with heap:=s.heap.update l (aaG f),toks:=t'}:=by
 have q:=PySem.IsL.update e f
 rw[hf]at q
 show I.write (x:=l) (e:=l) (by rw[hH];show trivial) (.inl rfl) (fun b' u hb hu=>(abk s.heap (aaG f) (Ne.symm hb)).trans hu) ⟨_,q⟩ ?_
 show⟨hz,its',_,hv,q⟩
def Inv.Im {its:List Value}{t':Nat}(I:Inv X pins σ H s)(hv:Vals ys its)(hz:ys.length<=sizeLine) :
   Inv X pins σ (upd H s.heap.objs.size (.lst ys)) {s with heap:=s.heap.push {cls:=.type "list",data:=.seq its.toArray},toks:=t'}:=
 I.laid (fun z z q=>ZX _ q) (Z0 _) ⟨hz,its,0,hv,Z6 _ rfl⟩
def Inv.fresh (I:Inv X pins σ H s):H s.heap.objs.size=none:=I.hok.fresh (Z0 _)
def Inv.lP (I:Inv X pins σ H s)(hH:H l=some (.lst xs)):xs.length<=sizeLine/\∃(its:List Value) (n:Nat),Vals xs its/\xs.length=its.length/\s.heap.get? l=some {cls:=.type "list",data:=.seq its.toArray n}:=by
 obtain⟨z,its,n,r,e⟩:=I.hok l _ hH
 show⟨z,its,n,r,r.length,e⟩
def nE {n:Nat}(h:n<=sizeLine):abr n=false:=by
 unfold abr
 show eX (by lia)
end
section
variable{X:Cx}
def rf:V->List V->Hp->VK->Prop:=fun x vs H Q=>∃l xs y,x=.ref l/\vs=[y]/\H l=some (.lst xs)/\xs.length<sizeLine/\Q .br (upd H l (.lst (xs++[y])))
def kC:Fx X "list.append" rf:=by
 intro pins s σ H x vs v us Q I rx rv h
 obtain⟨l,xs,y,rfl,rfl,hH,hz,q⟩:=h
 cases rx
 obtain⟨u,rfl,ru⟩:=rv.one
 obtain⟨z,its,n,r,hl,e⟩:=I.lP hH
 show call_meets F.slot_list_append ⟨_,e,U⟩ F.entry_list_append (F.args_list_append_2 _ _) (PySem.list_append l its.toArray n u (by rw[Z5];lia)) ⟨e,?_⟩
 show⟨.br,_,I.vy (its':=its++[u]) hH e (by simp) (r.append (.cons ru .nil)) ?_,U,q⟩
 rw[Z1,abP]
 lia
def rj:V->List V->Hp->VK->Prop:=fun x vs H Q=>∃l b xs zs,x=.ref l/\vs=[.ref b]/\H l=some (.lst xs)/\H b=some (.lst zs)/\xs.length+zs.length<=sizeLine/\Q .br (upd H l (.lst (xs++zs)))
def tG:Fx X "list.extend" rj:=by
 intro pins s σ H x vs v us Q I rx rv h
 obtain⟨l,b,xs,zs,rfl,rfl,hH,hB,hz,q⟩:=h
 cases rx
 obtain⟨u,rfl,ru⟩:=rv.one
 cases ru
 obtain⟨z,its,n,r,hl,e⟩:=I.lP hH
 obtain⟨z2,fB,n2,r2,AB,e2⟩:=I.lP hB
 have hsz:its.toArray.size+fB.toArray.size<=sizeLine:=by rw[Z5,Z5];lia
 have ve:¬ (!its.toArray.isEmpty&&abr (its.toArray.size+fB.toArray.size))=true:=by
   rw[nE hsz,ace]
   show Z8
 show call_meets F.slot_list_extend ⟨_,e,U⟩ F.entry_list_extend (F.args_list_extend_2 _ _)
   (AutoSeq1.list_extend_list_list_0 l its.toArray n b fB.toArray n2 ve (by rw[Z5];lia) (by lia)) ⟨e,e2,?_⟩
 show⟨.br,_,I.vy (its':=its++fB) hH e (by simp) (r.append r2) ?_,U,q⟩
 rw[Z1]
 lia
def wG:V->List V->Hp->VK->Prop:=fun x vs H Q=>∃l xs i k y,x=.ref l/\vs=[.int i]/\H l=some (.lst xs)/\-(2^63)<=i/\i<2^63/\ade i xs.length=some k/\xs[k]?=some y/\Q y (upd H l (.lst (xs.eraseIdx k)))
def vD:Fx X "list.pop" wG:=by
 intro pins s σ H x vs v us Q I rx rv h
 obtain⟨l,xs,i,k,y,rfl,rfl,hH,h1,h2,hk,hy,q⟩:=h
 cases rx
 obtain⟨u,rfl,ru⟩:=rv.one
 obtain⟨t,rfl⟩:=ru
 obtain⟨z,its,n,r,hl,e⟩:=I.lP hH
 obtain⟨w,hw,rw'⟩:=r.get hy
 show call_meets F.slot_list_pop ⟨_,e,U⟩ F.entry_list_pop (F.args_list_pop_2 _ _)
   (MeetsSeq.list_pop_at l its.toArray n i t k w (fitsIndex_both h1 h2) (by rw[Z5,← hl];show hk) (by rw[← acA];show hw) (by rw[Z5];lia)) ⟨e,?_⟩
 show⟨y,_,I.vy (its':=its.eraseIdx k) hH e ?_ (r.eraseIdx k) ?_,rw',q⟩
 . change its.toArray.eraseIdxIfInBounds k=(its.eraseIdx k).toArray
   rw[List.eraseIdxIfInBounds_toArray]
 . have:=kB xs k
   lia
def wA:V->List V->Hp->VK->Prop:=fun x vs H Q=>∃l xs,x=.ref l/\vs=[]/\H l=some (.lst xs)/\Q .br (upd H l (.lst []))
def vB:Fx X "list.clear" wA:=by
 intro pins s σ H x vs v us Q I rx rv h
 obtain⟨l,xs,rfl,rfl,hH,q⟩:=h
 cases rx
 have Oj:=rv.zero
 subst Oj
 obtain⟨z,its,n,r,hl,e⟩:=I.lP hH
 show call_meets F.slot_list_clear ⟨_,e,U⟩ F.entry_list_clear (F.args_list_clear_1 _) (AutoSeq1.list_clear_list_0 l its.toArray n (by rw[Z5];lia)) ⟨e,?_⟩
 show⟨.br,_,I.vy (its':=[]) (ys:=[]) hH e rfl .nil (aan _),U,q⟩
def JI:R2:=fun x y H Q=>∃l b xs zs,x=.ref l/\y=.ref b/\H l=some (.lst xs)/\H b=some (.lst zs)/\xs.length+zs.length<=sizeLine/\∀p,H p=none->Q (.ref p) (upd H p (.lst (xs++zs)))
def DQ:eV X (binaryOp .Add) JI:=by
 intro pins s σ H x y v u Q I rx ry h
 obtain⟨l,b,xs,zs,rfl,rfl,hH,hB,hz,q⟩:=h
 cases rx
 cases ry
 obtain⟨z,its,n,r,hl,e⟩:=I.lP hH
 obtain⟨z2,fB,n2,r2,AB,e2⟩:=I.lP hB
 show PySem.P.add_list e e2 ?_ (by rw[Z5,Z5];lia)
 have ea:its.toArray++fB.toArray=(its++fB).toArray:=by simp
 rw[ea]
 show⟨.ref _,_,I.Im (t':=s.toks) (r.append r2) (by rw[Z1];lia),U,q _ I.fresh⟩
def JO:R2:=fun x y H Q=>∃l k xs,x=.ref l/\y=.int k/\H l=some (.lst xs)/\-(2^63)<=k/\k<2^63/\xs.length*k.toNat<=sizeLine /\
 ∀p,H p=none->Q (.ref p) (upd H p (.lst (Z4 k.toNat xs).flatten))
def len_rep {α:Type}(xs:List α)(k:Nat):(Z4 k xs).flatten.length=k*xs.length:=by
 induction k with
 | zero=>simp
 | succ k ih=>rw[aaz,abL,Z1,ih,Nat.succ_mul,Nat.add_comm]
def DZ:eV X (binaryOp .Mult) JO:=by
 intro pins s σ H x y v u Q I rx ry h
 obtain⟨l,k,xs,rfl,rfl,hH,h1,h2,hz,q⟩:=h
 cases rx
 obtain⟨t,rfl⟩:=ry
 obtain⟨z,its,n,r,hl,e⟩:=I.lP hH
 have hlen:its.toArray.size*k.toNat<=sizeLine:=by rw[Z5,← hl];show hz
 have hcap:¬ its.toArray.size*k.toNat > (2^63-1)/8:=by
   have:(sizeLine:Nat)<=(2^63-1)/8:=by left
   lia
 have NP:¬ (!abj k)=true:=by
   rw[fitsIndex_both h1 h2]
   show Z8
 have ve:¬ abr (its.toArray.size*k.toNat)=true:=by
   rw[nE hlen]
   show Z8
 have vg:List.foldl (fun x1 x2=>x1++x2) #[] (Z4 (if its.toArray.isEmpty=true then 0 else k.toNat) its.toArray)=(Z4 k.toNat its).flatten.toArray:=by
   have f0:∀m:Nat,List.foldl (fun x1 x2=>x1++x2) #[] (Z4 m its.toArray)=(Z4 m its).flatten.toArray:=fun m=>by
     have:=foldl_rep its m []
     rw[List.nil_append]at this
     show this
   rw[f0]
   cases its with
   | nil=>simp
   | cons a r'=>rw[aQ (by simp)]
 show wpAny_binaryOp_repeat_ref (T:="list") (U:="int") (by left) ⟨_,e,U⟩ (fun s'=>typeIs_int s' k t) noFill_list_mul F.fills_int_mul F.slot_int_rmul repeat_list F.slot_int_index.lookup
   (call_meets F.slot_int_rmul (typeIs_int s k t) F.entry_int_rmul (F.args_int_rmul_2 _ _) (int___rmul___int_list k t l its.toArray n)
     ⟨e,rfl,⟨_,e,rfl⟩,call_meets F.slot_list_mul ⟨_,e,rfl⟩ F.entry_list_mul (F.args_list_mul_2 _ _) (AutoListH.list___mul___list_int_3 l its.toArray n k t NP hcap ve) ⟨e,?_⟩⟩)
 rw[vg]
 show⟨.ref _,_,I.Im (t':=s.toks) (r.rep k.toNat) (by rw[len_rep,Nat.mul_comm];show hz),U,q _ I.fresh⟩
end
end L2
namespace Qi
open PySem PySem.W PySem.Calls PyProof.Rows
def iy {P:Params}{h:Heap}:∀(ns:List Int) (vs:List Value),WellAll P h vs (ns.map WData.int)->IntsAre vs ns:=by
 intro ns
 induction ns with
 | nil=>
   intro vs w
   rw[ad5]at w
   cases w
   show .nil
 | cons n ns ih=>
   intro vs w
   rw[aav]at w
   cases w with
   | cons a b=>
     cases a
     show .cons _ _ (ih _ b)
def uc {l:OpenLaw}{n:Nat}(hn:l.most=some n){P:Params}{h:Heap}{args:List WData}{vals:List Value}
   (hpre:l.row.toRowW.claim.pre args=true) (hwl:WellAll P h vals args) :
   ∃a vs ns,vals=[aab a]/\args=[WData.list (ns.map WData.int)]/\h.get? a=some {cls:=.type "list",data:=.seq vs.toArray}/\IntsAre vs ns/\ns.length<=n:=by
 have Wx:WShape.hasAll [] args [.list .int]=true:=(pre_splitW hpre).1
 have hc:l.pre.holds [] {args:=args}=true:=(pre_splitW hpre).2
 obtain⟨d,r,rfl,h1,h2⟩:=hasAllW_cons Wx
 obtain rfl:=hasAllW_nil h2
 obtain⟨xs,rfl,h3⟩:=hasW_list h1
 obtain⟨ns,rfl⟩:=items_int h3
 have hlen:ns.length<=n:=by
   unfold OpenLaw.pre at hc
   have h4:(WTm.not (.lt (.lit (.int (n:Int))) (.len (.arg 0)))).holds [] {args:=[.list (ns.map .int)]}=true:=by
     have h4:=(holds_andW hc).1
     rw[hn]at h4
     show h4
   have h5:=condW_of h4 (w_not (w_lt w_lit (w_len_list (w_arg rfl))))
   rw[ZW]at h5
   show Nat.le_of_not_lt fun q=>?_
   have q':(n:Int)<((ns.length:Nat):Int):=by lia
   first
     | (rw[dE q']at h5;show aB h5 (by left))
     | (simp at h5;lia)
 cases hwl with
 | cons w1 w2=>
   cases w2
   cases w1 with
   | list ho hall=>show⟨_,_,ns,rfl,rfl,ho,iy ns _ hall,hlen⟩
def tT (l:OpenLaw)(args:List WData):l.row.toRowW.claim.post args (.bool true) args=true:=
 postW_of (r:=l.row.toRowW) (X:=(true==true))
   (show WShape.has [] (.bool true) .bool=true by first|rfl|decide|simp[WShape.has,WShape.arms,WShape.armsAll])
   (show(WTm.eq .res (.lit (.bool true))).value [] {args:=args,res:=some (.bool true),after:=args}=some (.bool (true==true))from w_eq_bool (w_res rfl) w_lit) rfl
def mK {l:OpenLaw}{n:Nat}{q:Program}{loose:List Str}{XP:(Str->Option Value)->Heap->Prop}{YP:World->Heap->Prop}{d:DefRec}
   (hn:l.most=some n) (hdf:d.params.defaults=[])
   (call:∀(w:World) (s₀ s₁:Shared) (mg mb:Str->Option Value) (fa:Addr) (o:Obj) (pm cd doc:Value) (a:Addr) (vs:List Value) (ns:List Int),
     Ground q loose [] XP w s₀ mg mb s₁.heap->YP w s₁.heap ->
     s₁.heap.get? fa=some o->o.data=.func (docDef d.name d.params d.body d.scope pm cd doc)->s₁.heap.CodeRec cd d.name->mg d.name=some (.ref fa) ->
     s₁.heap.get? a=some {cls:=.type "list",data:=.seq vs.toArray}->IntsAre vs ns->ns.length<=n->s₁.gens=#[] ->
     codeAny (model l.prog w) callerA (.call (.ref fa) ⟨[.ref a],[]⟩) (fun r s'=>r=.ok (.ret (.bool true))/\OldK s₁.heap s'.heap/\s'.os=s₁.os/\AllBare s'.gens) s₁) :
   WalkO q loose XP YP l.row.toRowW d [] (fun f vs=>PySem.call f vs):=by
 intro w s₀ s₁ mg mb G Y8 fa o pm cd doc dV kV ho hd hcd hD hmg hg args vals as hpre Wd Ze hwl Zc
 obtain rfl:dV=.none:=Dflts.none hD hdf
 obtain rfl:kV=.none:=Dflts.noKw hD
 obtain⟨a,vs,ns,rfl,rfl,CK,hints,hlen⟩:=uc hn hpre hwl
 show enter_call (codeAny_mono (call w s₀ s₁ mg mb fa o pm cd doc a vs ns G Y8 ho (fd_plain hd) hcd hmg CK hints hlen hg) fun r s' hq=>?_)
 obtain⟨rfl,h2,h3,h4⟩:=hq
 show⟨.inl ⟨.bool true,.bool true,[],U,fun z=>rfl,.bool true,tT l _,fun z=>⟨List.Pairwise.nil,fun z hm=>(nomatch hm)⟩⟩,h2,h3,h4⟩
end Qi
namespace L2
open PySem PySem.Spec PyProof.Rows
theorem kW:∀{vs:List Value} {ns:List Int},IntsAre vs ns->Vals (ns.map V.int) vs
 | _,_,.nil=>.nil
 | _,_,.cons n t h=>.cons ⟨t,rfl⟩ (kW h)
def BZ (H:Hp):Prop:=∀b,H b=none\/∃o xs,H b=some (.frz o (.lst xs))
def vq {P:Program}{w:World}{K:ZV}{mg mb:Str->Option Value}{CX:ur}{k:Nat}{fa a:Addr}{fd:aaa}{x:Str}{sp:Sp}{s₁:Shared}{vs:List Value}{ns:List Int}
   (KX:K.In s₁.heap) (hns:s₁.heap.Ns aaN mg) (hb:s₁.heap.Ns builtinsNs mb) (hbb:∀x:Str,x≠"__name__"->mb x=aaR x) (hlim:s₁.heap.NoLimit) (hg:s₁.gens=#[])
   (ha:s₁.heap.get? a=some {cls:=.type "list",data:=.seq vs.toArray}) (hi:IntsAre vs ns) (hl:ns.length<=sizeLine) (hr:cV k callerA)
   (F:∀base:Heap,K.In base->base.Ns aaN mg->aK P w K mg base CX k fa fd [x] sp) (hbind:∀(s:Shared) (u:Value),BindsTo s fd ⟨[u],[]⟩ [(x,u)])
   (hsp:∀H:Hp,BZ H->aE K H a (ns.map V.int)->sp [.ref a] H (fun v y=>v=.bl true) fun y y y=>False)
   (hCX:∀H e s',CX [] H s₁ (fun y y y=>False) e s'->False) :
   codeAny (model P w) callerA (.call (.ref fa) ⟨[.ref a],[]⟩) (fun r s'=>r=.ok (.ret (.bool true))/\OldK s₁.heap s'.heap/\s'.os=s₁.os/\AllBare s'.gens) s₁:=by
 have rv:=kW hi
 have OJ:=hi.length
 have core:∀H:Hp,BZ H->aE K H a (ns.map V.int)->eL P w H s₁.heap->(∀b,H b≠none->b=a)->(H a≠none->K.lookup a=none) ->
     codeAny (model P w) callerA (.call (.ref fa) ⟨[.ref a],[]⟩) (fun r s'=>r=.ok (.ret (.bool true))/\OldK s₁.heap s'.heap/\s'.os=s₁.os/\AllBare s'.gens) s₁:=by
   intro H hO hS hok hA hK
   have qr:∀{b:Addr} {o:Obj},s₁.heap.get? b=some o->H b=none->(lG s₁.heap H).get? b=some o:=fun e n=>vd e n
   have noA:∀{b:Addr} {o:Obj} {es:Array DictEntry} {ep:Nat},s₁.heap.get? b=some o->o.data=.dict es ep->H b=none:=fun{b o es ep} e d=>by
     cases q:H b with
     | none=>rfl
     | some u=>
       have e':b=a:=hA b (by rw[q];simp)
       subst e'
       rw[ha]at e;cases e
       have d':Data.seq vs.toArray _=Data.dict es ep:=d
       cases d'
   have nsK:∀{b:Addr} {m:Str->Option Value},s₁.heap.Ns b m->(lG s₁.heap H).Ns b m:=fun{b m} ⟨o,es,ep,e,d,r⟩=>⟨o,es,ep,qr e (noA e d),d,r⟩
   have Ru:K.In (lG s₁.heap H):=fun b o e=>qr (KX b o e) (by
     cases q:H b with
     | none=>rfl
     | some u=>
       have e':b=a:=hA b (by rw[q];simp)
       subst e'
       rw[hK (by rw[q];simp)]at e;cases e)
   have hM:Mod K mg (lG s₁.heap H):=⟨Ru,nsK hns,⟨mb,nsK hb,hbb⟩,let⟨mc,h1,h2⟩:=hlim;⟨mc,nsK h1,h2⟩⟩
   have e0:xX P w K mg (lG s₁.heap H) callerA [] s₁ H:=⟨rfl,hM,fun b o e=>yR e,Nat.le_of_eq (sQ _ _),trivial,fun b hb=>aB (show b∈([]:List Addr)from hb) (by simp),hok,.of_eq hg⟩
   show codeAny_mono ((F _ Ru (nsK hns)).run callerA [] s₁ H ⟨[.ref a],[]⟩ [.ref a] [.ref a] _ _ hr e0 (hbind s₁ (.ref a)) (.cons rfl .nil) (hsp H hO hS)) fun r s' h=>?_
   cases r with
   | error e=>show(hCX H e s' h).elim
   | ok fl=>
     cases fl with
     | next=>show abD h
     | brk=>show abD h
     | cont=>show abD h
     | ret u=>
       obtain⟨v,H',os,bare,un,Oa,r',q⟩:=h
       have q':v=.bl true:=q
       subst q'
       obtain rfl:u=aa6 true:=r'
       show⟨U,OldK.of_keep fun b o e=>?_,os,bare⟩
       cases q:H b with
       | none=>show un.keep b o e q (by intro z;show aB (show b∈([]:List Addr)from z) (by simp)) (by simp)
       | some u=>
         rcases hO b with z|⟨ob,xs,z⟩
         . rw[q]at z;cases z
         . have z2:=un.frzs b ob _ z
           obtain⟨e1,_⟩:=hok b _ z
           obtain⟨e2,_⟩:=Oa b _ z2
           rw[e]at e1;cases e1
           show e2
 cases hk:K.lookup a with
 | some o=>
   have e:=KX a o hk
   rw[ha]at e
   cases e
   show core (fun y=>none) (fun y=>.inl rfl) (.inr ⟨_,vs.toArray,_,hk,U,U,U,by rw[Z5,OJ];show hl,by simpa using rv⟩) (fun b u z=>by have z':(none:Option HO)=some u:=z;cases z') (fun b z=>aB rfl z) fun z=>aB rfl z
 | none=>
   show core (fun b=>if b=a then some (.frz {cls:=.type "list",data:=.seq vs.toArray} (.lst (ns.map V.int)))else none) (fun b=>?_) (.inl (.inr ⟨{cls:=.type "list",data:=.seq vs.toArray},ba rfl⟩)) (fun b u z=>?_) (fun b z=>?_) fun y=>hk
   . by_cases hb:b=a
     . show .inr ⟨_,_,ba hb⟩
     . show .inl (aQ hb)
   . by_cases hb:b=a
     . have z':=(ba hb).symm.trans z
       cases z'
       subst hb
       show⟨ha,by rw[ZW];show hl,vs,_,rv,ha⟩
     . have z':=(aQ hb).symm.trans z
       cases z'
   . by_cases hb:b=a
     . show hb
     . show aB (aQ hb) z
def Ab {l:PySem.W.OpenLaw}{n k:Nat}{q:Program}{loose:List Str}{XP:(Str->Option Value)->Heap->Prop}{YP:World->Heap->Prop}{d:DefRec}{K:Params->ZV}{CX:World->ur}{sp:World->Sp}{x:Str}
   (hn:l.most=some n) (hn2:n<=sizeLine) (hdf:d.params.defaults=[]) (hr:cV k callerA)
   (hY:∀(w:World) (h:Heap),YP w h->(K w.params).In h)
   (F:∀(w:World) (mg:Str->Option Value) (fa:Addr) (h:Heap),(K w.params).In h->h.Ns aaN mg->mg d.name=some (.ref fa) ->
     ∃fd:aaa,(∀(s:Shared) (u:Value),BindsTo s fd ⟨[u],[]⟩ [(x,u)]) /\
       ∀base:Heap,(K w.params).In base->base.Ns aaN mg->aK l.prog w (K w.params) mg base (CX w) k fa fd [x] (sp w))
   (hsp:∀(w:World) (H:Hp) (a:Addr) (ns:List Int),ns.length<=n->BZ H->aE (K w.params) H a (ns.map V.int)->sp w [.ref a] H (fun v z=>v=.bl true) fun z z z=>False)
   (hCX:∀(w:World) (H:Hp) (s:Shared) (e:Value) (s':Shared),CX w [] H s (fun z z z=>False) e s'->False) :
   PySem.W.WalkO q loose XP YP l.row.toRowW d [] (fun f vs=>PySem.call f vs):=by
 show Qi.mK hn hdf fun w s₀ s₁ mg mb fa o pm cd doc a vs ns G Y8 ho hd hcd hmg CK hints hlen hg=>?_
 have KX:=hY w _ Y8
 obtain⟨fd,hb,hF⟩:=F w mg fa _ KX G.T.g hmg
 show vq KX G.T.g G.T.b G.T.builtins G.T.nolimit hg CK hints (aar hlen hn2) hr hF hb (fun H hO hS=>hsp w H a ns hlen hO hS) fun H e s'=>hCX w H s₁ e s'
def cu (s:Stmt):Arguments:=match s with
 | .FunctionDef _ a _ _ _ _ _ _ _ _=>a
 | _=>{posonlyargs:=[],args:=[],vararg:=none,kwonlyargs:=[],kw_defaults:=[],kwarg:=none,defaults:=[]}
def bP (s:Stmt):List Stmt:=match s with
 | .FunctionDef _ _ b _ _ _ _ _ _ _=>b
 | _=>[]
def aj (s:Stmt):Scope:=match s with
 | .FunctionDef _ _ _ _ _ _ sc _ _ _=>sc
 | _=>{kind:=.function,names:=[],isGenerator:=false,isCoroutine:=false}
abbrev bJ:ur:=fun _ _ _ _ _ _=>False
abbrev E0:XK:=fun _ _ _=>False
def Jq {X:Cx}:Passes bJ X E0:=fun z z z z z z z h=>h.elim
structure bQ (K:ZV)(x qual:Str)(st:Stmt)(f:Addr)(fd:aaa):Prop where
 ex:∃(oc:Value) (od:Option Addr) (kV doc pm:Value) (an:Option Addr) (cdv ct:Value) (osl:Array (Option Value)),
   fd=aaZ x qual (cu st) (bP st) (aj st) .none kV doc pm an cdv ct/\K.lookup f=some ⟨oc,od,.func fd,osl⟩/\acB K cdv qual=true
 kp:abH K (.ref f)=true
section
variable{P:Program}{w:World}{K:ZV}{mg:Str->Option Value}{base:Heap}
def bQ.ok {x qual:Str}{st:Stmt}{f:Addr}{fd:aaa}{N ps:List Str}{k:Nat}{sp:Sp}(F:bQ K x qual st f fd)(S:az N ps (aj st))(len:∀vs H Q E,sp vs H Q E->vs.length=ps.length)
   (hbody:∀(cdv:Value) (A:Around) (outer:List Env) (s:Shared) (H:Hp) (vs:List V) (Q:VK) (E:XK),cV k (A.deeper (envOfC qual (aj st) s.heap.objs.size f cdv))->sp vs H Q E ->
     ∃t,kZ (fz bJ P w K mg base N qual (aj st) f cdv A outer s H E).IC (bP st) t/\t {nx:=fun z H'=>Q .br H',rt:=Q} (start N vs) H):aK P w K mg base bJ (k+1) f fd ps sp:=by
 obtain⟨oc,od,kV,doc,pm,an,cdv,ct,osl,rfl,lk,hcd⟩:=F.ex
 show Ap lk hcd S len fun A outer s H vs Q E hr hsp=>?_
 obtain⟨t,h,q⟩:=hbody cdv A outer s H vs Q E hr hsp
 show⟨t,h.IC,q⟩
def bQ.df {x qual:Str}{st:Stmt}{f:Addr}{fd:aaa}{N ps:List Str}{k:Nat}{sp:Sp}(F:bQ K x qual st f fd)(S:az N ps (aj st))(hbody:∀(cdv:Value) (A:Around) (outer:List Env) (s:Shared) (H:Hp) (vs:List V) (Q:VK) (E:XK),cV k (A.deeper (envOfC qual (aj st) s.heap.objs.size f cdv))->sp vs H Q E->∃t,kZ (fz bJ P w K mg base N qual (aj st) f cdv A outer s H E).IC (bP st) t/\t {nx:=fun z H'=>Q .br H',rt:=Q} (start N vs) H)(len:∀vs H Q E,sp vs H Q E->vs.length=ps.length:=by intro vs H Q E h;repeat first|(obtain⟨rfl,_⟩:=h;rfl)|obtain⟨_,h⟩:=h):aK P w K mg base bJ (k+1) f fd ps sp:=F.ok S len hbody
def bQ.binds {x qual:Str}{st:Stmt}{f:Addr}{fd:aaa}{ps:List Str}(F:bQ K x qual st f fd)
   (h:∀(kV doc pm:Value) (an:Option Addr) (cdv ct:Value) (us:List Value),us.length=ps.length->adf (aaZ x qual (cu st) (bP st) (aj st) .none kV doc pm an cdv ct) ⟨us,[]⟩=pure (ps.zip us)):Binds K fd ps []:=by
 obtain⟨oc,od,kV,doc,pm,an,cdv,ct,osl,rfl,lk,hcd⟩:=F.ex
 show .all (h kV doc pm an cdv ct)
def Ck {x qual:Str}{st:Stmt}{f:Addr}{oc:Value}{od an:Option Addr}{osl:Array (Option Value)}{kV doc pm cdv ct:Value}(l:K.lookup f=some ⟨oc,od,.func (aaZ x qual (cu st) (bP st) (aj st) .none kV doc pm an cdv ct),osl⟩)
   (c:acB K cdv qual=true) (k:abH K (.ref f)=true):bQ K x qual st f (aaZ x qual (cu st) (bP st) (aj st) .none kV doc pm an cdv ct):=⟨⟨oc,od,kV,doc,pm,an,cdv,ct,osl,rfl,l,c⟩,k⟩
end
def aC {n:Nat}(h:n<=1000):n<sizeLine:=Nat.lt_of_le_of_lt h (by left)
def d6 {A B:Prop}(h:B):if false=true then A else B:=by
 rw[aQ Z8]
 show h
def cJ {A B:Prop}(h:A):if true=true then A else B:=by
 rw[ba rfl]
 show h
def bE {c A B:Prop}[Decidable c](h1:c->A)(h2:¬ c->B):if c then A else B:=by
 by_cases h:c
 . rw[ba h]
   show h1 h
 . rw[aQ h]
   show h2 h
def ag (H H':Hp):Prop:=∀b o,H b=some o->H' b=some o
section
variable{κ:Type}[DecidableEq κ]
def aJ (kvs:List (κ×V))(k:κ):Option V:=(kvs.find? fun kv=>decide (kv.1=k)).map (·.2)
def putK (kvs:List (κ×V))(k:κ)(v:V):List (κ×V):=
 if(kvs.any fun kv=>decide (kv.1=k))=true then kvs.map (fun kv=>if kv.1=k then(kv.1,v)else kv)else kvs++[(k,v)]
def cj (kvs:List (κ×V))(k:κ):List (κ×V):=kvs.filter fun kv=>decide (kv.1≠k)
def bN {p:κ×V}{r:List (κ×V)}{k:κ}(e:p.1=k):aJ (p::r) k=some p.2:=by simp[aJ,abG,e]
def bM {p:κ×V}{r:List (κ×V)}{k:κ}(e:¬ p.1=k):aJ (p::r) k=aJ r k:=by simp[aJ,abG,e]
theorem b9 (k:κ):∀kvs:List (κ×V),(kvs.any fun kv=>decide (kv.1=k))=(aJ kvs k).isSome
 | []=>rfl
 | p::r=>by
   rw[abg]
   by_cases e:p.1=k
   . simp only[bN e,dE e,Bool.true_or,Option.isSome_some]
   . rw[bM e,eX e,Bool.false_or];show b9 k r
theorem oh (k j:κ)(y:V):∀kvs:List (κ×V),aJ (kvs.map fun kv=>if kv.1=k then(kv.1,y)else kv) j=(aJ kvs j).map fun x=>if j=k then y else x
 | []=>rfl
 | p::r=>by
   have ih:=oh k j y r
   rw[aav]
   by_cases h:p.1=k
   . rw[ba h]
     by_cases e:p.1=j
     . rw[bN (p:=(p.1,y)) e,bN e,aaS,ba (e.symm.trans h)]
     . rw[bM (p:=(p.1,y)) e,bM e,ih]
   . rw[aQ h]
     by_cases e:p.1=j
     . rw[bN (p:=p) e,bN e,aaS,aQ (fun z=>h (e.trans z))]
     . rw[bM (p:=p) e,bM e,ih]
theorem kU (k j:κ)(y:V):∀kvs:List (κ×V),aJ kvs k=none->aJ (kvs++[(k,y)]) j=if j=k then some y else aJ kvs j
 | [],_=>by
   by_cases e:k=j
   . rw[ba e.symm];show bN (p:=(k,y)) e
   . rw[aQ (fun z=>e z.symm)];show bM (p:=(k,y)) e
 | p::r,hn=>by
   rw[List.cons_append]
   have hk:¬ p.1=k:=fun z=>by rw[bN z]at hn;cases hn
   rw[bM hk]at hn
   have ih:=kU k j y r hn
   by_cases e:p.1=j
   . rw[bN e,bN e,aQ (fun z=>hk (e.trans z))]
   . rw[bM e,bM e,ih]
def aW (kvs:List (κ×V))(k j:κ)(y:V):aJ (putK kvs k y) j=if j=k then some y else aJ kvs j:=by
 unfold putK
 by_cases a:(kvs.any fun kv=>decide (kv.1=k))=true
 . rw[ba a,oh]
   rw[b9]at a
   by_cases e:j=k
   . obtain⟨x,hx⟩:=Option.isSome_iff_exists.mp a
     rw[ba e,e,hx,aaS,ba rfl]
   . rw[aQ e]
     cases aJ kvs j with
     | none=>rfl
     | some x=>rw[aaS,aQ e]
 . rw[aQ a]
   show kU k j y kvs ?_
   rw[b9]at a
   cases q:aJ kvs k with
   | none=>rfl
   | some x=>rw[q]at a;show(a rfl).elim
def bj (kvs:List (κ×V))(k:κ)(v:V):(putK kvs k v).length<=kvs.length+1:=by
 unfold putK
 split
 . rw[ZW];lia
 . rw[Z1,aau,List.length_nil];lia
def jB {kvs:List (κ×V)}{k:κ}(v:V)(h:aJ kvs k=none):putK kvs k v=kvs++[(k,v)]:=by
 unfold putK
 rw[b9,h]
 show aQ (by left)
def fH.sU {o:Option V}{u:Option Value}(r:fH o u):o.isSome=u.isSome:=by
 cases o with
 | none=>cases u with
   | none=>rfl
   | some _=>show(show False from r).elim
 | some _=>cases u with
   | none=>show(show False from r).elim
   | some _=>rfl
theorem fH.getD {o:Option V}{u:Option Value}{d:V}{d':Value}(r:fH o u)(rd:RelV d d'):RelV (o.getD d) (u.getD d'):=by
 cases o with
 | none=>cases u with
   | none=>show rd
   | some _=>show(show False from r).elim
 | some _=>cases u with
   | none=>show(show False from r).elim
   | some _=>show r
def KV.val {kvs:List (κ×V)}{vs:List (κ×Value)}(r:KV kvs vs)(k:κ):fH (aJ kvs k) (valueAt vs k):=by
 unfold KV at r
 induction r with
 | nil=>show aae
 | @cons p q ps qs h t ih=>
   obtain⟨h1,h2⟩:=h
   by_cases e:p.1=k
   . have e':q.1=k:=h1.symm.trans e
     have b:valueAt (q::qs) k=some q.2:=by simp[valueAt,abG,e']
     rw[bN e,b];show h2
   . have e':¬ q.1=k:=fun z=>e (h1.trans z)
     have b:valueAt (q::qs) k=valueAt qs k:=by simp[valueAt,abG,e']
     rw[bM e,b];show ih
theorem KV.any {kvs:List (κ×V)}{vs:List (κ×Value)}(r:KV kvs vs)(k:κ):(kvs.any fun kv=>decide (kv.1=k))=vs.any fun kv=>decide (kv.1=k):=by
 unfold KV at r
 induction r with
 | nil=>rfl
 | cons h t ih=>rw[abg,abg,ih,h.1]
def KV.EF {kvs:List (κ×V)}{vs:List (κ×Value)}(r:KV kvs vs)(k:κ){y:V}{u:Value}(ry:RelV y u) :
   KV (kvs.map fun kv=>if kv.1=k then(kv.1,y)else kv) (vs.map fun kv=>if kv.1=k then(kv.1,u)else kv):=by
 unfold KV at r ⊢
 induction r with
 | nil=>show .nil
 | @cons p q ps qs h t ih=>
   rw[aav,aav]
   show .cons ?_ ih
   obtain⟨h1,h2⟩:=h
   by_cases e:p.1=k
   . rw[ba e,ba (h1.symm.trans e)];show⟨h1,ry⟩
   . rw[aQ e,aQ (fun z=>e (h1.trans z))];show⟨h1,h2⟩
def KV.put {kvs:List (κ×V)}{vs:List (κ×Value)}(r:KV kvs vs)(k:κ){y:V}{u:Value}(ry:RelV y u):KV (putK kvs k y) (stored vs k u):=by
 unfold putK stored
 rw[r.any k]
 by_cases e:(vs.any fun kv=>decide (kv.1=k))=true
 . rw[ba e,ba e];show r.EF k ry
 . rw[aQ e,aQ e];show Paired.snoc r ⟨rfl,ry⟩
def KV.drop {kvs:List (κ×V)}{vs:List (κ×Value)}(r:KV kvs vs)(k:κ):KV (cj kvs k) (without vs k):=by
 unfold KV at r ⊢
 unfold cj without
 induction r with
 | nil=>show .nil
 | @cons p q ps qs h t ih=>
   obtain⟨h1,h2⟩:=h
   rw[abU,abU]
   by_cases e:p.1=k
   . have a:¬ decide (p.1≠k)=true:=by simp[e]
     have b:¬ decide (q.1≠k)=true:=by simp[h1.symm.trans e]
     rw[aQ a,aQ b];show ih
   . have e':¬ q.1=k:=fun z=>e (h1.trans z)
     have a:decide (p.1≠k)=true:=by simp[e]
     have b:decide (q.1≠k)=true:=by simp[e']
     rw[ba a,ba b];show .cons ⟨h1,h2⟩ ih
def KV.length {kvs:List (κ×V)}{vs:List (κ×Value)}(r:KV kvs vs):kvs.length=vs.length:=Paired.length r
def uR (kvs:List (κ×V))(k:κ):(cj kvs k).length<=kvs.length:=acE _ _
end
def hV {P:Program}{w:World}{k:Key}{u:Value}(r:RelV (kV k) u):(aI P w).is k u=true:=by
 cases k with
 | inl i=>obtain⟨t,e⟩:=(show ∃t,u=acy i t from r);subst e;show ny P w i t
 | inr x=>obtain⟨t,e⟩:=(show ∃t,u=acU x t from r);subst e;show nz P w x t
theorem kr {P:Program}{w:World}:∀{ks:List Key} {us:List Value},Vals (ks.map kV) us->ItemsAre (aI P w) ks us
 | [],_,r=>by rw[ad5]at r;cases r;show .nil
 | k::ks,_,r=>by
   rw[aav]at r
   cases r with
   | cons h t=>show .cons (hV h) (kr t)
abbrev KT (H:Hp):List (List Key×V)->List (List Key×Addr×Value)->Prop:=Paired fun p q=>p.1=q.1/\H q.2.1=some (.tup (p.1.map kV))/\RelV p.2 q.2.2
def KT.val {H:Hp}{kvs:List (List Key×V)}{xs:List (List Key×Addr×Value)}(r:KT H kvs xs)(k:List Key):fH (aJ kvs k) ((atKey xs k).map (·.2)):=by
 induction r with
 | nil=>show aae
 | @cons p q ps qs h t ih=>
   obtain⟨h1,_,h2⟩:=h
   by_cases e:p.1=k
   . have e':q.1=k:=h1.symm.trans e
     have b:atKey (q::qs) k=some q.2:=by simp[atKey,abG,e']
     rw[bN e,b];show h2
   . have e':¬ q.1=k:=fun z=>e (h1.trans z)
     have b:atKey (q::qs) k=atKey qs k:=by simp[atKey,abG,e']
     rw[bM e,b];show ih
def KT.EF {H:Hp}{kvs:List (List Key×V)}{xs:List (List Key×Addr×Value)}(r:KT H kvs xs)(k:List Key){y:V}{u:Value}(ry:RelV y u) :
   KT H (kvs.map fun kv=>if kv.1=k then(kv.1,y)else kv) (xs.map (putAt k u)):=by
 induction r with
 | nil=>show .nil
 | @cons p q ps qs h t ih=>
   rw[aav,aav]
   show .cons ?_ ih
   obtain⟨h1,h2,h3⟩:=h
   unfold putAt
   by_cases e:p.1=k
   . rw[ba e,ba (h1.symm.trans e)];show⟨h1,h2,ry⟩
   . rw[aQ e,aQ (fun z=>e (h1.trans z))];show⟨h1,h2,h3⟩
def KT.put {H:Hp}{kvs:List (List Key×V)}{xs:List (List Key×Addr×Value)}(r:KT H kvs xs)(k:List Key){b:Addr}{y:V}{u:Value}(hb:H b=some (.tup (k.map kV)))(ry:RelV y u) :
   KT H (putK kvs k y) (storedH xs k b u):=by
 have e:(kvs.any fun kv=>decide (kv.1=k))=(atKey xs k).isSome:=by
   rw[b9,(r.val k).sU,Option.isSome_map]
 unfold putK storedH
 rw[e]
 by_cases q:(atKey xs k).isSome=true
 . rw[ba q,ba q];show r.EF k ry
 . rw[aQ q,aQ q];show Paired.snoc r ⟨rfl,hb,ry⟩
def KT.keeps {H H':Hp}{kvs:List (List Key×V)}{xs:List (List Key×Addr×Value)}(r:KT H kvs xs)(ht:∀b ys,H b=some (.tup ys)->H' b=some (.tup ys)):KT H' kvs xs:=
 Paired.aV r fun y y z=>⟨z.1,ht _ _ z.2.1,z.2.2⟩
section
variable{P:Program}{w:World}{H:Hp}{h:Heap}{a:Addr}
def A6 {u:HO}(ok:eL P w H h)(e:Rd H a u):aR P w H h a u:=e.ok ok
def mS {kvs:List (Key×V)}(ok:eL P w H h)(e:Rd H a (.dK kvs)):kvs.length<=sizeLine/\(a==aa5)=false/\∃vs,KV kvs vs/\h.DictOf (aI P w) a vs:=
 show aR P w H h a (.dK kvs)from A6 ok e
def hG {kvs:List (Key×V)}(ok:eL P w H h)(e:H a=some (.dK kvs)):kvs.length<=sizeLine/\(a==aa5)=false/\∃vs,KV kvs vs/\h.DictOf (aI P w) a vs:=mS ok (.inl e)
def gK {ks:List Key}(ok:eL P w H h)(e:H a=some (.tup (ks.map kV))):(tupleKind (aI P w)).is h ks a:=by
 obtain⟨_,its,r,o,h1,h2,n,h3⟩:=(show aR P w H h a (.tup (ks.map kV))from ok a _ e)
 show⟨o,its.toArray,n,h1,h2,h3,by simpa using kr r⟩
def mV {kvs:List (List Key×V)}(ok:eL P w H h)(e:Rd H a (.dT kvs)):kvs.length<=sizeLine/\(a==aa5)=false /\
   ∃xs,KT H kvs xs/\h.DictOfH (tupleKind (aI P w)) a xs:=by
 obtain⟨z,y,xs,r,o,es,ep,h1,h2,h3,h4,h5⟩:=(show aR P w H h a (.dT kvs)from A6 ok e)
 show⟨z,y,xs,r,o,es,ep,h1,h2,h3,h4,fun x hx=>?_,h5⟩
 have all:∀{l:List (List Key×V)} {m:List (List Key×Addr×Value)},KT H l m->∀x∈m,(tupleKind (aI P w)).is h x.1 x.2.1:=by
   intro l m q
   induction q with
   | nil=>intro x hx;show nomatch hx
   | @cons p q ps qs hq t ih=>
     intro x hx
     rcases List.mem_cons.mp hx with e|hx
     . subst e
       show gK ok (by rw[← hq.1];show hq.2.1)
     . show ih x hx
 show all r x hx
def mU {kvs:List (List Key×V)}(ok:eL P w H h)(e:H a=some (.dT kvs)):kvs.length<=sizeLine/\(a==aa5)=false /\
   ∃xs,KT H kvs xs/\h.DictOfH (tupleKind (aI P w)) a xs:=mV ok (.inl e)
end
def dv (H:Hp)(a:Addr)(y:V)(r:Option V):Prop:=
 (∃kvs k,Rd H a (.dK kvs)/\y=kV k/\r=aJ kvs k)\/∃kvs k b,Rd H a (.dT kvs)/\y=.ref b/\H b=some (.tup (k.map kV))/\r=aJ kvs k
def iW (H:Hp)(a:Addr)(y v:V)(H':Hp):Prop:=
 (∃kvs k,H a=some (.dK kvs)/\y=kV k/\kvs.length<sizeLine/\H'=upd H a (.dK (putK kvs k v))) \/
 ∃kvs k b,H a=some (.dT kvs)/\y=.ref b/\H b=some (.tup (k.map kV))/\kvs.length<sizeLine/\H'=upd H a (.dT (putK kvs k v))
def dv.k {H:Hp}{a:Addr}{kvs:List (Key×V)}{k:Key}(e:H a=some (.dK kvs)):dv H a (kV k) (aJ kvs k):=.inl ⟨kvs,k,.inl e,rfl,rfl⟩
def dv.t {H:Hp}{a b:Addr}{kvs:List (List Key×V)}{k:List Key}(e:H a=some (.dT kvs))(eb:H b=some (.tup (k.map kV))):dv H a (.ref b) (aJ kvs k):=.inr ⟨kvs,k,b,.inl e,rfl,eb,rfl⟩
def iW.k {H:Hp}{a:Addr}{kvs:List (Key×V)}{k:Key}{v:V}(e:H a=some (.dK kvs))(hl:kvs.length<sizeLine):iW H a (kV k) v (upd H a (.dK (putK kvs k v))):=.inl ⟨kvs,k,e,rfl,hl,rfl⟩
def iW.t {H:Hp}{a b:Addr}{kvs:List (List Key×V)}{k:List Key}{v:V}(e:H a=some (.dT kvs))(eb:H b=some (.tup (k.map kV)))(hl:kvs.length<sizeLine) :
   iW H a (.ref b) v (upd H a (.dT (putK kvs k v))):=.inr ⟨kvs,k,b,e,rfl,eb,hl,rfl⟩
section
variable{X:Cx}{pins:List (Addr×Obj)}{σ:St}{H:Hp}{s:Shared}{a:Addr}{y v:V}{u r:Value}{o:Option V}{A:Around}{E:Value->Shared->Prop}
def Inv.big (I:Inv X pins σ H s):aa5<s.heap.objs.size:=by
 have h:aaN<s.heap.objs.size:=(I.mod.glob.keeps I.bk).lt
 show Nat.lt_trans (by left) h
def sI {Q:Value->Shared->Prop}(hu:A.units+1<cLine)(I:Inv X pins σ H s)(g:dv H a y (some v))(ry:RelV y u)(h:∀w' s',Inv X pins σ H s'->RelV v w'->Q w' s') :
   wpAny (model X.prog X.w) A (getItem (.ref a) u) Q E s:=by
 rcases g with⟨kvs,k,e,ey,l⟩|⟨kvs,k,b,e,ey,eb,l⟩
 . subst ey
   obtain⟨z,hd,vs,rel,dd⟩:=mS I.hok e
   obtain⟨w',hw,rw'⟩:=fH.some_of (v:=v) (o:=valueAt vs k) (by rw[l];show rel.val k)
   show wpAny_getItem_of (hV ry) dd.mapOf hw (h w' _ (I.tok _) rw')
 . subst ey
   cases(show u=aab b from ry)
   obtain⟨z,hd,xs,rel,dd⟩:=mV I.hok e
   obtain⟨w',hw,rw'⟩:=fH.some_of (v:=v) (o:=(atKey xs k).map (·.2)) (by rw[l];show rel.val k)
   obtain⟨p,hp,eY⟩:=Option.map_eq_some_iff.mp hw
   show wpAny_getItem_heap (tupleKind_room_in1 hu) (gK I.hok eb) dd hp ?_
   rw[eY]
   show h w' _ (I.tok _) rw'
def cq {h':Heap}{t':Nat}{ob:HO}(I:Inv X pins σ H s)(mu:Gm (H a))(hs:aaM a s.heap h')(he:∃q,h'.get? a=some q)(new:aR X.prog X.w (upd H a ob) h' a ob) :
   Inv X pins σ (upd H a ob) {s with heap:=h',toks:=t'}:=
 I.write (x:=a) (e:=a) mu (.inl rfl) (fun b q hb z=>(hs.2 b hb).trans z) he new
def ja {P:Program}{w:World}{H':Hp}{h':Heap}{kvs:List (Key×V)}{vs:List (Key×Value)}(z:kvs.length<=sizeLine)(hd:(a==aa5)=false)(rel:KV kvs vs)(dd:h'.DictOf (aI P w) a vs) :
   aR P w H' h' a (.dK kvs):=⟨z,hd,vs,rel,dd⟩
def sJ {H':Hp}{Q:Unit->Shared->Prop}(hu:A.units+1<cLine)(I:Inv X pins σ H s)(g:iW H a y v H')(ry:RelV y u)(rv:RelV v r)(h:∀s',Inv X pins σ H' s'->Q () s') :
   wpAny (model X.prog X.w) A (setItem (.ref a) u r) Q E s:=by
 rcases g with⟨kvs,k,e,ey,l,eH⟩|⟨kvs,k,b,e,ey,eb,l,eH⟩
 . subst ey eH
   obtain⟨z,hd,vs,rel,dd⟩:=hG I.hok e
   have hz:vs.length<=sizeLine:=by rw[← rel.length];show z
   have hl:(putK kvs k v).length<=sizeLine:=by have:=bj kvs k v;lia
   show wpAny_setItem_pairs (hsz:=hz) (hV ry) dd fun h' iF hs=>h _ ?_
   have he:∃q,h'.get? a=some q:=by obtain⟨q,_,_,hq,_⟩:=iF;show⟨q,hq⟩
   show cq I (by rw[e];show aae) hs he (ja hl hd (rel.put k rv) iF)
 . subst ey eH
   cases(show u=aab b from ry)
   obtain⟨z,hd,xs,rel,dd⟩:=mU I.hok e
   have hz:xs.length<=sizeLine:=by rw[← Paired.length rel];show z
   have hl:(putK kvs k v).length<=sizeLine:=by have:=bj kvs k v;lia
   show wpAny_setItem_heap (hsz:=hz) (tupleKind_room_in1 hu) (gK I.hok eb) dd fun h' iF hs=>h _ ?_
   obtain⟨q,es,ep,hq,h2,h3,h4,_,h5⟩:=iF
   show cq I (by rw[e];show aae) hs ⟨q,hq⟩ ⟨hl,hd,_,(rel.put k eb rv).keeps fun c ys ec=>?_,q,es,ep,hq,h2,h3,h4,h5⟩
   rw[au (bX ec e (fun z=>nomatch z))]
   show ec
end
section
variable{X:Cx}{pins:List (Addr×Obj)}{σ:St}{H:Hp}{s:Shared}{a:Addr}{kvs:List (Key×V)}{k:Key}{u:Value}{A:Around}{E:Value->Shared->Prop}
def GC {v:V}{more:List Value}{Q:Value->Shared->Prop}(I:Inv X pins σ H s)(e:H a=some (.dK kvs))(ry:RelV (kV k) u)(l:aJ kvs k=some v)(hm:more=[]\/∃x,more=[x])
   (h:∀w' s',Inv X pins σ (upd H a (.dK (cj kvs k))) s'->RelV v w'->Q w' s'):wpAny (model X.prog X.w) A (call (.builtin "dict.pop") (.ref a::u::more)) Q E s:=by
 obtain⟨z,hd,vs,rel,dd⟩:=hG I.hok e
 obtain⟨w',hw,rw'⟩:=fH.some_of (v:=v) (o:=valueAt vs k) (by rw[← l];show rel.val k)
 have hp:(keyPart u).isSome=true:=by
   cases k with
   | inl i=>obtain⟨t,q⟩:=(show ∃t,u=acy i t from ry);subst q;rfl
   | inr x=>obtain⟨t,q⟩:=(show ∃t,u=acU x t from ry);subst q;rfl
 have ha:argsOk "dict.pop" ⟨.ref a::u::more,[]⟩:=by
   rcases hm with q|⟨x,q⟩
   . subst q;show PySem.F.args_dict_pop_2 _ _
   . subst q;show PySem.F.args_dict_pop_3 _ _ _
 show acT adS dd.typeIs PySem.F.entry_dict_pop ha (meets_dict_pop_there (aI X.prog X.w) a (hV ry) more hm hp)
   ⟨vs,w',dd,by rw[← rel.length];show z,hw,fun h' iF hs=>h w' _ ?_ rw'⟩
 have he:∃q,h'.get? a=some q:=by obtain⟨q,_,_,hq,_⟩:=iF;show⟨q,hq⟩
 show cq I (by rw[e];show aae) hs he (ja (aar (uR kvs k) z) hd (rel.drop k) iF)
end
def BW (i:Expr):Prop:=∀ov iv,subscripted i false ov iv=operate [ov,iv] (getItem ov iv)
def z9 {prog:Program}{w:World}{A:Around}{E:Value->Shared->Prop}{s:Shared}{env:Env}{value slice:Expr}{pos:Pos}{T id:String}{Q:Value->Shared->Prop}
   (hl:typeLookup (.type T) "__getitem__"=pure (some (.builtin id))) (hs:BW slice)
   (h:wpAny (model prog w) A (eval value env) (fun o s₁=>wpAny (model prog w) A (eval slice env) (fun i s₂=>s₂.TypeIs o T/\wpAny (model prog w) A (getItem o i) Q E s₂) E s₁) E s) :
   wpAny (model prog w) A (eval (.Subscript value slice pos) env) Q E s:=by
 show Subscript_ (wpAny_mono h (fun o s₁ h₁=>wpAny_mono h₁ (fun i s₂ h₂=>?_) fun z z x=>x) fun z z x=>x)
 obtain⟨hT,h₂⟩:=h₂
 unfold subscriptTail
 show wpAny_bind ?_
 rw[getitemInPython_of_ne hT.not_modules]
 show wpAny_bind (wpAny_specialOf hT hl ?_)
 have fin:wpAny (model prog w) A (subscripted slice false o i) (fun r s₃=>wpAny (model prog w) A (letTemporaryGo value o r>>=fun z=>pure r) Q E s₃) E s₂:=by
   rw[hs o i]
   show wpAny_operating (wpAny_mono h₂ (fun r s₃ h₃=>wpAny_bind (wpAny_letTemporaryGo (wpAny_pure h₃))) fun z z x=>x)
 first
   | show wpAny_pure (wpAny_bind fin)
   | show wpAny_bind (wpAny_pure (wpAny_bind fin))
   | show wpAny_bind fin
def mR {X:Cx}{pins:List (Addr×Obj)}{σ:St}{H:Hp}{s:Shared}{a:Addr}{y:V}{o:Option V}(I:Inv X pins σ H s)(g:dv H a y o):s.TypeIs (.ref a) "dict":=by
 rcases g with⟨kvs,k,e,_,_⟩|⟨kvs,k,b,e,_,_,_⟩
 . obtain⟨_,_,vs,_,dd⟩:=mS I.hok e
   show dd.typeIs
 . obtain⟨_,_,xs,_,dd⟩:=mV I.hok e
   show dd.typeIs
def Bs (td ty:TE):TE:=fun σ H Q=>td σ H fun x H1=>ty σ H1 fun y H2=>∃a v,x=.ref a/\dv H2 a y (some v)/\Q v H2
def A9 (td ty tv:TE):TS:=fun D σ H=>tv σ H fun v H1=>td σ H1 fun x H2=>ty σ H2 fun y H3=>∃a H4,x=.ref a/\iW H3 a y v H4/\D.nx σ H4
section
variable{X:Cx}{o i e value:Expr}{pos pos' Yf:Pos}{td ty tv:TE}
def zf (hu:X.A.units+1<cLine)(ho:PE X o td)(hi:PE X i ty)(hs:BW i):PE X (.Subscript o i pos) (Bs td ty):=by
 intro pins s σ H Q I h
 show z9 PySem.F.slot_dict_getitem.lookup hs (bu (ho pins s σ H _ I h) fun u s1 g9=>?_)
 obtain⟨x,H1,I1,rx,q1⟩:=g9
 show bu (hi pins s1 σ H1 _ I1 q1) fun iv s2 h9=>?_
 obtain⟨y,H2,I2,ry,a,v,ex,g,q2⟩:=h9
 subst ex
 obtain rfl:u=aab a:=rx
 show⟨mR I2 g,sI hu I2 g ry fun w' s3 I3 rw'=>⟨v,H2,I3,rw',q2⟩⟩
def zC (hu:X.A.units+1<cLine)(ho:PE X o td)(hi:PE X i ty)(hv:PE X value tv)(hs:abY value (some (.Subscript o i pos')) pos.line X.env=pure false) :
   PS X (.Assign [.Subscript o i pos'] value pos) (A9 td ty tv):=by
 intro pins s σ H D I h
 show wpAny_Assign_Subscript (bu (hv pins s σ H _ I h) fun r s1 g9=>?_) hs
 obtain⟨v,H1,I1,rv,q1⟩:=g9
 show bu (ho pins s1 σ H1 _ I1 q1) fun u s2 g9=>?_
 obtain⟨x,H2,I2,rx,q2⟩:=g9
 show bu (hi pins s2 σ H2 _ I2 q2) fun iv s3 h9=>?_
 obtain⟨y,H3,I3,ry,a,H4,ex,g,q3⟩:=h9
 subst ex
 obtain rfl:u=aab a:=rx
 show sJ hu I3 g ry rv fun s4 I4=>⟨σ,H4,I4,q3⟩
end
def i9 {P:Program}{w:World}{H:Hp}(h:Heap)(hb:aa5<h.objs.size):aR P w H (h.push {cls:=.type "dict",data:=.dict #[]}) h.objs.size (.dK []):=
 ⟨aan _,beq_eq_false_iff_ne.mpr (Ne.symm (aaf hb)),[],.nil,acX h⟩
def mT {P:Program}{w:World}{H:Hp}(h:Heap)(hb:aa5<h.objs.size):aR P w H (h.push {cls:=.type "dict",data:=.dict #[]}) h.objs.size (.dT []):=
 ⟨aan _,beq_eq_false_iff_ne.mpr (Ne.symm (aaf hb)),[],.nil,_,#[],0,Z6 _ rfl,⟨rfl,rfl,rfl⟩,rfl,rfl,abh⟩
def xr:TE:=fun z H Q=>∀p,H p=none->Q (.ref p) (upd H p (.dT []))
section
variable{X:Cx}{pos:Pos}
def v9:PE X (.Dict [] [] pos) xr:=fun pins s σ H Q I h=>
 wpAny_Dict_empty ⟨.ref s.heap.objs.size,_,I.laid (a:=s.heap.objs.size) (o:=.dT []) (t':=s.toks) (fun z z q=>ZX _ q) (Z0 _) (mT s.heap I.big),rfl,h _ (I.hok.fresh (Z0 _))⟩
end
def p7:List (TE×TE)->St->Hp->(List (V×V)->Hp->Prop)->Prop
 | [],_,H,Q=>Q [] H
 | (tk,tv)::r,σ,H,Q=>tk σ H fun x H1=>tv σ H1 fun y H2=>p7 r σ H2 fun ps H3=>Q ((x,y)::ps) H3
abbrev VV:List (V×V)->List (Value×Value)->Prop:=Paired fun p q=>RelV p.1 q.1/\RelV p.2 q.2
def Gn (X:Cx)(pos:Pos)(keys:List (Option Expr))(values:List Expr)(trs:List (TE×TE)):Prop:=
 ∀(pins:List (Addr×Obj)) (s:Shared) (σ:St) (H:Hp) (Q:List (V×V)->Hp->Prop),Inv X pins σ H s->p7 trs σ H Q ->
   wpAny (model X.prog X.w) X.A (evalPairs (pairTrees keys values X.env pos)) (fun vs s'=>∃ps H',Inv X pins σ H' s'/\VV ps vs/\Q ps H') X.xe s
def zw {X:Cx}{pos:Pos}:Gn X pos [] [] []:=fun pins s σ H Q I h=>pairTrees_nil_walk ⟨[],H,I,.nil,h⟩
def wt {X:Cx}{pos:Pos}{k v:Expr}{ks:List (Option Expr)}{vs:List Expr}{tk tv:TE}{trs:List (TE×TE)}(hk:PE X k tk)(hv:PE X v tv)(hr:Gn X pos ks vs trs) :
   Gn X pos (some k::ks) (v::vs) ((tk,tv)::trs):=fun pins s σ H Q I h=>
 pairTrees_cons_walk (bu (hk pins s σ H _ I h) fun u s1 ⟨x,H1,I1,rx,q1⟩=>bu (hv pins s1 σ H1 _ I1 q1) fun w2 s2 ⟨y,H2,I2,ry,q2⟩=>
   bu (hr pins s2 σ H2 _ I2 q2) fun ws s3 ⟨ps,H3,I3,rel,q3⟩=>⟨(x,y)::ps,H3,I3,.cons ⟨rx,ry⟩ rel,q3⟩)
def jq (kvs more:List (Key×V)):List (Key×V):=more.foldl (fun acc kv=>putK acc kv.1 kv.2) kvs
def KV.merge:∀{more:List (Key×V)} {rs:List (Key×Value)} {kvs:List (Key×V)} {vs:List (Key×Value)},KV more rs->KV kvs vs->KV (jq kvs more) (merged vs rs):=by
 intro more rs kvs vs r
 unfold KV at r
 induction r generalizing kvs vs with
 | nil=>intro q;show q
 | @cons p q ps qs h t ih=>
   intro r0
   have e:KV (putK kvs p.1 p.2) (stored vs q.1 q.2):=by
     have:=r0.put p.1 h.2
     rw[← h.1];show this
   show ih e
theorem fe:∀(more kvs:List (Key×V)),(jq kvs more).length<=kvs.length+more.length
 | [],kvs=>by change kvs.length<=kvs.length+0;lia
 | p::r,kvs=>by
   have h1:=fe r (putK kvs p.1 p.2)
   have h2:=bj kvs p.1 p.2
   change(jq (putK kvs p.1 p.2) r).length<=_
   rw[aau];lia
theorem i7 {P:Program}{w:World}:∀{kvs:List (Key×V)} {ws:List (Value×Value)},VV (kvs.map fun kv=>(kV kv.1,kv.2)) ws->∃rs,Carries (aI P w) ws rs/\KV kvs rs
 | [],_,r=>by rw[ad5]at r;cases r;show⟨[],aae,.nil⟩
 | p::kvs,_,r=>by
   rw[aav]at r
   cases r with
   | @cons a b as bs h t=>
     obtain⟨rs,c,q⟩:=i7 (P:=P) (w:=w) t
     obtain⟨b1,b2⟩:=b
     show⟨(p.1,b2)::rs,⟨hV h.1,U,c⟩,.cons ⟨U,h.2⟩ q⟩
def Bu (trs:List (TE×TE)):TE:=fun σ H Q=>∀p,H p=none->p7 trs σ (upd H p (.dK [])) fun ps H2=>H2 p=some (.dK [])/\∃kvs:List (Key×V),ps=kvs.map (fun kv=>(kV kv.1,kv.2))/\kvs.length<=15/\Q (.ref p) (upd H2 p (.dK (jq [] kvs)))
def zg {X:Cx}{pos:Pos}{keys:List (Option Expr)}{values:List Expr}{trs:List (TE×TE)}(h:Gn X pos keys values trs)(hall:keys.all (·.isSome)=true)(hl:keys.length=values.length)(h0:keys≠[])
   (h15:keys.length<=15):PE X (.Dict keys values pos) (Bu trs):=by
 intro pins s σ H Q I q
 have hn:=I.hok.fresh (Z0 s.heap.objs.size)
 have I1:=I.laid (a:=s.heap.objs.size) (o:=.dK []) (h':=s.heap.push {cls:=.type "dict",data:=.dict #[]}) (t':=s.toks) (fun y y q=>ZX _ q) (Z0 _) (i9 s.heap I.big)
 show wpAny_Dict_walk (knd:=aI X.prog X.w) hall hl h0 h15 (bu (h pins _ σ _ _ I1 (q _ hn)) fun ws s2 h9=>?_)
 obtain⟨ps,H2,I2,rel,e,kvs,ep,lk,q2⟩:=h9
 subst ep
 obtain⟨rs,c,rk⟩:=i7 (P:=X.prog) (w:=X.w) rel
 obtain⟨z,hd,ZR,r0,dd⟩:=hG I2.hok e
 cases r0
 show⟨rs,c,dd,fun h' iF hs=>⟨.ref s.heap.objs.size,_,?_,U,q2⟩⟩
 have hz:(jq [] kvs).length<=sizeLine:=by
   have h1:=fe kvs []
   rw[List.length_nil]at h1
   rw[acG];lia
 have he:∃q,h'.get? s.heap.objs.size=some q:=by obtain⟨q,_,_,hq,_⟩:=iF;show⟨q,hq⟩
 show cq I2 (by rw[e];show aae) hs he (ja hz hd (rk.merge .nil) iF)
structure M1 (X:Cx)(o:Expr)(m:Str)(apos:Pos)(e:Expr)(cpos:Pos):Prop where
 base:aaX o m X.env (eval o X.env)=eval o X.env
 few:((backTo cpos (starEach [e] X.env)).all (fun x=>!x.1)&&(backToKw cpos (keywordEach [] X.env)).all (fun x=>x.1.isSome)
   && decide (([e]:List Expr).length+([]:List Keyword).length+(if([]:List Keyword).isEmpty then 0 else 1)<30))=true
 line:(apos.endLine==cpos.line)=true
 trees:backTo cpos (starEach [e] X.env)=[(false,eval e X.env)]
structure M2 (X:Cx)(o:Expr)(m:Str)(apos:Pos)(e f:Expr)(cpos:Pos):Prop where
 base:aaX o m X.env (eval o X.env)=eval o X.env
 few:((backTo cpos (starEach [e,f] X.env)).all (fun x=>!x.1)&&(backToKw cpos (keywordEach [] X.env)).all (fun x=>x.1.isSome)
   && decide (([e,f]:List Expr).length+([]:List Keyword).length+(if([]:List Keyword).isEmpty then 0 else 1)<30))=true
 line:(apos.endLine==cpos.line)=true
 trees:backTo cpos (starEach [e,f] X.env)=[(false,eval e X.env),(false,eval f X.env)]
def KI (H:Hp)(a:Addr):Prop:=(∃kvs,Rd H a (.dK kvs))\/∃kvs,Rd H a (.dT kvs)
def oW {X:Cx}{pins:List (Addr×Obj)}{σ:St}{H:Hp}{s:Shared}{a:Addr}(I:Inv X pins σ H s)(d:KI H a) :
   s.TypeIs (.ref a) "dict"/\(∀b,aab a=.ref b->∃ob,s.heap.get? b=some ob/\ob.dict=none)/\(a==aa5)=false:=by
 rcases d with⟨kvs,e⟩|⟨kvs,e⟩
 . obtain⟨_,hd,vs,_,dd⟩:=mS I.hok e
   show⟨dd.typeIs,fun b q=>?_,hd⟩
   cases q
   obtain⟨ob,_,_,h1,h2,_⟩:=dd
   show⟨ob,h1,h2.2.1⟩
 . obtain⟨_,hd,xs,_,dd⟩:=mV I.hok e
   show⟨dd.typeIs,fun b q=>?_,hd⟩
   cases q
   obtain⟨ob,_,_,h1,h2,_⟩:=dd
   show⟨ob,h1,h2.2.1⟩
section
variable{X:Cx}{pins:List (Addr×Obj)}{σ:St}{H:Hp}{s:Shared}{a:Addr}{y d:V}{u r:Value}{o:Option V}{A:Around}{E:Value->Shared->Prop}
def Cf {Q:Value->Shared->Prop}(hu:A.units+1<cLine)(I:Inv X pins σ H s)(g:dv H a y o)(ry:RelV y u)(rd:RelV d r)(h:∀w' s',Inv X pins σ H s'->RelV (o.getD d) w'->Q w' s') :
   wpAny (model X.prog X.w) A (call (.builtin "dict.get") [.ref a,u,r]) Q E s:=by
 rcases g with⟨kvs,k,e,ey,l⟩|⟨kvs,k,b,e,ey,eb,l⟩
 . subst ey
   obtain⟨z,hd,vs,rel,dd⟩:=mS I.hok e
   show acT acq dd.typeIs adG (adw _ _ _) (meets_dict_get_default (aI X.prog X.w) a (hV ry) hd r) ⟨_,dd.mapOf,h _ _ (I.tok _) ?_⟩
   rw[l]
   show(rel.val k).getD rd
 . subst ey
   cases(show u=aab b from ry)
   obtain⟨z,hd,xs,rel,dd⟩:=mV I.hok e
   show acT acq dd.typeIs adG (adw _ _ _) (meetsH_dict_get_default (tupleKind (aI X.prog X.w)) a b hd r) ⟨tupleKind_room_in1 hu,k,xs,gK I.hok eb,dd,h _ _ (I.tok _) ?_⟩
   rw[l]
   show(rel.val k).getD rd
end
def xq (td ty tx:TE):TE:=fun σ H Q=>td σ H fun x H1=>∃a,x=.ref a/\KI H1 a/\ty σ H1 fun y H2=>tx σ H2 fun z H3=>∃o,dv H3 a y o/\Q (o.getD z) H3
def xt (td ty:TE):TE:=fun σ H Q=>td σ H fun x H1=>∃a,x=.ref a/\KI H1 a/\ty σ H1 fun y H2=>∃kvs k v,H2 a=some (.dK kvs)/\y=kV k/\aJ kvs k=some v/\Q v (upd H2 a (.dK (cj kvs k)))
section
variable{X:Cx}{o e f:Expr}{apos cpos:Pos}{td ty tx:TE}
def v8 (hu:X.A.units+1<cLine)(ho:PE X o td)(he:PE X e ty)(hf:PE X f tx)(m:M2 X o "get" apos e f cpos):PE X (.Call (.Attribute o "get" apos) [e,f] [] cpos) (xq td ty tx):=by
 intro pins s σ H Q I h
 show ado m.base m.few m.line abE acq PySem.F.type_dict_get (bu (ho pins s σ H _ I h) fun u s1 h9=>?_)
 obtain⟨x,H1,I1,rx,a,ex,d,q1⟩:=h9
 subst ex
 obtain rfl:u=aab a:=rx
 obtain⟨t1,t2,_⟩:=oW I1 d
 show⟨t1,t2,?_⟩
 rw[m.trees]
 show abi rfl (abu (abl (bu (he pins s1 σ H1 _ I1 q1) fun iv s2 ⟨y,H2,I2,ry,q2⟩=>
   abl (bu (hf pins s2 σ H2 _ I2 q2) fun fv s3 ⟨z,H3,I3,rz,ov,g,q3⟩=>abK ?_))))
 show Cf hu I3 g ry rz fun w' s4 I4 rw'=>⟨_,H3,I4,rw',q3⟩
def wc (ho:PE X o td)(he:PE X e ty)(m:M1 X o "pop" apos e cpos):PE X (.Call (.Attribute o "pop" apos) [e] [] cpos) (xt td ty):=by
 intro pins s σ H Q I h
 show ado m.base m.few m.line abE adS PySem.F.type_dict_pop (bu (ho pins s σ H _ I h) fun u s1 h9=>?_)
 obtain⟨x,H1,I1,rx,a,ex,d,q1⟩:=h9
 subst ex
 obtain rfl:u=aab a:=rx
 obtain⟨t1,t2,_⟩:=oW I1 d
 show⟨t1,t2,?_⟩
 rw[m.trees]
 show abi rfl (abu (abl (bu (he pins s1 σ H1 _ I1 q1) fun iv s2 g9=>?_)))
 obtain⟨y,H2,I2,ry,kvs,k,v,ea,ey,l,q2⟩:=g9
 show abK ?_
 subst ey
 show GC I2 ea ry l (.inl rfl) fun w' s3 I3 rw'=>⟨v,_,I3,rw',q2⟩
end
section
variable{κ:Type}[DecidableEq κ]
def oi {kvs:List (κ×V)}{k:κ}(h:aJ kvs k=none):¬ k∈kvs.map (·.1):=by
 intro m
 obtain⟨p,hp,e⟩:=List.mem_map.mp m
 have q:(kvs.any fun kv=>decide (kv.1=k))=true:=List.any_eq_true.mpr ⟨p,hp,dE e⟩
 rw[b9,h]at q
 show aB q (by simp)
def cA {kvs:List (κ×V)}{k:κ}{v:V}(h:aJ kvs k=some v):k∈kvs.map (·.1):=by
 have q:(kvs.any fun kv=>decide (kv.1=k))=true:=by
   rw[b9,h]
   all_goals rfl
 obtain⟨p,hp,e⟩:=List.any_eq_true.mp q
 show List.mem_map.mpr ⟨p,hp,iN e⟩
theorem qS:∀{l:List κ} {k:κ},l.Nodup->¬ k∈l->(l++[k]).Nodup
 | [],k,_,_=>by simp
 | a::r,k,h,hk=>by
   obtain⟨h1,h2⟩:=List.nodup_cons.mp h
   change(a::(r++[k])).Nodup
   show List.nodup_cons.mpr ⟨fun m=>?_,qS h2 fun m=>hk (List.mem_cons.mpr (Or.inr m))⟩
   rcases List.mem_append.mp m with q|q
   . show h1 q
   . show hk (List.mem_cons.mpr (Or.inl (List.mem_singleton.mp q).symm))
def yJ {kvs:List (κ×V)}{k:κ}(v:V)(hn:(kvs.map (·.1)).Nodup)(h:aJ kvs k=none):((putK kvs k v).map (·.1)).Nodup:=by
 rw[jB v h,Z9]
 show qS hn (oi h)
def kg {p:κ×V}{r:List (κ×V)}{k:κ}(e:p.1=k):cj (p::r) k=cj r k:=by
 unfold cj
 rw[abU,aQ (by simp[e])]
def kf {p:κ×V}{r:List (κ×V)}{k:κ}(e:¬ p.1=k):cj (p::r) k=p::cj r k:=by
 unfold cj
 rw[abU,ba (by simp[e])]
def sM {kvs:List (κ×V)}{k:κ}{p:κ×V}(h:p∈cj kvs k):p∈kvs:=(List.mem_filter.mp h).1
theorem ju:∀{kvs:List (κ×V)} {k:κ},(kvs.map (·.1)).Nodup->((cj kvs k).map (·.1)).Nodup
 | [],_,_=>abh
 | p::r,k,h=>by
   have h:(p.1::r.map (·.1)).Nodup:=h
   obtain⟨h1,h2⟩:=List.nodup_cons.mp h
   by_cases e:p.1=k
   . rw[kg e]
     show ju h2
   . rw[kf e]
     change(p.1::(cj r k).map (·.1)).Nodup
     show List.nodup_cons.mpr ⟨fun m=>h1 ?_,ju h2⟩
     obtain⟨q,hq,eq⟩:=List.mem_map.mp m
     show List.mem_map.mpr ⟨q,sM hq,eq⟩
end
def fu (scope:Scope)(env:Env):List (Str×Addr):=
 (scope.names.filterMap fun(p:Str×abM)=>if p.2==.free then(env.cells.lookup p.1).map fun c=>(p.1,c)else none).reverse
theorem i8 (env:Env):∀(l:List (Str×abM)) (acc:List (Str×Addr)),(∀p∈l,p.2=.free->∃c,env.cells.lookup p.1=some c) ->
   (forIn l acc fun(x:Str×abM) (r:List (Str×Addr))=>if(x.2==aat)=true then do let c←cellOf env x.1;pure (aaQ ((x.1,c)::r))else pure (aaQ r):Sem (List (Str×Addr))) =
     pure ((l.filterMap fun(p:Str×abM)=>if p.2==.free then(env.cells.lookup p.1).map fun c=>(p.1,c)else none).reverse++acc)
 | [],acc,_=>rfl
 | p::l,acc,h=>by
   have ih:=fun acc=>i8 env l acc fun q hq=>h q (aaK _ hq)
   rw[acF]
   by_cases hp:p.2=.free
   . obtain⟨c,hc⟩:=h p abm hp
     have e:(p.2==aat)=true:=by rw[hp];rfl
     rw[ba e]
     have ec:cellOf env p.1=pure c:=by unfold cellOf;rw[hc]
     rw[ec,abC,ba e,hc]
     change(forIn l ((p.1,c)::acc) _:Sem _)=_
     rw[ih]
     simp
   . have e:¬ (p.2==aat)=true:=by intro z;show hp (by simpa using z)
     rw[aQ e,abC,aQ e]
     change(forIn l acc _:Sem _)=_
     rw[ih]
def oO {scope:Scope}{env:Env}(h:∀p∈scope.names,p.2=.free->∃c,env.cells.lookup p.1=some c):closureFor scope env=pure (fu scope env):=by
 have e:=i8 env scope.names [] h
 rw[aaV]at e
 change((forIn scope.names [] fun(x:Str×abM) (r:List (Str×Addr))=>if(x.2==aat)=true then do let c←cellOf env x.1;pure (aaQ ((x.1,c)::r))else pure (aaQ r))>>=fun cs=>pure cs:Sem (List (Str×Addr)))=_
 rw[e]
 rfl
def oN {scope:Scope}{env:Env}{x:Str}{c:Addr}(h:(x,c)∈fu scope env):(x,aat)∈scope.names/\env.cells.lookup x=some c:=by
 unfold fu at h
 obtain⟨p,hp,e⟩:=List.mem_filterMap.mp (List.mem_reverse.mp h)
 obtain⟨n,k⟩:=p
 dsimp only at e
 by_cases hk:(k==aat)=true
 . rw[ba hk]at e
   have V7:k=.free:=by simpa using hk
   subst V7
   cases q:env.cells.lookup n with
   | none=>rw[q]at e;cases e
   | some c'=>rw[q]at e;cases e;show⟨hp,q⟩
 . rw[aQ hk]at e;cases e
def kb {scope:Scope}{env:Env}{x:Str}{c:Addr}(hm:(x,aat)∈scope.names)(hc:env.cells.lookup x=some c):(fu scope env).lookup x=some c:=by
 have NQ:(x,c)∈fu scope env:=by
   unfold fu
   show List.mem_reverse.mpr (List.mem_filterMap.mpr ⟨(x,.free),hm,?_⟩)
   simp[hc]
 cases q:(fu scope env).lookup x with
 | none=>
   have:=List.lookup_eq_none_iff.mp q (x,c) NQ
   simp at this
 | some c'=>
   obtain⟨_,e⟩:=oN (aay q)
   rw[hc]at e
   show e.symm
structure bA (sc:Scope)(env:Scope):Prop where
 kind:sc.kind=.function
 cell:∀y∈sc.names,y.2≠.cell
 names:∀x∈sc.names,x.2=.local->sc.names.lookup x.1=some .local
 free:∀x∈sc.names,x.2=.free->env.names.lookup x.1=some .cell\/env.names.lookup x.1=some .free
def b6 (sc:Scope)(src:List (Option Nat))(N' N:List Str):Bool:=
 src.length==N'.length&&(src.zip N').all fun p=>match p.1 with
   | none=>true
   | some j=>N[j]?==some p.2&&sc.names.lookup p.2==some .free
def capσ (src:List (Option Nat))(σ:St):St:=src.map fun o=>match o with
 | none=>none
 | some j=>match σ[j]? with
   | some v=>v
   | none=>none
def ya {sc:Scope}{N N':List Str}{src:List (Option Nat)}(h:b6 sc src N' N=true){i:Nat}{x:Str}{j:Nat}(h1:src[i]?=some (some j))(h2:N'[i]?=some x):N[j]?=some x/\sc.names.lookup x=some .free:=by
 unfold b6 at h
 have h':=(aaY _ _▸h).2
 have hz:(src.zip N')[i]?=some (some j,x):=by rw[List.getElem?_zip_eq_some];show⟨h1,h2⟩
 have q:=List.all_eq_true.mp h' _ (ZZ hz)
 simpa using q
def uL {sc:Scope}{N N':List Str}{src:List (Option Nat)}(h:b6 sc src N' N=true):src.length=N'.length:=by
 unfold b6 at h
 have h':=(aaY _ _▸h).1
 simpa using h'
def dQ (X:Cx)(N':List Str)(sc:Scope)(s:Shared)(H:Hp)(C:Addr)(fp:List Addr)(xe:Value->Shared->Prop):Cx where
 prog:=X.prog
 w:=X.w
 K:=X.K
 mg:=X.mg
 base:=X.base
 A:=X.A
 N:=N'
 s₀:=s
 H₀:=H
 env:=compEnvC sc (fu sc X.env) C X.env
 outer:=X.stack
 stack:=X.stack
 ex:=fp
 fn:=fun z=>false
 calm:=X.calm
 pn:=[]
 xe:=xe
theorem eJ {sc:Scope}{env:Env}{x:Str}:∀{names:List (Str×abM)},
   (names.map fun(p:Str×abM)=>if(p.2==aat&&env.scope.kind==.function&&env.kindOf p.1==some .cell)then(p.1,adj)else(p.1,p.2)).lookup x =
     (names.lookup x).map fun k=>if(k==aat&&env.scope.kind==.function&&env.kindOf x==some .cell)then adj else k
 | []=>rfl
 | (n,k)::r=>by
   have ih:=@eJ sc env x r
   rw[aav]
   cases hx:x==n with
   | true=>
     have e:x=n:=by simpa using hx
     subst e
     by_cases hc:(k==aat&&env.scope.kind==.function&&env.kindOf x==some .cell)=true
     . simp only[hc,if_true,acr,hx,aaS]
     . simp only[hc,if_false,acr,hx,aaS,aaj]
   | false=>
     by_cases hc:(k==aat&&env.scope.kind==.function&&env.kindOf n==some .cell)=true
     . simp only[hc,if_true,acr,hx];show ih
     . simp only[hc,if_false,acr,hx,aaj];show ih
def kd {sc:Scope}{env:Env}{cl:List (Str×Addr)}{C:Addr}(x:Str):(compEnvC sc cl C env).kindOf x =
   (sc.names.lookup x).map fun k=>if(k==aat&&env.scope.kind==.function&&env.kindOf x==some .cell)then adj else k:=
 eJ (sc:=sc) (env:=env)
section
variable{X:Cx}{pins:List (Addr×Obj)}{σ:St}{H:Hp}{s:Shared}{N':List Str}{sc:Scope}{src:List (Option Nat)}{fp:List Addr}{xe:Value->Shared->Prop}
def oP (I:Inv X pins σ H s)(S:bA sc X.env.scope)(hc:b6 sc src N' X.N=true)(hf:∀b∈fp,dG X pins H b)(ho:∀b∈fp,∃o,s.heap.get? b=some o){h₁:Heap}{tk:Nat}
   (hn:h₁.Ns s.heap.objs.size (fun t=>none)) (hk:∀b o,s.heap.get? b=some o->h₁.get? b=some o) :
   Inv (dQ X N' sc s H s.heap.objs.size fp xe) [] (capσ src σ) H {s with heap:=h₁,toks:=tk}:=by
 have cellmem:∀x c,(fu sc X.env).lookup x=some c->X.env.cells.lookup x=some c:=fun x c e=>(oN (aay e)).2
 have isfree:∀x,((compEnvC sc (fu sc X.env) s.heap.objs.size X.env).kindOf x=some .cell\/(compEnvC sc (fu sc X.env) s.heap.objs.size X.env).kindOf x=some .free)->(x,aat)∈sc.names:=fun x hx=>by
   rw[kd]at hx
   cases q:sc.names.lookup x with
   | none=>rw[q]at hx;simp at hx
   | some k=>
     have hm:=aay q
     by_cases NS:k=.free
     . subst NS;show hm
     . have:(k==aat)=false:=by simpa using NS
       have e2:(k==aat&&X.env.scope.kind==.function&&X.env.kindOf x==some .cell)=false:=by rw[this];rfl
       rw[q,aaS,e2]at hx
       have AG:(some k:Option abM)=some .cell\/(some k:Option abM)=some .free:=hx
       rcases AG with hx|hx
       . show aB (aas hx) (S.cell _ hm)
       . show aB (aas hx) NS
 have has:∀x,(x,aat)∈sc.names->∃c,X.env.cells.lookup x=some c:=fun x hm=>I.ok.has x (S.free _ hm rfl)
 show⟨⟨I.ok.mod,S.kind,I.ok.glob,I.ok.blt,Z0 _,fun x y c h1 h2=>I.ok.inj x y c (cellmem x c h1) (cellmem y c h2),fun x hx=>?_,fun x c HJ t=>?_,I.ok.hd,I.ok.frames,.inl rfl,fun b hb=>⟨?_,fun x c e=>?_⟩,I.bs,aar I.ok.bsz I.sz,fun b o e hb=>?_,fun b hb hs=>?_,I.stack,I.mw⟩,
   rfl,I.bare,Un.kept hk,⟨_,hn,fun i x v h1 h2 h3=>?_⟩,fun x c e=>?_,I.hok.fresh (Z0 _),fun x c e=>I.freeC x c (cellmem x c e),fun p hp=>aB (show p∈([]:List (Addr×Obj))from hp) (by simp),I.hok.kept hk,?_⟩
 . obtain⟨c,e⟩:=has x (isfree x hx)
   show⟨c,kb (isfree x hx) e⟩
 . show aB (show false=true from HJ) (by simp)
 . obtain⟨o,e⟩:=ho b hb
   show aaf (Z7 e)
 . show(hf b hb).2.2.2.2.1 x c (cellmem x c e)
 . rcases(hf b hb).2.2.2.1 with z|z
   . show I.ok.noex b o e z
   . show aB (aak (Z7 e) (aar I.ok.bsz z)) (aba _)
 . rcases List.mem_cons.mp (I.mx b hs)with z|z
   . show(hf b hb).2.1 z
   . show(hf b hb).2.2.1 z
 . -- a Gy name
   have ou:(capσ src σ)[i]?=some (some v):=h2
   unfold capσ at ou
   rw[aap]at ou
   cases q:src[i]? with
   | none=>rw[q]at ou;cases ou
   | some o=>
     rw[q]at ou
     cases o with
     | none=>simp at ou
     | some j=>
       obtain⟨hj,hfr⟩:=ya hc q h1
       have hσ:σ[j]?=some (some v):=by
         simp only[aaS,Option.some.injEq]at ou
         cases r:σ[j]? with
         | none=>rw[r]at ou;cases ou
         | some w=>rw[r]at ou;rw[← ou]
       have hm:=aay hfr
       have HQ:=S.free _ hm rfl
       obtain⟨m,_,hl⟩:=I.loc
       obtain⟨u,ru,lk⟩:=hl j x v hj hσ (Or.inr HQ)
       show⟨u,ru,.inr ⟨?_,?_⟩⟩
       . change(compEnvC sc (fu sc X.env) s.heap.objs.size X.env).kindOf x=some .cell\/(compEnvC sc (fu sc X.env) s.heap.objs.size X.env).kindOf x=some .free
         rw[kd,hfr]
         by_cases z:(aat==aat&&X.env.scope.kind==.function&&X.env.kindOf x==some .cell)=true
         . show .inl (by simp only[aaS,z,if_true])
         . show .inr (by simp only[aaS,z,if_false,aaj])
       . rcases lk with⟨z,_⟩|⟨_,c,e,z⟩
         . have z':X.env.scope.names.lookup x=some .local:=z
           rcases HQ with y|y<;>(rw[z']at y;cases y)
         . obtain⟨oc,FL,hd⟩:=z
           show⟨c,kb hm e,oc,hk c oc FL,hd⟩
 . obtain⟨v,oc,FL,hd⟩:=I.cell x c (cellmem x c e)
   show⟨v,oc,hk c oc FL,hd⟩
 . change(capσ src σ).length=N'.length
   unfold capσ
   rw[ZW]
   show uL hc
def oR {H':Hp}{σ':St}{s':Shared}(I:Inv X pins σ H s)(hf:∀b∈fp,dG X pins H b)(I':Inv (dQ X N' sc s H s.heap.objs.size fp xe) [] σ' H' s'):Inv X pins σ H' s':=
 I.An I'.os I'.base I'.hok I'.bare fun b hb=>⟨(hf b hb).2.2.2.1,(hf b hb).2.1,(hf b hb).2.2.2.2.1,(hf b hb).2.2.2.2.2⟩
def yd {H':Hp}{σ':St}{s':Shared}(I':Inv (dQ X N' sc s H s.heap.objs.size fp xe) [] σ' H' s'):∃m,s'.heap.Ns s.heap.objs.size m:=by obtain⟨m,hn,_⟩:=I'.loc;show⟨m,hn⟩
def sC {H1:Hp}{σ1:St}{s1:Shared}{h':Heap}(I:Inv X pins σ H s)(I1:Inv X pins σ1 H1 s1)(hn:H1 s.heap.objs.size=none)(hs:aaM s.heap.objs.size s1.heap h'):Inv X pins σ1 H1 {s1 with heap:=h'}:=by
 obtain⟨f0,f1,f2,f3,f4,f5⟩:=I.jP (H':=H1) (Z0 _) hn
 show I1.turned (t':=s1.toks) (fun b o hb e=>(hs.2 b hb).trans e) f0 f1 f3 f4 f5
end
def aX:St->St->Prop
 | [],[]=>True
 | none::r,_::r'=>aX r r'
 | some v::r,u::r'=>u=some v/\aX r r'
 | _,_=>False
theorem aX.len:∀{a b:St},aX a b->a.length=b.length
 | [],[],_=>rfl
 | [],_::_,h=>h.elim
 | none::_,[],h=>h.elim
 | some _::_,[],h=>h.elim
 | none::r,_::r',h=>by
   have h':aX r r':=h
   rw[aau,aau,h'.len]
 | some v::r,u::r',h=>by
   have h':u=some v/\aX r r':=h
   rw[aau,aau,h'.2.len]
theorem aX.get:∀{a b:St},aX a b->∀(i:Nat) (v:V),a[i]?=some (some v)->b[i]?=some (some v)
 | [],[],_,i,v,e=>by simp at e
 | [],_::_,h,_,_,_=>h.elim
 | none::_,[],h,_,_,_=>h.elim
 | some _::_,[],h,_,_,_=>h.elim
 | none::r,_::r',h,0,v,e=>by simp at e
 | none::r,_::r',h,i+1,v,e=>by
   have h':aX r r':=h
   simpa using h'.get i v (by simpa using e)
 | some w::r,u::r',h,0,v,e=>by
   have h':u=some w/\aX r r':=h
   simp at e
   subst e
   simp[h'.1]
 | some w::r,u::r',h,i+1,v,e=>by
   have h':u=some w/\aX r r':=h
   simpa using h'.2.get i v (by simpa using e)
def kY (X:Cx)(cs:List Expr)(t:TT):Prop:=
 ∀(pins:List (Addr×Obj)) (s:Shared) (σ:St) (H:Hp) (Q:Bool->Hp->Prop),Inv X pins σ H s->t σ H Q ->
   wpAny (model X.prog X.w) X.A (forIn cs true fun c r=>if r=true then do let ok←isTrue c X.env (eval c X.env);pure (aaQ ok)else pure (aaQ r)) (TP X pins σ Q) X.xe s
def Fe:TT:=fun z H Q=>Q true H
def O9 {X:Cx}:kY X [] Fe:=fun z z z H z I h=>wpAny_tests_nil ⟨H,I,h⟩
def Pa {X:Cx}{c:Expr}{t:TT}(h:PT X c t):kY X [c] t:=fun pins s σ H Q I q=>wpAny_tests_one (h pins s σ H Q I q)
abbrev TM:=St->Hp->(Hp->Prop)->Prop
def Fy (X:Cx)(m:Sem Unit)(t:TM):Prop:=
 ∀(pins:List (Addr×Obj)) (s:Shared) (σ:St) (H:Hp) (Q:Hp->Prop),Inv X pins σ H s->t σ H Q ->
   wpAny (model X.prog X.w) X.A m (fun z s'=>∃H',Inv X pins σ H' s'/\Q H') X.xe s
def qa (tg:Expr)(ipos:Pos)(ifs:List Expr)(it:Value)(env:Env)(cont:Sem Unit)(more:Sem Fin):Sem Fin:=do
 standAt ipos
 match←pyNext it with
 | none=>pure (.done .next)
 | some v=>
   letOwnedTupleGo tg it v
   assign tg env v
   let mut ok:=true
   for c in ifs do
     if ok then ok←isTrue c env (eval c env)
   if ok then cont
   more
def gg (J:It)(σ0:St)(g:TG)(tifs:TT)(tm:TM)(Z:Hp->Prop)(H:Hp):Prop:=
 ∃W:Nat->Nat->Hp->Prop,(∃m,W 0 m H)/\∀i m H,W i m H->(J.stop i H/\Z H) \/
   (J.go i H/\∀x H',J.yld i H x H'->g x σ0 H' fun σ2 H2=>tifs σ2 H2 fun b H3=>
     if b=true then tm σ2 H3 fun H4=>aX σ0 σ2/\∃m',m'<m/\W (i+1) m' H4 else aX σ0 σ2/\∃m',m'<m/\W (i+1) m' H3)
section
variable{X:Cx}{e tg:Expr}{ipos:Pos}{ifs:List Expr}{depth:Nat}{acc:Value}{cont:Sem Unit}{it:Addr}{fp:List Addr}{tn:Nat->Heap->Prop}{J:It}{g:TG}{tifs:TT}{tm:TM}{σ0:St}{Z:Hp->Prop}{R:Result->Shared->Prop}
def sD (hX:X.xe=notedBy (model X.prog X.w) X.A X.env fun e s'=>R (.error e) s')
   (heq:compTurn e depth (.ref it) acc X.env=qa tg ipos ifs (.ref it) X.env cont (again (.compLoop e depth (.ref it) acc X.env)))
   (hq:(aco e depth (.ref it) acc X.env).quiet=true) (hA:X.A.under (.compLoop e depth (.ref it) acc X.env)=X.A) (hF:(aco e depth (.ref it) acc X.env).isFrame=false)
   (hc:X.calm=true) (T:Turn X.prog X.w X.K tg J fp it tn) (hg:PG X tg g) (hif:kY X ifs tifs) (hm:Fy X cont tm)
   {pins:List (Addr×Obj)} {H:Hp} {s:Shared} (hf:∀b∈fp,dG X pins H b) (I:Inv X pins σ0 H s) (st:tn 0 s.heap)
   (hZ:∀H' s',Inv X pins σ0 H' s'->(∀b∈fp,H' b=none)->Z H'->R (.ok .next) s') (h:gg J σ0 g tifs tm Z H) :
   codeAny (model X.prog X.w) X.A (.compLoop e depth (.ref it) acc X.env) R s:=by
 obtain⟨W,⟨m0,w0⟩,turn⟩:=h
 have stat:∀{H':Hp},(∀b∈fp,H' b=none)->∀b∈fp,dG X pins H' b:=fun hn b hb=>⟨hn b hb,(hf b hb).2⟩
 show codeAny_loop hq (fun n s'=>∃i H',Inv X pins σ0 H' s'/\tn i s'.heap/\(∀b∈fp,H' b=none)/\W i n H') ?_ m0 ⟨0,H,I,st,fun b hb=>(hf b hb).1,w0⟩
 rintro n s3 ⟨i,H3,I3,oD,FG,w3⟩
 rw[hA]
 have NJ:(model X.prog X.w).den (.compLoop e depth (.ref it) acc X.env)=(compTurn e depth (.ref it) acc X.env).onRaise (fun x=>do noteFrame x X.env;theTreesLotGoes x):=by
   change(if(aco e depth (.ref it) acc X.env).isFrame then _ else _)=_
   rw[aQ (by rw[hF];decide)]
 rw[NJ]
 show wpAny_noted ?_
 rw[← hX,heq]
 unfold qa
 show wpAny_bind (wpAny_standAt ?_)
 have uG:∀{σ7:St} {H7:Hp} {s5 s7:Shared},tn (i+1) s5.heap->Inv X (pins++jz fp s5.heap) σ7 H7 s7->aX σ0 σ7->(∃m',m'<n/\W (i+1) m' H7) ->
     ∃m,m<n/\∃i H',Inv X pins σ0 H' s7/\tn i s7.heap/\(∀b∈fp,H' b=none)/\W i m H':=fun{σ7 H7 s5 s7} jX I7 k7 ⟨m',CI,w7⟩=>by
   show⟨m',CI,i+1,H7,I7.gh.weak k7.len k7.get,T.keep _ _ _ jX fun b hb o e=>(I7.pin (b,o) (aam _ (aam _ (dH hb e)))).1,fun b hb=>?_,w7⟩
   obtain⟨o,e,d⟩:=T.obj _ _ jX b hb
   show(I7.pin (b,o) (aam _ (aam _ (dH hb e)))).2.1
 rcases turn i n H3 w3 with⟨stop,qn⟩|⟨go,step⟩
 . show wpAny_bind (bu (T.done X rfl rfl rfl hc i pins s3 σ0 H3 X.xe I3 (stat FG) oD stop) fun r s4 h9=>?_)
   obtain⟨hr,I4⟩:=h9
   subst hr
   show wpAny_pure (hZ H3 s4 I4 FG qn)
 . show wpAny_bind (bu (T.item X rfl rfl rfl hc i pins s3 σ0 H3 X.xe I3 (stat FG) oD go) fun r s4 h9=>?_)
   obtain⟨u,hr,h4⟩:=h9
   subst hr
   show wpAny_bind (bu h4 fun z s5 h9=>?_)
   obtain⟨x,H5,I5,r5,y5,jX,MT⟩:=h9
   have Mj:=I5.pinned (stat MT) (T.obj _ _ jX)
   show wpAny_bind (bu (hg _ s5 σ0 H5 x u _ Mj r5 (step x H5 y5)) fun z s6 h9=>?_)
   obtain⟨σ6,H6,I6,q6⟩:=h9
   show wpAny_bind (bu (hif _ s6 σ6 H6 _ I6 q6) fun b s7 h9=>?_)
   obtain⟨H7,I7,q7⟩:=h9
   cases b with
   | false=>
     obtain⟨k7,w7⟩:=q7
     show wpAny_pure ⟨U,uG jX I7 k7 w7⟩
   | true=>
     show wpAny_bind (bu (hm _ s7 σ6 H7 _ I7 q7) fun z s8 h9=>?_)
     obtain⟨H8,I8,k8,w8⟩:=h9
     show wpAny_pure ⟨U,uG jX I8 k8 w8⟩
end
structure ef (P:Program)(w:World)(A:Around)(e:Expr)(tg iter:Expr)(ifs:List Expr)(emit:Addr->Env->Sem Unit):Prop where
 cl:clausesOf e=[⟨tg,iter,ifs,0⟩]
 turn:∀it D env,compTurn e 0 (.ref it) (.ref D) env=qa tg iter.pos ifs (.ref it) env (emit D env) (again (.compLoop e 0 (.ref it) (.ref D) env))
 start:∀(R:Result->Shared->Prop) (s:Shared) (it acc:Value) (env:Env),codeAny (model P w) A (.compLoop e 0 it acc env) R s ->
   wpAny (model P w) A (pyIter it) (fun WY s'=>codeAny (model P w) A (.compLoop e 0 WY acc env) R s') (notedBy (model P w) A env fun x s'=>R (.error x) s') s->codeAny (model P w) A (.compStart e 0 it acc env) R s
 quiet:∀it acc env,(aco e 0 it acc env).quiet=true
 under:∀it acc env,A.under (.compLoop e 0 it acc env)=A
 frame:∀it acc env,(aco e 0 it acc env).isFrame=false
def qz {P:Program}{w:World}{A:Around}{elt tg iter:Expr}{ifs:List Expr}{sc:Scope}{pos:Pos} :
   ef P w A (.ListComp elt [⟨tg,iter,ifs,0⟩] sc pos) tg iter ifs (fun D env=>do let _←call (.builtin "list.append") [.ref D,← eval elt env]) where
 cl:=rfl
 turn:=fun it D env=>by rw[compTurn_list];rfl
 start:=fun R s it acc env h0 h=>codeAny_compStart_list h0 h
 quiet:=fun z z z=>rfl
 under:=fun z z z=>rfl
 frame:=fun z z z=>rfl
def qy {P:Program}{w:World}{A:Around}{kx vx tg iter:Expr}{ifs:List Expr}{sc:Scope}{pos:Pos} :
   ef P w A (.DictComp kx vx [⟨tg,iter,ifs,0⟩] sc pos) tg iter ifs (fun D env=>do
     let kv←eval kx env
     let vv←holding [kv] (eval vx env)
     standAt {kx.pos with endLine:=vx.pos.endLine,endCol:=vx.pos.endCol}
     holding [kv,vv] (dictSet D kv vv)) where
 cl:=rfl
 turn:=fun it D env=>by rw[compTurn_dict];rfl
 start:=fun R s it acc env h0 h=>codeAny_compStart_dict h0 h
 quiet:=fun z z z=>rfl
 under:=fun z z z=>rfl
 frame:=fun z z z=>rfl
section
variable{X:Cx}{e tg iter:Expr}{ifs:List Expr}{emit:Addr->Env->Sem Unit}{sc:Scope}{pos:Pos}{wi:TI}{N':List Str}{src:List (Option Nat)}{g:TG}{tifs:TT}{tm:Addr->TM}{newAcc:Sem Value}{ob:Obj}{accO:HO}
def dO (src:List (Option Nat))(accO:HO)(wi:TI)(g:TG)(tifs:TT)(tm:Addr->TM):TE:=
 fun σ H Q=>wi σ H fun J H1=>∀D,H1 D=none->gg J (capσ src σ) g tifs (tm D) (fun H'=>Q (.ref D) H') (upd H1 D accO)
structure iU (X:Cx)(newAcc:Sem Value)(ob:Obj)(accO:HO):Prop where
 new:∀(s:Shared) (Q:Value->Shared->Prop) (E:Value->Shared->Prop),Q (.ref s.heap.objs.size) {s with heap:=s.heap.push ob}->wpAny (model X.prog X.w) X.A newAcc Q E s
 live:ob.isFreed=false
 ok:∀(pins:List (Addr×Obj)) (σ:St) (H:Hp) (s:Shared),Inv X pins σ H s->aR X.prog X.w (upd H s.heap.objs.size accO) (s.heap.push ob) s.heap.objs.size accO
def mM {use:Option (Value->Sem Unit)}{Q':Value->Shared->Prop}(K:ef X.prog X.w X.A e tg iter ifs emit)(hc:X.calm=true)(S:bA sc X.env.scope)(hcap:b6 sc src N' X.N=true)(hi:PI X tg iter wi)
   (hb:∀s H C fp xe D,PG (dQ X N' sc s H C fp xe) tg g/\kY (dQ X N' sc s H C fp xe) ifs tifs/\Fy (dQ X N' sc s H C fp xe) (emit D (dQ X N' sc s H C fp xe).env) (tm D)) (N:iU X newAcc ob accO)
   (hs:∀x,aaB iter X.env x=pure x)
   {pins:List (Addr×Obj)} {s:Shared} {σ:St} {H:Hp} {Q:VK} (I:Inv X pins σ H s) (h:dO src accO wi g tifs tm σ H Q)
   (hQ:∀(C D:Addr) (H':Hp) (s':Shared),Inv X pins σ H' s'->Q (.ref D) H'->H' C=none->(∃m,s'.heap.Ns C m)->(∀(σ1:St) (H1:Hp) (s1:Shared) (h':Heap),Inv X pins σ1 H1 s1->H1 C=none->aaM C s1.heap h'->Inv X pins σ1 H1 {s1 with heap:=h'}) ->
     (C≠X.env.locals/\∀x c,X.env.cells.lookup x=some c->c≠C)->compPost (model X.prog X.w) X.A X.xe use Q' (.ref D) C (.ok .next) s') :
   wpAny (model X.prog X.w) X.A (comprehension e sc X.env pos newAcc false (eval iter X.env) use) Q' X.xe s:=by
 show wpAny_comprehension_free (g:=⟨tg,iter,ifs,0⟩) (gs:=[]) K.cl hs (oO fun p hp hf=>I.ok.has p.1 (S.free p hp hf)) S.kind S.names ?_
 show bu (hi pins s σ H _ I h) fun v s1 h1=>bu h1 fun itv s2 h2=>?_
 obtain⟨it,fp,tn,J,H2,e1,I2,T,F3,f2,q2⟩:=h2
 subst e1
 show N.new s2 _ _ ?_
 have hD:H2 s2.heap.objs.size=none:=I2.hok.fresh (Z0 _)
 have RJ:∀b o,s2.heap.get? b=some o->(s2.heap.push ob).get? b=some o:=fun b o e=>ZX _ e
 have I3:Inv X pins σ (upd H2 s2.heap.objs.size accO) {s2 with heap:=s2.heap.push ob}:=I2.laid (t':=s2.toks) RJ (Z0 _) (N.ok pins σ H2 s2 I2)
 have oD:tn 0 (s2.heap.push ob):=T.keep _ _ _ F3 fun b u o e=>RJ b o e
 have OX:∀b∈fp,∃o,(s2.heap.push ob).get? b=some o:=fun b hb=>let⟨o,e,_⟩:=T.obj _ _ oD b hb;⟨o,e⟩
 have f3:∀b∈fp,dG X pins (upd H2 s2.heap.objs.size accO) b:=fun b hb=>by
   show⟨?_,(f2 b hb).2⟩
   obtain⟨o,e,_⟩:=T.obj _ _ F3 b hb
   rw[au (aaf (Z7 e))]
   show(f2 b hb).1
 have qq:=q2 s2.heap.objs.size hD
 generalize Ww:({s2 with heap:=s2.heap.push ob}:Shared)=s3 at I3 ⊢
 have V1:s2.heap.push ob=s3.heap:=by rw[← Ww]
 rw[V1]at oD OX
 generalize s2.heap.objs.size=D at I3 f3 qq hD ⊢
 show wpAny_newFunctionEnv S.cell (by intro y hy;simp at hy) (fun h₁ hns Oe=>?_) S.kind
 have N7:h₁.Ns s3.heap.objs.size (fun u=>none):=hns
 have hk4:∀b o,s3.heap.get? b=some o->h₁.get? b=some o:=fun b o e=>Oe.extBut b o (aaf (Z7 e)) (ZX _ e)
 let R:Result->Shared->Prop:=compPost (model X.prog X.w) X.A X.xe use Q' (.ref D) s3.heap.objs.size
 let X':Cx:=dQ X N' sc s3 (upd H2 D accO) s3.heap.objs.size fp (notedBy (model X.prog X.w) X.A (compEnvC sc (fu sc X.env) s3.heap.objs.size X.env) fun e s'=>R (.error e) s')
 have I4:Inv X' [] (capσ src σ) (upd H2 D accO) {s3 with heap:=h₁,toks:=s3.toks+([]:List (Str×Value)).length}:=oP I3 S hcap f3 OX N7 hk4
 have LZ:tn 0 h₁:=T.keep _ _ _ oD fun b u o e=>hk4 b o e
 obtain⟨hg,hif,hm⟩:=hb s3 (upd H2 D accO) s3.heap.objs.size fp (notedBy (model X.prog X.w) X.A (compEnvC sc (fu sc X.env) s3.heap.objs.size X.env) fun e s'=>R (.error e) s') D
 have f4:∀b∈fp,dG X' [] (upd H2 D accO) b:=fun b hb=>by
   obtain⟨g0,g1,g2,g3,g4,g5⟩:=f3 b hb
   show⟨g0,?_,?_,.inl hb,fun x c e=>?_,fun p hp=>aB (show p∈([]:List (Addr×Obj))from hp) (by simp)⟩
   . obtain⟨o,e⟩:=OX b hb
     show aaf (Z7 e)
   . intro z
     rcases List.mem_cons.mp (I3.mx b z)with y|y
     . show g1 y
     . show g2 y
   . show g4 x c (oN (aay e)).2
 have QU:dG X pins (upd H2 D accO) s3.heap.objs.size:=I3.jP (Z0 _) (I3.hok.fresh (Z0 _))
 have loop:∀s4:Shared,s4={s3 with heap:=h₁,toks:=s3.toks+([]:List (Str×Value)).length}->codeAny (model X.prog X.w) X.A (.compLoop e 0 (.ref it) (.ref D) X'.env) R s4:=by
   rintro s4 rfl
   show sD (X:=X') (Z:=fun H'=>Q (.ref D) H') rfl (K.turn it D X'.env) (K.quiet _ _ _) (K.under _ _ _) (K.frame _ _ _) hc T hg hif hm f4 I4 LZ (fun H' s' I' u z=>?_) qq
   show hQ s3.heap.objs.size D H' s' (oR I3 f3 I') z I'.free (yd I') (fun σ1 H1 s1 h' I1 n1 vj=>sC I3 I1 n1 vj) ⟨QU.2.1,fun x c e=>QU.2.2.2.2.1 x c e⟩
 show K.start R _ (.ref it) (.ref D) X'.env (loop _ rfl) (T.self X.A 0 _ _ _ LZ (loop _ rfl))
def qY (K:ef X.prog X.w X.A e tg iter ifs emit)(hc:X.calm=true)(S:bA sc X.env.scope)(hcap:b6 sc src N' X.N=true)(hi:PI X tg iter wi)
   (hb:∀s H C fp xe D,PG (dQ X N' sc s H C fp xe) tg g/\kY (dQ X N' sc s H C fp xe) ifs tifs/\Fy (dQ X N' sc s H C fp xe) (emit D (dQ X N' sc s H C fp xe).env) (tm D)) (N:iU X newAcc ob accO)
   (hs:∀x,aaB iter X.env x=pure x) (he:eval e X.env=comprehension e sc X.env pos newAcc false (eval iter X.env)):PE X e (dO src accO wi g tifs tm):=by
 intro pins s σ H Q I h
 rw[he]
 show mM (use:=none) (Q:=Q) K hc S hcap hi hb N hs I h fun C D H' s' I' q hn ⟨m,hm⟩ gone _=>?_
 show⟨m,hm,fun h' sR=>⟨.ref D,H',gone σ H' s' h' I' hn sR,U,q⟩⟩
def q8 {i:Nat}{x:Str}{pos' dB:Pos}(K:ef X.prog X.w X.A e tg iter ifs emit)(hc:X.calm=true)(S:bA sc X.env.scope)(hcap:b6 sc src N' X.N=true)(hi:PI X tg iter wi)
   (hb:∀s H C fp xe D,PG (dQ X N' sc s H C fp xe) tg g/\kY (dQ X N' sc s H C fp xe) ifs tifs/\Fy (dQ X N' sc s H C fp xe) (emit D (dQ X N' sc s H C fp xe).env) (tm D)) (N:iU X newAcc ob accO)
   (hs:∀x,aaB iter X.env x=pure x) (he:∀u,evalThenUse e X.env u=(do let _←comprehension e sc X.env pos newAcc false (eval iter X.env) (some u)))
   (hN:X.N.Nodup) (hix:X.N[i]?=some x) (hx:Loc X.env.scope x) (hsw:abY e (some (.Name x pos')) dB.line X.env=pure true)
   (hf:X.fn x=true\/X.env.scope.names.lookup x=some .local:=by first|show .inl rfl|show .inr rfl|assumption) :
   PS X (.Assign [.Name x pos'] e dB) (n6 (dO src accO wi g tifs tm) (dq i)):=by
 intro pins s σ H D0 I h
 rw[exec_Assign_Name_used x pos' e dB hsw,he]
 show wpAny_bind (wpAny_standAt (wpAny_bind (wpAny_bind ?_)))
 show mM (use:=some (assign (.Name x pos') X.env)) (Q:=fun v H'=>D0.nx (σ.set i (some v)) H') (Q':=fun y s'=>wpAny _ _ _ _ _ s') K hc S hcap hi hb N hs I h fun C D H' s' I' q hn g8 gone g9=>?_
 obtain⟨m,hm⟩:=g8
 obtain⟨VO,hCc⟩:=g9
 show wpAny_assign_Name (kO (v:=.ref D) I' hN hix hx rfl (fun s2 I2 hch=>?_) hf)
 obtain⟨a,Oe,ha⟩:=hch
 have hne:C≠a:=by
   rcases ha with z|z
   . rw[z];show VO
   . show(hCc x a z).symm
 show⟨m,hm.sameBut Oe hne,fun h' sR=>?_⟩
 show wpAny_pure (wpAny_pure ⟨_,H',gone _ H' s2 h' I2 hn sR,q⟩)
end
section
variable{X:Cx}{elt kx vx:Expr}{te tk tv:TE}
def cp (te:TE)(D:Addr):TM:=fun σ H K=>te σ H fun y H1=>∃ys,H1 D=some (.lst ys)/\ys.length<sizeLine/\K (upd H1 D (.lst (ys++[y])))
def wo (h:PE X elt te)(D:Addr):Fy X (do let _←call (.builtin "list.append") [.ref D,← eval elt X.env]) (cp te D):=by
 intro pins s σ H Q I q
 show wpAny_bind (bu (h pins s σ H _ I q) fun u s1 h9=>?_)
 obtain⟨y,H1,I1,ru,ys,e,z,k⟩:=h9
 show wpAny_bind (bu (kC pins s1 σ H1 (.ref D) [y] (.ref D) [u] (fun x H'=>Q H') I1 rfl (.cons ru .nil) ⟨D,ys,y,U,U,e,z,k⟩) fun r s2 h9=>?_)
 obtain⟨v,H2,I2,_,k2⟩:=h9
 show wpAny_pure ⟨H2,I2,k2⟩
def sE {pins:List (Addr×Obj)}{σ:St}{H H':Hp}{s:Shared}{a:Addr}{y v:V}{u r:Value}{A:Around}{E:Value->Shared->Prop}{Q:Unit->Shared->Prop}(hu:A.units+1<cLine)(I:Inv X pins σ H s)(g:iW H a y v H')(ry:RelV y u)(rv:RelV v r)(h:∀s',Inv X pins σ H' s'->Q () s') :
   wpAny (model X.prog X.w) A (dictSet a u r) Q E s:=by
 rcases g with⟨kvs,k,e,ey,l,eH⟩|⟨kvs,k,b,e,ey,eb,l,eH⟩
 . subst ey eH
   obtain⟨z,hd,vs,rel,dd⟩:=hG I.hok e
   have hz:vs.length<=sizeLine:=by rw[← rel.length];show z
   have hl:(putK kvs k v).length<=sizeLine:=by have:=bj kvs k v;lia
   show wpAny_dictSet_pairs (hsz:=hz) (hV ry) dd fun h' iF hs=>h _ ?_
   have he:∃q,h'.get? a=some q:=by obtain⟨q,_,_,hq,_⟩:=iF;show⟨q,hq⟩
   show cq I (by rw[e];show aae) hs he (ja hl hd (rel.put k rv) iF)
 . subst ey eH
   cases(show u=aab b from ry)
   obtain⟨z,hd,xs,rel,dd⟩:=mU I.hok e
   have hz:xs.length<=sizeLine:=by rw[← Paired.length rel];show z
   have hl:(putK kvs k v).length<=sizeLine:=by have:=bj kvs k v;lia
   have vh:(tupleKind (aI X.prog X.w)).room A:=show A.units<cLine by lia
   show wpAny_dictSet_heap (hsz:=hz) vh (gK I.hok eb) dd fun h' iF hs=>h _ ?_
   obtain⟨q,es,ep,hq,h2,h3,h4,_,h5⟩:=iF
   show cq I (by rw[e];show aae) hs ⟨q,hq⟩ ⟨hl,hd,_,(rel.put k eb rv).keeps fun c ys ec=>?_,q,es,ep,hq,h2,h3,h4,h5⟩
   rw[au (bX ec e (fun z=>nomatch z))]
   show ec
def vz (tk tv:TE)(D:Addr):TM:=fun σ H K=>tk σ H fun y H1=>tv σ H1 fun v H2=>∃H3,iW H2 D y v H3/\K H3
def wq (hu:X.A.units+1<cLine)(hk:PE X kx tk)(hv:PE X vx tv)(D:Addr):Fy X (do
     let kv←eval kx X.env
     let vv←holding [kv] (eval vx X.env)
     standAt {kx.pos with endLine:=vx.pos.endLine,endCol:=vx.pos.endCol}
     holding [kv,vv] (dictSet D kv vv)) (vz tk tv D):=by
 intro pins s σ H Q I q
 show wpAny_bind (bu (hk pins s σ H _ I q) fun u s1 h9=>?_)
 obtain⟨y,H1,I1,ru,q1⟩:=h9
 show wpAny_bind (wpAny_holding (bu (hv pins s1 σ H1 _ I1 q1) fun r s2 h9=>?_))
 obtain⟨v,H2,I2,rv,H3,g,q2⟩:=h9
 show wpAny_bind (wpAny_standAt (wpAny_holding (sE hu I2 g ru rv fun s3 I3=>⟨H3,I3,q2⟩)))
def uF:iU X newDict {cls:=.type "dict",data:=.dict #[]} (.dK []) where
 new:=fun s Q E h=>wpAny_newObj_type h
 live:=rfl
 ok:=fun pins σ H s I=>i9 s.heap I.big
def mG:iU X (newList []) {cls:=.type "list",data:=.seq #[]} (.lst []) where
 new:=fun s Q E h=>wpAny_newObj_type h
 live:=rfl
 ok:=fun pins σ H s I=>⟨aan _,[],0,.nil,Z6 _ rfl⟩
end
section
variable{X:Cx}{elt kx vx tg iter:Expr}{ifs:List Expr}{sc:Scope}{pos:Pos}{wi:TI}{N':List Str}{src:List (Option Nat)}{g:TG}{tifs:TT}{te tk tv:TE}
def Jw (src:List (Option Nat))(N':List Str)(hc:X.calm=true)(S:bA sc X.env.scope)(hcap:b6 sc src N' X.N=true)(hi:PI X tg iter wi)
   (hb:∀s H C fp xe,PG (dQ X N' sc s H C fp xe) tg g/\kY (dQ X N' sc s H C fp xe) ifs tifs/\PE (dQ X N' sc s H C fp xe) elt te)
   (hs:∀x,aaB iter X.env x=pure x:=by intro _;rfl):PE X (.ListComp elt [⟨tg,iter,ifs,0⟩] sc pos) (dO src (.lst []) wi g tifs (cp te)):=
 qY qz hc S hcap hi (fun s H C fp xe D=>⟨(hb s H C fp xe).1,(hb s H C fp xe).2.1,wo (hb s H C fp xe).2.2 D⟩) mG hs rfl
def JG {i:Nat}{x:Str}{pos' dB:Pos}(src:List (Option Nat))(N':List Str)(hc:X.calm=true)(S:bA sc X.env.scope)(hcap:b6 sc src N' X.N=true)(hi:PI X tg iter wi)
   (hb:∀s H C fp xe,PG (dQ X N' sc s H C fp xe) tg g/\kY (dQ X N' sc s H C fp xe) ifs tifs/\PE (dQ X N' sc s H C fp xe) elt te)
   (hN:X.N.Nodup) (hix:X.N[i]?=some x) (hx:Loc X.env.scope x) (hsw:abY (.ListComp elt [⟨tg,iter,ifs,0⟩] sc pos) (some (.Name x pos')) dB.line X.env=pure true:=by rfl)
   (hs:∀x,aaB iter X.env x=pure x:=by intro _;rfl) (hf:X.fn x=true\/X.env.scope.names.lookup x=some .local:=by first|show .inl rfl|show .inr rfl|assumption) :
   PS X (.Assign [.Name x pos'] (.ListComp elt [⟨tg,iter,ifs,0⟩] sc pos) dB) (n6 (dO src (.lst []) wi g tifs (cp te)) (dq i)):=
 q8 qz hc S hcap hi (fun s H C fp xe D=>⟨(hb s H C fp xe).1,(hb s H C fp xe).2.1,wo (hb s H C fp xe).2.2 D⟩) mG hs (fun z=>rfl) hN hix hx hsw hf
end
section
variable{K:ZV}{a:Addr}{xs:List V}{g:TG}{tifs:TT}{tm:TM}{σ0:St}{Z:Hp->Prop}{H:Hp}
def eN (n:Nat){J:It}(Pv:Nat->Hp->Prop)(h0:Pv 0 H)(hgo:∀i H,i<n->Pv i H->J.go i H)(hst:∀H,Pv n H->J.stop n H)
   (turn:∀i H,i<n->Pv i H->∀x H',J.yld i H x H'->g x σ0 H' fun σ2 H2=>tifs σ2 H2 fun b H3=>
     if b=true then tm σ2 H3 fun H4=>aX σ0 σ2/\∃m',m'<n-i/\(m'=n-(i+1)/\i+1<=n/\Pv (i+1) H4)else aX σ0 σ2/\∃m',m'<n-i/\(m'=n-(i+1)/\i+1<=n/\Pv (i+1) H3))
   (hZ:∀H,Pv n H->Z H):gg J σ0 g tifs tm Z H:=by
 show⟨fun i m H=>m=n-i/\i<=n/\Pv i H,⟨n,by simp,aan _,h0⟩,?_⟩
 rintro i m H ⟨rfl,hi,p⟩
 by_cases cZ:i<n
 . show .inr ⟨hgo i H cZ p,turn i H cZ p⟩
 . have e:i=n:=by lia
   subst e
   show .inl ⟨hst H p,hZ H p⟩
def bo (Pv:Nat->Hp->Prop)(h0:Pv 0 H)(hl:∀i H,i<=xs.length->Pv i H->aE K H a xs)
   (turn:∀i x H,xs[i]?=some x->Pv i H->g x σ0 H fun σ2 H2=>tifs σ2 H2 fun b H3=>
     if b=true then tm σ2 H3 fun H4=>aX σ0 σ2/\∃m',m'<xs.length-i/\(m'=xs.length-(i+1)/\i+1<=xs.length/\Pv (i+1) H4)else aX σ0 σ2/\∃m',m'<xs.length-i/\(m'=xs.length-(i+1)/\i+1<=xs.length/\Pv (i+1) H3))
   (hZ:∀H,Pv xs.length H->Z H):gg (Fv K a) σ0 g tifs tm Z H:=by
 show eN xs.length Pv h0 (fun i H hi p=>⟨xs,xs[i],hl i H (aaC hi) p,by simp[hi]⟩) (fun H p=>⟨xs,hl _ H (Z0 _) p,Z0 _⟩) (fun i H hi p x H' y=>?_) hZ
 obtain⟨e,y⟩:=y
 subst e
 show turn i x _ (y xs (hl i _ (aaC hi) p)) p
def mQ (Pv:Nat->Hp->Prop)(h0:Pv 0 H)(hl:∀i H,i<=xs.length->Pv i H->aN K H a xs)
   (turn:∀i x H,xs[i]?=some x->Pv i H->g x σ0 H fun σ2 H2=>tifs σ2 H2 fun b H3=>
     if b=true then tm σ2 H3 fun H4=>aX σ0 σ2/\∃m',m'<xs.length-i/\(m'=xs.length-(i+1)/\i+1<=xs.length/\Pv (i+1) H4)else aX σ0 σ2/\∃m',m'<xs.length-i/\(m'=xs.length-(i+1)/\i+1<=xs.length/\Pv (i+1) H3))
   (hZ:∀H,Pv xs.length H->Z H):gg (Fw K a) σ0 g tifs tm Z H:=by
 show eN xs.length Pv h0 (fun i H hi p=>⟨xs,xs[i],hl i H (aaC hi) p,by simp[hi]⟩) (fun H p=>⟨xs,hl _ H (Z0 _) p,Z0 _⟩) (fun i H hi p x H' y=>?_) hZ
 obtain⟨e,y⟩:=y
 subst e
 show turn i x _ (y xs (hl i _ (aaC hi) p)) p
def cW {lo:Int}{n:Nat}(Pv:Nat->Hp->Prop)(h0:Pv 0 H)
   (turn:∀i H,i<n->Pv i H->g (.int (lo+i)) σ0 H fun σ2 H2=>tifs σ2 H2 fun b H3=>
     if b=true then tm σ2 H3 fun H4=>aX σ0 σ2/\∃m',m'<n-i/\(m'=n-(i+1)/\i+1<=n/\Pv (i+1) H4)else aX σ0 σ2/\∃m',m'<n-i/\(m'=n-(i+1)/\i+1<=n/\Pv (i+1) H3))
   (hZ:∀H,Pv n H->Z H):gg (BV lo n) σ0 g tifs tm Z H:=by
 show eN n Pv h0 (fun i H hi p=>hi) (fun H p=>Z0 _) (fun i H hi p x H' y=>?_) hZ
 obtain⟨e,y⟩:=y
 subst e y
 show turn i _ hi p
def aD {n i:Nat}{P:Prop}{Pv:Nat->Hp->Prop}{H:Hp}(k:P)(hi:i<n)(p:Pv (i+1) H):P/\∃m',m'<n-i/\(m'=n-(i+1)/\i+1<=n/\Pv (i+1) H):=⟨k,_,by lia,rfl,hi,p⟩
end
section
variable{X:Cx}{pins:List (Addr×Obj)}{σ:St}{H:Hp}{s:Shared}{h':Heap}{ch:List Addr}{a:Addr}{o:HO}
def Inv.many {t':Nat}(I:Inv X pins σ H s)(hch:∀b∈ch,dG X pins H b)(k:∀b ob,b∉ch->s.heap.get? b=some ob->h'.get? b=some ob)(hp:s.heap.objs.size<=a)(new:aR X.prog X.w (upd H a o) h' a o) :
   Inv X pins σ (upd H a o) {s with heap:=h',toks:=t'}:=by
 have hn:H a=none:=I.hok.fresh hp
 have na:∀b ob,s.heap.get? b=some ob->b≠a:=fun b ob e=>aaf (aak (Z7 e) hp)
 have vF:∀b u,H b=some u->b∉ch:=fun b u e z=>by rw[(hch b z).1]at e;cases e
 show I.step (g':=s.gens) (d':=s.drawn) (ch:=ch) (fun b hb=>⟨(hch b hb).2.2.2.1,(hch b hb).2.1,(hch b hb).2.2.2.2.1,(hch b hb).2.2.2.2.2⟩) (fun b ob y y hc e y=>k b ob hc e) (fun b ob y y hc e y=>⟨ob.slots,k b ob hc e⟩)
   (fun b ob y e n=>by rw[au (na b ob e)];show n) (fun b ob hc e=>⟨ob,k b ob hc e⟩) (fun b xs e=>by rw[au (ar e hn)];show e) (fun b ob u e=>by rw[au (ar e hn)];show e)
   (fun b ps e=>⟨#[],by rw[au (ar e hn),e];simp⟩) (fun m hm=>?_) (fun b u e=>?_) I.bare
 . obtain⟨ob,es,ep,ho,r⟩:=hm
   show⟨ob,es,ep,k _ ob (fun z=>(hch _ z).2.1 rfl) ho,r⟩
 . by_cases hb:b=a
   . subst hb;rw[ae]at e;cases e;show new
   . rw[au hb]at e
     show(I.hok b u e).b8 (fun c v hc q=>k c v ?_ q) (fun c q=>by rw[au (ar q hn)];show q) fun c xs q=>by rw[au (ar q hn)];show q
     rcases hc with z|z
     . subst z;show vF c u e
     . show vF c _ z
def Inv.vA {t':Nat}(I:Inv X pins σ H s)(hch:∀b∈ch,dG X pins H b)(k:∀b ob,b∉ch->s.heap.get? b=some ob->h'.get? b=some ob) :
   Inv X pins σ H {s with heap:=h',toks:=t'}:=by
 have vF:∀b u,H b=some u->b∉ch:=fun b u e z=>by rw[(hch b z).1]at e;cases e
 show I.step (g':=s.gens) (d':=s.drawn) (ch:=ch) (fun b hb=>⟨(hch b hb).2.2.2.1,(hch b hb).2.1,(hch b hb).2.2.2.2.1,(hch b hb).2.2.2.2.2⟩) (fun b ob y y hc e y=>k b ob hc e) (fun b ob y y hc e y=>⟨ob.slots,k b ob hc e⟩)
   (fun b ob y e n=>n) (fun b ob hc e=>⟨ob,k b ob hc e⟩) (fun b xs e=>e) (fun b ob u e=>e)
   (fun b ps e=>⟨#[],by rw[e];simp⟩) (fun m hm=>?_) (fun b u e=>?_) I.bare
 . obtain⟨ob,es,ep,ho,r⟩:=hm
   show⟨ob,es,ep,k _ ob (fun z=>(hch _ z).2.1 rfl) ho,r⟩
 . show(I.hok b u e).b8 (fun c v hc q=>k c v ?_ q) (fun c q=>q) fun c xs q=>q
   rcases hc with z|z
   . subst z;show vF c u e
   . show vF c _ z
end
end L2
namespace PySem
def lN:typeLookup (.type "list") "keys"=pure none:=by rw[typeLookup_type,builtinLookup_eq_fast];kernel_rfl
section
variable{prog:Program}{w:World}{A:Around}{E:Value->Shared->Prop}{s:Shared}
def fQ {a:Addr}{xs:Array Value}{k:Nat}{u:Tok}{Q:Value->Shared->Prop}(hx:s.heap.get? a=some {cls:=.type "list",data:=.seq xs k})(hA:A.handled=none)
   (h:∀h' tk e,Heap.NewAttrErr s.heap h' e (.ref a) "keys"->E (.ref e) {s with heap:=h',toks:=tk}) :
   wpAny (model prog w) A (getAttrBy (.ref a) (.str "keys" u) false) Q E s:=by
 obtain⟨hp,g,d,tk,os⟩:=s
 have hT:∀TN,(⟨hp,g,d,TN,os⟩ : Shared).TypeIs (.ref a) "list":=fun z=>⟨_,hx,rfl⟩
 have f1:=sub_AttributeError
 have f3:=F.slot_list_getattribute.lookup
 have f4:=F.slot_list_getattribute.bind (.ref a)
 have f5:=am_list_getattr_none
 unfold getAttrBy
 repeat (any_goals (first|assumption|show hT _|((with_reducible change wpAny _ _ (call (Value.builtin "list.__getattribute__") _ _) _ _ _);show call_meets F.slot_list_getattribute (hT _) am_entry_list_getattribute (F.args_list_getattribute_2 _ _) (meets_getattribute_miss_list a xs k #[] "keys" _ lN (by right)) ⟨hx,hA,fun h' TN e AG=>?_⟩)|wp_step))
 obtain⟨t',u',he⟩:=AG.there
 change wpAny _ _ (getattributeRaised _ _ _ _ _ _ _) _ _ _
 unfold getattributeRaised
 repeat (any_goals (first|assumption|wp_step))
 show h _ _ _ AG
def dU {a:Addr}{xs:Array Value}{k:Nat}{Q:Option Value->Shared->Prop}(hx:s.heap.get? a=some {cls:=.type "list",data:=.seq xs k})(hA:A.handled=none)
   (h:∀h' tk,(∀b o,s.heap.get? b=some o->h'.get? b=some o)->Q none {s with heap:=h',toks:=tk}):wpAny (model prog w) A (getAttr? (.ref a) "keys") Q E s:=by
 unfold getAttr? getAttrBy?
 show wpAny_bind (wpAny_mkText (wpAny_bind (wpAny_attempt (fQ hx hA fun h' tk e ne=>?_))))
 obtain⟨t',u',he⟩:=ne.there
 show wpAny_bind (wpAny_isInstance (T:="AttributeError") (b:=true) ⟨_,he,U⟩ sub_AttributeError ?_)
 show wpAny_pure (h h' _ ne.keeps)
def fR {t:Addr}{vs:Array Value}{Q:List Value->Shared->Prop}(ht:s.heap.IsTuple t vs)(h:Q vs.toList s):wpAny (model prog w) A (ac8 (.ref t)) Q E s:=by
 obtain⟨o,ho,hc,n,hd⟩:=ht
 unfold ac8
 show wpAny_bind (wpAny_typeOf (T:="tuple") ⟨o,ho,hc⟩ ?_)
 rw[ba (by left)]
 show wpAny_bind ?_
 obtain⟨hp,g,d,tk,os⟩:=s
 unfold seqItems?
 repeat (any_goals (first|assumption|wp_step))
 all_goals (first|(rw[hd];repeat (any_goals (first|assumption|wp_step)))|skip)
end
end PySem
namespace L2
open PySem PySem.Spec PyProof.Rows
section
variable{X:Cx}
def cD:entryFor table "dict.update.loop"=some Builtin.«dict.update.loop»:=entryFor_of_tree (by kernel_rfl)
def oF (H:Hp)(t:V)(kv:Key×V):Prop:=∃a,t=.ref a/\H a=some (.tup [kV kv.1,kv.2])
def putAll (d:List (Key×V))(kvs:List (Key×V)):List (Key×V):=kvs.foldl (fun d p=>putK d p.1 p.2) d
def og {pins:List (Addr×Obj)}{σ:St}{A:Around}{D l it:Addr}{xs:List V}(hh:A.handled=none) :
   ∀(n i:Nat) (j:Int) (t:Tok) (kvs d:List (Key×V)) (H:Hp) (s:Shared) (R:Result->Shared->Prop),xs.length-i=n->i<=xs.length->Inv X pins σ H s->H D=some (.dK d)->d.length+n<=sizeLine->aE X.K H l xs->dG X pins H it->s.heap.IsListIter it l i ->
     Paired (oF H) (xs.drop i) kvs->(∀s',Inv X pins σ (upd H D (.dK (putAll d kvs))) s'->R (.ok (.ret .none)) s') ->
     codeAny (model X.prog X.w) A (.builtin "dict.update.loop" ⟨[.ref D,.ref it,.int j t,.none],[]⟩) R s:=by
 intro n
 induction n using Nat.strongRecOn with
 | _ n ih=>
   intro i j t kvs d H s R hn hi I hD hz hq hf hit hp hR
   obtain⟨its,rv,p,_⟩:=I.list hq
   have hl:=rv.length
   obtain⟨f0,f1,f2,f3,f4,f5⟩:=id hf
   show codeAny_builtin cD ?_
   have hA:(A.under (.builtin "dict.update.loop" ⟨[.ref D,.ref it,.int j t,.none],[]⟩)).handled=none:=by rw[show(A.under (.builtin "dict.update.loop" ⟨[.ref D,.ref it,.int j t,.none],[]⟩)).handled=A.handled from rfl];show hh
   generalize A.under (.builtin "dict.update.loop" ⟨[.ref D,.ref it,.int j t,.none],[]⟩)=A' at hA ⊢
   unfold Builtin.«dict.update.loop»
   change wpAny _ _ (pyNext (.ref it)>>=_) _ _ _
   cases hx:xs[i]? with
   | none=>
     have Az:xs.length<=i:=List.getElem?_eq_none_iff.mp hx
     show wpAny_bind (wpAny_pyNext_list_end hA hit p.isList (by simp;lia) fun h' eb=>?_)
     have I1:Inv X pins σ H {s with heap:=h'}:=I.turned (t':=s.toks) (fun b o hb e=>eb b o hb e) f0 f1 f3 f4 f5
     have CF:xs.drop i=[]:=ad1 Az
     rw[CF]at hp
     cases hp
     have e:upd H D (.dK (putAll d []))=H:=by
       funext b
       unfold upd
       split
       . rename_i hb;rw[hb,hD];rfl
       . rfl
     rw[e]at hR
     change wpAny _ _ (abX D []>>=_) _ _ _
     show wpAny_bind (wpAny_pure (wpAny_pure (hR _ I1)))
   | some x=>
     have cZ:i<xs.length:=(List.getElem?_eq_some_iff.mp hx).1
     obtain⟨u,hu,ru⟩:=rv.get hx
     have CF:xs.drop i=x::xs.drop (i+1):=by
       have e:xs[i]=x:=(List.getElem?_eq_some_iff.mp hx).2
       rw[adL cZ,e]
     rw[CF]at hp
     cases hp with
     | @cons _ kv _ r AA dR=>
       obtain⟨ta,rfl,Og⟩:=AA
       obtain rfl:u=aab ta:=ru
       show wpAny_bind (wpAny_pyNext_list_item hit p.isList (x:=.ref ta) (by simpa using hu) fun h' mZ sb=>?_)
       have I1:Inv X pins σ H {s with heap:=h'}:=I.turned (t':=s.toks) (fun b o hb e=>(sb.2 b hb).trans e) f0 f1 f3 f4 f5
       obtain⟨fB,LU,p2,_⟩:=I1.tuple (aN.of Og)
       obtain⟨w1,w2,rfl,r1,r2⟩:=Vals.two LU
       show wpAny_bind (wpAny_holding ?_)
       show wpAny_bind (wpAny_tryCatch (fR (show({s with heap:=h'}:Shared).heap.IsTuple ta #[w1,w2]from(show IsTup h' ta #[w1,w2]by simpa using p2)) ?_))
       change wpAny _ _ (holding [w1,w2] (dictSet D w1 w2)) _ _ _
       obtain⟨z,qK,vs,rel,dd⟩:=hG I1.hok hD
       have Oq:vs.length<=sizeLine:=by rw[← rel.length];show z
       have We:(putK d kv.1 kv.2).length<=d.length+1:=bj d kv.1 kv.2
       have AD:n=xs.length-(i+1)+1:=by lia
       show wpAny_holding (wpAny_dictSet_pairs (hsz:=Oq) (hV r1) dd fun h2 iF hs2=>?_)
       have he:∃q,h2.get? D=some q:=by obtain⟨q,_,_,hq,_⟩:=iF;show⟨q,hq⟩
       have uZ:D≠it:=fun z=>by rw[z,f0]at hD;cases hD
       have N3:aE X.K (upd H D (.dK (putK d kv.1 kv.2))) l xs:=by
         rcases hq with(q|⟨o,q⟩)|q
         . show .inl (.inl (by rw[au (bX q hD (fun z=>nomatch z))];show q))
         . show .inl (.inr ⟨o,by rw[au (bX q hD (fun z=>nomatch z))];show q⟩)
         . show .inr q
       show wpAny_pure ⟨ab9 _ (by right),?_⟩
       show ih (xs.length-(i+1)) (by lia) (i+1) _ _ r (putK d kv.1 kv.2) (upd H D (.dK (putK d kv.1 kv.2))) _ R rfl cZ (cq (t':=_) I1 (by rw[hD];show aae) hs2 he (ja (by lia) qK (rel.put kv.1 r2) iF)) ae (by lia) N3 ⟨by rw[au uZ.symm];show f0,hf.2⟩ (mZ.extBut hs2.extBut uZ.symm) ?_ ?_
       . show Paired.aV dR fun a b ⟨c,e1,e2⟩=>⟨c,e1,by rw[au (bX e2 hD (fun z=>nomatch z))];show e2⟩
       . intro s' I'
         rw[iS]at I'
         show hR s' I'
def rh (K:ZV):List V->Hp->VK->Prop:=fun vs H Q=>∃l xs kvs,vs=[.ref l]/\H l=some (.lst xs)/\Paired (oF H) xs kvs/\∀D,H D=none->Q (.ref D) (upd H D (.dK (putAll [] kvs)))
def iu (hc:X.calm=true):bY X (.type "dict") (rh X.K):=by
 intro pins s σ H vs us Q I r h
 obtain⟨l,xs,kvs,rfl,hl,hp,q⟩:=h
 obtain⟨u,rfl,ru⟩:=vals1 r
 obtain rfl:u=aab l:=ru
 have hh:X.A.handled=none:=I.ok.hd hc
 have hD:H s.heap.objs.size=none:=I.hok.fresh (Z0 _)
 have I1:Inv X pins σ (upd H s.heap.objs.size (.dK [])) {s with heap:=s.heap.push {cls:=.type "dict",data:=.dict #[]} }:=I.laid (t':=s.toks) (fun y y e=>ZX _ e) (Z0 _) (i9 s.heap I.big)
 show callType_codes (Q₁:=fun obj s₁=>obj=.ref s.heap.objs.size/\s₁={s with heap:=s.heap.push {cls:=.type "dict",data:=.dict #[]} }) F.kt_called_dict (F.kt_typeCall_dict_1 _) F.entry_dict_init (kt_code_dict_new _ ⟨U,U⟩) ?_
 rintro obj s₁ ⟨rfl,rfl⟩
 have vg:(s.heap.push {cls:=.type "dict",data:=.dict #[]}).DictOf (aI X.prog X.w) s.heap.objs.size []:=acX s.heap
 generalize vj:({s with heap:=s.heap.push {cls:=.type "dict",data:=.dict #[]} }:Shared)=s1 at I1 ⊢
 have jf:s1.heap.DictOf (aI X.prog X.w) s.heap.objs.size []:=by rw[← vj];show vg
 generalize s.heap.objs.size=D at hD I1 jf ⊢
 have ko:(upd H D (.dK [])) l=some (.lst xs):=by rw[au (ar hl hD)];show hl
 show⟨jf.typeIs,F.args_dict_init_2 _ _,?_⟩
 unfold Builtin.«dict.__init__»
 show wpAny_bind ?_
 unfold abW
 show wpAny_bind (wpAny_notOrdered_dict jf.typeIs ?_)
 change wpAny _ _ (pure (D,[aab l])) _ _ _
 show wpAny_pure ?_
 change wpAny _ _ (aaW "dict.__init__" D (.ref l) [] .none) _ _ _
 unfold aaW
 obtain⟨z,its,n,rv,e⟩:=(show aR X.prog X.w _ s1.heap l (.lst xs)from I1.hok l _ ko)
 show wpAny_bind (wpAny_typeOf (T:="list") ⟨_,e,U⟩ ?_)
 rw[ba (by left)]
 show wpAny_bind (dU e hh fun h' tk hk=>?_)
 rw[ba (show(Option.isNone (none:Option Value))=true from rfl)]
 have I2:Inv X pins σ (upd H D (.dK [])) {s1 with heap:=h',toks:=tk}:=I1.kept hk
 show wpAny_bind (wpAny_rule ?_)
 show wpAny_bind (wpAny_pyIter_list ⟨_,hk _ _ e,U,n,U⟩ ?_)
 have I3:=I2.kept (h':=h'.push {cls:=.type "list_iterator",data:=.fields #[.ref l,.int 0 0]}) (t':=tk) fun b o e=>ZX _ e
 show wpAny_pure ⟨ab9 _ (by right),?_⟩
 show og (l:=l) (it:=h'.objs.size) (xs:=xs) (d:=[]) (kvs:=kvs) (pins:=pins) (σ:=σ) (A:=X.A.in1) (show X.A.in1.handled=none from hh) xs.length 0 _ _ _ _ _ (by simp) (aan _) I3 ae (by simpa using z) (aE.of ko) (I2.jP (Z0 _) (I2.hok.fresh (Z0 _))) ⟨_,Z6 _ rfl,U,U⟩ ?_ ?_
 . show Paired.aV hp fun a b ⟨c,e1,e2⟩=>⟨c,e1,by rw[au (ar e2 hD)];show e2⟩
 . intro s' I'
   rw[iS]at I'
   show⟨U,.ref D,_,I',U,q D hD⟩
end
end L2
namespace L2
open PySem PySem.Spec PyProof.Rows SeqAt
inductive EB (K:ZV) (H:Hp):Nat->V->V->Bool->Prop where
 | flat {n:Nat} {x y:V}:cC x=true->cC y=true->EB K H n x y (fA x y)
 | same {n:Nat} {a:Addr}:EB K H n (.ref a) (.ref a) true
 | lst {n:Nat} {a b:Addr} {xs ys:List V} {e:Nat->Bool}:a≠b->aE K H a xs->aE K H b ys->xs.length=ys.length->(∀j x y,xs[j]?=some x->ys[j]?=some y->EB K H n x y (e j)) ->
     EB K H (n+1) (.ref a) (.ref b) ((aax xs.length).all e)
 | len {n:Nat} {a b:Addr} {xs ys:List V}:a≠b->aE K H a xs->aE K H b ys->xs.length≠ys.length->EB K H n (.ref a) (.ref b) false
 | tup {n:Nat} {a b:Addr} {xs ys:List V} {e:Nat->Bool}:a≠b->aN K H a xs->aN K H b ys->(∀j x y,xs[j]?=some x->ys[j]?=some y->EB K H n x y (e j)) ->
     EB K H (n+1) (.ref a) (.ref b) ((aax (min xs.length ys.length)).all e&&xs.length==ys.length)
section
variable{X:Cx}{pins:List (Addr×Obj)}{σ:St}{H:Hp}{s:Shared}
def de {K:ZV}{n:Nat}{A:Around}{xs ys:List V}{us vs:List Value}{e:Nat->Bool}(rv:Vals xs us)(rw':Vals ys vs)
   (h:∀j x y,xs[j]?=some x->ys[j]?=some y->∀(A:Around) (u v:Value),RelV x u->RelV y v->A.units+n<cLine->EqAt A s u v (e j)) (hu:A.units+(n+1)<cLine) :
   ∀j (h1:j<us.toArray.size) (h2:j<vs.toArray.size),EqAt A.in1 s us.toArray[j] vs.toArray[j] (e j):=fun j h1 h2=>by
 have l1:=rv.length
 have l2:=rw'.length
 have Ll:j<us.length:=by simpa using h1
 have ou:j<vs.length:=by simpa using h2
 have hx:xs[j]?=some (xs[j]'(by lia)):=Z3 _
 have hy:ys[j]?=some (ys[j]'(by lia)):=Z3 _
 obtain⟨u,WD,ru⟩:=rv.get hx
 obtain⟨v,hv1,EH⟩:=rw'.get hy
 have eu:us[j]=u:=by have:=Z3 Ll;rw[WD]at this;show(aas this).symm
 have ev:vs[j]=v:=by have:=Z3 ou;rw[hv1]at this;show(aas this).symm
 have q:=h j _ _ hx hy A.in1 u v ru EH (by change A.units+1+n<cLine;lia)
 simpa[eu,ev]using q
def EB.at (I:Inv X pins σ H s){n:Nat}{x y:V}{b:Bool}(q:EB X.K H n x y b):∀(A:Around) (u v:Value),RelV x u->RelV y v->A.units+n<cLine->EqAt A s u v b:=by
 induction q with
 | flat h1 h2=>show fun A u v ru rv z=>oS ru rv h1 h2
 | same=>intro A u v ru rv _;cases ru;cases rv;show EqAt.same _
 | @lst n a b xs ys e hne ha hb hl _ ih=>
   intro A u v ru rv hu
   cases ru;cases rv
   obtain⟨us,r1,p1,_⟩:=I.list ha
   obtain⟨vs,r2,p2,_⟩:=I.list hb
   have l1:=r1.length
   have l2:=r2.length
   have q:=RcAt.lists (A:=A) p1.isList p2.isList (by simp;lia) (by lia) (de (K:=X.K) r1 r2 ih hu)
   rw[show us.toArray.size=xs.length by simp[l1]]at q
   show EqAt.of_refs hne q
 | @len n a b xs ys hne ha hb hl=>
   intro A u v ru rv hu
   cases ru;cases rv
   obtain⟨us,r1,p1,_⟩:=I.list ha
   obtain⟨vs,r2,p2,_⟩:=I.list hb
   have l1:=r1.length
   have l2:=r2.length
   show EqAt.of_refs hne (RcAt.lists_lengths p1.isList p2.isList (by simp;lia) (by lia))
 | @tup n a b xs ys e hne ha hb _ ih=>
   intro A u v ru rv hu
   cases ru;cases rv
   obtain⟨us,r1,p1,_⟩:=I.tuple ha
   obtain⟨vs,r2,p2,_⟩:=I.tuple hb
   have l1:=r1.length
   have l2:=r2.length
   have q:=RcAt.tuples (A:=A) (show s.heap.IsTuple a us.toArray from p1) (show s.heap.IsTuple b vs.toArray from p2) (by lia) (de (K:=X.K) r1 r2 ih hu)
   rw[show us.toArray.size=xs.length by simp[l1],show vs.toArray.size=ys.length by simp[l2]]at q
   show EqAt.of_refs hne q
end
def RB (K:ZV)(H:Hp)(n:Nat)(x y:V)(b:Bool):Prop:=∃a c xs ys,x=.ref a/\y=.ref c /\
 ((∃e:Nat->Bool,aE K H a xs/\aE K H c ys/\xs.length=ys.length/\(∀j x y,xs[j]?=some x->ys[j]?=some y->EB K H n x y (e j))/\b=(aax xs.length).all e) \/
  (aE K H a xs/\aE K H c ys/\xs.length≠ys.length/\b=false) \/
  (∃e:Nat->Bool,aN K H a xs/\aN K H c ys/\(∀j x y,xs[j]?=some x->ys[j]?=some y->EB K H n x y (e j))/\b=((aax (min xs.length ys.length)).all e&&xs.length==ys.length)))
section
variable{X:Cx}
def DR {m:Nat}(hu:X.A.units+(m+1)<cLine):eV X (compareOp .Eq) (fun x y H Q=>∃b,RB X.K H m x y b/\Q (.bl b) H):=by
 intro pins s σ H x y v u Q I rx ry h
 obtain⟨b,⟨a,c,xs,ys,rfl,rfl,q⟩,k⟩:=h
 cases rx;cases ry
 rcases q with⟨e,ha,hb,hl,he,rfl⟩|⟨ha,hb,hl,rfl⟩|⟨e,ha,hb,he,rfl⟩
 . obtain⟨us,r1,p1,_⟩:=I.list ha
   obtain⟨vs,r2,p2,_⟩:=I.list hb
   have l1:=r1.length
   have l2:=r2.length
   show eq_listAt p1.isList p2.isList (by simp;lia) (by lia) (de (K:=X.K) r1 r2 (fun j x y h1 h2=>(he j x y h1 h2).at I) hu) ?_
   rw[show us.toArray.size=xs.length by simp[l1]]
   show⟨.bl _,H,I,U,k⟩
 . obtain⟨us,r1,p1,_⟩:=I.list ha
   obtain⟨vs,r2,p2,_⟩:=I.list hb
   have l1:=r1.length
   have l2:=r2.length
   show eq_list_lengthsAt p1.isList p2.isList (by simp;lia) (by lia) ⟨.bl _,H,I,U,k⟩
 . obtain⟨us,r1,p1,_⟩:=I.tuple ha
   obtain⟨vs,r2,p2,_⟩:=I.tuple hb
   have l1:=r1.length
   have l2:=r2.length
   show eq_tupleAt (show s.heap.IsTuple a us.toArray from p1) (show s.heap.IsTuple c vs.toArray from p2) (by lia) (de (K:=X.K) r1 r2 (fun j x y h1 h2=>(he j x y h1 h2).at I) hu) ?_
   rw[show us.toArray.size=xs.length by simp[l1],show vs.toArray.size=ys.length by simp[l2]]
   show⟨.bl _,H,I,U,k⟩
def DX {m:Nat}(hu:X.A.units+(m+1)<cLine):eV X (compareOp .NotEq) (fun x y H Q=>∃b,RB X.K H m x y b/\Q (.bl (!b)) H):=by
 intro pins s σ H x y v u Q I rx ry h
 obtain⟨b,⟨a,c,xs,ys,rfl,rfl,q⟩,k⟩:=h
 cases rx;cases ry
 rcases q with⟨e,ha,hb,hl,he,rfl⟩|⟨ha,hb,hl,rfl⟩|⟨e,ha,hb,he,rfl⟩
 . obtain⟨us,r1,p1,_⟩:=I.list ha
   obtain⟨vs,r2,p2,_⟩:=I.list hb
   have l1:=r1.length
   have l2:=r2.length
   show RcNeAt.lists p1.isList p2.isList (by simp;lia) (by lia) (de (K:=X.K) r1 r2 (fun j x y h1 h2=>(he j x y h1 h2).at I) hu) X.prog X.w X.xe _ ?_
   rw[show us.toArray.size=xs.length by simp[l1]]
   show⟨.bl _,H,I,U,k⟩
 . obtain⟨us,r1,p1,_⟩:=I.list ha
   obtain⟨vs,r2,p2,_⟩:=I.list hb
   have l1:=r1.length
   have l2:=r2.length
   show RcNeAt.lists_lengths p1.isList p2.isList (by simp;lia) (by lia) X.prog X.w X.xe _ ⟨.bl _,H,I,U,k⟩
 . obtain⟨us,r1,p1,_⟩:=I.tuple ha
   obtain⟨vs,r2,p2,_⟩:=I.tuple hb
   have l1:=r1.length
   have l2:=r2.length
   show RcNeAt.tuples (show s.heap.IsTuple a us.toArray from p1) (show s.heap.IsTuple c vs.toArray from p2) (by lia) (de (K:=X.K) r1 r2 (fun j x y h1 h2=>(he j x y h1 h2).at I) hu) X.prog X.w X.xe _ ?_
   rw[show us.toArray.size=xs.length by simp[l1],show vs.toArray.size=ys.length by simp[l2]]
   show⟨.bl _,H,I,U,k⟩
end
def ET (K:ZV)(H:Hp)(n:Nat)(x y:V):Prop:=EB K H n x y true
def all_true {n:Nat}:(aax n).all (fun z=>true)=true:=by rw[aby];intro _ _;rfl
def ET.lst {K:ZV}{H:Hp}{n:Nat}{a b:Addr}{xs ys:List V}(ha:aE K H a xs)(hb:aE K H b ys)(hl:xs.length=ys.length)(h:∀(j:Nat) (x y:V),xs[j]?=some x->ys[j]?=some y->ET K H n x y):ET K H (n+1) (.ref a) (.ref b):=by
 by_cases e:a=b
 . subst e;show .same
 . have q:=EB.lst (e:=fun z=>true) e ha hb hl h
   rw[all_true]at q
   show q
def ET.tup {K:ZV}{H:Hp}{n:Nat}{a b:Addr}{xs ys:List V}(ha:aN K H a xs)(hb:aN K H b ys)(hl:xs.length=ys.length)(h:∀(j:Nat) (x y:V),xs[j]?=some x->ys[j]?=some y->ET K H n x y):ET K H (n+1) (.ref a) (.ref b):=by
 by_cases e:a=b
 . subst e;show .same
 . have q:=EB.tup (e:=fun z=>true) e ha hb h
   rw[all_true,hl,beq_self_eq_true]at q
   show q
def uU {x:V}(h:cC x=true):fA x x=true:=by cases x<;>simp_all [cC,fA]
def ET.refl {K:ZV}{H:Hp}{n:Nat}{x:V}(h:cC x=true\/∃a,x=.ref a):ET K H n x x:=by
 rcases h with h|⟨a,rfl⟩
 . have q:=EB.flat (K:=K) (H:=H) (n:=n) h h
   rw[uU h]at q
   show q
 . show .same
def RB.lst {K:ZV}{H:Hp}{n:Nat}{a b:Addr}{xs ys:List V}(ha:aE K H a xs)(hb:aE K H b ys)(hl:xs.length=ys.length)(h:∀(j:Nat) (x y:V),xs[j]?=some x->ys[j]?=some y->ET K H n x y):RB K H n (.ref a) (.ref b) true:=
 ⟨a,b,xs,ys,rfl,rfl,.inl ⟨fun z=>true,ha,hb,hl,h,all_true.symm⟩⟩
def RB.tup {K:ZV}{H:Hp}{n:Nat}{a b:Addr}{xs ys:List V}(ha:aN K H a xs)(hb:aN K H b ys)(hl:xs.length=ys.length)(h:∀(j:Nat) (x y:V),xs[j]?=some x->ys[j]?=some y->ET K H n x y):RB K H n (.ref a) (.ref b) true:=
 ⟨a,b,xs,ys,rfl,rfl,.inr (.inr ⟨fun z=>true,ha,hb,h,by rw[all_true,hl,beq_self_eq_true];rfl⟩)⟩
def RB.nil {K:ZV}{H:Hp}{n:Nat}{a b:Addr}{xs:List V}(ha:aE K H a xs)(hb:aE K H b []):RB K H n (.ref a) (.ref b) xs.isEmpty:=by
 cases xs with
 | nil=>show RB.lst ha hb rfl (fun j x y h=>by simp at h)
 | cons x r=>show⟨a,b,_,[],rfl,rfl,.inr (.inl ⟨ha,hb,by simp,rfl⟩)⟩
section
variable{X:Cx}{pos:Pos}
def GW (K:ZV)(n:Nat)(t:rX):TG:=fun v σ H Q=>∃a xs,v=.ref a/\aE K H a xs/\xs.length=n/\t xs σ H Q
def El {es:List Expr}{k:Nat}{t:rX}{n:Nat}(hc:X.calm=true)(h:Fz X es t)
   (hn:(assignEach es X.env).length=n:=by rfl) (hst:(assignEach es X.env).findIdx? (·.1)=none:=by rfl):PG X (.Tuple es k pos) (GW X.K n t):=by
 intro pins s σ H v u Q I r hw
 obtain⟨a,xs,e1,hq,hl,hw⟩:=hw
 subst e1
 cases r
 obtain⟨its,rv,ht,hz⟩:=I.list hq
 have hlen:=rv.length
 rw[assign_Tuple]
 show wpAny_bind (wpAny_standAt ?_)
 unfold unpack
 rw[show(assignEach es X.env).length=its.toArray.size by simp[hn,← hl,hlen],hst]
 show wpAny_bind (wpAny_holding (PySem.W.kun_itemsOf (I.ok.hd hc) ht.isList fun h' hx=>?_))
 have I1:Inv X pins σ H {s with heap:=h'}:=I.kept (t':=s.toks) fun b o e=>hx b o (aaf (Z7 e)) e
 show h pins _ σ H xs _ Q I1 (by simpa using rv) hw
def Ad (i j:Int):Prop:=0<j/\j<2^1000
def vY:eV X (binaryOp .FloorDiv) (rI Ad fun i j=>.int (i/j)):=LM fun i j z z z z z hc q=>by
 have h1:(0:Int)<j:=hc.1
 have h2:j<2^1000:=hc.2
 have h3:j.natAbs<2^1000:=by lia
 show floordiv_int (by lia) (by rw[Int.fdiv_eq_ediv_of_nonneg i (by lia)];show q) (.inl (PyProof.noPylong_of_log2 (aak ((Nat.log2_lt (by lia)).mpr h3) (by left))))
def uK:bY X (.builtin "isinstance") (fun xs H Q=>∃x n t b,xs=[x,.ty n]/\di X.K H x t/\ab3 X.K t (.type n)=some b/\Q (.bl b) H):=by
 intro pins s σ H xs us Q I r h
 obtain⟨x,n,t,b,rfl,ty,e,q⟩:=h
 obtain⟨u,v,rfl,ru,rv⟩:=Vals.two r
 obtain rfl:v=abA n:=rv
 show sV I ru ty e fun tk=>⟨.bl b,H,I.tok tk,U,q⟩
end
end L2
namespace TW
open PySem L2
inductive K2 where
 | plus|less|same|under|both
def K2.str:K2->Str
 | .plus=>"plus" | .less=>"less" | .same=>"same" | .under=>"under" | .both=>"both"
inductive E where
 | num (n:Int)|box (tag x:Str)|yes|nt (a:E)|two (k:K2) (a b:E)
def Tp (H:Hp)(v:V)(xs:List V):Prop:=∃p,v=.ref p/\H p=some (.tup xs)
def cK (H:Hp):V->E->Prop
 | v,.num n=>Tp H v [.str "number",.int n]
 | v,.box t x=>Tp H v [.str t,.str x]
 | v,.yes=>Tp H v [.str "yes"]
 | v,.nt a=>∃x,Tp H v [.str "not",x]/\cK H x a
 | v,.two k a b=>∃x y,Tp H v [.str k.str,x,y]/\cK H x a/\cK H y b
def TK (H H':Hp):Prop:=∀b xs,H b=some (.tup xs)->H' b=some (.tup xs)
def TK.trans {A B C:Hp}(a:TK A B)(b:TK B C):TK A C:=fun c o h=>b c o (a c o h)
def Tp.keep {H H':Hp}{v:V}{xs:List V}(k:TK H H')(h:Tp H v xs):Tp H' v xs:=by obtain⟨p,e,q⟩:=h;show⟨p,e,k p xs q⟩
theorem cK.keep {H H':Hp}(k:TK H H'):∀{e:E} {v:V},cK H v e->cK H' v e
 | .num _,_,h=>Tp.keep k h
 | .box _ _,_,h=>Tp.keep k h
 | .yes,_,h=>Tp.keep k h
 | .nt _,_,⟨x,h,a⟩=>⟨x,h.keep k,cK.keep k a⟩
 | .two _ _ _,_,⟨x,y,h,a,b⟩=>⟨x,y,h.keep k,cK.keep k a,cK.keep k b⟩
def E.dep:E->Nat
 | .num _=>0|.box _ _=>0|.yes=>0|.nt a=>a.dep+1|.two _ a b=>max a.dep b.dep+1
def E.dZ:E->Prop
 | .num _=>True
 | .box _ _=>True
 | .two .plus a b=>a.dZ/\b.dZ
 | .two .less a b=>a.dZ/\b.dZ
 | _=>False
def E.lJ:E->Prop
 | .yes=>True
 | .nt a=>a.lJ
 | .two .same a b=>a.dZ/\b.dZ
 | .two .under a b=>a.dZ/\b.dZ
 | .two .both a b=>a.lJ/\b.lJ
 | _=>False
def E.okIn (P:Str->Str->Prop):E->Prop
 | .num n=>n.natAbs<2^100|.box t x=>P t x|.yes=>True|.nt a=>a.okIn P|.two _ a b=>a.okIn P/\b.okIn P
theorem E.okIn.imp {P Q:Str->Str->Prop}(f:∀t x,P t x->Q t x):∀{e:E},e.okIn P->e.okIn Q
 | .num _,h=>h|.box t x,h=>f t x h|.yes,_=>aae|.nt a,h=>E.okIn.imp f (e:=a) h|.two _ a b,h=>⟨E.okIn.imp f (e:=a) h.1,E.okIn.imp f (e:=b) h.2⟩
def E.worth (w:Str->Str->Int):E->Int
 | .num n=>n
 | .box t x=>w t x
 | .two .plus a b=>a.worth w+b.worth w
 | .two .less a b=>a.worth w-b.worth w
 | _=>0
def E.holds (w:Str->Str->Int):E->Bool
 | .yes=>true
 | .nt a=>!(a.holds w)
 | .two .same a b=>decide (a.worth w=b.worth w)
 | .two .under a b=>decide (a.worth w<b.worth w)
 | .two .both a b=>a.holds w&&b.holds w
 | _=>false
def af {H:Hp}{p:Addr}(h:H p=none)(o:HO):ag H (upd H p o):=fun b u q=>by rw[au (ar q h)];show q
def ag.tk {H H':Hp}(s:ag H H'):TK H H':=fun b xs h=>s b _ h
def Fj {H:Hp}{p:Addr}(h:H p=none)(o:HO):TK H (upd H p o):=ag.tk (af h o)
def small {n:Nat}(h:n<=1000):n<=sizeLine:=aaC (aC h)
def cB (H:Hp)(v:V)(b:Str×Int):Prop:=Tp H v [.str b.1,.int b.2]
end TW
set_option exponentiation.threshold 4000
namespace TW
open PySem L2
def Src (K:ZV)(mg:Str->Option Value)(x:Str)(st:Stmt):Prop:=∃f fd,bQ K x x st f fd/\mg x=some (.ref f)
def aO (P:Program)(w:World)(K:ZV)(mg:Str->Option Value)(base:Heap)(x:Str)(ps:List Str)(k:Nat)(sp:Sp):Prop:=
 ∃f fd,aK P w K mg base bJ k f fd ps sp/\abH K (.ref f)=true/\Binds K fd ps []/\mg x=some (.ref f)
def aO.mono {P:Program}{w:World}{K:ZV}{mg:Str->Option Value}{base:Heap}{x:Str}{ps:List Str}{j k:Nat}{sp:Sp}(h:aO P w K mg base x ps j sp)(hk:j<=k):aO P w K mg base x ps k sp:=
 let⟨f,fd,a,b,c,d⟩:=h;⟨f,fd,a.mono hk,b,c,d⟩
def bB {A:Around}{k:Nat}(hr:cV k A)(m:Nat)(hm:m<=64):A.units+m<cLine:=by have:=hr.units;lia
end TW
namespace L2
open PySem PySem.Spec PyProof.Rows
structure bD (e:Expr):Prop where
 h:∀(es:List Expr) (env:Env),starEach (e::es) env=(false,eval e env)::starEach es env
def ff {e:Expr}(h:∀x p,e≠.Starred x p):bD e:=⟨fun es env=>by
 cases e<;>first|rfl|show aB rfl (h _ _)⟩
def jv {c k p}:bD (.Constant c k p):=ff fun y y z=>nomatch z
def iM {x p}:bD (.Name x p):=ff fun y y z=>nomatch z
def iK {f a k p}:bD (.Call f a k p):=ff fun y y z=>nomatch z
def vN {a o b p}:bD (.BinOp a o b p):=ff fun y y z=>nomatch z
def lT {a b p}:bD (.Subscript a b p):=ff fun y y z=>nomatch z
def vR {a b p}:bD (.Tuple a b p):=ff fun y y z=>nomatch z
def vQ {a p}:bD (.List a p):=ff fun y y z=>nomatch z
def vO {a b c p}:bD (.Compare a b c p):=ff fun y y z=>nomatch z
def AR {a b c p}:bD (.ListComp a b c p):=ff fun y y z=>nomatch z
def AU {a b p}:bD (.UnaryOp a b p):=ff fun y y z=>nomatch z
def fG (es:List Expr):Prop:=∀(pos:Pos) (env:Env),(backTo pos (starEach es env)).any (·.1)=false
def yQ:fG []:=fun z z=>rfl
def vS {e:Expr}{es:List Expr}(h:bD e)(hs:fG es):fG (e::es):=fun pos env=>by
 rw[h.h es env]
 show hs pos env
structure qi (X:Cx)(es:List Expr)(t:TA):Prop where
 pa:PA X es t
 ns:∀e r,es=e::r->bD e/\fG r
 nss:fG es
section
variable{X:Cx}{e:Expr}{es:List Expr}{te:TE}{t:TA}{pos:Pos}
def an:qi X [] Fg:=⟨D8,(fun y y z=>nomatch z),yQ⟩
def ac (ha:PE X e te)(hr:qi X es t)
   (hs:bD e:=by first|show jv|show iM|show iK|show vN|show lT|show vR|show vQ|show vO|show AR|show ID|show AU|show yO|show yN):qi X (e::es) (xp te t):=
 ⟨zc ha hr.pa (hs.h es X.env),fun e' r z=>by injection z with z1 z2;subst z1 z2;show⟨hs,hr.nss⟩,vS hs hr.nss⟩
def Qb {x1}(h:qi X es t):PE X (.Tuple es x1 pos) (Fh t):=Ej h.pa
def P9 (h:qi X es t):PE X (.List es pos) (Ff t):=Ee h.pa
def Fn {x:Str}{p:Pos}{id:String}{r:List V->Hp->VK->Prop}(hc:bY X (.builtin id) r)(hg:Gl X x)(hm:X.mg x=none)(hv:aaR x=some (.builtin id))(ha:qi X (e::es) t)(hn:x≠"__name__":=by left)(hdb:(x==("__debug__":Str))=false:=by left) :
   PE X (.Call (.Name x p) (e::es) [] pos) (F7 r t):=v5 hc hg hm hv ha.pa hn hdb ((ha.ns e es rfl).1.h es X.env) ((ha.ns e es rfl).2 pos X.env)
def Fo {x:Str}{p:Pos}{T:String}{r:List V->Hp->VK->Prop}(hc:bY X (.type T) r)(hg:Gl X x)(hm:X.mg x=none)(hv:aaR x=some (.type T))(ha:qi X (e::es) t)(hn:x≠"__name__":=by left)(hdb:(x==("__debug__":Str))=false:=by left) :
   PE X (.Call (.Name x p) (e::es) [] pos) (F7 r t):=tR hc hg hm hv ha.pa hn hdb ((ha.ns e es rfl).1.h es X.env) ((ha.ns e es rfl).2 pos X.env)
def Qa {x:Str}{p:Pos}{ps:List Str}{k:Nat}{sp:Sp}(D:TW.aO X.prog X.w X.K X.mg X.base x ps k sp)(hr:cV k X.A)(hg:Gl X x)(ha:qi X (e::es) t)(hdb:(x==("__debug__":Str))=false:=by left) :
   PE X (.Call (.Name x p) (e::es) [] pos) (rM sp [] E0 t):=
 let⟨_,_,G,kp,b,m⟩:=D
 qX G hr hg m kp b .nil Jq ha.pa hdb ((ha.ns e es rfl).1.h es X.env) ((ha.ns e es rfl).2 pos X.env)
def Ac {tg a:Expr}{ta:TA}{p:Pos}(hg:Gl X "range")(hm:X.mg "range"=none)(ha:qi X [a] ta):PI X tg (.Call (.Name "range" p) [a] [] pos) (vm ta):=
 tS hg hm ha.pa ((ha.ns a [] rfl).1.h [] X.env)
def P8 {o:Expr}{name:Str}{apos:Pos}{T id:String}{r:V->List V->Hp->VK->Prop}{to:TE}(pa:PlainAttrs T)(slot:Slot T name id)(hty:typeOf (.builtin id)=pure (.type "method_descriptor"))(hm:KL X id r)(ho:PE X o to)(ha:qi X [e] t)
   (hbase:aaX o name X.env (eval o X.env)=eval o X.env:=by rfl) (hline:(apos.endLine==pos.line)=true:=by rfl):PE X (.Call (.Attribute o name apos) [e] [] pos) (Fc X.K T r to t):=
 AZ pa slot hty hm ho ha.pa hbase (by rw[(ha.ns e [] rfl).1.h [] X.env];rfl) hline ((ha.ns e [] rfl).1.h [] X.env) ((ha.ns e [] rfl).2 pos X.env)
end
end L2
namespace L3
open PySem PySem.Spec PyProof.Rows L2
structure SE (X:Cx)(e:Expr)(t:TE):Prop where
 h:PE X e t
structure ST (X:Cx)(e:Expr)(t:TT):Prop where
 h:PT X e t
structure SW (X:Cx)(e:Expr)(t:TT):Prop where
 h:PW X e t
structure SA (X:Cx)(es:List Expr)(t:TA):Prop where
 h:qi X es t
structure SS (X:Cx)(s:Stmt)(t:TS):Prop where
 h:PS X s t
structure SL (X:Cx)(ss:List Stmt)(t:TS):Prop where
 h:kZ X ss t
structure SG (X:Cx)(e:Expr)(t:TG):Prop where
 h:PG X e t
structure Gr (X:Cx)(es:List Expr)(t:rX):Prop where
 h:Fz X es t
structure SI (X:Cx)(tg iter:Expr)(t:TI):Prop where
 h:PI X tg iter t
structure FA (X:Cx)(cs:List Expr)(t:TT):Prop where
 h:kY X cs t
structure SO (X:Cx)(f:Value->Value->Sem Value)(r:R2):Prop where
 h:eV X f r
structure SX (X:Cx)(r:R2):Prop where
 h:KJ X r
structure SC (X:Cx)(f:Value)(r:List V->Hp->VK->Prop):Prop where
 h:bY X f r
structure SM (X:Cx)(id:String)(r:V->List V->Hp->VK->Prop):Prop where
 h:KL X id r
section
variable{X:Cx}{a b c e o:Expr}{es:List Expr}{ta tb tc te:TE}{t:TA}{tA uB:TT}{pos:Pos}{r:R2}
def v (i:Nat){x:Str}(hN:X.N[i]?=some x:=by rfl)(hv:KO X.env.scope x:=by first|show Or.inl rfl|show Or.inr (Or.inl rfl)|show Or.inr (Or.inr rfl))(hd:(x==("__debug__":Str))=false:=by left)
   (hcd:(x==("__classdict__":Str))=false:=by left):SE X (.Name x pos) (Ks i):=⟨Ek hN hv hd hcd⟩
theorem int {i j}:SE X (.Constant (.int i) j pos) (tC (.int i)):=⟨Ed⟩
theorem bl {k j}:SE X (.Constant (.bool k) j pos) (tC (.bl k)):=⟨Ju⟩
theorem br {j}:SE X (.Constant .none j pos) (tC .br):=⟨Ef⟩
theorem str {x j}:SE X (.Constant (.str x) j pos) (tC (.str x)):=⟨Ei⟩
def glob {x:Str}{w:V}{u:Value}(hg:Gl X x)(hm:X.mg x=some u)(r:RelV w u)(hd:(x==("__debug__":Str))=false:=by left):SE X (.Name x pos) (tC w):=⟨zi hg hm r hd⟩
def oJ {x:Str}{w:V}{u:Value}(hg:Gl X x)(hm:X.mg x=none)(hv:aaR x=some u)(r:RelV w u)(hn:x≠"__name__":=by left)(hd:(x==("__debug__":Str))=false:=by left):SE X (.Name x pos) (tC w):=⟨zd hg hm hv r hn hd⟩
def op {k:Operator}(ho:SO X (binaryOp k) r)(ha:SE X a ta)(hb:SE X b tb):SE X (.BinOp a k b pos) (Bz r ta tb):=⟨Jx ho.h ha.h hb.h⟩
def cmp {k:CmpOp}(ho:SO X (compareOp k) r)(ha:SE X a ta)(hb:SE X b tb)(hm:ab7 k b=false:=by show vJ _):ST X (.Compare a [k] [b] pos) (BC (Bz r ta tb)):=⟨zM ho.h ha.h hb.h hm⟩
def dy {k:CmpOp}(ho:SO X (compareOp k) r)(ha:SE X a ta)(hb:SE X b tb)(hm:ab7 k b=false:=by show vJ _):SE X (.Compare a [k] [b] pos) (Bz r ta tb):=⟨ze ho.h ha.h hb.h hm⟩
def cE:SO X (binaryOp .Add) (rm fun i j=>.int (i+j)):=⟨DP⟩
def eF:SO X (binaryOp .Sub) (rm fun i j=>.int (i-j)):=⟨D7⟩
def dW:SO X (binaryOp .Mult) (rI xW fun i j=>.int (i*j)):=⟨DW⟩
def ic:SO X (binaryOp .Mod) (rI (fun z j=>0<j) fun i j=>.int (i%j)):=⟨DV⟩
def kE:SO X (binaryOp .FloorDiv) (rI Ad fun i j=>.int (i/j)):=⟨vY⟩
def AW:SO X (binaryOp .Pow) (rI Gi fun i j=>.int (i^j.toNat)):=⟨DY⟩
def fT:SO X (binaryOp .Add) JI:=⟨DQ⟩
def bp:SO X (compareOp .Eq) SF:=⟨Jd⟩
def lV:SO X (compareOp .NotEq) SJ:=⟨Ji⟩
def jT:SO X (compareOp .Lt) (rm fun i j=>.bl (decide (i<j))):=⟨Jh⟩
def tL:SO X (compareOp .Gt) (rm fun i j=>.bl (decide (j<i))):=⟨Jf⟩
def Dx:SO X (compareOp .GtE) (rm fun i j=>.bl (decide (j<=i))):=⟨Je⟩
def IG:SO X (compareOp .LtE) (rm fun i j=>.bl (decide (i<=j))):=⟨Jg⟩
def qT {KK:ZV}{m:Nat}(hu:X.A.units+(m+1)<cLine)(hK:X.K=KK:=by first|show bg|rfl):SO X (compareOp .Eq) (fun x y H Q=>∃b,RB KK H m x y b/\Q (.bl b) H):=by
 subst hK
 show⟨DR hu⟩
def kF {KK:ZV}{m:Nat}(hu:X.A.units+(m+1)<cLine)(hK:X.K=KK:=by first|show bg|rfl):SO X (compareOp .NotEq) (fun x y H Q=>∃b,RB KK H m x y b/\Q (.bl (!b)) H):=by
 subst hK
 show⟨DX hu⟩
def lU {KK:ZV}(hK:X.K=KK:=by first|show bg|rfl):SO X (compareOp .In) (LS KK false):=by
 subst hK
 show⟨tN⟩
def qU {KK:ZV}(hK:X.K=KK:=by first|show bg|rfl):SO X (compareOp .NotIn) (LS KK true):=by
 subst hK
 show⟨lX⟩
def fU:SO X (compareOp .Is) (fun x y H Q=>y=.br/\Q (.bl (decide (x=.br))) H):=⟨DT⟩
def jU {rest:List Expr}(ha:ST X a tA)(hb:SW X (.BoolOp .Or (b::rest) pos) uB):SW X (.BoolOp .Or (a::b::rest) pos) (TJ tA uB):=⟨JH ha.h hb.h⟩
def pH (ha:ST X a tA):SW X (.BoolOp .Or [a] pos) tA:=⟨EC ha.h⟩
def mI {rest:List Expr}(ha:ST X a tA)(hb:SW X (.BoolOp .And (b::rest) pos) uB):SW X (.BoolOp .And (a::b::rest) pos) (Kk tA uB):=⟨EA ha.h hb.h⟩
def mH (ha:ST X a tA):SW X (.BoolOp .And [a] pos) tA:=⟨zN ha.h⟩
def tw (h:SW X e tA):ST X e tA:=⟨h.h.pt⟩
def nt (ha:ST X a tA):ST X (.UnaryOp .Not a pos) (Kp tA):=⟨Ey ha.h⟩
def dg (h:SE X e te)(he:∀whole,isTrue e X.env whole=(do let v←whole;standAt e.pos;holding [v] (truthy v)):=by intro _;rfl):ST X e (tB te):=⟨Ez h.h he⟩
def ix (hr:SX X r)(ha:SE X a ta)(hb:SE X b tb)(hs:qk b:=by show fun z z=>rfl):SE X (.Subscript a b pos) (Bz r ta tb):=⟨Jv hr.h ha.h hb.h hs⟩
def dS {KK:ZV}(hK:X.K=KK:=by first|show bg|rfl):SX X (JL KK):=by
 subst hK
 show⟨yA⟩
def aL {KK:ZV}(hK:X.K=KK:=by first|show bg|rfl):SX X (JM KK):=by
 subst hK
 show⟨C9⟩
def ye (hu:X.A.units+1<cLine)(ho:SE X a ta)(hi:SE X b tb)(hs:BW b:=by show fun z z=>rfl):SE X (.Subscript a b pos) (Bs ta tb):=⟨zf hu ho.h hi.h hs⟩
def J5 {KK:ZV}{p2:Pos}(ha:SE X a ta)(hb:SE X b tb)(hK:X.K=KK:=by first|show bg|rfl):SE X (.Subscript a (.Slice (some b) none none p2) pos) (F8 (zO KK) ta (kQ tb) eU):=by
 subst hK
 show⟨eG pS ha.h (fX hb.h) fW⟩
def xa {KK:ZV}{p2:Pos}(ha:SE X a ta)(hb:SE X b tb)(hK:X.K=KK:=by first|show bg|rfl):SE X (.Subscript a (.Slice none (some b) none p2) pos) (F8 (ED KK) ta eU (kQ tb)):=by
 subst hK
 show⟨eG rE ha.h fW (fX hb.h)⟩
def n:SA X [] Fg:=⟨an⟩
def k (ha:SE X e te)(hr:SA X es t)(hs:bD e:=by first|show jv|show iM|show iK|show vN|show lT|show vR|show vQ|show vO|show AR|show ID|show AU|show yO|show yN) :
   SA X (e::es) (xp te t):=⟨ac ha.h hr.h hs⟩
def tup {x1}(h:SA X es t):SE X (.Tuple es x1 pos) (Fh t):=⟨Qb h.h⟩
def lst (h:SA X es t):SE X (.List es pos) (Ff t):=⟨P9 h.h⟩
def aS {x:Str}{p:Pos}{id:String}{rr:List V->Hp->VK->Prop}(hc:SC X (.builtin id) rr)(hg:Gl X x)(hm:X.mg x=none)(hv:aaR x=some (.builtin id))(ha:SA X (e::es) t)(hn:x≠"__name__":=by left)(hdb:(x==("__debug__":Str))=false:=by left) :
   SE X (.Call (.Name x p) (e::es) [] pos) (F7 rr t):=⟨Fn hc.h hg hm hv ha.h hn hdb⟩
def bR {x:Str}{p:Pos}{T:String}{rr:List V->Hp->VK->Prop}(hc:SC X (.type T) rr)(hg:Gl X x)(hm:X.mg x=none)(hv:aaR x=some (.type T))(ha:SA X (e::es) t)(hn:x≠"__name__":=by left)(hdb:(x==("__debug__":Str))=false:=by left) :
   SE X (.Call (.Name x p) (e::es) [] pos) (F7 rr t):=⟨Fo hc.h hg hm hv ha.h hn hdb⟩
def own {x:Str}{p:Pos}{ps:List Str}{kk:Nat}{sp:Sp}(D:TW.aO X.prog X.w X.K X.mg X.base x ps kk sp)(hr:cV kk X.A)(hg:Gl X x)(ha:SA X (e::es) t)(hdb:(x==("__debug__":Str))=false:=by left) :
   SE X (.Call (.Name x p) (e::es) [] pos) (rM sp [] E0 t):=⟨Qa D hr hg ha.h hdb⟩
def Mt {KK:ZV}{name:Str}{apos:Pos}{T id:String}{rr:V->List V->Hp->VK->Prop}(pa:PlainAttrs T)(slot:Slot T name id)(hty:typeOf (.builtin id)=pure (.type "method_descriptor"))(hm:SM X id rr)(ho:SE X o ta)(ha:SA X [e] t)
   (hbase:aaX o name X.env (eval o X.env)=eval o X.env:=by rfl) (hline:(apos.endLine==pos.line)=true:=by rfl) (hK:X.K=KK:=by first|show bg|rfl):SE X (.Call (.Attribute o name apos) [e] [] pos) (Fc KK T rr ta t):=by
 subst hK
 show⟨P8 pa slot hty hm.h ho.h ha.h hbase hline⟩
theorem append {KK:ZV}{apos:Pos}(ho:SE X o ta)(ha:SA X [e] t)(hbase:aaX o "append" X.env (eval o X.env)=eval o X.env:=by rfl)(hline:(apos.endLine==pos.line)=true:=by rfl)(hK:X.K=KK:=by first|show bg|rfl):SE X (.Call (.Attribute o "append" apos) [e] [] pos) (Fc KK "list" rf ta t):=by
 subst hK
 show Mt abf PySem.F.slot_list_append PySem.F.type_list_append ⟨kC⟩ ho ha hbase hline
def A2 {KK:ZV}{apos:Pos}(ho:SE X o ta)(ha:SA X [e] t)(hbase:aaX o "pop" X.env (eval o X.env)=eval o X.env:=by rfl)(hline:(apos.endLine==pos.line)=true:=by rfl)(hK:X.K=KK:=by first|show bg|rfl):SE X (.Call (.Attribute o "pop" apos) [e] [] pos) (Fc KK "list" wG ta t):=by
 subst hK
 show Mt abf PySem.F.slot_list_pop PySem.F.type_list_pop ⟨vD⟩ ho ha hbase hline
def bK {KK:ZV}(hK:X.K=KK:=by first|show bg|rfl):SC X (.builtin "len") (fun xs H Q=>∃p ys,xs=[.ref p]/\(aE KK H p ys\/aN KK H p ys)/\Q (.int ys.length) H):=by
 subst hK
 show⟨k9⟩
def ft {KK:ZV}(hK:X.K=KK:=by first|show bg|rfl):SC X (.type "list") (fun xs H Q=>∃p ys,xs=[.ref p]/\(aE KK H p ys\/aN KK H p ys)/\∀l,H l=none->Q (.ref l) (upd H l (.lst ys))):=by
 subst hK
 show⟨lh⟩
def Cb {KK:ZV}(hc:X.calm=true:=by rfl)(hK:X.K=KK:=by first|show bg|rfl):SC X (.type "dict") (rh KK):=by
 subst hK
 show⟨iu hc⟩
def qu:SC X (.type "int") (fun xs H Q=>(∃i,xs=[.int i]/\Q (.int i) H)\/∃k,xs=[.bl k]/\Q (.int (if k then 1 else 0)) H):=⟨r8⟩
def gn (i:Nat){x:Str}(hN:X.N.Nodup)(hi:X.N[i]?=some x:=by rfl)(hx:Loc X.env.scope x:=by first|show Or.inl rfl|show Or.inr rfl)(hf:X.fn x=true\/X.env.scope.names.lookup x=some .local:=by first|show .inl rfl|show .inr rfl):SG X (.Name x pos) (dq i):=⟨zj hN hi hx hf⟩
def hJ:Gr X [] yj:=⟨zk⟩
def cg {t:TG}{u:rX}(h1:SG X e t)(h2:Gr X es u)(hs:(assignEach (e::es) X.env).map (·.2)=assign e X.env::(assignEach es X.env).map (·.2):=by rfl):Gr X (e::es) (jc t u):=⟨we h1.h h2.h hs⟩
def cI {KK:ZV}{kk:Nat}{t:rX}(m:Nat)(h:Gr X es t)(hc:X.calm=true:=by rfl)(hn:(assignEach es X.env).length=m:=by rfl)(hst:(assignEach es X.env).findIdx? (·.1)=none:=by rfl)(hK:X.K=KK:=by first|show bg|rfl):SG X (.Tuple es kk pos) (ym KK m t):=by
 subst hK
 show⟨Em hc h.h hn hst⟩
def Nb {KK:ZV}{kk:Nat}{t:rX}(m:Nat)(h:Gr X es t)(hc:X.calm=true:=by rfl)(hn:(assignEach es X.env).length=m:=by rfl)(hst:(assignEach es X.env).findIdx? (·.1)=none:=by rfl)(hK:X.K=KK:=by first|show bg|rfl):SG X (.Tuple es kk pos) (GW KK m t):=by
 subst hK
 show⟨El hc h.h hn hst⟩
def G9 {cc:Const}{j:Nat}{p:Pos}(ho:SE X a ta)(hi:SE X (.Constant cc j p) tb):SG X (.Subscript a (.Constant cc j p) pos) (yk ta tb rp):=⟨pK ho.h hi.h set_list (fun z=>rfl)⟩
def iL {KK:ZV}{tg:Expr}(h:SE X a ta)(hK:X.K=KK:=by first|show bg|rfl):SI X tg a (AH KK ta):=by
 subst hK
 show⟨zo h.h⟩
def iT {KK:ZV}{tg:Expr}(h:SE X a ta)(hK:X.K=KK:=by first|show bg|rfl):SI X tg a (Ia KK ta):=by
 subst hK
 show⟨Eo h.h⟩
def iR {tg:Expr}{p:Pos}(hg:Gl X "range")(hm:X.mg "range"=none)(ha:SA X [a] t):SI X tg (.Call (.Name "range" p) [a] [] pos) (vm t):=⟨Ac hg hm ha.h⟩
def jh:FA X [] Fe:=⟨O9⟩
def if1 (h:ST X a tA):FA X [a] tA:=⟨Pa h.h⟩
def lc {tg iter elt:Expr}{ifs:List Expr}{sc:Scope}{wi:TI}{g:TG}{tifs:TT}(src:List (Option Nat))(N':List Str)(S:bA sc X.env.scope)(hcap:b6 sc src N' X.N=true)(hi:SI X tg iter wi)
   (hb:∀s H C fp xe,SG (dQ X N' sc s H C fp xe) tg g/\FA (dQ X N' sc s H C fp xe) ifs tifs/\SE (dQ X N' sc s H C fp xe) elt te) (hc:X.calm=true:=by rfl)
   (hs:∀x,aaB iter X.env x=pure x:=by intro _;rfl):SE X (.ListComp elt [⟨tg,iter,ifs,0⟩] sc pos) (dO src (.lst []) wi g tifs (cp te)):=
 ⟨Jw src N' hc S hcap hi.h (fun s H C fp xe=>⟨(hb s H C fp xe).1.h,(hb s H C fp xe).2.1.h,(hb s H C fp xe).2.2.h⟩) hs⟩
def Bi {tg iter elt:Expr}{ifs:List Expr}{sc:Scope}{wi:TI}{g:TG}{tifs:TT}{i:Nat}{x:Str}{pos' dB:Pos}(src:List (Option Nat))(N':List Str)(S:bA sc X.env.scope)(hcap:b6 sc src N' X.N=true)(hi:SI X tg iter wi)
   (hb:∀s H C fp xe,SG (dQ X N' sc s H C fp xe) tg g/\FA (dQ X N' sc s H C fp xe) ifs tifs/\SE (dQ X N' sc s H C fp xe) elt te) (hN:X.N.Nodup) (hix:X.N[i]?=some x:=by rfl) (hx:Loc X.env.scope x:=by show Or.inl rfl)
   (hsw:abY (.ListComp elt [⟨tg,iter,ifs,0⟩] sc pos) (some (.Name x pos')) dB.line X.env=pure true:=by rfl) (hc:X.calm=true:=by rfl)
   (hs:∀x,aaB iter X.env x=pure x:=by intro _;rfl) (hf:X.fn x=true\/X.env.scope.names.lookup x=some .local:=by first|show .inl rfl|show .inr rfl) :
   SS X (.Assign [.Name x pos'] (.ListComp elt [⟨tg,iter,ifs,0⟩] sc pos) dB) (n6 (dO src (.lst []) wi g tifs (cp te)) (dq i)):=
 ⟨JG src N' hc S hcap hi.h (fun s H C fp xe=>⟨(hb s H C fp xe).1.h,(hb s H C fp xe).2.1.h,(hb s H C fp xe).2.2.h⟩) hN hix hx hsw hs hf⟩
variable{st:Stmt}{rest:List Stmt}{u1 u2:TS}
def nil:SL X [] Bw:=⟨zH⟩
def cons (h1:SS X st u1)(h2:SL X rest u2):SL X (st::rest) (p9 u1 u2):=⟨wx h1.h h2.h⟩
def one (h1:SS X st u1):SL X [st] u1:=⟨zJ h1.h⟩
def never:SL X rest xu:=⟨tU⟩
def ret (he:SE X e te):SS X (.Return (some e) pos) (Kr te):=⟨Eu he.h⟩
def ex (he:SE X e te)(hs:abY e none pos.line X.env=pure false:=by rfl):SS X (.Expr e pos) (Bv te):=⟨zD he.h hs⟩
def ifs {tc:TT}{x y:List Stmt}(hc:ST X c tc)(ha:SL X x u1)(hb:SL X y u2):SS X (.If c x y pos) (Ko tc u1 u2):=⟨JF hc.h ha.h hb.h⟩
def set (i:Nat){x:Str}{pos':Pos}(hN:X.N.Nodup)(he:SE X e te)(hi:X.N[i]?=some x:=by rfl)(hx:Loc X.env.scope x:=by first|show Or.inl rfl|show Or.inr rfl)(hs:abY e (some (.Name x pos')) pos.line X.env=pure false:=by rfl)(hf:X.fn x=true\/X.env.scope.names.lookup x=some .local:=by first|show .inl rfl|show .inr rfl) :
   SS X (.Assign [.Name x pos'] e pos) (n6 te (dq i)):=⟨Ew hN hi hx he.h hs hf⟩
def asg {tg:Expr}{g:TG}(he:SE X e te)(hg:SG X tg g)(hs:abw [tg] e pos.line X.env=pure false:=by rfl)(hw:abx [tg] e X.env=pure none:=by rfl)
   (h1:(assignEach [tg] X.env).map (·.2)=[assign tg X.env]:=by rfl):SS X (.Assign [tg] e pos) (n6 te g):=⟨Er he.h hg.h hs hw h1⟩
def dA {tg iter:Expr}{body:List Stmt}{wi:TI}{g:TG}(hi:SI X tg iter wi)(hg:SG X tg g)(hb:SL X body u1)(hp:PassesOwn (model X.prog X.w) X.A X.env X.xe:=by show PassesOwn.never)(hc:X.calm=true:=by rfl)
   (hs:∀x,aaB iter X.env x=pure x:=by intro _;rfl):SS X (.For tg iter body [] pos) (Km wi g u1):=⟨Et hp hc hi.h hg.h hb.h hs⟩
end
end L3
namespace L3
open PySem PySem.Spec PyProof.Rows L2
section
variable{X:Cx}{a b c e o:Expr}{es:List Expr}{ta tb tc te:TE}{t:TA}{tA uB:TT}{pos:Pos}{r:R2}
def neg (ha:SE X a ta):SE X (.UnaryOp .USub a pos) (TL (rU fun i=>.int (-i)) ta):=⟨Jz Fl ha.h⟩
def Xy (ha:SE X a ta):SE X (.UnaryOp .Not a pos) (By ta):=⟨Eg ha.h⟩
def gX {rest:List Expr}(ha:SE X a ta)(hb:SE X (.BoolOp .And (b::rest) pos) tb):SE X (.BoolOp .And (a::b::rest) pos) (Bp ta tb):=⟨Ec ha.h hb.h⟩
def Jj {rest:List Expr}(ha:SE X a ta)(hb:SE X (.BoolOp .Or (b::rest) pos) tb):SE X (.BoolOp .Or (a::b::rest) pos) (Kq ta tb):=⟨Jy ha.h hb.h⟩
def lW {op}(ha:SE X a ta):SE X (.BoolOp op [a] pos) ta:=⟨Eh ha.h⟩
def Ib (hc:ST X c tA)(ha:SE X a ta)(hb:SE X b tb):SE X (.IfExp c a b pos) (TH tA ta tb):=⟨wd hc.h ha.h hb.h⟩
def pE:SO X (compareOp .IsNot) (fun x y H Q=>y=.br/\Q (.bl (!decide (x=.br))) H):=⟨za⟩
def ki {x:Str}{p:Pos}(ho:SE X a ta)(hi:SE X (.Name x p) tb):SG X (.Subscript a (.Name x p) pos) (yk ta tb rp):=⟨pK ho.h hi.h set_list (fun z=>rfl)⟩
end
end L3
namespace L2
open PySem PySem.Spec PyProof.Rows
end L2
namespace L3
open PySem PySem.Spec PyProof.Rows L2
theorem clear {X:Cx}{o:Expr}{ta:TE}{apos pos:Pos}{KK:ZV}(ho:SE X o ta)(hbase:aaX o "clear" X.env (eval o X.env)=eval o X.env:=by rfl)(hline:(apos.endLine==pos.line)=true:=by rfl)(hK:X.K=KK:=by first|show bg|rfl) :
   SE X (.Call (.Attribute o "clear" apos) [] [] pos) (Fd KK "list" wA ta):=by
 subst hK
 show⟨v3 abf PySem.F.slot_list_clear PySem.F.type_list_clear vB ho.h hbase hline⟩
end L3
namespace PySem
open Sem (wp)
end PySem
namespace PySem
end PySem
namespace L2
open PySem PySem.Spec PyProof.Rows
end L2
namespace L3
open PySem PySem.Spec PyProof.Rows L2
end L3
namespace L2
open PySem PySem.Spec PyProof.Rows
section
variable{X:Cx}{pos:Pos}
def BB (i j k:Nat)(ta:TA):TS:=fun D σ H=>ta σ H fun vs H1=>∃u v w,vs=[u,v,w]/\D.nx (((σ.set i (some u)).set j (some v)).set k (some w)) H1
def zF {i j k:Nat}{x y z:Str}{a b c:Expr}{ta:TA}{px py pz pt:Pos}{kt k2 nH}(hc:X.calm=true)(hN:X.N.Nodup)(hi:X.N[i]?=some x)(hj:X.N[j]?=some y)(hk:X.N[k]?=some z)(hij:i≠j)(hik:i≠k)(hjk:j≠k)
   (hx:X.env.scope.names.lookup x=some .local) (hy:X.env.scope.names.lookup y=some .local) (hzl:X.env.scope.names.lookup z=some .local) (ha:PA X [a,b,c] ta)
   (hw:abx [.Tuple [.Name x px,.Name y py,.Name z pz] kt pt] (.Tuple [a,b,c] k2 nH) X.env=pure (some [x,y,z]))
   (hs:abw [.Tuple [.Name x px,.Name y py,.Name z pz] kt pt] (.Tuple [a,b,c] k2 nH) pos.line X.env=pure false:=by rfl) :
   PS X (.Assign [.Tuple [.Name x px,.Name y py,.Name z pz] kt pt] (.Tuple [a,b,c] k2 nH) pos) (BB i j k ta):=by
 intro pins s σ H D I h
 rw[exec_Assign_arm]
 show wpAny_bind (wpAny_standAt ?_)
 rw[hs]
 show wpAny_bind (wpAny_pure ?_)
 rw[aQ (by left)]
 show wpAny_bind (Tuple_ (bu (ha _ pins s σ H _ I h) fun us s1 h9=>?_))
 obtain⟨vs,H1,I1,r1,q1⟩:=h9
 obtain⟨u,v,w,e1,q1⟩:=q1
 subst e1
 obtain⟨u1,u2,u3,rfl,ru,rv,rw'⟩ : ∃u1 u2 u3,us=[u1,u2,u3]/\RelV u u1/\RelV v u2/\RelV w u3:=by
   cases r1 with
   | cons p q=>
     cases q with
     | cons p' q'=>
       cases q' with
       | cons XM X0=>
         cases X0
         show⟨_,_,_,U,p,p',XM⟩
 show wpAny_newObj_type ?_ agn
 have I2:Inv X pins σ H1 {s1 with heap:=s1.heap.push {cls:=.type "tuple",data:=.seq [u1,u2,u3].toArray} }:=I1.kept (t':=s1.toks) fun b o e=>ZX _ e
 rw[hw]
 show wpAny_bind (wpAny_pure ?_)
 change wpAny (model X.prog X.w) X.A (do rule "assign.swapped-stores";let items←unpackItems (.ref s1.heap.objs.size) 3 none;assignInOrder [fun v=>acn X.env z v,fun v=>acn X.env y v,fun v=>acn X.env x v] items.reverse;pure ad6) _ _ _
 show wpAny_bind (wpAny_rule (wpAny_bind (unpackItems_tuple (items:=#[u1,u2,u3]) (I.ok.hd hc) (adh s1.heap _) fun h' AG=>?_)))
 have I3:=I2.kept (h':=h') (t':=s1.toks) fun b o e=>AG b o (aaf (Z7 e)) e
 change wpAny _ _ (assignInOrder [fun v=>acn X.env z v,fun v=>acn X.env y v,fun v=>acn X.env x v] [u3,u2,u1]>>=fun t=>pure ad6) _ _ _
 show wpAny_bind (assignInOrder_cons (wpAny_bindName (cG I3 hN hk (.inl hzl) rw' (fun s2 I4=>?_) (.inr hzl))))
 show assignInOrder_cons (wpAny_bindName (cG I4 hN hj (.inl hy) rv (fun s3 I5=>?_) (.inr hy)))
 show assignInOrder_cons (wpAny_bindName (cG I5 hN hi (.inl hx) ru (fun s4 I6=>adp (wpAny_pure ?_)) (.inr hx)))
 have e:((σ.set k (some w)).set j (some v)).set i (some u)=((σ.set i (some u)).set j (some v)).set k (some w):=by
   rw[acY _ _ hjk.symm,acY _ _ hik.symm,acY _ _ hij.symm]
 rw[e]at I6
 show⟨_,H1,I6,q1⟩
end
end L2
namespace L3
open PySem PySem.Spec PyProof.Rows L2
section
variable{X:Cx}{a b c e o:Expr}{es:List Expr}{ta tb tc te:TE}{t:TA}{pos:Pos}
def O4 (i j k:Nat){x y z:Str}{px py pz pt:Pos}{kt k2 nH}(hN:X.N.Nodup)(ha:SA X [a,b,c] t)(hi:X.N[i]?=some x:=by rfl)(hj:X.N[j]?=some y:=by rfl)(hk:X.N[k]?=some z:=by rfl)(hij:i≠j:=by left)(hik:i≠k:=by left)(hjk:j≠k:=by left)
   (hx:X.env.scope.names.lookup x=some .local:=by rfl) (hy:X.env.scope.names.lookup y=some .local:=by rfl) (hzl:X.env.scope.names.lookup z=some .local:=by rfl)
   (hw:abx [.Tuple [.Name x px,.Name y py,.Name z pz] kt pt] (.Tuple [a,b,c] k2 nH) X.env=pure (some [x,y,z]):=by rfl)
   (hs:abw [.Tuple [.Name x px,.Name y py,.Name z pz] kt pt] (.Tuple [a,b,c] k2 nH) pos.line X.env=pure false:=by rfl) (hc:X.calm=true:=by rfl) :
   SS X (.Assign [.Tuple [.Name x px,.Name y py,.Name z pz] kt pt] (.Tuple [a,b,c] k2 nH) pos) (BB i j k t):=⟨zF hc hN hi hj hk hij hik hjk hx hy hzl ha.h.pa hw hs⟩
theorem extend {apos:Pos}{KK:ZV}(ho:SE X o ta)(ha:SA X [e] t)(hbase:aaX o "extend" X.env (eval o X.env)=eval o X.env:=by rfl)(hline:(apos.endLine==pos.line)=true:=by rfl)(hK:X.K=KK:=by first|show bg|rfl) :
   SE X (.Call (.Attribute o "extend" apos) [e] [] pos) (Fc KK "list" rj ta t):=by
 subst hK
 show Mt abf PySem.F.slot_list_extend PySem.F.type_list_extend ⟨tG⟩ ho ha hbase hline
def qG {f:Expr}{tf:TE}{apos:Pos}(hu:X.A.units+1<cLine)(ho:SE X o ta)(he:SE X e te)(hf:SE X f tf)(m:M2 X o "get" apos e f pos:=by show⟨rfl,rfl,rfl,rfl⟩):SE X (.Call (.Attribute o "get" apos) [e,f] [] pos) (xq ta te tf):=⟨v8 hu ho.h he.h hf.h m⟩
end
end L3
namespace L2
open PySem PySem.Spec PyProof.Rows
end L2
namespace L3
open PySem PySem.Spec PyProof.Rows L2
section
variable{X:Cx}{a b c e o:Expr}{es:List Expr}{ta tb tc te:TE}{t:TA}{pos pos':Pos}{P:Program}{w:World}
def eM {KK:ZV}(hK:X.K=KK:=by first|show bg|rfl):SC X (.type "tuple") (fun xs H Q=>∃p ys,xs=[.ref p]/\aE KK H p ys/\∀l,H l=none->Q (.ref l) (upd H l (.tup ys))):=by
 subst hK
 show⟨fun pins s σ H xs us Q I r h=>?_⟩
 obtain⟨p,ys,e,hq,q⟩:=h
 show jO pins s σ H xs us Q I r ⟨p,ys,e,.inl ⟨hq,q⟩⟩
def Am (hc:X.calm=true:=by rfl):SC X (.builtin "min") (fun xs H Q=>∃i j,xs=[.int i,.int j]/\Q (.int (if j<i then j else i)) H):=⟨sh hc⟩
end
end L3
namespace L2
open PySem PySem.Spec PyProof.Rows
def oa (ta:TA):TE:=fun σ H Q=>ta σ H fun vs H1=>∃n:Nat,vs=[.int n]/\n<=100000/\∀l,H1 l=none->Q (.ref l) (upd H1 l (.lst ((aax n).map fun i:Nat=>V.int i)))
section
variable{X:Cx}{a b:Expr}{ta:TA}{tx ty:TE}{p1 p2 pos dB:Pos}
def pJ (hc:X.calm=true)(hg1:Gl X "list")(hm1:X.mg "list"=none)(hg2:Gl X "range")(hm2:X.mg "range"=none)(ha:qi X [a] ta)(hv1:aaR "list"=some (.type "list"):=by first|rfl|decide +kernel) :
   PE X (.Call (.Name "list" p1) [.Call (.Name "range" p2) [a] [] dB] [] pos) (oa ta):=by
 intro pins s σ H Q I h
 show wpAny_Call_Name_kw (eC I hg1 hm1 hv1 ?_ (by left) (by left))
 show aaF ?_ rfl rfl
 change wpAny _ _ (spliced ((false,eval (.Call (.Name "range" p2) [a] [] dB) X.env)::[])) _ _ s
 show abl (wpAny_Call_Name_kw (eC I hg2 hm2 boot_range ?_ (by left) (by left)))
 show aaF (bu (ha.pa dB pins s σ H _ I h) fun us s1 h9=>?_) ((ha.ns a [] rfl).1.h [] X.env) ((ha.ns a [] rfl).2 dB X.env)
 obtain⟨vs,H1,I1,r1,q1⟩:=h9
 obtain⟨n,e,hn,q⟩:=q1
 subst e
 obtain⟨u,rfl,ru⟩:=vals1 r1
 obtain⟨t,rfl⟩:=ru
 show call_range_1 ?_
 show abK ?_
 have I2:Inv X pins σ H1 {s1 with heap:=s1.heap.push {cls:=.type "range",data:=.fields #[.int 0 s1.toks,.int n t,.int 1 (s1.toks+1)]},toks:=s1.toks+1+1}:=I1.kept (t':=s1.toks+1+1) fun b o e=>ZX _ e
 have sz:ab0 0 n 1=(n:Int):=by
   unfold ab0
   rw[ba (by left)]
   by_cases z:(0:Int)<n
   . rw[ba z,Int.ediv_one]
     lia
   . rw[aQ z]
     lia
 have sm:Builtin.Range.small 0 n 1=true:=by
   show small_one (by lia) (by lia) (by lia) (by lia)
 show call_list_range (n:=n) (I2.ok.hd hc) (Z6 _ rfl) sm sz (aar hn (by left)) fun h' tk acc c' hk hS jd=>?_
 show⟨V.ref (s1.heap.push {cls:=.type "range",data:=.fields #[.int 0 s1.toks,.int n t,.int 1 (s1.toks+1)]}).objs.size,_,I2.laid (a:=(s1.heap.push {cls:=.type "range",data:=.fields #[.int 0 s1.toks,.int n t,.int 1 (s1.toks+1)]}).objs.size) (o:=.lst ((aax n).map fun i:Nat=>V.int i)) (t':=tk) hk (Z0 _) ⟨by rw[ZW,abt];show aar hn (by left),acc.toList,c',?_,by simpa using hS⟩,U,q _ (I2.hok.fresh (Z0 _))⟩
 have go:∀(l:List Value) (m:Nat),(∀j v,l[j]?=some v->∃t,v=acy ((m+j:Nat):Int) t)->Vals ((List.range' m l.length).map fun i:Nat=>V.int i) l:=by
   intro l
   induction l with
   | nil=>intro m _;show .nil
   | cons v r ih=>
     intro m hl
     obtain⟨t,e⟩:=hl 0 v rfl
     show .cons ⟨t,e⟩ (ih (m+1) fun j v hj=>?_)
     obtain⟨t,e⟩:=hl (j+1) v hj
     show⟨t,by rw[e,show m+1+j=m+(j+1)by lia]⟩
 have z:=go acc.toList 0 fun j v hj=>by
   obtain⟨t,e⟩:=jd.2 j v (by rw[← acA];show hj)
   show⟨t,by rw[e,show(0:Int)+(j:Int)*1=((0+j:Nat):Int)by lia]⟩
 rw[abz,jd.1,← List.range_eq_range']at z
 show z
end
end L2
namespace L3
open PySem PySem.Spec PyProof.Rows L2
section
variable{X:Cx}{a b c e o:Expr}{es:List Expr}{ta tb tc te:TE}{t:TA}{pos:Pos}
def yE {p1 p2 dB:Pos}(hg1:Gl X "list")(hm1:X.mg "list"=none)(hg2:Gl X "range")(hm2:X.mg "range"=none)(ha:SA X [a] t)(hc:X.calm=true:=by rfl):SE X (.Call (.Name "list" p1) [.Call (.Name "range" p2) [a] [] dB] [] pos) (oa t):=⟨pJ hc hg1 hm1 hg2 hm2 ha.h⟩
def Px {KK:ZV}{p2:Pos}(ha:SE X a ta)(hb:SE X b tb)(hK:X.K=KK:=by first|show bg|rfl):SE X (.Subscript a (.Slice (some b) none none p2) pos) (F8 (ED KK) ta (kQ tb) eU):=by
 subst hK
 show⟨eG rE ha.h (fX hb.h) fW⟩
end
end L3
namespace TW
end TW
namespace L2
open PySem PySem.Spec PyProof.Rows
end L2
namespace L3
open PySem PySem.Spec PyProof.Rows L2
end L3
namespace L2
open PySem PySem.Spec PyProof.Rows SeqAt
end L2
namespace L3
open PySem PySem.Spec PyProof.Rows L2
def AX {X:Cx}:SO X (binaryOp .Mult) JO:=⟨DZ⟩
end L3
namespace L2
open PySem PySem.Spec PyProof.Rows
def aR.ex {P:Program}{w:World}{H:Hp}{h:Heap}{a:Addr}{o:HO}(x:aR P w H h a o):∃ob,h.get? a=some ob:=by
 cases o with
 | lst xs=>obtain⟨_,_,_,_,e⟩:=x;show⟨_,e⟩
 | tup xs=>obtain⟨_,_,_,ob,e,_⟩:=x;show⟨ob,e⟩
 | dK kvs=>obtain⟨_,_,_,_,o,_,_,e,_⟩:=x;show⟨o,e⟩
 | dT kvs=>obtain⟨_,_,_,_,o,_,_,e,_⟩:=x;show⟨o,e⟩
 | set S n=>obtain⟨o,_,_,_,e,_⟩:=x;show⟨o,e⟩
 | ins C dx fs=>obtain⟨_,_,_,e,_⟩:=x;show⟨_,e⟩
 | own y=>obtain⟨ob,e⟩:=x;show⟨ob,e⟩
 | xd fs=>obtain⟨_,⟨ob,_,_,e,_⟩,_⟩:=x;show⟨ob,e⟩
 | rng lo hi=>obtain⟨_,_,_,e⟩:=x;show⟨_,e⟩
 | frz ob u=>obtain⟨e,_⟩:=x;show⟨ob,e⟩
 | tbl ps=>show⟨_,(show h.get? a=some _ from x)⟩
 | met f y=>show⟨_,(show h.get? a=some _ from x)⟩
 | ext φ=>obtain⟨_,⟨ob,e⟩,_⟩:=x;show⟨ob,e⟩
def mE (P:Program)(w:World)(base:Heap):ur:=fun outer H s E e s'=>∃(ea:Addr) (cls a0:Value) (B:Heap) (H':Hp),e=.ref ea/\s'.os=s.os/\AllBare s'.gens/\Un (fK outer) [] H H' s.heap s'.heap/\eL P w H' s'.heap /\
 base.StaysIn B/\Heap.FlyingW B outer ea cls a0 s'.heap/\(∀b o,s.heap.get? b=some o->b∉fK outer->∃o',B.get? b=some o')/\(∀b u,H' b=some u->∃o,B.get? b=some o)/\s.heap.get? ea=none/\E cls none H'
section
variable{P:Program}{w:World}{K:ZV}{mg:Str->Option Value}{base:Heap}{N:List Str}{qual:Str}{scope:Scope}{f:Addr}{cd:Value}{A:Around}{outer:List Env}{s:Shared}{H:Hp}{E:XK}
def gT {H1:Hp}{h B g:Heap}(ok:eL P w H1 h)(inB:∀b u,H1 b=some u->∃o,B.get? b=some o)(sb:B.StaysIn h)(sg:B.StaysIn g):eL P w H1 g:=fun a u e=>by
 show(ok a u e).b8 (fun b o hb q=>?_) (fun z q=>q) (fun z z q=>q)
 have NF:∃v,H1 b=some v:=by
   rcases hb with rfl|hb
   . show⟨u,e⟩
   . show⟨_,hb⟩
 obtain⟨v,hv⟩:=NF
 obtain⟨o',ho'⟩:=inB b v hv
 have:=sb b o' ho'
 rw[q]at this
 cases this
 show sg b o ho'
def oY {pins:List (Addr×Obj)}{σ:St}{H1:Hp}{s1:Shared}{h':Heap}{e:Addr}{cls:Value}{args:List Value}(I:Inv (fz (mE P w base) P w K mg base N qual scope f cd A outer s H E) pins σ H1 s1)(hx:Heap.MadeExcOf s1.heap h' e cls args)(q:E cls none H1) :
   (fz (mE P w base) P w K mg base N qual scope f cd A outer s H E).xe (.ref e) {s1 with heap:=h'}:=by
 have C3:(fz (mE P w base) P w K mg base N qual scope f cd A outer s H E).stack=envOfC qual scope s.heap.objs.size f cd::outer:=rfl
 have fr:s1.heap.FunFrames base (envOfC qual scope s.heap.objs.size f cd::outer):=I.stack
 have frf:=I.mw
 rw[C3]at frf
 have hbase:∀b o,base.get? b=some o->s1.heap.get? b=some o:=I.bk
 have jL:Un (fK outer) [] H H1 s.heap s1.heap:=I.base
 have hex:∀b:Addr,b∉([]:List Addr):=fun b z=>nomatch z
 have hloc:∀b o,s.heap.get? b=some o->b∉fK outer->b∉fK (envOfC qual scope s.heap.objs.size f cd::outer):=fun b o hb hn hm=>by
   rcases List.mem_cons.mp (show b∈s.heap.objs.size::fK outer from hm)with z|z
   . show aB (Z7 hb) (by rw[z];show aba _)
   . show hn z
 let B:=PySem.W.hideAll s1.heap (fK (envOfC qual scope s.heap.objs.size f cd::outer))
 have bget:∀b o,s1.heap.get? b=some o->b∉fK (envOfC qual scope s.heap.objs.size f cd::outer)->B.get? b=some o:=fun b o hb hn=>adZ _ hb hn
 have QC:B.StaysIn s1.heap:=fun b o hb=>ad3 _ hb
 have L5:base.StaysIn B:=fun b o hb=>bget b o (hbase b o hb) fun hm=>by
   have:=(fr.mem hm).1
   rw[hb]at this
   cases this
 have Vk:s1.heap.FunFrames B (envOfC qual scope s.heap.objs.size f cd::outer):=PySem.W.funFrames_hide fr fun env he a ha=>List.mem_filterMap.mpr ⟨env,he,ha⟩
 have uD:∀b u,H1 b=some u->∃o,B.get? b=some o:=fun b u hu=>by
   obtain⟨o,ho⟩:=(I.hok b u hu).ex
   show⟨o,bget b o ho fun hm=>?_⟩
   rw[frf b hm]at hu
   cases hu
 show wpAny_leaves_madeW (base:=B) (h:=s1.heap) (args:=args) I.ok.frames rfl QC Vk hx fun h2 t x1 x2 x3 x4=>?_
 show⟨e,cls,.ref t,B,H1,U,I.os,I.bare,⟨fun b o hb n hf y=>?_,fun b o hb n hf y=>?_,fun b o hb n y=>jL.free b o hb n (hex b),fun b o hb y=>?_,jL.tups,jL.frzs,jL.tbls⟩,gT I.hok uD QC x1.1,L5,x1,fun b o hb hf=>?_,uD,?_,q⟩
 . show x1.1 b o (bget b o (jL.keep b o hb n hf (hex b)) (hloc b o hb hf))
 . obtain⟨sl,e1⟩:=jL.slot b o hb n hf (hex b)
   obtain⟨_,o2,jK,hd2⟩:=fr.mem (show b∈fK (envOfC qual scope s.heap.objs.size f cd::outer)from aaK _ hf)
   rw[e1]at jK
   cases jK
   obtain⟨w6,e2⟩:=x4 b _ (hx.keeps b _ e1) hd2
   show⟨w6,e2⟩
 . obtain⟨o1,e1⟩:=jL.there b o hb (hex b)
   by_cases hm:b∈fK (envOfC qual scope s.heap.objs.size f cd::outer)
   . obtain⟨_,o2,jK,hd2⟩:=fr.mem hm
     obtain⟨w6,e2⟩:=x4 b _ (hx.keeps b _ jK) hd2
     show⟨_,e2⟩
   . show⟨o1,x1.1 b o1 (bget b o1 e1 hm)⟩
 . obtain⟨o1,e1⟩:=jL.there b o hb (hex b)
   show⟨o1,bget b o1 e1 (hloc b o hb hf)⟩
 . cases z:s.heap.get? e with
   | none=>rfl
   | some o=>
     obtain⟨o1,e1⟩:=jL.there e o z (hex e)
     rw[hx.new]at e1
     cases e1
def Jr {E':XK}(hE:∀c d H2,E' c d H2->E c d H2):Passes (mE P w base) (fz (mE P w base) P w K mg base N qual scope f cd A outer s H E) E':=by
 intro pins σ H1 s1 e s2 I cx
 obtain⟨ea,cls,a0,B,H2,rfl,OZ,uH,xB,CM,L5,xM,inB,uD,Ss,q⟩:=cx
 have jL:Un (fK outer) [] H H1 s.heap s1.heap:=I.base
 have hex:∀b:Addr,b∉([]:List Addr):=fun b z=>nomatch z
 have C3:(fz (mE P w base) P w K mg base N qual scope f cd A outer s H E).stack=envOfC qual scope s.heap.objs.size f cd::outer:=rfl
 rw[C3]at xM xB inB
 have hloc:∀b o,s.heap.get? b=some o->b∉fK outer->b∉fK (envOfC qual scope s.heap.objs.size f cd::outer):=fun b o hb hn hm=>by
   rcases List.mem_cons.mp (show b∈s.heap.objs.size::fK outer from hm)with z|z
   . show aB (Z7 hb) (by rw[z];show aba _)
   . show hn z
 have Lc:=xM.2.2.1
 have SV:=xM.1
 show wpAny_leaves_onW I.ok.frames rfl xM fun h3 x1 x2=>?_
 have Ic:∀b o,s.heap.get? b=some o->b∉fK outer->∃o',B.get? b=some o':=fun b o hb hf=>by
   obtain⟨o1,e1⟩:=jL.there b o hb (hex b)
   show inB b o1 e1 (hloc b o hb hf)
 show⟨ea,cls,a0,B,H2,U,OZ.trans I.os,uH,⟨fun b o hb n hf y=>?_,fun b o hb n hf y=>?_,fun b o hb n y=>?_,fun b o hb y=>?_,fun b xs h=>xB.tups b xs (jL.tups b xs h),fun b o u h=>xB.frzs b o u (jL.frzs b o u h),fun b ps h=>?_⟩,gT CM uD SV x1.1,L5,x1,Ic,uD,?_,hE _ _ _ q⟩
 . have e1:=jL.keep b o hb n hf (hex b)
   have n1:=jL.free b o hb n (hex b)
   have e2:=xB.keep b o e1 n1 (hloc b o hb hf) (hex b)
   obtain⟨o',ho'⟩:=Ic b o hb hf
   have e3:=SV b o' ho'
   rw[e2]at e3
   cases e3
   show x1.1 b o ho'
 . obtain⟨sl,e1⟩:=jL.slot b o hb n hf (hex b)
   have n1:=jL.free b o hb n (hex b)
   obtain⟨w6,e2⟩:=xB.any e1 n1 (hex b)
   obtain⟨_,o2,jK,hd2⟩:=Lc.mem (show b∈fK (envOfC qual scope s.heap.objs.size f cd::outer)from aaK _ hf)
   rw[e2]at jK
   cases jK
   obtain⟨Tn,e3⟩:=x2 b _ e2 hd2
   show⟨Tn,e3⟩
 . obtain⟨o1,e1⟩:=jL.there b o hb (hex b)
   show xB.free b o1 e1 (jL.free b o hb n (hex b)) (hex b)
 . obtain⟨o1,e1⟩:=jL.there b o hb (hex b)
   obtain⟨o2,e2⟩:=xB.there b o1 e1 (hex b)
   by_cases hm:b∈fK (envOfC qual scope s.heap.objs.size f cd::outer)
   . obtain⟨_,o3,Wl,VY⟩:=Lc.mem hm
     obtain⟨Tn,e3⟩:=x2 b _ Wl VY
     show⟨_,e3⟩
   . obtain⟨o',ho'⟩:=inB b o1 e1 hm
     show⟨o',x1.1 b o' ho'⟩
 . obtain⟨m1,e1⟩:=jL.tbls b ps h
   obtain⟨m2,e2⟩:=xB.tbls b _ e1
   show⟨m1++m2,by rw[e2,Array.append_assoc]⟩
 . cases z:s.heap.get? ea with
   | none=>rfl
   | some o=>
     obtain⟨o1,e1⟩:=jL.there ea o z (hex ea)
     rw[Ss]at e1
     cases e1
end
abbrev vE:List Value:=[.type "ValueError",.type "Exception",.type "BaseException",.type "object"]
def lu (K:ZV)(C:Addr):Option (List Value):=match K.lookup C with
 | some ⟨_,_,.cls cd,_⟩=>some cd.mro
 | _=>none
structure Xc (K:ZV)(mg:Str->Option Value)(x:Str)(C:Addr)(tl:List Value):Prop where
 m:mg x=some (.ref C)
 ex:ads K C vE "ValueError.__new__"=true
 mro:lu K C=some (.ref C::tl)
def Xc.obj {K:ZV}{mg:Str->Option Value}{x:Str}{C:Addr}{tl:List Value}{h:Heap}(c:Xc K mg x C tl)(hk:K.In h) :
   ∃N nm q bs hdct sn sub ab col dd k0 k1 k2 k3 k5 mN,h.get? C=some (excClassObj nm q C N bs tl hdct sn sub ab col dd k0 k1 k2 k3 k5 "ValueError.__new__")/\h.Ns N mN/\mN "__init__"=none/\OwnTail h vE tl:=by
 have q:=c.ex
 have m:=c.mro
 unfold ads at q
 unfold lu at m
 split at q
 . rename_i od cd sl look
   rw[look]at m
   split at q
   . rename_i C' bm k0 k1 k2 k3 n k5 hm hs
     simp only[aaY,beq_iff_eq,ack]at q
     obtain⟨⟨⟨⟨⟨z1,z2⟩,HE⟩,ht⟩,hok⟩,Ls⟩:=q
     subst z1 z2
     have m2:cd.mro=.ref C'::tl:=by injection m
     rw[hm]at m2
     have e1:bm=tl:=by injection m2
     subst e1
     obtain⟨nm,bs,mro,ns,qn,hd,sn,sub,ab,col,del⟩:=cd
     dsimp only at hm HE hok Ls
     subst hm HE
     have FR:sl=#[k0,k1,k2,k3,some (.builtin "ValueError.__new__"),k5]:=by
       obtain⟨l⟩:=sl
       simp only at hs
       rw[hs]
     subst FR
     show⟨ns,nm,qn,bs,hd,sn,sub,ab,col,od,k0,k1,k2,k3,k5,_,hk _ _ look,.of_isNs (PySem.W.isNs_of_in hk hok),PySem.W.nsMap_none_of_in hk hok Ls,PySem.W.tail_of_in hk ht⟩
   . cases q
 . cases q
section
variable{X:Cx}{a:Expr}{ps:List Expr}{n:Nat}{t:TF}{te:TE}{pos:Pos}
def xv (Ex:XK)(C:Addr)(ta:TA):TS:=fun z σ H=>ta σ H fun vs H1=>∃v,vs=[v]/\Ex (.ref C) none H1
def iY (X:Cx)(Ex:XK):Prop:=∀{pins:List (Addr×Obj)} {σ:St} {H:Hp} {s:Shared} {h':Heap} {e:Addr} {cls:Value} {args:List Value},Inv X pins σ H s->Heap.MadeExcOf s.heap h' e cls args->Ex cls none H->X.xe (.ref e) {s with heap:=h'}
def wu {x:Str}{C:Addr}{tl:List Value}{Ex:XK}{ta:TA}{np cpos:Pos}(hx:iY X Ex)(c:Xc X.K X.mg x C tl)(hb:tl.contains (.type "BaseException")=true)(hg:Gl X x)(hc:X.calm=true)(ha:qi X [a] ta)(hd:(x==("__debug__":Str))=false:=by left) :
   PS X (.Raise (some (.Call (.Name x np) [a] [] cpos)) none pos) (xv Ex C ta):=by
 intro pins s σ H D I h
 obtain⟨N,nm,q,bs,hdct,sn,sub,ab,col,dd,k0,k1,k2,k3,k5,mN,hC,hN,Ls,T⟩:=c.obj I.ok.mod.kin
 show wpAny_Raise_call_subT (C:=C) (nm:=nm) (q:=q) (N:=N) (bs:=bs) (bm:=tl) (hdct:=hdct) (sn:=sn) (sub:=sub) (ab:=ab) (col:=col) (dd:=dd) (k0:=k0) (k1:=k1) (k2:=k2) (k3:=k3) (k5:=k5) PySem.F.excBase_ValueError (mN:=mN) hb (I.ok.hd hc)
   (by rw[(ha.ns a [] rfl).1.h [] X.env];show(ha.ns a [] rfl).2 cpos X.env) Ls (iH I hg c.m ⟨rfl,?_⟩ hd)
 have he:=(ha.ns a [] rfl).1.h [] X.env
 have h2:=ha.pa cpos pins s σ H _ I h
 rw[he]at h2 ⊢
 show abu (bu h2 fun us s2 g9=>?_)
 obtain⟨vs,H1,I1,r,v,ev,q1⟩:=g9
 show⟨U,?_,I1.bk _ _ hC,hN.keeps I1.bk,T.keeps I1.bk,fun h' e hm=>hx I1 hm q1⟩
 have h1:=r.length
 rw[ev]at h1
 change us.length<=sizeLine
 rw[← h1]
 show(by left:1<=sizeLine)
end
end L2
namespace L2
open PySem PySem.Spec PyProof.Rows PySem.W PySem.Builtin PySem.Builtin.ObjectAttr PySem.Builtin.Getset_descriptor
section
variable{prog:Program}{w:World}{A:Around}{E:Value->Shared->Prop}{s:Shared}{K:Frag}{x C:Addr}{ox:Obj}
structure Qz (K:Frag)(C:Addr):Prop where
 ga:findIn K (.ref C) "__getattribute__"=some (some (.builtin "BaseException.__getattribute__"))
 gn:findIn K (.ref C) "__getattr__"=some none
 ha:findIn K (.ref C) "__class__"=some (some (.builtin "object.__class__"))
 hn:specialIn K (.builtin "object.__class__") "__get__"=some (some (.builtin "getset_descriptor.__get__"))
 htk:takesIn K (.builtin "object.__class__")=some true
 hm:mroIn K C (.type "object")=some true
 hb:mroIn K C (.type "BaseException")=some true
 hc:(clsIn K C).isSome=true
end
def xC {fs:List Addr}{H1 H2:Hp}{h1 h2 h3 B:Heap}(u:Un fs [] H1 H2 h1 h2)(s2:B.StaysIn h2)(s3:B.StaysIn h3)(inB:∀b o,h1.get? b=some o->b∉fs->∃o',B.get? b=some o')
   (sl:∀b o,b∈fs->h2.get? b=some o->∃x,h3.get? b=some {o with slots:=x}):Un fs [] H1 H2 h1 h3:=by
 have hex:∀b:Addr,b∉([]:List Addr):=fun b z=>nomatch z
 show⟨fun b o hb n hf w=>?_,fun b o hb n hf w=>?_,fun b o hb n w=>u.free b o hb n (hex b),fun b o hb w=>?_,u.tups,u.frzs,u.tbls⟩
 . have e2:=u.keep b o hb n hf (hex b)
   obtain⟨o',ho'⟩:=inB b o hb hf
   have e3:=s2 b o' ho'
   rw[e2]at e3
   cases e3
   show s3 b o ho'
 . obtain⟨x,e2⟩:=u.slot b o hb n hf (hex b)
   obtain⟨y,e3⟩:=sl b _ hf e2
   show⟨y,e3⟩
 . by_cases hm:b∈fs
   . obtain⟨o2,e2⟩:=u.there b o hb (hex b)
     obtain⟨y,e3⟩:=sl b _ hm e2
     show⟨_,e3⟩
   . obtain⟨o',ho'⟩:=inB b o hb hm
     show⟨o',s3 b o' ho'⟩
def xb {h2 h3 B:Heap}{l:List Env}(fr:h2.FunFrames B l)(x:h2.UpToSlots h3):∀b o,b∈fK l->h2.get? b=some o->∃y,h3.get? b=some {o with slots:=y}:=fun b o hm ho=>by
 obtain⟨_,o2,jK,hd2⟩:=fr.mem hm
 rw[ho]at jK
 cases jK
 show x b o ho hd2
section
variable{M8:Model}{A:Around}{E:Value->Shared->Prop}{s:Shared}{nm q:Str}{C N:Addr}{bs bm:List Value}{hdct:Bool}{sn:List Str}{sub:List Value}{ab:Bool}{col:Option Bool}{dd:Option Addr}{k0 k1 k2 k3 k5:Option Value}{newId:String}
 {Xu q':Str} {T N':Addr} {UH Ms:List Value} {HD:Bool} {X7:List Str} {Py:List Value} {Uv:Bool} {My:Option Bool} {iF:Option Addr} {j0 j1 j2 j3 j5:Option Value} {Du:String}
def pf {h:Heap}{g:Array GenState}{d:Drawn}{t:Nat}{os:OsState}{e:Addr}{oe:Obj}{Q:Bool->Shared->Prop}(hC:h.get? C=some (excClassObj nm q C N bs bm hdct sn sub ab col dd k0 k1 k2 k3 k5 newId))(hT:h.get? T=some (excClassObj Xu q' T N' UH Ms HD X7 Py Uv My iF j0 j1 j2 j3 j5 Du))
   (he:h.get? e=some oe) (hcls:oe.cls=.ref C) (hup:(aab C::bm).contains (.ref T)=true) (hbase:Ms.contains (.type "BaseException")=true) (hq:Q true ⟨h,g,d,t,os⟩):wpAny M8 A (excMatches (.ref e) (.ref T)) Q E ⟨h,g,d,t,os⟩:=by
 have VT:(aab T::Ms).contains (.type "BaseException")=true:=by rw[List.contains_cons,hbase,Bool.or_true]
 have f:=tc_notTuple
 unfold excMatches
 repeat (first|(with_reducible show wpAny_loadPart_at he ?_;rw[hcls])|with_reducible show wpAny_loadPart_at hT ?_|(with_reducible show wpAny_isSubtype_exc hT ?_;rw[VT])|(with_reducible show wpAny_isSubtype_exc hC ?_;rw[hup])|wp_step)
 show hq
end
section
variable{X:Cx}{pins:List (Addr×Obj)}{σ:St}{H:Hp}{s:Shared}
def Inv.other {W:Value->Shared->Prop}{pn ie:List (Addr×Obj)}(I:Inv X pins σ H s)(h:∀p∈pn++ie,p∈X.pn++pins):Inv {X with xe:=W,pn:=pn} ie σ H s:=
 ⟨⟨I.ok.mod,I.ok.kind,I.ok.glob,I.ok.blt,I.ok.above,I.ok.inj,I.ok.has,I.ok.cab,I.ok.hd,I.ok.frames,I.ok.stk,I.ok.exf,I.ok.bs,I.ok.bsz,I.ok.noex,I.ok.exfs,I.ok.fL,I.ok.frf⟩,I.os,I.bare,I.base,I.loc,I.cell,I.free,I.freeC,fun p hp=>I.pin p (h p hp),I.hok,I.len⟩
def Inv.back {W:Value->Shared->Prop}{pn ie:List (Addr×Obj)}(I:Inv {X with xe:=W,pn:=pn} ie σ H s)(h:∀p∈X.pn++pins,p∈pn++ie):Inv X pins σ H s:=
 ⟨⟨I.ok.mod,I.ok.kind,I.ok.glob,I.ok.blt,I.ok.above,I.ok.inj,I.ok.has,I.ok.cab,I.ok.hd,I.ok.frames,I.ok.stk,I.ok.exf,I.ok.bs,I.ok.bsz,I.ok.noex,I.ok.exfs,I.ok.fL,I.ok.frf⟩,I.os,I.bare,I.base,I.loc,I.cell,I.free,I.freeC,fun p hp=>I.pin p (h p hp),I.hok,I.len⟩
def Inv.mark {e:Option Value}(I:Inv X pins σ H s):Inv {X with A:=X.A.mark e,calm:=false,xe:=fun y y=>False} pins σ H s:=
 ⟨⟨I.ok.mod,I.ok.kind,I.ok.glob,I.ok.blt,I.ok.above,I.ok.inj,I.ok.has,I.ok.cab,(fun z=>nomatch z),I.ok.frames,I.ok.stk,I.ok.exf,I.ok.bs,I.ok.bsz,I.ok.noex,I.ok.exfs,I.ok.fL,I.ok.frf⟩,I.os,I.bare,I.base,I.loc,I.cell,I.free,I.freeC,I.pin,I.hok,I.len⟩
def Inv.unmark {e:Option Value}{σ':St}{H':Hp}{s':Shared}(I0:Inv X pins σ H s)(I:Inv {X with A:=X.A.mark e,calm:=false,xe:=fun z z=>False} pins σ' H' s'):Inv X pins σ' H' s':=
 ⟨I0.ok,I.os,I.bare,I.base,I.loc,I.cell,I.free,I.freeC,I.pin,I.hok,I.len⟩
end
section
variable{P:Program}{w:World}{K:ZV}{mg:Str->Option Value}{base:Heap}
def bQ.Sx {x qual:Str}{st:Stmt}{f:Addr}{fd:aaa}{N ps:List Str}{k:Nat}{sp:Sp}(F:bQ K x qual st f fd)(S:az N ps (aj st))(len:∀vs H Q E,sp vs H Q E->vs.length=ps.length)
   (hbody:∀(cdv:Value) (A:Around) (outer:List Env) (s:Shared) (H:Hp) (vs:List V) (Q:VK) (E:XK),cV k (A.deeper (envOfC qual (aj st) s.heap.objs.size f cdv))->sp vs H Q E ->
     ∃t,kZ (fz (mE P w base) P w K mg base N qual (aj st) f cdv A outer s H E) (bP st) t/\t {nx:=fun z H'=>Q .br H',rt:=Q} (start N vs) H):aK P w K mg base (mE P w base) (k+1) f fd ps sp:=by
 obtain⟨oc,od,kV,doc,pm,an,cdv,ct,osl,rfl,lk,hcd⟩:=F.ex
 show Ap lk hcd S len fun A outer s H vs Q E hr hsp=>hbody cdv A outer s H vs Q E hr hsp
def md {N:List Str}{qual:Str}{scope:Scope}{f:Addr}{cd:Value}{A:Around}{outer:List Env}{s:Shared}{H:Hp}{E:XK}:iY (fz (mE P w base) P w K mg base N qual scope f cd A outer s H E) E:=fun I hm q=>oY I hm q
def Js {N:List Str}{qual:Str}{scope:Scope}{f:Addr}{cd:Value}{A:Around}{outer:List Env}{s:Shared}{H:Hp}{E:XK}:Passes (mE P w base) (fz (mE P w base) P w K mg base N qual scope f cd A outer s H E) E:=Jr fun z z z h=>h
end
theorem gV:∀{ds:List Addr} {its:List Value},Vals (ds.map V.ref) its->its=ds.map aab
 | [],_,.nil=>rfl
 | d::ds,_,.cons r t=>by rw[gV t,show _=aab d from r];rfl
end L2
namespace TW
open PySem L2
def rS (P:Program)(w:World)(K:ZV)(mg:Str->Option Value)(base:Heap)(x:Str)(ps:List Str)(k:Nat)(sp:Sp):Prop:=
 ∃f fd,aK P w K mg base (mE P w base) k f fd ps sp/\abH K (.ref f)=true/\Binds K fd ps []/\mg x=some (.ref f)
end TW
namespace L3
open PySem PySem.Spec PyProof.Rows L2
section
variable{X:Cx}{a b c e o:Expr}{es:List Expr}{ta tb tc te:TE}{t:TA}{tf:TF}{pos:Pos}{n:Nat}
def pO {x:Str}{C:Addr}{tl:List Value}{Ex:XK}{np cpos:Pos}(hx:iY X Ex)(cc:Xc X.K X.mg x C tl)(hb:tl.contains (.type "BaseException")=true)(hg:Gl X x)(ha:SA X [a] t)(hc:X.calm=true:=by rfl)(hd:(x==("__debug__":Str))=false:=by left) :
   SS X (.Raise (some (.Call (.Name x np) [a] [] cpos)) none pos) (xv Ex C t):=⟨wu hx cc hb hg hc ha.h hd⟩
def Jk {x:Str}{p:Pos}{ps:List Str}{kk:Nat}{sp:Sp}{Ex:XK}(hp:Passes (mE X.prog X.w X.base) X Ex)(D:TW.rS X.prog X.w X.K X.mg X.base x ps kk sp)(hr:cV kk X.A)(hg:Gl X x)(ha:SA X (e::es) t)(hdb:(x==("__debug__":Str))=false:=by left) :
   SE X (.Call (.Name x p) (e::es) [] pos) (rM sp [] Ex t):=by
 obtain⟨_,_,G,kp,b,m⟩:=D
 show⟨qX G hr hg m kp b .nil hp ha.h.pa hdb ((ha.h.ns e es rfl).1.h es X.env) ((ha.h.ns e es rfl).2 pos X.env)⟩
end
end L3
namespace L2
open PySem PySem.Spec PyProof.Rows
end L2
namespace L3
open PySem PySem.Spec PyProof.Rows L2
end L3
namespace L2
open PySem PySem.Spec PyProof.Rows
section
variable{X:Cx}{a:Expr}{ta:TA}{p1 p2 pos dB:Pos}
def rn:V->List V->Hp->VK->Prop:=fun x vs H Q=>∃l xs y i,x=.ref l/\vs=[.int i,y]/\H l=some (.lst xs)/\0<=i/\i<=(xs.length:Int)/\xs.length<1000/\Q .br (upd H l (.lst (xs.take i.toNat++y::xs.drop i.toNat)))
def tH:Fx X "list.insert" rn:=by
 intro pins s σ H x vs v us Q I rx rv h
 obtain⟨l,xs,y,i,rfl,rfl,hH,h0,hk,hz,q⟩:=h
 cases rx
 obtain⟨u1,u,rfl,⟨tk,rfl⟩,ru⟩:=Vals.two rv
 obtain⟨z,its,n,r,hl,e⟩:=I.lP hH
 have hlen:=r.length
 have fits:¬(!abj i)=true:=by
   have:abj i=true:=by
     unfold abj
     simp
     lia
   simp[this]
 have few:its.toArray.size<=sizeLine:=by rw[Z5];show aar (show _<=1000 by lia) (by left)
 show call_meets F.slot_list_insert ⟨_,e,U⟩ F.entry_list_insert (F.args_list_insert_3 _ _ _) (PySem.AutoSeq1.list_insert_list_int_val_1 l its.toArray n i tk u fits few) ⟨e,?_⟩
 show⟨.br,_,I.vy (its':=its.take i.toNat++u::its.drop i.toNat) hH e ?_ ((r.take i.toNat).append (.cons ru (r.drop i.toNat))) ?_,U,q⟩
 . have e1:(if i<0 then(i+(its.toArray.size:Int)).toNat else min i.toNat its.toArray.size)=i.toNat:=by
     rw[aQ (by lia),Z5]
     lia
   dsimp only
   rw[e1]
   apply Array.ext'
   simp
   show aaP (by rw[aa8];show Z0 _)
 . rw[Z1,aau,aac,aa8]
   show aar (show _<=1000 by lia) (by left)
end
end L2
namespace L3
open PySem PySem.Spec PyProof.Rows L2
section
variable{X:Cx}{a b c e o:Expr}{es:List Expr}{ta tb tc te:TE}{t:TA}{pos:Pos}
theorem insert {apos:Pos}{KK:ZV}{e1 e2:Expr}(ho:SE X o ta)(ha:SA X [e1,e2] t)(hn:bD e2:=by first|show jv|show iM|show iK|show lT)(hbase:aaX o "insert" X.env (eval o X.env)=eval o X.env:=by rfl)(hline:(apos.endLine==pos.line)=true:=by rfl)(hK:X.K=KK:=by first|show bg|rfl) :
   SE X (.Call (.Attribute o "insert" apos) [e1,e2] [] pos) (Fc KK "list" rn ta t):=by
 subst hK
 show⟨AZ abf PySem.F.slot_list_insert PySem.F.type_list_insert tH ho.h ha.h.pa hbase (by rw[(ha.h.ns e1 [e2] rfl).1.h [e2] X.env,hn.h [] X.env];rfl) hline ((ha.h.ns e1 [e2] rfl).1.h [e2] X.env) ((ha.h.ns e1 [e2] rfl).2 pos X.env)⟩
end
end L3
namespace L2
open PySem PySem.Spec PyProof.Rows
end L2
namespace L4
open PySem PySem.Spec PyProof.Rows L2 L3
end L4
namespace TW
end TW
namespace L2
open PySem PySem.Spec PyProof.Rows
end L2
namespace L3
open PySem PySem.Spec PyProof.Rows L2
end L3
namespace L2
open PySem PySem.Spec PyProof.Rows
end L2
namespace L3
open PySem PySem.Spec PyProof.Rows L2
end L3
namespace TW
end TW
namespace L3
open PySem PySem.Spec PyProof.Rows L2
section
variable{X:Cx}{a b o i value:Expr}{ta tb td ty tv:TE}{pos:Pos}
def pR {KK:ZV}{p2:Pos}(ha:SE X a ta)(hb:SE X b tb)(hK:X.K=KK:=by first|show bg|rfl):SE X (.Subscript a (.Slice none (some b) none p2) pos) (F8 (zO KK) ta eU (kQ tb)):=by
 subst hK
 show⟨eG pS ha.h fW (fX hb.h)⟩
def jw {KK:ZV}(hK:X.K=KK:=by first|show bg|rfl):SO X (binaryOp .Add) (wz KK):=by
 subst hK
 show⟨qV⟩
def dput {pos':Pos}(hu:X.A.units+1<cLine)(ho:SE X o td)(hi:SE X i ty)(hv:SE X value tv)(hs:abY value (some (.Subscript o i pos')) pos.line X.env=pure false:=by rfl):SS X (.Assign [.Subscript o i pos'] value pos) (A9 td ty tv):=⟨zC hu ho.h hi.h hv.h hs⟩
end
end L3
namespace L2
open PySem PySem.Spec PyProof.Rows
end L2
namespace L3
open PySem PySem.Spec PyProof.Rows L2
section
variable{X:Cx}{a b c e o:Expr}{es:List Expr}{ta tb tc te:TE}{t:TA}{pos:Pos}
def GF:SE X (.Dict [] [] pos) xr:=⟨v9⟩
end
end L3
namespace L2
open PySem PySem.Spec PyProof.Rows
section
variable{prog:Program}{w:World}{K:Type}[DecidableEq K]{knd:HeapKind prog w K}{A:Around}{E:Value->Shared->Prop}{s:Shared}
def jF {d a:Addr}{xs:List (K×Addr×Value)}{k:K}{v:Value}{Q:Unit->Shared->Prop}(hu:knd.room A)(hkey:knd.is s.heap k a)(hm:s.heap.DictOfH knd d xs)(hsz:xs.length<=sizeLine)
   (hQ:∀h',h'.DictOfH knd d (storedH xs k a v)->aaM d s.heap h'->Q () {s with heap:=h'}):wpAny (model prog w) A (dictSetHashed d (.ref a) (knd.hash k) v) Q E s:=by
 obtain⟨o,es,ep,ho,hc,hd,he,his,hn⟩:=hm
 have V0:es.size<=sizeLine:=by rw[size_of_entries he];show hsz
 unfold dictSetHashed
 try with_reducible show wpAny_holding ?_
 show wpAny_bind (wpAny_dictFind_heap hu hkey ho hd he his hn (fun HP=>?_) (fun j p hj=>?_))
 . have e0:=storedH_new (atKey_none_of_get HP) a v
   have N6:=not_mem_keys_of_get HP
   show wpAny_bind (wpAny_rule (wpAny_updateDictKeys (hz:=V0) ho hd (hQ _ ⟨_,_,ep+1,abo _ ho (Obj.isFreed_of_dict (Obj.data_mapDictKeys hd _)),hc.mapDictKeys _,Obj.data_mapDictKeys hd _,?_,?_,?_⟩ (aaJ ..))))
   . rw[e0]
     simp[he,entryOfKey]
   . rw[e0]
     intro x hx
     have h2:knd.is s.heap x.1 x.2.1:=by
       rcases List.mem_append.mp hx with hx|hx
       . show his x hx
       . have ex:x=(k,a,v):=by simpa using hx
         subst ex
         show hkey
     show knd.keeps h2 ho hd (aaJ ..)
   . rw[e0,Z9,aci]
     show⟨hn,by simp,fun x hx y hy=>?_⟩
     have ey:y=k:=by simpa using hy
     subst ey
     show fun e=>N6 (e▸hx)
 . have e0:=storedH_old (atKey_of_get hn hj) a v
   show wpAny_bind (wpAny_rule (wpAny_bind (wpAny_updateDict ho hd (wpAny_point (hQ _ ⟨_,_,ep,abo _ ho (Obj.isFreed_of_dict (Obj.data_mapDict hd _)),hc.mapDict _,Obj.data_mapDict hd _,?_,?_,?_⟩ (aaJ ..))))))
   . rw[e0]
     have:=modify_map_putAt (entryOfKey knd) (fun e:DictEntry=>{e with val:=v}) k v (fun z z=>rfl) hn hj
     rw[← he]at this
     obtain⟨l⟩:=es
     simpa using this
   . rw[e0]
     intro x hx
     obtain⟨y,hy,rfl⟩:=List.mem_map.mp hx
     unfold putAt
     split<;>show knd.keeps (his y hy) ho hd (aaJ ..)
   . rw[e0,keys_map_putAt]
     show hn
def cv (xs more:List (K×Addr×Value)):List (K×Addr×Value):=more.foldl (fun acc x=>storedH acc x.1 x.2.1 x.2.2) xs
def n5 (xs:List (K×Addr×Value))(k:K)(a:Addr)(v:Value):(storedH xs k a v).length<=xs.length+1:=by
 unfold storedH
 split<;>simp
theorem h8:∀(more xs:List (K×Addr×Value)),(cv xs more).length<=xs.length+more.length
 | [],xs=>Z0 _
 | x::r,xs=>by
   have h1:=h8 r (storedH xs x.1 x.2.1 x.2.2)
   have h2:=n5 xs x.1 x.2.1 x.2.2
   change(cv (storedH xs x.1 x.2.1 x.2.2) r).length<=_
   rw[aau]
   lia
def lQ {xs more:List (K×Addr×Value)}{i:Nat}{x:K×Addr×Value}(h:more[i]?=some x):cv xs (more.take (i+1))=storedH (cv xs (more.take i)) x.1 x.2.1 x.2.2:=by
 unfold cv
 rw[aad,h,List.foldl_append]
 rfl
def Dq {nm:String}{d o:Addr}{xs more:List (K×Addr×Value)}{Q:Unit->Shared->Prop}(hu:knd.room A)(hdo:d≠o)(hoS:(o==aa5)=false)(hd:s.heap.DictOfH knd d xs)(ho:s.heap.DictOfH knd o more)(hne:xs≠[]\/more=[])(hsz:xs.length+more.length<=sizeLine)
   (hQ:∀h',h'.DictOfH knd d (cv xs more)->aaM d s.heap h'->Q () {s with heap:=h'}):wpAny (model prog w) A (ac9 nm d o) Q E s:=by
 obtain⟨od,Vb,YX,AE,hcd,Av,RF,V4,je⟩:=id hd
 obtain⟨oo,qH,YY,Lv,Y6,vc,heo,hiso,HP⟩:=id ho
 have hlen:qH.size=more.length:=size_of_entries heo
 unfold ac9
 rw[aQ (by simpa using hdo)]
 unfold acd
 rw[aQ (by rw[hoS];show Z8)]
 show wpAny_bind (wpAny_pure ?_)
 show wpAny_bind (wpAny_dictEntries Lv vc ?_)
 have loop:wpAny (model prog w) A (do
     let GL←dictEpoch o
     let l←dictEntries o
     forIn [:l.size] adH fun i (_:PUnit)=>(do
         let l'←dictEntries o
         match l'[i]? with
           | some e=>do
             holding [e.key,e.val] (dictSetHashed d e.key e.hash e.val)
             let ep'←dictEpoch o
             if(ep' != GL)=true then do
                 (unsupported (toString nm++toString ":source-changed-during-callback"):Sem PUnit)
                 pure (aaQ adH)
               else pure (aaQ adH)
           | _=>do
             (unsupported "internal:dict-merge":Sem PUnit)
             pure (aaQ adH):Sem (ForInStep PUnit))
     pure ()) Q E s:=by
   show wpAny_bind (wpAny_dictEpoch Lv vc ?_)
   show wpAny_bind (wpAny_dictEntries Lv vc ?_)
   show wpAny_bind ?_
   rw[Std.Legacy.Range.forIn_eq_forIn_range']
   simp only[Std.Legacy.Range.size,abR,Nat.add_sub_cancel,Nat.div_one]
   show wpAny_forIn_list _ (fun rest y s'=>∃h' i,s'={s with heap:=h'}/\rest=List.range' i (qH.size-i)/\i<=qH.size/\h'.DictOfH knd d (cv xs (more.take i))/\h'.get? o=some oo/\aaM d s.heap h') _ ?_ ?_ _ _
     ⟨s.heap,0,rfl,by simp,aan _,hd,Lv,adN _ _⟩
   . rintro x rest b s' ⟨h',i,rfl,hr,hi,qK,CN,sR⟩
     have cZ:i<qH.size:=by
       rcases Nat.lt_or_ge i qH.size with h|h
       . show h
       . rw[Nat.sub_eq_zero_of_le h]at hr
         simp at hr
     obtain⟨rfl,dR⟩ : x=i/\rest=List.range' (i+1) (qH.size-(i+1)):=by
       have e:qH.size-i=(qH.size-(i+1))+1:=by lia
       rw[e,List.range'_succ]at hr
       injection hr with h1 h2
       show⟨h1,h2⟩
     show wpAny_bind (wpAny_dictEntries CN vc ?_)
     have RL:x<more.length:=by lia
     have AA:more[x]?=some more[x]:=Z3 RL
     have hex:qH[x]?=some (entryOfKey knd more[x]):=by rw[entry_at heo x,AA];rfl
     rw[hex]
     have Wh:(cv xs (more.take x)).length<=sizeLine:=by
       have e1:=h8 (more.take x) xs
       have e2:(more.take x).length<=more.length:=by rw[aac];lia
       lia
     have NR:knd.is h' more[x].1 more[x].2.1:=knd.keeps (hiso _ (abT RL)) AE Av sR
     change wpAny _ _ (holding [_,_] (dictSetHashed d (.ref more[x].2.1) (knd.hash more[x].1) more[x].2.2)>>=_) _ _ _
     show wpAny_bind (wpAny_holding (jF hu NR qK Wh fun Rr NI HV=>?_))
     have AF:Rr.get? o=some oo:=(HV.2 o (Ne.symm hdo)).trans CN
     show wpAny_bind (wpAny_dictEpoch AF vc ?_)
     rw[aQ (by simp)]
     show wpAny_pure ⟨Rr,x+1,U,dR,cZ,by rw[lQ AA];show NI,AF,sR.trans HV⟩
   . rintro b s' ⟨h',i,rfl,hr,hi,qK,CN,sR⟩
     have NQ:i=qH.size:=by
       rcases Nat.lt_or_ge i qH.size with h|h
       . have e:qH.size-i=(qH.size-(i+1))+1:=by lia
         rw[e,List.range'_succ]at hr
         show nomatch hr
       . show Nat.le_antisymm hi h
     show wpAny_pure (hQ h' ?_ sR)
     rw[NQ,hlen,aag]at qK
     show qK
 dsimp only
 split
 . rename_i hfew
   show wpAny_bind (wpAny_dictEntries AE Av ?_)
   split
   . rename_i NK
     exfalso
     rcases hne with z|z
     . have h0:Vb=#[]:=Array.isEmpty_iff.mp NK
       rw[h0]at RF
       show z (List.length_eq_zero_iff.mp (by have:=congrArg adl RF;simpa using this.symm))
     . have h0:qH=#[]:=by
         rw[z]at hlen
         show Array.eq_empty_of_size_eq_zero hlen
       rw[h0]at hfew
       simp at hfew
   . show loop
 . show loop
end
section
variable{X:Cx}{pins:List (Addr×Obj)}{σ:St}{H:Hp}{s:Shared}{E:Value->Shared->Prop}
def putAllT (d:List (List Key×V))(kvs:List (List Key×V)):List (List Key×V):=kvs.foldl (fun d p=>putK d p.1 p.2) d
theorem ig:∀(kvs d:List (List Key×V)),(putAllT d kvs).length<=d.length+kvs.length
 | [],d=>by simp[putAllT]
 | p::r,d=>by
   have h:=ig r (putK d p.1 p.2)
   have h2:=bj d p.1 p.2
   change(putAllT (putK d p.1 p.2) r).length<=_
   rw[aau]
   lia
def KT.merge {H:Hp}:∀{bS:List (List Key×V)} {more:List (List Key×Addr×Value)},KT H bS more->∀{kvs:List (List Key×V)} {xs:List (List Key×Addr×Value)},KT H kvs xs->KT H (putAllT kvs bS) (cv xs more):=by
 intro bS more r
 induction r with
 | nil=>show fun h=>h
 | @cons p q ps qs h t ih=>
   intro kvs xs k
   obtain⟨h1,h2,h3⟩:=h
   have k2:=k.put p.1 h2 h3
   rw[h1]at k2
   have e:putAllT kvs (p::ps)=putAllT (putK kvs q.1 p.2) ps:=by rw[← h1];rfl
   rw[e]
   show ih k2
def uP {d o:Addr}{kvs bS:List (List Key×V)}{Q:Value->Shared->Prop}(hu:X.A.units+1<cLine)(I:Inv X pins σ H s)(ed:H d=some (.dT kvs))(eo:H o=some (.dT bS))(hdo:d≠o)(hne:kvs≠[]\/bS=[])(hsz:kvs.length+bS.length<=sizeLine)
   (h:∀s',Inv X pins σ (upd H d (.dT (putAllT kvs bS))) s'->Q .none s'):wpAny (model X.prog X.w) X.A (call (.builtin "dict.update") [.ref d,.ref o]) Q E s:=by
 obtain⟨z1,VX,xs,JQ,QK⟩:=mU I.hok ed
 obtain⟨z2,hd2,more,JR,FD⟩:=mU I.hok eo
 have l1:=Paired.length JQ
 have l2:=Paired.length JR
 have M8:MeetsIn X.prog X.w (Builtin.«dict.update» ⟨[.ref d,.ref o],[]⟩) (fun B R s=>(tupleKind (aI X.prog X.w)).room B.in1/\s.heap.DictOfH (tupleKind (aI X.prog X.w)) d xs/\s.heap.DictOfH (tupleKind (aI X.prog X.w)) o more /\
     ∀h',h'.DictOfH (tupleKind (aI X.prog X.w)) d (cv xs more)->aaM d s.heap h'->R (.ok (.ret .none)) {s with heap:=h'}):=
   .of_wp fun A R s ⟨hr,hd,ho,hh⟩=>by
     unfold Builtin.«dict.update»
     show wpAny_bind ?_
     unfold abW
     show wpAny_bind (wpAny_notOrdered_dict hd.typeIs ?_)
     change wpAny _ _ (pure (d,[aab o])) _ _ s
     show wpAny_pure ?_
     change wpAny _ _ (aaW "dict.update" d (.ref o) [] .none) _ _ s
     unfold aaW
     show wpAny_bind (wpAny_typeOf ho.typeIs ?_)
     rw[aQ (by left)]
     show wpAny_bind ?_
     unfold Builtin.Dict.merge
     show wpAny_bind ?_
     unfold Builtin.Dict.readDirectly
     show wpAny_bind (wpAny_isInstance ho.typeIs isSubtype_dict_dict ?_)
     simp only[ac0,aaj,if_false]
     show wpAny_bind (wpAny_specialOf ho.typeIs F.slot_dict_iter.lookup (wpAny_pure ?_))
     simp only[beq_self_eq_true,if_true]
     show wpAny_bind (wpAny_pure ?_)
     show Dq hr hdo hd2 hd ho ?_ (by lia) fun h' qK sR=>?_
     . rcases hne with z|z
       . show .inl fun e=>z (List.length_eq_zero_iff.mp ?_)
         rw[l1,e]
         rfl
       . show .inr (List.length_eq_zero_iff.mp ?_)
         rw[← l2,z]
         rfl
     change wpAny _ _ (abX d []>>=_) _ _ _
     show wpAny_bind (wpAny_pure (wpAny_pure ⟨.none,U,hh h' qK sR⟩))
 show acT adi QK.typeIs PySem.F.entry_dict_update (PySem.F.args_dict_update_2 _ _) M8 ⟨tupleKind_room_in1 hu,QK,FD,fun h' iF hs=>h _ ?_⟩
 obtain⟨q,es,ep,hq,h2,h3,h4,_,h5⟩:=iF
 have hl:=ig bS kvs
 show cq (t':=s.toks) I (by rw[ed];show aae) hs ⟨q,hq⟩ ⟨by lia,VX,_,(KT.merge JR JQ).keeps fun c ys ec=>?_,q,es,ep,hq,h2,h3,h4,h5⟩
 rw[au (bX ec ed (fun z=>nomatch z))]
 show ec
def Bt (td ty:TE):TE:=fun σ H Q=>td σ H fun x H1=>∃a,x=.ref a/\KI H1 a/\ty σ H1 fun y H2=>∃o kvs bS,y=.ref o/\H2 a=some (.dT kvs)/\H2 o=some (.dT bS)/\a≠o/\(kvs≠[]\/bS=[])/\kvs.length+bS.length<=sizeLine/\Q .br (upd H2 a (.dT (putAllT kvs bS)))
def zh {o e:Expr}{apos cpos:Pos}{td ty:TE}(hu:X.A.units+1<cLine)(ho:PE X o td)(he:PE X e ty)(m:M1 X o "update" apos e cpos):PE X (.Call (.Attribute o "update" apos) [e] [] cpos) (Bt td ty):=by
 intro pins s σ H Q I h
 show ado m.base m.few m.line abE adi PySem.F.type_dict_update (bu (ho pins s σ H _ I h) fun u s1 h9=>?_)
 obtain⟨x,H1,I1,rx,a,ex,d,q1⟩:=h9
 subst ex
 obtain rfl:u=aab a:=rx
 obtain⟨t1,t2,_⟩:=oW I1 d
 show⟨t1,t2,?_⟩
 rw[m.trees]
 show abi rfl (abu (abl (bu (he pins s1 σ H1 _ I1 q1) fun iv s2 g9=>?_)))
 obtain⟨y,H2,I2,ry,o2,kvs,bS,ey,h1,h2,hne,Wn,hsz,q2⟩:=g9
 show abK ?_
 subst ey
 obtain rfl:iv=aab o2:=ry
 show uP hu I2 h1 h2 hne Wn hsz fun s3 I3=>⟨.br,_,I3,U,q2⟩
end
end L2
namespace L3
open PySem PySem.Spec PyProof.Rows L2
theorem update {X:Cx}{o e:Expr}{ta te:TE}{pos apos:Pos}(hu:X.A.units+1<cLine)(ho:SE X o ta)(he:SE X e te)(m:M1 X o "update" apos e pos:=by show⟨rfl,rfl,rfl,rfl⟩):SE X (.Call (.Attribute o "update" apos) [e] [] pos) (Bt ta te):=⟨zh hu ho.h he.h m⟩
end L3
namespace PySem
open Sem (wp)
end PySem
namespace PySem
open Sem (wp)
open AutoSeq1 (wpAny_loadPart')
end PySem
namespace L2
open PySem PySem.Spec PyProof.Rows
end L2
namespace L3
open PySem PySem.Spec PyProof.Rows L2
end L3
namespace L2
open PySem PySem.Spec PyProof.Rows
section
variable{X:Cx}{pos:Pos}
def BA (i j:Nat)(ta:TA):TS:=fun D σ H=>ta σ H fun vs H1=>∃u v,vs=[u,v]/\D.nx ((σ.set i (some u)).set j (some v)) H1
def zE {i j:Nat}{x y:Str}{a b:Expr}{ta:TA}{px py pt:Pos}{kt k2 nH}(hc:X.calm=true)(hN:X.N.Nodup)(hi:X.N[i]?=some x)(hj:X.N[j]?=some y)(hij:i≠j)
   (hx:X.env.scope.names.lookup x=some .local) (hy:X.env.scope.names.lookup y=some .local) (ha:PA X [a,b] ta)
   (hw:abx [.Tuple [.Name x px,.Name y py] kt pt] (.Tuple [a,b] k2 nH) X.env=pure (some [x,y]))
   (hs:abw [.Tuple [.Name x px,.Name y py] kt pt] (.Tuple [a,b] k2 nH) pos.line X.env=pure false:=by rfl) :
   PS X (.Assign [.Tuple [.Name x px,.Name y py] kt pt] (.Tuple [a,b] k2 nH) pos) (BA i j ta):=by
 intro pins s σ H D I h
 rw[exec_Assign_arm]
 show wpAny_bind (wpAny_standAt ?_)
 rw[hs]
 show wpAny_bind (wpAny_pure ?_)
 rw[aQ (by left)]
 show wpAny_bind (Tuple_ (bu (ha _ pins s σ H _ I h) fun us s1 h9=>?_))
 obtain⟨vs,H1,I1,r1,q1⟩:=h9
 obtain⟨u,v,e1,q1⟩:=q1
 subst e1
 obtain⟨u1,u2,rfl,ru,rv⟩:=Vals.two r1
 show wpAny_newObj_type ?_ agm
 have I2:Inv X pins σ H1 {s1 with heap:=s1.heap.push {cls:=.type "tuple",data:=.seq [u1,u2].toArray} }:=I1.kept (t':=s1.toks) fun b o e=>ZX _ e
 rw[hw]
 show wpAny_bind (wpAny_pure ?_)
 change wpAny (model X.prog X.w) X.A (do rule "assign.swapped-stores";let items←unpackItems (.ref s1.heap.objs.size) 2 none;assignInOrder [fun v=>acn X.env y v,fun v=>acn X.env x v] items.reverse;pure ad6) _ _ _
 show wpAny_bind (wpAny_rule (wpAny_bind (unpackItems_tuple (items:=#[u1,u2]) (I.ok.hd hc) (adh s1.heap _) fun h' AG=>?_)))
 have I3:=I2.kept (h':=h') (t':=s1.toks) fun b o e=>AG b o (aaf (Z7 e)) e
 change wpAny _ _ (assignInOrder [fun v=>acn X.env y v,fun v=>acn X.env x v] [u2,u1]>>=fun z=>pure ad6) _ _ _
 show wpAny_bind (assignInOrder_cons (wpAny_bindName (cG I3 hN hj (.inl hy) rv (fun s2 I4=>?_) (.inr hy))))
 show assignInOrder_cons (wpAny_bindName (cG I4 hN hi (.inl hx) ru (fun s3 I5=>adp (wpAny_pure ?_)) (.inr hx)))
 rw[acY _ _ hij.symm]at I5
 show⟨_,H1,I5,q1⟩
end
end L2
namespace L3
open PySem PySem.Spec PyProof.Rows L2
section
variable{X:Cx}{a b c e o:Expr}{es:List Expr}{ta tb tc te:TE}{t:TA}{pos:Pos}
def Jp (i j:Nat){x y:Str}{px py pt:Pos}{kt k2 nH}(hN:X.N.Nodup)(ha:SA X [a,b] t)(hi:X.N[i]?=some x:=by rfl)(hj:X.N[j]?=some y:=by rfl)(hij:i≠j:=by left)
   (hx:X.env.scope.names.lookup x=some .local:=by rfl) (hy:X.env.scope.names.lookup y=some .local:=by rfl)
   (hw:abx [.Tuple [.Name x px,.Name y py] kt pt] (.Tuple [a,b] k2 nH) X.env=pure (some [x,y]):=by rfl)
   (hs:abw [.Tuple [.Name x px,.Name y py] kt pt] (.Tuple [a,b] k2 nH) pos.line X.env=pure false:=by rfl) (hc:X.calm=true:=by rfl) :
   SS X (.Assign [.Tuple [.Name x px,.Name y py] kt pt] (.Tuple [a,b] k2 nH) pos) (BA i j t):=⟨zE hc hN hi hj hij hx hy ha.h.pa hw hs⟩
def uI (hc:X.calm=true:=by rfl):SC X (.builtin "max") (fun xs H Q=>∃i j,xs=[.int i,.int j]/\Q (.int (if j > i then j else i)) H):=⟨r9 hc⟩
end
end L3
namespace TW
end TW
namespace L2
open PySem PySem.Spec PyProof.Rows SeqAt
end L2
namespace L3
open PySem PySem.Spec PyProof.Rows L2
end L3
namespace TW
end TW
namespace TW
end TW
namespace L2
open PySem PySem.Spec PyProof.Rows
section
variable{X:Cx}
theorem i5:∀{bs:List Bool} {us:List Value},Vals (bs.map V.bl) us->us=bs.map aa6
 | [],_,.nil=>rfl
 | b::bs,_,.cons r q=>by
   cases r
   rw[i5 q]
   rfl
def rZ (hc:X.calm=true):bY X (.builtin "all") (fun xs H Q=>∃(l:Addr) (bs:List Bool),xs=[.ref l]/\aE X.K H l (bs.map V.bl)/\Q (.bl (bs.all id)) H):=by
 intro pins s σ H xs us Q I r h
 obtain⟨l,bs,rfl,hq,q⟩:=h
 obtain⟨u,rfl,ru⟩:=vals1 r
 obtain rfl:u=aab l:=ru
 obtain⟨its,rv,pl,_⟩:=I.list hq
 have e1:=i5 rv
 subst e1
 have hl:=pl.isList
 have cZ:l<s.heap.objs.size:=by obtain⟨_,e,_⟩:=hl;show Z7 e
 show call_all_walk (wpAny_pyIter_list hl ?_)
 show⟨_,_,_,_,_,_,fun i=>bs.getD i true,U,Walks.list (A:=X.A.in1) (show X.A.in1.handled=none from I.ok.hd hc) s.heap.objs.size l (aaf cZ) (bs.map aa6).toArray,⟨⟨_,Z6 _ rfl,U,U⟩,hl.push _⟩,?_,fun h' tk hk=>?_⟩
 . intro i v s' Q' E' hP Nu
   have hv:bs[i]?.map aa6=some v:=by simpa using hP
   obtain⟨b,hb,rfl⟩:=Option.map_eq_some_iff.mp hv
   have Ho:Q' (bs.getD i true) s':=Nu
   rw[aaO,hb]at Ho
   show wpAny_truthy_bool Ho
 . have kk:∀b o,s.heap.get? b=some o->h'.get? b=some o:=old_kept hk
   show⟨.bl (bs.all id),H,I.kept kk,?_,q⟩
   have e:(aax (bs.map aa6).toArray.size).all (fun i=>bs.getD i true)=bs.all id:=by
     rw[show(bs.map aa6).toArray.size=bs.length by simp]
     have key:(∀i,i<bs.length->bs.getD i true=true)↔∀b∈bs,b=true:=by
       constructor
       . intro k b hb
         obtain⟨i,hi,e⟩:=acN hb
         have:=k i hi
         rw[aaO,Z3 hi]at this
         rw[← e]
         show this
       . intro k i hi
         rw[aaO,Z3 hi]
         show k _ (abT hi)
     rw[abe,aby,aby]
     show⟨fun k b hb=>key.mp (fun i hi=>k i (List.mem_range.mpr hi)) b hb,fun k i hi=>key.mpr (fun b hb=>k b hb) i (List.mem_range.mp hi)⟩
   rw[e]
   rfl
end
end L2
namespace L3
open PySem PySem.Spec PyProof.Rows L2
def Aj {X:Cx}{KK:ZV}(hc:X.calm=true:=by rfl)(hK:X.K=KK:=by first|show bg|rfl):SC X (.builtin "all") (fun xs H Q=>∃(l:Addr) (bs:List Bool),xs=[.ref l]/\aE KK H l (bs.map V.bl)/\Q (.bl (bs.all id)) H):=by
 subst hK
 show⟨rZ hc⟩
end L3
namespace L2
open PySem PySem.Spec PyProof.Rows SeqAt
end L2
namespace TW
open PySem L2
end TW
namespace L3
open PySem L2
section
variable{X:Cx}{e:Expr}{es:List Expr}{t:TA}{pos:Pos}
def uM {a b c:Expr}{ta tb tc:TE}{op DO:CmpOp}{r r':R2}(ho:SO X (compareOp op) r)(ho':SO X (compareOp DO) r')(ha:SE X a ta)(hb:SE X b tb)(hc:SE X c tc)(hm:lastMarks [op,DO] [b,c]=false:=by with_unfolding_all rfl):SE X (.Compare a [op,DO] [b,c] pos) (xo r r' ta tb tc):=⟨v7 ho.h ho'.h ha.h hb.h hc.h hm⟩
end
end L3
namespace L2
open PySem PySem.Spec PyProof.Rows SeqAt
def JJ (K:ZV)(m:Nat)(neg:Bool):R2:=fun x y H Q=>∃(p:Addr) (as:List Addr) (f:Addr->Bool),y=.ref p/\aE K H p (as.map V.ref)/\(∀a∈as,EB K H m (.ref a) x (f a))/\Q (.bl (if neg then !as.any f else as.any f)) H
def EE (f:Addr->Bool):Value->Bool
 | .ref a=>f a
 | _=>false
theorem mJ (f:Addr->Bool):∀as:List Addr,(as.map aab).any (EE f)=as.any f
 | []=>rfl
 | a::r=>by
   rw[aav,abg,abg,mJ f r]
   rfl
section
variable{X:Cx}
def tZ {pins:List (Addr×Obj)}{σ:St}{H:Hp}{s:Shared}{x:V}{v:Value}{m:Nat}{as:List Addr}{f:Addr->Bool}{its:List Value}(hu:X.A.units+(m+1)<cLine)(I:Inv X pins σ H s)(rx:RelV x v)(r:Vals (as.map V.ref) its)(h:∀a∈as,EB X.K H m (.ref a) x (f a)):∀y,y∈its.toArray->EqAt X.A.in1 s y v (EE f y):=fun z hz=>by
 have e:=gV r
 subst e
 have WM:z∈as.map aab:=by simpa using hz
 obtain⟨a,ha,rfl⟩:=List.mem_map.mp WM
 show(h a ha).at I _ _ _ rfl rx (by change X.A.units+1+m<cLine;lia)
def tP {m:Nat}(hu:X.A.units+(m+1)<cLine):eV X (compareOp .NotIn) (JJ X.K m true):=by
 intro pins s σ H x y v u Q I rx ry h
 obtain⟨p,as,f,rfl,hq,eb,q⟩:=h
 cases ry
 obtain⟨its,r,pl,_⟩:=I.list hq
 show notIn_listAt (EE f) pl.isList (tZ hu I rx r eb) ⟨.bl (!as.any f),H,I,?_,q⟩
 change aa6 _=aa6 _
 have e:=gV r
 subst e
 congr 2
 rw[List.any_toArray]
 show mJ f as
end
end L2
namespace L3
open PySem PySem.Spec PyProof.Rows L2
def vT {X:Cx}{KK:ZV}{m:Nat}(hu:X.A.units+(m+1)<cLine)(hK:X.K=KK:=by first|show bg|rfl):SO X (compareOp .NotIn) (JJ KK m true):=by
 subst hK
 show⟨tP hu⟩
end L3
namespace PySem
open Sem (wp)
end PySem
namespace PySem
end PySem
namespace L2
open PySem PySem.Spec PyProof.Rows
end L2
namespace L3
open PySem PySem.Spec PyProof.Rows L2
end L3
namespace L2
open PySem PySem.Spec PyProof.Rows
def Fu (K:ZV)(a:Addr):It:=
 ⟨fun i H=>∃xs x,aE K H a xs/\xs[i]?=some x,
  fun i H v H'=>∃p x,H p=none/\v=.ref p/\H'=upd H p (.tup [.int (i:Nat),x])/\∀xs,aE K H a xs->xs[i]?=some x,
  fun i H=>∃xs,aE K H a xs/\xs.length<=i⟩
def uh {P:Program}{w:World}{K:ZV}{elts:List Expr}{x1:Nat}{tp:Pos}{a n:Addr} :
   Turn P w K (.Tuple elts x1 tp) (Fu K a) [n+1,n] (n+1) (fun i h=>(∃old,IsEnum h (n+1) n (i:Nat) old)/\h.IsListIter n a i) where
 mem:=by simp
 obj:=fun i h st d hd=>by
   obtain⟨⟨old,he⟩,⟨o1,e1,c1,d1⟩⟩:=st
   simp only[aaI,aaw,or_false]at hd
   rcases hd with rfl|rfl
   . show⟨_,he,fun v q=>nomatch q⟩
   . show⟨_,e1,fun v q=>by rw[d1]at q;cases q⟩
 keep:=fun i h h' st k=>by
   obtain⟨⟨old,he⟩,h1⟩:=st
   show⟨⟨old,k _ (by simp) _ he⟩,h1.at fun o e=>k _ (by simp) o e⟩
 item:=by
   intro X hP hw hK hc i pins s σ H E I hf st hg
   subst hP hw hK
   obtain⟨xs,x,FP,hx⟩:=hg
   obtain⟨vo,EH,p1,_⟩:=I.list FP
   obtain⟨ux,gx,rx⟩:=EH.get hx
   obtain⟨⟨old,he⟩,h1⟩:=st
   have ne:(n+1:Addr)≠n:=Nat.succ_ne_self n
   show wpAny_pyNext_enum_item he h1 p1.isList (x:=ux) (by simpa using gx) ne fun g a1 a2 a3 a4 hk=>?_
   show⟨_,U,wpAny_letOwnedTupleGo_enum (s:={s with heap:=g,toks:=s.toks+1}) a1 fun g2 oy e2=>?_⟩
   have n0:H s.heap.objs.size=none:=I.hok.fresh (Z0 _)
   have FY:n+1<s.heap.objs.size:=Z7 he
   have yf:aaM (n+1) g g2:=e2
   have kk:∀d o,d∉([n+1,n]:List Addr)->s.heap.get? d=some o->g2.get? d=some o:=fun d o hd e=>by
     simp only[aaI,aaw,or_false,not_or]at hd
     show yf.extBut _ _ hd.1 (hk d o hd.1 hd.2 e)
   have t2:IsPair g2 s.heap.objs.size (.int i s.toks) ux:=yf.extBut _ _ (acb FY) a3
   have I1:Inv X pins σ (upd H s.heap.objs.size (.tup [.int (i:Nat),x])) {s with heap:=g2,toks:=s.toks+1}:=I.many (ch:=[n+1,n]) hf kk (Z0 _)
     ⟨by change 2<=sizeLine;decide,[.int i s.toks,ux],.cons ⟨_,rfl⟩ (.cons rx .nil),_,t2,rfl,_,rfl⟩
   show⟨.ref s.heap.objs.size,_,I1,U,⟨_,x,n0,U,U,fun Fq q1=>?_⟩,⟨⟨_,by simpa using oy⟩,a2.at fun o e=>yf.extBut _ _ ne.symm e⟩,fun d hd=>?_⟩
   . rw[I.jm q1 FP];show hx
   . have lt:d<s.heap.objs.size:=by
       simp only[aaI,aaw,or_false]at hd
       rcases hd with rfl|rfl
       . show FY
       . show Nat.lt_of_succ_lt FY
     rw[au (aaf lt)]
     show(hf d hd).1
 done:=by
   intro X hP hw hK hc i pins s σ H E I hf st hg
   subst hP hw hK
   obtain⟨xs,FP,CH⟩:=hg
   obtain⟨vo,EH,p1,_⟩:=I.list FP
   have l1:=EH.length
   obtain⟨⟨old,he⟩,h1⟩:=st
   show wpAny_pyNext_enum_end (I.ok.hd hc) he h1 p1.isList (by simp;lia) fun g hk=>⟨U,?_⟩
   show I.vA (t':=s.toks) (ch:=[n]) (fun d hd=>hf d (by rw[List.mem_singleton.mp hd];simp)) fun d o hd e=>hk d o (fun z=>hd (by rw[z];simp)) e
 self:=fun y y y y y st h=>by
   obtain⟨⟨old,he⟩,_⟩:=st
   show wpAny_pyIter_enum he h
def HY (K:ZV)(ta:TA):TI:=fun σ H R=>ta σ H fun vs H1=>∃a,vs=[.ref a]/\(∃xs,aE K H1 a xs)/\R (Fu K a) H1
def zm {X:Cx}{a:Expr}{ta:TA}{p pos tp:Pos}{elts:List Expr}{x1:Nat}(hg:Gl X "enumerate")(hm:X.mg "enumerate"=none)(ha:qi X [a] ta)(hv:aaR "enumerate"=some (.type "enumerate"):=by first|rfl|decide +kernel) :
   PI X (.Tuple elts x1 tp) (.Call (.Name "enumerate" p) [a] [] pos) (HY X.K ta):=by
 intro pins s σ H R I h
 show wpAny_Call_Name_kw (eC I hg hm hv ?_ (by left) (by left))
 show aaF (bu (ha.pa pos pins s σ H _ I h) fun us s1 h9=>?_) ((ha.ns a [] rfl).1.h [] X.env) ((ha.ns a [] rfl).2 pos X.env)
 obtain⟨vs,H1,I1,r1,q1⟩:=h9
 obtain⟨l1,e,⟨xs,FP⟩,q⟩:=q1
 subst e
 cases r1 with
 | cons r1 r2=>
 cases r2
 cases r1
 obtain⟨vo,EH,p1,_⟩:=I1.list FP
 show call_enumerate_list p1.isList fun g he hi z hk=>?_
 show wpAny_pyIter_enum he ?_
 have I2:Inv X pins σ H1 {s1 with heap:=g}:=I1.kept (t':=s1.toks) hk
 show⟨_,_,_,_,H1,U,I2,uh,⟨⟨_,he⟩,hi⟩,fun c hc=>?_,q⟩
 simp only[aaI,aaw,or_false]at hc
 have up:∀k,dG X pins H1 (s1.heap.objs.size+k):=fun k=>I1.jP (abB _ _) (I1.hok.fresh (abB _ _))
 rcases hc with rfl|rfl
 . show up 1
 . show up 0
section
variable{K:ZV}{a:Addr}{xs:List V}{g:TG}
def uV {tb:TS}{D:Ends}{σ:St}{H:Hp}(Pv:Nat->St->Hp->Prop)(h0:Pv 0 σ H)(hl:∀i σ H,i<=xs.length->Pv i σ H->aE K H a xs)
   (hs:∀i x p σ H,xs[i]?=some x->Pv i σ H->H p=none->g (.ref p) σ (upd H p (.tup [.int (i:Nat),x])) fun σ2 H2=>tb {D with nx:=Pv (i+1),ct:=Pv (i+1),bk:=D.nx} σ2 H2) (hd:∀σ H,Pv xs.length σ H->D.nx σ H) :
   ∃W:Nat->Nat->St->Hp->Prop,(∃m,W 0 m σ H)/\∀i m σ H,W i m σ H ->
     ((Fu K a).stop i H/\D.nx σ H)\/((Fu K a).go i H/\∃N:St->Hp->Prop,(∀σ' H',N σ' H'->∃m',m'<m/\W (i+1) m' σ' H')/\∀x H',(Fu K a).yld i H x H'->g x σ H' fun σ2 H2=>tb {D with nx:=N,ct:=N,bk:=D.nx} σ2 H2):=by
 show⟨fun i m σ H=>m=xs.length-i/\i<=xs.length/\Pv i σ H,⟨xs.length,by simp,aan _,h0⟩,?_⟩
 rintro i m σ H ⟨rfl,hi,p⟩
 have q1:=hl i σ H hi p
 by_cases cZ:i<xs.length
 . show .inr ⟨⟨xs,xs[i],q1,by simp[cZ]⟩,Pv (i+1),fun σ' H' p'=>⟨xs.length-(i+1),by lia,U,cZ,p'⟩,fun x H' y=>?_⟩
   obtain⟨pp,x1,hn,rfl,rfl,k⟩:=y
   show hs i x1 pp σ H (k xs q1) p hn
 . have e:i=xs.length:=by lia
   subst e
   show .inl ⟨⟨xs,q1,Z0 _⟩,hd σ H p⟩
def kc {tifs:TT}{tm:TM}{σ0:St}{Z:Hp->Prop}{H:Hp}(Pv:Nat->Hp->Prop)(h0:Pv 0 H)(hl:∀i H,i<=xs.length->Pv i H->aE K H a xs)
   (turn:∀i x p H,xs[i]?=some x->Pv i H->H p=none->g (.ref p) σ0 (upd H p (.tup [.int (i:Nat),x])) fun σ2 H2=>tifs σ2 H2 fun b H3=>
     if b=true then tm σ2 H3 fun H4=>aX σ0 σ2/\∃m',m'<xs.length-i/\(m'=xs.length-(i+1)/\i+1<=xs.length/\Pv (i+1) H4)else aX σ0 σ2/\∃m',m'<xs.length-i/\(m'=xs.length-(i+1)/\i+1<=xs.length/\Pv (i+1) H3))
   (hZ:∀H,Pv xs.length H->Z H):gg (Fu K a) σ0 g tifs tm Z H:=by
 show eN xs.length Pv h0 (fun i H hi p=>⟨xs,xs[i],hl i H (aaC hi) p,by simp[hi]⟩) (fun H p=>⟨xs,hl _ H (Z0 _) p,Z0 _⟩) (fun i H hi p x H' y=>?_) hZ
 obtain⟨pp,x1,hn,rfl,rfl,k⟩:=y
 show turn i x1 pp H (k xs (hl i H (aaC hi) p)) p hn
end
end L2
namespace L3
open PySem PySem.Spec PyProof.Rows L2
def iE {X:Cx}{a:Expr}{t:TA}{KK:ZV}{p pos tp:Pos}{elts:List Expr}{x1:Nat}(hg:Gl X "enumerate")(hm:X.mg "enumerate"=none)(ha:SA X [a] t)(hK:X.K=KK:=by first|show bg|rfl) :
   SI X (.Tuple elts x1 tp) (.Call (.Name "enumerate" p) [a] [] pos) (HY KK t):=by
 subst hK
 show⟨zm hg hm ha.h⟩
end L3
namespace TW
open PySem L2
end TW
namespace L2
open PySem PySem.Spec PyProof.Rows
section
variable{X:Cx}
def r6 (hc:X.calm=true):bY X (.builtin "any") (fun xs H Q=>∃(l:Addr) (bs:List Bool),xs=[.ref l]/\aE X.K H l (bs.map V.bl)/\Q (.bl (bs.any id)) H):=by
 intro pins s σ H xs us Q I r h
 obtain⟨l,bs,rfl,hq,q⟩:=h
 obtain⟨u,rfl,ru⟩:=vals1 r
 obtain rfl:u=aab l:=ru
 obtain⟨its,rv,pl,_⟩:=I.list hq
 have e1:=i5 rv
 subst e1
 have hl:=pl.isList
 have cZ:l<s.heap.objs.size:=by obtain⟨_,e,_⟩:=hl;show Z7 e
 show call_any_walk (wpAny_pyIter_list hl ?_)
 show⟨_,_,_,_,_,_,fun i=>bs.getD i false,U,Walks.list (A:=X.A.in1) (show X.A.in1.handled=none from I.ok.hd hc) s.heap.objs.size l (aaf cZ) (bs.map aa6).toArray,⟨⟨_,Z6 _ rfl,U,U⟩,hl.push _⟩,?_,fun h' tk hk=>?_⟩
 . intro i v s' Q' E' hP Nu
   have hv:bs[i]?.map aa6=some v:=by simpa using hP
   obtain⟨b,hb,rfl⟩:=Option.map_eq_some_iff.mp hv
   have Ho:Q' (bs.getD i false) s':=Nu
   rw[aaO,hb]at Ho
   show wpAny_truthy_bool Ho
 . have kk:∀b o,s.heap.get? b=some o->h'.get? b=some o:=old_kept hk
   show⟨.bl (bs.any id),H,I.kept kk,?_,q⟩
   have e:(aax (bs.map aa6).toArray.size).any (fun i=>bs.getD i false)=bs.any id:=by
     rw[show(bs.map aa6).toArray.size=bs.length by simp]
     rw[abe,List.any_eq_true,List.any_eq_true]
     constructor
     . rintro⟨i,hi,e⟩
       have Lo:=List.mem_range.mp hi
       rw[aaO,Z3 Lo]at e
       show⟨_,abT Lo,e⟩
     . rintro⟨b,hb,e⟩
       obtain⟨i,hi,e2⟩:=acN hb
       show⟨i,List.mem_range.mpr hi,?_⟩
       rw[aaO,Z3 hi,Option.getD_some,e2]
       show e
   rw[e]
   rfl
end
end L2
namespace L3
open PySem PySem.Spec PyProof.Rows L2
section
variable{X:Cx}{a o e:Expr}{es:List Expr}{ta tv:TE}{t:TA}{p pos pos' apos:Pos}{x m:Str}{C:Addr}{ps:List Str}{kk:Nat}{sp:Sp}
def Ak {KK:ZV}(hc:X.calm=true:=by rfl)(hK:X.K=KK:=by first|show bg|rfl):SC X (.builtin "any") (fun xs H Q=>∃(l:Addr) (bs:List Bool),xs=[.ref l]/\aE KK H l (bs.map V.bl)/\Q (.bl (bs.any id)) H):=by
 subst hK
 show⟨r6 hc⟩
end
end L3
namespace L3
open PySem PySem.Spec PyProof.Rows L2
end L3
namespace L2
open PySem PySem.Spec PyProof.Rows
end L2
namespace L3
open PySem PySem.Spec PyProof.Rows L2
end L3
namespace L2
open PySem PySem.Spec PyProof.Rows
end L2
namespace L3
open PySem PySem.Spec PyProof.Rows L2
end L3
namespace L3
open PySem PySem.Spec PyProof.Rows L2
structure SP (X:Cx)(pos:Pos)(keys:List (Option Expr))(values:List Expr)(trs:List (TE×TE)):Prop where
 h:Gn X pos keys values trs
section
variable{X:Cx}{pos:Pos}{k v:Expr}{ks:List (Option Expr)}{vs:List Expr}{tk tv:TE}{trs:List (TE×TE)}
def QL:SP X pos [] [] []:=⟨zw⟩
def MA (hk:SE X k tk)(hv:SE X v tv)(hr:SP X pos ks vs trs):SP X pos (some k::ks) (v::vs) ((tk,tv)::trs):=⟨wt hk.h hv.h hr.h⟩
def GD (h:SP X pos (some k::ks) vs trs)(hall:(some k::ks).all (·.isSome)=true:=by rfl)(hl:(some k::ks).length=vs.length:=by rfl)(h15:(some k::ks).length<=15:=by left):SE X (.Dict (some k::ks) vs pos) (Bu trs):=⟨zg h.h hall hl (fun z=>nomatch z) h15⟩
end
end L3
namespace L2
open PySem PySem.Spec PyProof.Rows
end L2
namespace L3
open PySem PySem.Spec PyProof.Rows L2
end L3
namespace PySem
open Sem (wp)
open PyProof.Rows (IsTup IsTupIter)
def fj (tp:Bool)(h:Heap)(it a:Addr)(i:Nat):Prop:=if tp then abN h it a i else h.IsListIter it a i
def dw (tp:Bool)(h:Heap)(a:Addr)(xs:Array Value):Prop:=if tp then IsTup h a xs else h.IsList a xs
def C8 (tp:Bool):String:=if tp then "tuple_iterator" else "list_iterator"
abbrev e8 (tp:Bool)(a:Addr):Obj:={cls:=.type (C8 tp),data:=.fields #[.ref a,.int 0 0]}
section
variable{tp:Bool}{h h':Heap}{it a:Addr}{i:Nat}{xs:Array Value}
def fj.b8 (x:fj tp h it a i)(e:∀o,h.get? it=some o->h'.get? it=some o):fj tp h' it a i:=by
 cases tp
 . show Heap.IsListIter.at (show h.IsListIter it a i from x) e
 . obtain⟨o,ho,r⟩:=(show abN h it a i from x)
   show(⟨o,e _ ho,r⟩ : abN h' it a i)
def fj.obj (x:fj tp h it a i):∃o,h.get? it=some o/\∀v,o.data≠.cell v:=by
 cases tp
 . obtain⟨o,ho,_,d⟩:=(show h.IsListIter it a i from x)
   show⟨o,ho,fun v q=>by rw[d]at q;cases q⟩
 . obtain⟨o,ho,_,d⟩:=(show abN h it a i from x)
   show⟨o,ho,fun v q=>by rw[d]at q;cases q⟩
def dw.b8 (x:dw tp h a xs)(e:∀o,h.get? a=some o->h'.get? a=some o):dw tp h' a xs:=by
 cases tp
 . show Heap.IsList.at (show h.IsList a xs from x) e
 . obtain⟨o,ho,r⟩:=(show IsTup h a xs from x)
   show(⟨o,e _ ho,r⟩ : IsTup h' a xs)
def dw.lt (x:dw tp h a xs):a<h.objs.size:=by
 cases tp
 . obtain⟨o,ho,_⟩:=(show h.IsList a xs from x)
   show Z7 ho
 . show IsTup.lt (show IsTup h a xs from x)
end
section
variable{prog:Program}{w:World}{A:Around}{E:Value->Shared->Prop}{s:Shared}{tp t1 t2:Bool}{it a:Addr}{i:Nat}{xs ys:Array Value}{x y:Value}
def pj {Q:Value->Shared->Prop}(hit:abN s.heap it a i)(hl:IsTup s.heap a xs)(hx:xs[i]?=some x)(hQ:∀g,abN g it a (i+1)->aaM it s.heap g->Q x {s with heap:=g}) :
   wpAny (model prog w) A (aao (.ref it)) Q E s:=by
 obtain⟨o,ho,hc,hd⟩:=id hit
 obtain⟨o2,jK,_,n2,hd2⟩:=hl
 unfold aao
 show wpAny_bind (aaA (name:=abF "__next__") hit.typeIs aa3 (wpAny_call_entry aa3 hit.typeIs acw ?_ (acz _)))
 change wpAny _ _ (field (.ref it) 0>>=_) _ _ _
 show wpAny_bind (wpAny_field ho hd (x:=.ref a) rfl ?_)
 change wpAny _ _ (if(aab a==abb)=true then _ else _) _ _ s
 rw[aQ (show ¬ ((aab a==abb)=true)from Z8)]
 change wpAny _ _ (field (.ref it) 1>>=_) _ _ _
 show wpAny_bind (wpAny_field ho hd (x:=.int i 0) rfl ?_)
 change wpAny _ _ (seqItems? (.ref a)>>=_) _ _ _
 show wpAny_bind (wpAny_seqItems jK hd2 ?_)
 simp only[aaq,hx]
 show wpAny_bind (wpAny_setField ho hd (by simp) (wpAny_pure ⟨x,U,wpAny_pure (hQ _ ?_ (aaJ ..))⟩))
 show⟨_,abo _ ho (ad9 (aca hd _)),(Obj.cls_mapFields ..).trans hc,by rw[aca hd];simp[rawInt]⟩
def tI {Q:Value->Shared->Prop}(hh:A.handled=none)(hit:abN s.heap it a i)(hl:IsTup s.heap a xs)(hx:xs[i]?=none)
   (hE:∀g e,Heap.ExtBut it s.heap g->(∃o,g.get? e=some o/\o.cls=.type "StopIteration")->E (.ref e) {s with heap:=g}):wpAny (model prog w) A (aao (.ref it)) Q E s:=by
 obtain⟨o,ho,hc,hd⟩:=id hit
 obtain⟨o2,jK,_,n2,hd2⟩:=hl
 unfold aao
 show wpAny_bind (aaA (name:=abF "__next__") hit.typeIs aa3 (wpAny_call_entry aa3 hit.typeIs acw ?_ (acz _)))
 change wpAny _ _ (field (.ref it) 0>>=_) _ _ _
 show wpAny_bind (wpAny_field ho hd (x:=.ref a) rfl ?_)
 change wpAny _ _ (if(aab a==abb)=true then _ else _) _ _ s
 rw[aQ (show ¬ ((aab a==abb)=true)from Z8)]
 change wpAny _ _ (field (.ref it) 1>>=_) _ _ _
 show wpAny_bind (wpAny_field ho hd (x:=.int i 0) rfl ?_)
 change wpAny _ _ (seqItems? (.ref a)>>=_) _ _ _
 show wpAny_bind (wpAny_seqItems jK hd2 ?_)
 simp only[aaq,hx]
 show wpAny_bind (wpAny_rule (wpAny_bind (wpAny_setField ho hd (by simp) ?_)))
 change wpAny _ _ (newExc (.type "StopIteration") []>>=_) _ _ _
 show wpAny_bind ?_
 simp only[newExc,newTuple]
 show wpAny_bind (wpAny_newObj_type ?_ (by size_fits))
 show wpAny_bind (m:=ac3 _ _) (wpAny_of_eq (a:=abb) (by first|rfl|(simp only[ac3];rfl)) ?_)
 show wpAny_newObj_type ?_ (by size_fits)
 simp only[raiseNew]
 show wpAny_bind (wpAny_handled ?_)
 first|rw[show A.in1.handled=none from hh]|rw[hh]
 show wpAny_bind (wpAny_pure (wpAny_throw ?_))
 show hE _ _ (((aaJ ..).extBut.push _).push _) ⟨_,Z6 _ rfl,U⟩
def fC {Q:Value->Shared->Prop}(hit:fj tp s.heap it a i)(hl:dw tp s.heap a xs)(hx:xs[i]?=some x)(hQ:∀g,fj tp g it a (i+1)->aaM it s.heap g->Q x {s with heap:=g}) :
   wpAny (model prog w) A (aao (.ref it)) Q E s:=by
 cases tp
 . show wpAny_nextOf_list_item (show s.heap.IsListIter it a i from hit) (show s.heap.IsList a xs from hl) hx hQ
 . show pj (show abN s.heap it a i from hit) (show IsTup s.heap a xs from hl) hx hQ
def kD {Q:Value->Shared->Prop}(hh:A.handled=none)(hit:fj tp s.heap it a i)(hl:dw tp s.heap a xs)(hx:xs[i]?=none)
   (hE:∀g e,Heap.ExtBut it s.heap g->(∃o,g.get? e=some o/\o.cls=.type "StopIteration")->E (.ref e) {s with heap:=g}):wpAny (model prog w) A (aao (.ref it)) Q E s:=by
 cases tp
 . show wpAny_nextOf_list_end hh (show s.heap.IsListIter it a i from hit) (show s.heap.IsList a xs from hl) hx hE
 . show tI hh (show abN s.heap it a i from hit) (show IsTup s.heap a xs from hl) hx hE
structure Z2 (t1 t2:Bool)(h:Heap)(n l1 l2:Addr)(i:Nat):Prop where
 z:IsZip h (n+4) (n+2) (n+3) .none
 ti:IsPair h (n+2) (.ref n) (.ref (n+1))
 to:∃a b,IsPair h (n+3) a b
 i1:fj t1 h n l1 i
 i2:fj t2 h (n+1) l2 i
def uq {n l1 l2:Nat}{Q:Value->Shared->Prop}(n1:l1<n)(n2:l2<n)(Z:Z2 t1 t2 s.heap n l1 l2 i)(h1:dw t1 s.heap l1 xs)(h2:dw t2 s.heap l2 ys)(hx:xs[i]?=some x)(hy:ys[i]?=some y)
   (hQ:∀g,IsZip g (n+4) (n+2) (n+3) (rawInt s.heap.objs.size)->IsPair g (n+3) x y->fj t1 g n l1 (i+1)->fj t2 g (n+1) l2 (i+1)->IsPair g s.heap.objs.size x y ->
     (∀c o,c∉([n+4,n+3,n,n+1]:List Addr)->s.heap.get? c=some o->g.get? c=some o)->Q (.ref s.heap.objs.size) {s with heap:=g}) :
   wpAny (model prog w) A (Builtin.«zip.__next__» ⟨[.ref (n+4)],[]⟩) (fun fin s'=>∃v,fin=.done (.ret v)/\Q v s') E s:=by
 obtain⟨zr,ti,⟨a,b,to⟩,j1,j2⟩:=Z
 change wpAny _ _ (field (.ref (n+4)) 2>>=_) _ _ _
 show wpAny_bind (wpAny_field zr rfl (x:=.bool false) rfl ?_)
 change wpAny _ _ (field (.ref (n+4)) 3>>=_) _ _ _
 show wpAny_bind (wpAny_field zr rfl (x:=.ref (n+2)) rfl ?_)
 show wpAny_bind (wpAny_seqItems ti rfl ?_)
 change wpAny _ _ (aaU (.ref (n+4))>>=_) _ _ _
 show wpAny_bind ?_
 unfold aaU
 show wpAny_bind (wpAny_field zr rfl (x:=.none) rfl (wpAny_pure ?_))
 simp only[if_true]
 show wpAny_bind (wpAny_rule ?_)
 show wpAny_bind (wpAny_field zr rfl (x:=.ref (n+3)) rfl ?_)
 show wpAny_bind (wpAny_setField_rec zr (by simp) fun g1 BL e1=>?_)
 replace BL:IsZip g1 (n+4) (n+2) (n+3) .ellipsis:=BL
 show wpAny_bind ?_
 simp only[ada,adk,acF,adK]
 show wpAny_bind (wpAny_bind (wpAny_onRaise ?_))
 change wpAny _ _ (aao (.ref n)>>=_) _ _ _
 show wpAny_bind (fC (j1.b8 fun o e=>e1.extBut _ _ (show @Ne Nat _ _ by lia) e) (h1.b8 fun o e=>e1.extBut _ _ (show @Ne Nat _ _ by lia) e) hx fun g2 k1 e2=>wpAny_pure ?_)
 have Kj:IsPair g2 (n+3) a b:=e2.extBut _ _ (show @Ne Nat _ _ by lia) (e1.extBut _ _ (show @Ne Nat _ _ by lia) to)
 show wpAny_bind (wpAny_seqItems Kj rfl ?_)
 show wpAny_bind (wpAny_updateSeq_pair Kj fun g3 t3 e3=>?_)
 replace t3:IsPair g3 (n+3) x b:=t3
 show wpAny_bind (wpAny_letGo (wpAny_pure ?_))
 have c3:∀d o,d≠n+4->d≠n+3->d≠n->s.heap.get? d=some o->g3.get? d=some o:=fun d o d1 d2 d3 e=>e3.extBut _ _ d2 (e2.extBut _ _ d3 (e1.extBut _ _ d1 e))
 show wpAny_bind (wpAny_bind (wpAny_onRaise ?_))
 change wpAny _ _ (aao (.ref (n+1))>>=_) _ _ _
 show wpAny_bind (fC (j2.b8 fun o e=>c3 _ o (show @Ne Nat _ _ by lia) (show @Ne Nat _ _ by lia) (show @Ne Nat _ _ by lia) e) (h2.b8 fun o e=>c3 _ o (show @Ne Nat _ _ by lia) (show @Ne Nat _ _ by lia) (show @Ne Nat _ _ by lia) e) hy fun g4 k2 e4=>wpAny_pure ?_)
 have t4:IsPair g4 (n+3) x b:=e4.extBut _ _ (show @Ne Nat _ _ by lia) t3
 show wpAny_bind (wpAny_seqItems t4 rfl ?_)
 show wpAny_bind (wpAny_updateSeq_pair t4 fun g5 t5 e5=>?_)
 replace t5:IsPair g5 (n+3) x y:=t5
 show wpAny_bind (wpAny_letGo (wpAny_pure (wpAny_pure ?_)))
 show wpAny_bind (wpAny_seqItems t5 rfl ?_)
 show wpAny_bind (wpAny_newTuple ?_)
 have sz:g5.objs.size=s.heap.objs.size:=by rw[e5.1,e4.1,e3.1,e2.1,e1.1]
 have Uj:IsZip g5 (n+4) (n+2) (n+3) .ellipsis:=e5.extBut _ _ (show @Ne Nat _ _ by lia) (e4.extBut _ _ (show @Ne Nat _ _ by lia) (e3.extBut _ _ (show @Ne Nat _ _ by lia) (e2.extBut _ _ (show @Ne Nat _ _ by lia) BL)))
 have c5:∀d o,d≠n+4->d≠n+3->d≠n->d≠n+1->s.heap.get? d=some o->g5.get? d=some o:=fun d o d1 d2 d3 d4 e=>e5.extBut _ _ d2 (e4.extBut _ _ d4 (c3 d o d1 d2 d3 e))
 have m1:fj t1 g5 n l1 (i+1):=k1.b8 fun o e=>e5.extBut _ _ (show @Ne Nat _ _ by lia) (e4.extBut _ _ (show @Ne Nat _ _ by lia) (e3.extBut _ _ (show @Ne Nat _ _ by lia) e))
 have m2:fj t2 g5 (n+1) l2 (i+1):=k2.b8 fun o e=>e5.extBut _ _ (show @Ne Nat _ _ by lia) e
 have Ue:n+4<g5.objs.size:=Z7 Uj
 change wpAny _ _ (ab5 (.ref (n+4)) (.ref g5.objs.size)>>=_) _ _ _
 show wpAny_bind ?_
 unfold ab5
 have Yv:IsZip (g5.push {cls:=.type "tuple",data:=.seq #[x,y]}) (n+4) (n+2) (n+3) .ellipsis:=ZX _ Uj
 show wpAny_bind (wpAny_setField_rec Yv (by simp) fun g9 Qh e9=>?_)
 replace Qh:IsZip g9 (n+4) (n+2) (n+3) (rawInt g5.objs.size):=Qh
 show wpAny_setField_rec Qh (by simp) fun gA Me eA=>?_
 replace Me:IsZip gA (n+4) (n+2) (n+3) (rawInt g5.objs.size):=Me
 have up:∀d o,d≠n+4->g5.get? d=some o->gA.get? d=some o:=fun d o d1 e=>eA.extBut _ _ d1 (e9.extBut _ _ d1 (ZX _ e))
 have tA:IsPair gA g5.objs.size x y:=eA.extBut _ _ (acb Ue) (e9.extBut _ _ (acb Ue) (Z6 _ rfl))
 rw[sz]at Me tA
 show wpAny_pure ⟨_,U,?_⟩
 change Q (.ref g5.objs.size) _
 rw[sz]
 show hQ gA Me (up _ _ (show @Ne Nat _ _ by lia) t5) (m1.b8 fun o e=>up _ o (show @Ne Nat _ _ by lia) e) (m2.b8 fun o e=>up _ o (show @Ne Nat _ _ by lia) e) tA fun d o hd e=>?_
 simp only[aaI,aaw,or_false,not_or]at hd
 show up d o hd.1 (c5 d o hd.1 hd.2.1 hd.2.2.1 hd.2.2.2 e)
def xG {n l1 l2:Nat}{Q:Fin->Shared->Prop}(hh:A.handled=none)(n1:l1<n)(n2:l2<n)(Z:Z2 t1 t2 s.heap n l1 l2 i)(h1:dw t1 s.heap l1 xs)(h2:dw t2 s.heap l2 ys)(hx:xs[i]?=none\/ys[i]?=none)
   (hE:∀g e,(∀c o,c∉([n+4,n+3,n,n+1]:List Addr)->s.heap.get? c=some o->g.get? c=some o)->(∃o,g.get? e=some o/\o.cls=.type "StopIteration")->E (.ref e) {s with heap:=g}) :
   wpAny (model prog w) A (Builtin.«zip.__next__» ⟨[.ref (n+4)],[]⟩) Q E s:=by
 obtain⟨zr,ti,⟨a,b,to⟩,j1,j2⟩:=Z
 change wpAny _ _ (field (.ref (n+4)) 2>>=_) _ _ _
 show wpAny_bind (wpAny_field zr rfl (x:=.bool false) rfl ?_)
 change wpAny _ _ (field (.ref (n+4)) 3>>=_) _ _ _
 show wpAny_bind (wpAny_field zr rfl (x:=.ref (n+2)) rfl ?_)
 show wpAny_bind (wpAny_seqItems ti rfl ?_)
 change wpAny _ _ (aaU (.ref (n+4))>>=_) _ _ _
 show wpAny_bind ?_
 unfold aaU
 show wpAny_bind (wpAny_field zr rfl (x:=.none) rfl (wpAny_pure ?_))
 simp only[if_true]
 show wpAny_bind (wpAny_rule ?_)
 show wpAny_bind (wpAny_field zr rfl (x:=.ref (n+3)) rfl ?_)
 show wpAny_bind (wpAny_setField_rec zr (by simp) fun g1 BL e1=>?_)
 replace BL:IsZip g1 (n+4) (n+2) (n+3) .ellipsis:=BL
 show wpAny_bind ?_
 simp only[ada,adk,acF,adK]
 show wpAny_bind (wpAny_bind (wpAny_onRaise ?_))
 change wpAny _ _ (aao (.ref n)>>=_) _ _ _
 cases q:xs[i]? with
 | none=>
   show wpAny_bind (kD hh (j1.b8 fun o e=>e1.extBut _ _ (show @Ne Nat _ _ by lia) e) (h1.b8 fun o e=>e1.extBut _ _ (show @Ne Nat _ _ by lia) e) q fun g2 e e2 he=>?_)
   obtain⟨oe,CL,va⟩:=he
   have Uh:IsZip g2 (n+4) (n+2) (n+3) .ellipsis:=e2 _ _ (show @Ne Nat _ _ by lia) BL
   have NL:e≠n+4:=fun q=>by subst q;rw[Uh]at CL;cases CL;simp at va
   show wpAny_setField_rec Uh (by simp) fun g3 y e3=>hE g3 e (fun d o hd q=>?_) ⟨oe,e3.extBut _ _ NL CL,va⟩
   simp only[aaI,aaw,or_false,not_or]at hd
   show e3.extBut _ _ hd.1 (e2 _ _ hd.2.2.1 (e1.extBut _ _ hd.1 q))
 | some x=>
   have hy:ys[i]?=none:=hx.resolve_left (by rw[q];show fun z=>nomatch z)
   show wpAny_bind (fC (j1.b8 fun o e=>e1.extBut _ _ (show @Ne Nat _ _ by lia) e) (h1.b8 fun o e=>e1.extBut _ _ (show @Ne Nat _ _ by lia) e) q fun g2 k1 e2=>wpAny_pure ?_)
   have Kj:IsPair g2 (n+3) a b:=e2.extBut _ _ (show @Ne Nat _ _ by lia) (e1.extBut _ _ (show @Ne Nat _ _ by lia) to)
   show wpAny_bind (wpAny_seqItems Kj rfl ?_)
   show wpAny_bind (wpAny_updateSeq_pair Kj fun g3 t3 e3=>?_)
   show wpAny_bind (wpAny_letGo (wpAny_pure ?_))
   have c3:∀d o,d≠n+4->d≠n+3->d≠n->s.heap.get? d=some o->g3.get? d=some o:=fun d o d1 d2 d3 e=>e3.extBut _ _ d2 (e2.extBut _ _ d3 (e1.extBut _ _ d1 e))
   show wpAny_bind (wpAny_bind (wpAny_onRaise ?_))
   change wpAny _ _ (aao (.ref (n+1))>>=_) _ _ _
   show wpAny_bind (kD hh (j2.b8 fun o e=>c3 _ o (show @Ne Nat _ _ by lia) (show @Ne Nat _ _ by lia) (show @Ne Nat _ _ by lia) e) (h2.b8 fun o e=>c3 _ o (show @Ne Nat _ _ by lia) (show @Ne Nat _ _ by lia) (show @Ne Nat _ _ by lia) e) hy fun g4 e e4 he=>?_)
   obtain⟨oe,CL,va⟩:=he
   have Ui:IsZip g4 (n+4) (n+2) (n+3) .ellipsis:=e4 _ _ (show @Ne Nat _ _ by lia) (e3.extBut _ _ (show @Ne Nat _ _ by lia) (e2.extBut _ _ (show @Ne Nat _ _ by lia) BL))
   have NL:e≠n+4:=fun q=>by subst q;rw[Ui]at CL;cases CL;simp at va
   show wpAny_setField_rec Ui (by simp) fun g5 y e5=>hE g5 e (fun d o hd q=>?_) ⟨oe,e5.extBut _ _ NL CL,va⟩
   simp only[aaI,aaw,or_false,not_or]at hd
   show e5.extBut _ _ hd.1 (e4 _ _ hd.2.2.2 (c3 d o hd.1 hd.2.1 hd.2.2.1 q))
end
abbrev xF (t1 t2:Bool)(h:Heap)(l1 l2:Addr):Heap:=(h.push (e8 t1 l1)).push (e8 t2 l2)
abbrev Ge (t1 t2:Bool)(h:Heap)(l1 l2:Addr):Heap:=(((xF t1 t2 h l1 l2).push {cls:=.type "tuple",data:=.seq #[.ref h.objs.size,.ref (h.objs.size+1)]}).push {cls:=.type "tuple",data:=.seq #[.none,.none]}).push
 {cls:=.type "zip",data:=.fields #[.none,.bool false,.bool false,.ref (h.objs.size+2),.ref (h.objs.size+3)]}
def AM {prog:Program}{w:World}{A:Around}{E:Value->Shared->Prop}{s:Shared}{tp:Bool}{a:Addr}{xs:Array Value}{Q:Value->Shared->Prop}(hl:dw tp s.heap a xs)(hQ:Q (.ref s.heap.objs.size) {s with heap:=s.heap.push (e8 tp a)}):wpAny (model prog w) A (pyIter (.ref a)) Q E s:=by
 cases tp
 . show wpAny_pyIter_list (show s.heap.IsList a xs from hl) hQ
 . show PyProof.Rows.iter_tuple (show IsTup s.heap a xs from hl) hQ
def ph (t1 t2:Bool)(l1 l2:Addr)(xs ys:Array Value) :
   Meets (Builtin.«zip.__new__» ⟨[.type "zip",.ref l1,.ref l2],[]⟩) (fun z R s=>dw t1 s.heap l1 xs/\dw t2 s.heap l2 ys/\R (.ok (.ret (.ref (s.heap.objs.size+4)))) {s with heap:=Ge t1 t2 s.heap l1 l2}):=
 .of_wp fun prog w A R s h=>by
   obtain⟨hp,g,d,tk,os⟩:=s;obtain⟨q1,q2,h⟩:=h
   have hsub:=sub_zip
   have L1:dw t1 (Shared.heap ⟨hp,g,d,tk,os⟩) l1 xs:=q1
   have L2:dw t2 (Shared.heap ⟨hp.push (e8 t1 l1),g,d,tk,os⟩) l2 ys:=dw.b8 q2 fun o e=>ZX _ e
   wp_walk using AM L1,AM L2
   show⟨_,U,?_⟩
   simp only[adM]at h ⊢
   show h
def sj {prog:Program}{w:World}{A:Around}{E:Value->Shared->Prop}{s:Shared}{t1 t2:Bool}{l1 l2:Addr}{xs ys:Array Value}{Q:Value->Shared->Prop}(q1:dw t1 s.heap l1 xs)(q2:dw t2 s.heap l2 ys)
   (h:∀g,Z2 t1 t2 g s.heap.objs.size l1 l2 0->(∀c o,s.heap.get? c=some o->g.get? c=some o)->Q (.ref (s.heap.objs.size+4)) {s with heap:=g}) :
   wpAny (model prog w) A (call (.type "zip") [.ref l1,.ref l2]) Q E s:=by
 show callType_new F.called_zip (by left) (F.typeCall_zip_2 _ _) (F.newCall_zip_2 _ _) (fun obj=>F.args_object_init_3 obj _ _) F.entry_zip_new (ph t1 t2 l1 l2 xs ys) ⟨q1,q2,?_⟩
 have sz:∀(hh:Heap) (o:Obj),(hh.push o).objs.size=hh.objs.size+1:=fun hh o=>adM hh o
 have e1:(xF t1 t2 s.heap l1 l2).objs.size=s.heap.objs.size+2:=by rw[sz,sz]
 have g4:(Ge t1 t2 s.heap l1 l2).get? (s.heap.objs.size+4)=some {cls:=.type "zip",data:=.fields #[.none,.bool false,.bool false,.ref (s.heap.objs.size+2),.ref (s.heap.objs.size+3)]}:=by
   have:=Z6 (((xF t1 t2 s.heap l1 l2).push {cls:=.type "tuple",data:=.seq #[.ref s.heap.objs.size,.ref (s.heap.objs.size+1)]}).push {cls:=.type "tuple",data:=.seq #[.none,.none]}) (o:={cls:=.type "zip",data:=.fields #[.none,.bool false,.bool false,.ref (s.heap.objs.size+2),.ref (s.heap.objs.size+3)]}) rfl
   rw[sz,sz,e1]at this
   show this
 have g3:IsPair (Ge t1 t2 s.heap l1 l2) (s.heap.objs.size+3) .none .none:=by
   have:=Z6 ((xF t1 t2 s.heap l1 l2).push {cls:=.type "tuple",data:=.seq #[.ref s.heap.objs.size,.ref (s.heap.objs.size+1)]}) (o:={cls:=.type "tuple",data:=.seq #[.none,.none]}) rfl
   rw[sz,e1]at this
   show ZX _ this
 have g2:IsPair (Ge t1 t2 s.heap l1 l2) (s.heap.objs.size+2) (.ref s.heap.objs.size) (.ref (s.heap.objs.size+1)):=by
   have:=Z6 (xF t1 t2 s.heap l1 l2) (o:={cls:=.type "tuple",data:=.seq #[.ref s.heap.objs.size,.ref (s.heap.objs.size+1)]}) rfl
   rw[e1]at this
   show ZX _ (ZX _ this)
 have free:∀(tp:Bool) (a:Addr),(e8 tp a).isFreed=false:=fun tp a=>rfl
 have g1:(Ge t1 t2 s.heap l1 l2).get? (s.heap.objs.size+1)=some (e8 t2 l2):=by
   have:=Z6 (s.heap.push (e8 t1 l1)) (o:=e8 t2 l2) (free _ _)
   rw[sz]at this
   show ZX _ (ZX _ (ZX _ this))
 have g0:(Ge t1 t2 s.heap l1 l2).get? s.heap.objs.size=some (e8 t1 l1):=
   ZX _ (ZX _ (ZX _ (ZX _ (Z6 _ (free _ _)))))
 have mk:∀(tp:Bool) (b a:Addr) (hh:Heap),hh.get? b=some (e8 tp a)->fj tp hh b a 0:=fun tp b a hh e=>by
   cases tp
   . show(⟨_,e,U,U⟩ : hh.IsListIter b a 0)
   . show(⟨_,e,U,U⟩ : abN hh b a 0)
 change _/\_
 show⟨⟨_,g4,U⟩,h _ ⟨g4,g2,⟨_,_,g3⟩,mk _ _ _ _ g0,mk _ _ _ _ g1⟩ fun c o x=>
   ZX _ (ZX _ (ZX _ (ZX _ (ZX _ x))))⟩
end PySem
namespace L2
open PySem PySem.Spec PyProof.Rows
def Sq (tp:Bool)(K:ZV)(H:Hp)(a:Addr)(xs:List V):Prop:=if tp then aN K H a xs else aE K H a xs
section
variable{X:Cx}{pins:List (Addr×Obj)}{σ:St}{H:Hp}{s:Shared}{tp t1 t2:Bool}{a b:Addr}{xs ys:List V}
def Inv.sq (I:Inv X pins σ H s)(h:Sq tp X.K H a xs):∃its:List Value,Vals xs its/\dw tp s.heap a its.toArray/\xs.length<=sizeLine:=by
 cases tp
 . obtain⟨its,r,p,z⟩:=I.list (show aE X.K H a xs from h)
   show⟨its,r,p.isList,z⟩
 . show I.tuple (show aN X.K H a xs from h)
def Inv.xk (I:Inv X pins σ H s)(h:Sq tp X.K H a xs)(h':Sq tp X.K H a ys):xs=ys:=by
 cases tp
 . show I.jm (show aE X.K H a xs from h) h'
 . show I.kS (show aN X.K H a xs from h) h'
def rT (t1 t2:Bool)(K:ZV)(a b:Addr):It:=
 ⟨fun i H=>∃xs ys x y,Sq t1 K H a xs/\Sq t2 K H b ys/\xs[i]?=some x/\ys[i]?=some y,
  fun i H v H'=>∃p x y,H p=none/\v=.ref p/\H'=upd H p (.tup [x,y])/\∀xs ys,Sq t1 K H a xs->Sq t2 K H b ys->xs[i]?=some x/\ys[i]?=some y,
  fun i H=>∃xs ys,Sq t1 K H a xs/\Sq t2 K H b ys/\(xs.length<=i\/ys.length<=i)⟩
def uj {P:Program}{w:World}{K:ZV}{elts:List Expr}{x1:Nat}{q:Pos}{n:Nat}{a b:Nat}(n1:a<n)(n2:b<n) :
   Turn P w K (.Tuple elts x1 q) (rT t1 t2 K a b) [n+4,n+2,n+3,n,n+1] (n+4) (fun i h=>Z2 t1 t2 h n a b i) where
 mem:=by simp
 obj:=fun i h Z c hc=>by
   obtain⟨z,ti,⟨x,y,to⟩,i1,i2⟩:=Z
   simp only[aaI,aaw,or_false]at hc
   rcases hc with rfl|rfl|rfl|rfl|rfl
   . show⟨_,z,fun v q=>nomatch q⟩
   . show⟨_,ti,fun v q=>nomatch q⟩
   . show⟨_,to,fun v q=>nomatch q⟩
   . show i1.obj
   . show i2.obj
 keep:=fun i h h' Z k=>by
   obtain⟨z,ti,⟨x,y,to⟩,i1,i2⟩:=Z
   show⟨k _ (by simp) _ z,k _ (by simp) _ ti,⟨x,y,k _ (by simp) _ to⟩,i1.b8 fun o e=>k _ (by simp) o e,i2.b8 fun o e=>k _ (by simp) o e⟩
 item:=by
   intro X hP hw hK hc i pins s σ H E I hf Z hg
   subst hP hw hK
   obtain⟨xs,ys,x,y,q1,q2,hx,hy⟩:=hg
   obtain⟨vo,r1,p1,_⟩:=I.sq q1
   obtain⟨fB,r2,p2,_⟩:=I.sq q2
   obtain⟨u,hu,ru⟩:=r1.get hx
   obtain⟨v,hv,rv⟩:=r2.get hy
   have hT:s.TypeIs (.ref (n+4)) "zip":=⟨_,Z.z,rfl⟩
   unfold pyNext
   show wpAny_bind (wpAny_attempt (aaA (name:=abF "__next__") hT abI (wpAny_call_entry abI hT adF
     (uq n1 n2 Z p1 p2 (x:=u) (y:=v) (by simpa using hu) (by simpa using hv) fun g a1 a2 a3 a4 a5 hk=>wpAny_pure ?_) (adv _))))
   show⟨_,U,wpAny_letOwnedTupleGo_zip (s:={s with heap:=g}) a1 fun g2 z2 e2=>?_⟩
   have hN:H s.heap.objs.size=none:=I.hok.fresh (Z0 _)
   have Sf:n+4<s.heap.objs.size:=Z7 Z.z
   have kk:∀c o,c∉([n+4,n+3,n,n+1]:List Addr)->s.heap.get? c=some o->g2.get? c=some o:=fun c o mW e=>
     e2.extBut _ _ (fun z=>mW (by rw[z];simp)) (hk c o mW e)
   have Hr:IsPair g2 s.heap.objs.size u v:=e2.extBut _ _ (acb Sf) a5
   have I1:Inv X pins σ (upd H s.heap.objs.size (.tup [x,y])) {s with heap:=g2,toks:=s.toks}:=I.many (ch:=[n+4,n+3,n,n+1]) (fun c mW=>hf c (by simp only[aaI,aaw,or_false]at mW ⊢;rcases mW with r|r|r|r<;>simp[r])) kk (Z0 _)
     ⟨by change 2<=sizeLine;decide,[u,v],.cons ru (.cons rv .nil),_,Hr,rfl,_,rfl⟩
   show⟨.ref s.heap.objs.size,_,I1,U,⟨_,x,y,hN,U,U,fun Fq rR w1 w2=>?_⟩,?_,fun c mW=>?_⟩
   . rw[I.xk w1 q1,I.xk w2 q2];show⟨hx,hy⟩
   . show⟨z2,e2.extBut _ _ (show @Ne Nat _ _ by lia) (hk _ _ (by simp only[aaI,aaw,or_false,not_or];show⟨show @Ne Nat _ _ by lia,show @Ne Nat _ _ by lia,show @Ne Nat _ _ by lia,show @Ne Nat _ _ by lia⟩) Z.ti),⟨_,_,e2.extBut _ _ (show @Ne Nat _ _ by lia) a2⟩,a3.b8 fun o e=>e2.extBut _ _ (show @Ne Nat _ _ by lia) e,a4.b8 fun o e=>e2.extBut _ _ (show @Ne Nat _ _ by lia) e⟩
   . have lt:c<s.heap.objs.size:=by
       have:c<=n+4:=by
         simp only[aaI,aaw,or_false]at mW
         have:=mW
         have h2 : @Eq Nat c (n+4) \/ @Eq Nat c (n+2) \/ @Eq Nat c (n+3) \/ @Eq Nat c n \/ @Eq Nat c (n+1):=mW
         change @LE.le Nat _ c (n+4)
         lia
       show Nat.lt_of_le_of_lt this Sf
     rw[au (aaf lt)]
     show(hf c mW).1
 done:=by
   intro X hP hw hK hc i pins s σ H E I hf Z hg
   subst hP hw hK
   obtain⟨xs,ys,q1,q2,CH⟩:=hg
   obtain⟨vo,r1,p1,_⟩:=I.sq q1
   obtain⟨fB,r2,p2,_⟩:=I.sq q2
   have l1:=r1.length
   have l2:=r2.length
   have hT:s.TypeIs (.ref (n+4)) "zip":=⟨_,Z.z,rfl⟩
   unfold pyNext
   show wpAny_bind (wpAny_attempt (aaA (name:=abF "__next__") hT abI (wpAny_call_entry abI hT adF
     (xG (I.ok.hd hc) n1 n2 Z p1 p2 ?_ fun g e hk he=>?_) (adv _))))
   . rcases CH with q|q
     . show .inl (by simp;lia)
     . show .inr (by simp;lia)
   . obtain⟨o,ho,VW⟩:=he
     show wpAny_bind (wpAny_isInstance (T:="StopIteration") (b:=true) ⟨o,ho,VW⟩ isSubtype_stop (wpAny_pure ⟨U,?_⟩))
     show I.vA (t':=s.toks) (ch:=[n+4,n+3,n,n+1]) (fun c mW=>hf c (by simp only[aaI,aaw,or_false]at mW ⊢;rcases mW with r|r|r|r<;>simp[r])) hk
 self:=fun t t t t t Z h=>wpAny_pyIter_zip Z.z h
def AI (t1 t2:Bool)(K:ZV)(ta:TA):TI:=fun σ H R=>ta σ H fun vs H1=>∃a b,vs=[.ref a,.ref b]/\(∃xs,Sq t1 K H1 a xs)/\(∃ys,Sq t2 K H1 b ys)/\R (rT t1 t2 K a b) H1
def zq {e f:Expr}{ta:TA}{p pos q:Pos}{elts:List Expr}{x1:Nat}(hg:Gl X "zip")(hm:X.mg "zip"=none)(ha:PA X [e,f] ta)(hs:starEach [e,f] X.env=[(false,eval e X.env),(false,eval f X.env)]:=by rfl)(hs2:starEach [f] X.env=[(false,eval f X.env)]:=by rfl)
   (hb:aaR "zip"=some (.type "zip"):=by first|rfl|decide +kernel):PI X (.Tuple elts x1 q) (.Call (.Name "zip" p) [e,f] [] pos) (AI t1 t2 X.K ta):=by
 intro pins s σ H R I h
 show Call_ (eC I hg hm hb (aaF (bu (ha pos pins s σ H _ I h) fun us s1 h9=>?_) (by rw[hs,hs2]) (by rw[hs2];rfl)))
 obtain⟨vs,H1,I1,r1,w⟩:=h9
 obtain⟨l1,l2,e,⟨xs,q1⟩,⟨ys,q2⟩,w⟩:=w
 subst e
 obtain⟨u,v,rfl,ru,rv⟩:=Vals.two r1
 obtain rfl:u=aab l1:=ru
 obtain rfl:v=aab l2:=rv
 obtain⟨vo,EH,p1,_⟩:=I1.sq q1
 obtain⟨fB,LU,p2,_⟩:=I1.sq q2
 show sj p1 p2 fun g Z hk=>?_
 show wpAny_pyIter_zip Z.z ?_
 have I2:Inv X pins σ H1 {s1 with heap:=g}:=I1.kept (t':=s1.toks) hk
 show⟨_,_,_,_,H1,U,I2,uj p1.lt p2.lt,Z,fun c hc=>?_,w⟩
 simp only[aaI,aaw,or_false]at hc
 have up:∀k,dG X pins H1 (s1.heap.objs.size+k):=fun k=>I1.jP (abB _ _) (I1.hok.fresh (abB _ _))
 rcases hc with rfl|rfl|rfl|rfl|rfl
 . show up 4
 . show up 2
 . show up 3
 . show up 0
 . show up 1
end
section
variable{K:ZV}{a b:Addr}{xs ys:List V}{g:TG}{t1 t2:Bool}
def ke {tifs:TT}{tm:TM}{σ0:St}{Z:Hp->Prop}{H:Hp}(hlen:xs.length=ys.length)(Pv:Nat->Hp->Prop)(h0:Pv 0 H)(hl:∀i H,i<=xs.length->Pv i H->Sq t1 K H a xs/\Sq t2 K H b ys)
   (turn:∀i x y p H,xs[i]?=some x->ys[i]?=some y->Pv i H->H p=none->g (.ref p) σ0 (upd H p (.tup [x,y])) fun σ2 H2=>tifs σ2 H2 fun b H3=>
     if b=true then tm σ2 H3 fun H4=>aX σ0 σ2/\∃m',m'<xs.length-i/\(m'=xs.length-(i+1)/\i+1<=xs.length/\Pv (i+1) H4)else aX σ0 σ2/\∃m',m'<xs.length-i/\(m'=xs.length-(i+1)/\i+1<=xs.length/\Pv (i+1) H3))
   (hZ:∀H,Pv xs.length H->Z H):gg (rT t1 t2 K a b) σ0 g tifs tm Z H:=by
 show eN xs.length Pv h0 (fun i H hi p=>⟨xs,ys,xs[i],ys[i]'(hlen▸hi),(hl i H (aaC hi) p).1,(hl i H (aaC hi) p).2,by simp[hi],by simp[hlen▸hi]⟩) (fun H p=>⟨xs,ys,(hl _ H (Z0 _) p).1,(hl _ H (Z0 _) p).2,.inl (Z0 _)⟩) (fun i H hi p x H' y=>?_) hZ
 obtain⟨pp,x1,y1,hn,rfl,rfl,k⟩:=y
 obtain⟨k1,k2⟩:=k xs ys (hl i H (aaC hi) p).1 (hl i H (aaC hi) p).2
 show turn i x1 y1 pp H k1 k2 p hn
end
end L2
namespace L3
open PySem PySem.Spec PyProof.Rows L2
section
variable{X:Cx}{a b c e o:Expr}{es:List Expr}{ta tb tc te:TE}{t:TA}{pos:Pos}
def Ot (t1 t2:Bool){KK:ZV}{p q:Pos}{elts:List Expr}{x1:Nat}(hg:Gl X "zip")(hm:X.mg "zip"=none)(ha:SA X [a,b] t)(hb:bD b:=by first|show iM|show lT|show iK)(hK:X.K=KK:=by first|show bg|rfl):SI X (.Tuple elts x1 q) (.Call (.Name "zip" p) [a,b] [] pos) (AI t1 t2 KK t):=by
 subst hK
 show⟨zq hg hm ha.h.pa (by rw[(ha.h.ns a [b] rfl).1.h [b] X.env,hb.h [] X.env];rfl) (by rw[hb.h [] X.env];rfl)⟩
end
end L3
namespace L2
open PySem PySem.Spec PyProof.Rows
end L2
namespace L3
open PySem PySem.Spec PyProof.Rows L2
end L3
namespace PySem.StrLaws
open Builtin Builtin.Str
end PySem.StrLaws
namespace L2
open PySem PySem.Spec PyProof.Rows
end L2
namespace L3
open PySem PySem.Spec PyProof.Rows L2
end L3
namespace HT
open PySem PySem.Spec PyProof.Rows
section
variable{prog:Program}{w:World}{A:Around}{E:Value->Shared->Prop}{s:Shared}
def fM {t sl:Addr}{items:Array Value}{vl vu:Value}{lo hi:Option Int}{Q:Value->Shared->Prop}(ht:IsTup s.heap t items)(hs:s.heap.IsSliceOf sl vl vu .none)(pl:IsPart vl lo)(pu:IsPart vu hi)
   (hw:bz items.size 0 lo=0/\bz items.size items.size hi=items.size)
   (h:Q (.ref t) s):wpAny (model prog w) A (getItem (.ref t) (.ref sl)) Q E s:=by
 obtain⟨os,CQ,km,HF⟩:=id hs
 have Nv:s.TypeIs (.ref sl) "slice":=⟨os,CQ,km⟩
 unfold getItem
 try with_reducible show wpAny_holding ?_
 first|show wpAny_bind (wpAny_pure ?_)|skip
 show wpAny_bind (wpAny_sequenceKey ht.typeIs (by left) ?_)
 show wpAny_bind (aaA (name:=abF "__getitem__") ht.typeIs aa7
   (wpAny_call_entry aa7 ht.typeIs entry_tuple_getitem ?_ (args_tuple_getitem _ _)))
 change wpAny _ _ (acP (.ref t)>>=_) _ _ s
 show wpAny_bind (tupleItemsOf_ ht ?_)
 show wpAny_bind (wpAny_typeOf Nv ?_)
 rw[ba (by left)]
 show wpAny_bind (dC hs pl pu ?_)
 change wpAny _ _ (if(((bz items.size 0 lo:Nat):Int)==0&&(1:Int)==1&&(bz items.size items.size hi-bz items.size 0 lo)==items.size)=true then _ else _) _ _ s
 rw[ba (by rw[hw.1,hw.2];simp)]
 unfold Builtin.Tuple.tupleIsExact
 show wpAny_bind (wpAny_bind (wpAny_typeOf ht.typeIs (wpAny_pure ?_)))
 rw[ba (by left)]
 show wpAny_bind (wpAny_rule (wpAny_pure ⟨_,U,wpAny_pure h⟩))
end
end HT
namespace L2
open PySem PySem.Spec PyProof.Rows
section
variable{X:Cx}
def JP (K:ZV):V->Option Int->Option Int->Hp->VK->Prop:=fun x lo hi H Q=>zO K x lo hi H Q\/∃a xs,x=.ref a/\aN K H a xs/\(HT.bz xs.length 0 lo=0/\HT.bz xs.length xs.length hi=xs.length)/\Q (.ref a) H
def zZ:x8 X (JP X.K):=x8.or pS (by
 intro pins s σ H x v vl vu lo hi sl Q I rx hs pl pu h
 obtain⟨a,xs,rfl,hx,hw,q⟩:=h
 cases rx
 obtain⟨its,r,ht,hz⟩:=I.tuple hx
 have hlen:its.toArray.size=xs.length:=by rw[Z5];show r.length.symm
 show⟨"tuple",_,PyProof.Rows.slot_tuple_getitem.lookup,ht.typeIs,?_⟩
 show HT.fM ht hs pl pu (by rw[hlen];show hw) ⟨.ref a,H,I,U,q⟩)
inductive Gv (H:Hp):V->Value->Prop where
 | int (i:Int):Gv H (.int i) (.type "int")
 | str (x:Str):Gv H (.str x) (.type "str")
 | lst {a:Addr} {xs:List V} (h:H a=some (.lst xs)):Gv H (.ref a) (.type "list")
 | tup {a:Addr} {xs:List V} (h:H a=some (.tup xs)):Gv H (.ref a) (.type "tuple")
def JK (K:ZV):List V->Hp->VK->Prop:=fun xs H Q=>(∃x n t b,xs=[x,.ty n]/\di K H x t/\ab3 K t (.type n)=some b/\Q (.bl b) H) \/
 ∃(x:V) (tp:Addr) (ns:List String) (t:Value) (b:Bool),xs=[x,.ref tp]/\H tp=some (.tup (ns.map V.ty))/\Gv H x t/\PySem.W.kitAny K t (ns.map abA)=some b/\Q (.bl b) H
def qf {ns:List String}:∀{us:List Value},Vals (ns.map V.ty) us->us=ns.map abA:=by
 induction ns with
 | nil=>intro us h;cases h;rfl
 | cons a l ih=>
   intro us h
   cases h with
   | cons r t=>
     rw[ih t,aav]
     congr 1
def uJ:bY X (.builtin "isinstance") (JK X.K):=by
 intro pins s σ H xs us Q I r h
 rcases h with h|⟨x,tp,ns,t,b,rfl,ht,ty,e,q⟩
 . show uK pins s σ H xs us Q I r h
 obtain⟨u,v,rfl,ru,rv⟩:=Vals.two r
 obtain rfl:v=aab tp:=rv
 obtain⟨_,its,rl,o,h1,h2,n,h3⟩:=(show aR X.prog X.w H s.heap tp (.tup (ns.map V.ty))from I.hok tp _ ht)
 rw[qf rl]at h3
 obtain⟨oc,od,ZH,osl⟩:=o
 simp only at h2 h3
 subst h2 h3
 cases ty with
 | int i=>obtain⟨t,q'⟩:=(show ∃t,u=acy i t from ru);cases q';show acp PySem.W.kitx_int I.jk aae h1 e (fun z=>nomatch z) fun tk=>⟨.bl b,H,I.tok tk,rfl,q⟩
 | str y=>obtain⟨t,q'⟩:=(show ∃t,u=acU y t from ru);cases q';show acp PySem.W.kitx_str I.jk aae h1 e (fun z=>nomatch z) fun tk=>⟨.bl b,H,I.tok tk,rfl,q⟩
 | @lst a xs ea=>
   cases(show u=aab a from ru)
   obtain⟨_,_,n,_,g1⟩:=(show aR X.prog X.w H s.heap a (.lst xs)from I.hok a _ ea)
   show acp acW I.jk ⟨_,g1,U⟩ h1 e (fun z=>nomatch z) fun tk=>⟨.bl b,H,I.tok tk,U,q⟩
 | @tup a xs ea=>
   cases(show u=aab a from ru)
   obtain⟨_,_,_,p⟩:=(show aR X.prog X.w H s.heap a (.tup xs)from I.hok a _ ea)
   obtain⟨o,g1,g2,_⟩:=p
   show acp ad4 I.jk ⟨o,g1,g2⟩ h1 e (fun z=>nomatch z) fun tk=>⟨.bl b,H,I.tok tk,U,q⟩
end
end L2
namespace L3
open PySem PySem.Spec PyProof.Rows L2
section
variable{X:Cx}{a b:Expr}{ta tb:TE}{pos:Pos}
def Pw {KK:ZV}{p2:Pos}(ha:SE X a ta)(hb:SE X b tb)(hK:X.K=KK:=by first|show bg|rfl):SE X (.Subscript a (.Slice none (some b) none p2) pos) (F8 (JP KK) ta eU (kQ tb)):=by
 subst hK
 show⟨eG zZ ha.h fW (fX hb.h)⟩
def i6 {KK:ZV}(hK:X.K=KK:=by first|show bg|rfl):SC X (.builtin "isinstance") (JK KK):=by
 subst hK
 show⟨uJ⟩
end
end L3
namespace L2
open PySem PySem.Spec PyProof.Rows
end L2
namespace L3
open PySem PySem.Spec PyProof.Rows L2
end L3
namespace L2
open PySem PySem.Spec PyProof.Rows
end L2
namespace L3
open PySem PySem.Spec PyProof.Rows L2
end L3
namespace L2
open PySem PySem.Spec PyProof.Rows
section
variable{X:Cx}
def qj (H:Hp)(t:V)(kv:List Key×V):Prop:=∃a b,t=.ref a/\H a=some (.tup [.ref b,kv.2])/\H b=some (.tup (kv.1.map kV))
def mz {pins:List (Addr×Obj)}{σ:St}{A:Around}{D l it:Addr}{xs:List V}(hh:A.handled=none)(hu:A.units+3<cLine) :
   ∀(n i:Nat) (j:Int) (t:Tok) (kvs d:List (List Key×V)) (H:Hp) (s:Shared) (R:Result->Shared->Prop),xs.length-i=n->i<=xs.length->Inv X pins σ H s->H D=some (.dT d)->d.length+n<=sizeLine->aE X.K H l xs->dG X pins H it->s.heap.IsListIter it l i ->
     Paired (qj H) (xs.drop i) kvs->(∀s',Inv X pins σ (upd H D (.dT (putAllT d kvs))) s'->R (.ok (.ret .none)) s') ->
     codeAny (model X.prog X.w) A (.builtin "dict.update.loop" ⟨[.ref D,.ref it,.int j t,.none],[]⟩) R s:=by
 intro n
 induction n using Nat.strongRecOn with
 | _ n ih=>
   intro i j t kvs d H s R hn hi I hD hz hq hf hit hp hR
   obtain⟨its,rv,p,_⟩:=I.list hq
   have hl:=rv.length
   obtain⟨f0,f1,f2,f3,f4,f5⟩:=id hf
   show codeAny_builtin cD ?_
   have hA:(A.under (.builtin "dict.update.loop" ⟨[.ref D,.ref it,.int j t,.none],[]⟩)).handled=none:=by rw[show(A.under (.builtin "dict.update.loop" ⟨[.ref D,.ref it,.int j t,.none],[]⟩)).handled=A.handled from rfl];show hh
   have hU:(A.under (.builtin "dict.update.loop" ⟨[.ref D,.ref it,.int j t,.none],[]⟩)).units+1<cLine:=by
     change A.units+(Code.builtin "dict.update.loop" ⟨[.ref D,.ref it,.int j t,.none],[]⟩).cUnits+1<cLine
     rw[show(Code.builtin "dict.update.loop" ⟨[.ref D,.ref it,.int j t,.none],[]⟩).cUnits=1 from plainId_units (by right) _]
     lia
   generalize A.under (.builtin "dict.update.loop" ⟨[.ref D,.ref it,.int j t,.none],[]⟩)=A' at hA hU ⊢
   unfold Builtin.«dict.update.loop»
   change wpAny _ _ (pyNext (.ref it)>>=_) _ _ _
   cases hx:xs[i]? with
   | none=>
     have Az:xs.length<=i:=List.getElem?_eq_none_iff.mp hx
     show wpAny_bind (wpAny_pyNext_list_end hA hit p.isList (by simp;lia) fun h' eb=>?_)
     have I1:Inv X pins σ H {s with heap:=h'}:=I.turned (t':=s.toks) (fun b o hb e=>eb b o hb e) f0 f1 f3 f4 f5
     have CF:xs.drop i=[]:=ad1 Az
     rw[CF]at hp
     cases hp
     have e:upd H D (.dT (putAllT d []))=H:=by
       funext b
       unfold upd
       split
       . rename_i hb;rw[hb,hD];rfl
       . rfl
     rw[e]at hR
     change wpAny _ _ (abX D []>>=_) _ _ _
     show wpAny_bind (wpAny_pure (wpAny_pure (hR _ I1)))
   | some x=>
     have cZ:i<xs.length:=(List.getElem?_eq_some_iff.mp hx).1
     obtain⟨u,hu,ru⟩:=rv.get hx
     have CF:xs.drop i=x::xs.drop (i+1):=by
       have e:xs[i]=x:=(List.getElem?_eq_some_iff.mp hx).2
       rw[adL cZ,e]
     rw[CF]at hp
     cases hp with
     | @cons _ kv _ r AA dR=>
       obtain⟨ta,tb,rfl,Og,RT⟩:=AA
       obtain rfl:u=aab ta:=ru
       show wpAny_bind (wpAny_pyNext_list_item hit p.isList (x:=.ref ta) (by simpa using hu) fun h' mZ sb=>?_)
       have I1:Inv X pins σ H {s with heap:=h'}:=I.turned (t':=s.toks) (fun b o hb e=>(sb.2 b hb).trans e) f0 f1 f3 f4 f5
       obtain⟨fB,LU,p2,_⟩:=I1.tuple (aN.of Og)
       obtain⟨w1,w2,rfl,r1,r2⟩:=Vals.two LU
       show wpAny_bind (wpAny_holding ?_)
       show wpAny_bind (wpAny_tryCatch (fR (show({s with heap:=h'}:Shared).heap.IsTuple ta #[w1,w2]from(show IsTup h' ta #[w1,w2]by simpa using p2)) ?_))
       change wpAny _ _ (holding [w1,w2] (dictSet D w1 w2)) _ _ _
       have We:(putK d kv.1 kv.2).length<=d.length+1:=bj d kv.1 kv.2
       have AD:n=xs.length-(i+1)+1:=by lia
       show wpAny_holding ?_
       have uZ:D≠it:=fun z=>by rw[z,f0]at hD;cases hD
       have N3:aE X.K (upd H D (.dT (putK d kv.1 kv.2))) l xs:=by
         rcases hq with(q|⟨o,q⟩)|q
         . show .inl (.inl (by rw[au (bX q hD (fun z=>nomatch z))];show q))
         . show .inl (.inr ⟨o,by rw[au (bX q hD (fun z=>nomatch z))];show q⟩)
         . show .inr q
       obtain⟨z,qK,vs,rel,dd⟩:=mU I1.hok hD
       have Oq:vs.length<=sizeLine:=by rw[← Paired.length rel];show z
       have vh:(tupleKind (aI X.prog X.w)).room A':=show A'.units<cLine by lia
       cases(show w1=aab tb from r1)
       show wpAny_dictSet_heap (hsz:=Oq) vh (gK I1.hok RT) dd fun h2 iF hs2=>?_
       obtain⟨qo,es,ep,RQ,k2,k3,k4,_,k5⟩:=iF
       have I2:Inv X pins σ (upd H D (.dT (putK d kv.1 kv.2))) _:=cq (t':=s.toks) I1 (by rw[hD];show aae) hs2 ⟨qo,RQ⟩ ⟨by lia,qK,_,(rel.put kv.1 RT r2).keeps fun c ys ec=>by
         rw[au (bX ec hD (fun z=>nomatch z))]
         show ec,qo,es,ep,RQ,k2,k3,k4,k5⟩
       show wpAny_pure ⟨ab9 _ (by right),?_⟩
       show ih (xs.length-(i+1)) (by lia) (i+1) _ _ r (putK d kv.1 kv.2) (upd H D (.dT (putK d kv.1 kv.2))) _ R rfl cZ (I2.tok _) ae (by lia) N3 ⟨by rw[au uZ.symm];show f0,hf.2⟩ (mZ.extBut hs2.extBut uZ.symm) ?_ ?_
       . show Paired.aV dR fun a b ⟨c,c2,e1,e2,e3⟩=>⟨c,c2,e1,by rw[au (bX e2 hD (fun z=>nomatch z))];show e2,by rw[au (bX e3 hD (fun z=>nomatch z))];show e3⟩
       . intro s' I'
         rw[iS]at I'
         show hR s' I'
def wC (K:ZV):List V->Hp->VK->Prop:=fun vs H Q=>∃l xs kvs,vs=[.ref l]/\H l=some (.lst xs)/\Paired (qj H) xs kvs/\∀D,H D=none->Q (.ref D) (upd H D (.dT (putAllT [] kvs)))
def gu (hu:X.A.units+5<cLine)(hc:X.calm=true):bY X (.type "dict") (wC X.K):=by
 intro pins s σ H vs us Q I r h
 obtain⟨l,xs,kvs,rfl,hl,hp,q⟩:=h
 obtain⟨u,rfl,ru⟩:=vals1 r
 obtain rfl:u=aab l:=ru
 have hh:X.A.handled=none:=I.ok.hd hc
 have hD:H s.heap.objs.size=none:=I.hok.fresh (Z0 _)
 have I1:Inv X pins σ (upd H s.heap.objs.size (.dT [])) {s with heap:=s.heap.push {cls:=.type "dict",data:=.dict #[]} }:=I.laid (t':=s.toks) (fun y y e=>ZX _ e) (Z0 _) (mT s.heap I.big)
 show callType_codes (Q₁:=fun obj s₁=>obj=.ref s.heap.objs.size/\s₁={s with heap:=s.heap.push {cls:=.type "dict",data:=.dict #[]} }) F.kt_called_dict (F.kt_typeCall_dict_1 _) F.entry_dict_init (kt_code_dict_new _ ⟨U,U⟩) ?_
 rintro obj s₁ ⟨rfl,rfl⟩
 have vg:(s.heap.push {cls:=.type "dict",data:=.dict #[]}).DictOf (aI X.prog X.w) s.heap.objs.size []:=acX s.heap
 generalize vj:({s with heap:=s.heap.push {cls:=.type "dict",data:=.dict #[]} }:Shared)=s1 at I1 ⊢
 have jf:s1.heap.DictOf (aI X.prog X.w) s.heap.objs.size []:=by rw[← vj];show vg
 generalize s.heap.objs.size=D at hD I1 jf ⊢
 have ko:(upd H D (.dT [])) l=some (.lst xs):=by rw[au (ar hl hD)];show hl
 show⟨jf.typeIs,F.args_dict_init_2 _ _,?_⟩
 unfold Builtin.«dict.__init__»
 show wpAny_bind ?_
 unfold abW
 show wpAny_bind (wpAny_notOrdered_dict jf.typeIs ?_)
 change wpAny _ _ (pure (D,[aab l])) _ _ _
 show wpAny_pure ?_
 change wpAny _ _ (aaW "dict.__init__" D (.ref l) [] .none) _ _ _
 unfold aaW
 obtain⟨z,its,n,rv,e⟩:=(show aR X.prog X.w _ s1.heap l (.lst xs)from I1.hok l _ ko)
 show wpAny_bind (wpAny_typeOf (T:="list") ⟨_,e,U⟩ ?_)
 rw[ba (by left)]
 show wpAny_bind (dU e hh fun h' tk hk=>?_)
 rw[ba (show(Option.isNone (none:Option Value))=true from rfl)]
 have I2:Inv X pins σ (upd H D (.dT [])) {s1 with heap:=h',toks:=tk}:=I1.kept hk
 show wpAny_bind (wpAny_rule ?_)
 show wpAny_bind (wpAny_pyIter_list ⟨_,hk _ _ e,U,n,U⟩ ?_)
 have I3:=I2.kept (h':=h'.push {cls:=.type "list_iterator",data:=.fields #[.ref l,.int 0 0]}) (t':=tk) fun b o e=>ZX _ e
 show wpAny_pure ⟨ab9 _ (by right),?_⟩
 show mz (l:=l) (it:=h'.objs.size) (xs:=xs) (d:=[]) (kvs:=kvs) (pins:=pins) (σ:=σ) (A:=X.A.in1) (show X.A.in1.handled=none from hh) (show X.A.units+1+3<cLine by lia) xs.length 0 _ _ _ _ _ (by simp) (aan _) I3 ae (by simpa using z) (aE.of ko) (I2.jP (Z0 _) (I2.hok.fresh (Z0 _))) ⟨_,Z6 _ rfl,U,U⟩ ?_ ?_
 . show Paired.aV hp fun a b ⟨c,c2,e1,e2,e3⟩=>⟨c,c2,e1,by rw[au (ar e2 hD)];show e2,by rw[au (ar e3 hD)];show e3⟩
 . intro s' I'
   rw[iS]at I'
   show⟨U,.ref D,_,I',U,q D hD⟩
end
end L2
namespace L3
open PySem PySem.Spec PyProof.Rows L2
def x9 {X:Cx}{KK:ZV}(hu:X.A.units+5<cLine)(hc:X.calm=true:=by rfl)(hK:X.K=KK:=by first|show bg|rfl):SC X (.type "dict") (wC KK):=by
 subst hK
 show⟨gu hu hc⟩
end L3
namespace L2
open PySem PySem.Spec PyProof.Rows
section
variable{X:Cx}
def A5 (K:ZV):R2:=fun x y H Q=>∃a b xs ys,x=.ref a/\y=.ref b/\aN K H a xs/\aN K H b ys/\ys≠[]/\xs.length+ys.length<=sizeLine /\
 (xs=[]->Q (.ref b) H)/\(xs≠[]->∀p,H p=none->Q (.ref p) (upd H p (.tup (xs++ys))))
def y9:eV X (binaryOp .Add) (A5 X.K):=by
 intro pins s σ H x y v u Q I rx ry h
 obtain⟨a,b,xs,ys,rfl,rfl,ha,hb,hy,hz,q1,q2⟩:=h
 cases rx
 cases ry
 obtain⟨its,r1,p1,_⟩:=I.tuple ha
 obtain⟨fB,r2,p2,_⟩:=I.tuple hb
 by_cases hx:xs=[]
 . obtain⟨⟨cls,dd,data,sl⟩,ho,hc,n,hd⟩:=id p1
   obtain⟨⟨Mx,FD,data2,w6⟩,jK,Hu,n2,hd2⟩:=id p2
   simp only at hc hd Hu hd2
   subst hc hd Hu hd2
   have e0:its=[]:=r1.iJ.mpr hx
   show concat_meets ⟨_,ho,U⟩ ⟨_,jK,U⟩ adO seq_tuple_add acm acg (ab8 _ _)
     (tuple_addW0 a b its.toArray fB.toArray n n2 dd FD sl w6 (by simp[e0])) ⟨ho,jK,⟨.ref b,H,I,rfl,q1 hx⟩⟩
 . show qV pins s σ H (.ref a) (.ref b) _ _ Q I rfl rfl ⟨a,b,xs,ys,U,U,ha,hb,hx,hz,fun z=>aB z hy,fun w=>q2 hx⟩
end
end L2
namespace L3
open PySem L2
def Dw {X:Cx}{KK:ZV}(hK:X.K=KK:=by first|show bg|rfl):SO X (binaryOp .Add) (A5 KK):=by
 subst hK
 show⟨y9⟩
end L3
namespace L2
open PySem PySem.Spec PyProof.Rows
section
variable{prog:Program}{w:World}{A:Around}{E:Value->Shared->Prop}{s:Shared}{a₀:Array Keyed}{κ:SortKind}
structure SB (κ:SortKind)(a₀:Array Keyed)(st:SortSt):Prop where
 perm:(arrOf st).Perm a₀
 kind:kindOf st=κ
 failed:failedOf st=none
 pend:pendingOf st=#[]
def SB.size {st:SortSt}(h:SB κ a₀ st):(arrOf st).size=a₀.size:=h.perm.size_eq
def SB.setArr {st:SortSt}(h:SB κ a₀ st){xs:Array Keyed}(hp:xs.Perm (arrOf st)):SB κ a₀ (setArr st xs):=⟨hp.trans h.perm,h.kind,h.failed,h.pend⟩
def SB.at {st:SortSt}(h:SB κ a₀ st){i:Nat}(hi:i<a₀.size):∃p,(arrOf st)[i]?=some p/\p∈a₀.toList:=by
 have Lo:i<(arrOf st).size:=by rw[h.size];show hi
 show⟨(arrOf st)[i],getElem?_pos _ i Lo,(Array.perm_iff_toList_perm.mp h.perm).mem_iff.mp (by simp)⟩
def mF (prog:Program)(w:World)(A:Around)(s:Shared)(κ:SortKind)(a₀:Array Keyed):Prop:=
 ∀p q,p∈a₀.toList->q∈a₀.toList->∀(E':Value->Shared->Prop) (Q:Bool->Shared->Prop),(∀b,Q b s)->wpAny (model prog w) A (keyLt' κ p.1 q.1) Q E' s
def gj {st:SortSt}{i j:Nat}{Q:Option Bool->SortSt->Prop}(hL:mF prog w A s κ a₀)(hB:SB κ a₀ st)(hi:i<a₀.size)(hj:j<a₀.size)(h:∀b,Q (some b) st):wpS (model prog w) A E s (ltAt' i j) Q st:=by
 obtain⟨p,e1,m1⟩:=hB.at hi
 obtain⟨q,e2,m2⟩:=hB.at hj
 rw[ltAt'_eq]
 show wpS_bind (wpS_get ?_)
 change wpS _ _ _ _ (do let x←elem' (arrOf st) i;let y←elem' (arrOf st) j;lt' x y) Q st
 rw[elem'_eq,elem'_eq,e1,e2]
 show wpS_bind (wpS_pure (wpS_bind (wpS_pure ?_)))
 rw[lt'_eq]
 show wpS_bind (wpS_get ?_)
 rw[hB.kind]
 show wpS_bind (wpS_lift (wpAny_attempt (hL p q m1 m2 _ _ fun b=>⟨U,?_⟩)))
 show wpS_pure (h b)
def xE {st:SortSt}{n ok:Nat}{Q:Bool->SortSt->Prop}(hL:mF prog w A s κ a₀)(hn:n<=a₀.size)(hB:SB κ a₀ st)(h:∀bW,SB κ a₀ bW->Q true bW):wpS (model prog w) A E s (binarySort' 0 n ok) Q st:=by
 rw[binarySort'_eq]
 simp only[Nat.zero_add]
 show wpS_bind (wpS_mono (wpS_forRange (I:=fun k c bW=>c=(none,())/\SB κ a₀ bW) (Q:=fun c bW=>c=(none,())/\SB κ a₀ bW) ?step ?fin ?init) ?post)
 case post=>
   rintro c bW ⟨rfl,fE⟩
   show wpS_pure (h bW fE)
 case init=>show⟨rfl,hB⟩
 case fin=>
   rintro c bW h
   show h
 case step=>
   rintro k c bW Y4 Za ⟨rfl,fE⟩
   have hk:k<a₀.size:=by lia
   show wpS_bind (wpS_mono (wpS_forRange (I:=fun x c iB=>iB=bW/\∃l r,c=(none,l,r)/\l<=r/\r<=k) (Q:=fun c iB=>iB=bW/\∃l r,c=(none,l,r)/\l<=k) ?istep ?ifin ?iinit) ?ipost)
   case iinit=>show⟨rfl,0,k,rfl,by lia,by lia⟩
   case ifin=>
     rintro c iB ⟨rfl,l,r,rfl,a,b⟩
     show⟨U,l,r,U,by lia⟩
   case istep=>
     rintro x c iB _ Zh ⟨rfl,l,r,rfl,Zd,Zf⟩
     dsimp only
     by_cases Az:l ≥ r
     . rw[ba Az]
       show wpS_pure ⟨U,l,r,U,by lia⟩
     . rw[aQ Az]
       show wpS_bind (gj hL fE hk (by lia) fun b=>?_)
       cases b
       case true=>
         simp only[if_true]
         show wpS_pure ⟨U,l,(l+r)/2,U,by lia,by lia⟩
       case false=>
         simp only[aaj,if_false]
         show wpS_pure ⟨U,(l+r)/2+1,r,U,by lia,by lia⟩
   case ipost=>
     rintro c iB ⟨rfl,l,r,rfl,Zb⟩
     change wpS _ _ _ _ (do moveDown' k l;pure (aaQ (none,()))) _ _
     rw[moveDown'_eq]
     show wpS_bind (wpS_modify (wpS_pure ⟨U,fE.setArr (bubble_perm _ _ _)⟩))
def oj {st:SortSt}{a bV:Nat}{Q:AscSt->SortSt->Prop}(hL:mF prog w A s κ a₀)(hn:bV<=a₀.size)(ha:1<=a)(han:a<=bV)(hB:SB κ a₀ st)
   (h:∀n,a<=n->n<=bV->Q (none,n) st):wpS (model prog w) A E s (ascLoop a bV) Q st:=by
 unfold ascLoop
 show wpS_forRange (I:=fun x c bW=>bW=st/\c=(none,x)) ?step ?fin ⟨U,U⟩
 case fin=>
   rintro c bW ⟨rfl,rfl⟩
   rw[show max a bV=bV by lia]
   show h bV han (Z0 _)
 case step=>
   rintro x c bW ND Oo ⟨rfl,rfl⟩
   dsimp only
   show wpS_bind (gj hL hB (by lia) (by lia) fun b=>?_)
   cases b
   case true=>
     simp only[if_true]
     show wpS_pure (h x ND (by lia))
   case false=>
     simp only[aaj,if_false]
     show wpS_pure ⟨U,U⟩
def kX {st:SortSt}{n bV:Nat}{Q:Option Nat->SortSt->Prop}(hL:mF prog w A s κ a₀)(hn:bV<=a₀.size)(h1:1<=n)(hnn:n<=bV)(hB:SB κ a₀ st)
   (h:∀m bW,SB κ a₀ bW->1<=m->m<=bV->Q (some m) bW):wpS (model prog w) A E s (tail3 n bV) Q st:=by
 unfold tail3
 show wpS_bind (wpS_reverse ?_)
 have fE:SB κ a₀ (setArr st (mirror (arrOf st) 0 n ((n-0)/2))):=hB.setArr (mirror_perm _ _ _ _)
 show wpS_bind (oj hL hn h1 hnn fE fun m hm1 hm2=>wpS_pure (h m _ fE (by lia) hm2))
def um {st:SortSt}{n bV:Nat}{Q:DescSt->SortSt->Prop}(hL:mF prog w A s κ a₀)(hn:bV<=a₀.size)(h1:1<=n)(hnn:n<=bV)(hB:SB κ a₀ st)
   (h:∀m vG bW,SB κ a₀ bW->n<=m->m<=bV->Q (none,m,vG) bW):wpS (model prog w) A E s (descLoop n bV) Q st:=by
 unfold descLoop
 show wpS_forRange (I:=fun x c bW=>∃vG,c=(none,x,vG)/\SB κ a₀ bW) ?step ?fin ⟨0,U,hB⟩
 case fin=>
   rintro c bW ⟨vG,rfl,fE⟩
   rw[show max n bV=bV by lia]
   show h bV vG bW fE hnn (Z0 _)
 case step=>
   rintro x c bW ND Oo ⟨vG,rfl,fE⟩
   dsimp only
   show wpS_bind (gj hL fE (by lia) (by lia) fun b=>?_)
   cases b
   case true=>
     simp only[if_true]
     by_cases vf:vG > 0
     . rw[ba vf]
       show wpS_bind (wpS_reverse (wpS_pure ⟨0,U,fE.setArr (mirror_perm _ _ _ _)⟩))
     . rw[aQ vf]
       show wpS_pure ⟨0,U,fE⟩
   case false=>
     simp only[aaj,if_false]
     show wpS_bind (gj hL fE (by lia) (by lia) fun b=>?_)
     cases b
     case true=>
       simp only[if_true]
       show wpS_pure (h x vG bW fE ND (by lia))
     case false=>
       simp only[aaj,if_false]
       show wpS_pure ⟨vG+1,U,fE⟩
def rQ {st:SortSt}{n bV:Nat}{Q:Option Nat->SortSt->Prop}(hL:mF prog w A s κ a₀)(hn:bV<=a₀.size)(hnn:n+1<=bV)(hB:SB κ a₀ st)
   (h:∀m bW,SB κ a₀ bW->1<=m->m<=bV->Q (some m) bW):wpS (model prog w) A E s (descPart n bV) Q st:=by
 unfold descPart
 show wpS_bind (wpS_lift (wpAny_rule ⟨U,?_⟩))
 show wpS_bind (um hL hn (by lia) hnn hB fun m vG bW fE hm1 hm2=>?_)
 dsimp only
 by_cases vf:vG > 0
 . rw[ba vf]
   show wpS_bind (wpS_reverse (kX hL hn (by lia) hm2 (fE.setArr (mirror_perm _ _ _ _)) h))
 . rw[aQ vf]
   show kX hL hn (by lia) hm2 fE h
def qh {st:SortSt}{bV:Nat}{Q:Option Nat->SortSt->Prop}(hL:mF prog w A s κ a₀)(hn:bV<=a₀.size)(h1:1<=bV)(hB:SB κ a₀ st)
   (h:∀m bW,SB κ a₀ bW->1<=m->m<=bV->Q (some m) bW):wpS (model prog w) A E s (countRun' 0 bV) Q st:=by
 rw[countRun0_eq]
 show wpS_bind (oj hL hn (Z0 1) h1 hB fun n AD hn2=>?_)
 dsimp only
 by_cases hnn:n=bV
 . rw[ba (by simpa using hnn)]
   show wpS_pure (h n st hB AD hn2)
 . rw[aQ (by simpa using hnn)]
   by_cases RH:n > 1
   . rw[ba RH]
     show wpS_bind (gj hL hB (by lia) (by lia) fun b=>?_)
     cases b
     case true=>
       simp only[if_true]
       show wpS_pure (h n st hB AD hn2)
     case false=>
       simp only[aaj,if_false]
       show wpS_bind (wpS_reverse (rQ hL hn (by lia) (hB.setArr (mirror_perm _ _ _ _)) h))
   . rw[aQ RH]
     show rQ hL hn (by lia) hB h
def SDone (a₀:Array Keyed)(st:SortSt):Prop:=(arrOf st).Perm a₀/\failedOf st=none/\pendingOf st=#[(0,a₀.size,0)]
def SB.done {st:SortSt}(hB:SB κ a₀ st):SDone a₀ (setPending st ((pendingOf st).push (0,a₀.size,0))):=
 ⟨hB.perm,hB.failed,by change(pendingOf st).push _=_;rw[hB.pend];rfl⟩
def uo {st:SortSt}{Q:Unit->SortSt->Prop}(hL:mF prog w A s κ a₀)(hB:SB κ a₀ st)(h2:2<=a₀.size)(h64:a₀.size<64)
   (h:∀bW,(arrOf bW).Perm a₀->failedOf bW=none->Q () bW):wpS (model prog w) A E s sortRuns' Q st:=by
 rw[sortRuns'_eq]
 show wpS_bind (wpS_get ?_)
 dsimp only
 have Wg:minRun' a₀.size a₀.size 0=a₀.size:=by
   obtain⟨f,hf⟩ : ∃f,a₀.size=f+1:=⟨a₀.size-1,by lia⟩
   have:minRun' (f+1) a₀.size 0=a₀.size:=by rw[minRun'_succ,ba h64];rfl
   rwa[← hf]at this
 simp only[hB.size,Wg]
 show wpS_bind (wpS_mono (wpS_forRange
   (I:=fun x c bW=>(x=0/\c=(none,0)/\SB κ a₀ bW)\/(1<=x/\c=(none,a₀.size)/\SDone a₀ bW))
   (Q:=fun c bW=>c=(none,a₀.size)/\SDone a₀ bW) ?step ?fin (.inl ⟨rfl,rfl,hB⟩)) ?post)
 case fin=>
   rintro c bW (⟨hx,_,_⟩|⟨_,hc,hD⟩)
   . lia
   . show⟨hc,hD⟩
 case step=>
   rintro x c bW _ hx (⟨rfl,rfl,fE⟩|⟨hx1,rfl,hD⟩)
   . dsimp only
     rw[aQ (by lia)]
     simp only[abR,Nat.min_self,Nat.zero_add]
     show wpS_bind (qh hL (Z0 _) (by lia) fE fun m F3 xO hm1 hm2=>?_)
     dsimp only
     by_cases cZ:m<a₀.size
     . rw[ba cZ]
       show wpS_bind (wpS_lift (wpAny_rule ⟨U,?_⟩))
       show wpS_bind (xE hL (Z0 _) xO fun oD Rt=>?_)
       simp only[ac0,aaj,if_false]
       show wpS_bind (wpS_get ?_)
       have hb:(pendingOf oD).back?=none:=by rw[Rt.pend];rfl
       rw[hb]
       dsimp only
       show wpS_bind (wpS_modify (wpS_pure (.inr ⟨by lia,U,Rt.done⟩)))
     . rw[aQ cZ]
       have hm:m=a₀.size:=by lia
       subst hm
       show wpS_bind (wpS_get ?_)
       have hb:(pendingOf F3).back?=none:=by rw[xO.pend];rfl
       rw[hb]
       dsimp only
       show wpS_bind (wpS_modify (wpS_pure (.inr ⟨by lia,U,xO.done⟩)))
   . dsimp only
     rw[ba (Z0 _)]
     show wpS_pure ⟨U,hD⟩
 case post=>
   rintro c bW ⟨rfl,hD⟩
   dsimp only
   show wpS_bind (wpS_mono (wpS_forRange (I:=fun z c iB=>iB=bW/\c=(none,())) (Q:=fun c iB=>iB=bW/\c=(none,())) ?_ (fun z z hh=>hh) ⟨U,U⟩) ?_)
   . rintro x c iB _ _ ⟨rfl,rfl⟩
     show wpS_bind (wpS_get ?_)
     rw[ba (by rw[hD.2.2];show Z0 1)]
     show wpS_pure ⟨U,U⟩
   . rintro c iB ⟨rfl,rfl⟩
     show wpS_pure (h _ hD.1 hD.2.1)
end
section
variable{prog:Program}{w:World}{A:Around}{E:Value->Shared->Prop}{s:Shared}
def Ah (h:Heap)(v:Value):Prop:=∃(a:Addr) (p q:Int) (t u:Tok),v=.ref a/\IsTup h a #[.int p t,.int q u]
def oX (x y:Value):keyLt' (tuples' true) x y=(do
   let xs←ab6 x;let ys←ab6 y
   for ((p,q),i)in (xs.toList.zip ys.toList).zipIdx do
     if !(← eqBool p q)then return←oneLt' (true&&i==0) p q
   return xs.size<ys.size):=rfl
def jx {b:Bool}{p q:Int}{t u:Tok}{Q:Bool->Shared->Prop}(h:Q (decide (p<q)) s):wpAny (model prog w) A (oneLt' b (.int p t) (.int q u)) Q E s:=by
 cases b with
 | true=>show oneLt_int h
 | false=>
   rw[oneLt'_eq]
   simp only[aaj,if_false]
   show wpAny_bind (wpAny_richCompare_same (id:="int.__lt__") (typeIs_int s p t) (typeIs_int s q u) slot_int_lt (call_int_lt ⟨(fun z=>nomatch z),?_⟩))
   show wpAny_truthy_bool h
def tu {x y:Value}{Q:Bool->Shared->Prop}(hx:Ah s.heap x)(hy:Ah s.heap y)(h:∀b,Q b s):wpAny (model prog w) A (keyLt' (tuples' true) x y) Q E s:=by
 obtain⟨a,p,q,t,u,rfl,o,ho,hc,n,hd⟩:=hx
 obtain⟨b,p',q',t',u',rfl,o',ho',mW,n',qK⟩:=hy
 rw[oX]
 show wpAny_bind (listItems_at ho hd ?_)
 show wpAny_bind (listItems_at ho' qK ?_)
 simp only[List.zip_cons_cons,List.zip_nil_left,ada,adk,acF,adK,bind_assoc,pure_bind]
 show wpAny_bind (wpAny_eqBool_int ?_)
 cases p==p' with
 | false=>
   simp only[Bool.not_false,if_true,bind_assoc,pure_bind]
   show wpAny_bind (jx (wpAny_pure (h _)))
 | true=>
   simp only[ac0,aaj,if_false,pure_bind,bind_assoc]
   show wpAny_bind (wpAny_eqBool_int ?_)
   cases q==q' with
   | false=>
     simp only[Bool.not_false,if_true,bind_assoc,pure_bind]
     show wpAny_bind (jx (wpAny_pure (h _)))
   | true=>
     simp only[ac0,aaj,if_false,pure_bind,bind_assoc]
     show wpAny_pure (h _)
def gw (v:Value):firstOfTuple' v=(do
   if(← typeOf v) != .type "tuple" then return none
   return (← ab6 v)[0]?):=rfl
def sO {v:Value}{Q:Option Value->Shared->Prop}(hv:Ah s.heap v)(h:∀p t,Q (some (.int p t)) s):wpAny (model prog w) A (firstOfTuple' v) Q E s:=by
 obtain⟨a,p,q,t,u,rfl,o,ho,hc,n,hd⟩:=hv
 rw[gw]
 show wpAny_bind (wpAny_typeOf (T:="tuple") ⟨o,ho,hc⟩ ?_)
 rw[aQ (by simp)]
 show wpAny_bind (listItems_at ho hd (wpAny_pure ?_))
 show h p t
theorem jb:∀{vs:List Value} {Q:List (Option Value)->Shared->Prop},(∀v∈vs,Ah s.heap v)->(∀(us:List Value) (ns:List Int),IntsAre us ns->us.length=vs.length->Q (us.map some) s)->wpAny (model prog w) A (vs.mapM firstOfTuple') Q E s
 | [],Q,_,h=>by
   rw[List.mapM_nil]
   show wpAny_pure (h [] [] .nil rfl)
 | v::vs,Q,hv,h=>by
   rw[List.mapM_cons]
   show wpAny_bind (sO (hv v (List.mem_cons.mpr (.inl rfl))) fun p t=>?_)
   show wpAny_bind (jb (fun x hx=>hv x (List.mem_cons.mpr (.inr hx))) fun us ns i l=>wpAny_pure ?_)
   show h (.int p t::us) (p::ns) (.cons p t i) (by rw[aau,aau,l])
def nc {vs:List Value}{Q:SortKind->Shared->Prop}(hne:vs≠[])(hv:∀v∈vs,Ah s.heap v)(h:Q (tuples' true) s):wpAny (model prog w) A (keyKind' vs.toArray) Q E s:=by
 rw[keyKind'_eq,List.mapM_toArray]
 show wpAny_bind ?_
 show wpAny_bind (jb hv fun us ns i l=>wpAny_pure ?_)
 have hall:((us.map some).toArray.all fun x=>x.isSome)=true:=by simp
 rw[ba hall]
 show wpAny_bind (wpAny_rule ?_)
 have fm:(us.map some).toArray.filterMap id=us.toArray:=by simp
 rw[fm,oneTypeOnly'_eq,List.mapM_toArray,mapM_typeOf_ints i]
 simp only[map_pure,pure_bind]
 cases us with
 | nil=>show aB (List.length_eq_zero_iff.mp l.symm) hne
 | cons v us=>
   have hall:((List.map (fun z=>abA "int") (v::us)).toArray.all fun x=>x==abA "int")=true:=by
     simp only[List.all_toArray,List.all_map,aby]
     intro _ _
     rfl
   have h0:(List.map (fun z=>abA "int") (v::us)).toArray[0]?=some (abA "int"):=by simp
   rw[h0]
   simp only[hall,if_true,pure_bind]
   show wpAny_pure h
def kI (vs:List Value):((pairsOf vs).map (·.2)).toList=vs:=by simp[pairsOf,List.map_snd_zip]
def jS {a:Addr}{vs:List Value}{n:Nat}{P:Fin->Shared->Prop}(ho:s.heap.get? a=some (seqObj "list" vs.toArray n))(hv:∀v∈vs,Ah s.heap v)(h64:vs.length<64)
   (h:∀out:Array Value,out.toList.Perm vs->P (.done (.ret .none)) {s with heap:=sortedHeap s.heap a vs out}) :
   wpAny (model prog w) A (Builtin.«list.sort» ⟨[.ref a],[]⟩) P E s:=by
 rw[list_sort_plain]
 have ha:a<s.heap.objs.size:=Z7 ho
 show wpAny_bind (listItems_at ho rfl ?_)
 show wpAny_bind (listUpdate_at ho rfl ?_)
 obtain⟨e1,RP⟩ : ∃e1,(s.heap.update a (aaG fun z=>#[])).get? a=some (seqObj "list" #[] e1):=⟨_,adY ho (fun z=>#[])⟩
 show wpAny_bind (seqEpoch_at RP rfl ?_)
 show wpAny_bind (wpAny_newTuple ?_)
 show wpAny_bind (wpAny_newList ?_)
 show wpAny_holding ?_
 have Lu:(((s.heap.update a (aaG fun z=>#[])).push (seqObj "tuple" vs.toArray 0)).push (seqObj "list" #[] 0)).get? a=some (seqObj "list" #[] e1):=by
   rw[Heap.get?_push_ne _ _ _ (by rw[size_push',Heap.size_update];show aaf (ac6 ha)),Heap.get?_push_ne _ _ _ (by rw[Heap.size_update];show aaf ha)]
   show RP
 change wpAny (model prog w) A _ P E {s with heap:=((s.heap.update a (aaG fun z=>#[])).push (seqObj "tuple" vs.toArray 0)).push (seqObj "list" #[] 0)}
 dsimp only
 have hsz:vs.toArray.size=vs.length:=by simp
 have hv6:∀v∈vs,Ah (((s.heap.update a (aaG fun z=>#[])).push (seqObj "tuple" vs.toArray 0)).push (seqObj "list" #[] 0)) v:=fun v Ol=>by
   obtain⟨b,p,q,t,u,rfl,o,hb,hc,rest⟩:=hv v Ol
   show⟨b,p,q,t,u,U,o,?_,hc,rest⟩
   show ZX _ (ZX _ ?_)
   rw[abk _ _ (fun e=>by
     subst e
     rw[ho]at hb
     cases hb
     have hc:abA "list"=abA "tuple":=hc
     show aB hc (by left))]
   show hb
 by_cases h2:vs.toArray.size<2
 . rw[ba h2,ba h2]
   show wpAny_bind (wpAny_pure ?_)
   rw[StateT.run_pure]
   show wpAny_bind (wpAny_pure ?_)
   dsimp only
   show wpAny_bind (seqEpoch_at Lu rfl ?_)
   show wpAny_bind (listUpdate_at Lu rfl ?_ (hsz2:=by rw[Array.size_map];change(pairsOf vs).size<=_;rw[pairsOf_size,acG];lia))
   simp only[bne_self_eq_false,aaj,if_false]
   show wpAny_pure (h _ ?_)
   show List.Perm.of_eq (kI vs)
 . rw[aQ h2,aQ h2]
   show wpAny_bind (nc (fun e=>h2 (by rw[e];decide)) hv6 ?_)
   show wpAny_bind (wpAny_mono (uo (κ:=tuples' true) (a₀:=pairsOf vs) (st:=SortSt.mk' (tuples' true) (vs.toArray.zip vs.toArray) #[] 7 none)
     (Q:=fun z bW=>(arrOf bW).Perm (pairsOf vs)/\failedOf bW=none) ?_ ⟨Array.Perm.refl _,rfl,rfl,rfl⟩ (by rw[pairsOf_size];lia) (by rw[pairsOf_size];show h64) fun bW a1 a2=>⟨a1,a2⟩) ?_ fun z z e=>e)
   . intro p q hp hq E' Q' hQ
     rw[pairsOf_toList]at hp hq
     show tu (hv6 _ (ab1 hp).1) (hv6 _ (ab1 hq).1) hQ
   rintro⟨⟨⟩,bW⟩ s' ⟨rfl,hp,hf⟩
   dsimp only
   show wpAny_bind (seqEpoch_at Lu rfl ?_)
   show wpAny_bind (listUpdate_at Lu rfl ?_ (hsz2:=by show aar (Nat.le_of_eq ((Array.size_map ..).trans (hp.size_eq.trans (pairsOf_size _)))) ?_;rw[acG];lia))
   rw[hf]
   simp only[bne_self_eq_false,aaj,if_false]
   show wpAny_pure (h _ ?_)
   rw[Array.toList_map]
   have h1:=(Array.perm_iff_toList_perm.mp hp).map (·.2)
   rw[← Array.toList_map (xs:=pairsOf vs),kI]at h1
   show h1
end
section
variable{prog:Program}{w:World}{A:Around}{E:Value->Shared->Prop}{s:Shared}
def eB (h:Heap)(d:Addr)(ks:List Value)(ep:Nat):Prop:=∃o es,h.get? d=some o/\o.ExactDict/\o.data=.dict es ep/\es.toList.map (·.key)=ks
def eB.at {h h':Heap}{d:Addr}{ks:List Value}{ep:Nat}(x:eB h d ks ep)(e:∀o,h.get? d=some o->h'.get? d=some o):eB h' d ks ep:=by obtain⟨o,es,ho,r⟩:=x;show⟨o,es,e _ ho,r⟩
def vH {it d:Addr}{i ep:Nat}{ks:List Value}{k:Value}{Q:Option Value->Shared->Prop}(hit:s.heap.IsKeyIter it d i ks.length ep)(hm:eB s.heap d ks ep)(hx:ks[i]?=some k)
   (hQ:∀h',h'.IsKeyIter it d (i+1) ks.length ep->aaM it s.heap h'->Q (some k) {s with heap:=h'}):wpAny (model prog w) A (pyNext (.ref it)) Q E s:=by
 obtain⟨o,ho,hc,hd⟩:=id hit
 obtain⟨od,es,AE,hcd,Av,hk⟩:=id hm
 have hsz:es.size=ks.length:=by rw[← hk,ZW];rfl
 have cZ:i<ks.length:=(List.getElem?_eq_some_iff.mp hx).1
 have HM:i<es.size:=by rw[hsz];show cZ
 have hkey:es[i].key=k:=by
   rw[← hk,aap]at hx
   have:es.toList[i]?=some es[i]:=by simp[HM]
   rw[this]at hx
   show aas hx
 unfold pyNext
 show wpAny_bind (wpAny_attempt (aaA (name:=abF "__next__") hit.typeIs abp (wpAny_call_entry abp hit.typeIs adD ?_ (adm _))))
 show wpAny_bind (wpAny_pure ?_)
 show wpAny_bind ?_
 show wpAny_bind ?_
 first|show wpAny_bind (wpAny_typeNameOfWhole_keyiter hit.typeIs (wpAny_pure ?_))|show wpAny_bind (wpAny_typeNameOf_keyiter hit.typeIs (wpAny_pure ?_))
 show wpAny_bind (wpAny_fieldsOf ho hd ?_)
 have CS:acv "dict_keyiterator"=false:=by left
 simp only[CS,aaj,if_false]
 change wpAny _ _ (if(aab d==abb)=true then _ else _) _ _ s
 rw[aQ (show ¬ ((aab d==abb)=true)from Z8)]
 show wpAny_bind (wpAny_pure ?_)
 show wpAny_bind (wpAny_dictEntries AE Av ?_)
 rw[aQ (by rw[hsz];simp)]
 show wpAny_bind (wpAny_pure ?_)
 show wpAny_bind (wpAny_dictEpoch AE Av ?_)
 rw[aQ (by simp)]
 show wpAny_pure ?_
 simp only[show ¬ ((i:Int)<0)from by lia,if_false,aaq,Array.getElem?_eq_getElem HM]
 show wpAny_bind ?_
 first|show wpAny_bind (wpAny_typeNameOfWhole_keyiter hit.typeIs (wpAny_pure ?_))|show wpAny_bind (wpAny_typeNameOf_keyiter hit.typeIs (wpAny_pure ?_))
 show wpAny_bind (wpAny_isOneOf_keyiter hit.typeIs ?_)
 change wpAny _ _ (setField (.ref it) 1 (rawInt ((i:Int)+1))>>=_) _ _ s
 show wpAny_bind (wpAny_setField ho hd (by simp) ?_)
 have mZ:(s.heap.update it (Obj.mapFields (·.setIfInBounds 1 (rawInt ((i:Int)+1))))).IsKeyIter it d (i+1) ks.length ep:=
   ⟨_,abo _ ho (ad9 (aca hd _)),(Obj.cls_mapFields ..).trans hc,by rw[aca hd];simp[rawInt]⟩
 show wpAny_bind (wpAny_holding ?_)
 show wpAny_bind (wpAny_isOneOf_keyiter (s:={s with heap:=s.heap.update it (Obj.mapFields (·.setIfInBounds 1 (rawInt ((i:Int)+1))))}) mZ.typeIs ?_)
 change wpAny _ _ (pure es[i].key) _ _ _
 rw[hkey]
 show wpAny_pure (wpAny_pure ⟨_,U,wpAny_pure (hQ _ mZ (aaJ ..))⟩)
def tJ {it d:Addr}{i ep:Nat}{ks:List Value}{Q:Option Value->Shared->Prop}(hh:A.handled=none)(hit:s.heap.IsKeyIter it d i ks.length ep)(hm:eB s.heap d ks ep)(hx:ks[i]?=none)
   (hQ:∀h',Heap.ExtBut it s.heap h'->Q none {s with heap:=h'}):wpAny (model prog w) A (pyNext (.ref it)) Q E s:=by
 obtain⟨o,ho,hc,hd⟩:=id hit
 obtain⟨od,es,AE,hcd,Av,hk⟩:=id hm
 have hsz:es.size=ks.length:=by rw[← hk,ZW];rfl
 unfold pyNext
 show wpAny_bind (wpAny_attempt (aaA (name:=abF "__next__") hit.typeIs abp (wpAny_call_entry abp hit.typeIs adD ?_ (adm _))))
 show wpAny_bind (wpAny_pure ?_)
 show wpAny_bind ?_
 show wpAny_bind ?_
 first|show wpAny_bind (wpAny_typeNameOfWhole_keyiter hit.typeIs (wpAny_pure ?_))|show wpAny_bind (wpAny_typeNameOf_keyiter hit.typeIs (wpAny_pure ?_))
 show wpAny_bind (wpAny_fieldsOf ho hd ?_)
 have CS:acv "dict_keyiterator"=false:=by left
 simp only[CS,aaj,if_false]
 change wpAny _ _ (if(aab d==abb)=true then _ else _) _ _ s
 rw[aQ (show ¬ ((aab d==abb)=true)from Z8)]
 show wpAny_bind (wpAny_pure ?_)
 show wpAny_bind (wpAny_dictEntries AE Av ?_)
 rw[aQ (by rw[hsz];simp)]
 show wpAny_bind (wpAny_pure ?_)
 show wpAny_bind (wpAny_dictEpoch AE Av ?_)
 rw[aQ (by simp)]
 show wpAny_pure ?_
 have Az:es.size<=i:=by rw[hsz];simpa using hx
 simp only[show ¬ ((i:Int)<0)from by lia,if_false,aaq,Array.getElem?_eq_none Az]
 show wpAny_bind ?_
 first|show wpAny_bind (wpAny_typeNameOfWhole_keyiter hit.typeIs (wpAny_pure ?_))|show wpAny_bind (wpAny_typeNameOf_keyiter hit.typeIs (wpAny_pure ?_))
 change wpAny _ _ (setField (.ref it) 0 .none>>=_) _ _ s
 show wpAny_bind (wpAny_setField ho hd (by simp) ?_)
 change wpAny _ _ (newExc (.type "StopIteration") []>>=_) _ _ _
 show wpAny_bind ?_
 simp only[newExc,newTuple]
 show wpAny_bind (wpAny_newObj_type ?_ (by size_fits))
 show wpAny_bind (m:=ac3 _ _) (wpAny_of_eq (a:=abb) (by first|rfl|(simp only[ac3];rfl)) ?_)
 show wpAny_newObj_type ?_ (by size_fits)
 simp only[raiseNew]
 show wpAny_bind (wpAny_handled ?_)
 rw[show A.in1.handled=none from hh]
 show wpAny_bind (wpAny_pure (wpAny_throw ?_))
 show wpAny_bind (wpAny_isInstance (T:="StopIteration") (b:=true) ⟨_,Z6 _ rfl,U⟩ isSubtype_stop ?_)
 show wpAny_pure (hQ _ (((aaJ ..).extBut.push _).push _))
def qg (hh:A.handled=none)(I d:Addr)(hne:d≠I)(ks:List Value)(ep:Nat) :
   Walks prog w A I [I,d] [I] ks.length (fun i v=>ks[i]?=some v) (fun i h=>h.IsKeyIter I d i ks.length ep/\eB h d ks ep) where
 sub:=fun b hb=>by simp at hb;simp[hb]
 frame:=fun z z z st hk=>⟨st.1.at fun o e=>hk I (by simp) o e,st.2.at fun o e=>hk d (by simp) o e⟩
 item:=fun i s Q E hi st hQ=>by
   obtain⟨k,hx⟩ : ∃k,ks[i]?=some k:=⟨ks[i],by simp[hi]⟩
   show vH st.1 st.2 hx fun h' mZ sR=>?_
   show hQ k h' s.toks hx ⟨mZ,st.2.at fun o e=>sR.extBut d o hne e⟩ fun b o hb e=>sR.extBut b o (fun h=>hb (by simp[h])) e
 done:=fun s Q E st hQ=>tJ hh st.1 st.2 (by simp) fun h' HG=>hQ h' s.toks fun b o hb e=>HG b o (fun h=>hb (by simp[h])) e
 self:=fun z z z z st hQ=>wpAny_pyIter_keyiter st.1 hQ
def eB.typeIs {d:Addr}{ks:List Value}{ep:Nat}(h:eB s.heap d ks ep):s.TypeIs (.ref d) "dict":=by
 obtain⟨o,es,ho,hc,_⟩:=h
 show⟨o,ho,hc.1⟩
def sW {d:Addr}{ks:List Value}{ep:Nat}{Q:Value->Shared->Prop}(hd:(d==aa5)=false)(hm:eB s.heap d ks ep)
   (hQ:Q (.ref s.heap.objs.size) {s with heap:=s.heap.push {cls:=.type "dict_keyiterator",data:=.fields #[.ref d,.int 0 0,.int ks.length 0,.int ep 0]} }) :
   wpAny (model prog w) A (pyIter (.ref d)) Q E s:=by
 have hT:=hm.typeIs
 obtain⟨o,es,ho,hc,HC,hk⟩:=id hm
 show wpAny_pyIter_slot hT F.slot_dict_iter (wpAny_call_entry F.slot_dict_iter hT F.entry_dict_iter ?_ (F.args_dict_iter_1 _))
 unfold Builtin.«dict.__iter__»
 show wpAny_bind ?_
 unfold Builtin.Dict.dictSlotNone
 show wpAny_bind (wpAny_notOrdered_dict hT ?_)
 change wpAny _ _ (pure (aab d)) _ _ s
 show wpAny_pure ?_
 change wpAny _ _ (acd d>>=_) _ _ s
 unfold acd
 rw[aQ (by rw[hd];show Z8)]
 show wpAny_bind (wpAny_pure ?_)
 show wpAny_bind (wpAny_dictEntries ho HC ?_)
 show wpAny_bind (wpAny_dictEpoch ho HC ?_)
 have hsz:es.size=ks.length:=by rw[← hk,ZW];rfl
 show wpAny_bind (wpAny_newObj_type (wpAny_pure ⟨_,U,"dict_keyiterator",_,⟨_,Z6 _ rfl,U⟩,F.slot_dict_keyiterator_next.lookup,?_⟩))
 simpa[rawInt,hsz]using hQ
end
section
variable{prog:Program}{w:World}{A:Around}{E:Value->Shared->Prop}{s:Shared}
def lD {d:Addr}{ks:List Value}{ep:Nat}{Q:List Value->Shared->Prop}(hh:A.handled=none)(hd:(d==aa5)=false)(hm:eB s.heap d ks ep)(hn:ks.length<=sizeLine)
   (hQ:∀s',(∀b o,s.heap.get? b=some o->s'.heap.get? b=some o)->s'.gens=s.gens->s'.drawn=s.drawn->s'.os=s.os->s.toks<=s'.toks->s.heap.objs.size<=s'.heap.objs.size->Q ks s') :
   wpAny (model prog w) A (collect (.ref d)) Q E s:=by
 unfold collect
 show wpAny_bind (wpAny_runValue (codeAny_builtin PySem.F.entry_proto_collect ?_))
 rw[ad2 PySem.F.plain_proto_collect _]
 change wpAny _ A.in1 (newList []>>=fun l=>again (.builtin "list.__iadd__" ⟨[l,.ref d],[]⟩)) _ _ s
 show wpAny_bind (wpAny_newObj_type ?_)
 show wpAny_pure ⟨plainId_quiet adu _,codeAny_builtin PySem.F.entry_list_iadd ?_⟩
 rw[ad2 adu _]
 have cZ:d<s.heap.objs.size:=by obtain⟨o,es,ho,_⟩:=hm;show Z7 ho
 have h1:ac2 (.ref s.heap.objs.size) (.ref d)=false:=by simp[ac2];show fun e=>aba _ (e▸cZ)
 have hm1:eB (s.heap.push {cls:=.type "list",data:=.seq ([]:List Value).toArray}) d ks ep:=hm.at fun o e=>ZX _ e
 change wpAny _ A.in1 (acR (.ref s.heap.objs.size) (.ref d) (.ref s.heap.objs.size)) _ _ _
 unfold acR
 show wpAny_bind (wpAny_typeOf (eB.typeIs (s:={s with heap:=s.heap.push {cls:=.type "list",data:=.seq ([]:List Value).toArray} }) hm1) ?_)
 rw[aQ (by rw[h1];decide)]
 show wpAny_bind (sW (s:={s with heap:=s.heap.push {cls:=.type "list",data:=.seq ([]:List Value).toArray} }) hd hm1 ?_)
 show wpAny_bind (wpAny_holding ?_)
 unfold Builtin.List.listLengthHint
 generalize hH:s.heap.push {cls:=.type "list",data:=.seq ([]:List Value).toArray}=H at hm1 ⊢
 have Nq:H.objs.size=s.heap.objs.size+1:=by rw[← hH,adM]
 have hm2:eB (H.push {cls:=.type "dict_keyiterator",data:=.fields #[.ref d,.int 0 0,.int ks.length 0,.int ep 0]}) d ks ep:=hm1.at fun o e=>ZX _ e
 have hit:(H.push {cls:=.type "dict_keyiterator",data:=.fields #[.ref d,.int 0 0,.int ks.length 0,.int ep 0]}).IsKeyIter H.objs.size d 0 ks.length ep:=⟨_,Z6 _ rfl,rfl,rfl⟩
 have hS:(H.push {cls:=.type "dict_keyiterator",data:=.fields #[.ref d,.int 0 0,.int ks.length 0,.int ep 0]}).get? s.heap.objs.size=some {cls:=.type "list",data:=.seq ([]:List Value).toArray}:=ZX _ (hH▸Z6 _ rfl)
 have hsub:∀b o,s.heap.get? b=some o->(H.push {cls:=.type "dict_keyiterator",data:=.fields #[.ref d,.int 0 0,.int ks.length 0,.int ep 0]}).get? b=some o:=fun b o e=>ZX _ (hH▸ZX _ e)
 generalize H.push {cls:=.type "dict_keyiterator",data:=.fields #[.ref d,.int 0 0,.int ks.length 0,.int ep 0]}=H2 at hm2 hit hS hsub ⊢
 have Hr:Shared.TypeIs {s with heap:=H2} (.ref d) "dict":=eB.typeIs (s:={s with heap:=H2}) hm2
 show wpAny_bind (wpAny_specialOf Hr PySem.F.slot_dict_len.lookup ?_)
 wp_delta
 show wpAny_bind (wpAny_isInstance (b:=true) Hr (by rw[isSubtype_type];kernel_rfl) ?_)
 change wpAny _ A.in1 (typeOf (aab d)>>=_) _ _ _
 show wpAny_bind (wpAny_typeOf Hr ?_)
 show wpAny_pure ?_
 rw[ba (by left)]
 show wpAny_bind (wpAny_rule ?_)
 unfold Builtin.List.listTouch
 have Rw:H2.get? s.heap.objs.size=some (seqObj "list" #[] 0):=hS
 obtain⟨e1,Rx⟩ : ∃e1,(H2.update s.heap.objs.size (aaG (·.push .none))).get? s.heap.objs.size=some (seqObj "list" #[.none] e1):=⟨_,adY Rw (·.push .none)⟩
 obtain⟨e2,Ry⟩ : ∃e2,((H2.update s.heap.objs.size (aaG (·.push .none))).update s.heap.objs.size (aaG (·.pop))).get? s.heap.objs.size=some (seqObj "list" #[] e2):=⟨_,adY Rx (·.pop)⟩
 show wpAny_bind (wpAny_bind (listUpdate_at Rw rfl ?_))
 show listUpdate_at (s:={s with heap:=H2.update s.heap.objs.size (aaG (·.push .none))}) Rx U ?_
 have hk4:∀b o,b≠s.heap.objs.size->H2.get? b=some o->((H2.update s.heap.objs.size (aaG (·.push .none))).update s.heap.objs.size (aaG (·.pop))).get? b=some o:=fun b o n e=>by
   rw[abk _ _ (Ne.symm n),abk _ _ (Ne.symm n)]
   show e
 change wpAny _ A.in1 (again _) _ _ {s with heap:=(H2.update s.heap.objs.size (aaG (·.push .none))).update s.heap.objs.size (aaG (·.pop))}
 generalize(H2.update s.heap.objs.size (aaG (·.push .none))).update s.heap.objs.size (aaG (·.pop))=H4 at Ry hk4 ⊢
 have nI:H.objs.size≠s.heap.objs.size:=by rw[Nq];show Nat.succ_ne_self _
 have nd:d≠s.heap.objs.size:=aaf cZ
 have dI:d≠H.objs.size:=by rw[Nq];show aaf (ac6 cZ)
 have VP:s.heap.objs.size∉[H.objs.size,d]:=fun hm=>by
   rcases List.mem_cons.mp hm with z|z
   . show nI z.symm
   . show nd (List.mem_singleton.mp z).symm
 have hst:H4.IsKeyIter H.objs.size d 0 ks.length ep/\eB H4 d ks ep:=⟨hit.at fun o e=>hk4 _ _ nI e,hm2.at fun o e=>hk4 _ _ nd e⟩
 show wpAny_pure ⟨plainId_quiet PySem.F.plain_extend_loop _,codeAny_extend_loopS (qg (A:=A.in1) hh H.objs.size d dI ks ep).toS hn _ VP _ ks.length 0 _ _ _ rfl (aan _) hst Ry (ItemsOf.nil _) fun s' acc' c' CI Rz jd=>?_⟩
 change wpAny _ A (load s.heap.objs.size>>=_) _ _ s'
 show wpAny_bind (wpAny_load Rz ?_)
 have ea:acc'.toList=ks:=by
   apply List.ext_getElem?
   intro j
   by_cases hj:j<ks.length
   . have:acc'.toList[j]?=some (acc'[j]'(by rw[jd.1];show hj)):=by simp[jd.1,hj]
     rw[this]
     show(jd.2 j _ (by simp[jd.1,hj])).symm
   . rw[abQ (by simp[jd.1];lia),abQ (by lia)]
 show wpAny_pure ?_
 rw[ea]
 show hQ s' (fun b o e=>?_) CI.gens CI.drawn CI.os CI.toks (aaC (Z7 Rz))
 have Ln:=Z7 e
 show CI.heap b o (fun hb=>?_) (hk4 _ _ (aaf Ln) (hsub _ _ e))
 rcases List.mem_cons.mp hb with h|h
 . show aB Ln (h▸aba _)
 . rw[List.mem_singleton.mp h,Nq]at Ln
   show aB Ln (Nat.not_lt.mpr (Nat.le_succ _))
def nW {d:Addr}{ks:List Value}{ep:Nat}{Q:Value->Shared->Prop}(hh:A.handled=none)(hd:(d==aa5)=false)(hm:eB s.heap d ks ep)(hv:∀v∈ks,Ah s.heap v)(h64:ks.length<64)
   (h:∀(l:Addr) (out:List Value) (s':Shared),out.Perm ks->(∀b o,s.heap.get? b=some o->s'.heap.get? b=some o)->s.heap.objs.size<=l->(∃e,s'.heap.get? l=some (seqObj "list" out.toArray e))->s'.gens=s.gens->s'.drawn=s.drawn->s'.os=s.os->s.toks<=s'.toks->Q (.ref l) s') :
   wpAny (model prog w) A (call (.builtin "sorted") [.ref d]) Q E s:=by
 show Calls.call_function_entry kind_sorted plain_sorted entry_sorted (args_sorted1 _) ?_
 unfold Builtin.«sorted»
 show wpAny_bind (m:=checkCount "sorted" 1 1 _) (wpAny_pure ?_)
 show wpAny_bind (lD (A:=A.in1) hh hd hm (by rw[acG];lia) fun s1 k1 g1 d1 o1 t1 z1=>?_)
 show wpAny_bind (wpAny_newList ?_)
 have CJ:(s1.heap.push (seqObj "list" ks.toArray 0)).get? s1.heap.objs.size=some (seqObj "list" ks.toArray 0):=Z6 _ rfl
 change wpAny _ _ _ _ _ {s1 with heap:=s1.heap.push (seqObj "list" ks.toArray 0)}
 show wpAny_bind (wpAny_holding (wpAny_call_entry slot_list_sort ⟨_,CJ,U⟩ entry_list_sort (jS (s:={s1 with heap:=s1.heap.push (seqObj "list" ks.toArray 0)}) CJ (fun v Ol=>?_) h64 fun out hp=>⟨_,U,?_⟩) (args_list_sort _)))
 . obtain⟨b,p,q,t,u,rfl,o,hb,r⟩:=hv v Ol
   show⟨b,p,q,t,u,U,o,ZX _ (k1 _ _ hb),r⟩
 show wpAny_pure ⟨_,U,h s1.heap.objs.size out.toList _ hp (fun b o e=>?_) z1 ?_ g1 d1 o1 t1⟩
 . have cZ:=Z7 (k1 _ _ e)
   have hne:b≠s1.heap.objs.size:=aaf cZ
   change(sortedHeap (s1.heap.push (seqObj "list" ks.toArray 0)) s1.heap.objs.size ks out).get? b=some o
   rw[sortedHeap_old hne (by rw[size_push'];show ac6 cZ)]
   show ZX _ (k1 _ _ e)
 . obtain⟨e2,h2⟩:=sortedHeap_at (out:=out) CJ
   show⟨e2,by rw[Array.toArray_toList];show h2⟩
end
section
variable{X:Cx}
def wH:List V->Hp->VK->Prop:=fun vs H Q=>∃d kvs,vs=[.ref d]/\H d=some (.dT kvs)/\kvs.length<64/\(∀k∈kvs.map (·.1),∃p q:Int,k=[.inl p,.inl q]) /\
 ∀(l:Addr) (as:List Addr),H l=none->as.length=kvs.length->(∀a∈as,∃p q:Int,[.inl p,.inl q]∈kvs.map (·.1)/\H a=some (.tup [.int p,.int q]))->(∀p q:Int,[.inl p,.inl q]∈kvs.map (·.1)->∃a∈as,H a=some (.tup [.int p,.int q]))->Q (.ref l) (upd H l (.lst (as.map V.ref)))
theorem rB:∀{out:List Value},(∀v∈out,∃a,v=.ref a)->∃as:List Addr,out=as.map aab
 | [],_=>⟨[],rfl⟩
 | v::out,h=>by
   obtain⟨a,rfl⟩:=h v (List.mem_cons.mpr (.inl rfl))
   obtain⟨as,rfl⟩:=rB fun x hx=>h x (List.mem_cons.mpr (.inr hx))
   show⟨a::as,U⟩
theorem En {α β:Type}{R:α->β->Prop}:∀{xs:List α} {ys:List β},Paired R xs ys->∀{i:Nat} {x:α},xs[i]?=some x->∃y,ys[i]?=some y/\R x y
 | _,_,.nil,i,x,h=>by simp at h
 | _,_,.cons a r,0,x,h=>by simp at h;subst h;show⟨_,rfl,a⟩
 | _,_,.cons a r,i+1,x,h=>En r (by simpa using h)
theorem pM {α β:Type}{R:α->β->Prop}:∀{xs:List α} {ys:List β},Paired R xs ys->xs.length=ys.length
 | _,_,.nil=>rfl
 | _,_,.cons _ r=>congrArg (·+1) (pM r)
theorem kM:∀as:List Addr,Vals (as.map V.ref) (as.map aab)
 | []=>.nil
 | a::as=>.cons rfl (kM as)
def lr (hc:X.calm=true):bY X (.builtin "sorted") wH:=by
 intro pins s σ H vs us Q I r h
 obtain⟨d,kvs,rfl,hd,R9,hk,q⟩:=h
 obtain⟨u,rfl,ru⟩:=vals1 r
 obtain rfl:u=aab d:=ru
 have hh:X.A.handled=none:=I.ok.hd hc
 obtain⟨_,Wy,xs,rel,o,es,ep,h1,h2,h3,h4,_⟩:=(show aR X.prog X.w H s.heap d (.dT kvs)from I.hok d _ hd)
 have xl:kvs.length=xs.length:=pM rel
 have key:∀x∈xs,∃p q:Int,[.inl p,.inl q]∈kvs.map (·.1)/\H x.2.1=some (.tup [.int p,.int q]):=fun x hx=>by
   obtain⟨i,hi⟩:=aeb hx
   have cX:i<kvs.length:=by rw[xl];show(List.getElem?_eq_some_iff.mp hi).1
   obtain⟨y,hy,e1,e2,_⟩:=En rel (Z3 cX)
   rw[hi]at hy
   cases hy
   have hm:(kvs[i]).1∈kvs.map (·.1):=List.mem_map.mpr ⟨_,abT cX,rfl⟩
   obtain⟨p,q,e3⟩:=hk _ hm
   rw[e3]at hm e2
   show⟨p,q,hm,e2⟩
 have raw:eB s.heap d (xs.map fun x=>aab x.2.1) ep:=⟨o,es,h1,h2,h3,by rw[h4,acD];rfl⟩
 show nW hh Wy raw (fun v hv=>?_) (by rw[ZW,← xl];show R9) fun l out s' hp keep hl WW g1 d1 o1 t1=>?_
 . obtain⟨x,hx,rfl⟩:=List.mem_map.mp hv
   obtain⟨p,q,_,e2⟩:=key x hx
   obtain⟨its,r1,p1,_⟩:=I.tuple (aN.of e2)
   cases r1 with
   | cons a r1=>
     cases r1 with
     | cons b r1=>
       cases r1
       obtain⟨t,rfl⟩:=a
       obtain⟨u,rfl⟩:=b
       show⟨x.2.1,p,q,t,u,U,p1⟩
 . have mem:∀v∈out,∃x∈xs,v=.ref x.2.1:=fun v hv=>by
     obtain⟨x,hx,e⟩:=List.mem_map.mp (hp.mem_iff.mp hv)
     show⟨x,hx,e.symm⟩
   obtain⟨as,rfl⟩:=rB fun v hv=>let⟨x,_,e⟩:=mem v hv;⟨_,e⟩
   have al:as.length=kvs.length:=by
     have:=hp.length_eq
     rw[ZW,ZW]at this
     lia
   have GN:s'={s with heap:=s'.heap,toks:=s'.toks}:=by
     cases s'
     cases s
     simp only at g1 d1 o1
     subst g1 d1 o1
     rfl
   obtain⟨e,CJ⟩:=WW
   have I':=I.laid (a:=l) (o:=.lst (as.map V.ref)) (t':=s'.toks) keep hl ⟨by rw[ZW,al,acG];lia,as.map aab,e,kM as,CJ⟩
   rw[GN]
   show⟨.ref l,_,I',U,q l as (I.hok.fresh hl) al (fun a ha=>?_) (fun p q Wr=>?_)⟩
   . obtain⟨x,hx,e⟩:=mem (.ref a) (List.mem_map.mpr ⟨a,ha,rfl⟩)
     cases e
     show key x hx
   . obtain⟨kv,AA,e1⟩:=List.mem_map.mp Wr
     obtain⟨i,hi⟩:=aeb AA
     obtain⟨y,hy,e2,e3,_⟩:=En rel hi
     have hm:aab y.2.1∈as.map aab:=hp.mem_iff.mpr (List.mem_map.mpr ⟨y,ZZ hy,rfl⟩)
     obtain⟨a,ha,ea⟩:=List.mem_map.mp hm
     cases ea
     rw[e1]at e3
     show⟨_,ha,e3⟩
end
end L2
namespace L3
open PySem L2
def rY {X:Cx}(hc:X.calm=true:=by rfl):SC X (.builtin "sorted") wH:=⟨lr hc⟩
end L3
namespace L2
open PySem PySem.Spec PyProof.Rows SeqAt
inductive EM (K:ZV) (H:Hp):V->V->Bool->Prop where
 | flat {x y:V}:cC x=true->cC y=true->EM K H x y (fA x y)
 | text {a:Addr} {zs:List V} {t:Str}:aN K H a zs->EM K H (.ref a) (.str t) false
def tX (K:ZV):R2:=fun x y H Q=>∃a c xs ys,∃e:Nat->Bool,x=.ref a/\y=.ref c/\aN K H a xs/\aN K H c ys/\(∀j x y,xs[j]?=some x->ys[j]?=some y->EM K H x y (e j))/\Q (.bl ((aax (min xs.length ys.length)).all e&&xs.length==ys.length)) H
section
variable{X:Cx}
def DS (hu:X.A.units+(0+1)<cLine):eV X (compareOp .Eq) (tX X.K):=by
 intro pins s σ H x y v u Q I rx ry h
 obtain⟨a,c,xs,ys,e,rfl,rfl,ha,hb,he,k⟩:=h
 cases rx;cases ry
 obtain⟨us,r1,p1,_⟩:=I.tuple ha
 obtain⟨vs,r2,p2,_⟩:=I.tuple hb
 have l1:=r1.length
 have l2:=r2.length
 show eq_tupleAt (show s.heap.IsTuple a us.toArray from p1) (show s.heap.IsTuple c vs.toArray from p2) (by lia) (de (K:=X.K) (e:=e) r1 r2 (fun j x y h1 h2=>?_) hu) ?_
 . intro A u v ru rv hu
   have q:=he j x y h1 h2
   generalize e j=b at q ⊢
   cases q with
   | flat f1 f2=>show oS ru rv f1 f2
   | text hz=>
     obtain⟨ws,_,p3,_⟩:=I.tuple hz
     cases ru
     obtain⟨tk,rfl⟩:=rv
     show EqAt.tuple_str _ _ p3 (by lia)
 . rw[show us.toArray.size=xs.length by simp[l1],show vs.toArray.size=ys.length by simp[l2]]
   show⟨.bl _,H,I,U,k⟩
end
end L2
namespace L3
open PySem PySem.Spec PyProof.Rows L2
def IF {X:Cx}{KK:ZV}(hu:X.A.units+(0+1)<cLine)(hK:X.K=KK:=by first|show bg|rfl):SO X (compareOp .Eq) (tX KK):=by
 subst hK
 show⟨DS hu⟩
def Pt {X:Cx}{tg iter kx vx:Expr}{ifs:List Expr}{sc:Scope}{wi:TI}{g:TG}{tifs:TT}{tk tv:TE}{i:Nat}{x:Str}{pos pos' dB:Pos}(src:List (Option Nat))(N':List Str)(hu:X.A.units+1<cLine)(S:bA sc X.env.scope)(hcap:b6 sc src N' X.N=true)(hi:SI X tg iter wi)
   (hb:∀s H C fp xe,SG (dQ X N' sc s H C fp xe) tg g/\FA (dQ X N' sc s H C fp xe) ifs tifs/\SE (dQ X N' sc s H C fp xe) kx tk/\SE (dQ X N' sc s H C fp xe) vx tv) (hN:X.N.Nodup) (hix:X.N[i]?=some x:=by rfl) (hx:Loc X.env.scope x:=by first|show Or.inl rfl|show Or.inr rfl)
   (hsw:abY (.DictComp kx vx [⟨tg,iter,ifs,0⟩] sc pos) (some (.Name x pos')) dB.line X.env=pure true:=by rfl) (hc:X.calm=true:=by rfl)
   (hs:∀x,aaB iter X.env x=pure x:=by intro _;rfl) (hf:X.fn x=true\/X.env.scope.names.lookup x=some .local:=by first|show .inl rfl|show .inr rfl) :
   SS X (.Assign [.Name x pos'] (.DictComp kx vx [⟨tg,iter,ifs,0⟩] sc pos) dB) (n6 (dO src (.dK []) wi g tifs (vz tk tv)) (dq i)):=
 ⟨q8 qy hc S hcap hi.h (fun s H C fp xe D=>⟨(hb s H C fp xe).1.h,(hb s H C fp xe).2.1.h,wq (X:=dQ X N' sc s H C fp xe) hu (hb s H C fp xe).2.2.1.h (hb s H C fp xe).2.2.2.h D⟩) uF hs (fun z=>rfl) hN hix hx hsw hf⟩
def UP {X:Cx}{tg iter kx vx:Expr}{ifs:List Expr}{sc:Scope}{pos:Pos}{wi:TI}{g:TG}{tifs:TT}{tk tv:TE}(src:List (Option Nat))(N':List Str)(hu:X.A.units+1<cLine)(S:bA sc X.env.scope)(hcap:b6 sc src N' X.N=true)(hi:SI X tg iter wi)
   (hb:∀s H C fp xe,SG (dQ X N' sc s H C fp xe) tg g/\FA (dQ X N' sc s H C fp xe) ifs tifs/\SE (dQ X N' sc s H C fp xe) kx tk/\SE (dQ X N' sc s H C fp xe) vx tv) (hc:X.calm=true:=by rfl)
   (hs:∀x,aaB iter X.env x=pure x:=by intro _;rfl):SE X (.DictComp kx vx [⟨tg,iter,ifs,0⟩] sc pos) (dO src (.dK []) wi g tifs (vz tk tv)):=
 ⟨qY qy hc S hcap hi.h (fun s H C fp xe D=>⟨(hb s H C fp xe).1.h,(hb s H C fp xe).2.1.h,wq (X:=dQ X N' sc s H C fp xe) hu (hb s H C fp xe).2.2.1.h (hb s H C fp xe).2.2.2.h D⟩) uF hs rfl⟩
def aug {X:Cx}{e:Expr}{te:TE}(i:Nat){x:Str}{pos pos':Pos}(hN:X.N.Nodup)(he:SE X e te)(hi:X.N[i]?=some x:=by rfl)(hx:Loc X.env.scope x:=by first|show Or.inl rfl|show Or.inr rfl)(hf:X.fn x=true\/X.env.scope.names.lookup x=some .local:=by first|show .inl rfl|show .inr rfl) :
   SS X (.AugAssign (.Name x pos') .Add e pos) (Kl i te (RX fun i j=>i+j)):=⟨Es hN hi hx he.h C7 hf⟩
end L3
namespace L2
open PySem PySem.Spec PyProof.Rows
def cH (v d:Addr):Heap->Prop:=fun h=>h.IsItemsView v d
section
variable{X:Cx}
def wD:V->List V->Hp->VK->Prop:=fun x vs H Q=>∃d kvs,x=.ref d/\vs=[]/\H d=some (.dK kvs)/\∀v,H v=none->Q (.ref v) (upd H v (.ext (cH v d)))
def vC:Fx X "dict.items" wD:=by
 intro pins s σ H x vs v us Q I rx rv h
 obtain⟨d,kvs,rfl,rfl,hH,q⟩:=h
 cases rx
 have Oj:=rv.zero
 subst Oj
 obtain⟨z,hd,ws,rel,dd⟩:=hG I.hok hH
 show acT adt dd.typeIs PySem.F.entry_dict_items (PySem.F.args_dict_items_1 _) (meets_dict_items (aI X.prog X.w) d hd) ⟨⟨ws,dd⟩,?_⟩
 have n0:H s.heap.objs.size=none:=I.hok.fresh (Z0 _)
 show⟨.ref s.heap.objs.size,_,I.laid (o:=.ext (cH s.heap.objs.size d)) (t':=s.toks) (fun b u e=>ZX _ e) (Z0 _) ⟨⟨_,Z6 _ rfl,U,U⟩,⟨_,Z6 _ rfl⟩,fun h1 h2 hv k=>?_⟩,U,q _ n0⟩
 obtain⟨o,e,r⟩:=hv
 show⟨o,k o e,r⟩
end
def Ft (a:Addr)(o:Obj)(kvs:List (Key×V)):It:=
 ⟨fun i H=>H a=some (.frz o (.dK kvs))/\i<kvs.length,
  fun i H v H'=>∃p k y,H p=none/\v=.ref p/\kvs[i]?=some (k,y)/\H'=upd H p (.tup [kV k,y]),
  fun i H=>H a=some (.frz o (.dK kvs))/\kvs.length<=i⟩
def AL {P:Program}{w:World}{k:Key}{u:Value}(h:(aI P w).is k u=true):RelV (kV k) u:=by
 rcases bq (k:=k) (v:=u) h with⟨i,t,rfl,rfl⟩|⟨x,t,rfl,rfl⟩
 . show⟨t,U⟩
 . show⟨t,U⟩
theorem kH {α β:Type}{R:α->β->Prop}:∀{xs:List α} {ys:List β} {i:Nat} {x:α},Paired R xs ys->xs[i]?=some x->∃y,ys[i]?=some y/\R x y
 | _,_,_,_,.nil,h=>by simp at h
 | _,_,0,_,.cons r _,h=>by cases h;show⟨_,rfl,r⟩
 | _,_,i+1,_,.cons _ t,h=>kH (i:=i) t h
theorem jy {α β:Type}{R:α->β->Prop}:∀{xs:List α} {ys:List β} {i:Nat} {y:β},Paired R xs ys->ys[i]?=some y->∃x,xs[i]?=some x/\R x y
 | _,_,_,_,.nil,h=>by simp at h
 | _,_,0,_,.cons r _,h=>by cases h;show⟨_,rfl,r⟩
 | _,_,i+1,_,.cons _ t,h=>jy (i:=i) t h
def uX {P:Program}{w:World}{H:Hp}{h:Heap}{a:Addr}{o:Obj}{es:Array DictEntry}{ep:Nat}{kvs:List (Key×V)}(ho:o.data=.dict es ep)(ok:eL P w H h)(e:H a=some (.frz o (.dK kvs))):∃vs,KV kvs vs/\h.DictAt (aI P w) a vs ep:=by
 obtain⟨e1,z,hd,vs,rel,o2,YZ,K9,h1,h2,h3,h4⟩:=(show aR P w H h a (.frz o (.dK kvs))from ok a _ e)
 rw[e1]at h1
 cases h1
 rw[ho]at h3
 cases h3
 show⟨vs,rel,o,es,e1,h2,ho,h4⟩
def qb {P:Program}{w:World}{K:ZV}{elts:List Expr}{x1:Nat}{tp:Pos}{a n:Addr}{o:Obj}{es:Array DictEntry}{ep:Nat}{kvs:List (Key×V)}(hne:a≠n)(ho:o.data=.dict es ep) :
   Turn P w K (.Tuple elts x1 tp) (Ft a o kvs) [n] n (fun i h=>∃ok ov,IsItemIter h n a i kvs.length ep ok ov) where
 mem:=by simp
 obj:=fun i h st d hd=>by
   obtain⟨ok,ov,he⟩:=st
   rw[List.mem_singleton.mp hd]
   show⟨_,he,fun v q=>nomatch q⟩
 keep:=fun i h h' st k=>by
   obtain⟨ok,ov,he⟩:=st
   show⟨ok,ov,k _ (by simp) _ he⟩
 item:=by
   intro X hP hw hK hc i pins s σ H E I hf st hg
   subst hP hw hK
   obtain⟨hH,hi⟩:=hg
   obtain⟨vs,rel,dd⟩:=uX ho I.hok hH
   obtain⟨ok,ov,he⟩:=st
   have hl:=rel.length
   obtain⟨⟨k,y⟩,hx⟩ : ∃p,kvs[i]?=some p:=⟨kvs[i],by simp[hi]⟩
   obtain⟨⟨k',u⟩,hu,ek,ru⟩:=kH rel hx
   have ek:k=k':=ek
   subst ek
   rw[hl]at he
   show wpAny_pyNext_items_item he dd hu fun key g hk hit ht hz hkeep=>?_
   show⟨_,U,wpAny_letOwnedTupleGo_items (s:={s with heap:=g}) hit fun g2 oy e2=>?_⟩
   have n0:H s.heap.objs.size=none:=I.hok.fresh (Z0 _)
   have FY:n<s.heap.objs.size:=Z7 he
   have yf:aaM n g g2:=e2
   have kk:∀d o,d∉([n]:List Addr)->s.heap.get? d=some o->g2.get? d=some o:=fun d o hd e=>by
     have hd:d≠n:=by simpa using hd
     show yf.extBut _ _ hd (hkeep d o hd e)
   have t2:g2.get? s.heap.objs.size=some {cls:=.type "tuple",data:=.seq #[key,u]}:=yf.extBut _ _ (acb FY) ht
   have I1:Inv X pins σ (upd H s.heap.objs.size (.tup [kV k,y])) {s with heap:=g2}:=I.many (ch:=[n]) hf kk (Z0 _)
     ⟨by change 2<=sizeLine;decide,[key,u],.cons (AL hk) (.cons ru .nil),_,t2,rfl,_,rfl⟩
   show⟨.ref s.heap.objs.size,_,I1,U,⟨_,k,y,n0,U,hx,U⟩,⟨key,u,by rw[hl];show oy⟩,fun d hd=>?_⟩
   rw[List.mem_singleton.mp hd,au (aaf FY)]
   show(hf n (by simp)).1
 done:=by
   intro X hP hw hK hc i pins s σ H E I hf st hg
   subst hP hw hK
   obtain⟨hH,CH⟩:=hg
   obtain⟨vs,rel,dd⟩:=uX ho I.hok hH
   obtain⟨ok,ov,he⟩:=st
   have hl:=rel.length
   rw[hl]at he
   show wpAny_pyNext_items_end (I.ok.hd hc) he dd (by simp;lia) fun g hk=>⟨U,?_⟩
   show I.vA (t':=s.toks) (ch:=[n]) (fun d hd=>hf d hd) fun d o hd e=>hk d o (by simpa using hd) e
 self:=fun A i s Q E st h=>by
   obtain⟨ok,ov,he⟩:=st
   show PySem.W.kcp_self he h
def HZ (ta:TE):TI:=fun σ H R=>ta σ H fun x H1=>∃v d kvs,x=.ref v/\H1 v=some (.ext (cH v d))/\H1 d=some (.dK kvs)/\∀o,R (Ft d o kvs) (upd H1 d (.frz o (.dK kvs)))
def wg {X:Cx}{e:Expr}{te:TE}{elts:List Expr}{x1:Nat}{tp:Pos}(he:PE X e te):PI X (.Tuple elts x1 tp) e (HZ te):=by
 intro pins s σ H R I h
 show bu (he pins s σ H _ I h) fun v s1 h9=>?_
 obtain⟨x,H1,I1,r1,q1⟩:=h9
 obtain⟨v,d,kvs,rfl,hv,hH,q⟩:=q1
 cases r1
 obtain⟨hv1,_,_⟩:=(show aR X.prog X.w H1 s1.heap v (.ext (cH v d))from I1.hok v _ hv)
 obtain⟨z,hd,vs,rel,o,es,ep,h1,h2,h3,h4⟩:=hG I1.hok hH
 have dd:s1.heap.DictAt (aI X.prog X.w) d vs ep:=⟨o,es,h1,h2,h3,h4⟩
 show wpAny_pyIter_items hv1 dd ?_
 have I2:Inv X pins σ (upd H1 d (.frz o (.dK kvs))) s1:=cq (h':=s1.heap) (t':=s1.toks) I1 (by rw[hH];show aae) (adN _ _) ⟨_,h1⟩ ⟨h1,z,hd,vs,rel,o,es,ep,h1,h2,h3,h4⟩
 have n0:H1 s1.heap.objs.size=none:=I1.hok.fresh (Z0 _)
 have dn:d≠s1.heap.objs.size:=aaf (Z7 h1)
 show⟨s1.heap.objs.size,[s1.heap.objs.size],_,_,_,U,I2.kept (t':=s1.toks) fun b o e=>ZX _ e,qb (es:=es) (ep:=ep) (o:=o) (kvs:=kvs) dn h3,⟨.none,.none,by rw[rel.length];show Z6 _ rfl⟩,fun b hb=>?_,q o⟩
 have e:b=s1.heap.objs.size:=by simpa using hb
 subst e
 show I1.jP (Z0 _) (by rw[au dn.symm];show n0)
section
variable{a:Addr}{o:Obj}{kvs:List (Key×V)}{g:TG}
def sP {tb:TS}{D:Ends}{σ:St}{H:Hp}(Pv:Nat->St->Hp->Prop)(h0:Pv 0 σ H)(hl:∀i σ H,i<=kvs.length->Pv i σ H->H a=some (.frz o (.dK kvs)))
   (hs:∀i k y p σ H,kvs[i]?=some (k,y)->Pv i σ H->H p=none->g (.ref p) σ (upd H p (.tup [kV k,y])) fun σ2 H2=>tb {D with nx:=Pv (i+1),ct:=Pv (i+1),bk:=D.nx} σ2 H2) (hd:∀σ H,Pv kvs.length σ H->D.nx σ H) :
   ∃W:Nat->Nat->St->Hp->Prop,(∃m,W 0 m σ H)/\∀i m σ H,W i m σ H ->
     ((Ft a o kvs).stop i H/\D.nx σ H)\/((Ft a o kvs).go i H/\∃N:St->Hp->Prop,(∀σ' H',N σ' H'->∃m',m'<m/\W (i+1) m' σ' H')/\∀x H',(Ft a o kvs).yld i H x H'->g x σ H' fun σ2 H2=>tb {D with nx:=N,ct:=N,bk:=D.nx} σ2 H2):=by
 show⟨fun i m σ H=>m=kvs.length-i/\i<=kvs.length/\Pv i σ H,⟨kvs.length,by simp,aan _,h0⟩,?_⟩
 rintro i m σ H ⟨rfl,hi,p⟩
 have q1:=hl i σ H hi p
 by_cases cZ:i<kvs.length
 . show .inr ⟨⟨q1,cZ⟩,Pv (i+1),fun σ' H' p'=>⟨kvs.length-(i+1),by lia,U,cZ,p'⟩,fun x H' y=>?_⟩
   obtain⟨pp,k,y1,hn,rfl,hx,rfl⟩:=y
   show hs i k y1 pp σ H hx p hn
 . have e:i=kvs.length:=by lia
   subst e
   show .inl ⟨⟨q1,Z0 _⟩,hd σ H p⟩
def oQ {tifs:TT}{tm:TM}{σ0:St}{Z:Hp->Prop}{H:Hp}(Pv:Nat->Hp->Prop)(h0:Pv 0 H)(hl:∀i H,i<=kvs.length->Pv i H->H a=some (.frz o (.dK kvs)))
   (turn:∀i k y p H,kvs[i]?=some (k,y)->Pv i H->H p=none->g (.ref p) σ0 (upd H p (.tup [kV k,y])) fun σ2 H2=>tifs σ2 H2 fun b H3=>
     if b=true then tm σ2 H3 fun H4=>aX σ0 σ2/\∃m',m'<kvs.length-i/\(m'=kvs.length-(i+1)/\i+1<=kvs.length/\Pv (i+1) H4)else aX σ0 σ2/\∃m',m'<kvs.length-i/\(m'=kvs.length-(i+1)/\i+1<=kvs.length/\Pv (i+1) H3))
   (hZ:∀H,Pv kvs.length H->Z H):gg (Ft a o kvs) σ0 g tifs tm Z H:=by
 show eN kvs.length Pv h0 (fun i H hi p=>⟨hl i H (aaC hi) p,hi⟩) (fun H p=>⟨hl _ H (Z0 _) p,Z0 _⟩) (fun i H hi p x H' y=>?_) hZ
 obtain⟨pp,k,y1,hn,rfl,hx,rfl⟩:=y
 show turn i k y1 pp H hx p hn
end
def wF:List V->Hp->VK->Prop:=fun xs H Q=>∃p kvs,xs=[.ref p]/\H p=some (.dK kvs)/\∀l,H l=none->Q (.ref l) (upd H l (.lst (kvs.map fun kv=>kV kv.1)))
theorem rP:∀{xs:List V} {us:List Value},us.length=xs.length->(∀(j:Nat) (v:Value),us[j]?=some v->∃x,xs[j]?=some x/\RelV x v)->Vals xs us
 | [],[],_,_=>.nil
 | [],_::_,h,_=>by simp at h
 | _::_,[],h,_=>by simp at h
 | x::xs,u::us,h,k=>by
   obtain⟨y,hy,r⟩:=k 0 u rfl
   cases hy
   show .cons r (rP (by simpa using h) fun j v e=>k (j+1) v e)
def oM {X:Cx}(hc:X.calm=true):bY X (.type "list") wF:=by
 intro pins s σ H xs us Q I rv h
 obtain⟨d,kvs,rfl,hH,q⟩:=h
 cases rv with
 | cons r1 r2=>
 cases r2
 cases r1
 obtain⟨z,hd,vs,rel,o,es,ep,h1,h2,h3,h4⟩:=hG I.hok hH
 have dd:s.heap.DictAt (aI X.prog X.w) d vs ep:=⟨o,es,h1,h2,h3,h4⟩
 have hl:=rel.length
 show PySem.W.kdl_call (PySem.W.kdl_dict hd) (I.ok.hd hc) dd (by rw[← hl];show z) fun h' tk acc c hk hD jd=>?_
 have n0:H s.heap.objs.size=none:=I.hok.fresh (Z0 _)
 have vv:Vals (kvs.map fun kv=>kV kv.1) acc.toList:=rP (by rw[ZW,abz,jd.1,hl]) fun j v e=>by
   obtain⟨k,x,hx,hk⟩:=jd.2 j v (by rw[← acA];show e)
   obtain⟨⟨k',y⟩,hy,ek⟩:=jy rel hx
   have ek:k'=k:=ek.1
   subst ek
   show⟨kV k',by rw[aap,hy];rfl,AL hk⟩
 show⟨.ref s.heap.objs.size,_,I.laid (o:=.lst (kvs.map fun kv=>kV kv.1)) (t':=tk) hk (Z0 _) ⟨by rw[ZW];show z,acc.toList,c,vv,by rw[hD]⟩,U,q _ n0⟩
section
variable{X:Cx}{pos:Pos}
def Bq (te:TE)(g1 g2:TG):TS:=fun D σ H=>te σ H fun x H1=>g1 x σ H1 fun σ2 H2=>g2 x σ2 H2 D.nx
def zA {t1 t2 e:Expr}{te:TE}{g1 g2:TG}(he:PE X e te)(hg1:PG X t1 g1)(hg2:PG X t2 g2)(hs:abw [t1,t2] e pos.line X.env=pure false:=by rfl)(hw:abx [t1,t2] e X.env=pure none:=by rfl)
   (h1:(assignEach [t1,t2] X.env).map (·.2)=[assign t1 X.env,assign t2 X.env]:=by rfl):PS X (.Assign [t1,t2] e pos) (Bq te g1 g2):=by
 intro pins s σ H D I h
 show wpAny_Assign_stores (bu (he pins s σ H _ I h) fun v s1 h9=>?_) hs hw
 obtain⟨x,H1,I1,r1,q1⟩:=h9
 rw[h1]
 show wpAny_bind (wpAny_holding (bu (hg1 pins s1 σ H1 x v _ I1 r1 q1) fun z s2 h9=>?_))
 obtain⟨σ2,H2,I2,q2⟩:=h9
 show bu (hg2 pins s2 σ2 H2 x v _ I2 r1 q2) fun z s3 q=>q
end
end L2
namespace L3
open PySem PySem.Spec PyProof.Rows L2
def qv {X:Cx}(hc:X.calm=true:=by rfl):SC X (.type "list") wF:=⟨oM hc⟩
theorem items {X:Cx}{o:Expr}{ta:TE}{apos pos:Pos}{KK:ZV}(ho:SE X o ta)(hbase:aaX o "items" X.env (eval o X.env)=eval o X.env:=by rfl)(hline:(apos.endLine==pos.line)=true:=by rfl)(hK:X.K=KK:=by first|show bg|rfl) :
   SE X (.Call (.Attribute o "items" apos) [] [] pos) (Fd KK "dict" wD ta):=by
 subst hK
 show⟨v3 abE adt PySem.F.type_dict_items vC ho.h hbase hline⟩
def iI {X:Cx}{e:Expr}{te:TE}{elts:List Expr}{x1:Nat}{tp:Pos}(he:SE X e te):SI X (.Tuple elts x1 tp) e (HZ te):=⟨wg he.h⟩
def GH {X:Cx}{o e:Expr}{td ty:TE}{apos pos:Pos}(ho:SE X o td)(he:SE X e ty)(m:M1 X o "pop" apos e pos:=by show⟨rfl,rfl,rfl,rfl⟩):SE X (.Call (.Attribute o "pop" apos) [e] [] pos) (xt td ty):=⟨wc ho.h he.h m⟩
def Mp {X:Cx}{t1 t2 e:Expr}{te:TE}{g1 g2:TG}{pos:Pos}(he:SE X e te)(h1:SG X t1 g1)(h2:SG X t2 g2)(hs:abw [t1,t2] e pos.line X.env=pure false:=by rfl)(hw:abx [t1,t2] e X.env=pure none:=by rfl)
   (h3:(assignEach [t1,t2] X.env).map (·.2)=[assign t1 X.env,assign t2 X.env]:=by rfl):SS X (.Assign [t1,t2] e pos) (Bq te g1 g2):=⟨zA he.h h1.h h2.h hs hw h3⟩
end L3
namespace L2
open PySem PySem.Spec PyProof.Rows
def BD (K:ZV)(mg:Str->Option Value)(T:Addr)(n:Nat)(tb:XK->TS)(th:TS):TS:=fun D σ H=>tb (fun cls z H2=>∃C tl x,cls=.ref C/\Xc K mg x C tl/\(aab C::tl).contains (.ref T)=true/\th {nx:=D.nx,rt:=fun z z=>False} (Z4 n none) H2) D σ H
def zG {X:Cx}{tn:Str}{T:Addr}{Kx:List Value}{body dR:List Stmt}{hst0:Stmt}{tb:XK->TS}{th:TS}{np hp pos:Pos}(hst:X.stack=X.env::X.outer)(hex:X.ex=[])(hfr:X.env.frame=some X.env.locals)(hN:X.N.Nodup)
   (cT:Xc X.K X.mg tn T Kx) (hBE:Kx.contains (.type "BaseException")=true) (hg:Gl X tn)
   (hb:∀(W:Value->Shared->Prop) (pn:List (Addr×Obj)) (Ex:XK),Passes (mE X.prog X.w X.base) {X with xe:=W,pn:=pn} Ex->kZ {X with xe:=W,pn:=pn} body (tb Ex))
   (hh:∀ea:Addr,kZ {X with A:=X.A.mark (some (.ref ea)),calm:=false,xe:=fun y y=>False} (hst0::dR) th) (hdt:(tn==("__debug__":Str))=false) :
   PS X (.Try body [.ExceptHandler (some (.Name tn np)) none (hst0::dR) hp] [] [] pos) (BD X.K X.mg T X.N.length tb th):=by
 intro pins s σ H D I h
 let Hd:List ExceptHandler:=[.ExceptHandler (some (.Name tn np)) none (hst0::dR) hp]
 let W:Value->Shared->Prop:=fun e s1=>wpAny (model X.prog X.w) X.A (noteFrame e X.env) (fun y s2=>wpAny (model X.prog X.w) X.A (setFlight e none) (fun y s3=>wpAny (model X.prog X.w) X.A (handleBy e X.env Hd) (SP X pins D) X.xe s3) X.xe s2) X.xe s1
 have back:∀{σ1:St} {H1:Hp} {s1:Shared} {A1:List (Addr×Obj)},Inv {X with xe:=W,pn:=X.pn++pins} A1 σ1 H1 s1->Inv X pins σ1 H1 s1:=fun J=>J.back fun p hp=>aa1 _ hp
 have z7:∀p∈(X.pn++pins)++[],p∈X.pn++pins:=fun p hp=>by rw[aaV]at hp;show hp
 show wpAny_Try_except ?_
 show wpAny_mono (hb W (X.pn++pins) _ ?_ [] s σ H D (I.other z7) h) (fun f s1 hs=>?_) (fun e s1 he=>he)
 . intro A1 σ1 H1 s1 e s2 J cx
   obtain⟨ea,cls,a0,B,H2,rfl,OZ,uH,xB,CM,L5,xM,inB,uD,Ss,C,tl,x,rfl,xc,hup,q⟩:=cx
   have J0:=back J
   have Of:({X with xe:=W,pn:=X.pn++pins}:Cx).stack=X.env::X.outer:=hst
   rw[Of]at xB xM inB
   have Lc:=xM.2.2.1
   have at_:∀h3:Heap,B.StaysIn h3->s2.heap.UpToSlots h3->Inv X pins σ1 H2 {s2 with heap:=h3}:=fun h3 s3 up=>by
     show J0.An (s':={s2 with heap:=h3}) (ch:=[]) OZ ?_ (gT CM uD xM.1 s3) uH (fun b z=>nomatch z)
     rw[hst]
     show xC xB xM.1 s3 inB (xb Lc up)
   change wpAny (model X.prog X.w) X.A (noteFrame (.ref ea) X.env) _ _ _
   have Vl:X.A.frames=some (X.env::X.outer):=by rw[← hst];show I.ok.frames
   show wpAny_looks_onW Vl hfr xM fun h4 HH Yh=>?_
   show wpAny_landsW HH fun h5 Cj Yi=>?_
   have Kz:=Yh.trans Yi
   have I5:=at_ h5 Cj.1 Kz
   show wpAny_handleBy_cons (codeAny_handlers_test (iH (I5.mark (e:=some (.ref ea))) hg cT.m ?_ hdt)) (by intro z;cases z)
   obtain⟨N1,a1,a2,a3,a4,a5,a6,a7,a8,a9,b0,b1,b2,b3,b5,m1,hC,_,_,_⟩:=xc.obj I5.jk
   obtain⟨N2,c1,c2,c3,c4,c5,c6,c7,c8,c9,d0,d1,d2,d3,d5,m2,hT,_,_,_⟩:=cT.obj I5.jk
   obtain⟨ob,Wm,N8⟩:=Cj.there
   show pf hC hT Wm N8 hup hBE (codeAny_handlers_suite ?_)
   show lands_againW Cj fun h6 MS Yj=>?_
   have I6:=at_ h6 MS.1 (Kz.trans Yj)
   have hlenσ:σ1.length=X.N.length:=J0.len
   have Uo:=I6.weak (σ':=Z4 X.N.length none) (by rw[aa9,hlenσ]) (fun i v e=>by
     rw[adW]at e
     split at e<;>cases e)
   show wpAny_mono (hh ea pins _ _ _ _ (Uo.mark (e:=some (.ref ea))) q) (fun f s8 hs=>?_) (fun y y z=>z.elim)
   cases f with
   | next=>
     obtain⟨σ8,H8,I8,z8⟩:=hs
     show⟨σ8,H8,I6.unmark I8,z8⟩
   | brk=>obtain⟨_,_,_,z⟩:=hs;show z.elim
   | cont=>obtain⟨_,_,_,z⟩:=hs;show z.elim
   | ret u=>obtain⟨_,_,_,_,_,z⟩:=hs;show z.elim
 . cases f with
   | next=>
     obtain⟨σ',H',J,z⟩:=hs
     show acS ⟨σ',H',back J,z⟩
   | brk=>obtain⟨σ',H',J,z⟩:=hs;show⟨σ',H',back J,z⟩
   | cont=>obtain⟨σ',H',J,z⟩:=hs;show⟨σ',H',back J,z⟩
   | ret u=>obtain⟨v,σ',H',J,r,z⟩:=hs;show⟨v,σ',H',back J,r,z⟩
end L2
namespace L3
open PySem L2
section
variable{X:Cx}{pos:Pos}
def PR {tn:Str}{T:Addr}{Kx:List Value}{body dR:List Stmt}{hst0:Stmt}{tbb:XK->TS}{th:TS}{np hp:Pos}{KK:ZV}{mg:Str->Option Value}{NN:Nat}(hN:X.N.Nodup)(cT:Xc X.K X.mg tn T Kx)(hBE:Kx.contains (.type "BaseException")=true)(hg:Gl X tn)
   (hb:∀(W:Value->Shared->Prop) (pn:List (Addr×Obj)) (Ex:XK),Passes (mE X.prog X.w X.base) {X with xe:=W,pn:=pn} Ex->SL {X with xe:=W,pn:=pn} body (tbb Ex))
   (hh:∀ea:Addr,SL {X with A:=X.A.mark (some (.ref ea)),calm:=false,xe:=fun z z=>False} (hst0::dR) th)
   (hst:X.stack=X.env::X.outer:=by rfl) (hex:X.ex=[]:=by rfl) (hfr:X.env.frame=some X.env.locals:=by rfl) (hK:X.K=KK:=by rfl) (hm:X.mg=mg:=by rfl) (hNN:X.N.length=NN:=by rfl)
   (hdt:(tn==("__debug__":Str))=false:=by left) :
   SS X (.Try body [.ExceptHandler (some (.Name tn np)) none (hst0::dR) hp] [] [] pos) (BD KK mg T NN tbb th):=by
 subst hK hm hNN
 show⟨zG hst hex hfr hN cT hBE hg (fun W pn Ex lH=>(hb W pn Ex lH).h) (fun ea=>(hh ea).h) hdt⟩
end
end L3
open L3 renaming v->Y,k->L,n->M,int->aef,cons->aeg,ix->aeh,aL->aei,one->aej,own->aek,str->ael,ret->aem,set->aen,cmp->aeo,gn->aep,ifs->aeq,nil->aer,op->aes,tup->aet,lst->aeu,cg->aev,bp->aew,aS->aex,dS->aey,bl->aez,iL->aeA,hJ->aeB,cI->aeC,bK->aeD,jh->aeE,tw->aeF,dg->aeG,bR->aeH,jU->aeI,dA->aeJ,dy->aeK,br->aeL,asg->aeM,cE->aeN,lc->aeO,pH->aeP,ex->aeQ,nt->aeR,dW->aeS,eF->aeT,jT->aeU,fT->aeV,lU->aeW,lV->aeX,lW->aeY,fU->aeZ,ic->ae0,mI->ae1,mH->ae2,Bi->ae3,gX->ae4,iR->ae5,ft->ae6,pR->ae7,i6->ae8,oJ->ae9,neg->afd,append->afj,extend->afs,update->afy
set_option maxHeartbeats 1000000
namespace TW
open PySem L2
section
variable{P:Program}{w:World}{K:ZV}{mg:Str->Option Value}{base:Heap}
def eD {us:List Value}{n:Nat}(h:us.length=n+1):∃a t,us=a::t/\t.length=n:=by
 cases us with
 | nil=>cases h
 | cons a t=>show⟨a,t,rfl,Nat.succ.inj h⟩
def B7 {x qual:Str}{st:Stmt}{f:Addr}{fd:aaa}{p0:Str}(F:bQ K x qual st f fd)(h:∀(kV doc pm:Value) (an:Option Addr) (cdv ct u0:Value),adf (aaZ x qual (cu st) (bP st) (aj st) .none kV doc pm an cdv ct) ⟨[u0],[]⟩=pure (([p0]:List Str).zip [u0])):Binds K fd [p0] []:=F.binds fun kV doc pm an cdv ct us hl=>by
 obtain⟨u0,Mb,rfl,h1⟩:=eD hl
 cases List.length_eq_zero_iff.mp h1
 show h kV doc pm an cdv ct u0
def oK {x qual:Str}{st:Stmt}{f:Addr}{fd:aaa}{p0 p1:Str}(F:bQ K x qual st f fd)(h:∀(kV doc pm:Value) (an:Option Addr) (cdv ct u0 u1:Value),adf (aaZ x qual (cu st) (bP st) (aj st) .none kV doc pm an cdv ct) ⟨[u0,u1],[]⟩=pure (([p0,p1]:List Str).zip [u0,u1])):Binds K fd [p0,p1] []:=F.binds fun kV doc pm an cdv ct us hl=>by
 obtain⟨u0,Mb,rfl,h1⟩:=eD hl
 obtain⟨u1,PZ,rfl,h2⟩:=eD h1
 cases List.length_eq_zero_iff.mp h2
 show h kV doc pm an cdv ct u0 u1
def B8 {x qual:Str}{st:Stmt}{f:Addr}{fd:aaa}{p0 p1 p2:Str}(F:bQ K x qual st f fd)(h:∀(kV doc pm:Value) (an:Option Addr) (cdv ct u0 u1 u2:Value),adf (aaZ x qual (cu st) (bP st) (aj st) .none kV doc pm an cdv ct) ⟨[u0,u1,u2],[]⟩=pure (([p0,p1,p2]:List Str).zip [u0,u1,u2])):Binds K fd [p0,p1,p2] []:=F.binds fun kV doc pm an cdv ct us hl=>by
 obtain⟨u0,Mb,rfl,h1⟩:=eD hl
 obtain⟨u1,PZ,rfl,h2⟩:=eD h1
 obtain⟨u2,TY,rfl,h3⟩:=eD h2
 cases List.length_eq_zero_iff.mp h3
 show h kV doc pm an cdv ct u0 u1 u2
def Mu {x qual:Str}{st:Stmt}{f:Addr}{fd:aaa}{p0 p1 p2 p3:Str}(F:bQ K x qual st f fd)(h:∀(kV doc pm:Value) (an:Option Addr) (cdv ct u0 u1 u2 u3:Value),adf (aaZ x qual (cu st) (bP st) (aj st) .none kV doc pm an cdv ct) ⟨[u0,u1,u2,u3],[]⟩=pure (([p0,p1,p2,p3]:List Str).zip [u0,u1,u2,u3])):Binds K fd [p0,p1,p2,p3] []:=F.binds fun kV doc pm an cdv ct us hl=>by
 obtain⟨u0,Mb,rfl,h1⟩:=eD hl
 obtain⟨u1,PZ,rfl,h2⟩:=eD h1
 obtain⟨u2,TY,rfl,h3⟩:=eD h2
 obtain⟨u3,Yk,rfl,h4⟩:=eD h3
 cases List.length_eq_zero_iff.mp h4
 show h kV doc pm an cdv ct u0 u1 u2 u3
def top (i:Nat):Stmt:=PySem.Challenge.pw_twinwalk_k65_puts_exchanged.main.body.getD i (.Pass ⟨0,0,0,0⟩)
abbrev Bd:Stmt:=top 29
abbrev wU:Stmt:=top 30
def TK.lst {H:Hp}{a:Addr}{xs:List V}{o:HO}(h:H a=some (.lst xs)):TK H (upd H a o):=fun b ys e=>by rw[au (bX e h (fun z=>nomatch z))];show e
theorem Paired.get {α β:Type}{F:α->β->Prop}:∀{l₁:List α} {l₂:List β} {i:Nat} {x:α},Paired F l₁ l₂->l₁[i]?=some x->∃y,l₂[i]?=some y/\F x y
 | _,_,_,_,.nil,e=>by simp at e
 | _,_,0,_,.cons r _,e=>by simp at e;subst e;show⟨_,rfl,r⟩
 | _,_,i+1,x,.cons _ t,e=>by
   obtain⟨u,h1,h2⟩:=Paired.get (i:=i) (x:=x) t (by simpa using e)
   show⟨u,by simpa using h1,h2⟩
def bI {σ:L2.St}{H:Hp}{A B:Hp->Prop}(h:A H):Fe σ H (fun b H3=>if b=true then A H3 else B H3):=cJ (A:=A H) (B:=B H) h
def ai {i:Nat}{v:V}{σ:L2.St}{H:Hp}{Q:L2.St->Hp->Prop}(h:Q (σ.set i (some v)) H):dq i v σ H Q:=h
def aa {A B C:Hp}(a:ag A B)(b:ag B C):ag A C:=fun p o h=>b p o (a p o h)
def same_refl (A:Hp):ag A A:=fun z z h=>h
def cm {H:Hp}{p:Addr}(h:H p=none)(o:HO):∃H1,ag H H1/\H1 p=some o/\upd H p o=H1:=⟨_,af h o,ae,rfl⟩
def Sb {H:Hp}{p q:Addr}{o:HO}(h:H p=none)(k:upd H p o q=none)(o2:HO):∃H1,ag H H1/\H1 p=some o/\H1 q=some o2/\upd (upd H p o) q o2=H1:=⟨_,fun b u e=>af k o2 b u (af h o b u e),by rw[au (ar ae k)];show ae,ae,rfl⟩
abbrev Yx (s:Stmt)(x:Str):Prop:=(aj s).names.lookup x=some .globalImplicit
def iw (s:Stmt){sc:Scope}(a:sc.kind=.function:=by rfl)(b:∀y∈sc.names,y.2≠.cell:=by right)(c:∀x∈sc.names,x.2=.local->sc.names.lookup x.1=some .local:=by right)(d:∀x∈sc.names,x.2=.free->(aj s).names.lookup x.1=some .cell\/(aj s).names.lookup x.1=some .free:=by right):bA sc (aj s):=⟨a,b,c,d⟩
def d9 (l:List Str)(h:l.Nodup:=by right):l.Nodup:=h
def aT {α:Type}{l:List α}{i:Nat}{a:α}(h:l[i]?=some a):i<l.length:=(List.getElem?_eq_some_iff.mp h).1
def bT {α:Type}{a b:α}{l:List α}(h:a∈b::l):a=b\/a∈l:=List.mem_cons.mp h
def aY {α:Type}{a b:α}{l:List α}(h:a=b\/a∈l):a∈b::l:=List.mem_cons.mpr h
def bU {α:Type}{a b:α}(h:a∈[b]):a=b:=List.mem_singleton.mp h
def bF {α β:Type}{f:α->β}{b:β}{l:List α}(h:b∈l.map f):∃a,a∈l/\f a=b:=List.mem_map.mp h
def fS {α β:Type}{f:α->β}{b:β}{l:List α}(h:∃a,a∈l/\f a=b):b∈l.map f:=List.mem_map.mpr h
def dk {α:Type}{a:α}{l m:List α}(h:a∈l++m):a∈l\/a∈m:=List.mem_append.mp h
def iz {α:Type}{a:α}{l m:List α}(h:a∈l\/a∈m):a∈l++m:=List.mem_append.mpr h
def ah {H H':Hp}{a:Addr}(s:ag H H')(h:H' a=none):H a=none:=by
 match e:H a with
 | none=>rfl
 | some o=>rw[s _ _ e]at h;cases h
def av {H H':Hp}{a:Addr}{o:HO}(s:ag H H')(h:H a=none):ag H (upd H' a o):=fun b u e=>by rw[au (ar e h)];show s b u e
def cF {H H':Hp}{a:Addr}{o:HO}(s:ag H H')(h:H' a=none):ag H (upd H' a o):=av s (ah s h)
def fJ {α:Type}(f:α->V)(xs:List α){r:Int}(h0:0<=r)(h1:r<(xs.length:Int)):∃x,xs[r.toNat]?=some x/\x∈xs/\gY (xs.map f) r=some (f x):=by
 have hr:r.toNat<xs.length:=by lia
 have e:r=((r.toNat:Nat):Int):=by lia
 have q:gY (xs.map f) ((r.toNat:Nat):Int)=some (f xs[r.toNat]):=aZ (by rw[aap,Z3 hr];rfl)
 rw[← e]at q
 show⟨xs[r.toNat],Z3 hr,abT hr,q⟩
def Gx {xs:List V}{r:Int}(h0:0<=r)(h1:r<(xs.length:Int)):∃x,xs[r.toNat]?=some x/\gY xs r=some x:=by
 have hr:r.toNat<xs.length:=by lia
 have e:r=((r.toNat:Nat):Int):=by lia
 have q:gY xs ((r.toNat:Nat):Int)=some xs[r.toNat]:=aZ (Z3 hr)
 rw[← e]at q
 show⟨xs[r.toNat],Z3 hr,q⟩
def ak {u1 u2:TS}{D:L2.Ends}{σ:L2.St}{H:Hp}(h:∀R:L2.St->Hp->Prop,(∀σ H,u2 D σ H->R σ H)->u1 {D with nx:=R} σ H):p9 u1 u2 D σ H:=h _ fun y y z=>z
def uN {u1 u2 u3:TS}{D:L2.Ends}{σ:L2.St}{H:Hp}(h:∀R:L2.St->Hp->Prop,(∀σ H,u3 D σ H->R σ H)->p9 u1 (p9 u2 fun y=>R) D σ H):p9 u1 (p9 u2 u3) D σ H:=h (u3 D) fun y y z=>z
def cM {X:Cx}{ss:List Stmt}{G:TS->Prop}(h:∃t,L3.SL X ss t/\G t):∃t,kZ X ss t/\G t:=by obtain⟨t,a,b⟩:=h;show⟨t,a.h,b⟩
def aq {F:L2.St->Hp->Prop}{σ:L2.St}{H:Hp}(σ':L2.St)(e:σ=σ')(h:F σ' H):F σ H:=by subst e;show h
def IB {F:L2.St->Hp->Prop}{σ:L2.St}{H:Hp}(H':Hp)(e:H=H')(h:F σ H'):F σ H:=by subst e;show h
def js {k n:Int}(h:0<n):0<=k%n:=adB _ (by lia)
def jr {k n:Int}(h:0<n):k%n<n:=ac1 _ h
def oV {a b:Int}(c:decide (V.int a=V.int b)=true):a=b:=by have:=iN c;injection this
def C6 {a b:Int}(c:¬ decide (V.int a=V.int b)=true):a≠b:=fun z=>c (dE (by rw[z]))
def qm {P:V->Prop}{xs:List V}{r:Int}(h0:0<=r)(h1:r<(xs.length:Int))(h:∀x∈xs,P x):∃x,gY xs r=some x/\P x:=let⟨x,h2,h3⟩:=Gx h0 h1;⟨x,h3,h x (ZZ h2)⟩
inductive Np where
 | put (x:Str) (s:E) (n:Int)|say (s:E) (n:Int)|test (c:E) (n o:Int)|pick (x:Str) (n:Int)|fin
def aG (H:Hp):V->Np->Prop
 | v,.put x s n=>∃u,Tp H v [.str "put",.str x,u,.int n]/\cK H u s
 | v,.say s n=>∃u,Tp H v [.str "say",u,.int n]/\cK H u s
 | v,.test c n o=>∃u,Tp H v [.str "test",u,.int n,.int o]/\cK H u c
 | v,.pick x n=>Tp H v [.str "pick",.str x,.int n]
 | v,.fin=>Tp H v [.str "end"]
theorem aG.keep {H H':Hp}(k:TK H H'):∀{e:Np} {v:V},aG H v e->aG H' v e
 | .put _ _ _,_,⟨u,h,a⟩=>⟨u,h.keep k,a.keep k⟩
 | .say _ _,_,⟨u,h,a⟩=>⟨u,h.keep k,a.keep k⟩
 | .test _ _ _,_,⟨u,h,a⟩=>⟨u,h.keep k,a.keep k⟩
 | .pick _ _,_,h=>Tp.keep k h
 | .fin,_,h=>Tp.keep k h
def bZ (H:Hp)(r:Addr):Prop:=∃a b:Int,H r=some (.lst [.int a,.int b])/\True
structure Rl (r:Addr)(H H':Hp):Prop where
 rl:bZ H' r
 k:∀b o,b≠r->H b=some o->H' b=some o
section
variable{r p:Addr}{H H1 H2:Hp}{o:HO}
def bZ.same (h:bZ H r)(s:ag H H1):bZ H1 r:=by obtain⟨a,b,h1,h2⟩:=h;show⟨a,b,s _ _ h1,h2⟩
def bZ.ne (h:bZ H r)(hp:H p=none):p≠r:=fun e=>by
 obtain⟨a,b,h1,_⟩:=h
 rw[e,h1]at hp
 cases hp
def Rl.refl (h:bZ H r):Rl r H H:=⟨h,fun y y y z=>z⟩
def Rl.trans (a:Rl r H H1)(b:Rl r H1 H2):Rl r H H2:=⟨b.rl,fun c o n z=>b.k c o n (a.k c o n z)⟩
def Rl.of (h:bZ H r)(s:ag H H1):Rl r H H1:=⟨h.same s,fun b o y z=>s b o z⟩
def Rl.new (h:bZ H r)(hp:H p=none):Rl r H (upd H p o):=Rl.of h (af hp o)
def Rl.tk (h:bZ H r)(l:Rl r H H1):TK H H1:=fun b xs z=>l.k b _ (fun e=>by
 obtain⟨a,c,h1,_⟩:=h
 rw[e,h1]at z
 cases z) z
def Rl.put (l:Rl r H H1)(n:p≠r)(hp:H p=none):Rl r H (upd H1 p o):=⟨let⟨a,b,h1,h2⟩:=l.rl;⟨a,b,by rw[au n.symm];show h1,h2⟩,fun b ob nb z=>by rw[au (ar z hp)];show l.k b ob nb z⟩
def Rl.no (l:Rl r H H1)(n:p≠r)(h:H1 p=none):H p=none:=by
 match e:H p with
 | none=>rfl
 | some o=>rw[l.k _ _ n e]at h;cases h
end
def aA {c:Bool}{A B:Prop}(h:c=false)(b:B):if c=true then A else B:=by rw[h];show b
def ot {a:V}{r:List V}:gY (a::r) 0=some a:=aZ (xs:=a::r) (j:=0) rfl
def b7:Sp:=fun vs H Q z=>∃(r:Addr) (m:Int),vs=[.ref r,.int m]/\bZ H r/\0<m/\m<2^110/\∀(k:Int) (H':Hp),0<=k->k<m->Rl r H H'->Q (.int k) H'
def mh:az ["pot","many","cell","stir"] ["pot","many"] (aj Bd):=cU
def aH {K:ZV}{H:Hp}{p:Addr}{xs:List V}{k:Int}{z:V}{R:V->Prop}(hq:H p=some (.tup xs))(he:gY xs k=some z)(q:R z):∃p' Fq j z,V.ref p=.ref p'/\V.int k=.int j/\aN K H p' Fq/\gY Fq j=some z/\R z:=⟨p,xs,k,z,rfl,rfl,aN.of hq,he,q⟩
def dF {K:ZV}{H:Hp}{p:Addr}{xs:List V}{k:Int}{z:V}{R:V->Prop}(hq:H p=some (.lst xs))(he:gY xs k=some z)(q:R z):∃p' Fq j z,V.ref p=.ref p'/\V.int k=.int j/\aE K H p' Fq/\gY Fq j=some z/\R z:=⟨p,xs,k,z,rfl,rfl,aE.of hq,he,q⟩
def kT {K:ZV}{H:Hp}{σ:L2.St}{Q:L2.St->Hp->Prop}{a:Addr}{x y:V}{i j:Nat}(h:H a=some (.tup [x,y]))(q:Q ((σ.set i (some x)).set j (some y)) H):ym K 2 (jc (dq i) (jc (dq j) yj)) (.ref a) σ H Q:=⟨a,_,rfl,aN.of h,rfl,_,_,rfl,_,_,rfl,rfl,q⟩
def TX {K:ZV}{H:Hp}{σ:L2.St}{Q:L2.St->Hp->Prop}{a:Addr}{x y z:V}{i j k:Nat}(h:H a=some (.tup [x,y,z]))(q:Q (((σ.set i (some x)).set j (some y)).set k (some z)) H):ym K 3 (jc (dq i) (jc (dq j) (jc (dq k) yj))) (.ref a) σ H Q:=⟨a,_,rfl,aN.of h,rfl,_,_,rfl,_,_,rfl,_,_,rfl,rfl,q⟩
def y4 {f:Addr}{fd:aaa}(F:bQ K "_law_next" "_law_next" Bd f fd):aK P w K mg base bJ 1 f fd ["pot","many"] b7:=by
 show F.df mh fun cdv A outer s H vs Q E hr h=>?_
 obtain⟨r,m,rfl,⟨a,b,CZ,_⟩,m0,m1,q⟩:=h
 show cM ⟨_,(aeg (aeM (aes aeN (aeh aey (Y 0) aef) aef) (L3.G9 (Y 0) aef))
   (aeg (aen 2 mh.nd (aeh aey (Y 0) aef))
   (aeg (aeq (aeo L3.Dx (Y 2) (aes L3.AW aef aef)) (aeg (aeM (aes L3.kE (Y 2) (Y 1)) (L3.G9 (Y 0) aef))
   (aej (aem (aes ae0 (Y 2) (Y 1))))) aer)
   (aeg (aen 3 mh.nd (aes ae0 (aes aeN (aes aeN (aes aeS (Y 2) aef) (aes aeS (aeh aey (Y 0) aef) aef)) aef) aef))
   (aeg (aen 3 mh.nd (aes ae0 (aes aeS (Y 3) (Y 3)) aef))
   (aej (aem (aes ae0 (aes L3.kE (aes ae0 (aes aeN (aes aeS (Y 3) aef) (aes aeS (aeh aey (Y 0) aef) aef)) aef) aef) (Y 1))))))))),?_⟩
 have fin:∀(k a' b':Int) (H1:Hp),(∀c o,c≠r->H c=some o->H1 c=some o)->H1 r=some (.lst [.int a',.int b'])->0<=k->k<m->Q (.int k) H1:=fun k a' b' H1 h1 h2 k0 k1=>q k _ k0 k1 ⟨⟨a',b',h2,aae⟩,h1⟩
 show ak fun Rk kR=>?_
 show⟨_,U,?_⟩
 show dF CZ U ?_
 show⟨_,_,U,U,_,U,r,_,1,1,U,U,CZ,U,?_⟩
 obtain⟨b1,eb⟩ : ∃b1,b1=b+1:=⟨_,rfl⟩
 show kR _ _ ?_
 show IB (upd H r (.lst [.int a,.int b1])) (by rw[eb];rfl) ?_
 have FQ:(upd H r (.lst [.int a,.int b1])) r=some (.lst [.int a,.int b1]):=ae
 have k1:∀c o,c≠r->H c=some o->(upd H r (.lst [.int a,.int b1])) c=some o:=fun c o n z=>by rw[au n];show z
 generalize upd H r (.lst [.int a,.int b1])=H1 at FQ k1 ⊢
 show ak fun Rk kR=>?_
 show⟨_,U,?_⟩
 show dF FQ U ?_
 show ai (kR _ _ ?_)
 show aq [some (.ref r),some (.int m),some (.int a),none] U ?_
 show ak fun Rk kR=>?_
 show⟨_,U,_,_,U,U,⟨by left,by left,by left⟩,_,_,U,U,_,U,bE (fun y=>?_) (fun y=>?_)⟩
 . show⟨_,U,_,U,_,_,U,U,⟨m0,Int.lt_trans m1 (by right)⟩,_,U,r,_,0,0,U,U,FQ,U,?_⟩
   show⟨_,U,_,U,_,_,U,U,m0,?_⟩
   show fin _ _ _ _ (fun c o n z=>by rw[au n];show k1 c o n z) ae (js m0) (jr m0)
 show kR _ _ (ak fun Rk kR=>?_)
 show⟨_,U,_,_,U,U,.inr ⟨by left,by left⟩,_,U,?_⟩
 show dF FQ U ?_
 show⟨_,_,U,U,.inr ⟨by left,by left⟩,_,_,U,U,_,_,U,U,_,_,U,U,(by change(0:Int)<2147483647;decide),?_⟩
 obtain⟨s0,es,s1,s2⟩ : ∃s0,s0=(a*69621+b1*7919+13)%2147483647/\0<=s0/\s0<2147483647:=⟨_,rfl,js (by left),jr (by left)⟩
 show ai (kR _ _ ?_)
 show aq [some (.ref r),some (.int m),some (.int a),some (.int s0)] (by rw[es];rfl) ?_
 show ak fun Rk kR=>?_
 show⟨_,U,_,U,_,_,U,U,.inl ⟨by lia,by lia⟩,_,_,U,U,(by change(0:Int)<2147483629;decide),?_⟩
 show ai (kR _ _ ?_)
 show⟨_,U,_,_,U,U,.inr ⟨by left,by left⟩,_,U,?_⟩
 show dF FQ U ?_
 show⟨_,_,U,U,.inr ⟨by left,by left⟩,_,_,U,U,_,_,U,U,(by change(0:Int)<2147483587;decide),_,_,U,U,⟨by left,by right⟩,_,U,_,_,U,U,m0,?_⟩
 show fin _ _ _ _ k1 FQ (js m0) (jr m0)
def pZ (K:ZV):Sp:=fun vs H Q z=>∃(a:Addr) (sc:List Int),vs=[.ref a]/\aE K H a (sc.map V.int)/\sc.length<=63/\∀(L8:Addr) (ps:List Addr) (H':Hp),ag H H'->H L8=none->H' L8=some (.lst (ps.map V.ref))->1<=ps.length->ps.length<=63->ps.Nodup->(∀p∈ps,H p=none/\p≠L8/\bZ H' p)->Q (.ref L8) H'
def pA {α:Type}{l:List α}{x:α}(h:l.Nodup)(n:x∉l):(l++[x]).Nodup:=by
 rw[aci]
 show⟨h,by simp,fun a ha b hb e=>by rw[bU hb]at e;show n (e▸ha)⟩
def E3:az ["script"] ["script"] (aj wU):=cU
def bG {α:Type}{f:α->V}{l:List α}{i:Nat}{v:V}(h:(l.map f)[i]?=some v):∃x,l[i]?=some x/\v=f x:=by
 rw[aap]at h
 obtain⟨x,h1,h2⟩:=Option.map_eq_some_iff.mp h
 show⟨x,h1,h2.symm⟩
def y7 {f:Addr}{fd:aaa}(F:bQ K "_law_pots" "_law_pots" wU f fd)(m_len:mg "len"=none):aK P w K mg base bJ 1 f fd ["script"] (pZ K):=by
 show F.df E3 fun cdv A outer s H vs Q E hr h=>?_
 obtain⟨a,sc,rfl,hs,VN,q⟩:=h
 show cM ⟨_,(aeg (aeq (aeo aew (aex aeD U m_len aah (L (Y 0) M)) aef) (aej (aem (aeu (L (aeu (L aef (L aef M))) M)))) aer)
   (aej (aem (aeO [none] ["cell"] (iw wU) U (aeA (L3.xa (Y 0) aef)) (fun y y y y y=>⟨(aep 0 (d9 ["cell"])),aeE,(aeu (L (Y 0) (L aef M)))⟩))))),?_⟩
 show ak fun Rk kR=>?_
 show⟨_,U,a,_,U,.inl hs,U,_,U,bE (fun y=>?_) (fun cc=>?_)⟩
 . show⟨agm,fun p hp=>?_⟩
   obtain⟨H1,sp,gp,zz⟩:=cm hp (.lst [.int 0,.int 0])
   rw[zz];clear zz
   show⟨agl,fun L8 hL=>?_⟩
   show q L8 [p] _ (cF sp hL) (ah sp hL) ae (by change 1<=1;decide) (by change 1<=63;decide) (by simp) fun p' jR=>?_
   rw[bU jR]
   show⟨hp,ar gp hL,0,0,(af hL _) _ _ gp,aae⟩
 have pos:0<sc.length:=by
   show Nat.pos_of_ne_zero fun z=>cc ?_
   rw[ZW,z]
   rfl
 show kR _ _ ?_
 show⟨_,U,_,U,a,_,U,hs,fun l hl=>?_⟩
 have ec:dj (sc.map V.int) none (some 63)=sc.map V.int:=by
   unfold dj
   have e0:HT.bz (sc.map V.int).length 0 none=0:=rfl
   have e1:HT.bz (sc.map V.int).length (sc.map V.int).length (some ((63:Nat):Int))=min 63 (sc.map V.int).length:=HT.eR _ _ _
   rw[e0,show(63:Int)=((63:Nat):Int)from rfl,e1,abv,abR,ZW,Nat.min_eq_right VN]
   show aaP (by rw[ZW];show Z0 _)
 rw[ec]
 obtain⟨H1,sl,gl,zz⟩:=cm hl (.lst (sc.map V.int))
 rw[zz];clear zz
 show⟨l,U,⟨_,aE.of gl⟩,fun D hD=>?_⟩
 have nD:=ah sl hD
 show bo (xs:=sc.map V.int) (fun(i:Nat) Hx=>ag H1 Hx/\∃ps:List Addr,Hx D=some (.lst (ps.map V.ref))/\ps.length=i/\ps.Nodup/\∀p∈ps,H1 p=none/\p≠D/\bZ Hx p) ⟨af hD _,[],ae,U,.nil,fun y z=>nomatch z⟩ (fun i Hx y z=>aE.of (z.1 _ _ gl)) (fun i x0 Hx hx z=>?_) (fun Hx z=>?_)
 . obtain⟨sx,ps,gD,pl,nd,al⟩:=z
   have cX:=(aT hx)
   obtain⟨c,_,rfl⟩:=bG hx
   show ai ?_
   show bI (A:=fun H5=>cp _ D _ H5 _) ?_
   show⟨_,U,agm,fun p hp=>?_⟩
   have sp:=af hp (.lst [.int c,.int 0])
   have gp:(upd Hx p (.lst [.int c,.int 0])) p=some (.lst [.int c,.int 0]):=ae
   generalize upd Hx p (.lst [.int c,.int 0])=Hy at sp gp ⊢
   have pD:p≠D:=fun z=>by rw[z,gD]at hp;cases hp
   have Le:=sp _ _ gD
   show⟨_,Le,aC (by rw[ZW]at cX ⊢;lia),aD (Pv:=fun(i:Nat) Hx=>ag H1 Hx/\∃ps:List Addr,Hx D=some (.lst (ps.map V.ref))/\ps.length=i/\ps.Nodup/\∀p∈ps,H1 p=none/\p≠D/\bZ Hx p) (by repeat' constructor) cX ⟨av (aa sx sp) hD,ps++[p],by rw[ae,Z9];rfl,by rw[Z1,pl];rfl,pA nd (fun z=>?_),fun p' jR=>?_⟩⟩
   . obtain⟨_,_,a1,b1,h1,_⟩:=al p z
     rw[h1]at hp
     cases hp
   . rcases dk jR with z|z
     . obtain⟨u1,u2,a1,b1,h1,_⟩:=al p' z
       show⟨u1,u2,a1,b1,by rw[au u2];show sp _ _ h1,aae⟩
     . rw[bU z]
       show⟨ah sx hp,pD,c,0,by rw[au pD];show gp,aae⟩
 obtain⟨sx,ps,gD,pl,nd,al⟩:=z
 rw[ZW]at pl
 show q D ps Hx (aa sl sx) nD gD (by lia) (by lia) nd fun p hp=>⟨ah sl (al p hp).1,(al p hp).2⟩
abbrev wW:Stmt:=top 31
theorem sub_len {α:Type}[DecidableEq α]:∀{xs ys:List α},xs.Nodup->(∀x∈xs,x∈ys)->xs.length<=ys.length
 | [],_,_,_=>aan _
 | x::r,ys,nd,h=>by
   rw[ab2]at nd
   have hx:x∈ys:=h x (aY (.inl rfl))
   have ih:=sub_len (xs:=r) (ys:=ys.erase x) nd.2 fun y hy=>(List.mem_erase_of_ne (a:=y) (b:=x) (fun e:y=x=>nd.1 (e▸hy))).mpr (h y (aY (.inr hy)))
   have hl:=List.length_erase_of_mem hx
   have CY:0<ys.length:=ad0 hx
   rw[aau]
   lia
def uO (xs:List V){k:Nat}(h:k<=xs.length):dj xs none (some (k:Int))=xs.take k:=by
 unfold dj
 have e0:HT.bz xs.length 0 none=0:=rfl
 have e1:HT.bz xs.length xs.length (some (k:Int))=k:=by rw[HT.eR];lia
 rw[e0,e1,abv,abR]
theorem Paired.snoc {α β:Type}{R:α->β->Prop}:∀{a:List α} {b:List β} {x:α} {y:β},Paired R a b->R x y->Paired R (a++[x]) (b++[y])
 | _,_,_,_,.nil,h=>.cons h .nil
 | _,_,_,_,.cons r t,h=>.cons r (Paired.snoc t h)
structure Uq (ns:List Str):Prop where
 nd:ns.Nodup
 l4:ns.length=4
 l8:∀x∈ns,x.length<=8
 n0:∀x∈ns,x≠""
def bH:ao->Int
 | []=>1
 | b::l=>b.2*bH l
theorem dM:∀(l:ao) (b:Str×Int),bH (l++[b])=bH l*b.2
 | [],b=>by change b.2*1=1*b.2;rw[adA,acs]
 | a::l,b=>by change a.2*bH (l++[b])=a.2*bH l*b.2;rw[dM l b,abZ]
structure BM (most:Int)(bs:ao):Prop where
 nd:(bs.map (·.1)).Nodup
 l4:bs.length<=4
 l8:∀b∈bs,b.1.length<=8
 sz:∀b∈bs,1<=b.2/\b.2<=16
 pr:bH bs<=most
 n0:("":Str)∉bs.map (·.1)
theorem eI:∀{bs:ao},(∀b∈bs,1<=b.2)->1<=bH bs
 | [],_=>acu 1
 | b::l,h=>by
   have h1:=h b abm
   have h2:=eI (bs:=l) fun x hx=>h x (aaK _ hx)
   have:=acO h1 h2 (by left) (by lia)
   change 1<=b.2*bH l
   lia
def rJ:Sp:=fun vs H Q z=>∃(r:Addr) (most wide:Int),vs=[.ref r,.int most,.int wide]/\bZ H r/\1<=most/\most<=65536/\1<=wide/\wide<=16/\∀(B:Addr) (vb:List V) (bs:ao) (H':Hp),Rl r H H'->B≠r->H B=none->H' B=some (.lst vb)->Paired (cB H') vb bs->BM most bs->Q (.ref B) H'
def du:az ["pot","most","wide","names","found","left","name","size"] ["pot","most","wide"] (aj wW):=cU
def vV {f:Addr}{fd:aaa}(F:bQ K "_law_some_boxes" "_law_some_boxes" wW f fd)(m_min:mg "min"=none)(NX:aO P w K mg base "_law_next" ["pot","many"] 1 b7):aK P w K mg base bJ 2 f fd ["pot","most","wide"] rJ:=by
 show F.df du fun cdv A outer s H vs Q E hr h=>?_
 obtain⟨r,most,wide,rfl,rl,Iq,OP,w1,w9,q⟩:=h
 show cM ⟨_,(aeg (aen 3 du.nd (aeu (L (aeu (L ael (L ael (L ael (L ael M))))) (L (aeu (L ael (L ael (L ael (L ael M))))) (L (aeu (L ael (L ael (L ael (L ael M))))) M)))))
   (aeg (aen 3 du.nd (aeh aey (aes aeV (Y 3) (aeu (L (aeu (L ael (L ael (L ael (L ael M))))) (L (aeu (L ael (L ael (L ael (L ael M))))) M)))) (aek NX hr U (L (Y 0) (L aef M)))))
   (aeg (aen 4 du.nd (aeu M))
   (aeg (aen 5 du.nd (Y 1))
   (aeg (aeJ (aeA (L3.xa (Y 3) (aek NX hr U (L (Y 0) (L aef M))))) (aep 6 du.nd) (aeg (aen 7 du.nd (aes aeN aef (aek NX hr U (L (Y 0) (L (aex L3.Am U m_min (by right) (L (Y 5) (L (Y 2) M))) M)))))
   (aeg (aen 5 du.nd (aes L3.kE (Y 5) (Y 7)))
   (aej (aeQ (afj (Y 4) (L (aet (L (Y 6) (L (Y 7) M))) M)))))))
   (aej (aem (Y 4)))))))),?_⟩
 show uN fun Rk kR=>?_
 show⟨ago,fun m0 N4=>?_⟩
 obtain⟨YE,xT,VE,zz⟩:=cm N4 (.lst [.str "a",.str "b",.str "c",.str "d"])
 rw[zz];clear zz
 show⟨ago,fun m1 hm1=>?_⟩
 obtain⟨Mg,sm1,Li,zz⟩:=cm hm1 (.lst [.str "x",.str "xx",.str "y",.str "abcdefgh"])
 rw[zz];clear zz
 show⟨ago,fun m2 hm2=>?_⟩
 obtain⟨Mh,sm2,Lj,zz⟩:=cm hm2 (.lst [.str "q",.str "put",.str "end",.str "test"])
 rw[zz];clear zz
 show⟨agn,fun lA Wb=>?_⟩
 obtain⟨YF,slA,VB,zz⟩:=cm Wb (.lst [.ref m0,.ref m1,.ref m2])
 rw[zz];clear zz
 show ai ?_
 show⟨_,U,ago,fun m3 HN=>?_⟩
 obtain⟨YG,sm3,VF,zz⟩:=cm HN (.lst [.str "number",.str "box",.str "plus",.str "less"])
 rw[zz];clear zz
 show⟨ago,fun m4 N5=>?_⟩
 obtain⟨YH,sm4,VG,zz⟩:=cm N5 (.lst [.str "mine",.str "yours",.str "yes",.str "same"])
 rw[zz];clear zz
 show⟨agm,fun lB Wc=>?_⟩
 obtain⟨YI,slB,VC,zz⟩:=cm Wc (.lst [.ref m3,.ref m4])
 rw[zz];clear zz
 show⟨lA,lB,_,_,U,U,(slB _ _ (sm4 _ _ (sm3 _ _ VB))),VC,agp,fun lC RK=>?_⟩
 obtain⟨Um,slC,VD,zz⟩:=cm RK (.lst ([V.ref m0,V.ref m1,V.ref m2]++[V.ref m3,V.ref m4]))
 rw[zz];clear zz
 have sA:ag H Um:=(aa (aa (aa (aa (aa (aa (aa xT sm1) sm2) slA) sm3) sm4) slB) slC)
 have rA:=rl.same sA
 show⟨_,U,r,5,U,rA,by left,by left,fun k H1 k0 k1 l1=>?_⟩
 obtain⟨_,hat,nl,ns,rfl,gn,nr,nm⟩:=qm (P:=fun v=>∃(nl:Addr) (ns:List Str),v=.ref nl/\H1 nl=some (.lst (ns.map V.str))/\nl≠r/\Uq ns) (xs:=[.ref m0,.ref m1,.ref m2,.ref m3,.ref m4]) (r:=k) k0 k1 (fun x hx=>by
   rcases bT hx with e|hx
   . show⟨m0,(["a","b","c","d"]:List Str),e,l1.k _ _ (rl.ne N4) (slC _ _ (slB _ _ (sm4 _ _ (sm3 _ _ (slA _ _ (sm2 _ _ (sm1 _ _ VE))))))),(rl.ne N4),⟨by right,U,by right,by right⟩⟩
   rcases bT hx with e|hx
   . show⟨m1,(["x","xx","y","abcdefgh"]:List Str),e,l1.k _ _ (rl.ne (ah xT hm1)) (slC _ _ (slB _ _ (sm4 _ _ (sm3 _ _ (slA _ _ (sm2 _ _ Li)))))),(rl.ne (ah xT hm1)),⟨by right,U,by right,by right⟩⟩
   rcases bT hx with e|hx
   . show⟨m2,(["q","put","end","test"]:List Str),e,l1.k _ _ (rl.ne (ah xT (ah sm1 hm2))) (slC _ _ (slB _ _ (sm4 _ _ (sm3 _ _ (slA _ _ Lj))))),(rl.ne (ah xT (ah sm1 hm2))),⟨by right,U,by right,by right⟩⟩
   rcases bT hx with e|hx
   . show⟨m3,(["number","box","plus","less"]:List Str),e,l1.k _ _ (rl.ne (ah xT (ah sm1 (ah sm2 (ah slA HN))))) (slC _ _ (slB _ _ (sm4 _ _ VF))),(rl.ne (ah xT (ah sm1 (ah sm2 (ah slA HN))))),⟨by right,U,by right,by right⟩⟩
   . show⟨m4,(["mine","yours","yes","same"]:List Str),bU hx,l1.k _ _ (rl.ne (ah xT (ah sm1 (ah sm2 (ah slA (ah sm3 N5)))))) (slC _ _ (slB _ _ VG)),(rl.ne (ah xT (ah sm1 (ah sm2 (ah slA (ah sm3 N5)))))),⟨by right,U,by right,by right⟩⟩)
 show dF (l1.k _ _ (rl.ne (ah xT (ah sm1 (ah sm2 (ah slA (ah sm3 (ah sm4 (ah slB RK)))))))) VD) hat ?_
 show ai (kR _ _ ?_)
 show aq [some (.ref r),some (.int most),some (.int wide),some (.ref nl),none,none,none,none] U ?_
 have LC:Rl r H H1:=(Rl.of rl sA).trans l1
 show uN fun Rk kR=>?_
 show⟨agk,fun B hB=>?_⟩
 have Br:B≠r:=LC.rl.ne hB
 have BH:=LC.no Br hB
 have Bn:nl≠B:=ar gn hB
 have lB:Rl r H1 (upd H1 B (.lst [])):=Rl.new LC.rl hB
 have gB:(upd H1 B (.lst [])) B=some (.lst []):=ae
 generalize upd H1 B (.lst [])=H2 at lB gB ⊢
 show ai ?_
 show⟨_,U,?_⟩
 show ai (kR _ _ ?_)
 show aq [some (.ref r),some (.int most),some (.int wide),some (.ref nl),some (.ref B),some (.int most),none,none] U ?_
 show ak fun Rk kR=>?_
 show⟨_,U,_,U,r,5,U,lB.rl,by left,by left,fun k H3 k0 k1 l3=>?_⟩
 have Cr:=l3.k _ _ nr (lB.k _ _ nr gn)
 show⟨_,U,nl,_,U,aE.of Cr,fun sl FR=>?_⟩
 obtain⟨kn,MJ⟩ : ∃kn:Nat,k=(kn:Int):=⟨k.toNat,by lia⟩
 rw[MJ,uO _ (by rw[ZW,nm.l4];lia),← acZ]
 have To:sl≠r:=l3.rl.ne FR
 have slB:sl≠B:=fun z=>by rw[z,l3.k _ _ Br gB]at FR;cases FR
 have ls:Rl r H3 (upd H3 sl (.lst ((ns.take kn).map V.str))):=Rl.new l3.rl FR
 have Lk:(upd H3 sl (.lst ((ns.take kn).map V.str))) sl=some (.lst ((ns.take kn).map V.str)):=ae
 generalize upd H3 sl (.lst ((ns.take kn).map V.str))=H4 at ls Lk ⊢
 have OD:=lB.trans (l3.trans ls)
 have Vp:=(l3.trans ls).k _ _ Br gB
 have TV:(ns.take kn).Nodup:=nm.nd.sublist (ach _ _)
 have tl:(ns.take kn).length<=4:=by rw[aac,nm.l4];lia
 have t8:∀x∈ns.take kn,x.length<=8:=fun x hx=>nm.l8 x (aa0 hx)
 have t0:∀x∈ns.take kn,x≠"":=fun x hx=>nm.n0 x (aa0 hx)
 generalize ns.take kn=ms at Lk TV tl t8 t0
 show⟨sl,U,⟨_,aE.of Lk⟩,?_⟩
 show bC (xs:=ms.map V.str) (fun(i:Nat) (σ:L2.St) (Hx:Hp)=>Rl r H1 Hx/\Hx sl=some (.lst (ms.map V.str))/\∃(lf:Int) (o6 o7:Option V) (vb:List V) (bs:ao),σ=[some (.ref r),some (.int most),some (.int wide),some (.ref nl),some (.ref B),some (.int lf),o6,o7]/\1<=lf/\lf<=65536/\bH bs*lf<=most/\Hx B=some (.lst vb)/\Paired (cB Hx) vb bs/\bs.map (·.1)=ms.take i/\∀b∈bs,1<=b.2/\b.2<=16) ⟨OD,Lk,most,none,none,[],[],U,Iq,OP,by change 1*most<=most;lia,Vp,.nil,U,fun b hb=>nomatch hb⟩ (fun i σ Hx u z=>aE.of z.2.1) (fun i x0 σ Hx hx z=>?_) (fun σ Hx z=>?_)
 . obtain⟨lx,gs,lf,o6,o7,vb,bs,rfl,f1,f9,pr,hb,pb,xQ,sz1⟩:=z
   obtain⟨x,vk,rfl⟩:=bG hx
   have il:i<ms.length:=(aT vk)
   show ai ?_
   show aq [some (.ref r),some (.int most),some (.int wide),some (.ref nl),some (.ref B),some (.int lf),some (.str x),o7] U ?_
   show ak fun Rj kj=>?_
   obtain⟨mn,U6,n1,n2,n3⟩ : ∃mn,mn=(if wide<lf then wide else lf)/\1<=mn/\mn<=16/\mn<=lf:=by
     show⟨_,U,?_,?_,?_⟩<;>split<;>lia
   show⟨_,U,_,U,_,U,_,_,U,r,mn,by rw[U6];rfl,lx.rl,by lia,aaL n2 (by left),fun k H5 k0 k1 l5=>⟨_,_,U,U,?_⟩⟩
   obtain⟨sz,La⟩ : ∃sz,sz=1+k:=⟨_,rfl⟩
   show ai ?_
   show kj _ _ ?_
   show aq [some (.ref r),some (.int most),some (.int wide),some (.ref nl),some (.ref B),some (.int lf),some (.str x),some (.int sz)] (by rw[La];rfl) ?_
   have NG:=l5.k _ _ Br hb
   have Xf:=lx.trans l5
   show ak fun Rj kj=>?_
   show⟨_,U,_,U,_,_,U,U,⟨by lia,aaL (show sz<=65536 by lia) (by right)⟩,?_⟩
   have q1:1<=lf/sz:=Int.le_ediv_of_mul_le (by lia) (by lia)
   have q2:lf/sz<=65536:=acK (Int.ediv_le_self _ (by lia)) f9
   show ai ?_
   show kj _ _ ?_
   show⟨_,U,.inl ⟨U,_,aE.of NG⟩,_,U,_,U,agm,fun p hp=>?_⟩
   have bl:=Paired.length pb
   have KS:bs.length=min i ms.length:=by rw[← ZW (f:=(·.1)),xQ,aac]
   have pB:p≠B:=(ar NG hp).symm
   have FK:(upd H5 p (.tup [.str x,.int sz])) B=some (.lst vb):=by rw[au pB.symm];show NG
   have lp:Rl r H5 (upd H5 p (.tup [.str x,.int sz])):=Rl.new l5.rl hp
   have XY:(upd H5 p (.tup [.str x,.int sz])) sl=some (.lst (ms.map V.str)):=lp.k _ _ To (l5.k _ _ To gs)
   show⟨B,_,_,U,U,FK,aC (by lia),⟨Rl.put (Xf.trans lp) Br hB,by rw[au slB];show XY,lf/sz,_,_,vb++[.ref p],bs++[(x,sz)],U,q1,q2,?_,ae,?_,?_,fun b hb=>?_⟩⟩
   . rw[dM,abZ]
     show acK (aaE (Int.mul_ediv_self_le (show sz≠0 by lia)) ?_) pr
     have:=eI (bs:=bs) fun b hb=>(sz1 b hb).1
     lia
   . show Paired.snoc (Paired.aV pb fun u u z=>Tp.keep (((Rl.tk lx.rl l5).trans (Fj hp _)).trans (TW.TK.lst FK)) z) ⟨p,U,?_⟩
     rw[au pB,ae]
   . rw[Z9,xQ,aad,vk]
     rfl
   . rcases dk hb with z|z
     . show sz1 b z
     . rw[bU z]
       show⟨by change 1<=sz;lia,by change sz<=16;lia⟩
 obtain⟨lx,gs,lf,o6,o7,vb,bs,rfl,f1,f9,pr,hb,pb,xQ,sz1⟩:=z
 rw[ZW,aag]at xQ
 show kR _ _ ?_
 show⟨_,U,?_⟩
 have KS:bs.length=ms.length:=by rw[← ZW (f:=(·.1)),xQ]
 show q B vb bs Hx (LC.trans lx) Br BH hb pb ⟨by rw[xQ];show TV,by lia,fun b hb=>t8 _ (by rw[← xQ];show fS ⟨b,hb,U⟩),sz1,acK ?_ pr,by rw[xQ];show fun z=>t0 _ z rfl⟩
 have:=eI (bs:=bs) fun b hb=>(sz1 b hb).1
 have:=aaE f1 (c:=bH bs) (by lia)
 lia
abbrev EO:Stmt:=top 32
abbrev wO:Stmt:=top 33
structure Dr (H:Hp)(r nl:Addr)(ns:List Str):Prop where
 rl:bZ H r
 nr:nl≠r
 hn:H nl=some (.lst (ns.map V.str))
 l4:ns.length<=4
def Dr.go {H H1:Hp}{r nl:Addr}{ns:List Str}(d:Dr H r nl ns)(l:Rl r H H1):Dr H1 r nl ns:=⟨l.rl,d.nr,l.k _ _ d.nr d.hn,d.l4⟩
abbrev jN (ns:List Str):Str->Str->Prop:=fun t x=>t="box"/\x∈ns
def fh (n:Nat):Sp:=fun vs H Q z=>∃(r nl:Addr) (d:Int) (ns:List Str),vs=[.ref r,.ref nl,.int d]/\Dr H r nl ns/\0<=d/\d<n/\∀(v:V) (e:E) (H':Hp),Rl r H H'->cK H' v e->e.dZ->e.okIn (jN ns)->e.dep<=d.toNat->Q v H'
def A0 {k:Int}{a b:K2}(h0:0<=k)(h1:k<2):∃kk:K2,gY ([.str a.str,.str b.str]:List V) k=some (.str kk.str)/\(kk=a\/kk=b):=by
 rcases(show k=0\/k=1 by lia)with rfl|rfl
 . show⟨a,U,.inl rfl⟩
 . show⟨b,U,.inr rfl⟩
def vM {f:Addr}{fd:aaa}:aK P w K mg base bJ 2 f fd ["pot","names","deep"] (fh 0):=by
 have no:∀vs H Q E,¬ fh 0 vs H Q E:=fun vs H Q E h=>by
   obtain⟨r,nl,d,ns,_,_,d0,dn,_⟩:=h
   lia
 show⟨fun vs H Q E h=>aB h (no vs H Q E),fun A outer s H args us vs Q E z z z z h=>aB h (no vs H Q E)⟩
def w5:az ["pot","names","deep","way","word"] ["pot","names","deep"] (aj EO):=cU
def DN {n:Nat}{f:Addr}{fd:aaa}(F:bQ K "_law_any_sum" "_law_any_sum" EO f fd)(m_len:mg "len"=none)(TK0:aO P w K mg base "_law_next" ["pot","many"] 1 b7)(G:aO P w K mg base "_law_any_sum" ["pot","names","deep"] (n+2) (fh n)):aK P w K mg base bJ (n+1+2) f fd ["pot","names","deep"] (fh (n+1)):=by
 show F.df w5 fun cdv A outer s H vs Q E hr h=>?_
 obtain⟨r,nl,d,ns,rfl,D,d0,dn,q⟩:=h
 have TK:=TK0.mono (show 1<=n+2 by lia)
 show cM ⟨_,(aeg (aen 3 w5.nd (aek TK hr U (L (Y 0) (L aef M))))
   (aeg (aeq (aeF (ae1 (aeo aew (Y 3) aef) (ae2 (aeo L3.tL (Y 2) aef)))) (aeg (aen 4 w5.nd (aeh aey (aeu (L ael (L ael M))) (aek TK hr U (L (Y 0) (L aef M)))))
   (aej (aem (aet (L (Y 4) (L (aek G hr U (L (Y 0) (L (Y 1) (L (aes aeT (Y 2) aef) M)))) (L (aek G hr U (L (Y 0) (L (Y 1) (L (aes aeT (Y 2) aef) M)))) M))))))) aer)
   (aeg (aeq (aeF (ae1 (aeo L3.tL (Y 3) aef) (ae2 (aeo (L3.kF (m:=2) (bB hr _ (by left))) (Y 1) (aeu M))))) (aej (aem (aet (L ael (L (aeh aey (Y 1) (aek TK hr U (L (Y 0) (L (aex aeD U m_len aah (L (Y 1) M)) M)))) M))))) aer)
   (aej (aem (aet (L ael (L (aek TK hr U (L (Y 0) (L (aeh aey (aeu (L aef (L aef (L aef (L (aes L3.AW aef aef) M))))) (aek TK hr U (L (Y 0) (L aef M)))) M))) M)))))))),?_⟩
 show ak fun Rk kR=>?_
 show⟨_,U,r,4,U,D.rl,by left,by left,fun k H1 k0 k1 l1=>?_⟩
 have D1:=D.go l1
 show ai (kR _ _ ?_)
 show aq [some (.ref r),some (.ref nl),some (.int d),some (.int k),none] U ?_
 show ak fun Rk kR=>?_
 suffices hs:Rk [some (.ref r),some (.ref nl),some (.int d),some (.int k),none] H1 by
   show⟨_,U,U,_,U,bE (fun y=>?_) (fun y=>d6 hs)⟩
   show⟨_,U,_,_,U,U,_,U,bE (fun cd=>?_) (fun y=>hs)⟩
   have MB:0<d:=iN cd
   show ak fun Rk kR=>?_
   show⟨agm,fun L8 hL=>?_⟩
   have Lr:L8≠r:=D1.rl.ne hL
   have ll:Rl r H1 (upd H1 L8 (.lst [.str "plus",.str "less"])):=Rl.new D1.rl hL
   have gL:(upd H1 L8 (.lst [.str "plus",.str "less"])) L8=some (.lst [.str "plus",.str "less"]):=ae
   generalize upd H1 L8 (.lst [.str "plus",.str "less"])=H4 at ll gL ⊢
   have D4:=D1.go ll
   show⟨_,U,r,2,U,D4.rl,by left,by left,fun j H5 j0 j1 l5=>?_⟩
   have D5:=D4.go l5
   obtain⟨kk,hat,NT⟩:=A0 (a:=.plus) (b:=.less) j0 j1
   show dF (l5.k _ _ Lr gL) hat ?_
   show ai (kR _ _ ?_)
   show⟨_,U,_,U,_,U,_,U,_,_,U,U,r,nl,d-1,ns,U,D5,by lia,by lia,fun v e H3 l3 ev is ok dp=>?_⟩
   have D3:=D5.go l3
   show⟨_,U,_,U,_,U,_,_,U,U,r,nl,d-1,ns,U,D3,by lia,by lia,fun v2 e2 H6 l6 GP Ou pF Cg=>⟨agn,fun p hp=>?_⟩⟩
   have lp:Rl r H6 (upd H6 p (.tup [.str kk.str,v,v2])):=Rl.new l6.rl hp
   show q (.ref p) (.two kk e e2) _ (l1.trans ((ll.trans l5).trans (l3.trans (l6.trans lp)))) ⟨v,v2,⟨p,U,ae⟩,ev.keep (Rl.tk D3.rl (l6.trans lp)),GP.keep (Rl.tk l6.rl lp)⟩ ?_ ⟨ok,pF⟩ ?_
   . rcases NT with rfl|rfl<;>show⟨is,Ou⟩
   . change max e.dep e2.dep+1<=d.toNat
     lia
 show kR _ _ (ak fun Rk kR=>?_)
 suffices hs:∀H2,Rl r H1 H2->Rk [some (.ref r),some (.ref nl),some (.int d),some (.int k),none] H2 by
   show⟨_,U,_,_,U,U,_,U,bE (fun y=>?_) (fun y=>d6 (hs _ (Rl.refl D1.rl)))⟩
   show⟨_,U,agk,fun z hz=>?_⟩
   have lz:Rl r H1 (upd H1 z (.lst [])):=Rl.new D1.rl hz
   have gz:(upd H1 z (.lst [])) z=some (.lst []):=ae
   generalize upd H1 z (.lst [])=H2 at lz gz ⊢
   have D2:=D1.go lz
   show⟨_,RB.nil (aE.of D2.hn) (aE.of gz),_,U,bE (fun c=>?_) (fun y=>hs _ lz)⟩
   have CY:0<ns.length:=by
     cases ns with
     | nil=>show aB c (by left)
     | cons a l=>show aea _
   have l4:=D.l4
   show⟨_,U,_,U,_,U,nl,_,U,.inl (aE.of D2.hn),r,_,U,D2.rl,by rw[ZW];lia,by rw[ZW];show aaL (show _<=(4:Int)by lia) (by left),fun j H3 j0 j1 l3=>?_⟩
   rw[ZW]at j1
   obtain⟨x,_,Lz,hat⟩:=fJ V.str ns j0 j1
   have D3:=D2.go l3
   show dF D3.hn hat ?_
   show⟨agm,fun p hp=>?_⟩
   show q (.ref p) (.box "box" x) _ (l1.trans (lz.trans (l3.trans (Rl.new D3.rl hp)))) ⟨p,U,ae⟩ aae ⟨U,Lz⟩ (aan _)
 intro H2 l2
 have D2:=D1.go l2
 show kR _ _ ?_
 show⟨_,U,_,_,U,U,⟨by left,by left,by left⟩,ago,fun L8 hL=>?_⟩
 have Lr:L8≠r:=D2.rl.ne hL
 have ll:Rl r H2 (upd H2 L8 (.lst [.int 3,.int 20,.int 20,.int (10^(30:Int).toNat)])):=Rl.new D2.rl hL
 have gL:(upd H2 L8 (.lst [.int 3,.int 20,.int 20,.int (10^(30:Int).toNat)])) L8=some (.lst [.int 3,.int 20,.int 20,.int (10^(30:Int).toNat)]):=ae
 generalize upd H2 L8 (.lst [.int 3,.int 20,.int 20,.int (10^(30:Int).toNat)])=H3 at ll gL ⊢
 have D3:=D2.go ll
 show⟨_,U,r,4,U,D3.rl,by left,by left,fun j H4 j0 j1 l4=>?_⟩
 have D4:=D3.go l4
 obtain⟨_,hat,mm,rfl,Xh,Sh⟩:=qm (P:=fun v=>∃mm:Int,v=.int mm/\0<mm/\mm<=10^30) (xs:=[.int 3,.int 20,.int 20,.int (10^(30:Int).toNat)]) (r:=j) j0 j1 (fun x hx=>by
   rcases bT hx with e|hx
   . show⟨_,e,by left,by left⟩
   rcases bT hx with e|hx
   . show⟨_,e,by left,by left⟩
   rcases bT hx with e|hx
   . show⟨_,e,by left,by left⟩
   . show⟨_,bU hx,by left,by left⟩)
 show dF (l4.k _ _ Lr gL) hat ?_
 show⟨r,mm,U,D4.rl,Xh,aaL Sh (by left),fun i H5 i0 i1 l5=>⟨agm,fun p hp=>?_⟩⟩
 show q (.ref p) (.num i) _ ((l1.trans l2).trans ((ll.trans l4).trans (l5.trans (Rl.new l5.rl hp)))) ⟨p,U,ae⟩ aae ?_ (aan _)
 change i.natAbs<2^100
 have US:(10:Int)^30=1000000000000000000000000000000:=by left
 rw[US]at Sh
 lia
def yv (s:Src K mg "_law_any_sum" EO)(m_len:mg "len"=none)(TK0:aO P w K mg base "_law_next" ["pot","many"] 1 b7):∀n:Nat,aO P w K mg base "_law_any_sum" ["pot","names","deep"] (n+2) (fh n):=by
 obtain⟨f,fd,F,m⟩:=s
 have b:Binds K fd ["pot","names","deep"] []:=B8 F fun z z z z z z z z z=>rfl
 intro n
 have all:aK P w K mg base bJ (n+2) f fd ["pot","names","deep"] (fh n):=by
   induction n with
   | zero=>show vM
   | succ n ih=>show DN F m_len TK0 ⟨f,fd,ih,F.kp,b,m⟩
 show⟨f,fd,all,F.kp,b,m⟩
def fD (n:Nat):Sp:=fun vs H Q z=>∃(r nl:Addr) (d:Int) (ns:List Str),vs=[.ref r,.ref nl,.int d]/\Dr H r nl ns/\0<=d/\d<n/\d<4/\∀(v:V) (e:E) (H':Hp),Rl r H H'->cK H' v e->e.lJ->e.okIn (jN ns)->e.dep<=d.toNat+1->Q v H'
def tK {f:Addr}{fd:aaa}:aK P w K mg base bJ 6 f fd ["pot","names","deep"] (fD 0):=by
 have no:∀vs H Q E,¬ fD 0 vs H Q E:=fun vs H Q E h=>by
   obtain⟨r,nl,d,ns,_,_,d0,dn,_⟩:=h
   lia
 show⟨fun vs H Q E h=>aB h (no vs H Q E),fun A outer s H args us vs Q E z z z z h=>aB h (no vs H Q E)⟩
def wY:az ["pot","names","deep","way"] ["pot","names","deep"] (aj wO):=cU
def yW {n:Nat}{f:Addr}{fd:aaa}(F:bQ K "_law_any_condition" "_law_any_condition" wO f fd)(TK0:aO P w K mg base "_law_next" ["pot","many"] 1 b7)(SM0:aO P w K mg base "_law_any_sum" ["pot","names","deep"] 6 (fh 4))(G:aO P w K mg base "_law_any_condition" ["pot","names","deep"] (n+6) (fD n)):aK P w K mg base bJ (n+1+6) f fd ["pot","names","deep"] (fD (n+1)):=by
 show F.df wY fun cdv A outer s H vs Q E hr h=>?_
 obtain⟨r,nl,d,ns,rfl,D,d0,dn,d4,q⟩:=h
 have TK:=TK0.mono (show 1<=n+6 by lia)
 have SM:=SM0.mono (show 6<=n+6 by lia)
 show cM ⟨_,(aeg (aen 3 wY.nd (aek TK hr U (L (Y 0) (L aef M))))
   (aeg (aeq (aeo aew (Y 3) aef) (aej (aem (aet (L ael M)))) aer)
   (aeg (aeq (aeF (ae1 (aeo aew (Y 3) aef) (ae2 (aeo L3.tL (Y 2) aef)))) (aej (aem (aet (L ael (L (aek G hr U (L (Y 0) (L (Y 1) (L (aes aeT (Y 2) aef) M)))) M))))) aer)
   (aej (aem (aet (L (aeh aey (aeu (L ael (L ael M))) (aek TK hr U (L (Y 0) (L aef M)))) (L (aek SM hr U (L (Y 0) (L (Y 1) (L (Y 2) M)))) (L (aek SM hr U (L (Y 0) (L (Y 1) (L (Y 2) M)))) M))))))))),?_⟩
 show ak fun Rk kR=>?_
 show⟨_,U,r,6,U,D.rl,by left,by left,fun k H1 k0 k1 l1=>?_⟩
 have D1:=D.go l1
 show ai (kR _ _ ?_)
 show aq [some (.ref r),some (.ref nl),some (.int d),some (.int k)] U ?_
 show ak fun Rk kR=>?_
 show⟨_,U,U,_,U,bE (fun z=>?_) (fun z=>?_)⟩
 . show⟨agl,fun p hp=>?_⟩
   show q (.ref p) .yes _ (l1.trans (Rl.new l1.rl hp)) ⟨p,U,ae⟩ aae aae (aan _)
 show kR _ _ (ak fun Rk kR=>?_)
 suffices hs:Rk [some (.ref r),some (.ref nl),some (.int d),some (.int k)] H1 by
   show⟨_,U,U,_,U,bE (fun z=>?_) (fun z=>d6 hs)⟩
   show⟨_,U,_,_,U,U,_,U,bE (fun cd=>?_) (fun z=>hs)⟩
   have MB:0<d:=iN cd
   show⟨_,U,_,U,_,U,_,_,U,U,r,nl,d-1,ns,U,D1,by lia,by lia,by lia,fun v e H2 l2 ev is ok dp=>?_⟩
   have D2:=D1.go l2
   show⟨agm,fun p hp=>?_⟩
   have lp:Rl r H2 (upd H2 p (.tup [.str "not",v])):=Rl.new D2.rl hp
   show q (.ref p) (.nt e) _ (l1.trans (l2.trans lp)) ⟨v,⟨p,U,ae⟩,ev.keep (Rl.tk D2.rl lp)⟩ is ok (by change e.dep+1<=d.toNat+1;lia)
 show kR _ _ ?_
 show⟨agm,fun L8 hL=>?_⟩
 have Lr:L8≠r:=D1.rl.ne hL
 have ll:Rl r H1 (upd H1 L8 (.lst [.str "same",.str "under"])):=Rl.new D1.rl hL
 have gL:(upd H1 L8 (.lst [.str "same",.str "under"])) L8=some (.lst [.str "same",.str "under"]):=ae
 generalize upd H1 L8 (.lst [.str "same",.str "under"])=H4 at ll gL ⊢
 have D4:=D1.go ll
 show⟨_,U,r,2,U,D4.rl,by left,by left,fun j H5 j0 j1 l5=>?_⟩
 have D5:=D4.go l5
 obtain⟨kk,hat,NT⟩:=A0 (a:=.same) (b:=.under) j0 j1
 show dF (l5.k _ _ Lr gL) hat ?_
 show⟨_,U,_,U,_,U,r,nl,d,ns,U,D5,d0,d4,fun v e H6 l6 ev is ok dp=>?_⟩
 have D6:=D5.go l6
 show⟨_,U,_,U,_,U,r,nl,d,ns,U,D6,d0,d4,fun v2 e2 H7 l7 GP Ou pF Cg=>⟨agn,fun p hp=>?_⟩⟩
 have lp:Rl r H7 (upd H7 p (.tup [.str kk.str,v,v2])):=Rl.new l7.rl hp
 show q (.ref p) (.two kk e e2) _ (l1.trans ((ll.trans l5).trans (l6.trans (l7.trans lp)))) ⟨v,v2,⟨p,U,ae⟩,ev.keep (Rl.tk D6.rl (l7.trans lp)),GP.keep (Rl.tk l7.rl lp)⟩ ?_ ⟨ok,pF⟩ ?_
 . rcases NT with rfl|rfl<;>show⟨is,Ou⟩
 . change max e.dep e2.dep+1<=d.toNat+1
   lia
def u9 (s:Src K mg "_law_any_condition" wO)(TK0:aO P w K mg base "_law_next" ["pot","many"] 1 b7)(SM0:aO P w K mg base "_law_any_sum" ["pot","names","deep"] 6 (fh 4)):∀n:Nat,aO P w K mg base "_law_any_condition" ["pot","names","deep"] (n+6) (fD n):=by
 obtain⟨f,fd,F,m⟩:=s
 have b:Binds K fd ["pot","names","deep"] []:=B8 F fun z z z z z z z z z=>rfl
 intro n
 have all:aK P w K mg base bJ (n+6) f fd ["pot","names","deep"] (fD n):=by
   induction n with
   | zero=>show tK
   | succ n ih=>show yW F TK0 SM0 ⟨f,fd,ih,F.kp,b,m⟩
 show⟨f,fd,all,F.kp,b,m⟩
abbrev Be:Stmt:=top 34
abbrev me:Stmt:=top 35
def Np.aU:Np->List Int
 | .put _ _ n=>[n]|.say _ n=>[n]|.test _ n o=>[n,o]|.pick _ n=>[n]|.fin=>[]
def Np.ir:Np->List E
 | .put x s _=>[.box "box" x,s]|.say s _=>[s]|.test c _ _=>[c]|.pick x _=>[.box "box" x]|.fin=>[]
def Np.Ie:Np->Prop
 | .put _ s _=>s.dZ|.say s _=>s.dZ|.test c _ _=>c.lJ|.pick _ _=>False|.fin=>True
structure gq (ns:List Str)(m:Int)(e:Np):Prop where
 is:e.Ie
 ld:∀l∈e.aU,0<=l/\l<m
 td:∀x∈e.ir,x.okIn (jN ns)/\x.dep<=5
def all1 {α:Type}{P:α->Prop}{a:α}(h:P a):∀x∈[a],P x:=fun x hx=>by rw[bU hx];show h
def all2 {α:Type}{P:α->Prop}{a b:α}(h:P a)(h2:P b):∀x∈[a,b],P x:=fun x hx=>by
 rcases bT hx with e|hx
 . rw[e];show h
 . rw[bU hx];show h2
def pY:Sp:=fun vs H Q z=>∃(r nl:Addr) (m:Int) (ns:List Str),vs=[.ref r,.ref nl,.int m]/\Dr H r nl ns/\0<m/\m<=900/\∀(v:V) (e:Np) (H':Hp),Rl r H H'->aG H' v e->gq ns m e->Q v H'
def gQ:az ["pot","names","many","way","there","name","told"] ["pot","names","many"] (aj Be):=cU
def y6 {f:Addr}{fd:aaa}(F:bQ K "_law_one_node" "_law_one_node" Be f fd)(m_len:mg "len"=none)(m_int:mg "int"=none)(TK0:aO P w K mg base "_law_next" ["pot","many"] 1 b7)(SM0:aO P w K mg base "_law_any_sum" ["pot","names","deep"] 8 (fh 6))(CO:aO P w K mg base "_law_any_condition" ["pot","names","deep"] 9 (fD 3)):aK P w K mg base bJ 10 f fd ["pot","names","many"] pY:=by
 show F.df gQ fun cdv A outer s H vs Q E hr h=>?_
 obtain⟨r,nl,m,ns,rfl,D,m0,m9,q⟩:=h
 have TK:=TK0.mono (show 1<=9 by left)
 have SM:=SM0.mono (show 8<=9 by left)
 show cM ⟨_,(aeg (aen 3 gQ.nd (aek TK hr U (L (Y 0) (L aef M))))
   (aeg (aen 4 gQ.nd (aek TK hr U (L (Y 0) (L (Y 2) M))))
   (aeg (aeq (aeF (ae1 (aeo aeU (Y 3) aef) (ae2 (aeo (L3.kF (m:=2) (bB hr _ (by left))) (Y 1) (aeu M))))) (aeg (aen 5 gQ.nd (aeh aey (Y 1) (aek TK hr U (L (Y 0) (L (aex aeD U m_len aah (L (Y 1) M)) M)))))
   (aeg (aen 6 gQ.nd (aek SM hr U (L (Y 0) (L (Y 1) (L (aeh aey (aeu (L aef (L aef (L aef M)))) (aek TK hr U (L (Y 0) (L aef M)))) M)))))
   (aeg (aeq (aeo aew (aek TK hr U (L (Y 0) (L aef M))) aef) (aej (aen 6 gQ.nd (aet (L ael (L (Y 5) M))))) aer)
   (aej (aem (aet (L ael (L (Y 5) (L (Y 6) (L (Y 4) M)))))))))) aer)
   (aeg (aeq (aeo aeU (Y 3) aef) (aej (aem (aet (L ael (L (aek SM hr U (L (Y 0) (L (Y 1) (L aef M)))) (L (Y 4) M)))))) aer)
   (aeg (aeq (aeo aew (Y 3) aef) (aej (aem (aet (L ael M)))) aer)
   (aej (aem (aet (L ael (L (aek CO hr U (L (Y 0) (L (Y 1) (L aef M)))) (L (Y 4) (L (aeh aey (aeu (L (Y 4) (L (aek TK hr U (L (Y 0) (L (Y 2) M))) M))) (aeH L3.qu U m_int (by right) (L (aeK L3.tL (aek TK hr U (L (Y 0) (L aef M))) aef) M))) M)))))))))))),?_⟩
 show uN fun Rk kR=>?_
 show⟨_,U,r,10,U,D.rl,by left,by left,fun k H1 k0 k1 l1=>?_⟩
 have D1:=D.go l1
 show ai ?_
 show⟨_,U,_,U,r,m,U,D1.rl,m0,aaL m9 (by left),fun to H2 t0 t1 l2=>?_⟩
 have D2:=D1.go l2
 have FV:=l1.trans l2
 show ai (kR _ _ ?_)
 show aq [some (.ref r),some (.ref nl),some (.int m),some (.int k),some (.int to),none,none] U ?_
 show ak fun Rk kR=>?_
 suffices hs:∀H3,Rl r H2 H3->Rk [some (.ref r),some (.ref nl),some (.int m),some (.int k),some (.int to),none,none] H3 by
   show⟨_,U,_,_,U,U,_,U,bE (fun y=>?_) (fun y=>d6 (hs _ (Rl.refl D2.rl)))⟩
   show⟨_,U,agk,fun z hz=>?_⟩
   have lz:Rl r H2 (upd H2 z (.lst [])):=Rl.new D2.rl hz
   have gz:(upd H2 z (.lst [])) z=some (.lst []):=ae
   generalize upd H2 z (.lst [])=H3 at lz gz ⊢
   have D3:=D2.go lz
   show⟨_,RB.nil (aE.of D3.hn) (aE.of gz),_,U,bE (fun c=>?_) (fun y=>hs _ lz)⟩
   have CY:0<ns.length:=by
     cases ns with
     | nil=>show aB c (by left)
     | cons a l=>show aea _
   have l4:=D.l4
   show ak fun Rk kR=>?_
   show⟨_,U,_,U,_,U,nl,_,U,.inl (aE.of D3.hn),r,_,U,D3.rl,by rw[ZW];lia,by rw[ZW];show aaL (show _<=(4:Int)by lia) (by left),fun j H4 j0 j1 l4=>?_⟩
   rw[ZW]at j1
   obtain⟨x,_,Lz,hat⟩:=fJ V.str ns j0 j1
   have D4:=D3.go l4
   show dF D4.hn hat ?_
   show ai (kR _ _ ?_)
   show aq [some (.ref r),some (.ref nl),some (.int m),some (.int k),some (.int to),some (.str x),none] U ?_
   show ak fun Rk kR=>?_
   show⟨_,U,_,U,agn,fun L8 hL=>?_⟩
   have Lr:L8≠r:=D4.rl.ne hL
   have OK:Rl r H4 (upd H4 L8 (.lst [.int 2,.int 2,.int 5])):=Rl.new D4.rl hL
   have GV:(upd H4 L8 (.lst [.int 2,.int 2,.int 5])) L8=some (.lst [.int 2,.int 2,.int 5]):=ae
   generalize upd H4 L8 (.lst [.int 2,.int 2,.int 5])=YB at OK GV ⊢
   have Ql:=D4.go OK
   show⟨_,U,r,3,U,Ql.rl,by left,by left,fun jj Hj Zi Zj lj=>?_⟩
   obtain⟨dd,NC,UQ,YR⟩ : ∃dd:Int,gY [V.int 2,V.int 2,V.int 5] jj=some (.int dd)/\0<=dd/\dd<=5:=by
     rcases(show jj=0\/jj=1\/jj=2 by lia)with rfl|rfl|rfl
     . show⟨2,U,by left,by left⟩
     . show⟨2,U,by left,by left⟩
     . show⟨5,U,by left,by left⟩
   show dF (lj.k _ _ Lr GV) NC ?_
   show⟨r,nl,dd,ns,U,Ql.go lj,UQ,by lia,fun v e H5 W9 ev is ok dp=>?_⟩
   have l5:=OK.trans (lj.trans W9)
   have D5:=D4.go l5
   show ai (kR _ _ ?_)
   show aq [some (.ref r),some (.ref nl),some (.int m),some (.int k),some (.int to),some (.str x),some v] U ?_
   show ak fun Rk kR=>?_
   have dp:e.dep<=5:=by lia
   suffices hv:∀(v:V) (e:TW.E) (H6:Hp),Rl r H5 H6->cK H6 v e->e.dZ->e.okIn (jN ns)->e.dep<=5->Rk [some (.ref r),some (.ref nl),some (.int m),some (.int k),some (.int to),some (.str x),some v] H6 by
     show⟨_,U,r,4,U,D5.rl,by left,by left,fun j H6 j0 j1 l6=>⟨U,_,U,bE (fun y=>?_) (fun y=>hv v e _ l6 (ev.keep (Rl.tk D5.rl l6)) is ok dp)⟩⟩
     show⟨_,U,agm,fun p hp=>?_⟩
     show ai ?_
     show hv (.ref p) (.box "box" x) _ (l6.trans (Rl.new l6.rl hp)) ⟨p,U,ae⟩ aae ⟨U,Lz⟩ (aan _)
   intro v e H6 l6 ev is ok dp
   show kR _ _ ?_
   show⟨_,U,_,U,_,U,ago,fun p hp=>?_⟩
   have lp:Rl r H6 (upd H6 p (.tup [.str "put",.str x,v,.int to])):=Rl.new l6.rl hp
   show q (.ref p) (.put x e to) _ (FV.trans (lz.trans (l4.trans (l5.trans (l6.trans lp))))) ⟨v,⟨p,U,ae⟩,ev.keep (Rl.tk l6.rl lp)⟩ ⟨is,all1 ⟨t0,t1⟩,all2 ⟨⟨U,Lz⟩,aan _⟩ ⟨ok,by lia⟩⟩
 intro H3 LH
 replace FV:=FV.trans LH
 replace D2:=D2.go LH
 show kR _ _ (ak fun Rk kR=>?_)
 show⟨_,U,_,_,U,U,_,U,bE (fun y=>?_) (fun y=>?_)⟩
 . show⟨_,U,_,U,r,nl,2,ns,U,D2,by left,by left,fun v e H5 l5 ev is ok dp=>?_⟩
   show⟨_,U,agn,fun p hp=>?_⟩
   have lp:Rl r H5 (upd H5 p (.tup [.str "say",v,.int to])):=Rl.new l5.rl hp
   have dp:e.dep<=2:=dp
   show q (.ref p) (.say e to) _ (FV.trans (l5.trans lp)) ⟨v,⟨p,U,ae⟩,ev.keep (Rl.tk l5.rl lp)⟩ ⟨is,all1 ⟨t0,t1⟩,all1 ⟨ok,by lia⟩⟩
 show kR _ _ (ak fun Rk kR=>?_)
 show⟨_,U,U,_,U,bE (fun y=>?_) (fun y=>?_)⟩
 . show⟨agl,fun p hp=>?_⟩
   show q (.ref p) .fin _ (FV.trans (Rl.new D2.rl hp)) ⟨p,U,ae⟩ ⟨aae,(fun y z=>nomatch z),(fun y z=>nomatch z)⟩
 show kR _ _ ?_
 show⟨_,U,_,U,r,nl,2,ns,U,D2,by left,by left,by left,fun v e H5 l5 ev is ok dp=>?_⟩
 have D5:=D2.go l5
 have dp:e.dep<=3:=dp
 show⟨_,U,_,U,_,U,_,U,r,m,U,D5.rl,m0,aaL m9 (by left),fun o H6 o0 o1 l6=>?_⟩
 show⟨agm,fun L8 hL=>?_⟩
 have Lr:L8≠r:=l6.rl.ne hL
 have ll:Rl r H6 (upd H6 L8 (.lst [.int to,.int o])):=Rl.new l6.rl hL
 have gL:(upd H6 L8 (.lst [.int to,.int o])) L8=some (.lst [.int to,.int o]):=ae
 generalize upd H6 L8 (.lst [.int to,.int o])=H7 at ll gL ⊢
 show⟨_,U,r,3,U,ll.rl,by left,by left,fun j H8 j0 j1 l8=>⟨_,_,U,U,.inr ⟨_,U,?_⟩⟩⟩
 obtain⟨oo,hat,XH,XI⟩ : ∃oo:Int,gY [V.int to,V.int o] (if decide (0<j)=true then(1:Int)else 0)=some (.int oo)/\0<=oo/\oo<m:=by
   split
   . show⟨o,U,o0,o1⟩
   . show⟨to,U,t0,t1⟩
 show dF (l8.k _ _ Lr gL) hat ?_
 show⟨ago,fun p hp=>?_⟩
 have lp:Rl r H8 (upd H8 p (.tup [.str "test",v,.int to,.int oo])):=Rl.new l8.rl hp
 have Ii:=l6.trans (ll.trans (l8.trans lp))
 show q (.ref p) (.test e to oo) _ (FV.trans (l5.trans Ii)) ⟨v,⟨p,U,ae⟩,ev.keep (Rl.tk D5.rl Ii)⟩ ⟨is,all2 ⟨t0,t1⟩ ⟨XH,XI⟩,all1 ⟨ok,by lia⟩⟩
def C5 {ins:List Str}{x:Str}(h:ins.Nodup)(n:x∉ins)(i:Nat):(ins.take i++x::ins.drop i).Nodup:=by
 rw[aci,ab2]
 show⟨h.sublist (ach _ _),⟨fun z=>n (abV z),h.sublist (List.drop_sublist _ _)⟩,fun a ha b hb e=>?_⟩
 rcases bT hb with z|z
 . show n (by rw[← z,← e];show aa0 ha)
 . have hd:=h
   rw[← acC i ins,aci]at hd
   show hd.2.2 a ha b z e
def yz {ins:List Str}{x y:Str}{i:Nat}:y∈ins.take i++x::ins.drop i->y=x\/y∈ins:=fun h=>by
 rcases dk h with z|z
 . show .inr (aa0 z)
 . rcases bT z with z|z
   . show .inl z
   . show .inr (abV z)
structure xI (r:Addr)(H:Hp)(B I N:Addr)(vb vn:List V)(bs:ao)(ins:List Str)(nds:List Np):Prop where
 hB:H B=some (.lst vb)
 hI:H I=some (.lst (ins.map V.str))
 hN:H N=some (.lst vn)
 pb:Paired (cB H) vb bs
 pn:Paired (aG H) vn nds
 nB:B≠r
 nI:I≠r
 nN:N≠r
def xI.go {r:Addr}{H H1:Hp}{B I N:Addr}{vb vn:List V}{bs:ao}{ins:List Str}{nds:List Np}(h:xI r H B I N vb vn bs ins nds)(rl:bZ H r)(l:Rl r H H1):xI r H1 B I N vb vn bs ins nds:=
 ⟨l.k _ _ h.nB h.hB,l.k _ _ h.nI h.hI,l.k _ _ h.nN h.hN,Paired.aV h.pb fun y y z=>Tp.keep (Rl.tk rl l) z,Paired.aV h.pn fun y y z=>aG.keep (Rl.tk rl l) z,h.nB,h.nI,h.nN⟩
structure oG (most longest:Int)(bs:ao)(ins:List Str)(nds:List Np):Prop where
 bx:BM most bs
 ind:ins.Nodup
 sub:∀x∈ins,x∈bs.map (·.1)
 one:1<=nds.length
 few:(nds.length:Int)<=longest
 nd:∀e∈nds,gq (bs.map (·.1)) (nds.length:Int) e
def rK:Sp:=fun vs H Q z=>∃(r:Addr) (most wide longest:Int),vs=[.ref r,.int most,.int wide,.int longest]/\bZ H r/\1<=most/\most<=65536/\1<=wide/\wide<=16/\1<=longest/\longest<=40/\∀(p B I N:Addr) (vb vn:List V) (bs:ao) (ins:List Str) (nds:List Np) (H':Hp),Rl r H H'->H' p=some (.tup [.ref B,.ref I,.ref N])->xI r H' B I N vb vn bs ins nds->oG most longest bs ins nds->Q (.ref p) H'
def eS:az ["pot","most","wide","longest","boxes","names","inputs","name","many"] ["pot","most","wide","longest"] (aj me):=cU
def vW {f:Addr}{fd:aaa}(F:bQ K "_law_some_program" "_law_some_program" me f fd)(m_len:mg "len"=none)(m_range:mg "range"=none)(TK0:aO P w K mg base "_law_next" ["pot","many"] 1 b7)(SB0:aO P w K mg base "_law_some_boxes" ["pot","most","wide"] 2 rJ)(NO:aO P w K mg base "_law_one_node" ["pot","names","many"] 10 pY):aK P w K mg base bJ 11 f fd ["pot","most","wide","longest"] rK:=by
 show F.df eS fun cdv A outer s H vs Q E hr h=>?_
 obtain⟨r,most,wide,longest,rfl,rl,Iq,OP,w1,w9,g1,g9,q⟩:=h
 have TK:=TK0.mono (show 1<=10 by left)
 have SB:=SB0.mono (show 2<=10 by left)
 show cM ⟨_,(aeg (aen 4 eS.nd (aek SB hr U (L (Y 0) (L (Y 1) (L (Y 2) M)))))
   (aeg (aen 5 eS.nd (aeO [none,none] ["name","size"] (iw me) U (aeA (Y 4)) (fun u u u u u=>⟨(aeC 2 (aev (aep 0 (d9 ["name","size"])) (aev (aep 1 (d9 ["name","size"])) aeB))),aeE,(Y 0)⟩)))
   (aeg (aen 6 eS.nd (aeu M))
   (aeg (aeJ (aeA (Y 5)) (aep 7 eS.nd) (aej (aeq (aeo aew (aek TK hr U (L (Y 0) (L aef M))) aef) (aej (aeQ (L3.insert (Y 6) (L (aek TK hr U (L (Y 0) (L (aes aeN (aex aeD U m_len aah (L (Y 6) M)) aef) M))) (L (Y 7) M))))) aer)))
   (aeg (aen 8 eS.nd (aes aeN aef (aek TK hr U (L (Y 0) (L (Y 3) M)))))
   (aej (aem (aet (L (Y 4) (L (Y 6) (L (aeO [none,some 0,some 5,some 8] ["k","pot","names","many"] (iw me) U (ae5 U m_range (L (Y 8) M)) (fun u u u u u=>⟨(aep 0 (d9 ["k","pot","names","many"])),aeE,(aek NO hr U (L (Y 1) (L (Y 2) (L (Y 3) M))))⟩)) M))))))))))),?_⟩
 show ak fun Rk kR=>?_
 show⟨_,U,_,U,_,U,r,most,wide,U,rl,Iq,OP,w1,w9,fun B vb bs H1 l1 nB Y2 hB pb ob=>?_⟩
 show ai (kR _ _ ?_)
 show aq [some (.ref r),some (.int most),some (.int wide),some (.int longest),some (.ref B),none,none,none,none] U ?_
 have oE:=Paired.length pb
 have b4:=ob.l4
 show ak fun Rk kR=>?_
 show⟨_,U,B,U,⟨_,aE.of hB⟩,fun nl uw=>?_⟩
 have vI:nl≠r:=l1.rl.ne uw
 show bo (xs:=vb) (fun(i:Nat) Hx=>ag H1 Hx/\Hx nl=some (.lst (((bs.map (·.1)).take i).map V.str))) ⟨af uw _,ae⟩ (fun i Hx u z=>aE.of (z.1 _ _ hB)) (fun i x0 Hx hx z=>?_) (fun H2 z=>?_)
 . obtain⟨sx,gD⟩:=z
   have cX:=(aT hx)
   obtain⟨b,gm,pp,rfl,lH⟩:=Paired.get pb hx
   show kT (sx _ _ lH) ?_
   show bI (A:=fun H5=>cp _ nl _ H5 _) ?_
   show⟨_,U,_,gD,aC (by rw[ZW,aac];lia),aD (Pv:=fun(i:Nat) Hx=>ag H1 Hx/\Hx nl=some (.lst (((bs.map (·.1)).take i).map V.str))) (by repeat' constructor) cX ⟨av sx uw,?_⟩⟩
   rw[ae,aad,aap,gm,Z9]
   rfl
 obtain⟨s2,gn⟩:=z
 rw[oE,aaP (by rw[ZW];show Z0 _)]at gn
 have l2:Rl r H1 H2:=Rl.of l1.rl s2
 have D2:Dr H2 r nl (bs.map (·.1)):=⟨l2.rl,vI,gn,by rw[ZW];show b4⟩
 show ai (kR _ _ ?_)
 show aq [some (.ref r),some (.int most),some (.int wide),some (.int longest),some (.ref B),some (.ref nl),none,none,none] U ?_
 show ak fun Rk kR=>?_
 show⟨agk,fun I hI=>?_⟩
 have Ir:I≠r:=l2.rl.ne hI
 have lI:Rl r H2 (upd H2 I (.lst [])):=Rl.new l2.rl hI
 have gI:(upd H2 I (.lst [])) I=some (.lst []):=ae
 generalize upd H2 I (.lst [])=H3 at lI gI ⊢
 show ai (kR _ _ ?_)
 show aq [some (.ref r),some (.int most),some (.int wide),some (.int longest),some (.ref B),some (.ref nl),some (.ref I),none,none] U ?_
 show ak fun Rk kR=>?_
 show⟨_,U,nl,U,⟨_,aE.of (D2.go lI).hn⟩,?_⟩
 show bC (xs:=(bs.map (·.1)).map V.str) (fun(i:Nat) (σ:L2.St) (Hy:Hp)=>(∃o7,σ=[some (.ref r),some (.int most),some (.int wide),some (.int longest),some (.ref B),some (.ref nl),some (.ref I),o7,none])/\Rl r H2 Hy/\∃ins,Hy I=some (.lst (ins.map V.str))/\ins.Nodup/\ins.length<=i/\∀y∈ins,y∈(bs.map (·.1)).take i) ⟨⟨_,U⟩,lI,[],gI,abh,Z0 _,fun y hy=>nomatch hy⟩ (fun i σ Hy u z=>aE.of (D2.go z.2.1).hn) (fun i x0 σ Hy hx z=>?_) (fun σ Hy z=>?_)
 . obtain⟨⟨o7,rfl⟩,ly,ins,gi,ni,il,sub⟩:=z
   obtain⟨x,vk,rfl⟩:=bG hx
   have inl:i<(bs.map (·.1)).length:=(aT vk)
   have ZD:=D2.l4
   have up:∀y,y∈(bs.map (·.1)).take i->y∈(bs.map (·.1)).take (i+1):=fun y hy=>by rw[aad];show iz (.inl hy)
   show ai ?_
   show aq [some (.ref r),some (.int most),some (.int wide),some (.int longest),some (.ref B),some (.ref nl),some (.ref I),some (.str x),none] U ?_
   show⟨_,U,r,2,U,ly.rl,by left,by left,fun j H4 j0 j1 l4=>⟨U,_,U,?_⟩⟩
   have Lh:=l4.k _ _ Ir gi
   show bE (fun u=>?_) (fun u=>?_)
   . show⟨_,U,.inl ⟨U,_,aE.of Lh⟩,_,U,_,U,I,_,U,.inl (aE.of Lh),_,_,U,U,r,_,U,l4.rl,by rw[ZW];lia,by rw[ZW];show aaL (show _<=(5:Int)by lia) (by left),fun k H5 k0 k1 l5=>?_⟩
     rw[ZW]at k1
     have Vz:=l5.k _ _ Ir Lh
     have nx:x∉ins:=fun z=>by
       obtain⟨j,hj,e⟩:=acN (sub x z)
       rw[aac]at hj
       rw[List.getElem_take]at e
       have e1:(bs.map (·.1))[j]?=some x:=by rw[Z3 (by lia),e]
       have:=(List.getElem?_inj (by lia) ob.nd).mp (e1.trans vk.symm)
       lia
     have W8:=l4.trans l5
     show⟨_,U,I,_,_,k,U,U,Vz,k0,by rw[ZW];lia,by rw[ZW];lia,⟨_,U⟩,(ly.trans W8).put Ir hI,ins.take k.toNat++x::ins.drop k.toNat,?_,C5 ni nx _,?_,fun y hy=>?_⟩
     . rw[ae,Z9,acZ,aav,List.map_drop]
     . rw[Z1,aau,aac,aa8]
       lia
     . rcases yz hy with z|z
       . rw[z,aad,vk];show iz (.inr abm)
       . show up y (sub y z)
   . show⟨⟨_,U⟩,ly.trans l4,ins,Lh,ni,by lia,fun y hy=>up y (sub y hy)⟩
 obtain⟨⟨o7,rfl⟩,ly,ins,gi,ni,il,sub⟩:=z
 rw[ZW,aag]at sub
 show kR _ _ (ak fun Rk kR=>?_)
 show⟨_,U,_,U,r,longest,U,ly.rl,by lia,aaL g9 (by left),fun k H4 k0 k1 l4=>⟨_,_,U,U,?_⟩⟩
 obtain⟨m,em⟩ : ∃m,m=1+k:=⟨_,rfl⟩
 show ai (kR _ _ ?_)
 show aq [some (.ref r),some (.int most),some (.int wide),some (.int longest),some (.ref B),some (.ref nl),some (.ref I),o7,some (.int m)] (by rw[em];rfl) ?_
 have Dk:=ly.trans l4
 have D4:=D2.go Dk
 show⟨_,U,_,U,_,U,m,U,by lia,by lia,fun N hN=>?_⟩
 have Nr:N≠r:=l4.rl.ne hN
 show cW (lo:=0) (n:=m.toNat) (fun(i:Nat) Hx=>Rl r H4 Hx/\∃vn nds,Hx N=some (.lst vn)/\vn.length=i/\Paired (aG Hx) vn nds/\∀e∈nds,gq (bs.map (·.1)) m e) ⟨Rl.new l4.rl hN,[],[],ae,U,.nil,fun u z=>nomatch z⟩ (fun i Hx hi z=>?_) (fun Hx z=>?_)
 . obtain⟨lx,vn,nds,gN,vl,pn,on⟩:=z
   show ai ?_
   show bI (A:=fun H5=>cp _ N _ H5 _) ?_
   show⟨_,U,_,U,_,U,r,nl,m,_,U,D4.go lx,by lia,by lia,fun v e H5 l5 nv ok=>?_⟩
   have Cm:=l5.k _ _ Nr gN
   show⟨_,Cm,aC (by lia),aD (Pv:=fun(i:Nat) Hx=>Rl r H4 Hx/\∃vn nds,Hx N=some (.lst vn)/\vn.length=i/\Paired (aG Hx) vn nds/\∀e∈nds,gq (bs.map (·.1)) m e) (by repeat' constructor) hi ⟨Rl.put (lx.trans l5) Nr hN,vn++[v],nds++[e],ae,by rw[Z1,vl];rfl,?_,fun e' HG=>?_⟩⟩
   . show Paired.snoc (Paired.aV pn fun u u z=>aG.keep ((Rl.tk lx.rl l5).trans (TW.TK.lst Cm)) z) (aG.keep (TW.TK.lst Cm) nv)
   . rcases dk HG with z|z
     . show on e' z
     . rw[bU z];show ok
 obtain⟨lx,vn,nds,gN,vl,pn,on⟩:=z
 have uz:=Paired.length pn
 show⟨agn,fun p hp=>?_⟩
 have lp:Rl r Hx (upd Hx p (.tup [.ref B,.ref I,.ref N])):=Rl.new lx.rl hp
 have OE:Rl r H1 Hx:=l2.trans (Dk.trans lx)
 have Zv:=Dk.trans lx
 have MK:m=(nds.length:Int):=by lia
 show q p B I N vb vn bs ins nds _ (l1.trans (OE.trans lp)) ae (xI.go ⟨OE.k _ _ nB hB,(l4.trans lx).k _ _ Ir gi,gN,Paired.aV pb fun u u z=>Tp.keep (Rl.tk l1.rl OE) z,pn,nB,Ir,Nr⟩ lx.rl lp) ⟨ob,ni,sub,by lia,by lia,fun e he=>by rw[← MK];show on e he⟩
abbrev A8:Stmt:=top 36
abbrev JV:Stmt:=top 37
def pW:Sp:=fun vs H Q z=>∃(p B I N:Addr) (vb vi vn:List V),vs=[.ref p]/\H p=some (.tup [.ref B,.ref I,.ref N])/\H B=some (.lst vb)/\H I=some (.lst vi)/\H N=some (.lst vn)/\∀(p' B' I' N':Addr) (H':Hp),ag H H'->H' p'=some (.tup [.ref B',.ref I',.ref N'])->H' B'=some (.lst vb)->H' I'=some (.lst vi)->H' N'=some (.lst vn)->H B'=none->H I'=none->H N'=none->Q (.ref p') H'
def EY:az ["program"] ["program"] (aj A8):=cU
def yX {f:Addr}{fd:aaa}(F:bQ K "_law_copy" "_law_copy" A8 f fd)(m_list:mg "list"=none):aK P w K mg base bJ 1 f fd ["program"] pW:=by
 show F.df EY fun cdv A outer s H vs Q E hr h=>?_
 obtain⟨p,B,I,N,vb,vi,vn,rfl,hp,hB,hI,hN,q⟩:=h
 show cM ⟨_,(aej (aem (aet (L (aeH ae6 U m_list (by right) (L (aeh aei (Y 0) aef) M)) (L (aeH ae6 U m_list (by right) (L (aeh aei (Y 0) aef) M)) (L (aeH ae6 U m_list (by right) (L (aeh aei (Y 0) aef) M)) M)))))),?_⟩
 show⟨_,U,?_⟩
 show aH hp U ?_
 show⟨B,_,U,.inl (aE.of hB),fun B' fE=>?_⟩
 obtain⟨H1,sb,gb,zz⟩:=cm fE (.lst vb)
 rw[zz];clear zz
 show⟨_,U,?_⟩
 show aH (sb _ _ hp) U ?_
 show⟨I,_,U,.inl (aE.of (sb _ _ hI)),fun I' FJ=>?_⟩
 obtain⟨H2,si,gi,zz⟩:=cm FJ (.lst vi)
 rw[zz];clear zz
 have sbi:=aa sb si
 show⟨_,U,?_⟩
 show aH (sbi _ _ hp) U ?_
 show⟨N,_,U,.inl (aE.of (sbi _ _ hN)),fun N' Rv=>?_⟩
 obtain⟨H3,sn,gn,zz⟩:=cm Rv (.lst vn)
 rw[zz];clear zz
 show⟨agn,fun p' jR=>?_⟩
 have s4:=af jR (.tup [.ref B',.ref I',.ref N'])
 show q p' B' I' N' _ (aa sbi (aa sn s4)) ae (s4 _ _ (sn _ _ (si _ _ gb))) (s4 _ _ (sn _ _ gi)) (s4 _ _ gn) fE (ah sb FJ) (ah sbi Rv)
def Np.led:Np->List Int->Np
 | .put x s n,l=>.put x s ((l[0]?).getD n)
 | .say s n,l=>.say s ((l[0]?).getD n)
 | .test c n o,l=>.test c ((l[0]?).getD n) ((l[1]?).getD o)
 | .pick x n,l=>.pick x ((l[0]?).getD n)
 | .fin,_=>.fin
def xh:Sp:=fun vs H Q z=>∃(v:V) (l:Addr) (e:Np) (cs:List Int) (ls:List Int),vs=[v,.ref l]/\aG H v e/\e.Ie/\H l=some (.lst (cs.map V.int))/\ls.length=e.aU.length/\(∀(i:Nat) (a b:Int),e.aU[i]?=some a->ls[i]?=some b->0<=a/\cs[a.toNat]?=some b)/\∀(v':V) (H':Hp),ag H H'->aG H' v' (e.led ls)->Q v' H'
def qp {cs:List Int}{a b:Int}(h0:0<=a)(h:cs[a.toNat]?=some b):gY (cs.map V.int) a=some (.int b):=by
 have e:a=((a.toNat:Nat):Int):=by lia
 have:=aZ (xs:=cs.map V.int) (j:=a.toNat) (v:=.int b) (by rw[aap,h];rfl)
 rw[← e]at this
 show this
def qB (a b:V)(r:List V):dj (a::b::r) none (some 2)=[a,b]:=by
 rw[show(2:Int)=((2:Nat):Int)from rfl,uO _ (by simp)]
 rfl
def GB (xs:List V)(y:V):dj (xs++[y]) none (some (-1))=xs:=by
 unfold dj
 have e0:HT.bz (xs++[y]).length 0 none=0:=rfl
 have e1:HT.bz (xs++[y]).length (xs++[y]).length (some (-1))=xs.length:=by
   rw[Z1]
   unfold HT.bz
   simp
   lia
 rw[e0,e1,abv,abR,List.take_left]
def J2:az ["node","change"] ["node","change"] (aj JV):=cU
def DE {f:Addr}{fd:aaa}(F:bQ K "_law_led" "_law_led" JV f fd)  : aK P w K mg base bJ 1 f fd ["node","change"] xh:=by
 show F.df J2 fun cdv A outer s H vs Q E hr h=>?_
 obtain⟨v,l,e,cs,ls,rfl,na,is,hl,ll,km,q⟩:=h
 show cM ⟨_,(aeg (aeq (aeo aew (aeh aei (Y 0) aef) ael) (aej (aem (aes L3.jw (ae7 (Y 0) aef) (aet (L (aeh aey (Y 1) (aeh aei (Y 0) aef)) (L (aeh aey (Y 1) (aeh aei (Y 0) aef)) M)))))) aer)
   (aeg (aeq (aeo aew (aeh aei (Y 0) aef) ael) (aej (aem (Y 0))) aer)
   (aej (aem (aes L3.jw (ae7 (Y 0) (afd aef)) (aet (L (aeh aey (Y 1) (aeh aei (Y 0) (afd aef))) M))))))),?_⟩
 show ak fun Rk kR=>?_
 match e,na,is,ll,km,q with
 | .put x e n,⟨u,⟨p,ev,hp⟩,a⟩,is,ll,km,q=>
   subst ev
   match ls,ll,km,q with
   | [m],_,km,q=>
     have oA:=km 0 n m rfl rfl
     have hat:=qp oA.1 oA.2
     show⟨_,U,?_⟩
     show aH hp U ?_
     show⟨U,_,U,aA (by left) (kR _ _ ?_)⟩
     show ak fun Rk kR=>?_
     show⟨_,U,?_⟩
     show aH hp U ?_
     show⟨U,_,U,aA (by left) (kR _ _ ?_)⟩
     show⟨_,U,_,U,_,U,p,_,U,aN.of hp,?_,fun a1 ow=>?_⟩
     . rintro⟨_,z⟩
       show aB (show HT.bz 4 4 (some (-1))=4 from z) (by left)
     rw[show([.str "put",.str x,u,.int n]:List V)=[.str "put",.str x,u]++[.int n]from rfl,GB]
     obtain⟨H1,s1,g1,zz⟩:=cm ow (.tup [.str "put",.str x,u])
     rw[zz];clear zz
     show⟨_,U,_,U,_,U,?_⟩
     show aH (s1 _ _ hp) U ?_
     show dF (s1 _ _ hl) hat ?_
     show⟨agl,fun a2 u7=>?_⟩
     obtain⟨H2,s2,g2,zz⟩:=cm u7 (.tup [.int m])
     rw[zz];clear zz
     show⟨a1,a2,_,_,U,U,aN.of (s2 _ _ g1),aN.of g2,(fun z=>nomatch z),ago,(fun z=>nomatch z),fun y p' jR=>?_⟩
     have s3:=af jR (.tup ([.str "put",.str x,u]++[.int m]))
     show q (.ref p') _ (aa s1 (aa s2 s3)) ⟨u,⟨p',U,ae⟩,a.keep (ag.tk (aa s1 (aa s2 s3)))⟩
 | .say e n,⟨u,⟨p,ev,hp⟩,a⟩,is,ll,km,q=>
   subst ev
   match ls,ll,km,q with
   | [m],_,km,q=>
     have oA:=km 0 n m rfl rfl
     have hat:=qp oA.1 oA.2
     show⟨_,U,?_⟩
     show aH hp U ?_
     show⟨U,_,U,aA (by left) (kR _ _ ?_)⟩
     show ak fun Rk kR=>?_
     show⟨_,U,?_⟩
     show aH hp U ?_
     show⟨U,_,U,aA (by left) (kR _ _ ?_)⟩
     show⟨_,U,_,U,_,U,p,_,U,aN.of hp,?_,fun a1 ow=>?_⟩
     . rintro⟨_,z⟩
       show aB (show HT.bz 3 3 (some (-1))=3 from z) (by left)
     rw[show([.str "say",u,.int n]:List V)=[.str "say",u]++[.int n]from rfl,GB]
     obtain⟨H1,s1,g1,zz⟩:=cm ow (.tup [.str "say",u])
     rw[zz];clear zz
     show⟨_,U,_,U,_,U,?_⟩
     show aH (s1 _ _ hp) U ?_
     show dF (s1 _ _ hl) hat ?_
     show⟨agl,fun a2 u7=>?_⟩
     obtain⟨H2,s2,g2,zz⟩:=cm u7 (.tup [.int m])
     rw[zz];clear zz
     show⟨a1,a2,_,_,U,U,aN.of (s2 _ _ g1),aN.of g2,(fun z=>nomatch z),agn,(fun z=>nomatch z),fun y p' jR=>?_⟩
     have s3:=af jR (.tup ([.str "say",u]++[.int m]))
     show q (.ref p') _ (aa s1 (aa s2 s3)) ⟨u,⟨p',U,ae⟩,a.keep (ag.tk (aa s1 (aa s2 s3)))⟩
 | .test e n o,⟨u,⟨p,ev,hp⟩,a⟩,is,ll,km,q=>
   subst ev
   match ls,ll,km,q with
   | [m,m2],_,km,q=>
     have oA:=km 0 n m rfl rfl
     have ko:=km 1 o m2 rfl rfl
     have hat:=qp oA.1 oA.2
     have Nz:=qp ko.1 ko.2
     show⟨_,U,?_⟩
     show aH hp U ?_
     show⟨U,_,U,cJ ?_⟩
     show⟨_,U,_,U,p,_,U,aN.of hp,?_,fun a1 ow=>?_⟩
     . rintro⟨_,z⟩
       show aB (show HT.bz 4 4 (some 2)=4 from z) (by left)
     rw[qB]
     obtain⟨H1,s1,g1,zz⟩:=cm ow (.tup [.str "test",u])
     rw[zz];clear zz
     show⟨_,U,_,U,?_⟩
     show aH (s1 _ _ hp) U ?_
     show dF (s1 _ _ hl) hat ?_
     show⟨_,U,_,U,?_⟩
     show aH (s1 _ _ hp) U ?_
     show dF (s1 _ _ hl) Nz ?_
     show⟨agm,fun a2 u7=>?_⟩
     obtain⟨H2,s2,g2,zz⟩:=cm u7 (.tup [.int m,.int m2])
     rw[zz];clear zz
     show⟨a1,a2,_,_,U,U,aN.of (s2 _ _ g1),aN.of g2,(fun z=>nomatch z),ago,(fun z=>nomatch z),fun y p' jR=>?_⟩
     have s3:=af jR (.tup ([.str "test",u]++[.int m,.int m2]))
     show q (.ref p') _ (aa s1 (aa s2 s3)) ⟨u,⟨p',U,ae⟩,a.keep (ag.tk (aa s1 (aa s2 s3)))⟩
 | .fin,⟨p,ev,hp⟩,is,ll,km,q=>
   subst ev
   show⟨_,U,?_⟩
   show aH hp U ?_
   show⟨U,_,U,aA (by left) (kR _ _ ?_)⟩
   show ak fun Rk kR=>?_
   show⟨_,U,?_⟩
   show aH hp U ?_
   show⟨U,_,U,cJ ?_⟩
   show⟨_,U,q _ _ (same_refl _) ⟨p,U,hp⟩⟩
abbrev wR:Stmt:=top 6
def eT:Sp:=fun vs H Q z=>∃(v:V) (nd:Np),vs=[v]/\aG H v nd/\∀l H',ag H H'->H' l=some (.lst (nd.aU.map V.int))->Q (.ref l) H'
def zX:az ["node"] ["node"] (aj wR):=cU
def vU {f:Addr}{fd:aaa}(F:bQ K "leads_of" "leads_of" wR f fd)  : aK P w K mg base bJ 1 f fd ["node"] eT:=by
 show F.df zX fun cdv A outer s H vs Q E hr h=>?_
 obtain⟨v,nd,rfl,hn,q⟩:=h
 show cM ⟨_,(aeg (aeq (aeo aew (aeh aei (Y 0) aef) ael) (aej (aem (aeu M))) aer)
   (aeg (aeq (aeo aew (aeh aei (Y 0) aef) ael) (aej (aem (aeu (L (aeh aei (Y 0) aef) M)))) aer)
   (aeg (aeq (aeo aeW (aeh aei (Y 0) aef) (aet (L ael (L ael M))) U) (aej (aem (aeu (L (aeh aei (Y 0) aef) M)))) aer)
   (aej (aem (aeu (L (aeh aei (Y 0) aef) (L (aeh aei (Y 0) aef) M)))))))),?_⟩
 cases nd with
 | fin=>
   obtain⟨x,rfl,hx⟩:=hn
   show⟨_,U,?_⟩
   show aH hx U ?_
   show⟨U,_,U,?_⟩
   show bE (fun z=>?_) (fun c=>aB (dE rfl) c)
   show⟨agk,fun l hl=>q l _ (af hl _) ae⟩
 | put nm e n=>
   obtain⟨u,⟨x,rfl,hx⟩,eu⟩:=hn
   show⟨_,U,?_⟩
   show aH hx U ?_
   show⟨U,_,U,?_⟩
   show bE (fun c=>aB (iN c) (by left)) (fun z=>?_)
   show⟨_,U,?_⟩
   show aH hx U ?_
   show⟨U,_,U,?_⟩
   show bE (fun z=>?_) (fun c=>aB (dE rfl) c)
   show⟨_,U,?_⟩
   show aH hx U ?_
   show⟨agl,fun l hl=>q l _ (af hl _) ae⟩
 | say e n=>
   obtain⟨u,⟨x,rfl,hx⟩,eu⟩:=hn
   show⟨_,U,?_⟩
   show aH hx U ?_
   show⟨U,_,U,?_⟩
   show bE (fun c=>aB (iN c) (by left)) (fun z=>?_)
   show⟨_,U,?_⟩
   show aH hx U ?_
   show⟨U,_,U,?_⟩
   show bE (fun c=>aB (iN c) (by left)) (fun z=>?_)
   show⟨_,U,?_⟩
   show aH hx U ?_
   show⟨agm,fun t0 m8=>⟨t0,_,U,.inr (aN.of ae),U,U,_,U,?_⟩⟩
   have s0:=af m8 (.tup [.str "say",.str "pick"])
   generalize upd H t0 (.tup [.str "say",.str "pick"])=H0 at s0 ⊢
   have hx:=s0 _ _ hx
   show bE (fun z=>?_) (fun c=>aB (show oC (.str "say") _=true by left) c)
   show⟨_,U,?_⟩
   show aH hx U ?_
   show⟨agl,fun l hl=>q l _ (aa s0 (af hl _)) ae⟩
 | pick nm n=>
   obtain⟨x,rfl,hx⟩:=hn
   show⟨_,U,?_⟩
   show aH hx U ?_
   show⟨U,_,U,?_⟩
   show bE (fun c=>aB (iN c) (by left)) (fun z=>?_)
   show⟨_,U,?_⟩
   show aH hx U ?_
   show⟨U,_,U,?_⟩
   show bE (fun c=>aB (iN c) (by left)) (fun z=>?_)
   show⟨_,U,?_⟩
   show aH hx U ?_
   show⟨agm,fun t0 m8=>⟨t0,_,U,.inr (aN.of ae),U,U,_,U,?_⟩⟩
   have s0:=af m8 (.tup [.str "say",.str "pick"])
   generalize upd H t0 (.tup [.str "say",.str "pick"])=H0 at s0 ⊢
   have hx:=s0 _ _ hx
   show bE (fun z=>?_) (fun c=>aB (show oC (.str "pick") _=true by left) c)
   show⟨_,U,?_⟩
   show aH hx U ?_
   show⟨agl,fun l hl=>q l _ (aa s0 (af hl _)) ae⟩
 | test c n o=>
   obtain⟨u,⟨x,rfl,hx⟩,eu⟩:=hn
   show⟨_,U,?_⟩
   show aH hx U ?_
   show⟨U,_,U,?_⟩
   show bE (fun c=>aB (iN c) (by left)) (fun z=>?_)
   show⟨_,U,?_⟩
   show aH hx U ?_
   show⟨U,_,U,?_⟩
   show bE (fun c=>aB (iN c) (by left)) (fun z=>?_)
   show⟨_,U,?_⟩
   show aH hx U ?_
   show⟨agm,fun t0 m8=>⟨t0,_,U,.inr (aN.of ae),U,U,_,U,?_⟩⟩
   have s0:=af m8 (.tup [.str "say",.str "pick"])
   generalize upd H t0 (.tup [.str "say",.str "pick"])=H0 at s0 ⊢
   have hx:=s0 _ _ hx
   show bE (fun c=>aB c (by left)) (fun z=>?_)
   show⟨_,U,?_⟩
   show aH hx U ?_
   show⟨_,U,?_⟩
   show aH hx U ?_
   show⟨agm,fun l hl=>q l _ (aa s0 (af hl _)) ae⟩
def k6 (K:ZV)(H:Hp)(v:V)(xs:List V):Prop:=∃p,v=.ref p/\(H p=some (.tup xs)\/∀H',aN K H' p xs)
def k6.keep {K:ZV}{H H':Hp}{v:V}{xs:List V}(k:TK H H')(h:k6 K H v xs):k6 K H' v xs:=by obtain⟨p,e,z⟩:=h;show⟨p,e,z.elim (fun z=>.inl (k _ _ z)) .inr⟩
def k6.sq {K:ZV}{H:Hp}{v:V}{xs:List V}(h:k6 K H v xs):∃p,v=.ref p/\aN K H p xs:=by obtain⟨p,e,z⟩:=h;show⟨p,e,z.elim aN.of (fun z=>z H)⟩
def Tp.k {K:ZV}{H:Hp}{v:V}{xs:List V}(h:Tp H v xs):k6 K H v xs:=by obtain⟨p,e,z⟩:=h;show⟨p,e,.inl z⟩
def EK (K:ZV)(H:Hp):V->E->Prop
 | v,.num n=>k6 K H v [.str "number",.int n]
 | v,.box t x=>Tp H v [.str t,.str x]
 | v,.yes=>k6 K H v [.str "yes"]
 | v,.nt a=>∃x,k6 K H v [.str "not",x]/\EK K H x a
 | v,.two k a b=>∃x y,k6 K H v [.str k.str,x,y]/\EK K H x a/\EK K H y b
theorem EK.keep {K:ZV}{H H':Hp}(k:TK H H'):∀{e:E} {v:V},EK K H v e->EK K H' v e
 | .num _,_,h=>k6.keep k h
 | .box _ _,_,h=>Tp.keep k h
 | .yes,_,h=>k6.keep k h
 | .nt _,_,⟨x,h,a⟩=>⟨x,h.keep k,EK.keep k a⟩
 | .two _ _ _,_,⟨x,y,h,a,b⟩=>⟨x,y,h.keep k,EK.keep k a,EK.keep k b⟩
theorem cK.ek {K:ZV}{H:Hp}:∀{e:E} {v:V},cK H v e->EK K H v e
 | .num _,_,h=>Tp.k h
 | .box _ _,_,h=>h
 | .yes,_,h=>Tp.k h
 | .nt _,_,⟨x,h,a⟩=>⟨x,Tp.k h,cK.ek a⟩
 | .two _ _ _,_,⟨x,y,h,a,b⟩=>⟨x,y,Tp.k h,cK.ek a,cK.ek b⟩
inductive Jt (k:K2):E->List E->Prop
 | one (e:E):Jt k e [e]
 | two {a b:E} {xs ys:List E}:Jt k a xs->Jt k b ys->Jt k (.two k a b) (xs++ys)
abbrev fg (x:Str):E:=.two .same (.box "mine" x) (.box "yours" x)
theorem Paired.take {α β:Type}{F:α->β->Prop}:∀{a:List α} {b:List β} (n:Nat),Paired F a b->Paired F (a.take n) (b.take n)
 | _,_,0,_=>by rw[aaT,aaT];show .nil
 | _,_,_+1,.nil=>.nil
 | _,_,n+1,.cons r t=>.cons r (Paired.take n t)
theorem Paired.drop {α β:Type}{F:α->β->Prop}:∀{a:List α} {b:List β} (n:Nat),Paired F a b->Paired F (a.drop n) (b.drop n)
 | _,_,0,h=>by rw[abv,abv];show h
 | _,_,_+1,.nil=>.nil
 | _,_,n+1,.cons _ t=>Paired.drop n t
abbrev JW:Stmt:=top 14
abbrev Ba:Stmt:=top 15
abbrev wX:Stmt:=top 16
abbrev iP:Stmt:=top 9
abbrev wK:Stmt:=top 10
abbrev wN:Stmt:=top 17
abbrev wL:Stmt:=top 18
abbrev Bb:Stmt:=top 19
def rG:Sp:=fun vs H Q z=>∃(p l B I N:Addr) (vn:List V) (h:Int),vs=[.ref p,.ref l]/\H p=some (.tup [.ref B,.ref I,.ref N])/\H N=some (.lst vn)/\H l=some (.lst [.int h])/\0<=h/\h<(vn.length:Int)/\Q .br H
def Bf:az ["program","numbers","number"] ["program","numbers"] (aj JW):=cU
def DJ {f:Addr}{fd:aaa}(F:bQ K "refuse_no_nodes" "refuse_no_nodes" JW f fd)(m_len:mg "len"=none):aK P w K mg base bJ 1 f fd ["program","numbers"] rG:=by
 show F.df Bf fun cdv A outer s H vs Q E hr h=>?_
 obtain⟨p,l,B,I,N,vn,h0,rfl,hp,hN,hl,Y7,Y8,q⟩:=h
 show cM ⟨_,(aej (aeJ (aeA (Y 1)) (aep 2 Bf.nd) (aej (aeq (aeF (aeI (aeo aeU (Y 2) aef) (aeP (aeo L3.Dx (Y 2) (aex aeD U m_len aah (L (aeh aei (Y 0) aef) M)))))) L3.never aer)))),?_⟩
 show⟨_,U,l,U,⟨_,aE.of hl⟩,?_⟩
 show bC (xs:=[.int h0]) (fun i σ Hx=>(∃o,σ=[some (.ref p),some (.ref l),o])/\Hx=H) ⟨⟨_,U⟩,U⟩ (fun i σ Hx y z=>by rw[z.2];show aE.of hl) (fun i x0 σ Hx hx z=>?_) (fun σ Hx z=>by rw[z.2];show q)
 obtain⟨⟨o,rfl⟩,rfl⟩:=z
 have ex:x0=.int h0:=by
   match i,hx with
   | 0,hx=>show(aas hx).symm
 subst ex
 show ai ?_
 show⟨_,U,_,_,U,U,_,U,aA (eX (by lia)) ?_⟩
 show⟨_,U,_,U,?_⟩
 show aH hp U ?_
 show⟨N,_,U,.inl (aE.of hN),_,_,U,U,_,U,aA (eX (by lia)) ?_⟩
 show⟨⟨_,U⟩,U⟩
def lE (xs:List V)(k:Nat)(h:k<=xs.length):dj xs none (some (k:Int))=xs.take k:=by
 unfold dj
 have e2:HT.bz xs.length xs.length (some ((k:Nat):Int))=min k xs.length:=HT.eR _ _ _
 rw[e2,HT.nQ,abv,abR,ady h]
def mq:Sp:=fun vs H Q z=>∃(v:V) (l:Addr) (e:Np) (ls:List Int),vs=[v,.ref l]/\aG H v e/\H l=some (.lst (ls.map V.int))/\ls.length=e.aU.length/\∀(v':V) (H':Hp),ag H H'->aG H' v' (e.led ls)->Q v' H'
def aG.parts {H:Hp}:∀{e:Np} {v:V},aG H v e->∃(p:Addr) (as:List V),v=.ref p/\H p=some (.tup (as++e.aU.map V.int))/\as≠[]/\as.length<=3/\∀(ls:List Int) (H':Hp) (p':Addr),TK H H'->ls.length=e.aU.length->H' p'=some (.tup (as++ls.map V.int))->aG H' (.ref p') (e.led ls)
 | .put x s n,_,⟨u,⟨p,rfl,h⟩,a⟩=>⟨p,[.str "put",.str x,u],rfl,h,(fun z=>nomatch z),(by change 3<=3;decide),fun ls H' p' k hl h'=>by
   match ls,hl with
   | [m],_=>show⟨u,⟨p',rfl,h'⟩,a.keep k⟩⟩
 | .say s n,_,⟨u,⟨p,rfl,h⟩,a⟩=>⟨p,[.str "say",u],rfl,h,(fun z=>nomatch z),(by change 2<=3;decide),fun ls H' p' k hl h'=>by
   match ls,hl with
   | [m],_=>show⟨u,⟨p',rfl,h'⟩,a.keep k⟩⟩
 | .test c n o,_,⟨u,⟨p,rfl,h⟩,a⟩=>⟨p,[.str "test",u],rfl,h,(fun z=>nomatch z),(by change 2<=3;decide),fun ls H' p' k hl h'=>by
   match ls,hl with
   | [m,m2],_=>show⟨u,⟨p',rfl,h'⟩,a.keep k⟩⟩
 | .pick x n,_,⟨p,rfl,h⟩=>⟨p,[.str "pick",.str x],rfl,h,(fun z=>nomatch z),(by change 2<=3;decide),fun ls H' p' k hl h'=>by
   match ls,hl with
   | [m],_=>show⟨p',rfl,h'⟩⟩
 | .fin,_,⟨p,rfl,h⟩=>⟨p,[.str "end"],rfl,h,(fun z=>nomatch z),by left,fun ls H' p' k hl h'=>by
   match ls,hl with
   | [],_=>show⟨p',rfl,h'⟩⟩
def Np.Dm:∀e:Np,e.aU.length<=2
 | .put _ _ _=>(by left:1<=2)|.say _ _=>(by left:1<=2)|.test _ _ _=>(by left:2<=2)|.pick _ _=>(by left:1<=2)|.fin=>(by left:0<=2)
def E1:az ["node","leads"] ["node","leads"] (aj Ba):=cU
def yY {f:Addr}{fd:aaa}(F:bQ K "led_anew" "led_anew" Ba f fd)(m_len:mg "len"=none)(m_tuple:mg "tuple"=none):aK P w K mg base bJ 1 f fd ["node","leads"] mq:=by
 show F.df E1 fun cdv A outer s H vs Q E hr h=>?_
 obtain⟨v,l,e,ls,rfl,na,hl,ll,q⟩:=h
 obtain⟨p,as,rfl,hp,Uw,QA,mk⟩:=na.parts
 have e2:=e.Dm
 have lt:(as++e.aU.map V.int).length=as.length+e.aU.length:=by rw[Z1,ZW]
 show cM ⟨_,(aej (aem (aes L3.jw (L3.Pw (Y 0) (aes aeT (aex aeD U m_len aah (L (Y 0) M)) (aex aeD U m_len aah (L (Y 1) M)))) (aeH L3.eM U m_tuple (by right) (L (Y 1) M))))),?_⟩
 show⟨_,U,_,U,p,_,U,.inr (aN.of hp),_,U,l,_,U,.inl (aE.of hl),_,_,U,U,_,U,?_⟩
 have ek:(((as++e.aU.map V.int).length:Int)-((ls.map V.int).length:Int))=((as.length:Nat):Int):=by rw[lt,ZW,ll];lia
 rw[ek]
 have ec:dj (as++e.aU.map V.int) none (some ((as.length:Nat):Int))=as:=by rw[lE _ _ (by lia),List.take_left]
 have i1:HT.bz (as++e.aU.map V.int).length (as++e.aU.map V.int).length (some ((as.length:Nat):Int))=min as.length (as++e.aU.map V.int).length:=HT.eR _ _ _
 have last:∀(a1:Addr) (H1:Hp),ag H H1->H1 a1=some (.tup as)->∃p1 ys,[V.ref l]=[.ref p1]/\aE K H1 p1 ys/\∀t1,H1 t1=none->wz K (.ref a1) (.ref t1) (upd H1 t1 (.tup ys)) Q:=fun a1 H1 s1 g1=>by
   show⟨l,_,U,aE.of (s1 _ _ hl),fun t1 oB=>?_⟩
   have s2:=af oB (.tup (ls.map V.int))
   have g2:(upd H1 t1 (.tup (ls.map V.int))) t1=some (.tup (ls.map V.int)):=ae
   generalize upd H1 t1 (.tup (ls.map V.int))=H2 at s2 g2 ⊢
   show⟨a1,t1,_,_,U,U,aN.of (s2 _ _ g1),aN.of g2,Uw,aar (show _<=1000 by rw[ZW];lia) (by left),fun z=>?_,fun y p' jR=>?_⟩
   . show q _ _ (aa s1 s2) (mk ls H2 a1 (ag.tk (aa s1 s2)) ll ?_)
     rw[z,aaV]
     show s2 _ _ g1
   . show q _ _ (cF (aa s1 s2) jR) (mk ls _ p' (ag.tk (cF (aa s1 s2) jR)) ll ae)
 by_cases hw:e.aU=[]
 . show .inr ⟨p,_,U,aN.of hp,⟨U,?_⟩,?_⟩
   . rw[i1,lt,hw]
     change min as.length (as.length+0)=as.length+0
     lia
   . have eY:H p=some (.tup as):=by rw[hp,hw];simp
     show⟨_,U,last p H (same_refl _) eY⟩
 . show .inl ⟨p,_,U,aN.of hp,fun z=>?_,fun a1 ow=>?_⟩
   . have z2:=z.2
     have:0<e.aU.length:=by
       cases h:e.aU with
       | nil=>show aB h hw
       | cons a l=>show aea _
     rw[i1,lt]at z2
     lia
   . rw[ec]
     show⟨_,U,last a1 _ (af ow _) ae⟩
def iQ:Sp:=fun vs H Q z=>∃(p n B I N:Addr) (vb vi:List V),vs=[.ref p,.ref n]/\H p=some (.tup [.ref B,.ref I,.ref N])/\H B=some (.lst vb)/\H I=some (.lst vi)/\∀(p' B' I':Addr) (H':Hp),ag H H'->H' p'=some (.tup [.ref B',.ref I',.ref n])->H' B'=some (.lst vb)->H' I'=some (.lst vi)->H B'=none->H I'=none->B'≠I'->Q (.ref p') H'
def zY:az ["program","nodes"] ["program","nodes"] (aj wX):=cU
def vX {f:Addr}{fd:aaa}(F:bQ K "with_nodes" "with_nodes" wX f fd)(m_list:mg "list"=none):aK P w K mg base bJ 1 f fd ["program","nodes"] iQ:=by
 show F.df zY fun cdv A outer s H vs Q E hr h=>?_
 obtain⟨p,n,B,I,N,vb,vi,rfl,hp,hB,hI,q⟩:=h
 show cM ⟨_,(aej (aem (aet (L (aeH ae6 U m_list (by right) (L (aeh aei (Y 0) aef) M)) (L (aeH ae6 U m_list (by right) (L (aeh aei (Y 0) aef) M)) (L (Y 1) M)))))),?_⟩
 show⟨_,U,?_⟩
 show aH hp U ?_
 show⟨B,_,U,.inl (aE.of hB),fun B' fE=>?_⟩
 obtain⟨H1,sb,gb,zz⟩:=cm fE (.lst vb)
 rw[zz];clear zz
 show⟨_,U,?_⟩
 show aH (sb _ _ hp) U ?_
 show⟨I,_,U,.inl (aE.of (sb _ _ hI)),fun I' FJ=>?_⟩
 obtain⟨H2,si,gi,zz⟩:=cm FJ (.lst vi)
 rw[zz];clear zz
 show⟨_,U,agn,fun p' jR=>?_⟩
 have s3:=af jR (.tup [.ref B',.ref I',.ref n])
 show q p' B' I' _ (aa sb (aa si s3)) ae (s3 _ _ (si _ _ gb)) (s3 _ _ gi) fE (ah sb FJ) (ar gb FJ)
def nZ (K:ZV)(n:Nat):Sp:=fun vs H Q z=>∃(k:K2) (l:Addr) (us:List V) (es:List E),vs=[.str k.str,.ref l]/\H l=some (.lst us)/\Paired (EK K H) us es/\1<=us.length/\us.length<=2^n/\n<=12/\∀(v:V) (e:E) (H':Hp),ag H H'->EK K H' v e->Jt k e es->(∀d,(∀x∈es,x.dep<=d)->e.dep<=d+n)->Q v H'
def Ce (xs:List V)(k:Nat)(h:k<=xs.length):dj xs (some (k:Int)) none=xs.drop k:=by
 unfold dj
 have e2:HT.bz xs.length 0 (some ((k:Nat):Int))=min k xs.length:=HT.eR _ _ _
 rw[e2,HT.nQ,ady h,aaP (by rw[aa8];lia)]
def jE:az ["word","parts","half"] ["word","parts"] (aj iP):=cU
def DB {f:Addr}{fd:aaa}(F:bQ K "joined_by" "joined_by" iP f fd)(m_len:mg "len"=none):aK P w K mg base bJ 1 f fd ["word","parts"] (nZ K 0):=by
 show F.df jE fun cdv A outer s H vs Q E hr h=>?_
 obtain⟨k,l,us,es,rfl,hl,pe,l1,ln,n9,q⟩:=h
 show cM ⟨_,(aeg (aeq (aeo aew (aex aeD U m_len aah (L (Y 1) M)) aef) (aej (aem (aeh aey (Y 1) aef))) aer)
   L3.never),?_⟩
 have c1:us.length=1:=by
   have:us.length<=1:=ln
   lia
 match us,es,pe,hl,c1 with
 | [u],[e],.cons r .nil,hl,_=>
   show⟨_,U,l,_,U,.inl (aE.of hl),U,_,U,cJ ?_⟩
   show⟨_,U,?_⟩
   show dF hl ot ?_
   show q _ e _ (same_refl _) r (.one e) (fun d hd=>aar (hd e (List.mem_singleton.mpr rfl)) (abB _ _))
def IW {n:Nat}{f:Addr}{fd:aaa}(F:bQ K "joined_by" "joined_by" iP f fd)(m_len:mg "len"=none)(G:aO P w K mg base "joined_by" ["word","parts"] (n+1) (nZ K n)):aK P w K mg base bJ (n+1+1) f fd ["word","parts"] (nZ K (n+1)):=by
 show F.df jE fun cdv A outer s H vs Q E hr h=>?_
 obtain⟨k,l,us,es,rfl,hl,pe,l1,ln,n9,q⟩:=h
 show cM ⟨_,(aeg (aeq (aeo aew (aex aeD U m_len aah (L (Y 1) M)) aef) (aej (aem (aeh aey (Y 1) aef))) aer)
   (aeg (aen 2 jE.nd (aes L3.kE (aex aeD U m_len aah (L (Y 1) M)) aef))
   (aej (aem (aet (L (Y 0) (L (aek G hr U (L (Y 0) (L (L3.xa (Y 1) (Y 2)) M))) (L (aek G hr U (L (Y 0) (L (L3.Px (Y 1) (Y 2)) M))) M)))))))),?_⟩
 show ak fun Rk kR=>?_
 show⟨_,U,l,us,U,.inl (aE.of hl),U,_,U,bE (fun c=>?_) (fun c=>?_)⟩
 . have c1:us.length=1:=by
     have:=oV c
     lia
   have pl:=Paired.length pe
   match us,es,pe,hl,c1 with
   | [u],[e],.cons r .nil,hl,_=>show⟨_,rfl,l,_,_,_,rfl,rfl,aE.of hl,ot,q _ e _ (same_refl _) r (.one e) (fun d hd=>aar (hd e (List.mem_singleton.mpr rfl)) (abB _ _))⟩
 have c1:us.length≠1:=fun z=>c (by rw[z];rfl)
 have pw:2^(n+1)<=2^12:=abd (by left) n9
 have tW:2^(n+1)=2^n*2:=Nat.pow_succ 2 n
 have XZ:(2:Nat)^12=4096:=by left
 show kR _ _ ?_
 show ak fun Rk kR=>?_
 show⟨_,U,l,us,U,.inl (aE.of hl),_,_,U,U,⟨by left,by left⟩,?_⟩
 show ai (kR _ _ ?_)
 show aq [some (.str k.str),some (.ref l),some (.int ((us.length/2:Nat):Int))] (by change[some (V.str k.str),some (V.ref l),some (V.int ((us.length:Int)/2))]=_;rw[show(us.length:Int)/2=((us.length/2:Nat):Int)by lia]) ?_
 show⟨_,U,_,U,_,U,_,U,_,U,l,_,U,aE.of hl,fun a1 ow=>?_⟩
 rw[lE _ _ (by lia)]
 have s1:=af ow (.lst (us.take (us.length/2)))
 have g1:(upd H a1 (.lst (us.take (us.length/2)))) a1=some (.lst (us.take (us.length/2))):=ae
 generalize upd H a1 (.lst (us.take (us.length/2)))=H1 at s1 g1 ⊢
 show⟨k,a1,_,es.take (us.length/2),U,g1,Paired.take _ (Paired.aV pe fun y y z=>EK.keep (ag.tk s1) z),by rw[aac];lia,by rw[aac];lia,by lia,fun v1 e1 H2 s2 ek1 UI GG=>?_⟩
 have s12:=aa s1 s2
 show⟨_,U,_,U,_,U,_,U,l,_,U,aE.of (s12 _ _ hl),fun a2 u7=>?_⟩
 rw[Ce _ _ (by lia)]
 have s3:=af u7 (.lst (us.drop (us.length/2)))
 have g3:(upd H2 a2 (.lst (us.drop (us.length/2)))) a2=some (.lst (us.drop (us.length/2))):=ae
 generalize upd H2 a2 (.lst (us.drop (us.length/2)))=H3 at s3 g3 ⊢
 show⟨k,a2,_,es.drop (us.length/2),U,g3,Paired.drop _ (Paired.aV pe fun y y z=>EK.keep (ag.tk (aa s12 s3)) z),by rw[aa8];lia,by rw[aa8];lia,by lia,fun v2 e2 H4 s4 ek2 UJ Cg=>⟨agn,fun p hp=>?_⟩⟩
 have sp:=af hp (.tup [.str k.str,v1,v2])
 have bt:=Jt.two UI UJ
 rw[acC]at bt
 show q _ (.two k e1 e2) _ (cF (aa s12 (aa s3 s4)) hp) ⟨v1,v2,Tp.k ⟨p,U,ae⟩,EK.keep (ag.tk (aa (aa s3 s4) sp)) ek1,EK.keep (ag.tk sp) ek2⟩ bt (fun d hd=>?_)
 have:=GG d fun x hx=>hd x (aa0 hx)
 have:=Cg d fun x hx=>hd x (abV hx)
 change max e1.dep e2.dep+1<=d+(n+1)
 lia
def Cz (s:Src K mg "joined_by" iP)(m_len:mg "len"=none):∀n:Nat,aO P w K mg base "joined_by" ["word","parts"] (n+1) (nZ K n):=by
 obtain⟨f,fd,F,m⟩:=s
 have b:Binds K fd ["word","parts"] []:=oK F fun z z z z z z z z=>rfl
 intro n
 have all:aK P w K mg base bJ (n+1) f fd ["word","parts"] (nZ K n):=by
   induction n with
   | zero=>show DB F m_len
   | succ n ih=>show IW F m_len ⟨f,fd,ih,F.kp,b,m⟩
 show⟨f,fd,all,F.kp,b,m⟩
def jH (K:ZV)(n:Nat):Sp:=fun vs H Q z=>∃(l:Addr) (us:List V) (es:List E),vs=[.ref l]/\H l=some (.lst us)/\Paired (EK K H) us es/\1<=us.length/\us.length<=2^n/\n<=12/\∀(v:V) (e:E) (H':Hp),ag H H'->EK K H' v e->Jt .both e es->(∀d,(∀x∈es,x.dep<=d)->e.dep<=d+n)->Q v H'
def zV:az ["conditions"] ["conditions"] (aj wK):=cU
def yS {n:Nat}{f:Addr}{fd:aaa}(F:bQ K "all_of" "all_of" wK f fd)(J:aO P w K mg base "joined_by" ["word","parts"] (n+1) (nZ K n)):aK P w K mg base bJ (n+2) f fd ["conditions"] (jH K n):=by
 show F.df zV fun cdv A outer s H vs Q E hr h=>?_
 obtain⟨l,us,es,rfl,hl,pe,l1,l5,n9,q⟩:=h
 show cM ⟨_,(aej (aem (aek J hr U (L ael (L (Y 0) M))))),?_⟩
 show⟨_,U,.both,l,us,es,U,hl,pe,l1,l5,n9,q⟩
def pV (K:ZV):Sp:=fun vs H Q z=>∃(l:Addr) (ns:List Str),vs=[.ref l]/\H l=some (.lst (ns.map V.str))/\ns.length<=4/\∀(v:V) (e:E) (H':Hp),ag H H'->EK K H' v e->Jt .both e (.yes::ns.map fg)->e.dep<=4->Q v H'
def EU:az ["names"] ["names"] (aj wN):=cU
def yV {tY:Addr}{f:Addr}{fd:aaa}(F:bQ K "boxes_same" "boxes_same" wN f fd)(mY:mg "YES"=some (.ref tY))(cY:∀H:Hp,aN K H tY [.str "yes"])(AO0:aO P w K mg base "all_of" ["conditions"] 5 (jH K 3)):aK P w K mg base bJ 9 f fd ["names"] (pV K):=by
 show F.df EU fun cdv A outer s H vs Q E hr h=>?_
 obtain⟨l,ns,rfl,hl,n4,q⟩:=h
 have AO:=AO0.mono (show 5<=8 by lia)
 show cM ⟨_,(aej (aem (aek AO hr U (L (aes aeV (aeu (L (L3.glob (w:=.ref tY) U mY rfl) M)) (aeO [none] ["name"] (iw wN) U (aeA (Y 0)) (fun u u u u u=>⟨(aep 0 (d9 ["name"])),aeE,(aet (L ael (L (aet (L ael (L (Y 0) M))) (L (aet (L ael (L (Y 0) M))) M))))⟩))) M)))),?_⟩
 show⟨agl,fun l1 ko=>?_⟩
 obtain⟨H1,s1,g1,zz⟩:=cm ko (.lst [.ref tY])
 rw[zz];clear zz
 have xP:=s1 _ _ hl
 show⟨_,U,l,U,⟨_,aE.of xP⟩,fun D hD=>?_⟩
 show bo (xs:=ns.map V.str) (fun i Hx=>ag H1 Hx/\∃us,Hx D=some (.lst us)/\us.length=i/\Paired (EK K Hx) us ((ns.take i).map fg)) ⟨af hD _,[],ae,U,.nil⟩ (fun i Hx u z=>aE.of (z.1 _ _ xP)) (fun i x0 Hx hx z=>?_) (fun Hx z=>?_)
 . obtain⟨sx,us,gD,ul,pe⟩:=z
   have cX:=(aT hx)
   rw[ZW]at cX
   obtain⟨xn,Oo,rfl⟩:=bG hx
   show ai ?_
   show bI (A:=fun H5=>cp _ D _ H5 _) ?_
   show⟨_,U,agm,fun a1 ow=>⟨_,U,agm,fun a2 u7=>⟨agn,fun a3 Nw=>?_⟩⟩⟩
   have Te:=af Nw (.tup [.str "same",.ref a1,.ref a2])
   have Td:=aa (af u7 (.tup [.str "yours",.str xn])) Te
   have sa:=aa (af ow (.tup [.str "mine",.str xn])) Td
   have MY:=sa _ _ gD
   have k1:=Td a1 (.tup [.str "mine",.str xn]) ae
   have k2:=Te a2 (.tup [.str "yours",.str xn]) ae
   have k3:(upd (upd (upd Hx a1 (.tup [.str "mine",.str xn])) a2 (.tup [.str "yours",.str xn])) a3 (.tup [.str "same",.ref a1,.ref a2])) a3=some (.tup [.str "same",.ref a1,.ref a2]):=ae
   generalize upd (upd (upd Hx a1 (.tup [.str "mine",.str xn])) a2 (.tup [.str "yours",.str xn])) a3 (.tup [.str "same",.ref a1,.ref a2])=Hy at sa MY k1 k2 k3 ⊢
   have L8:TK Hy (upd Hy D (.lst (us++[.ref a3]))):=TW.TK.lst MY
   show⟨us,MY,aC (by lia),aD (Pv:=fun i Hx=>ag H1 Hx/\∃us,Hx D=some (.lst us)/\us.length=i/\Paired (EK K Hx) us ((ns.take i).map fg)) (by repeat' constructor) (by rw[ZW];show cX) ⟨av (aa sx sa) hD,us++[.ref a3],ae,by rw[Z1,ul];rfl,?_⟩⟩
   rw[aad,Oo,Z9]
   show Paired.snoc (Paired.aV pe fun u u z=>EK.keep ((ag.tk sa).trans L8) z) ⟨_,_,Tp.k ⟨a3,U,L8 _ _ k3⟩,⟨a1,U,L8 _ _ k1⟩,⟨a2,U,L8 _ _ k2⟩⟩
 obtain⟨sx,us,gD,ul,pe⟩:=z
 rw[ZW]at ul
 rw[ZW,aag]at pe
 show⟨l1,D,_,_,U,U,sx _ _ g1,gD,small (by rw[abP];lia),fun r RR=>?_⟩
 have sr:=af RR (.lst ([.ref tY]++us))
 show⟨r,_,.yes::ns.map fg,U,ae,.cons ⟨tY,U,.inr cY⟩ (Paired.aV pe fun u u z=>EK.keep (ag.tk sr) z),by rw[Z1,abP];lia,by rw[Z1,abP];change _<=8;lia,by left,fun v e H' s' ek bt dp=>?_⟩
 show q v e H' (aa (cF (aa s1 sx) RR) s') ek bt (dp 1 fun x hx=>?_)
 rcases bT hx with rfl|hx
 . show aan _
 . obtain⟨y,_,rfl⟩:=bF hx
   show Z0 _
def pT (K:ZV):Sp:=fun vs H Q z=>∃(p B I N:Addr) (vb:List V) (bs:ao),vs=[.ref p]/\H p=some (.tup [.ref B,.ref I,.ref N])/\H B=some (.lst vb)/\Paired (cB H) vb bs/\bs.length<=4/\∀(v:V) (e:E) (H':Hp),ag H H'->EK K H' v e->Jt .both e (.yes::(bs.map (·.1)).map fg)->e.dep<=4->Q v H'
def ER:az ["program"] ["program"] (aj wL):=cU
def yT {f:Addr}{fd:aaa}(F:bQ K "all_same" "all_same" wL f fd)(BS:aO P w K mg base "boxes_same" ["names"] 9 (pV K)):aK P w K mg base bJ 10 f fd ["program"] (pT K):=by
 show F.df ER fun cdv A outer s H vs Q E hr h=>?_
 obtain⟨p,B,I,N,vb,bs,rfl,hp,hB,pb,b4,q⟩:=h
 have vl:=Paired.length pb
 show cM ⟨_,(aej (aem (aek BS hr U (L (aeO [none,none] ["name","size"] (iw wL) U (aeA (aeh aei (Y 0) aef)) (fun y y y y y=>⟨(aeC 2 (aev (aep 0 (d9 ["name","size"])) (aev (aep 1 (d9 ["name","size"])) aeB))),aeE,(Y 0)⟩)) M)))),?_⟩
 show⟨_,U,?_⟩
 show aH hp U ?_
 show⟨B,U,⟨_,aE.of hB⟩,fun D hD=>?_⟩
 show bo (xs:=vb) (fun i Hx=>ag H Hx/\Hx D=some (.lst (((bs.take i).map (·.1)).map V.str))) ⟨af hD _,ae⟩ (fun i Hx y z=>aE.of (z.1 _ _ hB)) (fun i x0 Hx hx z=>?_) (fun Hx z=>?_)
 . obtain⟨sx,gD⟩:=z
   have cX:=(aT hx)
   obtain⟨b,gm,pp,rfl,lH⟩:=Paired.get pb hx
   show kT (sx _ _ lH) ?_
   show bI (A:=fun H5=>cp _ D _ H5 _) ?_
   show⟨_,U,_,gD,aC (by rw[ZW,ZW,aac];lia),aD (Pv:=fun i Hx=>ag H Hx/\Hx D=some (.lst (((bs.take i).map (·.1)).map V.str))) (by repeat' constructor) cX ⟨av sx hD,?_⟩⟩
   rw[ae,aad,gm,Z9,Z9]
   rfl
 obtain⟨sx,gD⟩:=z
 rw[vl,aag]at gD
 show⟨D,_,U,gD,by rw[ZW];lia,fun v e H' s' ek bt dp=>q v e H' (aa sx s') ek bt dp⟩
def Np.hd:Np->Str
 | .put _ _ _=>"put" | .say _ _=>"say" | .test _ _ _=>"test" | .pick _ _=>"pick" | .fin=>"end"
def aG.head {H:Hp}:∀{e:Np} {v:V},aG H v e->∃(p:Addr) (as:List V),v=.ref p/\H p=some (.tup (.str e.hd::as))
 | .put _ _ _,_,⟨_,⟨p,h,a⟩,_⟩=>⟨p,_,h,a⟩
 | .say _ _,_,⟨_,⟨p,h,a⟩,_⟩=>⟨p,_,h,a⟩
 | .test _ _ _,_,⟨_,⟨p,h,a⟩,_⟩=>⟨p,_,h,a⟩
 | .pick _ _,_,⟨p,h,a⟩=>⟨p,_,h,a⟩
 | .fin,_,⟨p,h,a⟩=>⟨p,_,h,a⟩
def fk (tO:Addr)(H:Hp)(v u:V)(e:Int×Int×Str):Prop:=Tp H v [.int e.1,.int e.2.1,u,.str (if e.2.2="end" then "end" else "both"),.ref tO]
def fk.keep {tO:Addr}{H H':Hp}(k:TK H H'){v u:V}{e:Int×Int×Str}(h:fk tO H v u e):fk tO H' v u e:=Tp.keep k h
def mv (tO:Addr):Sp:=fun vs H Q z=>∃(p B I N:Addr) (vn:List V) (e:Np) (j:Nat) (n:Int) (u x:V),vs=[.ref p,.int (j:Int),.int n,u]/\H p=some (.tup [.ref B,.ref I,.ref N])/\H N=some (.lst vn)/\vn[j]?=some x/\aG H x e/\∀(v:V) (H':Hp),ag H H'->fk tO H' v u ((j:Int),n,e.hd)->Q v H'
def wZ:az ["program","place","new_place","condition","who"] ["program","place","new_place","condition"] (aj Bb):=cU
def yZ {tO:Addr}{f:Addr}{fd:aaa}(F:bQ K "level_entry" "level_entry" Bb f fd)(mO:mg "NOUGHT"=some (.ref tO)):aK P w K mg base bJ 1 f fd ["program","place","new_place","condition"] (mv tO):=by
 show F.df wZ fun cdv A outer s H vs Q E hr h=>?_
 obtain⟨p,B,I,N,vn,e,j,n,u,x,rfl,hp,hN,hx,na,q⟩:=h
 obtain⟨px,as,rfl,fF⟩:=na.head
 show cM ⟨_,(aeg (aen 4 wZ.nd (L3.Ib (aeo aew (aeh aei (aeh aey (aeh aei (Y 0) aef) (Y 1)) aef) ael) ael ael))
   (aej (aem (aet (L (Y 1) (L (Y 2) (L (Y 3) (L (Y 4) (L (L3.glob (w:=.ref tO) U mO rfl) M))))))))),?_⟩
 show ak fun Rk kR=>?_
 show⟨_,U,?_⟩
 show aH hp U ?_
 show⟨_,U,?_⟩
 show dF hN (aZ hx) ?_
 show aH fF ot ?_
 show⟨U,_,U,?_⟩
 have fin:Rk [some (.ref p),some (.int (j:Int)),some (.int n),some u,some (.str (if e.hd="end" then "end" else "both"))] H:=by
   show kR _ _ ?_
   show⟨_,U,_,U,_,U,_,U,agp,fun p5 Wo=>q _ _ (af Wo _) ⟨p5,U,ae⟩⟩
 show bE (fun c=>?_) (fun c=>?_)
 . have c:e.hd="end":=by
     have:=iN c
     injection this
   rw[ba c]at fin
   show ai ?_
   show fin
 . have c:¬ e.hd="end":=fun z=>c (dE (congrArg V.str z))
   rw[aQ c]at fin
   show ai ?_
   show fin
abbrev zS:Stmt:=top 27
abbrev JX:Stmt:=top 26
def aM {c:Prop}[Decidable c]{a b:Prop}(h:c)(x:a):if c then a else b:=by rw[ba h];show x
def fZ {kvs:List (Key×V)}{k:Key}{v:V}{p:Key×V}(h:p∈putK kvs k v):p=(k,v)\/p∈kvs:=by
 unfold putK at h
 split at h
 . obtain⟨q,hq,rfl⟩:=bF h
   split
   . rename_i e
     show .inl (by rw[e])
   . show .inr hq
 . rcases dk h with z|z
   . show .inr z
   . show .inl (bU z)
def iO {kvs:List (Key×V)}{k:Key}{v:V}(h:(kvs.map (·.1)).Nodup):((putK kvs k v).map (·.1)).Nodup:=by
 cases hv:aJ kvs k with
 | none=>show yJ v h hv
 | some u=>
   unfold putK
   rw[ba (by rw[b9,hv];rfl),acD]
   have e:((fun kv:Key×V=>kv.1) ∘ fun kv=>if kv.1=k then(kv.1,v)else kv)=fun kv=>kv.1:=by
     funext kv
     change(if kv.1=k then(kv.1,v)else kv).1=kv.1
     split<;>rfl
   rw[e]
   show h
def lsum:List Str->(Str->Int)->Int
 | [],_=>0
 | x::r,f=>f x+lsum r f
theorem bL {f g:Str->Int}:∀{ns:List Str},(∀x∈ns,f x=g x)->lsum ns f=lsum ns g
 | [],_=>rfl
 | x::r,h=>by change f x+lsum r f=g x+lsum r g;rw[h x (aY (.inl rfl)),bL fun y hy=>h y (aY (.inr hy))]
theorem nj {f g:Str->Int}{c:Int}:∀{ns:List Str},lsum ns (fun x=>f x+c*g x)=lsum ns f+c*lsum ns g
 | []=>by change(0:Int)=0+c*0;lia
 | x::r=>by change f x+c*g x+lsum r _=f x+lsum r f+c*(g x+lsum r g);rw[nj,Int.mul_add];lia
theorem gP {f:Str->Int}{a:Int}{x:Str}:∀{ns:List Str},ns.Nodup->x∈ns->lsum ns (fun y=>if y=x then a else f y)=lsum ns f-f x+a
 | [],_,h=>nomatch h
 | z::r,nd,h=>by
   have LL:=List.nodup_cons.mp nd
   change(if z=x then a else f z)+lsum r _=f z+lsum r f-f x+a
   by_cases e:z=x
   . subst e
     rw[ba rfl,bL (g:=f) (fun y hy=>aQ (fun w:y=z=>LL.1 (w▸hy)))]
     lia
   . rw[aQ e,gP LL.2 ((bT h).resolve_left (fun w=>e w.symm))]
     lia
theorem eQ:∀{ns:List Str},lsum ns (fun z=>0)=0
 | []=>rfl
 | _::r=>by change 0+lsum r (fun z=>0)=0;rw[eQ];rfl
def cf (kvs:List (Key×V))(x:Str):Int:=match aJ kvs (.inr x)with
 | some (.int c)=>c
 | _=>0
def dm {kvs:List (Key×V)}{x:Str}{c:Int}(h:aJ kvs (.inr x)=some (.int c)):cf kvs x=c:=by unfold cf;rw[h]
def uk {c:Int}{y:Str}(h:y≠""):aJ [((.inr "":Key),V.int c)] (.inr y)=none:=by
 have e:([((.inr "":Key),V.int c)]:List (Key×V))=putK [] (.inr "") (.int c):=rfl
 rw[e,aW,aQ (fun z=>h (by injection z))]
 rfl
def cL {kvs:List (Key×V)}{x:Str}(h:aJ kvs (.inr x)=none):cf kvs x=0:=by unfold cf;rw[h]
def yD (ns:List Str)(kvs:List (Key×V))(g:Str->Int):Int:=cf kvs "" + lsum ns (fun x=>cf kvs x*g x)
structure fq (ns:List Str)(e:E)(kvs:List (Key×V)):Prop where
 ev:∀W:Str->Str->Int,e.worth W=yD ns kvs (W "box")
 nl:∃c:Int,aJ kvs (.inr "")=some (.int c)
 nd:(kvs.map (·.1)).Nodup
 ks:∀p∈kvs,∃(x:Str) (c:Int),p=(.inr x,.int c)/\(x=""\/x∈ns)
def fq.len {ns:List Str}{e:E}{kvs:List (Key×V)}(h:fq ns e kvs):kvs.length<=ns.length+1:=by
 have:=sub_len (ys:=(Sum.inr "":Key)::ns.map Sum.inr) h.nd fun k hk=>by
   obtain⟨p,hp,rfl⟩:=bF hk
   obtain⟨x,c,rfl,z⟩:=h.ks p hp
   rcases z with rfl|z
   . show aY (.inl rfl)
   . show aY (.inr (fS ⟨x,z,U⟩))
 rw[ZW,aau,ZW]at this
 show this
theorem fq.int {ns:List Str}{kvs:List (Key×V)}(h:∀p∈kvs,∃(x:Str) (c:Int),p=(.inr x,.int c)/\(x=""\/x∈ns))(x:Str):(aJ kvs (.inr x)).getD (.int 0)=.int (cf kvs x)/\((aJ kvs (.inr x)).isSome=true->aJ kvs (.inr x)=some (.int (cf kvs x))):=by
 unfold cf
 cases hv:aJ kvs (.inr x)with
 | none=>show⟨rfl,fun z=>nomatch z⟩
 | some u=>
   unfold aJ at hv
   obtain⟨p,hp,rfl⟩:=Option.map_eq_some_iff.mp hv
   obtain⟨x,c,rfl,_⟩:=h p (List.mem_of_find?_eq_some hp)
   show⟨U,fun y=>rfl⟩
def ik (n:Nat):Sp:=fun vs H Q z=>∃(v:V) (e:E) (ns:List Str),vs=[v]/\cK H v e/\e.dZ/\e.okIn (jN ns)/\e.dep<n/\n<=30/\ns.length<=4/\ns.Nodup/\("":Str)∉ns/\∀(d:Addr) (kvs:List (Key×V)) (H':Hp),ag H H'->H d=none->H' d=some (.dK kvs)->fq ns e kvs->Q (.ref d) H'
def vL {f:Addr}{fd:aaa}:aK P w K mg base bJ 2 f fd ["sum_told"] (ik 0):=by
 have no:∀vs H Q E,¬ ik 0 vs H Q E:=fun vs H Q E h=>by
   obtain⟨v,e,ns,_,_,_,_,h,_⟩:=h
   lia
 show⟨fun vs H Q E h=>aB h (no vs H Q E),fun A outer s H args us vs Q E z z z z h=>aB h (no vs H Q E)⟩
def rD:az ["sum_told","first","second","sign"] ["sum_told"] (aj zS):=cU
def DG {n:Nat}{f:Addr}{fd:aaa}(F:bQ K "parts_of" "parts_of" zS f fd)(m_list:mg "list"=none)(G:aO P w K mg base "parts_of" ["sum_told"] (n+2) (ik n)):aK P w K mg base bJ (n+1+2) f fd ["sum_told"] (ik (n+1)):=by
 show F.df rD fun cdv A outer s H vs Q E hr h=>?_
 obtain⟨v,e,ns,rfl,ev,is,ok,dp,Zz,l4,AV,yP,q⟩:=h
 show cM ⟨_,(aeg (aeq (aeo aew (aeh aei (Y 0) aef) ael) (aej (aem (L3.GD (L3.MA ael (aeh aei (Y 0) aef) L3.QL)))) aer)
   (aeg (aeq (aeo aew (aeh aei (Y 0) aef) ael) (aej (aem (L3.GD (L3.MA ael aef (L3.MA (aeh aei (Y 0) aef) aef L3.QL))))) aer)
   (aeg (aeM (aet (L (aek G hr U (L (aeh aei (Y 0) aef) M)) (L (aek G hr U (L (aeh aei (Y 0) aef) M)) M))) (aeC 2 (aev (aep 1 rD.nd) (aev (aep 2 rD.nd) aeB))))
   (aeg (aen 3 rD.nd (L3.Ib (aeo aew (aeh aei (Y 0) aef) ael) aef (afd aef)))
   (aej (aem (L3.UP [none,some 3,some 1,some 2] ["name","sign","first","second"] (bB hr _ (by left)) (iw zS) U (aeA (aes aeV (aeH L3.qv U m_list (by right) (L (Y 1) M)) (aeH L3.qv U m_list (by right) (L (Y 2) M)))) (fun t t t t t=>⟨(aep 0 (d9 ["name","sign","first","second"])),aeE,(Y 0),(aes aeN (L3.qG (bB hr _ (by left)) (Y 2) (Y 0) aef) (aes aeS (Y 1) (L3.qG (bB hr _ (by left)) (Y 3) (Y 0) aef)))⟩)))))))),?_⟩
 show ak fun Rk kR=>?_
 match e,ev,is,ok,dp,q with
 | .num c,ev,is,ok,dp,q=>
   obtain⟨p,rfl,hp⟩:=ev
   show⟨_,U,?_⟩
   show aH hp U ?_
   show⟨U,_,U,aM (by left) ?_⟩
   show fun d hd=>?_
   have sd:=af hd (.dK [])
   show⟨_,U,?_⟩
   show aH (sd _ _ hp) U ?_
   show⟨ae,[(.inr "",.int c)],U,by change 1<=15;decide,?_⟩
   show q d _ _ (av sd hd) hd ae ⟨fun W=>?_,⟨c,U⟩,by change[(Sum.inr "":Key)].Nodup;decide +kernel,fun r hr=>⟨"",c,bU hr,.inl rfl⟩⟩
   change c=cf [((.inr "":Key),V.int c)] "" + lsum ns _
   rw[dm (c:=c) rfl,bL (g:=fun t=>0) (fun y hy=>by rw[cL,aa2];show uk (fun w=>yP (w▸hy))),eQ]
   lia
 | .box b x,ev,is,ok,dp,q=>
   obtain⟨p,rfl,hp⟩:=ev
   obtain⟨rfl,hx⟩:=ok
   show⟨_,U,?_⟩
   show aH hp U ?_
   show⟨U,_,U,aA (by left) (kR _ _ ?_)⟩
   show ak fun Rk kR=>?_
   show⟨_,U,?_⟩
   show aH hp U ?_
   show⟨U,_,U,aM (by left) ?_⟩
   show fun d hd=>?_
   have sd:=af hd (.dK [])
   show⟨_,U,?_⟩
   show aH (sd _ _ hp) U ?_
   show⟨ae,[(.inr "",.int 0),(.inr x,.int 1)],U,by change 2<=15;decide,?_⟩
   have Ys:x≠"":=fun z=>yP (z▸hx)
   have pk:fq ns (.box "box" x) (putK (putK [] (.inr "") (.int 0)) (.inr x) (.int 1)):=by
     have n1:((putK ([]:List (Key×V)) (.inr "") (.int 0)).map (·.1)).Nodup:=iO abh
     show⟨fun W=>?_,?_,iO n1,fun r hr=>?_⟩
     . have ca:∀y,cf (putK (putK [] (.inr "") (.int 0)) (.inr x) (.int 1)) y=if y=x then 1 else 0:=fun y=>by
         by_cases c:y=x
         . rw[ba c]
           show dm (by rw[aW,ba (by rw[c])])
         . rw[aQ c]
           by_cases c2:y=""
           . show dm (by rw[aW,aQ (fun z=>c (by injection z)),aW,ba (by rw[c2])])
           . show cL (by rw[aW,aQ (fun z=>c (by injection z)),aW,aQ (fun z=>c2 (by injection z))];rfl)
       change W "box" x=cf _ "" + lsum ns _
       rw[ca,aQ (fun z=>Ys z.symm),bL (g:=fun y=>if y=x then W "box" x else 0) (fun y t=>by rw[ca];split;rename_i c;rw[c,acs];show aa2 _),gP (f:=fun t=>0) AV hx,eQ]
       lia
     . rw[aW]
       split
       . show⟨1,U⟩
       . show⟨0,U⟩
     . rcases fZ hr with rfl|z
       . show⟨x,1,U,.inr hx⟩
       . rcases fZ z with rfl|z
         . show⟨"",0,U,.inl rfl⟩
         . show nomatch z
   show q d _ _ (av sd hd) hd ae pk
 | .two kk a b,ev,is,ok,dp,q=>
   obtain⟨x,y,⟨p,rfl,hp⟩,ea,eb⟩:=ev
   have dp:max a.dep b.dep+1<n+1:=dp
   obtain⟨hk,Ov,Ow⟩ : (kk=.plus\/kk=.less)/\a.dZ/\b.dZ:=by
     cases kk with
     | plus=>show⟨.inl rfl,is.1,is.2⟩
     | less=>show⟨.inr rfl,is.1,is.2⟩
     | same=>show is.elim
     | under=>show is.elim
     | both=>show is.elim
   have OY:=ok.1
   have XE:=ok.2
   have da:a.dep<n:=by lia
   have db:b.dep<n:=by lia
   show⟨_,U,?_⟩
   show aH hp U ?_
   show⟨rfl,_,rfl,aA (by rcases hk with rfl|rfl<;>decide) (kR _ _ ?_)⟩
   show ak fun Rk kR=>?_
   show⟨_,U,?_⟩
   show aH hp U ?_
   show⟨rfl,_,rfl,aA (by rcases hk with rfl|rfl<;>decide) (kR _ _ ?_)⟩
   show ak fun Rk kR=>?_
   show⟨_,U,?_⟩
   show aH hp U ?_
   show⟨x,a,ns,U,ea,Ov,OY,da,by lia,l4,AV,yP,fun d1 qM H1 s1 n1 g1 JC=>?_⟩
   have e7:=s1 _ _ hp
   show⟨_,U,?_⟩
   show aH e7 U ?_
   show⟨y,b,ns,U,eb.keep (ag.tk s1),Ow,XE,db,by lia,l4,AV,yP,fun d2 bS H2 s2 n2 g2 LQ=>?_⟩
   show⟨agm,fun t0 m8=>?_⟩
   have s3:=af m8 (.tup [.ref d1,.ref d2])
   have g3:(upd H2 t0 (.tup [.ref d1,.ref d2])) t0=some (.tup [.ref d1,.ref d2]):=ae
   have MU:=s3 _ _ (s2 _ _ g1)
   have MV:=s3 _ _ g2
   generalize upd H2 t0 (.tup [.ref d1,.ref d2])=H3 at s3 g3 MU MV ⊢
   show kT g3 ?_
   show kR _ _ ?_
   show aq [some (.ref p),some (.ref d1),some (.ref d2),none] U ?_
   show ak fun Rk kR=>?_
   have s03:=aa s1 (aa s2 s3)
   have sgn:∀sg:Int,((sg=1/\kk=.plus)\/(sg=-1/\kk=.less))->Rk [some (.ref p),some (.ref d1),some (.ref d2),some (.int sg)] H3:=fun sg RS=>by
     show kR _ _ ?_
     have l1:=JC.len
     have l2:=LQ.len
     have big:1000<=sizeLine:=by left
     show⟨_,U,d1,qM,U,MU,fun m1 hm1=>?_⟩
     have s4:=af hm1 (.lst (qM.map fun kv=>kV kv.1))
     have h4:(upd H3 m1 (.lst (qM.map fun kv=>kV kv.1))) m1=some (.lst (qM.map fun kv=>kV kv.1)):=ae
     generalize upd H3 m1 (.lst (qM.map fun kv=>kV kv.1))=Qp at s4 h4 ⊢
     show⟨_,U,d2,bS,U,s4 _ _ MV,fun m2 hm2=>?_⟩
     have s5:=af hm2 (.lst (bS.map fun kv=>kV kv.1))
     have h5:(upd Qp m2 (.lst (bS.map fun kv=>kV kv.1))) m2=some (.lst (bS.map fun kv=>kV kv.1)):=ae
     generalize upd Qp m2 (.lst (bS.map fun kv=>kV kv.1))=Qq at s5 h5 ⊢
     show⟨m1,m2,_,_,U,U,s5 _ _ h4,h5,(by rw[ZW,ZW];lia),fun m3 HN=>?_⟩
     obtain⟨k1,ek1⟩ : ∃k1,k1=qM.map (·.1):=⟨_,rfl⟩
     obtain⟨k2,ek2⟩ : ∃k2,k2=bS.map (·.1):=⟨_,rfl⟩
     have U5:(qM.map fun kv=>kV kv.1)++(bS.map fun kv=>kV kv.1)=(k1++k2).map kV:=by rw[Z9,ek1,ek2,acD,acD];rfl
     rw[U5]
     have s6:=af HN (.lst ((k1++k2).map kV))
     have h6:(upd Qq m3 (.lst ((k1++k2).map kV))) m3=some (.lst ((k1++k2).map kV)):=ae
     generalize upd Qq m3 (.lst ((k1++k2).map kV))=H4 at s6 h6 ⊢
     have s36:=aa s4 (aa s5 s6)
     have Ra:=s36 _ _ MU
     have G4:=s36 _ _ MV
     have kl:(k1++k2).length<=10:=by rw[Z1,ek1,ek2,ZW,ZW];lia
     have kin:∀k∈k1++k2,∃x:Str,k=.inr x/\(x=""\/x∈ns):=fun k hk=>by
       rcases dk hk with z|z
       . rw[ek1]at z
         obtain⟨r,hr,rfl⟩:=bF z
         obtain⟨x,c,rfl,w⟩:=JC.ks r hr
         show⟨x,U,w⟩
       . rw[ek2]at z
         obtain⟨r,hr,rfl⟩:=bF z
         obtain⟨x,c,rfl,w⟩:=LQ.ks r hr
         show⟨x,U,w⟩
     show⟨m3,U,⟨_,aE.of h6⟩,fun D hD=>?_⟩
     show bo (xs:=(k1++k2).map kV) (fun(i:Nat) (Hx:Hp)=>ag H4 Hx/\∃kvs,Hx D=some (.dK kvs)/\(kvs.map (·.1)).Nodup/\(∀q∈kvs,∃(x:Str) (c:Int),q=(.inr x,.int c)/\(x=""\/x∈ns))/\(∀y:Str,((Sum.inr y:Key)∈(k1++k2).take i->aJ kvs (.inr y)=some (.int (cf qM y+sg*cf bS y)))/\((Sum.inr y:Key)∉(k1++k2).take i->aJ kvs (.inr y)=none))/\kvs.length<=i) ⟨af hD _,[],ae,abh,(fun r hr=>nomatch hr),(fun y=>⟨fun z=>aB z (by rw[aaT];show fun z=>nomatch z),fun t=>rfl⟩),Z0 _⟩ (fun i Hx t z=>aE.of (z.1 _ _ h6)) (fun i x0 Hx hx z=>?_) (fun Hx z=>?_)
     . obtain⟨sx,kvs,gD,nd,ks,inn,OC⟩:=z
       have cX:=(aT hx)
       obtain⟨k,hk,rfl⟩:=bG hx
       obtain⟨x1,rfl,w1⟩:=kin k (ZZ hk)
       show ai ?_
       show bI (A:=fun H5=>vz _ _ D _ H5 _) ?_
       have ME:=(fq.int JC.ks x1).1
       have MF:=(fq.int LQ.ks x1).1
       have e1:dv Hx d1 (.str x1) (aJ qM (.inr x1)):=dv.k (k:=.inr x1) (sx _ _ Ra)
       have e2:dv Hx d2 (.str x1) (aJ bS (.inr x1)):=dv.k (k:=.inr x1) (sx _ _ G4)
       show⟨_,U,_,U,d1,U,.inl ⟨_,.inl (sx _ _ Ra)⟩,_,U,_,e1,?_⟩
       rw[ME]
       show⟨_,U,_,U,d2,U,.inl ⟨_,.inl (sx _ _ G4)⟩,_,U,_,e2,?_⟩
       rw[MF]
       show⟨_,_,rfl,rfl,.inl (by rcases RS with⟨rfl,_⟩|⟨rfl,_⟩;show⟨by left,by left⟩;show⟨by left,by left⟩),_,_,rfl,rfl,_,iW.k (k:=.inr x1) gD (aC (by rw[ZW]at cX;lia)),aD (Pv:=fun(i:Nat) (Hx:Hp)=>ag H4 Hx/\∃kvs,Hx D=some (.dK kvs)/\(kvs.map (·.1)).Nodup/\(∀q∈kvs,∃(x:Str) (c:Int),q=(.inr x,.int c)/\(x=""\/x∈ns))/\(∀y:Str,((Sum.inr y:Key)∈(k1++k2).take i->aJ kvs (.inr y)=some (.int (cf qM y+sg*cf bS y)))/\((Sum.inr y:Key)∉(k1++k2).take i->aJ kvs (.inr y)=none))/\kvs.length<=i) (by repeat' constructor) cX ⟨av sx hD,_,ae,iO nd,fun r hr=>?_,fun y=>?_,?_⟩⟩
       . rcases fZ hr with rfl|z
         . show⟨x1,_,U,w1⟩
         . show ks r z
       . rw[aW,aad,hk]
         by_cases c:y=x1
         . rw[ba (by rw[c]),c]
           show⟨fun t=>rfl,fun z=>aB (iz (.inr (List.mem_singleton.mpr rfl))) z⟩
         . have c2:¬ (Sum.inr y:Key)=.inr x1:=fun z=>c (by injection z)
           rw[aQ c2]
           show⟨fun z=>(inn y).1 ((dk z).resolve_right (fun z=>c2 (bU z))),fun z=>(inn y).2 (fun w=>z (iz (.inl w)))⟩
       . show aar (bj _ _ _) (by lia)
     obtain⟨sx,kvs,gD,nd,ks,inn,OC⟩:=z
     rw[ZW,aag]at inn
     have m1:(Sum.inr "":Key)∈k1++k2:=by
       obtain⟨c,hc⟩:=JC.nl
       have hm:=cA hc
       rw[← ek1]at hm
       show iz (.inl hm)
     have nl:∃c:Int,aJ kvs (.inr "")=some (.int c):=⟨_,(inn "").1 m1⟩
     have ca:∀y,cf kvs y=cf qM y+sg*cf bS y:=fun y=>by
       rcases Classical.em ((Sum.inr y:Key)∈k1++k2)with c|c
       . show dm ((inn y).1 c)
       . have c1:aJ qM (.inr y)=none:=by
           cases hv:aJ qM (.inr y)with
           | none=>rfl
           | some u=>show aB (iz (.inl (ek1▸cA hv))) c
         have c2:aJ bS (.inr y)=none:=by
           cases hv:aJ bS (.inr y)with
           | none=>rfl
           | some u=>show aB (iz (.inr (ek2▸cA hv))) c
         rw[cL ((inn y).2 c),cL c1,cL c2]
         lia
     have ev:∀W:Str->Str->Int,(TW.E.two kk a b).worth W=yD ns kvs (W "box"):=fun W=>by
       have e9:(TW.E.two kk a b).worth W=a.worth W+sg*b.worth W:=by
         rcases RS with⟨rfl,rfl⟩|⟨rfl,rfl⟩
         . change _+_=_
           lia
         . change _-_=_
           lia
       rw[e9,JC.ev W,LQ.ev W]
       unfold yD
       have el:lsum ns (fun x=>cf kvs x*W "box" x)=lsum ns (fun x=>cf qM x*W "box" x)+sg*lsum ns (fun x=>cf bS x*W "box" x):=by
         rw[← nj]
         show bL fun y t=>by rw[ca,abO,abZ]
       rw[el,ca,Int.mul_add]
       lia
     show q D kvs _ (aa s03 (aa s36 sx)) (ah (aa s03 s36) hD) gD ⟨ev,nl,nd,ks⟩
   show⟨_,U,?_⟩
   show aH (s03 _ _ hp) U ?_
   show⟨U,_,U,?_⟩
   rcases hk with rfl|rfl
   . show aM (by left) ?_
     show ai ?_
     show sgn 1 (.inl ⟨U,U⟩)
   . show aA (by left) ?_
     show⟨_,U,?_⟩
     show ai ?_
     show sgn (-1) (.inr ⟨U,U⟩)
def yt (s:Src K mg "parts_of" zS)(m_list:mg "list"=none):∀n:Nat,aO P w K mg base "parts_of" ["sum_told"] (n+2) (ik n):=by
 obtain⟨f,fd,F,m⟩:=s
 have b:Binds K fd ["sum_told"] []:=B7 F fun z z z z z z z=>rfl
 intro n
 have all:aK P w K mg base bJ (n+2) f fd ["sum_told"] (ik n):=by
   induction n with
   | zero=>show vL
   | succ n ih=>show DG F m_list ⟨f,fd,ih,F.kp,b,m⟩
 show⟨f,fd,all,F.kp,b,m⟩
def xj:Sp:=fun vs H Q z=>∃(m s:Int),vs=[.int m,.int s]/\0<s/\∀c:Int,-s<=2*c->2*c<=s->(∃t,m=c+t*s)->Q (.int c) H
def Bg:az ["many","size","rest"] ["many","size"] (aj JX):=cU
def DL {f:Addr}{fd:aaa}(F:bQ K "small_part" "small_part" JX f fd)  : aK P w K mg base bJ 1 f fd ["many","size"] xj:=by
 show F.df Bg fun cdv A outer s H vs Q E hr h=>?_
 obtain⟨m,s,rfl,s0,q⟩:=h
 show cM ⟨_,(aeg (aen 2 Bg.nd (aes ae0 (Y 0) (Y 1)))
   (aej (aem (L3.Ib (aeo L3.tL (aes aeS (Y 2) aef) (Y 1)) (aes aeT (Y 2) (Y 1)) (Y 2))))),?_⟩
 show ak fun Rk kR=>?_
 show⟨_,U,_,U,_,_,U,U,s0,?_⟩
 obtain⟨r,er,r0,r1,hm⟩ : ∃r,r=m%s/\0<=r/\r<s/\m=r+m/s*s:=⟨_,rfl,js s0,jr s0,by have:=acJ m s;rw[adb]at this;lia⟩
 show ai (kR _ _ ?_)
 show aq [some (.int m),some (.int s),some (.int r)] (by rw[er];rfl) ?_
 show⟨_,U,_,_,U,U,.inr ⟨by left,by left⟩,_,U,_,_,U,U,_,U,?_⟩
 show bE (fun c=>?_) (fun c=>?_)
 . have c:s<r*2:=iN c
   show⟨_,U,_,U,_,_,U,U,q (r-s) (by lia) (by lia) ⟨m/s+1,by rw[abO];lia⟩⟩
 . have c:¬ s<r*2:=fun z=>c (dE z)
   show⟨_,U,q r (by lia) (by lia) ⟨m/s,hm⟩⟩
abbrev wM:Stmt:=top 11
abbrev EN:Stmt:=top 25
theorem Jt.lJ {e:E}{es:List E}(h:Jt .both e es):(∀x∈es,x.lJ)->e.lJ:=by
 induction h with
 | one e=>show fun h=>h e (List.mem_singleton.mpr rfl)
 | two _ _ h1 h2=>show fun h=>⟨h1 fun x hx=>h x (aa1 _ hx),h2 fun x hx=>h x (aam _ hx)⟩
theorem Jt.dZ {e:E}{es:List E}(h:Jt .plus e es):(∀x∈es,x.dZ)->e.dZ:=by
 induction h with
 | one e=>show fun h=>h e (List.mem_singleton.mpr rfl)
 | two _ _ h1 h2=>show fun h=>⟨h1 fun x hx=>h x (aa1 _ hx),h2 fun x hx=>h x (aam _ hx)⟩
theorem Jt.okIn {k:K2}{P:Str->Str->Prop}{e:E}{es:List E}(h:Jt k e es):(∀x∈es,x.okIn P)->e.okIn P:=by
 induction h with
 | one e=>show fun h=>h e (List.mem_singleton.mpr rfl)
 | two _ _ h1 h2=>show fun h=>⟨h1 fun x hx=>h x (aa1 _ hx),h2 fun x hx=>h x (aam _ hx)⟩
theorem Jt.holds {W:Str->Str->Int}{e:E}{es:List E}(h:Jt .both e es):e.holds W=true↔∀x∈es,x.holds W=true:=by
 induction h with
 | one e=>show⟨fun h x hx=>by rw[bU hx];show h,fun h=>h e (List.mem_singleton.mpr rfl)⟩
 | @two a b xs ys _ _ h1 h2=>
   change(a.holds W&&b.holds W)=true↔_
   rw[aaY,h1,h2]
   show⟨fun h x hx=>(dk hx).elim (h.1 x) (h.2 x),fun h=>⟨fun x hx=>h x (aa1 _ hx),fun x hx=>h x (aam _ hx)⟩⟩
def wsum (W:Str->Str->Int):List E->Int
 | []=>0
 | e::r=>e.worth W+wsum W r
theorem om {W:Str->Str->Int}{ys:List E}:∀{xs:List E},wsum W (xs++ys)=wsum W xs+wsum W ys
 | []=>(acH _).symm
 | x::r=>by change x.worth W+wsum W (r++ys)=x.worth W+wsum W r+wsum W ys;rw[om];lia
theorem Jt.worth {W:Str->Str->Int}{e:E}{es:List E}(h:Jt .plus e es):e.worth W=wsum W es:=by
 induction h with
 | one e=>show(Int.add_zero _).symm
 | @two a b xs ys _ _ h1 h2=>
   change a.worth W+b.worth W=_
   rw[om,h1,h2]
structure Gf (n:Nat)(e:E)(es:List E):Prop where
 c:(∀x∈es,x.lJ)->e.lJ
 ok:∀P,(∀x∈es,x.okIn P)->e.okIn P
 h:∀W,e.holds W=true↔∃x∈es,x.holds W=true
 d:∀d,(∀x∈es,x.dep<=d)->e.dep<=d+n+2
def pU (K:ZV)(n:Nat):Sp:=fun vs H Q z=>∃(l:Addr) (us:List V) (es:List E),vs=[.ref l]/\H l=some (.lst us)/\Paired (EK K H) us es/\1<=us.length/\us.length<=2^n/\n<=12/\∀(v:V) (e:E) (H':Hp),ag H H'->EK K H' v e->Gf n e es->Q v H'
def ES:az ["conditions"] ["conditions"] (aj wM):=cU
def yU {n:Nat}{f:Addr}{fd:aaa}(F:bQ K "any_of" "any_of" wM f fd)(m_len:mg "len"=none)(AO:aO P w K mg base "all_of" ["conditions"] (n+2) (jH K n)):aK P w K mg base bJ (n+3) f fd ["conditions"] (pU K n):=by
 show F.df ES fun cdv A outer s H vs Q E hr h=>?_
 obtain⟨l,us,es,rfl,hl,pe,l1,l2,n9,q⟩:=h
 have pl:=Paired.length pe
 have pw:2^n<=2^12:=abd (by left) n9
 have XZ:(2:Nat)^12=4096:=by left
 show cM ⟨_,(aeg (aeq (aeo aew (aex aeD U m_len aah (L (Y 0) M)) aef) (aej (aem (aeh aey (Y 0) aef))) aer)
   (aej (aem (aet (L ael (L (aek AO hr U (L (aeO [none] ["condition"] (iw wM) U (aeA (Y 0)) (fun t t t t t=>⟨(aep 0 (d9 ["condition"])),aeE,(aet (L ael (L (Y 0) M)))⟩)) M)) M)))))),?_⟩
 show ak fun Rk kR=>?_
 show⟨_,U,l,us,U,.inl (aE.of hl),U,_,U,bE (fun c=>?_) (fun c=>?_)⟩
 . have c1:us.length=1:=by
     have:=oV c
     lia
   match us,es,pe,hl,c1 with
   | [u],[e],.cons r .nil,hl,_=>show⟨_,rfl,l,_,_,_,rfl,rfl,aE.of hl,ot,q _ e _ (same_refl _) r ⟨fun h=>h e (List.mem_singleton.mpr rfl),fun P h=>h e (List.mem_singleton.mpr rfl),fun W=>⟨fun h=>⟨e,List.mem_singleton.mpr rfl,h⟩,fun⟨x,hx,h⟩=>by rw[bU hx]at h;show h⟩,fun d h=>aar (h e (List.mem_singleton.mpr rfl)) (by lia)⟩⟩
 show kR _ _ ?_
 show⟨_,U,l,U,⟨_,aE.of hl⟩,fun D hD=>?_⟩
 have big:10000<=sizeLine:=by left
 show bo (xs:=us) (fun(i:Nat) (Hx:Hp)=>ag H Hx/\∃ws,Hx D=some (.lst ws)/\Paired (EK K Hx) ws ((es.take i).map TW.E.nt)) ⟨af hD _,[],ae,.nil⟩ (fun i Hx t z=>aE.of (z.1 _ _ hl)) (fun i x0 Hx hx z=>?_) (fun Hx z=>?_)
 . obtain⟨sx,ws,gD,pw⟩:=z
   have cX:=(aT hx)
   obtain⟨ei,CG,U1⟩:=Paired.get pe hx
   have wl:=Paired.length pw
   rw[ZW,aac]at wl
   show ai ?_
   show bI (A:=fun H5=>cp _ D _ H5 _) ?_
   show⟨_,U,agm,fun t0 m8=>?_⟩
   obtain⟨Hy,s1,g1,zz⟩:=cm m8 (.tup [.str "not",x0])
   rw[zz];clear zz
   have FH:=s1 _ _ gD
   have iq:TK Hy (upd Hy D (.lst (ws++[.ref t0]))):=TW.TK.lst FH
   show⟨_,FH,(by lia),aD (Pv:=fun(i:Nat) (Hx:Hp)=>ag H Hx/\∃ws,Hx D=some (.lst ws)/\Paired (EK K Hx) ws ((es.take i).map TW.E.nt)) (by repeat' constructor) cX ⟨av (aa sx s1) hD,_,ae,?_⟩⟩
   rw[aad,CG,Z9]
   show Paired.snoc (Paired.aV pw fun t t z=>EK.keep ((ag.tk s1).trans iq) z) ⟨x0,Tp.k ⟨t0,U,iq _ _ g1⟩,EK.keep ((ag.tk (aa sx s1)).trans iq) U1⟩
 obtain⟨sx,ws,gD,pw⟩:=z
 rw[pl,aag]at pw
 have wl:=Paired.length pw
 rw[ZW]at wl
 show⟨D,ws,_,U,gD,pw,by lia,by lia,n9,fun v e H' s' ek jt dp=>⟨agm,fun t1 oB=>?_⟩⟩
 show q _ (.nt e) _ (cF (aa sx s') oB) ⟨v,Tp.k ⟨t1,U,ae⟩,EK.keep (ag.tk (af oB _)) ek⟩ ⟨fun h=>jt.lJ fun x hx=>?_,fun P h=>jt.okIn fun x hx=>?_,fun W=>?_,fun d h=>?_⟩
 . obtain⟨y,hy,rfl⟩:=bF hx
   show h y hy
 . obtain⟨y,hy,rfl⟩:=bF hx
   show h y hy
 . change(!e.holds W)=true↔_
   rw[ack,← Bool.not_eq_true,jt.holds]
   show⟨fun h=>Classical.byContradiction fun no=>h fun x hx=>?_,fun⟨x,hx,h⟩ z=>?_⟩
   . obtain⟨y,hy,rfl⟩:=bF hx
     change(!y.holds W)=true
     rw[ack]
     show Bool.eq_false_iff.mpr fun w=>no ⟨y,hy,w⟩
   . have w:=z _ (fS ⟨x,hx,rfl⟩)
     have w:(!x.holds W)=true:=w
     rw[h]at w
     cases w
 . have:=dp (d+1) fun x hx=>by
     obtain⟨y,hy,rfl⟩:=bF hx
     show Nat.succ_le_succ (h y hy)
   change e.dep+1<=_
   lia
def vP {a b c:Expr}{p:Pos}:bD (.IfExp a b c p):=⟨fun z z=>rfl⟩
def B0 (H:Hp)(z:Addr)(ns:List Str)(sf:Str->Int):Prop:=∃kz,H z=some (.dK kz)/\∀x∈ns,aJ kz (.inr x)=some (.int (sf x))/\1<=sf x/\sf x<=16
def B0.same {H H':Hp}{z:Addr}{ns:List Str}{sf:Str->Int}(s:ag H H')(h:B0 H z ns sf):B0 H' z ns sf:=by obtain⟨k,a,b⟩:=h;show⟨k,s _ _ a,b⟩
def Gs (ns:List Str)(sf:Str->Int)(sz:Int)(sd:Str)(e te:E)(m:Int):Prop:=∀W:Str->Str->Int,(∀y∈ns,0<=W sd y/\W sd y<sf y)->0<=te.worth W/\te.worth W<=m/\∃t,te.worth W=e.worth (fun z y=>W sd y)+t*sz
def Bm (K:ZV):Sp:=fun vs H Q x=>∃(z:Addr) (v:V) (sz:Int) (sd:Str) (e:E) (ns:List Str) (sf:Str->Int),vs=[.ref z,v,.int sz,.str sd]/\B0 H z ns sf/\cK H v e/\e.dZ/\e.okIn (jN ns)/\e.dep<30/\ns.length<=4/\ns.Nodup/\("":Str)∉ns/\1<=sz/\sz<=16/\∀(a:Addr) (tv:V) (m:Int) (te:E) (H':Hp),ag H H'->H' a=some (.tup [tv,.int m])->EK K H' tv te->te.dZ->te.okIn (fun t y=>t=sd/\y∈ns)->te.dep<=7->0<=m->m<31*sz->Gs ns sf sz sd e te m->Q (.ref a) H'
def uS {kvs:List (Key×V)}{k:Key}{p:Key×V}(h:p∈cj kvs k):p∈kvs/\p.1≠k:=by
 unfold cj at h
 have:=List.mem_filter.mp h
 show⟨this.1,iN this.2⟩
def Dh (g:Str->Int):Key×V->Int
 | (.inr x,.int c)=>c*g x
 | _=>0
def d7 (g:Str->Int):List (Key×V)->Int
 | []=>0
 | p::r=>Dh g p+d7 g r
theorem ng {g:Str->Int}{ys:List (Key×V)}:∀{xs:List (Key×V)},d7 g (xs++ys)=d7 g xs+d7 g ys
 | []=>(acH _).symm
 | p::r=>by change Dh g p+d7 g (r++ys)=Dh g p+d7 g r+d7 g ys;rw[ng];lia
def iD {x y:Str}{c:Int}{r:List (Key×V)}:cf ((.inr x,.int c)::r) y=if y=x then c else cf r y:=by
 by_cases h:y=x
 . rw[ba h]
   show dm ?_
   unfold aJ
   rw[acx (by rw[h];show dE rfl)]
   rfl
 . rw[aQ h]
   unfold cf aJ
   rw[abJ (fun z=>h (by have:=iN z;injection this with this;show this.symm))]
theorem nh {g:Str->Int}{ns:List Str}(nd:ns.Nodup):∀{kvs:List (Key×V)},(kvs.map (·.1)).Nodup->(∀p∈kvs,∃(x:Str) (c:Int),p=(.inr x,.int c)/\x∈ns)->d7 g kvs=lsum ns (fun y=>cf kvs y*g y)
 | [],_,_=>by
   have e:∀y,cf [] y*g y=0:=fun y=>by rw[cL rfl,aa2]
   rw[bL (g:=fun z=>0) (fun y z=>e y),eQ]
   rfl
 | p::r,hn,h=>by
   obtain⟨x,c,rfl,hx⟩:=h p (aY (.inl rfl))
   have hn:(Sum.inr x::r.map (·.1):List Key).Nodup:=hn
   obtain⟨h1,h2⟩:=List.nodup_cons.mp hn
   have ih:=nh (g:=g) nd h2 fun p hp=>h p (aY (.inr hp))
   have c0:cf r x=0:=cL (by
     cases hv:aJ r (.inr x)with
     | none=>rfl
     | some u=>show aB (cA hv) h1)
   change c*g x+d7 g r=_
   have el:lsum ns (fun y=>cf ((.inr x,.int c)::r) y*g y)=lsum ns (fun y=>if y=x then c*g x else cf r y*g y):=bL fun y z=>by
     rw[iD]
     split
     . rename_i e
       rw[e]
     . rfl
   rw[ih,el,gP nd hx,c0]
   lia
theorem qw {x:Str}(h:x≠""):∀{kvs:List (Key×V)},(∀p∈kvs,∃(x:Str) (c:Int),p=(.inr x,.int c))->cf (cj kvs (.inr "")) x=cf kvs x
 | [],_=>rfl
 | p::r,hp=>by
   obtain⟨y,c,rfl⟩:=hp p (aY (.inl rfl))
   have ih:=qw h (kvs:=r) fun p q=>hp p (aY (.inr q))
   by_cases e:y=""
   . rw[kg (by rw[e]),ih,iD,aQ (fun z=>h (z.trans e))]
   . rw[kf (fun z=>e (by injection z)),iD,iD,ih]
theorem nq {f f' g:Str->Int}{s:Int}:∀{ns:List Str},(∀x∈ns,∃t,f x=f' x+t*s)->∃t,lsum ns (fun x=>f x*g x)=lsum ns (fun x=>f' x*g x)+t*s
 | [],_=>⟨0,by change(0:Int)=0+0*s;lia⟩
 | x::r,h=>by
   obtain⟨t,ht⟩:=h x (aY (.inl rfl))
   obtain⟨u,hu⟩:=nq (g:=g) (ns:=r) fun y hy=>h y (aY (.inr hy))
   show⟨t*g x+u,?_⟩
   change f x*g x+lsum r _=f' x*g x+lsum r _+_
   rw[hu,ht,abO,abO,abZ,abZ,adb s]
   lia
def qW {c g m:Int}(g0:0<=g)(g1:g<=m):(if(0:Int)<c then 0 else c)*m<=c*g/\c*g<=(if(0:Int) > c then 0 else c)*m:=by
 rcases Int.lt_trichotomy c 0 with h|h|h
 . rw[aQ (by lia),ba (by lia),aa2]
   show⟨Int.mul_le_mul_of_nonpos_left (by lia) g1,Int.mul_nonpos_of_nonpos_of_nonneg (by lia) g0⟩
 . subst h
   rw[aQ (by lia),aa2,aa2]
   show⟨acu _,acu _⟩
 . rw[ba h,aQ (by lia),aa2]
   show⟨adV (by lia) g0,aaE g1 (by lia)⟩
def tQ {c m sz:Int}(h1 : -sz<=2*c)(h2:2*c<=sz)(m0:0<=m)(m1:m<=15)(z0:0<=sz):(if(0:Int)<c then 0 else c)*m<=(if(0:Int) > c then 0 else c)*m/\2*((if(0:Int) > c then 0 else c)*m-(if(0:Int)<c then 0 else c)*m)<=15*sz:=by
 have w:∀k:Int,0<=k->2*k<=sz->0<=k*m/\2*(k*m)<=15*sz:=fun k k0 k1=>by
   have a:=adV k0 m0
   have b:=aaE m1 k0
   lia
 rcases Int.lt_trichotomy c 0 with h|h|h
 . rw[aQ (by lia),ba (by lia),aa2]
   have:=w (-c) (by lia) (by lia)
   rw[Int.neg_mul]at this
   lia
 . subst h
   rw[aQ (by lia),aa2]
   lia
 . rw[ba h,aQ (by lia),aa2]
   have:=w c (by lia) (by lia)
   lia
theorem jD {α:Type}(x:α):∀n:Nat,(Z4 n [x]).flatten=Z4 n x
 | 0=>rfl
 | n+1=>by rw[aaz,aaz,abL,jD x n];rfl
theorem Paired.rep {α β:Type}{R:α->β->Prop}{x:α}{y:β}(h:R x y):∀n:Nat,Paired R (Z4 n x) (Z4 n y)
 | 0=>.nil
 | n+1=>by rw[aaz,aaz];show .cons h (Paired.rep h n)
theorem jo {f:Str->Int}{x:Str}:∀n:Nat,lsum (Z4 n x) f=(n:Int)*f x
 | 0=>(aa2 _).symm
 | n+1=>by
   rw[aaz]
   change f x+lsum (Z4 n x) f=_
   rw[jo n,acI,abO]
   change _=_+1*f x
   lia
theorem jn {f:Str->Int}{ys:List Str}:∀{xs:List Str},lsum (xs++ys) f=lsum xs f+lsum ys f
 | []=>(acH _).symm
 | x::r=>by change f x+lsum (r++ys) f=f x+lsum r f+lsum ys f;rw[jn];lia
theorem jJ {W:Str->Str->Int}{sd:Str}:∀xs:List Str,wsum W (xs.map (E.box sd))=lsum xs (W sd)
 | []=>rfl
 | x::r=>by change W sd x+wsum W (r.map (E.box sd))=W sd x+lsum r (W sd);rw[jJ r]
theorem Paired.app {α β:Type}{F:α->β->Prop}:∀{a:List α} {b:List β} {c:List α} {d:List β},Paired F a b->Paired F c d->Paired F (a++c) (b++d)
 | _,_,_,_,.nil,h=>h
 | _,_,_,_,.cons r t,h=>.cons r (Paired.app t h)
def dY:az ["sizes","sum_told","size","side","parts","number","added","taken","least","most","name","many","box","lift","told"] ["sizes","sum_told","size","side"] (aj EN):=cU
def rO {kvs:List (Key×V)}{k:Key}{v:V}(nd:(kvs.map (·.1)).Nodup)(h:(k,v)∈kvs):aJ kvs k=some v:=by
 induction kvs with
 | nil=>show nomatch h
 | cons p r ih=>
   obtain⟨h1,h2⟩:=List.nodup_cons.mp (show(p.1::r.map (·.1)).Nodup from nd)
   rcases bT h with e|e
   . subst e
     unfold aJ
     rw[acx (by show dE (rfl:k=k))]
     rfl
   . have:=ih h2 e
     unfold aJ at this ⊢
     rw[abJ (fun z=>h1 (by rw[iN z];show fS ⟨_,e,rfl⟩))]
     show this
def DM {f:Addr}{fd:aaa}(F:bQ K "small_sum" "small_sum" EN f fd)(m_max:mg "max"=none)(m_min:mg "min"=none)(m_len:mg "len"=none)(SP0:aO P w K mg base "small_part" ["many","size"] 1 xj)(PO:aO P w K mg base "parts_of" ["sum_told"] 32 (ik 30))(J0:aO P w K mg base "joined_by" ["word","parts"] 7 (nZ K 6)):aK P w K mg base bJ 33 f fd ["sizes","sum_told","size","side"] (Bm K):=by
 show F.df dY fun cdv A outer s H vs Q E hr h=>?_
 obtain⟨z,v,sz,sd,e,ns,sf,rfl,hz,ev,is,ok,dp,l4,AV,yP,z1,Qf,q⟩:=h
 have SP:=SP0.mono (show 1<=32 by lia)
 have J:=J0.mono (show 7<=32 by lia)
 have big:10000<=sizeLine:=by left
 show cM ⟨_,(aeg (L3.Pt (i:=4) [none,none,some 2] ["name","many","size"] (bB hr _ (by left)) (iw EN) U (L3.iI (L3.items (aek PO hr U (L (Y 1) M)))) (fun o o o o o=>⟨(aeC 2 (aev (aep 0 (d9 ["name","many","size"])) (aev (aep 1 (d9 ["name","many","size"])) aeB))),aeE,(Y 0),(aek SP hr U (L (Y 1) (L (Y 2) M)))⟩) dY.nd)
   (aeg (L3.O4 5 6 7 dY.nd (L (L3.GH (Y 4) ael) (L (aeu M) (L (aeu M) M))))
   (aeg (L3.Mp (Y 5) (aep 8 dY.nd) (aep 9 dY.nd))
   (aeg (aeJ (L3.iI (L3.items (Y 4))) (aeC 2 (aev (aep 10 dY.nd) (aev (aep 11 dY.nd) aeB))) (aeg (aen 12 dY.nd (aet (L (Y 3) (L (Y 10) M))))
   (aeg (aeQ (afs (Y 6) (L (aes L3.AX (aeu (L (Y 12) M)) (aex L3.uI U m_max (by right) (L (Y 11) (L aef M)))) M)))
   (aeg (aeQ (afs (Y 7) (L (aes L3.AX (aeu (L (Y 12) M)) (aex L3.uI U m_max (by right) (L (afd (Y 11)) (L aef M)))) M)))
   (aeg (L3.aug 8 dY.nd (aes aeS (aex L3.Am U m_min (by right) (L (Y 11) (L aef M))) (aes aeT (L3.ye (bB hr _ (by left)) (Y 0) (Y 10)) aef)))
   (aej (L3.aug 9 dY.nd (aes aeS (aex L3.uI U m_max (by right) (L (Y 11) (L aef M))) (aes aeT (L3.ye (bB hr _ (by left)) (Y 0) (Y 10)) aef)))))))))
   (aeg (aen 13 dY.nd (aes aeS (afd (aes L3.kE (Y 8) (Y 2))) (Y 2)))
   (aeg (aen 14 dY.nd (aek J hr U (L ael (L (aes aeV (aeu (L (aet (L ael (L (aes aeN (Y 5) (Y 13)) M))) M)) (Y 6)) M))))
   (aej (aem (aet (L (L3.Ib (aeo L3.tL (aex aeD U m_len aah (L (Y 7) M)) aef) (aet (L ael (L (Y 14) (L (aek J hr U (L ael (L (Y 7) M))) M)))) (Y 14)) (L (aes aeN (Y 9) (Y 13)) M) vP)))))))))),?_⟩
 show ak fun Rk kR=>?_
 show⟨_,U,v,e,ns,U,ev,is,ok,dp,by left,l4,AV,yP,fun d kv H1 s1 nd gd pk=>?_⟩
 have pl:=pk.len
 show⟨.inr (.inr (.inl ⟨U,.inl ⟨_,gd⟩⟩)),d,kv,U,U,gd,fun vw WJ=>?_⟩
 have s2:=af WJ (.ext (cH vw d))
 have g2:(upd H1 vw (.ext (cH vw d))) vw=some (.ext (cH vw d)):=ae
 have G4:=s2 _ _ gd
 generalize upd H1 vw (.ext (cH vw d))=H2 at s2 g2 G4 ⊢
 show⟨vw,d,kv,U,g2,G4,fun fo=>fun D hD=>?_⟩
 have s12:=aa s1 s2
 have s3:ag H (upd H2 d (.frz fo (.dK kv))):=av s12 nd
 have g3:(upd H2 d (.frz fo (.dK kv))) d=some (.frz fo (.dK kv)):=ae
 generalize upd H2 d (.frz fo (.dK kv))=H3 at hD s3 g3 ⊢
 have nD:=ah s3 hD
 have dD:d≠D:=ar g3 hD
 show oQ (kvs:=kv) (fun(i:Nat) (Hx:Hp)=>ag H Hx/\Hx d=some (.frz fo (.dK kv))/\∃kvs,Hx D=some (.dK kvs)/\(kvs.map (·.1)).Nodup/\(∀q∈kvs,∃(x:Str) (c:Int),q=(.inr x,.int c)/\(x=""\/x∈ns)/\-sz<=2*c/\2*c<=sz/\(Sum.inr x:Key)∈kv.map (·.1))/\(∀(j:Nat) (x:Str) (c:Int),j<i->kv[j]?=some (.inr x,.int c)->∃c2 t,aJ kvs (.inr x)=some (.int c2)/\c=c2+t*sz)/\kvs.length<=i) ⟨aa s3 (af hD _),(af hD _) _ _ g3,[],ae,abh,(fun r hr=>nomatch hr),(fun j x c hj=>aB hj (adx _)),Z0 _⟩ (fun i Hx o z=>z.2.1) (fun i k y pp Hx hx zz lH=>?_) (fun Hx zz=>?_)
 . obtain⟨sx,gf,kvs,gD,knd,ks,inn,OC⟩:=zz
   have cX:=(aT hx)
   obtain⟨x1,c1,MR,w1⟩:=pk.ks _ (ZZ hx)
   cases MR
   have sp:=af lH (.tup [kV (.inr x1),.int c1])
   have gp:(upd Hx pp (.tup [kV (.inr x1),.int c1])) pp=some (.tup [kV (.inr x1),.int c1]):=ae
   have Le:=sp _ _ gD
   have Rb:=sp _ _ gf
   generalize upd Hx pp (.tup [kV (.inr x1),.int c1])=Hy at sp gp Le Rb ⊢
   have gp:Hy pp=some (.tup [.str x1,.int c1]):=gp
   show kT gp ?_
   show bI (A:=fun H5=>vz _ _ D _ H5 _) ?_
   show⟨_,U,_,U,_,U,c1,sz,U,by lia,fun c2 h1 h2 ht=>⟨_,iW.k (k:=.inr x1) Le (by lia),aD (Pv:=fun(i:Nat) (Hx:Hp)=>ag H Hx/\Hx d=some (.frz fo (.dK kv))/\∃kvs,Hx D=some (.dK kvs)/\(kvs.map (·.1)).Nodup/\(∀q∈kvs,∃(x:Str) (c:Int),q=(.inr x,.int c)/\(x=""\/x∈ns)/\-sz<=2*c/\2*c<=sz/\(Sum.inr x:Key)∈kv.map (·.1))/\(∀(j:Nat) (x:Str) (c:Int),j<i->kv[j]?=some (.inr x,.int c)->∃c2 t,aJ kvs (.inr x)=some (.int c2)/\c=c2+t*sz)/\kvs.length<=i) (by repeat' constructor) cX ⟨av (aa sx sp) nD,by rw[au dD];show Rb,_,ae,iO knd,fun r hr=>?_,fun j x c hj hjk=>?_,aar (bj _ _ _) (by lia)⟩⟩⟩
   . rcases fZ hr with rfl|w
     . show⟨x1,c2,U,w1,by lia,by lia,fS ⟨_,ZZ hx,U⟩⟩
     . show ks r w
   . by_cases c9:j<i
     . obtain⟨d2,t,hd,he⟩:=inn j x c c9 hjk
       show⟨d2,t,?_,he⟩
       rw[aW,aQ (fun z=>?_)]
       . show hd
       . have pw:=List.pairwise_iff_getElem.mp pk.nd
         obtain⟨jl,ej⟩:=List.getElem?_eq_some_iff.mp hjk
         obtain⟨il,ei⟩:=List.getElem?_eq_some_iff.mp hx
         show pw j i (by rw[ZW];show jl) (by rw[ZW];show il) c9 ?_
         rw[List.getElem_map,List.getElem_map,ej,ei]
         show z
     . have ej:j=i:=by lia
       subst ej
       rw[hx]at hjk
       cases hjk
       obtain⟨t,ht⟩:=ht
       show⟨c2,t,by rw[aW,ba rfl],ht⟩
 obtain⟨sx,gf,kvs,gD,knd,ks,inn,OC⟩:=zz
 show ai (kR _ _ ?_)
 show aq [some (.ref z),some v,some (.int sz),some (.str sd),some (.ref D),none,none,none,none,none,none,none,none,none,none] U ?_
 show ak fun Rk kR=>?_
 have W4:∀p∈kvs,∃(x:Str) (c:Int),p=(.inr x,.int c):=fun p hp=>let⟨x,c,z,_⟩:=ks p hp;⟨x,c,z⟩
 have QF:∀y,∃t,cf kv y=cf kvs y+t*sz:=fun y=>by
   cases hv:aJ kv (.inr y)with
   | none=>
     show⟨0,?_⟩
     have h9:aJ kvs (.inr y)=none:=by
       cases hw:aJ kvs (.inr y)with
       | none=>rfl
       | some u=>
         obtain⟨p,hp,ep⟩:=bF (cA hw)
         obtain⟨x,c,rfl,_,_,_,w⟩:=ks p hp
         injection ep with ep
         subst ep
         show aB w (oi hv)
     rw[cL hv,cL h9]
     lia
   | some u=>
     obtain⟨p,hp,ep⟩:=bF (cA hv)
     obtain⟨x,c,rfl,_⟩:=pk.ks p hp
     injection ep with ep
     subst ep
     obtain⟨j,hj⟩:=List.mem_iff_getElem?.mp hp
     obtain⟨c2,t,h2,h3⟩:=inn j _ c (aT hj) hj
     have hc:aJ kv (.inr x)=some (.int c):=rO pk.nd hp
     show⟨t,by rw[dm hc,dm h2];show h3⟩
 obtain⟨nu,RO,ZF,ZG⟩ : ∃nu:Int,aJ kvs (.inr "")=some (.int nu)/\-16<=nu/\nu<=16:=by
   obtain⟨c,hc⟩:=pk.nl
   obtain⟨p,hp,ep⟩:=bF (cA hc)
   obtain⟨x,c1,rfl,_⟩:=pk.ks p hp
   injection ep with ep
   subst ep
   obtain⟨j,hj⟩:=List.mem_iff_getElem?.mp hp
   obtain⟨c2,t,h2,h3⟩:=inn j _ c1 (aT hj) hj
   obtain⟨p2,eY,K9⟩:=bF (cA h2)
   obtain⟨x2,c3,rfl,_,b1,b2,_⟩:=ks p2 eY
   injection K9 with K9
   subst K9
   have:=rO knd eY
   rw[h2]at this
   cases this
   show⟨c2,h2,by lia,by lia⟩
 show⟨_,U,D,U,.inl ⟨_,.inl gD⟩,kvs,.inr "",.int nu,gD,U,RO,?_⟩
 obtain⟨bS,ek2⟩ : ∃bS,bS=cj kvs (.inr ""):=⟨_,rfl⟩
 have R0:(bS.map (·.1)).Nodup:=ek2▸ju knd
 have OA:∀p∈bS,∃(x:Str) (c:Int),p=(.inr x,.int c)/\x∈ns/\-sz<=2*c/\2*c<=sz:=fun p hp=>by
   rw[ek2]at hp
   obtain⟨h1,h2⟩:=uS hp
   obtain⟨x,c,rfl,w,b1,b2,_⟩:=ks p h1
   show⟨x,c,U,w.resolve_left (fun z=>h2 (by rw[z])),b1,b2⟩
 have W0:∀g:Str->Int,d7 g bS=lsum ns (fun y=>cf kvs y*g y):=fun g=>by
   rw[nh AV R0 (fun p hp=>let⟨x,c,z,w,_⟩:=OA p hp;⟨x,c,z,w⟩)]
   show bL fun y hy=>by rw[ek2,qw (fun z=>yP (z▸hy)) W4]
 have Vf:∀W:Str->Str->Int,∃t,e.worth W=nu+d7 (W "box") bS+t*sz:=fun W=>by
   obtain⟨t1,oB⟩:=QF ""
   obtain⟨t2,HX⟩:=nq (g:=W "box") (s:=sz) (ns:=ns) (f:=cf kv) (f':=cf kvs) (fun y o=>QF y)
   show⟨t1+t2,?_⟩
   rw[pk.ev W,W0]
   unfold yD
   rw[oB,HX,dm RO,abO]
   lia
 rw[← ek2]
 have s4:ag H (upd Hx D (.dK bS)):=av sx nD
 have g4:(upd Hx D (.dK bS)) D=some (.dK bS):=ae
 generalize upd Hx D (.dK bS)=H4 at s4 g4 ⊢
 show⟨agk,fun ad RA=>?_⟩
 have s5:=af RA (.lst [])
 have g5:(upd H4 ad (.lst [])) ad=some (.lst []):=ae
 generalize upd H4 ad (.lst [])=H5 at s5 g5 ⊢
 show⟨agk,fun tk htk=>?_⟩
 have s6:=af htk (.lst [])
 have g6:(upd H5 tk (.lst [])) tk=some (.lst []):=ae
 generalize upd H5 tk (.lst [])=H6 at s6 g6 ⊢
 have Gw:ad≠tk:=ar g5 htk
 have Xr:=ah s4 RA
 have Xz:=ah (aa s4 s5) htk
 show⟨_,_,_,U,?_⟩
 show kR _ _ ?_
 show aq [some (.ref z),some v,some (.int sz),some (.str sd),some (.ref D),some (.int nu),some (.ref ad),some (.ref tk),none,none,none,none,none,none,none] U ?_
 show ak fun Rk kR=>?_
 show⟨_,U,?_⟩
 show ai (ai ?_)
 show kR _ _ ?_
 show aq [some (.ref z),some v,some (.int sz),some (.str sd),some (.ref D),some (.int nu),some (.ref ad),some (.ref tk),some (.int nu),some (.int nu),none,none,none,none,none] U ?_
 show ak fun Rk kR=>?_
 have SU:=aa s5 s6
 have MW:=SU _ _ g4
 show⟨_,U,.inr (.inr (.inl ⟨U,.inl ⟨_,MW⟩⟩)),D,bS,U,U,MW,fun BJ Om=>?_⟩
 have s7:=af Om (.ext (cH BJ D))
 have g7:(upd H6 BJ (.ext (cH BJ D))) BJ=some (.ext (cH BJ D)):=ae
 have Ld:=s7 _ _ MW
 have Co:=s7 _ _ (s6 _ _ g5)
 have Cu:=s7 _ _ g6
 generalize upd H6 BJ (.ext (cH BJ D))=H7 at s7 g7 Ld Co Cu ⊢
 show⟨BJ,D,bS,U,g7,Ld,fun yh=>?_⟩
 have X2:=aa s4 (aa SU s7)
 have Qm:D≠ad:=bX Ld Co (fun z=>nomatch z)
 have Qn:D≠tk:=bX Ld Cu (fun z=>nomatch z)
 have s8:ag H (upd H7 D (.frz yh (.dK bS))):=av X2 nD
 have g8:(upd H7 D (.frz yh (.dK bS))) D=some (.frz yh (.dK bS)):=ae
 have G2:(upd H7 D (.frz yh (.dK bS))) ad=some (.lst []):=by rw[au Qm.symm];show Co
 have Hh:(upd H7 D (.frz yh (.dK bS))) tk=some (.lst []):=by rw[au Qn.symm];show Cu
 generalize upd H7 D (.frz yh (.dK bS))=H8 at s8 g8 G2 Hh ⊢
 have W5:bS.length<=4:=by
   have:=sub_len (ys:=ns.map (Sum.inr:Str->Key)) R0 fun k hk=>by
     obtain⟨p,hp,rfl⟩:=bF hk
     obtain⟨x,c,rfl,w,_⟩:=OA p hp
     show fS ⟨x,w,U⟩
   rw[ZW,ZW]at this
   lia
 have w0:∀(i:Nat),15*sz*((i+1:Nat):Int)=15*sz*(i:Int)+15*sz:=fun i=>by rw[acI,Int.mul_add];change _=_+_;lia
 show sP (kvs:=bS) (fun(i:Nat) (σ:List (Option V)) (Hx:Hp)=>(∃(le mo:Int) (o10 uC pC:Option V),σ=[some (.ref z),some v,some (.int sz),some (.str sd),some (.ref D),some (.int nu),some (.ref ad),some (.ref tk),some (.int le),some (.int mo),o10,uC,pC,none,none]/\le<=mo/\-(16+240*(i:Int))<=le/\mo<=16+240*(i:Int)/\2*(mo-le)<=15*sz*(i:Int)/\∀g:Str->Int,(∀y∈ns,0<=g y/\g y<sf y)->le<=nu+d7 g (bS.take i)/\nu+d7 g (bS.take i)<=mo)/\ag H Hx/\Hx D=some (.frz yh (.dK bS))/\∃(ua ut:List V) (ax tx:List Str),Hx ad=some (.lst ua)/\Hx tk=some (.lst ut)/\Paired (cK Hx) ua (ax.map (TW.E.box sd))/\Paired (cK Hx) ut (tx.map (TW.E.box sd))/\2*(ax.length+tx.length)<=16*i/\(∀y∈ax,y∈ns)/\(∀y∈tx,y∈ns)/\∀g:Str->Int,lsum ax g-lsum tx g=d7 g (bS.take i)) ⟨⟨nu,nu,_,_,_,U,acu _,by lia,by lia,by lia,fun g o=>by change nu<=nu+0/\nu+0<=nu;lia⟩,s8,g8,[],[],[],[],G2,Hh,.nil,.nil,Z0 _,(fun o h=>nomatch h),(fun o h=>nomatch h),fun g=>rfl⟩ (fun i σ Hx o z=>z.2.2.1) (fun i k y pp σ Hx hx zz lH=>?_) (fun σ Hx zz=>?_)
 . obtain⟨⟨le,mo,o10,uC,pC,rfl,lm,Xd,Iq,Yo,KU⟩,sx,gf,ua,ut,ax,tx,M5,Nk,pa,pt,Ux,Mq,PV,KR⟩:=zz
   have cX:=(aT hx)
   obtain⟨x1,c1,MR,xin,UL,UM⟩:=OA _ (ZZ hx)
   cases MR
   have PY:=Paired.length pa
   have P1:=Paired.length pt
   rw[ZW]at PY P1
   have R3:∀g,d7 g (bS.take (i+1))=d7 g (bS.take i)+c1*g x1:=fun g=>by
     have xU:bS.take (i+1)=bS.take i++[(.inr x1,.int c1)]:=by rw[aad,hx];rfl
     have:d7 g [(.inr x1,.int c1)]=c1*g x1+0:=rfl
     rw[xU,ng]
     lia
   obtain⟨n1,QQ⟩ : ∃n1,n1=Int.toNat (if(0:Int) > c1 then 0 else c1):=⟨_,rfl⟩
   obtain⟨n2,QR⟩ : ∃n2,n2=Int.toNat (if(0:Int) > -c1 then 0 else -c1):=⟨_,rfl⟩
   have Xi:(n1:Int)-(n2:Int)=c1/\2*(n1+n2)<=16:=by
     rw[QQ,QR]
     split<;>split<;>lia
   have sp:=af lH (.tup [kV (.inr x1),.int c1])
   have gp:(upd Hx pp (.tup [kV (.inr x1),.int c1])) pp=some (.tup [kV (.inr x1),.int c1]):=ae
   generalize upd Hx pp (.tup [kV (.inr x1),.int c1])=Hy at sp gp ⊢
   have gp:Hy pp=some (.tup [.str x1,.int c1]):=gp
   show kT gp ?_
   show aq [some (.ref z),some v,some (.int sz),some (.str sd),some (.ref D),some (.int nu),some (.ref ad),some (.ref tk),some (.int le),some (.int mo),some (.str x1),some (.int c1),pC,none,none] U ?_
   show ak fun Af sY=>?_
   show⟨_,U,_,U,agm,fun bx VS=>?_⟩
   have sb:=af VS (.tup [.str sd,.str x1])
   have Q9:(upd Hy bx (.tup [.str sd,.str x1])) bx=some (.tup [.str sd,.str x1]):=ae
   generalize upd Hy bx (.tup [.str sd,.str x1])=Hz at sb Q9 ⊢
   show ai ?_
   show sY _ _ ?_
   show aq [some (.ref z),some v,some (.int sz),some (.str sd),some (.ref D),some (.int nu),some (.ref ad),some (.ref tk),some (.int le),some (.int mo),some (.str x1),some (.int c1),some (.ref bx),none,none] U ?_
   show ak fun Af sY=>?_
   have sxz:=aa sp sb
   have Cp:=sxz _ _ M5
   show⟨_,U,.inl ⟨U,_,aE.of Cp⟩,_,U,agl,fun LF NW=>?_⟩
   have Tj:=af NW (.lst [.ref bx])
   have Cq:(upd Hz LF (.lst [.ref bx])) LF=some (.lst [.ref bx]):=ae
   generalize upd Hz LF (.lst [.ref bx])=Mg at Tj Cq ⊢
   show⟨_,U,_,_,U,LF,_,[.ref bx],U,U,Cq,by split<;>lia,by split<;>lia,(by change 1*_<=_;split<;>lia),fun LG NZ=>?_⟩
   rw[jD,← QQ]
   have sm1:=af NZ (.lst (Z4 n1 (V.ref bx)))
   have Li:(upd Mg LG (.lst (Z4 n1 (V.ref bx)))) LG=some (.lst (Z4 n1 (V.ref bx))):=ae
   generalize upd Mg LG (.lst (Z4 n1 (V.ref bx)))=BR at sm1 Li ⊢
   have si1:=aa Tj sm1
   show⟨ad,LG,_,_,U,U,si1 _ _ Cp,Li,(by rw[aa9];lia),?_⟩
   have G5:(upd BR ad (.lst (ua++(Z4 n1 (V.ref bx))))) D=some (.frz yh (.dK bS)):=by rw[au Qm];show si1 _ _ (sxz _ _ gf)
   have Ct:(upd BR ad (.lst (ua++(Z4 n1 (V.ref bx))))) tk=some (.lst ut):=by rw[au Gw.symm];show si1 _ _ (sxz _ _ Nk)
   have G0:(upd BR ad (.lst (ua++(Z4 n1 (V.ref bx))))) ad=_:=ae
   have S4:ag H (upd BR ad (.lst (ua++(Z4 n1 (V.ref bx))))):=av (aa sx (aa sxz si1)) Xr
   have PK:TK BR (upd BR ad (.lst (ua++(Z4 n1 (V.ref bx))))):=TW.TK.lst (si1 _ _ Cp)
   generalize upd BR ad (.lst (ua++(Z4 n1 (V.ref bx))))=Qw at G5 Ct G0 S4 PK ⊢
   show sY _ _ ?_
   show ak fun Af sY=>?_
   show⟨_,U,.inl ⟨U,_,aE.of Ct⟩,_,U,agl,fun Di NY=>?_⟩
   have w6:=af NY (.lst [.ref bx])
   have xN:(upd Qw Di (.lst [.ref bx])) Di=some (.lst [.ref bx]):=ae
   generalize upd Qw Di (.lst [.ref bx])=Mh at w6 xN ⊢
   show⟨_,U,_,U,_,_,U,Di,_,[.ref bx],U,U,xN,by split<;>lia,by split<;>lia,(by change 1*_<=_;split<;>lia),fun Dj N0=>?_⟩
   rw[jD,← QR]
   have sm2:=af N0 (.lst (Z4 n2 (V.ref bx)))
   have Lj:(upd Mh Dj (.lst (Z4 n2 (V.ref bx)))) Dj=some (.lst (Z4 n2 (V.ref bx))):=ae
   generalize upd Mh Dj (.lst (Z4 n2 (V.ref bx)))=BU at sm2 Lj ⊢
   have si2:=aa w6 sm2
   show⟨tk,Dj,_,_,U,U,si2 _ _ Ct,Lj,(by rw[aa9];lia),?_⟩
   have M8:(upd BU tk (.lst (ut++(Z4 n2 (V.ref bx))))) D=some (.frz yh (.dK bS)):=by rw[au Qn];show si2 _ _ G5
   have G1:(upd BU tk (.lst (ut++(Z4 n2 (V.ref bx))))) ad=some (.lst (ua++(Z4 n1 (V.ref bx)))):=by rw[au Gw];show si2 _ _ G0
   have Hg:(upd BU tk (.lst (ut++(Z4 n2 (V.ref bx))))) tk=_:=ae
   have Pl:ag H (upd BU tk (.lst (ut++(Z4 n2 (V.ref bx))))):=av (aa S4 si2) Xz
   have PQ:TK BU (upd BU tk (.lst (ut++(Z4 n2 (V.ref bx))))):=TW.TK.lst (si2 _ _ Ct)
   generalize upd BU tk (.lst (ut++(Z4 n2 (V.ref bx))))=Mi at M8 G1 Hg Pl PQ ⊢
   show sY _ _ ?_
   show ak fun Af sY=>?_
   obtain⟨kz,gz,NV⟩:=hz.same Pl
   obtain⟨RD,UO,Mz⟩:=NV x1 xin
   obtain⟨cz,UX⟩ : ∃cz,cz=sf x1:=⟨_,rfl⟩
   rw[← UX]at RD UO Mz
   have dz:dv Mi z (.str x1) (some (.int cz)):=by
     have:=dv.k (k:=.inr x1) gz
     rw[RD]at this
     show this
   show⟨_,U,_,U,_,_,U,_,U,_,U,z,_,U,dz,_,_,U,U,_,_,U,U,.inl ⟨by split<;>lia,by split<;>lia⟩,_,_,U,U,?_⟩
   obtain⟨LI,U3⟩ : ∃LI,LI=le+(if(0:Int)<c1 then 0 else c1)*(cz-1):=⟨_,rfl⟩
   show sY _ _ ?_
   show aq [some (.ref z),some v,some (.int sz),some (.str sd),some (.ref D),some (.int nu),some (.ref ad),some (.ref tk),some (.int LI),some (.int mo),some (.str x1),some (.int c1),some (.ref bx),none,none] (by rw[U3];rfl) ?_
   show⟨_,U,_,U,_,_,U,_,U,_,U,z,_,U,dz,_,_,U,U,_,_,U,U,.inl ⟨by split<;>lia,by split<;>lia⟩,_,_,U,U,?_⟩
   obtain⟨OO,U7⟩ : ∃OO,OO=mo+(if(0:Int) > c1 then 0 else c1)*(cz-1):=⟨_,rfl⟩
   have pin:=qW (c:=c1) (g:=0) (m:=cz-1) (by lia) (by lia)
   have ZK:=tQ (m:=cz-1) UL UM (by lia) (by lia) (by lia)
   rw[Int.mul_zero]at pin
   have wi:=w0 i
   have tkx:TK Hx Mi:=(ag.tk sxz).trans ((ag.tk si1).trans (PK.trans ((ag.tk si2).trans PQ)))
   have QM:cK Mi (.ref bx) (.box sd x1):=cK.keep (e:=.box sd x1) ((ag.tk si1).trans (PK.trans ((ag.tk si2).trans PQ))) ⟨bx,rfl,Q9⟩
   have mr:∀(l:List Str) (n:Nat),(l++Z4 n x1).map (TW.E.box sd)=l.map (TW.E.box sd)++Z4 n (TW.E.box sd x1):=fun l n=>by rw[Z9,List.map_replicate]
   show⟨⟨LI,OO,_,_,_,by rw[U7];rfl,by lia,by lia,by lia,by lia,fun g hg=>?_⟩,Pl,M8,_,_,ax++Z4 n1 x1,tx++Z4 n2 x1,G1,Hg,?_,?_,?_,fun y hy=>?_,fun y hy=>?_,fun g=>?_⟩
   . have gx:=hg x1 xin
     have pg:=qW (c:=c1) (g:=g x1) (m:=cz-1) (by lia) (by lia)
     have bt:=KU g hg
     rw[R3]
     lia
   . rw[mr]
     show Paired.app (Paired.aV pa fun o o z=>cK.keep tkx z) (Paired.rep QM n1)
   . rw[mr]
     show Paired.app (Paired.aV pt fun o o z=>cK.keep tkx z) (Paired.rep QM n2)
   . rw[Z1,Z1,aa9,aa9]
     lia
   . rcases dk hy with w|w
     . show Mq y w
     . rw[adT w]
       show xin
   . rcases dk hy with w|w
     . show PV y w
     . rw[adT w]
       show xin
   . rw[jn,jn,jo,jo,R3,← KR g,← Xi.1,Int.sub_mul]
     lia
 obtain⟨⟨le,mo,o10,uC,pC,rfl,lm,Xd,Iq,Yo,KU⟩,sx2,M8,ua,ut,ax,tx,M5,Nk,pa,pt,Ux,Mq,PV,KR⟩:=zz
 have PY:=Paired.length pa
 have P1:=Paired.length pt
 rw[ZW]at PY P1
 rw[aag]at KR KU
 have w4:15*sz*(bS.length:Int)<=15*sz*4:=aaE (by lia) (by lia)
 show kR _ _ ?_
 show ak fun Rk kR=>?_
 have Zt:(bS.length:Int)<=5:=by lia
 show⟨_,U,_,U,_,_,U,U,⟨by lia,by lia⟩,_,U,_,U,_,_,U,U,.inr ⟨by lia,by lia⟩,?_⟩
 obtain⟨lift,el,Zw,Zx⟩ : ∃lift:Int,lift=-(le/sz)*sz/\-le<=lift/\lift < -le+sz:=by
   show⟨_,U,?_⟩
   have a:=acJ le sz
   have b:=adB le (show sz≠0 by lia)
   have c:=ac1 le (show 0<sz by lia)
   rw[Int.neg_mul,adb]
   lia
 show ai (kR _ _ ?_)
 show aq [some (.ref z),some v,some (.int sz),some (.str sd),some (.ref D),some (.int nu),some (.ref ad),some (.ref tk),some (.int le),some (.int mo),o10,uC,pC,some (.int lift),none] (by rw[el];rfl) ?_
 show ak fun Rk kR=>?_
 show⟨_,U,_,U,_,_,U,U,agm,fun n0 Wj=>?_⟩
 have t1:=af Wj (.tup [.str "number",.int (nu+lift)])
 have h1:(upd Hx n0 (.tup [.str "number",.int (nu+lift)])) n0=some (.tup [.str "number",.int (nu+lift)]):=ae
 generalize upd Hx n0 (.tup [.str "number",.int (nu+lift)])=Ka at t1 h1 ⊢
 show⟨agl,fun n1 AD=>?_⟩
 have t2:=af AD (.lst [.ref n0])
 have h2:(upd Ka n1 (.lst [.ref n0])) n1=some (.lst [.ref n0]):=ae
 generalize upd Ka n1 (.lst [.ref n0])=Kb at t2 h2 ⊢
 have Tw:=aa t1 t2
 show⟨_,U,n1,ad,_,_,U,U,h2,Tw _ _ M5,(by change 1+_<=_;lia),fun n2 hn2=>?_⟩
 have t3:=af hn2 (.lst ([.ref n0]++ua))
 have h3:(upd Kb n2 (.lst ([.ref n0]++ua))) n2=some (.lst ([.ref n0]++ua)):=ae
 generalize upd Kb n2 (.lst ([.ref n0]++ua))=Kc at t3 h3 ⊢
 have Tx:=aa Tw t3
 have XR:Paired (EK K Kc) ([.ref n0]++ua) (TW.E.num (nu+lift)::ax.map (TW.E.box sd)):=.cons (Tp.k ⟨n0,rfl,t3 _ _ (t2 _ _ h1)⟩) (Paired.aV pa fun o o z=>cK.ek (cK.keep (ag.tk Tx) z))
 show⟨.plus,n2,_,_,U,h3,XR,(by rw[Z1];change 1<=1+_;lia),(by rw[Z1];change 1+_<=64;lia),by left,fun tv e1 Kd t4 ek1 Ox GG=>?_⟩
 have oI:(100000:Nat)<2^100:=by left
 have Th:e1.dZ:=Ox.dZ fun x hx=>by
   rcases bT hx with rfl|hx
   . show aae
   . obtain⟨y,_,rfl⟩:=bF hx
     show aae
 have Sw:e1.okIn (fun t y=>t=sd/\y∈ns):=Ox.okIn fun x hx=>by
   rcases bT hx with rfl|hx
   . change(nu+lift).natAbs<2^100
     lia
   . obtain⟨y,hy,rfl⟩:=bF hx
     show⟨U,Mq y hy⟩
 have YS:e1.dep<=0+6:=GG 0 fun x hx=>by
   rcases bT hx with rfl|hx
   . show Z0 _
   . obtain⟨y,_,rfl⟩:=bF hx
     show Z0 _
 have T1:∀W:Str->Str->Int,e1.worth W=nu+lift+lsum ax (W sd):=fun W=>by
   rw[Ox.worth]
   change nu+lift+wsum W (ax.map (TW.E.box sd))=_
   rw[jJ]
 have fin:∀te:TW.E,(∀W:Str->Str->Int,te.worth W=nu+lift+(lsum ax (W sd)-lsum tx (W sd)))->Gs ns sf sz sd e te (mo+lift):=fun te WC W hW=>by
   have bw:=KU (W sd) hW
   have aw:=KR (W sd)
   have tw:=WC W
   obtain⟨t,ht⟩:=Vf (fun o y=>W sd y)
   have ht:e.worth (fun o y=>W sd y)=nu+d7 (W sd) bS+t*sz:=ht
   show⟨by lia,by lia,-(le/sz)-t,?_⟩
   rw[Int.sub_mul,← el]
   lia
 show ai (kR _ _ ?_)
 show aq [some (.ref z),some v,some (.int sz),some (.str sd),some (.ref D),some (.int nu),some (.ref ad),some (.ref tk),some (.int le),some (.int mo),o10,uC,pC,some (.int lift),some tv] U ?_
 have PD:=aa Tx t4
 have S7:=aa sx2 PD
 have Hi:=PD _ _ Nk
 show⟨_,U,tk,_,U,.inl (aE.of Hi),_,_,U,U,_,U,?_⟩
 show bE (fun c=>?_) (fun c=>?_)
 . have c:(0:Int)<(ut.length:Int):=iN c
   show⟨_,U,_,U,.plus,tk,_,tx.map (TW.E.box sd),U,Hi,Paired.aV pt (fun o o z=>cK.ek (cK.keep (ag.tk PD) z)),by lia,(by change _<=64;lia),by left,fun v2 e2 Ke t5 MI Oy Cg=>?_⟩
   show⟨agn,fun n3 Wk=>?_⟩
   have t6:=af Wk (.tup [.str "less",tv,v2])
   have h6:(upd Ke n3 (.tup [.str "less",tv,v2])) n3=some (.tup [.str "less",tv,v2]):=ae
   generalize upd Ke n3 (.tup [.str "less",tv,v2])=Kf at t6 h6 ⊢
   show⟨_,U,_,U,_,_,U,U,agm,fun a ha=>?_⟩
   have t7:=af ha (.tup [.ref n3,.int (mo+lift)])
   have TB:=ag.tk (aa t6 t7)
   have YT:e2.dep<=0+6:=Cg 0 fun x hx=>by
     obtain⟨y,_,rfl⟩:=bF hx
     show Z0 _
   show q a _ _ (.two .less e1 e2) _ (aa S7 (aa t5 (aa t6 t7))) ae ⟨tv,v2,Tp.k ⟨n3,U,t7 _ _ h6⟩,EK.keep ((ag.tk t5).trans TB) ek1,EK.keep TB MI⟩ ⟨Th,Oy.dZ fun x hx=>?_⟩ ⟨Sw,Oy.okIn fun x hx=>?_⟩ ?_ (by lia) (by lia) (fin _ fun W=>?_)
   . obtain⟨y,_,rfl⟩:=bF hx
     show aae
   . obtain⟨y,hy,rfl⟩:=bF hx
     show⟨U,PV y hy⟩
   . change max e1.dep e2.dep+1<=7
     lia
   . change e1.worth W-e2.worth W=_
     rw[T1,Oy.worth,jJ]
     lia
 . show⟨_,U,_,U,_,U,_,_,U,U,agm,fun a ha=>?_⟩
   have c:¬ (0:Int)<(ut.length:Int):=fun z=>c (dE z)
   have tn:tx=[]:=List.length_eq_zero_iff.mp (by lia)
   show q a _ _ e1 _ (cF S7 ha) ae (EK.keep (ag.tk (af ha _)) ek1) Th Sw (by lia) (by lia) (by lia) (fin _ fun W=>?_)
   rw[T1,tn]
   change _=nu+lift+(lsum ax (W sd)-0)
   lia
abbrev zU:Stmt:=top 24
abbrev EI:Stmt:=top 23
def cR {P Q:Str->Str->Prop}(k:∀t x,P t x->Q t x){e:E}(h:e.okIn P):e.okIn Q:=E.okIn.imp k h
structure gW (H:Hp)(v:V)(ns:List Str)(x:Str)(e:E)(n:Int):Prop where
 at_:aG H v (.put x e n)
 xin:x∈ns
 is:e.dZ
 ok:e.okIn (jN ns)
 dp:e.dep<30
def gW.keep {H H':Hp}{v:V}{ns:List Str}{x:Str}{e:E}{n:Int}(k:TK H H')(h:gW H v ns x e n):gW H' v ns x e n:=⟨aG.keep k h.at_,h.xin,h.is,h.ok,h.dp⟩
structure Made (ns:List Str)(sf:Str->Int)(sd bf x:Str)(e ce:E):Prop where
 c:ce.lJ
 ok:ce.okIn (fun t y=>(t=sd\/t=bf)/\y∈ns)
 dp:ce.dep<=15
 iff:∀W:Str->Str->Int,(0<=W sd x/\W sd x<sf x)->(∀y∈ns,0<=W bf y/\W bf y<sf y)->(ce.holds W=true↔W sd x=e.worth (fun _ y=>W bf y)%sf x)
def GA (sd x:Str)(sz:Int)(i:Nat):E:=.two .plus (.box sd x) (.num ((0+(i:Int))*sz))
def Bl (K:ZV):Sp:=fun vs H Q y=>∃(z:Addr) (v:V) (sd bf:Str) (ns:List Str) (sf:Str->Int) (x:Str) (e:E) (n:Int),vs=[.ref z,v,.str sd,.str bf]/\B0 H z ns sf/\gW H v ns x e n/\ns.length<=4/\ns.Nodup/\("":Str)∉ns/\∀(v':V) (ce:E) (H':Hp),ag H H'->EK K H' v' ce->Made ns sf sd bf x e ce->Q v' H'
def nT:az ["sizes","put","side","before","size","told","most","cases"] ["sizes","put","side","before"] (aj zU):=cU
def DI {f:Addr}{fd:aaa}(F:bQ K "put_made" "put_made" zU f fd)(m_range:mg "range"=none)(SS:aO P w K mg base "small_sum" ["sizes","sum_told","size","side"] 33 (Bm K))(AN0:aO P w K mg base "any_of" ["conditions"] 8 (pU K 5)):aK P w K mg base bJ 34 f fd ["sizes","put","side","before"] (Bl K):=by
 show F.df nT fun cdv A outer s H vs Q E hr h=>?_
 obtain⟨z,v,sd,bf,ns,sf,x,e,n,rfl,hz,pa,l4,AV,yP,q⟩:=h
 obtain⟨u,⟨p,rfl,hp⟩,eu⟩:=pa.at_
 have AN:=AN0.mono (show 8<=33 by lia)
 have big:10000<=sizeLine:=by left
 obtain⟨kz,gz,NV⟩:=id hz
 obtain⟨hsz,z1,Qf⟩:=NV x pa.xin
 obtain⟨sz,La⟩ : ∃sz,sz=sf x:=⟨_,rfl⟩
 rw[← La]at hsz z1 Qf
 have dz:dv H z (.str x) (some (.int sz)):=by
   have:=dv.k (k:=.inr x) gz
   rw[hsz]at this
   show this
 show cM ⟨_,(aeg (aen 4 nT.nd (L3.ye (bB hr _ (by left)) (Y 0) (aeh aei (Y 1) aef)))
   (aeg (aeM (aek SS hr U (L (Y 0) (L (aeh aei (Y 1) aef) (L (Y 4) (L (Y 3) M))))) (aeC 2 (aev (aep 5 nT.nd) (aev (aep 6 nT.nd) aeB))))
   (aeg (ae3 (i:=7) [none,some 2,some 1,some 4] ["turns","side","put","size"] (iw zU) U (ae5 U m_range (L (aes aeN (aes L3.kE (Y 6) (Y 4)) aef) M)) (fun r r r r r=>⟨(aep 0 (d9 ["turns","side","put","size"])),aeE,(aet (L ael (L (aet (L (Y 1) (L (aeh aei (Y 2) aef) M))) (L (aet (L ael (L (aes aeS (Y 0) (Y 3)) M))) M))))⟩) nT.nd)
   (aej (aem (aek AN hr U (L (aeO [none,some 5] ["case","told"] (iw zU) U (aeA (Y 7)) (fun r r r r r=>⟨(aep 0 (d9 ["case","told"])),aeE,(aet (L ael (L (Y 0) (L (Y 1) M))))⟩)) M))))))),?_⟩
 show ak fun Rk kR=>?_
 show⟨_,U,_,U,?_⟩
 show aH hp U ?_
 show⟨z,_,U,dz,?_⟩
 show ai (kR _ _ ?_)
 show aq [some (.ref z),some (.ref p),some (.str sd),some (.str bf),some (.int sz),none,none,none] U ?_
 show ak fun Rk kR=>?_
 show⟨_,U,_,U,?_⟩
 show aH hp U ?_
 show⟨_,U,_,U,z,u,sz,bf,e,ns,sf,U,hz,eu,pa.is,pa.ok,pa.dp,l4,AV,yP,z1,Qf,fun a tv m te H1 s1 ga U2 WX XG YV m0 m1 X6=>?_⟩
 show kT ga ?_
 show kR _ _ ?_
 show aq [some (.ref z),some (.ref p),some (.str sd),some (.str bf),some (.int sz),some tv,some (.int m),none] U ?_
 show ak fun Rk kR=>?_
 have e7:=s1 _ _ hp
 have d0:0<=m/sz:=Int.ediv_nonneg m0 (by lia)
 have d1:m/sz<31:=Int.ediv_lt_of_lt_mul (by lia) m1
 show⟨_,U,_,U,_,_,U,U,⟨by lia,by lia⟩,_,_,U,U,m/sz+1,U,by lia,by lia,fun D hD=>?_⟩
 show cW (lo:=0) (n:=(m/sz+1).toNat) (fun(i:Nat) (Hx:Hp)=>ag H1 Hx/\∃ws,Hx D=some (.lst ws)/\Paired (EK K Hx) ws ((aax i).map (GA sd x sz))) ⟨af hD _,[],ae,.nil⟩ (fun i Hx hi zz=>?_) (fun H2 zz=>?_)
 . obtain⟨sx,ws,gD,pw⟩:=zz
   have wl:=Paired.length pw
   rw[ZW,abt]at wl
   have V2:i<31:=by lia
   show ai ?_
   show bI (A:=fun H5=>cp _ D _ H5 _) ?_
   show⟨_,U,_,U,?_⟩
   show aH (sx _ _ e7) U ?_
   show⟨agm,fun t1 oB=>?_⟩
   obtain⟨Ha,a1,g1,zz⟩:=cm oB (.tup [.str sd,.str x])
   rw[zz];clear zz
   show⟨_,U,_,U,_,_,U,U,.inr ⟨by lia,by lia⟩,agm,fun t2 HX=>?_⟩
   obtain⟨Hb,a2,g2,zz⟩:=cm HX (.tup [.str "number",.int ((0+(i:Int))*sz)])
   rw[zz];clear zz
   show⟨agn,fun t3 Wz=>?_⟩
   obtain⟨Hc,a3,g3,zz⟩:=cm Wz (.tup [.str "plus",.ref t1,.ref t2])
   rw[zz];clear zz
   have Mm:=aa a1 (aa a2 a3)
   have Aq:=Mm _ _ gD
   have iq:TK Hc (upd Hc D (.lst (ws++[.ref t3]))):=TW.TK.lst Aq
   show⟨_,Aq,(by lia),aD (Pv:=fun(i:Nat) (Hx:Hp)=>ag H1 Hx/\∃ws,Hx D=some (.lst ws)/\Paired (EK K Hx) ws ((aax i).map (GA sd x sz))) (by repeat' constructor) hi ⟨av (aa sx Mm) hD,_,ae,?_⟩⟩
   rw[List.range_succ,Z9]
   show Paired.snoc (Paired.aV pw fun r r z=>EK.keep ((ag.tk Mm).trans iq) z) ⟨.ref t1,.ref t2,Tp.k ⟨t3,U,iq _ _ g3⟩,⟨t1,U,iq _ _ (a3 _ _ (a2 _ _ g1))⟩,Tp.k ⟨t2,U,iq _ _ (a3 _ _ g2)⟩⟩
 obtain⟨s2,ws,gD,pw⟩:=zz
 have wl:=Paired.length pw
 rw[ZW,abt]at wl
 obtain⟨es,MH⟩ : ∃es,es=(aax (m/sz+1).toNat).map (GA sd x sz):=⟨_,rfl⟩
 rw[← MH]at pw
 have Yn:=Paired.length pw
 show ai (kR _ _ ?_)
 show aq [some (.ref z),some (.ref p),some (.str sd),some (.str bf),some (.int sz),some tv,some (.int m),some (.ref D)] U ?_
 show⟨_,U,D,U,⟨_,aE.of gD⟩,fun D2 Au=>?_⟩
 show bo (xs:=ws) (fun(i:Nat) (Hx:Hp)=>ag H2 Hx/\∃ws2,Hx D2=some (.lst ws2)/\Paired (EK K Hx) ws2 ((es.take i).map fun c=>TW.E.two .same c te)) ⟨af Au _,[],ae,.nil⟩ (fun i Hx r zz=>aE.of (zz.1 _ _ gD)) (fun i x0 Hx hx zz=>?_) (fun Hx zz=>?_)
 . obtain⟨sx,ws2,mD,tW⟩:=zz
   have cX:=(aT hx)
   have KC:=Paired.length tW
   rw[ZW,aac]at KC
   obtain⟨ci,VU,U0⟩:=Paired.get pw hx
   show ai ?_
   show bI (A:=fun H5=>cp _ D2 _ H5 _) ?_
   show⟨_,U,_,U,agn,fun t1 oB=>?_⟩
   obtain⟨Ha,a1,g1,zz⟩:=cm oB (.tup [.str "same",x0,tv])
   rw[zz];clear zz
   have Aq:=a1 _ _ mD
   have iq:TK Ha (upd Ha D2 (.lst (ws2++[.ref t1]))):=TW.TK.lst Aq
   show⟨_,Aq,(by lia),aD (Pv:=fun(i:Nat) (Hx:Hp)=>ag H2 Hx/\∃ws2,Hx D2=some (.lst ws2)/\Paired (EK K Hx) ws2 ((es.take i).map fun c=>TW.E.two .same c te)) (by repeat' constructor) cX ⟨av (aa sx a1) Au,_,ae,?_⟩⟩
   rw[aad,VU,Z9]
   show Paired.snoc (Paired.aV tW fun r r z=>EK.keep ((ag.tk a1).trans iq) z) ⟨x0,tv,Tp.k ⟨t1,U,iq _ _ g1⟩,EK.keep ((ag.tk (aa sx a1)).trans iq) U0,EK.keep ((ag.tk (aa s2 (aa sx a1))).trans iq) U2⟩
 obtain⟨sx,ws2,mD,tW⟩:=zz
 rw[Yn,aag]at tW
 have KC:=Paired.length tW
 rw[ZW]at KC
 show⟨D2,ws2,_,U,mD,tW,by lia,by change _<=32;lia,by left,fun v' ce H' s' ek an=>q v' ce H' (aa s1 (aa s2 (aa sx s'))) ek ?_⟩
 have oI:(10000:Nat)<2^100:=by left
 have mem:∀c∈es,∃j:Nat,j<(m/sz+1).toNat/\c=GA sd x sz j:=fun c hc=>by
   rw[MH]at hc
   obtain⟨j,hj,rfl⟩:=bF hc
   show⟨j,List.mem_range.mp hj,U⟩
 show⟨an.c fun y hy=>?_,an.ok _ fun y hy=>?_,an.d 8 fun y hy=>?_,fun W w1 w2=>?_⟩
 . obtain⟨c,hc,rfl⟩:=bF hy
   obtain⟨j,_,rfl⟩:=mem c hc
   show⟨⟨aae,aae⟩,WX⟩
 . obtain⟨c,hc,rfl⟩:=bF hy
   obtain⟨j,hj,rfl⟩:=mem c hc
   show⟨⟨⟨.inl rfl,pa.xin⟩,?_⟩,cR (fun t y z=>⟨.inr z.1,z.2⟩) XG⟩
   have a:=aaE (show sz<=16 by lia) (show 0<=0+(j:Int)by lia)
   have b:=adV (show 0<=0+(j:Int)by lia) (show 0<=sz by lia)
   change((0+(j:Int))*sz).natAbs<2^100
   lia
 . obtain⟨c,hc,rfl⟩:=bF hy
   obtain⟨j,_,rfl⟩:=mem c hc
   change max (max 0 0+1) te.dep+1<=8
   lia
 . obtain⟨t0,t1,t,ht⟩:=X6 W w2
   rw[← La]at w1 ⊢
   rw[an.h]
   constructor
   . rintro⟨y,hy,hh⟩
     obtain⟨c,hc,rfl⟩:=bF hy
     obtain⟨j,_,rfl⟩:=mem c hc
     have hh:W sd x+(0+(j:Int))*sz=te.worth W:=iN hh
     have e9:e.worth (fun r y=>W bf y)=W sd x+(0+(j:Int)-t)*sz:=by rw[Int.sub_mul];lia
     rw[e9,adC,ac7 w1.1 w1.2]
   . intro hw
     have tm:te.worth W%sz=W sd x:=by rw[ht,adC,hw]
     have td:=acJ (te.worth W) sz
     have tq:=Int.ediv_nonneg t0 (show 0<=sz by lia)
     have ZN:=Int.ediv_le_ediv (show 0<sz by lia) t1
     obtain⟨j,hj⟩ : ∃j:Nat,te.worth W/sz=(j:Int):=⟨(te.worth W/sz).toNat,(aal tq).symm⟩
     show⟨_,fS ⟨GA sd x sz j,?_,U⟩,dE ?_⟩
     . rw[MH]
       show fS ⟨j,List.mem_range.mpr (by lia),U⟩
     . change W sd x+(0+(j:Int))*sz=te.worth W
       rw[acH,← hj,adb]
       lia
theorem kL:∀(kvs d:List (Key×V)) (k:Key),(k∈kvs.map (·.1)\/(aJ d k).isSome=true)->∃v,aJ (putAll d kvs) k=some v/\((k,v)∈kvs\/aJ d k=some v)
 | [],d,k,h=>by
   rcases h with h|h
   . show nomatch h
   . obtain⟨v,hv⟩:=Option.isSome_iff_exists.mp h
     show⟨v,hv,.inr hv⟩
 | p::r,d,k,h=>by
   obtain⟨v,h1,h2⟩:=kL r (putK d p.1 p.2) k (by
     by_cases e:k=p.1
     . show .inr (by rw[aW,ba e];rfl)
     . rcases h with h|h
       . rcases bT h with z|z
         . show aB z e
         . show .inl z
       . show .inr (by rw[aW,aQ e];show h))
   show⟨v,h1,?_⟩
   rcases h2 with z|z
   . show .inl (aY (.inr z))
   . rw[aW]at z
     split at z
     . rename_i e
       cases z
       show .inl (aY (.inl (by rw[e])))
     . show .inr z
def FC (bs:ao):List (Key×V):=bs.map fun b=>(.inr b.1,.int b.2)
def kP (bs:ao)(x:Str):Int:=match bs.find? (fun b=>decide (b.1=x))with
 | some b=>b.2
 | none=>1
theorem gU:∀{bs:ao},(bs.map (·.1)).Nodup->∀b∈bs,kP bs b.1=b.2
 | [],_,_,h=>nomatch h
 | a::r,nd,b,h=>by
   obtain⟨h1,h2⟩:=List.nodup_cons.mp (show(a.1::r.map (·.1)).Nodup from nd)
   rcases bT h with e|e
   . subst e
     unfold kP
     rw[acx (by show dE (rfl:b.1=b.1))]
   . have:=gU h2 b e
     unfold kP at this ⊢
     rw[abJ (fun z=>h1 (by rw[iN z];show fS ⟨_,e,rfl⟩))]
     show this
def Fb {H:Hp}{D:Addr}{bs:ao}(nd:(bs.map (·.1)).Nodup)(sz:∀b∈bs,1<=b.2/\b.2<=16)(h:H D=some (.dK (putAll [] (FC bs)))):B0 H D (bs.map (·.1)) (kP bs):=by
 show⟨_,h,fun x hx=>?_⟩
 obtain⟨b,hb,rfl⟩:=bF hx
 obtain⟨v,h1,h2⟩:=kL (FC bs) [] (.inr b.1) (.inl (fS ⟨(.inr b.1,.int b.2),fS ⟨b,hb,rfl⟩,rfl⟩))
 rw[gU nd b hb]
 rcases h2 with z|z
 . obtain⟨b',NF,e⟩:=bF z
   injection e with ea eb
   injection ea with ea
   have e2:b'.2=b.2:=by rw[← gU nd b hb,← gU nd b' NF,ea]
   rw[e2]at eb
   show⟨by rw[h1,← eb],sz b hb⟩
 . show nomatch z
structure Gh (bs:ao)(x1 x2:Str)(e1 e2 ce:E):Prop where
 c:ce.lJ
 ok:ce.okIn (fun t y=>(t="mine"\/t="yours")/\y∈bs.map (·.1))
 dp:ce.dep<=17
 iff:∀W:Str->Str->Int,(∀t:Str,(t="mine"\/t="yours")->∀b∈bs,0<=W t b.1/\W t b.1<b.2)->(ce.holds W=true↔(∀y∈bs.map (·.1),y≠x1->y≠x2->W "mine" y=W "yours" y)/\W "mine" x1=e1.worth (fun _ y=>W "yours" y)%kP bs x1/\W "yours" x2=e2.worth (fun _ y=>W "mine" y)%kP bs x2)
def dr (x1 x2 y:Str):Bool:=!oC (.str y) [.str x1,.str x2]
def ku {x1 x2 y:Str}:dr x1 x2 y=true↔y≠x1/\y≠x2:=by
 unfold dr oC
 rw[ack,acj]
 have e:∀a:Str,(¬ fA (.str a) (.str y)=true)↔y≠a:=fun a=>by
   constructor
   . intro h z
     show h (by rw[z];simp[fA])
   . intro h z
     simp[fA]at z
     show h z.symm
 show⟨fun h=>⟨(e x1).mp (h _ (aY (.inl rfl))),(e x2).mp (h _ (aY (.inr (List.mem_singleton.mpr rfl))))⟩,fun h x hx=>by
   rcases bT hx with rfl|hx
   . show(e x1).mpr h.1
   . rw[bU hx]
     show(e x2).mpr h.2⟩
theorem kG {H:Hp}:∀{vb:List V} {bs:ao},Paired (cB H) vb bs->Paired (oF H) vb (FC bs)
 | _,_,.nil=>.nil
 | _,_,.cons r t=>.cons r (kG t)
def xf (K:ZV):Sp:=fun vs H Q z=>∃(p B I N:Addr) (vb:List V) (bs:ao) (v1 v2:V) (x1 x2:Str) (e1 e2:E) (n1 n2:Int),vs=[.ref p,v1,v2]/\H p=some (.tup [.ref B,.ref I,.ref N])/\H B=some (.lst vb)/\Paired (cB H) vb bs/\bs.length<=4/\(∀b∈bs,1<=b.2/\b.2<=16)/\(bs.map (·.1)).Nodup/\("":Str)∉bs.map (·.1)/\gW H v1 (bs.map (·.1)) x1 e1 n1/\gW H v2 (bs.map (·.1)) x2 e2 n2/\∀(v':V) (ce:E) (H':Hp),ag H H'->EK K H' v' ce->Gh bs x1 x2 e1 e2 ce->Q v' H'
def rC:az ["program","first","second","sizes","others","made"] ["program","first","second"] (aj EI):=cU
def Dz {f:Addr}{fd:aaa}(F:bQ K "between_puts" "between_puts" EI f fd)(m_dict:mg "dict"=none)(PM:aO P w K mg base "put_made" ["sizes","put","side","before"] 34 (Bl K))(BS0:aO P w K mg base "boxes_same" ["names"] 9 (pV K))(AO0:aO P w K mg base "all_of" ["conditions"] 4 (jH K 2)):aK P w K mg base bJ 35 f fd ["program","first","second"] (xf K):=by
 show F.df rC fun cdv A outer s H vs Q E hr h=>?_
 obtain⟨p,B,I,N,vb,bs,v1,v2,x1,x2,e1,e2,n1,n2,rfl,hp,hB,pb,l4,sz,xK,bne,Jl,Jm,q⟩:=h
 obtain⟨u1,⟨p1,rfl,e7⟩,_⟩:=Jl.at_
 obtain⟨u2,⟨p2,rfl,eY⟩,_⟩:=Jm.at_
 have BS:=BS0.mono (show 9<=34 by lia)
 have AO:=AO0.mono (show 4<=34 by lia)
 have oE:=Paired.length pb
 show cM ⟨_,(aeg (aen 3 rC.nd (aeH L3.Cb U m_dict (by right) (L (aeh aei (Y 0) aef) M)))
   (aeg (ae3 (i:=4) [none,none,some 1,some 2] ["name","size","first","second"] (iw EI) U (aeA (aeh aei (Y 0) aef)) (fun v v v v v=>⟨(aeC 2 (aev (aep 0 (d9 ["name","size","first","second"])) (aev (aep 1 (d9 ["name","size","first","second"])) aeB))),(L3.if1 (aeo L3.qU (Y 0) (aet (L (aeh aei (Y 2) aef) (L (aeh aei (Y 3) aef) M))) U)),(Y 0)⟩) rC.nd)
   (aeg (aen 5 rC.nd (aeu (L (aek PM hr U (L (Y 3) (L (Y 1) (L ael (L ael M))))) (L (aek PM hr U (L (Y 3) (L (Y 2) (L ael (L ael M))))) M))))
   (aej (aem (aek AO hr U (L (aes aeV (aeu (L (aek BS hr U (L (Y 4) M)) M)) (Y 5)) M))))))),?_⟩
 show ak fun Rk kR=>?_
 show⟨_,U,?_⟩
 show aH hp U ?_
 show⟨B,_,_,U,hB,kG pb,fun z hz=>?_⟩
 have s1:=af hz (.dK (putAll [] (FC bs)))
 have Pr:B0 (upd H z (.dK (putAll [] (FC bs)))) z (bs.map (·.1)) (kP bs):=Fb xK sz ae
 generalize upd H z (.dK (putAll [] (FC bs)))=H1 at s1 Pr ⊢
 show ai (kR _ _ ?_)
 show aq [some (.ref p),some (.ref p1),some (.ref p2),some (.ref z),none,none] U ?_
 show ak fun Rk kR=>?_
 have jR:=s1 _ _ hp
 have fE:=s1 _ _ hB
 show⟨_,U,?_⟩
 show aH jR U ?_
 show⟨B,U,⟨_,aE.of fE⟩,fun O hO=>?_⟩
 show bo (xs:=vb) (fun(i:Nat) (Hx:Hp)=>ag H1 Hx/\Hx O=some (.lst ((((bs.take i).map (·.1)).filter (dr x1 x2)).map V.str))) ⟨af hO _,ae⟩ (fun i Hx v zz=>aE.of (zz.1 _ _ fE)) (fun i x0 Hx hx zz=>?_) (fun H2 zz=>?_)
 . obtain⟨sx,gO⟩:=zz
   have cX:=(aT hx)
   obtain⟨b,gm,jV,rfl,m7⟩:=Paired.get pb hx
   have sx0:=aa s1 sx
   show kT (sx0 _ _ m7) ?_
   show⟨_,U,_,U,?_⟩
   show aH (sx0 _ _ e7) U ?_
   show⟨_,U,?_⟩
   show aH (sx0 _ _ eY) U ?_
   show⟨agm,fun t1 oB=>?_⟩
   have a1:=af oB (.tup [.str x1,.str x2])
   have G0:(upd Hx t1 (.tup [.str x1,.str x2])) t1=some (.tup [.str x1,.str x2]):=ae
   generalize upd Hx t1 (.tup [.str x1,.str x2])=Hy at a1 G0 ⊢
   have GY:=a1 _ _ gO
   show⟨t1,_,U,.inr (aN.of G0),U,U,_,U,?_⟩
   have L9:((bs.take (i+1)).map (·.1)).filter (dr x1 x2)=((bs.take i).map (·.1)).filter (dr x1 x2)++if dr x1 x2 b.1=true then[b.1]else[]:=by
     rw[aad,gm,Z9,List.filter_append]
     change _++[b.1].filter (dr x1 x2)=_
     rw[abU]
     rfl
   show bE (fun c=>?_) (fun c=>?_)
   . have c:dr x1 x2 b.1=true:=c
     show⟨_,U,_,GY,aC ?_,aD (Pv:=fun(i:Nat) (Hx:Hp)=>ag H1 Hx/\Hx O=some (.lst ((((bs.take i).map (·.1)).filter (dr x1 x2)).map V.str))) (by repeat' constructor) cX ⟨av (aa sx a1) hO,?_⟩⟩
     . have a:=acE (dr x1 x2) ((bs.take i).map (·.1))
       rw[ZW,aac]at a
       rw[ZW]
       lia
     . rw[ae,L9,ba c,Z9]
       rfl
   . have c:¬ dr x1 x2 b.1=true:=c
     show aD (Pv:=fun(i:Nat) (Hx:Hp)=>ag H1 Hx/\Hx O=some (.lst ((((bs.take i).map (·.1)).filter (dr x1 x2)).map V.str))) (by repeat' constructor) cX ⟨aa sx a1,?_⟩
     rw[L9,aQ c,aaV]
     show GY
 obtain⟨s2,gO⟩:=zz
 rw[oE,aag]at gO
 obtain⟨ns,GK⟩ : ∃ns,ns=(bs.map (·.1)).filter (dr x1 x2):=⟨_,rfl⟩
 rw[← GK]at gO
 have nl:ns.length<=4:=by
   have a:=acE (dr x1 x2) (bs.map (·.1))
   rw[ZW]at a
   rw[GK]
   lia
 show ai (kR _ _ ?_)
 show aq [some (.ref p),some (.ref p1),some (.ref p2),some (.ref z),some (.ref O),none] U ?_
 show ak fun Rk kR=>?_
 have s12:=aa s1 s2
 have Sv:(bs.map (·.1)).length<=4:=by rw[ZW];show l4
 show⟨_,U,_,U,z,.ref p1,"mine","yours",bs.map (·.1),kP bs,x1,e1,n1,U,Pr.same s2,Jl.keep (ag.tk s12),Sv,xK,bne,fun w1 c1 H3 s3 ek1 LJ=>?_⟩
 have s13:=aa s12 s3
 show⟨_,U,_,U,z,.ref p2,"yours","mine",bs.map (·.1),kP bs,x2,e2,n2,U,Pr.same (aa s2 s3),Jm.keep (ag.tk s13),Sv,xK,bne,fun w2 c2 H4 s4 ek2 LK=>?_⟩
 show⟨agm,fun M8 hM=>?_⟩
 have s5:=af hM (.lst [w1,w2])
 have g5:(upd H4 M8 (.lst [w1,w2])) M8=some (.lst [w1,w2]):=ae
 generalize upd H4 M8 (.lst [w1,w2])=H5 at s5 g5 ⊢
 show ai (kR _ _ ?_)
 show aq [some (.ref p),some (.ref p1),some (.ref p2),some (.ref z),some (.ref O),some (.ref M8)] U ?_
 have SN:=aa s3 (aa s4 s5)
 show⟨_,U,O,ns,U,SN _ _ gO,by lia,fun bv be H6 s6 UZ Oz YU=>?_⟩
 show⟨agl,fun L8 hL=>?_⟩
 have s7:=af hL (.lst [bv])
 have g7:(upd H6 L8 (.lst [bv])) L8=some (.lst [bv]):=ae
 generalize upd H6 L8 (.lst [bv])=H7 at s7 g7 ⊢
 show⟨_,U,L8,M8,_,_,U,U,g7,s7 _ _ (s6 _ _ g5),(by change 1+2<=sizeLine;decide),fun L2 yo=>?_⟩
 have s8:=af yo (.lst ([bv]++[w1,w2]))
 have Tz:=ag.tk (aa s5 (aa s6 (aa s7 s8)))
 have XS:Paired (EK K (upd H7 L2 (.lst ([bv]++[w1,w2])))) ([bv]++[w1,w2]) [be,c1,c2]:=.cons (EK.keep (ag.tk (aa s7 s8)) UZ) (.cons (EK.keep ((ag.tk s4).trans Tz) ek1) (.cons (EK.keep Tz ek2) .nil))
 show⟨L2,_,_,U,ae,XS,(by change 1<=3;decide),(by change 3<=4;decide),by left,fun v' ce H' s' ek jt dp=>?_⟩
 show q v' ce H' (aa s12 (aa SN (aa s6 (aa s7 (aa s8 s'))))) ek ?_
 have all3:∀{P:TW.E->Prop},P be->P c1->P c2->∀x∈[be,c1,c2],P x:=fun a b c x hx=>by
   rcases bT hx with rfl|hx
   . show a
   . rcases bT hx with rfl|hx
     . show b
     . rw[bU hx]
       show c
 show⟨jt.lJ (all3 (Oz.lJ fun x hx=>?_) LJ.c LK.c),jt.okIn (all3 (Oz.okIn fun x hx=>?_) (cR (fun t y z=>z) LJ.ok) (cR (fun t y z=>⟨z.1.symm,z.2⟩) LK.ok)),dp 15 (all3 (by lia) LJ.dp LK.dp),fun W hW=>?_⟩
 . rcases bT hx with rfl|hx
   . show aae
   . obtain⟨y,_,rfl⟩:=bF hx
     show⟨aae,aae⟩
 . rcases bT hx with rfl|hx
   . show aae
   . obtain⟨y,hy,rfl⟩:=bF hx
     rw[GK]at hy
     have hy:=(List.mem_filter.mp hy).1
     show⟨⟨.inl rfl,hy⟩,.inr rfl,hy⟩
 . have inN:∀t:Str,(t="mine"\/t="yours")->∀y∈bs.map (·.1),0<=W t y/\W t y<kP bs y:=fun t ht y hy=>by
     obtain⟨b,hb,rfl⟩:=bF hy
     rw[gU xK b hb]
     show hW t ht b hb
   have i1:=LJ.iff W (inN "mine" (.inl rfl) x1 Jl.xin) (inN "yours" (.inr rfl))
   have i2:=LK.iff W (inN "yours" (.inr rfl) x2 Jm.xin) (inN "mine" (.inl rfl))
   have ib:be.holds W=true↔∀y∈bs.map (·.1),y≠x1->y≠x2->W "mine" y=W "yours" y:=by
     rw[Oz.holds]
     constructor
     . intro h y hy h1 h2
       have:=h (fg y) (aY (.inr (fS ⟨y,by rw[GK];show List.mem_filter.mpr ⟨hy,ku.mpr ⟨h1,h2⟩⟩,rfl⟩)))
       show iN this
     . intro h x hx
       rcases bT hx with rfl|hx
       . rfl
       . obtain⟨y,hy,rfl⟩:=bF hx
         rw[GK]at hy
         have hy:=List.mem_filter.mp hy
         have k:=ku.mp hy.2
         show dE (h y hy.1 k.1 k.2)
   rw[jt.holds,← ib,← i1,← i2]
   show⟨fun h=>⟨h _ (aY (.inl rfl)),h _ (aY (.inr (aY (.inl rfl)))),h _ (aY (.inr (aY (.inr (List.mem_singleton.mpr rfl)))))⟩,fun h=>all3 h.1 h.2.1 h.2.2⟩
abbrev zR:Stmt:=top 20
abbrev wV:Stmt:=top 21
def E.AJ:E->Str->Bool
 | .box t y,x=>decide (t="box")&&decide (y=x)
 | _,_=>false
def Ci {K:ZV}{H:Hp}{a t0:Addr}{a0 x:Str}{y:V}{b1:Bool}{Q:VK}(ha:H a=some (.tup [.str a0,y]))(h0:H t0=some (.tup [.str "box",.str x]))(hy:EM K H y (.str x) b1)(q:Q (.bl (decide (a0="box")&&b1)) H):tX K (.ref a) (.ref t0) H Q:=by
 show⟨a,t0,_,_,fun j=>match j with|0=>decide (a0="box")|_=>b1,U,U,aN.of ha,aN.of h0,fun j u v hu hv=>?_,?_⟩
 . match j,hu,hv with
   | 0,hu,hv=>
     cases hu
     cases hv
     have z:=EM.flat (K:=K) (H:=H) (x:=.str a0) (y:=.str "box") rfl rfl
     have e:fA (.str a0) (.str "box")=decide (a0="box"):=by
       change(a0 == "box")=_
       rw[abe,beq_iff_eq,decide_eq_true_iff]
     rw[e]at z
     show z
   | 1,hu,hv=>
     cases hu
     cases hv
     show hy
 . change Q (.bl ((decide (a0="box")&&(b1&&true))&&true)) H
   rw[adX,adX]
   show q
def MO {K:ZV}{H:Hp}{a t0 y:Addr}{a0 x:Str}{z:V}{ws:List V}{Q:VK}(ha:H a=some (.tup [.str a0,.ref y,z]))(h0:H t0=some (.tup [.str "box",.str x]))(hy:H y=some (.tup ws))(q:Q (.bl false) H):tX K (.ref a) (.ref t0) H Q:=by
 show⟨a,t0,_,_,fun j=>match j with|0=>fA (.str a0) (.str "box")|_=>false,U,U,aN.of ha,aN.of h0,fun j u v hu hv=>?_,?_⟩
 . match j,hu,hv with
   | 0,hu,hv=>
     cases hu
     cases hv
     show EM.flat rfl rfl
   | 1,hu,hv=>
     cases hu
     cases hv
     show EM.text (aN.of hy)
 . change Q (.bl (_&&false)) H
   rw[ace]
   show q
def MN {K:ZV}{H:Hp}{a t0:Addr}{a0 x:Str}{Q:VK}(ha:H a=some (.tup [.str a0]))(h0:H t0=some (.tup [.str "box",.str x]))(q:Q (.bl false) H):tX K (.ref a) (.ref t0) H Q:=by
 show⟨a,t0,_,_,fun z=>fA (.str a0) (.str "box"),U,U,aN.of ha,aN.of h0,fun j u v hu hv=>?_,?_⟩
 . match j,hu,hv with
   | 0,hu,hv=>
     cases hu
     cases hv
     show EM.flat rfl rfl
 . change Q (.bl (_&&false)) H
   rw[ace]
   show q
def cK.Ky {H:Hp}:∀{e:E} {v:V},cK H v e->∃p xs,v=.ref p/\H p=some (.tup xs)
 | .num _,_,⟨p,e,h⟩=>⟨p,_,e,h⟩
 | .box _ _,_,⟨p,e,h⟩=>⟨p,_,e,h⟩
 | .yes,_,⟨p,e,h⟩=>⟨p,_,e,h⟩
 | .nt _,_,⟨_,⟨p,e,h⟩,_⟩=>⟨p,_,e,h⟩
 | .two _ _ _,_,⟨_,_,⟨p,e,h⟩,_⟩=>⟨p,_,e,h⟩
def qt {K:ZV}{H:Hp}{t0:Addr}{x:Str}{Q:VK}:∀{s:E} {u:V},cK H u s->H t0=some (.tup [.str "box",.str x])->Q (.bl (s.AJ x)) H->tX K u (.ref t0) H Q
 | .num m,_,⟨p,e,h⟩,h0,q=>by
   subst e
   show Ci h h0 (EM.flat rfl rfl) q
 | .box t y,_,⟨p,e,h⟩,h0,q=>by
   subst e
   have z:=EM.flat (K:=K) (H:=H) (x:=.str y) (y:=.str x) rfl rfl
   have e:fA (.str y) (.str x)=decide (y=x):=by
     change(y==x)=_
     rw[abe,beq_iff_eq,decide_eq_true_iff]
   rw[e]at z
   show Ci h h0 z q
 | .yes,_,⟨p,e,h⟩,h0,q=>by
   subst e
   show MN h h0 q
 | .nt a,_,⟨x1,⟨p,e,h⟩,ea⟩,h0,q=>by
   subst e
   obtain⟨p1,xs,rfl,h1⟩:=ea.Ky
   show Ci h h0 (EM.text (aN.of h1)) (by rw[ace];show q)
 | .two k a b,_,⟨x1,y1,⟨p,e,h⟩,ea,eb⟩,h0,q=>by
   subst e
   obtain⟨p1,xs,rfl,h1⟩:=ea.Ky
   show MO h h0 h1 q
def E.nm:E->Str->Bool
 | .box t y,x=>E.AJ (.box t y) x
 | .two _ a b,x=>a.nm x || b.nm x
 | _,_=>false
def f7 (n:Nat):Sp:=fun vs H Q z=>∃(v:V) (e:E) (x:Str),vs=[v,.str x]/\cK H v e/\e.dZ/\(∀t y,e=.box t y->t="box")/\e.okIn (fun t z=>t="box")/\e.dep<n/\∀H',ag H H'->Q (.bl (e.nm x)) H'
def vK {f:Addr}{fd:aaa}:aK P w K mg base bJ 1 f fd ["sum_told","name"] (f7 0):=by
 have no:∀vs H Q E,¬ f7 0 vs H Q E:=fun vs H Q E h=>by
   obtain⟨v,e,x,_,_,_,_,_,h,_⟩:=h
   lia
 show⟨fun vs H Q E h=>aB h (no vs H Q E),fun A outer s H args us vs Q E z z z z h=>aB h (no vs H Q E)⟩
def J3:az ["sum_told","name"] ["sum_told","name"] (aj zR):=cU
def DF {n:Nat}{f:Addr}{fd:aaa}(F:bQ K "names_box" "names_box" zR f fd)(PT:∃t,mg "PARTED"=some (.ref t)/\∀H:Hp,aN K H t ((["plus","less","same","under","not","both"]:List Str).map V.str))(m_any:mg "any"=none)(G:aO P w K mg base "names_box" ["sum_told","name"] (n+1) (f7 n)):aK P w K mg base bJ (n+1+1) f fd ["sum_told","name"] (f7 (n+1)):=by
 obtain⟨tp,mP,cP⟩:=PT
 show F.df J3 fun cdv A outer s H vs Q E hr h=>?_
 obtain⟨v,e,x,rfl,ev,is,bt,ok,dp,q⟩:=h
 show cM ⟨_,(aeg (aeq (aeo aeW (aeh aei (Y 0) aef) (L3.glob (w:=.ref tp) U mP rfl) U) (aej (aem (aex L3.Ak U m_any (by right) (L (aeO [none,some 1] ["part","name"] (iw zR) U (L3.iT (L3.J5 (Y 0) aef)) (fun r r r r r=>⟨(aep 0 (d9 ["part","name"])),aeE,(aek G hr U (L (Y 0) (L (Y 1) M)))⟩)) M)))) aer)
   (aej (aem (aeK (L3.IF (bB hr _ (by left))) (Y 0) (aet (L ael (L (Y 1) M))))))),?_⟩
 show ak fun Rk kR=>?_
 match e,ev,is,bt,ok,dp,q with
 | .num m,ev,is,bt,ok,dp,q=>
   have EV:cK H v (.num m):=ev
   obtain⟨p,rfl,hp⟩:=ev
   show⟨_,U,?_⟩
   show aH hp U ?_
   show⟨tp,_,U,.inr (cP _),U,U,_,U,aA (by left) (kR _ _ ?_)⟩
   show⟨_,U,_,U,agm,fun t0 m8=>?_⟩
   have s0:=af m8 (.tup [.str "box",.str x])
   have g0:(upd H t0 (.tup [.str "box",.str x])) t0=some (.tup [.str "box",.str x]):=ae
   generalize upd H t0 (.tup [.str "box",.str x])=H0 at s0 g0 ⊢
   show qt (EV.keep (ag.tk s0)) g0 (q _ s0)
 | .box t y,ev,is,bt,ok,dp,q=>
   have EV:cK H v (.box t y):=ev
   obtain⟨p,rfl,hp⟩:=ev
   have et:t="box":=bt t y rfl
   subst et
   show⟨_,U,?_⟩
   show aH hp U ?_
   show⟨tp,_,U,.inr (cP _),U,U,_,U,aA (by left) (kR _ _ ?_)⟩
   show⟨_,U,_,U,agm,fun t0 m8=>?_⟩
   have s0:=af m8 (.tup [.str "box",.str x])
   have g0:(upd H t0 (.tup [.str "box",.str x])) t0=some (.tup [.str "box",.str x]):=ae
   generalize upd H t0 (.tup [.str "box",.str x])=H0 at s0 g0 ⊢
   show qt (EV.keep (ag.tk s0)) g0 (q _ s0)
 | .two .plus a b,ev,is,bt,ok,dp,q=>
   obtain⟨u,w,⟨p,rfl,hp⟩,ea,eb⟩:=ev
   have dp:max a.dep b.dep+1<n+1:=dp
   show⟨_,U,?_⟩
   show aH hp U ?_
   show⟨tp,_,U,.inr (cP _),U,U,_,U,aM (by left) ?_⟩
   show⟨_,U,_,U,p,_,U,aN.of hp,(fun z=>aB z.1 (show ¬ HT.bz 3 0 (some 1)=0 by left)),fun l hl=>⟨l,U,⟨_,aN.of ae⟩,fun D hD=>?_⟩⟩
   have s1:=af hl (.tup [u,w])
   have g1:(upd H l (.tup [u,w])) l=some (.tup [u,w]):=ae
   have Cv:(upd H l (.tup [u,w])) D=none:=hD
   show mQ (xs:=[u,w]) (fun(i:Nat) (Hx:Hp)=>ag (upd H l (.tup [u,w])) Hx/\Hx D=some (.lst (([a.nm x,b.nm x].take i).map V.bl))) ⟨af Cv _,ae⟩ (fun i Hx r zz=>aN.of (zz.1 _ _ g1)) (fun i x0 Hx hx zz=>?_) (fun Hx zz=>?_)
   . obtain⟨sx,gD⟩:=zz
     have JS:=aa s1 sx
     show ai ?_
     show bI (A:=fun H5=>cp _ D _ H5 _) ?_
     match i,hx with
     | 0,hx=>
       cases hx
       show⟨_,U,_,U,u,a,x,U,ea.keep (ag.tk JS),is.1,(fun t y z=>by subst z;show ok.1),ok.1,by lia,fun H5 s5=>?_⟩
       show⟨_,s5 _ _ gD,(by change 0<sizeLine;decide),aD (Pv:=fun(i:Nat) (Hx:Hp)=>ag (upd H l (.tup [u,w])) Hx/\Hx D=some (.lst (([a.nm x,b.nm x].take i).map V.bl))) (by repeat' constructor) (by change 0<2;decide) ⟨av (aa sx s5) Cv,ae⟩⟩
     | 1,hx=>
       cases hx
       show⟨_,U,_,U,w,b,x,U,eb.keep (ag.tk JS),is.2,(fun t y z=>by subst z;show ok.2),ok.2,by lia,fun H5 s5=>?_⟩
       show⟨_,s5 _ _ gD,(by change 1<sizeLine;decide),aD (Pv:=fun(i:Nat) (Hx:Hp)=>ag (upd H l (.tup [u,w])) Hx/\Hx D=some (.lst (([a.nm x,b.nm x].take i).map V.bl))) (by repeat' constructor) (by change 1<2;decide) ⟨av (aa sx s5) Cv,ae⟩⟩
   obtain⟨sx,gD⟩:=zz
   show⟨D,[a.nm x,b.nm x],U,aE.of gD,?_⟩
   have q9:Q (.bl (a.nm x || b.nm x)) _:=q _ (aa s1 sx)
   have e9:[a.nm x,b.nm x].any id=(a.nm x || b.nm x):=by change(a.nm x || (b.nm x || false))=_;rw[Bool.or_false]
   rw[← e9]at q9
   show q9
 | .two .less a b,ev,is,bt,ok,dp,q=>
   obtain⟨u,w,⟨p,rfl,hp⟩,ea,eb⟩:=ev
   have dp:max a.dep b.dep+1<n+1:=dp
   show⟨_,U,?_⟩
   show aH hp U ?_
   show⟨tp,_,U,.inr (cP _),U,U,_,U,aM (by left) ?_⟩
   show⟨_,U,_,U,p,_,U,aN.of hp,(fun z=>aB z.1 (show ¬ HT.bz 3 0 (some 1)=0 by left)),fun l hl=>⟨l,U,⟨_,aN.of ae⟩,fun D hD=>?_⟩⟩
   have s1:=af hl (.tup [u,w])
   have g1:(upd H l (.tup [u,w])) l=some (.tup [u,w]):=ae
   have Cv:(upd H l (.tup [u,w])) D=none:=hD
   show mQ (xs:=[u,w]) (fun(i:Nat) (Hx:Hp)=>ag (upd H l (.tup [u,w])) Hx/\Hx D=some (.lst (([a.nm x,b.nm x].take i).map V.bl))) ⟨af Cv _,ae⟩ (fun i Hx r zz=>aN.of (zz.1 _ _ g1)) (fun i x0 Hx hx zz=>?_) (fun Hx zz=>?_)
   . obtain⟨sx,gD⟩:=zz
     have JS:=aa s1 sx
     show ai ?_
     show bI (A:=fun H5=>cp _ D _ H5 _) ?_
     match i,hx with
     | 0,hx=>
       cases hx
       show⟨_,U,_,U,u,a,x,U,ea.keep (ag.tk JS),is.1,(fun t y z=>by subst z;show ok.1),ok.1,by lia,fun H5 s5=>?_⟩
       show⟨_,s5 _ _ gD,(by change 0<sizeLine;decide),aD (Pv:=fun(i:Nat) (Hx:Hp)=>ag (upd H l (.tup [u,w])) Hx/\Hx D=some (.lst (([a.nm x,b.nm x].take i).map V.bl))) (by repeat' constructor) (by change 0<2;decide) ⟨av (aa sx s5) Cv,ae⟩⟩
     | 1,hx=>
       cases hx
       show⟨_,U,_,U,w,b,x,U,eb.keep (ag.tk JS),is.2,(fun t y z=>by subst z;show ok.2),ok.2,by lia,fun H5 s5=>?_⟩
       show⟨_,s5 _ _ gD,(by change 1<sizeLine;decide),aD (Pv:=fun(i:Nat) (Hx:Hp)=>ag (upd H l (.tup [u,w])) Hx/\Hx D=some (.lst (([a.nm x,b.nm x].take i).map V.bl))) (by repeat' constructor) (by change 1<2;decide) ⟨av (aa sx s5) Cv,ae⟩⟩
   obtain⟨sx,gD⟩:=zz
   show⟨D,[a.nm x,b.nm x],U,aE.of gD,?_⟩
   have q9:Q (.bl (a.nm x || b.nm x)) _:=q _ (aa s1 sx)
   have e9:[a.nm x,b.nm x].any id=(a.nm x || b.nm x):=by change(a.nm x || (b.nm x || false))=_;rw[Bool.or_false]
   rw[← e9]at q9
   show q9
def yr (s:Src K mg "names_box" zR)(PT:∃t,mg "PARTED"=some (.ref t)/\∀H:Hp,aN K H t ((["plus","less","same","under","not","both"]:List Str).map V.str))(m_any:mg "any"=none):∀n:Nat,aO P w K mg base "names_box" ["sum_told","name"] (n+1) (f7 n):=by
 obtain⟨f,fd,F,m⟩:=s
 have b:Binds K fd ["sum_told","name"] []:=oK F fun z z z z z z z z=>rfl
 intro n
 have all:aK P w K mg base bJ (n+1) f fd ["sum_told","name"] (f7 n):=by
   induction n with
   | zero=>show vK
   | succ n ih=>show DF F PT m_any ⟨f,fd,ih,F.kp,b,m⟩
 show⟨f,fd,all,F.kp,b,m⟩
theorem fO (x:Int):∀named:List Int,oC (.int x) (named.map V.int)=decide (x∈named)
 | []=>by simp[oC]
 | y::r=>by
   have ih:=fO x r
   unfold oC at ih ⊢
   rw[aav,abg,ih]
   by_cases e:x=y
   . subst e
     simp[fA]
   . have e2:¬ y=x:=fun z=>e z.symm
     simp[fA,e,e2]
def gE (xs:List Int):(xs.map V.int).all cC=true:=by
 rw[aby]
 intro v hv
 obtain⟨x,_,rfl⟩:=bF hv
 rfl
def dJ {H:Hp}{vn:List V}{nds:List Np}(pn:Paired (aG H) vn nds){p:Nat}(hp:p<nds.length):∃x e,vn[p]?=some x/\nds[p]?=some e/\aG H x e:=by
 have vl:=Paired.length pn
 obtain⟨x,hx⟩ : ∃x,vn[p]?=some x:=⟨vn[p]'(by lia),Z3 (by lia)⟩
 obtain⟨e,he,h⟩:=Paired.get pn hx
 show⟨x,e,hx,he,h⟩
def lY (nds:List Np)(nd:Nat):Nat->List Np
 | 0=>[]
 | i+1=>lY nds nd i++if i=nd then[]else nds[i]?.toList
theorem lZ (nds:List Np)(nd:Nat):∀i,(lY nds nd i).length<=i
 | 0=>Z0 _
 | i+1=>by
   change(lY nds nd i++_).length<=_
   have:=lZ nds nd i
   rw[Z1]
   split
   . change _+0<=_
     lia
   . cases nds[i]? with
     | none=>change _+0<=_;lia
     | some _=>change _+1<=_;lia
def ck (nds:List Np)(nd:Nat)(b:Int):Bool:=(lY nds nd nds.length).any fun e=>decide (b∈e.aU)
inductive eg (nds:List Np) (nd:Nat):Prop
 | mk {x y:Str} {e e2:E} {b b2:Int} (h1:nds[nd]?=some (.put x e b)) (h2:nds[b.toNat]?=some (.put y e2 b2)) (b0:b≠0) (bn:b≠(nd:Int)) (co:ck nds nd b=false) (xy:x≠y) (n1:e.nm y=false) (n2:e2.nm x=false):eg nds nd
def lS (e:Np):(∃x s n,e=.put x s n)\/e.hd≠"put":=by
 cases e with
 | put x s n=>show .inl ⟨x,s,n,rfl⟩
 | say _ _=>show .inr (show("say":Str)≠"put" by left)
 | test _ _ _=>show .inr (show("test":Str)≠"put" by left)
 | pick _ _=>show .inr (show("pick":Str)≠"put" by left)
 | fin=>show .inr (show("end":Str)≠"put" by left)
structure Ag (e:E):Prop where
 is:e.dZ
 bt:∀t y,e=.box t y->t="box"
 ok:e.okIn (fun t _=>t="box")
 dp:e.dep<40
def rH (C:Addr):Sp:=fun vs H Q X=>∃(l:Addr) (vn:List V) (nds:List Np) (nd:Nat),vs=[.ref l,.int (nd:Int)]/\H l=some (.lst vn)/\Paired (aG H) vn nds/\(∀e∈nds,∀b∈e.aU,0<=b/\b<(nds.length:Int))/\(∀e∈nds,∀x s n,e=.put x s n->Ag s)/\nd<nds.length/\nds.length<=900/\(eg nds nd->∀H',ag H H'->Q .br H')/\(¬ eg nds nd->∀H',ag H H'->X (.ref C) none H')
def nU:az ["nodes","node","behind","others","name","told","next_name","next_told"] ["nodes","node"] (aj wV):=cU
def DK {C T:Addr}{f:Addr}{fd:aaa}(F:bQ K "refuse_exchange" "refuse_exchange" wV f fd)(m_enumerate:mg "enumerate"=none)(m_any:mg "any"=none)(cN:Xc K mg "NoChange" C (.ref T::vE))(LE0:aO P w K mg base "leads_of" ["node"] 1 eT)(NB:aO P w K mg base "names_box" ["sum_told","name"] 41 (f7 40)):aK P w K mg base (mE P w base) 42 f fd ["nodes","node"] (rH C):=by
 show F.Sx nU (fun vs H Q E h=>?_) (fun cdv A outer s H vs Q E hr h=>?_)
 . obtain⟨l,vn,nds,nd,rfl,_⟩:=h
   rfl
 . obtain⟨l,vn,nds,nd,rfl,hl,pn,ld,so,je,n9,q,qx⟩:=h
   have LE:=LE0.mono (show 1<=41 by lia)
   have xV:=Paired.length pn
   obtain⟨x1,e1,hx1,mX,yG⟩:=dJ pn je
   show cM ⟨_,(aeg (aeq (aeF (aeI (aeo aeX (aeh aei (aeh aey (Y 0) (Y 1)) aef) ael) (aeP (aeo aeX (aeh aei (aeh aey (Y 0) (aeh aei (aeh aey (Y 0) (Y 1)) aef)) aef) ael)))) (aej (L3.pO md cN U U (L ael M))) aer)
     (aeg (aen 2 nU.nd (aeh aei (aeh aey (Y 0) (Y 1)) aef))
     (aeg (ae3 (i:=3) [none,none,some 1] ["number","old","node"] (iw wV) U (L3.iE U m_enumerate (L (Y 0) M)) (fun v v v v v=>⟨(aeC 2 (aev (aep 0 (d9 ["number","old","node"])) (aev (aep 1 (d9 ["number","old","node"])) aeB))),(L3.if1 (aeo aeX (Y 0) (Y 2))),(Y 1)⟩) nU.nd)
     (aeg (aeq (aeF (aeI (aeo aeW (Y 2) (aet (L aef (L (Y 1) M))) U) (aeP (aeG (aex L3.Ak U m_any (by right) (L (aeO [none,some 2] ["old","behind"] (iw wV) U (aeA (Y 3)) (fun v v v v v=>⟨(aep 0 (d9 ["old","behind"])),aeE,(aeK aeW (Y 1) (aek LE hr U (L (Y 0) M)) U)⟩)) M)))))) (aej (L3.pO md cN U U (L ael M))) aer)
     (aeg (L3.Jp 4 5 nU.nd (L (aeh aei (aeh aey (Y 0) (Y 1)) aef) (L (aeh aei (aeh aey (Y 0) (Y 1)) aef) M)))
     (aeg (L3.Jp 6 7 nU.nd (L (aeh aei (aeh aey (Y 0) (Y 2)) aef) (L (aeh aei (aeh aey (Y 0) (Y 2)) aef) M)))
     (aej (aeq (aeF (aeI (aeo aew (Y 4) (Y 6)) (aeI (aeG (aek NB hr U (L (Y 5) (L (Y 6) M)))) (aeP (aeG (aek NB hr U (L (Y 7) (L (Y 4) M)))))))) (aej (L3.pO md cN U U (L ael M))) aer)))))))),?_⟩
   show ak fun Rk kR=>?_
   rcases lS e1 with⟨x,m1,b,rfl⟩|nput
   rotate_left
   . obtain⟨px,as,rfl,fF⟩:=yG.head
     have no:¬ eg nds nd:=fun z=>by
       cases z with
       | mk h1=>rw[mX]at h1;cases h1;show nput rfl
     show⟨_,U,_,U,?_⟩
     show dF hl (aZ hx1) ?_
     show aH fF ot ?_
     show⟨U,_,U,?_⟩
     show aM (by rw[eX (fun z=>nput (by injection z))];rfl) (aM (by left) ?_)
     show⟨_,U,qx no _ (same_refl _)⟩
   obtain⟨u1,⟨p1,rfl,e7⟩,GO⟩:=yG
   have bl:=ld _ (ZZ mX) b (List.mem_singleton.mpr rfl)
   have bn:b.toNat<nds.length:=by lia
   have eb:((b.toNat:Nat):Int)=b:=aal bl.1
   obtain⟨x2,e2,hx2,oy,yH⟩:=dJ pn bn
   have jQ:gY vn b=some x2:=by
     have:=aZ hx2
     rw[eb]at this
     show this
   show⟨_,U,_,U,?_⟩
   show dF hl (aZ hx1) ?_
   show aH e7 U ?_
   show⟨U,_,U,aA (by left) ?_⟩
   rcases lS e2 with⟨y,m2,b2,rfl⟩|nput
   rotate_left
   . obtain⟨px,as,rfl,fF⟩:=yH.head
     have no:¬ eg nds nd:=fun z=>by
       cases z with
       | mk h1 h2=>rw[mX]at h1;cases h1;rw[oy]at h2;cases h2;show nput rfl
     show⟨_,U,_,U,_,U,?_⟩
     show dF hl (aZ hx1) ?_
     show aH e7 U ?_
     show dF hl jQ ?_
     show aH fF ot ?_
     show⟨U,_,U,?_⟩
     show aM (by rw[eX (fun z=>nput (by injection z))];rfl) ?_
     show⟨_,U,qx no _ (same_refl _)⟩
   obtain⟨u2,⟨p2,rfl,eY⟩,Lb⟩:=yH
   show⟨_,U,_,U,_,U,?_⟩
   show dF hl (aZ hx1) ?_
   show aH e7 U ?_
   show dF hl jQ ?_
   show aH eY U ?_
   show⟨U,_,U,aA (by left) (kR _ _ ?_)⟩
   have key:eg nds nd↔(b≠0/\b≠(nd:Int)/\ck nds nd b=false/\x≠y/\m1.nm y=false/\m2.nm x=false):=by
     show⟨fun z=>?_,fun z=>.mk mX oy z.1 z.2.1 z.2.2.1 z.2.2.2.1 z.2.2.2.2.1 z.2.2.2.2.2⟩
     cases z with
     | mk h1 h2 b0 bn co xy n1 n2=>
       rw[mX]at h1
       cases h1
       rw[oy]at h2
       cases h2
       show⟨b0,bn,co,xy,n1,n2⟩
   show ak fun Rk kR=>?_
   show⟨_,U,_,U,?_⟩
   show dF hl (aZ hx1) ?_
   show aH e7 U ?_
   show ai (kR _ _ ?_)
   show aq [some (.ref l),some (.int (nd:Int)),some (.int b),none,none,none,none,none] U ?_
   show ak fun Rk kR=>?_
   show⟨_,U,l,U,⟨_,aE.of hl⟩,fun O hO=>?_⟩
   show kc (xs:=vn) (fun(i:Nat) (Hx:Hp)=>ag H Hx/\∃us,Hx O=some (.lst us)/\Paired (aG Hx) us (lY nds nd i)) ⟨af hO _,[],ae,.nil⟩ (fun i Hx v zz=>aE.of (zz.1 _ _ hl)) (fun i x0 pp Hx hx zz lH=>?_) (fun H2 zz=>?_)
   . obtain⟨sx,us,gO,pu⟩:=zz
     have cX:=(aT hx)
     obtain⟨ei,CG,IA⟩:=Paired.get pn hx
     have ul:=Paired.length pu
     have ol:=lZ nds nd i
     have sp:=af lH (.tup [.int (i:Int),x0])
     have gp:(upd Hx pp (.tup [.int (i:Int),x0])) pp=some (.tup [.int (i:Int),x0]):=ae
     generalize upd Hx pp (.tup [.int (i:Int),x0])=Hy at sp gp ⊢
     show kT gp ?_
     show⟨_,U,_,U,U,_,U,?_⟩
     by_cases c:i=nd
     . show aA (show(!decide (V.int (i:Int)=V.int (nd:Int)))=false by rw[c,dE rfl];rfl) (aD (Pv:=fun(i:Nat) (Hx:Hp)=>ag H Hx/\∃us,Hx O=some (.lst us)/\Paired (aG Hx) us (lY nds nd i)) (by repeat' constructor) cX ⟨aa sx sp,us,sp _ _ gO,?_⟩)
       have e9:lY nds nd (i+1)=lY nds nd i:=by change _++(if i=nd then _ else _)=_;rw[ba c,aaV]
       rw[e9]
       show Paired.aV pu fun v v z=>aG.keep (ag.tk sp) z
     . show aM (show(!decide (V.int (i:Int)=V.int (nd:Int)))=true by rw[eX (fun z=>c (by injection z with z;lia))];rfl) ?_
       have GY:=sp _ _ gO
       have TU:TK Hy (upd Hy O (.lst (us++[x0]))):=TW.TK.lst GY
       show⟨_,U,_,GY,aC (by lia),aD (Pv:=fun(i:Nat) (Hx:Hp)=>ag H Hx/\∃us,Hx O=some (.lst us)/\Paired (aG Hx) us (lY nds nd i)) (by repeat' constructor) cX ⟨av (aa sx sp) hO,_,ae,?_⟩⟩
       have e9:lY nds nd (i+1)=lY nds nd i++[ei]:=by change _++(if i=nd then _ else _)=_;rw[aQ c,CG];rfl
       rw[e9]
       show Paired.snoc (Paired.aV pu fun v v z=>aG.keep ((ag.tk sp).trans TU) z) (aG.keep ((ag.tk (aa sx sp)).trans TU) IA)
   obtain⟨s2,us,gO,pu⟩:=zz
   rw[xV]at pu
   have ul:=Paired.length pu
   have ol:=lZ nds nd nds.length
   show ai (kR _ _ ?_)
   show aq [some (.ref l),some (.int (nd:Int)),some (.int b),some (.ref O),none,none,none,none] U ?_
   show ak fun Rk kR=>?_
   have go3:b≠0->b≠(nd:Int)->ck nds nd b=false->∀H3,ag H H3->Rk [some (.ref l),some (.int (nd:Int)),some (.int b),some (.ref O),none,none,none,none] H3:=fun b0 xK co H3 s3=>by
     show kR _ _ ?_
     show ak fun Rk kR=>?_
     have Lp:=s3 _ _ hl
     show⟨_,U,_,U,?_⟩
     show dF Lp (aZ hx1) ?_
     show aH (s3 _ _ e7) U ?_
     show⟨_,U,_,U,?_⟩
     show dF Lp (aZ hx1) ?_
     show aH (s3 _ _ e7) U ?_
     show⟨_,_,U,?_⟩
     show kR _ _ ?_
     show aq [some (.ref l),some (.int (nd:Int)),some (.int b),some (.ref O),some (.str x),some u1,none,none] U ?_
     show ak fun Rk kR=>?_
     show⟨_,U,_,U,?_⟩
     show dF Lp jQ ?_
     show aH (s3 _ _ eY) U ?_
     show⟨_,U,_,U,?_⟩
     show dF Lp jQ ?_
     show aH (s3 _ _ eY) U ?_
     show⟨_,_,U,?_⟩
     show kR _ _ ?_
     show aq [some (.ref l),some (.int (nd:Int)),some (.int b),some (.ref O),some (.str x),some u1,some (.str y),some u2] U ?_
     have LX:=so _ (ZZ mX) x m1 b rfl
     have LY:=so _ (ZZ oy) y m2 b2 rfl
     show⟨_,U,_,U,U,_,U,?_⟩
     by_cases xy:x=y
     . show aM (dE (congrArg V.str xy)) (aM (by left) ?_)
       show⟨_,U,qx (fun z=>(key.mp z).2.2.2.1 xy) _ s3⟩
     show aA (eX (fun z=>xy (by injection z))) ?_
     show⟨_,U,_,U,u1,m1,y,U,GO.keep (ag.tk s3),LX.is,LX.bt,LX.ok,LX.dp,fun H4 s4=>⟨_,U,?_⟩⟩
     have Pe:=aa s3 s4
     cases n1:m1.nm y with
     | true=>
       show cJ (aM (by left) ?_)
       show⟨_,U,qx (fun z=>by have:=(key.mp z).2.2.2.2.1;rw[n1]at this;cases this) _ Pe⟩
     | false=>
       show d6 ?_
       show⟨_,U,_,U,u2,m2,x,U,Lb.keep (ag.tk Pe),LY.is,LY.bt,LY.ok,LY.dp,fun H5 s5=>⟨_,U,?_⟩⟩
       have s35:=aa Pe s5
       cases n2:m2.nm x with
       | true=>
         show cJ ?_
         show⟨_,U,qx (fun z=>by have:=(key.mp z).2.2.2.2.2;rw[n2]at this;cases this) _ s35⟩
       | false=>
         show d6 ?_
         show q (key.mpr ⟨b0,xK,co,xy,n1,n2⟩) _ s35
   show⟨_,U,_,U,agm,fun t0 m8=>?_⟩
   have a1:=af m8 (.tup [.int 0,.int (nd:Int)])
   have g1:(upd H2 t0 (.tup [.int 0,.int (nd:Int)])) t0=some (.tup ([0,(nd:Int)].map V.int)):=ae
   generalize upd H2 t0 (.tup [.int 0,.int (nd:Int)])=H3 at a1 g1 ⊢
   show⟨t0,_,U,.inr (aN.of g1),U,gE _,_,U,?_⟩
   change if oC (.int b) ([0,(nd:Int)].map V.int)=true then _ else _
   rw[fO]
   by_cases bb:b∈[0,(nd:Int)]
   . show aM (dE bb) (aM (by left) ?_)
     show⟨_,U,qx (fun z=>?_) _ (aa s2 a1)⟩
     have k:=key.mp z
     rcases bT bb with w|w
     . show k.1 w
     . show k.2.1 (bU w)
   show aA (eX bb) ?_
   have b0:b≠0:=fun z=>bb (aY (.inl z))
   have xK:b≠(nd:Int):=fun z=>bb (aY (.inr (List.mem_singleton.mpr z)))
   have Q6:=a1 _ _ gO
   show⟨_,U,O,U,⟨_,aE.of Q6⟩,fun D hD=>?_⟩
   show bo (xs:=us) (fun(i:Nat) (Hx:Hp)=>ag H3 Hx/\Hx D=some (.lst ((((lY nds nd nds.length).take i).map fun e=>decide (b∈e.aU)).map V.bl))) ⟨af hD _,by rw[aaT];show ae⟩ (fun i Hx v zz=>aE.of (zz.1 _ _ Q6)) (fun i x0 Hx hx zz=>?_) (fun H4 zz=>?_)
   . obtain⟨sx,gD⟩:=zz
     have cX:=(aT hx)
     obtain⟨ei,CG,IA⟩:=Paired.get pu hx
     show ai ?_
     show bI (A:=fun H5=>cp _ D _ H5 _) ?_
     show⟨_,U,_,U,x0,ei,U,aG.keep (ag.tk (aa a1 sx)) IA,fun L8 H5 s5 gL=>?_⟩
     show⟨L8,_,U,.inl (aE.of gL),U,gE _,?_⟩
     rw[fO]
     show⟨_,s5 _ _ gD,aC (by rw[ZW,ZW,aac];lia),aD (Pv:=fun(i:Nat) (Hx:Hp)=>ag H3 Hx/\Hx D=some (.lst ((((lY nds nd nds.length).take i).map fun e=>decide (b∈e.aU)).map V.bl))) (by repeat' constructor) cX ⟨av (aa sx s5) hD,?_⟩⟩
     rw[ae,aad,CG,Z9,Z9]
     rfl
   obtain⟨s4,gD⟩:=zz
   rw[ul,aag]at gD
   show⟨D,(lY nds nd nds.length).map fun e=>decide (b∈e.aU),U,aE.of gD,_,U,?_⟩
   have ec:((lY nds nd nds.length).map fun e=>decide (b∈e.aU)).any id=ck nds nd b:=by
     unfold ck
     rw[List.any_map]
     rfl
   rw[ec]
   have s24:=aa s2 (aa a1 s4)
   cases co:ck nds nd b with
   | true=>
     show cJ ?_
     show⟨_,U,qx (fun z=>by have:=(key.mp z).2.2.1;rw[co]at this;cases this) _ s24⟩
   | false=>show d6 (go3 b0 xK co _ s24)
def yu {C T:Addr}(s:Src K mg "refuse_exchange" wV)(m_enumerate:mg "enumerate"=none)(m_any:mg "any"=none)(cN:Xc K mg "NoChange" C (.ref T::vE))(LE0:aO P w K mg base "leads_of" ["node"] 1 eT)(NB:aO P w K mg base "names_box" ["sum_told","name"] 41 (f7 40)):rS P w K mg base "refuse_exchange" ["nodes","node"] 42 (rH C):=
 let⟨f,fd,F,m⟩:=s
 ⟨f,fd,DK F m_enumerate m_any cN LE0 NB,F.kp,oK F fun z z z z z z z z=>rfl,m⟩
abbrev wQ:Stmt:=top 22
structure ql (ns:List Str)(x:Str)(e:E):Prop where
 xin:x∈ns
 is:e.dZ
 ok:e.okIn (jN ns)
 dp:e.dep<30
def ql.sum {ns:List Str}{x:Str}{e:E}(h:ql ns x e):Ag e:=by
 have o2:e.okIn (fun t w=>t="box"):=cR (fun t x z=>z.1) h.ok
 show⟨h.is,fun t y z=>?_,o2,by have:=h.dp;lia⟩
 subst z
 show o2
structure oq (H:Hp)(B I N:Addr)(vb vn:List V)(bs:ao)(ins:List Str)(nds:List Np):Prop where
 hB:H B=some (.lst vb)
 hI:H I=some (.lst (ins.map V.str))
 hN:H N=some (.lst vn)
 pb:Paired (cB H) vb bs
 pn:Paired (aG H) vn nds
structure Told (K:ZV)(tO:Addr)(H H':Hp)(p' P' B' I' N':Addr)(vb vn':List V)(bs:ao)(ins:List Str)(nds':List Np)(sm:Int->V)(se:Int->E)(ps:List V)(lv:List (Int×Int×Str)):Prop where
 s:ag H H'
 hp:H' p'=some (.tup [.ref B',.ref I',.ref N'])
 pt:oq H' B' I' N' vb vn' bs ins nds'
 hP:H' P'=some (.lst ps)
 ek:∀f∈lv,EK K H' (sm f.1) (se f.1)
 pp:Paired (fun v f=>fk tO H' v (sm f.1) f) ps lv
 nB:H B'=none
 nI:H I'=none
 nN:H N'=none
 nP:H P'=none
 BI:B'≠I'
 BN:B'≠N'
 IN:I'≠N'
 PB:P'≠B'
 PI:P'≠I'
 PN:P'≠N'
structure iV (bs:ao)(b:Int)(x y:Str)(e e2:E)(j:Int)(ce:E):Prop where
 c:ce.lJ
 ok:ce.okIn (fun t y=>(t="mine"\/t="yours")/\y∈bs.map (·.1))
 dp:ce.dep<20
 iff:∀W:Str->Str->Int,(∀t:Str,(t="mine"\/t="yours")->∀b∈bs,0<=W t b.1/\W t b.1<b.2)->(ce.holds W=true↔if j=b then((∀z∈bs.map (·.1),z≠x->z≠y->W "mine" z=W "yours" z)/\W "mine" x=e.worth (fun _ y=>W "yours" y)%kP bs x/\W "yours" y=e2.worth (fun _ y=>W "mine" y)%kP bs y)else ∀z∈bs.map (·.1),W "mine" z=W "yours" z)
def yc {bs:ao}{b:Int}{x y:Str}{e e2:E}{j:Int}{ce:E}(hj:j≠b)(jt:Jt .both ce (.yes::(bs.map (·.1)).map fg))(dp:ce.dep<=4):iV bs b x y e e2 j ce:=by
 have al:∀{P:E->Prop},P .yes->(∀z∈bs.map (·.1),P (fg z))->∀u∈(E.yes::(bs.map (·.1)).map fg),P u:=fun a k u hu=>by
   rcases bT hu with rfl|hu
   . show a
   . obtain⟨z,hz,rfl⟩:=bF hu
     show k z hz
 show⟨jt.lJ (al aae fun z w=>⟨aae,aae⟩),jt.okIn (al aae fun z hz=>⟨⟨.inl rfl,hz⟩,.inr rfl,hz⟩),by lia,fun W w=>?_⟩
 rw[aQ hj,jt.holds]
 show⟨fun h z hz=>iN (h (fg z) (aY (.inr (fS ⟨z,hz,U⟩)))),fun h=>al rfl fun z hz=>dE (h z hz)⟩
def Cc {bs:ao}{b:Int}{x y:Str}{e e2 ce:E}(h:Gh bs x y e e2 ce):iV bs b x y e e2 b ce:=⟨h.c,h.ok,by have:=h.dp;lia,fun W hW=>by rw[ba rfl];show h.iff W hW⟩
def lF (nds:List Np)(nd:Nat)(x y:Str)(e e2:E)(b b2:Int):List Np:=(nds.set nd (.put y e2 b)).set b.toNat (.put x e b2)
def jM (nds:List Np):List (Int×Int×Str):=nds.mapIdx fun j a=>((j:Int),(j:Int),a.hd)
theorem Paired.pQ {α β:Type}{R:α->β->Prop}{x:α}{y:β}(h:R x y):∀{xs:List α} {ys:List β} (j:Nat),Paired R xs ys->Paired R (xs.set j x) (ys.set j y)
 | _,_,_,.nil=>.nil
 | _,_,0,.cons _ t=>.cons h t
 | _,_,j+1,.cons a t=>.cons a (Paired.pQ h j t)
def xg (K:ZV)(tO Ca:Addr):Sp:=fun vs H Q X=>∃(p B I N:Addr) (vb vn:List V) (bs:ao) (ins:List Str) (nds:List Np) (nd:Nat),vs=[.ref p,.int (nd:Int)]/\nd<nds.length/\H p=some (.tup [.ref B,.ref I,.ref N])/\oq H B I N vb vn bs ins nds/\bs.length<=4/\(∀b∈bs,1<=b.2/\b.2<=16)/\(bs.map (·.1)).Nodup/\("":Str)∉bs.map (·.1)/\nds.length<=900/\(∀e∈nds,∀b∈e.aU,0<=b/\b<(nds.length:Int))/\(∀e∈nds,∀x s n,e=.put x s n->ql (bs.map (·.1)) x s) /\
 (¬ eg nds nd->∀H',ag H H'->X (.ref Ca) none H')/\(∀(x y:Str) (e e2:E) (b b2:Int),eg nds nd->nds[nd]?=some (.put x e b)->nds[b.toNat]?=some (.put y e2 b2)->∀(q p' P' B' I' N':Addr) (vn':List V) (sm:Int->V) (se:Int->E) (ps:List V) (H':Hp),H' q=some (.tup [.ref p',.ref P'])->Told K tO H H' p' P' B' I' N' vb vn' bs ins (lF nds nd x y e e2 b b2) sm se ps (jM nds)->(∀f∈jM nds,iV bs b x y e e2 f.1 (se f.1))->Q (.ref q) H')
def ij:az ["program","node","nodes","same","behind","first","second","told","paper"] ["program","node"] (aj wQ):=cU
def DA {Ca tO:Addr}{f:Addr}{fd:aaa}(F:bQ K "exchanged_puts" "exchanged_puts" wQ f fd)(m_len:mg "len"=none)(m_list:mg "list"=none)(m_range:mg "range"=none)(m_enumerate:mg "enumerate"=none)(RN0:aO P w K mg base "refuse_no_nodes" ["program","numbers"] 1 rG)(RE:rS P w K mg base "refuse_exchange" ["nodes","node"] 42 (rH Ca))(AS0:aO P w K mg base "all_same" ["program"] 10 (pT K))(LN0:aO P w K mg base "led_anew" ["node","leads"] 1 mq)(LE0:aO P w K mg base "leads_of" ["node"] 1 eT)(BP0:aO P w K mg base "between_puts" ["program","first","second"] 35 (xf K))(LV0:aO P w K mg base "level_entry" ["program","place","new_place","condition"] 1 (mv tO))(WN0:aO P w K mg base "with_nodes" ["program","nodes"] 1 iQ):aK P w K mg base (mE P w base) 43 f fd ["program","node"] (xg K tO Ca):=by
 show F.Sx ij (fun vs H Q E h=>?_) (fun cdv A outer s H vs Q E hr h=>?_)
 . obtain⟨p,B,I,N,vb,vn,bs,ins,nds,nd,rfl,_⟩:=h
   rfl
 . obtain⟨p,B,I,N,vb,vn,bs,ins,nds,nd,rfl,uz,hp,pt,b4,sz,xK,bne,n9,ld,po,qc,qo⟩:=h
   obtain⟨hB,hI,hN,pb,pn⟩:=pt
   have RN:=RN0.mono (show 1<=42 by lia)
   have AS:=AS0.mono (show 10<=42 by lia)
   have LN:=LN0.mono (show 1<=42 by lia)
   have LE:=LE0.mono (show 1<=42 by lia)
   have BP:=BP0.mono (show 35<=42 by lia)
   have LV:=LV0.mono (show 1<=42 by lia)
   have WN:=WN0.mono (show 1<=42 by lia)
   have xV:=Paired.length pn
   show cM ⟨_,(aeg (aeQ (aek RN hr U (L (Y 0) (L (aeu (L (Y 1) M)) M))))
     (aeg (aeQ (L3.Jk Js RE hr U (L (aeh aei (Y 0) aef) (L (Y 1) M))))
     (aeg (aeM (aet (L (aeH ae6 U m_list (by right) (L (aeh aei (Y 0) aef) M)) (L (aek AS hr U (L (Y 0) M)) M))) (aeC 2 (aev (aep 2 ij.nd) (aev (aep 3 ij.nd) aeB))))
     (aeg (aen 4 ij.nd (aeh aei (aeh aey (Y 2) (Y 1)) aef))
     (aeg (aeM (aet (L (aeh aey (Y 2) (Y 1)) (L (aeh aey (Y 2) (Y 4)) M))) (aeC 2 (aev (aep 5 ij.nd) (aev (aep 6 ij.nd) aeB))))
     (aeg (aeM (aek LN hr U (L (Y 6) (L (aeu (L (Y 4) M)) M))) (L3.ki (Y 2) (Y 1)))
     (aeg (aeM (aek LN hr U (L (Y 5) (L (aek LE hr U (L (Y 6) M)) M))) (L3.ki (Y 2) (Y 4)))
     (aeg (ae3 (i:=7) [none,some 3,some 4,some 0,some 5,some 6] ["place","same","behind","program","first","second"] (iw wQ) U (ae5 U m_range (L (aex aeD U m_len aah (L (Y 2) M)) M)) (fun u u u u u=>⟨(aep 0 (d9 ["place","same","behind","program","first","second"])),aeE,(L3.Ib (aeo aew (Y 0) (Y 2)) (aek BP hr U (L (Y 3) (L (Y 4) (L (Y 5) M)))) (Y 1))⟩) ij.nd)
     (aeg (ae3 (i:=8) [none,none,some 0] ["place","condition","program"] (iw wQ) U (L3.iE U m_enumerate (L (Y 7) M)) (fun u u u u u=>⟨(aeC 2 (aev (aep 0 (d9 ["place","condition","program"])) (aev (aep 1 (d9 ["place","condition","program"])) aeB))),aeE,(aek LV hr U (L (Y 2) (L (Y 0) (L (Y 0) (L (Y 1) M)))))⟩) ij.nd)
     (aej (aem (aet (L (aek WN hr U (L (Y 0) (L (Y 2) M))) (L (Y 8) M)))))))))))))),?_⟩
   show ak fun Rk kR=>?_
   show⟨_,U,_,U,agl,fun l0 oA=>?_⟩
   have s1:=af oA (.lst [.int (nd:Int)])
   have g1:(upd H l0 (.lst [.int (nd:Int)])) l0=some (.lst [.int (nd:Int)]):=ae
   generalize upd H l0 (.lst [.int (nd:Int)])=H1 at s1 g1 ⊢
   show⟨p,l0,B,I,N,vn,(nd:Int),U,s1 _ _ hp,s1 _ _ hN,g1,by lia,by lia,?_⟩
   show kR _ _ ?_
   show ak fun Rk kR=>?_
   show⟨_,U,?_⟩
   show aH (s1 _ _ hp) U ?_
   show⟨_,U,N,vn,nds,nd,U,s1 _ _ hN,Paired.aV pn fun u u z=>aG.keep (ag.tk s1) z,ld,fun e he x s n z=>(po e he x s n z).sum,uz,n9,fun ex H2 s2=>?_,fun no H2 s2=>qc no _ (aa s1 s2)⟩
   have qo:=fun x y e e2 b b2=>qo x y e e2 b b2 ex
   show kR _ _ ?_
   cases ex with
   | @mk x y e e2 b b2 h1 h2 b0 bn co xy n1 n2=>
   have s02:=aa s1 s2
   have LO:=po _ (ZZ h1) x e b rfl
   have LP:=po _ (ZZ h2) y e2 b2 rfl
   have bl:=ld _ (ZZ h1) b (List.mem_singleton.mpr rfl)
   have UD:b.toNat<nds.length:=by lia
   have MD:((b.toNat:Nat):Int)=b:=aal bl.1
   obtain⟨v1,YW,hv1,mX,yG⟩:=dJ pn uz
   cases h1.symm.trans mX
   obtain⟨v2,yf,WH,oy,yH⟩:=dJ pn UD
   cases h2.symm.trans oy
   have jQ:gY vn b=some v2:=by
     have:=aZ WH
     rw[MD]at this
     show this
   show ak fun Rk kR=>?_
   show⟨_,U,?_⟩
   show aH (s02 _ _ hp) U ?_
   show⟨N,_,U,.inl (aE.of (s02 _ _ hN)),fun M8 hM=>?_⟩
   have s3:=af hM (.lst vn)
   have g3:(upd H2 M8 (.lst vn)) M8=some (.lst vn):=ae
   generalize upd H2 M8 (.lst vn)=H3 at s3 g3 ⊢
   have s03:=aa s02 s3
   show⟨_,U,p,B,I,N,vb,bs,U,s03 _ _ hp,s03 _ _ hB,Paired.aV pb fun u u z=>Tp.keep (ag.tk s03) z,b4,fun sv Tt H4 s4 QP WZ UR=>?_⟩
   show⟨agm,fun t0 m8=>?_⟩
   have s5:=af m8 (.tup [.ref M8,sv])
   have g5:(upd H4 t0 (.tup [.ref M8,sv])) t0=some (.tup [.ref M8,sv]):=ae
   generalize upd H4 t0 (.tup [.ref M8,sv])=H5 at s5 g5 ⊢
   show kT g5 ?_
   show kR _ _ ?_
   show aq [some (.ref p),some (.int (nd:Int)),some (.ref M8),some sv,none,none,none,none,none] U ?_
   show ak fun Rk kR=>?_
   have s35:=aa s4 s5
   have Pd:=aa s03 s35
   have Lf:=s35 _ _ g3
   have OQ:=aG.keep (ag.tk Pd) yG
   have OS:=aG.keep (ag.tk Pd) yH
   have nM:H M8=none:=ah s02 hM
   obtain⟨u1,⟨p1,rfl,e7⟩,GO⟩:=id OQ
   show⟨_,U,_,U,?_⟩
   show dF Lf (aZ hv1) ?_
   show aH e7 U ?_
   show ai (kR _ _ ?_)
   show aq [some (.ref p),some (.int (nd:Int)),some (.ref M8),some sv,some (.int b),none,none,none,none] U ?_
   show ak fun Rk kR=>?_
   show⟨_,U,_,U,?_⟩
   show dF Lf (aZ hv1) ?_
   show⟨_,U,_,U,?_⟩
   show dF Lf jQ ?_
   show⟨agm,fun t1 oB=>?_⟩
   have s6:=af oB (.tup [.ref p1,v2])
   have g6:(upd H5 t1 (.tup [.ref p1,v2])) t1=some (.tup [.ref p1,v2]):=ae
   generalize upd H5 t1 (.tup [.ref p1,v2])=H6 at s6 g6 ⊢
   show kT g6 ?_
   show kR _ _ ?_
   show aq [some (.ref p),some (.int (nd:Int)),some (.ref M8),some sv,some (.int b),some (.ref p1),some v2,none,none] U ?_
   show ak fun Rk kR=>?_
   have X1:=aa Pd s6
   have Vs:=s6 _ _ Lf
   show⟨_,U,_,U,agl,fun l1 ko=>?_⟩
   have s7:=af ko (.lst [.int b])
   have g7:(upd H6 l1 (.lst [.int b])) l1=some (.lst ([b].map V.int)):=ae
   generalize upd H6 l1 (.lst [.int b])=YC at s7 g7 ⊢
   show⟨v2,l1,_,[b],U,aG.keep (ag.tk (aa s6 s7)) OS,g7,U,fun w1 Gj s8 XA=>?_⟩
   have Pf:=aa s7 s8
   have GX:=Pf _ _ Vs
   show⟨_,U,_,U,M8,_,_,nd,U,U,GX,?_,?_⟩
   . change sX vn.length (nd:Int)=some nd
     unfold sX
     rw[ba (by lia),ba (by lia),aaq]
   have t1:ag H (upd Gj M8 (.lst (vn.set nd w1))):=av (aa X1 Pf) nM
   have Nl:(upd Gj M8 (.lst (vn.set nd w1))) M8=some (.lst (vn.set nd w1)):=ae
   have Fi:TK Gj (upd Gj M8 (.lst (vn.set nd w1))):=TW.TK.lst GX
   generalize upd Gj M8 (.lst (vn.set nd w1))=H7 at t1 Nl Fi ⊢
   show kR _ _ ?_
   show ak fun Rk kR=>?_
   have OR:=aG.keep (ag.tk t1) yG
   have OT:=aG.keep (ag.tk t1) yH
   show⟨_,U,_,U,v2,_,U,OT,fun l2 YD s9 xN=>?_⟩
   show⟨.ref p1,l2,_,[b2],U,aG.keep (ag.tk s9) OR,xN,U,fun w2 Fs zQ XB=>?_⟩
   have s910:=aa s9 zQ
   show⟨_,U,_,U,M8,_,_,b.toNat,U,U,s910 _ _ Nl,?_,?_⟩
   . change sX (vn.set nd w1).length b=some b.toNat
     unfold sX
     rw[ba bl.1,ba (by rw[aaD];lia)]
   have t2:ag H (upd Fs M8 (.lst ((vn.set nd w1).set b.toNat w2))):=av (aa t1 s910) nM
   have Hl:(upd Fs M8 (.lst ((vn.set nd w1).set b.toNat w2))) M8=some (.lst ((vn.set nd w1).set b.toNat w2)):=ae
   have xw:TK Fs (upd Fs M8 (.lst ((vn.set nd w1).set b.toNat w2))):=TW.TK.lst (s910 _ _ Nl)
   have JE:Paired (aG (upd Fs M8 (.lst ((vn.set nd w1).set b.toNat w2)))) ((vn.set nd w1).set b.toNat w2) (lF nds nd x y e e2 b b2):=Paired.pQ (aG.keep xw XB) _ (Paired.pQ (aG.keep (Fi.trans ((ag.tk s910).trans xw)) XA) _ (Paired.aV pn fun u u z=>aG.keep (ag.tk t2) z))
   have hlen:((vn.set nd w1).set b.toNat w2).length=vn.length:=by rw[aaD,aaD]
   generalize(vn.set nd w1).set b.toNat w2=xD at t2 Hl hlen JE xw ⊢
   generalize upd Fs M8 (.lst xD)=H8 at t2 Hl JE xw ⊢
   show kR _ _ ?_
   show ak fun Rk kR=>?_
   have bt:∀Hx,ag H8 Hx->gW Hx (.ref p1) (bs.map (·.1)) x e b/\gW Hx v2 (bs.map (·.1)) y e2 b2:=fun Hx sx=>⟨⟨aG.keep (ag.tk (aa t2 sx)) yG,LO.xin,LO.is,LO.ok,LO.dp⟩,⟨aG.keep (ag.tk (aa t2 sx)) yH,LP.xin,LP.is,LP.ok,LP.dp⟩⟩
   show⟨_,U,M8,_,U,.inl (aE.of Hl),(xD.length:Int),U,by lia,by lia,fun D hD=>?_⟩
   rw[aaq]
   show cW (lo:=0) (n:=xD.length) (fun(i:Nat) (Hx:Hp)=>ag H8 Hx/\∃ws ces,Hx D=some (.lst ws)/\Paired (EK K Hx) ws ces/\ws.length=i/\∀(j:Nat) (ce:TW.E),ces[j]?=some ce->iV bs b x y e e2 (j:Int) ce) ⟨af hD _,[],[],ae,.nil,U,(fun j ce z=>nomatch z)⟩ (fun i Hx hi zz=>?_) (fun H9 zz=>?_)
   . obtain⟨sx,ws,ces,gD,F1,wl,Mw⟩:=zz
     have cl:=Paired.length F1
     have Aa:=aa t2 sx
     rw[acH]
     show ai ?_
     show bI (A:=fun H5=>cp _ D _ H5 _) ?_
     show⟨_,U,_,U,U,_,U,?_⟩
     have fin:∀(v':V) (ce:TW.E) (Hy:Hp),ag Hx Hy->EK K Hy v' ce->iV bs b x y e e2 (i:Int) ce->∀(j:Nat) (ce':TW.E),(ces++[ce])[j]?=some ce'->iV bs b x y e e2 (j:Int) ce':=fun v' ce Hy sy ek cd j ce' hj=>by
       by_cases c:j<ces.length
       . rw[adJ c]at hj
         show Mw j ce' hj
       . have jl:=(aT hj)
         rw[Z1]at jl
         have jl:j<ces.length+1:=jl
         have ej:j=i:=by lia
         have ec:j-ces.length=0:=by lia
         rw[adz (by lia),ec]at hj
         cases hj
         rw[ej]
         show cd
     show bE (fun ci=>?_) (fun ci=>?_)
     . have ci:(i:Int)=b:=oV ci
       obtain⟨Jl,Jm⟩:=bt Hx sx
       show⟨_,U,_,U,_,U,p,B,I,N,vb,bs,.ref p1,v2,x,y,e,e2,b,b2,U,Aa _ _ hp,Aa _ _ hB,Paired.aV pb fun u u z=>Tp.keep (ag.tk Aa) z,b4,sz,xK,bne,Jl,Jm,fun v' ce Hy sy ek bc=>?_⟩
       have iq:TK Hy (upd Hy D (.lst (ws++[v']))):=TW.TK.lst (sy _ _ gD)
       show⟨_,sy _ _ gD,aC (by lia),aD (Pv:=fun(i:Nat) (Hx:Hp)=>ag H8 Hx/\∃ws ces,Hx D=some (.lst ws)/\Paired (EK K Hx) ws ces/\ws.length=i/\∀(j:Nat) (ce:TW.E),ces[j]?=some ce->iV bs b x y e e2 (j:Int) ce) (by repeat' constructor) hi ⟨av (aa sx sy) hD,_,ces++[ce],ae,Paired.snoc (Paired.aV F1 fun u u z=>EK.keep ((ag.tk sy).trans iq) z) (EK.keep iq ek),by rw[Z1,wl];rfl,fin v' ce Hy sy ek (ci▸Cc bc)⟩⟩
     . have ci:(i:Int)≠b:=C6 ci
       have iq:TK Hx (upd Hx D (.lst (ws++[sv]))):=TW.TK.lst gD
       have Ku:TK H4 Hx:=(ag.tk (aa s5 (aa s6 Pf))).trans (Fi.trans ((ag.tk s910).trans (xw.trans (ag.tk sx))))
       show⟨_,U,_,gD,aC (by lia),aD (Pv:=fun(i:Nat) (Hx:Hp)=>ag H8 Hx/\∃ws ces,Hx D=some (.lst ws)/\Paired (EK K Hx) ws ces/\ws.length=i/\∀(j:Nat) (ce:TW.E),ces[j]?=some ce->iV bs b x y e e2 (j:Int) ce) (by repeat' constructor) hi ⟨av sx hD,_,ces++[Tt],ae,Paired.snoc (Paired.aV F1 fun u u z=>EK.keep iq z) (EK.keep iq (EK.keep Ku QP)),by rw[Z1,wl];rfl,fin sv Tt Hx (same_refl _) (EK.keep Ku QP) (yc ci WZ UR)⟩⟩
   obtain⟨s9',ws,ces,gD,F1,wl,Mw⟩:=zz
   obtain⟨sm,QT⟩ : ∃sm:Int->V,sm=fun p=>(ws[p.toNat]?).getD (.int 0):=⟨_,rfl⟩
   obtain⟨se,Vc⟩ : ∃se:Int->TW.E,se=fun p=>(ces[p.toNat]?).getD .yes:=⟨_,rfl⟩
   have cl:=Paired.length F1
   have lvl:(jM nds).length=nds.length:=by unfold jM;rw[List.length_mapIdx]
   have Sg:∀f∈jM nds,∃(j:Nat) (w:V) (ce:TW.E),f.1=(j:Int)/\j<nds.length/\ws[j]?=some w/\ces[j]?=some ce/\sm f.1=w/\se f.1=ce:=fun f hf=>by
     obtain⟨j,hj,rfl⟩:=List.mem_mapIdx.mp hf
     obtain⟨w,hw⟩ : ∃w,ws[j]?=some w:=⟨ws[j]'(by lia),Z3 (by lia)⟩
     obtain⟨ce,va⟩ : ∃ce,ces[j]?=some ce:=⟨ces[j]'(by lia),Z3 (by lia)⟩
     show⟨j,w,ce,U,hj,hw,va,?_,?_⟩
     . rw[QT]
       change(ws[((j:Nat):Int).toNat]?).getD _=w
       rw[aaq,hw]
       rfl
     . rw[Vc]
       change(ces[((j:Nat):Int).toNat]?).getD _=ce
       rw[aaq,va]
       rfl
   have UN:∀f∈jM nds,iV bs b x y e e2 f.1 (se f.1):=fun f hf=>by
     obtain⟨j,w,ce,h1,_,_,h4,_,h6⟩:=Sg f hf
     rw[h6,h1]
     show Mw j ce h4
   have ekf:∀f∈jM nds,EK K H9 (sm f.1) (se f.1):=fun f hf=>by
     obtain⟨j,w,ce,h1,_,h3,h4,h5,h6⟩:=Sg f hf
     rw[h5,h6]
     obtain⟨ce',va,ek⟩:=Paired.get F1 h3
     rw[h4]at va
     cases va
     show ek
   show ai (kR _ _ ?_)
   show aq [some (.ref p),some (.int (nd:Int)),some (.ref M8),some sv,some (.int b),some (.ref p1),some v2,some (.ref D),none] U ?_
   show ak fun Rk kR=>?_
   have t9:=aa t2 s9'
   show⟨_,U,D,U,⟨_,aE.of gD⟩,fun D2 Au=>?_⟩
   show kc (xs:=ws) (fun(i:Nat) (Hx:Hp)=>ag H9 Hx/\∃ws2,Hx D2=some (.lst ws2)/\Paired (fun v f=>fk tO Hx v (sm f.1) f) ws2 ((jM nds).take i)) ⟨af Au _,[],ae,by rw[aaT];show .nil⟩ (fun i Hx u zz=>aE.of (zz.1 _ _ gD)) (fun i x0 pp Hx hx zz lH=>?_) (fun HA zz=>?_)
   . obtain⟨sx,ws2,mD,tW⟩:=zz
     have KC:=Paired.length tW
     rw[aac]at KC
     have cX:=(aT hx)
     have sp:=af lH (.tup [.int (i:Int),x0])
     have gp:(upd Hx pp (.tup [.int (i:Int),x0])) pp=some (.tup [.int (i:Int),x0]):=ae
     generalize upd Hx pp (.tup [.int (i:Int),x0])=Hy at sp gp ⊢
     have PF:=aa t9 (aa sx sp)
     obtain⟨xi,ei,vk,CG,IA⟩:=dJ pn (show i<nds.length by lia)
     show kT gp ?_
     show bI (A:=fun H5=>cp _ D2 _ H5 _) ?_
     show⟨_,U,_,U,_,U,_,U,p,B,I,N,vn,ei,i,(i:Int),x0,xi,U,PF _ _ hp,PF _ _ hN,vk,aG.keep (ag.tk PF) IA,fun w Hz Pz Xe=>?_⟩
     have Aq:=Pz _ _ (sp _ _ mD)
     have iq:TK Hz (upd Hz D2 (.lst (ws2++[w]))):=TW.TK.lst Aq
     show⟨_,Aq,aC (by lia),aD (Pv:=fun(i:Nat) (Hx:Hp)=>ag H9 Hx/\∃ws2,Hx D2=some (.lst ws2)/\Paired (fun v f=>fk tO Hx v (sm f.1) f) ws2 ((jM nds).take i)) (by repeat' constructor) cX ⟨av (aa sx (aa sp Pz)) Au,_,ae,?_⟩⟩
     have Wf:(jM nds)[i]?=some ((i:Int),(i:Int),ei.hd):=by
       unfold jM
       rw[List.getElem?_mapIdx,CG]
       rfl
     rw[aad,Wf]
     show Paired.snoc (Paired.aV tW fun u u z=>fk.keep ((ag.tk (aa sp Pz)).trans iq) z) (fk.keep iq ?_)
     have Vd:sm (i:Int)=x0:=by
       rw[QT]
       change(ws[((i:Nat):Int).toNat]?).getD _=x0
       rw[aaq,hx]
       rfl
     change fk tO Hz w (sm (i:Int)) _
     rw[Vd]
     show Xe
   obtain⟨sA,ws2,mD,tW⟩:=zz
   have wn:ws.length=nds.length:=by lia
   rw[wn,← lvl,aag]at tW
   show ai (kR _ _ ?_)
   show aq [some (.ref p),some (.int (nd:Int)),some (.ref M8),some sv,some (.int b),some (.ref p1),some v2,some (.ref D),some (.ref D2)] U ?_
   have tA:=aa t9 sA
   show⟨_,U,_,U,p,M8,B,I,N,vb,_,U,tA _ _ hp,tA _ _ hB,tA _ _ hI,fun p' B' I' HB sB FI Vn Vq Iy Iz Xk=>?_⟩
   show⟨_,U,agm,fun q0 Wt=>?_⟩
   have sq:=af Wt (.tup [.ref p',.ref D2])
   have F2:=aa sB sq
   have M0:=sA _ _ (s9' _ _ Hl)
   have TC:=aa tA F2
   have Ye:=ag.tk (aa s9' (aa sA F2))
   show qo x y e e2 b b2 h1 h2 q0 p' D2 B' I' M8 xD sm se ws2 _ ae ⟨TC,sq _ _ FI,⟨sq _ _ Vn,sq _ _ Vq,F2 _ _ M0,Paired.aV pb fun u u z=>Tp.keep (ag.tk TC) z,Paired.aV JE fun u u z=>aG.keep Ye z⟩,F2 _ _ mD,fun f hf=>EK.keep (ag.tk (aa sA F2)) (ekf f hf),Paired.aV tW fun u u z=>fk.keep (ag.tk F2) z,ah tA Iy,ah tA Iz,nM,ah t9 Au,Xk,?_,?_,?_,?_,?_⟩ UN
   . show fun z=>by rw[z,M0]at Iy;cases Iy
   . show fun z=>by rw[z,M0]at Iz;cases Iz
   . show fun z=>by rw[← z,mD]at Iy;cases Iy
   . show fun z=>by rw[← z,mD]at Iz;cases Iz
   . show fun z=>by rw[z,s9' _ _ Hl]at Au;cases Au
def yq {Ca tO:Addr}(s:Src K mg "exchanged_puts" wQ)(m_len:mg "len"=none)(m_list:mg "list"=none)(m_range:mg "range"=none)(m_enumerate:mg "enumerate"=none)(RN0:aO P w K mg base "refuse_no_nodes" ["program","numbers"] 1 rG)(RE:rS P w K mg base "refuse_exchange" ["nodes","node"] 42 (rH Ca))(AS0:aO P w K mg base "all_same" ["program"] 10 (pT K))(LN0:aO P w K mg base "led_anew" ["node","leads"] 1 mq)(LE0:aO P w K mg base "leads_of" ["node"] 1 eT)(BP0:aO P w K mg base "between_puts" ["program","first","second"] 35 (xf K))(LV0:aO P w K mg base "level_entry" ["program","place","new_place","condition"] 1 (mv tO))(WN0:aO P w K mg base "with_nodes" ["program","nodes"] 1 iQ):rS P w K mg base "exchanged_puts" ["program","node"] 43 (xg K tO Ca):=
 let⟨f,fd,F,m⟩:=s
 ⟨f,fd,DA F m_len m_list m_range m_enumerate RN0 RE AS0 LN0 LE0 BP0 LV0 WN0,F.kp,oK F fun z z z z z z z z=>rfl,m⟩
abbrev zT:Stmt:=top 49
def gJ {n:Nat}{k:Int}(h0:0<=k)(h1:k<(n:Int)):sX n k=some k.toNat:=by unfold sX;rw[ba h0,ba h1]
def Ao {l:List Str}{k:Nat}{x:Str}(nd:l.Nodup)(h:l[k]?=some x):x∉l.eraseIdx k/\(l.eraseIdx k).Nodup/\(∀y∈l.eraseIdx k,y∈l)/\(l.eraseIdx k).length+1=l.length:=by
 have hk:=(aT h)
 show⟨fun z=>?_,adU (List.eraseIdx_sublist l k) nd,fun y hy=>List.mem_of_mem_eraseIdx hy,by rw[List.length_eraseIdx,ba hk];lia⟩
 obtain⟨i,hi,e⟩:=List.mem_eraseIdx_iff_getElem?.mp z
 obtain⟨h1,e1⟩:=List.getElem?_eq_some_iff.mp e
 obtain⟨h2,e2⟩:=List.getElem?_eq_some_iff.mp h
 have pw:=List.pairwise_iff_getElem.mp nd
 rcases Nat.lt_trichotomy i k with w|w|w
 . show pw i k h1 h2 w (e1.trans e2.symm)
 . show hi w
 . show pw k i h2 h1 w (e2.trans e1.symm)
theorem oU {α β:Type}(f:α->β):∀(l:List α) (k:Nat),(l.map f).eraseIdx k=(l.eraseIdx k).map f
 | [],_=>rfl
 | _::_,0=>rfl
 | a::l,k+1=>congrArg (f a::·) (oU f l k)
def Ds {s n:Int}(h0:0<=s)(h1:s<2*n):s%n=s\/s%n=s-n:=by
 by_cases c:s<n
 . show .inl (ac7 h0 c)
 . show .inr ?_
   have e:s=(s-n)+n*1:=by lia
   rw[e,Int.add_mul_emod_self_left,ac7 (by lia) (by lia)]
   lia
def AQ {ns:List Str}{y:Str}(hy:y∉ns):∀{e:E},e.okIn (jN ns)->e.nm y=false:=fun{e} h=>by
 induction e with
 | num _=>rfl
 | box t x=>
   change(decide (t="box")&&decide (x=y))=false
   rw[eX (fun(z:x=y)=>hy (z▸h.2)),ace]
 | yes=>rfl
 | nt a ih=>rfl
 | two _ a b ia ib=>change(a.nm y || b.nm y)=false;rw[ia h.1,ib h.2];rfl
theorem ma {nds:List Np}{nd:Nat}{e:Np}:∀{i:Nat},e∈lY nds nd i->∃j,j≠nd/\nds[j]?=some e
 | 0,h=>nomatch h
 | i+1,h=>by
   rcases dk (show e∈lY nds nd i++_ from h)with z|z
   . show ma z
   . split at z
     . show nomatch z
     . rename_i c
       show⟨i,c,by simpa using z⟩
def fV (m bh nd:Nat):List Int:=((aax m).map fun i:Nat=>(i:Int)).set bh (nd:Int)
def nG {m bh nd j:Nat}(h:j<m):(fV m bh nd)[j]?=some (if j=bh then(nd:Int)else(j:Int)):=by
 unfold fV
 rw[ac4]
 split
 . rename_i c
   subst c
   rw[ba (by rw[ZW,abt];show h),ba rfl]
 . rename_i c
   rw[aap,List.getElem?_range h,aQ (fun z=>c z.symm)]
   rfl
def tD:∀(e:Np) (ls:List Int),ls.length=e.aU.length->(e.led ls).aU=ls
 | .put _ _ _,[_],_=>rfl
 | .say _ _,[_],_=>rfl
 | .pick _ _,[_],_=>rfl
 | .test _ _ _,[_,_],_=>rfl
 | .fin,[],_=>rfl
def Bk:Sp:=fun vs H Q z=>∃(r p B I N:Addr) (vb vn:List V) (bs:ao) (ins:List Str) (nds:List Np) (most longest:Int),vs=[.ref r,.ref p]/\bZ H r/\H p=some (.tup [.ref B,.ref I,.ref N])/\xI r H B I N vb vn bs ins nds/\oG most longest bs ins nds/\longest<=40 /\
 ((bs.length<2\/nds.length<2)->∀(L8:Addr) (H':Hp),Rl r H H'->H' L8=some (.lst [.ref p,.int 0])->Q (.ref L8) H') /\
 (2<=bs.length->2<=nds.length->∀(L8 p' F:Addr) (vn':List V) (nds':List Np) (nd:Nat) (H':Hp),Rl r H H'->H' L8=some (.lst [.ref p',.int (nd:Int)])->H' p'=some (.tup [.ref B,.ref I,.ref F])->xI r H' B I F vb vn' bs ins nds'->oG most longest bs ins nds'->nds'.length=nds.length->nd<nds.length->eg nds' nd->Q (.ref L8) H')
def dX:az ["pot","program","boxes","inputs","nodes","many","names","first","second","behind","node","own","found"] ["pot","program"] (aj zT):=cU
def yC:∀(a:Np) (ls:List Int),a.Ie->(a.led ls).Ie
 | .put _ _ _,_,h=>h|.say _ _,_,h=>h|.test _ _ _,_,h=>h|.pick _ _,_,h=>h|.fin,_,h=>h
def tE:∀(a:Np) (ls:List Int),(a.led ls).ir=a.ir
 | .put _ _ _,_=>rfl|.say _ _,_=>rfl|.test _ _ _,_=>rfl|.pick _ _,_=>rfl|.fin,_=>rfl
def Bh {n k:Nat}(h:k<n):ade (k:Int) n=some k:=(lK (gJ (by lia) (by lia:(k:Int)<(n:Int)))).1.trans (by rw[aaq])
def pI (bh nd:Nat)(l:Int):Int:=if l=(bh:Int)then(nd:Int)else l
def zb {bh nd:Nat}(h:nd≠bh)(l:Int):pI bh nd l≠(bh:Int):=by
 unfold pI
 split
 . intro z
   show h (by lia)
 . assumption
def Ep (bh nd:Nat)(e:Np):Np:=e.led (e.aU.map (pI bh nd))
def zt (nds:List Np)(bh nd:Nat)(x y:Str)(e1 e2:E)(b2:Int):List Np:=((nds.map (Ep bh nd)).set nd (.put x e1 (bh:Int))).set bh (.put y e2 b2)
def zu (nds:List Np)(bh nd:Nat)(x y:Str)(e1 e2:E)(b2:Int):(zt nds bh nd x y e1 e2 b2).length=nds.length:=by
 unfold zt
 rw[aaD,aaD,ZW]
def q5 {nds:List Np}{bh nd j:Nat}{x y:Str}{e1 e2:E}{b2:Int}{e:Np}(h:(zt nds bh nd x y e1 e2 b2)[j]?=some e):(j=bh/\e=.put y e2 b2)\/(j=nd/\e=.put x e1 (bh:Int))\/∃e0,nds[j]?=some e0/\e=Ep bh nd e0:=by
 unfold zt at h
 rw[ac4]at h
 split at h
 . rename_i c
   split at h
   . cases h
     show .inl ⟨c.symm,U⟩
   . cases h
 . rw[ac4]at h
   split at h
   . rename_i c
     split at h
     . cases h
       show .inr (.inl ⟨c.symm,U⟩)
     . cases h
   . rw[aap]at h
     obtain⟨e0,h0,rfl⟩:=Option.map_eq_some_iff.mp h
     show .inr (.inr ⟨e0,h0,U⟩)
def kJ (bh nd:Nat)(e:Np):(Ep bh nd e).aU=e.aU.map (pI bh nd):=tD e _ (ZW _)
def JD {nds:List Np}{bh nd:Nat}{x y:Str}{e1 e2:E}{b2:Int}(hb:bh<nds.length)(hn:nd<nds.length)(hb0:bh≠0)(hne:nd≠bh)(xy:x≠y)(n1:e1.nm y=false)(n2:e2.nm x=false)(hb2:b2≠(bh:Int)):eg (zt nds bh nd x y e1 e2 b2) nd:=by
 have lm:nd<(nds.map (Ep bh nd)).length:=by rw[ZW];show hn
 show .mk (x:=x) (y:=y) (e:=e1) (e2:=e2) (b:=(bh:Int)) (b2:=b2) ?_ ?_ (by lia) (by lia) ?_ xy n1 n2
 . unfold zt
   rw[abc hne.symm,aa4 lm]
 . unfold zt
   rw[aaq,aa4 (by rw[aaD,ZW];show hb)]
 . unfold ck
   rw[acj]
   intro e he
   obtain⟨j,hj,V6⟩:=ma he
   rw[decide_eq_true_iff]
   intro hm
   rcases q5 V6 with⟨_,rfl⟩|⟨z,_⟩|⟨e0,_,rfl⟩
   . show hb2 (bU hm).symm
   . show hj z
   . rw[kJ]at hm
     obtain⟨l,_,hl⟩:=bF hm
     show zb hne l hl
def vZ (m bh nd:Nat):((aax m).map fun i:Nat=>V.int (i:Int)).set bh (.int (nd:Int))=(fV m bh nd).map V.int:=by
 unfold fV
 rw[List.map_set,acD]
 rfl
def wm {nds:List Np}{ns:List Str}{bh nd:Nat}{x y:Str}{e1 e2:E}{b2:Int}(ok:∀e∈nds,gq ns (nds.length:Int) e)(hb:bh<nds.length)(hn:nd<nds.length)(hx:x∈ns)(hy:y∈ns)(i1:e1.dZ)(i2:e2.dZ)(o1:e1.okIn (jN ns))(o2:e2.okIn (jN ns))(d1:e1.dep<=3)(d2:e2.dep<=3)(h0:0<=b2)(h1:b2<(nds.length:Int)):∀e∈zt nds bh nd x y e1 e2 b2,gq ns (nds.length:Int) e:=fun e he=>by
 obtain⟨j,hj⟩:=List.mem_iff_getElem?.mp he
 rcases q5 hj with⟨_,rfl⟩|⟨_,rfl⟩|⟨e0,Aw,rfl⟩
 . show⟨i2,all1 ⟨h0,h1⟩,all2 ⟨⟨U,hy⟩,aan _⟩ ⟨o2,by lia⟩⟩
 . show⟨i1,all1 ⟨by lia,by lia⟩,all2 ⟨⟨U,hx⟩,aan _⟩ ⟨o1,by lia⟩⟩
 . have k:=ok e0 (ZZ Aw)
   show⟨yC e0 _ k.is,fun l hl=>?_,fun z hz=>?_⟩
   . rw[kJ]at hl
     obtain⟨l0,oA,rfl⟩:=bF hl
     have:=k.ld l0 oA
     unfold pI
     split
     . show⟨by lia,by lia⟩
     . show this
   . have:(Ep bh nd e0).ir=e0.ir:=tE e0 _
     rw[this]at hz
     show k.td z hz
def DH {f:Addr}{fd:aaa}(F:bQ K "_law_plant" "_law_plant" zT f fd)(m_len:mg "len"=none)(m_list:mg "list"=none)(m_range:mg "range"=none)(NX0:aO P w K mg base "_law_next" ["pot","many"] 1 b7)(SM:aO P w K mg base "_law_any_sum" ["pot","names","deep"] 6 (fh 4))(LD0:aO P w K mg base "_law_led" ["node","change"] 1 xh):aK P w K mg base bJ 7 f fd ["pot","program"] Bk:=by
 show F.df dX fun cdv A outer s H vs Q E hr h=>?_
 obtain⟨r,p,B,I,N,vb,vn,bs,ins,nds,most,longest,rfl,gH,hp,pd,ok,lg,q0,q2⟩:=h
 have NX:=NX0.mono (show 1<=6 by lia)
 have LD:=LD0.mono (show 1<=6 by lia)
 have xV:=Paired.length pd.pn
 have oE:=Paired.length pd.pb
 have l4:=ok.bx.l4
 have Iw:nds.length<=40:=by have:=ok.few;lia
 have oI:(900:Int)<2^110:=by left
 have big:1000<=sizeLine:=by left
 show cM ⟨_,(aeg (aeM (Y 1) (aeC 3 (aev (aep 2 dX.nd) (aev (aep 3 dX.nd) (aev (aep 4 dX.nd) aeB)))))
   (aeg (aen 5 dX.nd (aex aeD U m_len aah (L (Y 4) M)))
   (aeg (aeq (aeF (aeI (aeo aeU (aex aeD U m_len aah (L (Y 2) M)) aef) (aeP (aeo aeU (Y 5) aef)))) (aej (aem (aeu (L (Y 1) (L aef M))))) aer)
   (aeg (ae3 (i:=6) [none,none] ["name","size"] (iw zT) U (aeA (Y 2)) (fun u u u u u=>⟨(aeC 2 (aev (aep 0 (d9 ["name","size"])) (aev (aep 1 (d9 ["name","size"])) aeB))),aeE,(Y 0)⟩) dX.nd)
   (aeg (aen 7 dX.nd (L3.A2 (Y 6) (L (aek NX hr U (L (Y 0) (L (aex aeD U m_len aah (L (Y 6) M)) M))) M)))
   (aeg (aen 8 dX.nd (L3.A2 (Y 6) (L (aek NX hr U (L (Y 0) (L (aex aeD U m_len aah (L (Y 6) M)) M))) M)))
   (aeg (aen 9 dX.nd (aes aeN aef (aek NX hr U (L (Y 0) (L (aes aeT (Y 5) aef) M)))))
   (aeg (aen 10 dX.nd (aes ae0 (aes aeN (aes aeN (Y 9) aef) (aek NX hr U (L (Y 0) (L (aes aeT (Y 5) aef) M)))) (Y 5)))
   (aeg (aen 11 dX.nd (L3.yE U m_list U m_range (L (Y 5) M)))
   (aeg (aeM (Y 10) (L3.ki (Y 11) (Y 9)))
   (aeg (ae3 (i:=12) [none,some 11] ["told","own"] (iw zT) U (aeA (Y 4)) (fun u u u u u=>⟨(aep 0 (d9 ["told","own"])),aeE,(aek LD hr U (L (Y 0) (L (Y 1) M)))⟩) dX.nd)
   (aeg (aeM (aet (L ael (L (Y 7) (L (aek SM hr U (L (Y 0) (L (aes aeV (Y 6) (aeu (L (Y 7) M))) (L aef M)))) (L (Y 9) M))))) (L3.ki (Y 12) (Y 10)))
   (aeg (aeM (aet (L ael (L (Y 8) (L (aek SM hr U (L (Y 0) (L (aes aeV (Y 6) (aeu (L (Y 8) M))) (L aef M)))) (L (aeh aey (Y 11) (aek NX hr U (L (Y 0) (L (Y 5) M)))) M))))) (L3.ki (Y 12) (Y 9)))
   (aej (aem (aeu (L (aet (L (Y 2) (L (Y 3) (L (Y 12) M)))) (L (Y 10) M)))))))))))))))))),?_⟩
 show ak fun Rk kR=>?_
 show⟨_,U,?_⟩
 show TX hp ?_
 show kR _ _ ?_
 show aq [some (.ref r),some (.ref p),some (.ref B),some (.ref I),some (.ref N),none,none,none,none,none,none,none,none] U ?_
 show ak fun Rk kR=>?_
 show⟨_,U,N,_,U,.inl (aE.of pd.hN),?_⟩
 rw[xV]
 show ai (kR _ _ ?_)
 show aq [some (.ref r),some (.ref p),some (.ref B),some (.ref I),some (.ref N),some (.int (nds.length:Int)),none,none,none,none,none,none,none] U ?_
 show ak fun Rk kR=>?_
 show⟨_,U,B,_,U,.inl (aE.of pd.hB),_,_,U,U,_,U,?_⟩
 by_cases c1:bs.length<2
 . show aM (dE (show(vb.length:Int)<2 by lia)) (aM (by left) ?_)
   show⟨_,U,agm,fun L8 hL=>q0 (.inl c1) L8 _ (Rl.new gH hL) ae⟩
 show aA (eX (show ¬ (vb.length:Int)<2 by lia)) ?_
 show⟨_,U,_,_,U,U,_,U,?_⟩
 by_cases c2:nds.length<2
 . show aM (dE (show(nds.length:Int)<2 by lia)) ?_
   show⟨_,U,agm,fun L8 hL=>q0 (.inr c2) L8 _ (Rl.new gH hL) ae⟩
 show aA (eX (show ¬ (nds.length:Int)<2 by lia)) (kR _ _ ?_)
 have q2:=q2 (by lia) (by lia)
 show ak fun Rk kR=>?_
 show⟨_,U,B,U,⟨_,aE.of pd.hB⟩,fun nl uw=>?_⟩
 have vI:=gH.ne uw
 show bo (xs:=vb) (fun(i:Nat) (Hx:Hp)=>ag H Hx/\Hx nl=some (.lst (((bs.map (·.1)).take i).map V.str))) ⟨af uw _,by rw[aaT];show ae⟩ (fun i Hx u zz=>aE.of (zz.1 _ _ pd.hB)) (fun i x0 Hx hx zz=>?_) (fun H1 zz=>?_)
 . obtain⟨sx,gn⟩:=zz
   have cX:=(aT hx)
   obtain⟨b,gm,jV,rfl,m7⟩:=Paired.get pd.pb hx
   show kT (sx _ _ m7) ?_
   show bI (A:=fun H5=>cp _ nl _ H5 _) ?_
   show⟨_,U,_,gn,aC (by rw[ZW,aac];lia),aD (Pv:=fun(i:Nat) (Hx:Hp)=>ag H Hx/\Hx nl=some (.lst (((bs.map (·.1)).take i).map V.str))) (by repeat' constructor) cX ⟨av sx uw,?_⟩⟩
   have hb2:(bs.map (·.1))[i]?=some b.1:=by rw[aap,gm];rfl
   rw[ae,aad,hb2,Z9]
   rfl
 obtain⟨s1,gn⟩:=zz
 rw[oE,aaP (by rw[ZW];show Z0 _)]at gn
 obtain⟨pq,FF⟩ : ∃pq,pq=bs.map (·.1):=⟨_,rfl⟩
 have ZE:pq.length=bs.length:=by rw[FF,ZW]
 have Xv:pq.Nodup:=by rw[FF];show ok.bx.nd
 rw[← FF]at gn
 have l1:=Rl.of gH s1
 show ai (kR _ _ ?_)
 show aq [some (.ref r),some (.ref p),some (.ref B),some (.ref I),some (.ref N),some (.int (nds.length:Int)),some (.ref nl),none,none,none,none,none,none] U ?_
 show ak fun Rk kR=>?_
 show⟨_,U,.inl ⟨U,_,aE.of gn⟩,_,U,_,U,nl,_,U,.inl (aE.of gn),r,((pq.map V.str).length:Int),U,l1.rl,by rw[ZW];lia,by rw[ZW];lia,fun k H2 k0 k1 l2=>?_⟩
 rw[ZW]at k1
 obtain⟨kn,rfl⟩ : ∃kn:Nat,k=(kn:Int):=⟨k.toNat,(aal k0).symm⟩
 obtain⟨x,hx⟩ : ∃x,pq[kn]?=some x:=⟨pq[kn]'(by lia),Z3 (by lia)⟩
 obtain⟨Fm,Sn,in1,OH⟩:=Ao Xv hx
 have VH:=l2.k _ _ vI gn
 show⟨nl,_,_,kn,.str x,U,U,VH,by lia,by lia,?_,by rw[aap,hx];rfl,?_⟩
 . change ade (kn:Int) (pq.map V.str).length=some kn
   show Bh (by rw[ZW];lia)
 have Xa:=l1.trans l2
 have e1:(pq.map V.str).eraseIdx kn=(pq.eraseIdx kn).map V.str:=oU _ _ _
 rw[e1]
 have l3:Rl r H (upd H2 nl (.lst ((pq.eraseIdx kn).map V.str))):=Xa.put vI uw
 have Cr:(upd H2 nl (.lst ((pq.eraseIdx kn).map V.str))) nl=some (.lst ((pq.eraseIdx kn).map V.str)):=ae
 generalize upd H2 nl (.lst ((pq.eraseIdx kn).map V.str))=H3 at l3 Cr ⊢
 generalize pq.eraseIdx kn=uA at Fm Sn in1 OH Cr
 show ai (kR _ _ ?_)
 show aq [some (.ref r),some (.ref p),some (.ref B),some (.ref I),some (.ref N),some (.int (nds.length:Int)),some (.ref nl),some (.str x),none,none,none,none,none] U ?_
 show ak fun Rk kR=>?_
 show⟨_,U,.inl ⟨U,_,aE.of Cr⟩,_,U,_,U,nl,_,U,.inl (aE.of Cr),r,((uA.map V.str).length:Int),U,l3.rl,by rw[ZW];lia,by rw[ZW];lia,fun k2 H4 RY RZ R6=>?_⟩
 rw[ZW]at RZ
 obtain⟨kn2,rfl⟩ : ∃kn:Nat,k2=(kn:Int):=⟨k2.toNat,(aal RY).symm⟩
 obtain⟨y,hy⟩ : ∃y,uA[kn2]?=some y:=⟨uA[kn2]'(by lia),Z3 (by lia)⟩
 obtain⟨KH,LL,in2,OI⟩:=Ao Sn hy
 have KG:y∈uA:=ZZ hy
 have VI:=R6.k _ _ vI Cr
 show⟨nl,_,_,kn2,.str y,U,U,VI,by lia,by lia,?_,by rw[aap,hy];rfl,?_⟩
 . change ade (kn2:Int) (uA.map V.str).length=some kn2
   show Bh (by rw[ZW];lia)
 have e2:(uA.map V.str).eraseIdx kn2=(uA.eraseIdx kn2).map V.str:=oU _ _ _
 rw[e2]
 have l5:Rl r H (upd H4 nl (.lst ((uA.eraseIdx kn2).map V.str))):=(l3.trans R6).put vI uw
 have Nc:(upd H4 nl (.lst ((uA.eraseIdx kn2).map V.str))) nl=some (.lst ((uA.eraseIdx kn2).map V.str)):=ae
 generalize upd H4 nl (.lst ((uA.eraseIdx kn2).map V.str))=H5 at l5 Nc ⊢
 generalize uA.eraseIdx kn2=ns2 at KH LL in2 OI Nc
 have KD:x∉ns2:=fun z=>Fm (in2 x z)
 have xy:x≠y:=fun z=>Fm (z▸KG)
 show ai (kR _ _ ?_)
 show aq [some (.ref r),some (.ref p),some (.ref B),some (.ref I),some (.ref N),some (.int (nds.length:Int)),some (.ref nl),some (.str x),some (.str y),none,none,none,none] U ?_
 show ak fun Rk kR=>?_
 show⟨_,U,_,U,_,_,U,U,r,(nds.length:Int)-1,U,l5.rl,by lia,by lia,fun k3 H6 Zm Zn l6=>⟨_,_,U,U,?_⟩⟩
 obtain⟨bh,UW⟩ : ∃bh:Nat,1+k3=(bh:Int):=⟨(1+k3).toNat,(aal (by lia)).symm⟩
 have YQ:1<=bh:=by lia
 have QB:bh<nds.length:=by lia
 have R7:=l5.trans l6
 show ai (kR _ _ ?_)
 show aq [some (.ref r),some (.ref p),some (.ref B),some (.ref I),some (.ref N),some (.int (nds.length:Int)),some (.ref nl),some (.str x),some (.str y),some (.int (bh:Int)),none,none,none] (by rw[← UW];rfl) ?_
 show ak fun Rk kR=>?_
 have m0:(0:Int)<(nds.length:Int):=by lia
 show⟨_,U,_,_,U,U,_,U,_,U,_,_,U,U,r,(nds.length:Int)-1,U,R7.rl,by lia,by lia,fun k4 H7 Zo Zp l7=>⟨_,_,U,U,_,U,_,_,U,U,m0,?_⟩⟩
 obtain⟨nd,ML⟩ : ∃nd:Nat,((bh:Int)+1+k4)%(nds.length:Int)=(nd:Int):=⟨_,(aal (js m0)).symm⟩
 have uz:nd<nds.length:=by
   have:=jr (k:=(bh:Int)+1+k4) m0
   lia
 have OU:nd≠bh:=by
   rcases Ds (s:=(bh:Int)+1+k4) (n:=(nds.length:Int)) (by lia) (by lia)with z|z
   . lia
   . lia
 have OF:=R7.trans l7
 show ai (kR _ _ ?_)
 show aq [some (.ref r),some (.ref p),some (.ref B),some (.ref I),some (.ref N),some (.int (nds.length:Int)),some (.ref nl),some (.str x),some (.str y),some (.int (bh:Int)),some (.int (nd:Int)),none,none] (by rw[← ML];rfl) ?_
 show ak fun Rk kR=>?_
 show⟨_,U,nds.length,U,by lia,fun O hO=>?_⟩
 have Or:=OF.rl.ne hO
 have nO:=OF.no Or hO
 have l8:Rl r H (upd H7 O (.lst ((aax nds.length).map fun i:Nat=>V.int (i:Int)))):=OF.put Or nO
 have g8:(upd H7 O (.lst ((aax nds.length).map fun i:Nat=>V.int (i:Int)))) O=some (.lst ((aax nds.length).map fun i:Nat=>V.int (i:Int))):=ae
 have Nd:(upd H7 O (.lst ((aax nds.length).map fun i:Nat=>V.int (i:Int)))) nl=some (.lst (ns2.map V.str)):=by
   have z:=(l6.trans l7).k _ _ vI Nc
   rw[au (ar z hO)]
   show z
 generalize upd H7 O (.lst ((aax nds.length).map fun i:Nat=>V.int (i:Int)))=H8 at l8 g8 Nd ⊢
 show ai (kR _ _ ?_)
 show aq [some (.ref r),some (.ref p),some (.ref B),some (.ref I),some (.ref N),some (.int (nds.length:Int)),some (.ref nl),some (.str x),some (.str y),some (.int (bh:Int)),some (.int (nd:Int)),some (.ref O),none] U ?_
 show ak fun Rk kR=>?_
 show⟨_,U,_,U,_,U,O,_,_,bh,U,U,g8,by rw[ZW,abt];show(gJ (by lia) (by lia)).trans (by rw[aaq]),?_⟩
 rw[vZ]
 have Xt:nl≠O:=bX Nd g8 (fun z=>by
   injection z with z
   have z2:=congrArg List.head? z
   cases ns2 with
   | nil=>
     have z3:=congrArg adl z
     rw[ZW,ZW,abt]at z3
     have:0=nds.length:=z3
     lia
   | cons a l=>
     obtain⟨m,hm⟩ : ∃m,nds.length=m+1:=⟨nds.length-1,by lia⟩
     rw[hm,List.range_succ_eq_map]at z2
     show nomatch z2)
 have l9:Rl r H (upd H8 O (.lst ((fV nds.length bh nd).map V.int))):=l8.put Or nO
 have Lg:(upd H8 O (.lst ((fV nds.length bh nd).map V.int))) O=some (.lst ((fV nds.length bh nd).map V.int)):=ae
 have Nf:(upd H8 O (.lst ((fV nds.length bh nd).map V.int))) nl=some (.lst (ns2.map V.str)):=by rw[au Xt];show Nd
 generalize upd H8 O (.lst ((fV nds.length bh nd).map V.int))=H9 at l9 Lg Nf ⊢
 show kR _ _ ?_
 show ak fun Rk kR=>?_
 have O7:=pd.go gH l9
 show⟨_,U,N,U,⟨_,aE.of O7.hN⟩,fun F hF=>?_⟩
 have Fr:=l9.rl.ne hF
 have nF:=l9.no Fr hF
 show bo (xs:=vn) (fun(i:Nat) (Hx:Hp)=>ag H9 Hx/\∃us,Hx F=some (.lst us)/\us.length=i/\Paired (aG Hx) us ((nds.take i).map (Ep bh nd))) ⟨af hF _,[],ae,U,by rw[aaT];show .nil⟩ (fun i Hx u zz=>aE.of (zz.1 _ _ O7.hN)) (fun i x0 Hx vk zz=>?_) (fun Ha zz=>?_)
 . obtain⟨sx,us,gF,ul,pu⟩:=zz
   have cX:=(aT vk)
   obtain⟨e,he,na⟩:=Paired.get O7.pn vk
   have QS:=ok.nd e (ZZ he)
   show ai ?_
   show bI (A:=fun H5=>cp _ F _ H5 _) ?_
   show⟨_,U,_,U,x0,O,e,fV nds.length bh nd,e.aU.map (pI bh nd),U,aG.keep (ag.tk sx) na,QS.is,sx _ _ Lg,ZW _,fun j a b h1 h2=>?_,fun v' Hy sy nv=>?_⟩
   . have lb:=QS.ld a (ZZ h1)
     show⟨lb.1,?_⟩
     rw[aap,h1]at h2
     cases h2
     rw[nG (by lia)]
     unfold pI
     congr 1
     by_cases c:a=(bh:Int)
     . rw[ba (by lia),ba c]
     . rw[aQ (by lia),aQ c,aal lb.1]
   . have Q1:=sy _ _ gF
     have Kw:TK Hy (upd Hy F (.lst (us++[v']))):=TW.TK.lst Q1
     show⟨_,Q1,aC (by lia),aD (Pv:=fun(i:Nat) (Hx:Hp)=>ag H9 Hx/\∃us,Hx F=some (.lst us)/\us.length=i/\Paired (aG Hx) us ((nds.take i).map (Ep bh nd))) (by repeat' constructor) cX ⟨av (aa sx sy) hF,us++[v'],ae,by rw[Z1,ul];rfl,?_⟩⟩
     rw[aad,he,Z9]
     show Paired.snoc (Paired.aV pu fun u u z=>aG.keep ((ag.tk sy).trans Kw) z) (aG.keep Kw nv)
 obtain⟨sa,us,gF,ul,pu⟩:=zz
 rw[xV,aag]at pu
 show ai (kR _ _ ?_)
 show aq [some (.ref r),some (.ref p),some (.ref B),some (.ref I),some (.ref N),some (.int (nds.length:Int)),some (.ref nl),some (.str x),some (.str y),some (.int (bh:Int)),some (.int (nd:Int)),some (.ref O),some (.ref F)] U ?_
 show ak fun Rk kR=>?_
 have la:=l9.trans (Rl.of l9.rl sa)
 have Rg:=sa _ _ Nf
 have Vx:=sa _ _ Lg
 have FO:F≠O:=(ar Lg hF).symm
 have Qo:F≠nl:=(ar Nf hF).symm
 show⟨_,U,_,U,_,U,_,U,agl,fun m1 hm1=>?_⟩
 have KW:=af hm1 (.lst [.str x])
 have QG:(upd Ha m1 (.lst [.str x])) m1=some (.lst [.str x]):=ae
 generalize upd Ha m1 (.lst [.str x])=Qr at KW QG ⊢
 show⟨nl,m1,_,_,U,U,KW _ _ Rg,QG,(by rw[ZW];change _+1<=_;lia),fun w1 FT=>?_⟩
 have e1:ns2.map V.str++[V.str x]=(ns2++[x]).map V.str:=by rw[Z9];rfl
 rw[e1]
 have QD:=af FT (.lst ((ns2++[x]).map V.str))
 have QH:(upd Qr w1 (.lst ((ns2++[x]).map V.str))) w1=some (.lst ((ns2++[x]).map V.str)):=ae
 generalize upd Qr w1 (.lst ((ns2++[x]).map V.str))=YJ at QD QH ⊢
 have B9:=aa KW QD
 have Di:=Rl.of la.rl B9
 have Mc:w1≠r:=(la.rl.same KW).ne FT
 show⟨r,w1,3,ns2++[x],U,⟨Di.rl,Mc,QH,by rw[Z1];change _+1<=4;lia⟩,by left,by left,fun v1 e1 Qt W6 Ve i1 o1 GG=>?_⟩
 have OD:=Di.trans W6
 have d1:e1.dep<=3:=GG
 show⟨_,U,ago,fun jY Oh=>?_⟩
 have FX:=OD
 have t1:=af Oh (.tup [.str "put",.str x,v1,.int (bh:Int)])
 have Ct:(upd Qt jY (.tup [.str "put",.str x,v1,.int (bh:Int)])) jY=some (.tup [.str "put",.str x,v1,.int (bh:Int)]):=ae
 generalize upd Qt jY (.tup [.str "put",.str x,v1,.int (bh:Int)])=xY at t1 Ct ⊢
 have Ig:=FX.trans (Rl.of FX.rl t1)
 have QY:=Ig.k _ _ Fr gF
 show⟨_,U,_,U,F,_,_,nd,U,U,QY,(gJ (by lia) (by rw[ul,xV];lia)).trans (by rw[aaq]),?_⟩
 have xU:TK xY (upd xY F (.lst (us.set nd (.ref jY)))):=TW.TK.lst QY
 have GS:(upd xY F (.lst (us.set nd (.ref jY)))) F=some (.lst (us.set nd (.ref jY))):=ae
 have Io:Rl r H (upd xY F (.lst (us.set nd (.ref jY)))):=(la.trans Ig).put Fr nF
 have MP:cK xY v1 e1:=Ve.keep (ag.tk t1)
 have Sz:=Paired.pQ (R:=aG (upd xY F (.lst (us.set nd (.ref jY))))) (x:=.ref jY) (y:=.put x e1 (bh:Int)) ⟨v1,⟨jY,rfl,xU _ _ Ct⟩,MP.keep xU⟩ nd (Paired.aV pu fun u u z=>aG.keep ((Rl.tk la.rl Ig).trans xU) z)
 have Cs:(upd xY F (.lst (us.set nd (.ref jY)))) nl=some (.lst (ns2.map V.str)):=by rw[au Qo.symm];show Ig.k _ _ vI Rg
 have Cn:(upd xY F (.lst (us.set nd (.ref jY)))) O=some (.lst ((fV nds.length bh nd).map V.int)):=by rw[au FO.symm];show Ig.k _ _ Or Vx
 generalize upd xY F (.lst (us.set nd (.ref jY)))=Qv at GS Io Sz Cs Cn ⊢
 show kR _ _ ?_
 show ak fun Rk kR=>?_
 show⟨_,U,_,U,_,U,_,U,agl,fun m2 hm2=>?_⟩
 have KY:=af hm2 (.lst [.str y])
 have QI:(upd Qv m2 (.lst [.str y])) m2=some (.lst [.str y]):=ae
 generalize upd Qv m2 (.lst [.str y])=Qs at KY QI ⊢
 show⟨nl,m2,_,_,U,U,KY _ _ Cs,QI,(by rw[ZW];change _+1<=_;lia),fun w2 Ly=>?_⟩
 have e2:ns2.map V.str++[V.str y]=(ns2++[y]).map V.str:=by rw[Z9];rfl
 rw[e2]
 have QE:=af Ly (.lst ((ns2++[y]).map V.str))
 have QJ:(upd Qs w2 (.lst ((ns2++[y]).map V.str))) w2=some (.lst ((ns2++[y]).map V.str)):=ae
 generalize upd Qs w2 (.lst ((ns2++[y]).map V.str))=YK at QE QJ ⊢
 have B9:=aa KY QE
 have Dj:=Rl.of Io.rl B9
 have Yr:w2≠r:=(Io.rl.same KY).ne Ly
 show⟨r,w2,3,ns2++[y],U,⟨Dj.rl,Yr,QJ,by rw[Z1];change _+1<=4;lia⟩,by left,by left,fun v2 e2 YL LH GP i2 o2 Cg=>?_⟩
 have Dk:=Dj.trans LH
 have d2:e2.dep<=3:=Cg
 show⟨_,U,_,U,_,U,r,(nds.length:Int),U,Dk.rl,by lia,by lia,fun k5 Qu W3 Zq R8=>?_⟩
 have FX:=Dk.trans R8
 have Vw:=FX.k _ _ Or Cn
 obtain⟨b2,UU,Uz,UA,UC⟩ : ∃b2:Int,b2=(if k5.toNat=bh then(nd:Int)else(k5.toNat:Int))/\0<=b2/\b2<(nds.length:Int)/\b2≠(bh:Int):=by
   show⟨_,U,?_,?_,?_⟩
   . split<;>lia
   . split<;>lia
   . split<;>lia
 have NA:gY ((fV nds.length bh nd).map V.int) k5=some (.int b2):=by
   have:=aZ (xs:=(fV nds.length bh nd).map V.int) (j:=k5.toNat) (v:=.int b2) (by rw[aap,nG (show k5.toNat<nds.length by lia),UU];rfl)
   rw[aal W3]at this
   show this
 show dF Vw NA ?_
 show⟨ago,fun ug Oi=>?_⟩
 have t2:=af Oi (.tup [.str "put",.str y,v2,.int b2])
 have Rq:(upd Qu ug (.tup [.str "put",.str y,v2,.int b2])) ug=some (.tup [.str "put",.str y,v2,.int b2]):=ae
 generalize upd Qu ug (.tup [.str "put",.str y,v2,.int b2])=xZ at t2 Rq ⊢
 have Ih:=FX.trans (Rl.of FX.rl t2)
 have QZ:=Ih.k _ _ Fr GS
 show⟨_,U,_,U,F,_,_,bh,U,U,QZ,(gJ (by lia) (by rw[aaD,ul,xV];lia)).trans (by rw[aaq]),?_⟩
 have PH:TK xZ (upd xZ F (.lst ((us.set nd (.ref jY)).set bh (.ref ug)))):=TW.TK.lst QZ
 have GU:(upd xZ F (.lst ((us.set nd (.ref jY)).set bh (.ref ug)))) F=some (.lst ((us.set nd (.ref jY)).set bh (.ref ug))):=ae
 have OL:Rl r H (upd xZ F (.lst ((us.set nd (.ref jY)).set bh (.ref ug)))):=(Io.trans Ih).put Fr nF
 have MQ:cK xZ v2 e2:=GP.keep ((Rl.tk Dk.rl R8).trans (ag.tk t2))
 have SD:=Paired.pQ (R:=aG (upd xZ F (.lst ((us.set nd (.ref jY)).set bh (.ref ug))))) (x:=.ref ug) (y:=.put y e2 b2) ⟨v2,⟨ug,rfl,PH _ _ Rq⟩,MQ.keep PH⟩ bh (Paired.aV Sz fun u u z=>aG.keep ((Rl.tk Io.rl Ih).trans PH) z)
 have Ng:(upd xZ F (.lst ((us.set nd (.ref jY)).set bh (.ref ug)))) nl=some (.lst (ns2.map V.str)):=by rw[au Qo.symm];show Ih.k _ _ vI Cs
 have M3:(upd xZ F (.lst ((us.set nd (.ref jY)).set bh (.ref ug)))) O=some (.lst ((fV nds.length bh nd).map V.int)):=by rw[au FO.symm];show Ih.k _ _ Or Cn
 generalize upd xZ F (.lst ((us.set nd (.ref jY)).set bh (.ref ug)))=Gk at GU OL SD Ng M3 ⊢
 show kR _ _ ?_
 show⟨_,U,_,U,_,U,agn,fun p' jR=>?_⟩
 have lp:Rl r H (upd Gk p' (.tup [.ref B,.ref I,.ref F])):=OL.trans (Rl.new OL.rl jR)
 have FI:(upd Gk p' (.tup [.ref B,.ref I,.ref F])) p'=some (.tup [.ref B,.ref I,.ref F]):=ae
 have sp':ag Gk (upd Gk p' (.tup [.ref B,.ref I,.ref F])):=af jR _
 generalize upd Gk p' (.tup [.ref B,.ref I,.ref F])=YM at lp FI sp' ⊢
 show⟨_,U,agm,fun L8 hL=>?_⟩
 have sL:=af hL (.lst [.ref p',.int (nd:Int)])
 have lL:=lp.trans (Rl.of lp.rl sL)
 have O8:=pd.go gH lL
 have z7:∀z∈ns2,z∈bs.map (·.1):=fun z hz=>by rw[← FF];show in1 z (in2 z hz)
 have xin:x∈bs.map (·.1):=by rw[← FF];show ZZ hx
 have yin:y∈bs.map (·.1):=by rw[← FF];show in1 y KG
 have XC:e1.okIn (jN (bs.map (·.1))):=cR (fun t z hz=>⟨hz.1,by rcases dk hz.2 with w|w;show z7 z w;rw[bU w];show xin⟩) o1
 have XD:e2.okIn (jN (bs.map (·.1))):=cR (fun t z hz=>⟨hz.1,by rcases dk hz.2 with w|w;show z7 z w;rw[bU w];show yin⟩) o2
 have Xx:e1.nm y=false:=AQ (fun z=>by rcases dk z with w|w;show KH w;show xy (bU w).symm) o1
 have xQ:e2.nm x=false:=AQ (fun z=>by rcases dk z with w|w;show KD w;show xy (bU w)) o2
 have pM:=zu nds bh nd x y e1 e2 b2
 have nodes:=wm (x:=x) (y:=y) (bh:=bh) (nd:=nd) ok.nd QB uz xin yin i1 i2 XC XD d1 d2 Uz UA
 show q2 L8 p' F _ (zt nds bh nd x y e1 e2 b2) nd _ lL ae (sL _ _ FI) ⟨O8.hB,O8.hI,sL _ _ (sp' _ _ GU),O8.pb,Paired.aV SD fun u u z=>aG.keep (ag.tk (aa sp' sL)) z,pd.nB,pd.nI,Fr⟩ ⟨ok.bx,ok.ind,ok.sub,by rw[pM];show ok.one,by rw[pM];show ok.few,fun e he=>by rw[pM];show nodes e he⟩ pM uz (JD QB uz (by lia) OU xy Xx xQ UC)
abbrev Pn:Stmt:=top 39
abbrev Pm:Stmt:=top 40
abbrev Pj:Stmt:=top 41
abbrev SY:Stmt:=top 52
def fi:ao->List Int->Str->Int
 | b::bs,w::ws,x=>if b.1=x then w else fi bs ws x
 | _,_,_=>0
def fc (word:Str):ao->List Int->List (List Key×V)
 | b::bs,w::ws=>([.inr word,.inr b.1],.int w)::fc word bs ws
 | _,_=>[]
theorem qN {word:Str}:∀(bs:ao) (ws:List Int) (i:Nat) (b:Str×Int) (w:Int),bs[i]?=some b->ws[i]?=some w->(fc word bs ws)[i]?=some ([.inr word,.inr b.1],.int w)
 | [],_,_,_,_,h,_=>by simp at h
 | _::_,[],_,_,_,_,h=>by simp at h
 | _::_,_::_,0,_,_,h,g=>by simp at h g;subst h g;rfl
 | _::bs,_::ws,i+1,b,w,h,g=>by
   change(fc word bs ws)[i]?=_
   show qN bs ws i b w (by simpa using h) (by simpa using g)
theorem dt {word:Str}:∀(bs:ao) (ws:List Int),bs.length=ws.length->(fc word bs ws).length=ws.length
 | [],[],_=>rfl
 | [],_::_,h=>by simp at h
 | _::_,[],h=>by simp at h
 | _::bs,_::ws,h=>by simp[fc];show dt bs ws (by simpa using h)
theorem fP {word:Str}:∀(bs:ao) (ws:List Int) (k:List Key),k∈(fc word bs ws).map (·.1)->∃x∈bs.map (·.1),k=[.inr word,.inr x]
 | [],_,_,h=>by simp[fc]at h
 | _::_,[],_,h=>by simp[fc]at h
 | b::bs,w::ws,k,h=>by
   rcases bT h with z|z
   . show⟨b.1,aY (.inl rfl),z⟩
   . obtain⟨x,hx,e⟩:=fP bs ws k z
     show⟨x,aY (.inr hx),e⟩
theorem jC:∀(kvs d:List (List Key×V)) (k:List Key),k∉kvs.map (·.1)->aJ (putAllT d kvs) k=aJ d k
 | [],_,_,_=>rfl
 | p::r,d,k,h=>by
   change aJ (putAllT (putK d p.1 p.2) r) k=_
   rw[jC r _ k (fun z=>h (aY (.inr z))),aW,aQ (fun z=>h (aY (.inl z)))]
theorem f6 {word:Str}:∀(bs:ao) (ws:List Int) (d:List (List Key×V)) (x:Str),bs.length=ws.length->(bs.map (·.1)).Nodup->x∈bs.map (·.1)->aJ (putAllT d (fc word bs ws)) [.inr word,.inr x]=some (.int (fi bs ws x))
 | [],_,_,_,_,_,h=>by simp at h
 | _::_,[],_,_,h,_,_=>by simp at h
 | b::bs,w::ws,d,x,hl,nd,hx=>by
   rw[aav,ab2]at nd
   change aJ (putAllT (putK d [.inr word,.inr b.1] (.int w)) (fc word bs ws)) [.inr word,.inr x]=some (.int (if b.1=x then w else fi bs ws x))
   by_cases e:b.1=x
   . rw[ba e,jC _ _ _ (fun z=>by
       obtain⟨y,hy,e2⟩:=fP bs ws _ z
       injection e2 with _ e2
       injection e2 with e2 _
       injection e2 with e2
       subst e2
       show nd.1 (e▸hy)),aW,ba (by rw[e])]
   . rw[aQ e]
     show f6 bs ws _ x (by simpa using hl) nd.2 ?_
     rcases bT hx with z|z
     . show aB z.symm e
     . show z
def Kn (H:Hp)(d:Addr)(P:Str->Str->Prop)(W:Str->Str->Int):Prop:=∃kvs,H d=some (.dT kvs)/\∀t x,P t x->(t="box"\/t="mine"\/t="yours")/\aJ kvs [.inr t,.inr x]=some (.int (W t x))
def Kn.same {H H':Hp}{d:Addr}{P:Str->Str->Prop}{W:Str->Str->Int}(s:ag H H')(h:Kn H d P W):Kn H' d P W:=by obtain⟨k,a,b⟩:=h;show⟨k,s _ _ a,b⟩
def jI (K:ZV)(n:Nat):Sp:=fun vs H Q z=>∃(v:V) (d:Addr) (e:E) (P:Str->Str->Prop) (W:Str->Str->Int),vs=[v,.ref d]/\EK K H v e/\e.dZ/\e.okIn P/\Kn H d P W/\e.dep<n/\Q (.int (e.worth W)) H
def yM {f:Addr}{fd:aaa}:aK P w K mg base bJ 1 f fd ["told","known"] ((jI K) 0):=by
 have no:∀vs H Q E,¬ (jI K) 0 vs H Q E:=fun vs H Q E h=>by
   obtain⟨v,d,e,P,W,_,_,_,_,_,h,_⟩:=h
   lia
 show⟨fun vs H Q E h=>aB h (no vs H Q E),fun A outer s H args us vs Q E z z z z h=>aB h (no vs H Q E)⟩
def Pq:az ["told","known"] ["told","known"] (aj Pn):=cU
def Jb {n:Nat}{f:Addr}{fd:aaa}(F:bQ K "_law_worth_of" "_law_worth_of" Pn f fd)(G:aO P w K mg base "_law_worth_of" ["told","known"] (n+1) (jI K n)):aK P w K mg base bJ (n+1+1) f fd ["told","known"] (jI K (n+1)):=by
 show F.df Pq fun cdv A outer s H vs Q E hr h=>?_
 obtain⟨v,d,e,P,W,rfl,ev,is,ok,kn,dp,q⟩:=h
 show cM ⟨_,(aeg (aeq (aeo aew (aeh aei (Y 0) aef) ael) (aej (aem (aeh aei (Y 0) aef))) aer)
   (aeg (aeq (aeo aew (aeh aei (Y 0) aef) ael) (aej (aem (aes aeN (aek G hr U (L (aeh aei (Y 0) aef) (L (Y 1) M))) (aek G hr U (L (aeh aei (Y 0) aef) (L (Y 1) M)))))) aer)
   (aeg (aeq (aeo aew (aeh aei (Y 0) aef) ael) (aej (aem (aes aeT (aek G hr U (L (aeh aei (Y 0) aef) (L (Y 1) M))) (aek G hr U (L (aeh aei (Y 0) aef) (L (Y 1) M)))))) aer)
   (aej (aem (L3.ye (bB hr _ (by left)) (Y 1) (Y 0))))))),?_⟩
 show ak fun Rk kR=>?_
 match e,ev,is,ok,dp,q with
 | .num n,ev,is,ok,dp,q=>
   obtain⟨p,rfl,hp⟩:=k6.sq ev
   show⟨_,U,p,_,_,_,U,U,hp,U,U,_,U,cJ ?_⟩
   show⟨_,U,p,_,_,_,U,U,hp,U,q⟩
 | .box t x,ev,is,ok,dp,q=>
   obtain⟨p,rfl,hx⟩:=ev
   have hp:=aN.of (K:=K) hx
   obtain⟨kvs,hd,hk⟩:=kn
   obtain⟨ht,hv⟩:=hk t x ok
   have n1:decide (V.str t=.str "number")=false:=eX fun z=>by injection z with z;rcases ht with r|r|r<;>(rw[r]at z;show aB z (by left))
   have n2:decide (V.str t=.str "plus")=false:=eX fun z=>by injection z with z;rcases ht with r|r|r<;>(rw[r]at z;show aB z (by left))
   have n3:decide (V.str t=.str "less")=false:=eX fun z=>by injection z with z;rcases ht with r|r|r<;>(rw[r]at z;show aB z (by left))
   show⟨_,U,p,_,_,_,U,U,hp,U,U,_,U,aA n1 (kR _ _ ?_)⟩
   show ak fun Rk kR=>?_
   show⟨_,U,p,_,_,_,U,U,hp,U,U,_,U,aA n2 (kR _ _ ?_)⟩
   show ak fun Rk kR=>?_
   show⟨_,U,p,_,_,_,U,U,hp,U,U,_,U,aA n3 (kR _ _ ?_)⟩
   show⟨_,U,_,U,d,_,U,?_,q⟩
   have:=dv.t (k:=[.inr t,.inr x]) hd hx
   rw[hv]at this
   show this
 | .two .plus a b,ev,is,ok,dp,q=>
   obtain⟨x,y,h,ea,eb⟩:=ev
   obtain⟨p,rfl,hp⟩:=h.sq
   have dp:max a.dep b.dep+1<n+1:=dp
   show⟨_,U,p,_,_,_,U,U,hp,U,U,_,U,aA (by left) (kR _ _ ?_)⟩
   show ak fun Rk kR=>?_
   show⟨_,U,p,_,_,_,U,U,hp,U,U,_,U,cJ ?_⟩
   show⟨_,U,p,_,_,_,U,U,hp,U,_,U,x,d,a,P,W,U,ea,is.1,ok.1,kn,by lia,_,U,p,_,_,_,U,U,hp,U,_,U,y,d,b,P,W,U,eb,is.2,ok.2,kn,by lia,_,_,U,U,q⟩
 | .two .less a b,ev,is,ok,dp,q=>
   obtain⟨x,y,h,ea,eb⟩:=ev
   obtain⟨p,rfl,hp⟩:=h.sq
   have dp:max a.dep b.dep+1<n+1:=dp
   show⟨_,U,p,_,_,_,U,U,hp,U,U,_,U,aA (by left) (kR _ _ ?_)⟩
   show ak fun Rk kR=>?_
   show⟨_,U,p,_,_,_,U,U,hp,U,U,_,U,aA (by left) (kR _ _ ?_)⟩
   show ak fun Rk kR=>?_
   show⟨_,U,p,_,_,_,U,U,hp,U,U,_,U,cJ ?_⟩
   show⟨_,U,p,_,_,_,U,U,hp,U,_,U,x,d,a,P,W,U,ea,is.1,ok.1,kn,by lia,_,U,p,_,_,_,U,U,hp,U,_,U,y,d,b,P,W,U,eb,is.2,ok.2,kn,by lia,_,_,U,U,q⟩
def CB (s:Src K mg "_law_worth_of" Pn)  : ∀n:Nat,aO P w K mg base "_law_worth_of" ["told","known"] (n+1) (jI K n):=by
 obtain⟨f,fd,F,m⟩:=s
 have b:Binds K fd ["told","known"] []:=oK F fun z z z z z z z z=>rfl
 intro n
 have all:aK P w K mg base bJ (n+1) f fd ["told","known"] (jI K n):=by
   induction n with
   | zero=>show yM
   | succ n ih=>show Jb F  ⟨f,fd,ih,F.kp,b,m⟩
 show⟨f,fd,all,F.kp,b,m⟩
def nY (K:ZV)(n:Nat):Sp:=fun vs H Q z=>∃(v:V) (d:Addr) (e:E) (P:Str->Str->Prop) (W:Str->Str->Int),vs=[v,.ref d]/\EK K H v e/\e.lJ/\e.okIn P/\Kn H d P W/\e.dep<n/\n<=20/\∀H',ag H H'->Q (.bl (e.holds W)) H'
def yL {f:Addr}{fd:aaa}:aK P w K mg base bJ 31 f fd ["told","known"] ((nY K) 0):=by
 have no:∀vs H Q E,¬ (nY K) 0 vs H Q E:=fun vs H Q E h=>by
   obtain⟨v,d,e,P,W,_,_,_,_,_,h,_⟩:=h
   lia
 show⟨fun vs H Q E h=>aB h (no vs H Q E),fun A outer s H args us vs Q E z z z z h=>aB h (no vs H Q E)⟩
def EZ:az ["told","known","one","other"] ["told","known"] (aj Pm):=cU
def k6.at {K:ZV}{H H':Hp}{p:Addr}{xs:List V}(h:k6 K H (.ref p) xs)(s:ag H H'):aN K H' p xs:=by
 obtain⟨q,e,z⟩:=h
 cases e
 show z.elim (fun z=>aN.of (s _ _ z)) (fun z=>z H')
def IU {n:Nat}{f:Addr}{fd:aaa}(F:bQ K "_law_holds" "_law_holds" Pm f fd)(m_int:mg "int"=none)(WO0:aO P w K mg base "_law_worth_of" ["told","known"] 31 (jI K 30))(G:aO P w K mg base "_law_holds" ["told","known"] (n+31) (nY K n)):aK P w K mg base bJ (n+1+31) f fd ["told","known"] (nY K (n+1)):=by
 show F.df EZ fun cdv A outer s H vs Q E hr h=>?_
 obtain⟨v,d,e,P,W,rfl,ev,is,ok,kn,dp,Zy,q⟩:=h
 have WO:=WO0.mono (show 31<=n+31 by lia)
 show cM ⟨_,(aeg (aeq (aeo aew (aeh aei (Y 0) aef) ael) (aej (aem aez)) aer)
   (aeg (aeq (aeo aew (aeh aei (Y 0) aef) ael) (aej (aem (L3.Xy (aek G hr U (L (aeh aei (Y 0) aef) (L (Y 1) M)))))) aer)
   (aeg (aeq (aeo aew (aeh aei (Y 0) aef) ael) (aej (aem (ae4 (aek G hr U (L (aeh aei (Y 0) aef) (L (Y 1) M))) (aeY (aek G hr U (L (aeh aei (Y 0) aef) (L (Y 1) M))))))) aer)
   (aeg (aen 2 EZ.nd (aek WO hr U (L (aeh aei (Y 0) aef) (L (Y 1) M))))
   (aeg (aen 3 EZ.nd (aek WO hr U (L (aeh aei (Y 0) aef) (L (Y 1) M))))
   (aej (aem (aeh aey (aeu (L (aeK aeU (Y 2) (Y 3)) (L (aeK aew (Y 2) (Y 3)) M))) (aeH L3.qu U m_int (by right) (L (aeK aew (aeh aei (Y 0) aef) ael) M)))))))))),?_⟩
 show ak fun Rk kR=>?_
 match e,ev,is,ok,dp,q with
 | .yes,ev,is,ok,dp,q=>
   obtain⟨p,rfl,hp⟩:=k6.sq ev
   show⟨_,U,p,_,_,_,U,U,hp,U,U,_,U,cJ (q _ (same_refl _))⟩
 | .nt a,ev,is,ok,dp,q=>
   obtain⟨x,h,ea⟩:=ev
   obtain⟨p,rfl,hp⟩:=h.sq
   have dp:a.dep+1<n+1:=dp
   show⟨_,U,p,_,_,_,U,U,hp,U,U,_,U,aA (by left) (kR _ _ ?_)⟩
   show ak fun Rk kR=>?_
   show⟨_,U,p,_,_,_,U,U,hp,U,U,_,U,cJ ?_⟩
   show⟨_,U,p,_,_,_,U,U,hp,U,_,U,x,d,a,P,W,U,ea,is,ok,kn,by lia,by lia,fun H' s'=>⟨_,U,q _ s'⟩⟩
 | .two .both a b,ev,is,ok,dp,q=>
   obtain⟨x,y,h,ea,eb⟩:=ev
   obtain⟨p,rfl,hp⟩:=h.sq
   have dp:max a.dep b.dep+1<n+1:=dp
   show⟨_,U,p,_,_,_,U,U,hp,U,U,_,U,aA (by left) (kR _ _ ?_)⟩
   show ak fun Rk kR=>?_
   show⟨_,U,p,_,_,_,U,U,hp,U,U,_,U,aA (by left) (kR _ _ ?_)⟩
   show ak fun Rk kR=>?_
   show⟨_,U,p,_,_,_,U,U,hp,U,U,_,U,cJ ?_⟩
   show⟨_,U,p,_,_,_,U,U,hp,U,_,U,x,d,a,P,W,U,ea,is.1,ok.1,kn,by lia,by lia,fun H1 s1=>⟨_,U,?_⟩⟩
   have qq:∀H',ag H H'->Q (.bl (a.holds W&&b.holds W)) H':=q
   cases ha:a.holds W with
   | false=>
     show d6 ?_
     rw[ha]at qq
     show qq _ s1
   | true=>
     show cJ ?_
     rw[ha]at qq
     show⟨_,U,p,_,_,_,U,U,k6.at h s1,U,_,U,y,d,b,P,W,U,EK.keep (ag.tk s1) eb,is.2,ok.2,kn.same s1,by lia,by lia,fun H2 s2=>qq _ (aa s1 s2)⟩
 | .two .same a b,ev,is,ok,dp,q=>
   obtain⟨x,y,h,ea,eb⟩:=ev
   obtain⟨p,rfl,hp⟩:=h.sq
   have dp:max a.dep b.dep+1<n+1:=dp
   show⟨_,U,p,_,_,_,U,U,hp,U,U,_,U,aA (by left) (kR _ _ ?_)⟩
   show ak fun Rk kR=>?_
   show⟨_,U,p,_,_,_,U,U,hp,U,U,_,U,aA (by left) (kR _ _ ?_)⟩
   show ak fun Rk kR=>?_
   show⟨_,U,p,_,_,_,U,U,hp,U,U,_,U,aA (by left) (kR _ _ ?_)⟩
   show uN fun Rk kR=>?_
   show⟨_,U,p,_,_,_,U,U,hp,U,_,U,x,d,a,P,W,U,ea,is.1,ok.1,kn,by lia,?_⟩
   show ai ?_
   show⟨_,U,p,_,_,_,U,U,hp,U,_,U,y,d,b,P,W,U,eb,is.2,ok.2,kn,by lia,?_⟩
   show ai (kR _ _ ?_)
   show⟨_,U,_,U,_,_,U,U,_,U,_,U,U,agm,fun L8 hL=>?_⟩
   have sL:=af hL (.lst [.bl (decide (a.worth W<b.worth W)),.bl (decide (V.int (a.worth W)=V.int (b.worth W)))])
   have eY:aN K (upd H L8 (.lst [.bl (decide (a.worth W<b.worth W)),.bl (decide (V.int (a.worth W)=V.int (b.worth W)))])) p _:=k6.at h sL
   show⟨_,U,p,_,_,_,U,U,eY,U,U,.inr ⟨_,U,L8,_,_,_,U,U,aE.of ae,U,?_⟩⟩
   have e9:decide (V.int (a.worth W)=V.int (b.worth W))=(TW.E.two .same a b).holds W:=by
     change _=decide (a.worth W=b.worth W)
     by_cases z:a.worth W=b.worth W
     . rw[dE z,dE (congrArg V.int z)]
     . rw[eX z,eX (fun y=>z (by injection y))]
   rw[e9]
   rw[e9]at sL
   show q _ sL
 | .two .under a b,ev,is,ok,dp,q=>
   obtain⟨x,y,h,ea,eb⟩:=ev
   obtain⟨p,rfl,hp⟩:=h.sq
   have dp:max a.dep b.dep+1<n+1:=dp
   show⟨_,U,p,_,_,_,U,U,hp,U,U,_,U,aA (by left) (kR _ _ ?_)⟩
   show ak fun Rk kR=>?_
   show⟨_,U,p,_,_,_,U,U,hp,U,U,_,U,aA (by left) (kR _ _ ?_)⟩
   show ak fun Rk kR=>?_
   show⟨_,U,p,_,_,_,U,U,hp,U,U,_,U,aA (by left) (kR _ _ ?_)⟩
   show uN fun Rk kR=>?_
   show⟨_,U,p,_,_,_,U,U,hp,U,_,U,x,d,a,P,W,U,ea,is.1,ok.1,kn,by lia,?_⟩
   show ai ?_
   show⟨_,U,p,_,_,_,U,U,hp,U,_,U,y,d,b,P,W,U,eb,is.2,ok.2,kn,by lia,?_⟩
   show ai (kR _ _ ?_)
   show⟨_,U,_,U,_,_,U,U,_,U,_,U,U,agm,fun L8 hL=>?_⟩
   have sL:=af hL (.lst [.bl (decide (a.worth W<b.worth W)),.bl (decide (V.int (a.worth W)=V.int (b.worth W)))])
   have eY:aN K (upd H L8 (.lst [.bl (decide (a.worth W<b.worth W)),.bl (decide (V.int (a.worth W)=V.int (b.worth W)))])) p _:=k6.at h sL
   show⟨_,U,p,_,_,_,U,U,eY,U,U,.inr ⟨_,U,L8,_,_,_,U,U,aE.of ae,U,?_⟩⟩
   show q _ sL
def Cy (s:Src K mg "_law_holds" Pm)(m_int:mg "int"=none)(WO0:aO P w K mg base "_law_worth_of" ["told","known"] 31 (jI K 30)):∀n:Nat,aO P w K mg base "_law_holds" ["told","known"] (n+31) (nY K n):=by
 obtain⟨f,fd,F,m⟩:=s
 have b:Binds K fd ["told","known"] []:=oK F fun z z z z z z z z=>rfl
 intro n
 have all:aK P w K mg base bJ (n+31) f fd ["told","known"] (nY K n):=by
   induction n with
   | zero=>show yL
   | succ n ih=>show IU F m_int WO0 ⟨f,fd,ih,F.kp,b,m⟩
 show⟨f,fd,all,F.kp,b,m⟩
def ud:Sp:=fun vs H Q z=>∃(p B I N wa:Addr) (word:Str) (vb:List V) (bs:ao) (ws:List Int),vs=[.ref p,.str word,.ref wa]/\H p=some (.tup [.ref B,.ref I,.ref N])/\H B=some (.lst vb)/\Paired (cB H) vb bs/\H wa=some (.tup (ws.map V.int))/\bs.length=ws.length/\ws.length<=4/\∀(D:Addr) (H':Hp),ag H H'->H D=none->H' D=some (.dT (putAllT [] (fc word bs ws)))->Q (.ref D) H'
def Pp:az ["program","word","worths"] ["program","word","worths"] (aj Pj):=cU
def IJ {f:Addr}{fd:aaa}(F:bQ K "_law_by_names" "_law_by_names" Pj f fd)(m_dict:mg "dict"=none)(m_zip:mg "zip"=none):aK P w K mg base bJ 1 f fd ["program","word","worths"] ud:=by
 show F.df Pp fun cdv A outer s H vs Q E hr h=>?_
 obtain⟨p,B,I,N,wa,word,vb,bs,ws,rfl,hp,hB,pb,hw,bw,w4,q⟩:=h
 have oE:=Paired.length pb
 show cM ⟨_,(aej (aem (aeH (L3.x9 (bB hr _ (by left))) U m_dict (by right) (L (aeO [none,none,some 1] ["box","worth","word"] (iw Pj) U (L3.Ot false true U m_zip (L (aeh aei (Y 0) aef) (L (Y 2) M))) (fun y y y y y=>⟨(aeC 2 (aev (aep 0 (d9 ["box","worth","word"])) (aev (aep 1 (d9 ["box","worth","word"])) aeB))),aeE,(aet (L (aet (L (Y 2) (L (aeh aei (Y 0) aef) M))) (L (Y 1) M)))⟩)) M)))),?_⟩
 show⟨_,U,?_⟩
 show aH hp U ?_
 show⟨_,U,B,wa,U,⟨_,aE.of hB⟩,⟨_,aN.of hw⟩,fun l hl=>?_⟩
 show ke (xs:=vb) (ys:=ws.map V.int) (by rw[ZW];lia) (fun(i:Nat) Hx=>ag H Hx/\∃xs,Hx l=some (.lst xs)/\Paired (qj Hx) xs ((fc word bs ws).take i)) ⟨af hl _,[],ae,.nil⟩ (fun i Hx y z=>⟨aE.of (z.1 _ _ hB),aN.of (z.1 _ _ hw)⟩) (fun i x0 y0 pp Hx hx hy z lH=>?_) (fun Hx z=>?_)
 . obtain⟨sx,xs,gl,px⟩:=z
   have cX:i<vb.length:=(aT hx)
   obtain⟨b,gm,jV,rfl,m7⟩:=Paired.get pb hx
   obtain⟨w0,Lx,rfl⟩:=bG hy
   have sp:=af lH (.tup [.ref jV,.int w0])
   have gp:(upd Hx pp (.tup [.ref jV,.int w0])) pp=some (.tup [.ref jV,.int w0]):=ae
   generalize upd Hx pp (.tup [.ref jV,.int w0])=Hy at sp gp ⊢
   have sxy:=aa sx sp
   show kT gp ?_
   show bI (A:=fun H5=>cp _ l _ H5 _) ?_
   show⟨_,U,_,U,?_⟩
   show aH (sxy _ _ m7) U ?_
   show⟨agm,fun kt V9=>?_⟩
   have sk:=af V9 (.tup [.str word,.str b.1])
   have gk:(upd Hy kt (.tup [.str word,.str b.1])) kt=some (.tup [.str word,.str b.1]):=ae
   generalize upd Hy kt (.tup [.str word,.str b.1])=Hz at sk gk ⊢
   show⟨_,U,agm,fun pr Od=>?_⟩
   have sr:=af Od (.tup [.ref kt,.int w0])
   have gr:(upd Hz pr (.tup [.ref kt,.int w0])) pr=some (.tup [.ref kt,.int w0]):=ae
   have Rc:=sr _ _ gk
   generalize upd Hz pr (.tup [.ref kt,.int w0])=Hw at sr gr Rc ⊢
   have Rf:=sr _ _ (sk _ _ (sp _ _ gl))
   have sxw:=aa sp (aa sk sr)
   have WK:=Paired.length px
   rw[aac]at WK
   show⟨_,Rf,aC (by lia),aD (Pv:=fun(i:Nat) Hx=>ag H Hx/\∃xs,Hx l=some (.lst xs)/\Paired (qj Hx) xs ((fc word bs ws).take i)) (by repeat' constructor) cX ⟨av (aa sx sxw) hl,xs++[.ref pr],ae,?_⟩⟩
   have Ma:TK Hw (upd Hw l (.lst (xs++[.ref pr]))):=TW.TK.lst Rf
   rw[aad,qN bs ws i b w0 gm Lx]
   show Paired.snoc (Paired.aV px fun y y h9=>?_) ⟨pr,kt,U,Ma _ _ gr,Ma _ _ Rc⟩
   obtain⟨a,c,e1,e2,e3⟩:=h9
   show⟨a,c,e1,Ma _ _ (sxw _ _ e2),Ma _ _ (sxw _ _ e3)⟩
 obtain⟨sx,xs,gl,px⟩:=z
 rw[aaP (by rw[dt bs ws bw];lia)]at px
 show⟨l,xs,_,U,gl,px,fun D hD=>?_⟩
 show q D _ (cF sx hD) (ah sx hD) ae
def W2 (bs:ao)(ms ys:List Int):Str->Str->Int:=fun t x=>if t="mine" then fi bs ms x else fi bs ys x
def P2 (bs:ao):Str->Str->Prop:=fun t x=>(t="mine"\/t="yours")/\x∈bs.map (·.1)
structure Bx (H:Hp)(p:Addr)(bs:ao):Prop where
 ex:∃(B I N:Addr) (vb:List V),H p=some (.tup [.ref B,.ref I,.ref N])/\H B=some (.lst vb)/\Paired (cB H) vb bs
def Bx.same {H H':Hp}{p:Addr}{bs:ao}(s:ag H H')(h:Bx H p bs):Bx H' p bs:=by obtain⟨B,I,N,vb,a,b,c⟩:=h.ex;show⟨B,I,N,vb,s _ _ a,s _ _ b,Paired.aV c fun y y z=>Tp.keep (ag.tk s) z⟩
def lM {bs:ao}{ms ys:List Int}{H:Hp}{D:Addr}(nd:(bs.map (·.1)).Nodup)(l1:bs.length=ms.length)(l2:bs.length=ys.length)(h:H D=some (.dT (putAllT (putAllT [] (fc "mine" bs ms)) (fc "yours" bs ys)))):Kn H D (P2 bs) (W2 bs ms ys):=by
 show⟨_,h,fun t x g9=>?_⟩
 obtain⟨ht,hx⟩:=g9
 show⟨.inr ht,?_⟩
 rcases ht with rfl|rfl
 . rw[jC _ _ _ (fun z=>by
     obtain⟨y,_,e⟩:=fP bs ys _ z
     injection e with e _
     injection e with e
     show aB e (by left)),f6 bs ms [] x l1 nd hx]
   rfl
 . rw[f6 bs ys _ x l2 nd hx]
   rfl
theorem nJ:∀(kvs d:List (List Key×V)),(kvs.map (·.1)).Nodup->(∀k∈kvs.map (·.1),aJ d k=none)->putAllT d kvs=d++kvs
 | [],d,_,_=>(aaV d).symm
 | p::r,d,nd,h=>by
   rw[aav,ab2]at nd
   change putAllT (putK d p.1 p.2) r=_
   rw[nJ r _ nd.2 (fun k hk=>by
     rw[aW,aQ (fun(z:k=p.1)=>nd.1 (z▸hk))]
     show h k (aY (.inr hk))),jB p.2 (h p.1 (aY (.inl rfl))),List.append_assoc]
   rfl
theorem kA {word:Str}:∀(bs:ao) (ws:List Int),(bs.map (·.1)).Nodup->((fc word bs ws).map (·.1)).Nodup
 | [],_,_=>abh
 | _::_,[],_=>abh
 | b::bs,w::ws,nd=>by
   rw[aav,ab2]at nd
   change([.inr word,.inr b.1]::(fc word bs ws).map (·.1)).Nodup
   show List.nodup_cons.mpr ⟨fun z=>?_,kA bs ws nd.2⟩
   obtain⟨x,hx,e⟩:=fP bs ws _ z
   injection e with _ e
   injection e with e _
   injection e with e
   show nd.1 (e▸hx)
def eP {word:Str}(bs:ao)(ws:List Int)(_:bs.length=ws.length)(nd:(bs.map (·.1)).Nodup):putAllT [] (fc word bs ws)=fc word bs ws:=nJ _ [] (kA bs ws nd) (fun z z=>rfl)
def E5:Sp:=fun vs H Q z=>∃(p p2 wa wb:Addr) (bs:ao) (ms ys:List Int),vs=[.ref p,.ref p2,.ref wa,.ref wb]/\Bx H p bs/\Bx H p2 bs/\H wa=some (.tup (ms.map V.int))/\H wb=some (.tup (ys.map V.int))/\bs.length=ms.length/\bs.length=ys.length/\bs.length<=4/\(bs.map (·.1)).Nodup/\∀(D:Addr) (H':Hp),ag H H'->H D=none->Kn H' D (P2 bs) (W2 bs ms ys)->Q (.ref D) H'
def JY:az ["one","other","mine","yours","known"] ["one","other","mine","yours"] (aj SY):=cU
def IK {f:Addr}{fd:aaa}(F:bQ K "_law_both" "_law_both" SY f fd)(BN:aO P w K mg base "_law_by_names" ["program","word","worths"] 1 ud):aK P w K mg base bJ 2 f fd ["one","other","mine","yours"] E5:=by
 show F.df JY fun cdv A outer s H vs Q E hr h=>?_
 obtain⟨p,p2,wa,wb,bs,ms,ys,rfl,bx,UK,hw,Ly,l1,l2,l4,nd,q⟩:=h
 obtain⟨B,I,N,vb,hp,hB,pb⟩:=bx.ex
 show cM ⟨_,(aeg (aen 4 JY.nd (aek BN hr U (L (Y 0) (L ael (L (Y 2) M)))))
   (aeg (aeQ (afy (bB hr _ (by left)) (Y 4) (aek BN hr U (L (Y 1) (L ael (L (Y 3) M))))))
   (aej (aem (Y 4))))),?_⟩
 show ak fun Rk kR=>?_
 show⟨_,U,_,U,p,B,I,N,wa,"mine",vb,bs,ms,U,hp,hB,pb,hw,l1,by lia,fun D H1 s1 nD gD=>?_⟩
 show ai (kR _ _ ?_)
 show aq [some (.ref p),some (.ref p2),some (.ref wa),some (.ref wb),some (.ref D)] U ?_
 show ak fun Rk kR=>?_
 obtain⟨B2,I2,N2,Ga,eY,xO,FZ⟩:=(UK.same s1).ex
 show⟨_,U,D,U,.inr ⟨_,.inl gD⟩,_,U,_,U,p2,B2,I2,N2,wb,"yours",Ga,bs,ys,U,eY,xO,FZ,s1 _ _ Ly,l2,by lia,fun D2 H2 s2 Dt mD=>?_⟩
 have DD:D≠D2:=ar gD Dt
 have k1:=dt (word:="mine") bs ms l1
 have k2:=dt (word:="yours") bs ys l2
 have Ar:=s2 _ _ gD
 have n1:=eP (word:="mine") bs ms l1 nd
 have n2:=eP (word:="yours") bs ys l2 nd
 rw[n1]at Ar
 rw[n2]at mD
 show⟨D2,_,_,U,Ar,mD,DD,(by cases bs with|nil=>show .inr rfl|cons b r=>cases ms with|nil=>simp at l1|cons m r2=>show .inl (fun z=>nomatch z)),?_,?_⟩
 . have:1000<=sizeLine:=by left
   lia
 show kR _ _ ?_
 show⟨_,U,?_⟩
 show q D _ (av (aa s1 s2) nD) nD (lM nd l1 l2 ?_)
 rw[n1]
 show ae
abbrev S9:Stmt:=top 42
abbrev S0:Stmt:=top 45
abbrev S2:Stmt:=top 46
def uW {t1 t2:Bool}{K:ZV}{a b:Addr}{xs ys:List V}{g:TG}{tb:TS}{D:L2.Ends}{σ:St}{H:Hp}(hlen:xs.length=ys.length)(Pv:Nat->St->Hp->Prop)(h0:Pv 0 σ H)(hl:∀i σ H,i<=xs.length->Pv i σ H->Sq t1 K H a xs/\Sq t2 K H b ys)
   (hs:∀i x y p σ H,xs[i]?=some x->ys[i]?=some y->Pv i σ H->H p=none->g (.ref p) σ (upd H p (.tup [x,y])) fun σ2 H2=>tb {D with nx:=Pv (i+1),ct:=Pv (i+1),bk:=D.nx} σ2 H2) (hd:∀σ H,Pv xs.length σ H->D.nx σ H) :
   ∃W:Nat->Nat->St->Hp->Prop,(∃m,W 0 m σ H)/\∀i m σ H,W i m σ H ->
     ((rT t1 t2 K a b).stop i H/\D.nx σ H)\/((rT t1 t2 K a b).go i H/\∃N:St->Hp->Prop,(∀σ' H',N σ' H'->∃m',m'<m/\W (i+1) m' σ' H')/\∀x H',(rT t1 t2 K a b).yld i H x H'->g x σ H' fun σ2 H2=>tb {D with nx:=N,ct:=N,bk:=D.nx} σ2 H2):=by
 show⟨fun i m σ H=>m=xs.length-i/\i<=xs.length/\Pv i σ H,⟨xs.length,by simp,aan _,h0⟩,?_⟩
 rintro i m σ H ⟨rfl,hi,p⟩
 obtain⟨q1,q2⟩:=hl i σ H hi p
 by_cases cZ:i<xs.length
 . show .inr ⟨⟨xs,ys,xs[i],ys[i]'(hlen▸cZ),q1,q2,by simp[cZ],by simp[hlen▸cZ]⟩,Pv (i+1),fun σ' H' p'=>⟨xs.length-(i+1),by lia,U,cZ,p'⟩,fun x H' y=>?_⟩
   obtain⟨pp,x1,y1,hn,rfl,rfl,k⟩:=y
   obtain⟨k1,k2⟩:=k xs ys q1 q2
   show hs i x1 y1 pp σ H k1 k2 p hn
 . have e:i=xs.length:=by lia
   subst e
   show .inl ⟨⟨xs,ys,q1,q2,.inl (Z0 _)⟩,hd σ H p⟩
def eZ (bs:ao)(ws:List Int)(x:Str)(t:Int):List Int:=List.zipWith (fun b w=>if b.1=x then t%b.2 else w) bs ws
def wy {bs:ao}{ws:List Int}{x:Str}{t:Int}{i:Nat}{b:Str×Int}{w:Int}(h1:bs[i]?=some b)(h2:ws[i]?=some w):(eZ bs ws x t)[i]?=some (if b.1=x then t%b.2 else w):=by
 unfold eZ
 rw[List.getElem?_zipWith,h1,h2]
def nK {bs:ao}{ws:List Int}{x:Str}{t:Int}(h:bs.length=ws.length):(eZ bs ws x t).length=bs.length:=by
 unfold eZ
 rw[List.length_zipWith]
 lia
def wB (bs:ao)(ws:List Int):Str->Str->Int:=fun z y=>fi bs ws y
def ip (bs:ao)(ws:List Int):Np->Option (List Int×Int×List Int)
 | .put x s n=>some ([],n,eZ bs ws x (s.worth (wB bs ws)))
 | .say s n=>some ([s.worth (wB bs ws)],n,ws)
 | .test c n o=>some ([],if c.holds (wB bs ws)then n else o,ws)
 | .pick _ n=>some ([],n,ws)
 | .fin=>none
structure BX (ns:List Str)(e:Np):Prop where
 is:e.Ie
 td:∀x∈e.ir,x.okIn (jN ns)/\x.dep<=5
structure rV (H:Hp)(p:Addr)(bs:ao)(nds:List Np):Prop where
 ex:∃(B I N:Addr) (vb vn:List V) (ins:List Str),H p=some (.tup [.ref B,.ref I,.ref N])/\H B=some (.lst vb)/\Paired (cB H) vb bs/\H N=some (.lst vn)/\Paired (aG H) vn nds/\H I=some (.lst (ins.map V.str))
def rV.same {H H':Hp}{p:Addr}{bs:ao}{nds:List Np}(s:ag H H')(h:rV H p bs nds):rV H' p bs nds:=by
 obtain⟨B,I,N,vb,vn,ins,a,b,c,d,e,f⟩:=h.ex
 show⟨B,I,N,vb,vn,ins,s _ _ a,s _ _ b,Paired.aV c fun y y z=>Tp.keep (ag.tk s) z,s _ _ d,Paired.aV e fun y y z=>aG.keep (ag.tk s) z,s _ _ f⟩
def rV.bx {H:Hp}{p:Addr}{bs:ao}{nds:List Np}(h:rV H p bs nds):Bx H p bs:=by
 obtain⟨B,I,N,vb,_,_,a,b,c,_⟩:=h.ex
 show⟨B,I,N,vb,a,b,c⟩
structure Gg (bs:ao):Prop where
 l4:bs.length<=4
 nd:(bs.map (·.1)).Nodup
 sz:∀b∈bs,1<=b.2
 s9:∀b∈bs,b.2<=16
def E9:Sp:=fun vs H Q z=>∃(p wa:Addr) (j:Nat) (bs:ao) (nds:List Np) (ws:List Int) (e:Np),vs=[.ref p,.int (j:Int),.ref wa]/\rV H p bs nds/\nds[j]?=some e/\BX (bs.map (·.1)) e/\H wa=some (.tup (ws.map V.int))/\bs.length=ws.length/\Gg bs /\
 (ip bs ws e=none->∀H',ag H H'->Q .br H')/\∀(s:List Int) (n:Int) (ws':List Int),ip bs ws e=some (s,n,ws')->∀(r l1 l2:Addr) (H':Hp),ag H H'->H' r=some (.tup [.ref l1,.int n,.ref l2])->H' l1=some (.lst (s.map V.int))->H' l2=some (.tup (ws'.map V.int))->Q (.ref r) H'
def Dg {bs:ao}{ws:List Int}{H:Hp}{D:Addr}(nd:(bs.map (·.1)).Nodup)(l1:bs.length=ws.length)(h:H D=some (.dT (putAllT [] (fc "box" bs ws)))):Kn H D (jN (bs.map (·.1))) (wB bs ws):=by
 show⟨_,h,fun t x hx=>?_⟩
 obtain⟨rfl,hx⟩:=hx
 show⟨.inl rfl,f6 bs ws [] x l1 nd hx⟩
def nV:az ["program","place","worths","node","known","found","name","size","worth"] ["program","place","worths"] (aj S9):=cU
def IZ {f:Addr}{fd:aaa}(F:bQ K "_law_step" "_law_step" S9 f fd)(m_int:mg "int"=none)(m_zip:mg "zip"=none)(m_tuple:mg "tuple"=none)(BN0:aO P w K mg base "_law_by_names" ["program","word","worths"] 1 ud)(WO0:aO P w K mg base "_law_worth_of" ["told","known"] 31 (jI K 30))(HO:aO P w K mg base "_law_holds" ["told","known"] 51 (nY K 20)):aK P w K mg base bJ 52 f fd ["program","place","worths"] E9:=by
 show F.df nV fun cdv A outer s H vs Q E hr h=>?_
 obtain⟨p,wa,j,bs,nds,ws,e,rfl,pg,hj,nt,hw,bw,bt,qn,qs⟩:=h
 have l4:=bt.l4
 have BN:=BN0.mono (show 1<=51 by lia)
 have WO:=WO0.mono (show 31<=51 by lia)
 obtain⟨B,I,N,vb,vn,_,hp,hB,pb,hN,pn,_⟩:=pg.ex
 have WI:=Paired.length pb
 have Zg:=Paired.length pn
 have cX:j<nds.length:=(aT hj)
 obtain⟨x0,C4⟩ : ∃x0,vn[j]?=some x0:=⟨vn[j]'(by lia),Z3 (by lia)⟩
 obtain⟨e1,V5,je⟩:=Paired.get pn C4
 cases hj.symm.trans V5
 show cM ⟨_,(aeg (aen 3 nV.nd (aeh aey (aeh aei (Y 0) aef) (Y 1)))
   (aeg (aen 4 nV.nd (aek BN hr U (L (Y 0) (L ael (L (Y 2) M)))))
   (aeg (aeq (aeo aew (aeh aei (Y 3) aef) ael) (aej (aem aeL)) aer)
   (aeg (aeq (aeo aew (aeh aei (Y 3) aef) ael) (aej (aem (aet (L (aeu (L (aek WO hr U (L (aeh aei (Y 3) aef) (L (Y 4) M))) M)) (L (aeh aei (Y 3) aef) (L (Y 2) M)))))) aer)
   (aeg (aeq (aeo aew (aeh aei (Y 3) aef) ael) (aej (aem (aet (L (aeu M) (L (aeh aei (Y 3) (aes aeT aef (aeH L3.qu U m_int (by right) (L (aek HO hr U (L (aeh aei (Y 3) aef) (L (Y 4) M))) M)))) (L (Y 2) M)))))) aer)
   (aeg (aen 5 nV.nd (aeu M))
   (aeg (aeJ (L3.Ot false true U m_zip (L (aeh aei (Y 0) aef) (L (Y 2) M))) (aeC 2 (aev (aeC 2 (aev (aep 6 nV.nd) (aev (aep 7 nV.nd) aeB))) (aev (aep 8 nV.nd) aeB))) (aeg (aeq (aeo aew (Y 6) (aeh aei (Y 3) aef)) (aej (aen 8 nV.nd (aes ae0 (aek WO hr U (L (aeh aei (Y 3) aef) (L (Y 4) M))) (Y 7)))) aer)
   (aej (aeQ (afj (Y 5) (L (Y 8) M))))))
   (aej (aem (aet (L (aeu M) (L (aeh aei (Y 3) aef) (L (aeH L3.eM U m_tuple (by right) (L (Y 5) M)) M))))))))))))),?_⟩
 show ak fun Rk kR=>?_
 show⟨_,U,?_⟩
 show aH hp U ?_
 show⟨_,U,?_⟩
 show dF hN (aZ C4) ?_
 show ai (kR _ _ ?_)
 show aq [some (.ref p),some (.int (j:Int)),some (.ref wa),some x0,none,none,none,none,none] U ?_
 show ak fun Rk kR=>?_
 show⟨_,U,_,U,p,B,I,N,wa,"box",vb,bs,ws,U,hp,hB,pb,hw,bw,by lia,fun D H1 s1 nD gD=>?_⟩
 show ai (kR _ _ ?_)
 show aq [some (.ref p),some (.int (j:Int)),some (.ref wa),some x0,some (.ref D),none,none,none,none] U ?_
 show ak fun Rk kR=>?_
 have kn:=Dg bt.nd bw gD
 have FT:=s1 _ _ hw
 replace je:=aG.keep (ag.tk s1) je
 match e,je,nt,qn,qs with
 | .fin,je,nt,qn,qs=>
   obtain⟨x,rfl,hx⟩:=je
   show⟨_,U,?_⟩
   show aH hx U ?_
   show⟨U,_,U,cJ ?_⟩
   show qn rfl _ s1
 | .say sm n,je,nt,qn,qs=>
   obtain⟨u,⟨x,rfl,hx⟩,eu⟩:=je
   show⟨_,U,?_⟩
   show aH hx U ?_
   show⟨U,_,U,aA (by left) (kR _ _ ?_)⟩
   show ak fun Rk kR=>?_
   show⟨_,U,?_⟩
   show aH hx U ?_
   show⟨U,_,U,cJ ?_⟩
   have td:=nt.td sm (aY (.inl rfl))
   show⟨_,U,?_⟩
   show aH hx U ?_
   show⟨_,U,u,D,sm,_,_,U,eu.ek,nt.is,td.1,kn,by lia,agl,fun l1 ko=>?_⟩
   have s2:=af ko (.lst [.int (sm.worth (wB bs ws))])
   have g2:(upd H1 l1 (.lst [.int (sm.worth (wB bs ws))])) l1=some (.lst [.int (sm.worth (wB bs ws))]):=ae
   generalize upd H1 l1 (.lst [.int (sm.worth (wB bs ws))])=H2 at s2 g2 ⊢
   show⟨_,U,?_⟩
   show aH (s2 _ _ hx) U ?_
   show⟨_,U,agn,fun r hr=>?_⟩
   have s3:=af hr (.tup [.ref l1,.int n,.ref wa])
   show qs _ _ _ rfl r l1 wa _ (aa s1 (aa s2 s3)) ae (s3 _ _ g2) (s3 _ _ (s2 _ _ FT))
 | .test c n o,je,nt,qn,qs=>
   obtain⟨u,⟨x,rfl,hx⟩,eu⟩:=je
   show⟨_,U,?_⟩
   show aH hx U ?_
   show⟨U,_,U,aA (by left) (kR _ _ ?_)⟩
   show ak fun Rk kR=>?_
   show⟨_,U,?_⟩
   show aH hx U ?_
   show⟨U,_,U,aA (by left) (kR _ _ ?_)⟩
   show ak fun Rk kR=>?_
   show⟨_,U,?_⟩
   show aH hx U ?_
   show⟨U,_,U,cJ ?_⟩
   have td:=nt.td c (aY (.inl rfl))
   show⟨agk,fun l1 ko=>?_⟩
   have s2:=af ko (.lst [])
   have g2:(upd H1 l1 (.lst [])) l1=some (.lst []):=ae
   generalize upd H1 l1 (.lst [])=H2 at s2 g2 ⊢
   show⟨_,U,_,U,?_⟩
   show aH (s2 _ _ hx) U ?_
   show⟨_,U,u,D,c,_,_,U,EK.keep (ag.tk s2) eu.ek,nt.is,td.1,kn.same s2,by lia,by lia,fun H3 s3=>?_⟩
   have sw:=aa s2 s3
   show .inr ⟨_,U,_,_,U,U,?_⟩
   have fin:∀z:Int,z=(if c.holds (wB bs ws)then n else o)->∀(r:Addr),H3 r=none->Q (.ref r) (upd H3 r (.tup [.ref l1,.int z,.ref wa])):=fun z ez r hr=>by
     have s4:=af hr (.tup [.ref l1,.int z,.ref wa])
     subst ez
     show qs _ _ _ rfl r l1 wa _ (aa s1 (aa sw s4)) ae (s4 _ _ (s3 _ _ g2)) (s4 _ _ (sw _ _ FT))
   have RW:=sw _ _ hx
   cases hh:c.holds (wB bs ws)with
   | true=>show⟨x,_,_,.int n,rfl,rfl,aN.of RW,rfl,_,rfl,agn,fun r hr=>fin n (by rw[hh];rfl) r hr⟩
   | false=>show⟨x,_,_,.int o,rfl,rfl,aN.of RW,rfl,_,rfl,agn,fun r hr=>fin o (by rw[hh];rfl) r hr⟩
 | .put y sm n,je,nt,qn,qs=>
   obtain⟨u,⟨x,rfl,hx⟩,eu⟩:=je
   show⟨_,U,?_⟩
   show aH hx U ?_
   show⟨U,_,U,aA (by left) (kR _ _ ?_)⟩
   show ak fun Rk kR=>?_
   show⟨_,U,?_⟩
   show aH hx U ?_
   show⟨U,_,U,aA (by left) (kR _ _ ?_)⟩
   show ak fun Rk kR=>?_
   show⟨_,U,?_⟩
   show aH hx U ?_
   show⟨U,_,U,aA (by left) (kR _ _ ?_)⟩
   show ak fun Rk kR=>?_
   show⟨agk,fun F0 uu=>?_⟩
   have s2:=af uu (.lst [])
   have g2:(upd H1 F0 (.lst [])) F0=some (.lst []):=ae
   generalize upd H1 F0 (.lst [])=YA at s2 g2 ⊢
   show ai (kR _ _ ?_)
   show aq [some (.ref p),some (.int (j:Int)),some (.ref wa),some (.ref x),some (.ref D),some (.ref F0),none,none,none] U ?_
   show ak fun Rk kR=>?_
   have s12:=aa s1 s2
   have hx2:=s2 _ _ hx
   have ZM:=nt.td _ (aY (.inl rfl))
   have Yb:=nt.td sm (aY (.inr (aY (.inl rfl))))
   show⟨_,U,?_⟩
   show aH (s12 _ _ hp) U ?_
   show⟨_,U,B,wa,U,⟨_,aE.of (s12 _ _ hB)⟩,⟨_,aN.of (s12 _ _ hw)⟩,?_⟩
   show uW (xs:=vb) (ys:=ws.map V.int) (by rw[ZW];lia) (fun i σ H2=>(∃o6 o7 o8,σ=[some (.ref p),some (.int (j:Int)),some (.ref wa),some (.ref x),some (.ref D),some (.ref F0),o6,o7,o8])/\ag H1 H2/\H2 F0=some (.lst (((eZ bs ws y (sm.worth (wB bs ws))).take i).map V.int))) ⟨⟨_,_,_,U⟩,s2,g2⟩ (fun i σ H2 v z=>⟨aE.of (z.2.1 _ _ (s1 _ _ hB)),aN.of (z.2.1 _ _ FT)⟩) (fun i a0 b0 pr σ H2 ha hb z Od=>?_) (fun σ H2 z=>?_)
   . obtain⟨⟨o6,o7,o8,rfl⟩,sx,gF⟩:=z
     have V3:i<vb.length:=(aT ha)
     obtain⟨b,gm,jV,rfl,m7⟩:=Paired.get pb ha
     obtain⟨w0,Lx,rfl⟩:=bG hb
     have CY:=bt.sz b (ZZ gm)
     have hg:=wy (x:=y) (t:=sm.worth (wB bs ws)) gm Lx
     have sp:=af Od (.tup [.ref jV,.int w0])
     have gp:(upd H2 pr (.tup [.ref jV,.int w0])) pr=some (.tup [.ref jV,.int w0]):=ae
     generalize upd H2 pr (.tup [.ref jV,.int w0])=H3 at sp gp ⊢
     have s13:=aa sx sp
     show⟨pr,_,U,aN.of gp,U,_,_,U,⟨jV,_,U,aN.of (s13 _ _ (s1 _ _ m7)),U,_,_,U,_,_,U,U,_,_,U,U,?_⟩⟩
     show aq [some (.ref p),some (.int (j:Int)),some (.ref wa),some (.ref x),some (.ref D),some (.ref F0),some (.str b.1),some (.int b.2),some (.int w0)] U ?_
     show ak fun Rk kR=>?_
     have GR:=sp _ _ gF
     have ll:(((eZ bs ws y (sm.worth (wB bs ws))).take i).map V.int).length<=900:=by rw[ZW,aac,nK bw];lia
     have fin:∀w1:Int,w1=(if b.1=y then sm.worth (wB bs ws)%b.2 else w0)->Rk [some (.ref p),some (.int (j:Int)),some (.ref wa),some (.ref x),some (.ref D),some (.ref F0),some (.str b.1),some (.int b.2),some (.int w1)] H3:=fun w1 e1=>by
       show kR _ _ ?_
       show⟨_,U,.inl ⟨U,_,aE.of GR⟩,_,U,F0,_,_,U,U,GR,aC (by lia),⟨_,_,_,U⟩,av (aa sx sp) uu,?_⟩
       rw[ae,aad,hg,← e1,Z9]
       rfl
     show⟨_,U,_,U,?_⟩
     show aH (s13 _ _ hx) U ?_
     show⟨U,_,U,?_⟩
     show bE (fun c=>?_) (fun c=>?_)
     . have c:b.1=y:=by
         have:=iN c
         injection this
       show⟨_,U,?_⟩
       show aH (s13 _ _ hx) U ?_
       show⟨_,U,u,D,sm,_,_,U,EK.keep (ag.tk s13) eu.ek,nt.is,Yb.1,kn.same s13,by lia,_,U,_,_,U,U,(by change(0:Int)<b.2;lia),?_⟩
       show ai ?_
       show fin _ (by rw[ba c])
     . have c:¬ b.1=y:=fun z=>c (dE (congrArg V.str z))
       show fin _ (by rw[aQ c])
   . obtain⟨⟨o6,o7,o8,rfl⟩,sx,gF⟩:=z
     rw[WI,← nK (x:=y) (t:=sm.worth (wB bs ws)) bw,aag]at gF
     show kR _ _ ?_
     show⟨agk,fun l1 ko=>?_⟩
     have s3:=af ko (.lst [])
     have g3:(upd H2 l1 (.lst [])) l1=some (.lst []):=ae
     generalize upd H2 l1 (.lst [])=H3 at s3 g3 ⊢
     have s13:=aa sx s3
     show⟨_,U,?_⟩
     show aH (s13 _ _ hx) U ?_
     show⟨_,U,F0,_,U,(.inl (.inl (s3 _ _ gF))),fun l2 AB=>?_⟩
     have s4:=af AB (.tup ((eZ bs ws y (sm.worth (wB bs ws))).map V.int))
     have g4:(upd H3 l2 (.tup ((eZ bs ws y (sm.worth (wB bs ws))).map V.int))) l2=some (.tup ((eZ bs ws y (sm.worth (wB bs ws))).map V.int)):=ae
     generalize upd H3 l2 (.tup ((eZ bs ws y (sm.worth (wB bs ws))).map V.int))=H4 at s4 g4 ⊢
     show⟨agn,fun r hr=>?_⟩
     have s5:=af hr (.tup [.ref l1,.int n,.ref l2])
     show qs _ _ _ rfl r l1 l2 _ (aa s1 (aa s13 (aa s4 s5))) ae (s5 _ _ (s4 _ _ g3)) (s5 _ _ g4)
 | .pick y n,je,nt,qn,qs=>show nt.is.elim
def iX (tO:Addr)(H:Hp)(v:V)(sm:Int->V)(e:Int×Int×Str):Prop:=fk tO H v (sm e.1) e
def iX.keep {tO:Addr}{H H':Hp}(k:TK H H'){v:V}{sm:Int->V}{e:Int×Int×Str}(h:iX tO H v sm e):iX tO H' v sm e:=fk.keep k h
structure uE (tO:Addr)(H:Hp)(D:Addr)(sm:Int->V)(lv:List (Int×Int×Str)):Prop where
 ex:∃kvs,H D=some (.dT kvs)/\kvs.length<=lv.length/\(∀(k:List Key) (v:V),aJ kvs k=some v->∃(l:Addr) (xs:List V) (p q:Int),k=[.inl p,.inl q]/\v=.ref l/\H l=some (.lst xs)/\xs≠[]/\xs.length<=lv.length/\∀x∈xs,∃e∈lv,e.1=p/\e.2.1=q/\iX tO H x sm e)/\(∀e∈lv,∃v,aJ kvs [.inl e.1,.inl e.2.1]=some v)/\∀k∈kvs.map (·.1),∃e∈lv,k=[.inl e.1,.inl e.2.1]
def uE.same {tO:Addr}{H H':Hp}{D:Addr}{sm:Int->V}{lv:List (Int×Int×Str)}(s:ag H H')(h:uE tO H D sm lv):uE tO H' D sm lv:=by
 obtain⟨kvs,a,b,c,d,e⟩:=h.ex
 show⟨kvs,s _ _ a,b,fun k v hv=>let⟨l,xs,p,q,e1,e2,e3,e4,e5,e6⟩:=c k v hv;⟨l,xs,p,q,e1,e2,s _ _ e3,e4,e5,fun x hx=>let⟨f,f1,f2,f3,f4⟩:=e6 x hx;⟨f,f1,f2,f3,iX.keep (ag.tk s) f4⟩⟩,d,e⟩
def tV (kvs:List (List Key×V))(k:List Key)(v:V):∀j∈(putK kvs k v).map (·.1),j=k\/j∈kvs.map (·.1):=fun j hj=>by
 cases h:aJ kvs k with
 | none=>
   rw[jB v h,Z9]at hj
   rcases dk hj with z|z
   . show .inr z
   . show .inl (bU z)
 | some u=>
   by_cases e:j=k
   . show .inl e
   . show .inr ?_
     have:(aJ (putK kvs k v) j).isSome:=by
       rw[← b9]
       obtain⟨p,hp,rfl⟩:=bF hj
       show List.any_eq_true.mpr ⟨p,hp,dE rfl⟩
     rw[aW,aQ e]at this
     obtain⟨u2,WG⟩:=Option.isSome_iff_exists.mp this
     show cA WG
def z5 (tO:Addr):Sp:=fun vs H Q z=>∃(P':Addr) (ps:List V) (sm:Int->V) (lv:List (Int×Int×Str)),vs=[.ref P']/\H P'=some (.lst ps)/\Paired (fun v e=>iX tO H v sm e) ps lv/\lv.length<=900/\∀(D:Addr) (H':Hp),ag H H'->H D=none->uE tO H' D sm lv->Q (.ref D) H'
def EW:az ["paper","there","entry"] ["paper"] (aj S0):=cU
def IL {tO:Addr}{f:Addr}{fd:aaa}(F:bQ K "_law_by_places" "_law_by_places" S0 f fd)  : aK P w K mg base bJ 1 f fd ["paper"] (z5 tO):=by
 show F.df EW fun cdv A outer s H vs Q E hr h=>?_
 obtain⟨P0,ps,sm,lv,rfl,hP,pp,l9,q⟩:=h
 have pl:=Paired.length pp
 show cM ⟨_,(aeg (aen 1 EW.nd L3.GF)
   (aeg (aeJ (aeA (Y 0)) (aep 2 EW.nd) (aej (L3.dput (bB hr _ (by left)) (Y 1) (ae7 (Y 2) aef) (aes aeV (L3.qG (bB hr _ (by left)) (Y 1) (ae7 (Y 2) aef) (aeu M)) (aeu (L (Y 2) M))))))
   (aej (aem (Y 1))))),?_⟩
 show ak fun Rk kR=>?_
 show fun D hD=>?_
 have s0:=af hD (.dT [])
 have QW:(upd H D (.dT [])) D=some (.dT []):=ae
 generalize upd H D (.dT [])=H0 at s0 QW ⊢
 show ai (kR _ _ ?_)
 show aq [some (.ref P0),some (.ref D),none] U ?_
 show ak fun Rk kR=>?_
 show⟨_,U,P0,U,⟨_,aE.of (s0 _ _ hP)⟩,?_⟩
 show bC (xs:=ps) (fun i σ Hx=>(∃o2,σ=[some (.ref P0),some (.ref D),o2])/\ag H Hx/\uE tO Hx D sm (lv.take i)) ⟨⟨_,U⟩,s0,⟨[],QW,Z0 _,(fun k v z=>nomatch z),(fun e z=>nomatch z),(fun k z=>nomatch z)⟩⟩ (fun i σ Hx y z=>aE.of (z.2.1 _ _ hP)) (fun i x0 σ Hx hx z=>?_) (fun σ Hx z=>?_)
 . obtain⟨⟨o2,rfl⟩,sx,th⟩:=z
   have cX:i<ps.length:=(aT hx)
   obtain⟨e,he,le⟩:=Paired.get pp hx
   obtain⟨pe,rfl,kq⟩:=iX.keep (ag.tk sx) le
   obtain⟨kvs,gD,kl,c1,c2,c3⟩:=th.ex
   have tl:(lv.take i).length<=900:=by rw[aac];lia
   show ai ?_
   show aq [some (.ref P0),some (.ref D),some (.ref pe)] U ?_
   show⟨_,U,D,U,.inr ⟨_,.inl gD⟩,_,U,_,U,pe,_,U,aN.of kq,?_,fun k1 HK=>?_⟩
   . rintro⟨_,z⟩
     show aB (show HT.bz 5 5 (some 2)=5 from z) (by left)
   rw[qB]
   have sa:=af HK (.tup [.int e.1,.int e.2.1])
   have ga:(upd Hx k1 (.tup [.int e.1,.int e.2.1])) k1=some (.tup [.int e.1,.int e.2.1]):=ae
   generalize upd Hx k1 (.tup [.int e.1,.int e.2.1])=Ha at sa ga ⊢
   show⟨agk,fun l0 oA=>?_⟩
   have sb:=af oA (.lst [])
   have gb:(upd Ha l0 (.lst [])) l0=some (.lst []):=ae
   generalize upd Ha l0 (.lst [])=Hb at sb gb ⊢
   have sxb:=aa sa sb
   show⟨_,dv.t (k:=[.inl e.1,.inl e.2.1]) (sxb _ _ gD) (sb _ _ ga),?_⟩
   obtain⟨lx,xs,ex,Lq,ZU,hxs⟩ : ∃(lx:Addr) (xs:List V),(aJ kvs [.inl e.1,.inl e.2.1]).getD (.ref l0)=.ref lx/\Hb lx=some (.lst xs)/\xs.length<=(lv.take i).length/\∀x∈xs,∃f∈lv.take i,f.1=e.1/\f.2.1=e.2.1/\iX tO Hb x sm f:=by
     cases hv:aJ kvs [.inl e.1,.inl e.2.1]with
     | none=>show⟨l0,[],rfl,gb,aan _,fun x z=>nomatch z⟩
     | some v=>
       obtain⟨l,xs,p,q,e1,rfl,e3,e4,e5,e6⟩:=c1 _ _ hv
       injection e1 with e1 e2
       injection e2 with e2 _
       injection e1 with e1
       injection e2 with e2
       subst e1 e2
       show⟨l,xs,U,sxb _ _ e3,e5,fun x hx=>let⟨f,f1,f2,f3,f4⟩:=e6 x hx;⟨f,f1,f2,f3,iX.keep (ag.tk sxb) f4⟩⟩
   rw[ex]
   show⟨_,U,agl,fun l1 ko=>?_⟩
   have sc:=af ko (.lst [.ref pe])
   have gc:(upd Hb l1 (.lst [.ref pe])) l1=some (.lst [.ref pe]):=ae
   generalize upd Hb l1 (.lst [.ref pe])=Hc at sc gc ⊢
   have big:1000<=sizeLine:=by left
   show⟨lx,l1,xs,_,U,U,sc _ _ Lq,gc,(by change xs.length+1<=sizeLine;lia),fun l2 AB=>?_⟩
   have sd:=af AB (.lst (xs++[.ref pe]))
   have gd:(upd Hc l2 (.lst (xs++[.ref pe]))) l2=some (.lst (xs++[.ref pe])):=ae
   generalize upd Hc l2 (.lst (xs++[.ref pe]))=Hd at sd gd ⊢
   have Tg:=aa sc sd
   have sxd:=aa sxb Tg
   show⟨_,U,_,U,_,U,pe,_,U,aN.of (sxd _ _ kq),?_,fun k2 V8=>?_⟩
   . rintro⟨_,z⟩
     show aB (show HT.bz 5 5 (some 2)=5 from z) (by left)
   rw[qB]
   have se:=af V8 (.tup [.int e.1,.int e.2.1])
   have ge:(upd Hd k2 (.tup [.int e.1,.int e.2.1])) k2=some (.tup [.int e.1,.int e.2.1]):=ae
   generalize upd Hd k2 (.tup [.int e.1,.int e.2.1])=He at se ge ⊢
   have sxe:=aa sxd se
   have MZ:=sxe _ _ gD
   show⟨D,_,U,iW.t (k:=[.inl e.1,.inl e.2.1]) MZ ge (aC (by lia)),⟨_,U⟩,av (aa sx sxe) hD,?_⟩
   have iq:TK He (upd He D (.dT (putK kvs [.inl e.1,.inl e.2.1] (.ref l2)))):=fun b ys e=>by rw[au (bX e MZ (fun z=>nomatch z))];show e
   have L9:lv.take (i+1)=lv.take i++[e]:=by rw[aad,he];rfl
   have ne:∀(a:Addr) (ys:List V),He a=some (.lst ys)->(upd He D (.dT (putK kvs [.inl e.1,.inl e.2.1] (.ref l2)))) a=some (.lst ys):=fun a ys h=>by
     rw[au (fun z=>by subst z;rw[MZ]at h;cases h)]
     show h
   rw[L9]
   have inl:∀f∈lv.take i,f∈lv.take i++[e]:=fun f hf=>iz (.inl hf)
   show⟨_,ae,?_,fun k v hv=>?_,fun f hf=>?_,fun k hk=>?_⟩
   . have:=bj kvs [.inl e.1,.inl e.2.1] (.ref l2)
     rw[Z1]
     change _<=_+1
     lia
   . rw[aW]at hv
     split at hv
     . rename_i ek
       cases hv
       show⟨l2,_,e.1,e.2.1,ek,U,ne _ _ (se _ _ gd),fun z=>aB (congrArg adl z) (by rw[Z1];change ¬ (_+1=0);lia),?_,fun x hx=>?_⟩
       . rw[Z1,Z1]
         change _+1<=_+1
         lia
       . rcases dk hx with z|z
         . obtain⟨f,f1,f2,f3,f4⟩:=hxs x z
           show⟨f,inl f f1,f2,f3,iX.keep iq (iX.keep (ag.tk (aa Tg se)) f4)⟩
         . rw[bU z]
           show⟨e,iz (.inr (List.mem_singleton.mpr rfl)),U,U,iX.keep iq ⟨pe,U,sxe _ _ kq⟩⟩
     . obtain⟨l,ys,p,q,e1,e2,e3,e4,e5,e6⟩:=c1 _ _ hv
       show⟨l,ys,p,q,e1,e2,ne _ _ (sxe _ _ e3),e4,by rw[Z1];lia,fun x hx=>?_⟩
       obtain⟨f,f1,f2,f3,f4⟩:=e6 x hx
       show⟨f,inl f f1,f2,f3,iX.keep iq (iX.keep (ag.tk sxe) f4)⟩
   . rw[aW]
     split
     . show⟨_,U⟩
     . rename_i nk
       rcases dk hf with z|z
       . show c2 f z
       . rw[bU z]at nk
         show aB rfl nk
   . rcases tV _ _ _ k hk with z|z
     . show⟨e,iz (.inr (List.mem_singleton.mpr rfl)),z⟩
     . obtain⟨f,f1,f2⟩:=c3 k z
       show⟨f,inl f f1,f2⟩
 . obtain⟨⟨o2,rfl⟩,sx,th⟩:=z
   rw[pl,aag]at th
   show kR _ _ ?_
   show⟨_,U,q D _ sx hD th⟩
def iZ (bs:ao)(ws:List Int):Prop:=Paired (fun b w=>0<=w/\w<b.2) bs ws
def iZ.len {bs:ao}{ws:List Int}(h:iZ bs ws):bs.length=ws.length:=Paired.length h
theorem iZ.put {x:Str}{t:Int}:∀{bs:ao} {ws:List Int},iZ bs ws->(∀b∈bs,1<=b.2)->iZ bs (eZ bs ws x t)
 | [],_,.nil,_=>.nil
 | b::bs,w::ws,.cons h r,z=>by
   show .cons ?_ (iZ.put r fun c hc=>z c (aY (.inr hc)))
   have hb:=z b (aY (.inl rfl))
   change 0<=(if b.1=x then t%b.2 else w)/\(if b.1=x then t%b.2 else w)<b.2
   split
   . show⟨adB _ (by lia),ac1 _ (by lia)⟩
   . show h
def xm {bs:ao}{ws:List Int}(hl:iZ bs ws)(hz:∀b∈bs,1<=b.2):∀{a:Np} {s n ws'},ip bs ws a=some (s,n,ws')->iZ bs ws'
 | .put x s n,_,_,_,h=>by cases h;show hl.put hz
 | .say s n,_,_,_,h=>by cases h;show hl
 | .test c n o,_,_,_,h=>by cases h;show hl
 | .pick x n,_,_,_,h=>by cases h;show hl
structure xH (K:ZV)(H:Hp)(sm:Int->V)(se:Int->E)(bs:ao)(lv:List (Int×Int×Str))(R:Int->List Int->List Int->Prop):Prop where
 ek:∀f∈lv,EK K H (sm f.1) (se f.1)
 is:∀f∈lv,(se f.1).lJ
 ok:∀f∈lv,(se f.1).okIn (P2 bs)
 dp:∀f∈lv,(se f.1).dep<20
 iff:∀f∈lv,∀ms ys:List Int,iZ bs ms->iZ bs ys->((se f.1).holds (W2 bs ms ys)=true↔R f.1 ms ys)
def xH.same {K:ZV}{H H':Hp}{sm:Int->V}{se:Int->E}{bs:ao}{lv:List (Int×Int×Str)}{R:Int->List Int->List Int->Prop}(s:ag H H')(h:xH K H sm se bs lv R):xH K H' sm se bs lv R:=⟨fun f hf=>EK.keep (ag.tk s) (h.ek f hf),h.is,h.ok,h.dp,h.iff⟩
def ue (K:ZV)(tO:Addr):Sp:=fun vs H Q z=>∃(D d:Addr) (p q:Int) (sm:Int->V) (se:Int->E) (lv:List (Int×Int×Str)) (bs:ao) (R:Int->List Int->List Int->Prop) (W:Str->Str->Int),vs=[.ref D,.int p,.int q,.ref d]/\uE tO H D sm lv/\lv.length<=900/\xH K H sm se bs lv R/\Kn H d (P2 bs) W /\
 ((se p).holds W=true->∀(x:V) (e:Int×Int×Str) (H':Hp),ag H H'->e∈lv->e.1=p->e.2.1=q->iX tO H' x sm e->Q x H')/\(((se p).holds W=false\/∀e∈lv,e.1=p->e.2.1=q->False)->∀H',ag H H'->Q .br H')
def JZ:az ["there","p","q","known","entry"] ["there","p","q","known"] (aj S2):=cU
def IQ {tO:Addr}{f:Addr}{fd:aaa}(F:bQ K "_law_counting" "_law_counting" S2 f fd)(HO:aO P w K mg base "_law_holds" ["told","known"] 51 (nY K 20)):aK P w K mg base bJ 52 f fd ["there","p","q","known"] (ue K tO):=by
 show F.df JZ fun cdv A outer s H vs Q E hr h=>?_
 obtain⟨D,d,p,q,sm,se,lv,bs,R,W,rfl,th,l9,cn,kn,q1,q0⟩:=h
 show cM ⟨_,(aeg (aeJ (aeA (L3.qG (bB hr _ (by left)) (Y 0) (aet (L (Y 1) (L (Y 2) M))) (aeu M))) (aep 4 JZ.nd) (aej (aeq (aeG (aek HO hr U (L (aeh aei (Y 4) aef) (L (Y 3) M)))) (aej (aem (Y 4))) aer)))
   (aej (aem aeL))),?_⟩
 show ak fun Rk kR=>?_
 obtain⟨kvs,gD,kl,c1,c2,c3⟩:=th.ex
 show⟨_,U,D,U,.inr ⟨_,.inl gD⟩,_,U,_,U,agm,fun k1 HK=>?_⟩
 have sa:=af HK (.tup [.int p,.int q])
 have ga:(upd H k1 (.tup [.int p,.int q])) k1=some (.tup [.int p,.int q]):=ae
 generalize upd H k1 (.tup [.int p,.int q])=Ha at sa ga ⊢
 show⟨agk,fun l0 oA=>?_⟩
 have sb:=af oA (.lst [])
 have gb:(upd Ha l0 (.lst [])) l0=some (.lst []):=ae
 generalize upd Ha l0 (.lst [])=Hb at sb gb ⊢
 have sxb:=aa sa sb
 show⟨_,dv.t (k:=[.inl p,.inl q]) (sxb _ _ gD) (sb _ _ ga),?_⟩
 obtain⟨lx,xs,ex,Lq,hxs,hne⟩ : ∃(lx:Addr) (xs:List V),(aJ kvs [.inl p,.inl q]).getD (.ref l0)=.ref lx/\Hb lx=some (.lst xs)/\(∀x∈xs,∃f∈lv,f.1=p/\f.2.1=q/\iX tO Hb x sm f)/\(xs=[]->∀e∈lv,e.1=p->e.2.1=q->False):=by
   cases hv:aJ kvs [.inl p,.inl q]with
   | none=>
     show⟨l0,[],U,gb,(fun x z=>nomatch z),fun y e he e1 e2=>?_⟩
     obtain⟨v,z⟩:=c2 e he
     rw[e1,e2,hv]at z
     cases z
   | some v=>
     obtain⟨l,xs,p',q',e1,rfl,e3,e4,e5,e6⟩:=c1 _ _ hv
     injection e1 with e1 e2
     injection e2 with e2 _
     injection e1 with e1
     injection e2 with e2
     subst e1 e2
     show⟨l,xs,U,sxb _ _ e3,(fun x hx=>let⟨f,f1,f2,f3,f4⟩:=e6 x hx;⟨f,f1,f2,f3,iX.keep (ag.tk sxb) f4⟩),fun z=>aB z e4⟩
 rw[ex]
 show⟨lx,U,⟨_,aE.of Lq⟩,?_⟩
 show bC (xs:=xs) (fun i σ Hx=>(∃o4,σ=[some (.ref D),some (.int p),some (.int q),some (.ref d),o4])/\ag Hb Hx/\(i=0\/(se p).holds W=false)) ⟨⟨_,U⟩,same_refl _,.inl rfl⟩ (fun i σ Hx y z=>aE.of (z.2.1 _ _ Lq)) (fun i x0 σ Hx hx z=>?_) (fun σ Hx z=>?_)
 . obtain⟨⟨o4,rfl⟩,sx,_⟩:=z
   obtain⟨f,f1,f2,f3,f4⟩:=hxs x0 (ZZ hx)
   obtain⟨pe,rfl,kq⟩:=f4
   have sH:=aa sxb sx
   show ai ?_
   show aq [some (.ref D),some (.int p),some (.int q),some (.ref d),some (.ref pe)] U ?_
   show⟨_,U,?_⟩
   show aH (sx _ _ kq) U ?_
   show⟨_,U,sm f.1,d,se f.1,_,W,U,EK.keep (ag.tk sH) (cn.ek f f1),cn.is f f1,cn.ok f f1,kn.same sH,cn.dp f f1,by lia,fun H2 s2=>⟨_,U,?_⟩⟩
   have UY:se f.1=se p:=by rw[f2]
   rw[UY]
   cases hh:(se p).holds W with
   | true=>
     show cJ ?_
     show⟨_,U,q1 hh _ f _ (aa sH s2) f1 f2 f3 ⟨pe,U,s2 _ _ (sx _ _ kq)⟩⟩
   | false=>
     show d6 ?_
     show⟨⟨_,U⟩,aa sx s2,.inr rfl⟩
 . obtain⟨⟨o4,rfl⟩,sx,ho⟩:=z
   show kR _ _ ?_
   show q0 ?_ _ (aa sxb sx)
   rcases ho with ho|ho
   . show .inr (hne (List.length_eq_zero_iff.mp ho))
   . show .inl ho
def Mv {x qual:Str}{st:Stmt}{f:Addr}{fd:aaa}{p0 p1 p2 p3 p4 p5 p6:Str}(F:bQ K x qual st f fd)(h:∀(kV doc pm:Value) (an:Option Addr) (cdv ct u0 u1 u2 u3 u4 u5 u6:Value),adf (aaZ x qual (cu st) (bP st) (aj st) .none kV doc pm an cdv ct) ⟨[u0,u1,u2,u3,u4,u5,u6],[]⟩=pure (([p0,p1,p2,p3,p4,p5,p6]:List Str).zip [u0,u1,u2,u3,u4,u5,u6])):Binds K fd [p0,p1,p2,p3,p4,p5,p6] []:=F.binds fun kV doc pm an cdv ct us hl=>by
 obtain⟨u0,Mb,rfl,h1⟩:=eD hl
 obtain⟨u1,PZ,rfl,h2⟩:=eD h1
 obtain⟨u2,TY,rfl,h3⟩:=eD h2
 obtain⟨u3,Yk,rfl,h4⟩:=eD h3
 obtain⟨u4,ZO,rfl,h5⟩:=eD h4
 obtain⟨u5,ZP,rfl,h6⟩:=eD h5
 obtain⟨u6,ZQ,rfl,h7⟩:=eD h6
 cases List.length_eq_zero_iff.mp h7
 show h kV doc pm an cdv ct u0 u1 u2 u3 u4 u5 u6
abbrev Tb:Stmt:=top 47
structure x5 (bs:ao)(nds nds':List Np)(lv:List (Int×Int×Str))(R:Int->List Int->List Int->Prop):Prop where
 hat:∀e∈lv,∃(p q:Nat) (a a':Np),e.1=(p:Int)/\e.2.1=(q:Int)/\nds[p]?=some a/\nds'[q]?=some a'/\e.2.2=a.hd/\(a.hd="end"->a'=.fin)/\(a.hd≠"end"->∀ms ys,R e.1 ms ys->∃s n n' qQ rR,ip bs ms a=some (s,n,qQ)/\ip bs ys a'=some (s,n',rR)/\R n qQ rR/\∃f∈lv,f.1=n/\f.2.1=n')
 zero:∃f∈lv,f.1=0/\f.2.1=0
 rng:∀p ms ys,R p ms ys->iZ bs ms/\iZ bs ys
 beg:∀ms,iZ bs ms->R 0 ms ms
structure xJ (K:ZV)(tO:Addr)(H:Hp)(p1 p2 D:Addr)(sm:Int->V)(se:Int->E)(bs:ao)(nds nds':List Np)(lv:List (Int×Int×Str))(R:Int->List Int->List Int->Prop):Prop where
 g1:rV H p1 bs nds
 g2:rV H p2 bs nds'
 nt:∀e∈nds,BX (bs.map (·.1)) e
 nt2:∀e∈nds',BX (bs.map (·.1)) e
 th:uE tO H D sm lv
 l9:lv.length<=900
 cn:xH K H sm se bs lv R
 sim:x5 bs nds nds' lv R
 bt:Gg bs
def xJ.same {K:ZV}{tO:Addr}{H H':Hp}{p1 p2 D:Addr}{sm:Int->V}{se:Int->E}{bs:ao}{nds nds':List Np}{lv:List (Int×Int×Str)}{R:Int->List Int->List Int->Prop}(s:ag H H')(h:xJ K tO H p1 p2 D sm se bs nds nds' lv R):xJ K tO H' p1 p2 D sm se bs nds nds' lv R:=
 ⟨h.g1.same s,h.g2.same s,h.nt,h.nt2,h.th.same s,h.l9,h.cn.same s,h.sim,h.bt⟩
def V.dN (a:Addr):decide (V.ref a=V.br)=false:=eX fun z=>nomatch z
def z6 (K:ZV)(tO:Addr):Sp:=fun vs H Q z=>∃(p1 p2 D wa wb kn:Addr) (x:V) (sm:Int->V) (se:Int->E) (bs:ao) (nds nds':List Np) (lv:List (Int×Int×Str)) (R:Int->List Int->List Int->Prop) (e:Int×Int×Str) (ms ys:List Int) (W:Str->Str->Int),vs=[.ref p1,.ref p2,.ref D,x,.ref wa,.ref wb,.ref kn]/\xJ K tO H p1 p2 D sm se bs nds nds' lv R/\e∈lv/\iX tO H x sm e/\H wa=some (.tup (ms.map V.int))/\H wb=some (.tup (ys.map V.int))/\R e.1 ms ys/\Kn H kn (P2 bs) W/\∀H',ag H H'->Q (.bl true) H'
def gS:az ["one","other","there_are","entry","mine","yours","known","p","q","condition","who","wait","left","here","there","later"] ["one","other","there_are","entry","mine","yours","known"] (aj Tb):=cU
def Ja {tO:Addr}{f:Addr}{fd:aaa}(F:bQ K "_law_well" "_law_well" Tb f fd)(hO:∀H,aN K H tO [.str "number",.int 0])(BN0:aO P w K mg base "_law_by_names" ["program","word","worths"] 1 ud)(WO0:aO P w K mg base "_law_worth_of" ["told","known"] 31 (jI K 30))(ST:aO P w K mg base "_law_step" ["program","place","worths"] 52 E9)(CT:aO P w K mg base "_law_counting" ["there","p","q","known"] 52 (ue K tO)):aK P w K mg base bJ 53 f fd ["one","other","there_are","entry","mine","yours","known"] (z6 K tO):=by
 show F.df gS fun cdv A outer s H vs Q E hr h=>?_
 obtain⟨p1,p2,D,wa,wb,kn,x,sm,se,bs,nds,nds',lv,R,e,ms,ys,W,rfl,st,VZ,le,RU,RV,hR,hk,q⟩:=h
 obtain⟨pe,rfl,kq⟩:=le
 have WO:=WO0.mono (show 31<=52 by lia)
 have BN:=BN0.mono (show 1<=52 by lia)
 obtain⟨p,p',a,a',ep,ep',ha,hb,eh,NM,HW⟩:=st.sim.hat e VZ
 have na:=st.nt a (ZZ ha)
 have nb:=st.nt2 a' (ZZ hb)
 have hl:=(st.sim.rng _ _ _ hR).1.len
 have AB:=(st.sim.rng _ _ _ hR).2.len
 have l4:=st.bt.l4
 rw[ep,ep']at kq
 show cM ⟨_,(aeg (aeM (Y 3) (aeC 5 (aev (aep 7 gS.nd) (aev (aep 8 gS.nd) (aev (aep 9 gS.nd) (aev (aep 10 gS.nd) (aev (aep 11 gS.nd) aeB)))))))
   (aeg (aen 12 gS.nd (aek WO hr U (L (Y 11) (L (Y 6) M))))
   (aeg (aen 13 gS.nd (aek ST hr U (L (Y 0) (L (Y 7) (L (Y 4) M)))))
   (aeg (aen 14 gS.nd (aek ST hr U (L (Y 1) (L (Y 8) (L (Y 5) M)))))
   (aeg (aeq (aeF (aeI (aeo aeU (Y 12) aef) (aeP (aeo aew (Y 10) ael)))) (aej (aem (ae4 (aeK L3.Dx (Y 12) aef) (ae4 (aeK aeZ (Y 13) aeL) (aeY (aeK aeZ (Y 14) aeL)))))) aer)
   (aeg (aeq (aeF (ae1 (aeo aew (Y 10) ael) (ae2 (aeF (aeI (aeo aeZ (Y 13) aeL) (aeI (aeo aeZ (Y 14) aeL) (aeP (aeo (L3.kF (m:=2) (bB hr _ (by left))) (aeh aei (Y 13) aef) (aeh aei (Y 14) aef))))))))) (aej (aem aez)) aer)
   (aeg (aeq (aeo aew (Y 10) ael) (aeg (aen 14 gS.nd (aet (L (aeu M) (L (Y 8) (L (Y 5) M)))))
   (aej (aeq (aeF (aeI (aeo aeZ (Y 13) aeL) (aeP (aeo (L3.kF (m:=2) (bB hr _ (by left))) (aeh aei (Y 13) aef) (aeu M))))) (aej (aem aez)) aer))) aer)
   (aeg (aeq (aeo aew (Y 10) ael) (aeg (aen 13 gS.nd (aet (L (aeu M) (L (Y 7) (L (Y 4) M)))))
   (aej (aeq (aeF (aeI (aeo aeZ (Y 14) aeL) (aeP (aeo (L3.kF (m:=2) (bB hr _ (by left))) (aeh aei (Y 14) aef) (aeu M))))) (aej (aem aez)) aer))) aer)
   (aeg (aen 6 gS.nd (aek BN hr U (L (Y 0) (L ael (L (aeh aei (Y 13) aef) M)))))
   (aeg (aeQ (afy (bB hr _ (by left)) (Y 6) (aek BN hr U (L (Y 1) (L ael (L (aeh aei (Y 14) aef) M))))))
   (aeg (aen 15 gS.nd (aek CT hr U (L (Y 2) (L (aeh aei (Y 13) aef) (L (aeh aei (Y 14) aef) (L (Y 6) M))))))
   (aej (aem (ae4 (aeK L3.pE (Y 15) aeL) (aeY (L3.Jj (aeK aew (Y 10) ael) (aeY (aeK aeU (aek WO hr U (L (aeh aei (Y 15) aef) (L (Y 6) M))) (Y 12))))))))))))))))))),?_⟩
 show ak fun Rk kR=>?_
 show⟨_,U,pe,_,U,aN.of kq,U,_,_,U,_,_,U,_,_,U,_,_,U,_,_,U,U,?_⟩
 show kR _ _ ?_
 generalize jg:(if e.2.2="end" then "end" else "both":Str)=Gb
 show aq [some (.ref p1),some (.ref p2),some (.ref D),some (.ref pe),some (.ref wa),some (.ref wb),some (.ref kn),some (.int (p:Int)),some (.int (p':Int)),some (sm (p:Int)),some (.str Gb),some (.ref tO),none,none,none,none] U ?_
 show ak fun Rk kR=>?_
 show⟨_,U,_,U,.ref tO,kn,.num 0,_,W,U,⟨tO,U,.inr hO⟩,trivial,(by change(0:Int).natAbs<2^100;decide),hk,(by change 0<30;lia),?_⟩
 show ai (kR _ _ ?_)
 show aq [some (.ref p1),some (.ref p2),some (.ref D),some (.ref pe),some (.ref wa),some (.ref wb),some (.ref kn),some (.int (p:Int)),some (.int (p':Int)),some (sm (p:Int)),some (.str Gb),some (.ref tO),some (.int 0),none,none,none] U ?_
 show ak fun Rk kR=>?_
 have g1:=st.g1
 have g2:=st.g2
 by_cases he:a.hd="end"
 . have ea:a=.fin:=by
     cases a with
     | fin=>rfl
     | put _ _ _=>show aB (show("put":Str)="end" from he) (by left)
     | say _ _=>show aB (show("say":Str)="end" from he) (by left)
     | test _ _ _=>show aB (show("test":Str)="end" from he) (by left)
     | pick _ _=>show aB (show("pick":Str)="end" from he) (by left)
   subst ea
   have UT:=NM he
   subst UT
   rw[eh,ba he]at jg
   subst jg
   show⟨_,U,_,U,_,U,p1,wa,p,bs,nds,ms,.fin,U,g1,ha,na,RU,hl,st.bt,fun v H1 s1=>?_,fun v v v z=>nomatch z⟩
   show ai (kR _ _ ?_)
   show aq [some (.ref p1),some (.ref p2),some (.ref D),some (.ref pe),some (.ref wa),some (.ref wb),some (.ref kn),some (.int (p:Int)),some (.int (p':Int)),some (sm (p:Int)),some (.str ("end")),some (.ref tO),some (.int 0),some .br,none,none] U ?_
   show ak fun Rk kR=>?_
   show⟨_,U,_,U,_,U,p2,wb,p',bs,nds',ys,.fin,U,g2.same s1,hb,nb,s1 _ _ RV,AB,st.bt,fun v H2 s2=>?_,fun v v v z=>nomatch z⟩
   show ai (kR _ _ ?_)
   show aq [some (.ref p1),some (.ref p2),some (.ref D),some (.ref pe),some (.ref wa),some (.ref wb),some (.ref kn),some (.int (p:Int)),some (.int (p':Int)),some (sm (p:Int)),some (.str ("end")),some (.ref tO),some (.int 0),some .br,some .br,none] U ?_
   show ak fun Rk kR=>?_
   show⟨_,U,_,_,U,U,_,U,aA (by left) ⟨_,U,U,_,U,?_⟩⟩
   show cJ ?_
   show⟨_,U,_,_,U,U,_,U,aM (by left) ⟨_,U,U,_,U,aM (by left) ⟨_,U,U,?_⟩⟩⟩
   rw[dE (show V.br=V.br from rfl)]
   show q _ (aa s1 s2)
 . rw[eh,aQ he]at jg
   subst jg
   obtain⟨sd,n,n',qQ,rR,vj,hs2,Lm,f1,RG,en,U8⟩:=HW he ms ys hR
   have zP:=st.sim.rng _ _ _ Lm
   have xP:=zP.1.len
   have yx:=zP.2.len
   show⟨_,U,_,U,_,U,p1,wa,p,bs,nds,ms,a,U,g1,ha,na,RU,hl,st.bt,(fun z=>by rw[vj]at z;cases z),fun s0 n0 w0 z r l1 l2 H1 s1 gr Cq xN=>?_⟩
   rw[vj]at z
   cases z
   show ai (kR _ _ ?_)
   show aq [some (.ref p1),some (.ref p2),some (.ref D),some (.ref pe),some (.ref wa),some (.ref wb),some (.ref kn),some (.int (p:Int)),some (.int (p':Int)),some (sm (p:Int)),some (.str ("both")),some (.ref tO),some (.int 0),some (.ref r),none,none] U ?_
   show ak fun Rk kR=>?_
   show⟨_,U,_,U,_,U,p2,wb,p',bs,nds',ys,a',U,g2.same s1,hb,nb,s1 _ _ RV,AB,st.bt,(fun z=>by rw[hs2]at z;cases z),fun s0 n0 w0 z r' Zu W7 H2 s2 Nj M9 Na=>?_⟩
   rw[hs2]at z
   cases z
   show ai (kR _ _ ?_)
   show aq [some (.ref p1),some (.ref p2),some (.ref D),some (.ref pe),some (.ref wa),some (.ref wb),some (.ref kn),some (.int (p:Int)),some (.int (p':Int)),some (sm (p:Int)),some (.str ("both")),some (.ref tO),some (.int 0),some (.ref r),some (.ref r'),none] U ?_
   show ak fun Rk kR=>?_
   have s12:=aa s1 s2
   replace gr:=s2 _ _ gr
   replace Cq:=s2 _ _ Cq
   replace xN:=s2 _ _ xN
   show⟨_,U,_,_,U,U,_,U,aA (by left) ⟨_,U,U,_,U,aA (by left) (kR _ _ ?_)⟩⟩
   show ak fun Rk kR=>?_
   show⟨_,U,U,_,U,aM (by left) ⟨_,U,U,_,U,?_⟩⟩
   rw[V.dN]
   show d6 ⟨_,U,U,_,U,?_⟩
   rw[V.dN]
   show d6 ⟨_,U,r,_,_,_,U,U,aN.of gr,U,_,U,r',_,_,_,U,U,aN.of Nj,U,true,RB.lst (aE.of Cq) (aE.of M9) rfl (fun j x y hx hy=>?_),_,U,d6 (kR _ _ ?_)⟩
   . rw[hx]at hy
     cases hy
     obtain⟨i0,_,rfl⟩:=bG hx
     show ET.refl (.inl rfl)
   show ak fun Rk kR=>?_
   show⟨_,U,U,_,U,aA (by left) (kR _ _ ?_)⟩
   show ak fun Rk kR=>?_
   show⟨_,U,U,_,U,aA (by left) (kR _ _ ?_)⟩
   show ak fun Rk kR=>?_
   obtain⟨B,I,N,vb,hp,hB,pb⟩:=(g1.bx.same s12).ex
   obtain⟨B2,I2,N2,Ga,eY,xO,FZ⟩:=(g2.bx.same s12).ex
   show⟨_,U,_,U,?_⟩
   show aH gr U ?_
   show⟨p1,B,I,N,l2,"mine",vb,bs,qQ,U,hp,hB,pb,xN,xP,by lia,fun D1 H3 s3 nD gD=>?_⟩
   show ai (kR _ _ ?_)
   show aq [some (.ref p1),some (.ref p2),some (.ref D),some (.ref pe),some (.ref wa),some (.ref wb),some (.ref D1),some (.int (p:Int)),some (.int (p':Int)),some (sm (p:Int)),some (.str ("both")),some (.ref tO),some (.int 0),some (.ref r),some (.ref r'),none] U ?_
   show ak fun Rk kR=>?_
   show⟨_,U,D1,U,.inr ⟨_,.inl gD⟩,_,U,_,U,?_⟩
   show aH (s3 _ _ Nj) U ?_
   show⟨p2,B2,I2,N2,W7,"yours",Ga,bs,rR,U,s3 _ _ eY,s3 _ _ xO,(Paired.aV FZ fun v v z=>Tp.keep (ag.tk s3) z),s3 _ _ Na,yx,(by lia),fun D2 H4 s4 Dt mD=>?_⟩
   have DD:D1≠D2:=ar gD Dt
   have k1:=dt (word:="mine") bs qQ xP
   have k2:=dt (word:="yours") bs rR yx
   have Ar:=s4 _ _ gD
   have n1:=eP (word:="mine") bs qQ xP st.bt.nd
   have n2:=eP (word:="yours") bs rR yx st.bt.nd
   rw[n1]at Ar
   rw[n2]at mD
   show⟨D2,_,_,U,Ar,mD,DD,(by cases bs with|nil=>show .inr rfl|cons b r=>cases qQ with|nil=>simp at xP|cons m r2=>show .inl (fun z=>nomatch z)),?_,?_⟩
   . have:1000<=sizeLine:=by left
     lia
   have s24:=av (o:=.dT (putAllT (fc "mine" bs qQ) (fc "yours" bs rR))) (aa s3 s4) nD
   have kn2:=lM (H:=upd H4 D1 (.dT (putAllT (fc "mine" bs qQ) (fc "yours" bs rR)))) (D:=D1) st.bt.nd xP yx (by rw[n1];show ae)
   generalize upd H4 D1 (.dT (putAllT (fc "mine" bs qQ) (fc "yours" bs rR)))=H5 at s24 kn2 ⊢
   show kR _ _ ?_
   show ak fun Rk kR=>?_
   have SK:=aa s12 s24
   have jX:=st.same SK
   have hh:(se n).holds (W2 bs qQ rR)=true:=by
     have:=(st.cn.iff f1 RG qQ rR zP.1 zP.2).mpr (by rw[en];show Lm)
     rw[en]at this
     show this
   show⟨_,U,_,U,?_⟩
   show aH (s24 _ _ gr) U ?_
   show⟨_,U,?_⟩
   show aH (s24 _ _ Nj) U ?_
   show⟨_,U,D,D1,n,n',sm,se,lv,bs,R,_,U,jX.th,st.l9,jX.cn,kn2,fun v x6 e6 H6 s6 yw v v uy=>?_,fun z=>?_⟩
   . obtain⟨Eb,rfl,CU⟩:=uy
     show ai (kR _ _ ?_)
     show⟨_,U,U,_,U,?_⟩
     rw[V.dN]
     show cJ ?_
     show⟨_,U,U,_,U,aM (by left) ?_⟩
     show q _ (aa SK s6)
   . rcases z with z|z
     . rw[hh]at z
       cases z
     . show(z f1 RG en U8).elim
abbrev S5:Stmt:=top 51
abbrev Pg:Stmt:=top 44
abbrev Pk:Stmt:=top 43
def E7 (tO:Addr):Sp:=fun vs H Q z=>∃(p1 p2 B I N B2 I2 N2:Addr) (x sm:V) (vn xD:List V) (e:Int×Int×Str),vs=[.ref p1,.ref p2,x]/\H p1=some (.tup [.ref B,.ref I,.ref N])/\H p2=some (.tup [.ref B2,.ref I2,.ref N2])/\H N=some (.lst vn)/\H N2=some (.lst xD)/\fk tO H x sm e/\0<=e.1/\e.1<(vn.length:Int)/\0<=e.2.1/\e.2.1<(xD.length:Int)/\∀H',ag H H'->Q (.bl true) H'
def J1:az ["one","other","entry","number"] ["one","other","entry"] (aj S5):=cU
def IV {tO:Addr}{f:Addr}{fd:aaa}(F:bQ K "_law_is_entry" "_law_is_entry" S5 f fd)(m_isinstance:mg "isinstance"=none)(m_len:mg "len"=none)(m_bool:mg "bool"=none)(m_int:mg "int"=none)(m_str:mg "str"=none)(m_tuple:mg "tuple"=none):aK P w K mg base bJ 1 f fd ["one","other","entry"] (E7 tO):=by
 show F.df J1 fun cdv A outer s H vs Q E hr h=>?_
 obtain⟨p1,p2,B,I,N,B2,I2,N2,x,sm,vn,xD,e,rfl,hp,eY,hN,Nt,le,z1,z2,z3,z4,q⟩:=h
 obtain⟨pe,rfl,kq⟩:=le
 generalize jg:(if e.2.2="end" then "end" else "both":Str)=Gb at kq
 have wh:Gb="end"\/Gb="both":=by
   rw[← jg]
   split
   . show .inl rfl
   . show .inr rfl
 show cM ⟨_,(aeg (aeq (aeF (aeI (aeR (aeG (aex ae8 U m_isinstance (by right) (L (Y 2) (L (ae9 (w:=.ty "tuple") U m_tuple (by right) rfl) M))))) (aeI (aeo aeX (aex aeD U m_len aah (L (Y 2) M)) aef) (aeP (aeR (aeG (aex ae8 U m_isinstance (by right) (L (aeh aei (Y 2) aef) (L (ae9 (w:=.ty "str") U m_str (by right) rfl) M))))))))) (aej (aem aez)) aer)
   (aeg (aeJ (L3.iT (ae7 (Y 2) aef)) (aep 3 J1.nd) (aej (aeq (aeF (aeI (aeR (aeG (aex ae8 U m_isinstance (by right) (L (Y 3) (L (ae9 (w:=.ty "int") U m_int (by right) rfl) M))))) (aeP (aeG (aex ae8 U m_isinstance (by right) (L (Y 3) (L (ae9 (w:=.ty "bool") U m_bool (by right) rfl) M))))))) (aej (aem aez)) aer)))
   (aeg (aeq (aeo L3.qU (aeh aei (Y 2) aef) (aet (L ael (L ael (L ael (L ael M))))) U) (aej (aem aez)) aer)
   (aej (aem (ae4 (L3.uM L3.IG aeU aef (aeh aei (Y 2) aef) (aex aeD U m_len aah (L (aeh aei (Y 0) aef) M))) (aeY (L3.uM L3.IG aeU aef (aeh aei (Y 2) aef) (aex aeD U m_len aah (L (aeh aei (Y 1) aef) M)))))))))),?_⟩
 show ak fun Rk kR=>?_
 show⟨_,U,.inl ⟨_,"tuple",_,true,U,di.tup kq,U,_,U,aA rfl ?_⟩⟩
 show⟨_,U,pe,_,U,.inr (aN.of kq),U,_,U,aA (show(!decide (V.int 5=V.int 5))=false by left) ?_⟩
 show⟨_,U,?_⟩
 show aH kq U ?_
 show .inl ⟨_,"str",_,true,U,di.str _,U,_,U,aA rfl ?_⟩
 show kR _ _ ?_
 show ak fun Rk kR=>?_
 show⟨_,U,_,U,pe,_,U,aN.of kq,?_,fun k1 HK=>?_⟩
 . rintro⟨_,z⟩
   show aB (show HT.bz 5 5 (some 2)=5 from z) (by left)
 rw[qB]
 have s1:=af HK (.tup [.int e.1,.int e.2.1])
 have g1:(upd H k1 (.tup [.int e.1,.int e.2.1])) k1=some (.tup [.int e.1,.int e.2.1]):=ae
 generalize upd H k1 (.tup [.int e.1,.int e.2.1])=H1 at s1 g1 ⊢
 show⟨k1,U,⟨_,aN.of g1⟩,?_⟩
 show iG (xs:=[.int e.1,.int e.2.1]) (fun i σ Hx=>(∃o3,σ=[some (.ref p1),some (.ref p2),some (.ref pe),o3])/\Hx=H1) ⟨⟨_,U⟩,U⟩ (fun i σ Hx y z=>by rw[z.2];show aN.of g1) (fun i x0 σ Hx hx z=>?_) (fun σ Hx z=>?_)
 . obtain⟨⟨o3,rfl⟩,rfl⟩:=z
   obtain⟨n0,_,rfl⟩ : ∃n0:Int,True/\x0=.int n0:=by
     match i,hx with
     | 0,hx=>cases hx;show⟨_,trivial,rfl⟩
     | 1,hx=>cases hx;show⟨_,trivial,rfl⟩
   show ai ?_
   show aq [some (.ref p1),some (.ref p2),some (.ref pe),some (.int n0)] U ?_
   show⟨_,U,.inl ⟨_,"int",_,true,U,di.int _,U,_,U,aA rfl ?_⟩⟩
   show⟨_,U,.inl ⟨_,"bool",_,false,U,di.int _,U,_,U,aA rfl ?_⟩⟩
   show⟨⟨_,U⟩,U⟩
 obtain⟨⟨o3,rfl⟩,rfl⟩:=z
 show kR _ _ ?_
 show ak fun Rk kR=>?_
 have HR:=s1 _ _ kq
 show⟨_,U,?_⟩
 show aH HR U ?_
 show⟨ago,fun t4 WB=>?_⟩
 have s2:=af WB (.tup [.str "mine",.str "yours",.str "both",.str "end"])
 have g2:(upd Hx t4 (.tup [.str "mine",.str "yours",.str "both",.str "end"])) t4=some (.tup [.str "mine",.str "yours",.str "both",.str "end"]):=ae
 generalize upd Hx t4 (.tup [.str "mine",.str "yours",.str "both",.str "end"])=H2 at s2 g2 ⊢
 show⟨t4,_,rfl,.inr (aN.of g2),rfl,rfl,_,rfl,aA (by rcases wh with rfl|rfl<;>decide) ?_⟩
 show kR _ _ ?_
 have s12:=aa s1 s2
 have HS:=s2 _ _ HR
 show⟨_,U,?_⟩
 show aH HS U ?_
 show⟨_,_,U,U,_,U,aM (dE z1) ⟨_,U,p1,_,_,_,U,U,aN.of (s12 _ _ hp),U,N,_,U,.inl (aE.of (s12 _ _ hN)),_,_,U,U,_,U,aM (dE z2) ?_⟩⟩
 show⟨_,U,?_⟩
 show aH HS U ?_
 show⟨_,_,U,U,_,U,aM (dE z3) ⟨_,U,p2,_,_,_,U,U,aN.of (s12 _ _ eY),U,N2,_,U,.inl (aE.of (s12 _ _ Nt)),_,_,U,U,?_⟩⟩
 change Q (.bl (decide (e.2.1<(xD.length:Int)))) H2
 rw[dE z4]
 show q _ s12
def eO (xs:List Str):(xs.map V.str).all cC=true:=by
 rw[aby]
 intro v hv
 obtain⟨x,_,rfl⟩:=bF hv
 rfl
def E4:Sp:=fun vs H Q z=>∃(p B I N wa:Addr) (vb:List V) (bs:ao) (ins:List Str) (ws:List Int),vs=[.ref p,.ref wa]/\H p=some (.tup [.ref B,.ref I,.ref N])/\H B=some (.lst vb)/\Paired (cB H) vb bs/\H I=some (.lst (ins.map V.str))/\H wa=some (.tup (ws.map V.int))/\bs.length=ws.length/\bs.length<=4/\∀(k:Bool) (H':Hp),ag H H'->Q (.bl k) H'
def Po:az ["program","worths"] ["program","worths"] (aj Pg):=cU
def IH {f:Addr}{fd:aaa}(F:bQ K "_law_begins" "_law_begins" Pg f fd)(m_all:mg "all"=none)(m_zip:mg "zip"=none):aK P w K mg base bJ 1 f fd ["program","worths"] E4:=by
 show F.df Po fun cdv A outer s H vs Q E hr h=>?_
 obtain⟨p,B,I,N,wa,vb,bs,ins,ws,rfl,hp,hB,pb,hI,hw,bw,l4,q⟩:=h
 have oE:=Paired.length pb
 show cM ⟨_,(aej (aem (aex L3.Aj U m_all (by right) (L (aeO [none,none,some 0] ["box","worth","program"] (iw Pg) U (L3.Ot false true U m_zip (L (aeh aei (Y 0) aef) (L (Y 1) M))) (fun y y y y y=>⟨(aeC 2 (aev (aep 0 (d9 ["box","worth","program"])) (aev (aep 1 (d9 ["box","worth","program"])) aeB))),aeE,(L3.Jj (aeK aew (Y 1) aef) (aeY (aeK aeW (aeh aei (Y 0) aef) (aeh aei (Y 2) aef) U)))⟩)) M)))),?_⟩
 show⟨_,U,?_⟩
 show aH hp U ?_
 show⟨_,U,B,wa,U,⟨_,aE.of hB⟩,⟨_,aN.of hw⟩,fun l hl=>?_⟩
 show ke (xs:=vb) (ys:=ws.map V.int) (by rw[ZW];lia) (fun(i:Nat) Hx=>ag H Hx/\∃ks:List Bool,ks.length=i/\Hx l=some (.lst (ks.map V.bl))) ⟨af hl _,[],U,ae⟩ (fun i Hx y z=>⟨aE.of (z.1 _ _ hB),aN.of (z.1 _ _ hw)⟩) (fun i x0 y0 pp Hx hx hy z lH=>?_) (fun Hx z=>?_)
 . obtain⟨sx,ks,kl,gl⟩:=z
   have cX:i<vb.length:=(aT hx)
   obtain⟨b,gm,jV,rfl,m7⟩:=Paired.get pb hx
   obtain⟨w0,Lx,rfl⟩:=bG hy
   have sp:=af lH (.tup [.ref jV,.int w0])
   have gp:(upd Hx pp (.tup [.ref jV,.int w0])) pp=some (.tup [.ref jV,.int w0]):=ae
   generalize upd Hx pp (.tup [.ref jV,.int w0])=Hy at sp gp ⊢
   have sxy:=aa sx sp
   show kT gp ?_
   show bI (A:=fun H5=>cp _ l _ H5 _) ?_
   show⟨_,U,U,_,U,?_⟩
   show bE (fun c=>?_) (fun c=>?_)
   . show⟨_,sp _ _ gl,aC (by rw[ZW];lia),aD (Pv:=fun(i:Nat) Hx=>ag H Hx/\∃ks:List Bool,ks.length=i/\Hx l=some (.lst (ks.map V.bl))) (by repeat' constructor) cX ⟨av sxy hl,ks++[_],by rw[Z1,kl];rfl,by rw[ae,Z9];rfl⟩⟩
   . show⟨_,U,?_⟩
     show aH (sxy _ _ m7) U ?_
     show⟨_,U,?_⟩
     show aH (sxy _ _ hp) U ?_
     show⟨I,_,U,.inl (aE.of (sxy _ _ hI)),U,eO ins,?_⟩
     show⟨_,sp _ _ gl,aC (by rw[ZW];lia),aD (Pv:=fun(i:Nat) Hx=>ag H Hx/\∃ks:List Bool,ks.length=i/\Hx l=some (.lst (ks.map V.bl))) (by repeat' constructor) cX ⟨av sxy hl,ks++[_],by rw[Z1,kl];rfl,by rw[ae,Z9];rfl⟩⟩
 obtain⟨sx,ks,kl,gl⟩:=z
 show⟨l,ks,U,aE.of gl,q _ _ sx⟩
theorem kK:∀(a b:ao),bH (a++b)=bH a*bH b
 | [],b=>(acs _).symm
 | x::a,b=>by
   change x.2*bH (a++b)=x.2*bH a*bH b
   rw[kK a b,abZ]
def jA {bs:ao}(h:∀b∈bs,1<=b.2)(i:Nat):1<=bH (bs.take i)/\bH (bs.take i)<=bH bs:=by
 have h1:=eI (bs:=bs.take i) fun x hx=>h x (aa0 hx)
 have h2:=eI (bs:=bs.drop i) fun x hx=>h x (abV hx)
 show⟨h1,?_⟩
 have e:=kK (bs.take i) (bs.drop i)
 rw[acC]at e
 rw[e]
 have:=acO (acu (bH (bs.take i))) h2 (by left) (by lia)
 rw[adA]at this
 show this
def j4 (n:ao)(H:Hp)(v:V):Prop:=∃ws:List Int,Tp H v (ws.map V.int)/\iZ n ws
def j4.keep {n:ao}{H H':Hp}{v:V}(k:TK H H')(h:j4 n H v):j4 n H' v:=by obtain⟨ws,a,b⟩:=h;show⟨ws,Tp.keep k a,b⟩
def E6:Sp:=fun vs H Q z=>∃(p:Addr) (bs:ao),vs=[.ref p]/\Bx H p bs/\(∀b∈bs,1<=b.2)/\bH bs<=800/\bs.length<=4/\∀(F0:Addr) (xs:List V) (H':Hp),ag H H'->H F0=none->H' F0=some (.lst xs)->xs.length<=800->(∀x∈xs,j4 bs H' x)->Q (.ref F0) H'
def pP:az ["program","found","name","size","longer","worths"] ["program"] (aj Pk):=cU
def IT {f:Addr}{fd:aaa}(F:bQ K "_law_every" "_law_every" Pk f fd)(m_range:mg "range"=none):aK P w K mg base bJ 1 f fd ["program"] E6:=by
 show F.df pP fun cdv A outer s H vs Q E hr h=>?_
 obtain⟨p,bs,rfl,bx,sz,pr,l4,q⟩:=h
 obtain⟨B,I,N,vb,hp,hB,pb⟩:=bx.ex
 have oE:=Paired.length pb
 show cM ⟨_,(aeg (aen 1 pP.nd (aeu (L (aet M) M)))
   (aeg (aeJ (aeA (aeh aei (Y 0) aef)) (aeC 2 (aev (aep 2 pP.nd) (aev (aep 3 pP.nd) aeB))) (aeg (aen 4 pP.nd (aeu M))
   (aeg (aeJ (aeA (Y 1)) (aep 5 pP.nd) (aej (aeQ (afs (Y 4) (L (aeO [none,some 5] ["worth","worths"] (iw Pk) U (ae5 U m_range (L (Y 3) M)) (fun v v v v v=>⟨(aep 0 (d9 ["worth","worths"])),aeE,(aes L3.Dw (Y 1) (aet (L (Y 0) M)))⟩)) M)))))
   (aej (aen 1 pP.nd (Y 4))))))
   (aej (aem (Y 1))))),?_⟩
 show ak fun Rk kR=>?_
 show⟨agk,fun e0 Aw=>?_⟩
 have s1:=af Aw (.tup [])
 have g1:(upd H e0 (.tup [])) e0=some (.tup []):=ae
 generalize upd H e0 (.tup [])=H1 at s1 g1 ⊢
 show⟨agl,fun F0 uu=>?_⟩
 have s2:=af uu (.lst [.ref e0])
 have g2:(upd H1 F0 (.lst [.ref e0])) F0=some (.lst [.ref e0]):=ae
 generalize upd H1 F0 (.lst [.ref e0])=H2 at s2 g2 ⊢
 show ai (kR _ _ ?_)
 show aq [some (.ref p),some (.ref F0),none,none,none,none] U ?_
 show ak fun Rk kR=>?_
 have s12:=aa s1 s2
 show⟨_,U,?_⟩
 show aH (s12 _ _ hp) U ?_
 show⟨B,U,⟨_,aE.of (s12 _ _ hB)⟩,?_⟩
 show bC (xs:=vb) (fun i σ Hx=>(∃(F0:Addr) (xs:List V) (o2 o3 o4 o5:Option V),σ=[some (.ref p),some (.ref F0),o2,o3,o4,o5]/\H F0=none/\Hx F0=some (.lst xs)/\(xs.length:Int)=bH (bs.take i)/\∀x∈xs,j4 (bs.take i) Hx x)/\ag H Hx) ⟨⟨F0,[.ref e0],none,none,none,none,U,ah s1 uu,g2,U,fun x hx=>by rw[bU hx];show⟨[],⟨e0,U,s2 _ _ g1⟩,by rw[aaT];show .nil⟩⟩,s12⟩ (fun i σ Hx v z=>aE.of (z.2 _ _ hB)) (fun i x0 σ Hx hx z=>?_) (fun σ Hx z=>?_)
 . obtain⟨⟨F0,xs,o2,o3,o4,o5,rfl,nF,gF,xl,hxs⟩,sx⟩:=z
   obtain⟨b,gm,jV,rfl,m7⟩:=Paired.get pb hx
   have uv:=sz b (ZZ gm)
   have t1:=jA sz i
   have t2:=jA sz (i+1)
   have xU:bs.take (i+1)=bs.take i++[b]:=by rw[aad,gm];rfl
   rw[xU,dM]at t2
   show kT (sx _ _ m7) ?_
   show aq [some (.ref p),some (.ref F0),some (.str b.1),some (.int b.2),o4,o5] U ?_
   show ak fun Rk kR=>?_
   show⟨agk,fun L8 hL=>?_⟩
   have s3:=af hL (.lst [])
   have g3:(upd Hx L8 (.lst [])) L8=some (.lst []):=ae
   generalize upd Hx L8 (.lst [])=H3 at s3 g3 ⊢
   show ai (kR _ _ ?_)
   show aq [some (.ref p),some (.ref F0),some (.str b.1),some (.int b.2),some (.ref L8),o5] U ?_
   show ak fun Rk kR=>?_
   show⟨_,U,F0,U,⟨_,aE.of (s3 _ _ gF)⟩,?_⟩
   show bC (xs:=xs) (fun j σ Hy=>(∃(o5:Option V),σ=[some (.ref p),some (.ref F0),some (.str b.1),some (.int b.2),some (.ref L8),o5])/\ag Hx Hy/\∃ys,Hy L8=some (.lst ys)/\(ys.length:Int)=(j:Int)*b.2/\∀y∈ys,j4 (bs.take (i+1)) Hy y) ⟨⟨_,U⟩,s3,[],g3,(by change(0:Int)=0*b.2;rw[aa2]),fun y z=>nomatch z⟩ (fun j σ Hy v z=>aE.of (z.2.1 _ _ gF)) (fun j w0 σ Hy hw z=>?_) (fun σ Hy z=>?_)
   . obtain⟨⟨o5,rfl⟩,sy,ys,gL,yl,hys⟩:=z
     have Y9:j<xs.length:=(aT hw)
     obtain⟨ws,⟨pw,rfl,Ws⟩,wl⟩:=j4.keep (ag.tk sy) (hxs w0 (ZZ hw))
     have Yq:=wl.len
     rw[aac]at Yq
     show ai ?_
     show aq [some (.ref p),some (.ref F0),some (.str b.1),some (.int b.2),some (.ref L8),some (.ref pw)] U ?_
     show⟨_,U,.inl ⟨U,_,aE.of gL⟩,?_⟩
     have cX:i<vb.length:=(aT hx)
     have big:10000<=sizeLine:=by left
     have Y5:b.2<=800:=by
       have:=acO t1.1 (acu b.2) (by lia) (by lia)
       rw[acs]at this
       lia
     show⟨_,U,b.2,U,by lia,by lia,fun C hC=>?_⟩
     show cW (lo:=0) (n:=b.2.toNat) (fun(k:Nat) Hz=>ag Hy Hz/\∃zs,Hz C=some (.lst zs)/\zs.length=k/\∀z∈zs,j4 (bs.take (i+1)) Hz z) ⟨af hC _,[],ae,U,fun v z=>nomatch z⟩ (fun k Hz hk z=>?_) (fun Hz z=>?_)
     . obtain⟨sz3,zs,gC,zl,hzs⟩:=z
       show ai ?_
       show bI (A:=fun H5=>cp _ C _ H5 _) ?_
       show⟨_,U,_,U,agl,fun Bo oB=>?_⟩
       have sa:=af oB (.tup [.int (0+(k:Int))])
       have ga:(upd Hz Bo (.tup [.int (0+(k:Int))])) Bo=some (.tup [.int (0+(k:Int))]):=ae
       generalize upd Hz Bo (.tup [.int (0+(k:Int))])=Ha at sa ga ⊢
       show⟨pw,Bo,_,_,U,U,aN.of (sa _ _ (sz3 _ _ Ws)),aN.of ga,(fun z=>nomatch z),(by rw[ZW];change _+1<=_;lia),fun z=>?_,fun v F6 HX=>?_⟩
       . have w0:ws=[]:=List.map_eq_nil_iff.mp z
         rw[w0]at wl
         have sb:=same_refl Ha
         have tv:j4 (bs.take (i+1)) Ha (.ref Bo):=⟨[0+(k:Int)],⟨Bo,rfl,ga⟩,by rw[xU];show Paired.snoc wl ⟨by lia,by lia⟩⟩
         have GQ:=sb _ _ (sa _ _ gC)
         have Kv:TK Ha (upd Ha C (.lst (zs++[.ref Bo]))):=TW.TK.lst GQ
         have PC:=aa sz3 (aa sa sb)
         show⟨_,GQ,aC (by lia),aD (Pv:=fun(k:Nat) Hz=>ag Hy Hz/\∃zs,Hz C=some (.lst zs)/\zs.length=k/\∀z∈zs,j4 (bs.take (i+1)) Hz z) (by repeat' constructor) hk ⟨av PC hC,zs++[.ref Bo],ae,by rw[Z1,zl];rfl,fun y hy=>?_⟩⟩
         rcases dk hy with z|z
         . show j4.keep ((ag.tk (aa sa sb)).trans Kv) (hzs y z)
         . rw[bU z];show j4.keep Kv tv
       . have sb:=af HX (.tup (ws.map V.int++[.int (0+(k:Int))]))
         have tv:j4 (bs.take (i+1)) (upd Ha F6 (.tup (ws.map V.int++[.int (0+(k:Int))]))) (.ref F6):=⟨ws++[0+(k:Int)],⟨F6,rfl,by rw[ae,Z9];rfl⟩,by rw[xU];show Paired.snoc wl ⟨by lia,by lia⟩⟩
         generalize upd Ha F6 (.tup (ws.map V.int++[.int (0+(k:Int))]))=Hb at sb tv ⊢
         have GQ:=sb _ _ (sa _ _ gC)
         have Kv:TK Hb (upd Hb C (.lst (zs++[.ref F6]))):=TW.TK.lst GQ
         have PC:=aa sz3 (aa sa sb)
         show⟨_,GQ,aC (by lia),aD (Pv:=fun(k:Nat) Hz=>ag Hy Hz/\∃zs,Hz C=some (.lst zs)/\zs.length=k/\∀z∈zs,j4 (bs.take (i+1)) Hz z) (by repeat' constructor) hk ⟨av PC hC,zs++[.ref F6],ae,by rw[Z1,zl];rfl,fun y hy=>?_⟩⟩
         rcases dk hy with z|z
         . show j4.keep ((ag.tk (aa sa sb)).trans Kv) (hzs y z)
         . rw[bU z];show j4.keep Kv tv
     obtain⟨sz3,zs,gC,zl,hzs⟩:=z
     have ub:(ys.length:Int)+b.2<=800:=by
       rw[yl]
       have h1:((j:Int)+1)*b.2<=bH (bs.take i)*b.2:=Int.mul_le_mul_of_nonneg_right (by lia) (by lia)
       rw[abO,acs]at h1
       lia
     show⟨L8,C,_,_,U,U,sz3 _ _ gL,gC,by lia,⟨_,U⟩,av (aa sy sz3) hL,ys++zs,ae,?_,fun y hy=>?_⟩
     . rw[Z1,acI,yl,zl,aal (by lia),acI,abO]
       change _=_+1*b.2
       rw[acs]
     . have TR:TK Hz (upd Hz L8 (.lst (ys++zs))):=TW.TK.lst (sz3 _ _ gL)
       rcases dk hy with z|z
       . show j4.keep ((ag.tk sz3).trans TR) (hys y z)
       . show j4.keep TR (hzs y z)
   . obtain⟨⟨o5,rfl⟩,sy,ys,gL,yl,hys⟩:=z
     show kR _ _ ?_
     show⟨_,U,?_⟩
     show ai ?_
     show⟨⟨L8,ys,_,_,_,_,U,ah sx hL,gL,?_,hys⟩,aa sx sy⟩
     rw[yl,xU,dM,xl]
 . obtain⟨⟨F0,xs,o2,o3,o4,o5,rfl,nF,gF,xl,hxs⟩,sx⟩:=z
   rw[oE]at xl hxs
   rw[aag]at xl hxs
   show kR _ _ ?_
   show⟨_,U,q F0 xs _ sx nF gF (by lia) hxs⟩
abbrev Ta:Stmt:=top 53
def cw {H:Hp}{r a:Addr}{xs:List V}(h:bZ H r)(ha:H a=some (.lst xs))(hx:∀i j:Int,xs≠[.int i,.int j]):a≠r:=fun e=>by
 obtain⟨i,j,h1,_⟩:=h
 rw[e,h1]at ha
 cases ha
 show hx i j rfl
def cS {α:Type}{R:V->α->Prop}{xs:List V}{ys:List α}(h:Paired R xs ys)(hr:∀(i:Int) (y:α),¬ R (.int i) y):∀i j:Int,xs≠[.int i,.int j]:=fun i j e=>by
 subst e
 cases h with
 | cons a _=>show hr _ _ a
def rL (xs:List Str):∀i j:Int,xs.map V.str≠[.int i,.int j]:=fun i j e=>by
 cases xs with
 | nil=>cases e
 | cons a l=>cases e
def Dv {H:Hp}(i:Int):∀e:Np,¬ aG H (.int i) e
 | .put _ _ _,⟨_,⟨_,e,_⟩,_⟩=>nomatch e
 | .say _ _,⟨_,⟨_,e,_⟩,_⟩=>nomatch e
 | .test _ _ _,⟨_,⟨_,e,_⟩,_⟩=>nomatch e
 | .pick _ _,⟨_,e,_⟩=>nomatch e
 | .fin,⟨_,e,_⟩=>nomatch e
def rV.rl {H H':Hp}{r p:Addr}{bs:ao}{nds:List Np}(hr:bZ H r)(l:Rl r H H')(h:rV H p bs nds):rV H' p bs nds:=
 let⟨B,I,N,vb,vn,ins,a,b,c,d,e,f⟩:=h.ex
 have tk:=Rl.tk hr l
 ⟨B,I,N,vb,vn,ins,tk _ _ a,l.k _ _ (cw hr b (cS c fun _ _ ⟨_,z,_⟩=>nomatch z)) b,Paired.aV c fun y y z=>Tp.keep tk z,l.k _ _ (cw hr d (cS e Dv)) d,Paired.aV e fun y y z=>aG.keep tk z,l.k _ _ (cw hr f (rL ins)) f⟩
def uE.rl {tO:Addr}{H H':Hp}{r D:Addr}{sm:Int->V}{lv:List (Int×Int×Str)}(hr:bZ H r)(l:Rl r H H')(h:uE tO H D sm lv):uE tO H' D sm lv:=
 let⟨kvs,a,b,c,d,e⟩:=h.ex
 have tk:=Rl.tk hr l
 ⟨kvs,l.k _ _ (fun z=>by obtain⟨i,j,h1,_⟩:=hr;rw[z,h1]at a;cases a) a,b,fun k v hv=>by
   obtain⟨la,xs,p,q,e1,e2,e3,e4,e5,e6⟩:=c k v hv
   show⟨la,xs,p,q,e1,e2,l.k _ _ (cw hr e3 fun i j z=>?_) e3,e4,e5,fun x hx=>?_⟩
   . obtain⟨f,_,_,_,⟨_,f4,_⟩⟩:=e6 (.int i) (by rw[z];show aY (.inl rfl))
     show nomatch f4
   . obtain⟨f,f1,f2,f3,f4⟩:=e6 x hx
     show⟨f,f1,f2,f3,iX.keep tk f4⟩,d,e⟩
def xH.rl {K:ZV}{H H':Hp}{r:Addr}{sm:Int->V}{se:Int->E}{bs:ao}{lv:List (Int×Int×Str)}{R:Int->List Int->List Int->Prop}(hr:bZ H r)(l:Rl r H H')(h:xH K H sm se bs lv R):xH K H' sm se bs lv R:=⟨fun f hf=>EK.keep (Rl.tk hr l) (h.ek f hf),h.is,h.ok,h.dp,h.iff⟩
def xJ.rl {K:ZV}{tO:Addr}{H H':Hp}{r p1 p2 D:Addr}{sm:Int->V}{se:Int->E}{bs:ao}{nds nds':List Np}{lv:List (Int×Int×Str)}{R:Int->List Int->List Int->Prop}(hr:bZ H r)(l:Rl r H H')(h:xJ K tO H p1 p2 D sm se bs nds nds' lv R):xJ K tO H' p1 p2 D sm se bs nds nds' lv R:=
 ⟨h.g1.rl hr l,h.g2.rl hr l,h.nt,h.nt2,h.th.rl hr l,h.l9,h.cn.rl hr l,h.sim,h.bt⟩
def Iv {k s:Int}(c:Bool)(h0:0<=k)(h1:k<s):0<=k*(if c then 1 else 0)/\k*(if c then 1 else 0)<s:=by cases c<;>simp<;>lia
def J9 (K:ZV)(tO:Addr):Sp:=fun vs H Q z=>∃(r p1 p2 D:Addr) (sm:Int->V) (se:Int->E) (bs:ao) (nds nds':List Np) (lv:List (Int×Int×Str)) (R:Int->List Int->List Int->Prop),vs=[.ref r,.ref p1,.ref p2,.ref D]/\bZ H r/\xJ K tO H p1 p2 D sm se bs nds nds' lv R/\∀H',Rl r H H'->Q (.bl true) H'
def gR:az ["pot","one","other","there_are","mine","name","size","place","turn","known","entry","here","there"] ["pot","one","other","there_are"] (aj Ta):=cU
def I9 {tO:Addr}{f:Addr}{fd:aaa}(F:bQ K "_law_walked" "_law_walked" Ta f fd)(m_int:mg "int"=none)(m_tuple:mg "tuple"=none)(m_range:mg "range"=none)(TK00:aO P w K mg base "_law_next" ["pot","many"] 1 b7)(BO0:aO P w K mg base "_law_both" ["one","other","mine","yours"] 2 E5)(ST0:aO P w K mg base "_law_step" ["program","place","worths"] 52 E9)(CT0:aO P w K mg base "_law_counting" ["there","p","q","known"] 52 (ue K tO))(WE:aO P w K mg base "_law_well" ["one","other","there_are","entry","mine","yours","known"] 53 (z6 K tO)):aK P w K mg base bJ 54 f fd ["pot","one","other","there_are"] (J9 K tO):=by
 show F.df gR fun cdv A outer s H vs Q E hr h=>?_
 obtain⟨r,p1,p2,D,sm,se,bs,nds,nds',lv,R,rfl,gH,st,q⟩:=h
 have TK0:=TK00.mono (show 1<=53 by lia)
 have BO:=BO0.mono (show 2<=53 by lia)
 have CT:=CT0.mono (show 52<=53 by lia)
 have ST:=ST0.mono (show 52<=53 by lia)
 obtain⟨B,I,N,vb,vn,ins,hp,hB,pb,hN,pn,hI⟩:=st.g1.ex
 have oE:=Paired.length pb
 have l4:=st.bt.l4
 have Br:=cw gH hB (cS pb fun _ _ ⟨_,z,_⟩=>nomatch z)
 have Ir:=cw gH hI (rL ins)
 show cM ⟨_,(aeg (aen 4 gR.nd (aeu M))
   (aeg (aeJ (aeA (aeh aei (Y 1) aef)) (aeC 2 (aev (aep 5 gR.nd) (aev (aep 6 gR.nd) aeB))) (aej (aeQ (afj (Y 4) (L (aes aeS (aek TK0 hr U (L (Y 0) (L (Y 6) M))) (aeH L3.qu U m_int (by right) (L (aeK aeW (Y 5) (aeh aei (Y 1) aef) U) M))) M)))))
   (aeg (aen 7 gR.nd (aet (L aef (L aef (L (aeH L3.eM U m_tuple (by right) (L (Y 4) M)) (L (aeH L3.eM U m_tuple (by right) (L (Y 4) M)) M))))))
   (aeg (aeJ (ae5 U m_range (L aef M)) (aep 8 gR.nd) (aeg (aen 9 gR.nd (aek BO hr U (L (Y 1) (L (Y 2) (L (aeh aei (Y 7) aef) (L (aeh aei (Y 7) aef) M))))))
   (aeg (aen 10 gR.nd (aek CT hr U (L (Y 3) (L (aeh aei (Y 7) aef) (L (aeh aei (Y 7) aef) (L (Y 9) M))))))
   (aeg (aeq (aeo aeZ (Y 10) aeL) (aej (aem aez)) aer)
   (aeg (aeq (aeR (aeG (aek WE hr U (L (Y 1) (L (Y 2) (L (Y 3) (L (Y 10) (L (aeh aei (Y 7) aef) (L (aeh aei (Y 7) aef) (L (Y 9) M)))))))))) (aej (aem aez)) aer)
   (aeg (aen 11 gR.nd (aek ST hr U (L (Y 1) (L (aeh aei (Y 7) aef) (L (aeh aei (Y 7) aef) M)))))
   (aeg (aen 12 gR.nd (aek ST hr U (L (Y 2) (L (aeh aei (Y 7) aef) (L (aeh aei (Y 7) aef) M)))))
   (aeg (aeq (aeo aew (aeh aei (Y 10) aef) ael) (aej (aem aez)) aer)
   (aeg (aeq (aeo aew (aeh aei (Y 10) aef) ael) (aej (aen 12 gR.nd (aet (L (aeu M) (L (aeh aei (Y 7) aef) (L (aeh aei (Y 7) aef) M)))))) aer)
   (aeg (aeq (aeo aew (aeh aei (Y 10) aef) ael) (aej (aen 11 gR.nd (aet (L (aeu M) (L (aeh aei (Y 7) aef) (L (aeh aei (Y 7) aef) M)))))) aer)
   (aej (aen 7 gR.nd (aet (L (aeh aei (Y 11) aef) (L (aeh aei (Y 12) aef) (L (aeh aei (Y 11) aef) (L (aeh aei (Y 12) aef) M)))))))))))))))))
   (aej (aem aez)))))),?_⟩
 show ak fun Rk kR=>?_
 show⟨agk,fun M8 hM=>?_⟩
 have Mr:=gH.ne hM
 have s1:=af hM (.lst [])
 have g1:(upd H M8 (.lst [])) M8=some (.lst []):=ae
 generalize upd H M8 (.lst [])=H1 at s1 g1 ⊢
 show ai (kR _ _ ?_)
 show aq [some (.ref r),some (.ref p1),some (.ref p2),some (.ref D),some (.ref M8),none,none,none,none,none,none,none,none] U ?_
 show ak fun Rk kR=>?_
 show⟨_,U,?_⟩
 show aH (s1 _ _ hp) U ?_
 show⟨B,U,⟨_,aE.of (s1 _ _ hB)⟩,?_⟩
 show bC (xs:=vb) (fun i σ Hx=>(∃o5 o6,σ=[some (.ref r),some (.ref p1),some (.ref p2),some (.ref D),some (.ref M8),o5,o6,none,none,none,none,none,none])/\Rl r H Hx/\∃ms:List Int,Hx M8=some (.lst (ms.map V.int))/\iZ (bs.take i) ms) ⟨⟨none,none,U⟩,Rl.of gH s1,[],g1,by rw[aaT];show .nil⟩ (fun i σ Hx y z=>aE.of (z.2.1.k _ _ Br hB)) (fun i x0 σ Hx hx z=>?_) (fun σ Hx z=>?_)
 . obtain⟨⟨o5,o6,rfl⟩,lx,ms,gM,ml⟩:=z
   have tkx:=Rl.tk gH lx
   have Xg:=ml.len
   rw[aac]at Xg
   have cX:i<vb.length:=(aT hx)
   obtain⟨b,gm,jV,rfl,m7⟩:=Paired.get pb hx
   have uv:=st.bt.sz b (ZZ gm)
   have NH:=st.bt.s9 b (ZZ gm)
   have oI:(16:Int)<2^110:=by left
   show kT (tkx _ _ m7) ?_
   show aq [some (.ref r),some (.ref p1),some (.ref p2),some (.ref D),some (.ref M8),some (.str b.1),some (.int b.2),none,none,none,none,none,none] U ?_
   show⟨_,U,.inl ⟨U,_,aE.of gM⟩,_,U,_,U,r,b.2,U,lx.rl,by lia,by lia,fun k Hk k0 k1 lk=>?_⟩
   have OM:=lx.trans lk
   have tkk:=Rl.tk gH OM
   show⟨_,U,_,U,?_⟩
   show aH (tkk _ _ hp) U ?_
   show⟨I,_,U,.inl (aE.of (OM.k _ _ Ir hI)),U,eO ins,.inr ⟨_,U,_,_,U,U,?_⟩⟩
   have Vt:=lk.k _ _ Mr gM
   show⟨.inl ⟨Int.lt_of_lt_of_le (by left) k0,Int.lt_of_lt_of_le k1 (acK NH (by left))⟩,M8,_,_,U,U,Vt,aC (by rw[ZW];lia),⟨_,_,U⟩,Rl.put OM Mr hM,ms++[_],by rw[ae,Z9];rfl,by rw[aad,gm];show Paired.snoc ml (Iv _ k0 k1)⟩
 obtain⟨⟨o5,o6,rfl⟩,lx,ms,gM,ml⟩:=z
 rw[oE,aag]at ml
 have stx:=st.rl gH lx
 show kR _ _ ?_
 show ak fun Rk kR=>?_
 show⟨_,U,M8,_,U,(.inl (.inl gM)),fun a0 Hs=>?_⟩
 have s2:=af Hs (.tup (ms.map V.int))
 have g2:(upd Hx a0 (.tup (ms.map V.int))) a0=some (.tup (ms.map V.int)):=ae
 generalize upd Hx a0 (.tup (ms.map V.int))=H2 at s2 g2 ⊢
 show⟨_,U,M8,_,U,(.inl (.inl (s2 _ _ gM))),fun b0 hb0=>?_⟩
 have s3:=af hb0 (.tup (ms.map V.int))
 have g3:(upd H2 b0 (.tup (ms.map V.int))) b0=some (.tup (ms.map V.int)):=ae
 generalize upd H2 b0 (.tup (ms.map V.int))=H3 at s3 g3 ⊢
 show⟨ago,fun pl hpl=>?_⟩
 have s4:=af hpl (.tup [.int 0,.int 0,.ref a0,.ref b0])
 have g4:(upd H3 pl (.tup [.int 0,.int 0,.ref a0,.ref b0])) pl=some (.tup [.int 0,.int 0,.ref a0,.ref b0]):=ae
 generalize upd H3 pl (.tup [.int 0,.int 0,.ref a0,.ref b0])=H4 at s4 g4 ⊢
 have Tu:=aa s2 (aa s3 s4)
 show ai (kR _ _ ?_)
 show aq [some (.ref r),some (.ref p1),some (.ref p2),some (.ref D),some (.ref M8),o5,o6,some (.ref pl),none,none,none,none,none] U ?_
 show ak fun Rk kR=>?_
 have LZ:=stx.same Tu
 have l4:=lx.trans (Rl.of lx.rl Tu)
 obtain⟨f0,Ax,Vi,Vj⟩:=st.sim.zero
 show⟨40,U,by left,by left,?_⟩
 show kh (lo:=0) (n:=40) (fun i σ Hy=>(∃(pl a b:Addr) (p p':Int) (ms ys:List Int) (o8 o9 o10 uC pC:Option V),σ=[some (.ref r),some (.ref p1),some (.ref p2),some (.ref D),some (.ref M8),o5,o6,some (.ref pl),o8,o9,o10,uC,pC]/\Hy pl=some (.tup [.int p,.int p',.ref a,.ref b])/\Hy a=some (.tup (ms.map V.int))/\Hy b=some (.tup (ys.map V.int))/\R p ms ys/\∃f∈lv,f.1=p/\f.2.1=p')/\ag H4 Hy) ⟨⟨pl,a0,b0,0,0,ms,ms,_,_,_,_,_,U,g4,s4 _ _ (s3 _ _ g2),s4 _ _ g3,st.sim.beg ms ml,f0,Ax,Vi,Vj⟩,same_refl _⟩ ?_ ?_
 . rintro i σ Hy hi ⟨⟨pl,a,b,p,p',ms,ys,o8,o9,o10,uC,pC,rfl,gp,ga,gb,hR,e0,Aw,GJ,MG⟩,sy⟩
   have F4:=LZ.same sy
   obtain⟨n1,n2,a1,Uu,ep,ep',ow,uv,_⟩:=st.sim.hat e0 Aw
   rw[GJ]at ep
   rw[MG]at ep'
   subst ep ep'
   have rg:=st.sim.rng _ _ _ hR
   show ai ?_
   show aq [some (.ref r),some (.ref p1),some (.ref p2),some (.ref D),some (.ref M8),o5,o6,some (.ref pl),some (.int (0+(i:Int))),o9,o10,uC,pC] U ?_
   show ak fun Rk kR=>?_
   show⟨_,U,_,U,_,U,?_⟩
   show aH gp U ?_
   show⟨_,U,?_⟩
   show aH gp U ?_
   show⟨p1,p2,a,b,bs,ms,ys,U,F4.g1.bx,F4.g2.bx,ga,gb,rg.1.len,rg.2.len,st.bt.l4,st.bt.nd,fun D2 H5 s5 Dt kn=>?_⟩
   show ai (kR _ _ ?_)
   show aq [some (.ref r),some (.ref p1),some (.ref p2),some (.ref D),some (.ref M8),o5,o6,some (.ref pl),some (.int (0+(i:Int))),some (.ref D2),o10,uC,pC] U ?_
   show ak fun Rk kR=>?_
   have jX:=F4.same s5
   have Nh:=s5 _ _ gp
   have hh:(se (n1:Int)).holds (W2 bs ms ys)=true:=by
     have:=(st.cn.iff e0 Aw ms ys rg.1 rg.2).mpr (by rw[GJ];show hR)
     rw[GJ]at this
     show this
   show⟨_,U,_,U,?_⟩
   show aH Nh U ?_
   show⟨_,U,?_⟩
   show aH Nh U ?_
   show⟨_,U,D,D2,_,_,sm,se,lv,bs,R,_,U,jX.th,st.l9,jX.cn,kn,fun y x6 e6 H6 s6 yw FE MC uy=>?_,fun z=>?_⟩
   rotate_left
   . rcases z with z|z
     . rw[hh]at z
       cases z
     . show(z e0 Aw GJ MG).elim
   have Tr:=jX.same s6
   have vt:=uy
   obtain⟨pe,rfl,kq⟩:=uy
   show ai (kR _ _ ?_)
   show aq [some (.ref r),some (.ref p1),some (.ref p2),some (.ref D),some (.ref M8),o5,o6,some (.ref pl),some (.int (0+(i:Int))),some (.ref D2),some (.ref pe),uC,pC] U ?_
   show ak fun Rk kR=>?_
   show⟨_,U,U,_,U,?_⟩
   rw[V.dN]
   show d6 (kR _ _ ?_)
   show ak fun Rk kR=>?_
   have xS:=aa s5 s6
   have Ni:=s6 _ _ Nh
   show⟨_,U,_,U,_,U,_,U,_,U,?_⟩
   show aH Ni U ?_
   show⟨_,U,?_⟩
   show aH Ni U ?_
   show⟨_,U,p1,p2,D,a,b,D2,.ref pe,sm,se,bs,nds,nds',lv,R,e6,ms,ys,_,U,Tr,yw,vt,xS _ _ ga,xS _ _ gb,by rw[FE];show hR,kn.same s6,fun H7 s7=>⟨_,U,aA rfl (kR _ _ ?_)⟩⟩
   show ak fun Rk kR=>?_
   have L0:=Tr.same s7
   have s57:=aa xS s7
   have As:=s7 _ _ Ni
   have CV:=s7 _ _ kq
   obtain⟨m1,m2,a6,KQ,U9,Va,Ny,FK,QN,HI,C0⟩:=st.sim.hat e6 yw
   have U4:m1=n1:=by lia
   have MK:m2=n2:=by lia
   subst U4 MK
   have Sk:=st.nt a6 (ZZ Ny)
   have Sm:=st.nt2 KQ (ZZ FK)
   generalize jg:(if e6.2.2="end" then "end" else "both":Str)=Gb at CV
   by_cases he:a6.hd="end"
   . have ea:ip bs ms a6=none/\ip bs ys KQ=none:=by
       rw[HI he]
       cases a6 with
       | fin=>show⟨rfl,rfl⟩
       | put _ _ _=>show aB (show("put":Str)="end" from he) (by left)
       | say _ _=>show aB (show("say":Str)="end" from he) (by left)
       | test _ _ _=>show aB (show("test":Str)="end" from he) (by left)
       | pick _ _=>show aB (show("pick":Str)="end" from he) (by left)
     rw[QN,ba he]at jg
     subst jg
     show⟨_,U,_,U,?_⟩
     show aH As U ?_
     show⟨_,U,?_⟩
     show aH As U ?_
     show⟨p1,a,m1,bs,nds,ms,a6,U,L0.g1,Ny,Sk,s57 _ _ ga,rg.1.len,st.bt,fun y H8 s8=>?_,fun y y y z=>by rw[ea.1]at z;cases z⟩
     show ai (kR _ _ ?_)
     show aq [some (.ref r),some (.ref p1),some (.ref p2),some (.ref D),some (.ref M8),o5,o6,some (.ref pl),some (.int (0+(i:Int))),some (.ref D2),some (.ref pe),some .br,pC] U ?_
     show ak fun Rk kR=>?_
     show⟨_,U,_,U,?_⟩
     show aH (s8 _ _ As) U ?_
     show⟨_,U,?_⟩
     show aH (s8 _ _ As) U ?_
     show⟨p2,b,m2,bs,nds',ys,KQ,U,L0.g2.same s8,FK,Sm,s8 _ _ (s57 _ _ gb),rg.2.len,st.bt,fun y H9 s9=>?_,fun y y y z=>by rw[ea.2]at z;cases z⟩
     show ai (kR _ _ ?_)
     show aq [some (.ref r),some (.ref p1),some (.ref p2),some (.ref D),some (.ref M8),o5,o6,some (.ref pl),some (.int (0+(i:Int))),some (.ref D2),some (.ref pe),some .br,some .br] U ?_
     show ak fun Rk kR=>?_
     have s89:=aa s8 s9
     show⟨_,U,?_⟩
     show aH (s89 _ _ CV) U ?_
     show⟨U,_,U,aM (by left) ?_⟩
     show q _ (l4.trans (Rl.of l4.rl (aa sy (aa s57 s89))))
   . obtain⟨sd,n,n',qQ,rR,vj,hs2,Lm,nn⟩:=C0 he ms ys (by rw[U9];show hR)
     rw[QN,aQ he]at jg
     subst jg
     show⟨_,U,_,U,?_⟩
     show aH As U ?_
     show⟨_,U,?_⟩
     show aH As U ?_
     show⟨p1,a,m1,bs,nds,ms,a6,U,L0.g1,Ny,Sk,s57 _ _ ga,rg.1.len,st.bt,(fun z=>by rw[vj]at z;cases z),fun s0 n0 w0 z r1 l1 l2 H8 s8 gr Cq xN=>?_⟩
     rw[vj]at z
     cases z
     show ai (kR _ _ ?_)
     show aq [some (.ref r),some (.ref p1),some (.ref p2),some (.ref D),some (.ref M8),o5,o6,some (.ref pl),some (.int (0+(i:Int))),some (.ref D2),some (.ref pe),some (.ref r1),pC] U ?_
     show ak fun Rk kR=>?_
     show⟨_,U,_,U,?_⟩
     show aH (s8 _ _ As) U ?_
     show⟨_,U,?_⟩
     show aH (s8 _ _ As) U ?_
     show⟨p2,b,m2,bs,nds',ys,KQ,U,L0.g2.same s8,FK,Sm,s8 _ _ (s57 _ _ gb),rg.2.len,st.bt,(fun z=>by rw[hs2]at z;cases z),fun s0 n0 w0 z r2 l3 l5 H9 s9 Ro Y1 VA=>?_⟩
     rw[hs2]at z
     cases z
     show ai (kR _ _ ?_)
     show aq [some (.ref r),some (.ref p1),some (.ref p2),some (.ref D),some (.ref M8),o5,o6,some (.ref pl),some (.int (0+(i:Int))),some (.ref D2),some (.ref pe),some (.ref r1),some (.ref r2)] U ?_
     show ak fun Rk kR=>?_
     have s89:=aa s8 s9
     have CW:=s89 _ _ CV
     show⟨_,U,?_⟩
     show aH CW U ?_
     show⟨U,_,U,aA (by left) (kR _ _ ?_)⟩
     show ak fun Rk kR=>?_
     show⟨_,U,?_⟩
     show aH CW U ?_
     show⟨U,_,U,aA (by left) (kR _ _ ?_)⟩
     show ak fun Rk kR=>?_
     show⟨_,U,?_⟩
     show aH CW U ?_
     show⟨U,_,U,aA (by left) (kR _ _ ?_)⟩
     have Rp:=s9 _ _ gr
     show⟨_,U,?_⟩
     show aH Rp U ?_
     show⟨_,U,?_⟩
     show aH Ro U ?_
     show⟨_,U,?_⟩
     show aH Rp U ?_
     show⟨_,U,?_⟩
     show aH Ro U ?_
     show⟨ago,fun XW Oc=>?_⟩
     have zQ:=af Oc (.tup [.int n,.int n',.ref l2,.ref l5])
     show ai ?_
     show⟨⟨XW,l2,l5,n,n',qQ,rR,_,_,_,_,_,U,ae,zQ _ _ (s9 _ _ xN),zQ _ _ VA,Lm,nn⟩,aa sy (aa s57 (aa s89 zQ))⟩
 . rintro σ Hy ⟨⟨pl,a,b,p,p',ms,ys,o8,o9,o10,uC,pC,rfl,gp,ga,gb,hR,e0,Aw,GJ,MG⟩,sy⟩
   show kR _ _ ?_
   show q _ (l4.trans (Rl.of l4.rl sy))
abbrev JU:Stmt:=top 54
structure Ae (K:ZV)(tO:Addr)(H:Hp)(p1 p2 P':Addr)(ps:List V)(sm:Int->V)(se:Int->E)(bs:ao)(nds nds':List Np)(lv:List (Int×Int×Str))(R:Int->List Int->List Int->Prop):Prop where
 g1:rV H p1 bs nds
 g2:rV H p2 bs nds'
 nt:∀e∈nds,BX (bs.map (·.1)) e
 nt2:∀e∈nds',BX (bs.map (·.1)) e
 hP:H P'=some (.lst ps)
 pp:Paired (fun v e=>iX tO H v sm e) ps lv
 l9:lv.length<=900
 cn:xH K H sm se bs lv R
 sim:x5 bs nds nds' lv R
 bt:Gg bs
def Dp {tO:Addr}{H:Hp}{sm:Int->V}(i:Int)(e:Int×Int×Str):¬ iX tO H (.int i) sm e:=fun⟨_,z,_⟩=>nomatch z
def Ae.rl {K:ZV}{tO:Addr}{H H':Hp}{r p1 p2 P':Addr}{ps:List V}{sm:Int->V}{se:Int->E}{bs:ao}{nds nds':List Np}{lv:List (Int×Int×Str)}{R:Int->List Int->List Int->Prop}(hr:bZ H r)(l:Rl r H H')(h:Ae K tO H p1 p2 P' ps sm se bs nds nds' lv R):Ae K tO H' p1 p2 P' ps sm se bs nds nds' lv R:=
 ⟨h.g1.rl hr l,h.g2.rl hr l,h.nt,h.nt2,l.k _ _ (cw hr h.hP (cS h.pp Dp)) h.hP,Paired.aV h.pp fun y y z=>iX.keep (Rl.tk hr l) z,h.l9,h.cn.rl hr l,h.sim,h.bt⟩
def Ae.Ti {K:ZV}{tO:Addr}{H:Hp}{p1 p2 P' D:Addr}{ps:List V}{sm:Int->V}{se:Int->E}{bs:ao}{nds nds':List Np}{lv:List (Int×Int×Str)}{R:Int->List Int->List Int->Prop}(h:Ae K tO H p1 p2 P' ps sm se bs nds nds' lv R)(th:uE tO H D sm lv):xJ K tO H p1 p2 D sm se bs nds nds' lv R:=⟨h.g1,h.g2,h.nt,h.nt2,th,h.l9,h.cn,h.sim,h.bt⟩
def J8 (K:ZV)(tO:Addr):Sp:=fun vs H Q z=>∃(r p1 p2 P':Addr) (ps:List V) (sm:Int->V) (se:Int->E) (bs:ao) (nds nds':List Np) (lv:List (Int×Int×Str)) (R:Int->List Int->List Int->Prop),vs=[.ref r,.ref p1,.ref p2,.ref P']/\bZ H r/\Ae K tO H p1 p2 P' ps sm se bs nds nds' lv R/\∀H',Rl r H H'->Q (.bl true) H'
def mf:az ["pot","one","other","paper","there","turn","entry","mine","yours","known","found"] ["pot","one","other","paper"] (aj JU):=cU
def IX {tO:Addr}{f:Addr}{fd:aaa}(F:bQ K "_law_looked_at" "_law_looked_at" JU f fd)(m_all:mg "all"=none)(m_len:mg "len"=none)(m_tuple:mg "tuple"=none)(m_range:mg "range"=none)(TK00:aO P w K mg base "_law_next" ["pot","many"] 1 b7)(BO0:aO P w K mg base "_law_both" ["one","other","mine","yours"] 2 E5)(CT0:aO P w K mg base "_law_counting" ["there","p","q","known"] 52 (ue K tO))(WE0:aO P w K mg base "_law_well" ["one","other","there_are","entry","mine","yours","known"] 53 (z6 K tO))(IE0:aO P w K mg base "_law_is_entry" ["one","other","entry"] 1 (E7 tO))(BP0:aO P w K mg base "_law_by_places" ["paper"] 1 (z5 tO))(WA:aO P w K mg base "_law_walked" ["pot","one","other","there_are"] 54 (J9 K tO)):aK P w K mg base bJ 55 f fd ["pot","one","other","paper"] (J8 K tO):=by
 show F.df mf fun cdv A outer s H vs Q E hr h=>?_
 obtain⟨r,p1,p2,P0,ps,sm,se,bs,nds,nds',lv,R,rfl,gH,pap,q⟩:=h
 have TK0:=TK00.mono (show 1<=54 by lia)
 have BO:=BO0.mono (show 2<=54 by lia)
 have CT:=CT0.mono (show 52<=54 by lia)
 have WE:=WE0.mono (show 53<=54 by lia)
 have IE:=IE0.mono (show 1<=54 by lia)
 have BP:=BP0.mono (show 1<=54 by lia)
 have pl:=Paired.length pap.pp
 have l9:=pap.l9
 have l4:=pap.bt.l4
 show cM ⟨_,(aeg (aeq (aeR (aeG (aex L3.Aj U m_all (by right) (L (aeO [none,some 1,some 2] ["entry","one","other"] (iw JU) U (aeA (Y 3)) (fun y y y y y=>⟨(aep 0 (d9 ["entry","one","other"])),aeE,(aek IE hr U (L (Y 1) (L (Y 2) (L (Y 0) M))))⟩)) M)))) (aej (aem aez)) aer)
   (aeg (aen 4 mf.nd (aek BP hr U (L (Y 3) M)))
   (aeg (aeq (aeR (aeG (aek WA hr U (L (Y 0) (L (Y 1) (L (Y 2) (L (Y 4) M))))))) (aej (aem aez)) aer)
   (aeg (aeJ (ae5 U m_range (L aef M)) (aep 5 mf.nd) (aeg (aen 6 mf.nd (aeh aey (Y 3) (aek TK0 hr U (L (Y 0) (L (aex aeD U m_len aah (L (Y 3) M)) M)))))
   (aeg (aen 7 mf.nd (aeH L3.eM U m_tuple (by right) (L (aeO [none,none,some 0] ["name","size","pot"] (iw JU) U (aeA (aeh aei (Y 1) aef)) (fun y y y y y=>⟨(aeC 2 (aev (aep 0 (d9 ["name","size","pot"])) (aev (aep 1 (d9 ["name","size","pot"])) aeB))),aeE,(aek TK0 hr U (L (Y 2) (L (Y 1) M)))⟩)) M)))
   (aeg (aen 8 mf.nd (Y 7))
   (aeg (aeq (aeo aew (aek TK0 hr U (L (Y 0) (L aef M))) aef) (aej (aen 8 mf.nd (aeH L3.eM U m_tuple (by right) (L (aeO [none,none,some 0] ["name","size","pot"] (iw JU) U (aeA (aeh aei (Y 1) aef)) (fun y y y y y=>⟨(aeC 2 (aev (aep 0 (d9 ["name","size","pot"])) (aev (aep 1 (d9 ["name","size","pot"])) aeB))),aeE,(aek TK0 hr U (L (Y 2) (L (Y 1) M)))⟩)) M)))) aer)
   (aeg (aen 9 mf.nd (aek BO hr U (L (Y 1) (L (Y 2) (L (Y 7) (L (Y 8) M))))))
   (aeg (aen 10 mf.nd (aek CT hr U (L (Y 4) (L (aeh aei (Y 6) aef) (L (aeh aei (Y 6) aef) (L (Y 9) M))))))
   (aej (aeq (aeo L3.pE (Y 10) aeL) (aej (aeq (aeR (aeG (aek WE hr U (L (Y 1) (L (Y 2) (L (Y 4) (L (Y 10) (L (Y 7) (L (Y 8) (L (Y 9) M)))))))))) (aej (aem aez)) aer)) aer)))))))))
   (aej (aem aez)))))),?_⟩
 show ak fun Rk kR=>?_
 show⟨_,U,P0,U,⟨_,aE.of pap.hP⟩,fun C hC=>?_⟩
 show bo (xs:=ps) (fun(i:Nat) Hx=>ag H Hx/\∃ks:List Bool,ks.length=i/\ks.all id=true/\Hx C=some (.lst (ks.map V.bl))) ⟨af hC _,[],U,U,ae⟩ (fun i Hx y z=>aE.of (z.1 _ _ pap.hP)) (fun i x0 Hx hx z=>?_) (fun Hx z=>?_)
 . obtain⟨sx,ks,kl,ka,gC⟩:=z
   have cX:i<ps.length:=(aT hx)
   obtain⟨e,he,le⟩:=Paired.get pap.pp hx
   obtain⟨B,I,N,vb,vn,ins,hp,hB,pb,hN,pn,hI⟩:=(pap.g1.same sx).ex
   obtain⟨B2,I2,N2,Ga,xD,WU,eY,xO,FZ,Nt,JE,Y3⟩:=(pap.g2.same sx).ex
   obtain⟨n1,n2,a1,Uu,ep,ep',ow,uv,_⟩:=pap.sim.hat e (ZZ he)
   have q1:=(aT ow)
   have q2:=(aT uv)
   have v1:=Paired.length pn
   have v2:=Paired.length JE
   show ai ?_
   show bI (A:=fun H5=>cp _ C _ H5 _) ?_
   show⟨_,U,_,U,_,U,p1,p2,B,I,N,B2,I2,N2,x0,sm e.1,vn,xD,e,U,hp,eY,hN,Nt,iX.keep (ag.tk sx) le,by lia,by lia,by lia,by lia,fun H5 s5=>?_⟩
   show⟨_,s5 _ _ gC,aC (by rw[ZW];lia),aD (Pv:=fun(i:Nat) Hx=>ag H Hx/\∃ks:List Bool,ks.length=i/\ks.all id=true/\Hx C=some (.lst (ks.map V.bl))) (by repeat' constructor) cX ⟨av (aa sx s5) hC,ks++[true],by rw[Z1,kl];rfl,by rw[List.all_append,ka];rfl,by rw[ae,Z9];rfl⟩⟩
 obtain⟨sx,ks,kl,ka,gC⟩:=z
 show⟨C,ks,U,aE.of gC,_,U,aA (by rw[ka];rfl) (kR _ _ ?_)⟩
 show ak fun Rk kR=>?_
 have lx:=Rl.of gH sx
 have Jo:=pap.rl gH lx
 show⟨_,U,P0,ps,sm,lv,U,Jo.hP,Jo.pp,l9,fun D H2 s2 nD th=>?_⟩
 show ai (kR _ _ ?_)
 show aq [some (.ref r),some (.ref p1),some (.ref p2),some (.ref P0),some (.ref D),none,none,none,none,none,none] U ?_
 show ak fun Rk kR=>?_
 have l2:=lx.trans (Rl.of lx.rl s2)
 have O0:=pap.rl gH l2
 show⟨_,U,_,U,_,U,_,U,r,p1,p2,D,sm,se,bs,nds,nds',lv,R,U,l2.rl,O0.Ti th,fun H3 l3=>⟨_,U,aA rfl (kR _ _ ?_)⟩⟩
 show ak fun Rk kR=>?_
 have Ij:=l2.trans l3
 have XO:=pap.rl gH Ij
 have Yc:=th.rl l2.rl l3
 show⟨8,U,by left,by left,?_⟩
 show kh (lo:=0) (n:=8) (fun i σ Hy=>(∃o5 o6 o7 o8 o9 o10,σ=[some (.ref r),some (.ref p1),some (.ref p2),some (.ref P0),some (.ref D),o5,o6,o7,o8,o9,o10])/\Rl r H3 Hy) ⟨⟨_,_,_,_,_,_,U⟩,Rl.refl Ij.rl⟩ ?_ ?_
 . rintro i σ Hy hi ⟨⟨o5,o6,o7,o8,o9,o10,rfl⟩,ly⟩
   have OG:=Ij.trans ly
   have O3:=pap.rl gH OG
   have pos:1<=ps.length:=by
     obtain⟨f0,Ax,_⟩:=pap.sim.zero
     have:=ad0 Ax
     lia
   have oI:(900:Int)<2^110:=by left
   show ai ?_
   show aq [some (.ref r),some (.ref p1),some (.ref p2),some (.ref P0),some (.ref D),some (.int (0+(i:Int))),o6,o7,o8,o9,o10] U ?_
   show ak fun Rk kR=>?_
   show⟨_,U,_,U,_,U,P0,_,U,.inl (aE.of O3.hP),r,(ps.length:Int),U,OG.rl,by lia,by lia,fun k Hk k0 k1 lk=>?_⟩
   have Dl:=OG.trans lk
   have D9:=pap.rl gH Dl
   obtain⟨x0,C4⟩ : ∃x0,ps[k.toNat]?=some x0:=⟨ps[k.toNat]'(by lia),Z3 (by lia)⟩
   have hat:gY ps k=some x0:=by
     have:=aZ C4
     rw[aal k0]at this
     show this
   obtain⟨e,he,le⟩:=Paired.get D9.pp C4
   obtain⟨pe,rfl,kq⟩:=le
   show dF D9.hP hat ?_
   show ai (kR _ _ ?_)
   show aq [some (.ref r),some (.ref p1),some (.ref p2),some (.ref P0),some (.ref D),some (.int (0+(i:Int))),some (.ref pe),o7,o8,o9,o10] U ?_
   show ak fun Rk kR=>?_
   obtain⟨B,I,N,vb,vn,ins,hp,hB,pb,hN,pn,hI⟩:=D9.g1.ex
   have oE:=Paired.length pb
   have Br:=cw Dl.rl hB (cS pb fun _ _ ⟨_,z,_⟩=>nomatch z)
   show⟨_,U,?_⟩
   show aH hp U ?_
   show⟨B,U,⟨_,aE.of hB⟩,fun C1 Nm=>?_⟩
   have Qj:=Dl.rl.ne Nm
   show bo (xs:=vb) (fun(k:Nat) Hz=>Rl r Hk Hz/\∃zs:List Int,Hz C1=some (.lst (zs.map V.int))/\iZ (bs.take k) zs) ⟨Rl.new Dl.rl Nm,[],ae,by rw[aaT];show .nil⟩ (fun k Hz y z=>aE.of (z.1.k _ _ Br hB)) (fun k x0 Hz hx z=>?_) (fun Hz z=>?_)
   . obtain⟨lz,zs,gC,zl⟩:=z
     have Qg:=zl.len
     rw[aac]at Qg
     have NU:k<vb.length:=(aT hx)
     obtain⟨b,gm,jV,rfl,m7⟩:=Paired.get pb hx
     have uv:=pap.bt.sz b (ZZ gm)
     have NH:=pap.bt.s9 b (ZZ gm)
     have oI:(16:Int)<2^110:=by left
     show kT (Rl.tk Dl.rl lz _ _ m7) ?_
     show bI (A:=fun H5=>cp _ C1 _ H5 _) ?_
     show⟨_,U,_,U,r,b.2,U,lz.rl,by lia,by lia,fun v Hv v0 v1 Ip=>?_⟩
     have MX:=Ip.k _ _ Qj gC
     show⟨_,MX,aC (by rw[ZW];lia),aD (Pv:=fun(k:Nat) Hz=>Rl r Hk Hz/\∃zs:List Int,Hz C1=some (.lst (zs.map V.int))/\iZ (bs.take k) zs) (by repeat' constructor) NU ⟨Rl.put (lz.trans Ip) Qj Nm,zs++[v],by rw[ae,Z9];rfl,by rw[aad,gm];show Paired.snoc zl ⟨v0,v1⟩⟩⟩
   obtain⟨Sd,ms,gC,qR⟩:=z
   show⟨C1,_,U,(.inl (.inl gC)),fun a0 Hs=>?_⟩
   have Tc:=af Hs (.tup (ms.map V.int))
   have M4:(upd Hz a0 (.tup (ms.map V.int))) a0=some (.tup (ms.map V.int)):=ae
   generalize upd Hz a0 (.tup (ms.map V.int))=Hm at Tc M4 ⊢
   have lm:=Sd.trans (Rl.of Sd.rl Tc)
   show ai (kR _ _ ?_)
   show aq [some (.ref r),some (.ref p1),some (.ref p2),some (.ref P0),some (.ref D),some (.int (0+(i:Int))),some (.ref pe),some (.ref a0),o8,o9,o10] U ?_
   show ak fun Rk kR=>?_
   show⟨_,U,?_⟩
   show ai (kR _ _ ?_)
   show aq [some (.ref r),some (.ref p1),some (.ref p2),some (.ref P0),some (.ref D),some (.int (0+(i:Int))),some (.ref pe),some (.ref a0),some (.ref a0),o9,o10] U ?_
   show ak fun Rk kR=>?_
   have Ik:=Dl.trans lm
   rw[oE,aag]at qR
   have fin:∀(b0:Addr) (ys:List Int) (Hq:Hp),Rl r Hm Hq->Hq b0=some (.tup (ys.map V.int))->iZ bs ys->Rk [some (.ref r),some (.ref p1),some (.ref p2),some (.ref P0),some (.ref D),some (.int (0+(i:Int))),some (.ref pe),some (.ref a0),some (.ref b0),o9,o10] Hq:=fun b0 ys Hq lq G3 yl=>by
     have Sa:=Ik.trans lq
     have Ea:=pap.rl gH Sa
     have GZ:=Rl.tk Ik.rl lq _ _ M4
     have Ob:=Rl.tk Dl.rl (lm.trans lq) _ _ kq
     have Yd:=Yc.rl Ij.rl (ly.trans (lk.trans (lm.trans lq)))
     show kR _ _ ?_
     show ak fun Rk kR=>?_
     show⟨_,U,_,U,_,U,_,U,p1,p2,a0,b0,bs,ms,ys,U,Ea.g1.bx,Ea.g2.bx,GZ,G3,qR.len,yl.len,l4,pap.bt.nd,fun D2 H5 s5 Dt kn=>?_⟩
     show ai (kR _ _ ?_)
     show aq [some (.ref r),some (.ref p1),some (.ref p2),some (.ref P0),some (.ref D),some (.int (0+(i:Int))),some (.ref pe),some (.ref a0),some (.ref b0),some (.ref D2),o10] U ?_
     show ak fun Rk kR=>?_
     have jX:=(Ea.Ti Yd).same s5
     have HU:=s5 _ _ Ob
     have l5:=ly.trans (lk.trans (lm.trans (lq.trans (Rl.of Sa.rl s5))))
     show⟨_,U,_,U,?_⟩
     show aH HU U ?_
     show⟨_,U,?_⟩
     show aH HU U ?_
     show⟨_,U,D,D2,_,_,sm,se,lv,bs,R,_,U,jX.th,l9,jX.cn,kn,fun hh x6 e6 H6 s6 yw FE MC uy=>?_,fun z H6 s6=>?_⟩
     . have vt:=uy
       obtain⟨Eb,rfl,CU⟩:=uy
       have hR:R e.1 ms ys:=(pap.cn.iff e (ZZ he) ms ys qR yl).mp hh
       show ai (kR _ _ ?_)
       show aq [some (.ref r),some (.ref p1),some (.ref p2),some (.ref P0),some (.ref D),some (.int (0+(i:Int))),some (.ref pe),some (.ref a0),some (.ref b0),some (.ref D2),some (.ref Eb)] U ?_
       show⟨_,U,U,_,U,?_⟩
       rw[V.dN]
       show cJ ?_
       have xS:=aa s5 s6
       show⟨_,U,_,U,_,U,_,U,_,U,_,U,_,U,p1,p2,D,a0,b0,D2,.ref Eb,sm,se,bs,nds,nds',lv,R,e6,ms,ys,_,U,jX.same s6,yw,vt,xS _ _ GZ,xS _ _ G3,by rw[FE];show hR,kn.same s6,fun H7 s7=>⟨_,U,aA rfl ?_⟩⟩
       show⟨⟨_,_,_,_,_,_,U⟩,l5.trans (Rl.of l5.rl (aa s6 s7))⟩
     . show ai (kR _ _ ?_)
       show⟨_,U,U,_,U,aA (by left) ?_⟩
       show⟨⟨_,_,_,_,_,_,U⟩,l5.trans (Rl.of l5.rl s6)⟩
   show⟨_,U,r,2,U,Ik.rl,by left,by left,fun k2 Hw RY RZ lw=>⟨U,_,U,?_⟩⟩
   show bE (fun c=>?_) (fun c=>?_)
   . have Il:=Ik.trans lw
     have O2:=pap.rl gH Il
     obtain⟨B,I,N,vb,vn,ins,hp,hB,pb,hN,pn,hI⟩:=O2.g1.ex
     have oE:=Paired.length pb
     have Br:=cw Il.rl hB (cS pb fun _ _ ⟨_,z,_⟩=>nomatch z)
     show⟨_,U,?_⟩
     show aH hp U ?_
     show⟨B,U,⟨_,aE.of hB⟩,fun C2 Nn=>?_⟩
     have Qk:=Il.rl.ne Nn
     show bo (xs:=vb) (fun(k:Nat) Hz=>Rl r Hw Hz/\∃zs:List Int,Hz C2=some (.lst (zs.map V.int))/\iZ (bs.take k) zs) ⟨Rl.new Il.rl Nn,[],ae,by rw[aaT];show .nil⟩ (fun k Hz y z=>aE.of (z.1.k _ _ Br hB)) (fun k x0 Hz hx z=>?_) (fun Hz z=>?_)
     . obtain⟨lz,zs,gC,zl⟩:=z
       have Qg:=zl.len
       rw[aac]at Qg
       have NU:k<vb.length:=(aT hx)
       obtain⟨b,gm,jV,rfl,m7⟩:=Paired.get pb hx
       have uv:=pap.bt.sz b (ZZ gm)
       have NH:=pap.bt.s9 b (ZZ gm)
       have oI:(16:Int)<2^110:=by left
       show kT (Rl.tk Il.rl lz _ _ m7) ?_
       show bI (A:=fun H5=>cp _ C2 _ H5 _) ?_
       show⟨_,U,_,U,r,b.2,U,lz.rl,by lia,by lia,fun v Hv v0 v1 Ip=>?_⟩
       have MX:=Ip.k _ _ Qk gC
       show⟨_,MX,aC (by rw[ZW];lia),aD (Pv:=fun(k:Nat) Hz=>Rl r Hw Hz/\∃zs:List Int,Hz C2=some (.lst (zs.map V.int))/\iZ (bs.take k) zs) (by repeat' constructor) NU ⟨Rl.put (lz.trans Ip) Qk Nn,zs++[v],by rw[ae,Z9];rfl,by rw[aad,gm];show Paired.snoc zl ⟨v0,v1⟩⟩⟩
     obtain⟨Se,ys,gC,qR⟩:=z
     show⟨C2,_,U,(.inl (.inl gC)),fun b0 hb0=>?_⟩
     have Tf:=af hb0 (.tup (ys.map V.int))
     have G3:(upd Hz b0 (.tup (ys.map V.int))) b0=some (.tup (ys.map V.int)):=ae
     generalize upd Hz b0 (.tup (ys.map V.int))=Hn at Tf G3 ⊢
     have ln:=Se.trans (Rl.of Se.rl Tf)
     show ai ?_
     rw[oE,aag]at qR
     show fin b0 ys _ (lw.trans ln) G3 qR
   . show fin a0 ms _ lw (Rl.tk Ik.rl lw _ _ M4) qR
 . rintro σ Hy ⟨⟨o5,o6,o7,o8,o9,o10,rfl⟩,ly⟩
   show kR _ _ ?_
   show q _ (Ij.trans ly)
abbrev Ph:Stmt:=top 50
abbrev S3:Stmt:=top 55
theorem cQ {x z:Str}{t:Int}:∀{bs:ao} {ws:List Int},bs.length=ws.length->(bs.map (·.1)).Nodup->z∈bs.map (·.1)->fi bs (eZ bs ws x t) z=if z=x then t%kP bs x else fi bs ws z
 | [],_,_,_,h=>nomatch h
 | _::_,[],h,_,_=>by simp at h
 | b::bs,w::ws,hl,nd,hz=>by
   obtain⟨h1,h2⟩:=List.nodup_cons.mp (show(b.1::bs.map (·.1)).Nodup from nd)
   have hl:bs.length=ws.length:=by simpa using hl
   change(if b.1=z then(if b.1=x then t%b.2 else w)else fi bs (eZ bs ws x t) z)=if z=x then t%kP (b::bs) x else if b.1=z then w else fi bs ws z
   by_cases e:b.1=z
   . rw[ba e,ba e]
     by_cases c:z=x
     . rw[ba (e.trans c),ba c]
       have:kP (b::bs) x=b.2:=by rw[← c,← e];show gU nd b (aY (.inl rfl))
       rw[this]
     . rw[aQ (fun q=>c (e.symm.trans q)),aQ c]
   . rw[aQ e,aQ e]
     have WQ:z∈bs.map (·.1):=(bT hz).resolve_left (fun q=>e q.symm)
     rw[cQ hl h2 WQ]
     by_cases c:z=x
     . rw[ba c,ba c]
       have:kP (b::bs) x=kP bs x:=by
         unfold kP
         rw[abJ (fun q=>e ((iN q).trans c.symm))]
       rw[this]
     . rw[aQ c,aQ c]
theorem mB:∀{bs:ao} {ms ys:List Int},bs.length=ms.length->bs.length=ys.length->(bs.map (·.1)).Nodup->(∀z∈bs.map (·.1),fi bs ms z=fi bs ys z)->ms=ys
 | [],[],[],_,_,_,_=>rfl
 | [],_::_,_,h,_,_,_=>by simp at h
 | [],[],_::_,_,h,_,_=>by simp at h
 | _::_,[],_,h,_,_,_=>by simp at h
 | _::_,_::_,[],_,h,_,_=>by simp at h
 | b::bs,m::ms,y::ys,h1,h2,nd,h=>by
   obtain⟨n1,n2⟩:=List.nodup_cons.mp (show(b.1::bs.map (·.1)).Nodup from nd)
   have e0:m=y:=by
     have:=h b.1 (aY (.inl rfl))
     have:(if b.1=b.1 then m else fi bs ms b.1)=(if b.1=b.1 then y else fi bs ys b.1):=this
     rwa[ba rfl,ba rfl]at this
   rw[e0,mB (bs:=bs) (ms:=ms) (ys:=ys) (by simpa using h1) (by simpa using h2) n2 fun z hz=>?_]
   have:=h z (aY (.inr hz))
   have:(if b.1=z then m else fi bs ms z)=(if b.1=z then y else fi bs ys z):=this
   have ne:¬ b.1=z:=fun q=>n1 (q▸hz)
   rwa[aQ ne,aQ ne]at this
theorem mC:∀{bs:ao} {ms:List Int},iZ bs ms->(bs.map (·.1)).Nodup->∀b∈bs,0<=fi bs ms b.1/\fi bs ms b.1<b.2
 | [],_,_,_,_,h=>nomatch h
 | a::bs,_::_,.cons r rs,nd,b,hb=>by
   obtain⟨n1,n2⟩:=List.nodup_cons.mp (show(a.1::bs.map (·.1)).Nodup from nd)
   change 0<=(if a.1=b.1 then _ else _)/\(if a.1=b.1 then _ else _)<b.2
   rcases bT hb with e|e
   . subst e
     rw[ba rfl]
     show r
   . have ne:¬ a.1=b.1:=fun q=>n1 (q▸fS ⟨b,e,rfl⟩)
     rw[aQ ne]
     show mC rs n2 b e
def nA {ns:List Str}{y:Str}{W W':Str->Int}(h:∀z∈ns,z≠y->W z=W' z):∀{e:E},e.okIn (jN ns)->e.nm y=false->e.worth (fun w z=>W z)=e.worth (fun w z=>W' z):=fun{e}=>by
 induction e with
 | num _=>show fun w w=>rfl
 | box t x=>
   intro ok n
   show h x ok.2 fun q=>?_
   have n:(decide (t="box")&&decide (x=y))=false:=n
   rw[dE ok.1,dE q]at n
   cases n
 | yes=>show fun w w=>rfl
 | nt a ih=>show fun w w=>rfl
 | two k a b ia ib=>
   intro ok n
   have n:(a.nm y || b.nm y)=false:=n
   rw[Bool.or_eq_false_iff]at n
   have h1:=ia ok.1 n.1
   have h2:=ib ok.2 n.2
   cases k with
   | plus=>change _+_=_+_;rw[h1,h2]
   | less=>change _-_=_-_;rw[h1,h2]
   | same=>rfl
   | under=>rfl
   | both=>rfl
def rW (bs:ao)(b:Int)(x y:Str)(e e2:E)(p:Int)(ms ys:List Int):Prop:=iZ bs ms/\iZ bs ys/\if p=b then((∀z∈bs.map (·.1),z≠x->z≠y->fi bs ms z=fi bs ys z)/\fi bs ms x=e.worth (fun w z=>fi bs ys z)%kP bs x/\fi bs ys y=e2.worth (fun w z=>fi bs ms z)%kP bs y)else ms=ys
def dP {bs:ao}{ms ys:List Int}(z:Str):W2 bs ms ys "mine" z=fi bs ms z:=ba rfl
def dh {bs:ao}{ms ys:List Int}(z:Str):W2 bs ms ys "yours" z=fi bs ys z:=aQ (by left)
def Gz {K:ZV}{H:Hp}{sm:Int->V}{se:Int->E}{bs:ao}{lv:List (Int×Int×Str)}{b:Int}{x y:Str}{e e2:E}(nd:(bs.map (·.1)).Nodup)(ek:∀f∈lv,EK K H (sm f.1) (se f.1))(cd:∀f∈lv,iV bs b x y e e2 f.1 (se f.1)):xH K H sm se bs lv (rW bs b x y e e2):=by
 show⟨ek,fun f hf=>(cd f hf).c,fun f hf=>(cd f hf).ok,fun f hf=>(cd f hf).dp,fun f hf ms ys r1 r2=>?_⟩
 have rg:∀t:Str,(t="mine"\/t="yours")->∀b∈bs,0<=W2 bs ms ys t b.1/\W2 bs ms ys t b.1<b.2:=fun t ht b hb=>by
   rcases ht with rfl|rfl
   . rw[dP]
     show mC r1 nd b hb
   . rw[dh]
     show mC r2 nd b hb
 rw[(cd f hf).iff _ rg]
 have ey:(fun(_ z:Str)=>W2 bs ms ys "yours" z)=fun w z=>fi bs ys z:=by funext _ z;show dh z
 have em:(fun(_ z:Str)=>W2 bs ms ys "mine" z)=fun w z=>fi bs ms z:=by funext _ z;show dP z
 unfold rW
 rw[ey,em,dP,dh]
 by_cases c:f.1=b
 . rw[ba c,ba c]
   show⟨fun h=>⟨r1,r2,fun z hz z1 z2=>by have:=h.1 z hz z1 z2;rwa[dP,dh]at this,h.2⟩,fun h=>⟨fun z hz z1 z2=>by rw[dP,dh];show h.2.2.1 z hz z1 z2,h.2.2.2⟩⟩
 . rw[aQ c,aQ c]
   show⟨fun h=>⟨r1,r2,mB r1.len r2.len nd fun z hz=>by have:=h z hz;rwa[dP,dh]at this⟩,fun h z w=>by rw[dP,dh,h.2.2]⟩
def uf {bs:ao}{ws:List Int}:∀{a:Np},a.hd≠"end"->∃s n ws',ip bs ws a=some (s,n,ws')/\n∈a.aU
 | .put x s n,_=>⟨_,n,_,rfl,List.mem_singleton.mpr rfl⟩
 | .say s n,_=>⟨_,n,_,rfl,List.mem_singleton.mpr rfl⟩
 | .pick x n,_=>⟨_,n,_,rfl,List.mem_singleton.mpr rfl⟩
 | .test c n o,_=>by
   show⟨_,_,_,U,?_⟩
   change(if c.holds (wB bs ws)then n else o)∈[n,o]
   split
   . show aY (.inl rfl)
   . show aY (.inr (List.mem_singleton.mpr rfl))
 | .fin,h=>aB rfl h
theorem qP {nds:List Np}{nd j:Nat}{e:Np}(hj:j≠nd)(h:nds[j]?=some e):∀{i:Nat},j<i->e∈lY nds nd i
 | 0,hi=>aB hi (adx _)
 | i+1,hi=>by
   change e∈lY nds nd i++_
   by_cases c:j<i
   . show iz (.inl (qP hj h c))
   . have:j=i:=by lia
     subst this
     rw[aQ hj,h]
     show iz (.inr (List.mem_singleton.mpr rfl))
def gv {nds:List Np}{nd j:Nat}{e:Np}{b:Int}(co:ck nds nd b=false)(hj:j≠nd)(h:nds[j]?=some e):b∉e.aU:=fun hb=>by
 unfold ck at co
 have:=List.any_eq_false.mp co e (qP hj h (aT h))
 show this (dE hb)
def yF {nds:List Np}{j:Nat}{a:Np}(h:nds[j]?=some a):((j:Int),(j:Int),a.hd)∈jM nds:=by
 obtain⟨h1,h2⟩:=List.getElem?_eq_some_iff.mp h
 unfold jM
 show List.mem_mapIdx.mpr ⟨j,h1,by rw[h2]⟩
def CD:∀{a:Np},a.hd="end"->a=.fin
 | .fin,_=>rfl
 | .put _ _ _,h=>aB (show("put":Str)="end" from h) (by left)
 | .say _ _,h=>aB (show("say":Str)="end" from h) (by left)
 | .test _ _ _,h=>aB (show("test":Str)="end" from h) (by left)
 | .pick _ _,h=>aB (show("pick":Str)="end" from h) (by left)
def sN {bs:ao}{nds:List Np}{nd:Nat}{x y:Str}{e e2:E}{b b2:Int}(bt:Gg bs)(ld:∀a∈nds,∀l∈a.aU,0<=l/\l<(nds.length:Int))(h1:nds[nd]?=some (.put x e b))(h2:nds[b.toNat]?=some (.put y e2 b2))(b0:b≠0)(bn:b≠(nd:Int))(co:ck nds nd b=false)(xy:x≠y)(n1:e.nm y=false)(n2:e2.nm x=false)(xin:x∈bs.map (·.1))(yin:y∈bs.map (·.1))(o1:e.okIn (jN (bs.map (·.1))))(o2:e2.okIn (jN (bs.map (·.1)))):x5 bs nds (lF nds nd x y e e2 b b2) (jM nds) (rW bs b x y e e2):=by
 have bl:=ld _ (ZZ h1) b (List.mem_singleton.mpr rfl)
 have KS:=ld _ (ZZ h2) b2 (List.mem_singleton.mpr rfl)
 have uz:=(aT h1)
 have UE:=(aT h2)
 have MD:((b.toNat:Nat):Int)=b:=aal bl.1
 have nb:b.toNat≠nd:=by lia
 have inl:∀n:Int,0<=n->n<(nds.length:Int)->∃f∈jM nds,f.1=n/\f.2.1=n:=fun n n0 n1=>by
   have hl:n.toNat<nds.length:=by lia
   show⟨_,yF (Z3 hl),aal n0,aal n0⟩
 show⟨fun f hf=>?_,?_,fun p ms ys h=>⟨h.1,h.2.1⟩,fun ms r=>⟨r,r,?_⟩⟩
 rotate_left
 . show inl 0 (by lia) (by lia)
 . rw[aQ (fun q=>b0 q.symm)]
 unfold jM at hf
 obtain⟨j,hj,rfl⟩:=List.mem_mapIdx.mp hf
 have oz:nds[j]?=some nds[j]:=Z3 hj
 generalize nds[j]=a at oz
 by_cases cb:j=b.toNat
 . subst cb
   rw[h2]at oz
   cases oz
   show⟨b.toNat,b.toNat,_,.put x e b2,U,U,h2,?_,U,fun q=>aB (show("put":Str)="end" from q) (by left),fun w ms ys hR=>?_⟩
   . unfold lF
     rw[aa4 (by rw[aaD];show UE)]
   . have hR:rW bs b x y e e2 ((b.toNat:Nat):Int) ms ys:=hR
     rw[MD]at hR
     obtain⟨r1,r2,hh⟩:=hR
     rw[ba rfl]at hh
     obtain⟨k1,k2,k3⟩:=hh
     show⟨[],b2,b2,_,_,U,U,⟨r1.put bt.sz,r2.put bt.sz,?_⟩,inl b2 KS.1 KS.2⟩
     have UB:¬ b2=b:=fun q=>gv co nb h2 (List.mem_singleton.mpr q.symm)
     rw[aQ UB]
     show mB (r1.put bt.sz).len (r2.put bt.sz).len bt.nd fun z hz=>?_
     rw[cQ r1.len bt.nd hz,cQ r2.len bt.nd hz]
     by_cases cy:z=y
     . rw[ba cy,aQ (fun q=>xy (q.symm.trans cy)),cy,k3]
       rfl
     . rw[aQ cy]
       by_cases cx:z=x
       . rw[ba cx,cx,k2]
         rfl
       . rw[aQ cx]
         show k1 z hz cx cy
 by_cases cn:j=nd
 . subst cn
   rw[h1]at oz
   cases oz
   show⟨j,j,_,.put y e2 b,U,U,h1,?_,U,fun q=>aB (show("put":Str)="end" from q) (by left),fun w ms ys hR=>?_⟩
   . unfold lF
     rw[abc (fun q=>cb q.symm),aa4 uz]
   . obtain⟨r1,r2,hh⟩:=hR
     have hne:¬ (j:Int)=b:=fun q=>bn q.symm
     have hh:if(j:Int)=b then _ else ms=ys:=hh
     rw[aQ hne]at hh
     subst hh
     show⟨[],b,b,_,_,U,U,⟨r1.put bt.sz,r1.put bt.sz,?_⟩,inl b bl.1 bl.2⟩
     rw[ba rfl]
     show⟨fun z hz z1 z2=>?_,?_,?_⟩
     . rw[cQ r1.len bt.nd hz,cQ r1.len bt.nd hz,aQ z1,aQ z2]
     . rw[cQ r1.len bt.nd xin,ba rfl]
       have:e.worth (fun w z=>fi bs ms z)=e.worth (fun w z=>fi bs (eZ bs ms y (e2.worth (wB bs ms))) z):=nA (fun z hz zy=>by rw[cQ r1.len bt.nd hz,aQ zy]) o1 n1
       rw[← this]
       rfl
     . rw[cQ r1.len bt.nd yin,ba rfl]
       have:e2.worth (fun w z=>fi bs ms z)=e2.worth (fun w z=>fi bs (eZ bs ms x (e.worth (wB bs ms))) z):=nA (fun z hz zx=>by rw[cQ r1.len bt.nd hz,aQ zx]) o2 n2
       rw[← this]
       rfl
 . show⟨j,j,a,a,U,U,oz,?_,U,CD,fun he ms ys hR=>?_⟩
   . unfold lF
     rw[abc (fun q=>cb q.symm),abc (fun q=>cn q.symm),oz]
   . obtain⟨r1,r2,hh⟩:=hR
     have hne:¬ (j:Int)=b:=fun q=>cb (by lia)
     have hh:if(j:Int)=b then _ else ms=ys:=hh
     rw[aQ hne]at hh
     subst hh
     obtain⟨s,n,ws',hs,hn⟩:=uf (bs:=bs) (ws:=ms) he
     have rg:=xm r1 bt.sz hs
     have nl:=ld a (ZZ oz) n hn
     show⟨s,n,n,ws',ws',hs,hs,⟨rg,rg,?_⟩,inl n nl.1 nl.2⟩
     rw[aQ (fun(q:n=b)=>gv co cn oz (by rw[← q];show hn))]
def E.eW:E->List Str
 | .box _ x=>[x]
 | .two _ a b=>a.eW++b.eW
 | _=>[]
theorem iC:∀e:E,e.eW.length<=2^e.dep
 | .num _=>aan _
 | .yes=>aan _
 | .box _ _=>Z0 1
 | .nt _=>aan _
 | .two _ a b=>by
   have h1:=iC a
   have h2:=iC b
   have p1:2^a.dep<=2^(max a.dep b.dep):=abd (by left) (by lia)
   have p2:2^b.dep<=2^(max a.dep b.dep):=abd (by left) (by lia)
   change(a.eW++b.eW).length<=2^(max a.dep b.dep+1)
   rw[Z1,Nat.pow_succ]
   lia
def lR {ns:List Str}{y:Str}:∀{e:E},e.okIn (jN ns)->e.dZ->(e.nm y=true↔y∈e.eW):=fun{e}=>by
 induction e with
 | num _=>show fun z z=>⟨fun h=>(by cases h),fun h=>nomatch h⟩
 | box t x=>
   intro ok _
   have e9:(E.box t x).nm y=(decide (t="box")&&decide (x=y)):=rfl
   rw[e9,dE ok.1,Bool.true_and,decide_eq_true_iff]
   show⟨fun h=>List.mem_singleton.mpr h.symm,fun h=>(bU h).symm⟩
 | yes=>show fun z h=>h.elim
 | nt a ih=>show fun z h=>h.elim
 | two k a b ia ib=>
   intro ok is
   have hs:a.dZ/\b.dZ:=by
     cases k with
     | plus=>show is
     | less=>show is
     | same=>show is.elim
     | under=>show is.elim
     | both=>show is.elim
   change(a.nm y || b.nm y)=true↔y∈a.eW++b.eW
   rw[Bool.or_eq_true,ia ok.1 hs.1,ib ok.2 hs.2,List.mem_append]
def cK.PU {H:Hp}:∀{e:E} {v:V},cK H v e->∃p xs,v=.ref p/\H p=some (.tup xs)
 | .num _,_,⟨p,h,a⟩=>⟨p,_,h,a⟩
 | .box _ _,_,⟨p,h,a⟩=>⟨p,_,h,a⟩
 | .yes,_,⟨p,h,a⟩=>⟨p,_,h,a⟩
 | .nt _,_,⟨_,⟨p,h,a⟩,_⟩=>⟨p,_,h,a⟩
 | .two _ _ _,_,⟨_,_,⟨p,h,a⟩,_⟩=>⟨p,_,h,a⟩
def nX (n:Nat):Sp:=fun vs H Q z=>∃(v:V) (e:E) (ns:List Str),vs=[v]/\cK H v e/\e.dZ/\e.okIn (jN ns)/\e.dep<n/\n<=8/\∀(l:Addr) (H':Hp),ag H H'->H' l=some (.lst (e.eW.map V.str))->Q (.ref l) H'
def yK {f:Addr}{fd:aaa}:aK P w K mg base bJ 1 f fd ["told"] (nX 0):=by
 have no:∀vs H Q E,¬ nX 0 vs H Q E:=fun vs H Q E h=>by
   obtain⟨v,e,ns,_,_,_,_,h,_⟩:=h
   lia
 show⟨fun vs H Q E h=>aB h (no vs H Q E),fun A outer s H args us vs Q E z z z z h=>aB h (no vs H Q E)⟩
def zW:az ["told","found","part"] ["told"] (aj Ph):=cU
def II {n:Nat}{f:Addr}{fd:aaa}(F:bQ K "_law_boxes_in" "_law_boxes_in" Ph f fd)(m_isinstance:mg "isinstance"=none)(m_tuple:mg "tuple"=none)(G:aO P w K mg base "_law_boxes_in" ["told"] (n+1) (nX n)):aK P w K mg base bJ (n+1+1) f fd ["told"] (nX (n+1)):=by
 show F.df zW fun cdv A outer s H vs Q E hr h=>?_
 obtain⟨v,e,ns,rfl,ev,is,ok,dp,n8,q⟩:=h
 show cM ⟨_,(aeg (aeq (aeo aew (aeh aei (Y 0) aef) ael) (aej (aem (aeu (L (aeh aei (Y 0) aef) M)))) aer)
   (aeg (aen 1 zW.nd (aeu M))
   (aeg (aeJ (L3.iT (L3.J5 (Y 0) aef)) (aep 2 zW.nd) (aej (aeq (aeG (aex ae8 U m_isinstance (by right) (L (Y 2) (L (ae9 (w:=.ty "tuple") U m_tuple (by right) rfl) M)))) (aej (aen 1 zW.nd (aes aeV (Y 1) (aek G hr U (L (Y 2) M))))) aer)))
   (aej (aem (Y 1)))))),?_⟩
 show ak fun Rk kR=>?_
 match e,ev,is,ok,dp,q with
 | .box t x,ev,is,ok,dp,q=>
   obtain⟨p,rfl,hp⟩:=ev
   obtain⟨rfl,hx⟩:=ok
   show⟨_,U,?_⟩
   show aH hp U ?_
   show⟨U,_,U,aM (by left) ?_⟩
   show⟨_,U,?_⟩
   show aH hp U ?_
   show⟨agl,fun l hl=>q l _ (af hl _) ae⟩
 | .num m,ev,is,ok,dp,q=>
   obtain⟨p,rfl,hp⟩:=ev
   show⟨_,U,?_⟩
   show aH hp U ?_
   show⟨U,_,U,aA (by left) (kR _ _ ?_)⟩
   show ak fun Rk kR=>?_
   show⟨agk,fun F0 uu=>?_⟩
   have s1:=af uu (.lst [])
   have g1:(upd H F0 (.lst [])) F0=some (.lst (([]:List Str).map V.str)):=ae
   generalize upd H F0 (.lst [])=H1 at s1 g1 ⊢
   show ai (kR _ _ ?_)
   show aq [some (.ref p),some (.ref F0),none] U ?_
   show ak fun Rk kR=>?_
   show⟨_,U,_,U,p,_,U,aN.of (s1 _ _ hp),(fun z=>aB z.1 (show ¬ HT.bz 2 0 (some 1)=0 by left)),fun l hl=>?_⟩
   have ec:dj [V.str "number",.int m] (some 1) none=[.int m]:=rfl
   rw[ec]
   have s2:=af hl (.tup [.int m])
   have g2:(upd H1 l (.tup [.int m])) l=some (.tup [.int m]):=ae
   generalize upd H1 l (.tup [.int m])=H2 at s2 g2 ⊢
   show⟨l,U,⟨_,aN.of g2⟩,?_⟩
   show iG (xs:=[V.int m]) (fun i σ Hx=>(∃o2,σ=[some (.ref p),some (.ref F0),o2])/\ag H2 Hx) ⟨⟨_,U⟩,same_refl _⟩ (fun i σ Hx y z=>aN.of (z.2 _ _ g2)) (fun i x0 σ Hx hx z=>?_) (fun σ Hx z=>?_)
   . obtain⟨⟨o2,rfl⟩,sx⟩:=z
     obtain rfl:x0=.int m:=by
       match i,hx with
       | 0,hx=>cases hx;rfl
     show ai ?_
     show aq [some (.ref p),some (.ref F0),some (.int m)] U ?_
     show⟨_,U,.inl ⟨_,"tuple",_,false,U,di.int _,U,_,U,aA (by left) ⟨⟨_,U⟩,sx⟩⟩⟩
   obtain⟨⟨o2,rfl⟩,sx⟩:=z
   show kR _ _ ?_
   show⟨_,U,q F0 _ (aa s1 (aa s2 sx)) (sx _ _ (s2 _ _ g1))⟩
 | .two kk a b,ev,is,ok,dp,q=>
   obtain⟨u,w,⟨p,rfl,hp⟩,ea,eb⟩:=ev
   have dp:max a.dep b.dep+1<n+1:=dp
   obtain⟨hk,Ov,Ow⟩ : (kk=.plus\/kk=.less)/\a.dZ/\b.dZ:=by
     cases kk with
     | plus=>show⟨.inl rfl,is.1,is.2⟩
     | less=>show⟨.inr rfl,is.1,is.2⟩
     | same=>show is.elim
     | under=>show is.elim
     | both=>show is.elim
   show⟨_,U,?_⟩
   show aH hp U ?_
   show⟨rfl,_,rfl,aA (by rcases hk with rfl|rfl<;>decide) (kR _ _ ?_)⟩
   show ak fun Rk kR=>?_
   show⟨agk,fun F0 uu=>?_⟩
   have s1:=af uu (.lst [])
   have g1:(upd H F0 (.lst [])) F0=some (.lst (([]:List Str).map V.str)):=ae
   generalize upd H F0 (.lst [])=H1 at s1 g1 ⊢
   show ai (kR _ _ ?_)
   show aq [some (.ref p),some (.ref F0),none] U ?_
   show ak fun Rk kR=>?_
   show⟨_,U,_,U,p,_,U,aN.of (s1 _ _ hp),(fun z=>aB z.1 (show ¬ HT.bz 3 0 (some 1)=0 by left)),fun l hl=>?_⟩
   have ec:dj [V.str kk.str,u,w] (some 1) none=[u,w]:=rfl
   rw[ec]
   have s2:=af hl (.tup [u,w])
   have g2:(upd H1 l (.tup [u,w])) l=some (.tup [u,w]):=ae
   generalize upd H1 l (.tup [u,w])=H2 at s2 g2 ⊢
   have s12:=aa s1 s2
   have big:1000<=sizeLine:=by left
   have l1:=iC a
   have l2:=iC b
   have p1:2^a.dep<=2^8:=abd (by left) (by lia)
   have p2:2^b.dep<=2^8:=abd (by left) (by lia)
   have p8:(2:Nat)^8=256:=by left
   show⟨l,U,⟨_,aN.of g2⟩,?_⟩
   show iG (xs:=[u,w]) (fun i σ Hx=>(∃(F:Addr) (o2:Option V),σ=[some (.ref p),some (.ref F),o2]/\Hx F=some (.lst ((([a.eW,b.eW].take i).flatten).map V.str)))/\ag H2 Hx) ⟨⟨F0,_,U,s2 _ _ g1⟩,same_refl _⟩ (fun i σ Hx y z=>aN.of (z.2 _ _ g2)) (fun i x0 σ Hx hx z=>?_) (fun σ Hx z=>?_)
   . obtain⟨⟨F,o2,rfl,gF⟩,sx⟩:=z
     obtain⟨c,hc,ec,WV,XF,dc,lc⟩ : ∃c:TW.E,[a.eW,b.eW][i]?=some c.eW/\cK Hx x0 c/\c.dZ/\c.okIn (jN ns)/\c.dep<n/\c.eW.length<=256:=by
       match i,hx with
       | 0,hx=>cases hx;show⟨a,rfl,ea.keep (ag.tk (aa s12 sx)),Ov,ok.1,by lia,by lia⟩
       | 1,hx=>cases hx;show⟨b,rfl,eb.keep (ag.tk (aa s12 sx)),Ow,ok.2,by lia,by lia⟩
     obtain⟨pc,xs,rfl,Wq⟩:=ec.PU
     have i2:i<2:=(aT hx)
     have fl:(([a.eW,b.eW].take i).flatten).length<=256:=by
       match i,i2 with
       | 0,_=>show aan _
       | 1,_=>change(a.eW++[]).length<=256;rw[aaV];lia
     show ai ?_
     show aq [some (.ref p),some (.ref F),some (.ref pc)] U ?_
     show⟨_,U,.inl ⟨_,"tuple",_,true,U,di.tup Wq,U,_,U,aM (by left) ?_⟩⟩
     show⟨_,U,_,U,.ref pc,c,ns,U,ec,WV,XF,dc,by lia,fun l3 H3 s3 g3=>?_⟩
     show⟨F,l3,_,_,U,U,s3 _ _ gF,g3,(by rw[ZW,ZW];lia),fun l4 Wa=>?_⟩
     have s4:=af Wa (.lst (((([a.eW,b.eW].take i).flatten).map V.str)++c.eW.map V.str))
     show ai ?_
     show⟨⟨l4,_,U,?_⟩,aa sx (aa s3 s4)⟩
     rw[ae,aad,hc,List.flatten_append,Z9]
     change _=some (HO.lst (_++(c.eW++[]).map V.str))
     rw[aaV]
   obtain⟨⟨F,o2,rfl,gF⟩,sx⟩:=z
   show kR _ _ ?_
   have e9:([a.eW,b.eW].take [u,w].length).flatten=(TW.E.two kk a b).eW:=by
     change a.eW++(b.eW++[])=a.eW++b.eW
     rw[aaV]
   rw[e9]at gF
   show⟨_,U,q F _ (aa s12 sx) gF⟩
def Cw (s:Src K mg "_law_boxes_in" Ph)(m_isinstance:mg "isinstance"=none)(m_tuple:mg "tuple"=none):∀n:Nat,aO P w K mg base "_law_boxes_in" ["told"] (n+1) (nX n):=by
 obtain⟨f,fd,F,m⟩:=s
 have b:Binds K fd ["told"] []:=B7 F fun z z z z z z z=>rfl
 intro n
 have all:aK P w K mg base bJ (n+1) f fd ["told"] (nX n):=by
   induction n with
   | zero=>show yK
   | succ n ih=>show II F m_isinstance m_tuple ⟨f,fd,ih,F.kp,b,m⟩
 show⟨f,fd,all,F.kp,b,m⟩
def Hf {X:Cx}{a x y:Expr}{ta tb:TE}{pos p:Pos}(ho:L3.SE X a ta)(hi:L3.SE X (.Subscript x y p) tb):L3.SG X (.Subscript a (.Subscript x y p) pos) (yk ta tb rp):=⟨pK ho.h hi.h set_list (fun z=>rfl)⟩
theorem ji (x:Str):∀xs:List Str,oC (.str x) (xs.map V.str)=decide (x∈xs)
 | []=>by simp[oC]
 | y::r=>by
   have ih:=ji x r
   unfold oC at ih ⊢
   rw[aav,abg,ih]
   by_cases e:x=y
   . subst e
     simp[fA]
   . have e2:¬ y=x:=fun z=>e z.symm
     simp[fA,e,e2]
def P6:Np->List Int
 | .put _ _ n=>[n]|.say _ n=>[n]|.pick _ n=>[n]|.test _ _ o=>[o]|.fin=>[]
def J7:Sp:=fun vs H Q z=>∃(p B I N:Addr) (vb vn:List V) (bs:ao) (ins:List Str) (nds:List Np) (nd:Nat),vs=[.ref p,.int (nd:Int)]/\nd<nds.length/\H p=some (.tup [.ref B,.ref I,.ref N])/\oq H B I N vb vn bs ins nds/\(∀a∈nds,gq (bs.map (·.1)) (nds.length:Int) a)/\nds.length<=40 /\
 (¬ eg nds nd->∀H',ag H H'->Q .br H')/\(∀(x y:Str) (e e2:E) (b b2:Int),eg nds nd->nds[nd]?=some (.put x e b)->nds[b.toNat]?=some (.put y e2 b2)->∀(d F0:Addr) (us:List V) (H':Hp),ag H H'->H F0=none->H' d=some (.tup [.ref B,.ref I,.ref F0])->H' F0=some (.lst us)->Paired (aG H') us (lF nds nd x y e e2 b b2)->Q (.ref d) H')
def iA:az ["program","node","boxes","inputs","nodes","here","there","number","told","ways","found"] ["program","node"] (aj S3):=cU
def IS {f:Addr}{fd:aaa}(F:bQ K "_law_due" "_law_due" S3 f fd)(m_list:mg "list"=none)(m_enumerate:mg "enumerate"=none)(BI:aO P w K mg base "_law_boxes_in" ["told"] 8 (nX 7)):aK P w K mg base bJ 9 f fd ["program","node"] J7:=by
 show F.df iA fun cdv A outer s H vs Q E hr h=>?_
 obtain⟨p,B,I,N,vb,vn,bs,ins,nds,nd,rfl,uz,hp,pt,ok,Iw,qn,qo⟩:=h
 obtain⟨hB,hI,hN,pb,pn⟩:=pt
 have xV:=Paired.length pn
 have big:1000<=sizeLine:=by left
 obtain⟨x1,e1,hx1,mX,yG⟩:=dJ pn uz
 show cM ⟨_,(aeg (aeM (Y 0) (aeC 3 (aev (aep 2 iA.nd) (aev (aep 3 iA.nd) (aev (aep 4 iA.nd) aeB)))))
   (aeg (aen 5 iA.nd (aeh aey (Y 4) (Y 1)))
   (aeg (aeq (aeF (aeI (aeo aeX (aeh aei (Y 5) aef) ael) (aeI (aeo aew (aeh aei (Y 5) aef) (Y 1)) (aeI (aeo aew (aeh aei (Y 5) aef) aef) (aeP (aeo aeX (aeh aei (aeh aey (Y 4) (aeh aei (Y 5) aef)) aef) ael)))))) (aej (aem aeL)) aer)
   (aeg (aen 6 iA.nd (aeh aey (Y 4) (aeh aei (Y 5) aef)))
   (aeg (aeJ (L3.iE U m_enumerate (L (Y 4) M)) (aeC 2 (aev (aep 7 iA.nd) (aev (aep 8 iA.nd) aeB))) (aeg (aen 9 iA.nd (aeu M))
   (aeg (aeq (aeo aeX (aeh aei (Y 8) aef) ael) (aej (aen 9 iA.nd (aeu (L (aeh aei (Y 8) (afd aef)) M)))) aer)
   (aeg (aeq (aeo aew (aeh aei (Y 8) aef) ael) (aej (aen 9 iA.nd (aeu (L (aeh aei (Y 8) aef) (L (aeh aei (Y 8) aef) M))))) aer)
   (aej (aeq (aeF (ae1 (aeo aeX (Y 7) (Y 1)) (ae2 (aeo aeW (aeh aei (Y 5) aef) (Y 9) U)))) (aej (aem aeL)) aer))))))
   (aeg (aeq (aeF (aeI (aeo aew (aeh aei (Y 5) aef) (aeh aei (Y 6) aef)) (aeI (aeo aeW (aeh aei (Y 5) aef) (aek BI hr U (L (aeh aei (Y 6) aef) M)) U) (aeP (aeo aeW (aeh aei (Y 6) aef) (aek BI hr U (L (aeh aei (Y 5) aef) M)) U))))) (aej (aem aeL)) aer)
   (aeg (aen 10 iA.nd (aeH ae6 U m_list (by right) (L (Y 4) M)))
   (aeg (aeM (aes L3.jw (ae7 (Y 6) aef) (aet (L (aeh aei (Y 5) aef) M))) (L3.ki (Y 10) (Y 1)))
   (aeg (aeM (aes L3.jw (ae7 (Y 5) aef) (aet (L (aeh aei (Y 6) aef) M))) (Hf (Y 10) (aeh aei (Y 5) aef)))
   (aej (aem (aet (L (Y 2) (L (Y 3) (L (Y 10) M))))))))))))))),?_⟩
 show ak fun Rk kR=>?_
 show⟨_,U,?_⟩
 show TX hp ?_
 show kR _ _ ?_
 show aq [some (.ref p),some (.int (nd:Int)),some (.ref B),some (.ref I),some (.ref N),none,none,none,none,none,none] U ?_
 show ak fun Rk kR=>?_
 show⟨_,U,_,U,?_⟩
 show dF hN (aZ hx1) ?_
 show ai (kR _ _ ?_)
 show aq [some (.ref p),some (.int (nd:Int)),some (.ref B),some (.ref I),some (.ref N),some x1,none,none,none,none,none] U ?_
 show ak fun Rk kR=>?_
 rcases lS e1 with⟨x,m1,b,rfl⟩|nput
 rotate_left
 . obtain⟨px,as,rfl,fF⟩:=yG.head
   have no:¬ eg nds nd:=fun z=>by
     cases z with
     | mk h1=>rw[mX]at h1;cases h1;show nput rfl
   show⟨_,U,?_⟩
   show aH fF ot ?_
   show⟨U,_,U,?_⟩
   show aM (by rw[eX (fun z=>nput (by injection z))];rfl) (aM (by left) ?_)
   show qn no _ (same_refl _)
 obtain⟨u1,⟨p1,rfl,e7⟩,GO⟩:=yG
 have xR:=ok _ (ZZ mX)
 have bl:=xR.ld b (List.mem_singleton.mpr rfl)
 have UG:b.toNat<nds.length:=by lia
 have eb:((b.toNat:Nat):Int)=b:=aal bl.1
 obtain⟨x2,e2,hx2,oy,yH⟩:=dJ pn UG
 have jQ:gY vn b=some x2:=by
   have:=aZ hx2
   rw[eb]at this
   show this
 show⟨_,U,?_⟩
 show aH e7 U ?_
 show⟨U,_,U,aA (by left) ?_⟩
 show⟨_,U,?_⟩
 show aH e7 U ?_
 show⟨_,U,U,_,U,?_⟩
 by_cases K0:b=(nd:Int)
 . show aM (dE (congrArg V.int K0)) (aM (by left) ?_)
   show qn (fun z=>?_) _ (same_refl _)
   cases z with
   | mk h1 h2 b0 bn=>rw[mX]at h1;cases h1;show bn K0
 show aA (eX (fun z=>K0 (by injection z))) ?_
 show⟨_,U,?_⟩
 show aH e7 U ?_
 show⟨U,_,U,?_⟩
 by_cases KZ:b=0
 . show aM (dE (congrArg V.int KZ)) (aM (by left) ?_)
   show qn (fun z=>?_) _ (same_refl _)
   cases z with
   | mk h1 h2 b0 bn=>rw[mX]at h1;cases h1;show b0 KZ
 show aA (eX (fun z=>KZ (by injection z))) ?_
 rcases lS e2 with⟨y,m2,b2,rfl⟩|nput
 rotate_left
 . obtain⟨px,as,rfl,fF⟩:=yH.head
   have no:¬ eg nds nd:=fun z=>by
     cases z with
     | mk h1 h2=>rw[mX]at h1;cases h1;rw[oy]at h2;cases h2;show nput rfl
   show⟨_,U,_,U,?_⟩
   show aH e7 U ?_
   show dF hN jQ ?_
   show aH fF ot ?_
   show⟨U,_,U,?_⟩
   show aM (by rw[eX (fun z=>nput (by injection z))];rfl) ?_
   show qn no _ (same_refl _)
 obtain⟨u2,⟨p2,rfl,eY⟩,Lb⟩:=yH
 have pF:=ok _ (ZZ oy)
 have key:eg nds nd↔(ck nds nd b=false/\x≠y/\m1.nm y=false/\m2.nm x=false):=by
   show⟨fun z=>?_,fun z=>.mk mX oy KZ K0 z.1 z.2.1 z.2.2.1 z.2.2.2⟩
   cases z with
   | mk h1 h2 b0 bn co xy n1 n2=>
     rw[mX]at h1
     cases h1
     rw[oy]at h2
     cases h2
     show⟨co,xy,n1,n2⟩
 show⟨_,U,_,U,?_⟩
 show aH e7 U ?_
 show dF hN jQ ?_
 show aH eY U ?_
 show⟨U,_,U,aA (by left) ?_⟩
 show kR _ _ ?_
 show ak fun Rk kR=>?_
 show⟨_,U,_,U,?_⟩
 show aH e7 U ?_
 show dF hN jQ ?_
 show ai (kR _ _ ?_)
 show aq [some (.ref p),some (.int (nd:Int)),some (.ref B),some (.ref I),some (.ref N),some (.ref p1),some (.ref p2),none,none,none,none] U ?_
 show ak fun Rk kR=>?_
 show⟨_,U,N,U,⟨_,aE.of hN⟩,?_⟩
 show uV (xs:=vn) (fun(i:Nat) (σ:List (Option V)) (Hx:Hp)=>(∃o7 o8 o9,σ=[some (.ref p),some (.int (nd:Int)),some (.ref B),some (.ref I),some (.ref N),some (.ref p1),some (.ref p2),o7,o8,o9,none])/\ag H Hx/\∀(j:Nat) (a:Np),j<i->nds[j]?=some a->j≠nd->b∉a.aU) ⟨⟨_,_,_,U⟩,same_refl _,(fun j a hj=>aB hj (adx _))⟩ (fun i σ Hx v z=>aE.of (z.2.1 _ _ hN)) (fun i x0 pp σ Hx hx z lH=>?_) (fun σ Hx z=>?_)
 . obtain⟨⟨o7,o8,o9,rfl⟩,sx,al⟩:=z
   obtain⟨a,ha,na⟩:=Paired.get pn hx
   have OY:=ok a (ZZ ha)
   have Tq:=af lH (.tup [.int (i:Int),x0])
   have Rh:(upd Hx pp (.tup [.int (i:Int),x0])) pp=some (.tup [.int (i:Int),x0]):=ae
   generalize upd Hx pp (.tup [.int (i:Int),x0])=Hy at Tq Rh ⊢
   have sy:=aa sx Tq
   show kT Rh ?_
   show aq [some (.ref p),some (.int (nd:Int)),some (.ref B),some (.ref I),some (.ref N),some (.ref p1),some (.ref p2),some (.int (i:Int)),some x0,o9,none] U ?_
   show ak fun Af sY=>?_
   show⟨agk,fun L8 hL=>?_⟩
   have zL:=af hL (.lst [])
   have gL:(upd Hy L8 (.lst [])) L8=some (.lst (([]:List Int).map V.int)):=ae
   generalize upd Hy L8 (.lst [])=Hz at zL gL ⊢
   show ai ?_
   show sY _ _ ?_
   show aq [some (.ref p),some (.int (nd:Int)),some (.ref B),some (.ref I),some (.ref N),some (.ref p1),some (.ref p2),some (.int (i:Int)),some x0,some (.ref L8),none] U ?_
   have syz:=aa sy zL
   have Sl:=aG.keep (ag.tk syz) na
   have FU:=OY.is
   show ak fun Af sY=>?_
   suffices i4:∀(L8:Addr) (Hc:Hp),ag Hz Hc->Hc L8=some (.lst ((P6 a).map V.int))->Af [some (.ref p),some (.int (nd:Int)),some (.ref B),some (.ref I),some (.ref N),some (.ref p1),some (.ref p2),some (.int (i:Int)),some x0,some (.ref L8),none] Hc by
     match a,Sl,FU,i4 with
     | .put _ _ n,⟨_,⟨px,ex,fF⟩,_⟩,_,i4=>
       subst ex
       show⟨_,U,?_⟩
       show aH fF ot ?_
       show⟨U,_,U,aM (by left) ?_⟩
       show⟨_,U,_,U,?_⟩
       show aH fF U ?_
       show⟨agl,fun L2 yo=>?_⟩
       show ai ?_
       show i4 L2 _ (af yo _) ae
     | .say _ n,⟨_,⟨px,ex,fF⟩,_⟩,_,i4=>
       subst ex
       show⟨_,U,?_⟩
       show aH fF ot ?_
       show⟨U,_,U,aM (by left) ?_⟩
       show⟨_,U,_,U,?_⟩
       show aH fF U ?_
       show⟨agl,fun L2 yo=>?_⟩
       show ai ?_
       show i4 L2 _ (af yo _) ae
     | .test _ n o,⟨_,⟨px,ex,fF⟩,_⟩,_,i4=>
       subst ex
       show⟨_,U,?_⟩
       show aH fF ot ?_
       show⟨U,_,U,aM (by left) ?_⟩
       show⟨_,U,_,U,?_⟩
       show aH fF U ?_
       show⟨agl,fun L2 yo=>?_⟩
       show ai ?_
       show i4 L2 _ (af yo _) ae
     | .pick _ _,_,FU,_=>show FU.elim
     | .fin,⟨px,ex,fF⟩,_,i4=>
       subst ex
       show⟨_,U,?_⟩
       show aH fF ot ?_
       show⟨U,_,U,aA (by left) ?_⟩
       show i4 L8 Hz (same_refl _) gL
   intro L8 Hc sc gL
   show sY _ _ ?_
   show ak fun Af sY=>?_
   have Xq:=aG.keep (ag.tk sc) Sl
   suffices i4:∀(L8:Addr) (Hd:Hp),ag Hz Hd->Hd L8=some (.lst (a.aU.map V.int))->Af [some (.ref p),some (.int (nd:Int)),some (.ref B),some (.ref I),some (.ref N),some (.ref p1),some (.ref p2),some (.int (i:Int)),some x0,some (.ref L8),none] Hd by
     match a,Xq,FU,gL,i4 with
     | .put _ _ n,⟨_,⟨px,ex,fF⟩,_⟩,_,gL,i4=>
       subst ex
       show⟨_,U,?_⟩
       show aH fF ot ?_
       show⟨U,_,U,aA (by left) ?_⟩
       show i4 L8 Hc sc gL
     | .say _ n,⟨_,⟨px,ex,fF⟩,_⟩,_,gL,i4=>
       subst ex
       show⟨_,U,?_⟩
       show aH fF ot ?_
       show⟨U,_,U,aA (by left) ?_⟩
       show i4 L8 Hc sc gL
     | .fin,⟨px,ex,fF⟩,_,gL,i4=>
       subst ex
       show⟨_,U,?_⟩
       show aH fF ot ?_
       show⟨U,_,U,aA (by left) ?_⟩
       show i4 L8 Hc sc gL
     | .pick _ _,_,FU,_,_=>show FU.elim
     | .test _ n o,⟨_,⟨px,ex,fF⟩,_⟩,_,gL,i4=>
       subst ex
       show⟨_,U,?_⟩
       show aH fF ot ?_
       show⟨U,_,U,aM (by left) ?_⟩
       show⟨_,U,?_⟩
       show aH fF U ?_
       show⟨_,U,?_⟩
       show aH fF U ?_
       show⟨agm,fun L2 yo=>?_⟩
       show ai ?_
       show i4 L2 _ (aa sc (af yo _)) ae
   intro L8 Hd sd gL
   show sY _ _ ?_
   have syd:=aa syz sd
   have go:(i≠nd->b∉a.aU)->∀(j:Nat) (a':Np),j<i+1->nds[j]?=some a'->j≠nd->b∉a'.aU:=fun h j a' hj oz RI=>by
     by_cases c:j<i
     . show al j a' c oz RI
     . have:j=i:=by lia
       subst this
       rw[ha]at oz
       cases oz
       show h RI
   show⟨_,U,_,U,U,_,U,?_⟩
   by_cases ci:i=nd
   . show aA (show(!decide (V.int (i:Int)=V.int (nd:Int)))=false by rw[ci,dE rfl];rfl) (aA (by left) ?_)
     show⟨⟨_,_,_,U⟩,syd,go (fun h=>aB ci h)⟩
   show aM (show(!decide (V.int (i:Int)=V.int (nd:Int)))=true by rw[eX (fun z=>ci (by injection z with z;lia))];rfl) ?_
   show⟨_,U,?_⟩
   show aH (syd _ _ e7) U ?_
   show⟨_,U,L8,_,U,.inl (aE.of gL),U,gE _,_,U,?_⟩
   change if oC (.int b) (a.aU.map V.int)=true then _ else _
   rw[fO]
   by_cases cb:b∈a.aU
   . show aM (dE cb) ?_
     show qn (fun z=>?_) _ syd
     have co:=(key.mp z).1
     show gv co ci ha cb
   . show aA (eX cb) ?_
     show⟨⟨_,_,_,U⟩,syd,go (fun v=>cb)⟩
 obtain⟨⟨o7,o8,o9,rfl⟩,sx,al⟩:=z
 rw[xV]at al
 have co:ck nds nd b=false:=by
   unfold ck
   rw[acj]
   intro a ha
   obtain⟨j,hj,oz⟩:=ma ha
   rw[decide_eq_true_iff]
   show al j a (aT oz) oz hj
 show kR _ _ ?_
 show ak fun Rk kR=>?_
 have Ki:=xR.td m1 (aY (.inr (List.mem_singleton.mpr rfl)))
 have Aa:=pF.td m2 (aY (.inr (List.mem_singleton.mpr rfl)))
 show⟨_,U,?_⟩
 show aH (sx _ _ e7) U ?_
 show⟨_,U,?_⟩
 show aH (sx _ _ eY) U ?_
 show⟨U,_,U,?_⟩
 by_cases xy:x=y
 . show aM (dE (congrArg V.str xy)) (aM (by left) ?_)
   show qn (fun z=>(key.mp z).2.1 xy) _ sx
 show aA (eX (fun z=>xy (by injection z))) ?_
 show⟨_,U,?_⟩
 show aH (sx _ _ e7) U ?_
 show⟨_,U,?_⟩
 show aH (sx _ _ eY) U ?_
 show⟨u2,m2,_,U,Lb.keep (ag.tk sx),pF.is,Aa.1,by lia,by left,fun l1 H1 s1 g1=>?_⟩
 have sx1:=aa sx s1
 show⟨l1,_,U,.inl (aE.of g1),U,eO _,_,U,?_⟩
 change if oC (.str x) (m2.eW.map V.str)=true then _ else _
 rw[ji]
 by_cases c2:x∈m2.eW
 . show aM (dE c2) (aM (by left) ?_)
   show qn (fun z=>?_) _ sx1
   have:=(key.mp z).2.2.2
   rw[(lR Aa.1 pF.is).mpr c2]at this
   cases this
 show aA (eX c2) ?_
 show⟨_,U,?_⟩
 show aH (sx1 _ _ eY) U ?_
 show⟨_,U,?_⟩
 show aH (sx1 _ _ e7) U ?_
 show⟨u1,m1,_,U,GO.keep (ag.tk sx1),xR.is,Ki.1,by lia,by left,fun l2 H2 s2 g2=>?_⟩
 have sx2:=aa sx1 s2
 show⟨l2,_,U,.inl (aE.of g2),U,eO _,_,U,?_⟩
 change if oC (.str y) (m1.eW.map V.str)=true then _ else _
 rw[ji]
 by_cases c1:y∈m1.eW
 . show aM (dE c1) ?_
   show qn (fun z=>?_) _ sx2
   have:=(key.mp z).2.2.1
   rw[(lR Ki.1 xR.is).mpr c1]at this
   cases this
 show aA (eX c1) (kR _ _ ?_)
 show ak fun Rk kR=>?_
 have n1:m1.nm y=false:=Bool.eq_false_iff.mpr fun z=>c1 ((lR Ki.1 xR.is).mp z)
 have n2:m2.nm x=false:=Bool.eq_false_iff.mpr fun z=>c2 ((lR Aa.1 pF.is).mp z)
 have ex:=key.mpr ⟨co,xy,n1,n2⟩
 show⟨_,U,N,_,U,.inl (aE.of (sx2 _ _ hN)),fun F0 uu=>?_⟩
 have Ua:=af uu (.lst vn)
 have T2:(upd H2 F0 (.lst vn)) F0=some (.lst vn):=ae
 generalize upd H2 F0 (.lst vn)=H3 at Ua T2 ⊢
 have nF:=ah sx2 uu
 have sx3:=aa sx2 Ua
 show ai (kR _ _ ?_)
 show aq [some (.ref p),some (.int (nd:Int)),some (.ref B),some (.ref I),some (.ref N),some (.ref p1),some (.ref p2),o7,o8,o9,some (.ref F0)] U ?_
 show ak fun Rk kR=>?_
 show⟨_,U,_,U,p2,_,U,aN.of (sx3 _ _ eY),?_,fun a1 ow=>?_⟩
 . rintro⟨_,z⟩
   show aB (show HT.bz 4 4 (some 3)=4 from z) (by left)
 rw[show(3:Int)=((3:Nat):Int)from rfl,lE _ _ (by change 3<=4;decide)]
 have ME:List.take 3 [V.str "put",.str y,u2,.int b2]=[V.str "put",.str y,u2]:=rfl
 rw[ME]
 have za1:=af ow (.tup [.str "put",.str y,u2])
 have T3:(upd H3 a1 (.tup [.str "put",.str y,u2])) a1=some (.tup [.str "put",.str y,u2]):=ae
 generalize upd H3 a1 (.tup [.str "put",.str y,u2])=K1 at za1 T3 ⊢
 show⟨_,U,?_⟩
 show aH (za1 _ _ (sx3 _ _ e7)) U ?_
 show⟨agl,fun a2 u7=>?_⟩
 have za2:=af u7 (.tup [.int b])
 have T4:(upd K1 a2 (.tup [.int b])) a2=some (.tup [.int b]):=ae
 generalize upd K1 a2 (.tup [.int b])=K2 at za2 T4 ⊢
 show⟨a1,a2,_,_,U,U,aN.of (za2 _ _ T3),aN.of T4,(fun z=>nomatch z),ago,(fun z=>nomatch z),fun v a3 Nw=>?_⟩
 have Ub:=af Nw (.tup ([.str "put",.str y,u2]++[.int b]))
 have T5:(upd K2 a3 (.tup ([.str "put",.str y,u2]++[.int b]))) a3=some (.tup ([.str "put",.str y,u2]++[.int b])):=ae
 generalize upd K2 a3 (.tup ([.str "put",.str y,u2]++[.int b]))=K3 at Ub T5 ⊢
 have sK:=aa za1 (aa za2 Ub)
 have S6:=aa sx3 sK
 have Xp:aG K3 (.ref a3) (.put y m2 b):=⟨u2,⟨a3,rfl,T5⟩,Lb.keep (ag.tk S6)⟩
 have GR:=sK _ _ T2
 have Kw:TK K3 (upd K3 F0 (.lst (vn.set nd (.ref a3)))):=TW.TK.lst GR
 have sF:ag H (upd K3 F0 (.lst (vn.set nd (.ref a3)))):=av S6 nF
 have gF:(upd K3 F0 (.lst (vn.set nd (.ref a3)))) F0=some (.lst (vn.set nd (.ref a3))):=ae
 show⟨_,U,_,U,F0,_,_,nd,U,U,GR,(gJ (by lia) (by lia)).trans (by rw[aaq]),?_⟩
 generalize upd K3 F0 (.lst (vn.set nd (.ref a3)))=K4 at Kw sF gF ⊢
 show kR _ _ ?_
 show ak fun Rk kR=>?_
 show⟨_,U,_,U,p1,_,U,aN.of (sF _ _ e7),?_,fun b1 uv=>?_⟩
 . rintro⟨_,z⟩
   show aB (show HT.bz 4 4 (some 3)=4 from z) (by left)
 rw[show(3:Int)=((3:Nat):Int)from rfl,lE _ _ (by change 3<=4;decide)]
 have MF:List.take 3 [V.str "put",.str x,u1,.int b]=[V.str "put",.str x,u1]:=rfl
 rw[MF]
 have zb1:=af uv (.tup [.str "put",.str x,u1])
 have Gd:(upd K4 b1 (.tup [.str "put",.str x,u1])) b1=some (.tup [.str "put",.str x,u1]):=ae
 generalize upd K4 b1 (.tup [.str "put",.str x,u1])=K5 at zb1 Gd ⊢
 show⟨_,U,?_⟩
 show aH (zb1 _ _ (sF _ _ eY)) U ?_
 show⟨agl,fun b3 VQ=>?_⟩
 have zb3:=af VQ (.tup [.int b2])
 have T6:(upd K5 b3 (.tup [.int b2])) b3=some (.tup [.int b2]):=ae
 generalize upd K5 b3 (.tup [.int b2])=K6 at zb3 T6 ⊢
 show⟨b1,b3,_,_,U,U,aN.of (zb3 _ _ Gd),aN.of T6,(fun z=>nomatch z),ago,(fun z=>nomatch z),fun v b4 VR=>?_⟩
 have Ud:=af VR (.tup ([.str "put",.str x,u1]++[.int b2]))
 have T7:(upd K6 b4 (.tup ([.str "put",.str x,u1]++[.int b2]))) b4=some (.tup ([.str "put",.str x,u1]++[.int b2])):=ae
 generalize upd K6 b4 (.tup ([.str "put",.str x,u1]++[.int b2]))=K7 at Ud T7 ⊢
 have sL:=aa zb1 (aa zb3 Ud)
 have sL7:=aa sF sL
 have Xs:aG K7 (.ref b4) (.put x m1 b2):=⟨u1,⟨b4,rfl,T7⟩,GO.keep (ag.tk sL7)⟩
 have Q0:=sL _ _ gF
 have TQ:TK K7 (upd K7 F0 (.lst ((vn.set nd (.ref a3)).set b.toNat (.ref b4)))):=TW.TK.lst Q0
 have sG:ag H (upd K7 F0 (.lst ((vn.set nd (.ref a3)).set b.toNat (.ref b4)))):=av sL7 nF
 have gG:(upd K7 F0 (.lst ((vn.set nd (.ref a3)).set b.toNat (.ref b4)))) F0=some (.lst ((vn.set nd (.ref a3)).set b.toNat (.ref b4))):=ae
 have pG:Paired (aG (upd K7 F0 (.lst ((vn.set nd (.ref a3)).set b.toNat (.ref b4))))) ((vn.set nd (.ref a3)).set b.toNat (.ref b4)) (lF nds nd x y m1 m2 b b2):=Paired.pQ (aG.keep TQ Xs) _ (Paired.pQ (aG.keep (Kw.trans ((ag.tk sL).trans TQ)) Xp) _ (Paired.aV pn fun v v z=>aG.keep (ag.tk sG) z))
 show⟨_,U,_,U,?_⟩
 show aH (sL7 _ _ e7) U ?_
 show⟨F0,_,_,b.toNat,U,U,Q0,?_,?_⟩
 . show gJ bl.1 (by rw[aaD];lia)
 generalize upd K7 F0 (.lst ((vn.set nd (.ref a3)).set b.toNat (.ref b4)))=K8 at sG gG pG ⊢
 show kR _ _ ?_
 show⟨_,U,_,U,_,U,agn,fun d hd=>?_⟩
 have sd:=af hd (.tup [.ref B,.ref I,.ref F0])
 show qo x y m1 m2 b b2 ex mX oy d F0 _ _ (aa sG sd) nF ae (sd _ _ gG) (Paired.aV pG fun v v z=>aG.keep (ag.tk sd) z)
abbrev JT:Stmt:=top 56
abbrev Bc:Stmt:=top 38
abbrev S1:Stmt:=top 57
def Al (H:Hp):Nat->V->V->Prop
 | 0,_,_=>False
 | n+1,x,y=>(∃i,x=.int i/\y=.int i)\/(∃s,x=.str s/\y=.str s)\/∃a b xs ys,x=.ref a/\y=.ref b/\((H a=some (.lst xs)/\H b=some (.lst ys))\/(H a=some (.tup xs)/\H b=some (.tup ys)))/\xs.length=ys.length/\xs.length<=900/\∀(i:Nat) (x y:V),xs[i]?=some x->ys[i]?=some y->Al H n x y
def Al.tup {H:Hp}{n:Nat}{p q:Addr}{xs ys:List V}(hp:H p=some (.tup xs))(hq:H q=some (.tup ys))(hl:xs.length=ys.length)(h9:xs.length<=900)(h:∀(i:Nat) (x y:V),xs[i]?=some x->ys[i]?=some y->Al H n x y):Al H (n+1) (.ref p) (.ref q):=.inr (.inr ⟨p,q,xs,ys,rfl,rfl,.inr ⟨hp,hq⟩,hl,h9,h⟩)
def Al.lst {H:Hp}{n:Nat}{p q:Addr}{xs ys:List V}(hp:H p=some (.lst xs))(hq:H q=some (.lst ys))(hl:xs.length=ys.length)(h9:xs.length<=900)(h:∀(i:Nat) (x y:V),xs[i]?=some x->ys[i]?=some y->Al H n x y):Al H (n+1) (.ref p) (.ref q):=.inr (.inr ⟨p,q,xs,ys,rfl,rfl,.inl ⟨hp,hq⟩,hl,h9,h⟩)
def Al.str {H:Hp}{n:Nat}(s:Str):Al H (n+1) (.str s) (.str s):=.inr (.inl ⟨s,rfl,rfl⟩)
def Al.int {H:Hp}{n:Nat}(i:Int):Al H (n+1) (.int i) (.int i):=.inl ⟨i,rfl,rfl⟩
def cK.al {H:Hp}(e:E):∀(n:Nat) (u v:V),e.dep+2<=n->cK H u e->cK H v e->Al H n u v:=by
 induction e with
 | num i=>
   intro n u v h hu hv
   obtain⟨m,rfl⟩ : ∃m,n=m+1+1:=⟨n-2,by have:0+2<=n:=h;lia⟩
   obtain⟨p,rfl,hp⟩:=hu
   obtain⟨q,rfl,hq⟩:=hv
   show Al.tup hp hq rfl (by change 2<=900;decide) fun j x y hx hy=>?_
   match j,hx,hy with
   | 0,hx,hy=>cases hx;cases hy;show .str _
   | 1,hx,hy=>cases hx;cases hy;show .int _
 | box t x=>
   intro n u v h hu hv
   obtain⟨m,rfl⟩ : ∃m,n=m+1+1:=⟨n-2,by have:0+2<=n:=h;lia⟩
   obtain⟨p,rfl,hp⟩:=hu
   obtain⟨q,rfl,hq⟩:=hv
   show Al.tup hp hq rfl (by change 2<=900;decide) fun j x y hx hy=>?_
   match j,hx,hy with
   | 0,hx,hy=>cases hx;cases hy;show .str _
   | 1,hx,hy=>cases hx;cases hy;show .str _
 | yes=>
   intro n u v h hu hv
   obtain⟨m,rfl⟩ : ∃m,n=m+1+1:=⟨n-2,by have:0+2<=n:=h;lia⟩
   obtain⟨p,rfl,hp⟩:=hu
   obtain⟨q,rfl,hq⟩:=hv
   show Al.tup hp hq rfl (by change 1<=900;decide) fun j x y hx hy=>?_
   match j,hx,hy with
   | 0,hx,hy=>cases hx;cases hy;show .str _
 | nt a ih=>
   intro n u v h hu hv
   have h:a.dep+1+2<=n:=h
   obtain⟨m,rfl⟩ : ∃m,n=m+1+1:=⟨n-2,by lia⟩
   obtain⟨x1,⟨p,rfl,hp⟩,ex⟩:=hu
   obtain⟨y1,⟨q,rfl,hq⟩,ey⟩:=hv
   show Al.tup hp hq rfl (by change 2<=900;decide) fun j x y hx hy=>?_
   match j,hx,hy with
   | 0,hx,hy=>cases hx;cases hy;show .str _
   | 1,hx,hy=>cases hx;cases hy;show ih _ _ _ (by lia) ex ey
 | two k a b WR WS=>
   intro n u v h hu hv
   have h:max a.dep b.dep+1+2<=n:=h
   obtain⟨m,rfl⟩ : ∃m,n=m+1+1:=⟨n-2,by lia⟩
   obtain⟨x1,x2,⟨p,rfl,hp⟩,ex,Vg⟩:=hu
   obtain⟨y1,y2,⟨q,rfl,hq⟩,ey,Vh⟩:=hv
   show Al.tup hp hq rfl (by change 3<=900;decide) fun j x y hx hy=>?_
   match j,hx,hy with
   | 0,hx,hy=>cases hx;cases hy;show .str _
   | 1,hx,hy=>cases hx;cases hy;show WR _ _ _ (by lia) ex ey
   | 2,hx,hy=>cases hx;cases hy;show WS _ _ _ (by lia) Vg Vh
theorem aG.al {H:Hp}:∀{e:Np} {u v:V},(∀x∈e.ir,x.dep<=5)->aG H u e->aG H v e->Al H 32 u v
 | .put x s n,_,_,w,⟨a,⟨p,rfl,hp⟩,ea⟩,⟨b,⟨q,rfl,hq⟩,eb⟩=>Al.tup hp hq rfl (by change 4<=900;decide) fun j x y hx hy=>by
   match j,hx,hy with
   | 0,hx,hy=>cases hx;cases hy;show .str _
   | 1,hx,hy=>cases hx;cases hy;show .str _
   | 2,hx,hy=>cases hx;cases hy;show cK.al _ _ _ _ (by have:=w s (aY (.inr (aY (.inl rfl))));lia) ea eb
   | 3,hx,hy=>cases hx;cases hy;show .int _
 | .say c n,_,_,w,⟨a,⟨p,rfl,hp⟩,ea⟩,⟨b,⟨q,rfl,hq⟩,eb⟩=>Al.tup hp hq rfl (by change 3<=900;decide) fun j x y hx hy=>by
   match j,hx,hy with
   | 0,hx,hy=>cases hx;cases hy;show .str _
   | 1,hx,hy=>cases hx;cases hy;show cK.al _ _ _ _ (by have:=w c (aY (.inl rfl));lia) ea eb
   | 2,hx,hy=>cases hx;cases hy;show .int _
 | .test c n o,_,_,w,⟨a,⟨p,rfl,hp⟩,ea⟩,⟨b,⟨q,rfl,hq⟩,eb⟩=>Al.tup hp hq rfl (by change 4<=900;decide) fun j x y hx hy=>by
   match j,hx,hy with
   | 0,hx,hy=>cases hx;cases hy;show .str _
   | 1,hx,hy=>cases hx;cases hy;show cK.al _ _ _ _ (by have:=w c (aY (.inl rfl));lia) ea eb
   | 2,hx,hy=>cases hx;cases hy;show .int _
   | 3,hx,hy=>cases hx;cases hy;show .int _
 | .pick x n,_,_,_,⟨p,rfl,hp⟩,⟨q,rfl,hq⟩=>Al.tup hp hq rfl (by change 3<=900;decide) fun j x y hx hy=>by
   match j,hx,hy with
   | 0,hx,hy=>cases hx;cases hy;show .str _
   | 1,hx,hy=>cases hx;cases hy;show .str _
   | 2,hx,hy=>cases hx;cases hy;show .int _
 | .fin,_,_,_,⟨p,rfl,hp⟩,⟨q,rfl,hq⟩=>Al.tup hp hq rfl (by change 1<=900;decide) fun j x y hx hy=>by
   match j,hx,hy with
   | 0,hx,hy=>cases hx;cases hy;show .str _
def cB.al {H:Hp}{b:Str×Int}{u v:V}(hu:cB H u b)(hv:cB H v b):Al H 32 u v:=by
 obtain⟨p,rfl,hp⟩:=hu
 obtain⟨q,rfl,hq⟩:=hv
 show Al.tup hp hq rfl (by change 2<=900;decide) fun j x y hx hy=>?_
 match j,hx,hy with
 | 0,hx,hy=>cases hx;cases hy;show .str _
 | 1,hx,hy=>cases hx;cases hy;show .int _
theorem Al.et {K:ZV}{H:Hp}:∀{n:Nat} {x y:V},Al H n x y->ET K H n x y
 | 0,_,_,h=>h.elim
 | n+1,_,_,.inl ⟨i,rfl,rfl⟩=>ET.refl (.inl rfl)
 | n+1,_,_,.inr (.inl ⟨s,rfl,rfl⟩)=>ET.refl (.inl rfl)
 | n+1,_,_,.inr (.inr ⟨a,b,xs,ys,rfl,rfl,.inl ⟨ha,hb⟩,hl,_,h⟩)=>ET.lst (aE.of ha) (aE.of hb) hl fun j x y hx hy=>Al.et (h j x y hx hy)
 | n+1,_,_,.inr (.inr ⟨a,b,xs,ys,rfl,rfl,.inr ⟨ha,hb⟩,hl,_,h⟩)=>ET.tup (aN.of ha) (aN.of hb) hl fun j x y hx hy=>Al.et (h j x y hx hy)
def A3 {α:Type}{H:Hp}{F:V->α->Prop}{us vs:List V}{l:List α}(k:∀u v a,a∈l->F u a->F v a->Al H 32 u v)(pu:Paired F us l)(pv:Paired F vs l):∀(i:Nat) (x y:V),us[i]?=some x->vs[i]?=some y->Al H 32 x y:=fun i x y hx hy=>by
 obtain⟨a,ha,fa⟩:=Paired.get pu hx
 obtain⟨b,hb,fb⟩:=Paired.get pv hy
 rw[ha]at hb
 cases hb
 show k x y a (ZZ ha) fa fb
structure KP (bs:ao)(ins:List Str)(nds:List Np):Prop where
 lb:bs.length<=900
 li:ins.length<=900
 ln:nds.length<=900
 n:∀e∈nds,∀x∈e.ir,x.dep<=5
def pN {H:Hp}{B I N B' I' N':Addr}{vb vn P4 vn':List V}{bs:ao}{ins:List Str}{nds:List Np}(wr:KP bs ins nds)(p1:oq H B I N vb vn bs ins nds)(p2:oq H B' I' N' P4 vn' bs ins nds):∀(j:Nat) (x y:V),[V.ref B,.ref I,.ref N][j]?=some x->[V.ref B',.ref I',.ref N'][j]?=some y->Al H 33 x y:=fun j x y hx hy=>by
 have l1:=Paired.length p1.pb
 have l2:=Paired.length p2.pb
 have l3:=Paired.length p1.pn
 have l4:=Paired.length p2.pn
 have b1:=wr.lb
 have b2:=wr.li
 have b3:=wr.ln
 match j,hx,hy with
 | 0,hx,hy=>cases hx;cases hy;show Al.lst p1.hB p2.hB (by lia) (by lia) (A3 (F:=cB H) (fun u v a w h1 h2=>cB.al h1 h2) p1.pb p2.pb)
 | 1,hx,hy=>
   cases hx;cases hy
   show Al.lst p1.hI p2.hI rfl (by rw[ZW];lia) fun i x y hx hy=>?_
   rw[hx]at hy
   cases hy
   obtain⟨z,_,rfl⟩:=bG hx
   show .str _
 | 2,hx,hy=>cases hx;cases hy;show Al.lst p1.hN p2.hN (by lia) (by lia) (A3 (F:=aG H) (fun u v a ha h1 h2=>aG.al (wr.n a ha) h1 h2) p1.pn p2.pn)
def fY {K:ZV}{H:Hp}{f p B I N B' I' N':Addr}{vb vn P4 vn':List V}{bs:ao}{ins:List Str}{nds:List Np}(wr:KP bs ins nds)(hf:H f=some (.tup [.ref B,.ref I,.ref N]))(hp:H p=some (.tup [.ref B',.ref I',.ref N']))(p1:oq H B I N vb vn bs ins nds)(p2:oq H B' I' N' P4 vn' bs ins nds):RB K H 33 (.ref f) (.ref p) true:=RB.tup (aN.of hf) (aN.of hp) rfl fun j x y hx hy=>(pN wr p1 p2 j x y hx hy).et
def gq.t {ns:List Str}{m:Int}{e:Np}(h:gq ns m e):BX ns e:=⟨h.is,h.td⟩
def gq.po {ns:List Str}{m:Int}{e:Np}(k:gq ns m e):∀x s n,e=.put x s n->ql ns x s:=fun x s n z=>by
 subst z
 have t1:=k.td (.box "box" x) (aY (.inl rfl))
 have t2:=k.td s (aY (.inr (aY (.inl rfl))))
 show⟨t1.1.2,k.is,t2.1,by have:=t2.2;lia⟩
def Bj (K:ZV)(tO:Addr):Sp:=fun vs H Q z=>∃(p B I N:Addr) (vb vn:List V) (bs:ao) (ins:List Str) (nds:List Np) (nd:Nat) (most longest:Int),vs=[.ref p,.int (nd:Int)]/\nd<nds.length/\H p=some (.tup [.ref B,.ref I,.ref N])/\oq H B I N vb vn bs ins nds/\oG most longest bs ins nds/\longest<=40 /\
 (¬ eg nds nd->∀H',ag H H'->Q (.str "none") H')/\(∀(x y:Str) (e e2:E) (b b2:Int),eg nds nd->nds[nd]?=some (.put x e b)->nds[b.toNat]?=some (.put y e2 b2)->∀(q p' P' B' I' N':Addr) (vn':List V) (sm:Int->V) (se:Int->E) (ps:List V) (H':Hp),H' q=some (.tup [.ref p',.ref P'])->Told K tO H H' p' P' B' I' N' vb vn' bs ins (lF nds nd x y e e2 b b2) sm se ps (jM nds)->(∀f∈jM nds,iV bs b x y e e2 f.1 (se f.1))->Q (.ref q) H')
def pX (K:ZV):Sp:=fun vs H Q z=>∃(f p d P':Addr) (ps:List V),vs=[.ref f,.ref d]/\H f=some (.tup [.ref p,.ref P'])/\H P'=some (.lst ps)/\RB K H 33 (.ref p) (.ref d) true/\∀H',ag H H'->Q (.bl true) H'
def nR:az ["program","node","found"] ["program","node"] (aj JT):=cU
def Dy {C T tO:Addr}{f:Addr}{fd:aaa}(F:bQ K "_law_asked" "_law_asked" JT f fd)(cN:Xc K mg "NoChange" C (.ref T::vE))(EX:rS P w K mg base "exchanged_puts" ["program","node"] 43 (xg K tO C)):aK P w K mg base bJ 44 f fd ["program","node"] (Bj K tO):=by
 show F.df nR fun cdv A outer s H vs Q E hr h=>?_
 obtain⟨p,B,I,N,vb,vn,bs,ins,nds,nd,most,longest,rfl,je,hp,pt,ok,lg,qn,qo⟩:=h
 show cM ⟨_,(aeg (aen 2 nR.nd aeL)
   (aeg (L3.PR nR.nd cN (by simp[vE]) U (fun W pn Ex hp=>(aej (aen 2 nR.nd (L3.Jk hp EX hr U (L (Y 0) (L (Y 1) M)))))) (fun ea=>(aej (aen 2 nR.nd ael))))
   (aej (aem (Y 2))))),?_⟩
 show ak fun Rk kR=>?_
 show ai (kR _ _ ?_)
 show aq [some (.ref p),some (.int (nd:Int)),some .br] U ?_
 show ak fun Rk kR=>?_
 have few:=ok.few
 show⟨_,U,_,U,p,B,I,N,vb,vn,bs,ins,nds,nd,U,je,hp,pt,ok.bx.l4,ok.bx.sz,ok.bx.nd,ok.bx.n0,by lia,fun e he=>(ok.nd e he).ld,fun e he=>(ok.nd e he).po,fun no H' s'=>?_,fun x y e e2 b b2 ex h1 h2 q p' P' B' I' N' vn' sm se ps H' hq td cd=>?_⟩
 . show⟨_,_,_,U,cN,(by simp),?_⟩
   show ai ?_
   show aq [none,none,some (.str "none")] U ?_
   show kR _ _ ?_
   show⟨_,U,qn no _ s'⟩
 . show ai (kR _ _ ?_)
   show⟨_,U,qo x y e e2 b b2 ex h1 h2 q p' P' B' I' N' vn' sm se ps H' hq td cd⟩
def E2:az ["found","due"] ["found","due"] (aj Bc):=cU
def y3 {f:Addr}{fd:aaa}(F:bQ K "_law_is_made" "_law_is_made" Bc f fd)(m_isinstance:mg "isinstance"=none)(m_len:mg "len"=none)(m_tuple:mg "tuple"=none)(m_list:mg "list"=none):aK P w K mg base bJ 36 f fd ["found","due"] (pX K):=by
 show F.df E2 fun cdv A outer s H vs Q E hr h=>?_
 obtain⟨f,p,d,P',ps,rfl,hf,hP,rb,q⟩:=h
 show cM ⟨_,(aeg (aeq (aeF (aeI (aeR (aeG (aex ae8 U m_isinstance (by right) (L (Y 0) (L (ae9 (w:=.ty "tuple") U m_tuple (by right) rfl) M))))) (aeP (aeo aeX (aex aeD U m_len aah (L (Y 0) M)) aef)))) (aej (aem aez)) aer)
   (aej (aem (ae4 (aex ae8 U m_isinstance (by right) (L (aeh aei (Y 0) aef) (L (ae9 (w:=.ty "list") U m_list (by right) rfl) M))) (aeY (aeK (L3.qT (m:=33) (bB hr _ (by left))) (aeh aei (Y 0) aef) (Y 1))))))),?_⟩
 show ak fun Rk kR=>?_
 show⟨_,U,.inl ⟨_,"tuple",_,true,U,di.tup hf,U,_,U,aA rfl ?_⟩⟩
 show⟨_,U,f,_,U,.inr (aN.of hf),U,_,U,aA (show(!decide (V.int 2=V.int 2))=false by left) ?_⟩
 show kR _ _ ?_
 show⟨_,U,?_⟩
 show aH hf U ?_
 show .inl ⟨_,"list",_,true,U,di.lst hP,U,?_⟩
 show⟨_,U,?_⟩
 show aM U ?_
 show⟨_,U,?_⟩
 show aH hf U ?_
 show⟨_,U,true,rb,?_⟩
 show q _ (same_refl _)
def yg {nds:List Np}{nd:Nat}{x y:Str}{e e2:E}{b b2:Int}{a:Np}(h:a∈lF nds nd x y e e2 b b2):a∈nds\/a=.put y e2 b\/a=.put x e b2:=by
 unfold lF at h
 rcases adI h with h|h
 . rcases adI h with h|h
   . show .inl h
   . show .inr (.inl h)
 . show .inr (.inr h)
def qI (nds:List Np)(nd:Nat)(x y:Str)(e e2:E)(b b2:Int):(lF nds nd x y e e2 b b2).length=nds.length:=by unfold lF;rw[aaD,aaD]
def qO (nds:List Np):(jM nds).length=nds.length:=by unfold jM;rw[List.length_mapIdx]
def E8 (K:ZV)(tO:Addr):Sp:=fun vs H Q z=>∃(p1 p2 P':Addr) (ps:List V) (sm:Int->V) (se:Int->E) (bs:ao) (nds nds':List Np) (lv:List (Int×Int×Str)) (R:Int->List Int->List Int->Prop),vs=[.ref p1,.ref p2,.ref P']/\Ae K tO H p1 p2 P' ps sm se bs nds nds' lv R/\bH bs<=9/\lv.length<64/\∀H',ag H H'->Q (.bl true) H'
def J6 (K:ZV)(tO:Addr):Sp:=fun vs H Q z=>∃(r p B I N:Addr) (vb vn:List V) (bs:ao) (ins:List Str) (nds:List Np) (pl wk:Bool) (most longest:Int),vs=[.ref r,.ref p,.bl pl,.bl wk]/\bZ H r/\H p=some (.tup [.ref B,.ref I,.ref N])/\xI r H B I N vb vn bs ins nds/\oG most longest bs ins nds/\longest<=40/\(wk=true->most<=9/\longest<=6)/\∀H',Rl r H H'->Q (.bl true) H'
def nS:az ["pot","program","planted","walked","node","given","found","due","part"] ["pot","program","planted","walked"] (aj S1):=cU
def IP {tO:Addr}{f:Addr}{fd:aaa}(F:bQ K "_law_case" "_law_case" S1 f fd)(m_len:mg "len"=none)(TK00:aO P w K mg base "_law_next" ["pot","many"] 1 b7)(CP0:aO P w K mg base "_law_copy" ["program"] 1 pW)(PL0:aO P w K mg base "_law_plant" ["pot","program"] 7 Bk)(AK0:aO P w K mg base "_law_asked" ["program","node"] 44 (Bj K tO))(DU0:aO P w K mg base "_law_due" ["program","node"] 9 J7)(IM0:aO P w K mg base "_law_is_made" ["found","due"] 36 (pX K))(SH:aO P w K mg base "_law_shows" ["one","other","paper"] 55 (E8 K tO))(LA:aO P w K mg base "_law_looked_at" ["pot","one","other","paper"] 55 (J8 K tO)):aK P w K mg base bJ 56 f fd ["pot","program","planted","walked"] (J6 K tO):=by
 show F.df nS fun cdv A outer s H vs Q E hr h=>?_
 obtain⟨r,p,B,I,N,vb,vn,bs,ins,nds,pl,wk,most,longest,rfl,gH,hp,pd,ok,lg,Yp,q⟩:=h
 have TK0:=TK00.mono (show 1<=55 by lia)
 have CP:=CP0.mono (show 1<=55 by lia)
 have PL:=PL0.mono (show 7<=55 by lia)
 have AK:=AK0.mono (show 44<=55 by lia)
 have DU:=DU0.mono (show 9<=55 by lia)
 have IM:=IM0.mono (show 36<=55 by lia)
 have xV:=Paired.length pd.pn
 have n1:=ok.one
 have Iw:nds.length<=40:=by have:=ok.few;lia
 have oI:(900:Int)<2^110:=by left
 show cM ⟨_,(aeg (aen 4 nS.nd (aek TK0 hr U (L (Y 0) (L (aex aeD U m_len aah (L (aeh aei (Y 1) aef) M)) M))))
   (aeg (aeq (aeG (Y 2)) (aej (aeM (aek PL hr U (L (Y 0) (L (Y 1) M))) (L3.Nb 2 (aev (aep 1 nS.nd) (aev (aep 4 nS.nd) aeB))))) aer)
   (aeg (aen 5 nS.nd (aek CP hr U (L (Y 1) M)))
   (aeg (aen 6 nS.nd (aek AK hr U (L (Y 5) (L (Y 4) M))))
   (aeg (aen 7 nS.nd (aek DU hr U (L (Y 1) (L (Y 4) M))))
   (aeg (aeq (aeo aeZ (Y 7) aeL) (aej (aem (ae4 (aeK aew (Y 6) ael) (aeY (aeK (L3.qT (m:=33) (bB hr _ (by left))) (Y 5) (Y 1)))))) aer)
   (aeg (aeq (aeF (aeI (aeR (aeG (aek IM hr U (L (Y 6) (L (Y 7) M))))) (aeP (aeo (L3.kF (m:=33) (bB hr _ (by left))) (Y 5) (Y 1))))) (aej (aem aez)) aer)
   (aeg (aeq (aeF (ae1 (aeG (Y 3)) (ae2 (aeR (aeG (aek SH hr U (L (Y 1) (L (Y 7) (L (aeh aei (Y 6) aef) M))))))))) (aej (aem aez)) aer)
   (aeg (aeq (aeR (aeG (aek LA hr U (L (Y 0) (L (Y 1) (L (Y 7) (L (aeh aei (Y 6) aef) M))))))) (aej (aem aez)) aer)
   (aeg (aeJ (L3.iT (aeh aei (Y 6) aef)) (aep 8 nS.nd) (aej (aeQ (afj (Y 8) (L aeL M)))))
   (aeg (aeQ (L3.clear (aeh aei (Y 6) aef)))
   (aej (aem (ae4 (aeK (L3.qT (m:=33) (bB hr _ (by left))) (Y 5) (Y 1)) (aeY (aek IM hr U (L (aek AK hr U (L (Y 5) (L (Y 4) M))) (L (Y 7) M)))))))))))))))))),?_⟩
 show ak fun Rk kR=>?_
 show⟨_,U,_,U,?_⟩
 show aH hp U ?_
 show⟨N,_,U,.inl (aE.of pd.hN),r,(vn.length:Int),U,gH,by lia,by lia,fun h H1 h0 h1 l1=>?_⟩
 obtain⟨hn,QO⟩ : ∃k:Nat,(k:Int)=h:=⟨h.toNat,aal h0⟩
 rw[← QO]at h0 h1
 show ai (kR _ _ ?_)
 show aq [some (.ref r),some (.ref p),some (.bl pl),some (.bl wk),some (.int (hn:Int)),none,none,none,none] (by rw[QO];rfl) ?_
 have AD:hn<nds.length:=by lia
 have O5:=pd.go gH l1
 have e7:=Rl.tk gH l1 _ _ hp
 show ak fun Rk kR=>?_
 suffices i4:∀(H3:Hp) (p N:Addr) (vn:List V) (nds:List Np) (nd:Nat) (o8:Option V),Rl r H H3->H3 p=some (.tup [.ref B,.ref I,.ref N])->xI r H3 B I N vb vn bs ins nds->oG most longest bs ins nds->nd<nds.length->Rk [some (.ref r),some (.ref p),some (.bl pl),some (.bl wk),some (.int (nd:Int)),none,none,none,none] H3 by
   cases pl with
   | false=>
     show⟨_,U,_,U,aA rfl ?_⟩
     show i4 H1 p N vn nds hn none l1 e7 O5 ok AD
   | true=>
     show⟨_,U,_,U,aM rfl ?_⟩
     show⟨_,U,_,U,r,p,B,I,N,vb,vn,bs,ins,nds,most,longest,U,l1.rl,e7,O5,ok,lg,fun few L8 H2 l2 gL=>?_,fun m1 m2 L8 p' F vn' nds' nd H2 l2 gL FI XQ pF el je ex=>?_⟩
     . show⟨L8,_,U,aE.of gL,U,_,_,U,_,_,U,U,?_⟩
       show i4 H2 p N vn nds 0 none (l1.trans l2) (Rl.tk l1.rl l2 _ _ e7) (O5.go l1.rl l2) ok (by lia)
     . show⟨L8,_,U,aE.of gL,U,_,_,U,_,_,U,U,?_⟩
       show i4 H2 p' F vn' nds' nd none (l1.trans l2) FI XQ pF (by lia)
 intro H2 p N vn nds nd _ l2 hp pd ok je
 show kR _ _ ?_
 have Iw:nds.length<=40:=by have:=ok.few;lia
 have l4:=ok.bx.l4
 have LB:=ok.ind
 show ak fun Rk kR=>?_
 show⟨_,U,p,B,I,N,vb,_,vn,U,hp,pd.hB,pd.hI,pd.hN,fun p1 B1 I1 N1 H3 s3 G6 Vo Vr Vu Xj Xn Xo=>?_⟩
 show ai (kR _ _ ?_)
 show aq [some (.ref r),some (.ref p),some (.bl pl),some (.bl wk),some (.int (nd:Int)),some (.ref p1),none,none,none] U ?_
 show ak fun Rk kR=>?_
 have A4:oq H3 B I N vb vn bs ins nds:=⟨s3 _ _ pd.hB,s3 _ _ pd.hI,s3 _ _ pd.hN,Paired.aV pd.pb fun v v z=>Tp.keep (ag.tk s3) z,Paired.aV pd.pn fun v v z=>aG.keep (ag.tk s3) z⟩
 have JB:oq H3 B1 I1 N1 vb vn bs ins nds:=⟨Vo,Vr,Vu,A4.pb,A4.pn⟩
 have FN:=s3 _ _ hp
 have l3:=l2.trans (Rl.of l2.rl s3)
 have keepP:∀{Ha Hb:Hp} {Bx Ix Nx:Addr} {TZ KA:List V} {Sr:List Np},ag Ha Hb->oq Ha Bx Ix Nx TZ KA bs ins Sr->oq Hb Bx Ix Nx TZ KA bs ins Sr:=fun s z=>⟨s _ _ z.hB,s _ _ z.hI,s _ _ z.hN,Paired.aV z.pb fun v v z=>Tp.keep (ag.tk s) z,Paired.aV z.pn fun v v z=>aG.keep (ag.tk s) z⟩
 have WT:ins.length<=4:=aar (sub_len ok.ind ok.sub) (by rw[ZW];show l4)
 have P7:KP bs ins nds:=⟨by lia,by lia,by lia,fun e he x hx=>((ok.nd e he).td x hx).2⟩
 show⟨_,U,_,U,p1,B1,I1,N1,vb,vn,bs,ins,nds,nd,most,longest,U,je,G6,JB,ok,lg,fun no H4 s4=>?_,fun x y e e2 b b2 ex h1 h2 q0 p' P' B' I' N' vn' sm se ps H4 Ri td cd=>?_⟩
 . show ai (kR _ _ ?_)
   show aq [some (.ref r),some (.ref p),some (.bl pl),some (.bl wk),some (.int (nd:Int)),some (.ref p1),some (.str "none"),none,none] U ?_
   show ak fun Rk kR=>?_
   have LR:=keepP s4 A4
   show⟨_,U,_,U,p,B,I,N,vb,vn,bs,ins,nds,nd,U,je,s4 _ _ FN,LR,ok.nd,Iw,fun v H5 s5=>?_,fun v v v v v v ex=>aB ex no⟩
   show ai (kR _ _ ?_)
   show aq [some (.ref r),some (.ref p),some (.bl pl),some (.bl wk),some (.int (nd:Int)),some (.ref p1),some (.str "none"),some .br,none] U ?_
   show ak fun Rk kR=>?_
   show⟨_,U,U,_,U,aM (by left) ?_⟩
   have s35:=aa s4 s5
   show⟨_,U,U,_,U,aM (by left) ?_⟩
   show⟨_,U,_,U,true,fY P7 (s35 _ _ G6) (s35 _ _ FN) (keepP s35 JB) (keepP s35 A4),?_⟩
   show q _ (l3.trans (Rl.of l3.rl s35))
 show ai (kR _ _ ?_)
 show aq [some (.ref r),some (.ref p),some (.bl pl),some (.bl wk),some (.int (nd:Int)),some (.ref p1),some (.ref q0),none,none] U ?_
 show ak fun Rk kR=>?_
 have s4:=td.s
 have LR:=keepP s4 A4
 show⟨_,U,_,U,p,B,I,N,vb,vn,bs,ins,nds,nd,U,je,s4 _ _ FN,LR,ok.nd,Iw,fun no=>aB ex no,fun x' y' e' yf b' Uy v Ll ou d F0 us H5 s5 Sj gd QX pu=>?_⟩
 rw[h1]at Ll
 cases Ll
 rw[h2]at ou
 cases ou
 show ai (kR _ _ ?_)
 show aq [some (.ref r),some (.ref p),some (.bl pl),some (.bl wk),some (.int (nd:Int)),some (.ref p1),some (.ref q0),some (.ref d),none] U ?_
 show ak fun Rk kR=>?_
 show⟨_,U,U,_,U,aA (eX (fun z=>nomatch z)) (kR _ _ ?_)⟩
 show ak fun Rk kR=>?_
 have nb:∀a o,H3 a=some o->a≠B'/\a≠I'/\a≠N'/\a≠P':=fun a o ha=>⟨ar ha td.nB,ar ha td.nI,ar ha td.nN,ar ha td.nP⟩
 have xR:=ok.nd _ (ZZ h1)
 have pF:=ok.nd _ (ZZ h2)
 have td':∀a∈lF nds nd x y e e2 b b2,BX (bs.map (·.1)) a:=fun a ha=>by
   rcases yg ha with ha|rfl|rfl
   . show(ok.nd a ha).t
   . show⟨pF.is,fun z hz=>pF.td z hz⟩
   . show⟨xR.is,fun z hz=>xR.td z hz⟩
 have Mc:KP bs ins (lF nds nd x y e e2 b b2):=⟨by lia,by lia,by rw[qI];lia,fun a ha z hz=>((td' a ha).td z hz).2⟩
 have XU:=keepP s4 JB
 have Pb:=keepP s5 LR
 have ZJ:=keepP s5 XU
 have XT:=keepP s5 td.pt
 have Sy:oq H5 B I F0 vb us bs ins (lF nds nd x y e e2 b b2):=⟨Pb.hB,Pb.hI,QX,Pb.pb,pu⟩
 have X3:=aa s4 s5
 have Rm:=s5 _ _ Ri
 show⟨_,U,_,U,q0,p',d,P',ps,U,Rm,s5 _ _ td.hP,fY Mc (s5 _ _ td.hp) gd XT Sy,fun H6 s6=>⟨_,U,aA rfl ?_⟩⟩
 have s36:=aa X3 s6
 show⟨_,U,_,U,true,fY P7 (s36 _ _ G6) (s36 _ _ FN) (keepP s36 JB) (keepP s36 A4),_,U,d6 (kR _ _ ?_)⟩
 show ak fun Rk kR=>?_
 have bt:Gg bs:=⟨l4,ok.bx.nd,fun b hb=>(ok.bx.sz b hb).1,fun b hb=>(ok.bx.sz b hb).2⟩
 have Ki:=xR.td (.box "box" x) (aY (.inl rfl))
 have Aa:=pF.td (.box "box" y) (aY (.inl rfl))
 have X9:=xR.td e (aY (.inr (List.mem_singleton.mpr rfl)))
 have Ya:=pF.td e2 (aY (.inr (List.mem_singleton.mpr rfl)))
 have Pu:x5 bs nds (lF nds nd x y e e2 b b2) (jM nds) (rW bs b x y e e2):=by
   cases ex with
   | mk k1 k2 b0 bn co xy m1 m2=>
     rw[h1]at k1
     cases k1
     rw[h2]at k2
     cases k2
     show sN bt (fun a ha=>(ok.nd a ha).ld) h1 h2 b0 bn co xy m1 m2 Ki.1.2 Aa.1.2 X9.1 Ya.1
 have Jn:Ae K tO H6 p d P' ps sm se bs nds (lF nds nd x y e e2 b b2) (jM nds) (rW bs b x y e e2):=by
   have xS:=aa s5 s6
   have z1:=keepP s36 A4
   have z2:=keepP s6 Sy
   show⟨⟨B,I,N,vb,vn,ins,s36 _ _ FN,z1.hB,z1.pb,z1.hN,z1.pn,z1.hI⟩,⟨B,I,F0,vb,us,ins,s6 _ _ gd,z2.hB,z2.pb,z2.hN,z2.pn,z2.hI⟩,fun a ha=>(ok.nd a ha).t,td',xS _ _ td.hP,Paired.aV td.pp fun v v z=>fk.keep (ag.tk xS) z,by rw[qO];lia,Gz ok.bx.nd (fun f hf=>EK.keep (ag.tk xS) (td.ek f hf)) cd,Pu,bt⟩
 have l6:=l3.trans (Rl.of l3.rl s36)
 have Rn:=s6 _ _ Rm
 have fin:∀H7,ag H6 H7->Rk [some (.ref r),some (.ref p),some (.bl pl),some (.bl wk),some (.int (nd:Int)),some (.ref p1),some (.ref q0),some (.ref d),none] H7:=fun H7 s7=>by
   show kR _ _ ?_
   show ak fun Rk kR=>?_
   have l7:=l6.trans (Rl.of l6.rl s7)
   have O1:=Jn.rl l6.rl (Rl.of l6.rl s7)
   have VL:=s7 _ _ Rn
   show⟨_,U,_,U,_,U,_,U,?_⟩
   show aH VL U ?_
   show⟨r,p,d,P',ps,sm,se,bs,nds,_,_,_,U,l7.rl,O1,fun H8 l8=>⟨_,U,aA rfl (kR _ _ ?_)⟩⟩
   show ak fun Rk kR=>?_
   have X4:=aa s5 (aa s6 s7)
   have rq:=l3.rl.same s4
   have FW:=(Rl.of rq X4).trans l8
   have R5:=(Rl.of l3.rl s4).trans FW
   have Xb:=l7.trans l8
   have Kt:=Rl.tk rq FW
   have PJ:=Rl.tk l3.rl R5
   obtain⟨ra,rb,Wu,_⟩:=id l3.rl
   have nr:=nb r _ Wu
   have QV:=FW.k _ _ nr.1.symm td.pt.hB
   have Q2:=FW.k _ _ nr.2.1.symm td.pt.hI
   have Q5:=FW.k _ _ nr.2.2.1.symm td.pt.hN
   have Q7:=FW.k _ _ nr.2.2.2.symm td.hP
   have G7:=Kt _ _ td.hp
   have G8:=Kt _ _ Ri
   have oE:=Paired.length td.pt.pb
   have P5:=Paired.length td.pt.pn
   rw[qI]at P5
   have tne:∀{a:Addr} {xs:List V},H8 a=some (.tup xs)->a≠B'/\a≠I'/\a≠N'/\a≠P':=fun e=>⟨bX e QV (fun z=>nomatch z),bX e Q2 (fun z=>nomatch z),bX e Q5 (fun z=>nomatch z),bX e Q7 (fun z=>nomatch z)⟩
   show⟨_,U,?_⟩
   show aH G8 U ?_
   show⟨p',U,⟨_,aN.of G7⟩,?_⟩
   show iG (xs:=[.ref B',.ref I',.ref N']) (fun i σ Hx=>(∃o9,σ=[some (.ref r),some (.ref p),some (.bl pl),some (.bl wk),some (.int (nd:Int)),some (.ref p1),some (.ref q0),some (.ref d),o9])/\(∀a o,a≠B'->a≠I'->a≠N'->H8 a=some o->Hx a=some o)/\(∀a,(a=B'\/a=I'\/a=N')->∃xs,Hx a=some (.lst xs)/\xs.length<=330+i)) ⟨⟨_,U⟩,(fun a o v v v z=>z),fun a ha=>?_⟩ (fun i σ Hx v z=>aN.of (z.2.1 _ _ (tne G7).1 (tne G7).2.1 (tne G7).2.2.1 G7)) (fun i x0 σ Hx hx z=>?_) (fun σ Hx z=>?_)
   . rcases ha with rfl|rfl|rfl
     . show⟨_,QV,by lia⟩
     . show⟨_,Q2,by rw[ZW];lia⟩
     . show⟨_,Q5,by lia⟩
   . obtain⟨⟨o9,rfl⟩,kx,lx⟩:=z
     obtain⟨a,rfl,ha⟩ : ∃a,x0=.ref a/\(a=B'\/a=I'\/a=N'):=by
       match i,hx with
       | 0,hx=>cases hx;show⟨_,rfl,.inl rfl⟩
       | 1,hx=>cases hx;show⟨_,rfl,.inr (.inl rfl)⟩
       | 2,hx=>cases hx;show⟨_,rfl,.inr (.inr rfl)⟩
     have i3:i<3:=(aT hx)
     obtain⟨xs,gx,xl⟩:=lx a ha
     show ai ?_
     show aq [some (.ref r),some (.ref p),some (.bl pl),some (.bl wk),some (.int (nd:Int)),some (.ref p1),some (.ref q0),some (.ref d),some (.ref a)] U ?_
     show⟨_,U,.inl ⟨U,_,aE.of gx⟩,a,_,_,U,U,gx,aC (by lia),⟨_,U⟩,fun b o n1 n2 n3 hb=>?_,fun b hb=>?_⟩
     . have:b≠a:=by rcases ha with rfl|rfl|rfl<;>assumption
       rw[au this]
       show kx b o n1 n2 n3 hb
     . by_cases e:b=a
       . subst e
         show⟨_,ae,by rw[Z1];change _+1<=_;lia⟩
       . rw[au e]
         obtain⟨ys,gy,yl⟩:=lx b hb
         show⟨ys,gy,by lia⟩
   obtain⟨⟨o9,rfl⟩,kx,lx⟩:=z
   show kR _ _ ?_
   show ak fun Rk kR=>?_
   have Q8:=kx _ _ td.PB td.PI td.PN Q7
   have VM:=kx _ _ (tne G8).1 (tne G8).2.1 (tne G8).2.2.1 G8
   show⟨_,U,?_⟩
   show aH VM U ?_
   show⟨.inl ⟨U,_,aE.of Q8⟩,P',_,U,U,Q8,?_⟩
   show kR _ _ ?_
   have vp:∀a o,(a≠B'/\a≠I'/\a≠N'/\a≠P')->H8 a=some o->(upd Hx P' (.lst [])) a=some o:=fun a o n z=>by
     rw[au n.2.2.2]
     show kx a o n.1 n.2.1 n.2.2.1 z
   generalize upd Hx P' (.lst [])=BQ at vp ⊢
   have BG:TK H8 BQ:=fun a xs z=>vp a _ (tne z) z
   have tk310:=PJ.trans BG
   have nF:=fun a (o:HO) (z:H4 a=some o)=>ar z Sj
   have Xm:F0≠B'/\F0≠I'/\F0≠N'/\F0≠P':=⟨(nF _ _ td.pt.hB).symm,(nF _ _ td.pt.hI).symm,(nF _ _ td.pt.hN).symm,(nF _ _ td.hP).symm⟩
   have Ul:=rq.ne Sj
   have yi:∀a o,a≠r->H3 a=some o->BQ a=some o:=fun a o n z=>vp a o (nb a o z) (R5.k _ _ n z)
   have R1:∀{Bx Ix Nx:Addr} {KA:List V},Bx≠r->Ix≠r->Nx≠r->oq H3 Bx Ix Nx vb KA bs ins nds->oq BQ Bx Ix Nx vb KA bs ins nds:=fun n1 n2 n3 z=>⟨yi _ _ n1 z.hB,yi _ _ n2 z.hI,yi _ _ n3 z.hN,Paired.aV z.pb fun v v z=>Tp.keep tk310 z,Paired.aV z.pn fun v v z=>aG.keep tk310 z⟩
   have JA:=R1 (l2.rl.ne Xj) (l2.rl.ne Xn) (l2.rl.ne Xo) JB
   have zK:=R1 pd.nB pd.nI pd.nN A4
   have A7:=rq.same s5
   have Ii:=(Rl.of A7 (aa s6 s7)).trans l8
   have BF:=(Rl.tk A7 Ii).trans BG
   have O6:oq BQ B I F0 vb us bs ins (lF nds nd x y e e2 b b2):=⟨zK.hB,zK.hI,vp _ _ Xm (Ii.k _ _ Ul QX),zK.pb,Paired.aV pu fun v v z=>aG.keep BF z⟩
   have M7:=BF _ _ gd
   have R4:Rl r H BQ:=by
     obtain⟨r1,r2,Wv,_⟩:=id Xb.rl
     show⟨⟨r1,r2,vp _ _ nr Wv,aae⟩,fun a o n z=>yi a o n (l3.k _ _ n z)⟩
   show⟨_,U,_,U,true,fY P7 (tk310 _ _ G6) (tk310 _ _ FN) JA zK,_,U,cJ ?_⟩
   show⟨_,U,_,U,p1,B1,I1,N1,vb,vn,bs,ins,nds,nd,most,longest,U,je,tk310 _ _ G6,JA,ok,lg,fun no=>aB ex no,fun x' y' e' yf b' Uy v k1 k2 q1 XN Ur Yw YN YO Ym sm2 ZL XX Yy VJ F9 v=>?_⟩
   rw[h1]at k1
   cases k1
   rw[h2]at k2
   cases k2
   show⟨_,U,q1,XN,d,Ur,XX,U,VJ,F9.hP,fY Mc F9.hp (F9.s _ _ M7) F9.pt (keepP F9.s O6),fun Yz s12=>q _ (R4.trans (Rl.of R4.rl (aa F9.s s12)))⟩
 cases wk with
 | false=>show⟨_,rfl,_,rfl,aA rfl (fin _ (same_refl _))⟩
 | true=>
   have w2:=Yp rfl
   have pr:=ok.bx.pr
   have fw:=ok.few
   show⟨_,U,_,U,aM rfl ?_⟩
   show⟨_,U,_,U,_,U,?_⟩
   show aH Rn U ?_
   show⟨p,d,P',ps,sm,se,bs,nds,_,_,_,U,Jn,by lia,by rw[qO];lia,fun H7 s7=>⟨_,U,aA rfl (fin _ s7)⟩⟩
abbrev S8:Stmt:=top 48
def wJ {K:ZV}{H:Hp}{n:Nat}{a c:Addr}{ms ys:List Int}(ha:H a=some (.tup (ms.map V.int)))(hb:H c=some (.tup (ys.map V.int))):∃b,RB K H n (.ref a) (.ref c) b/\(b=true->ms=ys):=by
 show⟨_,⟨a,c,_,_,U,U,.inr (.inr ⟨fun j=>decide (ms[j]?=ys[j]?),aN.of ha,aN.of hb,fun j x y hx hy=>?_,U⟩)⟩,fun h=>?_⟩
 . obtain⟨x0,C4,rfl⟩:=bG hx
   obtain⟨y0,WL,rfl⟩:=bG hy
   have e:decide (ms[j]?=ys[j]?)=fA (.int x0) (.int y0):=by
     rw[C4,WL]
     by_cases e:x0=y0<;>simp[e,fA]
   change EB K H n (.int x0) (.int y0) (decide (ms[j]?=ys[j]?))
   rw[e]
   show .flat rfl rfl
 . rw[aaY,ZW,ZW]at h
   have hl:ms.length=ys.length:=by simpa using h.2
   apply List.ext_getElem?
   intro j
   by_cases hj:j<ms.length
   . show iN (List.all_eq_true.mp h.1 j (List.mem_range.mpr (by lia)))
   . rw[abQ (by lia),abQ (by lia)]
def sT (H:Hp)(a:Addr):Bool:=match H a with
 | some (.tup [.int p,.int q])=>fA (.int p) (.int 0)&&(fA (.int q) (.int 0)&&true)
 | _=>false
def GI {K:ZV}{H:Hp}{a z:Addr}{p q:Int}(hne:a≠z)(ha:H a=some (.tup [.int p,.int q]))(hz:H z=some (.tup [.int 0,.int 0])):EB K H 1 (.ref a) (.ref z) (sT H a):=by
 have e:sT H a=((aax (min ([V.int p,.int q]).length ([V.int 0,.int 0]).length)).all (fun j=>if j=0 then fA (.int p) (.int 0)else fA (.int q) (.int 0))&&([V.int p,.int q]).length==([V.int 0,.int 0]).length):=by
   unfold sT
   rw[ha]
   change _=((fA (.int p) (.int 0)&&(fA (.int q) (.int 0)&&true))&&true)
   rw[adX]
 rw[e]
 show EB.tup hne (aN.of ha) (aN.of hz) fun j x y hx hy=>?_
 match j,hx,hy with
 | 0,hx,hy=>cases hx;cases hy;show .flat rfl rfl
 | 1,hx,hy=>cases hx;cases hy;show .flat rfl rfl
def mi:az ["one","other","paper","there","places","mine","yours","known","p","q","entry"] ["one","other","paper"] (aj S8):=cU
def IY {tO:Addr}{f:Addr}{fd:aaa}(F:bQ K "_law_shows" "_law_shows" S8 f fd)(m_sorted:mg "sorted"=none)(BN0:aO P w K mg base "_law_by_names" ["program","word","worths"] 1 ud)(EV0:aO P w K mg base "_law_every" ["program"] 1 E6)(BE0:aO P w K mg base "_law_begins" ["program","worths"] 1 E4)(BP0:aO P w K mg base "_law_by_places" ["paper"] 1 (z5 tO))(CT0:aO P w K mg base "_law_counting" ["there","p","q","known"] 52 (ue K tO))(WE0:aO P w K mg base "_law_well" ["one","other","there_are","entry","mine","yours","known"] 53 (z6 K tO)):aK P w K mg base bJ 55 f fd ["one","other","paper"] (E8 K tO):=by
 show F.df mi fun cdv A outer s H vs Q E hr h=>?_
 obtain⟨p1,p2,P0,ps,sm,se,bs,nds,nds',lv,R,rfl,pap,pr,R9,q⟩:=h
 have BN:=BN0.mono (show 1<=54 by lia)
 have EV:=EV0.mono (show 1<=54 by lia)
 have BE:=BE0.mono (show 1<=54 by lia)
 have BP:=BP0.mono (show 1<=54 by lia)
 have CT:=CT0.mono (show 52<=54 by lia)
 have WE:=WE0.mono (show 53<=54 by lia)
 have l4:=pap.bt.l4
 have l9:=pap.l9
 show cM ⟨_,(aeg (aen 3 mi.nd (aek BP hr U (L (Y 2) M)))
   (aeg (aen 4 mi.nd (aex L3.rY U m_sorted (by right) (L (Y 3) M)))
   (aeg (aeq (aeo (L3.vT (m:=1) (bB hr _ (by left))) (aet (L aef (L aef M))) (Y 4) U) (aej (aem aez)) aer)
   (aeg (aeJ (aeA (aek EV hr U (L (Y 0) M))) (aep 5 mi.nd) (aej (aeJ (aeA (aek EV hr U (L (Y 1) M))) (aep 6 mi.nd) (aeg (aen 7 mi.nd (aek BN hr U (L (Y 0) (L ael (L (Y 5) M)))))
   (aeg (aeQ (afy (bB hr _ (by left)) (Y 7) (aek BN hr U (L (Y 1) (L ael (L (Y 6) M))))))
   (aeg (aeJ (aeA (Y 4)) (aeC 2 (aev (aep 8 mi.nd) (aev (aep 9 mi.nd) aeB))) (aeg (aen 10 mi.nd (aek CT hr U (L (Y 3) (L (Y 8) (L (Y 9) (L (Y 7) M))))))
   (aej (aeq (aeo L3.pE (Y 10) aeL) (aej (aeq (aeR (aeG (aek WE hr U (L (Y 0) (L (Y 1) (L (Y 3) (L (Y 10) (L (Y 5) (L (Y 6) (L (Y 7) M)))))))))) (aej (aem aez)) aer)) aer))))
   (aej (aeq (aeF (ae1 (aeo (L3.qT (m:=2) (bB hr _ (by left))) (Y 5) (Y 6)) (ae2 (aeG (aek BE hr U (L (Y 0) (L (Y 5) M))))))) (aej (aeq (aeo aeZ (aek CT hr U (L (Y 3) (L aef (L aef (L (Y 7) M))))) aeL) (aej (aem aez)) aer)) aer))))))))
   (aej (aem aez)))))),?_⟩
 show ak fun Rk kR=>?_
 show⟨_,U,P0,ps,sm,lv,U,pap.hP,pap.pp,l9,fun D H1 s1 nD th=>?_⟩
 show ai (kR _ _ ?_)
 show aq [some (.ref p1),some (.ref p2),some (.ref P0),some (.ref D),none,none,none,none,none,none,none] U ?_
 show ak fun Rk kR=>?_
 obtain⟨kvs,gD,kl,c1,c2,c3⟩:=th.ex
 show⟨_,U,D,kvs,U,gD,by lia,(fun k hk=>let⟨e,_,ee⟩:=c3 k hk;⟨_,_,ee⟩),fun L8 as nL al ha hb=>?_⟩
 have s2:=af nL (.lst (as.map V.ref))
 have gL:(upd H1 L8 (.lst (as.map V.ref))) L8=some (.lst (as.map V.ref)):=ae
 generalize upd H1 L8 (.lst (as.map V.ref))=H2 at s2 gL ⊢
 show ai (kR _ _ ?_)
 show aq [some (.ref p1),some (.ref p2),some (.ref P0),some (.ref D),some (.ref L8),none,none,none,none,none,none] U ?_
 show ak fun Rk kR=>?_
 show⟨agm,fun z hz=>?_⟩
 have s3:=af hz (.tup [.int 0,.int 0])
 have gz:(upd H2 z (.tup [.int 0,.int 0])) z=some (.tup [.int 0,.int 0]):=ae
 generalize upd H2 z (.tup [.int 0,.int 0])=H3 at s3 gz ⊢
 have s13:=aa s2 s3
 have Mo:as.any (sT H3)=true:=by
   obtain⟨f0,Ax,e1,e2⟩:=pap.sim.zero
   obtain⟨v,hv⟩:=c2 f0 Ax
   rw[e1,e2]at hv
   obtain⟨a,Hs,hat⟩:=hb 0 0 (cA hv)
   show List.any_eq_true.mpr ⟨a,Hs,?_⟩
   unfold sT
   rw[s13 _ _ hat]
   rfl
 show⟨_,U,L8,as,sT H3,U,aE.of (s3 _ _ gL),(fun a Ht=>?_),_,U,aA (by rw[Mo];rfl) (kR _ _ ?_)⟩
 . obtain⟨p,q,_,hat⟩:=ha a Ht
   show GI (ar (s2 _ _ hat) hz) (s13 _ _ hat) gz
 show ak fun Rk kR=>?_
 have LW:=aa s1 s13
 have oD:xJ K tO H3 p1 p2 D sm se bs nds nds' lv R:=⟨pap.g1.same LW,pap.g2.same LW,pap.nt,pap.nt2,th.same s13,l9,pap.cn.same LW,pap.sim,pap.bt⟩
 have GV:=s3 _ _ gL
 have QA:∀a∈as,∃p q:Int,H3 a=some (.tup [.int p,.int q]):=fun a Ht=>let⟨p,q,_,hat⟩:=ha a Ht;⟨p,q,s13 _ _ hat⟩
 show⟨_,U,p1,bs,U,oD.g1.bx,pap.bt.sz,by lia,l4,fun M1 Yt H4 s4 ZA Q3 ZS hx1=>?_⟩
 show⟨M1,U,⟨_,aE.of Q3⟩,?_⟩
 show bC (xs:=Yt) (fun i σ Hx=>(∃o5 o6 o7 o8 o9 o10,σ=[some (.ref p1),some (.ref p2),some (.ref P0),some (.ref D),some (.ref L8),o5,o6,o7,o8,o9,o10])/\ag H4 Hx) ⟨⟨_,_,_,_,_,_,U⟩,same_refl _⟩ (fun i σ Hx y z=>aE.of (z.2 _ _ Q3)) (fun i x0 σ Hx hx z=>?_) (fun σ Hx z=>?_)
 . obtain⟨⟨o5,o6,o7,o8,o9,o10,rfl⟩,sx⟩:=z
   obtain⟨ms,⟨am,rfl,Vy⟩,Iu⟩:=j4.keep (ag.tk sx) (hx1 x0 (ZZ hx))
   have qR:=Iu.len.symm
   have SQ:=aa s4 sx
   have stx:=oD.same SQ
   show ai ?_
   show aq [some (.ref p1),some (.ref p2),some (.ref P0),some (.ref D),some (.ref L8),some (.ref am),o6,o7,o8,o9,o10] U ?_
   show⟨_,U,p2,bs,U,stx.g2.bx,pap.bt.sz,by lia,l4,fun M2 Yu H5 s5 ZC Q4 ZT hx2=>?_⟩
   show⟨M2,U,⟨_,aE.of Q4⟩,?_⟩
   show bC (xs:=Yu) (fun j σ Hy=>(∃o6 o7 o8 o9 o10,σ=[some (.ref p1),some (.ref p2),some (.ref P0),some (.ref D),some (.ref L8),some (.ref am),o6,o7,o8,o9,o10])/\ag H5 Hy) ⟨⟨_,_,_,_,_,U⟩,same_refl _⟩ (fun j σ Hy y z=>aE.of (z.2 _ _ Q4)) (fun j y0 σ Hy hy z=>?_) (fun σ Hy z=>?_)
   . obtain⟨⟨o6,o7,o8,o9,o10,rfl⟩,sy⟩:=z
     obtain⟨ys,⟨ay,rfl,M6⟩,T9⟩:=j4.keep (ag.tk sy) (hx2 y0 (ZZ hy))
     have Md:=T9.len.symm
     have sxy:=aa s5 sy
     have SR:=aa SQ sxy
     have F4:=oD.same SR
     have yn:=sxy _ _ Vy
     show ai ?_
     show aq [some (.ref p1),some (.ref p2),some (.ref P0),some (.ref D),some (.ref L8),some (.ref am),some (.ref ay),o7,o8,o9,o10] U ?_
     show ak fun Rk kR=>?_
     obtain⟨B,I,N,vb,hp,hB,pb⟩:=F4.g1.bx.ex
     obtain⟨B2,I2,N2,Ga,eY,xO,FZ⟩:=F4.g2.bx.ex
     show⟨_,U,_,U,p1,B,I,N,am,"mine",vb,bs,ms,U,hp,hB,pb,yn,qR.symm,by lia,fun D1 H6 s6 Xl FH=>?_⟩
     show ai (kR _ _ ?_)
     show aq [some (.ref p1),some (.ref p2),some (.ref P0),some (.ref D),some (.ref L8),some (.ref am),some (.ref ay),some (.ref D1),o8,o9,o10] U ?_
     show ak fun Rk kR=>?_
     show⟨_,U,D1,U,.inr ⟨_,.inl FH⟩,_,U,_,U,p2,B2,I2,N2,ay,"yours",Ga,bs,ys,U,s6 _ _ eY,s6 _ _ xO,(Paired.aV FZ fun y y z=>Tp.keep (ag.tk s6) z),s6 _ _ M6,Md.symm,(by lia),fun D2 H7 s7 Dt mD=>?_⟩
     have DD:D1≠D2:=ar FH Dt
     have k1:=dt (word:="mine") bs ms qR.symm
     have k2:=dt (word:="yours") bs ys Md.symm
     have Ar:=s7 _ _ FH
     have n1:=eP (word:="mine") bs ms qR.symm pap.bt.nd
     have n2:=eP (word:="yours") bs ys Md.symm pap.bt.nd
     rw[n1]at Ar
     rw[n2]at mD
     show⟨D2,_,_,U,Ar,mD,DD,(by cases bs with|nil=>show .inr rfl|cons b r=>cases ms with|nil=>simp at qR|cons m r2=>show .inl (fun z=>nomatch z)),?_,?_⟩
     . have:1000<=sizeLine:=by left
       lia
     have L6:=av (o:=.dT (putAllT (fc "mine" bs ms) (fc "yours" bs ys))) (aa s6 s7) Xl
     have kn:=lM (H:=upd H7 D1 (.dT (putAllT (fc "mine" bs ms) (fc "yours" bs ys)))) (D:=D1) pap.bt.nd qR.symm Md.symm (by rw[n1];show ae)
     generalize upd H7 D1 (.dT (putAllT (fc "mine" bs ms) (fc "yours" bs ys)))=H8 at L6 kn ⊢
     show kR _ _ ?_
     show ak fun Rk kR=>?_
     have s38:=aa SR L6
     have Ts:=oD.same s38
     show⟨_,U,L8,U,⟨_,aE.of (s38 _ _ GV)⟩,?_⟩
     show bC (xs:=as.map V.ref) (fun k σ Hz=>(∃o8 o9 o10,σ=[some (.ref p1),some (.ref p2),some (.ref P0),some (.ref D),some (.ref L8),some (.ref am),some (.ref ay),some (.ref D1),o8,o9,o10])/\ag H8 Hz) ⟨⟨_,_,_,U⟩,same_refl _⟩ (fun k σ Hz y z=>aE.of (z.2 _ _ (s38 _ _ GV))) (fun k w0 σ Hz hw z=>?_) (fun σ Hz z=>?_)
     . obtain⟨⟨o8,o9,o10,rfl⟩,sz⟩:=z
       obtain⟨a,Ht,rfl⟩:=bG hw
       obtain⟨p,q',hat⟩:=QA a (ZZ Ht)
       have F5:=Ts.same sz
       show kT (sz _ _ (s38 _ _ hat)) ?_
       show aq [some (.ref p1),some (.ref p2),some (.ref P0),some (.ref D),some (.ref L8),some (.ref am),some (.ref ay),some (.ref D1),some (.int p),some (.int q'),o10] U ?_
       show ak fun Rk kR=>?_
       show⟨_,U,_,U,_,U,_,U,D,D1,p,q',sm,se,lv,bs,R,_,U,F5.th,l9,F5.cn,kn.same sz,fun hh x6 e6 H9 s9 yw FE MC uy=>?_,fun z H9 s9=>?_⟩
       . have vt:=uy
         obtain⟨Eb,rfl,CU⟩:=uy
         have hR:R e6.1 ms ys:=(pap.cn.iff e6 yw ms ys Iu T9).mp (by rw[FE];show hh)
         show ai (kR _ _ ?_)
         show aq [some (.ref p1),some (.ref p2),some (.ref P0),some (.ref D),some (.ref L8),some (.ref am),some (.ref ay),some (.ref D1),some (.int p),some (.int q'),some (.ref Eb)] U ?_
         show⟨_,U,U,_,U,?_⟩
         rw[V.dN]
         show cJ ?_
         have Kh:=aa sz s9
         have Tv:=aa L6 Kh
         show⟨_,U,_,U,_,U,_,U,_,U,_,U,_,U,p1,p2,D,am,ay,D1,.ref Eb,sm,se,bs,nds,nds',lv,R,e6,ms,ys,_,U,F5.same s9,yw,vt,Tv _ _ yn,Tv _ _ M6,hR,kn.same Kh,fun BQ zQ=>⟨_,U,aA rfl ?_⟩⟩
         show⟨⟨_,_,_,U⟩,aa Kh zQ⟩
       . show ai (kR _ _ ?_)
         show⟨_,U,U,_,U,aA (by left) ?_⟩
         show⟨⟨_,_,_,U⟩,aa sz s9⟩
     obtain⟨⟨o8,o9,o10,rfl⟩,sz⟩:=z
     show kR _ _ ?_
     have syz:=aa L6 sz
     have F5:=Ts.same sz
     obtain⟨b,rb,uv⟩:=wJ (K:=K) (n:=2) (syz _ _ yn) (syz _ _ M6)
     show⟨_,U,_,U,b,rb,_,U,?_⟩
     cases b with
     | false=>show d6 (d6 ⟨⟨_,_,_,_,_,rfl⟩,aa sy syz⟩)
     | true=>
       show cJ ?_
       have my:=uv rfl
       subst my
       obtain⟨B,I,N,vb,vn,ins,hp,hB,pb,hN,pn,hI⟩:=F5.g1.ex
       show⟨_,U,_,U,p1,B,I,N,am,vb,bs,ins,ms,U,hp,hB,pb,hI,syz _ _ yn,qR.symm,l4,fun kk H9 s9=>⟨_,U,?_⟩⟩
       cases kk with
       | false=>show d6 ⟨⟨_,_,_,_,_,rfl⟩,aa sy (aa syz s9)⟩
       | true=>
         show cJ ?_
         have Kh:=aa sz s9
         have Kg:=F5.same s9
         obtain⟨f0,Ax,e1,e2⟩:=pap.sim.zero
         have hh:(se 0).holds (W2 bs ms ms)=true:=by rw[← e1];show(pap.cn.iff f0 Ax ms ms Iu Iu).mpr (by rw[e1];show pap.sim.beg ms Iu)
         show⟨_,U,_,U,D,D1,0,0,sm,se,lv,bs,R,_,U,Kg.th,l9,Kg.cn,kn.same Kh,fun y x6 e6 BQ zQ yw FE MC uy=>?_,fun z=>?_⟩
         . obtain⟨Eb,rfl,CU⟩:=uy
           show⟨U,_,U,?_⟩
           rw[V.dN]
           show d6 ⟨⟨_,_,_,_,_,U⟩,aa sy (aa syz (aa s9 zQ))⟩
         . rcases z with z|z
           . rw[hh]at z
             cases z
           . show(z f0 Ax e1 e2).elim
   . obtain⟨⟨o6,o7,o8,o9,o10,rfl⟩,sy⟩:=z
     show⟨⟨_,_,_,_,_,_,U⟩,aa sx (aa s5 sy)⟩
 obtain⟨⟨o5,o6,o7,o8,o9,o10,rfl⟩,sx⟩:=z
 show kR _ _ ?_
 show q _ (aa LW (aa s4 sx))
end
end TW
namespace TW
open PySem L2
def B4 (K:ZV)(mg:Str->Option Value)(x:Str)(xs:List Str):Prop:=∃t,mg x=some (.ref t)/\∀H:Hp,aN K H t (xs.map V.str)
def su {K:ZV}{C:Addr}{cd:ClassData}{l:List Value}(h:acM K C=some cd)(m:cd.mro=l):lu K C=some l:=by
 unfold acM at h
 unfold lu
 split at h
 . rename_i e
   cases h
   rw[e,← m]
 . cases h
structure Us (K:ZV)(mg:Str->Option Value)(T bO:Addr):Prop where
 t:Xc K mg "TwinError" T vE
 x_NoChange:Xc K mg "NoChange" bO (.ref T::vE)
 k_NoChange:Qz K bO
 o_NoChange:PySem.W.kitAny K (.ref bO) []=some false
 v_NoChange:ab3 K (.ref bO) (.type "ValueError")=some true
 i_NoChange_NoChange:ab3 K (.ref bO) (.ref bO)=some true
def BK {K:ZV}{h:Heap}{mg:Str->Option Value}{x:Str}{C:Addr}{cd:ClassData}{tl:List Value}(X:K.In h)(G:h.Ns aaN mg)(a:adR K aaN x=some (some (.ref C)))(e:ads K C vE "ValueError.__new__"=true)(l:acM K C=some cd)(m:cd.mro=.ref C::tl):Xc K mg x C tl:=⟨acL X G a,e,su l m⟩
def Fp {K:ZV}{C:Addr}{cd:ClassData}(ga:ab4 K (.ref C) "__getattribute__"=some (some (.builtin "BaseException.__getattribute__")))(gn:ab4 K (.ref C) "__getattr__"=some none)(ha:ab4 K (.ref C) "__class__"=some (some (.builtin "object.__class__")))(hn:ad7 K (.builtin "object.__class__") "__get__"=some (some (.builtin "getset_descriptor.__get__")))(htk:PySem.W.takesIn K (.builtin "object.__class__")=some true)(hm:adq K C (.type "object")=some true)(hb:adq K C (.type "BaseException")=some true)(l:acM K C=some cd):Qz K C:=⟨ga,gn,ha,hn,htk,hm,hb,by rw[l];rfl⟩
def rN {K:ZV}{h:Heap}{mg:Str->Option Value}{x:Str}{t:Addr}{od:Option Addr}{sl:Array (Option Value)}{n:Nat}{us:Array Value}{xs:List Str}(X:K.In h)(G:h.Ns aaN mg)(a:adR K aaN x=some (some (.ref t)))(l:K.lookup t=some ⟨.type "tuple",od,.seq us n,sl⟩)(b:us.size<=sizeLine)(e:us.toList.length=xs.length)(r:Vals (xs.map V.str) us.toList):B4 K mg x xs:=⟨_,acL X G a,fun z=>.inr ⟨_,_,_,l,rfl,rfl,b,r⟩⟩
def aF {K:ZV}{h:Heap}{mg:Str->Option Value}{x:Str}{st:Stmt}{od an:Option Addr}{sl:Array (Option Value)}{oc kV dc pm cd ct:Value}{f:Addr}(X:K.In h)(G:h.Ns aaN mg)(a:adR K aaN x=some (some (.ref f)))
   (l:K.lookup f=some ⟨oc,od,.func (aaZ x x (cu st) (bP st) (aj st) .none kV dc pm an cd ct),sl⟩) (c:acB K cd x=true) (k:abH K (.ref f)=true):Src K mg x st:=⟨_,_,Ck l c k,acL X G a⟩
def tw_mk {K:ZV}{t:Addr}{vs:List V}{n2:Nat}{od:Option Addr}{sl:Array (Option Value)}{us:Array Value}(lt:K.lookup t=some ⟨.type "tuple",od,.seq us n2,sl⟩)(b:us.size<=sizeLine)(r:Vals vs us.toList):∀H:Hp,aN K H t vs:=fun z=>.inr ⟨_,_,_,lt,rfl,rfl,b,r⟩
def Mk (K:ZV)(mg:Str->Option Value)(x:Str)(vs:List V):Prop:=∃t,mg x=some (.ref t)/\∀H:Hp,aN K H t vs
structure Gu (w:World)(K:ZV)(mg:Str->Option Value):Prop where
 s_leads_of:Src K mg "leads_of" (top 6)
 s_joined_by:Src K mg "joined_by" (top 9)
 s_all_of:Src K mg "all_of" (top 10)
 s_any_of:Src K mg "any_of" (top 11)
 s_refuse_no_nodes:Src K mg "refuse_no_nodes" (top 14)
 s_led_anew:Src K mg "led_anew" (top 15)
 s_with_nodes:Src K mg "with_nodes" (top 16)
 s_boxes_same:Src K mg "boxes_same" (top 17)
 s_all_same:Src K mg "all_same" (top 18)
 s_level_entry:Src K mg "level_entry" (top 19)
 s_names_box:Src K mg "names_box" (top 20)
 s_refuse_exchange:Src K mg "refuse_exchange" (top 21)
 s_exchanged_puts:Src K mg "exchanged_puts" (top 22)
 s_between_puts:Src K mg "between_puts" (top 23)
 s_put_made:Src K mg "put_made" (top 24)
 s_small_sum:Src K mg "small_sum" (top 25)
 s_small_part:Src K mg "small_part" (top 26)
 s_parts_of:Src K mg "parts_of" (top 27)
 s_law_next:Src K mg "_law_next" (top 29)
 s_law_pots:Src K mg "_law_pots" (top 30)
 s_law_some_boxes:Src K mg "_law_some_boxes" (top 31)
 s_law_any_sum:Src K mg "_law_any_sum" (top 32)
 s_law_any_condition:Src K mg "_law_any_condition" (top 33)
 s_law_one_node:Src K mg "_law_one_node" (top 34)
 s_law_some_program:Src K mg "_law_some_program" (top 35)
 s_law_copy:Src K mg "_law_copy" (top 36)
 s_law_led:Src K mg "_law_led" (top 37)
 s_law_is_made:Src K mg "_law_is_made" (top 38)
 s_law_worth_of:Src K mg "_law_worth_of" (top 39)
 s_law_holds:Src K mg "_law_holds" (top 40)
 s_law_by_names:Src K mg "_law_by_names" (top 41)
 s_law_step:Src K mg "_law_step" (top 42)
 s_law_every:Src K mg "_law_every" (top 43)
 s_law_begins:Src K mg "_law_begins" (top 44)
 s_law_by_places:Src K mg "_law_by_places" (top 45)
 s_law_counting:Src K mg "_law_counting" (top 46)
 s_law_well:Src K mg "_law_well" (top 47)
 s_law_shows:Src K mg "_law_shows" (top 48)
 s_law_plant:Src K mg "_law_plant" (top 49)
 s_law_boxes_in:Src K mg "_law_boxes_in" (top 50)
 s_law_is_entry:Src K mg "_law_is_entry" (top 51)
 s_law_both:Src K mg "_law_both" (top 52)
 s_law_walked:Src K mg "_law_walked" (top 53)
 s_law_looked_at:Src K mg "_law_looked_at" (top 54)
 s_law_due:Src K mg "_law_due" (top 55)
 s_law_asked:Src K mg "_law_asked" (top 56)
 s_law_case:Src K mg "_law_case" (top 57)
 s_law:Src K mg "law" (top 58)
 c_PARTED:B4 K mg "PARTED" ["plus","less","same","under","not","both"]
 c_YES:B4 K mg "YES" ["yes"]
 c_NOUGHT:Mk K mg "NOUGHT" [.str "number",.int 0]
 cl:∃T bO,Us K mg T bO
 m_len:mg "len"=none
 m_list:mg "list"=none
 m_range:mg "range"=none
 m_zip:mg "zip"=none
 m_dict:mg "dict"=none
 m_int:mg "int"=none
 m_isinstance:mg "isinstance"=none
 m_bool:mg "bool"=none
 m_tuple:mg "tuple"=none
 m_sorted:mg "sorted"=none
 m_max:mg "max"=none
 m_min:mg "min"=none
 m_enumerate:mg "enumerate"=none
 m_any:mg "any"=none
 m_all:mg "all"=none
 m_str:mg "str"=none
 m_ValueError:mg "ValueError"=none
end TW
namespace TW
open PySem L2
section
variable{P:Program}{w:World}{K:ZV}{mg:Str->Option Value}{base:Heap}
abbrev EL:Stmt:=top 58
def rF (K:ZV):Sp:=fun vs H Q z=>∃(a:Addr) (ns:List Int),vs=[.ref a]/\aE K H a (ns.map V.int)/\ns.length<=63/\∀H',Q (.bl true) H'
def qC (xs:List V)(n:Nat):dj xs none (some (n:Int))=xs.take n:=by
 unfold dj
 have e0:HT.bz xs.length 0 none=0:=rfl
 have e1:HT.bz xs.length xs.length (some (n:Int))=min n xs.length:=HT.eR _ _ _
 rw[e0,e1,abv,abR]
 by_cases h:n<=xs.length
 . rw[ady h]
 . rw[Nat.min_eq_right (by lia),aag,aaP (by lia)]
structure Gq (H:Hp)(L8:Addr)(ps:List Addr):Prop where
 hL:H L8=some (.lst (ps.map V.ref))
 hr:∀p∈ps,bZ H p
def Gq.go {H H':Hp}{L8 r:Addr}{ps:List Addr}(h:Gq H L8 ps)(hr:r∈ps)(l:Rl r H H'):Gq H' L8 ps:=by
 show⟨l.k _ _ (cw (h.hr r hr) h.hL fun i j e=>?_) h.hL,fun p hp=>?_⟩
 . match ps,e with
   | a::_,e=>show nomatch e
 . by_cases e:p=r
   . rw[e];show l.rl
   . obtain⟨a,b,h1,h2⟩:=h.hr p hp
     show⟨a,b,l.k _ _ e h1,h2⟩
def kN:az ["script","pots","pot","boxes","nodes"] ["script"] (aj EL):=cU
def Ai {α:Type}{P:α->Prop}{a b:α}(h:P a)(h2:P b):∀x∈[a,b],P x:=fun x hx=>by
 rcases bT hx with e|hx
 . rw[e];show h
 . rw[bU hx];show h2
def DC {tO:Addr}{f:Addr}{fd:aaa}(F:bQ K "law" "law" EL f fd)(m_range:mg "range"=none)(PO0:aO P w K mg base "_law_pots" ["script"] 1 (pZ K))(SP0:aO P w K mg base "_law_some_program" ["pot","most","wide","longest"] 11 rK)(NX0:aO P w K mg base "_law_next" ["pot","many"] 1 b7)(NO0:aO P w K mg base "_law_one_node" ["pot","names","many"] 10 pY)(CA0:aO P w K mg base "_law_case" ["pot","program","planted","walked"] 56 (J6 K tO)):aK P w K mg base bJ 65 f fd ["script"] (rF K):=by
 show F.df kN fun cdv A outer s H vs Q E hr h=>?_
 obtain⟨a,ns,rfl,ha,nl,q⟩:=h
 have PO:=PO0.mono (show 1<=64 by lia)
 have SP:=SP0.mono (show 11<=64 by lia)
 have CA:=CA0.mono (show 56<=64 by lia)
 have NX:=NX0.mono (show 1<=64 by lia)
 have NO:=NO0.mono (show 10<=64 by lia)
 show cM ⟨_,(aeg (aen 1 kN.nd (aek PO hr U (L (L3.xa (Y 0) aef) M)))
   (aeg (aeJ (aeA (Y 1)) (aep 2 kN.nd) (aej (aeq (aeR (aeG (aek CA hr U (L (Y 2) (L (aek SP hr U (L (Y 2) (L aef (L aef (L aef M))))) (L (aeK aew (aek NX hr U (L (Y 2) (L aef M))) aef) (L aez M))))))) (aej (aem aez)) aer)))
   (aeg (aen 2 kN.nd (aeh aey (Y 1) aef))
   (aeg (aeq (aeR (aeG (aek CA hr U (L (Y 2) (L (aek SP hr U (L (Y 2) (L aef (L aef (L aef M))))) (L aez (L aez M))))))) (aej (aem aez)) aer)
   (aeg (aen 3 kN.nd (aeu (L (aet (L ael (L (aes aeN aef (aek NX hr U (L (Y 2) (L aef M)))) M))) (L (aet (L ael (L (aes aeN aef (aek NX hr U (L (Y 2) (L aef M)))) M))) M))))
   (aeg (ae3 (i:=4) [none,some 2] ["k","pot"] (iw EL) U (ae5 U m_range (L aef M)) (fun y y y y y=>⟨(aep 0 (d9 ["k","pot"])),aeE,(aek NO hr U (L (Y 1) (L (aeu (L ael (L ael M))) (L aef M))))⟩) kN.nd)
   (aej (aem (aek CA hr U (L (Y 2) (L (aet (L (Y 3) (L (L3.xa (aeu (L ael (L ael M))) (aek NX hr U (L (Y 2) (L aef M)))) (L (Y 4) M)))) (L aez (L aez M))))))))))))),?_⟩
 show ak fun Rk kR=>?_
 show⟨_,U,_,U,a,_,U,ha,fun l hl=>?_⟩
 rw[show(12:Int)=((12:Nat):Int)from rfl,qC,← acZ]
 have s1:=af hl (.lst ((ns.take 12).map V.int))
 have g1:(upd H l (.lst ((ns.take 12).map V.int))) l=some (.lst ((ns.take 12).map V.int)):=ae
 generalize upd H l (.lst ((ns.take 12).map V.int))=H1 at s1 g1 ⊢
 show⟨l,ns.take 12,U,aE.of g1,by rw[aac];lia,fun L8 ps H2 s2 nL gL p1 ZI nd hps=>?_⟩
 have nH:Gq H2 L8 ps:=⟨gL,fun p hp=>(hps p hp).2.2⟩
 show ai (kR _ _ ?_)
 show aq [some (.ref a),some (.ref L8),none,none,none] U ?_
 show ak fun Rk kR=>?_
 show⟨_,U,L8,U,⟨_,aE.of gL⟩,?_⟩
 show bC (xs:=ps.map V.ref) (fun i σ Hx=>(∃o2,σ=[some (.ref a),some (.ref L8),o2,none,none])/\Gq Hx L8 ps) ⟨⟨_,U⟩,nH⟩ (fun i σ Hx y z=>aE.of z.2.hL) (fun i x0 σ Hx hx z=>?_) (fun σ Hx z=>?_)
 . obtain⟨⟨o2,rfl⟩,pt⟩:=z
   obtain⟨r,CZ,rfl⟩:=bG hx
   have Lw:=ZZ CZ
   show ai ?_
   show aq [some (.ref a),some (.ref L8),some (.ref r),none,none] U ?_
   show⟨_,U,_,U,r,65536,16,40,U,pt.hr r Lw,by left,by left,by left,by left,by left,by left,fun p B I N vb vn bs ins nds H3 l3 hp pd ok=>?_⟩
   show⟨_,U,r,2,U,l3.rl,by left,by left,fun k H4 k0 k1 l4=>⟨U,?_⟩⟩
   show⟨r,p,B,I,N,vb,vn,bs,ins,nds,decide (V.int k=V.int 0),false,65536,40,U,l4.rl,Rl.tk l3.rl l4 _ _ hp,pd.go l3.rl l4,ok,by left,(fun z=>nomatch z),fun H5 l5=>⟨_,U,aA rfl ⟨⟨_,U⟩,pt.go Lw (l3.trans (l4.trans l5))⟩⟩⟩
 obtain⟨⟨o2,rfl⟩,pt⟩:=z
 show kR _ _ ?_
 obtain⟨r,CZ⟩ : ∃r,ps[0]?=some r:=⟨ps[0],Z3 (by lia)⟩
 have Lw:=ZZ CZ
 have hat:gY (ps.map V.ref) 0=some (.ref r):=aZ (xs:=ps.map V.ref) (j:=0) (by rw[aap,CZ];rfl)
 show ak fun Rk kR=>?_
 show⟨_,U,?_⟩
 show dF pt.hL hat ?_
 show ai (kR _ _ ?_)
 show aq [some (.ref a),some (.ref L8),some (.ref r),none,none] U ?_
 show ak fun Rk kR=>?_
 have rr:=pt.hr r Lw
 show⟨_,U,_,U,r,9,9,6,U,rr,by left,by left,by left,by left,by left,by left,fun p B I N vb vn bs ins nds H3 l3 hp pd ok=>?_⟩
 show⟨r,p,B,I,N,vb,vn,bs,ins,nds,true,true,9,6,U,l3.rl,hp,pd,ok,by left,(fun y=>⟨by left,by left⟩),fun H4 l4=>⟨_,U,aA rfl (kR _ _ ?_)⟩⟩
 show ak fun Rk kR=>?_
 show⟨_,U,r,3,U,l4.rl,by left,by left,fun k H5 k0 k1 l5=>⟨_,_,U,U,agm,fun b1 uv=>?_⟩⟩
 have zb1:=af uv (.tup [.str "one",.int (1+k)])
 have Gd:(upd H5 b1 (.tup [.str "one",.int (1+k)])) b1=some (.tup [.str "one",.int (1+k)]):=ae
 generalize upd H5 b1 (.tup [.str "one",.int (1+k)])=K1 at zb1 Gd ⊢
 obtain⟨c1,e1⟩ : ∃c1,c1=1+k:=⟨_,rfl⟩
 rw[← e1]at Gd
 have m1:=Rl.of l5.rl zb1
 show⟨_,U,r,3,U,m1.rl,by left,by left,fun k' H6 Zk Zl l6=>⟨_,_,U,U,agm,fun b2 hb2=>?_⟩⟩
 have Uc:=af hb2 (.tup [.str "two",.int (1+k')])
 have Qd:(upd H6 b2 (.tup [.str "two",.int (1+k')])) b2=some (.tup [.str "two",.int (1+k')]):=ae
 generalize upd H6 b2 (.tup [.str "two",.int (1+k')])=K2 at Uc Qd ⊢
 obtain⟨c2,e2⟩ : ∃c2,c2=1+k':=⟨_,rfl⟩
 rw[← e2]at Qd
 show⟨agm,fun B hB=>?_⟩
 have zB:=af hB (.lst [.ref b1,.ref b2])
 have yB:(upd K2 B (.lst [.ref b1,.ref b2])) B=some (.lst [.ref b1,.ref b2]):=ae
 generalize upd K2 B (.lst [.ref b1,.ref b2])=K3 at zB yB ⊢
 have m2:=Rl.of l6.rl Uc
 have m3:=Rl.of m2.rl zB
 have nB:B≠r:=m2.rl.ne hB
 have Qc:=Rl.tk m1.rl (l6.trans (m2.trans m3)) _ _ Gd
 have Qe:=zB _ _ Qd
 show ai (kR _ _ ?_)
 show aq [some (.ref a),some (.ref L8),some (.ref r),some (.ref B),none] U ?_
 show ak fun Rk kR=>?_
 show⟨4,U,by left,by left,fun N hN=>?_⟩
 have Nr:N≠r:=m3.rl.ne hN
 show cW (lo:=0) (n:=4) (fun(i:Nat) Hx=>Rl r K3 Hx/\∃vn nds,Hx N=some (.lst vn)/\vn.length=i/\Paired (aG Hx) vn nds/\∀e∈nds,gq ["one","two"] 4 e) ⟨Rl.new m3.rl hN,[],[],ae,U,.nil,fun y z=>nomatch z⟩ (fun i Hx hi z=>?_) (fun Hx z=>?_)
 . obtain⟨lx,vn,nds,gN,vl,pn,on⟩:=z
   show ai ?_
   show bI (A:=fun H5=>cp _ N _ H5 _) ?_
   show⟨_,U,agm,fun nl uw=>?_⟩
   have zl:=af uw (.lst [.str "one",.str "two"])
   have yl:(upd Hx nl (.lst [.str "one",.str "two"])) nl=some (.lst ((["one","two"]:List Str).map V.str)):=ae
   have vI:nl≠r:=lx.rl.ne uw
   generalize upd Hx nl (.lst [.str "one",.str "two"])=Hy at zl yl ⊢
   have ly:=Rl.of lx.rl zl
   show⟨r,nl,4,["one","two"],U,⟨ly.rl,vI,yl,by left⟩,by left,by left,fun v e H5 l5 nv ok=>?_⟩
   have Cm:=(ly.trans l5).k _ _ Nr gN
   show⟨_,Cm,aC (by lia),aD (Pv:=fun(i:Nat) Hx=>Rl r K3 Hx/\∃vn nds,Hx N=some (.lst vn)/\vn.length=i/\Paired (aG Hx) vn nds/\∀e∈nds,gq ["one","two"] 4 e) (by repeat' constructor) hi ⟨Rl.put (lx.trans (ly.trans l5)) Nr hN,vn++[v],nds++[e],ae,by rw[Z1,vl];rfl,?_,fun e' HG=>?_⟩⟩
   . show Paired.snoc (Paired.aV pn fun y y z=>aG.keep ((Rl.tk lx.rl (ly.trans l5)).trans (TW.TK.lst Cm)) z) (aG.keep (TW.TK.lst Cm) nv)
   . rcases dk HG with z|z
     . show on e' z
     . rw[bU z];show ok
 obtain⟨lx,vn,nds,gN,vl,pn,on⟩:=z
 have uz:=Paired.length pn
 show ai (kR _ _ ?_)
 show aq [some (.ref a),some (.ref L8),some (.ref r),some (.ref B),some (.ref N)] U ?_
 show⟨_,U,_,U,agm,fun nm RM=>?_⟩
 have Ug:=af RM (.lst [.str "one",.str "two"])
 have T8:(upd Hx nm (.lst [.str "one",.str "two"])) nm=some (.lst ((["one","two"]:List Str).map V.str)):=ae
 generalize upd Hx nm (.lst [.str "one",.str "two"])=K4 at Ug T8 ⊢
 have m4:=Rl.of lx.rl Ug
 have Xw:nm≠r:=lx.rl.ne RM
 show⟨_,U,r,3,U,m4.rl,by left,by left,fun kk H7 Zr Zs l7=>?_⟩
 obtain⟨kn,MJ⟩ : ∃kn:Nat,kk=(kn:Int):=⟨kk.toNat,by lia⟩
 show⟨_,U,nm,_,U,aE.of (l7.k _ _ Xw T8),fun I hI=>?_⟩
 rw[MJ,qC,← acZ]
 have ind:((["one","two"]:List Str).take kn).Nodup:=adU (ach _ _) (by right)
 have sub:∀x∈(["one","two"]:List Str).take kn,x∈(["one","two"]:List Str):=fun x hx=>aa0 hx
 generalize(["one","two"]:List Str).take kn=ins at hI ind sub ⊢
 have zI:=af hI (.lst (ins.map V.str))
 have yI:(upd H7 I (.lst (ins.map V.str))) I=some (.lst (ins.map V.str)):=ae
 generalize upd H7 I (.lst (ins.map V.str))=K5 at zI yI ⊢
 have nI:I≠r:=l7.rl.ne hI
 have m5:=Rl.of l7.rl zI
 show⟨_,U,agn,fun p hp=>?_⟩
 have zp:=af hp (.tup [.ref B,.ref I,.ref N])
 have yp:(upd K5 p (.tup [.ref B,.ref I,.ref N])) p=some (.tup [.ref B,.ref I,.ref N]):=ae
 generalize upd K5 p (.tup [.ref B,.ref I,.ref N])=K6 at zp yp ⊢
 have m6:=Rl.of m5.rl zp
 have ON:=lx.trans (m4.trans (l7.trans (m5.trans m6)))
 have Si:=m4.trans (l7.trans (m5.trans m6))
 have gB:=ON.k _ _ nB yB
 have Vv:=Si.k _ _ Nr gN
 have gI:=zp _ _ yI
 have pb:Paired (cB K6) [.ref b1,.ref b2] [("one",c1),("two",c2)]:=.cons ⟨b1,rfl,Rl.tk m3.rl ON _ _ Qc⟩ (.cons ⟨b2,rfl,Rl.tk m3.rl ON _ _ Qe⟩ .nil)
 have pd:xI r K6 B I N [.ref b1,.ref b2] vn [("one",c1),("two",c2)] ins nds:=⟨gB,gI,Vv,pb,Paired.aV pn fun y y z=>aG.keep (Rl.tk lx.rl Si) z,nB,nI,Nr⟩
 have bx:BM 9 [("one",c1),("two",c2)]:=⟨(by change(["one","two"]:List Str).Nodup;decide +kernel),(by change 2<=4;decide),Ai (by change 3<=8;decide) (by change 3<=8;decide),Ai ⟨(by change 1<=c1;lia),(by change c1<=16;lia)⟩ ⟨(by change 1<=c2;lia),(by change c2<=16;lia)⟩,(by
   change c1*(c2*1)<=9
   rw[adA]
   show acK (acO (show c1<=3 by lia) (show c2<=3 by lia) (by lia) (by left)) (by left)),(by change("":Str)∉(["one","two"]:List Str);decide +kernel)⟩
 have ok:oG 9 4 [("one",c1),("two",c2)] ins nds:=⟨bx,ind,sub,by lia,by lia,fun e he=>by
   have:(nds.length:Int)=4:=by lia
   rw[this]
   show on e he⟩
 show⟨r,p,B,I,N,_,vn,_,ins,nds,true,true,9,4,U,m6.rl,yp,pd,ok,by left,(fun y=>⟨by left,by left⟩),fun H8 l8=>q _⟩
end
end TW
namespace TW
open PySem L2
def d8 {x:Str}{st:Stmt}{ps:List Str}{k:Nat}{sp:Sp}{P:Program}{w:World}{K:ZV}{mg:Str->Option Value}{base:Heap}(s:Src K mg x st)(h:∀{f fd},bQ K x x st f fd->aK P w K mg base bJ k f fd ps sp)(b:∀{f fd},bQ K x x st f fd->Binds K fd ps []:=by intro f fd F;first|show oK F fun z z z z z z z z=>rfl|show B7 F fun z z z z z z z=>rfl|show B8 F fun z z z z z z z z z=>rfl|show Mu F fun z z z z z z z z z z=>rfl|show Mv F fun z z z z z z z z z z z z z=>rfl):aO P w K mg base x ps k sp:=let⟨f,fd,F,m⟩:=s;⟨f,fd,h F,F.kp,b F,m⟩
def B5 {P:Program}{w:World}{K:ZV}{mg:Str->Option Value}{fa:Addr}(hfa:mg "law"=some (.ref fa))(t:Gu w K mg) :
   ∃fd:aaa,(∀(s:Shared) (u:Value),BindsTo s fd ⟨[u],[]⟩ [("script",u)])/\∀base:Heap,K.In base->base.Ns aaN mg->aK P w K mg base bJ 65 fa fd ["script"] (rF K):=by
 obtain⟨f,fd,F,m⟩:=t.s_law
 have e:=hfa.symm.trans m
 cases e
 show⟨fd,fun s u=>?_,fun base z z=>?_⟩
 . obtain⟨oc,od,kV,doc,pm,an,cdv,ct,osl,rfl,lk,hcd⟩:=F.ex
   show .of_eq rfl
 obtain⟨tY,mY,cY⟩:=t.c_YES
 obtain⟨tO,mO,cO⟩:=t.c_NOUGHT
 obtain⟨T,bO,R⟩:=t.cl
 have NX:aO P w K mg base "_law_next" ["pot","many"] 1 b7:=d8 t.s_law_next fun F=>y4 F
 have PO:aO P w K mg base "_law_pots" ["script"] 1 (pZ K):=d8 t.s_law_pots fun F=>y7 F t.m_len
 have SB:=d8 (P:=P) (w:=w) (base:=base) t.s_law_some_boxes fun F=>vV F t.m_min NX
 have SM:=yv t.s_law_any_sum t.m_len NX
 have CO:=u9 t.s_law_any_condition NX (SM 4)
 have NO:=d8 (P:=P) (w:=w) (base:=base) t.s_law_one_node fun F=>y6 F t.m_len t.m_int NX (SM 6) (CO 3)
 have SP:=d8 (P:=P) (w:=w) (base:=base) t.s_law_some_program fun F=>vW F t.m_len t.m_range NX SB NO
 have CP:aO P w K mg base "_law_copy" ["program"] 1 pW:=d8 t.s_law_copy fun F=>yX F t.m_list
 have LD:aO P w K mg base "_law_led" ["node","change"] 1 xh:=d8 t.s_law_led fun F=>DE F
 have LE:aO P w K mg base "leads_of" ["node"] 1 eT:=d8 t.s_leads_of fun F=>vU F
 have RN:aO P w K mg base "refuse_no_nodes" ["program","numbers"] 1 rG:=d8 t.s_refuse_no_nodes fun F=>DJ F t.m_len
 have Up:aO P w K mg base "led_anew" ["node","leads"] 1 mq:=d8 t.s_led_anew fun F=>yY F t.m_len t.m_tuple
 have WN:aO P w K mg base "with_nodes" ["program","nodes"] 1 iQ:=d8 t.s_with_nodes fun F=>vX F t.m_list
 have JN:∀n:Nat,aO P w K mg base "joined_by" ["word","parts"] (n+1) (nZ K n):=Cz t.s_joined_by t.m_len
 have AN:∀n:Nat,aO P w K mg base "all_of" ["conditions"] (n+2) (jH K n):=fun n=>d8 t.s_all_of fun F=>yS F (JN n)
 have BS:=d8 (P:=P) (w:=w) (base:=base) t.s_boxes_same fun F=>yV F mY cY (AN 3)
 have AS:=d8 (P:=P) (w:=w) (base:=base) t.s_all_same fun F=>yT F BS
 have LV:aO P w K mg base "level_entry" ["program","place","new_place","condition"] 1 (mv tO):=d8 t.s_level_entry fun F=>yZ F mO
 have PA:∀n:Nat,aO P w K mg base "parts_of" ["sum_told"] (n+2) (ik n):=yt t.s_parts_of t.m_list
 have Ut:aO P w K mg base "small_part" ["many","size"] 1 xj:=d8 t.s_small_part fun F=>DL F
 have AY:aO P w K mg base "any_of" ["conditions"] 8 (pU K 5):=d8 t.s_any_of fun F=>yU F t.m_len (AN 5)
 have SS:=d8 (P:=P) (w:=w) (base:=base) t.s_small_sum fun F=>DM F t.m_max t.m_min t.m_len Ut (PA 30) (JN 6)
 have PM:=d8 (P:=P) (w:=w) (base:=base) t.s_put_made fun F=>DI F t.m_range SS AY
 have Uk:=d8 (P:=P) (w:=w) (base:=base) t.s_between_puts fun F=>Dz F t.m_dict PM BS (AN 2)
 have NB:∀n:Nat,aO P w K mg base "names_box" ["sum_told","name"] (n+1) (f7 n):=yr t.s_names_box t.c_PARTED t.m_any
 have RE:=yu t.s_refuse_exchange t.m_enumerate t.m_any R.x_NoChange LE (NB 40)
 have EX:=yq t.s_exchanged_puts t.m_len t.m_list t.m_range t.m_enumerate RN RE AS Up LE Uk LV WN
 have PL:=d8 (P:=P) (w:=w) (base:=base) t.s_law_plant fun F=>DH F t.m_len t.m_list t.m_range NX (SM 4) LD
 have AK:=d8 (P:=P) (w:=w) (base:=base) t.s_law_asked fun F=>Dy F R.x_NoChange EX
 have IM:aO P w K mg base "_law_is_made" ["found","due"] 36 (pX K):=d8 t.s_law_is_made fun F=>y3 F t.m_isinstance t.m_len t.m_tuple t.m_list
 have WO:∀n:Nat,aO P w K mg base "_law_worth_of" ["told","known"] (n+1) (jI K n):=CB t.s_law_worth_of
 have HO:=Cy t.s_law_holds t.m_int (WO 30)
 have BN:aO P w K mg base "_law_by_names" ["program","word","worths"] 1 ud:=d8 t.s_law_by_names fun F=>IJ F t.m_dict t.m_zip
 have BO:=d8 (P:=P) (w:=w) (base:=base) t.s_law_both fun F=>IK F BN
 have ST:=d8 (P:=P) (w:=w) (base:=base) t.s_law_step fun F=>IZ F t.m_int t.m_zip t.m_tuple BN (WO 30) (HO 20)
 have BP:aO P w K mg base "_law_by_places" ["paper"] 1 (z5 tO):=d8 t.s_law_by_places fun F=>IL F
 have CT:aO P w K mg base "_law_counting" ["there","p","q","known"] 52 (ue K tO):=d8 t.s_law_counting fun F=>IQ F (HO 20)
 have WE:=d8 (P:=P) (w:=w) (base:=base) t.s_law_well fun F=>Ja F cO BN (WO 30) ST CT
 have IE:aO P w K mg base "_law_is_entry" ["one","other","entry"] 1 (E7 tO):=d8 t.s_law_is_entry fun F=>IV F t.m_isinstance t.m_len t.m_bool t.m_int t.m_str t.m_tuple
 have BE:aO P w K mg base "_law_begins" ["program","worths"] 1 E4:=d8 t.s_law_begins fun F=>IH F t.m_all t.m_zip
 have EV:aO P w K mg base "_law_every" ["program"] 1 E6:=d8 t.s_law_every fun F=>IT F t.m_range
 have WA:=d8 (P:=P) (w:=w) (base:=base) t.s_law_walked fun F=>I9 F t.m_int t.m_tuple t.m_range NX BO ST CT WE
 have LA:=d8 (P:=P) (w:=w) (base:=base) t.s_law_looked_at fun F=>IX F t.m_all t.m_len t.m_tuple t.m_range NX BO CT WE IE BP WA
 have BI:∀n:Nat,aO P w K mg base "_law_boxes_in" ["told"] (n+1) (nX n):=Cw t.s_law_boxes_in t.m_isinstance t.m_tuple
 have DU:=d8 (P:=P) (w:=w) (base:=base) t.s_law_due fun F=>IS F t.m_list t.m_enumerate (BI 7)
 have SH:aO P w K mg base "_law_shows" ["one","other","paper"] 55 (E8 K tO):=d8 t.s_law_shows fun F=>IY F t.m_sorted BN EV BE BP CT WE
 have CA:=d8 (P:=P) (w:=w) (base:=base) t.s_law_case fun F=>IP F t.m_len NX CP PL AK DU IM SH LA
 show DC F t.m_range PO SP NX NO CA
end TW
namespace TW
open PySem L2
def walk {l:PySem.W.OpenLaw}{q:Program}{loose:List Str}{XP:(Str->Option Value)->Heap->Prop}{YP:World->Heap->Prop}{d:DefRec}{K:Params->ZV}(hn:l.most=some 63)(hdf:d.params.defaults=[])
   (hY:∀(w:World) (h:Heap),YP w h->(K w.params).In h)
   (F:∀(w:World) (mg:Str->Option Value) (fa:Addr) (h:Heap),(K w.params).In h->h.Ns aaN mg->mg d.name=some (.ref fa) ->
     ∃fd:aaa,(∀(s:Shared) (u:Value),BindsTo s fd ⟨[u],[]⟩ [("script",u)])/\∀base:Heap,(K w.params).In base->base.Ns aaN mg->aK l.prog w (K w.params) mg base bJ 65 fa fd ["script"] (rF (K w.params))) :
   PySem.W.WalkO q loose XP YP l.row.toRowW d [] (fun f vs=>PySem.call f vs):=
 L2.Ab (n:=63) (k:=65) (x:="script") (CX:=fun y=>bJ) (sp:=fun w=>rF (K w.params)) hn (by left) hdf ⟨rfl,by left,by left⟩ hY F (fun y y a ns hl y hS=>⟨a,ns,rfl,hS,hl,fun y=>rfl⟩) fun y y y y y z=>z
end TW
namespace PySem.W.Fast
def tw10003791790327762362:=0
def tw10043244714769667983:=0
def tw10051809820599022799:=0
def tw10059089156186544813:=0
def tw10089786523061491622:=0
def tw10093516438125286803:=0
def tw1013859142252347980:=0
def tw1014310467591097778:=0
def tw10158291130886074939:=0
def tw10185536380225143382:=0
def tw10271242517141420524:=0
def tw10488112558362650012:=0
def tw10528154007717997477:=0
def tw10537997792233295603:=0
def tw10615501341061801074:=0
def tw10691475490765884389:=0
def tw10698756079427598398:=0
def tw10708236316735423011:=0
def tw10790606118801673814:=0
def tw10814784650243900719:=0
def tw10819114899699843108:=0
def tw10838952392960612170:=0
def tw10865511614438600993:=0
def tw1100060311359076304:=0
def tw11065723955170291910:=0
def tw11107284640265537962:=0
def tw11116748586913392452:=0
def tw11262006778729177867:=0
def tw11313334425375474186:=0
def tw11488897106132794145:=0
def tw11494306036523336483:=0
def tw11536903379844983278:=0
def tw11554230015828881540:=0
def tw11666768643581315414:=0
def tw11695279596277518838:=0
def tw11855891255545873904:=0
def tw11870593354987444872:=0
def tw11935231880642471299:=0
def tw11935690965863678676:=0
def tw12021275780723846959:=0
def tw12038503391504843924:=0
def tw1205516044307151088:=0
def tw12189786161345019663:=0
def tw12309039772274347657:=0
def tw12315506034464643952:=0
def tw12392322919946864010:=0
def tw1243971345276559482:=0
def tw12455439959612804794:=0
def tw12502285504418611857:=0
def tw12513271184858393808:=0
def tw12613816071243911733:=0
def tw12643767001703691282:=0
def tw12655947293717484004:=0
def tw12700381260200413303:=0
def tw12716880640574140563:=0
def tw12723256666858636113:=0
def tw12735284863786340772:=0
def tw12802110638351274342:=0
def tw12814867564806951337:=0
def tw12833529478977625206:=0
def tw12837550866827944836:=0
def tw12861887261807787410:=0
def tw12960417750384311257:=0
def tw12978908608538714701:=0
def tw12983971803708313936:=0
def tw13021370190387488752:=0
def tw13031234956458291001:=0
def tw13052030228820796499:=0
def tw13090250253263787365:=0
def tw13162667931317505305:=0
def tw13202539392683632126:=0
def tw13299278223826052269:=0
def tw1334635069850315731:=0
def tw13395581358355584941:=0
def tw13442765583763060938:=0
def tw13444606315171394055:=0
def tw13451515573592594777:=0
def tw1347151467979011338:=0
def tw13564669803998871456:=0
def tw13602945854069452676:=0
def tw13676870735002708476:=0
def tw13733030762437467794:=0
def tw13772993919374597243:=0
def tw13801069144915948027:=0
def tw13809746632873913045:=0
def tw1385004086888453002:=0
def tw13987164592133266973:=0
def tw14029429121784421471:=0
def tw14032163852779653012:=0
def tw14050829440294001518:=0
def tw14056830316637476069:=0
def tw14100946565997347788:=0
def tw14126232362833728422:=0
def tw14224938658787040239:=0
def tw14292445491039267329:=0
def tw14294856301215720619:=0
def tw14303436822069782656:=0
def tw14319022015184172301:=0
def tw14506700957727230918:=0
def tw14546210640691385213:=0
def tw14557344494863610666:=0
def tw14586624574047457985:=0
def tw14594027082327621090:=0
def tw14615416136503164406:=0
def tw14766482548818907368:=0
def tw1481325119343774344:=0
def tw1482522065667130223:=0
def tw1485709742212549476:=0
def tw15029125320567662219:=0
def tw15034139356469500923:=0
def tw15069760642115310045:=0
def tw15130284558805266752:=0
def tw15238752464198334490:=0
def tw15273948263836417892:=0
def tw15313899395899452324:=0
def tw15351785148491487838:=0
def tw15387765318762535724:=0
def tw15487493578771999984:=0
def tw15521921854782450341:=0
def tw1552956809393800021:=0
def tw15540738099297367621:=0
def tw15570299779383773975:=0
def tw1558789175117868988:=0
def tw15603841111744227135:=0
def tw15689180754113733238:=0
def tw15690783801435491162:=0
def tw15850140065219464617:=0
def tw1627232764805319405:=0
def tw16276209368708067216:=0
def tw16288306011333285029:=0
def tw16291982562754804274:=0
def tw16306312805013146827:=0
def tw1631469656478459375:=0
def tw16410745130578833830:=0
def tw16438028496806798607:=0
def tw16659164920636755942:=0
def tw167183229078959332:=0
def tw16810222178386848765:=0
def tw16823079600562174210:=0
def tw16831703670873291708:=0
def tw16867792701943665712:=0
def tw17013154343477422321:=0
def tw17014997404852016699:=0
def tw17058572663104957561:=0
def tw17165367303485524020:=0
def tw17365285182891616938:=0
def tw17385322414005768890:=0
def tw1740792468240954183:=0
def tw17421811065258150019:=0
def tw17423495396178674722:=0
def tw17481588104311516407:=0
def tw17621598939579037043:=0
def tw17660571685510117991:=0
def tw17690490164937968336:=0
def tw17717521673019618742:=0
def tw17731211359161986279:=0
def tw17824152560103185495:=0
def tw17834571274548124829:=0
def tw17836585699432456518:=0
def tw18012173542283124591:=0
def tw18053475433789803541:=0
def tw18115483409796642613:=0
def tw18116365298271038420:=0
def tw18162000987587435806:=0
def tw18197976330553958862:=0
def tw18230944500260769318:=0
def tw1825881960973668745:=0
def tw18342648712236386400:=0
def tw194379614463370890:=0
def tw1958463172388198828:=0
def tw203789773820876713:=0
def tw2069249297829719008:=0
def tw2088718377451820769:=0
def tw2105744067590806962:=0
def tw2124024827966707553:=0
def tw2174189164649757400:=0
def tw2442626262118470707:=0
def tw2469532588763687253:=0
def tw2498055494116915772:=0
def tw2504336949265681136:=0
def tw2541697084848199925:=0
def tw263920852675094107:=0
def tw2680660918068155280:=0
def tw2758339714427133306:=0
def tw2770814024099245106:=0
def tw2793904398464353989:=0
def tw2891815399373497375:=0
def tw2930180373182345462:=0
def tw2959478823297237002:=0
def tw2974401972213502241:=0
def tw3046851568550733161:=0
def tw3177559899814472601:=0
def tw3213626295070928334:=0
def tw3290978290241095443:=0
def tw3304637661105200176:=0
def tw3360385346367648427:=0
def tw3408797051355429989:=0
def tw3468439219040982853:=0
def tw3508793612009078850:=0
def tw3532784054820128143:=0
def tw3539356585237300034:=0
def tw3618492791231208396:=0
def tw3639986565507863792:=0
def tw3653508472611985149:=0
def tw3762958538305085980:=0
def tw3764641024720984805:=0
def tw3770917157668370873:=0
def tw3836769431854018172:=0
def tw3878060721379752371:=0
def tw3895279367926075615:=0
def tw3928475371518417313:=0
def tw3940678009031893829:=0
def tw3942457121793629849:=0
def tw4240422071190480607:=0
def tw4380165302940788990:=0
def tw4406906154440161457:=0
def tw4463420968040870916:=0
def tw447667045038257674:=0
def tw4572995929655428168:=0
def tw4574353098288182615:=0
def tw4594703525984416342:=0
def tw462249909862352900:=0
def tw4654973324721229762:=0
def tw4711527395903330637:=0
def tw4759861252529116202:=0
def tw4786696087608599239:=0
def tw4905364752192814035:=0
def tw4914809648788681769:=0
def tw496337947070681444:=0
def tw4988327260822968242:=0
def tw4993216740266232806:=0
def tw5025009346880994749:=0
def tw510286824030721037:=0
def tw5160066306468916682:=0
def tw5249985265917684332:=0
def tw5432175691686946452:=0
def tw5443641288602433945:=0
def tw5450858896441271051:=0
def tw5508542399663946545:=0
def tw5551636138886084732:=0
def tw5557469029212392876:=0
def tw5572169030616652964:=0
def tw5608611405845923017:=0
def tw5670098299082158274:=0
def tw5711165960699461746:=0
def tw5867895727232990965:=0
def tw5959521624185203459:=0
def tw5972594923052059253:=0
def tw6010224774804334536:=0
def tw6010820763253691721:=0
def tw6123457320477829450:=0
def tw6296720736019352382:=0
def tw6340193337501837213:=0
def tw6370887405000566183:=0
def tw6390535691552145613:=0
def tw6572780668960058455:=0
def tw6588234121529125744:=0
def tw6619014488694561569:=0
def tw6627470378862200317:=0
def tw6629908691181481854:=0
def tw6656826179847479187:=0
def tw6678370991436560508:=0
def tw668705245772756883:=0
def tw6691511116134990708:=0
def tw6705911344512727660:=0
def tw6707408488451734265:=0
def tw686023671303793653:=0
def tw69369807091139811:=0
def tw7004305009638066393:=0
def tw7017124255828763064:=0
def tw7091256867480173742:=0
def tw7175095040131555579:=0
def tw7181734023817543769:=0
def tw7196848572251229959:=0
def tw7208190893590297425:=0
def tw7227593086169309789:=0
def tw7270798158158845421:=0
def tw727385017985443034:=0
def tw7348800636699481603:=0
def tw747689622829488921:=0
def tw7622177729176305888:=0
def tw7669647847745514507:=0
def tw7737912676942773388:=0
def tw7863063724260660132:=0
def tw7891325003801528385:=0
def tw7940214042522410570:=0
def tw7944452960214416809:=0
def tw7972532118418863178:=0
def tw8024251106471262389:=0
def tw8026935980987041032:=0
def tw8173547587917371422:=0
def tw8227749823534833812:=0
def tw828347127437327423:=0
def tw8356507413580349276:=0
def tw838045020078767601:=0
def tw8419613041104641482:=0
def tw8446394226018741935:=0
def tw8465690771872108623:=0
def tw8516248236693149552:=0
def tw8539153248145474615:=0
def tw8540833578008780789:=0
def tw8704641375314734139:=0
def tw8785318940477240445:=0
def tw8939950955485070304:=0
def tw9001621045014892958:=0
def tw9043456124350860348:=0
def tw9070518337870683026:=0
def tw9079259265635009204:=0
def tw9197785234782493658:=0
def tw922017607740654511:=0
def tw9236379942338790807:=0
def tw9261285520672525695:=0
def tw9270851885780548909:=0
def tw932084555155658660:=0
def tw9330353981355906822:=0
def tw936621702679496157:=0
def tw9514783086427590870:=0
def tw9545052740609756261:=0
def tw9563853235747935460:=0
def tw9579018188615288553:=0
def tw9629457500044206990:=0
def tw9803495662087804417:=0
def tw981520703674039276:=0
end PySem.W.Fast
open PySem PySem.W PyProof.Rows
set_option maxRecDepth 100000 in
set_option maxHeartbeats 0 in
theorem PySem.Challenge.cw_twinwalk_k65_puts_exchanged_holds : PySem.Challenge.rw_twinwalk_k65_puts_exchanged.Holds := by
 w_on;o_law;k_head;(case hw=>w_witness2)
 k_fill
 show TW.walk (l:=PySem.Challenge.rw_twinwalk_k65_puts_exchanged) rfl rfl (fun w h Y8=>PySem.W.kIn_of Y8) ?F
 case F=>
   intro w mg fa h KX G hmg
   show TW.B5 hmg ?_
   refine' (⟨TW.aF KX G ?_ ?_ ?_ ?_,TW.aF KX G ?_ ?_ ?_ ?_,TW.aF KX G ?_ ?_ ?_ ?_,TW.aF KX G ?_ ?_ ?_ ?_,TW.aF KX G ?_ ?_ ?_ ?_,TW.aF KX G ?_ ?_ ?_ ?_,TW.aF KX G ?_ ?_ ?_ ?_,TW.aF KX G ?_ ?_ ?_ ?_,TW.aF KX G ?_ ?_ ?_ ?_,TW.aF KX G ?_ ?_ ?_ ?_,TW.aF KX G ?_ ?_ ?_ ?_,TW.aF KX G ?_ ?_ ?_ ?_,TW.aF KX G ?_ ?_ ?_ ?_,TW.aF KX G ?_ ?_ ?_ ?_,TW.aF KX G ?_ ?_ ?_ ?_,TW.aF KX G ?_ ?_ ?_ ?_,TW.aF KX G ?_ ?_ ?_ ?_,TW.aF KX G ?_ ?_ ?_ ?_,TW.aF KX G ?_ ?_ ?_ ?_,TW.aF KX G ?_ ?_ ?_ ?_,TW.aF KX G ?_ ?_ ?_ ?_,TW.aF KX G ?_ ?_ ?_ ?_,TW.aF KX G ?_ ?_ ?_ ?_,TW.aF KX G ?_ ?_ ?_ ?_,TW.aF KX G ?_ ?_ ?_ ?_,TW.aF KX G ?_ ?_ ?_ ?_,TW.aF KX G ?_ ?_ ?_ ?_,TW.aF KX G ?_ ?_ ?_ ?_,TW.aF KX G ?_ ?_ ?_ ?_,TW.aF KX G ?_ ?_ ?_ ?_,TW.aF KX G ?_ ?_ ?_ ?_,TW.aF KX G ?_ ?_ ?_ ?_,TW.aF KX G ?_ ?_ ?_ ?_,TW.aF KX G ?_ ?_ ?_ ?_,TW.aF KX G ?_ ?_ ?_ ?_,TW.aF KX G ?_ ?_ ?_ ?_,TW.aF KX G ?_ ?_ ?_ ?_,TW.aF KX G ?_ ?_ ?_ ?_,TW.aF KX G ?_ ?_ ?_ ?_,TW.aF KX G ?_ ?_ ?_ ?_,TW.aF KX G ?_ ?_ ?_ ?_,TW.aF KX G ?_ ?_ ?_ ?_,TW.aF KX G ?_ ?_ ?_ ?_,TW.aF KX G ?_ ?_ ?_ ?_,TW.aF KX G ?_ ?_ ?_ ?_,TW.aF KX G ?_ ?_ ?_ ?_,TW.aF KX G ?_ ?_ ?_ ?_,TW.aF KX G ?_ ?_ ?_ ?_,TW.rN KX G ?_ ?_ ?_ ?_ ?_,TW.rN KX G ?_ ?_ ?_ ?_ ?_,⟨_,acL KX G ?_,TW.tw_mk ?_ ?_ ?_⟩,⟨_,_,TW.BK KX G ?_ ?_ ?_ ?_,TW.BK KX G ?_ ?_ ?xl_NoChange ?_,TW.Fp ?_ ?_ ?_ ?_ ?_ ?_ ?_ ?xl_NoChange,?_,?_,?_⟩,aai KX G ?_,aai KX G ?_,aai KX G ?_,aai KX G ?_,aai KX G ?_,aai KX G ?_,aai KX G ?_,aai KX G ?_,aai KX G ?_,aai KX G ?_,aai KX G ?_,aai KX G ?_,aai KX G ?_,aai KX G ?_,aai KX G ?_,aai KX G ?_,aai KX G ?_⟩ : TW.Gu _ _ _)
   (try any_goals first|k_is|k_exc|rfl|((repeat (first|show TW.pr_nil|show TW.pr_cs ⟨_,rfl⟩ rfl ?_|show TW.pr_cs ⟨_,rfl⟩ ⟨_,rfl⟩ ?_));done))
   (try any_goals first|k_is|k_exc|rfl|((repeat (first|show TW.pr_nil|show TW.pr_cs ⟨_,rfl⟩ rfl ?_|show TW.pr_cs ⟨_,rfl⟩ ⟨_,rfl⟩ ?_));done))
   all_goals first|kit_is|decide|rfl|show⟨_,rfl⟩|(k_keys;done)|(repeat' constructor)
