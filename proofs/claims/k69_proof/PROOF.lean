import PyProof.Rows.All
import Wide.All
import OpenK.AllK
import Wide.FinOn
import Lean
import PyProof.EqAt
import PyProof.EqKinds
import PyProof.TupleCall
import PySem.Challenge.RW_twinwalk_k69_whole_runs_of_made_over_one
set_option maxHeartbeats 1000000
set_option compiler.extract_closed false
local macro_rules|`(tactic|show$e)=>`(tactic|refine$e)
local macro_rules|`(tactic|left)=>`(tactic|decide)
local macro_rules|`(tactic|right)=>`(tactic|decide +kernel)
theorem U.{u}{α:Sort u}{a:α}:a=a:=rfl
open List renaming length_map->Yk,length_append->Ym,getElem?_eq_getElem->Yn,mem_of_getElem? -> Yq,map_append->Yt,length_take->Yu,take_add_one->Yv,size_toArray->Yw,not_mem_nil->Yz,replicate->YC,getElem?_map->YD,mem_cons->YF,take_of_length_le->YI,range->YL,map_cons->YM,getD_eq_getElem?_getD->YN,append_nil->YO,take_length->YR,length_cons->YS,getElem?_append_left->YV,length_range->YW,mem_cons_of_mem->Y1,mem_append_right->Y3,getElem?_append_right->Y8,mem_cons_self->Y9,length_drop->Zj,append_assoc->Zl,take_zero->Zn,drop_zero->Zo,find?_cons->Zy,nodup_nil->ZF,map_map->ZK,length_set->ZL,flatMap_cons->ZQ,getElem?_set_ne->ZT,replicate_succ->Z0,filterMap_cons->Z1,length_mapIdx->Z6,getElem?_set_self->Z9,length_singleton->aae,getElem?_eq_none->aaf,filter_cons->aaj,mem_of_mem_take->aal,getElem?_mapIdx->aam,any_cons->aap,nodup_cons->aas,length_nil->aat,length->aau,getElem?_range->aav,forIn_cons->aaw,mem_of_find?_eq_some->aaz,drop_eq_getElem_cons->aaA,take_sublist->aaG,nodup_append->aaH,flatten_cons->aaI,map_take->aaL,lookup_cons->aaO,getElem_mem->aaP,getElem_map->aaQ,all_eq_true->aaR,sum_append->aaV,range_succ->aaW,length_filter_le->aaX,mem_append_left->aa3,forIn_nil->aa5,getElem_of_mem->aa7,set_comm->abf,getElem?_take->abg,filter_append->abh,map_nil->abo,of_mem_zip->abz,idxOf_lt_length_of_mem->abA,mem_or_eq_of_mem_set->abN,getElem?_eq_none_iff->abO,append_cancel_left->abW,drop_eq_nil_of_le->ab0,take_append_drop->ab5,mem_of_mem_drop->aca
open PySem.W renaming Frag->Yl,mg_none_of->YZ,fnOf->Zm,keepIn->Zq,codeIn->Z7,mg_of->aaD,clsIn->aa4,methodObj->abb,nsIn->abd,findIn->abt,excIn->abE,cellsFrom_some->abK,hideAll_get->abZ,of_hideAll->ab3,callWith_K->ab4
open Nat renaming le_refl->Yo,lt_of_lt_of_le->YH,ne_of_lt->YJ,le_trans->YU,zero_le->YY,le_of_lt->Zb,le_add_right->Zu,not_lt_zero->Zz,min_eq_left->ZA,succ_mul->ZO,lt_irrefl->ZR,sub_zero->Z2,ne_of_gt->Z3,add_comm->aag,add_assoc->aar,add_lt_add_left->aax,strongRecOn->aa0,lt_of_succ_lt->abn,sub_self->abq,zero_lt_succ->abu,min_eq_right->abv,mul_le_mul->abU,succ_pos->ab8,lt_trans->ab9
open PySem renaming Spec->Yp,FuncData->Yx,boot_len->Yy,foldedSetIterable->YK,wpAny_callSpecial?_slot->Y4,mem_of_lookup->Y7,mainGlobals->Zd,bootBuiltins->Zf,sysModules->Zv,attributeBase->Zw,swapsWith->ZJ,wpAny_passesOwn->ZV,swapsWithSole->ZW,swappedStores->ZX,behindInMarks->ZY,ZipApart->Z5,wpAny_execs_nil->aab,NameKind->aac,sub_AttributeError->aaJ,bindName->aaK,wpAny_pyIter_enum->aaU,wpAny_forIn_list->aa2,isSubtype_tuple_tuple->aa9,builtinLookup_eq_fast->aba,typeLookup->abC,call_meetsIn->abJ,wpAny_execs_cons->abP,bindArgs->abV,typeLookup_type->abX,wpAny_letOwnedTupleGo_enum->ab2
open PySem.Heap renaming get?_push_of_some->Yr,lt_size->Ys,get?_push_size->YG,SameBut->Za,get?_update_other->ab1
open Int renaming toNat_of_nonneg->YA,toNat_natCast->Y6,lt_of_le_of_lt->Zc,toNat->Zh,zero_add->ZE,mul_le_mul_of_nonneg_right->aah,mul_le_mul_of_nonneg_left->aan,emod_lt_of_pos->aaB,le_refl->aaS,emod_nonneg->aa1,mul_assoc->abj,natCast_mul->abI,le_trans->acb
open PySem.Builtin.SmallTypes renaming ownedTupleIsFree->YB,nextOf->YT,ownedTupleHandOut->Zk
open Bool renaming false_ne_true->YE,false_eq_true->Zg,and_eq_true->Zp,eq_iff_iff->ZN,not_true->aaq,and_false->aa6
open Option.some renaming inj->YQ
open PySem.NameKind renaming free->YX,cell->aby
open PyProof.Rows renaming callWith_type1->Y0,slot_tuple_getitem->Zt,assignInOrder_nil->abD
open PySem.Value renaming ref->Y2,bool->aaC,int->abr,builtin->abQ,str->abY
open True renaming intro->Y5
open Option renaming map_some->Ze,isSome_map->abe
open PySem.Builtin.Tuple renaming tupleHashOf->Zi,tupleExact->ZM,tupleItemsOf->aad
open Sum renaming isLeft->Zr
open Array renaming length_toList->Zs,forIn_toList->Z4
open False renaming elim->Zx
open PySem.F renaming slot_zip_next->ZC,slot_enumerate_next->aao,plainAttrs_list->aaE,plainAttrs_dict->aaF,slot_dict_get->aaN,args_zip_next_1->aaT,entry_zip_next->aaY,args_tuple_add_2->abx,slot_dict_items->abF,entry_tuple_add->abG,args_dict_get_3->abH,slot_tuple_add->abL,entry_dict_get->abM,slot_dict_pop->abT,args_enumerate_next_1->acd
open PySem.Str renaming ofString->ZD
open PySem.Builtin.List renaming listFitsIndex->ZG,listTooLong->ZP
open PySem.Calls renaming spliced_cons->ZH,callWith_builtin->Z8,spliced_nil->aaa,evalArgs_plain->aak,Name_function_global->abB
open PySem.Builtin.Slice renaming slicePlaces->ZI,sliceAdjust->aai,sliceApplied->aa8
open PySem.Builtin.Dict renaming updateFrom->ZU,selfAndRest->abk,addKeywords->abl,pairItems->abp
open ForInStep renaming yield->ZZ
open PySem.Code renaming quiet_builtin->aay,compLoop->aaM
open Bind renaming bind->aaZ
open PySem.Heap.DictOf renaming new->abc
open List.cons renaming injEq->abi
open PySem.Obj renaming mapSeq->abm
open PyProof.Rows.IsTup renaming new->abw
open PySem.SeqAt.EqAt renaming str_int->abR,int_str->abS
open PySem.Flow renaming next->ab6
open PySem.PassesOwn renaming never->ab7
open And renaming intro->ace
set_option Elab.async false
set_option linter.all false
set_option maxRecDepth 100000
def az {a b:Prop}(h₁:a)(h₂:¬a):b:=absurd h₁ h₂
def bj.{u}{c:Prop}{h:Decidable c}(hc:c){α:Sort u}{t e:α}:ite c t e=t:=if_pos hc
def bg.{u}{c:Prop}{h:Decidable c}(hc:¬c){α:Sort u}{t e:α}:ite c t e=e:=if_neg hc
def cZ {p:Prop}{i:Decidable p}(h:decide p=true):p:=of_decide_eq_true h
def cH {p:Prop}{i:Decidable p}(h:p):decide p=true:=decide_eq_true h
def f6 {p:Prop}{i:Decidable p}(h:¬p):decide p=false:=decide_eq_false h
abbrev aj:=List (PySem.Str×Int)
def aes:0<=PySem.sizeLine:=by left
def aet:1<=PySem.sizeLine:=by left
def aeu:2<=PySem.sizeLine:=by left
def aev:3<=PySem.sizeLine:=by left
def aew:4<=PySem.sizeLine:=by left
def aex:5<=PySem.sizeLine:=by left
namespace L2
open PySem PySem.Spec PyProof.Rows
abbrev Key:=Sum Int Str
def lV:Key->Value->Bool
 | .inl k,v=>Value.isInt k v
 | .inr x,v=>Value.isStrOf x v
def OL (w:World):Key->Int
 | .inl k=>hashInt k
 | .inr x=>hashStr w x
def bE:∀{k:Key} {v:Value},lV k v=true->(∃i t,k=Sum.inl i/\v=abr i t)\/(∃x t,k=Sum.inr x/\v=abY x t)
 | .inl i,v,h=>by
   obtain⟨t,e⟩:=Value.isInt_shape (k:=i) (v:=v) h
   show .inl ⟨i,t,U,e⟩
 | .inr x,v,h=>by
   obtain⟨t,e⟩:=Value.isStrOf_shape (x:=x) (v:=v) h
   show .inr ⟨x,t,U,e⟩
def uH (i:Int)(t:Tok):lV (.inl i) (.int i t)=true:=by simp[lV,Value.isInt]
def uI (x:Str)(t:Tok):lV (.inr x) (.str x t)=true:=by simp[lV,Value.isStrOf]
def En (a b:Int):decide ((Sum.inl a:Key)=Sum.inl b)=(a==b):=by
 by_cases e:a=b
 . subst e;simp
 . have h:¬ (Sum.inl a:Key)=Sum.inl b:=fun q=>e (Sum.inl.inj q)
   rw[f6 h]
   show(beq_eq_false_iff_ne.mpr e).symm
def Er (a b:Str):decide ((Sum.inr a:Key)=Sum.inr b)=decide (a=b):=by
 by_cases e:a=b
 . subst e;simp
 . have h:¬ (Sum.inr a:Key)=Sum.inr b:=fun q=>e (Sum.inr.inj q)
   rw[f6 h,f6 e]
def Eo (a:Int)(b:Str):decide ((Sum.inl a:Key)=Sum.inr b)=false:=f6 (fun q=>nomatch q)
def Ep (a:Str)(b:Int):decide ((Sum.inr a:Key)=Sum.inl b)=false:=f6 (fun q=>nomatch q)
def aL (prog:Program)(w:World):PySem.KeyKind prog w Key where
 is:=lV
 hash:=OL w
 inj:=fun v a b ha hb=>by
   rcases bE ha with⟨i,t,rfl,rfl⟩|⟨x,t,rfl,rfl⟩
   . rcases bE hb with⟨j,u,rfl,e⟩|⟨y,u,rfl,e⟩
     . injection e with e1 _;rw[e1]
     . show nomatch e
   . rcases bE hb with⟨j,u,rfl,e⟩|⟨y,u,rfl,e⟩
     . show nomatch e
     . injection e with e1 _;rw[e1]
 byValue:=fun k v h=>by
   rcases bE h with⟨i,t,rfl,rfl⟩|⟨x,t,rfl,rfl⟩<;>rfl
 pyHash:=fun hv h=>by
   rcases bE hv with⟨i,t,rfl,rfl⟩|⟨x,t,rfl,rfl⟩
   . show wpAny_pyHash_int h
   . show wpAny_pyHash_str h
 eqBool:=fun hu hv h=>by
   rcases bE hu with⟨i,t,rfl,rfl⟩|⟨x,t,rfl,rfl⟩
   . rcases bE hv with⟨j,u,rfl,rfl⟩|⟨y,u,rfl,rfl⟩
     . rw[En]at h;show wpAny_eqBool_int h
     . rw[Eo]at h;show abS i t y u _ _ _ _ h
   . rcases bE hv with⟨j,u,rfl,rfl⟩|⟨y,u,rfl,rfl⟩
     . rw[Ep]at h;show abR x t j u _ _ _ _ h
     . rw[Er]at h;show wpAny_eqBool_str h
 «strs»:=fun k x t v h=>by
   rcases bE h with⟨i,u,rfl,e⟩|⟨y,u,rfl,e⟩
   . show nomatch e
   . injection e with e1 _
     subst e1
     cases v<;>rfl
def oG (prog:Program)(w:World)(i:Int)(t:Tok):(aL prog w).is (.inl i) (.int i t)=true:=uH i t
def oH (prog:Program)(w:World)(x:Str)(t:Tok):(aL prog w).is (.inr x) (.str x t)=true:=uI x t
inductive V where
 | bJ|bl (b:Bool)|int (i:Int)|str (x:Str)|byt (b:Array UInt8)|flt (b:UInt64)|ref (a:Addr)|ty (n:String)
 deriving DecidableEq
def RelV:V->Value->Prop
 | .bJ,u=>u=Value.none
 | .bl b,u=>u=aaC b
 | .int i,u=>∃t,u=abr i t
 | .str x,u=>∃t,u=abY x t
 | .byt b,u=>∃t,u=Value.bytes b t
 | .flt b,u=>∃t,u=Value.float b t
 | .ref a,u=>u=Y2 a
 | .ty n,u=>u=Value.type n
abbrev Vals:List V->List Value->Prop:=Paired RelV
def Vals.length {xs:List V}{us:List Value}(r:Vals xs us):xs.length=us.length:=Paired.length r
theorem Vals.get:∀{xs:List V} {us:List Value} {i:Nat} {x:V},Vals xs us->xs[i]?=some x->∃u,us[i]?=some u/\RelV x u
 | _,_,_,_,.nil,e=>by simp at e
 | _,_,0,_,.cons r _,e=>by simp at e;subst e;show⟨_,rfl,r⟩
 | _,_,i+1,x,.cons _ t,e=>by
   obtain⟨u,h1,h2⟩:=Vals.get (i:=i) (x:=x) t (by simpa using e)
   show⟨u,by simpa using h1,h2⟩
theorem Vals.set {x:V}{u:Value}(r:RelV x u):∀{xs:List V} {us:List Value} (i:Nat),Vals xs us->Vals (xs.set i x) (us.set i u)
 | _,_,_,.nil=>.nil
 | _,_,0,.cons _ t=>.cons r t
 | _,_,i+1,.cons q t=>.cons q (Vals.set r i t)
theorem Vals.append:∀{xs ys:List V} {us ws:List Value},Vals xs us->Vals ys ws->Vals (xs++ys) (us++ws)
 | _,_,_,_,.nil,s=>s
 | _,_,_,_,.cons r t,s=>.cons r (Vals.append t s)
theorem Vals.take:∀{xs:List V} {us:List Value} (n:Nat),Vals xs us->Vals (xs.take n) (us.take n)
 | _,_,0,_=>.nil
 | _,_,_+1,.nil=>.nil
 | _,_,n+1,.cons r t=>.cons r (Vals.take n t)
theorem Vals.drop:∀{xs:List V} {us:List Value} (n:Nat),Vals xs us->Vals (xs.drop n) (us.drop n)
 | _,_,0,r=>r
 | _,_,_+1,.nil=>.nil
 | _,_,n+1,.cons _ t=>Vals.drop n t
def fU:Option V->Option Value->Prop
 | some v,some u=>RelV v u
 | none,none=>True
 | _,_=>False
def KV {κ:Type}:List (κ×V)->List (κ×Value)->Prop:=Paired fun(p:κ×V) (q:κ×Value)=>p.1=q.1/\RelV p.2 q.2
def kV:Key->V
 | .inl i=>.int i
 | .inr x=>.str x
inductive HO where
 | lst (xs:List V)
 | tup (xs:List V)
 | dK (kvs:List (Key×V))|dT (kvs:List (List Key×V))
 | set (S:Int->Bool) (n:Nat)
 | ins (C dx:Addr) (fs:List (Str×V))
 | own (x:Addr)
 | xd (fs:List (Str×V))
 | met (f x:Addr)
 | rng (lo hi:Int)
 | frz (o:Obj) (u:HO)
 | tbl (ps:Array Value)
 | ext (φ:Heap->Prop)
abbrev Hp:=Addr->Option HO
def upd (H:Hp)(a:Addr)(o:HO):Hp:=fun b=>if b=a then some o else H b
def ae {H:Hp}{a:Addr}{o:HO}:upd H a o a=some o:=by unfold upd;rw[bj rfl]
def ar {H:Hp}{a b:Addr}{o:HO}(h:b≠a):upd H a o b=H b:=by unfold upd;rw[bg h]
def iK {H:Hp}{a:Addr}{o u:HO}:upd (upd H a o) a u=upd H a u:=by
 funext b;unfold upd;split<;>rfl
def dO {H:Hp}{a b:Addr}{o u:HO}(h:H a=some o)(h':H b=some u)(d:o≠u):a≠b:=by
 intro e;subst e;rw[h]at h';show d (YQ h')
def ao {H:Hp}{a b:Addr}{o:HO}(h:H a=some o)(h':H b=none):a≠b:=by
 intro e;subst e;rw[h]at h';cases h'
section
variable(P:Program)(w:World)
def bC (H:Hp)(h:Heap)(a:Addr):HO->Prop
 | .lst xs=>xs.length<=sizeLine/\∃(aM:List Value) (n:Nat),Vals xs aM/\h.get? a=some {cls:=.type "list",data:=.seq aM.toArray n}
 | .tup xs=>xs.length<=sizeLine/\∃aM:List Value,Vals xs aM/\IsTup h a aM.toArray
 | .dK kvs=>kvs.length<=sizeLine/\(a==Zv)=false/\∃vs,KV kvs vs/\h.DictOf (aL P w) a vs
 | .dT kvs=>kvs.length<=sizeLine/\(a==Zv)=false/\∃xs:List (List Key×Addr×Value),
     Paired (fun(p:List Key×V) (q:List Key×Addr×Value)=>p.1=q.1/\H q.2.1=some (.tup (p.1.map kV))/\RelV p.2 q.2.2) kvs xs /\
     ∃o es ep,h.get? a=some o/\o.ExactDict/\o.data=.dict es ep/\es.toList=xs.map (entryOfKey (tupleKind (aL P w)))/\(xs.map (·.1)).Nodup
 | .set S n=>h.SetOf (intKind P w) a S n
 | .ins C dx fs=>H dx=some (.own a)/\fs.length<=1000/\dx≠a/\h.get? a=some (PySem.W.instObj C dx) /\
     ∃mA,h.Ns1 dx mA/\(∀f,fU (fs.lookup f) (mA f))/\PySem.Within mA (fs.map (·.1))
 | .own _=>∃o,h.get? a=some o
 | .xd fs=>∃mA,h.Ns1 a mA/\∀f,fU (fs.lookup f) (mA f)
 | .rng lo hi=>∃t u v,h.get? a=some {cls:=.type "range",data:=.fields #[.int lo t,.int hi u,.int 1 v]}
 | .frz o u=>h.get? a=some o/\bC H h a u
 | .tbl ps=>h.get? a=some {cls:=.none,data:=.fields ps}
 | .met f x=>h.get? a=some (abb (.ref f) (.ref x))
 | .ext φ=>φ h/\(∃o,h.get? a=some o)/\∀h1 h2:Heap,φ h1->(∀o,h1.get? a=some o->h2.get? a=some o)->φ h2
def eS (H:Hp)(h:Heap):Prop:=∀a o,H a=some o->bC P w H h a o
end
section
variable{P:Program}{w:World}{H H':Hp}{h h':Heap}{a:Addr}{o:HO}
theorem bC.lt (x:bC P w H h a o):a<h.objs.size:=by
 cases o with
 | lst xs=>obtain⟨_,_,_,_,e⟩:=x;show Ys e
 | tup xs=>obtain⟨_,_,_,p⟩:=x;show p.lt
 | dK kvs=>obtain⟨_,_,_,_,o,_,_,e,_⟩:=x;show Ys e
 | dT kvs=>obtain⟨_,_,_,_,o,_,_,e,_⟩:=x;show Ys e
 | set S n=>obtain⟨o,_,_,_,e,_⟩:=x;show Ys e
 | ins C dx fs=>obtain⟨_,_,_,e,_⟩:=x;show Ys e
 | own y=>obtain⟨_,e⟩:=x;show Ys e
 | xd fs=>obtain⟨_,⟨_,_,_,e,_⟩,_⟩:=x;show Ys e
 | rng lo hi=>obtain⟨_,_,_,e⟩:=x;show Ys e
 | frz ob u=>obtain⟨e,_⟩:=x;show Ys e
 | tbl ps=>show Ys (show h.get? a=some _ from x)
 | met f y=>show Ys (show h.get? a=some _ from x)
 | ext φ=>obtain⟨_,⟨_,e⟩,_⟩:=x;show Ys e
theorem Paired.aZ {α β:Type}{F G:α->β->Prop}:∀{l₁:List α} {l₂:List β},Paired F l₁ l₂->(∀a b,F a b->G a b)->Paired G l₁ l₂
 | _,_,.nil,_=>.nil
 | _,_,.cons r t,f=>.cons (f _ _ r) (Paired.aZ t f)
def bC.pG (x:bC P w H h a o)(k:∀b u,(b=a\/H b=some (.own a))->h.get? b=some u->h'.get? b=some u)
   (ho:∀b,H b=some (.own a)->H' b=some (.own a)) (ht:∀b xs,H b=some (.tup xs)->H' b=some (.tup xs)):bC P w H' h' a o:=by
 induction o with
 | lst xs=>obtain⟨z,aM,n,r,e⟩:=x;show⟨z,aM,n,r,k _ _ (.inl rfl) e⟩
 | tup xs=>obtain⟨z,aM,r,ob,e,c⟩:=x;show⟨z,aM,r,ob,k _ _ (.inl rfl) e,c⟩
 | dK kvs=>obtain⟨z,y,vs,r,ob,es,ep,e,c⟩:=x;show⟨z,y,vs,r,ob,es,ep,k _ _ (.inl rfl) e,c⟩
 | dT kvs=>
   obtain⟨z,y,xs,r,ob,es,ep,e,c⟩:=x
   show⟨z,y,xs,Paired.aZ r fun p q z=>⟨z.1,ht _ _ z.2.1,z.2.2⟩,ob,es,ep,k _ _ (.inl rfl) e,c⟩
 | set S n=>obtain⟨ob,es,ep,t,e,c⟩:=x;show⟨ob,es,ep,t,k _ _ (.inl rfl) e,c⟩
 | ins C dx fs=>
   obtain⟨d,z,ne,e,mA,⟨od,es,ep,e2,c⟩,r⟩:=x
   show⟨ho _ d,z,ne,k _ _ (.inl rfl) e,mA,⟨od,es,ep,k _ _ (.inr d) e2,c⟩,r⟩
 | own y=>obtain⟨ob,e⟩:=x;show⟨ob,k _ _ (.inl rfl) e⟩
 | xd fs=>obtain⟨mA,⟨od,es,ep,e,c⟩,r⟩:=x;show⟨mA,⟨od,es,ep,k _ _ (.inl rfl) e,c⟩,r⟩
 | rng lo hi=>obtain⟨t,u,v,e⟩:=x;show⟨t,u,v,k _ _ (.inl rfl) e⟩
 | frz ob u ih=>obtain⟨e,q⟩:=x;show⟨k _ _ (.inl rfl) e,ih q⟩
 | tbl ps=>
   have e:h.get? a=some {cls:=.none,data:=.fields ps}:=x
   change h'.get? a=some {cls:=.none,data:=.fields ps}
   show k a _ (.inl rfl) e
 | met f y=>
   have e:h.get? a=some (abb (.ref f) (.ref y)):=x
   change h'.get? a=some (abb (.ref f) (.ref y))
   show k a _ (.inl rfl) e
 | ext φ=>obtain⟨p,⟨o,e⟩,st⟩:=x;show⟨st _ _ p fun o q=>k _ _ (.inl rfl) q,⟨o,k _ _ (.inl rfl) e⟩,st⟩
def eS.lt (x:eS P w H h)(e:H a=some o):a<h.objs.size:=(x a o e).lt
def eS.fresh (x:eS P w H h)(e:h.objs.size<=a):H a=none:=by
 cases q:H a with
 | none=>rfl
 | some u=>show az (YH (x.lt q) e) (ZR _)
def eS.kept (x:eS P w H h)(k:∀b u,h.get? b=some u->h'.get? b=some u):eS P w H h':=fun a o e=>
 (x a o e).pG (fun b u z q=>k b u q) (fun z q=>q) fun z z q=>q
def eS.laid (x:eS P w H h)(k:∀b u,h.get? b=some u->h'.get? b=some u)(hp:h.objs.size<=a)(new:bC P w (upd H a o) h' a o):eS P w (upd H a o) h':=fun b u e=>by
 have hn:=x.fresh hp
 by_cases hb:b=a
 . subst hb;rw[ae]at e;cases e;show new
 . rw[ar hb]at e
   show(x b u e).pG (fun c v z q=>k c v q) (fun c q=>by rw[ar (ao q hn)];show q) fun c xs q=>by rw[ar (ao q hn)];show q
end
def Rd (H:Hp)(a:Addr)(u:HO):Prop:=H a=some u\/∃o,H a=some (.frz o u)
def Rd.ok {P:Program}{w:World}{H:Hp}{h:Heap}{a:Addr}{u:HO}(r:Rd H a u)(x:eS P w H h):bC P w H h a u:=by
 rcases r with r|⟨o,r⟩
 . show x a u r
 . obtain⟨_,q⟩:=x a _ r
   show q
def HI:Option HO->Prop
 | some (.lst _)=>True
 | some (.dK _)=>True
 | some (.dT _)=>True
 | some (.set _ _)=>True
 | some (.ins _ _ _)=>True
 | some (.ext _)=>True
 | _=>False
section
variable{P:Program}{w:World}{H:Hp}{h h':Heap}{x e:Addr}{o':HO}
def eS.write (ok:eS P w H h)(mu:HI (H x))(he:e=x\/H e=some (.own x))(k:∀b u,b≠e->h.get? b=some u->h'.get? b=some u)(heo:∃u,h'.get? e=some u)
   (new:bC P w (upd H x o') h' x o'):eS P w (upd H x o') h':=fun b u q=>by
 have nown:∀c y,H c=some (.own y)->c≠x:=fun c y r z=>by subst z;rw[r]at mu;show mu
 have ntup:∀c xs,H c=some (.tup xs)->c≠x:=fun c xs r z=>by subst z;rw[r]at mu;show mu
 by_cases hb:b=x
 . subst hb;rw[ae]at q;cases q;show new
 . rw[ar hb]at q
   by_cases DV:b=e
   . have q':H b=some (.own x):=by
       rcases he with z|z
       . show az (DV.trans z) hb
       . rw[DV];show z
     rw[q]at q';cases q'
     obtain⟨v,hv⟩:=heo
     show⟨v,by rw[DV];show hv⟩
   . show(ok b u q).pG (fun c v hc r=>k c v ?_ r) (fun c r=>by rw[ar (nown c b r)];show r) fun c xs r=>by rw[ar (ntup c xs r)];show r
     rcases hc with rfl|hc
     . show DV
     . rintro rfl
       rcases he with z|z
       . show nown c b hc z
       . rw[hc]at z;cases z;show hb rfl
end
structure Un (fs ex:List Addr)(H H':Hp)(h h':Heap):Prop where
 keep:∀b o,h.get? b=some o->H b=none->b∉fs->b∉ex->h'.get? b=some o
 slot:∀b o,h.get? b=some o->H b=none->b∈fs->b∉ex->∃sl,h'.get? b=some {o with slots:=sl}
 free:∀b o,h.get? b=some o->H b=none->b∉ex->H' b=none
 there:∀b o,h.get? b=some o->b∉ex->∃o',h'.get? b=some o'
 tups:∀b xs,H b=some (.tup xs)->H' b=some (.tup xs)
 frzs:∀b o u,H b=some (.frz o u)->H' b=some (.frz o u)
 tbls:∀b ps,H b=some (.tbl ps)->∃more,H' b=some (.tbl (ps++more))
section
variable{fs iS ex Xh:List Addr}{H H1 H2:Hp}{h h1 h2 h':Heap}{a x e:Addr}{o:HO}
def Un.any (u:Un fs ex H H1 h h1){b:Addr}{ob:Obj}(q:h.get? b=some ob)(n:H b=none)(hx:b∉ex):∃sl,h1.get? b=some {ob with slots:=sl}:=by
 by_cases hb:b∈fs
 . show u.slot b ob q n hb hx
 . show⟨ob.slots,u.keep b ob q n hb hx⟩
def Un.kept (k:∀b u,h.get? b=some u->h'.get? b=some u):Un fs ex H H h h':=
 ⟨fun b ob q z z z=>k b ob q,fun b ob q z z z=>⟨ob.slots,k b ob q⟩,fun z z z n z=>n,fun b ob q z=>⟨ob,k b ob q⟩,fun z z q=>q,fun z z z q=>q,fun z ps q=>⟨#[],by rw[q];simp⟩⟩
def Un.refl:Un fs ex H H h h:=Un.kept fun z z q=>q
def Un.laid (k:∀b u,h.get? b=some u->h'.get? b=some u)(hp:h.objs.size<=a)(hn:H a=none):Un fs ex H (upd H a o) h h' where
 keep:=fun b u q z z z=>k b u q
 slot:=fun b u q z z z=>⟨u.slots,k b u q⟩
 free:=fun b u q n z=>by rw[ar (YJ (YH (Ys q) hp))];show n
 there:=fun b u q z=>⟨u,k b u q⟩
 tups:=fun b xs q=>by rw[ar (ao q hn)];show q
 frzs:=fun b u xs q=>by rw[ar (ao q hn)];show q
 tbls:=fun b ps q=>⟨#[],by rw[ar (ao q hn),q];simp⟩
def Un.write (mu:HI (H x))(he:e=x\/H e=some (.own x))(k:∀b u,b≠e->h.get? b=some u->h'.get? b=some u)(heo:∃u,h'.get? e=some u):Un fs ex H (upd H x o) h h':=by
 have hx:∀b,H b=none->b≠x:=fun b n z=>by subst z;rw[n]at mu;show mu
 have hb:∀b,H b=none->b≠e:=fun b n z=>by
   subst z
   rcases he with r|r
   . show hx b n r
   . rw[n]at r;cases r
 have hm:∀b u,H b=some u->¬ HI (some u)->b≠x:=fun b u q nm z=>by subst z;rw[q]at mu;show nm mu
 show⟨fun b u q n y y=>k b u (hb b n) q,fun b u q n y y=>⟨u.slots,k b u (hb b n) q⟩,fun b u q n y=>by rw[ar (hx b n)];show n,fun b u q y=>?_,
   fun b xs q=>by rw[ar (hm b _ q fun z=>z)];show q,fun b u xs q=>by rw[ar (hm b _ q fun z=>z)];show q,fun b ps q=>⟨#[],by rw[ar (hm b _ q fun z=>z),q];simp⟩⟩
 by_cases DV:b=e
 . subst DV;show heo
 . show⟨u,k b u DV q⟩
end
def vH (h:Heap)(H:Hp):List Addr:=(YL h.objs.size).filter fun a=>(H a).isSome
def mR (h:Heap)(H:Hp):Heap:=PySem.W.hideAll h (vH h H)
def uz (h:Heap)(H:Hp):(mR h H).objs.size=h.objs.size:=PySem.W.hideAll_size _ _
def wz {h:Heap}{H:Hp}{b:Addr}{o:Obj}(e:h.get? b=some o)(n:H b=none):(mR h H).get? b=some o:=
 abZ _ e fun hm=>by
   have q:(H b).isSome=true:=(List.mem_filter.mp hm).2
   rw[n]at q;simp at q
def AD {h:Heap}{H:Hp}{b:Addr}{o:Obj}(e:(mR h H).get? b=some o):h.get? b=some o/\H b=none:=by
 have e':h.get? b=some o:=ab3 (vH h H) e
 show⟨e',?_⟩
 cases q:H b with
 | none=>rfl
 | some x=>
   have hm:b∈vH h H:=List.mem_filter.mpr ⟨List.mem_range.mpr (Ys e'),by simp[q]⟩
   have z:(mR h H).get? b=none:=PySem.W.hideAll_none (vH h H) hm
   rw[z]at e;cases e
structure Mod (K:Yl)(mg:Str->Option Value)(base:Heap):Prop where
 kin:K.In base
 glob:base.Ns Zd mg
 blt:∃mb,base.Ns builtinsNs mb/\∀x:Str,x≠"__name__"->mb x=Zf x
 nolimit:base.NoLimit
structure Cx where
 prog:Program
 w:World
 K:Yl
 mg:Str->Option Value
 base:Heap
 A:Around
 N:List Str
 s₀:Shared
 H₀:Hp
 env:Env
 outer:List Env
 stack:List Env
 ex:List Addr
 fn:Str->Bool
 calm:Bool
 pn:List (Addr×Obj)
 xe:Value->Shared->Prop
def gU (l:List Env):List Addr:=l.filterMap (·.frame)
abbrev Cx.fs (X:Cx):List Addr:=gU X.outer
def LJ (sc:Scope)(x:Str):Prop:=sc.names.lookup x=some .local\/sc.names.lookup x=some .cell\/sc.names.lookup x=some .free
def Loc (sc:Scope)(x:Str):Prop:=sc.names.lookup x=some .local\/sc.names.lookup x=some .cell
def Look (env:Env)(h:Heap)(m:Str->Option Value)(x:Str)(u:Value):Prop:=
 (env.kindOf x=some .local/\m x=some u)\/((env.kindOf x=some .cell\/env.kindOf x=some .free)/\∃c,env.cells.lookup x=some c/\h.IsCell c (some u))
structure Cx.Ok (X:Cx):Prop where
 mod:Mod X.K X.mg X.base
 kind:X.env.scope.kind=.function
 glob:X.env.globals=Zd
 blt:X.env.builtins=builtinsNs
 above:X.s₀.heap.objs.size<=X.env.locals
 inj:∀x y c,X.env.cells.lookup x=some c->X.env.cells.lookup y=some c->x=y
 has:∀x,(X.env.kindOf x=some .cell\/X.env.kindOf x=some .free)->∃c,X.env.cells.lookup x=some c
 cab:∀x c,X.fn x=true->X.env.cells.lookup x=some c->X.s₀.heap.objs.size<=c
 hd:X.calm=true->X.A.handled=none
 frames:X.A.frames=some X.stack
 stk:X.stack=X.outer\/(X.stack=X.env::X.outer/\X.env.frame=some X.env.locals)
 exf:∀b∈X.ex,b≠X.env.locals/\∀x c,X.env.cells.lookup x=some c->c≠b
 bs:∀b o,X.base.get? b=some o->X.s₀.heap.get? b=some o/\X.H₀ b=none
 bsz:X.base.objs.size<=X.s₀.heap.objs.size
 noex:∀b o,X.base.get? b=some o->b∉X.ex
 exfs:∀b∈X.ex,b∉X.fs
 f7:X.s₀.heap.FunFrames X.base X.outer
 frf:∀b∈X.fs,X.H₀ b=none
structure Inv (X:Cx)(pins:List (Addr×Obj))(σ:List (Option V))(H:Hp)(s:Shared):Prop where
 ok:X.Ok
 os:s.os=X.s₀.os
 bare:AllBare s.gens
 base:Un X.fs X.ex X.H₀ H X.s₀.heap s.heap
 loc:∃m,s.heap.Ns X.env.locals m/\∀(i:Nat) (x:Str) (v:V),X.N[i]?=some x->σ[i]?=some (some v)->LJ X.env.scope x->∃u,RelV v u/\Look X.env s.heap m x u
 cell:∀x c,X.env.cells.lookup x=some c->∃v,s.heap.IsCell c v
 free:H X.env.locals=none
 freeC:∀x c,X.env.cells.lookup x=some c->H c=none
 pin:∀p∈X.pn++pins,s.heap.get? p.1=some p.2/\H p.1=none/\p.1≠X.env.locals/\p.1∉X.fs/\∀v,p.2.data≠.cell v
 hok:eS X.prog X.w H s.heap
 len:σ.length=X.N.length
section
variable{X:Cx}{pins:List (Addr×Obj)}{σ:List (Option V)}{H H':Hp}{s:Shared}{h':Heap}
def Cx.Ok.O7 (ok:X.Ok){b:Addr}{o:Obj}(e:X.base.get? b=some o):b∉X.fs:=fun hb=>by
 have:=(ok.f7.mem hb).1
 rw[e]at this;cases this
def Inv.bs (I:Inv X pins σ H s):∀b o,X.base.get? b=some o->s.heap.get? b=some o/\H b=none:=fun b o e=>
 ⟨I.base.keep b o (I.ok.bs b o e).1 (I.ok.bs b o e).2 (I.ok.O7 e) (I.ok.noex b o e),I.base.free b o (I.ok.bs b o e).1 (I.ok.bs b o e).2 (I.ok.noex b o e)⟩
def Inv.bk (I:Inv X pins σ H s):∀b o,X.base.get? b=some o->s.heap.get? b=some o:=fun b o e=>(I.bs b o e).1
def Inv.mod (I:Inv X pins σ H s):Mod X.K X.mg X.base:=I.ok.mod
def Inv.zq (I:Inv X pins σ H s):X.K.In s.heap:=I.ok.mod.kin.keeps I.bk
def Inv.lt (I:Inv X pins σ H s):X.env.locals<s.heap.objs.size:=by obtain⟨_,hn,_⟩:=I.loc;show hn.lt
def Inv.sz (I:Inv X pins σ H s):X.s₀.heap.objs.size<=s.heap.objs.size:=YU I.ok.above (Zb I.lt)
def Inv.O8 (I:Inv X pins σ H s){a:Addr}(h:s.heap.objs.size<=a):a∉X.fs:=fun hb=>by
 obtain⟨_,o,ho,_⟩:=I.ok.f7.mem hb
 show az (YH (Ys ho) (YU I.sz h)) (ZR _)
def Inv.DB (I:Inv X pins σ H s):∀x c,X.env.cells.lookup x=some c->c≠X.env.locals:=fun x c e z=>by
 obtain⟨v,o,ho,hd⟩:=I.cell x c e
 obtain⟨m,⟨o',es,ep,lR,Cg,_⟩,_⟩:=I.loc
 rw[z,lR]at ho;cases ho;rw[Cg]at hd;cases hd
theorem Inv.f7 (I:Inv X pins σ H s):s.heap.FunFrames X.base X.outer:=by
 have all:∀(l:List Env),(∀b∈gU l,b∈X.fs)->X.s₀.heap.FunFrames X.base l->s.heap.FunFrames X.base l:=by
   intro l
   induction l with
   | nil=>intro _ _;trivial
   | cons env r ih=>
     intro hs hl
     obtain⟨hk,⟨L8,o,hf,hn,ho,hd⟩,hr⟩:=hl
     have hL:L8∈X.fs:=hs L8 (by unfold gU;rw[Z1,hf];show Y9)
     obtain⟨sl,e⟩:=I.base.slot L8 o ho (I.ok.frf L8 hL) hL fun z=>I.ok.exfs L8 z hL
     show⟨hk,⟨L8,_,hf,hn,e,hd⟩,ih (fun b hb=>hs b (by unfold gU;rw[Z1,hf];show Y1 _ hb)) hr⟩
 show all X.outer (fun y hb=>hb) I.ok.f7
def Inv.stack (I:Inv X pins σ H s):s.heap.FunFrames X.base X.stack:=by
 rcases I.ok.stk with e|⟨e,hf⟩
 . rw[e];show I.f7
 . rw[e]
   obtain⟨m,hn,_⟩:=I.loc
   show .cons (by rw[I.ok.kind];decide) hf hn ?_ I.f7
   show Heap.get?_none_of_le (YU I.ok.bsz I.ok.above)
def Inv.nG (I:Inv X pins σ H s):∀b∈gU X.stack,b∈X.env.locals::X.fs:=fun b hb=>by
 rcases I.ok.stk with e|⟨e,hf⟩
 . rw[e]at hb;show Y1 _ hb
 . rw[e]at hb
   unfold gU at hb
   rw[Z1,hf]at hb
   show hb
def Inv.nF (I:Inv X pins σ H s):∀b∈gU X.stack,H b=none:=fun b hb=>by
 rcases List.mem_cons.mp (I.nG b hb)with e|hb
 . rw[e];show I.free
 . obtain⟨_,o,ho,_⟩:=I.ok.f7.mem hb
   show I.base.free b o ho (I.ok.frf b hb) fun z=>I.ok.exfs b z hb
def Inv.step {g':Array GenState}{t':Nat}{d':Drawn}{ch:List Addr}(I:Inv X pins σ H s)
   (hch:∀b∈ch,(b∈X.ex\/X.s₀.heap.objs.size<=b)/\b≠X.env.locals/\(∀x c,X.env.cells.lookup x=some c->c≠b)/\∀p∈X.pn++pins,p.1≠b)
   (keep:∀b o,b≠X.env.locals->b∉X.fs->b∉ch->s.heap.get? b=some o->H b=none->h'.get? b=some o)
   (slot:∀b o,b≠X.env.locals->b∈X.fs->b∉ch->s.heap.get? b=some o->H b=none->∃sl,h'.get? b=some {o with slots:=sl}) (free:∀b o,b∉ch->s.heap.get? b=some o->H b=none->H' b=none)
   (there:∀b o,b∉ch->s.heap.get? b=some o->∃o',h'.get? b=some o')
   (tups:∀b xs,H b=some (.tup xs)->H' b=some (.tup xs)) (frzs:∀b o u,H b=some (.frz o u)->H' b=some (.frz o u)) (tbls:∀b ps,H b=some (.tbl ps)->∃more,H' b=some (.tbl (ps++more)))
   (ns:∀m,s.heap.Ns X.env.locals m->h'.Ns X.env.locals m) (hok:eS X.prog X.w H' h') (hg:AllBare g') :
   Inv X pins σ H' {s with heap:=h',gens:=g',drawn:=d',toks:=t'}:=by
 have neL:∀b o,X.s₀.heap.get? b=some o->b≠X.env.locals:=fun b o e=>YJ (YH (Ys e) I.ok.above)
 have neC:∀b o,X.s₀.heap.get? b=some o->b∉X.ex->b∉ch:=fun b o e hx hb=>by
   rcases(hch b hb).1 with z|z
   . show hx z
   . show az (YH (Ys e) z) (ZR _)
 have cellK:∀x c,X.env.cells.lookup x=some c->∀v,s.heap.IsCell c v->h'.IsCell c v:=fun x c e v ⟨o,ho,hd⟩=>by
   have w4:c∉ch:=fun z=>(hch c z).2.2.1 x c e rfl
   by_cases hc:c∈X.fs
   . obtain⟨sl,q⟩:=slot c o (I.DB x c e) hc w4 ho (I.freeC x c e)
     show⟨_,q,hd⟩
   . show⟨o,keep c o (I.DB x c e) hc w4 ho (I.freeC x c e),hd⟩
 show⟨I.ok,I.os,hg,⟨fun b o e n hb hx=>?_,fun b o e n hb hx=>?_,fun b o e n hx=>?_,fun b o e hx=>?_,fun b xs e=>tups b xs (I.base.tups b xs e),fun b o xs e=>frzs b o xs (I.base.frzs b o xs e),fun b ps e=>?_⟩,?_,fun x c e=>?_,?_,fun x c e=>?_,fun p hp=>?_,hok,I.len⟩
 . show keep b o (neL b o e) hb (neC b o e hx) (I.base.keep b o e n hb hx) (I.base.free b o e n hx)
 . obtain⟨sl,e1⟩:=I.base.slot b o e n hb hx
   obtain⟨WA,e2⟩:=slot b _ (neL b o e) hb (neC b o e hx) e1 (I.base.free b o e n hx)
   show⟨WA,e2⟩
 . obtain⟨o',e1⟩:=I.base.there b o e hx
   show free b o' (neC b o e hx) e1 (I.base.free b o e n hx)
 . obtain⟨o',e1⟩:=I.base.there b o e hx
   show there b o' (neC b o e hx) e1
 . obtain⟨m1,e1⟩:=I.base.tbls b ps e
   obtain⟨m2,e2⟩:=tbls b _ e1
   show⟨m1++m2,by rw[e2,Array.append_assoc]⟩
 . obtain⟨m,hn,hl⟩:=I.loc
   show⟨m,ns m hn,fun i x v e1 e2 e3=>?_⟩
   obtain⟨u,r,l⟩:=hl i x v e1 e2 e3
   show⟨u,r,?_⟩
   rcases l with l|⟨k,c,e,z⟩
   . show .inl l
   . show .inr ⟨k,c,e,cellK x c e _ z⟩
 . obtain⟨v,z⟩:=I.cell x c e
   show⟨v,cellK x c e v z⟩
 . obtain⟨m,⟨o,_,_,ho,_⟩,_⟩:=I.loc
   show free _ o (fun z=>(hch _ z).2.1 rfl) ho I.free
 . obtain⟨v,o,ho,hd⟩:=I.cell x c e
   show free c o (fun z=>(hch c z).2.2.1 x c e rfl) ho (I.freeC x c e)
 . obtain⟨e,n,ne,nf,d⟩:=I.pin p hp
   have w4:p.1∉ch:=fun z=>(hch p.1 z).2.2.2 p hp rfl
   show⟨keep p.1 p.2 ne nf w4 e n,free p.1 p.2 w4 e n,ne,nf,d⟩
def Inv.un {t':Nat}(I:Inv X pins σ H s)(u:Un X.fs [] H H' s.heap h')(hok:eS X.prog X.w H' h'):Inv X pins σ H' {s with heap:=h',toks:=t'}:=by
 obtain⟨m,⟨o,es,ep,ho,r⟩,_⟩:=id I.loc
 obtain⟨sl,hL⟩:=u.any ho I.free (by simp)
 show I.step (g':=s.gens) (d':=s.drawn) (ch:=[]) (fun y z=>nomatch z) (fun b o y hb y e n=>u.keep b o e n hb (by simp)) (fun b o y hb y e n=>u.slot b o e n hb (by simp)) (fun b o y e n=>u.free b o e n (by simp)) (fun b o y e=>u.there b o e (by simp)) u.tups u.frzs u.tbls (fun m' hm=>by
   obtain⟨o',Iw,Iv,lR,r'⟩:=hm
   rw[ho]at lR;cases lR
   show⟨_,Iw,Iv,hL,r'⟩) hok I.bare
def Inv.call {g':Array GenState}{t':Nat}{d':Drawn}{ch:List Addr}(I:Inv X pins σ H s)(u:Un (gU X.stack) ch H H' s.heap h')(hok:eS X.prog X.w H' h')(hg:AllBare g')
   (hch:∀b∈ch,(b∈X.ex\/X.s₀.heap.objs.size<=b)/\b≠X.env.locals/\(∀x c,X.env.cells.lookup x=some c->c≠b)/\∀p∈X.pn++pins,p.1≠b) :
   Inv X pins σ H' {s with heap:=h',gens:=g',drawn:=d',toks:=t'}:=by
 obtain⟨m,⟨o,es,ep,ho,r⟩,_⟩:=id I.loc
 obtain⟨sl,hL⟩:=u.any ho I.free fun z=>(hch _ z).2.1 rfl
 show I.step (ch:=ch) hch (fun b o hL hb hc e n=>u.keep b o e n (fun z=>(List.mem_cons.mp (I.nG b z)).elim hL hb) hc) (fun b o y y hc e n=>u.any e n hc) (fun b o hc e n=>u.free b o e n hc) (fun b o hc e=>u.there b o e hc) u.tups u.frzs u.tbls (fun m' hm=>by
   obtain⟨o',Iw,Iv,lR,r'⟩:=hm
   rw[ho]at lR;cases lR
   show⟨_,Iw,Iv,hL,r'⟩) hok hg
def Inv.turned {t':Nat}{it:Addr}(I:Inv X pins σ H s)(k:∀b o,b≠it->s.heap.get? b=some o->h'.get? b=some o)(hn:H it=none)(hL:it≠X.env.locals)
   (h1:it∈X.ex\/X.s₀.heap.objs.size<=it) (h2:∀x c,X.env.cells.lookup x=some c->c≠it) (h3:∀p∈X.pn++pins,p.1≠it):Inv X pins σ H {s with heap:=h',toks:=t'}:=by
 have RG:∀b u,H b=some u->b≠it:=fun b u e z=>by rw[z,hn]at e;cases e
 show I.step (g':=s.gens) (d':=s.drawn) (ch:=[it]) (fun b hb=>?_) (fun b o y y hc e y=>k b o (fun z=>hc (by simp[z])) e) (fun b o y y hc e y=>⟨o.slots,k b o (fun z=>hc (by simp[z])) e⟩) (fun y y y y n=>n)
   (fun b o hc e=>⟨o,k b o (fun z=>hc (by simp[z])) e⟩) (fun y y e=>e) (fun y y y e=>e) (fun b ps e=>⟨#[],by rw[e];simp⟩) (fun m hm=>?_) (fun b u e=>?_) I.bare
 . have e:b=it:=by simpa using hb
   subst e
   show⟨h1,hL,h2,h3⟩
 . obtain⟨o,es,ep,ho,r⟩:=hm
   show⟨o,es,ep,k _ o (Ne.symm hL) ho,r⟩
 . show(I.hok b u e).pG (fun c v hc q=>k c v ?_ q) (fun y q=>q) fun y y q=>q
   rcases hc with z|z
   . rw[z];show RG b u e
   . show RG c _ z
def Inv.tok (I:Inv X pins σ H s)(t:Nat):Inv X pins σ H {s with toks:=t}:=I.un (h':=s.heap) (t':=t) Un.refl I.hok
def Inv.kept {t':Nat}(I:Inv X pins σ H s)(k:∀b u,s.heap.get? b=some u->h'.get? b=some u):Inv X pins σ H {s with heap:=h',toks:=t'}:=I.un (Un.kept k) (I.hok.kept k)
def Inv.laid {a:Addr}{o:HO}{t':Nat}(I:Inv X pins σ H s)(k:∀b u,s.heap.get? b=some u->h'.get? b=some u)(hp:s.heap.objs.size<=a)(new:bC X.prog X.w (upd H a o) h' a o) :
   Inv X pins σ (upd H a o) {s with heap:=h',toks:=t'}:=I.un (Un.laid k hp (I.hok.fresh hp)) (I.hok.laid k hp new)
def Inv.write {x e:Addr}{o:HO}{t':Nat}(I:Inv X pins σ H s)(mu:HI (H x))(he:e=x\/H e=some (.own x))(k:∀b u,b≠e->s.heap.get? b=some u->h'.get? b=some u)(heo:∃u,h'.get? e=some u)
   (new:bC X.prog X.w (upd H x o) h' x o):Inv X pins σ (upd H x o) {s with heap:=h',toks:=t'}:=I.un (Un.write mu he k heo) (I.hok.write mu he k heo new)
def Inv.weak {σ':List (Option V)}(I:Inv X pins σ H s)(hl:σ'.length=σ.length)(w:∀(i:Nat) v,σ'[i]?=some (some v)->σ[i]?=some (some v)):Inv X pins σ' H s:=
 ⟨I.ok,I.os,I.bare,I.base,let⟨m,hn,Ck⟩:=I.loc;⟨m,hn,fun i x v e1 e2 e3=>Ck i x v e1 (w i v e2) e3⟩,I.cell,I.free,I.freeC,I.pin,I.hok,hl.trans I.len⟩
def Inv.sM {jh:List (Addr×Obj)}(I:Inv X pins σ H s)(h:∀p∈jh,s.heap.get? p.1=some p.2/\H p.1=none/\p.1≠X.env.locals/\p.1∉X.fs/\∀v,p.2.data≠.cell v):Inv X jh σ H s:=
 ⟨I.ok,I.os,I.bare,I.base,I.loc,I.cell,I.free,I.freeC,fun p hp=>(List.mem_append.mp hp).elim (fun z=>I.pin p (aa3 _ z)) (h p),I.hok,I.len⟩
def oN {N:List Str}(hN:N.Nodup){i j:Nat}{x:Str}(a:N[i]?=some x)(b:N[j]?=some x):i=j:=by
 obtain⟨h1,e1⟩:=List.getElem?_eq_some_iff.mp a
 obtain⟨h2,e2⟩:=List.getElem?_eq_some_iff.mp b
 show(List.getElem_inj hN).mp (e1.trans e2.symm)
def mx {M8:Model}{A:Around}{E:Value->Shared->Prop}{i:Nat}{x:Str}{v:V}{u:Value}{Q:Unit->Shared->Prop}(I:Inv X pins σ H s)(hN:X.N.Nodup)(hi:X.N[i]?=some x)(hx:Loc X.env.scope x)(r:RelV v u)
   (h:∀s',Inv X pins (σ.set i (some v)) H s'->(∃a,Za a s.heap s'.heap/\(a=X.env.locals\/X.env.cells.lookup x=some a))->Q () s') (hf:X.fn x=true\/X.env.scope.names.lookup x=some .local:=by first|show .inl rfl|show .inr rfl|assumption):wpAny M8 A (storeName X.env x u) Q E s:=by
 obtain⟨m,hn,hl⟩:=id I.loc
 have hcls:(X.env.scope.kind==.class || (X.env.scope.kind==.module&&X.env.locals != X.env.globals))=false:=by rw[I.ok.kind];rfl
 have hiσ:i<σ.length:=by rw[I.len];show(List.getElem?_eq_some_iff.mp hi).1
 have DB:=I.DB
 have tracked:∀{a:Addr} {h':Heap},(∃o,s.heap.get? a=some o/\H a=none)->Za a s.heap h'->eS X.prog X.w H h':=fun{a h'} ha hs b ob e=>by
   obtain⟨_,_,Cj⟩:=ha
   show(I.hok b ob e).pG (fun c w' hc q=>(hs.2 c ?_).trans q) (fun t q=>q) fun t t q=>q
   rintro rfl
   rcases hc with rfl|hc
   . rw[Cj]at e;cases e
   . rw[Cj]at hc;cases hc
 rcases hx with hk|hk
 . show wpAny_storeName_local hk hn (fun h' UR hs=>?_) hcls
   obtain⟨oL,_,_,UY,_⟩:=id hn
   show h _ ⟨I.ok,I.os,I.bare,⟨fun b o e n hb hx=>?_,fun b o e n hb hx=>?_,I.base.free,fun b o e hx=>?_,I.base.tups,I.base.frzs,I.base.tbls⟩,⟨_,UR,fun j y v' e1 e2 e3=>?_⟩,fun y c e=>?_,I.free,I.freeC,fun p hp=>?_,tracked ⟨oL,UY,I.free⟩ hs,by simpa using I.len⟩ ⟨_,hs,.inl rfl⟩
   . show(hs.2 b (YJ (YH (Ys e) I.ok.above))).trans (I.base.keep b o e n hb hx)
   . obtain⟨sl,e1⟩:=I.base.slot b o e n hb hx
     show⟨sl,(hs.2 b (YJ (YH (Ys e) I.ok.above))).trans e1⟩
   . obtain⟨o',e1⟩:=I.base.there b o e hx
     show⟨o',(hs.2 b (YJ (YH (Ys e) I.ok.above))).trans e1⟩
   . by_cases hj:j=i
     . subst hj
       rw[hi]at e1;cases e1
       rw[Z9 hiσ]at e2
       cases e2
       show⟨u,r,.inl ⟨hk,by simp⟩⟩
     . rw[ZT (Ne.symm hj)]at e2
       obtain⟨u',r',q⟩:=hl j y v' e1 e2 e3
       show⟨u',r',?_⟩
       rcases q with⟨k,e⟩|⟨k,c,e,z⟩
       . show .inl ⟨k,?_⟩
         have:y≠x:=fun e=>hj (oN hN e1 (e▸hi))
         simp[this,e]
       . show .inr ⟨k,c,e,z.sameBut hs (DB y c e)⟩
   . obtain⟨w',z⟩:=I.cell y c e
     show⟨w',z.sameBut hs (DB y c e)⟩
   . obtain⟨e,n,ne,nf,d⟩:=I.pin p hp
     show⟨(hs.2 p.1 ne).trans e,n,ne,nf,d⟩
 . have Jd:X.fn x=true:=by
     rcases hf with z|z
     . show z
     . rw[z]at hk;cases hk
   obtain⟨c,hc⟩:=I.ok.has x (.inl hk)
   obtain⟨w',z⟩:=I.cell x c hc
   show wpAny_storeName_cell I.ok.kind hk hc z (fun h' dg hs=>?_)
   obtain⟨oc,G0,Om⟩:=id z
   show h {s with heap:=h'} ⟨I.ok,I.os,I.bare,⟨fun b o e n hb hx=>?_,fun b o e n hb hx=>?_,I.base.free,fun b o e hx=>?_,I.base.tups,I.base.frzs,I.base.tbls⟩,⟨m,hn.sameBut hs (Ne.symm (DB x c hc)),fun j y v' e1 e2 e3=>?_⟩,fun y c' e=>?_,I.free,I.freeC,fun p hp=>?_,tracked ⟨oc,G0,I.freeC x c hc⟩ hs,by simpa using I.len⟩ ⟨c,hs,.inr hc⟩
   . show(hs.2 b (YJ (YH (Ys e) (I.ok.cab x c Jd hc)))).trans (I.base.keep b o e n hb hx)
   . obtain⟨sl,e1⟩:=I.base.slot b o e n hb hx
     show⟨sl,(hs.2 b (YJ (YH (Ys e) (I.ok.cab x c Jd hc)))).trans e1⟩
   . obtain⟨o',e1⟩:=I.base.there b o e hx
     show⟨o',(hs.2 b (YJ (YH (Ys e) (I.ok.cab x c Jd hc)))).trans e1⟩
   . by_cases hj:j=i
     . subst hj
       rw[hi]at e1;cases e1
       rw[Z9 hiσ]at e2
       cases e2
       show⟨u,r,.inr ⟨.inl hk,c,hc,dg⟩⟩
     . rw[ZT (Ne.symm hj)]at e2
       obtain⟨u',r',q⟩:=hl j y v' e1 e2 e3
       show⟨u',r',?_⟩
       rcases q with q|⟨k,c',e,z'⟩
       . show .inl q
       . show .inr ⟨k,c',e,z'.sameBut hs ?_⟩
         rintro rfl
         show hj (oN hN e1 (I.ok.inj _ _ _ e hc▸hi))
   . by_cases Ag:c'=c
     . subst Ag;show⟨_,dg⟩
     . obtain⟨w2,z2⟩:=I.cell y c' e
       show⟨w2,z2.sameBut hs Ag⟩
   . obtain⟨e,n,ne,nf,d⟩:=I.pin p hp
     show⟨(hs.2 p.1 ?_).trans e,n,ne,nf,d⟩
     intro q
     rw[q,G0]at e
     have q':oc=p.2:=YQ e
     show d w' (by rw[← q'];show Om)
def cF {M8:Model}{A:Around}{E:Value->Shared->Prop}{i:Nat}{x:Str}{v:V}{u:Value}{Q:Unit->Shared->Prop}(I:Inv X pins σ H s)(hN:X.N.Nodup)(hi:X.N[i]?=some x)(hx:Loc X.env.scope x)(r:RelV v u)
   (h:∀s',Inv X pins (σ.set i (some v)) H s'->Q () s') (hf:X.fn x=true\/X.env.scope.names.lookup x=some .local:=by first|show .inl rfl|show .inr rfl|assumption):wpAny M8 A (storeName X.env x u) Q E s:=
 mx I hN hi hx r (fun s' I' z=>h s' I') hf
def Inv.Cb {s':Shared}{ch:List Addr}(I:Inv X pins σ H s)(ho:s'.os=s.os)(u:Un (gU X.stack) ch H H' s.heap s'.heap)(hok:eS X.prog X.w H' s'.heap)(hg:AllBare s'.gens)
   (hch:∀b∈ch,(b∈X.ex\/X.s₀.heap.objs.size<=b)/\b≠X.env.locals/\(∀x c,X.env.cells.lookup x=some c->c≠b)/\∀p∈X.pn++pins,p.1≠b):Inv X pins σ H' s':=by
 obtain⟨h',g',d',t',o'⟩:=s'
 have e:o'=s.os:=ho
 subst e
 show I.call (g':=g') (t':=t') (d':=d') u hok hg hch
end
abbrev XK:=Value->Option Addr->Hp->Prop
abbrev St:=List (Option V)
abbrev VK:=V->Hp->Prop
abbrev TE:=St->Hp->VK->Prop
abbrev TT:=St->Hp->(Bool->Hp->Prop)->Prop
abbrev TA:=St->Hp->(List V->Hp->Prop)->Prop
structure Ends where
 nx:St->Hp->Prop
 rt:VK
 bk:St->Hp->Prop:=fun _ _=>False
 ct:St->Hp->Prop:=fun _ _=>False
abbrev TS:=Ends->St->Hp->Prop
def EP (X:Cx)(pins:List (Addr×Obj))(σ:St)(Q:VK)(u:Value)(s':Shared):Prop:=∃v H',Inv X pins σ H' s'/\RelV v u/\Q v H'
def TP (X:Cx)(pins:List (Addr×Obj))(σ:St)(Q:Bool->Hp->Prop)(b:Bool)(s':Shared):Prop:=∃H',Inv X pins σ H' s'/\Q b H'
def AP (X:Cx)(pins:List (Addr×Obj))(σ:St)(Q:List V->Hp->Prop)(us:List Value)(s':Shared):Prop:=∃vs H',Inv X pins σ H' s'/\Vals vs us/\Q vs H'
def SP (X:Cx)(pins:List (Addr×Obj))(D:Ends)(f:Flow)(s':Shared):Prop:=
 match f with
 | .next=>∃σ' H',Inv X pins σ' H' s'/\D.nx σ' H'
 | .brk=>∃σ' H',Inv X pins σ' H' s'/\D.bk σ' H'
 | .cont=>∃σ' H',Inv X pins σ' H' s'/\D.ct σ' H'
 | .ret u=>∃v σ' H',Inv X pins σ' H' s'/\RelV v u/\D.rt v H'
def PE (X:Cx)(e:Expr)(t:TE):Prop:=
 ∀(pins:List (Addr×Obj)) (s:Shared) (σ:St) (H:Hp) (Q:VK),Inv X pins σ H s->t σ H Q->wpAny (model X.prog X.w) X.A (eval e X.env) (EP X pins σ Q) X.xe s
def PT (X:Cx)(e:Expr)(t:TT):Prop:=
 ∀(pins:List (Addr×Obj)) (s:Shared) (σ:St) (H:Hp) (Q:Bool->Hp->Prop),Inv X pins σ H s->t σ H Q->wpAny (model X.prog X.w) X.A (isTrue e X.env (eval e X.env)) (TP X pins σ Q) X.xe s
def PW (X:Cx)(e:Expr)(t:TT):Prop:=
 ∀(whole:Sem Value) (pins:List (Addr×Obj)) (s:Shared) (σ:St) (H:Hp) (Q:Bool->Hp->Prop),Inv X pins σ H s->t σ H Q->wpAny (model X.prog X.w) X.A (isTrue e X.env whole) (TP X pins σ Q) X.xe s
def PW.pt {X:Cx}{e:Expr}{t:TT}(h:PW X e t):PT X e t:=h _
def PA (X:Cx)(es:List Expr)(t:TA):Prop:=
 ∀(pos:Pos) (pins:List (Addr×Obj)) (s:Shared) (σ:St) (H:Hp) (Q:List V->Hp->Prop),Inv X pins σ H s->t σ H Q->wpAny (model X.prog X.w) X.A (spliced (backTo pos (starEach es X.env))) (AP X pins σ Q) X.xe s
def PS (X:Cx)(st:Stmt)(t:TS):Prop:=
 ∀(pins:List (Addr×Obj)) (s:Shared) (σ:St) (H:Hp) (D:Ends),Inv X pins σ H s->t D σ H->wpAny (model X.prog X.w) X.A (exec st X.env) (SP X pins D) X.xe s
def kS (X:Cx)(st:List Stmt)(t:TS):Prop:=
 ∀(pins:List (Addr×Obj)) (s:Shared) (σ:St) (H:Hp) (D:Ends),Inv X pins σ H s->t D σ H->wpAny (model X.prog X.w) X.A (execs st X.env) (SP X pins D) X.xe s
def bq {α:Type}{t:Sem α}{Q Q':α->Shared->Prop}{M8:Model}{A:Around}{E:Value->Shared->Prop}{s:Shared}(h:wpAny M8 A t Q E s)(hQ:∀a s,Q a s->Q' a s):wpAny M8 A t Q' E s:=wpAny_mono h hQ fun z z x=>x
section
variable{X:Cx}
def Lm (i:Nat):TE:=fun σ H Q=>∃v,σ[i]?=some (some v)/\Q v H
def tC (v:V):TE:=fun z H Q=>Q v H
def FE {i:Nat}{x:Str}{pos:Pos}(hN:X.N[i]?=some x)(hv:LJ X.env.scope x)(hd:(x==("__debug__":Str))=false:=by left)(hcd:(x==("__classdict__":Str))=false:=by left):PE X (.Name x pos) (Lm i):=by
 intro pins s σ H Q I h
 obtain⟨v,e,h⟩:=h
 obtain⟨m,hn,hl⟩:=I.loc
 obtain⟨u,r,l⟩:=hl i x v hN e hv
 have fin:EP X pins σ Q u s:=⟨v,H,I,r,h⟩
 rcases l with⟨hk,hm⟩|⟨hk,c,hc,rZ⟩
 . show wpAny_Name (wpAny_loadName_local I.ok.kind hk hn hm fin) hd
 . rcases hk with hk|hk
   . show wpAny_Name (wpAny_loadName_cell I.ok.kind hk hc rZ fin) hd
   . show wpAny_Name (wpAny_loadName_free I.ok.kind hk hc rZ fin hcd) hd
def Fw {i j pos}:PE X (.Constant (.int i) j pos) (tC (.int i)):=fun z z z H z I h=>wpAny_Constant_int ⟨.int i,H,I.tok _,⟨_,rfl⟩,h⟩
def Kk {b j pos}:PE X (.Constant (.bool b) j pos) (tC (.bl b)):=fun z z z H z I h=>Constant_bool ⟨.bl b,H,I,rfl,h⟩
def Fy {j pos}:PE X (.Constant .none j pos) (tC .bJ):=fun z z z H z I h=>Constant_none ⟨.bJ,H,I,rfl,h⟩
def FC {x j pos}:PE X (.Constant (.str x) j pos) (tC (.str x)):=fun z z z H z I h=>Calls.Constant_str ⟨.str x,H,I.tok _,⟨_,rfl⟩,h⟩
def Gl (X:Cx)(x:Str):Prop:=X.env.kindOf x=some .globalImplicit
def ie {E:Value->Shared->Prop}{pins:List (Addr×Obj)}{s:Shared}{σ:St}{H:Hp}{x:Str}{u:Value}{pos:Pos}{Q:Value->Shared->Prop}(I:Inv X pins σ H s)(hg:Gl X x)(hm:X.mg x=some u)(h:Q u s)
   (hd:(x==("__debug__":Str))=false:=by left):wpAny (model X.prog X.w) X.A (eval (.Name x pos) X.env) Q E s:=
 abB I.ok.kind hg (Calls.loadGlobal_global (by rw[I.ok.glob];show I.mod.glob.keeps I.bk) hm h) hd
def eB {E:Value->Shared->Prop}{pins:List (Addr×Obj)}{s:Shared}{σ:St}{H:Hp}{x:Str}{u:Value}{pos:Pos}{Q:Value->Shared->Prop}(I:Inv X pins σ H s)(hg:Gl X x)(hm:X.mg x=none)(hv:Zf x=some u)(h:Q u s)
   (hn:x≠"__name__":=by left) (hd:(x==("__debug__":Str))=false:=by left):wpAny (model X.prog X.w) X.A (eval (.Name x pos) X.env) Q E s:=by
 obtain⟨mb,h1,h2⟩:=I.mod.blt
 show abB I.ok.kind hg (Calls.loadGlobal_builtin (by rw[I.ok.glob];show I.mod.glob.keeps I.bk) hm (by rw[I.ok.blt];show h1.keeps I.bk) ((h2 x hn).trans hv) h) hd
def A8 {x:Str}{v:V}{u:Value}{pos:Pos}(hg:Gl X x)(hm:X.mg x=some u)(r:RelV v u)(hd:(x==("__debug__":Str))=false:=by left):PE X (.Name x pos) (tC v):=
 fun z z z H z I h=>ie I hg hm ⟨v,H,I,r,h⟩ hd
variable{a b:Expr}{ta tb:TE}{pos:Pos}
def PC (X:Cx)(op:CmpOp)(a b:Expr)(t:TE):Prop:=
 ∀(pins:List (Addr×Obj)) (s:Shared) (σ:St) (H:Hp) (Q:VK),Inv X pins σ H s->t σ H Q ->
   wpAny (model X.prog X.w) X.A (eval a X.env) (fun v s₁=>wpAny (model X.prog X.w) X.A (eval b X.env) (fun u s₂=>wpAny (model X.prog X.w) X.A (compareOp op v u) (EP X pins σ Q) X.xe s₂) X.xe s₁) X.xe s
def tB (t:TE):TT:=fun σ H Q=>t σ H fun x H1=>∃c,x=.bl c/\Q c H1
def FV {op:CmpOp}{t:TE}(h:PC X op a b t)(h1:ZY op b=false:=by first|show w5 _ (by left) (by left)|rfl):PT X (.Compare a [op] [b] pos) (tB t):=by
 intro pins s σ H Q I hw
 show wpAny_isTrue_Compare1 (bq (h pins s σ H _ I hw) fun v s1 h1=>bq h1 fun u s2 h2=>bq h2 fun c s3 h9=>?_) h1
 obtain⟨x,H1,I1,r1,q1⟩:=h9
 obtain⟨d,rfl,q⟩:=q1
 cases r1
 show wpAny_truthy_bool ⟨H1,I1,q⟩
def FX {e:Expr}{t:TE}(h:PE X e t)(he:∀whole,isTrue e X.env whole=(do let v←whole;standAt e.pos;holding [v] (truthy v)):=by intro _;rfl):PT X e (tB t):=by
 intro pins s σ H Q I hw
 show isTrue_plain (bq (h pins s σ H _ I hw) fun v s1 h9=>?_) (he _)
 obtain⟨x,H1,I1,r1,q1⟩:=h9
 obtain⟨d,rfl,q⟩:=q1
 cases r1
 show wpAny_truthy_bool ⟨H1,I1,q⟩
variable{tA MM:TT}{rest:List Expr}
def Lc (t u:TT):TT:=fun σ H Q=>t σ H fun c H1=>if c=true then u σ H1 Q else Q false H1
def Ss (t u:TT):TT:=fun σ H Q=>t σ H fun c H1=>if c=true then Q true H1 else u σ H1 Q
def Lh (t:TT):TT:=fun σ H Q=>t σ H fun c H1=>Q (!c) H1
def Bx (ha:PT X a tA):PW X (.BoolOp .And [a] pos) tA:=by
 intro wh pins s σ H Q I h
 show isTrue_and (bq (ha pins s σ H Q I h) fun c s1 e=>?_)
 cases c with
 | true=>show isTrue_and_nil e
 | false=>show e
def FZ (ha:PT X a tA):PW X (.BoolOp .Or [a] pos) tA:=by
 intro wh pins s σ H Q I h
 show isTrue_or (bq (ha pins s σ H Q I h) fun c s1 e=>?_)
 cases c with
 | false=>show isTrue_or_nil e
 | true=>show e
def FY (ha:PT X a tA)(hb:PW X (.BoolOp .And (b::rest) pos) MM):PW X (.BoolOp .And (a::b::rest) pos) (Lc tA MM):=by
 intro wh pins s σ H Q I h
 show isTrue_and (bq (ha pins s σ H _ I h) fun c s1 h9=>?_)
 obtain⟨H1,I1,q1⟩:=h9
 cases c with
 | true=>show hb wh pins s1 σ H1 Q I1 q1
 | false=>show⟨H1,I1,q1⟩
def Ky (ha:PT X a tA)(hb:PW X (.BoolOp .Or (b::rest) pos) MM):PW X (.BoolOp .Or (a::b::rest) pos) (Ss tA MM):=by
 intro wh pins s σ H Q I h
 show isTrue_or (bq (ha pins s σ H _ I h) fun c s1 h9=>?_)
 obtain⟨H1,I1,q1⟩:=h9
 cases c with
 | true=>show⟨H1,I1,q1⟩
 | false=>show hb wh pins s1 σ H1 Q I1 q1
def FW (ha:PT X a tA):PT X (.UnaryOp .Not a pos) (Lh tA):=by
 intro pins s σ H Q I h
 show isTrue_not (ha pins s σ H (fun c H1=>Q (!c) H1) I h)
def CZ (ta tb:TE):TE:=fun σ H Q=>ta σ H fun x H1=>∃c,x=.bl c/\if c=true then tb σ H1 Q else Q (.bl false) H1
def Li (ta tb:TE):TE:=fun σ H Q=>ta σ H fun x H1=>∃c,x=.bl c/\if c=true then Q (.bl true) H1 else tb σ H1 Q
def C7 (ta:TE):TE:=fun σ H Q=>ta σ H fun x H1=>∃c,x=.bl c/\Q (.bl (!c)) H1
def FA {op}{t:TE}(h:PE X a t):PE X (.BoolOp op [a] pos) t:=fun pins s σ H Q I hw=>BoolOp_one (h pins s σ H Q I hw)
def Ft (ha:PE X a ta)(hb:PE X (.BoolOp .And (b::rest) pos) tb):PE X (.BoolOp .And (a::b::rest) pos) (CZ ta tb):=by
 intro pins s σ H Q I h
 show BoolOp_and (bq (ha pins s σ H _ I h) fun v s1 h9=>?_)
 obtain⟨x,H1,I1,r1,q1⟩:=h9
 obtain⟨c,rfl,q1⟩:=q1
 cases r1
 show wpAny_truthy_bool ?_
 cases c with
 | true=>show hb pins s1 σ H1 Q I1 q1
 | false=>show⟨.bl false,H1,I1,rfl,q1⟩
def Ko (ha:PE X a ta)(hb:PE X (.BoolOp .Or (b::rest) pos) tb):PE X (.BoolOp .Or (a::b::rest) pos) (Li ta tb):=by
 intro pins s σ H Q I h
 show BoolOp_or (bq (ha pins s σ H _ I h) fun v s1 h9=>?_)
 obtain⟨x,H1,I1,r1,q1⟩:=h9
 obtain⟨c,rfl,q1⟩:=q1
 cases r1
 show wpAny_truthy_bool ?_
 cases c with
 | false=>show hb pins s1 σ H1 Q I1 q1
 | true=>show⟨.bl true,H1,I1,rfl,q1⟩
def Fz (ha:PE X a ta):PE X (.UnaryOp .Not a pos) (C7 ta):=by
 intro pins s σ H Q I h
 show UnaryOp_ (bq (ha pins s σ H _ I h) fun v s1 h9=>?_)
 obtain⟨x,H1,I1,r1,q1⟩:=h9
 obtain⟨c,rfl,q1⟩:=q1
 cases r1
 show not_of (wpAny_truthy_bool ⟨.bl (!c),H1,I1,U,q1⟩)
def Sr (t:TT)(ta tb:TE):TE:=fun σ H Q=>t σ H fun c H1=>if c=true then ta σ H1 Q else tb σ H1 Q
def xQ {c:Expr}(hc:PT X c tA)(ha:PE X a ta)(hb:PE X b tb):PE X (.IfExp c a b pos) (Sr tA ta tb):=by
 intro pins s σ H Q I h
 show wpAny_IfExp (bq (hc pins s σ H _ I h) fun d s1 h9=>?_)
 obtain⟨H1,I1,q1⟩:=h9
 cases d with
 | true=>show ha pins s1 σ H1 Q I1 q1
 | false=>show hb pins s1 σ H1 Q I1 q1
end
def aF (K:Yl)(H:Hp)(a:Addr)(xs:List V):Prop:=
 Rd H a (.lst xs) \/
   ∃(o:Obj) (aM:Array Value) (n:Nat),K.lookup a=some o/\o.cls=.type "list"/\o.dict=none/\o.data=.seq aM n/\aM.size<=sizeLine/\Vals xs aM.toList
def bM (K:Yl)(H:Hp)(a:Addr)(xs:List V):Prop:=
 Rd H a (.tup xs) \/
   ∃(o:Obj) (aM:Array Value) (n:Nat),K.lookup a=some o/\o.cls=.type "tuple"/\o.data=.seq aM n/\aM.size<=sizeLine/\Vals xs aM.toList
def M3:Value->Option V
 | .none=>some .bJ
 | .bool b=>some (.bl b)
 | .int i _=>some (.int i)
 | .str x _=>some (.str x)
 | .bytes b _=>some (.byt b)
 | .float b _=>some (.flt b)
 | .ref a=>some (.ref a)
 | .type n=>some (.ty n)
 | _=>none
def RelV.abs {x:V}{u:Value}(r:RelV x u):M3 u=some x:=by
 cases x with
 | bJ=>cases r;rfl
 | bl _=>cases r;rfl
 | int _=>obtain⟨t,rfl⟩:=r;rfl
 | str _=>obtain⟨t,rfl⟩:=r;rfl
 | byt _=>obtain⟨t,rfl⟩:=r;rfl
 | flt _=>obtain⟨t,rfl⟩:=r;rfl
 | ref _=>cases r;rfl
 | ty _=>cases r;rfl
def RelV.inj {x y:V}{u:Value}(r:RelV x u)(q:RelV y u):x=y:=YQ (r.abs.symm.trans q.abs)
theorem Vals.inj:∀{xs ys:List V} {us:List Value},Vals xs us->Vals ys us->xs=ys
 | _,_,_,.nil,.nil=>rfl
 | _,_,_,.cons r t,.cons r' t'=>by rw[r.inj r',Vals.inj t t']
section
variable{X:Cx}{pins:List (Addr×Obj)}{σ:St}{H:Hp}{s:Shared}{a:Addr}{xs ys:List V}
def aF.of {K:Yl}(h:H a=some (.lst xs)):aF K H a xs:=.inl (.inl h)
def bM.of {K:Yl}(h:H a=some (.tup xs)):bM K H a xs:=.inl (.inl h)
def Inv.list (I:Inv X pins σ H s)(h:aF X.K H a xs):∃aM:List Value,Vals xs aM/\PlainL s.heap a aM.toArray/\xs.length<=sizeLine:=by
 rcases h with h|⟨o,aM,n,hk,hc,hd,hs,hz,r⟩
 . obtain⟨z,aM,n,r,e⟩:=h.ok I.hok
   show⟨aM,r,⟨_,n,e,U,U,U⟩,z⟩
 . show⟨aM.toList,r,⟨o,n,I.zq a o hk,hc,hd,by simpa using hs⟩,?_⟩
   have e:=r.length
   simp only[Zs]at e
   lia
def Inv.tuple (I:Inv X pins σ H s)(h:bM X.K H a xs):∃aM:List Value,Vals xs aM/\IsTup s.heap a aM.toArray/\xs.length<=sizeLine:=by
 rcases h with h|⟨o,aM,n,hk,hc,hs,hz,r⟩
 . obtain⟨z,aM,r,p⟩:=h.ok I.hok
   show⟨aM,r,p,z⟩
 . show⟨aM.toList,r,⟨o,I.zq a o hk,hc,n,by simpa using hs⟩,?_⟩
   have e:=r.length
   simp only[Zs]at e
   lia
def Inv.d6 (I:Inv X pins σ H s)(h:aF X.K H a xs)(h':aF X.K H a ys):xs=ys:=by
 obtain⟨aM,r,⟨o,n,e,_,_,d⟩,_⟩:=I.list h
 obtain⟨its',r',⟨o',n',e',_,_,d'⟩,_⟩:=I.list h'
 rw[e]at e';cases e'
 rw[d]at d'
 injection d' with d1 _
 have:aM=its':=by simpa using congrArg Array.toList d1
 subst this
 show r.inj r'
def Inv.vh (I:Inv X pins σ H s)(h:bM X.K H a xs)(h':bM X.K H a ys):xs=ys:=by
 obtain⟨aM,r,⟨o,e,_,n,d⟩,_⟩:=I.tuple h
 obtain⟨its',r',⟨o',e',_,n',d'⟩,_⟩:=I.tuple h'
 rw[e]at e';cases e'
 rw[d]at d'
 injection d' with d1 _
 have:aM=its':=by simpa using congrArg Array.toList d1
 subst this
 show r.inj r'
end
abbrev Cx.lD (X:Cx)(E:Value->Shared->Prop):Cx:={X with xe:=E}
abbrev Cx.ED (X:Cx):Cx:=X.lD fun _ _=>False
def Cx.Ok.lD {X:Cx}(ok:X.Ok)(E:Value->Shared->Prop):(X.lD E).Ok:=
 ⟨ok.mod,ok.kind,ok.glob,ok.blt,ok.above,ok.inj,ok.has,ok.cab,ok.hd,ok.frames,ok.stk,ok.exf,ok.bs,ok.bsz,ok.noex,ok.exfs,ok.f7,ok.frf⟩
def Cx.Ok.fm {X:Cx}{E:Value->Shared->Prop}(ok:(X.lD E).Ok):X.Ok:=
 ⟨ok.mod,ok.kind,ok.glob,ok.blt,ok.above,ok.inj,ok.has,ok.cab,ok.hd,ok.frames,ok.stk,ok.exf,ok.bs,ok.bsz,ok.noex,ok.exfs,ok.f7,ok.frf⟩
section
variable{X:Cx}{pins:List (Addr×Obj)}{σ:St}{H:Hp}{s:Shared}{E:Value->Shared->Prop}
def Inv.lD (I:Inv X pins σ H s)(E:Value->Shared->Prop):Inv (X.lD E) pins σ H s:=⟨I.ok.lD E,I.os,I.bare,I.base,I.loc,I.cell,I.free,I.freeC,I.pin,I.hok,I.len⟩
def Inv.fm (I:Inv (X.lD E) pins σ H s):Inv X pins σ H s:=⟨I.ok.fm,I.os,I.bare,I.base,I.loc,I.cell,I.free,I.freeC,I.pin,I.hok,I.len⟩
theorem SP.fm {D:Ends}{f:Flow}{s':Shared}(h:SP (X.lD E) pins D f s'):SP X pins D f s':=by
 cases f with
 | next=>obtain⟨σ',H',I,q⟩:=h;show⟨σ',H',I.fm,q⟩
 | brk=>obtain⟨σ',H',I,q⟩:=h;show⟨σ',H',I.fm,q⟩
 | cont=>obtain⟨σ',H',I,q⟩:=h;show⟨σ',H',I.fm,q⟩
 | ret u=>obtain⟨v,σ',H',I,r,q⟩:=h;show⟨v,σ',H',I.fm,r,q⟩
def kS.ED {st:List Stmt}{t:TS}(h:kS X.ED st t):kS X st t:=fun pins s σ H D I hw=>
 wpAny_mono (h pins s σ H D (I.lD _) hw) (fun y y q=>q.fm) fun y y z=>Zx z
end
section
variable{X:Cx}{st:Stmt}{rest:List Stmt}{t u:TS}{e:Expr}{te:TE}{pos:Pos}
def C6:TS:=fun D σ H=>D.nx σ H
def rq (t u:TS):TS:=fun D σ H=>t {D with nx:=u D} σ H
def Bu:kS X [] C6:=fun z z σ H z I h=>aab ⟨σ,H,I,h⟩
def x5 (h1:PS X st t)(h2:kS X rest u):kS X (st::rest) (rq t u):=by
 intro pins s σ H D I h
 show abP (bq (h1 pins s σ H {D with nx:=u D} I h) fun f s1 q=>?_)
 cases f with
 | next=>
   obtain⟨σ',H',I',q⟩:=q
   show h2 pins s1 σ' H' D I' q
 | ret v=>show q
 | brk=>show q
 | cont=>show q
def Bv (h1:PS X st t):kS X [st] t:=by
 intro pins s σ H D I h
 show abP (bq (h1 pins s σ H D I h) fun f s1 q=>?_)
 cases f with
 | next=>show aab q
 | ret v=>show q
 | brk=>show q
 | cont=>show q
def Inv.quiet {pins:List (Addr×Obj)}{σ:St}{H:Hp}{s:Shared}(I:Inv X pins σ H s):interactive X.env=false:=by simp[interactive,I.ok.kind]
def C4 (te:TE):TS:=fun D σ H=>te σ H fun z H1=>D.nx σ H1
def Bl (he:PE X e te)(hs:ZJ e none pos.line X.env=pure false:=by rfl):PS X (.Expr e pos) (C4 te):=by
 intro pins s σ H D I h
 show wpAny_Expr_any (bq (he pins s σ H _ I h) fun v s1 h9=>?_) I.quiet hs
 obtain⟨x,H1,I1,r1,q1⟩:=h9
 show⟨σ,H1,I1,q1⟩
def Lj (te:TE):TS:=fun D σ H=>te σ H D.rt
def FR (he:PE X e te):PS X (.Return (some e) pos) (Lj te):=by
 intro pins s σ H D I h
 show wpAny_Return_some (bq (he pins s σ H _ I h) fun v s1 h9=>?_)
 obtain⟨x,H1,I1,r1,q1⟩:=h9
 show⟨x,σ,H1,I1,r1,q1⟩
def Lg (c:TT)(t u:TS):TS:=fun D σ H=>c σ H fun b H1=>if b=true then t D σ H1 else u D σ H1
def Kw {c:Expr}{a b:List Stmt}{tc:TT}(hc:PT X c tc)(ha:kS X a t)(hb:kS X b u):PS X (.If c a b pos) (Lg tc t u):=by
 intro pins s σ H D I h
 show wpAny_If (bq (hc pins s σ H _ I h) fun d s1 h9=>?_)
 obtain⟨H1,I1,q1⟩:=h9
 cases d with
 | true=>show ha pins s1 σ H1 D I1 q1
 | false=>show hb pins s1 σ H1 D I1 q1
def y3:TS:=fun z z z=>False
def va {WH:List Stmt}:kS X WH y3:=fun z z z z z z h=>h.elim
end
abbrev TG:=V->St->Hp->(St->Hp->Prop)->Prop
abbrev ub:=List V->St->Hp->(St->Hp->Prop)->Prop
def PG (X:Cx)(target:Expr)(t:TG):Prop:=
 ∀(pins:List (Addr×Obj)) (s:Shared) (σ:St) (H:Hp) (v:V) (u:Value) (Q:St->Hp->Prop),Inv X pins σ H s->RelV v u->t v σ H Q ->
   wpAny (model X.prog X.w) X.A (assign target X.env u) (fun z s'=>∃σ' H',Inv X pins σ' H' s'/\Q σ' H') X.xe s
def GN (X:Cx)(ts:List Expr)(t:ub):Prop:=
 ∀(pins:List (Addr×Obj)) (s:Shared) (σ:St) (H:Hp) (vs:List V) (us:List Value) (Q:St->Hp->Prop),Inv X pins σ H s->Vals vs us->t vs σ H Q ->
   wpAny (model X.prog X.w) X.A (assignInOrder ((assignEach ts X.env).map (·.2)) us) (fun z s'=>∃σ' H',Inv X pins σ' H' s'/\Q σ' H') X.xe s
abbrev Ds:=V->V->V->Hp->(Hp->Prop)->Prop
def HL (X:Cx)(t:Ds):Prop:=
 ∀(pins:List (Addr×Obj)) (s:Shared) (σ:St) (H:Hp) (o i v:V) (ov iv u:Value) (Q:Hp->Prop),Inv X pins σ H s->RelV o ov->RelV i iv->RelV v u->t o i v H Q ->
   wpAny (model X.prog X.w) X.A (setItem ov iv u) (fun z s'=>∃H',Inv X pins σ H' s'/\Q H') X.xe s
abbrev LI:=V->V->Hp->VK->Prop
def Ql (X:Cx)(op:Operator)(t:LI):Prop:=
 ∀(pins:List (Addr×Obj)) (s:Shared) (σ:St) (H:Hp) (x y:V) (v u:Value) (Q:VK),Inv X pins σ H s->RelV x v->RelV y u->t x y H Q ->
   wpAny (model X.prog X.w) X.A (inplaceOp op v u) (EP X pins σ Q) X.xe s
section
variable{X:Cx}{pos:Pos}
def dm (i:Nat):TG:=fun v σ H Q=>Q (σ.set i (some v)) H
def Ba {i:Nat}{x:Str}(hN:X.N.Nodup)(hi:X.N[i]?=some x)(hx:Loc X.env.scope x)(hf:X.fn x=true\/X.env.scope.names.lookup x=some .local:=by first|show .inl rfl|show .inr rfl|assumption):PG X (.Name x pos) (dm i):=by
 intro pins s σ H v u Q I r h
 show wpAny_assign_Name (cF I hN hi hx r (fun s' I'=>⟨_,H,I',h⟩) hf)
def zZ:ub:=fun vs σ H Q=>vs=[]/\Q σ H
def jZ (t:TG)(u:ub):ub:=fun vs σ H Q=>∃v r,vs=v::r/\t v σ H fun σ' H'=>u r σ' H' Q
def Bb:GN X [] zZ:=by
 intro pins s σ H vs us Q I r h
 obtain⟨e,h⟩:=h
 subst e
 cases r
 show abD ⟨σ,H,I,h⟩
def xT {e:Expr}{es:List Expr}{t:TG}{u:ub}(h1:PG X e t)(h2:GN X es u)
   (hs:(assignEach (e::es) X.env).map (·.2)=assign e X.env::(assignEach es X.env).map (·.2):=by rfl):GN X (e::es) (jZ t u):=by
 intro pins s σ H vs us Q I r h
 obtain⟨v,vr,e1,h⟩:=h
 subst e1
 cases r with
 | cons r rr=>
   rw[hs]
   show assignInOrder_cons (bq (h1 pins s σ H _ _ _ I r h) fun z s1 h9=>?_)
   obtain⟨σ1,H1,I1,q1⟩:=h9
   show h2 pins s1 σ1 H1 _ _ Q I1 rr q1
def z3 (K:Yl)(n:Nat)(t:ub):TG:=fun v σ H Q=>∃a xs,v=.ref a/\bM K H a xs/\xs.length=n/\t xs σ H Q
def FH {es:List Expr}{k:Nat}{t:ub}{n:Nat}(hc:X.calm=true)(h:GN X es t)
   (hn:(assignEach es X.env).length=n:=by rfl) (hst:(assignEach es X.env).findIdx? (·.1)=none:=by rfl):PG X (.Tuple es k pos) (z3 X.K n t):=by
 intro pins s σ H v u Q I r hw
 obtain⟨a,xs,e1,hq,hl,hw⟩:=hw
 subst e1
 cases r
 obtain⟨aM,rv,ht,hz⟩:=I.tuple hq
 show assign_Tuple_tuple (I.ok.hd hc) ht (by simp[hn,← hl,rv.length]) hst fun h' hx=>?_
 have I1:Inv X pins σ H {s with heap:=h'}:=I.kept (t':=s.toks) fun b o e=>hx b o (YJ (Ys e)) e
 show h pins _ σ H xs _ Q I1 (by simpa using rv) hw
def DP (to ti:TE)(t:Ds):TG:=fun v σ H Q=>to σ H fun o H1=>ti σ H1 fun i H2=>t o i v H2 fun H3=>Q σ H3
def xS {o i:Expr}{to ti:TE}{t:Ds}(ho:PE X o to)(hi:PE X i ti)(hs:HL X t)
   (ha:∀v,assign (.Subscript o i pos) X.env v=(do
     let ov←holding [v] (eval o X.env)
     let iv←holding [v,ov] (eval i X.env)
     standAt pos
     holding [v,ov,iv] (setItem ov iv v)
     release [v,ov,iv] []):=by intro _;rfl):PG X (.Subscript o i pos) (DP to ti t):=by
 intro pins s σ H v u Q I r h
 rw[ha]
 show wpAny_bind (wpAny_holding (bq (ho pins s σ H _ I h) fun ov s1 h9=>?_))
 obtain⟨x,H1,I1,r1,q1⟩:=h9
 show wpAny_bind (wpAny_holding (bq (hi pins s1 σ H1 _ I1 q1) fun iv s2 h9=>?_))
 obtain⟨y,H2,I2,r2,q2⟩:=h9
 show wpAny_bind (wpAny_standAt (wpAny_bind (wpAny_holding (bq (hs pins s2 σ H2 x y v ov iv u _ I2 r1 r2 r q2) fun z s3 h9=>?_))))
 obtain⟨H3,I3,q3⟩:=h9
 show wpAny_release ⟨σ,H3,I3,q3⟩
def lA (te:TE)(g:TG):TS:=fun D σ H=>te σ H fun x H1=>g x σ H1 D.nx
def FN {tg e:Expr}{te:TE}{g:TG}(he:PE X e te)(hg:PG X tg g)(hs:ZW [tg] e pos.line X.env=pure false:=by rfl)(hw:ZX [tg] e X.env=pure none:=by rfl)
   (h1:(assignEach [tg] X.env).map (·.2)=[assign tg X.env]:=by rfl):PS X (.Assign [tg] e pos) (lA te g):=by
 intro pins s σ H D I h
 show wpAny_Assign_stores (bq (he pins s σ H _ I h) fun v s1 h9=>?_) hs hw
 obtain⟨x,H1,I1,r1,q1⟩:=h9
 rw[h1]
 show bq (hg pins s1 σ H1 x v _ I1 r1 q1) fun z s2 q=>q
def FU {i:Nat}{x:Str}{e:Expr}{te:TE}{pos':Pos}(hN:X.N.Nodup)(hi:X.N[i]?=some x)(hx:Loc X.env.scope x)(he:PE X e te)(hs:ZJ e (some (.Name x pos')) pos.line X.env=pure false:=by rfl)(hf:X.fn x=true\/X.env.scope.names.lookup x=some .local:=by first|show .inl rfl|show .inr rfl|assumption) :
   PS X (.Assign [.Name x pos'] e pos) (lA te (dm i)):=by
 intro pins s σ H D I h
 show wpAny_Assign_Name (bq (he pins s σ H _ I h) fun v s1 h9=>?_) hs
 obtain⟨y,H1,I1,r1,q1⟩:=h9
 show cF I1 hN hi hx r1 (fun s2 I2=>⟨_,H1,I2,q1⟩) hf
def Ld (i:Nat)(te:TE)(ti:LI):TS:=fun D σ H=>∃x,σ[i]?=some (some x)/\te σ H fun y H1=>ti x y H1 fun z H2=>D.nx (σ.set i (some z)) H2
def FO {i:Nat}{x:Str}{e:Expr}{te:TE}{op:Operator}{ti:LI}{pos':Pos}(hN:X.N.Nodup)(hi:X.N[i]?=some x)(hx:Loc X.env.scope x)(he:PE X e te)(ho:Ql X op ti)(hf:X.fn x=true\/X.env.scope.names.lookup x=some .local:=by first|show .inl rfl|show .inr rfl|assumption) :
   PS X (.AugAssign (.Name x pos') op e pos) (Ld i te ti):=by
 intro pins s σ H D I h
 obtain⟨v,e1,h⟩:=h
 obtain⟨m,hn,hl⟩:=I.loc
 have WW:LJ X.env.scope x:=by rcases hx with k|k;show .inl k;show .inr (.inl k)
 obtain⟨u,r,l⟩:=hl i x v hi e1 WW
 show wpAny_AugAssign_Name ?_
 have go:wpAny (model X.prog X.w) X.A (eval e X.env) (fun w s₂=>wpAny (model X.prog X.w) X.A (inplaceOp op u w) (fun r s₃=>wpAny (model X.prog X.w) X.A (storeName X.env x r) (fun t=>SP X pins D .next) X.xe s₃) X.xe s₂) X.xe s:=by
   show bq (he pins s σ H _ I h) fun w s1 h9=>?_
   obtain⟨y,H1,I1,r1,q1⟩:=h9
   show bq (ho pins s1 σ H1 v y u w _ I1 r r1 q1) fun z s2 h9=>?_
   obtain⟨zv,H2,I2,r2,q2⟩:=h9
   show cF I2 hN hi hx r2 (fun s3 I3=>⟨_,H2,I3,q2⟩) hf
 rcases l with⟨hk,hm⟩|⟨hk,c,hc,rZ⟩
 . show wpAny_loadName_local I.ok.kind hk hn hm go
 . rcases hk with hk|hk
   . show wpAny_loadName_cell I.ok.kind hk hc rZ go
   . rcases hx with k|k
     . have:X.env.scope.names.lookup x=some .free:=hk
       rw[k]at this;cases this
     . have:X.env.scope.names.lookup x=some .free:=hk
       rw[k]at this;cases this
def Ri (f:Int->Int->Int):LI:=fun x y H Q=>∃i j,x=.int i/\y=.int j/\Q (.int (f i j)) H
def Ek:Ql X .Add (Ri fun i j=>i+j):=by
 intro pins s σ H x y v u Q I r1 r2 h
 obtain⟨i,j,e1,e2,q⟩:=h
 subst e1;subst e2
 obtain⟨t,rfl⟩:=r1
 obtain⟨t',rfl⟩:=r2
 show iadd_int ⟨.int _,H,I.tok _,⟨_,U⟩,q⟩
end
section
variable{X:Cx}{pos:Pos}
def y6 (c:TT)(tb:TS):TS:=fun D σ H=>∃W:Nat->St->Hp->Prop,(∃m,W m σ H)/\∀m σ H,W m σ H ->
 c σ H fun b H1=>if b=true then ∃N:St->Hp->Prop,(∀σ' H',N σ' H'->∃m',m'<m/\W m' σ' H')/\tb {D with nx:=N,ct:=N,bk:=D.nx} σ H1 else D.nx σ H1
def xZ {c:Expr}{body:List Stmt}{tc:TT}{tb:TS}(hp:PassesOwn (model X.prog X.w) X.A X.env X.xe)(hc:PT X c tc)(hb:kS X body tb):PS X (.While c body [] pos) (y6 tc tb):=by
 intro pins s σ H D I h
 obtain⟨W,⟨m0,w0⟩,turn⟩:=h
 show wpAny_While (codeAny_whileLoop (fun n s'=>∃σ' H',Inv X pins σ' H' s'/\W n σ' H') ?_ m0 ⟨σ,H,I,w0⟩)
 rintro n s1 ⟨σ1,H1,I1,w1⟩
 show ZV hp (bq (hc pins s1 σ1 H1 _ I1 (turn n σ1 H1 w1)) fun b s2 h9=>?_)
 obtain⟨H2,I2,q2⟩:=h9
 cases b with
 | true=>
   obtain⟨N,hN,q2⟩:=q2
   rw[bj rfl]
   show ZV hp (bq (hb pins s2 σ1 H2 _ I2 q2) fun f s3 q3=>?_)
   cases f with
   | next=>
     obtain⟨σ3,H3,I3,n3⟩:=q3
     obtain⟨m',hm,w3⟩:=hN σ3 H3 n3
     show⟨m',hm,σ3,H3,I3,w3⟩
   | cont=>
     obtain⟨σ3,H3,I3,n3⟩:=q3
     obtain⟨m',hm,w3⟩:=hN σ3 H3 n3
     show⟨m',hm,σ3,H3,I3,w3⟩
   | brk=>show q3
   | ret v=>show q3
 | false=>
   rw[bg YE]
   show aab ⟨σ1,H2,I2,q2⟩
end
structure It where
 go:Nat->Hp->Prop
 yld:Nat->Hp->V->Hp->Prop
 stop:Nat->Hp->Prop
def cU (X:Cx)(pins:List (Addr×Obj))(H:Hp)(b:Addr):Prop:=
 H b=none/\b≠X.env.locals/\b∉X.fs/\(b∈X.ex\/X.s₀.heap.objs.size<=b)/\(∀x c,X.env.cells.lookup x=some c->c≠b)/\∀p∈X.pn++pins,p.1≠b
def Inv.jY {X:Cx}{pins:List (Addr×Obj)}{σ:St}{H H':Hp}{s:Shared}{b:Addr}(I:Inv X pins σ H s)(hb:s.heap.objs.size<=b)(hn:H' b=none):cU X pins H' b:=by
 show⟨hn,Z3 (YH I.lt hb),I.O8 hb,.inr (YU I.sz hb),fun x c e z=>?_,fun p hp z=>?_⟩
 . obtain⟨v,q⟩:=I.cell x c e
   show az (YH q.lt (by rw[z];show hb)) (ZR _)
 . show az (YH (Ys (I.pin p hp).1) (by rw[z];show hb)) (ZR _)
structure Turn (P:Program)(w:World)(K:Yl)(tg:Expr)(J:It)(fp:List Addr)(it:Addr)(tn:Nat->Heap->Prop):Prop where
 mem:it∈fp
 obj:∀i h,tn i h->∀b∈fp,∃o,h.get? b=some o/\∀v,o.data≠.cell v
 keep:∀i h h',tn i h->(∀b∈fp,∀o,h.get? b=some o->h'.get? b=some o)->tn i h'
 item:∀(X:Cx),X.prog=P->X.w=w->X.K=K->X.calm=true->∀(i:Nat) (pins:List (Addr×Obj)) (s:Shared) (σ:St) (H:Hp) (E:Value->Shared->Prop),Inv X pins σ H s->(∀b∈fp,cU X pins H b)->tn i s.heap->J.go i H ->
   wpAny (model P w) X.A (pyNext (.ref it)) (fun r s1=>∃u,r=some u /\
     wpAny (model P w) X.A (letOwnedTupleGo tg (.ref it) u) (fun _ s2=>∃x H',Inv X pins σ H' s2/\RelV x u/\J.yld i H x H'/\tn (i+1) s2.heap/\∀b∈fp,H' b=none) E s1) E s
 done:∀(X:Cx),X.prog=P->X.w=w->X.K=K->X.calm=true->∀(i:Nat) (pins:List (Addr×Obj)) (s:Shared) (σ:St) (H:Hp) (E:Value->Shared->Prop),Inv X pins σ H s->(∀b∈fp,cU X pins H b)->tn i s.heap->J.stop i H ->
   wpAny (model P w) X.A (pyNext (.ref it)) (fun r s1=>r=none/\Inv X pins σ H s1) E s
 self:∀(A:Around) (i:Nat) (s:Shared) (Q:Value->Shared->Prop) (E:Value->Shared->Prop),tn i s.heap->Q (.ref it) s->wpAny (model P w) A (pyIter (.ref it)) Q E s
abbrev TI:=St->Hp->(It->Hp->Prop)->Prop
def Qk (X:Cx)(pins:List (Addr×Obj))(σ:St)(tg:Expr)(R:It->Hp->Prop)(itv:Value)(s2:Shared):Prop:=
 ∃(it:Addr) (fp:List Addr) (tn:Nat->Heap->Prop) (J:It) (H':Hp),itv=.ref it/\Inv X pins σ H' s2/\Turn X.prog X.w X.K tg J fp it tn/\tn 0 s2.heap/\(∀b∈fp,cU X pins H' b)/\R J H'
def PI (X:Cx)(tg iter:Expr)(wi:TI):Prop:=
 ∀(pins:List (Addr×Obj)) (s:Shared) (σ:St) (H:Hp) (R:It->Hp->Prop),Inv X pins σ H s->wi σ H R ->
   wpAny (model X.prog X.w) X.A (eval iter X.env) (fun v s1=>wpAny (model X.prog X.w) X.A (pyIter v) (Qk X pins σ tg R) X.xe s1) X.xe s
def wu {M8:Model}{A:Around}{E:Value->Shared->Prop}{s:Shared}{tg:Expr}{it:Addr}{u:Value}{o:Obj}{n:String}{vs:Array Value}{Q:Unit->Shared->Prop}(ho:s.heap.get? it=some o)(hc:o.cls=.type n)(hd:o.data=.fields vs)
   (hn:["enumerate","zip","dict_itemiterator","dict_reverseitemiterator","odict_iterator","itertools.zip_longest","itertools.pairwise"].contains n=false) (hQ:Q () s):wpAny M8 A (letOwnedTupleGo tg (.ref it) u) Q E s:=by
 unfold letOwnedTupleGo
 cases tg<;>first
   | show wpAny_pure hQ
   | (cases u<;>first
       | show wpAny_pure hQ
       | (show wpAny_bind (wpAny_load ho ?_)
          rw[hc,hd]
          change wpAny M8 A (if(["enumerate","zip","dict_itemiterator","dict_reverseitemiterator","odict_iterator","itertools.zip_longest","itertools.pairwise"].contains n&&vs[0]?==some (rawInt _))=true then _ else _) Q E s
          rw[bg (by intro h;rw[hn,Bool.false_and]at h;cases h)]
          show wpAny_pure hQ))
def GJ (K:Yl)(a:Addr):It:=
 ⟨fun i H=>∃xs x,aF K H a xs/\xs[i]?=some x,fun i H x H'=>H'=H/\∀xs,aF K H a xs->xs[i]?=some x,fun i H=>∃xs,aF K H a xs/\xs.length<=i⟩
def GK (K:Yl)(a:Addr):It:=
 ⟨fun i H=>∃xs x,bM K H a xs/\xs[i]?=some x,fun i H x H'=>H'=H/\∀xs,bM K H a xs->xs[i]?=some x,fun i H=>∃xs,bM K H a xs/\xs.length<=i⟩
def Di (lo:Int)(n:Nat):It:=⟨fun i z=>i<n,fun i H x H'=>H'=H/\x=.int (lo+i),fun i z=>n<=i⟩
def vk {P:Program}{w:World}{K:Yl}{tg:Expr}(a it:Addr):Turn P w K tg (GJ K a) [it] it (fun i h=>h.IsListIter it a i) where
 mem:=by simp
 obj:=fun i h st b hb=>by
   have e:b=it:=by simpa using hb
   subst e
   obtain⟨o,e,c,d⟩:=st
   show⟨o,e,fun v z=>by rw[d]at z;cases z⟩
 keep:=fun i h h' st k=>st.at fun o e=>k it (by simp) o e
 item:=by
   intro X hP hw hK hc i pins s σ H E I hf st hg
   subst hP hw hK
   obtain⟨xs,x,hq,hx⟩:=hg
   obtain⟨aM,rv,p,hz⟩:=I.list hq
   obtain⟨u,hu,ru⟩:=rv.get hx
   obtain⟨f0,f1,f2,f3,f4,f5⟩:=hf it (by simp)
   show wpAny_pyNext_list_item st p.isList (x:=u) (by simpa using hu) fun h' zt sb=>?_
   have I1:Inv X pins σ H {s with heap:=h'}:=I.turned (t':=s.toks) (fun b o hb e=>(sb.2 b hb).trans e) f0 f1 f3 f4 f5
   obtain⟨o,e,c,d⟩:=id zt
   show⟨u,U,wu (s:={s with heap:=h'}) e c d (by left) ⟨x,H,I1,ru,⟨U,fun ys hy=>by rw[I.d6 hy hq];show hx⟩,zt,fun b hb=>(hf b hb).1⟩⟩
 done:=by
   intro X hP hw hK hc i pins s σ H E I hf st hg
   subst hP hw hK
   obtain⟨xs,hq,hx⟩:=hg
   obtain⟨aM,rv,p,hz⟩:=I.list hq
   obtain⟨f0,f1,f2,f3,f4,f5⟩:=hf it (by simp)
   have hl:=rv.length
   show wpAny_pyNext_list_end (I.ok.hd hc) st p.isList (by simp;lia) fun h' eb=>⟨U,I.turned (t':=s.toks) (fun b o hb e=>eb b o hb e) f0 f1 f3 f4 f5⟩
 self:=fun y y y y y st h=>wpAny_pyIter_listiter st h
def rD {P:Program}{w:World}{K:Yl}{tg:Expr}(a it:Addr):Turn P w K tg (GK K a) [it] it (fun i h=>h.IsTupleIter it a i) where
 mem:=by simp
 obj:=fun i h st b hb=>by
   have e:b=it:=by simpa using hb
   subst e
   obtain⟨o,e,c,d⟩:=st
   show⟨o,e,fun v z=>by rw[d]at z;cases z⟩
 keep:=fun i h h' st k=>st.at fun o e=>k it (by simp) o e
 item:=by
   intro X hP hw hK hc i pins s σ H E I hf st hg
   subst hP hw hK
   obtain⟨xs,x,hq,hx⟩:=hg
   obtain⟨aM,rv,p,hz⟩:=I.tuple hq
   obtain⟨u,hu,ru⟩:=rv.get hx
   obtain⟨f0,f1,f2,f3,f4,f5⟩:=hf it (by simp)
   show wpAny_pyNext_tuple_item st (show s.heap.IsTuple a aM.toArray from p) (x:=u) (by simpa using hu) fun h' zt sb=>?_
   have I1:Inv X pins σ H {s with heap:=h'}:=I.turned (t':=s.toks) (fun b o hb e=>(sb.2 b hb).trans e) f0 f1 f3 f4 f5
   obtain⟨o,e,c,d⟩:=id zt
   show⟨u,U,wu (s:={s with heap:=h'}) e c d (by left) ⟨x,H,I1,ru,⟨U,fun ys hy=>by rw[I.vh hy hq];show hx⟩,zt,fun b hb=>(hf b hb).1⟩⟩
 done:=by
   intro X hP hw hK hc i pins s σ H E I hf st hg
   subst hP hw hK
   obtain⟨xs,hq,hx⟩:=hg
   obtain⟨aM,rv,p,hz⟩:=I.tuple hq
   obtain⟨f0,f1,f2,f3,f4,f5⟩:=hf it (by simp)
   have hl:=rv.length
   show wpAny_pyNext_tuple_end (I.ok.hd hc) st (show s.heap.IsTuple a aM.toArray from p) (by simp;lia) fun h' eb=>⟨U,I.turned (t':=s.toks) (fun b o hb e=>eb b o hb e) f0 f1 f3 f4 f5⟩
 self:=fun y y y y y st h=>wpAny_pyIter_tupleiter st h
def rC {P:Program}{w:World}{K:Yl}{tg:Expr}(it:Addr)(lo:Int)(n:Nat):Turn P w K tg (Di lo n) [it] it (fun i h=>IsRangeIter h it (lo+(i:Nat)*1) ((n:Int)-(i:Nat)) 1) where
 mem:=by simp
 obj:=fun i h st b hb=>by
   have e:b=it:=by simpa using hb
   subst e
   show⟨_,st,fun v z=>by
     have z':Data.fields _=Data.cell v:=z
     cases z'⟩
 keep:=fun i h h' st k=>k it (by simp) _ st
 item:=by
   intro X hP hw hK hc i pins s σ H E I hf st hg
   subst hP hw hK
   obtain⟨f0,f1,f2,f3,f4,f5⟩:=hf it (by simp)
   have W:=Walks.range (prog:=X.prog) (w:=X.w) (I.ok.hd hc) it lo 1 n
   show W.item i s _ _ hg st fun v h' tk hv zt kk=>?_
   obtain⟨t,rfl⟩:=hv
   have I1:Inv X pins σ H {s with heap:=h',toks:=tk}:=I.turned (fun b o hb e=>kk b o (by simpa using hb) e) f0 f1 f3 f4 f5
   show⟨_,U,wu (s:={s with heap:=h',toks:=tk}) (n:="range_iterator") zt rfl rfl (by left) ⟨.int (lo+i),H,I1,⟨t,?_⟩,⟨U,U⟩,zt,fun b hb=>(hf b hb).1⟩⟩
   rw[Int.mul_one]
 done:=by
   intro X hP hw hK hc i pins s σ H E I hf st hg
   subst hP hw hK
   obtain⟨f0,f1,f2,f3,f4,f5⟩:=hf it (by simp)
   show wpAny_pyNext_range_end (I.ok.hd hc) st (by have:n<=i:=hg;lia) fun h' eb=>⟨U,I.turned (t':=s.toks) (fun b o hb e=>eb b o hb e) f0 f1 f3 f4 f5⟩
 self:=fun y y y y y st h=>wpAny_pyIter_rangeiter st h
section
variable{X:Cx}{tg:Expr}
def Cq (K:Yl)(tl:TE):TI:=fun σ H R=>tl σ H fun x H1=>∃a,x=.ref a/\(∃xs,aF K H1 a xs)/\R (GJ K a) H1
def Jv (K:Yl)(tl:TE):TI:=fun σ H R=>tl σ H fun x H1=>∃a,x=.ref a/\(∃xs,bM K H1 a xs)/\R (GK K a) H1
def Be {l:Expr}{tl:TE}(hl:PE X l tl):PI X tg l (Cq X.K tl):=by
 intro pins s σ H R I h
 show bq (hl pins s σ H _ I h) fun v s1 h9=>?_
 obtain⟨x,H1,I1,r1,q1⟩:=h9
 obtain⟨a,e,⟨xs,hq⟩,q⟩:=q1
 subst e
 cases r1
 obtain⟨aM,rv,p,hz⟩:=I1.list hq
 show wpAny_pyIter_list p.isList ?_
 show⟨s1.heap.objs.size,[s1.heap.objs.size],_,_,H1,U,I1.kept (t':=s1.toks) fun b o e=>Yr _ e,vk a _,⟨_,YG _ rfl,U,U⟩,fun b hb=>?_,q⟩
 have e:b=s1.heap.objs.size:=by simpa using hb
 subst e
 show I1.jY (Yo _) (I1.hok.fresh (Yo _))
def FI {l:Expr}{tl:TE}(hl:PE X l tl):PI X tg l (Jv X.K tl):=by
 intro pins s σ H R I h
 show bq (hl pins s σ H _ I h) fun v s1 h9=>?_
 obtain⟨x,H1,I1,r1,q1⟩:=h9
 obtain⟨a,e,⟨xs,hq⟩,q⟩:=q1
 subst e
 cases r1
 obtain⟨aM,rv,p,hz⟩:=I1.tuple hq
 show wpAny_pyIter_tuple (show s1.heap.IsTuple a aM.toArray from p) ?_
 show⟨s1.heap.objs.size,[s1.heap.objs.size],_,_,H1,U,I1.kept (t':=s1.toks) fun b o e=>Yr _ e,rD a _,⟨_,YG _ rfl,U,U⟩,fun b hb=>?_,q⟩
 have e:b=s1.heap.objs.size:=by simpa using hb
 subst e
 show I1.jY (Yo _) (I1.hok.fresh (Yo _))
def yd {pins:List (Addr×Obj)}{σ:St}{H:Hp}{s:Shared}{R:It->Hp->Prop}{E:Value->Shared->Prop}{lo hi:Int}{t u v:Tok}{tk:Nat}(I:Inv X pins σ H s)(h1 : -(2^62)<=lo)(h2:lo<2^62)(h3 : -(2^62)<=hi)(h4:hi<2^62)
   (q:R (Di lo (hi-lo).toNat) H):wpAny (model X.prog X.w) X.A (pyIter (.ref s.heap.objs.size)) (Qk X pins σ tg R) E {s with heap:=s.heap.push {cls:=.type "range",data:=.fields #[.int lo t,.int hi u,.int 1 v]},toks:=tk}:=by
 show wpAny_pyIter_range (IsRange.new ..) (small_one h1 h2 h3 h4) ?_
 have I1:Inv X pins σ H {s with heap:=s.heap.push {cls:=.type "range",data:=.fields #[.int lo t,.int hi u,.int 1 v]},toks:=tk}:=I.kept fun b o e=>Yr _ e
 show⟨(s.heap.push {cls:=.type "range",data:=.fields #[.int lo t,.int hi u,.int 1 v]}).objs.size,[(s.heap.push {cls:=.type "range",data:=.fields #[.int lo t,.int hi u,.int 1 v]}).objs.size],_,_,H,rfl,
   I1.kept (t':=tk) fun b o e=>Yr _ e,rC _ lo (hi-lo).toNat,?_,fun b hb=>?_,q⟩
 . have e1:lo+((0:Nat):Int)*1=lo:=by simp
   have e2:(((hi-lo).toNat:Nat):Int)-((0:Nat):Int)=Builtin.Range.rangeSize lo hi 1:=by rw[rangeSize_one];split<;>lia
   change IsRangeIter _ _ (lo+((0:Nat):Int)*1) ((((hi-lo).toNat:Nat):Int)-((0:Nat):Int)) 1
   rw[e1,e2]
   show YG _ rfl
 . have e:b=(s.heap.push {cls:=.type "range",data:=.fields #[.int lo t,.int hi u,.int 1 v]}).objs.size:=by simpa using hb
   subst e
   show I1.jY (Yo _) (I1.hok.fresh (Yo _))
def wK (ta:TA):TI:=fun σ H R=>ta σ H fun vs H1=>∃j:Int,vs=[.int j]/\-(2^62)<=j/\j<2^62/\R (Di 0 j.toNat) H1
def u5 {a:Expr}{ta:TA}{p pos:Pos}(hg:Gl X "range")(hm:X.mg "range"=none)(ha:PA X [a] ta)(hs:starEach [a] X.env=[(false,eval a X.env)]:=by rfl):PI X tg (.Call (.Name "range" p) [a] [] pos) (wK ta):=by
 intro pins s σ H R I h
 show Call_ (eB I hg hm boot_range (Y0 (bq (ha pos pins s σ H _ I h) fun us s1 h9=>?_) hs rfl))
 obtain⟨vs,H1,I1,r1,q1⟩:=h9
 obtain⟨j,e,q1,q2,q⟩:=q1
 subst e
 cases r1 with
 | cons r rr=>
   cases rr
   obtain⟨t,rfl⟩:=r
   show call_range_1 (yd I1 (by lia) (by lia) q1 q2 (by simpa using q))
def Lf (wi:TI)(g:TG)(tb:TS):TS:=fun D σ H=>wi σ H fun J H1=>∃W:Nat->Nat->St->Hp->Prop,(∃m,W 0 m σ H1)/\∀i m σ H,W i m σ H ->
 (J.stop i H/\D.nx σ H)\/(J.go i H/\∃N:St->Hp->Prop,(∀σ' H',N σ' H'->∃m',m'<m/\W (i+1) m' σ' H')/\∀x H',J.yld i H x H'->g x σ H' fun σ2 H2=>tb {D with nx:=N,ct:=N,bk:=D.nx} σ2 H2)
def ku (fp:List Addr)(h:Heap):List (Addr×Obj):=fp.filterMap fun b=>(h.get? b).map fun o=>(b,o)
def eC {fp:List Addr}{h:Heap}{b:Addr}{o:Obj}(hb:b∈fp)(e:h.get? b=some o):(b,o)∈ku fp h:=List.mem_filterMap.mpr ⟨b,hb,by rw[e];rfl⟩
def uP {fp:List Addr}{h:Heap}{p:Addr×Obj}(hp:p∈ku fp h):p.1∈fp/\h.get? p.1=some p.2:=by
 obtain⟨b,hb,e⟩:=List.mem_filterMap.mp hp
 cases q:h.get? b with
 | none=>rw[q]at e;cases e
 | some o=>
   rw[q]at e
   have e':(b,o)=p:=YQ e
   subst e'
   show⟨hb,q⟩
def Inv.pinned {pins:List (Addr×Obj)}{σ:St}{H:Hp}{s:Shared}{fp:List Addr}(I:Inv X pins σ H s)(hf:∀b∈fp,cU X pins H b)(ho:∀b∈fp,∃o,s.heap.get? b=some o/\∀v,o.data≠.cell v):Inv X (pins++ku fp s.heap) σ H s:=
 I.sM fun p hp=>(List.mem_append.mp hp).elim (fun z=>I.pin p (Y3 _ z)) fun z=>by
   obtain⟨hb,e⟩:=uP z
   obtain⟨f0,f1,f2,_⟩:=hf p.1 hb
   obtain⟨o,e',d⟩:=ho p.1 hb
   rw[e]at e';cases e'
   show⟨e,f0,f1,f2,d⟩
def Inv.iJ {pins pl:List (Addr×Obj)}{σ:St}{H:Hp}{s:Shared}(I:Inv X (pins++pl) σ H s):Inv X pins σ H s:=I.sM fun p hp=>I.pin p (Y3 _ (aa3 _ hp))
def FP {iter:Expr}{body:List Stmt}{wi:TI}{g:TG}{tb:TS}{pos:Pos}(hp:PassesOwn (model X.prog X.w) X.A X.env X.xe)(hc:X.calm=true)(hi:PI X tg iter wi)(hg:PG X tg g)(hb:kS X body tb)
   (hs:∀x,YK iter X.env x=pure x:=by intro _;rfl):PS X (.For tg iter body [] pos) (Lf wi g tb):=by
 intro pins s σ H D I h
 show wpAny_For (bq (hi pins s σ H _ I h) fun v s1 h1=>bq h1 fun itv s2 h2=>?_) hs
 obtain⟨it,fp,tn,J,H2,e,I2,T,Gn,f2,W,⟨m0,w0⟩,turn⟩:=h2
 subst e
 have stat:∀{H':Hp},(∀b∈fp,H' b=none)->∀b∈fp,cU X pins H' b:=fun hn b hb=>⟨hn b hb,(f2 b hb).2⟩
 show codeAny_forLoop_any (fun n s'=>∃i σ' H',Inv X pins σ' H' s'/\tn i s'.heap/\(∀b∈fp,H' b=none)/\W i n σ' H') ?_ m0 ⟨0,σ,H2,I2,Gn,fun b hb=>(f2 b hb).1,w0⟩
 rintro n s3 ⟨i,σ3,H3,I3,yU,GP,w3⟩
 rcases turn i n σ3 H3 w3 with⟨stop,qn⟩|⟨go,N,hN,step⟩
 . show ZV hp (bq (T.done X rfl rfl rfl hc i pins s3 σ3 H3 X.xe I3 (stat GP) yU stop) fun r s4 h9=>?_)
   obtain⟨hr,I4⟩:=h9
   subst hr
   show aab ⟨σ3,H3,I4,qn⟩
 . show ZV hp (bq (T.item X rfl rfl rfl hc i pins s3 σ3 H3 X.xe I3 (stat GP) yU go) fun r s4 h9=>?_)
   obtain⟨u,hr,h4⟩:=h9
   subst hr
   show ZV hp (bq h4 fun z s5 h9=>?_)
   obtain⟨x,H5,I5,r5,y5,zu,Nm⟩:=h9
   have MS:=I5.pinned (stat Nm) (T.obj _ _ zu)
   show ZV hp (bq (hg _ s5 σ3 H5 x u _ MS r5 (step x H5 y5)) fun z s6 h9=>?_)
   obtain⟨σ6,H6,I6,q6⟩:=h9
   show ZV hp (bq (hb _ s6 σ6 H6 _ I6 q6) fun f s7 q7=>?_)
   have again:∀{σ7:St} {H7:Hp},Inv X (pins++ku fp s5.heap) σ7 H7 s7->N σ7 H7->∃m,m<n/\∃i σ' H',Inv X pins σ' H' s7/\tn i s7.heap/\(∀b∈fp,H' b=none)/\W i m σ' H':=fun{σ7 H7} I7 n7=>by
     obtain⟨m',hm,w7⟩:=hN σ7 H7 n7
     show⟨m',hm,i+1,σ7,H7,I7.iJ,T.keep _ _ _ zu fun b hb o e=>(I7.pin (b,o) (Y3 _ (Y3 _ (eC hb e)))).1,fun b hb=>?_,w7⟩
     obtain⟨o,e,d⟩:=T.obj _ _ zu b hb
     show(I7.pin (b,o) (Y3 _ (Y3 _ (eC hb e)))).2.1
   cases f with
   | next=>obtain⟨σ7,H7,I7,n7⟩:=q7;show again I7 n7
   | cont=>obtain⟨σ7,H7,I7,n7⟩:=q7;show again I7 n7
   | brk=>obtain⟨σ7,H7,I7,q7⟩:=q7;show⟨σ7,H7,I7.iJ,q7⟩
   | ret v=>obtain⟨x7,σ7,H7,I7,r7,q7⟩:=q7;show⟨x7,σ7,H7,I7.iJ,r7,q7⟩
end
def dA {K:Yl}{a:Addr}{xs:List V}{g:TG}{tb:TS}{D:Ends}{σ:St}{H:Hp}(Pv:Nat->St->Hp->Prop)(h0:Pv 0 σ H)(hl:∀i σ H,i<=xs.length->Pv i σ H->aF K H a xs)
   (hs:∀i x σ H,xs[i]?=some x->Pv i σ H->g x σ H fun σ2 H2=>tb {D with nx:=Pv (i+1),ct:=Pv (i+1),bk:=D.nx} σ2 H2) (hd:∀σ H,Pv xs.length σ H->D.nx σ H) :
   ∃W:Nat->Nat->St->Hp->Prop,(∃m,W 0 m σ H)/\∀i m σ H,W i m σ H ->
     ((GJ K a).stop i H/\D.nx σ H)\/((GJ K a).go i H/\∃N:St->Hp->Prop,(∀σ' H',N σ' H'->∃m',m'<m/\W (i+1) m' σ' H')/\∀x H',(GJ K a).yld i H x H'->g x σ H' fun σ2 H2=>tb {D with nx:=N,ct:=N,bk:=D.nx} σ2 H2):=by
 show⟨fun i m σ H=>m=xs.length-i/\i<=xs.length/\Pv i σ H,⟨xs.length,by simp,YY _,h0⟩,?_⟩
 rintro i m σ H ⟨rfl,hi,p⟩
 have q:=hl i σ H hi p
 by_cases hlt:i<xs.length
 . show .inr ⟨⟨xs,xs[i],q,by simp[hlt]⟩,Pv (i+1),fun σ' H' p'=>⟨xs.length-(i+1),by lia,U,hlt,p'⟩,fun x H' y=>?_⟩
   obtain⟨e,y⟩:=y
   subst e
   show hs i x σ _ (y xs q) p
 . have e:i=xs.length:=by lia
   subst e
   show .inl ⟨⟨xs,q,Yo _⟩,hd σ H p⟩
def zX {K:Yl}{a:Addr}{xs:List V}{g:TG}{tb:TS}{D:Ends}{σ:St}{H:Hp}(Pv:Nat->St->Hp->Prop)(h0:Pv 0 σ H)(hl:∀i σ H,i<=xs.length->Pv i σ H->bM K H a xs)
   (hs:∀i x σ H,xs[i]?=some x->Pv i σ H->g x σ H fun σ2 H2=>tb {D with nx:=Pv (i+1),ct:=Pv (i+1),bk:=D.nx} σ2 H2) (hd:∀σ H,Pv xs.length σ H->D.nx σ H) :
   ∃W:Nat->Nat->St->Hp->Prop,(∃m,W 0 m σ H)/\∀i m σ H,W i m σ H ->
     ((GK K a).stop i H/\D.nx σ H)\/((GK K a).go i H/\∃N:St->Hp->Prop,(∀σ' H',N σ' H'->∃m',m'<m/\W (i+1) m' σ' H')/\∀x H',(GK K a).yld i H x H'->g x σ H' fun σ2 H2=>tb {D with nx:=N,ct:=N,bk:=D.nx} σ2 H2):=by
 show⟨fun i m σ H=>m=xs.length-i/\i<=xs.length/\Pv i σ H,⟨xs.length,by simp,YY _,h0⟩,?_⟩
 rintro i m σ H ⟨rfl,hi,p⟩
 have q:=hl i σ H hi p
 by_cases hlt:i<xs.length
 . show .inr ⟨⟨xs,xs[i],q,by simp[hlt]⟩,Pv (i+1),fun σ' H' p'=>⟨xs.length-(i+1),by lia,U,hlt,p'⟩,fun x H' y=>?_⟩
   obtain⟨e,y⟩:=y
   subst e
   show hs i x σ _ (y xs q) p
 . have e:i=xs.length:=by lia
   subst e
   show .inl ⟨⟨xs,q,Yo _⟩,hd σ H p⟩
def fA {lo:Int}{n:Nat}{g:TG}{tb:TS}{D:Ends}{σ:St}{H:Hp}(Pv:Nat->St->Hp->Prop)(h0:Pv 0 σ H)
   (hs:∀i σ H,i<n->Pv i σ H->g (.int (lo+i)) σ H fun σ2 H2=>tb {D with nx:=Pv (i+1),ct:=Pv (i+1),bk:=D.nx} σ2 H2) (hd:∀σ H,Pv n σ H->D.nx σ H) :
   ∃W:Nat->Nat->St->Hp->Prop,(∃m,W 0 m σ H)/\∀i m σ H,W i m σ H ->
     ((Di lo n).stop i H/\D.nx σ H)\/((Di lo n).go i H/\∃N:St->Hp->Prop,(∀σ' H',N σ' H'->∃m',m'<m/\W (i+1) m' σ' H')/\∀x H',(Di lo n).yld i H x H'->g x σ H' fun σ2 H2=>tb {D with nx:=N,ct:=N,bk:=D.nx} σ2 H2):=by
 show⟨fun i m σ H=>m=n-i/\i<=n/\Pv i σ H,⟨n,by simp,YY _,h0⟩,?_⟩
 rintro i m σ H ⟨rfl,hi,p⟩
 by_cases hlt:i<n
 . show .inr ⟨hlt,Pv (i+1),fun σ' H' p'=>⟨n-(i+1),by lia,U,hlt,p'⟩,fun x H' y=>?_⟩
   obtain⟨e,y⟩:=y
   subst e y
   show hs i σ _ hlt p
 . have e:i=n:=by lia
   subst e
   show .inl ⟨Yo _,hd σ H p⟩
abbrev R2:=V->V->Hp->VK->Prop
def gF (X:Cx)(f:Value->Value->Sem Value)(r:R2):Prop:=
 ∀(pins:List (Addr×Obj)) (s:Shared) (σ:St) (H:Hp) (x y:V) (v u:Value) (Q:VK),Inv X pins σ H s->RelV x v->RelV y u->r x y H Q ->
   wpAny (model X.prog X.w) X.A (f v u) (EP X pins σ Q) X.xe s
def M0 (X:Cx)(f:Value->Sem Value)(r:V->Hp->VK->Prop):Prop:=
 ∀(pins:List (Addr×Obj)) (s:Shared) (σ:St) (H:Hp) (x:V) (v:Value) (Q:VK),Inv X pins σ H s->RelV x v->r x H Q ->
   wpAny (model X.prog X.w) X.A (f v) (EP X pins σ Q) X.xe s
def dj (X:Cx)(f:Value)(r:List V->Hp->VK->Prop):Prop:=
 ∀(pins:List (Addr×Obj)) (s:Shared) (σ:St) (H:Hp) (xs:List V) (us:List Value) (Q:VK),Inv X pins σ H s->Vals xs us->r xs H Q ->
   wpAny (model X.prog X.w) X.A (call f us) (EP X pins σ Q) X.xe s
def MY (X:Cx)(r:V->Hp->(Bool->Hp->Prop)->Prop):Prop:=
 ∀(pins:List (Addr×Obj)) (s:Shared) (σ:St) (H:Hp) (x:V) (v:Value) (Q:Bool->Hp->Prop),Inv X pins σ H s->RelV x v->r x H Q ->
   wpAny (model X.prog X.w) X.A (truthy v) (TP X pins σ Q) X.xe s
def zw (r:R2)(ta tb:TE):TE:=fun σ H Q=>ta σ H fun x H1=>tb σ H1 fun y H2=>r x y H2 Q
def Su (r:V->Hp->VK->Prop)(ta:TE):TE:=fun σ H Q=>ta σ H fun x H1=>r x H1 Q
def rI (C:Int->Int->Prop)(g:Int->Int->V):R2:=fun x y H Q=>∃i j,x=.int i/\y=.int j/\C i j/\Q (g i j) H
def sS (g:Int->Int->V):R2:=fun x y H Q=>∃i j,x=.int i/\y=.int j/\Q (g i j) H
def rU (g:Int->V):V->Hp->VK->Prop:=fun x H Q=>∃i,x=.int i/\Q (g i) H
section
variable{X:Cx}{a b c:Expr}{ta tb tc:TE}{pos:Pos}
def Dz (ha:PE X a ta)(hb:PE X b tb){pins:List (Addr×Obj)}{s:Shared}{σ:St}{H:Hp}{R:V->V->Hp->Prop}(I:Inv X pins σ H s)
   (h:ta σ H fun x H1=>tb σ H1 fun y H2=>R x y H2) {Q:Value->Shared->Prop} {f:Value->Value->Sem Value}
   (hf:∀v u s2 x y H2,Inv X pins σ H2 s2->RelV x v->RelV y u->R x y H2->wpAny (model X.prog X.w) X.A (f v u) Q X.xe s2) :
   wpAny (model X.prog X.w) X.A (eval a X.env) (fun v s₁=>wpAny (model X.prog X.w) X.A (eval b X.env) (fun u s₂=>wpAny (model X.prog X.w) X.A (f v u) Q X.xe s₂) X.xe s₁) X.xe s:=by
 show bq (ha pins s σ H _ I h) fun v s1 h9=>?_
 obtain⟨x,H1,I1,r1,q1⟩:=h9
 show bq (hb pins s1 σ H1 _ I1 q1) fun u s2 h9=>?_
 obtain⟨y,H2,I2,r2,q2⟩:=h9
 show hf v u s2 x y H2 I2 r1 r2 q2
def Kn {op:Operator}{r:R2}(ho:gF X (binaryOp op) r)(ha:PE X a ta)(hb:PE X b tb):PE X (.BinOp a op b pos) (zw r ta tb):=by
 intro pins s σ H Q I h
 show wpAny_BinOp (Dz ha hb I h fun v u s2 x y H2 I2 rx ry q=>ho pins s2 σ H2 x y v u Q I2 rx ry q)
def Kp {op:UnaryOp}{r:V->Hp->VK->Prop}(ho:M0 X (unaryOp op) r)(ha:PE X a ta):PE X (.UnaryOp op a pos) (Su r ta):=by
 intro pins s σ H Q I h
 show UnaryOp_ (bq (ha pins s σ H _ I h) fun v s1 h9=>?_)
 obtain⟨x,H1,I1,r1,q1⟩:=h9
 show ho pins s1 σ H1 x v Q I1 r1 q1
def Mo {f:Value->Value->Sem Value}{C:Int->Int->Prop}{g:Int->Int->Int}
   (rule:∀(i j:Int) (t u:Tok) (s:Shared) (Q:Value->Shared->Prop) (E:Value->Shared->Prop),C i j->Q (.int (g i j) s.toks) {s with toks:=s.toks+1}->wpAny (model X.prog X.w) X.A (f (.int i t) (.int j u)) Q E s) :
   gF X f (rI C fun i j=>.int (g i j)):=by
 intro pins s σ H x y v u Q I rx ry h
 obtain⟨i,j,rfl,rfl,hc,q⟩:=h
 obtain⟨t,rfl⟩:=rx
 obtain⟨t',rfl⟩:=ry
 show rule i j t t' s _ _ hc ⟨.int (g i j),H,I.tok _,⟨_,U⟩,q⟩
def J2 {f:Value->Value->Sem Value}{g:Int->Int->Int}
   (rule:∀(i j:Int) (t u:Tok) (s:Shared) (Q:Value->Shared->Prop) (E:Value->Shared->Prop),Q (.int (g i j) s.toks) {s with toks:=s.toks+1}->wpAny (model X.prog X.w) X.A (f (.int i t) (.int j u)) Q E s) :
   gF X f (sS fun i j=>.int (g i j)):=by
 intro pins s σ H x y v u Q I rx ry h
 obtain⟨i,j,rfl,rfl,q⟩:=h
 obtain⟨t,rfl⟩:=rx
 obtain⟨t',rfl⟩:=ry
 show rule i j t t' s _ _ ⟨.int (g i j),H,I.tok _,⟨_,U⟩,q⟩
def A0 {f:Value->Value->Sem Value}{g:Int->Int->Bool}
   (rule:∀(i j:Int) (t u:Tok) (s:Shared) (Q:Value->Shared->Prop) (E:Value->Shared->Prop),Q (.bool (g i j)) s->wpAny (model X.prog X.w) X.A (f (.int i t) (.int j u)) Q E s) :
   gF X f (sS fun i j=>.bl (g i j)):=by
 intro pins s σ H x y v u Q I rx ry h
 obtain⟨i,j,rfl,rfl,q⟩:=h
 obtain⟨t,rfl⟩:=rx
 obtain⟨t',rfl⟩:=ry
 show rule i j t t' s _ _ ⟨.bl (g i j),H,I,U,q⟩
def Hv (i j:Int):Prop:=0<=j/\j<=1000000/\i.natAbs<2^64
def zy (i j:Int):Prop:=(-(2^64)<i/\i<2^64)\/(-(2^64)<j/\j<2^64)
def zy.ok {i j:Int}(h:zy i j):IntMulOk i j:=by
 rcases h with⟨h1,h2⟩|⟨h1,h2⟩
 . show .of_left (intBits_le_64 h1 h2)
 . show .of_right (intBits_le_64 h1 h2)
def Fe:gF X (binaryOp .Add) (sS fun i j=>.int (i+j)):=J2 fun z z z z z z z q=>add_int q
def Fp:gF X (binaryOp .Sub) (sS fun i j=>.int (i-j)):=J2 fun z z z z z z z q=>sub_int q
def Fl:gF X (binaryOp .Mult) (rI zy fun i j=>.int (i*j)):=Mo fun z z z z z z z hc q=>mul_int q hc.ok
def Fj:gF X (binaryOp .Mod) (rI (fun z j=>0<j) fun i j=>.int (i%j)):=Mo fun i j z z z z z hc q=>by
 have h1:(0:Int)<j:=hc
 show mod_int' (by lia) (by rw[Int.fmod_eq_emod_of_nonneg i (by lia)];show q)
def Fn:gF X (binaryOp .Pow) (rI Hv fun i j=>.int (i^j.toNat)):=Mo fun z z z z z z z hc q=>pow_int_small hc.1 hc.2.1 hc.2.2 q
def WO {f:Value->Sem Value}{g:Int->Int}
   (rule:∀(i:Int) (t:Tok) (s:Shared) (Q:Value->Shared->Prop) (E:Value->Shared->Prop),Q (.int (g i) s.toks) {s with toks:=s.toks+1}->wpAny (model X.prog X.w) X.A (f (.int i t)) Q E s) :
   M0 X f (rU fun i=>.int (g i)):=by
 intro pins s σ H x v Q I rx h
 obtain⟨i,rfl,q⟩:=h
 obtain⟨t,rfl⟩:=rx
 show rule i t s _ _ ⟨.int (g i),H,I.tok _,⟨_,U⟩,q⟩
def Gz:M0 X (unaryOp .USub) (rU fun i=>.int (-i)):=WO fun z z z z z q=>neg_int q
end
def K4:V->V->Bool
 | .bJ,.bJ=>true|.bJ,.int _=>true|.int _,.bJ=>true|.bJ,.bl _=>true|.bl _,.bJ=>true|.bJ,.str _=>true|.str _,.bJ=>true
 | .int _,.int _=>true|.bl _,.bl _=>true|.str _,.str _=>true|.byt _,.byt _=>true
 | .int _,.str _=>true|.str _,.int _=>true|.bl _,.str _=>true|.str _,.bl _=>true
 | _,_=>false
def RY:R2:=fun x y H Q=>K4 x y=true/\Q (.bl (decide (x=y))) H
def RZ:R2:=fun x y H Q=>K4 x y=true/\Q (.bl (!decide (x=y))) H
def rV {i j:Int}:decide (V.int i=V.int j)=(i==j):=by
 rw[ZN]
 simp
def vZ {i j:Bool}:decide (V.bl i=V.bl j)=(i==j):=by
 rw[ZN]
 simp
def rW {i j:Str}:decide (V.str i=V.str j)=(i==j):=by
 rw[ZN]
 simp
def rT {i j:Array UInt8}:decide (V.byt i=V.byt j)=(i.toList==j.toList):=by
 rw[ZN]
 cases i
 cases j
 simp
section
variable{X:Cx}{a b c:Expr}{ta tb tc:TE}{pos:Pos}
def aY {pins:List (Addr×Obj)}{σ:St}{H:Hp}{s:Shared}{Q:VK}{k k':Bool}(I:Inv X pins σ H s)(q:Q (.bl k) H)(e:k=k'):EP X pins σ Q (.bool k') s:=by
 subst e
 show⟨.bl k,H,I,U,q⟩
def J3:gF X (compareOp .Eq) RY:=by
 intro pins s σ H x y v u Q I rx ry h
 obtain⟨hs,q⟩:=h
 cases x with
 | bJ=>
   cases rx
   cases y with
   | bJ=>cases ry;show PySem.EqNone.eq_none_none (aY I q (by simp))
   | bl j=>cases ry;show PySem.EqNone.eq_none_bool (aY I q (by simp))
   | int j=>obtain⟨t',rfl⟩:=ry;show PySem.EqNone.eq_none_int (aY I q (by simp))
   | str j=>obtain⟨t',rfl⟩:=ry;show PySem.EqNone.eq_none_str (aY I q (by simp))
   | _=>show az (show false=true from hs) YE
 | bl i=>
   cases rx
   cases y with
   | bJ=>cases ry;show PySem.EqNone.eq_bool_none (aY I q (by simp))
   | bl j=>cases ry;show eq_bool (aY I q vZ)
   | str j=>obtain⟨t',rfl⟩:=ry;show PySem.EqMixed.eq_bool_str (aY I q (by simp))
   | _=>show az (show false=true from hs) YE
 | int i=>
   obtain⟨t,rfl⟩:=rx
   cases y with
   | bJ=>cases ry;show PySem.EqNone.eq_int_none (aY I q (by simp))
   | int j=>obtain⟨t',rfl⟩:=ry;show eq_int (aY I q rV)
   | str j=>obtain⟨t',rfl⟩:=ry;show PySem.EqMixed.eq_int_str (aY I q (by simp))
   | _=>show az (show false=true from hs) YE
 | str i=>
   obtain⟨t,rfl⟩:=rx
   cases y with
   | bJ=>cases ry;show PySem.EqNone.eq_str_none (aY I q (by simp))
   | bl j=>cases ry;show PySem.EqMixed.eq_str_bool (aY I q (by simp))
   | int j=>obtain⟨t',rfl⟩:=ry;show PySem.EqMixed.eq_str_int (aY I q (by simp))
   | str j=>obtain⟨t',rfl⟩:=ry;show eq_str (aY I q rW)
   | _=>show az (show false=true from hs) YE
 | byt i=>
   obtain⟨t,rfl⟩:=rx
   cases y with
   | byt j=>obtain⟨t',rfl⟩:=ry;show PySem.W.eq_bytes (aY I q rT)
   | _=>show az (show false=true from hs) YE
 | _=>cases y<;>show az (show false=true from hs) YE
def J8:gF X (compareOp .NotEq) RZ:=by
 intro pins s σ H x y v u Q I rx ry h
 obtain⟨hs,q⟩:=h
 cases x with
 | bJ=>
   cases rx
   cases y with
   | bJ=>cases ry;show PySem.EqNone.ne_none_none (aY I q (by simp))
   | bl j=>cases ry;show PySem.EqNone.ne_none_bool (aY I q (by simp))
   | int j=>obtain⟨t',rfl⟩:=ry;show PySem.EqNone.ne_none_int (aY I q (by simp))
   | str j=>obtain⟨t',rfl⟩:=ry;show PySem.EqNone.ne_none_str (aY I q (by simp))
   | _=>show az (show false=true from hs) YE
 | bl i=>
   cases rx
   cases y with
   | bJ=>cases ry;show PySem.EqNone.ne_bool_none (aY I q (by simp))
   | bl j=>cases ry;show ne_bool (aY I q (congrArg not vZ))
   | str j=>obtain⟨t',rfl⟩:=ry;show PySem.EqMixed.ne_bool_str (aY I q (by simp))
   | _=>show az (show false=true from hs) YE
 | int i=>
   obtain⟨t,rfl⟩:=rx
   cases y with
   | bJ=>cases ry;show PySem.EqNone.ne_int_none (aY I q (by simp))
   | int j=>obtain⟨t',rfl⟩:=ry;show ne_int (aY I q (congrArg not rV))
   | str j=>obtain⟨t',rfl⟩:=ry;show PySem.EqMixed.ne_int_str (aY I q (by simp))
   | _=>show az (show false=true from hs) YE
 | str i=>
   obtain⟨t,rfl⟩:=rx
   cases y with
   | bJ=>cases ry;show PySem.EqNone.ne_str_none (aY I q (by simp))
   | bl j=>cases ry;show PySem.EqMixed.ne_str_bool (aY I q (by simp))
   | int j=>obtain⟨t',rfl⟩:=ry;show PySem.EqMixed.ne_str_int (aY I q (by simp))
   | str j=>obtain⟨t',rfl⟩:=ry;show ne_str (aY I q (congrArg not rW))
   | _=>show az (show false=true from hs) YE
 | byt i=>
   obtain⟨t,rfl⟩:=rx
   cases y with
   | byt j=>obtain⟨t',rfl⟩:=ry;show PySem.W.ne_bytes (aY I q (congrArg not rT))
   | _=>show az (show false=true from hs) YE
 | _=>cases y<;>show az (show false=true from hs) YE
def J7:gF X (compareOp .Lt) (sS fun i j=>.bl (decide (i<j))):=A0 fun z z z z z z z q=>lt_int q
def J6:gF X (compareOp .LtE) (sS fun i j=>.bl (decide (i<=j))):=A0 fun z z z z z z z q=>le_int q
def J5:gF X (compareOp .Gt) (sS fun i j=>.bl (decide (j<i))):=A0 fun z z z z z z z q=>gt_int q
def J4:gF X (compareOp .GtE) (sS fun i j=>.bl (decide (j<=i))):=A0 fun z z z z z z z q=>ge_int q
def Fi:gF X (compareOp .Is) (fun x y H Q=>y=.bJ/\Q (.bl (decide (x=.bJ))) H):=by
 intro pins s σ H x y v u Q I rx ry h
 obtain⟨rfl,q⟩:=h
 cases ry
 show is_none_gen (aY I q ?_)
 cases x<;>first
   | (cases rx;rfl)
   | (obtain⟨t,rfl⟩:=rx;rfl)
def A2:gF X (compareOp .IsNot) (fun x y H Q=>y=.bJ/\Q (.bl (!decide (x=.bJ))) H):=by
 intro pins s σ H x y v u Q I rx ry h
 obtain⟨rfl,q⟩:=h
 cases ry
 show isnot_none_gen (aY I q ?_)
 cases x<;>first
   | (cases rx;rfl)
   | (obtain⟨t,rfl⟩:=rx;rfl)
def w6 (b:Expr){op:CmpOp}(h:op≠.In:=by left)(h2:op≠.NotIn:=by left):ZY op b=false:=by
 have e1:(op==CmpOp.In)=false:=by cases op<;>first|rfl|show az rfl h
 have e2:(op==CmpOp.NotIn)=false:=by cases op<;>first|rfl|show az rfl h2
 cases b<;>simp[ZY,e1,e2]
def A5 {op:CmpOp}{r:R2}(ho:gF X (compareOp op) r)(ha:PE X a ta)(hb:PE X b tb)(hm:ZY op b=false):PE X (.Compare a [op] [b] pos) (zw r ta tb):=by
 intro pins s σ H Q I h
 show wpAny_Compare1 (Dz ha hb I h fun v u s2 x y H2 I2 rx ry q=>ho pins s2 σ H2 x y v u Q I2 rx ry q) hm
def Dc (t:TE):TT:=fun σ H Q=>t σ H fun x H'=>∃k,x=.bl k/\Q k H'
def Bw {op:CmpOp}{r:R2}(ho:gF X (compareOp op) r)(ha:PE X a ta)(hb:PE X b tb)(hm:ZY op b=false):PT X (.Compare a [op] [b] pos) (Dc (zw r ta tb)):=by
 intro pins s σ H Q I h
 show wpAny_isTrue_Compare1 (bq (ha pins s σ H _ I h) fun v s1 ⟨x,H1,I1,r1,q1⟩=>bq (hb pins s1 σ H1 _ I1 q1) fun u s2 ⟨y,H2,I2,r2,q2⟩=>
   bq (ho pins s2 σ H2 x y v u _ I2 r1 r2 q2) fun c s3 ⟨z,H3,I3,r3,k,e,q3⟩=>?_) hm
 subst e
 cases r3
 show wpAny_truthy_bool ⟨H3,I3,q3⟩
def Du (K:Yl)(x:V)(H:Hp)(k:Bool):Prop:=
 match x with
 | .bJ=>k=false
 | .bl b=>k=b
 | .int i=>k=(i != 0)
 | .str y=>y.length<=sizeLine/\k=((y.length:Int) != 0)
 | .byt y=>y.size<=sizeLine/\k=((y.size:Int) != 0)
 | .ref p=>(∃xs,aF K H p xs/\k=!xs.isEmpty)\/(∃xs,bM K H p xs/\k=!xs.isEmpty)\/∃kvs,H p=some (.dK kvs)/\k=!kvs.isEmpty
 | _=>False
def qp {κ:Type}{kvs:List (κ×V)}{vs:List (κ×Value)}(r:KV kvs vs):(!vs.isEmpty)=!kvs.isEmpty:=by
 cases r<;>rfl
def j8 {xs:List V}{aM:List Value}(r:Vals xs aM):(!aM.toArray.isEmpty)=!xs.isEmpty:=by
 cases r<;>simp
def kf:(sizeLine:Nat)<2^63:=by rw[sizeLine_eq];decide
def Gy:MY X (fun x H Q=>∃k,Du X.K x H k/\Q k H):=by
 intro pins s σ H x v Q I rx h
 obtain⟨k,e,q⟩:=h
 have hl:=kf
 have hs:sizeLine=16777216:=sizeLine_eq
 cases x with
 | bJ=>
   cases rx
   have e':k=false:=e
   subst e'
   show truthy_none ⟨H,I,q⟩
 | bl b=>
   cases rx
   have e':k=b:=e
   subst e'
   show wpAny_truthy_bool ⟨H,I,q⟩
 | int i=>
   obtain⟨t,rfl⟩:=rx
   have e':k=(i != 0):=e
   subst e'
   show PySem.P.truthy_int ⟨H,I,q⟩
 | str y=>
   obtain⟨t,rfl⟩:=rx
   obtain⟨hy,e'⟩ : y.length<=sizeLine/\k=((y.length:Int) != 0):=e
   subst e'
   show PySem.P.truthy_str (by lia) ⟨H,I.tok _,q⟩
 | byt y=>
   obtain⟨t,rfl⟩:=rx
   obtain⟨hy,e'⟩ : y.size<=sizeLine/\k=((y.size:Int) != 0):=e
   subst e'
   show PySem.W.truthy_bytes (by lia) ⟨H,I.tok _,q⟩
 | ref p=>
   cases rx
   have e':(∃xs,aF X.K H p xs/\k=!xs.isEmpty)\/(∃xs,bM X.K H p xs/\k=!xs.isEmpty)\/∃kvs,H p=some (.dK kvs)/\k=!kvs.isEmpty:=e
   rcases e' with⟨xs,hx,e'⟩|⟨xs,hx,e'⟩|⟨kvs,hx,e'⟩
   . subst e'
     obtain⟨aM,r,pl,hz⟩:=I.list hx
     have hlen:=r.length
     show wpAny_truthy_list pl.isList (by simp only[Yw];lia) ⟨H,I.tok _,by rw[j8 r];show q⟩
   . subst e'
     obtain⟨aM,r,pl,hz⟩:=I.tuple hx
     have hlen:=r.length
     show truthy_tuple pl (by simp only[Yw];lia) ⟨H,I.tok _,by rw[j8 r];show q⟩
   . subst e'
     obtain⟨hz,hS,vs,r,m⟩ : kvs.length<=sizeLine/\(p==Zv)=false/\∃vs,KV kvs vs/\s.heap.DictOf (aL X.prog X.w) p vs:=I.hok p _ hx
     have hlen:kvs.length=vs.length:=Paired.length r
     show wpAny_truthy_dict hS m (by lia) ⟨H,I.tok _,by rw[qp r];show q⟩
 | _=>show(show False from e).elim
def x6 (ha:PE X a ta)(he:∀whole,isTrue a X.env whole=(do let v←whole;standAt a.pos;holding [v] (truthy v))) :
   PT X a (fun σ H Q=>ta σ H fun x H'=>∃k,Du X.K x H' k/\Q k H'):=by
 intro pins s σ H Q I h
 show isTrue_plain (bq (ha pins s σ H _ I h) fun v s1 h9=>?_) (he _)
 obtain⟨x,H1,I1,r1,q1⟩:=h9
 show Gy pins s1 σ H1 x v Q I1 r1 q1
def vals1 {x:V}{us:List Value}(r:Vals [x] us):∃u,us=[u]/\RelV x u:=by
 cases r with
 | cons r1 r2=>cases r2;show⟨_,rfl,r1⟩
def vals2 {x y:V}{us:List Value}(r:Vals [x,y] us):∃u w',us=[u,w']/\RelV x u/\RelV y w':=by
 cases r with
 | cons r1 r2=>
   cases r2 with
   | cons r3 r4=>cases r4;show⟨_,_,rfl,r1,r3⟩
def uf (hc:X.calm=true):dj X (.builtin "max") (fun xs H Q=>∃i j,xs=[.int i,.int j]/\Q (.int (if j > i then j else i)) H):=by
 intro pins s σ H xs us Q I r h
 obtain⟨i,j,rfl,q⟩:=h
 obtain⟨u,w',rfl,⟨t,rfl⟩,⟨t',rfl⟩⟩:=vals2 r
 show max_two_ints (I.ok.hd hc) fun h' tk k=>⟨_,H,I.kept k,?_,q⟩
 by_cases hj:j > i
 . rw[bj hj,bj hj];show⟨_,rfl⟩
 . rw[bg hj,bg hj];show⟨_,rfl⟩
def ug (hc:X.calm=true):dj X (.builtin "min") (fun xs H Q=>∃i j,xs=[.int i,.int j]/\Q (.int (if j<i then j else i)) H):=by
 intro pins s σ H xs us Q I r h
 obtain⟨i,j,rfl,q⟩:=h
 obtain⟨u,w',rfl,⟨t,rfl⟩,⟨t',rfl⟩⟩:=vals2 r
 show min_two_ints (I.ok.hd hc) fun h' tk k=>⟨_,H,I.kept k,?_,q⟩
 by_cases hj:j<i
 . rw[bj hj,bj hj];show⟨_,rfl⟩
 . rw[bg hj,bg hj];show⟨_,rfl⟩
def ud:dj X (.type "int") (fun xs H Q=>(∃i,xs=[.int i]/\Q (.int i) H)\/∃k,xs=[.bl k]/\Q (.int (if k then 1 else 0)) H):=by
 intro pins s σ H xs us Q I r h
 rcases h with⟨i,rfl,q⟩|⟨k,rfl,q⟩
 . obtain⟨u,rfl,t,rfl⟩:=vals1 r
   show call_int_int ⟨.int i,H,I,⟨_,U⟩,q⟩
 . obtain⟨u,rfl,r1⟩:=vals1 r
   cases r1
   show call_int_bool ⟨.int (if k then 1 else 0),H,I.tok _,⟨_,U⟩,q⟩
end
def fU.some_of {v:V}{o:Option Value}(r:fU (some v) o):∃u,o=some u/\RelV v u:=by
 cases o with
 | none=>show(show False from r).elim
 | some u=>show⟨u,rfl,r⟩
structure cI (k:Nat)(A:Around):Prop where
 hd:A.handled=none
 dp:A.depth+3*k+5<recursionLimit
 un:A.units+16*k+200<cLine
def cI.mono {j k:Nat}{A:Around}(r:cI k A)(h:j<=k):cI j A:=⟨r.hd,by have:=r.dp;lia,by have:=r.un;lia⟩
def cI.deeper {k:Nat}{A:Around}(r:cI (k+1) A)(env:Env):cI k (A.deeper env):=
 ⟨r.hd,by have:=r.dp;change A.depth+1+3*k+5<_;lia,by have:=r.un;change A.units+3+16*k+200<_;lia⟩
def cI.depth {k:Nat}{A:Around}(r:cI k A):A.depth<recursionLimit:=by have:=r.dp;lia
def cI.units {k:Nat}{A:Around}(r:cI k A):A.units+64<cLine:=by have:=r.un;lia
def Gv:TA:=fun z H Q=>Q [] H
def yW (ta:TE)(tr:TA):TA:=fun σ H Q=>ta σ H fun x H1=>tr σ H1 fun xs H2=>Q (x::xs) H2
section
variable{X:Cx}{e:Expr}{es:List Expr}{te:TE}{t:TA}{pos:Pos}
def Fq:PA X [] Gv:=fun z z z z H Q I h=>aaa ⟨[],H,I,.nil,h⟩
def A4 (ha:PE X e te)(hr:PA X es t)(hs:starEach (e::es) X.env=(false,eval e X.env)::starEach es X.env:=by rfl):PA X (e::es) (yW te t):=by
 intro pos pins s σ H Q I h
 rw[hs]
 change wpAny _ _ (spliced ((false,eval e X.env)::backTo pos (starEach es X.env))) _ _ s
 show ZH (bq (ha pins s σ H _ I h) fun u s1 h9=>?_)
 obtain⟨x,H1,I1,r1,q1⟩:=h9
 show bq (hr pos pins s1 σ H1 _ I1 q1) fun us s2 h9=>?_
 obtain⟨xs,H2,I2,r2,q2⟩:=h9
 show⟨x::xs,H2,I2,.cons r1 r2,q2⟩
def Gw (t:TA):TE:=fun σ H Q=>t σ H fun xs H1=>xs.length<=sizeLine/\∀p,H1 p=none->Q (.ref p) (upd H1 p (.tup xs))
def Gu (t:TA):TE:=fun σ H Q=>t σ H fun xs H1=>xs.length<=sizeLine/\∀p,H1 p=none->Q (.ref p) (upd H1 p (.lst xs))
def FD {x1}(h:PA X es t):PE X (.Tuple es x1 pos) (Gw t):=by
 intro pins s σ H Q I hq
 show wpAny_Tuple_spliced (bq (h pos pins s σ H _ I hq) fun us s1 g9=>?_)
 obtain⟨xs,H1,I1,r,z,q⟩:=g9
 show⟨by rw[← r.length];show z,?_⟩
 have hf:H1 s1.heap.objs.size=none:=I1.hok.fresh (Yo _)
 show⟨.ref s1.heap.objs.size,upd H1 s1.heap.objs.size (.tup xs),I1.laid (t':=s1.toks) (fun b u e=>Yr _ e) (Yo _) ?_,U,q _ hf⟩
 show⟨z,us,r,⟨_,YG _ rfl,U,_,U⟩⟩
def Fx (h:PA X es t):PE X (.List es pos) (Gu t):=by
 intro pins s σ H Q I hq
 show wpAny_List_spliced (bq (h pos pins s σ H _ I hq) fun us s1 g9=>?_)
 obtain⟨xs,H1,I1,r,z,q⟩:=g9
 show⟨by rw[← r.length];show z,?_⟩
 have hf:H1 s1.heap.objs.size=none:=I1.hok.fresh (Yo _)
 show⟨.ref s1.heap.objs.size,upd H1 s1.heap.objs.size (.lst xs),I1.laid (t':=s1.toks) (fun b u e=>Yr _ e) (Yo _) ?_,U,q _ hf⟩
 show⟨z,us,0,r,YG _ rfl⟩
end
abbrev Sp:=List V->Hp->VK->XK->Prop
abbrev rJ:=List Env->Hp->Shared->XK->Value->Shared->Prop
structure zB (P:Program)(w:World)(K:Yl)(mg:Str->Option Value)(base:Heap)(A:Around)(outer:List Env)(s:Shared)(H:Hp):Prop where
 frames:A.frames=some outer
 mod:Mod K mg base
 bs:∀b o,base.get? b=some o->s.heap.get? b=some o/\H b=none
 bsz:base.objs.size<=s.heap.objs.size
 f7:s.heap.FunFrames base outer
 frf:∀b∈gU outer,H b=none
 hok:eS P w H s.heap
 bare:AllBare s.gens
def CE (outer:List Env)(P:Program)(w:World)(H:Hp)(s:Shared)(Q:VK)(u:Value)(s':Shared):Prop:=
 ∃v H',s'.os=s.os/\AllBare s'.gens/\Un (gU outer) [] H H' s.heap s'.heap/\eS P w H' s'.heap/\RelV v u/\Q v H'
def CR (CX:rJ)(outer:List Env)(P:Program)(w:World)(H:Hp)(s:Shared)(Q:VK)(E:XK)(r:Result)(s':Shared):Prop:=
 match r with
 | .ok (.ret u)=>CE outer P w H s Q u s'
 | .ok _=>False
 | .error e=>CX outer H s E e s'
structure aO (P:Program)(w:World)(K:Yl)(mg:Str->Option Value)(base:Heap)(CX:rJ)(k:Nat)(f:Addr)(fd:Yx)(ps:List Str)(sp:Sp):Prop where
 len:∀vs H Q E,sp vs H Q E->vs.length=ps.length
 run:∀(A:Around) (outer:List Env) (s:Shared) (H:Hp) (args:Args) (us:List Value) (vs:List V) (Q:VK) (E:XK),cI k A->zB P w K mg base A outer s H->BindsTo s fd args (ps.zip us)->Vals vs us->sp vs H Q E ->
   codeAny (model P w) A (.call (.ref f) args) (CR CX outer P w H s Q E) s
def aO.mono {P:Program}{w:World}{K:Yl}{mg:Str->Option Value}{base:Heap}{CX:rJ}{j k:Nat}{f:Addr}{fd:Yx}{ps:List Str}{sp:Sp}(F:aO P w K mg base CX j f fd ps sp)(h:j<=k) :
   aO P w K mg base CX k f fd ps sp:=⟨F.len,fun A outer s H args us vs Q E hr=>F.run A outer s H args us vs Q E (hr.mono h)⟩
section
variable{X:Cx}{pins:List (Addr×Obj)}{σ:St}{H:Hp}{s s':Shared}
def Inv.Iu (I:Inv X pins σ H s):zB X.prog X.w X.K X.mg X.base X.A X.stack s H:=
 ⟨I.ok.frames,I.ok.mod,I.bs,YU I.ok.bsz I.sz,I.stack,I.nF,I.hok,I.bare⟩
def Inv.after {Q:VK}{u:Value}(I:Inv X pins σ H s)(h:CE X.stack X.prog X.w H s Q u s'):EP X pins σ Q u s':=by
 obtain⟨v,H',os,bare,un,hok,r,q⟩:=h
 obtain⟨hh,g,d,t,V7⟩:=s'
 obtain rfl:V7=s.os:=os
 show⟨v,H',I.call (h':=hh) (g':=g) (d':=d) (t':=t) (ch:=[]) un hok bare (fun b z=>az z (by simp)),r,q⟩
end
def kJ (sp:Sp)(dvs:List V)(E:XK)(t:TA):TE:=fun σ H Q=>t σ H fun vs H1=>sp (vs++dvs) H1 Q E
def Binds (K:Yl)(fd:Yx)(ps:List Str)(ds:List Value):Prop:=
 ∀(s:Shared) (us:List Value),K.In s.heap->(us++ds).length=ps.length->BindsTo s fd ⟨us,[]⟩ (ps.zip (us++ds))
def Binds.all {K:Yl}{fd:Yx}{ps:List Str}(h:∀us:List Value,us.length=ps.length->abV fd ⟨us,[]⟩=pure (ps.zip us)):Binds K fd ps []:=fun s us z hl=>by
 rw[YO]at hl ⊢
 show .of_eq (h us hl)
def Passes (CX:rJ)(X:Cx)(E:XK):Prop:=∀(pins:List (Addr×Obj)) (σ:St) (H:Hp) (s:Shared) (e:Value) (s':Shared),Inv X pins σ H s->CX X.stack H s E e s'->X.xe e s'
section
variable{X:Cx}{CX:rJ}{k:Nat}{f C:Addr}{fd:Yx}{ps:List Str}{sp:Sp}{dvs:List V}{ds:List Value}{E:XK}{x m:Str}{p pos apos:Pos}{e o:Expr}{es:List Expr}{ta:TE}{t:TA}
def F3 {pins:List (Addr×Obj)}{σ:St}{H:Hp}{s:Shared}{Q:VK}{us:List Value}{vs:List V}(F:aO X.prog X.w X.K X.mg X.base CX k f fd ps sp)(hr:cI k X.A)(hb:Binds X.K fd ps ds)(hd:Vals dvs ds)(hx:Passes CX X E)
   (I:Inv X pins σ H s) (r:Vals vs us) (h:sp (vs++dvs) H Q E):wpAny (model X.prog X.w) X.A (call (.ref f) us) (EP X pins σ Q) X.xe s:=by
 have r2:Vals (vs++dvs) (us++ds):=r.append hd
 have hl:(us++ds).length=ps.length:=by rw[← r2.length];show F.len _ _ _ _ h
 show wpAny_call (codeAny_mono (F.run X.A X.stack s H ⟨us,[]⟩ (us++ds) (vs++dvs) Q E hr I.Iu (hb s us I.zq hl) r2 h) fun r s' hq=>?_)
 cases r with
 | error e=>show hx pins σ H s e s' I hq
 | ok fl=>
   cases fl with
   | ret u=>show I.after hq
   | next=>show Zx hq
   | brk=>show Zx hq
   | cont=>show Zx hq
def m8 (F:aO X.prog X.w X.K X.mg X.base CX k f fd ps sp)(hr:cI k X.A)(hg:Gl X x)(hm:X.mg x=some (.ref f))(hk:Zq X.K (.ref f)=true)(hb:Binds X.K fd ps ds)(hd:Vals dvs ds)(hx:Passes CX X E)
   (ha:PA X (e::es) t) (hdb:(x==("__debug__":Str))=false:=by left) (he:starEach (e::es) X.env=(false,eval e X.env)::starEach es X.env:=by rfl) (hpl:(backTo pos (starEach es X.env)).any (·.1)=false:=by rfl) :
   PE X (.Call (.Name x p) (e::es) [] pos) (kJ sp dvs E t):=by
 intro pins s σ H Q I h
 show wpAny_Call_Name_kw (ie I hg hm ?_ hdb)
 show ab4 (h₀:=X.base) I.ok.mod.kin hk (bq (ha pos pins s σ H _ I h) fun us s1 g9=>?_) he hpl
 obtain⟨vs,H1,I1,r,q⟩:=g9
 show⟨I1.zq,?_⟩
 show F3 F hr hb hd hx I1 r q
end
structure aC (N P:List Str)(sc:Scope):Prop where
 kind:sc.kind=.function
 co:sc.isCoroutine=false
 gen:sc.isGenerator=false
 nd:N.Nodup
 pre:N.take P.length=P
 par:∀x∈P,sc.names.lookup x=some .local\/sc.names.lookup x=some .cell
 nofree:∀y∈sc.names,y.2≠.free
def df {N P:List Str}{sc:Scope}(a:sc.kind=.function:=by rfl)(b:sc.isCoroutine=false:=by rfl)(c:sc.isGenerator=false:=by rfl)(d:N.Nodup:=by right)(e:N.take P.length=P:=by rfl)(f:∀x∈P,sc.names.lookup x=some .local\/sc.names.lookup x=some .cell:=by right)(g:∀y∈sc.names,y.2≠.free:=by right):aC N P sc:=⟨a,b,c,d,e,f,g⟩
theorem lH {kindOf:Str->Option aac}{x:Str}:∀{binds:List (Str×Value)} {m:Str->Option Value},(∀v,(x,v)∉binds)->bindL kindOf binds m x=m x
 | [],_,_=>rfl
 | (n,v)::r,m,h=>by
   unfold bindL
   rw[lH fun w hw=>h w (Y1 _ hw)]
   split
   . have:x≠n:=by rintro rfl;show h v Y9
     simp[this]
   . rfl
theorem lF {kindOf:Str->Option aac}{x:Str}:∀{binds:List (Str×Value)} {m:Str->Option Value},(∀v,(x,v)∉binds)->bindC kindOf binds m x=m x
 | [],_,_=>rfl
 | (n,v)::r,m,h=>by
   unfold bindC
   rw[lF fun w hw=>h w (Y1 _ hw)]
   split
   . rfl
   . have:x≠n:=by rintro rfl;show h v Y9
     simp[this]
theorem lG {kindOf:Str->Option aac}{x:Str}{v:Value}:∀{P:List Str} {vs:List Value} {i:Nat} {m:Str->Option Value},P.Nodup->P[i]?=some x->vs[i]?=some v->kindOf x=some .local ->
   bindL kindOf (P.zip vs) m x=some v
 | [],_,_,_,_,h,_,_=>by simp at h
 | _::_,[],_,_,_,_,h,_=>by simp at h
 | p::P,w::vs,0,m,nd,h1,h2,hk=>by
   simp at h1 h2;subst h1;subst h2
   change bindL kindOf ((p,w)::P.zip vs) m p=_
   unfold bindL
   rw[lH fun v hv=>(List.nodup_cons.mp nd).1 (abz hv).1,bj hk]
   simp
 | p::P,w::vs,i+1,m,nd,h1,h2,hk=>by
   change bindL kindOf ((p,w)::P.zip vs) m x=_
   unfold bindL
   show lG (i:=i) (List.nodup_cons.mp nd).2 (by simpa using h1) (by simpa using h2) hk
theorem lE {kindOf:Str->Option aac}{x:Str}{v:Value}:∀{P:List Str} {vs:List Value} {i:Nat} {m:Str->Option Value},P.Nodup->P[i]?=some x->vs[i]?=some v->kindOf x≠some .local ->
   bindC kindOf (P.zip vs) m x=some v
 | [],_,_,_,_,h,_,_=>by simp at h
 | _::_,[],_,_,_,_,h,_=>by simp at h
 | p::P,w::vs,0,m,nd,h1,h2,hk=>by
   simp at h1 h2;subst h1;subst h2
   change bindC kindOf ((p,w)::P.zip vs) m p=_
   unfold bindC
   rw[lF fun v hv=>(List.nodup_cons.mp nd).1 (abz hv).1,bg hk]
   simp
 | p::P,w::vs,i+1,m,nd,h1,h2,hk=>by
   change bindC kindOf ((p,w)::P.zip vs) m x=_
   unfold bindC
   show lE (i:=i) (List.nodup_cons.mp nd).2 (by simpa using h1) (by simpa using h2) hk
def start (N:List Str)(vs:List V):St:=vs.map some++YC (N.length-vs.length) none
def fJ (CX:rJ)(P:Program)(w:World)(K:Yl)(mg:Str->Option Value)(base:Heap)(N:List Str)(qual:Str)(scope:Scope)(f:Addr)(cd:Value)(A:Around)(outer:List Env)(s:Shared)(H:Hp)(E:XK):Cx where
 prog:=P
 w:=w
 K:=K
 mg:=mg
 base:=base
 A:=A.deeper (envOfC qual scope s.heap.objs.size f cd)
 N:=N
 s₀:=s
 H₀:=H
 env:=envOfC qual scope s.heap.objs.size f cd
 outer:=outer
 stack:=envOfC qual scope s.heap.objs.size f cd::outer
 ex:=[]
 calm:=true
 fn:=fun z=>true
 pn:=[]
 xe:=fun e s'=>wpAny (model P w) (A.deeper (envOfC qual scope s.heap.objs.size f cd)) (leaving (envOfC qual scope s.heap.objs.size f cd) e) (fun z PD=>CX outer H s E e PD) (fun e' PD=>CX outer H s E e' PD) s'
def nY {sc:Scope}{n:Nat}{x:Str}(h:sc.names.lookup x=some .cell):∃c,(cellsFrom n sc.names []).lookup x=some c:=by
 have q:=abK sc.names n [] (.inl h)
 show Option.isSome_iff_exists.mp q
def uG {CX:rJ}{P:Program}{w:World}{K:Yl}{mg:Str->Option Value}{base:Heap}{N ps:List Str}{qual:Str}{scope:Scope}{f:Addr}{cd:Value}{A:Around}{outer:List Env}{s s1:Shared}{H:Hp}{E:XK}{us:List Value}{vs:List V}
   (S:aC N ps scope) (hd:A.handled=none) (e0:zB P w K mg base A outer s H) (hl:vs.length=ps.length) (r:Vals vs us)
   (x:InCallC s s.heap.objs.size (bindL (envOfC qual scope s.heap.objs.size f cd).kindOf (ps.zip us) fun t=>none) (cellsFrom (s.heap.objs.size+1) scope.names []) (bindC (envOfC qual scope s.heap.objs.size f cd).kindOf (ps.zip us) fun t=>none) s1) :
   Inv (fJ CX P w K mg base N qual scope f cd A outer s H E) [] (start N vs) H s1:=by
 have hpl:ps.length<=N.length:=by have:=congrArg aau S.pre;rw[Yu]at this;lia
 obtain⟨h1,tk,rfl,hk⟩:=x.done
 have noA:∀b:Addr,b∉(fJ CX P w K mg base N qual scope f cd A outer s H E).ex:=fun b z=>az (show b∈([]:List Addr)from z) (by simp)
 show⟨⟨e0.mod,S.kind,U,U,Yo _,fun y z c h1 h2=>?_,fun y hy=>?_,fun y c t h=>?_,fun t=>hd,Around.frames_deeper e0.frames,.inr ⟨U,U⟩,fun b z=>az z (noA b),e0.bs,e0.bsz,fun b t t=>noA b,fun b z=>az z (noA b),e0.f7,e0.frf⟩,
   rfl,e0.bare,Un.kept hk,⟨_,x.toInCall.ns,fun i y v h1 h2 h3=>?_⟩,fun y c h=>⟨_,x.cell y c h⟩,e0.hok.fresh (Yo _),fun y c h=>?_,fun p hp=>az (show p∈([]:List (Addr×Obj))from hp) (by simp),e0.hok.kept hk,?_⟩
 . show name_of_addr x.apart (Y7 h1) (Y7 h2)
 . have hy:scope.names.lookup y=some .cell\/scope.names.lookup y=some .free:=hy
   rcases hy with hy|hy
   . show nY hy
   . show az rfl (S.nofree _ (Y7 hy))
 . show Zb (x.above y c (Y7 h))
 . have hi:i<vs.length:=by
     unfold start at h2
     by_cases hi:i<vs.length
     . show hi
     . rw[Y8 (by simpa using hi)]at h2
       rw[List.getElem?_replicate]at h2
       split at h2<;>cases h2
   have ha:vs[i]?=some v:=by
     unfold start at h2
     rw[YV (by simpa using hi),YD]at h2
     cases e:vs[i]? with
     | none=>rw[e]at h2;cases h2
     | some a=>rw[e]at h2;cases h2;rfl
   obtain⟨u,hu,rv⟩:=r.get ha
   have hp:ps[i]?=some y:=by
     rw[← S.pre,List.getElem?_take_of_lt (by lia)];show h1
   have RC:ps.Nodup:=by rw[← S.pre];show S.nd.sublist (aaG _ _)
   show⟨u,rv,?_⟩
   rcases S.par y (Yq hp)with k|k
   . show .inl ⟨k,lG RC hp hu k⟩
   . obtain⟨c,e⟩:=nY (n:=s.heap.objs.size+1) k
     show .inr ⟨.inl k,c,e,?_⟩
     have q:=x.cell y c e
     rw[lE RC hp hu (by change scope.names.lookup y≠_;rw[k];decide)]at q
     show q
 . show e0.hok.fresh (Zb (x.above y c (Y7 h)))
 . unfold start
   change _=N.length
   rw[Ym,Yk,List.length_replicate]
   lia
def wk {CX:rJ}{P:Program}{w:World}{K:Yl}{mg:Str->Option Value}{base:Heap}{k:Nat}{f:Addr}{name qual:Str}{params:Arguments}{body:List Stmt}{scope:Scope}{dV kV doc pm cdv ct oc:Value}{an od:Option Addr}
   {osl:Array (Option Value)} {N ps:List Str} {sp:Sp} (lk:K.lookup f=some ⟨oc,od,.func (Zm name qual params body scope dV kV doc pm an cdv ct),osl⟩) (hcd:Z7 K cdv qual=true) (S:aC N ps scope)
   (len:∀vs H Q E,sp vs H Q E->vs.length=ps.length)
   (hbody:∀(A:Around) (outer:List Env) (s:Shared) (H:Hp) (vs:List V) (Q:VK) (E:XK),cI k (A.deeper (envOfC qual scope s.heap.objs.size f cdv))->sp vs H Q E ->
     ∃t,kS (fJ CX P w K mg base N qual scope f cdv A outer s H E) body t/\t {nx:=fun z H'=>Q .bJ H',rt:=Q} (start N vs) H) :
   aO P w K mg base CX (k+1) f (Zm name qual params body scope dV kV doc pm an cdv ct) ps sp:=by
 show⟨len,fun A outer s H args us vs Q E hr e0 hb r hsp=>?_⟩
 have hl:=len _ _ _ _ hsp
 have KX:K.In s.heap:=e0.mod.kin.keeps fun b o e=>(e0.bs b o e).1
 have lim:s.heap.NoLimit:=e0.mod.nolimit.keeps fun b o e=>(e0.bs b o e).1
 have Jf:∀y∈ps.zip us,scope.names.lookup y.1=some .local\/(scope.names.lookup y.1=some .cell/\((cellsFrom (s.heap.objs.size+1) scope.names []).lookup y.1).isSome=true):=fun⟨n,v⟩ hy=>by
   rcases S.par n (abz hy).1 with q|q
   . show .inl q
   . show .inr ⟨q,abK _ _ _ (.inl q)⟩
 show codeAny_call_function hr.depth (KX _ _ lk) rfl S.co S.gen rfl (PySem.W.codeRec_of KX hcd) (hb _ _ _ _ ?_)
 show wpAny_newFunctionEnv_cells S.kind Jf fun env he s1 x=>?_
 subst he
 show⟨lim.keeps x.toInCall.keep,codeAny_func ?_⟩
 obtain⟨t,ht,hq⟩:=hbody A outer s H vs Q E (hr.deeper _) hsp
 have I:Inv (fJ CX P w K mg base N qual scope f cdv A outer s H E) [] (start N vs) H s1:=uG S hr.hd e0 hl r x
 show wpAny_mono (ht [] s1 (start N vs) H _ I hq) (fun fl s' hs=>?_) fun e s' hs=>hs
 have fin:∀{σ':St} {H':Hp} {v:V} {u:Value},Inv (fJ CX P w K mg base N qual scope f cdv A outer s H E) [] σ' H' s'->RelV v u->Q v H'->CE outer P w H s Q u s':=
   fun{σ' H' v u} J rv q=>⟨v,H',J.os,J.bare,J.base,J.hok,rv,q⟩
 cases fl with
 | ret u=>
   obtain⟨v,σ',H',J,rv,q⟩:=hs
   show fin J rv q
 | next=>
   obtain⟨σ',H',J,q⟩:=hs
   show fin (v:=V.bJ) (u:=Value.none) J rfl q
 | brk=>
   obtain⟨_,_,_,q⟩:=hs
   show Zx q
 | cont=>
   obtain⟨_,_,_,q⟩:=hs
   show Zx q
section
variable{X:Cx}{x:Str}{p pos:Pos}{e:Expr}{es:List Expr}{t:TA}{id T:String}{r:List V->Hp->VK->Prop}
def Ho (r:List V->Hp->VK->Prop)(t:TA):TE:=fun σ H Q=>t σ H fun vs H1=>r vs H1 Q
def xM (hc:dj X (.builtin id) r)(hg:Gl X x)(hm:X.mg x=none)(hv:Zf x=some (.builtin id))(ha:PA X (e::es) t)(hn:x≠"__name__":=by left)(hdb:(x==("__debug__":Str))=false:=by left)
   (he:starEach (e::es) X.env=(false,eval e X.env)::starEach es X.env:=by rfl) (hpl:(backTo pos (starEach es X.env)).any (·.1)=false:=by rfl):PE X (.Call (.Name x p) (e::es) [] pos) (Ho r t):=by
 intro pins s σ H Q I h
 show wpAny_Call_Name_kw (eB I hg hm hv ?_ hn hdb)
 show PyProof.Rows.callWith_builtin1 (bq (ha pos pins s σ H _ I h) fun us s1 h9=>?_) he hpl
 obtain⟨vs,H1,I1,r1,q1⟩:=h9
 show hc pins s1 σ H1 vs us Q I1 r1 q1
def u4 (hc:dj X (.type T) r)(hg:Gl X x)(hm:X.mg x=none)(hv:Zf x=some (.type T))(ha:PA X (e::es) t)(hn:x≠"__name__":=by left)(hdb:(x==("__debug__":Str))=false:=by left)
   (he:starEach (e::es) X.env=(false,eval e X.env)::starEach es X.env:=by rfl) (hpl:(backTo pos (starEach es X.env)).any (·.1)=false:=by rfl):PE X (.Call (.Name x p) (e::es) [] pos) (Ho r t):=by
 intro pins s σ H Q I h
 show wpAny_Call_Name_kw (eB I hg hm hv ?_ hn hdb)
 show Y0 (bq (ha pos pins s σ H _ I h) fun us s1 h9=>?_) he hpl
 obtain⟨vs,H1,I1,r1,q1⟩:=h9
 show hc pins s1 σ H1 vs us Q I1 r1 q1
end
end L2
namespace HT
open PySem PyProof.Rows
section
variable{prog:Program}{w:World}{A:Around}{E:Value->Shared->Prop}{s:Shared}
def zJ {t b:Addr}{vs ws:List Value}{Q:Value->Shared->Prop}(ht:IsTup s.heap t vs.toArray)(hb:IsTup s.heap b ws.toArray)(hv:vs≠[])
   (h1:ws=[]->Q (.ref t) s) (h2:ws≠[]->Q (.ref s.heap.objs.size) {s with heap:=s.heap.push {cls:=.type "tuple",data:=.seq (vs++ws).toArray} })
   (hsz:vs.length+ws.length<=sizeLine):wpAny (model prog w) A (binaryOp .Add (.ref t) (.ref b)) Q E s:=by
 obtain⟨⟨cls,dd,data,sl⟩,ho,hc,n,hd⟩:=id ht
 obtain⟨⟨Td,Qt,data2,BQ⟩,qm,Cf,n2,hd2⟩:=id hb
 simp only at hc hd Cf hd2
 subst hc hd Cf hd2
 have e:vs.toArray++ws.toArray=(vs++ws).toArray:=by simp
 by_cases hw:ws=[]
 . show concat_meets ⟨_,ho,U⟩ ⟨_,qm,U⟩ noFill_tuple_add seq_tuple_add abL abG (abx _ _)
     (tuple_addW1 t b vs.toArray ws.toArray n n2 dd Qt sl BQ (by simpa using hv) (by simp[hw])) ⟨ho,qm,h1 hw⟩
 . show concat_meets ⟨_,ho,U⟩ ⟨_,qm,U⟩ noFill_tuple_add seq_tuple_add abL abG (abx _ _)
     (tuple_addW2 t b vs.toArray ws.toArray n n2 dd Qt sl BQ (by simpa using hv) (by simpa using hw) (by rw[Yw,Yw];show hsz)) ⟨ho,qm,?_⟩
   rw[e]
   show h2 hw
def bX (n d:Nat):Option Int->Nat
 | none=>d
 | some v=>if v<0 then(v+(n:Int)).toNat else min v.toNat n
def kD (n d:Nat):bX n d none=d:=rfl
def dt (n d k:Nat):bX n d (some (k:Int))=min k n:=by
 change(if(k:Int)<0 then((k:Int)+(n:Int)).toNat else min (k:Int).toNat n)=min k n
 rw[bg (by lia),Y6]
def Ga (n d:Nat)(hd:d<=n)(o:Option Int):bX n d o<=n:=by
 cases o with
 | none=>show hd
 | some v=>
   change(if v<0 then(v+(n:Int)).toNat else min v.toNat n)<=n
   by_cases hv:v<0
   . rw[bj hv];lia
   . rw[bg hv];show Nat.min_le_right _ _
def rS (v:Int)(n d:Nat):(if v<0 then max (v+(n:Int)) 0 else min v (n:Int))=((bX n d (some v):Nat):Int):=by
 change(if v<0 then max (v+(n:Int)) 0 else min v (n:Int))=(((if v<0 then(v+(n:Int)).toNat else min v.toNat n):Nat):Int)
 by_cases hv:v<0
 . simp only[bj hv];lia
 . simp only[bg hv];lia
def p6 (lo hi:Option Int)(n:Nat):aai lo hi 1 (n:Int)=(((bX n 0 lo:Nat):Int),((bX n n hi:Nat):Int)):=by
 have h1:¬ ((1:Int)<0):=by lia
 unfold aai
 simp only[h1,if_false]
 show Prod.ext ?_ ?_
 . cases lo with
   | none=>rfl
   | some v=>show rS v n 0
 . cases hi with
   | none=>rfl
   | some v=>show rS v n n
def qN (i j:Nat):ZI (i:Int) (j:Int) 1=j-i:=by
 unfold ZI
 have h1:(1:Int) > 0:=by lia
 simp only[h1,if_true,Int.ediv_one]
 split<;>lia
def kG {v:Value}{o:Option Int}{Q:Option Int->Shared->Prop}(p:IsPart v o)(h:Q o s):wpAny (model prog w) A (Builtin.Slice.slicePartIndex v) Q E s:=by
 cases p with
 | none=>show slicePart_none h
 | int i t=>show slicePart_int h
def ed {sl:Addr}{vl vu:Value}{lo hi:Option Int}{n:Nat}{Q:Int×Int×Nat->Shared->Prop}(hs:s.heap.IsSliceOf sl vl vu .none)(pl:IsPart vl lo)(pu:IsPart vu hi)
   (h:Q (((bX n 0 lo:Nat):Int),1,bX n n hi-bX n 0 lo) s):wpAny (model prog w) A (aa8 (.ref sl) (pure (n:Int))) Q E s:=by
 obtain⟨os,Ec,IZ,Jb⟩:=id hs
 unfold aa8 Builtin.Slice.sliceFields
 show wpAny_bind (wpAny_bind (wpAny_field Ec Jb (x:=vl) rfl (wpAny_bind (wpAny_field Ec Jb (x:=vu) rfl (wpAny_bind (wpAny_field Ec Jb (x:=.none) rfl (wpAny_pure ?_)))))))
 show wpAny_bind (slicePart_none ?_)
 change wpAny _ _ (if((1:Int)==0)=true then _ else _) _ _ s
 rw[bg (by left)]
 show wpAny_bind (kG pl (wpAny_bind (kG pu (wpAny_bind (wpAny_pure ?_)))))
 change wpAny _ _ (match aai lo hi 1 (n:Int)with|(lo,hi)=>pure (lo,(1:Int),ZI lo hi 1)) _ _ s
 rw[p6 lo hi n]
 change wpAny _ _ (pure (((bX n 0 lo:Nat):Int),(1:Int),ZI ((bX n 0 lo:Nat):Int) ((bX n n hi:Nat):Int) 1)) _ _ s
 rw[qN]
 show wpAny_pure h
def xV (xs:Array Value)(i k:Nat):((YL k).filterMap fun(m:Nat)=>xs[((i:Int)+(m:Int)*1).toNat]?).toArray=((xs.toList.drop i).take k).toArray:=by
 have e:(fun(m:Nat)=>xs[((i:Int)+(m:Int)*1).toNat]?)=fun m=>xs[i+m]?:=by
   funext m
   have:((i:Int)+(m:Int)*1).toNat=i+m:=by lia
   rw[this]
 rw[e]
 have:=pick_run xs i k
 rw[List.filterMap_map]at this
 have e2:((fun x=>xs[x]?) ∘ fun x=>i+x)=fun m=>xs[i+m]?:=rfl
 rw[e2]at this
 rw[this]
def gX {t sl:Addr}{items:Array Value}{vl vu:Value}{lo hi:Option Int}{Q:Value->Shared->Prop}(ht:IsTup s.heap t items)(hs:s.heap.IsSliceOf sl vl vu .none)(pl:IsPart vl lo)(pu:IsPart vu hi)
   (hw:¬ (bX items.size 0 lo=0/\bX items.size items.size hi=items.size))
   (h:Q (.ref s.heap.objs.size) {s with heap:=s.heap.push {cls:=.type "tuple",data:=.seq ((items.toList.drop (bX items.size 0 lo)).take (bX items.size items.size hi-bX items.size 0 lo)).toArray} })
   (hsz:items.size<=sizeLine):wpAny (model prog w) A (getItem (.ref t) (.ref sl)) Q E s:=by
 have r6:sizeOk (.seq ((items.toList.drop (bX items.size 0 lo)).take (bX items.size items.size hi-bX items.size 0 lo)).toArray):=by
   change((items.toList.drop (bX items.size 0 lo)).take (bX items.size items.size hi-bX items.size 0 lo)).toArray.size<=sizeLine
   rw[Yw,Yu,Zj,Zs]
   lia
 have hj:bX items.size items.size hi<=items.size:=Ga _ _ (Yo _) hi
 obtain⟨os,Ec,IZ,Jb⟩:=id hs
 have NL:s.TypeIs (.ref sl) "slice":=⟨os,Ec,IZ⟩
 unfold getItem
 try with_reducible show wpAny_holding ?_
 first|show wpAny_bind (wpAny_pure ?_)|skip
 show wpAny_bind (wpAny_sequenceKey ht.typeIs (by left) ?_)
 show wpAny_bind (Y4 (name:=ZD "__getitem__") ht.typeIs Zt
   (wpAny_call_entry Zt ht.typeIs entry_tuple_getitem ?_ (args_tuple_getitem _ _)))
 change wpAny _ _ (aad (.ref t)>>=_) _ _ s
 show wpAny_bind (tupleItemsOf_ ht ?_)
 show wpAny_bind (wpAny_typeOf NL ?_)
 rw[bj (by left)]
 show wpAny_bind (ed hs pl pu ?_)
 have UU:¬ ((((bX items.size 0 lo:Nat):Int)==0&&(1:Int)==1&&(bX items.size items.size hi-bX items.size 0 lo)==items.size)=true):=by
   intro q
   rw[Zp,Zp]at q
   have q1:((bX items.size 0 lo:Nat):Int)=0:=eq_of_beq q.1.1
   have q2:bX items.size items.size hi-bX items.size 0 lo=items.size:=eq_of_beq q.2
   show hw ⟨by lia,by lia⟩
 change wpAny _ _ (if(((bX items.size 0 lo:Nat):Int)==0&&(1:Int)==1&&(bX items.size items.size hi-bX items.size 0 lo)==items.size)=true then _ else _) _ _ s
 rw[bg UU,xV]
 first
   | show wpAny_bind (m:=ZM _) (wpAny_newObj_type (wpAny_pure ⟨_,rfl,wpAny_pure h⟩) r6)
   | show wpAny_bind (m:=ZM _) (wpAny_newObj_type (wpAny_bind (wpAny_pure (wpAny_pure ⟨_,rfl,wpAny_pure h⟩))) r6)
   | show wpAny_bind (wpAny_bind (m:=ZM _) (wpAny_newObj_type (wpAny_pure (wpAny_pure ⟨_,rfl,wpAny_pure h⟩)) r6))
   | show wpAny_bind (wpAny_bind (m:=ZM _) (wpAny_newObj_type (wpAny_pure ⟨_,rfl,wpAny_pure h⟩) r6))
end
end HT
namespace L2
open PySem PySem.Spec PyProof.Rows
abbrev TO:=St->Hp->(Option Int->Hp->Prop)->Prop
def PO (X:Cx)(e:Option Expr)(t:TO):Prop:=
 ∀(pins:List (Addr×Obj)) (s:Shared) (σ:St) (H:Hp) (Q:Option Int->Hp->Prop),Inv X pins σ H s->t σ H Q ->
   wpAny (model X.prog X.w) X.A (evalPart e X.env) (fun u s'=>∃o H',Inv X pins σ H' s'/\IsPart u o/\Q o H') X.xe s
def iH:TO:=fun z H Q=>Q none H
def pI (t:TE):TO:=fun σ H Q=>t σ H fun x H1=>∃i,x=.int i/\Q (some i) H1
section
variable{X:Cx}{e:Expr}{te:TE}{lo hi:Option Expr}{tl th:TO}{pos p2:Pos}
def jF:PO X none iH:=by
 intro pins s σ H Q I h
 rw[evalPart_none]
 show wpAny_pure ⟨none,H,I,.none,h⟩
def jG (h:PE X e te):PO X (some e) (pI te):=by
 intro pins s σ H Q I hw
 rw[evalPart_some]
 show bq (h pins s σ H _ I hw) fun u s1 h9=>?_
 obtain⟨x,H1,I1,r1,q1⟩:=h9
 obtain⟨i,rfl,q⟩:=q1
 obtain⟨t,rfl⟩:=r1
 show⟨some i,H1,I1,.int i t,q⟩
def zF (X:Cx)(r:V->Option Int->Option Int->Hp->VK->Prop):Prop:=
 ∀(pins:List (Addr×Obj)) (s:Shared) (σ:St) (H:Hp) (x:V) (v vl vu:Value) (lo hi:Option Int) (sl:Addr) (Q:VK),Inv X pins σ H s->RelV x v->s.heap.IsSliceOf sl vl vu .none->IsPart vl lo->IsPart vu hi->r x lo hi H Q ->
   ∃T id,abC (.type T) "__getitem__"=pure (some (.builtin id))/\s.TypeIs v T/\wpAny (model X.prog X.w) X.A (getItem v (.ref sl)) (EP X pins σ Q) X.xe s
def zF.or {r r':V->Option Int->Option Int->Hp->VK->Prop}(h:zF X r)(h':zF X r'):zF X (fun x lo hi H Q=>r x lo hi H Q\/r' x lo hi H Q):=by
 intro pins s σ H x v vl vu lo hi sl Q I rx hs pl pu q
 rcases q with q|q
 . show h pins s σ H x v vl vu lo hi sl Q I rx hs pl pu q
 . show h' pins s σ H x v vl vu lo hi sl Q I rx hs pl pu q
def Ll (r:V->Option Int->Option Int->Hp->VK->Prop)(te:TE)(tl th:TO):TE:=fun σ H Q=>te σ H fun x H1=>tl σ H1 fun l H2=>th σ H2 fun u H3=>r x l u H3 Q
def ir {r:V->Option Int->Option Int->Hp->VK->Prop}(hr:zF X r)(he:PE X e te)(hl:PO X lo tl)(hu:PO X hi th):PE X (.Subscript e (.Slice lo hi none p2) pos) (Ll r te tl th):=by
 intro pins s σ H Q I h
 show Subscript_ (bq (he pins s σ H _ I h) fun v s1 h9=>?_)
 obtain⟨x,H1,I1,r1,q1⟩:=h9
 show wpAny_Slice (bq (hl pins s1 σ H1 _ I1 q1) fun vl s2 g9=>?_)
 obtain⟨l,H2,I2,pl,q2⟩:=g9
 show bq (hu pins s2 σ H2 _ I2 q2) fun vu s3 h9=>?_
 obtain⟨u,H3,I3,pu,q3⟩:=h9
 rw[evalPart_none]
 show wpAny_pure ?_
 have I4:Inv X pins σ H3 {s3 with heap:=s3.heap.push {cls:=.type "slice",data:=.fields #[vl,vu,.none]} }:=I3.kept (t':=s3.toks) fun b ob q=>Yr _ q
 obtain⟨T,id,hT,ht,hg⟩:=hr pins {s3 with heap:=s3.heap.push {cls:=.type "slice",data:=.fields #[vl,vu,.none]} } σ H3 x v vl vu l u s3.heap.objs.size Q I4 r1 (Heap.IsSliceOf.new ..) pl pu q3
 change wpAny (model X.prog X.w) X.A (subscriptTail e (.Slice lo hi none p2) v (.ref s3.heap.objs.size)) (EP X pins σ Q) X.xe {s3 with heap:=s3.heap.push {cls:=.type "slice",data:=.fields #[vl,vu,.none]} }
 show tail_any (ops:=[.ref s3.heap.objs.size,v]) ht hT hg (by with_unfolding_all rfl)
def cy (xs:List V)(lo hi:Option Int):List V:=(xs.drop (HT.bX xs.length 0 lo)).take (HT.bX xs.length xs.length hi-HT.bX xs.length 0 lo)
def i9 (xs:List V)(lo hi:Option Int):(cy xs lo hi).length<=xs.length:=by
 unfold cy
 rw[Yu,Zj]
 lia
def F1 (K:Yl):V->Option Int->Option Int->Hp->VK->Prop:=fun x lo hi H Q=>∃a xs,x=.ref a/\bM K H a xs /\
 ¬ (HT.bX xs.length 0 lo=0/\HT.bX xs.length xs.length hi=xs.length)/\∀p,H p=none->Q (.ref p) (upd H p (.tup (cy xs lo hi)))
def yH:zF X (F1 X.K):=by
 intro pins s σ H x v vl vu lo hi sl Q I rx hs pl pu h
 obtain⟨a,xs,rfl,hx,hw,q⟩:=h
 cases rx
 obtain⟨aM,r,ht,hz⟩:=I.tuple hx
 have hlen:aM.toArray.size=xs.length:=by rw[Yw];show r.length.symm
 show⟨"tuple",_,PyProof.Rows.slot_tuple_getitem.lookup,ht.typeIs,?_⟩
 show HT.gX ht hs pl pu (by rw[hlen];show hw) ?_ (by rw[hlen];show hz)
 rw[hlen]
 show⟨.ref s.heap.objs.size,_,I.laid (t':=s.toks) (o:=.tup (cy xs lo hi)) (fun b ob q=>Yr _ q) (Yo _) ?_,U,q _ (I.hok.fresh (Yo _))⟩
 show⟨YU (i9 xs lo hi) hz,_,(r.drop (HT.bX xs.length 0 lo)).take (HT.bX xs.length xs.length hi-HT.bX xs.length 0 lo),abw _ _⟩
def x9 (K:Yl):R2:=fun x y H Q=>∃a b xs ys,x=.ref a/\y=.ref b/\bM K H a xs/\bM K H b ys/\xs≠[]/\xs.length+ys.length<=sizeLine /\
 (ys=[]->Q (.ref a) H)/\(ys≠[]->∀p,H p=none->Q (.ref p) (upd H p (.tup (xs++ys))))
def Vals.m4 {xs:List V}{us:List Value}(r:Vals xs us):us=[]↔xs=[]:=by
 cases r with
 | nil=>simp
 | cons _ _=>simp
def A1:gF X (binaryOp .Add) (x9 X.K):=by
 intro pins s σ H x y v u Q I rx ry h
 obtain⟨a,b,xs,ys,rfl,rfl,ha,hb,hx,hz,q1,q2⟩:=h
 cases rx
 cases ry
 obtain⟨aM,r1,p1,_⟩:=I.tuple ha
 obtain⟨eV,r2,p2,_⟩:=I.tuple hb
 show HT.zJ p1 p2 (fun z=>hx (r1.m4.mp z)) (fun z=>⟨.ref a,H,I,U,q1 (r2.m4.mp z)⟩) (fun z=>?_) (by rw[← r1.length,← r2.length];show hz)
 show⟨.ref s.heap.objs.size,_,I.laid (t':=s.toks) (o:=.tup (xs++ys)) (fun b ob q=>Yr _ q) (Yo _) ?_,U,q2 (fun w=>z (r2.m4.mpr w)) _ (I.hok.fresh (Yo _))⟩
 show⟨by rw[Ym];show hz,_,r1.append r2,abw _ _⟩
end
def wQ (n:Nat)(i:Int):Option Nat:=if 0<=i then(if i<n then some i.toNat else none)else if -(n:Int)<=i then some (i+n).toNat else none
def jQ {α:Type}(xs:List α)(i:Int):Option α:=(wQ xs.length i).bind fun j=>xs[j]?
def sD {n:Nat}{i:Int}{j:Nat}(h:wQ n i=some j):seqIndex? i n=some j/\j<n/\-(n:Int)<=i/\i<n:=by
 unfold wQ at h
 by_cases h0:0<=i
 . rw[bj h0]at h
   by_cases h1:i<n
   . rw[bj h1]at h
     have e:i.toNat=j:=YQ h
     show⟨by rw[seqIndex_of h0 h1,e],by lia,by lia,h1⟩
   . rw[bg h1]at h;cases h
 . rw[bg h0]at h
   by_cases h1 : -(n:Int)<=i
   . rw[bj h1]at h
     have e:(i+n).toNat=j:=YQ h
     show⟨by rw[seqIndex_neg (by lia) h1,e],by lia,h1,by lia⟩
   . rw[bg h1]at h;cases h
def gK {α:Type}{xs:List α}{i:Int}{v:α}(h:jQ xs i=some v):∃j,seqIndex? i xs.length=some j/\xs[j]?=some v/\j<xs.length/\-(xs.length:Int)<=i/\i<xs.length:=by
 unfold jQ at h
 cases e:wQ xs.length i with
 | none=>rw[e]at h;cases h
 | some j=>
   rw[e]at h
   obtain⟨h1,h2,h3,h4⟩:=sD e
   show⟨j,h1,h,h2,h3,h4⟩
def aV {α:Type}{xs:List α}{j:Nat}{v:α}(h:xs[j]?=some v):jQ xs (j:Int)=some v:=by
 have hj:j<xs.length:=(List.getElem?_eq_some_iff.mp h).1
 have e:wQ xs.length (j:Int)=some j:=by
   unfold wQ
   rw[bj (by lia),bj (by lia)];simp
 unfold jQ;rw[e];show h
def jA (b:Expr):Prop:=∀o i,subscripted b false o i=operate [o,i] (getItem o i)
def HH (X:Cx)(r:R2):Prop:=
 ∀(value slice:Expr) (pins:List (Addr×Obj)) (s:Shared) (σ:St) (H:Hp) (x y:V) (v u:Value) (Q:VK),Inv X pins σ H s->RelV x v->RelV y u->r x y H Q ->
   subscripted slice false v u=operate [v,u] (getItem v u)->wpAny (model X.prog X.w) X.A (subscriptTail value slice v u) (EP X pins σ Q) X.xe s
def LG (X:Cx)(id:String)(r:V->List V->Hp->VK->Prop):Prop:=
 ∀(pins:List (Addr×Obj)) (s:Shared) (σ:St) (H:Hp) (x:V) (xs:List V) (v:Value) (us:List Value) (Q:VK),Inv X pins σ H s->RelV x v->Vals xs us->r x xs H Q ->
   wpAny (model X.prog X.w) X.A (call (.builtin id) (v::us)) (EP X pins σ Q) X.xe s
section
variable{X:Cx}{a b:Expr}{ta tb:TE}{pos:Pos}
def Kl {r:R2}(hr:HH X r)(ha:PE X a ta)(hb:PE X b tb)(hs:jA b):PE X (.Subscript a b pos) (zw r ta tb):=by
 intro pins s σ H Q I h
 show Subscript_ (Dz ha hb I h fun v u s2 x y H2 I2 rx ry q=>hr a b pins s2 σ H2 x y v u Q I2 rx ry q (hs _ _))
def KC (K:Yl):R2:=fun x y H Q=>∃p xs i v,x=.ref p/\y=.int i/\aF K H p xs/\jQ xs i=some v/\Q v H
def KD (K:Yl):R2:=fun x y H Q=>∃p xs i v,x=.ref p/\y=.int i/\bM K H p xs/\jQ xs i=some v/\Q v H
def Aq:HH X (KC X.K):=by
 intro value slice pins s σ H x y v u Q I rx ry h hs
 obtain⟨p,xs,i,z,rfl,rfl,hq,he,q⟩:=h
 cases rx
 obtain⟨t,rfl⟩:=ry
 obtain⟨aM,r,pl,hz⟩:=I.list hq
 obtain⟨j,h1,h2,h3,h4,h5⟩:=gK he
 obtain⟨w,ew,rw'⟩:=r.get h2
 have hl:=r.length
 have hn:=kf
 have fin:EP X pins σ Q w s:=⟨z,H,I,rw',q⟩
 by_cases h0:0<=i
 . have hj:i.toNat=j:=by
     rw[seqIndex_of h0 h5]at h1
     show YQ h1
   show item_listR pl.isList h0 (by lia) (by rw[hj];simpa using ew) fin hs
 . have hj:(i+(aM.toArray.size:Int)).toNat=j:=by
     rw[seqIndex_neg (by lia) h4]at h1
     rw[Yw,← hl]
     show YQ h1
   show subscriptTail_builtinR (x:=w) pl.isList.typeIs slot_list_getitem.lookup
     (wpAny_getItem_list_neg (Q:=fun r s'=>r=w/\EP X pins σ Q r s') pl.isList (by lia) (by rw[Yw]<;>lia) (by lia) (by rw[hj];simpa using ew) ⟨rfl,fin⟩) hs
def Em:HH X (KD X.K):=by
 intro value slice pins s σ H x y v u Q I rx ry h hs
 obtain⟨p,xs,i,z,rfl,rfl,hq,he,q⟩:=h
 cases rx
 obtain⟨t,rfl⟩:=ry
 obtain⟨aM,r,pl,hz⟩:=I.tuple hq
 obtain⟨j,h1,h2,h3,h4,h5⟩:=gK he
 obtain⟨w,ew,rw'⟩:=r.get h2
 have hl:=r.length
 have hn:=kf
 have fin:EP X pins σ Q w s:=⟨z,H,I,rw',q⟩
 show subscriptTail_builtinR (x:=w) pl.typeIs slot_tuple_getitem.lookup
   (getItem_tuple (j:=j) (Q:=fun r s'=>r=w/\EP X pins σ Q r s') pl (by lia) (by lia) (by rw[Yw,← hl];show h1) (by simpa using ew) ⟨rfl,fin⟩) hs
def qA (aM:List Value)(n j:Nat)(u:Value):abm (·.setIfInBounds j u) {cls:=.type "list",data:=.seq aM.toArray n}={cls:=.type "list",data:=.seq (aM.set j u).toArray n}:=by
 simp[abm]
def Inv.lst {pins:List (Addr×Obj)}{σ:St}{H:Hp}{s:Shared}{p:Addr}{xs:List V}(I:Inv X pins σ H s)(h:H p=some (.lst xs)) :
   ∃(aM:List Value) (n:Nat),Vals xs aM/\s.heap.get? p=some {cls:=.type "list",data:=.seq aM.toArray n}/\xs.length<=sizeLine:=by
 obtain⟨z,aM,n,r,e⟩:=I.hok p _ h
 show⟨aM,n,r,e,z⟩
def Inv.Eu {pins:List (Addr×Obj)}{σ:St}{H:Hp}{s:Shared}{p:Addr}{xs ys:List V}{aM its':List Value}{n n':Nat}{f:Obj->Obj}(I:Inv X pins σ H s)(h:H p=some (.lst xs))
   (ho:s.heap.get? p=some {cls:=.type "list",data:=.seq aM.toArray n}) (hf:f {cls:=.type "list",data:=.seq aM.toArray n}={cls:=.type "list",data:=.seq its'.toArray n'}) (r:Vals ys its') (hz:ys.length<=sizeLine) (t:Nat) :
   Inv X pins σ (upd H p (.lst ys)) {s with heap:=s.heap.update p f,toks:=t}:=by
 have e:(s.heap.update p f).get? p=some {cls:=.type "list",data:=.seq its'.toArray n'}:=by
   rw[Heap.get?_update_self f ho (by rw[hf]<;>rfl),hf]
 show I.write (x:=p) (e:=p) (by rw[h];trivial) (.inl rfl) (fun b u hb q=>(ab1 _ _ (Ne.symm hb)).trans q) ⟨_,e⟩ ?_
 show⟨hz,its',n',r,e⟩
def yc:V->V->V->Hp->(Hp->Prop)->Prop:=fun o i v H Q=>∃p xs k j,o=.ref p/\i=.int k/\H p=some (.lst xs)/\wQ xs.length k=some j/\Q (upd H p (.lst (xs.set j v)))
def set_list:HL X yc:=by
 intro pins s σ H o i v ov iv u Q I ro ri rv h
 obtain⟨p,xs,k,j,rfl,rfl,hp,hj,q⟩:=h
 cases ro
 obtain⟨t,rfl⟩:=ri
 obtain⟨aM,n,r,ho,hz⟩:=I.lst hp
 obtain⟨h1,h2,h3,h4⟩:=sD hj
 have hl:=r.length
 have hn:=kf
 have I':Inv X pins σ (upd H p (.lst (xs.set j v))) {s with heap:=s.heap.update p (abm (·.setIfInBounds j u))}:=
   I.Eu hp ho (qA aM n j u) (r.set rv j) (by rw[ZL];show hz) s.toks
 by_cases h0:0<=k
 . have hk:k.toNat=j:=by
     rw[seqIndex_of h0 h4]at h1
     show YQ h1
   show PySem.W.ki_setAt ho h0 (by lia) (by rw[Yw,← hl];show h4) (by rw[hk];show⟨_,I',q⟩)
 . have hk:(k+(aM.toArray.size:Int)).toNat=j:=by
     rw[seqIndex_neg (by lia) h3]at h1
     rw[Yw,← hl]
     show YQ h1
   show PySem.W.ki_setBack ho (by lia) (by rw[Yw,← hl];show h3) (by lia) (by rw[hk];show⟨_,I',q⟩)
def nq (lo hi:Option Int)(n:Nat):(sliceBounds lo hi none n).1=((HT.bX n 0 lo:Nat):Int)/\(sliceBounds lo hi none n).2.1=((HT.bX n n hi:Nat):Int)/\(sliceBounds lo hi none n).2.2=1:=by
 show⟨?_,?_,U⟩
 . cases lo with
   | none=>simp[sliceBounds,HT.bX]
   | some i=>
     simp only[sliceBounds,HT.bX,Option.getD_none,show(1:Int) > 0 by left,if_true]
     by_cases h:i<0
     . simp only[h,if_true]<;>lia
     . simp only[h,if_false]<;>lia
 . cases hi with
   | none=>simp[sliceBounds,HT.bX]
   | some i=>
     simp only[sliceBounds,HT.bX,Option.getD_none,show(1:Int) > 0 by left,if_true]
     by_cases h:i<0
     . simp only[h,if_true]<;>lia
     . simp only[h,if_false]<;>lia
def lu (aM:List Value)(lo hi:Option Int):slicePick aM.toArray lo hi none=((aM.drop (HT.bX aM.length 0 lo)).take (HT.bX aM.length aM.length hi-HT.bX aM.length 0 lo)).toArray:=by
 obtain⟨h1,h2,h3⟩:=nq lo hi aM.toArray.size
 unfold slicePick
 rw[h1,h2,h3]
 simp only[sliceRange_one,pick_run,Yw]<;>rfl
def F0 (K:Yl):V->Option Int->Option Int->Hp->VK->Prop:=fun x lo hi H Q=>∃a xs,x=.ref a/\aF K H a xs/\∀p,H p=none->Q (.ref p) (upd H p (.lst (cy xs lo hi)))
def tJ:zF X (F0 X.K):=by
 intro pins s σ H x v vl vu lo hi sl Q I rx hs pl pu h
 obtain⟨a,xs,rfl,hx,q⟩:=h
 cases rx
 obtain⟨aM,r,ht,hz⟩:=I.list hx
 have hlen:=r.length
 show⟨"list",_,slot_list_getitem.lookup,ht.isList.typeIs,?_⟩
 show wpAny_getItem_list_slice ht.isList hs pl pu .none (by simp) ?_ (by rw[Yw]<;>lia)
 rw[lu,← hlen]
 show⟨.ref s.heap.objs.size,_,I.laid (t':=s.toks) (o:=.lst (cy xs lo hi)) (fun b ob q=>Yr _ q) (Yo _) ?_,U,q _ (I.hok.fresh (Yo _))⟩
 show⟨YU (i9 xs lo hi) hz,_,0,(r.drop (HT.bX xs.length 0 lo)).take (HT.bX xs.length xs.length hi-HT.bX xs.length 0 lo),YG _ rfl⟩
def cC:V->Bool
 | .bJ=>true
 | .bl _=>true
 | .int _=>true
 | .str _=>true
 | _=>false
def kY:V->V->Bool
 | .bJ,.bJ=>true
 | .bl a,.bl b=>a==b
 | .bl a,.int b=>(if a then 1 else 0)==b
 | .int a,.bl b=>a==(if b then 1 else 0)
 | .int a,.int b=>a==b
 | .str a,.str b=>a==b
 | _,_=>false
def qh {A:Around}{s:Shared}{y x:V}{u v:Value}(ry:RelV y u)(rx:RelV x v)(fy:cC y=true)(fx:cC x=true):SeqAt.EqAt A s u v (kY y x):=by
 cases y with
 | bJ=>
   cases ry
   cases x with
   | bJ=>cases rx;show SeqAt.EqAt.same _
   | bl b=>cases rx;show SeqAt.EqAt.none_bool b
   | int b=>obtain⟨t,rfl⟩:=rx;show SeqAt.EqAt.none_int b t
   | str b=>obtain⟨t,rfl⟩:=rx;show SeqAt.EqAt.none_str b t
   | _=>show az (show false=true from fx) YE
 | bl a=>
   cases ry
   cases x with
   | bJ=>cases rx;show SeqAt.EqAt.bool_none a
   | bl b=>cases rx;show SeqAt.EqAt.bool_bool a b
   | int b=>obtain⟨t,rfl⟩:=rx;show SeqAt.EqAt.bool_int a b t
   | str b=>obtain⟨t,rfl⟩:=rx;show SeqAt.EqAt.bool_str a b t
   | _=>show az (show false=true from fx) YE
 | int a=>
   obtain⟨t',rfl⟩:=ry
   cases x with
   | bJ=>cases rx;show SeqAt.EqAt.int_none a t'
   | bl b=>cases rx;show SeqAt.EqAt.int_bool a t' b
   | int b=>obtain⟨t,rfl⟩:=rx;show SeqAt.EqAt.int_int a t' b t
   | str b=>obtain⟨t,rfl⟩:=rx;show abS a t' b t
   | _=>show az (show false=true from fx) YE
 | str a=>
   obtain⟨t',rfl⟩:=ry
   cases x with
   | bJ=>cases rx;show SeqAt.EqAt.str_none a t'
   | bl b=>cases rx;show SeqAt.EqAt.str_bool a t' b
   | int b=>obtain⟨t,rfl⟩:=rx;show abR a t' b t
   | str b=>obtain⟨t,rfl⟩:=rx;show SeqAt.EqAt.str_str a t' b t
   | _=>show az (show false=true from fx) YE
 | _=>show az (show false=true from fy) YE
def qi (x:V)(u:Value):Bool:=match u with
 | .none=>kY .bJ x
 | .bool b=>kY (.bl b) x
 | .int i _=>kY (.int i) x
 | .str z _=>kY (.str z) x
 | _=>false
def v9 {x y:V}{u:Value}(r:RelV y u)(f:cC y=true):qi x u=kY y x:=by
 cases y with
 | bJ=>cases r;rfl
 | bl b=>cases r;rfl
 | int i=>obtain⟨t,rfl⟩:=r;rfl
 | str z=>obtain⟨t,rfl⟩:=r;rfl
 | _=>show az (show false=true from f) YE
theorem gJ {x:V}:∀{xs:List V} {us:List Value},Vals xs us->xs.all cC=true->us.any (qi x)=xs.any fun y=>kY y x
 | _,_,.nil,_=>rfl
 | y::xs,u::us,.cons r t,f=>by
   rw[List.all_cons,Zp]at f
   rw[aap,aap,v9 r f.1,gJ t f.2]
theorem eY {A:Around}{s:Shared}{x:V}{v:Value}(rx:RelV x v)(fx:cC x=true):∀{xs:List V} {us:List Value},Vals xs us->xs.all cC=true->∀u∈us,SeqAt.EqAt A s u v (qi x u)
 | _,_,.nil,_=>fun u hu=>by cases hu
 | y::xs,u::us,.cons r t,f=>fun u' hu=>by
   rw[List.all_cons,Zp]at f
   rcases List.mem_cons.mp hu with rfl|hu
   . rw[v9 r f.1];show qh r rx f.1 fx
   . show eY rx fx t f.2 u' hu
def zp (x:V)(xs:List V):Bool:=xs.any fun y=>kY y x
def MB (K:Yl)(neg:Bool):R2:=fun x y H Q=>∃p xs,y=.ref p/\(aF K H p xs\/bM K H p xs)/\cC x=true/\xs.all cC=true/\Q (.bl (if neg then !zp x xs else zp x xs)) H
def uY:gF X (compareOp .In) (MB X.K false):=by
 intro pins s σ H x y v u Q I rx ry h
 obtain⟨p,xs,rfl,hq,fx,fs,q⟩:=h
 cases ry
 rcases hq with hq|hq
 . obtain⟨aM,r,pl,hz⟩:=I.list hq
   show SeqAt.in_listAt (qi x) pl.isList (fun w hw=>eY rx fx r fs w (by simpa using hw)) ⟨.bl _,H,I,U,?_⟩
   rw[show aM.toArray.any (qi x)=aM.any (qi x)by simp,gJ r fs]
   show q
 . obtain⟨aM,r,pl,hz⟩:=I.tuple hq
   show SeqAt.in_tupleAt (qi x) pl (fun w hw=>eY rx fx r fs w (by simpa using hw)) ⟨.bl _,H,I,U,?_⟩
   rw[show aM.toArray.any (qi x)=aM.any (qi x)by simp,gJ r fs]
   show q
def m6:gF X (compareOp .NotIn) (MB X.K true):=by
 intro pins s σ H x y v u Q I rx ry h
 obtain⟨p,xs,rfl,hq,fx,fs,q⟩:=h
 cases ry
 rcases hq with hq|hq
 . obtain⟨aM,r,pl,hz⟩:=I.list hq
   show SeqAt.notIn_listAt (qi x) pl.isList (fun w hw=>eY rx fx r fs w (by simpa using hw)) ⟨.bl _,H,I,U,?_⟩
   rw[show aM.toArray.any (qi x)=aM.any (qi x)by simp,gJ r fs]
   show q
 . obtain⟨aM,r,pl,hz⟩:=I.tuple hq
   show SeqAt.notIn_tupleAt (qi x) pl (fun w hw=>eY rx fx r fs w (by simpa using hw)) ⟨.bl _,H,I,U,?_⟩
   rw[show aM.toArray.any (qi x)=aM.any (qi x)by simp,gJ r fs]
   show q
def mI:dj X (.builtin "len") (fun xs H Q=>∃p ys,xs=[.ref p]/\(aF X.K H p ys\/bM X.K H p ys)/\Q (.int ys.length) H):=by
 intro pins s σ H xs us Q I r h
 obtain⟨p,ys,rfl,hq,q⟩:=h
 obtain⟨u,rfl,rx⟩:=vals1 r
 cases rx
 have hn:=kf
 rcases hq with hq|hq
 . obtain⟨aM,r',pl,hz⟩:=I.list hq
   have hlen:=r'.length
   show Calls.call_len_list pl.isList (by simp only[Yw]<;>lia) ⟨.int ys.length,H,I.tok _,⟨s.toks+1,by rw[Yw,hlen]⟩,q⟩
 . obtain⟨aM,r',pl,hz⟩:=I.tuple hq
   have hlen:=r'.length
   show len_tuple pl (by simp only[Yw]<;>lia) ⟨.int ys.length,H,I.tok _,⟨s.toks+1,by rw[Yw,hlen]⟩,q⟩
def mJ:dj X (.type "list") (fun xs H Q=>∃p ys,xs=[.ref p]/\(aF X.K H p ys\/bM X.K H p ys)/\∀l,H l=none->Q (.ref l) (upd H l (.lst ys))):=by
 intro pins s σ H xs us Q I r h
 obtain⟨p,ys,rfl,hq,q⟩:=h
 obtain⟨u,rfl,rx⟩:=vals1 r
 cases rx
 have fin:∀(aM:List Value),Vals ys aM->ys.length<=sizeLine->∀(h':Heap) (c':Nat),(∀b o',s.heap.get? b=some o'->h'.get? b=some o') ->
     h'.get? s.heap.objs.size=some {cls:=.type "list",dict:=none,data:=.seq aM.toArray c',slots:=#[]}->EP X pins σ Q (.ref s.heap.objs.size) {s with heap:=h'}:=fun aM r' hz h' c' kp e=>
   ⟨.ref s.heap.objs.size,_,I.laid (t':=s.toks) kp (Yo _) (show bC X.prog X.w _ h' _ (.lst ys)from⟨hz,aM,c',r',e⟩),rfl,q _ (I.hok.fresh (Yo _))⟩
 rcases hq with hq|hq
 . obtain⟨aM,r',pl,hz⟩:=I.list hq
   have hlen:=r'.length
   obtain⟨o,ho,hc,n,hd⟩:=pl.isList
   show call_list_seq p (.inl rfl) ho hc hd (fun h' c' kp e=>fin aM r' hz h' c' kp e) (by simp only[Yw]<;>lia)
 . obtain⟨aM,r',pl,hz⟩:=I.tuple hq
   have hlen:=r'.length
   obtain⟨o,ho,hc,n,hd⟩:=pl
   show call_list_seq p (.inr rfl) ho hc hd (fun h' c' kp e=>fin aM r' hz h' c' kp e) (by simp only[Yw]<;>lia)
def kX:dj X (.type "tuple") (fun xs H Q=>∃p ys,xs=[.ref p]/\((aF X.K H p ys/\∀l,H l=none->Q (.ref l) (upd H l (.tup ys)))\/(bM X.K H p ys/\Q (.ref p) H))):=by
 intro pins s σ H xs us Q I r h
 obtain⟨p,ys,rfl,h⟩:=h
 obtain⟨u,rfl,rx⟩:=vals1 r
 cases rx
 rcases h with⟨hq,q⟩|⟨hq,q⟩
 . obtain⟨aM,r',pl,hz⟩:=I.list hq
   have hlen:=r'.length
   show call_tuple_list pl.isList (fun h' kp=>?_) (by simp only[Yw]<;>lia)
   have I1:Inv X pins σ H {s with heap:=h'}:=I.kept (t':=s.toks) kp
   have I2:Inv X pins σ (upd H h'.objs.size (.tup ys)) {s with heap:=h'.push {cls:=.type "tuple",data:=.seq aM.toArray} }:=
     I1.laid (t':=s.toks) (fun b o e=>Yr _ e) (Yo _) (show bC X.prog X.w _ _ _ (.tup ys)from⟨hz,aM,r',abw _ _⟩)
   show⟨.ref h'.objs.size,_,I2,U,q _ (I1.hok.fresh (Yo _))⟩
 . obtain⟨aM,r',pl,hz⟩:=I.tuple hq
   show call_tuple_same pl ⟨.ref p,H,I,U,q⟩
def P9 (K:Yl)(T:String)(x:V)(H:Hp):Prop:=match x with
 | .str _=>T="str"
 | .int _=>T="int"
 | .ref p=>(T="list"/\∃xs,aF K H p xs)\/(T="tuple"/\∃o,K.lookup p=some o/\o.cls=.type "tuple"/\o.dict=none) \/
     (T="dict"/\((∃kvs,H p=some (.dK kvs))\/∃kvs,H p=some (.dT kvs)))\/(T="set"/\∃S n,H p=some (.set S n))
 | _=>False
def zb {pins:List (Addr×Obj)}{σ:St}{H:Hp}{s:Shared}{T:String}{x:V}{v:Value}(I:Inv X pins σ H s)(r:RelV x v)(ty:P9 X.K T x H) :
   s.TypeIs v T/\∀a,v=.ref a->∃ob,s.heap.get? a=some ob/\ob.dict=none:=by
 cases x with
 | str z=>
   obtain⟨t,rfl⟩:=r
   cases(show T="str" from ty)
   show⟨typeIs_str s z t,fun y e=>nomatch e⟩
 | int i=>
   obtain⟨t,rfl⟩:=r
   cases(show T="int" from ty)
   show⟨typeIs_int s i t,fun y e=>nomatch e⟩
 | ref p=>
   cases r
   rcases ty with⟨rfl,xs,hq⟩|⟨rfl,o,hk,hc,hd⟩|⟨rfl,hk⟩|⟨rfl,S,n,hk⟩
   . obtain⟨aM,_,pl,_⟩:=I.list hq
     show⟨pl.isList.typeIs,fun a e=>?_⟩
     cases e
     obtain⟨o,n,e,c,hd,_⟩:=pl
     show⟨o,e,hd⟩
   . show⟨⟨o,I.zq p o hk,hc⟩,fun a e=>?_⟩
     cases e
     show⟨o,I.zq _ o hk,hd⟩
   . have z:∃o,s.heap.get? p=some o/\o.ExactDict:=by
       rcases hk with⟨kvs,hk⟩|⟨kvs,hk⟩
       . obtain⟨_,_,_,_,o,_,_,e,ex,_⟩:=I.hok p _ hk
         show⟨o,e,ex⟩
       . obtain⟨_,_,_,_,o,_,_,e,ex,_⟩:=I.hok p _ hk
         show⟨o,e,ex⟩
     obtain⟨o,e,ex⟩:=z
     show⟨⟨o,e,ex.1⟩,fun a e2=>?_⟩
     cases e2
     show⟨o,e,ex.2.1⟩
   . obtain⟨o,_,_,_,e,ex,_⟩:=I.hok p _ hk
     show⟨⟨o,e,ex.1⟩,fun a e2=>?_⟩
     cases e2
     show⟨o,e,ex.2.1⟩
 | _=>show Zx ty
def Le (K:Yl)(T:String)(r:V->List V->Hp->VK->Prop)(to:TE):TE:=fun σ H Q=>to σ H fun x H1=>P9 K T x H1/\r x [] H1 Q
def Hn (K:Yl)(T:String)(r:V->List V->Hp->VK->Prop)(to:TE)(t:TA):TE:=fun σ H Q=>to σ H fun x H1=>P9 K T x H1/\t σ H1 fun xs H2=>r x xs H2 Q
variable{o e:Expr}{es:List Expr}{to:TE}{t:TA}{name:Str}{apos cpos:Pos}{T id:String}{r:V->List V->Hp->VK->Prop}
def Fu (pa:PlainAttrs T)(slot:Slot T name id)(hty:typeOf (.builtin id)=pure (.type "method_descriptor"))(hm:LG X id r)(ho:PE X o to)
   (hbase:Zw o name X.env (eval o X.env)=eval o X.env:=by rfl) (hline:(apos.endLine==cpos.line)=true:=by rfl):PE X (.Call (.Attribute o name apos) [] [] cpos) (Le X.K T r to):=by
 intro pins s σ H Q I h
 show wpAny_Call_method0_late hbase hline (bq (ho pins s σ H _ I h) fun v s1 h9=>?_)
 obtain⟨x,H1,I1,r1,ty,q1⟩:=h9
 obtain⟨h1,h2⟩:=zb I1 r1 ty
 show⟨T,id,pa,slot,hty,h1,h2,Z8 rfl (PySem.evalArgs_none (hm pins s1 σ H1 x [] v [] Q I1 r1 .nil q1))⟩
def CB (pa:PlainAttrs T)(slot:Slot T name id)(hty:typeOf (.builtin id)=pure (.type "method_descriptor"))(hm:LG X id r)(ho:PE X o to)(ha:PA X (e::es) t)
   (hbase:Zw o name X.env (eval o X.env)=eval o X.env:=by rfl)
   (hfew:((backTo cpos (starEach (e::es) X.env)).all (fun x=>!x.1)&&(backToKw cpos (keywordEach [] X.env)).all (fun x=>x.1.isSome)
     && decide ((e::es).length+([]:List Keyword).length+(if([]:List Keyword).isEmpty then 0 else 1)<30))=true:=by rfl)
   (hline:(apos.endLine==cpos.line)=true:=by rfl) (hs:starEach (e::es) X.env=(false,eval e X.env)::starEach es X.env:=by rfl) (hplain:(backTo cpos (starEach es X.env)).any (·.1)=false:=by rfl) :
   PE X (.Call (.Attribute o name apos) (e::es) [] cpos) (Hn X.K T r to t):=by
 intro pins s σ H Q I h
 show wpAny_Call_method_late hbase hfew hline rfl (bq (ho pins s σ H _ I h) fun v s1 h9=>?_)
 obtain⟨x,H1,I1,r1,ty,q1⟩:=h9
 obtain⟨h1,h2⟩:=zb I1 r1 ty
 show⟨T,id,pa,slot,hty,h1,h2,?_⟩
 have hA:=ha cpos pins s1 σ H1 _ I1 q1
 rw[hs]at hA ⊢
 show Z8 (by change(false || (backTo cpos (starEach es X.env)).any (·.1))=false;rw[hplain]<;>rfl) (aak ?_)
 show bq hA fun us s2 h9=>?_
 obtain⟨vs,H2,I2,r2,q2⟩:=h9
 show hm pins s2 σ H2 x vs v us Q I2 r1 r2 q2
end
def LF (X:Cx)(id:String)(r:V->List V->Hp->VK->Prop):Prop:=
 ∀(pins:List (Addr×Obj)) (s:Shared) (σ:St) (H:Hp) (x:V) (xs:List V) (v:Value) (us:List Value) (Q:VK),Inv X pins σ H s->RelV x v->Vals xs us->r x xs H Q ->
   wpAny (model X.prog X.w) X.A (call (.builtin id) (v::us)) (EP X pins σ Q) X.xe s
def Vals.one:∀{x:V} {us:List Value},Vals [x] us->∃u,us=[u]/\RelV x u:=by
 intro x us h
 cases h with
 | cons r h=>cases h;show⟨_,rfl,r⟩
def Vals.two:∀{x y:V} {us:List Value},Vals [x,y] us->∃u v,us=[u,v]/\RelV x u/\RelV y v:=by
 intro x y us h
 cases h with
 | cons r h=>cases h with
   | cons q h=>cases h;show⟨_,_,rfl,r,q⟩
def Vals.zero:∀{us:List Value},Vals [] us->us=[]
 | _,.nil=>rfl
theorem Vals.rep {xs:List V}{us:List Value}(h:Vals xs us):∀k:Nat,Vals (YC k xs).flatten (YC k us).flatten
 | 0=>.nil
 | k+1=>by
   rw[Z0,Z0,aaI,aaI]
   show Vals.append h (Vals.rep h k)
theorem foldl_rep (aM:List Value):∀(k:Nat) (acc:List Value),
   List.foldl (fun x1 x2=>x1++x2) acc.toArray (YC k aM.toArray)=(acc++(YC k aM).flatten).toArray
 | 0,acc=>by simp
 | k+1,acc=>by
   have e:acc.toArray++aM.toArray=(acc++aM).toArray:=by simp
   have e2:(acc++aM)++(YC k aM).flatten=acc++(YC (k+1) aM).flatten:=by
     rw[Z0,aaI,Zl]
   rw[← e2,← foldl_rep aM k (acc++aM),← e,Z0,List.foldl_cons]
section
variable{X:Cx}{pins:List (Addr×Obj)}{σ:St}{H:Hp}{s:Shared}{l b:Addr}{xs ys zs:List V}
def Inv.Et {aM its':List Value}{n:Nat}{f:Array Value->Array Value}{t':Nat}(I:Inv X pins σ H s)(hH:H l=some (.lst xs))
   (e:s.heap.get? l=some {cls:=.type "list",data:=.seq aM.toArray n}) (hf:f aM.toArray=its'.toArray) (hv:Vals ys its') (hz:ys.length<=sizeLine) :
   Inv X pins σ (upd H l (.lst ys)) {s with heap:=s.heap.update l (abm f),toks:=t'}:=by
 have q:=PySem.IsL.update e f
 rw[hf]at q
 show I.write (x:=l) (e:=l) (by rw[hH];show trivial) (.inl rfl) (fun b' u hb hu=>(ab1 s.heap (abm f) (Ne.symm hb)).trans hu) ⟨_,q⟩ ?_
 show⟨hz,its',_,hv,q⟩
def Inv.JF {aM:List Value}{t':Nat}(I:Inv X pins σ H s)(hv:Vals ys aM)(hz:ys.length<=sizeLine) :
   Inv X pins σ (upd H s.heap.objs.size (.lst ys)) {s with heap:=s.heap.push {cls:=.type "list",data:=.seq aM.toArray},toks:=t'}:=
 I.laid (fun z z q=>Yr _ q) (Yo _) ⟨hz,aM,0,hv,YG _ rfl⟩
def Inv.fresh (I:Inv X pins σ H s):H s.heap.objs.size=none:=I.hok.fresh (Yo _)
def Inv.qz (I:Inv X pins σ H s)(hH:H l=some (.lst xs)):xs.length<=sizeLine/\∃(aM:List Value) (n:Nat),Vals xs aM/\xs.length=aM.length/\s.heap.get? l=some {cls:=.type "list",data:=.seq aM.toArray n}:=by
 obtain⟨z,aM,n,r,e⟩:=I.hok l _ hH
 show⟨z,aM,n,r,r.length,e⟩
def oP {n:Nat}(h:n<=sizeLine):ZP n=false:=by
 unfold ZP
 show f6 (by lia)
end
section
variable{X:Cx}
def sO:V->List V->Hp->VK->Prop:=fun x vs H Q=>∃l xs y,x=.ref l/\vs=[y]/\H l=some (.lst xs)/\xs.length<sizeLine/\Q .bJ (upd H l (.lst (xs++[y])))
def lY:LF X "list.append" sO:=by
 intro pins s σ H x vs v us Q I rx rv h
 obtain⟨l,xs,y,rfl,rfl,hH,hz,q⟩:=h
 cases rx
 obtain⟨u,rfl,ru⟩:=rv.one
 obtain⟨z,aM,n,r,hl,e⟩:=I.qz hH
 show call_meets F.slot_list_append ⟨_,e,U⟩ F.entry_list_append (F.args_list_append_2 _ _) (PySem.list_append l aM.toArray n u (by rw[Yw];lia)) ⟨e,?_⟩
 show⟨.bJ,_,I.Et (its':=aM++[u]) hH e (by simp) (r.append (.cons ru .nil)) ?_,U,q⟩
 rw[Ym,aae]
 lia
def sQ:V->List V->Hp->VK->Prop:=fun x vs H Q=>∃l b xs zs,x=.ref l/\vs=[.ref b]/\H l=some (.lst xs)/\H b=some (.lst zs)/\xs.length+zs.length<=sizeLine/\Q .bJ (upd H l (.lst (xs++zs)))
def uL:LF X "list.extend" sQ:=by
 intro pins s σ H x vs v us Q I rx rv h
 obtain⟨l,b,xs,zs,rfl,rfl,hH,hB,hz,q⟩:=h
 cases rx
 obtain⟨u,rfl,ru⟩:=rv.one
 cases ru
 obtain⟨z,aM,n,r,hl,e⟩:=I.qz hH
 obtain⟨z2,eV,n2,r2,hl2,e2⟩:=I.qz hB
 have hsz:aM.toArray.size+eV.toArray.size<=sizeLine:=by rw[Yw,Yw];lia
 have wB:¬ (!aM.toArray.isEmpty&&ZP (aM.toArray.size+eV.toArray.size))=true:=by
   rw[oP hsz,aa6]
   show YE
 show call_meets F.slot_list_extend ⟨_,e,U⟩ F.entry_list_extend (F.args_list_extend_2 _ _)
   (AutoSeq1.list_extend_list_list_0 l aM.toArray n b eV.toArray n2 wB (by rw[Yw];lia) (by lia)) ⟨e,e2,?_⟩
 show⟨.bJ,_,I.Et (its':=aM++eV) hH e (by simp) (r.append r2) ?_,U,q⟩
 rw[Ym]
 lia
def KA:R2:=fun x y H Q=>∃l b xs zs,x=.ref l/\y=.ref b/\H l=some (.lst xs)/\H b=some (.lst zs)/\xs.length+zs.length<=sizeLine/\∀p,H p=none->Q (.ref p) (upd H p (.lst (xs++zs)))
def Ff:gF X (binaryOp .Add) KA:=by
 intro pins s σ H x y v u Q I rx ry h
 obtain⟨l,b,xs,zs,rfl,rfl,hH,hB,hz,q⟩:=h
 cases rx
 cases ry
 obtain⟨z,aM,n,r,hl,e⟩:=I.qz hH
 obtain⟨z2,eV,n2,r2,hl2,e2⟩:=I.qz hB
 show PySem.P.add_list e e2 ?_ (by rw[Yw,Yw];lia)
 have ea:aM.toArray++eV.toArray=(aM++eV).toArray:=by simp
 rw[ea]
 show⟨.ref _,_,I.JF (t':=s.toks) (r.append r2) (by rw[Ym];lia),U,q _ I.fresh⟩
def KG:R2:=fun x y H Q=>∃l k xs,x=.ref l/\y=.int k/\H l=some (.lst xs)/\-(2^63)<=k/\k<2^63/\xs.length*k.toNat<=sizeLine /\
 ∀p,H p=none->Q (.ref p) (upd H p (.lst (YC k.toNat xs).flatten))
def len_rep {α:Type}(xs:List α)(k:Nat):(YC k xs).flatten.length=k*xs.length:=by
 induction k with
 | zero=>simp
 | succ k ih=>rw[Z0,aaI,Ym,ih,ZO,aag]
def Fo:gF X (binaryOp .Mult) KG:=by
 intro pins s σ H x y v u Q I rx ry h
 obtain⟨l,k,xs,rfl,rfl,hH,h1,h2,hz,q⟩:=h
 cases rx
 obtain⟨t,rfl⟩:=ry
 obtain⟨z,aM,n,r,hl,e⟩:=I.qz hH
 have hlen:aM.toArray.size*k.toNat<=sizeLine:=by rw[Yw,← hl];show hz
 have hcap:¬ aM.toArray.size*k.toNat > (2^63-1)/8:=by
   have:(sizeLine:Nat)<=(2^63-1)/8:=by left
   lia
 have NW:¬ (!ZG k)=true:=by
   rw[fitsIndex_both h1 h2]
   show YE
 have wB:¬ ZP (aM.toArray.size*k.toNat)=true:=by
   rw[oP hlen]
   show YE
 have oC:List.foldl (fun x1 x2=>x1++x2) #[] (YC (if aM.toArray.isEmpty=true then 0 else k.toNat) aM.toArray)=(YC k.toNat aM).flatten.toArray:=by
   have f0:∀m:Nat,List.foldl (fun x1 x2=>x1++x2) #[] (YC m aM.toArray)=(YC m aM).flatten.toArray:=fun m=>by
     have:=foldl_rep aM m []
     rw[List.nil_append]at this
     show this
   rw[f0]
   cases aM with
   | nil=>simp
   | cons a r'=>rw[bg (by simp)]
 show wpAny_binaryOp_repeat_ref (T:="list") (U:="int") (by left) ⟨_,e,U⟩ (fun s'=>typeIs_int s' k t) noFill_list_mul F.fills_int_mul F.slot_int_rmul repeat_list F.slot_int_index.lookup
   (call_meets F.slot_int_rmul (typeIs_int s k t) F.entry_int_rmul (F.args_int_rmul_2 _ _) (int___rmul___int_list k t l aM.toArray n)
     ⟨e,rfl,⟨_,e,rfl⟩,call_meets F.slot_list_mul ⟨_,e,rfl⟩ F.entry_list_mul (F.args_list_mul_2 _ _) (AutoListH.list___mul___list_int_3 l aM.toArray n k t NW hcap wB) ⟨e,?_⟩⟩)
 rw[oC]
 show⟨.ref _,_,I.JF (t':=s.toks) (r.rep k.toNat) (by rw[len_rep,Nat.mul_comm];show hz),U,q _ I.fresh⟩
end
end L2
namespace Qg
open PySem PySem.W PySem.Calls PyProof.Rows
def jw {P:Params}{h:Heap}:∀(ns:List Int) (vs:List Value),WellAll P h vs (ns.map WData.int)->IntsAre vs ns:=by
 intro ns
 induction ns with
 | nil=>
   intro vs w
   rw[abo]at w
   cases w
   show .nil
 | cons n ns ih=>
   intro vs w
   rw[YM]at w
   cases w with
   | cons a b=>
     cases a
     show .cons _ _ (ih _ b)
def vf {l:OpenLaw}{n:Nat}(hn:l.most=some n){P:Params}{h:Heap}{args:List WData}{vals:List Value}
   (hpre:l.row.toRowW.claim.pre args=true) (hwl:WellAll P h vals args) :
   ∃a vs ns,vals=[Y2 a]/\args=[WData.list (ns.map WData.int)]/\h.get? a=some {cls:=.type "list",data:=.seq vs.toArray}/\IntsAre vs ns/\ns.length<=n:=by
 have Ef:WShape.hasAll [] args [.list .int]=true:=(pre_splitW hpre).1
 have hc:l.pre.holds [] {args:=args}=true:=(pre_splitW hpre).2
 obtain⟨d,r,rfl,h1,h2⟩:=hasAllW_cons Ef
 obtain rfl:=hasAllW_nil h2
 obtain⟨xs,rfl,h3⟩:=hasW_list h1
 obtain⟨ns,rfl⟩:=items_int h3
 have hlen:ns.length<=n:=by
   unfold OpenLaw.pre at hc
   have h4:(WTm.not (.lt (.lit (.int (n:Int))) (.len (.arg 0)))).holds [] {args:=[.list (ns.map .int)]}=true:=by
     have h4:=(holds_andW hc).1
     rw[hn]at h4
     show h4
   have h5:=condW_of h4 (w_not (w_lt w_lit (w_len_list (w_arg rfl))))
   rw[Yk]at h5
   show Nat.le_of_not_lt fun q=>?_
   have q':(n:Int)<((ns.length:Nat):Int):=by lia
   first
     | (rw[cH q']at h5;show az h5 (by left))
     | (simp at h5;lia)
 cases hwl with
 | cons w1 w2=>
   cases w2
   cases w1 with
   | list ho hall=>show⟨_,_,ns,rfl,rfl,ho,jw ns _ hall,hlen⟩
def u6 (l:OpenLaw)(args:List WData):l.row.toRowW.claim.post args (.bool true) args=true:=
 postW_of (r:=l.row.toRowW) (X:=(true==true))
   (show WShape.has [] (.bool true) .bool=true by first|rfl|decide|simp[WShape.has,WShape.arms,WShape.armsAll])
   (show(WTm.eq .res (.lit (.bool true))).value [] {args:=args,res:=some (.bool true),after:=args}=some (.bool (true==true))from w_eq_bool (w_res rfl) w_lit) rfl
def nV {l:OpenLaw}{n:Nat}{q:Program}{loose:List Str}{XP:(Str->Option Value)->Heap->Prop}{YP:World->Heap->Prop}{d:DefRec}
   (hn:l.most=some n) (hdf:d.params.defaults=[])
   (call:∀(w:World) (s₀ s₁:Shared) (mg mb:Str->Option Value) (fa:Addr) (o:Obj) (pm cd doc:Value) (a:Addr) (vs:List Value) (ns:List Int),
     Ground q loose [] XP w s₀ mg mb s₁.heap->YP w s₁.heap ->
     s₁.heap.get? fa=some o->o.data=.func (docDef d.name d.params d.body d.scope pm cd doc)->s₁.heap.CodeRec cd d.name->mg d.name=some (.ref fa) ->
     s₁.heap.get? a=some {cls:=.type "list",data:=.seq vs.toArray}->IntsAre vs ns->ns.length<=n->s₁.gens=#[] ->
     codeAny (model l.prog w) callerA (.call (.ref fa) ⟨[.ref a],[]⟩) (fun r s'=>r=.ok (.ret (.bool true))/\OldK s₁.heap s'.heap/\s'.os=s₁.os/\AllBare s'.gens) s₁) :
   WalkO q loose XP YP l.row.toRowW d [] (fun f vs=>PySem.call f vs):=by
 intro w s₀ s₁ mg mb G Y8 fa o pm cd doc dV kV ho hd hcd hD hmg hg args vals as hpre UN G1 hwl Xr
 obtain rfl:dV=.none:=Dflts.none hD hdf
 obtain rfl:kV=.none:=Dflts.noKw hD
 obtain⟨a,vs,ns,rfl,rfl,Ea,hints,hlen⟩:=vf hn hpre hwl
 show enter_call (codeAny_mono (call w s₀ s₁ mg mb fa o pm cd doc a vs ns G Y8 ho (fd_plain hd) hcd hmg Ea hints hlen hg) fun r s' hq=>?_)
 obtain⟨rfl,h2,h3,h4⟩:=hq
 show⟨.inl ⟨.bool true,.bool true,[],U,fun z=>rfl,.bool true,u6 l _,fun z=>⟨List.Pairwise.nil,fun z hm=>(nomatch hm)⟩⟩,h2,h3,h4⟩
end Qg
namespace L2
open PySem PySem.Spec PyProof.Rows
theorem mz:∀{vs:List Value} {ns:List Int},IntsAre vs ns->Vals (ns.map V.int) vs
 | _,_,.nil=>.nil
 | _,_,.cons n t h=>.cons ⟨t,rfl⟩ (mz h)
def Dk (H:Hp):Prop:=∀b,H b=none\/∃o xs,H b=some (.frz o (.lst xs))
def wR {P:Program}{w:World}{K:Yl}{mg mb:Str->Option Value}{CX:rJ}{k:Nat}{fa a:Addr}{fd:Yx}{x:Str}{sp:Sp}{s₁:Shared}{vs:List Value}{ns:List Int}
   (KX:K.In s₁.heap) (hns:s₁.heap.Ns Zd mg) (hb:s₁.heap.Ns builtinsNs mb) (hbb:∀x:Str,x≠"__name__"->mb x=Zf x) (hlim:s₁.heap.NoLimit) (hg:s₁.gens=#[])
   (ha:s₁.heap.get? a=some {cls:=.type "list",data:=.seq vs.toArray}) (hi:IntsAre vs ns) (hl:ns.length<=sizeLine) (hr:cI k callerA)
   (F:∀base:Heap,K.In base->base.Ns Zd mg->aO P w K mg base CX k fa fd [x] sp) (hbind:∀(s:Shared) (u:Value),BindsTo s fd ⟨[u],[]⟩ [(x,u)])
   (hsp:∀H:Hp,Dk H->aF K H a (ns.map V.int)->sp [.ref a] H (fun v y=>v=.bl true) fun y y y=>False)
   (hCX:∀H e s',CX [] H s₁ (fun y y y=>False) e s'->False) :
   codeAny (model P w) callerA (.call (.ref fa) ⟨[.ref a],[]⟩) (fun r s'=>r=.ok (.ret (.bool true))/\OldK s₁.heap s'.heap/\s'.os=s₁.os/\AllBare s'.gens) s₁:=by
 have rv:=mz hi
 have OO:=hi.length
 have core:∀H:Hp,Dk H->aF K H a (ns.map V.int)->eS P w H s₁.heap->(∀b,H b≠none->b=a)->(H a≠none->K.lookup a=none) ->
     codeAny (model P w) callerA (.call (.ref fa) ⟨[.ref a],[]⟩) (fun r s'=>r=.ok (.ret (.bool true))/\OldK s₁.heap s'.heap/\s'.os=s₁.os/\AllBare s'.gens) s₁:=by
   intro H hO hS hok hA hK
   have rN:∀{b:Addr} {o:Obj},s₁.heap.get? b=some o->H b=none->(mR s₁.heap H).get? b=some o:=fun e n=>wz e n
   have noA:∀{b:Addr} {o:Obj} {es:Array DictEntry} {ep:Nat},s₁.heap.get? b=some o->o.data=.dict es ep->H b=none:=fun{b o es ep} e d=>by
     cases q:H b with
     | none=>rfl
     | some u=>
       have e':b=a:=hA b (by rw[q];simp)
       subst e'
       rw[ha]at e;cases e
       have d':Data.seq vs.toArray _=Data.dict es ep:=d
       cases d'
   have nsK:∀{b:Addr} {m:Str->Option Value},s₁.heap.Ns b m->(mR s₁.heap H).Ns b m:=fun{b m} ⟨o,es,ep,e,d,r⟩=>⟨o,es,ep,rN e (noA e d),d,r⟩
   have QM:K.In (mR s₁.heap H):=fun b o e=>rN (KX b o e) (by
     cases q:H b with
     | none=>rfl
     | some u=>
       have e':b=a:=hA b (by rw[q];simp)
       subst e'
       rw[hK (by rw[q];simp)]at e;cases e)
   have hM:Mod K mg (mR s₁.heap H):=⟨QM,nsK hns,⟨mb,nsK hb,hbb⟩,let⟨mc,h1,h2⟩:=hlim;⟨mc,nsK h1,h2⟩⟩
   have e0:zB P w K mg (mR s₁.heap H) callerA [] s₁ H:=⟨rfl,hM,fun b o e=>AD e,Nat.le_of_eq (uz _ _),trivial,fun b hb=>az (show b∈([]:List Addr)from hb) (by simp),hok,.of_eq hg⟩
   show codeAny_mono ((F _ QM (nsK hns)).run callerA [] s₁ H ⟨[.ref a],[]⟩ [.ref a] [.ref a] _ _ hr e0 (hbind s₁ (.ref a)) (.cons rfl .nil) (hsp H hO hS)) fun r s' h=>?_
   cases r with
   | error e=>show(hCX H e s' h).elim
   | ok fl=>
     cases fl with
     | next=>show Zx h
     | brk=>show Zx h
     | cont=>show Zx h
     | ret u=>
       obtain⟨v,H',os,bare,un,Oq,r',q⟩:=h
       have q':v=.bl true:=q
       subst q'
       obtain rfl:u=aaC true:=r'
       show⟨U,OldK.of_keep fun b o e=>?_,os,bare⟩
       cases q:H b with
       | none=>show un.keep b o e q (by intro z;show az (show b∈([]:List Addr)from z) (by simp)) (by simp)
       | some u=>
         rcases hO b with z|⟨ob,xs,z⟩
         . rw[q]at z;cases z
         . have z2:=un.frzs b ob _ z
           obtain⟨e1,_⟩:=hok b _ z
           obtain⟨e2,_⟩:=Oq b _ z2
           rw[e]at e1;cases e1
           show e2
 cases hk:K.lookup a with
 | some o=>
   have e:=KX a o hk
   rw[ha]at e
   cases e
   show core (fun y=>none) (fun y=>.inl rfl) (.inr ⟨_,vs.toArray,_,hk,U,U,U,by rw[Yw,OO];show hl,by simpa using rv⟩) (fun b u z=>by have z':(none:Option HO)=some u:=z;cases z') (fun b z=>az rfl z) fun z=>az rfl z
 | none=>
   show core (fun b=>if b=a then some (.frz {cls:=.type "list",data:=.seq vs.toArray} (.lst (ns.map V.int)))else none) (fun b=>?_) (.inl (.inr ⟨{cls:=.type "list",data:=.seq vs.toArray},bj rfl⟩)) (fun b u z=>?_) (fun b z=>?_) fun y=>hk
   . by_cases hb:b=a
     . show .inr ⟨_,_,bj hb⟩
     . show .inl (bg hb)
   . by_cases hb:b=a
     . have z':=(bj hb).symm.trans z
       cases z'
       subst hb
       show⟨ha,by rw[Yk];show hl,vs,_,rv,ha⟩
     . have z':=(bg hb).symm.trans z
       cases z'
   . by_cases hb:b=a
     . show hb
     . show az (bg hb) z
def BZ {l:PySem.W.OpenLaw}{n k:Nat}{q:Program}{loose:List Str}{XP:(Str->Option Value)->Heap->Prop}{YP:World->Heap->Prop}{d:DefRec}{K:Params->Yl}{CX:World->rJ}{sp:World->Sp}{x:Str}
   (hn:l.most=some n) (hn2:n<=sizeLine) (hdf:d.params.defaults=[]) (hr:cI k callerA)
   (hY:∀(w:World) (h:Heap),YP w h->(K w.params).In h)
   (F:∀(w:World) (mg:Str->Option Value) (fa:Addr) (h:Heap),(K w.params).In h->h.Ns Zd mg->mg d.name=some (.ref fa) ->
     ∃fd:Yx,(∀(s:Shared) (u:Value),BindsTo s fd ⟨[u],[]⟩ [(x,u)]) /\
       ∀base:Heap,(K w.params).In base->base.Ns Zd mg->aO l.prog w (K w.params) mg base (CX w) k fa fd [x] (sp w))
   (hsp:∀(w:World) (H:Hp) (a:Addr) (ns:List Int),ns.length<=n->Dk H->aF (K w.params) H a (ns.map V.int)->sp w [.ref a] H (fun v z=>v=.bl true) fun z z z=>False)
   (hCX:∀(w:World) (H:Hp) (s:Shared) (e:Value) (s':Shared),CX w [] H s (fun z z z=>False) e s'->False) :
   PySem.W.WalkO q loose XP YP l.row.toRowW d [] (fun f vs=>PySem.call f vs):=by
 show Qg.nV hn hdf fun w s₀ s₁ mg mb fa o pm cd doc a vs ns G Y8 ho hd hcd hmg Ea hints hlen hg=>?_
 have KX:=hY w _ Y8
 obtain⟨fd,hb,hF⟩:=F w mg fa _ KX G.T.g hmg
 show wR KX G.T.g G.T.b G.T.builtins G.T.nolimit hg Ea hints (YU hlen hn2) hr hF hb (fun H hO hS=>hsp w H a ns hlen hO hS) fun H e s'=>hCX w H s₁ e s'
def cB (s:Stmt):Arguments:=match s with
 | .FunctionDef _ a _ _ _ _ _ _ _ _=>a
 | _=>{posonlyargs:=[],args:=[],vararg:=none,kwonlyargs:=[],kw_defaults:=[],kwarg:=none,defaults:=[]}
def bV (s:Stmt):List Stmt:=match s with
 | .FunctionDef _ _ b _ _ _ _ _ _ _=>b
 | _=>[]
def aq (s:Stmt):Scope:=match s with
 | .FunctionDef _ _ _ _ _ _ sc _ _ _=>sc
 | _=>{kind:=.function,names:=[],isGenerator:=false,isCoroutine:=false}
abbrev bU:rJ:=fun _ _ _ _ _ _=>False
abbrev E0:XK:=fun _ _ _=>False
def Cz {X:Cx}:Passes bU X E0:=fun z z z z z z z h=>h.elim
structure b9 (K:Yl)(x qual:Str)(st:Stmt)(f:Addr)(fd:Yx):Prop where
 ex:∃(oc:Value) (od:Option Addr) (kV doc pm:Value) (an:Option Addr) (cdv ct:Value) (osl:Array (Option Value)),
   fd=Zm x qual (cB st) (bV st) (aq st) .none kV doc pm an cdv ct/\K.lookup f=some ⟨oc,od,.func fd,osl⟩/\Z7 K cdv qual=true
 kp:Zq K (.ref f)=true
section
variable{P:Program}{w:World}{K:Yl}{mg:Str->Option Value}{base:Heap}
def b9.ok {x qual:Str}{st:Stmt}{f:Addr}{fd:Yx}{N ps:List Str}{k:Nat}{sp:Sp}(F:b9 K x qual st f fd)(S:aC N ps (aq st))(len:∀vs H Q E,sp vs H Q E->vs.length=ps.length)
   (hbody:∀(cdv:Value) (A:Around) (outer:List Env) (s:Shared) (H:Hp) (vs:List V) (Q:VK) (E:XK),cI k (A.deeper (envOfC qual (aq st) s.heap.objs.size f cdv))->sp vs H Q E ->
     ∃t,kS (fJ bU P w K mg base N qual (aq st) f cdv A outer s H E).ED (bV st) t/\t {nx:=fun z H'=>Q .bJ H',rt:=Q} (start N vs) H):aO P w K mg base bU (k+1) f fd ps sp:=by
 obtain⟨oc,od,kV,doc,pm,an,cdv,ct,osl,rfl,lk,hcd⟩:=F.ex
 show wk lk hcd S len fun A outer s H vs Q E hr hsp=>?_
 obtain⟨t,h,q⟩:=hbody cdv A outer s H vs Q E hr hsp
 show⟨t,h.ED,q⟩
def b9.c0 {x qual:Str}{st:Stmt}{f:Addr}{fd:Yx}{N ps:List Str}{k:Nat}{sp:Sp}(F:b9 K x qual st f fd)(S:aC N ps (aq st))(hbody:∀(cdv:Value) (A:Around) (outer:List Env) (s:Shared) (H:Hp) (vs:List V) (Q:VK) (E:XK),cI k (A.deeper (envOfC qual (aq st) s.heap.objs.size f cdv))->sp vs H Q E->∃t,kS (fJ bU P w K mg base N qual (aq st) f cdv A outer s H E).ED (bV st) t/\t {nx:=fun z H'=>Q .bJ H',rt:=Q} (start N vs) H)(len:∀vs H Q E,sp vs H Q E->vs.length=ps.length:=by intro vs H Q E h;repeat first|(obtain⟨rfl,_⟩:=h;rfl)|obtain⟨_,h⟩:=h):aO P w K mg base bU (k+1) f fd ps sp:=F.ok S len hbody
def b9.binds {x qual:Str}{st:Stmt}{f:Addr}{fd:Yx}{ps:List Str}(F:b9 K x qual st f fd)
   (h:∀(kV doc pm:Value) (an:Option Addr) (cdv ct:Value) (us:List Value),us.length=ps.length->abV (Zm x qual (cB st) (bV st) (aq st) .none kV doc pm an cdv ct) ⟨us,[]⟩=pure (ps.zip us)):Binds K fd ps []:=by
 obtain⟨oc,od,kV,doc,pm,an,cdv,ct,osl,rfl,lk,hcd⟩:=F.ex
 show .all (h kV doc pm an cdv ct)
def DK {x qual:Str}{st:Stmt}{f:Addr}{oc:Value}{od an:Option Addr}{osl:Array (Option Value)}{kV doc pm cdv ct:Value}(l:K.lookup f=some ⟨oc,od,.func (Zm x qual (cB st) (bV st) (aq st) .none kV doc pm an cdv ct),osl⟩)
   (c:Z7 K cdv qual=true) (k:Zq K (.ref f)=true):b9 K x qual st f (Zm x qual (cB st) (bV st) (aq st) .none kV doc pm an cdv ct):=⟨⟨oc,od,kV,doc,pm,an,cdv,ct,osl,rfl,l,c⟩,k⟩
end
def aD {n:Nat}(h:n<=1000):n<sizeLine:=Nat.lt_of_le_of_lt h (by left)
def fL {A B:Prop}(h:B):if false=true then A else B:=by
 rw[bg YE]
 show h
def k6 {A B:Prop}(h:A):if true=true then A else B:=by
 rw[bj rfl]
 show h
def aN {c A B:Prop}[Decidable c](h1:c->A)(h2:¬ c->B):if c then A else B:=by
 by_cases h:c
 . rw[bj h]
   show h1 h
 . rw[bg h]
   show h2 h
def ah (H H':Hp):Prop:=∀b o,H b=some o->H' b=some o
section
variable{κ:Type}[DecidableEq κ]
def aU (kvs:List (κ×V))(k:κ):Option V:=(kvs.find? fun kv=>decide (kv.1=k)).map (·.2)
def putK (kvs:List (κ×V))(k:κ)(v:V):List (κ×V):=
 if(kvs.any fun kv=>decide (kv.1=k))=true then kvs.map (fun kv=>if kv.1=k then(kv.1,v)else kv)else kvs++[(k,v)]
def jc (kvs:List (κ×V))(k:κ):List (κ×V):=kvs.filter fun kv=>decide (kv.1≠k)
def bZ {p:κ×V}{r:List (κ×V)}{k:κ}(e:p.1=k):aU (p::r) k=some p.2:=by simp[aU,Zy,e]
def bT {p:κ×V}{r:List (κ×V)}{k:κ}(e:¬ p.1=k):aU (p::r) k=aU r k:=by simp[aU,Zy,e]
theorem cG (k:κ):∀kvs:List (κ×V),(kvs.any fun kv=>decide (kv.1=k))=(aU kvs k).isSome
 | []=>rfl
 | p::r=>by
   rw[aap]
   by_cases e:p.1=k
   . simp only[bZ e,cH e,Bool.true_or,Option.isSome_some]
   . rw[bT e,f6 e,Bool.false_or];show cG k r
theorem pN (k j:κ)(y:V):∀kvs:List (κ×V),aU (kvs.map fun kv=>if kv.1=k then(kv.1,y)else kv) j=(aU kvs j).map fun x=>if j=k then y else x
 | []=>rfl
 | p::r=>by
   have ih:=pN k j y r
   rw[YM]
   by_cases h:p.1=k
   . rw[bj h]
     by_cases e:p.1=j
     . rw[bZ (p:=(p.1,y)) e,bZ e,Ze,bj (e.symm.trans h)]
     . rw[bT (p:=(p.1,y)) e,bT e,ih]
   . rw[bg h]
     by_cases e:p.1=j
     . rw[bZ (p:=p) e,bZ e,Ze,bg (fun z=>h (e.trans z))]
     . rw[bT (p:=p) e,bT e,ih]
theorem my (k j:κ)(y:V):∀kvs:List (κ×V),aU kvs k=none->aU (kvs++[(k,y)]) j=if j=k then some y else aU kvs j
 | [],_=>by
   by_cases e:k=j
   . rw[bj e.symm];show bZ (p:=(k,y)) e
   . rw[bg (fun z=>e z.symm)];show bT (p:=(k,y)) e
 | p::r,hn=>by
   rw[List.cons_append]
   have hk:¬ p.1=k:=fun z=>by rw[bZ z]at hn;cases hn
   rw[bT hk]at hn
   have ih:=my k j y r hn
   by_cases e:p.1=j
   . rw[bZ e,bZ e,bg (fun z=>hk (e.trans z))]
   . rw[bT e,bT e,ih]
def bA (kvs:List (κ×V))(k j:κ)(y:V):aU (putK kvs k y) j=if j=k then some y else aU kvs j:=by
 unfold putK
 by_cases a:(kvs.any fun kv=>decide (kv.1=k))=true
 . rw[bj a,pN]
   rw[cG]at a
   by_cases e:j=k
   . obtain⟨x,hx⟩:=Option.isSome_iff_exists.mp a
     rw[bj e,e,hx,Ze,bj rfl]
   . rw[bg e]
     cases aU kvs j with
     | none=>rfl
     | some x=>rw[Ze,bg e]
 . rw[bg a]
   show my k j y kvs ?_
   rw[cG]at a
   cases q:aU kvs k with
   | none=>rfl
   | some x=>rw[q]at a;show(a rfl).elim
def bO (kvs:List (κ×V))(k:κ)(v:V):(putK kvs k v).length<=kvs.length+1:=by
 unfold putK
 split
 . rw[Yk];lia
 . rw[Ym,YS,aat];lia
def kA {kvs:List (κ×V)}{k:κ}(v:V)(h:aU kvs k=none):putK kvs k v=kvs++[(k,v)]:=by
 unfold putK
 rw[cG,h]
 show bg (by left)
def fU.iV {o:Option V}{u:Option Value}(r:fU o u):o.isSome=u.isSome:=by
 cases o with
 | none=>cases u with
   | none=>rfl
   | some _=>show(show False from r).elim
 | some _=>cases u with
   | none=>show(show False from r).elim
   | some _=>rfl
theorem fU.getD {o:Option V}{u:Option Value}{d:V}{d':Value}(r:fU o u)(rd:RelV d d'):RelV (o.getD d) (u.getD d'):=by
 cases o with
 | none=>cases u with
   | none=>show rd
   | some _=>show(show False from r).elim
 | some _=>cases u with
   | none=>show(show False from r).elim
   | some _=>show r
def KV.val {kvs:List (κ×V)}{vs:List (κ×Value)}(r:KV kvs vs)(k:κ):fU (aU kvs k) (valueAt vs k):=by
 unfold KV at r
 induction r with
 | nil=>show Y5
 | @cons p q ps qs h t ih=>
   obtain⟨h1,h2⟩:=h
   by_cases e:p.1=k
   . have e':q.1=k:=h1.symm.trans e
     have b:valueAt (q::qs) k=some q.2:=by simp[valueAt,Zy,e']
     rw[bZ e,b];show h2
   . have e':¬ q.1=k:=fun z=>e (h1.trans z)
     have b:valueAt (q::qs) k=valueAt qs k:=by simp[valueAt,Zy,e']
     rw[bT e,b];show ih
theorem KV.any {kvs:List (κ×V)}{vs:List (κ×Value)}(r:KV kvs vs)(k:κ):(kvs.any fun kv=>decide (kv.1=k))=vs.any fun kv=>decide (kv.1=k):=by
 unfold KV at r
 induction r with
 | nil=>rfl
 | cons h t ih=>rw[aap,aap,ih,h.1]
def KV.F2 {kvs:List (κ×V)}{vs:List (κ×Value)}(r:KV kvs vs)(k:κ){y:V}{u:Value}(ry:RelV y u) :
   KV (kvs.map fun kv=>if kv.1=k then(kv.1,y)else kv) (vs.map fun kv=>if kv.1=k then(kv.1,u)else kv):=by
 unfold KV at r ⊢
 induction r with
 | nil=>show .nil
 | @cons p q ps qs h t ih=>
   rw[YM,YM]
   show .cons ?_ ih
   obtain⟨h1,h2⟩:=h
   by_cases e:p.1=k
   . rw[bj e,bj (h1.symm.trans e)];show⟨h1,ry⟩
   . rw[bg e,bg (fun z=>e (h1.trans z))];show⟨h1,h2⟩
def KV.put {kvs:List (κ×V)}{vs:List (κ×Value)}(r:KV kvs vs)(k:κ){y:V}{u:Value}(ry:RelV y u):KV (putK kvs k y) (stored vs k u):=by
 unfold putK stored
 rw[r.any k]
 by_cases e:(vs.any fun kv=>decide (kv.1=k))=true
 . rw[bj e,bj e];show r.F2 k ry
 . rw[bg e,bg e];show Paired.snoc r ⟨rfl,ry⟩
def KV.drop {kvs:List (κ×V)}{vs:List (κ×Value)}(r:KV kvs vs)(k:κ):KV (jc kvs k) (without vs k):=by
 unfold KV at r ⊢
 unfold jc without
 induction r with
 | nil=>show .nil
 | @cons p q ps qs h t ih=>
   obtain⟨h1,h2⟩:=h
   rw[aaj,aaj]
   by_cases e:p.1=k
   . have a:¬ decide (p.1≠k)=true:=by simp[e]
     have b:¬ decide (q.1≠k)=true:=by simp[h1.symm.trans e]
     rw[bg a,bg b];show ih
   . have e':¬ q.1=k:=fun z=>e (h1.trans z)
     have a:decide (p.1≠k)=true:=by simp[e]
     have b:decide (q.1≠k)=true:=by simp[e']
     rw[bj a,bj b];show .cons ⟨h1,h2⟩ ih
def KV.length {kvs:List (κ×V)}{vs:List (κ×Value)}(r:KV kvs vs):kvs.length=vs.length:=Paired.length r
def om (kvs:List (κ×V))(k:κ):(jc kvs k).length<=kvs.length:=aaX _ _
end
def hG {P:Program}{w:World}{k:Key}{u:Value}(r:RelV (kV k) u):(aL P w).is k u=true:=by
 cases k with
 | inl i=>obtain⟨t,e⟩:=(show ∃t,u=abr i t from r);subst e;show oG P w i t
 | inr x=>obtain⟨t,e⟩:=(show ∃t,u=abY x t from r);subst e;show oH P w x t
theorem lU {P:Program}{w:World}:∀{ks:List Key} {us:List Value},Vals (ks.map kV) us->ItemsAre (aL P w) ks us
 | [],_,r=>by rw[abo]at r;cases r;show .nil
 | k::ks,_,r=>by
   rw[YM]at r
   cases r with
   | cons h t=>show .cons (hG h) (lU t)
abbrev KT (H:Hp):List (List Key×V)->List (List Key×Addr×Value)->Prop:=Paired fun p q=>p.1=q.1/\H q.2.1=some (.tup (p.1.map kV))/\RelV p.2 q.2.2
def KT.val {H:Hp}{kvs:List (List Key×V)}{xs:List (List Key×Addr×Value)}(r:KT H kvs xs)(k:List Key):fU (aU kvs k) ((atKey xs k).map (·.2)):=by
 induction r with
 | nil=>show Y5
 | @cons p q ps qs h t ih=>
   obtain⟨h1,_,h2⟩:=h
   by_cases e:p.1=k
   . have e':q.1=k:=h1.symm.trans e
     have b:atKey (q::qs) k=some q.2:=by simp[atKey,Zy,e']
     rw[bZ e,b];show h2
   . have e':¬ q.1=k:=fun z=>e (h1.trans z)
     have b:atKey (q::qs) k=atKey qs k:=by simp[atKey,Zy,e']
     rw[bT e,b];show ih
def KT.F2 {H:Hp}{kvs:List (List Key×V)}{xs:List (List Key×Addr×Value)}(r:KT H kvs xs)(k:List Key){y:V}{u:Value}(ry:RelV y u) :
   KT H (kvs.map fun kv=>if kv.1=k then(kv.1,y)else kv) (xs.map (putAt k u)):=by
 induction r with
 | nil=>show .nil
 | @cons p q ps qs h t ih=>
   rw[YM,YM]
   show .cons ?_ ih
   obtain⟨h1,h2,h3⟩:=h
   unfold putAt
   by_cases e:p.1=k
   . rw[bj e,bj (h1.symm.trans e)];show⟨h1,h2,ry⟩
   . rw[bg e,bg (fun z=>e (h1.trans z))];show⟨h1,h2,h3⟩
def KT.put {H:Hp}{kvs:List (List Key×V)}{xs:List (List Key×Addr×Value)}(r:KT H kvs xs)(k:List Key){b:Addr}{y:V}{u:Value}(hb:H b=some (.tup (k.map kV)))(ry:RelV y u) :
   KT H (putK kvs k y) (storedH xs k b u):=by
 have e:(kvs.any fun kv=>decide (kv.1=k))=(atKey xs k).isSome:=by
   rw[cG,(r.val k).iV,abe]
 unfold putK storedH
 rw[e]
 by_cases q:(atKey xs k).isSome=true
 . rw[bj q,bj q];show r.F2 k ry
 . rw[bg q,bg q];show Paired.snoc r ⟨rfl,hb,ry⟩
def KT.keeps {H H':Hp}{kvs:List (List Key×V)}{xs:List (List Key×Addr×Value)}(r:KT H kvs xs)(ht:∀b ys,H b=some (.tup ys)->H' b=some (.tup ys)):KT H' kvs xs:=
 Paired.aZ r fun y y z=>⟨z.1,ht _ _ z.2.1,z.2.2⟩
section
variable{P:Program}{w:World}{H:Hp}{h:Heap}{a:Addr}
def CF {u:HO}(ok:eS P w H h)(e:Rd H a u):bC P w H h a u:=e.ok ok
def oj {kvs:List (Key×V)}(ok:eS P w H h)(e:Rd H a (.dK kvs)):kvs.length<=sizeLine/\(a==Zv)=false/\∃vs,KV kvs vs/\h.DictOf (aL P w) a vs:=
 show bC P w H h a (.dK kvs)from CF ok e
def ja {kvs:List (Key×V)}(ok:eS P w H h)(e:H a=some (.dK kvs)):kvs.length<=sizeLine/\(a==Zv)=false/\∃vs,KV kvs vs/\h.DictOf (aL P w) a vs:=oj ok (.inl e)
def kc {ks:List Key}(ok:eS P w H h)(e:H a=some (.tup (ks.map kV))):(tupleKind (aL P w)).is h ks a:=by
 obtain⟨_,aM,r,o,h1,h2,n,h3⟩:=(show bC P w H h a (.tup (ks.map kV))from ok a _ e)
 show⟨o,aM.toArray,n,h1,h2,h3,by simpa using lU r⟩
def oq {kvs:List (List Key×V)}(ok:eS P w H h)(e:Rd H a (.dT kvs)):kvs.length<=sizeLine/\(a==Zv)=false /\
   ∃xs,KT H kvs xs/\h.DictOfH (tupleKind (aL P w)) a xs:=by
 obtain⟨z,y,xs,r,o,es,ep,h1,h2,h3,h4,h5⟩:=(show bC P w H h a (.dT kvs)from CF ok e)
 show⟨z,y,xs,r,o,es,ep,h1,h2,h3,h4,fun x hx=>?_,h5⟩
 have all:∀{l:List (List Key×V)} {m:List (List Key×Addr×Value)},KT H l m->∀x∈m,(tupleKind (aL P w)).is h x.1 x.2.1:=by
   intro l m q
   induction q with
   | nil=>intro x hx;show nomatch hx
   | @cons p q ps qs hq t ih=>
     intro x hx
     rcases List.mem_cons.mp hx with e|hx
     . subst e
       show kc ok (by rw[← hq.1];show hq.2.1)
     . show ih x hx
 show all r x hx
def Im {kvs:List (List Key×V)}(ok:eS P w H h)(e:H a=some (.dT kvs)):kvs.length<=sizeLine/\(a==Zv)=false /\
   ∃xs,KT H kvs xs/\h.DictOfH (tupleKind (aL P w)) a xs:=oq ok (.inl e)
end
def cK (H:Hp)(a:Addr)(y:V)(r:Option V):Prop:=
 (∃kvs k,Rd H a (.dK kvs)/\y=kV k/\r=aU kvs k)\/∃kvs k b,Rd H a (.dT kvs)/\y=.ref b/\H b=some (.tup (k.map kV))/\r=aU kvs k
def jM (H:Hp)(a:Addr)(y v:V)(H':Hp):Prop:=
 (∃kvs k,H a=some (.dK kvs)/\y=kV k/\kvs.length<sizeLine/\H'=upd H a (.dK (putK kvs k v))) \/
 ∃kvs k b,H a=some (.dT kvs)/\y=.ref b/\H b=some (.tup (k.map kV))/\kvs.length<sizeLine/\H'=upd H a (.dT (putK kvs k v))
def cK.k {H:Hp}{a:Addr}{kvs:List (Key×V)}{k:Key}(e:H a=some (.dK kvs)):cK H a (kV k) (aU kvs k):=.inl ⟨kvs,k,.inl e,rfl,rfl⟩
def cK.t {H:Hp}{a b:Addr}{kvs:List (List Key×V)}{k:List Key}(e:H a=some (.dT kvs))(eb:H b=some (.tup (k.map kV))):cK H a (.ref b) (aU kvs k):=.inr ⟨kvs,k,b,.inl e,rfl,eb,rfl⟩
def jM.k {H:Hp}{a:Addr}{kvs:List (Key×V)}{k:Key}{v:V}(e:H a=some (.dK kvs))(hl:kvs.length<sizeLine):jM H a (kV k) v (upd H a (.dK (putK kvs k v))):=.inl ⟨kvs,k,e,rfl,hl,rfl⟩
def jM.t {H:Hp}{a b:Addr}{kvs:List (List Key×V)}{k:List Key}{v:V}(e:H a=some (.dT kvs))(eb:H b=some (.tup (k.map kV)))(hl:kvs.length<sizeLine) :
   jM H a (.ref b) v (upd H a (.dT (putK kvs k v))):=.inr ⟨kvs,k,b,e,rfl,eb,hl,rfl⟩
section
variable{X:Cx}{pins:List (Addr×Obj)}{σ:St}{H:Hp}{s:Shared}{a:Addr}{y v:V}{u r:Value}{o:Option V}{A:Around}{E:Value->Shared->Prop}
def Inv.big (I:Inv X pins σ H s):Zv<s.heap.objs.size:=by
 have h:Zd<s.heap.objs.size:=(I.mod.glob.keeps I.bk).lt
 show ab9 (by left) h
def uo {Q:Value->Shared->Prop}(hu:A.units+1<cLine)(I:Inv X pins σ H s)(g:cK H a y (some v))(ry:RelV y u)(h:∀w' s',Inv X pins σ H s'->RelV v w'->Q w' s') :
   wpAny (model X.prog X.w) A (getItem (.ref a) u) Q E s:=by
 rcases g with⟨kvs,k,e,ey,l⟩|⟨kvs,k,b,e,ey,eb,l⟩
 . subst ey
   obtain⟨z,hd,vs,rel,dd⟩:=oj I.hok e
   obtain⟨w',hw,rw'⟩:=fU.some_of (v:=v) (o:=valueAt vs k) (by rw[l];show rel.val k)
   show wpAny_getItem_of (hG ry) dd.mapOf hw (h w' _ (I.tok _) rw')
 . subst ey
   cases(show u=Y2 b from ry)
   obtain⟨z,hd,xs,rel,dd⟩:=oq I.hok e
   obtain⟨w',hw,rw'⟩:=fU.some_of (v:=v) (o:=(atKey xs k).map (·.2)) (by rw[l];show rel.val k)
   obtain⟨p,hp,uA⟩:=Option.map_eq_some_iff.mp hw
   show wpAny_getItem_heap (tupleKind_room_in1 hu) (kc I.hok eb) dd hp ?_
   rw[uA]
   show h w' _ (I.tok _) rw'
def dM {h':Heap}{t':Nat}{ob:HO}(I:Inv X pins σ H s)(mu:HI (H a))(hs:Za a s.heap h')(he:∃q,h'.get? a=some q)(new:bC X.prog X.w (upd H a ob) h' a ob) :
   Inv X pins σ (upd H a ob) {s with heap:=h',toks:=t'}:=
 I.write (x:=a) (e:=a) mu (.inl rfl) (fun b q hb z=>(hs.2 b hb).trans z) he new
def jV {P:Program}{w:World}{H':Hp}{h':Heap}{kvs:List (Key×V)}{vs:List (Key×Value)}(z:kvs.length<=sizeLine)(hd:(a==Zv)=false)(rel:KV kvs vs)(dd:h'.DictOf (aL P w) a vs) :
   bC P w H' h' a (.dK kvs):=⟨z,hd,vs,rel,dd⟩
end
section
variable{X:Cx}{pins:List (Addr×Obj)}{σ:St}{H:Hp}{s:Shared}{a:Addr}{kvs:List (Key×V)}{k:Key}{u:Value}{A:Around}{E:Value->Shared->Prop}
def Ih {v:V}{more:List Value}{Q:Value->Shared->Prop}(I:Inv X pins σ H s)(e:H a=some (.dK kvs))(ry:RelV (kV k) u)(l:aU kvs k=some v)(hm:more=[]\/∃x,more=[x])
   (h:∀w' s',Inv X pins σ (upd H a (.dK (jc kvs k))) s'->RelV v w'->Q w' s'):wpAny (model X.prog X.w) A (call (.builtin "dict.pop") (.ref a::u::more)) Q E s:=by
 obtain⟨z,hd,vs,rel,dd⟩:=ja I.hok e
 obtain⟨w',hw,rw'⟩:=fU.some_of (v:=v) (o:=valueAt vs k) (by rw[← l];show rel.val k)
 have hp:(keyPart u).isSome=true:=by
   cases k with
   | inl i=>obtain⟨t,q⟩:=(show ∃t,u=abr i t from ry);subst q;rfl
   | inr x=>obtain⟨t,q⟩:=(show ∃t,u=abY x t from ry);subst q;rfl
 have ha:argsOk "dict.pop" ⟨.ref a::u::more,[]⟩:=by
   rcases hm with q|⟨x,q⟩
   . subst q;show PySem.F.args_dict_pop_2 _ _
   . subst q;show PySem.F.args_dict_pop_3 _ _ _
 show abJ abT dd.typeIs PySem.F.entry_dict_pop ha (meets_dict_pop_there (aL X.prog X.w) a (hG ry) more hm hp)
   ⟨vs,w',dd,by rw[← rel.length];show z,hw,fun h' lM hs=>h w' _ ?_ rw'⟩
 have he:∃q,h'.get? a=some q:=by obtain⟨q,_,_,hq,_⟩:=lM;show⟨q,hq⟩
 show dM I (by rw[e];show Y5) hs he (jV (YU (om kvs k) z) hd (rel.drop k) lM)
end
def vJ (i:Expr):Prop:=∀ov iv,subscripted i false ov iv=operate [ov,iv] (getItem ov iv)
def tS {prog:Program}{w:World}{A:Around}{E:Value->Shared->Prop}{s:Shared}{env:Env}{value slice:Expr}{pos:Pos}{T id:String}{Q:Value->Shared->Prop}
   (hl:abC (.type T) "__getitem__"=pure (some (.builtin id))) (hs:vJ slice)
   (h:wpAny (model prog w) A (eval value env) (fun o s₁=>wpAny (model prog w) A (eval slice env) (fun i s₂=>s₂.TypeIs o T/\wpAny (model prog w) A (getItem o i) Q E s₂) E s₁) E s) :
   wpAny (model prog w) A (eval (.Subscript value slice pos) env) Q E s:=by
 show Subscript_ (wpAny_mono h (fun o s₁ h₁=>wpAny_mono h₁ (fun i s₂ h₂=>?_) fun z z x=>x) fun z z x=>x)
 obtain⟨hT,h₂⟩:=h₂
 unfold subscriptTail
 show wpAny_bind ?_
 rw[getitemInPython_of_ne hT.not_modules]
 show wpAny_bind (wpAny_specialOf hT hl ?_)
 have fin:wpAny (model prog w) A (subscripted slice false o i) (fun r s₃=>wpAny (model prog w) A (letTemporaryGo value o r>>=fun z=>pure r) Q E s₃) E s₂:=by
   rw[hs o i]
   show wpAny_operating (wpAny_mono h₂ (fun r s₃ h₃=>wpAny_bind (wpAny_letTemporaryGo (wpAny_pure h₃))) fun z z x=>x)
 first
   | show wpAny_pure (wpAny_bind fin)
   | show wpAny_bind (wpAny_pure (wpAny_bind fin))
   | show wpAny_bind fin
def oi {X:Cx}{pins:List (Addr×Obj)}{σ:St}{H:Hp}{s:Shared}{a:Addr}{y:V}{o:Option V}(I:Inv X pins σ H s)(g:cK H a y o):s.TypeIs (.ref a) "dict":=by
 rcases g with⟨kvs,k,e,_,_⟩|⟨kvs,k,b,e,_,_,_⟩
 . obtain⟨_,_,vs,_,dd⟩:=oj I.hok e
   show dd.typeIs
 . obtain⟨_,_,xs,_,dd⟩:=oq I.hok e
   show dd.typeIs
def C1 (td ty:TE):TE:=fun σ H Q=>td σ H fun x H1=>ty σ H1 fun y H2=>∃a v,x=.ref a/\cK H2 a y (some v)/\Q v H2
section
variable{X:Cx}{o i e value:Expr}{pos pos' WK:Pos}{td ty tv:TE}
def A6 (hu:X.A.units+1<cLine)(ho:PE X o td)(hi:PE X i ty)(hs:vJ i):PE X (.Subscript o i pos) (C1 td ty):=by
 intro pins s σ H Q I h
 show tS PySem.F.slot_dict_getitem.lookup hs (bq (ho pins s σ H _ I h) fun u s1 g9=>?_)
 obtain⟨x,H1,I1,rx,q1⟩:=g9
 show bq (hi pins s1 σ H1 _ I1 q1) fun iv s2 h9=>?_
 obtain⟨y,H2,I2,ry,a,v,ex,g,q2⟩:=h9
 subst ex
 obtain rfl:u=Y2 a:=rx
 show⟨oi I2 g,uo hu I2 g ry fun w' s3 I3 rw'=>⟨v,H2,I3,rw',q2⟩⟩
end
def gP {P:Program}{w:World}{H:Hp}(h:Heap)(hb:Zv<h.objs.size):bC P w H (h.push {cls:=.type "dict",data:=.dict #[]}) h.objs.size (.dK []):=
 ⟨YY _,beq_eq_false_iff_ne.mpr (Ne.symm (YJ hb)),[],.nil,abc h⟩
def v7 {P:Program}{w:World}{H:Hp}(h:Heap)(hb:Zv<h.objs.size):bC P w H (h.push {cls:=.type "dict",data:=.dict #[]}) h.objs.size (.dT []):=
 ⟨YY _,beq_eq_false_iff_ne.mpr (Ne.symm (YJ hb)),[],.nil,_,#[],0,YG _ rfl,⟨rfl,rfl,rfl⟩,rfl,rfl,ZF⟩
def rp:List (TE×TE)->St->Hp->(List (V×V)->Hp->Prop)->Prop
 | [],_,H,Q=>Q [] H
 | (tk,tv)::r,σ,H,Q=>tk σ H fun x H1=>tv σ H1 fun y H2=>rp r σ H2 fun ps H3=>Q ((x,y)::ps) H3
abbrev VV:List (V×V)->List (Value×Value)->Prop:=Paired fun p q=>RelV p.1 q.1/\RelV p.2 q.2
def HK (X:Cx)(pos:Pos)(keys:List (Option Expr))(values:List Expr)(trs:List (TE×TE)):Prop:=
 ∀(pins:List (Addr×Obj)) (s:Shared) (σ:St) (H:Hp) (Q:List (V×V)->Hp->Prop),Inv X pins σ H s->rp trs σ H Q ->
   wpAny (model X.prog X.w) X.A (evalPairs (pairTrees keys values X.env pos)) (fun vs s'=>∃ps H',Inv X pins σ H' s'/\VV ps vs/\Q ps H') X.xe s
def Bg {X:Cx}{pos:Pos}:HK X pos [] [] []:=fun pins s σ H Q I h=>pairTrees_nil_walk ⟨[],H,I,.nil,h⟩
def xX {X:Cx}{pos:Pos}{k v:Expr}{ks:List (Option Expr)}{vs:List Expr}{tk tv:TE}{trs:List (TE×TE)}(hk:PE X k tk)(hv:PE X v tv)(hr:HK X pos ks vs trs) :
   HK X pos (some k::ks) (v::vs) ((tk,tv)::trs):=fun pins s σ H Q I h=>
 pairTrees_cons_walk (bq (hk pins s σ H _ I h) fun u s1 ⟨x,H1,I1,rx,q1⟩=>bq (hv pins s1 σ H1 _ I1 q1) fun w2 s2 ⟨y,H2,I2,ry,q2⟩=>
   bq (hr pins s2 σ H2 _ I2 q2) fun ws s3 ⟨ps,H3,I3,rel,q3⟩=>⟨(x,y)::ps,H3,I3,.cons ⟨rx,ry⟩ rel,q3⟩)
def kg (kvs more:List (Key×V)):List (Key×V):=more.foldl (fun acc kv=>putK acc kv.1 kv.2) kvs
def KV.merge:∀{more:List (Key×V)} {rs:List (Key×Value)} {kvs:List (Key×V)} {vs:List (Key×Value)},KV more rs->KV kvs vs->KV (kg kvs more) (merged vs rs):=by
 intro more rs kvs vs r
 unfold KV at r
 induction r generalizing kvs vs with
 | nil=>intro q;show q
 | @cons p q ps qs h t ih=>
   intro r0
   have e:KV (putK kvs p.1 p.2) (stored vs q.1 q.2):=by
     have:=r0.put p.1 h.2
     rw[← h.1];show this
   show ih e
theorem fR:∀(more kvs:List (Key×V)),(kg kvs more).length<=kvs.length+more.length
 | [],kvs=>by change kvs.length<=kvs.length+0;lia
 | p::r,kvs=>by
   have h1:=fR r (putK kvs p.1 p.2)
   have h2:=bO kvs p.1 p.2
   change(kg (putK kvs p.1 p.2) r).length<=_
   rw[YS];lia
theorem jS {P:Program}{w:World}:∀{kvs:List (Key×V)} {ws:List (Value×Value)},VV (kvs.map fun kv=>(kV kv.1,kv.2)) ws->∃rs,Carries (aL P w) ws rs/\KV kvs rs
 | [],_,r=>by rw[abo]at r;cases r;show⟨[],Y5,.nil⟩
 | p::kvs,_,r=>by
   rw[YM]at r
   cases r with
   | @cons a b as bs h t=>
     obtain⟨rs,c,q⟩:=jS (P:=P) (w:=w) t
     obtain⟨b1,b2⟩:=b
     show⟨(p.1,b2)::rs,⟨hG h.1,U,c⟩,.cons ⟨U,h.2⟩ q⟩
def C3 (trs:List (TE×TE)):TE:=fun σ H Q=>∀p,H p=none->rp trs σ (upd H p (.dK [])) fun ps H2=>H2 p=some (.dK [])/\∃kvs:List (Key×V),ps=kvs.map (fun kv=>(kV kv.1,kv.2))/\kvs.length<=15/\Q (.ref p) (upd H2 p (.dK (kg [] kvs)))
def A7 {X:Cx}{pos:Pos}{keys:List (Option Expr)}{values:List Expr}{trs:List (TE×TE)}(h:HK X pos keys values trs)(hall:keys.all (·.isSome)=true)(hl:keys.length=values.length)(h0:keys≠[])
   (h15:keys.length<=15):PE X (.Dict keys values pos) (C3 trs):=by
 intro pins s σ H Q I q
 have hn:=I.hok.fresh (Yo s.heap.objs.size)
 have I1:=I.laid (a:=s.heap.objs.size) (o:=.dK []) (h':=s.heap.push {cls:=.type "dict",data:=.dict #[]}) (t':=s.toks) (fun y y q=>Yr _ q) (Yo _) (gP s.heap I.big)
 show wpAny_Dict_walk (knd:=aL X.prog X.w) hall hl h0 h15 (bq (h pins _ σ _ _ I1 (q _ hn)) fun ws s2 h9=>?_)
 obtain⟨ps,H2,I2,rel,e,kvs,ep,lk,q2⟩:=h9
 subst ep
 obtain⟨rs,c,rk⟩:=jS (P:=X.prog) (w:=X.w) rel
 obtain⟨z,hd,Yi,r0,dd⟩:=ja I2.hok e
 cases r0
 show⟨rs,c,dd,fun h' lM hs=>⟨.ref s.heap.objs.size,_,?_,U,q2⟩⟩
 have hz:(kg [] kvs).length<=sizeLine:=by
   have h1:=fR kvs []
   rw[aat]at h1
   rw[sizeLine_eq];lia
 have he:∃q,h'.get? s.heap.objs.size=some q:=by obtain⟨q,_,_,hq,_⟩:=lM;show⟨q,hq⟩
 show dM I2 (by rw[e];show Y5) hs he (jV hz hd (rk.merge .nil) lM)
structure M1 (X:Cx)(o:Expr)(m:Str)(apos:Pos)(e:Expr)(cpos:Pos):Prop where
 base:Zw o m X.env (eval o X.env)=eval o X.env
 jv:((backTo cpos (starEach [e] X.env)).all (fun x=>!x.1)&&(backToKw cpos (keywordEach [] X.env)).all (fun x=>x.1.isSome)
   && decide (([e]:List Expr).length+([]:List Keyword).length+(if([]:List Keyword).isEmpty then 0 else 1)<30))=true
 line:(apos.endLine==cpos.line)=true
 trees:backTo cpos (starEach [e] X.env)=[(false,eval e X.env)]
structure M2 (X:Cx)(o:Expr)(m:Str)(apos:Pos)(e f:Expr)(cpos:Pos):Prop where
 base:Zw o m X.env (eval o X.env)=eval o X.env
 jv:((backTo cpos (starEach [e,f] X.env)).all (fun x=>!x.1)&&(backToKw cpos (keywordEach [] X.env)).all (fun x=>x.1.isSome)
   && decide (([e,f]:List Expr).length+([]:List Keyword).length+(if([]:List Keyword).isEmpty then 0 else 1)<30))=true
 line:(apos.endLine==cpos.line)=true
 trees:backTo cpos (starEach [e,f] X.env)=[(false,eval e X.env),(false,eval f X.env)]
def MT (H:Hp)(a:Addr):Prop:=(∃kvs,Rd H a (.dK kvs))\/∃kvs,Rd H a (.dT kvs)
def wN {X:Cx}{pins:List (Addr×Obj)}{σ:St}{H:Hp}{s:Shared}{a:Addr}(I:Inv X pins σ H s)(d:MT H a) :
   s.TypeIs (.ref a) "dict"/\(∀b,Y2 a=.ref b->∃ob,s.heap.get? b=some ob/\ob.dict=none)/\(a==Zv)=false:=by
 rcases d with⟨kvs,e⟩|⟨kvs,e⟩
 . obtain⟨_,hd,vs,_,dd⟩:=oj I.hok e
   show⟨dd.typeIs,fun b q=>?_,hd⟩
   cases q
   obtain⟨ob,_,_,h1,h2,_⟩:=dd
   show⟨ob,h1,h2.2.1⟩
 . obtain⟨_,hd,xs,_,dd⟩:=oq I.hok e
   show⟨dd.typeIs,fun b q=>?_,hd⟩
   cases q
   obtain⟨ob,_,_,h1,h2,_⟩:=dd
   show⟨ob,h1,h2.2.1⟩
section
variable{X:Cx}{pins:List (Addr×Obj)}{σ:St}{H:Hp}{s:Shared}{a:Addr}{y d:V}{u r:Value}{o:Option V}{A:Around}{E:Value->Shared->Prop}
def DD {Q:Value->Shared->Prop}(hu:A.units+1<cLine)(I:Inv X pins σ H s)(g:cK H a y o)(ry:RelV y u)(rd:RelV d r)(h:∀w' s',Inv X pins σ H s'->RelV (o.getD d) w'->Q w' s') :
   wpAny (model X.prog X.w) A (call (.builtin "dict.get") [.ref a,u,r]) Q E s:=by
 rcases g with⟨kvs,k,e,ey,l⟩|⟨kvs,k,b,e,ey,eb,l⟩
 . subst ey
   obtain⟨z,hd,vs,rel,dd⟩:=oj I.hok e
   show abJ aaN dd.typeIs abM (abH _ _ _) (meets_dict_get_default (aL X.prog X.w) a (hG ry) hd r) ⟨_,dd.mapOf,h _ _ (I.tok _) ?_⟩
   rw[l]
   show(rel.val k).getD rd
 . subst ey
   cases(show u=Y2 b from ry)
   obtain⟨z,hd,xs,rel,dd⟩:=oq I.hok e
   show abJ aaN dd.typeIs abM (abH _ _ _) (meetsH_dict_get_default (tupleKind (aL X.prog X.w)) a b hd r) ⟨tupleKind_room_in1 hu,k,xs,kc I.hok eb,dd,h _ _ (I.tok _) ?_⟩
   rw[l]
   show(rel.val k).getD rd
end
def yX (td ty tx:TE):TE:=fun σ H Q=>td σ H fun x H1=>∃a,x=.ref a/\MT H1 a/\ty σ H1 fun y H2=>tx σ H2 fun z H3=>∃o,cK H3 a y o/\Q (o.getD z) H3
def yZ (td ty:TE):TE:=fun σ H Q=>td σ H fun x H1=>∃a,x=.ref a/\MT H1 a/\ty σ H1 fun y H2=>∃kvs k v,H2 a=some (.dK kvs)/\y=kV k/\aU kvs k=some v/\Q v (upd H2 a (.dK (jc kvs k)))
section
variable{X:Cx}{o e f:Expr}{apos cpos:Pos}{td ty tx:TE}
def xN (hu:X.A.units+1<cLine)(ho:PE X o td)(he:PE X e ty)(hf:PE X f tx)(m:M2 X o "get" apos e f cpos):PE X (.Call (.Attribute o "get" apos) [e,f] [] cpos) (yX td ty tx):=by
 intro pins s σ H Q I h
 show wpAny_Call_method m.base m.jv m.line aaF aaN PySem.F.type_dict_get (bq (ho pins s σ H _ I h) fun u s1 h9=>?_)
 obtain⟨x,H1,I1,rx,a,ex,d,q1⟩:=h9
 subst ex
 obtain rfl:u=Y2 a:=rx
 obtain⟨t1,t2,_⟩:=wN I1 d
 show⟨t1,t2,?_⟩
 rw[m.trees]
 show Z8 rfl (aak (ZH (bq (he pins s1 σ H1 _ I1 q1) fun iv s2 ⟨y,H2,I2,ry,q2⟩=>
   ZH (bq (hf pins s2 σ H2 _ I2 q2) fun fv s3 ⟨z,H3,I3,rz,ov,g,q3⟩=>aaa ?_))))
 show DD hu I3 g ry rz fun w' s4 I4 rw'=>⟨_,H3,I4,rw',q3⟩
def xP (ho:PE X o td)(he:PE X e ty)(m:M1 X o "pop" apos e cpos):PE X (.Call (.Attribute o "pop" apos) [e] [] cpos) (yZ td ty):=by
 intro pins s σ H Q I h
 show wpAny_Call_method m.base m.jv m.line aaF abT PySem.F.type_dict_pop (bq (ho pins s σ H _ I h) fun u s1 h9=>?_)
 obtain⟨x,H1,I1,rx,a,ex,d,q1⟩:=h9
 subst ex
 obtain rfl:u=Y2 a:=rx
 obtain⟨t1,t2,_⟩:=wN I1 d
 show⟨t1,t2,?_⟩
 rw[m.trees]
 show Z8 rfl (aak (ZH (bq (he pins s1 σ H1 _ I1 q1) fun iv s2 g9=>?_)))
 obtain⟨y,H2,I2,ry,kvs,k,v,ea,ey,l,q2⟩:=g9
 show aaa ?_
 subst ey
 show Ih I2 ea ry l (.inl rfl) fun w' s3 I3 rw'=>⟨v,_,I3,rw',q2⟩
end
section
variable{κ:Type}[DecidableEq κ]
def dJ {kvs:List (κ×V)}{k:κ}(h:aU kvs k=none):¬ k∈kvs.map (·.1):=by
 intro m
 obtain⟨p,hp,e⟩:=List.mem_map.mp m
 have q:(kvs.any fun kv=>decide (kv.1=k))=true:=List.any_eq_true.mpr ⟨p,hp,cH e⟩
 rw[cG,h]at q
 show az q (by simp)
def cq {kvs:List (κ×V)}{k:κ}{v:V}(h:aU kvs k=some v):k∈kvs.map (·.1):=by
 have q:(kvs.any fun kv=>decide (kv.1=k))=true:=by
   rw[cG,h]
   all_goals rfl
 obtain⟨p,hp,e⟩:=List.any_eq_true.mp q
 show List.mem_map.mpr ⟨p,hp,cZ e⟩
theorem mZ:∀{l:List κ} {k:κ},l.Nodup->¬ k∈l->(l++[k]).Nodup
 | [],k,_,_=>by simp
 | a::r,k,h,hk=>by
   obtain⟨h1,h2⟩:=List.nodup_cons.mp h
   change(a::(r++[k])).Nodup
   show List.nodup_cons.mpr ⟨fun m=>?_,mZ h2 fun m=>hk (List.mem_cons.mpr (Or.inr m))⟩
   rcases List.mem_append.mp m with q|q
   . show h1 q
   . show hk (List.mem_cons.mpr (Or.inl (List.mem_singleton.mp q).symm))
def Av {kvs:List (κ×V)}{k:κ}(v:V)(hn:(kvs.map (·.1)).Nodup)(h:aU kvs k=none):((putK kvs k v).map (·.1)).Nodup:=by
 rw[kA v h,Yt]
 show mZ hn (dJ h)
end
def fY (scope:Scope)(env:Env):List (Str×Addr):=
 (scope.names.filterMap fun(p:Str×aac)=>if p.2==.free then(env.cells.lookup p.1).map fun c=>(p.1,c)else none).reverse
theorem jT (env:Env):∀(l:List (Str×aac)) (acc:List (Str×Addr)),(∀p∈l,p.2=.free->∃c,env.cells.lookup p.1=some c) ->
   (forIn l acc fun(x:Str×aac) (r:List (Str×Addr))=>if(x.2==YX)=true then do let c←cellOf env x.1;pure (ZZ ((x.1,c)::r))else pure (ZZ r):Sem (List (Str×Addr))) =
     pure ((l.filterMap fun(p:Str×aac)=>if p.2==.free then(env.cells.lookup p.1).map fun c=>(p.1,c)else none).reverse++acc)
 | [],acc,_=>rfl
 | p::l,acc,h=>by
   have ih:=fun acc=>jT env l acc fun q hq=>h q (Y1 _ hq)
   rw[aaw]
   by_cases hp:p.2=.free
   . obtain⟨c,hc⟩:=h p Y9 hp
     have e:(p.2==YX)=true:=by rw[hp];rfl
     rw[bj e]
     have ec:cellOf env p.1=pure c:=by unfold cellOf;rw[hc]
     rw[ec,Z1,bj e,hc]
     change(forIn l ((p.1,c)::acc) _:Sem _)=_
     rw[ih]
     simp
   . have e:¬ (p.2==YX)=true:=by intro z;show hp (by simpa using z)
     rw[bg e,Z1,bg e]
     change(forIn l acc _:Sem _)=_
     rw[ih]
def p9 {scope:Scope}{env:Env}(h:∀p∈scope.names,p.2=.free->∃c,env.cells.lookup p.1=some c):closureFor scope env=pure (fY scope env):=by
 have e:=jT env scope.names [] h
 rw[YO]at e
 change((forIn scope.names [] fun(x:Str×aac) (r:List (Str×Addr))=>if(x.2==YX)=true then do let c←cellOf env x.1;pure (ZZ ((x.1,c)::r))else pure (ZZ r))>>=fun cs=>pure cs:Sem (List (Str×Addr)))=_
 rw[e]
 rfl
def p8 {scope:Scope}{env:Env}{x:Str}{c:Addr}(h:(x,c)∈fY scope env):(x,YX)∈scope.names/\env.cells.lookup x=some c:=by
 unfold fY at h
 obtain⟨p,hp,e⟩:=List.mem_filterMap.mp (List.mem_reverse.mp h)
 obtain⟨n,k⟩:=p
 dsimp only at e
 by_cases hk:(k==YX)=true
 . rw[bj hk]at e
   have D7:k=.free:=by simpa using hk
   subst D7
   cases q:env.cells.lookup n with
   | none=>rw[q]at e;cases e
   | some c'=>rw[q]at e;cases e;show⟨hp,q⟩
 . rw[bg hk]at e;cases e
def lJ {scope:Scope}{env:Env}{x:Str}{c:Addr}(hm:(x,YX)∈scope.names)(hc:env.cells.lookup x=some c):(fY scope env).lookup x=some c:=by
 have hin:(x,c)∈fY scope env:=by
   unfold fY
   show List.mem_reverse.mpr (List.mem_filterMap.mpr ⟨(x,.free),hm,?_⟩)
   simp[hc]
 cases q:(fY scope env).lookup x with
 | none=>
   have:=List.lookup_eq_none_iff.mp q (x,c) hin
   simp at this
 | some c'=>
   obtain⟨_,e⟩:=p8 (Y7 q)
   rw[hc]at e
   show e.symm
structure aW (sc:Scope)(env:Scope):Prop where
 kind:sc.kind=.function
 cell:∀y∈sc.names,y.2≠.cell
 names:∀x∈sc.names,x.2=.local->sc.names.lookup x.1=some .local
 free:∀x∈sc.names,x.2=.free->env.names.lookup x.1=some .cell\/env.names.lookup x.1=some .free
def b7 (sc:Scope)(src:List (Option Nat))(N' N:List Str):Bool:=
 src.length==N'.length&&(src.zip N').all fun p=>match p.1 with
   | none=>true
   | some j=>N[j]?==some p.2&&sc.names.lookup p.2==some .free
def capσ (src:List (Option Nat))(σ:St):St:=src.map fun o=>match o with
 | none=>none
 | some j=>match σ[j]? with
   | some v=>v
   | none=>none
def zI {sc:Scope}{N N':List Str}{src:List (Option Nat)}(h:b7 sc src N' N=true){i:Nat}{x:Str}{j:Nat}(h1:src[i]?=some (some j))(h2:N'[i]?=some x):N[j]?=some x/\sc.names.lookup x=some .free:=by
 unfold b7 at h
 have h':=(Zp _ _▸h).2
 have hz:(src.zip N')[i]?=some (some j,x):=by rw[List.getElem?_zip_eq_some];show⟨h1,h2⟩
 have q:=List.all_eq_true.mp h' _ (Yq hz)
 simpa using q
def vU {sc:Scope}{N N':List Str}{src:List (Option Nat)}(h:b7 sc src N' N=true):src.length=N'.length:=by
 unfold b7 at h
 have h':=(Zp _ _▸h).1
 simpa using h'
def cv (X:Cx)(N':List Str)(sc:Scope)(s:Shared)(H:Hp)(C:Addr)(fp:List Addr)(xe:Value->Shared->Prop):Cx where
 prog:=X.prog
 w:=X.w
 K:=X.K
 mg:=X.mg
 base:=X.base
 A:=X.A
 N:=N'
 s₀:=s
 H₀:=H
 env:=compEnvC sc (fY sc X.env) C X.env
 outer:=X.stack
 stack:=X.stack
 ex:=fp
 fn:=fun z=>false
 calm:=X.calm
 pn:=[]
 xe:=xe
theorem ff {sc:Scope}{env:Env}{x:Str}:∀{names:List (Str×aac)},
   (names.map fun(p:Str×aac)=>if(p.2==YX&&env.scope.kind==.function&&env.kindOf p.1==some .cell)then(p.1,aby)else(p.1,p.2)).lookup x =
     (names.lookup x).map fun k=>if(k==YX&&env.scope.kind==.function&&env.kindOf x==some .cell)then aby else k
 | []=>rfl
 | (n,k)::r=>by
   have ih:=@ff sc env x r
   rw[YM]
   cases hx:x==n with
   | true=>
     have e:x=n:=by simpa using hx
     subst e
     by_cases hc:(k==YX&&env.scope.kind==.function&&env.kindOf x==some .cell)=true
     . simp only[hc,if_true,aaO,hx,Ze]
     . simp only[hc,if_false,aaO,hx,Ze,Zg]
   | false=>
     by_cases hc:(k==YX&&env.scope.kind==.function&&env.kindOf n==some .cell)=true
     . simp only[hc,if_true,aaO,hx];show ih
     . simp only[hc,if_false,aaO,hx,Zg];show ih
def iQ {sc:Scope}{env:Env}{cl:List (Str×Addr)}{C:Addr}(x:Str):(compEnvC sc cl C env).kindOf x =
   (sc.names.lookup x).map fun k=>if(k==YX&&env.scope.kind==.function&&env.kindOf x==some .cell)then aby else k:=
 ff (sc:=sc) (env:=env)
section
variable{X:Cx}{pins:List (Addr×Obj)}{σ:St}{H:Hp}{s:Shared}{N':List Str}{sc:Scope}{src:List (Option Nat)}{fp:List Addr}{xe:Value->Shared->Prop}
def qa (I:Inv X pins σ H s)(S:aW sc X.env.scope)(hc:b7 sc src N' X.N=true)(hf:∀b∈fp,cU X pins H b)(ho:∀b∈fp,∃o,s.heap.get? b=some o){h₁:Heap}{tk:Nat}
   (hn:h₁.Ns s.heap.objs.size (fun t=>none)) (hk:∀b o,s.heap.get? b=some o->h₁.get? b=some o) :
   Inv (cv X N' sc s H s.heap.objs.size fp xe) [] (capσ src σ) H {s with heap:=h₁,toks:=tk}:=by
 have cellmem:∀x c,(fY sc X.env).lookup x=some c->X.env.cells.lookup x=some c:=fun x c e=>(p8 (Y7 e)).2
 have isfree:∀x,((compEnvC sc (fY sc X.env) s.heap.objs.size X.env).kindOf x=some .cell\/(compEnvC sc (fY sc X.env) s.heap.objs.size X.env).kindOf x=some .free)->(x,YX)∈sc.names:=fun x hx=>by
   rw[iQ]at hx
   cases q:sc.names.lookup x with
   | none=>rw[q]at hx;simp at hx
   | some k=>
     have hm:=Y7 q
     by_cases N4:k=.free
     . subst N4;show hm
     . have:(k==YX)=false:=by simpa using N4
       have e2:(k==YX&&X.env.scope.kind==.function&&X.env.kindOf x==some .cell)=false:=by rw[this];rfl
       rw[q,Ze,e2]at hx
       have vC:(some k:Option aac)=some .cell\/(some k:Option aac)=some .free:=hx
       rcases vC with hx|hx
       . show az (YQ hx) (S.cell _ hm)
       . show az (YQ hx) N4
 have has:∀x,(x,YX)∈sc.names->∃c,X.env.cells.lookup x=some c:=fun x hm=>I.ok.has x (S.free _ hm rfl)
 show⟨⟨I.ok.mod,S.kind,I.ok.glob,I.ok.blt,Yo _,fun x y c h1 h2=>I.ok.inj x y c (cellmem x c h1) (cellmem y c h2),fun x hx=>?_,fun x c Jd t=>?_,I.ok.hd,I.ok.frames,.inl rfl,fun b hb=>⟨?_,fun x c e=>?_⟩,I.bs,YU I.ok.bsz I.sz,fun b o e hb=>?_,fun b hb hs=>?_,I.stack,I.nF⟩,
   rfl,I.bare,Un.kept hk,⟨_,hn,fun i x v h1 h2 h3=>?_⟩,fun x c e=>?_,I.hok.fresh (Yo _),fun x c e=>I.freeC x c (cellmem x c e),fun p hp=>az (show p∈([]:List (Addr×Obj))from hp) (by simp),I.hok.kept hk,?_⟩
 . obtain⟨c,e⟩:=has x (isfree x hx)
   show⟨c,lJ (isfree x hx) e⟩
 . show az (show false=true from Jd) (by simp)
 . obtain⟨o,e⟩:=ho b hb
   show YJ (Ys e)
 . show(hf b hb).2.2.2.2.1 x c (cellmem x c e)
 . rcases(hf b hb).2.2.2.1 with z|z
   . show I.ok.noex b o e z
   . show az (YH (Ys e) (YU I.ok.bsz z)) (ZR _)
 . rcases List.mem_cons.mp (I.nG b hs)with z|z
   . show(hf b hb).2.1 z
   . show(hf b hb).2.2.1 z
 . -- a Ie name
   have oA:(capσ src σ)[i]?=some (some v):=h2
   unfold capσ at oA
   rw[YD]at oA
   cases q:src[i]? with
   | none=>rw[q]at oA;cases oA
   | some o=>
     rw[q]at oA
     cases o with
     | none=>simp at oA
     | some j=>
       obtain⟨hj,hfr⟩:=zI hc q h1
       have hσ:σ[j]?=some (some v):=by
         simp only[Ze,Option.some.injEq]at oA
         cases r:σ[j]? with
         | none=>rw[r]at oA;cases oA
         | some w=>rw[r]at oA;rw[← oA]
       have hm:=Y7 hfr
       have Jh:=S.free _ hm rfl
       obtain⟨m,_,hl⟩:=I.loc
       obtain⟨u,ru,lk⟩:=hl j x v hj hσ (Or.inr Jh)
       show⟨u,ru,.inr ⟨?_,?_⟩⟩
       . change(compEnvC sc (fY sc X.env) s.heap.objs.size X.env).kindOf x=some .cell\/(compEnvC sc (fY sc X.env) s.heap.objs.size X.env).kindOf x=some .free
         rw[iQ,hfr]
         by_cases z:(YX==YX&&X.env.scope.kind==.function&&X.env.kindOf x==some .cell)=true
         . show .inl (by simp only[Ze,z,if_true])
         . show .inr (by simp only[Ze,z,if_false,Zg])
       . rcases lk with⟨z,_⟩|⟨_,c,e,z⟩
         . have z':X.env.scope.names.lookup x=some .local:=z
           rcases Jh with y|y<;>(rw[z']at y;cases y)
         . obtain⟨oc,G0,hd⟩:=z
           show⟨c,lJ hm e,oc,hk c oc G0,hd⟩
 . obtain⟨v,oc,G0,hd⟩:=I.cell x c (cellmem x c e)
   show⟨v,oc,hk c oc G0,hd⟩
 . change(capσ src σ).length=N'.length
   unfold capσ
   rw[Yk]
   show vU hc
def qd {H':Hp}{σ':St}{s':Shared}(I:Inv X pins σ H s)(hf:∀b∈fp,cU X pins H b)(I':Inv (cv X N' sc s H s.heap.objs.size fp xe) [] σ' H' s'):Inv X pins σ H' s':=
 I.Cb I'.os I'.base I'.hok I'.bare fun b hb=>⟨(hf b hb).2.2.2.1,(hf b hb).2.1,(hf b hb).2.2.2.2.1,(hf b hb).2.2.2.2.2⟩
def zK {H':Hp}{σ':St}{s':Shared}(I':Inv (cv X N' sc s H s.heap.objs.size fp xe) [] σ' H' s'):∃m,s'.heap.Ns s.heap.objs.size m:=by obtain⟨m,hn,_⟩:=I'.loc;show⟨m,hn⟩
def uj {H1:Hp}{σ1:St}{s1:Shared}{h':Heap}(I:Inv X pins σ H s)(I1:Inv X pins σ1 H1 s1)(hn:H1 s.heap.objs.size=none)(hs:Za s.heap.objs.size s1.heap h'):Inv X pins σ1 H1 {s1 with heap:=h'}:=by
 obtain⟨f0,f1,f2,f3,f4,f5⟩:=I.jY (H':=H1) (Yo _) hn
 show I1.turned (t':=s1.toks) (fun b o hb e=>(hs.2 b hb).trans e) f0 f1 f3 f4 f5
end
def bh:St->St->Prop
 | [],[]=>True
 | none::r,_::r'=>bh r r'
 | some v::r,u::r'=>u=some v/\bh r r'
 | _,_=>False
theorem bh.len:∀{a b:St},bh a b->a.length=b.length
 | [],[],_=>rfl
 | [],_::_,h=>h.elim
 | none::_,[],h=>h.elim
 | some _::_,[],h=>h.elim
 | none::r,_::r',h=>by
   have h':bh r r':=h
   rw[YS,YS,h'.len]
 | some v::r,u::r',h=>by
   have h':u=some v/\bh r r':=h
   rw[YS,YS,h'.2.len]
theorem bh.get:∀{a b:St},bh a b->∀(i:Nat) (v:V),a[i]?=some (some v)->b[i]?=some (some v)
 | [],[],_,i,v,e=>by simp at e
 | [],_::_,h,_,_,_=>h.elim
 | none::_,[],h,_,_,_=>h.elim
 | some _::_,[],h,_,_,_=>h.elim
 | none::r,_::r',h,0,v,e=>by simp at e
 | none::r,_::r',h,i+1,v,e=>by
   have h':bh r r':=h
   simpa using h'.get i v (by simpa using e)
 | some w::r,u::r',h,0,v,e=>by
   have h':u=some w/\bh r r':=h
   simp at e
   subst e
   simp[h'.1]
 | some w::r,u::r',h,i+1,v,e=>by
   have h':u=some w/\bh r r':=h
   simpa using h'.2.get i v (by simpa using e)
def iP (X:Cx)(cs:List Expr)(t:TT):Prop:=
 ∀(pins:List (Addr×Obj)) (s:Shared) (σ:St) (H:Hp) (Q:Bool->Hp->Prop),Inv X pins σ H s->t σ H Q ->
   wpAny (model X.prog X.w) X.A (forIn cs true fun c r=>if r=true then do let ok←isTrue c X.env (eval c X.env);pure (ZZ ok)else pure (ZZ r)) (TP X pins σ Q) X.xe s
def Gs:TT:=fun z H Q=>Q true H
def Pn {X:Cx}:iP X [] Gs:=fun z z z H z I h=>wpAny_tests_nil ⟨H,I,h⟩
def Po {X:Cx}{c:Expr}{t:TT}(h:PT X c t):iP X [c] t:=fun pins s σ H Q I q=>wpAny_tests_one (h pins s σ H Q I q)
abbrev TM:=St->Hp->(Hp->Prop)->Prop
def Dl (X:Cx)(m:Sem Unit)(t:TM):Prop:=
 ∀(pins:List (Addr×Obj)) (s:Shared) (σ:St) (H:Hp) (Q:Hp->Prop),Inv X pins σ H s->t σ H Q ->
   wpAny (model X.prog X.w) X.A m (fun z s'=>∃H',Inv X pins σ H' s'/\Q H') X.xe s
def nH (tg:Expr)(ipos:Pos)(ifs:List Expr)(it:Value)(env:Env)(cont:Sem Unit)(more:Sem Fin):Sem Fin:=do
 standAt ipos
 match←pyNext it with
 | none=>pure (.done .next)
 | some v=>
   letOwnedTupleGo tg it v
   assign tg env v
   let mut ok:=true
   for c in ifs do
     if ok then ok←isTrue c env (eval c env)
   if ok then cont
   more
def fT (J:It)(σ0:St)(g:TG)(tifs:TT)(tm:TM)(Z:Hp->Prop)(H:Hp):Prop:=
 ∃W:Nat->Nat->Hp->Prop,(∃m,W 0 m H)/\∀i m H,W i m H->(J.stop i H/\Z H) \/
   (J.go i H/\∀x H',J.yld i H x H'->g x σ0 H' fun σ2 H2=>tifs σ2 H2 fun b H3=>
     if b=true then tm σ2 H3 fun H4=>bh σ0 σ2/\∃m',m'<m/\W (i+1) m' H4 else bh σ0 σ2/\∃m',m'<m/\W (i+1) m' H3)
section
variable{X:Cx}{e tg:Expr}{ipos:Pos}{ifs:List Expr}{depth:Nat}{acc:Value}{cont:Sem Unit}{it:Addr}{fp:List Addr}{tn:Nat->Heap->Prop}{J:It}{g:TG}{tifs:TT}{tm:TM}{σ0:St}{Z:Hp->Prop}{R:Result->Shared->Prop}
def lL (hX:X.xe=notedBy (model X.prog X.w) X.A X.env fun e s'=>R (.error e) s')
   (heq:compTurn e depth (.ref it) acc X.env=nH tg ipos ifs (.ref it) X.env cont (again (.compLoop e depth (.ref it) acc X.env)))
   (hq:(aaM e depth (.ref it) acc X.env).quiet=true) (hA:X.A.under (.compLoop e depth (.ref it) acc X.env)=X.A) (hF:(aaM e depth (.ref it) acc X.env).isFrame=false)
   (hc:X.calm=true) (T:Turn X.prog X.w X.K tg J fp it tn) (hg:PG X tg g) (hif:iP X ifs tifs) (hm:Dl X cont tm)
   {pins:List (Addr×Obj)} {H:Hp} {s:Shared} (hf:∀b∈fp,cU X pins H b) (I:Inv X pins σ0 H s) (st:tn 0 s.heap)
   (hZ:∀H' s',Inv X pins σ0 H' s'->(∀b∈fp,H' b=none)->Z H'->R (.ok .next) s') (h:fT J σ0 g tifs tm Z H) :
   codeAny (model X.prog X.w) X.A (.compLoop e depth (.ref it) acc X.env) R s:=by
 obtain⟨W,⟨m0,w0⟩,turn⟩:=h
 have stat:∀{H':Hp},(∀b∈fp,H' b=none)->∀b∈fp,cU X pins H' b:=fun hn b hb=>⟨hn b hb,(hf b hb).2⟩
 show codeAny_loop hq (fun n s'=>∃i H',Inv X pins σ0 H' s'/\tn i s'.heap/\(∀b∈fp,H' b=none)/\W i n H') ?_ m0 ⟨0,H,I,st,fun b hb=>(hf b hb).1,w0⟩
 rintro n s3 ⟨i,H3,I3,yU,GP,w3⟩
 rw[hA]
 have NU:(model X.prog X.w).den (.compLoop e depth (.ref it) acc X.env)=(compTurn e depth (.ref it) acc X.env).onRaise (fun x=>do noteFrame x X.env;theTreesLotGoes x):=by
   change(if(aaM e depth (.ref it) acc X.env).isFrame then _ else _)=_
   rw[bg (by rw[hF];decide)]
 rw[NU]
 show wpAny_noted ?_
 rw[← hX,heq]
 unfold nH
 show wpAny_bind (wpAny_standAt ?_)
 have vN:∀{σ7:St} {H7:Hp} {s5 s7:Shared},tn (i+1) s5.heap->Inv X (pins++ku fp s5.heap) σ7 H7 s7->bh σ0 σ7->(∃m',m'<n/\W (i+1) m' H7) ->
     ∃m,m<n/\∃i H',Inv X pins σ0 H' s7/\tn i s7.heap/\(∀b∈fp,H' b=none)/\W i m H':=fun{σ7 H7 s5 s7} zu I7 k7 ⟨m',UQ,w7⟩=>by
   show⟨m',UQ,i+1,H7,I7.iJ.weak k7.len k7.get,T.keep _ _ _ zu fun b hb o e=>(I7.pin (b,o) (Y3 _ (Y3 _ (eC hb e)))).1,fun b hb=>?_,w7⟩
   obtain⟨o,e,d⟩:=T.obj _ _ zu b hb
   show(I7.pin (b,o) (Y3 _ (Y3 _ (eC hb e)))).2.1
 rcases turn i n H3 w3 with⟨stop,qn⟩|⟨go,step⟩
 . show wpAny_bind (bq (T.done X rfl rfl rfl hc i pins s3 σ0 H3 X.xe I3 (stat GP) yU stop) fun r s4 h9=>?_)
   obtain⟨hr,I4⟩:=h9
   subst hr
   show wpAny_pure (hZ H3 s4 I4 GP qn)
 . show wpAny_bind (bq (T.item X rfl rfl rfl hc i pins s3 σ0 H3 X.xe I3 (stat GP) yU go) fun r s4 h9=>?_)
   obtain⟨u,hr,h4⟩:=h9
   subst hr
   show wpAny_bind (bq h4 fun z s5 h9=>?_)
   obtain⟨x,H5,I5,r5,y5,zu,Nm⟩:=h9
   have MS:=I5.pinned (stat Nm) (T.obj _ _ zu)
   show wpAny_bind (bq (hg _ s5 σ0 H5 x u _ MS r5 (step x H5 y5)) fun z s6 h9=>?_)
   obtain⟨σ6,H6,I6,q6⟩:=h9
   show wpAny_bind (bq (hif _ s6 σ6 H6 _ I6 q6) fun b s7 h9=>?_)
   obtain⟨H7,I7,q7⟩:=h9
   cases b with
   | false=>
     obtain⟨k7,w7⟩:=q7
     show wpAny_pure ⟨U,vN zu I7 k7 w7⟩
   | true=>
     show wpAny_bind (bq (hm _ s7 σ6 H7 _ I7 q7) fun z s8 h9=>?_)
     obtain⟨H8,I8,k8,w8⟩:=h9
     show wpAny_pure ⟨U,vN zu I8 k8 w8⟩
end
structure dX (P:Program)(w:World)(A:Around)(e:Expr)(tg iter:Expr)(ifs:List Expr)(gs:List Comprehension)(emit:Addr->Env->Sem Unit):Prop where
 cl:clausesOf e=⟨tg,iter,ifs,0⟩::gs
 turn:∀it D env,compTurn e 0 (.ref it) (.ref D) env=nH tg iter.pos ifs (.ref it) env (emit D env) (again (.compLoop e 0 (.ref it) (.ref D) env))
 start:∀(R:Result->Shared->Prop) (s:Shared) (it acc:Value) (env:Env),codeAny (model P w) A (.compLoop e 0 it acc env) R s ->
   wpAny (model P w) A (pyIter it) (fun Jz s'=>codeAny (model P w) A (.compLoop e 0 Jz acc env) R s') (notedBy (model P w) A env fun x s'=>R (.error x) s') s->codeAny (model P w) A (.compStart e 0 it acc env) R s
 quiet:∀it acc env,(aaM e 0 it acc env).quiet=true
 under:∀it acc env,A.under (.compLoop e 0 it acc env)=A
 frame:∀it acc env,(aaM e 0 it acc env).isFrame=false
def rR {P:Program}{w:World}{A:Around}{elt tg iter:Expr}{ifs:List Expr}{sc:Scope}{pos:Pos} :
   dX P w A (.ListComp elt [⟨tg,iter,ifs,0⟩] sc pos) tg iter ifs [] (fun D env=>do let _←call (.builtin "list.append") [.ref D,← eval elt env]) where
 cl:=rfl
 turn:=fun it D env=>by rw[compTurn_list];rfl
 start:=fun R s it acc env h0 h=>codeAny_compStart_list h0 h
 quiet:=fun z z z=>rfl
 under:=fun z z z=>rfl
 frame:=fun z z z=>rfl
def mK {P:Program}{w:World}{A:Around}{kx vx tg iter:Expr}{ifs:List Expr}{sc:Scope}{pos:Pos} :
   dX P w A (.DictComp kx vx [⟨tg,iter,ifs,0⟩] sc pos) tg iter ifs [] (fun D env=>do
     let kv←eval kx env
     let vv←holding [kv] (eval vx env)
     standAt {kx.pos with endLine:=vx.pos.endLine,endCol:=vx.pos.endCol}
     holding [kv,vv] (dictSet D kv vv)) where
 cl:=rfl
 turn:=fun it D env=>by rw[compTurn_dict];rfl
 start:=fun R s it acc env h0 h=>codeAny_compStart_dict h0 h
 quiet:=fun z z z=>rfl
 under:=fun z z z=>rfl
 frame:=fun z z z=>rfl
section
variable{X:Cx}{e tg iter:Expr}{ifs:List Expr}{emit:Addr->Env->Sem Unit}{sc:Scope}{pos:Pos}{wi:TI}{N':List Str}{src:List (Option Nat)}{g:TG}{tifs:TT}{tm:Addr->TM}{newAcc:Sem Value}{ob:Obj}{accO:HO}{gs:List Comprehension}
def cM (src:List (Option Nat))(accO:HO)(wi:TI)(g:TG)(tifs:TT)(tm:Addr->TM):TE:=
 fun σ H Q=>wi σ H fun J H1=>∀D,H1 D=none->fT J (capσ src σ) g tifs (tm D) (fun H'=>Q (.ref D) H') (upd H1 D accO)
structure iN (X:Cx)(newAcc:Sem Value)(ob:Obj)(accO:HO):Prop where
 new:∀(s:Shared) (Q:Value->Shared->Prop) (E:Value->Shared->Prop),Q (.ref s.heap.objs.size) {s with heap:=s.heap.push ob}->wpAny (model X.prog X.w) X.A newAcc Q E s
 live:ob.isFreed=false
 ok:∀(pins:List (Addr×Obj)) (σ:St) (H:Hp) (s:Shared),Inv X pins σ H s->bC X.prog X.w (upd H s.heap.objs.size accO) (s.heap.push ob) s.heap.objs.size accO
def nZ {use:Option (Value->Sem Unit)}{Q':Value->Shared->Prop}(K:dX X.prog X.w X.A e tg iter ifs gs emit)(hc:X.calm=true)(S:aW sc X.env.scope)(hcap:b7 sc src N' X.N=true)(hi:PI X tg iter wi)
   (hb:∀s H C fp xe D,PG (cv X N' sc s H C fp xe) tg g/\iP (cv X N' sc s H C fp xe) ifs tifs/\Dl (cv X N' sc s H C fp xe) (emit D (cv X N' sc s H C fp xe).env) (tm D)) (N:iN X newAcc ob accO)
   (hs:∀x,YK iter X.env x=pure x)
   {pins:List (Addr×Obj)} {s:Shared} {σ:St} {H:Hp} {Q:VK} (I:Inv X pins σ H s) (h:cM src accO wi g tifs tm σ H Q)
   (hQ:∀(C D:Addr) (H':Hp) (s':Shared),Inv X pins σ H' s'->Q (.ref D) H'->H' C=none->(∃m,s'.heap.Ns C m)->(∀(σ1:St) (H1:Hp) (s1:Shared) (h':Heap),Inv X pins σ1 H1 s1->H1 C=none->Za C s1.heap h'->Inv X pins σ1 H1 {s1 with heap:=h'}) ->
     (C≠X.env.locals/\∀x c,X.env.cells.lookup x=some c->c≠C)->compPost (model X.prog X.w) X.A X.xe use Q' (.ref D) C (.ok .next) s') :
   wpAny (model X.prog X.w) X.A (comprehension e sc X.env pos newAcc false (eval iter X.env) use) Q' X.xe s:=by
 show wpAny_comprehension_free (g:=⟨tg,iter,ifs,0⟩) (gs:=gs) K.cl hs (p9 fun p hp hf=>I.ok.has p.1 (S.free p hp hf)) S.kind S.names ?_
 show bq (hi pins s σ H _ I h) fun v s1 h1=>bq h1 fun itv s2 h2=>?_
 obtain⟨it,fp,tn,J,H2,e1,I2,T,Gn,f2,q2⟩:=h2
 subst e1
 show N.new s2 _ _ ?_
 have hD:H2 s2.heap.objs.size=none:=I2.hok.fresh (Yo _)
 have QX:∀b o,s2.heap.get? b=some o->(s2.heap.push ob).get? b=some o:=fun b o e=>Yr _ e
 have I3:Inv X pins σ (upd H2 s2.heap.objs.size accO) {s2 with heap:=s2.heap.push ob}:=I2.laid (t':=s2.toks) QX (Yo _) (N.ok pins σ H2 s2 I2)
 have yU:tn 0 (s2.heap.push ob):=T.keep _ _ _ Gn fun b u o e=>QX b o e
 have Pa:∀b∈fp,∃o,(s2.heap.push ob).get? b=some o:=fun b hb=>let⟨o,e,_⟩:=T.obj _ _ yU b hb;⟨o,e⟩
 have f3:∀b∈fp,cU X pins (upd H2 s2.heap.objs.size accO) b:=fun b hb=>by
   show⟨?_,(f2 b hb).2⟩
   obtain⟨o,e,_⟩:=T.obj _ _ Gn b hb
   rw[ar (YJ (Ys e))]
   show(f2 b hb).1
 have qq:=q2 s2.heap.objs.size hD
 generalize wH:({s2 with heap:=s2.heap.push ob}:Shared)=s3 at I3 ⊢
 have UD:s2.heap.push ob=s3.heap:=by rw[← wH]
 rw[UD]at yU Pa
 generalize s2.heap.objs.size=D at I3 f3 qq hD ⊢
 show wpAny_newFunctionEnv S.cell (by intro y hy;simp at hy) (fun h₁ hns Cp=>?_) S.kind
 have Oj:h₁.Ns s3.heap.objs.size (fun u=>none):=hns
 have QY:∀b o,s3.heap.get? b=some o->h₁.get? b=some o:=fun b o e=>Cp.extBut b o (YJ (Ys e)) (Yr _ e)
 let R:Result->Shared->Prop:=compPost (model X.prog X.w) X.A X.xe use Q' (.ref D) s3.heap.objs.size
 let X':Cx:=cv X N' sc s3 (upd H2 D accO) s3.heap.objs.size fp (notedBy (model X.prog X.w) X.A (compEnvC sc (fY sc X.env) s3.heap.objs.size X.env) fun e s'=>R (.error e) s')
 have I4:Inv X' [] (capσ src σ) (upd H2 D accO) {s3 with heap:=h₁,toks:=s3.toks+([]:List (Str×Value)).length}:=qa I3 S hcap f3 Pa Oj QY
 have MK:tn 0 h₁:=T.keep _ _ _ yU fun b u o e=>QY b o e
 obtain⟨hg,hif,hm⟩:=hb s3 (upd H2 D accO) s3.heap.objs.size fp (notedBy (model X.prog X.w) X.A (compEnvC sc (fY sc X.env) s3.heap.objs.size X.env) fun e s'=>R (.error e) s') D
 have f4:∀b∈fp,cU X' [] (upd H2 D accO) b:=fun b hb=>by
   obtain⟨g0,g1,g2,g3,g4,g5⟩:=f3 b hb
   show⟨g0,?_,?_,.inl hb,fun x c e=>?_,fun p hp=>az (show p∈([]:List (Addr×Obj))from hp) (by simp)⟩
   . obtain⟨o,e⟩:=Pa b hb
     show YJ (Ys e)
   . intro z
     rcases List.mem_cons.mp (I3.nG b z)with y|y
     . show g1 y
     . show g2 y
   . show g4 x c (p8 (Y7 e)).2
 have Qz:cU X pins (upd H2 D accO) s3.heap.objs.size:=I3.jY (Yo _) (I3.hok.fresh (Yo _))
 have loop:∀s4:Shared,s4={s3 with heap:=h₁,toks:=s3.toks+([]:List (Str×Value)).length}->codeAny (model X.prog X.w) X.A (.compLoop e 0 (.ref it) (.ref D) X'.env) R s4:=by
   rintro s4 rfl
   show lL (X:=X') (Z:=fun H'=>Q (.ref D) H') rfl (K.turn it D X'.env) (K.quiet _ _ _) (K.under _ _ _) (K.frame _ _ _) hc T hg hif hm f4 I4 MK (fun H' s' I' u z=>?_) qq
   show hQ s3.heap.objs.size D H' s' (qd I3 f3 I') z I'.free (zK I') (fun σ1 H1 s1 h' I1 n1 Ow=>uj I3 I1 n1 Ow) ⟨Qz.2.1,fun x c e=>Qz.2.2.2.2.1 x c e⟩
 show K.start R _ (.ref it) (.ref D) X'.env (loop _ rfl) (T.self X.A 0 _ _ _ MK (loop _ rfl))
def nc (K:dX X.prog X.w X.A e tg iter ifs gs emit)(hc:X.calm=true)(S:aW sc X.env.scope)(hcap:b7 sc src N' X.N=true)(hi:PI X tg iter wi)
   (hb:∀s H C fp xe D,PG (cv X N' sc s H C fp xe) tg g/\iP (cv X N' sc s H C fp xe) ifs tifs/\Dl (cv X N' sc s H C fp xe) (emit D (cv X N' sc s H C fp xe).env) (tm D)) (N:iN X newAcc ob accO)
   (hs:∀x,YK iter X.env x=pure x) (he:eval e X.env=comprehension e sc X.env pos newAcc false (eval iter X.env)):PE X e (cM src accO wi g tifs tm):=by
 intro pins s σ H Q I h
 rw[he]
 show nZ (use:=none) (Q:=Q) K hc S hcap hi hb N hs I h fun C D H' s' I' q hn ⟨m,hm⟩ gone _=>?_
 show⟨m,hm,fun h' vB=>⟨.ref D,H',gone σ H' s' h' I' hn vB,U,q⟩⟩
def ng {i:Nat}{x:Str}{pos' cm:Pos}(K:dX X.prog X.w X.A e tg iter ifs gs emit)(hc:X.calm=true)(S:aW sc X.env.scope)(hcap:b7 sc src N' X.N=true)(hi:PI X tg iter wi)
   (hb:∀s H C fp xe D,PG (cv X N' sc s H C fp xe) tg g/\iP (cv X N' sc s H C fp xe) ifs tifs/\Dl (cv X N' sc s H C fp xe) (emit D (cv X N' sc s H C fp xe).env) (tm D)) (N:iN X newAcc ob accO)
   (hs:∀x,YK iter X.env x=pure x) (he:∀u,evalThenUse e X.env u=(do let _←comprehension e sc X.env pos newAcc false (eval iter X.env) (some u)))
   (hN:X.N.Nodup) (hix:X.N[i]?=some x) (hx:Loc X.env.scope x) (hsw:ZJ e (some (.Name x pos')) cm.line X.env=pure true)
   (hf:X.fn x=true\/X.env.scope.names.lookup x=some .local:=by first|show .inl rfl|show .inr rfl|assumption) :
   PS X (.Assign [.Name x pos'] e cm) (lA (cM src accO wi g tifs tm) (dm i)):=by
 intro pins s σ H D0 I h
 rw[exec_Assign_Name_used x pos' e cm hsw,he]
 show wpAny_bind (wpAny_standAt (wpAny_bind (wpAny_bind ?_)))
 show nZ (use:=some (assign (.Name x pos') X.env)) (Q:=fun v H'=>D0.nx (σ.set i (some v)) H') (Q':=fun y s'=>wpAny _ _ _ _ _ s') K hc S hcap hi hb N hs I h fun C D H' s' I' q hn g8 gone g9=>?_
 obtain⟨m,hm⟩:=g8
 obtain⟨Ul,hCc⟩:=g9
 show wpAny_assign_Name (mx (v:=.ref D) I' hN hix hx rfl (fun s2 I2 hch=>?_) hf)
 obtain⟨a,Cp,ha⟩:=hch
 have hne:C≠a:=by
   rcases ha with z|z
   . rw[z];show Ul
   . show(hCc x a z).symm
 show⟨m,hm.sameBut Cp hne,fun h' vB=>?_⟩
 show wpAny_pure (wpAny_pure ⟨_,H',gone _ H' s2 h' I2 hn vB,q⟩)
end
section
variable{X:Cx}{elt kx vx:Expr}{te tk tv:TE}
def cf (te:TE)(D:Addr):TM:=fun σ H K=>te σ H fun y H1=>∃ys,H1 D=some (.lst ys)/\ys.length<sizeLine/\K (upd H1 D (.lst (ys++[y])))
def qO (h:PE X elt te)(D:Addr):Dl X (do let _←call (.builtin "list.append") [.ref D,← eval elt X.env]) (cf te D):=by
 intro pins s σ H Q I q
 show wpAny_bind (bq (h pins s σ H _ I q) fun u s1 h9=>?_)
 obtain⟨y,H1,I1,ru,ys,e,z,k⟩:=h9
 show wpAny_bind (bq (lY pins s1 σ H1 (.ref D) [y] (.ref D) [u] (fun x H'=>Q H') I1 rfl (.cons ru .nil) ⟨D,ys,y,U,U,e,z,k⟩) fun r s2 h9=>?_)
 obtain⟨v,H2,I2,_,k2⟩:=h9
 show wpAny_pure ⟨H2,I2,k2⟩
def um {pins:List (Addr×Obj)}{σ:St}{H H':Hp}{s:Shared}{a:Addr}{y v:V}{u r:Value}{A:Around}{E:Value->Shared->Prop}{Q:Unit->Shared->Prop}(hu:A.units+1<cLine)(I:Inv X pins σ H s)(g:jM H a y v H')(ry:RelV y u)(rv:RelV v r)(h:∀s',Inv X pins σ H' s'->Q () s') :
   wpAny (model X.prog X.w) A (dictSet a u r) Q E s:=by
 rcases g with⟨kvs,k,e,ey,l,eH⟩|⟨kvs,k,b,e,ey,eb,l,eH⟩
 . subst ey eH
   obtain⟨z,hd,vs,rel,dd⟩:=ja I.hok e
   have hz:vs.length<=sizeLine:=by rw[← rel.length];show z
   have hl:(putK kvs k v).length<=sizeLine:=by have:=bO kvs k v;lia
   show wpAny_dictSet_pairs (hsz:=hz) (hG ry) dd fun h' lM hs=>h _ ?_
   have he:∃q,h'.get? a=some q:=by obtain⟨q,_,_,hq,_⟩:=lM;show⟨q,hq⟩
   show dM I (by rw[e];show Y5) hs he (jV hl hd (rel.put k rv) lM)
 . subst ey eH
   cases(show u=Y2 b from ry)
   obtain⟨z,hd,xs,rel,dd⟩:=Im I.hok e
   have hz:xs.length<=sizeLine:=by rw[← Paired.length rel];show z
   have hl:(putK kvs k v).length<=sizeLine:=by have:=bO kvs k v;lia
   have Jj:(tupleKind (aL X.prog X.w)).room A:=show A.units<cLine by lia
   show wpAny_dictSet_heap (hsz:=hz) Jj (kc I.hok eb) dd fun h' lM hs=>h _ ?_
   obtain⟨q,es,ep,hq,h2,h3,h4,_,h5⟩:=lM
   show dM I (by rw[e];show Y5) hs ⟨q,hq⟩ ⟨hl,hd,_,(rel.put k eb rv).keeps fun c ys ec=>?_,q,es,ep,hq,h2,h3,h4,h5⟩
   rw[ar (dO ec e (fun z=>nomatch z))]
   show ec
def lh (tk tv:TE)(D:Addr):TM:=fun σ H K=>tk σ H fun y H1=>tv σ H1 fun v H2=>∃H3,jM H2 D y v H3/\K H3
def qP (hu:X.A.units+1<cLine)(hk:PE X kx tk)(hv:PE X vx tv)(D:Addr):Dl X (do
     let kv←eval kx X.env
     let vv←holding [kv] (eval vx X.env)
     standAt {kx.pos with endLine:=vx.pos.endLine,endCol:=vx.pos.endCol}
     holding [kv,vv] (dictSet D kv vv)) (lh tk tv D):=by
 intro pins s σ H Q I q
 show wpAny_bind (bq (hk pins s σ H _ I q) fun u s1 h9=>?_)
 obtain⟨y,H1,I1,ru,q1⟩:=h9
 show wpAny_bind (wpAny_holding (bq (hv pins s1 σ H1 _ I1 q1) fun r s2 h9=>?_))
 obtain⟨v,H2,I2,rv,H3,g,q2⟩:=h9
 show wpAny_bind (wpAny_standAt (wpAny_holding (um hu I2 g ru rv fun s3 I3=>⟨H3,I3,q2⟩)))
def Dw:iN X newDict {cls:=.type "dict",data:=.dict #[]} (.dT []) where
 new:=fun s Q E h=>wpAny_newObj_type h
 live:=rfl
 ok:=fun pins σ H s I=>v7 s.heap I.big
def vM:iN X newDict {cls:=.type "dict",data:=.dict #[]} (.dK []) where
 new:=fun s Q E h=>wpAny_newObj_type h
 live:=rfl
 ok:=fun pins σ H s I=>gP s.heap I.big
def jP:iN X (newList []) {cls:=.type "list",data:=.seq #[]} (.lst []) where
 new:=fun s Q E h=>wpAny_newObj_type h
 live:=rfl
 ok:=fun pins σ H s I=>⟨YY _,[],0,.nil,YG _ rfl⟩
end
section
variable{X:Cx}{elt kx vx tg iter:Expr}{ifs:List Expr}{sc:Scope}{pos:Pos}{wi:TI}{N':List Str}{src:List (Option Nat)}{g:TG}{tifs:TT}{te tk tv:TE}
def Km (src:List (Option Nat))(N':List Str)(hc:X.calm=true)(S:aW sc X.env.scope)(hcap:b7 sc src N' X.N=true)(hi:PI X tg iter wi)
   (hb:∀s H C fp xe,PG (cv X N' sc s H C fp xe) tg g/\iP (cv X N' sc s H C fp xe) ifs tifs/\PE (cv X N' sc s H C fp xe) elt te)
   (hs:∀x,YK iter X.env x=pure x:=by intro _;rfl):PE X (.ListComp elt [⟨tg,iter,ifs,0⟩] sc pos) (cM src (.lst []) wi g tifs (cf te)):=
 nc rR hc S hcap hi (fun s H C fp xe D=>⟨(hb s H C fp xe).1,(hb s H C fp xe).2.1,qO (hb s H C fp xe).2.2 D⟩) jP hs rfl
def Kx {i:Nat}{x:Str}{pos' cm:Pos}(src:List (Option Nat))(N':List Str)(hc:X.calm=true)(S:aW sc X.env.scope)(hcap:b7 sc src N' X.N=true)(hi:PI X tg iter wi)
   (hb:∀s H C fp xe,PG (cv X N' sc s H C fp xe) tg g/\iP (cv X N' sc s H C fp xe) ifs tifs/\PE (cv X N' sc s H C fp xe) elt te)
   (hN:X.N.Nodup) (hix:X.N[i]?=some x) (hx:Loc X.env.scope x) (hsw:ZJ (.ListComp elt [⟨tg,iter,ifs,0⟩] sc pos) (some (.Name x pos')) cm.line X.env=pure true:=by rfl)
   (hs:∀x,YK iter X.env x=pure x:=by intro _;rfl) (hf:X.fn x=true\/X.env.scope.names.lookup x=some .local:=by first|show .inl rfl|show .inr rfl|assumption) :
   PS X (.Assign [.Name x pos'] (.ListComp elt [⟨tg,iter,ifs,0⟩] sc pos) cm) (lA (cM src (.lst []) wi g tifs (cf te)) (dm i)):=
 ng rR hc S hcap hi (fun s H C fp xe D=>⟨(hb s H C fp xe).1,(hb s H C fp xe).2.1,qO (hb s H C fp xe).2.2 D⟩) jP hs (fun z=>rfl) hN hix hx hsw hf
def Fv (src:List (Option Nat))(N':List Str)(hu:X.A.units+1<cLine)(hc:X.calm=true)(S:aW sc X.env.scope)(hcap:b7 sc src N' X.N=true)(hi:PI X tg iter wi)
   (hb:∀s H C fp xe,PG (cv X N' sc s H C fp xe) tg g/\iP (cv X N' sc s H C fp xe) ifs tifs/\PE (cv X N' sc s H C fp xe) kx tk/\PE (cv X N' sc s H C fp xe) vx tv)
   (hs:∀x,YK iter X.env x=pure x:=by intro _;rfl):PE X (.DictComp kx vx [⟨tg,iter,ifs,0⟩] sc pos) (cM src (.dT []) wi g tifs (lh tk tv)):=
 nc mK hc S hcap hi (fun s H C fp xe D=>⟨(hb s H C fp xe).1,(hb s H C fp xe).2.1,qP (X:=cv X N' sc s H C fp xe) hu (hb s H C fp xe).2.2.1 (hb s H C fp xe).2.2.2 D⟩) Dw hs rfl
end
section
variable{K:Yl}{a:Addr}{xs:List V}{g:TG}{tifs:TT}{tm:TM}{σ0:St}{Z:Hp->Prop}{H:Hp}
def fq (n:Nat){J:It}(Pv:Nat->Hp->Prop)(h0:Pv 0 H)(hgo:∀i H,i<n->Pv i H->J.go i H)(hst:∀H,Pv n H->J.stop n H)
   (turn:∀i H,i<n->Pv i H->∀x H',J.yld i H x H'->g x σ0 H' fun σ2 H2=>tifs σ2 H2 fun b H3=>
     if b=true then tm σ2 H3 fun H4=>bh σ0 σ2/\∃m',m'<n-i/\(m'=n-(i+1)/\i+1<=n/\Pv (i+1) H4)else bh σ0 σ2/\∃m',m'<n-i/\(m'=n-(i+1)/\i+1<=n/\Pv (i+1) H3))
   (hZ:∀H,Pv n H->Z H):fT J σ0 g tifs tm Z H:=by
 show⟨fun i m H=>m=n-i/\i<=n/\Pv i H,⟨n,by simp,YY _,h0⟩,?_⟩
 rintro i m H ⟨rfl,hi,p⟩
 by_cases hlt:i<n
 . show .inr ⟨hgo i H hlt p,turn i H hlt p⟩
 . have e:i=n:=by lia
   subst e
   show .inl ⟨hst H p,hZ H p⟩
def aT (Pv:Nat->Hp->Prop)(h0:Pv 0 H)(hl:∀i H,i<=xs.length->Pv i H->aF K H a xs)
   (turn:∀i x H,xs[i]?=some x->Pv i H->g x σ0 H fun σ2 H2=>tifs σ2 H2 fun b H3=>
     if b=true then tm σ2 H3 fun H4=>bh σ0 σ2/\∃m',m'<xs.length-i/\(m'=xs.length-(i+1)/\i+1<=xs.length/\Pv (i+1) H4)else bh σ0 σ2/\∃m',m'<xs.length-i/\(m'=xs.length-(i+1)/\i+1<=xs.length/\Pv (i+1) H3))
   (hZ:∀H,Pv xs.length H->Z H):fT (GJ K a) σ0 g tifs tm Z H:=by
 show fq xs.length Pv h0 (fun i H hi p=>⟨xs,xs[i],hl i H (Zb hi) p,by simp[hi]⟩) (fun H p=>⟨xs,hl _ H (Yo _) p,Yo _⟩) (fun i H hi p x H' y=>?_) hZ
 obtain⟨e,y⟩:=y
 subst e
 show turn i x _ (y xs (hl i _ (Zb hi) p)) p
def jU (Pv:Nat->Hp->Prop)(h0:Pv 0 H)(hl:∀i H,i<=xs.length->Pv i H->bM K H a xs)
   (turn:∀i x H,xs[i]?=some x->Pv i H->g x σ0 H fun σ2 H2=>tifs σ2 H2 fun b H3=>
     if b=true then tm σ2 H3 fun H4=>bh σ0 σ2/\∃m',m'<xs.length-i/\(m'=xs.length-(i+1)/\i+1<=xs.length/\Pv (i+1) H4)else bh σ0 σ2/\∃m',m'<xs.length-i/\(m'=xs.length-(i+1)/\i+1<=xs.length/\Pv (i+1) H3))
   (hZ:∀H,Pv xs.length H->Z H):fT (GK K a) σ0 g tifs tm Z H:=by
 show fq xs.length Pv h0 (fun i H hi p=>⟨xs,xs[i],hl i H (Zb hi) p,by simp[hi]⟩) (fun H p=>⟨xs,hl _ H (Yo _) p,Yo _⟩) (fun i H hi p x H' y=>?_) hZ
 obtain⟨e,y⟩:=y
 subst e
 show turn i x _ (y xs (hl i _ (Zb hi) p)) p
def cb {lo:Int}{n:Nat}(Pv:Nat->Hp->Prop)(h0:Pv 0 H)
   (turn:∀i H,i<n->Pv i H->g (.int (lo+i)) σ0 H fun σ2 H2=>tifs σ2 H2 fun b H3=>
     if b=true then tm σ2 H3 fun H4=>bh σ0 σ2/\∃m',m'<n-i/\(m'=n-(i+1)/\i+1<=n/\Pv (i+1) H4)else bh σ0 σ2/\∃m',m'<n-i/\(m'=n-(i+1)/\i+1<=n/\Pv (i+1) H3))
   (hZ:∀H,Pv n H->Z H):fT (Di lo n) σ0 g tifs tm Z H:=by
 show fq n Pv h0 (fun i H hi p=>hi) (fun H p=>Yo _) (fun i H hi p x H' y=>?_) hZ
 obtain⟨e,y⟩:=y
 subst e y
 show turn i _ hi p
def aB {n i:Nat}{P:Prop}{Pv:Nat->Hp->Prop}{H:Hp}(k:P)(hi:i<n)(p:Pv (i+1) H):P/\∃m',m'<n-i/\(m'=n-(i+1)/\i+1<=n/\Pv (i+1) H):=⟨k,_,by lia,rfl,hi,p⟩
end
section
variable{X:Cx}{pins:List (Addr×Obj)}{σ:St}{H:Hp}{s:Shared}{h':Heap}{ch:List Addr}{a:Addr}{o:HO}
def Inv.many {t':Nat}(I:Inv X pins σ H s)(hch:∀b∈ch,cU X pins H b)(k:∀b ob,b∉ch->s.heap.get? b=some ob->h'.get? b=some ob)(hp:s.heap.objs.size<=a)(new:bC X.prog X.w (upd H a o) h' a o) :
   Inv X pins σ (upd H a o) {s with heap:=h',toks:=t'}:=by
 have hn:H a=none:=I.hok.fresh hp
 have na:∀b ob,s.heap.get? b=some ob->b≠a:=fun b ob e=>YJ (YH (Ys e) hp)
 have w4:∀b u,H b=some u->b∉ch:=fun b u e z=>by rw[(hch b z).1]at e;cases e
 show I.step (g':=s.gens) (d':=s.drawn) (ch:=ch) (fun b hb=>⟨(hch b hb).2.2.2.1,(hch b hb).2.1,(hch b hb).2.2.2.2.1,(hch b hb).2.2.2.2.2⟩) (fun b ob y y hc e y=>k b ob hc e) (fun b ob y y hc e y=>⟨ob.slots,k b ob hc e⟩)
   (fun b ob y e n=>by rw[ar (na b ob e)];show n) (fun b ob hc e=>⟨ob,k b ob hc e⟩) (fun b xs e=>by rw[ar (ao e hn)];show e) (fun b ob u e=>by rw[ar (ao e hn)];show e)
   (fun b ps e=>⟨#[],by rw[ar (ao e hn),e];simp⟩) (fun m hm=>?_) (fun b u e=>?_) I.bare
 . obtain⟨ob,es,ep,ho,r⟩:=hm
   show⟨ob,es,ep,k _ ob (fun z=>(hch _ z).2.1 rfl) ho,r⟩
 . by_cases hb:b=a
   . subst hb;rw[ae]at e;cases e;show new
   . rw[ar hb]at e
     show(I.hok b u e).pG (fun c v hc q=>k c v ?_ q) (fun c q=>by rw[ar (ao q hn)];show q) fun c xs q=>by rw[ar (ao q hn)];show q
     rcases hc with z|z
     . subst z;show w4 c u e
     . show w4 c _ z
def Inv.lX {t':Nat}(I:Inv X pins σ H s)(hch:∀b∈ch,cU X pins H b)(k:∀b ob,b∉ch->s.heap.get? b=some ob->h'.get? b=some ob) :
   Inv X pins σ H {s with heap:=h',toks:=t'}:=by
 have w4:∀b u,H b=some u->b∉ch:=fun b u e z=>by rw[(hch b z).1]at e;cases e
 show I.step (g':=s.gens) (d':=s.drawn) (ch:=ch) (fun b hb=>⟨(hch b hb).2.2.2.1,(hch b hb).2.1,(hch b hb).2.2.2.2.1,(hch b hb).2.2.2.2.2⟩) (fun b ob y y hc e y=>k b ob hc e) (fun b ob y y hc e y=>⟨ob.slots,k b ob hc e⟩)
   (fun b ob y e n=>n) (fun b ob hc e=>⟨ob,k b ob hc e⟩) (fun b xs e=>e) (fun b ob u e=>e)
   (fun b ps e=>⟨#[],by rw[e];simp⟩) (fun m hm=>?_) (fun b u e=>?_) I.bare
 . obtain⟨ob,es,ep,ho,r⟩:=hm
   show⟨ob,es,ep,k _ ob (fun z=>(hch _ z).2.1 rfl) ho,r⟩
 . show(I.hok b u e).pG (fun c v hc q=>k c v ?_ q) (fun c q=>q) fun c xs q=>q
   rcases hc with z|z
   . subst z;show w4 c u e
   . show w4 c _ z
end
def GL (K:Yl)(a b:Addr):It:=
 ⟨fun i H=>∃xs ys x y,aF K H a xs/\aF K H b ys/\xs[i]?=some x/\ys[i]?=some y,
  fun i H v H'=>∃p x y,H p=none/\v=.ref p/\H'=upd H p (.tup [x,y])/\∀xs ys,aF K H a xs->aF K H b ys->xs[i]?=some x/\ys[i]?=some y,
  fun i H=>∃xs ys,aF K H a xs/\aF K H b ys/\(xs.length<=i\/ys.length<=i)⟩
def za {P:Program}{w:World}{K:Yl}{elts:List Expr}{x1:Nat}{tp:Pos}{a b z TI TO i1 i2:Addr}(D:Z5 z TI TO i1 i2 a b) :
   Turn P w K (.Tuple elts x1 tp) (GL K a b) [z,TI,TO,i1,i2] z (fun i h=>IsZip h z TI TO .none/\IsPair h TI (.ref i1) (.ref i2)/\(∃x y,IsPair h TO x y)/\h.IsListIter i1 a i/\h.IsListIter i2 b i) where
 mem:=by simp
 obj:=fun i h st c hc=>by
   obtain⟨hz,hTI,⟨x,y,hTO⟩,⟨o1,e1,c1,d1⟩,⟨o2,e2,c2,d2⟩⟩:=st
   simp only[YF,Yz,or_false]at hc
   rcases hc with rfl|rfl|rfl|rfl|rfl
   . show⟨_,hz,fun v q=>nomatch q⟩
   . show⟨_,hTI,fun v q=>nomatch q⟩
   . show⟨_,hTO,fun v q=>nomatch q⟩
   . show⟨_,e1,fun v q=>by rw[d1]at q;cases q⟩
   . show⟨_,e2,fun v q=>by rw[d2]at q;cases q⟩
 keep:=fun i h h' st k=>by
   obtain⟨hz,hTI,⟨x,y,hTO⟩,h1,h2⟩:=st
   show⟨k z (by simp) _ hz,k TI (by simp) _ hTI,⟨x,y,k TO (by simp) _ hTO⟩,h1.at fun o e=>k i1 (by simp) o e,h2.at fun o e=>k i2 (by simp) o e⟩
 item:=by
   intro X hP hw hK hc i pins s σ H E I hf st hg
   subst hP hw hK
   obtain⟨xs,ys,x,y,iM,j4,hx,hy⟩:=hg
   obtain⟨k9,ml,p1,_⟩:=I.list iM
   obtain⟨eV,qT,p2,_⟩:=I.list j4
   obtain⟨u,hu,ru⟩:=ml.get hx
   obtain⟨v,hv,rv⟩:=qT.get hy
   obtain⟨hz,hTI,⟨x0,y0,hTO⟩,h1,h2⟩:=st
   show wpAny_pyNext_zip_item D hz hTI hTO h1 h2 p1.isList p2.isList (x:=u) (y:=v) (by simpa using hu) (by simpa using hv) fun h' a1 a2 a3 a4 a5 a6 hk=>?_
   show⟨_,U,wpAny_letOwnedTupleGo_zip (s:={s with heap:=h'}) a1 fun oA Js vB=>?_⟩
   have hT:H s.heap.objs.size=none:=I.hok.fresh (Yo _)
   have Rv:z<s.heap.objs.size:=Ys hz
   have kk:∀c o,c∉([z,TO,i1,i2]:List Addr)->s.heap.get? c=some o->oA.get? c=some o:=fun c o dg e=>by
     simp only[YF,Yz,or_false,not_or]at dg
     show vB.extBut _ _ dg.1 (hk c o dg.1 dg.2.1 dg.2.2.1 dg.2.2.2 e)
   have Up:IsPair oA s.heap.objs.size u v:=vB.extBut _ _ (Z3 Rv) a5
   have I1:Inv X pins σ (upd H s.heap.objs.size (.tup [x,y])) {s with heap:=oA,toks:=s.toks}:=I.many (ch:=[z,TO,i1,i2]) (fun c dg=>hf c (by simp only[YF,Yz,or_false]at dg ⊢;rcases dg with r|r|r|r<;>simp[r])) kk (Yo _)
     ⟨by change 2<=sizeLine;decide,[u,v],.cons ru (.cons rv .nil),_,Up,rfl,_,rfl⟩
   show⟨.ref s.heap.objs.size,_,I1,U,⟨_,x,y,hT,U,U,fun zx W4 q1 q2=>?_⟩,?_,fun c dg=>?_⟩
   . rw[I.d6 q1 iM,I.d6 q2 j4];show⟨hx,hy⟩
   . show⟨Js,vB.extBut _ _ D.TIz (hk _ _ D.TIz D.TITO D.TIi1 D.TIi2 hTI),⟨_,_,vB.extBut _ _ D.TOz a2⟩,a3.extBut vB.extBut D.i1z,a4.extBut vB.extBut D.i2z⟩
   . have lt:c<s.heap.objs.size:=by
       simp only[YF,Yz,or_false]at dg
       rcases dg with rfl|rfl|rfl|rfl|rfl
       . show Rv
       . show Ys hTI
       . show Ys hTO
       . obtain⟨_,e,_⟩:=h1;show Ys e
       . obtain⟨_,e,_⟩:=h2;show Ys e
     rw[ar (YJ lt)]
     show(hf c dg).1
 done:=by
   intro X hP hw hK hc i pins s σ H E I hf st hg
   subst hP hw hK
   obtain⟨xs,ys,iM,j4,hend⟩:=hg
   obtain⟨k9,ml,p1,_⟩:=I.list iM
   obtain⟨eV,qT,p2,_⟩:=I.list j4
   have l1:=ml.length
   have l2:=qT.length
   obtain⟨hz,hTI,⟨x0,y0,hTO⟩,h1,h2⟩:=st
   show wpAny_pyNext_zip_end (I.ok.hd hc) D hz hTI hTO h1 h2 p1.isList p2.isList ?_ fun h' hk=>⟨U,?_⟩
   . rcases hend with q|q
     . show .inl (by simp;lia)
     . show .inr (by simp;lia)
   . show I.lX (t':=s.toks) (ch:=[z,TO,i1,i2]) (fun c dg=>hf c (by simp only[YF,Yz,or_false]at dg ⊢;rcases dg with r|r|r|r<;>simp[r])) fun c o dg e=>by
       simp only[YF,Yz,or_false,not_or]at dg
       show hk c o dg.1 dg.2.1 dg.2.2.1 dg.2.2.2 e
 self:=fun t t t t t st h=>wpAny_pyIter_zip st.1 h
def Ei (K:Yl)(ta:TA):TI:=fun σ H R=>ta σ H fun vs H1=>∃a b,vs=[.ref a,.ref b]/\(∃xs,aF K H1 a xs)/\(∃ys,aF K H1 b ys)/\R (GL K a b) H1
section
variable{X:Cx}
def FJ {a b:Expr}{ta:TA}{p pos tp:Pos}{elts:List Expr}{x1:Nat}(hg:Gl X "zip")(hm:X.mg "zip"=none)(ha:PA X [a,b] ta)(hs:starEach [a,b] X.env=[(false,eval a X.env),(false,eval b X.env)]:=by rfl)(hs2:starEach [b] X.env=[(false,eval b X.env)]:=by rfl)
   (hb:Zf "zip"=some (.type "zip"):=by first|rfl|decide +kernel) :
   PI X (.Tuple elts x1 tp) (.Call (.Name "zip" p) [a,b] [] pos) (Ei X.K ta):=by
 intro pins s σ H R I h
 show Call_ (eB I hg hm hb (Y0 (bq (ha pos pins s σ H _ I h) fun us s1 h9=>?_) (by rw[hs,hs2]) (by rw[hs2];rfl)))
 obtain⟨vs,H1,I1,r1,q1⟩:=h9
 obtain⟨l1,l2,e,⟨xs,iM⟩,⟨ys,j4⟩,q⟩:=q1
 subst e
 obtain⟨u,v,rfl,ru,rv⟩:=Vals.two r1
 obtain rfl:u=Y2 l1:=ru
 obtain rfl:v=Y2 l2:=rv
 obtain⟨k9,ml,p1,_⟩:=I1.list iM
 obtain⟨eV,qT,p2,_⟩:=I1.list j4
 have JG:l1<s1.heap.objs.size:=by obtain⟨_,_,e,_⟩:=p1;show Ys e
 have JH:l2<s1.heap.objs.size:=by obtain⟨_,_,e,_⟩:=p2;show Ys e
 show call_zip_2 p1.isList p2.isList fun h' hz hTI hTO GY DY hsz hk=>?_
 show wpAny_pyIter_zip hz ?_
 have I2:Inv X pins σ H1 {s1 with heap:=h'}:=I1.kept (t':=s1.toks) hk
 have D:=zipApart_new JG JH
 show⟨_,_,_,_,H1,U,I2,za D,⟨hz,hTI,⟨_,_,hTO⟩,GY,DY⟩,fun c hc=>?_,q⟩
 simp only[YF,Yz,or_false]at hc
 have up:∀k,cU X pins H1 (s1.heap.objs.size+k):=fun k=>I1.jY (Zu _ _) (I1.hok.fresh (Zu _ _))
 rcases hc with rfl|rfl|rfl|rfl|rfl
 . show up 4
 . show up 2
 . show up 3
 . show up 0
 . show up 1
end
section
variable{K:Yl}{a b:Addr}{xs ys:List V}{g:TG}
def zY {tb:TS}{D:Ends}{σ:St}{H:Hp}(hlen:xs.length=ys.length)(Pv:Nat->St->Hp->Prop)(h0:Pv 0 σ H)(hl:∀i σ H,i<=xs.length->Pv i σ H->aF K H a xs/\aF K H b ys)
   (hs:∀i x y p σ H,xs[i]?=some x->ys[i]?=some y->Pv i σ H->H p=none->g (.ref p) σ (upd H p (.tup [x,y])) fun σ2 H2=>tb {D with nx:=Pv (i+1),ct:=Pv (i+1),bk:=D.nx} σ2 H2) (hd:∀σ H,Pv xs.length σ H->D.nx σ H) :
   ∃W:Nat->Nat->St->Hp->Prop,(∃m,W 0 m σ H)/\∀i m σ H,W i m σ H ->
     ((GL K a b).stop i H/\D.nx σ H)\/((GL K a b).go i H/\∃N:St->Hp->Prop,(∀σ' H',N σ' H'->∃m',m'<m/\W (i+1) m' σ' H')/\∀x H',(GL K a b).yld i H x H'->g x σ H' fun σ2 H2=>tb {D with nx:=N,ct:=N,bk:=D.nx} σ2 H2):=by
 show⟨fun i m σ H=>m=xs.length-i/\i<=xs.length/\Pv i σ H,⟨xs.length,by simp,YY _,h0⟩,?_⟩
 rintro i m σ H ⟨rfl,hi,p⟩
 obtain⟨q1,q2⟩:=hl i σ H hi p
 by_cases hlt:i<xs.length
 . show .inr ⟨⟨xs,ys,xs[i],ys[i]'(hlen▸hlt),q1,q2,by simp[hlt],by simp[hlen▸hlt]⟩,Pv (i+1),fun σ' H' p'=>⟨xs.length-(i+1),by lia,U,hlt,p'⟩,fun x H' y=>?_⟩
   obtain⟨pp,x1,y1,hn,rfl,rfl,k⟩:=y
   obtain⟨k1,k2⟩:=k xs ys q1 q2
   show hs i x1 y1 pp σ H k1 k2 p hn
 . have e:i=xs.length:=by lia
   subst e
   show .inl ⟨⟨xs,ys,q1,q2,.inl (Yo _)⟩,hd σ H p⟩
def n8 {tifs:TT}{tm:TM}{σ0:St}{Z:Hp->Prop}{H:Hp}(hlen:xs.length=ys.length)(Pv:Nat->Hp->Prop)(h0:Pv 0 H)(hl:∀i H,i<=xs.length->Pv i H->aF K H a xs/\aF K H b ys)
   (turn:∀i x y p H,xs[i]?=some x->ys[i]?=some y->Pv i H->H p=none->g (.ref p) σ0 (upd H p (.tup [x,y])) fun σ2 H2=>tifs σ2 H2 fun b H3=>
     if b=true then tm σ2 H3 fun H4=>bh σ0 σ2/\∃m',m'<xs.length-i/\(m'=xs.length-(i+1)/\i+1<=xs.length/\Pv (i+1) H4)else bh σ0 σ2/\∃m',m'<xs.length-i/\(m'=xs.length-(i+1)/\i+1<=xs.length/\Pv (i+1) H3))
   (hZ:∀H,Pv xs.length H->Z H):fT (GL K a b) σ0 g tifs tm Z H:=by
 show fq xs.length Pv h0 (fun i H hi p=>⟨xs,ys,xs[i],ys[i]'(hlen▸hi),(hl i H (Zb hi) p).1,(hl i H (Zb hi) p).2,by simp[hi],by simp[hlen▸hi]⟩) (fun H p=>⟨xs,ys,(hl _ H (Yo _) p).1,(hl _ H (Yo _) p).2,.inl (Yo _)⟩) (fun i H hi p x H' y=>?_) hZ
 obtain⟨pp,x1,y1,hn,rfl,rfl,k⟩:=y
 obtain⟨k1,k2⟩:=k xs ys (hl i H (Zb hi) p).1 (hl i H (Zb hi) p).2
 show turn i x1 y1 pp H k1 k2 p hn
end
end L2
namespace PySem
def mV:abC (.type "list") "keys"=pure none:=by rw[abX,aba];kernel_rfl
section
variable{prog:Program}{w:World}{A:Around}{E:Value->Shared->Prop}{s:Shared}
def hV {a:Addr}{xs:Array Value}{k:Nat}{u:Tok}{Q:Value->Shared->Prop}(hx:s.heap.get? a=some {cls:=.type "list",data:=.seq xs k})(hA:A.handled=none)
   (h:∀h' tk e,Heap.NewAttrErr s.heap h' e (.ref a) "keys"->E (.ref e) {s with heap:=h',toks:=tk}) :
   wpAny (model prog w) A (getAttrBy (.ref a) (.str "keys" u) false) Q E s:=by
 obtain⟨hp,g,d,tk,os⟩:=s
 have hT:∀P7,(⟨hp,g,d,P7,os⟩ : Shared).TypeIs (.ref a) "list":=fun z=>⟨_,hx,rfl⟩
 have f1:=aaJ
 have f3:=F.slot_list_getattribute.lookup
 have f4:=F.slot_list_getattribute.bind (.ref a)
 have f5:=am_list_getattr_none
 unfold getAttrBy
 repeat (any_goals (first|assumption|show hT _|((with_reducible change wpAny _ _ (call (abQ "list.__getattribute__") _ _) _ _ _);show call_meets F.slot_list_getattribute (hT _) am_entry_list_getattribute (F.args_list_getattribute_2 _ _) (meets_getattribute_miss_list a xs k #[] "keys" _ mV (by right)) ⟨hx,hA,fun h' P7 e vC=>?_⟩)|wp_step))
 obtain⟨t',u',he⟩:=vC.there
 change wpAny _ _ (getattributeRaised _ _ _ _ _ _ _) _ _ _
 unfold getattributeRaised
 repeat (any_goals (first|assumption|wp_step))
 show h _ _ _ vC
def jx {a:Addr}{xs:Array Value}{k:Nat}{Q:Option Value->Shared->Prop}(hx:s.heap.get? a=some {cls:=.type "list",data:=.seq xs k})(hA:A.handled=none)
   (h:∀h' tk,(∀b o,s.heap.get? b=some o->h'.get? b=some o)->Q none {s with heap:=h',toks:=tk}):wpAny (model prog w) A (getAttr? (.ref a) "keys") Q E s:=by
 unfold getAttr? getAttrBy?
 show wpAny_bind (wpAny_mkText (wpAny_bind (wpAny_attempt (hV hx hA fun h' tk e ne=>?_))))
 obtain⟨t',u',he⟩:=ne.there
 show wpAny_bind (wpAny_isInstance (T:="AttributeError") (b:=true) ⟨_,he,U⟩ aaJ ?_)
 show wpAny_pure (h h' _ ne.keeps)
def ic {t:Addr}{vs:Array Value}{Q:List Value->Shared->Prop}(ht:s.heap.IsTuple t vs)(h:Q vs.toList s):wpAny (model prog w) A (abp (.ref t)) Q E s:=by
 obtain⟨o,ho,hc,n,hd⟩:=ht
 unfold abp
 show wpAny_bind (wpAny_typeOf (T:="tuple") ⟨o,ho,hc⟩ ?_)
 rw[bj (by left)]
 show wpAny_bind ?_
 obtain⟨hp,g,d,tk,os⟩:=s
 unfold seqItems?
 repeat (any_goals (first|assumption|wp_step))
 all_goals (first|(rw[hd];repeat (any_goals (first|assumption|wp_step)))|skip)
end
end PySem
namespace L2
open PySem PySem.Spec PyProof.Rows
section
variable{X:Cx}
def cW:entryFor table "dict.update.loop"=some Builtin.«dict.update.loop»:=entryFor_of_tree (by kernel_rfl)
def mE (H:Hp)(t:V)(kv:Key×V):Prop:=∃a,t=.ref a/\H a=some (.tup [kV kv.1,kv.2])
def putAll (d:List (Key×V))(kvs:List (Key×V)):List (Key×V):=kvs.foldl (fun d p=>putK d p.1 p.2) d
def pM {pins:List (Addr×Obj)}{σ:St}{A:Around}{D l it:Addr}{xs:List V}(hh:A.handled=none) :
   ∀(n i:Nat) (j:Int) (t:Tok) (kvs d:List (Key×V)) (H:Hp) (s:Shared) (R:Result->Shared->Prop),xs.length-i=n->i<=xs.length->Inv X pins σ H s->H D=some (.dK d)->d.length+n<=sizeLine->aF X.K H l xs->cU X pins H it->s.heap.IsListIter it l i ->
     Paired (mE H) (xs.drop i) kvs->(∀s',Inv X pins σ (upd H D (.dK (putAll d kvs))) s'->R (.ok (.ret .none)) s') ->
     codeAny (model X.prog X.w) A (.builtin "dict.update.loop" ⟨[.ref D,.ref it,.int j t,.none],[]⟩) R s:=by
 intro n
 induction n using aa0 with
 | _ n ih=>
   intro i j t kvs d H s R hn hi I hD hz hq hf hit hp hR
   obtain⟨aM,rv,p,_⟩:=I.list hq
   have hl:=rv.length
   obtain⟨f0,f1,f2,f3,f4,f5⟩:=id hf
   show codeAny_builtin cW ?_
   have hA:(A.under (.builtin "dict.update.loop" ⟨[.ref D,.ref it,.int j t,.none],[]⟩)).handled=none:=by rw[show(A.under (.builtin "dict.update.loop" ⟨[.ref D,.ref it,.int j t,.none],[]⟩)).handled=A.handled from rfl];show hh
   generalize A.under (.builtin "dict.update.loop" ⟨[.ref D,.ref it,.int j t,.none],[]⟩)=A' at hA ⊢
   unfold Builtin.«dict.update.loop»
   change wpAny _ _ (pyNext (.ref it)>>=_) _ _ _
   cases hx:xs[i]? with
   | none=>
     have Je:xs.length<=i:=List.getElem?_eq_none_iff.mp hx
     show wpAny_bind (wpAny_pyNext_list_end hA hit p.isList (by simp;lia) fun h' eb=>?_)
     have I1:Inv X pins σ H {s with heap:=h'}:=I.turned (t':=s.toks) (fun b o hb e=>eb b o hb e) f0 f1 f3 f4 f5
     have NV:xs.drop i=[]:=ab0 Je
     rw[NV]at hp
     cases hp
     have e:upd H D (.dK (putAll d []))=H:=by
       funext b
       unfold upd
       split
       . rename_i hb;rw[hb,hD];rfl
       . rfl
     rw[e]at hR
     change wpAny _ _ (abl D []>>=_) _ _ _
     show wpAny_bind (wpAny_pure (wpAny_pure (hR _ I1)))
   | some x=>
     have hlt:i<xs.length:=(List.getElem?_eq_some_iff.mp hx).1
     obtain⟨u,hu,ru⟩:=rv.get hx
     have NV:xs.drop i=x::xs.drop (i+1):=by
       have e:xs[i]=x:=(List.getElem?_eq_some_iff.mp hx).2
       rw[aaA hlt,e]
     rw[NV]at hp
     cases hp with
     | @cons _ kv _ r UK fQ=>
       obtain⟨ta,rfl,U9⟩:=UK
       obtain rfl:u=Y2 ta:=ru
       show wpAny_bind (wpAny_pyNext_list_item hit p.isList (x:=.ref ta) (by simpa using hu) fun h' N0 sb=>?_)
       have I1:Inv X pins σ H {s with heap:=h'}:=I.turned (t':=s.toks) (fun b o hb e=>(sb.2 b hb).trans e) f0 f1 f3 f4 f5
       obtain⟨eV,qT,p2,_⟩:=I1.tuple (bM.of U9)
       obtain⟨w1,w2,rfl,r1,r2⟩:=Vals.two qT
       show wpAny_bind (wpAny_holding ?_)
       show wpAny_bind (wpAny_tryCatch (ic (show({s with heap:=h'}:Shared).heap.IsTuple ta #[w1,w2]from(show IsTup h' ta #[w1,w2]by simpa using p2)) ?_))
       change wpAny _ _ (holding [w1,w2] (dictSet D w1 w2)) _ _ _
       obtain⟨z,Cg,vs,rel,dd⟩:=ja I1.hok hD
       have OH:vs.length<=sizeLine:=by rw[← rel.length];show z
       have UP:(putK d kv.1 kv.2).length<=d.length+1:=bO d kv.1 kv.2
       have Q2:n=xs.length-(i+1)+1:=by lia
       show wpAny_holding (wpAny_dictSet_pairs (hsz:=OH) (hG r1) dd fun h2 lM hs2=>?_)
       have he:∃q,h2.get? D=some q:=by obtain⟨q,_,_,hq,_⟩:=lM;show⟨q,hq⟩
       have IV:D≠it:=fun z=>by rw[z,f0]at hD;cases hD
       have UL:aF X.K (upd H D (.dK (putK d kv.1 kv.2))) l xs:=by
         rcases hq with(q|⟨o,q⟩)|q
         . show .inl (.inl (by rw[ar (dO q hD (fun z=>nomatch z))];show q))
         . show .inl (.inr ⟨o,by rw[ar (dO q hD (fun z=>nomatch z))];show q⟩)
         . show .inr q
       show wpAny_pure ⟨aay _ (by right),?_⟩
       show ih (xs.length-(i+1)) (by lia) (i+1) _ _ r (putK d kv.1 kv.2) (upd H D (.dK (putK d kv.1 kv.2))) _ R rfl hlt (dM (t':=_) I1 (by rw[hD];show Y5) hs2 he (jV (by lia) Cg (rel.put kv.1 r2) lM)) ae (by lia) UL ⟨by rw[ar IV.symm];show f0,hf.2⟩ (N0.extBut hs2.extBut IV.symm) ?_ ?_
       . show Paired.aZ fQ fun a b ⟨c,e1,e2⟩=>⟨c,e1,by rw[ar (dO e2 hD (fun z=>nomatch z))];show e2⟩
       . intro s' I'
         rw[iK]at I'
         show hR s' I'
def sP (K:Yl):List V->Hp->VK->Prop:=fun vs H Q=>∃l xs kvs,vs=[.ref l]/\H l=some (.lst xs)/\Paired (mE H) xs kvs/\∀D,H D=none->Q (.ref D) (upd H D (.dK (putAll [] kvs)))
def ju (hc:X.calm=true):dj X (.type "dict") (sP X.K):=by
 intro pins s σ H vs us Q I r h
 obtain⟨l,xs,kvs,rfl,hl,hp,q⟩:=h
 obtain⟨u,rfl,ru⟩:=vals1 r
 obtain rfl:u=Y2 l:=ru
 have hh:X.A.handled=none:=I.ok.hd hc
 have hD:H s.heap.objs.size=none:=I.hok.fresh (Yo _)
 have I1:Inv X pins σ (upd H s.heap.objs.size (.dK [])) {s with heap:=s.heap.push {cls:=.type "dict",data:=.dict #[]} }:=I.laid (t':=s.toks) (fun y y e=>Yr _ e) (Yo _) (gP s.heap I.big)
 show callType_codes (Q₁:=fun obj s₁=>obj=.ref s.heap.objs.size/\s₁={s with heap:=s.heap.push {cls:=.type "dict",data:=.dict #[]} }) F.kt_called_dict (F.kt_typeCall_dict_1 _) F.entry_dict_init (kt_code_dict_new _ ⟨U,U⟩) ?_
 rintro obj s₁ ⟨rfl,rfl⟩
 have oC:(s.heap.push {cls:=.type "dict",data:=.dict #[]}).DictOf (aL X.prog X.w) s.heap.objs.size []:=abc s.heap
 generalize Ow:({s with heap:=s.heap.push {cls:=.type "dict",data:=.dict #[]} }:Shared)=s1 at I1 ⊢
 have wC:s1.heap.DictOf (aL X.prog X.w) s.heap.objs.size []:=by rw[← Ow];show oC
 generalize s.heap.objs.size=D at hD I1 wC ⊢
 have hl1:(upd H D (.dK [])) l=some (.lst xs):=by rw[ar (ao hl hD)];show hl
 show⟨wC.typeIs,F.args_dict_init_2 _ _,?_⟩
 unfold Builtin.«dict.__init__»
 show wpAny_bind ?_
 unfold abk
 show wpAny_bind (wpAny_notOrdered_dict wC.typeIs ?_)
 change wpAny _ _ (pure (D,[Y2 l])) _ _ _
 show wpAny_pure ?_
 change wpAny _ _ (ZU "dict.__init__" D (.ref l) [] .none) _ _ _
 unfold ZU
 obtain⟨z,aM,n,rv,e⟩:=(show bC X.prog X.w _ s1.heap l (.lst xs)from I1.hok l _ hl1)
 show wpAny_bind (wpAny_typeOf (T:="list") ⟨_,e,U⟩ ?_)
 rw[bj (by left)]
 show wpAny_bind (jx e hh fun h' tk hk=>?_)
 rw[bj (show(Option.isNone (none:Option Value))=true from rfl)]
 have I2:Inv X pins σ (upd H D (.dK [])) {s1 with heap:=h',toks:=tk}:=I1.kept hk
 show wpAny_bind (wpAny_rule ?_)
 show wpAny_bind (wpAny_pyIter_list ⟨_,hk _ _ e,U,n,U⟩ ?_)
 have I3:=I2.kept (h':=h'.push {cls:=.type "list_iterator",data:=.fields #[.ref l,.int 0 0]}) (t':=tk) fun b o e=>Yr _ e
 show wpAny_pure ⟨aay _ (by right),?_⟩
 show pM (l:=l) (it:=h'.objs.size) (xs:=xs) (d:=[]) (kvs:=kvs) (pins:=pins) (σ:=σ) (A:=X.A.in1) (show X.A.in1.handled=none from hh) xs.length 0 _ _ _ _ _ (by simp) (YY _) I3 ae (by simpa using z) (aF.of hl1) (I2.jY (Yo _) (I2.hok.fresh (Yo _))) ⟨_,YG _ rfl,U,U⟩ ?_ ?_
 . show Paired.aZ hp fun a b ⟨c,e1,e2⟩=>⟨c,e1,by rw[ar (ao e2 hD)];show e2⟩
 . intro s' I'
   rw[iK]at I'
   show⟨U,.ref D,_,I',U,q D hD⟩
end
end L2
namespace L2
open PySem PySem.Spec PyProof.Rows SeqAt
inductive EB (K:Yl) (H:Hp):Nat->V->V->Bool->Prop where
 | flat {n:Nat} {x y:V}:cC x=true->cC y=true->EB K H n x y (kY x y)
 | same {n:Nat} {a:Addr}:EB K H n (.ref a) (.ref a) true
 | lst {n:Nat} {a b:Addr} {xs ys:List V} {e:Nat->Bool}:a≠b->aF K H a xs->aF K H b ys->xs.length=ys.length->(∀j x y,xs[j]?=some x->ys[j]?=some y->EB K H n x y (e j)) ->
     EB K H (n+1) (.ref a) (.ref b) ((YL xs.length).all e)
 | len {n:Nat} {a b:Addr} {xs ys:List V}:a≠b->aF K H a xs->aF K H b ys->xs.length≠ys.length->EB K H n (.ref a) (.ref b) false
 | tup {n:Nat} {a b:Addr} {xs ys:List V} {e:Nat->Bool}:a≠b->bM K H a xs->bM K H b ys->(∀j x y,xs[j]?=some x->ys[j]?=some y->EB K H n x y (e j)) ->
     EB K H (n+1) (.ref a) (.ref b) ((YL (min xs.length ys.length)).all e&&xs.length==ys.length)
section
variable{X:Cx}{pins:List (Addr×Obj)}{σ:St}{H:Hp}{s:Shared}
def dB {K:Yl}{n:Nat}{A:Around}{xs ys:List V}{us vs:List Value}{e:Nat->Bool}(rv:Vals xs us)(rw':Vals ys vs)
   (h:∀j x y,xs[j]?=some x->ys[j]?=some y->∀(A:Around) (u v:Value),RelV x u->RelV y v->A.units+n<cLine->EqAt A s u v (e j)) (hu:A.units+(n+1)<cLine) :
   ∀j (h1:j<us.toArray.size) (h2:j<vs.toArray.size),EqAt A.in1 s us.toArray[j] vs.toArray[j] (e j):=fun j h1 h2=>by
 have l1:=rv.length
 have l2:=rw'.length
 have L4:j<us.length:=by simpa using h1
 have oA:j<vs.length:=by simpa using h2
 have hx:xs[j]?=some (xs[j]'(by lia)):=Yn _
 have hy:ys[j]?=some (ys[j]'(by lia)):=Yn _
 obtain⟨u,Vg,ru⟩:=rv.get hx
 obtain⟨v,hv1,ml⟩:=rw'.get hy
 have eu:us[j]=u:=by have:=Yn L4;rw[Vg]at this;show(YQ this).symm
 have ev:vs[j]=v:=by have:=Yn oA;rw[hv1]at this;show(YQ this).symm
 have q:=h j _ _ hx hy A.in1 u v ru ml (by change A.units+1+n<cLine;lia)
 simpa[eu,ev]using q
def EB.at (I:Inv X pins σ H s){n:Nat}{x y:V}{b:Bool}(q:EB X.K H n x y b):∀(A:Around) (u v:Value),RelV x u->RelV y v->A.units+n<cLine->EqAt A s u v b:=by
 induction q with
 | flat h1 h2=>show fun A u v ru rv z=>qh ru rv h1 h2
 | same=>intro A u v ru rv _;cases ru;cases rv;show EqAt.same _
 | @lst n a b xs ys e hne ha hb hl _ ih=>
   intro A u v ru rv hu
   cases ru;cases rv
   obtain⟨us,r1,p1,_⟩:=I.list ha
   obtain⟨vs,r2,p2,_⟩:=I.list hb
   have l1:=r1.length
   have l2:=r2.length
   have q:=RcAt.lists (A:=A) p1.isList p2.isList (by simp;lia) (by lia) (dB (K:=X.K) r1 r2 ih hu)
   rw[show us.toArray.size=xs.length by simp[l1]]at q
   show EqAt.of_refs hne q
 | @len n a b xs ys hne ha hb hl=>
   intro A u v ru rv hu
   cases ru;cases rv
   obtain⟨us,r1,p1,_⟩:=I.list ha
   obtain⟨vs,r2,p2,_⟩:=I.list hb
   have l1:=r1.length
   have l2:=r2.length
   show EqAt.of_refs hne (RcAt.lists_lengths p1.isList p2.isList (by simp;lia) (by lia))
 | @tup n a b xs ys e hne ha hb _ ih=>
   intro A u v ru rv hu
   cases ru;cases rv
   obtain⟨us,r1,p1,_⟩:=I.tuple ha
   obtain⟨vs,r2,p2,_⟩:=I.tuple hb
   have l1:=r1.length
   have l2:=r2.length
   have q:=RcAt.tuples (A:=A) (show s.heap.IsTuple a us.toArray from p1) (show s.heap.IsTuple b vs.toArray from p2) (by lia) (dB (K:=X.K) r1 r2 ih hu)
   rw[show us.toArray.size=xs.length by simp[l1],show vs.toArray.size=ys.length by simp[l2]]at q
   show EqAt.of_refs hne q
end
def RB (K:Yl)(H:Hp)(n:Nat)(x y:V)(b:Bool):Prop:=∃a c xs ys,x=.ref a/\y=.ref c /\
 ((∃e:Nat->Bool,aF K H a xs/\aF K H c ys/\xs.length=ys.length/\(∀j x y,xs[j]?=some x->ys[j]?=some y->EB K H n x y (e j))/\b=(YL xs.length).all e) \/
  (aF K H a xs/\aF K H c ys/\xs.length≠ys.length/\b=false) \/
  (∃e:Nat->Bool,bM K H a xs/\bM K H c ys/\(∀j x y,xs[j]?=some x->ys[j]?=some y->EB K H n x y (e j))/\b=((YL (min xs.length ys.length)).all e&&xs.length==ys.length)))
section
variable{X:Cx}
def Fg {m:Nat}(hu:X.A.units+(m+1)<cLine):gF X (compareOp .Eq) (fun x y H Q=>∃b,RB X.K H m x y b/\Q (.bl b) H):=by
 intro pins s σ H x y v u Q I rx ry h
 obtain⟨b,⟨a,c,xs,ys,rfl,rfl,q⟩,k⟩:=h
 cases rx;cases ry
 rcases q with⟨e,ha,hb,hl,he,rfl⟩|⟨ha,hb,hl,rfl⟩|⟨e,ha,hb,he,rfl⟩
 . obtain⟨us,r1,p1,_⟩:=I.list ha
   obtain⟨vs,r2,p2,_⟩:=I.list hb
   have l1:=r1.length
   have l2:=r2.length
   show eq_listAt p1.isList p2.isList (by simp;lia) (by lia) (dB (K:=X.K) r1 r2 (fun j x y h1 h2=>(he j x y h1 h2).at I) hu) ?_
   rw[show us.toArray.size=xs.length by simp[l1]]
   show⟨.bl _,H,I,U,k⟩
 . obtain⟨us,r1,p1,_⟩:=I.list ha
   obtain⟨vs,r2,p2,_⟩:=I.list hb
   have l1:=r1.length
   have l2:=r2.length
   show eq_list_lengthsAt p1.isList p2.isList (by simp;lia) (by lia) ⟨.bl _,H,I,U,k⟩
 . obtain⟨us,r1,p1,_⟩:=I.tuple ha
   obtain⟨vs,r2,p2,_⟩:=I.tuple hb
   have l1:=r1.length
   have l2:=r2.length
   show eq_tupleAt (show s.heap.IsTuple a us.toArray from p1) (show s.heap.IsTuple c vs.toArray from p2) (by lia) (dB (K:=X.K) r1 r2 (fun j x y h1 h2=>(he j x y h1 h2).at I) hu) ?_
   rw[show us.toArray.size=xs.length by simp[l1],show vs.toArray.size=ys.length by simp[l2]]
   show⟨.bl _,H,I,U,k⟩
def Fm {m:Nat}(hu:X.A.units+(m+1)<cLine):gF X (compareOp .NotEq) (fun x y H Q=>∃b,RB X.K H m x y b/\Q (.bl (!b)) H):=by
 intro pins s σ H x y v u Q I rx ry h
 obtain⟨b,⟨a,c,xs,ys,rfl,rfl,q⟩,k⟩:=h
 cases rx;cases ry
 rcases q with⟨e,ha,hb,hl,he,rfl⟩|⟨ha,hb,hl,rfl⟩|⟨e,ha,hb,he,rfl⟩
 . obtain⟨us,r1,p1,_⟩:=I.list ha
   obtain⟨vs,r2,p2,_⟩:=I.list hb
   have l1:=r1.length
   have l2:=r2.length
   show RcNeAt.lists p1.isList p2.isList (by simp;lia) (by lia) (dB (K:=X.K) r1 r2 (fun j x y h1 h2=>(he j x y h1 h2).at I) hu) X.prog X.w X.xe _ ?_
   rw[show us.toArray.size=xs.length by simp[l1]]
   show⟨.bl _,H,I,U,k⟩
 . obtain⟨us,r1,p1,_⟩:=I.list ha
   obtain⟨vs,r2,p2,_⟩:=I.list hb
   have l1:=r1.length
   have l2:=r2.length
   show RcNeAt.lists_lengths p1.isList p2.isList (by simp;lia) (by lia) X.prog X.w X.xe _ ⟨.bl _,H,I,U,k⟩
 . obtain⟨us,r1,p1,_⟩:=I.tuple ha
   obtain⟨vs,r2,p2,_⟩:=I.tuple hb
   have l1:=r1.length
   have l2:=r2.length
   show RcNeAt.tuples (show s.heap.IsTuple a us.toArray from p1) (show s.heap.IsTuple c vs.toArray from p2) (by lia) (dB (K:=X.K) r1 r2 (fun j x y h1 h2=>(he j x y h1 h2).at I) hu) X.prog X.w X.xe _ ?_
   rw[show us.toArray.size=xs.length by simp[l1],show vs.toArray.size=ys.length by simp[l2]]
   show⟨.bl _,H,I,U,k⟩
end
def ET (K:Yl)(H:Hp)(n:Nat)(x y:V):Prop:=EB K H n x y true
def all_true {n:Nat}:(YL n).all (fun z=>true)=true:=by rw[aaR];intro _ _;rfl
def ET.lst {K:Yl}{H:Hp}{n:Nat}{a b:Addr}{xs ys:List V}(ha:aF K H a xs)(hb:aF K H b ys)(hl:xs.length=ys.length)(h:∀(j:Nat) (x y:V),xs[j]?=some x->ys[j]?=some y->ET K H n x y):ET K H (n+1) (.ref a) (.ref b):=by
 by_cases e:a=b
 . subst e;show .same
 . have q:=EB.lst (e:=fun z=>true) e ha hb hl h
   rw[all_true]at q
   show q
def ET.tup {K:Yl}{H:Hp}{n:Nat}{a b:Addr}{xs ys:List V}(ha:bM K H a xs)(hb:bM K H b ys)(hl:xs.length=ys.length)(h:∀(j:Nat) (x y:V),xs[j]?=some x->ys[j]?=some y->ET K H n x y):ET K H (n+1) (.ref a) (.ref b):=by
 by_cases e:a=b
 . subst e;show .same
 . have q:=EB.tup (e:=fun z=>true) e ha hb h
   rw[all_true,hl,beq_self_eq_true]at q
   show q
def wc {x:V}(h:cC x=true):kY x x=true:=by cases x<;>simp_all [cC,kY]
def ET.refl {K:Yl}{H:Hp}{n:Nat}{x:V}(h:cC x=true\/∃a,x=.ref a):ET K H n x x:=by
 rcases h with h|⟨a,rfl⟩
 . have q:=EB.flat (K:=K) (H:=H) (n:=n) h h
   rw[wc h]at q
   show q
 . show .same
def RB.lst {K:Yl}{H:Hp}{n:Nat}{a b:Addr}{xs ys:List V}(ha:aF K H a xs)(hb:aF K H b ys)(hl:xs.length=ys.length)(h:∀(j:Nat) (x y:V),xs[j]?=some x->ys[j]?=some y->ET K H n x y):RB K H n (.ref a) (.ref b) true:=
 ⟨a,b,xs,ys,rfl,rfl,.inl ⟨fun z=>true,ha,hb,hl,h,all_true.symm⟩⟩
def RB.tup {K:Yl}{H:Hp}{n:Nat}{a b:Addr}{xs ys:List V}(ha:bM K H a xs)(hb:bM K H b ys)(hl:xs.length=ys.length)(h:∀(j:Nat) (x y:V),xs[j]?=some x->ys[j]?=some y->ET K H n x y):RB K H n (.ref a) (.ref b) true:=
 ⟨a,b,xs,ys,rfl,rfl,.inr (.inr ⟨fun z=>true,ha,hb,h,by rw[all_true,hl,beq_self_eq_true];rfl⟩)⟩
def RB.nil {K:Yl}{H:Hp}{n:Nat}{a b:Addr}{xs:List V}(ha:aF K H a xs)(hb:aF K H b []):RB K H n (.ref a) (.ref b) xs.isEmpty:=by
 cases xs with
 | nil=>show RB.lst ha hb rfl (fun j x y h=>by simp at h)
 | cons x r=>show⟨a,b,_,[],rfl,rfl,.inr (.inl ⟨ha,hb,by simp,rfl⟩)⟩
section
variable{X:Cx}{pos:Pos}
def IA (K:Yl)(n:Nat)(t:ub):TG:=fun v σ H Q=>∃a xs,v=.ref a/\aF K H a xs/\xs.length=n/\t xs σ H Q
def FG {es:List Expr}{k:Nat}{t:ub}{n:Nat}(hc:X.calm=true)(h:GN X es t)
   (hn:(assignEach es X.env).length=n:=by rfl) (hst:(assignEach es X.env).findIdx? (·.1)=none:=by rfl):PG X (.Tuple es k pos) (IA X.K n t):=by
 intro pins s σ H v u Q I r hw
 obtain⟨a,xs,e1,hq,hl,hw⟩:=hw
 subst e1
 cases r
 obtain⟨aM,rv,ht,hz⟩:=I.list hq
 have hlen:=rv.length
 rw[assign_Tuple]
 show wpAny_bind (wpAny_standAt ?_)
 unfold unpack
 rw[show(assignEach es X.env).length=aM.toArray.size by simp[hn,← hl,hlen],hst]
 show wpAny_bind (wpAny_holding (PySem.W.kun_itemsOf (I.ok.hd hc) ht.isList fun h' hx=>?_))
 have I1:Inv X pins σ H {s with heap:=h'}:=I.kept (t':=s.toks) fun b o e=>hx b o (YJ (Ys e)) e
 show h pins _ σ H xs _ Q I1 (by simpa using rv) hw
def B6 (i j:Int):Prop:=0<j/\j<2^1000
def xH:gF X (binaryOp .FloorDiv) (rI B6 fun i j=>.int (i/j)):=Mo fun i j z z z z z hc q=>by
 have h1:(0:Int)<j:=hc.1
 have h2:j<2^1000:=hc.2
 have h3:j.natAbs<2^1000:=by lia
 show floordiv_int (by lia) (by rw[Int.fdiv_eq_ediv_of_nonneg i (by lia)];show q) (.inl (PyProof.noPylong_of_log2 (YH ((Nat.log2_lt (by lia)).mpr h3) (by left))))
end
end L2
namespace TW
open PySem L2
inductive K2 where
 | plus|less|same|under|both
def K2.str:K2->Str
 | .plus=>"plus" | .less=>"less" | .same=>"same" | .under=>"under" | .both=>"both"
inductive E where
 | num (n:Int)|box (tag x:Str)|yes|nt (a:E)|two (k:K2) (a b:E)
def Tp (H:Hp)(v:V)(xs:List V):Prop:=∃p,v=.ref p/\H p=some (.tup xs)
def eK (H:Hp):V->E->Prop
 | v,.num n=>Tp H v [.str "number",.int n]
 | v,.box t x=>Tp H v [.str t,.str x]
 | v,.yes=>Tp H v [.str "yes"]
 | v,.nt a=>∃x,Tp H v [.str "not",x]/\eK H x a
 | v,.two k a b=>∃x y,Tp H v [.str k.str,x,y]/\eK H x a/\eK H y b
def TK (H H':Hp):Prop:=∀b xs,H b=some (.tup xs)->H' b=some (.tup xs)
def TK.trans {A B C:Hp}(a:TK A B)(b:TK B C):TK A C:=fun c o h=>b c o (a c o h)
def Tp.keep {H H':Hp}{v:V}{xs:List V}(k:TK H H')(h:Tp H v xs):Tp H' v xs:=by obtain⟨p,e,q⟩:=h;show⟨p,e,k p xs q⟩
theorem eK.keep {H H':Hp}(k:TK H H'):∀{e:E} {v:V},eK H v e->eK H' v e
 | .num _,_,h=>Tp.keep k h
 | .box _ _,_,h=>Tp.keep k h
 | .yes,_,h=>Tp.keep k h
 | .nt _,_,⟨x,h,a⟩=>⟨x,h.keep k,eK.keep k a⟩
 | .two _ _ _,_,⟨x,y,h,a,b⟩=>⟨x,y,h.keep k,eK.keep k a,eK.keep k b⟩
def E.dep:E->Nat
 | .num _=>0|.box _ _=>0|.yes=>0|.nt a=>a.dep+1|.two _ a b=>max a.dep b.dep+1
def E.kZ:E->Prop
 | .num _=>True
 | .box _ _=>True
 | .two .plus a b=>a.kZ/\b.kZ
 | .two .less a b=>a.kZ/\b.kZ
 | _=>False
def E.El:E->Prop
 | .yes=>True
 | .nt a=>a.El
 | .two .same a b=>a.kZ/\b.kZ
 | .two .under a b=>a.kZ/\b.kZ
 | .two .both a b=>a.El/\b.El
 | _=>False
def E.okIn (P:Str->Str->Prop):E->Prop
 | .num n=>n.natAbs<2^100|.box t x=>P t x|.yes=>True|.nt a=>a.okIn P|.two _ a b=>a.okIn P/\b.okIn P
def E.worth (w:Str->Str->Int):E->Int
 | .num n=>n
 | .box t x=>w t x
 | .two .plus a b=>a.worth w+b.worth w
 | .two .less a b=>a.worth w-b.worth w
 | _=>0
def E.holds (w:Str->Str->Int):E->Bool
 | .yes=>true
 | .nt a=>!(a.holds w)
 | .two .same a b=>decide (a.worth w=b.worth w)
 | .two .under a b=>decide (a.worth w<b.worth w)
 | .two .both a b=>a.holds w&&b.holds w
 | _=>false
inductive Nd where
 | put (x:Str) (s:E) (n:Int)|say (s:E) (n:Int)|test (c:E) (n o:Int)|fin
def p4 (H:Hp):V->Nd->Prop
 | v,.put x s n=>∃u,Tp H v [.str "put",.str x,u,.int n]/\eK H u s
 | v,.say s n=>∃u,Tp H v [.str "say",u,.int n]/\eK H u s
 | v,.test c n o=>∃u,Tp H v [.str "test",u,.int n,.int o]/\eK H u c
 | v,.fin=>Tp H v [.str "end"]
theorem p4.keep {H H':Hp}(k:TK H H'):∀{e:Nd} {v:V},p4 H v e->p4 H' v e
 | .put _ _ _,_,⟨u,h,a⟩=>⟨u,h.keep k,a.keep k⟩
 | .say _ _,_,⟨u,h,a⟩=>⟨u,h.keep k,a.keep k⟩
 | .test _ _ _,_,⟨u,h,a⟩=>⟨u,h.keep k,a.keep k⟩
 | .fin,_,h=>Tp.keep k h
def Nd.good (P:Str->Prop)(many:Int)(d:Nat):Nd->Prop
 | .put x s n=>P x/\s.kZ/\s.okIn (fun t y=>t="box"/\P y)/\s.dep<=d/\0<=n/\n<many
 | .say s n=>s.kZ/\s.okIn (fun t y=>t="box"/\P y)/\s.dep<=d/\0<=n/\n<many
 | .test c n o=>c.El/\c.okIn (fun t y=>t="box"/\P y)/\c.dep<=d/\0<=n/\n<many/\0<=o/\o<many
 | .fin=>True
def af {H:Hp}{p:Addr}(h:H p=none)(o:HO):ah H (upd H p o):=fun b u q=>by rw[ar (ao q h)];show q
def ah.tk {H H':Hp}(s:ah H H'):TK H H':=fun b xs h=>s b _ h
def Gx {H:Hp}{p:Addr}(h:H p=none)(o:HO):TK H (upd H p o):=ah.tk (af h o)
def small {n:Nat}(h:n<=1000):n<=sizeLine:=Zb (aD h)
def eR (H:Hp)(v:V)(b:Str×Int):Prop:=Tp H v [.str b.1,.int b.2]
structure di (H:Hp)(v:V)(bs:aj)(ins:List Str)(nds:List Nd):Prop where
 at_:∃p B I N vb vn,v=.ref p/\H p=some (.tup [.ref B,.ref I,.ref N])/\H B=some (.lst vb)/\H I=some (.lst (ins.map V.str))/\H N=some (.lst vn)/\Paired (eR H) vb bs/\Paired (p4 H) vn nds
end TW
set_option exponentiation.threshold 4000
namespace TW
open PySem L2
def Src (K:Yl)(mg:Str->Option Value)(x:Str)(st:Stmt):Prop:=∃f fd,b9 K x x st f fd/\mg x=some (.ref f)
def aS (P:Program)(w:World)(K:Yl)(mg:Str->Option Value)(base:Heap)(x:Str)(ps:List Str)(k:Nat)(sp:Sp):Prop:=
 ∃f fd,aO P w K mg base bU k f fd ps sp/\Zq K (.ref f)=true/\Binds K fd ps []/\mg x=some (.ref f)
def aS.mono {P:Program}{w:World}{K:Yl}{mg:Str->Option Value}{base:Heap}{x:Str}{ps:List Str}{j k:Nat}{sp:Sp}(h:aS P w K mg base x ps j sp)(hk:j<=k):aS P w K mg base x ps k sp:=
 let⟨f,fd,a,b,c,d⟩:=h;⟨f,fd,a.mono hk,b,c,d⟩
def bR {A:Around}{k:Nat}(hr:cI k A)(m:Nat)(hm:m<=64):A.units+m<cLine:=by have:=hr.units;lia
end TW
namespace L2
open PySem PySem.Spec PyProof.Rows
structure bL (e:Expr):Prop where
 h:∀(es:List Expr) (env:Env),starEach (e::es) env=(false,eval e env)::starEach es env
def eZ {e:Expr}(h:∀x p,e≠.Starred x p):bL e:=⟨fun es env=>by
 cases e<;>first|rfl|show az rfl (h _ _)⟩
def km {c k p}:bL (.Constant c k p):=eZ fun y y z=>nomatch z
def fE {x p}:bL (.Name x p):=eZ fun y y z=>nomatch z
def fD {f a k p}:bL (.Call f a k p):=eZ fun y y z=>nomatch z
def xj {a o b p}:bL (.BinOp a o b p):=eZ fun y y z=>nomatch z
def iY {a b p}:bL (.Subscript a b p):=eZ fun y y z=>nomatch z
def xm {a b p}:bL (.Tuple a b p):=eZ fun y y z=>nomatch z
def xl {a p}:bL (.List a p):=eZ fun y y z=>nomatch z
def xk {a b c p}:bL (.Compare a b c p):=eZ fun y y z=>nomatch z
def Ct {a b c p}:bL (.ListComp a b c p):=eZ fun y y z=>nomatch z
def Cu {a b p}:bL (.UnaryOp a b p):=eZ fun y y z=>nomatch z
def gE (es:List Expr):Prop:=∀(pos:Pos) (env:Env),(backTo pos (starEach es env)).any (·.1)=false
def AA:gE []:=fun z z=>rfl
def xo {e:Expr}{es:List Expr}(h:bL e)(hs:gE es):gE (e::es):=fun pos env=>by
 rw[h.h es env]
 show hs pos env
structure pS (X:Cx)(es:List Expr)(t:TA):Prop where
 pa:PA X es t
 ns:∀e r,es=e::r->bL e/\gE r
 nss:gE es
section
variable{X:Cx}{e:Expr}{es:List Expr}{te:TE}{t:TA}{pos:Pos}
def an:pS X [] Gv:=⟨Fq,(fun y y z=>nomatch z),AA⟩
def ac (ha:PE X e te)(hr:pS X es t)
   (hs:bL e:=by first|show km|show fE|show fD|show xj|show iY|show xm|show xl|show xk|show Ct|show JT|show Cu|show Ay|show Ax):pS X (e::es) (yW te t):=
 ⟨A4 ha hr.pa (hs.h es X.env),fun e' r z=>by injection z with z1 z2;subst z1 z2;show⟨hs,hr.nss⟩,xo hs hr.nss⟩
def Qe {x1}(h:pS X es t):PE X (.Tuple es x1 pos) (Gw t):=FD h.pa
def Qc (h:pS X es t):PE X (.List es pos) (Gu t):=Fx h.pa
def GC {x:Str}{p:Pos}{id:String}{r:List V->Hp->VK->Prop}(hc:dj X (.builtin id) r)(hg:Gl X x)(hm:X.mg x=none)(hv:Zf x=some (.builtin id))(ha:pS X (e::es) t)(hn:x≠"__name__":=by left)(hdb:(x==("__debug__":Str))=false:=by left) :
   PE X (.Call (.Name x p) (e::es) [] pos) (Ho r t):=xM hc hg hm hv ha.pa hn hdb ((ha.ns e es rfl).1.h es X.env) ((ha.ns e es rfl).2 pos X.env)
def GD {x:Str}{p:Pos}{T:String}{r:List V->Hp->VK->Prop}(hc:dj X (.type T) r)(hg:Gl X x)(hm:X.mg x=none)(hv:Zf x=some (.type T))(ha:pS X (e::es) t)(hn:x≠"__name__":=by left)(hdb:(x==("__debug__":Str))=false:=by left) :
   PE X (.Call (.Name x p) (e::es) [] pos) (Ho r t):=u4 hc hg hm hv ha.pa hn hdb ((ha.ns e es rfl).1.h es X.env) ((ha.ns e es rfl).2 pos X.env)
def Qd {x:Str}{p:Pos}{ps:List Str}{k:Nat}{sp:Sp}(D:TW.aS X.prog X.w X.K X.mg X.base x ps k sp)(hr:cI k X.A)(hg:Gl X x)(ha:pS X (e::es) t)(hdb:(x==("__debug__":Str))=false:=by left) :
   PE X (.Call (.Name x p) (e::es) [] pos) (kJ sp [] E0 t):=
 let⟨_,_,G,kp,b,m⟩:=D
 m8 G hr hg m kp b .nil Cz ha.pa hdb ((ha.ns e es rfl).1.h es X.env) ((ha.ns e es rfl).2 pos X.env)
def B1 {tg a:Expr}{ta:TA}{p:Pos}(hg:Gl X "range")(hm:X.mg "range"=none)(ha:pS X [a] ta):PI X tg (.Call (.Name "range" p) [a] [] pos) (wK ta):=
 u5 hg hm ha.pa ((ha.ns a [] rfl).1.h [] X.env)
def Qf {a b:Expr}{ta:TA}{p tp:Pos}{elts:List Expr}{x1:Nat}(hg:Gl X "zip")(hm:X.mg "zip"=none)(ha:pS X [a,b] ta)(hb:bL b:=by first|show fE|show iY|show fD):PI X (.Tuple elts x1 tp) (.Call (.Name "zip" p) [a,b] [] pos) (Ei X.K ta):=
 FJ hg hm ha.pa (by rw[(ha.ns a [b] rfl).1.h [b] X.env,hb.h [] X.env];rfl) (by rw[hb.h [] X.env];rfl)
def Qb {o:Expr}{name:Str}{apos:Pos}{T id:String}{r:V->List V->Hp->VK->Prop}{to:TE}(pa:PlainAttrs T)(slot:Slot T name id)(hty:typeOf (.builtin id)=pure (.type "method_descriptor"))(hm:LG X id r)(ho:PE X o to)(ha:pS X [e] t)
   (hbase:Zw o name X.env (eval o X.env)=eval o X.env:=by rfl) (hline:(apos.endLine==pos.line)=true:=by rfl):PE X (.Call (.Attribute o name apos) [e] [] pos) (Hn X.K T r to t):=
 CB pa slot hty hm ho ha.pa hbase (by rw[(ha.ns e [] rfl).1.h [] X.env];rfl) hline ((ha.ns e [] rfl).1.h [] X.env) ((ha.ns e [] rfl).2 pos X.env)
end
end L2
namespace L3
open PySem PySem.Spec PyProof.Rows L2
structure SE (X:Cx)(e:Expr)(t:TE):Prop where
 h:PE X e t
structure ST (X:Cx)(e:Expr)(t:TT):Prop where
 h:PT X e t
structure SW (X:Cx)(e:Expr)(t:TT):Prop where
 h:PW X e t
structure SA (X:Cx)(es:List Expr)(t:TA):Prop where
 h:pS X es t
structure SS (X:Cx)(s:Stmt)(t:TS):Prop where
 h:PS X s t
structure SL (X:Cx)(ss:List Stmt)(t:TS):Prop where
 h:kS X ss t
structure SG (X:Cx)(e:Expr)(t:TG):Prop where
 h:PG X e t
structure HP (X:Cx)(es:List Expr)(t:ub):Prop where
 h:GN X es t
structure SI (X:Cx)(tg iter:Expr)(t:TI):Prop where
 h:PI X tg iter t
structure zE (X:Cx)(cs:List Expr)(t:TT):Prop where
 h:iP X cs t
structure SO (X:Cx)(f:Value->Value->Sem Value)(r:R2):Prop where
 h:gF X f r
structure SX (X:Cx)(r:R2):Prop where
 h:HH X r
structure SC (X:Cx)(f:Value)(r:List V->Hp->VK->Prop):Prop where
 h:dj X f r
structure SM (X:Cx)(id:String)(r:V->List V->Hp->VK->Prop):Prop where
 h:LG X id r
section
variable{X:Cx}{a b c e o:Expr}{es:List Expr}{ta tb tc te:TE}{t:TA}{tA uB:TT}{pos:Pos}{r:R2}
def v (i:Nat){x:Str}(hN:X.N[i]?=some x:=by rfl)(hv:LJ X.env.scope x:=by first|show Or.inl rfl|show Or.inr (Or.inl rfl)|show Or.inr (Or.inr rfl))(hd:(x==("__debug__":Str))=false:=by left)
   (hcd:(x==("__classdict__":Str))=false:=by left):SE X (.Name x pos) (Lm i):=⟨FE hN hv hd hcd⟩
theorem int {i j}:SE X (.Constant (.int i) j pos) (tC (.int i)):=⟨Fw⟩
theorem bl {k j}:SE X (.Constant (.bool k) j pos) (tC (.bl k)):=⟨Kk⟩
theorem bJ {j}:SE X (.Constant .none j pos) (tC .bJ):=⟨Fy⟩
theorem str {x j}:SE X (.Constant (.str x) j pos) (tC (.str x)):=⟨FC⟩
def glob {x:Str}{w:V}{u:Value}(hg:Gl X x)(hm:X.mg x=some u)(r:RelV w u)(hd:(x==("__debug__":Str))=false:=by left):SE X (.Name x pos) (tC w):=⟨A8 hg hm r hd⟩
def op {k:Operator}(ho:SO X (binaryOp k) r)(ha:SE X a ta)(hb:SE X b tb):SE X (.BinOp a k b pos) (zw r ta tb):=⟨Kn ho.h ha.h hb.h⟩
def cmp {k:CmpOp}(ho:SO X (compareOp k) r)(ha:SE X a ta)(hb:SE X b tb)(hm:ZY k b=false:=by show w6 _):ST X (.Compare a [k] [b] pos) (Dc (zw r ta tb)):=⟨Bw ho.h ha.h hb.h hm⟩
def fZ {k:CmpOp}(ho:SO X (compareOp k) r)(ha:SE X a ta)(hb:SE X b tb)(hm:ZY k b=false:=by show w6 _):SE X (.Compare a [k] [b] pos) (zw r ta tb):=⟨A5 ho.h ha.h hb.h hm⟩
def cw:SO X (binaryOp .Add) (sS fun i j=>.int (i+j)):=⟨Fe⟩
def fb:SO X (binaryOp .Sub) (sS fun i j=>.int (i-j)):=⟨Fp⟩
def d7:SO X (binaryOp .Mult) (rI zy fun i j=>.int (i*j)):=⟨Fl⟩
def jg:SO X (binaryOp .Mod) (rI (fun z j=>0<j) fun i j=>.int (i%j)):=⟨Fj⟩
def ko:SO X (binaryOp .FloorDiv) (rI B6 fun i j=>.int (i/j)):=⟨xH⟩
def JX:SO X (binaryOp .Pow) (rI Hv fun i j=>.int (i^j.toNat)):=⟨Fn⟩
def jf:SO X (binaryOp .Add) KA:=⟨Ff⟩
def bI:SO X (compareOp .Eq) RY:=⟨J3⟩
def lq:SO X (compareOp .NotEq) RZ:=⟨J8⟩
def qJ:SO X (compareOp .Lt) (sS fun i j=>.bl (decide (i<j))):=⟨J7⟩
def oR:SO X (compareOp .Gt) (sS fun i j=>.bl (decide (j<i))):=⟨J5⟩
def EG:SO X (compareOp .GtE) (sS fun i j=>.bl (decide (j<=i))):=⟨J4⟩
def O9:SO X (compareOp .LtE) (sS fun i j=>.bl (decide (i<=j))):=⟨J6⟩
def JW {KK:Yl}{m:Nat}(hu:X.A.units+(m+1)<cLine)(hK:X.K=KK:=by first|show bG|rfl):SO X (compareOp .Eq) (fun x y H Q=>∃b,RB KK H m x y b/\Q (.bl b) H):=by
 subst hK
 show⟨Fg hu⟩
def kq {KK:Yl}{m:Nat}(hu:X.A.units+(m+1)<cLine)(hK:X.K=KK:=by first|show bG|rfl):SO X (compareOp .NotEq) (fun x y H Q=>∃b,RB KK H m x y b/\Q (.bl (!b)) H):=by
 subst hK
 show⟨Fm hu⟩
def xp {KK:Yl}(hK:X.K=KK:=by first|show bG|rfl):SO X (compareOp .In) (MB KK false):=by
 subst hK
 show⟨uY⟩
def AB {KK:Yl}(hK:X.K=KK:=by first|show bG|rfl):SO X (compareOp .NotIn) (MB KK true):=by
 subst hK
 show⟨m6⟩
def iq:SO X (compareOp .Is) (fun x y H Q=>y=.bJ/\Q (.bl (decide (x=.bJ))) H):=⟨Fi⟩
def vD {rest:List Expr}(ha:ST X a tA)(hb:SW X (.BoolOp .Or (b::rest) pos) uB):SW X (.BoolOp .Or (a::b::rest) pos) (Ss tA uB):=⟨Ky ha.h hb.h⟩
def xI (ha:ST X a tA):SW X (.BoolOp .Or [a] pos) tA:=⟨FZ ha.h⟩
def kW {rest:List Expr}(ha:ST X a tA)(hb:SW X (.BoolOp .And (b::rest) pos) uB):SW X (.BoolOp .And (a::b::rest) pos) (Lc tA uB):=⟨FY ha.h hb.h⟩
def kU (ha:ST X a tA):SW X (.BoolOp .And [a] pos) tA:=⟨Bx ha.h⟩
def tw (h:SW X e tA):ST X e tA:=⟨h.h.pt⟩
def nt (ha:ST X a tA):ST X (.UnaryOp .Not a pos) (Lh tA):=⟨FW ha.h⟩
def jz (h:SE X e te)(he:∀whole,isTrue e X.env whole=(do let v←whole;standAt e.pos;holding [v] (truthy v)):=by intro _;rfl):ST X e (tB te):=⟨FX h.h he⟩
def ix (hr:SX X r)(ha:SE X a ta)(hb:SE X b tb)(hs:jA b:=by show fun z z=>rfl):SE X (.Subscript a b pos) (zw r ta tb):=⟨Kl hr.h ha.h hb.h hs⟩
def ef {KK:Yl}(hK:X.K=KK:=by first|show bG|rfl):SX X (KC KK):=by
 subst hK
 show⟨Aq⟩
def bo {KK:Yl}(hK:X.K=KK:=by first|show bG|rfl):SX X (KD KK):=by
 subst hK
 show⟨Em⟩
def oh (hu:X.A.units+1<cLine)(ho:SE X a ta)(hi:SE X b tb)(hs:vJ b:=by show fun z z=>rfl):SE X (.Subscript a b pos) (C1 ta tb):=⟨A6 hu ho.h hi.h hs⟩
def PY {KK:Yl}{p2:Pos}(ha:SE X a ta)(hb:SE X b tb)(hK:X.K=KK:=by first|show bG|rfl):SE X (.Subscript a (.Slice (some b) none none p2) pos) (Ll (F1 KK) ta (pI tb) iH):=by
 subst hK
 show⟨ir yH ha.h (jG hb.h) jF⟩
def pj {KK:Yl}{p2:Pos}(ha:SE X a ta)(hb:SE X b tb)(hK:X.K=KK:=by first|show bG|rfl):SE X (.Subscript a (.Slice none (some b) none p2) pos) (Ll (F0 KK) ta iH (pI tb)):=by
 subst hK
 show⟨ir tJ ha.h jF (jG hb.h)⟩
def n:SA X [] Gv:=⟨an⟩
def k (ha:SE X e te)(hr:SA X es t)(hs:bL e:=by first|show km|show fE|show fD|show xj|show iY|show xm|show xl|show xk|show Ct|show JT|show Cu|show Ay|show Ax) :
   SA X (e::es) (yW te t):=⟨ac ha.h hr.h hs⟩
def tup {x1}(h:SA X es t):SE X (.Tuple es x1 pos) (Gw t):=⟨Qe h.h⟩
def lst (h:SA X es t):SE X (.List es pos) (Gu t):=⟨Qc h.h⟩
def aR {x:Str}{p:Pos}{id:String}{rr:List V->Hp->VK->Prop}(hc:SC X (.builtin id) rr)(hg:Gl X x)(hm:X.mg x=none)(hv:Zf x=some (.builtin id))(ha:SA X (e::es) t)(hn:x≠"__name__":=by left)(hdb:(x==("__debug__":Str))=false:=by left) :
   SE X (.Call (.Name x p) (e::es) [] pos) (Ho rr t):=⟨GC hc.h hg hm hv ha.h hn hdb⟩
def dk {x:Str}{p:Pos}{T:String}{rr:List V->Hp->VK->Prop}(hc:SC X (.type T) rr)(hg:Gl X x)(hm:X.mg x=none)(hv:Zf x=some (.type T))(ha:SA X (e::es) t)(hn:x≠"__name__":=by left)(hdb:(x==("__debug__":Str))=false:=by left) :
   SE X (.Call (.Name x p) (e::es) [] pos) (Ho rr t):=⟨GD hc.h hg hm hv ha.h hn hdb⟩
def own {x:Str}{p:Pos}{ps:List Str}{kk:Nat}{sp:Sp}(D:TW.aS X.prog X.w X.K X.mg X.base x ps kk sp)(hr:cI kk X.A)(hg:Gl X x)(ha:SA X (e::es) t)(hdb:(x==("__debug__":Str))=false:=by left) :
   SE X (.Call (.Name x p) (e::es) [] pos) (kJ sp [] E0 t):=⟨Qd D hr hg ha.h hdb⟩
def Qo {KK:Yl}{name:Str}{apos:Pos}{T id:String}{rr:V->List V->Hp->VK->Prop}(pa:PlainAttrs T)(slot:Slot T name id)(hty:typeOf (.builtin id)=pure (.type "method_descriptor"))(hm:SM X id rr)(ho:SE X o ta)(ha:SA X [e] t)
   (hbase:Zw o name X.env (eval o X.env)=eval o X.env:=by rfl) (hline:(apos.endLine==pos.line)=true:=by rfl) (hK:X.K=KK:=by first|show bG|rfl):SE X (.Call (.Attribute o name apos) [e] [] pos) (Hn KK T rr ta t):=by
 subst hK
 show⟨Qb pa slot hty hm.h ho.h ha.h hbase hline⟩
theorem append {KK:Yl}{apos:Pos}(ho:SE X o ta)(ha:SA X [e] t)(hbase:Zw o "append" X.env (eval o X.env)=eval o X.env:=by rfl)(hline:(apos.endLine==pos.line)=true:=by rfl)(hK:X.K=KK:=by first|show bG|rfl):SE X (.Call (.Attribute o "append" apos) [e] [] pos) (Hn KK "list" sO ta t):=by
 subst hK
 show Qo aaE PySem.F.slot_list_append PySem.F.type_list_append ⟨lY⟩ ho ha hbase hline
def bp {KK:Yl}(hK:X.K=KK:=by first|show bG|rfl):SC X (.builtin "len") (fun xs H Q=>∃p ys,xs=[.ref p]/\(aF KK H p ys\/bM KK H p ys)/\Q (.int ys.length) H):=by
 subst hK
 show⟨mI⟩
def fX {KK:Yl}(hK:X.K=KK:=by first|show bG|rfl):SC X (.type "list") (fun xs H Q=>∃p ys,xs=[.ref p]/\(aF KK H p ys\/bM KK H p ys)/\∀l,H l=none->Q (.ref l) (upd H l (.lst ys))):=by
 subst hK
 show⟨mJ⟩
def vS {KK:Yl}(hc:X.calm=true:=by rfl)(hK:X.K=KK:=by first|show bG|rfl):SC X (.type "dict") (sP KK):=by
 subst hK
 show⟨ju hc⟩
def Ia:SC X (.type "int") (fun xs H Q=>(∃i,xs=[.int i]/\Q (.int i) H)\/∃k,xs=[.bl k]/\Q (.int (if k then 1 else 0)) H):=⟨ud⟩
def gn (i:Nat){x:Str}(hN:X.N.Nodup)(hi:X.N[i]?=some x:=by rfl)(hx:Loc X.env.scope x:=by first|show Or.inl rfl|show Or.inr rfl)(hf:X.fn x=true\/X.env.scope.names.lookup x=some .local:=by first|show .inl rfl|show .inr rfl):SG X (.Name x pos) (dm i):=⟨Ba hN hi hx hf⟩
def eL:HP X [] zZ:=⟨Bb⟩
def bS {t:TG}{u:ub}(h1:SG X e t)(h2:HP X es u)(hs:(assignEach (e::es) X.env).map (·.2)=assign e X.env::(assignEach es X.env).map (·.2):=by rfl):HP X (e::es) (jZ t u):=⟨xT h1.h h2.h hs⟩
def b8 {KK:Yl}{kk:Nat}{t:ub}(m:Nat)(h:HP X es t)(hc:X.calm=true:=by rfl)(hn:(assignEach es X.env).length=m:=by rfl)(hst:(assignEach es X.env).findIdx? (·.1)=none:=by rfl)(hK:X.K=KK:=by first|show bG|rfl):SG X (.Tuple es kk pos) (z3 KK m t):=by
 subst hK
 show⟨FH hc h.h hn hst⟩
def NC {KK:Yl}{kk:Nat}{t:ub}(m:Nat)(h:HP X es t)(hc:X.calm=true:=by rfl)(hn:(assignEach es X.env).length=m:=by rfl)(hst:(assignEach es X.env).findIdx? (·.1)=none:=by rfl)(hK:X.K=KK:=by first|show bG|rfl):SG X (.Tuple es kk pos) (IA KK m t):=by
 subst hK
 show⟨FG hc h.h hn hst⟩
def IM {cc:Const}{j:Nat}{p:Pos}(ho:SE X a ta)(hi:SE X (.Constant cc j p) tb):SG X (.Subscript a (.Constant cc j p) pos) (DP ta tb yc):=⟨xS ho.h hi.h set_list (fun z=>rfl)⟩
def iL {KK:Yl}{tg:Expr}(h:SE X a ta)(hK:X.K=KK:=by first|show bG|rfl):SI X tg a (Cq KK ta):=by
 subst hK
 show⟨Be h.h⟩
def iT {KK:Yl}{tg:Expr}(h:SE X a ta)(hK:X.K=KK:=by first|show bG|rfl):SI X tg a (Jv KK ta):=by
 subst hK
 show⟨FI h.h⟩
def iR {tg:Expr}{p:Pos}(hg:Gl X "range")(hm:X.mg "range"=none)(ha:SA X [a] t):SI X tg (.Call (.Name "range" p) [a] [] pos) (wK t):=⟨B1 hg hm ha.h⟩
def iZ {KK:Yl}{p tp:Pos}{elts:List Expr}{x1:Nat}(hg:Gl X "zip")(hm:X.mg "zip"=none)(ha:SA X [a,b] t)(hb:bL b:=by first|show fE|show iY|show fD)(hK:X.K=KK:=by first|show bG|rfl):SI X (.Tuple elts x1 tp) (.Call (.Name "zip" p) [a,b] [] pos) (Ei KK t):=by
 subst hK
 show⟨Qf hg hm ha.h hb⟩
def gZ:zE X [] Gs:=⟨Pn⟩
def if1 (h:ST X a tA):zE X [a] tA:=⟨Po h.h⟩
def lc {tg iter elt:Expr}{ifs:List Expr}{sc:Scope}{wi:TI}{g:TG}{tifs:TT}(src:List (Option Nat))(N':List Str)(S:aW sc X.env.scope)(hcap:b7 sc src N' X.N=true)(hi:SI X tg iter wi)
   (hb:∀s H C fp xe,SG (cv X N' sc s H C fp xe) tg g/\zE (cv X N' sc s H C fp xe) ifs tifs/\SE (cv X N' sc s H C fp xe) elt te) (hc:X.calm=true:=by rfl)
   (hs:∀x,YK iter X.env x=pure x:=by intro _;rfl):SE X (.ListComp elt [⟨tg,iter,ifs,0⟩] sc pos) (cM src (.lst []) wi g tifs (cf te)):=
 ⟨Km src N' hc S hcap hi.h (fun s H C fp xe=>⟨(hb s H C fp xe).1.h,(hb s H C fp xe).2.1.h,(hb s H C fp xe).2.2.h⟩) hs⟩
def yI {tg iter elt:Expr}{ifs:List Expr}{sc:Scope}{wi:TI}{g:TG}{tifs:TT}{i:Nat}{x:Str}{pos' cm:Pos}(src:List (Option Nat))(N':List Str)(S:aW sc X.env.scope)(hcap:b7 sc src N' X.N=true)(hi:SI X tg iter wi)
   (hb:∀s H C fp xe,SG (cv X N' sc s H C fp xe) tg g/\zE (cv X N' sc s H C fp xe) ifs tifs/\SE (cv X N' sc s H C fp xe) elt te) (hN:X.N.Nodup) (hix:X.N[i]?=some x:=by rfl) (hx:Loc X.env.scope x:=by show Or.inl rfl)
   (hsw:ZJ (.ListComp elt [⟨tg,iter,ifs,0⟩] sc pos) (some (.Name x pos')) cm.line X.env=pure true:=by rfl) (hc:X.calm=true:=by rfl)
   (hs:∀x,YK iter X.env x=pure x:=by intro _;rfl) (hf:X.fn x=true\/X.env.scope.names.lookup x=some .local:=by first|show .inl rfl|show .inr rfl) :
   SS X (.Assign [.Name x pos'] (.ListComp elt [⟨tg,iter,ifs,0⟩] sc pos) cm) (lA (cM src (.lst []) wi g tifs (cf te)) (dm i)):=
 ⟨Kx src N' hc S hcap hi.h (fun s H C fp xe=>⟨(hb s H C fp xe).1.h,(hb s H C fp xe).2.1.h,(hb s H C fp xe).2.2.h⟩) hN hix hx hsw hs hf⟩
def Tg {tg iter kx vx:Expr}{ifs:List Expr}{sc:Scope}{wi:TI}{g:TG}{tifs:TT}{tk tv:TE}(src:List (Option Nat))(N':List Str)(hu:X.A.units+1<cLine)(S:aW sc X.env.scope)(hcap:b7 sc src N' X.N=true)(hi:SI X tg iter wi)
   (hb:∀s H C fp xe,SG (cv X N' sc s H C fp xe) tg g/\zE (cv X N' sc s H C fp xe) ifs tifs/\SE (cv X N' sc s H C fp xe) kx tk/\SE (cv X N' sc s H C fp xe) vx tv) (hc:X.calm=true:=by rfl)
   (hs:∀x,YK iter X.env x=pure x:=by intro _;rfl):SE X (.DictComp kx vx [⟨tg,iter,ifs,0⟩] sc pos) (cM src (.dT []) wi g tifs (lh tk tv)):=
 ⟨Fv src N' hu hc S hcap hi.h (fun s H C fp xe=>⟨(hb s H C fp xe).1.h,(hb s H C fp xe).2.1.h,(hb s H C fp xe).2.2.1.h,(hb s H C fp xe).2.2.2.h⟩) hs⟩
variable{st:Stmt}{rest:List Stmt}{u1 u2:TS}
def nil:SL X [] C6:=⟨Bu⟩
def cons (h1:SS X st u1)(h2:SL X rest u2):SL X (st::rest) (rq u1 u2):=⟨x5 h1.h h2.h⟩
def one (h1:SS X st u1):SL X [st] u1:=⟨Bv h1.h⟩
def never:SL X rest y3:=⟨va⟩
def ret (he:SE X e te):SS X (.Return (some e) pos) (Lj te):=⟨FR he.h⟩
def ex (he:SE X e te)(hs:ZJ e none pos.line X.env=pure false:=by rfl):SS X (.Expr e pos) (C4 te):=⟨Bl he.h hs⟩
def ifs {tc:TT}{x y:List Stmt}(hc:ST X c tc)(ha:SL X x u1)(hb:SL X y u2):SS X (.If c x y pos) (Lg tc u1 u2):=⟨Kw hc.h ha.h hb.h⟩
def set (i:Nat){x:Str}{pos':Pos}(hN:X.N.Nodup)(he:SE X e te)(hi:X.N[i]?=some x:=by rfl)(hx:Loc X.env.scope x:=by first|show Or.inl rfl|show Or.inr rfl)(hs:ZJ e (some (.Name x pos')) pos.line X.env=pure false:=by rfl)(hf:X.fn x=true\/X.env.scope.names.lookup x=some .local:=by first|show .inl rfl|show .inr rfl) :
   SS X (.Assign [.Name x pos'] e pos) (lA te (dm i)):=⟨FU hN hi hx he.h hs hf⟩
def asg {tg:Expr}{g:TG}(he:SE X e te)(hg:SG X tg g)(hs:ZW [tg] e pos.line X.env=pure false:=by rfl)(hw:ZX [tg] e X.env=pure none:=by rfl)
   (h1:(assignEach [tg] X.env).map (·.2)=[assign tg X.env]:=by rfl):SS X (.Assign [tg] e pos) (lA te g):=⟨FN he.h hg.h hs hw h1⟩
def eP {tg iter:Expr}{body:List Stmt}{wi:TI}{g:TG}(hi:SI X tg iter wi)(hg:SG X tg g)(hb:SL X body u1)(hp:PassesOwn (model X.prog X.w) X.A X.env X.xe:=by show ab7)(hc:X.calm=true:=by rfl)
   (hs:∀x,YK iter X.env x=pure x:=by intro _;rfl):SS X (.For tg iter body [] pos) (Lf wi g u1):=⟨FP hp hc hi.h hg.h hb.h hs⟩
def run {ss:List Stmt}{u:TS}(h:SL X ss u):kS X ss u:=h.h
end
end L3
namespace L3
open PySem PySem.Spec PyProof.Rows L2
section
variable{X:Cx}{a b c e o:Expr}{es:List Expr}{ta tb tc te:TE}{t:TA}{tA uB:TT}{pos:Pos}{r:R2}
def neg (ha:SE X a ta):SE X (.UnaryOp .USub a pos) (Su (rU fun i=>.int (-i)) ta):=⟨Kp Gz ha.h⟩
def VW (ha:SE X a ta):SE X (.UnaryOp .Not a pos) (C7 ta):=⟨Fz ha.h⟩
def B9 {rest:List Expr}(ha:SE X a ta)(hb:SE X (.BoolOp .And (b::rest) pos) tb):SE X (.BoolOp .And (a::b::rest) pos) (CZ ta tb):=⟨Ft ha.h hb.h⟩
def Pe {rest:List Expr}(ha:SE X a ta)(hb:SE X (.BoolOp .Or (b::rest) pos) tb):SE X (.BoolOp .Or (a::b::rest) pos) (Li ta tb):=⟨Ko ha.h hb.h⟩
def Fd {op}(ha:SE X a ta):SE X (.BoolOp op [a] pos) ta:=⟨FA ha.h⟩
def wL (hc:ST X c tA)(ha:SE X a ta)(hb:SE X b tb):SE X (.IfExp c a b pos) (Sr tA ta tb):=⟨xQ hc.h ha.h hb.h⟩
def xq:SO X (compareOp .IsNot) (fun x y H Q=>y=.bJ/\Q (.bl (!decide (x=.bJ))) H):=⟨A2⟩
def Ce {x:Str}{p:Pos}(ho:SE X a ta)(hi:SE X (.Name x p) tb):SG X (.Subscript a (.Name x p) pos) (DP ta tb yc):=⟨xS ho.h hi.h set_list (fun z=>rfl)⟩
end
end L3
namespace L2
open PySem PySem.Spec PyProof.Rows
end L2
namespace L3
open PySem PySem.Spec PyProof.Rows L2
end L3
namespace PySem
open Sem (wp)
abbrev dr (h:Heap)(z TI TO T:Addr)(f:Bool):Prop:=
 h.get? z=some {cls:=.type "zip",dict:=none,data:=.fields #[rawInt T,.bool f,.bool false,.ref TI,.ref TO],slots:=#[]}
section
variable{prog:Program}{w:World}{A:Around}{E:Value->Shared->Prop}{s:Shared}
def jr {a:Addr}{o:Obj}{Q:Option Obj->Shared->Prop}(h:s.heap.get? a=some o)(k:Q (some o) s):wpAny (model prog w) A (loadIfAlive a) Q E s:=fun Γ p hΓ=>by
 change Sem.wp _ _ (Sem.loadIfAlive a .pure) _ _ _ _
 rw[Sem.wp_loadIfAlive,h]
 show(wpAny_pure k:wpAny (model prog w) A (Sem.pure (some o)) Q E s) Γ p hΓ
def mB {z TI TO T i1 i2 l1 l2:Addr}{f:Bool}{ot:Obj}{k1 k2:Nat}{xs ys:Array Value}{x y:Value}{Q:Value->Shared->Prop}(D:Z5 z TI TO i1 i2 l1 l2)(hz:dr s.heap z TI TO T f)(hT:s.heap.get? T=some ot)(hTI:IsPair s.heap TI (.ref i1) (.ref i2))
   (h1:s.heap.IsListIter i1 l1 k1) (h2:s.heap.IsListIter i2 l2 k2) (hl1:s.heap.IsList l1 xs) (hl2:s.heap.IsList l2 ys) (hx:xs[k1]?=some x) (hy:ys[k2]?=some y)
   (hQ:∀h',dr h' z TI TO T true->h'.IsListIter i1 l1 (k1+1)->h'.IsListIter i2 l2 (k2+1)->IsPair h' s.heap.objs.size x y->(∀c o,c≠z->c≠i1->c≠i2->s.heap.get? c=some o->h'.get? c=some o)->Q (.ref s.heap.objs.size) {s with heap:=h'}) :
   wpAny (model prog w) A (Builtin.«zip.__next__» ⟨[.ref z],[]⟩) (fun fin s'=>∃v,fin=.done (.ret v)/\Q v s') E s:=by
 change wpAny _ _ (field (.ref z) 2>>=_) _ _ _
 show wpAny_bind (wpAny_field hz rfl (x:=.bool false) rfl ?_)
 change wpAny _ _ (field (.ref z) 3>>=_) _ _ _
 show wpAny_bind (wpAny_field hz rfl (x:=.ref TI) rfl ?_)
 show wpAny_bind (wpAny_seqItems hTI rfl ?_)
 change wpAny _ _ (YB (.ref z)>>=_) _ _ _
 show wpAny_bind ?_
 unfold YB
 show wpAny_bind (wpAny_field hz rfl (x:=rawInt T) rfl ?_)
 change wpAny _ _ (loadIfAlive (T:Int).toNat>>=_) _ _ _
 rw[Y6]
 show wpAny_bind (jr hT ?_)
 rw[bg (by simp)]
 show wpAny_bind (wpAny_field hz rfl (x:=.bool f) rfl ?_)
 show wpAny_mono (Q:=fun b t=>b=false/\∃g,t={s with heap:=g}/\dr g z TI TO T true/\Za z s.heap g) ?mark (fun b t hb=>?next) (fun u u h=>h)
 case mark=>
   cases f
   . change wpAny _ _ (setField (.ref z) 1 (.bool true)>>=_) _ _ _
     show wpAny_bind (wpAny_setField_rec hz (by simp) fun g hg hs=>wpAny_pure ⟨U,g,U,hg,hs⟩)
   . show wpAny_pure ⟨U,s.heap,U,hz,⟨U,fun u u=>rfl⟩⟩
 case next=>
   obtain⟨rfl,g,rfl,gz,gs⟩:=hb
   rw[bg (by left)]
   simp only[← Z4]
   simp only[aaw,aa5]
   show wpAny_bind (wpAny_bind (wpAny_bind (wpAny_holding ?_)))
   change wpAny _ _ (YT (.ref i1)>>=_) _ _ _
   show wpAny_bind (wpAny_nextOf_list_item (h1.extBut gs.extBut D.i1z) (hl1.extBut gs.extBut D.l1z) hx fun g2 a2 s2=>wpAny_pure ?_)
   show wpAny_pure ?_
   show wpAny_bind (wpAny_bind (wpAny_holding ?_))
   change wpAny _ _ (YT (.ref i2)>>=_) _ _ _
   show wpAny_bind (wpAny_nextOf_list_item ((h2.extBut gs.extBut D.i2z).extBut s2.extBut D.i12.symm) ((hl2.extBut gs.extBut D.l2z).extBut s2.extBut D.l2i1) hy fun g3 a3 s3=>wpAny_pure ?_)
   show wpAny_pure ?_
   show wpAny_pure ?_
   change wpAny _ _ (newTuple [x,y]>>=_) _ _ _
   show wpAny_bind (wpAny_newTuple (wpAny_pure ⟨_,U,?_⟩))
   have sz:g3.objs.size=s.heap.objs.size:=by rw[s3.1,s2.1,gs.1]
   have up:∀c o,c≠z->c≠i1->c≠i2->s.heap.get? c=some o->(g3.push {cls:=.type "tuple",data:=.seq [x,y].toArray}).get? c=some o:=fun c o n1 n2 n3 e=>
     Yr _ (s3.extBut _ _ n3 (s2.extBut _ _ n2 (gs.extBut _ _ n1 e)))
   change Q (.ref g3.objs.size) _
   have oC:IsPair (g3.push {cls:=.type "tuple",data:=.seq [x,y].toArray}) g3.objs.size x y:=YG _ rfl
   rw[sz]at oC ⊢
   show hQ _ (Yr _ (s3.extBut _ _ D.i2z.symm (s2.extBut _ _ D.i1z.symm gz))) ((a2.extBut s3.extBut D.i12).at fun o e=>Yr _ e) (a3.at fun o e=>Yr _ e) oC up
def pR {z TI TO T i1 i2 l1 l2:Addr}{f:Bool}{ot:Obj}{k1 k2:Nat}{xs ys:Array Value}{Q:Fin->Shared->Prop}(hh:A.handled=none)(D:Z5 z TI TO i1 i2 l1 l2)(hz:dr s.heap z TI TO T f)(hT:s.heap.get? T=some ot)(hTI:IsPair s.heap TI (.ref i1) (.ref i2))
   (h1:s.heap.IsListIter i1 l1 k1) (h2:s.heap.IsListIter i2 l2 k2) (hl1:s.heap.IsList l1 xs) (hl2:s.heap.IsList l2 ys) (hend:xs[k1]?=none\/ys[k2]?=none)
   (hE:∀h' e,(∀c o,c≠z->c≠i1->c≠i2->s.heap.get? c=some o->h'.get? c=some o)->(∃o,h'.get? e=some o/\o.cls=.type "StopIteration")->E (.ref e) {s with heap:=h'}) :
   wpAny (model prog w) A (Builtin.«zip.__next__» ⟨[.ref z],[]⟩) Q E s:=by
 change wpAny _ _ (field (.ref z) 2>>=_) _ _ _
 show wpAny_bind (wpAny_field hz rfl (x:=.bool false) rfl ?_)
 change wpAny _ _ (field (.ref z) 3>>=_) _ _ _
 show wpAny_bind (wpAny_field hz rfl (x:=.ref TI) rfl ?_)
 show wpAny_bind (wpAny_seqItems hTI rfl ?_)
 change wpAny _ _ (YB (.ref z)>>=_) _ _ _
 show wpAny_bind ?_
 unfold YB
 show wpAny_bind (wpAny_field hz rfl (x:=rawInt T) rfl ?_)
 change wpAny _ _ (loadIfAlive (T:Int).toNat>>=_) _ _ _
 rw[Y6]
 show wpAny_bind (jr hT ?_)
 rw[bg (by simp)]
 show wpAny_bind (wpAny_field hz rfl (x:=.bool f) rfl ?_)
 show wpAny_mono (Q:=fun b t=>b=false/\∃g,t={s with heap:=g}/\dr g z TI TO T true/\Za z s.heap g) ?mark (fun b t hb=>?next) (fun y y h=>h)
 case mark=>
   cases f
   . change wpAny _ _ (setField (.ref z) 1 (.bool true)>>=_) _ _ _
     show wpAny_bind (wpAny_setField_rec hz (by simp) fun g hg hs=>wpAny_pure ⟨U,g,U,hg,hs⟩)
   . show wpAny_pure ⟨U,s.heap,U,hz,⟨U,fun y y=>rfl⟩⟩
 case next=>
   obtain⟨rfl,g,rfl,gz,gs⟩:=hb
   rw[bg (by left)]
   simp only[← Z4]
   simp only[aaw,aa5]
   show wpAny_bind (wpAny_bind (wpAny_bind (wpAny_holding ?_)))
   change wpAny _ _ (YT (.ref i1)>>=_) _ _ _
   cases hx:xs[k1]? with
   | none=>
     show wpAny_bind (wpAny_nextOf_list_end hh (h1.extBut gs.extBut D.i1z) (hl1.extBut gs.extBut D.l1z) hx fun g2 e k2 he=>?_)
     show hE g2 e (fun c o n1 n2 y q=>k2 _ _ n2 (gs.extBut _ _ n1 q)) he
   | some x=>
     have hy:ys[k2]?=none:=by
       rcases hend with q|q
       . rw[hx]at q;cases q
       . show q
     show wpAny_bind (wpAny_nextOf_list_item (h1.extBut gs.extBut D.i1z) (hl1.extBut gs.extBut D.l1z) hx fun g2 a2 s2=>wpAny_pure ?_)
     show wpAny_pure ?_
     show wpAny_bind (wpAny_bind (wpAny_holding ?_))
     change wpAny _ _ (YT (.ref i2)>>=_) _ _ _
     show wpAny_bind (wpAny_nextOf_list_end hh ((h2.extBut gs.extBut D.i2z).extBut s2.extBut D.i12.symm) ((hl2.extBut gs.extBut D.l2z).extBut s2.extBut D.l2i1) hy fun g3 e k3 he=>?_)
     show hE g3 e (fun c o n1 n2 n3 q=>k3 _ _ n3 (s2.extBut _ _ n2 (gs.extBut _ _ n1 q))) he
def qD {z TI TO T i1 i2 l1 l2:Addr}{f:Bool}{ot:Obj}{k1 k2:Nat}{xs ys:Array Value}{x y:Value}{Q:Option Value->Shared->Prop}(D:Z5 z TI TO i1 i2 l1 l2)(hz:dr s.heap z TI TO T f)(hT:s.heap.get? T=some ot)(hTI:IsPair s.heap TI (.ref i1) (.ref i2))
   (h1:s.heap.IsListIter i1 l1 k1) (h2:s.heap.IsListIter i2 l2 k2) (hl1:s.heap.IsList l1 xs) (hl2:s.heap.IsList l2 ys) (hx:xs[k1]?=some x) (hy:ys[k2]?=some y)
   (hQ:∀h',dr h' z TI TO T true->h'.IsListIter i1 l1 (k1+1)->h'.IsListIter i2 l2 (k2+1)->IsPair h' s.heap.objs.size x y->(∀c o,c≠z->c≠i1->c≠i2->s.heap.get? c=some o->h'.get? c=some o)->Q (some (.ref s.heap.objs.size)) {s with heap:=h'}) :
   wpAny (model prog w) A (pyNext (.ref z)) Q E s:=by
 have ty:s.TypeIs (.ref z) "zip":=⟨_,hz,rfl⟩
 unfold pyNext
 show wpAny_bind (wpAny_attempt (Y4 (name:=ZD "__next__") ty ZC (wpAny_call_entry ZC ty aaY (mB D hz hT hTI h1 h2 hl1 hl2 hx hy ?_) (aaT _))))
 show fun g a b c d e=>wpAny_pure (hQ g a b c d e)
def uN {z TI TO T i1 i2 l1 l2:Addr}{f:Bool}{ot:Obj}{k1 k2:Nat}{xs ys:Array Value}{Q:Option Value->Shared->Prop}(hh:A.handled=none)(D:Z5 z TI TO i1 i2 l1 l2)(hz:dr s.heap z TI TO T f)(hT:s.heap.get? T=some ot)(hTI:IsPair s.heap TI (.ref i1) (.ref i2))
   (h1:s.heap.IsListIter i1 l1 k1) (h2:s.heap.IsListIter i2 l2 k2) (hl1:s.heap.IsList l1 xs) (hl2:s.heap.IsList l2 ys) (hend:xs[k1]?=none\/ys[k2]?=none)
   (hQ:∀h',(∀c o,c≠z->c≠i1->c≠i2->s.heap.get? c=some o->h'.get? c=some o)->Q none {s with heap:=h'}):wpAny (model prog w) A (pyNext (.ref z)) Q E s:=by
 have ty:s.TypeIs (.ref z) "zip":=⟨_,hz,rfl⟩
 unfold pyNext
 show wpAny_bind (wpAny_attempt (Y4 (name:=ZD "__next__") ty ZC (wpAny_call_entry ZC ty aaY (pR hh D hz hT hTI h1 h2 hl1 hl2 hend fun g e kk he=>?_) (aaT _))))
 obtain⟨o,ho,hc⟩:=he
 show wpAny_bind (wpAny_isInstance (T:="StopIteration") (b:=true) ⟨o,ho,hc⟩ isSubtype_stop (wpAny_pure (hQ _ kk)))
end
end PySem
namespace PySem
def B3:abC (.type "zip") "keys"=pure none:=by rw[abX,aba];kernel_rfl
def LB:abC (.type "zip") "__getattr__"=pure none:=by rw[abX,aba];kernel_rfl
def zi:entryFor table "zip.__getattribute__"=some Builtin.«object.__getattribute__»:=entryFor_alias (id':="object.__getattribute__") (by kernel_rfl) (by right) (by right) (by kernel_rfl)
def B4 (z:Addr)(fl:Array Value)(u:Tok) :
   Meets (Builtin.«object.__getattribute__» ⟨[.ref z,.str "keys" u],[]⟩) (fun A R s=>s.heap.get? z=some {cls:=.type "zip",dict:=none,data:=.fields fl,slots:=#[]}/\raisesAttr (.ref z) "keys" A R s):=
 Meets.of_wp fun P w A R s h=>by
   obtain⟨hp,g,d,tk,os⟩:=s
   obtain⟨hz,h⟩:=h
   have ty:(⟨hp,g,d,tk,os⟩ : Shared).TypeIs (.ref z) "zip":=⟨_,hz,rfl⟩
   have e0:=B3
   unfold Builtin.«object.__getattribute__»
   repeat (any_goals (first|assumption|wp_step))
   show wpAny_raiseAttrError h.1 h.2 (attrMsg_fits (by right) (by right))
section
variable{P:Program}{w:World}{A:Around}{E:Value->Shared->Prop}{s:Shared}
def LA {z:Addr}{fl:Array Value}{u:Tok}{Q:Value->Shared->Prop}(hz:s.heap.get? z=some {cls:=.type "zip",dict:=none,data:=.fields fl,slots:=#[]})(free:A.handled=none)
   (k:∀g tk e,Heap.NewAttrErr s.heap g e (.ref z) "keys"->E (.ref e) {s with heap:=g,toks:=tk}):wpAny (model P w) A (getAttrBy (.ref z) (.str "keys" u) false) Q E s:=by
 obtain⟨hp,g,d,tk,os⟩:=s
 have ty:∀t,(⟨hp,g,d,t,os⟩ : Shared).TypeIs (.ref z) "zip":=fun y=>⟨_,hz,rfl⟩
 have q1:=aaJ
 have q2:=F.slot_zip_getattribute.lookup
 have q3:=F.slot_zip_getattribute.bind (.ref z)
 have q4:=LB
 unfold getAttrBy
 repeat (any_goals (first|assumption|show ty _|((with_reducible change wpAny _ _ (call (abQ "zip.__getattribute__") _ _) _ _ _);show call_meets F.slot_zip_getattribute (ty _) zi (F.args_zip_getattribute_2 _ _) (B4 z fl _) ⟨hz,free,fun g' P7 e ne=>?_⟩)|wp_step))
 obtain⟨t',u',he⟩:=ne.there
 change wpAny _ _ (getattributeRaised _ _ _ _ _ _ _) _ _ _
 unfold getattributeRaised
 repeat (any_goals (first|assumption|wp_step))
 show k _ _ _ ne
def B5 {z:Addr}{fl:Array Value}{Q:Option Value->Shared->Prop}(hz:s.heap.get? z=some {cls:=.type "zip",dict:=none,data:=.fields fl,slots:=#[]})(free:A.handled=none)
   (k:∀g tk,(∀b o,s.heap.get? b=some o->g.get? b=some o)->Q none {s with heap:=g,toks:=tk}):wpAny (model P w) A (getAttr? (.ref z) "keys") Q E s:=by
 unfold getAttr? getAttrBy?
 show wpAny_bind (wpAny_mkText (wpAny_bind (wpAny_attempt (LA hz free fun g tk e ne=>?_))))
 obtain⟨t',u',he⟩:=ne.there
 show wpAny_bind (wpAny_isInstance (T:="AttributeError") (b:=true) ⟨_,he,U⟩ aaJ (wpAny_pure (k g _ ne.keeps)))
end
end PySem
namespace L2
open PySem PySem.Spec PyProof.Rows
structure nS (h:Heap)(z TI TO i1 i2 l1 l2:Addr)(i:Nat):Prop where
 ti:IsPair h TI (.ref i1) (.ref i2)
 to:∃x y,IsPair h TO x y
 a:h.IsListIter i1 l1 i
 b:h.IsListIter i2 l2 i
 z:IsZip h z TI TO .none\/∃T f x y,dr h z TI TO T f/\IsPair h T x y
def nS.ob {h:Heap}{z TI TO i1 i2 l1 l2:Addr}{i:Nat}(s:nS h z TI TO i1 i2 l1 l2 i):∃fl,h.get? z=some {cls:=.type "zip",dict:=none,data:=.fields fl,slots:=#[]}:=by
 rcases s.z with e|⟨T,f,x,y,e,_⟩
 . show⟨_,e⟩
 . show⟨_,e⟩
def nS.but {h g:Heap}{z TI TO i1 i2 l1 l2 D:Addr}{i:Nat}(s:nS h z TI TO i1 i2 l1 l2 i)(k:Heap.ExtBut D h g)(n1:z≠D)(n2:TI≠D)(n3:TO≠D)(n4:i1≠D)(n5:i2≠D)(dict:∀x y,¬ IsPair h D x y):nS g z TI TO i1 i2 l1 l2 i:=by
 obtain⟨t1,⟨x,y,t2⟩,a,b,zz⟩:=s
 show⟨k _ _ n2 t1,⟨x,y,k _ _ n3 t2⟩,a.extBut k n4,b.extBut k n5,?_⟩
 rcases zz with e|⟨T,f,x,y,e,p⟩
 . show .inl (k _ _ n1 e)
 . show .inr ⟨T,f,x,y,k _ _ n1 e,k _ _ (fun q=>dict x y (q▸p)) p⟩
section
variable{P:Program}{w:World}{A:Around}{E:Value->Shared->Prop}{s:Shared}
def nS.item {z TI TO i1 i2 l1 l2:Addr}{i:Nat}{us vs:Array Value}{u v:Value}{Q:Option Value->Shared->Prop}(D:Z5 z TI TO i1 i2 l1 l2)(st:nS s.heap z TI TO i1 i2 l1 l2 i)(h1:s.heap.IsList l1 us)(h2:s.heap.IsList l2 vs)(hu:us[i]?=some u)(hv:vs[i]?=some v)
   (k:∀g,nS g z TI TO i1 i2 l1 l2 (i+1)->IsPair g s.heap.objs.size u v->(∀c o,c∉([z,TO,i1,i2]:List Addr)->s.heap.get? c=some o->g.get? c=some o)->Q (some (.ref s.heap.objs.size)) {s with heap:=g}):wpAny (model P w) A (pyNext (.ref z)) Q E s:=by
 obtain⟨t1,⟨x,y,t2⟩,a,b,zz⟩:=st
 rcases zz with e|⟨T,f,x',y',e,p⟩
 . show wpAny_pyNext_zip_item D e t1 t2 a b h1 h2 hu hv fun g b1 b2 b3 b4 b5 b6 kk=>?_
   show k g ⟨kk _ _ D.TIz D.TITO D.TIi1 D.TIi2 t1,⟨_,_,b2⟩,b3,b4,.inr ⟨_,_,_,_,b1,b5⟩⟩ b5 fun c o hc q=>?_
   simp only[YF,Yz,or_false,not_or]at hc
   show kk c o hc.1 hc.2.1 hc.2.2.1 hc.2.2.2 q
 . have nz:T≠z:=fun q=>by
     subst q
     have h:=congrArg Obj.cls (YQ (e.symm.trans p))
     simp at h
   have n1:T≠i1:=fun q=>by
     subst q
     obtain⟨o,ho,hc,_⟩:=a
     rw[YQ (ho.symm.trans p)]at hc
     simp at hc
   have n2:T≠i2:=fun q=>by
     subst q
     obtain⟨o,ho,hc,_⟩:=b
     rw[YQ (ho.symm.trans p)]at hc
     simp at hc
   show qD D e p t1 a b h1 h2 hu hv fun g b1 b3 b4 b5 kk=>?_
   show k g ⟨kk _ _ D.TIz D.TIi1 D.TIi2 t1,⟨_,_,kk _ _ D.TOz D.TOi1 D.TOi2 t2⟩,b3,b4,.inr ⟨T,true,_,_,b1,kk _ _ nz n1 n2 p⟩⟩ b5 fun c o hc q=>?_
   simp only[YF,Yz,or_false,not_or]at hc
   show kk c o hc.1 hc.2.2.1 hc.2.2.2 q
def nS.done {z TI TO i1 i2 l1 l2:Addr}{i:Nat}{us vs:Array Value}{Q:Option Value->Shared->Prop}(free:A.handled=none)(D:Z5 z TI TO i1 i2 l1 l2)(st:nS s.heap z TI TO i1 i2 l1 l2 i)(h1:s.heap.IsList l1 us)(h2:s.heap.IsList l2 vs)(hu:us[i]?=none)
   (k:∀g,(∀c o,c∉([z,TO,i1,i2]:List Addr)->s.heap.get? c=some o->g.get? c=some o)->Q none {s with heap:=g}):wpAny (model P w) A (pyNext (.ref z)) Q E s:=by
 obtain⟨t1,⟨x,y,t2⟩,a,b,zz⟩:=st
 rcases zz with e|⟨T,f,x',y',e,p⟩
 . show wpAny_pyNext_zip_end free D e t1 t2 a b h1 h2 (.inl hu) fun g kk=>k g fun c o hc q=>?_
   simp only[YF,Yz,or_false,not_or]at hc
   show kk c o hc.1 hc.2.1 hc.2.2.1 hc.2.2.2 q
 . show uN free D e p t1 a b h1 h2 (.inl hu) fun g kk=>k g fun c o hc q=>?_
   simp only[YF,Yz,or_false,not_or]at hc
   show kk c o hc.1 hc.2.2.1 hc.2.2.2 q
end
section
variable{X:Cx}
def As {ks:List Key}{ys:List V}{i:Nat}{k:Key}{y:V}(h1:ks[i]?=some k)(h2:ys[i]?=some y):(ks.drop i).zip (ys.drop i)=(k,y)::(ks.drop (i+1)).zip (ys.drop (i+1)):=by
 have l1:=(List.getElem?_eq_some_iff.mp h1)
 have l2:=(List.getElem?_eq_some_iff.mp h2)
 obtain⟨a1,e1⟩:=l1
 obtain⟨a2,e2⟩:=l2
 rw[aaA a1,aaA a2,e1,e2]
 rfl
def zh {pins:List (Addr×Obj)}{σ:St}{A:Around}{D z TI TO i1 i2 l1 l2:Addr}{ks:List Key}{ys:List V}(hh:A.handled=none)(ap:Z5 z TI TO i1 i2 l1 l2)(hly:ks.length=ys.length) :
   ∀(n i:Nat) (j:Int) (t:Tok) (d:List (Key×V)) (H:Hp) (s:Shared) (R:Result->Shared->Prop),ks.length-i=n->i<=ks.length->Inv X pins σ H s->H D=some (.dK d)->d.length+n<=sizeLine->aF X.K H l1 (ks.map kV)->aF X.K H l2 ys->(∀c∈([z,TI,TO,i1,i2]:List Addr),cU X pins H c) ->
     nS s.heap z TI TO i1 i2 l1 l2 i->(∀s',Inv X pins σ (upd H D (.dK (putAll d ((ks.drop i).zip (ys.drop i))))) s'->R (.ok (.ret .none)) s') ->
     codeAny (model X.prog X.w) A (.builtin "dict.update.loop" ⟨[.ref D,.ref z,.int j t,.none],[]⟩) R s:=by
 intro n
 induction n using aa0 with
 | _ n ih=>
   intro i j t d H s R hn hi I hD hz iM j4 fp st hR
   obtain⟨k9,ml,p1,_⟩:=I.list iM
   obtain⟨eV,qT,p2,_⟩:=I.list j4
   have hl1:=ml.length
   have hl2:=qT.length
   rw[Yk]at hl1
   have ch:∀c∈([z,TO,i1,i2]:List Addr),cU X pins H c:=fun c hc=>fp c (by simp only[YF,Yz,or_false]at hc ⊢;rcases hc with r|r|r|r<;>simp[r])
   show codeAny_builtin cW ?_
   have hA:(A.under (.builtin "dict.update.loop" ⟨[.ref D,.ref z,.int j t,.none],[]⟩)).handled=none:=hh
   generalize A.under (.builtin "dict.update.loop" ⟨[.ref D,.ref z,.int j t,.none],[]⟩)=A' at hA ⊢
   unfold Builtin.«dict.update.loop»
   change wpAny _ _ (pyNext (.ref z)>>=_) _ _ _
   by_cases hlt:i<ks.length
   . obtain⟨kk,hk⟩ : ∃kk,ks[i]?=some kk:=⟨ks[i],Yn hlt⟩
     obtain⟨yy,hy⟩ : ∃yy,ys[i]?=some yy:=⟨ys[i]'(by lia),Yn (by lia)⟩
     obtain⟨u,hu,ru⟩:=ml.get (show(ks.map kV)[i]?=some (kV kk)by rw[YD,hk];rfl)
     obtain⟨v,hv,rv⟩:=qT.get hy
     show wpAny_bind (st.item ap p1.isList p2.isList (u:=u) (v:=v) (by simpa using hu) (by simpa using hv) fun g zt np kp=>?_)
     have I1:Inv X pins σ H {s with heap:=g}:=I.lX (t':=s.toks) ch kp
     show wpAny_bind (wpAny_holding ?_)
     show wpAny_bind (wpAny_tryCatch (ic (show({s with heap:=g}:Shared).heap.IsTuple s.heap.objs.size #[u,v]from⟨_,np,U,_,U⟩) ?_))
     change wpAny _ _ (holding [u,v] (dictSet D u v)) _ _ _
     obtain⟨_,Cg,vs,rel,dd⟩:=ja I1.hok hD
     have OH:vs.length<=sizeLine:=by rw[← rel.length];lia
     have UP:(putK d kk yy).length<=d.length+1:=bO d kk yy
     show wpAny_holding (wpAny_dictSet_pairs (hsz:=OH) (hG ru) dd fun h2 lM hs2=>?_)
     have he:∃q,h2.get? D=some q:=by obtain⟨q,_,_,hq,_⟩:=lM;show⟨q,hq⟩
     have ne:∀c∈([z,TI,TO,i1,i2]:List Addr),c≠D:=fun c hc q=>by have:=(fp c hc).1;rw[q,hD]at this;cases this
     have keepL:∀{l:Addr} {xs:List V},aF X.K H l xs->aF X.K (upd H D (.dK (putK d kk yy))) l xs:=fun hq=>by
       rcases hq with(q|⟨o,q⟩)|q
       . show .inl (.inl (by rw[ar (dO q hD (fun z=>nomatch z))];show q))
       . show .inl (.inr ⟨o,by rw[ar (dO q hD (fun z=>nomatch z))];show q⟩)
       . show .inr q
     have nodict:∀x y,¬ IsPair g D x y:=fun x y q=>by
       obtain⟨o,ho,hc⟩:=(show Shared.TypeIs {s with heap:=g} (.ref D) "dict" from dd.typeIs)
       rw[YQ (ho.symm.trans q)]at hc
       simp at hc
     show wpAny_pure ⟨aay _ (by right),?_⟩
     show ih (ks.length-(i+1)) (by lia) (i+1) _ _ (putK d kk yy) (upd H D (.dK (putK d kk yy))) _ R rfl hlt (dM (t':=_) I1 (by rw[hD];show Y5) hs2 he (jV (by lia) Cg (rel.put kk rv) lM)) ae (by lia) (keepL iM) (keepL j4) (fun c hc=>⟨by rw[ar (ne c hc)];show(fp c hc).1,(fp c hc).2⟩)
       (zt.but hs2.extBut (ne z (by simp)) (ne TI (by simp)) (ne TO (by simp)) (ne i1 (by simp)) (ne i2 (by simp)) nodict) ?_
     intro s' I'
     rw[iK]at I'
     rw[As hk hy]at hR
     show hR s' I'
   . have Je:ks.length<=i:=by lia
     show wpAny_bind (st.done hA ap p1.isList p2.isList (by simp;lia) fun g kp=>?_)
     have I1:Inv X pins σ H {s with heap:=g}:=I.lX (t':=s.toks) ch kp
     have e0:(ks.drop i).zip (ys.drop i)=[]:=by rw[ab0 Je];rfl
     have e:upd H D (.dK (putAll d ((ks.drop i).zip (ys.drop i))))=H:=by
       rw[e0]
       funext b
       unfold upd
       split
       . rename_i hb;rw[hb,hD];rfl
       . rfl
     rw[e]at hR
     change wpAny _ _ (abl D []>>=_) _ _ _
     show wpAny_bind (wpAny_pure (wpAny_pure (hR _ I1)))
end
def nS.up {h g:Heap}{z TI TO i1 i2 l1 l2:Addr}{i:Nat}(s:nS h z TI TO i1 i2 l1 l2 i)(k:∀c o,h.get? c=some o->g.get? c=some o):nS g z TI TO i1 i2 l1 l2 i:=by
 obtain⟨t1,⟨x,y,t2⟩,a,b,zz⟩:=s
 show⟨k _ _ t1,⟨x,y,k _ _ t2⟩,a.at fun o e=>k _ o e,b.at fun o e=>k _ o e,?_⟩
 rcases zz with e|⟨T,f,x,y,e,p⟩
 . show .inl (k _ _ e)
 . show .inr ⟨T,f,x,y,k _ _ e,k _ _ p⟩
def pH (K:Yl)(ta:TA):TE:=fun σ H Q=>ta σ H fun vs H1=>∃(l1 l2:Addr) (ks:List Key) (ys:List V),vs=[.ref l1,.ref l2]/\aF K H1 l1 (ks.map kV)/\aF K H1 l2 ys/\ks.length=ys.length/\ks.length<=1000/\∀D,H1 D=none->Q (.ref D) (upd H1 D (.dK (putAll [] (ks.zip ys))))
section
variable{X:Cx}{a b:Expr}{ta:TA}{p1 p2 pos cm:Pos}
def qM (hc:X.calm=true)(hg1:Gl X "dict")(hm1:X.mg "dict"=none)(hg2:Gl X "zip")(hm2:X.mg "zip"=none)(ha:pS X [a,b] ta)(hb:bL b)(hv1:Zf "dict"=some (.type "dict"):=by first|rfl|decide +kernel)(hv2:Zf "zip"=some (.type "zip"):=by first|rfl|decide +kernel) :
   PE X (.Call (.Name "dict" p1) [.Call (.Name "zip" p2) [a,b] [] cm] [] pos) (pH X.K ta):=by
 intro pins s σ H Q I h
 show wpAny_Call_Name_kw (eB I hg1 hm1 hv1 ?_ (by left) (by left))
 show Y0 ?_ rfl rfl
 change wpAny _ _ (spliced ((false,eval (.Call (.Name "zip" p2) [a,b] [] cm) X.env)::[])) _ _ s
 show ZH (wpAny_Call_Name_kw (eB I hg2 hm2 hv2 ?_ (by left) (by left)))
 show Y0 (bq (ha.pa cm pins s σ H _ I h) fun us s1 h9=>?_) ((ha.ns a [b] rfl).1.h [b] X.env) ((ha.ns a [b] rfl).2 cm X.env)
 obtain⟨vs,H1,I1,r1,q1⟩:=h9
 obtain⟨l1,l2,ks,ys,e,iM,j4,hlen,IU,q⟩:=q1
 subst e
 obtain⟨u,v,rfl,ru,rv⟩:=Vals.two r1
 obtain rfl:u=Y2 l1:=ru
 obtain rfl:v=Y2 l2:=rv
 obtain⟨k9,ml,p1,_⟩:=I1.list iM
 obtain⟨eV,qT,p2,_⟩:=I1.list j4
 have JG:l1<s1.heap.objs.size:=by obtain⟨_,_,e,_⟩:=p1;show Ys e
 have JH:l2<s1.heap.objs.size:=by obtain⟨_,_,e,_⟩:=p2;show Ys e
 show call_zip_2 p1.isList p2.isList fun h' hz hTI hTO GY DY hsz hk=>?_
 show aaa ?_
 have hh:X.A.handled=none:=I1.ok.hd hc
 have ap:=zipApart_new JG JH
 have st:nS h' (s1.heap.objs.size+4) (s1.heap.objs.size+2) (s1.heap.objs.size+3) s1.heap.objs.size (s1.heap.objs.size+1) l1 l2 0:=⟨hTI,⟨_,_,hTO⟩,GY,DY,.inl hz⟩
 have I2:Inv X pins σ H1 {s1 with heap:=h'}:=I1.kept (t':=s1.toks) hk
 have up:∀k,cU X pins H1 (s1.heap.objs.size+k):=fun k=>I1.jY (Zu _ _) (I1.hok.fresh (Zu _ _))
 have fp1:∀c∈([s1.heap.objs.size+4,s1.heap.objs.size+2,s1.heap.objs.size+3,s1.heap.objs.size,s1.heap.objs.size+1]:List Addr),cU X pins H1 c/\c<h'.objs.size:=fun c Ag=>by
   simp only[YF,Yz,or_false]at Ag
   rw[hsz]
   rcases Ag with rfl|rfl|rfl|rfl|rfl
   . show⟨up 4,Nat.lt_succ_self _⟩
   . show⟨up 2,by change _+2<_+5;show aax (by left) _⟩
   . show⟨up 3,by change _+3<_+5;show aax (by left) _⟩
   . show⟨up 0,by change _+0<_+5;show aax (by left) _⟩
   . show⟨up 1,by change _+1<_+5;show aax (by left) _⟩
 generalize s1.heap.objs.size+4=z at hz st ap fp1 ⊢
 generalize s1.heap.objs.size+2=TI at hz hTI st ap fp1
 generalize s1.heap.objs.size+3=TO at hz hTO st ap fp1
 generalize s1.heap.objs.size+1=i2 at st ap fp1
 generalize s1.heap.objs.size=i1 at st ap fp1
 have hD:H1 h'.objs.size=none:=I2.hok.fresh (Yo _)
 have I3:Inv X pins σ (upd H1 h'.objs.size (.dK [])) {s1 with heap:=h'.push {cls:=.type "dict",data:=.dict #[]} }:=I2.laid (t':=s1.toks) (fun y y e=>Yr _ e) (Yo _) (gP h' I2.big)
 have yU:=st.up (g:=h'.push {cls:=.type "dict",data:=.dict #[]}) fun c o e=>Yr _ e
 show callType_codes (s:={s1 with heap:=h'}) (Q₁:=fun obj t=>obj=.ref h'.objs.size/\t={s1 with heap:=h'.push {cls:=.type "dict",data:=.dict #[]} }) F.kt_called_dict (F.kt_typeCall_dict_1 _) F.entry_dict_init (kt_code_dict_new _ ⟨U,U⟩) ?_
 rintro obj t ⟨rfl,rfl⟩
 have oC:(h'.push {cls:=.type "dict",data:=.dict #[]}).DictOf (aL X.prog X.w) h'.objs.size []:=abc h'
 have QA:∀c∈([z,TI,TO,i1,i2]:List Addr),cU X pins (upd H1 h'.objs.size (.dK [])) c:=fun c Ag=>⟨by rw[ar (YJ (fp1 c Ag).2)];show(fp1 c Ag).1.1,(fp1 c Ag).1.2⟩
 generalize wH:({s1 with heap:=h'.push {cls:=.type "dict",data:=.dict #[]} }:Shared)=s3 at I3 ⊢
 have wD:s3.heap.DictOf (aL X.prog X.w) h'.objs.size []:=by rw[← wH];show oC
 have Vp:IsZip s3.heap z TI TO .none:=by rw[← wH];show Yr _ hz
 have La:nS s3.heap z TI TO i1 i2 l1 l2 0:=by rw[← wH];show yU
 generalize h'.objs.size=D at hD I3 wD QA ⊢
 have keepL:∀{l:Addr} {xs:List V},aF X.K H1 l xs->aF X.K (upd H1 D (.dK [])) l xs:=fun hq=>by
   rcases hq with(r|⟨o,r⟩)|r
   . show .inl (.inl (by rw[ar (ao r hD)];show r))
   . show .inl (.inr ⟨o,by rw[ar (ao r hD)];show r⟩)
   . show .inr r
 show⟨wD.typeIs,F.args_dict_init_2 _ _,?_⟩
 unfold Builtin.«dict.__init__»
 show wpAny_bind ?_
 unfold abk
 show wpAny_bind (wpAny_notOrdered_dict wD.typeIs ?_)
 change wpAny _ _ (pure (D,[Y2 z])) _ _ _
 show wpAny_pure ?_
 change wpAny _ _ (ZU "dict.__init__" D (.ref z) [] .none) _ _ _
 unfold ZU
 obtain⟨fl,eo⟩:=La.ob
 show wpAny_bind (wpAny_typeOf (T:="zip") ⟨_,eo,U⟩ ?_)
 rw[bj (by left)]
 show wpAny_bind (B5 eo hh fun g tk kk=>?_)
 rw[bj (show(Option.isNone (none:Option Value))=true from rfl)]
 have I4:Inv X pins σ (upd H1 D (.dK [])) {s3 with heap:=g,toks:=tk}:=I3.kept kk
 have MK:nS g z TI TO i1 i2 l1 l2 0:=La.up kk
 show wpAny_bind (wpAny_rule ?_)
 show wpAny_bind (wpAny_pyIter_zip (kk _ _ Vp) ?_)
 show wpAny_pure ⟨aay _ (by right),?_⟩
 show zh (D:=D) (pins:=pins) (σ:=σ) (A:=X.A.in1) (show X.A.in1.handled=none from hh) ap hlen ks.length 0 _ _ [] _ _ _ (by simp) (YY _) I4 ae (by simp;show YU IU (by left)) (keepL iM) (keepL j4) QA MK ?_
 intro s' I'
 rw[iK,Zo,Zo]at I'
 show⟨U,.ref D,_,I',U,q D hD⟩
end
end L2
namespace L3
open PySem PySem.Spec PyProof.Rows L2
def zP {X:Cx}{a b:Expr}{t:TA}{p1 p2 pos cm:Pos}{KK:Yl}(hg1:Gl X "dict")(hm1:X.mg "dict"=none)(hg2:Gl X "zip")(hm2:X.mg "zip"=none)(ha:SA X [a,b] t)(hb:bL b:=by first|show fE|show iY|show fD)(hc:X.calm=true:=by rfl)(hK:X.K=KK:=by first|show bG|rfl) :
   SE X (.Call (.Name "dict" p1) [.Call (.Name "zip" p2) [a,b] [] cm] [] pos) (pH KK t):=by
 subst hK
 show⟨qM hc hg1 hm1 hg2 hm2 ha.h hb⟩
end L3
namespace L2
open PySem PySem.Spec PyProof.Rows
section
variable{X:Cx}{pos:Pos}
def C9 (i j k:Nat)(ta:TA):TS:=fun D σ H=>ta σ H fun vs H1=>∃u v w,vs=[u,v,w]/\D.nx (((σ.set i (some u)).set j (some v)).set k (some w)) H1
def Bq {i j k:Nat}{x y z:Str}{a b c:Expr}{ta:TA}{px py pz pt:Pos}{kt k2 oU}(hc:X.calm=true)(hN:X.N.Nodup)(hi:X.N[i]?=some x)(hj:X.N[j]?=some y)(hk:X.N[k]?=some z)(hij:i≠j)(hik:i≠k)(hjk:j≠k)
   (hx:X.env.scope.names.lookup x=some .local) (hy:X.env.scope.names.lookup y=some .local) (hzl:X.env.scope.names.lookup z=some .local) (ha:PA X [a,b,c] ta)
   (hw:ZX [.Tuple [.Name x px,.Name y py,.Name z pz] kt pt] (.Tuple [a,b,c] k2 oU) X.env=pure (some [x,y,z]))
   (hs:ZW [.Tuple [.Name x px,.Name y py,.Name z pz] kt pt] (.Tuple [a,b,c] k2 oU) pos.line X.env=pure false:=by rfl) :
   PS X (.Assign [.Tuple [.Name x px,.Name y py,.Name z pz] kt pt] (.Tuple [a,b,c] k2 oU) pos) (C9 i j k ta):=by
 intro pins s σ H D I h
 rw[exec_Assign_arm]
 show wpAny_bind (wpAny_standAt ?_)
 rw[hs]
 show wpAny_bind (wpAny_pure ?_)
 rw[bg (by left)]
 show wpAny_bind (Tuple_ (bq (ha _ pins s σ H _ I h) fun us s1 h9=>?_))
 obtain⟨vs,H1,I1,r1,q1⟩:=h9
 obtain⟨u,v,w,e1,q1⟩:=q1
 subst e1
 obtain⟨u1,u2,u3,rfl,ru,rv,rw'⟩ : ∃u1 u2 u3,us=[u1,u2,u3]/\RelV u u1/\RelV v u2/\RelV w u3:=by
   cases r1 with
   | cons p q=>
     cases q with
     | cons p' q'=>
       cases q' with
       | cons V8 Wk=>
         cases Wk
         show⟨_,_,_,U,p,p',V8⟩
 show wpAny_newObj_type ?_ aev
 have I2:Inv X pins σ H1 {s1 with heap:=s1.heap.push {cls:=.type "tuple",data:=.seq [u1,u2,u3].toArray} }:=I1.kept (t':=s1.toks) fun b o e=>Yr _ e
 rw[hw]
 show wpAny_bind (wpAny_pure ?_)
 change wpAny (model X.prog X.w) X.A (do rule "assign.swapped-stores";let items←unpackItems (.ref s1.heap.objs.size) 3 none;assignInOrder [fun v=>aaK X.env z v,fun v=>aaK X.env y v,fun v=>aaK X.env x v] items.reverse;pure ab6) _ _ _
 show wpAny_bind (wpAny_rule (wpAny_bind (unpackItems_tuple (items:=#[u1,u2,u3]) (I.ok.hd hc) (abw s1.heap _) fun h' vC=>?_)))
 have I3:=I2.kept (h':=h') (t':=s1.toks) fun b o e=>vC b o (YJ (Ys e)) e
 change wpAny _ _ (assignInOrder [fun v=>aaK X.env z v,fun v=>aaK X.env y v,fun v=>aaK X.env x v] [u3,u2,u1]>>=fun t=>pure ab6) _ _ _
 show wpAny_bind (assignInOrder_cons (wpAny_bindName (cF I3 hN hk (.inl hzl) rw' (fun s2 I4=>?_) (.inr hzl))))
 show assignInOrder_cons (wpAny_bindName (cF I4 hN hj (.inl hy) rv (fun s3 I5=>?_) (.inr hy)))
 show assignInOrder_cons (wpAny_bindName (cF I5 hN hi (.inl hx) ru (fun s4 I6=>abD (wpAny_pure ?_)) (.inr hx)))
 have e:((σ.set k (some w)).set j (some v)).set i (some u)=((σ.set i (some u)).set j (some v)).set k (some w):=by
   rw[abf _ _ hjk.symm,abf _ _ hik.symm,abf _ _ hij.symm]
 rw[e]at I6
 show⟨_,H1,I6,q1⟩
end
end L2
namespace L3
open PySem PySem.Spec PyProof.Rows L2
section
variable{X:Cx}{a b c e o:Expr}{es:List Expr}{ta tb tc te:TE}{t:TA}{pos:Pos}
def Kh (i j k:Nat){x y z:Str}{px py pz pt:Pos}{kt k2 oU}(hN:X.N.Nodup)(ha:SA X [a,b,c] t)(hi:X.N[i]?=some x:=by rfl)(hj:X.N[j]?=some y:=by rfl)(hk:X.N[k]?=some z:=by rfl)(hij:i≠j:=by left)(hik:i≠k:=by left)(hjk:j≠k:=by left)
   (hx:X.env.scope.names.lookup x=some .local:=by rfl) (hy:X.env.scope.names.lookup y=some .local:=by rfl) (hzl:X.env.scope.names.lookup z=some .local:=by rfl)
   (hw:ZX [.Tuple [.Name x px,.Name y py,.Name z pz] kt pt] (.Tuple [a,b,c] k2 oU) X.env=pure (some [x,y,z]):=by rfl)
   (hs:ZW [.Tuple [.Name x px,.Name y py,.Name z pz] kt pt] (.Tuple [a,b,c] k2 oU) pos.line X.env=pure false:=by rfl) (hc:X.calm=true:=by rfl) :
   SS X (.Assign [.Tuple [.Name x px,.Name y py,.Name z pz] kt pt] (.Tuple [a,b,c] k2 oU) pos) (C9 i j k t):=⟨Bq hc hN hi hj hk hij hik hjk hx hy hzl ha.h.pa hw hs⟩
theorem extend {apos:Pos}{KK:Yl}(ho:SE X o ta)(ha:SA X [e] t)(hbase:Zw o "extend" X.env (eval o X.env)=eval o X.env:=by rfl)(hline:(apos.endLine==pos.line)=true:=by rfl)(hK:X.K=KK:=by first|show bG|rfl) :
   SE X (.Call (.Attribute o "extend" apos) [e] [] pos) (Hn KK "list" sQ ta t):=by
 subst hK
 show Qo aaE PySem.F.slot_list_extend PySem.F.type_list_extend ⟨uL⟩ ho ha hbase hline
def v3 {f:Expr}{tf:TE}{apos:Pos}(hu:X.A.units+1<cLine)(ho:SE X o ta)(he:SE X e te)(hf:SE X f tf)(m:M2 X o "get" apos e f pos:=by show⟨rfl,rfl,rfl,rfl⟩):SE X (.Call (.Attribute o "get" apos) [e,f] [] pos) (yX ta te tf):=⟨xN hu ho.h he.h hf.h m⟩
def rF {Qr:Expr}{body:List Stmt}{Sv:TT}{u1:TS}(hcn:ST X Qr Sv)(hb:SL X body u1)(hp:PassesOwn (model X.prog X.w) X.A X.env X.xe:=by show ab7):SS X (.While Qr body [] pos) (y6 Sv u1):=⟨xZ hp hcn.h hb.h⟩
end
end L3
namespace L2
open PySem PySem.Spec PyProof.Rows
abbrev NI:=Key ⊕ List Key
section
variable(P:Program)(w:World)
def jt (h:Heap):NI->Value->Prop
 | .inl k,v=>(aL P w).is k v=true
 | .inr ks,v=>∃b,v=.ref b/\IsTupleKey (aL P w) h ks b
def gc:NI->Int
 | .inl k=>(aL P w).hash k
 | .inr ks=>tupleKeyHash (aL P w) ks
def sv:NI->Nat
 | .inl _=>1
 | .inr ks=>ks.length+1
def eE (ks:List NI):Nat:=(ks.map sv).sum
def cu (sh:List Bool)(h:Heap)(ks:List NI)(a:Addr):Prop:=
 ks.map Zr=sh/\∃ob aM n,h.get? a=some ob/\ob.cls=.type "tuple"/\ob.data=.seq aM n/\Paired (jt P w h) ks aM.toList
def oI (ks:List NI):Int:=reduceHash (Zi (ks.map (gc P w)))
end
section
variable{P:Program}{w:World}{sh:List Bool}{h h':Heap}{A:Around}{E:Value->Shared->Prop}{s:Shared}
def je (xs:List NI)(x:NI):eE (xs++[x])=eE xs+sv x:=by
 unfold eE
 rw[Yt,aaV]
 simp
def cu.vm {ks:List NI}{a:Addr}(x:cu P w sh s.heap ks a):s.TypeIs (.ref a) "tuple":=by
 obtain⟨_,ob,_,_,e,c,_⟩:=x
 show⟨ob,e,c⟩
def wO {x y:NI}{v:Value}(hs:x.isLeft=y.isLeft)(hx:jt P w h x v)(hy:jt P w h y v):x=y:=by
 cases x with
 | inl k=>
   cases y with
   | inl j=>rw[(aL P w).inj v k j hx hy]
   | inr js=>simp at hs
 | inr ks=>
   cases y with
   | inl j=>simp at hs
   | inr js=>
     obtain⟨b,rfl,hb⟩:=hx
     obtain⟨c,e,hc⟩:=hy
     cases e
     rw[hb.inj hc]
theorem sC:∀{xs ys:List NI} {vs:List Value},xs.map Zr=ys.map Zr->Paired (jt P w h) xs vs->Paired (jt P w h) ys vs->xs=ys
 | _,_,_,_,.nil,.nil=>rfl
 | _,_,_,hs,.cons p q,.cons p' q'=>by
   simp only[YM,abi]at hs
   rw[wO hs.1 p p',sC hs.2 q q']
def cu.uniq {xs ys:List NI}{a:Addr}(hx:cu P w sh h xs a)(hy:cu P w sh h ys a):xs=ys:=by
 obtain⟨e1,ob,aM,n,g1,_,d1,p1⟩:=hx
 obtain⟨e2,XR,its',n',g2,_,d2,p2⟩:=hy
 rw[g1]at g2
 cases g2
 rw[d1]at d2
 injection d2 with z _
 subst z
 show sC (e1.trans e2.symm) p1 p2
def cu.stays {ks:List NI}{a d:Addr}{ob:Obj}{es ep}(x:cu P w sh h ks a)(g:h.get? d=some ob)(dd:ob.data=.dict es ep)(sb:Za d h h'):cu P w sh h' ks a:=by
 obtain⟨e1,o2,aM,n,g2,c2,d2,p2⟩:=x
 have ne:a≠d:=fun z=>by
   subst z
   rw[g]at g2
   cases g2
   rw[dd]at d2
   cases d2
 show⟨e1,o2,aM,n,(sb.2 a ne).trans g2,c2,d2,Paired.aZ p2 fun i v z=>?_⟩
 cases i with
 | inl k=>show z
 | inr js=>
   obtain⟨b,e,q⟩:=z
   show⟨b,e,q.keeps g dd sb⟩
def uw {ks:List NI}{a:Addr}{Q:Int->Shared->Prop}(hu:A.units+1<cLine)(hk:cu P w sh s.heap ks a)(fin:Q (oI P w ks) {s with toks:=s.toks+(eE ks+1)}) :
   wpAny (model P w) A (pyHash (.ref a)) Q E s:=by
 have ty:=hk.vm
 obtain⟨_,ob,aM,n,g,_,dd,pr⟩:=hk
 unfold pyHash pyHashByItsType
 show wpAny_bind (wpAny_cRoomFor_or (.inr (abn hu)) ?_)
 show wpAny_bind (wpAny_specialOf ty F.slot_tuple_hash.lookup ?_)
 change wpAny _ _ (ite ((some (abQ "tuple.__hash__")==some Value.none)=true) _ _) Q E s
 rw[bg (fun z=>by rw[beq_builtin_none]at z;cases z)]
 show wpAny_bind (wpAny_specialOf ty F.slot_tuple_hash.lookup ?_)
 change wpAny _ _ (aaZ (callSpecialIfBoundUnlessNone? (.ref a) "__hash__" _) _) Q E s
 show wpAny_bind (wpAny_callSpecialIfBoundUnlessNone?_slot ty F.slot_tuple_hash (wpAny_call_entry F.slot_tuple_hash ty F.entry_tuple_hash ?_ (F.args_tuple_hash_1 _)))
 change wpAny _ _ (aaZ (aad (.ref a)) _) _ _ s
 show wpAny_bind (wpAny_tupleItemsOf g dd ?_)
 show wpAny_bind ?_
 rw[← Z4]
 show aa2 _
   (fun rest (b:Array Int) s'=>∃done left,ks=done++left/\Paired (jt P w s.heap) left rest/\b.toList=done.map (gc P w)/\s'={s with toks:=s.toks+eE done})
   _ ?_ ?_ _ _ ⟨[],ks,rfl,pr,rfl,rfl⟩
 . rintro x rest b s' ⟨done,left,rfl,hl,hb,rfl⟩
   cases hl with
   | @cons k _ Vx _ h1 Ck=>
     have go:∀(A':Around) (E':Value->Shared->Prop),A'.units<cLine->wpAny (model P w) A' (pyHash x) (fun i s2=>i=gc P w k/\s2={s with toks:=s.toks+eE (done++[k])}) E' {s with toks:=s.toks+eE done}:=by
       intro A' E' Vf
       cases k with
       | inl k=>show(aL P w).pyHash h1 ⟨rfl,by rw[je];rfl⟩
       | inr js=>
         obtain⟨c,rfl,hc⟩:=h1
         show wpAny_pyHash_tuple (s:={s with toks:=s.toks+eE done}) Vf hc ⟨U,by rw[je];show congrArg (fun t=>({s with toks:=t}:Shared)) (aar _ _ _)⟩
     show wpAny_bind (bq (go _ _ hu) fun i s2 z=>?_)
     obtain⟨rfl,rfl⟩:=z
     show wpAny_pure ⟨done++[k],Vx,by simp,Ck,by simp[hb],U⟩
 . rintro b s' ⟨done,left,rfl,hl,hb,rfl⟩
   cases hl
   rw[YO]at fin
   change wpAny _ _ (retInt (Zi b.toList)) _ _ _
   rw[hb]
   show wpAny_ret_mkInt ?_
   unfold oI reduceHash at fin
   rw[← aar]at fin
   change wpAny _ _ (ite ((decide (-(2:Int)^63<=Zi (done.map (gc P w)))&&decide (Zi (done.map (gc P w))<2^63))=true) _ _) Q E _
   by_cases z:(decide (-(2:Int)^63<=Zi (done.map (gc P w)))&&decide (Zi (done.map (gc P w))<2^63))=true
   . rw[bj z]at fin ⊢
     show wpAny_pure fin
   . rw[bg z]at fin ⊢
     show wpAny_bind (wpAny_rule (wpAny_pure fin))
def Ap {x y:NI}{u v:Value}{Q:Bool->Shared->Prop}(hu:A.units<cLine)(hs:x.isLeft=y.isLeft)(hx:jt P w s.heap x u)(hy:jt P w s.heap y v)(fin:Q (decide (x=y)) s):wpAny (model P w) A (eqBool u v) Q E s:=by
 cases x with
 | inl k=>
   cases y with
   | inl j=>
     show(aL P w).eqBool hx hy ?_
     have e:decide (k=j)=decide ((Sum.inl k:NI)=.inl j):=by simp
     rw[e]
     show fin
   | inr js=>simp at hs
 | inr ks=>
   cases y with
   | inl j=>simp at hs
   | inr js=>
     obtain⟨b,rfl,hb⟩:=hx
     obtain⟨c,rfl,hc⟩:=hy
     show wpAny_eqBool_tuple hu hb hc ?_
     have e:decide (ks=js)=decide ((Sum.inr ks:NI)=.inr js):=by simp
     rw[e]
     show fin
def zS {xs ys:List NI}{a b:Addr}{Pf:Fin->Shared->Prop}(hu:A.units<cLine)(hx:cu P w sh s.heap xs a)(hy:cu P w sh s.heap ys b)(fin:Pf (.done (.ret (.bool (decide (xs=ys))))) s) :
   wpAny (model P w) A (Builtin.«tuple.__eq__» ⟨[.ref a,.ref b],[]⟩) Pf E s:=by
 have tb:=hy.vm
 obtain⟨e1,oa,us,na,ga,_,da,pa⟩:=hx
 obtain⟨e2,ob,vs,nb,gb,_,db,pb⟩:=hy
 change wpAny _ _ (aaZ (isInstance (.ref b) (.type "tuple")) _) _ _ s
 show wpAny_bind (wpAny_isInstance tb aa9 ?_)
 simp only[aaq,Zg,if_false]
 show wpAny_bind (wpAny_tupleItemsOf ga da ?_)
 show wpAny_bind (wpAny_tupleItemsOf gb db ?_)
 show wpAny_bind ?_
 have l1:=Paired.length pa
 have l2:=Paired.length pb
 have l3:xs.length=ys.length:=by have:=congrArg aau (e1.trans e2.symm);simpa using this
 show aa2 _
   (fun rest r s2=>r.1=none/\s2=s/\∃x' y' u' v',rest=List.zip u' v'/\x'.map Zr=y'.map Zr/\Paired (jt P w s.heap) x' u'/\Paired (jt P w s.heap) y' v'/\decide (x'=y')=decide (xs=ys))
   _ ?_ ?_ _ _ ⟨rfl,rfl,xs,ys,us.toList,vs.toList,rfl,e1.trans e2.symm,pa,pb,rfl⟩
 . rintro⟨u,v⟩ rest r s2 ⟨hr,rfl,x',y',u',v',hz,hs,vC,Md,hd⟩
   cases vC with
   | nil=>simp at hz
   | @cons k1 u1 x2 u2 h1 r8=>
     cases Md with
     | nil=>simp at hz
     | @cons k2 v1 y2 v2 h2 Vn=>
       simp only[List.zip_cons_cons,abi,Prod.mk.injEq]at hz
       obtain⟨⟨rfl,rfl⟩,rfl⟩:=hz
       simp only[YM,abi]at hs
       show wpAny_bind (Ap hu hs.1 h1 h2 ?_)
       by_cases hk:k1=k2
       . subst hk
         rw[cH rfl]
         simp only[aaq,Zg,if_false]
         show wpAny_pure ⟨U,U,x2,y2,u2,v2,U,hs.2,r8,Vn,?_⟩
         rw[← hd]
         simp
       . rw[f6 hk]
         simp only[Bool.not_false,if_true]
         have hf:decide (xs=ys)=false:=by rw[← hd];simp[hk]
         rw[hf]at fin
         show wpAny_bind (wpAny_pure (wpAny_pure (wpAny_pure fin)))
 . rintro⟨r1,r2⟩ s2 ⟨hr,rfl,x',y',u',v',hz,hs,vC,Md,hd⟩
   simp only at hr
   subst hr
   show wpAny_pure ?_
   have e3:(us.size==vs.size)=true:=by
     rw[beq_iff_eq,← Zs,← Zs]
     lia
   have e4:decide (xs=ys)=true:=by
     rw[← hd]
     cases vC with
     | nil=>
       cases Md with
       | nil=>rfl
       | cons _ _=>simp at hs
     | cons _ _=>
       cases Md with
       | nil=>simp at hs
       | cons _ _=>simp at hz
   change Pf (.done (.ret (.bool (us.size==vs.size)))) s2
   rw[e3,← e4]
   show fin
def we {xs ys:List NI}{a b:Addr}{Q:Bool->Shared->Prop}(hu:A.units+1<cLine)(hx:cu P w sh s.heap xs a)(hy:cu P w sh s.heap ys b)(fin:Q (decide (xs=ys)) s) :
   wpAny (model P w) A (eqBool (.ref a) (.ref b)) Q E s:=by
 unfold eqBool
 show wpAny_holding ?_
 change wpAny _ _ (ite ((Y2 a==Y2 b)=true) _ _) Q E s
 by_cases ab:(Y2 a==Y2 b)=true
 . rw[bj ab]
   have e:=eq_of_beq ab
   cases e
   obtain rfl:=hx.uniq hy
   show wpAny_bind (wpAny_rule (wpAny_pure (by simpa using fin)))
 . rw[bg ab]
   show wpAny_bind (wpAny_richCompare_same_room (op:=.Eq) hx.vm hy.vm F.slot_tuple_eq
     (wpAny_call_entry F.slot_tuple_eq hx.vm F.entry_tuple_eq (zS hu hx hy ⟨_,rfl,(fun z=>nomatch z),wpAny_truthy_bool fin⟩) (F.args_tuple_eq_2 _ _)) (abn hu))
def qQ {m:Nat}{ks:List Key}{a:Addr}{Q:Bool->Shared->Prop}(hk:IsTupleKey (aL P w) s.heap ks a)(fin:Q true s):wpAny (model P w) A (eqIsQuiet (m+1) (.ref a)) Q E s:=by
 have ty:=hk.typeIs
 obtain⟨ob,aM,n,g,_,dd,hi⟩:=hk
 unfold eqIsQuiet
 show wpAny_bind (wpAny_specialOf ty F.slot_tuple_eq.lookup ?_)
 change wpAny _ _ (aaZ (isInstance (.ref a) (.type "tuple")) _) _ _ s
 show wpAny_bind (wpAny_isInstance ty aa9 ?_)
 simp only[aaq,Zg,if_false]
 show wpAny_bind (wpAny_seqItems g dd ?_)
 show wpAny_bind ?_
 change wpAny _ _ (forIn aM _ _) _ _ s
 rw[← Z4]
 show aa2 _ (fun rest r s2=>r.1=none/\s2=s/\∀v∈rest,carriedByValue v=true) _ ?_ ?_ _ _ ⟨U,U,hi.byValue⟩
 . rintro v rest r s2 ⟨hr,rfl,all⟩
   rw[eqIsQuiet_byValue _ (all v Y9)]
   show wpAny_bind (wpAny_pure ?_)
   simp only[aaq,Zg,if_false]
   show wpAny_pure ⟨U,U,fun u hu=>all u (Y1 _ hu)⟩
 . rintro⟨r1,r2⟩ s2 ⟨hr,rfl,_⟩
   simp only at hr
   subst hr
   show wpAny_pure fin
def qR {ks:List NI}{a:Addr}{Q:Bool->Shared->Prop}(hk:cu P w sh s.heap ks a)(fin:Q true s):wpAny (model P w) A (eqIsQuiet 8 (.ref a)) Q E s:=by
 have ty:=hk.vm
 obtain⟨_,ob,aM,n,g,_,dd,pr⟩:=hk
 unfold eqIsQuiet
 show wpAny_bind (wpAny_specialOf ty F.slot_tuple_eq.lookup ?_)
 change wpAny _ _ (aaZ (isInstance (.ref a) (.type "tuple")) _) _ _ s
 show wpAny_bind (wpAny_isInstance ty aa9 ?_)
 simp only[aaq,Zg,if_false]
 show wpAny_bind (wpAny_seqItems g dd ?_)
 show wpAny_bind ?_
 change wpAny _ _ (forIn aM _ _) _ _ s
 rw[← Z4]
 show aa2 _ (fun rest r s2=>r.1=none/\s2=s/\∃left,Paired (jt P w s.heap) left rest) _ ?_ ?_ _ _ ⟨U,U,_,pr⟩
 . rintro v rest r s2 ⟨hr,rfl,left,pl⟩
   cases pl with
   | @cons k _ JD _ h1 h2=>
     have go:wpAny (model P w) A (eqIsQuiet 7 v) (fun b s3=>b=true/\s3=s2) E s2:=by
       cases k with
       | inl k=>
         rw[eqIsQuiet_byValue _ ((aL P w).byValue _ _ h1)]
         show wpAny_pure ⟨U,U⟩
       | inr js=>
         obtain⟨c,rfl,hc⟩:=h1
         show qQ hc ⟨U,U⟩
     show wpAny_bind (bq go fun b s3 z=>?_)
     obtain⟨rfl,rfl⟩:=z
     simp only[aaq,Zg,if_false]
     show wpAny_pure ⟨U,U,JD,h2⟩
 . rintro⟨r1,r2⟩ s2 ⟨hr,rfl,_⟩
   simp only at hr
   subst hr
   show wpAny_pure fin
def ij (P:Program)(w:World)(sh:List Bool):HeapKind P w (List NI) where
 is:=cu P w sh
 hash:=oI P w
 draws:=fun ks=>eE ks+1
 room:=fun A=>A.units+1<cLine
 inj:=fun hx hy=>hx.uniq hy
 keeps:=fun x g d sb=>x.stays g d sb
 pyHash:=fun hu hk fin=>uw hu hk fin
 eqBool:=fun hu hx hy fin=>we hu hx hy fin
 quiet:=fun hk fin=>qR hk fin
def iX (hu:A.units+2<cLine):(ij P w sh).room A.in1:=hu
end
abbrev rK:=List (List NI×Addr×V)
abbrev pZ:rK->List (List NI×Addr×Value)->Prop:=Paired fun p q=>p.1=q.1/\p.2.1=q.2.1/\RelV p.2.2 q.2.2
def SQ (P:Program)(w:World)(d:Addr)(kvs:rK):Heap->Prop:=fun h=>∃xs,pZ kvs xs/\∃o es ep,h.get? d=some o/\o.ExactDict/\o.data=.dict es ep/\es.toList=xs.map fun x=>⟨oI P w x.1,.ref x.2.1,x.2.2⟩
def DN (P:Program)(w:World)(d:Addr)(kvs:rK):HO:=.ext (SQ P w d kvs)
def Rm (H:Hp):NI->V->Prop
 | .inl k,v=>v=kV k
 | .inr ks,v=>∃c,v=.ref c/\H c=some (.tup (ks.map kV))
def dv (H:Hp)(b:Addr)(ks:List NI):Prop:=∃us,H b=some (.tup us)/\Paired (Rm H) ks us
structure ND (P:Program)(w:World)(sh:List Bool)(H:Hp)(d:Addr)(kvs:rK):Prop where
 at_:H d=some (DN P w d kvs)
 len:kvs.length<=sizeLine
 nd:(kvs.map (·.1)).Nodup
 keys:∀p∈kvs,dv H p.2.1 p.1/\p.1.map Zr=sh
 main:(d==Zv)=false
def valN (kvs:rK)(k:List NI):Option V:=(kvs.find? fun p=>decide (p.1=k)).map (·.2.2)
def dv.keep {H H':Hp}{b:Addr}{ks:List NI}(h:dv H b ks)(ht:∀b us,H b=some (.tup us)->H' b=some (.tup us)):dv H' b ks:=by
 obtain⟨us,e,p⟩:=h
 show⟨us,ht _ _ e,Paired.aZ p fun i v z=>?_⟩
 cases i with
 | inl k=>show z
 | inr js=>
   obtain⟨c,ec,hc⟩:=z
   show⟨c,ec,ht _ _ hc⟩
section
variable{P:Program}{w:World}{sh:List Bool}{H H':Hp}{h h':Heap}{d:Addr}{kvs:rK}
def ND.keep (x:ND P w sh H d kvs)(hd:H' d=some (DN P w d kvs))(ht:∀b us,H b=some (.tup us)->H' b=some (.tup us)):ND P w sh H' d kvs:=
 ⟨hd,x.len,x.nd,fun p hp=>⟨(x.keys p hp).1.keep ht,(x.keys p hp).2⟩,x.main⟩
def vo {k:List NI}(e:valN kvs k=none):k∉kvs.map (·.1):=by
 intro hm
 obtain⟨p,hp,rfl⟩:=List.mem_map.mp hm
 unfold valN at e
 rw[Option.map_eq_none_iff,List.find?_eq_none]at e
 show e p hp (cH rfl)
def ND.put {b:Addr}{ks:List NI}{v:V}(x:ND P w sh H d kvs)(kb:dv H b ks)(hs:ks.map Zr=sh)(no:valN kvs ks=none)(hl:kvs.length<sizeLine) :
   ND P w sh (upd H d (DN P w d (kvs++[(ks,b,v)]))) d (kvs++[(ks,b,v)]):=by
 have ht:∀c us,H c=some (.tup us)->(upd H d (DN P w d (kvs++[(ks,b,v)]))) c=some (.tup us):=fun c us e=>by
   rw[ar (dO e x.at_ (fun z=>nomatch z))]
   show e
 show⟨ae,by rw[Ym];show hl,?_,fun p hp=>?_,x.main⟩
 . rw[Yt]
   show mZ x.nd ?_
   show vo no
 . rcases List.mem_append.mp hp with z|z
   . show⟨(x.keys p z).1.keep ht,(x.keys p z).2⟩
   . obtain rfl:p=(ks,b,v):=by simpa using z
     show⟨kb.keep ht,hs⟩
def hU {b:Addr}{ks:List NI}(ok:eS P w H h)(kb:dv H b ks)(hs:ks.map Zr=sh):(ij P w sh).is h ks b:=by
 obtain⟨us,e,p⟩:=kb
 obtain⟨_,aM,r,o,h1,h2,n,h3⟩:=(show bC P w H h b (.tup us)from ok b _ e)
 show⟨hs,o,aM.toArray,n,h1,h2,h3,?_⟩
 have go:∀{ks:List NI} {us:List V} {aM:List Value},Paired (Rm H) ks us->Vals us aM->Paired (jt P w h) ks aM:=by
   intro ks us aM p
   induction p generalizing aM with
   | nil=>intro r;cases r;show .nil
   | @cons i v _ _ q _ ih=>
     intro r
     cases r with
     | cons a b=>
       show .cons ?_ (ih b)
       cases i with
       | inl k=>subst q;show hG a
       | inr js=>
         obtain⟨c,rfl,hc⟩:=q
         cases a
         show⟨c,U,kc ok hc⟩
 show go p r
def pZ.val {kvs:rK}{xs:List (List NI×Addr×Value)}(r:pZ kvs xs)(k:List NI):fU (valN kvs k) ((atKey xs k).map (·.2)):=by
 induction r with
 | nil=>show Y5
 | @cons p q _ _ z t ih=>
   unfold valN atKey at ih ⊢
   rw[Zy,Zy,← z.1]
   by_cases e:p.1=k
   . rw[cH e]
     show z.2.2
   . rw[f6 e]
     show ih
def dY (ok:eS P w H h)(x:ND P w sh H d kvs):∃xs,pZ kvs xs/\h.DictOfH (ij P w sh) d xs:=by
 obtain⟨⟨xs,r,o,es,ep,h1,h2,h3,h4⟩,_,_⟩:=(show bC P w H h d (DN P w d kvs)from ok d _ x.at_)
 show⟨xs,r,o,es,ep,h1,h2,h3,h4,fun q hq=>?_,?_⟩
 . have all:∀{l:rK} {m:List (List NI×Addr×Value)},pZ l m->(∀p∈l,dv H p.2.1 p.1/\p.1.map Zr=sh)->∀q∈m,(ij P w sh).is h q.1 q.2.1:=by
     intro l m z
     induction z with
     | nil=>intro _ q hq;show nomatch hq
     | @cons p q0 _ _ zz t ih=>
       intro hk q hq
       rcases List.mem_cons.mp hq with e|hq
       . subst e
         obtain⟨k1,k2⟩:=hk p Y9
         rw[← zz.1,← zz.2.1]
         show hU ok k1 k2
       . show ih (fun p hp=>hk p (Y1 _ hp)) q hq
   show all r x.keys q hq
 . have e:xs.map (·.1)=kvs.map (·.1):=by
     have go:∀{l:rK} {m:List (List NI×Addr×Value)},pZ l m->m.map (·.1)=l.map (·.1):=by
       intro l m z
       induction z with
       | nil=>rfl
       | cons a _ ih=>rw[YM,YM,ih,a.1]
     show go r
   rw[e]
   show x.nd
def Cc {H2:Hp}{xs:List (List NI×Addr×Value)}(r:pZ kvs xs){o:Obj}{es ep}(h1:h.get? d=some o)(h2:o.ExactDict)(h3:o.data=.dict es ep)(h4:es.toList=xs.map fun x=>⟨oI P w x.1,.ref x.2.1,x.2.2⟩):bC P w H2 h d (DN P w d kvs):=by
 show⟨⟨xs,r,o,es,ep,h1,h2,h3,h4⟩,⟨o,h1⟩,fun g1 g2 x k=>?_⟩
 obtain⟨ys,r',o',Iw,Iv,k1,k2,k3,k4⟩:=x
 show⟨ys,r',o',Iw,Iv,k _ k1,k2,k3,k4⟩
end
section
variable{X:Cx}{pins:List (Addr×Obj)}{σ:St}{H:Hp}{s:Shared}{d b:Addr}{sh:List Bool}{kvs:rK}{ks:List NI}{v:V}{A:Around}{E:Value->Shared->Prop}
def Au {Q:Value->Shared->Prop}(hu:A.units+2<cLine)(I:Inv X pins σ H s)(x:ND X.prog X.w sh H d kvs)(kb:dv H b ks)(hs:ks.map Zr=sh)(fin:∀s2,Inv X pins σ H s2->Q (.bool (!(valN kvs ks).isSome)) s2) :
   wpAny (model X.prog X.w) A (compareOp .NotIn (.ref b) (.ref d)) Q E s:=by
 obtain⟨xs,r,dd⟩:=dY I.hok x
 show wpAny_notIn_heap (iX hu) (hU I.hok kb hs) x.main dd ?_
 have q:=(r.val ks).iV
 rw[abe]at q
 rw[← q]
 show fin _ (I.tok _)
def JM {Q:Value->Shared->Prop}(hu:A.units+2<cLine)(I:Inv X pins σ H s)(x:ND X.prog X.w sh H d kvs)(kb:dv H b ks)(hs:ks.map Zr=sh)(hv:valN kvs ks=some v)(fin:∀u s2,Inv X pins σ H s2->RelV v u->Q u s2) :
   wpAny (model X.prog X.w) A (getItem (.ref d) (.ref b)) Q E s:=by
 obtain⟨xs,r,dd⟩:=dY I.hok x
 obtain⟨u,Vh,ru⟩:=fU.some_of (v:=v) (o:=(atKey xs ks).map (·.2)) (by rw[← hv];show r.val ks)
 obtain⟨p,hp,uA⟩:=Option.map_eq_some_iff.mp Vh
 show wpAny_getItem_heap (iX hu) (hU I.hok kb hs) dd hp ?_
 rw[uA]
 show fin u _ (I.tok _) ru
def JP {r:Value}{Q:Unit->Shared->Prop}(hu:A.units+2<cLine)(I:Inv X pins σ H s)(x:ND X.prog X.w sh H d kvs)(kb:dv H b ks)(hs:ks.map Zr=sh)(no:valN kvs ks=none)(rv:RelV v r)(fin:∀s2,Inv X pins σ (upd H d (DN X.prog X.w d (kvs++[(ks,b,v)]))) s2->Q () s2) :
   wpAny (model X.prog X.w) A (setItem (.ref d) (.ref b) r) Q E s:=by
 obtain⟨xs,rel,dd⟩:=dY I.hok x
 have hz:xs.length<=sizeLine:=by rw[← Paired.length rel];show x.len
 have e:atKey xs ks=none:=by
   have q:=(rel.val ks).iV
   rw[no,abe]at q
   cases z:atKey xs ks with
   | none=>rfl
   | some p=>rw[z]at q;cases q
 show wpAny_setItem_heap (hsz:=hz) (iX hu) (hU I.hok kb hs) dd fun h' lM vB=>fin _ ?_
 obtain⟨q,es,ep,hq,h2,h3,h4,_,h5⟩:=lM
 rw[storedH_new e]at h4
 show dM I (by rw[x.at_];show Y5) vB ⟨q,hq⟩ (Cc (Paired.snoc rel ⟨U,U,rv⟩) hq h2 h3 h4)
def JO {Q:Value->Shared->Prop}(I:Inv X pins σ H s)(x:ND X.prog X.w sh H d kvs)(fin:∀t s2,Inv X pins σ H s2->Q (.int kvs.length t) s2):wpAny (model X.prog X.w) A (call (.builtin "len") [.ref d]) Q E s:=by
 obtain⟨xs,rel,dd⟩:=dY I.hok x
 have ty:=dd.typeIs
 obtain⟨o,es,ep,h1,_,h3,h4,_⟩:=dd
 have hl:es.size=kvs.length:=by rw[← Zs,h4,Yk,Paired.length rel]
 have hk:=x.len
 show Calls.call_function_entry kind_len plain_len entry_len (args_len1 _) ?_
 unfold Builtin.«len»
 show wpAny_bind (m:=oneArg "len" _) (wpAny_pure ?_)
 show wpAny_bind (m:=callSpecial? (.ref d) (ZD "__len__")) (Y4 (name:=ZD "__len__") ty F.slot_dict_len (wpAny_call_entry F.slot_dict_len ty F.entry_dict_len ?_ (F.args_dict_len_1 _)))
 change wpAny _ _ (aaZ (dictSize d) _) _ _ s
 unfold dictSize
 show wpAny_bind (wpAny_bind (wpAny_dictEntries h1 h3 (wpAny_pure ?_)))
 change wpAny _ _ (aaZ (Builtin.Dict.pendingCount d) _) _ _ s
 show wpAny_bind (wpAny_pendingCount_other x.main ?_)
 show wpAny_ret_mkInt ?_
 have hc:(es.size:Int)<2^63:=by rw[hl];show Zc (Int.ofNat_le.mpr hk) (by left)
 have e0:(es.size:Int)+((0:Nat):Int)=kvs.length:=by rw[hl];show Int.add_zero _
 rw[e0]
 show wpAny_bind (wpAny_holding (wpAny_pure ?_))
 show wpAny_bind (wpAny_letGo ?_)
 change wpAny _ _ (ite ((kvs.length:Int)<0) _ _) _ _ _
 rw[bg (Int.not_lt.mpr (Int.natCast_nonneg _))]
 change wpAny _ _ (ite ((kvs.length:Int) ≥ 2^63) _ _) _ _ _
 rw[bg (fun z=>by rw[hl]at hc;show az hc (Int.not_lt.mpr z))]
 show wpAny_bind (wpAny_mkInt (wpAny_pure ⟨_,U,fin _ _ ((I.tok _).tok _)⟩))
def tT (P:Program)(w:World)(ty td:TE):TE:=fun σ H Q=>ty σ H fun y H1=>td σ H1 fun x H2=>∃d b sh kvs ks,x=.ref d/\y=.ref b/\ND P w sh H2 d kvs/\dv H2 b ks/\ks.map Zr=sh/\Q (.bl (!(valN kvs ks).isSome)) H2
def C5 (P:Program)(w:World)(td ty:TE):TE:=fun σ H Q=>td σ H fun x H1=>ty σ H1 fun y H2=>∃d b sh kvs ks v,x=.ref d/\y=.ref b/\ND P w sh H2 d kvs/\dv H2 b ks/\ks.map Zr=sh/\valN kvs ks=some v/\Q v H2
def CI (P:Program)(w:World)(td ty tv:TE):TS:=fun D σ H=>tv σ H fun v H1=>td σ H1 fun x H2=>ty σ H2 fun y H3=>∃d b sh kvs ks,x=.ref d/\y=.ref b/\ND P w sh H3 d kvs/\dv H3 b ks/\ks.map Zr=sh/\valN kvs ks=none/\D.nx σ (upd H3 d (DN P w d (kvs++[(ks,b,v)])))
def yY (P:Program)(w:World):TE:=fun z H Q=>∀p,H p=none->(p==Zv)=false->Q (.ref p) (upd H p (DN P w p []))
section
variable{o i e value:Expr}{pos pos':Pos}{td ty tv:TE}
def xO:PE X (.Dict [] [] pos) (yY X.prog X.w):=fun pins s σ H Q I h=>
 wpAny_Dict_empty ⟨.ref s.heap.objs.size,_,I.laid (a:=s.heap.objs.size) (o:=DN X.prog X.w s.heap.objs.size []) (t':=s.toks) (fun z z q=>Yr _ q) (Yo _) (Cc (xs:=[]) .nil (YG _ rfl) ⟨rfl,rfl,rfl⟩ rfl rfl),rfl,
   h _ (I.hok.fresh (Yo _)) (beq_eq_false_iff_ne.mpr (Ne.symm (YJ I.big)))⟩
def A9 (hu:X.A.units+2<cLine)(ho:PE X o td)(hi:PE X i ty)(hs:vJ i):PE X (.Subscript o i pos) (C5 X.prog X.w td ty):=by
 intro pins s σ H Q I h
 show tS PySem.F.slot_dict_getitem.lookup hs (bq (ho pins s σ H _ I h) fun u s1 g9=>?_)
 obtain⟨x,H1,I1,rx,q1⟩:=g9
 show bq (hi pins s1 σ H1 _ I1 q1) fun iv s2 h9=>?_
 obtain⟨y,H2,I2,ry,d,b,sh,kvs,ks,v,ex,ey,n,kb,Ef,hv,q2⟩:=h9
 subst ex ey
 cases rx
 cases ry
 obtain⟨xs,_,dd⟩:=dY I2.hok n
 show⟨dd.typeIs,JM hu I2 n kb Ef hv fun w' s3 I3 rw'=>⟨v,H2,I3,rw',q2⟩⟩
def uZ (hu:X.A.units+2<cLine)(hi:PE X i ty)(ho:PE X o td):PC X .NotIn i o (tT X.prog X.w ty td):=by
 intro pins s σ H Q I h
 show bq (hi pins s σ H _ I h) fun iv s1 g9=>?_
 obtain⟨y,H1,I1,ry,q1⟩:=g9
 show bq (ho pins s1 σ H1 _ I1 q1) fun u s2 h9=>?_
 obtain⟨x,H2,I2,rx,d,b,sh,kvs,ks,ex,ey,n,kb,Ef,q2⟩:=h9
 subst ex ey
 cases rx
 cases ry
 show Au hu I2 n kb Ef fun s3 I3=>⟨.bl (!(valN kvs ks).isSome),H2,I3,U,q2⟩
def Bm (hu:X.A.units+2<cLine)(ho:PE X o td)(hi:PE X i ty)(hv:PE X value tv)(hs:ZJ value (some (.Subscript o i pos')) pos.line X.env=pure false) :
   PS X (.Assign [.Subscript o i pos'] value pos) (CI X.prog X.w td ty tv):=by
 intro pins s σ H D I h
 show wpAny_Assign_Subscript (bq (hv pins s σ H _ I h) fun r s1 g9=>?_) hs
 obtain⟨v,H1,I1,rv,q1⟩:=g9
 show bq (ho pins s1 σ H1 _ I1 q1) fun u s2 g9=>?_
 obtain⟨x,H2,I2,rx,q2⟩:=g9
 show bq (hi pins s2 σ H2 _ I2 q2) fun iv s3 h9=>?_
 obtain⟨y,H3,I3,ry,d,b,sh,kvs,ks,ex,ey,n,kb,Ef,no,q3⟩:=h9
 subst ex ey
 cases rx
 cases ry
 show JP hu I3 n kb Ef no rv fun s4 I4=>⟨σ,_,I4,q3⟩
def ue:dj X (.builtin "len") (fun xs H Q=>∃d sh kvs,xs=[V.ref d]/\ND X.prog X.w sh H d kvs/\Q (.int kvs.length) H):=by
 intro pins s σ H xs us Q I r h
 obtain⟨d,sh,kvs,rfl,n,q⟩:=h
 obtain⟨u,rfl,ru⟩:=vals1 r
 cases ru
 show JO I n fun t s' I'=>⟨.int kvs.length,H,I',⟨t,U⟩,q⟩
end
end
end L2
namespace L3
open PySem PySem.Spec PyProof.Rows L2
section
variable{X:Cx}{a b c e o:Expr}{es:List Expr}{ta tb tc te:TE}{t:TA}{pos pos':Pos}{P:Program}{w:World}
def Ij (hP:X.prog=P:=by rfl)(hw:X.w=w:=by rfl):SE X (.Dict [] [] pos) (yY P w):=by
 subst hP hw
 show⟨xO⟩
def O6 (hu:X.A.units+2<cLine)(ho:SE X a ta)(hi:SE X b tb)(hs:vJ b:=by show fun z z=>rfl)(hP:X.prog=P:=by rfl)(hw:X.w=w:=by rfl):SE X (.Subscript a b pos) (C5 P w ta tb):=by
 subst hP hw
 show⟨A9 hu ho.h hi.h hs⟩
def EC (hu:X.A.units+2<cLine)(hi:SE X a ta)(ho:SE X b tb)(h1:ZY .NotIn b=false:=by first|show w5 _ (by left) (by left)|rfl)(hP:X.prog=P:=by rfl)(hw:X.w=w:=by rfl):ST X (.Compare a [.NotIn] [b] pos) (tB (tT P w ta tb)):=by
 subst hP hw
 show⟨FV (uZ hu hi.h ho.h) h1⟩
def qH (hu:X.A.units+2<cLine)(ho:SE X a ta)(hi:SE X b tb)(hv:SE X c tc)(hs:ZJ c (some (.Subscript a b pos')) pos.line X.env=pure false:=by rfl)(hP:X.prog=P:=by rfl)(hw:X.w=w:=by rfl):SS X (.Assign [.Subscript a b pos'] c pos) (CI P w ta tb tc):=by
 subst hP hw
 show⟨Bm hu ho.h hi.h hv.h hs⟩
def vT (hP:X.prog=P:=by rfl)(hw:X.w=w:=by rfl):SC X (.builtin "len") (fun xs H Q=>∃d sh kvs,xs=[V.ref d]/\ND P w sh H d kvs/\Q (.int kvs.length) H):=by
 subst hP hw
 show⟨ue⟩
def jB {KK:Yl}(hK:X.K=KK:=by first|show bG|rfl):SC X (.type "tuple") (fun xs H Q=>∃p ys,xs=[.ref p]/\aF KK H p ys/\∀l,H l=none->Q (.ref l) (upd H l (.tup ys))):=by
 subst hK
 show⟨fun pins s σ H xs us Q I r h=>?_⟩
 obtain⟨p,ys,e,hq,q⟩:=h
 show kX pins s σ H xs us Q I r ⟨p,ys,e,.inl ⟨hq,q⟩⟩
def rQ (hc:X.calm=true:=by rfl):SC X (.builtin "min") (fun xs H Q=>∃i j,xs=[.int i,.int j]/\Q (.int (if j<i then j else i)) H):=⟨ug hc⟩
end
end L3
namespace L2
open PySem PySem.Spec PyProof.Rows
def Az {a b p}:bL (.Dict a b p):=eZ fun y y z=>nomatch z
end L2
namespace L3
open PySem PySem.Spec PyProof.Rows L2
section
variable{X:Cx}{a b c e o:Expr}{es:List Expr}{ta tb tc te:TE}{t:TA}{pos:Pos}
def Gm {KK:Yl}{p2:Pos}(ha:SE X a ta)(hb:SE X b tb)(hK:X.K=KK:=by first|show bG|rfl):SE X (.Subscript a (.Slice (some b) none none p2) pos) (Ll (F0 KK) ta (pI tb) iH):=by
 subst hK
 show⟨ir tJ ha.h (jG hb.h) jF⟩
end
end L3
namespace TW
section
variable{S:Type}(f:S->Option (List Int×S))
def tr:Nat->S->Option (S×List Int)
 | 0,s=>some (s,[])
 | n+1,s=>match tr n s with
   | none=>none
   | some z=>match f z.1 with
     | none=>none
     | some r=>some (r.2,z.2++r.1)
variable{f}
def cp {n:Nat}{s t u:S}{sd x:List Int}(h:tr f n s=some (t,sd))(hf:f t=some (x,u)):tr f (n+1) s=some (u,sd++x):=by
 change(match tr f n s with|none=>none|some z=>match f z.1 with|none=>none|some r=>some (r.2,z.2++r.1))=_
 rw[h]
 change(match f t with|none=>none|some r=>some (r.2,sd++r.1))=_
 rw[hf]
def cS {n:Nat}{s t:S}{sd:List Int}(h:tr f n s=some (t,sd))(hf:f t=none):tr f (n+1) s=none:=by
 change(match tr f n s with|none=>none|some z=>match f z.1 with|none=>none|some r=>some (r.2,z.2++r.1))=_
 rw[h]
 change(match f t with|none=>none|some r=>some (r.2,sd++r.1))=_
 rw[hf]
def dQ {n:Nat}{s:S}(h:tr f n s=none):tr f (n+1) s=none:=by
 change(match tr f n s with|none=>none|some z=>match f z.1 with|none=>none|some r=>some (r.2,z.2++r.1))=_
 rw[h]
theorem dW {m:Nat}{s t:S}{sd:List Int}(h:tr f m s=some (t,sd)):∀n,tr f (m+n) s=(tr f n t).map fun z=>(z.1,sd++z.2)
 | 0=>by
   rw[Nat.add_zero,h]
   change _=some (t,sd++[])
   rw[YO]
 | n+1=>by
   have ih:=dW h n
   cases e:tr f n t with
   | none=>
     rw[e]at ih
     rw[← aar,dQ ih,dQ e]
     rfl
   | some z=>
     rw[e]at ih
     cases e2:f z.1 with
     | none=>
       rw[← aar,cS (t:=z.1) (sd:=sd++z.2) ih e2,cS (t:=z.1) (sd:=z.2) e e2]
       rfl
     | some r=>
       rw[← aar,cp (t:=z.1) (u:=r.2) (x:=r.1) (sd:=sd++z.2) ih e2,cp (t:=z.1) (u:=r.2) (x:=r.1) (sd:=z.2) e e2]
       change _=some (r.2,sd++(z.2++r.1))
       rw[Zl]
theorem kK {s:S}:∀{n m:Nat} {z:S×List Int},tr f n s=some z->m<=n->∃y,tr f m s=some y/\∃rest,z.2=y.2++rest
 | 0,m,z,h,hm=>by
   obtain rfl:m=0:=by lia
   show⟨z,h,[],(YO _).symm⟩
 | n+1,m,z,h,hm=>by
   by_cases e:m=n+1
   . subst e
     show⟨z,h,[],(YO _).symm⟩
   . cases e1:tr f n s with
     | none=>rw[dQ e1]at h;cases h
     | some y=>
       obtain⟨y2,h2,rest,h3⟩:=kK (n:=n) (m:=m) e1 (by lia)
       cases e2:f y.1 with
       | none=>rw[cS (t:=y.1) (sd:=y.2) e1 e2]at h;cases h
       | some r=>
         rw[cp (t:=y.1) (u:=r.2) (x:=r.1) (sd:=y.2) e1 e2]at h
         cases h
         show⟨y2,h2,rest++r.1,by change y.2++r.1=_;rw[h3,Zl]⟩
def tV {i j:Nat}{s t:S}{a b:List Int}(hj:j<i)(h1:tr f j s=some (t,a))(h2:tr f i s=some (t,b))(n:Nat):∃z,tr f n s=some z:=by
 induction n using aa0 with
 | _ n ih=>
   by_cases hn:n<=i
   . obtain⟨y,hy,_⟩:=kK h2 hn
     show⟨y,hy⟩
   . obtain⟨z,hz⟩:=ih (j+(n-i)) (by lia)
     rw[dW h1]at hz
     cases e:tr f (n-i) t with
     | none=>rw[e]at hz;cases hz
     | some y=>
       have h3:=dW h2 (n-i)
       rw[e,show i+(n-i)=n by lia]at h3
       show⟨_,h3⟩
abbrev Rs:=List Int×Option (List Int)×Nat
variable(f)
def Ends (s:S)(r:Rs):Prop:=∃n t sd,tr f n s=some (t,sd)/\f t=none/\r=(sd,none,n)
def vK (s:S)(r:Rs):Prop:=∃j i t sj sd,j<i/\tr f j s=some (t,sj)/\tr f i s=some (t,sj++sd)/\(∀a b x y u v,a<b->b<i->tr f a s=some (x,u)->tr f b s=some (y,v)->x≠y)/\r=(sj,some sd,j)
def aX (s:S)(r:Rs):Prop:=Ends f s r\/vK f s r
variable{f}
def ou {s:S}{r q:Rs}(h:Ends f s r)(h':vK f s q):False:=by
 obtain⟨n,t,sd,h1,h2,_⟩:=h
 obtain⟨j,i,u,sj,se,hj,g1,g2,_,_⟩:=h'
 obtain⟨z,hz⟩:=tV hj g1 g2 (n+1)
 rw[cS h1 h2]at hz
 cases hz
def gQ {s:S}{n m:Nat}{t u:S}{a b:List Int}(h1:tr f n s=some (t,a))(h2:f t=none)(h3:tr f m s=some (u,b)):m<=n:=by
 by_cases h:m<=n
 . show h
 . obtain⟨y,hy,_⟩:=kK h3 (show n+1<=m by lia)
   rw[cS h1 h2]at hy
   cases hy
def aX.uniq {s:S}{r q:Rs}(h:aX f s r)(h':aX f s q):r=q:=by
 rcases h with h|h
 . rcases h' with h'|h'
   . obtain⟨n,t,sd,h1,h2,rfl⟩:=h
     obtain⟨m,u,se,g1,g2,rfl⟩:=h'
     have e1:=gQ h1 h2 g1
     have e2:=gQ g1 g2 h1
     obtain rfl:m=n:=by lia
     rw[h1]at g1
     cases g1
     rfl
   . show(ou h h').elim
 . rcases h' with h'|h'
   . show(ou h' h).elim
   . obtain⟨j,i,t,sj,sd,hj,a1,a2,ad,rfl⟩:=h
     obtain⟨j',i',t',Wz,sd',L8,b1,b2,bd,rfl⟩:=h'
     have e:i=i':=by
       by_cases z:i<i'
       . show az rfl (bd j i t t _ _ hj z a1 a2)
       . by_cases z':i'<i
         . show az rfl (ad j' i' t' t' _ _ L8 z' b1 b2)
         . lia
     subst e
     rw[a2]at b2
     injection b2 with b2
     injection b2 with et es
     subst et
     have e:j=j':=by
       by_cases z:j<j'
       . show az rfl (ad j j' t t _ _ z L8 a1 b1)
       . by_cases z':j'<j
         . show az rfl (ad j' j t t _ _ z' hj b1 a1)
         . lia
     subst e
     rw[a1]at b1
     injection b1 with b1
     injection b1 with _ Qx
     subst Qx
     rw[abW es]
def vP:aj->List (List Int)
 | []=>[[]]
 | b::bs=>(YL b.2.toNat).flatMap fun x:Nat=>(vP bs).map fun ws=>(x:Int)::ws
theorem qy {α β:Type}(g:α->List β)(c:Nat)(h:∀a,(g a).length=c):∀l:List α,(l.flatMap g).length=l.length*c
 | []=>by simp
 | a::l=>by
   rw[ZQ,Ym,qy g c h l,h,YS,ZO,aag]
def nJ:aj->Nat
 | []=>1
 | b::bs=>b.2.toNat*nJ bs
theorem nU:∀bs:aj,(vP bs).length=nJ bs
 | []=>rfl
 | b::bs=>by
   change((YL b.2.toNat).flatMap fun x:Nat=>(vP bs).map fun ws=>(x:Int)::ws).length=b.2.toNat*nJ bs
   rw[qy _ (nJ bs) (fun x=>by rw[Yk,nU bs]),YW]
def zG (bs:aj)(m:Nat):List (Int×List Int):=(YL m).flatMap fun x:Nat=>(vP bs).map fun ws=>((x:Int),ws)
def vO (bs:aj)(m:Nat):(zG bs m).length=m*nJ bs:=by
 unfold zG
 rw[qy _ (nJ bs) (fun x=>by rw[Yk,nU bs]),YW]
end
end TW
namespace L2
open PySem PySem.Spec PyProof.Rows
end L2
namespace L3
open PySem PySem.Spec PyProof.Rows L2
end L3
namespace L2
open PySem PySem.Spec PyProof.Rows SeqAt
end L2
namespace L3
open PySem PySem.Spec PyProof.Rows L2
def Cy {X:Cx}:SO X (binaryOp .Mult) KG:=⟨Fo⟩
end L3
namespace L2
open PySem PySem.Spec PyProof.Rows
def bC.ex {P:Program}{w:World}{H:Hp}{h:Heap}{a:Addr}{o:HO}(x:bC P w H h a o):∃ob,h.get? a=some ob:=by
 cases o with
 | lst xs=>obtain⟨_,_,_,_,e⟩:=x;show⟨_,e⟩
 | tup xs=>obtain⟨_,_,_,ob,e,_⟩:=x;show⟨ob,e⟩
 | dK kvs=>obtain⟨_,_,_,_,o,_,_,e,_⟩:=x;show⟨o,e⟩
 | dT kvs=>obtain⟨_,_,_,_,o,_,_,e,_⟩:=x;show⟨o,e⟩
 | set S n=>obtain⟨o,_,_,_,e,_⟩:=x;show⟨o,e⟩
 | ins C dx fs=>obtain⟨_,_,_,e,_⟩:=x;show⟨_,e⟩
 | own y=>obtain⟨ob,e⟩:=x;show⟨ob,e⟩
 | xd fs=>obtain⟨_,⟨ob,_,_,e,_⟩,_⟩:=x;show⟨ob,e⟩
 | rng lo hi=>obtain⟨_,_,_,e⟩:=x;show⟨_,e⟩
 | frz ob u=>obtain⟨e,_⟩:=x;show⟨ob,e⟩
 | tbl ps=>show⟨_,(show h.get? a=some _ from x)⟩
 | met f y=>show⟨_,(show h.get? a=some _ from x)⟩
 | ext φ=>obtain⟨_,⟨ob,e⟩,_⟩:=x;show⟨ob,e⟩
def nO (P:Program)(w:World)(base:Heap):rJ:=fun outer H s E e s'=>∃(ea:Addr) (cls a0:Value) (B:Heap) (H':Hp),e=.ref ea/\s'.os=s.os/\AllBare s'.gens/\Un (gU outer) [] H H' s.heap s'.heap/\eS P w H' s'.heap /\
 base.StaysIn B/\Heap.FlyingW B outer ea cls a0 s'.heap/\(∀b o,s.heap.get? b=some o->b∉gU outer->∃o',B.get? b=some o')/\(∀b u,H' b=some u->∃o,B.get? b=some o)/\s.heap.get? ea=none/\E cls none H'
section
variable{P:Program}{w:World}{K:Yl}{mg:Str->Option Value}{base:Heap}{N:List Str}{qual:Str}{scope:Scope}{f:Addr}{cd:Value}{A:Around}{outer:List Env}{s:Shared}{H:Hp}{E:XK}
def i6 {H1:Hp}{h B g:Heap}(ok:eS P w H1 h)(inB:∀b u,H1 b=some u->∃o,B.get? b=some o)(sb:B.StaysIn h)(sg:B.StaysIn g):eS P w H1 g:=fun a u e=>by
 show(ok a u e).pG (fun b o hb q=>?_) (fun z q=>q) (fun z z q=>q)
 have NQ:∃v,H1 b=some v:=by
   rcases hb with rfl|hb
   . show⟨u,e⟩
   . show⟨_,hb⟩
 obtain⟨v,hv⟩:=NQ
 obtain⟨o',lR⟩:=inB b v hv
 have:=sb b o' lR
 rw[q]at this
 cases this
 show sg b o lR
def qu {pins:List (Addr×Obj)}{σ:St}{H1:Hp}{s1:Shared}{h':Heap}{e:Addr}{cls:Value}{args:List Value}(I:Inv (fJ (nO P w base) P w K mg base N qual scope f cd A outer s H E) pins σ H1 s1)(hx:Heap.MadeExcOf s1.heap h' e cls args)(q:E cls none H1) :
   (fJ (nO P w base) P w K mg base N qual scope f cd A outer s H E).xe (.ref e) {s1 with heap:=h'}:=by
 have Eg:(fJ (nO P w base) P w K mg base N qual scope f cd A outer s H E).stack=envOfC qual scope s.heap.objs.size f cd::outer:=rfl
 have fr:s1.heap.FunFrames base (envOfC qual scope s.heap.objs.size f cd::outer):=I.stack
 have frf:=I.nF
 rw[Eg]at frf
 have hbase:∀b o,base.get? b=some o->s1.heap.get? b=some o:=I.bk
 have kO:Un (gU outer) [] H H1 s.heap s1.heap:=I.base
 have hex:∀b:Addr,b∉([]:List Addr):=fun b z=>nomatch z
 have hloc:∀b o,s.heap.get? b=some o->b∉gU outer->b∉gU (envOfC qual scope s.heap.objs.size f cd::outer):=fun b o hb hn hm=>by
   rcases List.mem_cons.mp (show b∈s.heap.objs.size::gU outer from hm)with z|z
   . show az (Ys hb) (by rw[z];show ZR _)
   . show hn z
 let B:=PySem.W.hideAll s1.heap (gU (envOfC qual scope s.heap.objs.size f cd::outer))
 have bget:∀b o,s1.heap.get? b=some o->b∉gU (envOfC qual scope s.heap.objs.size f cd::outer)->B.get? b=some o:=fun b o hb hn=>abZ _ hb hn
 have Qq:B.StaysIn s1.heap:=fun b o hb=>ab3 _ hb
 have ML:base.StaysIn B:=fun b o hb=>bget b o (hbase b o hb) fun hm=>by
   have:=(fr.mem hm).1
   rw[hb]at this
   cases this
 have TV:s1.heap.FunFrames B (envOfC qual scope s.heap.objs.size f cd::outer):=PySem.W.funFrames_hide fr fun env he a ha=>List.mem_filterMap.mpr ⟨env,he,ha⟩
 have vH:∀b u,H1 b=some u->∃o,B.get? b=some o:=fun b u hu=>by
   obtain⟨o,ho⟩:=(I.hok b u hu).ex
   show⟨o,bget b o ho fun hm=>?_⟩
   rw[frf b hm]at hu
   cases hu
 show wpAny_leaves_madeW (base:=B) (h:=s1.heap) (args:=args) I.ok.frames rfl Qq TV hx fun h2 t x1 x2 x3 x4=>?_
 show⟨e,cls,.ref t,B,H1,U,I.os,I.bare,⟨fun b o hb n hf y=>?_,fun b o hb n hf y=>?_,fun b o hb n y=>kO.free b o hb n (hex b),fun b o hb y=>?_,kO.tups,kO.frzs,kO.tbls⟩,i6 I.hok vH Qq x1.1,ML,x1,fun b o hb hf=>?_,vH,?_,q⟩
 . show x1.1 b o (bget b o (kO.keep b o hb n hf (hex b)) (hloc b o hb hf))
 . obtain⟨sl,e1⟩:=kO.slot b o hb n hf (hex b)
   obtain⟨_,o2,qm,hd2⟩:=fr.mem (show b∈gU (envOfC qual scope s.heap.objs.size f cd::outer)from Y1 _ hf)
   rw[e1]at qm
   cases qm
   obtain⟨BQ,e2⟩:=x4 b _ (hx.keeps b _ e1) hd2
   show⟨BQ,e2⟩
 . obtain⟨o1,e1⟩:=kO.there b o hb (hex b)
   by_cases hm:b∈gU (envOfC qual scope s.heap.objs.size f cd::outer)
   . obtain⟨_,o2,qm,hd2⟩:=fr.mem hm
     obtain⟨BQ,e2⟩:=x4 b _ (hx.keeps b _ qm) hd2
     show⟨_,e2⟩
   . show⟨o1,x1.1 b o1 (bget b o1 e1 hm)⟩
 . obtain⟨o1,e1⟩:=kO.there b o hb (hex b)
   show⟨o1,bget b o1 e1 (hloc b o hb hf)⟩
 . cases z:s.heap.get? e with
   | none=>rfl
   | some o=>
     obtain⟨o1,e1⟩:=kO.there e o z (hex e)
     rw[hx.new]at e1
     cases e1
def Ki {E':XK}(hE:∀c d H2,E' c d H2->E c d H2):Passes (nO P w base) (fJ (nO P w base) P w K mg base N qual scope f cd A outer s H E) E':=by
 intro pins σ H1 s1 e s2 I cx
 obtain⟨ea,cls,a0,B,H2,rfl,Pg,vQ,zc,Eb,ML,zk,inB,vH,RF,q⟩:=cx
 have kO:Un (gU outer) [] H H1 s.heap s1.heap:=I.base
 have hex:∀b:Addr,b∉([]:List Addr):=fun b z=>nomatch z
 have Eg:(fJ (nO P w base) P w K mg base N qual scope f cd A outer s H E).stack=envOfC qual scope s.heap.objs.size f cd::outer:=rfl
 rw[Eg]at zk zc inB
 have hloc:∀b o,s.heap.get? b=some o->b∉gU outer->b∉gU (envOfC qual scope s.heap.objs.size f cd::outer):=fun b o hb hn hm=>by
   rcases List.mem_cons.mp (show b∈s.heap.objs.size::gU outer from hm)with z|z
   . show az (Ys hb) (by rw[z];show ZR _)
   . show hn z
 have LM:=zk.2.2.1
 have R8:=zk.1
 show wpAny_leaves_onW I.ok.frames rfl zk fun h3 x1 x2=>?_
 have Jw:∀b o,s.heap.get? b=some o->b∉gU outer->∃o',B.get? b=some o':=fun b o hb hf=>by
   obtain⟨o1,e1⟩:=kO.there b o hb (hex b)
   show inB b o1 e1 (hloc b o hb hf)
 show⟨ea,cls,a0,B,H2,U,Pg.trans I.os,vQ,⟨fun b o hb n hf y=>?_,fun b o hb n hf y=>?_,fun b o hb n y=>?_,fun b o hb y=>?_,fun b xs h=>zc.tups b xs (kO.tups b xs h),fun b o u h=>zc.frzs b o u (kO.frzs b o u h),fun b ps h=>?_⟩,i6 Eb vH R8 x1.1,ML,x1,Jw,vH,?_,hE _ _ _ q⟩
 . have e1:=kO.keep b o hb n hf (hex b)
   have n1:=kO.free b o hb n (hex b)
   have e2:=zc.keep b o e1 n1 (hloc b o hb hf) (hex b)
   obtain⟨o',lR⟩:=Jw b o hb hf
   have e3:=R8 b o' lR
   rw[e2]at e3
   cases e3
   show x1.1 b o lR
 . obtain⟨sl,e1⟩:=kO.slot b o hb n hf (hex b)
   have n1:=kO.free b o hb n (hex b)
   obtain⟨BQ,e2⟩:=zc.any e1 n1 (hex b)
   obtain⟨_,o2,qm,hd2⟩:=LM.mem (show b∈gU (envOfC qual scope s.heap.objs.size f cd::outer)from Y1 _ hf)
   rw[e2]at qm
   cases qm
   obtain⟨Sh,e3⟩:=x2 b _ e2 hd2
   show⟨Sh,e3⟩
 . obtain⟨o1,e1⟩:=kO.there b o hb (hex b)
   show zc.free b o1 e1 (kO.free b o hb n (hex b)) (hex b)
 . obtain⟨o1,e1⟩:=kO.there b o hb (hex b)
   obtain⟨o2,e2⟩:=zc.there b o1 e1 (hex b)
   by_cases hm:b∈gU (envOfC qual scope s.heap.objs.size f cd::outer)
   . obtain⟨_,o3,UX,Uz⟩:=LM.mem hm
     obtain⟨Sh,e3⟩:=x2 b _ UX Uz
     show⟨_,e3⟩
   . obtain⟨o',lR⟩:=inB b o1 e1 hm
     show⟨o',x1.1 b o' lR⟩
 . obtain⟨m1,e1⟩:=kO.tbls b ps h
   obtain⟨m2,e2⟩:=zc.tbls b _ e1
   show⟨m1++m2,by rw[e2,Array.append_assoc]⟩
 . cases z:s.heap.get? ea with
   | none=>rfl
   | some o=>
     obtain⟨o1,e1⟩:=kO.there ea o z (hex ea)
     rw[RF]at e1
     cases e1
end
abbrev vE:List Value:=[.type "ValueError",.type "Exception",.type "BaseException",.type "object"]
def mL (K:Yl)(C:Addr):Option (List Value):=match K.lookup C with
 | some ⟨_,_,.cls cd,_⟩=>some cd.mro
 | _=>none
structure Xc (K:Yl)(mg:Str->Option Value)(x:Str)(C:Addr)(tl:List Value):Prop where
 m:mg x=some (.ref C)
 ex:abE K C vE "ValueError.__new__"=true
 mro:mL K C=some (.ref C::tl)
def Xc.obj {K:Yl}{mg:Str->Option Value}{x:Str}{C:Addr}{tl:List Value}{h:Heap}(c:Xc K mg x C tl)(hk:K.In h) :
   ∃N nm q bs hdct sn sub ab col dd k0 k1 k2 k3 k5 mN,h.get? C=some (excClassObj nm q C N bs tl hdct sn sub ab col dd k0 k1 k2 k3 k5 "ValueError.__new__")/\h.Ns N mN/\mN "__init__"=none/\OwnTail h vE tl:=by
 have q:=c.ex
 have m:=c.mro
 unfold abE at q
 unfold mL at m
 split at q
 . rename_i od cd sl look
   rw[look]at m
   split at q
   . rename_i C' bm k0 k1 k2 k3 n k5 hm hs
     simp only[Zp,beq_iff_eq,Bool.not_eq_true']at q
     obtain⟨⟨⟨⟨⟨z1,z2⟩,Ja⟩,ht⟩,hok⟩,D9⟩:=q
     subst z1 z2
     have m2:cd.mro=.ref C'::tl:=by injection m
     rw[hm]at m2
     have e1:bm=tl:=by injection m2
     subst e1
     obtain⟨nm,bs,mro,ns,qn,hd,sn,sub,ab,col,del⟩:=cd
     dsimp only at hm Ja hok D9
     subst hm Ja
     have Aj:sl=#[k0,k1,k2,k3,some (.builtin "ValueError.__new__"),k5]:=by
       obtain⟨l⟩:=sl
       simp only at hs
       rw[hs]
     subst Aj
     show⟨ns,nm,qn,bs,hd,sn,sub,ab,col,od,k0,k1,k2,k3,k5,_,hk _ _ look,.of_isNs (PySem.W.isNs_of_in hk hok),PySem.W.nsMap_none_of_in hk hok D9,PySem.W.tail_of_in hk ht⟩
   . cases q
 . cases q
section
variable{X:Cx}{a:Expr}{ps:List Expr}{n:Nat}{t:TF}{te:TE}{pos:Pos}
def y4 (Ex:XK)(C:Addr)(ta:TA):TS:=fun z σ H=>ta σ H fun vs H1=>∃v,vs=[v]/\Ex (.ref C) none H1
def jO (X:Cx)(Ex:XK):Prop:=∀{pins:List (Addr×Obj)} {σ:St} {H:Hp} {s:Shared} {h':Heap} {e:Addr} {cls:Value} {args:List Value},Inv X pins σ H s->Heap.MadeExcOf s.heap h' e cls args->Ex cls none H->X.xe (.ref e) {s with heap:=h'}
def xY {x:Str}{C:Addr}{tl:List Value}{Ex:XK}{ta:TA}{np cpos:Pos}(hx:jO X Ex)(c:Xc X.K X.mg x C tl)(hb:tl.contains (.type "BaseException")=true)(hg:Gl X x)(hc:X.calm=true)(ha:pS X [a] ta)(hd:(x==("__debug__":Str))=false:=by left) :
   PS X (.Raise (some (.Call (.Name x np) [a] [] cpos)) none pos) (y4 Ex C ta):=by
 intro pins s σ H D I h
 obtain⟨N,nm,q,bs,hdct,sn,sub,ab,col,dd,k0,k1,k2,k3,k5,mN,hC,hN,D9,T⟩:=c.obj I.ok.mod.kin
 show wpAny_Raise_call_subT (C:=C) (nm:=nm) (q:=q) (N:=N) (bs:=bs) (bm:=tl) (hdct:=hdct) (sn:=sn) (sub:=sub) (ab:=ab) (col:=col) (dd:=dd) (k0:=k0) (k1:=k1) (k2:=k2) (k3:=k3) (k5:=k5) PySem.F.excBase_ValueError (mN:=mN) hb (I.ok.hd hc)
   (by rw[(ha.ns a [] rfl).1.h [] X.env];show(ha.ns a [] rfl).2 cpos X.env) D9 (ie I hg c.m ⟨rfl,?_⟩ hd)
 have he:=(ha.ns a [] rfl).1.h [] X.env
 have h2:=ha.pa cpos pins s σ H _ I h
 rw[he]at h2 ⊢
 show aak (bq h2 fun us s2 g9=>?_)
 obtain⟨vs,H1,I1,r,v,ev,q1⟩:=g9
 show⟨U,?_,I1.bk _ _ hC,hN.keeps I1.bk,T.keeps I1.bk,fun h' e hm=>hx I1 hm q1⟩
 have h1:=r.length
 rw[ev]at h1
 change us.length<=sizeLine
 rw[← h1]
 show(by left:1<=sizeLine)
end
end L2
namespace L2
open PySem PySem.Spec PyProof.Rows PySem.W PySem.Builtin PySem.Builtin.ObjectAttr PySem.Builtin.Getset_descriptor
section
variable{prog:Program}{w:World}{A:Around}{E:Value->Shared->Prop}{s:Shared}{K:Frag}{x C:Addr}{ox:Obj}
structure Qm (K:Frag)(C:Addr):Prop where
 ga:findIn K (.ref C) "__getattribute__"=some (some (.builtin "BaseException.__getattribute__"))
 gn:findIn K (.ref C) "__getattr__"=some none
 ha:findIn K (.ref C) "__class__"=some (some (.builtin "object.__class__"))
 hn:specialIn K (.builtin "object.__class__") "__get__"=some (some (.builtin "getset_descriptor.__get__"))
 htk:takesIn K (.builtin "object.__class__")=some true
 hm:mroIn K C (.type "object")=some true
 hb:mroIn K C (.type "BaseException")=some true
 hc:(clsIn K C).isSome=true
end
def zd {fs:List Addr}{H1 H2:Hp}{h1 h2 h3 B:Heap}(u:Un fs [] H1 H2 h1 h2)(s2:B.StaysIn h2)(s3:B.StaysIn h3)(inB:∀b o,h1.get? b=some o->b∉fs->∃o',B.get? b=some o')
   (sl:∀b o,b∈fs->h2.get? b=some o->∃x,h3.get? b=some {o with slots:=x}):Un fs [] H1 H2 h1 h3:=by
 have hex:∀b:Addr,b∉([]:List Addr):=fun b z=>nomatch z
 show⟨fun b o hb n hf w=>?_,fun b o hb n hf w=>?_,fun b o hb n w=>u.free b o hb n (hex b),fun b o hb w=>?_,u.tups,u.frzs,u.tbls⟩
 . have e2:=u.keep b o hb n hf (hex b)
   obtain⟨o',lR⟩:=inB b o hb hf
   have e3:=s2 b o' lR
   rw[e2]at e3
   cases e3
   show s3 b o lR
 . obtain⟨x,e2⟩:=u.slot b o hb n hf (hex b)
   obtain⟨y,e3⟩:=sl b _ hf e2
   show⟨y,e3⟩
 . by_cases hm:b∈fs
   . obtain⟨o2,e2⟩:=u.there b o hb (hex b)
     obtain⟨y,e3⟩:=sl b _ hm e2
     show⟨_,e3⟩
   . obtain⟨o',lR⟩:=inB b o hb hm
     show⟨o',s3 b o' lR⟩
def yJ {h2 h3 B:Heap}{l:List Env}(fr:h2.FunFrames B l)(x:h2.UpToSlots h3):∀b o,b∈gU l->h2.get? b=some o->∃y,h3.get? b=some {o with slots:=y}:=fun b o hm ho=>by
 obtain⟨_,o2,qm,hd2⟩:=fr.mem hm
 rw[ho]at qm
 cases qm
 show x b o ho hd2
section
variable{M:Model}{A:Around}{E:Value->Shared->Prop}{s:Shared}{nm q:Str}{C N:Addr}{bs bm:List Value}{hdct:Bool}{sn:List Str}{sub:List Value}{ab:Bool}{col:Option Bool}{dd:Option Addr}{k0 k1 k2 k3 k5:Option Value}{newId:String}
 {VT q':Str} {T N':Addr} {Ta M5:List Value} {I9:Bool} {WE:List Str} {P2:List Value} {S4:Bool} {M8:Option Bool} {lM:Option Addr} {j0 j1 j2 j3 j5:Option Value} {Ez:String}
def qB {h:Heap}{g:Array GenState}{d:Drawn}{t:Nat}{os:OsState}{e:Addr}{oe:Obj}{Q:Bool->Shared->Prop}(hC:h.get? C=some (excClassObj nm q C N bs bm hdct sn sub ab col dd k0 k1 k2 k3 k5 newId))(hT:h.get? T=some (excClassObj VT q' T N' Ta M5 I9 WE P2 S4 M8 lM j0 j1 j2 j3 j5 Ez))
   (he:h.get? e=some oe) (hcls:oe.cls=.ref C) (hup:(Y2 C::bm).contains (.ref T)=true) (hbase:M5.contains (.type "BaseException")=true) (hq:Q true ⟨h,g,d,t,os⟩):wpAny M A (excMatches (.ref e) (.ref T)) Q E ⟨h,g,d,t,os⟩:=by
 have Ux:(Y2 T::M5).contains (.type "BaseException")=true:=by rw[List.contains_cons,hbase,Bool.or_true]
 have f:=tc_notTuple
 unfold excMatches
 repeat (first|(with_reducible show wpAny_loadPart_at he ?_;rw[hcls])|with_reducible show wpAny_loadPart_at hT ?_|(with_reducible show wpAny_isSubtype_exc hT ?_;rw[Ux])|(with_reducible show wpAny_isSubtype_exc hC ?_;rw[hup])|wp_step)
 show hq
end
section
variable{X:Cx}{pins:List (Addr×Obj)}{σ:St}{H:Hp}{s:Shared}
def Inv.other {W:Value->Shared->Prop}{pn jh:List (Addr×Obj)}(I:Inv X pins σ H s)(h:∀p∈pn++jh,p∈X.pn++pins):Inv {X with xe:=W,pn:=pn} jh σ H s:=
 ⟨⟨I.ok.mod,I.ok.kind,I.ok.glob,I.ok.blt,I.ok.above,I.ok.inj,I.ok.has,I.ok.cab,I.ok.hd,I.ok.frames,I.ok.stk,I.ok.exf,I.ok.bs,I.ok.bsz,I.ok.noex,I.ok.exfs,I.ok.f7,I.ok.frf⟩,I.os,I.bare,I.base,I.loc,I.cell,I.free,I.freeC,fun p hp=>I.pin p (h p hp),I.hok,I.len⟩
def Inv.back {W:Value->Shared->Prop}{pn jh:List (Addr×Obj)}(I:Inv {X with xe:=W,pn:=pn} jh σ H s)(h:∀p∈X.pn++pins,p∈pn++jh):Inv X pins σ H s:=
 ⟨⟨I.ok.mod,I.ok.kind,I.ok.glob,I.ok.blt,I.ok.above,I.ok.inj,I.ok.has,I.ok.cab,I.ok.hd,I.ok.frames,I.ok.stk,I.ok.exf,I.ok.bs,I.ok.bsz,I.ok.noex,I.ok.exfs,I.ok.f7,I.ok.frf⟩,I.os,I.bare,I.base,I.loc,I.cell,I.free,I.freeC,fun p hp=>I.pin p (h p hp),I.hok,I.len⟩
def Inv.mark {e:Option Value}(I:Inv X pins σ H s):Inv {X with A:=X.A.mark e,calm:=false,xe:=fun y y=>False} pins σ H s:=
 ⟨⟨I.ok.mod,I.ok.kind,I.ok.glob,I.ok.blt,I.ok.above,I.ok.inj,I.ok.has,I.ok.cab,(fun z=>nomatch z),I.ok.frames,I.ok.stk,I.ok.exf,I.ok.bs,I.ok.bsz,I.ok.noex,I.ok.exfs,I.ok.f7,I.ok.frf⟩,I.os,I.bare,I.base,I.loc,I.cell,I.free,I.freeC,I.pin,I.hok,I.len⟩
def Inv.unmark {e:Option Value}{σ':St}{H':Hp}{s':Shared}(I0:Inv X pins σ H s)(I:Inv {X with A:=X.A.mark e,calm:=false,xe:=fun z z=>False} pins σ' H' s'):Inv X pins σ' H' s':=
 ⟨I0.ok,I.os,I.bare,I.base,I.loc,I.cell,I.free,I.freeC,I.pin,I.hok,I.len⟩
end
section
variable{P:Program}{w:World}{K:Yl}{mg:Str->Option Value}{base:Heap}
def b9.RM {x qual:Str}{st:Stmt}{f:Addr}{fd:Yx}{N ps:List Str}{k:Nat}{sp:Sp}(F:b9 K x qual st f fd)(S:aC N ps (aq st))(len:∀vs H Q E,sp vs H Q E->vs.length=ps.length)
   (hbody:∀(cdv:Value) (A:Around) (outer:List Env) (s:Shared) (H:Hp) (vs:List V) (Q:VK) (E:XK),cI k (A.deeper (envOfC qual (aq st) s.heap.objs.size f cdv))->sp vs H Q E ->
     ∃t,kS (fJ (nO P w base) P w K mg base N qual (aq st) f cdv A outer s H E) (bV st) t/\t {nx:=fun z H'=>Q .bJ H',rt:=Q} (start N vs) H):aO P w K mg base (nO P w base) (k+1) f fd ps sp:=by
 obtain⟨oc,od,kV,doc,pm,an,cdv,ct,osl,rfl,lk,hcd⟩:=F.ex
 show wk lk hcd S len fun A outer s H vs Q E hr hsp=>hbody cdv A outer s H vs Q E hr hsp
def nh {N:List Str}{qual:Str}{scope:Scope}{f:Addr}{cd:Value}{A:Around}{outer:List Env}{s:Shared}{H:Hp}{E:XK}:jO (fJ (nO P w base) P w K mg base N qual scope f cd A outer s H E) E:=fun I hm q=>qu I hm q
def Kj {N:List Str}{qual:Str}{scope:Scope}{f:Addr}{cd:Value}{A:Around}{outer:List Env}{s:Shared}{H:Hp}{E:XK}:Passes (nO P w base) (fJ (nO P w base) P w K mg base N qual scope f cd A outer s H E) E:=Ki fun z z z h=>h
end
end L2
namespace TW
open PySem L2
def pY (P:Program)(w:World)(K:Yl)(mg:Str->Option Value)(base:Heap)(x:Str)(ps:List Str)(k:Nat)(sp:Sp):Prop:=
 ∃f fd,aO P w K mg base (nO P w base) k f fd ps sp/\Zq K (.ref f)=true/\Binds K fd ps []/\mg x=some (.ref f)
end TW
namespace L3
open PySem PySem.Spec PyProof.Rows L2
section
variable{X:Cx}{a b c e o:Expr}{es:List Expr}{ta tb tc te:TE}{t:TA}{tf:TF}{pos:Pos}{n:Nat}
def qS {x:Str}{C:Addr}{tl:List Value}{Ex:XK}{np cpos:Pos}(hx:jO X Ex)(cc:Xc X.K X.mg x C tl)(hb:tl.contains (.type "BaseException")=true)(hg:Gl X x)(ha:SA X [a] t)(hc:X.calm=true:=by rfl)(hd:(x==("__debug__":Str))=false:=by left) :
   SS X (.Raise (some (.Call (.Name x np) [a] [] cpos)) none pos) (y4 Ex C t):=⟨xY hx cc hb hg hc ha.h hd⟩
def Pl {x:Str}{p:Pos}{ps:List Str}{kk:Nat}{sp:Sp}{Ex:XK}(hp:Passes (nO X.prog X.w X.base) X Ex)(D:TW.pY X.prog X.w X.K X.mg X.base x ps kk sp)(hr:cI kk X.A)(hg:Gl X x)(ha:SA X (e::es) t)(hdb:(x==("__debug__":Str))=false:=by left) :
   SE X (.Call (.Name x p) (e::es) [] pos) (kJ sp [] Ex t):=by
 obtain⟨_,_,G,kp,b,m⟩:=D
 show⟨m8 G hr hg m kp b .nil hp ha.h.pa hdb ((ha.h.ns e es rfl).1.h es X.env) ((ha.h.ns e es rfl).2 pos X.env)⟩
end
end L3
namespace L2
open PySem PySem.Spec PyProof.Rows
end L2
namespace L3
open PySem PySem.Spec PyProof.Rows L2
end L3
namespace L2
open PySem PySem.Spec PyProof.Rows
section
variable{X:Cx}{a:Expr}{ta:TA}{p1 p2 pos cm:Pos}
def sU:V->List V->Hp->VK->Prop:=fun x vs H Q=>∃l xs y i,x=.ref l/\vs=[.int i,y]/\H l=some (.lst xs)/\0<=i/\i<=(xs.length:Int)/\xs.length<1000/\Q .bJ (upd H l (.lst (xs.take i.toNat++y::xs.drop i.toNat)))
def uM:LF X "list.insert" sU:=by
 intro pins s σ H x vs v us Q I rx rv h
 obtain⟨l,xs,y,i,rfl,rfl,hH,h0,hk,hz,q⟩:=h
 cases rx
 obtain⟨u1,u,rfl,⟨tk,rfl⟩,ru⟩:=Vals.two rv
 obtain⟨z,aM,n,r,hl,e⟩:=I.qz hH
 have hlen:=r.length
 have fits:¬(!ZG i)=true:=by
   have:ZG i=true:=by
     unfold ZG
     simp
     lia
   simp[this]
 have jv:aM.toArray.size<=sizeLine:=by rw[Yw];show YU (show _<=1000 by lia) (by left)
 show call_meets F.slot_list_insert ⟨_,e,U⟩ F.entry_list_insert (F.args_list_insert_3 _ _ _) (PySem.AutoSeq1.list_insert_list_int_val_1 l aM.toArray n i tk u fits jv) ⟨e,?_⟩
 show⟨.bJ,_,I.Et (its':=aM.take i.toNat++u::aM.drop i.toNat) hH e ?_ ((r.take i.toNat).append (.cons ru (r.drop i.toNat))) ?_,U,q⟩
 . have e1:(if i<0 then(i+(aM.toArray.size:Int)).toNat else min i.toNat aM.toArray.size)=i.toNat:=by
     rw[bg (by lia),Yw]
     lia
   dsimp only
   rw[e1]
   apply Array.ext'
   simp
   show YI (by rw[Zj];show Yo _)
 . rw[Ym,YS,Yu,Zj]
   show YU (show _<=1000 by lia) (by left)
end
end L2
namespace L3
open PySem PySem.Spec PyProof.Rows L2
section
variable{X:Cx}{a b c e o:Expr}{es:List Expr}{ta tb tc te:TE}{t:TA}{pos:Pos}
theorem insert {apos:Pos}{KK:Yl}{e1 e2:Expr}(ho:SE X o ta)(ha:SA X [e1,e2] t)(hn:bL e2:=by first|show km|show fE|show fD|show iY)(hbase:Zw o "insert" X.env (eval o X.env)=eval o X.env:=by rfl)(hline:(apos.endLine==pos.line)=true:=by rfl)(hK:X.K=KK:=by first|show bG|rfl) :
   SE X (.Call (.Attribute o "insert" apos) [e1,e2] [] pos) (Hn KK "list" sU ta t):=by
 subst hK
 show⟨CB aaE PySem.F.slot_list_insert PySem.F.type_list_insert uM ho.h ha.h.pa hbase (by rw[(ha.h.ns e1 [e2] rfl).1.h [e2] X.env,hn.h [] X.env];rfl) hline ((ha.h.ns e1 [e2] rfl).1.h [e2] X.env) ((ha.h.ns e1 [e2] rfl).2 pos X.env)⟩
end
end L3
namespace L2
open PySem PySem.Spec PyProof.Rows
section
variable{X:Cx}{e tg iter:Expr}{ifs:List Expr}{emit:Addr->Env->Sem Unit}{sc:Scope}{pos:Pos}{wi:TI}{N':List Str}{src:List (Option Nat)}{g:TG}{tifs:TT}{tm:Addr->TM}{newAcc:Sem Value}{ob:Obj}{accO:HO}{gs:List Comprehension}
end
def Inv.Lz {X:Cx}{pins:List (Addr×Obj)}{σ:St}{H:Hp}{s:Shared}(I:Inv X pins σ H s)(xe:Value->Shared->Prop):Inv {X with xe:=xe} pins σ H s where
 ok:=⟨I.ok.mod,I.ok.kind,I.ok.glob,I.ok.blt,I.ok.above,I.ok.inj,I.ok.has,I.ok.cab,I.ok.hd,I.ok.frames,I.ok.stk,I.ok.exf,I.ok.bs,I.ok.bsz,I.ok.noex,I.ok.exfs,I.ok.f7,I.ok.frf⟩
 os:=I.os
 bare:=I.bare
 base:=I.base
 loc:=I.loc
 cell:=I.cell
 free:=I.free
 freeC:=I.freeC
 pin:=I.pin
 hok:=I.hok
 len:=I.len
def pF {P:Program}{w:World}{A:Around}{R:Result->Shared->Prop}{s:Shared}{elt tg iter jK bH:Expr}{ifs dS:List Expr}{sc:Scope}{pos:Pos}{it acc:Value}{env:Env}
   (h0:codeAny (model P w) A (.compLoop (.ListComp elt [⟨tg,iter,ifs,0⟩,⟨jK,bH,dS,0⟩] sc pos) 1 it acc env) R s)
   (h:wpAny (model P w) A (pyIter it) (fun Jz s'=>codeAny (model P w) A (.compLoop (.ListComp elt [⟨tg,iter,ifs,0⟩,⟨jK,bH,dS,0⟩] sc pos) 1 Jz acc env) R s') (notedBy (model P w) A env fun x s'=>R (.error x) s') s) :
   codeAny (model P w) A (.compStart (.ListComp elt [⟨tg,iter,ifs,0⟩,⟨jK,bH,dS,0⟩] sc pos) 1 it acc env) R s:=by
 show codeAny_of_tree ?_
 change wpAny _ _ ((compStart (.ListComp elt [⟨tg,iter,ifs,0⟩,⟨jK,bH,dS,0⟩] sc pos) 1 it acc env).onRaise (fun x=>do noteFrame x env;standAt theWindowsPlace)) _ _ s
 show wpAny_notedAt ?_
 unfold compStart
 change wpAny _ _ (ask>>=_) _ _ s
 show wpAny_bind (wpAny_askSetting (wpAny_ite ?_))
 split
 . first
     | show wpAny_bind (wpAny_pure (wpAny_pure (ace rfl h0)))
     | show wpAny_pure (ace rfl h0)
 . first
     | show wpAny_bind (wpAny_rule (wpAny_bind (wpAny_standAt (wpAny_bind (wpAny_mono h (fun Jz s' h'=>wpAny_pure (ace rfl h')) fun z z x=>x)))))
     | (show wpAny_bind (wpAny_rule ?_);change wpAny _ _ (standAt bH.pos>>=_) _ _ s;show wpAny_bind (wpAny_standAt (wpAny_bind (wpAny_mono h (fun Jz s' h'=>wpAny_pure (ace rfl h')) fun z z x=>x))))
def rX (e bH:Expr)(D:Addr)(env:Env):Sem Unit:=do
 let x←eval bH env
 standAt bH.pos
 let x←YK bH env x
 let _←runOwn (.compStart e 1 (← holding [x] (pyIter x)) (.ref D) env) env
def sF (wi2:TI)(g2:TG)(tifs2:TT)(tm:TM):TM:=fun σ H Q=>wi2 σ H fun J H1=>fT J σ g2 tifs2 tm Q H1
def Kt {X:Cx}{elt tg iter jK bH:Expr}{ifs dS:List Expr}{sc:Scope}{pos:Pos}{wi2:TI}{g2:TG}{tifs2:TT}{te:TE}(hc:X.calm=true)(hi:PI X jK bH wi2)
   (hin:∀xe,PG {X with xe:=xe} jK g2/\iP {X with xe:=xe} dS tifs2/\PE {X with xe:=xe} elt te) (hs:∀x,YK bH X.env x=pure x) (D:Addr) :
   Dl X (rX (.ListComp elt [⟨tg,iter,ifs,0⟩,⟨jK,bH,dS,0⟩] sc pos) bH D X.env) (sF wi2 g2 tifs2 (cf te D)):=by
 intro pins s σ H Q I q
 unfold rX
 show wpAny_bind (bq (hi pins s σ H _ I q) fun v s1 h1=>?_)
 show wpAny_bind (wpAny_standAt (wpAny_bind (wpAny_of_eq (hs v) (wpAny_bind (wpAny_holding (bq h1 fun itv s2 h2=>?_))))))
 obtain⟨it,fp,tn,J,H2,e1,I2,T,Gn,f2,q2⟩:=h2
 subst e1
 let R:Result->Shared->Prop:=fun r s'=>match r with
   | .ok f=>wpAny (model X.prog X.w) X.A (pure ():Sem Unit) (fun y s'=>∃H',Inv X pins σ H' s'/\Q H') X.xe s'
   | .error e=>cameBackBy (model X.prog X.w) X.A X.env X.xe e s'
 let X2:Cx:={X with xe:=notedBy (model X.prog X.w) X.A X.env fun e s'=>R (.error e) s'}
 have loop:codeAny (model X.prog X.w) X.A (.compLoop (.ListComp elt [⟨tg,iter,ifs,0⟩,⟨jK,bH,dS,0⟩] sc pos) 1 (.ref it) (.ref D) X.env) R s2:=by
   obtain⟨hg,hif,he⟩:=hin (notedBy (model X.prog X.w) X.A X.env fun e s'=>R (.error e) s')
   show lL (X:=X2) (R:=R) (Z:=Q) (cont:=do let _←call (.builtin "list.append") [.ref D,← eval elt X.env]) (tg:=jK) (ipos:=bH.pos) (ifs:=dS) rfl rfl rfl rfl rfl hc T hg hif (qO (X:=X2) he D) f2 (I2.Lz _) Gn (fun H' s' I' y z=>wpAny_pure ⟨H',I'.Lz X.xe,z⟩) q2
 show wpAny_bind (wpAny_runOwn (env:=X.env) ?_)
 show codeAny_mono (pF (R:=R) loop (T.self X.A 0 _ _ _ Gn loop)) fun r s' hr=>by
   cases r with
   | ok f=>show hr
   | error e=>show hr
def vV {P:Program}{w:World}{A:Around}{elt tg iter jK bH:Expr}{ifs dS:List Expr}{sc:Scope}{pos:Pos} :
   dX P w A (.ListComp elt [⟨tg,iter,ifs,0⟩,⟨jK,bH,dS,0⟩] sc pos) tg iter ifs [⟨jK,bH,dS,0⟩] (rX (.ListComp elt [⟨tg,iter,ifs,0⟩,⟨jK,bH,dS,0⟩] sc pos) bH) where
 cl:=rfl
 turn:=fun it D env=>by
   unfold nH rX
   simp only[bind_assoc,pure_bind]
   rfl
 start:=fun R s it acc env h0 h=>codeAny_compStart_list h0 h
 quiet:=fun z z z=>rfl
 under:=fun z z z=>rfl
 frame:=fun z z z=>rfl
section
variable{X:Cx}{elt tg iter jK bH:Expr}{ifs dS:List Expr}{sc:Scope}{pos:Pos}{wi wi2:TI}{N':List Str}{src:List (Option Nat)}{g g2:TG}{tifs tifs2:TT}{te:TE}
def FQ {i:Nat}{x:Str}{pos' cm:Pos}(src:List (Option Nat))(N':List Str)(hc:X.calm=true)(S:aW sc X.env.scope)(hcap:b7 sc src N' X.N=true)(hi:PI X tg iter wi)
   (hb:∀s H C fp xe,PG (cv X N' sc s H C fp xe) tg g/\iP (cv X N' sc s H C fp xe) ifs tifs/\PI (cv X N' sc s H C fp xe) jK bH wi2/\PG (cv X N' sc s H C fp xe) jK g2/\iP (cv X N' sc s H C fp xe) dS tifs2/\PE (cv X N' sc s H C fp xe) elt te)
   (hN:X.N.Nodup) (hix:X.N[i]?=some x) (hx:Loc X.env.scope x) (hsw:ZJ (.ListComp elt [⟨tg,iter,ifs,0⟩,⟨jK,bH,dS,0⟩] sc pos) (some (.Name x pos')) cm.line X.env=pure true:=by rfl)
   (hs:∀x,YK iter X.env x=pure x:=by intro _;rfl) (hs2:∀env x,YK bH env x=pure x:=by intro _ _;rfl) (hf:X.fn x=true\/X.env.scope.names.lookup x=some .local:=by first|show .inl rfl|show .inr rfl|assumption) :
   PS X (.Assign [.Name x pos'] (.ListComp elt [⟨tg,iter,ifs,0⟩,⟨jK,bH,dS,0⟩] sc pos) cm) (lA (cM src (.lst []) wi g tifs (fun D=>sF wi2 g2 tifs2 (cf te D))) (dm i)):=
 ng vV hc S hcap hi (fun s H C fp xe D=>⟨(hb s H C fp xe).1,(hb s H C fp xe).2.1,Kt (X:=cv X N' sc s H C fp xe) hc (hb s H C fp xe).2.2.1 (fun W2=>(hb s H C fp W2).2.2.2) (hs2 _) D⟩) jP hs (fun z=>rfl) hN hix hx hsw hf
end
end L2
namespace L3
open PySem PySem.Spec PyProof.Rows L2
section
variable{X:Cx}{elt tg iter jK bH:Expr}{ifs dS:List Expr}{sc:Scope}{pos:Pos}{wi wi2:TI}{g g2:TG}{tifs tifs2:TT}{te:TE}
def PZ {i:Nat}{x:Str}{pos' cm:Pos}(src:List (Option Nat))(N':List Str)(S:aW sc X.env.scope)(hcap:b7 sc src N' X.N=true)(hi:SI X tg iter wi)
   (hb:∀s H C fp xe,SG (cv X N' sc s H C fp xe) tg g/\zE (cv X N' sc s H C fp xe) ifs tifs/\SI (cv X N' sc s H C fp xe) jK bH wi2/\SG (cv X N' sc s H C fp xe) jK g2/\zE (cv X N' sc s H C fp xe) dS tifs2/\SE (cv X N' sc s H C fp xe) elt te) (hN:X.N.Nodup) (hix:X.N[i]?=some x:=by rfl) (hx:Loc X.env.scope x:=by show Or.inl rfl)
   (hsw:ZJ (.ListComp elt [⟨tg,iter,ifs,0⟩,⟨jK,bH,dS,0⟩] sc pos) (some (.Name x pos')) cm.line X.env=pure true:=by rfl) (hc:X.calm=true:=by rfl)
   (hs:∀x,YK iter X.env x=pure x:=by intro _;rfl) (hs2:∀env x,YK bH env x=pure x:=by intro _ _;rfl) (hf:X.fn x=true\/X.env.scope.names.lookup x=some .local:=by first|show .inl rfl|show .inr rfl) :
   SS X (.Assign [.Name x pos'] (.ListComp elt [⟨tg,iter,ifs,0⟩,⟨jK,bH,dS,0⟩] sc pos) cm) (lA (cM src (.lst []) wi g tifs (fun D=>sF wi2 g2 tifs2 (cf te D))) (dm i)):=
 ⟨FQ src N' hc S hcap hi.h (fun s H C fp xe=>⟨(hb s H C fp xe).1.h,(hb s H C fp xe).2.1.h,(hb s H C fp xe).2.2.1.h,(hb s H C fp xe).2.2.2.1.h,(hb s H C fp xe).2.2.2.2.1.h,(hb s H C fp xe).2.2.2.2.2.h⟩) hN hix hx hsw hs hs2 hf⟩
end
end L3
namespace L2
open PySem PySem.Spec PyProof.Rows
end L2
namespace L3
open PySem PySem.Spec PyProof.Rows L2
end L3
namespace TW
section
variable{S S':Type}{f:S->Option (List Int×S)}{f':S'->Option (List Int×S')}{φ:S->S'}{Ok:S->Prop}
theorem pK (hok:∀s x t,Ok s->f s=some (x,t)->Ok t){s:S}(h0:Ok s):∀{n:Nat} {z:S×List Int},tr f n s=some z->Ok z.1
 | 0,z,h=>by cases h;show h0
 | n+1,z,h=>by
   cases e:tr f n s with
   | none=>rw[dQ e]at h;cases h
   | some y=>
     have o:=pK hok h0 e
     cases e2:f y.1 with
     | none=>rw[cS (t:=y.1) (sd:=y.2) e e2]at h;cases h
     | some r=>
       rw[cp (t:=y.1) (u:=r.2) (x:=r.1) (sd:=y.2) e e2]at h
       cases h
       show hok _ _ _ o e2
theorem y9 (hok:∀s x t,Ok s->f s=some (x,t)->Ok t)(hf:∀s,Ok s->f' (φ s)=(f s).map fun r=>(r.1,φ r.2)){s:S}(h0:Ok s):∀n,tr f' n (φ s)=(tr f n s).map fun z=>(φ z.1,z.2)
 | 0=>rfl
 | n+1=>by
   have ih:=y9 hok hf h0 n
   cases e:tr f n s with
   | none=>rw[e]at ih;rw[dQ e,dQ ih];rfl
   | some y=>
     rw[e]at ih
     have o:=pK hok h0 e
     have h1:=hf y.1 o
     cases e2:f y.1 with
     | none=>rw[e2]at h1;rw[cS (t:=y.1) (sd:=y.2) e e2,cS (t:=φ y.1) (sd:=y.2) ih h1];rfl
     | some r=>rw[e2]at h1;rw[cp (t:=y.1) (u:=r.2) (x:=r.1) (sd:=y.2) e e2,cp (t:=φ y.1) (u:=φ r.2) (x:=r.1) (sd:=y.2) ih h1];rfl
def aX.map (hok:∀s x t,Ok s->f s=some (x,t)->Ok t)(hf:∀s,Ok s->f' (φ s)=(f s).map fun r=>(r.1,φ r.2))(inj:∀a b,Ok a->Ok b->φ a=φ b->a=b){s:S}{r:Rs}(h0:Ok s)(h:aX f s r):aX f' (φ s) r:=by
 have tm:=y9 hok hf h0
 rcases h with⟨n,t,sd,h1,h2,rfl⟩|⟨j,i,t,sj,sd,hj,h1,h2,hd,rfl⟩
 . show .inl ⟨n,φ t,sd,by rw[tm,h1];rfl,?_,U⟩
   rw[hf t (pK hok h0 h1),h2]
   rfl
 . show .inr ⟨j,i,φ t,sj,sd,hj,by rw[tm,h1];rfl,by rw[tm,h2];rfl,fun a b x y u v GW rY ha hb e=>?_,U⟩
   rw[tm]at ha hb
   obtain⟨z,hz,ez⟩:=Option.map_eq_some_iff.mp ha
   obtain⟨q,hq,eq⟩:=Option.map_eq_some_iff.mp hb
   injection ez with e1 _
   injection eq with e2 _
   rw[← e1,← e2]at e
   show hd a b z.1 q.1 z.2 q.2 GW rY hz hq (inj _ _ (pK hok h0 hz) (pK hok h0 hq) e)
end
end TW
namespace L3
open PySem PySem.Spec PyProof.Rows L2
section
variable{X:Cx}{a b o i value:Expr}{ta tb td ty tv:TE}{pos:Pos}
def EF {KK:Yl}(hK:X.K=KK:=by first|show bG|rfl):SO X (binaryOp .Add) (x9 KK):=by
 subst hK
 show⟨A1⟩
end
end L3
namespace L2
open PySem PySem.Spec PyProof.Rows
end L2
namespace L3
open PySem PySem.Spec PyProof.Rows L2
end L3
namespace L2
open PySem PySem.Spec PyProof.Rows
end L2
namespace L3
open PySem PySem.Spec PyProof.Rows L2
end L3
namespace PySem
open Sem (wp)
abbrev fV (h:Heap)(z TI TO:Addr)(v:Value)(f:Bool):Prop:=
 h.get? z=some {cls:=.type "zip",dict:=none,data:=.fields #[v,.bool f,.bool false,.ref TI,.ref TO],slots:=#[]}
section
variable{prog:Program}{w:World}{A:Around}{E:Value->Shared->Prop}{s:Shared}
def rG {a:Addr}{Q:Option Obj->Shared->Prop}(h:s.heap.get? a=none)(k:Q none s):wpAny (model prog w) A (loadIfAlive a) Q E s:=fun Γ p hΓ=>by
 change Sem.wp _ _ (Sem.loadIfAlive a .pure) _ _ _ _
 rw[Sem.wp_loadIfAlive,h]
 show(wpAny_pure k:wpAny (model prog w) A (Sem.pure none) Q E s) Γ p hΓ
def kL {z TI TO T:Addr}{f:Bool}(hz:fV s.heap z TI TO (rawInt T) f)(hT:s.heap.get? T=none){Q:Bool->Shared->Prop}{E:Value->Shared->Prop}(k:Q true s):wpAny (model prog w) A (YB (.ref z)) Q E s:=by
 unfold YB
 show wpAny_bind (wpAny_field hz rfl (x:=rawInt T) rfl ?_)
 change wpAny _ _ (loadIfAlive (T:Int).toNat>>=_) _ _ _
 rw[Y6]
 show wpAny_bind (rG hT ?_)
 show wpAny_pure k
def rH {z TI TO i1 i2 l1 l2:Addr}{v:Value}{f:Bool}{k1 k2:Nat}{xs ys:Array Value}{x y a b:Value}{Q:Value->Shared->Prop}(D:Z5 z TI TO i1 i2 l1 l2)(hz:fV s.heap z TI TO v f)
   (free:∀{Q:Bool->Shared->Prop} {E:Value->Shared->Prop},Q true s->wpAny (model prog w) A (YB (.ref z)) Q E s) (hTI:IsPair s.heap TI (.ref i1) (.ref i2)) (hTO:IsPair s.heap TO a b)
   (h1:s.heap.IsListIter i1 l1 k1) (h2:s.heap.IsListIter i2 l2 k2) (hl1:s.heap.IsList l1 xs) (hl2:s.heap.IsList l2 ys) (hx:xs[k1]?=some x) (hy:ys[k2]?=some y)
   (hQ:∀g,fV g z TI TO (rawInt s.heap.objs.size) false->IsPair g TO x y->g.IsListIter i1 l1 (k1+1)->g.IsListIter i2 l2 (k2+1)->IsPair g s.heap.objs.size x y->(∀c o,c≠z->c≠TO->c≠i1->c≠i2->s.heap.get? c=some o->g.get? c=some o)->Q (.ref s.heap.objs.size) {s with heap:=g}) :
   wpAny (model prog w) A (Builtin.«zip.__next__» ⟨[.ref z],[]⟩) (fun fin s'=>∃v,fin=.done (.ret v)/\Q v s') E s:=by
 change wpAny _ _ (field (.ref z) 2>>=_) _ _ _
 show wpAny_bind (wpAny_field hz rfl (x:=.bool false) rfl ?_)
 change wpAny _ _ (field (.ref z) 3>>=_) _ _ _
 show wpAny_bind (wpAny_field hz rfl (x:=.ref TI) rfl ?_)
 show wpAny_bind (wpAny_seqItems hTI rfl ?_)
 change wpAny _ _ (YB (.ref z)>>=_) _ _ _
 show wpAny_bind (free ?_)
 simp only[if_true]
 show wpAny_bind (wpAny_rule ?_)
 show wpAny_bind (wpAny_field hz rfl (x:=.ref TO) rfl ?_)
 show wpAny_bind (wpAny_setField_rec hz (by simp) fun g1 z1 e1=>?_)
 have MP:fV g1 z TI TO .ellipsis f:=z1
 show wpAny_bind ?_
 simp only[List.zipIdx_cons,List.zipIdx_nil,aaw,aa5]
 show wpAny_bind (wpAny_bind (wpAny_onRaise ?_))
 change wpAny _ _ (YT (.ref i1)>>=_) _ _ _
 show wpAny_bind (wpAny_nextOf_list_item (h1.extBut e1.extBut D.i1z) (hl1.extBut e1.extBut D.l1z) hx fun g2 n2 e2=>wpAny_pure ?_)
 have o2:IsPair g2 TO a b:=e2.extBut _ _ D.TOi1 (e1.extBut _ _ D.TOz hTO)
 show wpAny_bind (wpAny_seqItems o2 rfl (wpAny_bind (wpAny_updateSeq_pair o2 fun g3 o3 e3=>wpAny_bind (wpAny_letGo (wpAny_pure ?_)))))
 have V1:IsPair g3 TO x b:=o3
 show wpAny_bind (wpAny_bind (wpAny_onRaise ?_))
 change wpAny _ _ (YT (.ref i2)>>=_) _ _ _
 show wpAny_bind (wpAny_nextOf_list_item (((h2.extBut e1.extBut D.i2z).extBut e2.extBut D.i12.symm).extBut e3.extBut D.TOi2.symm) (((hl2.extBut e1.extBut D.l2z).extBut e2.extBut D.l2i1).extBut e3.extBut D.l2TO) hy fun g4 n4 e4=>wpAny_pure ?_)
 have o4:IsPair g4 TO x b:=e4.extBut _ _ D.TOi2 V1
 show wpAny_bind (wpAny_seqItems o4 rfl (wpAny_bind (wpAny_updateSeq_pair o4 fun g5 o5 e5=>wpAny_bind (wpAny_letGo (wpAny_pure (wpAny_pure ?_))))))
 have RL:IsPair g5 TO x y:=o5
 show wpAny_bind (wpAny_seqItems RL rfl (wpAny_bind (wpAny_newTuple ?_)))
 have sz:g5.objs.size=s.heap.objs.size:=by rw[e5.1,e4.1,e3.1,e2.1,e1.1]
 have z5:fV g5 z TI TO .ellipsis f:=e5.extBut _ _ D.TOz.symm (e4.extBut _ _ D.i2z.symm (e3.extBut _ _ D.TOz.symm (e2.extBut _ _ D.i1z.symm MP)))
 have keep:∀c o,c≠z->c≠TO->c≠i1->c≠i2->s.heap.get? c=some o->g5.get? c=some o:=fun c o c1 c2 c3 c4 q=>e5.extBut _ _ c2 (e4.extBut _ _ c4 (e3.extBut _ _ c2 (e2.extBut _ _ c3 (e1.extBut _ _ c1 q))))
 have Vu:g5.IsListIter i1 l1 (k1+1):=((n2.extBut e3.extBut D.TOi1.symm).extBut e4.extBut D.i12).extBut e5.extBut D.TOi1.symm
 have Vv:g5.IsListIter i2 l2 (k2+1):=n4.extBut e5.extBut D.TOi2.symm
 have SK:z<g5.objs.size:=Ys z5
 change wpAny _ _ (Zk (.ref z) (.ref g5.objs.size)>>=_) _ _ _
 show wpAny_bind ?_
 unfold Zk
 have z6:fV (g5.push {cls:=.type "tuple",data:=.seq #[x,y]}) z TI TO .ellipsis f:=Yr _ z5
 show wpAny_bind (wpAny_setField_rec z6 (by simp) fun g7 z7 e7=>?_)
 have W5:fV g7 z TI TO (rawInt g5.objs.size) f:=z7
 show wpAny_setField_rec W5 (by simp) fun g8 z8 e8=>?_
 have SJ:fV g8 z TI TO (rawInt g5.objs.size) false:=z8
 have up:∀c o,c≠z->g5.get? c=some o->g8.get? c=some o:=fun c o c1 q=>e8.extBut _ _ c1 (e7.extBut _ _ c1 (Yr _ q))
 have new:IsPair g8 g5.objs.size x y:=e8.extBut _ _ (Z3 SK) (e7.extBut _ _ (Z3 SK) (YG _ rfl))
 rw[sz]at SJ new
 show wpAny_pure ⟨_,U,?_⟩
 change Q (.ref g5.objs.size) _
 rw[sz]
 show hQ g8 SJ (up _ _ D.TOz RL) (Vu.at fun o q=>up _ o D.i1z q) (Vv.at fun o q=>up _ o D.i2z q) new fun c o c1 c2 c3 c4 q=>up c o c1 (keep c o c1 c2 c3 c4 q)
def vy {z TI TO i1 i2 l1 l2:Addr}{v:Value}{f:Bool}{k1 k2:Nat}{xs ys:Array Value}{a b:Value}{Q:Fin->Shared->Prop}(hh:A.handled=none)(D:Z5 z TI TO i1 i2 l1 l2)(hz:fV s.heap z TI TO v f)
   (free:∀{Q:Bool->Shared->Prop} {E:Value->Shared->Prop},Q true s->wpAny (model prog w) A (YB (.ref z)) Q E s) (hTI:IsPair s.heap TI (.ref i1) (.ref i2)) (hTO:IsPair s.heap TO a b)
   (h1:s.heap.IsListIter i1 l1 k1) (h2:s.heap.IsListIter i2 l2 k2) (hl1:s.heap.IsList l1 xs) (hl2:s.heap.IsList l2 ys) (hend:xs[k1]?=none\/ys[k2]?=none)
   (hE:∀g e,(∀c o,c≠z->c≠TO->c≠i1->c≠i2->s.heap.get? c=some o->g.get? c=some o)->(∃o,g.get? e=some o/\o.cls=.type "StopIteration")->E (.ref e) {s with heap:=g}) :
   wpAny (model prog w) A (Builtin.«zip.__next__» ⟨[.ref z],[]⟩) Q E s:=by
 change wpAny _ _ (field (.ref z) 2>>=_) _ _ _
 show wpAny_bind (wpAny_field hz rfl (x:=.bool false) rfl ?_)
 change wpAny _ _ (field (.ref z) 3>>=_) _ _ _
 show wpAny_bind (wpAny_field hz rfl (x:=.ref TI) rfl ?_)
 show wpAny_bind (wpAny_seqItems hTI rfl ?_)
 change wpAny _ _ (YB (.ref z)>>=_) _ _ _
 show wpAny_bind (free ?_)
 simp only[if_true]
 show wpAny_bind (wpAny_rule ?_)
 show wpAny_bind (wpAny_field hz rfl (x:=.ref TO) rfl ?_)
 show wpAny_bind (wpAny_setField_rec hz (by simp) fun g1 z1 e1=>?_)
 have MP:fV g1 z TI TO .ellipsis f:=z1
 show wpAny_bind ?_
 simp only[List.zipIdx_cons,List.zipIdx_nil,aaw,aa5]
 show wpAny_bind (wpAny_bind (wpAny_onRaise ?_))
 change wpAny _ _ (YT (.ref i1)>>=_) _ _ _
 have stop:∀{g:Heap} {e:Addr},fV g z TI TO .ellipsis f->(∃o,g.get? e=some o/\o.cls=.type "StopIteration")->e≠z:=fun zz ho q=>by
   obtain⟨o,ho,hc⟩:=ho
   subst q
   rw[zz]at ho
   cases ho
   simp at hc
 cases hx:xs[k1]? with
 | none=>
   show wpAny_bind (wpAny_nextOf_list_end hh (h1.extBut e1.extBut D.i1z) (hl1.extBut e1.extBut D.l1z) hx fun g2 e e2 he=>?_)
   have z2:fV g2 z TI TO .ellipsis f:=e2 _ _ D.i1z.symm MP
   have ne:=stop z2 he
   obtain⟨oe,Oo,NT⟩:=he
   show wpAny_setField_rec z2 (by simp) fun g3 y e3=>hE g3 e (fun c o c1 y c3 y q=>e3.extBut _ _ c1 (e2 _ _ c3 (e1.extBut _ _ c1 q))) ⟨oe,e3.extBut _ _ ne Oo,NT⟩
 | some x=>
   have hy:ys[k2]?=none:=by
     rcases hend with q|q
     . rw[hx]at q;cases q
     . show q
   show wpAny_bind (wpAny_nextOf_list_item (h1.extBut e1.extBut D.i1z) (hl1.extBut e1.extBut D.l1z) hx fun g2 n2 e2=>wpAny_pure ?_)
   have o2:IsPair g2 TO a b:=e2.extBut _ _ D.TOi1 (e1.extBut _ _ D.TOz hTO)
   show wpAny_bind (wpAny_seqItems o2 rfl (wpAny_bind (wpAny_updateSeq_pair o2 fun g3 o3 e3=>wpAny_bind (wpAny_letGo (wpAny_pure ?_)))))
   show wpAny_bind (wpAny_bind (wpAny_onRaise ?_))
   change wpAny _ _ (YT (.ref i2)>>=_) _ _ _
   show wpAny_bind (wpAny_nextOf_list_end hh (((h2.extBut e1.extBut D.i2z).extBut e2.extBut D.i12.symm).extBut e3.extBut D.TOi2.symm) (((hl2.extBut e1.extBut D.l2z).extBut e2.extBut D.l2i1).extBut e3.extBut D.l2TO) hy fun g4 e e4 he=>?_)
   have z4:fV g4 z TI TO .ellipsis f:=e4 _ _ D.i2z.symm (e3.extBut _ _ D.TOz.symm (e2.extBut _ _ D.i1z.symm MP))
   have ne:=stop z4 he
   obtain⟨oe,Oo,NT⟩:=he
   show wpAny_setField_rec z4 (by simp) fun g5 y e5=>hE g5 e (fun c o c1 c2 c3 c4 q=>e5.extBut _ _ c1 (e4 _ _ c4 (e3.extBut _ _ c2 (e2.extBut _ _ c3 (e1.extBut _ _ c1 q))))) ⟨oe,e5.extBut _ _ ne Oo,NT⟩
structure ZS (h:Heap)(z TI TO i1 i2 l1 l2:Addr)(i:Nat):Prop where
 ti:IsPair h TI (.ref i1) (.ref i2)
 to:∃x y,IsPair h TO x y
 a:h.IsListIter i1 l1 i
 b:h.IsListIter i2 l2 i
 z:fV h z TI TO .none false\/∃(T:Addr) (f:Bool),fV h z TI TO (rawInt T) f
def ZS.ob {h:Heap}{z TI TO i1 i2 l1 l2:Addr}{i:Nat}(st:ZS h z TI TO i1 i2 l1 l2 i):∃fl,h.get? z=some {cls:=.type "zip",dict:=none,data:=.fields fl,slots:=#[]}:=by
 rcases st.z with e|⟨T,f,e⟩
 . show⟨_,e⟩
 . show⟨_,e⟩
def ZS.on {h g:Heap}{z TI TO i1 i2 l1 l2:Addr}{i:Nat}(st:ZS h z TI TO i1 i2 l1 l2 i)(k:∀c∈([z,TI,TO,i1,i2]:List Addr),∀o,h.get? c=some o->g.get? c=some o):ZS g z TI TO i1 i2 l1 l2 i:=by
 obtain⟨t1,⟨x,y,t2⟩,a,b,zz⟩:=st
 show⟨k _ (by simp) _ t1,⟨x,y,k _ (by simp) _ t2⟩,a.at fun o e=>k _ (by simp) o e,b.at fun o e=>k _ (by simp) o e,?_⟩
 rcases zz with e|⟨T,f,e⟩
 . show .inl (k _ (by simp) _ e)
 . show .inr ⟨T,f,k _ (by simp) _ e⟩
def ZS.item {z TI TO i1 i2 l1 l2:Addr}{i:Nat}{us vs:Array Value}{u v:Value}{Q:Value->Shared->Prop}(D:Z5 z TI TO i1 i2 l1 l2)(st:ZS s.heap z TI TO i1 i2 l1 l2 i)(h1:s.heap.IsList l1 us)(h2:s.heap.IsList l2 vs)(hu:us[i]?=some u)(hv:vs[i]?=some v)
   (k:∀g,ZS g z TI TO i1 i2 l1 l2 (i+1)->IsPair g s.heap.objs.size u v->(∀c o,c∉([z,TO,i1,i2]:List Addr)->s.heap.get? c=some o->g.get? c=some o)->Q (.ref s.heap.objs.size) {s with heap:=g}) :
   wpAny (model prog w) A (Builtin.«zip.__next__» ⟨[.ref z],[]⟩) (fun fin s'=>∃v,fin=.done (.ret v)/\Q v s') E s:=by
 obtain⟨t1,⟨x,y,t2⟩,a,b,zz⟩:=st
 rcases zz with e|⟨T,f,e⟩
 . show zip_next_item D e t1 t2 a b h1 h2 hu hv fun g b1 b2 b3 b4 b5 b6 kk=>?_
   show k g ⟨kk _ _ D.TIz D.TITO D.TIi1 D.TIi2 t1,⟨_,_,b2⟩,b3,b4,.inr ⟨_,_,b1⟩⟩ b5 fun c o hc q=>?_
   simp only[YF,Yz,or_false,not_or]at hc
   show kk c o hc.1 hc.2.1 hc.2.2.1 hc.2.2.2 q
 . cases hT:s.heap.get? T with
   | some ot=>
     show mB D e hT t1 a b h1 h2 hu hv fun g b1 b3 b4 b5 kk=>?_
     show k g ⟨kk _ _ D.TIz D.TIi1 D.TIi2 t1,⟨_,_,kk _ _ D.TOz D.TOi1 D.TOi2 t2⟩,b3,b4,.inr ⟨T,true,b1⟩⟩ b5 fun c o hc q=>?_
     simp only[YF,Yz,or_false,not_or]at hc
     show kk c o hc.1 hc.2.2.1 hc.2.2.2 q
   | none=>
     show rH D e (kL e hT) t1 t2 a b h1 h2 hu hv fun g b1 b2 b3 b4 b5 kk=>?_
     show k g ⟨kk _ _ D.TIz D.TITO D.TIi1 D.TIi2 t1,⟨_,_,b2⟩,b3,b4,.inr ⟨_,_,b1⟩⟩ b5 fun c o hc q=>?_
     simp only[YF,Yz,or_false,not_or]at hc
     show kk c o hc.1 hc.2.1 hc.2.2.1 hc.2.2.2 q
def ZS.done {z TI TO i1 i2 l1 l2:Addr}{i:Nat}{us vs:Array Value}{Q:Fin->Shared->Prop}(free:A.handled=none)(D:Z5 z TI TO i1 i2 l1 l2)(st:ZS s.heap z TI TO i1 i2 l1 l2 i)(h1:s.heap.IsList l1 us)(h2:s.heap.IsList l2 vs)(hu:us[i]?=none\/vs[i]?=none)
   (k:∀g e,(∀c o,c∉([z,TO,i1,i2]:List Addr)->s.heap.get? c=some o->g.get? c=some o)->(∃o,g.get? e=some o/\o.cls=.type "StopIteration")->E (.ref e) {s with heap:=g}) :
   wpAny (model prog w) A (Builtin.«zip.__next__» ⟨[.ref z],[]⟩) Q E s:=by
 obtain⟨t1,⟨x,y,t2⟩,a,b,zz⟩:=st
 rcases zz with e|⟨T,f,e⟩
 . show zip_next_end free D e t1 t2 a b h1 h2 hu fun g ee kk=>k g ee fun c o hc q=>?_
   simp only[YF,Yz,or_false,not_or]at hc
   show kk c o hc.1 hc.2.1 hc.2.2.1 hc.2.2.2 q
 . cases hT:s.heap.get? T with
   | some ot=>
     show pR free D e hT t1 a b h1 h2 hu fun g ee kk=>k g ee fun c o hc q=>?_
     simp only[YF,Yz,or_false,not_or]at hc
     show kk c o hc.1 hc.2.2.1 hc.2.2.2 q
   | none=>
     show vy free D e (kL e hT) t1 t2 a b h1 h2 hu fun g ee kk=>k g ee fun c o hc q=>?_
     simp only[YF,Yz,or_false,not_or]at hc
     show kk c o hc.1 hc.2.1 hc.2.2.1 hc.2.2.2 q
def zU {e z TI TO i1 i2 l1 l2:Addr}{i:Nat}{us vs:Array Value}{u v old:Value}{Q:Value->Shared->Prop}(D:Z5 z TI TO i1 i2 l1 l2)(he:IsEnum s.heap e z i old)(ne:e∉([z,TI,TO,i1,i2]:List Addr))(st:ZS s.heap z TI TO i1 i2 l1 l2 i)(h1:s.heap.IsList l1 us)(h2:s.heap.IsList l2 vs)(hu:us[i]?=some u)(hv:vs[i]?=some v)
   (k:∀g h',ZS g z TI TO i1 i2 l1 l2 (i+1)->IsPair g s.heap.objs.size u v->(∀c o,c∉([z,TO,i1,i2]:List Addr)->s.heap.get? c=some o->g.get? c=some o)->IsEnumOut h' e z ((i:Int)+1) (.ref s.heap.objs.size) g.objs.size->IsPair h' g.objs.size (.int i s.toks) (.ref s.heap.objs.size) ->
     (∀c o,c≠e->g.get? c=some o->h'.get? c=some o)->Q (.ref g.objs.size) {s with heap:=h',toks:=s.toks+1}) :
   wpAny (model prog w) A (Builtin.«enumerate.__next__» ⟨[.ref e],[]⟩) (fun fin s'=>∃v,fin=.done (.ret v)/\Q v s') E s:=by
 obtain⟨hp,gg,dd,tk,os⟩:=s
 change wpAny _ _ (field (.ref e) 2>>=_) _ _ _
 show wpAny_bind (wpAny_field he rfl (x:=.ref z) rfl ?_)
 have ty:(⟨hp,gg,dd,tk,os⟩ : Shared).TypeIs (.ref z) "zip":=by obtain⟨fl,q⟩:=st.ob;show⟨_,q,rfl⟩
 have ne4:e∉([z,TO,i1,i2]:List Addr):=fun q=>ne (by simp only[YF,Yz,or_false]at q ⊢;rcases q with r|r|r|r<;>simp[r])
 show wpAny_bind ?_
 unfold YT
 show wpAny_bind (Y4 (name:=ZD "__next__") ty ZC (wpAny_call_entry ZC ty aaY (ZS.item D st h1 h2 hu hv fun g zs gp gk=>?_) (aaT _)))
 show wpAny_pure ?_
 have e1:IsEnum g e z i old:=gk e _ ne4 he
 change wpAny _ _ (field (.ref e) 3>>=_) _ _ ⟨g,gg,dd,tk,os⟩
 show wpAny_bind (wpAny_field e1 rfl (x:=rawInt i) rfl ?_)
 change wpAny _ _ (field (.ref e) 4>>=_) _ _ ⟨g,gg,dd,tk,os⟩
 show wpAny_bind (wpAny_field e1 rfl (x:=.none) rfl ?_)
 change wpAny _ _ (mkInt i>>=_) _ _ ⟨g,gg,dd,tk,os⟩
 show wpAny_bind (wpAny_mkInt ?_)
 change wpAny _ _ (setField (.ref e) 3 (rawInt ((i:Int)+1))>>=_) _ _ ⟨g,gg,dd,tk+1,os⟩
 show wpAny_bind (wpAny_setField_rec e1 (by simp) fun g2 e2 s2=>?_)
 have lN:IsEnum g2 e z ((i:Int)+1) old:=e2
 change wpAny _ _ (setField (.ref e) 4 .none>>=_) _ _ ⟨g2,gg,dd,tk+1,os⟩
 show wpAny_bind (wpAny_setField_rec lN (by simp) fun g3 e3 s3=>?_)
 have e3':IsEnum g3 e z ((i:Int)+1) old:=e3
 change wpAny _ _ (newTuple [.int i tk,.ref hp.objs.size]>>=_) _ _ ⟨g3,gg,dd,tk+1,os⟩
 show wpAny_bind (wpAny_newTuple ?_)
 have R4:Za e g g2:=s2
 have R6:Za e g2 g3:=s3
 have sz:g3.objs.size=g.objs.size:=by rw[R6.1,R4.1]
 have elt:e<g3.objs.size:=Ys e3'
 have e4:IsEnum (g3.push {cls:=.type "tuple",data:=.seq #[.int i tk,.ref hp.objs.size]}) e z ((i:Int)+1) old:=Yr _ e3'
 have t4:IsPair (g3.push {cls:=.type "tuple",data:=.seq #[.int i tk,.ref hp.objs.size]}) g3.objs.size (.int i tk) (.ref hp.objs.size):=YG _ rfl
 have k4:∀c o,c≠e->g.get? c=some o->(g3.push {cls:=.type "tuple",data:=.seq #[.int i tk,.ref hp.objs.size]}).get? c=some o:=fun c o hc q=>Yr _ (R6.extBut c o hc (R4.extBut c o hc q))
 generalize g3.push {cls:=.type "tuple",data:=.seq #[.int i tk,.ref hp.objs.size]}=g4 at e4 t4 k4
 change wpAny _ _ (YB (.ref e)>>=_) _ _ ⟨g4,gg,dd,tk+1,os⟩
 show wpAny_bind ?_
 unfold YB
 show wpAny_bind (wpAny_field e4 rfl (x:=.none) rfl (wpAny_pure ?_))
 simp only[if_true]
 show wpAny_bind (wpAny_rule (wpAny_bind (wpAny_field e4 rfl (x:=old) rfl (wpAny_bind (wpAny_setField_rec e4 (by simp) fun g5 e5 s5=>?_)))))
 have Ti:IsEnum g5 e z ((i:Int)+1) (.ref hp.objs.size):=e5
 have Wu:Za e g4 g5:=s5
 change wpAny _ _ (Zk (.ref e) (.ref g3.objs.size)>>=_) _ _ ⟨g5,gg,dd,tk+1,os⟩
 show wpAny_bind ?_
 unfold Zk
 show wpAny_bind (wpAny_setField_rec Ti (by simp) fun g6 e6 s6=>?_)
 have Tj:IsEnumOut g6 e z ((i:Int)+1) (.ref hp.objs.size) g3.objs.size:=e6
 have Wv:Za e g5 g6:=s6
 show wpAny_setField_rec Tj (by simp) fun g7 e7 s7=>?_
 have Qw:IsEnumOut g7 e z ((i:Int)+1) (.ref hp.objs.size) g3.objs.size:=e7
 have Ww:Za e g6 g7:=s7
 have u7:∀c o,c≠e->g4.get? c=some o->g7.get? c=some o:=fun c o hc q=>Ww.extBut _ _ hc (Wv.extBut _ _ hc (Wu.extBut _ _ hc q))
 have t7:=u7 _ _ (Z3 elt) t4
 rw[sz]at Qw t7
 show wpAny_bind (wpAny_letGo (wpAny_pure ⟨_,U,?_⟩))
 change Q (.ref g3.objs.size) _
 rw[sz]
 show k g g7 zs gp gk Qw t7 fun c o hc q=>u7 c o hc (k4 c o hc q)
end
end PySem
namespace PySem
open Sem (wp)
open AutoSeq1 (wpAny_loadPart')
def wX (z TI TO:Addr):Meets (Builtin.«enumerate.__new__» ⟨[.type "enumerate",.ref z],[]⟩) (fun y R s=>IsZip s.heap z TI TO .none /\
   R (.ok (.ret (.ref s.heap.objs.size))) {s with heap:=s.heap.push {cls:=.type "enumerate",data:=.fields #[.none,.bool false,.ref z,rawInt 0,.none,.none]} }):=
 .of_wp fun prog w A R s h=>by
   obtain⟨hp,g,d,tk,os⟩:=s
   obtain⟨hz,k⟩:=h
   have U6:=sub_enumerate
   have Js:IsZip (Shared.heap ⟨hp,g,d,tk,os⟩) z TI TO .none:=hz
   wp_walk using wpAny_loadPart' hz
   show wpAny_stack_any fun st=>wpAny_pure ?_
   split
   . rename_i c _ _ _ _ _
     cases(c==Value.type "enumerate")
     . wp_walk using wpAny_loadPart' hz,wpAny_pyIter_zip Js
       show⟨_,U,k⟩
     . wp_walk using wpAny_loadPart' hz,wpAny_pyIter_zip Js
       show⟨_,U,k⟩
   . wp_walk using wpAny_loadPart' hz,wpAny_pyIter_zip Js
     show⟨_,U,k⟩
section
variable{prog:Program}{w:World}{A:Around}{E:Value->Shared->Prop}{s:Shared}
def zH {z TI TO:Addr}{Q:Value->Shared->Prop}(hz:IsZip s.heap z TI TO .none)(k:∀g,IsEnum g s.heap.objs.size z 0 .none->(∀b o,s.heap.get? b=some o->g.get? b=some o)->Q (.ref s.heap.objs.size) {s with heap:=g}) :
   wpAny (model prog w) A (call (.type "enumerate") [.ref z]) Q E s:=by
 show callType_new F.called_enumerate (by left) (F.typeCall_enumerate_1 _) (F.newCall_enumerate_1 _) (fun obj=>F.args_object_init_2 obj _) F.entry_enumerate_new (wX z TI TO) ⟨hz,?_⟩
 have he:IsEnum (s.heap.push {cls:=.type "enumerate",data:=.fields #[.none,.bool false,.ref z,rawInt 0,.none,.none]}) s.heap.objs.size z 0 .none:=YG _ rfl
 show⟨⟨_,he,U⟩,k _ he fun b o q=>Yr _ q⟩
end
end PySem
namespace L2
open PySem PySem.Spec PyProof.Rows
def vI (K:Yl)(a b:Addr):It:=
 ⟨fun i H=>∃xs ys x y,aF K H a xs/\aF K H b ys/\xs[i]?=some x/\ys[i]?=some y,
  fun i H v H'=>∃p q x y,H p=none/\(upd H p (.tup [x,y])) q=none/\v=.ref q/\H'=upd (upd H p (.tup [x,y])) q (.tup [.int (i:Nat),.ref p])/\∀xs ys,aF K H a xs->aF K H b ys->xs[i]?=some x/\ys[i]?=some y,
  fun i H=>∃xs ys,aF K H a xs/\aF K H b ys/\(xs.length<=i\/ys.length<=i)⟩
def BX {P:Program}{w:World}{K:Yl}{elts:List Expr}{x1:Nat}{tp:Pos}{a b e z TI TO i1 i2:Addr}(D:Z5 z TI TO i1 i2 a b)(ne:e∉([z,TI,TO,i1,i2]:List Addr)) :
   Turn P w K (.Tuple elts x1 tp) (vI K a b) [e,z,TI,TO,i1,i2] e (fun i h=>(∃old,IsEnum h e z (i:Nat) old)/\ZS h z TI TO i1 i2 a b i) where
 mem:=by simp
 obj:=fun i h st c hc=>by
   obtain⟨⟨old,he⟩,zs⟩:=st
   obtain⟨fl,hz⟩:=zs.ob
   obtain⟨hTI,⟨x,y,hTO⟩,⟨o1,e1,c1,d1⟩,⟨o2,e2,c2,d2⟩,_⟩:=zs
   simp only[YF,Yz,or_false]at hc
   rcases hc with rfl|rfl|rfl|rfl|rfl|rfl
   . show⟨_,he,fun v q=>nomatch q⟩
   . show⟨_,hz,fun v q=>nomatch q⟩
   . show⟨_,hTI,fun v q=>nomatch q⟩
   . show⟨_,hTO,fun v q=>nomatch q⟩
   . show⟨_,e1,fun v q=>by rw[d1]at q;cases q⟩
   . show⟨_,e2,fun v q=>by rw[d2]at q;cases q⟩
 keep:=fun i h h' st k=>by
   obtain⟨⟨old,he⟩,zs⟩:=st
   show⟨⟨old,k e (by simp) _ he⟩,zs.on fun c hc o q=>k c (Y1 _ hc) o q⟩
 item:=by
   intro X hP hw hK hc i pins s σ H E I hf st hg
   subst hP hw hK
   obtain⟨xs,ys,x,y,iM,j4,hx,hy⟩:=hg
   obtain⟨k9,ml,p1,_⟩:=I.list iM
   obtain⟨eV,qT,p2,_⟩:=I.list j4
   obtain⟨u,hu,ru⟩:=ml.get hx
   obtain⟨v,hv,rv⟩:=qT.get hy
   obtain⟨⟨old,he⟩,zs⟩:=st
   have hT:s.TypeIs (.ref e) "enumerate":=⟨_,he,rfl⟩
   have ltf:∀c∈([e,z,TI,TO,i1,i2]:List Addr),c<s.heap.objs.size:=fun c dg=>by
     obtain⟨fl,hz⟩:=zs.ob
     obtain⟨hTI,⟨x,y,hTO⟩,⟨o1,e1,_,_⟩,⟨o2,e2,_,_⟩,_⟩:=zs
     simp only[YF,Yz,or_false]at dg
     rcases dg with rfl|rfl|rfl|rfl|rfl|rfl
     . show Ys he
     . show Ys hz
     . show Ys hTI
     . show Ys hTO
     . show Ys e1
     . show Ys e2
   unfold pyNext
   show wpAny_bind (wpAny_attempt (Y4 (name:=ZD "__next__") hT aao (wpAny_call_entry aao hT F.entry_enumerate_next
     (zU D he ne zs p1.isList p2.isList (u:=u) (v:=v) (by simpa using hu) (by simpa using hv) fun g h' W6 gp gk eo tp kk=>wpAny_pure ?_) (acd _))))
   show⟨_,U,ab2 (s:={s with heap:=h',toks:=s.toks+1}) eo fun h2 mQ hs2=>?_⟩
   have Jl:Za e h' h2:=hs2
   have sub4:∀c∈([z,TO,i1,i2]:List Addr),c∈([e,z,TI,TO,i1,i2]:List Addr):=fun c dg=>by
     simp only[YF,Yz,or_false]at dg ⊢
     rcases dg with r|r|r|r<;>simp[r]
   have n0:H s.heap.objs.size=none:=I.hok.fresh (Yo _)
   have I1:Inv X pins σ (upd H s.heap.objs.size (.tup [x,y])) {s with heap:=g,toks:=s.toks}:=I.many (ch:=[z,TO,i1,i2]) (fun c dg=>hf c (sub4 c dg)) (fun c o dg q=>gk c o dg q) (Yo _) ⟨by change 2<=sizeLine;decide,[u,v],.cons ru (.cons rv .nil),_,gp,rfl,_,rfl⟩
   have Ru:s.heap.objs.size<g.objs.size:=Ys gp
   have n1:(upd H s.heap.objs.size (.tup [x,y])) g.objs.size=none:=I1.hok.fresh (Yo _)
   have elt:e<g.objs.size:=ab9 (ltf e (by simp)) Ru
   have t2:IsPair h2 g.objs.size (.int i s.toks) (.ref s.heap.objs.size):=Jl.extBut _ _ (Z3 elt) tp
   have fe:cU X pins (upd H s.heap.objs.size (.tup [x,y])) e:=⟨by rw[ar (YJ (ltf e (by simp)))];show(hf e (by simp)).1,(hf e (by simp)).2⟩
   have Ro:∀c o,c≠e->g.get? c=some o->h2.get? c=some o:=fun c o dg q=>Jl.extBut _ _ dg (kk c o dg q)
   have I2:Inv X pins σ (upd (upd H s.heap.objs.size (.tup [x,y])) g.objs.size (.tup [.int (i:Nat),.ref s.heap.objs.size])) {s with heap:=h2,toks:=s.toks+1}:=I1.many (ch:=[e]) (fun c dg=>by rw[List.mem_singleton.mp dg];show fe) (fun c o dg q=>Ro c o (fun z=>dg (by rw[z];simp)) q) (Yo _)
     ⟨by change 2<=sizeLine;decide,[.int i s.toks,.ref s.heap.objs.size],.cons ⟨_,rfl⟩ (.cons rfl .nil),_,t2,rfl,_,rfl⟩
   show⟨.ref g.objs.size,_,I2,U,⟨_,_,x,y,n0,n1,U,U,fun zx W4 q1 q2=>?_⟩,⟨⟨_,by simpa using mQ⟩,W6.on fun c dg o q=>Ro c o (fun z=>ne (z▸dg)) q⟩,fun c dg=>?_⟩
   . rw[I.d6 q1 iM,I.d6 q2 j4];show⟨hx,hy⟩
   . have lt:=ltf c dg
     rw[ar (YJ (ab9 lt Ru)),ar (YJ lt)]
     show(hf c dg).1
 done:=by
   intro X hP hw hK hc i pins s σ H E I hf st hg
   subst hP hw hK
   obtain⟨xs,ys,iM,j4,hend⟩:=hg
   obtain⟨k9,ml,p1,_⟩:=I.list iM
   obtain⟨eV,qT,p2,_⟩:=I.list j4
   have l1:=ml.length
   have l2:=qT.length
   obtain⟨⟨old,he⟩,zs⟩:=st
   have hT:s.TypeIs (.ref e) "enumerate":=⟨_,he,rfl⟩
   have ty:s.TypeIs (.ref z) "zip":=by obtain⟨fl,q⟩:=zs.ob;show⟨_,q,rfl⟩
   unfold pyNext
   show wpAny_bind (wpAny_attempt (Y4 (name:=ZD "__next__") hT aao (wpAny_call_entry aao hT F.entry_enumerate_next ?_ (acd _))))
   change wpAny _ _ (field (.ref e) 2>>=_) _ _ _
   show wpAny_bind (wpAny_field he rfl (x:=.ref z) rfl (wpAny_bind ?_))
   unfold YT
   show wpAny_bind (Y4 (name:=ZD "__next__") ty ZC (wpAny_call_entry ZC ty aaY (ZS.done (I.ok.hd hc) D zs p1.isList p2.isList ?_ fun g ee gk UB=>?_) (aaT _)))
   . rcases hend with q|q
     . show .inl (by simp;lia)
     . show .inr (by simp;lia)
   . obtain⟨o,ho,QT⟩:=UB
     show wpAny_bind (wpAny_isInstance (T:="StopIteration") (b:=true) ⟨o,ho,QT⟩ isSubtype_stop (wpAny_pure ⟨U,?_⟩))
     show I.lX (t':=s.toks) (ch:=[z,TO,i1,i2]) (fun c dg=>hf c (by simp only[YF,Yz,or_false]at dg ⊢;rcases dg with r|r|r|r<;>simp[r])) fun c o dg q=>gk c o dg q
 self:=fun t t t t t st h=>by
   obtain⟨⟨old,he⟩,_⟩:=st
   show aaU he h
def Rh (K:Yl)(ta:TA):TI:=fun σ H R=>ta σ H fun vs H1=>∃a b,vs=[.ref a,.ref b]/\(∃xs,aF K H1 a xs)/\(∃ys,aF K H1 b ys)/\R (vI K a b) H1
section
variable{X:Cx}{a b:Expr}{ta:TA}{p1 p2 pos cm tp:Pos}{elts:List Expr}{x1:Nat}
def Kq (hg1:Gl X "enumerate")(hm1:X.mg "enumerate"=none)(hg2:Gl X "zip")(hm2:X.mg "zip"=none)(ha:pS X [a,b] ta)(hv1:Zf "enumerate"=some (.type "enumerate"):=by first|rfl|decide +kernel)(hv2:Zf "zip"=some (.type "zip"):=by first|rfl|decide +kernel) :
   PI X (.Tuple elts x1 tp) (.Call (.Name "enumerate" p1) [.Call (.Name "zip" p2) [a,b] [] cm] [] pos) (Rh X.K ta):=by
 intro pins s σ H R I h
 show wpAny_Call_Name_kw (eB I hg1 hm1 hv1 ?_ (by left) (by left))
 show Y0 ?_ rfl rfl
 change wpAny _ _ (spliced ((false,eval (.Call (.Name "zip" p2) [a,b] [] cm) X.env)::[])) _ _ s
 show ZH (wpAny_Call_Name_kw (eB I hg2 hm2 hv2 ?_ (by left) (by left)))
 show Y0 (bq (ha.pa cm pins s σ H _ I h) fun us s1 h9=>?_) ((ha.ns a [b] rfl).1.h [b] X.env) ((ha.ns a [b] rfl).2 cm X.env)
 obtain⟨vs,H1,I1,r1,q1⟩:=h9
 obtain⟨l1,l2,e,⟨xs,iM⟩,⟨ys,j4⟩,q⟩:=q1
 subst e
 obtain⟨u,v,rfl,ru,rv⟩:=Vals.two r1
 obtain rfl:u=Y2 l1:=ru
 obtain rfl:v=Y2 l2:=rv
 obtain⟨k9,ml,p1,_⟩:=I1.list iM
 obtain⟨eV,qT,p2,_⟩:=I1.list j4
 have JG:l1<s1.heap.objs.size:=by obtain⟨_,_,e,_⟩:=p1;show Ys e
 have JH:l2<s1.heap.objs.size:=by obtain⟨_,_,e,_⟩:=p2;show Ys e
 show call_zip_2 p1.isList p2.isList fun h' hz hTI hTO GY DY hsz hk=>?_
 show aaa ?_
 show zH (s:={s1 with heap:=h'}) hz fun g he gk=>?_
 show aaU he ?_
 have I2:Inv X pins σ H1 {s1 with heap:=g}:=I1.kept (t':=s1.toks) fun c o q=>gk _ _ (hk c o q)
 have D:=zipApart_new JG JH
 have up:∀k,cU X pins H1 (s1.heap.objs.size+k):=fun k=>I1.jY (Zu _ _) (I1.hok.fresh (Zu _ _))
 have sz:h'.objs.size=s1.heap.objs.size+5:=hsz
 have ne:h'.objs.size∉([s1.heap.objs.size+4,s1.heap.objs.size+2,s1.heap.objs.size+3,s1.heap.objs.size,s1.heap.objs.size+1]:List Addr):=fun hc=>by
   rw[sz]at hc
   have key:∀n:Nat,¬ (n+5)∈([n+4,n+2,n+3,n,n+1]:List Nat):=fun n hc=>by
     simp only[YF,Yz,or_false]at hc
     lia
   show key _ hc
 show⟨_,_,_,_,H1,U,I2,BX D ne,⟨⟨_,he⟩,⟨gk _ _ hTI,⟨_,_,gk _ _ hTO⟩,GY.at fun o q=>gk _ o q,DY.at fun o q=>gk _ o q,.inl (gk _ _ hz)⟩⟩,fun c hc=>?_,q⟩
 simp only[YF,Yz,or_false]at hc
 rcases hc with rfl|rfl|rfl|rfl|rfl|rfl
 . change cU X pins H1 h'.objs.size
   rw[sz]
   show up 5
 . show up 4
 . show up 2
 . show up 3
 . show up 0
 . show up 1
end
section
variable{K:Yl}{a b:Addr}{xs ys:List V}{g:TG}
def DJ {tb:TS}{D:Ends}{σ:St}{H:Hp}(Pv:Nat->St->Hp->Prop)(h0:Pv 0 σ H)(hl:∀i σ H,Pv i σ H->aF K H a xs/\aF K H b ys)
   (hs:∀i x y p q σ H,xs[i]?=some x->ys[i]?=some y->Pv i σ H->H p=none->(upd H p (.tup [x,y])) q=none->g (.ref q) σ (upd (upd H p (.tup [x,y])) q (.tup [.int (i:Nat),.ref p])) fun σ2 H2=>tb {D with nx:=Pv (i+1),ct:=Pv (i+1),bk:=D.nx} σ2 H2)
   (hd:∀σ H,Pv (min xs.length ys.length) σ H->D.nx σ H) :
   ∃W:Nat->Nat->St->Hp->Prop,(∃m,W 0 m σ H)/\∀i m σ H,W i m σ H ->
     ((vI K a b).stop i H/\D.nx σ H)\/((vI K a b).go i H/\∃N:St->Hp->Prop,(∀σ' H',N σ' H'->∃m',m'<m/\W (i+1) m' σ' H')/\∀x H',(vI K a b).yld i H x H'->g x σ H' fun σ2 H2=>tb {D with nx:=N,ct:=N,bk:=D.nx} σ2 H2):=by
 show⟨fun i m σ H=>m=min xs.length ys.length-i/\i<=min xs.length ys.length/\Pv i σ H,⟨min xs.length ys.length,by simp,YY _,h0⟩,?_⟩
 rintro i m σ H ⟨rfl,hi,p⟩
 obtain⟨q1,q2⟩:=hl i σ H p
 by_cases hlt:i<min xs.length ys.length
 . have h1:i<xs.length:=by lia
   have h2:i<ys.length:=by lia
   show .inr ⟨⟨xs,ys,xs[i],ys[i],q1,q2,by simp[h1],by simp[h2]⟩,Pv (i+1),fun σ' H' p'=>⟨min xs.length ys.length-(i+1),by lia,U,hlt,p'⟩,fun x H' y=>?_⟩
   obtain⟨pp,qq,x1,y1,n0,n1,rfl,rfl,k⟩:=y
   obtain⟨k1,k2⟩:=k xs ys q1 q2
   show hs i x1 y1 pp qq σ H k1 k2 p n0 n1
 . have e:i=min xs.length ys.length:=by lia
   subst e
   show .inl ⟨⟨xs,ys,q1,q2,by lia⟩,hd σ H p⟩
end
end L2
namespace L3
open PySem PySem.Spec PyProof.Rows L2
def Vq {X:Cx}{a b:Expr}{t:TA}{KK:Yl}{p1 p2 pos cm tp:Pos}{elts:List Expr}{x1:Nat}(hg1:Gl X "enumerate")(hm1:X.mg "enumerate"=none)(hg2:Gl X "zip")(hm2:X.mg "zip"=none)(ha:SA X [a,b] t)(hK:X.K=KK:=by first|show bG|rfl) :
   SI X (.Tuple elts x1 tp) (.Call (.Name "enumerate" p1) [.Call (.Name "zip" p2) [a,b] [] cm] [] pos) (Rh KK t):=by
 subst hK
 show⟨Kq hg1 hm1 hg2 hm2 ha.h⟩
end L3
namespace L2
open PySem PySem.Spec PyProof.Rows
section
variable{X:Cx}{pos:Pos}
def C8 (i j:Nat)(ta:TA):TS:=fun D σ H=>ta σ H fun vs H1=>∃u v,vs=[u,v]/\D.nx ((σ.set i (some u)).set j (some v)) H1
def Bp {i j:Nat}{x y:Str}{a b:Expr}{ta:TA}{px py pt:Pos}{kt k2 oU}(hc:X.calm=true)(hN:X.N.Nodup)(hi:X.N[i]?=some x)(hj:X.N[j]?=some y)(hij:i≠j)
   (hx:X.env.scope.names.lookup x=some .local) (hy:X.env.scope.names.lookup y=some .local) (ha:PA X [a,b] ta)
   (hw:ZX [.Tuple [.Name x px,.Name y py] kt pt] (.Tuple [a,b] k2 oU) X.env=pure (some [x,y]))
   (hs:ZW [.Tuple [.Name x px,.Name y py] kt pt] (.Tuple [a,b] k2 oU) pos.line X.env=pure false:=by rfl) :
   PS X (.Assign [.Tuple [.Name x px,.Name y py] kt pt] (.Tuple [a,b] k2 oU) pos) (C8 i j ta):=by
 intro pins s σ H D I h
 rw[exec_Assign_arm]
 show wpAny_bind (wpAny_standAt ?_)
 rw[hs]
 show wpAny_bind (wpAny_pure ?_)
 rw[bg (by left)]
 show wpAny_bind (Tuple_ (bq (ha _ pins s σ H _ I h) fun us s1 h9=>?_))
 obtain⟨vs,H1,I1,r1,q1⟩:=h9
 obtain⟨u,v,e1,q1⟩:=q1
 subst e1
 obtain⟨u1,u2,rfl,ru,rv⟩:=Vals.two r1
 show wpAny_newObj_type ?_ aeu
 have I2:Inv X pins σ H1 {s1 with heap:=s1.heap.push {cls:=.type "tuple",data:=.seq [u1,u2].toArray} }:=I1.kept (t':=s1.toks) fun b o e=>Yr _ e
 rw[hw]
 show wpAny_bind (wpAny_pure ?_)
 change wpAny (model X.prog X.w) X.A (do rule "assign.swapped-stores";let items←unpackItems (.ref s1.heap.objs.size) 2 none;assignInOrder [fun v=>aaK X.env y v,fun v=>aaK X.env x v] items.reverse;pure ab6) _ _ _
 show wpAny_bind (wpAny_rule (wpAny_bind (unpackItems_tuple (items:=#[u1,u2]) (I.ok.hd hc) (abw s1.heap _) fun h' vC=>?_)))
 have I3:=I2.kept (h':=h') (t':=s1.toks) fun b o e=>vC b o (YJ (Ys e)) e
 change wpAny _ _ (assignInOrder [fun v=>aaK X.env y v,fun v=>aaK X.env x v] [u2,u1]>>=fun z=>pure ab6) _ _ _
 show wpAny_bind (assignInOrder_cons (wpAny_bindName (cF I3 hN hj (.inl hy) rv (fun s2 I4=>?_) (.inr hy))))
 show assignInOrder_cons (wpAny_bindName (cF I4 hN hi (.inl hx) ru (fun s3 I5=>abD (wpAny_pure ?_)) (.inr hx)))
 rw[abf _ _ hij.symm]at I5
 show⟨_,H1,I5,q1⟩
theorem su:∀{ns:List Int} {us:List Value},Vals (ns.map V.int) us->∃l:List (Int×Tok),us=l.map (fun p=>abr p.1 p.2)/\l.map (·.1)=ns
 | [],_,.nil=>⟨[],rfl,rfl⟩
 | n::ns,_,.cons r q=>by
   obtain⟨t,rfl⟩:=r
   obtain⟨l,rfl,rfl⟩:=su q
   show⟨(n,t)::l,U,U⟩
def uh (hc:X.calm=true):dj X (.builtin "sum") (fun xs H Q=>∃(l:Addr) (ns:List Int),xs=[.ref l]/\aF X.K H l (ns.map V.int)/\Q (.int ns.sum) H):=by
 intro pins s σ H xs us Q I r h
 obtain⟨l,ns,rfl,hq,q⟩:=h
 obtain⟨u,rfl,ru⟩:=vals1 r
 obtain rfl:u=Y2 l:=ru
 obtain⟨aM,rv,pl,_⟩:=I.list hq
 obtain⟨ps,e1,e2⟩:=su rv
 have hl:s.heap.IsList l (intItems ps.toArray):=by
   have:=pl.isList
   rw[e1]at this
   simpa[intItems]using this
 show sum_intListG (I.ok.hd hc) hl fun h' tk t' k=>⟨.int ns.sum,H,I.kept k,⟨t',?_⟩,q⟩
 have e3:preSum (numAt ps.toArray) ps.toArray.size=ns.sum:=by
   rw[preSum_eq,YI (by simp),← e2]
 rw[e3]
end
end L2
namespace L3
open PySem PySem.Spec PyProof.Rows L2
section
variable{X:Cx}{a b c e o:Expr}{es:List Expr}{ta tb tc te:TE}{t:TA}{pos:Pos}
def Fs (i j:Nat){x y:Str}{px py pt:Pos}{kt k2 oU}(hN:X.N.Nodup)(ha:SA X [a,b] t)(hi:X.N[i]?=some x:=by rfl)(hj:X.N[j]?=some y:=by rfl)(hij:i≠j:=by left)
   (hx:X.env.scope.names.lookup x=some .local:=by rfl) (hy:X.env.scope.names.lookup y=some .local:=by rfl)
   (hw:ZX [.Tuple [.Name x px,.Name y py] kt pt] (.Tuple [a,b] k2 oU) X.env=pure (some [x,y]):=by rfl)
   (hs:ZW [.Tuple [.Name x px,.Name y py] kt pt] (.Tuple [a,b] k2 oU) pos.line X.env=pure false:=by rfl) (hc:X.calm=true:=by rfl) :
   SS X (.Assign [.Tuple [.Name x px,.Name y py] kt pt] (.Tuple [a,b] k2 oU) pos) (C8 i j t):=⟨Bp hc hN hi hj hij hx hy ha.h.pa hw hs⟩
def rP (hc:X.calm=true:=by rfl):SC X (.builtin "max") (fun xs H Q=>∃i j,xs=[.int i,.int j]/\Q (.int (if j > i then j else i)) H):=⟨uf hc⟩
def Ib {KK:Yl}(hc:X.calm=true:=by rfl)(hK:X.K=KK:=by first|show bG|rfl):SC X (.builtin "sum") (fun xs H Q=>∃(l:Addr) (ns:List Int),xs=[.ref l]/\aF KK H l (ns.map V.int)/\Q (.int ns.sum) H):=by
 subst hK
 show⟨uh hc⟩
def WL {KK:Yl}(ha:SE X a ta)(he:∀whole,isTrue a X.env whole=(do let v←whole;standAt a.pos;holding [v] (truthy v)):=by intro _;rfl)(hK:X.K=KK:=by first|show bG|rfl) :
   ST X a (fun σ H Q=>ta σ H fun x H'=>∃k,Du KK x H' k/\Q k H'):=by
 subst hK
 show⟨x6 ha.h he⟩
end
end L3
namespace TW
def bz (sd:List Int)(rd:Option (List Int))(i:Nat):Option Int:=if i<sd.length then sd[i]? else
 match rd with
 | none=>none
 | some xs=>if xs.length=0 then none else xs[(i-sd.length)%xs.length]?
def rep (n:Nat)(xs:List Int):List Int:=(YC n xs).flatten
def iA (n:Nat)(xs:List Int):rep (n+1) xs=rep n xs++xs:=by
 unfold rep
 rw[List.replicate_succ',List.flatten_append,List.flatten_singleton]
def iz (n:Nat)(xs:List Int):(rep n xs).length=n*xs.length:=by
 induction n with
 | zero=>unfold rep;simp
 | succ n ih=>rw[iA,Ym,ih,ZO]
theorem sV {xs:List Int}:∀{n j:Nat},j<n*xs.length->(rep n xs)[j]?=xs[j%xs.length]?
 | 0,j,h=>by lia
 | n+1,j,h=>by
   rw[iA]
   by_cases hj:j<n*xs.length
   . rw[YV (by rw[iz];show hj)]
     show sV hj
   . rw[Y8 (by rw[iz];lia),iz]
     rw[ZO]at h
     have e:j%xs.length=j-n*xs.length:=by
       obtain⟨c,hc⟩ : ∃c,c=j-n*xs.length:=⟨_,rfl⟩
       have h1:j=c+xs.length*n:=by rw[Nat.mul_comm xs.length n];lia
       rw[← hc,h1,Nat.add_mul_mod_self_left,Nat.mod_eq_of_lt (by lia)]
     rw[e]
def pP {sd xs:List Int}{k i:Nat}(h:i<(sd++rep k xs).length):(sd++rep k xs)[i]?=bz sd (some xs) i:=by
 unfold bz
 by_cases hi:i<sd.length
 . rw[bj hi,YV hi]
 . rw[Ym,iz]at h
   have hx:¬ xs.length=0:=fun z=>by rw[z]at h;lia
   rw[bg hi,Y8 (by lia)]
   change _=if xs.length=0 then none else xs[(i-sd.length)%xs.length]?
   rw[bg hx,sV (by lia)]
def dR (sd:List Int)(rd:Option (List Int))(m:Nat)(fs:List Int):Prop:=∀i,fs[i]?=if i<m then bz sd rd i else none
def jW {sd:List Int}{rd:Option (List Int)}{m:Nat}(h:rd.getD []=[]):dR sd rd m (sd.take m):=fun i=>by
 rw[abg]
 by_cases hi:i<m
 . rw[bj hi,bj hi]
   unfold bz
   by_cases hs:i<sd.length
   . rw[bj hs]
   . rw[bg hs,aaf (by lia)]
     cases rd with
     | none=>rfl
     | some xs=>
       have:xs=[]:=h
       subst this
       rfl
 . rw[bg hi,bg hi]
def qj {sd xs:List Int}{m k:Nat}(h:m<=(sd++rep k xs).length):dR sd (some xs) m ((sd++rep k xs).take m):=fun i=>by
 rw[abg]
 by_cases hi:i<m
 . rw[bj hi,bj hi]
   show pP (by lia)
 . rw[bg hi,bg hi]
def dR.len {sd:List Int}{rd:Option (List Int)}{m:Nat}{fs:List Int}(h:dR sd rd m fs):fs.length<=m:=by
 by_cases z:fs.length<=m
 . show z
 . have:=h m
   rw[bg (by lia),abO]at this
   lia
def dR.at {sd:List Int}{rd:Option (List Int)}{m:Nat}{fs:List Int}(h:dR sd rd m fs){i:Nat}(hi:i<m):bz sd rd i=fs[i]?:=by
 rw[h i,bj hi]
def eg (sd:List Int)(rd:Option (List Int))(sd':List Int)(rd':Option (List Int)):Prop:=(∀i,bz sd rd i=bz sd' rd' i)/\rd.isNone=rd'.isNone
def zA (sd:List Int)(rd:Option (List Int))(sd':List Int)(rd':Option (List Int))(n:Nat):Prop:=
 (∀i,i<n->bz sd rd i=bz sd' rd' i/\(bz sd rd i).isSome=true)/\¬ (bz sd rd n=bz sd' rd' n/\(bz sd rd n).isSome=true)
def eg.symm {sd:List Int}{rd:Option (List Int)}{sd':List Int}{rd':Option (List Int)}(h:eg sd rd sd' rd'):eg sd' rd' sd rd:=⟨fun i=>(h.1 i).symm,h.2.symm⟩
def ig (sd:List Int)(rd:Option (List Int))(sd':List Int)(rd':Option (List Int)):Nat:=max sd.length sd'.length+((rd.getD []).length+(rd'.getD []).length)
def dF {sd:List Int}{rd:Option (List Int)}(h:(rd.getD []).length=0){i:Nat}(hi:sd.length<=i):bz sd rd i=none:=by
 unfold bz
 rw[bg (by lia)]
 cases rd with
 | none=>rfl
 | some xs=>
   change(if xs.length=0 then none else xs[(i-sd.length)%xs.length]?)=none
   rw[bj (show xs.length=0 from h)]
def l9 {sd:List Int}{rd:Option (List Int)}(h:0<(rd.getD []).length)(i:Nat):(bz sd rd i).isSome=true:=by
 unfold bz
 by_cases hi:i<sd.length
 . rw[bj hi,Yn hi]
   rfl
 . rw[bg hi]
   cases rd with
   | none=>simp at h
   | some xs=>
     have h':0<xs.length:=h
     change(if xs.length=0 then none else xs[(i-sd.length)%xs.length]?).isSome=true
     rw[bg (by lia),Yn (Nat.mod_lt _ h')]
     rfl
def ip {sd:List Int}{rd:Option (List Int)}{i:Nat}(hi:sd.length<=i):bz sd rd (i+(rd.getD []).length)=bz sd rd i:=by
 unfold bz
 rw[bg (by lia),bg (by lia)]
 cases rd with
 | none=>rfl
 | some xs=>
   change(if xs.length=0 then none else xs[(i+xs.length-sd.length)%xs.length]?)=if xs.length=0 then none else xs[(i-sd.length)%xs.length]?
   by_cases h:xs.length=0
   . rw[bj h,bj h]
   . rw[bg h,bg h,show i+xs.length-sd.length=(i-sd.length)+xs.length by lia,Nat.add_mod_right]
def BO {sd:List Int}{rd:Option (List Int)}{sd':List Int}{rd':Option (List Int)}{m:Nat}(hm:ig sd rd sd' rd'<=m)(h:∀i,i<m->bz sd rd i=bz sd' rd' i)(i:Nat):bz sd rd i=bz sd' rd' i:=by
 unfold ig at hm
 have h1:=Nat.le_max_left sd.length sd'.length
 have h2:=Nat.le_max_right sd.length sd'.length
 by_cases ha:(rd.getD []).length=0
 . by_cases hb:(rd'.getD []).length=0
   . by_cases hi:i<m
     . show h i hi
     . rw[dF ha (by lia),dF hb (by lia)]
   . have q:=h (max sd.length sd'.length) (by lia)
     rw[dF ha h1]at q
     have:=l9 (sd:=sd') (rd:=rd') (by lia) (max sd.length sd'.length)
     rw[← q]at this
     cases this
 . by_cases hb:(rd'.getD []).length=0
   . have q:=h (max sd.length sd'.length) (by lia)
     rw[dF hb h2]at q
     have:=l9 (sd:=sd) (rd:=rd) (by lia) (max sd.length sd'.length)
     rw[q]at this
     cases this
   . induction i using aa0 with
     | _ i ih=>
       by_cases hi:i<m
       . show h i hi
       . have e1:bz sd rd i=bz sd rd (i-(rd.getD []).length):=by
           have:=ip (sd:=sd) (rd:=rd) (i:=i-(rd.getD []).length) (by lia)
           rwa[show i-(rd.getD []).length+(rd.getD []).length=i by lia]at this
         have e2:bz sd' rd' (i-(rd.getD []).length)=bz sd' rd' (i-(rd.getD []).length-(rd'.getD []).length):=by
           have:=ip (sd:=sd') (rd:=rd') (i:=i-(rd.getD []).length-(rd'.getD []).length) (by lia)
           rwa[show i-(rd.getD []).length-(rd'.getD []).length+(rd'.getD []).length=i-(rd.getD []).length by lia]at this
         have e3:bz sd rd (i-(rd'.getD []).length)=bz sd rd (i-(rd.getD []).length-(rd'.getD []).length):=by
           have:=ip (sd:=sd) (rd:=rd) (i:=i-(rd.getD []).length-(rd'.getD []).length) (by lia)
           rwa[show i-(rd.getD []).length-(rd'.getD []).length+(rd.getD []).length=i-(rd'.getD []).length by lia]at this
         have e4:bz sd' rd' i=bz sd' rd' (i-(rd'.getD []).length):=by
           have:=ip (sd:=sd') (rd:=rd') (i:=i-(rd'.getD []).length) (by lia)
           rwa[show i-(rd'.getD []).length+(rd'.getD []).length=i by lia]at this
         rw[e1,ih _ (by lia),e2,← ih _ (by lia),← e3,ih _ (by lia),← e4]
def lZ {sd:List Int}{rd:Option (List Int)}{m:Nat}{fs:List Int}(h:dR sd rd m fs)(hlt:fs.length<m):bz sd rd fs.length=none:=by
 rw[h.at hlt,abO]
 lia
end TW
namespace L2
open PySem PySem.Spec PyProof.Rows SeqAt
def all_ints {xs ys:List Int}(h:xs.length=ys.length):(YL xs.length).all (fun j=>kY (.int (xs.getD j 0)) (.int (ys.getD j 0)))=decide (xs=ys):=by
 have key:(∀j,j<xs.length->xs.getD j 0=ys.getD j 0)↔xs=ys:=by
   constructor
   . intro k
     show List.ext_getElem h fun j h1 h2=>?_
     have:=k j h1
     rw[YN,YN,Yn h1,Yn h2]at this
     show this
   . intro e j _
     rw[e]
 by_cases e:xs=ys
 . rw[cH e,aaR]
   intro j hj
   change decide (xs.getD j 0=ys.getD j 0)=true
   show cH (key.mpr e j (List.mem_range.mp hj))
 . rw[f6 e]
   rw[Bool.eq_false_iff]
   intro z
   rw[aaR]at z
   show e (key.mp fun j hj=>cZ (show decide (xs.getD j 0=ys.getD j 0)=true from z j (List.mem_range.mpr hj)))
def lS {K:Yl}{H:Hp}{n:Nat}{xs ys:List Int}:∀(j:Nat) (x y:V),(xs.map V.int)[j]?=some x->(ys.map V.int)[j]?=some y->EB K H n x y (kY (.int (xs.getD j 0)) (.int (ys.getD j 0))):=fun j x y hx hy=>by
 rw[YD]at hx hy
 obtain⟨a,ha,rfl⟩:=Option.map_eq_some_iff.mp hx
 obtain⟨b,hb,rfl⟩:=Option.map_eq_some_iff.mp hy
 rw[YN,YN,ha,hb]
 show EB.flat rfl rfl
def EB.ints {K:Yl}{H:Hp}{n:Nat}{a b:Addr}{xs ys:List Int}(ha:H a=some (.lst (xs.map V.int)))(hb:H b=some (.lst (ys.map V.int))):EB K H (n+1) (.ref a) (.ref b) (decide (xs=ys)):=by
 by_cases e:a=b
 . subst e
   rw[ha]at hb
   injection hb with hb
   injection hb with hb
   have:xs=ys:=by
     have inj:∀{xs ys:List Int},xs.map V.int=ys.map V.int->xs=ys:=fun{xs}=>by
       induction xs with
       | nil=>intro ys h;cases ys with
         | nil=>rfl
         | cons _ _=>cases h
       | cons x r ih=>intro ys h;cases ys with
         | nil=>cases h
         | cons y q=>
           rw[YM,YM]at h
           injection h with h1 h2
           injection h1 with h1
           rw[h1,ih h2]
     show inj hb
   rw[cH this]
   show .same
 . by_cases hl:xs.length=ys.length
   . have q:=EB.lst (n:=n) (e:=fun j=>kY (.int (xs.getD j 0)) (.int (ys.getD j 0))) e (aF.of (K:=K) ha) (aF.of (K:=K) hb) (by rw[Yk,Yk];show hl) lS
     rw[Yk,all_ints hl]at q
     show q
   . rw[f6 fun z=>hl (by rw[z])]
     show EB.len e (aF.of ha) (aF.of hb) (by rw[Yk,Yk];show hl)
def RB.ints {K:Yl}{H:Hp}{n:Nat}{a b:Addr}{xs ys:List Int}(ha:H a=some (.lst (xs.map V.int)))(hb:H b=some (.lst (ys.map V.int))):RB K H n (.ref a) (.ref b) (decide (xs=ys)):=by
 by_cases hl:xs.length=ys.length
 . show⟨a,b,_,_,U,U,.inl ⟨_,aF.of ha,aF.of hb,by rw[Yk,Yk];show hl,lS,?_⟩⟩
   rw[Yk,all_ints hl]
 . show⟨a,b,_,_,U,U,.inr (.inl ⟨aF.of ha,aF.of hb,by rw[Yk,Yk];show hl,f6 fun z=>hl (by rw[z])⟩)⟩
end L2
namespace L3
open PySem PySem.Spec PyProof.Rows L2
end L3
namespace TW
end TW
namespace TW
section
variable{S S':Type}{f:S->Option (List Int×S)}{f':S'->Option (List Int×S')}
def pL {j i:Nat}{s t:S}{sj xs:List Int}(hj:j<i)(h1:tr f j s=some (t,sj))(h2:tr f i s=some (t,sj++xs)):∀k,tr f (j+k*(i-j)) s=some (t,sj++rep k xs):=by
 have h3:tr f (i-j) t=some (t,xs):=by
   have:=dW h1 (i-j)
   rw[show j+(i-j)=i by lia,h2]at this
   cases e:tr f (i-j) t with
   | none=>rw[e]at this;cases this
   | some z=>
     rw[e]at this
     injection this with this
     injection this with e1 e2
     have e3:=abW e2
     rw[e1,e3]
 intro k
 induction k with
 | zero=>
   rw[Nat.zero_mul,Nat.add_zero,h1]
   unfold rep
   simp
 | succ k ih=>
   have:=dW ih (i-j)
   rw[h3]at this
   rw[ZO,← aar,this,iA,← Zl]
   rfl
def sN {w rest:List Int}{i:Nat}(h:i<w.length):(w++rest)[i]?=w[i]?:=YV h
def aX.word {s:S}{sd:List Int}{rd:Option (List Int)}{n:Nat}(h:aX f s (sd,rd,n)){m:Nat}{t:S}{w:List Int}(hm:tr f m s=some (t,w)){i:Nat}(hi:i<w.length):bz sd rd i=w[i]?:=by
 rcases h with⟨n',t',sd',h1,h2,e⟩|⟨j,i',t',sj,xs,hj,h1,h2,_,e⟩
 . cases e
   obtain⟨y,hy,rest,hr⟩:=kK h1 (gQ h1 h2 hm)
   rw[hm]at hy
   cases hy
   have iU:sd=w++rest:=hr
   unfold bz
   rw[iU,bj (by rw[Ym];lia),sN hi]
 . cases e
   have h3:=pL hj h1 h2 m
   have hle:m<=n+m*(i'-n):=by
     have:m*1<=m*(i'-n):=Nat.mul_le_mul_left m (by lia)
     lia
   obtain⟨y,hy,rest,hr⟩:=kK h3 hle
   rw[hm]at hy
   cases hy
   have iU:sd++rep m xs=w++rest:=hr
   rw[← pP (k:=m) (by rw[iU,Ym];lia),iU,sN hi]
def aX.long {s:S}{sd:List Int}{rd:Option (List Int)}{n:Nat}(h:aX f s (sd,rd,n)){i:Nat}(hi:(bz sd rd i).isSome=true):∃m t w,tr f m s=some (t,w)/\i<w.length:=by
 rcases h with⟨n',t',sd',h1,h2,e⟩|⟨j,i',t',sj,xs,hj,h1,h2,_,e⟩
 . cases e
   show⟨n,t',sd,h1,?_⟩
   by_cases z:i<sd.length
   . show z
   . rw[dF rfl (by lia)]at hi
     cases hi
 . cases e
   show⟨_,t',_,pL hj h1 h2 (i+1),?_⟩
   rw[Ym,iz]
   by_cases z:i<sd.length
   . lia
   . by_cases x:xs.length=0
     . rw[dF (rd:=some xs) x (show sd.length<=i by lia)]at hi
       cases hi
     . have:(i+1)*1<=(i+1)*xs.length:=Nat.mul_le_mul_left _ (by lia)
       lia
def aX.fin {s:S}{sd:List Int}{rd:Option (List Int)}{n:Nat}(h:aX f s (sd,rd,n)){m:Nat}{t:S}{w:List Int}(hm:tr f m s=some (t,w))(ht:f t=none):rd=none/\sd=w:=by
 have:=aX.uniq h (.inl ⟨m,t,w,hm,ht,rfl⟩)
 injection this with e1 e2
 injection e2 with e2 _
 show⟨e2,e1⟩
def aX.Iz {s:S}{sd:List Int}{xs:List Int}{n:Nat}(h:aX f s (sd,some xs,n))(m:Nat):∃t w,tr f m s=some (t,w):=by
 rcases h with⟨n',t',sd',h1,h2,e⟩|⟨j,i',t',sj,zx,hj,h1,h2,_,e⟩
 . cases e
 . obtain⟨z,hz⟩:=tV hj h1 h2 m
   show⟨z.1,z.2,hz⟩
def aX.stop {s:S}{sd:List Int}{n:Nat}(h:aX f s (sd,none,n)):∃t,tr f n s=some (t,sd)/\f t=none:=by
 rcases h with⟨n',t',sd',h1,h2,e⟩|⟨j,i',t',sj,zx,hj,h1,h2,_,e⟩
 . cases e
   show⟨t',h1,h2⟩
 . cases e
structure HQ (f:S->Option (List Int×S))(f':S'->Option (List Int×S'))(R:S->S'->Prop):Prop where
 go:∀s s' x t,R s s'->f s=some (x,t)->∃k t',tr f' (k+1) s'=some (t',x)/\R t t'
 stop:∀s s',R s s'->f s=none->∃k t',tr f' k s'=some (t',[])/\f' t'=none
variable{R:S->S'->Prop}
theorem HQ.walk (si:HQ f f' R){s:S}{s':S'}(h0:R s s'):∀{m:Nat} {t:S} {w:List Int},tr f m s=some (t,w)->∃m' t',m<=m'/\tr f' m' s'=some (t',w)/\R t t'
 | 0,t,w,h=>by
   cases h
   show⟨0,s',Yo _,U,h0⟩
 | m+1,t,w,h=>by
   cases e1:tr f m s with
   | none=>rw[dQ e1]at h;cases h
   | some y=>
     obtain⟨m',t',h1,h2,h3⟩:=si.walk h0 (m:=m) (t:=y.1) (w:=y.2) e1
     cases e2:f y.1 with
     | none=>rw[cS (t:=y.1) (sd:=y.2) e1 e2]at h;cases h
     | some r=>
       rw[cp (t:=y.1) (u:=r.2) (x:=r.1) (sd:=y.2) e1 e2]at h
       cases h
       obtain⟨k,t2,h4,h5⟩:=si.go _ _ r.1 r.2 h3 e2
       show⟨m'+(k+1),t2,by lia,?_,h5⟩
       rw[dW h2,h4]
       rfl
def HQ.alike (si:HQ f f' R){s:S}{s':S'}(h0:R s s'){sd:List Int}{rd:Option (List Int)}{n:Nat}{sd':List Int}{rd':Option (List Int)}{n':Nat}(h:aX f s (sd,rd,n))(h':aX f' s' (sd',rd',n')):eg sd rd sd' rd':=by
 have fin:rd=none->rd'=none/\sd'=sd:=fun e=>by
   subst e
   obtain⟨t,h1,h2⟩:=h.stop
   obtain⟨m',t',_,h3,h4⟩:=si.walk h0 h1
   obtain⟨k,t2,h5,h6⟩:=si.stop _ _ h4 h2
   have h7:=dW h3 k
   rw[h5]at h7
   have h8:tr f' (m'+k) s'=some (t2,sd++[]):=h7
   rw[YO]at h8
   show h'.fin h8 h6
 have inf:∀xs,rd=some xs->∃ys,rd'=some ys:=fun xs e=>by
   subst e
   cases rd' with
   | some ys=>show⟨ys,rfl⟩
   | none=>
     obtain⟨t',h1,h2⟩:=h'.stop
     obtain⟨t,w,h3⟩:=h.Iz (n'+1)
     obtain⟨m',t2,h4,h5,_⟩:=si.walk h0 h3
     have:=gQ h1 h2 h5
     lia
 show⟨fun i=>?_,?_⟩
 . cases e:bz sd rd i with
   | some x=>
     obtain⟨m,t,w,h1,h2⟩:=h.long (i:=i) (by rw[e];rfl)
     obtain⟨m',t',_,h3,_⟩:=si.walk h0 h1
     rw[← e,h.word h1 h2,h'.word h3 h2]
   | none=>
     cases e':bz sd' rd' i with
     | none=>rfl
     | some y=>
       exfalso
       cases rd with
       | none=>
         obtain⟨e1,e2⟩:=fin rfl
         rw[e1,e2,e]at e'
         cases e'
       | some xs=>
         obtain⟨m,t',w',h1,h2⟩:=h'.long (i:=i) (by rw[e'];rfl)
         obtain⟨t,w,h3⟩:=h.Iz m
         obtain⟨m',t2,h4,h5,_⟩:=si.walk h0 h3
         obtain⟨y2,hy,rest,hr⟩:=kK h5 h4
         rw[h1]at hy
         cases hy
         have iU:w=w'++rest:=hr
         have hlt:i<w.length:=by rw[iU,Ym];lia
         have:=h.word h3 hlt
         rw[e,Yn hlt]at this
         cases this
 . cases rd with
   | none=>rw[(fin rfl).1]
   | some xs=>
     obtain⟨ys,e⟩:=inf xs rfl
     rw[e]
     rfl
end
end TW
namespace L2
open PySem PySem.Spec PyProof.Rows
section
variable{X:Cx}
theorem nX:∀{bs:List Bool} {us:List Value},Vals (bs.map V.bl) us->us=bs.map aaC
 | [],_,.nil=>rfl
 | b::bs,_,.cons r q=>by
   cases r
   rw[nX q]
   rfl
end
end L2
namespace L3
open PySem PySem.Spec PyProof.Rows L2
end L3
namespace L2
open PySem PySem.Spec PyProof.Rows SeqAt
end L2
namespace TW
open PySem L2
end TW
namespace L3
open PySem L2
end L3
namespace L2
open PySem PySem.Spec PyProof.Rows SeqAt
end L2
namespace L3
open PySem PySem.Spec PyProof.Rows L2
end L3
namespace PySem
open Sem (wp)
end PySem
namespace PySem
end PySem
namespace L2
open PySem PySem.Spec PyProof.Rows
end L2
namespace L3
open PySem PySem.Spec PyProof.Rows L2
end L3
namespace L2
open PySem PySem.Spec PyProof.Rows
def GI (K:Yl)(a:Addr):It:=
 ⟨fun i H=>∃xs x,aF K H a xs/\xs[i]?=some x,
  fun i H v H'=>∃p x,H p=none/\v=.ref p/\H'=upd H p (.tup [.int (i:Nat),x])/\∀xs,aF K H a xs->xs[i]?=some x,
  fun i H=>∃xs,aF K H a xs/\xs.length<=i⟩
def vj {P:Program}{w:World}{K:Yl}{elts:List Expr}{x1:Nat}{tp:Pos}{a n:Addr} :
   Turn P w K (.Tuple elts x1 tp) (GI K a) [n+1,n] (n+1) (fun i h=>(∃old,IsEnum h (n+1) n (i:Nat) old)/\h.IsListIter n a i) where
 mem:=by simp
 obj:=fun i h st d hd=>by
   obtain⟨⟨old,he⟩,⟨o1,e1,c1,d1⟩⟩:=st
   simp only[YF,Yz,or_false]at hd
   rcases hd with rfl|rfl
   . show⟨_,he,fun v q=>nomatch q⟩
   . show⟨_,e1,fun v q=>by rw[d1]at q;cases q⟩
 keep:=fun i h h' st k=>by
   obtain⟨⟨old,he⟩,h1⟩:=st
   show⟨⟨old,k _ (by simp) _ he⟩,h1.at fun o e=>k _ (by simp) o e⟩
 item:=by
   intro X hP hw hK hc i pins s σ H E I hf st hg
   subst hP hw hK
   obtain⟨xs,x,iM,hx⟩:=hg
   obtain⟨k9,ml,p1,_⟩:=I.list iM
   obtain⟨ux,gx,rx⟩:=ml.get hx
   obtain⟨⟨old,he⟩,h1⟩:=st
   have ne:(n+1:Addr)≠n:=Nat.succ_ne_self n
   show wpAny_pyNext_enum_item he h1 p1.isList (x:=ux) (by simpa using gx) ne fun g a1 a2 a3 a4 hk=>?_
   show⟨_,U,ab2 (s:={s with heap:=g,toks:=s.toks+1}) a1 fun g2 mQ e2=>?_⟩
   have n0:H s.heap.objs.size=none:=I.hok.fresh (Yo _)
   have G7:n+1<s.heap.objs.size:=Ys he
   have lN:Za (n+1) g g2:=e2
   have kk:∀d o,d∉([n+1,n]:List Addr)->s.heap.get? d=some o->g2.get? d=some o:=fun d o hd e=>by
     simp only[YF,Yz,or_false,not_or]at hd
     show lN.extBut _ _ hd.1 (hk d o hd.1 hd.2 e)
   have t2:IsPair g2 s.heap.objs.size (.int i s.toks) ux:=lN.extBut _ _ (Z3 G7) a3
   have I1:Inv X pins σ (upd H s.heap.objs.size (.tup [.int (i:Nat),x])) {s with heap:=g2,toks:=s.toks+1}:=I.many (ch:=[n+1,n]) hf kk (Yo _)
     ⟨by change 2<=sizeLine;decide,[.int i s.toks,ux],.cons ⟨_,rfl⟩ (.cons rx .nil),_,t2,rfl,_,rfl⟩
   show⟨.ref s.heap.objs.size,_,I1,U,⟨_,x,n0,U,U,fun zx q1=>?_⟩,⟨⟨_,by simpa using mQ⟩,a2.at fun o e=>lN.extBut _ _ ne.symm e⟩,fun d hd=>?_⟩
   . rw[I.d6 q1 iM];show hx
   . have lt:d<s.heap.objs.size:=by
       simp only[YF,Yz,or_false]at hd
       rcases hd with rfl|rfl
       . show G7
       . show abn G7
     rw[ar (YJ lt)]
     show(hf d hd).1
 done:=by
   intro X hP hw hK hc i pins s σ H E I hf st hg
   subst hP hw hK
   obtain⟨xs,iM,hend⟩:=hg
   obtain⟨k9,ml,p1,_⟩:=I.list iM
   have l1:=ml.length
   obtain⟨⟨old,he⟩,h1⟩:=st
   show wpAny_pyNext_enum_end (I.ok.hd hc) he h1 p1.isList (by simp;lia) fun g hk=>⟨U,?_⟩
   show I.lX (t':=s.toks) (ch:=[n]) (fun d hd=>hf d (by rw[List.mem_singleton.mp hd];simp)) fun d o hd e=>hk d o (fun z=>hd (by rw[z];simp)) e
 self:=fun y y y y y st h=>by
   obtain⟨⟨old,he⟩,_⟩:=st
   show aaU he h
def Jt (K:Yl)(ta:TA):TI:=fun σ H R=>ta σ H fun vs H1=>∃a,vs=[.ref a]/\(∃xs,aF K H1 a xs)/\R (GI K a) H1
def Bd {X:Cx}{a:Expr}{ta:TA}{p pos tp:Pos}{elts:List Expr}{x1:Nat}(hg:Gl X "enumerate")(hm:X.mg "enumerate"=none)(ha:pS X [a] ta)(hv:Zf "enumerate"=some (.type "enumerate"):=by first|rfl|decide +kernel) :
   PI X (.Tuple elts x1 tp) (.Call (.Name "enumerate" p) [a] [] pos) (Jt X.K ta):=by
 intro pins s σ H R I h
 show wpAny_Call_Name_kw (eB I hg hm hv ?_ (by left) (by left))
 show Y0 (bq (ha.pa pos pins s σ H _ I h) fun us s1 h9=>?_) ((ha.ns a [] rfl).1.h [] X.env) ((ha.ns a [] rfl).2 pos X.env)
 obtain⟨vs,H1,I1,r1,q1⟩:=h9
 obtain⟨l1,e,⟨xs,iM⟩,q⟩:=q1
 subst e
 cases r1 with
 | cons r1 r2=>
 cases r2
 cases r1
 obtain⟨k9,ml,p1,_⟩:=I1.list iM
 show call_enumerate_list p1.isList fun g he hi z hk=>?_
 show aaU he ?_
 have I2:Inv X pins σ H1 {s1 with heap:=g}:=I1.kept (t':=s1.toks) hk
 show⟨_,_,_,_,H1,U,I2,vj,⟨⟨_,he⟩,hi⟩,fun c hc=>?_,q⟩
 simp only[YF,Yz,or_false]at hc
 have up:∀k,cU X pins H1 (s1.heap.objs.size+k):=fun k=>I1.jY (Zu _ _) (I1.hok.fresh (Zu _ _))
 rcases hc with rfl|rfl
 . show up 1
 . show up 0
section
variable{K:Yl}{a:Addr}{xs:List V}{g:TG}
def jX {tb:TS}{D:Ends}{σ:St}{H:Hp}(Pv:Nat->St->Hp->Prop)(h0:Pv 0 σ H)(hl:∀i σ H,i<=xs.length->Pv i σ H->aF K H a xs)
   (hs:∀i x p σ H,xs[i]?=some x->Pv i σ H->H p=none->g (.ref p) σ (upd H p (.tup [.int (i:Nat),x])) fun σ2 H2=>tb {D with nx:=Pv (i+1),ct:=Pv (i+1),bk:=D.nx} σ2 H2) (hd:∀σ H,Pv xs.length σ H->D.nx σ H) :
   ∃W:Nat->Nat->St->Hp->Prop,(∃m,W 0 m σ H)/\∀i m σ H,W i m σ H ->
     ((GI K a).stop i H/\D.nx σ H)\/((GI K a).go i H/\∃N:St->Hp->Prop,(∀σ' H',N σ' H'->∃m',m'<m/\W (i+1) m' σ' H')/\∀x H',(GI K a).yld i H x H'->g x σ H' fun σ2 H2=>tb {D with nx:=N,ct:=N,bk:=D.nx} σ2 H2):=by
 show⟨fun i m σ H=>m=xs.length-i/\i<=xs.length/\Pv i σ H,⟨xs.length,by simp,YY _,h0⟩,?_⟩
 rintro i m σ H ⟨rfl,hi,p⟩
 have q1:=hl i σ H hi p
 by_cases hlt:i<xs.length
 . show .inr ⟨⟨xs,xs[i],q1,by simp[hlt]⟩,Pv (i+1),fun σ' H' p'=>⟨xs.length-(i+1),by lia,U,hlt,p'⟩,fun x H' y=>?_⟩
   obtain⟨pp,x1,hn,rfl,rfl,k⟩:=y
   show hs i x1 pp σ H (k xs q1) p hn
 . have e:i=xs.length:=by lia
   subst e
   show .inl ⟨⟨xs,q1,Yo _⟩,hd σ H p⟩
def fu {tifs:TT}{tm:TM}{σ0:St}{Z:Hp->Prop}{H:Hp}(Pv:Nat->Hp->Prop)(h0:Pv 0 H)(hl:∀i H,i<=xs.length->Pv i H->aF K H a xs)
   (turn:∀i x p H,xs[i]?=some x->Pv i H->H p=none->g (.ref p) σ0 (upd H p (.tup [.int (i:Nat),x])) fun σ2 H2=>tifs σ2 H2 fun b H3=>
     if b=true then tm σ2 H3 fun H4=>bh σ0 σ2/\∃m',m'<xs.length-i/\(m'=xs.length-(i+1)/\i+1<=xs.length/\Pv (i+1) H4)else bh σ0 σ2/\∃m',m'<xs.length-i/\(m'=xs.length-(i+1)/\i+1<=xs.length/\Pv (i+1) H3))
   (hZ:∀H,Pv xs.length H->Z H):fT (GI K a) σ0 g tifs tm Z H:=by
 show fq xs.length Pv h0 (fun i H hi p=>⟨xs,xs[i],hl i H (Zb hi) p,by simp[hi]⟩) (fun H p=>⟨xs,hl _ H (Yo _) p,Yo _⟩) (fun i H hi p x H' y=>?_) hZ
 obtain⟨pp,x1,hn,rfl,rfl,k⟩:=y
 show turn i x1 pp H (k xs (hl i H (Zb hi) p)) p hn
end
end L2
namespace L3
open PySem PySem.Spec PyProof.Rows L2
def iE {X:Cx}{a:Expr}{t:TA}{KK:Yl}{p pos tp:Pos}{elts:List Expr}{x1:Nat}(hg:Gl X "enumerate")(hm:X.mg "enumerate"=none)(ha:SA X [a] t)(hK:X.K=KK:=by first|show bG|rfl) :
   SI X (.Tuple elts x1 tp) (.Call (.Name "enumerate" p) [a] [] pos) (Jt KK t):=by
 subst hK
 show⟨Bd hg hm ha.h⟩
end L3
namespace TW
open PySem L2
end TW
namespace L2
open PySem PySem.Spec PyProof.Rows
section
variable{X:Cx}
def uc (hc:X.calm=true):dj X (.builtin "any") (fun xs H Q=>∃(l:Addr) (bs:List Bool),xs=[.ref l]/\aF X.K H l (bs.map V.bl)/\Q (.bl (bs.any id)) H):=by
 intro pins s σ H xs us Q I r h
 obtain⟨l,bs,rfl,hq,q⟩:=h
 obtain⟨u,rfl,ru⟩:=vals1 r
 obtain rfl:u=Y2 l:=ru
 obtain⟨aM,rv,pl,_⟩:=I.list hq
 have e1:=nX rv
 subst e1
 have hl:=pl.isList
 have hlt:l<s.heap.objs.size:=by obtain⟨_,e,_⟩:=hl;show Ys e
 show call_any_walk (wpAny_pyIter_list hl ?_)
 show⟨_,_,_,_,_,_,fun i=>bs.getD i false,U,Walks.list (A:=X.A.in1) (show X.A.in1.handled=none from I.ok.hd hc) s.heap.objs.size l (YJ hlt) (bs.map aaC).toArray,⟨⟨_,YG _ rfl,U,U⟩,hl.push _⟩,?_,fun h' tk hk=>?_⟩
 . intro i v s' Q' E' hP Uo
   have hv:bs[i]?.map aaC=some v:=by simpa using hP
   obtain⟨b,hb,rfl⟩:=Option.map_eq_some_iff.mp hv
   have QO:Q' (bs.getD i false) s':=Uo
   rw[YN,hb]at QO
   show wpAny_truthy_bool QO
 . have kk:∀b o,s.heap.get? b=some o->h'.get? b=some o:=old_kept hk
   show⟨.bl (bs.any id),H,I.kept kk,?_,q⟩
   have e:(YL (bs.map aaC).toArray.size).any (fun i=>bs.getD i false)=bs.any id:=by
     rw[show(bs.map aaC).toArray.size=bs.length by simp]
     rw[ZN,List.any_eq_true,List.any_eq_true]
     constructor
     . rintro⟨i,hi,e⟩
       have QU:=List.mem_range.mp hi
       rw[YN,Yn QU]at e
       show⟨_,aaP QU,e⟩
     . rintro⟨b,hb,e⟩
       obtain⟨i,hi,e2⟩:=aa7 hb
       show⟨i,List.mem_range.mpr hi,?_⟩
       rw[YN,Yn hi,Option.getD_some,e2]
       show e
   rw[e]
   rfl
end
end L2
namespace L3
open PySem PySem.Spec PyProof.Rows L2
section
variable{X:Cx}{a o e:Expr}{es:List Expr}{ta tv:TE}{t:TA}{p pos pos' apos:Pos}{x m:Str}{C:Addr}{ps:List Str}{kk:Nat}{sp:Sp}
def Ca {KK:Yl}(hc:X.calm=true:=by rfl)(hK:X.K=KK:=by first|show bG|rfl):SC X (.builtin "any") (fun xs H Q=>∃(l:Addr) (bs:List Bool),xs=[.ref l]/\aF KK H l (bs.map V.bl)/\Q (.bl (bs.any id)) H):=by
 subst hK
 show⟨uc hc⟩
end
end L3
namespace L3
open PySem PySem.Spec PyProof.Rows L2
end L3
namespace L2
open PySem PySem.Spec PyProof.Rows
end L2
namespace L3
open PySem PySem.Spec PyProof.Rows L2
end L3
namespace L2
open PySem PySem.Spec PyProof.Rows
end L2
namespace L3
open PySem PySem.Spec PyProof.Rows L2
end L3
namespace L3
open PySem PySem.Spec PyProof.Rows L2
structure SP (X:Cx)(pos:Pos)(keys:List (Option Expr))(values:List Expr)(trs:List (TE×TE)):Prop where
 h:HK X pos keys values trs
section
variable{X:Cx}{pos:Pos}{k v:Expr}{ks:List (Option Expr)}{vs:List Expr}{tk tv:TE}{trs:List (TE×TE)}
def Qv:SP X pos [] [] []:=⟨Bg⟩
def M9 (hk:SE X k tk)(hv:SE X v tv)(hr:SP X pos ks vs trs):SP X pos (some k::ks) (v::vs) ((tk,tv)::trs):=⟨xX hk.h hv.h hr.h⟩
def Ii (h:SP X pos (some k::ks) vs trs)(hall:(some k::ks).all (·.isSome)=true:=by rfl)(hl:(some k::ks).length=vs.length:=by rfl)(h15:(some k::ks).length<=15:=by left):SE X (.Dict (some k::ks) vs pos) (C3 trs):=⟨A7 h.h hall hl (fun z=>nomatch z) h15⟩
end
end L3
namespace L2
open PySem PySem.Spec PyProof.Rows
end L2
namespace L3
open PySem PySem.Spec PyProof.Rows L2
end L3
namespace PySem
open Sem (wp)
open PyProof.Rows (IsTup IsTupIter)
end PySem
namespace L2
open PySem PySem.Spec PyProof.Rows
end L2
namespace L3
open PySem PySem.Spec PyProof.Rows L2
end L3
namespace L2
open PySem PySem.Spec PyProof.Rows
end L2
namespace L3
open PySem PySem.Spec PyProof.Rows L2
end L3
namespace PySem.StrLaws
open Builtin Builtin.Str
end PySem.StrLaws
namespace L2
open PySem PySem.Spec PyProof.Rows
end L2
namespace L3
open PySem PySem.Spec PyProof.Rows L2
end L3
namespace HT
open PySem PySem.Spec PyProof.Rows
section
variable{prog:Program}{w:World}{A:Around}{E:Value->Shared->Prop}{s:Shared}
def gV {t sl:Addr}{items:Array Value}{vl vu:Value}{lo hi:Option Int}{Q:Value->Shared->Prop}(ht:IsTup s.heap t items)(hs:s.heap.IsSliceOf sl vl vu .none)(pl:IsPart vl lo)(pu:IsPart vu hi)
   (hw:bX items.size 0 lo=0/\bX items.size items.size hi=items.size)
   (h:Q (.ref t) s):wpAny (model prog w) A (getItem (.ref t) (.ref sl)) Q E s:=by
 obtain⟨os,Ec,IZ,Jb⟩:=id hs
 have NL:s.TypeIs (.ref sl) "slice":=⟨os,Ec,IZ⟩
 unfold getItem
 try with_reducible show wpAny_holding ?_
 first|show wpAny_bind (wpAny_pure ?_)|skip
 show wpAny_bind (wpAny_sequenceKey ht.typeIs (by left) ?_)
 show wpAny_bind (Y4 (name:=ZD "__getitem__") ht.typeIs Zt
   (wpAny_call_entry Zt ht.typeIs entry_tuple_getitem ?_ (args_tuple_getitem _ _)))
 change wpAny _ _ (aad (.ref t)>>=_) _ _ s
 show wpAny_bind (tupleItemsOf_ ht ?_)
 show wpAny_bind (wpAny_typeOf NL ?_)
 rw[bj (by left)]
 show wpAny_bind (ed hs pl pu ?_)
 change wpAny _ _ (if(((bX items.size 0 lo:Nat):Int)==0&&(1:Int)==1&&(bX items.size items.size hi-bX items.size 0 lo)==items.size)=true then _ else _) _ _ s
 rw[bj (by rw[hw.1,hw.2];simp)]
 unfold Builtin.Tuple.tupleIsExact
 show wpAny_bind (wpAny_bind (wpAny_typeOf ht.typeIs (wpAny_pure ?_)))
 rw[bj (by left)]
 show wpAny_bind (wpAny_rule (wpAny_pure ⟨_,U,wpAny_pure h⟩))
end
end HT
namespace L2
open PySem PySem.Spec PyProof.Rows
section
variable{X:Cx}
def KH (K:Yl):V->Option Int->Option Int->Hp->VK->Prop:=fun x lo hi H Q=>F1 K x lo hi H Q\/∃a xs,x=.ref a/\bM K H a xs/\(HT.bX xs.length 0 lo=0/\HT.bX xs.length xs.length hi=xs.length)/\Q (.ref a) H
def BR:zF X (KH X.K):=zF.or yH (by
 intro pins s σ H x v vl vu lo hi sl Q I rx hs pl pu h
 obtain⟨a,xs,rfl,hx,hw,q⟩:=h
 cases rx
 obtain⟨aM,r,ht,hz⟩:=I.tuple hx
 have hlen:aM.toArray.size=xs.length:=by rw[Yw];show r.length.symm
 show⟨"tuple",_,PyProof.Rows.slot_tuple_getitem.lookup,ht.typeIs,?_⟩
 show HT.gV ht hs pl pu (by rw[hlen];show hw) ⟨.ref a,H,I,U,q⟩)
end
end L2
namespace L3
open PySem PySem.Spec PyProof.Rows L2
section
variable{X:Cx}{a b:Expr}{ta tb:TE}{pos:Pos}
def PX {KK:Yl}{p2:Pos}(ha:SE X a ta)(hb:SE X b tb)(hK:X.K=KK:=by first|show bG|rfl):SE X (.Subscript a (.Slice none (some b) none p2) pos) (Ll (KH KK) ta iH (pI tb)):=by
 subst hK
 show⟨ir BR ha.h jF (jG hb.h)⟩
end
end L3
namespace L2
open PySem PySem.Spec PyProof.Rows
end L2
namespace L3
open PySem PySem.Spec PyProof.Rows L2
end L3
namespace L2
open PySem PySem.Spec PyProof.Rows
end L2
namespace L3
open PySem PySem.Spec PyProof.Rows L2
end L3
namespace L2
open PySem PySem.Spec PyProof.Rows
end L2
namespace L3
open PySem PySem.Spec PyProof.Rows L2
end L3
namespace L2
open PySem PySem.Spec PyProof.Rows
end L2
namespace L3
open PySem L2
end L3
namespace L2
open PySem PySem.Spec PyProof.Rows
end L2
namespace L2
open PySem PySem.Spec PyProof.Rows
end L2
namespace L2
open PySem PySem.Spec PyProof.Rows
end L2
namespace L3
open PySem L2
end L3
namespace L2
open PySem PySem.Spec PyProof.Rows SeqAt
def aW.inner {sc ME:Scope}{env:Env}{cl:List (Str×Addr)}{C:Addr}(k:sc.kind=.function)(c:∀y∈sc.names,y.2≠.cell)(n:∀x∈sc.names,x.2=.local->sc.names.lookup x.1=some .local)(f:∀x∈sc.names,x.2=.free->ME.names.lookup x.1=some .free):aW sc (compEnvC ME cl C env).scope:=
 ⟨k,c,n,fun x hx e=>by
   have h:=iQ (sc:=ME) (env:=env) (cl:=cl) (C:=C) x.1
   rw[f x hx e,Ze]at h
   have h:(compEnvC ME cl C env).scope.names.lookup x.1=_:=h
   rw[h]
   by_cases z:(YX==YX&&env.scope.kind==.function&&env.kindOf x.1==some .cell)=true
   . rw[bj z]
     show .inl rfl
   . rw[bg z]
     show .inr rfl⟩
inductive EM (K:Yl) (H:Hp):V->V->Bool->Prop where
 | flat {x y:V}:cC x=true->cC y=true->EM K H x y (kY x y)
 | text {a:Addr} {zs:List V} {t:Str}:bM K H a zs->EM K H (.ref a) (.str t) false
def vc (K:Yl):R2:=fun x y H Q=>∃a c xs ys,∃e:Nat->Bool,x=.ref a/\y=.ref c/\bM K H a xs/\bM K H c ys/\(∀j x y,xs[j]?=some x->ys[j]?=some y->EM K H x y (e j))/\Q (.bl ((YL (min xs.length ys.length)).all e&&xs.length==ys.length)) H
section
variable{X:Cx}
def Fh (hu:X.A.units+(0+1)<cLine):gF X (compareOp .Eq) (vc X.K):=by
 intro pins s σ H x y v u Q I rx ry h
 obtain⟨a,c,xs,ys,e,rfl,rfl,ha,hb,he,k⟩:=h
 cases rx;cases ry
 obtain⟨us,r1,p1,_⟩:=I.tuple ha
 obtain⟨vs,r2,p2,_⟩:=I.tuple hb
 have l1:=r1.length
 have l2:=r2.length
 show eq_tupleAt (show s.heap.IsTuple a us.toArray from p1) (show s.heap.IsTuple c vs.toArray from p2) (by lia) (dB (K:=X.K) (e:=e) r1 r2 (fun j x y h1 h2=>?_) hu) ?_
 . intro A u v ru rv hu
   have q:=he j x y h1 h2
   generalize e j=b at q ⊢
   cases q with
   | flat f1 f2=>show qh ru rv f1 f2
   | text hz=>
     obtain⟨ws,_,p3,_⟩:=I.tuple hz
     cases ru
     obtain⟨tk,rfl⟩:=rv
     show EqAt.tuple_str _ _ p3 (by lia)
 . rw[show us.toArray.size=xs.length by simp[l1],show vs.toArray.size=ys.length by simp[l2]]
   show⟨.bl _,H,I,U,k⟩
end
end L2
namespace L3
open PySem PySem.Spec PyProof.Rows L2
def Cw {X:Cx}{KK:Yl}(hu:X.A.units+(0+1)<cLine)(hK:X.K=KK:=by first|show bG|rfl):SO X (compareOp .Eq) (vc KK):=by
 subst hK
 show⟨Fh hu⟩
def PV {X:Cx}{tg iter kx vx:Expr}{ifs:List Expr}{sc:Scope}{wi:TI}{g:TG}{tifs:TT}{tk tv:TE}{i:Nat}{x:Str}{pos pos' cm:Pos}(src:List (Option Nat))(N':List Str)(hu:X.A.units+1<cLine)(S:aW sc X.env.scope)(hcap:b7 sc src N' X.N=true)(hi:SI X tg iter wi)
   (hb:∀s H C fp xe,SG (cv X N' sc s H C fp xe) tg g/\zE (cv X N' sc s H C fp xe) ifs tifs/\SE (cv X N' sc s H C fp xe) kx tk/\SE (cv X N' sc s H C fp xe) vx tv) (hN:X.N.Nodup) (hix:X.N[i]?=some x:=by rfl) (hx:Loc X.env.scope x:=by first|show Or.inl rfl|show Or.inr rfl)
   (hsw:ZJ (.DictComp kx vx [⟨tg,iter,ifs,0⟩] sc pos) (some (.Name x pos')) cm.line X.env=pure true:=by rfl) (hc:X.calm=true:=by rfl)
   (hs:∀x,YK iter X.env x=pure x:=by intro _;rfl) (hf:X.fn x=true\/X.env.scope.names.lookup x=some .local:=by first|show .inl rfl|show .inr rfl) :
   SS X (.Assign [.Name x pos'] (.DictComp kx vx [⟨tg,iter,ifs,0⟩] sc pos) cm) (lA (cM src (.dK []) wi g tifs (lh tk tv)) (dm i)):=
 ⟨ng mK hc S hcap hi.h (fun s H C fp xe D=>⟨(hb s H C fp xe).1.h,(hb s H C fp xe).2.1.h,qP (X:=cv X N' sc s H C fp xe) hu (hb s H C fp xe).2.2.1.h (hb s H C fp xe).2.2.2.h D⟩) vM hs (fun z=>rfl) hN hix hx hsw hf⟩
def Qs {X:Cx}{tg iter kx vx:Expr}{ifs:List Expr}{sc:Scope}{pos:Pos}{wi:TI}{g:TG}{tifs:TT}{tk tv:TE}(src:List (Option Nat))(N':List Str)(hu:X.A.units+1<cLine)(S:aW sc X.env.scope)(hcap:b7 sc src N' X.N=true)(hi:SI X tg iter wi)
   (hb:∀s H C fp xe,SG (cv X N' sc s H C fp xe) tg g/\zE (cv X N' sc s H C fp xe) ifs tifs/\SE (cv X N' sc s H C fp xe) kx tk/\SE (cv X N' sc s H C fp xe) vx tv) (hc:X.calm=true:=by rfl)
   (hs:∀x,YK iter X.env x=pure x:=by intro _;rfl):SE X (.DictComp kx vx [⟨tg,iter,ifs,0⟩] sc pos) (cM src (.dK []) wi g tifs (lh tk tv)):=
 ⟨nc mK hc S hcap hi.h (fun s H C fp xe D=>⟨(hb s H C fp xe).1.h,(hb s H C fp xe).2.1.h,qP (X:=cv X N' sc s H C fp xe) hu (hb s H C fp xe).2.2.1.h (hb s H C fp xe).2.2.2.h D⟩) vM hs rfl⟩
def aug {X:Cx}{e:Expr}{te:TE}(i:Nat){x:Str}{pos pos':Pos}(hN:X.N.Nodup)(he:SE X e te)(hi:X.N[i]?=some x:=by rfl)(hx:Loc X.env.scope x:=by first|show Or.inl rfl|show Or.inr rfl)(hf:X.fn x=true\/X.env.scope.names.lookup x=some .local:=by first|show .inl rfl|show .inr rfl) :
   SS X (.AugAssign (.Name x pos') .Add e pos) (Ld i te (Ri fun i j=>i+j)):=⟨FO hN hi hx he.h Ek hf⟩
def vY {X:Cx}{N' N2:List Str}{sc Wx:Scope}{s s2:Shared}{H H2:Hp}{C C2:Addr}{fp TU:List Addr}{xe W3:Value->Shared->Prop}:(cv (cv X N' sc s H C fp xe) N2 Wx s2 H2 C2 TU W3).K=X.K:=rfl
end L3
namespace L2
open PySem PySem.Spec PyProof.Rows
def dh (v d:Addr):Heap->Prop:=fun h=>h.IsItemsView v d
section
variable{X:Cx}
def ya:V->List V->Hp->VK->Prop:=fun x vs H Q=>∃d kvs,x=.ref d/\vs=[]/\H d=some (.dK kvs)/\∀v,H v=none->Q (.ref v) (upd H v (.ext (dh v d)))
def wZ:LF X "dict.items" ya:=by
 intro pins s σ H x vs v us Q I rx rv h
 obtain⟨d,kvs,rfl,rfl,hH,q⟩:=h
 cases rx
 have Vi:=rv.zero
 subst Vi
 obtain⟨z,hd,ws,rel,dd⟩:=ja I.hok hH
 show abJ abF dd.typeIs PySem.F.entry_dict_items (PySem.F.args_dict_items_1 _) (meets_dict_items (aL X.prog X.w) d hd) ⟨⟨ws,dd⟩,?_⟩
 have n0:H s.heap.objs.size=none:=I.hok.fresh (Yo _)
 show⟨.ref s.heap.objs.size,_,I.laid (o:=.ext (dh s.heap.objs.size d)) (t':=s.toks) (fun b u e=>Yr _ e) (Yo _) ⟨⟨_,YG _ rfl,U,U⟩,⟨_,YG _ rfl⟩,fun h1 h2 hv k=>?_⟩,U,q _ n0⟩
 obtain⟨o,e,r⟩:=hv
 show⟨o,k o e,r⟩
end
def GH (a:Addr)(o:Obj)(kvs:List (Key×V)):It:=
 ⟨fun i H=>H a=some (.frz o (.dK kvs))/\i<kvs.length,
  fun i H v H'=>∃p k y,H p=none/\v=.ref p/\kvs[i]?=some (k,y)/\H'=upd H p (.tup [kV k,y]),
  fun i H=>H a=some (.frz o (.dK kvs))/\kvs.length<=i⟩
def Cr {P:Program}{w:World}{k:Key}{u:Value}(h:(aL P w).is k u=true):RelV (kV k) u:=by
 rcases bE (k:=k) (v:=u) h with⟨i,t,rfl,rfl⟩|⟨x,t,rfl,rfl⟩
 . show⟨t,U⟩
 . show⟨t,U⟩
theorem md {α β:Type}{R:α->β->Prop}:∀{xs:List α} {ys:List β} {i:Nat} {x:α},Paired R xs ys->xs[i]?=some x->∃y,ys[i]?=some y/\R x y
 | _,_,_,_,.nil,h=>by simp at h
 | _,_,0,_,.cons r _,h=>by cases h;show⟨_,rfl,r⟩
 | _,_,i+1,_,.cons _ t,h=>md (i:=i) t h
theorem kr {α β:Type}{R:α->β->Prop}:∀{xs:List α} {ys:List β} {i:Nat} {y:β},Paired R xs ys->ys[i]?=some y->∃x,xs[i]?=some x/\R x y
 | _,_,_,_,.nil,h=>by simp at h
 | _,_,0,_,.cons r _,h=>by cases h;show⟨_,rfl,r⟩
 | _,_,i+1,_,.cons _ t,h=>kr (i:=i) t h
def wm {P:Program}{w:World}{H:Hp}{h:Heap}{a:Addr}{o:Obj}{es:Array DictEntry}{ep:Nat}{kvs:List (Key×V)}(ho:o.data=.dict es ep)(ok:eS P w H h)(e:H a=some (.frz o (.dK kvs))):∃vs,KV kvs vs/\h.DictAt (aL P w) a vs ep:=by
 obtain⟨e1,z,hd,vs,rel,o2,Qx,Xg,h1,h2,h3,h4⟩:=(show bC P w H h a (.frz o (.dK kvs))from ok a _ e)
 rw[e1]at h1
 cases h1
 rw[ho]at h3
 cases h3
 show⟨vs,rel,o,es,e1,h2,ho,h4⟩
def rB {P:Program}{w:World}{K:Yl}{elts:List Expr}{x1:Nat}{tp:Pos}{a n:Addr}{o:Obj}{es:Array DictEntry}{ep:Nat}{kvs:List (Key×V)}(hne:a≠n)(ho:o.data=.dict es ep) :
   Turn P w K (.Tuple elts x1 tp) (GH a o kvs) [n] n (fun i h=>∃ok ov,IsItemIter h n a i kvs.length ep ok ov) where
 mem:=by simp
 obj:=fun i h st d hd=>by
   obtain⟨ok,ov,he⟩:=st
   rw[List.mem_singleton.mp hd]
   show⟨_,he,fun v q=>nomatch q⟩
 keep:=fun i h h' st k=>by
   obtain⟨ok,ov,he⟩:=st
   show⟨ok,ov,k _ (by simp) _ he⟩
 item:=by
   intro X hP hw hK hc i pins s σ H E I hf st hg
   subst hP hw hK
   obtain⟨hH,hi⟩:=hg
   obtain⟨vs,rel,dd⟩:=wm ho I.hok hH
   obtain⟨ok,ov,he⟩:=st
   have hl:=rel.length
   obtain⟨⟨k,y⟩,hx⟩ : ∃p,kvs[i]?=some p:=⟨kvs[i],by simp[hi]⟩
   obtain⟨⟨k',u⟩,hu,ek,ru⟩:=md rel hx
   have ek:k=k':=ek
   subst ek
   rw[hl]at he
   show wpAny_pyNext_items_item he dd hu fun key g hk hit ht hz hkeep=>?_
   show⟨_,U,wpAny_letOwnedTupleGo_items (s:={s with heap:=g}) hit fun g2 mQ e2=>?_⟩
   have n0:H s.heap.objs.size=none:=I.hok.fresh (Yo _)
   have G7:n<s.heap.objs.size:=Ys he
   have lN:Za n g g2:=e2
   have kk:∀d o,d∉([n]:List Addr)->s.heap.get? d=some o->g2.get? d=some o:=fun d o hd e=>by
     have hd:d≠n:=by simpa using hd
     show lN.extBut _ _ hd (hkeep d o hd e)
   have t2:g2.get? s.heap.objs.size=some {cls:=.type "tuple",data:=.seq #[key,u]}:=lN.extBut _ _ (Z3 G7) ht
   have I1:Inv X pins σ (upd H s.heap.objs.size (.tup [kV k,y])) {s with heap:=g2}:=I.many (ch:=[n]) hf kk (Yo _)
     ⟨by change 2<=sizeLine;decide,[key,u],.cons (Cr hk) (.cons ru .nil),_,t2,rfl,_,rfl⟩
   show⟨.ref s.heap.objs.size,_,I1,U,⟨_,k,y,n0,U,hx,U⟩,⟨key,u,by rw[hl];show mQ⟩,fun d hd=>?_⟩
   rw[List.mem_singleton.mp hd,ar (YJ G7)]
   show(hf n (by simp)).1
 done:=by
   intro X hP hw hK hc i pins s σ H E I hf st hg
   subst hP hw hK
   obtain⟨hH,hend⟩:=hg
   obtain⟨vs,rel,dd⟩:=wm ho I.hok hH
   obtain⟨ok,ov,he⟩:=st
   have hl:=rel.length
   rw[hl]at he
   show wpAny_pyNext_items_end (I.ok.hd hc) he dd (by simp;lia) fun g hk=>⟨U,?_⟩
   show I.lX (t':=s.toks) (ch:=[n]) (fun d hd=>hf d hd) fun d o hd e=>hk d o (by simpa using hd) e
 self:=fun A i s Q E st h=>by
   obtain⟨ok,ov,he⟩:=st
   show PySem.W.kcp_self he h
def Ju (ta:TE):TI:=fun σ H R=>ta σ H fun x H1=>∃v d kvs,x=.ref v/\H1 v=some (.ext (dh v d))/\H1 d=some (.dK kvs)/\∀o,R (GH d o kvs) (upd H1 d (.frz o (.dK kvs)))
def xU {X:Cx}{e:Expr}{te:TE}{elts:List Expr}{x1:Nat}{tp:Pos}(he:PE X e te):PI X (.Tuple elts x1 tp) e (Ju te):=by
 intro pins s σ H R I h
 show bq (he pins s σ H _ I h) fun v s1 h9=>?_
 obtain⟨x,H1,I1,r1,q1⟩:=h9
 obtain⟨v,d,kvs,rfl,hv,hH,q⟩:=q1
 cases r1
 obtain⟨hv1,_,_⟩:=(show bC X.prog X.w H1 s1.heap v (.ext (dh v d))from I1.hok v _ hv)
 obtain⟨z,hd,vs,rel,o,es,ep,h1,h2,h3,h4⟩:=ja I1.hok hH
 have dd:s1.heap.DictAt (aL X.prog X.w) d vs ep:=⟨o,es,h1,h2,h3,h4⟩
 show wpAny_pyIter_items hv1 dd ?_
 have I2:Inv X pins σ (upd H1 d (.frz o (.dK kvs))) s1:=dM (h':=s1.heap) (t':=s1.toks) I1 (by rw[hH];show Y5) (Heap.SameBut.refl _ _) ⟨_,h1⟩ ⟨h1,z,hd,vs,rel,o,es,ep,h1,h2,h3,h4⟩
 have n0:H1 s1.heap.objs.size=none:=I1.hok.fresh (Yo _)
 have dn:d≠s1.heap.objs.size:=YJ (Ys h1)
 show⟨s1.heap.objs.size,[s1.heap.objs.size],_,_,_,U,I2.kept (t':=s1.toks) fun b o e=>Yr _ e,rB (es:=es) (ep:=ep) (o:=o) (kvs:=kvs) dn h3,⟨.none,.none,by rw[rel.length];show YG _ rfl⟩,fun b hb=>?_,q o⟩
 have e:b=s1.heap.objs.size:=by simpa using hb
 subst e
 show I1.jY (Yo _) (by rw[ar dn.symm];show n0)
section
variable{a:Addr}{o:Obj}{kvs:List (Key×V)}{g:TG}
def ur {tb:TS}{D:Ends}{σ:St}{H:Hp}(Pv:Nat->St->Hp->Prop)(h0:Pv 0 σ H)(hl:∀i σ H,i<=kvs.length->Pv i σ H->H a=some (.frz o (.dK kvs)))
   (hs:∀i k y p σ H,kvs[i]?=some (k,y)->Pv i σ H->H p=none->g (.ref p) σ (upd H p (.tup [kV k,y])) fun σ2 H2=>tb {D with nx:=Pv (i+1),ct:=Pv (i+1),bk:=D.nx} σ2 H2) (hd:∀σ H,Pv kvs.length σ H->D.nx σ H) :
   ∃W:Nat->Nat->St->Hp->Prop,(∃m,W 0 m σ H)/\∀i m σ H,W i m σ H ->
     ((GH a o kvs).stop i H/\D.nx σ H)\/((GH a o kvs).go i H/\∃N:St->Hp->Prop,(∀σ' H',N σ' H'->∃m',m'<m/\W (i+1) m' σ' H')/\∀x H',(GH a o kvs).yld i H x H'->g x σ H' fun σ2 H2=>tb {D with nx:=N,ct:=N,bk:=D.nx} σ2 H2):=by
 show⟨fun i m σ H=>m=kvs.length-i/\i<=kvs.length/\Pv i σ H,⟨kvs.length,by simp,YY _,h0⟩,?_⟩
 rintro i m σ H ⟨rfl,hi,p⟩
 have q1:=hl i σ H hi p
 by_cases hlt:i<kvs.length
 . show .inr ⟨⟨q1,hlt⟩,Pv (i+1),fun σ' H' p'=>⟨kvs.length-(i+1),by lia,U,hlt,p'⟩,fun x H' y=>?_⟩
   obtain⟨pp,k,y1,hn,rfl,hx,rfl⟩:=y
   show hs i k y1 pp σ H hx p hn
 . have e:i=kvs.length:=by lia
   subst e
   show .inl ⟨⟨q1,Yo _⟩,hd σ H p⟩
def qb {tifs:TT}{tm:TM}{σ0:St}{Z:Hp->Prop}{H:Hp}(Pv:Nat->Hp->Prop)(h0:Pv 0 H)(hl:∀i H,i<=kvs.length->Pv i H->H a=some (.frz o (.dK kvs)))
   (turn:∀i k y p H,kvs[i]?=some (k,y)->Pv i H->H p=none->g (.ref p) σ0 (upd H p (.tup [kV k,y])) fun σ2 H2=>tifs σ2 H2 fun b H3=>
     if b=true then tm σ2 H3 fun H4=>bh σ0 σ2/\∃m',m'<kvs.length-i/\(m'=kvs.length-(i+1)/\i+1<=kvs.length/\Pv (i+1) H4)else bh σ0 σ2/\∃m',m'<kvs.length-i/\(m'=kvs.length-(i+1)/\i+1<=kvs.length/\Pv (i+1) H3))
   (hZ:∀H,Pv kvs.length H->Z H):fT (GH a o kvs) σ0 g tifs tm Z H:=by
 show fq kvs.length Pv h0 (fun i H hi p=>⟨hl i H (Zb hi) p,hi⟩) (fun H p=>⟨hl _ H (Yo _) p,Yo _⟩) (fun i H hi p x H' y=>?_) hZ
 obtain⟨pp,k,y1,hn,rfl,hx,rfl⟩:=y
 show turn i k y1 pp H hx p hn
end
def yb:List V->Hp->VK->Prop:=fun xs H Q=>∃p kvs,xs=[.ref p]/\H p=some (.dK kvs)/\∀l,H l=none->Q (.ref l) (upd H l (.lst (kvs.map fun kv=>kV kv.1)))
theorem tX:∀{xs:List V} {us:List Value},us.length=xs.length->(∀(j:Nat) (v:Value),us[j]?=some v->∃x,xs[j]?=some x/\RelV x v)->Vals xs us
 | [],[],_,_=>.nil
 | [],_::_,h,_=>by simp at h
 | _::_,[],h,_=>by simp at h
 | x::xs,u::us,h,k=>by
   obtain⟨y,hy,r⟩:=k 0 u rfl
   cases hy
   show .cons r (tX (by simpa using h) fun j v e=>k (j+1) v e)
def p7 {X:Cx}(hc:X.calm=true):dj X (.type "list") yb:=by
 intro pins s σ H xs us Q I rv h
 obtain⟨d,kvs,rfl,hH,q⟩:=h
 cases rv with
 | cons r1 r2=>
 cases r2
 cases r1
 obtain⟨z,hd,vs,rel,o,es,ep,h1,h2,h3,h4⟩:=ja I.hok hH
 have dd:s.heap.DictAt (aL X.prog X.w) d vs ep:=⟨o,es,h1,h2,h3,h4⟩
 have hl:=rel.length
 show PySem.W.kdl_call (PySem.W.kdl_dict hd) (I.ok.hd hc) dd (by rw[← hl];show z) fun h' tk acc c hk hD IY=>?_
 have n0:H s.heap.objs.size=none:=I.hok.fresh (Yo _)
 have vv:Vals (kvs.map fun kv=>kV kv.1) acc.toList:=tX (by rw[Yk,Zs,IY.1,hl]) fun j v e=>by
   obtain⟨k,x,hx,hk⟩:=IY.2 j v (by rw[← Array.getElem?_toList];show e)
   obtain⟨⟨k',y⟩,hy,ek⟩:=kr rel hx
   have ek:k'=k:=ek.1
   subst ek
   show⟨kV k',by rw[YD,hy];rfl,Cr hk⟩
 show⟨.ref s.heap.objs.size,_,I.laid (o:=.lst (kvs.map fun kv=>kV kv.1)) (t':=tk) hk (Yo _) ⟨by rw[Yk];show z,acc.toList,c,vv,by rw[hD]⟩,U,q _ n0⟩
section
variable{X:Cx}{pos:Pos}
def C0 (te:TE)(g1 g2:TG):TS:=fun D σ H=>te σ H fun x H1=>g1 x σ H1 fun σ2 H2=>g2 x σ2 H2 D.nx
def Bk {t1 t2 e:Expr}{te:TE}{g1 g2:TG}(he:PE X e te)(hg1:PG X t1 g1)(hg2:PG X t2 g2)(hs:ZW [t1,t2] e pos.line X.env=pure false:=by rfl)(hw:ZX [t1,t2] e X.env=pure none:=by rfl)
   (h1:(assignEach [t1,t2] X.env).map (·.2)=[assign t1 X.env,assign t2 X.env]:=by rfl):PS X (.Assign [t1,t2] e pos) (C0 te g1 g2):=by
 intro pins s σ H D I h
 show wpAny_Assign_stores (bq (he pins s σ H _ I h) fun v s1 h9=>?_) hs hw
 obtain⟨x,H1,I1,r1,q1⟩:=h9
 rw[h1]
 show wpAny_bind (wpAny_holding (bq (hg1 pins s1 σ H1 x v _ I1 r1 q1) fun z s2 h9=>?_))
 obtain⟨σ2,H2,I2,q2⟩:=h9
 show bq (hg2 pins s2 σ2 H2 x v _ I2 r1 q2) fun z s3 q=>q
end
end L2
namespace L3
open PySem PySem.Spec PyProof.Rows L2
def rO {X:Cx}(hc:X.calm=true:=by rfl):SC X (.type "list") yb:=⟨p7 hc⟩
theorem items {X:Cx}{o:Expr}{ta:TE}{apos pos:Pos}{KK:Yl}(ho:SE X o ta)(hbase:Zw o "items" X.env (eval o X.env)=eval o X.env:=by rfl)(hline:(apos.endLine==pos.line)=true:=by rfl)(hK:X.K=KK:=by first|show bG|rfl) :
   SE X (.Call (.Attribute o "items" apos) [] [] pos) (Le KK "dict" ya ta):=by
 subst hK
 show⟨Fu aaF abF PySem.F.type_dict_items wZ ho.h hbase hline⟩
def iI {X:Cx}{e:Expr}{te:TE}{elts:List Expr}{x1:Nat}{tp:Pos}(he:SE X e te):SI X (.Tuple elts x1 tp) e (Ju te):=⟨xU he.h⟩
def Ik {X:Cx}{o e:Expr}{td ty:TE}{apos pos:Pos}(ho:SE X o td)(he:SE X e ty)(m:M1 X o "pop" apos e pos:=by show⟨rfl,rfl,rfl,rfl⟩):SE X (.Call (.Attribute o "pop" apos) [e] [] pos) (yZ td ty):=⟨xP ho.h he.h m⟩
def M4 {X:Cx}{t1 t2 e:Expr}{te:TE}{g1 g2:TG}{pos:Pos}(he:SE X e te)(h1:SG X t1 g1)(h2:SG X t2 g2)(hs:ZW [t1,t2] e pos.line X.env=pure false:=by rfl)(hw:ZX [t1,t2] e X.env=pure none:=by rfl)
   (h3:(assignEach [t1,t2] X.env).map (·.2)=[assign t1 X.env,assign t2 X.env]:=by rfl):SS X (.Assign [t1,t2] e pos) (C0 te g1 g2):=⟨Bk he.h h1.h h2.h hs hw h3⟩
end L3
namespace L2
open PySem PySem.Spec PyProof.Rows
end L2
namespace L3
open PySem L2
end L3
namespace L2
open PySem PySem.Spec PyProof.Rows
def HJ (X:Cx)(σ:St)(e:Expr)(t:TE):Prop:=∀(pins:List (Addr×Obj)) (s:Shared) (H:Hp) (Q:VK),Inv X pins σ H s->t σ H Q->wpAny (model X.prog X.w) X.A (eval e X.env) (EP X pins σ Q) X.xe s
def gH (CX:rJ)(X:Cx)(σ:St)(E:XK):Prop:=∀(pins:List (Addr×Obj)) (H:Hp) (s:Shared) (e:Value) (s':Shared),Inv X pins σ H s->CX X.stack H s E e s'->X.xe e s'
section
variable{X:Cx}{CX:rJ}{k:Nat}{f C:Addr}{fd:Yx}{ps:List Str}{sp:Sp}{dvs:List V}{ds:List Value}{E:XK}{x m:Str}{p pos apos:Pos}{e o a b:Expr}{es:List Expr}{ta tb:TE}{t:TA}{σ:St}
def Bz {pins:List (Addr×Obj)}{H:Hp}{s:Shared}{Q:VK}{us:List Value}{vs:List V}(F:aO X.prog X.w X.K X.mg X.base CX k f fd ps sp)(hr:cI k X.A)(hb:Binds X.K fd ps ds)(hd:Vals dvs ds)(hx:gH CX X σ E)
   (I:Inv X pins σ H s) (r:Vals vs us) (h:sp (vs++dvs) H Q E):wpAny (model X.prog X.w) X.A (call (.ref f) us) (EP X pins σ Q) X.xe s:=by
 have r2:Vals (vs++dvs) (us++ds):=r.append hd
 have hl:(us++ds).length=ps.length:=by rw[← r2.length];show F.len _ _ _ _ h
 show wpAny_call (codeAny_mono (F.run X.A X.stack s H ⟨us,[]⟩ (us++ds) (vs++dvs) Q E hr I.Iu (hb s us I.zq hl) r2 h) fun r s' hq=>?_)
 cases r with
 | error e=>show hx pins H s e s' I hq
 | ok fl=>
   cases fl with
   | ret u=>show I.after hq
   | next=>show Zx hq
   | brk=>show Zx hq
   | cont=>show Zx hq
def xR (F:aO X.prog X.w X.K X.mg X.base CX k f fd ps sp)(hr:cI k X.A)(hg:Gl X x)(hm:X.mg x=some (.ref f))(hk:Zq X.K (.ref f)=true)(hb:Binds X.K fd ps ds)(hd:Vals dvs ds)(hx:gH CX X σ E)
   (ha:PA X (e::es) t) (hdb:(x==("__debug__":Str))=false:=by left) (he:starEach (e::es) X.env=(false,eval e X.env)::starEach es X.env:=by rfl) (hpl:(backTo pos (starEach es X.env)).any (·.1)=false:=by rfl) :
   HJ X σ (.Call (.Name x p) (e::es) [] pos) (kJ sp dvs E t):=by
 intro pins s H Q I h
 show wpAny_Call_Name_kw (ie I hg hm ?_ hdb)
 show ab4 (h₀:=X.base) I.ok.mod.kin hk (bq (ha pos pins s σ H _ I h) fun us s1 g9=>?_) he hpl
 obtain⟨vs,H1,I1,r,q⟩:=g9
 show⟨I1.zq,?_⟩
 show Bz F hr hb hd hx I1 r q
def FF {r:R2}(hr:HH X r)(ha:HJ X σ a ta)(hb:PE X b tb)(hs:jA b):HJ X σ (.Subscript a b pos) (zw r ta tb):=by
 intro pins s H Q I h
 show Subscript_ (bq (ha pins s H _ I h) fun v s1 h9=>?_)
 obtain⟨x,H1,I1,r1,q1⟩:=h9
 show bq (hb pins s1 σ H1 _ I1 q1) fun u s2 h9=>?_
 obtain⟨y,H2,I2,r2,q2⟩:=h9
 show hr a b pins s2 σ H2 x y v u Q I2 r1 r2 q2 (hs _ _)
def Dd (K:Yl)(mg:Str->Option Value)(T:Addr)(i:Nat)(te:XK->TE)(th:TS):TS:=fun D σ H=>te (fun cls z H2=>∃C tl x,cls=.ref C/\Xc K mg x C tl/\(Y2 C::tl).contains (.ref T)=true/\th {nx:=D.nx,rt:=fun z z=>False} σ H2) σ H fun v H1=>D.nx (σ.set i (some v)) H1
def Bs {X:Cx}{tn:Str}{T:Addr}{Lp:List Value}{i:Nat}{vn:Str}{e:Expr}{fQ:List Stmt}{hst0:Stmt}{te:XK->TE}{th:TS}{np hp pos vp ap:Pos}(hst:X.stack=X.env::X.outer)(hex:X.ex=[])(hfr:X.env.frame=some X.env.locals)(hN:X.N.Nodup)
   (hi:X.N[i]?=some vn) (hx:Loc X.env.scope vn) (hs:ZJ e (some (.Name vn vp)) ap.line X.env=pure false) (hf:X.fn vn=true\/X.env.scope.names.lookup vn=some .local)
   (cT:Xc X.K X.mg tn T Lp) (hBE:Lp.contains (.type "BaseException")=true) (hg:Gl X tn)
   (hb:∀(W:Value->Shared->Prop) (pn:List (Addr×Obj)) (Ex:XK) (σ:St),gH (nO X.prog X.w X.base) {X with xe:=W,pn:=pn} σ Ex->HJ {X with xe:=W,pn:=pn} σ e (te Ex))
   (hh:∀ea:Addr,kS {X with A:=X.A.mark (some (.ref ea)),calm:=false,xe:=fun t t=>False} (hst0::fQ) th) (hdt:(tn==("__debug__":Str))=false) :
   PS X (.Try [.Assign [.Name vn vp] e ap] [.ExceptHandler (some (.Name tn np)) none (hst0::fQ) hp] [] [] pos) (Dd X.K X.mg T i te th):=by
 intro pins s σ H D I h
 let Hd:List ExceptHandler:=[.ExceptHandler (some (.Name tn np)) none (hst0::fQ) hp]
 let W:Value->Shared->Prop:=fun e s1=>wpAny (model X.prog X.w) X.A (noteFrame e X.env) (fun t s2=>wpAny (model X.prog X.w) X.A (setFlight e none) (fun t s3=>wpAny (model X.prog X.w) X.A (handleBy e X.env Hd) (SP X pins D) X.xe s3) X.xe s2) X.xe s1
 have back:∀{σ1:St} {H1:Hp} {s1:Shared} {CD:List (Addr×Obj)},Inv {X with xe:=W,pn:=X.pn++pins} CD σ1 H1 s1->Inv X pins σ1 H1 s1:=fun J=>J.back fun p hp=>aa3 _ hp
 have P4:∀p∈(X.pn++pins)++[],p∈X.pn++pins:=fun p hp=>by rw[YO]at hp;show hp
 have I0:Inv {X with xe:=W,pn:=X.pn++pins} [] σ H s:=I.other P4
 show wpAny_Try_except ?_
 show wpAny_mono (Q:=SP {X with xe:=W,pn:=X.pn++pins} [] D) (E:=W) ?_ (fun f s1 hs=>?_) (fun e s1 he=>he)
 . have body:=hb W (X.pn++pins) (fun cls t H2=>∃C tl x,cls=.ref C/\Xc X.K X.mg x C tl/\(Y2 C::tl).contains (.ref T)=true/\th {nx:=D.nx,rt:=fun t t=>False} σ H2) σ ?_ [] s H _ I0 h
   . have one:wpAny (model X.prog X.w) X.A (exec (.Assign [.Name vn vp] e ap) X.env) (SP {X with xe:=W,pn:=X.pn++pins} [] D) W s:=
       wpAny_Assign_Name (bq body fun v s1 ⟨y,H1,I1,r1,q1⟩=>cF (X:={X with xe:=W,pn:=X.pn++pins}) I1 hN hi hx r1 (fun s2 I2=>⟨_,H1,I2,q1⟩) hf) hs
     show abP (bq one fun f s1 q=>?_)
     cases f with
     | next=>show aab q
     | ret v=>show q
     | brk=>show q
     | cont=>show q
   intro CD H1 s1 e s2 J cx
   obtain⟨ea,cls,a0,B,H2,rfl,Pg,vQ,zc,Eb,ML,zk,inB,vH,RF,C,tl,x,rfl,xc,hup,q⟩:=cx
   have J0:=back J
   have Oz:({X with xe:=W,pn:=X.pn++pins}:Cx).stack=X.env::X.outer:=hst
   rw[Oz]at zc zk inB
   have LM:=zk.2.2.1
   have at_:∀h3:Heap,B.StaysIn h3->s2.heap.UpToSlots h3->Inv X pins σ H2 {s2 with heap:=h3}:=fun h3 s3 up=>by
     show J0.Cb (s':={s2 with heap:=h3}) (ch:=[]) Pg ?_ (i6 Eb vH zk.1 s3) vQ (fun b z=>nomatch z)
     rw[hst]
     show zd zc zk.1 s3 inB (yJ LM up)
   change wpAny (model X.prog X.w) X.A (noteFrame (.ref ea) X.env) _ _ _
   have TX:X.A.frames=some (X.env::X.outer):=by rw[← hst];show I.ok.frames
   show wpAny_looks_onW TX hfr zk fun h4 Jc WQ=>?_
   show wpAny_landsW Jc fun h5 DI WR=>?_
   have Ls:=WQ.trans WR
   have I5:=at_ h5 DI.1 Ls
   show wpAny_handleBy_cons (codeAny_handlers_test (ie (I5.mark (e:=some (.ref ea))) hg cT.m ?_ hdt)) (by intro z;cases z)
   obtain⟨N1,a1,a2,a3,a4,a5,a6,a7,a8,a9,b0,b1,b2,b3,b5,m1,hC,_,_,_⟩:=xc.obj I5.zq
   obtain⟨N2,c1,c2,c3,c4,c5,c6,c7,c8,c9,d0,d1,d2,d3,d5,m2,hT,_,_,_⟩:=cT.obj I5.zq
   obtain⟨ob,UZ,Ol⟩:=DI.there
   show qB hC hT UZ Ol hup hBE (codeAny_handlers_suite ?_)
   show lands_againW DI fun h6 Nl WS=>?_
   have I6:=at_ h6 Nl.1 (Ls.trans WS)
   show wpAny_mono (hh ea pins _ _ _ _ (I6.mark (e:=some (.ref ea))) q) (fun f s8 hs=>?_) (fun t t z=>z.elim)
   cases f with
   | next=>
     obtain⟨σ8,H8,I8,z8⟩:=hs
     show⟨σ8,H8,I6.unmark I8,z8⟩
   | brk=>obtain⟨_,_,_,z⟩:=hs;show z.elim
   | cont=>obtain⟨_,_,_,z⟩:=hs;show z.elim
   | ret u=>obtain⟨_,_,_,_,_,z⟩:=hs;show z.elim
 . cases f with
   | next=>
     obtain⟨σ',H',J,z⟩:=hs
     show aab ⟨σ',H',back J,z⟩
   | brk=>obtain⟨σ',H',J,z⟩:=hs;show⟨σ',H',back J,z⟩
   | cont=>obtain⟨σ',H',J,z⟩:=hs;show⟨σ',H',back J,z⟩
   | ret u=>obtain⟨v,σ',H',J,r,z⟩:=hs;show⟨v,σ',H',back J,r,z⟩
end
end L2
namespace L3
open PySem L2
section
variable{X:Cx}{pos:Pos}{a b:Expr}{tb:TE}{σ:St}
structure LH (X:Cx)(σ:St)(e:Expr)(t:TE):Prop where
 h:HJ X σ e t
def Ph {x:Str}{p:Pos}{ps:List Str}{kk:Nat}{sp:Sp}{Ex:XK}{e:Expr}{es:List Expr}{t:TA}(hp:gH (nO X.prog X.w X.base) X σ Ex)(D:TW.pY X.prog X.w X.K X.mg X.base x ps kk sp)(hr:cI kk X.A)(hg:Gl X x)(ha:SA X (e::es) t)(hdb:(x==("__debug__":Str))=false:=by left) :
   LH X σ (.Call (.Name x p) (e::es) [] pos) (kJ sp [] Ex t):=by
 obtain⟨_,_,G,kp,b,m⟩:=D
 show⟨xR G hr hg m kp b .nil hp ha.h.pa hdb ((ha.h.ns e es rfl).1.h es X.env) ((ha.h.ns e es rfl).2 pos X.env)⟩
def Vw {r:R2}(hr:SX X r)(ha:LH X σ a ta)(hb:SE X b tb)(hs:jA b:=by show fun z z=>rfl):LH X σ (.Subscript a b pos) (zw r ta tb):=⟨FF hr.h ha.h hb.h hs⟩
def P8 {tn:Str}{T:Addr}{Lp:List Value}(i:Nat){vn:Str}{e:Expr}{fQ:List Stmt}{hst0:Stmt}{te:XK->TE}{th:TS}{np hp vp ap:Pos}{KK:Yl}{mg:Str->Option Value}(hN:X.N.Nodup)(cT:Xc X.K X.mg tn T Lp)(hBE:Lp.contains (.type "BaseException")=true)(hg:Gl X tn)
   (hb:∀(W:Value->Shared->Prop) (pn:List (Addr×Obj)) (Ex:XK) (σ:St),gH (nO X.prog X.w X.base) {X with xe:=W,pn:=pn} σ Ex->LH {X with xe:=W,pn:=pn} σ e (te Ex))
   (hh:∀ea:Addr,SL {X with A:=X.A.mark (some (.ref ea)),calm:=false,xe:=fun z z=>False} (hst0::fQ) th)
   (hi:X.N[i]?=some vn:=by rfl) (hx:Loc X.env.scope vn:=by show Or.inl rfl) (hs:ZJ e (some (.Name vn vp)) ap.line X.env=pure false:=by rfl) (hf:X.fn vn=true\/X.env.scope.names.lookup vn=some .local:=by first|show .inl rfl|show .inr rfl)
   (hst:X.stack=X.env::X.outer:=by rfl) (hex:X.ex=[]:=by rfl) (hfr:X.env.frame=some X.env.locals:=by rfl) (hK:X.K=KK:=by rfl) (hm:X.mg=mg:=by rfl)
   (hdt:(tn==("__debug__":Str))=false:=by left) :
   SS X (.Try [.Assign [.Name vn vp] e ap] [.ExceptHandler (some (.Name tn np)) none (hst0::fQ) hp] [] [] pos) (Dd KK mg T i te th):=by
 subst hK hm
 show⟨Bs hst hex hfr hN hi hx hs hf cT hBE hg (fun W pn Ex σ fB=>(hb W pn Ex σ fB).h) (fun ea=>(hh ea).h) hdt⟩
end
end L3
open L3 renaming v->Y,k->L,n->M,int->aci,cons->acj,ix->ack,own->acm,one->acn,gn->aco,bo->acp,ret->acq,cmp->acr,bS->acs,str->acu,op->acv,set->acw,tup->acx,ifs->acy,nil->acz,aR->acA,lst->acB,bI->acC,ef->acD,eL->acE,b8->acF,bp->acG,gZ->acH,iL->acI,asg->acJ,tw->acK,cw->acL,eP->acM,ex->acN,lc->acO,dk->acP,fZ->acQ,bJ->acR,bl->acS,d7->acT,iR->acU,vD->acV,jz->acW,run->acX,fb->acY,xI->acZ,wL->ac0,yI->ac1,kW->ac2,kU->ac3,lq->ac4,iq->ac5,jg->ac6,pj->ac7,oR->ac8,jf->ac9,oh->ada,ko->adb,kq->ade,qJ->adf,fX->adg,iE->adh,append->adi,never->adk,extend->adl,if1->adm
set_option maxHeartbeats 1000000
namespace TW
open PySem L2
section
variable{P:Program}{w:World}{K:Yl}{mg:Str->Option Value}{base:Heap}
def lg {us:List Value}{n:Nat}(h:us.length=n+1):∃a t,us=a::t/\t.length=n:=by
 cases us with
 | nil=>cases h
 | cons a t=>show⟨a,t,rfl,Nat.succ.inj h⟩
def HZ {x qual:Str}{st:Stmt}{f:Addr}{fd:Yx}{p0:Str}(F:b9 K x qual st f fd)(h:∀(kV doc pm:Value) (an:Option Addr) (cdv ct u0:Value),abV (Zm x qual (cB st) (bV st) (aq st) .none kV doc pm an cdv ct) ⟨[u0],[]⟩=pure (([p0]:List Str).zip [u0])):Binds K fd [p0] []:=F.binds fun kV doc pm an cdv ct us hl=>by
 obtain⟨u0,Qa,rfl,h1⟩:=lg hl
 cases List.length_eq_zero_iff.mp h1
 show h kV doc pm an cdv ct u0
def nW {x qual:Str}{st:Stmt}{f:Addr}{fd:Yx}{p0 p1:Str}(F:b9 K x qual st f fd)(h:∀(kV doc pm:Value) (an:Option Addr) (cdv ct u0 u1:Value),abV (Zm x qual (cB st) (bV st) (aq st) .none kV doc pm an cdv ct) ⟨[u0,u1],[]⟩=pure (([p0,p1]:List Str).zip [u0,u1])):Binds K fd [p0,p1] []:=F.binds fun kV doc pm an cdv ct us hl=>by
 obtain⟨u0,Qa,rfl,h1⟩:=lg hl
 obtain⟨u1,SD,rfl,h2⟩:=lg h1
 cases List.length_eq_zero_iff.mp h2
 show h kV doc pm an cdv ct u0 u1
def DA {x qual:Str}{st:Stmt}{f:Addr}{fd:Yx}{p0 p1 p2:Str}(F:b9 K x qual st f fd)(h:∀(kV doc pm:Value) (an:Option Addr) (cdv ct u0 u1 u2:Value),abV (Zm x qual (cB st) (bV st) (aq st) .none kV doc pm an cdv ct) ⟨[u0,u1,u2],[]⟩=pure (([p0,p1,p2]:List Str).zip [u0,u1,u2])):Binds K fd [p0,p1,p2] []:=F.binds fun kV doc pm an cdv ct us hl=>by
 obtain⟨u0,Qa,rfl,h1⟩:=lg hl
 obtain⟨u1,SD,rfl,h2⟩:=lg h1
 obtain⟨u2,WT,rfl,h3⟩:=lg h2
 cases List.length_eq_zero_iff.mp h3
 show h kV doc pm an cdv ct u0 u1 u2
def M7 {x qual:Str}{st:Stmt}{f:Addr}{fd:Yx}{p0 p1 p2 p3:Str}(F:b9 K x qual st f fd)(h:∀(kV doc pm:Value) (an:Option Addr) (cdv ct u0 u1 u2 u3:Value),abV (Zm x qual (cB st) (bV st) (aq st) .none kV doc pm an cdv ct) ⟨[u0,u1,u2,u3],[]⟩=pure (([p0,p1,p2,p3]:List Str).zip [u0,u1,u2,u3])):Binds K fd [p0,p1,p2,p3] []:=F.binds fun kV doc pm an cdv ct us hl=>by
 obtain⟨u0,Qa,rfl,h1⟩:=lg hl
 obtain⟨u1,SD,rfl,h2⟩:=lg h1
 obtain⟨u2,WT,rfl,h3⟩:=lg h2
 obtain⟨u3,Ye,rfl,h4⟩:=lg h3
 cases List.length_eq_zero_iff.mp h4
 show h kV doc pm an cdv ct u0 u1 u2 u3
def top (i:Nat):Stmt:=PySem.Challenge.pw_twinwalk_k69_whole_runs_of_made_over_one.main.body.getD i (.Pass ⟨0,0,0,0⟩)
abbrev CJ:Stmt:=top 55
abbrev yr:Stmt:=top 56
def TK.lst {H:Hp}{a:Addr}{xs:List V}{o:HO}(h:H a=some (.lst xs)):TK H (upd H a o):=fun b ys e=>by rw[ar (dO e h (fun z=>nomatch z))];show e
theorem Paired.get {α β:Type}{F:α->β->Prop}:∀{l₁:List α} {l₂:List β} {i:Nat} {x:α},Paired F l₁ l₂->l₁[i]?=some x->∃y,l₂[i]?=some y/\F x y
 | _,_,_,_,.nil,e=>by simp at e
 | _,_,0,_,.cons r _,e=>by simp at e;subst e;show⟨_,rfl,r⟩
 | _,_,i+1,x,.cons _ t,e=>by
   obtain⟨u,h1,h2⟩:=Paired.get (i:=i) (x:=x) t (by simpa using e)
   show⟨u,by simpa using h1,h2⟩
def bF {σ:L2.St}{H:Hp}{A B:Hp->Prop}(h:A H):Gs σ H (fun b H3=>if b=true then A H3 else B H3):=k6 (A:=A H) (B:=B H) h
def au {i:Nat}{v:V}{σ:L2.St}{H:Hp}{Q:L2.St->Hp->Prop}(h:Q (σ.set i (some v)) H):dm i v σ H Q:=h
def aa {A B C:Hp}(a:ah A B)(b:ah B C):ah A C:=fun p o h=>b p o (a p o h)
def same_refl (A:Hp):ah A A:=fun z z h=>h
def gh {H:Hp}{p:Addr}(h:H p=none)(o:HO):∃H1,ah H H1/\H1 p=some o/\upd H p o=H1:=⟨_,af h o,ae,rfl⟩
def Rr {H:Hp}{p q:Addr}{o:HO}(h:H p=none)(k:upd H p o q=none)(o2:HO):∃H1,ah H H1/\H1 p=some o/\H1 q=some o2/\upd (upd H p o) q o2=H1:=⟨_,fun b u e=>af k o2 b u (af h o b u e),by rw[ar (ao ae k)];show ae,ae,rfl⟩
abbrev W7 (s:Stmt)(x:Str):Prop:=(aq s).names.lookup x=some .globalImplicit
def fP (s:Stmt){sc:Scope}(a:sc.kind=.function:=by rfl)(b:∀y∈sc.names,y.2≠.cell:=by right)(c:∀x∈sc.names,x.2=.local->sc.names.lookup x.1=some .local:=by right)(d:∀x∈sc.names,x.2=.free->(aq s).names.lookup x.1=some .cell\/(aq s).names.lookup x.1=some .free:=by right):aW sc (aq s):=⟨a,b,c,d⟩
def dE (l:List Str)(h:l.Nodup:=by right):l.Nodup:=h
def aQ {α:Type}{l:List α}{i:Nat}{a:α}(h:l[i]?=some a):i<l.length:=(List.getElem?_eq_some_iff.mp h).1
def fM {α:Type}{a b:α}{l:List α}(h:a∈b::l):a=b\/a∈l:=List.mem_cons.mp h
def bu {α:Type}{a b:α}{l:List α}(h:a=b\/a∈l):a∈b::l:=List.mem_cons.mpr h
def dC {α:Type}{a b:α}(h:a∈[b]):a=b:=List.mem_singleton.mp h
def cX {α β:Type}{f:α->β}{b:β}{l:List α}(h:b∈l.map f):∃a,a∈l/\f a=b:=List.mem_map.mp h
def mX {α β:Type}{f:α->β}{b:β}{l:List α}(h:∃a,a∈l/\f a=b):b∈l.map f:=List.mem_map.mpr h
def jy {α:Type}{a:α}{l m:List α}(h:a∈l++m):a∈l\/a∈m:=List.mem_append.mp h
def oF {α:Type}{a:α}{l m:List α}(h:a∈l\/a∈m):a∈l++m:=List.mem_append.mpr h
def ag {H H':Hp}{a:Addr}(s:ah H H')(h:H' a=none):H a=none:=by
 match e:H a with
 | none=>rfl
 | some o=>rw[s _ _ e]at h;cases h
def aA {H H':Hp}{a:Addr}{o:HO}(s:ah H H')(h:H a=none):ah H (upd H' a o):=fun b u e=>by rw[ar (ao e h)];show s b u e
def bY {H H':Hp}{a:Addr}{o:HO}(s:ah H H')(h:H' a=none):ah H (upd H' a o):=aA s (ag s h)
def gK {α:Type}(f:α->V)(xs:List α){r:Int}(h0:0<=r)(h1:r<(xs.length:Int)):∃x,xs[r.toNat]?=some x/\x∈xs/\jQ (xs.map f) r=some (f x):=by
 have hr:r.toNat<xs.length:=by lia
 have e:r=((r.toNat:Nat):Int):=by lia
 have q:jQ (xs.map f) ((r.toNat:Nat):Int)=some (f xs[r.toNat]):=aV (by rw[YD,Yn hr];rfl)
 rw[← e]at q
 show⟨xs[r.toNat],Yn hr,aaP hr,q⟩
def HY {xs:List V}{r:Int}(h0:0<=r)(h1:r<(xs.length:Int)):∃x,xs[r.toNat]?=some x/\jQ xs r=some x:=by
 have hr:r.toNat<xs.length:=by lia
 have e:r=((r.toNat:Nat):Int):=by lia
 have q:jQ xs ((r.toNat:Nat):Int)=some xs[r.toNat]:=aV (Yn hr)
 rw[← e]at q
 show⟨xs[r.toNat],Yn hr,q⟩
def aE {u1 u2:TS}{D:L2.Ends}{σ:L2.St}{H:Hp}(h:∀R:L2.St->Hp->Prop,(∀σ H,u2 D σ H->R σ H)->u1 {D with nx:=R} σ H):rq u1 u2 D σ H:=h _ fun y y z=>z
def Ig {u1 u2 u3:TS}{D:L2.Ends}{σ:L2.St}{H:Hp}(h:∀R:L2.St->Hp->Prop,(∀σ H,u3 D σ H->R σ H)->rq u1 (rq u2 fun y=>R) D σ H):rq u1 (rq u2 u3) D σ H:=h (u3 D) fun y y z=>z
def dN {X:Cx}{ss:List Stmt}{G:TS->Prop}(h:∃t,L3.SL X ss t/\G t):∃t,kS X ss t/\G t:=by obtain⟨t,a,b⟩:=h;show⟨t,a.h,b⟩
def aG {F:L2.St->Hp->Prop}{σ:L2.St}{H:Hp}(σ':L2.St)(e:σ=σ')(h:F σ' H):F σ H:=by subst e;show h
def JS {F:L2.St->Hp->Prop}{σ:L2.St}{H:Hp}(H':Hp)(e:H=H')(h:F σ H'):F σ H:=by subst e;show h
def ki {k n:Int}(h:0<n):0<=k%n:=aa1 _ (by lia)
def kh {k n:Int}(h:0<n):k%n<n:=aaB _ h
def wM {a b:Int}(c:decide (V.int a=V.int b)=true):a=b:=by have:=cZ c;injection this
def rM {P:V->Prop}{xs:List V}{r:Int}(h0:0<=r)(h1:r<(xs.length:Int))(h:∀x∈xs,P x):∃x,jQ xs r=some x/\P x:=let⟨x,h2,h3⟩:=HY h0 h1;⟨x,h3,h x (Yq h2)⟩
inductive Np where
 | put (x:Str) (s:E) (n:Int)|say (s:E) (n:Int)|test (c:E) (n o:Int)|pick (x:Str) (n:Int)|fin
def aI (H:Hp):V->Np->Prop
 | v,.put x s n=>∃u,Tp H v [.str "put",.str x,u,.int n]/\eK H u s
 | v,.say s n=>∃u,Tp H v [.str "say",u,.int n]/\eK H u s
 | v,.test c n o=>∃u,Tp H v [.str "test",u,.int n,.int o]/\eK H u c
 | v,.pick x n=>Tp H v [.str "pick",.str x,.int n]
 | v,.fin=>Tp H v [.str "end"]
theorem aI.keep {H H':Hp}(k:TK H H'):∀{e:Np} {v:V},aI H v e->aI H' v e
 | .put _ _ _,_,⟨u,h,a⟩=>⟨u,h.keep k,a.keep k⟩
 | .say _ _,_,⟨u,h,a⟩=>⟨u,h.keep k,a.keep k⟩
 | .test _ _ _,_,⟨u,h,a⟩=>⟨u,h.keep k,a.keep k⟩
 | .pick _ _,_,h=>Tp.keep k h
 | .fin,_,h=>Tp.keep k h
def dy (H:Hp)(r:Addr):Prop:=∃a b:Int,H r=some (.lst [.int a,.int b])/\True
structure Rl (r:Addr)(H H':Hp):Prop where
 rl:dy H' r
 k:∀b o,b≠r->H b=some o->H' b=some o
section
variable{r p:Addr}{H H1 H2:Hp}{o:HO}
def dy.same (h:dy H r)(s:ah H H1):dy H1 r:=by obtain⟨a,b,h1,h2⟩:=h;show⟨a,b,s _ _ h1,h2⟩
def dy.ne (h:dy H r)(hp:H p=none):p≠r:=fun e=>by
 obtain⟨a,b,h1,_⟩:=h
 rw[e,h1]at hp
 cases hp
def Rl.refl (h:dy H r):Rl r H H:=⟨h,fun y y y z=>z⟩
def Rl.trans (a:Rl r H H1)(b:Rl r H1 H2):Rl r H H2:=⟨b.rl,fun c o n z=>b.k c o n (a.k c o n z)⟩
def Rl.of (h:dy H r)(s:ah H H1):Rl r H H1:=⟨h.same s,fun b o y z=>s b o z⟩
def Rl.new (h:dy H r)(hp:H p=none):Rl r H (upd H p o):=Rl.of h (af hp o)
def Rl.tk (h:dy H r)(l:Rl r H H1):TK H H1:=fun b xs z=>l.k b _ (fun e=>by
 obtain⟨a,c,h1,_⟩:=h
 rw[e,h1]at z
 cases z) z
def Rl.put (l:Rl r H H1)(n:p≠r)(hp:H p=none):Rl r H (upd H1 p o):=⟨let⟨a,b,h1,h2⟩:=l.rl;⟨a,b,by rw[ar n.symm];show h1,h2⟩,fun b ob nb z=>by rw[ar (ao z hp)];show l.k b ob nb z⟩
def Rl.no (l:Rl r H H1)(n:p≠r)(h:H1 p=none):H p=none:=by
 match e:H p with
 | none=>rfl
 | some o=>rw[l.k _ _ n e]at h;cases h
end
def aK {c:Bool}{A B:Prop}(h:c=false)(b:B):if c=true then A else B:=by rw[h];show b
def Dy {a:V}{r:List V}:jQ (a::r) 0=some a:=aV (xs:=a::r) (j:=0) rfl
def dI:Sp:=fun vs H Q z=>∃(r:Addr) (m:Int),vs=[.ref r,.int m]/\dy H r/\0<m/\m<2^110/\∀(k:Int) (H':Hp),0<=k->k<m->Rl r H H'->Q (.int k) H'
def nk:aC ["pot","many","cell","stir"] ["pot","many"] (aq CJ):=df
def aP {K:Yl}{H:Hp}{p:Addr}{xs:List V}{k:Int}{z:V}{R:V->Prop}(hq:H p=some (.tup xs))(he:jQ xs k=some z)(q:R z):∃p' zx j z,V.ref p=.ref p'/\V.int k=.int j/\bM K H p' zx/\jQ zx j=some z/\R z:=⟨p,xs,k,z,rfl,rfl,bM.of hq,he,q⟩
def eA {K:Yl}{H:Hp}{p:Addr}{xs:List V}{k:Int}{z:V}{R:V->Prop}(hq:H p=some (.lst xs))(he:jQ xs k=some z)(q:R z):∃p' zx j z,V.ref p=.ref p'/\V.int k=.int j/\aF K H p' zx/\jQ zx j=some z/\R z:=⟨p,xs,k,z,rfl,rfl,aF.of hq,he,q⟩
def jL {K:Yl}{H:Hp}{σ:L2.St}{Q:L2.St->Hp->Prop}{a:Addr}{x y:V}{i j:Nat}(h:H a=some (.tup [x,y]))(q:Q ((σ.set i (some x)).set j (some y)) H):z3 K 2 (jZ (dm i) (jZ (dm j) zZ)) (.ref a) σ H Q:=⟨a,_,rfl,bM.of h,rfl,_,_,rfl,_,_,rfl,rfl,q⟩
def Lu {K:Yl}{H:Hp}{σ:L2.St}{Q:L2.St->Hp->Prop}{a:Addr}{x y z:V}{i j k:Nat}(h:H a=some (.tup [x,y,z]))(q:Q (((σ.set i (some x)).set j (some y)).set k (some z)) H):z3 K 3 (jZ (dm i) (jZ (dm j) (jZ (dm k) zZ))) (.ref a) σ H Q:=⟨a,_,rfl,bM.of h,rfl,_,_,rfl,_,_,rfl,_,_,rfl,rfl,q⟩
def AQ {f:Addr}{fd:Yx}(F:b9 K "_law_next" "_law_next" CJ f fd):aO P w K mg base bU 1 f fd ["pot","many"] dI:=by
 show F.c0 nk fun cdv A outer s H vs Q E hr h=>?_
 obtain⟨r,m,rfl,⟨a,b,zo,_⟩,m0,m1,q⟩:=h
 show dN ⟨_,(acj (acJ (acv acL (ack acD (Y 0) aci) aci) (L3.IM (Y 0) aci))
   (acj (acw 2 nk.nd (ack acD (Y 0) aci))
   (acj (acy (acr L3.EG (Y 2) (acv L3.JX aci aci)) (acj (acJ (acv adb (Y 2) (Y 1)) (L3.IM (Y 0) aci))
   (acn (acq (acv ac6 (Y 2) (Y 1))))) acz)
   (acj (acw 3 nk.nd (acv ac6 (acv acL (acv acL (acv acT (Y 2) aci) (acv acT (ack acD (Y 0) aci) aci)) aci) aci))
   (acj (acw 3 nk.nd (acv ac6 (acv acT (Y 3) (Y 3)) aci))
   (acn (acq (acv ac6 (acv adb (acv ac6 (acv acL (acv acT (Y 3) aci) (acv acT (ack acD (Y 0) aci) aci)) aci) aci) (Y 1))))))))),?_⟩
 have fin:∀(k a' b':Int) (H1:Hp),(∀c o,c≠r->H c=some o->H1 c=some o)->H1 r=some (.lst [.int a',.int b'])->0<=k->k<m->Q (.int k) H1:=fun k a' b' H1 h1 h2 k0 k1=>q k _ k0 k1 ⟨⟨a',b',h2,Y5⟩,h1⟩
 show aE fun Rk kR=>?_
 show⟨_,U,?_⟩
 show eA zo U ?_
 show⟨_,_,U,U,_,U,r,_,1,1,U,U,zo,U,?_⟩
 obtain⟨b1,eb⟩ : ∃b1,b1=b+1:=⟨_,rfl⟩
 show kR _ _ ?_
 show JS (upd H r (.lst [.int a,.int b1])) (by rw[eb];rfl) ?_
 have vA:(upd H r (.lst [.int a,.int b1])) r=some (.lst [.int a,.int b1]):=ae
 have k1:∀c o,c≠r->H c=some o->(upd H r (.lst [.int a,.int b1])) c=some o:=fun c o n z=>by rw[ar n];show z
 generalize upd H r (.lst [.int a,.int b1])=H1 at vA k1 ⊢
 show aE fun Rk kR=>?_
 show⟨_,U,?_⟩
 show eA vA U ?_
 show au (kR _ _ ?_)
 show aG [some (.ref r),some (.int m),some (.int a),none] U ?_
 show aE fun Rk kR=>?_
 show⟨_,U,_,_,U,U,⟨by left,by left,by left⟩,_,_,U,U,_,U,aN (fun y=>?_) (fun y=>?_)⟩
 . show⟨_,U,_,U,_,_,U,U,⟨m0,Int.lt_trans m1 (by right)⟩,_,U,r,_,0,0,U,U,vA,U,?_⟩
   show⟨_,U,_,U,_,_,U,U,m0,?_⟩
   show fin _ _ _ _ (fun c o n z=>by rw[ar n];show k1 c o n z) ae (ki m0) (kh m0)
 show kR _ _ (aE fun Rk kR=>?_)
 show⟨_,U,_,_,U,U,.inr ⟨by left,by left⟩,_,U,?_⟩
 show eA vA U ?_
 show⟨_,_,U,U,.inr ⟨by left,by left⟩,_,_,U,U,_,_,U,U,_,_,U,U,(by change(0:Int)<2147483647;decide),?_⟩
 obtain⟨s0,es,s1,s2⟩ : ∃s0,s0=(a*69621+b1*7919+13)%2147483647/\0<=s0/\s0<2147483647:=⟨_,rfl,ki (by left),kh (by left)⟩
 show au (kR _ _ ?_)
 show aG [some (.ref r),some (.int m),some (.int a),some (.int s0)] (by rw[es];rfl) ?_
 show aE fun Rk kR=>?_
 show⟨_,U,_,U,_,_,U,U,.inl ⟨by lia,by lia⟩,_,_,U,U,(by change(0:Int)<2147483629;decide),?_⟩
 show au (kR _ _ ?_)
 show⟨_,U,_,_,U,U,.inr ⟨by left,by left⟩,_,U,?_⟩
 show eA vA U ?_
 show⟨_,_,U,U,.inr ⟨by left,by left⟩,_,_,U,U,_,_,U,U,(by change(0:Int)<2147483587;decide),_,_,U,U,⟨by left,by right⟩,_,U,_,_,U,U,m0,?_⟩
 show fin _ _ _ _ k1 vA (ki m0) (kh m0)
def rf (K:Yl):Sp:=fun vs H Q z=>∃(a:Addr) (sc:List Int),vs=[.ref a]/\aF K H a (sc.map V.int)/\sc.length<=63/\∀(L8:Addr) (ps:List Addr) (H':Hp),ah H H'->H L8=none->H' L8=some (.lst (ps.map V.ref))->1<=ps.length->ps.length<=63->ps.Nodup->(∀p∈ps,H p=none/\p≠L8/\dy H' p)->Q (.ref L8) H'
def qE {α:Type}{l:List α}{x:α}(h:l.Nodup)(n:x∉l):(l++[x]).Nodup:=by
 rw[aaH]
 show⟨h,by simp,fun a ha b hb e=>by rw[dC hb]at e;show n (e▸ha)⟩
def Gi:aC ["script"] ["script"] (aq yr):=df
def ba {α:Type}{f:α->V}{l:List α}{i:Nat}{v:V}(h:(l.map f)[i]?=some v):∃x,l[i]?=some x/\v=f x:=by
 rw[YD]at h
 obtain⟨x,h1,h2⟩:=Option.map_eq_some_iff.mp h
 show⟨x,h1,h2.symm⟩
def AV {f:Addr}{fd:Yx}(F:b9 K "_law_pots" "_law_pots" yr f fd)(m_len:mg "len"=none):aO P w K mg base bU 1 f fd ["script"] (rf K):=by
 show F.c0 Gi fun cdv A outer s H vs Q E hr h=>?_
 obtain⟨a,sc,rfl,hs,Uj,q⟩:=h
 show dN ⟨_,(acj (acy (acr acC (acA acG U m_len Yy (L (Y 0) M)) aci) (acn (acq (acB (L (acB (L aci (L aci M))) M)))) acz)
   (acn (acq (acO [none] ["cell"] (fP yr) U (acI (ac7 (Y 0) aci)) (fun y y y y y=>⟨(aco 0 (dE ["cell"])),acH,(acB (L (Y 0) (L aci M)))⟩))))),?_⟩
 show aE fun Rk kR=>?_
 show⟨_,U,a,_,U,.inl hs,U,_,U,aN (fun y=>?_) (fun cc=>?_)⟩
 . show⟨aeu,fun p hp=>?_⟩
   obtain⟨H1,sp,gp,zz⟩:=gh hp (.lst [.int 0,.int 0])
   rw[zz];clear zz
   show⟨aet,fun L8 hL=>?_⟩
   show q L8 [p] _ (bY sp hL) (ag sp hL) ae (by change 1<=1;decide) (by change 1<=63;decide) (by simp) fun p' kM=>?_
   rw[dC kM]
   show⟨hp,ao gp hL,0,0,(af hL _) _ _ gp,Y5⟩
 have pos:0<sc.length:=by
   show Nat.pos_of_ne_zero fun z=>cc ?_
   rw[Yk,z]
   rfl
 show kR _ _ ?_
 show⟨_,U,_,U,a,_,U,hs,fun l hl=>?_⟩
 have ec:cy (sc.map V.int) none (some 63)=sc.map V.int:=by
   unfold cy
   have e0:HT.bX (sc.map V.int).length 0 none=0:=rfl
   have e1:HT.bX (sc.map V.int).length (sc.map V.int).length (some ((63:Nat):Int))=min 63 (sc.map V.int).length:=HT.dt _ _ _
   rw[e0,show(63:Int)=((63:Nat):Int)from rfl,e1,Zo,Z2,Yk,abv Uj]
   show YI (by rw[Yk];show Yo _)
 rw[ec]
 obtain⟨H1,sl,gl,zz⟩:=gh hl (.lst (sc.map V.int))
 rw[zz];clear zz
 show⟨l,U,⟨_,aF.of gl⟩,fun D hD=>?_⟩
 have nD:=ag sl hD
 show aT (xs:=sc.map V.int) (fun(i:Nat) Hx=>ah H1 Hx/\∃ps:List Addr,Hx D=some (.lst (ps.map V.ref))/\ps.length=i/\ps.Nodup/\∀p∈ps,H1 p=none/\p≠D/\dy Hx p) ⟨af hD _,[],ae,U,.nil,fun y z=>nomatch z⟩ (fun i Hx y z=>aF.of (z.1 _ _ gl)) (fun i x0 Hx hx z=>?_) (fun Hx z=>?_)
 . obtain⟨sx,ps,gD,pl,nd,al⟩:=z
   have cL:=(aQ hx)
   obtain⟨c,_,rfl⟩:=ba hx
   show au ?_
   show bF (A:=fun H5=>cf _ D _ H5 _) ?_
   show⟨_,U,aeu,fun p hp=>?_⟩
   have sp:=af hp (.lst [.int c,.int 0])
   have gp:(upd Hx p (.lst [.int c,.int 0])) p=some (.lst [.int c,.int 0]):=ae
   generalize upd Hx p (.lst [.int c,.int 0])=Hy at sp gp ⊢
   have pD:p≠D:=fun z=>by rw[z,gD]at hp;cases hp
   have GS:=sp _ _ gD
   show⟨_,GS,aD (by rw[Yk]at cL ⊢;lia),aB (Pv:=fun(i:Nat) Hx=>ah H1 Hx/\∃ps:List Addr,Hx D=some (.lst (ps.map V.ref))/\ps.length=i/\ps.Nodup/\∀p∈ps,H1 p=none/\p≠D/\dy Hx p) (by repeat' constructor) cL ⟨aA (aa sx sp) hD,ps++[p],by rw[ae,Yt];rfl,by rw[Ym,pl];rfl,qE nd (fun z=>?_),fun p' kM=>?_⟩⟩
   . obtain⟨_,_,a1,b1,h1,_⟩:=al p z
     rw[h1]at hp
     cases hp
   . rcases jy kM with z|z
     . obtain⟨u1,u2,a1,b1,h1,_⟩:=al p' z
       show⟨u1,u2,a1,b1,by rw[ar u2];show sp _ _ h1,Y5⟩
     . rw[dC z]
       show⟨ag sx hp,pD,c,0,by rw[ar pD];show gp,Y5⟩
 obtain⟨sx,ps,gD,pl,nd,al⟩:=z
 rw[Yk]at pl
 show q D ps Hx (aa sl sx) nD gD (by lia) (by lia) nd fun p hp=>⟨ag sl (al p hp).1,(al p hp).2⟩
abbrev yw:Stmt:=top 57
theorem sub_len {α:Type}[DecidableEq α]:∀{xs ys:List α},xs.Nodup->(∀x∈xs,x∈ys)->xs.length<=ys.length
 | [],_,_,_=>YY _
 | x::r,ys,nd,h=>by
   rw[aas]at nd
   have hx:x∈ys:=h x (bu (.inl rfl))
   have ih:=sub_len (xs:=r) (ys:=ys.erase x) nd.2 fun y hy=>(List.mem_erase_of_ne (a:=y) (b:=x) (fun e:y=x=>nd.1 (e▸hy))).mpr (h y (bu (.inr hy)))
   have hl:=List.length_erase_of_mem hx
   have Ai:0<ys.length:=List.length_pos_of_mem hx
   rw[YS]
   lia
def DC (xs:List V){k:Nat}(h:k<=xs.length):cy xs none (some (k:Int))=xs.take k:=by
 unfold cy
 have e0:HT.bX xs.length 0 none=0:=rfl
 have e1:HT.bX xs.length xs.length (some (k:Int))=k:=by rw[HT.dt];lia
 rw[e0,e1,Zo,Z2]
theorem Paired.snoc {α β:Type}{R:α->β->Prop}:∀{a:List α} {b:List β} {x:α} {y:β},Paired R a b->R x y->Paired R (a++[x]) (b++[y])
 | _,_,_,_,.nil,h=>.cons h .nil
 | _,_,_,_,.cons r t,h=>.cons r (Paired.snoc t h)
structure SV (ns:List Str):Prop where
 nd:ns.Nodup
 l4:ns.length=4
 l8:∀x∈ns,x.length<=8
def de:aj->Int
 | []=>1
 | b::l=>b.2*de l
theorem ky:∀(l:aj) (b:Str×Int),de (l++[b])=de l*b.2
 | [],b=>by change b.2*1=1*b.2;rw[Int.mul_one,Int.one_mul]
 | a::l,b=>by change a.2*de (l++[b])=a.2*de l*b.2;rw[ky l b,abj]
structure Dg (most:Int)(bs:aj):Prop where
 nd:(bs.map (·.1)).Nodup
 l4:bs.length<=4
 l8:∀b∈bs,b.1.length<=8
 sz:∀b∈bs,1<=b.2/\b.2<=16
 pr:de bs<=most
theorem iu:∀{bs:aj},(∀b∈bs,1<=b.2)->1<=de bs
 | [],_=>aaS 1
 | b::l,h=>by
   have h1:=h b Y9
   have h2:=iu (bs:=l) fun x hx=>h x (Y1 _ hx)
   have:=Int.mul_le_mul h1 h2 (by left) (by lia)
   change 1<=b.2*de l
   lia
def tQ:Sp:=fun vs H Q z=>∃(r:Addr) (most wide:Int),vs=[.ref r,.int most,.int wide]/\dy H r/\1<=most/\most<=65536/\1<=wide/\wide<=16/\∀(B:Addr) (vb:List V) (bs:aj) (H':Hp),Rl r H H'->B≠r->H B=none->H' B=some (.lst vb)->Paired (eR H') vb bs->Dg most bs->Q (.ref B) H'
def eF:aC ["pot","most","wide","names","found","left","name","size"] ["pot","most","wide"] (aq yw):=df
def xD {f:Addr}{fd:Yx}(F:b9 K "_law_some_boxes" "_law_some_boxes" yw f fd)(m_min:mg "min"=none)(NX:aS P w K mg base "_law_next" ["pot","many"] 1 dI):aO P w K mg base bU 2 f fd ["pot","most","wide"] tQ:=by
 show F.c0 eF fun cdv A outer s H vs Q E hr h=>?_
 obtain⟨r,most,wide,rfl,rl,JL,OU,w1,w9,q⟩:=h
 show dN ⟨_,(acj (acw 3 eF.nd (ack acD (acB (L (acB (L acu (L acu (L acu (L acu M))))) (L (acB (L acu (L acu (L acu (L acu M))))) (L (acB (L acu (L acu (L acu (L acu M))))) M)))) (acm NX hr U (L (Y 0) (L aci M)))))
   (acj (acw 4 eF.nd (acB M))
   (acj (acw 5 eF.nd (Y 1))
   (acj (acM (acI (ac7 (Y 3) (acm NX hr U (L (Y 0) (L aci M))))) (aco 6 eF.nd) (acj (acw 7 eF.nd (acv acL aci (acm NX hr U (L (Y 0) (L (acA L3.rQ U m_min (by right) (L (Y 5) (L (Y 2) M))) M)))))
   (acj (acw 5 eF.nd (acv adb (Y 5) (Y 7)))
   (acn (acN (adi (Y 4) (L (acx (L (Y 6) (L (Y 7) M))) M)))))))
   (acn (acq (Y 4))))))),?_⟩
 show aE fun Rk kR=>?_
 show⟨aew,fun m0 Oe=>?_⟩
 obtain⟨Xa,Hl,Ue,zz⟩:=gh Oe (.lst [.str "a",.str "b",.str "c",.str "d"])
 rw[zz];clear zz
 show⟨aew,fun m1 hm1=>?_⟩
 obtain⟨MQ,sm1,LZ,zz⟩:=gh hm1 (.lst [.str "x",.str "xx",.str "y",.str "abcdefgh"])
 rw[zz];clear zz
 show⟨aew,fun m2 hm2=>?_⟩
 obtain⟨MR,sm2,L0,zz⟩:=gh hm2 (.lst [.str "q",.str "put",.str "end",.str "test"])
 rw[zz];clear zz
 show⟨aev,fun lC Q0=>?_⟩
 obtain⟨SR,slC,Ud,zz⟩:=gh Q0 (.lst [V.ref m0,V.ref m1,V.ref m2])
 rw[zz];clear zz
 have sA:ah H SR:=(aa (aa (aa Hl sm1) sm2) slC)
 have rA:=rl.same sA
 show⟨_,U,r,3,U,rA,by left,by left,fun k H1 k0 k1 l1=>?_⟩
 obtain⟨_,oB,nl,ns,rfl,gn,nr,nm⟩:=rM (P:=fun v=>∃(nl:Addr) (ns:List Str),v=.ref nl/\H1 nl=some (.lst (ns.map V.str))/\nl≠r/\SV ns) (xs:=[.ref m0,.ref m1,.ref m2]) (r:=k) k0 k1 (fun x hx=>by
   rcases fM hx with e|hx
   . show⟨m0,(["a","b","c","d"]:List Str),e,l1.k _ _ (rl.ne Oe) (slC _ _ (sm2 _ _ (sm1 _ _ Ue))),(rl.ne Oe),⟨by right,U,by right⟩⟩
   rcases fM hx with e|hx
   . show⟨m1,(["x","xx","y","abcdefgh"]:List Str),e,l1.k _ _ (rl.ne (ag Hl hm1)) (slC _ _ (sm2 _ _ LZ)),(rl.ne (ag Hl hm1)),⟨by right,U,by right⟩⟩
   . show⟨m2,(["q","put","end","test"]:List Str),dC hx,l1.k _ _ (rl.ne (ag Hl (ag sm1 hm2))) (slC _ _ L0),(rl.ne (ag Hl (ag sm1 hm2))),⟨by right,U,by right⟩⟩)
 show eA (l1.k _ _ (rl.ne (ag Hl (ag sm1 (ag sm2 Q0)))) Ud) oB ?_
 show au (kR _ _ ?_)
 show aG [some (.ref r),some (.int most),some (.int wide),some (.ref nl),none,none,none,none] U ?_
 have Mf:Rl r H H1:=(Rl.of rl sA).trans l1
 show Ig fun Rk kR=>?_
 show⟨aes,fun B hB=>?_⟩
 have Br:B≠r:=Mf.rl.ne hB
 have BH:=Mf.no Br hB
 have Bn:nl≠B:=ao gn hB
 have lB:Rl r H1 (upd H1 B (.lst [])):=Rl.new Mf.rl hB
 have gB:(upd H1 B (.lst [])) B=some (.lst []):=ae
 generalize upd H1 B (.lst [])=H2 at lB gB ⊢
 show au ?_
 show⟨_,U,?_⟩
 show au (kR _ _ ?_)
 show aG [some (.ref r),some (.int most),some (.int wide),some (.ref nl),some (.ref B),some (.int most),none,none] U ?_
 show aE fun Rk kR=>?_
 show⟨_,U,_,U,r,5,U,lB.rl,by left,by left,fun k H3 k0 k1 l3=>?_⟩
 have Ug:=l3.k _ _ nr (lB.k _ _ nr gn)
 show⟨_,U,nl,_,U,aF.of Ug,fun sl Aj=>?_⟩
 obtain⟨kn,Tu⟩ : ∃kn:Nat,k=(kn:Int):=⟨k.toNat,by lia⟩
 rw[Tu,DC _ (by rw[Yk,nm.l4];lia),← aaL]
 have Si:sl≠r:=l3.rl.ne Aj
 have WC:sl≠B:=fun z=>by rw[z,l3.k _ _ Br gB]at Aj;cases Aj
 have ls:Rl r H3 (upd H3 sl (.lst ((ns.take kn).map V.str))):=Rl.new l3.rl Aj
 have L1:(upd H3 sl (.lst ((ns.take kn).map V.str))) sl=some (.lst ((ns.take kn).map V.str)):=ae
 generalize upd H3 sl (.lst ((ns.take kn).map V.str))=H4 at ls L1 ⊢
 have JC:=lB.trans (l3.trans ls)
 have T1:=(l3.trans ls).k _ _ Br gB
 have Sy:(ns.take kn).Nodup:=nm.nd.sublist (aaG _ _)
 have tl:(ns.take kn).length<=4:=by rw[Yu,nm.l4];lia
 have t8:∀x∈ns.take kn,x.length<=8:=fun x hx=>nm.l8 x (aal hx)
 generalize ns.take kn=ms at L1 Sy tl t8
 show⟨sl,U,⟨_,aF.of L1⟩,?_⟩
 show dA (xs:=ms.map V.str) (fun(i:Nat) (σ:L2.St) (Hx:Hp)=>Rl r H1 Hx/\Hx sl=some (.lst (ms.map V.str))/\∃(lf:Int) (o6 o7:Option V) (vb:List V) (bs:aj),σ=[some (.ref r),some (.int most),some (.int wide),some (.ref nl),some (.ref B),some (.int lf),o6,o7]/\1<=lf/\lf<=65536/\de bs*lf<=most/\Hx B=some (.lst vb)/\Paired (eR Hx) vb bs/\bs.map (·.1)=ms.take i/\∀b∈bs,1<=b.2/\b.2<=16) ⟨JC,L1,most,none,none,[],[],U,JL,OU,by change 1*most<=most;lia,T1,.nil,U,fun b hb=>nomatch hb⟩ (fun i σ Hx u z=>aF.of z.2.1) (fun i x0 σ Hx hx z=>?_) (fun σ Hx z=>?_)
 . obtain⟨lx,gs,lf,o6,o7,vb,bs,rfl,f1,f9,pr,hb,pb,EA,sz1⟩:=z
   obtain⟨x,wJ,rfl⟩:=ba hx
   have il:i<ms.length:=(aQ wJ)
   show au ?_
   show aG [some (.ref r),some (.int most),some (.int wide),some (.ref nl),some (.ref B),some (.int lf),some (.str x),o7] U ?_
   show aE fun Rj kj=>?_
   obtain⟨mn,Nh,n1,n2,n3⟩ : ∃mn,mn=(if wide<lf then wide else lf)/\1<=mn/\mn<=16/\mn<=lf:=by
     show⟨_,U,?_,?_,?_⟩<;>split<;>lia
   show⟨_,U,_,U,_,U,_,_,U,r,mn,by rw[Nh];rfl,lx.rl,by lia,Zc n2 (by left),fun k H5 k0 k1 l5=>⟨_,_,U,U,?_⟩⟩
   obtain⟨sz,TJ⟩ : ∃sz,sz=1+k:=⟨_,rfl⟩
   show au ?_
   show kj _ _ ?_
   show aG [some (.ref r),some (.int most),some (.int wide),some (.ref nl),some (.ref B),some (.int lf),some (.str x),some (.int sz)] (by rw[TJ];rfl) ?_
   have Af:=l5.k _ _ Br hb
   have VG:=lx.trans l5
   show aE fun Rj kj=>?_
   show⟨_,U,_,U,_,_,U,U,⟨by lia,Zc (show sz<=65536 by lia) (by right)⟩,?_⟩
   have q1:1<=lf/sz:=Int.le_ediv_of_mul_le (by lia) (by lia)
   have q2:lf/sz<=65536:=acb (Int.ediv_le_self _ (by lia)) f9
   show au ?_
   show kj _ _ ?_
   show⟨_,U,.inl ⟨U,_,aF.of Af⟩,_,U,_,U,aeu,fun p hp=>?_⟩
   have bl:=Paired.length pb
   have S7:bs.length=min i ms.length:=by rw[← Yk (f:=(·.1)),EA,Yu]
   have pB:p≠B:=(ao Af hp).symm
   have QR:(upd H5 p (.tup [.str x,.int sz])) B=some (.lst vb):=by rw[ar pB.symm];show Af
   have lp:Rl r H5 (upd H5 p (.tup [.str x,.int sz])):=Rl.new l5.rl hp
   have Py:(upd H5 p (.tup [.str x,.int sz])) sl=some (.lst (ms.map V.str)):=lp.k _ _ Si (l5.k _ _ Si gs)
   show⟨B,_,_,U,U,QR,aD (by lia),⟨Rl.put (VG.trans lp) Br hB,by rw[ar WC];show Py,lf/sz,_,_,vb++[.ref p],bs++[(x,sz)],U,q1,q2,?_,ae,?_,?_,fun b hb=>?_⟩⟩
   . rw[ky,abj]
     show acb (aan (Int.mul_ediv_self_le (show sz≠0 by lia)) ?_) pr
     have:=iu (bs:=bs) fun b hb=>(sz1 b hb).1
     lia
   . show Paired.snoc (Paired.aZ pb fun u u z=>Tp.keep (((Rl.tk lx.rl l5).trans (Gx hp _)).trans (TW.TK.lst QR)) z) ⟨p,U,?_⟩
     rw[ar pB,ae]
   . rw[Yt,EA,Yv,wJ]
     rfl
   . rcases jy hb with z|z
     . show sz1 b z
     . rw[dC z]
       show⟨by change 1<=sz;lia,by change sz<=16;lia⟩
 obtain⟨lx,gs,lf,o6,o7,vb,bs,rfl,f1,f9,pr,hb,pb,EA,sz1⟩:=z
 rw[Yk,YR]at EA
 show kR _ _ ?_
 show⟨_,U,?_⟩
 have S7:bs.length=ms.length:=by rw[← Yk (f:=(·.1)),EA]
 show q B vb bs Hx (Mf.trans lx) Br BH hb pb ⟨by rw[EA];show Sy,by lia,fun b hb=>t8 _ (by rw[← EA];show mX ⟨b,hb,U⟩),sz1,acb ?_ pr⟩
 have:=iu (bs:=bs) fun b hb=>(sz1 b hb).1
 have:=aan f1 (c:=de bs) (by lia)
 lia
abbrev Gd:Stmt:=top 58
abbrev yk:Stmt:=top 59
structure Dr (H:Hp)(r nl:Addr)(ns:List Str):Prop where
 rl:dy H r
 nr:nl≠r
 hn:H nl=some (.lst (ns.map V.str))
 l4:ns.length<=4
def Dr.go {H H1:Hp}{r nl:Addr}{ns:List Str}(d:Dr H r nl ns)(l:Rl r H H1):Dr H1 r nl ns:=⟨l.rl,d.nr,l.k _ _ d.nr d.hn,d.l4⟩
abbrev vR (ns:List Str):Str->Str->Prop:=fun t x=>t="box"/\x∈ns
def iG (n:Nat):Sp:=fun vs H Q z=>∃(r nl:Addr) (d:Int) (ns:List Str),vs=[.ref r,.ref nl,.int d]/\Dr H r nl ns/\0<=d/\d<n/\∀(v:V) (e:E) (H':Hp),Rl r H H'->eK H' v e->e.kZ->e.okIn (vR ns)->e.dep<=d.toNat->Q v H'
def CC {k:Int}{a b:K2}(h0:0<=k)(h1:k<2):∃kk:K2,jQ ([.str a.str,.str b.str]:List V) k=some (.str kk.str)/\(kk=a\/kk=b):=by
 rcases(show k=0\/k=1 by lia)with rfl|rfl
 . show⟨a,U,.inl rfl⟩
 . show⟨b,U,.inr rfl⟩
def xg {f:Addr}{fd:Yx}:aO P w K mg base bU 2 f fd ["pot","names","deep"] (iG 0):=by
 have no:∀vs H Q E,¬ iG 0 vs H Q E:=fun vs H Q E h=>by
   obtain⟨r,nl,d,ns,_,_,d0,dn,_⟩:=h
   lia
 show⟨fun vs H Q E h=>az h (no vs H Q E),fun A outer s H args us vs Q E z z z z h=>az h (no vs H Q E)⟩
def yG:aC ["pot","names","deep","way","word"] ["pot","names","deep"] (aq Gd):=df
def Fc {n:Nat}{f:Addr}{fd:Yx}(F:b9 K "_law_any_sum" "_law_any_sum" Gd f fd)(m_len:mg "len"=none)(TK0:aS P w K mg base "_law_next" ["pot","many"] 1 dI)(G:aS P w K mg base "_law_any_sum" ["pot","names","deep"] (n+2) (iG n)):aO P w K mg base bU (n+1+2) f fd ["pot","names","deep"] (iG (n+1)):=by
 show F.c0 yG fun cdv A outer s H vs Q E hr h=>?_
 obtain⟨r,nl,d,ns,rfl,D,d0,dn,q⟩:=h
 have TK:=TK0.mono (show 1<=n+2 by lia)
 show dN ⟨_,(acj (acw 3 yG.nd (acm TK hr U (L (Y 0) (L aci M))))
   (acj (acy (acK (ac2 (acr acC (Y 3) aci) (ac3 (acr ac8 (Y 2) aci)))) (acj (acw 4 yG.nd (ack acD (acB (L acu (L acu M))) (acm TK hr U (L (Y 0) (L aci M)))))
   (acn (acq (acx (L (Y 4) (L (acm G hr U (L (Y 0) (L (Y 1) (L (acv acY (Y 2) aci) M)))) (L (acm G hr U (L (Y 0) (L (Y 1) (L (acv acY (Y 2) aci) M)))) M))))))) acz)
   (acj (acy (acK (ac2 (acr ac8 (Y 3) aci) (ac3 (acr (ade (m:=2) (bR hr _ (by left))) (Y 1) (acB M))))) (acn (acq (acx (L acu (L (ack acD (Y 1) (acm TK hr U (L (Y 0) (L (acA acG U m_len Yy (L (Y 1) M)) M)))) M))))) acz)
   (acn (acq (acx (L acu (L (acm TK hr U (L (Y 0) (L (ack acD (acB (L aci (L aci M))) (acm TK hr U (L (Y 0) (L aci M)))) M))) M)))))))),?_⟩
 show aE fun Rk kR=>?_
 show⟨_,U,r,4,U,D.rl,by left,by left,fun k H1 k0 k1 l1=>?_⟩
 have D1:=D.go l1
 show au (kR _ _ ?_)
 show aG [some (.ref r),some (.ref nl),some (.int d),some (.int k),none] U ?_
 show aE fun Rk kR=>?_
 suffices hs:Rk [some (.ref r),some (.ref nl),some (.int d),some (.int k),none] H1 by
   show⟨_,U,U,_,U,aN (fun y=>?_) (fun y=>fL hs)⟩
   show⟨_,U,_,_,U,U,_,U,aN (fun cd=>?_) (fun y=>hs)⟩
   have Il:0<d:=cZ cd
   show aE fun Rk kR=>?_
   show⟨aeu,fun L8 hL=>?_⟩
   have Lr:L8≠r:=D1.rl.ne hL
   have ll:Rl r H1 (upd H1 L8 (.lst [.str "plus",.str "less"])):=Rl.new D1.rl hL
   have gL:(upd H1 L8 (.lst [.str "plus",.str "less"])) L8=some (.lst [.str "plus",.str "less"]):=ae
   generalize upd H1 L8 (.lst [.str "plus",.str "less"])=H4 at ll gL ⊢
   have D4:=D1.go ll
   show⟨_,U,r,2,U,D4.rl,by left,by left,fun j H5 j0 j1 l5=>?_⟩
   have D5:=D4.go l5
   obtain⟨kk,oB,N5⟩:=CC (a:=.plus) (b:=.less) j0 j1
   show eA (l5.k _ _ Lr gL) oB ?_
   show au (kR _ _ ?_)
   show⟨_,U,_,U,_,U,_,U,_,_,U,U,r,nl,d-1,ns,U,D5,by lia,by lia,fun v e H3 l3 ev is ok dp=>?_⟩
   have D3:=D5.go l3
   show⟨_,U,_,U,_,U,_,_,U,U,r,nl,d-1,ns,U,D3,by lia,by lia,fun v2 e2 H6 l6 Iy Jx EH Qu=>⟨aev,fun p hp=>?_⟩⟩
   have lp:Rl r H6 (upd H6 p (.tup [.str kk.str,v,v2])):=Rl.new l6.rl hp
   show q (.ref p) (.two kk e e2) _ (l1.trans ((ll.trans l5).trans (l3.trans (l6.trans lp)))) ⟨v,v2,⟨p,U,ae⟩,ev.keep (Rl.tk D3.rl (l6.trans lp)),Iy.keep (Rl.tk l6.rl lp)⟩ ?_ ⟨ok,EH⟩ ?_
   . rcases N5 with rfl|rfl<;>show⟨is,Jx⟩
   . change max e.dep e2.dep+1<=d.toNat
     lia
 show kR _ _ (aE fun Rk kR=>?_)
 suffices hs:∀H2,Rl r H1 H2->Rk [some (.ref r),some (.ref nl),some (.int d),some (.int k),none] H2 by
   show⟨_,U,_,_,U,U,_,U,aN (fun y=>?_) (fun y=>fL (hs _ (Rl.refl D1.rl)))⟩
   show⟨_,U,aes,fun z hz=>?_⟩
   have lz:Rl r H1 (upd H1 z (.lst [])):=Rl.new D1.rl hz
   have gz:(upd H1 z (.lst [])) z=some (.lst []):=ae
   generalize upd H1 z (.lst [])=H2 at lz gz ⊢
   have D2:=D1.go lz
   show⟨_,RB.nil (aF.of D2.hn) (aF.of gz),_,U,aN (fun c=>?_) (fun y=>hs _ lz)⟩
   have Ai:0<ns.length:=by
     cases ns with
     | nil=>show az c (by left)
     | cons a l=>show ab8 _
   have l4:=D.l4
   show⟨_,U,_,U,_,U,nl,_,U,.inl (aF.of D2.hn),r,_,U,D2.rl,by rw[Yk];lia,by rw[Yk];show Zc (show _<=(4:Int)by lia) (by left),fun j H3 j0 j1 l3=>?_⟩
   rw[Yk]at j1
   obtain⟨x,_,Mc,oB⟩:=gK V.str ns j0 j1
   have D3:=D2.go l3
   show eA D3.hn oB ?_
   show⟨aeu,fun p hp=>?_⟩
   show q (.ref p) (.box "box" x) _ (l1.trans (lz.trans (l3.trans (Rl.new D3.rl hp)))) ⟨p,U,ae⟩ Y5 ⟨U,Mc⟩ (YY _)
 intro H2 l2
 have D2:=D1.go l2
 show kR _ _ ?_
 show⟨_,U,aeu,fun L8 hL=>?_⟩
 have Lr:L8≠r:=D2.rl.ne hL
 have ll:Rl r H2 (upd H2 L8 (.lst [.int 3,.int 20])):=Rl.new D2.rl hL
 have gL:(upd H2 L8 (.lst [.int 3,.int 20])) L8=some (.lst [.int 3,.int 20]):=ae
 generalize upd H2 L8 (.lst [.int 3,.int 20])=H3 at ll gL ⊢
 have D3:=D2.go ll
 show⟨_,U,r,2,U,D3.rl,by left,by left,fun j H4 j0 j1 l4=>?_⟩
 have D4:=D3.go l4
 obtain⟨_,oB,mm,rfl,VH,Ry⟩:=rM (P:=fun v=>∃mm:Int,v=.int mm/\0<mm/\mm<=10^30) (xs:=[.int 3,.int 20]) (r:=j) j0 j1 (fun x hx=>by
   rcases fM hx with e|hx
   . show⟨_,e,by left,by left⟩
   . show⟨_,dC hx,by left,by left⟩)
 show eA (l4.k _ _ Lr gL) oB ?_
 show⟨r,mm,U,D4.rl,VH,Zc Ry (by left),fun i H5 i0 i1 l5=>⟨aeu,fun p hp=>?_⟩⟩
 show q (.ref p) (.num i) _ ((l1.trans l2).trans ((ll.trans l4).trans (l5.trans (Rl.new l5.rl hp)))) ⟨p,U,ae⟩ Y5 ?_ (YY _)
 change i.natAbs<2^100
 have Th:(10:Int)^30=1000000000000000000000000000000:=by left
 rw[Th]at Ry
 lia
def Ae (s:Src K mg "_law_any_sum" Gd)(m_len:mg "len"=none)(TK0:aS P w K mg base "_law_next" ["pot","many"] 1 dI):∀n:Nat,aS P w K mg base "_law_any_sum" ["pot","names","deep"] (n+2) (iG n):=by
 obtain⟨f,fd,F,m⟩:=s
 have b:Binds K fd ["pot","names","deep"] []:=DA F fun z z z z z z z z z=>rfl
 intro n
 have all:aO P w K mg base bU (n+2) f fd ["pot","names","deep"] (iG n):=by
   induction n with
   | zero=>show xg
   | succ n ih=>show Fc F m_len TK0 ⟨f,fd,ih,F.kp,b,m⟩
 show⟨f,fd,all,F.kp,b,m⟩
def gr (n:Nat):Sp:=fun vs H Q z=>∃(r nl:Addr) (d:Int) (ns:List Str),vs=[.ref r,.ref nl,.int d]/\Dr H r nl ns/\0<=d/\d<n/\d<4/\∀(v:V) (e:E) (H':Hp),Rl r H H'->eK H' v e->e.El->e.okIn (vR ns)->e.dep<=d.toNat+1->Q v H'
def uO {f:Addr}{fd:Yx}:aO P w K mg base bU 6 f fd ["pot","names","deep"] (gr 0):=by
 have no:∀vs H Q E,¬ gr 0 vs H Q E:=fun vs H Q E h=>by
   obtain⟨r,nl,d,ns,_,_,d0,dn,_⟩:=h
   lia
 show⟨fun vs H Q E h=>az h (no vs H Q E),fun A outer s H args us vs Q E z z z z h=>az h (no vs H Q E)⟩
def yB:aC ["pot","names","deep","way"] ["pot","names","deep"] (aq yk):=df
def AI {n:Nat}{f:Addr}{fd:Yx}(F:b9 K "_law_any_condition" "_law_any_condition" yk f fd)(TK0:aS P w K mg base "_law_next" ["pot","many"] 1 dI)(SM0:aS P w K mg base "_law_any_sum" ["pot","names","deep"] 6 (iG 4))(G:aS P w K mg base "_law_any_condition" ["pot","names","deep"] (n+6) (gr n)):aO P w K mg base bU (n+1+6) f fd ["pot","names","deep"] (gr (n+1)):=by
 show F.c0 yB fun cdv A outer s H vs Q E hr h=>?_
 obtain⟨r,nl,d,ns,rfl,D,d0,dn,d4,q⟩:=h
 have TK:=TK0.mono (show 1<=n+6 by lia)
 have SM:=SM0.mono (show 6<=n+6 by lia)
 show dN ⟨_,(acj (acw 3 yB.nd (acm TK hr U (L (Y 0) (L aci M))))
   (acj (acy (acr acC (Y 3) aci) (acn (acq (acx (L acu M)))) acz)
   (acj (acy (acK (ac2 (acr acC (Y 3) aci) (ac3 (acr ac8 (Y 2) aci)))) (acn (acq (acx (L acu (L (acm G hr U (L (Y 0) (L (Y 1) (L (acv acY (Y 2) aci) M)))) M))))) acz)
   (acj (acy (acK (ac2 (acr acC (Y 3) aci) (ac3 (acr ac8 (Y 2) aci)))) (acn (acq (acx (L acu (L (acm G hr U (L (Y 0) (L (Y 1) (L (acv acY (Y 2) aci) M)))) (L (acm G hr U (L (Y 0) (L (Y 1) (L (acv acY (Y 2) aci) M)))) M)))))) acz)
   (acn (acq (acx (L (ack acD (acB (L acu (L acu M))) (acm TK hr U (L (Y 0) (L aci M)))) (L (acm SM hr U (L (Y 0) (L (Y 1) (L (Y 2) M)))) (L (acm SM hr U (L (Y 0) (L (Y 1) (L (Y 2) M)))) M)))))))))),?_⟩
 show aE fun Rk kR=>?_
 show⟨_,U,r,6,U,D.rl,by left,by left,fun k H1 k0 k1 l1=>?_⟩
 have D1:=D.go l1
 show au (kR _ _ ?_)
 show aG [some (.ref r),some (.ref nl),some (.int d),some (.int k)] U ?_
 show aE fun Rk kR=>?_
 show⟨_,U,U,_,U,aN (fun z=>?_) (fun z=>?_)⟩
 . show⟨aet,fun p hp=>?_⟩
   show q (.ref p) .yes _ (l1.trans (Rl.new l1.rl hp)) ⟨p,U,ae⟩ Y5 Y5 (YY _)
 show kR _ _ (aE fun Rk kR=>?_)
 suffices hs:Rk [some (.ref r),some (.ref nl),some (.int d),some (.int k)] H1 by
   show⟨_,U,U,_,U,aN (fun z=>?_) (fun z=>fL hs)⟩
   show⟨_,U,_,_,U,U,_,U,aN (fun cd=>?_) (fun z=>hs)⟩
   have Il:0<d:=cZ cd
   show⟨_,U,_,U,_,U,_,_,U,U,r,nl,d-1,ns,U,D1,by lia,by lia,by lia,fun v e H2 l2 ev is ok dp=>?_⟩
   have D2:=D1.go l2
   show⟨aeu,fun p hp=>?_⟩
   have lp:Rl r H2 (upd H2 p (.tup [.str "not",v])):=Rl.new D2.rl hp
   show q (.ref p) (.nt e) _ (l1.trans (l2.trans lp)) ⟨v,⟨p,U,ae⟩,ev.keep (Rl.tk D2.rl lp)⟩ is ok (by change e.dep+1<=d.toNat+1;lia)
 show kR _ _ (aE fun Rk kR=>?_)
 suffices hs:Rk [some (.ref r),some (.ref nl),some (.int d),some (.int k)] H1 by
   show⟨_,U,U,_,U,aN (fun z=>?_) (fun z=>fL hs)⟩
   show⟨_,U,_,_,U,U,_,U,aN (fun cd=>?_) (fun z=>hs)⟩
   have Il:0<d:=cZ cd
   show⟨_,U,_,U,_,U,_,_,U,U,r,nl,d-1,ns,U,D1,by lia,by lia,by lia,fun v e H2 l2 ev is ok dp=>?_⟩
   have D2:=D1.go l2
   show⟨_,U,_,U,_,U,_,_,U,U,r,nl,d-1,ns,U,D2,by lia,by lia,by lia,fun v2 e2 H3 l3 Iy Jx EH Qu=>?_⟩
   have D3:=D2.go l3
   show⟨aev,fun p hp=>?_⟩
   have lp:Rl r H3 (upd H3 p (.tup [.str "both",v,v2])):=Rl.new D3.rl hp
   show q (.ref p) (.two .both e e2) _ (l1.trans (l2.trans (l3.trans lp))) ⟨v,v2,⟨p,U,ae⟩,ev.keep (Rl.tk D2.rl (l3.trans lp)),Iy.keep (Rl.tk D3.rl lp)⟩ ⟨is,Jx⟩ ⟨ok,EH⟩ (by change max e.dep e2.dep+1<=d.toNat+1;lia)
 show kR _ _ ?_
 show⟨aeu,fun L8 hL=>?_⟩
 have Lr:L8≠r:=D1.rl.ne hL
 have ll:Rl r H1 (upd H1 L8 (.lst [.str "same",.str "under"])):=Rl.new D1.rl hL
 have gL:(upd H1 L8 (.lst [.str "same",.str "under"])) L8=some (.lst [.str "same",.str "under"]):=ae
 generalize upd H1 L8 (.lst [.str "same",.str "under"])=H4 at ll gL ⊢
 have D4:=D1.go ll
 show⟨_,U,r,2,U,D4.rl,by left,by left,fun j H5 j0 j1 l5=>?_⟩
 have D5:=D4.go l5
 obtain⟨kk,oB,N5⟩:=CC (a:=.same) (b:=.under) j0 j1
 show eA (l5.k _ _ Lr gL) oB ?_
 show⟨_,U,_,U,_,U,r,nl,d,ns,U,D5,d0,d4,fun v e H6 l6 ev is ok dp=>?_⟩
 have D6:=D5.go l6
 show⟨_,U,_,U,_,U,r,nl,d,ns,U,D6,d0,d4,fun v2 e2 H7 l7 Iy Jx EH Qu=>⟨aev,fun p hp=>?_⟩⟩
 have lp:Rl r H7 (upd H7 p (.tup [.str kk.str,v,v2])):=Rl.new l7.rl hp
 show q (.ref p) (.two kk e e2) _ (l1.trans ((ll.trans l5).trans (l6.trans (l7.trans lp)))) ⟨v,v2,⟨p,U,ae⟩,ev.keep (Rl.tk D6.rl (l7.trans lp)),Iy.keep (Rl.tk l7.rl lp)⟩ ?_ ⟨ok,EH⟩ ?_
 . rcases N5 with rfl|rfl<;>show⟨is,Jx⟩
 . change max e.dep e2.dep+1<=d.toNat+1
   lia
def wx (s:Src K mg "_law_any_condition" yk)(TK0:aS P w K mg base "_law_next" ["pot","many"] 1 dI)(SM0:aS P w K mg base "_law_any_sum" ["pot","names","deep"] 6 (iG 4)):∀n:Nat,aS P w K mg base "_law_any_condition" ["pot","names","deep"] (n+6) (gr n):=by
 obtain⟨f,fd,F,m⟩:=s
 have b:Binds K fd ["pot","names","deep"] []:=DA F fun z z z z z z z z z=>rfl
 intro n
 have all:aO P w K mg base bU (n+6) f fd ["pot","names","deep"] (gr n):=by
   induction n with
   | zero=>show uO
   | succ n ih=>show AI F TK0 SM0 ⟨f,fd,ih,F.kp,b,m⟩
 show⟨f,fd,all,F.kp,b,m⟩
abbrev CK:Stmt:=top 60
abbrev nj:Stmt:=top 61
def Np.aH:Np->List Int
 | .put _ _ n=>[n]|.say _ n=>[n]|.test _ n o=>[n,o]|.pick _ n=>[n]|.fin=>[]
def Np.tU:Np->List E
 | .put x s _=>[.box "box" x,s]|.say s _=>[s]|.test c _ _=>[c]|.pick x _=>[.box "box" x]|.fin=>[]
def Np.Jy:Np->Prop
 | .put _ s _=>s.kZ|.say s _=>s.kZ|.test c _ _=>c.El|.pick _ _=>False|.fin=>True
structure eO (ns:List Str)(m:Int)(e:Np):Prop where
 is:e.Jy
 ld:∀l∈e.aH,0<=l/\l<m
 td:∀x∈e.tU,x.okIn (vR ns)/\x.dep<=3
def all1 {α:Type}{P:α->Prop}{a:α}(h:P a):∀x∈[a],P x:=fun x hx=>by rw[dC hx];show h
def all2 {α:Type}{P:α->Prop}{a b:α}(h:P a)(h2:P b):∀x∈[a,b],P x:=fun x hx=>by
 rcases fM hx with e|hx
 . rw[e];show h
 . rw[dC hx];show h2
def yP:Sp:=fun vs H Q z=>∃(r nl:Addr) (m:Int) (ns:List Str),vs=[.ref r,.ref nl,.int m]/\Dr H r nl ns/\0<m/\m<=900/\∀(v:V) (e:Np) (H':Hp),Rl r H H'->aI H' v e->eO ns m e->Q v H'
def i3:aC ["pot","names","many","way","there","name","told"] ["pot","names","many"] (aq CK):=df
def AR {f:Addr}{fd:Yx}(F:b9 K "_law_one_node" "_law_one_node" CK f fd)(m_len:mg "len"=none)(m_int:mg "int"=none)(TK0:aS P w K mg base "_law_next" ["pot","many"] 1 dI)(SM0:aS P w K mg base "_law_any_sum" ["pot","names","deep"] 6 (iG 4))(CO:aS P w K mg base "_law_any_condition" ["pot","names","deep"] 9 (gr 3)):aO P w K mg base bU 10 f fd ["pot","names","many"] yP:=by
 show F.c0 i3 fun cdv A outer s H vs Q E hr h=>?_
 obtain⟨r,nl,m,ns,rfl,D,m0,m9,q⟩:=h
 have TK:=TK0.mono (show 1<=9 by left)
 have SM:=SM0.mono (show 6<=9 by left)
 show dN ⟨_,(acj (acw 3 i3.nd (acm TK hr U (L (Y 0) (L aci M))))
   (acj (acw 4 i3.nd (acm TK hr U (L (Y 0) (L (Y 2) M))))
   (acj (acy (acK (ac2 (acr adf (Y 3) aci) (ac3 (acr (ade (m:=2) (bR hr _ (by left))) (Y 1) (acB M))))) (acj (acw 5 i3.nd (ack acD (Y 1) (acm TK hr U (L (Y 0) (L (acA acG U m_len Yy (L (Y 1) M)) M)))))
   (acj (acw 6 i3.nd (acm SM hr U (L (Y 0) (L (Y 1) (L aci M)))))
   (acj (acy (acr acC (acm TK hr U (L (Y 0) (L aci M))) aci) (acn (acw 6 i3.nd (acx (L acu (L (Y 5) M))))) acz)
   (acn (acq (acx (L acu (L (Y 5) (L (Y 6) (L (Y 4) M)))))))))) acz)
   (acj (acy (acr adf (Y 3) aci) (acn (acq (acx (L acu (L (acm SM hr U (L (Y 0) (L (Y 1) (L aci M)))) (L (Y 4) M)))))) acz)
   (acj (acy (acr acC (Y 3) aci) (acn (acq (acx (L acu M)))) acz)
   (acn (acq (acx (L acu (L (acm CO hr U (L (Y 0) (L (Y 1) (L aci M)))) (L (Y 4) (L (ack acD (acB (L (Y 4) (L (acm TK hr U (L (Y 0) (L (Y 2) M))) M))) (acP L3.Ia U m_int (by right) (L (acQ ac8 (acm TK hr U (L (Y 0) (L aci M))) aci) M))) M)))))))))))),?_⟩
 show Ig fun Rk kR=>?_
 show⟨_,U,r,10,U,D.rl,by left,by left,fun k H1 k0 k1 l1=>?_⟩
 have D1:=D.go l1
 show au ?_
 show⟨_,U,_,U,r,m,U,D1.rl,m0,Zc m9 (by left),fun to H2 t0 t1 l2=>?_⟩
 have D2:=D1.go l2
 have G6:=l1.trans l2
 show au (kR _ _ ?_)
 show aG [some (.ref r),some (.ref nl),some (.int m),some (.int k),some (.int to),none,none] U ?_
 show aE fun Rk kR=>?_
 suffices hs:∀H3,Rl r H2 H3->Rk [some (.ref r),some (.ref nl),some (.int m),some (.int k),some (.int to),none,none] H3 by
   show⟨_,U,_,_,U,U,_,U,aN (fun y=>?_) (fun y=>fL (hs _ (Rl.refl D2.rl)))⟩
   show⟨_,U,aes,fun z hz=>?_⟩
   have lz:Rl r H2 (upd H2 z (.lst [])):=Rl.new D2.rl hz
   have gz:(upd H2 z (.lst [])) z=some (.lst []):=ae
   generalize upd H2 z (.lst [])=H3 at lz gz ⊢
   have D3:=D2.go lz
   show⟨_,RB.nil (aF.of D3.hn) (aF.of gz),_,U,aN (fun c=>?_) (fun y=>hs _ lz)⟩
   have Ai:0<ns.length:=by
     cases ns with
     | nil=>show az c (by left)
     | cons a l=>show ab8 _
   have l4:=D.l4
   show aE fun Rk kR=>?_
   show⟨_,U,_,U,_,U,nl,_,U,.inl (aF.of D3.hn),r,_,U,D3.rl,by rw[Yk];lia,by rw[Yk];show Zc (show _<=(4:Int)by lia) (by left),fun j H4 j0 j1 l4=>?_⟩
   rw[Yk]at j1
   obtain⟨x,_,Mc,oB⟩:=gK V.str ns j0 j1
   have D4:=D3.go l4
   show eA D4.hn oB ?_
   show au (kR _ _ ?_)
   show aG [some (.ref r),some (.ref nl),some (.int m),some (.int k),some (.int to),some (.str x),none] U ?_
   show aE fun Rk kR=>?_
   show⟨_,U,_,U,r,nl,2,ns,U,D4,by left,by left,fun v e H5 l5 ev is ok dp=>?_⟩
   have D5:=D4.go l5
   show au (kR _ _ ?_)
   show aG [some (.ref r),some (.ref nl),some (.int m),some (.int k),some (.int to),some (.str x),some v] U ?_
   show aE fun Rk kR=>?_
   have dp:e.dep<=2:=dp
   suffices hv:∀(v:V) (e:TW.E) (H6:Hp),Rl r H5 H6->eK H6 v e->e.kZ->e.okIn (vR ns)->e.dep<=2->Rk [some (.ref r),some (.ref nl),some (.int m),some (.int k),some (.int to),some (.str x),some v] H6 by
     show⟨_,U,r,4,U,D5.rl,by left,by left,fun j H6 j0 j1 l6=>⟨U,_,U,aN (fun y=>?_) (fun y=>hv v e _ l6 (ev.keep (Rl.tk D5.rl l6)) is ok dp)⟩⟩
     show⟨_,U,aeu,fun p hp=>?_⟩
     show au ?_
     show hv (.ref p) (.box "box" x) _ (l6.trans (Rl.new l6.rl hp)) ⟨p,U,ae⟩ Y5 ⟨U,Mc⟩ (YY _)
   intro v e H6 l6 ev is ok dp
   show kR _ _ ?_
   show⟨_,U,_,U,_,U,aew,fun p hp=>?_⟩
   have lp:Rl r H6 (upd H6 p (.tup [.str "put",.str x,v,.int to])):=Rl.new l6.rl hp
   show q (.ref p) (.put x e to) _ (G6.trans (lz.trans (l4.trans (l5.trans (l6.trans lp))))) ⟨v,⟨p,U,ae⟩,ev.keep (Rl.tk l6.rl lp)⟩ ⟨is,all1 ⟨t0,t1⟩,all2 ⟨⟨U,Mc⟩,YY _⟩ ⟨ok,by lia⟩⟩
 intro H3 Rp
 replace G6:=G6.trans Rp
 replace D2:=D2.go Rp
 show kR _ _ (aE fun Rk kR=>?_)
 show⟨_,U,_,_,U,U,_,U,aN (fun y=>?_) (fun y=>?_)⟩
 . show⟨_,U,_,U,r,nl,2,ns,U,D2,by left,by left,fun v e H5 l5 ev is ok dp=>?_⟩
   show⟨_,U,aev,fun p hp=>?_⟩
   have lp:Rl r H5 (upd H5 p (.tup [.str "say",v,.int to])):=Rl.new l5.rl hp
   have dp:e.dep<=2:=dp
   show q (.ref p) (.say e to) _ (G6.trans (l5.trans lp)) ⟨v,⟨p,U,ae⟩,ev.keep (Rl.tk l5.rl lp)⟩ ⟨is,all1 ⟨t0,t1⟩,all1 ⟨ok,by lia⟩⟩
 show kR _ _ (aE fun Rk kR=>?_)
 show⟨_,U,U,_,U,aN (fun y=>?_) (fun y=>?_)⟩
 . show⟨aet,fun p hp=>?_⟩
   show q (.ref p) .fin _ (G6.trans (Rl.new D2.rl hp)) ⟨p,U,ae⟩ ⟨Y5,(fun y z=>nomatch z),(fun y z=>nomatch z)⟩
 show kR _ _ ?_
 show⟨_,U,_,U,r,nl,2,ns,U,D2,by left,by left,by left,fun v e H5 l5 ev is ok dp=>?_⟩
 have D5:=D2.go l5
 have dp:e.dep<=3:=dp
 show⟨_,U,_,U,_,U,_,U,r,m,U,D5.rl,m0,Zc m9 (by left),fun o H6 o0 o1 l6=>?_⟩
 show⟨aeu,fun L8 hL=>?_⟩
 have Lr:L8≠r:=l6.rl.ne hL
 have ll:Rl r H6 (upd H6 L8 (.lst [.int to,.int o])):=Rl.new l6.rl hL
 have gL:(upd H6 L8 (.lst [.int to,.int o])) L8=some (.lst [.int to,.int o]):=ae
 generalize upd H6 L8 (.lst [.int to,.int o])=H7 at ll gL ⊢
 show⟨_,U,r,3,U,ll.rl,by left,by left,fun j H8 j0 j1 l8=>⟨_,_,U,U,.inr ⟨_,U,?_⟩⟩⟩
 obtain⟨oo,oB,V5,V6⟩ : ∃oo:Int,jQ [V.int to,V.int o] (if decide (0<j)=true then(1:Int)else 0)=some (.int oo)/\0<=oo/\oo<m:=by
   split
   . show⟨o,U,o0,o1⟩
   . show⟨to,U,t0,t1⟩
 show eA (l8.k _ _ Lr gL) oB ?_
 show⟨aew,fun p hp=>?_⟩
 have lp:Rl r H8 (upd H8 p (.tup [.str "test",v,.int to,.int oo])):=Rl.new l8.rl hp
 have Rq:=l6.trans (ll.trans (l8.trans lp))
 show q (.ref p) (.test e to oo) _ (G6.trans (l5.trans Rq)) ⟨v,⟨p,U,ae⟩,ev.keep (Rl.tk D5.rl Rq)⟩ ⟨is,all2 ⟨t0,t1⟩ ⟨V5,V6⟩,all1 ⟨ok,by lia⟩⟩
def Ej {ins:List Str}{x:Str}(h:ins.Nodup)(n:x∉ins)(i:Nat):(ins.take i++x::ins.drop i).Nodup:=by
 rw[aaH,aas]
 show⟨h.sublist (aaG _ _),⟨fun z=>n (aca z),h.sublist (List.drop_sublist _ _)⟩,fun a ha b hb e=>?_⟩
 rcases fM hb with z|z
 . show n (by rw[← z,← e];show aal ha)
 . have hd:=h
   rw[← ab5 i ins,aaH]at hd
   show hd.2.2 a ha b z e
def An {ins:List Str}{x y:Str}{i:Nat}:y∈ins.take i++x::ins.drop i->y=x\/y∈ins:=fun h=>by
 rcases jy h with z|z
 . show .inr (aal z)
 . rcases fM z with z|z
   . show .inl z
   . show .inr (aca z)
structure HM (r:Addr)(H:Hp)(B I N:Addr)(vb vn:List V)(bs:aj)(ins:List Str)(nds:List Np):Prop where
 hB:H B=some (.lst vb)
 hI:H I=some (.lst (ins.map V.str))
 hN:H N=some (.lst vn)
 pb:Paired (eR H) vb bs
 pn:Paired (aI H) vn nds
 nB:B≠r
 nI:I≠r
 nN:N≠r
def HM.go {r:Addr}{H H1:Hp}{B I N:Addr}{vb vn:List V}{bs:aj}{ins:List Str}{nds:List Np}(h:HM r H B I N vb vn bs ins nds)(rl:dy H r)(l:Rl r H H1):HM r H1 B I N vb vn bs ins nds:=
 ⟨l.k _ _ h.nB h.hB,l.k _ _ h.nI h.hI,l.k _ _ h.nN h.hN,Paired.aZ h.pb fun y y z=>Tp.keep (Rl.tk rl l) z,Paired.aZ h.pn fun y y z=>aI.keep (Rl.tk rl l) z,h.nB,h.nI,h.nN⟩
structure MV (most longest:Int)(bs:aj)(ins:List Str)(nds:List Np):Prop where
 bx:Dg most bs
 ind:ins.Nodup
 sub:∀x∈ins,x∈bs.map (·.1)
 one:1<=nds.length
 jv:(nds.length:Int)<=longest
 nd:∀e∈nds,eO (bs.map (·.1)) (nds.length:Int) e
def tR:Sp:=fun vs H Q z=>∃(r:Addr) (most wide longest:Int),vs=[.ref r,.int most,.int wide,.int longest]/\dy H r/\1<=most/\most<=65536/\1<=wide/\wide<=16/\1<=longest/\longest<=40/\∀(p B I N:Addr) (vb vn:List V) (bs:aj) (ins:List Str) (nds:List Np) (H':Hp),Rl r H H'->H' p=some (.tup [.ref B,.ref I,.ref N])->HM r H' B I N vb vn bs ins nds->MV most longest bs ins nds->Q (.ref p) H'
def fH:aC ["pot","most","wide","longest","boxes","names","inputs","name","many"] ["pot","most","wide","longest"] (aq nj):=df
def xE {f:Addr}{fd:Yx}(F:b9 K "_law_some_program" "_law_some_program" nj f fd)(m_len:mg "len"=none)(m_range:mg "range"=none)(TK0:aS P w K mg base "_law_next" ["pot","many"] 1 dI)(SB0:aS P w K mg base "_law_some_boxes" ["pot","most","wide"] 2 tQ)(NO:aS P w K mg base "_law_one_node" ["pot","names","many"] 10 yP):aO P w K mg base bU 11 f fd ["pot","most","wide","longest"] tR:=by
 show F.c0 fH fun cdv A outer s H vs Q E hr h=>?_
 obtain⟨r,most,wide,longest,rfl,rl,JL,OU,w1,w9,g1,g9,q⟩:=h
 have TK:=TK0.mono (show 1<=10 by left)
 have SB:=SB0.mono (show 2<=10 by left)
 show dN ⟨_,(acj (acw 4 fH.nd (acm SB hr U (L (Y 0) (L (Y 1) (L (Y 2) M)))))
   (acj (acw 5 fH.nd (acO [none,none] ["name","size"] (fP nj) U (acI (Y 4)) (fun u u u u u=>⟨(acF 2 (acs (aco 0 (dE ["name","size"])) (acs (aco 1 (dE ["name","size"])) acE))),acH,(Y 0)⟩)))
   (acj (acw 6 fH.nd (acB M))
   (acj (acM (acI (Y 5)) (aco 7 fH.nd) (acn (acy (acr acC (acm TK hr U (L (Y 0) (L aci M))) aci) (acn (acN (L3.insert (Y 6) (L (acm TK hr U (L (Y 0) (L (acv acL (acA acG U m_len Yy (L (Y 6) M)) aci) M))) (L (Y 7) M))))) acz)))
   (acj (acw 8 fH.nd (acv acL aci (acm TK hr U (L (Y 0) (L (Y 3) M)))))
   (acn (acq (acx (L (Y 4) (L (Y 6) (L (acO [none,some 0,some 5,some 8] ["k","pot","names","many"] (fP nj) U (acU U m_range (L (Y 8) M)) (fun u u u u u=>⟨(aco 0 (dE ["k","pot","names","many"])),acH,(acm NO hr U (L (Y 1) (L (Y 2) (L (Y 3) M))))⟩)) M))))))))))),?_⟩
 show aE fun Rk kR=>?_
 show⟨_,U,_,U,_,U,r,most,wide,U,rl,JL,OU,w1,w9,fun B vb bs H1 l1 nB Xl hB pb ob=>?_⟩
 show au (kR _ _ ?_)
 show aG [some (.ref r),some (.int most),some (.int wide),some (.int longest),some (.ref B),none,none,none,none] U ?_
 have SF:=Paired.length pb
 have b4:=ob.l4
 show aE fun Rk kR=>?_
 show⟨_,U,B,U,⟨_,aF.of hB⟩,fun nl Oh=>?_⟩
 have VS:nl≠r:=l1.rl.ne Oh
 show aT (xs:=vb) (fun(i:Nat) Hx=>ah H1 Hx/\Hx nl=some (.lst (((bs.map (·.1)).take i).map V.str))) ⟨af Oh _,ae⟩ (fun i Hx u z=>aF.of (z.1 _ _ hB)) (fun i x0 Hx hx z=>?_) (fun H2 z=>?_)
 . obtain⟨sx,gD⟩:=z
   have cL:=(aQ hx)
   obtain⟨b,rY,pp,rfl,fB⟩:=Paired.get pb hx
   show jL (sx _ _ fB) ?_
   show bF (A:=fun H5=>cf _ nl _ H5 _) ?_
   show⟨_,U,_,gD,aD (by rw[Yk,Yu];lia),aB (Pv:=fun(i:Nat) Hx=>ah H1 Hx/\Hx nl=some (.lst (((bs.map (·.1)).take i).map V.str))) (by repeat' constructor) cL ⟨aA sx Oh,?_⟩⟩
   rw[ae,Yv,YD,rY,Yt]
   rfl
 obtain⟨s2,gn⟩:=z
 rw[SF,YI (by rw[Yk];show Yo _)]at gn
 have l2:Rl r H1 H2:=Rl.of l1.rl s2
 have D2:Dr H2 r nl (bs.map (·.1)):=⟨l2.rl,VS,gn,by rw[Yk];show b4⟩
 show au (kR _ _ ?_)
 show aG [some (.ref r),some (.int most),some (.int wide),some (.int longest),some (.ref B),some (.ref nl),none,none,none] U ?_
 show aE fun Rk kR=>?_
 show⟨aes,fun I hI=>?_⟩
 have Ir:I≠r:=l2.rl.ne hI
 have lI:Rl r H2 (upd H2 I (.lst [])):=Rl.new l2.rl hI
 have gI:(upd H2 I (.lst [])) I=some (.lst []):=ae
 generalize upd H2 I (.lst [])=H3 at lI gI ⊢
 show au (kR _ _ ?_)
 show aG [some (.ref r),some (.int most),some (.int wide),some (.int longest),some (.ref B),some (.ref nl),some (.ref I),none,none] U ?_
 show aE fun Rk kR=>?_
 show⟨_,U,nl,U,⟨_,aF.of (D2.go lI).hn⟩,?_⟩
 show dA (xs:=(bs.map (·.1)).map V.str) (fun(i:Nat) (σ:L2.St) (Hy:Hp)=>(∃o7,σ=[some (.ref r),some (.int most),some (.int wide),some (.int longest),some (.ref B),some (.ref nl),some (.ref I),o7,none])/\Rl r H2 Hy/\∃ins,Hy I=some (.lst (ins.map V.str))/\ins.Nodup/\ins.length<=i/\∀y∈ins,y∈(bs.map (·.1)).take i) ⟨⟨_,U⟩,lI,[],gI,ZF,Yo _,fun y hy=>nomatch hy⟩ (fun i σ Hy u z=>aF.of (D2.go z.2.1).hn) (fun i x0 σ Hy hx z=>?_) (fun σ Hy z=>?_)
 . obtain⟨⟨o7,rfl⟩,ly,ins,gi,ni,il,sub⟩:=z
   obtain⟨x,wJ,rfl⟩:=ba hx
   have inl:i<(bs.map (·.1)).length:=(aQ wJ)
   have XN:=D2.l4
   have up:∀y,y∈(bs.map (·.1)).take i->y∈(bs.map (·.1)).take (i+1):=fun y hy=>by rw[Yv];show oF (.inl hy)
   show au ?_
   show aG [some (.ref r),some (.int most),some (.int wide),some (.int longest),some (.ref B),some (.ref nl),some (.ref I),some (.str x),none] U ?_
   show⟨_,U,r,2,U,ly.rl,by left,by left,fun j H4 j0 j1 l4=>⟨U,_,U,?_⟩⟩
   have LX:=l4.k _ _ Ir gi
   show aN (fun u=>?_) (fun u=>?_)
   . show⟨_,U,.inl ⟨U,_,aF.of LX⟩,_,U,_,U,I,_,U,.inl (aF.of LX),_,_,U,U,r,_,U,l4.rl,by rw[Yk];lia,by rw[Yk];show Zc (show _<=(5:Int)by lia) (by left),fun k H5 k0 k1 l5=>?_⟩
     rw[Yk]at k1
     have Ub:=l5.k _ _ Ir LX
     have nx:x∉ins:=fun z=>by
       obtain⟨j,hj,e⟩:=aa7 (sub x z)
       rw[Yu]at hj
       rw[List.getElem_take]at e
       have e1:(bs.map (·.1))[j]?=some x:=by rw[Yn (by lia),e]
       have:=(List.getElem?_inj (by lia) ob.nd).mp (e1.trans wJ.symm)
       lia
     have Vz:=l4.trans l5
     show⟨_,U,I,_,_,k,U,U,Ub,k0,by rw[Yk];lia,by rw[Yk];lia,⟨_,U⟩,(ly.trans Vz).put Ir hI,ins.take k.toNat++x::ins.drop k.toNat,?_,Ej ni nx _,?_,fun y hy=>?_⟩
     . rw[ae,Yt,aaL,YM,List.map_drop]
     . rw[Ym,YS,Yu,Zj]
       lia
     . rcases An hy with z|z
       . rw[z,Yv,wJ];show oF (.inr Y9)
       . show up y (sub y z)
   . show⟨⟨_,U⟩,ly.trans l4,ins,LX,ni,by lia,fun y hy=>up y (sub y hy)⟩
 obtain⟨⟨o7,rfl⟩,ly,ins,gi,ni,il,sub⟩:=z
 rw[Yk,YR]at sub
 show kR _ _ (aE fun Rk kR=>?_)
 show⟨_,U,_,U,r,longest,U,ly.rl,by lia,Zc g9 (by left),fun k H4 k0 k1 l4=>⟨_,_,U,U,?_⟩⟩
 obtain⟨m,em⟩ : ∃m,m=1+k:=⟨_,rfl⟩
 show au (kR _ _ ?_)
 show aG [some (.ref r),some (.int most),some (.int wide),some (.int longest),some (.ref B),some (.ref nl),some (.ref I),o7,some (.int m)] (by rw[em];rfl) ?_
 have ON:=ly.trans l4
 have D4:=D2.go ON
 show⟨_,U,_,U,_,U,m,U,by lia,by lia,fun N hN=>?_⟩
 have Nr:N≠r:=l4.rl.ne hN
 show cb (lo:=0) (n:=m.toNat) (fun(i:Nat) Hx=>Rl r H4 Hx/\∃vn nds,Hx N=some (.lst vn)/\vn.length=i/\Paired (aI Hx) vn nds/\∀e∈nds,eO (bs.map (·.1)) m e) ⟨Rl.new l4.rl hN,[],[],ae,U,.nil,fun u z=>nomatch z⟩ (fun i Hx hi z=>?_) (fun Hx z=>?_)
 . obtain⟨lx,vn,nds,gN,vl,pn,on⟩:=z
   show au ?_
   show bF (A:=fun H5=>cf _ N _ H5 _) ?_
   show⟨_,U,_,U,_,U,r,nl,m,_,U,D4.go lx,by lia,by lia,fun v e H5 l5 nv ok=>?_⟩
   have Nt:=l5.k _ _ Nr gN
   show⟨_,Nt,aD (by lia),aB (Pv:=fun(i:Nat) Hx=>Rl r H4 Hx/\∃vn nds,Hx N=some (.lst vn)/\vn.length=i/\Paired (aI Hx) vn nds/\∀e∈nds,eO (bs.map (·.1)) m e) (by repeat' constructor) hi ⟨Rl.put (lx.trans l5) Nr hN,vn++[v],nds++[e],ae,by rw[Ym,vl];rfl,?_,fun e' DW=>?_⟩⟩
   . show Paired.snoc (Paired.aZ pn fun u u z=>aI.keep ((Rl.tk lx.rl l5).trans (TW.TK.lst Nt)) z) (aI.keep (TW.TK.lst Nt) nv)
   . rcases jy DW with z|z
     . show on e' z
     . rw[dC z];show ok
 obtain⟨lx,vn,nds,gN,vl,pn,on⟩:=z
 have G8:=Paired.length pn
 show⟨aev,fun p hp=>?_⟩
 have lp:Rl r Hx (upd Hx p (.tup [.ref B,.ref I,.ref N])):=Rl.new lx.rl hp
 have OM:Rl r H1 Hx:=l2.trans (ON.trans lx)
 have XB:=ON.trans lx
 have TB:m=(nds.length:Int):=by lia
 show q p B I N vb vn bs ins nds _ (l1.trans (OM.trans lp)) ae (HM.go ⟨OM.k _ _ nB hB,(l4.trans lx).k _ _ Ir gi,gN,Paired.aZ pb fun u u z=>Tp.keep (Rl.tk l1.rl OM) z,pn,nB,Ir,Nr⟩ lx.rl lp) ⟨ob,ni,sub,by lia,by lia,fun e he=>by rw[← TB];show on e he⟩
def Np.led:Np->List Int->Np
 | .put x s n,l=>.put x s ((l[0]?).getD n)
 | .say s n,l=>.say s ((l[0]?).getD n)
 | .test c n o,l=>.test c ((l[0]?).getD n) ((l[1]?).getD o)
 | .pick x n,l=>.pick x ((l[0]?).getD n)
 | .fin,_=>.fin
abbrev yp:Stmt:=top 8
def du:Sp:=fun vs H Q z=>∃(v:V) (nd:Np),vs=[v]/\aI H v nd/\∀l H',ah H H'->H' l=some (.lst (nd.aH.map V.int))->Q (.ref l) H'
def BK:aC ["node"] ["node"] (aq yp):=df
def xA {f:Addr}{fd:Yx}(F:b9 K "leads_of" "leads_of" yp f fd)  : aO P w K mg base bU 1 f fd ["node"] du:=by
 show F.c0 BK fun cdv A outer s H vs Q E hr h=>?_
 obtain⟨v,nd,rfl,hn,q⟩:=h
 show dN ⟨_,(acj (acy (acr acC (ack acp (Y 0) aci) acu) (acn (acq (acB M))) acz)
   (acj (acy (acr acC (ack acp (Y 0) aci) acu) (acn (acq (acB (L (ack acp (Y 0) aci) M)))) acz)
   (acj (acy (acr L3.xp (ack acp (Y 0) aci) (acx (L acu (L acu M))) U) (acn (acq (acB (L (ack acp (Y 0) aci) M)))) acz)
   (acn (acq (acB (L (ack acp (Y 0) aci) (L (ack acp (Y 0) aci) M)))))))),?_⟩
 cases nd with
 | fin=>
   obtain⟨x,rfl,hx⟩:=hn
   show⟨_,U,?_⟩
   show aP hx U ?_
   show⟨U,_,U,?_⟩
   show aN (fun z=>?_) (fun c=>az (cH rfl) c)
   show⟨aes,fun l hl=>q l _ (af hl _) ae⟩
 | put nm e n=>
   obtain⟨u,⟨x,rfl,hx⟩,eu⟩:=hn
   show⟨_,U,?_⟩
   show aP hx U ?_
   show⟨U,_,U,?_⟩
   show aN (fun c=>az (cZ c) (by left)) (fun z=>?_)
   show⟨_,U,?_⟩
   show aP hx U ?_
   show⟨U,_,U,?_⟩
   show aN (fun z=>?_) (fun c=>az (cH rfl) c)
   show⟨_,U,?_⟩
   show aP hx U ?_
   show⟨aet,fun l hl=>q l _ (af hl _) ae⟩
 | say e n=>
   obtain⟨u,⟨x,rfl,hx⟩,eu⟩:=hn
   show⟨_,U,?_⟩
   show aP hx U ?_
   show⟨U,_,U,?_⟩
   show aN (fun c=>az (cZ c) (by left)) (fun z=>?_)
   show⟨_,U,?_⟩
   show aP hx U ?_
   show⟨U,_,U,?_⟩
   show aN (fun c=>az (cZ c) (by left)) (fun z=>?_)
   show⟨_,U,?_⟩
   show aP hx U ?_
   show⟨aeu,fun t0 j6=>⟨t0,_,U,.inr (bM.of ae),U,U,_,U,?_⟩⟩
   have s0:=af j6 (.tup [.str "say",.str "pick"])
   generalize upd H t0 (.tup [.str "say",.str "pick"])=H0 at s0 ⊢
   have hx:=s0 _ _ hx
   show aN (fun z=>?_) (fun c=>az (show zp (.str "say") _=true by left) c)
   show⟨_,U,?_⟩
   show aP hx U ?_
   show⟨aet,fun l hl=>q l _ (aa s0 (af hl _)) ae⟩
 | pick nm n=>
   obtain⟨x,rfl,hx⟩:=hn
   show⟨_,U,?_⟩
   show aP hx U ?_
   show⟨U,_,U,?_⟩
   show aN (fun c=>az (cZ c) (by left)) (fun z=>?_)
   show⟨_,U,?_⟩
   show aP hx U ?_
   show⟨U,_,U,?_⟩
   show aN (fun c=>az (cZ c) (by left)) (fun z=>?_)
   show⟨_,U,?_⟩
   show aP hx U ?_
   show⟨aeu,fun t0 j6=>⟨t0,_,U,.inr (bM.of ae),U,U,_,U,?_⟩⟩
   have s0:=af j6 (.tup [.str "say",.str "pick"])
   generalize upd H t0 (.tup [.str "say",.str "pick"])=H0 at s0 ⊢
   have hx:=s0 _ _ hx
   show aN (fun z=>?_) (fun c=>az (show zp (.str "pick") _=true by left) c)
   show⟨_,U,?_⟩
   show aP hx U ?_
   show⟨aet,fun l hl=>q l _ (aa s0 (af hl _)) ae⟩
 | test c n o=>
   obtain⟨u,⟨x,rfl,hx⟩,eu⟩:=hn
   show⟨_,U,?_⟩
   show aP hx U ?_
   show⟨U,_,U,?_⟩
   show aN (fun c=>az (cZ c) (by left)) (fun z=>?_)
   show⟨_,U,?_⟩
   show aP hx U ?_
   show⟨U,_,U,?_⟩
   show aN (fun c=>az (cZ c) (by left)) (fun z=>?_)
   show⟨_,U,?_⟩
   show aP hx U ?_
   show⟨aeu,fun t0 j6=>⟨t0,_,U,.inr (bM.of ae),U,U,_,U,?_⟩⟩
   have s0:=af j6 (.tup [.str "say",.str "pick"])
   generalize upd H t0 (.tup [.str "say",.str "pick"])=H0 at s0 ⊢
   have hx:=s0 _ _ hx
   show aN (fun c=>az c (by left)) (fun z=>?_)
   show⟨_,U,?_⟩
   show aP hx U ?_
   show⟨_,U,?_⟩
   show aP hx U ?_
   show⟨aeu,fun l hl=>q l _ (aa s0 (af hl _)) ae⟩
def zj (K:Yl)(H:Hp)(v:V)(xs:List V):Prop:=∃p,v=.ref p/\(H p=some (.tup xs)\/∀H',bM K H' p xs)
def zj.keep {K:Yl}{H H':Hp}{v:V}{xs:List V}(k:TK H H')(h:zj K H v xs):zj K H' v xs:=by obtain⟨p,e,z⟩:=h;show⟨p,e,z.elim (fun z=>.inl (k _ _ z)) .inr⟩
def Tp.k {K:Yl}{H:Hp}{v:V}{xs:List V}(h:Tp H v xs):zj K H v xs:=by obtain⟨p,e,z⟩:=h;show⟨p,e,.inl z⟩
def EK (K:Yl)(H:Hp):V->E->Prop
 | v,.num n=>zj K H v [.str "number",.int n]
 | v,.box t x=>Tp H v [.str t,.str x]
 | v,.yes=>zj K H v [.str "yes"]
 | v,.nt a=>∃x,zj K H v [.str "not",x]/\EK K H x a
 | v,.two k a b=>∃x y,zj K H v [.str k.str,x,y]/\EK K H x a/\EK K H y b
theorem EK.keep {K:Yl}{H H':Hp}(k:TK H H'):∀{e:E} {v:V},EK K H v e->EK K H' v e
 | .num _,_,h=>zj.keep k h
 | .box _ _,_,h=>Tp.keep k h
 | .yes,_,h=>zj.keep k h
 | .nt _,_,⟨x,h,a⟩=>⟨x,h.keep k,EK.keep k a⟩
 | .two _ _ _,_,⟨x,y,h,a,b⟩=>⟨x,y,h.keep k,EK.keep k a,EK.keep k b⟩
inductive Bt:E->List E->Prop
 | one (e:E):Bt e [e]
 | two {a b:E} {xs ys:List E}:Bt a xs->Bt b ys->Bt (.two .both a b) (xs++ys)
abbrev jm (x:Str):E:=.two .same (.box "mine" x) (.box "yours" x)
theorem Paired.take {α β:Type}{F:α->β->Prop}:∀{a:List α} {b:List β} (n:Nat),Paired F a b->Paired F (a.take n) (b.take n)
 | _,_,0,_=>by rw[Zn,Zn];show .nil
 | _,_,_+1,.nil=>.nil
 | _,_,n+1,.cons r t=>.cons r (Paired.take n t)
theorem Paired.drop {α β:Type}{F:α->β->Prop}:∀{a:List α} {b:List β} (n:Nat),Paired F a b->Paired F (a.drop n) (b.drop n)
 | _,_,0,h=>by rw[Zo,Zo];show h
 | _,_,_+1,.nil=>.nil
 | _,_,n+1,.cons _ t=>Paired.drop n t
abbrev KY:Stmt:=top 34
abbrev CG:Stmt:=top 35
abbrev yz:Stmt:=top 36
abbrev fG:Stmt:=top 29
abbrev qU:Stmt:=top 30
abbrev yj:Stmt:=top 37
abbrev yh:Stmt:=top 38
abbrev CH:Stmt:=top 39
abbrev yq:Stmt:=top 41
def mr:Sp:=fun vs H Q z=>∃(p l B I N:Addr) (vn:List V) (hs:List Int),vs=[.ref p,.ref l]/\H p=some (.tup [.ref B,.ref I,.ref N])/\H N=some (.lst vn)/\H l=some (.lst (hs.map V.int))/\(∀h∈hs,0<=h/\h<(vn.length:Int))/\Q .bJ H
def CP:aC ["program","numbers","number"] ["program","numbers"] (aq KY):=df
def E6 {f:Addr}{fd:Yx}(F:b9 K "refuse_no_nodes" "refuse_no_nodes" KY f fd)(m_len:mg "len"=none):aO P w K mg base bU 1 f fd ["program","numbers"] mr:=by
 show F.c0 CP fun cdv A outer s H vs Q E hr h=>?_
 obtain⟨p,l,B,I,N,vn,hs,rfl,hp,hN,hl,hh,q⟩:=h
 show dN ⟨_,(acn (acM (acI (Y 1)) (aco 2 CP.nd) (acn (acy (acK (acV (acr adf (Y 2) aci) (acZ (acr L3.EG (Y 2) (acA acG U m_len Yy (L (ack acp (Y 0) aci) M)))))) adk acz)))),?_⟩
 show⟨_,U,l,U,⟨_,aF.of hl⟩,?_⟩
 show dA (xs:=hs.map V.int) (fun i σ Hx=>(∃o,σ=[some (.ref p),some (.ref l),o])/\Hx=H) ⟨⟨_,U⟩,U⟩ (fun i σ Hx y z=>by rw[z.2];show aF.of hl) (fun i x0 σ Hx hx z=>?_) (fun σ Hx z=>by rw[z.2];show q)
 obtain⟨⟨o,rfl⟩,rfl⟩:=z
 obtain⟨h0,G4,rfl⟩:=ba hx
 have Xo:=hh h0 (Yq G4)
 show au ?_
 show⟨_,U,_,_,U,U,_,U,aK (f6 (by lia)) ?_⟩
 show⟨_,U,_,U,?_⟩
 show aP hp U ?_
 show⟨N,_,U,.inl (aF.of hN),_,_,U,U,_,U,aK (f6 (by lia)) ?_⟩
 show⟨⟨_,U⟩,U⟩
def qf (xs:List V)(k:Nat)(h:k<=xs.length):cy xs none (some (k:Int))=xs.take k:=by
 unfold cy
 have e2:HT.bX xs.length xs.length (some ((k:Nat):Int))=min k xs.length:=HT.dt _ _ _
 rw[e2,HT.kD,Zo,Z2,ZA h]
def gu:Sp:=fun vs H Q z=>∃(v:V) (l:Addr) (e:Np) (ls:List Int),vs=[v,.ref l]/\aI H v e/\H l=some (.lst (ls.map V.int))/\ls.length=e.aH.length/\∀(v':V) (H':Hp),ah H H'->aI H' v' (e.led ls)->Q v' H'
def aI.parts {H:Hp}:∀{e:Np} {v:V},aI H v e->∃(p:Addr) (as:List V),v=.ref p/\H p=some (.tup (as++e.aH.map V.int))/\as≠[]/\as.length<=3/\∀(ls:List Int) (H':Hp) (p':Addr),TK H H'->ls.length=e.aH.length->H' p'=some (.tup (as++ls.map V.int))->aI H' (.ref p') (e.led ls)
 | .put x s n,_,⟨u,⟨p,rfl,h⟩,a⟩=>⟨p,[.str "put",.str x,u],rfl,h,(fun z=>nomatch z),(by change 3<=3;decide),fun ls H' p' k hl h'=>by
   match ls,hl with
   | [m],_=>show⟨u,⟨p',rfl,h'⟩,a.keep k⟩⟩
 | .say s n,_,⟨u,⟨p,rfl,h⟩,a⟩=>⟨p,[.str "say",u],rfl,h,(fun z=>nomatch z),(by change 2<=3;decide),fun ls H' p' k hl h'=>by
   match ls,hl with
   | [m],_=>show⟨u,⟨p',rfl,h'⟩,a.keep k⟩⟩
 | .test c n o,_,⟨u,⟨p,rfl,h⟩,a⟩=>⟨p,[.str "test",u],rfl,h,(fun z=>nomatch z),(by change 2<=3;decide),fun ls H' p' k hl h'=>by
   match ls,hl with
   | [m,m2],_=>show⟨u,⟨p',rfl,h'⟩,a.keep k⟩⟩
 | .pick x n,_,⟨p,rfl,h⟩=>⟨p,[.str "pick",.str x],rfl,h,(fun z=>nomatch z),(by change 2<=3;decide),fun ls H' p' k hl h'=>by
   match ls,hl with
   | [m],_=>show⟨p',rfl,h'⟩⟩
 | .fin,_,⟨p,rfl,h⟩=>⟨p,[.str "end"],rfl,h,(fun z=>nomatch z),by left,fun ls H' p' k hl h'=>by
   match ls,hl with
   | [],_=>show⟨p',rfl,h'⟩⟩
def Np.qt:∀e:Np,e.aH.length<=2
 | .put _ _ _=>(by left:1<=2)|.say _ _=>(by left:1<=2)|.test _ _ _=>(by left:2<=2)|.pick _ _=>(by left:1<=2)|.fin=>(by left:0<=2)
def Gh:aC ["node","leads"] ["node","leads"] (aq CG):=df
def AK {f:Addr}{fd:Yx}(F:b9 K "led_anew" "led_anew" CG f fd)(m_len:mg "len"=none)(m_tuple:mg "tuple"=none):aO P w K mg base bU 1 f fd ["node","leads"] gu:=by
 show F.c0 Gh fun cdv A outer s H vs Q E hr h=>?_
 obtain⟨v,l,e,ls,rfl,na,hl,ll,q⟩:=h
 obtain⟨p,as,rfl,hp,S6,Xb,mk⟩:=na.parts
 have e2:=e.qt
 have lt:(as++e.aH.map V.int).length=as.length+e.aH.length:=by rw[Ym,Yk]
 show dN ⟨_,(acn (acq (acv L3.EF (L3.PX (Y 0) (acv acY (acA acG U m_len Yy (L (Y 0) M)) (acA acG U m_len Yy (L (Y 1) M)))) (acP L3.jB U m_tuple (by right) (L (Y 1) M))))),?_⟩
 show⟨_,U,_,U,p,_,U,.inr (bM.of hp),_,U,l,_,U,.inl (aF.of hl),_,_,U,U,_,U,?_⟩
 have ek:(((as++e.aH.map V.int).length:Int)-((ls.map V.int).length:Int))=((as.length:Nat):Int):=by rw[lt,Yk,ll];lia
 rw[ek]
 have ec:cy (as++e.aH.map V.int) none (some ((as.length:Nat):Int))=as:=by rw[qf _ _ (by lia),List.take_left]
 have i1:HT.bX (as++e.aH.map V.int).length (as++e.aH.map V.int).length (some ((as.length:Nat):Int))=min as.length (as++e.aH.map V.int).length:=HT.dt _ _ _
 have last:∀(a1:Addr) (H1:Hp),ah H H1->H1 a1=some (.tup as)->∃p1 ys,[V.ref l]=[.ref p1]/\aF K H1 p1 ys/\∀t1,H1 t1=none->x9 K (.ref a1) (.ref t1) (upd H1 t1 (.tup ys)) Q:=fun a1 H1 s1 g1=>by
   show⟨l,_,U,aF.of (s1 _ _ hl),fun t1 wI=>?_⟩
   have s2:=af wI (.tup (ls.map V.int))
   have g2:(upd H1 t1 (.tup (ls.map V.int))) t1=some (.tup (ls.map V.int)):=ae
   generalize upd H1 t1 (.tup (ls.map V.int))=H2 at s2 g2 ⊢
   show⟨a1,t1,_,_,U,U,bM.of (s2 _ _ g1),bM.of g2,S6,YU (show _<=1000 by rw[Yk];lia) (by left),fun z=>?_,fun y p' kM=>?_⟩
   . show q _ _ (aa s1 s2) (mk ls H2 a1 (ah.tk (aa s1 s2)) ll ?_)
     rw[z,YO]
     show s2 _ _ g1
   . show q _ _ (bY (aa s1 s2) kM) (mk ls _ p' (ah.tk (bY (aa s1 s2) kM)) ll ae)
 by_cases hw:e.aH=[]
 . show .inr ⟨p,_,U,bM.of hp,⟨U,?_⟩,?_⟩
   . rw[i1,lt,hw]
     change min as.length (as.length+0)=as.length+0
     lia
   . have uA:H p=some (.tup as):=by rw[hp,hw];simp
     show⟨_,U,last p H (same_refl _) uA⟩
 . show .inl ⟨p,_,U,bM.of hp,fun z=>?_,fun a1 DT=>?_⟩
   . have z2:=z.2
     have:0<e.aH.length:=by
       cases h:e.aH with
       | nil=>show az h hw
       | cons a l=>show ab8 _
     rw[i1,lt]at z2
     lia
   . rw[ec]
     show⟨_,U,last a1 _ (af DT _) ae⟩
def eG:Sp:=fun vs H Q z=>∃(p n B I N:Addr) (vb vi:List V),vs=[.ref p,.ref n]/\H p=some (.tup [.ref B,.ref I,.ref N])/\H B=some (.lst vb)/\H I=some (.lst vi)/\∀(p' B' I':Addr) (H':Hp),ah H H'->H' p'=some (.tup [.ref B',.ref I',.ref n])->H' B'=some (.lst vb)->H' I'=some (.lst vi)->H B'=none->H I'=none->B'≠I'->Q (.ref p') H'
def BM:aC ["program","nodes"] ["program","nodes"] (aq yz):=df
def xF {f:Addr}{fd:Yx}(F:b9 K "with_nodes" "with_nodes" yz f fd)(m_list:mg "list"=none):aO P w K mg base bU 1 f fd ["program","nodes"] eG:=by
 show F.c0 BM fun cdv A outer s H vs Q E hr h=>?_
 obtain⟨p,n,B,I,N,vb,vi,rfl,hp,hB,hI,q⟩:=h
 show dN ⟨_,(acn (acq (acx (L (acP adg U m_list (by right) (L (ack acp (Y 0) aci) M)) (L (acP adg U m_list (by right) (L (ack acp (Y 0) aci) M)) (L (Y 1) M)))))),?_⟩
 show⟨_,U,?_⟩
 show aP hp U ?_
 show⟨B,_,U,.inl (aF.of hB),fun B' GV=>?_⟩
 obtain⟨H1,sb,gb,zz⟩:=gh GV (.lst vb)
 rw[zz];clear zz
 show⟨_,U,?_⟩
 show aP (sb _ _ hp) U ?_
 show⟨I,_,U,.inl (aF.of (sb _ _ hI)),fun I' IW=>?_⟩
 obtain⟨H2,si,gi,zz⟩:=gh IW (.lst vi)
 rw[zz];clear zz
 show⟨_,U,aev,fun p' kM=>?_⟩
 have s3:=af kM (.tup [.ref B',.ref I',.ref n])
 show q p' B' I' _ (aa sb (aa si s3)) ae (s3 _ _ (si _ _ gb)) (s3 _ _ gi) GV (ag sb IW) (ao gb IW)
def fj (K:Yl)(n:Nat):Sp:=fun vs H Q z=>∃(l:Addr) (us:List V) (es:List E),vs=[.str "both",.ref l]/\H l=some (.lst us)/\Paired (EK K H) us es/\1<=us.length/\us.length<n/\n<=900/\∀(v:V) (e:E) (H':Hp),ah H H'->EK K H' v e->Bt e es->Q v H'
def oO {f:Addr}{fd:Yx}:aO P w K mg base bU 1 f fd ["word","parts"] ((fj K) 0):=by
 have no:∀vs H Q E,¬ (fj K) 0 vs H Q E:=fun vs H Q E h=>by
   obtain⟨l,us,es,_,_,_,_,h,_⟩:=h
   lia
 show⟨fun vs H Q E h=>az h (no vs H Q E),fun A outer s H args us vs Q E z z z z h=>az h (no vs H Q E)⟩
def fg:aC ["word","parts","half"] ["word","parts"] (aq fG):=df
def vX (xs:List V)(k:Nat)(h:k<=xs.length):cy xs (some (k:Int)) none=xs.drop k:=by
 unfold cy
 have e2:HT.bX xs.length 0 (some ((k:Nat):Int))=min k xs.length:=HT.dt _ _ _
 rw[e2,HT.kD,ZA h,YI (by rw[Zj];lia)]
def uR {n:Nat}{f:Addr}{fd:Yx}(F:b9 K "joined_by" "joined_by" fG f fd)(m_len:mg "len"=none)(G:aS P w K mg base "joined_by" ["word","parts"] (n+1) (fj K n)):aO P w K mg base bU (n+1+1) f fd ["word","parts"] (fj K (n+1)):=by
 show F.c0 fg fun cdv A outer s H vs Q E hr h=>?_
 obtain⟨l,us,es,rfl,hl,pe,l1,ln,n9,q⟩:=h
 show dN ⟨_,(acj (acy (acr acC (acA acG U m_len Yy (L (Y 1) M)) aci) (acn (acq (ack acD (Y 1) aci))) acz)
   (acj (acw 2 fg.nd (acv adb (acA acG U m_len Yy (L (Y 1) M)) aci))
   (acn (acq (acx (L (Y 0) (L (acm G hr U (L (Y 0) (L (ac7 (Y 1) (Y 2)) M))) (L (acm G hr U (L (Y 0) (L (L3.Gm (Y 1) (Y 2)) M))) M)))))))),?_⟩
 show aE fun Rk kR=>?_
 show⟨_,U,l,_,U,.inl (aF.of hl),U,_,U,?_⟩
 show aN (fun c=>?_) (fun c=>?_)
 . have c1:us.length=1:=by
     have:=wM c
     lia
   match us,es,pe,hl,c1 with
   | [u],[e],.cons r .nil,hl,_=>show⟨_,rfl,l,_,_,_,rfl,rfl,aF.of hl,Dy,q _ e _ (same_refl _) r (.one e)⟩
 have c1:us.length≠1:=fun z=>c (cH (by rw[z];rfl))
 show kR _ _ (aE fun Rk kR=>?_)
 show⟨_,U,l,_,U,.inl (aF.of hl),_,_,U,U,⟨by left,by right⟩,?_⟩
 show au (kR _ _ ?_)
 show aG [some (.str "both"),some (.ref l),some (.int ((us.length/2:Nat):Int))] (by change[some (V.str "both"),some (V.ref l),some (V.int ((us.length:Int)/2))]=_;rw[show(us.length:Int)/2=((us.length/2:Nat):Int)by lia]) ?_
 show⟨_,U,_,U,_,U,_,U,_,U,l,_,U,aF.of hl,fun a1 DT=>?_⟩
 rw[qf _ _ (by lia)]
 have s1:=af DT (.lst (us.take (us.length/2)))
 have g1:(upd H a1 (.lst (us.take (us.length/2)))) a1=some (.lst (us.take (us.length/2))):=ae
 generalize upd H a1 (.lst (us.take (us.length/2)))=H1 at s1 g1 ⊢
 show⟨a1,_,es.take (us.length/2),U,g1,Paired.take _ (Paired.aZ pe fun y y z=>EK.keep (ah.tk s1) z),by rw[Yu];lia,by rw[Yu];lia,by lia,fun v1 e1 H2 s2 v8 Tb=>?_⟩
 show⟨_,U,_,U,_,U,_,U,l,_,U,aF.of (s2 _ _ (s1 _ _ hl)),fun a2 IX=>?_⟩
 rw[vX _ _ (by lia)]
 have s3:=af IX (.lst (us.drop (us.length/2)))
 have g3:(upd H2 a2 (.lst (us.drop (us.length/2)))) a2=some (.lst (us.drop (us.length/2))):=ae
 generalize upd H2 a2 (.lst (us.drop (us.length/2)))=H3 at s3 g3 ⊢
 show⟨a2,_,es.drop (us.length/2),U,g3,Paired.drop _ (Paired.aZ pe fun y y z=>EK.keep (ah.tk (aa s1 (aa s2 s3))) z),by rw[Zj];lia,by rw[Zj];lia,by lia,fun v2 e2 H4 s4 qg Tc=>⟨aev,fun p hp=>?_⟩⟩
 have sp:=af hp (.tup [.str "both",v1,v2])
 have bt:=Bt.two Tb Tc
 rw[ab5]at bt
 show q _ (.two .both e1 e2) _ (bY (aa (aa s1 s2) (aa s3 s4)) hp) ⟨v1,v2,Tp.k ⟨p,U,ae⟩,EK.keep (ah.tk (aa (aa s3 s4) sp)) v8,EK.keep (ah.tk sp) qg⟩ bt
def qk (s:Src K mg "joined_by" fG)(m_len:mg "len"=none):∀n:Nat,aS P w K mg base "joined_by" ["word","parts"] (n+1) ((fj K) n):=by
 obtain⟨f,fd,F,m⟩:=s
 have b:Binds K fd ["word","parts"] []:=nW F fun z z z z z z z z=>rfl
 intro n
 have all:aO P w K mg base bU (n+1) f fd ["word","parts"] ((fj K) n):=by
   induction n with
   | zero=>show oO
   | succ n ih=>show uR F m_len ⟨f,fd,ih,F.kp,b,m⟩
 show⟨f,fd,all,F.kp,b,m⟩
def tK (K:Yl):Sp:=fun vs H Q z=>∃(l:Addr) (us:List V) (es:List E),vs=[.ref l]/\H l=some (.lst us)/\Paired (EK K H) us es/\1<=us.length/\us.length<=5/\∀(v:V) (e:E) (H':Hp),ah H H'->EK K H' v e->Bt e es->Q v H'
def tq:aC ["conditions"] ["conditions"] (aq qU):=df
def xr {f:Addr}{fd:Yx}(F:b9 K "all_of" "all_of" qU f fd)(J:aS P w K mg base "joined_by" ["word","parts"] 7 (fj K 6)):aO P w K mg base bU 8 f fd ["conditions"] (tK K):=by
 show F.c0 tq fun cdv A outer s H vs Q E hr h=>?_
 obtain⟨l,us,es,rfl,hl,pe,l1,l5,q⟩:=h
 show dN ⟨_,(acn (acq (acm J hr U (L acu (L (Y 0) M))))),?_⟩
 show⟨_,U,l,us,es,U,hl,pe,l1,by lia,by left,q⟩
def q8 (K:Yl):Sp:=fun vs H Q z=>∃(l:Addr) (ns:List Str),vs=[.ref l]/\H l=some (.lst (ns.map V.str))/\ns.length<=4/\∀(v:V) (e:E) (H':Hp),ah H H'->EK K H' v e->Bt e (.yes::ns.map jm)->Q v H'
def Gg:aC ["names"] ["names"] (aq yj):=df
def AH {tY:Addr}{f:Addr}{fd:Yx}(F:b9 K "boxes_same" "boxes_same" yj f fd)(mY:mg "YES"=some (.ref tY))(cY:∀H:Hp,bM K H tY [.str "yes"])(AO:aS P w K mg base "all_of" ["conditions"] 8 (tK K)):aO P w K mg base bU 9 f fd ["names"] (q8 K):=by
 show F.c0 Gg fun cdv A outer s H vs Q E hr h=>?_
 obtain⟨l,ns,rfl,hl,n4,q⟩:=h
 show dN ⟨_,(acn (acq (acm AO hr U (L (acv ac9 (acB (L (L3.glob (w:=.ref tY) U mY rfl) M)) (acO [none] ["name"] (fP yj) U (acI (Y 0)) (fun y y y y y=>⟨(aco 0 (dE ["name"])),acH,(acx (L acu (L (acx (L acu (L (Y 0) M))) (L (acx (L acu (L (Y 0) M))) M))))⟩))) M)))),?_⟩
 show⟨aet,fun l1 hl1=>?_⟩
 obtain⟨H1,s1,g1,zz⟩:=gh hl1 (.lst [.ref tY])
 rw[zz];clear zz
 have Ck:=s1 _ _ hl
 show⟨_,U,l,U,⟨_,aF.of Ck⟩,fun D hD=>?_⟩
 show aT (xs:=ns.map V.str) (fun i Hx=>ah H1 Hx/\∃us,Hx D=some (.lst us)/\us.length=i/\Paired (EK K Hx) us ((ns.take i).map jm)) ⟨af hD _,[],ae,U,.nil⟩ (fun i Hx y z=>aF.of (z.1 _ _ Ck)) (fun i x0 Hx hx z=>?_) (fun Hx z=>?_)
 . obtain⟨sx,us,gD,ul,pe⟩:=z
   have cL:=(aQ hx)
   rw[Yk]at cL
   obtain⟨xn,Vm,rfl⟩:=ba hx
   show au ?_
   show bF (A:=fun H5=>cf _ D _ H5 _) ?_
   show⟨_,U,aeu,fun a1 DT=>⟨_,U,aeu,fun a2 IX=>⟨aev,fun a3 Ur=>?_⟩⟩⟩
   have Se:=af Ur (.tup [.str "same",.ref a1,.ref a2])
   have Sd:=aa (af IX (.tup [.str "yours",.str xn])) Se
   have sa:=aa (af DT (.tup [.str "mine",.str xn])) Sd
   have Nq:=sa _ _ gD
   have k1:=Sd a1 (.tup [.str "mine",.str xn]) ae
   have k2:=Se a2 (.tup [.str "yours",.str xn]) ae
   have k3:(upd (upd (upd Hx a1 (.tup [.str "mine",.str xn])) a2 (.tup [.str "yours",.str xn])) a3 (.tup [.str "same",.ref a1,.ref a2])) a3=some (.tup [.str "same",.ref a1,.ref a2]):=ae
   generalize upd (upd (upd Hx a1 (.tup [.str "mine",.str xn])) a2 (.tup [.str "yours",.str xn])) a3 (.tup [.str "same",.ref a1,.ref a2])=Hy at sa Nq k1 k2 k3 ⊢
   have MO:TK Hy (upd Hy D (.lst (us++[.ref a3]))):=TW.TK.lst Nq
   show⟨us,Nq,aD (by lia),aB (Pv:=fun i Hx=>ah H1 Hx/\∃us,Hx D=some (.lst us)/\us.length=i/\Paired (EK K Hx) us ((ns.take i).map jm)) (by repeat' constructor) (by rw[Yk];show cL) ⟨aA (aa sx sa) hD,us++[.ref a3],ae,by rw[Ym,ul];rfl,?_⟩⟩
   rw[Yv,Vm,Yt]
   show Paired.snoc (Paired.aZ pe fun y y z=>EK.keep ((ah.tk sa).trans MO) z) ⟨_,_,Tp.k ⟨a3,U,MO _ _ k3⟩,⟨a1,U,MO _ _ k1⟩,⟨a2,U,MO _ _ k2⟩⟩
 obtain⟨sx,us,gD,ul,pe⟩:=z
 rw[Yk]at ul
 rw[Yk,YR]at pe
 show⟨l1,D,_,_,U,U,sx _ _ g1,gD,small (by rw[aae];lia),fun r Co=>?_⟩
 have sr:=af Co (.lst ([.ref tY]++us))
 show⟨r,_,.yes::ns.map jm,U,ae,.cons ⟨tY,U,.inr cY⟩ (Paired.aZ pe fun y y z=>EK.keep (ah.tk sr) z),by rw[Ym,aae];lia,by rw[Ym,aae];lia,fun v e H' s' ek bt=>?_⟩
 show q v e H' (aa (bY (aa s1 sx) Co) s') ek bt
def i5 (K:Yl):Sp:=fun vs H Q z=>∃(p B I N:Addr) (vb:List V) (bs:aj),vs=[.ref p]/\H p=some (.tup [.ref B,.ref I,.ref N])/\H B=some (.lst vb)/\Paired (eR H) vb bs/\bs.length<=4/\∀(v:V) (e:E) (H':Hp),ah H H'->EK K H' v e->Bt e (.yes::(bs.map (·.1)).map jm)->Q v H'
def Ge:aC ["program"] ["program"] (aq yh):=df
def AF {f:Addr}{fd:Yx}(F:b9 K "all_same" "all_same" yh f fd)(BS:aS P w K mg base "boxes_same" ["names"] 9 (q8 K)):aO P w K mg base bU 10 f fd ["program"] (i5 K):=by
 show F.c0 Ge fun cdv A outer s H vs Q E hr h=>?_
 obtain⟨p,B,I,N,vb,bs,rfl,hp,hB,pb,b4,q⟩:=h
 have vl:=Paired.length pb
 show dN ⟨_,(acn (acq (acm BS hr U (L (acO [none,none] ["name","size"] (fP yh) U (acI (ack acp (Y 0) aci)) (fun y y y y y=>⟨(acF 2 (acs (aco 0 (dE ["name","size"])) (acs (aco 1 (dE ["name","size"])) acE))),acH,(Y 0)⟩)) M)))),?_⟩
 show⟨_,U,?_⟩
 show aP hp U ?_
 show⟨B,U,⟨_,aF.of hB⟩,fun D hD=>?_⟩
 show aT (xs:=vb) (fun i Hx=>ah H Hx/\Hx D=some (.lst (((bs.take i).map (·.1)).map V.str))) ⟨af hD _,ae⟩ (fun i Hx y z=>aF.of (z.1 _ _ hB)) (fun i x0 Hx hx z=>?_) (fun Hx z=>?_)
 . obtain⟨sx,gD⟩:=z
   have cL:=(aQ hx)
   obtain⟨b,rY,pp,rfl,fB⟩:=Paired.get pb hx
   show jL (sx _ _ fB) ?_
   show bF (A:=fun H5=>cf _ D _ H5 _) ?_
   show⟨_,U,_,gD,aD (by rw[Yk,Yk,Yu];lia),aB (Pv:=fun i Hx=>ah H Hx/\Hx D=some (.lst (((bs.take i).map (·.1)).map V.str))) (by repeat' constructor) cL ⟨aA sx hD,?_⟩⟩
   rw[ae,Yv,rY,Yt,Yt]
   rfl
 obtain⟨sx,gD⟩:=z
 rw[vl,YR]at gD
 show⟨D,_,U,gD,by rw[Yk];lia,fun v e H' s' ek bt=>q v e H' (aa sx s') ek bt⟩
def Np.hd:Np->Str
 | .put _ _ _=>"put" | .say _ _=>"say" | .test _ _ _=>"test" | .pick _ _=>"pick" | .fin=>"end"
def aI.head {H:Hp}:∀{e:Np} {v:V},aI H v e->∃(p:Addr) (as:List V),v=.ref p/\H p=some (.tup (.str e.hd::as))
 | .put _ _ _,_,⟨_,⟨p,h,a⟩,_⟩=>⟨p,_,h,a⟩
 | .say _ _,_,⟨_,⟨p,h,a⟩,_⟩=>⟨p,_,h,a⟩
 | .test _ _ _,_,⟨_,⟨p,h,a⟩,_⟩=>⟨p,_,h,a⟩
 | .pick _ _,_,⟨p,h,a⟩=>⟨p,_,h,a⟩
 | .fin,_,⟨p,h,a⟩=>⟨p,_,h,a⟩
def dq (tO:Addr)(H:Hp)(v u:V)(e:Int×Int×Str):Prop:=Tp H v [.int e.1,.int e.2.1,u,.str (if e.2.2="end" then "end" else "both"),.ref tO]
def dq.keep {tO:Addr}{H H':Hp}(k:TK H H'){v u:V}{e:Int×Int×Str}(h:dq tO H v u e):dq tO H' v u e:=Tp.keep k h
def gv (tO:Addr):Sp:=fun vs H Q z=>∃(p B I N:Addr) (vn:List V) (e:Np) (j:Nat) (n:Int) (u x:V),vs=[.ref p,.int (j:Int),.int n,u]/\H p=some (.tup [.ref B,.ref I,.ref N])/\H N=some (.lst vn)/\vn[j]?=some x/\aI H x e/\∀(v:V) (H':Hp),ah H H'->dq tO H' v u ((j:Int),n,e.hd)->Q v H'
def yE:aC ["program","place","new_place","condition","who"] ["program","place","new_place","condition"] (aq CH):=df
def AM {tO:Addr}{f:Addr}{fd:Yx}(F:b9 K "level_entry" "level_entry" CH f fd)(mO:mg "NOUGHT"=some (.ref tO)):aO P w K mg base bU 1 f fd ["program","place","new_place","condition"] (gv tO):=by
 show F.c0 yE fun cdv A outer s H vs Q E hr h=>?_
 obtain⟨p,B,I,N,vn,e,j,n,u,x,rfl,hp,hN,hx,na,q⟩:=h
 obtain⟨px,as,rfl,Ji⟩:=na.head
 show dN ⟨_,(acj (acw 4 yE.nd (ac0 (acr acC (ack acp (ack acD (ack acp (Y 0) aci) (Y 1)) aci) acu) acu acu))
   (acn (acq (acx (L (Y 1) (L (Y 2) (L (Y 3) (L (Y 4) (L (L3.glob (w:=.ref tO) U mO rfl) M))))))))),?_⟩
 show aE fun Rk kR=>?_
 show⟨_,U,?_⟩
 show aP hp U ?_
 show⟨_,U,?_⟩
 show eA hN (aV hx) ?_
 show aP Ji Dy ?_
 show⟨U,_,U,?_⟩
 have fin:Rk [some (.ref p),some (.int (j:Int)),some (.int n),some u,some (.str (if e.hd="end" then "end" else "both"))] H:=by
   show kR _ _ ?_
   show⟨_,U,_,U,_,U,_,U,aex,fun p5 L9=>q _ _ (af L9 _) ⟨p5,U,ae⟩⟩
 show aN (fun c=>?_) (fun c=>?_)
 . have c:e.hd="end":=by
     have:=cZ c
     injection this
   rw[bj c]at fin
   show au ?_
   show fin
 . have c:¬ e.hd="end":=fun z=>c (cH (congrArg V.str z))
   rw[bg c]at fin
   show au ?_
   show fin
abbrev BD:Stmt:=top 49
abbrev KZ:Stmt:=top 48
def bD {c:Prop}[Decidable c]{a b:Prop}(h:c)(x:a):if c then a else b:=by rw[bj h];show x
def fc {kvs:List (Key×V)}{k:Key}{v:V}{p:Key×V}(h:p∈putK kvs k v):p=(k,v)\/p∈kvs:=by
 unfold putK at h
 split at h
 . obtain⟨q,hq,rfl⟩:=cX h
   split
   . rename_i e
     show .inl (by rw[e])
   . show .inr hq
 . rcases jy h with z|z
   . show .inr z
   . show .inl (dC z)
def iy {kvs:List (Key×V)}{k:Key}{v:V}(h:(kvs.map (·.1)).Nodup):((putK kvs k v).map (·.1)).Nodup:=by
 cases hv:aU kvs k with
 | none=>show Av v h hv
 | some u=>
   unfold putK
   rw[bj (by rw[cG,hv];rfl),ZK]
   have e:((fun kv:Key×V=>kv.1) ∘ fun kv=>if kv.1=k then(kv.1,v)else kv)=fun kv=>kv.1:=by
     funext kv
     change(if kv.1=k then(kv.1,v)else kv).1=kv.1
     split<;>rfl
   rw[e]
   show h
structure dw (ns:List Str)(kvs:List (Key×V)):Prop where
 nl:∃c:Int,aU kvs (.inr "")=some (.int c)
 nd:(kvs.map (·.1)).Nodup
 ks:∀p∈kvs,∃(x:Str) (c:Int),p=(.inr x,.int c)/\(x=""\/x∈ns)
def dw.len {ns:List Str}{kvs:List (Key×V)}(h:dw ns kvs):kvs.length<=ns.length+1:=by
 have:=sub_len (ys:=(Sum.inr "":Key)::ns.map Sum.inr) h.nd fun k hk=>by
   obtain⟨p,hp,rfl⟩:=cX hk
   obtain⟨x,c,rfl,z⟩:=h.ks p hp
   rcases z with rfl|z
   . show bu (.inl rfl)
   . show bu (.inr (mX ⟨x,z,U⟩))
 rw[Yk,YS,Yk]at this
 show this
theorem dw.int {ns:List Str}{kvs:List (Key×V)}(h:∀p∈kvs,∃(x:Str) (c:Int),p=(.inr x,.int c)/\(x=""\/x∈ns))(k:Key):∃c:Int,(aU kvs k).getD (.int 0)=.int c:=by
 cases hv:aU kvs k with
 | none=>show⟨0,rfl⟩
 | some u=>
   unfold aU at hv
   obtain⟨p,hp,rfl⟩:=Option.map_eq_some_iff.mp hv
   obtain⟨x,c,rfl,_⟩:=h p (aaz hp)
   show⟨c,U⟩
def jq (n:Nat):Sp:=fun vs H Q z=>∃(v:V) (e:E) (ns:List Str),vs=[v]/\eK H v e/\e.kZ/\e.okIn (vR ns)/\e.dep<n/\n<=30/\ns.length<=4/\∀(d:Addr) (kvs:List (Key×V)) (H':Hp),ah H H'->H d=none->H' d=some (.dK kvs)->dw ns kvs->Q (.ref d) H'
def xf {f:Addr}{fd:Yx}:aO P w K mg base bU 2 f fd ["sum_told"] (jq 0):=by
 have no:∀vs H Q E,¬ jq 0 vs H Q E:=fun vs H Q E h=>by
   obtain⟨v,e,ns,_,_,_,_,h,_⟩:=h
   lia
 show⟨fun vs H Q E h=>az h (no vs H Q E),fun A outer s H args us vs Q E z z z z h=>az h (no vs H Q E)⟩
def tI:aC ["sum_told","first","second","sign"] ["sum_told"] (aq BD):=df
def E4 {n:Nat}{f:Addr}{fd:Yx}(F:b9 K "parts_of" "parts_of" BD f fd)(m_list:mg "list"=none)(G:aS P w K mg base "parts_of" ["sum_told"] (n+2) (jq n)):aO P w K mg base bU (n+1+2) f fd ["sum_told"] (jq (n+1)):=by
 show F.c0 tI fun cdv A outer s H vs Q E hr h=>?_
 obtain⟨v,e,ns,rfl,ev,is,ok,dp,XH,l4,q⟩:=h
 show dN ⟨_,(acj (acy (acr acC (ack acp (Y 0) aci) acu) (acn (acq (L3.Ii (L3.M9 acu (ack acp (Y 0) aci) L3.Qv)))) acz)
   (acj (acy (acr acC (ack acp (Y 0) aci) acu) (acn (acq (L3.Ii (L3.M9 acu aci (L3.M9 (ack acp (Y 0) aci) aci L3.Qv))))) acz)
   (acj (acJ (acx (L (acm G hr U (L (ack acp (Y 0) aci) M)) (L (acm G hr U (L (ack acp (Y 0) aci) M)) M))) (acF 2 (acs (aco 1 tI.nd) (acs (aco 2 tI.nd) acE))))
   (acj (acw 3 tI.nd (ac0 (acr acC (ack acp (Y 0) aci) acu) aci (L3.neg aci)))
   (acn (acq (L3.Qs [none,some 3,some 1,some 2] ["name","sign","first","second"] (bR hr _ (by left)) (fP BD) U (acI (acv ac9 (acP L3.rO U m_list (by right) (L (Y 1) M)) (acP L3.rO U m_list (by right) (L (Y 2) M)))) (fun t t t t t=>⟨(aco 0 (dE ["name","sign","first","second"])),acH,(Y 0),(acv acL (L3.v3 (bR hr _ (by left)) (Y 2) (Y 0) aci) (acv acT (Y 1) (L3.v3 (bR hr _ (by left)) (Y 3) (Y 0) aci)))⟩)))))))),?_⟩
 show aE fun Rk kR=>?_
 match e,ev,is,ok,dp,q with
 | .num c,ev,is,ok,dp,q=>
   obtain⟨p,rfl,hp⟩:=ev
   show⟨_,U,?_⟩
   show aP hp U ?_
   show⟨U,_,U,bD (by left) ?_⟩
   show fun d hd=>?_
   have sd:=af hd (.dK [])
   show⟨_,U,?_⟩
   show aP (sd _ _ hp) U ?_
   show⟨ae,[(.inr "",.int c)],U,by change 1<=15;decide,?_⟩
   show q d _ _ (aA sd hd) hd ae ⟨⟨c,U⟩,by change[(Sum.inr "":Key)].Nodup;decide +kernel,fun r hr=>⟨"",c,dC hr,.inl rfl⟩⟩
 | .box b x,ev,is,ok,dp,q=>
   obtain⟨p,rfl,hp⟩:=ev
   obtain⟨rfl,hx⟩:=ok
   show⟨_,U,?_⟩
   show aP hp U ?_
   show⟨U,_,U,aK (by left) (kR _ _ ?_)⟩
   show aE fun Rk kR=>?_
   show⟨_,U,?_⟩
   show aP hp U ?_
   show⟨U,_,U,bD (by left) ?_⟩
   show fun d hd=>?_
   have sd:=af hd (.dK [])
   show⟨_,U,?_⟩
   show aP (sd _ _ hp) U ?_
   show⟨ae,[(.inr "",.int 0),(.inr x,.int 1)],U,by change 2<=15;decide,?_⟩
   have pk:dw ns (putK (putK [] (.inr "") (.int 0)) (.inr x) (.int 1)):=by
     have n1:((putK ([]:List (Key×V)) (.inr "") (.int 0)).map (·.1)).Nodup:=iy ZF
     show⟨?_,iy n1,fun r hr=>?_⟩
     . rw[bA]
       split
       . show⟨1,U⟩
       . show⟨0,U⟩
     . rcases fc hr with rfl|z
       . show⟨x,1,U,.inr hx⟩
       . rcases fc z with rfl|z
         . show⟨"",0,U,.inl rfl⟩
         . show nomatch z
   show q d _ _ (aA sd hd) hd ae pk
 | .two .plus a b,ev,is,ok,dp,q=>
   obtain⟨x,y,⟨p,rfl,hp⟩,ea,eb⟩:=ev
   have dp:max a.dep b.dep+1<n+1:=dp
   have OI:=is.1
   have OJ:=is.2
   have Pc:=ok.1
   have Pd:=ok.2
   have da:a.dep<n:=by lia
   have db:b.dep<n:=by lia
   show⟨_,U,?_⟩
   show aP hp U ?_
   show⟨U,_,U,aK (by left) (kR _ _ ?_)⟩
   show aE fun Rk kR=>?_
   show⟨_,U,?_⟩
   show aP hp U ?_
   show⟨U,_,U,aK (by left) (kR _ _ ?_)⟩
   show aE fun Rk kR=>?_
   show⟨_,U,?_⟩
   show aP hp U ?_
   show⟨x,a,ns,U,ea,OI,Pc,da,by lia,l4,fun d1 oE H1 s1 n1 g1 Bf=>?_⟩
   have pT:=s1 _ _ hp
   show⟨_,U,?_⟩
   show aP pT U ?_
   show⟨y,b,ns,U,eb.keep (ah.tk s1),OJ,Pd,db,by lia,l4,fun d2 eM H2 s2 n2 g2 FK=>?_⟩
   show⟨aeu,fun t0 j6=>?_⟩
   have s3:=af j6 (.tup [.ref d1,.ref d2])
   have g3:(upd H2 t0 (.tup [.ref d1,.ref d2])) t0=some (.tup [.ref d1,.ref d2]):=ae
   have DL:=s3 _ _ (s2 _ _ g1)
   have DM:=s3 _ _ g2
   generalize upd H2 t0 (.tup [.ref d1,.ref d2])=H3 at s3 g3 DL DM ⊢
   show jL g3 ?_
   show kR _ _ ?_
   show aG [some (.ref p),some (.ref d1),some (.ref d2),none] U ?_
   show aE fun Rk kR=>?_
   have s03:=aa s1 (aa s2 s3)
   have sgn:Rk [some (.ref p),some (.ref d1),some (.ref d2),some (.int (1))] H3:=by
     show kR _ _ ?_
     have l1:=Bf.len
     have l2:=FK.len
     have big:1000<=sizeLine:=by left
     show⟨_,U,d1,oE,U,DL,fun m1 hm1=>?_⟩
     have s4:=af hm1 (.lst (oE.map fun kv=>kV kv.1))
     have h4:(upd H3 m1 (.lst (oE.map fun kv=>kV kv.1))) m1=some (.lst (oE.map fun kv=>kV kv.1)):=ae
     generalize upd H3 m1 (.lst (oE.map fun kv=>kV kv.1))=HC at s4 h4 ⊢
     show⟨_,U,d2,eM,U,s4 _ _ DM,fun m2 hm2=>?_⟩
     have s5:=af hm2 (.lst (eM.map fun kv=>kV kv.1))
     have h5:(upd HC m2 (.lst (eM.map fun kv=>kV kv.1))) m2=some (.lst (eM.map fun kv=>kV kv.1)):=ae
     generalize upd HC m2 (.lst (eM.map fun kv=>kV kv.1))=HD at s5 h5 ⊢
     show⟨m1,m2,_,_,U,U,s5 _ _ h4,h5,(by rw[Yk,Yk];lia),fun m3 Of=>?_⟩
     obtain⟨k1,v8⟩ : ∃k1,k1=oE.map (·.1):=⟨_,rfl⟩
     obtain⟨k2,qg⟩ : ∃k2,k2=eM.map (·.1):=⟨_,rfl⟩
     have Ng:(oE.map fun kv=>kV kv.1)++(eM.map fun kv=>kV kv.1)=(k1++k2).map kV:=by rw[Yt,v8,qg,ZK,ZK];rfl
     rw[Ng]
     have s6:=af Of (.lst ((k1++k2).map kV))
     have h6:(upd HD m3 (.lst ((k1++k2).map kV))) m3=some (.lst ((k1++k2).map kV)):=ae
     generalize upd HD m3 (.lst ((k1++k2).map kV))=H4 at s6 h6 ⊢
     have BB:=aa s4 (aa s5 s6)
     have IJ:=BB _ _ DL
     have Cd:=BB _ _ DM
     have kl:(k1++k2).length<=10:=by rw[Ym,v8,qg,Yk,Yk];lia
     have kin:∀k∈k1++k2,∃x:Str,k=.inr x/\(x=""\/x∈ns):=fun k hk=>by
       rcases jy hk with z|z
       . rw[v8]at z
         obtain⟨r,hr,rfl⟩:=cX z
         obtain⟨x,c,rfl,w⟩:=Bf.ks r hr
         show⟨x,U,w⟩
       . rw[qg]at z
         obtain⟨r,hr,rfl⟩:=cX z
         obtain⟨x,c,rfl,w⟩:=FK.ks r hr
         show⟨x,U,w⟩
     show⟨m3,U,⟨_,aF.of h6⟩,fun D hD=>?_⟩
     show aT (xs:=(k1++k2).map kV) (fun(i:Nat) (Hx:Hp)=>ah H4 Hx/\∃kvs,Hx D=some (.dK kvs)/\(kvs.map (·.1)).Nodup/\(∀q∈kvs,∃(x:Str) (c:Int),q=(.inr x,.int c)/\(x=""\/x∈ns))/\(∀(j:Nat) (k:Key),j<i->(k1++k2)[j]?=some k->k∈kvs.map (·.1))/\kvs.length<=i) ⟨af hD _,[],ae,ZF,(fun r hr=>nomatch hr),(fun j k hj=>az hj (Zz _)),Yo _⟩ (fun i Hx t z=>aF.of (z.1 _ _ h6)) (fun i x0 Hx hx z=>?_) (fun Hx z=>?_)
     . obtain⟨sx,kvs,gD,nd,ks,inn,G5⟩:=z
       have cL:=(aQ hx)
       obtain⟨k,hk,rfl⟩:=ba hx
       obtain⟨x1,rfl,w1⟩:=kin k (Yq hk)
       show au ?_
       show bF (A:=fun H5=>lh _ _ D _ H5 _) ?_
       obtain⟨c1,Na⟩:=dw.int Bf.ks (.inr x1)
       obtain⟨c2,Nb⟩:=dw.int FK.ks (.inr x1)
       have e1:cK Hx d1 (.str x1) (aU oE (.inr x1)):=cK.k (k:=.inr x1) (sx _ _ IJ)
       have e2:cK Hx d2 (.str x1) (aU eM (.inr x1)):=cK.k (k:=.inr x1) (sx _ _ Cd)
       show⟨_,U,_,U,d1,U,.inl ⟨_,.inl (sx _ _ IJ)⟩,_,U,_,e1,?_⟩
       rw[Na]
       show⟨_,U,_,U,d2,U,.inl ⟨_,.inl (sx _ _ Cd)⟩,_,U,_,e2,?_⟩
       rw[Nb]
       show⟨_,_,U,U,.inl ⟨by left,by left⟩,_,_,U,U,_,jM.k (k:=.inr x1) gD (aD (by rw[Yk]at cL;lia)),aB (Pv:=fun(i:Nat) (Hx:Hp)=>ah H4 Hx/\∃kvs,Hx D=some (.dK kvs)/\(kvs.map (·.1)).Nodup/\(∀q∈kvs,∃(x:Str) (c:Int),q=(.inr x,.int c)/\(x=""\/x∈ns))/\(∀(j:Nat) (k:Key),j<i->(k1++k2)[j]?=some k->k∈kvs.map (·.1))/\kvs.length<=i) (by repeat' constructor) cL ⟨aA sx hD,_,ae,iy nd,fun r hr=>?_,fun j k hj hjk=>?_,?_⟩⟩
       . rcases fc hr with rfl|z
         . show⟨x1,_,U,w1⟩
         . show ks r z
       . have mem:∀k',k'∈kvs.map (·.1)->k'∈(putK kvs (.inr x1) (.int (c1+(1)*c2))).map (·.1):=fun k' D7=>by
           by_cases e:k'=.inr x1
           . subst e
             show cq (v:=.int (c1+(1)*c2)) (by rw[bA,bj rfl])
           . cases hv:aU kvs k' with
             | none=>show az D7 (dJ hv)
             | some u=>show cq (v:=u) (by rw[bA,bg e];show hv)
         by_cases c:j<i
         . show mem k (inn j k c hjk)
         . have ej:j=i:=by lia
           subst ej
           rw[hk]at hjk
           cases hjk
           show cq (v:=.int (c1+(1)*c2)) (by rw[bA,bj rfl])
       . show YU (bO _ _ _) (by lia)
     obtain⟨sx,kvs,gD,nd,ks,inn,G5⟩:=z
     have e0:(Sum.inr "":Key)∈kvs.map (·.1):=by
       obtain⟨c,hc⟩:=Bf.nl
       have hm:=cq hc
       rw[← v8]at hm
       obtain⟨j,hj⟩:=List.mem_iff_getElem?.mp (oF (.inl hm):(Sum.inr "":Key)∈k1++k2)
       have jl:=(aQ hj)
       show inn j _ (by rw[Yk];show jl) hj
     have nl:∃c:Int,aU kvs (.inr "")=some (.int c):=by
       cases hv:aU kvs (.inr "")with
       | none=>show az e0 (dJ hv)
       | some u=>
         obtain⟨c,hc⟩:=dw.int ks (.inr "")
         rw[hv]at hc
         show⟨c,congrArg some hc⟩
     show q D kvs _ (aa s03 (aa BB sx)) (ag (aa s03 BB) hD) gD ⟨nl,nd,ks⟩
   show⟨_,U,?_⟩
   show aP (s03 _ _ hp) U ?_
   show⟨U,_,U,?_⟩
   show bD (by left) ?_
   show au ?_
   show sgn
 | .two .less a b,ev,is,ok,dp,q=>
   obtain⟨x,y,⟨p,rfl,hp⟩,ea,eb⟩:=ev
   have dp:max a.dep b.dep+1<n+1:=dp
   have OI:=is.1
   have OJ:=is.2
   have Pc:=ok.1
   have Pd:=ok.2
   have da:a.dep<n:=by lia
   have db:b.dep<n:=by lia
   show⟨_,U,?_⟩
   show aP hp U ?_
   show⟨U,_,U,aK (by left) (kR _ _ ?_)⟩
   show aE fun Rk kR=>?_
   show⟨_,U,?_⟩
   show aP hp U ?_
   show⟨U,_,U,aK (by left) (kR _ _ ?_)⟩
   show aE fun Rk kR=>?_
   show⟨_,U,?_⟩
   show aP hp U ?_
   show⟨x,a,ns,U,ea,OI,Pc,da,by lia,l4,fun d1 oE H1 s1 n1 g1 Bf=>?_⟩
   have pT:=s1 _ _ hp
   show⟨_,U,?_⟩
   show aP pT U ?_
   show⟨y,b,ns,U,eb.keep (ah.tk s1),OJ,Pd,db,by lia,l4,fun d2 eM H2 s2 n2 g2 FK=>?_⟩
   show⟨aeu,fun t0 j6=>?_⟩
   have s3:=af j6 (.tup [.ref d1,.ref d2])
   have g3:(upd H2 t0 (.tup [.ref d1,.ref d2])) t0=some (.tup [.ref d1,.ref d2]):=ae
   have DL:=s3 _ _ (s2 _ _ g1)
   have DM:=s3 _ _ g2
   generalize upd H2 t0 (.tup [.ref d1,.ref d2])=H3 at s3 g3 DL DM ⊢
   show jL g3 ?_
   show kR _ _ ?_
   show aG [some (.ref p),some (.ref d1),some (.ref d2),none] U ?_
   show aE fun Rk kR=>?_
   have s03:=aa s1 (aa s2 s3)
   have sgn:Rk [some (.ref p),some (.ref d1),some (.ref d2),some (.int (-1))] H3:=by
     show kR _ _ ?_
     have l1:=Bf.len
     have l2:=FK.len
     have big:1000<=sizeLine:=by left
     show⟨_,U,d1,oE,U,DL,fun m1 hm1=>?_⟩
     have s4:=af hm1 (.lst (oE.map fun kv=>kV kv.1))
     have h4:(upd H3 m1 (.lst (oE.map fun kv=>kV kv.1))) m1=some (.lst (oE.map fun kv=>kV kv.1)):=ae
     generalize upd H3 m1 (.lst (oE.map fun kv=>kV kv.1))=HC at s4 h4 ⊢
     show⟨_,U,d2,eM,U,s4 _ _ DM,fun m2 hm2=>?_⟩
     have s5:=af hm2 (.lst (eM.map fun kv=>kV kv.1))
     have h5:(upd HC m2 (.lst (eM.map fun kv=>kV kv.1))) m2=some (.lst (eM.map fun kv=>kV kv.1)):=ae
     generalize upd HC m2 (.lst (eM.map fun kv=>kV kv.1))=HD at s5 h5 ⊢
     show⟨m1,m2,_,_,U,U,s5 _ _ h4,h5,(by rw[Yk,Yk];lia),fun m3 Of=>?_⟩
     obtain⟨k1,v8⟩ : ∃k1,k1=oE.map (·.1):=⟨_,rfl⟩
     obtain⟨k2,qg⟩ : ∃k2,k2=eM.map (·.1):=⟨_,rfl⟩
     have Ng:(oE.map fun kv=>kV kv.1)++(eM.map fun kv=>kV kv.1)=(k1++k2).map kV:=by rw[Yt,v8,qg,ZK,ZK];rfl
     rw[Ng]
     have s6:=af Of (.lst ((k1++k2).map kV))
     have h6:(upd HD m3 (.lst ((k1++k2).map kV))) m3=some (.lst ((k1++k2).map kV)):=ae
     generalize upd HD m3 (.lst ((k1++k2).map kV))=H4 at s6 h6 ⊢
     have BB:=aa s4 (aa s5 s6)
     have IJ:=BB _ _ DL
     have Cd:=BB _ _ DM
     have kl:(k1++k2).length<=10:=by rw[Ym,v8,qg,Yk,Yk];lia
     have kin:∀k∈k1++k2,∃x:Str,k=.inr x/\(x=""\/x∈ns):=fun k hk=>by
       rcases jy hk with z|z
       . rw[v8]at z
         obtain⟨r,hr,rfl⟩:=cX z
         obtain⟨x,c,rfl,w⟩:=Bf.ks r hr
         show⟨x,U,w⟩
       . rw[qg]at z
         obtain⟨r,hr,rfl⟩:=cX z
         obtain⟨x,c,rfl,w⟩:=FK.ks r hr
         show⟨x,U,w⟩
     show⟨m3,U,⟨_,aF.of h6⟩,fun D hD=>?_⟩
     show aT (xs:=(k1++k2).map kV) (fun(i:Nat) (Hx:Hp)=>ah H4 Hx/\∃kvs,Hx D=some (.dK kvs)/\(kvs.map (·.1)).Nodup/\(∀q∈kvs,∃(x:Str) (c:Int),q=(.inr x,.int c)/\(x=""\/x∈ns))/\(∀(j:Nat) (k:Key),j<i->(k1++k2)[j]?=some k->k∈kvs.map (·.1))/\kvs.length<=i) ⟨af hD _,[],ae,ZF,(fun r hr=>nomatch hr),(fun j k hj=>az hj (Zz _)),Yo _⟩ (fun i Hx t z=>aF.of (z.1 _ _ h6)) (fun i x0 Hx hx z=>?_) (fun Hx z=>?_)
     . obtain⟨sx,kvs,gD,nd,ks,inn,G5⟩:=z
       have cL:=(aQ hx)
       obtain⟨k,hk,rfl⟩:=ba hx
       obtain⟨x1,rfl,w1⟩:=kin k (Yq hk)
       show au ?_
       show bF (A:=fun H5=>lh _ _ D _ H5 _) ?_
       obtain⟨c1,Na⟩:=dw.int Bf.ks (.inr x1)
       obtain⟨c2,Nb⟩:=dw.int FK.ks (.inr x1)
       have e1:cK Hx d1 (.str x1) (aU oE (.inr x1)):=cK.k (k:=.inr x1) (sx _ _ IJ)
       have e2:cK Hx d2 (.str x1) (aU eM (.inr x1)):=cK.k (k:=.inr x1) (sx _ _ Cd)
       show⟨_,U,_,U,d1,U,.inl ⟨_,.inl (sx _ _ IJ)⟩,_,U,_,e1,?_⟩
       rw[Na]
       show⟨_,U,_,U,d2,U,.inl ⟨_,.inl (sx _ _ Cd)⟩,_,U,_,e2,?_⟩
       rw[Nb]
       show⟨_,_,U,U,.inl ⟨by left,by left⟩,_,_,U,U,_,jM.k (k:=.inr x1) gD (aD (by rw[Yk]at cL;lia)),aB (Pv:=fun(i:Nat) (Hx:Hp)=>ah H4 Hx/\∃kvs,Hx D=some (.dK kvs)/\(kvs.map (·.1)).Nodup/\(∀q∈kvs,∃(x:Str) (c:Int),q=(.inr x,.int c)/\(x=""\/x∈ns))/\(∀(j:Nat) (k:Key),j<i->(k1++k2)[j]?=some k->k∈kvs.map (·.1))/\kvs.length<=i) (by repeat' constructor) cL ⟨aA sx hD,_,ae,iy nd,fun r hr=>?_,fun j k hj hjk=>?_,?_⟩⟩
       . rcases fc hr with rfl|z
         . show⟨x1,_,U,w1⟩
         . show ks r z
       . have mem:∀k',k'∈kvs.map (·.1)->k'∈(putK kvs (.inr x1) (.int (c1+(-1)*c2))).map (·.1):=fun k' D7=>by
           by_cases e:k'=.inr x1
           . subst e
             show cq (v:=.int (c1+(-1)*c2)) (by rw[bA,bj rfl])
           . cases hv:aU kvs k' with
             | none=>show az D7 (dJ hv)
             | some u=>show cq (v:=u) (by rw[bA,bg e];show hv)
         by_cases c:j<i
         . show mem k (inn j k c hjk)
         . have ej:j=i:=by lia
           subst ej
           rw[hk]at hjk
           cases hjk
           show cq (v:=.int (c1+(-1)*c2)) (by rw[bA,bj rfl])
       . show YU (bO _ _ _) (by lia)
     obtain⟨sx,kvs,gD,nd,ks,inn,G5⟩:=z
     have e0:(Sum.inr "":Key)∈kvs.map (·.1):=by
       obtain⟨c,hc⟩:=Bf.nl
       have hm:=cq hc
       rw[← v8]at hm
       obtain⟨j,hj⟩:=List.mem_iff_getElem?.mp (oF (.inl hm):(Sum.inr "":Key)∈k1++k2)
       have jl:=(aQ hj)
       show inn j _ (by rw[Yk];show jl) hj
     have nl:∃c:Int,aU kvs (.inr "")=some (.int c):=by
       cases hv:aU kvs (.inr "")with
       | none=>show az e0 (dJ hv)
       | some u=>
         obtain⟨c,hc⟩:=dw.int ks (.inr "")
         rw[hv]at hc
         show⟨c,congrArg some hc⟩
     show q D kvs _ (aa s03 (aa BB sx)) (ag (aa s03 BB) hD) gD ⟨nl,nd,ks⟩
   show⟨_,U,?_⟩
   show aP (s03 _ _ hp) U ?_
   show⟨U,_,U,?_⟩
   show aK (by left) ?_
   show⟨_,U,?_⟩
   show au ?_
   show sgn
def Ac (s:Src K mg "parts_of" BD)(m_list:mg "list"=none):∀n:Nat,aS P w K mg base "parts_of" ["sum_told"] (n+2) (jq n):=by
 obtain⟨f,fd,F,m⟩:=s
 have b:Binds K fd ["sum_told"] []:=HZ F fun z z z z z z z=>rfl
 intro n
 have all:aO P w K mg base bU (n+2) f fd ["sum_told"] (jq n):=by
   induction n with
   | zero=>show xf
   | succ n ih=>show E4 F m_list ⟨f,fd,ih,F.kp,b,m⟩
 show⟨f,fd,all,F.kp,b,m⟩
def yT:Sp:=fun vs H Q z=>∃(m s:Int),vs=[.int m,.int s]/\0<s/\∀c:Int,-s<=c->c<s->Q (.int c) H
def CQ:aC ["many","size","rest"] ["many","size"] (aq KZ):=df
def E8 {f:Addr}{fd:Yx}(F:b9 K "small_part" "small_part" KZ f fd)  : aO P w K mg base bU 1 f fd ["many","size"] yT:=by
 show F.c0 CQ fun cdv A outer s H vs Q E hr h=>?_
 obtain⟨m,s,rfl,s0,q⟩:=h
 show dN ⟨_,(acj (acw 2 CQ.nd (acv ac6 (Y 0) (Y 1)))
   (acn (acq (ac0 (acr ac8 (acv acT (Y 2) aci) (Y 1)) (acv acY (Y 2) (Y 1)) (Y 2))))),?_⟩
 show aE fun Rk kR=>?_
 show⟨_,U,_,U,_,_,U,U,s0,?_⟩
 obtain⟨r,er,r0,r1⟩ : ∃r,r=m%s/\0<=r/\r<s:=⟨_,rfl,ki s0,kh s0⟩
 show au (kR _ _ ?_)
 show aG [some (.int m),some (.int s),some (.int r)] (by rw[er];rfl) ?_
 show⟨_,U,_,_,U,U,.inr ⟨by left,by left⟩,_,U,_,_,U,U,_,U,?_⟩
 show aN (fun z=>?_) (fun z=>?_)
 . show⟨_,U,_,U,_,_,U,U,q (r-s) (by lia) (by lia)⟩
 . show⟨_,U,q r (by lia) (by lia)⟩
abbrev yi:Stmt:=top 31
abbrev Gb:Stmt:=top 47
def pv (n:Nat):Sp:=fun vs H Q z=>∃(x:Str) (l:Addr) (us:List V),vs=[.str x,.ref l]/\H l=some (.lst us)/\1<=us.length/\us.length<=2^n/\n<=12/\∀(v:V) (H':Hp),ah H H'->Q v H'
def EZ {f:Addr}{fd:Yx}(F:b9 K "joined_by" "joined_by" fG f fd)(m_len:mg "len"=none):aO P w K mg base bU 1 f fd ["word","parts"] (pv 0):=by
 show F.c0 fg fun cdv A outer s H vs Q E hr h=>?_
 obtain⟨x,l,us,rfl,hl,l1,ln,n9,q⟩:=h
 show dN ⟨_,(acj (acy (acr acC (acA acG U m_len Yy (L (Y 1) M)) aci) (acn (acq (ack acD (Y 1) aci))) acz)
   adk),?_⟩
 have c1:us.length=1:=by
   have:us.length<=1:=ln
   lia
 match us,hl,c1 with
 | [u],hl,_=>
   show⟨_,U,l,_,U,.inl (aF.of hl),U,_,U,k6 ?_⟩
   show⟨_,U,?_⟩
   show eA hl Dy ?_
   show q _ _ (same_refl _)
def JZ {n:Nat}{f:Addr}{fd:Yx}(F:b9 K "joined_by" "joined_by" fG f fd)(m_len:mg "len"=none)(G:aS P w K mg base "joined_by" ["word","parts"] (n+1) (pv n)):aO P w K mg base bU (n+1+1) f fd ["word","parts"] (pv (n+1)):=by
 show F.c0 fg fun cdv A outer s H vs Q E hr h=>?_
 obtain⟨x,l,us,rfl,hl,l1,ln,n9,q⟩:=h
 show dN ⟨_,(acj (acy (acr acC (acA acG U m_len Yy (L (Y 1) M)) aci) (acn (acq (ack acD (Y 1) aci))) acz)
   (acj (acw 2 fg.nd (acv adb (acA acG U m_len Yy (L (Y 1) M)) aci))
   (acn (acq (acx (L (Y 0) (L (acm G hr U (L (Y 0) (L (ac7 (Y 1) (Y 2)) M))) (L (acm G hr U (L (Y 0) (L (L3.Gm (Y 1) (Y 2)) M))) M)))))))),?_⟩
 show aE fun Rk kR=>?_
 show⟨_,U,l,us,U,.inl (aF.of hl),U,_,U,aN (fun c=>?_) (fun c=>?_)⟩
 . match us,hl,l1 with
   | u::us,hl,l1=>show⟨_,rfl,l,_,_,_,rfl,rfl,aF.of hl,Dy,q _ _ (same_refl _)⟩
 have c1:us.length≠1:=fun z=>c (by rw[z];rfl)
 have pw:2^(n+1)<=2^12:=Nat.pow_le_pow_right (by left) n9
 have XY:2^(n+1)=2^n*2:=Nat.pow_succ 2 n
 have XZ:(2:Nat)^12=4096:=by left
 show kR _ _ ?_
 show aE fun Rk kR=>?_
 show⟨_,U,l,us,U,.inl (aF.of hl),_,_,U,U,⟨by left,by left⟩,?_⟩
 show au (kR _ _ ?_)
 have eh:((us.length:Int)/2)=((us.length/2:Nat):Int):=rfl
 show aG [some (.str x),some (.ref l),some (.int ((us.length/2:Nat):Int))] (by change[some (V.str x),some (V.ref l),some (V.int ((us.length:Int)/2))]=_;rw[show(us.length:Int)/2=((us.length/2:Nat):Int)by lia]) ?_
 show⟨_,U,_,U,_,U,_,U,_,U,l,_,U,aF.of hl,fun a1 DT=>?_⟩
 rw[qf _ _ (by lia)]
 have s1:=af DT (.lst (us.take (us.length/2)))
 have g1:(upd H a1 (.lst (us.take (us.length/2)))) a1=some (.lst (us.take (us.length/2))):=ae
 generalize upd H a1 (.lst (us.take (us.length/2)))=H1 at s1 g1 ⊢
 show⟨x,a1,_,U,g1,by rw[Yu];lia,by rw[Yu];lia,by lia,fun v1 H2 s2=>?_⟩
 have s12:=aa s1 s2
 show⟨_,U,_,U,_,U,_,U,l,_,U,aF.of (s12 _ _ hl),fun a2 IX=>?_⟩
 rw[vX _ _ (by lia)]
 have s3:=af IX (.lst (us.drop (us.length/2)))
 have g3:(upd H2 a2 (.lst (us.drop (us.length/2)))) a2=some (.lst (us.drop (us.length/2))):=ae
 generalize upd H2 a2 (.lst (us.drop (us.length/2)))=H3 at s3 g3 ⊢
 show⟨x,a2,_,U,g3,by rw[Zj];lia,by rw[Zj];lia,by lia,fun v2 H4 s4=>⟨aev,fun p hp=>?_⟩⟩
 show q _ _ (bY (aa s12 (aa s3 s4)) hp)
def DU (s:Src K mg "joined_by" fG)(m_len:mg "len"=none):∀n:Nat,aS P w K mg base "joined_by" ["word","parts"] (n+1) (pv n):=by
 obtain⟨f,fd,F,m⟩:=s
 have b:Binds K fd ["word","parts"] []:=nW F fun z z z z z z z z=>rfl
 intro n
 have all:aO P w K mg base bU (n+1) f fd ["word","parts"] (pv n):=by
   induction n with
   | zero=>show EZ F m_len
   | succ n ih=>show JZ F m_len ⟨f,fd,ih,F.kp,b,m⟩
 show⟨f,fd,all,F.kp,b,m⟩
def qZ:Sp:=fun vs H Q z=>∃(l:Addr) (us:List V),vs=[.ref l]/\H l=some (.lst us)/\1<=us.length/\us.length<=4096/\∀(v:V) (H':Hp),ah H H'->Q v H'
def AE {f:Addr}{fd:Yx}(F:b9 K "all_of" "all_of" qU f fd)(J:aS P w K mg base "joined_by" ["word","parts"] 13 (pv 12)):aO P w K mg base bU 14 f fd ["conditions"] qZ:=by
 show F.c0 tq fun cdv A outer s H vs Q E hr h=>?_
 obtain⟨l,us,rfl,hl,l1,l2,q⟩:=h
 show dN ⟨_,(acn (acq (acm J hr U (L acu (L (Y 0) M))))),?_⟩
 show⟨_,U,"both",l,us,U,hl,l1,l2,by left,q⟩
def Gf:aC ["conditions"] ["conditions"] (aq yi):=df
def yK:Sp:=fun vs H Q z=>∃(l:Addr) (us:List V),vs=[.ref l]/\H l=some (.lst us)/\1<=us.length/\us.length<=4096/\∀(v:V) (H':Hp),ah H H'->Q v H'
def AG {f:Addr}{fd:Yx}(F:b9 K "any_of" "any_of" yi f fd)(m_len:mg "len"=none)(AO:aS P w K mg base "all_of" ["conditions"] 14 qZ):aO P w K mg base bU 15 f fd ["conditions"] yK:=by
 show F.c0 Gf fun cdv A outer s H vs Q E hr h=>?_
 obtain⟨l,us,rfl,hl,l1,l2,q⟩:=h
 show dN ⟨_,(acj (acy (acr acC (acA acG U m_len Yy (L (Y 0) M)) aci) (acn (acq (ack acD (Y 0) aci))) acz)
   (acn (acq (acx (L acu (L (acm AO hr U (L (acO [none] ["condition"] (fP yi) U (acI (Y 0)) (fun y y y y y=>⟨(aco 0 (dE ["condition"])),acH,(acx (L acu (L (Y 0) M)))⟩)) M)) M)))))),?_⟩
 show aE fun Rk kR=>?_
 show⟨_,U,l,us,U,.inl (aF.of hl),U,_,U,aN (fun c=>?_) (fun c=>?_)⟩
 . match us,hl,l1 with
   | u::us,hl,l1=>show⟨_,rfl,l,_,_,_,rfl,rfl,aF.of hl,Dy,q _ _ (same_refl _)⟩
 show kR _ _ ?_
 show⟨_,U,l,U,⟨_,aF.of hl⟩,fun D hD=>?_⟩
 have big:10000<=sizeLine:=by left
 show aT (xs:=us) (fun(i:Nat) (Hx:Hp)=>ah H Hx/\∃ws,Hx D=some (.lst ws)/\ws.length=i) ⟨af hD _,[],ae,U⟩ (fun i Hx y z=>aF.of (z.1 _ _ hl)) (fun i x0 Hx hx z=>?_) (fun Hx z=>?_)
 . obtain⟨sx,ws,gD,wl⟩:=z
   have cL:=(aQ hx)
   show au ?_
   show bF (A:=fun H5=>cf _ D _ H5 _) ?_
   show⟨_,U,aeu,fun t0 j6=>?_⟩
   have s1:=af j6 (.tup [.str "not",x0])
   have T2:=s1 _ _ gD
   show⟨_,T2,(by lia),aB (Pv:=fun(i:Nat) (Hx:Hp)=>ah H Hx/\∃ws,Hx D=some (.lst ws)/\ws.length=i) (by repeat' constructor) cL ⟨aA (aa sx s1) hD,_,ae,by rw[Ym,wl];rfl⟩⟩
 obtain⟨sx,ws,gD,wl⟩:=z
 show⟨D,ws,U,gD,by lia,by lia,fun v H' s'=>⟨aeu,fun t1 wI=>?_⟩⟩
 show q _ _ (bY (aa sx s') wI)
def oQ {a b c:Expr}{p:Pos}:bL (.IfExp a b c p):=⟨fun z z=>rfl⟩
def Dq (H:Hp)(z:Addr)(ns:List Str):Prop:=∃kz,H z=some (.dK kz)/\∀x∈ns,∃c:Int,aU kz (.inr x)=some (.int c)/\1<=c/\c<=16
def Dq.same {H H':Hp}{z:Addr}{ns:List Str}(s:ah H H')(h:Dq H z ns):Dq H' z ns:=by obtain⟨k,a,b⟩:=h;show⟨k,s _ _ a,b⟩
def CY:Sp:=fun vs H Q y=>∃(z:Addr) (v:V) (sz:Int) (sd:Str) (e:E) (ns:List Str),vs=[.ref z,v,.int sz,.str sd]/\Dq H z ns/\eK H v e/\e.kZ/\e.okIn (vR ns)/\e.dep<30/\ns.length<=4/\1<=sz/\sz<=16/\∀(a:Addr) (tv:V) (m:Int) (H':Hp),ah H H'->H' a=some (.tup [tv,.int m])->0<=m->m<=3000->Q (.ref a) H'
def Bj {k m:Int}(h0 : -16<=k)(h1:k<=0)(m0:0<=m)(m1:m<=15) : -240<=k*m/\k*m<=0:=by
 have a:=aah h0 m0
 have b:=Int.mul_nonpos_of_nonpos_of_nonneg h1 m0
 lia
def Bi {k m:Int}(h0:0<=k)(h1:k<=16)(m0:0<=m)(m1:m<=15):0<=k*m/\k*m<=240:=by
 have a:=aah h1 m0
 have b:=Int.mul_nonneg h0 m0
 lia
def v5 {kvs:List (Key×V)}{k:Key}{p:Key×V}(h:p∈jc kvs k):p∈kvs/\p.1≠k:=by
 unfold jc at h
 have:=List.mem_filter.mp h
 show⟨this.1,cZ this.2⟩
def eN:aC ["sizes","sum_told","size","side","parts","number","added","taken","least","most","name","many","box","lift","told"] ["sizes","sum_told","size","side"] (aq Gb):=df
def E9 {f:Addr}{fd:Yx}(F:b9 K "small_sum" "small_sum" Gb f fd)(m_max:mg "max"=none)(m_min:mg "min"=none)(m_len:mg "len"=none)(SP0:aS P w K mg base "small_part" ["many","size"] 1 yT)(PO:aS P w K mg base "parts_of" ["sum_told"] 32 (jq 30))(J0:aS P w K mg base "joined_by" ["word","parts"] 13 (pv 12)):aO P w K mg base bU 33 f fd ["sizes","sum_told","size","side"] CY:=by
 show F.c0 eN fun cdv A outer s H vs Q E hr h=>?_
 obtain⟨z,v,sz,sd,e,ns,rfl,hz,ev,is,ok,dp,l4,z1,SH,q⟩:=h
 have SP:=SP0.mono (show 1<=32 by lia)
 have J:=J0.mono (show 13<=32 by lia)
 have big:10000<=sizeLine:=by left
 show dN ⟨_,(acj (L3.PV (i:=4) [none,none,some 2] ["name","many","size"] (bR hr _ (by left)) (fP Gb) U (L3.iI (L3.items (acm PO hr U (L (Y 1) M)))) (fun t t t t t=>⟨(acF 2 (acs (aco 0 (dE ["name","many","size"])) (acs (aco 1 (dE ["name","many","size"])) acE))),acH,(Y 0),(acm SP hr U (L (Y 1) (L (Y 2) M)))⟩) eN.nd)
   (acj (L3.Kh 5 6 7 eN.nd (L (L3.Ik (Y 4) acu) (L (acB M) (L (acB M) M))))
   (acj (L3.M4 (Y 5) (aco 8 eN.nd) (aco 9 eN.nd))
   (acj (acM (L3.iI (L3.items (Y 4))) (acF 2 (acs (aco 10 eN.nd) (acs (aco 11 eN.nd) acE))) (acj (acw 12 eN.nd (acx (L (Y 3) (L (Y 10) M))))
   (acj (acN (adl (Y 6) (L (acv L3.Cy (acB (L (Y 12) M)) (acA L3.rP U m_max (by right) (L (Y 11) (L aci M)))) M)))
   (acj (acN (adl (Y 7) (L (acv L3.Cy (acB (L (Y 12) M)) (acA L3.rP U m_max (by right) (L (L3.neg (Y 11)) (L aci M)))) M)))
   (acj (L3.aug 8 eN.nd (acv acT (acA L3.rQ U m_min (by right) (L (Y 11) (L aci M))) (acv acY (ada (bR hr _ (by left)) (Y 0) (Y 10)) aci)))
   (acn (L3.aug 9 eN.nd (acv acT (acA L3.rP U m_max (by right) (L (Y 11) (L aci M))) (acv acY (ada (bR hr _ (by left)) (Y 0) (Y 10)) aci)))))))))
   (acj (acw 13 eN.nd (acv acT (L3.neg (acv adb (Y 8) (Y 2))) (Y 2)))
   (acj (acw 14 eN.nd (acm J hr U (L acu (L (acv ac9 (acB (L (acx (L acu (L (acv acL (Y 5) (Y 13)) M))) M)) (Y 6)) M))))
   (acn (acq (acx (L (ac0 (acr ac8 (acA acG U m_len Yy (L (Y 7) M)) aci) (acx (L acu (L (Y 14) (L (acm J hr U (L acu (L (Y 7) M))) M)))) (Y 14)) (L (acv acL (Y 9) (Y 13)) M) oQ)))))))))),?_⟩
 show aE fun Rk kR=>?_
 show⟨_,U,v,e,ns,U,ev,is,ok,dp,by left,l4,fun d kv H1 s1 nd gd pk=>?_⟩
 have pl:=pk.len
 show⟨.inr (.inr (.inl ⟨U,.inl ⟨_,gd⟩⟩)),d,kv,U,U,gd,fun vw Vj=>?_⟩
 have s2:=af Vj (.ext (dh vw d))
 have g2:(upd H1 vw (.ext (dh vw d))) vw=some (.ext (dh vw d)):=ae
 have Cd:=s2 _ _ gd
 generalize upd H1 vw (.ext (dh vw d))=H2 at s2 g2 Cd ⊢
 show⟨vw,d,kv,U,g2,Cd,fun fo=>fun D hD=>?_⟩
 have s12:=aa s1 s2
 have s3:ah H (upd H2 d (.frz fo (.dK kv))):=aA s12 nd
 have g3:(upd H2 d (.frz fo (.dK kv))) d=some (.frz fo (.dK kv)):=ae
 generalize upd H2 d (.frz fo (.dK kv))=H3 at hD s3 g3 ⊢
 have nD:=ag s3 hD
 have dD:d≠D:=ao g3 hD
 show qb (kvs:=kv) (fun(i:Nat) (Hx:Hp)=>ah H Hx/\Hx d=some (.frz fo (.dK kv))/\∃kvs,Hx D=some (.dK kvs)/\(kvs.map (·.1)).Nodup/\(∀q∈kvs,∃(x:Str) (c:Int),q=(.inr x,.int c)/\(x=""\/x∈ns)/\-16<=c/\c<=16)/\(∀(j:Nat) (k:Key) (y:V),j<i->kv[j]?=some (k,y)->k∈kvs.map (·.1))/\kvs.length<=i) ⟨aa s3 (af hD _),(af hD _) _ _ g3,[],ae,ZF,(fun r hr=>nomatch hr),(fun j k y hj=>az hj (Zz _)),Yo _⟩ (fun i Hx t z=>z.2.1) (fun i k y pp Hx hx zz fB=>?_) (fun Hx zz=>?_)
 . obtain⟨sx,gf,kvs,gD,knd,ks,inn,G5⟩:=zz
   have cL:=(aQ hx)
   obtain⟨x1,c1,Nk,w1⟩:=pk.ks _ (Yq hx)
   cases Nk
   have sp:=af fB (.tup [kV (.inr x1),.int c1])
   have gp:(upd Hx pp (.tup [kV (.inr x1),.int c1])) pp=some (.tup [kV (.inr x1),.int c1]):=ae
   have GS:=sp _ _ gD
   have QJ:=sp _ _ gf
   generalize upd Hx pp (.tup [kV (.inr x1),.int c1])=Hy at sp gp GS QJ ⊢
   have gp:Hy pp=some (.tup [.str x1,.int c1]):=gp
   show jL gp ?_
   show bF (A:=fun H5=>lh _ _ D _ H5 _) ?_
   show⟨_,U,_,U,_,U,c1,sz,U,by lia,fun c2 h1 h2=>⟨_,jM.k (k:=.inr x1) GS (by lia),aB (Pv:=fun(i:Nat) (Hx:Hp)=>ah H Hx/\Hx d=some (.frz fo (.dK kv))/\∃kvs,Hx D=some (.dK kvs)/\(kvs.map (·.1)).Nodup/\(∀q∈kvs,∃(x:Str) (c:Int),q=(.inr x,.int c)/\(x=""\/x∈ns)/\-16<=c/\c<=16)/\(∀(j:Nat) (k:Key) (y:V),j<i->kv[j]?=some (k,y)->k∈kvs.map (·.1))/\kvs.length<=i) (by repeat' constructor) cL ⟨aA (aa sx sp) nD,by rw[ar dD];show QJ,_,ae,iy knd,fun r hr=>?_,fun j k y hj hjk=>?_,YU (bO _ _ _) (by lia)⟩⟩⟩
   . rcases fc hr with rfl|w
     . show⟨x1,c2,U,w1,by lia,by lia⟩
     . show ks r w
   . have mem:∀k',k'∈kvs.map (·.1)->k'∈(putK kvs (.inr x1) (.int c2)).map (·.1):=fun k' D7=>by
       by_cases ee:k'=.inr x1
       . subst ee
         show cq (v:=.int c2) (by rw[bA,bj rfl])
       . cases hv:aU kvs k' with
         | none=>show az D7 (dJ hv)
         | some u=>show cq (v:=u) (by rw[bA,bg ee];show hv)
     by_cases c:j<i
     . show mem k (inn j k y c hjk)
     . have ej:j=i:=by lia
       subst ej
       rw[hx]at hjk
       cases hjk
       show cq (v:=.int c2) (by rw[bA,bj rfl])
 obtain⟨sx,gf,kvs,gD,knd,ks,inn,G5⟩:=zz
 show au (kR _ _ ?_)
 show aG [some (.ref z),some v,some (.int sz),some (.str sd),some (.ref D),none,none,none,none,none,none,none,none,none,none] U ?_
 show aE fun Rk kR=>?_
 obtain⟨nu,UW,XO,XQ⟩ : ∃nu:Int,aU kvs (.inr "")=some (.int nu)/\-16<=nu/\nu<=16:=by
   obtain⟨c,hc⟩:=pk.nl
   have hm:=cq hc
   obtain⟨pr,zm,TH⟩:=cX hm
   obtain⟨j,hj⟩:=List.mem_iff_getElem?.mp zm
   have jl:=(aQ hj)
   have h0:=inn j pr.1 pr.2 jl hj
   rw[TH]at h0
   cases hv:aU kvs (.inr "")with
   | none=>show az h0 (dJ hv)
   | some u=>
     unfold aU at hv
     obtain⟨p,hp,rfl⟩:=Option.map_eq_some_iff.mp hv
     obtain⟨x,c,rfl,_,w⟩:=ks p (aaz hp)
     show⟨c,U,w⟩
 show⟨_,U,D,U,.inl ⟨_,.inl gD⟩,kvs,.inr "",.int nu,gD,U,UW,?_⟩
 obtain⟨eM,qg⟩ : ∃eM,eM=jc kvs (.inr ""):=⟨_,rfl⟩
 rw[← qg]
 have s4:ah H (upd Hx D (.dK eM)):=aA sx nD
 have g4:(upd Hx D (.dK eM)) D=some (.dK eM):=ae
 generalize upd Hx D (.dK eM)=H4 at s4 g4 ⊢
 show⟨aes,fun ad QP=>?_⟩
 have s5:=af QP (.lst [])
 have g5:(upd H4 ad (.lst [])) ad=some (.lst []):=ae
 generalize upd H4 ad (.lst [])=H5 at s5 g5 ⊢
 show⟨aes,fun tk htk=>?_⟩
 have s6:=af htk (.lst [])
 have g6:(upd H5 tk (.lst [])) tk=some (.lst []):=ae
 generalize upd H5 tk (.lst [])=H6 at s6 g6 ⊢
 have HW:ad≠tk:=ao g5 htk
 have VM:=ag s4 QP
 have VX:=ag (aa s4 s5) htk
 show⟨_,_,_,U,?_⟩
 show kR _ _ ?_
 show aG [some (.ref z),some v,some (.int sz),some (.str sd),some (.ref D),some (.int nu),some (.ref ad),some (.ref tk),none,none,none,none,none,none,none] U ?_
 show aE fun Rk kR=>?_
 show⟨_,U,?_⟩
 show au (au ?_)
 show kR _ _ ?_
 show aG [some (.ref z),some v,some (.int sz),some (.str sd),some (.ref D),some (.int nu),some (.ref ad),some (.ref tk),some (.int nu),some (.int nu),none,none,none,none,none] U ?_
 show aE fun Rk kR=>?_
 have KN:=aa s5 s6
 have Nn:=KN _ _ g4
 show⟨_,U,.inr (.inr (.inl ⟨U,.inl ⟨_,Nn⟩⟩)),D,eM,U,U,Nn,fun De OC=>?_⟩
 have s7:=af OC (.ext (dh De D))
 have g7:(upd H6 De (.ext (dh De D))) De=some (.ext (dh De D)):=ae
 have LP:=s7 _ _ Nn
 have DQ:=s7 _ _ (s6 _ _ g5)
 have DR:=s7 _ _ g6
 generalize upd H6 De (.ext (dh De D))=H7 at s7 g7 LP DQ DR ⊢
 show⟨De,D,eM,U,g7,LP,fun zW=>?_⟩
 have Wr:=aa s4 (aa KN s7)
 have Qh:D≠ad:=dO LP DQ (fun z=>nomatch z)
 have Qi:D≠tk:=dO LP DR (fun z=>nomatch z)
 have s8:ah H (upd H7 D (.frz zW (.dK eM))):=aA Wr nD
 have g8:(upd H7 D (.frz zW (.dK eM))) D=some (.frz zW (.dK eM)):=ae
 have IH:(upd H7 D (.frz zW (.dK eM))) ad=some (.lst []):=by rw[ar Qh.symm];show DQ
 have IQ:(upd H7 D (.frz zW (.dK eM))) tk=some (.lst []):=by rw[ar Qi.symm];show DR
 generalize upd H7 D (.frz zW (.dK eM))=H8 at s8 g8 IH IQ ⊢
 have Vy:eM.length<=5:=by
   have:=om kvs (Sum.inr "")
   rw[← qg]at this
   lia
 show ur (kvs:=eM) (fun(i:Nat) (σ:List (Option V)) (Hx:Hp)=>(∃(le mo:Int) (o10 lj jD:Option V),σ=[some (.ref z),some v,some (.int sz),some (.str sd),some (.ref D),some (.int nu),some (.ref ad),some (.ref tk),some (.int le),some (.int mo),o10,lj,jD,none,none]/\le<=mo/\-(16+240*(i:Int))<=le/\mo<=16+240*(i:Int))/\ah H Hx/\Hx D=some (.frz zW (.dK eM))/\(∃us,Hx ad=some (.lst us)/\us.length<=16*i)/\∃us,Hx tk=some (.lst us)/\us.length<=16*i) ⟨⟨nu,nu,_,_,_,U,aaS _,by lia,by lia⟩,s8,g8,⟨[],IH,Yo _⟩,[],IQ,Yo _⟩ (fun i σ Hx t z=>z.2.2.1) (fun i k y pp σ Hx hx zz fB=>?_) (fun σ Hx zz=>?_)
 . obtain⟨⟨le,mo,o10,lj,jD,rfl,lm,VD,JL⟩,sx,gf,⟨ua,Ny,WM⟩,ut,NG,WU⟩:=zz
   have cL:=(aQ hx)
   have hin:=Yq hx
   rw[qg]at hin
   obtain⟨NY,NZ⟩:=v5 hin
   obtain⟨x1,c1,Nk,w1,Xd,Xe⟩:=ks _ NY
   cases Nk
   have xin:x1∈ns:=w1.resolve_left (fun z=>NZ (by rw[z]))
   have sp:=af fB (.tup [kV (.inr x1),.int c1])
   have gp:(upd Hx pp (.tup [kV (.inr x1),.int c1])) pp=some (.tup [kV (.inr x1),.int c1]):=ae
   generalize upd Hx pp (.tup [kV (.inr x1),.int c1])=Hy at sp gp ⊢
   have gp:Hy pp=some (.tup [.str x1,.int c1]):=gp
   show jL gp ?_
   show aG [some (.ref z),some v,some (.int sz),some (.str sd),some (.ref D),some (.int nu),some (.ref ad),some (.ref tk),some (.int le),some (.int mo),some (.str x1),some (.int c1),jD,none,none] U ?_
   show aE fun kT kR2=>?_
   show⟨_,U,_,U,aeu,fun bx Uw=>?_⟩
   have sb:=af Uw (.tup [.str sd,.str x1])
   generalize upd Hy bx (.tup [.str sd,.str x1])=Hz at sb ⊢
   show au ?_
   show kR2 _ _ ?_
   show aG [some (.ref z),some v,some (.int sz),some (.str sd),some (.ref D),some (.int nu),some (.ref ad),some (.ref tk),some (.int le),some (.int mo),some (.str x1),some (.int c1),some (.ref bx),none,none] U ?_
   show aE fun kT kR2=>?_
   have sxz:=aa sp sb
   have II:=sxz _ _ Ny
   show⟨_,U,.inl ⟨U,_,aF.of II⟩,_,U,aet,fun Mg N8=>?_⟩
   have Sg:=af N8 (.lst [.ref bx])
   have LY:(upd Hz Mg (.lst [.ref bx])) Mg=some (.lst [.ref bx]):=ae
   generalize upd Hz Mg (.lst [.ref bx])=MQ at Sg LY ⊢
   show⟨_,U,_,_,U,Mg,_,[.ref bx],U,U,LY,by split<;>lia,by split<;>lia,(by change 1*_<=_;split<;>lia),fun Mi Oa=>?_⟩
   have sm1:=af Oa (.lst (YC (Zh (if(0:Int) > c1 then 0 else c1)) [V.ref bx]).flatten)
   have LZ:(upd MQ Mi (.lst (YC (Zh (if(0:Int) > c1 then 0 else c1)) [V.ref bx]).flatten)) Mi=some (.lst (YC (Zh (if(0:Int) > c1 then 0 else c1)) [V.ref bx]).flatten):=ae
   generalize upd MQ Mi (.lst (YC (Zh (if(0:Int) > c1 then 0 else c1)) [V.ref bx]).flatten)=HF at sm1 LZ ⊢
   have MF:=aa Sg sm1
   show⟨ad,Mi,_,_,U,U,MF _ _ II,LZ,(by rw[len_rep];change _+_*1<=_;split<;>lia),?_⟩
   have IL:(upd HF ad (.lst (ua++(YC (Zh (if(0:Int) > c1 then 0 else c1)) [V.ref bx]).flatten))) D=some (.frz zW (.dK eM)):=by rw[ar Qh];show MF _ _ (sxz _ _ gf)
   have NF:(upd HF ad (.lst (ua++(YC (Zh (if(0:Int) > c1 then 0 else c1)) [V.ref bx]).flatten))) tk=some (.lst ut):=by rw[ar HW.symm];show MF _ _ (sxz _ _ NG)
   have IF:(upd HF ad (.lst (ua++(YC (Zh (if(0:Int) > c1 then 0 else c1)) [V.ref bx]).flatten))) ad=_:=ae
   have Sa:ah H (upd HF ad (.lst (ua++(YC (Zh (if(0:Int) > c1 then 0 else c1)) [V.ref bx]).flatten))):=aA (aa sx (aa sxz MF)) VM
   generalize upd HF ad (.lst (ua++(YC (Zh (if(0:Int) > c1 then 0 else c1)) [V.ref bx]).flatten))=Qj at IL NF IF Sa ⊢
   show kR2 _ _ ?_
   show aE fun kT kR2=>?_
   show⟨_,U,.inl ⟨U,_,aF.of NF⟩,_,U,aet,fun Mh N9=>?_⟩
   have BQ:=af N9 (.lst [.ref bx])
   have GU:(upd Qj Mh (.lst [.ref bx])) Mh=some (.lst [.ref bx]):=ae
   generalize upd Qj Mh (.lst [.ref bx])=MR at BQ GU ⊢
   show⟨_,U,_,U,_,_,U,Mh,_,[.ref bx],U,U,GU,by split<;>lia,by split<;>lia,(by change 1*_<=_;split<;>lia),fun Mj Ob=>?_⟩
   have sm2:=af Ob (.lst (YC (Zh (if(0:Int) > -c1 then 0 else -c1)) [V.ref bx]).flatten)
   have L0:(upd MR Mj (.lst (YC (Zh (if(0:Int) > -c1 then 0 else -c1)) [V.ref bx]).flatten)) Mj=some (.lst (YC (Zh (if(0:Int) > -c1 then 0 else -c1)) [V.ref bx]).flatten):=ae
   generalize upd MR Mj (.lst (YC (Zh (if(0:Int) > -c1 then 0 else -c1)) [V.ref bx]).flatten)=HG at sm2 L0 ⊢
   have MG:=aa BQ sm2
   show⟨tk,Mj,_,_,U,U,MG _ _ NF,L0,(by rw[len_rep];change _+_*1<=_;split<;>lia),?_⟩
   have NA:(upd HG tk (.lst (ut++(YC (Zh (if(0:Int) > -c1 then 0 else -c1)) [V.ref bx]).flatten))) D=some (.frz zW (.dK eM)):=by rw[ar Qi];show MG _ _ IL
   have IG:(upd HG tk (.lst (ut++(YC (Zh (if(0:Int) > -c1 then 0 else -c1)) [V.ref bx]).flatten))) ad=some (.lst (ua++(YC (Zh (if(0:Int) > c1 then 0 else c1)) [V.ref bx]).flatten)):=by rw[ar HW];show MG _ _ IF
   have IP:(upd HG tk (.lst (ut++(YC (Zh (if(0:Int) > -c1 then 0 else -c1)) [V.ref bx]).flatten))) tk=_:=ae
   have PQ:ah H (upd HG tk (.lst (ut++(YC (Zh (if(0:Int) > -c1 then 0 else -c1)) [V.ref bx]).flatten))):=aA (aa Sa MG) VX
   generalize upd HG tk (.lst (ut++(YC (Zh (if(0:Int) > -c1 then 0 else -c1)) [V.ref bx]).flatten))=SU at NA IG IP PQ ⊢
   show kR2 _ _ ?_
   show aE fun kT kR2=>?_
   obtain⟨kz,gz,N6⟩:=hz.same PQ
   obtain⟨cz,Uy,Xf,Tf⟩:=N6 x1 xin
   have dz:cK SU z (.str x1) (some (.int cz)):=by
     have:=cK.k (k:=.inr x1) gz
     rw[Uy]at this
     show this
   show⟨_,U,_,U,_,_,U,_,U,_,U,z,_,U,dz,_,_,U,U,_,_,U,U,.inl ⟨by split<;>lia,by split<;>lia⟩,_,_,U,U,?_⟩
   obtain⟨Ml,Tx⟩ : ∃Ml,Ml=le+(if(0:Int)<c1 then 0 else c1)*(cz-1):=⟨_,rfl⟩
   show kR2 _ _ ?_
   show aG [some (.ref z),some v,some (.int sz),some (.str sd),some (.ref D),some (.int nu),some (.ref ad),some (.ref tk),some (.int Ml),some (.int mo),some (.str x1),some (.int c1),some (.ref bx),none,none] (by rw[Tx];rfl) ?_
   show⟨_,U,_,U,_,_,U,_,U,_,U,z,_,U,dz,_,_,U,U,_,_,U,U,.inl ⟨by split<;>lia,by split<;>lia⟩,_,_,U,U,?_⟩
   obtain⟨OT,TC⟩ : ∃OT,OT=mo+(if(0:Int) > c1 then 0 else c1)*(cz-1):=⟨_,rfl⟩
   have b1:=Bj (k:=if(0:Int)<c1 then 0 else c1) (m:=cz-1) (by split<;>lia) (by split<;>lia) (by lia) (by lia)
   have b2:=Bi (k:=if(0:Int) > c1 then 0 else c1) (m:=cz-1) (by split<;>lia) (by split<;>lia) (by lia) (by lia)
   show⟨⟨Ml,OT,_,_,_,by rw[TC];rfl,by lia,by lia,by lia⟩,PQ,NA,⟨_,IG,by rw[Ym,len_rep];change _+_*1<=_;lia⟩,_,IP,by rw[Ym,len_rep];change _+_*1<=_;lia⟩
 obtain⟨⟨le,mo,o10,lj,jD,rfl,lm,VD,JL⟩,WI,NA,⟨ua,Ny,WM⟩,ut,NG,WU⟩:=zz
 show kR _ _ ?_
 show aE fun Rk kR=>?_
 have XA:(eM.length:Int)<=5:=by lia
 show⟨_,U,_,U,_,_,U,U,⟨by lia,by lia⟩,_,U,_,U,_,_,U,U,.inr ⟨by lia,by lia⟩,?_⟩
 obtain⟨lift,el,XD,XE⟩ : ∃lift,lift=-(le/sz)*sz/\-le<=lift/\lift < -le+sz:=by
   show⟨_,U,?_⟩
   have a:=Int.mul_ediv_add_emod le sz
   have b:=aa1 le (show sz≠0 by lia)
   have c:=aaB le (show 0<sz by lia)
   rw[Int.neg_mul,Int.mul_comm]
   lia
 show au (kR _ _ ?_)
 show aG [some (.ref z),some v,some (.int sz),some (.str sd),some (.ref D),some (.int nu),some (.ref ad),some (.ref tk),some (.int le),some (.int mo),o10,lj,jD,some (.int lift),none] (by rw[el];rfl) ?_
 show aE fun Rk kR=>?_
 show⟨_,U,_,U,_,_,U,U,aeu,fun n0 US=>?_⟩
 have t1:=af US (.tup [.str "number",.int (nu+lift)])
 generalize upd Hx n0 (.tup [.str "number",.int (nu+lift)])=Ka at t1 ⊢
 show⟨aet,fun n1 Q2=>?_⟩
 have t2:=af Q2 (.lst [.ref n0])
 have h2:(upd Ka n1 (.lst [.ref n0])) n1=some (.lst [.ref n0]):=ae
 generalize upd Ka n1 (.lst [.ref n0])=Kb at t2 h2 ⊢
 have Lb:=aa t1 t2
 show⟨_,U,n1,ad,_,_,U,U,h2,Lb _ _ Ny,(by change 1+_<=_;lia),fun n2 hn2=>?_⟩
 have t3:=af hn2 (.lst ([.ref n0]++ua))
 have h3:(upd Kb n2 (.lst ([.ref n0]++ua))) n2=some (.lst ([.ref n0]++ua)):=ae
 generalize upd Kb n2 (.lst ([.ref n0]++ua))=Kc at t3 h3 ⊢
 show⟨"plus",n2,_,U,h3,(by rw[Ym];change 1<=1+_;lia),(by rw[Ym];change 1+_<=4096;lia),by left,fun tv Kd t4=>?_⟩
 show au (kR _ _ ?_)
 show aG [some (.ref z),some v,some (.int sz),some (.str sd),some (.ref D),some (.int nu),some (.ref ad),some (.ref tk),some (.int le),some (.int mo),o10,lj,jD,some (.int lift),some tv] U ?_
 have So:=aa Lb (aa t3 t4)
 have Sb:=aa WI So
 have IT:=So _ _ NG
 show⟨_,U,tk,_,U,.inl (aF.of IT),_,_,U,U,_,U,?_⟩
 show aN (fun c=>?_) (fun c=>?_)
 . have c:(0:Int)<(ut.length:Int):=cZ c
   show⟨_,U,_,U,"plus",tk,_,U,IT,by lia,(by change _<=4096;lia),by left,fun v2 Ke t5=>?_⟩
   show⟨aev,fun n3 UT=>?_⟩
   have t6:=af UT (.tup [.str "less",tv,v2])
   generalize upd Ke n3 (.tup [.str "less",tv,v2])=Kf at t6 ⊢
   show⟨_,U,_,U,_,_,U,U,aeu,fun a ha=>?_⟩
   show q a _ _ _ (aa Sb (aa t5 (bY t6 ha))) ae (by lia) (by lia)
 . show⟨_,U,_,U,_,U,_,_,U,U,aeu,fun a ha=>?_⟩
   show q a _ _ _ (bY Sb ha) ae (by lia) (by lia)
abbrev BE:Stmt:=top 46
abbrev F8:Stmt:=top 45
structure i8 (H:Hp)(v:V)(ns:List Str)(x:Str)(e:E)(n:Int):Prop where
 at_:aI H v (.put x e n)
 xin:x∈ns
 is:e.kZ
 ok:e.okIn (vR ns)
 dp:e.dep<30
def i8.keep {H H':Hp}{v:V}{ns:List Str}{x:Str}{e:E}{n:Int}(k:TK H H')(h:i8 H v ns x e n):i8 H' v ns x e n:=⟨aI.keep k h.at_,h.xin,h.is,h.ok,h.dp⟩
def CW:Sp:=fun vs H Q y=>∃(z:Addr) (v:V) (sd bf:Str) (ns:List Str) (x:Str) (e:E) (n:Int),vs=[.ref z,v,.str sd,.str bf]/\Dq H z ns/\i8 H v ns x e n/\ns.length<=4/\∀(v':V) (H':Hp),ah H H'->Q v' H'
def oY:aC ["sizes","put","side","before","size","told","most","cases"] ["sizes","put","side","before"] (aq BE):=df
def E5 {f:Addr}{fd:Yx}(F:b9 K "put_made" "put_made" BE f fd)(m_range:mg "range"=none)(SS:aS P w K mg base "small_sum" ["sizes","sum_told","size","side"] 33 CY)(AN0:aS P w K mg base "any_of" ["conditions"] 15 yK):aO P w K mg base bU 34 f fd ["sizes","put","side","before"] CW:=by
 show F.c0 oY fun cdv A outer s H vs Q E hr h=>?_
 obtain⟨z,v,sd,bf,ns,x,e,n,rfl,hz,pa,l4,q⟩:=h
 obtain⟨u,⟨p,rfl,hp⟩,eu⟩:=pa.at_
 have AN:=AN0.mono (show 15<=33 by lia)
 have big:10000<=sizeLine:=by left
 obtain⟨kz,gz,N6⟩:=id hz
 obtain⟨sz,hsz,z1,SH⟩:=N6 x pa.xin
 have dz:cK H z (.str x) (some (.int sz)):=by
   have:=cK.k (k:=.inr x) gz
   rw[hsz]at this
   show this
 show dN ⟨_,(acj (acw 4 oY.nd (ada (bR hr _ (by left)) (Y 0) (ack acp (Y 1) aci)))
   (acj (acJ (acm SS hr U (L (Y 0) (L (ack acp (Y 1) aci) (L (Y 4) (L (Y 3) M))))) (acF 2 (acs (aco 5 oY.nd) (acs (aco 6 oY.nd) acE))))
   (acj (ac1 (i:=7) [none,some 2,some 1,some 4] ["turns","side","put","size"] (fP BE) U (acU U m_range (L (acv acL (acv adb (Y 6) (Y 4)) aci) M)) (fun y y y y y=>⟨(aco 0 (dE ["turns","side","put","size"])),acH,(acx (L acu (L (acx (L (Y 1) (L (ack acp (Y 2) aci) M))) (L (acx (L acu (L (acv acT (Y 0) (Y 3)) M))) M))))⟩) oY.nd)
   (acn (acq (acm AN hr U (L (acO [none,some 5] ["case","told"] (fP BE) U (acI (Y 7)) (fun y y y y y=>⟨(aco 0 (dE ["case","told"])),acH,(acx (L acu (L (Y 0) (L (Y 1) M))))⟩)) M))))))),?_⟩
 show aE fun Rk kR=>?_
 show⟨_,U,_,U,?_⟩
 show aP hp U ?_
 show⟨z,_,U,dz,?_⟩
 show au (kR _ _ ?_)
 show aG [some (.ref z),some (.ref p),some (.str sd),some (.str bf),some (.int sz),none,none,none] U ?_
 show aE fun Rk kR=>?_
 show⟨_,U,_,U,?_⟩
 show aP hp U ?_
 show⟨_,U,_,U,z,u,sz,bf,e,ns,U,hz,eu,pa.is,pa.ok,pa.dp,l4,z1,SH,fun a tv m H1 s1 ga m0 m1=>?_⟩
 show jL ga ?_
 show kR _ _ ?_
 show aG [some (.ref z),some (.ref p),some (.str sd),some (.str bf),some (.int sz),some tv,some (.int m),none] U ?_
 show aE fun Rk kR=>?_
 have pT:=s1 _ _ hp
 have d0:0<=m/sz:=Int.ediv_nonneg m0 (by lia)
 have d1:m/sz<=m:=Int.ediv_le_self _ m0
 show⟨_,U,_,U,_,_,U,U,⟨by lia,by lia⟩,_,_,U,U,m/sz+1,U,by lia,by lia,fun D hD=>?_⟩
 show cb (lo:=0) (n:=(m/sz+1).toNat) (fun(i:Nat) (Hx:Hp)=>ah H1 Hx/\∃ws,Hx D=some (.lst ws)/\ws.length=i) ⟨af hD _,[],ae,U⟩ (fun i Hx hi zz=>?_) (fun H2 zz=>?_)
 . obtain⟨sx,ws,gD,wl⟩:=zz
   show au ?_
   show bF (A:=fun H5=>cf _ D _ H5 _) ?_
   show⟨_,U,_,U,?_⟩
   show aP (sx _ _ pT) U ?_
   show⟨aeu,fun t1 wI=>?_⟩
   have a1:=af wI (.tup [.str sd,.str x])
   generalize upd Hx t1 (.tup [.str sd,.str x])=Ha at a1 ⊢
   show⟨_,U,_,U,_,_,U,U,.inr ⟨by lia,by lia⟩,aeu,fun t2 U7=>?_⟩
   have a2:=af U7 (.tup [.str "number",.int ((0+(i:Int))*sz)])
   show⟨aev,fun t3 U8=>?_⟩
   have a3:=bY a2 U8 (o:=.tup [.str "plus",.ref t1,.ref t2])
   have Qn:=aa a1 a3
   show⟨_,Qn _ _ gD,(by lia),aB (Pv:=fun(i:Nat) (Hx:Hp)=>ah H1 Hx/\∃ws,Hx D=some (.lst ws)/\ws.length=i) (by repeat' constructor) hi ⟨aA (aa sx Qn) hD,_,ae,by rw[Ym,wl];rfl⟩⟩
 obtain⟨s2,ws,gD,wl⟩:=zz
 show au (kR _ _ ?_)
 show aG [some (.ref z),some (.ref p),some (.str sd),some (.str bf),some (.int sz),some tv,some (.int m),some (.ref D)] U ?_
 show⟨_,U,D,U,⟨_,aF.of gD⟩,fun D2 mM=>?_⟩
 show aT (xs:=ws) (fun(i:Nat) (Hx:Hp)=>ah H2 Hx/\∃pQ,Hx D2=some (.lst pQ)/\pQ.length=i) ⟨af mM _,[],ae,U⟩ (fun i Hx y zz=>aF.of (zz.1 _ _ gD)) (fun i x0 Hx hx zz=>?_) (fun Hx zz=>?_)
 . obtain⟨sx,pQ,GQ,Ly⟩:=zz
   have cL:=(aQ hx)
   show au ?_
   show bF (A:=fun H5=>cf _ D2 _ H5 _) ?_
   show⟨_,U,_,U,aev,fun t1 wI=>?_⟩
   have a1:=af wI (.tup [.str "same",x0,tv])
   show⟨_,a1 _ _ GQ,(by lia),aB (Pv:=fun(i:Nat) (Hx:Hp)=>ah H2 Hx/\∃pQ,Hx D2=some (.lst pQ)/\pQ.length=i) (by repeat' constructor) cL ⟨aA (aa sx a1) mM,_,ae,by rw[Ym,Ly];rfl⟩⟩
 obtain⟨sx,pQ,GQ,Ly⟩:=zz
 show⟨D2,pQ,U,GQ,by lia,by lia,fun v' H' s'=>q v' H' (aa s1 (aa s2 (aa sx s')))⟩
theorem mh:∀(kvs d:List (Key×V)) (k:Key),(k∈kvs.map (·.1)\/(aU d k).isSome=true)->∃v,aU (putAll d kvs) k=some v/\((k,v)∈kvs\/aU d k=some v)
 | [],d,k,h=>by
   rcases h with h|h
   . show nomatch h
   . obtain⟨v,hv⟩:=Option.isSome_iff_exists.mp h
     show⟨v,hv,.inr hv⟩
 | p::r,d,k,h=>by
   obtain⟨v,h1,h2⟩:=mh r (putK d p.1 p.2) k (by
     by_cases e:k=p.1
     . show .inr (by rw[bA,bj e];rfl)
     . rcases h with h|h
       . rcases fM h with z|z
         . show az z e
         . show .inl z
       . show .inr (by rw[bA,bg e];show h))
   show⟨v,h1,?_⟩
   rcases h2 with z|z
   . show .inl (bu (.inr z))
   . rw[bA]at z
     split at z
     . rename_i e
       cases z
       show .inl (bu (.inl (by rw[e])))
     . show .inr z
def GO (bs:aj):List (Key×V):=bs.map fun b=>(.inr b.1,.int b.2)
def Gr {H:Hp}{D:Addr}{bs:aj}(sz:∀b∈bs,1<=b.2/\b.2<=16)(h:H D=some (.dK (putAll [] (GO bs)))):Dq H D (bs.map (·.1)):=by
 show⟨_,h,fun x hx=>?_⟩
 obtain⟨b,hb,rfl⟩:=cX hx
 obtain⟨v,h1,h2⟩:=mh (GO bs) [] (.inr b.1) (.inl (mX ⟨(.inr b.1,.int b.2),mX ⟨b,hb,rfl⟩,rfl⟩))
 rcases h2 with z|z
 . obtain⟨b',NQ,e⟩:=cX z
   injection e with ea eb
   subst eb
   show⟨b'.2,h1,sz b' NQ⟩
 . show nomatch z
theorem ma {H:Hp}:∀{vb:List V} {bs:aj},Paired (eR H) vb bs->Paired (mE H) vb (GO bs)
 | _,_,.nil=>.nil
 | _,_,.cons r t=>.cons r (ma t)
def yL:Sp:=fun vs H Q z=>∃(p B I N:Addr) (vb:List V) (bs:aj) (v1 v2:V) (x1 x2:Str) (e1 e2:E) (n1 n2:Int),vs=[.ref p,v1,v2]/\H p=some (.tup [.ref B,.ref I,.ref N])/\H B=some (.lst vb)/\Paired (eR H) vb bs/\bs.length<=4/\(∀b∈bs,1<=b.2/\b.2<=16)/\i8 H v1 (bs.map (·.1)) x1 e1 n1/\i8 H v2 (bs.map (·.1)) x2 e2 n2/\∀(v':V) (H':Hp),ah H H'->Q v' H'
def tD:aC ["program","first","second","sizes","others","made"] ["program","first","second"] (aq F8):=df
def EJ {f:Addr}{fd:Yx}(F:b9 K "between_puts" "between_puts" F8 f fd)(m_dict:mg "dict"=none)(PM:aS P w K mg base "put_made" ["sizes","put","side","before"] 34 CW)(BS0:aS P w K mg base "boxes_same" ["names"] 9 (q8 K))(AO0:aS P w K mg base "all_of" ["conditions"] 14 qZ):aO P w K mg base bU 35 f fd ["program","first","second"] yL:=by
 show F.c0 tD fun cdv A outer s H vs Q E hr h=>?_
 obtain⟨p,B,I,N,vb,bs,v1,v2,x1,x2,e1,e2,n1,n2,rfl,hp,hB,pb,l4,sz,Mr,Ms,q⟩:=h
 obtain⟨u1,⟨p1,rfl,pT⟩,_⟩:=Mr.at_
 obtain⟨u2,⟨p2,rfl,uA⟩,_⟩:=Ms.at_
 have BS:=BS0.mono (show 9<=34 by lia)
 have AO:=AO0.mono (show 14<=34 by lia)
 have SF:=Paired.length pb
 show dN ⟨_,(acj (acw 3 tD.nd (acP L3.vS U m_dict (by right) (L (ack acp (Y 0) aci) M)))
   (acj (ac1 (i:=4) [none,none,some 1,some 2] ["name","size","first","second"] (fP F8) U (acI (ack acp (Y 0) aci)) (fun y y y y y=>⟨(acF 2 (acs (aco 0 (dE ["name","size","first","second"])) (acs (aco 1 (dE ["name","size","first","second"])) acE))),(adm (acr L3.AB (Y 0) (acx (L (ack acp (Y 2) aci) (L (ack acp (Y 3) aci) M))) U)),(Y 0)⟩) tD.nd)
   (acj (acw 5 tD.nd (acB (L (acm PM hr U (L (Y 3) (L (Y 1) (L acu (L acu M))))) (L (acm PM hr U (L (Y 3) (L (Y 2) (L acu (L acu M))))) M))))
   (acn (acq (acm AO hr U (L (acv ac9 (acB (L (acm BS hr U (L (Y 4) M)) M)) (Y 5)) M))))))),?_⟩
 show aE fun Rk kR=>?_
 show⟨_,U,?_⟩
 show aP hp U ?_
 show⟨B,_,_,U,hB,ma pb,fun z hz=>?_⟩
 have s1:=af hz (.dK (putAll [] (GO bs)))
 have PU:Dq (upd H z (.dK (putAll [] (GO bs)))) z (bs.map (·.1)):=Gr sz ae
 generalize upd H z (.dK (putAll [] (GO bs)))=H1 at s1 PU ⊢
 show au (kR _ _ ?_)
 show aG [some (.ref p),some (.ref p1),some (.ref p2),some (.ref z),none,none] U ?_
 show aE fun Rk kR=>?_
 have kM:=s1 _ _ hp
 have GV:=s1 _ _ hB
 show⟨_,U,?_⟩
 show aP kM U ?_
 show⟨B,U,⟨_,aF.of GV⟩,fun O hO=>?_⟩
 show aT (xs:=vb) (fun(i:Nat) (Hx:Hp)=>ah H1 Hx/\∃ns:List Str,Hx O=some (.lst (ns.map V.str))/\ns.length<=i) ⟨af hO _,[],ae,Yo _⟩ (fun i Hx y zz=>aF.of (zz.1 _ _ GV)) (fun i x0 Hx hx zz=>?_) (fun H2 zz=>?_)
 . obtain⟨sx,ns,gO,nl⟩:=zz
   have cL:=(aQ hx)
   obtain⟨b,rY,XU,rfl,U2⟩:=Paired.get pb hx
   have sx0:=aa s1 sx
   show jL (sx0 _ _ U2) ?_
   show⟨_,U,_,U,?_⟩
   show aP (sx0 _ _ pT) U ?_
   show⟨_,U,?_⟩
   show aP (sx0 _ _ uA) U ?_
   show⟨aeu,fun t1 wI=>?_⟩
   have a1:=af wI (.tup [.str x1,.str x2])
   have IF:(upd Hx t1 (.tup [.str x1,.str x2])) t1=some (.tup [.str x1,.str x2]):=ae
   generalize upd Hx t1 (.tup [.str x1,.str x2])=Hy at a1 IF ⊢
   have IC:=a1 _ _ gO
   show⟨t1,_,U,.inr (bM.of IF),U,U,_,U,?_⟩
   show aN (fun y=>?_) (fun y=>?_)
   . show⟨_,U,_,IC,aD (by rw[Yk];lia),aB (Pv:=fun(i:Nat) (Hx:Hp)=>ah H1 Hx/\∃ns:List Str,Hx O=some (.lst (ns.map V.str))/\ns.length<=i) (by repeat' constructor) cL ⟨aA (aa sx a1) hO,ns++[b.1],by rw[ae,Yt];rfl,by rw[Ym];change _+1<=_;lia⟩⟩
   . show aB (Pv:=fun(i:Nat) (Hx:Hp)=>ah H1 Hx/\∃ns:List Str,Hx O=some (.lst (ns.map V.str))/\ns.length<=i) (by repeat' constructor) cL ⟨aa sx a1,ns,IC,by lia⟩
 obtain⟨s2,ns,gO,nl⟩:=zz
 show au (kR _ _ ?_)
 show aG [some (.ref p),some (.ref p1),some (.ref p2),some (.ref z),some (.ref O),none] U ?_
 show aE fun Rk kR=>?_
 have s12:=aa s1 s2
 have RK:(bs.map (·.1)).length<=4:=by rw[Yk];show l4
 show⟨_,U,_,U,z,.ref p1,"mine","yours",bs.map (·.1),x1,e1,n1,U,PU.same s2,Mr.keep (ah.tk s12),RK,fun w1 H3 s3=>?_⟩
 have zr:=aa s12 s3
 show⟨_,U,_,U,z,.ref p2,"yours","mine",bs.map (·.1),x2,e2,n2,U,PU.same (aa s2 s3),Ms.keep (ah.tk zr),RK,fun w2 H4 s4=>?_⟩
 show⟨aeu,fun M8 hM=>?_⟩
 have s5:=af hM (.lst [w1,w2])
 have g5:(upd H4 M8 (.lst [w1,w2])) M8=some (.lst [w1,w2]):=ae
 generalize upd H4 M8 (.lst [w1,w2])=H5 at s5 g5 ⊢
 show au (kR _ _ ?_)
 show aG [some (.ref p),some (.ref p1),some (.ref p2),some (.ref z),some (.ref O),some (.ref M8)] U ?_
 have BA:=aa s3 (aa s4 s5)
 show⟨_,U,O,ns,U,BA _ _ gO,by lia,fun bv be H6 s6 y y=>?_⟩
 show⟨aet,fun L8 hL=>?_⟩
 have s7:=af hL (.lst [bv])
 have g7:(upd H6 L8 (.lst [bv])) L8=some (.lst [bv]):=ae
 generalize upd H6 L8 (.lst [bv])=H7 at s7 g7 ⊢
 show⟨_,U,L8,M8,_,_,U,U,g7,s7 _ _ (s6 _ _ g5),(by change 1+2<=sizeLine;decide),fun L2 Um=>?_⟩
 have s8:=af Um (.lst ([bv]++[w1,w2]))
 show⟨L2,_,U,ae,(by change 1<=3;decide),(by change 3<=4096;decide),fun v' H' s'=>?_⟩
 show q v' H' (aa s12 (aa BA (aa s6 (aa s7 (aa s8 s')))))
abbrev BC:Stmt:=top 42
abbrev yu:Stmt:=top 43
def E.j7:E->Str->Bool
 | .box t y,x=>decide (t="box")&&decide (y=x)
 | _,_=>false
def DE {K:Yl}{H:Hp}{a t0:Addr}{a0 x:Str}{y:V}{b1:Bool}{Q:VK}(ha:H a=some (.tup [.str a0,y]))(h0:H t0=some (.tup [.str "box",.str x]))(hy:EM K H y (.str x) b1)(q:Q (.bl (decide (a0="box")&&b1)) H):vc K (.ref a) (.ref t0) H Q:=by
 show⟨a,t0,_,_,fun j=>match j with|0=>decide (a0="box")|_=>b1,U,U,bM.of ha,bM.of h0,fun j u v hu hv=>?_,?_⟩
 . match j,hu,hv with
   | 0,hu,hv=>
     cases hu
     cases hv
     have z:=EM.flat (K:=K) (H:=H) (x:=.str a0) (y:=.str "box") rfl rfl
     have e:kY (.str a0) (.str "box")=decide (a0="box"):=by
       change(a0 == "box")=_
       rw[ZN,beq_iff_eq,decide_eq_true_iff]
     rw[e]at z
     show z
   | 1,hu,hv=>
     cases hu
     cases hv
     show hy
 . change Q (.bl ((decide (a0="box")&&(b1&&true))&&true)) H
   rw[Bool.and_true,Bool.and_true]
   show q
def Nj {K:Yl}{H:Hp}{a t0 y:Addr}{a0 x:Str}{z:V}{ws:List V}{Q:VK}(ha:H a=some (.tup [.str a0,.ref y,z]))(h0:H t0=some (.tup [.str "box",.str x]))(hy:H y=some (.tup ws))(q:Q (.bl false) H):vc K (.ref a) (.ref t0) H Q:=by
 show⟨a,t0,_,_,fun j=>match j with|0=>kY (.str a0) (.str "box")|_=>false,U,U,bM.of ha,bM.of h0,fun j u v hu hv=>?_,?_⟩
 . match j,hu,hv with
   | 0,hu,hv=>
     cases hu
     cases hv
     show EM.flat rfl rfl
   | 1,hu,hv=>
     cases hu
     cases hv
     show EM.text (bM.of hy)
 . change Q (.bl (_&&false)) H
   rw[aa6]
   show q
def Ni {K:Yl}{H:Hp}{a t0:Addr}{a0 x:Str}{Q:VK}(ha:H a=some (.tup [.str a0]))(h0:H t0=some (.tup [.str "box",.str x]))(q:Q (.bl false) H):vc K (.ref a) (.ref t0) H Q:=by
 show⟨a,t0,_,_,fun z=>kY (.str a0) (.str "box"),U,U,bM.of ha,bM.of h0,fun j u v hu hv=>?_,?_⟩
 . match j,hu,hv with
   | 0,hu,hv=>
     cases hu
     cases hv
     show EM.flat rfl rfl
 . change Q (.bl (_&&false)) H
   rw[aa6]
   show q
def eK.Lq {H:Hp}:∀{e:E} {v:V},eK H v e->∃p xs,v=.ref p/\H p=some (.tup xs)
 | .num _,_,⟨p,e,h⟩=>⟨p,_,e,h⟩
 | .box _ _,_,⟨p,e,h⟩=>⟨p,_,e,h⟩
 | .yes,_,⟨p,e,h⟩=>⟨p,_,e,h⟩
 | .nt _,_,⟨_,⟨p,e,h⟩,_⟩=>⟨p,_,e,h⟩
 | .two _ _ _,_,⟨_,_,⟨p,e,h⟩,_⟩=>⟨p,_,e,h⟩
def mH {K:Yl}{H:Hp}{t0:Addr}{x:Str}{Q:VK}:∀{s:E} {u:V},eK H u s->H t0=some (.tup [.str "box",.str x])->Q (.bl (s.j7 x)) H->vc K u (.ref t0) H Q
 | .num m,_,⟨p,e,h⟩,h0,q=>by
   subst e
   show DE h h0 (EM.flat rfl rfl) q
 | .box t y,_,⟨p,e,h⟩,h0,q=>by
   subst e
   have z:=EM.flat (K:=K) (H:=H) (x:=.str y) (y:=.str x) rfl rfl
   have e:kY (.str y) (.str x)=decide (y=x):=by
     change(y==x)=_
     rw[ZN,beq_iff_eq,decide_eq_true_iff]
   rw[e]at z
   show DE h h0 z q
 | .yes,_,⟨p,e,h⟩,h0,q=>by
   subst e
   show Ni h h0 q
 | .nt a,_,⟨x1,⟨p,e,h⟩,ea⟩,h0,q=>by
   subst e
   obtain⟨p1,xs,rfl,h1⟩:=ea.Lq
   show DE h h0 (EM.text (bM.of h1)) (by rw[aa6];show q)
 | .two k a b,_,⟨x1,y1,⟨p,e,h⟩,ea,eb⟩,h0,q=>by
   subst e
   obtain⟨p1,xs,rfl,h1⟩:=ea.Lq
   show Nj h h0 h1 q
def E.nm:E->Str->Bool
 | .box t y,x=>E.j7 (.box t y) x
 | .two _ a b,x=>a.nm x || b.nm x
 | _,_=>false
def iF (n:Nat):Sp:=fun vs H Q z=>∃(v:V) (e:E) (x:Str),vs=[v,.str x]/\eK H v e/\e.kZ/\(∀t y,e=.box t y->t="box")/\e.okIn (fun t z=>t="box")/\e.dep<n/\∀H',ah H H'->Q (.bl (e.nm x)) H'
def xb {f:Addr}{fd:Yx}:aO P w K mg base bU 1 f fd ["sum_told","name"] (iF 0):=by
 have no:∀vs H Q E,¬ iF 0 vs H Q E:=fun vs H Q E h=>by
   obtain⟨v,e,x,_,_,_,_,_,h,_⟩:=h
   lia
 show⟨fun vs H Q E h=>az h (no vs H Q E),fun A outer s H args us vs Q E z z z z h=>az h (no vs H Q E)⟩
def K3:aC ["sum_told","name"] ["sum_told","name"] (aq BC):=df
def E3 {n:Nat}{f:Addr}{fd:Yx}(F:b9 K "names_box" "names_box" BC f fd)(PT:∃t,mg "PARTED"=some (.ref t)/\∀H:Hp,bM K H t ((["plus","less","same","under","not","both"]:List Str).map V.str))(m_any:mg "any"=none)(G:aS P w K mg base "names_box" ["sum_told","name"] (n+1) (iF n)):aO P w K mg base bU (n+1+1) f fd ["sum_told","name"] (iF (n+1)):=by
 obtain⟨tp,mP,cP⟩:=PT
 show F.c0 K3 fun cdv A outer s H vs Q E hr h=>?_
 obtain⟨v,e,x,rfl,ev,is,bt,ok,dp,q⟩:=h
 show dN ⟨_,(acj (acy (acr L3.xp (ack acp (Y 0) aci) (L3.glob (w:=.ref tp) U mP rfl) U) (acn (acq (acA L3.Ca U m_any (by right) (L (acO [none,some 1] ["part","name"] (fP BC) U (L3.iT (L3.PY (Y 0) aci)) (fun r r r r r=>⟨(aco 0 (dE ["part","name"])),acH,(acm G hr U (L (Y 0) (L (Y 1) M)))⟩)) M)))) acz)
   (acn (acq (acQ (L3.Cw (bR hr _ (by left))) (Y 0) (acx (L acu (L (Y 1) M))))))),?_⟩
 show aE fun Rk kR=>?_
 match e,ev,is,bt,ok,dp,q with
 | .num m,ev,is,bt,ok,dp,q=>
   have EV:eK H v (.num m):=ev
   obtain⟨p,rfl,hp⟩:=ev
   show⟨_,U,?_⟩
   show aP hp U ?_
   show⟨tp,_,U,.inr (cP _),U,U,_,U,aK (by left) (kR _ _ ?_)⟩
   show⟨_,U,_,U,aeu,fun t0 j6=>?_⟩
   have s0:=af j6 (.tup [.str "box",.str x])
   have g0:(upd H t0 (.tup [.str "box",.str x])) t0=some (.tup [.str "box",.str x]):=ae
   generalize upd H t0 (.tup [.str "box",.str x])=H0 at s0 g0 ⊢
   show mH (EV.keep (ah.tk s0)) g0 (q _ s0)
 | .box t y,ev,is,bt,ok,dp,q=>
   have EV:eK H v (.box t y):=ev
   obtain⟨p,rfl,hp⟩:=ev
   have et:t="box":=bt t y rfl
   subst et
   show⟨_,U,?_⟩
   show aP hp U ?_
   show⟨tp,_,U,.inr (cP _),U,U,_,U,aK (by left) (kR _ _ ?_)⟩
   show⟨_,U,_,U,aeu,fun t0 j6=>?_⟩
   have s0:=af j6 (.tup [.str "box",.str x])
   have g0:(upd H t0 (.tup [.str "box",.str x])) t0=some (.tup [.str "box",.str x]):=ae
   generalize upd H t0 (.tup [.str "box",.str x])=H0 at s0 g0 ⊢
   show mH (EV.keep (ah.tk s0)) g0 (q _ s0)
 | .two .plus a b,ev,is,bt,ok,dp,q=>
   obtain⟨u,w,⟨p,rfl,hp⟩,ea,eb⟩:=ev
   have dp:max a.dep b.dep+1<n+1:=dp
   show⟨_,U,?_⟩
   show aP hp U ?_
   show⟨tp,_,U,.inr (cP _),U,U,_,U,bD (by left) ?_⟩
   show⟨_,U,_,U,p,_,U,bM.of hp,(fun z=>az z.1 (show ¬ HT.bX 3 0 (some 1)=0 by left)),fun l hl=>⟨l,U,⟨_,bM.of ae⟩,fun D hD=>?_⟩⟩
   have s1:=af hl (.tup [u,w])
   have g1:(upd H l (.tup [u,w])) l=some (.tup [u,w]):=ae
   have DS:(upd H l (.tup [u,w])) D=none:=hD
   show jU (xs:=[u,w]) (fun(i:Nat) (Hx:Hp)=>ah (upd H l (.tup [u,w])) Hx/\Hx D=some (.lst (([a.nm x,b.nm x].take i).map V.bl))) ⟨af DS _,ae⟩ (fun i Hx r zz=>bM.of (zz.1 _ _ g1)) (fun i x0 Hx hx zz=>?_) (fun Hx zz=>?_)
   . obtain⟨sx,gD⟩:=zz
     have KL:=aa s1 sx
     show au ?_
     show bF (A:=fun H5=>cf _ D _ H5 _) ?_
     match i,hx with
     | 0,hx=>
       cases hx
       show⟨_,U,_,U,u,a,x,U,ea.keep (ah.tk KL),is.1,(fun t y z=>by subst z;show ok.1),ok.1,by lia,fun H5 s5=>?_⟩
       show⟨_,s5 _ _ gD,(by change 0<sizeLine;decide),aB (Pv:=fun(i:Nat) (Hx:Hp)=>ah (upd H l (.tup [u,w])) Hx/\Hx D=some (.lst (([a.nm x,b.nm x].take i).map V.bl))) (by repeat' constructor) (by change 0<2;decide) ⟨aA (aa sx s5) DS,ae⟩⟩
     | 1,hx=>
       cases hx
       show⟨_,U,_,U,w,b,x,U,eb.keep (ah.tk KL),is.2,(fun t y z=>by subst z;show ok.2),ok.2,by lia,fun H5 s5=>?_⟩
       show⟨_,s5 _ _ gD,(by change 1<sizeLine;decide),aB (Pv:=fun(i:Nat) (Hx:Hp)=>ah (upd H l (.tup [u,w])) Hx/\Hx D=some (.lst (([a.nm x,b.nm x].take i).map V.bl))) (by repeat' constructor) (by change 1<2;decide) ⟨aA (aa sx s5) DS,ae⟩⟩
   obtain⟨sx,gD⟩:=zz
   show⟨D,[a.nm x,b.nm x],U,aF.of gD,?_⟩
   have q9:Q (.bl (a.nm x || b.nm x)) _:=q _ (aa s1 sx)
   have e9:[a.nm x,b.nm x].any id=(a.nm x || b.nm x):=by change(a.nm x || (b.nm x || false))=_;rw[Bool.or_false]
   rw[← e9]at q9
   show q9
 | .two .less a b,ev,is,bt,ok,dp,q=>
   obtain⟨u,w,⟨p,rfl,hp⟩,ea,eb⟩:=ev
   have dp:max a.dep b.dep+1<n+1:=dp
   show⟨_,U,?_⟩
   show aP hp U ?_
   show⟨tp,_,U,.inr (cP _),U,U,_,U,bD (by left) ?_⟩
   show⟨_,U,_,U,p,_,U,bM.of hp,(fun z=>az z.1 (show ¬ HT.bX 3 0 (some 1)=0 by left)),fun l hl=>⟨l,U,⟨_,bM.of ae⟩,fun D hD=>?_⟩⟩
   have s1:=af hl (.tup [u,w])
   have g1:(upd H l (.tup [u,w])) l=some (.tup [u,w]):=ae
   have DS:(upd H l (.tup [u,w])) D=none:=hD
   show jU (xs:=[u,w]) (fun(i:Nat) (Hx:Hp)=>ah (upd H l (.tup [u,w])) Hx/\Hx D=some (.lst (([a.nm x,b.nm x].take i).map V.bl))) ⟨af DS _,ae⟩ (fun i Hx r zz=>bM.of (zz.1 _ _ g1)) (fun i x0 Hx hx zz=>?_) (fun Hx zz=>?_)
   . obtain⟨sx,gD⟩:=zz
     have KL:=aa s1 sx
     show au ?_
     show bF (A:=fun H5=>cf _ D _ H5 _) ?_
     match i,hx with
     | 0,hx=>
       cases hx
       show⟨_,U,_,U,u,a,x,U,ea.keep (ah.tk KL),is.1,(fun t y z=>by subst z;show ok.1),ok.1,by lia,fun H5 s5=>?_⟩
       show⟨_,s5 _ _ gD,(by change 0<sizeLine;decide),aB (Pv:=fun(i:Nat) (Hx:Hp)=>ah (upd H l (.tup [u,w])) Hx/\Hx D=some (.lst (([a.nm x,b.nm x].take i).map V.bl))) (by repeat' constructor) (by change 0<2;decide) ⟨aA (aa sx s5) DS,ae⟩⟩
     | 1,hx=>
       cases hx
       show⟨_,U,_,U,w,b,x,U,eb.keep (ah.tk KL),is.2,(fun t y z=>by subst z;show ok.2),ok.2,by lia,fun H5 s5=>?_⟩
       show⟨_,s5 _ _ gD,(by change 1<sizeLine;decide),aB (Pv:=fun(i:Nat) (Hx:Hp)=>ah (upd H l (.tup [u,w])) Hx/\Hx D=some (.lst (([a.nm x,b.nm x].take i).map V.bl))) (by repeat' constructor) (by change 1<2;decide) ⟨aA (aa sx s5) DS,ae⟩⟩
   obtain⟨sx,gD⟩:=zz
   show⟨D,[a.nm x,b.nm x],U,aF.of gD,?_⟩
   have q9:Q (.bl (a.nm x || b.nm x)) _:=q _ (aa s1 sx)
   have e9:[a.nm x,b.nm x].any id=(a.nm x || b.nm x):=by change(a.nm x || (b.nm x || false))=_;rw[Bool.or_false]
   rw[← e9]at q9
   show q9
def Ab (s:Src K mg "names_box" BC)(PT:∃t,mg "PARTED"=some (.ref t)/\∀H:Hp,bM K H t ((["plus","less","same","under","not","both"]:List Str).map V.str))(m_any:mg "any"=none):∀n:Nat,aS P w K mg base "names_box" ["sum_told","name"] (n+1) (iF n):=by
 obtain⟨f,fd,F,m⟩:=s
 have b:Binds K fd ["sum_told","name"] []:=nW F fun z z z z z z z z=>rfl
 intro n
 have all:aO P w K mg base bU (n+1) f fd ["sum_told","name"] (iF n):=by
   induction n with
   | zero=>show xb
   | succ n ih=>show E3 F PT m_any ⟨f,fd,ih,F.kp,b,m⟩
 show⟨f,fd,all,F.kp,b,m⟩
theorem eU (x:Int):∀named:List Int,zp (.int x) (named.map V.int)=decide (x∈named)
 | []=>by simp[zp]
 | y::r=>by
   have ih:=eU x r
   unfold zp at ih ⊢
   rw[YM,aap,ih]
   by_cases e:x=y
   . subst e
     simp[kY]
   . have e2:¬ y=x:=fun z=>e z.symm
     simp[kY,e,e2]
def JB {c:Prop}[Decidable c]{a b:Prop}(h:c)(x:a):if c then a else b:=by rw[bj h];show x
def sE:∀e:Np,e.aH.length<=2
 | .put _ _ _=>Nat.le_succ 1|.say _ _=>Nat.le_succ 1|.test _ _ _=>Yo 2|.pick _ _=>Nat.le_succ 1|.fin=>YY 2
def fz (xs:List Int):(xs.map V.int).all cC=true:=by
 rw[aaR]
 intro v hv
 obtain⟨x,_,rfl⟩:=cX hv
 rfl
def cQ {H:Hp}{vn:List V}{nds:List Np}(pn:Paired (aI H) vn nds){p:Nat}(hp:p<nds.length):∃x e,vn[p]?=some x/\nds[p]?=some e/\aI H x e:=by
 have vl:=Paired.length pn
 obtain⟨x,hx⟩ : ∃x,vn[p]?=some x:=⟨vn[p]'(by lia),Yn (by lia)⟩
 obtain⟨e,he,h⟩:=Paired.get pn hx
 show⟨x,e,hx,he,h⟩
def oS (nds:List Np)(nd:Nat):Nat->List Np
 | 0=>[]
 | i+1=>oS nds nd i++if i=nd then[]else nds[i]?.toList
theorem m7 (nds:List Np)(nd:Nat):∀i,(oS nds nd i).length<=i
 | 0=>Yo _
 | i+1=>by
   change(oS nds nd i++_).length<=_
   have:=m7 nds nd i
   rw[Ym]
   split
   . change _+0<=_
     lia
   . cases nds[i]? with
     | none=>change _+0<=_;lia
     | some _=>change _+1<=_;lia
def eT (nds:List Np)(nd:Nat)(b:Int):Bool:=(oS nds nd nds.length).any fun e=>decide (b∈e.aH)
inductive mC (nds:List Np) (nd:Nat):Prop
 | mk {x y:Str} {e e2:E} {b b2:Int} (h1:nds[nd]?=some (.put x e b)) (h2:nds[b.toNat]?=some (.put y e2 b2)) (b0:b≠0) (bn:b≠(nd:Int)) (co:eT nds nd b=false) (xy:x≠y) (n1:e.nm y=false) (n2:e2.nm x=false):mC nds nd
def xh (e:Np):(∃x s n,e=.put x s n)\/e.hd≠"put":=by
 cases e with
 | put x s n=>show .inl ⟨x,s,n,rfl⟩
 | say _ _=>show .inr (show("say":Str)≠"put" by left)
 | test _ _ _=>show .inr (show("test":Str)≠"put" by left)
 | pick _ _=>show .inr (show("pick":Str)≠"put" by left)
 | fin=>show .inr (show("end":Str)≠"put" by left)
structure B8 (e:E):Prop where
 is:e.kZ
 bt:∀t y,e=.box t y->t="box"
 ok:e.okIn (fun t _=>t="box")
 dp:e.dep<40
def tM (C:Addr):Sp:=fun vs H Q X=>∃(l:Addr) (vn:List V) (nds:List Np) (nd:Nat),vs=[.ref l,.int (nd:Int)]/\H l=some (.lst vn)/\Paired (aI H) vn nds/\(∀e∈nds,∀b∈e.aH,0<=b/\b<(nds.length:Int))/\(∀e∈nds,∀x s n,e=.put x s n->B8 s)/\nd<nds.length/\nds.length<=900/\(mC nds nd->∀H',ah H H'->Q .bJ H')/\(¬ mC nds nd->∀H',ah H H'->X (.ref C) none H')
def oZ:aC ["nodes","node","behind","others","name","told","next_name","next_told"] ["nodes","node"] (aq yu):=df
def E7 {C T:Addr}{f:Addr}{fd:Yx}(F:b9 K "refuse_exchange" "refuse_exchange" yu f fd)(m_enumerate:mg "enumerate"=none)(m_any:mg "any"=none)(cN:Xc K mg "NoChange" C (.ref T::vE))(LE0:aS P w K mg base "leads_of" ["node"] 1 du)(NB:aS P w K mg base "names_box" ["sum_told","name"] 41 (iF 40)):aO P w K mg base (nO P w base) 42 f fd ["nodes","node"] (tM C):=by
 show F.RM oZ (fun vs H Q E h=>?_) (fun cdv A outer s H vs Q E hr h=>?_)
 . obtain⟨l,vn,nds,nd,rfl,_⟩:=h
   rfl
 . obtain⟨l,vn,nds,nd,rfl,hl,pn,ld,so,gY,n9,q,qx⟩:=h
   have LE:=LE0.mono (show 1<=41 by lia)
   have pW:=Paired.length pn
   obtain⟨x1,e1,fK,lQ,oJ⟩:=cQ pn gY
   show dN ⟨_,(acj (acy (acK (acV (acr ac4 (ack acp (ack acD (Y 0) (Y 1)) aci) acu) (acZ (acr ac4 (ack acp (ack acD (Y 0) (ack acp (ack acD (Y 0) (Y 1)) aci)) aci) acu)))) (acn (L3.qS nh cN U U (L acu M))) acz)
     (acj (acw 2 oZ.nd (ack acp (ack acD (Y 0) (Y 1)) aci))
     (acj (ac1 (i:=3) [none,none,some 1] ["number","old","node"] (fP yu) U (adh U m_enumerate (L (Y 0) M)) (fun v v v v v=>⟨(acF 2 (acs (aco 0 (dE ["number","old","node"])) (acs (aco 1 (dE ["number","old","node"])) acE))),(adm (acr ac4 (Y 0) (Y 2))),(Y 1)⟩) oZ.nd)
     (acj (acy (acK (acV (acr L3.xp (Y 2) (acx (L aci (L (Y 1) M))) U) (acZ (acW (acA L3.Ca U m_any (by right) (L (acO [none,some 2] ["old","behind"] (fP yu) U (acI (Y 3)) (fun v v v v v=>⟨(aco 0 (dE ["old","behind"])),acH,(acQ L3.xp (Y 1) (acm LE hr U (L (Y 0) M)) U)⟩)) M)))))) (acn (L3.qS nh cN U U (L acu M))) acz)
     (acj (L3.Fs 4 5 oZ.nd (L (ack acp (ack acD (Y 0) (Y 1)) aci) (L (ack acp (ack acD (Y 0) (Y 1)) aci) M)))
     (acj (L3.Fs 6 7 oZ.nd (L (ack acp (ack acD (Y 0) (Y 2)) aci) (L (ack acp (ack acD (Y 0) (Y 2)) aci) M)))
     (acn (acy (acK (acV (acr acC (Y 4) (Y 6)) (acV (acW (acm NB hr U (L (Y 5) (L (Y 6) M)))) (acZ (acW (acm NB hr U (L (Y 7) (L (Y 4) M)))))))) (acn (L3.qS nh cN U U (L acu M))) acz)))))))),?_⟩
   show aE fun Rk kR=>?_
   rcases xh e1 with⟨x,m1,b,rfl⟩|qH
   rotate_left
   . obtain⟨px,as,rfl,Ji⟩:=oJ.head
     have no:¬ mC nds nd:=fun z=>by
       cases z with
       | mk h1=>rw[lQ]at h1;cases h1;show qH rfl
     show⟨_,U,_,U,?_⟩
     show eA hl (aV fK) ?_
     show aP Ji Dy ?_
     show⟨U,_,U,?_⟩
     show bD (by rw[f6 (fun z=>qH (by injection z))];rfl) (bD (by left) ?_)
     show⟨_,U,qx no _ (same_refl _)⟩
   obtain⟨u1,⟨p1,rfl,pT⟩,Qy⟩:=oJ
   have bl:=ld _ (Yq lQ) b (List.mem_singleton.mpr rfl)
   have bn:b.toNat<nds.length:=by lia
   have eb:((b.toNat:Nat):Int)=b:=YA bl.1
   obtain⟨x2,e2,r8,mQ,Cs⟩:=cQ pn bn
   have uy:jQ vn b=some x2:=by
     have:=aV r8
     rw[eb]at this
     show this
   show⟨_,U,_,U,?_⟩
   show eA hl (aV fK) ?_
   show aP pT U ?_
   show⟨U,_,U,aK (by left) ?_⟩
   rcases xh e2 with⟨y,m2,b2,rfl⟩|qH
   rotate_left
   . obtain⟨px,as,rfl,Ji⟩:=Cs.head
     have no:¬ mC nds nd:=fun z=>by
       cases z with
       | mk h1 h2=>rw[lQ]at h1;cases h1;rw[mQ]at h2;cases h2;show qH rfl
     show⟨_,U,_,U,_,U,?_⟩
     show eA hl (aV fK) ?_
     show aP pT U ?_
     show eA hl uy ?_
     show aP Ji Dy ?_
     show⟨U,_,U,?_⟩
     show bD (by rw[f6 (fun z=>qH (by injection z))];rfl) ?_
     show⟨_,U,qx no _ (same_refl _)⟩
   obtain⟨u2,⟨p2,rfl,uA⟩,TL⟩:=Cs
   show⟨_,U,_,U,_,U,?_⟩
   show eA hl (aV fK) ?_
   show aP pT U ?_
   show eA hl uy ?_
   show aP uA U ?_
   show⟨U,_,U,aK (by left) (kR _ _ ?_)⟩
   have key:mC nds nd↔(b≠0/\b≠(nd:Int)/\eT nds nd b=false/\x≠y/\m1.nm y=false/\m2.nm x=false):=by
     show⟨fun z=>?_,fun z=>.mk lQ mQ z.1 z.2.1 z.2.2.1 z.2.2.2.1 z.2.2.2.2.1 z.2.2.2.2.2⟩
     cases z with
     | mk h1 h2 b0 bn co xy n1 n2=>
       rw[lQ]at h1
       cases h1
       rw[mQ]at h2
       cases h2
       show⟨b0,bn,co,xy,n1,n2⟩
   show aE fun Rk kR=>?_
   show⟨_,U,_,U,?_⟩
   show eA hl (aV fK) ?_
   show aP pT U ?_
   show au (kR _ _ ?_)
   show aG [some (.ref l),some (.int (nd:Int)),some (.int b),none,none,none,none,none] U ?_
   show aE fun Rk kR=>?_
   show⟨_,U,l,U,⟨_,aF.of hl⟩,fun O hO=>?_⟩
   show fu (xs:=vn) (fun(i:Nat) (Hx:Hp)=>ah H Hx/\∃us,Hx O=some (.lst us)/\Paired (aI Hx) us (oS nds nd i)) ⟨af hO _,[],ae,.nil⟩ (fun i Hx v zz=>aF.of (zz.1 _ _ hl)) (fun i x0 pp Hx hx zz fB=>?_) (fun H2 zz=>?_)
   . obtain⟨sx,us,gO,pu⟩:=zz
     have cL:=(aQ hx)
     obtain⟨ei,DX,JQ⟩:=Paired.get pn hx
     have ul:=Paired.length pu
     have ol:=m7 nds nd i
     have sp:=af fB (.tup [.int (i:Int),x0])
     have gp:(upd Hx pp (.tup [.int (i:Int),x0])) pp=some (.tup [.int (i:Int),x0]):=ae
     generalize upd Hx pp (.tup [.int (i:Int),x0])=Hy at sp gp ⊢
     show jL gp ?_
     show⟨_,U,_,U,U,_,U,?_⟩
     by_cases c:i=nd
     . show aK (show(!decide (V.int (i:Int)=V.int (nd:Int)))=false by rw[c,cH rfl];rfl) (aB (Pv:=fun(i:Nat) (Hx:Hp)=>ah H Hx/\∃us,Hx O=some (.lst us)/\Paired (aI Hx) us (oS nds nd i)) (by repeat' constructor) cL ⟨aa sx sp,us,sp _ _ gO,?_⟩)
       have e9:oS nds nd (i+1)=oS nds nd i:=by change _++(if i=nd then _ else _)=_;rw[bj c,YO]
       rw[e9]
       show Paired.aZ pu fun v v z=>aI.keep (ah.tk sp) z
     . show bD (show(!decide (V.int (i:Int)=V.int (nd:Int)))=true by rw[f6 (fun z=>c (by injection z with z;lia))];rfl) ?_
       have IC:=sp _ _ gO
       have Sw:TK Hy (upd Hy O (.lst (us++[x0]))):=TW.TK.lst IC
       show⟨_,U,_,IC,aD (by lia),aB (Pv:=fun(i:Nat) (Hx:Hp)=>ah H Hx/\∃us,Hx O=some (.lst us)/\Paired (aI Hx) us (oS nds nd i)) (by repeat' constructor) cL ⟨aA (aa sx sp) hO,_,ae,?_⟩⟩
       have e9:oS nds nd (i+1)=oS nds nd i++[ei]:=by change _++(if i=nd then _ else _)=_;rw[bg c,DX];rfl
       rw[e9]
       show Paired.snoc (Paired.aZ pu fun v v z=>aI.keep ((ah.tk sp).trans Sw) z) (aI.keep ((ah.tk (aa sx sp)).trans Sw) JQ)
   obtain⟨s2,us,gO,pu⟩:=zz
   rw[pW]at pu
   have ul:=Paired.length pu
   have ol:=m7 nds nd nds.length
   show au (kR _ _ ?_)
   show aG [some (.ref l),some (.int (nd:Int)),some (.int b),some (.ref O),none,none,none,none] U ?_
   show aE fun Rk kR=>?_
   have go3:b≠0->b≠(nd:Int)->eT nds nd b=false->∀H3,ah H H3->Rk [some (.ref l),some (.int (nd:Int)),some (.int b),some (.ref O),none,none,none,none] H3:=fun b0 M6 co H3 s3=>by
     show kR _ _ ?_
     show aE fun Rk kR=>?_
     have wA:=s3 _ _ hl
     show⟨_,U,_,U,?_⟩
     show eA wA (aV fK) ?_
     show aP (s3 _ _ pT) U ?_
     show⟨_,U,_,U,?_⟩
     show eA wA (aV fK) ?_
     show aP (s3 _ _ pT) U ?_
     show⟨_,_,U,?_⟩
     show kR _ _ ?_
     show aG [some (.ref l),some (.int (nd:Int)),some (.int b),some (.ref O),some (.str x),some u1,none,none] U ?_
     show aE fun Rk kR=>?_
     show⟨_,U,_,U,?_⟩
     show eA wA uy ?_
     show aP (s3 _ _ uA) U ?_
     show⟨_,U,_,U,?_⟩
     show eA wA uy ?_
     show aP (s3 _ _ uA) U ?_
     show⟨_,_,U,?_⟩
     show kR _ _ ?_
     show aG [some (.ref l),some (.int (nd:Int)),some (.int b),some (.ref O),some (.str x),some u1,some (.str y),some u2] U ?_
     have MH:=so _ (Yq lQ) x m1 b rfl
     have MI:=so _ (Yq mQ) y m2 b2 rfl
     show⟨_,U,_,U,U,_,U,?_⟩
     by_cases xy:x=y
     . show bD (cH (congrArg V.str xy)) (bD (by left) ?_)
       show⟨_,U,qx (fun z=>(key.mp z).2.2.2.1 xy) _ s3⟩
     show aK (f6 (fun z=>xy (by injection z))) ?_
     show⟨_,U,_,U,u1,m1,y,U,Qy.keep (ah.tk s3),MH.is,MH.bt,MH.ok,MH.dp,fun H4 s4=>⟨_,U,?_⟩⟩
     have PH:=aa s3 s4
     cases n1:m1.nm y with
     | true=>
       show k6 (bD (by left) ?_)
       show⟨_,U,qx (fun z=>by have:=(key.mp z).2.2.2.2.1;rw[n1]at this;cases this) _ PH⟩
     | false=>
       show fL ?_
       show⟨_,U,_,U,u2,m2,x,U,TL.keep (ah.tk PH),MI.is,MI.bt,MI.ok,MI.dp,fun H5 s5=>⟨_,U,?_⟩⟩
       have s35:=aa PH s5
       cases n2:m2.nm x with
       | true=>
         show k6 ?_
         show⟨_,U,qx (fun z=>by have:=(key.mp z).2.2.2.2.2;rw[n2]at this;cases this) _ s35⟩
       | false=>
         show fL ?_
         show q (key.mpr ⟨b0,M6,co,xy,n1,n2⟩) _ s35
   show⟨_,U,_,U,aeu,fun t0 j6=>?_⟩
   have a1:=af j6 (.tup [.int 0,.int (nd:Int)])
   have g1:(upd H2 t0 (.tup [.int 0,.int (nd:Int)])) t0=some (.tup ([0,(nd:Int)].map V.int)):=ae
   generalize upd H2 t0 (.tup [.int 0,.int (nd:Int)])=H3 at a1 g1 ⊢
   show⟨t0,_,U,.inr (bM.of g1),U,fz _,_,U,?_⟩
   change if zp (.int b) ([0,(nd:Int)].map V.int)=true then _ else _
   rw[eU]
   by_cases bb:b∈[0,(nd:Int)]
   . show bD (cH bb) (bD (by left) ?_)
     show⟨_,U,qx (fun z=>?_) _ (aa s2 a1)⟩
     have k:=key.mp z
     rcases fM bb with w|w
     . show k.1 w
     . show k.2.1 (dC w)
   show aK (f6 bb) ?_
   have b0:b≠0:=fun z=>bb (bu (.inl z))
   have M6:b≠(nd:Int):=fun z=>bb (bu (.inr (List.mem_singleton.mpr z)))
   have QD:=a1 _ _ gO
   show⟨_,U,O,U,⟨_,aF.of QD⟩,fun D hD=>?_⟩
   show aT (xs:=us) (fun(i:Nat) (Hx:Hp)=>ah H3 Hx/\Hx D=some (.lst ((((oS nds nd nds.length).take i).map fun e=>decide (b∈e.aH)).map V.bl))) ⟨af hD _,by rw[Zn];show ae⟩ (fun i Hx v zz=>aF.of (zz.1 _ _ QD)) (fun i x0 Hx hx zz=>?_) (fun H4 zz=>?_)
   . obtain⟨sx,gD⟩:=zz
     have cL:=(aQ hx)
     obtain⟨ei,DX,JQ⟩:=Paired.get pu hx
     show au ?_
     show bF (A:=fun H5=>cf _ D _ H5 _) ?_
     show⟨_,U,_,U,x0,ei,U,aI.keep (ah.tk (aa a1 sx)) JQ,fun L8 H5 s5 gL=>?_⟩
     show⟨L8,_,U,.inl (aF.of gL),U,fz _,?_⟩
     rw[eU]
     show⟨_,s5 _ _ gD,aD (by rw[Yk,Yk,Yu];lia),aB (Pv:=fun(i:Nat) (Hx:Hp)=>ah H3 Hx/\Hx D=some (.lst ((((oS nds nd nds.length).take i).map fun e=>decide (b∈e.aH)).map V.bl))) (by repeat' constructor) cL ⟨aA (aa sx s5) hD,?_⟩⟩
     rw[ae,Yv,DX,Yt,Yt]
     rfl
   obtain⟨s4,gD⟩:=zz
   rw[ul,YR]at gD
   show⟨D,(oS nds nd nds.length).map fun e=>decide (b∈e.aH),U,aF.of gD,_,U,?_⟩
   have ec:((oS nds nd nds.length).map fun e=>decide (b∈e.aH)).any id=eT nds nd b:=by
     unfold eT
     rw[List.any_map]
     rfl
   rw[ec]
   have R5:=aa s2 (aa a1 s4)
   cases co:eT nds nd b with
   | true=>
     show k6 ?_
     show⟨_,U,qx (fun z=>by have:=(key.mp z).2.2.1;rw[co]at this;cases this) _ R5⟩
   | false=>show fL (go3 b0 M6 co _ R5)
def Ad {C T:Addr}(s:Src K mg "refuse_exchange" yu)(m_enumerate:mg "enumerate"=none)(m_any:mg "any"=none)(cN:Xc K mg "NoChange" C (.ref T::vE))(LE0:aS P w K mg base "leads_of" ["node"] 1 du)(NB:aS P w K mg base "names_box" ["sum_told","name"] 41 (iF 40)):pY P w K mg base "refuse_exchange" ["nodes","node"] 42 (tM C):=
 let⟨f,fd,F,m⟩:=s
 ⟨f,fd,E7 F m_enumerate m_any cN LE0 NB,F.kp,nW F fun z z z z z z z z=>rfl,m⟩
abbrev ym:Stmt:=top 44
def uQ {P Q:Str->Str->Prop}(k:∀t x,P t x->Q t x){e:E}(h:e.okIn P):e.okIn Q:=by
 induction e with
 | num _=>show h
 | box _ _=>show k _ _ h
 | yes=>show h
 | nt a ih=>show ih h
 | two _ a b ia ib=>show⟨ia h.1,ib h.2⟩
structure rL (ns:List Str)(x:Str)(e:E):Prop where
 xin:x∈ns
 is:e.kZ
 ok:e.okIn (vR ns)
 dp:e.dep<30
def rL.sum {ns:List Str}{x:Str}{e:E}(h:rL ns x e):B8 e:=by
 have o2:e.okIn (fun t w=>t="box"):=uQ (fun t x z=>z.1) h.ok
 show⟨h.is,fun t y z=>?_,o2,by have:=h.dp;lia⟩
 subst z
 show o2
structure zD (H:Hp)(B I N:Addr)(vb vn:List V)(bs:aj)(ins:List Str)(nds:List Np):Prop where
 hB:H B=some (.lst vb)
 hI:H I=some (.lst (ins.map V.str))
 hN:H N=some (.lst vn)
 pb:Paired (eR H) vb bs
 pn:Paired (aI H) vn nds
def uq (nds:List Np)(nd:Nat)(x y:Str)(e e2:E)(b b2:Int):List Np:=(nds.set nd (.put y e2 b)).set b.toNat (.put x e b2)
theorem Paired.Gk {α β:Type}{R:α->β->Prop}{x:α}{y:β}(h:R x y):∀{xs:List α} {ys:List β} (j:Nat),Paired R xs ys->Paired R (xs.set j x) (ys.set j y)
 | _,_,_,.nil=>.nil
 | _,_,0,.cons _ t=>.cons h t
 | _,_,j+1,.cons a t=>.cons a (Paired.Gk h j t)
def yN (cNC:Addr):Sp:=fun vs H Q X=>∃(p B I N:Addr) (vb vn:List V) (bs:aj) (ins:List Str) (nds:List Np) (nd:Nat),vs=[.ref p,.int (nd:Int)]/\nd<nds.length/\H p=some (.tup [.ref B,.ref I,.ref N])/\zD H B I N vb vn bs ins nds/\bs.length<=4/\(∀b∈bs,1<=b.2/\b.2<=16)/\nds.length<=900/\(∀e∈nds,∀b∈e.aH,0<=b/\b<(nds.length:Int))/\(∀e∈nds,∀x s n,e=.put x s n->rL (bs.map (·.1)) x s) /\
 (¬ mC nds nd->∀H',ah H H'->X (.ref cNC) none H')/\(∀(x y:Str) (e e2:E) (b b2:Int),mC nds nd->nds[nd]?=some (.put x e b)->nds[b.toNat]?=some (.put y e2 b2)->∀(q p' B' I' N' P':Addr) (vn':List V) (H':Hp),ah H H'->H' q=some (.tup [.ref p',.ref P'])->H' p'=some (.tup [.ref B',.ref I',.ref N'])->zD H' B' I' N' vb vn' bs ins (uq nds nd x y e e2 b b2)->Q (.ref q) H')
def jo:aC ["program","node","nodes","same","behind","first","second","told","paper"] ["program","node"] (aq ym):=df
def EO {cNC tO:Addr}{f:Addr}{fd:Yx}(F:b9 K "exchanged_puts" "exchanged_puts" ym f fd)(m_len:mg "len"=none)(m_list:mg "list"=none)(m_range:mg "range"=none)(m_enumerate:mg "enumerate"=none)(RN0:aS P w K mg base "refuse_no_nodes" ["program","numbers"] 1 mr)(RE:pY P w K mg base "refuse_exchange" ["nodes","node"] 42 (tM cNC))(AS0:aS P w K mg base "all_same" ["program"] 10 (i5 K))(LN0:aS P w K mg base "led_anew" ["node","leads"] 1 gu)(LE0:aS P w K mg base "leads_of" ["node"] 1 du)(BP0:aS P w K mg base "between_puts" ["program","first","second"] 35 yL)(LV0:aS P w K mg base "level_entry" ["program","place","new_place","condition"] 1 (gv tO))(WN0:aS P w K mg base "with_nodes" ["program","nodes"] 1 eG):aO P w K mg base (nO P w base) 43 f fd ["program","node"] (yN cNC):=by
 show F.RM jo (fun vs H Q E h=>?_) (fun cdv A outer s H vs Q E hr h=>?_)
 . obtain⟨p,B,I,N,vb,vn,bs,ins,nds,nd,rfl,_⟩:=h
   rfl
 . obtain⟨p,B,I,N,vb,vn,bs,ins,nds,nd,rfl,G8,hp,pt,b4,sz,n9,ld,po,qc,qo⟩:=h
   obtain⟨hB,hI,hN,pb,pn⟩:=pt
   have RN:=RN0.mono (show 1<=42 by lia)
   have AS:=AS0.mono (show 10<=42 by lia)
   have LN:=LN0.mono (show 1<=42 by lia)
   have LE:=LE0.mono (show 1<=42 by lia)
   have BP:=BP0.mono (show 35<=42 by lia)
   have LV:=LV0.mono (show 1<=42 by lia)
   have WN:=WN0.mono (show 1<=42 by lia)
   have pW:=Paired.length pn
   show dN ⟨_,(acj (acN (acm RN hr U (L (Y 0) (L (acB (L (Y 1) M)) M))))
     (acj (acN (L3.Pl Kj RE hr U (L (ack acp (Y 0) aci) (L (Y 1) M))))
     (acj (acJ (acx (L (acP adg U m_list (by right) (L (ack acp (Y 0) aci) M)) (L (acm AS hr U (L (Y 0) M)) M))) (acF 2 (acs (aco 2 jo.nd) (acs (aco 3 jo.nd) acE))))
     (acj (acw 4 jo.nd (ack acp (ack acD (Y 2) (Y 1)) aci))
     (acj (acJ (acx (L (ack acD (Y 2) (Y 1)) (L (ack acD (Y 2) (Y 4)) M))) (acF 2 (acs (aco 5 jo.nd) (acs (aco 6 jo.nd) acE))))
     (acj (acJ (acm LN hr U (L (Y 6) (L (acB (L (Y 4) M)) M))) (L3.Ce (Y 2) (Y 1)))
     (acj (acJ (acm LN hr U (L (Y 5) (L (acm LE hr U (L (Y 6) M)) M))) (L3.Ce (Y 2) (Y 4)))
     (acj (ac1 (i:=7) [none,some 3,some 4,some 0,some 5,some 6] ["place","same","behind","program","first","second"] (fP ym) U (acU U m_range (L (acA acG U m_len Yy (L (Y 2) M)) M)) (fun v v v v v=>⟨(aco 0 (dE ["place","same","behind","program","first","second"])),acH,(ac0 (acr acC (Y 0) (Y 2)) (acm BP hr U (L (Y 3) (L (Y 4) (L (Y 5) M)))) (Y 1))⟩) jo.nd)
     (acj (ac1 (i:=8) [none,none,some 0] ["place","condition","program"] (fP ym) U (adh U m_enumerate (L (Y 7) M)) (fun v v v v v=>⟨(acF 2 (acs (aco 0 (dE ["place","condition","program"])) (acs (aco 1 (dE ["place","condition","program"])) acE))),acH,(acm LV hr U (L (Y 2) (L (Y 0) (L (Y 0) (L (Y 1) M)))))⟩) jo.nd)
     (acn (acq (acx (L (acm WN hr U (L (Y 0) (L (Y 2) M))) (L (Y 8) M)))))))))))))),?_⟩
   show aE fun Rk kR=>?_
   show⟨_,U,_,U,aet,fun l0 N7=>?_⟩
   have s1:=af N7 (.lst [.int (nd:Int)])
   have g1:(upd H l0 (.lst [.int (nd:Int)])) l0=some (.lst ([(nd:Int)].map V.int)):=ae
   generalize upd H l0 (.lst [.int (nd:Int)])=H1 at s1 g1 ⊢
   show⟨p,l0,B,I,N,vn,[(nd:Int)],U,s1 _ _ hp,s1 _ _ hN,g1,(fun h hh=>by rw[dC hh];show⟨by lia,by lia⟩),?_⟩
   show kR _ _ ?_
   show aE fun Rk kR=>?_
   show⟨_,U,?_⟩
   show aP (s1 _ _ hp) U ?_
   show⟨_,U,N,vn,nds,nd,U,s1 _ _ hN,Paired.aZ pn fun v v z=>aI.keep (ah.tk s1) z,ld,fun e he x s n z=>(po e he x s n z).sum,G8,n9,fun ex H2 s2=>?_,fun no H2 s2=>qc no _ (aa s1 s2)⟩
   have qo:=fun x y e e2 b b2=>qo x y e e2 b b2 ex
   show kR _ _ ?_
   cases ex with
   | @mk x y e e2 b b2 h1 h2 b0 bn co xy n1 n2=>
   have s02:=aa s1 s2
   have Mp:=po _ (Yq h1) x e b rfl
   have Mq:=po _ (Yq h2) y e2 b2 rfl
   have bl:=ld _ (Yq h1) b (List.mem_singleton.mpr rfl)
   have S9:b.toNat<nds.length:=by lia
   have LL:((b.toNat:Nat):Int)=b:=YA bl.1
   obtain⟨v1,e1',hv1,lQ,oJ⟩:=cQ pn G8
   cases h1.symm.trans lQ
   obtain⟨v2,lN,hv2,mQ,Cs⟩:=cQ pn S9
   cases h2.symm.trans mQ
   have uy:jQ vn b=some v2:=by
     have:=aV hv2
     rw[LL]at this
     show this
   show aE fun Rk kR=>?_
   show⟨_,U,?_⟩
   show aP (s02 _ _ hp) U ?_
   show⟨N,_,U,.inl (aF.of (s02 _ _ hN)),fun M8 hM=>?_⟩
   have s3:=af hM (.lst vn)
   have g3:(upd H2 M8 (.lst vn)) M8=some (.lst vn):=ae
   generalize upd H2 M8 (.lst vn)=H3 at s3 g3 ⊢
   have s03:=aa s02 s3
   show⟨_,U,p,B,I,N,vb,bs,U,s03 _ _ hp,s03 _ _ hB,Paired.aZ pb fun v v z=>Tp.keep (ah.tk s03) z,b4,fun sm se H4 s4 v v=>?_⟩
   show⟨aeu,fun t0 j6=>?_⟩
   have s5:=af j6 (.tup [.ref M8,sm])
   have g5:(upd H4 t0 (.tup [.ref M8,sm])) t0=some (.tup [.ref M8,sm]):=ae
   generalize upd H4 t0 (.tup [.ref M8,sm])=H5 at s5 g5 ⊢
   show jL g5 ?_
   show kR _ _ ?_
   show aG [some (.ref p),some (.int (nd:Int)),some (.ref M8),some sm,none,none,none,none,none] U ?_
   show aE fun Rk kR=>?_
   have s35:=aa s4 s5
   have F4:=aa s03 s35
   have LQ:=s35 _ _ g3
   have OW:=aI.keep (ah.tk F4) oJ
   have OY:=aI.keep (ah.tk F4) Cs
   have nM:H M8=none:=ag s02 hM
   obtain⟨u1,⟨p1,rfl,pT⟩,Qy⟩:=id OW
   show⟨_,U,_,U,?_⟩
   show eA LQ (aV hv1) ?_
   show aP pT U ?_
   show au (kR _ _ ?_)
   show aG [some (.ref p),some (.int (nd:Int)),some (.ref M8),some sm,some (.int b),none,none,none,none] U ?_
   show aE fun Rk kR=>?_
   show⟨_,U,_,U,?_⟩
   show eA LQ (aV hv1) ?_
   show⟨_,U,_,U,?_⟩
   show eA LQ uy ?_
   show⟨aeu,fun t1 wI=>?_⟩
   have s6:=af wI (.tup [.ref p1,v2])
   have g6:(upd H5 t1 (.tup [.ref p1,v2])) t1=some (.tup [.ref p1,v2]):=ae
   generalize upd H5 t1 (.tup [.ref p1,v2])=H6 at s6 g6 ⊢
   show jL g6 ?_
   show kR _ _ ?_
   show aG [some (.ref p),some (.int (nd:Int)),some (.ref M8),some sm,some (.int b),some (.ref p1),some v2,none,none] U ?_
   show aE fun Rk kR=>?_
   have s06:=aa F4 s6
   have T4:=s6 _ _ LQ
   show⟨_,U,_,U,aet,fun l1 hl1=>?_⟩
   have s7:=af hl1 (.lst [.int b])
   have g7:(upd H6 l1 (.lst [.int b])) l1=some (.lst ([b].map V.int)):=ae
   generalize upd H6 l1 (.lst [.int b])=W8 at s7 g7 ⊢
   show⟨v2,l1,_,[b],U,aI.keep (ah.tk (aa s6 s7)) OY,g7,U,fun w1 HE s8 VY=>?_⟩
   have Hk:=aa s7 s8
   have IB:=Hk _ _ T4
   show⟨_,U,_,U,M8,_,_,nd,U,U,IB,?_,?_⟩
   . change wQ vn.length (nd:Int)=some nd
     unfold wQ
     rw[bj (by lia),bj (by lia),Y6]
   have t1:ah H (upd HE M8 (.lst (vn.set nd w1))):=aA (aa s06 Hk) nM
   have NH:(upd HE M8 (.lst (vn.set nd w1))) M8=some (.lst (vn.set nd w1)):=ae
   have Ln:TK HE (upd HE M8 (.lst (vn.set nd w1))):=TW.TK.lst IB
   generalize upd HE M8 (.lst (vn.set nd w1))=H7 at t1 NH Ln ⊢
   show kR _ _ ?_
   show aE fun Rk kR=>?_
   have OX:=aI.keep (ah.tk t1) oJ
   have OZ:=aI.keep (ah.tk t1) Cs
   show⟨_,U,_,U,v2,_,U,OZ,fun l2 W9 s9 GU=>?_⟩
   show⟨.ref p1,l2,_,[b2],U,aI.keep (ah.tk s9) OX,GU,U,fun w2 GG s10 VZ=>?_⟩
   have s910:=aa s9 s10
   show⟨_,U,_,U,M8,_,_,b.toNat,U,U,s910 _ _ NH,?_,?_⟩
   . change wQ (vn.set nd w1).length b=some b.toNat
     unfold wQ
     rw[bj bl.1,bj (by rw[ZL];lia)]
   have t2:ah H (upd GG M8 (.lst ((vn.set nd w1).set b.toNat w2))):=aA (aa t1 s910) nM
   have L5:(upd GG M8 (.lst ((vn.set nd w1).set b.toNat w2))) M8=some (.lst ((vn.set nd w1).set b.toNat w2)):=ae
   have Lo:TK GG (upd GG M8 (.lst ((vn.set nd w1).set b.toNat w2))):=TW.TK.lst (s910 _ _ NH)
   have FL:Paired (aI (upd GG M8 (.lst ((vn.set nd w1).set b.toNat w2)))) ((vn.set nd w1).set b.toNat w2) (uq nds nd x y e e2 b b2):=Paired.Gk (aI.keep Lo VZ) _ (Paired.Gk (aI.keep (Ln.trans ((ah.tk s910).trans Lo)) VY) _ (Paired.aZ pn fun v v z=>aI.keep (ah.tk t2) z))
   have hlen:((vn.set nd w1).set b.toNat w2).length=vn.length:=by rw[ZL,ZL]
   generalize(vn.set nd w1).set b.toNat w2=Ht at t2 L5 hlen FL ⊢
   generalize upd GG M8 (.lst Ht)=H8 at t2 L5 FL ⊢
   show kR _ _ ?_
   show aE fun Rk kR=>?_
   have bt:∀Hx,ah H8 Hx->i8 Hx (.ref p1) (bs.map (·.1)) x e b/\i8 Hx v2 (bs.map (·.1)) y e2 b2:=fun Hx sx=>⟨⟨aI.keep (ah.tk (aa t2 sx)) oJ,Mp.xin,Mp.is,Mp.ok,Mp.dp⟩,⟨aI.keep (ah.tk (aa t2 sx)) Cs,Mq.xin,Mq.is,Mq.ok,Mq.dp⟩⟩
   show⟨_,U,M8,_,U,.inl (aF.of L5),(Ht.length:Int),U,by lia,by lia,fun D hD=>?_⟩
   rw[Y6]
   show cb (lo:=0) (n:=Ht.length) (fun(i:Nat) (Hx:Hp)=>ah H8 Hx/\∃ws,Hx D=some (.lst ws)/\ws.length=i) ⟨af hD _,[],ae,U⟩ (fun i Hx hi zz=>?_) (fun H9 zz=>?_)
   . obtain⟨sx,ws,gD,wl⟩:=zz
     have P5:=aa t2 sx
     rw[ZE]
     show au ?_
     show bF (A:=fun H5=>cf _ D _ H5 _) ?_
     show⟨_,U,_,U,U,_,U,?_⟩
     show aN (fun v=>?_) (fun v=>?_)
     . obtain⟨Mr,Ms⟩:=bt Hx sx
       show⟨_,U,_,U,_,U,p,B,I,N,vb,bs,.ref p1,v2,x,y,e,e2,b,b2,U,P5 _ _ hp,P5 _ _ hB,Paired.aZ pb fun v v z=>Tp.keep (ah.tk P5) z,b4,sz,Mr,Ms,fun v' Hy sy=>?_⟩
       show⟨_,sy _ _ gD,aD (by lia),aB (Pv:=fun(i:Nat) (Hx:Hp)=>ah H8 Hx/\∃ws,Hx D=some (.lst ws)/\ws.length=i) (by repeat' constructor) hi ⟨aA (aa sx sy) hD,_,ae,by rw[Ym,wl];rfl⟩⟩
     . show⟨_,U,_,gD,aD (by lia),aB (Pv:=fun(i:Nat) (Hx:Hp)=>ah H8 Hx/\∃ws,Hx D=some (.lst ws)/\ws.length=i) (by repeat' constructor) hi ⟨aA sx hD,_,ae,by rw[Ym,wl];rfl⟩⟩
   obtain⟨s9',ws,gD,wl⟩:=zz
   show au (kR _ _ ?_)
   show aG [some (.ref p),some (.int (nd:Int)),some (.ref M8),some sm,some (.int b),some (.ref p1),some v2,some (.ref D),none] U ?_
   show aE fun Rk kR=>?_
   have t9:=aa t2 s9'
   show⟨_,U,D,U,⟨_,aF.of gD⟩,fun D2 mM=>?_⟩
   show fu (xs:=ws) (fun(i:Nat) (Hx:Hp)=>ah H9 Hx/\∃pQ,Hx D2=some (.lst pQ)/\pQ.length=i) ⟨af mM _,[],ae,U⟩ (fun i Hx v zz=>aF.of (zz.1 _ _ gD)) (fun i x0 pp Hx hx zz fB=>?_) (fun HA zz=>?_)
   . obtain⟨sx,pQ,GQ,Ly⟩:=zz
     have cL:=(aQ hx)
     have sp:=af fB (.tup [.int (i:Int),x0])
     have gp:(upd Hx pp (.tup [.int (i:Int),x0])) pp=some (.tup [.int (i:Int),x0]):=ae
     generalize upd Hx pp (.tup [.int (i:Int),x0])=Hy at sp gp ⊢
     have P6:=aa t9 (aa sx sp)
     obtain⟨xi,ei,wJ,DX,JQ⟩:=cQ pn (show i<nds.length by lia)
     show jL gp ?_
     show bF (A:=fun H5=>cf _ D2 _ H5 _) ?_
     show⟨_,U,_,U,_,U,_,U,p,B,I,N,vn,ei,i,(i:Int),x0,xi,U,P6 _ _ hp,P6 _ _ hN,wJ,aI.keep (ah.tk P6) JQ,fun w Hz Sn v=>?_⟩
     show⟨_,Sn _ _ (sp _ _ GQ),aD (by lia),aB (Pv:=fun(i:Nat) (Hx:Hp)=>ah H9 Hx/\∃pQ,Hx D2=some (.lst pQ)/\pQ.length=i) (by repeat' constructor) cL ⟨aA (aa sx (aa sp Sn)) mM,_,ae,by rw[Ym,Ly];rfl⟩⟩
   obtain⟨sA,pQ,GQ,Ly⟩:=zz
   show au (kR _ _ ?_)
   show aG [some (.ref p),some (.int (nd:Int)),some (.ref M8),some sm,some (.int b),some (.ref p1),some v2,some (.ref D),some (.ref D2)] U ?_
   have tA:=aa t9 sA
   show⟨_,U,_,U,p,M8,B,I,N,vb,_,U,tA _ _ hp,tA _ _ hB,tA _ _ hI,fun p' B' I' HB sB Ui TZ T3 v v v=>?_⟩
   show⟨_,U,aeu,fun q0 Ed=>?_⟩
   have sq:=af Ed (.tup [.ref p',.ref D2])
   have PL:=aa sB sq
   have T5:=sA _ _ (s9' _ _ L5)
   have Sq:=aa tA PL
   have Hr:=ah.tk (aa s9' (aa sA PL))
   show qo x y e e2 b b2 h1 h2 q0 p' B' I' M8 D2 Ht _ Sq ae (sq _ _ Ui) ⟨sq _ _ TZ,sq _ _ T3,PL _ _ T5,Paired.aZ pb fun v v z=>Tp.keep (ah.tk Sq) z,Paired.aZ FL fun v v z=>aI.keep Hr z⟩
def Aa {cNC tO:Addr}(s:Src K mg "exchanged_puts" ym)(m_len:mg "len"=none)(m_list:mg "list"=none)(m_range:mg "range"=none)(m_enumerate:mg "enumerate"=none)(RN0:aS P w K mg base "refuse_no_nodes" ["program","numbers"] 1 mr)(RE:pY P w K mg base "refuse_exchange" ["nodes","node"] 42 (tM cNC))(AS0:aS P w K mg base "all_same" ["program"] 10 (i5 K))(LN0:aS P w K mg base "led_anew" ["node","leads"] 1 gu)(LE0:aS P w K mg base "leads_of" ["node"] 1 du)(BP0:aS P w K mg base "between_puts" ["program","first","second"] 35 yL)(LV0:aS P w K mg base "level_entry" ["program","place","new_place","condition"] 1 (gv tO))(WN0:aS P w K mg base "with_nodes" ["program","nodes"] 1 eG):pY P w K mg base "exchanged_puts" ["program","node"] 43 (yN cNC):=
 let⟨f,fd,F,m⟩:=s
 ⟨f,fd,EO F m_len m_list m_range m_enumerate RN0 RE AS0 LN0 LE0 BP0 LV0 WN0,F.kp,nW F fun z z z z z z z z=>rfl,m⟩
abbrev BF:Stmt:=top 40
def nQ (m nd l:Int):Int:=if l=nd then m else l
def MJ (m nd:Int)(named:List Int)(x:Int)(e:Np):Np:=e.led (if x∈named then e.aH.map (nQ m nd)else e.aH)
def q5 (m nd:Nat)(j:Nat):Int:=if j=m then(nd:Int)else(j:Int)
def spS (nds:List Np)(nd:Nat)(a:Np)(named:List Int):List Np:=(nds++[a]).mapIdx fun j e=>MJ (nds.length:Int) (nd:Int) named (q5 nds.length nd j) e
def Sk (nds:List Np)(nd:Nat)(a:Np):List (Int×Int×Str):=(nds.mapIdx fun j e=>((j:Int),(j:Int),e.hd))++[((nd:Int),(nds.length:Int),a.hd)]
structure HS (K:Yl)(tO:Addr)(H H':Hp)(p' P' B' I' N':Addr)(vb vn':List V)(bs:aj)(ins:List Str)(nds':List Np)(sm:V)(se:E)(ps:List V)(lv:List (Int×Int×Str)):Prop where
 s:ah H H'
 hp:H' p'=some (.tup [.ref B',.ref I',.ref N'])
 pt:zD H' B' I' N' vb vn' bs ins nds'
 hP:H' P'=some (.lst ps)
 ek:EK K H' sm se
 bt:Bt se (.yes::(bs.map (·.1)).map jm)
 pp:Paired (fun v e=>dq tO H' v sm e) ps lv
 nB:H B'=none
 nI:H I'=none
 nN:H N'=none
 nP:H P'=none
 BI:B'≠I'
 BN:B'≠N'
 IN:I'≠N'
 PB:P'≠B'
 PI:P'≠I'
 PN:P'≠N'
def nE (K:Yl)(tO:Addr):Sp:=fun vs H Q z=>∃(p B I N l:Addr) (vb vn:List V) (bs:aj) (ins:List Str) (nds:List Np) (nd:Nat) (a:Np) (named:List Int),vs=[.ref p,.int (nd:Int),.ref l]/\H p=some (.tup [.ref B,.ref I,.ref N])/\zD H B I N vb vn bs ins nds/\bs.length<=4/\nds.length<=100/\nds[nd]?=some a/\H l=some (.lst (named.map V.int))/\named.length<=200/\(∀x∈named,0<=x/\x<(nds.length:Int)) /\
 ∀(q p' P' B' I' N':Addr) (vn':List V) (sm:V) (se:E) (ps:List V) (H':Hp),H' q=some (.tup [.ref p',.ref P'])->HS K tO H H' p' P' B' I' N' vb vn' bs ins (spS nds nd a named) sm se ps (Sk nds nd a)->Q (.ref q) H'
def fS:aC ["program","node","named","nodes","same","copied","told","number","old","leads","paper"] ["program","node","named"] (aq BF):=df
def Fb {tO:Addr}{f:Addr}{fd:Yx}(F:b9 K "split_node" "split_node" BF f fd)(m_len:mg "len"=none)(m_range:mg "range"=none)(m_enumerate:mg "enumerate"=none)(RN0:aS P w K mg base "refuse_no_nodes" ["program","numbers"] 1 mr)(AS:aS P w K mg base "all_same" ["program"] 10 (i5 K))(LE0:aS P w K mg base "leads_of" ["node"] 1 du)(LD0:aS P w K mg base "led_anew" ["node","leads"] 1 gu)(LV0:aS P w K mg base "level_entry" ["program","place","new_place","condition"] 1 (gv tO))(WN0:aS P w K mg base "with_nodes" ["program","nodes"] 1 eG):aO P w K mg base bU 11 f fd ["program","node","named"] (nE K tO):=by
 show F.c0 fS fun cdv A outer s H vs Q E hr h=>?_
 obtain⟨p,B,I,N,l,vb,vn,bs,ins,nds,nd,a,named,rfl,hp,pt,b4,OV,gY,hl,nl,hn,q⟩:=h
 have MW:=RN0.mono (show 1<=10 by left)
 have LE:=LE0.mono (show 1<=10 by left)
 have LD:=LD0.mono (show 1<=10 by left)
 have LV:=LV0.mono (show 1<=10 by left)
 have WN:=WN0.mono (show 1<=10 by left)
 have pW:=Paired.length pt.pn
 have G8:nd<nds.length:=(aQ gY)
 have big:1000<=sizeLine:=by left
 show dN ⟨_,(acj (acN (acm MW hr U (L (Y 0) (L (acv ac9 (acB (L (Y 1) M)) (Y 2)) M))))
   (acj (acJ (acx (L (ack acp (Y 0) aci) (L (acm AS hr U (L (Y 0) M)) M))) (acF 2 (acs (aco 3 fS.nd) (acs (aco 4 fS.nd) acE))))
   (acj (acJ (acx (L (acA acG U m_len Yy (L (Y 3) M)) (L (acB M) M))) (acF 2 (acs (aco 5 fS.nd) (acs (aco 6 fS.nd) acE))))
   (acj (acM (adh U m_enumerate (L (acv ac9 (Y 3) (acB (L (ack acD (Y 3) (Y 1)) M))) M)) (acF 2 (acs (aco 7 fS.nd) (acs (aco 8 fS.nd) acE))) (acj (acw 9 fS.nd (acm LE hr U (L (Y 8) M)))
   (acj (acy (acr L3.xp (ac0 (acr acC (Y 7) (Y 5)) (Y 1) (Y 7)) (Y 2) U) (acn (ac1 (i:=9) [none,some 5,some 1] ["lead","copied","node"] (fP BF) U (acI (Y 9)) (fun u u u u u=>⟨(aco 0 (dE ["lead","copied","node"])),acH,(ac0 (acr acC (Y 0) (Y 2)) (Y 1) (Y 0))⟩) fS.nd)) acz)
   (acn (acN (adi (Y 6) (L (acm LD hr U (L (Y 8) (L (Y 9) M))) M)))))))
   (acj (ac1 (i:=10) [none,some 0,some 4] ["place","program","same"] (fP BF) U (acU U m_range (L (Y 5) M)) (fun u u u u u=>⟨(aco 0 (dE ["place","program","same"])),acH,(acm LV hr U (L (Y 1) (L (Y 0) (L (Y 0) (L (Y 2) M)))))⟩) fS.nd)
   (acj (acN (adi (Y 10) (L (acm LV hr U (L (Y 0) (L (Y 1) (L (Y 5) (L (Y 4) M))))) M)))
   (acn (acq (acx (L (acm WN hr U (L (Y 0) (L (Y 6) M))) (L (Y 10) M))))))))))),?_⟩
 show aE fun Rk kR=>?_
 show⟨_,U,_,U,aet,fun l1 hl1=>?_⟩
 have s1:=af hl1 (.lst [.int (nd:Int)])
 have g1:(upd H l1 (.lst [.int (nd:Int)])) l1=some (.lst [.int (nd:Int)]):=ae
 generalize upd H l1 (.lst [.int (nd:Int)])=H1 at s1 g1 ⊢
 show⟨_,U,l1,l,_,_,U,U,g1,s1 _ _ hl,(by rw[Yk];change 1+_<=_;lia),fun l2 hl2=>?_⟩
 have s2:=af hl2 (.lst ([.int (nd:Int)]++named.map V.int))
 have g2:(upd H1 l2 (.lst ([.int (nd:Int)]++named.map V.int))) l2=some (.lst (((nd:Int)::named).map V.int)):=ae
 generalize upd H1 l2 (.lst ([.int (nd:Int)]++named.map V.int))=H2 at s2 g2 ⊢
 have s12:=aa s1 s2
 show⟨p,l2,B,I,N,vn,(nd:Int)::named,U,s12 _ _ hp,s12 _ _ pt.hN,g2,(fun x hx=>?_),?_⟩
 . rcases fM hx with rfl|hx
   . show⟨by lia,by lia⟩
   . have:=hn x hx
     show⟨this.1,by lia⟩
 show kR _ _ ?_
 show aE fun Rk kR=>?_
 show⟨_,U,?_⟩
 show aP (s12 _ _ hp) U ?_
 show⟨_,U,p,B,I,N,vb,bs,U,s12 _ _ hp,s12 _ _ pt.hB,(Paired.aZ pt.pb fun u u z=>Tp.keep (ah.tk s12) z),b4,fun sm se H3 s3 ek bt=>⟨aeu,fun q2 j4=>?_⟩⟩
 have s4:=af j4 (.tup [.ref N,sm])
 have g4:(upd H3 q2 (.tup [.ref N,sm])) q2=some (.tup [.ref N,sm]):=ae
 generalize upd H3 q2 (.tup [.ref N,sm])=H4 at s4 g4 ⊢
 show jL g4 ?_
 show kR _ _ ?_
 show aG [some (.ref p),some (.int (nd:Int)),some (.ref l),some (.ref N),some sm,none,none,none,none,none,none] U ?_
 show aE fun Rk kR=>?_
 have s14:=aa s12 (aa s3 s4)
 show⟨_,U,N,_,U,.inl (aF.of (s14 _ _ pt.hN)),aes,fun T hT=>?_⟩
 have sT:=af hT (.lst [])
 have gT:(upd H4 T (.lst [])) T=some (.lst []):=ae
 have nT:=ag s14 hT
 generalize upd H4 T (.lst [])=H5 at sT gT ⊢
 show⟨aeu,fun q3 U3=>?_⟩
 have s6:=af U3 (.tup [.int (vn.length:Int),.ref T])
 have g6:(upd H5 q3 (.tup [.int (vn.length:Int),.ref T])) q3=some (.tup [.int (vn.length:Int),.ref T]):=ae
 generalize upd H5 q3 (.tup [.int (vn.length:Int),.ref T])=H6 at s6 g6 ⊢
 show jL g6 ?_
 show kR _ _ ?_
 show aG [some (.ref p),some (.int (nd:Int)),some (.ref l),some (.ref N),some sm,some (.int (nds.length:Int)),some (.ref T),none,none,none,none] (by rw[← pW];rfl) ?_
 show aE fun Rk kR=>?_
 have s06:=aa s14 (aa sT s6)
 have Tr:=EK.keep (ah.tk (aa s4 (aa sT s6))) ek
 have ID:=s6 _ _ gT
 obtain⟨xa,OF⟩ : ∃xa,vn[nd]?=some xa:=⟨vn[nd]'(by lia),Yn (by lia)⟩
 obtain⟨a',Uq,Rz⟩:=Paired.get pt.pn OF
 cases gY.symm.trans Uq
 show⟨_,U,_,U,_,U,?_⟩
 show eA (s06 _ _ pt.hN) (aV OF) ?_
 show⟨aet,fun l3 wA=>?_⟩
 have s7:=af wA (.lst [xa])
 have g7:(upd H6 l3 (.lst [xa])) l3=some (.lst [xa]):=ae
 generalize upd H6 l3 (.lst [xa])=H7 at s7 g7 ⊢
 show⟨N,l3,_,_,U,U,s7 _ _ (s06 _ _ pt.hN),g7,(by change _+1<=_;lia),fun l4 Cm=>?_⟩
 have s8:=af Cm (.lst (vn++[xa]))
 have g8:(upd H7 l4 (.lst (vn++[xa]))) l4=some (.lst (vn++[xa])):=ae
 generalize upd H7 l4 (.lst (vn++[xa]))=H8 at s8 g8 ⊢
 have Hk:=aa s7 s8
 have R0:=aa s06 Hk
 have Mw:Paired (aI H8) (vn++[xa]) (nds++[a]):=Paired.aZ (Paired.snoc pt.pn Rz) fun u u z=>aI.keep (ah.tk R0) z
 have Ts:=EK.keep (ah.tk Hk) Tr
 have Nv:=Hk _ _ ID
 have Wc:=Paired.length Mw
 have VA:l4≠T:=(ao (s7 _ _ ID) Cm).symm
 show⟨l4,U,⟨_,aF.of g8⟩,?_⟩
 show jX (xs:=vn++[xa]) (fun j σ Hx=>(∃o7 o8 o9 o10,σ=[some (.ref p),some (.int (nd:Int)),some (.ref l),some (.ref N),some sm,some (.int (nds.length:Int)),some (.ref T),o7,o8,o9,o10])/\(ah H Hx/\∀b o,b≠T->H8 b=some o->Hx b=some o)/\∃us,Hx T=some (.lst us)/\us.length=j/\Paired (aI Hx) us ((spS nds nd a named).take j)) ⟨⟨_,_,_,_,U⟩,⟨R0,fun u u u z=>z⟩,[],Nv,U,by rw[Zn];show .nil⟩ (fun j σ Hx u z=>aF.of (z.2.1.2 _ _ VA g8)) (fun j x0 pp σ Hx hx z fB=>?_) (fun σ Hx z=>?_)
 . obtain⟨⟨o7,o8,o9,o10,rfl⟩,⟨sx,k8⟩,us,gT,ul,pu⟩:=z
   have Ah:j<(vn++[xa]).length:=(aQ hx)
   rw[Ym]at Ah
   have Ah:j<vn.length+1:=Ah
   obtain⟨e,he,ne⟩:=Paired.get Mw hx
   have Hr:TK H8 Hx:=fun b xs z=>k8 b _ (dO z Nv (fun z=>nomatch z)) z
   have sp:=af fB (.tup [.int (j:Nat),x0])
   have gp:(upd Hx pp (.tup [.int (j:Nat),x0])) pp=some (.tup [.int (j:Nat),x0]):=ae
   generalize upd Hx pp (.tup [.int (j:Nat),x0])=Ha at sp gp ⊢
   show jL gp ?_
   show aG [some (.ref p),some (.int (nd:Int)),some (.ref l),some (.ref N),some sm,some (.int (nds.length:Int)),some (.ref T),some (.int (j:Nat)),some x0,o9,o10] U ?_
   show aE fun Rk kR=>?_
   show⟨_,U,x0,e,U,aI.keep (Hr.trans (ah.tk sp)) ne,fun ll Hb sb gl=>?_⟩
   show au (kR _ _ ?_)
   show aG [some (.ref p),some (.int (nd:Int)),some (.ref l),some (.ref N),some sm,some (.int (nds.length:Int)),some (.ref T),some (.int (j:Nat)),some x0,some (.ref ll),o10] U ?_
   show aE fun Rk kR=>?_
   have Sf:=aa sp sb
   have sb8:=aa sx Sf
   have og:(spS nds nd a named)[j]?=some (MJ (nds.length:Int) (nd:Int) named (q5 nds.length nd j) e):=by
     unfold spS
     rw[aam,he]
     rfl
   have fin:∀(l':Addr) (ls:List Int) (Hc:Hp),ah Hb Hc->Hc l'=some (.lst (ls.map V.int))->ls.length=e.aH.length->ls=(if q5 nds.length nd j∈named then e.aH.map (nQ (nds.length:Int) (nd:Int))else e.aH)->Rk [some (.ref p),some (.int (nd:Int)),some (.ref l),some (.ref N),some sm,some (.int (nds.length:Int)),some (.ref T),some (.int (j:Nat)),some x0,some (.ref l'),o10] Hc:=fun l' ls Hc sc Uc VF Tz=>by
     have sac:=aa Sf sc
     show kR _ _ ?_
     show⟨_,U,.inl ⟨U,_,aF.of (sac _ _ gT)⟩,_,U,_,U,x0,l',e,ls,U,aI.keep (Hr.trans (ah.tk sac)) ne,Uc,VF,fun v' Hd sd nv=>?_⟩
     have MD:=aa sac sd
     have IE:=MD _ _ gT
     have y7:TK Hd (upd Hd T (.lst (us++[v']))):=TW.TK.lst IE
     show⟨T,_,_,U,U,IE,aD (by lia),⟨_,_,_,_,U⟩,⟨aA (aa sx MD) nT,fun b o nb z=>by rw[ar nb];show MD _ _ (k8 b o nb z)⟩,us++[v'],ae,by rw[Ym,ul];rfl,?_⟩
     rw[Yv,og]
     show Paired.snoc (Paired.aZ pu fun u u z=>aI.keep ((ah.tk MD).trans y7) z) (aI.keep y7 ?_)
     change aI Hd v' (e.led _)
     rw[← Tz]
     show nv
   show⟨_,U,_,U,U,_,U,?_⟩
   by_cases hj:j=nds.length
   . have HX:q5 nds.length nd j=(nd:Int):=bj hj
     show JB (cH (by rw[hj])) ?_
     show⟨_,U,_,U,l,_,U,.inl (aF.of (sb8 _ _ hl)),U,fz named,_,U,?_⟩
     change if zp (.int (nd:Int)) (named.map V.int)=true then _ else _
     rw[eU]
     show aN (fun c=>?_) (fun c=>?_)
     . have c:=cZ c
       show⟨_,U,ll,U,⟨_,aF.of gl⟩,fun C hC=>?_⟩
       show aT (xs:=e.aH.map V.int) (fun(x:Nat) Hz=>ah Hb Hz/\Hz C=some (.lst (((e.aH.map (nQ (nds.length:Int) (nd:Int))).take x).map V.int))) ⟨af hC _,ae⟩ (fun x Hz u z=>aF.of (z.1 _ _ gl)) (fun x y0 Hz hy z=>?_) (fun Hz z=>?_)
       . obtain⟨sz,gC⟩:=z
         obtain⟨y,Jr,rfl⟩:=ba hy
         have OG:x<e.aH.length:=(aQ Jr)
         have l2:e.aH.length<=2:=sE e
         have Jq:x<(e.aH.map V.int).length:=by rw[Yk];show OG
         have hg:(e.aH.map (nQ (nds.length:Int) (nd:Int)))[x]?=some (nQ (nds.length:Int) (nd:Int) y):=by rw[YD,Jr];rfl
         have bd:(((e.aH.map (nQ (nds.length:Int) (nd:Int))).take x).map V.int).length<=900:=by rw[Yk,Yu,Yk];lia
         show au ?_
         show bF (A:=fun H5=>cf _ C _ H5 _) ?_
         show⟨_,U,_,U,U,_,U,?_⟩
         show aN (fun c1=>?_) (fun c1=>?_)
         . have c1:y=(nd:Int):=by
             have:=cZ c1
             injection this
           show⟨_,U,_,gC,aD (by lia),aB (Pv:=fun(x:Nat) Hz=>ah Hb Hz/\Hz C=some (.lst (((e.aH.map (nQ (nds.length:Int) (nd:Int))).take x).map V.int))) (by repeat' constructor) Jq ⟨aA sz hC,?_⟩⟩
           rw[ae,Yv,hg,Yt]
           change _=some (L2.HO.lst (_++[V.int (if y=(nd:Int)then(nds.length:Int)else y)]))
           rw[bj c1]
         . have c1:¬ y=(nd:Int):=fun z=>c1 (cH (congrArg V.int z))
           show⟨_,U,_,gC,aD (by lia),aB (Pv:=fun(x:Nat) Hz=>ah Hb Hz/\Hz C=some (.lst (((e.aH.map (nQ (nds.length:Int) (nd:Int))).take x).map V.int))) (by repeat' constructor) Jq ⟨aA sz hC,?_⟩⟩
           rw[ae,Yv,hg,Yt]
           change _=some (L2.HO.lst (_++[V.int (if y=(nd:Int)then(nds.length:Int)else y)]))
           rw[bg c1]
       . obtain⟨sz,gC⟩:=z
         rw[YI (by rw[Yk,Yk];lia)]at gC
         show au ?_
         show fin C (e.aH.map (nQ (nds.length:Int) (nd:Int))) Hz sz gC (Yk _) (by rw[HX,bj c])
     . have c:¬ (nd:Int)∈named:=fun z=>c (cH z)
       show fin ll e.aH Hb (same_refl _) gl rfl (by rw[HX,bg c])
   . have HX:q5 nds.length nd j=(j:Int):=bg hj
     show aK (f6 (fun z=>hj (by injection z with z;lia))) ?_
     show⟨_,U,_,U,l,_,U,.inl (aF.of (sb8 _ _ hl)),U,fz named,_,U,?_⟩
     change if zp (.int (j:Int)) (named.map V.int)=true then _ else _
     rw[eU]
     show aN (fun c=>?_) (fun c=>?_)
     . have c:=cZ c
       show⟨_,U,ll,U,⟨_,aF.of gl⟩,fun C hC=>?_⟩
       show aT (xs:=e.aH.map V.int) (fun(x:Nat) Hz=>ah Hb Hz/\Hz C=some (.lst (((e.aH.map (nQ (nds.length:Int) (nd:Int))).take x).map V.int))) ⟨af hC _,ae⟩ (fun x Hz u z=>aF.of (z.1 _ _ gl)) (fun x y0 Hz hy z=>?_) (fun Hz z=>?_)
       . obtain⟨sz,gC⟩:=z
         obtain⟨y,Jr,rfl⟩:=ba hy
         have OG:x<e.aH.length:=(aQ Jr)
         have l2:e.aH.length<=2:=sE e
         have Jq:x<(e.aH.map V.int).length:=by rw[Yk];show OG
         have hg:(e.aH.map (nQ (nds.length:Int) (nd:Int)))[x]?=some (nQ (nds.length:Int) (nd:Int) y):=by rw[YD,Jr];rfl
         have bd:(((e.aH.map (nQ (nds.length:Int) (nd:Int))).take x).map V.int).length<=900:=by rw[Yk,Yu,Yk];lia
         show au ?_
         show bF (A:=fun H5=>cf _ C _ H5 _) ?_
         show⟨_,U,_,U,U,_,U,?_⟩
         show aN (fun c1=>?_) (fun c1=>?_)
         . have c1:y=(nd:Int):=by
             have:=cZ c1
             injection this
           show⟨_,U,_,gC,aD (by lia),aB (Pv:=fun(x:Nat) Hz=>ah Hb Hz/\Hz C=some (.lst (((e.aH.map (nQ (nds.length:Int) (nd:Int))).take x).map V.int))) (by repeat' constructor) Jq ⟨aA sz hC,?_⟩⟩
           rw[ae,Yv,hg,Yt]
           change _=some (L2.HO.lst (_++[V.int (if y=(nd:Int)then(nds.length:Int)else y)]))
           rw[bj c1]
         . have c1:¬ y=(nd:Int):=fun z=>c1 (cH (congrArg V.int z))
           show⟨_,U,_,gC,aD (by lia),aB (Pv:=fun(x:Nat) Hz=>ah Hb Hz/\Hz C=some (.lst (((e.aH.map (nQ (nds.length:Int) (nd:Int))).take x).map V.int))) (by repeat' constructor) Jq ⟨aA sz hC,?_⟩⟩
           rw[ae,Yv,hg,Yt]
           change _=some (L2.HO.lst (_++[V.int (if y=(nd:Int)then(nds.length:Int)else y)]))
           rw[bg c1]
       . obtain⟨sz,gC⟩:=z
         rw[YI (by rw[Yk,Yk];lia)]at gC
         show au ?_
         show fin C (e.aH.map (nQ (nds.length:Int) (nd:Int))) Hz sz gC (Yk _) (by rw[HX,bj c])
     . have c:¬ (j:Int)∈named:=fun z=>c (cH z)
       show fin ll e.aH Hb (same_refl _) gl rfl (by rw[HX,bg c])
 . obtain⟨⟨o7,o8,o9,o10,rfl⟩,⟨sx,k8⟩,us,gT,ul,pu⟩:=z
   have WG:(spS nds nd a named).length=nds.length+1:=by
     unfold spS
     rw[Z6,Ym]
     rfl
   rw[YI (by rw[WG,Wc,Ym];show Yo _)]at pu
   have Hr:TK H8 Hx:=fun b xs z=>k8 b _ (dO z Nv (fun z=>nomatch z)) z
   have Tw:=EK.keep Hr Ts
   show kR _ _ ?_
   show aE fun Rk kR=>?_
   show⟨_,U,(nds.length:Int),U,by lia,by lia,fun R hR=>?_⟩
   show cb (lo:=0) (n:=(nds.length:Int).toNat) (fun(x:Nat) Hz=>ah Hx Hz/\∃ps,Hz R=some (.lst ps)/\ps.length=x/\Paired (fun v e=>dq tO Hz v sm e) ps ((nds.mapIdx fun j e=>((j:Int),(j:Int),e.hd)).take x)) ⟨af hR _,[],ae,U,by rw[Zn];show .nil⟩ (fun x Hz hx z=>?_) (fun Hz z=>?_)
   . obtain⟨sz,ps,gR,pl,pp⟩:=z
     have r8:x<nds.length:=by lia
     obtain⟨xv,Rg⟩ : ∃xv,vn[x]?=some xv:=⟨vn[x]'(by lia),Yn (by lia)⟩
     obtain⟨e,he,ne⟩:=Paired.get pt.pn Rg
     have F6:=aa sx sz
     show au ?_
     show bF (A:=fun H5=>cf _ R _ H5 _) ?_
     show⟨_,U,_,U,_,U,_,U,p,B,I,N,vn,e,x,(x:Int),sm,xv,(by rw[ZE];rfl),F6 _ _ hp,F6 _ _ pt.hN,Rg,aI.keep (ah.tk F6) ne,fun v Hd sd lv=>?_⟩
     have DO:=sd _ _ gR
     have pV:TK Hd (upd Hd R (.lst (ps++[v]))):=TW.TK.lst DO
     show⟨_,DO,aD (by lia),aB (Pv:=fun(x:Nat) Hz=>ah Hx Hz/\∃ps,Hz R=some (.lst ps)/\ps.length=x/\Paired (fun v e=>dq tO Hz v sm e) ps ((nds.mapIdx fun j e=>((j:Int),(j:Int),e.hd)).take x)) (by repeat' constructor) hx ⟨aA (aa sz sd) hR,ps++[v],ae,by rw[Ym,pl];rfl,?_⟩⟩
     rw[Yv,aam,he]
     show Paired.snoc (Paired.aZ pp fun u u z=>dq.keep ((ah.tk sd).trans pV) z) (dq.keep pV lv)
   obtain⟨sz,ps,gR,pl,pp⟩:=z
   rw[Y6]at pl pp
   rw[YI (by rw[Z6];show Yo _)]at pp
   show au (kR _ _ ?_)
   show aG [some (.ref p),some (.int (nd:Int)),some (.ref l),some (.ref N),some sm,some (.int (nds.length:Int)),some (.ref T),o7,o8,o9,some (.ref R)] U ?_
   show aE fun Rk kR=>?_
   have F6:=aa sx sz
   have nR:=ag sx hR
   show⟨_,U,.inl ⟨U,_,aF.of gR⟩,_,U,_,U,_,U,_,U,p,B,I,N,vn,a,nd,(nds.length:Int),sm,xa,U,F6 _ _ hp,F6 _ _ pt.hN,OF,aI.keep (ah.tk F6) Rz,fun v Hd sd lv=>?_⟩
   have DO:=sd _ _ gR
   have pV:TK Hd (upd Hd R (.lst (ps++[v]))):=TW.TK.lst DO
   show⟨R,_,_,U,U,DO,aD (by lia),?_⟩
   have sxe:=aA (o:=.lst (ps++[v])) (aa sz sd) hR
   have LS:(upd Hd R (.lst (ps++[v]))) R=some (.lst (ps++[v])):=ae
   generalize upd Hd R (.lst (ps++[v]))=He at pV sxe LS ⊢
   have Wh:Paired (fun v e=>dq tO He v sm e) (ps++[v]) (Sk nds nd a):=Paired.snoc (Paired.aZ pp fun u u z=>dq.keep ((ah.tk sd).trans pV) z) (dq.keep pV lv)
   have F5:=aa sx sxe
   show kR _ _ ?_
   show⟨_,U,_,U,p,T,B,I,N,vb,_,U,F5 _ _ hp,F5 _ _ pt.hB,F5 _ _ pt.hI,fun p' B' I' Hf sf g1 g2 g3 n1 n2 n3=>?_⟩
   have T9:=sf _ _ (sxe _ _ gT)
   have LU:=sf _ _ LS
   show⟨_,U,aeu,fun q0 Ed=>?_⟩
   have s9:=af Ed (.tup [.ref p',.ref R])
   have K5:=aa sf s9
   have Hs:=(ah.tk K5)
   have TR:T≠R:=ao gT hR
   show q q0 p' R B' I' T us sm se (ps++[v]) _ ae ⟨aa F5 K5,s9 _ _ g1,⟨s9 _ _ g2,s9 _ _ g3,s9 _ _ T9,Paired.aZ pt.pb fun u u z=>Tp.keep (ah.tk (aa F5 K5)) z,Paired.aZ pu fun u u z=>aI.keep (ah.tk (aa sxe K5)) z⟩,s9 _ _ LU,EK.keep (ah.tk (aa sxe K5)) Tw,bt,Paired.aZ Wh fun u u z=>dq.keep Hs z,ag F5 n1,ag F5 n2,nT,nR,n3,(ao (sxe _ _ gT) n1).symm,(ao (sxe _ _ gT) n2).symm,ao LS n1,ao LS n2,TR.symm⟩
def qK (m h k i:Int)(l:Int):Int:=if l=h then(i+1)%k*m+l else i*m+l
def Kg (m h k:Int)(i:Nat)(e:Np):Np:=e.led (e.aH.map (qK m h k i))
def qL (m h k:Int)(nds:List Np):Nat->List Np
 | 0=>[]
 | i+1=>qL m h k nds i++nds.map (Kg m h k i)
theorem fF (m h k:Int)(nds:List Np):∀i,(qL m h k nds i).length=i*nds.length
 | 0=>by simp[qL]
 | i+1=>by
   change(qL m h k nds i++nds.map (Kg m h k i)).length=_
   rw[Ym,fF m h k nds i,Yk,ZO]
def OP (m:Int)(i:Nat)(j:Nat)(e:Np):Int×Int×Str:=((j:Int),(i:Int)*m+(j:Int),e.hd)
def Mm (m:Int)(nds:List Np):Nat->List (Int×Int×Str)
 | 0=>[]
 | i+1=>Mm m nds i++nds.mapIdx (OP m i)
structure HR (K:Yl)(tO:Addr)(H H':Hp)(p' P' B' I' N':Addr)(vb vn':List V)(bs:aj)(ins:List Str)(nds':List Np)(sm:V)(se:E)(ps:List V)(lv:List (Int×Int×Str)):Prop where
 s:ah H H'
 hp:H' p'=some (.tup [.ref B',.ref I',.ref N'])
 pt:zD H' B' I' N' vb vn' bs ins nds'
 hP:H' P'=some (.lst ps)
 ek:EK K H' sm se
 bt:Bt se (.yes::(bs.map (·.1)).map jm)
 pp:Paired (fun v e=>dq tO H' v sm e) ps lv
 nB:H B'=none
 nI:H I'=none
 nN:H N'=none
 nP:H P'=none
 BI:B'≠I'
 BN:B'≠N'
 IN:I'≠N'
 PB:P'≠B'
 PI:P'≠I'
 PN:P'≠N'
def yQ (K:Yl)(tO:Addr):Sp:=fun vs H Q z=>∃(p B I N:Addr) (vb vn:List V) (bs:aj) (ins:List Str) (nds:List Np) (h:Int) (k:Nat),vs=[.ref p,.int h,.int (k:Int)]/\H p=some (.tup [.ref B,.ref I,.ref N])/\zD H B I N vb vn bs ins nds/\bs.length<=4/\nds.length<=100/\0<=h/\h<(nds.length:Int)/\1<=k/\k<=8 /\
 ∀(q p' P' B' I' N':Addr) (vn':List V) (sm:V) (se:E) (ps:List V) (H':Hp),H' q=some (.tup [.ref p',.ref P'])->HR K tO H H' p' P' B' I' N' vb vn' bs ins (qL (nds.length:Int) h (k:Int) nds k) sm se ps (Mm (nds.length:Int) nds k)->Q (.ref q) H'
def dG:aC ["program","head","times","many","same","told","paper","turn","own","behind","place","node","leads"] ["program","head","times"] (aq yq):=df
def AU {tO:Addr}{f:Addr}{fd:Yx}(F:b9 K "told_over" "told_over" yq f fd)(m_len:mg "len"=none)(m_range:mg "range"=none)(m_enumerate:mg "enumerate"=none)(RN0:aS P w K mg base "refuse_no_nodes" ["program","numbers"] 1 mr)(AS:aS P w K mg base "all_same" ["program"] 10 (i5 K))(LE0:aS P w K mg base "leads_of" ["node"] 1 du)(LD0:aS P w K mg base "led_anew" ["node","leads"] 1 gu)(LV0:aS P w K mg base "level_entry" ["program","place","new_place","condition"] 1 (gv tO))(WN0:aS P w K mg base "with_nodes" ["program","nodes"] 1 eG):aO P w K mg base bU 11 f fd ["program","head","times"] (yQ K tO):=by
 show F.c0 dG fun cdv A outer s H vs Q E hr h=>?_
 have MW:=RN0.mono (show 1<=10 by left)
 have LE:=LE0.mono (show 1<=10 by left)
 have LD:=LD0.mono (show 1<=10 by left)
 have LV:=LV0.mono (show 1<=10 by left)
 have WN:=WN0.mono (show 1<=10 by left)
 obtain⟨p,B,I,N,vb,vn,bs,ins,nds,h0,k,rfl,hp,pt,b4,OV,UC,Xn,k1,k8,q⟩:=h
 have pW:=Paired.length pt.pn
 show dN ⟨_,(acj (acN (acm MW hr U (L (Y 0) (L (acB (L (Y 1) M)) M))))
   (acj (acJ (acx (L (acA acG U m_len Yy (L (ack acp (Y 0) aci) M)) (L (acm AS hr U (L (Y 0) M)) (L (acB M) (L (acB M) M))))) (acF 4 (acs (aco 3 dG.nd) (acs (aco 4 dG.nd) (acs (aco 5 dG.nd) (acs (aco 6 dG.nd) acE))))))
   (acj (acM (acU U m_range (L (Y 2) M)) (aco 7 dG.nd) (acj (acJ (acx (L (acv acT (Y 7) (Y 3)) (L (acv acT (acv ac6 (acv acL (Y 7) aci) (Y 2)) (Y 3)) M))) (acF 2 (acs (aco 8 dG.nd) (acs (aco 9 dG.nd) acE))))
   (acn (acM (adh U m_enumerate (L (ack acp (Y 0) aci) M)) (acF 2 (acs (aco 10 dG.nd) (acs (aco 11 dG.nd) acE))) (acj (ac1 (i:=12) [none,some 1,some 9,some 8] ["lead","head","behind","own"] (fP yq) U (acI (acm LE hr U (L (Y 11) M))) (fun y y y y y=>⟨(aco 0 (dE ["lead","head","behind","own"])),acH,(ac0 (acr acC (Y 0) (Y 1)) (acv acL (Y 2) (Y 0)) (acv acL (Y 3) (Y 0)))⟩) dG.nd)
   (acj (acN (adi (Y 5) (L (acm LD hr U (L (Y 11) (L (Y 12) M))) M)))
   (acn (acN (adi (Y 6) (L (acm LV hr U (L (Y 0) (L (Y 10) (L (acv acL (Y 8) (Y 10)) (L (Y 4) M))))) M))))))))))
   (acn (acq (acx (L (acm WN hr U (L (Y 0) (L (Y 5) M))) (L (Y 6) M)))))))),?_⟩
 show aE fun Rk kR=>?_
 show⟨_,U,_,U,aet,fun l1 hl1=>?_⟩
 obtain⟨H1,s1,g1,zz⟩:=gh hl1 (.lst [.int h0])
 rw[zz];clear zz
 show⟨p,l1,B,I,N,vn,[h0],U,s1 _ _ hp,s1 _ _ pt.hN,g1,(fun x hx=>by rw[dC hx];show⟨UC,by lia⟩),?_⟩
 show kR _ _ (aE fun Rk kR=>?_)
 show⟨_,U,?_⟩
 show aP (s1 _ _ hp) U ?_
 show⟨N,_,U,.inl (aF.of (s1 _ _ pt.hN)),_,U,p,B,I,N,vb,bs,U,s1 _ _ hp,s1 _ _ pt.hB,Paired.aZ pt.pb fun y y z=>Tp.keep (ah.tk s1) z,b4,fun sm se H2 s2 ek bt=>?_⟩
 show⟨aes,fun T hT=>?_⟩
 obtain⟨H3,sT,gT,zz⟩:=gh hT (.lst [])
 rw[zz];clear zz
 show⟨aes,fun R hR=>?_⟩
 obtain⟨H4,sR,gR,zz⟩:=gh hR (.lst [])
 rw[zz];clear zz
 have TR:T≠R:=ao gT hR
 have s12:=aa s1 s2
 have nT:=ag s12 hT
 have nR:=ag (aa s12 sT) hR
 show⟨aew,fun q4 U4=>?_⟩
 have s4:=af U4 (.tup [.int (vn.length:Int),sm,.ref T,.ref R])
 have g4:(upd H4 q4 (.tup [.int (vn.length:Int),sm,.ref T,.ref R])) q4=some (.tup [.int (vn.length:Int),sm,.ref T,.ref R]):=ae
 generalize upd H4 q4 (.tup [.int (vn.length:Int),sm,.ref T,.ref R])=H5 at s4 g4 ⊢
 show⟨q4,_,U,bM.of g4,U,_,_,U,_,_,U,_,_,U,_,_,U,U,?_⟩
 show kR _ _ ?_
 show aG [some (.ref p),some (.int h0),some (.int (k:Int)),some (.int (nds.length:Int)),some (sm),some (.ref T),some (.ref R),none,none,none,none,none,none] (by rw[← pW];rfl) ?_
 have F4:=aa (aa (aa s12 sT) sR) s4
 have BA:=aa (aa sT sR) s4
 have Tq:=EK.keep (ah.tk BA) ek
 have T8:=s4 _ _ (sR _ _ gT)
 have T6:=s4 _ _ gR
 show aE fun Rk kR=>?_
 show⟨_,U,(k:Int),U,by lia,by lia,?_⟩
 show fA (lo:=0) (n:=(k:Int).toNat) (fun i σ Hx=>(∃o7 o8 o9 o10 lj jD,σ=[some (.ref p),some (.int h0),some (.int (k:Int)),some (.int (nds.length:Int)),some (sm),some (.ref T),some (.ref R),o7,o8,o9,o10,lj,jD])/\ah H Hx/\EK K Hx sm se/\∃us ps,Hx T=some (.lst us)/\Paired (aI Hx) us (qL (nds.length:Int) h0 (k:Int) nds i)/\Hx R=some (.lst ps)/\ps.length=us.length/\Paired (fun v e=>dq tO Hx v sm e) ps (Mm (nds.length:Int) nds i)) ⟨⟨_,_,_,_,_,_,U⟩,F4,Tq,[],[],T8,.nil,T6,U,.nil⟩ (fun i σ Hx hi z=>?_) (fun σ Hx z=>?_)
 . obtain⟨⟨o7,o8,o9,o10,lj,jD,rfl⟩,sx,zR,us,ps,gT,pu,gR,pl,xW⟩:=z
   have hi:i<k:=by lia
   show au ?_
   show aG [some (.ref p),some (.int h0),some (.int (k:Int)),some (.int (nds.length:Int)),some (sm),some (.ref T),some (.ref R),some (.int (0+(i:Int))),o8,o9,o10,lj,jD] U ?_
   have w0:=ki (k:=0+(i:Int)+1) (n:=(k:Int)) (by lia)
   have w1:=kh (k:=0+(i:Int)+1) (n:=(k:Int)) (by lia)
   show aE fun Rj kj=>?_
   show⟨_,U,_,U,_,_,U,U,.inl ⟨by lia,by lia⟩,_,U,_,_,U,U,_,U,_,_,U,U,(by lia),_,U,_,_,U,U,.inl ⟨by have:=w0;have:=w1;lia,by have:=w0;have:=w1;lia⟩,aeu,fun q2 j4=>?_⟩
   have s2:=af j4 (.tup [.int ((0+(i:Int))*(nds.length:Int)),.int ((0+(i:Int)+1)%(k:Int)*(nds.length:Int))])
   have g2:(upd Hx q2 (.tup [.int ((0+(i:Int))*(nds.length:Int)),.int ((0+(i:Int)+1)%(k:Int)*(nds.length:Int))])) q2=some (.tup [.int ((0+(i:Int))*(nds.length:Int)),.int ((0+(i:Int)+1)%(k:Int)*(nds.length:Int))]):=ae
   show jL g2 ?_
   show kj _ (upd Hx q2 (.tup [.int ((0+(i:Int))*(nds.length:Int)),.int ((0+(i:Int)+1)%(k:Int)*(nds.length:Int))])) ?_
   generalize upd Hx q2 (.tup [.int ((0+(i:Int))*(nds.length:Int)),.int ((0+(i:Int)+1)%(k:Int)*(nds.length:Int))])=Hg at s2 g2 ⊢
   replace pu:Paired (aI Hg) us _:=Paired.aZ pu fun y y z=>aI.keep (ah.tk s2) z
   replace xW:Paired (fun v e=>dq tO Hg v sm e) ps _:=Paired.aZ xW fun y y z=>dq.keep (ah.tk s2) z
   replace sx:=aa sx s2
   replace zR:=EK.keep (ah.tk s2) zR
   replace gT:=s2 _ _ gT
   replace gR:=s2 _ _ gR
   show aG [some (.ref p),some (.int h0),some (.int (k:Int)),some (.int (nds.length:Int)),some (sm),some (.ref T),some (.ref R),some (.int (0+(i:Int))),some (.int ((0+(i:Int))*(nds.length:Int))),some (.int ((0+(i:Int)+1)%(k:Int)*(nds.length:Int))),o10,lj,jD] U ?_
   show⟨_,U,?_⟩
   show aP (sx _ _ hp) U ?_
   show⟨N,U,⟨_,aF.of (sx _ _ pt.hN)⟩,?_⟩
   show jX (xs:=vn) (fun j σ Hx=>(∃o10 lj jD,σ=[some (.ref p),some (.int h0),some (.int (k:Int)),some (.int (nds.length:Int)),some (sm),some (.ref T),some (.ref R),some (.int (0+(i:Int))),some (.int ((0+(i:Int))*(nds.length:Int))),some (.int ((0+(i:Int)+1)%(k:Int)*(nds.length:Int))),o10,lj,jD])/\ah H Hx/\EK K Hx sm se/\∃us ps,Hx T=some (.lst us)/\Paired (aI Hx) us (qL (nds.length:Int) h0 (k:Int) nds i++(nds.take j).map (Kg (nds.length:Int) h0 (k:Int) i))/\Hx R=some (.lst ps)/\ps.length=us.length/\Paired (fun v e=>dq tO Hx v sm e) ps (Mm (nds.length:Int) nds i++(nds.take j).mapIdx (OP (nds.length:Int) i))) ⟨⟨_,_,_,U⟩,sx,zR,us,ps,gT,by rw[Zn,abo,YO];show pu,gR,pl,by rw[Zn,List.mapIdx_nil,YO];show xW⟩ (fun j σ Hx y z=>aF.of (z.2.1 _ _ pt.hN)) (fun j x0 pp σ Hx hx z fB=>?_) (fun σ Hx z=>?_)
   . obtain⟨⟨o10,lj,jD,rfl⟩,sx,zR,us,ps,gT,pu,gR,pl,xW⟩:=z
     have ul:=Paired.length pu
     rw[Ym,fF,Yk,Yu]at ul
     have Ah:j<vn.length:=(aQ hx)
     have Yd:us.length<=900:=by
       have:i*nds.length<=8*100:=abU (by lia) OV
       lia
     obtain⟨e0,DX,na⟩:=Paired.get pt.pn hx
     have sp:=af fB (.tup [.int (j:Nat),x0])
     have gp:(upd Hx pp (.tup [.int (j:Nat),x0])) pp=some (.tup [.int (j:Nat),x0]):=ae
     generalize upd Hx pp (.tup [.int (j:Nat),x0])=Ha at sp gp ⊢
     show jL gp ?_
     show aG [some (.ref p),some (.int h0),some (.int (k:Int)),some (.int (nds.length:Int)),some (sm),some (.ref T),some (.ref R),some (.int (0+(i:Int))),some (.int ((0+(i:Int))*(nds.length:Int))),some (.int ((0+(i:Int)+1)%(k:Int)*(nds.length:Int))),some (.int (j:Nat)),some (x0),jD] U ?_
     show aE fun Rj kj=>?_
     show⟨_,U,x0,e0,U,aI.keep (ah.tk (aa sx sp)) na,fun l Hb sb gl=>?_⟩
     have sxb:=aa sx (aa sp sb)
     have K9:=aa sp sb
     have LW:=K9 _ _ gT
     have T7:=K9 _ _ gR
     have Wj:Paired (aI Hb) us _:=Paired.aZ pu fun y y z=>aI.keep (ah.tk K9) z
     show⟨l,U,⟨_,aF.of gl⟩,fun D hD=>?_⟩
     show aT (xs:=e0.aH.map V.int) (fun(jj:Nat) Hx=>ah Hb Hx/\Hx D=some (.lst (((e0.aH.take jj).map (qK (nds.length:Int) h0 (k:Int) i)).map V.int))) ⟨af hD _,ae⟩ (fun jj Hx y z=>aF.of (z.1 _ _ gl)) (fun jj y0 Hx hy z=>?_) (fun Hx z=>?_)
     . obtain⟨sc,gD⟩:=z
       have QV:=(aQ hy)
       obtain⟨ld,Jg,rfl⟩:=ba hy
       have l2:=e0.qt
       show au ?_
       show bF (A:=fun H5=>cf _ D _ H5 _) ?_
       show⟨_,U,_,U,U,_,U,?_⟩
       show aN (fun c=>?_) (fun c=>?_)
       . show⟨_,U,_,U,_,_,U,U,?_⟩
         show⟨_,gD,aD (by rw[Yk,Yk,Yu];lia),aB (Pv:=fun(jj:Nat) Hx=>ah Hb Hx/\Hx D=some (.lst (((e0.aH.take jj).map (qK (nds.length:Int) h0 (k:Int) i)).map V.int))) (by repeat' constructor) QV ⟨aA sc hD,?_⟩⟩
         rw[ae,Yv,Jg,Yt,Yt]
         congr 3
         change[V.int _]=[V.int (qK _ _ _ _ _)]
         unfold qK
         rw[bj (wM c),ZE]
       . show⟨_,U,_,U,_,_,U,U,?_⟩
         show⟨_,gD,aD (by rw[Yk,Yk,Yu];lia),aB (Pv:=fun(jj:Nat) Hx=>ah Hb Hx/\Hx D=some (.lst (((e0.aH.take jj).map (qK (nds.length:Int) h0 (k:Int) i)).map V.int))) (by repeat' constructor) QV ⟨aA sc hD,?_⟩⟩
         rw[ae,Yv,Jg,Yt,Yt]
         congr 3
         change[V.int _]=[V.int (qK _ _ _ _ _)]
         unfold qK
         rw[bg (fun z=>c (cH (congrArg V.int z))),ZE]
     obtain⟨sc,gD⟩:=z
     rw[Yk,YR]at gD
     show au ?_
     show kj _ _ ?_
     show aG [some (.ref p),some (.int h0),some (.int (k:Int)),some (.int (nds.length:Int)),some (sm),some (.ref T),some (.ref R),some (.int (0+(i:Int))),some (.int ((0+(i:Int))*(nds.length:Int))),some (.int ((0+(i:Int)+1)%(k:Int)*(nds.length:Int))),some (.int (j:Nat)),some (x0),some (.ref D)] U ?_
     have QF:=sc _ _ LW
     have LR:=sc _ _ T7
     have Gq:=aa sxb sc
     show aE fun Rj kj=>?_
     show⟨_,U,.inl ⟨U,_,aF.of QF⟩,_,U,_,U,x0,D,e0,_,U,aI.keep (ah.tk Gq) na,gD,by rw[Yk],fun v' Hd sd nv=>?_⟩
     have IE:=sd _ _ QF
     have DO:=sd _ _ LR
     show⟨T,_,_,U,U,IE,aD (by lia),?_⟩
     have y7:TK Hd (upd Hd T (.lst (us++[v']))):=TW.TK.lst IE
     have ID:(upd Hd T (.lst (us++[v']))) T=some (.lst (us++[v'])):=ae
     have Nu:(upd Hd T (.lst (us++[v']))) R=some (.lst ps):=by rw[ar TR.symm];show DO
     have s6:ah H (upd Hd T (.lst (us++[v']))):=aA (aa Gq sd) nT
     have RX:Paired (aI (upd Hd T (.lst (us++[v'])))) (us++[v']) (qL (nds.length:Int) h0 (k:Int) nds i++(nds.take (j+1)).map (Kg (nds.length:Int) h0 (k:Int) i)):=by
       rw[Yv,DX,Yt,← Zl]
       show(Paired.aZ Wj fun y y z=>aI.keep ((ah.tk (aa sc sd)).trans y7) z).snoc (aI.keep y7 nv)
     show kj _ (upd Hd T (.lst (us++[v']))) ?_
     generalize upd Hd T (.lst (us++[v']))=He at ID Nu s6 RX y7 ⊢
     show⟨_,U,.inl ⟨U,_,aF.of Nu⟩,_,U,_,U,_,U,_,U,_,_,U,U,_,U,p,B,I,N,vn,e0,j,_,sm,x0,U,s6 _ _ hp,s6 _ _ pt.hN,hx,aI.keep (ah.tk s6) na,fun w Hf sf lw=>?_⟩
     have LU:=sf _ _ Nu
     show⟨R,_,_,U,U,LU,aD (by lia),?_⟩
     have pV:TK Hf (upd Hf R (.lst (ps++[w]))):=TW.TK.lst LU
     show⟨⟨_,_,_,U⟩,aA (aa s6 sf) nR,EK.keep ((ah.tk (aa K9 (aa sc sd))).trans (y7.trans ((ah.tk sf).trans pV))) zR,us++[v'],ps++[w],by rw[ar TR];show sf _ _ ID,Paired.aZ RX fun y y z=>aI.keep ((ah.tk sf).trans pV) z,ae,by rw[Ym,Ym,pl];rfl,?_⟩
     rw[Yv,DX]
     change Paired _ _ (_++List.mapIdx _ (nds.take j++[e0]))
     rw[List.mapIdx_concat,← Zl]
     have jl:(nds.take j).length=j:=by rw[Yu];lia
     show Paired.snoc (Paired.aZ xW fun y y z=>dq.keep ((ah.tk (aa K9 (aa sc sd))).trans (y7.trans ((ah.tk sf).trans pV))) z) ?_
     have Rw:dq tO (upd Hf R (.lst (ps++[w]))) w sm ((j:Int),(0+(i:Int))*(nds.length:Int)+(j:Int),e0.hd):=dq.keep pV lw
     rw[ZE]at Rw
     change dq tO _ w sm (OP _ _ (nds.take j).length e0)
     rw[jl]
     show Rw
   . obtain⟨⟨o10,lj,jD,rfl⟩,sx,zR,us,ps,gT,pu,gR,pl,xW⟩:=z
     rw[pW,YR]at pu xW
     show⟨⟨_,_,_,_,_,_,U⟩,sx,zR,us,ps,gT,pu,gR,pl,xW⟩
 obtain⟨⟨o7,o8,o9,o10,lj,jD,rfl⟩,sx,zR,us,ps,gT,pu,gR,pl,xW⟩:=z
 rw[Y6]at pu xW
 show kR _ _ ?_
 show⟨_,U,_,U,p,T,B,I,N,vb,_,U,sx _ _ hp,sx _ _ pt.hB,sx _ _ pt.hI,fun p' B' I' H' s' g1 g2 g3 n1 n2 n3=>?_⟩
 show⟨_,U,aeu,fun q0 Ed=>?_⟩
 have s9:=af Ed (.tup [.ref p',.ref R])
 have yA:=aa (aa sx s') s9
 have nn:∀l xs,Hx l=some (.lst xs)->l≠B'/\l≠I':=fun l xs e=>⟨ao e n1,ao e n2⟩
 show q q0 p' R B' I' T us sm se ps _ ae ⟨yA,s9 _ _ g1,⟨s9 _ _ g2,s9 _ _ g3,s9 _ _ (s' _ _ gT),Paired.aZ pt.pb fun y y z=>Tp.keep (ah.tk yA) z,Paired.aZ pu fun y y z=>aI.keep (ah.tk (aa s' s9)) z⟩,s9 _ _ (s' _ _ gR),EK.keep (ah.tk (aa s' s9)) zR,bt,Paired.aZ xW fun y y z=>dq.keep (ah.tk (aa s' s9)) z,ag sx n1,ag sx n2,nT,nR,n3,(nn _ _ gT).1.symm,(nn _ _ gT).2.symm,(nn _ _ gR).1,(nn _ _ gR).2,TR.symm⟩
def Np.idle:Np->Option Int
 | .put x e n=>if e.j7 x=true then some n else none
 | .test _ n o=>if n=o then some n else none
 | _=>none
def m5 (nds:List Np)(p:Nat):Option Nat:=(nds[p]?.bind Np.idle).map Zh
def gA (nds:List Np):Nat->Nat->Option Nat
 | 0,p=>some p
 | k+1,p=>(gA nds k p).bind (m5 nds)
def ye (nds:List Np)(p:Nat):Bool:=(YL nds.length).any fun k=>decide (gA nds (k+1) p=some p)
def eQ (nds:List Np)(p:Nat):Bool:=(m5 nds p).isNone || ye nds p
inductive Way (nds:List Np):Nat->Nat->Nat->Prop
 | here {p:Nat}:eQ nds p=true->Way nds p p 0
 | on {p q r m:Nat}:eQ nds p=false->m5 nds p=some q->Way nds q r m->Way nds p r (m+1)
def kQ (nds:List Np):Prop:=∀e∈nds,∀l∈e.aH,0<=l/\l<(nds.length:Int)
def uE {e:Np}{n:Int}(h:e.idle=some n):n∈e.aH:=by
 cases e with
 | put x s m=>
   have h:(if s.j7 x=true then some m else none)=some n:=h
   split at h
   . cases h;show List.mem_singleton.mpr rfl
   . cases h
 | test c m o=>
   have h:(if m=o then some m else none)=some n:=h
   split at h
   . cases h;show bu (.inl rfl)
   . cases h
 | say s m=>cases h
 | pick x m=>cases h
 | fin=>cases h
def sL {nds:List Np}{p q:Nat}(h:m5 nds p=some q):∃e n,nds[p]?=some e/\e.idle=some n/\q=n.toNat:=by
 unfold m5 at h
 obtain⟨n,h1,h2⟩:=Option.map_eq_some_iff.mp h
 obtain⟨e,h3,h4⟩:=Option.bind_eq_some_iff.mp h1
 show⟨e,n,h3,h4,h2.symm⟩
def JV {nds:List Np}{p:Nat}{e:Np}(h:nds[p]?=some e):m5 nds p=e.idle.map Zh:=by
 unfold m5
 rw[h]
 rfl
def mS {nds:List Np}(ok:kQ nds){p:Nat}{e:Np}(h:nds[p]?=some e){n:Int}(hn:e.idle=some n):0<=n/\n<(nds.length:Int):=ok e (Yq h) n (uE hn)
def sJ {nds:List Np}(ok:kQ nds){p q:Nat}(h:m5 nds p=some q):q<nds.length:=by
 obtain⟨e,n,h1,h2,rfl⟩:=sL h
 have:=mS ok h1 h2
 lia
theorem mT (nds:List Np)(a:Nat)(p:Nat):∀b:Nat,gA nds (a+b) p=(gA nds a p).bind (gA nds b)
 | 0=>by
   change gA nds a p=_
   cases gA nds a p<;>rfl
 | b+1=>by
   change(gA nds (a+b) p).bind (m5 nds)=_
   rw[mT nds a p b]
   cases gA nds a p<;>rfl
def yg {nds:List Np}{p k:Nat}(k1:1<=k)(k2:k<=nds.length)(h:gA nds k p=some p):ye nds p=true:=by
 unfold ye
 show List.any_eq_true.mpr ⟨k-1,List.mem_range.mpr (by lia),cH ?_⟩
 rw[Nat.sub_add_cancel k1]
 show h
def BW {nds:List Np}{p:Nat}(h:ye nds p=true):eQ nds p=true:=by unfold eQ;rw[h,Bool.or_true]
def Gp {nds:List Np}{p:Nat}(h:eQ nds p=false):∃q,m5 nds p=some q:=by
 unfold eQ at h
 cases hq:m5 nds p with
 | none=>rw[hq]at h;cases h
 | some q=>show⟨q,rfl⟩
def sI {nds:List Np}{p:Nat}(h:∀k,k<=nds.length->∃q,gA nds k p=some q/\q<nds.length/\eQ nds q=false):False:=by
 let f:Nat->Nat:=fun i=>(gA nds i p).getD 0
 have fl:∀i,i<=nds.length->f i<nds.length:=fun i hi=>by
   obtain⟨q,h1,h2,_⟩:=h i hi
   change(gA nds i p).getD 0<_
   rw[h1]
   show h2
 have nd:((YL (nds.length+1)).map f).Nodup:=by
   show List.pairwise_iff_getElem.mpr fun i j hi hj hij e=>?_
   rw[Yk,YW]at hi hj
   rw[aaQ,aaQ,List.getElem_range,List.getElem_range]at e
   obtain⟨q,h1,h2,h3⟩:=h i (by lia)
   obtain⟨q',L4,_,_⟩:=h j (by lia)
   have e:(gA nds i p).getD 0=(gA nds j p).getD 0:=e
   rw[h1,L4]at e
   have e:q=q':=e
   subst e
   have a:=mT nds i p (j-i)
   rw[show i+(j-i)=j by lia,h1,L4]at a
   have r:=yg (nds:=nds) (p:=q) (k:=j-i) (by lia) (by lia) a.symm
   rw[BW r]at h3
   cases h3
 have sub:∀x∈(YL (nds.length+1)).map f,x∈YL nds.length:=fun x hx=>by
   obtain⟨i,hi,rfl⟩:=cX hx
   show List.mem_range.mpr (fl i (by have:=List.mem_range.mp hi;lia))
 have:=sub_len nd sub
 rw[Yk,YW,YW]at this
 lia
def Way.aM {nds:List Np}(ok:kQ nds){p r m:Nat}(w:Way nds p r m)(hp:p<nds.length):r<nds.length/\eQ nds r=true/\∀k,k<m->∃q,gA nds k p=some q/\q<nds.length/\eQ nds q=false:=by
 induction w with
 | here h=>show⟨hp,h,fun k hk=>az hk (Zz _)⟩
 | @on p q r m h1 h2 w ih=>
   obtain⟨a,b,c⟩:=ih (sJ ok h2)
   show⟨a,b,fun k hk=>?_⟩
   cases k with
   | zero=>show⟨p,rfl,hp,h1⟩
   | succ k=>
     have z:=mT nds 1 p k
     rw[aag]at z
     have e1:gA nds 1 p=some q:=h2
     rw[e1]at z
     rw[z]
     show c k (by lia)
def Way.jv {nds:List Np}(ok:kQ nds){p r m:Nat}(w:Way nds p r m)(hp:p<nds.length):m<=nds.length:=by
 show Nat.le_of_not_lt fun z=>?_
 show sI (p:=p) fun k hk=>(w.aM ok hp).2.2 k (by lia)
def GA {nds:List Np}(ok:kQ nds){p:Nat}(hp:p<nds.length):∃r m,Way nds p r m:=by
 show Classical.byContradiction fun no=>?_
 have key:∀k,∃q,gA nds k p=some q/\q<nds.length/\∀r m,Way nds q r m->∃r' m',Way nds p r' m':=fun k=>by
   induction k with
   | zero=>show⟨p,rfl,hp,fun r m w=>⟨r,m,w⟩⟩
   | succ k ih=>
     obtain⟨q,h1,h2,h3⟩:=ih
     have hs:eQ nds q=false:=by
       cases z:eQ nds q with
       | false=>rfl
       | true=>show az (h3 q 0 (.here z)) no
     obtain⟨q',hq⟩:=Gp hs
     show⟨q',?_,sJ ok hq,fun r m w=>h3 r (m+1) (.on hs hq w)⟩
     change(gA nds k p).bind (m5 nds)=_
     rw[h1]
     show hq
 show sI (nds:=nds) (p:=p) fun k y=>?_
 obtain⟨q,h1,h2,h3⟩:=key k
 show⟨q,h1,h2,?_⟩
 cases z:eQ nds q with
 | false=>rfl
 | true=>show az (h3 q 0 (.here z)) no
def vq (nds:List Np):Nat->Nat->Nat×Nat
 | 0,p=>(p,0)
 | f+1,p=>if eQ nds p=true then(p,0)else((vq nds f ((m5 nds p).getD p)).1,(vq nds f ((m5 nds p).getD p)).2+1)
def bB (nds:List Np)(p:Nat):Nat×Nat:=vq nds nds.length p
def Way.fn {nds:List Np}{p r m:Nat}(w:Way nds p r m):∀f,m<=f->vq nds f p=(r,m):=by
 induction w with
 | here h=>
   intro f _
   cases f with
   | zero=>rfl
   | succ f=>unfold vq;rw[bj h]
 | on h1 h2 w ih=>
   intro f hf
   cases f with
   | zero=>lia
   | succ f=>
     unfold vq
     rw[bg (by rw[h1];decide),h2]
     rw[Option.getD_some,ih f (by lia)]
def gy {nds:List Np}(ok:kQ nds){p:Nat}(hp:p<nds.length):Way nds p (bB nds p).1 (bB nds p).2/\(bB nds p).1<nds.length/\(bB nds p).2<=nds.length/\eQ nds (bB nds p).1=true:=by
 obtain⟨r,m,w⟩:=GA ok hp
 have e:=w.fn nds.length (w.jv ok hp)
 have i:=w.aM ok hp
 unfold bB
 rw[e]
 show⟨w,i.1,w.jv ok hp,i.2.1⟩
def ze {nds:List Np}{p:Nat}(h:eQ nds p=true):bB nds p=(p,0):=(Way.here h).fn _ (YY _)
def bQ (nds:List Np):List Nat:=(bB nds 0).1::(YL nds.length).filter fun p=>eQ nds p&&decide (p≠(bB nds 0).1)
def fN (nds:List Np)(p:Nat):Nat:=(bQ nds).idxOf p
def eX (nds:List Np)(e:Np):List Int:=e.aH.map fun l=>((fN nds (bB nds l.toNat).1:Nat):Int)
def cn (nds:List Np):List Np:=(bQ nds).map fun p=>(nds.getD p .fin).led (eX nds (nds.getD p .fin))
def j9 (nds:List Np):(bQ nds).Nodup:=by
 unfold bQ
 show List.nodup_cons.mpr ⟨fun z=>?_,List.Pairwise.filter _ List.nodup_range⟩
 have:=(List.mem_filter.mp z).2
 simp at this
def hJ {nds:List Np}{p:Nat}(hp:p<nds.length)(h:eQ nds p=true):p∈bQ nds:=by
 unfold bQ
 by_cases e:p=(bB nds 0).1
 . show bu (.inl e)
 . show bu (.inr (List.mem_filter.mpr ⟨List.mem_range.mpr hp,by rw[h];show cH e⟩))
def mU {nds:List Np}(ok:kQ nds)(h0:0<nds.length){p:Nat}(h:p∈bQ nds):p<nds.length/\eQ nds p=true:=by
 unfold bQ at h
 rcases fM h with e|z
 . have w:=gy ok h0
   rw[e]
   show⟨w.2.1,w.2.2.2⟩
 . have z:=List.mem_filter.mp z
   show⟨List.mem_range.mp z.1,(Zp _ _▸z.2).1⟩
def oD {nds:List Np}(ok:kQ nds)(h0:0<nds.length):(bQ nds).length<=nds.length:=by
 have:=sub_len (j9 nds) (fun x hx=>List.mem_range.mpr (mU ok h0 hx).1)
 rw[YW]at this
 show this
def qI {nds:List Np}{p:Nat}(h:p∈bQ nds):(bQ nds)[fN nds p]?=some p:=by
 unfold fN
 have hl:=abA h
 rw[Yn hl,List.getElem_idxOf hl]
abbrev KR:Stmt:=top 50
abbrev KQ:Stmt:=top 51
abbrev KS:Stmt:=top 52
def sk (i:Int):decide (V.int i=V.bJ)=false:=f6 fun z=>nomatch z
def J9:Option Int->V
 | some n=>.int n
 | none=>.bJ
def optN:Option Nat->V
 | some n=>.int (n:Int)
 | none=>.bJ
def jE {nds:List Np}(ok:kQ nds){p:Nat}{e:Np}(h:nds[p]?=some e):J9 e.idle=optN (m5 nds p):=by
 rw[JV h]
 cases hi:e.idle with
 | none=>rfl
 | some n=>
   have:=mS ok h hi
   change V.int n=V.int ((n.toNat:Nat):Int)
   rw[YA this.1]
def pq:Sp:=fun vs H Q z=>∃(v:V) (e:Np),vs=[v]/\aI H v e/\∀H',ah H H'->Q (J9 e.idle) H'
def K1:aC ["node"] ["node"] (aq KR):=df
def EY {f:Addr}{fd:Yx}(F:b9 K "idle_next" "idle_next" KR f fd)  : aO P w K mg base bU 1 f fd ["node"] pq:=by
 show F.c0 K1 fun cdv A outer s H vs Q E hr h=>?_
 obtain⟨v,e,rfl,na,q⟩:=h
 show dN ⟨_,(acj (acy (acK (ac2 (acr acC (ack acp (Y 0) aci) acu) (ac3 (acr (L3.Cw (bR hr _ (by left))) (ack acp (Y 0) aci) (acx (L acu (L (ack acp (Y 0) aci) M))))))) (acn (acq (ack acp (Y 0) aci))) acz)
   (acj (acy (acK (ac2 (acr acC (ack acp (Y 0) aci) acu) (ac3 (acr acC (ack acp (Y 0) aci) (ack acp (Y 0) aci))))) (acn (acq (ack acp (Y 0) aci))) acz)
   (acn (acq acR)))),?_⟩
 show aE fun Rk kR=>?_
 cases e with
 | fin=>
   obtain⟨x,rfl,hx⟩:=na
   show⟨_,U,?_⟩
   show aP hx U ?_
   show⟨U,_,U,aK (by left) (aK (by left) (kR _ _ ?_))⟩
   show aE fun Rk kR=>?_
   show⟨_,U,?_⟩
   show aP hx U ?_
   show⟨U,_,U,aK (by left) (aK (by left) (kR _ _ ?_))⟩
   show q _ (same_refl _)
 | say s n=>
   obtain⟨u,⟨x,rfl,hx⟩,eu⟩:=na
   show⟨_,U,?_⟩
   show aP hx U ?_
   show⟨U,_,U,aK (by left) (aK (by left) (kR _ _ ?_))⟩
   show aE fun Rk kR=>?_
   show⟨_,U,?_⟩
   show aP hx U ?_
   show⟨U,_,U,aK (by left) (aK (by left) (kR _ _ ?_))⟩
   show q _ (same_refl _)
 | pick s n=>
   obtain⟨x,rfl,hx⟩:=na
   show⟨_,U,?_⟩
   show aP hx U ?_
   show⟨U,_,U,aK (by left) (aK (by left) (kR _ _ ?_))⟩
   show aE fun Rk kR=>?_
   show⟨_,U,?_⟩
   show aP hx U ?_
   show⟨U,_,U,aK (by left) (aK (by left) (kR _ _ ?_))⟩
   show q _ (same_refl _)
 | test c n o=>
   obtain⟨u,⟨x,rfl,hx⟩,eu⟩:=na
   show⟨_,U,?_⟩
   show aP hx U ?_
   show⟨U,_,U,aK (by left) (aK (by left) (kR _ _ ?_))⟩
   show aE fun Rk kR=>?_
   show⟨_,U,?_⟩
   show aP hx U ?_
   show⟨U,_,U,bD (by left) ?_⟩
   show⟨_,U,?_⟩
   show aP hx U ?_
   show⟨_,U,?_⟩
   show aP hx U ?_
   show⟨U,_,U,?_⟩
   by_cases z:n=o
   . show bD (cH (congrArg V.int z)) ?_
     show⟨_,U,?_⟩
     show aP hx U ?_
     have q:=q _ (same_refl _)
     have e:(Np.test c n o).idle=some n:=bj z
     rw[e]at q
     show q
   . show aK (f6 (fun y=>z (by injection y))) (kR _ _ ?_)
     have q:=q _ (same_refl _)
     have e:(Np.test c n o).idle=none:=bg z
     rw[e]at q
     show q
 | put y s n=>
   obtain⟨u,⟨x,rfl,hx⟩,eu⟩:=na
   show⟨_,U,?_⟩
   show aP hx U ?_
   show⟨U,_,U,bD (by left) ?_⟩
   show⟨_,U,?_⟩
   show aP hx U ?_
   show⟨_,U,?_⟩
   show aP hx U ?_
   show⟨aeu,fun t0 j6=>?_⟩
   have s0:=af j6 (.tup [.str "box",.str y])
   have g0:(upd H t0 (.tup [.str "box",.str y])) t0=some (.tup [.str "box",.str y]):=ae
   generalize upd H t0 (.tup [.str "box",.str y])=H0 at s0 g0 ⊢
   show mH (eu.keep (ah.tk s0)) g0 ⟨_,U,?_⟩
   have hx:=s0 _ _ hx
   cases hb:s.j7 y with
   | true=>
     show k6 ?_
     show⟨_,U,?_⟩
     show aP hx U ?_
     have q:=q _ s0
     have e:(Np.put y s n).idle=some n:=bj hb
     rw[e]at q
     show q
   | false=>
     show fL (kR _ _ ?_)
     show⟨_,U,?_⟩
     show aP hx U ?_
     show⟨U,_,U,aK (by left) (aK (by left) ?_)⟩
     have q:=q _ s0
     have e:(Np.put y s n).idle=none:=bg (by rw[hb];decide)
     rw[e]at q
     show q
def tG:aC ["nodes","place","at","step"] ["nodes","place"] (aq KQ):=df
def yf {nds:List Np}{p:Nat}(h:∀k,k<nds.length->gA nds (k+1) p≠some p):ye nds p=false:=by
 cases z:ye nds p with
 | false=>rfl
 | true=>
   unfold ye at z
   obtain⟨k,hk,e⟩:=List.any_eq_true.mp z
   show az (cZ e) (h k (List.mem_range.mp hk))
def Ao {nds:List Np}{p k j:Nat}(h:gA nds k p=none)(hj:k<=j):gA nds j p=none:=by
 have z:=mT nds k p (j-k)
 rw[show k+(j-k)=j by lia,h]at z
 show z
def JA {nds:List Np}(ok:kQ nds){p q:Nat}(hp:p<nds.length):∀{k:Nat},gA nds k p=some q->q<nds.length
 | 0,h=>by cases h;show hp
 | k+1,h=>by
   have h:(gA nds k p).bind (m5 nds)=some q:=h
   obtain⟨r,h1,h2⟩:=Option.bind_eq_some_iff.mp h
   show sJ ok h2
def CU:Sp:=fun vs H Q z=>∃(l:Addr) (vn:List V) (nds:List Np) (p:Nat),vs=[.ref l,.int (p:Int)]/\H l=some (.lst vn)/\Paired (aI H) vn nds/\kQ nds/\p<nds.length/\∀H',ah H H'->Q (.bl (ye nds p)) H'
def EU {f:Addr}{fd:Yx}(F:b9 K "goes_round" "goes_round" KQ f fd)(IN:aS P w K mg base "idle_next" ["node"] 1 pq):aO P w K mg base bU 2 f fd ["nodes","place"] CU:=by
 show F.c0 tG fun cdv A outer s H vs Q E hr h=>?_
 obtain⟨l,vn,nds,p,rfl,hl,pn,ok,hp,q⟩:=h
 have vl:=Paired.length pn
 obtain⟨x0,e0,G4,Ci,VL⟩:=cQ pn hp
 show dN ⟨_,(acj (acw 2 tG.nd (acm IN hr U (L (ack acD (Y 0) (Y 1)) M)))
   (acj (acM (acI (Y 0)) (aco 3 tG.nd) (acj (acy (acK (acV (acr ac5 (Y 2) acR) (acZ (acr acC (Y 2) (Y 1))))) (acn (acq (acQ acC (Y 2) (Y 1)))) acz)
   (acn (acw 2 tG.nd (acm IN hr U (L (ack acD (Y 0) (Y 2)) M))))))
   (acn (acq acS)))),?_⟩
 show aE fun Rk kR=>?_
 show⟨_,U,_,U,?_⟩
 show eA hl (aV G4) ?_
 show⟨x0,e0,U,VL,fun H1 s1=>?_⟩
 rw[jE ok Ci]
 show au (kR _ _ ?_)
 show aG [some (.ref l),some (.int (p:Int)),some (optN (gA nds 1 p)),none] U ?_
 show aE fun Rk kR=>?_
 show⟨_,U,l,U,⟨_,aF.of (s1 _ _ hl)⟩,?_⟩
 show dA (xs:=vn) (fun(i:Nat) (σ:List (Option V)) (Hx:Hp)=>(∃o3,σ=[some (.ref l),some (.int (p:Int)),some (optN (gA nds (i+1) p)),o3])/\ah H Hx/\∀k,k<i->gA nds (k+1) p≠some p) ⟨⟨_,U⟩,s1,fun k hk=>az hk (Zz _)⟩ (fun i σ Hx y z=>aF.of (z.2.1 _ _ hl)) (fun i y0 σ Hx hy z=>?_) (fun σ Hx z=>?_)
 . obtain⟨⟨o3,rfl⟩,sx,no⟩:=z
   have cL:i<vn.length:=(aQ hy)
   show au ?_
   show aE fun kT kR2=>?_
   cases hit:gA nds (i+1) p with
   | none=>
     have rn:ye nds p=false:=yf fun k hk=>by
       by_cases c:k<i
       . show no k c
       . rw[Ao hit (show i+1<=k+1 by lia)]
         show fun z=>nomatch z
     show⟨_,U,U,_,U,bD (by left) (bD (by left) ?_)⟩
     show⟨_,U,_,U,U,?_⟩
     have q:=q _ sx
     rw[rn]at q
     show q
   | some r=>
     have hr:=JA ok hp hit
     show⟨_,U,U,_,U,aK (sk _) ?_⟩
     by_cases c:r=p
     . subst c
       have rn:ye nds r=true:=yg (by lia) (by lia) hit
       show⟨_,U,_,U,U,_,U,bD (cH rfl) ?_⟩
       show⟨_,U,_,U,U,?_⟩
       have q:=q _ sx
       rw[rn]at q
       rw[cH (show optN (some r)=V.int (r:Int)from rfl)]
       show q
     . have ne:decide (V.int (r:Int)=V.int (p:Int))=false:=f6 fun z=>c (by injection z with z;lia)
       show⟨_,U,_,U,U,_,U,aK ne (kR2 _ _ ?_)⟩
       obtain⟨x1,e1,fK,lQ,oJ⟩:=cQ pn hr
       show⟨_,U,_,U,?_⟩
       show eA (sx _ _ hl) (aV fK) ?_
       show⟨x1,e1,U,aI.keep (ah.tk sx) oJ,fun H2 s2=>?_⟩
       rw[jE ok lQ]
       have en:gA nds (i+1+1) p=m5 nds r:=by
         change(gA nds (i+1) p).bind (m5 nds)=_
         rw[hit]
         rfl
       show au ?_
       show⟨⟨_,by rw[en];rfl⟩,aa sx s2,fun k hk=>?_⟩
       by_cases c2:k<i
       . show no k c2
       . rw[show k=i by lia,hit]
         show fun z=>c (by injection z)
 obtain⟨⟨o3,rfl⟩,sx,no⟩:=z
 show kR _ _ ?_
 have q:=q _ sx
 rw[yf fun k hk=>no k (by lia)]at q
 show q
def tH:aC ["nodes","stays","place","many"] ["nodes","stays","place"] (aq KS):=df
def i7 (nds:List Np):List Bool:=(YL nds.length).map (eQ nds)
def rm {nds:List Np}{p:Nat}(hp:p<nds.length):jQ ((i7 nds).map V.bl) (p:Int)=some (.bl (eQ nds p)):=aV (by unfold i7;rw[YD,YD,aav hp];rfl)
def CV:Sp:=fun vs H Q z=>∃(l sl:Addr) (vn:List V) (nds:List Np) (p:Nat),vs=[.ref l,.ref sl,.int (p:Int)]/\H l=some (.lst vn)/\Paired (aI H) vn nds/\kQ nds/\p<nds.length/\H sl=some (.lst ((i7 nds).map V.bl))/\∀(a:Addr) (H':Hp),ah H H'->H' a=some (.tup [.int ((bB nds p).1:Int),.int ((bB nds p).2:Int)])->Q (.ref a) H'
def E1 {f:Addr}{fd:Yx}(F:b9 K "led_on" "led_on" KS f fd)(IN:aS P w K mg base "idle_next" ["node"] 1 pq):aO P w K mg base bU 2 f fd ["nodes","stays","place"] CV:=by
 show F.c0 tH fun cdv A outer s H vs Q E hr h=>?_
 obtain⟨l,sl,vn,nds,p,rfl,hl,pn,ok,hp,hs,q⟩:=h
 have vl:=Paired.length pn
 obtain⟨wy,w1,w2,w3⟩:=gy ok hp
 generalize(bB nds p).1=r at *
 generalize(bB nds p).2=vG at *
 show dN ⟨_,(acj (acw 3 tH.nd aci)
   (acj (L3.rF (L3.nt (acW (ack acD (Y 1) (Y 2)))) (acj (acw 2 tH.nd (acm IN hr U (L (ack acD (Y 0) (Y 2)) M)))
   (acn (L3.aug 3 tH.nd aci))))
   (acn (acq (acx (L (Y 2) (L (Y 3) M))))))),?_⟩
 show aE fun Rk kR=>?_
 show au (kR _ _ ?_)
 show aG [some (.ref l),some (.ref sl),some (.int (p:Int)),some (.int ((0:Nat):Int))] U ?_
 show aE fun Rk kR=>?_
 show⟨fun m σ Hx=>(∃p' c:Nat,σ=[some (.ref l),some (.ref sl),some (.int (p':Int)),some (.int (c:Int))]/\p'<nds.length/\Way nds p' r m/\c+m=vG)/\ah H Hx,⟨vG,⟨p,0,U,hp,wy,Nat.zero_add _⟩,same_refl _⟩,?_⟩
 rintro m σ Hx ⟨⟨p',c,rfl,kM,WZ,ec⟩,sx⟩
 show⟨_,U,_,U,?_⟩
 show eA (sx _ _ hs) (rm kM) ?_
 show⟨_,U,?_⟩
 cases WZ with
 | here hst=>
   rw[hst]
   show aK rfl (kR _ _ ?_)
   show⟨_,U,_,U,aeu,fun a ha=>?_⟩
   have e:c=vG:=by lia
   subst e
   show q a _ (bY sx ha) ae
 | @on _ q1 _ m1 hst hq W0=>
   rw[hst]
   show bD rfl ⟨fun σ' H'=>(∃p' c:Nat,σ'=[some (.ref l),some (.ref sl),some (.int (p':Int)),some (.int (c:Int))]/\p'<nds.length/\Way nds p' r m1/\c+m1=vG)/\ah H H',fun σ' H' z=>⟨m1,Nat.lt_succ_self _,z⟩,?_⟩
   obtain⟨x1,e1,fK,lQ,oJ⟩:=cQ pn kM
   show⟨_,U,_,U,?_⟩
   show eA (sx _ _ hl) (aV fK) ?_
   show⟨x1,e1,U,aI.keep (ah.tk sx) oJ,fun H2 s2=>?_⟩
   rw[jE ok lQ,hq]
   show au ?_
   show aG [some (.ref l),some (.ref sl),some (.int (q1:Int)),some (.int (c:Int))] U ?_
   show⟨_,U,_,_,U,U,?_⟩
   show⟨⟨q1,c+1,U,sJ ok hq,W0,by lia⟩,aa sx s2⟩
abbrev qW:Stmt:=top 53
abbrev Lv:=Int×Int×Str×Nat×V
def GB (h:Str):Str:=if h="end" then("end":Str)else if h="mine" then("mine":Str)else "both"
def vz (_tO:Addr)(H:Hp)(v u:V)(e:Lv):Prop:=Tp H v [.int e.1,.int e.2.1,u,.str (GB e.2.2.1),e.2.2.2.2]
def B0 (e:Np):GB e.hd=(if e.hd="end" then("end":Str)else "both"):=by cases e<;>rfl
def vz.keep {tO:Addr}{H H':Hp}(k:TK H H'){v u:V}{e:Lv}(h:vz tO H v u e):vz tO H' v u e:=Tp.keep k h
def Ew {tO:Addr}{H:Hp}{v u:V}{p q:Int}{e:Np}(h:dq tO H v u (p,q,e.hd)):vz tO H v u (p,q,e.hd,0,.ref tO):=by
 obtain⟨a,ha,hb⟩:=h
 show⟨a,ha,by change _=some (HO.tup [_,_,_,.str (GB e.hd),_]);rw[B0];show hb⟩
structure ToldF (K:Yl)(tO:Addr)(H H':Hp)(p' P' B' I' N':Addr)(vb vn':List V)(bs:aj)(ins:List Str)(nds':List Np)(sm:V)(se:E)(ps:List V)(lv:List Lv):Prop where
 s:ah H H'
 hp:H' p'=some (.tup [.ref B',.ref I',.ref N'])
 pt:zD H' B' I' N' vb vn' bs ins nds'
 hP:H' P'=some (.lst ps)
 ek:EK K H' sm se
 bt:Bt se (.yes::(bs.map (·.1)).map jm)
 pp:Paired (fun v e=>vz tO H' v sm e) ps lv
 nB:H B'=none
 nI:H I'=none
 nN:H N'=none
 nP:H P'=none
 BI:B'≠I'
 BN:B'≠N'
 IN:I'≠N'
 PB:P'≠B'
 PI:P'≠I'
 PN:P'≠N'
structure Dj (nds:List Np)(p:Nat)(e:Lv):Prop where
 h1:e.1=(p:Int)
 h2:e.2.1=(fN nds (bB nds p).1:Int)
 wt:e.2.2.2.1=(bB nds p).2
 hd:e.2.2.1=if eQ nds p=true then(nds.getD p .fin).hd else "mine"
structure mD (K:Yl)(H:Hp)(nds:List Np)(n:Nat)(lv:List Lv):Prop where
 len:lv.length=n
 of:∀(p:Nat) (e:Lv),lv[p]?=some e->Dj nds p e
 wt:∀e∈lv,EK K H e.2.2.2.2 (.num (e.2.2.2.1:Int))
def mD.keep {K:Yl}{H H':Hp}{nds:List Np}{n:Nat}{lv:List Lv}(k:TK H H')(h:mD K H nds n lv):mD K H' nds n lv:=⟨h.len,h.of,fun e he=>EK.keep k (h.wt e he)⟩
def mD.snoc {K:Yl}{H:Hp}{nds:List Np}{n:Nat}{lv:List Lv}{e:Lv}(h:mD K H nds n lv)(o:Dj nds n e)(w:EK K H e.2.2.2.2 (.num (e.2.2.2.1:Int))):mD K H nds (n+1) (lv++[e]):=by
 show⟨by rw[Ym,h.len];rfl,fun p f hp=>?_,fun f hf=>?_⟩
 . by_cases c:p<n
   . rw[YV (by rw[h.len];show c)]at hp
     show h.of p f hp
   . have hl:=(aQ hp)
     rw[Ym,h.len]at hl
     have ep:p=n:=by
       have:p<n+1:=hl
       lia
     subst ep
     rw[Y8 (by rw[h.len];show Yo _),h.len,abq]at hp
     cases hp
     show o
 . rcases jy hf with z|z
   . show h.wt f z
   . rw[dC z]
     show w
def HV (nds:List Np)(H:Hp)(v:V)(p:Nat):Prop:=Tp H v [.int ((bB nds p).1:Int),.int ((bB nds p).2:Int)]
def iO (nds:List Np)(H:Hp)(D:Addr):Prop:=∃kvs:List (Key×V),H D=some (.dK kvs)/\∀p∈bQ nds,aU kvs (.inl (p:Int))=some (.int (fN nds p:Int))
def iO.get {nds:List Np}{H:Hp}{D:Addr}(h:iO nds H D){p:Nat}(hp:p∈bQ nds):cK H D (.int (p:Int)) (some (.int (fN nds p:Int))):=by
 obtain⟨kvs,h1,h2⟩:=h
 have:=cK.k (k:=.inl (p:Int)) h1
 rw[h2 p hp]at this
 show this
def iO.same {nds:List Np}{H H':Hp}{D:Addr}(s:ah H H')(h:iO nds H D):iO nds H' D:=by obtain⟨k,a,b⟩:=h;show⟨k,s _ _ a,b⟩
def yO (K:Yl)(tO:Addr):Sp:=fun vs H Q z=>∃(p B I N:Addr) (vb vn:List V) (bs:aj) (ins:List Str) (nds:List Np),vs=[.ref p]/\H p=some (.tup [.ref B,.ref I,.ref N])/\zD H B I N vb vn bs ins nds/\bs.length<=4/\nds.length<=100/\0<nds.length/\kQ nds /\
 ∀(q p' P' B' I' N':Addr) (vn':List V) (sm:V) (se:E) (ps:List V) (lv:List Lv) (H':Hp),H' q=some (.tup [.ref p',.ref P'])->ToldF K tO H H' p' P' B' I' N' vb vn' bs ins (cn nds) sm se ps lv->mD K H' nds nds.length lv->Q (.ref q) H'
def d8:aC ["program","nodes","same","stays","ways","kept","numbers","told","paper","place","to","many","alone"] ["program"] (aq qW):=df
def ES {tO:Addr}{f:Addr}{fd:Yx}(F:b9 K "fitted_program" "fitted_program" qW f fd)(m_len:mg "len"=none)(m_range:mg "range"=none)(m_enumerate:mg "enumerate"=none)(hO:∀H,bM K H tO [.str "number",.int 0])(AS:aS P w K mg base "all_same" ["program"] 10 (i5 K))(IN0:aS P w K mg base "idle_next" ["node"] 1 pq)(GR0:aS P w K mg base "goes_round" ["nodes","place"] 2 CU)(LO0:aS P w K mg base "led_on" ["nodes","stays","place"] 2 CV)(LN0:aS P w K mg base "led_anew" ["node","leads"] 1 gu)(LE0:aS P w K mg base "leads_of" ["node"] 1 du)(LV0:aS P w K mg base "level_entry" ["program","place","new_place","condition"] 1 (gv tO))(WN0:aS P w K mg base "with_nodes" ["program","nodes"] 1 eG):aO P w K mg base bU 11 f fd ["program"] (yO K tO):=by
 show F.c0 d8 fun cdv A outer s H vs Q E hr h=>?_
 have IN:=IN0.mono (show 1<=10 by lia)
 have GR:=GR0.mono (show 2<=10 by lia)
 have LO:=LO0.mono (show 2<=10 by lia)
 have LN:=LN0.mono (show 1<=10 by lia)
 have LE:=LE0.mono (show 1<=10 by lia)
 have LV:=LV0.mono (show 1<=10 by lia)
 have WN:=WN0.mono (show 1<=10 by lia)
 obtain⟨p,B,I,N,vb,vn,bs,ins,nds,rfl,hp,pt,b4,OV,n0,ok,q⟩:=h
 have pW:=Paired.length pt.pn
 have big:1000<=sizeLine:=by left
 have kn:=oD ok n0
 show dN ⟨_,(acj (acJ (acx (L (ack acp (Y 0) aci) (L (acm AS hr U (L (Y 0) M)) M))) (acF 2 (acs (aco 1 d8.nd) (acs (aco 2 d8.nd) acE))))
   (acj (acw 3 d8.nd (acO [none,none,some 1] ["place","node","nodes"] (fP qW) U (adh U m_enumerate (L (Y 1) M)) (fun x x x x x=>⟨(acF 2 (acs (aco 0 (dE ["place","node","nodes"])) (acs (aco 1 (dE ["place","node","nodes"])) acE))),acH,(L3.Pe (acQ ac5 (acm IN hr U (L (Y 1) M)) acR) (L3.Fd (acm GR hr U (L (Y 2) (L (Y 0) M)))))⟩)))
   (acj (acw 4 d8.nd (acO [none,some 1,some 3] ["place","nodes","stays"] (fP qW) U (acU U m_range (L (acA acG U m_len Yy (L (Y 1) M)) M)) (fun x x x x x=>⟨(aco 0 (dE ["place","nodes","stays"])),acH,(acm LO hr U (L (Y 1) (L (Y 2) (L (Y 0) M))))⟩)))
   (acj (acw 5 d8.nd (acv ac9 (acB (L (ack acp (ack acD (Y 4) aci) aci) M)) (acO [none,some 3,some 4] ["place","stays","ways"] (fP qW) U (acU U m_range (L (acA acG U m_len Yy (L (Y 1) M)) M)) (fun x x x x x=>⟨(aco 0 (dE ["place","stays","ways"])),(adm (acK (ac2 (acW (ack acD (Y 1) (Y 0))) (ac3 (acr ac4 (Y 0) (ack acp (ack acD (Y 2) aci) aci)))))),(Y 0)⟩))))
   (acj (acw 6 d8.nd (L3.Qs [none,none] ["number","place"] (bR hr _ (by left)) (fP qW) U (adh U m_enumerate (L (Y 5) M)) (fun x x x x x=>⟨(acF 2 (acs (aco 0 (dE ["number","place"])) (acs (aco 1 (dE ["number","place"])) acE))),acH,(Y 1),(Y 0)⟩)))
   (acj (ac1 (i:=7) [none,some 1,some 6,some 4] ["place","nodes","numbers","ways"] (fP qW) U (acI (Y 5)) (fun x x x x x=>⟨(aco 0 (dE ["place","nodes","numbers","ways"])),acH,(acm LN hr U (L (ack acD (Y 1) (Y 0)) (L (acO [none,some 2,some 3] ["lead","numbers","ways"] (aW.inner rfl (by right) (by right) (by right)) U (acI (acm LE hr U (L (ack acD (Y 1) (Y 0)) M))) (fun x x x x x=>⟨(aco 0 (dE ["lead","numbers","ways"])),acH,(ada (bR hr _ (by left)) (Y 1) (ack (acp (hK:=L3.vY)) (ack (acD (hK:=L3.vY)) (Y 2) (Y 0)) aci))⟩)) M)))⟩) d8.nd)
   (acj (acw 8 d8.nd (acB M))
   (acj (acM (adh U m_enumerate (L (Y 4) M)) (acF 2 (acs (aco 9 d8.nd) (acs (acF 2 (acs (aco 10 d8.nd) (acs (aco 11 d8.nd) acE))) acE))) (acj (acw 12 d8.nd (acx (L (Y 9) (L (ada (bR hr _ (by left)) (Y 6) (Y 10)) (L (Y 2) (L acu (L (acx (L acu (L (Y 11) M))) M)))))))
   (acn (acN (adi (Y 8) (L (ac0 (acW (ack acD (Y 3) (Y 9))) (acm LV hr U (L (Y 0) (L (Y 9) (L (ada (bR hr _ (by left)) (Y 6) (Y 10)) (L (Y 2) M))))) (Y 12)) M oQ))))))
   (acn (acq (acx (L (acm WN hr U (L (Y 0) (L (Y 7) M))) (L (Y 8) M))))))))))))),?_⟩
 show aE fun Rk kR=>?_
 show⟨_,U,?_⟩
 show aP hp U ?_
 show⟨_,U,p,B,I,N,vb,bs,U,hp,pt.hB,pt.pb,b4,fun sm se H1 s1 ek bt=>?_⟩
 show⟨aeu,fun t0 j6=>?_⟩
 have s2:=af j6 (.tup [.ref N,sm])
 have g2:(upd H1 t0 (.tup [.ref N,sm])) t0=some (.tup [.ref N,sm]):=ae
 generalize upd H1 t0 (.tup [.ref N,sm])=H2 at s2 g2 ⊢
 show jL g2 ?_
 show kR _ _ ?_
 show aG [some (.ref p),some (.ref N),some (sm),none,none,none,none,none,none,none,none,none,none] U ?_
 show aE fun Rk kR=>?_
 have s02:=aa s1 s2
 have L7:=s02 _ _ pt.hN
 have FL:Paired (aI H2) vn nds:=Paired.aZ pt.pn fun x x z=>aI.keep (ah.tk s02) z
 have qg:=EK.keep (ah.tk s2) ek
 show⟨_,U,N,U,⟨_,aF.of L7⟩,fun S hS=>?_⟩
 show fu (xs:=vn) (fun(i:Nat) (Hx:Hp)=>ah H2 Hx/\Hx S=some (.lst (((i7 nds).take i).map V.bl))) ⟨af hS _,by rw[Zn];show ae⟩ (fun i Hx x z=>aF.of (z.1 _ _ L7)) (fun i x0 pp Hx hx z fB=>?_) (fun H3 z=>?_)
 . obtain⟨sx,gS⟩:=z
   have cL:i<vn.length:=(aQ hx)
   obtain⟨e,he,na⟩:=Paired.get FL hx
   have sp:=af fB (.tup [.int (i:Int),x0])
   have gp:(upd Hx pp (.tup [.int (i:Int),x0])) pp=some (.tup [.int (i:Int),x0]):=ae
   generalize upd Hx pp (.tup [.int (i:Int),x0])=Hy at sp gp ⊢
   have Hm:=aa sx sp
   show jL gp ?_
   show bF (A:=fun H5=>cf _ S _ H5 _) ?_
   have fin:∀(b:Bool) (Hz:Hp),ah Hy Hz->b=eQ nds i->Hz S=some (.lst (((i7 nds).take i).map V.bl))/\(fun(i:Nat) (Hx:Hp)=>ah H2 Hx/\Hx S=some (.lst (((i7 nds).take i).map V.bl))) (i+1) (upd Hz S (.lst (((i7 nds).take i).map V.bl++[.bl b]))):=fun b Hz sz eb=>by
     show⟨sz _ _ (sp _ _ gS),aA (aa Hm sz) hS,?_⟩
     have DY:(i7 nds)[i]?=some (eQ nds i):=by unfold i7;rw[YD,aav (by lia)];rfl
     rw[ae,Yv,DY,Yt,eb]
     rfl
   have Sj:(((i7 nds).take i).map V.bl).length<sizeLine:=aD (by rw[Yk,Yu];lia)
   show⟨_,U,x0,e,U,aI.keep (ah.tk Hm) na,fun H3 s3=>?_⟩
   rw[jE ok he]
   cases hn:m5 nds i with
   | none=>
     show⟨U,_,U,bD (by left) ?_⟩
     obtain⟨f1,f2⟩:=fin true _ s3 (by unfold eQ;rw[hn];rfl)
     show⟨_,f1,Sj,aB (Pv:=fun(i:Nat) (Hx:Hp)=>ah H2 Hx/\Hx S=some (.lst (((i7 nds).take i).map V.bl))) (by repeat' constructor) cL f2⟩
   | some r=>
     show⟨U,_,U,aK (sk _) ?_⟩
     have Sl:=aa Hm s3
     show⟨_,U,_,U,N,vn,nds,i,U,Sl _ _ L7,Paired.aZ FL fun x x z=>aI.keep (ah.tk Sl) z,ok,by lia,fun H4 s4=>?_⟩
     obtain⟨f1,f2⟩:=fin (ye nds i) _ (aa s3 s4) (by unfold eQ;rw[hn];rfl)
     show⟨_,f1,Sj,aB (Pv:=fun(i:Nat) (Hx:Hp)=>ah H2 Hx/\Hx S=some (.lst (((i7 nds).take i).map V.bl))) (by repeat' constructor) cL f2⟩
 obtain⟨s3,gS⟩:=z
 rw[pW,YI (by unfold i7;rw[Yk,YW];show Yo _)]at gS
 show au (kR _ _ ?_)
 show aG [some (.ref p),some (.ref N),some (sm),some (.ref S),none,none,none,none,none,none,none,none,none] U ?_
 show aE fun Rk kR=>?_
 have NJ:=s3 _ _ L7
 have RS:Paired (aI H3) vn nds:=Paired.aZ FL fun x x z=>aI.keep (ah.tk s3) z
 have Tn:=EK.keep (ah.tk s3) qg
 show⟨_,U,N,_,U,.inl (aF.of NJ),(vn.length:Int),U,by lia,by lia,fun W hW=>?_⟩
 rw[Y6]
 show cb (lo:=0) (n:=vn.length) (fun i Hx=>ah H3 Hx/\∃us,Hx W=some (.lst us)/\Paired (HV nds Hx) us (YL i)) ⟨af hW _,[],ae,.nil⟩ (fun i Hx hi z=>?_) (fun H4 z=>?_)
 . obtain⟨sx,us,gW,pu⟩:=z
   rw[ZE]
   show au ?_
   show bF (A:=fun H5=>cf _ W _ H5 _) ?_
   show⟨_,U,_,U,_,U,N,S,vn,nds,i,U,sx _ _ NJ,Paired.aZ RS fun x x z=>aI.keep (ah.tk sx) z,ok,by lia,sx _ _ gS,fun a H4 s4 ga=>?_⟩
   have ul:=Paired.length pu
   rw[YW]at ul
   have QG:=s4 _ _ gW
   have Sx:TK H4 (upd H4 W (.lst (us++[.ref a]))):=TW.TK.lst QG
   show⟨_,QG,aD (by lia),aB (Pv:=fun i Hx=>ah H3 Hx/\∃us,Hx W=some (.lst us)/\Paired (HV nds Hx) us (YL i)) (by repeat' constructor) hi ⟨aA (aa sx s4) hW,_,ae,?_⟩⟩
   rw[aaW]
   show Paired.snoc (Paired.aZ pu fun x x z=>Tp.keep ((ah.tk s4).trans Sx) z) ⟨a,U,Sx _ _ ga⟩
 obtain⟨s4,us,gW,pu⟩:=z
 rw[pW]at pu
 have ul:=Paired.length pu
 rw[YW]at ul
 show au (kR _ _ ?_)
 show aG [some (.ref p),some (.ref N),some (sm),some (.ref S),some (.ref W),none,none,none,none,none,none,none,none] U ?_
 show aE fun Rk kR=>?_
 have wy:∀(i:Nat),i<nds.length->∃a,us[i]?=some (.ref a)/\H4 a=some (.tup [.int ((bB nds i).1:Int),.int ((bB nds i).2:Int)]):=fun i hi=>by
   obtain⟨u,hu⟩ : ∃u,us[i]?=some u:=⟨us[i]'(by lia),Yn (by lia)⟩
   obtain⟨j,hj,a,rfl,ga⟩:=Paired.get pu hu
   rw[aav hi]at hj
   cases hj
   show⟨a,hu,ga⟩
 have QE:=s4 _ _ gS
 have NK:=s4 _ _ NJ
 have RT:Paired (aI H4) vn nds:=Paired.aZ RS fun x x z=>aI.keep (ah.tk s4) z
 have To:=EK.keep (ah.tk s4) Tn
 obtain⟨a0,Rc,Nx⟩:=wy 0 n0
 generalize Vo:(bB nds 0).1=z0 at Nx
 show⟨_,U,?_⟩
 show eA gW (aV (j:=0) Rc) ?_
 show aP Nx U ?_
 show⟨aet,fun k0 UI=>?_⟩
 have s5:=af UI (.lst [.int (z0:Int)])
 have g5:(upd H4 k0 (.lst [.int (z0:Int)])) k0=some (.lst [.int (z0:Int)]):=ae
 generalize upd H4 k0 (.lst [.int (z0:Int)])=H5 at s5 g5 ⊢
 show⟨_,U,N,_,U,.inl (aF.of (s5 _ _ NK)),(vn.length:Int),U,by lia,by lia,fun k1 QW=>?_⟩
 rw[Y6]
 show cb (lo:=0) (n:=vn.length) (fun(i:Nat) (Hx:Hp)=>ah H5 Hx/\Hx k1=some (.lst (((YL i).filter (fun q=>eQ nds q&&decide (q≠z0))).map (fun q:Nat=>V.int (q:Int))))) ⟨af QW _,ae⟩ (fun i Hx hi z=>?_) (fun H6 z=>?_)
 . obtain⟨sx,gk⟩:=z
   rw[ZE]
   have s5x:=aa s5 sx
   show au ?_
   show⟨_,U,_,U,?_⟩
   show eA (s5x _ _ QE) (rm (show i<nds.length by lia)) ?_
   show⟨_,U,?_⟩
   cases hs:eQ nds i with
   | false=>
     show fL (fL (aB (Pv:=fun(i:Nat) (Hx:Hp)=>ah H5 Hx/\Hx k1=some (.lst (((YL i).filter (fun q=>eQ nds q&&decide (q≠z0))).map (fun q:Nat=>V.int (q:Int))))) (by repeat' constructor) hi ⟨sx,?_⟩))
     rw[gk,aaW,abh]
     have:[i].filter (fun q=>eQ nds q&&decide (q≠z0))=[]:=by
       rw[aaj,hs]
       rfl
     rw[this,YO]
   | true=>
     show k6 ⟨_,U,_,U,W,_,_,_,U,U,aF.of (s5x _ _ gW),aV (j:=0) Rc,a0,_,_,_,U,U,bM.of (s5x _ _ Nx),U,U,_,U,?_⟩
     by_cases c:i=z0
     . show aK (show(!decide (V.int (i:Int)=V.int (z0:Int)))=false by rw[c,cH rfl];rfl) (aB (Pv:=fun(i:Nat) (Hx:Hp)=>ah H5 Hx/\Hx k1=some (.lst (((YL i).filter (fun q=>eQ nds q&&decide (q≠z0))).map (fun q:Nat=>V.int (q:Int))))) (by repeat' constructor) hi ⟨sx,?_⟩)
       rw[gk,aaW,abh]
       have:[i].filter (fun q=>eQ nds q&&decide (q≠z0))=[]:=by
         rw[aaj,hs,f6 (fun z=>z c)]
         rfl
       rw[this,YO]
     . show bD (show(!decide (V.int (i:Int)=V.int (z0:Int)))=true by rw[f6 (fun z=>c (by injection z with z;lia))];rfl) ?_
       have fl:=aaX (fun q=>eQ nds q&&decide (q≠z0)) (YL i)
       rw[YW]at fl
       show⟨_,U,_,gk,aD (by rw[Yk];lia),aB (Pv:=fun(i:Nat) (Hx:Hp)=>ah H5 Hx/\Hx k1=some (.lst (((YL i).filter (fun q=>eQ nds q&&decide (q≠z0))).map (fun q:Nat=>V.int (q:Int))))) (by repeat' constructor) hi ⟨aA sx QW,?_⟩⟩
       rw[ae,aaW,abh,Yt]
       have:[i].filter (fun q=>eQ nds q&&decide (q≠z0))=[i]:=by
         rw[aaj,hs,cH (show i≠z0 from c)]
         rfl
       rw[this]
       rfl
 obtain⟨s6,gk⟩:=z
 have kl:=aaX (fun q=>eQ nds q&&decide (q≠z0)) (YL vn.length)
 rw[YW]at kl
 show⟨k0,k1,_,_,U,U,s6 _ _ g5,gk,(by rw[Yk];change 1+_<=_;lia),fun C hC=>?_⟩
 have Tv:[V.int (z0:Int)]++((YL vn.length).filter (fun q=>eQ nds q&&decide (q≠z0))).map (fun q:Nat=>V.int (q:Int))=(bQ nds).map (fun q:Nat=>V.int (q:Int)):=by
   unfold bQ
   rw[pW,Vo]
   rfl
 rw[Tv]
 have s7:=af hC (.lst ((bQ nds).map (fun q:Nat=>V.int (q:Int))))
 have g7:(upd H6 C (.lst ((bQ nds).map (fun q:Nat=>V.int (q:Int))))) C=some (.lst ((bQ nds).map (fun q:Nat=>V.int (q:Int)))):=ae
 generalize upd H6 C (.lst ((bQ nds).map (fun q:Nat=>V.int (q:Int))))=H7 at s7 g7 ⊢
 have Wt:=aa s5 (aa s6 s7)
 show au (kR _ _ ?_)
 show aG [some (.ref p),some (.ref N),some (sm),some (.ref S),some (.ref W),some (.ref C),none,none,none,none,none,none,none] U ?_
 show aE fun Rk kR=>?_
 show⟨_,U,C,U,⟨_,aF.of g7⟩,fun D hD=>?_⟩
 show fu (xs:=(bQ nds).map (fun q:Nat=>V.int (q:Int))) (fun(i:Nat) (Hx:Hp)=>ah H7 Hx/\∃kvs:List (Key×V),Hx D=some (.dK kvs)/\kvs.length<=i/\∀(j q:Nat),j<i->(bQ nds)[j]?=some q->aU kvs (.inl (q:Int))=some (.int (j:Int))) ⟨af hD _,[],ae,Yo _,fun j q hj=>az hj (Zz _)⟩ (fun i Hx x z=>aF.of (z.1 _ _ g7)) (fun i x0 pp Hx hx z fB=>?_) (fun H8 z=>?_)
 . obtain⟨sx,kvs,gD,G5,hk⟩:=z
   have cL:=(aQ hx)
   have DZ:=cL
   rw[Yk]at DZ
   obtain⟨r,hr,rfl⟩:=ba hx
   have sp:=af fB (.tup [.int (i:Int),.int (r:Int)])
   have gp:(upd Hx pp (.tup [.int (i:Int),.int (r:Int)])) pp=some (.tup [.int (i:Int),.int (r:Int)]):=ae
   generalize upd Hx pp (.tup [.int (i:Int),.int (r:Int)])=Hy at sp gp ⊢
   show jL gp ?_
   show bF (A:=fun H5=>lh _ _ D _ H5 _) ?_
   have GS:=sp _ _ gD
   have kl:=bO kvs (Sum.inl (r:Int)) (V.int (i:Int))
   show⟨_,U,_,U,_,jM.k (k:=.inl (r:Int)) GS (aD (by lia)),aB (Pv:=fun(i:Nat) (Hx:Hp)=>ah H7 Hx/\∃kvs:List (Key×V),Hx D=some (.dK kvs)/\kvs.length<=i/\∀(j q:Nat),j<i->(bQ nds)[j]?=some q->aU kvs (.inl (q:Int))=some (.int (j:Int))) (by repeat' constructor) cL ⟨aA (aa sx sp) hD,_,ae,by lia,fun j q hj hq=>?_⟩⟩
   rw[bA]
   by_cases c:j=i
   . subst c
     rw[hr]at hq
     cases hq
     rw[bj rfl]
   . rw[bg (fun z=>c ?_)]
     . show hk j q (by lia) hq
     . have z:(q:Int)=(r:Int):=by injection z
       have z:q=r:=by lia
       subst z
       obtain⟨h1,e1⟩:=List.getElem?_eq_some_iff.mp hq
       obtain⟨h2,e2⟩:=List.getElem?_eq_some_iff.mp hr
       have pw:=List.pairwise_iff_getElem.mp (j9 nds)
       have ee:=e1.trans e2.symm
       rcases Nat.lt_trichotomy j i with y|y|y
       . show az ee (pw j i h1 h2 y)
       . show y
       . show az ee.symm (pw i j h2 h1 y)
 obtain⟨s8,kvs,gD,_,hk⟩:=z
 have Cv:iO nds H8 D:=⟨kvs,gD,fun q hq=>hk _ _ (by rw[Yk];show(List.getElem?_eq_some_iff.mp (qI hq)).1) (qI hq)⟩
 show au (kR _ _ ?_)
 show aG [some (.ref p),some (.ref N),some (sm),some (.ref S),some (.ref W),some (.ref C),some (.ref D),none,none,none,none,none,none] U ?_
 show aE fun Rk kR=>?_
 have s48:=aa Wt s8
 have QC:=s8 _ _ g7
 have Ua:=s48 _ _ gW
 have QN:=s48 _ _ NK
 have Mw:Paired (aI H8) vn nds:=Paired.aZ RT fun x x z=>aI.keep (ah.tk s48) z
 show⟨_,U,C,U,⟨_,aF.of QC⟩,fun T hT=>?_⟩
 show aT (xs:=(bQ nds).map (fun q:Nat=>V.int (q:Int))) (fun(i:Nat) (Hx:Hp)=>ah H8 Hx/\∃ts,Hx T=some (.lst ts)/\ts.length=i/\Paired (aI Hx) ts ((cn nds).take i)) ⟨af hT _,[],ae,U,by rw[Zn];show .nil⟩ (fun i Hx x z=>aF.of (z.1 _ _ QC)) (fun i x0 Hx hx z=>?_) (fun H9 z=>?_)
 . obtain⟨sx,ts,gT,tl,pt⟩:=z
   have cL:=(aQ hx)
   have DZ:=cL
   rw[Yk]at DZ
   obtain⟨r,hr,rfl⟩:=ba hx
   have Wo:=(mU ok n0 (Yq hr)).1
   obtain⟨x1,e1,fK,lQ,oJ⟩:=cQ Mw Wo
   show au ?_
   show bF (A:=fun H5=>cf _ T _ H5 _) ?_
   show⟨_,U,_,U,?_⟩
   show eA (sx _ _ QN) (aV fK) ?_
   show⟨_,U,_,U,?_⟩
   show eA (sx _ _ QN) (aV fK) ?_
   show⟨x1,e1,U,aI.keep (ah.tk sx) oJ,fun L8 H9 s9 gL=>?_⟩
   show⟨L8,U,⟨_,aF.of gL⟩,fun M8 hM=>?_⟩
   show aT (xs:=e1.aH.map V.int) (fun(j:Nat) (Hz:Hp)=>ah H9 Hz/\Hz M8=some (.lst (((eX nds e1).take j).map V.int))) ⟨af hM _,by rw[Zn];show ae⟩ (fun j Hz x z=>aF.of (z.1 _ _ gL)) (fun j y0 Hz hy z=>?_) (fun Ha z=>?_)
   . obtain⟨sz,gM⟩:=z
     have Ah:=(aQ hy)
     have N3:=Ah
     rw[Yk]at N3
     have l2:=e1.qt
     obtain⟨ld,Jg,rfl⟩:=ba hy
     have VE:=ok e1 (Yq lQ) ld (Yq Jg)
     have JE:ld.toNat<nds.length:=by lia
     obtain⟨aw,hw,Nz⟩:=wy ld.toNat JE
     have Lw:=gy ok JE
     have sz8:=aa sx (aa s9 sz)
     have oB:jQ us ld=some (.ref aw):=by
       have:=aV hw
       rw[YA VE.1]at this
       show this
     show au ?_
     show bF (A:=fun H5=>cf _ M8 _ H5 _) ?_
     show⟨_,U,_,U,_,U,?_⟩
     show eA (sz8 _ _ Ua) oB ?_
     show aP (sz8 _ _ (s48 _ _ Nz)) U ?_
     show⟨D,_,U,(Cv.same sz8).get (hJ Lw.2.1 Lw.2.2.2),_,gM,aD (by rw[Yk,Yu];lia),aB (Pv:=fun(j:Nat) (Hz:Hp)=>ah H9 Hz/\Hz M8=some (.lst (((eX nds e1).take j).map V.int))) (by repeat' constructor) Ah ⟨aA sz hM,?_⟩⟩
     have UO:(eX nds e1)[j]?=some (fN nds (bB nds ld.toNat).1:Int):=by unfold eX;rw[YD,Jg];rfl
     rw[ae,Yv,UO,Yt]
     rfl
   obtain⟨sz,gM⟩:=z
   have Rt:(eX nds e1).length=e1.aH.length:=by unfold eX;rw[Yk]
   rw[Yk,← Rt,YR]at gM
   have Sm:=aa sx (aa s9 sz)
   show⟨x1,M8,e1,eX nds e1,U,aI.keep (ah.tk Sm) oJ,gM,Rt,fun v' Hb sb nv=>?_⟩
   have LW:=sb _ _ (sz _ _ (s9 _ _ gT))
   have y7:TK Hb (upd Hb T (.lst (ts++[v']))):=TW.TK.lst LW
   show⟨_,LW,aD (by lia),aB (Pv:=fun(i:Nat) (Hx:Hp)=>ah H8 Hx/\∃ts,Hx T=some (.lst ts)/\ts.length=i/\Paired (aI Hx) ts ((cn nds).take i)) (by repeat' constructor) cL ⟨aA (aa Sm sb) hT,ts++[v'],ae,by rw[Ym,tl];rfl,?_⟩⟩
   have Vb:(cn nds)[i]?=some (e1.led (eX nds e1)):=by
     unfold cn
     rw[YD,hr]
     change some ((nds.getD r .fin).led (eX nds (nds.getD r .fin)))=_
     rw[YN,lQ]
     rfl
   rw[Yv,Vb]
   show Paired.snoc (Paired.aZ pt fun x x z=>aI.keep ((ah.tk (aa s9 (aa sz sb))).trans y7) z) (aI.keep y7 nv)
 obtain⟨s9,ts,gT,tl,RV⟩:=z
 rw[Yk]at tl
 rw[Yk,YI (by unfold cn;rw[Yk];show Yo _)]at RV
 show au (kR _ _ ?_)
 show aG [some (.ref p),some (.ref N),some (sm),some (.ref S),some (.ref W),some (.ref C),some (.ref D),some (.ref T),none,none,none,none,none] U ?_
 show aE fun Rk kR=>?_
 show⟨aes,fun R hR=>?_⟩
 have s10:=af hR (.lst [])
 have QB:(upd H9 R (.lst [])) R=some (.lst []):=ae
 generalize upd H9 R (.lst [])=HA at s10 QB ⊢
 show au (kR _ _ ?_)
 show aG [some (.ref p),some (.ref N),some (sm),some (.ref S),some (.ref W),some (.ref C),some (.ref D),some (.ref T),some (.ref R),none,none,none,none] U ?_
 show aE fun Rk kR=>?_
 have Hj:=aa s48 s9
 have X4:=aa Hj s10
 have nT:H8 T=none:=hT
 have KJ:=aa s02 (aa s3 s4)
 have PF:=aa KJ Hj
 have U1:=PF _ _ hp
 have QH:=Hj _ _ gW
 have JU:=Cv.same s9
 have Tt:=EK.keep (ah.tk Hj) To
 show⟨_,U,W,U,⟨_,aF.of (s10 _ _ QH)⟩,?_⟩
 show jX (xs:=us) (fun(i:Nat) (σ:List (Option V)) (Hx:Hp)=>(∃o9 o10 lj jD,σ=[some (.ref p),some (.ref N),some (sm),some (.ref S),some (.ref W),some (.ref C),some (.ref D),some (.ref T),some (.ref R),o9,o10,lj,jD])/\ah H9 Hx/\∃ps lv,Hx R=some (.lst ps)/\Paired (fun v e=>vz tO Hx v sm e) ps lv/\mD K Hx nds i lv) ⟨⟨_,_,_,_,U⟩,s10,[],[],QB,.nil,U,(fun p e z=>nomatch z),(fun e z=>nomatch z)⟩ (fun i σ Hx x z=>aF.of (z.2.1 _ _ QH)) (fun i u0 pp σ Hx hu z fB=>?_) (fun σ Hx z=>?_)
 . obtain⟨⟨o9,o10,lj,jD,rfl⟩,sx,ps,lv,gR,pl,lo⟩:=z
   have cL:i<us.length:=(aQ hu)
   have hin:i<nds.length:=by lia
   obtain⟨aw,QQ,Nz⟩:=wy i hin
   rw[hu]at QQ
   cases QQ
   have Lw:=gy ok hin
   have Py:=Paired.length pl
   rw[lo.len]at Py
   have sp:=af fB (.tup [.int (i:Int),.ref aw])
   have gp:(upd Hx pp (.tup [.int (i:Int),.ref aw])) pp=some (.tup [.int (i:Int),.ref aw]):=ae
   generalize upd Hx pp (.tup [.int (i:Int),.ref aw])=Hy at sp gp ⊢
   have Hm:=aa sx sp
   have s4y:=aa Hj Hm
   show⟨pp,_,U,bM.of gp,U,_,_,U,_,_,U,?_⟩
   show jL (s4y _ _ Nz) ?_
   show⟨U,?_⟩
   show aG [some (.ref p),some (.ref N),some (sm),some (.ref S),some (.ref W),some (.ref C),some (.ref D),some (.ref T),some (.ref R),some (.int (i:Int)),some (.int ((bB nds i).1:Int)),some (.int ((bB nds i).2:Int)),jD] U ?_
   show aE fun kT kR2=>?_
   have get:∀Hq,ah H9 Hq->cK Hq D (.int ((bB nds i).1:Int)) (some (.int (fN nds (bB nds i).1:Int))):=fun Hq sq=>(JU.same sq).get (hJ Lw.2.1 Lw.2.2.2)
   show⟨_,U,_,U,_,U,D,_,U,get _ Hm,_,U,_,U,aeu,fun w0 Jp=>?_⟩
   have sw:=af Jp (.tup [.str "number",.int ((bB nds i).2:Int)])
   have gw:(upd Hy w0 (.tup [.str "number",.int ((bB nds i).2:Int)])) w0=some (.tup [.str "number",.int ((bB nds i).2:Int)]):=ae
   generalize upd Hy w0 (.tup [.str "number",.int ((bB nds i).2:Int)])=Hw at sw gw ⊢
   show⟨aex,fun al NM=>?_⟩
   have sa:=af NM (.tup [.int (i:Int),.int (fN nds (bB nds i).1:Int),sm,.str "mine",.ref w0])
   have QI:(upd Hw al (.tup [.int (i:Int),.int (fN nds (bB nds i).1:Int),sm,.str "mine",.ref w0])) al=some (.tup [.int (i:Int),.int (fN nds (bB nds i).1:Int),sm,.str "mine",.ref w0]):=ae
   generalize upd Hw al (.tup [.int (i:Int),.int (fN nds (bB nds i).1:Int),sm,.str "mine",.ref w0])=Hb at sa QI ⊢
   show au ?_
   show kR2 _ _ ?_
   show aG [some (.ref p),some (.ref N),some (sm),some (.ref S),some (.ref W),some (.ref C),some (.ref D),some (.ref T),some (.ref R),some (.int (i:Int)),some (.int ((bB nds i).1:Int)),some (.int ((bB nds i).2:Int)),some (.ref al)] U ?_
   have WJ:=aa sw sa
   have sxb:=aa sp WJ
   have PK:=aa sx sxb
   have s4b:=aa Hj PK
   have fin:∀(v:V) (e:Lv) (Hc:Hp),ah Hb Hc->vz tO Hc v sm e->Dj nds i e->EK K Hc e.2.2.2.2 (.num (e.2.2.2.1:Int))->∃xs,Hc R=some (.lst xs)/\xs.length<sizeLine/\(fun(i:Nat) (σ:List (Option V)) (Hx:Hp)=>(∃o9 o10 lj jD,σ=[some (.ref p),some (.ref N),some (sm),some (.ref S),some (.ref W),some (.ref C),some (.ref D),some (.ref T),some (.ref R),o9,o10,lj,jD])/\ah H9 Hx/\∃ps lv,Hx R=some (.lst ps)/\Paired (fun v e=>vz tO Hx v sm e) ps lv/\mD K Hx nds i lv) (i+1) [some (.ref p),some (.ref N),some (sm),some (.ref S),some (.ref W),some (.ref C),some (.ref D),some (.ref T),some (.ref R),some (.int (i:Int)),some (.int ((bB nds i).1:Int)),some (.int ((bB nds i).2:Int)),some (.ref al)] (upd Hc R (.lst (xs++[v]))):=fun v e Hc sc la lf ew=>by
     have Gq:=aa sxb sc
     have LR:=Gq _ _ gR
     have pV:TK Hc (upd Hc R (.lst (ps++[v]))):=TW.TK.lst LR
     show⟨ps,LR,aD (by lia),⟨_,_,_,_,U⟩,aA (aa sx Gq) hR,ps++[v],lv++[e],ae,?_,?_⟩
     . show Paired.snoc (Paired.aZ pl fun x x z=>vz.keep ((ah.tk Gq).trans pV) z) (vz.keep pV la)
     . show(lo.keep ((ah.tk Gq).trans pV)).snoc lf (EK.keep pV ew)
   show⟨_,U,.inl ⟨U,_,aF.of (sxb _ _ gR)⟩,_,U,_,U,?_⟩
   show eA (s4b _ _ QE) (rm hin) ?_
   show⟨_,U,?_⟩
   cases hs:eQ nds i with
   | true=>
     show k6 ?_
     have hw:=ze hs
     obtain⟨x1,e1,fK,lQ,oJ⟩:=cQ RT hin
     show⟨_,U,_,U,_,U,_,U,D,_,U,get _ PK,_,U,p,B,I,N,vn,e1,i,_,sm,x1,U,PK _ _ U1,s4b _ _ NK,fK,aI.keep (ah.tk s4b) oJ,fun v Hc sc VC=>?_⟩
     have la:vz tO Hc v sm ((i:Int),(fN nds (bB nds i).1:Int),e1.hd,0,.ref tO):=Ew VC
     obtain⟨xs,f1,f2,f3⟩:=fin v _ Hc sc la ⟨rfl,rfl,by rw[hw],by rw[hs,bj rfl,YN,lQ];rfl⟩ ⟨tO,rfl,.inr hO⟩
     show⟨R,_,_,U,U,f1,f2,f3⟩
   | false=>
     show fL ⟨_,U,?_⟩
     obtain⟨xs,f1,f2,f3⟩:=fin (.ref al) ((i:Int),(fN nds (bB nds i).1:Int),"mine",(bB nds i).2,.ref w0) Hb (same_refl _) ⟨al,rfl,QI⟩ ⟨rfl,rfl,rfl,by rw[hs];rfl⟩ ⟨w0,rfl,.inl (sa _ _ gw)⟩
     show⟨R,_,_,U,U,f1,f2,f3⟩
 obtain⟨⟨o9,o10,lj,jD,rfl⟩,sx,ps,lv,gR,pl,lo⟩:=z
 rw[ul]at lo
 show kR _ _ ?_
 have Hh:=aa PF sx
 have Nw:=sx _ _ gT
 have VJ:H T=none:=ag (aa KJ s48) nT
 have VI:H R=none:=ag PF hR
 have TR:T≠R:=ao gT hR
 show⟨_,U,_,U,p,T,B,I,N,vb,_,U,Hh _ _ hp,Hh _ _ pt.hB,Hh _ _ pt.hI,fun p' B' I' H' s' g1 TY g3 n1 n2 n3=>?_⟩
 show⟨_,U,aeu,fun q0 Ed=>?_⟩
 have F7:=af Ed (.tup [.ref p',.ref R])
 have yA:=aa Hh (aa s' F7)
 have nn:∀l xs,Hx l=some (.lst xs)->l≠B'/\l≠I':=fun l xs e=>⟨ao e n1,ao e n2⟩
 have Hs:=ah.tk (aa s' F7)
 show q q0 p' R B' I' T ts sm se ps lv _ ae ⟨yA,F7 _ _ g1,⟨F7 _ _ TY,F7 _ _ g3,F7 _ _ (s' _ _ Nw),Paired.aZ pt.pb fun x x z=>Tp.keep (ah.tk yA) z,Paired.aZ RV fun x x z=>aI.keep ((ah.tk sx).trans Hs) z⟩,F7 _ _ (s' _ _ gR),EK.keep ((ah.tk sx).trans Hs) Tt,bt,Paired.aZ pl fun x x z=>vz.keep Hs z,ag Hh n1,ag Hh n2,VJ,VI,n3,(nn _ _ Nw).1.symm,(nn _ _ Nw).2.symm,(nn _ _ gR).1,(nn _ _ gR).2,TR.symm⟩ (lo.keep Hs)
end
end TW
namespace TW
open PySem L2
structure zC (K:Yl)(x qual:Str)(st:Stmt)(dV:Value)(f:Addr)(fd:Yx):Prop where
 ex:∃(oc:Value) (od:Option Addr) (kV doc pm:Value) (an:Option Addr) (cdv ct:Value) (osl:Array (Option Value)),
   fd=Zm x qual (cB st) (bV st) (aq st) dV kV doc pm an cdv ct/\K.lookup f=some ⟨oc,od,.func fd,osl⟩/\Z7 K cdv qual=true
 kp:Zq K (.ref f)=true
section
variable{P:Program}{w:World}{K:Yl}{mg:Str->Option Value}{base:Heap}
def zC.ok {x qual:Str}{st:Stmt}{dV:Value}{f:Addr}{fd:Yx}{N ps:List Str}{k:Nat}{sp:Sp}(F:zC K x qual st dV f fd)(S:aC N ps (aq st))(len:∀vs H Q E,sp vs H Q E->vs.length=ps.length)
   (hbody:∀(cdv:Value) (A:Around) (outer:List Env) (s:Shared) (H:Hp) (vs:List V) (Q:VK) (E:XK),cI k (A.deeper (PyProof.Rows.envOfC qual (aq st) s.heap.objs.size f cdv))->sp vs H Q E ->
     ∃t,kS (fJ bU P w K mg base N qual (aq st) f cdv A outer s H E).ED (bV st) t/\t {nx:=fun z H'=>Q .bJ H',rt:=Q} (start N vs) H):aO P w K mg base bU (k+1) f fd ps sp:=by
 obtain⟨oc,od,kV,doc,pm,an,cdv,ct,osl,rfl,lk,hcd⟩:=F.ex
 show wk lk hcd S len fun A outer s H vs Q E hr hsp=>?_
 obtain⟨t,h,q⟩:=hbody cdv A outer s H vs Q E hr hsp
 show⟨t,h.ED,q⟩
end
def Dp (K:Yl)(mg:Str->Option Value)(x:Str)(st:Stmt)(d:Str):Prop:=
 ∃f fd T tk oc od n sl,zC K x x st (.ref T) f fd/\mg x=some (.ref f)/\K.lookup T=some ⟨oc,od,.seq #[.str d tk] n,sl⟩
def Dv (K:Yl)(mg:Str->Option Value)(x:Str)(xs:List Str):Prop:=∃t,mg x=some (.ref t)/\∀H:Hp,bM K H t (xs.map V.str)
def ui {K:Yl}{C:Addr}{cd:ClassData}{l:List Value}(h:aa4 K C=some cd)(m:cd.mro=l):mL K C=some l:=by
 unfold aa4 at h
 unfold mL
 split at h
 . rename_i e
   cases h
   rw[e,← m]
 . cases h
structure S0 (K:Yl)(mg:Str->Option Value)(T ck:Addr):Prop where
 t:Xc K mg "TwinError" T vE
 x_NoChange:Xc K mg "NoChange" ck (.ref T::vE)
 k_NoChange:Qm K ck
 o_NoChange:PySem.W.kitAny K (.ref ck) []=some false
 v_NoChange:PySem.W.kitOne K (.ref ck) (.type "ValueError")=some true
 i_NoChange_NoChange:PySem.W.kitOne K (.ref ck) (.ref ck)=some true
def Df {K:Yl}{h:Heap}{mg:Str->Option Value}{x:Str}{C:Addr}{cd:ClassData}{tl:List Value}(X:K.In h)(G:h.Ns Zd mg)(a:abd K Zd x=some (some (.ref C)))(e:abE K C vE "ValueError.__new__"=true)(l:aa4 K C=some cd)(m:cd.mro=.ref C::tl):Xc K mg x C tl:=⟨aaD X G a,e,ui l m⟩
def GF {K:Yl}{C:Addr}{cd:ClassData}(ga:abt K (.ref C) "__getattribute__"=some (some (.builtin "BaseException.__getattribute__")))(gn:abt K (.ref C) "__getattr__"=some none)(ha:abt K (.ref C) "__class__"=some (some (.builtin "object.__class__")))(hn:PySem.W.specialIn K (.builtin "object.__class__") "__get__"=some (some (.builtin "getset_descriptor.__get__")))(htk:PySem.W.takesIn K (.builtin "object.__class__")=some true)(hm:PySem.W.mroIn K C (.type "object")=some true)(hb:PySem.W.mroIn K C (.type "BaseException")=some true)(l:aa4 K C=some cd):Qm K C:=⟨ga,gn,ha,hn,htk,hm,hb,by rw[l];rfl⟩
def tW {K:Yl}{h:Heap}{mg:Str->Option Value}{x:Str}{t:Addr}{od:Option Addr}{sl:Array (Option Value)}{n:Nat}{us:Array Value}{xs:List Str}(X:K.In h)(G:h.Ns Zd mg)(a:abd K Zd x=some (some (.ref t)))(l:K.lookup t=some ⟨.type "tuple",od,.seq us n,sl⟩)(b:us.size<=sizeLine)(e:us.toList.length=xs.length)(r:Vals (xs.map V.str) us.toList):Dv K mg x xs:=⟨_,aaD X G a,fun z=>.inr ⟨_,_,_,l,rfl,rfl,b,r⟩⟩
def aJ {K:Yl}{h:Heap}{mg:Str->Option Value}{x:Str}{st:Stmt}{od an:Option Addr}{sl:Array (Option Value)}{oc kV dc pm cd ct:Value}{f:Addr}(X:K.In h)(G:h.Ns Zd mg)(a:abd K Zd x=some (some (.ref f)))
   (l:K.lookup f=some ⟨oc,od,.func (Zm x x (cB st) (bV st) (aq st) .none kV dc pm an cd ct),sl⟩) (c:Z7 K cd x=true) (k:Zq K (.ref f)=true):Src K mg x st:=⟨_,_,DK l c k,aaD X G a⟩
def BU {K:Yl}{h:Heap}{mg:Str->Option Value}{x d:Str}{st:Stmt}{od an cZ:Option Addr}{sl WD:Array (Option Value)}{oc kV dc pm cd ct V2:Value}{f T:Addr}{tk:Tok}{nT:Nat}(X:K.In h)(G:h.Ns Zd mg)(a:abd K Zd x=some (some (.ref f)))
   (l:K.lookup f=some ⟨oc,od,.func (Zm x x (cB st) (bV st) (aq st) (.ref T) kV dc pm an cd ct),sl⟩) (c:Z7 K cd x=true) (k:Zq K (.ref f)=true) (lT:K.lookup T=some ⟨V2,cZ,.seq #[.str d tk] nT,WD⟩):Dp K mg x st d:=⟨_,_,_,_,_,_,_,_,⟨⟨_,_,_,_,_,_,_,_,_,rfl,l,c⟩,k⟩,aaD X G a,lT⟩
def tw_mk {K:Yl}{t:Addr}{vs:List V}{n2:Nat}{od:Option Addr}{sl:Array (Option Value)}{us:Array Value}(lt:K.lookup t=some ⟨.type "tuple",od,.seq us n2,sl⟩)(b:us.size<=sizeLine)(r:Vals vs us.toList):∀H:Hp,bM K H t vs:=fun z=>.inr ⟨_,_,_,lt,rfl,rfl,b,r⟩
def MZ (K:Yl)(mg:Str->Option Value)(x:Str)(vs:List V):Prop:=∃t,mg x=some (.ref t)/\∀H:Hp,bM K H t vs
structure HU (w:World)(K:Yl)(mg:Str->Option Value):Prop where
 s_leads_of:Src K mg "leads_of" (top 8)
 s_refuse_worths:Src K mg "refuse_worths" (top 9)
 s_worth_by:Src K mg "worth_by" (top 11)
 s_holds_by:Src K mg "holds_by" (top 12)
 s_step_at:Src K mg "step_at" (top 14)
 s_worths_put:Src K mg "worths_put" (top 15)
 s_input_sizes:Src K mg "input_sizes" (top 16)
 s_beginning_of:Src K mg "beginning_of" (top 17)
 s_run_of:Src K mg "run_of" (top 18)
 s_said_in:Src K mg "said_in" (top 19)
 s_every_input:Src K mg "every_input" (top 20)
 s_every_worths:Src K mg "every_worths" (top 21)
 s_refuse_no_pair:Src K mg "refuse_no_pair" (top 24)
 s_runs_part:Src K mg "runs_part" (top 25)
 s_said_alike:Src K mg "said_alike" (top 26)
 s_numbers_that_settle:Src K mg "numbers_that_settle" (top 27)
 s_first_said:Src K mg "first_said" (top 28)
 s_joined_by:Src K mg "joined_by" (top 29)
 s_all_of:Src K mg "all_of" (top 30)
 s_any_of:Src K mg "any_of" (top 31)
 s_refuse_no_nodes:Src K mg "refuse_no_nodes" (top 34)
 s_led_anew:Src K mg "led_anew" (top 35)
 s_with_nodes:Src K mg "with_nodes" (top 36)
 s_boxes_same:Src K mg "boxes_same" (top 37)
 s_all_same:Src K mg "all_same" (top 38)
 s_level_entry:Src K mg "level_entry" (top 39)
 s_split_node:Src K mg "split_node" (top 40)
 s_told_over:Src K mg "told_over" (top 41)
 s_names_box:Src K mg "names_box" (top 42)
 s_refuse_exchange:Src K mg "refuse_exchange" (top 43)
 s_exchanged_puts:Src K mg "exchanged_puts" (top 44)
 s_between_puts:Src K mg "between_puts" (top 45)
 s_put_made:Src K mg "put_made" (top 46)
 s_small_sum:Src K mg "small_sum" (top 47)
 s_small_part:Src K mg "small_part" (top 48)
 s_parts_of:Src K mg "parts_of" (top 49)
 s_idle_next:Src K mg "idle_next" (top 50)
 s_goes_round:Src K mg "goes_round" (top 51)
 s_led_on:Src K mg "led_on" (top 52)
 s_fitted_program:Src K mg "fitted_program" (top 53)
 s_law_next:Src K mg "_law_next" (top 55)
 s_law_pots:Src K mg "_law_pots" (top 56)
 s_law_some_boxes:Src K mg "_law_some_boxes" (top 57)
 s_law_any_sum:Src K mg "_law_any_sum" (top 58)
 s_law_any_condition:Src K mg "_law_any_condition" (top 59)
 s_law_one_node:Src K mg "_law_one_node" (top 60)
 s_law_some_program:Src K mg "_law_some_program" (top 61)
 s_law_exchanged:Src K mg "_law_exchanged" (top 62)
 s_law_made:Src K mg "_law_made" (top 63)
 s_law_same:Src K mg "_law_same" (top 64)
 s_law_case:Src K mg "_law_case" (top 65)
 s_law:Src K mg "law" (top 66)
 s_known_worths:Dp K mg "known_worths" (top 10) "box"
 c_PARTED:Dv K mg "PARTED" ["plus","less","same","under","not","both"]
 c_YES:Dv K mg "YES" ["yes"]
 c_NOUGHT:MZ K mg "NOUGHT" [.str "number",.int 0]
 cl:∃T ck,S0 K mg T ck
 m_len:mg "len"=none
 m_list:mg "list"=none
 m_range:mg "range"=none
 m_zip:mg "zip"=none
 m_dict:mg "dict"=none
 m_int:mg "int"=none
 m_tuple:mg "tuple"=none
 m_max:mg "max"=none
 m_min:mg "min"=none
 m_sum:mg "sum"=none
 m_enumerate:mg "enumerate"=none
 m_any:mg "any"=none
 m_ValueError:mg "ValueError"=none
end TW
namespace TW
open PySem L2
section
variable{P:Program}{w:World}{K:Yl}{mg:Str->Option Value}{base:Heap}
abbrev kE:Stmt:=top 11
def B7 (H:Hp)(a:Addr)(P:Str->Str->Prop)(W:Str->Str->Int):Prop:=∃kvs,H a=some (.dT kvs)/\∀t x,P t x->aU kvs [.inr t,.inr x]=some (.int (W t x))
def Dt (P:Str->Str->Prop):Prop:=∀t x,P t x->t="box"\/t="mine"\/t="yours"
def cR (n:Nat):Sp:=fun vs H Q z=>∃(a:Addr) (v:V) (e:E) (Pb:Str->Str->Prop) (W:Str->Str->Int),vs=[.ref a,v]/\B7 H a Pb W/\Dt Pb/\eK H v e/\e.kZ/\e.okIn Pb/\e.dep<n/\Q (.int (e.worth W)) H
def ve:aC ["known","sum_told"] ["known","sum_told"] (aq kE):=df
def xG {n:Nat}{f:Addr}{fd:Yx}(F:b9 K "worth_by" "worth_by" kE f fd)(G:aS P w K mg base "worth_by" ["known","sum_told"] (n+1) (cR n)) :
    aO P w K mg base bU (n+2) f fd ["known","sum_told"] (cR (n+1)):=by
 show F.c0 ve fun cdv A outer s H vs Q E hr h=>?_
 obtain⟨a,v,e,Pb,W,rfl,kn,tg,ev,es,ok,hd,q⟩:=h
 show⟨_,acX (acj (acy (acr acC (ack acp (Y 1) aci) acu) (acn (acq (ack acp (Y 1) aci))) acz)
   (acj (acy (acr acC (ack acp (Y 1) aci) acu) (acn (acq (acv acL (acm G hr U (L (Y 0) (L (ack acp (Y 1) aci) M))) (acm G hr U (L (Y 0) (L (ack acp (Y 1) aci) M)))))) acz)
   (acj (acy (acr acC (ack acp (Y 1) aci) acu) (acn (acq (acv acY (acm G hr U (L (Y 0) (L (ack acp (Y 1) aci) M))) (acm G hr U (L (Y 0) (L (ack acp (Y 1) aci) M)))))) acz)
   (acn (acq (ada (bR hr _ (by left)) (Y 0) (Y 1))))))),?_⟩
 cases e with
 | num m=>
   obtain⟨p,rfl,hp⟩:=ev
   show⟨_,U,?_⟩
   show aP hp U ?_
   show⟨U,_,U,?_⟩
   show aN (fun u=>?_) (fun c=>az (cH rfl) c)
   show⟨_,U,?_⟩
   show aP hp U ?_
   show q
 | box t x=>
   obtain⟨p,rfl,hp⟩:=ev
   obtain⟨kvs,hk,hv⟩:=kn
   have ht:=tg t x ok
   show⟨_,U,?_⟩
   show aP hp U ?_
   show⟨U,_,U,?_⟩
   show aN (fun c=>?_) (fun u=>?_)
   . have:=cZ c
     injection this with z
     subst z
     show az ht (by left)
   show⟨_,U,?_⟩
   show aP hp U ?_
   show⟨U,_,U,?_⟩
   show aN (fun c=>?_) (fun u=>?_)
   . have:=cZ c
     injection this with z
     subst z
     show az ht (by left)
   show⟨_,U,?_⟩
   show aP hp U ?_
   show⟨U,_,U,?_⟩
   show aN (fun c=>?_) (fun u=>?_)
   . have:=cZ c
     injection this with z
     subst z
     show az ht (by left)
   show⟨_,U,_,U,a,_,U,?_,q⟩
   have g:=cK.t (k:=[.inr t,.inr x]) hk hp
   rw[hv t x ok]at g
   show g
 | yes=>show es.elim
 | nt a=>show es.elim
 | two k e1 e2=>
   obtain⟨x,y,⟨p,rfl,hp⟩,ax,ay⟩:=ev
   have Cg:max e1.dep e2.dep+1<n+1:=hd
   cases k with
   | plus=>
     show⟨_,U,?_⟩
     show aP hp U ?_
     show⟨U,_,U,?_⟩
     show aN (fun c=>az (cZ c) (by left)) (fun u=>?_)
     show⟨_,U,?_⟩
     show aP hp U ?_
     show⟨U,_,U,?_⟩
     show aN (fun u=>?_) (fun c=>az (cH rfl) c)
     show⟨_,U,_,U,?_⟩
     show aP hp U ?_
     show⟨a,x,e1,Pb,W,U,kn,tg,ax,es.1,ok.1,by lia,?_⟩
     show⟨_,U,_,U,?_⟩
     show aP hp U ?_
     show⟨a,y,e2,Pb,W,U,kn,tg,ay,es.2,ok.2,by lia,?_⟩
     show⟨_,_,U,U,q⟩
   | less=>
     show⟨_,U,?_⟩
     show aP hp U ?_
     show⟨U,_,U,?_⟩
     show aN (fun c=>az (cZ c) (by left)) (fun u=>?_)
     show⟨_,U,?_⟩
     show aP hp U ?_
     show⟨U,_,U,?_⟩
     show aN (fun c=>az (cZ c) (by left)) (fun u=>?_)
     show⟨_,U,?_⟩
     show aP hp U ?_
     show⟨U,_,U,?_⟩
     show aN (fun u=>?_) (fun c=>az (cH rfl) c)
     show⟨_,U,_,U,?_⟩
     show aP hp U ?_
     show⟨a,x,e1,Pb,W,U,kn,tg,ax,es.1,ok.1,by lia,?_⟩
     show⟨_,U,_,U,?_⟩
     show aP hp U ?_
     show⟨a,y,e2,Pb,W,U,kn,tg,ay,es.2,ok.2,by lia,?_⟩
     show⟨_,_,U,U,q⟩
   | same=>show es.elim
   | under=>show es.elim
   | both=>show es.elim
def qG {f:Addr}{fd:Yx}:aO P w K mg base bU 1 f fd ["known","sum_told"] (cR 0):=by
 have no:∀vs H Q E,¬ cR 0 vs H Q E:=fun vs H Q E h=>by
   obtain⟨_,_,_,_,_,_,_,_,_,_,_,h1,_⟩:=h
   lia
 show⟨fun vs H Q E h=>az h (no vs H Q E),fun A outer s H args us vs Q E z z z z h=>az h (no vs H Q E)⟩
def uv (s:Src K mg "worth_by" kE):∀n:Nat,aS P w K mg base "worth_by" ["known","sum_told"] (n+1) (cR n):=by
 obtain⟨f,fd,F,m⟩:=s
 have b:Binds K fd ["known","sum_told"] []:=nW F fun z z z z z z z z=>rfl
 intro n
 have all:aO P w K mg base bU (n+1) f fd ["known","sum_told"] (cR n):=by
   induction n with
   | zero=>show qG
   | succ n ih=>show xG F ⟨f,fd,ih,F.kp,b,m⟩
 show⟨f,fd,all,F.kp,b,m⟩
def B7.same {H H':Hp}{a:Addr}{Pb:Str->Str->Prop}{W:Str->Str->Int}(h:B7 H a Pb W)(s:ah H H'):B7 H' a Pb W:=by obtain⟨kvs,e,v⟩:=h;show⟨kvs,s _ _ e,v⟩
def eK.same {H H':Hp}{v:V}{e:E}(h:eK H v e)(s:ah H H'):eK H' v e:=eK.keep (ah.tk s) h
abbrev CL:Stmt:=top 9
def Paired.IK {α β:Type}{F:α->β->Prop}{l₁:List α}{l₂:List β}{i:Nat}{x:α}{y:β}(h:Paired F l₁ l₂)(e1:l₁[i]?=some x)(e2:l₂[i]?=some y):F x y:=by
 obtain⟨z,h1,h2⟩:=Paired.get h e1
 rw[e2]at h1
 cases h1
 show h2
def Within (s w:Int):Prop:=0<=w/\w<s
def rg:Sp:=fun vs H Q z=>∃(sa wa:Addr) (szs ws:List Int),vs=[.ref sa,.ref wa]/\H sa=some (.lst (szs.map V.int))/\H wa=some (.lst (ws.map V.int))/\Paired Within szs ws/\∀H',ah H H'->Q .bJ H'
def qY:aC ["sizes","worths","size","worth"] ["sizes","worths"] (aq CL):=df
def AW {f:Addr}{fd:Yx}(F:b9 K "refuse_worths" "refuse_worths" CL f fd)(m_len:mg "len"=none)(m_zip:mg "zip"=none):aO P w K mg base bU 1 f fd ["sizes","worths"] rg:=by
 show F.c0 qY fun cdv A outer s H vs Q E hr h=>?_
 obtain⟨sa,wa,szs,ws,rfl,hs,hw,pw,q⟩:=h
 show⟨_,acX (acj (acy (acr ac4 (acA acG U m_len Yy (L (Y 1) M)) (acA acG U m_len Yy (L (Y 0) M))) adk acz)
   (acn (acM (L3.iZ U m_zip (L (Y 0) (L (Y 1) M))) (acF 2 (acs (aco 2 qY.nd) (acs (aco 3 qY.nd) acE))) (acn (acy (acK (acV (acr adf (Y 3) aci) (acZ (acr L3.EG (Y 3) (Y 2))))) adk acz))))),?_⟩
 have hl:szs.length=ws.length:=Paired.length pw
 have GZ:(szs.map V.int).length=(ws.map V.int).length:=by rw[Yk,Yk];show hl
 show⟨_,U,wa,_,U,.inl (aF.of hw),_,U,sa,_,U,.inl (aF.of hs),U,_,U,?_⟩
 show aN (fun c=>?_) (fun v=>?_)
 . rw[GZ,cH rfl]at c
   show az c (by left)
 show⟨_,U,_,U,sa,wa,U,⟨_,aF.of hs⟩,⟨_,aF.of hw⟩,?_⟩
 show zY (xs:=szs.map V.int) (ys:=ws.map V.int) GZ (fun i σ H2=>(∃v1 v2,σ=[some (.ref sa),some (.ref wa),v1,v2])/\ah H H2) ⟨⟨_,_,U⟩,same_refl _⟩ (fun i σ H2 v z=>⟨aF.of (z.2 _ _ hs),aF.of (z.2 _ _ hw)⟩) (fun i x y p σ H2 hx hy z hp=>?_) (fun σ H2 z=>?_)
 . obtain⟨⟨v1,v2,rfl⟩,z⟩:=z
   obtain⟨s0,e1,rfl⟩:=ba hx
   obtain⟨w0,e2,rfl⟩:=ba hy
   obtain⟨g0,g1⟩:=Paired.IK pw e1 e2
   show jL ae ?_
   show⟨_,U,_,_,U,U,_,U,?_⟩
   show aN (fun c=>az (cZ c) (by lia)) (fun v=>?_)
   show⟨_,U,_,U,_,_,U,U,_,U,?_⟩
   show aN (fun c=>az (cZ c) (by lia)) (fun v=>?_)
   show⟨⟨_,_,U⟩,aa z (af hp _)⟩
 . show q _ z.2
def Hu (H:Hp)(v:V)(bs:aj):Prop:=∃p B I N vb,v=.ref p/\H p=some (.tup [.ref B,I,N])/\H B=some (.lst vb)/\Paired (eR H) vb bs
abbrev jI:Stmt:=top 10
def eJ:aj->List Int->Str->Int
 | b::bs,w::ws,x=>if b.1=x then w else eJ bs ws x
 | _,_,_=>0
def cV (side:Str):aj->List Int->List (List Key×V)
 | b::bs,w::ws=>([.inr side,.inr b.1],.int w)::cV side bs ws
 | _,_=>[]
theorem lW (side:Str):∀(bs:aj) (ws:List Int),(cV side bs ws).length<=bs.length
 | [],_=>by simp[cV]
 | _::_,[]=>by simp[cV]
 | _::bs,_::ws=>by simp[cV];show lW side bs ws
theorem fC (side:Str):∀(bs:aj) (ws:List Int) (x:Str),bs.length=ws.length->x∈bs.map (·.1)->aU (cV side bs ws) [.inr side,.inr x]=some (.int (eJ bs ws x))
 | [],_,_,_,h=>by simp at h
 | _::_,[],_,h,_=>by simp at h
 | b::bs,w::ws,x,hl,hx=>by
   change aU (([.inr side,.inr b.1],V.int w)::cV side bs ws) _=some (.int (if b.1=x then w else eJ bs ws x))
   by_cases e:b.1=x
   . rw[bj e,bZ (p:=(([.inr side,.inr b.1]:List Key),V.int w)) (by rw[← e])]
   . rw[bg e,bT (p:=(([.inr side,.inr b.1]:List Key),V.int w)) (fun z=>by injection z with _ z;injection z with z _;injection z with z;show e z)]
     show fC side bs ws x (by simpa using hl) ?_
     rcases fM hx with z|z
     . show az z.symm e
     . show z
theorem kd (side:Str):∀(bs:aj) (ws:List Int) (s x:Str),(s=side->x∉bs.map (·.1))->aU (cV side bs ws) [.inr s,.inr x]=none
 | [],_,_,_,_=>rfl
 | _::_,[],_,_,_=>rfl
 | b::bs,w::ws,s,x,h=>by
   change aU (([.inr side,.inr b.1],V.int w)::cV side bs ws) _=none
   rw[bT (p:=(([.inr side,.inr b.1]:List Key),V.int w)) (fun z=>by injection z with z1 z;injection z1 with z1;injection z with z _;injection z with z;show h z1.symm (bu (.inl z.symm)))]
   show kd side bs ws s x fun e z=>h e (bu (.inr z))
def kA {κ:Type}[DecidableEq κ]{kvs:List (κ×V)}{k:κ}{v:V}(h:aU kvs k=none):putK kvs k v=kvs++[(k,v)]:=by
 unfold putK
 rw[cG,h]
 rfl
theorem ke (side:Str):∀(bs:aj) (ws:List Int) (b:Str×Int) (w:Int),bs.length=ws.length->cV side (bs++[b]) (ws++[w])=cV side bs ws++[([.inr side,.inr b.1],.int w)]
 | [],[],_,_,_=>rfl
 | [],_::_,_,_,h=>by simp at h
 | _::_,[],_,_,h=>by simp at h
 | b::bs,w::ws,c,v,h=>by
   change _::cV side (bs++[c]) (ws++[v])=_
   rw[ke side bs ws c v (by simpa using h)]
   rfl
def Aw {bs:aj}(nd:(bs.map (·.1)).Nodup){i:Nat}{b:Str×Int}(h:bs[i]?=some b):b.1∉(bs.take i).map (·.1):=by
 intro z
 have hi:i<bs.length:=(aQ h)
 have e:bs[i]=b:=(List.getElem?_eq_some_iff.mp h).2
 obtain⟨c,hc,e2⟩:=cX z
 obtain⟨j,hj,e3⟩:=aa7 hc
 have L8:j<i:=by rw[Yu]at hj;lia
 rw[List.getElem_take]at e3
 have k1:(bs.map (·.1))[j]'(by rw[Yk];lia)=(bs.map (·.1))[i]'(by rw[Yk];lia):=by
   rw[aaQ,aaQ,e3,e,e2]
 show(List.pairwise_iff_getElem.mp nd) j i _ _ L8 k1
def iD:Sp:=fun vs H Q z=>∃(v:V) (wa:Addr) (side:Str) (bs:aj) (ws:List Int),vs=[v,.ref wa,.str side]/\Hu H v bs/\(bs.map (·.1)).Nodup/\bs.length<=900/\H wa=some (.lst (ws.map V.int))/\bs.length=ws.length /\
 ∀D H',H D=none->ah H H'->H' D=some (.dT (cV side bs ws))->Q (.ref D) H'
def yD:aC ["program","worths","side"] ["program","worths","side"] (aq jI):=df
def uS {f:Addr}{fd:Yx}{dV:Value}(F:zC K "known_worths" "known_worths" jI dV f fd)(m_zip:mg "zip"=none):aO P w K mg base bU 1 f fd ["program","worths","side"] iD:=by
 show F.ok yD (fun vs H Q E h=>?_) (fun cdv A outer s H vs Q E hr h=>?_)
 . obtain⟨v,wa,side,bs,ws,rfl,_⟩:=h
   rfl
 obtain⟨v,wa,side,bs,ws,rfl,⟨p,B,I,N,vb,rfl,hp,hB,pb⟩,nd,Uu,hw,hlen,q⟩:=h
 show⟨_,acX (acn (acq (L3.Tg [none,none,none,some 2] ["name","size","worth","side"] (bR hr _ (by left)) (fP jI) U (L3.iZ U m_zip (L (ack acp (Y 0) aci) (L (Y 1) M))) (fun u u u u u=>⟨(acF 2 (acs (acF 2 (acs (aco 0 (dE ["name","size","worth","side"])) (acs (aco 1 (dE ["name","size","worth","side"])) acE))) (acs (aco 2 (dE ["name","size","worth","side"])) acE))),acH,(acx (L (Y 3) (L (Y 0) M))),(Y 2)⟩)))),?_⟩
 have Jo:vb.length=bs.length:=Paired.length pb
 have GZ:vb.length=(ws.map V.int).length:=by rw[Yk];lia
 show⟨_,U,?_⟩
 show aP hp U ?_
 show⟨_,U,B,wa,U,⟨_,aF.of hB⟩,⟨_,aF.of hw⟩,fun D hD=>?_⟩
 have nB:B≠D:=ao hB hD
 have nw:wa≠D:=ao hw hD
 show n8 (xs:=vb) (ys:=ws.map V.int) GZ (fun i H2=>(∀b o,H b=some o->H2 b=some o)/\H2 D=some (.dT (cV side (bs.take i) (ws.take i)))) ⟨af hD _,ae⟩ (fun i H2 u z=>⟨aF.of (z.1 _ _ hB),aF.of (z.1 _ _ hw)⟩) (fun i x y pr H2 hx hy z zm=>?_) (fun H2 z=>?_)
 . obtain⟨z,mM⟩:=z
   obtain⟨b,rY,pp,rfl,fB⟩:=Paired.get pb hx
   obtain⟨w0,OE,rfl⟩:=ba hy
   have cL:i<vb.length:=(aQ hx)
   have wF:=z _ _ fB
   show⟨pr,_,U,bM.of ae,U,_,_,U,⟨pp,_,U,bM.of (by rw[ar (ao wF zm)];show wF),U,_,_,U,_,_,U,U,_,_,U,U,?_⟩⟩
   show bF (A:=fun H3=>lh _ _ D _ H3 _) ?_
   show⟨_,U,_,U,aeu,fun kp QZ=>⟨_,U,?_⟩⟩
   have VR:D≠kp:=ao (show(upd H2 pr _) D=some _ by rw[ar (ao mM zm)];show mM) QZ
   have L6:(upd (upd H2 pr (.tup [.ref pp,.int w0])) kp (.tup [.str side,.str b.1])) D=some (.dT (cV side (bs.take i) (ws.take i))):=by
     rw[ar VR,ar (ao mM zm)];show mM
   have Cm:=lW side (bs.take i) (ws.take i)
   have Xp:(bs.take i).length<=bs.length:=by rw[Yu];lia
   show⟨_,jM.t (k:=[.inr side,.inr b.1]) L6 ae (aD (by lia)),aB (Pv:=fun i H2=>(∀b o,H b=some o->H2 b=some o)/\H2 D=some (.dT (cV side (bs.take i) (ws.take i)))) (by repeat' constructor) cL ⟨fun c o hc=>?_,?_⟩⟩
   . have Cf:=z c o hc
     have n1:c≠D:=ao hc hD
     have QS:(upd H2 pr (.tup [.ref pp,.int w0])) c=some o:=by rw[ar (ao Cf zm)];show Cf
     rw[ar n1,ar (ao QS QZ)]
     show QS
   . rw[ae,kA (kd side _ _ _ _ fun u=>Aw nd rY),Yv,Yv,rY,OE]
     change _=some (HO.dT (cV side (bs.take i++[b]) (ws.take i++[w0])))
     rw[ke side _ _ b w0 (by rw[Yu,Yu];lia)]
 . obtain⟨z,mM⟩:=z
   rw[Jo,YR,hlen,YR]at mM
   show q D H2 hD z mM
def pX (P:Program)(w:World)(K:Yl)(mg:Str->Option Value)(base:Heap)(x:Str)(ps:List Str)(k:Nat)(sp:Sp)(d:Str):Prop:=
 ∃f fd tk,aO P w K mg base bU k f fd ps sp/\Zq K (.ref f)=true/\Binds K fd ps [.str d tk]/\mg x=some (.ref f)
def ql (s:Dp K mg "known_worths" jI "box")(m_zip:mg "zip"=none):pX P w K mg base "known_worths" ["program","worths","side"] 1 iD "box":=by
 obtain⟨f,fd,T,tk,oc,od,n,sl,F,m,lT⟩:=s
 show⟨f,fd,tk,uS F m_zip,F.kp,?_,m⟩
 obtain⟨oc,od,kV,doc,pm,an,cdv,ct,osl,rfl,lk,hcd⟩:=F.ex
 intro s us kin hl
 have h2:us.length=2:=by simpa using hl
 match us,h2 with
 | [u1,u2],_=>show BindsTo.of_defaults rfl (kin _ _ lT) rfl rfl rfl
def pX.mono {x:Str}{ps:List Str}{j k:Nat}{sp:Sp}{d:Str}(h:pX P w K mg base x ps j sp d)(hk:j<=k):pX P w K mg base x ps k sp d:=
 let⟨f,fd,tk,a,b,c,e⟩:=h;⟨f,fd,tk,a.mono hk,b,c,e⟩
def Pj {X:Cx}{x:Str}{d:Str}{p pos:Pos}{ps:List Str}{kk:Nat}{sp:Sp}{e:Expr}{es:List Expr}{t:TA}(D:pX X.prog X.w X.K X.mg X.base x ps kk sp d)(hr:cI kk X.A)(hg:Gl X x)(ha:L3.SA X (e::es) t)(hdb:(x==("__debug__":Str))=false:=by left) :
   L3.SE X (.Call (.Name x p) (e::es) [] pos) (kJ sp [.str d] E0 t):=by
 obtain⟨_,_,tk,G,kp,b,m⟩:=D
 show⟨m8 G hr hg m kp b (.cons ⟨tk,U⟩ .nil) Cz ha.h.pa hdb ((ha.h.ns e es rfl).1.h es X.env) ((ha.h.ns e es rfl).2 pos X.env)⟩
abbrev LK (bs:aj):Str->Str->Prop:=fun t y=>t="box"/\y∈bs.map (·.1)
def jR (bs:aj):Dt (LK bs):=fun t z h=>.inl h.1
abbrev kC:Stmt:=top 12
def dP (n:Nat):Sp:=fun vs H Q z=>∃(a:Addr) (v:V) (e:E) (Pb:Str->Str->Prop) (W:Str->Str->Int),vs=[.ref a,v]/\B7 H a Pb W/\Dt Pb/\eK H v e/\e.El/\e.okIn Pb/\e.dep<n/\Q (.bl (e.holds W)) H
def vd:aC ["known","condition"] ["known","condition"] (aq kC):=df
def xw {n:Nat}{f:Addr}{fd:Yx}(F:b9 K "holds_by" "holds_by" kC f fd)(WB:∀n,aS P w K mg base "worth_by" ["known","sum_told"] (n+1) (cR n))(G:aS P w K mg base "holds_by" ["known","condition"] (n+2) (dP n)) :
    aO P w K mg base bU (n+3) f fd ["known","condition"] (dP (n+1)):=by
 show F.c0 vd fun cdv A outer s H vs Q E hr h=>?_
 obtain⟨a,v,e,Pb,W,rfl,kn,tg,ev,es,ok,hd,q⟩:=h
 have W1:=(WB n).mono (show n+1<=n+2 by lia)
 show⟨_,acX (acj (acy (acr acC (ack acp (Y 1) aci) acu) (acn (acq acS)) acz)
   (acj (acy (acr acC (ack acp (Y 1) aci) acu) (acn (acq (acQ acC (acm W1 hr U (L (Y 0) (L (ack acp (Y 1) aci) M))) (acm W1 hr U (L (Y 0) (L (ack acp (Y 1) aci) M)))))) acz)
   (acj (acy (acr acC (ack acp (Y 1) aci) acu) (acn (acq (acQ adf (acm W1 hr U (L (Y 0) (L (ack acp (Y 1) aci) M))) (acm W1 hr U (L (Y 0) (L (ack acp (Y 1) aci) M)))))) acz)
   (acj (acy (acr acC (ack acp (Y 1) aci) acu) (acn (acq (L3.VW (acm G hr U (L (Y 0) (L (ack acp (Y 1) aci) M)))))) acz)
   (acn (acq (L3.B9 (acm G hr U (L (Y 0) (L (ack acp (Y 1) aci) M))) (L3.Fd (acm G hr U (L (Y 0) (L (ack acp (Y 1) aci) M))))))))))),?_⟩
 cases e with
 | num m=>show es.elim
 | box t x=>show es.elim
 | yes=>
   obtain⟨p,rfl,hp⟩:=ev
   show⟨_,U,?_⟩
   show aP hp U ?_
   show⟨U,_,U,?_⟩
   show aN (fun u=>?_) (fun c=>az (cH rfl) c)
   show q
 | nt e1=>
   obtain⟨x,⟨p,rfl,hp⟩,ax⟩:=ev
   have Cg:e1.dep+1<n+1:=hd
   show⟨_,U,?_⟩
   show aP hp U ?_
   show⟨U,_,U,?_⟩
   show aN (fun c=>az (cZ c) (by left)) (fun u=>?_)
   show⟨_,U,?_⟩
   show aP hp U ?_
   show⟨U,_,U,?_⟩
   show aN (fun c=>az (cZ c) (by left)) (fun u=>?_)
   show⟨_,U,?_⟩
   show aP hp U ?_
   show⟨U,_,U,?_⟩
   show aN (fun c=>az (cZ c) (by left)) (fun u=>?_)
   show⟨_,U,?_⟩
   show aP hp U ?_
   show⟨U,_,U,?_⟩
   show aN (fun u=>?_) (fun c=>az (cH rfl) c)
   show⟨_,U,_,U,?_⟩
   show aP hp U ?_
   show⟨a,x,e1,Pb,W,U,kn,tg,ax,es,ok,by lia,_,U,q⟩
 | two k e1 e2=>
   obtain⟨x,y,⟨p,rfl,hp⟩,ax,ay⟩:=ev
   have Cg:max e1.dep e2.dep+1<n+1:=hd
   cases k with
   | plus=>show es.elim
   | less=>show es.elim
   | same=>
     show⟨_,U,?_⟩
     show aP hp U ?_
     show⟨U,_,U,?_⟩
     show aN (fun c=>az (cZ c) (by left)) (fun u=>?_)
     show⟨_,U,?_⟩
     show aP hp U ?_
     show⟨U,_,U,?_⟩
     show aN (fun u=>?_) (fun c=>az (cH rfl) c)
     show⟨_,U,_,U,?_⟩
     show aP hp U ?_
     show⟨a,x,e1,Pb,W,U,kn,tg,ax,es.1,ok.1,by lia,?_⟩
     show⟨_,U,_,U,?_⟩
     show aP hp U ?_
     show⟨a,y,e2,Pb,W,U,kn,tg,ay,es.2,ok.2,by lia,?_⟩
     have eq:decide (V.int (e1.worth W)=V.int (e2.worth W))=decide (e1.worth W=e2.worth W):=decide_eq_decide.mpr ⟨fun z=>by injection z,fun z=>by rw[z]⟩
     show⟨U,?_⟩
     rw[eq]
     show q
   | under=>
     show⟨_,U,?_⟩
     show aP hp U ?_
     show⟨U,_,U,?_⟩
     show aN (fun c=>az (cZ c) (by left)) (fun u=>?_)
     show⟨_,U,?_⟩
     show aP hp U ?_
     show⟨U,_,U,?_⟩
     show aN (fun c=>az (cZ c) (by left)) (fun u=>?_)
     show⟨_,U,?_⟩
     show aP hp U ?_
     show⟨U,_,U,?_⟩
     show aN (fun u=>?_) (fun c=>az (cH rfl) c)
     show⟨_,U,_,U,?_⟩
     show aP hp U ?_
     show⟨a,x,e1,Pb,W,U,kn,tg,ax,es.1,ok.1,by lia,?_⟩
     show⟨_,U,_,U,?_⟩
     show aP hp U ?_
     show⟨a,y,e2,Pb,W,U,kn,tg,ay,es.2,ok.2,by lia,?_⟩
     show⟨_,_,U,U,q⟩
   | both=>
     show⟨_,U,?_⟩
     show aP hp U ?_
     show⟨U,_,U,?_⟩
     show aN (fun c=>az (cZ c) (by left)) (fun u=>?_)
     show⟨_,U,?_⟩
     show aP hp U ?_
     show⟨U,_,U,?_⟩
     show aN (fun c=>az (cZ c) (by left)) (fun u=>?_)
     show⟨_,U,?_⟩
     show aP hp U ?_
     show⟨U,_,U,?_⟩
     show aN (fun c=>az (cZ c) (by left)) (fun u=>?_)
     show⟨_,U,?_⟩
     show aP hp U ?_
     show⟨U,_,U,?_⟩
     show aN (fun c=>az (cZ c) (by left)) (fun u=>?_)
     show⟨_,U,_,U,?_⟩
     show aP hp U ?_
     show⟨a,x,e1,Pb,W,U,kn,tg,ax,es.1,ok.1,by lia,_,U,?_⟩
     have q':Q (.bl (e1.holds W&&e2.holds W)) H:=q
     show aN (fun c=>?_) (fun c=>?_)
     . show⟨_,U,_,U,?_⟩
       show aP hp U ?_
       show⟨a,y,e2,Pb,W,U,kn,tg,ay,es.2,ok.2,by lia,?_⟩
       rw[c,Bool.true_and]at q'
       show q'
     . rw[Bool.eq_false_iff.mpr c,Bool.false_and]at q'
       show q'
def qF {f:Addr}{fd:Yx}:aO P w K mg base bU 2 f fd ["known","condition"] (dP 0):=by
 have no:∀vs H Q E,¬ dP 0 vs H Q E:=fun vs H Q E h=>by
   obtain⟨_,_,_,_,_,_,_,_,_,_,_,h1,_⟩:=h
   lia
 show⟨fun vs H Q E h=>az h (no vs H Q E),fun A outer s H args us vs Q E z z z z h=>az h (no vs H Q E)⟩
def uu (s:Src K mg "holds_by" kC)(WB:∀n,aS P w K mg base "worth_by" ["known","sum_told"] (n+1) (cR n)):∀n:Nat,aS P w K mg base "holds_by" ["known","condition"] (n+2) (dP n):=by
 obtain⟨f,fd,F,m⟩:=s
 have b:Binds K fd ["known","condition"] []:=nW F fun z z z z z z z z=>rfl
 intro n
 have all:aO P w K mg base bU (n+2) f fd ["known","condition"] (dP n):=by
   induction n with
   | zero=>show qF
   | succ n ih=>show xw F WB ⟨f,fd,ih,F.kp,b,m⟩
 show⟨f,fd,all,F.kp,b,m⟩
abbrev yx:Stmt:=top 15
abbrev sZ:Stmt:=top 14
def cg (bs:aj)(ws:List Int)(x:Str)(t:Int):List Int:=List.zipWith (fun b w=>if b.1=x then t%b.2 else w) bs ws
def x8 {bs:aj}{ws:List Int}{x:Str}{t:Int}{i:Nat}{b:Str×Int}{w:Int}(h1:bs[i]?=some b)(h2:ws[i]?=some w):(cg bs ws x t)[i]?=some (if b.1=x then t%b.2 else w):=by
 unfold cg
 rw[List.getElem?_zipWith,h1,h2]
def oV {bs:aj}{ws:List Int}{x:Str}{t:Int}(h:bs.length=ws.length):(cg bs ws x t).length=bs.length:=by
 unfold cg
 rw[List.length_zipWith]
 lia
def rj:Sp:=fun vs H Q z=>∃(v:V) (wa:Addr) (x:Str) (t:Int) (bs:aj) (ws:List Int),vs=[v,.ref wa,.str x,.int t]/\Hu H v bs/\bs.length<=900/\(∀b∈bs,1<=b.2)/\H wa=some (.lst (ws.map V.int))/\bs.length=ws.length /\
 ∀l H',H l=none->ah H H'->H' l=some (.lst ((cg bs ws x t).map V.int))->Q (.ref l) H'
def Gj:aC ["program","worths","put_name","told"] ["program","worths","put_name","told"] (aq yx):=df
def AZ {f:Addr}{fd:Yx}(F:b9 K "worths_put" "worths_put" yx f fd)(m_zip:mg "zip"=none):aO P w K mg base bU 1 f fd ["program","worths","put_name","told"] rj:=by
 show F.c0 Gj fun cdv A outer s H vs Q E hr h=>?_
 obtain⟨v,wa,x,t,bs,ws,rfl,⟨p,B,I,N,vb,rfl,hp,hB,pb⟩,Uu,sz,hw,hlen,q⟩:=h
 show⟨_,acX (acn (acq (acO [none,none,none,some 2,some 3] ["name","size","worth","put_name","told"] (fP yx) U (L3.iZ U m_zip (L (ack acp (Y 0) aci) (L (Y 1) M))) (fun y y y y y=>⟨(acF 2 (acs (acF 2 (acs (aco 0 (dE ["name","size","worth","put_name","told"])) (acs (aco 1 (dE ["name","size","worth","put_name","told"])) acE))) (acs (aco 2 (dE ["name","size","worth","put_name","told"])) acE))),acH,(ac0 (acr acC (Y 0) (Y 3)) (acv ac6 (Y 4) (Y 1)) (Y 2))⟩)))),?_⟩
 have Jo:vb.length=bs.length:=Paired.length pb
 have GZ:vb.length=(ws.map V.int).length:=by rw[Yk];lia
 show⟨_,U,?_⟩
 show aP hp U ?_
 show⟨_,U,B,wa,U,⟨_,aF.of hB⟩,⟨_,aF.of hw⟩,fun D hD=>?_⟩
 show n8 (xs:=vb) (ys:=ws.map V.int) GZ (fun i H2=>(∀b o,H b=some o->H2 b=some o)/\H2 D=some (.lst (((cg bs ws x t).take i).map V.int))) ⟨af hD _,ae⟩ (fun i H2 y z=>⟨aF.of (z.1 _ _ hB),aF.of (z.1 _ _ hw)⟩) (fun i x0 y0 pr H2 hx hy z zm=>?_) (fun H2 z=>?_)
 . obtain⟨z,mM⟩:=z
   obtain⟨b,rY,pp,rfl,fB⟩:=Paired.get pb hx
   obtain⟨w0,OE,rfl⟩:=ba hy
   have cL:i<vb.length:=(aQ hx)
   have wF:=z _ _ fB
   have Ai:=sz b (Yq rY)
   have hg:=x8 (x:=x) (t:=t) rY OE
   have Xq:((cg bs ws x t).take i).length<=900:=by rw[Yu,oV hlen];lia
   have L6:(upd H2 pr (.tup [.ref pp,.int w0])) D=some (.lst (((cg bs ws x t).take i).map V.int)):=by rw[ar (ao mM zm)];show mM
   have keep:∀u,∀c o,H c=some o->(upd (upd H2 pr (.tup [.ref pp,.int w0])) D u) c=some o:=fun u c o hc=>by
     have Cf:=z c o hc
     rw[ar (ao hc hD),ar (ao Cf zm)]
     show Cf
   show⟨pr,_,U,bM.of ae,U,_,_,U,⟨pp,_,U,bM.of (by rw[ar (ao wF zm)];show wF),U,_,_,U,_,_,U,U,_,_,U,U,?_⟩⟩
   show bF (A:=fun H3=>cf _ D _ H3 _) ?_
   show⟨_,U,_,U,U,_,U,?_⟩
   show aN (fun c=>?_) (fun c=>?_)
   . have c':b.1=x:=by have:=cZ c;injection this
     show⟨_,U,_,U,_,_,U,U,(by change(0:Int)<b.2;lia),_,L6,aD (by rw[Yk];lia),aB (Pv:=fun i H2=>(∀b o,H b=some o->H2 b=some o)/\H2 D=some (.lst (((cg bs ws x t).take i).map V.int))) (by repeat' constructor) cL ⟨keep _,?_⟩⟩
     rw[ae,Yv,hg,bj c',Yt]
     rfl
   . have c':¬ b.1=x:=fun z=>c (cH (by rw[z]))
     show⟨_,U,_,L6,aD (by rw[Yk];lia),aB (Pv:=fun i H2=>(∀b o,H b=some o->H2 b=some o)/\H2 D=some (.lst (((cg bs ws x t).take i).map V.int))) (by repeat' constructor) cL ⟨keep _,?_⟩⟩
     rw[ae,Yv,hg,bg c',Yt]
     rfl
 . obtain⟨z,mM⟩:=z
   have et:(cg bs ws x t).take vb.length=cg bs ws x t:=by rw[Jo,← oV (x:=x) (t:=t) hlen,YR]
   rw[et]at mM
   show q D H2 hD z mM
def br (bs:aj)(ws:List Int):Nd->Option (List Int×Int×List Int)
 | .fin=>none
 | .put x s n=>some ([],n,cg bs ws x (s.worth fun z y=>eJ bs ws y))
 | .say s n=>some ([s.worth fun z y=>eJ bs ws y],n,ws)
 | .test c n o=>some ([],if(c.holds fun z y=>eJ bs ws y)=true then n else o,ws)
structure mG (H:Hp)(v:V)(wa:Addr)(bs:aj)(ws:List Int)(ins:List Str)(nds:List Nd)(pl:Int)(nd:Nd)(m:Int):Prop where
 pa:di H v bs ins nds
 ndn:(bs.map (·.1)).Nodup
 len:bs.length<=900
 sz:∀b∈bs,1<=b.2
 wl:H wa=some (.lst (ws.map V.int))
 pw:Paired Within (bs.map (·.2)) ws
 p0:0<=pl
 here:nds[pl.toNat]?=some nd
 gd:nd.good (·∈bs.map (·.1)) m 19
def di.same {H H':Hp}{v:V}{bs:aj}{ins:List Str}{nds:List Nd}(h:di H v bs ins nds)(s:ah H H'):di H' v bs ins nds:=by
 obtain⟨p,B,I,N,vb,vn,rfl,hp,hB,hI,hN,pb,pn⟩:=h
 show⟨p,B,I,N,vb,vn,U,s _ _ hp,s _ _ hB,s _ _ hI,s _ _ hN,Paired.aZ pb fun y y z=>Tp.keep (ah.tk s) z,Paired.aZ pn fun y y z=>p4.keep (ah.tk s) z⟩
def mG.ll {H:Hp}{v:V}{wa:Addr}{bs:aj}{ws:List Int}{ins:List Str}{nds:List Nd}{pl:Int}{nd:Nd}{m:Int}(h:mG H v wa bs ws ins nds pl nd m):bs.length=ws.length:=by
 have:=Paired.length h.pw
 rw[Yk]at this
 show this
structure Told (H H':Hp)(r l1 l2:Addr)(said:List Int)(n:Int)(ws':List Int):Prop where
 s:ah H H'
 hr:H r=none
 h1:H l1=none
 h2:H l2=none
 er:H' r=some (.tup [.ref l1,.int n,.ref l2])
 e1:H' l1=some (.lst (said.map V.int))
 e2:H' l2=some (.lst (ws'.map V.int))
 ne:l1≠l2
def rh:Sp:=fun vs H Q z=>∃(v:V) (pl:Int) (wa:Addr) (bs:aj) (ws:List Int) (ins:List Str) (nds:List Nd) (nd:Nd) (m:Int),vs=[v,.int pl,.ref wa]/\mG H v wa bs ws ins nds pl nd m /\
 (br bs ws nd=none->∀H',ah H H'->Q .bJ H')/\∀said n ws',br bs ws nd=some (said,n,ws')->∀r l1 l2 H',Told H H' r l1 l2 said n ws'->Q (.ref r) H'
def kF:aC ["program","place","worths","node","known"] ["program","place","worths"] (aq sZ):=df
def uX {f:Addr}{fd:Yx}(F:b9 K "step_at" "step_at" sZ f fd)(m_list:mg "list"=none)(KW:pX P w K mg base "known_worths" ["program","worths","side"] 24 iD "box")(WP:aS P w K mg base "worths_put" ["program","worths","put_name","told"] 24 rj)
    (WB:aS P w K mg base "worth_by" ["known","sum_told"] 24 (cR 20)) (HB:aS P w K mg base "holds_by" ["known","condition"] 24 (dP 20)):aO P w K mg base bU 25 f fd ["program","place","worths"] rh:=by
 show F.c0 kF fun cdv A outer s H vs Q E hr h=>?_
 obtain⟨v,pl,wa,bs,ws,ins,nds,nd,m,rfl,pre,qn,qs⟩:=h
 show⟨_,acX (acj (acw 3 kF.nd (ack acD (ack acp (Y 0) aci) (Y 1)))
   (acj (acy (acr acC (ack acp (Y 3) aci) acu) (acn (acq acR)) acz)
   (acj (acw 4 kF.nd (Pj KW hr U (L (Y 0) (L (Y 2) M))))
   (acj (acy (acr acC (ack acp (Y 3) aci) acu) (acn (acq (acx (L (acB M) (L (ack acp (Y 3) aci) (L (acm WP hr U (L (Y 0) (L (Y 2) (L (ack acp (Y 3) aci) (L (acm WB hr U (L (Y 4) (L (ack acp (Y 3) aci) M))) M))))) M)))))) acz)
   (acj (acy (acr acC (ack acp (Y 3) aci) acu) (acn (acq (acx (L (acB (L (acm WB hr U (L (Y 4) (L (ack acp (Y 3) aci) M))) M)) (L (ack acp (Y 3) aci) (L (acP adg U m_list (by right) (L (Y 2) M)) M)))))) acz)
   (acj (acy (acW (acm HB hr U (L (Y 4) (L (ack acp (Y 3) aci) M)))) (acn (acq (acx (L (acB M) (L (ack acp (Y 3) aci) (L (acP adg U m_list (by right) (L (Y 2) M)) M)))))) acz)
   (acn (acq (acx (L (acB M) (L (ack acp (Y 3) aci) (L (acP adg U m_list (by right) (L (Y 2) M)) M)))))))))))),?_⟩
 obtain⟨p,B,I,N,vb,vn,rfl,hp,hB,hI,hN,pb,pn⟩:=pre.pa
 have cL:pl.toNat<nds.length:=(aQ pre.here)
 have Xt:vn.length=nds.length:=Paired.length pn
 obtain⟨x0,G4⟩ : ∃x0,vn[pl.toNat]?=some x0:=⟨vn[pl.toNat]'(by lia),Yn (by lia)⟩
 have oB:jQ vn pl=some x0:=by
   have:=aV G4
   rw[YA pre.p0]at this
   show this
 have gY:=Paired.IK pn G4 pre.here
 have gd:=pre.gd
 show⟨_,U,?_⟩
 show aP hp U ?_
 show⟨_,U,?_⟩
 show eA hN oB ?_
 cases nd with
 | fin=>
   obtain⟨x,rfl,hx⟩:=gY
   show⟨_,U,?_⟩
   show aP hx U ?_
   show⟨U,_,U,?_⟩
   show aN (fun q=>?_) (fun c=>az (cH rfl) c)
   show qn rfl _ (same_refl _)
 | put nm e n=>
   obtain⟨u,⟨x,rfl,hx⟩,eu⟩:=gY
   obtain⟨g1,g2,g3,g4,g5,g6⟩:=gd
   show⟨_,U,?_⟩
   show aP hx U ?_
   show⟨U,_,U,?_⟩
   show aN (fun c=>az (cZ c) (by left)) (fun q=>?_)
   show⟨_,U,_,U,.ref p,wa,"box",bs,ws,U,⟨p,B,_,_,vb,U,hp,hB,pb⟩,pre.ndn,pre.len,pre.wl,pre.ll,fun D H1 hD s1 hk=>?_⟩
   have kn:B7 H1 D (LK bs) (fun q y=>eJ bs ws y):=⟨_,hk,fun t x h=>by rw[h.1];show fC "box" bs ws x pre.ll h.2⟩
   have fK:=s1 _ _ hx
   have Lx:=s1 _ _ pre.wl
   show⟨_,U,?_⟩
   show aP fK U ?_
   show⟨U,_,U,?_⟩
   show aN (fun q=>?_) (fun c=>az (cH rfl) c)
   show⟨aes,fun l1 hl1=>?_⟩
   have s2:=af hl1 (.lst [])
   have e1:(upd H1 l1 (.lst [])) l1=some (.lst []):=ae
   generalize upd H1 l1 (.lst [])=H2 at s2 e1 ⊢
   have s02:=aa s1 s2
   have r8:=s2 _ _ fK
   show⟨_,U,?_⟩
   show aP r8 U ?_
   show⟨_,U,_,U,_,U,?_⟩
   show aP r8 U ?_
   show⟨_,U,_,U,?_⟩
   show aP r8 U ?_
   show⟨D,u,e,_,_,U,kn.same s2,jR bs,eu.same s02,g2,g3,by lia,?_⟩
   show⟨.ref p,wa,nm,_,bs,ws,U,⟨p,B,_,_,vb,U,s02 _ _ hp,s02 _ _ hB,Paired.aZ pb fun q q z=>Tp.keep (ah.tk s02) z⟩,pre.len,pre.sz,s02 _ _ pre.wl,pre.ll,fun l2 H3 hl2 s3 e2=>⟨aev,fun r iU=>?_⟩⟩
   have s4:=af iU (.tup [.ref l1,.int n,.ref l2])
   have s03:=aa s02 s3
   show qs _ _ _ rfl r l1 l2 _ ⟨aa s03 s4,ag s03 iU,ag s1 hl1,ag s02 hl2,ae,s4 _ _ (s3 _ _ e1),s4 _ _ e2,ao e1 hl2⟩
 | say e n=>
   obtain⟨u,⟨x,rfl,hx⟩,eu⟩:=gY
   obtain⟨g2,g3,g4,g5,g6⟩:=gd
   show⟨_,U,?_⟩
   show aP hx U ?_
   show⟨U,_,U,?_⟩
   show aN (fun c=>az (cZ c) (by left)) (fun q=>?_)
   show⟨_,U,_,U,.ref p,wa,"box",bs,ws,U,⟨p,B,_,_,vb,U,hp,hB,pb⟩,pre.ndn,pre.len,pre.wl,pre.ll,fun D H1 hD s1 hk=>?_⟩
   have kn:B7 H1 D (LK bs) (fun q y=>eJ bs ws y):=⟨_,hk,fun t x h=>by rw[h.1];show fC "box" bs ws x pre.ll h.2⟩
   have fK:=s1 _ _ hx
   have Lx:=s1 _ _ pre.wl
   show⟨_,U,?_⟩
   show aP fK U ?_
   show⟨U,_,U,?_⟩
   show aN (fun c=>az (cZ c) (by left)) (fun q=>?_)
   show⟨_,U,?_⟩
   show aP fK U ?_
   show⟨U,_,U,?_⟩
   show aN (fun q=>?_) (fun c=>az (cH rfl) c)
   show⟨_,U,_,U,?_⟩
   show aP fK U ?_
   show⟨D,u,e,_,_,U,kn,jR bs,eu.same s1,g2,g3,by lia,aet,fun l1 hl1=>?_⟩
   have s2:=af hl1 (.lst [.int (e.worth fun q y=>eJ bs ws y)])
   have e1:(upd H1 l1 (.lst [.int (e.worth fun q y=>eJ bs ws y)])) l1=some _:=ae
   generalize upd H1 l1 (.lst [.int (e.worth fun q y=>eJ bs ws y)])=H2 at s2 e1 ⊢
   have s02:=aa s1 s2
   show⟨_,U,?_⟩
   show aP (s2 _ _ fK) U ?_
   show⟨_,U,wa,_,U,.inl (aF.of (s2 _ _ Lx)),fun l2 hl2=>⟨aev,fun r iU=>?_⟩⟩
   have s3:=af hl2 (.lst (ws.map V.int))
   have s4:=af iU (.tup [.ref l1,.int n,.ref l2])
   have s03:=aa s02 s3
   show qs _ _ _ rfl r l1 l2 _ ⟨aa s03 s4,ag s03 iU,ag s1 hl1,ag s02 hl2,ae,s4 _ _ (s3 _ _ e1),s4 _ _ ae,ao e1 hl2⟩
 | test c n o=>
   obtain⟨u,⟨x,rfl,hx⟩,eu⟩:=gY
   obtain⟨g2,g3,g4,g5,g6⟩:=gd
   show⟨_,U,?_⟩
   show aP hx U ?_
   show⟨U,_,U,?_⟩
   show aN (fun c=>az (cZ c) (by left)) (fun q=>?_)
   show⟨_,U,_,U,.ref p,wa,"box",bs,ws,U,⟨p,B,_,_,vb,U,hp,hB,pb⟩,pre.ndn,pre.len,pre.wl,pre.ll,fun D H1 hD s1 hk=>?_⟩
   have kn:B7 H1 D (LK bs) (fun q y=>eJ bs ws y):=⟨_,hk,fun t x h=>by rw[h.1];show fC "box" bs ws x pre.ll h.2⟩
   have fK:=s1 _ _ hx
   have Lx:=s1 _ _ pre.wl
   show⟨_,U,?_⟩
   show aP fK U ?_
   show⟨U,_,U,?_⟩
   show aN (fun c=>az (cZ c) (by left)) (fun q=>?_)
   show⟨_,U,?_⟩
   show aP fK U ?_
   show⟨U,_,U,?_⟩
   show aN (fun c=>az (cZ c) (by left)) (fun q=>?_)
   show⟨_,U,_,U,?_⟩
   show aP fK U ?_
   show⟨D,u,c,_,_,U,kn,jR bs,eu.same s1,g2,g3,by lia,_,U,?_⟩
   show aN (fun hc=>?_) (fun hc=>?_)
   . show⟨aes,fun l1 hl1=>?_⟩
     have s2:=af hl1 (.lst [])
     have e1:(upd H1 l1 (.lst [])) l1=some (.lst []):=ae
     generalize upd H1 l1 (.lst [])=H2 at s2 e1 ⊢
     have s02:=aa s1 s2
     show⟨_,U,?_⟩
     show aP (s2 _ _ fK) U ?_
     show⟨_,U,wa,_,U,.inl (aF.of (s2 _ _ Lx)),fun l2 hl2=>⟨aev,fun r iU=>?_⟩⟩
     have s3:=af hl2 (.lst (ws.map V.int))
     have s4:=af iU (.tup [.ref l1,.int n,.ref l2])
     have s03:=aa s02 s3
     show qs [] n ws (by change some _=some _;rw[bj hc]) r l1 l2 _ ⟨aa s03 s4,ag s03 iU,ag s1 hl1,ag s02 hl2,ae,s4 _ _ (s3 _ _ e1),s4 _ _ ae,ao e1 hl2⟩
   . show⟨aes,fun l1 hl1=>?_⟩
     have s2:=af hl1 (.lst [])
     have e1:(upd H1 l1 (.lst [])) l1=some (.lst []):=ae
     generalize upd H1 l1 (.lst [])=H2 at s2 e1 ⊢
     have s02:=aa s1 s2
     show⟨_,U,?_⟩
     show aP (s2 _ _ fK) U ?_
     show⟨_,U,wa,_,U,.inl (aF.of (s2 _ _ Lx)),fun l2 hl2=>⟨aev,fun r iU=>?_⟩⟩
     have s3:=af hl2 (.lst (ws.map V.int))
     have s4:=af iU (.tup [.ref l1,.int o,.ref l2])
     have s03:=aa s02 s3
     show qs [] o ws (by change some _=some _;rw[bg hc]) r l1 l2 _ ⟨aa s03 s4,ag s03 iU,ag s1 hl1,ag s02 hl2,ae,s4 _ _ (s3 _ _ e1),s4 _ _ ae,ao e1 hl2⟩
def eW:aj->List Int->List (Key×V)
 | b::bs,w::ws=>(.inr b.1,.int w)::eW bs ws
 | _,_=>[]
theorem iW:∀(bs:aj) (ws:List Int) (k:Key),k∈(eW bs ws).map (·.1)->∃x∈bs.map (·.1),k=.inr x
 | [],_,_,h=>by simp[eW]at h
 | _::_,[],_,h=>by simp[eW]at h
 | b::bs,w::ws,k,h=>by
   rcases fM h with z|z
   . show⟨b.1,bu (.inl rfl),z⟩
   . obtain⟨x,hx,e⟩:=iW bs ws k z
     show⟨x,bu (.inr hx),e⟩
theorem gj:∀(kvs d:List (Key×V)) (k:Key),k∉kvs.map (·.1)->aU (putAll d kvs) k=aU d k
 | [],_,_,_=>rfl
 | p::r,d,k,h=>by
   change aU (putAll (putK d p.1 p.2) r) k=_
   rw[gj r _ k (fun z=>h (bu (.inr z))),bA,bg (fun z=>h (bu (.inl z)))]
theorem gm:∀(bs:aj) (ws:List Int) (d:List (Key×V)) (x:Str),bs.length=ws.length->(bs.map (·.1)).Nodup->x∈bs.map (·.1)->aU (putAll d (eW bs ws)) (.inr x)=some (.int (eJ bs ws x))
 | [],_,_,_,_,_,h=>by simp at h
 | _::_,[],_,_,h,_,_=>by simp at h
 | b::bs,w::ws,d,x,hl,nd,hx=>by
   rw[YM,aas]at nd
   change aU (putAll (putK d (.inr b.1) (.int w)) (eW bs ws)) (.inr x)=some (.int (if b.1=x then w else eJ bs ws x))
   by_cases e:b.1=x
   . rw[bj e,gj _ _ _ (fun z=>by
       obtain⟨y,hy,e2⟩:=iW bs ws _ z
       injection e2 with e2
       subst e2
       show nd.1 (e▸hy)),bA,bj (by rw[e])]
   . rw[bg e]
     show gm bs ws _ x (by simpa using hl) nd.2 ?_
     rcases fM hx with z|z
     . show az z.symm e
     . show z
abbrev yo:Stmt:=top 16
abbrev qV:Stmt:=top 17
def cJ (bs:aj)(x:Str):Int:=eJ bs (bs.map (·.2)) x
def Es (bs:aj):List (Key×V):=eW bs (bs.map (·.2))
theorem oT {H:Hp}:∀{vb:List V} {bs:aj},Paired (eR H) vb bs->Paired (mE H) vb (Es bs)
 | _,_,.nil=>.nil
 | _,_,.cons ⟨p,e,h⟩ r=>.cons ⟨p,e,h⟩ (oT r)
def pU (ins:List Str):aj:=ins.map fun x=>(x,0)
def dZ (ins:List Str):(pU ins).map (·.1)=ins:=by
 unfold pU
 rw[ZK]
 show List.map_id _
def wo (ins:List Str)(iw:List Int)(y:Str):Int:=eJ (pU ins) iw y
theorem zg:∀(ins:List Str) (iw:List Int),(ins.map (Sum.inr:Str->Key)).zip (iw.map V.int)=eW (pU ins) iw
 | [],_=>by simp[pU,eW]
 | _::_,[]=>by simp[pU,eW]
 | x::ins,w::iw=>by
   change(Sum.inr x,V.int w)::(ins.map (Sum.inr:Str->Key)).zip (iw.map V.int)=(Sum.inr x,V.int w)::eW (pU ins) iw
   rw[zg ins iw]
theorem nK:∀{bs:aj} {ws:List Int} {x:Str},x∉bs.map (·.1)->eJ bs ws x=0
 | [],_,_,_=>rfl
 | _::_,[],_,_=>rfl
 | b::bs,w::ws,x,h=>by
   change(if b.1=x then w else eJ bs ws x)=0
   rw[bg (fun e=>h (bu (.inl e.symm)))]
   show nK fun z=>h (bu (.inr z))
def bN (bs:aj)(ins:List Str)(iw:List Int):List Int:=bs.map fun b=>wo ins iw b.1
theorem eI:∀{bs:aj} {b:Str×Int},(bs.map (·.1)).Nodup->b∈bs->cJ bs b.1=b.2
 | [],_,_,h=>nomatch h
 | c::bs,b,nd,h=>by
   rw[YM,aas]at nd
   change(if c.1=b.1 then c.2 else eJ bs (bs.map (·.2)) b.1)=b.2
   rcases fM h with rfl|h
   . rw[bj rfl]
   . rw[bg (fun e:c.1=b.1=>nd.1 (by rw[e];show mX ⟨b,h,rfl⟩))]
     show eI nd.2 h
theorem wq {sz:Str->Int}:∀{ins:List Str} {iw:List Int} {y:Str},Paired Within (ins.map sz) iw->y∈ins->0<=wo ins iw y/\wo ins iw y<sz y
 | [],_,_,_,h=>nomatch h
 | x::ins,[],_,h,_=>nomatch h
 | x::ins,w::iw,y,.cons r t,h=>by
   change 0<=(if x=y then w else wo ins iw y)/\(if x=y then w else wo ins iw y)<sz y
   by_cases e:x=y
   . rw[bj e,← e]
     show r
   . rw[bg e]
     rcases fM h with z|z
     . show az z.symm e
     . show wq t z
def fW {bs:aj}{ins:List Str}{iw:List Int}(nd:(bs.map (·.1)).Nodup)(sz:∀b∈bs,1<=b.2)(pw:Paired Within (ins.map (cJ bs)) iw):Paired Within (bs.map (·.2)) (bN bs ins iw):=by
 have go:∀cs:aj,(∀c∈cs,c∈bs)->Paired Within (cs.map (·.2)) (cs.map fun b=>wo ins iw b.1):=fun cs=>by
   induction cs with
   | nil=>show fun z=>.nil
   | cons c cs ih=>
     intro h
     show .cons ?_ (ih fun d hd=>h d (bu (.inr hd)))
     have hc:=h c (bu (.inl rfl))
     have h1:=sz c hc
     by_cases m:c.1∈ins
     . obtain⟨a1,a2⟩:=wq pw m
       rw[eI nd hc]at a2
       show⟨a1,a2⟩
     . have e:wo ins iw c.1=0:=nK (by rw[dZ];show m)
       change Within c.2 (wo ins iw c.1)
       rw[e]
       show⟨aaS 0,by lia⟩
 show go bs fun z h=>h
structure Fits (bs:aj)(ins:List Str):Prop where
 nd:(bs.map (·.1)).Nodup
 len:bs.length<=900
 sz:∀b∈bs,1<=b.2
 ind:ins.Nodup
 sub:∀x∈ins,x∈bs.map (·.1)
 ilen:ins.length<=900
def kH:Sp:=fun vs H Q z=>∃(v:V) (bs:aj) (ins:List Str) (nds:List Nd),vs=[v]/\di H v bs ins nds/\Fits bs ins/\∀l H',H l=none->ah H H'->H' l=some (.lst ((ins.map (cJ bs)).map V.int))->Q (.ref l) H'
def yC:aC ["program","sizes"] ["program"] (aq yo):=df
def AJ {f:Addr}{fd:Yx}(F:b9 K "input_sizes" "input_sizes" yo f fd)(m_dict:mg "dict"=none):aO P w K mg base bU 1 f fd ["program"] kH:=by
 show F.c0 yC fun cdv A outer s H vs Q E hr h=>?_
 obtain⟨v,bs,ins,nds,rfl,pa,ft,q⟩:=h
 show⟨_,acX (acj (acw 1 yC.nd (acP L3.vS U m_dict (by right) (L (ack acp (Y 0) aci) M)))
   (acn (acq (acO [none,some 1] ["name","sizes"] (fP yo) U (acI (ack acp (Y 0) aci)) (fun y y y y y=>⟨(aco 0 (dE ["name","sizes"])),acH,(ada (bR hr _ (by left)) (Y 1) (Y 0))⟩))))),?_⟩
 obtain⟨p,B,I,N,vb,vn,rfl,hp,hB,hI,hN,pb,pn⟩:=pa
 have ilen:=ft.ilen
 show⟨_,U,?_⟩
 show aP hp U ?_
 show⟨B,vb,Es bs,U,hB,oT pb,fun D hD=>?_⟩
 have s1:=af hD (.dK (putAll [] (Es bs)))
 have eD:(upd H D (.dK (putAll [] (Es bs)))) D=some (.dK (putAll [] (Es bs))):=ae
 generalize upd H D (.dK (putAll [] (Es bs)))=H2 at s1 eD ⊢
 have QL:=s1 _ _ hI
 show⟨_,U,?_⟩
 show aP (s1 _ _ hp) U ?_
 show⟨I,U,⟨_,aF.of QL⟩,fun l hl=>?_⟩
 show aT (xs:=ins.map V.str) (fun i H3=>(∀b o,H2 b=some o->H3 b=some o)/\H3 l=some (.lst (((ins.map (cJ bs)).take i).map V.int))) ⟨af hl _,ae⟩ (fun i H3 y z=>aF.of (z.1 _ _ QL)) (fun i x0 H3 hx z=>?_) (fun H3 z=>?_)
 . obtain⟨z,wA⟩:=z
   have cL:=(aQ hx)
   obtain⟨x,wJ,rfl⟩:=ba hx
   have hv:=gm bs (bs.map (·.2)) [] x (by rw[Yk]) ft.nd (ft.sub x (Yq wJ))
   have g:=cK.k (k:=.inr x) (z _ _ eD)
   rw[show aU (putAll [] (Es bs)) (.inr x)=some (.int (cJ bs x))from hv]at g
   show au ?_
   show bF (A:=fun H4=>cf _ l _ H4 _) ?_
   show⟨_,U,_,U,D,_,U,g,_,wA,aD (by rw[Yk,Yu,Yk];lia),aB (Pv:=fun i H3=>(∀b o,H2 b=some o->H3 b=some o)/\H3 l=some (.lst (((ins.map (cJ bs)).take i).map V.int))) (by repeat' constructor) cL ⟨fun c o hc=>?_,?_⟩⟩
   . rw[ar (ao hc hl)]
     show z c o hc
   . rw[ae,Yv,YD,wJ,Yt]
     rfl
 . obtain⟨z,wA⟩:=z
   have et:(ins.map (cJ bs)).take (ins.map V.str).length=ins.map (cJ bs):=by rw[Yk,← Yk (f:=cJ bs) (as:=ins),YR]
   rw[et]at wA
   show q l H3 (ag s1 hl) (aa s1 z) wA
def nA:Sp:=fun vs H Q z=>∃(v:V) (ia:Addr) (bs:aj) (ins:List Str) (nds:List Nd) (iw:List Int),vs=[v,.ref ia]/\di H v bs ins nds/\Fits bs ins/\H ia=some (.lst (iw.map V.int))/\Paired Within (ins.map (cJ bs)) iw/\∀l H',H l=none->ah H H'->H' l=some (.lst ((bN bs ins iw).map V.int))->Q (.ref l) H'
def tu:aC ["program","inputs","given"] ["program","inputs"] (aq qV):=df
def xt {f:Addr}{fd:Yx}(F:b9 K "beginning_of" "beginning_of" qV f fd)(m_dict:mg "dict"=none)(m_zip:mg "zip"=none)(RW:aS P w K mg base "refuse_worths" ["sizes","worths"] 1 rg)(IS:aS P w K mg base "input_sizes" ["program"] 1 kH):aO P w K mg base bU 2 f fd ["program","inputs"] nA:=by
 show F.c0 tu fun cdv A outer s H vs Q E hr h=>?_
 obtain⟨v,ia,bs,ins,nds,iw,rfl,pa,ft,hw,pw,q⟩:=h
 show⟨_,acX (acj (acN (acm RW hr U (L (acm IS hr U (L (Y 0) M)) (L (Y 1) M))))
   (acj (acw 2 tu.nd (L3.zP U m_dict U m_zip (L (ack acp (Y 0) aci) (L (Y 1) M))))
   (acn (acq (acO [none,none,some 2] ["name","size","given"] (fP qV) U (acI (ack acp (Y 0) aci)) (fun x x x x x=>⟨(acF 2 (acs (aco 0 (dE ["name","size","given"])) (acs (aco 1 (dE ["name","size","given"])) acE))),acH,(L3.v3 (bR hr _ (by left)) (Y 2) (Y 0) aci)⟩)))))),?_⟩
 have hlen:ins.length=iw.length:=by have:=Paired.length pw;rw[Yk]at this;show this
 have ilen:=ft.ilen
 have S8:=ft.len
 show⟨_,U,v,bs,ins,nds,U,pa,ft,fun sl Ha Aj sa ea=>?_⟩
 show⟨_,U,sl,ia,ins.map (cJ bs),iw,U,ea,sa _ _ hw,pw,fun H1 sb=>?_⟩
 have s1:=aa sa sb
 obtain⟨p,B,I,N,vb,vn,rfl,hp,hB,hI,hN,pb,pn⟩:=pa.same s1
 have Jo:vb.length=bs.length:=Paired.length pb
 have Vk:=s1 _ _ hw
 have Og:(ins.map V.str)=(ins.map (Sum.inr:Str->Key)).map kV:=by rw[ZK];rfl
 show⟨_,U,?_⟩
 show aP hp U ?_
 show⟨_,U,I,ia,ins.map Sum.inr,iw.map V.int,U,by rw[← Og];show aF.of hI,aF.of Vk,by rw[Yk,Yk];show hlen,by rw[Yk];lia,fun D hD=>?_⟩
 rw[zg]
 have s2:=af hD (.dK (putAll [] (eW (pU ins) iw)))
 have eD:(upd H1 D (.dK (putAll [] (eW (pU ins) iw)))) D=some (.dK (putAll [] (eW (pU ins) iw))):=ae
 generalize upd H1 D (.dK (putAll [] (eW (pU ins) iw)))=H3 at s2 eD ⊢
 have QK:=s2 _ _ hB
 have V9:Paired (eR H3) vb bs:=Paired.aZ pb fun x x z=>Tp.keep (ah.tk s2) z
 show⟨_,U,?_⟩
 show aP (s2 _ _ hp) U ?_
 show⟨B,U,⟨_,aF.of QK⟩,fun l hl=>?_⟩
 show aT (xs:=vb) (fun i H4=>(∀b o,H3 b=some o->H4 b=some o)/\H4 l=some (.lst (((bN bs ins iw).take i).map V.int))) ⟨af hl _,ae⟩ (fun i H4 x z=>aF.of (z.1 _ _ QK)) (fun i x0 H4 hx z=>?_) (fun H4 z=>?_)
 . obtain⟨z,Cm⟩:=z
   obtain⟨b,rY,pp,rfl,fB⟩:=Paired.get V9 hx
   have cL:i<vb.length:=(aQ hx)
   have OB:(aU (putAll [] (eW (pU ins) iw)) (.inr b.1)).getD (.int 0)=V.int (wo ins iw b.1):=by
     by_cases m:b.1∈ins
     . have hv:=gm (pU ins) iw [] b.1 (by unfold pU;rw[Yk];show hlen) (by rw[dZ];show ft.ind) (by rw[dZ];show m)
       rw[hv]
       rfl
     . have hv:aU (putAll [] (eW (pU ins) iw)) (.inr b.1)=none:=by
         rw[gj _ _ _ (fun zz=>by
           obtain⟨y,hy,e2⟩:=iW (pU ins) iw _ zz
           injection e2 with e2
           rw[dZ]at hy
           show m (e2▸hy))]
         rfl
       rw[hv,show wo ins iw b.1=0 from nK (by rw[dZ];show m)]
       rfl
   show jL (z _ _ fB) ?_
   show bF (A:=fun H5=>cf _ l _ H5 _) ?_
   show⟨_,U,D,U,.inl ⟨_,.inl (z _ _ eD)⟩,_,U,_,cK.k (k:=.inr b.1) (z _ _ eD),?_⟩
   rw[OB]
   show⟨_,Cm,aD (by rw[Yk,Yu];unfold bN;rw[Yk];lia),aB (Pv:=fun i H4=>(∀b o,H3 b=some o->H4 b=some o)/\H4 l=some (.lst (((bN bs ins iw).take i).map V.int))) (by repeat' constructor) cL ⟨fun c o hc=>?_,?_⟩⟩
   . rw[ar (ao hc hl)]
     show z c o hc
   . rw[ae,Yv,show(bN bs ins iw)[i]?=some (wo ins iw b.1)by unfold bN;rw[YD,rY];rfl,Yt]
     rfl
 . obtain⟨z,Cm⟩:=z
   have et:(bN bs ins iw).take vb.length=bN bs ins iw:=by
     have:vb.length=(bN bs ins iw).length:=by unfold bN;rw[Yk];show Jo
     rw[this,YR]
   rw[et]at Cm
   show q l H4 (ag (aa s1 s2) hl) (aa s1 (aa s2 z)) Cm
abbrev sY:Stmt:=top 19
def bW (bs:aj)(nds:List Nd):Nat->Int->List Int->List Int
 | 0,_,_=>[]
 | n+1,pl,ws=>match nds[pl.toNat]? with
   | none=>[]
   | some nd=>match br bs ws nd with
     | none=>[]
     | some r=>r.1++bW bs nds n r.2.1 r.2.2
def ji {bs:aj}{nds:List Nd}{n:Nat}{pl:Int}{ws:List Int}{nd:Nd}{r:List Int×Int×List Int}(h1:nds[pl.toNat]?=some nd)(h2:br bs ws nd=some r):bW bs nds (n+1) pl ws=r.1++bW bs nds n r.2.1 r.2.2:=by
 change(match nds[pl.toNat]? with|none=>[]|some nd=>match br bs ws nd with|none=>[]|some r=>r.1++bW bs nds n r.2.1 r.2.2)=_
 rw[h1]
 change(match br bs ws nd with|none=>[]|some r=>r.1++bW bs nds n r.2.1 r.2.2)=_
 rw[h2]
def jk {bs:aj}{nds:List Nd}{n:Nat}{pl:Int}{ws:List Int}{nd:Nd}(h1:nds[pl.toNat]?=some nd)(h2:br bs ws nd=none):bW bs nds n pl ws=[]:=by
 cases n with
 | zero=>rfl
 | succ n=>
   change(match nds[pl.toNat]? with|none=>[]|some nd=>match br bs ws nd with|none=>[]|some r=>r.1++bW bs nds n r.2.1 r.2.2)=_
   rw[h1]
   change(match br bs ws nd with|none=>[]|some r=>r.1++bW bs nds n r.2.1 r.2.2)=_
   rw[h2]
theorem kB {x:Str}{t:Int}:∀{bs:aj} {ws:List Int},(∀b∈bs,1<=b.2)->Paired Within (bs.map (·.2)) ws->Paired Within (bs.map (·.2)) (cg bs ws x t)
 | [],_,_,.nil=>.nil
 | b::bs,w::ws,sz,.cons r q=>by
   have h1:=sz b (bu (.inl rfl))
   show .cons ?_ (kB (fun c hc=>sz c (bu (.inr hc))) q)
   change Within b.2 (if b.1=x then t%b.2 else w)
   by_cases e:b.1=x
   . rw[bj e]
     show⟨aa1 _ (by lia),aaB _ (by lia)⟩
   . rw[bg e]
     show r
def fI {bs:aj}{ws:List Int}{nd:Nd}{m:Int}{d:Nat}{r:List Int×Int×List Int}(sz:∀b∈bs,1<=b.2)(pw:Paired Within (bs.map (·.2)) ws)(gd:nd.good (·∈bs.map (·.1)) m d)(h:br bs ws nd=some r):0<=r.2.1/\r.2.1<m/\Paired Within (bs.map (·.2)) r.2.2/\r.1.length<=1:=by
 cases nd with
 | fin=>cases h
 | put x s n=>
   cases h
   show⟨gd.2.2.2.2.1,gd.2.2.2.2.2,kB sz pw,YY _⟩
 | say s n=>
   cases h
   show⟨gd.2.2.2.1,gd.2.2.2.2,pw,Yo _⟩
 | test c n o=>
   cases h
   show⟨?_,?_,pw,YY _⟩
   . change 0<=(if _ then n else o)
     split
     . show gd.2.2.2.1
     . show gd.2.2.2.2.2.1
   . change(if _ then n else o)<m
     split
     . show gd.2.2.2.2.1
     . show gd.2.2.2.2.2.2
def pE:Sp:=fun vs H Q z=>∃(v:V) (ia:Addr) (steps:Int) (bs:aj) (ins:List Str) (nds:List Nd) (iw:List Int),vs=[v,.ref ia,.int steps]/\di H v bs ins nds/\Fits bs ins/\H ia=some (.lst (iw.map V.int))/\Paired Within (ins.map (cJ bs)) iw /\
 1<=nds.length/\(∀e∈nds,e.good (·∈bs.map (·.1)) nds.length 19)/\0<=steps/\steps<=20000/\∀l H',H l=none->ah H H'->H' l=some (.lst ((bW bs nds steps.toNat 0 (bN bs ins iw)).map V.int))->Q (.ref l) H'
def dH:aC ["program","inputs","steps","place","worths","said","at","step","spoken"] ["program","inputs","steps"] (aq sY):=df
def uV {f:Addr}{fd:Yx}(F:b9 K "said_in" "said_in" sY f fd)(m_range:mg "range"=none)(BG:aS P w K mg base "beginning_of" ["program","inputs"] 30 nA)(SA:aS P w K mg base "step_at" ["program","place","worths"] 30 rh):aO P w K mg base bU 31 f fd ["program","inputs","steps"] pE:=by
 show F.c0 dH fun cdv A outer s H vs Q E hr h=>?_
 obtain⟨v,ia,steps,bs,ins,nds,iw,rfl,pa,ft,hw,pw,n1,gd,Ya,Yb,q⟩:=h
 show⟨_,acX (acj (L3.Kh 3 4 5 dH.nd (L aci (L (acm BG hr U (L (Y 0) (L (Y 1) M))) (L (acB M) M))))
   (acj (acM (acU U m_range (L (Y 2) M)) (aco 6 dH.nd) (acj (acw 7 dH.nd (acm SA hr U (L (Y 0) (L (Y 3) (L (Y 4) M)))))
   (acj (acy (acr ac5 (Y 7) acR) (acn (acq (Y 5))) acz)
   (acj (acJ (Y 7) (acF 3 (acs (aco 8 dH.nd) (acs (aco 3 dH.nd) (acs (aco 4 dH.nd) acE)))))
   (acn (acN (adl (Y 5) (L (Y 8) M))))))))
   (acn (acq (Y 5))))),?_⟩
 have NR:=fW ft.nd ft.sz pw
 generalize Jn:bW bs nds steps.toNat 0 (bN bs ins iw)=total at q
 show⟨_,U,_,U,v,ia,bs,ins,nds,iw,U,pa,ft,hw,pw,fun wa H1 Vl s1 e1=>⟨aes,fun sa kN=>⟨_,_,_,U,?_⟩⟩⟩
 show⟨_,U,steps,U,by lia,by lia,?_⟩
 show fA (lo:=0) (n:=steps.toNat) (fun i σ H2=>∃(pl:Int) (ws pre:List Int) (wb:Addr) (o6 o7 o8:Option V),σ=[some v,some (.ref ia),some (.int steps),some (.int pl),some (.ref wb),some (.ref sa),o6,o7,o8]/\ah H1 H2/\H2 sa=some (.lst (pre.map V.int))/\H2 wb=some (.lst (ws.map V.int))/\total=pre++bW bs nds (steps.toNat-i) pl ws/\pre.length<=i/\0<=pl/\pl<nds.length/\Paired Within (bs.map (·.2)) ws) ?_ ?_ ?_
 . show⟨0,bN bs ins iw,[],wa,_,_,_,U,af kN _,ae,by rw[ar (ao e1 kN)];show e1,by rw[Z2,Jn];rfl,Yo _,aaS 0,by lia,NR⟩
 . rintro i σ H2 hi ⟨pl,ws,pre,wb,o6,o7,o8,rfl,s2,hs2,Eh,vG,Pp,p0,p1,Kz⟩
   obtain⟨nd,gY⟩ : ∃nd,nds[pl.toNat]?=some nd:=⟨nds[pl.toNat]'(by lia),Yn (by lia)⟩
   have g0:=gd nd (Yq gY)
   have hk:steps.toNat-i=(steps.toNat-(i+1))+1:=by lia
   rw[hk]at vG
   show⟨_,U,_,U,_,U,v,pl,wb,bs,ws,ins,nds,nd,_,U,⟨pa.same (aa s1 s2),ft.nd,ft.len,ft.sz,Eh,Kz,p0,gY,g0⟩,fun en H3 s3=>?_,fun sd n ws' es r l1 l2 H3 td=>?_⟩
   . show⟨_,U,U,_,U,?_⟩
     show aN (fun y=>?_) (fun c=>az (cH rfl) c)
     rw[jk gY en,YO]at vG
     show⟨_,U,q sa H3 (ag s1 kN) (aa s1 (aa s2 s3)) ?_⟩
     rw[vG]
     show s3 _ _ hs2
   . show⟨_,U,U,_,U,?_⟩
     show aN (fun c=>az (cZ c) (by simp)) (fun y=>?_)
     obtain⟨q0,q1,q2,q3⟩:=fI ft.sz Kz g0 es
     have wH:=td.s _ _ hs2
     show⟨_,U,?_⟩
     show Lu td.er ?_
     show⟨_,U,.inl ⟨U,_,aF.of wH⟩,_,U,sa,l1,_,_,U,U,wH,td.e1,?_,?_⟩
     . rw[Yk,Yk]
       have:pre.length+sd.length<=20001:=by have:sd.length<=1:=q3;lia
       show YU this (by left)
     have nl:l2≠sa:=fun z=>by have:=td.h2;rw[z,hs2]at this;cases this
     show⟨n,ws',pre++sd,l2,_,_,_,U,aA (aa s2 td.s) kN,by rw[ae,Yt],by rw[ar nl];show td.e2,?_,?_,q0,q1,q2⟩
     . rw[vG,ji gY es,Zl]
     . rw[Ym]
       have:sd.length<=1:=q3
       lia
 . rintro σ H2 ⟨pl,ws,pre,wb,o6,o7,o8,rfl,s2,hs2,Eh,vG,_⟩
   rw[abq,show bW bs nds 0 pl ws=[]from rfl,YO]at vG
   show⟨_,U,q sa H2 (ag s1 kN) (aa s1 s2) (by rw[vG];show hs2)⟩
abbrev yv:Stmt:=top 18
structure Dm (H:Hp)(v:V)(bs:aj)(ins:List Str)(nds:List Nd):Prop where
 pa:di H v bs ins nds
 ft:Fits bs ins
 one:1<=nds.length
 gd:∀e∈nds,e.good (·∈bs.map (·.1)) nds.length 19
def Dm.same {H H':Hp}{v:V}{bs:aj}{ins:List Str}{nds:List Nd}(h:Dm H v bs ins nds)(s:ah H H'):Dm H' v bs ins nds:=⟨h.pa.same s,h.ft,h.one,h.gd⟩
def cj (bs:aj)(nds:List Nd)(st:Int×List Int):Option (List Int×Int×List Int):=(nds[st.1.toNat]?).bind fun nd=>br bs st.2 nd
def fk {bs:aj}{nds:List Nd}{pl:Int}{ws:List Int}{nd:Nd}(h:nds[pl.toNat]?=some nd):cj bs nds (pl,ws)=br bs ws nd:=by
 change(nds[pl.toNat]?).bind (fun nd=>br bs ws nd)=_
 rw[h]
 rfl
def vL (bs:aj)(m:Nat)(st:Int×List Int):Prop:=0<=st.1/\st.1<m/\Paired Within (bs.map (·.2)) st.2
theorem y8 {bs:aj}{nds:List Nd}{s0:Int×List Int}(sz:∀b∈bs,1<=b.2)(gd:∀e∈nds,e.good (·∈bs.map (·.1)) nds.length 19)(h0:vL bs nds.length s0):∀{n:Nat} {st:Int×List Int} {sd:List Int},tr (cj bs nds) n s0=some (st,sd)->vL bs nds.length st/\sd.length<=n
 | 0,st,sd,h=>by
   cases h
   show⟨h0,Yo _⟩
 | n+1,st,sd,h=>by
   cases e1:tr (cj bs nds) n s0 with
   | none=>rw[dQ e1]at h;cases h
   | some y=>
     obtain⟨⟨pl,ws⟩,sy⟩:=y
     obtain⟨⟨p0,p1,pw⟩,sl⟩:=y8 sz gd h0 e1
     cases e2:cj bs nds (pl,ws)with
     | none=>rw[cS e1 e2]at h;cases h
     | some r=>
       obtain⟨nd,gY⟩ : ∃nd,nds[pl.toNat]?=some nd:=⟨nds[pl.toNat]'(by have:pl<nds.length:=p1;have:0<=pl:=p0;lia),Yn _⟩
       rw[cp (u:=r.2) (x:=r.1) e1 e2]at h
       cases h
       rw[fk gY]at e2
       obtain⟨a,b,c,d⟩:=fI sz pw (gd nd (Yq gY)) e2
       show⟨⟨a,b,c⟩,?_⟩
       rw[Ym]
       lia
def keyOf (st:Int×List Int):List NI:=[.inl (.inl st.1),.inr (st.2.map Sum.inl)]
def uJ {a b:Int×List Int}(h:keyOf a=keyOf b):a=b:=by
 unfold keyOf at h
 injection h with h1 h2
 injection h1 with h1
 injection h1 with h1
 injection h2 with h2 _
 injection h2 with h2
 have go:∀{x y:List Int},x.map (Sum.inl:Int->Key)=y.map Sum.inl->x=y:=fun{x}=>by
   induction x with
   | nil=>
     intro y e
     cases y with
     | nil=>rfl
     | cons _ _=>cases e
   | cons u x ih=>
     intro y e
     cases y with
     | nil=>cases e
     | cons v y=>
       rw[YM,YM]at e
       injection e with e1 e2
       injection e1 with e1
       rw[e1,ih e2]
 obtain⟨a1,a2⟩:=a
 obtain⟨b1,b2⟩:=b
 rw[show a1=b1 from h1,show a2=b2 from go h2]
def Ar (ws:List Int):(ws.map (Sum.inl:Int->Key)).map kV=ws.map V.int:=by
 rw[ZK]
 rfl
def ka {H:Hp}{b c:Addr}{pl:Int}{ws:List Int}(h1:H b=some (.tup [.int pl,.ref c]))(h2:H c=some (.tup (ws.map V.int))):dv H b (keyOf (pl,ws)):=
 ⟨_,h1,.cons rfl (.cons ⟨c,rfl,by rw[Ar];show h2⟩ .nil)⟩
theorem r9:∀{bs:aj} {ws:List Int},Paired Within (bs.map (·.2)) ws->ws∈vP bs
 | [],_,.nil=>Y9
 | b::bs,w::ws,.cons r t=>by
   show List.mem_flatMap.mpr ⟨w.toNat,List.mem_range.mpr ?_,mX ⟨ws,r9 t,?_⟩⟩
   . have h1:0<=w:=r.1
     have h2:w<b.2:=r.2
     lia
   . rw[YA r.1]
def Am {bs:aj}{m:Nat}{st:Int×List Int}(h:vL bs m st):st∈zG bs m:=by
 obtain⟨pl,ws⟩:=st
 obtain⟨p0,p1,pw⟩:=h
 show List.mem_flatMap.mpr ⟨pl.toNat,List.mem_range.mpr ?_,mX ⟨ws,r9 pw,?_⟩⟩
 . have:pl<m:=p1
   have:0<=pl:=p0
   lia
 . rw[YA p0]
structure cA (P:Program)(w:World)(f:Int×List Int->Option (List Int×Int×List Int))(s0:Int×List Int)(H:Hp)(d:Addr)(kvs:rK):Prop where
 nd:ND P w [true,false] H d kvs
 at_:∀j p,kvs[j]?=some p->∃t sj tj,tr f j s0=some (t,sj)/\p.1=keyOf t/\p.2.2=.ref tj/\H tj=some (.tup [.int (j:Nat),.int (sj.length:Nat)])
section
variable{f:Int×List Int->Option (List Int×Int×List Int)}{s0:Int×List Int}{H H':Hp}{d:Addr}{kvs:rK}
def cA.keep (x:cA P w f s0 H d kvs)(hd:H' d=some (DN P w d kvs))(ht:TK H H'):cA P w f s0 H' d kvs:=
 ⟨x.nd.keep hd ht,fun j p hp=>let⟨t,sj,tj,a,b,c,e⟩:=x.at_ j p hp;⟨t,sj,tj,a,b,c,ht _ _ e⟩⟩
def cA.same (x:cA P w f s0 H d kvs)(s:ah H H'):cA P w f s0 H' d kvs:=x.keep (s _ _ x.nd.at_) (ah.tk s)
def cA.put {b tv:Addr}{st:Int×List Int}{sd:List Int}(x:cA P w f s0 H d kvs)(kb:dv H b (keyOf st))(hs:tr f kvs.length s0=some (st,sd))(no:valN kvs (keyOf st)=none)(hl:kvs.length<sizeLine)(ht:H tv=some (.tup [.int (kvs.length:Nat),.int (sd.length:Nat)])) :
   cA P w f s0 (upd H d (DN P w d (kvs++[(keyOf st,b,.ref tv)]))) d (kvs++[(keyOf st,b,.ref tv)]):=by
 have tk:TK H (upd H d (DN P w d (kvs++[(keyOf st,b,.ref tv)]))):=fun c us e=>by
   rw[ar (dO e x.nd.at_ (fun z=>nomatch z))]
   show e
 show⟨x.nd.put kb rfl no hl,fun j p hp=>?_⟩
 by_cases hj:j<kvs.length
 . rw[YV hj]at hp
   obtain⟨t,sj,tj,a1,a2,a3,a4⟩:=x.at_ j p hp
   show⟨t,sj,tj,a1,a2,a3,tk _ _ a4⟩
 . have UG:j=kvs.length:=by
     have:=(aQ hp)
     rw[Ym]at this
     simp only[YS,aat]at this
     lia
   subst UG
   rw[Y8 (Yo _),abq]at hp
   cases hp
   show⟨st,sd,tv,hs,U,U,tk _ _ ht⟩
def cA.find {st:Int×List Int}{v:V}(x:cA P w f s0 H d kvs)(h:valN kvs (keyOf st)=some v):∃j sj tj,j<kvs.length/\tr f j s0=some (st,sj)/\v=.ref tj/\H tj=some (.tup [.int (j:Nat),.int (sj.length:Nat)]):=by
 unfold valN at h
 obtain⟨p,hp,rfl⟩:=Option.map_eq_some_iff.mp h
 have hk:p.1=keyOf st:=cZ (List.find?_some (p:=fun p:List NI×Addr×V=>decide (p.1=keyOf st)) hp)
 obtain⟨j,hj⟩:=List.mem_iff_getElem?.mp (aaz hp)
 obtain⟨t,sj,tj,a1,a2,a3,a4⟩:=x.at_ j p hj
 obtain rfl:=uJ (a2.symm.trans hk)
 show⟨j,sj,tj,(aQ hj),a1,a3,a4⟩
def cA.apart (x:cA P w f s0 H d kvs):∀a b y z u v,a<b->b<kvs.length->tr f a s0=some (y,u)->tr f b s0=some (z,v)->y≠z:=by
 intro a b y z u v GW hb h1 h2 e
 subst e
 obtain⟨t,sj,tj,a1,a2,_⟩:=x.at_ a kvs[a] (Yn (by lia))
 obtain⟨t',Wz,Yc,b1,b2,_⟩:=x.at_ b kvs[b] (Yn hb)
 rw[h1]at a1
 cases a1
 rw[h2]at b1
 cases b1
 have n1:(kvs.map (·.1))[a]?=some (keyOf y):=by rw[YD,Yn (by lia)];show congrArg some a2
 have n2:(kvs.map (·.1))[b]?=some (keyOf y):=by rw[YD,Yn hb];show congrArg some b2
 have:=(List.getElem?_inj (by rw[Yk];lia) x.nd.nd).mp (n1.trans n2.symm)
 lia
def cA.bound {bs:aj}{m:Nat}(x:cA P w f s0 H d kvs)(hs:∀j st sd,tr f j s0=some (st,sd)->vL bs m st):kvs.length<=m*nJ bs:=by
 rw[← vO,← Yk (as:=kvs) (f:=(·.1)),← Yk (as:=zG bs m) (f:=keyOf)]
 show sub_len x.nd.nd fun k hk=>?_
 obtain⟨p,hp,rfl⟩:=cX hk
 obtain⟨j,hj⟩:=List.mem_iff_getElem?.mp hp
 obtain⟨t,sj,tj,a1,a2,_⟩:=x.at_ j p hj
 show mX ⟨t,Am (hs j t sj a1),a2.symm⟩
end
def Dn (H H':Hp)(sa:Addr):V->Option (List Int)->Prop
 | ro,none=>ro=.bJ
 | ro,some xs=>∃l,ro=.ref l/\l≠sa/\H l=none/\H' l=some (.lst (xs.map V.int))
def tN:Sp:=fun vs H Q z=>∃(v:V) (ia:Addr) (bs:aj) (ins:List Str) (nds:List Nd) (iw:List Int),vs=[v,.ref ia]/\Dm H v bs ins nds/\H ia=some (.lst (iw.map V.int))/\Paired Within (ins.map (cJ bs)) iw/\nds.length*nJ bs<=100000 /\
 ∀(r sa:Addr) (ro:V) (n:Nat) (sd:List Int) (rd:Option (List Int)) (H':Hp),ah H H'->H r=none->H' r=some (.tup [.ref sa,ro,.int n])->H sa=none->H' sa=some (.lst (sd.map V.int))->Dn H H' sa ro rd->sd.length+(rd.getD []).length<=100000->aX (cj bs nds) (0,bN bs ins iw) (sd,rd,n)->Q (.ref r) H'
def zO {xs ys:List Int}:cy ((xs++ys).map V.int) none (some (xs.length:Int))=xs.map V.int:=by
 unfold cy
 rw[HT.dt]
 change List.take (min xs.length _-0) (List.drop 0 _)=_
 rw[Zo,Z2,Yk,Ym,ZA (by lia),Yt,List.take_left' (Yk ..)]
def uk {xs ys:List Int}:cy ((xs++ys).map V.int) (some (xs.length:Int)) none=ys.map V.int:=by
 unfold cy
 rw[HT.dt]
 have e:min xs.length ((xs++ys).map V.int).length=xs.length:=by rw[Yk,Ym];show ZA (by lia)
 rw[e,Yt,List.drop_left' (Yk ..)]
 show YI ?_
 change _<=HT.bX _ _ none-_
 change _<=(xs.map V.int++ys.map V.int).length-xs.length
 rw[Ym,Yk,Yk]
 lia
def cE:aC ["program","inputs","place","worths","said","met","step","spoken","steps","ahead"] ["program","inputs"] (aq yv):=df
def xC {f:Addr}{fd:Yx}(F:b9 K "run_of" "run_of" yv f fd)(m_len:mg "len"=none)(m_tuple:mg "tuple"=none)(BG:aS P w K mg base "beginning_of" ["program","inputs"] 30 nA)(SA:aS P w K mg base "step_at" ["program","place","worths"] 30 rh):aO P w K mg base bU 31 f fd ["program","inputs"] tN:=by
 show F.c0 cE fun cdv A outer s H vs Q E hr h=>?_
 obtain⟨v,ia,bs,ins,nds,iw,rfl,pg,hw,pw,hN,q⟩:=h
 show⟨_,acX (acj (acJ (acx (L aci (L (acm BG hr U (L (Y 0) (L (Y 1) M))) (L (acB M) (L (L3.Ij (P:=P) (w:=w)) M Az))))) (acF 4 (acs (aco 2 cE.nd) (acs (aco 3 cE.nd) (acs (aco 4 cE.nd) (acs (aco 5 cE.nd) acE))))))
   (acj (L3.rF (L3.EC (P:=P) (w:=w) (bR hr _ (by left)) (acx (L (Y 2) (L (acP L3.jB U m_tuple (by right) (L (Y 3) M)) M))) (Y 5)) (acj (L3.qH (P:=P) (w:=w) (bR hr _ (by left)) (Y 5) (acx (L (Y 2) (L (acP L3.jB U m_tuple (by right) (L (Y 3) M)) M))) (acx (L (acA (L3.vT (P:=P) (w:=w)) U m_len Yy (L (Y 5) M)) (L (acA acG U m_len Yy (L (Y 4) M)) M))))
   (acj (acw 6 cE.nd (acm SA hr U (L (Y 0) (L (Y 2) (L (Y 3) M)))))
   (acj (acy (acr ac5 (Y 6) acR) (acn (acq (acx (L (Y 4) (L acR (L (acv acY (acA (L3.vT (P:=P) (w:=w)) U m_len Yy (L (Y 5) M)) aci) M)))))) acz)
   (acj (acJ (Y 6) (acF 3 (acs (aco 7 cE.nd) (acs (aco 2 cE.nd) (acs (aco 3 cE.nd) acE)))))
   (acn (acN (adl (Y 4) (L (Y 7) M)))))))))
   (acj (acJ (L3.O6 (P:=P) (w:=w) (bR hr _ (by left)) (Y 5) (acx (L (Y 2) (L (acP L3.jB U m_tuple (by right) (L (Y 3) M)) M)))) (acF 2 (acs (aco 8 cE.nd) (acs (aco 9 cE.nd) acE))))
   (acn (acq (acx (L (ac7 (Y 4) (Y 9)) (L (L3.Gm (Y 4) (Y 9)) (L (Y 8) M))))))))),?_⟩
 have NR:=fW pg.ft.nd pg.ft.sz pw
 have n1:=pg.one
 have h0:vL bs nds.length (0,bN bs ins iw):=⟨aaS 0,by change(0:Int)<nds.length;lia,NR⟩
 have inv:=fun{n:Nat} {st:Int×List Int} {sd:List Int} h=>y8 (n:=n) (st:=st) (sd:=sd) pg.ft.sz pg.gd h0 h
 show⟨_,U,_,U,v,ia,bs,ins,nds,iw,U,pg.pa,pg.ft,hw,pw,fun wa H1 Vl s1 e1=>⟨aes,fun sa kN d hd UA=>⟨aew,fun tt OA=>⟨tt,_,U,bM.of ae,U,_,_,U,_,_,U,_,_,U,_,_,U,U,?_⟩⟩⟩⟩
 have a1:=af kN (.lst [])
 have b1:(upd H1 sa (.lst [])) sa=some (.lst []):=ae
 generalize upd H1 sa (.lst [])=Ha at a1 b1 hd OA ⊢
 have RD:d≠sa:=(ao b1 hd).symm
 have a2:=af hd (DN P w d [])
 have b2:(upd Ha d (DN P w d [])) d=some (DN P w d []):=ae
 generalize upd Ha d (DN P w d [])=Hb at a2 b2 OA ⊢
 generalize ho:(HO.tup [V.int 0,V.ref wa,V.ref sa,V.ref d])=ot
 have a3:=af OA ot
 generalize upd Hb tt ot=Hc at a3 ⊢
 have R3:=aa a1 (aa a2 a3)
 have RJ:H1 sa=none:=kN
 have VQ:H1 d=none:=ag a1 hd
 have OQ:cA P w (cj bs nds) (0,bN bs ins iw) Hc d []:=⟨⟨a3 _ _ b2,YY _,ZF,(fun p hp=>nomatch hp),UA⟩,fun j p hp=>by simp at hp⟩
 show⟨(fun m σ H2=>∃(pl:Int) (ws sd:List Int) (wb:Addr) (kvs:rK) (o6 o7:Option V),m=nds.length*nJ bs-kvs.length/\σ=[some v,some (.ref ia),some (.int pl),some (.ref wb),some (.ref sa),some (.ref d),o6,o7,none,none]/\ah H1 H2/\H2 sa=some (.lst (sd.map V.int))/\H2 wb=some (.lst (ws.map V.int))/\cA P w (cj bs nds) (0,bN bs ins iw) H2 d kvs/\tr (cj bs nds) kvs.length (0,bN bs ins iw)=some ((pl,ws),sd)),⟨_,0,bN bs ins iw,[],wa,[],_,_,U,U,R3,a3 _ _ (a2 _ _ b1),R3 _ _ e1,OQ,U⟩,?_⟩
 rintro m σ H2 ⟨pl,ws,sd,wb,kvs,o6,o7,rfl,rfl,s2,hs2,Eh,met,G3⟩
 obtain⟨⟨p0,p1,Kz⟩,Wy⟩:=inv G3
 have kb:=met.bound fun j st sd h=>(inv h).1
 show⟨_,U,_,U,wb,_,U,aF.of Eh,fun c hc=>⟨aeu,fun b hb=>⟨_,U,d,b,[true,false],kvs,keyOf (pl,ws),U,U,?_⟩⟩⟩
 have c1:=af hc (.tup (ws.map V.int))
 have c2:(upd H2 c (.tup (ws.map V.int))) c=some (.tup (ws.map V.int)):=ae
 generalize upd H2 c (.tup (ws.map V.int))=Hd at c1 c2 hb ⊢
 have c3:=af hb (.tup [.int pl,.ref c])
 have c4:(upd Hd b (.tup [.int pl,.ref c])) b=some (.tup [.int pl,.ref c]):=ae
 generalize upd Hd b (.tup [.int pl,.ref c])=H3 at c3 c4 ⊢
 have Hi:=aa c1 c3
 have wY:=met.same Hi
 show⟨wY.nd,ka c4 (c3 _ _ c2),U,_,U,?_⟩
 show aN (fun cc=>?_) (fun cc=>?_)
 . -- a new place
   have no:valN kvs (keyOf (pl,ws))=none:=by
     cases z:valN kvs (keyOf (pl,ws))with
     | none=>rfl
     | some u=>rw[z]at cc;cases cc
   show⟨fun σ' H'=>∃m',m'<nds.length*nJ bs-kvs.length/\(fun m σ H2=>∃(pl:Int) (ws sd:List Int) (wb:Addr) (kvs:rK) (o6 o7:Option V),m=nds.length*nJ bs-kvs.length/\σ=[some v,some (.ref ia),some (.int pl),some (.ref wb),some (.ref sa),some (.ref d),o6,o7,none,none]/\ah H1 H2/\H2 sa=some (.lst (sd.map V.int))/\H2 wb=some (.lst (ws.map V.int))/\cA P w (cj bs nds) (0,bN bs ins iw) H2 d kvs/\tr (cj bs nds) kvs.length (0,bN bs ins iw)=some ((pl,ws),sd)) m' σ' H',fun x x h=>h,?_⟩
   have zr:=aa s2 Hi
   have s03:=aa s1 zr
   have wH:=Hi _ _ hs2
   have Mb:=Hi _ _ Eh
   show⟨_,U,d,_,kvs,U,wY.nd,_,U,sa,_,U,.inl (aF.of wH),aeu,fun tv Ve=>?_⟩
   rw[Yk]
   have d1:=af Ve (.tup [.int (kvs.length:Nat),.int (sd.length:Nat)])
   have d2:(upd H3 tv (.tup [.int (kvs.length:Nat),.int (sd.length:Nat)])) tv=some (.tup [.int (kvs.length:Nat),.int (sd.length:Nat)]):=ae
   generalize upd H3 tv (.tup [.int (kvs.length:Nat),.int (sd.length:Nat)])=H4 at d1 d2 ⊢
   show⟨_,U,_,U,_,U,wb,_,U,aF.of (d1 _ _ Mb),fun c5 NS=>⟨aeu,fun b5 Af=>⟨d,b5,[true,false],kvs,keyOf (pl,ws),U,U,?_⟩⟩⟩
   have e1':=af NS (.tup (ws.map V.int))
   have lN:(upd H4 c5 (.tup (ws.map V.int))) c5=some (.tup (ws.map V.int)):=ae
   generalize upd H4 c5 (.tup (ws.map V.int))=He at e1' lN Af ⊢
   have e3':=af Af (.tup [.int pl,.ref c5])
   have Ip:(upd He b5 (.tup [.int pl,.ref c5])) b5=some (.tup [.int pl,.ref c5]):=ae
   generalize upd He b5 (.tup [.int pl,.ref c5])=H5 at e3' Ip ⊢
   have s35:=aa d1 (aa e1' e3')
   have JK:=wY.same s35
   have k5:=ka Ip (e3' _ _ lN)
   have hl:kvs.length<sizeLine:=Nat.lt_of_le_of_lt (YU kb hN) (by left)
   show⟨JK.nd,k5,U,no,?_⟩
   have uK:=JK.put (tv:=tv) k5 G3 no hl (e3' _ _ (e1' _ _ d2))
   have Rn:=uK.bound fun j st sd h=>(inv h).1
   rw[Ym]at Rn
   simp only[YS,aat]at Rn
   have lt:nds.length*nJ bs-(kvs.length+1)<nds.length*nJ bs-kvs.length:=by lia
   have MC:ah H1 (upd H5 d (DN P w d (kvs++[(keyOf (pl,ws),b5,.ref tv)]))):=aA (aa zr s35) VQ
   have Jm:(upd H5 d (DN P w d (kvs++[(keyOf (pl,ws),b5,.ref tv)]))) sa=some (.lst (sd.map V.int)):=by rw[ar RD.symm];show s35 _ _ wH
   have V0:wb≠d:=dO Eh met.nd.at_ (fun z=>nomatch z)
   have OD:(upd H5 d (DN P w d (kvs++[(keyOf (pl,ws),b5,.ref tv)]))) wb=some (.lst (ws.map V.int)):=by rw[ar V0];show s35 _ _ Mb
   generalize UJ:kvs++[(keyOf (pl,ws),b5,V.ref tv)]=qr at uK MC Jm OD ⊢
   have Oc:qr.length=kvs.length+1:=by rw[← UJ,Ym];rfl
   generalize upd H5 d (DN P w d qr)=H6 at uK MC Jm OD ⊢
   obtain⟨nd,gY⟩ : ∃nd,nds[pl.toNat]?=some nd:=⟨nds[pl.toNat]'(by have:pl<nds.length:=p1;have:0<=pl:=p0;lia),Yn _⟩
   have g0:=pg.gd nd (Yq gY)
   have s06:=aa s1 MC
   show⟨_,U,_,U,_,U,v,pl,wb,bs,ws,ins,nds,nd,_,U,⟨pg.pa.same s06,pg.ft.nd,pg.ft.len,pg.ft.sz,OD,Kz,p0,gY,g0⟩,fun en H7 s7=>?_,fun sx n ws' es r l1 l2 H7 td=>?_⟩
   . show⟨_,U,U,_,U,?_⟩
     show aN (fun x=>?_) (fun c=>az (cH rfl) c)
     have OR:=uK.same s7
     show⟨_,U,_,U,d,_,qr,U,OR.nd,_,_,U,U,aev,fun r iU=>?_⟩
     change Q (V.ref r) (upd H7 r (.tup [.ref sa,.bJ,.int (((qr.length:Nat):Int)-1)]))
     rw[show((qr.length:Nat):Int)-1=((kvs.length:Nat):Int)by rw[Oc];lia]
     have s8:=af iU (.tup [.ref sa,.bJ,.int (kvs.length:Nat)])
     have s78:=aa s7 s8
     show q r sa .bJ kvs.length sd none _ (aa s06 s78) (ag (aa s06 s7) iU) ae (ag s1 RJ) (s78 _ _ Jm) rfl ?_ (.inl ⟨kvs.length,(pl,ws),sd,G3,by rw[fk gY];show en,U⟩)
     change sd.length+0<=_
     lia
   . show⟨_,U,U,_,U,?_⟩
     show aN (fun c=>az (cZ c) (by simp)) (fun x=>?_)
     obtain⟨q0,q1,q2,q3⟩:=fI pg.ft.sz Kz g0 es
     have Ox:=td.s _ _ Jm
     show⟨_,U,?_⟩
     show Lu td.er ?_
     show⟨_,U,.inl ⟨U,_,aF.of Ox⟩,_,U,sa,l1,_,_,U,U,Ox,td.e1,?_,?_⟩
     . rw[Yk,Yk]
       have:sd.length+sx.length<=100001:=by have:sx.length<=1:=q3;lia
       show YU this (by left)
     have nl:l2≠sa:=fun z=>by have:=td.h2;rw[z,Jm]at this;cases this
     have nds2:d≠sa:=RD
     have OS:cA P w (cj bs nds) (0,bN bs ins iw) (upd H7 sa (.lst (sd.map V.int++sx.map V.int))) d qr:=(uK.same td.s).keep (by rw[ar nds2];show td.s _ _ uK.nd.at_) (TK.lst Ox)
     show⟨_,lt,n,ws',sd++sx,l2,qr,_,_,by rw[Oc],U,aA (aa MC td.s) RJ,by rw[ae,Yt],by rw[ar nl];show td.e2,OS,?_⟩
     rw[Oc]
     show cp G3 (by rw[fk gY];show es)
 . -- Te again
   have K6:∃u,valN kvs (keyOf (pl,ws))=some u:=by
     cases z:valN kvs (keyOf (pl,ws))with
     | none=>rw[z]at cc;show az rfl cc
     | some u=>show⟨u,rfl⟩
   obtain⟨u,hu⟩:=K6
   obtain⟨j,sj,tj,hj,Sz,rfl,Va⟩:=wY.find hu
   have Mb:=Hi _ _ Eh
   show⟨_,U,_,U,_,U,wb,_,U,aF.of Mb,fun c5 NS=>⟨aeu,fun b5 Af=>⟨d,b5,[true,false],kvs,keyOf (pl,ws),.ref tj,U,U,?_⟩⟩⟩
   have e1':=af NS (.tup (ws.map V.int))
   have lN:(upd H3 c5 (.tup (ws.map V.int))) c5=some (.tup (ws.map V.int)):=ae
   generalize upd H3 c5 (.tup (ws.map V.int))=He at e1' lN Af ⊢
   have e3':=af Af (.tup [.int pl,.ref c5])
   have Ip:(upd He b5 (.tup [.int pl,.ref c5])) b5=some (.tup [.int pl,.ref c5]):=ae
   generalize upd He b5 (.tup [.int pl,.ref c5])=H5 at e3' Ip ⊢
   have s35:=aa e1' e3'
   have BA:=aa Hi s35
   have Rb:=BA _ _ hs2
   show⟨(wY.same s35).nd,ka Ip (e3' _ _ lN),U,hu,?_⟩
   show jL (s35 _ _ Va) ?_
   obtain⟨y,hy,rest,fQ⟩:=kK G3 (Zb hj)
   rw[Sz]at hy
   cases hy
   have U5:sd=sj++rest:=fQ
   subst U5
   show⟨_,U,_,U,_,U,sa,_,U,aF.of Rb,fun x1 fK=>?_⟩
   rw[zO]
   have f1:=af fK (.lst (sj.map V.int))
   have f2:(upd H5 x1 (.lst (sj.map V.int))) x1=some (.lst (sj.map V.int)):=ae
   generalize upd H5 x1 (.lst (sj.map V.int))=Hf at f1 f2 ⊢
   show⟨_,U,_,U,_,U,sa,_,U,aF.of (f1 _ _ Rb),fun x2 r8=>?_⟩
   rw[uk]
   have f3:=af r8 (.lst (rest.map V.int))
   have f4:(upd Hf x2 (.lst (rest.map V.int))) x2=some (.lst (rest.map V.int)):=ae
   have nx:x2≠x1:=(ao f2 r8).symm
   generalize upd Hf x2 (.lst (rest.map V.int))=Hg at f3 f4 ⊢
   show⟨_,U,aev,fun r iU=>?_⟩
   have f5:=af iU (.tup [.ref x1,.ref x2,.int (j:Nat)])
   have R1:=aa s1 (aa s2 (aa BA (aa f1 f3)))
   have Ws:=aa s1 (aa s2 (aa BA f1))
   have F4:=aa s1 (aa s2 BA)
   have f35:=aa f3 f5
   show q r x1 (.ref x2) j sj (some rest) _ (aa R1 f5) (ag R1 iU) ae (ag F4 fK) (f35 _ _ f2) ⟨x2,U,nx,ag Ws r8,f5 _ _ f4⟩ ?_ (.inr ⟨j,kvs.length,(pl,ws),sj,rest,hj,Sz,G3,met.apart,U⟩)
   change sj.length+rest.length<=_
   rw[Ym]at Wy
   lia
def zL {α:Type}(xs:List α)(lo hi:Option Int):List α:=(xs.drop (HT.bX xs.length 0 lo)).take (HT.bX xs.length xs.length hi-HT.bX xs.length 0 lo)
def vW {α:Type}(f:α->V)(xs:List α)(lo hi:Option Int):cy (xs.map f) lo hi=(zL xs lo hi).map f:=by
 unfold cy zL
 rw[Yk,← List.map_drop,← aaL]
def zM {α:Type}(xs:List α)(n:Nat):zL xs none (some (n:Int))=xs.take n:=by
 unfold zL
 rw[HT.dt,HT.kD,Zo,Z2]
 by_cases h:n<=xs.length
 . rw[ZA h]
 . rw[abv (by lia),YR,YI (by lia)]
abbrev yn:Stmt:=top 28
abbrev jJ:Stmt:=top 27
abbrev sX:Stmt:=top 26
abbrev sW:Stmt:=top 24
abbrev yt:Stmt:=top 25
def mF (H:Hp):V->Option (List Int)->Prop
 | ro,none=>ro=.bJ
 | ro,some xs=>∃l,ro=.ref l/\H l=some (.lst (xs.map V.int))
structure fO (H:Hp)(v:V)(sd:List Int)(rd:Option (List Int)):Prop where
 at_:∃p sa ro n,v=.ref p/\H p=some (.tup [.ref sa,ro,.int n])/\H sa=some (.lst (sd.map V.int))/\mF H ro rd
 jv:sd.length+(rd.getD []).length<=100000
def mF.same {H H':Hp}(s:ah H H'):∀{rd:Option (List Int)} {ro:V},mF H ro rd->mF H' ro rd
 | none,_,h=>h
 | some _,_,⟨l,e,h⟩=>⟨l,e,s _ _ h⟩
def fO.same {H H':Hp}{v:V}{sd:List Int}{rd:Option (List Int)}(h:fO H v sd rd)(s:ah H H'):fO H' v sd rd:=by
 obtain⟨p,sa,ro,n,e,h1,h2,h3⟩:=h.at_
 show⟨⟨p,sa,ro,n,e,s _ _ h1,s _ _ h2,h3.same s⟩,h.jv⟩
def nC:Sp:=fun vs H Q z=>∃(v:V) (m:Nat) (sd:List Int) (rd:Option (List Int)),vs=[v,.int (m:Nat)]/\fO H v sd rd/\m<=1000000/\∀(l:Addr) (fs:List Int) (H':Hp),ah H H'->H l=none->H' l=some (.lst (fs.map V.int))->dR sd rd m fs->Q (.ref l) H'
def iB:aC ["run","many","ahead","around","steps","said"] ["run","many"] (aq yn):=df
def xu {f:Addr}{fd:Yx}(F:b9 K "first_said" "first_said" yn f fd)(m_len:mg "len"=none)(m_list:mg "list"=none):aO P w K mg base bU 1 f fd ["run","many"] nC:=by
 show F.c0 iB fun cdv A outer s H vs Q E hr h=>?_
 obtain⟨v,m,sd,rd,rfl,Jk,hm,q⟩:=h
 show dN ⟨_,(acj (acJ (Y 0) (acF 3 (acs (aco 2 iB.nd) (acs (aco 3 iB.nd) (acs (aco 4 iB.nd) acE)))))
   (acj (acw 5 iB.nd (acP adg U m_list (by right) (L (Y 2) M)))
   (acj (L3.rF (acK (ac2 (L3.WL (Y 3)) (ac3 (acr adf (acA acG U m_len Yy (L (Y 5) M)) (Y 1))))) (acn (acN (adl (Y 5) (L (Y 3) M)))))
   (acn (acq (ac7 (Y 5) (Y 1))))))),?_⟩
 have jv:=Jk.jv
 obtain⟨p,sa,ro,n,rfl,hp,kN,G2⟩:=Jk.at_
 show⟨_,U,?_⟩
 show Lu hp ?_
 show⟨_,U,sa,_,U,.inl (aF.of kN),fun sb Cp=>?_⟩
 obtain⟨H1,s1,e1,zz⟩:=gh Cp (.lst (sd.map V.int))
 rw[zz];clear zz
 show⟨(fun M8 σ H2=>∃(wd:List Int) (k:Nat),M8=m-wd.length/\σ=[some (.ref p),some (.int (m:Nat)),some (.ref sa),some ro,some (.int n),some (.ref sb)]/\ah H H2/\H2 sb=some (.lst (wd.map V.int))/\wd=sd++rep k (rd.getD [])/\wd.length<=1100000),⟨_,sd,0,U,U,s1,e1,by unfold rep;simp,by lia⟩,?_⟩
 rintro M8 σ H2 ⟨wd,k,rfl,rfl,s2,GX,Rf,hwl⟩
 have fin:∀(sd':List Int),dR sd rd m (sd'.take m)->wd=sd'->∀(l:Addr),H2 l=none->Q (.ref l) (upd H2 l (.lst (cy (wd.map V.int) none (some (m:Int))))):=fun sd' hf e l hl=>by
   rw[vW,zM,e]
   show q l (sd'.take m) _ (bY s2 hl) (ag s2 hl) ae hf
 cases rd with
 | none=>
   have wG:ro=.bJ:=G2
   subst wG
   show⟨_,U,false,U,fL (fL ?_)⟩
   have Jp:wd=sd:=by rw[Rf];unfold rep;simp
   show⟨_,U,_,U,_,U,sb,_,U,aF.of GX,fun l hl=>fin sd (jW rfl) Jp l hl⟩
 | some xs=>
   obtain⟨la,rfl,UM⟩:=G2
   have D8:=s2 _ _ UM
   have DG:sd.length+xs.length<=100000:=jv
   have Ak:wd=sd++rep k xs:=Rf
   by_cases hx:xs=[]
   . subst hx
     show⟨_,U,false,.inl ⟨_,aF.of D8,U⟩,fL (fL ?_)⟩
     have Jp:wd=sd:=by rw[Ak];unfold rep;simp
     show⟨_,U,_,U,_,U,sb,_,U,aF.of GX,fun l hl=>fin sd (jW rfl) Jp l hl⟩
   . have Ai:0<xs.length:=List.length_pos_iff.mpr hx
     show⟨_,U,true,.inl ⟨_,aF.of D8,by cases xs with|nil=>show az rfl hx|cons a r=>rfl⟩,k6 ?_⟩
     show⟨_,U,sb,_,U,.inl (aF.of GX),_,U,_,_,U,U,_,U,?_⟩
     rw[Yk]
     show aN (fun c=>?_) (fun c=>?_)
     . have hlt:wd.length<m:=by have:=cZ c;lia
       show⟨fun σ' H'=>∃m',m'<m-wd.length/\(fun M8 σ H2=>∃(wd:List Int) (k:Nat),M8=m-wd.length/\σ=[some (.ref p),some (.int (m:Nat)),some (.ref sa),some (.ref la),some (.int n),some (.ref sb)]/\ah H H2/\H2 sb=some (.lst (wd.map V.int))/\wd=sd++rep k ((some xs).getD [])/\wd.length<=1100000) m' σ' H',fun y y h=>h,_,U,.inl ⟨U,_,aF.of GX⟩,_,U,sb,la,_,_,U,U,GX,D8,?_,?_⟩
       . rw[Yk,Yk]
         show YU (show wd.length+xs.length<=1100000 by lia) (by left)
       show⟨m-(wd++xs).length,by rw[Ym];lia,wd++xs,k+1,U,U,aA s2 Cp,by rw[ae,Yt],?_,by rw[Ym];lia⟩
       change wd++xs=sd++rep (k+1) xs
       rw[iA,← Zl,← Ak]
     . have Je:m<=wd.length:=by
         have:¬ ((wd.length:Int)<(m:Int)):=fun z=>c (cH z)
         lia
       show⟨_,U,_,U,_,U,sb,_,U,aF.of GX,fun l hl=>fin (sd++rep k xs) (qj (by rw[← Ak];show Je)) Ak l hl⟩
def MU (H:Hp)(v:V)(z:List Int):Prop:=∃l,v=.ref l/\H l=some (.lst (z.map V.int))
def kI:Sp:=fun vs H Q z=>∃(v v':V) (sd:List Int) (rd:Option (List Int)) (sd':List Int) (rd':Option (List Int)),vs=[v,v']/\fO H v sd rd/\fO H v' sd' rd'/\∀(H':Hp),ah H H'->Q (.int (ig sd rd sd' rd':Nat)) H'
def ph:aC ["run","another","rounds"] ["run","another"] (aq jJ):=df
def uW {f:Addr}{fd:Yx}(F:b9 K "numbers_that_settle" "numbers_that_settle" jJ f fd)(m_len:mg "len"=none)(m_max:mg "max"=none)(m_sum:mg "sum"=none):aO P w K mg base bU 1 f fd ["run","another"] kI:=by
 show F.c0 ph fun cdv A outer s H vs Q E hr h=>?_
 obtain⟨v,v',sd,rd,sd',rd',rfl,r1,r2,q⟩:=h
 show dN ⟨_,(acj (ac1 (i:=2) [none] ["told"] (fP jJ) U (L3.iT (acx (L (Y 0) (L (Y 1) M)))) (fun y y y y y=>⟨(aco 0 (dE ["told"])),(adm (acr L3.xq (ack acp (Y 0) aci) acR)),(ack acp (Y 0) aci)⟩) ph.nd)
   (acn (acq (acv acL (acA L3.rP U m_max (by right) (L (acA acG U m_len Yy (L (ack acp (Y 0) aci) M)) (L (acA acG U m_len Yy (L (ack acp (Y 1) aci) M)) M))) (acA L3.Ib U m_sum (by right) (L (acO [none] ["told"] (fP jJ) U (acI (Y 2)) (fun y y y y y=>⟨(aco 0 (dE ["told"])),acH,(acA acG U m_len Yy (L (Y 0) M))⟩)) M)))))),?_⟩
 obtain⟨p,sa,ro,n,rfl,hp,kN,G2⟩:=id r1.at_
 obtain⟨p',BJ,vF,n',rfl,kM,uD,wG⟩:=id r2.at_
 show⟨_,U,_,U,aeu,fun tp Vd=>?_⟩
 obtain⟨H1,s1,g1,zz⟩:=gh Vd (.tup [.ref p,.ref p'])
 rw[zz];clear zz
 show⟨tp,U,⟨_,bM.of g1⟩,fun ra Q8=>?_⟩
 show jU (xs:=[.ref p,.ref p']) (fun i H2=>∃(ys:List V) (zs:List (List Int)),ah H1 H2/\H2 ra=some (.lst ys)/\ys.length<=i/\Paired (MU H) ys zs/\(zs.map aau).sum=(([(rd.getD []).length,(rd'.getD []).length]:List Nat).take i).sum) ⟨[],[],af Q8 _,ae,Yo _,.nil,U⟩ (fun i H2 y z=>?_) (fun i x H2 hx z=>?_) (fun H2 z=>?_)
 . obtain⟨ys,zs,s2,_⟩:=z
   show bM.of (s2 _ _ g1)
 . obtain⟨ys,zs,s2,uC,yl,py,vt⟩:=z
   have s02:=aa s1 s2
   have r8:∃(pp sx:Addr) (rx:V) (nx:Int) (rdx:Option (List Int)),x=.ref pp/\H pp=some (.tup [.ref sx,rx,.int nx])/\mF H rx rdx/\([(rd.getD []).length,(rd'.getD []).length]:List Nat)[i]?=some (rdx.getD []).length/\i<2:=by
     match i,hx with
     | 0,hx=>cases hx;show⟨p,sa,ro,n,rd,rfl,hp,G2,rfl,by left⟩
     | 1,hx=>cases hx;show⟨p',BJ,vF,n',rd',rfl,kM,wG,rfl,by left⟩
   obtain⟨pp,sx,rx,nx,rdx,rfl,fB,Ra,hlen,i2⟩:=r8
   show au ?_
   show⟨_,U,?_⟩
   show aP (s02 _ _ fB) U ?_
   show⟨U,_,U,?_⟩
   cases rdx with
   | none=>
     have e:rx=.bJ:=Ra
     subst e
     show aN (fun c=>az c (by left)) (fun y=>?_)
     show aB (Pv:=fun i H2=>∃(ys:List V) (zs:List (List Int)),ah H1 H2/\H2 ra=some (.lst ys)/\ys.length<=i/\Paired (MU H) ys zs/\(zs.map aau).sum=(([(rd.getD []).length,(rd'.getD []).length]:List Nat).take i).sum) (by repeat' constructor) i2 ⟨ys,zs,s2,uC,by lia,py,?_⟩
     rw[Yv,hlen,vt,aaV]
     rfl
   | some xs=>
     obtain⟨l,rfl,hl⟩:=Ra
     show aN (fun y=>?_) (fun c=>az (by rw[f6 (fun z=>nomatch z)];rfl) c)
     show⟨_,U,?_⟩
     show aP (s02 _ _ fB) U ?_
     show⟨_,uC,aD (by lia),aB (Pv:=fun i H2=>∃(ys:List V) (zs:List (List Int)),ah H1 H2/\H2 ra=some (.lst ys)/\ys.length<=i/\Paired (MU H) ys zs/\(zs.map aau).sum=(([(rd.getD []).length,(rd'.getD []).length]:List Nat).take i).sum) (by repeat' constructor) i2 ⟨ys++[.ref l],zs++[xs],aA s2 Q8,ae,by rw[Ym];change ys.length+1<=i+1;lia,Paired.snoc py ⟨l,U,hl⟩,?_⟩⟩
     rw[Yt,aaV,vt,Yv,hlen,aaV]
     rfl
 obtain⟨ys,zs,s2,uC,yl,py,vt⟩:=z
 have Yj:ys.length<=2:=yl
 have vt:(zs.map aau).sum=(rd.getD []).length+((rd'.getD []).length+0):=vt
 have s02:=aa s1 s2
 have zl:ys.length=zs.length:=Paired.length py
 show⟨_,U,?_⟩
 show aP (s02 _ _ hp) U ?_
 show⟨sa,_,U,.inl (aF.of (s02 _ _ kN)),_,U,?_⟩
 show aP (s02 _ _ kM) U ?_
 show⟨BJ,_,U,.inl (aF.of (s02 _ _ uD)),_,_,U,_,U,ra,U,⟨_,aF.of uC⟩,fun lb Od=>?_⟩
 have VU:ra≠lb:=ao uC Od
 show aT (xs:=ys) (fun i H4=>H4=upd H2 lb (.lst (((zs.take i).map fun z=>((z.length:Nat):Int)).map V.int))) rfl (fun i H4 y z=>?_) (fun i x H4 hx z=>?_) (fun H4 z=>?_)
 . subst z
   show aF.of (by rw[ar VU];show uC)
 . subst z
   obtain⟨zz,hz,l,rfl,hl⟩:=Paired.get py hx
   have cL:i<ys.length:=(aQ hx)
   show au ?_
   show bF (A:=fun H3=>cf _ lb _ H3 _) ?_
   show⟨_,U,l,_,U,.inl (aF.of (af Od _ _ _ (s02 _ _ hl))),_,ae,aD (by rw[Yk,Yk,Yu];lia),aB (Pv:=fun i H4=>H4=upd H2 lb (.lst (((zs.take i).map fun z=>((z.length:Nat):Int)).map V.int))) (by repeat' constructor) cL ?_⟩
   rw[iK,Yv,hz,Yt,Yt,Yk]
   rfl
 . subst z
   rw[zl,YR]
   show⟨lb,_,U,aF.of ae,_,_,U,U,?_⟩
   have es:∀l:List (List Int),(l.map fun z=>((z.length:Nat):Int)).sum=(((l.map aau).sum:Nat):Int):=fun l=>by
     induction l with
     | nil=>rfl
     | cons a r ih=>rw[YM,YM,List.sum_cons,List.sum_cons,ih];lia
   have ev:(if(((sd'.map V.int).length:Int)) > ((sd.map V.int).length:Int)then((sd'.map V.int).length:Int)else((sd.map V.int).length:Int))+(zs.map fun z=>((z.length:Nat):Int)).sum=((ig sd rd sd' rd':Nat):Int):=by
     rw[es,vt,Yk,Yk]
     unfold ig
     split<;>lia
   have fin:=q _ (aa s02 (af Od (.lst ((zs.map fun z=>((z.length:Nat):Int)).map V.int))))
   rw[← ev]at fin
   show fin
def pC:Sp:=fun vs H Q z=>∃(v v':V) (sd:List Int) (rd:Option (List Int)) (sd':List Int) (rd':Option (List Int)),vs=[v,v']/\fO H v sd rd/\fO H v' sd' rd'/\∀(u:V) (H':Hp),ah H H'->((eg sd rd sd' rd'/\u=.bJ)\/(¬ eg sd rd sd' rd'/\∃n:Nat,u=.int (n:Nat)/\zA sd rd sd' rd' n))->Q u H'
def jH {H:Hp}{rd:Option (List Int)}{ro:V}(h:mF H ro rd):decide (ro=.bJ)=rd.isNone:=by
 cases rd with
 | none=>have e:ro=.bJ:=h;subst e;rfl
 | some xs=>obtain⟨l,rfl,_⟩:=h;rfl
def d9:aC ["run","another","many","first","second","at","number","heard"] ["run","another"] (aq sX):=df
def uU {f:Addr}{fd:Yx}(F:b9 K "said_alike" "said_alike" sX f fd)(m_len:mg "len"=none)(m_min:mg "min"=none)(m_enumerate:mg "enumerate"=none)(m_zip:mg "zip"=none)(ST:aS P w K mg base "numbers_that_settle" ["run","another"] 1 kI)(FS:aS P w K mg base "first_said" ["run","many"] 1 nC):aO P w K mg base bU 2 f fd ["run","another"] pC:=by
 show F.c0 d9 fun cdv A outer s H vs Q E hr h=>?_
 obtain⟨v,v',sd,rd,sd',rd',rfl,r1,r2,q⟩:=h
 show dN ⟨_,(acj (acw 2 d9.nd (acm ST hr U (L (Y 0) (L (Y 1) M))))
   (acj (L3.Fs 3 4 d9.nd (L (acm FS hr U (L (Y 0) (L (Y 2) M))) (L (acm FS hr U (L (Y 1) (L (Y 2) M))) M)))
   (acj (acM (L3.Vq U m_enumerate U m_zip (L (Y 3) (L (Y 4) M))) (acF 2 (acs (aco 5 d9.nd) (acs (acF 2 (acs (aco 6 d9.nd) (acs (aco 7 d9.nd) acE))) acE))) (acn (acy (acr ac4 (Y 6) (Y 7)) (acn (acq (Y 5))) acz)))
   (acj (acy (acK (acV (acr ac4 (acA acG U m_len Yy (L (Y 3) M)) (acA acG U m_len Yy (L (Y 4) M))) (acZ (acr ac4 (acQ ac5 (ack acp (Y 0) aci) acR) (acQ ac5 (ack acp (Y 1) aci) acR))))) (acn (acq (acA L3.rQ U m_min (by right) (L (acA acG U m_len Yy (L (Y 3) M)) (L (acA acG U m_len Yy (L (Y 4) M)) M))))) acz)
   (acn (acq acR)))))),?_⟩
 have few1:=r1.jv
 have few2:=r2.jv
 show⟨_,U,_,U,v,v',sd,rd,sd',rd',U,r1,r2,fun H1 s1=>?_⟩
 have hm:ig sd rd sd' rd'<=1000000:=by unfold ig;lia
 obtain⟨m,Q1⟩ : ∃m,m=ig sd rd sd' rd':=⟨_,rfl⟩
 rw[← Q1]at hm ⊢
 show⟨_,U,_,U,v,m,sd,rd,U,r1.same s1,hm,fun l1 fs H2 s2 u e1 w1=>?_⟩
 have s02:=aa s1 s2
 show⟨_,U,_,U,v',m,sd',rd',U,r2.same s02,hm,fun l2 iS H3 s3 u e2 w2=>⟨_,_,U,?_⟩⟩
 have s03:=aa s02 s3
 have e1:=s3 _ _ e1
 have Xi:=w1.len
 have Xj:=w2.len
 obtain⟨p,sa,ro,n,rfl,hp,kN,G2⟩:=id (r1.same s03).at_
 obtain⟨p',BJ,vF,n',rfl,kM,uD,wG⟩:=id (r2.same s03).at_
 have big:∀{n:Nat},n<=m->n<2^63:=fun h=>by lia
 show⟨_,U,_,U,l1,l2,U,⟨_,aF.of e1⟩,⟨_,aF.of e2⟩,?_⟩
 show DJ (xs:=fs.map V.int) (ys:=iS.map V.int) (fun i σ H4=>(∃av nv hv,σ=[some (.ref p),some (.ref p'),some (.int (m:Nat)),some (.ref l1),some (.ref l2),av,nv,hv])/\ah H3 H4/\∀j,j<i->fs[j]?=iS[j]?) ⟨⟨_,_,_,U⟩,same_refl _,fun j hj=>az hj (Zz _)⟩ (fun i σ H4 z=>⟨aF.of (z.2.1 _ _ e1),aF.of (z.2.1 _ _ e2)⟩) (fun i x y pp qq σ H4 hx hy z fB Q7=>?_) (fun σ H4 z=>?_)
 . obtain⟨⟨av,nv,hv,rfl⟩,s4,al⟩:=z
   obtain⟨a,ha,rfl⟩:=ba hx
   obtain⟨b,hb,rfl⟩:=ba hy
   have sp:ah H4 (upd H4 pp (.tup [.int a,.int b])):=af fB _
   have gp:(upd H4 pp (.tup [.int a,.int b])) pp=some (.tup [.int a,.int b]):=ae
   generalize upd H4 pp (.tup [.int a,.int b])=H5 at sp gp Q7 ⊢
   obtain⟨H6,sq,gq,zz⟩:=gh Q7 (.tup [.int (i:Nat),.ref pp])
   rw[zz];clear zz
   have KN:=aa s4 (aa sp sq)
   show⟨qq,_,U,bM.of gq,U,_,_,U,_,_,U,⟨pp,_,U,bM.of (sq _ _ gp),U,_,_,U,_,_,U,U,U,?_⟩⟩
   show⟨_,U,_,U,U,_,U,?_⟩
   have GY:i<fs.length:=(aQ ha)
   show aN (fun c=>?_) (fun c=>?_)
   . have GW:a≠b:=fun z=>by rw[z,cH rfl]at c;show az c (by left)
     have D9:bz sd rd i≠bz sd' rd' i:=by
       rw[w1.at (by lia),w2.at (by lia),ha,hb]
       show fun z=>GW (YQ z)
     show⟨_,U,q _ _ (aa s03 KN) (.inr ⟨fun al=>D9 (al.1 i),i,U,fun j hj=>?_,fun z=>D9 z.1⟩)⟩
     rw[w1.at (by lia),w2.at (by lia)]
     show⟨al j hj,?_⟩
     rw[Yn (by lia)]
     rfl
   . have GW:a=b:=by
       by_cases z:a=b
       . show z
       . show az (by rw[f6 (fun y=>z (by injection y))];rfl) c
     show⟨⟨_,_,_,U⟩,KN,fun j hj=>?_⟩
     by_cases e:j=i
     . subst e
       rw[ha,hb,GW]
     . show al j (by lia)
 obtain⟨⟨av,nv,hv,rfl⟩,s4,al⟩:=z
 rw[Yk,Yk]at al
 have e1:=s4 _ _ e1
 have e2:=s4 _ _ e2
 have KJ:=aa s03 s4
 have pre:∀i,i<min fs.length iS.length->bz sd rd i=bz sd' rd' i/\(bz sd rd i).isSome=true:=fun i hi=>by
   rw[w1.at (by lia),w2.at (by lia)]
   show⟨al i hi,?_⟩
   rw[Yn (by lia)]
   rfl
 have mn:(if((iS.length:Nat):Int)<((fs.length:Nat):Int)then((iS.length:Nat):Int)else((fs.length:Nat):Int))=((min fs.length iS.length:Nat):Int):=by split<;>lia
 have qC:(∀z:bz sd rd (min fs.length iS.length)=bz sd' rd' (min fs.length iS.length),¬ (bz sd rd (min fs.length iS.length)).isSome=true)->¬ eg sd rd sd' rd'->Q (.int (if((iS.length:Nat):Int)<((fs.length:Nat):Int)then((iS.length:Nat):Int)else((fs.length:Nat):Int))) H4:=fun h1 h2=>by
   rw[mn]
   show q _ _ KJ (.inr ⟨h2,_,U,pre,fun z=>h1 z.1 z.2⟩)
 show⟨_,U,l1,_,U,.inl (aF.of e1),_,U,l2,_,U,.inl (aF.of e2),U,_,U,?_⟩
 rw[Yk,Yk]
 show aN (fun c=>k6 ?_) (fun c=>?_)
 . have hne:fs.length≠iS.length:=fun z=>by rw[z,cH rfl]at c;show az c (by left)
   show⟨_,U,l1,_,U,.inl (aF.of e1),_,U,l2,_,U,.inl (aF.of e2),_,_,U,?_⟩
   rw[Yk,Yk]
   by_cases hlt:fs.length<iS.length
   . have em:min fs.length iS.length=fs.length:=by lia
     have n1:=lZ w1 (by lia)
     have n2:∃x,bz sd' rd' fs.length=some x:=⟨iS[fs.length],by rw[w2.at (by lia),Yn hlt]⟩
     obtain⟨x,n2⟩:=n2
     show qC (fun z=>by rw[em,n1];decide) (fun al=>?_)
     have:=al.1 fs.length
     rw[n1,n2]at this
     cases this
   . have hlt:iS.length<fs.length:=by lia
     have em:min fs.length iS.length=iS.length:=by lia
     have n2:=lZ w2 (by lia)
     have n1:∃x,bz sd rd iS.length=some x:=⟨fs[iS.length],by rw[w1.at (by lia),Yn hlt]⟩
     obtain⟨x,n1⟩:=n1
     show qC (fun z=>by rw[em,n1,n2]at z;cases z) (fun al=>?_)
     have:=al.1 iS.length
     rw[n1,n2]at this
     cases this
 have hle:fs.length=iS.length:=by
   by_cases z:fs.length=iS.length
   . show z
   . show az (by rw[f6 (fun y=>z (by injection y with y;lia))];rfl) c
 show⟨_,U,?_⟩
 show aP (s4 _ _ hp) U ?_
 show⟨U,_,U,?_⟩
 show aP (s4 _ _ kM) U ?_
 show⟨U,U,_,U,?_⟩
 have d1:=jH G2
 have d2:=jH wG
 rw[d1,d2]
 show aN (fun c=>?_) (fun c=>?_)
 . have hne:rd.isNone≠rd'.isNone:=fun z=>by rw[z,cH rfl]at c;show az c (by left)
   show⟨_,U,l1,_,U,.inl (aF.of e1),_,U,l2,_,U,.inl (aF.of e2),_,_,U,?_⟩
   rw[Yk,Yk]
   have RI:∀{sd:List Int} {rd:Option (List Int)} {fs:List Int},dR sd rd m fs->rd=none->sd.length<=m->bz sd rd fs.length=none:=fun{sd rd fs} w h1 h2=>by
     subst h1
     have h3:sd.length<=fs.length:=by
       by_cases z:sd.length<=fs.length
       . show z
       . have:=w.at (i:=fs.length) (by lia)
         unfold bz at this
         rw[bj (by lia),Yn (by lia),aaf (Yo _)]at this
         cases this
     show dF rfl h3
   show qC (fun z y=>?_) (fun al=>hne al.2)
   unfold ig at Q1
   cases rd with
   | none=>
     rw[show min fs.length iS.length=fs.length by lia,RI w1 rfl (by lia)]at y
     cases y
   | some xs=>
     cases rd' with
     | none=>
       rw[z,show min fs.length iS.length=iS.length by lia,RI w2 rfl (by lia)]at y
       cases y
     | some ys=>show hne rfl
 . have heq:rd.isNone=rd'.isNone:=by
     by_cases z:rd.isNone=rd'.isNone
     . show z
     . show az (by rw[f6 (fun y=>z (by injection y))];rfl) c
   show q _ _ KJ (.inl ⟨⟨BO (m:=m) (by lia) fun i hi=>?_,heq⟩,U⟩)
   by_cases h:i<fs.length
   . show(pre i (by lia)).1
   . rw[w1.at hi,w2.at hi,aaf (by lia),aaf (by lia)]
structure SY (H:Hp)(v1 v2:V)(b1 b2:aj)(ins:List Str)(n1 n2:List Nd):Prop where
 p1:di H v1 b1 ins n1
 p2:di H v2 b2 ins n2
 f1:Fits b1 ins
 f2:Fits b2 ins
 sz:ins.map (cJ b1)=ins.map (cJ b2)
def pA:Sp:=fun vs H Q z=>∃(v1 v2:V) (b1 b2:aj) (ins:List Str) (n1 n2:List Nd),vs=[v1,v2]/\SY H v1 v2 b1 b2 ins n1 n2/\∀H',ah H H'->Q .bJ H'
def yF:aC ["one","other"] ["one","other"] (aq sW):=df
def uT {f:Addr}{fd:Yx}(F:b9 K "refuse_no_pair" "refuse_no_pair" sW f fd)(IS:aS P w K mg base "input_sizes" ["program"] 1 kH):aO P w K mg base bU 2 f fd ["one","other"] pA:=by
 show F.c0 yF fun cdv A outer s H vs Q E hr h=>?_
 obtain⟨v1,v2,b1,b2,ins,n1,n2,rfl,T,q⟩:=h
 show dN ⟨_,(acn (acy (acK (acV (acr (ade (m:=0) (bR hr _ (by left))) (ack acp (Y 0) aci) (ack acp (Y 1) aci)) (acZ (acr (ade (m:=0) (bR hr _ (by left))) (acm IS hr U (L (Y 0) M)) (acm IS hr U (L (Y 1) M)))))) adk acz)),?_⟩
 obtain⟨p,B,I,N,vb,vn,rfl,hp,hB,hI,hN,pb,pn⟩:=T.p1
 obtain⟨p',B',I',N',Yf,vn',rfl,kM,GV,IW,Xm,XT,XW⟩:=T.p2
 have eqs:∀{H:Hp} {n:Nat} {xs:List V},(∀x∈xs,cC x=true)->∀(j:Nat) (x y:V),xs[j]?=some x->xs[j]?=some y->ET K H n x y:=fun hf j x y hx hy=>by
   rw[hx]at hy
   cases hy
   show ET.refl (.inl (hf x (Yq hx)))
 have fs:∀x∈ins.map V.str,cC x=true:=fun x hx=>by obtain⟨z,_,rfl⟩:=cX hx;rfl
 have fi:∀(l:List Int),∀x∈l.map V.int,cC x=true:=fun l x hx=>by obtain⟨z,_,rfl⟩:=cX hx;rfl
 show⟨_,U,?_⟩
 show aP hp U ?_
 show⟨_,U,?_⟩
 show aP kM U ?_
 show⟨true,RB.lst (aF.of hI) (aF.of IW) rfl (eqs fs),_,U,?_⟩
 show aN (fun c=>az c (by left)) (fun v=>?_)
 show⟨_,U,_,b1,ins,n1,U,T.p1,T.f1,fun l1 H1 hl1 s1 g1=>?_⟩
 show⟨_,U,_,b2,ins,n2,U,T.p2.same s1,T.f2,fun l2 H2 hl2 s2 g2=>?_⟩
 rw[← T.sz]at g2
 show⟨true,RB.lst (aF.of (s2 _ _ g1)) (aF.of g2) rfl (eqs (fi _)),_,U,?_⟩
 show aN (fun c=>az c (by left)) (fun v=>?_)
 show q _ (aa s1 s2)
structure gG (H:Hp)(v1 v2:V)(ia:Addr)(b1 b2:aj)(ins:List Str)(n1 n2:List Nd)(iw:List Int):Prop where
 g1:Dm H v1 b1 ins n1
 g2:Dm H v2 b2 ins n2
 sz:ins.map (cJ b1)=ins.map (cJ b2)
 hi:H ia=some (.lst (iw.map V.int))
 pw:Paired Within (ins.map (cJ b1)) iw
 few1:n1.length*nJ b1<=100000
 few2:n2.length*nJ b2<=100000
def gG.same {H H':Hp}{v1 v2:V}{ia:Addr}{b1 b2:aj}{ins:List Str}{n1 n2:List Nd}{iw:List Int}(h:gG H v1 v2 ia b1 b2 ins n1 n2 iw)(s:ah H H'):gG H' v1 v2 ia b1 b2 ins n1 n2 iw:=⟨h.g1.same s,h.g2.same s,h.sz,s _ _ h.hi,h.pw,h.few1,h.few2⟩
def yR:Sp:=fun vs H Q z=>∃(v1 v2:V) (ia:Addr) (b1 b2:aj) (ins:List Str) (n1 n2:List Nd) (iw:List Int),vs=[v1,v2,.ref ia]/\gG H v1 v2 ia b1 b2 ins n1 n2 iw /\
 ∀(sd:List Int) (rd:Option (List Int)) (n:Nat) (sd':List Int) (rd':Option (List Int)) (n':Nat) (b:Bool) (H':Hp),ah H H'->aX (cj b1 n1) (0,bN b1 ins iw) (sd,rd,n)->aX (cj b2 n2) (0,bN b2 ins iw) (sd',rd',n')->(b=true↔¬ eg sd rd sd' rd')->Q (.bl b) H'
def Dn.ro {H H':Hp}{sa:Addr}:∀{rd:Option (List Int)} {ro:V},Dn H H' sa ro rd->mF H' ro rd
 | none,_,h=>h
 | some _,_,⟨l,e,_,_,h⟩=>⟨l,e,h⟩
def BL:aC ["one","other","inputs"] ["one","other","inputs"] (aq yt):=df
def xB {f:Addr}{fd:Yx}(F:b9 K "runs_part" "runs_part" yt f fd)(NP0:aS P w K mg base "refuse_no_pair" ["one","other"] 2 pA)(SA0:aS P w K mg base "said_alike" ["run","another"] 2 pC)(RO:aS P w K mg base "run_of" ["program","inputs"] 31 tN):aO P w K mg base bU 32 f fd ["one","other","inputs"] yR:=by
 show F.c0 BL fun cdv A outer s H vs Q E hr h=>?_
 obtain⟨v1,v2,ia,b1,b2,ins,n1,n2,iw,rfl,pre,q⟩:=h
 have NP:=NP0.mono (show 2<=31 by left)
 have SA:=SA0.mono (show 2<=31 by left)
 show dN ⟨_,(acj (acN (acm NP hr U (L (Y 0) (L (Y 1) M))))
   (acn (acq (acQ L3.xq (acm SA hr U (L (acm RO hr U (L (Y 0) (L (Y 2) M))) (L (acm RO hr U (L (Y 1) (L (Y 2) M))) M))) acR)))),?_⟩
 show⟨_,U,_,U,v1,v2,b1,b2,ins,n1,n2,U,⟨pre.g1.pa,pre.g2.pa,pre.g1.ft,pre.g2.ft,pre.sz⟩,fun H1 s1=>?_⟩
 have u9:=pre.same s1
 show⟨_,U,_,U,v1,ia,b1,ins,n1,iw,U,u9.g1,u9.hi,pre.pw,pre.few1,fun r sa ro n sd rd H2 s2 y vA y kN G1 jv rt=>?_⟩
 have Bh:=u9.same s2
 show⟨_,U,_,U,v2,ia,b2,ins,n2,iw,U,Bh.g2,Bh.hi,(by rw[← pre.sz];show pre.pw),pre.few2,fun r' BJ vF n' sd' rd' H3 s3 y Co y uD Ee DG KI=>?_⟩
 have Wl:fO H3 (.ref r) sd rd:=⟨⟨r,sa,ro,_,rfl,s3 _ _ vA,s3 _ _ kN,G1.ro.same s3⟩,jv⟩
 have Wm:fO H3 (.ref r') sd' rd':=⟨⟨r',BJ,vF,_,rfl,Co,uD,Ee.ro⟩,DG⟩
 show⟨.ref r,.ref r',sd,rd,sd',rd',U,Wl,Wm,fun u H4 s4 hu=>⟨U,?_⟩⟩
 show q sd rd n sd' rd' n' _ H4 (aa s1 (aa s2 (aa s3 s4))) rt KI ?_
 rcases hu with⟨h1,rfl⟩|⟨h1,k,rfl,_⟩
 . show⟨fun z=>az z (by left),fun z=>az h1 z⟩
 . show⟨fun y=>h1,fun y=>rfl⟩
abbrev F9:Stmt:=top 21
abbrev KO:Stmt:=top 20
def ext (n:Nat)(r:List Int):List (List Int):=(YL n).map fun w=>r++[((w:Nat):Int)]
def cD:List Int->List (List Int)
 | []=>[[]]
 | s::ss=>(YL s.toNat).flatMap fun w=>(cD ss).map fun r=>((w:Nat):Int)::r
theorem lP:∀(ss:List Int) (s:Int),cD (ss++[s])=(cD ss).flatMap (ext s.toNat)
 | [],s=>by
   change(YL s.toNat).flatMap (fun w=>[[((w:Nat):Int)]])=[[]].flatMap (ext s.toNat)
   rw[ZQ,List.flatMap_nil,YO]
   change _=(YL s.toNat).map fun w=>[]++[((w:Nat):Int)]
   generalize YL s.toNat=l
   induction l with
   | nil=>rfl
   | cons x l ih=>rw[ZQ,ih];rfl
 | a::ss,s=>by
   change(YL a.toNat).flatMap (fun w=>(cD (ss++[s])).map fun r=>((w:Nat):Int)::r)=((YL a.toNat).flatMap fun w=>(cD ss).map fun r=>((w:Nat):Int)::r).flatMap (ext s.toNat)
   rw[List.flatMap_assoc]
   congr 1
   funext w
   rw[lP ss s,List.map_flatMap,List.flatMap_map]
   congr 1
   funext r
   unfold ext
   rw[ZK]
   rfl
theorem lO:∀(ss:List Int) (r:List Int),r∈cD ss->r.length=ss.length
 | [],r,h=>by rw[dC h]
 | s::ss,r,h=>by
   obtain⟨w,_,h⟩:=List.mem_flatMap.mp h
   obtain⟨q,hq,rfl⟩:=cX h
   rw[YS,YS,lO ss q hq]
theorem mW (n:Nat):∀rows:List (List Int),(rows.flatMap (ext n)).length=rows.length*n
 | []=>by simp
 | r::rows=>by
   rw[ZQ,Ym,mW n rows,YS]
   unfold ext
   rw[Yk,YW,ZO,aag]
def MX (H:Hp)(a:Addr)(r:List Int):Prop:=H a=some (.lst (r.map V.int))
structure Own (H H2:Hp)(l:Addr)(as:List Addr)(rows:List (List Int)):Prop where
 s:ah H H2
 nl:H l=none
 na:∀a∈as,H a=none
 e:H2 l=some (.lst (as.map V.ref))
 p:Paired (MX H2) as rows
 nd:as.Nodup
 nin:l∉as
theorem Paired.wW {α β:Type}{F G:α->β->Prop}:∀{l₁:List α} {l₂:List β},Paired F l₁ l₂->(∀a b,a∈l₁->F a b->G a b)->Paired G l₁ l₂
 | _,_,.nil,_=>.nil
 | _,_,.cons h r,f=>.cons (f _ _ Y9 h) (Paired.wW r fun a b ha=>f a b (bu (.inr ha)))
def Own.from {H0 H H2:Hp}{l:Addr}{as:List Addr}{rows:List (List Int)}(h:Own H H2 l as rows)(s:ah H0 H):Own H0 H2 l as rows:=
 ⟨aa s h.s,ag s h.nl,fun a ha=>ag s (h.na a ha),h.e,h.p,h.nd,h.nin⟩
def Own.more {H H2:Hp}{l:Addr}{as:List Addr}{rows:List (List Int)}(h:Own H H2 l as rows){b:Addr}{r:List Int}(hb:H2 b=none)(h3:Hp)(s3:ah H2 h3)(e3:h3 b=some (.lst (r.map V.int))) :
   Own H (upd h3 l (.lst ((as++[b]).map V.ref))) l (as++[b]) (rows++[r]):=by
 have nb:b≠l:=fun z=>by rw[z,h.e]at hb;cases hb
 have VO:b∉as:=fun z=>by
   obtain⟨i,hi⟩:=List.getElem?_of_mem z
   obtain⟨q,_,hq⟩:=Paired.get h.p hi
   rw[show H2 b=some (.lst (q.map V.int))from hq]at hb
   cases hb
 have Uv:H b=none:=ag h.s hb
 show⟨fun c o hc=>?_,h.nl,fun a ha=>?_,ae,Paired.snoc ?_ ?_,?_,fun z=>?_⟩
 . rw[ar (ao hc h.nl)]
   show s3 _ _ (h.s _ _ hc)
 . rcases jy ha with ha|ha
   . show h.na a ha
   . rw[dC ha];show Uv
 . show Paired.wW h.p fun a r ha z=>?_
   change upd h3 l _ a=_
   rw[ar (fun e:a=l=>h.nin (e▸ha))]
   show s3 _ _ z
 . change upd h3 l _ b=_
   rw[ar nb]
   show e3
 . rw[aaH]
   show⟨h.nd,by simp,fun x hx y hy e=>VO (by rw[dC hy]at e;show e▸hx)⟩
 . rcases jy z with z|z
   . show h.nin z
   . show nb (dC z).symm
def yM:Sp:=fun vs H Q z=>∃(sa:Addr) (szs:List Int),vs=[.ref sa]/\H sa=some (.lst (szs.map V.int))/\(∀s∈szs,0<=s/\s<=900)/\szs.length<=900/\(∀i,(cD (szs.take i)).length<=900)/\∀l as H',Own H H' l as (cD szs)->Q (.ref l) H'
def tE:aC ["sizes","rows","size"] ["sizes"] (aq F9):=df
def EN {f:Addr}{fd:Yx}(F:b9 K "every_worths" "every_worths" F9 f fd)(m_range:mg "range"=none):aO P w K mg base bU 1 f fd ["sizes"] yM:=by
 show F.c0 tE fun cdv A outer s H vs Q E hr h=>?_
 obtain⟨sa,szs,rfl,kN,hsz,Uk,hg,q⟩:=h
 show⟨_,acX (acj (acw 1 tE.nd (acB (L (acB M) M)))
   (acj (acM (acI (Y 0)) (aco 2 tE.nd) (acn (L3.PZ (i:=1) [none,none,some 2] ["row","worth","size"] (fP F9) U (acI (Y 1)) (fun y y y y y=>⟨(aco 0 (dE ["row","worth","size"])),acH,(acU U m_range (L (Y 2) M)),(aco 1 (dE ["row","worth","size"])),acH,(acv ac9 (Y 0) (acB (L (Y 1) M)))⟩) tE.nd)))
   (acn (acq (Y 1))))),?_⟩
 show⟨aes,fun e0 Ci=>⟨aet,fun r0 zo=>?_⟩⟩
 have s1:=af Ci (.lst [])
 have e1:(upd H e0 (.lst [])) e0=some (.lst []):=ae
 generalize upd H e0 (.lst [])=Ha at s1 e1 zo ⊢
 have s2:=af zo (.lst [.ref e0])
 have e2:(upd Ha r0 (.lst [.ref e0])) r0=some (.lst [.ref e0]):=ae
 generalize upd Ha r0 (.lst [.ref e0])=H1 at s2 e2 ⊢
 have s12:=aa s1 s2
 have O1:Own H H1 r0 [e0] (cD (szs.take 0)):=⟨s12,ag s1 zo,fun a ha=>by rw[dC ha];show Ci,e2,.cons (s2 _ _ e1) .nil,by simp,fun z=>by rw[dC z,e1]at zo;cases zo⟩
 show⟨_,U,sa,U,⟨_,aF.of (s12 _ _ kN)⟩,?_⟩
 show dA (xs:=szs.map V.int) (fun i σ H2=>∃(l:Addr) (as:List Addr) (o2:Option V),σ=[some (.ref sa),some (.ref l),o2]/\Own H H2 l as (cD (szs.take i))) ⟨_,_,_,U,O1⟩ (fun i σ H2 y z=>?_) (fun i x0 σ H2 hx z=>?_) (fun σ H2 z=>?_)
 . obtain⟨l,as,o2,rfl,O⟩:=z
   show aF.of (O.s _ _ kN)
 . obtain⟨l,as,o2,rfl,O⟩:=z
   obtain⟨s0,Ov,rfl⟩:=ba hx
   obtain⟨z0,z9⟩:=hsz s0 (Yq Ov)
   have hi:i<szs.length:=(aQ Ov)
   have Cn:cD (szs.take (i+1))=(cD (szs.take i)).flatMap (ext s0.toNat):=by
     rw[Yv,Ov]
     show lP _ _
   have Jn:(cD (szs.take i)).length*s0.toNat<=900:=by
     have:=hg (i+1)
     rw[Cn,mW]at this
     show this
   have NM:as.length=(cD (szs.take i)).length:=Paired.length O.p
   show⟨_,U,l,U,⟨_,aF.of O.e⟩,fun D hD=>?_⟩
   show aT (xs:=as.map V.ref) (fun j H3=>∃bs,Own H2 H3 D bs (((cD (szs.take i)).take j).flatMap (ext s0.toNat))) ⟨[],af hD _,hD,(fun a ha=>nomatch ha),ae,.nil,ZF,(fun z=>nomatch z)⟩ (fun j H3 y z=>?_) (fun j x H3 hx z=>?_) (fun H3 z=>?_)
   . obtain⟨bs,O3⟩:=z
     show aF.of (O3.s _ _ O.e)
   . obtain⟨bs,O3⟩:=z
     obtain⟨a,ha,rfl⟩:=ba hx
     have Ah:j<as.length:=(aQ ha)
     have UH:j<(as.map V.ref).length:=by rw[Yk];show Ah
     obtain⟨r,iU,Ut⟩:=Paired.get O.p ha
     have Xs:r.length<=900:=by
       have:=lO _ _ (Yq iU)
       rw[Yu]at this
       lia
     show au ?_
     show bF (A:=fun H4=>sF _ _ _ (cf _ D) _ H4 _) ?_
     show⟨_,U,s0,U,by lia,by lia,?_⟩
     show cb (lo:=0) (n:=s0.toNat) (fun k H4=>∃bs,Own H2 H4 D bs (((cD (szs.take i)).take j).flatMap (ext s0.toNat)++(ext s0.toNat r).take k)) ⟨bs,by rw[Zn,YO];show O3⟩ (fun k H4 hk z=>?_) (fun H4 z=>?_)
     . obtain⟨cs,O4⟩:=z
       have QT:cs.length=j*s0.toNat+k:=by
         have:=Paired.length O4.p
         rw[Ym,mW,Yu,Yu]at this
         unfold ext at this
         rw[Yk,YW]at this
         rw[this,ZA (by lia),ZA (by lia)]
       have IZ:cs.length<901:=by
         have h1:(j+1)*s0.toNat<=(cD (szs.take i)).length*s0.toNat:=Nat.mul_le_mul_right _ (by lia)
         rw[ZO]at h1
         lia
       show au ?_
       show bF (A:=fun H5=>cf _ D _ H5 _) ?_
       show⟨_,U,_,U,aet,fun wl hwl=>?_⟩
       have t1:=af hwl (.lst [.int (0+(k:Int))])
       have u1:(upd H4 wl (.lst [.int (0+(k:Int))])) wl=some (.lst [.int (0+(k:Int))]):=ae
       generalize upd H4 wl (.lst [.int (0+(k:Int))])=H5 at t1 u1 ⊢
       have NN:H4 a=some (.lst (r.map V.int)):=O4.s _ _ Ut
       show⟨a,wl,_,_,U,U,t1 _ _ NN,u1,small (by simp;lia),fun nb Q3=>?_⟩
       have t2:=af Q3 (.lst (r.map V.int++[.int (0+(k:Int))]))
       have u2:(upd H5 nb (.lst (r.map V.int++[.int (0+(k:Int))]))) nb=some (.lst ((r++[(k:Int)]).map V.int)):=by
         rw[ae,Yt,ZE]
         rfl
       generalize upd H5 nb (.lst (r.map V.int++[.int (0+(k:Int))]))=H6 at t2 u2 ⊢
       have Lb:=aa t1 t2
       show⟨_,Lb _ _ O4.e,aD (by rw[Yk];lia),aB (Pv:=fun k H4=>∃bs,Own H2 H4 D bs (((cD (szs.take i)).take j).flatMap (ext s0.toNat)++(ext s0.toNat r).take k)) (by repeat' constructor) hk ⟨cs++[nb],?_⟩⟩
       have O5:=O4.more (ag t1 Q3) H6 Lb u2
       rw[Yt]at O5
       have er:(ext s0.toNat r).take (k+1)=(ext s0.toNat r).take k++[r++[(k:Int)]]:=by
         rw[Yv]
         congr 1
         unfold ext
         rw[YD,aav hk]
         rfl
       rw[er,← Zl]
       show O5
     . obtain⟨cs,O4⟩:=z
       show aB (Pv:=fun j H3=>∃bs,Own H2 H3 D bs (((cD (szs.take i)).take j).flatMap (ext s0.toNat))) (by repeat' constructor) UH ⟨cs,?_⟩
       have e1:(ext s0.toNat r).take s0.toNat=ext s0.toNat r:=YI (by unfold ext;rw[Yk,YW];show Yo _)
       rw[e1]at O4
       rw[Yv,iU,List.flatMap_append]
       change Own H2 H4 D cs (_++[r].flatMap (ext s0.toNat))
       rw[ZQ,List.flatMap_nil,YO]
       show O4
   . obtain⟨bs,O3⟩:=z
     rw[Yk,NM,YR,← Cn]at O3
     show⟨D,bs,_,U,O3.from O.s⟩
 . obtain⟨l,as,o2,rfl,O⟩:=z
   rw[Yk,YR]at O
   show⟨_,U,q l as H2 O⟩
def CS:Sp:=fun vs H Q z=>∃(v:V) (bs:aj) (ins:List Str) (nds:List Nd),vs=[v]/\di H v bs ins nds/\Fits bs ins/\(∀s∈ins.map (cJ bs),0<=s/\s<=900)/\(∀i,(cD ((ins.map (cJ bs)).take i)).length<=900)/\∀l as H',Own H H' l as (cD (ins.map (cJ bs)))->Q (.ref l) H'
def K0:aC ["program"] ["program"] (aq KO):=df
def EL {f:Addr}{fd:Yx}(F:b9 K "every_input" "every_input" KO f fd)(EW:aS P w K mg base "every_worths" ["sizes"] 1 yM)(IS:aS P w K mg base "input_sizes" ["program"] 1 kH):aO P w K mg base bU 2 f fd ["program"] CS:=by
 show F.c0 K0 fun cdv A outer s H vs Q E hr h=>?_
 obtain⟨v,bs,ins,nds,rfl,pa,ft,h1,h2,q⟩:=h
 show⟨_,acX (acn (acq (acm EW hr U (L (acm IS hr U (L (Y 0) M)) M)))),?_⟩
 show⟨_,U,v,bs,ins,nds,U,pa,ft,fun l H1 hl s1 e1=>?_⟩
 show⟨l,_,U,e1,h1,by rw[Yk];show ft.ilen,h2,fun l2 as H2 O=>q l2 as H2 (O.from s1)⟩
section
variable{S S' S2:Type}{f:S->Option (List Int×S)}{f':S'->Option (List Int×S')}{f2:S2->Option (List Int×S2)}{s:S}{s':S'}{s2:S2}
def Lk (f:S->Option (List Int×S))(f':S'->Option (List Int×S'))(R:S->S'->Prop):Prop:=∀s s',R s s'->(f s=none/\f' s'=none)\/∃x t t',f s=some (x,t)/\f' s'=some (x,t')/\R t t'
def jN (f:S->Option (List Int×S))(s:S)(f':S'->Option (List Int×S'))(s':S'):Prop:=∃R,Lk f f' R/\R s s'
def kP (f:S->Option (List Int×S))(s:S)(f':S'->Option (List Int×S'))(s':S'):Prop:=∃R,HQ f f' R/\R s s'
def jN.refl (f:S->Option (List Int×S))(s:S):jN f s f s:=⟨Eq,fun s s' e=>by
 subst e
 cases h:f s with
 | none=>show .inl ⟨rfl,rfl⟩
 | some r=>show .inr ⟨r.1,r.2,r.2,rfl,rfl,rfl⟩,rfl⟩
def jN.symm (h:jN f s f' s'):jN f' s' f s:=by
 obtain⟨R,l,r⟩:=h
 show⟨fun a b=>R b a,fun a b ab=>?_,r⟩
 rcases l b a ab with⟨n1,n2⟩|⟨x,t,t',e1,e2,rt⟩
 . show .inl ⟨n2,n1⟩
 . show .inr ⟨x,t',t,e2,e1,rt⟩
def jN.trans (h:jN f s f' s')(k:jN f' s' f2 s2):jN f s f2 s2:=by
 obtain⟨R,l,r⟩:=h
 obtain⟨R',l',r'⟩:=k
 show⟨fun a c=>∃b,R a b/\R' b c,fun a c ac=>?_,s',r,r'⟩
 obtain⟨b,ab,bc⟩:=ac
 rcases l a b ab with⟨n1,n2⟩|⟨x,t,t',e1,e2,rt⟩
 . rcases l' b c bc with⟨_,n3⟩|⟨x',u,u',e3,e4,ru⟩
   . show .inl ⟨n1,n3⟩
   . rw[n2]at e3
     cases e3
 . rcases l' b c bc with⟨n3,_⟩|⟨x',u,u',e3,e4,ru⟩
   . rw[e2]at n3
     cases n3
   . rw[e2]at e3
     cases e3
     show .inr ⟨x,t,u',e1,e4,t',rt,ru⟩
def jN.zQ (h:jN f s f' s'):kP f s f' s':=by
 obtain⟨R,l,r⟩:=h
 show⟨R,⟨fun a b x t ab e=>?_,fun a b ab e=>?_⟩,r⟩
 . rcases l a b ab with⟨n1,_⟩|⟨y,u,t',e1,e2,rt⟩
   . rw[n1]at e
     cases e
   . rw[e1]at e
     cases e
     show⟨0,t',cp (n:=0) (sd:=[]) rfl e2,rt⟩
 . rcases l a b ab with⟨_,n2⟩|⟨y,u,t',e1,_,_⟩
   . show⟨0,b,U,n2⟩
   . rw[e1]at e
     cases e
def kP.trans (h:kP f s f' s')(k:kP f' s' f2 s2):kP f s f2 s2:=by
 obtain⟨R,l,r⟩:=h
 obtain⟨R',l',r'⟩:=k
 show⟨fun a c=>∃b,R a b/\R' b c,⟨fun a c x t ac e=>?_,fun a c ac e=>?_⟩,s',r,r'⟩
 . obtain⟨b,ab,bc⟩:=ac
   obtain⟨n,t',h1,h2⟩:=l.go a b x t ab e
   obtain⟨m,u,hm,h3,h4⟩:=l'.walk bc h1
   show⟨m-1,u,?_,t',h2,h4⟩
   rw[show m-1+1=m by lia]
   show h3
 . obtain⟨b,ab,bc⟩:=ac
   obtain⟨n,t',h1,h2⟩:=l.stop a b ab e
   obtain⟨m,u,hm,h3,h4⟩:=l'.walk bc h1
   obtain⟨n2,u2,h5,h6⟩:=l'.stop t' u h4 h2
   show⟨m+n2,u2,?_,h6⟩
   rw[dW h3,h5]
   rfl
def kP.res (h:kP f' s' f s){sd:List Int}{rd:Option (List Int)}{n:Nat}{sd':List Int}{rd':Option (List Int)}{n':Nat}(h1:aX f s (sd,rd,n))(h2:aX f' s' (sd',rd',n')):eg sd rd sd' rd'/\(rd=none->sd'=sd/\n'<=n):=by
 obtain⟨R,si,r⟩:=h
 have al:=(si.alike r h2 h1).symm
 show⟨al,fun e=>?_⟩
 subst e
 cases rd' with
 | some xs=>cases al.2
 | none=>
   obtain⟨t',a1,a2⟩:=h2.stop
   obtain⟨m,t,hm,a3,a4⟩:=si.walk r a1
   obtain⟨k,t2,a5,a6⟩:=si.stop _ _ a4 a2
   have a7:=dW a3 k
   rw[a5]at a7
   have a8:tr f (m+k) s=some (t2,sd'++[]):=a7
   rw[YO]at a8
   obtain⟨t0,b1,b2⟩:=h1.stop
   show⟨(h1.fin a8 a6).2.symm,YU hm (gQ b1 b2 a3)⟩
def jN.steps (h:jN f s f' s'){sd:List Int}{n:Nat}{sd':List Int}{n':Nat}(h1:aX f s (sd,none,n))(h2:aX f' s' (sd',none,n')):n'=n:=
 Nat.le_antisymm ((h.symm.zQ.res h1 h2).2 rfl).2 ((h.zQ.res h2 h1).2 rfl).2
end
def Np.nd:Np->Nd
 | .put x s n=>.put x s n
 | .say s n=>.say s n
 | .test c n o=>.test c n o
 | .pick _ _=>.fin
 | .fin=>.fin
theorem aI.nd {H:Hp}:∀{e:Np} {v:V},e.Jy->aI H v e->p4 H v e.nd
 | .put _ _ _,_,_,h=>h
 | .say _ _,_,_,h=>h
 | .test _ _ _,_,_,h=>h
 | .pick _ _,_,i,_=>i.elim
 | .fin,_,_,h=>h
theorem sH {H:Hp}:∀{vn:List V} {nds:List Np},(∀e∈nds,e.Jy)->Paired (aI H) vn nds->Paired (p4 H) vn (nds.map Np.nd)
 | [],[],_,.nil=>.nil
 | _::_,_::_,h,.cons a r=>.cons (aI.nd (h _ (bu (.inl rfl))) a) (sH (fun e he=>h e (bu (.inr he))) r)
theorem eO.good {ns:List Str}{m:Int}{e:Np}(h:eO ns m e):e.nd.good (·∈ns) m 19:=by
 have is:=h.is
 have ld:=h.ld
 have td:=h.td
 cases e with
 | put x s n=>
   have t1:=td (.box "box" x) (bu (.inl rfl))
   have t2:=td s (bu (.inr (List.mem_singleton.mpr rfl)))
   have l1:=ld n (List.mem_singleton.mpr rfl)
   show⟨t1.1.2,is,t2.1,by have:=t2.2;lia,l1.1,l1.2⟩
 | say s n=>
   have t2:=td s (List.mem_singleton.mpr rfl)
   have l1:=ld n (List.mem_singleton.mpr rfl)
   show⟨is,t2.1,by have:=t2.2;lia,l1.1,l1.2⟩
 | test c n o=>
   have t2:=td c (List.mem_singleton.mpr rfl)
   have l1:=ld n (bu (.inl rfl))
   have l2:=ld o (bu (.inr (List.mem_singleton.mpr rfl)))
   show⟨is,t2.1,by have:=t2.2;lia,l1.1,l1.2,l2.1,l2.2⟩
 | pick _ _=>show is.elim
 | fin=>show Y5
abbrev bK (bs:aj)(nds:List Np):=cj bs (nds.map Np.nd)
def bP {bs:aj}{nds:List Np}{j:Nat}{ws:List Int}{e:Np}(h:nds[j]?=some e):bK bs nds ((j:Int),ws)=br bs ws e.nd:=fk (by rw[Y6,YD,h];rfl)
structure Dh (nds nds':List Np)(φ:Nat->Nat):Prop where
 at_:∀(j':Nat) (e':Np),nds'[j']?=some e'->∃(e:Np) (ls:List Int),nds[φ j']?=some e/\e'=e.led ls/\ls.length=e.aH.length/\∀(i:Nat) (l':Int),ls[i]?=some l'->0<=l'/\l'<(nds'.length:Int)/\e.aH[i]?=some ((φ l'.toNat:Nat):Int)
def yV {bs:aj}{ws:List Int}{e:Np}{ls:List Int}{g:Int->Int}(hl:ls.length=e.aH.length)(hg:∀(i:Nat) (l':Int),ls[i]?=some l'->e.aH[i]?=some (g l')):(br bs ws e.nd=none/\br bs ws (e.led ls).nd=none)\/∃x l' ws',l'∈ls/\br bs ws e.nd=some (x,g l',ws')/\br bs ws (e.led ls).nd=some (x,l',ws'):=by
 cases e with
 | fin=>show .inl ⟨rfl,rfl⟩
 | pick _ _=>show .inl ⟨rfl,rfl⟩
 | put x s n=>
   match ls,hl with
   | [l],_=>
     have h0:=hg 0 l rfl
     have h0:n=g l:=by cases h0;rfl
     show .inr ⟨_,l,_,List.mem_singleton.mpr rfl,by rw[← h0];rfl,U⟩
 | say s n=>
   match ls,hl with
   | [l],_=>
     have h0:=hg 0 l rfl
     have h0:n=g l:=by cases h0;rfl
     show .inr ⟨_,l,_,List.mem_singleton.mpr rfl,by rw[← h0];rfl,U⟩
 | test c n o=>
   match ls,hl with
   | [l,l2],_=>
     have h0:=hg 0 l rfl
     have h0:n=g l:=by cases h0;rfl
     have h1:=hg 1 l2 rfl
     have h1:o=g l2:=by cases h1;rfl
     by_cases z:(c.holds fun w y=>eJ bs ws y)=true
     . show .inr ⟨[],l,ws,bu (.inl rfl),?_,?_⟩
       . change some ([],(if _ then n else o),ws)=_
         rw[bj z,h0]
       . change some ([],(if _ then l else l2),ws)=_
         rw[bj z]
     . show .inr ⟨[],l2,ws,bu (.inr (List.mem_singleton.mpr rfl)),?_,?_⟩
       . change some ([],(if _ then n else o),ws)=_
         rw[bg z,h1]
       . change some ([],(if _ then l else l2),ws)=_
         rw[bg z]
def Dh.lk {bs:aj}{nds nds':List Np}{φ:Nat->Nat}(c:Dh nds nds' φ):Lk (bK bs nds) (bK bs nds') fun s s'=>∃j':Nat,j'<nds'.length/\s'.1=(j':Int)/\s.1=((φ j':Nat):Int)/\s.2=s'.2:=by
 rintro⟨p,ws⟩ ⟨p',ws'⟩ ⟨j',hj,h1,h2,h3⟩
 have h1:p'=(j':Int):=h1
 have h2:p=((φ j':Nat):Int):=h2
 have h3:ws=ws':=h3
 subst h1 h2 h3
 have hg:nds'[j']?=some nds'[j']:=Yn hj
 generalize nds'[j']=e' at hg
 obtain⟨e,ls,he,rfl,hl,hm⟩:=c.at_ j' e' hg
 rw[bP hg,bP he]
 rcases yV (bs:=bs) (ws:=ws) (g:=fun l=>((φ l.toNat:Nat):Int)) hl (fun i l' h=>(hm i l' h).2.2)with h|⟨x,l',ws',hin,a,b⟩
 . show .inl h
 . obtain⟨i,hi⟩:=List.mem_iff_getElem?.mp hin
   obtain⟨q0,q1,_⟩:=hm i l' hi
   show .inr ⟨x,_,_,a,b,l'.toNat,by lia,(YA q0).symm,U,U⟩
def Dh.eq1 {bs:aj}{nds nds':List Np}{φ:Nat->Nat}{ws:List Int}(c:Dh nds nds' φ)(z:φ 0=0)(one:0<nds'.length):jN (bK bs nds) (0,ws) (bK bs nds') (0,ws):=⟨_,c.lk,0,one,rfl,by rw[z];rfl,rfl⟩
def mv {nds:List Np}{nd:Nat}{a:Np}{named:List Int}(ok:kQ nds)(ha:nds[nd]?=some a):Dh nds (spS nds nd a named) (fun j=>if j=nds.length then nd else j):=by
 have gY:=(aQ ha)
 have hlen:(spS nds nd a named).length=nds.length+1:=by unfold spS;rw[Z6,Ym];rfl
 show⟨fun j' e' DW=>?_⟩
 unfold spS at DW
 rw[aam]at DW
 obtain⟨e,he,rfl⟩:=Option.map_eq_some_iff.mp DW
 have hφ:nds[if j'=nds.length then nd else j']?=some e:=by
   by_cases c:j'=nds.length
   . rw[bj c]
     rw[c,Y8 (Yo _),abq]at he
     cases he
     show ha
   . rw[bg c]
     have hj:j'<nds.length:=by
       have:=(aQ he)
       rw[Ym]at this
       simp only[YS,aat]at this
       lia
     rw[YV hj]at he
     show he
 have hin:=ok e (Yq hφ)
 show⟨e,(if q5 nds.length nd j'∈named then e.aH.map (nQ (nds.length:Int) (nd:Int))else e.aH),hφ,U,by split<;>simp,fun i l' hl=>?_⟩
 rw[hlen]
 have key:∀l:Int,e.aH[i]?=some l->l'=l->0<=l'/\l'<((nds.length+1:Nat):Int)/\e.aH[i]?=some (((if l'.toNat=nds.length then nd else l'.toNat:Nat):Int)):=fun l hl2 e1=>by
   subst e1
   have:=hin l' (Yq hl2)
   show⟨this.1,by lia,?_⟩
   rw[bg (by lia),hl2,YA this.1]
 by_cases c:q5 nds.length nd j'∈named
 . rw[bj c,YD]at hl
   obtain⟨l,hl2,e1⟩:=Option.map_eq_some_iff.mp hl
   unfold nQ at e1
   by_cases c2:l=(nd:Int)
   . rw[bj c2]at e1
     subst e1
     show⟨by lia,by lia,?_⟩
     rw[bj (by lia),hl2,c2]
   . rw[bg c2]at e1
     show key l hl2 e1.symm
 . rw[bg c]at hl
   show key l' hl rfl
theorem xJ {m h k:Int}{nds:List Np}:∀{n j':Nat} {e':Np},(qL m h k nds n)[j']?=some e'->∃(q r:Nat) (e:Np),q<n/\j'=q*nds.length+r/\r<nds.length/\nds[r]?=some e/\e'=Kg m h k q e
 | 0,j',e',he=>by unfold qL at he;cases he
 | n+1,j',e',he=>by
   unfold qL at he
   by_cases c:j'<(qL m h k nds n).length
   . rw[YV c]at he
     obtain⟨q,r,e,a1,a2,a3,a4,a5⟩:=xJ he
     show⟨q,r,e,by lia,a2,a3,a4,a5⟩
   . rw[Y8 (by lia),YD]at he
     obtain⟨e,mQ,rfl⟩:=Option.map_eq_some_iff.mp he
     have hr:=(aQ mQ)
     rw[fF]at c hr mQ
     show⟨n,j'-n*nds.length,e,by lia,by lia,hr,mQ,U⟩
def A3 {m h k i l:Int}(k0:0<k)(i0:0<=i)(ik:i<k)(l0:0<=l)(lm:l<m):0<=qK m h k i l/\qK m h k i l<k*m/\qK m h k i l%m=l:=by
 have key:∀a:Int,0<=a->a<k->0<=a*m+l/\a*m+l<k*m/\(a*m+l)%m=l:=fun a a0 ak=>by
   have h1:0<=a*m:=Int.mul_nonneg a0 (by lia)
   have h2:(a+1)*m<=k*m:=aah (by lia) (by lia)
   rw[Int.add_mul,Int.one_mul]at h2
   show⟨by lia,by lia,?_⟩
   rw[Int.add_comm,Int.add_mul_emod_self_right,Int.emod_eq_of_lt l0 lm]
 unfold qK
 split
 . show key _ (aa1 _ (by lia)) (aaB _ k0)
 . show key _ i0 ik
def xK {nds:List Np}{h:Int}{k:Nat}(ok:kQ nds):Dh nds (qL (nds.length:Int) h (k:Int) nds k) (fun j=>j%nds.length):=by
 show⟨fun j' e' DW=>?_⟩
 obtain⟨q,r,e,a1,a2,a3,a4,a5⟩:=xJ DW
 have hr:j'%nds.length=r:=by rw[a2,aag,Nat.add_mul_mod_self_right,Nat.mod_eq_of_lt a3]
 show⟨e,e.aH.map (qK (nds.length:Int) h (k:Int) (q:Int)),by rw[hr];show a4,a5,by rw[Yk],fun i l' hl=>?_⟩
 rw[YD]at hl
 obtain⟨l,hl2,rfl⟩:=Option.map_eq_some_iff.mp hl
 have hin:=ok e (Yq a4) l (Yq hl2)
 obtain⟨b1,b2,b3⟩:=A3 (m:=(nds.length:Int)) (h:=h) (k:=(k:Int)) (i:=(q:Int)) (by lia) (by lia) (by lia) hin.1 hin.2
 show⟨b1,by rw[fF,abI];show b2,?_⟩
 rw[hl2]
 congr 1
 have:(((qK (nds.length:Int) h (k:Int) (q:Int) l).toNat%nds.length:Nat):Int)=qK (nds.length:Int) h (k:Int) (q:Int) l%(nds.length:Int):=by
   rw[Int.natCast_emod,YA b1]
 rw[this,b3]
theorem rE {bs:aj}{x z:Str}{t:Int}(h:z≠x):∀{bs:aj} {ws:List Int},eJ bs (cg bs ws x t) z=eJ bs ws z
 | [],_=>rfl
 | _::_,[]=>rfl
 | b::bs,w::ws=>by
   change(if b.1=z then(if b.1=x then t%b.2 else w)else eJ bs (cg bs ws x t) z)=if b.1=z then w else eJ bs ws z
   by_cases c:b.1=z
   . rw[bj c,bj c,bg (fun q=>h (c.symm.trans q))]
   . rw[bg c,bg c]
     show rE (bs:=bs) h
theorem mi {x y:Str}{a c:Int}(h:x≠y):∀{bs:aj} {ws:List Int},cg bs (cg bs ws x a) y c=cg bs (cg bs ws y c) x a
 | [],_=>rfl
 | _::_,[]=>rfl
 | b::bs,w::ws=>by
   change(if b.1=y then c%b.2 else if b.1=x then a%b.2 else w)::cg bs (cg bs ws x a) y c=(if b.1=x then a%b.2 else if b.1=y then c%b.2 else w)::cg bs (cg bs ws y c) x a
   rw[mi h]
   by_cases e1:b.1=x
   . rw[bj e1,bg (fun q=>h (e1.symm.trans q)),bj e1]
   . rw[bg e1,bg e1]
def oM {ns:List Str}{y:Str}{W W':Str->Int}(h:∀z,z≠y->W z=W' z):∀{e:E},e.okIn (vR ns)->e.nm y=false->e.worth (fun w z=>W z)=e.worth (fun w z=>W' z):=fun{e}=>by
 induction e with
 | num _=>show fun w w=>rfl
 | box t x=>
   intro ok n
   show h x fun q=>?_
   have n:(decide (t="box")&&decide (x=y))=false:=n
   rw[cH ok.1,cH q]at n
   cases n
 | yes=>show fun w w=>rfl
 | nt a ih=>show fun w w=>rfl
 | two k a b ia ib=>
   intro ok n
   have n:(a.nm y || b.nm y)=false:=n
   rw[Bool.or_eq_false_iff]at n
   have h1:=ia ok.1 n.1
   have h2:=ib ok.2 n.2
   cases k with
   | plus=>change _+_=_+_;rw[h1,h2]
   | less=>change _-_=_-_;rw[h1,h2]
   | same=>rfl
   | under=>rfl
   | both=>rfl
theorem sG {nds:List Np}{nd j:Nat}{e:Np}(hj:j≠nd)(h:nds[j]?=some e):∀{i:Nat},j<i->e∈oS nds nd i
 | 0,hi=>az hi (Zz _)
 | i+1,hi=>by
   change e∈oS nds nd i++_
   by_cases c:j<i
   . show oF (.inl (sG hj h c))
   . have:j=i:=by lia
     subst this
     rw[bg hj,h]
     show oF (.inr (List.mem_singleton.mpr rfl))
def lK {nds:List Np}{nd j:Nat}{e:Np}{b:Int}(co:eT nds nd b=false)(hj:j≠nd)(h:nds[j]?=some e):b∉e.aH:=fun hb=>by
 unfold eT at co
 have:=List.any_eq_false.mp co e (sG hj h (aQ h))
 show this (cH hb)
def mw {bs:aj}{ws:List Int}{e:Np}{x:List Int}{n:Int}{ws':List Int}(h:br bs ws e.nd=some (x,n,ws')):n∈e.aH:=by
 cases e with
 | fin=>cases h
 | pick _ _=>cases h
 | put y s m=>cases h;show List.mem_singleton.mpr rfl
 | say s m=>cases h;show List.mem_singleton.mpr rfl
 | test c m o=>
   have h:some ([],(if _ then m else o),ws)=some (x,n,ws'):=h
   injection h with h
   injection h with _ h
   injection h with h _
   rw[← h]
   split
   . show bu (.inl rfl)
   . show bu (.inr (List.mem_singleton.mpr rfl))
def wg {bs:aj}{ns:List Str}{nds:List Np}{nd:Nat}{x y:Str}{e e2:E}{b b2:Int}{ws:List Int}(ok:kQ nds)(ex:mC nds nd)(h1:nds[nd]?=some (.put x e b))(h2:nds[b.toNat]?=some (.put y e2 b2))(o1:e.okIn (vR ns))(o2:e2.okIn (vR ns)):jN (bK bs nds) (0,ws) (bK bs (uq nds nd x y e e2 b b2)) (0,ws):=by
 cases ex with
 | mk k1 k2 b0 bn co xy n1 n2=>
 rw[h1]at k1
 cases k1
 rw[h2]at k2
 cases k2
 have bl:=ok _ (Yq h1) b (List.mem_singleton.mpr rfl)
 have G8:=(aQ h1)
 have Qp:=(aQ h2)
 have LL:((b.toNat:Nat):Int)=b:=YA bl.1
 have nb:b.toNat≠nd:=by lia
 show⟨fun s s'=>∃j:Nat,s.1=(j:Int)/\s'.1=(j:Int)/\j<nds.length/\((j≠b.toNat/\s.2=s'.2)\/(j=b.toNat/\∃w,s.2=cg bs w x (e.worth fun v z=>eJ bs w z)/\s'.2=cg bs w y (e2.worth fun v z=>eJ bs w z))),?_,0,U,U,by lia,.inl ⟨by lia,U⟩⟩
 rintro⟨p,ms⟩ ⟨p',ys⟩ ⟨j,q1,q2,jl,q3⟩
 have q1:p=(j:Int):=q1
 have q2:p'=(j:Int):=q2
 subst q1 q2
 rcases q3 with⟨jb,e0⟩|⟨jb,w,e1,lN⟩
 . have e0:ms=ys:=e0
   subst e0
   by_cases jn:j=nd
   . subst jn
     have g2:(uq nds j x y e e2 b b2)[j]?=some (.put y e2 b):=by
       unfold uq
       rw[ZT nb,Z9 G8]
     rw[bP h1,bP g2]
     show .inr ⟨[],_,_,U,U,b.toNat,LL.symm,LL.symm,Qp,.inr ⟨U,ms,U,U⟩⟩
   . have hj:nds[j]?=some nds[j]:=Yn jl
     generalize nds[j]=a at hj
     have g2:(uq nds nd x y e e2 b b2)[j]?=some a:=by
       unfold uq
       rw[ZT (fun q=>jb q.symm),ZT (fun q=>jn q.symm),hj]
     rw[bP hj,bP g2]
     cases hs:br bs ms a.nd with
     | none=>show .inl ⟨rfl,rfl⟩
     | some r=>
       obtain⟨sx,n,ws'⟩:=r
       have nl:=mw hs
       have nr:=ok a (Yq hj) n nl
       have VP:n≠b:=fun q=>lK co jn hj (q▸nl)
       show .inr ⟨sx,_,_,U,U,n.toNat,(YA nr.1).symm,(YA nr.1).symm,by lia,.inl ⟨by lia,U⟩⟩
 . subst jb
   have e1:ms=cg bs w x (e.worth fun v z=>eJ bs w z):=e1
   have lN:ys=cg bs w y (e2.worth fun v z=>eJ bs w z):=lN
   have g2:(uq nds nd x y e e2 b b2)[b.toNat]?=some (.put x e b2):=by
     unfold uq
     rw[Z9 (by rw[ZL];show Qp)]
   rw[bP h2,bP g2]
   have nl:b2∈(Np.put y e2 b2).aH:=List.mem_singleton.mpr rfl
   have nr:=ok _ (Yq h2) b2 nl
   have VP:b2≠b:=fun q=>lK co nb h2 (q▸nl)
   show .inr ⟨[],_,_,U,U,b2.toNat,(YA nr.1).symm,(YA nr.1).symm,by lia,.inl ⟨by lia,?_⟩⟩
   change cg bs ms y (e2.worth fun v z=>eJ bs ms z)=cg bs ys x (e.worth fun v z=>eJ bs ys z)
   have a1:(e2.worth fun v z=>eJ bs ms z)=e2.worth fun v z=>eJ bs w z:=by
     rw[e1]
     show oM (fun z hz=>rE (bs:=bs) hz) o2 n2
   have a2:(e.worth fun v z=>eJ bs ys z)=e.worth fun v z=>eJ bs w z:=by
     rw[lN]
     show oM (fun z hz=>rE (bs:=bs) hz) o1 n1
   rw[a1,a2,e1,lN]
   show mi xy
theorem oW {x:Str}{t:Int}:∀{bs:aj} {ws:List Int},bs.length=ws.length->x∉bs.map (·.1)->cg bs ws x t=ws
 | [],[],_,_=>rfl
 | [],_::_,h,_=>by simp at h
 | _::_,[],h,_=>by simp at h
 | b::bs,w::ws,h,hx=>by
   change(if b.1=x then t%b.2 else w)::cg bs ws x t=w::ws
   rw[bg (fun e=>hx (bu (.inl e.symm))),oW (by simpa using h) fun z=>hx (bu (.inr z))]
theorem mj {x:Str}:∀{bs:aj} {ws:List Int},(bs.map (·.1)).Nodup->Paired Within (bs.map (·.2)) ws->cg bs ws x (eJ bs ws x)=ws
 | [],_,_,.nil=>rfl
 | b::bs,w::ws,nd,.cons r q=>by
   rw[YM,aas]at nd
   have hl:bs.length=ws.length:=by have:=Paired.length q;rwa[Yk]at this
   change(if b.1=x then(if b.1=x then w else eJ bs ws x)%b.2 else w)::cg bs ws x (if b.1=x then w else eJ bs ws x)=w::ws
   by_cases e:b.1=x
   . rw[bj e,bj e,Int.emod_eq_of_lt r.1 r.2,oW hl (by rw[← e];show nd.1)]
   . rw[bg e,bg e,mj nd.2 q]
def uF {bs:aj}{nds:List Np}{p:Nat}{e:Np}{n:Int}{ws:List Int}(nd:(bs.map (·.1)).Nodup)(pw:Paired Within (bs.map (·.2)) ws)(he:nds[p]?=some e)(hi:e.idle=some n):bK bs nds ((p:Int),ws)=some ([],n,ws):=by
 rw[bP he]
 cases e with
 | fin=>cases hi
 | pick _ _=>cases hi
 | say _ _=>cases hi
 | put x s m=>
   have hi:(if s.j7 x=true then some m else none)=some n:=hi
   by_cases c:s.j7 x=true
   . rw[bj c]at hi
     cases hi
     cases s with
     | box t y=>
       have c:(decide (t="box")&&decide (y=x))=true:=c
       rw[Zp]at c
       have e1:=cZ c.2
       subst e1
       change some ([],n,cg bs ws y (eJ bs ws y))=_
       rw[mj nd pw]
     | num _=>cases c
     | yes=>cases c
     | nt _=>cases c
     | two _ _ _=>cases c
   . rw[bg c]at hi
     cases hi
 | test c m o=>
   have hi:(if m=o then some m else none)=some n:=hi
   by_cases z:m=o
   . rw[bj z]at hi
     cases hi
     subst z
     change some ([],(if _ then n else n),ws)=_
     rw[ite_self]
   . rw[bg z]at hi
     cases hi
def zf {bs:aj}{nds:List Np}{ws:List Int}(ok:kQ nds)(nd:(bs.map (·.1)).Nodup)(pw:Paired Within (bs.map (·.2)) ws){p r m:Nat}(w:Way nds p r m):tr (bK bs nds) m ((p:Int),ws)=some (((r:Int),ws),[]):=by
 induction w with
 | here _=>rfl
 | @on p q r m h1 h2 _ ih=>
   obtain⟨e,n,he,hi,rfl⟩:=sL h2
   have hn:=mS ok he hi
   have h0:tr (bK bs nds) 1 ((p:Int),ws)=some ((n,ws),[]):=cp (n:=0) (sd:=[]) (x:=[]) rfl (uF nd pw he hi)
   have:=dW h0 m
   rw[aag,this,← YA hn.1,ih]
   rfl
def vg {bs:aj}{ws:List Int}{e:Np}{ls:List Int}(hl:ls.length=e.aH.length):(br bs ws e.nd=none/\br bs ws (e.led ls).nd=none)\/∃(i:Nat) (x:List Int) (l l':Int) (ws':List Int),e.aH[i]?=some l/\ls[i]?=some l'/\br bs ws e.nd=some (x,l,ws')/\br bs ws (e.led ls).nd=some (x,l',ws'):=by
 cases e with
 | fin=>show .inl ⟨rfl,rfl⟩
 | pick _ _=>show .inl ⟨rfl,rfl⟩
 | put x s n=>
   match ls,hl with
   | [l],_=>show .inr ⟨0,_,n,l,_,rfl,rfl,rfl,rfl⟩
 | say s n=>
   match ls,hl with
   | [l],_=>show .inr ⟨0,_,n,l,_,rfl,rfl,rfl,rfl⟩
 | test c n o=>
   match ls,hl with
   | [l,l2],_=>
     by_cases z:(c.holds fun w y=>eJ bs ws y)=true
     . show .inr ⟨0,[],n,l,ws,U,U,?_,?_⟩
       . change some ([],(if _ then n else o),ws)=_
         rw[bj z]
       . change some ([],(if _ then l else l2),ws)=_
         rw[bj z]
     . show .inr ⟨1,[],o,l2,ws,U,U,?_,?_⟩
       . change some ([],(if _ then n else o),ws)=_
         rw[bg z]
       . change some ([],(if _ then l else l2),ws)=_
         rw[bg z]
def wj {bs:aj}{nds:List Np}{ws:List Int}(ok:kQ nds)(h0:0<nds.length)(nd:(bs.map (·.1)).Nodup)(sz:∀b∈bs,1<=b.2)(gd:∀e∈nds,e.nd.good (·∈bs.map (·.1)) (nds.length:Int) 19)(pw:Paired Within (bs.map (·.2)) ws):kP (bK bs (cn nds)) (0,ws) (bK bs nds) (0,ws):=by
 have key:∀(s' s:Int×List Int),(∃j p:Nat,s'.1=(j:Int)/\s.1=(p:Int)/\p<nds.length/\(bQ nds)[j]?=some (bB nds p).1/\s.2=s'.2/\Paired Within (bs.map (·.2)) s.2)->∃(m:Nat) (t:Int×List Int),tr (bK bs nds) m s=some (t,[])/\((bK bs nds t=none/\bK bs (cn nds) s'=none)\/∃(x:List Int) (u u':Int×List Int),bK bs nds t=some (x,u)/\bK bs (cn nds) s'=some (x,u')/\(∃j p:Nat,u'.1=(j:Int)/\u.1=(p:Int)/\p<nds.length/\(bQ nds)[j]?=some (bB nds p).1/\u.2=u'.2/\Paired Within (bs.map (·.2)) u.2)):=by
   rintro⟨q',ws'⟩ ⟨q,ws⟩ ⟨j,p,e1,e2,pl,hk,e3,pw⟩
   have e1:q'=(j:Int):=e1
   have e2:q=(p:Int):=e2
   have e3:ws=ws':=e3
   have pw:Paired Within (bs.map (·.2)) ws:=pw
   subst e1 e2 e3
   have wa:=gy ok pl
   obtain⟨e,he⟩ : ∃e,nds[(bB nds p).1]?=some e:=⟨_,Yn wa.2.1⟩
   have gt:(cn nds)[j]?=some (e.led (eX nds e)):=by
     unfold cn
     rw[YD,hk]
     change some ((nds.getD (bB nds p).1 .fin).led (eX nds (nds.getD (bB nds p).1 .fin)))=_
     rw[YN,he]
     rfl
   show⟨_,_,zf ok nd pw wa.1,?_⟩
   rw[bP he,bP gt]
   rcases vg (bs:=bs) (ws:=ws) (e:=e) (ls:=eX nds e) (by unfold eX;rw[Yk])with h|⟨i,x,l,l',pQ,a1,a2,a3,a4⟩
   . show .inl h
   . unfold eX at a2
     rw[YD,a1]at a2
     injection a2 with a2
     have lr:=ok e (Yq he) l (Yq a1)
     have ll:l.toNat<nds.length:=by lia
     have wl:=gy ok ll
     have sn:=fI sz pw (gd e (Yq he)) a3
     show .inr ⟨x,_,_,a3,a4,fN nds (bB nds l.toNat).1,l.toNat,a2.symm,(YA lr.1).symm,ll,qI (hJ wl.2.1 wl.2.2.2),U,sn.2.2.1⟩
 show⟨fun s' s=>∃j p:Nat,s'.1=(j:Int)/\s.1=(p:Int)/\p<nds.length/\(bQ nds)[j]?=some (bB nds p).1/\s.2=s'.2/\Paired Within (bs.map (·.2)) s.2,⟨fun s' s x t hr hs=>?_,fun s' s hr hs=>?_⟩,0,0,U,U,h0,U,U,pw⟩
 . obtain⟨m,u,k1,k2⟩:=key s' s hr
   rcases k2 with⟨_,k3⟩|⟨y,v,v',k3,k4,k5⟩
   . rw[k3]at hs
     cases hs
   . rw[k4]at hs
     cases hs
     show⟨m,v,cp k1 k3,k5⟩
 . obtain⟨m,u,k1,k2⟩:=key s' s hr
   rcases k2 with⟨k3,_⟩|⟨y,v,v',k3,k4,k5⟩
   . show⟨m,u,k1,k3⟩
   . rw[k4]at hs
     cases hs
def pJ {nds:List Np}(ok:kQ nds)(h0:0<nds.length):(cn nds).length<=nds.length:=by
 unfold cn
 rw[Yk]
 show oD ok h0
abbrev CM:Stmt:=top 64
theorem mq {bs:aj}{nds nds':List Nd}:∀{n:Nat} {pl pl':Int} {ws ws':List Int},jN (cj bs nds) (pl,ws) (cj bs nds') (pl',ws')->bW bs nds n pl ws=bW bs nds' n pl' ws'
 | 0,_,_,_,_,_=>rfl
 | n+1,pl,pl',ws,ws',h=>by
   have st:∀(nds:List Nd) (pl:Int) (ws:List Int),bW bs nds (n+1) pl ws=match cj bs nds (pl,ws)with|none=>[]|some r=>r.1++bW bs nds n r.2.1 r.2.2:=fun nds pl ws=>by
     cases hn:nds[pl.toNat]? with
     | none=>
       have e:cj bs nds (pl,ws)=none:=by unfold cj;rw[hn];rfl
       rw[e]
       change(match nds[pl.toNat]? with|none=>[]|some nd=>match br bs ws nd with|none=>[]|some r=>r.1++bW bs nds n r.2.1 r.2.2)=_
       rw[hn]
     | some nd=>
       rw[fk hn]
       cases hs:br bs ws nd with
       | none=>show jk hn hs
       | some r=>show ji hn hs
   rw[st,st]
   obtain⟨R,l,r⟩:=h
   rcases l _ _ r with⟨n1,n2⟩|⟨x,t,t',e1,e2,rt⟩
   . rw[n1,n2]
   . rw[e1,e2]
     change x++bW bs nds n t.1 t.2=x++bW bs nds' n t'.1 t'.2
     rw[mq ⟨R,l,rt⟩]
def yS:Sp:=fun vs H Q z=>∃(v1 v2:V) (ia:Addr) (bs:aj) (ins:List Str) (n1 n2:List Nd) (iw:List Int) (fit:Bool),vs=[v1,v2,.ref ia,.bl fit]/\gG H v1 v2 ia bs bs ins n1 n2 iw/\kP (cj bs n2) (0,bN bs ins iw) (cj bs n1) (0,bN bs ins iw)/\(fit=false->jN (cj bs n1) (0,bN bs ins iw) (cj bs n2) (0,bN bs ins iw))/\∀H',ah H H'->Q (.bl true) H'
def fh:aC ["program","newer","inputs","fitted","ahead","back","steps","ahead_newer","back_newer","steps_newer","many"] ["program","newer","inputs","fitted"] (aq CM):=df
def AX {f:Addr}{fd:Yx}(F:b9 K "_law_same" "_law_same" CM f fd)(RO0:aS P w K mg base "run_of" ["program","inputs"] 31 tN)(RP:aS P w K mg base "runs_part" ["one","other","inputs"] 32 yR)(SI0:aS P w K mg base "said_in" ["program","inputs","steps"] 31 pE):aO P w K mg base bU 33 f fd ["program","newer","inputs","fitted"] yS:=by
 show F.c0 fh fun cdv A outer s H vs Q E hr h=>?_
 obtain⟨v1,v2,ia,bs,ins,n1,n2,iw,fit,rfl,pre,dz,eq,q⟩:=h
 have RO:=RO0.mono (show 31<=32 by lia)
 have SI:=SI0.mono (show 31<=32 by lia)
 show dN ⟨_,(acj (acJ (acm RO hr U (L (Y 0) (L (Y 2) M))) (acF 3 (acs (aco 4 fh.nd) (acs (aco 5 fh.nd) (acs (aco 6 fh.nd) acE)))))
   (acj (acJ (acm RO hr U (L (Y 1) (L (Y 2) M))) (acF 3 (acs (aco 7 fh.nd) (acs (aco 8 fh.nd) (acs (aco 9 fh.nd) acE)))))
   (acj (acy (acK (acV (acr ac4 (acQ ac5 (Y 5) acR) (acQ ac5 (Y 8) acR)) (acZ (acW (acm RP hr U (L (Y 0) (L (Y 1) (L (Y 2) M)))))))) (acn (acq acS)) acz)
   (acj (acy (acr ac5 (Y 5) acR) (acn (acq (L3.B9 (acQ (L3.JW (m:=0) (bR hr _ (by left))) (Y 7) (Y 4)) (L3.Fd (ac0 (acW (Y 3)) (acQ L3.O9 (Y 9) (Y 6)) (acQ acC (Y 9) (Y 6))))))) acz)
   (acj (acy (acW (Y 3)) (acn (acq acS)) acz)
   (acj (acM (L3.iT (acx (L aci (L aci (L aci (L aci M)))))) (aco 10 fh.nd) (acn (acy (acr (ade (m:=0) (bR hr _ (by left))) (acm SI hr U (L (Y 0) (L (Y 2) (L (Y 10) M)))) (acm SI hr U (L (Y 1) (L (Y 2) (L (Y 10) M))))) (acn (acq acS)) acz)))
   (acn (acq acS)))))))),?_⟩
 show aE fun Rk kR=>?_
 show⟨_,U,_,U,v1,ia,bs,ins,n1,iw,U,pre.g1,pre.hi,pre.pw,pre.few1,fun r sa ro n sd rd H1 s1 y vA y kN G1 jv rt=>?_⟩
 show Lu vA ?_
 show kR _ _ ?_
 show aG [some v1,some v2,some (.ref ia),some (.bl fit),some (.ref sa),some ro,some (.int (n:Int)),none,none,none,none] U ?_
 show aE fun Rk kR=>?_
 have u9:=pre.same s1
 show⟨_,U,_,U,v2,ia,bs,ins,n2,iw,U,u9.g2,u9.hi,pre.pw,pre.few2,fun r' BJ vF n' sd' rd' H2 s2 y Co y uD Ee DG KI=>?_⟩
 show Lu Co ?_
 show kR _ _ ?_
 show aG [some v1,some v2,some (.ref ia),some (.bl fit),some (.ref sa),some ro,some (.int (n:Int)),some (.ref BJ),some vF,some (.int (n':Int)),none] U ?_
 show aE fun Rk kR=>?_
 obtain⟨al,fin⟩:=dz.res rt KI
 have s12:=aa s1 s2
 have Bh:=pre.same s12
 have d1:=jH (G1.ro.same s2)
 have d2:=jH Ee.ro
 have Oy:=s2 _ _ kN
 show⟨_,U,U,_,U,U,U,_,U,?_⟩
 rw[d1,d2,al.2,cH rfl]
 show aK U ?_
 show⟨_,U,_,U,_,U,v1,v2,ia,bs,bs,ins,n1,n2,iw,U,Bh,fun X6 rdx nx X7 X1 ny b H3 s3 ra rb hb=>⟨_,U,?_⟩⟩
 have e1:=aX.uniq rt ra
 have e2:=aX.uniq KI rb
 have bf:b=false:=by
   cases b with
   | false=>rfl
   | true=>
     have:=hb.mp rfl
     injection e1 with e1 e3
     injection e3 with e3 _
     injection e2 with e2 e4
     injection e4 with e4 _
     rw[← e1,← e3,← e2,← e4]at this
     show az al this
 subst bf
 show aK rfl (kR _ _ ?_)
 show aE fun Rk kR=>?_
 have zr:=aa s12 s3
 show⟨_,U,U,_,U,?_⟩
 rw[d1]
 cases rd with
 | none=>
   show bD U ?_
   have S5:=al.2
   cases rd' with
   | some xs=>cases S5
   | none=>
     obtain⟨f1,f2⟩:=fin rfl
     show⟨_,U,_,U,true,?_,?_⟩
     . have:=RB.ints (K:=K) (n:=0) (s3 _ _ uD) (s3 _ _ Oy)
       rw[f1,cH rfl]at this
       show this
     . show⟨_,U,bD rfl ?_⟩
       show⟨_,U,_,U,?_⟩
       cases fit with
       | true=>
         show bD U ?_
         show⟨_,U,_,U,_,_,U,U,?_⟩
         have hle:decide ((n':Int)<=(n:Int))=true:=cH (by lia)
         change Q (.bl (decide ((n':Int)<=(n:Int)))) H3
         rw[hle]
         show q _ zr
       | false=>
         show aK U ?_
         have e:=(eq rfl).steps rt KI
         subst e
         show⟨_,U,_,U,U,?_⟩
         rw[cH rfl]
         show q _ zr
 | some xs=>
   show aK rfl (kR _ _ ?_)
   show aE fun Rk kR=>?_
   show⟨_,U,_,U,?_⟩
   cases fit with
   | true=>show bD rfl (q _ zr)
   | false=>
     show aK rfl (kR _ _ ?_)
     show aE fun Rk kR=>?_
     show⟨aew,fun tm Vc=>?_⟩
     have s4:=af Vc (.tup [.int 1,.int 7,.int 30,.int 90])
     have g4:(upd H3 tm (.tup [.int 1,.int 7,.int 30,.int 90])) tm=some (.tup [.int 1,.int 7,.int 30,.int 90]):=ae
     generalize upd H3 tm (.tup [.int 1,.int 7,.int 30,.int 90])=H4 at s4 g4 ⊢
     show⟨tm,U,⟨_,bM.of g4⟩,?_⟩
     show zX (xs:=[.int 1,.int 7,.int 30,.int 90]) (fun i σ Hx=>(∃o,σ=[some v1,some v2,some (.ref ia),some (.bl false),some (.ref sa),some ro,some (.int (n:Int)),some (.ref BJ),some vF,some (.int (n':Int)),o])/\ah H4 Hx) ⟨⟨_,U⟩,same_refl _⟩ (fun i σ Hx y z=>bM.of (z.2 _ _ g4)) (fun i x0 σ Hx hx z=>?_) (fun σ Hx z=>?_)
     . obtain⟨⟨o,rfl⟩,sx⟩:=z
       obtain⟨m,m0,m9,rfl⟩ : ∃m:Int,0<=m/\m<=20000/\x0=.int m:=by
         match i,hx with
         | 0,hx=>cases hx;show⟨1,by left,by left,rfl⟩
         | 1,hx=>cases hx;show⟨7,by left,by left,rfl⟩
         | 2,hx=>cases hx;show⟨30,by left,by left,rfl⟩
         | 3,hx=>cases hx;show⟨90,by left,by left,rfl⟩
       show au ?_
       show aG [some v1,some v2,some (.ref ia),some (.bl false),some (.ref sa),some ro,some (.int (n:Int)),some (.ref BJ),some vF,some (.int (n':Int)),some (.int m)] U ?_
       have G9:=pre.same (aa zr (aa s4 sx))
       show⟨_,U,_,U,_,U,v1,ia,m,bs,ins,n1,iw,U,G9.g1.pa,G9.g1.ft,G9.hi,pre.pw,G9.g1.one,G9.g1.gd,m0,m9,fun l1 H5 XJ s5 LY=>?_⟩
       have Kv:=G9.same s5
       show⟨_,U,_,U,_,U,v2,ia,m,bs,ins,n2,iw,U,Kv.g2.pa,Kv.g2.ft,Kv.hi,pre.pw,Kv.g2.one,Kv.g2.gd,m0,m9,fun l2 H6 XM s6 GU=>?_⟩
       have:=RB.ints (K:=K) (n:=0) (s6 _ _ LY) GU
       rw[cH (mq (eq rfl))]at this
       show⟨true,this,_,U,aK rfl ⟨⟨_,U⟩,aa sx (aa s5 s6)⟩⟩
     obtain⟨⟨o,rfl⟩,sx⟩:=z
     show kR _ _ ?_
     show q _ (aa zr (aa s4 sx))
abbrev KP:Stmt:=top 62
structure Pm (H:Hp)(p:Addr)(bs:aj)(ins:List Str)(nds:List Np):Prop where
 ex:∃(B I N:Addr) (vb vn:List V),H p=some (.tup [.ref B,.ref I,.ref N])/\zD H B I N vb vn bs ins nds
def Pm.same {H H':Hp}{p:Addr}{bs:aj}{ins:List Str}{nds:List Np}(s:ah H H')(h:Pm H p bs ins nds):Pm H' p bs ins nds:=by
 obtain⟨B,I,N,vb,vn,a,z⟩:=h.ex
 show⟨B,I,N,vb,vn,s _ _ a,s _ _ z.hB,s _ _ z.hI,s _ _ z.hN,Paired.aZ z.pb fun y y z=>Tp.keep (ah.tk s) z,Paired.aZ z.pn fun y y z=>aI.keep (ah.tk s) z⟩
structure Pk (bs:aj)(ins:List Str)(nds:List Np):Prop where
 bx:Dg 8 bs
 ind:ins.Nodup
 sub:∀x∈ins,x∈bs.map (·.1)
 one:0<nds.length
 nd:∀e∈nds,eO (bs.map (·.1)) (nds.length:Int) e
def Pk.ld {bs:aj}{ins:List Str}{nds:List Np}(h:Pk bs ins nds):kQ nds:=fun e he=>(h.nd e he).ld
def eO.po {ns:List Str}{m:Int}{e:Np}(k:eO ns m e):∀x s n,e=.put x s n->rL ns x s:=fun x s n z=>by
 subst z
 have t1:=k.td (.box "box" x) (bu (.inl rfl))
 have t2:=k.td s (bu (.inr (bu (.inl rfl))))
 show⟨t1.1.2,k.is,t2.1,by have:=t2.2;lia⟩
def zT (nds:List Np)(nd:Nat)(x y:Str)(e e2:E)(b b2:Int):(uq nds nd x y e e2 b b2).length=nds.length:=by unfold uq;rw[ZL,ZL]
def DF {ns:List Str}{m:Int}{nds:List Np}{nd:Nat}{x y:Str}{e e2:E}{b b2:Int}(ok:∀a∈nds,eO ns m a)(h1:nds[nd]?=some (.put x e b))(h2:nds[b.toNat]?=some (.put y e2 b2)):∀a∈uq nds nd x y e e2 b b2,eO ns m a:=fun a ha=>by
 have k1:=ok _ (Yq h1)
 have k2:=ok _ (Yq h2)
 unfold uq at ha
 rcases abN ha with ha|rfl
 . rcases abN ha with ha|rfl
   . show ok a ha
   . show⟨k2.is,k1.ld,k2.td⟩
 . show⟨k1.is,k2.ld,k1.td⟩
def CT:Sp:=fun vs H Q z=>∃(p:Addr) (bs:aj) (ins:List Str) (nds:List Np) (nd:Nat),vs=[.ref p,.int (nd:Int)]/\Pm H p bs ins nds/\Pk bs ins nds/\nds.length<=100/\nd<nds.length/\∀(p':Addr) (nds':List Np) (H':Hp),ah H H'->Pm H' p' bs ins nds'->Pk bs ins nds'->nds'.length=nds.length->(∀ws,jN (bK bs nds) (0,ws) (bK bs nds') (0,ws))->Q (.ref p') H'
def tF:aC ["program","node","found"] ["program","node"] (aq KP):=df
def ER {C T:Addr}{f:Addr}{fd:Yx}(F:b9 K "_law_exchanged" "_law_exchanged" KP f fd)(cN:Xc K mg "NoChange" C (.ref T::vE))(EX:pY P w K mg base "exchanged_puts" ["program","node"] 43 (yN C)):aO P w K mg base bU 44 f fd ["program","node"] CT:=by
 show F.c0 tF fun cdv A outer s H vs Q E hr h=>?_
 obtain⟨p,bs,ins,nds,nd,rfl,pm,pk,n9,gY,q⟩:=h
 obtain⟨B,I,N,vb,vn,hp,pt⟩:=id pm.ex
 show dN ⟨_,(acj (acw 2 tF.nd (Y 0))
   (acj (L3.P8 2 tF.nd cN (by simp[vE]) U (fun W pn Ex σ hp=>L3.Vw acp (L3.Ph hp EX hr U (L (Y 0) (L (Y 1) M))) aci) (fun ea=>(acn (acw 2 tF.nd (Y 0)))))
   (acn (acq (Y 2))))),?_⟩
 show aE fun Rk kR=>?_
 show⟨_,U,?_⟩
 show au (kR _ _ ?_)
 show aG [some (.ref p),some (.int (nd:Int)),some (.ref p)] U ?_
 show aE fun Rk kR=>?_
 show⟨_,U,_,U,p,B,I,N,vb,vn,bs,ins,nds,nd,U,gY,hp,pt,pk.bx.l4,pk.bx.sz,by lia,pk.ld,fun e he=>(pk.nd e he).po,fun no H' s'=>?_,fun x y e e2 b b2 ex h1 h2 q0 p' B' I' N' P' vn' H' s' hq kM Wi=>?_⟩
 . show⟨_,_,_,U,cN,(by simp),?_⟩
   show⟨_,U,?_⟩
   show au ?_
   show aG [some (.ref p),some (.int (nd:Int)),some (.ref p)] U ?_
   show kR _ _ ?_
   show⟨_,U,q p nds _ s' (pm.same s') pk rfl fun ws=>jN.refl _ _⟩
 . show aP hq U ?_
   show aG [some (.ref p),some (.int (nd:Int)),some (.ref p')] U ?_
   show kR _ _ ?_
   have len:=zT nds nd x y e e2 b b2
   have V3:=pk.nd _ (Yq h1)
   have EH:=pk.nd _ (Yq h2)
   show⟨_,U,q p' _ _ s' ⟨B',I',N',vb,vn',kM,Wi⟩ ⟨pk.bx,pk.ind,pk.sub,by rw[len];show pk.one,by rw[len];show DF pk.nd h1 h2⟩ len fun ws=>?_⟩
   show wg pk.ld ex h1 h2 (V3.td e (bu (.inr (List.mem_singleton.mpr rfl)))).1 (EH.td e2 (bu (.inr (List.mem_singleton.mpr rfl)))).1
abbrev PR:Stmt:=top 63
def jC {H:Hp}{r a:Addr}{xs:List V}(h:dy H r)(ha:H a=some (.lst xs))(hx:∀i j:Int,xs≠[.int i,.int j]):a≠r:=fun e=>by
 obtain⟨i,j,h1,_⟩:=h
 rw[e,h1]at ha
 cases ha
 show hx i j rfl
def me {α:Type}{R:V->α->Prop}{xs:List V}{ys:List α}(h:Paired R xs ys)(hr:∀(i:Int) (y:α),¬ R (.int i) y):∀i j:Int,xs≠[.int i,.int j]:=fun i j e=>by
 subst e
 cases h with
 | cons a _=>show hr _ _ a
def BV (xs:List Str):∀i j:Int,xs.map V.str≠[.int i,.int j]:=fun i j e=>by
 cases xs with
 | nil=>cases e
 | cons a l=>cases e
def EE {H:Hp}(i:Int):∀e:Np,¬ aI H (.int i) e
 | .put _ _ _,⟨_,⟨_,e,_⟩,_⟩=>nomatch e
 | .say _ _,⟨_,⟨_,e,_⟩,_⟩=>nomatch e
 | .test _ _ _,⟨_,⟨_,e,_⟩,_⟩=>nomatch e
 | .pick _ _,⟨_,e,_⟩=>nomatch e
 | .fin,⟨_,e,_⟩=>nomatch e
def Pm.rl {H H':Hp}{r p:Addr}{bs:aj}{ins:List Str}{nds:List Np}(hr:dy H r)(l:Rl r H H')(h:Pm H p bs ins nds):Pm H' p bs ins nds:=
 let⟨B,I,N,vb,vn,a,z⟩:=h.ex
 have tk:=Rl.tk hr l
 ⟨B,I,N,vb,vn,tk _ _ a,l.k _ _ (jC hr z.hB (me z.pb fun _ _ ⟨_,z,_⟩=>nomatch z)) z.hB,l.k _ _ (jC hr z.hI (BV ins)) z.hI,l.k _ _ (jC hr z.hN (me z.pn EE)) z.hN,Paired.aZ z.pb fun y y z=>Tp.keep tk z,Paired.aZ z.pn fun y y z=>aI.keep tk z⟩
def qv:∀{e:Np} {ls:List Int},ls.length=e.aH.length->(e.led ls).aH=ls
 | .put _ _ _,[_],_=>rfl
 | .say _ _,[_],_=>rfl
 | .test _ _ _,[_,_],_=>rfl
 | .pick _ _,[_],_=>rfl
 | .fin,[],_=>rfl
def wU {ls:List Int}:∀{e:Np},e.Jy->(e.led ls).Jy
 | .put _ _ _,h=>h
 | .say _ _,h=>h
 | .test _ _ _,h=>h
 | .pick _ _,h=>h
 | .fin,h=>h
def qw {ls:List Int}:∀e:Np,(e.led ls).tU=e.tU
 | .put _ _ _=>rfl|.say _ _=>rfl|.test _ _ _=>rfl|.pick _ _=>rfl|.fin=>rfl
def eO.led {ns:List Str}{m m':Int}{e:Np}{ls:List Int}(h:eO ns m e)(hl:ls.length=e.aH.length)(hr:∀l∈ls,0<=l/\l<m'):eO ns m' (e.led ls):=⟨wU h.is,by rw[qv hl];show hr,by rw[qw];show h.td⟩
def qe {ns:List Str}{m:Int}{nds nds':List Np}{φ:Nat->Nat}(c:Dh nds nds' φ)(ok:∀e∈nds,eO ns m e):∀e∈nds',eO ns (nds'.length:Int) e:=fun e' he=>by
 obtain⟨j,hj⟩:=List.mem_iff_getElem?.mp he
 obtain⟨e,ls,h1,rfl,h2,h3⟩:=c.at_ j e' hj
 show(ok e (Yq h1)).led h2 fun l hl=>?_
 obtain⟨i,hi⟩:=List.mem_iff_getElem?.mp hl
 have:=h3 i l hi
 show⟨this.1,this.2.1⟩
def DH {ns:List Str}{nds:List Np}(h0:0<nds.length)(ok:∀e∈nds,eO ns (nds.length:Int) e):∀e∈cn nds,eO ns ((cn nds).length:Int) e:=fun e' he=>by
 have inn:kQ nds:=fun e he=>(ok e he).ld
 have len:(cn nds).length=(bQ nds).length:=by unfold cn;rw[Yk]
 rw[len]
 unfold cn at he
 obtain⟨p,hp,rfl⟩:=cX he
 have Q6:=mU inn h0 hp
 have hg:nds.getD p .fin=nds[p]:=by rw[YN,Yn Q6.1];rfl
 rw[hg]
 have hm:=aaP Q6.1
 show(ok _ hm).led (by unfold eX;rw[Yk]) fun l hl=>?_
 unfold eX at hl
 obtain⟨l0,N7,rfl⟩:=cX hl
 have lr:=inn _ hm l0 N7
 have ll:l0.toNat<nds.length:=by lia
 have wl:=gy inn ll
 have:=abA (hJ wl.2.1 wl.2.2.2)
 show⟨by lia,by unfold fN;lia⟩
def zV {nds:List Np}:0<(cn nds).length:=by
 unfold cn bQ
 rw[Yk]
 show abu _
def Pk.gd {bs:aj}{ins:List Str}{nds:List Np}(h:Pk bs ins nds):∀e∈nds,e.nd.good (·∈bs.map (·.1)) (nds.length:Int) 19:=fun e he=>(h.nd e he).good
structure Kept (bs:aj)(ins:List Str)(nds nds':List Np)(fit:Bool):Prop where
 pk:Pk bs ins nds'
 dz:∀ws,Paired Within (bs.map (·.2)) ws->kP (bK bs nds') (0,ws) (bK bs nds) (0,ws)
 eq:fit=false->∀ws,jN (bK bs nds) (0,ws) (bK bs nds') (0,ws)
def Kept.eq1 {bs:aj}{ins:List Str}{nds nds' nds2:List Np}{fit:Bool}(h:Kept bs ins nds nds' fit)(pk:Pk bs ins nds2)(e:∀ws,jN (bK bs nds') (0,ws) (bK bs nds2) (0,ws)):Kept bs ins nds nds2 fit:=⟨pk,fun ws w=>(e ws).symm.zQ.trans (h.dz ws w),fun f ws=>(h.eq f ws).trans (e ws)⟩
def Kept.split {bs:aj}{ins:List Str}{nds nds':List Np}{fit:Bool}{nd:Nat}{a:Np}{named:List Int}(h:Kept bs ins nds nds' fit)(ha:nds'[nd]?=some a):Kept bs ins nds (spS nds' nd a named) fit:=by
 have c:=mv (named:=named) h.pk.ld ha
 have hl:0<(spS nds' nd a named).length:=by unfold spS;rw[Z6,Ym];show YH (abu _) (Nat.le_add_left _ _)
 have z0:=h.pk.one
 show h.eq1 ⟨h.pk.bx,h.pk.ind,h.pk.sub,hl,qe c h.pk.nd⟩ fun ws=>c.eq1 (by change(if 0=nds'.length then nd else 0)=0;rw[bg (by lia)]) hl
def Kept.over {bs:aj}{ins:List Str}{nds nds':List Np}{fit:Bool}{hd:Int}{k:Nat}(h:Kept bs ins nds nds' fit)(k1:1<=k):Kept bs ins nds (qL (nds'.length:Int) hd (k:Int) nds' k) fit:=by
 have c:=xK (h:=hd) (k:=k) h.pk.ld
 have hl:0<(qL (nds'.length:Int) hd (k:Int) nds' k).length:=by rw[fF];show Nat.mul_pos (by lia) h.pk.one
 show h.eq1 ⟨h.pk.bx,h.pk.ind,h.pk.sub,hl,qe c h.pk.nd⟩ fun ws=>c.eq1 (Nat.zero_mod _) hl
def Kept.fit {bs:aj}{ins:List Str}{nds nds':List Np}{fit:Bool}(h:Kept bs ins nds nds' fit):Kept bs ins nds (cn nds') true:=
 ⟨⟨h.pk.bx,h.pk.ind,h.pk.sub,zV,DH h.pk.one h.pk.nd⟩,fun ws w=>(wj h.pk.ld h.pk.one h.pk.bx.nd (fun b hb=>(h.pk.bx.sz b hb).1) h.pk.gd w).trans (h.dz ws w),fun f=>nomatch f⟩
def K8:Sp:=fun vs H Q z=>∃(r p:Addr) (bs:aj) (ins:List Str) (nds:List Np),vs=[.ref r,.ref p]/\dy H r/\Pm H p bs ins nds/\Pk bs ins nds/\nds.length<=6/\∀(L8 p':Addr) (nds':List Np) (fit:Bool) (H':Hp),Rl r H H'->H' L8=some (.lst [.ref p',.bl fit])->Pm H' p' bs ins nds'->Kept bs ins nds nds' fit->nds'.length<=60->Q (.ref L8) H'
def iC:aC ["pot","program","found","fitted","turn","many","node","way","named","number"] ["pot","program"] (aq PR):=df
def J1 {tO:Addr}{f:Addr}{fd:Yx}(F:b9 K "_law_made" "_law_made" PR f fd)(m_len:mg "len"=none)(m_range:mg "range"=none)(m_min:mg "min"=none)(NX0:aS P w K mg base "_law_next" ["pot","many"] 1 dI)(SN0:aS P w K mg base "split_node" ["program","node","named"] 11 (nE K tO))(TO0:aS P w K mg base "told_over" ["program","head","times"] 11 (yQ K tO))(FT0:aS P w K mg base "fitted_program" ["program"] 11 (yO K tO))(EX:aS P w K mg base "_law_exchanged" ["program","node"] 44 CT):aO P w K mg base bU 45 f fd ["pot","program"] K8:=by
 show F.c0 iC fun cdv A outer s H vs Q E hr h=>?_
 obtain⟨r,p,bs,ins,nds,rfl,Ma,pm,pk,n6,q⟩:=h
 have NX:=NX0.mono (show 1<=44 by lia)
 have SN:=SN0.mono (show 11<=44 by lia)
 have TO:=TO0.mono (show 11<=44 by lia)
 have FT:=FT0.mono (show 11<=44 by lia)
 show dN ⟨_,(acj (acw 2 iC.nd (Y 1))
   (acj (acw 3 iC.nd acS)
   (acj (acM (acU U m_range (L (acv acL aci (acm NX hr U (L (Y 0) (L aci M)))) M)) (aco 4 iC.nd) (acj (acw 5 iC.nd (acA acG U m_len Yy (L (ack acp (Y 2) aci) M)))
   (acj (acw 6 iC.nd (acm NX hr U (L (Y 0) (L (Y 5) M))))
   (acj (acw 7 iC.nd (acm NX hr U (L (Y 0) (L aci M))))
   (acj (acy (acr acC (Y 7) aci) (acj (ac1 (i:=8) [none,some 0] ["number","pot"] (fP PR) U (acU U m_range (L (Y 5) M)) (fun z z z z z=>⟨(aco 0 (dE ["number","pot"])),(adm (acr acC (acm NX hr U (L (Y 1) (L aci M))) aci)),(Y 0)⟩) iC.nd)
   (acn (acw 2 iC.nd (ack acp (acm SN hr U (L (Y 2) (L (Y 6) (L (Y 8) M)))) aci)))) acz)
   (acj (acy (acK (ac2 (acr acC (Y 7) aci) (ac3 (acr adf (Y 5) aci)))) (acn (acw 2 iC.nd (ack acp (acm TO hr U (L (Y 2) (L (Y 6) (L (acv acL aci (acm NX hr U (L (Y 0) (L aci M)))) M)))) aci))) acz)
   (acj (acy (acr acC (Y 7) aci) (acj (acw 2 iC.nd (ack acp (acm FT hr U (L (Y 2) M)) aci))
   (acn (acw 3 iC.nd acS))) acz)
   (acn (acy (acr acC (Y 7) aci) (acn (acM (acU U m_range (L (acA L3.rQ U m_min (by right) (L (Y 5) (L aci M))) M)) (aco 9 iC.nd) (acn (acw 2 iC.nd (acm EX hr U (L (Y 2) (L (Y 9) M))))))) acz)))))))))
   (acn (acq (acB (L (Y 2) (L (Y 3) M)))))))),?_⟩
 show aE fun Rk kR=>?_
 show⟨_,U,?_⟩
 show au (kR _ _ ?_)
 show aG [some (.ref r),some (.ref p),some (.ref p),none,none,none,none,none,none,none] U ?_
 show aE fun Rk kR=>?_
 show au (kR _ _ ?_)
 show aG [some (.ref r),some (.ref p),some (.ref p),some (.bl false),none,none,none,none,none,none] U ?_
 show aE fun Rk kR=>?_
 show⟨_,U,r,4,U,Ma,by left,by left,fun k0 H1 Xu Xv l1=>⟨_,_,U,U,(1+k0),U,by lia,by lia,?_⟩⟩
 have big:(100:Int)<2^110:=by left
 show fA (lo:=0) (n:=(1+k0).toNat) (fun(i:Nat) (σ:L2.St) (Hx:Hp)=>∃(pf:Addr) (nds':List Np) (fit:Bool) (o5 o6 o7 o8 o9 o4:Option V),σ=[some (.ref r),some (.ref p),some (.ref pf),some (.bl fit),o4,o5,o6,o7,o8,o9]/\Rl r H Hx/\Pm Hx pf bs ins nds'/\Kept bs ins nds nds' fit/\nds'.length<=45+i) ⟨_,_,_,_,_,_,_,_,_,U,l1,pm.rl Ma l1,⟨pk,fun ws z=>(jN.refl _ _).zQ,fun z ws=>jN.refl _ _⟩,by lia⟩ (fun i σ Hx hi zz=>?_) (fun σ Hx zz=>?_)
 . obtain⟨pf,nds',fit,o5,o6,o7,o8,o9,o4,rfl,lx,Mv,kp,nl⟩:=zz
   have one:=kp.pk.one
   have i4:i<4:=by lia
   show au ?_
   show aG [some (.ref r),some (.ref p),some (.ref pf),some (.bl fit),some (.int (0+(i:Int))),o5,o6,o7,o8,o9] U ?_
   show aE fun kT kR2=>?_
   obtain⟨B,I,N,vb,vn,hp,pt⟩:=id Mv.ex
   have pW:=Paired.length pt.pn
   show⟨_,U,?_⟩
   show aP hp U ?_
   show⟨N,_,U,.inl (aF.of pt.hN),?_⟩
   show au ?_
   show kR2 _ _ ?_
   show aG [some (.ref r),some (.ref p),some (.ref pf),some (.bl fit),some (.int (0+(i:Int))),some (.int (nds'.length:Int)),o6,o7,o8,o9] (by rw[pW];rfl) ?_
   show aE fun kT kR2=>?_
   show⟨_,U,_,U,r,(nds'.length:Int),U,lx.rl,by lia,by lia,fun JR H2 Ey O0 l2=>?_⟩
   obtain⟨nd,end_⟩ : ∃nd:Nat,(nd:Int)=JR:=⟨JR.toNat,YA Ey⟩
   subst end_
   have gY:nd<nds'.length:=by lia
   show au ?_
   show kR2 _ _ ?_
   show aG [some (.ref r),some (.ref p),some (.ref pf),some (.bl fit),some (.int (0+(i:Int))),some (.int (nds'.length:Int)),some (.int (nd:Int)),o7,o8,o9] U ?_
   show aE fun kT kR2=>?_
   show⟨_,U,r,4,U,l2.rl,by left,by left,fun way H3 w0 w1 l3=>?_⟩
   show au ?_
   show kR2 _ _ ?_
   show aG [some (.ref r),some (.ref p),some (.ref pf),some (.bl fit),some (.int (0+(i:Int))),some (.int (nds'.length:Int)),some (.int (nd:Int)),some (.int way),o8,o9] U ?_
   have JI:=lx.trans (l2.trans l3)
   have Kr:=Mv.rl lx.rl (l2.trans l3)
   obtain⟨B,I,N,vb,vn,hp,pt⟩:=id Kr.ex
   have l4:=kp.pk.bx.l4
   obtain(rfl|rfl|rfl|rfl):way=0\/way=1\/way=2\/way=3:=by lia
   . show aE fun kT kR2=>?_
     show⟨_,U,U,_,U,bD (by left) ?_⟩
     show aE fun S1 OK=>?_
     show⟨_,U,(nds'.length:Int),U,by lia,by lia,fun nm Oi=>?_⟩
     have RH:=l3.rl.ne Oi
     rw[Y6]
     show cb (lo:=0) (n:=nds'.length) (fun(j:Nat) (Hy:Hp)=>Rl r H3 Hy/\∃oK:List Int,Hy nm=some (.lst (oK.map V.int))/\oK.length<=j/\∀h∈oK,0<=h/\h<(nds'.length:Int)) ⟨Rl.new l3.rl Oi,[],ae,Yo _,(fun h hh=>nomatch hh)⟩ (fun j Hy hj z2=>?_) (fun H6 z2=>?_)
     . obtain⟨ly,oK,gx,VN,Mn⟩:=z2
       rw[ZE]
       show au ?_
       show⟨_,U,r,2,U,ly.rl,by left,by left,fun k3 Hz Xw Xx lz=>⟨U,_,U,?_⟩⟩
       have gz:=lz.k _ _ RH gx
       have Rx:=ly.trans lz
       show aN (fun z=>?_) (fun z=>?_)
       . show⟨_,U,_,gz,aD (by rw[Yk];lia),aB (Pv:=fun(j:Nat) (Hy:Hp)=>Rl r H3 Hy/\∃oK:List Int,Hy nm=some (.lst (oK.map V.int))/\oK.length<=j/\∀h∈oK,0<=h/\h<(nds'.length:Int)) (by repeat' constructor) hj ⟨Rl.put Rx RH Oi,oK++[(j:Int)],by rw[ae,Yt];rfl,by rw[Ym];change _+1<=_;lia,fun h hh=>?_⟩⟩
         rcases jy hh with w|w
         . show Mn h w
         . rw[dC w]
           show⟨by lia,by lia⟩
       . show aB (Pv:=fun(j:Nat) (Hy:Hp)=>Rl r H3 Hy/\∃oK:List Int,Hy nm=some (.lst (oK.map V.int))/\oK.length<=j/\∀h∈oK,0<=h/\h<(nds'.length:Int)) (by repeat' constructor) hj ⟨Rx,oK,gz,by lia,Mn⟩
     obtain⟨l6,oK,Uh,VN,Mn⟩:=z2
     have Mu:=Kr.rl l3.rl l6
     obtain⟨B,I,N,vb,vn,hp,pt⟩:=id Mu.ex
     show au ?_
     show OK _ _ ?_
     show aG [some (.ref r),some (.ref p),some (.ref pf),some (.bl fit),some (.int (0+(i:Int))),some (.int (nds'.length:Int)),some (.int (nd:Int)),some (.int 0),some (.ref nm),o9] U ?_
     obtain⟨a,ha⟩ : ∃a,nds'[nd]?=some a:=⟨_,Yn gY⟩
     show⟨_,U,_,U,_,U,pf,B,I,N,nm,vb,vn,bs,ins,nds',nd,a,oK,U,hp,pt,l4,by lia,ha,Uh,by lia,Mn,fun q0 p' P' B' I' N' vn' sm se ps H' hq td=>?_⟩
     show aP hq U ?_
     show au ?_
     show kR2 _ _ ?_
     have hlen:(spS nds' nd a oK).length=nds'.length+1:=by unfold spS;rw[Z6,Ym];rfl
     show aG [some (.ref r),some (.ref p),some (.ref p'),some (.bl fit),some (.int (0+(i:Int))),some (.int (nds'.length:Int)),some (.int (nd:Int)),some (.int 0),some (.ref nm),o9] U ?_
     show aE fun kT kR2=>?_
     show⟨_,U,U,_,U,aK (by left) (kR2 _ _ ?_)⟩
     show aE fun kT kR2=>?_
     show⟨_,U,U,_,U,aK (by left) (kR2 _ _ ?_)⟩
     show⟨_,U,U,_,U,aK (by left) ?_⟩
     show⟨p',_,fit,_,_,_,_,_,_,U,JI.trans (l6.trans (Rl.of l6.rl td.s)),⟨B',I',N',vb,vn',td.hp,td.pt⟩,kp.split ha,by lia⟩
   . show aE fun kT kR2=>?_
     show⟨_,U,U,_,U,aK (by left) (kR2 _ _ ?_)⟩
     show aE fun kT kR2=>?_
     show⟨_,U,U,_,U,bD (by left) ?_⟩
     show⟨_,U,_,_,U,U,_,U,?_⟩
     by_cases c:(nds'.length:Int)<16
     . show bD (cH c) ?_
       show⟨_,U,_,U,_,U,r,2,U,l3.rl,by left,by left,fun k H4 Xy Xz Mk=>⟨_,_,U,U,?_⟩⟩
       obtain⟨kk,ek⟩ : ∃kk:Nat,(kk:Int)=2+k:=⟨(2+k).toNat,YA (by lia)⟩
       have Mt:=Kr.rl l3.rl Mk
       obtain⟨B,I,N,vb,vn,hp,pt⟩:=id Mt.ex
       show⟨pf,B,I,N,vb,vn,bs,ins,nds',(nd:Int),kk,by rw[ek];rfl,hp,pt,l4,by lia,by lia,by lia,by lia,by lia,fun q0 p' P' B' I' N' vn' sm se ps H' hq td=>?_⟩
       show aP hq U ?_
       show au ?_
       show kR2 _ _ ?_
       have hlen:=fF (nds'.length:Int) (nd:Int) (kk:Int) nds' kk
       have hmul:kk*nds'.length<=3*15:=abU (by lia) (by lia)
       show aG [some (.ref r),some (.ref p),some (.ref p'),some (.bl fit),some (.int (0+(i:Int))),some (.int (nds'.length:Int)),some (.int (nd:Int)),some (.int 1),o8,o9] U ?_
       show aE fun kT kR2=>?_
       show⟨_,U,U,_,U,aK (by left) (kR2 _ _ ?_)⟩
       show⟨_,U,U,_,U,aK (by left) ?_⟩
       show⟨p',_,fit,_,_,_,_,_,_,U,JI.trans (Mk.trans (Rl.of Mk.rl td.s)),⟨B',I',N',vb,vn',td.hp,td.pt⟩,kp.over (by lia),by lia⟩
     . show aK (f6 c) (kR2 _ _ ?_)
       show aE fun kT kR2=>?_
       show⟨_,U,U,_,U,aK (by left) (kR2 _ _ ?_)⟩
       show⟨_,U,U,_,U,aK (by left) ?_⟩
       show⟨pf,_,fit,_,_,_,_,_,_,U,JI,Kr,kp,by lia⟩
   . show aE fun kT kR2=>?_
     show⟨_,U,U,_,U,aK (by left) (kR2 _ _ ?_)⟩
     show aE fun kT kR2=>?_
     show⟨_,U,U,_,U,aK (by left) (kR2 _ _ ?_)⟩
     show aE fun kT kR2=>?_
     show⟨_,U,U,_,U,bD (by left) ?_⟩
     show aE fun S1 OK=>?_
     show⟨_,U,pf,B,I,N,vb,vn,bs,ins,nds',U,hp,pt,l4,by lia,one,kp.pk.ld,fun q0 p' P' B' I' N' vn' sm se ps lv H' hq td z=>?_⟩
     show aP hq U ?_
     show au ?_
     show OK _ _ ?_
     have hlen:=pJ kp.pk.ld one
     show aG [some (.ref r),some (.ref p),some (.ref p'),some (.bl fit),some (.int (0+(i:Int))),some (.int (nds'.length:Int)),some (.int (nd:Int)),some (.int 2),o8,o9] U ?_
     show au ?_
     show kR2 _ _ ?_
     show aG [some (.ref r),some (.ref p),some (.ref p'),some (.bl true),some (.int (0+(i:Int))),some (.int (nds'.length:Int)),some (.int (nd:Int)),some (.int 2),o8,o9] U ?_
     show⟨_,U,U,_,U,aK (by left) ?_⟩
     show⟨p',_,true,_,_,_,_,_,_,U,JI.trans (Rl.of l3.rl td.s),⟨B',I',N',vb,vn',td.hp,td.pt⟩,kp.fit,by lia⟩
   . show aE fun kT kR2=>?_
     show⟨_,U,U,_,U,aK (by left) (kR2 _ _ ?_)⟩
     show aE fun kT kR2=>?_
     show⟨_,U,U,_,U,aK (by left) (kR2 _ _ ?_)⟩
     show aE fun kT kR2=>?_
     show⟨_,U,U,_,U,aK (by left) (kR2 _ _ ?_)⟩
     show⟨_,U,U,_,U,bD (by left) ?_⟩
     obtain⟨mn,Nh,XF,XG⟩ : ∃mn:Int,mn=(if(12:Int)<(nds'.length:Int)then 12 else(nds'.length:Int))/\0<=mn/\mn<=(nds'.length:Int):=by
       show⟨_,U,?_,?_⟩<;>split<;>lia
     show⟨_,U,_,_,U,mn,by rw[Nh],by lia,by lia,?_⟩
     show fA (lo:=0) (n:=mn.toNat) (fun(j:Nat) (σ:L2.St) (Hy:Hp)=>∃(pf2:Addr) (nds2:List Np) (o:Option V),σ=[some (.ref r),some (.ref p),some (.ref pf2),some (.bl fit),some (.int (0+(i:Int))),some (.int (nds'.length:Int)),some (.int (nd:Int)),some (.int 3),o8,o]/\ah H3 Hy/\Pm Hy pf2 bs ins nds2/\Kept bs ins nds nds2 fit/\nds2.length=nds'.length) ⟨pf,nds',_,U,same_refl _,Kr,kp,U⟩ (fun j σ Hy hj z2=>?_) (fun σ Hy z2=>?_)
     . obtain⟨pf2,nds2,o,rfl,sy,Px,Me,ly⟩:=z2
       show au ?_
       show aG [some (.ref r),some (.ref p),some (.ref pf2),some (.bl fit),some (.int (0+(i:Int))),some (.int (nds'.length:Int)),some (.int (nd:Int)),some (.int 3),o8,some (.int (0+(j:Int)))] U ?_
       show⟨_,U,_,U,pf2,bs,ins,nds2,j,by rw[ZE];rfl,Px,Me.pk,by lia,by lia,fun p' O2 H' s' Wd Wb len e=>?_⟩
       show au ?_
       show⟨p',O2,_,U,aa sy s',Wd,Me.eq1 Wb e,by lia⟩
     obtain⟨pf2,nds2,o,rfl,sy,Px,Me,ly⟩:=z2
     show⟨pf2,nds2,fit,_,_,_,_,_,_,U,JI.trans (Rl.of l3.rl sy),Px,Me,by lia⟩
 obtain⟨pf,nds',fit,o5,o6,o7,o8,o9,o4,rfl,lx,Mv,kp,nl⟩:=zz
 show kR _ _ ?_
 show⟨_,U,_,U,aeu,fun L8 hL=>?_⟩
 show q L8 pf nds' fit _ (lx.trans (Rl.new lx.rl hL)) ae (Mv.same (af hL _)) kp (by lia)
abbrev R9:Stmt:=top 65
theorem jd:∀{szs:List Int} {r:List Int},r∈cD szs->Paired Within szs r
 | [],r,h=>by rw[dC h];show .nil
 | s::ss,r,h=>by
   obtain⟨w,hw,h⟩:=List.mem_flatMap.mp h
   obtain⟨q,hq,rfl⟩:=cX h
   have:=List.mem_range.mp hw
   show .cons ⟨by lia,by lia⟩ (jd hq)
theorem pO:∀{bs:aj},(∀b∈bs,1<=b.2)->((nJ bs:Nat):Int)=de bs
 | [],_=>rfl
 | b::bs,h=>by
   have h1:=h b (bu (.inl rfl))
   change((b.2.toNat*nJ bs:Nat):Int)=b.2*de bs
   rw[abI,YA (by lia),pO fun c hc=>h c (bu (.inr hc))]
def ow:List Int->Int
 | []=>1
 | s::ss=>s*ow ss
theorem oz:∀{ss:List Int},(∀s∈ss,1<=s)->(((cD ss).length:Nat):Int)=ow ss
 | [],_=>rfl
 | s::ss,h=>by
   have h1:=h s (bu (.inl rfl))
   have ih:=oz (ss:=ss) fun c hc=>h c (bu (.inr hc))
   have key:∀l:List Nat,(l.flatMap fun w=>(cD ss).map fun r=>((w:Nat):Int)::r).length=l.length*(cD ss).length:=fun l=>by
     induction l with
     | nil=>simp
     | cons a l Vt=>rw[ZQ,Ym,Vt,Yk,YS,ZO,aag]
   change(((YL s.toNat).flatMap fun w=>(cD ss).map fun r=>((w:Nat):Int)::r).length:Int)=s*ow ss
   rw[key,YW,abI,YA (by lia),ih]
theorem mf:∀(l1:aj) (b:Str×Int) (l2:aj),de (l1++b::l2)=b.2*de (l1++l2)
 | [],_,_=>rfl
 | a::l1,b,l2=>by
   change a.2*de (l1++b::l2)=b.2*(a.2*de (l1++l2))
   rw[mf l1 b l2,← abj,← abj,Int.mul_comm a.2 b.2]
theorem oy:∀{ins:List Str} {bs:aj},(bs.map (·.1)).Nodup->ins.Nodup->(∀x∈ins,x∈bs.map (·.1))->(∀b∈bs,1<=b.2)->ow (ins.map (cJ bs))<=de bs
 | [],bs,_,_,_,sz=>iu sz
 | x::r,bs,nd,ni,sub,sz=>by
   obtain⟨n1,n2⟩:=List.nodup_cons.mp ni
   obtain⟨b,hb,rfl⟩:=cX (sub x (bu (.inl rfl)))
   obtain⟨l1,l2,rfl⟩:=List.append_of_mem hb
   have sb:(l1++l2).Sublist (l1++b::l2):=List.Sublist.append_left (List.sublist_cons_self _ _) _
   have RA:((l1++l2).map (·.1)).Nodup:=nd.sublist (sb.map _)
   have JJ:∀y∈r,∃c∈l1++l2,c.1=y:=fun y hy=>by
     obtain⟨c,hc,e⟩:=cX (sub y (bu (.inr hy)))
     show⟨c,?_,e⟩
     rcases jy hc with h|h
     . show oF (.inl h)
     . rcases fM h with h|h
       . show az hy (by rw[← e,h];show n1)
       . show oF (.inr h)
   have ih:=oy (ins:=r) RA n2 (fun y hy=>by obtain⟨c,hc,e⟩:=JJ y hy;show mX ⟨c,hc,e⟩) fun c hc=>sz c (sb.subset hc)
   have e:r.map (cJ (l1++b::l2))=r.map (cJ (l1++l2)):=List.map_congr_left fun y hy=>by
     obtain⟨c,hc,rfl⟩:=JJ y hy
     rw[eI nd (sb.subset hc),eI RA hc]
   change cJ (l1++b::l2) b.1*ow (r.map (cJ (l1++b::l2)))<=_
   rw[eI nd hb,e,mf]
   show aan ih (by have:=sz b hb;lia)
def Pk.cD {bs:aj}{ins:List Str}{nds:List Np}(h:Pk bs ins nds)(i:Nat):(cD ((ins.map (cJ bs)).take i)).length<=900:=by
 have sz1:∀b∈bs,1<=b.2:=fun b hb=>(h.bx.sz b hb).1
 have s1:∀x∈ins.take i,x∈bs.map (·.1):=fun x hx=>h.sub x (aal hx)
 rw[← aaL]
 have h1:=oy h.bx.nd (h.ind.sublist (aaG i ins)) s1 sz1
 have h2:=oz (ss:=(ins.take i).map (cJ bs)) fun s hs=>by
   obtain⟨x,hx,rfl⟩:=cX hs
   obtain⟨b,hb,rfl⟩:=cX (s1 x hx)
   rw[eI h.bx.nd hb]
   show sz1 b hb
 have h3:=h.bx.pr
 lia
def Pk.fits {bs:aj}{ins:List Str}{nds:List Np}(h:Pk bs ins nds):Fits bs ins:=by
 have l4:=h.bx.l4
 have il:=sub_len h.ind h.sub
 rw[Yk]at il
 show⟨h.bx.nd,by lia,fun b hb=>(h.bx.sz b hb).1,h.ind,h.sub,by lia⟩
def Pm.prog {H:Hp}{p:Addr}{bs:aj}{ins:List Str}{nds:List Np}(h:Pm H p bs ins nds)(k:Pk bs ins nds):di H (.ref p) bs ins (nds.map Np.nd):=by
 obtain⟨B,I,N,vb,vn,a,z⟩:=h.ex
 show⟨p,B,I,N,vb,vn,U,a,z.hB,z.hI,z.hN,z.pb,sH (fun e he=>(k.nd e he).is) z.pn⟩
def Pm.Mx {H:Hp}{p:Addr}{bs:aj}{ins:List Str}{nds:List Np}(h:Pm H p bs ins nds)(k:Pk bs ins nds):Dm H (.ref p) bs ins (nds.map Np.nd):=
 ⟨h.prog k,k.fits,by rw[Yk];show k.one,fun e he=>by
   obtain⟨e0,Ci,rfl⟩:=cX he
   rw[Yk]
   show k.gd e0 Ci⟩
def Pk.jv {bs:aj}{ins:List Str}{nds:List Np}(k:Pk bs ins nds)(hn:nds.length<=100):(nds.map Np.nd).length*nJ bs<=100000:=by
 have h1:=pO (bs:=bs) fun b hb=>(k.bx.sz b hb).1
 have h2:=k.bx.pr
 have hv:nJ bs<=8:=by lia
 rw[Yk]
 show YU (abU hn hv) (by left)
def wV:∀e:Np,e.led e.aH=e
 | .put _ _ _=>rfl|.say _ _=>rfl|.test _ _ _=>rfl|.pick _ _=>rfl|.fin=>rfl
def tP {nds:List Np}{nd:Nat}{a:Np}:spS nds nd a []=nds++[a]:=by
 unfold spS
 apply List.ext_getElem?
 intro j
 rw[aam]
 cases(nds++[a])[j]? with
 | none=>rfl
 | some e=>
   change some (MJ _ _ [] _ e)=some e
   unfold MJ
   rw[bg (fun h=>nomatch h),wV]
def oX {bs:aj}{ins:List Str}{nds:List Np}{a:Np}{ws:List Int}{r:Rs}(k:Pk bs ins nds)(h:aX (bK bs nds) (0,ws) r):aX (bK bs (nds++[a])) (0,ws) r:=by
 have key:∀(j:Nat) (ws:List Int),j<nds.length->bK bs (nds++[a]) ((j:Int),ws)=bK bs nds ((j:Int),ws):=fun j ws hj=>by
   rw[bP (Yn hj),bP (e:=nds[j]) (by rw[YV hj];show Yn hj)]
 show aX.map (φ:=fun s=>s) (Ok:=fun s=>0<=s.1/\s.1<(nds.length:Int)) (fun s x t o e=>?_) (fun s o=>?_) (fun z z z z e=>e) ⟨aaS 0,by have:=k.one;change(0:Int)<_;lia⟩ h
 . obtain⟨p,w0⟩:=s
   obtain⟨j,rfl⟩ : ∃j:Nat,p=(j:Int):=⟨p.toNat,(YA o.1).symm⟩
   have hj:j<nds.length:=by have:=o.2;lia
   rw[bP (Yn hj)]at e
   obtain⟨n,w1⟩:=t
   show k.ld _ (aaP hj) n (mw e)
 . obtain⟨p,w0⟩:=s
   obtain⟨j,rfl⟩ : ∃j:Nat,p=(j:Int):=⟨p.toNat,(YA o.1).symm⟩
   have hj:j<nds.length:=by have:=o.2;lia
   rw[key j w0 hj]
   cases bK bs nds ((j:Int),w0)with
   | none=>rfl
   | some r=>rfl
def Al (H:Hp):Nat->V->V->Prop
 | 0,_,_=>False
 | n+1,x,y=>(∃i,x=.int i/\y=.int i)\/(∃s,x=.str s/\y=.str s)\/∃a b xs ys,x=.ref a/\y=.ref b/\((H a=some (.lst xs)/\H b=some (.lst ys))\/(H a=some (.tup xs)/\H b=some (.tup ys)))/\xs.length=ys.length/\xs.length<=900/\∀(i:Nat) (x y:V),xs[i]?=some x->ys[i]?=some y->Al H n x y
def Al.tup {H:Hp}{n:Nat}{p q:Addr}{xs ys:List V}(hp:H p=some (.tup xs))(hq:H q=some (.tup ys))(hl:xs.length=ys.length)(h9:xs.length<=900)(h:∀(i:Nat) (x y:V),xs[i]?=some x->ys[i]?=some y->Al H n x y):Al H (n+1) (.ref p) (.ref q):=.inr (.inr ⟨p,q,xs,ys,rfl,rfl,.inr ⟨hp,hq⟩,hl,h9,h⟩)
def Al.str {H:Hp}{n:Nat}(s:Str):Al H (n+1) (.str s) (.str s):=.inr (.inl ⟨s,rfl,rfl⟩)
def Al.int {H:Hp}{n:Nat}(i:Int):Al H (n+1) (.int i) (.int i):=.inl ⟨i,rfl,rfl⟩
def eK.al {H:Hp}(e:E):∀(n:Nat) (u v:V),e.dep+2<=n->eK H u e->eK H v e->Al H n u v:=by
 induction e with
 | num i=>
   intro n u v h hu hv
   obtain⟨m,rfl⟩ : ∃m,n=m+1+1:=⟨n-2,by have:0+2<=n:=h;lia⟩
   obtain⟨p,rfl,hp⟩:=hu
   obtain⟨q,rfl,hq⟩:=hv
   show Al.tup hp hq rfl (by change 2<=900;decide) fun j x y hx hy=>?_
   match j,hx,hy with
   | 0,hx,hy=>cases hx;cases hy;show .str _
   | 1,hx,hy=>cases hx;cases hy;show .int _
 | box t x=>
   intro n u v h hu hv
   obtain⟨m,rfl⟩ : ∃m,n=m+1+1:=⟨n-2,by have:0+2<=n:=h;lia⟩
   obtain⟨p,rfl,hp⟩:=hu
   obtain⟨q,rfl,hq⟩:=hv
   show Al.tup hp hq rfl (by change 2<=900;decide) fun j x y hx hy=>?_
   match j,hx,hy with
   | 0,hx,hy=>cases hx;cases hy;show .str _
   | 1,hx,hy=>cases hx;cases hy;show .str _
 | yes=>
   intro n u v h hu hv
   obtain⟨m,rfl⟩ : ∃m,n=m+1+1:=⟨n-2,by have:0+2<=n:=h;lia⟩
   obtain⟨p,rfl,hp⟩:=hu
   obtain⟨q,rfl,hq⟩:=hv
   show Al.tup hp hq rfl (by change 1<=900;decide) fun j x y hx hy=>?_
   match j,hx,hy with
   | 0,hx,hy=>cases hx;cases hy;show .str _
 | nt a ih=>
   intro n u v h hu hv
   have h:a.dep+1+2<=n:=h
   obtain⟨m,rfl⟩ : ∃m,n=m+1+1:=⟨n-2,by lia⟩
   obtain⟨x1,⟨p,rfl,hp⟩,ex⟩:=hu
   obtain⟨y1,⟨q,rfl,hq⟩,ey⟩:=hv
   show Al.tup hp hq rfl (by change 2<=900;decide) fun j x y hx hy=>?_
   match j,hx,hy with
   | 0,hx,hy=>cases hx;cases hy;show .str _
   | 1,hx,hy=>cases hx;cases hy;show ih _ _ _ (by lia) ex ey
 | two k a b Vr Vs=>
   intro n u v h hu hv
   have h:max a.dep b.dep+1+2<=n:=h
   obtain⟨m,rfl⟩ : ∃m,n=m+1+1:=⟨n-2,by lia⟩
   obtain⟨x1,x2,⟨p,rfl,hp⟩,ex,TN⟩:=hu
   obtain⟨y1,y2,⟨q,rfl,hq⟩,ey,TQ⟩:=hv
   show Al.tup hp hq rfl (by change 3<=900;decide) fun j x y hx hy=>?_
   match j,hx,hy with
   | 0,hx,hy=>cases hx;cases hy;show .str _
   | 1,hx,hy=>cases hx;cases hy;show Vr _ _ _ (by lia) ex ey
   | 2,hx,hy=>cases hx;cases hy;show Vs _ _ _ (by lia) TN TQ
theorem aI.al {H:Hp}:∀{e:Np} {u v:V},(∀x∈e.tU,x.dep<=5)->aI H u e->aI H v e->Al H 32 u v
 | .put x s n,_,_,w,⟨a,⟨p,rfl,hp⟩,ea⟩,⟨b,⟨q,rfl,hq⟩,eb⟩=>Al.tup hp hq rfl (by change 4<=900;decide) fun j x y hx hy=>by
   match j,hx,hy with
   | 0,hx,hy=>cases hx;cases hy;show .str _
   | 1,hx,hy=>cases hx;cases hy;show .str _
   | 2,hx,hy=>cases hx;cases hy;show eK.al _ _ _ _ (by have:=w s (bu (.inr (bu (.inl rfl))));lia) ea eb
   | 3,hx,hy=>cases hx;cases hy;show .int _
 | .say c n,_,_,w,⟨a,⟨p,rfl,hp⟩,ea⟩,⟨b,⟨q,rfl,hq⟩,eb⟩=>Al.tup hp hq rfl (by change 3<=900;decide) fun j x y hx hy=>by
   match j,hx,hy with
   | 0,hx,hy=>cases hx;cases hy;show .str _
   | 1,hx,hy=>cases hx;cases hy;show eK.al _ _ _ _ (by have:=w c (bu (.inl rfl));lia) ea eb
   | 2,hx,hy=>cases hx;cases hy;show .int _
 | .test c n o,_,_,w,⟨a,⟨p,rfl,hp⟩,ea⟩,⟨b,⟨q,rfl,hq⟩,eb⟩=>Al.tup hp hq rfl (by change 4<=900;decide) fun j x y hx hy=>by
   match j,hx,hy with
   | 0,hx,hy=>cases hx;cases hy;show .str _
   | 1,hx,hy=>cases hx;cases hy;show eK.al _ _ _ _ (by have:=w c (bu (.inl rfl));lia) ea eb
   | 2,hx,hy=>cases hx;cases hy;show .int _
   | 3,hx,hy=>cases hx;cases hy;show .int _
 | .pick x n,_,_,_,⟨p,rfl,hp⟩,⟨q,rfl,hq⟩=>Al.tup hp hq rfl (by change 3<=900;decide) fun j x y hx hy=>by
   match j,hx,hy with
   | 0,hx,hy=>cases hx;cases hy;show .str _
   | 1,hx,hy=>cases hx;cases hy;show .str _
   | 2,hx,hy=>cases hx;cases hy;show .int _
 | .fin,_,_,_,⟨p,rfl,hp⟩,⟨q,rfl,hq⟩=>Al.tup hp hq rfl (by change 1<=900;decide) fun j x y hx hy=>by
   match j,hx,hy with
   | 0,hx,hy=>cases hx;cases hy;show .str _
theorem Al.et {K:Yl}{H:Hp}:∀{n:Nat} {x y:V},Al H n x y->ET K H n x y
 | 0,_,_,h=>h.elim
 | n+1,_,_,.inl ⟨i,rfl,rfl⟩=>ET.refl (.inl rfl)
 | n+1,_,_,.inr (.inl ⟨s,rfl,rfl⟩)=>ET.refl (.inl rfl)
 | n+1,_,_,.inr (.inr ⟨a,b,xs,ys,rfl,rfl,.inl ⟨ha,hb⟩,hl,_,h⟩)=>ET.lst (aF.of ha) (aF.of hb) hl fun j x y hx hy=>Al.et (h j x y hx hy)
 | n+1,_,_,.inr (.inr ⟨a,b,xs,ys,rfl,rfl,.inr ⟨ha,hb⟩,hl,_,h⟩)=>ET.tup (bM.of ha) (bM.of hb) hl fun j x y hx hy=>Al.et (h j x y hx hy)
def K7:Sp:=fun vs H Q z=>∃r:Addr,vs=[.ref r]/\dy H r/\∀H',Rl r H H'->Q (.bl true) H'
def By {K:Yl}{H:Hp}{a c sa sb:Addr}{ro vF:V}{n:Int}{sd:List Int}{rd:Option (List Int)}(ha:H a=some (.tup [.ref sa,ro,.int n]))(hc:H c=some (.tup [.ref sb,vF,.int n]))(h1:H sa=some (.lst (sd.map V.int)))(h2:H sb=some (.lst (sd.map V.int)))(r1:mF H ro rd)(r2:mF H vF rd):RB K H 1 (.ref a) (.ref c) true:=by
 have Iq:∀{x y:Addr} {zs:List Int},H x=some (.lst (zs.map V.int))->H y=some (.lst (zs.map V.int))->ET K H 1 (.ref x) (.ref y):=fun{x y zs} hx hy=>by
   have:=EB.ints (K:=K) (n:=0) hx hy
   rw[cH rfl]at this
   show this
 show RB.tup (bM.of ha) (bM.of hc) rfl fun j x y hx hy=>?_
 match j,hx,hy with
 | 0,hx,hy=>cases hx;cases hy;show Iq h1 h2
 | 1,hx,hy=>
   cases hx;cases hy
   cases rd with
   | none=>
     have e1:ro=.bJ:=r1
     have e2:vF=.bJ:=r2
     rw[e1,e2]
     show ET.refl (.inl rfl)
   | some xs=>
     obtain⟨l,rfl,hl⟩:=r1
     obtain⟨l',rfl,Ck⟩:=r2
     show Iq hl Ck
 | 2,hx,hy=>cases hx;cases hy;show ET.refl (.inl rfl)
def qX:aC ["pot","program","newer","fitted","copied","once","inputs"] ["pot"] (aq R9):=df
def JY {tO:Addr}{f:Addr}{fd:Yx}(F:b9 K "_law_case" "_law_case" R9 f fd)(m_len:mg "len"=none)(SP0:aS P w K mg base "_law_some_program" ["pot","most","wide","longest"] 11 tR)(MA:aS P w K mg base "_law_made" ["pot","program"] 45 K8)(SN0:aS P w K mg base "split_node" ["program","node","named"] 11 (nE K tO))(FT0:aS P w K mg base "fitted_program" ["program"] 11 (yO K tO))(EI0:aS P w K mg base "every_input" ["program"] 2 CS)(SM0:aS P w K mg base "_law_same" ["program","newer","inputs","fitted"] 33 yS)(RO0:aS P w K mg base "run_of" ["program","inputs"] 31 tN)(NX0:aS P w K mg base "_law_next" ["pot","many"] 1 dI):aO P w K mg base bU 46 f fd ["pot"] K7:=by
 show F.c0 qX fun cdv A outer s H vs Q E hr h=>?_
 obtain⟨r,rfl,Ma,q⟩:=h
 have SP:=SP0.mono (show 11<=45 by lia)
 have SN:=SN0.mono (show 11<=45 by lia)
 have FT:=FT0.mono (show 11<=45 by lia)
 have EI:=EI0.mono (show 2<=45 by lia)
 have SM:=SM0.mono (show 33<=45 by lia)
 have RO:=RO0.mono (show 31<=45 by lia)
 have NX:=NX0.mono (show 1<=45 by lia)
 show dN ⟨_,(acj (acw 1 qX.nd (acm SP hr U (L (Y 0) (L aci (L aci (L aci M))))))
   (acj (acJ (acm MA hr U (L (Y 0) (L (Y 1) M))) (L3.NC 2 (acs (aco 2 qX.nd) (acs (aco 3 qX.nd) acE))))
   (acj (acw 4 qX.nd (ack acp (acm SN hr U (L (Y 1) (L (acm NX hr U (L (Y 0) (L (acA acG U m_len Yy (L (ack acp (Y 1) aci) M)) M))) (L (acB M) M)))) aci))
   (acj (acw 5 qX.nd (ack acp (acm FT hr U (L (Y 2) M)) aci))
   (acj (acy (acr ac8 (acA acG U m_len Yy (L (ack acp (Y 5) aci) M)) (acA acG U m_len Yy (L (ack acp (Y 2) aci) M))) (acn (acq acS)) acz)
   (acj (acy (acK (acV (acr ac4 (acA acG U m_len Yy (L (ack acp (Y 4) aci) M)) (acv acL (acA acG U m_len Yy (L (ack acp (Y 1) aci) M)) aci)) (acZ (acr (ade (m:=32) (bR hr _ (by left))) (ac7 (ack acp (Y 4) aci) (L3.neg aci)) (ack acp (Y 1) aci))))) (acn (acq acS)) acz)
   (acj (acM (acI (acm EI hr U (L (Y 1) M))) (aco 6 qX.nd) (acn (acy (acK (acV (L3.nt (acW (acm SM hr U (L (Y 1) (L (Y 2) (L (Y 6) (L (Y 3) M))))))) (acZ (acr (ade (m:=1) (bR hr _ (by left))) (acm RO hr U (L (Y 4) (L (Y 6) M))) (acm RO hr U (L (Y 1) (L (Y 6) M))))))) (acn (acq acS)) acz)))
   (acn (acq acS))))))))),?_⟩
 show aE fun Rk kR=>?_
 show⟨_,U,r,8,8,6,U,Ma,by left,by left,by left,by left,by left,by left,fun p B I N vb vn bs ins nds H1 l1 hp pd ok=>?_⟩
 have pk:Pk bs ins nds:=⟨ok.bx,ok.ind,ok.sub,ok.one,ok.nd⟩
 have n6:nds.length<=6:=by have:=ok.jv;lia
 have one:=pk.one
 have l4:=pk.bx.l4
 have RR:Pm H1 p bs ins nds:=⟨B,I,N,vb,vn,hp,⟨pd.hB,pd.hI,pd.hN,pd.pb,pd.pn⟩⟩
 show au (kR _ _ ?_)
 show aG [some (.ref r),some (.ref p),none,none,none,none,none] U ?_
 show aE fun Rk kR=>?_
 show⟨_,U,_,U,r,p,bs,ins,nds,U,l1.rl,RR,pk,n6,fun L8 p' nds' fit H2 l2 gL We kp XI=>?_⟩
 show⟨L8,_,U,aF.of gL,U,_,_,U,_,_,U,U,?_⟩
 show kR _ _ ?_
 show aG [some (.ref r),some (.ref p),some (.ref p'),some (.bl fit),none,none,none] U ?_
 show aE fun Rk kR=>?_
 have Wa:=pd.go l1.rl l2
 have uA:=Rl.tk l1.rl l2 _ _ hp
 have pW:=Paired.length pd.pn
 have big:(100:Int)<2^110:=by left
 show⟨_,U,_,U,_,U,?_⟩
 show aP uA U ?_
 show⟨N,_,U,.inl (aF.of Wa.hN),r,(vn.length:Int),U,l2.rl,by lia,by lia,fun JR H3 Ey O0 l3=>?_⟩
 obtain⟨nd,end_⟩ : ∃nd:Nat,(nd:Int)=JR:=⟨JR.toNat,YA Ey⟩
 subst end_
 have gY:nd<nds.length:=by lia
 obtain⟨a,ha⟩ : ∃a,nds[nd]?=some a:=⟨_,Yn gY⟩
 show⟨aes,fun e0 Ci=>?_⟩
 have se:=af Ci (.lst [])
 have ge:(upd H3 e0 (.lst [])) e0=some (.lst (([]:List Int).map V.int)):=ae
 generalize upd H3 e0 (.lst [])=H4 at se ge ⊢
 have JC:=l2.trans (l3.trans (Rl.of l3.rl se))
 have Mt:=RR.rl l1.rl JC
 have Pq:=We.rl l2.rl (l3.trans (Rl.of l3.rl se))
 obtain⟨B,I,N,vb,vn,U0,RU⟩:=id Mt.ex
 have pW:=Paired.length RU.pn
 show⟨p,B,I,N,e0,vb,vn,bs,ins,nds,nd,a,[],U,U0,RU,l4,by lia,ha,ge,YY _,(fun x hx=>nomatch hx),fun q0 pc P0 Bc Ic Nc tZ sm X8 ps H5 hq td=>?_⟩
 show aP hq U ?_
 show au (kR _ _ ?_)
 show aG [some (.ref r),some (.ref p),some (.ref p'),some (.bl fit),some (.ref pc),none,none] U ?_
 show aE fun Rk kR=>?_
 have tp:=td.pt
 rw[tP]at tp
 have Wg:Pm H5 pc bs ins (nds++[a]):=⟨Bc,Ic,Nc,vb,tZ,td.hp,tp⟩
 have Wf:=Mt.same td.s
 have Ks:=Pq.same td.s
 obtain⟨B2,I2,N2,WV,Ht,L9,Pz⟩:=id Ks.ex
 have WX:=Paired.length Pz.pn
 have Mk:=kp.pk.bx.l4
 show⟨_,U,p',B2,I2,N2,WV,Ht,bs,ins,nds',U,L9,Pz,l4,by lia,kp.pk.one,kp.pk.ld,fun q1 po P1 Bo Io No Yh sm2 X9 XX lv H6 iM MN v=>?_⟩
 show aP iM U ?_
 show au (kR _ _ ?_)
 show aG [some (.ref r),some (.ref p),some (.ref p'),some (.bl fit),some (.ref pc),some (.ref po),none] U ?_
 show aE fun Rk kR=>?_
 have s6:=MN.s
 have WY:=Paired.length MN.pt.pn
 have tl:=pJ kp.pk.ld kp.pk.one
 show⟨_,U,?_⟩
 show aP MN.hp U ?_
 show⟨No,_,U,.inl (aF.of MN.pt.hN),_,U,?_⟩
 show aP (s6 _ _ L9) U ?_
 show⟨N2,_,U,.inl (aF.of (s6 _ _ Pz.hN)),_,_,U,U,_,U,aK (f6 (by lia)) (kR _ _ ?_)⟩
 show aE fun Rk kR=>?_
 have Ku:=Wg.same s6
 have Mu:=Wf.same s6
 have Pr:=Ks.same s6
 obtain⟨Bc,Ic,Nc,Yg,tZ,Q5,Mz⟩:=id Ku.ex
 obtain⟨B,I,N,vb,vn,Q4,My⟩:=id Mu.ex
 have BY:=Paired.length Mz.pn
 have pW:=Paired.length My.pn
 rw[Ym]at BY
 have BY:tZ.length=nds.length+1:=BY
 show⟨_,U,?_⟩
 show aP Q5 U ?_
 show⟨Nc,_,U,.inl (aF.of Mz.hN),_,U,?_⟩
 show aP Q4 U ?_
 show⟨N,_,U,.inl (aF.of My.hN),_,_,U,U,U,_,U,aK ?_ ?_⟩
 . change(!decide (V.int (tZ.length:Int)=V.int ((vn.length:Int)+1)))=false
   rw[cH (congrArg V.int (by lia))]
   rfl
 show⟨_,U,?_⟩
 show aP Q5 U ?_
 show⟨_,U,_,U,Nc,_,U,aF.of Mz.hN,fun sl Aj=>?_⟩
 have Nf:cy tZ none (some (-1:Int))=tZ.take nds.length:=by
   unfold cy
   have e0:HT.bX tZ.length 0 none=0:=rfl
   have e1:HT.bX tZ.length tZ.length (some (-1:Int))=nds.length:=by
     rw[BY]
     unfold HT.bX
     simp
     try lia
   rw[e0,e1,Zo,Z2]
 have s7:=af Aj (.lst (cy tZ none (some (-1:Int))))
 have g7:(upd H6 sl (.lst (cy tZ none (some (-1:Int))))) sl=some (.lst (cy tZ none (some (-1:Int)))):=ae
 generalize upd H6 sl (.lst (cy tZ none (some (-1:Int))))=H7 at s7 g7 ⊢
 rw[Nf]at g7
 show⟨_,U,?_⟩
 show aP (s7 _ _ Q4) U ?_
 have Wn:RB K H7 32 (.ref sl) (.ref N) true:=RB.lst (aF.of g7) (aF.of (s7 _ _ My.hN)) (by rw[Yu];lia) fun j x y hx hy=>by
   have hj:j<nds.length:=by have:=(aQ hy);lia
   have hx:tZ[j]?=some x:=by
     rw[abg,bj hj]at hx
     show hx
   obtain⟨e1,lQ,oJ⟩:=Paired.get Mz.pn hx
   obtain⟨e2,mQ,Cs⟩:=Paired.get My.pn hy
   rw[YV hj,mQ]at lQ
   cases lQ
   have V4:=pk.nd e1 (Yq mQ)
   show(aI.al (fun z hz=>by have:=(V4.td z hz).2;lia) (aI.keep (ah.tk s7) oJ) (aI.keep (ah.tk s7) Cs)).et
 show⟨true,Wn,_,U,aK rfl (kR _ _ ?_)⟩
 show aE fun Rk kR=>?_
 have Pw:=Ku.same s7
 have Pt:=Mu.same s7
 have Pu:=Pr.same s7
 have sz1:∀b∈bs,1<=b.2:=fun b hb=>(pk.bx.sz b hb).1
 have RQ:Pk bs ins (nds++[a]):=by
   have c:=mv (named:=[]) pk.ld ha
   have z:=qe c pk.nd
   rw[tP]at z
   show⟨pk.bx,pk.ind,pk.sub,by rw[Ym];show YH (abu _) (Nat.le_add_left _ _),z⟩
 have lc:(nds++[a]).length=nds.length+1:=by rw[Ym];rfl
 show⟨_,rfl,.ref p,bs,ins,nds.map Np.nd,rfl,Pt.prog pk,pk.fits,(fun s hs=>by
   obtain⟨x,hx,rfl⟩:=cX hs
   obtain⟨b,hb,rfl⟩:=cX (pk.sub x hx)
   rw[eI pk.bx.nd hb]
   have:=pk.bx.sz b hb
   show⟨by lia,by lia⟩),fun i=>pk.cD i,fun l as H8 own=>?_⟩
 show⟨l,U,⟨_,aF.of own.e⟩,?_⟩
 have s48:=aa td.s (aa s6 (aa s7 own.s))
 show dA (xs:=as.map V.ref) (fun i σ Hx=>(∃o,σ=[some (.ref r),some (.ref p),some (.ref p'),some (.bl fit),some (.ref pc),some (.ref po),o])/\ah H8 Hx) ⟨⟨_,U⟩,same_refl _⟩ (fun i σ Hx v z=>aF.of (z.2 _ _ own.e)) (fun i x0 σ Hx hx z=>?_) (fun σ Hx z=>?_)
 . obtain⟨⟨o,rfl⟩,sx⟩:=z
   obtain⟨ai,Us,rfl⟩:=ba hx
   obtain⟨iw,UE,Ou⟩:=Paired.get own.p Us
   have pw:=jd (Yq UE)
   have bw:=fW pk.bx.nd sz1 pw
   show au ?_
   show aG [some (.ref r),some (.ref p),some (.ref p'),some (.bl fit),some (.ref pc),some (.ref po),some (.ref ai)] U ?_
   have PJ:=aa own.s sx
   have hi:Hx ai=some (.lst (iw.map V.int)):=sx _ _ Ou
   show⟨_,U,_,U,_,U,_,U,.ref p,.ref p',ai,bs,ins,nds.map Np.nd,nds'.map Np.nd,iw,fit,U,⟨(Pt.same PJ).Mx pk,(Pu.same PJ).Mx kp.pk,U,hi,pw,pk.jv (by lia),kp.pk.jv (by lia)⟩,kp.dz _ bw,(fun f=>kp.eq f _),fun H9 s9=>⟨_,U,aK rfl ?_⟩⟩
   have R7:=aa PJ s9
   show⟨_,U,_,U,.ref pc,ai,bs,ins,(nds++[a]).map Np.nd,iw,U,(Pw.same R7).Mx RQ,s9 _ _ hi,pw,RQ.jv (by lia),fun r1 sa ro n sd rd HA sA v vA v kN G1 fw rt=>?_⟩
   show⟨_,U,_,U,.ref p,ai,bs,ins,nds.map Np.nd,iw,U,(Pt.same (aa R7 sA)).Mx pk,sA _ _ (s9 _ _ hi),pw,pk.jv (by lia),fun r2 sb X3 n2 X5 X0 HB sB v Co v Cp Ot Xk Wq=>?_⟩
   have ru:=aX.uniq (oX (a:=a) pk Wq) rt
   injection ru with e1 e2
   injection e2 with e2 e3
   subst e1 e2 e3
   show⟨true,By (sB _ _ vA) Co (sB _ _ kN) Cp (G1.ro.same sB) Ot.ro,_,U,aK rfl ⟨⟨_,U⟩,aa sx (aa s9 (aa sA sB))⟩⟩
 obtain⟨⟨o,rfl⟩,sx⟩:=z
 show kR _ _ ?_
 have VB:=aa s48 sx
 show q _ (l1.trans (JC.trans (Rl.of JC.rl VB)))
abbrev KU:Stmt:=top 66
def tL (K:Yl):Sp:=fun vs H Q z=>∃(a:Addr) (ns:List Int),vs=[.ref a]/\aF K H a (ns.map V.int)/\ns.length<=63/\∀H',Q (.bl true) H'
def zN (xs:List V)(n:Nat):cy xs none (some (n:Int))=xs.take n:=by
 unfold cy
 have e0:HT.bX xs.length 0 none=0:=rfl
 have e1:HT.bX xs.length xs.length (some (n:Int))=min n xs.length:=HT.dt _ _ _
 rw[e0,e1,Zo,Z2]
 by_cases h:n<=xs.length
 . rw[ZA h]
 . rw[abv (by lia),YR,YI (by lia)]
structure HN (H:Hp)(L8:Addr)(ps:List Addr):Prop where
 hL:H L8=some (.lst (ps.map V.ref))
 hr:∀p∈ps,dy H p
def HN.go {H H':Hp}{L8 r:Addr}{ps:List Addr}(h:HN H L8 ps)(hr:r∈ps)(l:Rl r H H'):HN H' L8 ps:=by
 show⟨l.k _ _ (jC (h.hr r hr) h.hL fun i j e=>?_) h.hL,fun p hp=>?_⟩
 . match ps,e with
   | a::_,e=>show nomatch e
 . by_cases e:p=r
   . rw[e];show l.rl
   . obtain⟨a,b,h1,h2⟩:=h.hr p hp
     show⟨a,b,l.k _ _ e h1,h2⟩
def CN:aC ["script","pot"] ["script"] (aq KU):=df
def E2 {f:Addr}{fd:Yx}(F:b9 K "law" "law" KU f fd)(PO0:aS P w K mg base "_law_pots" ["script"] 1 (rf K))(CA0:aS P w K mg base "_law_case" ["pot"] 46 K7):aO P w K mg base bU 65 f fd ["script"] (tL K):=by
 show F.c0 CN fun cdv A outer s H vs Q E hr h=>?_
 obtain⟨a,ns,rfl,ha,nl,q⟩:=h
 have PO:=PO0.mono (show 1<=64 by lia)
 have CA:=CA0.mono (show 46<=64 by lia)
 show dN ⟨_,(acj (acM (acI (acm PO hr U (L (ac7 (Y 0) aci) M))) (aco 1 CN.nd) (acn (acy (L3.nt (acW (acm CA hr U (L (Y 1) M)))) (acn (acq acS)) acz)))
   (acn (acq acS))),?_⟩
 show aE fun Rk kR=>?_
 show⟨_,U,_,U,a,_,U,ha,fun l hl=>?_⟩
 rw[show(2:Int)=((2:Nat):Int)from rfl,zN,← aaL]
 have s1:=af hl (.lst ((ns.take 2).map V.int))
 have g1:(upd H l (.lst ((ns.take 2).map V.int))) l=some (.lst ((ns.take 2).map V.int)):=ae
 generalize upd H l (.lst ((ns.take 2).map V.int))=H1 at s1 g1 ⊢
 show⟨l,ns.take 2,U,aF.of g1,by rw[Yu];lia,fun L8 ps H2 s2 nL gL p1 XS nd hps=>?_⟩
 have oU:HN H2 L8 ps:=⟨gL,fun p hp=>(hps p hp).2.2⟩
 show⟨L8,U,⟨_,aF.of gL⟩,?_⟩
 show dA (xs:=ps.map V.ref) (fun i σ Hx=>(∃o1,σ=[some (.ref a),o1])/\HN Hx L8 ps) ⟨⟨_,U⟩,oU⟩ (fun i σ Hx y z=>aF.of z.2.hL) (fun i x0 σ Hx hx z=>?_) (fun σ Hx z=>?_)
 . obtain⟨⟨o1,rfl⟩,pt⟩:=z
   obtain⟨r,zo,rfl⟩:=ba hx
   have Q9:=Yq zo
   show au ?_
   show aG [some (.ref a),some (.ref r)] U ?_
   show⟨_,U,r,U,pt.hr r Q9,fun H4 l4=>⟨_,U,aK rfl ⟨⟨_,U⟩,pt.go Q9 l4⟩⟩⟩
 obtain⟨⟨o1,rfl⟩,pt⟩:=z
 show kR _ _ ?_
 show q _
end
end TW
namespace TW
open PySem L2
def dU {x:Str}{st:Stmt}{ps:List Str}{k:Nat}{sp:Sp}{P:Program}{w:World}{K:Yl}{mg:Str->Option Value}{base:Heap}(s:Src K mg x st)(h:∀{f fd},b9 K x x st f fd->aO P w K mg base bU k f fd ps sp)(b:∀{f fd},b9 K x x st f fd->Binds K fd ps []:=by intro f fd F;first|show nW F fun z z z z z z z z=>rfl|show HZ F fun z z z z z z z=>rfl|show DA F fun z z z z z z z z z=>rfl|show M7 F fun z z z z z z z z z z=>rfl):aS P w K mg base x ps k sp:=let⟨f,fd,F,m⟩:=s;⟨f,fd,h F,F.kp,b F,m⟩
def Dx {P:Program}{w:World}{K:Yl}{mg:Str->Option Value}{fa:Addr}(hfa:mg "law"=some (.ref fa))(t:HU w K mg) :
   ∃fd:Yx,(∀(s:Shared) (u:Value),BindsTo s fd ⟨[u],[]⟩ [("script",u)])/\∀base:Heap,K.In base->base.Ns Zd mg->aO P w K mg base bU 65 fa fd ["script"] (tL K):=by
 obtain⟨f,fd,F,m⟩:=t.s_law
 have e:=hfa.symm.trans m
 cases e
 show⟨fd,fun s u=>?_,fun base z z=>?_⟩
 . obtain⟨oc,od,kV,doc,pm,an,cdv,ct,osl,rfl,lk,hcd⟩:=F.ex
   show .of_eq rfl
 obtain⟨tY,mY,cY⟩:=t.c_YES
 obtain⟨tO,mO,cO⟩:=t.c_NOUGHT
 obtain⟨T,ck,R⟩:=t.cl
 have NX:aS P w K mg base "_law_next" ["pot","many"] 1 dI:=dU t.s_law_next fun F=>AQ F
 have PO:aS P w K mg base "_law_pots" ["script"] 1 (rf K):=dU t.s_law_pots fun F=>AV F t.m_len
 have SB:=dU (P:=P) (w:=w) (base:=base) t.s_law_some_boxes fun F=>xD F t.m_min NX
 have SM:=Ae t.s_law_any_sum t.m_len NX
 have CO:=wx t.s_law_any_condition NX (SM 4)
 have NO:=dU (P:=P) (w:=w) (base:=base) t.s_law_one_node fun F=>AR F t.m_len t.m_int NX (SM 4) (CO 3)
 have SP:=dU (P:=P) (w:=w) (base:=base) t.s_law_some_program fun F=>xE F t.m_len t.m_range NX SB NO
 have LE:aS P w K mg base "leads_of" ["node"] 1 du:=dU t.s_leads_of fun F=>xA F
 have RN:aS P w K mg base "refuse_no_nodes" ["program","numbers"] 1 mr:=dU t.s_refuse_no_nodes fun F=>E6 F t.m_len
 have LC:aS P w K mg base "led_anew" ["node","leads"] 1 gu:=dU t.s_led_anew fun F=>AK F t.m_len t.m_tuple
 have WN:aS P w K mg base "with_nodes" ["program","nodes"] 1 eG:=dU t.s_with_nodes fun F=>xF F t.m_list
 have J:∀n:Nat,aS P w K mg base "joined_by" ["word","parts"] (n+1) (fj K n):=qk t.s_joined_by t.m_len
 have AO:=dU (P:=P) (w:=w) (base:=base) t.s_all_of fun F=>xr F (J 6)
 have BS:=dU (P:=P) (w:=w) (base:=base) t.s_boxes_same fun F=>AH F mY cY AO
 have AS:=dU (P:=P) (w:=w) (base:=base) t.s_all_same fun F=>AF F BS
 have LV:aS P w K mg base "level_entry" ["program","place","new_place","condition"] 1 (gv tO):=dU t.s_level_entry fun F=>AM F mO
 have PA:∀n:Nat,aS P w K mg base "parts_of" ["sum_told"] (n+2) (jq n):=Ac t.s_parts_of t.m_list
 have S3:aS P w K mg base "small_part" ["many","size"] 1 yT:=dU t.s_small_part fun F=>E8 F
 have JN:∀n:Nat,aS P w K mg base "joined_by" ["word","parts"] (n+1) (pv n):=DU t.s_joined_by t.m_len
 have AN:=dU (P:=P) (w:=w) (base:=base) t.s_all_of fun F=>AE F (JN 12)
 have AY:=dU (P:=P) (w:=w) (base:=base) t.s_any_of fun F=>AG F t.m_len AN
 have SS:=dU (P:=P) (w:=w) (base:=base) t.s_small_sum fun F=>E9 F t.m_max t.m_min t.m_len S3 (PA 30) (JN 12)
 have PM:=dU (P:=P) (w:=w) (base:=base) t.s_put_made fun F=>E5 F t.m_range SS AY
 have BP:=dU (P:=P) (w:=w) (base:=base) t.s_between_puts fun F=>EJ F t.m_dict PM BS AN
 have NB:∀n:Nat,aS P w K mg base "names_box" ["sum_told","name"] (n+1) (iF n):=Ab t.s_names_box t.c_PARTED t.m_any
 have RE:=Ad t.s_refuse_exchange t.m_enumerate t.m_any R.x_NoChange LE (NB 40)
 have EX:=Aa t.s_exchanged_puts t.m_len t.m_list t.m_range t.m_enumerate RN RE AS LC LE BP LV WN
 have SN:=dU (P:=P) (w:=w) (base:=base) t.s_split_node fun F=>Fb F t.m_len t.m_range t.m_enumerate RN AS LE LC LV WN
 have TO:=dU (P:=P) (w:=w) (base:=base) t.s_told_over fun F=>AU F t.m_len t.m_range t.m_enumerate RN AS LE LC LV WN
 have IN:aS P w K mg base "idle_next" ["node"] 1 pq:=dU t.s_idle_next fun F=>EY F
 have GR:=dU (P:=P) (w:=w) (base:=base) t.s_goes_round fun F=>EU F IN
 have LO:=dU (P:=P) (w:=w) (base:=base) t.s_led_on fun F=>E1 F IN
 have FT:=dU (P:=P) (w:=w) (base:=base) t.s_fitted_program fun F=>ES F t.m_len t.m_range t.m_enumerate cO AS IN GR LO LC LE LV WN
 have RW:aS P w K mg base "refuse_worths" ["sizes","worths"] 1 rg:=dU t.s_refuse_worths fun F=>AW F t.m_len t.m_zip
 have KW:pX P w K mg base "known_worths" ["program","worths","side"] 1 iD "box":=ql t.s_known_worths t.m_zip
 have WB:∀n,aS P w K mg base "worth_by" ["known","sum_told"] (n+1) (cR n):=uv t.s_worth_by
 have HB:aS P w K mg base "holds_by" ["known","condition"] 22 (dP 20):=uu t.s_holds_by WB 20
 have WP:aS P w K mg base "worths_put" ["program","worths","put_name","told"] 1 rj:=dU t.s_worths_put fun F=>AZ F t.m_zip
 have SA:=dU (P:=P) (w:=w) (base:=base) t.s_step_at fun F=>uX F t.m_list (KW.mono (by left)) (WP.mono (by left)) ((WB 20).mono (by left)) (HB.mono (by left))
 have IS:aS P w K mg base "input_sizes" ["program"] 1 kH:=dU t.s_input_sizes fun F=>AJ F t.m_dict
 have BG:=dU (P:=P) (w:=w) (base:=base) t.s_beginning_of fun F=>xt F t.m_dict t.m_zip RW IS
 have RO:=dU (P:=P) (w:=w) (base:=base) t.s_run_of fun F=>xC F t.m_len t.m_tuple (BG.mono (by left)) (SA.mono (by left))
 have SI:=dU (P:=P) (w:=w) (base:=base) t.s_said_in fun F=>uV F t.m_range (BG.mono (by left)) (SA.mono (by left))
 have FS:aS P w K mg base "first_said" ["run","many"] 1 nC:=dU t.s_first_said fun F=>xu F t.m_len t.m_list
 have ST:aS P w K mg base "numbers_that_settle" ["run","another"] 1 kI:=dU t.s_numbers_that_settle fun F=>uW F t.m_len t.m_max t.m_sum
 have AL:=dU (P:=P) (w:=w) (base:=base) t.s_said_alike fun F=>uU F t.m_len t.m_min t.m_enumerate t.m_zip ST FS
 have NP:=dU (P:=P) (w:=w) (base:=base) t.s_refuse_no_pair fun F=>uT F IS
 have RP:=dU (P:=P) (w:=w) (base:=base) t.s_runs_part fun F=>xB F NP AL RO
 have EW:aS P w K mg base "every_worths" ["sizes"] 1 yM:=dU t.s_every_worths fun F=>EN F t.m_range
 have EI:=dU (P:=P) (w:=w) (base:=base) t.s_every_input fun F=>EL F EW IS
 have XC:=dU (P:=P) (w:=w) (base:=base) t.s_law_exchanged fun F=>ER F R.x_NoChange EX
 have MA:=dU (P:=P) (w:=w) (base:=base) t.s_law_made fun F=>J1 F t.m_len t.m_range t.m_min NX SN TO FT XC
 have SE:=dU (P:=P) (w:=w) (base:=base) t.s_law_same fun F=>AX F RO RP SI
 have CA:=dU (P:=P) (w:=w) (base:=base) t.s_law_case fun F=>JY F t.m_len SP MA SN FT EI SE RO NX
 show E2 F PO CA
end TW
namespace TW
open PySem L2
def walk {l:PySem.W.OpenLaw}{q:Program}{loose:List Str}{XP:(Str->Option Value)->Heap->Prop}{YP:World->Heap->Prop}{d:DefRec}{K:Params->Yl}(hn:l.most=some 63)(hdf:d.params.defaults=[])
   (hY:∀(w:World) (h:Heap),YP w h->(K w.params).In h)
   (F:∀(w:World) (mg:Str->Option Value) (fa:Addr) (h:Heap),(K w.params).In h->h.Ns Zd mg->mg d.name=some (.ref fa) ->
     ∃fd:Yx,(∀(s:Shared) (u:Value),BindsTo s fd ⟨[u],[]⟩ [("script",u)])/\∀base:Heap,(K w.params).In base->base.Ns Zd mg->aO l.prog w (K w.params) mg base bU 65 fa fd ["script"] (tL (K w.params))) :
   PySem.W.WalkO q loose XP YP l.row.toRowW d [] (fun f vs=>PySem.call f vs):=
 L2.BZ (n:=63) (k:=65) (x:="script") (CX:=fun y=>bU) (sp:=fun w=>tL (K w.params)) hn (by left) hdf ⟨rfl,by left,by left⟩ hY F (fun y y a ns hl y hS=>⟨a,ns,rfl,hS,hl,fun y=>rfl⟩) fun y y y y y z=>z
end TW
namespace PySem.W.Fast
def tw10036032755965679189:=0
def tw10050056295702306396:=0
def tw10069981246175697237:=0
def tw10164017434383164429:=0
def tw10205945252971098194:=0
def tw10209644614481400146:=0
def tw10227397593358781942:=0
def tw10230839325285376349:=0
def tw1027575054582620622:=0
def tw10317512404463698991:=0
def tw10385881398357691935:=0
def tw10425847141443580021:=0
def tw10539819821853025909:=0
def tw10616275942691805290:=0
def tw10651588954978224846:=0
def tw10664608530057071425:=0
def tw10699886216304167965:=0
def tw10716633655722571951:=0
def tw10745589616386581094:=0
def tw10773993049516365037:=0
def tw10789751170109769970:=0
def tw10797504136523456015:=0
def tw10837935521556662525:=0
def tw10861298101037159433:=0
def tw10917832951033197146:=0
def tw10961009051367023210:=0
def tw10978070443592547404:=0
def tw11024339520727028707:=0
def tw11129314626857787342:=0
def tw11138816854843496580:=0
def tw11219430839366890553:=0
def tw11312439475843104794:=0
def tw1138528429682892053:=0
def tw11462153561625640764:=0
def tw11464484190539689429:=0
def tw1148236701130453260:=0
def tw11531608575540917719:=0
def tw1157975884541858195:=0
def tw11625055711712867605:=0
def tw116384475526361161:=0
def tw11657577147801885505:=0
def tw1175389644177527520:=0
def tw11760855038387716741:=0
def tw11784263624144019780:=0
def tw11876192126023911001:=0
def tw11914945579147958582:=0
def tw11942986187563922731:=0
def tw11962988276686357374:=0
def tw11976005356538261827:=0
def tw12011943957880944432:=0
def tw12052310620697779512:=0
def tw12163816697082542581:=0
def tw12296198049244135808:=0
def tw12307781080991727934:=0
def tw12330944981692997707:=0
def tw12413059050606901355:=0
def tw12491747592205251042:=0
def tw12503784945591540981:=0
def tw12589760189100467555:=0
def tw12664032233810629556:=0
def tw12673740148804017602:=0
def tw12689772874541856516:=0
def tw12720764351848347090:=0
def tw12741470897832529234:=0
def tw12763559648945687940:=0
def tw12839519478018671982:=0
def tw12891622911384179374:=0
def tw12984583365536693976:=0
def tw13097866101639196997:=0
def tw13185527637240296086:=0
def tw13215664093309384277:=0
def tw1331765642349208862:=0
def tw13324243439303568848:=0
def tw13327600676844392430:=0
def tw13422704855511520406:=0
def tw1352105856670350110:=0
def tw13530673619009229712:=0
def tw13558536180194968670:=0
def tw13650299494798927729:=0
def tw13674872321488766473:=0
def tw1374946434513500589:=0
def tw13797024104442629385:=0
def tw13823170137786683045:=0
def tw13862393327138822491:=0
def tw13925424719806210938:=0
def tw13952972565172681594:=0
def tw13959834293587477203:=0
def tw13974174505264764120:=0
def tw14042881606773075575:=0
def tw14113137382544703029:=0
def tw14198286836766565021:=0
def tw14277063455520723059:=0
def tw14336822141303024265:=0
def tw14351014874004874369:=0
def tw14399008151074276823:=0
def tw14453097089384111081:=0
def tw14461740880476744040:=0
def tw14469133964800841499:=0
def tw14476856050877844504:=0
def tw14507377066263770622:=0
def tw14521716864299441717:=0
def tw14534309115013134019:=0
def tw14556214946445417114:=0
def tw14594614513971032102:=0
def tw14596707731155847997:=0
def tw14627188399502691248:=0
def tw14678230701089077912:=0
def tw14715892868115682509:=0
def tw14719501159989981620:=0
def tw1478028415260498375:=0
def tw14783029732696598859:=0
def tw14806087628402600892:=0
def tw14845132084327652924:=0
def tw14854929883409352899:=0
def tw15030944411080579121:=0
def tw1503904595913350293:=0
def tw15045360266627568838:=0
def tw15047994750776125506:=0
def tw15056054895960878246:=0
def tw15108669774266627949:=0
def tw15209218660558186896:=0
def tw15295613057220299296:=0
def tw15345263120876957363:=0
def tw15348894947280065911:=0
def tw1539786431853180825:=0
def tw15515385051585916766:=0
def tw15560311671928224412:=0
def tw15601339724069622599:=0
def tw15607617916818091679:=0
def tw15655853557610545112:=0
def tw15686576912769361614:=0
def tw15753999139303489882:=0
def tw1581660851513448848:=0
def tw15821878025025005301:=0
def tw15875880779504503724:=0
def tw15918818798433966849:=0
def tw16032537277062266499:=0
def tw16087103871824322637:=0
def tw16118396661246172512:=0
def tw16198203402928793760:=0
def tw16219386203011043564:=0
def tw16225892472675816611:=0
def tw16295963800948460371:=0
def tw16330281746957125254:=0
def tw16465665001056642536:=0
def tw16566616368365833658:=0
def tw16583207175169232095:=0
def tw1661631651555725545:=0
def tw16633135259386942007:=0
def tw16640409247445548653:=0
def tw1665356560050514782:=0
def tw1667177410474846467:=0
def tw16673370154618519411:=0
def tw16699917126916585698:=0
def tw16758423552563660137:=0
def tw16775702664010975042:=0
def tw16791279160222927176:=0
def tw16856331041458654036:=0
def tw16923043994034456082:=0
def tw16924104491185822435:=0
def tw16925597711445115262:=0
def tw16998269299611309832:=0
def tw17006505892795418529:=0
def tw17008101055541944773:=0
def tw17071017499447497458:=0
def tw171324457362519888:=0
def tw17133181890855968284:=0
def tw17190734928560888832:=0
def tw17205811921846320525:=0
def tw17276473829578391708:=0
def tw17374448041584473021:=0
def tw17456370241399946859:=0
def tw17529958792966832692:=0
def tw17546908564241752197:=0
def tw17571328350776051513:=0
def tw17631362975514146635:=0
def tw1765433138186438839:=0
def tw17654545084241535572:=0
def tw1771712812067640634:=0
def tw17724769201134035449:=0
def tw17888027011973776448:=0
def tw17902458522397510309:=0
def tw17928900683598260532:=0
def tw17936693245243303370:=0
def tw17961155763744233888:=0
def tw1797578118786225852:=0
def tw18056747910881381160:=0
def tw181106122855405139:=0
def tw18112368731873496112:=0
def tw18221200108237195376:=0
def tw18300427715074579639:=0
def tw18358751724221616913:=0
def tw18365571619040827017:=0
def tw1914740254247791573:=0
def tw1949295137040515538:=0
def tw1953046022890987976:=0
def tw2147150862340844291:=0
def tw2178157310721235699:=0
def tw2204566153363025949:=0
def tw2205352895609877914:=0
def tw2206961715804032986:=0
def tw2227317239453581796:=0
def tw2257433204639985621:=0
def tw2339145907153675101:=0
def tw234487710624850688:=0
def tw23614099375853043:=0
def tw2387073341702302546:=0
def tw2396589103855503875:=0
def tw2446985028689571957:=0
def tw2459072312532723437:=0
def tw2491674547336984367:=0
def tw2535506455241791020:=0
def tw2676090168027751138:=0
def tw2681420032452014881:=0
def tw2729650370472597087:=0
def tw273501106228805309:=0
def tw2761001546142827517:=0
def tw2815459357454908858:=0
def tw2833155853250665767:=0
def tw2895018497154165322:=0
def tw3023616611791316160:=0
def tw3044292508863351568:=0
def tw3049104271373357314:=0
def tw3076895522664811659:=0
def tw3091814511545275002:=0
def tw310475138979585717:=0
def tw3142440454057515657:=0
def tw3221388420287426172:=0
def tw3270970122080067440:=0
def tw3329898665324083256:=0
def tw3373075358961040710:=0
def tw337653979916184976:=0
def tw3380489887966106776:=0
def tw3409553664315401348:=0
def tw3440348755625377165:=0
def tw3457214151185976979:=0
def tw3479685071378635116:=0
def tw3493471331380780621:=0
def tw3504865672956101960:=0
def tw3514044709683660834:=0
def tw3523106916978149991:=0
def tw3610462292838592702:=0
def tw3642986862190324201:=0
def tw365111769400171190:=0
def tw3695624347745534555:=0
def tw37317954976050935:=0
def tw3760150425396507098:=0
def tw3767397919040576611:=0
def tw3769724436581293531:=0
def tw3770665247906466144:=0
def tw3814877331674150014:=0
def tw3872981661112768222:=0
def tw4015730589063326802:=0
def tw4044315509547523236:=0
def tw4102353303712837088:=0
def tw4129309612132441661:=0
def tw4172880003797695700:=0
def tw424700179985015063:=0
def tw428341525885159879:=0
def tw4287345783804429780:=0
def tw4310958207536293088:=0
def tw4366690233007792131:=0
def tw4370193829570874072:=0
def tw4394753893395897565:=0
def tw4405917718876091663:=0
def tw4495723295597205417:=0
def tw4562351474060557964:=0
def tw462148776584597090:=0
def tw4632278379788244461:=0
def tw4651069736051976292:=0
def tw4689001695314385239:=0
def tw4730426284100751184:=0
def tw473949317734847872:=0
def tw4763870612394482739:=0
def tw4766953532235873834:=0
def tw4802087603967556071:=0
def tw4824639641159169079:=0
def tw4871206046410629365:=0
def tw4979689838871609492:=0
def tw4980169408598733285:=0
def tw5092659554962459557:=0
def tw5134379605213058293:=0
def tw5193599857975891084:=0
def tw5202971833797644428:=0
def tw5224430275184217005:=0
def tw5277508604334421690:=0
def tw5312398267466700859:=0
def tw5400004776575797969:=0
def tw5460685927732024775:=0
def tw5472604623843816321:=0
def tw5478620904898669204:=0
def tw568973067641745376:=0
def tw5771206096923294147:=0
def tw5800970997801399948:=0
def tw5907430889752544373:=0
def tw5941923871925414218:=0
def tw5978395908842444463:=0
def tw6014044086816094449:=0
def tw6027422161482021860:=0
def tw6070667475766751446:=0
def tw6076180676461654562:=0
def tw6162827923528519902:=0
def tw6216409032011626815:=0
def tw6232101746165126635:=0
def tw629741899634183508:=0
def tw630240345202920139:=0
def tw6338737244746129495:=0
def tw6355937707438174144:=0
def tw6424602377415997649:=0
def tw6427803131740881158:=0
def tw6584706125394894659:=0
def tw6685256613159621847:=0
def tw6686353579503375679:=0
def tw6768144825345959666:=0
def tw6917033480359657771:=0
def tw6937688161940923618:=0
def tw6987819573196862617:=0
def tw7037958161157075509:=0
def tw7053273453279910599:=0
def tw7110434076318802857:=0
def tw7120346740346631053:=0
def tw7152861771257945989:=0
def tw7237122433353286297:=0
def tw7322904206085669909:=0
def tw7480928844049674094:=0
def tw7571257669533407991:=0
def tw7594106942482790346:=0
def tw7677281859191212971:=0
def tw7706190743303460004:=0
def tw7806671890451164115:=0
def tw7818435049452994902:=0
def tw7853969305615113314:=0
def tw7938933421737401416:=0
def tw796481696060734752:=0
def tw7993024415678135260:=0
def tw8010131110009416544:=0
def tw8107285058970991811:=0
def tw815380662197640261:=0
def tw816891702522664155:=0
def tw823514070444331919:=0
def tw8421165463625371986:=0
def tw8421940743376432463:=0
def tw8436638512311074981:=0
def tw8439780501221612892:=0
def tw8530497204162187017:=0
def tw856165413859083289:=0
def tw8623050274904496059:=0
def tw8704694502800557031:=0
def tw8716714913557894655:=0
def tw8721661981183948884:=0
def tw8846705734953290112:=0
def tw8857532010931154436:=0
def tw8862388296330498477:=0
def tw8935543129320624429:=0
def tw9002391823869720643:=0
def tw9012159392152698342:=0
def tw9149504561470365889:=0
def tw9184183037371625225:=0
def tw9189267189543757716:=0
def tw9191665605614647794:=0
def tw9231241742424190851:=0
def tw9353038100738931102:=0
def tw9396451664867730366:=0
def tw9432649574863527405:=0
def tw9439303169616876331:=0
def tw9482908504982156968:=0
def tw9504843603920161476:=0
def tw9525087713612417384:=0
def tw953717249465018452:=0
def tw9565533947098697347:=0
def tw9632431999463501089:=0
def tw9646242137695317706:=0
def tw9806245898667475868:=0
def tw9856722443801459591:=0
def tw9944510818625765641:=0
def tw9991763378825817102:=0
end PySem.W.Fast
open PySem PySem.W PyProof.Rows
set_option maxRecDepth 100000 in
set_option maxHeartbeats 0 in
theorem PySem.Challenge.cw_twinwalk_k69_whole_runs_of_made_over_one_holds : PySem.Challenge.rw_twinwalk_k69_whole_runs_of_made_over_one.Holds := by
 w_on;o_law;k_head;(case hw=>w_witness2)
 k_fill
 show TW.walk (l:=PySem.Challenge.rw_twinwalk_k69_whole_runs_of_made_over_one) rfl rfl (fun w h Y8=>PySem.W.kIn_of Y8) ?F
 case F=>
   intro w mg fa h KX G hmg
   show TW.Dx hmg ?_
   refine' (⟨TW.aJ KX G ?_ ?_ ?_ ?_,TW.aJ KX G ?_ ?_ ?_ ?_,TW.aJ KX G ?_ ?_ ?_ ?_,TW.aJ KX G ?_ ?_ ?_ ?_,TW.aJ KX G ?_ ?_ ?_ ?_,TW.aJ KX G ?_ ?_ ?_ ?_,TW.aJ KX G ?_ ?_ ?_ ?_,TW.aJ KX G ?_ ?_ ?_ ?_,TW.aJ KX G ?_ ?_ ?_ ?_,TW.aJ KX G ?_ ?_ ?_ ?_,TW.aJ KX G ?_ ?_ ?_ ?_,TW.aJ KX G ?_ ?_ ?_ ?_,TW.aJ KX G ?_ ?_ ?_ ?_,TW.aJ KX G ?_ ?_ ?_ ?_,TW.aJ KX G ?_ ?_ ?_ ?_,TW.aJ KX G ?_ ?_ ?_ ?_,TW.aJ KX G ?_ ?_ ?_ ?_,TW.aJ KX G ?_ ?_ ?_ ?_,TW.aJ KX G ?_ ?_ ?_ ?_,TW.aJ KX G ?_ ?_ ?_ ?_,TW.aJ KX G ?_ ?_ ?_ ?_,TW.aJ KX G ?_ ?_ ?_ ?_,TW.aJ KX G ?_ ?_ ?_ ?_,TW.aJ KX G ?_ ?_ ?_ ?_,TW.aJ KX G ?_ ?_ ?_ ?_,TW.aJ KX G ?_ ?_ ?_ ?_,TW.aJ KX G ?_ ?_ ?_ ?_,TW.aJ KX G ?_ ?_ ?_ ?_,TW.aJ KX G ?_ ?_ ?_ ?_,TW.aJ KX G ?_ ?_ ?_ ?_,TW.aJ KX G ?_ ?_ ?_ ?_,TW.aJ KX G ?_ ?_ ?_ ?_,TW.aJ KX G ?_ ?_ ?_ ?_,TW.aJ KX G ?_ ?_ ?_ ?_,TW.aJ KX G ?_ ?_ ?_ ?_,TW.aJ KX G ?_ ?_ ?_ ?_,TW.aJ KX G ?_ ?_ ?_ ?_,TW.aJ KX G ?_ ?_ ?_ ?_,TW.aJ KX G ?_ ?_ ?_ ?_,TW.aJ KX G ?_ ?_ ?_ ?_,TW.aJ KX G ?_ ?_ ?_ ?_,TW.aJ KX G ?_ ?_ ?_ ?_,TW.aJ KX G ?_ ?_ ?_ ?_,TW.aJ KX G ?_ ?_ ?_ ?_,TW.aJ KX G ?_ ?_ ?_ ?_,TW.aJ KX G ?_ ?_ ?_ ?_,TW.aJ KX G ?_ ?_ ?_ ?_,TW.aJ KX G ?_ ?_ ?_ ?_,TW.aJ KX G ?_ ?_ ?_ ?_,TW.aJ KX G ?_ ?_ ?_ ?_,TW.aJ KX G ?_ ?_ ?_ ?_,TW.aJ KX G ?_ ?_ ?_ ?_,TW.BU KX G ?_ ?_ ?_ ?_ ?_,TW.tW KX G ?_ ?_ ?_ ?_ ?_,TW.tW KX G ?_ ?_ ?_ ?_ ?_,⟨_,aaD KX G ?_,TW.tw_mk ?_ ?_ ?_⟩,⟨_,_,TW.Df KX G ?_ ?_ ?_ ?_,TW.Df KX G ?_ ?_ ?xl_NoChange ?_,TW.GF ?_ ?_ ?_ ?_ ?_ ?_ ?_ ?xl_NoChange,?_,?_,?_⟩,YZ KX G ?_,YZ KX G ?_,YZ KX G ?_,YZ KX G ?_,YZ KX G ?_,YZ KX G ?_,YZ KX G ?_,YZ KX G ?_,YZ KX G ?_,YZ KX G ?_,YZ KX G ?_,YZ KX G ?_,YZ KX G ?_⟩ : TW.HU _ _ _)
   (try any_goals first|k_is|k_exc|rfl|((repeat (first|show TW.pr_nil|show TW.pr_cs ⟨_,rfl⟩ rfl ?_|show TW.pr_cs ⟨_,rfl⟩ ⟨_,rfl⟩ ?_));done))
   (try any_goals first|k_is|k_exc|rfl|((repeat (first|show TW.pr_nil|show TW.pr_cs ⟨_,rfl⟩ rfl ?_|show TW.pr_cs ⟨_,rfl⟩ ⟨_,rfl⟩ ?_));done))
   all_goals first|kit_is|decide|rfl|show⟨_,rfl⟩|(k_keys;done)|(repeat' constructor)
