import PyProof.Rows.All
import Wide.All
import OpenK.AllK
import Wide.FinOn
import Lean
import PyProof.EqAt
import PyProof.EqKinds
import PyProof.TupleCall
import PySem.Challenge.RW_twinwalk_k19_worths_of_entries
open List renaming length_map->Sv,getElem?_eq_getElem->Sx,length_append->Sy,mem_of_getElem? -> SF,length_take->SH,take_add_one->SQ,map_append->SR,take_length->SV,size_toArray->SY,getElem?_map->S2,range->S5,getD_eq_getElem?_getD->Ta,take_of_length_le->Tf,not_mem_nil->Tg,length_cons->Th,length_range->Tn,length_drop->To,mem_cons->Tt,append_nil->Tu,mem_append_right->Tv,length_filter_le->Tw,map_cons->Tz,replicate->TC,mem_cons_self->TV,mem_cons_of_mem->TY,getElem?_range->T1,filterMap_cons->T2,getElem?_append_left->T6,mem_of_mem_take->T9,getElem?_of_mem->Ua,replicate_succ->Ue,any_cons->Ug,flatMap_cons->Uq,getElem?_append_right->Us,lookup->Ux,find?_cons->Uy,flatten_cons->UB,filter_congr->UC,contains_iff_mem->UE,of_mem_zip->UL,getElem_of_mem->UM,map_map->UQ,nodup_nil->US,take_sublist->UX,reverse_cons->UY,append_assoc->UZ,lookup_cons->U2,getElem_mem->U3,flatMap_nil->U4,filter_cons->U5,mem_of_mem_drop->Vh,drop_zero->Vk,map_congr_left->Vm,flatMap_append->Vn,filter_filter->Vs,filterMap_map->Vt,getElem?_set->Vy,cons_append->VE,any_eq_true->VF,all_eq_true->VG,range_succ->VP,nodup_cons->VQ,nil_append->VR,forIn_cons->VS,length_eraseIdx_of_lt->VX,take_zero->V2,getElem?_zip_eq_some->V3,eraseIdx_cons_succ->V9,getElem?_set_self->We,map_nil->Wj,getElem?_toArray->Wk,mem_append_left->Wy,getElem?_set_ne->Wz
open PySem.W renaming Frag->Sw,mg_none_of->Ti,kia_one->TF,emptyDict->TL,findIn->TX,fnOf->T5,instObj->T7,keepIn->Ur,plainGet->UW,lookIn->U7,kitOne->U8,codeIn->U9,plainGet_of->Vc,callWith_K->Vi,methodObj->Vq,hasDictIn->Vr,takerIn->VA,mg_of->VV,cellsFrom_some->VZ,isFn->V7,plainOver->Ws,kitx_list->Wt,kitx_dict->Wu
open Nat renaming le_refl->Sz,le_trans->S3,lt_of_lt_of_le->S8,ne_of_lt->Td,le_of_lt->TB,zero_le->TN,le_add_right->Uw,min_eq_left->UA,succ_mul->UG,lt_irrefl->UI,ne_of_gt->UR,succ_le_succ->U6,not_lt_zero->Vd,mul_le_mul_right->Vj,pos_of_ne_zero->Vv,add_comm->VD,sub_self->Wv,mul_zero->Ww,mul_comm->Wx
open PySem renaming Spec->SJ,FuncData->S9,foldedSetIterable->Tc,boot_len->Te,mem_of_lookup->Tx,bootBuiltins->TH,attributeBase->TU,mainGlobals->Uc,swapsWith->Ul,sysModules->Ut,NameKind->UD,behindInMarks->UP,wpAny_passesOwn->UT,wpAny_callSpecial?_slot->Vb,wpAny_pyIter_zip->Vf,slicePick->Vp,swapsWithSole->VI,swappedStores->VJ,wpAny_assign_Name->VU,bindArgs->V8,wpAny_execs_nil->Wc,Within->Wd,wpAny_letOwnedTupleGo_zip->Wo
open PySem.Heap renaming get?_push_of_some->SN,lt_size->SU,get?_push_size->Tb,size_push->Ui,SameBut->Um,get?_update_other->Wf,get?_update_self->Wl
open Int renaming emod_lt_of_pos->S0,emod_nonneg->S7,toNat_natCast->TZ,zero_add->Ve,lt_of_lt_of_le->Vw,ediv_one->VH
open Bool renaming false_ne_true->S4,eq_iff_iff->T4,and_eq_true->Uv,true_and->U0,false_eq_true->Vu,false_and->V4
open Option.some renaming inj->S6
open True renaming intro->Tj
open PySem.Value renaming ref->Tq,bool->T8,int->UU,str->VL,none->VY,float->Wq
open PyProof.Rows renaming callWith_type1->Tr,slot_tuple_getitem->Va
open PySem.NameKind renaming free->Ts,cell->VO
open PySem.Builtin.Int renaming intBits->TJ,intTooBig->VN
open Option renaming map_some->TQ
open PySem.Builtin.SmallTypes renaming ownedTupleIsFree->TR,nextOf->Uh,ownedTupleHandOut->UN
open False renaming elim->Ub
open PySem.F renaming plainAttrs_list->Ud,slot_dict_get->U1,args_dict_get_3->VW,entry_dict_get->V0
open PySem.Builtin.List renaming listFitsIndex->Uj,listTooLong->Up
open PySem.Builtin.Slice renaming slicePlaces->Uk,sliceAdjust->UH,sliceApplied->Vo
open PySem.Builtin.Tuple renaming tupleExact->Uo
open ForInStep renaming yield->Uu
open PySem.Code renaming compLoop->Uz,isFrame->Wm
open PySem.Builtin.Range renaming rangeSize->UJ
open Array renaming length_toList->UK,getElem?_toList->Wh
open PySem.Calls renaming spliced_cons->UO,spliced_nil->Vx,Name_function_global->VT,callWith_builtin->Wa,evalArgs_plain->Wn
open PySem.Obj renaming mapSeq->Vg
open PySem.Heap.IsList renaming push->Vl
open PySem.Builtin.Dict renaming updateFrom->Vz,pairItems->VC
open PySem.Heap.IsSliceOf renaming new->VM
open PySem.SeqAt.EqAt renaming str_int->V5,int_str->V6
open PySem.Around renaming under->Wb
open PySem.Heap.DictOf renaming new->Wg
open PySem.Shared renaming heap->Wi
open PySem.Str renaming ofString->Wr
open And renaming intro->WA
set_option Elab.async false
set_option linter.all false
set_option maxRecDepth 100000
theorem Yz:0<=PySem.sizeLine:=by decide
theorem YA:1<=PySem.sizeLine:=by decide
theorem YB:2<=PySem.sizeLine:=by decide
theorem YC:3<=PySem.sizeLine:=by decide
theorem YD:4<=PySem.sizeLine:=by decide
theorem YE:5<=PySem.sizeLine:=by decide
theorem YF:8<=PySem.sizeLine:=by decide
namespace L2
open PySem PySem.Spec PyProof.Rows
abbrev Key:=Sum Int Str
def j9:Key->Value->Bool
 | .inl k,v=>Value.isInt k v
 | .inr x,v=>Value.isStrOf x v
def Ks (w:World):Key->Int
 | .inl k=>hashInt k
 | .inr x=>hashStr w x
theorem bb:∀{k:Key} {v:Value},j9 k v=true->(∃i t,k=Sum.inl i/\v=UU i t)\/(∃x t,k=Sum.inr x/\v=VL x t)
 | .inl i,v,h=>by
   obtain ⟨t,e⟩:=Value.isInt_shape (k:=i) (v:=v) h
   exact .inl ⟨i,t,rfl,e⟩
 | .inr x,v,h=>by
   obtain ⟨t,e⟩:=Value.isStrOf_shape (x:=x) (v:=v) h
   exact .inr ⟨x,t,rfl,e⟩
theorem rF (i:Int)(t:Tok):j9 (.inl i) (.int i t)=true:=by simp [j9,Value.isInt]
theorem rG (x:Str)(t:Tok):j9 (.inr x) (.str x t)=true:=by simp [j9,Value.isStrOf]
theorem BI (a b:Int):decide ((Sum.inl a:Key)=Sum.inl b)=(a == b):=by
 by_cases e:a=b
 · subst e; simp
 · have h:¬ (Sum.inl a:Key)=Sum.inl b:=fun q=>e (Sum.inl.inj q)
   rw [decide_eq_false h]
   exact (beq_eq_false_iff_ne.mpr e).symm
theorem BL (a b:Str):decide ((Sum.inr a:Key)=Sum.inr b)=decide (a=b):=by
 by_cases e:a=b
 · subst e; simp
 · have h:¬ (Sum.inr a:Key)=Sum.inr b:=fun q=>e (Sum.inr.inj q)
   rw [decide_eq_false h,decide_eq_false e]
theorem BJ (a:Int)(b:Str):decide ((Sum.inl a:Key)=Sum.inr b)=false:=decide_eq_false (fun q=>nomatch q)
theorem BK (a:Str)(b:Int):decide ((Sum.inr a:Key)=Sum.inl b)=false:=decide_eq_false (fun q=>nomatch q)
def aZ (prog:Program)(w:World):PySem.KeyKind prog w Key where
 is:=j9
 hash:=Ks w
 inj:=fun v a b ha hb=>by
   rcases bb ha with ⟨i,t,rfl,rfl⟩ | ⟨x,t,rfl,rfl⟩
   · rcases bb hb with ⟨j,u,rfl,e⟩ | ⟨y,u,rfl,e⟩
     · injection e with e1 _; rw [e1]
     · exact nomatch e
   · rcases bb hb with ⟨j,u,rfl,e⟩ | ⟨y,u,rfl,e⟩
     · exact nomatch e
     · injection e with e1 _; rw [e1]
 byValue:=fun k v h=>by
   rcases bb h with ⟨i,t,rfl,rfl⟩ | ⟨x,t,rfl,rfl⟩ <;> rfl
 pyHash:=fun hv h=>by
   rcases bb hv with ⟨i,t,rfl,rfl⟩ | ⟨x,t,rfl,rfl⟩
   · exact wpAny_pyHash_int h
   · exact wpAny_pyHash_str h
 eqBool:=fun hu hv h=>by
   rcases bb hu with ⟨i,t,rfl,rfl⟩ | ⟨x,t,rfl,rfl⟩
   · rcases bb hv with ⟨j,u,rfl,rfl⟩ | ⟨y,u,rfl,rfl⟩
     · rw [BI] at h; exact wpAny_eqBool_int h
     · rw [BJ] at h; exact V6 i t y u _ _ _ _ h
   · rcases bb hv with ⟨j,u,rfl,rfl⟩ | ⟨y,u,rfl,rfl⟩
     · rw [BK] at h; exact V5 x t j u _ _ _ _ h
     · rw [BL] at h; exact wpAny_eqBool_str h
 «strs»:=fun k x t v h=>by
   rcases bb h with ⟨i,u,rfl,e⟩ | ⟨y,u,rfl,e⟩
   · exact nomatch e
   · injection e with e1 _
     subst e1
     cases v <;> rfl
theorem mO (prog:Program)(w:World)(i:Int)(t:Tok):(aZ prog w).is (.inl i) (.int i t)=true:=rF i t
theorem mP (prog:Program)(w:World)(x:Str)(t:Tok):(aZ prog w).is (.inr x) (.str x t)=true:=rG x t
inductive V where
 | non | bl (b:Bool) | int (i:Int) | str (x:Str) | byt (b:Array UInt8) | flt (b:UInt64) | ref (a:Addr) | ty (n:String)
 deriving DecidableEq
def RelV:V->Value->Prop
 | .non,u=>u=VY
 | .bl b,u=>u=T8 b
 | .int i,u=>∃t,u=UU i t
 | .str x,u=>∃t,u=VL x t
 | .byt b,u=>∃t,u=Value.bytes b t
 | .flt b,u=>∃t,u=Wq b t
 | .ref a,u=>u=Tq a
 | .ty n,u=>u=Value.type n
abbrev Vals:List V->List Value->Prop:=Paired RelV
theorem Vals.length {xs:List V}{us:List Value}(r:Vals xs us):xs.length=us.length:=Paired.length r
theorem Vals.get:∀{xs:List V} {us:List Value} {i:Nat} {x:V},Vals xs us->xs[i]? = some x->∃u,us[i]? = some u/\RelV x u
 | _,_,_,_,.nil,e=>by simp at e
 | _,_,0,_,.cons r _,e=>by simp at e; subst e; exact ⟨_,rfl,r⟩
 | _,_,i + 1,x,.cons _ t,e=>by
   obtain ⟨u,h1,h2⟩:=Vals.get (i:=i) (x:=x) t (by simpa using e)
   exact ⟨u,by simpa using h1,h2⟩
theorem Vals.set {x:V}{u:Value}(r:RelV x u):∀{xs:List V} {us:List Value} (i:Nat),Vals xs us->Vals (xs.set i x) (us.set i u)
 | _,_,_,.nil=>.nil
 | _,_,0,.cons _ t=>.cons r t
 | _,_,i + 1,.cons q t=>.cons q (Vals.set r i t)
theorem Vals.append:∀{xs ys:List V} {us ws:List Value},Vals xs us->Vals ys ws->Vals (xs++ys) (us++ws)
 | _,_,_,_,.nil,s=>s
 | _,_,_,_,.cons r t,s=>.cons r (Vals.append t s)
theorem Vals.take:∀{xs:List V} {us:List Value} (n:Nat),Vals xs us->Vals (xs.take n) (us.take n)
 | _,_,0,_=>.nil
 | _,_,_ + 1,.nil=>.nil
 | _,_,n + 1,.cons r t=>.cons r (Vals.take n t)
theorem Vals.drop:∀{xs:List V} {us:List Value} (n:Nat),Vals xs us->Vals (xs.drop n) (us.drop n)
 | _,_,0,r=>r
 | _,_,_ + 1,.nil=>.nil
 | _,_,n + 1,.cons _ t=>Vals.drop n t
def dB:Option V->Option Value->Prop
 | some v,some u=>RelV v u
 | none,none=>True
 | _,_=>False
def KV {κ:Type}:List (κ×V)->List (κ×Value)->Prop:=Paired fun (p:κ×V) (q:κ×Value)=>p.1=q.1/\RelV p.2 q.2
def kV:Key->V
 | .inl i=>.int i
 | .inr x=>.str x
inductive HO where
 | lst (xs:List V)
 | tup (xs:List V)
 | dK (kvs:List (Key×V)) | dT (kvs:List (List Key×V))
 | set (S:Int->Bool) (n:Nat)
 | ins (C dx:Addr) (fs:List (Str×V))
 | own (x:Addr)
 | xd (fs:List (Str×V))
 | met (f x:Addr)
 | rng (lo hi:Int)
 | frz (o:Obj) (u:HO)
 | tbl (ps:Array Value)
 | ext (φ:Heap->Prop)
abbrev Hp:=Addr->Option HO
def upd (H:Hp)(a:Addr)(o:HO):Hp:=fun b=>if b=a then some o else H b
theorem ae {H:Hp}{a:Addr}{o:HO}:upd H a o a=some o:=by unfold upd; rw [if_pos rfl]
theorem aj {H:Hp}{a b:Addr}{o:HO}(h:b≠a):upd H a o b=H b:=by unfold upd; rw [if_neg h]
theorem b4 {H:Hp}{a:Addr}{o u:HO}:upd (upd H a o) a u=upd H a u:=by
 funext b; unfold upd; split <;> rfl
theorem b8 {H:Hp}{a b:Addr}{o u:HO}(h:H a=some o)(h':H b=some u)(d:o≠u):a≠b:=by
 intro e; subst e; rw [h] at h'; exact d (S6 h')
theorem ag {H:Hp}{a b:Addr}{o:HO}(h:H a=some o)(h':H b=none):a≠b:=by
 intro e; subst e; rw [h] at h'; cases h'
section
variable (P:Program)(w:World)
def aU (H:Hp)(h:Heap)(a:Addr):HO->Prop
 | .lst xs=>xs.length<=sizeLine/\∃(its:List Value) (n:Nat),Vals xs its/\h.get? a=some { cls:=.type "list",data:=.seq its.toArray n }
 | .tup xs=>xs.length<=sizeLine/\∃its:List Value,Vals xs its/\IsTup h a its.toArray
 | .dK kvs=>kvs.length<=sizeLine/\(a == Ut)=false/\∃vs,KV kvs vs/\h.DictOf (aZ P w) a vs
 | .dT kvs=>kvs.length<=sizeLine/\(a == Ut)=false/\∃xs:List (List Key×Addr×Value),
     Paired (fun (p:List Key×V) (q:List Key×Addr×Value)=>p.1=q.1/\H q.2.1=some (.tup (p.1.map kV))/\RelV p.2 q.2.2) kvs xs /\
     ∃o es ep,h.get? a=some o/\o.ExactDict/\o.data=.dict es ep/\es.toList=xs.map (entryOfKey (tupleKind (aZ P w)))/\(xs.map (·.1)).Nodup
 | .set S n=>h.SetOf (intKind P w) a S n
 | .ins C dx fs=>H dx=some (.own a)/\fs.length<=1000/\dx≠a/\h.get? a=some (T7 C dx) /\
     ∃mA,h.Ns1 dx mA/\(∀f,dB (fs.lookup f) (mA f))/\Wd mA (fs.map (·.1))
 | .own _=>∃o,h.get? a=some o
 | .xd fs=>∃mA,h.Ns1 a mA/\∀f,dB (fs.lookup f) (mA f)
 | .rng lo hi=>∃t u v,h.get? a=some { cls:=.type "range",data:=.fields #[.int lo t,.int hi u,.int 1 v] }
 | .frz o u=>h.get? a=some o/\aU H h a u
 | .tbl ps=>h.get? a=some { cls:=.none,data:=.fields ps }
 | .met f x=>h.get? a=some (Vq (.ref f) (.ref x))
 | .ext φ=>φ h/\(∃o,h.get? a=some o)/\∀h1 h2:Heap,φ h1->(∀o,h1.get? a=some o->h2.get? a=some o)->φ h2
def eY (H:Hp)(h:Heap):Prop:=∀a o,H a=some o->aU P w H h a o
end
section
variable {P:Program}{w:World}{H H':Hp}{h h':Heap}{a:Addr}{o:HO}
theorem aU.lt (x:aU P w H h a o):a < h.objs.size:=by
 cases o with
 | lst xs=>obtain ⟨_,_,_,_,e⟩:=x; exact SU e
 | tup xs=>obtain ⟨_,_,_,p⟩:=x; exact p.lt
 | dK kvs=>obtain ⟨_,_,_,_,o,_,_,e,_⟩:=x; exact SU e
 | dT kvs=>obtain ⟨_,_,_,_,o,_,_,e,_⟩:=x; exact SU e
 | set S n=>obtain ⟨o,_,_,_,e,_⟩:=x; exact SU e
 | ins C dx fs=>obtain ⟨_,_,_,e,_⟩:=x; exact SU e
 | own y=>obtain ⟨_,e⟩:=x; exact SU e
 | xd fs=>obtain ⟨_,⟨_,_,_,e,_⟩,_⟩:=x; exact SU e
 | rng lo hi=>obtain ⟨_,_,_,e⟩:=x; exact SU e
 | frz ob u=>obtain ⟨e,_⟩:=x; exact SU e
 | tbl ps=>exact SU (show h.get? a=some _ from x)
 | met f y=>exact SU (show h.get? a=some _ from x)
 | ext φ=>obtain ⟨_,⟨_,e⟩,_⟩:=x; exact SU e
theorem Paired.aI {α β:Type}{F G:α->β->Prop}:∀{l₁:List α} {l₂:List β},Paired F l₁ l₂->(∀a b,F a b->G a b)->Paired G l₁ l₂
 | _,_,.nil,_=>.nil
 | _,_,.cons r t,f=>.cons (f _ _ r) (Paired.aI t f)
theorem aU.oV (x:aU P w H h a o)(k:∀b u,(b=a\/H b=some (.own a))->h.get? b=some u->h'.get? b=some u)
   (ho:∀b,H b=some (.own a)->H' b=some (.own a)) (ht:∀b xs,H b=some (.tup xs)->H' b=some (.tup xs)):aU P w H' h' a o:=by
 induction o with
 | lst xs=>obtain ⟨z,its,n,r,e⟩:=x; exact ⟨z,its,n,r,k _ _ (.inl rfl) e⟩
 | tup xs=>obtain ⟨z,its,r,ob,e,c⟩:=x; exact ⟨z,its,r,ob,k _ _ (.inl rfl) e,c⟩
 | dK kvs=>obtain ⟨z,y,vs,r,ob,es,ep,e,c⟩:=x; exact ⟨z,y,vs,r,ob,es,ep,k _ _ (.inl rfl) e,c⟩
 | dT kvs=>
   obtain ⟨z,y,xs,r,ob,es,ep,e,c⟩:=x
   exact ⟨z,y,xs,Paired.aI r fun p q z=>⟨z.1,ht _ _ z.2.1,z.2.2⟩,ob,es,ep,k _ _ (.inl rfl) e,c⟩
 | set S n=>obtain ⟨ob,es,ep,t,e,c⟩:=x; exact ⟨ob,es,ep,t,k _ _ (.inl rfl) e,c⟩
 | ins C dx fs=>
   obtain ⟨d,z,ne,e,mA,⟨od,es,ep,e2,c⟩,r⟩:=x
   exact ⟨ho _ d,z,ne,k _ _ (.inl rfl) e,mA,⟨od,es,ep,k _ _ (.inr d) e2,c⟩,r⟩
 | own y=>obtain ⟨ob,e⟩:=x; exact ⟨ob,k _ _ (.inl rfl) e⟩
 | xd fs=>obtain ⟨mA,⟨od,es,ep,e,c⟩,r⟩:=x; exact ⟨mA,⟨od,es,ep,k _ _ (.inl rfl) e,c⟩,r⟩
 | rng lo hi=>obtain ⟨t,u,v,e⟩:=x; exact ⟨t,u,v,k _ _ (.inl rfl) e⟩
 | frz ob u ih=>obtain ⟨e,q⟩:=x; exact ⟨k _ _ (.inl rfl) e,ih q⟩
 | tbl ps=>
   have e:h.get? a=some { cls:=.none,data:=.fields ps }:=x
   show h'.get? a=some { cls:=.none,data:=.fields ps }
   exact k a _ (.inl rfl) e
 | met f y=>
   have e:h.get? a=some (Vq (.ref f) (.ref y)):=x
   show h'.get? a=some (Vq (.ref f) (.ref y))
   exact k a _ (.inl rfl) e
 | ext φ=>obtain ⟨p,⟨o,e⟩,st⟩:=x; exact ⟨st _ _ p fun o q=>k _ _ (.inl rfl) q,⟨o,k _ _ (.inl rfl) e⟩,st⟩
theorem eY.lt (x:eY P w H h)(e:H a=some o):a < h.objs.size:=(x a o e).lt
theorem eY.fresh (x:eY P w H h)(e:h.objs.size<=a):H a=none:=by
 cases q:H a with
 | none=>rfl
 | some u=>exact absurd (S8 (x.lt q) e) (UI _)
theorem eY.kept (x:eY P w H h)(k:∀b u,h.get? b=some u->h'.get? b=some u):eY P w H h':=fun a o e=>
 (x a o e).oV (fun b u _ q=>k b u q) (fun _ q=>q) fun _ _ q=>q
theorem eY.laid (x:eY P w H h)(k:∀b u,h.get? b=some u->h'.get? b=some u)(hp:h.objs.size<=a)(new:aU P w (upd H a o) h' a o):eY P w (upd H a o) h':=fun b u e=>by
 have hn:=x.fresh hp
 by_cases hb:b=a
 · subst hb; rw [ae] at e; cases e; exact new
 · rw [aj hb] at e
   exact (x b u e).oV (fun c v _ q=>k c v q) (fun c q=>by rw [aj (ag q hn)]; exact q) fun c xs q=>by rw [aj (ag q hn)]; exact q
end
def Rd (H:Hp)(a:Addr)(u:HO):Prop:=H a=some u\/∃o,H a=some (.frz o u)
theorem Rd.ok {P:Program}{w:World}{H:Hp}{h:Heap}{a:Addr}{u:HO}(r:Rd H a u)(x:eY P w H h):aU P w H h a u:=by
 rcases r with r | ⟨o,r⟩
 · exact x a u r
 · obtain ⟨_,q⟩:=x a _ r
   exact q
def D9:Option HO->Prop
 | some (.lst _)=>True
 | some (.dK _)=>True
 | some (.dT _)=>True
 | some (.set _ _)=>True
 | some (.ins _ _ _)=>True
 | some (.ext _)=>True
 | _=>False
section
variable {P:Program}{w:World}{H:Hp}{h h':Heap}{x e:Addr}{o':HO}
theorem eY.write (ok:eY P w H h)(mu:D9 (H x))(he:e=x\/H e=some (.own x))(k:∀b u,b≠e->h.get? b=some u->h'.get? b=some u)(heo:∃u,h'.get? e=some u)
   (new:aU P w (upd H x o') h' x o'):eY P w (upd H x o') h':=fun b u q=>by
 have nown:∀c y,H c=some (.own y)->c≠x:=fun c y r z=>by subst z; rw [r] at mu; exact mu
 have ntup:∀c xs,H c=some (.tup xs)->c≠x:=fun c xs r z=>by subst z; rw [r] at mu; exact mu
 by_cases hb:b=x
 · subst hb; rw [ae] at q; cases q; exact new
 · rw [aj hb] at q
   by_cases Bd:b=e
   · have q':H b=some (.own x):=by
       rcases he with z | z
       · exact absurd (Bd.trans z) hb
       · rw [Bd]; exact z
     rw [q] at q'; cases q'
     obtain ⟨v,hv⟩:=heo
     exact ⟨v,by rw [Bd]; exact hv⟩
   · refine (ok b u q).oV (fun c v hc r=>k c v ?_ r) (fun c r=>by rw [aj (nown c b r)]; exact r) fun c xs r=>by rw [aj (ntup c xs r)]; exact r
     rcases hc with rfl | hc
     · exact Bd
     · rintro rfl
       rcases he with z | z
       · exact nown c b hc z
       · rw [hc] at z; cases z; exact hb rfl
end
structure Un (fs ex:List Addr)(H H':Hp)(h h':Heap):Prop where
 keep:∀b o,h.get? b=some o->H b=none->b ∉ fs->b ∉ ex->h'.get? b=some o
 slot:∀b o,h.get? b=some o->H b=none->b∈fs->b ∉ ex->∃sl,h'.get? b=some { o with slots:=sl }
 free:∀b o,h.get? b=some o->H b=none->b ∉ ex->H' b=none
 there:∀b o,h.get? b=some o->b ∉ ex->∃o',h'.get? b=some o'
 tups:∀b xs,H b=some (.tup xs)->H' b=some (.tup xs)
 frzs:∀b o u,H b=some (.frz o u)->H' b=some (.frz o u)
 tbls:∀b ps,H b=some (.tbl ps)->∃more,H' b=some (.tbl (ps++more))
section
variable {fs fs' ex RH:List Addr}{H H1 H2:Hp}{h h1 h2 h':Heap}{a x e:Addr}{o:HO}
theorem Un.any (u:Un fs ex H H1 h h1){b:Addr}{ob:Obj}(q:h.get? b=some ob)(n:H b=none)(hx:b ∉ ex):∃sl,h1.get? b=some { ob with slots:=sl }:=by
 by_cases hb:b∈fs
 · exact u.slot b ob q n hb hx
 · exact ⟨ob.slots,u.keep b ob q n hb hx⟩
theorem Un.kept (k:∀b u,h.get? b=some u->h'.get? b=some u):Un fs ex H H h h':=
 ⟨fun b ob q _ _ _=>k b ob q,fun b ob q _ _ _=>⟨ob.slots,k b ob q⟩,fun _ _ _ n _=>n,fun b ob q _=>⟨ob,k b ob q⟩,fun _ _ q=>q,fun _ _ _ q=>q,fun _ ps q=>⟨#[],by rw [q]; simp⟩⟩
theorem Un.refl:Un fs ex H H h h:=Un.kept fun _ _ q=>q
theorem Un.laid (k:∀b u,h.get? b=some u->h'.get? b=some u)(hp:h.objs.size<=a)(hn:H a=none):Un fs ex H (upd H a o) h h' where
 keep:=fun b u q _ _ _=>k b u q
 slot:=fun b u q _ _ _=>⟨u.slots,k b u q⟩
 free:=fun b u q n _=>by rw [aj (Td (S8 (SU q) hp))]; exact n
 there:=fun b u q _=>⟨u,k b u q⟩
 tups:=fun b xs q=>by rw [aj (ag q hn)]; exact q
 frzs:=fun b u xs q=>by rw [aj (ag q hn)]; exact q
 tbls:=fun b ps q=>⟨#[],by rw [aj (ag q hn),q]; simp⟩
theorem Un.write (mu:D9 (H x))(he:e=x\/H e=some (.own x))(k:∀b u,b≠e->h.get? b=some u->h'.get? b=some u)(heo:∃u,h'.get? e=some u):Un fs ex H (upd H x o) h h':=by
 have hx:∀b,H b=none->b≠x:=fun b n z=>by subst z; rw [n] at mu; exact mu
 have hb:∀b,H b=none->b≠e:=fun b n z=>by
   subst z
   rcases he with r | r
   · exact hx b n r
   · rw [n] at r; cases r
 have hm:∀b u,H b=some u->¬ D9 (some u)->b≠x:=fun b u q nm z=>by subst z; rw [q] at mu; exact nm mu
 refine ⟨fun b u q n _ _=>k b u (hb b n) q,fun b u q n _ _=>⟨u.slots,k b u (hb b n) q⟩,fun b u q n _=>by rw [aj (hx b n)]; exact n,fun b u q _=>?_,
   fun b xs q=>by rw [aj (hm b _ q fun z=>z)]; exact q,fun b u xs q=>by rw [aj (hm b _ q fun z=>z)]; exact q,fun b ps q=>⟨#[],by rw [aj (hm b _ q fun z=>z),q]; simp⟩⟩
 by_cases Bd:b=e
 · subst Bd; exact heo
 · exact ⟨u,k b u Bd q⟩
end
def HY (h:Heap)(H:Hp):List Addr:=(S5 h.objs.size).filter fun a=>(H a).isSome
def kT (h:Heap)(H:Hp):Heap:=PySem.W.hideAll h (HY h H)
theorem rn (h:Heap)(H:Hp):(kT h H).objs.size=h.objs.size:=PySem.W.hideAll_size _ _
theorem uL {h:Heap}{H:Hp}{b:Addr}{o:Obj}(e:h.get? b=some o)(n:H b=none):(kT h H).get? b=some o:=
 PySem.W.hideAll_get _ e fun hm=>by
   have q:(H b).isSome=true:=(List.mem_filter.mp hm).2
   rw [n] at q; simp at q
theorem yF {h:Heap}{H:Hp}{b:Addr}{o:Obj}(e:(kT h H).get? b=some o):h.get? b=some o/\H b=none:=by
 have e':h.get? b=some o:=PySem.W.of_hideAll (HY h H) e
 refine ⟨e',?_⟩
 cases q:H b with
 | none=>rfl
 | some x=>
   have hm:b∈HY h H:=List.mem_filter.mpr ⟨List.mem_range.mpr (SU e'),by simp [q]⟩
   have z:(kT h H).get? b=none:=PySem.W.hideAll_none (HY h H) hm
   rw [z] at e; cases e
structure Mod (K:Sw)(mg:Str->Option Value)(base:Heap):Prop where
 kin:K.In base
 glob:base.Ns Uc mg
 blt:∃mb,base.Ns builtinsNs mb/\∀x:Str,x≠"__name__"->mb x=TH x
 nolimit:base.NoLimit
structure Cx where
 prog:Program
 w:World
 K:Sw
 mg:Str->Option Value
 base:Heap
 A:Around
 N:List Str
 s₀:Shared
 H₀:Hp
 env:Env
 outer:List Env
 stack:List Env
 ex:List Addr
 fn:Str->Bool
 calm:Bool
 pn:List (Addr×Obj)
 xe:Value->Shared->Prop
def ub (l:List Env):List Addr:=l.filterMap (·.frame)
abbrev Cx.fs (X:Cx):List Addr:=ub X.outer
def Iu (sc:Scope)(x:Str):Prop:=sc.names.lookup x=some .local\/sc.names.lookup x=some .cell\/sc.names.lookup x=some .free
def Loc (sc:Scope)(x:Str):Prop:=sc.names.lookup x=some .local\/sc.names.lookup x=some .cell
def Look (env:Env)(h:Heap)(m:Str->Option Value)(x:Str)(u:Value):Prop:=
 (env.kindOf x=some .local/\m x=some u)\/((env.kindOf x=some .cell\/env.kindOf x=some .free)/\∃c,env.cells.lookup x=some c/\h.IsCell c (some u))
structure Cx.Ok (X:Cx):Prop where
 mod:Mod X.K X.mg X.base
 kind:X.env.scope.kind=.function
 glob:X.env.globals=Uc
 blt:X.env.builtins=builtinsNs
 above:X.s₀.heap.objs.size<=X.env.locals
 inj:∀x y c,X.env.cells.lookup x=some c->X.env.cells.lookup y=some c->x=y
 has:∀x,(X.env.kindOf x=some .cell\/X.env.kindOf x=some .free)->∃c,X.env.cells.lookup x=some c
 cab:∀x c,X.fn x=true->X.env.cells.lookup x=some c->X.s₀.heap.objs.size<=c
 hd:X.calm=true->X.A.handled=none
 frames:X.A.frames=some X.stack
 stk:X.stack=X.outer\/(X.stack=X.env :: X.outer/\X.env.frame=some X.env.locals)
 exf:∀b∈X.ex,b≠X.env.locals/\∀x c,X.env.cells.lookup x=some c->c≠b
 bs:∀b o,X.base.get? b=some o->X.s₀.heap.get? b=some o/\X.H₀ b=none
 bsz:X.base.objs.size<=X.s₀.heap.objs.size
 noex:∀b o,X.base.get? b=some o->b ∉ X.ex
 exfs:∀b∈X.ex,b ∉ X.fs
 f9:X.s₀.heap.FunFrames X.base X.outer
 frf:∀b∈X.fs,X.H₀ b=none
structure Inv (X:Cx)(pins:List (Addr×Obj))(σ:List (Option V))(H:Hp)(s:Shared):Prop where
 ok:X.Ok
 os:s.os=X.s₀.os
 bare:AllBare s.gens
 base:Un X.fs X.ex X.H₀ H X.s₀.heap s.heap
 loc:∃m,s.heap.Ns X.env.locals m/\∀(i:Nat) (x:Str) (v:V),X.N[i]? = some x->σ[i]? = some (some v)->Iu X.env.scope x->∃u,RelV v u/\Look X.env s.heap m x u
 cell:∀x c,X.env.cells.lookup x=some c->∃v,s.heap.IsCell c v
 free:H X.env.locals=none
 freeC:∀x c,X.env.cells.lookup x=some c->H c=none
 pin:∀p∈X.pn++pins,s.heap.get? p.1=some p.2/\H p.1=none/\p.1≠X.env.locals/\p.1 ∉ X.fs/\∀v,p.2.data≠.cell v
 hok:eY X.prog X.w H s.heap
 len:σ.length=X.N.length
section
variable {X:Cx}{pins:List (Addr×Obj)}{σ:List (Option V)}{H H':Hp}{s:Shared}{h':Heap}
theorem Cx.Ok.K7 (ok:X.Ok){b:Addr}{o:Obj}(e:X.base.get? b=some o):b ∉ X.fs:=fun hb=>by
 have:=(ok.f9.mem hb).1
 rw [e] at this; cases this
theorem Inv.bs (I:Inv X pins σ H s):∀b o,X.base.get? b=some o->s.heap.get? b=some o/\H b=none:=fun b o e=>
 ⟨I.base.keep b o (I.ok.bs b o e).1 (I.ok.bs b o e).2 (I.ok.K7 e) (I.ok.noex b o e),I.base.free b o (I.ok.bs b o e).1 (I.ok.bs b o e).2 (I.ok.noex b o e)⟩
theorem Inv.bk (I:Inv X pins σ H s):∀b o,X.base.get? b=some o->s.heap.get? b=some o:=fun b o e=>(I.bs b o e).1
theorem Inv.mod (I:Inv X pins σ H s):Mod X.K X.mg X.base:=I.ok.mod
theorem Inv.ig (I:Inv X pins σ H s):X.K.In s.heap:=I.ok.mod.kin.keeps I.bk
theorem Inv.lt (I:Inv X pins σ H s):X.env.locals < s.heap.objs.size:=let ⟨_,hn,_⟩:=I.loc; hn.lt
theorem Inv.sz (I:Inv X pins σ H s):X.s₀.heap.objs.size<=s.heap.objs.size:=S3 I.ok.above (TB I.lt)
theorem Inv.K8 (I:Inv X pins σ H s){a:Addr}(h:s.heap.objs.size<=a):a ∉ X.fs:=fun hb=>by
 obtain ⟨_,o,ho,_⟩:=I.ok.f9.mem hb
 exact absurd (S8 (SU ho) (S3 I.sz h)) (UI _)
theorem Inv.tQ (I:Inv X pins σ H s):∀x c,X.env.cells.lookup x=some c->c≠X.env.locals:=fun x c e z=>by
 obtain ⟨v,o,ho,hd⟩:=I.cell x c e
 obtain ⟨m,⟨o',es,ep,Bp,rj,_⟩,_⟩:=I.loc
 rw [z,Bp] at ho; cases ho; rw [rj] at hd; cases hd
theorem Inv.f9 (I:Inv X pins σ H s):s.heap.FunFrames X.base X.outer:=by
 have all:∀(l:List Env),(∀b∈ub l,b∈X.fs)->X.s₀.heap.FunFrames X.base l->s.heap.FunFrames X.base l:=by
   intro l
   induction l with
   | nil=>intro _ _; trivial
   | cons env r ih=>
     intro hs hl
     obtain ⟨hk,⟨L,o,hf,hn,ho,hd⟩,hr⟩:=hl
     have hL:L∈X.fs:=hs L (by unfold ub; rw [T2,hf]; exact TV)
     obtain ⟨sl,e⟩:=I.base.slot L o ho (I.ok.frf L hL) hL fun z=>I.ok.exfs L z hL
     exact ⟨hk,⟨L,_,hf,hn,e,hd⟩,ih (fun b hb=>hs b (by unfold ub; rw [T2,hf]; exact TY _ hb)) hr⟩
 exact all X.outer (fun _ hb=>hb) I.ok.f9
theorem Inv.stack (I:Inv X pins σ H s):s.heap.FunFrames X.base X.stack:=by
 rcases I.ok.stk with e | ⟨e,hf⟩
 · rw [e]; exact I.f9
 · rw [e]
   obtain ⟨m,hn,_⟩:=I.loc
   refine .cons (by rw [I.ok.kind]; decide) hf hn ?_ I.f9
   exact Heap.get?_none_of_le (S3 I.ok.bsz I.ok.above)
theorem Inv.jo (I:Inv X pins σ H s):∀b∈ub X.stack,b∈X.env.locals :: X.fs:=fun b hb=>by
 rcases I.ok.stk with e | ⟨e,hf⟩
 · rw [e] at hb; exact TY _ hb
 · rw [e] at hb
   unfold ub at hb
   rw [T2,hf] at hb
   exact hb
theorem Inv.qz (I:Inv X pins σ H s):∀b∈ub X.stack,H b=none:=fun b hb=>by
 rcases List.mem_cons.mp (I.jo b hb) with e | hb
 · rw [e]; exact I.free
 · obtain ⟨_,o,ho,_⟩:=I.ok.f9.mem hb
   exact I.base.free b o ho (I.ok.frf b hb) fun z=>I.ok.exfs b z hb
theorem Inv.step {g':Array GenState}{t':Nat}{d':Drawn}{ch:List Addr}(I:Inv X pins σ H s)
   (hch:∀b∈ch,(b∈X.ex\/X.s₀.heap.objs.size<=b)/\b≠X.env.locals/\(∀x c,X.env.cells.lookup x=some c->c≠b)/\∀p∈X.pn++pins,p.1≠b)
   (keep:∀b o,b≠X.env.locals->b ∉ X.fs->b ∉ ch->s.heap.get? b=some o->H b=none->h'.get? b=some o)
   (slot:∀b o,b≠X.env.locals->b∈X.fs->b ∉ ch->s.heap.get? b=some o->H b=none->∃sl,h'.get? b=some { o with slots:=sl }) (free:∀b o,b ∉ ch->s.heap.get? b=some o->H b=none->H' b=none)
   (there:∀b o,b ∉ ch->s.heap.get? b=some o->∃o',h'.get? b=some o')
   (tups:∀b xs,H b=some (.tup xs)->H' b=some (.tup xs)) (frzs:∀b o u,H b=some (.frz o u)->H' b=some (.frz o u)) (tbls:∀b ps,H b=some (.tbl ps)->∃more,H' b=some (.tbl (ps++more)))
   (ns:∀m,s.heap.Ns X.env.locals m->h'.Ns X.env.locals m) (hok:eY X.prog X.w H' h') (hg:AllBare g') :
   Inv X pins σ H' { s with heap:=h',gens:=g',drawn:=d',toks:=t' }:=by
 have neL:∀b o,X.s₀.heap.get? b=some o->b≠X.env.locals:=fun b o e=>Td (S8 (SU e) I.ok.above)
 have neC:∀b o,X.s₀.heap.get? b=some o->b ∉ X.ex->b ∉ ch:=fun b o e hx hb=>by
   rcases (hch b hb).1 with z | z
   · exact hx z
   · exact absurd (S8 (SU e) z) (UI _)
 have cellK:∀x c,X.env.cells.lookup x=some c->∀v,s.heap.IsCell c v->h'.IsCell c v:=fun x c e v ⟨o,ho,hd⟩=>by
   have vp:c ∉ ch:=fun z=>(hch c z).2.2.1 x c e rfl
   by_cases hc:c∈X.fs
   · obtain ⟨sl,q⟩:=slot c o (I.tQ x c e) hc vp ho (I.freeC x c e)
     exact ⟨_,q,hd⟩
   · exact ⟨o,keep c o (I.tQ x c e) hc vp ho (I.freeC x c e),hd⟩
 refine ⟨I.ok,I.os,hg,⟨fun b o e n hb hx=>?_,fun b o e n hb hx=>?_,fun b o e n hx=>?_,fun b o e hx=>?_,fun b xs e=>tups b xs (I.base.tups b xs e),fun b o xs e=>frzs b o xs (I.base.frzs b o xs e),fun b ps e=>?_⟩,?_,fun x c e=>?_,?_,fun x c e=>?_,fun p hp=>?_,hok,I.len⟩
 · exact keep b o (neL b o e) hb (neC b o e hx) (I.base.keep b o e n hb hx) (I.base.free b o e n hx)
 · obtain ⟨sl,e1⟩:=I.base.slot b o e n hb hx
   obtain ⟨Q9,e2⟩:=slot b _ (neL b o e) hb (neC b o e hx) e1 (I.base.free b o e n hx)
   exact ⟨Q9,e2⟩
 · obtain ⟨o',e1⟩:=I.base.there b o e hx
   exact free b o' (neC b o e hx) e1 (I.base.free b o e n hx)
 · obtain ⟨o',e1⟩:=I.base.there b o e hx
   exact there b o' (neC b o e hx) e1
 · obtain ⟨m1,e1⟩:=I.base.tbls b ps e
   obtain ⟨m2,e2⟩:=tbls b _ e1
   exact ⟨m1++m2,by rw [e2,Array.append_assoc]⟩
 · obtain ⟨m,hn,hl⟩:=I.loc
   refine ⟨m,ns m hn,fun i x v e1 e2 e3=>?_⟩
   obtain ⟨u,r,l⟩:=hl i x v e1 e2 e3
   refine ⟨u,r,?_⟩
   rcases l with l | ⟨k,c,e,z⟩
   · exact .inl l
   · exact .inr ⟨k,c,e,cellK x c e _ z⟩
 · obtain ⟨v,z⟩:=I.cell x c e
   exact ⟨v,cellK x c e v z⟩
 · obtain ⟨m,⟨o,_,_,ho,_⟩,_⟩:=I.loc
   exact free _ o (fun z=>(hch _ z).2.1 rfl) ho I.free
 · obtain ⟨v,o,ho,hd⟩:=I.cell x c e
   exact free c o (fun z=>(hch c z).2.2.1 x c e rfl) ho (I.freeC x c e)
 · obtain ⟨e,n,ne,nf,d⟩:=I.pin p hp
   have vp:p.1 ∉ ch:=fun z=>(hch p.1 z).2.2.2 p hp rfl
   exact ⟨keep p.1 p.2 ne nf vp e n,free p.1 p.2 vp e n,ne,nf,d⟩
theorem Inv.un {t':Nat}(I:Inv X pins σ H s)(u:Un X.fs [] H H' s.heap h')(hok:eY X.prog X.w H' h'):Inv X pins σ H' { s with heap:=h',toks:=t' }:=by
 obtain ⟨m,⟨o,es,ep,ho,r⟩,_⟩:=id I.loc
 obtain ⟨sl,hL⟩:=u.any ho I.free (by simp)
 exact I.step (g':=s.gens) (d':=s.drawn) (ch:=[]) (fun _ z=>nomatch z) (fun b o _ hb _ e n=>u.keep b o e n hb (by simp)) (fun b o _ hb _ e n=>u.slot b o e n hb (by simp)) (fun b o _ e n=>u.free b o e n (by simp)) (fun b o _ e=>u.there b o e (by simp)) u.tups u.frzs u.tbls (fun m' hm=>by
   obtain ⟨o',IH,IG,Bp,r'⟩:=hm
   rw [ho] at Bp; cases Bp
   exact ⟨_,IH,IG,hL,r'⟩) hok I.bare
theorem Inv.call {g':Array GenState}{t':Nat}{d':Drawn}{ch:List Addr}(I:Inv X pins σ H s)(u:Un (ub X.stack) ch H H' s.heap h')(hok:eY X.prog X.w H' h')(hg:AllBare g')
   (hch:∀b∈ch,(b∈X.ex\/X.s₀.heap.objs.size<=b)/\b≠X.env.locals/\(∀x c,X.env.cells.lookup x=some c->c≠b)/\∀p∈X.pn++pins,p.1≠b) :
   Inv X pins σ H' { s with heap:=h',gens:=g',drawn:=d',toks:=t' }:=by
 obtain ⟨m,⟨o,es,ep,ho,r⟩,_⟩:=id I.loc
 obtain ⟨sl,hL⟩:=u.any ho I.free fun z=>(hch _ z).2.1 rfl
 exact I.step (ch:=ch) hch (fun b o hL hb hc e n=>u.keep b o e n (fun z=>(List.mem_cons.mp (I.jo b z)).elim hL hb) hc) (fun b o _ _ hc e n=>u.any e n hc) (fun b o hc e n=>u.free b o e n hc) (fun b o hc e=>u.there b o e hc) u.tups u.frzs u.tbls (fun m' hm=>by
   obtain ⟨o',IH,IG,Bp,r'⟩:=hm
   rw [ho] at Bp; cases Bp
   exact ⟨_,IH,IG,hL,r'⟩) hok hg
theorem Inv.turned {t':Nat}{it:Addr}(I:Inv X pins σ H s)(k:∀b o,b≠it->s.heap.get? b=some o->h'.get? b=some o)(hn:H it=none)(hL:it≠X.env.locals)
   (h1:it∈X.ex\/X.s₀.heap.objs.size<=it) (h2:∀x c,X.env.cells.lookup x=some c->c≠it) (h3:∀p∈X.pn++pins,p.1≠it):Inv X pins σ H { s with heap:=h',toks:=t' }:=by
 have M0:∀b u,H b=some u->b≠it:=fun b u e z=>by rw [z,hn] at e; cases e
 refine I.step (g':=s.gens) (d':=s.drawn) (ch:=[it]) (fun b hb=>?_) (fun b o _ _ hc e _=>k b o (fun z=>hc (by simp [z])) e) (fun b o _ _ hc e _=>⟨o.slots,k b o (fun z=>hc (by simp [z])) e⟩) (fun _ _ _ _ n=>n)
   (fun b o hc e=>⟨o,k b o (fun z=>hc (by simp [z])) e⟩) (fun _ _ e=>e) (fun _ _ _ e=>e) (fun b ps e=>⟨#[],by rw [e]; simp⟩) (fun m hm=>?_) (fun b u e=>?_) I.bare
 · have e:b=it:=by simpa using hb
   subst e
   exact ⟨h1,hL,h2,h3⟩
 · obtain ⟨o,es,ep,ho,r⟩:=hm
   exact ⟨o,es,ep,k _ o (Ne.symm hL) ho,r⟩
 · refine (I.hok b u e).oV (fun c v hc q=>k c v ?_ q) (fun _ q=>q) fun _ _ q=>q
   rcases hc with z | z
   · rw [z]; exact M0 b u e
   · exact M0 c _ z
theorem Inv.tok (I:Inv X pins σ H s)(t:Nat):Inv X pins σ H { s with toks:=t }:=I.un (h':=s.heap) (t':=t) Un.refl I.hok
theorem Inv.kept {t':Nat}(I:Inv X pins σ H s)(k:∀b u,s.heap.get? b=some u->h'.get? b=some u):Inv X pins σ H { s with heap:=h',toks:=t' }:=I.un (Un.kept k) (I.hok.kept k)
theorem Inv.laid {a:Addr}{o:HO}{t':Nat}(I:Inv X pins σ H s)(k:∀b u,s.heap.get? b=some u->h'.get? b=some u)(hp:s.heap.objs.size<=a)(new:aU X.prog X.w (upd H a o) h' a o) :
   Inv X pins σ (upd H a o) { s with heap:=h',toks:=t' }:=I.un (Un.laid k hp (I.hok.fresh hp)) (I.hok.laid k hp new)
theorem Inv.write {x e:Addr}{o:HO}{t':Nat}(I:Inv X pins σ H s)(mu:D9 (H x))(he:e=x\/H e=some (.own x))(k:∀b u,b≠e->s.heap.get? b=some u->h'.get? b=some u)(heo:∃u,h'.get? e=some u)
   (new:aU X.prog X.w (upd H x o) h' x o):Inv X pins σ (upd H x o) { s with heap:=h',toks:=t' }:=I.un (Un.write mu he k heo) (I.hok.write mu he k heo new)
theorem Inv.weak {σ':List (Option V)}(I:Inv X pins σ H s)(hl:σ'.length=σ.length)(w:∀(i:Nat) v,σ'[i]? = some (some v)->σ[i]? = some (some v)):Inv X pins σ' H s:=
 ⟨I.ok,I.os,I.bare,I.base,let ⟨m,hn,PZ⟩:=I.loc; ⟨m,hn,fun i x v e1 e2 e3=>PZ i x v e1 (w i v e2) e3⟩,I.cell,I.free,I.freeC,I.pin,I.hok,hl.trans I.len⟩
theorem Inv.p8 {Ag:List (Addr×Obj)}(I:Inv X pins σ H s)(h:∀p∈Ag,s.heap.get? p.1=some p.2/\H p.1=none/\p.1≠X.env.locals/\p.1 ∉ X.fs/\∀v,p.2.data≠.cell v):Inv X Ag σ H s:=
 ⟨I.ok,I.os,I.bare,I.base,I.loc,I.cell,I.free,I.freeC,fun p hp=>(List.mem_append.mp hp).elim (fun z=>I.pin p (Wy _ z)) (h p),I.hok,I.len⟩
theorem mQ {N:List Str}(hN:N.Nodup){i j:Nat}{x:Str}(a:N[i]? = some x)(b:N[j]? = some x):i=j:=by
 obtain ⟨h1,e1⟩:=List.getElem?_eq_some_iff.mp a
 obtain ⟨h2,e2⟩:=List.getElem?_eq_some_iff.mp b
 exact (List.getElem_inj hN).mp (e1.trans e2.symm)
theorem gL {M:Model}{A:Around}{E:Value->Shared->Prop}{i:Nat}{x:Str}{v:V}{u:Value}{Q:Unit->Shared->Prop}(I:Inv X pins σ H s)(hN:X.N.Nodup)(hi:X.N[i]? = some x)(hx:Loc X.env.scope x)(r:RelV v u)
   (h:∀s',Inv X pins (σ.set i (some v)) H s'->(∃a,Um a s.heap s'.heap/\(a=X.env.locals\/X.env.cells.lookup x=some a))->Q () s') (hf:X.fn x=true\/X.env.scope.names.lookup x=some .local:=by first | exact .inl rfl | exact .inr rfl | assumption):wpAny M A (storeName X.env x u) Q E s:=by
 obtain ⟨m,hn,hl⟩:=id I.loc
 have Jo:(X.env.scope.kind == .class || (X.env.scope.kind == .module && X.env.locals != X.env.globals))=false:=by rw [I.ok.kind]; rfl
 have hiσ:i < σ.length:=by rw [I.len]; exact (List.getElem?_eq_some_iff.mp hi).1
 have tQ:=I.tQ
 have tracked:∀{a:Addr} {h':Heap},(∃o,s.heap.get? a=some o/\H a=none)->Um a s.heap h'->eY X.prog X.w H h':=fun {a h'} ha hs b ob e=>by
   obtain ⟨_,_,zU⟩:=ha
   refine (I.hok b ob e).oV (fun c w' hc q=>(hs.2 c ?_).trans q) (fun _ q=>q) fun _ _ q=>q
   rintro rfl
   rcases hc with rfl | hc
   · rw [zU] at e; cases e
   · rw [zU] at hc; cases hc
 rcases hx with hk | hk
 · refine wpAny_storeName_local hk hn (fun h' P6 hs=>?_) Jo
   obtain ⟨oL,_,_,Qf,_⟩:=id hn
   refine h _ ⟨I.ok,I.os,I.bare,⟨fun b o e n hb hx=>?_,fun b o e n hb hx=>?_,I.base.free,fun b o e hx=>?_,I.base.tups,I.base.frzs,I.base.tbls⟩,⟨_,P6,fun j y v' e1 e2 e3=>?_⟩,fun y c e=>?_,I.free,I.freeC,fun p hp=>?_,tracked ⟨oL,Qf,I.free⟩ hs,by simpa using I.len⟩ ⟨_,hs,.inl rfl⟩
   · exact (hs.2 b (Td (S8 (SU e) I.ok.above))).trans (I.base.keep b o e n hb hx)
   · obtain ⟨sl,e1⟩:=I.base.slot b o e n hb hx
     exact ⟨sl,(hs.2 b (Td (S8 (SU e) I.ok.above))).trans e1⟩
   · obtain ⟨o',e1⟩:=I.base.there b o e hx
     exact ⟨o',(hs.2 b (Td (S8 (SU e) I.ok.above))).trans e1⟩
   · by_cases hj:j=i
     · subst hj
       rw [hi] at e1; cases e1
       rw [We hiσ] at e2
       cases e2
       exact ⟨u,r,.inl ⟨hk,by simp⟩⟩
     · rw [Wz (Ne.symm hj)] at e2
       obtain ⟨u',r',q⟩:=hl j y v' e1 e2 e3
       refine ⟨u',r',?_⟩
       rcases q with ⟨k,e⟩ | ⟨k,c,e,z⟩
       · refine .inl ⟨k,?_⟩
         have:y≠x:=fun e=>hj (mQ hN e1 (e ▸ hi))
         simp [this,e]
       · exact .inr ⟨k,c,e,z.sameBut hs (tQ y c e)⟩
   · obtain ⟨w',z⟩:=I.cell y c e
     exact ⟨w',z.sameBut hs (tQ y c e)⟩
   · obtain ⟨e,n,ne,nf,d⟩:=I.pin p hp
     exact ⟨(hs.2 p.1 ne).trans e,n,ne,nf,d⟩
 · have E3:X.fn x=true:=by
     rcases hf with z | z
     · exact z
     · rw [z] at hk; cases hk
   obtain ⟨c,hc⟩:=I.ok.has x (.inl hk)
   obtain ⟨w',z⟩:=I.cell x c hc
   refine wpAny_storeName_cell I.ok.kind hk hc z (fun h' eT hs=>?_)
   obtain ⟨oc,DR,J4⟩:=id z
   refine h { s with heap:=h' } ⟨I.ok,I.os,I.bare,⟨fun b o e n hb hx=>?_,fun b o e n hb hx=>?_,I.base.free,fun b o e hx=>?_,I.base.tups,I.base.frzs,I.base.tbls⟩,⟨m,hn.sameBut hs (Ne.symm (tQ x c hc)),fun j y v' e1 e2 e3=>?_⟩,fun y c' e=>?_,I.free,I.freeC,fun p hp=>?_,tracked ⟨oc,DR,I.freeC x c hc⟩ hs,by simpa using I.len⟩ ⟨c,hs,.inr hc⟩
   · exact (hs.2 b (Td (S8 (SU e) (I.ok.cab x c E3 hc)))).trans (I.base.keep b o e n hb hx)
   · obtain ⟨sl,e1⟩:=I.base.slot b o e n hb hx
     exact ⟨sl,(hs.2 b (Td (S8 (SU e) (I.ok.cab x c E3 hc)))).trans e1⟩
   · obtain ⟨o',e1⟩:=I.base.there b o e hx
     exact ⟨o',(hs.2 b (Td (S8 (SU e) (I.ok.cab x c E3 hc)))).trans e1⟩
   · by_cases hj:j=i
     · subst hj
       rw [hi] at e1; cases e1
       rw [We hiσ] at e2
       cases e2
       exact ⟨u,r,.inr ⟨.inl hk,c,hc,eT⟩⟩
     · rw [Wz (Ne.symm hj)] at e2
       obtain ⟨u',r',q⟩:=hl j y v' e1 e2 e3
       refine ⟨u',r',?_⟩
       rcases q with q | ⟨k,c',e,z'⟩
       · exact .inl q
       · refine .inr ⟨k,c',e,z'.sameBut hs ?_⟩
         rintro rfl
         exact hj (mQ hN e1 (I.ok.inj _ _ _ e hc ▸ hi))
   · by_cases Mt:c'=c
     · subst Mt; exact ⟨_,eT⟩
     · obtain ⟨w2,z2⟩:=I.cell y c' e
       exact ⟨w2,z2.sameBut hs Mt⟩
   · obtain ⟨e,n,ne,nf,d⟩:=I.pin p hp
     refine ⟨(hs.2 p.1 ?_).trans e,n,ne,nf,d⟩
     intro q
     rw [q,DR] at e
     have q':oc=p.2:=S6 e
     exact d w' (by rw [← q']; exact J4)
theorem fU {M:Model}{A:Around}{E:Value->Shared->Prop}{i:Nat}{x:Str}{v:V}{u:Value}{Q:Unit->Shared->Prop}(I:Inv X pins σ H s)(hN:X.N.Nodup)(hi:X.N[i]? = some x)(hx:Loc X.env.scope x)(r:RelV v u)
   (h:∀s',Inv X pins (σ.set i (some v)) H s'->Q () s') (hf:X.fn x=true\/X.env.scope.names.lookup x=some .local:=by first | exact .inl rfl | exact .inr rfl | assumption):wpAny M A (storeName X.env x u) Q E s:=
 gL I hN hi hx r (fun s' I' _=>h s' I') hf
theorem Inv.Ej {s':Shared}{ch:List Addr}(I:Inv X pins σ H s)(ho:s'.os=s.os)(u:Un (ub X.stack) ch H H' s.heap s'.heap)(hok:eY X.prog X.w H' s'.heap)(hg:AllBare s'.gens)
   (hch:∀b∈ch,(b∈X.ex\/X.s₀.heap.objs.size<=b)/\b≠X.env.locals/\(∀x c,X.env.cells.lookup x=some c->c≠b)/\∀p∈X.pn++pins,p.1≠b):Inv X pins σ H' s':=by
 obtain ⟨h',g',d',t',o'⟩:=s'
 have e:o'=s.os:=ho
 subst e
 exact I.call (g':=g') (t':=t') (d':=d') u hok hg hch
end
abbrev XK:=Value->Option Addr->Hp->Prop
abbrev St:=List (Option V)
abbrev VK:=V->Hp->Prop
abbrev TE:=St->Hp->VK->Prop
abbrev TT:=St->Hp->(Bool->Hp->Prop)->Prop
abbrev TA:=St->Hp->(List V->Hp->Prop)->Prop
structure Ends where
 nx:St->Hp->Prop
 rt:VK
 bk:St->Hp->Prop:=fun _ _=>False
 ct:St->Hp->Prop:=fun _ _=>False
abbrev TS:=Ends->St->Hp->Prop
def EP (X:Cx)(pins:List (Addr×Obj))(σ:St)(Q:VK)(u:Value)(s':Shared):Prop:=∃v H',Inv X pins σ H' s'/\RelV v u/\Q v H'
def TP (X:Cx)(pins:List (Addr×Obj))(σ:St)(Q:Bool->Hp->Prop)(b:Bool)(s':Shared):Prop:=∃H',Inv X pins σ H' s'/\Q b H'
def AP (X:Cx)(pins:List (Addr×Obj))(σ:St)(Q:List V->Hp->Prop)(us:List Value)(s':Shared):Prop:=∃vs H',Inv X pins σ H' s'/\Vals vs us/\Q vs H'
def SP (X:Cx)(pins:List (Addr×Obj))(D:Ends)(f:Flow)(s':Shared):Prop:=
 match f with
 | .next=>∃σ' H',Inv X pins σ' H' s'/\D.nx σ' H'
 | .brk=>∃σ' H',Inv X pins σ' H' s'/\D.bk σ' H'
 | .cont=>∃σ' H',Inv X pins σ' H' s'/\D.ct σ' H'
 | .ret u=>∃v σ' H',Inv X pins σ' H' s'/\RelV v u/\D.rt v H'
def PE (X:Cx)(e:Expr)(t:TE):Prop:=
 ∀(pins:List (Addr×Obj)) (s:Shared) (σ:St) (H:Hp) (Q:VK),Inv X pins σ H s->t σ H Q->wpAny (model X.prog X.w) X.A (eval e X.env) (EP X pins σ Q) X.xe s
def PT (X:Cx)(e:Expr)(t:TT):Prop:=
 ∀(pins:List (Addr×Obj)) (s:Shared) (σ:St) (H:Hp) (Q:Bool->Hp->Prop),Inv X pins σ H s->t σ H Q->wpAny (model X.prog X.w) X.A (isTrue e X.env (eval e X.env)) (TP X pins σ Q) X.xe s
def PW (X:Cx)(e:Expr)(t:TT):Prop:=
 ∀(whole:Sem Value) (pins:List (Addr×Obj)) (s:Shared) (σ:St) (H:Hp) (Q:Bool->Hp->Prop),Inv X pins σ H s->t σ H Q->wpAny (model X.prog X.w) X.A (isTrue e X.env whole) (TP X pins σ Q) X.xe s
theorem PW.pt {X:Cx}{e:Expr}{t:TT}(h:PW X e t):PT X e t:=h _
def PA (X:Cx)(es:List Expr)(t:TA):Prop:=
 ∀(pos:Pos) (pins:List (Addr×Obj)) (s:Shared) (σ:St) (H:Hp) (Q:List V->Hp->Prop),Inv X pins σ H s->t σ H Q->wpAny (model X.prog X.w) X.A (spliced (backTo pos (starEach es X.env))) (AP X pins σ Q) X.xe s
def PS (X:Cx)(st:Stmt)(t:TS):Prop:=
 ∀(pins:List (Addr×Obj)) (s:Shared) (σ:St) (H:Hp) (D:Ends),Inv X pins σ H s->t D σ H->wpAny (model X.prog X.w) X.A (exec st X.env) (SP X pins D) X.xe s
def nr (X:Cx)(st:List Stmt)(t:TS):Prop:=
 ∀(pins:List (Addr×Obj)) (s:Shared) (σ:St) (H:Hp) (D:Ends),Inv X pins σ H s->t D σ H->wpAny (model X.prog X.w) X.A (execs st X.env) (SP X pins D) X.xe s
theorem bf {α:Type}{t:Sem α}{Q Q':α->Shared->Prop}{M:Model}{A:Around}{E:Value->Shared->Prop}{s:Shared}(h:wpAny M A t Q E s)(hQ:∀a s,Q a s->Q' a s):wpAny M A t Q' E s:=wpAny_mono h hQ fun _ _ x=>x
section
variable {X:Cx}
def zC (i:Nat):TE:=fun σ H Q=>∃v,σ[i]? = some (some v)/\Q v H
def tC (v:V):TE:=fun _ H Q=>Q v H
theorem CM {i:Nat}{x:Str}{pos:Pos}(hN:X.N[i]? = some x)(hv:Iu X.env.scope x)(hd:(x == ("__debug__":Str))=false:=by decide)(hcd:(x == ("__classdict__":Str))=false:=by decide):PE X (.Name x pos) (zC i):=by
 intro pins s σ H Q I h
 obtain ⟨v,e,h⟩:=h
 obtain ⟨m,hn,hl⟩:=I.loc
 obtain ⟨u,r,l⟩:=hl i x v hN e hv
 have fin:EP X pins σ Q u s:=⟨v,H,I,r,h⟩
 rcases l with ⟨hk,hm⟩ | ⟨hk,c,hc,zS⟩
 · exact wpAny_Name (wpAny_loadName_local I.ok.kind hk hn hm fin) hd
 · rcases hk with hk | hk
   · exact wpAny_Name (wpAny_loadName_cell I.ok.kind hk hc zS fin) hd
   · exact wpAny_Name (wpAny_loadName_free I.ok.kind hk hc zS fin hcd) hd
theorem CF {i j pos}:PE X (.Constant (.int i) j pos) (tC (.int i)):=fun _ _ _ H _ I h=>wpAny_Constant_int ⟨.int i,H,I.tok _,⟨_,rfl⟩,h⟩
theorem F6 {b j pos}:PE X (.Constant (.bool b) j pos) (tC (.bl b)):=fun _ _ _ H _ I h=>Constant_bool ⟨.bl b,H,I,rfl,h⟩
theorem CK {x j pos}:PE X (.Constant (.str x) j pos) (tC (.str x)):=fun _ _ _ H _ I h=>Calls.Constant_str ⟨.str x,H,I.tok _,⟨_,rfl⟩,h⟩
def Gl (X:Cx)(x:Str):Prop:=X.env.kindOf x=some .globalImplicit
theorem pS {E:Value->Shared->Prop}{pins:List (Addr×Obj)}{s:Shared}{σ:St}{H:Hp}{x:Str}{u:Value}{pos:Pos}{Q:Value->Shared->Prop}(I:Inv X pins σ H s)(hg:Gl X x)(hm:X.mg x=some u)(h:Q u s)
   (hd:(x == ("__debug__":Str))=false:=by decide):wpAny (model X.prog X.w) X.A (eval (.Name x pos) X.env) Q E s:=
 VT I.ok.kind hg (Calls.loadGlobal_global (by rw [I.ok.glob]; exact I.mod.glob.keeps I.bk) hm h) hd
theorem df {E:Value->Shared->Prop}{pins:List (Addr×Obj)}{s:Shared}{σ:St}{H:Hp}{x:Str}{u:Value}{pos:Pos}{Q:Value->Shared->Prop}(I:Inv X pins σ H s)(hg:Gl X x)(hm:X.mg x=none)(hv:TH x=some u)(h:Q u s)
   (hn:x≠"__name__":=by decide) (hd:(x == ("__debug__":Str))=false:=by decide):wpAny (model X.prog X.w) X.A (eval (.Name x pos) X.env) Q E s:=by
 obtain ⟨mb,h1,h2⟩:=I.mod.blt
 exact VT I.ok.kind hg (Calls.loadGlobal_builtin (by rw [I.ok.glob]; exact I.mod.glob.keeps I.bk) hm (by rw [I.ok.blt]; exact h1.keeps I.bk) ((h2 x hn).trans hv) h) hd
theorem yW {x:Str}{v:V}{u:Value}{pos:Pos}(hg:Gl X x)(hm:X.mg x=none)(hv:TH x=some u)(r:RelV v u)(hn:x≠"__name__":=by decide)(hd:(x == ("__debug__":Str))=false:=by decide):PE X (.Name x pos) (tC v):=
 fun _ _ _ H _ I h=>df I hg hm hv ⟨v,H,I,r,h⟩ hn hd
variable {a b:Expr}{ta tb:TE}{pos:Pos}
def tB (t:TE):TT:=fun σ H Q=>t σ H fun x H1=>∃c,x=.bl c/\Q c H1
theorem C9 {e:Expr}{t:TE}(h:PE X e t)(he:∀whole,isTrue e X.env whole=(do let v ← whole; standAt e.pos; holding [v] (truthy v)):=by intro _; rfl):PT X e (tB t):=by
 intro pins s σ H Q I hw
 refine isTrue_plain (bf (h pins s σ H _ I hw) fun v s1 ⟨x,H1,I1,r1,q1⟩=>?_) (he _)
 obtain ⟨d,rfl,q⟩:=q1
 cases r1
 exact wpAny_truthy_bool ⟨H1,I1,q⟩
variable {tA HX:TT}{rest:List Expr}
def GG (t u:TT):TT:=fun σ H Q=>t σ H fun c H1=>if c=true then u σ H1 Q else Q false H1
def NB (t u:TT):TT:=fun σ H Q=>t σ H fun c H1=>if c=true then Q true H1 else u σ H1 Q
def GK (t:TT):TT:=fun σ H Q=>t σ H fun c H1=>Q (!c) H1
theorem zl (ha:PT X a tA):PW X (.BoolOp .And [a] pos) tA:=by
 intro wh pins s σ H Q I h
 refine isTrue_and (bf (ha pins s σ H Q I h) fun c s1 e=>?_)
 cases c with
 | true=>exact isTrue_and_nil e
 | false=>exact e
theorem De (ha:PT X a tA):PW X (.BoolOp .Or [a] pos) tA:=by
 intro wh pins s σ H Q I h
 refine isTrue_or (bf (ha pins s σ H Q I h) fun c s1 e=>?_)
 cases c with
 | false=>exact isTrue_or_nil e
 | true=>exact e
theorem Dd (ha:PT X a tA)(hb:PW X (.BoolOp .And (b :: rest) pos) HX):PW X (.BoolOp .And (a :: b :: rest) pos) (GG tA HX):=by
 intro wh pins s σ H Q I h
 refine isTrue_and (bf (ha pins s σ H _ I h) fun c s1 ⟨H1,I1,q1⟩=>?_)
 cases c with
 | true=>exact hb wh pins s1 σ H1 Q I1 q1
 | false=>exact ⟨H1,I1,q1⟩
theorem Gh (ha:PT X a tA)(hb:PW X (.BoolOp .Or (b :: rest) pos) HX):PW X (.BoolOp .Or (a :: b :: rest) pos) (NB tA HX):=by
 intro wh pins s σ H Q I h
 refine isTrue_or (bf (ha pins s σ H _ I h) fun c s1 ⟨H1,I1,q1⟩=>?_)
 cases c with
 | true=>exact ⟨H1,I1,q1⟩
 | false=>exact hb wh pins s1 σ H1 Q I1 q1
theorem C8 (ha:PT X a tA):PT X (.UnaryOp .Not a pos) (GK tA):=by
 intro pins s σ H Q I h
 exact isTrue_not (ha pins s σ H (fun c H1=>Q (!c) H1) I h)
def As (ta tb:TE):TE:=fun σ H Q=>ta σ H fun x H1=>∃c,x=.bl c/\if c=true then tb σ H1 Q else Q (.bl false) H1
def GL (ta tb:TE):TE:=fun σ H Q=>ta σ H fun x H1=>∃c,x=.bl c/\if c=true then Q (.bl true) H1 else tb σ H1 Q
def AB (ta:TE):TE:=fun σ H Q=>ta σ H fun x H1=>∃c,x=.bl c/\Q (.bl (!c)) H1
theorem CJ {op}{t:TE}(h:PE X a t):PE X (.BoolOp op [a] pos) t:=fun pins s σ H Q I hw=>BoolOp_one (h pins s σ H Q I hw)
theorem CA (ha:PE X a ta)(hb:PE X (.BoolOp .And (b :: rest) pos) tb):PE X (.BoolOp .And (a :: b :: rest) pos) (As ta tb):=by
 intro pins s σ H Q I h
 refine BoolOp_and (bf (ha pins s σ H _ I h) fun v s1 ⟨x,H1,I1,r1,q1⟩=>?_)
 obtain ⟨c,rfl,q1⟩:=q1
 cases r1
 refine wpAny_truthy_bool ?_
 cases c with
 | true=>exact hb pins s1 σ H1 Q I1 q1
 | false=>exact ⟨.bl false,H1,I1,rfl,q1⟩
theorem Ga (ha:PE X a ta)(hb:PE X (.BoolOp .Or (b :: rest) pos) tb):PE X (.BoolOp .Or (a :: b :: rest) pos) (GL ta tb):=by
 intro pins s σ H Q I h
 refine BoolOp_or (bf (ha pins s σ H _ I h) fun v s1 ⟨x,H1,I1,r1,q1⟩=>?_)
 obtain ⟨c,rfl,q1⟩:=q1
 cases r1
 refine wpAny_truthy_bool ?_
 cases c with
 | false=>exact hb pins s1 σ H1 Q I1 q1
 | true=>exact ⟨.bl true,H1,I1,rfl,q1⟩
theorem CH (ha:PE X a ta):PE X (.UnaryOp .Not a pos) (AB ta):=by
 intro pins s σ H Q I h
 refine UnaryOp_ (bf (ha pins s σ H _ I h) fun v s1 ⟨x,H1,I1,r1,q1⟩=>?_)
 obtain ⟨c,rfl,q1⟩:=q1
 cases r1
 exact not_of (wpAny_truthy_bool ⟨.bl (!c),H1,I1,rfl,q1⟩)
def Nz (t:TT)(ta tb:TE):TE:=fun σ H Q=>t σ H fun c H1=>if c=true then ta σ H1 Q else tb σ H1 Q
theorem vZ {c:Expr}(hc:PT X c tA)(ha:PE X a ta)(hb:PE X b tb):PE X (.IfExp c a b pos) (Nz tA ta tb):=by
 intro pins s σ H Q I h
 refine wpAny_IfExp (bf (hc pins s σ H _ I h) fun d s1 ⟨H1,I1,q1⟩=>?_)
 cases d with
 | true=>exact ha pins s1 σ H1 Q I1 q1
 | false=>exact hb pins s1 σ H1 Q I1 q1
end
def aq (K:Sw)(H:Hp)(a:Addr)(xs:List V):Prop:=
 Rd H a (.lst xs) \/
   ∃(o:Obj) (its:Array Value) (n:Nat),K.lookup a=some o/\o.cls=.type "list"/\o.dict=none/\o.data=.seq its n/\its.size<=sizeLine/\Vals xs its.toList
def aF (K:Sw)(H:Hp)(a:Addr)(xs:List V):Prop:=
 Rd H a (.tup xs) \/
   ∃(o:Obj) (its:Array Value) (n:Nat),K.lookup a=some o/\o.cls=.type "tuple"/\o.data=.seq its n/\its.size<=sizeLine/\Vals xs its.toList
def Iv:Value->Option V
 | .none=>some .non
 | .bool b=>some (.bl b)
 | .int i _=>some (.int i)
 | .str x _=>some (.str x)
 | .bytes b _=>some (.byt b)
 | .float b _=>some (.flt b)
 | .ref a=>some (.ref a)
 | .type n=>some (.ty n)
 | _=>none
theorem RelV.abs {x:V}{u:Value}(r:RelV x u):Iv u=some x:=by
 cases x with
 | non=>cases r; rfl
 | bl _=>cases r; rfl
 | int _=>obtain ⟨t,rfl⟩:=r; rfl
 | str _=>obtain ⟨t,rfl⟩:=r; rfl
 | byt _=>obtain ⟨t,rfl⟩:=r; rfl
 | flt _=>obtain ⟨t,rfl⟩:=r; rfl
 | ref _=>cases r; rfl
 | ty _=>cases r; rfl
theorem RelV.inj {x y:V}{u:Value}(r:RelV x u)(q:RelV y u):x=y:=S6 (r.abs.symm.trans q.abs)
theorem Vals.inj:∀{xs ys:List V} {us:List Value},Vals xs us->Vals ys us->xs=ys
 | _,_,_,.nil,.nil=>rfl
 | _,_,_,.cons r t,.cons r' t'=>by rw [r.inj r',Vals.inj t t']
section
variable {X:Cx}{pins:List (Addr×Obj)}{σ:St}{H:Hp}{s:Shared}{a:Addr}{xs ys:List V}
theorem aq.of {K:Sw}(h:H a=some (.lst xs)):aq K H a xs:=.inl (.inl h)
theorem aF.of {K:Sw}(h:H a=some (.tup xs)):aF K H a xs:=.inl (.inl h)
theorem Inv.list (I:Inv X pins σ H s)(h:aq X.K H a xs):∃its:List Value,Vals xs its/\PlainL s.heap a its.toArray/\xs.length<=sizeLine:=by
 rcases h with h | ⟨o,its,n,hk,hc,hd,hs,hz,r⟩
 · obtain ⟨z,its,n,r,e⟩:=h.ok I.hok
   exact ⟨its,r,⟨_,n,e,rfl,rfl,rfl⟩,z⟩
 · refine ⟨its.toList,r,⟨o,n,I.ig a o hk,hc,hd,by simpa using hs⟩,?_⟩
   have e:=r.length
   simp only [UK] at e
   omega
theorem Inv.tuple (I:Inv X pins σ H s)(h:aF X.K H a xs):∃its:List Value,Vals xs its/\IsTup s.heap a its.toArray/\xs.length<=sizeLine:=by
 rcases h with h | ⟨o,its,n,hk,hc,hs,hz,r⟩
 · obtain ⟨z,its,r,p⟩:=h.ok I.hok
   exact ⟨its,r,p,z⟩
 · refine ⟨its.toList,r,⟨o,I.ig a o hk,hc,n,by simpa using hs⟩,?_⟩
   have e:=r.length
   simp only [UK] at e
   omega
theorem Inv.cQ (I:Inv X pins σ H s)(h:aq X.K H a xs)(h':aq X.K H a ys):xs=ys:=by
 obtain ⟨its,r,⟨o,n,e,_,_,d⟩,_⟩:=I.list h
 obtain ⟨its',r',⟨o',n',e',_,_,d'⟩,_⟩:=I.list h'
 rw [e] at e'; cases e'
 rw [d] at d'
 injection d' with d1 _
 have:its=its':=by simpa using congrArg Array.toList d1
 subst this
 exact r.inj r'
theorem Inv.sj (I:Inv X pins σ H s)(h:aF X.K H a xs)(h':aF X.K H a ys):xs=ys:=by
 obtain ⟨its,r,⟨o,e,_,n,d⟩,_⟩:=I.tuple h
 obtain ⟨its',r',⟨o',e',_,n',d'⟩,_⟩:=I.tuple h'
 rw [e] at e'; cases e'
 rw [d] at d'
 injection d' with d1 _
 have:its=its':=by simpa using congrArg Array.toList d1
 subst this
 exact r.inj r'
end
abbrev Cx.jI (X:Cx)(E:Value->Shared->Prop):Cx:={ X with xe:=E }
abbrev Cx.Hr (X:Cx):Cx:=X.jI fun _ _=>False
theorem Cx.Ok.jI {X:Cx}(ok:X.Ok)(E:Value->Shared->Prop):(X.jI E).Ok:=
 ⟨ok.mod,ok.kind,ok.glob,ok.blt,ok.above,ok.inj,ok.has,ok.cab,ok.hd,ok.frames,ok.stk,ok.exf,ok.bs,ok.bsz,ok.noex,ok.exfs,ok.f9,ok.frf⟩
theorem Cx.Ok.dY {X:Cx}{E:Value->Shared->Prop}(ok:(X.jI E).Ok):X.Ok:=
 ⟨ok.mod,ok.kind,ok.glob,ok.blt,ok.above,ok.inj,ok.has,ok.cab,ok.hd,ok.frames,ok.stk,ok.exf,ok.bs,ok.bsz,ok.noex,ok.exfs,ok.f9,ok.frf⟩
section
variable {X:Cx}{pins:List (Addr×Obj)}{σ:St}{H:Hp}{s:Shared}{E:Value->Shared->Prop}
theorem Inv.jI (I:Inv X pins σ H s)(E:Value->Shared->Prop):Inv (X.jI E) pins σ H s:=⟨I.ok.jI E,I.os,I.bare,I.base,I.loc,I.cell,I.free,I.freeC,I.pin,I.hok,I.len⟩
theorem Inv.dY (I:Inv (X.jI E) pins σ H s):Inv X pins σ H s:=⟨I.ok.dY,I.os,I.bare,I.base,I.loc,I.cell,I.free,I.freeC,I.pin,I.hok,I.len⟩
theorem SP.dY {D:Ends}{f:Flow}{s':Shared}(h:SP (X.jI E) pins D f s'):SP X pins D f s':=by
 cases f with
 | next=>obtain ⟨σ',H',I,q⟩:=h; exact ⟨σ',H',I.dY,q⟩
 | brk=>obtain ⟨σ',H',I,q⟩:=h; exact ⟨σ',H',I.dY,q⟩
 | cont=>obtain ⟨σ',H',I,q⟩:=h; exact ⟨σ',H',I.dY,q⟩
 | ret u=>obtain ⟨v,σ',H',I,r,q⟩:=h; exact ⟨v,σ',H',I.dY,r,q⟩
theorem nr.Hr {st:List Stmt}{t:TS}(h:nr X.Hr st t):nr X st t:=fun pins s σ H D I hw=>
 wpAny_mono (h pins s σ H D (I.jI _) hw) (fun _ _ q=>q.dY) fun _ _ z=>Ub z
end
section
variable {X:Cx}{st:Stmt}{rest:List Stmt}{t u:TS}{e:Expr}{te:TE}{pos:Pos}
def AA:TS:=fun D σ H=>D.nx σ H
def gM (t u:TS):TS:=fun D σ H=>t { D with nx:=u D } σ H
theorem zi:nr X [] AA:=fun _ _ σ H _ I h=>Wc ⟨σ,H,I,h⟩
theorem v8 (h1:PS X st t)(h2:nr X rest u):nr X (st :: rest) (gM t u):=by
 intro pins s σ H D I h
 refine wpAny_execs_cons (bf (h1 pins s σ H { D with nx:=u D } I h) fun f s1 q=>?_)
 cases f with
 | next=>
   obtain ⟨σ',H',I',q⟩:=q
   exact h2 pins s1 σ' H' D I' q
 | ret v=>exact q
 | brk=>exact q
 | cont=>exact q
theorem zj (h1:PS X st t):nr X [st] t:=by
 intro pins s σ H D I h
 refine wpAny_execs_cons (bf (h1 pins s σ H D I h) fun f s1 q=>?_)
 cases f with
 | next=>exact Wc q
 | ret v=>exact q
 | brk=>exact q
 | cont=>exact q
theorem Inv.quiet {pins:List (Addr×Obj)}{σ:St}{H:Hp}{s:Shared}(I:Inv X pins σ H s):interactive X.env=false:=by simp [interactive,I.ok.kind]
def Aw (te:TE):TS:=fun D σ H=>te σ H fun _ H1=>D.nx σ H1
theorem zg (he:PE X e te)(hs:Ul e none pos.line X.env=pure false:=by rfl):PS X (.Expr e pos) (Aw te):=by
 intro pins s σ H D I h
 exact wpAny_Expr_any (bf (he pins s σ H _ I h) fun v s1 ⟨x,H1,I1,r1,q1⟩=>⟨σ,H1,I1,q1⟩) I.quiet hs
def GN (te:TE):TS:=fun D σ H=>te σ H D.rt
theorem C5 (he:PE X e te):PS X (.Return (some e) pos) (GN te):=by
 intro pins s σ H D I h
 exact wpAny_Return_some (bf (he pins s σ H _ I h) fun v s1 ⟨x,H1,I1,r1,q1⟩=>⟨x,σ,H1,I1,r1,q1⟩)
def GJ (c:TT)(t u:TS):TS:=fun D σ H=>c σ H fun b H1=>if b=true then t D σ H1 else u D σ H1
theorem Gf {c:Expr}{a b:List Stmt}{tc:TT}(hc:PT X c tc)(ha:nr X a t)(hb:nr X b u):PS X (.If c a b pos) (GJ tc t u):=by
 intro pins s σ H D I h
 refine wpAny_If (bf (hc pins s σ H _ I h) fun d s1 ⟨H1,I1,q1⟩=>?_)
 cases d with
 | true=>exact ha pins s1 σ H1 D I1 q1
 | false=>exact hb pins s1 σ H1 D I1 q1
def xc:TS:=fun _ _ _=>False
theorem r6 {Rf:List Stmt}:nr X Rf xc:=fun _ _ _ _ _ _ h=>h.elim
end
abbrev TG:=V->St->Hp->(St->Hp->Prop)->Prop
abbrev xk:=List V->St->Hp->(St->Hp->Prop)->Prop
def PG (X:Cx)(target:Expr)(t:TG):Prop:=
 ∀(pins:List (Addr×Obj)) (s:Shared) (σ:St) (H:Hp) (v:V) (u:Value) (Q:St->Hp->Prop),Inv X pins σ H s->RelV v u->t v σ H Q ->
   wpAny (model X.prog X.w) X.A (assign target X.env u) (fun _ s'=>∃σ' H',Inv X pins σ' H' s'/\Q σ' H') X.xe s
def Eb (X:Cx)(ts:List Expr)(t:xk):Prop:=
 ∀(pins:List (Addr×Obj)) (s:Shared) (σ:St) (H:Hp) (vs:List V) (us:List Value) (Q:St->Hp->Prop),Inv X pins σ H s->Vals vs us->t vs σ H Q ->
   wpAny (model X.prog X.w) X.A (assignInOrder ((assignEach ts X.env).map (·.2)) us) (fun _ s'=>∃σ' H',Inv X pins σ' H' s'/\Q σ' H') X.xe s
abbrev AM:=V->V->V->Hp->(Hp->Prop)->Prop
def Ec (X:Cx)(t:AM):Prop:=
 ∀(pins:List (Addr×Obj)) (s:Shared) (σ:St) (H:Hp) (o i v:V) (ov iv u:Value) (Q:Hp->Prop),Inv X pins σ H s->RelV o ov->RelV i iv->RelV v u->t o i v H Q ->
   wpAny (model X.prog X.w) X.A (setItem ov iv u) (fun _ s'=>∃H',Inv X pins σ H' s'/\Q H') X.xe s
section
variable {X:Cx}{pos:Pos}
def dJ (i:Nat):TG:=fun v σ H Q=>Q (σ.set i (some v)) H
theorem y9 {i:Nat}{x:Str}(hN:X.N.Nodup)(hi:X.N[i]? = some x)(hx:Loc X.env.scope x)(hf:X.fn x=true\/X.env.scope.names.lookup x=some .local:=by first | exact .inl rfl | exact .inr rfl | assumption):PG X (.Name x pos) (dJ i):=by
 intro pins s σ H v u Q I r h
 exact VU (fU I hN hi hx r (fun s' I'=>⟨_,H,I',h⟩) hf)
def ED:xk:=fun vs σ H Q=>vs=[]/\Q σ H
def zP (t:TG)(u:xk):xk:=fun vs σ H Q=>∃v r,vs=v :: r/\t v σ H fun σ' H'=>u r σ' H' Q
theorem za:Eb X [] ED:=by
 intro pins s σ H vs us Q I r h
 obtain ⟨e,h⟩:=h
 subst e
 cases r
 exact assignInOrder_nil ⟨σ,H,I,h⟩
theorem v3 {e:Expr}{es:List Expr}{t:TG}{u:xk}(h1:PG X e t)(h2:Eb X es u)
   (hs:(assignEach (e :: es) X.env).map (·.2)=assign e X.env :: (assignEach es X.env).map (·.2):=by rfl):Eb X (e :: es) (zP t u):=by
 intro pins s σ H vs us Q I r h
 obtain ⟨v,vr,e1,h⟩:=h
 subst e1
 cases r with
 | cons r rr=>
   rw [hs]
   refine assignInOrder_cons (bf (h1 pins s σ H _ _ _ I r h) fun _ s1 ⟨σ1,H1,I1,q1⟩=>?_)
   exact h2 pins s1 σ1 H1 _ _ Q I1 rr q1
def EF (K:Sw)(n:Nat)(t:xk):TG:=fun v σ H Q=>∃a xs,v=.ref a/\aF K H a xs/\xs.length=n/\t xs σ H Q
theorem CT {es:List Expr}{k:Nat}{t:xk}{n:Nat}(hc:X.calm=true)(h:Eb X es t)
   (hn:(assignEach es X.env).length=n:=by rfl) (hst:(assignEach es X.env).findIdx? (·.1)=none:=by rfl):PG X (.Tuple es k pos) (EF X.K n t):=by
 intro pins s σ H v u Q I r hw
 obtain ⟨a,xs,e1,hq,hl,hw⟩:=hw
 subst e1
 cases r
 obtain ⟨its,rv,ht,hz⟩:=I.tuple hq
 refine assign_Tuple_tuple (I.ok.hd hc) ht (by simp [hn,← hl,rv.length]) hst fun h' hx=>?_
 have I1:Inv X pins σ H { s with heap:=h' }:=I.kept (t':=s.toks) fun b o e=>hx b o (Td (SU e)) e
 exact h pins _ σ H xs _ Q I1 (by simpa using rv) hw
def EE (to ti:TE)(t:AM):TG:=fun v σ H Q=>to σ H fun o H1=>ti σ H1 fun i H2=>t o i v H2 fun H3=>Q σ H3
theorem CQ {o i:Expr}{to ti:TE}{t:AM}(ho:PE X o to)(hi:PE X i ti)(hs:Ec X t)
   (ha:∀v,assign (.Subscript o i pos) X.env v=(do
     let ov ← holding [v] (eval o X.env)
     let iv ← holding [v,ov] (eval i X.env)
     standAt pos
     holding [v,ov,iv] (setItem ov iv v)
     release [v,ov,iv] []):=by intro _; rfl):PG X (.Subscript o i pos) (EE to ti t):=by
 intro pins s σ H v u Q I r h
 rw [ha]
 refine wpAny_bind (wpAny_holding (bf (ho pins s σ H _ I h) fun ov s1 ⟨x,H1,I1,r1,q1⟩=>?_))
 refine wpAny_bind (wpAny_holding (bf (hi pins s1 σ H1 _ I1 q1) fun iv s2 ⟨y,H2,I2,r2,q2⟩=>?_))
 refine wpAny_bind (wpAny_standAt (wpAny_bind (wpAny_holding (bf (hs pins s2 σ H2 x y v ov iv u _ I2 r1 r2 r q2) fun _ s3 ⟨H3,I3,q3⟩=>?_))))
 exact wpAny_release ⟨σ,H3,I3,q3⟩
def jG (te:TE)(g:TG):TS:=fun D σ H=>te σ H fun x H1=>g x σ H1 D.nx
theorem CY {tg e:Expr}{te:TE}{g:TG}(he:PE X e te)(hg:PG X tg g)(hs:VI [tg] e pos.line X.env=pure false:=by rfl)(hw:VJ [tg] e X.env=pure none:=by rfl)
   (h1:(assignEach [tg] X.env).map (·.2)=[assign tg X.env]:=by rfl):PS X (.Assign [tg] e pos) (jG te g):=by
 intro pins s σ H D I h
 refine wpAny_Assign_stores (bf (he pins s σ H _ I h) fun v s1 ⟨x,H1,I1,r1,q1⟩=>?_) hs hw
 rw [h1]
 exact bf (hg pins s1 σ H1 x v _ I1 r1 q1) fun _ s2 q=>q
theorem C6 {i:Nat}{x:Str}{e:Expr}{te:TE}{pos':Pos}(hN:X.N.Nodup)(hi:X.N[i]? = some x)(hx:Loc X.env.scope x)(he:PE X e te)(hs:Ul e (some (.Name x pos')) pos.line X.env=pure false:=by rfl)(hf:X.fn x=true\/X.env.scope.names.lookup x=some .local:=by first | exact .inl rfl | exact .inr rfl | assumption) :
   PS X (.Assign [.Name x pos'] e pos) (jG te (dJ i)):=by
 intro pins s σ H D I h
 refine wpAny_Assign_Name (bf (he pins s σ H _ I h) fun v s1 ⟨y,H1,I1,r1,q1⟩=>?_) hs
 exact fU I1 hN hi hx r1 (fun s2 I2=>⟨_,H1,I2,q1⟩) hf
end
structure It where
 go:Nat->Hp->Prop
 yld:Nat->Hp->V->Hp->Prop
 stop:Nat->Hp->Prop
def cS (X:Cx)(pins:List (Addr×Obj))(H:Hp)(b:Addr):Prop:=
 H b=none/\b≠X.env.locals/\b ∉ X.fs/\(b∈X.ex\/X.s₀.heap.objs.size<=b)/\(∀x c,X.env.cells.lookup x=some c->c≠b)/\∀p∈X.pn++pins,p.1≠b
theorem Inv.jv {X:Cx}{pins:List (Addr×Obj)}{σ:St}{H H':Hp}{s:Shared}{b:Addr}(I:Inv X pins σ H s)(hb:s.heap.objs.size<=b)(hn:H' b=none):cS X pins H' b:=by
 refine ⟨hn,UR (S8 I.lt hb),I.K8 hb,.inr (S3 I.sz hb),fun x c e z=>?_,fun p hp z=>?_⟩
 · obtain ⟨v,q⟩:=I.cell x c e
   exact absurd (S8 q.lt (by rw [z]; exact hb)) (UI _)
 · exact absurd (S8 (SU (I.pin p hp).1) (by rw [z]; exact hb)) (UI _)
structure Turn (P:Program)(w:World)(K:Sw)(tg:Expr)(J:It)(fp:List Addr)(it:Addr)(tn:Nat->Heap->Prop):Prop where
 mem:it∈fp
 obj:∀i h,tn i h->∀b∈fp,∃o,h.get? b=some o/\∀v,o.data≠.cell v
 keep:∀i h h',tn i h->(∀b∈fp,∀o,h.get? b=some o->h'.get? b=some o)->tn i h'
 item:∀(X:Cx),X.prog=P->X.w=w->X.K=K->X.calm=true->∀(i:Nat) (pins:List (Addr×Obj)) (s:Shared) (σ:St) (H:Hp) (E:Value->Shared->Prop),Inv X pins σ H s->(∀b∈fp,cS X pins H b)->tn i s.heap->J.go i H ->
   wpAny (model P w) X.A (pyNext (.ref it)) (fun r s1=>∃u,r=some u /\
     wpAny (model P w) X.A (letOwnedTupleGo tg (.ref it) u) (fun _ s2=>∃x H',Inv X pins σ H' s2/\RelV x u/\J.yld i H x H'/\tn (i + 1) s2.heap/\∀b∈fp,H' b=none) E s1) E s
 done:∀(X:Cx),X.prog=P->X.w=w->X.K=K->X.calm=true->∀(i:Nat) (pins:List (Addr×Obj)) (s:Shared) (σ:St) (H:Hp) (E:Value->Shared->Prop),Inv X pins σ H s->(∀b∈fp,cS X pins H b)->tn i s.heap->J.stop i H ->
   wpAny (model P w) X.A (pyNext (.ref it)) (fun r s1=>r=none/\Inv X pins σ H s1) E s
 self:∀(A:Around) (i:Nat) (s:Shared) (Q:Value->Shared->Prop) (E:Value->Shared->Prop),tn i s.heap->Q (.ref it) s->wpAny (model P w) A (pyIter (.ref it)) Q E s
abbrev TI:=St->Hp->(It->Hp->Prop)->Prop
def LU (X:Cx)(pins:List (Addr×Obj))(σ:St)(tg:Expr)(R:It->Hp->Prop)(itv:Value)(s2:Shared):Prop:=
 ∃(it:Addr) (fp:List Addr) (tn:Nat->Heap->Prop) (J:It) (H':Hp),itv=.ref it/\Inv X pins σ H' s2/\Turn X.prog X.w X.K tg J fp it tn/\tn 0 s2.heap/\(∀b∈fp,cS X pins H' b)/\R J H'
def PI (X:Cx)(tg iter:Expr)(wi:TI):Prop:=
 ∀(pins:List (Addr×Obj)) (s:Shared) (σ:St) (H:Hp) (R:It->Hp->Prop),Inv X pins σ H s->wi σ H R ->
   wpAny (model X.prog X.w) X.A (eval iter X.env) (fun v s1=>wpAny (model X.prog X.w) X.A (pyIter v) (LU X pins σ tg R) X.xe s1) X.xe s
theorem ui {M:Model}{A:Around}{E:Value->Shared->Prop}{s:Shared}{tg:Expr}{it:Addr}{u:Value}{o:Obj}{n:String}{vs:Array Value}{Q:Unit->Shared->Prop}(ho:s.heap.get? it=some o)(hc:o.cls=.type n)(hd:o.data=.fields vs)
   (hn:["enumerate","zip","dict_itemiterator","dict_reverseitemiterator","odict_iterator","itertools.zip_longest","itertools.pairwise"].contains n=false) (hQ:Q () s):wpAny M A (letOwnedTupleGo tg (.ref it) u) Q E s:=by
 unfold letOwnedTupleGo
 cases tg <;> first
   | exact wpAny_pure hQ
   | (cases u <;> first
       | exact wpAny_pure hQ
       | (refine wpAny_bind (wpAny_load ho ?_)
          rw [hc,hd]
          show wpAny M A (if (["enumerate","zip","dict_itemiterator","dict_reverseitemiterator","odict_iterator","itertools.zip_longest","itertools.pairwise"].contains n && vs[0]? == some (rawInt _))=true then _ else _) Q E s
          rw [if_neg (by intro h; rw [hn,V4] at h; cases h)]
          exact wpAny_pure hQ))
def Dz (K:Sw)(a:Addr):It:=
 ⟨fun i H=>∃xs x,aq K H a xs/\xs[i]? = some x,fun i H x H'=>H'=H/\∀xs,aq K H a xs->xs[i]? = some x,fun i H=>∃xs,aq K H a xs/\xs.length<=i⟩
def Il (K:Sw)(a:Addr):It:=
 ⟨fun i H=>∃xs x,aF K H a xs/\xs[i]? = some x,fun i H x H'=>H'=H/\∀xs,aF K H a xs->xs[i]? = some x,fun i H=>∃xs,aF K H a xs/\xs.length<=i⟩
def zH (lo:Int)(n:Nat):It:=⟨fun i _=>i < n,fun i H x H'=>H'=H/\x=.int (lo + i),fun i _=>n<=i⟩
theorem su {P:Program}{w:World}{K:Sw}{tg:Expr}(a it:Addr):Turn P w K tg (Dz K a) [it] it (fun i h=>h.IsListIter it a i) where
 mem:=by simp
 obj:=fun i h st b hb=>by
   have e:b=it:=by simpa using hb
   subst e
   obtain ⟨o,e,c,d⟩:=st
   exact ⟨o,e,fun v z=>by rw [d] at z; cases z⟩
 keep:=fun i h h' st k=>st.at fun o e=>k it (by simp) o e
 item:=by
   intro X hP hw hK hc i pins s σ H E I hf st hg
   subst hP hw hK
   obtain ⟨xs,x,hq,hx⟩:=hg
   obtain ⟨its,rv,p,hz⟩:=I.list hq
   obtain ⟨u,hu,ru⟩:=rv.get hx
   obtain ⟨f0,f1,f2,f3,f4,f5⟩:=hf it (by simp)
   refine wpAny_pyNext_list_item st p.isList (x:=u) (by simpa using hu) fun h' Ar sb=>?_
   have I1:Inv X pins σ H { s with heap:=h' }:=I.turned (t':=s.toks) (fun b o hb e=>(sb.2 b hb).trans e) f0 f1 f3 f4 f5
   obtain ⟨o,e,c,d⟩:=id Ar
   exact ⟨u,rfl,ui (s:={ s with heap:=h' }) e c d (by decide) ⟨x,H,I1,ru,⟨rfl,fun ys hy=>by rw [I.cQ hy hq]; exact hx⟩,Ar,fun b hb=>(hf b hb).1⟩⟩
 done:=by
   intro X hP hw hK hc i pins s σ H E I hf st hg
   subst hP hw hK
   obtain ⟨xs,hq,hx⟩:=hg
   obtain ⟨its,rv,p,hz⟩:=I.list hq
   obtain ⟨f0,f1,f2,f3,f4,f5⟩:=hf it (by simp)
   have hl:=rv.length
   exact wpAny_pyNext_list_end (I.ok.hd hc) st p.isList (by simp; omega) fun h' eb=>⟨rfl,I.turned (t':=s.toks) (fun b o hb e=>eb b o hb e) f0 f1 f3 f4 f5⟩
 self:=fun _ _ _ _ _ st h=>wpAny_pyIter_listiter st h
theorem oX {P:Program}{w:World}{K:Sw}{tg:Expr}(a it:Addr):Turn P w K tg (Il K a) [it] it (fun i h=>h.IsTupleIter it a i) where
 mem:=by simp
 obj:=fun i h st b hb=>by
   have e:b=it:=by simpa using hb
   subst e
   obtain ⟨o,e,c,d⟩:=st
   exact ⟨o,e,fun v z=>by rw [d] at z; cases z⟩
 keep:=fun i h h' st k=>st.at fun o e=>k it (by simp) o e
 item:=by
   intro X hP hw hK hc i pins s σ H E I hf st hg
   subst hP hw hK
   obtain ⟨xs,x,hq,hx⟩:=hg
   obtain ⟨its,rv,p,hz⟩:=I.tuple hq
   obtain ⟨u,hu,ru⟩:=rv.get hx
   obtain ⟨f0,f1,f2,f3,f4,f5⟩:=hf it (by simp)
   refine wpAny_pyNext_tuple_item st (show s.heap.IsTuple a its.toArray from p) (x:=u) (by simpa using hu) fun h' Ar sb=>?_
   have I1:Inv X pins σ H { s with heap:=h' }:=I.turned (t':=s.toks) (fun b o hb e=>(sb.2 b hb).trans e) f0 f1 f3 f4 f5
   obtain ⟨o,e,c,d⟩:=id Ar
   exact ⟨u,rfl,ui (s:={ s with heap:=h' }) e c d (by decide) ⟨x,H,I1,ru,⟨rfl,fun ys hy=>by rw [I.sj hy hq]; exact hx⟩,Ar,fun b hb=>(hf b hb).1⟩⟩
 done:=by
   intro X hP hw hK hc i pins s σ H E I hf st hg
   subst hP hw hK
   obtain ⟨xs,hq,hx⟩:=hg
   obtain ⟨its,rv,p,hz⟩:=I.tuple hq
   obtain ⟨f0,f1,f2,f3,f4,f5⟩:=hf it (by simp)
   have hl:=rv.length
   exact wpAny_pyNext_tuple_end (I.ok.hd hc) st (show s.heap.IsTuple a its.toArray from p) (by simp; omega) fun h' eb=>⟨rfl,I.turned (t':=s.toks) (fun b o hb e=>eb b o hb e) f0 f1 f3 f4 f5⟩
 self:=fun _ _ _ _ _ st h=>wpAny_pyIter_tupleiter st h
theorem oW {P:Program}{w:World}{K:Sw}{tg:Expr}(it:Addr)(lo:Int)(n:Nat):Turn P w K tg (zH lo n) [it] it (fun i h=>IsRangeIter h it (lo + (i:Nat) * 1) ((n:Int) - (i:Nat)) 1) where
 mem:=by simp
 obj:=fun i h st b hb=>by
   have e:b=it:=by simpa using hb
   subst e
   exact ⟨_,st,fun v z=>by
     have z':Data.fields _=Data.cell v:=z
     cases z'⟩
 keep:=fun i h h' st k=>k it (by simp) _ st
 item:=by
   intro X hP hw hK hc i pins s σ H E I hf st hg
   subst hP hw hK
   obtain ⟨f0,f1,f2,f3,f4,f5⟩:=hf it (by simp)
   have W:=Walks.range (prog:=X.prog) (w:=X.w) (I.ok.hd hc) it lo 1 n
   refine W.item i s _ _ hg st fun v h' tk hv Ar kk=>?_
   obtain ⟨t,rfl⟩:=hv
   have I1:Inv X pins σ H { s with heap:=h',toks:=tk }:=I.turned (fun b o hb e=>kk b o (by simpa using hb) e) f0 f1 f3 f4 f5
   refine ⟨_,rfl,ui (s:={ s with heap:=h',toks:=tk }) (n:="range_iterator") Ar rfl rfl (by decide) ⟨.int (lo + i),H,I1,⟨t,?_⟩,⟨rfl,rfl⟩,Ar,fun b hb=>(hf b hb).1⟩⟩
   rw [Int.mul_one]
 done:=by
   intro X hP hw hK hc i pins s σ H E I hf st hg
   subst hP hw hK
   obtain ⟨f0,f1,f2,f3,f4,f5⟩:=hf it (by simp)
   exact wpAny_pyNext_range_end (I.ok.hd hc) st (by have:n<=i:=hg; omega) fun h' eb=>⟨rfl,I.turned (t':=s.toks) (fun b o hb e=>eb b o hb e) f0 f1 f3 f4 f5⟩
 self:=fun _ _ _ _ _ st h=>wpAny_pyIter_rangeiter st h
section
variable {X:Cx}{tg:Expr}
def zW (K:Sw)(tl:TE):TI:=fun σ H R=>tl σ H fun x H1=>∃a,x=.ref a/\(∃xs,aq K H1 a xs)/\R (Dz K a) H1
def FD (K:Sw)(tl:TE):TI:=fun σ H R=>tl σ H fun x H1=>∃a,x=.ref a/\(∃xs,aF K H1 a xs)/\R (Il K a) H1
theorem zc {l:Expr}{tl:TE}(hl:PE X l tl):PI X tg l (zW X.K tl):=by
 intro pins s σ H R I h
 refine bf (hl pins s σ H _ I h) fun v s1 ⟨x,H1,I1,r1,q1⟩=>?_
 obtain ⟨a,e,⟨xs,hq⟩,q⟩:=q1
 subst e
 cases r1
 obtain ⟨its,rv,p,hz⟩:=I1.list hq
 refine wpAny_pyIter_list p.isList ?_
 refine ⟨s1.heap.objs.size,[s1.heap.objs.size],_,_,H1,rfl,I1.kept (t':=s1.toks) fun b o e=>SN _ e,su a _,⟨_,Tb _ rfl,rfl,rfl⟩,fun b hb=>?_,q⟩
 have e:b=s1.heap.objs.size:=by simpa using hb
 subst e
 exact I1.jv (Sz _) (I1.hok.fresh (Sz _))
theorem CU {l:Expr}{tl:TE}(hl:PE X l tl):PI X tg l (FD X.K tl):=by
 intro pins s σ H R I h
 refine bf (hl pins s σ H _ I h) fun v s1 ⟨x,H1,I1,r1,q1⟩=>?_
 obtain ⟨a,e,⟨xs,hq⟩,q⟩:=q1
 subst e
 cases r1
 obtain ⟨its,rv,p,hz⟩:=I1.tuple hq
 refine wpAny_pyIter_tuple (show s1.heap.IsTuple a its.toArray from p) ?_
 refine ⟨s1.heap.objs.size,[s1.heap.objs.size],_,_,H1,rfl,I1.kept (t':=s1.toks) fun b o e=>SN _ e,oX a _,⟨_,Tb _ rfl,rfl,rfl⟩,fun b hb=>?_,q⟩
 have e:b=s1.heap.objs.size:=by simpa using hb
 subst e
 exact I1.jv (Sz _) (I1.hok.fresh (Sz _))
theorem mX {pins:List (Addr×Obj)}{σ:St}{H:Hp}{s:Shared}{R:It->Hp->Prop}{E:Value->Shared->Prop}{lo hi:Int}{t u v:Tok}{tk:Nat}(I:Inv X pins σ H s)(h1 : -(2 ^ 62)<=lo)(h2:lo < 2 ^ 62)(h3 : -(2 ^ 62)<=hi)(h4:hi < 2 ^ 62)
   (q:R (zH lo (hi - lo).toNat) H):wpAny (model X.prog X.w) X.A (pyIter (.ref s.heap.objs.size)) (LU X pins σ tg R) E { s with heap:=s.heap.push { cls:=.type "range",data:=.fields #[.int lo t,.int hi u,.int 1 v] },toks:=tk }:=by
 refine wpAny_pyIter_range (IsRange.new ..) (small_one h1 h2 h3 h4) ?_
 have I1:Inv X pins σ H { s with heap:=s.heap.push { cls:=.type "range",data:=.fields #[.int lo t,.int hi u,.int 1 v] },toks:=tk }:=I.kept fun b o e=>SN _ e
 refine ⟨(s.heap.push { cls:=.type "range",data:=.fields #[.int lo t,.int hi u,.int 1 v] }).objs.size,[(s.heap.push { cls:=.type "range",data:=.fields #[.int lo t,.int hi u,.int 1 v] }).objs.size],_,_,H,rfl,
   I1.kept (t':=tk) fun b o e=>SN _ e,oW _ lo (hi - lo).toNat,?_,fun b hb=>?_,q⟩
 · have e1:lo + ((0:Nat):Int) * 1=lo:=by simp
   have e2:(((hi - lo).toNat:Nat):Int) - ((0:Nat):Int)=UJ lo hi 1:=by rw [rangeSize_one]; split <;> omega
   show IsRangeIter _ _ (lo + ((0:Nat):Int) * 1) ((((hi - lo).toNat:Nat):Int) - ((0:Nat):Int)) 1
   rw [e1,e2]
   exact Tb _ rfl
 · have e:b=(s.heap.push { cls:=.type "range",data:=.fields #[.int lo t,.int hi u,.int 1 v] }).objs.size:=by simpa using hb
   subst e
   exact I1.jv (Sz _) (I1.hok.fresh (Sz _))
def vd (ta:TA):TI:=fun σ H R=>ta σ H fun vs H1=>∃j:Int,vs=[.int j] /\ -(2 ^ 62)<=j/\j < 2 ^ 62/\R (zH 0 j.toNat) H1
def zX (ta:TA):TI:=fun σ H R=>ta σ H fun vs H1=>∃i j:Int,vs=[.int i,.int j]/\(-(2 ^ 62)<=i/\i < 2 ^ 62 /\ -(2 ^ 62)<=j/\j < 2 ^ 62)/\R (zH i (j - i).toNat) H1
theorem rW {a:Expr}{ta:TA}{p pos:Pos}(hg:Gl X "range")(hm:X.mg "range"=none)(ha:PA X [a] ta)(hs:starEach [a] X.env=[(false,eval a X.env)]:=by rfl):PI X tg (.Call (.Name "range" p) [a] [] pos) (vd ta):=by
 intro pins s σ H R I h
 refine Call_ (df I hg hm boot_range (Tr (bf (ha pos pins s σ H _ I h) fun us s1 ⟨vs,H1,I1,r1,q1⟩=>?_) hs rfl))
 obtain ⟨j,e,q1,q2,q⟩:=q1
 subst e
 cases r1 with
 | cons r rr=>
   cases rr
   obtain ⟨t,rfl⟩:=r
   exact call_range_1 (mX I1 (by omega) (by omega) q1 q2 (by simpa using q))
theorem rX {a b:Expr}{ta:TA}{p pos:Pos}(hg:Gl X "range")(hm:X.mg "range"=none)(ha:PA X [a,b] ta)(hs:starEach [a,b] X.env=[(false,eval a X.env),(false,eval b X.env)]:=by rfl)(hs2:starEach [b] X.env=[(false,eval b X.env)]:=by rfl) :
   PI X tg (.Call (.Name "range" p) [a,b] [] pos) (zX ta):=by
 intro pins s σ H R I h
 refine Call_ (df I hg hm boot_range (Tr (bf (ha pos pins s σ H _ I h) fun us s1 ⟨vs,H1,I1,r1,q1⟩=>?_) (by rw [hs,hs2]) (by rw [hs2]; rfl)))
 obtain ⟨i,j,e,⟨q1,q2,q3,q4⟩,q⟩:=q1
 subst e
 cases r1 with
 | cons r rr=>
   cases rr with
   | cons r' rr=>
     cases rr
     obtain ⟨t,rfl⟩:=r
     obtain ⟨t',rfl⟩:=r'
     exact call_range_2 (mX I1 q1 q2 q3 q4 q)
def GI (wi:TI)(g:TG)(tb:TS):TS:=fun D σ H=>wi σ H fun J H1=>∃W:Nat->Nat->St->Hp->Prop,(∃m,W 0 m σ H1)/\∀i m σ H,W i m σ H ->
 (J.stop i H/\D.nx σ H)\/(J.go i H/\∃N:St->Hp->Prop,(∀σ' H',N σ' H'->∃m',m' < m/\W (i + 1) m' σ' H')/\∀x H',J.yld i H x H'->g x σ H' fun σ2 H2=>tb { D with nx:=N,ct:=N,bk:=D.nx } σ2 H2)
def i9 (fp:List Addr)(h:Heap):List (Addr×Obj):=fp.filterMap fun b=>(h.get? b).map fun o=>(b,o)
theorem dn {fp:List Addr}{h:Heap}{b:Addr}{o:Obj}(hb:b∈fp)(e:h.get? b=some o):(b,o)∈i9 fp h:=List.mem_filterMap.mpr ⟨b,hb,by rw [e]; rfl⟩
theorem rN {fp:List Addr}{h:Heap}{p:Addr×Obj}(hp:p∈i9 fp h):p.1∈fp/\h.get? p.1=some p.2:=by
 obtain ⟨b,hb,e⟩:=List.mem_filterMap.mp hp
 cases q:h.get? b with
 | none=>rw [q] at e; cases e
 | some o=>
   rw [q] at e
   have e':(b,o)=p:=S6 e
   subst e'
   exact ⟨hb,q⟩
theorem Inv.pinned {pins:List (Addr×Obj)}{σ:St}{H:Hp}{s:Shared}{fp:List Addr}(I:Inv X pins σ H s)(hf:∀b∈fp,cS X pins H b)(ho:∀b∈fp,∃o,s.heap.get? b=some o/\∀v,o.data≠.cell v):Inv X (pins++i9 fp s.heap) σ H s:=
 I.p8 fun p hp=>(List.mem_append.mp hp).elim (fun z=>I.pin p (Tv _ z)) fun z=>by
   obtain ⟨hb,e⟩:=rN z
   obtain ⟨f0,f1,f2,_⟩:=hf p.1 hb
   obtain ⟨o,e',d⟩:=ho p.1 hb
   rw [e] at e'; cases e'
   exact ⟨e,f0,f1,f2,d⟩
theorem Inv.fV {pins pl:List (Addr×Obj)}{σ:St}{H:Hp}{s:Shared}(I:Inv X (pins++pl) σ H s):Inv X pins σ H s:=I.p8 fun p hp=>I.pin p (Tv _ (Wy _ hp))
theorem C0 {iter:Expr}{body:List Stmt}{wi:TI}{g:TG}{tb:TS}{pos:Pos}(hp:PassesOwn (model X.prog X.w) X.A X.env X.xe)(hc:X.calm=true)(hi:PI X tg iter wi)(hg:PG X tg g)(hb:nr X body tb)
   (hs:∀x,Tc iter X.env x=pure x:=by intro _; rfl):PS X (.For tg iter body [] pos) (GI wi g tb):=by
 intro pins s σ H D I h
 refine wpAny_For (bf (hi pins s σ H _ I h) fun v s1 h1=>bf h1 fun itv s2 h2=>?_) hs
 obtain ⟨it,fp,tn,J,H2,e,I2,T,xB,f2,W,⟨m0,w0⟩,turn⟩:=h2
 subst e
 have stat:∀{H':Hp},(∀b∈fp,H' b=none)->∀b∈fp,cS X pins H' b:=fun hn b hb=>⟨hn b hb,(f2 b hb).2⟩
 refine codeAny_forLoop_any (fun n s'=>∃i σ' H',Inv X pins σ' H' s'/\tn i s'.heap/\(∀b∈fp,H' b=none)/\W i n σ' H') ?_ m0 ⟨0,σ,H2,I2,xB,fun b hb=>(f2 b hb).1,w0⟩
 rintro n s3 ⟨i,σ3,H3,I3,r9,DG,w3⟩
 rcases turn i n σ3 H3 w3 with ⟨stop,qn⟩ | ⟨go,N,hN,step⟩
 · refine UT hp (bf (T.done X rfl rfl rfl hc i pins s3 σ3 H3 X.xe I3 (stat DG) r9 stop) fun r s4 ⟨hr,I4⟩=>?_)
   subst hr
   exact Wc ⟨σ3,H3,I4,qn⟩
 · refine UT hp (bf (T.item X rfl rfl rfl hc i pins s3 σ3 H3 X.xe I3 (stat DG) r9 go) fun r s4 ⟨u,hr,h4⟩=>?_)
   subst hr
   refine UT hp (bf h4 fun _ s5 ⟨x,H5,I5,r5,y5,xC,IL⟩=>?_)
   have Ik:=I5.pinned (stat IL) (T.obj _ _ xC)
   refine UT hp (bf (hg _ s5 σ3 H5 x u _ Ik r5 (step x H5 y5)) fun _ s6 ⟨σ6,H6,I6,q6⟩=>?_)
   refine UT hp (bf (hb _ s6 σ6 H6 _ I6 q6) fun f s7 q7=>?_)
   have again:∀{σ7:St} {H7:Hp},Inv X (pins++i9 fp s5.heap) σ7 H7 s7->N σ7 H7->∃m,m < n/\∃i σ' H',Inv X pins σ' H' s7/\tn i s7.heap/\(∀b∈fp,H' b=none)/\W i m σ' H':=fun {σ7 H7} I7 n7=>by
     obtain ⟨m',hm,w7⟩:=hN σ7 H7 n7
     refine ⟨m',hm,i + 1,σ7,H7,I7.fV,T.keep _ _ _ xC fun b hb o e=>(I7.pin (b,o) (Tv _ (Tv _ (dn hb e)))).1,fun b hb=>?_,w7⟩
     obtain ⟨o,e,d⟩:=T.obj _ _ xC b hb
     exact (I7.pin (b,o) (Tv _ (Tv _ (dn hb e)))).2.1
   cases f with
   | next=>obtain ⟨σ7,H7,I7,n7⟩:=q7; exact again I7 n7
   | cont=>obtain ⟨σ7,H7,I7,n7⟩:=q7; exact again I7 n7
   | brk=>obtain ⟨σ7,H7,I7,q7⟩:=q7; exact ⟨σ7,H7,I7.fV,q7⟩
   | ret v=>obtain ⟨x7,σ7,H7,I7,r7,q7⟩:=q7; exact ⟨x7,σ7,H7,I7.fV,r7,q7⟩
end
theorem bj {K:Sw}{a:Addr}{xs:List V}{g:TG}{tb:TS}{D:Ends}{σ:St}{H:Hp}(Pv:Nat->St->Hp->Prop)(h0:Pv 0 σ H)(hl:∀i σ H,i<=xs.length->Pv i σ H->aq K H a xs)
   (hs:∀i x σ H,xs[i]? = some x->Pv i σ H->g x σ H fun σ2 H2=>tb { D with nx:=Pv (i + 1),ct:=Pv (i + 1),bk:=D.nx } σ2 H2) (hd:∀σ H,Pv xs.length σ H->D.nx σ H) :
   ∃W:Nat->Nat->St->Hp->Prop,(∃m,W 0 m σ H)/\∀i m σ H,W i m σ H ->
     ((Dz K a).stop i H/\D.nx σ H)\/((Dz K a).go i H/\∃N:St->Hp->Prop,(∀σ' H',N σ' H'->∃m',m' < m/\W (i + 1) m' σ' H')/\∀x H',(Dz K a).yld i H x H'->g x σ H' fun σ2 H2=>tb { D with nx:=N,ct:=N,bk:=D.nx } σ2 H2):=by
 refine ⟨fun i m σ H=>m=xs.length - i/\i<=xs.length/\Pv i σ H,⟨xs.length,by simp,TN _,h0⟩,?_⟩
 rintro i m σ H ⟨rfl,hi,p⟩
 have q:=hl i σ H hi p
 by_cases gv:i < xs.length
 · refine .inr ⟨⟨xs,xs[i],q,by simp [gv]⟩,Pv (i + 1),fun σ' H' p'=>⟨xs.length - (i + 1),by omega,rfl,gv,p'⟩,fun x H' y=>?_⟩
   obtain ⟨e,y⟩:=y
   subst e
   exact hs i x σ _ (y xs q) p
 · have e:i=xs.length:=by omega
   subst e
   exact .inl ⟨⟨xs,q,Sz _⟩,hd σ H p⟩
theorem bQ {lo:Int}{n:Nat}{g:TG}{tb:TS}{D:Ends}{σ:St}{H:Hp}(Pv:Nat->St->Hp->Prop)(h0:Pv 0 σ H)
   (hs:∀i σ H,i < n->Pv i σ H->g (.int (lo + i)) σ H fun σ2 H2=>tb { D with nx:=Pv (i + 1),ct:=Pv (i + 1),bk:=D.nx } σ2 H2) (hd:∀σ H,Pv n σ H->D.nx σ H) :
   ∃W:Nat->Nat->St->Hp->Prop,(∃m,W 0 m σ H)/\∀i m σ H,W i m σ H ->
     ((zH lo n).stop i H/\D.nx σ H)\/((zH lo n).go i H/\∃N:St->Hp->Prop,(∀σ' H',N σ' H'->∃m',m' < m/\W (i + 1) m' σ' H')/\∀x H',(zH lo n).yld i H x H'->g x σ H' fun σ2 H2=>tb { D with nx:=N,ct:=N,bk:=D.nx } σ2 H2):=by
 refine ⟨fun i m σ H=>m=n - i/\i<=n/\Pv i σ H,⟨n,by simp,TN _,h0⟩,?_⟩
 rintro i m σ H ⟨rfl,hi,p⟩
 by_cases gv:i < n
 · refine .inr ⟨gv,Pv (i + 1),fun σ' H' p'=>⟨n - (i + 1),by omega,rfl,gv,p'⟩,fun x H' y=>?_⟩
   obtain ⟨e,y⟩:=y
   subst e y
   exact hs i σ _ gv p
 · have e:i=n:=by omega
   subst e
   exact .inl ⟨Sz _,hd σ H p⟩
abbrev R2:=V->V->Hp->VK->Prop
def gO (X:Cx)(f:Value->Value->Sem Value)(r:R2):Prop:=
 ∀(pins:List (Addr×Obj)) (s:Shared) (σ:St) (H:Hp) (x y:V) (v u:Value) (Q:VK),Inv X pins σ H s->RelV x v->RelV y u->r x y H Q ->
   wpAny (model X.prog X.w) X.A (f v u) (EP X pins σ Q) X.xe s
def Ir (X:Cx)(f:Value->Sem Value)(r:V->Hp->VK->Prop):Prop:=
 ∀(pins:List (Addr×Obj)) (s:Shared) (σ:St) (H:Hp) (x:V) (v:Value) (Q:VK),Inv X pins σ H s->RelV x v->r x H Q ->
   wpAny (model X.prog X.w) X.A (f v) (EP X pins σ Q) X.xe s
def cO (X:Cx)(f:Value)(r:List V->Hp->VK->Prop):Prop:=
 ∀(pins:List (Addr×Obj)) (s:Shared) (σ:St) (H:Hp) (xs:List V) (us:List Value) (Q:VK),Inv X pins σ H s->Vals xs us->r xs H Q ->
   wpAny (model X.prog X.w) X.A (call f us) (EP X pins σ Q) X.xe s
def AD (r:R2)(ta tb:TE):TE:=fun σ H Q=>ta σ H fun x H1=>tb σ H1 fun y H2=>r x y H2 Q
def NC (r:V->Hp->VK->Prop)(ta:TE):TE:=fun σ H Q=>ta σ H fun x H1=>r x H1 Q
def rI (C:Int->Int->Prop)(g:Int->Int->V):R2:=fun x y H Q=>∃i j,x=.int i/\y=.int j/\C i j/\Q (g i j) H
def tq (g:Int->Int->V):R2:=fun x y H Q=>∃i j,x=.int i/\y=.int j/\Q (g i j) H
def rU (g:Int->V):V->Hp->VK->Prop:=fun x H Q=>∃i,x=.int i/\Q (g i) H
section
variable {X:Cx}{a b c:Expr}{ta tb tc:TE}{pos:Pos}
theorem AV (ha:PE X a ta)(hb:PE X b tb){pins:List (Addr×Obj)}{s:Shared}{σ:St}{H:Hp}{R:V->V->Hp->Prop}(I:Inv X pins σ H s)
   (h:ta σ H fun x H1=>tb σ H1 fun y H2=>R x y H2) {Q:Value->Shared->Prop} {f:Value->Value->Sem Value}
   (hf:∀v u s2 x y H2,Inv X pins σ H2 s2->RelV x v->RelV y u->R x y H2->wpAny (model X.prog X.w) X.A (f v u) Q X.xe s2) :
   wpAny (model X.prog X.w) X.A (eval a X.env) (fun v s₁=>wpAny (model X.prog X.w) X.A (eval b X.env) (fun u s₂=>wpAny (model X.prog X.w) X.A (f v u) Q X.xe s₂) X.xe s₁) X.xe s:=by
 refine bf (ha pins s σ H _ I h) fun v s1 ⟨x,H1,I1,r1,q1⟩=>?_
 refine bf (hb pins s1 σ H1 _ I1 q1) fun u s2 ⟨y,H2,I2,r2,q2⟩=>?_
 exact hf v u s2 x y H2 I2 r1 r2 q2
theorem F9 {op:Operator}{r:R2}(ho:gO X (binaryOp op) r)(ha:PE X a ta)(hb:PE X b tb):PE X (.BinOp a op b pos) (AD r ta tb):=by
 intro pins s σ H Q I h
 exact wpAny_BinOp (AV ha hb I h fun v u s2 x y H2 I2 rx ry q=>ho pins s2 σ H2 x y v u Q I2 rx ry q)
theorem Gb {op:UnaryOp}{r:V->Hp->VK->Prop}(ho:Ir X (unaryOp op) r)(ha:PE X a ta):PE X (.UnaryOp op a pos) (NC r ta):=by
 intro pins s σ H Q I h
 exact UnaryOp_ (bf (ha pins s σ H _ I h) fun v s1 ⟨x,H1,I1,r1,q1⟩=>ho pins s1 σ H1 x v Q I1 r1 q1)
theorem FQ {f:Value->Value->Sem Value}{C:Int->Int->Prop}{g:Int->Int->Int}
   (rule:∀(i j:Int) (t u:Tok) (s:Shared) (Q:Value->Shared->Prop) (E:Value->Shared->Prop),C i j->Q (.int (g i j) s.toks) { s with toks:=s.toks + 1 }->wpAny (model X.prog X.w) X.A (f (.int i t) (.int j u)) Q E s) :
   gO X f (rI C fun i j=>.int (g i j)):=by
 intro pins s σ H x y v u Q I rx ry h
 obtain ⟨i,j,rfl,rfl,hc,q⟩:=h
 obtain ⟨t,rfl⟩:=rx
 obtain ⟨t',rfl⟩:=ry
 exact rule i j t t' s _ _ hc ⟨.int (g i j),H,I.tok _,⟨_,rfl⟩,q⟩
theorem FR {f:Value->Value->Sem Value}{g:Int->Int->Int}
   (rule:∀(i j:Int) (t u:Tok) (s:Shared) (Q:Value->Shared->Prop) (E:Value->Shared->Prop),Q (.int (g i j) s.toks) { s with toks:=s.toks + 1 }->wpAny (model X.prog X.w) X.A (f (.int i t) (.int j u)) Q E s) :
   gO X f (tq fun i j=>.int (g i j)):=by
 intro pins s σ H x y v u Q I rx ry h
 obtain ⟨i,j,rfl,rfl,q⟩:=h
 obtain ⟨t,rfl⟩:=rx
 obtain ⟨t',rfl⟩:=ry
 exact rule i j t t' s _ _ ⟨.int (g i j),H,I.tok _,⟨_,rfl⟩,q⟩
theorem Cm {f:Value->Value->Sem Value}{g:Int->Int->Bool}
   (rule:∀(i j:Int) (t u:Tok) (s:Shared) (Q:Value->Shared->Prop) (E:Value->Shared->Prop),Q (.bool (g i j)) s->wpAny (model X.prog X.w) X.A (f (.int i t) (.int j u)) Q E s) :
   gO X f (tq fun i j=>.bl (g i j)):=by
 intro pins s σ H x y v u Q I rx ry h
 obtain ⟨i,j,rfl,rfl,q⟩:=h
 obtain ⟨t,rfl⟩:=rx
 obtain ⟨t',rfl⟩:=ry
 exact rule i j t t' s _ _ ⟨.bl (g i j),H,I,rfl,q⟩
def D5 (i j:Int):Prop:=0<=j/\j<=1000000/\i.natAbs < 2 ^ 64
def xD (i j:Int):Prop:=(-(2 ^ 64) < i/\i < 2 ^ 64)\/(-(2 ^ 64) < j/\j < 2 ^ 64)
theorem xD.ok {i j:Int}(h:xD i j):IntMulOk i j:=by
 rcases h with ⟨h1,h2⟩ | ⟨h1,h2⟩
 · exact .of_left (intBits_le_64 h1 h2)
 · exact .of_right (intBits_le_64 h1 h2)
theorem Cn:gO X (binaryOp .Add) (tq fun i j=>.int (i + j)):=FR fun _ _ _ _ _ _ _ q=>add_int q
theorem Cv:gO X (binaryOp .Sub) (tq fun i j=>.int (i - j)):=FR fun _ _ _ _ _ _ _ q=>sub_int q
theorem Cr:gO X (binaryOp .Mult) (rI xD fun i j=>.int (i * j)):=FQ fun _ _ _ _ _ _ _ hc q=>mul_int q hc.ok
theorem Cq:gO X (binaryOp .Mod) (rI (fun _ j=>0 < j) fun i j=>.int (i % j)):=FQ fun i j _ _ _ _ _ hc q=>by
 have h1:(0:Int) < j:=hc
 exact mod_int' (by omega) (by rw [Int.fmod_eq_emod_of_nonneg i (by omega)]; exact q)
theorem Ct:gO X (binaryOp .Pow) (rI D5 fun i j=>.int (i ^ j.toNat)):=FQ fun _ _ _ _ _ _ _ hc q=>pow_int_small hc.1 hc.2.1 hc.2.2 q
theorem Rh {f:Value->Sem Value}{g:Int->Int}
   (rule:∀(i:Int) (t:Tok) (s:Shared) (Q:Value->Shared->Prop) (E:Value->Shared->Prop),Q (.int (g i) s.toks) { s with toks:=s.toks + 1 }->wpAny (model X.prog X.w) X.A (f (.int i t)) Q E s) :
   Ir X f (rU fun i=>.int (g i)):=by
 intro pins s σ H x v Q I rx h
 obtain ⟨i,rfl,q⟩:=h
 obtain ⟨t,rfl⟩:=rx
 exact rule i t s _ _ ⟨.int (g i),H,I.tok _,⟨_,rfl⟩,q⟩
theorem Dt:Ir X (unaryOp .USub) (rU fun i=>.int (-i)):=Rh fun _ _ _ _ _ q=>neg_int q
end
def Gz:V->V->Bool
 | .non,.non=>true | .non,.int _=>true | .int _,.non=>true | .non,.bl _=>true | .bl _,.non=>true | .non,.str _=>true | .str _,.non=>true
 | .int _,.int _=>true | .bl _,.bl _=>true | .str _,.str _=>true | .byt _,.byt _=>true
 | .int _,.str _=>true | .str _,.int _=>true | .bl _,.str _=>true | .str _,.bl _=>true
 | _,_=>false
def Nj:R2:=fun x y H Q=>Gz x y=true/\Q (.bl (decide (x=y))) H
def Nl:R2:=fun x y H Q=>Gz x y=true/\Q (.bl (!decide (x=y))) H
theorem pJ {i j:Int}:decide (V.int i=V.int j)=(i == j):=by
 rw [T4]
 simp
theorem tV {i j:Bool}:decide (V.bl i=V.bl j)=(i == j):=by
 rw [T4]
 simp
theorem pK {i j:Str}:decide (V.str i=V.str j)=(i == j):=by
 rw [T4]
 simp
theorem pI {i j:Array UInt8}:decide (V.byt i=V.byt j)=(i.toList == j.toList):=by
 rw [T4]
 cases i
 cases j
 simp
section
variable {X:Cx}{a b c:Expr}{ta tb tc:TE}{pos:Pos}
theorem aO {pins:List (Addr×Obj)}{σ:St}{H:Hp}{s:Shared}{Q:VK}{k k':Bool}(I:Inv X pins σ H s)(q:Q (.bl k) H)(e:k=k'):EP X pins σ Q (.bool k') s:=by
 subst e
 exact ⟨.bl k,H,I,rfl,q⟩
theorem FT:gO X (compareOp .Eq) Nj:=by
 intro pins s σ H x y v u Q I rx ry h
 obtain ⟨hs,q⟩:=h
 cases x with
 | non=>
   cases rx
   cases y with
   | non=>cases ry; exact PySem.EqNone.eq_none_none (aO I q (by simp))
   | bl j=>cases ry; exact PySem.EqNone.eq_none_bool (aO I q (by simp))
   | int j=>obtain ⟨t',rfl⟩:=ry; exact PySem.EqNone.eq_none_int (aO I q (by simp))
   | str j=>obtain ⟨t',rfl⟩:=ry; exact PySem.EqNone.eq_none_str (aO I q (by simp))
   | _=>exact absurd (show false=true from hs) S4
 | bl i=>
   cases rx
   cases y with
   | non=>cases ry; exact PySem.EqNone.eq_bool_none (aO I q (by simp))
   | bl j=>cases ry; exact eq_bool (aO I q tV)
   | str j=>obtain ⟨t',rfl⟩:=ry; exact PySem.EqMixed.eq_bool_str (aO I q (by simp))
   | _=>exact absurd (show false=true from hs) S4
 | int i=>
   obtain ⟨t,rfl⟩:=rx
   cases y with
   | non=>cases ry; exact PySem.EqNone.eq_int_none (aO I q (by simp))
   | int j=>obtain ⟨t',rfl⟩:=ry; exact eq_int (aO I q pJ)
   | str j=>obtain ⟨t',rfl⟩:=ry; exact PySem.EqMixed.eq_int_str (aO I q (by simp))
   | _=>exact absurd (show false=true from hs) S4
 | str i=>
   obtain ⟨t,rfl⟩:=rx
   cases y with
   | non=>cases ry; exact PySem.EqNone.eq_str_none (aO I q (by simp))
   | bl j=>cases ry; exact PySem.EqMixed.eq_str_bool (aO I q (by simp))
   | int j=>obtain ⟨t',rfl⟩:=ry; exact PySem.EqMixed.eq_str_int (aO I q (by simp))
   | str j=>obtain ⟨t',rfl⟩:=ry; exact eq_str (aO I q pK)
   | _=>exact absurd (show false=true from hs) S4
 | byt i=>
   obtain ⟨t,rfl⟩:=rx
   cases y with
   | byt j=>obtain ⟨t',rfl⟩:=ry; exact PySem.W.eq_bytes (aO I q pI)
   | _=>exact absurd (show false=true from hs) S4
 | _=>cases y <;> exact absurd (show false=true from hs) S4
theorem FX:gO X (compareOp .NotEq) Nl:=by
 intro pins s σ H x y v u Q I rx ry h
 obtain ⟨hs,q⟩:=h
 cases x with
 | non=>
   cases rx
   cases y with
   | non=>cases ry; exact PySem.EqNone.ne_none_none (aO I q (by simp))
   | bl j=>cases ry; exact PySem.EqNone.ne_none_bool (aO I q (by simp))
   | int j=>obtain ⟨t',rfl⟩:=ry; exact PySem.EqNone.ne_none_int (aO I q (by simp))
   | str j=>obtain ⟨t',rfl⟩:=ry; exact PySem.EqNone.ne_none_str (aO I q (by simp))
   | _=>exact absurd (show false=true from hs) S4
 | bl i=>
   cases rx
   cases y with
   | non=>cases ry; exact PySem.EqNone.ne_bool_none (aO I q (by simp))
   | bl j=>cases ry; exact ne_bool (aO I q (congrArg not tV))
   | str j=>obtain ⟨t',rfl⟩:=ry; exact PySem.EqMixed.ne_bool_str (aO I q (by simp))
   | _=>exact absurd (show false=true from hs) S4
 | int i=>
   obtain ⟨t,rfl⟩:=rx
   cases y with
   | non=>cases ry; exact PySem.EqNone.ne_int_none (aO I q (by simp))
   | int j=>obtain ⟨t',rfl⟩:=ry; exact ne_int (aO I q (congrArg not pJ))
   | str j=>obtain ⟨t',rfl⟩:=ry; exact PySem.EqMixed.ne_int_str (aO I q (by simp))
   | _=>exact absurd (show false=true from hs) S4
 | str i=>
   obtain ⟨t,rfl⟩:=rx
   cases y with
   | non=>cases ry; exact PySem.EqNone.ne_str_none (aO I q (by simp))
   | bl j=>cases ry; exact PySem.EqMixed.ne_str_bool (aO I q (by simp))
   | int j=>obtain ⟨t',rfl⟩:=ry; exact PySem.EqMixed.ne_str_int (aO I q (by simp))
   | str j=>obtain ⟨t',rfl⟩:=ry; exact ne_str (aO I q (congrArg not pK))
   | _=>exact absurd (show false=true from hs) S4
 | byt i=>
   obtain ⟨t,rfl⟩:=rx
   cases y with
   | byt j=>obtain ⟨t',rfl⟩:=ry; exact PySem.W.ne_bytes (aO I q (congrArg not pI))
   | _=>exact absurd (show false=true from hs) S4
 | _=>cases y <;> exact absurd (show false=true from hs) S4
theorem FW:gO X (compareOp .Lt) (tq fun i j=>.bl (decide (i < j))):=Cm fun _ _ _ _ _ _ _ q=>lt_int q
theorem FV:gO X (compareOp .Gt) (tq fun i j=>.bl (decide (j < i))):=Cm fun _ _ _ _ _ _ _ q=>gt_int q
theorem FU:gO X (compareOp .GtE) (tq fun i j=>.bl (decide (j<=i))):=Cm fun _ _ _ _ _ _ _ q=>ge_int q
theorem vw (b:Expr){op:CmpOp}(h:op≠.In:=by decide)(h2:op≠.NotIn:=by decide):UP op b=false:=by
 have e1:(op == CmpOp.In)=false:=by cases op <;> first | rfl | exact absurd rfl h
 have e2:(op == CmpOp.NotIn)=false:=by cases op <;> first | rfl | exact absurd rfl h2
 cases b <;> simp [UP,e1,e2]
theorem yY {op:CmpOp}{r:R2}(ho:gO X (compareOp op) r)(ha:PE X a ta)(hb:PE X b tb)(hm:UP op b=false):PE X (.Compare a [op] [b] pos) (AD r ta tb):=by
 intro pins s σ H Q I h
 exact wpAny_Compare1 (AV ha hb I h fun v u s2 x y H2 I2 rx ry q=>ho pins s2 σ H2 x y v u Q I2 rx ry q) hm
def AG (t:TE):TT:=fun σ H Q=>t σ H fun x H'=>∃k,x=.bl k/\Q k H'
theorem zk {op:CmpOp}{r:R2}(ho:gO X (compareOp op) r)(ha:PE X a ta)(hb:PE X b tb)(hm:UP op b=false):PT X (.Compare a [op] [b] pos) (AG (AD r ta tb)):=by
 intro pins s σ H Q I h
 refine wpAny_isTrue_Compare1 (bf (ha pins s σ H _ I h) fun v s1 ⟨x,H1,I1,r1,q1⟩=>bf (hb pins s1 σ H1 _ I1 q1) fun u s2 ⟨y,H2,I2,r2,q2⟩=>
   bf (ho pins s2 σ H2 x y v u _ I2 r1 r2 q2) fun c s3 ⟨z,H3,I3,r3,k,e,q3⟩=>?_) hm
 subst e
 cases r3
 exact wpAny_truthy_bool ⟨H3,I3,q3⟩
theorem k9:(sizeLine:Nat) < 2 ^ 63:=by rw [sizeLine_eq]; decide
theorem vals1 {x:V}{us:List Value}(r:Vals [x] us):∃u,us=[u]/\RelV x u:=by
 cases r with
 | cons r1 r2=>cases r2; exact ⟨_,rfl,r1⟩
theorem vals2 {x y:V}{us:List Value}(r:Vals [x,y] us):∃u w',us=[u,w']/\RelV x u/\RelV y w':=by
 cases r with
 | cons r1 r2=>
   cases r2 with
   | cons r3 r4=>cases r4; exact ⟨_,_,rfl,r1,r3⟩
theorem qG (hc:X.calm=true):cO X (.builtin "max") (fun xs H Q=>∃i j,xs=[.int i,.int j]/\Q (.int (if j > i then j else i)) H):=by
 intro pins s σ H xs us Q I r h
 obtain ⟨i,j,rfl,q⟩:=h
 obtain ⟨u,w',rfl,⟨t,rfl⟩,⟨t',rfl⟩⟩:=vals2 r
 refine max_two_ints (I.ok.hd hc) fun h' tk k=>⟨_,H,I.kept k,?_,q⟩
 by_cases hj:j > i
 · rw [if_pos hj,if_pos hj]; exact ⟨_,rfl⟩
 · rw [if_neg hj,if_neg hj]; exact ⟨_,rfl⟩
theorem qF:cO X (.type "int") (fun xs H Q=>(∃i,xs=[.int i]/\Q (.int i) H)\/∃k,xs=[.bl k]/\Q (.int (if k then 1 else 0)) H):=by
 intro pins s σ H xs us Q I r h
 rcases h with ⟨i,rfl,q⟩ | ⟨k,rfl,q⟩
 · obtain ⟨u,rfl,t,rfl⟩:=vals1 r
   exact call_int_int ⟨.int i,H,I,⟨_,rfl⟩,q⟩
 · obtain ⟨u,rfl,r1⟩:=vals1 r
   cases r1
   exact call_int_bool ⟨.int (if k then 1 else 0),H,I.tok _,⟨_,rfl⟩,q⟩
end
structure nF (h:Heap)(x dx C:Addr)(mA:Str->Option Value):Prop where
 obj:h.get? x=some (T7 C dx)
 ns:h.Ns1 dx mA
 ne:dx≠x
theorem rH {h:Heap}{dx:Addr}{mA:Str->Option Value}(n:h.Ns1 dx mA):∃od,h.get? dx=some od/\∀name,U7 name od=some (mA name):=by
 obtain ⟨o,es,ep,ho,hd,hk,_,hm⟩:=n
 refine ⟨o,ho,fun name=>?_⟩
 have e:=hm name
 unfold nsFind findBy at e
 rw [← Array.find?_toList] at e
 unfold U7
 rw [hd]
 dsimp only
 split
 · rename_i y q
   rw [q] at e
   exact congrArg some e
 · rename_i q
   rw [q] at e
   have a:es.toList.any (·.refKey)=false:=by
     rw [List.any_eq_false]
     intro y hy
     obtain ⟨z,t,JH⟩:=hk y (Array.mem_toList_iff.mp hy)
     simp [DictEntry.refKey,JH]
   have a':¬ es.toList.any (·.refKey)=true:=by rw [a]; exact S4
   rw [if_neg a']
   exact congrArg some e
theorem nF.look {h:Heap}{x dx C:Addr}{mA:Str->Option Value}(I:nF h x dx C mA):∃od,PySem.W.InstAt h x (T7 C dx) C (some od)/\∀name,U7 name od=some (mA name):=
 let ⟨od,ho,hl⟩:=rH I.ns
 ⟨od,⟨I.obj,rfl,rfl,ho⟩,hl⟩
section
variable {prog:Program}{w:World}{A:Around}{E:Value->Shared->Prop}{s:Shared}{K:Sw}{x dx C f:Addr}{mA:Str->Option Value}{name:Str}{v:Value}
theorem get_map {expr:Bool}{Q:Value->Shared->Prop}(X:K.In s.heap)(I:nF s.heap x dx C mA)(hg:UW K C name=true)(hh:Vr K C=true)
   (ha:TX K (.ref C) name=some none) (hv:mA name=some v) (hv':PySem.W.handedIn v=true) (h:Q v { s with toks:=s.toks + 1 }) :
   wpAny (model prog w) A (getAttr (.ref x) name expr) Q E s:=by
 obtain ⟨od,J,hl⟩:=I.look
 exact PySem.W.get_value X J (Vc hg).1 (PySem.W.findObj_own hh ha rfl (by rw [hl,hv])) hv' h
theorem uh {pl:Sem Bool}{Q:Value×List Value->Shared->Prop}(X:K.In s.heap)(I:nF s.heap x dx C mA)(hg:UW K C name=true)
   (hf:TX K (.ref C) name=some (some (.ref f))) (ht:V7 K (.ref f)=true) (hv:mA name=none) (h:Q (.ref f,[.ref x]) s) :
   wpAny (model prog w) A (getMethod (.ref x) name pl) Q E s:=by
 obtain ⟨od,J,hl⟩:=I.look
 exact PySem.W.method_fn X J (Vc hg).1 (Vc hg).2 hf (beq_iff_eq.mp ht) (by show (U7 name od).map (·.isSome)=some false; rw [hl,hv]; rfl) h
theorem zy {ns:List Str}{Q:Unit->Shared->Prop}(X:K.In s.heap)(I:nF s.heap x dx C mA)
   (hs:TX K (.ref C) "__setattr__"=some (some (.builtin "object.__setattr__"))) (hp:Ws K C=true) (ht:VA K C name=some none) (hh:Vr K C=true)
   (hw:Wd mA ns) (hsz:ns.length<=sizeLine)
   (h:∀h',nF h' x dx C (fun y=>if y=name then some v else mA y)->Um dx s.heap h'->Q () { s with heap:=h',toks:=s.toks + 2 }) :
   wpAny (model prog w) A (setAttr (.ref x) name v) Q E s:=by
 obtain ⟨od,J,hl⟩:=I.look
 refine PySem.W.set_plain X J hs (PySem.W.osa_open (s:={ s with toks:=s.toks + 1 }) (r:=none) X J hp ht fun b=>?_)
 obtain ⟨cd,hc,rj⟩:=PySem.W.any_some hh
 have hx:s.heap.get? x=some ⟨.ref C,some dx,.plain,#[]⟩:=I.obj
 refine wpAny_bind (wpAny_pure (wpAny_bind (wpAny_bind (wpAny_loadPart hx (wpAny_bind (PySem.W.Looks.here (s:={ s with toks:=s.toks + 1 }) (PySem.W.looks_clsIn X hc) ?_))))))
 rw [rj]
 refine wpAny_pure (a:=some dx) (wpAny_bind (wpAny_pure (wpAny_bind ?_)))
 refine wpAny_nsSet1 (s:={ s with toks:=s.toks + 1 }) I.ns fun h' hn2 hs2=>?_
 obtain ⟨oD,RG,RF,Qe,Px,Pr⟩:=hn2.count (PySem.Within.cons name v hw)
 refine wpAny_bind (wpAny_lookBehind Qe (by rw [Px]; exact pastItsLine_dict (S3 Pr (by rw [Th]; omega))) ?_)
 exact wpAny_pure (h _ ⟨(hs2.2 _ (Ne.symm I.ne)).trans I.obj,hn2,I.ne⟩ hs2)
theorem vg {R:Result->Shared->Prop}{vs:List Value}{kw:List (Str×Value)}(X:K.In s.heap)(hm:PySem.W.makesIn K C=true)
   (hi:TX K (.ref C) "__init__"=some (some (.ref f))) (hf:PySem.W.typeIn K (.ref f)=some (.type "function"))
   (h:codeAny (model prog w) (A.under (.builtin "type.__call__" ⟨.ref C :: vs,kw⟩)) (.call (.ref f) ⟨.ref (s.heap.objs.size + 1) :: vs,kw⟩) (PySem.W.InitBack (s.heap.objs.size + 1) R)
     { s with heap:=(s.heap.push TL).push (T7 C s.heap.objs.size) }) :
   codeAny (model prog w) A (.call (.ref C) ⟨vs,kw⟩) R s:=by
 obtain ⟨hh,g,d,t,os⟩:=s
 exact PySem.W.make_core (PySem.W.makes_of X hm) (PySem.W.looks_findIn X hi) (fun self=>PySem.W.bind_fn X self hf) (.inl rfl) h
end
def dS (f:Str)(v:V):List (Str×V)->List (Str×V)
 | []=>[(f,v)]
 | (g,x) :: r=>if g=f then (g,v) :: r else (g,x) :: dS f v r
theorem c6 (f g:Str)(v:V):∀fs:List (Str×V),(dS f v fs).lookup g=if g=f then some v else fs.lookup g
 | []=>by
   show Ux g [(f,v)]=_
   by_cases h:g=f
   · have hb:(g == f)=true:=beq_iff_eq.mpr h
     simp only [Ux,hb,if_pos h]
   · have hb:(g == f)=false:=beq_eq_false_iff_ne.mpr h
     simp only [Ux,hb,if_neg h]
 | (k,x) :: r=>by
   have ih:=c6 f g v r
   rw [show dS f v ((k,x) :: r)=(if k=f then (k,v) :: r else (k,x) :: dS f v r) from rfl]
   by_cases hk:k=f
   · rw [if_pos hk]
     by_cases h:g=k
     · have hb:(g == k)=true:=beq_iff_eq.mpr h
       simp only [Ux,hb,if_pos (h.trans hk)]
     · have hb:(g == k)=false:=beq_eq_false_iff_ne.mpr h
       simp only [Ux,hb,if_neg (fun e:g=f=>h (e.trans hk.symm))]
   · rw [if_neg hk]
     by_cases h:g=k
     · have hb:(g == k)=true:=beq_iff_eq.mpr h
       simp only [Ux,hb,if_neg (fun e:g=f=>hk (h.symm.trans e))]
     · have hb:(g == k)=false:=beq_eq_false_iff_ne.mpr h
       simp only [Ux,hb]
       exact ih
theorem gE (f:Str)(v:V):∀fs:List (Str×V),f∈(dS f v fs).map (·.1)/\∀g,g∈fs.map (·.1)->g∈(dS f v fs).map (·.1)
 | []=>⟨by simp [dS],fun g h=>by simp at h⟩
 | (k,x) :: r=>by
   obtain ⟨i1,i2⟩:=gE f v r
   rw [show dS f v ((k,x) :: r)=(if k=f then (k,v) :: r else (k,x) :: dS f v r) from rfl]
   by_cases hk:k=f
   · rw [if_pos hk]
     subst hk
     exact ⟨by simp,fun g h=>by simpa using h⟩
   · rw [if_neg hk]
     refine ⟨?_,fun g h=>?_⟩
     · rw [Tz]
       exact TY _ i1
     · rw [Tz] at h ⊢
       rcases List.mem_cons.mp h with e | e
       · exact List.mem_cons.mpr (.inl e)
       · exact TY _ (i2 g e)
theorem dQ (f:Str)(v:V):∀fs:List (Str×V),(dS f v fs).length<=fs.length + 1
 | []=>by simp [dS]
 | (k,x) :: r=>by
   have ih:=dQ f v r
   rw [show dS f v ((k,x) :: r)=(if k=f then (k,v) :: r else (k,x) :: dS f v r) from rfl]
   by_cases hk:k=f
   · rw [if_pos hk,Th,Th]; omega
   · rw [if_neg hk,Th,Th]; omega
theorem dB.some_of {v:V}{o:Option Value}(r:dB (some v) o):∃u,o=some u/\RelV v u:=by
 cases o with
 | none=>exact (show False from r).elim
 | some u=>exact ⟨u,rfl,r⟩
theorem dB.none_of {o:Option Value}(r:dB none o):o=none:=by
 cases o with
 | none=>rfl
 | some u=>exact (show False from r).elim
theorem qY {v:V}{u:Value}(r:RelV v u):PySem.W.handedIn u=true:=by
 cases v with
 | non=>cases (show u=VY from r); rfl
 | bl b=>cases (show u=T8 b from r); rfl
 | int i=>obtain ⟨t,e⟩:=(show ∃t,u=UU i t from r); cases e; rfl
 | str x=>obtain ⟨t,e⟩:=(show ∃t,u=VL x t from r); cases e; rfl
 | byt b=>obtain ⟨t,e⟩:=(show ∃t,u=Value.bytes b t from r); cases e; rfl
 | flt b=>obtain ⟨t,e⟩:=(show ∃t,u=Wq b t from r); cases e; rfl
 | ref a=>cases (show u=Tq a from r); rfl
 | ty n=>cases (show u=Value.type n from r); rfl
section
variable {P:Program}{w:World}{H H':Hp}{h h':Heap}{a C dx:Addr}{fs fs':List (Str×V)}
theorem ie (hok:eY P w H h)(e:H a=some (.ins C dx fs)):∃mA,nF h a dx C mA/\(∀f,dB (fs.lookup f) (mA f))/\Wd mA (fs.map (·.1))/\fs.length<=1000/\H dx=some (.own a):=by
 obtain ⟨d,z,ne,ob,mA,n,r,q⟩:=(show aU P w H h a (.ins C dx fs) from hok a _ e)
 exact ⟨mA,⟨ob,n,ne⟩,r,q,z,d⟩
end
structure pd (K:Sw)(C:Addr):Prop where
 pg:UW K C Str.empty=true
 hd:Vr K C=true
 po:Ws K C=true
 sa:TX K (.ref C) "__setattr__"=some (some (.builtin "object.__setattr__"))
theorem pd.get {K:Sw}{C:Addr}(c:pd K C)(f:Str):UW K C f=true:=c.pg
def cC (K:Sw)(C:Addr)(f:Str):Prop:=TX K (.ref C) f=some none
theorem cC.GQ {K:Sw}{C:Addr}{f:Str}(n:cC K C f):VA K C f=some none:=by
 unfold VA
 rw [show TX K (.ref C) f=some none from n]
 rfl
structure Meth (K:Sw)(C:Addr)(m:Str)(f:Addr):Prop where
 at_:TX K (.ref C) m=some (some (.ref f))
 fn:V7 K (.ref f)=true
 kp:Ur K (.ref f)=true
section
variable {X:Cx}{pins:List (Addr×Obj)}{σ:St}{H:Hp}{s:Shared}{a C dx:Addr}{fs:List (Str×V)}{f:Str}{v:V}{A:Around}{E:Value->Shared->Prop}
theorem nX {b:Bool}{Q:Value->Shared->Prop}(I:Inv X pins σ H s)(e:H a=some (.ins C dx fs))(c:pd X.K C)(n:cC X.K C f)(l:fs.lookup f=some v)
   (h:∀u s',Inv X pins σ H s'->RelV v u->Q u s'):wpAny (model X.prog X.w) A (getAttr (.ref a) f b) Q E s:=by
 obtain ⟨mA,O,r,_,_,_⟩:=ie I.hok e
 obtain ⟨u,hu,ru⟩:=dB.some_of (v:=v) (o:=mA f) (by rw [← l]; exact r f)
 exact get_map I.ig O (c.get f) c.hd n hu (qY ru) (h u _ (I.tok _) ru)
theorem nY {m:Str}{g:Addr}{pl:Sem Bool}{Q:Value×List Value->Shared->Prop}(I:Inv X pins σ H s)(e:H a=some (.ins C dx fs))(c:pd X.K C)(k:Meth X.K C m g)(l:fs.lookup m=none)
   (h:Q (.ref g,[.ref a]) s):wpAny (model X.prog X.w) A (getMethod (.ref a) m pl) Q E s:=by
 obtain ⟨mA,O,r,_,_,_⟩:=ie I.hok e
 have hn:mA m=none:=dB.none_of (by rw [← l]; exact r m)
 exact uh I.ig O (c.get m) k.at_ k.fn hn h
theorem oR {y:V}{u:Value}{Q:Unit->Shared->Prop}(I:Inv X pins σ H s)(e:H a=some (.ins C dx fs))(c:pd X.K C)(n:cC X.K C f)(hl:fs.length < 1000)(ry:RelV y u)
   (h:∀s',Inv X pins σ (upd H a (.ins C dx (dS f y fs))) s'->Q () s'):wpAny (model X.prog X.w) A (setAttr (.ref a) f u) Q E s:=by
 obtain ⟨mA,O,r,wi,_,ho⟩:=ie I.hok e
 have hz:(fs.map (·.1)).length<=sizeLine:=by rw [Sv,sizeLine_eq]; omega
 refine zy I.ig O c.sa c.po n.GQ c.hd wi hz fun h' O' sb=>h _ ?_
 have hd:∃o,h'.get? dx=some o:=let ⟨o,_,_,e',_⟩:=O'.ns; ⟨o,e'⟩
 refine I.write (x:=a) (e:=dx) (by rw [e]; exact Tj) (.inr ho) (fun b q hb z=>(sb.2 b hb).trans z) hd ?_
 refine ⟨by rw [aj O.ne]; exact ho,?_,O.ne,O'.obj,_,O'.ns,fun g=>?_,fun g hg=>?_⟩
 · have:=dQ f y fs; omega
 · show dB ((dS f y fs).lookup g) (if g=f then some u else mA g)
   rw [c6]
   by_cases q:g=f
   · rw [if_pos q,if_pos q]; exact ry
   · rw [if_neg q,if_neg q]; exact r g
 · by_cases q:g=f
   · rw [q]; exact (gE f y fs).1
   · refine (gE f y fs).2 g (wi g fun z=>hg ?_)
     show (if g=f then some u else mA g)=none
     rw [if_neg q]; exact z
theorem Inv.made (I:Inv X pins σ H s):Inv X pins σ (upd (upd H s.heap.objs.size (.own (s.heap.objs.size + 1))) (s.heap.objs.size + 1) (.ins C s.heap.objs.size []))
   { s with heap:=(s.heap.push TL).push (T7 C s.heap.objs.size) }:=by
 have e1:(s.heap.push TL).get? s.heap.objs.size=some TL:=Tb s.heap rfl
 have e2:((s.heap.push TL).push (T7 C s.heap.objs.size)).get? (s.heap.objs.size + 1)=some (T7 C s.heap.objs.size):=by
   have:=Tb (s.heap.push TL) (o:=T7 C s.heap.objs.size) rfl
   rwa [Ui] at this
 have e3:(s.heap.push TL).Ns s.heap.objs.size (fun _=>none):=⟨TL,#[],_,e1,rfl,(fun e he=>absurd he (by simp)),fun _=>rfl⟩
 have I1:=I.laid (a:=s.heap.objs.size) (o:=.own (s.heap.objs.size + 1)) (h':=s.heap.push TL) (t':=s.toks) (fun b u q=>SN _ q) (Sz _) ⟨_,e1⟩
 refine I1.laid (a:=s.heap.objs.size + 1) (o:=.ins C s.heap.objs.size []) (t':=s.toks) (fun b u q=>SN _ q) (Nat.le_of_eq (Ui _ _)) ?_
 have ne:s.heap.objs.size≠s.heap.objs.size + 1:=Td (Nat.lt_succ_self _)
 refine ⟨by rw [aj ne,ae],TN _,ne,e2,fun _=>none,(Heap.Ns1.of_empty e3).at fun o q=>SN _ q,fun _=>Tj,fun y hy=>absurd rfl hy⟩
theorem xI {prog:Program}{w:World}{env:Env}{e:Expr}{f:Str}{pos:Pos}{s:Shared}{Q:Value->Shared->Prop}(hb:TU e f env (eval e env)=eval e env)
   (h:wpAny (model prog w) A (eval e env) (fun o s₁=>wpAny (model prog w) A (getAttr o f true) Q E s₁) E s):wpAny (model prog w) A (eval (.Attribute e f pos) env) Q E s:=
 Attribute_any_ h (by rw [arm_eval_Attribute,hb])
end
def GH (K:Sw)(ta:TE)(f:Str):TE:=fun σ H Q=>ta σ H fun x H1=>∃a C dx fs v,x=.ref a/\H1 a=some (.ins C dx fs)/\pd K C/\cC K C f/\fs.lookup f=some v/\Q v H1
def Gu (K:Sw)(ta tv:TE)(f:Str):TS:=fun D σ H=>tv σ H fun y H1=>ta σ H1 fun x H2=>∃a C dx fs,x=.ref a/\H2 a=some (.ins C dx fs)/\pd K C/\cC K C f/\fs.length < 1000 /\
 D.nx σ (upd H2 a (.ins C dx (dS f y fs)))
section
variable {X:Cx}{o e value:Expr}{f:Str}{pos pos' Lw:Pos}{ta tv:TE}
theorem CD (he:PE X e ta)(hb:TU e f X.env (eval e X.env)=eval e X.env):PE X (.Attribute e f pos) (GH X.K ta f):=by
 intro pins s σ H Q I h
 refine xI hb (bf (he pins s σ H _ I h) fun u s1 ⟨x,H1,I1,rx,a,C,dx,fs,v,ex,ea,c,n,l,q⟩=>?_)
 subst ex
 obtain rfl:u=Tq a:=rx
 exact nX I1 ea c n l fun u' s2 I2 ru=>⟨v,H1,I2,ru,q⟩
theorem CZ (ha:PE X o ta)(hv:PE X value tv)(hs:Ul value (some (.Attribute o f pos')) pos.line X.env=pure false):PS X (.Assign [.Attribute o f pos'] value pos) (Gu X.K ta tv f):=by
 intro pins s σ H D I h
 refine plainObj_wpAny_Assign_Attribute (bf (hv pins s σ H _ I h) fun u s1 ⟨y,H1,I1,ry,q⟩=>bf (ha pins s1 σ H1 _ I1 q) fun ov s2 ⟨x,H2,I2,rx,a,C,dx,fs,ex,ea,c,n,l,q2⟩=>?_) hs
 subst ex
 obtain rfl:ov=Tq a:=rx
 exact oR I2 ea c n l ry fun s3 I3=>⟨σ,_,I3,q2⟩
end
section
variable {X:Cx}{pins:List (Addr×Obj)}{σ:St}{H:Hp}{s:Shared}{A:Around}{E:Value->Shared->Prop}{Q:Value->Shared->Prop}{c:Value}{b:Bool}
inductive dm (K:Sw) (H:Hp):V->Value->Prop where
 | non:dm K H .non (.type "NoneType")
 | bl (x:Bool):dm K H (.bl x) (.type "bool")
 | int (i:Int):dm K H (.int i) (.type "int")
 | str (x:Str):dm K H (.str x) (.type "str")
 | flt (x:UInt64):dm K H (.flt x) (.type "float")
 | lst {a:Addr} {xs:List V} (e:H a=some (.lst xs)):dm K H (.ref a) (.type "list")
 | frz {a:Addr} {o:Obj} {xs:List V} (e:H a=some (.frz o (.lst xs))):dm K H (.ref a) (.type "list")
 | tup {a:Addr} {xs:List V} (e:H a=some (.tup xs)):dm K H (.ref a) (.type "tuple")
 | dK {a:Addr} {kvs:List (Key×V)} (e:H a=some (.dK kvs)):dm K H (.ref a) (.type "dict")
 | dT {a:Addr} {kvs:List (List Key×V)} (e:H a=some (.dT kvs)):dm K H (.ref a) (.type "dict")
 | ins {a C dx:Addr} {fs:List (Str×V)} (e:H a=some (.ins C dx fs)) (cl:pd K C) (ha:TX K (.ref C) "__class__"=some (some (.builtin "object.__class__")))
     (hn:PySem.W.specialIn K (.builtin "object.__class__") "__get__"=some (some (.builtin "getset_descriptor.__get__"))) (htk:PySem.W.takesIn K (.builtin "object.__class__")=some true)
     (hm:PySem.W.mroIn K C (.type "object")=some true):dm K H (.ref a) (.ref C)
theorem rD {x:V}{u t:Value}(I:Inv X pins σ H s)(rx:RelV x u)(ty:dm X.K H x t)(e:U8 X.K t c=some b)(h:∀tk,Q (.bool b) { s with toks:=tk }) :
   wpAny (model X.prog X.w) A (call (.builtin "isinstance") [u,c]) Q E s:=by
 cases ty with
 | non=>cases (show u=VY from rx); exact TF PySem.W.kitx_none I.ig Tj e (fun z=>nomatch z) h
 | bl y=>cases (show u=T8 y from rx); exact TF PySem.W.kitx_bool I.ig Tj e (fun z=>nomatch z) h
 | int i=>obtain ⟨t,q⟩:=(show ∃t,u=UU i t from rx); cases q; exact TF PySem.W.kitx_int I.ig Tj e (fun z=>nomatch z) h
 | str y=>obtain ⟨t,q⟩:=(show ∃t,u=VL y t from rx); cases q; exact TF PySem.W.kitx_str I.ig Tj e (fun z=>nomatch z) h
 | flt y=>obtain ⟨t,q⟩:=(show ∃t,u=Wq y t from rx); cases q; exact TF PySem.W.kitx_float I.ig Tj e (fun z=>nomatch z) h
 | @lst a xs ea=>
   cases (show u=Tq a from rx)
   obtain ⟨_,_,n,_,h1⟩:=(show aU X.prog X.w H s.heap a (.lst xs) from I.hok a _ ea)
   exact TF Wt I.ig ⟨_,h1,rfl⟩ e (fun z=>nomatch z) h
 | @frz a ob xs ea=>
   cases (show u=Tq a from rx)
   obtain ⟨_,_,_,n,_,h1⟩:=(show aU X.prog X.w H s.heap a (.frz ob (.lst xs)) from I.hok a _ ea)
   exact TF Wt I.ig ⟨_,h1,rfl⟩ e (fun z=>nomatch z) h
 | @tup a xs ea=>
   cases (show u=Tq a from rx)
   obtain ⟨_,_,_,p⟩:=(show aU X.prog X.w H s.heap a (.tup xs) from I.hok a _ ea)
   obtain ⟨o,h1,h2,_⟩:=p
   exact TF PySem.W.kitx_tuple I.ig ⟨o,h1,h2⟩ e (fun z=>nomatch z) h
 | @dK a kvs ea=>
   cases (show u=Tq a from rx)
   obtain ⟨_,_,vs,_,p⟩:=(show aU X.prog X.w H s.heap a (.dK kvs) from I.hok a _ ea)
   obtain ⟨o,es,ep,h1,h2,_⟩:=p
   exact TF Wu I.ig ⟨o,h1,h2.1⟩ e (fun z=>nomatch z) h
 | @dT a kvs ea=>
   cases (show u=Tq a from rx)
   obtain ⟨_,_,xs,_,o,es,ep,h1,h2,_⟩:=(show aU X.prog X.w H s.heap a (.dT kvs) from I.hok a _ ea)
   exact TF Wu I.ig ⟨o,h1,h2.1⟩ e (fun z=>nomatch z) h
 | @ins a C dx fs ea cl ha hn htk hm=>
   cases (show u=Tq a from rx)
   obtain ⟨mA,O,_⟩:=ie I.hok ea
   obtain ⟨od,J,_⟩:=O.look
   exact TF (PySem.W.kitx_own (cl.get _) cl.hd ha hn htk hm) I.ig J e (fun z=>nomatch z) h
end
structure b5 (k:Nat)(A:Around):Prop where
 hd:A.handled=none
 dp:A.depth + 3 * k + 5 < recursionLimit
 un:A.units + 16 * k + 200 < cLine
theorem b5.mono {j k:Nat}{A:Around}(r:b5 k A)(h:j<=k):b5 j A:=⟨r.hd,by have:=r.dp; omega,by have:=r.un; omega⟩
theorem b5.deeper {k:Nat}{A:Around}(r:b5 (k + 1) A)(env:Env):b5 k (A.deeper env):=
 ⟨r.hd,by have:=r.dp; show A.depth + 1 + 3 * k + 5 < _; omega,by have:=r.un; show A.units + 3 + 16 * k + 200 < _; omega⟩
theorem oy {A:Around}{C:Addr}{us:List Value}{kw:List (Str×Value)}:(A.under (.builtin "type.__call__" ⟨.ref C :: us,kw⟩)).depth=A.depth + 1:=by
 first | rfl | simp [Wb,Code.weight,Code.isCreation,Code.isGuard,Code.isCaller,Code.frames,Wm,guardIds]
theorem oz {A:Around}{C:Addr}{us:List Value}{kw:List (Str×Value)}:(A.under (.builtin "type.__call__" ⟨.ref C :: us,kw⟩)).units=A.units + 1:=by
 first | rfl | simp [Wb,Code.cUnits,Code.frames,Wm]
theorem b5.make {k:Nat}{A:Around}(r:b5 (k + 1) A)(C:Addr)(us:List Value)(kw:List (Str×Value)):b5 k (A.under (.builtin "type.__call__" ⟨.ref C :: us,kw⟩)):=
 ⟨r.hd,by have:=r.dp; rw [oy]; omega,by have:=r.un; rw [oz]; omega⟩
theorem b5.depth {k:Nat}{A:Around}(r:b5 k A):A.depth < recursionLimit:=by have:=r.dp; omega
theorem b5.units {k:Nat}{A:Around}(r:b5 k A):A.units + 64 < cLine:=by have:=r.un; omega
def Dq:TA:=fun _ H Q=>Q [] H
def wZ (ta:TE)(tr:TA):TA:=fun σ H Q=>ta σ H fun x H1=>tr σ H1 fun xs H2=>Q (x :: xs) H2
section
variable {X:Cx}{e:Expr}{es:List Expr}{te:TE}{t:TA}{pos:Pos}
theorem Cy:PA X [] Dq:=fun _ _ _ _ H Q I h=>Vx ⟨[],H,I,.nil,h⟩
theorem yS (ha:PE X e te)(hr:PA X es t)(hs:starEach (e :: es) X.env=(false,eval e X.env) :: starEach es X.env:=by rfl):PA X (e :: es) (wZ te t):=by
 intro pos pins s σ H Q I h
 rw [hs]
 show wpAny _ _ (spliced ((false,eval e X.env) :: backTo pos (starEach es X.env))) _ _ s
 refine UO (bf (ha pins s σ H _ I h) fun u s1 ⟨x,H1,I1,r1,q1⟩=>?_)
 exact bf (hr pos pins s1 σ H1 _ I1 q1) fun us s2 ⟨xs,H2,I2,r2,q2⟩=>⟨x :: xs,H2,I2,.cons r1 r2,q2⟩
def Dr (t:TA):TE:=fun σ H Q=>t σ H fun xs H1=>xs.length<=sizeLine/\∀p,H1 p=none->Q (.ref p) (upd H1 p (.tup xs))
def Dp (t:TA):TE:=fun σ H Q=>t σ H fun xs H1=>xs.length<=sizeLine/\∀p,H1 p=none->Q (.ref p) (upd H1 p (.lst xs))
theorem CL {x1}(h:PA X es t):PE X (.Tuple es x1 pos) (Dr t):=by
 intro pins s σ H Q I hq
 refine wpAny_Tuple_spliced (bf (h pos pins s σ H _ I hq) fun us s1 ⟨xs,H1,I1,r,z,q⟩=>⟨by rw [← r.length]; exact z,?_⟩)
 have hf:H1 s1.heap.objs.size=none:=I1.hok.fresh (Sz _)
 refine ⟨.ref s1.heap.objs.size,upd H1 s1.heap.objs.size (.tup xs),I1.laid (t':=s1.toks) (fun b u e=>SN _ e) (Sz _) ?_,rfl,q _ hf⟩
 exact ⟨z,us,r,⟨_,Tb _ rfl,rfl,_,rfl⟩⟩
theorem CG (h:PA X es t):PE X (.List es pos) (Dp t):=by
 intro pins s σ H Q I hq
 refine wpAny_List_spliced (bf (h pos pins s σ H _ I hq) fun us s1 ⟨xs,H1,I1,r,z,q⟩=>⟨by rw [← r.length]; exact z,?_⟩)
 have hf:H1 s1.heap.objs.size=none:=I1.hok.fresh (Sz _)
 refine ⟨.ref s1.heap.objs.size,upd H1 s1.heap.objs.size (.lst xs),I1.laid (t':=s1.toks) (fun b u e=>SN _ e) (Sz _) ?_,rfl,q _ hf⟩
 exact ⟨z,us,0,r,Tb _ rfl⟩
end
abbrev Sp:=List V->Hp->VK->XK->Prop
abbrev tG:=List Env->Hp->Shared->XK->Value->Shared->Prop
structure nC (P:Program)(w:World)(K:Sw)(mg:Str->Option Value)(base:Heap)(A:Around)(outer:List Env)(s:Shared)(H:Hp):Prop where
 frames:A.frames=some outer
 mod:Mod K mg base
 bs:∀b o,base.get? b=some o->s.heap.get? b=some o/\H b=none
 bsz:base.objs.size<=s.heap.objs.size
 f9:s.heap.FunFrames base outer
 frf:∀b∈ub outer,H b=none
 hok:eY P w H s.heap
 bare:AllBare s.gens
def CE (outer:List Env)(P:Program)(w:World)(H:Hp)(s:Shared)(Q:VK)(u:Value)(s':Shared):Prop:=
 ∃v H',s'.os=s.os/\AllBare s'.gens/\Un (ub outer) [] H H' s.heap s'.heap/\eY P w H' s'.heap/\RelV v u/\Q v H'
def CR (CX:tG)(outer:List Env)(P:Program)(w:World)(H:Hp)(s:Shared)(Q:VK)(E:XK)(r:Result)(s':Shared):Prop:=
 match r with
 | .ok (.ret u)=>CE outer P w H s Q u s'
 | .ok _=>False
 | .error e=>CX outer H s E e s'
structure aN (P:Program)(w:World)(K:Sw)(mg:Str->Option Value)(base:Heap)(CX:tG)(k:Nat)(f:Addr)(fd:S9)(ps:List Str)(sp:Sp):Prop where
 len:∀vs H Q E,sp vs H Q E->vs.length=ps.length
 run:∀(A:Around) (outer:List Env) (s:Shared) (H:Hp) (args:Args) (us:List Value) (vs:List V) (Q:VK) (E:XK),b5 k A->nC P w K mg base A outer s H->BindsTo s fd args (ps.zip us)->Vals vs us->sp vs H Q E ->
   codeAny (model P w) A (.call (.ref f) args) (CR CX outer P w H s Q E) s
theorem aN.mono {P:Program}{w:World}{K:Sw}{mg:Str->Option Value}{base:Heap}{CX:tG}{j k:Nat}{f:Addr}{fd:S9}{ps:List Str}{sp:Sp}(F:aN P w K mg base CX j f fd ps sp)(h:j<=k) :
   aN P w K mg base CX k f fd ps sp:=⟨F.len,fun A outer s H args us vs Q E hr=>F.run A outer s H args us vs Q E (hr.mono h)⟩
theorem nC.make {P:Program}{w:World}{K:Sw}{mg:Str->Option Value}{base:Heap}{A:Around}{outer:List Env}{s:Shared}{H:Hp}(e:nC P w K mg base A outer s H)(C:Addr)(us:List Value)(kw:List (Str×Value)) :
   nC P w K mg base (A.under (.builtin "type.__call__" ⟨.ref C :: us,kw⟩)) outer s H:=⟨by first | exact e.frames | (simpa [Wb,Code.envs,Wm,pushEnvs] using e.frames),e.mod,e.bs,e.bsz,e.f9,e.frf,e.hok,e.bare⟩
section
variable {X:Cx}{pins:List (Addr×Obj)}{σ:St}{H:Hp}{s s':Shared}
theorem Inv.Ew (I:Inv X pins σ H s):nC X.prog X.w X.K X.mg X.base X.A X.stack s H:=
 ⟨I.ok.frames,I.ok.mod,I.bs,S3 I.ok.bsz I.sz,I.stack,I.qz,I.hok,I.bare⟩
theorem Inv.after {Q:VK}{u:Value}(I:Inv X pins σ H s)(h:CE X.stack X.prog X.w H s Q u s'):EP X pins σ Q u s':=by
 obtain ⟨v,H',os,bare,un,hok,r,q⟩:=h
 obtain ⟨hh,g,d,t,QW⟩:=s'
 obtain rfl:QW=s.os:=os
 exact ⟨v,H',I.call (h':=hh) (g':=g) (d':=d) (t':=t) (ch:=[]) un hok bare (fun b z=>absurd z (by simp)),r,q⟩
end
def wY (sp:Sp)(dvs:List V)(E:XK)(t:TA):TE:=fun σ H Q=>t σ H fun vs H1=>sp (vs++dvs) H1 Q E
def Ay (C:Addr)(m:Str)(sp:Sp)(dvs:List V)(E:XK)(ta:TE)(t:TA):TE:=fun σ H Q=>ta σ H fun x H1=>∃a dx fs,x=.ref a/\H1 a=some (.ins C dx fs)/\fs.lookup m=none /\
 t σ H1 fun vs H2=>sp (x :: (vs++dvs)) H2 Q E
def Ax (C:Addr)(sp:Sp)(dvs:List V)(E:XK)(t:TA):TE:=fun σ H Q=>t σ H fun vs H1=>∀x dx,H1 x=none->H1 dx=none->dx≠x ->
 sp (.ref x :: (vs++dvs)) (upd (upd H1 dx (.own x)) x (.ins C dx [])) (fun v H2=>v=.non/\Q (.ref x) H2) E
def Binds (K:Sw)(fd:S9)(ps:List Str)(ds:List Value):Prop:=
 ∀(s:Shared) (us:List Value),K.In s.heap->(us++ds).length=ps.length->BindsTo s fd ⟨us,[]⟩ (ps.zip (us++ds))
theorem Binds.all {K:Sw}{fd:S9}{ps:List Str}(h:∀us:List Value,us.length=ps.length->V8 fd ⟨us,[]⟩ = pure (ps.zip us)):Binds K fd ps []:=fun s us _ hl=>by
 rw [Tu] at hl ⊢
 exact .of_eq (h us hl)
def Passes (CX:tG)(X:Cx)(E:XK):Prop:=∀(pins:List (Addr×Obj)) (σ:St) (H:Hp) (s:Shared) (e:Value) (s':Shared),Inv X pins σ H s->CX X.stack H s E e s'->X.xe e s'
section
variable {X:Cx}{CX:tG}{k:Nat}{f C:Addr}{fd:S9}{ps:List Str}{sp:Sp}{dvs:List V}{ds:List Value}{E:XK}{x m:Str}{p pos apos:Pos}{e o:Expr}{es:List Expr}{ta:TE}{t:TA}
theorem wg {pins:List (Addr×Obj)}{σ:St}{H:Hp}{s:Shared}{Q:VK}{us:List Value}{vs:List V}(F:aN X.prog X.w X.K X.mg X.base CX k f fd ps sp)(hr:b5 k X.A)(hb:Binds X.K fd ps ds)(hd:Vals dvs ds)(hx:Passes CX X E)
   (I:Inv X pins σ H s) (r:Vals vs us) (h:sp (vs++dvs) H Q E):wpAny (model X.prog X.w) X.A (call (.ref f) us) (EP X pins σ Q) X.xe s:=by
 have r2:Vals (vs++dvs) (us++ds):=r.append hd
 have hl:(us++ds).length=ps.length:=by rw [← r2.length]; exact F.len _ _ _ _ h
 refine wpAny_call (codeAny_mono (F.run X.A X.stack s H ⟨us,[]⟩ (us++ds) (vs++dvs) Q E hr I.Ew (hb s us I.ig hl) r2 h) fun r s' hq=>?_)
 cases r with
 | error e=>exact hx pins σ H s e s' I hq
 | ok fl=>
   cases fl with
   | ret u=>exact I.after hq
   | next=>exact Ub hq
   | brk=>exact Ub hq
   | cont=>exact Ub hq
theorem yX (F:aN X.prog X.w X.K X.mg X.base CX k f fd ps sp)(hr:b5 k X.A)(hg:Gl X x)(hm:X.mg x=some (.ref f))(hk:Ur X.K (.ref f)=true)(hb:Binds X.K fd ps ds)(hd:Vals dvs ds)(hx:Passes CX X E)
   (ha:PA X (e :: es) t) (hdb:(x == ("__debug__":Str))=false:=by decide) (he:starEach (e :: es) X.env=(false,eval e X.env) :: starEach es X.env:=by rfl) (hpl:(backTo pos (starEach es X.env)).any (·.1)=false:=by rfl) :
   PE X (.Call (.Name x p) (e :: es) [] pos) (wY sp dvs E t):=by
 intro pins s σ H Q I h
 refine wpAny_Call_Name_kw (pS I hg hm ?_ hdb)
 refine Vi (h₀:=X.base) I.ok.mod.kin hk (bf (ha pos pins s σ H _ I h) fun us s1 ⟨vs,H1,I1,r,q⟩=>⟨I1.ig,?_⟩) he hpl
 exact wg F hr hb hd hx I1 r q
theorem y7 {pl:Sem Bool}(he:PE X o ta)(c:pd X.K C)(hm:Meth X.K C m f)(F:aN X.prog X.w X.K X.mg X.base CX k f fd ps sp)(hr:b5 k X.A)(hb:Binds X.K fd ps ds)(hd:Vals dvs ds)(hx:Passes CX X E)(ha:PA X (e :: es) t)
   (hst:starEach (e :: es) X.env=(false,eval e X.env) :: starEach es X.env:=by rfl) (hpl:(backTo pos (starEach es X.env)).any (·.1)=false:=by rfl)
   (ht:eval (.Call (.Attribute o m apos) (e :: es) [] pos) X.env=(do
     let ov ← eval o X.env
     standAt apos.atName
     let (f,first) ← holding [ov] (getMethod ov m pl)
     callWith pos f first (backTo pos (starEach (e :: es) X.env)) (backToKw pos (keywordEach [] X.env))):=by rfl) :
   PE X (.Call (.Attribute o m apos) (e :: es) [] pos) (Ay C m sp dvs E ta t):=by
 intro pins s σ H Q I h
 refine PySem.W.methodCall_KW (pl:=pl) (bf (he pins s σ H _ I h) fun u s1 ⟨x,H1,I1,rx,a,dx,fs,ex,ea,l,q⟩=>?_) ht
 subst ex
 obtain rfl:u=Tq a:=rx
 refine nY I1 ea c hm l ?_
 refine Vi (first:=[.ref a]) (h₀:=X.base) I.ok.mod.kin hm.kp (bf (ha pos pins s1 σ H1 _ I1 q) fun us s2 ⟨vs,H2,I2,r,q2⟩=>⟨I2.ig,?_⟩) hst hpl
 exact wg (us:=.ref a :: us) (vs:=.ref a :: vs) F hr hb hd hx I2 (.cons rfl r) q2
structure Mk (K:Sw)(C f:Addr):Prop where
 makes:PySem.W.makesIn K C=true
 init:TX K (.ref C) "__init__"=some (some (.ref f))
 fn:V7 K (.ref f)=true
 kp:Ur K (.ref C)=true
theorem wj {pins:List (Addr×Obj)}{σ:St}{H:Hp}{s:Shared}{Q:VK}{us:List Value}{vs:List V}(M:Mk X.K C f)(F:aN X.prog X.w X.K X.mg X.base CX k f fd ps sp)(hr:b5 (k + 1) X.A)(hb:Binds X.K fd ps ds)(hd:Vals dvs ds)
   (hx:Passes CX X E) (I:Inv X pins σ H s) (r:Vals vs us)
   (h:∀x dx,H x=none->H dx=none->dx≠x->sp (.ref x :: (vs++dvs)) (upd (upd H dx (.own x)) x (.ins C dx [])) (fun v H2=>v=.non/\Q (.ref x) H2) E) :
   wpAny (model X.prog X.w) X.A (call (.ref C) us) (EP X pins σ Q) X.xe s:=by
 have hq:=h (s.heap.objs.size + 1) s.heap.objs.size (I.hok.fresh (Nat.le_succ _)) (I.hok.fresh (Sz _)) (Td (Nat.lt_succ_self _))
 have I2:=Inv.made (C:=C) I
 have r2:Vals (V.ref (s.heap.objs.size + 1) :: (vs++dvs)) (Tq (s.heap.objs.size + 1) :: (us++ds)):=.cons rfl (r.append hd)
 have hl:(Tq (s.heap.objs.size + 1) :: us++ds).length=ps.length:=by
   have e:=r2.length
   rw [F.len _ _ _ _ hq] at e
   exact e.symm
 refine wpAny_call (vg (f:=f) I.ig M.makes M.init (beq_iff_eq.mp M.fn) (codeAny_mono (F.run _ X.stack _ _ ⟨Tq (s.heap.objs.size + 1) :: us,[]⟩ (Tq (s.heap.objs.size + 1) :: (us++ds)) _ _ E (hr.make C us [])
   (I2.Ew.make C us []) (hb _ (Tq (s.heap.objs.size + 1) :: us) I2.ig hl) r2 hq) fun r s' Fl=>?_))
 cases r with
 | error e=>exact hx pins σ _ _ e s' I2 Fl
 | ok fl=>
   cases fl with
   | ret u=>
     obtain ⟨v,H',I3,rv,ev,q3⟩:=I2.after Fl
     subst ev
     exact ⟨rv,⟨V.ref (s.heap.objs.size + 1),H',I3,rfl,q3⟩⟩
   | next=>exact Ub Fl
   | brk=>exact Ub Fl
   | cont=>exact Ub Fl
theorem y6 (M:Mk X.K C f)(F:aN X.prog X.w X.K X.mg X.base CX k f fd ps sp)(hr:b5 (k + 1) X.A)(hg:Gl X x)(hm:X.mg x=some (.ref C))(hb:Binds X.K fd ps ds)(hd:Vals dvs ds)(hx:Passes CX X E)
   (ha:PA X (e :: es) t) (hdb:(x == ("__debug__":Str))=false:=by decide) (he:starEach (e :: es) X.env=(false,eval e X.env) :: starEach es X.env:=by rfl) (hpl:(backTo pos (starEach es X.env)).any (·.1)=false:=by rfl) :
   PE X (.Call (.Name x p) (e :: es) [] pos) (Ax C sp dvs E t):=by
 intro pins s σ H Q I h
 refine wpAny_Call_Name_kw (pS I hg hm ?_ hdb)
 refine Vi (h₀:=X.base) I.ok.mod.kin M.kp (bf (ha pos pins s σ H _ I h) fun us s1 ⟨vs,H1,I1,r,q⟩=>⟨I1.ig,?_⟩) he hpl
 exact wj M F hr hb hd hx I1 r q
end
structure aE (N P:List Str)(sc:Scope):Prop where
 kind:sc.kind=.function
 co:sc.isCoroutine=false
 gen:sc.isGenerator=false
 nd:N.Nodup
 pre:N.take P.length=P
 par:∀x∈P,sc.names.lookup x=some .local\/sc.names.lookup x=some .cell
 nofree:∀y∈sc.names,y.2≠.free
theorem jN {kindOf:Str->Option UD}{x:Str}:∀{binds:List (Str×Value)} {m:Str->Option Value},(∀v,(x,v) ∉ binds)->bindL kindOf binds m x=m x
 | [],_,_=>rfl
 | (n,v) :: r,m,h=>by
   unfold bindL
   rw [jN fun w hw=>h w (TY _ hw)]
   split
   · have:x≠n:=by rintro rfl; exact h v TV
     simp [this]
   · rfl
theorem jL {kindOf:Str->Option UD}{x:Str}:∀{binds:List (Str×Value)} {m:Str->Option Value},(∀v,(x,v) ∉ binds)->bindC kindOf binds m x=m x
 | [],_,_=>rfl
 | (n,v) :: r,m,h=>by
   unfold bindC
   rw [jL fun w hw=>h w (TY _ hw)]
   split
   · rfl
   · have:x≠n:=by rintro rfl; exact h v TV
     simp [this]
theorem jM {kindOf:Str->Option UD}{x:Str}{v:Value}:∀{P:List Str} {vs:List Value} {i:Nat} {m:Str->Option Value},P.Nodup->P[i]? = some x->vs[i]? = some v->kindOf x=some .local ->
   bindL kindOf (P.zip vs) m x=some v
 | [],_,_,_,_,h,_,_=>by simp at h
 | _ :: _,[],_,_,_,_,h,_=>by simp at h
 | p :: P,w :: vs,0,m,nd,h1,h2,hk=>by
   simp at h1 h2; subst h1; subst h2
   show bindL kindOf ((p,w) :: P.zip vs) m p=_
   unfold bindL
   rw [jN fun v hv=>(List.nodup_cons.mp nd).1 (UL hv).1,if_pos hk]
   simp
 | p :: P,w :: vs,i + 1,m,nd,h1,h2,hk=>by
   show bindL kindOf ((p,w) :: P.zip vs) m x=_
   unfold bindL
   exact jM (i:=i) (List.nodup_cons.mp nd).2 (by simpa using h1) (by simpa using h2) hk
theorem jK {kindOf:Str->Option UD}{x:Str}{v:Value}:∀{P:List Str} {vs:List Value} {i:Nat} {m:Str->Option Value},P.Nodup->P[i]? = some x->vs[i]? = some v->kindOf x≠some .local ->
   bindC kindOf (P.zip vs) m x=some v
 | [],_,_,_,_,h,_,_=>by simp at h
 | _ :: _,[],_,_,_,_,h,_=>by simp at h
 | p :: P,w :: vs,0,m,nd,h1,h2,hk=>by
   simp at h1 h2; subst h1; subst h2
   show bindC kindOf ((p,w) :: P.zip vs) m p=_
   unfold bindC
   rw [jL fun v hv=>(List.nodup_cons.mp nd).1 (UL hv).1,if_neg hk]
   simp
 | p :: P,w :: vs,i + 1,m,nd,h1,h2,hk=>by
   show bindC kindOf ((p,w) :: P.zip vs) m x=_
   unfold bindC
   exact jK (i:=i) (List.nodup_cons.mp nd).2 (by simpa using h1) (by simpa using h2) hk
def start (N:List Str)(vs:List V):St:=vs.map some++TC (N.length - vs.length) none
def qM (CX:tG)(P:Program)(w:World)(K:Sw)(mg:Str->Option Value)(base:Heap)(N:List Str)(qual:Str)(scope:Scope)(f:Addr)(cd:Value)(A:Around)(outer:List Env)(s:Shared)(H:Hp)(E:XK):Cx where
 prog:=P
 w:=w
 K:=K
 mg:=mg
 base:=base
 A:=A.deeper (envOfC qual scope s.heap.objs.size f cd)
 N:=N
 s₀:=s
 H₀:=H
 env:=envOfC qual scope s.heap.objs.size f cd
 outer:=outer
 stack:=envOfC qual scope s.heap.objs.size f cd :: outer
 ex:=[]
 calm:=true
 fn:=fun _=>true
 pn:=[]
 xe:=fun e s'=>wpAny (model P w) (A.deeper (envOfC qual scope s.heap.objs.size f cd)) (leaving (envOfC qual scope s.heap.objs.size f cd) e) (fun _ Lo=>CX outer H s E e Lo) (fun e' Lo=>CX outer H s E e' Lo) s'
theorem lW {sc:Scope}{n:Nat}{x:Str}(h:sc.names.lookup x=some .cell):∃c,(cellsFrom n sc.names []).lookup x=some c:=by
 have q:=VZ sc.names n [] (.inl h)
 exact Option.isSome_iff_exists.mp q
theorem rB {CX:tG}{P:Program}{w:World}{K:Sw}{mg:Str->Option Value}{base:Heap}{N ps:List Str}{qual:Str}{scope:Scope}{f:Addr}{cd:Value}{A:Around}{outer:List Env}{s s1:Shared}{H:Hp}{E:XK}{us:List Value}{vs:List V}
   (S:aE N ps scope) (hd:A.handled=none) (e0:nC P w K mg base A outer s H) (hl:vs.length=ps.length) (r:Vals vs us)
   (x:InCallC s s.heap.objs.size (bindL (envOfC qual scope s.heap.objs.size f cd).kindOf (ps.zip us) fun _=>none) (cellsFrom (s.heap.objs.size + 1) scope.names []) (bindC (envOfC qual scope s.heap.objs.size f cd).kindOf (ps.zip us) fun _=>none) s1) :
   Inv (qM CX P w K mg base N qual scope f cd A outer s H E) [] (start N vs) H s1:=by
 have hpl:ps.length<=N.length:=by have:=congrArg List.length S.pre; rw [SH] at this; omega
 obtain ⟨h1,tk,rfl,hk⟩:=x.done
 have noA:∀b:Addr,b ∉ (qM CX P w K mg base N qual scope f cd A outer s H E).ex:=fun b z=>absurd (show b∈([]:List Addr) from z) (by simp)
 refine ⟨⟨e0.mod,S.kind,rfl,rfl,Sz _,fun y z c h1 h2=>?_,fun y hy=>?_,fun y c _ h=>?_,fun _=>hd,Around.frames_deeper e0.frames,.inr ⟨rfl,rfl⟩,fun b z=>absurd z (noA b),e0.bs,e0.bsz,fun b _ _=>noA b,fun b z=>absurd z (noA b),e0.f9,e0.frf⟩,
   rfl,e0.bare,Un.kept hk,⟨_,x.toInCall.ns,fun i y v h1 h2 h3=>?_⟩,fun y c h=>⟨_,x.cell y c h⟩,e0.hok.fresh (Sz _),fun y c h=>?_,fun p hp=>absurd (show p∈([]:List (Addr×Obj)) from hp) (by simp),e0.hok.kept hk,?_⟩
 · exact name_of_addr x.apart (Tx h1) (Tx h2)
 · have hy:scope.names.lookup y=some .cell\/scope.names.lookup y=some .free:=hy
   rcases hy with hy | hy
   · exact lW hy
   · exact absurd rfl (S.nofree _ (Tx hy))
 · exact TB (x.above y c (Tx h))
 · have hi:i < vs.length:=by
     unfold start at h2
     by_cases hi:i < vs.length
     · exact hi
     · rw [Us (by simpa using hi)] at h2
       rw [List.getElem?_replicate] at h2
       split at h2 <;> cases h2
   have ha:vs[i]? = some v:=by
     unfold start at h2
     rw [T6 (by simpa using hi),S2] at h2
     cases e:vs[i]? with
     | none=>rw [e] at h2; cases h2
     | some a=>rw [e] at h2; cases h2; rfl
   obtain ⟨u,hu,rv⟩:=r.get ha
   have hp:ps[i]? = some y:=by
     rw [← S.pre,List.getElem?_take_of_lt (by omega)]; exact h1
   have MX:ps.Nodup:=by rw [← S.pre]; exact S.nd.sublist (UX _ _)
   refine ⟨u,rv,?_⟩
   rcases S.par y (SF hp) with k | k
   · exact .inl ⟨k,jM MX hp hu k⟩
   · obtain ⟨c,e⟩:=lW (n:=s.heap.objs.size + 1) k
     refine .inr ⟨.inl k,c,e,?_⟩
     have q:=x.cell y c e
     rw [jK MX hp hu (by show scope.names.lookup y≠_; rw [k]; decide)] at q
     exact q
 · exact e0.hok.fresh (TB (x.above y c (Tx h)))
 · unfold start
   show _=N.length
   rw [Sy,Sv,List.length_replicate]
   omega
theorem Ey {CX:tG}{P:Program}{w:World}{K:Sw}{mg:Str->Option Value}{base:Heap}{k:Nat}{f:Addr}{name qual:Str}{params:Arguments}{body:List Stmt}{scope:Scope}{dV kV doc pm cdv ct oc:Value}{an od:Option Addr}
   {osl:Array (Option Value)} {N ps:List Str} {sp:Sp} (lk:K.lookup f=some ⟨oc,od,.func (T5 name qual params body scope dV kV doc pm an cdv ct),osl⟩) (hcd:U9 K cdv qual=true) (S:aE N ps scope)
   (len:∀vs H Q E,sp vs H Q E->vs.length=ps.length)
   (hbody:∀(A:Around) (outer:List Env) (s:Shared) (H:Hp) (vs:List V) (Q:VK) (E:XK),b5 k (A.deeper (envOfC qual scope s.heap.objs.size f cdv))->sp vs H Q E ->
     ∃t,nr (qM CX P w K mg base N qual scope f cdv A outer s H E) body t/\t { nx:=fun _ H'=>Q .non H',rt:=Q } (start N vs) H) :
   aN P w K mg base CX (k + 1) f (T5 name qual params body scope dV kV doc pm an cdv ct) ps sp:=by
 refine ⟨len,fun A outer s H args us vs Q E hr e0 hb r hsp=>?_⟩
 have hl:=len _ _ _ _ hsp
 have KX:K.In s.heap:=e0.mod.kin.keeps fun b o e=>(e0.bs b o e).1
 have lim:s.heap.NoLimit:=e0.mod.nolimit.keeps fun b o e=>(e0.bs b o e).1
 have E8:∀y∈ps.zip us,scope.names.lookup y.1=some .local\/(scope.names.lookup y.1=some .cell/\((cellsFrom (s.heap.objs.size + 1) scope.names []).lookup y.1).isSome=true):=fun ⟨n,v⟩ hy=>by
   rcases S.par n (UL hy).1 with q | q
   · exact .inl q
   · exact .inr ⟨q,VZ _ _ _ (.inl q)⟩
 refine codeAny_call_function hr.depth (KX _ _ lk) rfl S.co S.gen rfl (PySem.W.codeRec_of KX hcd) (hb _ _ _ _ ?_)
 refine wpAny_newFunctionEnv_cells S.kind E8 fun env he s1 x=>?_
 subst he
 refine ⟨lim.keeps x.toInCall.keep,codeAny_func ?_⟩
 obtain ⟨t,ht,hq⟩:=hbody A outer s H vs Q E (hr.deeper _) hsp
 have I:Inv (qM CX P w K mg base N qual scope f cdv A outer s H E) [] (start N vs) H s1:=rB S hr.hd e0 hl r x
 refine wpAny_mono (ht [] s1 (start N vs) H _ I hq) (fun fl s' hs=>?_) fun e s' hs=>hs
 have fin:∀{σ':St} {H':Hp} {v:V} {u:Value},Inv (qM CX P w K mg base N qual scope f cdv A outer s H E) [] σ' H' s'->RelV v u->Q v H'->CE outer P w H s Q u s':=
   fun {σ' H' v u} J rv q=>⟨v,H',J.os,J.bare,J.base,J.hok,rv,q⟩
 cases fl with
 | ret u=>
   obtain ⟨v,σ',H',J,rv,q⟩:=hs
   exact fin J rv q
 | next=>
   obtain ⟨σ',H',J,q⟩:=hs
   exact fin (v:=V.non) (u:=VY) J rfl q
 | brk=>
   obtain ⟨_,_,_,q⟩:=hs
   exact Ub q
 | cont=>
   obtain ⟨_,_,_,q⟩:=hs
   exact Ub q
section
variable {X:Cx}{x:Str}{p pos:Pos}{e:Expr}{es:List Expr}{t:TA}{id T:String}{r:List V->Hp->VK->Prop}
def D3 (r:List V->Hp->VK->Prop)(t:TA):TE:=fun σ H Q=>t σ H fun vs H1=>r vs H1 Q
theorem vV (hc:cO X (.builtin id) r)(hg:Gl X x)(hm:X.mg x=none)(hv:TH x=some (.builtin id))(ha:PA X (e :: es) t)(hn:x≠"__name__":=by decide)(hdb:(x == ("__debug__":Str))=false:=by decide)
   (he:starEach (e :: es) X.env=(false,eval e X.env) :: starEach es X.env:=by rfl) (hpl:(backTo pos (starEach es X.env)).any (·.1)=false:=by rfl):PE X (.Call (.Name x p) (e :: es) [] pos) (D3 r t):=by
 intro pins s σ H Q I h
 refine wpAny_Call_Name_kw (df I hg hm hv ?_ hn hdb)
 exact PyProof.Rows.callWith_builtin1 (bf (ha pos pins s σ H _ I h) fun us s1 ⟨vs,H1,I1,r1,q1⟩=>hc pins s1 σ H1 vs us Q I1 r1 q1) he hpl
theorem rV (hc:cO X (.type T) r)(hg:Gl X x)(hm:X.mg x=none)(hv:TH x=some (.type T))(ha:PA X (e :: es) t)(hn:x≠"__name__":=by decide)(hdb:(x == ("__debug__":Str))=false:=by decide)
   (he:starEach (e :: es) X.env=(false,eval e X.env) :: starEach es X.env:=by rfl) (hpl:(backTo pos (starEach es X.env)).any (·.1)=false:=by rfl):PE X (.Call (.Name x p) (e :: es) [] pos) (D3 r t):=by
 intro pins s σ H Q I h
 refine wpAny_Call_Name_kw (df I hg hm hv ?_ hn hdb)
 exact Tr (bf (ha pos pins s σ H _ I h) fun us s1 ⟨vs,H1,I1,r1,q1⟩=>hc pins s1 σ H1 vs us Q I1 r1 q1) he hpl
end
end L2
namespace HT
open PySem PyProof.Rows
section
variable {prog:Program}{w:World}{A:Around}{E:Value->Shared->Prop}{s:Shared}
def bT (n d:Nat):Option Int->Nat
 | none=>d
 | some v=>if v < 0 then (v + (n:Int)).toNat else min v.toNat n
theorem wu (n d:Nat):bT n d none=d:=rfl
theorem dq (n d k:Nat):bT n d (some (k:Int))=min k n:=by
 show (if (k:Int) < 0 then ((k:Int) + (n:Int)).toNat else min (k:Int).toNat n)=min k n
 rw [if_neg (by omega),TZ]
theorem Di (n d:Nat)(hd:d<=n)(o:Option Int):bT n d o<=n:=by
 cases o with
 | none=>exact hd
 | some v=>
   show (if v < 0 then (v + (n:Int)).toNat else min v.toNat n)<=n
   by_cases hv:v < 0
   · rw [if_pos hv]; omega
   · rw [if_neg hv]; exact Nat.min_le_right _ _
theorem pG (v:Int)(n d:Nat):(if v < 0 then max (v + (n:Int)) 0 else min v (n:Int))=((bT n d (some v):Nat):Int):=by
 show (if v < 0 then max (v + (n:Int)) 0 else min v (n:Int))=(((if v < 0 then (v + (n:Int)).toNat else min v.toNat n):Nat):Int)
 by_cases hv:v < 0
 · simp only [if_pos hv]; omega
 · simp only [if_neg hv]; omega
theorem nJ (lo hi:Option Int)(n:Nat):UH lo hi 1 (n:Int)=(((bT n 0 lo:Nat):Int),((bT n n hi:Nat):Int)):=by
 have h1:¬ ((1:Int) < 0):=by omega
 unfold UH
 simp only [h1,if_false]
 refine Prod.ext ?_ ?_
 · cases lo with
   | none=>rfl
   | some v=>exact pG v n 0
 · cases hi with
   | none=>rfl
   | some v=>exact pG v n n
theorem oN (i j:Nat):Uk (i:Int) (j:Int) 1=j - i:=by
 unfold Uk
 have h1:(1:Int) > 0:=by omega
 simp only [h1,if_true,VH]
 split <;> omega
theorem jg {v:Value}{o:Option Int}{Q:Option Int->Shared->Prop}(p:IsPart v o)(h:Q o s):wpAny (model prog w) A (Builtin.Slice.slicePartIndex v) Q E s:=by
 cases p with
 | none=>exact slicePart_none h
 | int i t=>exact slicePart_int h
theorem gJ {sl:Addr}{vl vu:Value}{lo hi:Option Int}{n:Nat}{Q:Int×Int×Nat->Shared->Prop}(hs:s.heap.IsSliceOf sl vl vu .none)(pl:IsPart vl lo)(pu:IsPart vu hi)
   (h:Q (((bT n 0 lo:Nat):Int),1,bT n n hi - bT n 0 lo) s):wpAny (model prog w) A (Vo (.ref sl) (pure (n:Int))) Q E s:=by
 obtain ⟨os,Fg,Jq,Hh⟩:=id hs
 unfold Vo Builtin.Slice.sliceFields
 refine wpAny_bind (wpAny_bind (wpAny_field Fg Hh (x:=vl) rfl (wpAny_bind (wpAny_field Fg Hh (x:=vu) rfl (wpAny_bind (wpAny_field Fg Hh (x:=.none) rfl (wpAny_pure ?_)))))))
 refine wpAny_bind (slicePart_none ?_)
 show wpAny _ _ (if ((1:Int) == 0)=true then _ else _) _ _ s
 rw [if_neg (by decide)]
 refine wpAny_bind (jg pl (wpAny_bind (jg pu (wpAny_bind (wpAny_pure ?_)))))
 show wpAny _ _ (match UH lo hi 1 (n:Int) with | (lo,hi)=>pure (lo,(1:Int),Uk lo hi 1)) _ _ s
 rw [nJ lo hi n]
 show wpAny _ _ (pure (((bT n 0 lo:Nat):Int),(1:Int),Uk ((bT n 0 lo:Nat):Int) ((bT n n hi:Nat):Int) 1)) _ _ s
 rw [oN]
 exact wpAny_pure h
theorem v5 (xs:Array Value)(i k:Nat):((S5 k).filterMap fun (m:Nat)=>xs[((i:Int) + (m:Int) * 1).toNat]?).toArray=((xs.toList.drop i).take k).toArray:=by
 have e:(fun (m:Nat)=>xs[((i:Int) + (m:Int) * 1).toNat]?)=fun m=>xs[i + m]?:=by
   funext m
   have:((i:Int) + (m:Int) * 1).toNat=i + m:=by omega
   rw [this]
 rw [e]
 have:=pick_run xs i k
 rw [Vt] at this
 have e2:((fun x=>xs[x]?) ∘ fun x=>i + x)=fun m=>xs[i + m]?:=rfl
 rw [e2] at this
 rw [this]
theorem fB {t sl:Addr}{items:Array Value}{vl vu:Value}{lo hi:Option Int}{Q:Value->Shared->Prop}(ht:IsTup s.heap t items)(hs:s.heap.IsSliceOf sl vl vu .none)(pl:IsPart vl lo)(pu:IsPart vu hi)
   (hw:¬ (bT items.size 0 lo=0/\bT items.size items.size hi=items.size))
   (h:Q (.ref s.heap.objs.size) { s with heap:=s.heap.push { cls:=.type "tuple",data:=.seq ((items.toList.drop (bT items.size 0 lo)).take (bT items.size items.size hi - bT items.size 0 lo)).toArray } })
   (hsz:items.size<=sizeLine):wpAny (model prog w) A (getItem (.ref t) (.ref sl)) Q E s:=by
 have pQ:sizeOk (.seq ((items.toList.drop (bT items.size 0 lo)).take (bT items.size items.size hi - bT items.size 0 lo)).toArray):=by
   show ((items.toList.drop (bT items.size 0 lo)).take (bT items.size items.size hi - bT items.size 0 lo)).toArray.size<=sizeLine
   rw [SY,SH,To,UK]
   omega
 have hj:bT items.size items.size hi<=items.size:=Di _ _ (Sz _) hi
 obtain ⟨os,Fg,Jq,Hh⟩:=id hs
 have Po:s.TypeIs (.ref sl) "slice":=⟨os,Fg,Jq⟩
 unfold getItem
 try with_reducible refine wpAny_holding ?_
 first | refine wpAny_bind (wpAny_pure ?_) | skip
 refine wpAny_bind (wpAny_sequenceKey ht.typeIs (by decide) ?_)
 refine wpAny_bind (Vb (name:=Wr "__getitem__") ht.typeIs Va
   (wpAny_call_entry Va ht.typeIs entry_tuple_getitem ?_ (args_tuple_getitem _ _)))
 show wpAny _ _ (Builtin.Tuple.tupleItemsOf (.ref t) >>= _) _ _ s
 refine wpAny_bind (tupleItemsOf_ ht ?_)
 refine wpAny_bind (wpAny_typeOf Po ?_)
 rw [if_pos (by decide)]
 refine wpAny_bind (gJ hs pl pu ?_)
 have xu:¬ ((((bT items.size 0 lo:Nat):Int) == 0 && (1:Int) == 1 && (bT items.size items.size hi - bT items.size 0 lo) == items.size)=true):=by
   intro q
   rw [Uv,Uv] at q
   have q1:((bT items.size 0 lo:Nat):Int)=0:=eq_of_beq q.1.1
   have q2:bT items.size items.size hi - bT items.size 0 lo=items.size:=eq_of_beq q.2
   exact hw ⟨by omega,by omega⟩
 show wpAny _ _ (if (((bT items.size 0 lo:Nat):Int) == 0 && (1:Int) == 1 && (bT items.size items.size hi - bT items.size 0 lo) == items.size)=true then _ else _) _ _ s
 rw [if_neg xu,v5]
 first
   | exact wpAny_bind (m:=Uo _) (wpAny_newObj_type (wpAny_pure ⟨_,rfl,wpAny_pure h⟩) pQ)
   | exact wpAny_bind (m:=Uo _) (wpAny_newObj_type (wpAny_bind (wpAny_pure (wpAny_pure ⟨_,rfl,wpAny_pure h⟩))) pQ)
   | exact wpAny_bind (wpAny_bind (m:=Uo _) (wpAny_newObj_type (wpAny_pure (wpAny_pure ⟨_,rfl,wpAny_pure h⟩)) pQ))
   | exact wpAny_bind (wpAny_bind (m:=Uo _) (wpAny_newObj_type (wpAny_pure ⟨_,rfl,wpAny_pure h⟩) pQ))
end
end HT
namespace L2
open PySem PySem.Spec PyProof.Rows
abbrev TO:=St->Hp->(Option Int->Hp->Prop)->Prop
def PO (X:Cx)(e:Option Expr)(t:TO):Prop:=
 ∀(pins:List (Addr×Obj)) (s:Shared) (σ:St) (H:Hp) (Q:Option Int->Hp->Prop),Inv X pins σ H s->t σ H Q ->
   wpAny (model X.prog X.w) X.A (evalPart e X.env) (fun u s'=>∃o H',Inv X pins σ H' s'/\IsPart u o/\Q o H') X.xe s
def iw:TO:=fun _ H Q=>Q none H
def kD (t:TE):TO:=fun σ H Q=>t σ H fun x H1=>∃i,x=.int i/\Q (some i) H1
theorem intsAre_of {ns:List Int}:∀{us:List Value},Vals (ns.map V.int) us->IntsAre us ns:=by
 induction ns with
 | nil=>intro us r; rw [Wj] at r; cases r; exact .nil
 | cons n ns ih=>
   intro us r
   rw [Tz] at r
   cases r with
   | cons r1 r2=>
     obtain ⟨t,e⟩:=r1
     subst e
     exact .cons n t (ih r2)
section
variable {X:Cx}{e:Expr}{te:TE}{lo hi:Option Expr}{tl th:TO}{pos p2:Pos}
theorem lp:PO X none iw:=by
 intro pins s σ H Q I h
 rw [evalPart_none]
 exact wpAny_pure ⟨none,H,I,.none,h⟩
theorem fL (h:PE X e te):PO X (some e) (kD te):=by
 intro pins s σ H Q I hw
 rw [evalPart_some]
 refine bf (h pins s σ H _ I hw) fun u s1 ⟨x,H1,I1,r1,q1⟩=>?_
 obtain ⟨i,rfl,q⟩:=q1
 obtain ⟨t,rfl⟩:=r1
 exact ⟨some i,H1,I1,.int i t,q⟩
def Iq (X:Cx)(r:V->Option Int->Option Int->Hp->VK->Prop):Prop:=
 ∀(pins:List (Addr×Obj)) (s:Shared) (σ:St) (H:Hp) (x:V) (v vl vu:Value) (lo hi:Option Int) (sl:Addr) (Q:VK),Inv X pins σ H s->RelV x v->s.heap.IsSliceOf sl vl vu .none->IsPart vl lo->IsPart vu hi->r x lo hi H Q ->
   ∃T id,typeLookup (.type T) "__getitem__"=pure (some (.builtin id))/\s.TypeIs v T/\wpAny (model X.prog X.w) X.A (getItem v (.ref sl)) (EP X pins σ Q) X.xe s
def GO (r:V->Option Int->Option Int->Hp->VK->Prop)(te:TE)(tl th:TO):TE:=fun σ H Q=>te σ H fun x H1=>tl σ H1 fun l H2=>th σ H2 fun u H3=>r x l u H3 Q
theorem fK {r:V->Option Int->Option Int->Hp->VK->Prop}(hr:Iq X r)(he:PE X e te)(hl:PO X lo tl)(hu:PO X hi th):PE X (.Subscript e (.Slice lo hi none p2) pos) (GO r te tl th):=by
 intro pins s σ H Q I h
 refine Subscript_ (bf (he pins s σ H _ I h) fun v s1 ⟨x,H1,I1,r1,q1⟩=>?_)
 refine wpAny_Slice (bf (hl pins s1 σ H1 _ I1 q1) fun vl s2 ⟨l,H2,I2,pl,q2⟩=>bf (hu pins s2 σ H2 _ I2 q2) fun vu s3 ⟨u,H3,I3,pu,q3⟩=>?_)
 rw [evalPart_none]
 refine wpAny_pure ?_
 have I4:Inv X pins σ H3 { s3 with heap:=s3.heap.push { cls:=.type "slice",data:=.fields #[vl,vu,.none] } }:=I3.kept (t':=s3.toks) fun b ob q=>SN _ q
 obtain ⟨T,id,hT,ht,hg⟩:=hr pins { s3 with heap:=s3.heap.push { cls:=.type "slice",data:=.fields #[vl,vu,.none] } } σ H3 x v vl vu l u s3.heap.objs.size Q I4 r1 (VM ..) pl pu q3
 show wpAny (model X.prog X.w) X.A (subscriptTail e (.Slice lo hi none p2) v (.ref s3.heap.objs.size)) (EP X pins σ Q) X.xe { s3 with heap:=s3.heap.push { cls:=.type "slice",data:=.fields #[vl,vu,.none] } }
 exact tail_any (ops:=[.ref s3.heap.objs.size,v]) ht hT hg (by with_unfolding_all rfl)
def fe (xs:List V)(lo hi:Option Int):List V:=(xs.drop (HT.bT xs.length 0 lo)).take (HT.bT xs.length xs.length hi - HT.bT xs.length 0 lo)
theorem gP (xs:List V)(lo hi:Option Int):(fe xs lo hi).length<=xs.length:=by
 unfold fe
 rw [SH,To]
 omega
def Gn (K:Sw):V->Option Int->Option Int->Hp->VK->Prop:=fun x lo hi H Q=>∃a xs,x=.ref a/\aF K H a xs /\
 ¬ (HT.bT xs.length 0 lo=0/\HT.bT xs.length xs.length hi=xs.length)/\∀p,H p=none->Q (.ref p) (upd H p (.tup (fe xs lo hi)))
theorem Dk:Iq X (Gn X.K):=by
 intro pins s σ H x v vl vu lo hi sl Q I rx hs pl pu h
 obtain ⟨a,xs,rfl,hx,hw,q⟩:=h
 cases rx
 obtain ⟨its,r,ht,hz⟩:=I.tuple hx
 have hlen:its.toArray.size=xs.length:=by rw [SY]; exact r.length.symm
 refine ⟨"tuple",_,PyProof.Rows.slot_tuple_getitem.lookup,ht.typeIs,?_⟩
 refine HT.fB ht hs pl pu (by rw [hlen]; exact hw) ?_ (by rw [hlen]; exact hz)
 rw [hlen]
 refine ⟨.ref s.heap.objs.size,_,I.laid (t':=s.toks) (o:=.tup (fe xs lo hi)) (fun b ob q=>SN _ q) (Sz _) ?_,rfl,q _ (I.hok.fresh (Sz _))⟩
 exact ⟨S3 (gP xs lo hi) hz,_,(r.drop (HT.bT xs.length 0 lo)).take (HT.bT xs.length xs.length hi - HT.bT xs.length 0 lo),IsTup.new _ _⟩
end
def sY (n:Nat)(i:Int):Option Nat:=if 0<=i then (if i < n then some i.toNat else none) else if -(n:Int)<=i then some (i + n).toNat else none
def eZ {α:Type}(xs:List α)(i:Int):Option α:=(sY xs.length i).bind fun j=>xs[j]?
theorem kX {n:Nat}{i:Int}{j:Nat}(h:sY n i=some j):seqIndex? i n=some j/\j < n /\ -(n:Int)<=i/\i < n:=by
 unfold sY at h
 by_cases h0:0<=i
 · rw [if_pos h0] at h
   by_cases h1:i < n
   · rw [if_pos h1] at h
     have e:i.toNat=j:=S6 h
     exact ⟨by rw [seqIndex_of h0 h1,e],by omega,by omega,h1⟩
   · rw [if_neg h1] at h; cases h
 · rw [if_neg h0] at h
   by_cases h1 : -(n:Int)<=i
   · rw [if_pos h1] at h
     have e:(i + n).toNat=j:=S6 h
     exact ⟨by rw [seqIndex_neg (by omega) h1,e],by omega,h1,by omega⟩
   · rw [if_neg h1] at h; cases h
theorem br {α:Type}{xs:List α}{i:Int}{v:α}(h:eZ xs i=some v):∃j,seqIndex? i xs.length=some j/\xs[j]? = some v/\j < xs.length /\ -(xs.length:Int)<=i/\i < xs.length:=by
 unfold eZ at h
 cases e:sY xs.length i with
 | none=>rw [e] at h; cases h
 | some j=>
   rw [e] at h
   obtain ⟨h1,h2,h3,h4⟩:=kX e
   exact ⟨j,h1,h,h2,h3,h4⟩
theorem bJ {α:Type}{xs:List α}{j:Nat}{v:α}(h:xs[j]? = some v):eZ xs (j:Int)=some v:=by
 have hj:j < xs.length:=(List.getElem?_eq_some_iff.mp h).1
 have e:sY xs.length (j:Int)=some j:=by
   unfold sY
   rw [if_pos (by omega),if_pos (by omega)]; simp
 unfold eZ; rw [e]; exact h
def pk (b:Expr):Prop:=∀o i,subscripted b false o i=operate [o,i] (getItem o i)
def GY (X:Cx)(r:R2):Prop:=
 ∀(value slice:Expr) (pins:List (Addr×Obj)) (s:Shared) (σ:St) (H:Hp) (x y:V) (v u:Value) (Q:VK),Inv X pins σ H s->RelV x v->RelV y u->r x y H Q ->
   subscripted slice false v u=operate [v,u] (getItem v u)->wpAny (model X.prog X.w) X.A (subscriptTail value slice v u) (EP X pins σ Q) X.xe s
def G0 (X:Cx)(id:String)(r:V->List V->Hp->VK->Prop):Prop:=
 ∀(pins:List (Addr×Obj)) (s:Shared) (σ:St) (H:Hp) (x:V) (xs:List V) (v:Value) (us:List Value) (Q:VK),Inv X pins σ H s->RelV x v->Vals xs us->r x xs H Q ->
   wpAny (model X.prog X.w) X.A (call (.builtin id) (v :: us)) (EP X pins σ Q) X.xe s
section
variable {X:Cx}{a b:Expr}{ta tb:TE}{pos:Pos}
theorem F7 {r:R2}(hr:GY X r)(ha:PE X a ta)(hb:PE X b tb)(hs:pk b):PE X (.Subscript a b pos) (AD r ta tb):=by
 intro pins s σ H Q I h
 exact Subscript_ (AV ha hb I h fun v u s2 x y H2 I2 rx ry q=>hr a b pins s2 σ H2 x y v u Q I2 rx ry q (hs _ _))
def Gj (K:Sw):R2:=fun x y H Q=>∃p xs i v,x=.ref p/\y=.int i/\aq K H p xs/\eZ xs i=some v/\Q v H
def Gk (K:Sw):R2:=fun x y H Q=>∃p xs i v,x=.ref p/\y=.int i/\aF K H p xs/\eZ xs i=some v/\Q v H
theorem yw:GY X (Gj X.K):=by
 intro value slice pins s σ H x y v u Q I rx ry h hs
 obtain ⟨p,xs,i,z,rfl,rfl,hq,he,q⟩:=h
 cases rx
 obtain ⟨t,rfl⟩:=ry
 obtain ⟨its,r,pl,hz⟩:=I.list hq
 obtain ⟨j,h1,h2,h3,h4,h5⟩:=br he
 obtain ⟨w,ew,rw'⟩:=r.get h2
 have hl:=r.length
 have hn:=k9
 have fin:EP X pins σ Q w s:=⟨z,H,I,rw',q⟩
 by_cases h0:0<=i
 · have hj:i.toNat=j:=by
     rw [seqIndex_of h0 h5] at h1
     exact S6 h1
   exact item_listR pl.isList h0 (by omega) (by rw [hj]; simpa using ew) fin hs
 · have hj:(i + (its.toArray.size:Int)).toNat=j:=by
     rw [seqIndex_neg (by omega) h4] at h1
     rw [SY,← hl]
     exact S6 h1
   exact subscriptTail_builtinR (x:=w) pl.isList.typeIs slot_list_getitem.lookup
     (wpAny_getItem_list_neg (Q:=fun r s'=>r=w/\EP X pins σ Q r s') pl.isList (by omega) (by rw [SY] <;> omega) (by omega) (by rw [hj]; simpa using ew) ⟨rfl,fin⟩) hs
theorem BG:GY X (Gk X.K):=by
 intro value slice pins s σ H x y v u Q I rx ry h hs
 obtain ⟨p,xs,i,z,rfl,rfl,hq,he,q⟩:=h
 cases rx
 obtain ⟨t,rfl⟩:=ry
 obtain ⟨its,r,pl,hz⟩:=I.tuple hq
 obtain ⟨j,h1,h2,h3,h4,h5⟩:=br he
 obtain ⟨w,ew,rw'⟩:=r.get h2
 have hl:=r.length
 have hn:=k9
 have fin:EP X pins σ Q w s:=⟨z,H,I,rw',q⟩
 exact subscriptTail_builtinR (x:=w) pl.typeIs slot_tuple_getitem.lookup
   (getItem_tuple (j:=j) (Q:=fun r s'=>r=w/\EP X pins σ Q r s') pl (by omega) (by omega) (by rw [SY,← hl]; exact h1) (by simpa using ew) ⟨rfl,fin⟩) hs
theorem oA (its:List Value)(n j:Nat)(u:Value):Vg (·.setIfInBounds j u) { cls:=.type "list",data:=.seq its.toArray n }={ cls:=.type "list",data:=.seq (its.set j u).toArray n }:=by
 simp [Vg]
theorem Inv.lst {pins:List (Addr×Obj)}{σ:St}{H:Hp}{s:Shared}{p:Addr}{xs:List V}(I:Inv X pins σ H s)(h:H p=some (.lst xs)) :
   ∃(its:List Value) (n:Nat),Vals xs its/\s.heap.get? p=some { cls:=.type "list",data:=.seq its.toArray n }/\xs.length<=sizeLine:=by
 obtain ⟨z,its,n,r,e⟩:=I.hok p _ h
 exact ⟨its,n,r,e,z⟩
theorem Inv.BP {pins:List (Addr×Obj)}{σ:St}{H:Hp}{s:Shared}{p:Addr}{xs ys:List V}{its its':List Value}{n n':Nat}{f:Obj->Obj}(I:Inv X pins σ H s)(h:H p=some (.lst xs))
   (ho:s.heap.get? p=some { cls:=.type "list",data:=.seq its.toArray n }) (hf:f { cls:=.type "list",data:=.seq its.toArray n }={ cls:=.type "list",data:=.seq its'.toArray n' }) (r:Vals ys its') (hz:ys.length<=sizeLine) (t:Nat) :
   Inv X pins σ (upd H p (.lst ys)) { s with heap:=s.heap.update p f,toks:=t }:=by
 have e:(s.heap.update p f).get? p=some { cls:=.type "list",data:=.seq its'.toArray n' }:=by
   rw [Wl f ho (by rw [hf] <;> rfl),hf]
 refine I.write (x:=p) (e:=p) (by rw [h]; trivial) (.inl rfl) (fun b u hb q=>(Wf _ _ (Ne.symm hb)).trans q) ⟨_,e⟩ ?_
 exact ⟨hz,its',n',r,e⟩
def Ai:V->V->V->Hp->(Hp->Prop)->Prop:=fun o i v H Q=>∃p xs k j,o=.ref p/\i=.int k/\H p=some (.lst xs)/\sY xs.length k=some j/\Q (upd H p (.lst (xs.set j v)))
theorem set_list:Ec X Ai:=by
 intro pins s σ H o i v ov iv u Q I ro ri rv h
 obtain ⟨p,xs,k,j,rfl,rfl,hp,hj,q⟩:=h
 cases ro
 obtain ⟨t,rfl⟩:=ri
 obtain ⟨its,n,r,ho,hz⟩:=I.lst hp
 obtain ⟨h1,h2,h3,h4⟩:=kX hj
 have hl:=r.length
 have hn:=k9
 have I':Inv X pins σ (upd H p (.lst (xs.set j v))) { s with heap:=s.heap.update p (Vg (·.setIfInBounds j u)) }:=
   I.BP hp ho (oA its n j u) (r.set rv j) (by rw [List.length_set]; exact hz) s.toks
 by_cases h0:0<=k
 · have hk:k.toNat=j:=by
     rw [seqIndex_of h0 h4] at h1
     exact S6 h1
   exact PySem.W.ki_setAt ho h0 (by omega) (by rw [SY,← hl]; exact h4) (by rw [hk]; exact ⟨_,I',q⟩)
 · have hk:(k + (its.toArray.size:Int)).toNat=j:=by
     rw [seqIndex_neg (by omega) h3] at h1
     rw [SY,← hl]
     exact S6 h1
   exact PySem.W.ki_setBack ho (by omega) (by rw [SY,← hl]; exact h3) (by omega) (by rw [hk]; exact ⟨_,I',q⟩)
theorem lD (lo hi:Option Int)(n:Nat):(sliceBounds lo hi none n).1=((HT.bT n 0 lo:Nat):Int)/\(sliceBounds lo hi none n).2.1=((HT.bT n n hi:Nat):Int)/\(sliceBounds lo hi none n).2.2=1:=by
 refine ⟨?_,?_,rfl⟩
 · cases lo with
   | none=>simp [sliceBounds,HT.bT]
   | some i=>
     simp only [sliceBounds,HT.bT,Option.getD_none,show (1:Int) > 0 by decide,if_true]
     by_cases h:i < 0
     · simp only [h,if_true] <;> omega
     · simp only [h,if_false] <;> omega
 · cases hi with
   | none=>simp [sliceBounds,HT.bT]
   | some i=>
     simp only [sliceBounds,HT.bT,Option.getD_none,show (1:Int) > 0 by decide,if_true]
     by_cases h:i < 0
     · simp only [h,if_true] <;> omega
     · simp only [h,if_false] <;> omega
theorem jE (its:List Value)(lo hi:Option Int):Vp its.toArray lo hi none=((its.drop (HT.bT its.length 0 lo)).take (HT.bT its.length its.length hi - HT.bT its.length 0 lo)).toArray:=by
 obtain ⟨h1,h2,h3⟩:=lD lo hi its.toArray.size
 unfold Vp
 rw [h1,h2,h3]
 simp only [sliceRange_one,pick_run,SY] <;> rfl
def zm (K:Sw):V->Option Int->Option Int->Hp->VK->Prop:=fun x lo hi H Q=>∃a xs,x=.ref a/\aq K H a xs/\∀p,H p=none->Q (.ref p) (upd H p (.lst (fe xs lo hi)))
theorem lC:Iq X (zm X.K):=by
 intro pins s σ H x v vl vu lo hi sl Q I rx hs pl pu h
 obtain ⟨a,xs,rfl,hx,q⟩:=h
 cases rx
 obtain ⟨its,r,ht,hz⟩:=I.list hx
 have hlen:=r.length
 refine ⟨"list",_,slot_list_getitem.lookup,ht.isList.typeIs,?_⟩
 refine wpAny_getItem_list_slice ht.isList hs pl pu .none (by simp) ?_ (by rw [SY] <;> omega)
 rw [jE,← hlen]
 refine ⟨.ref s.heap.objs.size,_,I.laid (t':=s.toks) (o:=.lst (fe xs lo hi)) (fun b ob q=>SN _ q) (Sz _) ?_,rfl,q _ (I.hok.fresh (Sz _))⟩
 exact ⟨S3 (gP xs lo hi) hz,_,0,(r.drop (HT.bT xs.length 0 lo)).take (HT.bT xs.length xs.length hi - HT.bT xs.length 0 lo),Tb _ rfl⟩
def bG:V->Bool
 | .non=>true
 | .bl _=>true
 | .int _=>true
 | .str _=>true
 | _=>false
def jT:V->V->Bool
 | .non,.non=>true
 | .bl a,.bl b=>a == b
 | .bl a,.int b=>(if a then 1 else 0) == b
 | .int a,.bl b=>a == (if b then 1 else 0)
 | .int a,.int b=>a == b
 | .str a,.str b=>a == b
 | _,_=>false
theorem nO {A:Around}{s:Shared}{y x:V}{u v:Value}(ry:RelV y u)(rx:RelV x v)(fy:bG y=true)(fx:bG x=true):SeqAt.EqAt A s u v (jT y x):=by
 cases y with
 | non=>
   cases ry
   cases x with
   | non=>cases rx; exact SeqAt.EqAt.same _
   | bl b=>cases rx; exact SeqAt.EqAt.none_bool b
   | int b=>obtain ⟨t,rfl⟩:=rx; exact SeqAt.EqAt.none_int b t
   | str b=>obtain ⟨t,rfl⟩:=rx; exact SeqAt.EqAt.none_str b t
   | _=>exact absurd (show false=true from fx) S4
 | bl a=>
   cases ry
   cases x with
   | non=>cases rx; exact SeqAt.EqAt.bool_none a
   | bl b=>cases rx; exact SeqAt.EqAt.bool_bool a b
   | int b=>obtain ⟨t,rfl⟩:=rx; exact SeqAt.EqAt.bool_int a b t
   | str b=>obtain ⟨t,rfl⟩:=rx; exact SeqAt.EqAt.bool_str a b t
   | _=>exact absurd (show false=true from fx) S4
 | int a=>
   obtain ⟨t',rfl⟩:=ry
   cases x with
   | non=>cases rx; exact SeqAt.EqAt.int_none a t'
   | bl b=>cases rx; exact SeqAt.EqAt.int_bool a t' b
   | int b=>obtain ⟨t,rfl⟩:=rx; exact SeqAt.EqAt.int_int a t' b t
   | str b=>obtain ⟨t,rfl⟩:=rx; exact V6 a t' b t
   | _=>exact absurd (show false=true from fx) S4
 | str a=>
   obtain ⟨t',rfl⟩:=ry
   cases x with
   | non=>cases rx; exact SeqAt.EqAt.str_none a t'
   | bl b=>cases rx; exact SeqAt.EqAt.str_bool a t' b
   | int b=>obtain ⟨t,rfl⟩:=rx; exact V5 a t' b t
   | str b=>obtain ⟨t,rfl⟩:=rx; exact SeqAt.EqAt.str_str a t' b t
   | _=>exact absurd (show false=true from fx) S4
 | _=>exact absurd (show false=true from fy) S4
def xQ (x:V)(u:Value):Bool:=match u with
 | .none=>jT .non x
 | .bool b=>jT (.bl b) x
 | .int i _=>jT (.int i) x
 | .str z _=>jT (.str z) x
 | _=>false
theorem tX {x y:V}{u:Value}(r:RelV y u)(f:bG y=true):xQ x u=jT y x:=by
 cases y with
 | non=>cases r; rfl
 | bl b=>cases r; rfl
 | int i=>obtain ⟨t,rfl⟩:=r; rfl
 | str z=>obtain ⟨t,rfl⟩:=r; rfl
 | _=>exact absurd (show false=true from f) S4
theorem kI {x:V}:∀{xs:List V} {us:List Value},Vals xs us->xs.all bG=true->us.any (xQ x)=xs.any fun y=>jT y x
 | _,_,.nil,_=>rfl
 | y :: xs,u :: us,.cons r t,f=>by
   rw [List.all_cons,Uv] at f
   rw [Ug,Ug,tX r f.1,kI t f.2]
theorem i5 {A:Around}{s:Shared}{x:V}{v:Value}(rx:RelV x v)(fx:bG x=true):∀{xs:List V} {us:List Value},Vals xs us->xs.all bG=true->∀u∈us,SeqAt.EqAt A s u v (xQ x u)
 | _,_,.nil,_=>fun u hu=>by cases hu
 | y :: xs,u :: us,.cons r t,f=>fun u' hu=>by
   rw [List.all_cons,Uv] at f
   rcases List.mem_cons.mp hu with rfl | hu
   · rw [tX r f.1]; exact nO r rx f.1 fx
   · exact i5 rx fx t f.2 u' hu
def FE (x:V)(xs:List V):Bool:=xs.any fun y=>jT y x
def Nk (K:Sw)(neg:Bool):R2:=fun x y H Q=>∃p xs,y=.ref p/\(aq K H p xs\/aF K H p xs)/\bG x=true/\xs.all bG=true/\Q (.bl (if neg then !FE x xs else FE x xs)) H
theorem lh:gO X (compareOp .NotIn) (Nk X.K true):=by
 intro pins s σ H x y v u Q I rx ry h
 obtain ⟨p,xs,rfl,hq,fx,fs,q⟩:=h
 cases ry
 rcases hq with hq | hq
 · obtain ⟨its,r,pl,hz⟩:=I.list hq
   refine SeqAt.notIn_listAt (xQ x) pl.isList (fun w hw=>i5 rx fx r fs w (by simpa using hw)) ⟨.bl _,H,I,rfl,?_⟩
   rw [show its.toArray.any (xQ x)=its.any (xQ x) by simp,kI r fs]
   exact q
 · obtain ⟨its,r,pl,hz⟩:=I.tuple hq
   refine SeqAt.notIn_tupleAt (xQ x) pl (fun w hw=>i5 rx fx r fs w (by simpa using hw)) ⟨.bl _,H,I,rfl,?_⟩
   rw [show its.toArray.any (xQ x)=its.any (xQ x) by simp,kI r fs]
   exact q
theorem kJ:cO X (.builtin "len") (fun xs H Q=>∃p ys,xs=[.ref p]/\(aq X.K H p ys\/aF X.K H p ys)/\Q (.int ys.length) H):=by
 intro pins s σ H xs us Q I r h
 obtain ⟨p,ys,rfl,hq,q⟩:=h
 obtain ⟨u,rfl,rx⟩:=vals1 r
 cases rx
 have hn:=k9
 rcases hq with hq | hq
 · obtain ⟨its,r',pl,hz⟩:=I.list hq
   have hlen:=r'.length
   exact Calls.call_len_list pl.isList (by simp only [SY] <;> omega) ⟨.int ys.length,H,I.tok _,⟨s.toks + 1,by rw [SY,hlen]⟩,q⟩
 · obtain ⟨its,r',pl,hz⟩:=I.tuple hq
   have hlen:=r'.length
   exact len_tuple pl (by simp only [SY] <;> omega) ⟨.int ys.length,H,I.tok _,⟨s.toks + 1,by rw [SY,hlen]⟩,q⟩
theorem kK:cO X (.type "list") (fun xs H Q=>∃p ys,xs=[.ref p]/\(aq X.K H p ys\/aF X.K H p ys)/\∀l,H l=none->Q (.ref l) (upd H l (.lst ys))):=by
 intro pins s σ H xs us Q I r h
 obtain ⟨p,ys,rfl,hq,q⟩:=h
 obtain ⟨u,rfl,rx⟩:=vals1 r
 cases rx
 have fin:∀(its:List Value),Vals ys its->ys.length<=sizeLine->∀(h':Heap) (c':Nat),(∀b o',s.heap.get? b=some o'->h'.get? b=some o') ->
     h'.get? s.heap.objs.size=some { cls:=.type "list",dict:=none,data:=.seq its.toArray c',slots:=#[] }->EP X pins σ Q (.ref s.heap.objs.size) { s with heap:=h' }:=fun its r' hz h' c' kp e=>
   ⟨.ref s.heap.objs.size,_,I.laid (t':=s.toks) kp (Sz _) (show aU X.prog X.w _ h' _ (.lst ys) from ⟨hz,its,c',r',e⟩),rfl,q _ (I.hok.fresh (Sz _))⟩
 rcases hq with hq | hq
 · obtain ⟨its,r',pl,hz⟩:=I.list hq
   have hlen:=r'.length
   obtain ⟨o,ho,hc,n,hd⟩:=pl.isList
   exact call_list_seq p (.inl rfl) ho hc hd (fun h' c' kp e=>fin its r' hz h' c' kp e) (by simp only [SY] <;> omega)
 · obtain ⟨its,r',pl,hz⟩:=I.tuple hq
   have hlen:=r'.length
   obtain ⟨o,ho,hc,n,hd⟩:=pl
   exact call_list_seq p (.inr rfl) ho hc hd (fun h' c' kp e=>fin its r' hz h' c' kp e) (by simp only [SY] <;> omega)
theorem jt:cO X (.type "tuple") (fun xs H Q=>∃p ys,xs=[.ref p]/\((aq X.K H p ys/\∀l,H l=none->Q (.ref l) (upd H l (.tup ys)))\/(aF X.K H p ys/\Q (.ref p) H))):=by
 intro pins s σ H xs us Q I r h
 obtain ⟨p,ys,rfl,h⟩:=h
 obtain ⟨u,rfl,rx⟩:=vals1 r
 cases rx
 rcases h with ⟨hq,q⟩ | ⟨hq,q⟩
 · obtain ⟨its,r',pl,hz⟩:=I.list hq
   have hlen:=r'.length
   refine call_tuple_list pl.isList (fun h' kp=>?_) (by simp only [SY] <;> omega)
   have I1:Inv X pins σ H { s with heap:=h' }:=I.kept (t':=s.toks) kp
   have I2:Inv X pins σ (upd H h'.objs.size (.tup ys)) { s with heap:=h'.push { cls:=.type "tuple",data:=.seq its.toArray } }:=
     I1.laid (t':=s.toks) (fun b o e=>SN _ e) (Sz _) (show aU X.prog X.w _ _ _ (.tup ys) from ⟨hz,its,r',IsTup.new _ _⟩)
   exact ⟨.ref h'.objs.size,_,I2,rfl,q _ (I1.hok.fresh (Sz _))⟩
 · obtain ⟨its,r',pl,hz⟩:=I.tuple hq
   exact call_tuple_same pl ⟨.ref p,H,I,rfl,q⟩
def NG (K:Sw)(T:String)(x:V)(H:Hp):Prop:=match x with
 | .str _=>T="str"
 | .int _=>T="int"
 | .ref p=>(T="list"/\∃xs,aq K H p xs)\/(T="tuple"/\∃o,K.lookup p=some o/\o.cls=.type "tuple"/\o.dict=none) \/
     (T="dict"/\((∃kvs,H p=some (.dK kvs))\/∃kvs,H p=some (.dT kvs)))\/(T="set"/\∃S n,H p=some (.set S n))
 | _=>False
theorem Ds {pins:List (Addr×Obj)}{σ:St}{H:Hp}{s:Shared}{T:String}{x:V}{v:Value}(I:Inv X pins σ H s)(r:RelV x v)(ty:NG X.K T x H) :
   s.TypeIs v T/\∀a,v=.ref a->∃ob,s.heap.get? a=some ob/\ob.dict=none:=by
 cases x with
 | str z=>
   obtain ⟨t,rfl⟩:=r
   cases (show T="str" from ty)
   exact ⟨typeIs_str s z t,fun _ e=>nomatch e⟩
 | int i=>
   obtain ⟨t,rfl⟩:=r
   cases (show T="int" from ty)
   exact ⟨typeIs_int s i t,fun _ e=>nomatch e⟩
 | ref p=>
   cases r
   rcases ty with ⟨rfl,xs,hq⟩ | ⟨rfl,o,hk,hc,hd⟩ | ⟨rfl,hk⟩ | ⟨rfl,S,n,hk⟩
   · obtain ⟨its,_,pl,_⟩:=I.list hq
     refine ⟨pl.isList.typeIs,fun a e=>?_⟩
     cases e
     obtain ⟨o,n,e,c,hd,_⟩:=pl
     exact ⟨o,e,hd⟩
   · refine ⟨⟨o,I.ig p o hk,hc⟩,fun a e=>?_⟩
     cases e
     exact ⟨o,I.ig _ o hk,hd⟩
   · have z:∃o,s.heap.get? p=some o/\o.ExactDict:=by
       rcases hk with ⟨kvs,hk⟩ | ⟨kvs,hk⟩
       · obtain ⟨_,_,_,_,o,_,_,e,ex,_⟩:=I.hok p _ hk
         exact ⟨o,e,ex⟩
       · obtain ⟨_,_,_,_,o,_,_,e,ex,_⟩:=I.hok p _ hk
         exact ⟨o,e,ex⟩
     obtain ⟨o,e,ex⟩:=z
     refine ⟨⟨o,e,ex.1⟩,fun a e2=>?_⟩
     cases e2
     exact ⟨o,e,ex.2.1⟩
   · obtain ⟨o,_,_,_,e,ex,_⟩:=I.hok p _ hk
     refine ⟨⟨o,e,ex.1⟩,fun a e2=>?_⟩
     cases e2
     exact ⟨o,e,ex.2.1⟩
 | _=>exact Ub ty
def Au (K:Sw)(T:String)(r:V->List V->Hp->VK->Prop)(to:TE)(t:TA):TE:=fun σ H Q=>to σ H fun x H1=>NG K T x H1/\t σ H1 fun xs H2=>r x xs H2 Q
variable {o e:Expr}{es:List Expr}{to:TE}{t:TA}{name:Str}{apos cpos:Pos}{T id:String}{r:V->List V->Hp->VK->Prop}
theorem Af (pa:PlainAttrs T)(slot:Slot T name id)(hty:typeOf (.builtin id)=pure (.type "method_descriptor"))(hm:G0 X id r)(ho:PE X o to)(ha:PA X (e :: es) t)
   (hbase:TU o name X.env (eval o X.env)=eval o X.env:=by rfl)
   (hfew:((backTo cpos (starEach (e :: es) X.env)).all (fun x=>!x.1) && (backToKw cpos (keywordEach [] X.env)).all (fun x=>x.1.isSome)
     && decide ((e :: es).length + ([]:List Keyword).length + (if ([]:List Keyword).isEmpty then 0 else 1) < 30))=true:=by rfl)
   (hline:(apos.endLine == cpos.line)=true:=by rfl) (hs:starEach (e :: es) X.env=(false,eval e X.env) :: starEach es X.env:=by rfl) (hplain:(backTo cpos (starEach es X.env)).any (·.1)=false:=by rfl) :
   PE X (.Call (.Attribute o name apos) (e :: es) [] cpos) (Au X.K T r to t):=by
 intro pins s σ H Q I h
 refine wpAny_Call_method_late hbase hfew hline rfl (bf (ho pins s σ H _ I h) fun v s1 ⟨x,H1,I1,r1,ty,q1⟩=>?_)
 obtain ⟨h1,h2⟩:=Ds I1 r1 ty
 refine ⟨T,id,pa,slot,hty,h1,h2,?_⟩
 have hA:=ha cpos pins s1 σ H1 _ I1 q1
 rw [hs] at hA ⊢
 refine Wa (by show (false || (backTo cpos (starEach es X.env)).any (·.1))=false; rw [hplain] <;> rfl) (Wn ?_)
 exact bf hA fun us s2 ⟨vs,H2,I2,r2,q2⟩=>hm pins s2 σ H2 x vs v us Q I2 r1 r2 q2
end
def GZ (X:Cx)(id:String)(r:V->List V->Hp->VK->Prop):Prop:=
 ∀(pins:List (Addr×Obj)) (s:Shared) (σ:St) (H:Hp) (x:V) (xs:List V) (v:Value) (us:List Value) (Q:VK),Inv X pins σ H s->RelV x v->Vals xs us->r x xs H Q ->
   wpAny (model X.prog X.w) X.A (call (.builtin id) (v :: us)) (EP X pins σ Q) X.xe s
theorem Vals.one:∀{x:V} {us:List Value},Vals [x] us->∃u,us=[u]/\RelV x u
 | _,_,.cons r .nil=>⟨_,rfl,r⟩
theorem Vals.two:∀{x y:V} {us:List Value},Vals [x,y] us->∃u v,us=[u,v]/\RelV x u/\RelV y v
 | _,_,_,.cons r (.cons q .nil)=>⟨_,_,rfl,r,q⟩
theorem Vals.eraseIdx:∀{xs:List V} {us:List Value} (i:Nat),Vals xs us->Vals (xs.eraseIdx i) (us.eraseIdx i)
 | _,_,_,.nil=>.nil
 | _,_,0,.cons _ t=>t
 | _,_,i + 1,.cons r t=>.cons r (Vals.eraseIdx i t)
theorem Vals.reverse {xs:List V}{us:List Value}(h:Vals xs us):Vals xs.reverse us.reverse:=by
 induction h with
 | nil=>exact .nil
 | cons r t ih=>rw [UY,UY]; exact Vals.append ih (.cons r .nil)
theorem Vals.rep {xs:List V}{us:List Value}(h:Vals xs us):∀k:Nat,Vals (TC k xs).flatten (TC k us).flatten
 | 0=>.nil
 | k + 1=>by
   rw [Ue,Ue,UB,UB]
   exact Vals.append h (Vals.rep h k)
theorem kc {α:Type}:∀(l:List α) (i:Nat),(l.eraseIdx i).length<=l.length
 | [],_=>Sz _
 | _ :: _,0=>Nat.le_succ _
 | _ :: r,i + 1=>U6 (kc r i)
theorem foldl_rep (its:List Value):∀(k:Nat) (acc:List Value),
   List.foldl (fun x1 x2=>x1++x2) acc.toArray (TC k its.toArray)=(acc++(TC k its).flatten).toArray
 | 0,acc=>by simp
 | k + 1,acc=>by
   have e:acc.toArray++its.toArray=(acc++its).toArray:=by simp
   have e2:(acc++its)++(TC k its).flatten=acc++(TC (k + 1) its).flatten:=by
     rw [Ue,UB,UZ]
   rw [← e2,← foldl_rep its k (acc++its),← e,Ue,List.foldl_cons]
section
variable {X:Cx}{pins:List (Addr×Obj)}{σ:St}{H:Hp}{s:Shared}{l b:Addr}{xs ys zs:List V}
theorem Inv.yy {its its':List Value}{n:Nat}{f:Array Value->Array Value}{t':Nat}(I:Inv X pins σ H s)(hH:H l=some (.lst xs))
   (e:s.heap.get? l=some { cls:=.type "list",data:=.seq its.toArray n }) (hf:f its.toArray=its'.toArray) (hv:Vals ys its') (hz:ys.length<=sizeLine) :
   Inv X pins σ (upd H l (.lst ys)) { s with heap:=s.heap.update l (Vg f),toks:=t' }:=by
 have q:=PySem.IsL.update e f
 rw [hf] at q
 refine I.write (x:=l) (e:=l) (by rw [hH]; exact trivial) (.inl rfl) (fun b' u hb hu=>(Wf s.heap (Vg f) (Ne.symm hb)).trans hu) ⟨_,q⟩ ?_
 exact ⟨hz,its',_,hv,q⟩
theorem Inv.FG {its:List Value}{t':Nat}(I:Inv X pins σ H s)(hv:Vals ys its)(hz:ys.length<=sizeLine) :
   Inv X pins σ (upd H s.heap.objs.size (.lst ys)) { s with heap:=s.heap.push { cls:=.type "list",data:=.seq its.toArray },toks:=t' }:=
 I.laid (fun _ _ q=>SN _ q) (Sz _) ⟨hz,its,0,hv,Tb _ rfl⟩
theorem Inv.fresh (I:Inv X pins σ H s):H s.heap.objs.size=none:=I.hok.fresh (Sz _)
theorem Inv.mM (I:Inv X pins σ H s)(hH:H l=some (.lst xs)):xs.length<=sizeLine/\∃(its:List Value) (n:Nat),Vals xs its/\xs.length=its.length/\s.heap.get? l=some { cls:=.type "list",data:=.seq its.toArray n }:=by
 obtain ⟨z,its,n,r,e⟩:=I.hok l _ hH
 exact ⟨z,its,n,r,r.length,e⟩
theorem mS {n:Nat}(h:n<=sizeLine):Up n=false:=by
 unfold Up
 exact decide_eq_false (by omega)
end
section
variable {X:Cx}
def qb:V->List V->Hp->VK->Prop:=fun x vs H Q=>∃l xs y,x=.ref l/\vs=[y]/\H l=some (.lst xs)/\xs.length < sizeLine/\Q .non (upd H l (.lst (xs++[y])))
theorem kg:GZ X "list.append" qb:=by
 intro pins s σ H x vs v us Q I rx rv h
 obtain ⟨l,xs,y,rfl,rfl,hH,hz,q⟩:=h
 cases rx
 obtain ⟨u,rfl,ru⟩:=rv.one
 obtain ⟨z,its,n,r,hl,e⟩:=I.mM hH
 refine call_meets F.slot_list_append ⟨_,e,rfl⟩ F.entry_list_append (F.args_list_append_2 _ _) (PySem.list_append l its.toArray n u (by rw [SY]; omega)) ⟨e,?_⟩
 refine ⟨.non,_,I.yy (its':=its++[u]) hH e (by simp) (r.append (.cons ru .nil)) ?_,rfl,q⟩
 rw [Sy,List.length_singleton]
 omega
def qd:V->List V->Hp->VK->Prop:=fun x vs H Q=>∃l b xs zs,x=.ref l/\vs=[.ref b]/\H l=some (.lst xs)/\H b=some (.lst zs)/\xs.length + zs.length<=sizeLine/\Q .non (upd H l (.lst (xs++zs)))
theorem rJ:GZ X "list.extend" qd:=by
 intro pins s σ H x vs v us Q I rx rv h
 obtain ⟨l,b,xs,zs,rfl,rfl,hH,hB,hz,q⟩:=h
 cases rx
 obtain ⟨u,rfl,ru⟩:=rv.one
 cases ru
 obtain ⟨z,its,n,r,hl,e⟩:=I.mM hH
 obtain ⟨z2,dO,n2,r2,jZ,e2⟩:=I.mM hB
 have hsz:its.toArray.size + dO.toArray.size<=sizeLine:=by rw [SY,SY]; omega
 have uP:¬ (!its.toArray.isEmpty && Up (its.toArray.size + dO.toArray.size))=true:=by
   rw [mS hsz,Bool.and_false]
   exact S4
 refine call_meets F.slot_list_extend ⟨_,e,rfl⟩ F.entry_list_extend (F.args_list_extend_2 _ _)
   (AutoSeq1.list_extend_list_list_0 l its.toArray n b dO.toArray n2 uP (by rw [SY]; omega) (by omega)) ⟨e,e2,?_⟩
 refine ⟨.non,_,I.yy (its':=its++dO) hH e (by simp) (r.append r2) ?_,rfl,q⟩
 rw [Sy]
 omega
def wa:V->List V->Hp->VK->Prop:=fun x vs H Q=>∃l xs i k y,x=.ref l/\vs=[.int i]/\H l=some (.lst xs) /\ -(2 ^ 63)<=i/\i < 2 ^ 63/\seqIndex? i xs.length=some k/\xs[k]? = some y/\Q y (upd H l (.lst (xs.eraseIdx k)))
theorem vk:GZ X "list.pop" wa:=by
 intro pins s σ H x vs v us Q I rx rv h
 obtain ⟨l,xs,i,k,y,rfl,rfl,hH,h1,h2,hk,hy,q⟩:=h
 cases rx
 obtain ⟨u,rfl,ru⟩:=rv.one
 obtain ⟨t,rfl⟩:=ru
 obtain ⟨z,its,n,r,hl,e⟩:=I.mM hH
 obtain ⟨w,hw,rw'⟩:=r.get hy
 refine call_meets F.slot_list_pop ⟨_,e,rfl⟩ F.entry_list_pop (F.args_list_pop_2 _ _)
   (MeetsSeq.list_pop_at l its.toArray n i t k w (fitsIndex_both h1 h2) (by rw [SY,← hl]; exact hk) (by rw [← Wh]; exact hw) (by rw [SY]; omega)) ⟨e,?_⟩
 refine ⟨y,_,I.yy (its':=its.eraseIdx k) hH e ?_ (r.eraseIdx k) ?_,rw',q⟩
 · show its.toArray.eraseIdxIfInBounds k=(its.eraseIdx k).toArray
   rw [List.eraseIdxIfInBounds_toArray]
 · have:=kc xs k
   omega
def Gi:R2:=fun x y H Q=>∃l b xs zs,x=.ref l/\y=.ref b/\H l=some (.lst xs)/\H b=some (.lst zs)/\xs.length + zs.length<=sizeLine/\∀p,H p=none->Q (.ref p) (upd H p (.lst (xs++zs)))
theorem Co:gO X (binaryOp .Add) Gi:=by
 intro pins s σ H x y v u Q I rx ry h
 obtain ⟨l,b,xs,zs,rfl,rfl,hH,hB,hz,q⟩:=h
 cases rx
 cases ry
 obtain ⟨z,its,n,r,hl,e⟩:=I.mM hH
 obtain ⟨z2,dO,n2,r2,jZ,e2⟩:=I.mM hB
 refine PySem.P.add_list e e2 ?_ (by rw [SY,SY]; omega)
 have ea:its.toArray++dO.toArray=(its++dO).toArray:=by simp
 rw [ea]
 exact ⟨.ref _,_,I.FG (t':=s.toks) (r.append r2) (by rw [Sy]; omega),rfl,q _ I.fresh⟩
def Gm:R2:=fun x y H Q=>∃l k xs,x=.ref l/\y=.int k/\H l=some (.lst xs) /\ -(2 ^ 63)<=k/\k < 2 ^ 63/\xs.length * k.toNat<=sizeLine /\
 ∀p,H p=none->Q (.ref p) (upd H p (.lst (TC k.toNat xs).flatten))
theorem len_rep {α:Type}(xs:List α)(k:Nat):(TC k xs).flatten.length=k * xs.length:=by
 induction k with
 | zero=>simp
 | succ k ih=>rw [Ue,UB,Sy,ih,UG,VD]
theorem Cu:gO X (binaryOp .Mult) Gm:=by
 intro pins s σ H x y v u Q I rx ry h
 obtain ⟨l,k,xs,rfl,rfl,hH,h1,h2,hz,q⟩:=h
 cases rx
 obtain ⟨t,rfl⟩:=ry
 obtain ⟨z,its,n,r,hl,e⟩:=I.mM hH
 have hlen:its.toArray.size * k.toNat<=sizeLine:=by rw [SY,← hl]; exact hz
 have hcap:¬ its.toArray.size * k.toNat > (2 ^ 63 - 1) / 8:=by
   have:(sizeLine:Nat)<=(2 ^ 63 - 1) / 8:=by decide
   omega
 have Jx:¬ (!Uj k)=true:=by
   rw [fitsIndex_both h1 h2]
   exact S4
 have uP:¬ Up (its.toArray.size * k.toNat)=true:=by
   rw [mS hlen]
   exact S4
 have Bm:List.foldl (fun x1 x2=>x1++x2) #[] (TC (if its.toArray.isEmpty=true then 0 else k.toNat) its.toArray)=(TC k.toNat its).flatten.toArray:=by
   have f0:∀m:Nat,List.foldl (fun x1 x2=>x1++x2) #[] (TC m its.toArray)=(TC m its).flatten.toArray:=fun m=>by
     have:=foldl_rep its m []
     rw [VR] at this
     exact this
   rw [f0]
   cases its with
   | nil=>simp
   | cons a r'=>rw [if_neg (by simp)]
 refine wpAny_binaryOp_repeat_ref (T:="list") (U:="int") (by decide) ⟨_,e,rfl⟩ (fun s'=>typeIs_int s' k t) noFill_list_mul F.fills_int_mul F.slot_int_rmul repeat_list F.slot_int_index.lookup
   (call_meets F.slot_int_rmul (typeIs_int s k t) F.entry_int_rmul (F.args_int_rmul_2 _ _) (int___rmul___int_list k t l its.toArray n)
     ⟨e,rfl,⟨_,e,rfl⟩,call_meets F.slot_list_mul ⟨_,e,rfl⟩ F.entry_list_mul (F.args_list_mul_2 _ _) (AutoListH.list___mul___list_int_3 l its.toArray n k t Jx hcap uP) ⟨e,?_⟩⟩)
 rw [Bm]
 exact ⟨.ref _,_,I.FG (t':=s.toks) (r.rep k.toNat) (by rw [len_rep,Wx]; exact hz),rfl,q _ I.fresh⟩
end
end L2
namespace LN
open PySem PySem.W PySem.Calls PyProof.Rows
theorem hJ {P:Params}{h:Heap}:∀(ns:List Int) (vs:List Value),WellAll P h vs (ns.map WData.int)->IntsAre vs ns:=by
 intro ns
 induction ns with
 | nil=>
   intro vs w
   rw [Wj] at w
   cases w
   exact .nil
 | cons n ns ih=>
   intro vs w
   rw [Tz] at w
   cases w with
   | cons a b=>
     cases a
     exact .cons _ _ (ih _ b)
theorem r8 {l:OpenLaw}{n:Nat}(hn:l.most=some n){P:Params}{h:Heap}{args:List WData}{vals:List Value}
   (hpre:l.row.toRowW.claim.pre args=true) (hwl:WellAll P h vals args) :
   ∃a vs ns,vals=[Tq a]/\args=[WData.list (ns.map WData.int)]/\h.get? a=some { cls:=.type "list",data:=.seq vs.toArray }/\IntsAre vs ns/\ns.length<=n:=by
 have MJ:WShape.hasAll [] args [.list .int]=true:=(pre_splitW hpre).1
 have hc:l.pre.holds [] { args:=args }=true:=(pre_splitW hpre).2
 obtain ⟨d,r,rfl,h1,h2⟩:=hasAllW_cons MJ
 obtain rfl:=hasAllW_nil h2
 obtain ⟨xs,rfl,h3⟩:=hasW_list h1
 obtain ⟨ns,rfl⟩:=items_int h3
 have hlen:ns.length<=n:=by
   unfold OpenLaw.pre at hc
   have h4:(WTm.not (.lt (.lit (.int (n:Int))) (.len (.arg 0)))).holds [] { args:=[.list (ns.map .int)] }=true:=by
     have h4:=(holds_andW hc).1
     rw [hn] at h4
     exact h4
   have h5:=condW_of h4 (w_not (w_lt w_lit (w_len_list (w_arg rfl))))
   rw [Sv] at h5
   refine Nat.le_of_not_lt fun q=>?_
   have q':(n:Int) < ((ns.length:Nat):Int):=by omega
   first
     | (rw [decide_eq_true q'] at h5; exact absurd h5 (by decide))
     | (simp at h5; omega)
 cases hwl with
 | cons w1 w2=>
   cases w2
   cases w1 with
   | list ho Ja=>exact ⟨_,_,ns,rfl,rfl,ho,hJ ns _ Ja,hlen⟩
theorem rY (l:OpenLaw)(args:List WData):l.row.toRowW.claim.post args (.bool true) args=true:=
 postW_of (r:=l.row.toRowW) (X:=(true == true))
   (show WShape.has [] (.bool true) .bool=true by first | rfl | decide | simp [WShape.has,WShape.arms,WShape.armsAll])
   (show (WTm.eq .res (.lit (.bool true))).value [] { args:=args,res:=some (.bool true),after:=args }=some (.bool (true == true)) from w_eq_bool (w_res rfl) w_lit) rfl
theorem lS {l:OpenLaw}{n:Nat}{q:Program}{loose:List Str}{XP:(Str->Option Value)->Heap->Prop}{YP:World->Heap->Prop}{d:DefRec}
   (hn:l.most=some n) (hdf:d.params.defaults=[])
   (call:∀(w:World) (s₀ s₁:Shared) (mg mb:Str->Option Value) (fa:Addr) (o:Obj) (pm cd doc:Value) (a:Addr) (vs:List Value) (ns:List Int),
     Ground q loose [] XP w s₀ mg mb s₁.heap->YP w s₁.heap ->
     s₁.heap.get? fa=some o->o.data=.func (docDef d.name d.params d.body d.scope pm cd doc)->s₁.heap.CodeRec cd d.name->mg d.name=some (.ref fa) ->
     s₁.heap.get? a=some { cls:=.type "list",data:=.seq vs.toArray }->IntsAre vs ns->ns.length<=n->s₁.gens = #[] ->
     codeAny (model l.prog w) callerA (.call (.ref fa) ⟨[.ref a],[]⟩) (fun r s'=>r=.ok (.ret (.bool true))/\OldK s₁.heap s'.heap/\s'.os=s₁.os/\AllBare s'.gens) s₁) :
   WalkO q loose XP YP l.row.toRowW d [] (fun f vs=>PySem.call f vs):=by
 intro w s₀ s₁ mg mb G Y fa o pm cd doc dV kV ho hd hcd hD hmg hg args vals as hpre P2 RU hwl E9
 obtain rfl:dV=.none:=Dflts.none hD hdf
 obtain rfl:kV=.none:=Dflts.noKw hD
 obtain ⟨a,vs,ns,rfl,rfl,Bt,hints,hlen⟩:=r8 hn hpre hwl
 refine enter_call (codeAny_mono (call w s₀ s₁ mg mb fa o pm cd doc a vs ns G Y ho (fd_plain hd) hcd hmg Bt hints hlen hg) fun r s' hq=>?_)
 obtain ⟨rfl,h2,h3,h4⟩:=hq
 exact ⟨.inl ⟨.bool true,.bool true,[],rfl,fun _=>rfl,.bool true,rY l _,fun _=>⟨List.Pairwise.nil,fun _ hm=>(nomatch hm)⟩⟩,h2,h3,h4⟩
end LN
namespace L2
open PySem PySem.Spec PyProof.Rows
theorem kF:∀{vs:List Value} {ns:List Int},IntsAre vs ns->Vals (ns.map V.int) vs
 | _,_,.nil=>.nil
 | _,_,.cons n t h=>.cons ⟨t,rfl⟩ (kF h)
def AJ (H:Hp):Prop:=∀b,H b=none\/∃o xs,H b=some (.frz o (.lst xs))
theorem ve {P:Program}{w:World}{K:Sw}{mg mb:Str->Option Value}{CX:tG}{k:Nat}{fa a:Addr}{fd:S9}{x:Str}{sp:Sp}{s₁:Shared}{vs:List Value}{ns:List Int}
   (KX:K.In s₁.heap) (hns:s₁.heap.Ns Uc mg) (hb:s₁.heap.Ns builtinsNs mb) (hbb:∀x:Str,x≠"__name__"->mb x=TH x) (hlim:s₁.heap.NoLimit) (hg:s₁.gens = #[])
   (ha:s₁.heap.get? a=some { cls:=.type "list",data:=.seq vs.toArray }) (hi:IntsAre vs ns) (hl:ns.length<=sizeLine) (hr:b5 k callerA)
   (F:∀base:Heap,K.In base->base.Ns Uc mg->aN P w K mg base CX k fa fd [x] sp) (hbind:∀(s:Shared) (u:Value),BindsTo s fd ⟨[u],[]⟩ [(x,u)])
   (hsp:∀H:Hp,AJ H->aq K H a (ns.map V.int)->sp [.ref a] H (fun v _=>v=.bl true) fun _ _ _=>False)
   (hCX:∀H e s',CX [] H s₁ (fun _ _ _=>False) e s'->False) :
   codeAny (model P w) callerA (.call (.ref fa) ⟨[.ref a],[]⟩) (fun r s'=>r=.ok (.ret (.bool true))/\OldK s₁.heap s'.heap/\s'.os=s₁.os/\AllBare s'.gens) s₁:=by
 have rv:=kF hi
 have KL:=hi.length
 have core:∀H:Hp,AJ H->aq K H a (ns.map V.int)->eY P w H s₁.heap->(∀b,H b≠none->b=a)->(H a≠none->K.lookup a=none) ->
     codeAny (model P w) callerA (.call (.ref fa) ⟨[.ref a],[]⟩) (fun r s'=>r=.ok (.ret (.bool true))/\OldK s₁.heap s'.heap/\s'.os=s₁.os/\AllBare s'.gens) s₁:=by
   intro H hO hS hok hA hK
   have pC:∀{b:Addr} {o:Obj},s₁.heap.get? b=some o->H b=none->(kT s₁.heap H).get? b=some o:=fun e n=>uL e n
   have noA:∀{b:Addr} {o:Obj} {es:Array DictEntry} {ep:Nat},s₁.heap.get? b=some o->o.data=.dict es ep->H b=none:=fun {b o es ep} e d=>by
     cases q:H b with
     | none=>rfl
     | some u=>
       have e':b=a:=hA b (by rw [q]; simp)
       subst e'
       rw [ha] at e; cases e
       have d':Data.seq vs.toArray _=Data.dict es ep:=d
       cases d'
   have nsK:∀{b:Addr} {m:Str->Option Value},s₁.heap.Ns b m->(kT s₁.heap H).Ns b m:=fun {b m} ⟨o,es,ep,e,d,r⟩=>⟨o,es,ep,pC e (noA e d),d,r⟩
   have Mr:K.In (kT s₁.heap H):=fun b o e=>pC (KX b o e) (by
     cases q:H b with
     | none=>rfl
     | some u=>
       have e':b=a:=hA b (by rw [q]; simp)
       subst e'
       rw [hK (by rw [q]; simp)] at e; cases e)
   have hM:Mod K mg (kT s₁.heap H):=⟨Mr,nsK hns,⟨mb,nsK hb,hbb⟩,let ⟨mc,h1,h2⟩:=hlim; ⟨mc,nsK h1,h2⟩⟩
   have e0:nC P w K mg (kT s₁.heap H) callerA [] s₁ H:=⟨rfl,hM,fun b o e=>yF e,Nat.le_of_eq (rn _ _),trivial,fun b hb=>absurd (show b∈([]:List Addr) from hb) (by simp),hok,.of_eq hg⟩
   refine codeAny_mono ((F _ Mr (nsK hns)).run callerA [] s₁ H ⟨[.ref a],[]⟩ [.ref a] [.ref a] _ _ hr e0 (hbind s₁ (.ref a)) (.cons rfl .nil) (hsp H hO hS)) fun r s' h=>?_
   cases r with
   | error e=>exact (hCX H e s' h).elim
   | ok fl=>
     cases fl with
     | next=>exact Ub h
     | brk=>exact Ub h
     | cont=>exact Ub h
     | ret u=>
       obtain ⟨v,H',os,bare,un,J6,r',q⟩:=h
       have q':v=.bl true:=q
       subst q'
       obtain rfl:u=T8 true:=r'
       refine ⟨rfl,OldK.of_keep fun b o e=>?_,os,bare⟩
       cases q:H b with
       | none=>exact un.keep b o e q (by intro z; exact absurd (show b∈([]:List Addr) from z) (by simp)) (by simp)
       | some u=>
         rcases hO b with z | ⟨ob,xs,z⟩
         · rw [q] at z; cases z
         · have z2:=un.frzs b ob _ z
           obtain ⟨e1,_⟩:=hok b _ z
           obtain ⟨e2,_⟩:=J6 b _ z2
           rw [e] at e1; cases e1
           exact e2
 cases hk:K.lookup a with
 | some o=>
   have e:=KX a o hk
   rw [ha] at e
   cases e
   refine core (fun _=>none) (fun _=>.inl rfl) (.inr ⟨_,vs.toArray,_,hk,rfl,rfl,rfl,by rw [SY,KL]; exact hl,by simpa using rv⟩) (fun b u z=>by have z':(none:Option HO)=some u:=z; cases z') (fun b z=>absurd rfl z) fun z=>absurd rfl z
 | none=>
   refine core (fun b=>if b=a then some (.frz { cls:=.type "list",data:=.seq vs.toArray } (.lst (ns.map V.int))) else none) (fun b=>?_) (.inl (.inr ⟨{ cls:=.type "list",data:=.seq vs.toArray },if_pos rfl⟩)) (fun b u z=>?_) (fun b z=>?_) fun _=>hk
   · by_cases hb:b=a
     · exact .inr ⟨_,_,if_pos hb⟩
     · exact .inl (if_neg hb)
   · by_cases hb:b=a
     · have z':=(if_pos hb).symm.trans z
       cases z'
       subst hb
       exact ⟨ha,by rw [Sv]; exact hl,vs,_,rv,ha⟩
     · have z':=(if_neg hb).symm.trans z
       cases z'
   · by_cases hb:b=a
     · exact hb
     · exact absurd (if_neg hb) z
theorem zD {l:PySem.W.OpenLaw}{n k:Nat}{q:Program}{loose:List Str}{XP:(Str->Option Value)->Heap->Prop}{YP:World->Heap->Prop}{d:DefRec}{K:Params->Sw}{CX:World->tG}{sp:World->Sp}{x:Str}
   (hn:l.most=some n) (hn2:n<=sizeLine) (hdf:d.params.defaults=[]) (hr:b5 k callerA)
   (hY:∀(w:World) (h:Heap),YP w h->(K w.params).In h)
   (F:∀(w:World) (mg:Str->Option Value) (fa:Addr) (h:Heap),(K w.params).In h->h.Ns Uc mg->mg d.name=some (.ref fa) ->
     ∃fd:S9,(∀(s:Shared) (u:Value),BindsTo s fd ⟨[u],[]⟩ [(x,u)]) /\
       ∀base:Heap,(K w.params).In base->base.Ns Uc mg->aN l.prog w (K w.params) mg base (CX w) k fa fd [x] (sp w))
   (hsp:∀(w:World) (H:Hp) (a:Addr) (ns:List Int),ns.length<=n->AJ H->aq (K w.params) H a (ns.map V.int)->sp w [.ref a] H (fun v _=>v=.bl true) fun _ _ _=>False)
   (hCX:∀(w:World) (H:Hp) (s:Shared) (e:Value) (s':Shared),CX w [] H s (fun _ _ _=>False) e s'->False) :
   PySem.W.WalkO q loose XP YP l.row.toRowW d [] (fun f vs=>PySem.call f vs):=by
 refine LN.lS hn hdf fun w s₀ s₁ mg mb fa o pm cd doc a vs ns G Y ho hd hcd hmg Bt hints hlen hg=>?_
 have KX:=hY w _ Y
 obtain ⟨fd,hb,hF⟩:=F w mg fa _ KX G.T.g hmg
 exact ve KX G.T.g G.T.b G.T.builtins G.T.nolimit hg Bt hints (S3 hlen hn2) hr hF hb (fun H hO hS=>hsp w H a ns hlen hO hS) fun H e s'=>hCX w H s₁ e s'
def cM (s:Stmt):Arguments:=match s with
 | .FunctionDef _ a _ _ _ _ _ _ _ _=>a
 | _=>{ posonlyargs:=[],args:=[],vararg:=none,kwonlyargs:=[],kw_defaults:=[],kwarg:=none,defaults:=[] }
def cq (s:Stmt):List Stmt:=match s with
 | .FunctionDef _ _ b _ _ _ _ _ _ _=>b
 | _=>[]
def ak (s:Stmt):Scope:=match s with
 | .FunctionDef _ _ _ _ _ _ sc _ _ _=>sc
 | _=>{ kind:=.function,names:=[],isGenerator:=false,isCoroutine:=false }
abbrev b6:tG:=fun _ _ _ _ _ _=>False
abbrev E0:XK:=fun _ _ _=>False
theorem vU {X:Cx}:Passes b6 X E0:=fun _ _ _ _ _ _ _ h=>h.elim
structure cL (K:Sw)(x qual:Str)(st:Stmt)(f:Addr)(fd:S9):Prop where
 ex:∃(oc:Value) (od:Option Addr) (kV doc pm:Value) (an:Option Addr) (cdv ct:Value) (osl:Array (Option Value)),
   fd=T5 x qual (cM st) (cq st) (ak st) .none kV doc pm an cdv ct/\K.lookup f=some ⟨oc,od,.func fd,osl⟩ /\ U9 K cdv qual=true
 kp:Ur K (.ref f)=true
section
variable {P:Program}{w:World}{K:Sw}{mg:Str->Option Value}{base:Heap}
theorem cL.ok {x qual:Str}{st:Stmt}{f:Addr}{fd:S9}{N ps:List Str}{k:Nat}{sp:Sp}(F:cL K x qual st f fd)(S:aE N ps (ak st))(len:∀vs H Q E,sp vs H Q E->vs.length=ps.length)
   (hbody:∀(cdv:Value) (A:Around) (outer:List Env) (s:Shared) (H:Hp) (vs:List V) (Q:VK) (E:XK),b5 k (A.deeper (envOfC qual (ak st) s.heap.objs.size f cdv))->sp vs H Q E ->
     ∃t,nr (qM b6 P w K mg base N qual (ak st) f cdv A outer s H E).Hr (cq st) t/\t { nx:=fun _ H'=>Q .non H',rt:=Q } (start N vs) H):aN P w K mg base b6 (k + 1) f fd ps sp:=by
 obtain ⟨oc,od,kV,doc,pm,an,cdv,ct,osl,rfl,lk,hcd⟩:=F.ex
 refine Ey lk hcd S len fun A outer s H vs Q E hr hsp=>?_
 obtain ⟨t,h,q⟩:=hbody cdv A outer s H vs Q E hr hsp
 exact ⟨t,h.Hr,q⟩
theorem cL.binds {x qual:Str}{st:Stmt}{f:Addr}{fd:S9}{ps:List Str}(F:cL K x qual st f fd)
   (h:∀(kV doc pm:Value) (an:Option Addr) (cdv ct:Value) (us:List Value),us.length=ps.length->V8 (T5 x qual (cM st) (cq st) (ak st) .none kV doc pm an cdv ct) ⟨us,[]⟩ = pure (ps.zip us)):Binds K fd ps []:=by
 obtain ⟨oc,od,kV,doc,pm,an,cdv,ct,osl,rfl,lk,hcd⟩:=F.ex
 exact .all (h kV doc pm an cdv ct)
theorem kN {x qual:Str}{st:Stmt}{f:Addr}{oc:Value}{od an:Option Addr}{osl:Array (Option Value)}{kV doc pm cdv ct:Value}(l:K.lookup f=some ⟨oc,od,.func (T5 x qual (cM st) (cq st) (ak st) .none kV doc pm an cdv ct),osl⟩)
   (c:U9 K cdv qual=true) (k:Ur K (.ref f)=true):cL K x qual st f (T5 x qual (cM st) (cq st) (ak st) .none kV doc pm an cdv ct):=⟨⟨oc,od,kV,doc,pm,an,cdv,ct,osl,rfl,l,c⟩,k⟩
end
theorem aB {n:Nat}(h:n<=1000):n < sizeLine:=Nat.lt_of_le_of_lt h (by decide)
theorem hV {A B:Prop}(h:B):if false=true then A else B:=by
 rw [if_neg S4]
 exact h
theorem rE {A B:Prop}(h:A):if true=true then A else B:=by
 rw [if_pos rfl]
 exact h
theorem aD {c A B:Prop}[Decidable c](h1:c->A)(h2:¬ c->B):if c then A else B:=by
 by_cases h:c
 · rw [if_pos h]
   exact h1 h
 · rw [if_neg h]
   exact h2 h
def ai (H H':Hp):Prop:=∀b o,H b=some o->H' b=some o
theorem ai.seq {K:Sw}{H H':Hp}{a:Addr}{xs:List V}(e:ai H H')(h:aq K H a xs):aq K H' a xs:=by
 rcases h with (h | ⟨o,h⟩) | h
 · exact .inl (.inl (e _ _ h))
 · exact .inl (.inr ⟨o,e _ _ h⟩)
 · exact .inr h
section
variable {κ:Type}[DecidableEq κ]
def a8 (kvs:List (κ×V))(k:κ):Option V:=(kvs.find? fun kv=>decide (kv.1=k)).map (·.2)
def putK (kvs:List (κ×V))(k:κ)(v:V):List (κ×V):=
 if (kvs.any fun kv=>decide (kv.1=k))=true then kvs.map (fun kv=>if kv.1=k then (kv.1,v) else kv) else kvs++[(k,v)]
theorem bc {p:κ×V}{r:List (κ×V)}{k:κ}(e:p.1=k):a8 (p :: r) k=some p.2:=by simp [a8,Uy,e]
theorem aY {p:κ×V}{r:List (κ×V)}{k:κ}(e:¬ p.1=k):a8 (p :: r) k=a8 r k:=by simp [a8,Uy,e]
theorem dZ (k:κ):∀kvs:List (κ×V),(kvs.any fun kv=>decide (kv.1=k))=(a8 kvs k).isSome
 | []=>rfl
 | p :: r=>by
   rw [Ug]
   by_cases e:p.1=k
   · simp only [bc e,decide_eq_true e,Bool.true_or,Option.isSome_some]
   · rw [aY e,decide_eq_false e,Bool.false_or]; exact dZ k r
theorem nk (k j:κ)(y:V):∀kvs:List (κ×V),a8 (kvs.map fun kv=>if kv.1=k then (kv.1,y) else kv) j=(a8 kvs j).map fun x=>if j=k then y else x
 | []=>rfl
 | p :: r=>by
   have ih:=nk k j y r
   rw [Tz]
   by_cases h:p.1=k
   · rw [if_pos h]
     by_cases e:p.1=j
     · rw [bc (p:=(p.1,y)) e,bc e,TQ,if_pos (e.symm.trans h)]
     · rw [aY (p:=(p.1,y)) e,aY e,ih]
   · rw [if_neg h]
     by_cases e:p.1=j
     · rw [bc (p:=p) e,bc e,TQ,if_neg (fun z=>h (e.trans z))]
     · rw [aY (p:=p) e,aY e,ih]
theorem kE (k j:κ)(y:V):∀kvs:List (κ×V),a8 kvs k=none->a8 (kvs++[(k,y)]) j=if j=k then some y else a8 kvs j
 | [],_=>by
   by_cases e:k=j
   · rw [if_pos e.symm]; exact bc (p:=(k,y)) e
   · rw [if_neg (fun z=>e z.symm)]; exact aY (p:=(k,y)) e
 | p :: r,hn=>by
   rw [VE]
   have hk:¬ p.1=k:=fun z=>by rw [bc z] at hn; cases hn
   rw [aY hk] at hn
   have ih:=kE k j y r hn
   by_cases e:p.1=j
   · rw [bc e,bc e,if_neg (fun z=>hk (e.trans z))]
   · rw [aY e,aY e,ih]
theorem cy (kvs:List (κ×V))(k j:κ)(y:V):a8 (putK kvs k y) j=if j=k then some y else a8 kvs j:=by
 unfold putK
 by_cases a:(kvs.any fun kv=>decide (kv.1=k))=true
 · rw [if_pos a,nk]
   rw [dZ] at a
   by_cases e:j=k
   · obtain ⟨x,hx⟩:=Option.isSome_iff_exists.mp a
     rw [if_pos e,e,hx,TQ,if_pos rfl]
   · rw [if_neg e]
     cases a8 kvs j with
     | none=>rfl
     | some x=>rw [TQ,if_neg e]
 · rw [if_neg a]
   refine kE k j y kvs ?_
   rw [dZ] at a
   cases q:a8 kvs k with
   | none=>rfl
   | some x=>rw [q] at a; exact (a rfl).elim
theorem bH (kvs:List (κ×V))(k:κ)(v:V):(putK kvs k v).length<=kvs.length + 1:=by
 unfold putK
 split
 · rw [Sv]; omega
 · rw [Sy,Th,List.length_nil]; omega
theorem dB.rC {o:Option V}{u:Option Value}(r:dB o u):o.isSome=u.isSome:=by
 cases o with
 | none=>cases u with
   | none=>rfl
   | some _=>exact (show False from r).elim
 | some _=>cases u with
   | none=>exact (show False from r).elim
   | some _=>rfl
theorem dB.getD {o:Option V}{u:Option Value}{d:V}{d':Value}(r:dB o u)(rd:RelV d d'):RelV (o.getD d) (u.getD d'):=by
 cases o with
 | none=>cases u with
   | none=>exact rd
   | some _=>exact (show False from r).elim
 | some _=>cases u with
   | none=>exact (show False from r).elim
   | some _=>exact r
theorem KV.val {kvs:List (κ×V)}{vs:List (κ×Value)}(r:KV kvs vs)(k:κ):dB (a8 kvs k) (valueAt vs k):=by
 unfold KV at r
 induction r with
 | nil=>exact Tj
 | @cons p q ps qs h t ih=>
   obtain ⟨h1,h2⟩:=h
   by_cases e:p.1=k
   · have e':q.1=k:=h1.symm.trans e
     have b:valueAt (q :: qs) k=some q.2:=by simp [valueAt,Uy,e']
     rw [bc e,b]; exact h2
   · have e':¬ q.1=k:=fun z=>e (h1.trans z)
     have b:valueAt (q :: qs) k=valueAt qs k:=by simp [valueAt,Uy,e']
     rw [aY e,b]; exact ih
theorem KV.any {kvs:List (κ×V)}{vs:List (κ×Value)}(r:KV kvs vs)(k:κ):(kvs.any fun kv=>decide (kv.1=k))=vs.any fun kv=>decide (kv.1=k):=by
 unfold KV at r
 induction r with
 | nil=>rfl
 | cons h t ih=>rw [Ug,Ug,ih,h.1]
theorem KV.Df {kvs:List (κ×V)}{vs:List (κ×Value)}(r:KV kvs vs)(k:κ){y:V}{u:Value}(ry:RelV y u) :
   KV (kvs.map fun kv=>if kv.1=k then (kv.1,y) else kv) (vs.map fun kv=>if kv.1=k then (kv.1,u) else kv):=by
 unfold KV at r ⊢
 induction r with
 | nil=>exact .nil
 | @cons p q ps qs h t ih=>
   rw [Tz,Tz]
   refine .cons ?_ ih
   obtain ⟨h1,h2⟩:=h
   by_cases e:p.1=k
   · rw [if_pos e,if_pos (h1.symm.trans e)]; exact ⟨h1,ry⟩
   · rw [if_neg e,if_neg (fun z=>e (h1.trans z))]; exact ⟨h1,h2⟩
theorem KV.put {kvs:List (κ×V)}{vs:List (κ×Value)}(r:KV kvs vs)(k:κ){y:V}{u:Value}(ry:RelV y u):KV (putK kvs k y) (stored vs k u):=by
 unfold putK stored
 rw [r.any k]
 by_cases e:(vs.any fun kv=>decide (kv.1=k))=true
 · rw [if_pos e,if_pos e]; exact r.Df k ry
 · rw [if_neg e,if_neg e]; exact Paired.snoc r ⟨rfl,ry⟩
theorem KV.length {kvs:List (κ×V)}{vs:List (κ×Value)}(r:KV kvs vs):kvs.length=vs.length:=Paired.length r
end
theorem j8 {P:Program}{w:World}{k:Key}{u:Value}(r:RelV (kV k) u):(aZ P w).is k u=true:=by
 cases k with
 | inl i=>obtain ⟨t,e⟩:=(show ∃t,u=UU i t from r); subst e; exact mO P w i t
 | inr x=>obtain ⟨t,e⟩:=(show ∃t,u=VL x t from r); subst e; exact mP P w x t
theorem j7 {P:Program}{w:World}:∀{ks:List Key} {us:List Value},Vals (ks.map kV) us->ItemsAre (aZ P w) ks us
 | [],_,r=>by rw [Wj] at r; cases r; exact .nil
 | k :: ks,_,r=>by
   rw [Tz] at r
   cases r with
   | cons h t=>exact .cons (j8 h) (j7 t)
abbrev KT (H:Hp):List (List Key×V)->List (List Key×Addr×Value)->Prop:=Paired fun p q=>p.1=q.1/\H q.2.1=some (.tup (p.1.map kV))/\RelV p.2 q.2.2
theorem KT.val {H:Hp}{kvs:List (List Key×V)}{xs:List (List Key×Addr×Value)}(r:KT H kvs xs)(k:List Key):dB (a8 kvs k) ((atKey xs k).map (·.2)):=by
 induction r with
 | nil=>exact Tj
 | @cons p q ps qs h t ih=>
   obtain ⟨h1,_,h2⟩:=h
   by_cases e:p.1=k
   · have e':q.1=k:=h1.symm.trans e
     have b:atKey (q :: qs) k=some q.2:=by simp [atKey,Uy,e']
     rw [bc e,b]; exact h2
   · have e':¬ q.1=k:=fun z=>e (h1.trans z)
     have b:atKey (q :: qs) k=atKey qs k:=by simp [atKey,Uy,e']
     rw [aY e,b]; exact ih
theorem KT.Df {H:Hp}{kvs:List (List Key×V)}{xs:List (List Key×Addr×Value)}(r:KT H kvs xs)(k:List Key){y:V}{u:Value}(ry:RelV y u) :
   KT H (kvs.map fun kv=>if kv.1=k then (kv.1,y) else kv) (xs.map (putAt k u)):=by
 induction r with
 | nil=>exact .nil
 | @cons p q ps qs h t ih=>
   rw [Tz,Tz]
   refine .cons ?_ ih
   obtain ⟨h1,h2,h3⟩:=h
   unfold putAt
   by_cases e:p.1=k
   · rw [if_pos e,if_pos (h1.symm.trans e)]; exact ⟨h1,h2,ry⟩
   · rw [if_neg e,if_neg (fun z=>e (h1.trans z))]; exact ⟨h1,h2,h3⟩
theorem KT.put {H:Hp}{kvs:List (List Key×V)}{xs:List (List Key×Addr×Value)}(r:KT H kvs xs)(k:List Key){b:Addr}{y:V}{u:Value}(hb:H b=some (.tup (k.map kV)))(ry:RelV y u) :
   KT H (putK kvs k y) (storedH xs k b u):=by
 have e:(kvs.any fun kv=>decide (kv.1=k))=(atKey xs k).isSome:=by
   rw [dZ,(r.val k).rC,Option.isSome_map]
 unfold putK storedH
 rw [e]
 by_cases q:(atKey xs k).isSome=true
 · rw [if_pos q,if_pos q]; exact r.Df k ry
 · rw [if_neg q,if_neg q]; exact Paired.snoc r ⟨rfl,hb,ry⟩
theorem KT.keeps {H H':Hp}{kvs:List (List Key×V)}{xs:List (List Key×Addr×Value)}(r:KT H kvs xs)(ht:∀b ys,H b=some (.tup ys)->H' b=some (.tup ys)):KT H' kvs xs:=
 Paired.aI r fun _ _ z=>⟨z.1,ht _ _ z.2.1,z.2.2⟩
section
variable {P:Program}{w:World}{H:Hp}{h:Heap}{a:Addr}
theorem Aj {u:HO}(ok:eY P w H h)(e:Rd H a u):aU P w H h a u:=e.ok ok
theorem mf {kvs:List (Key×V)}(ok:eY P w H h)(e:Rd H a (.dK kvs)):kvs.length<=sizeLine/\(a == Ut)=false/\∃vs,KV kvs vs/\h.DictOf (aZ P w) a vs:=
 show aU P w H h a (.dK kvs) from Aj ok e
theorem tW {kvs:List (Key×V)}(ok:eY P w H h)(e:H a=some (.dK kvs)):kvs.length<=sizeLine/\(a == Ut)=false/\∃vs,KV kvs vs/\h.DictOf (aZ P w) a vs:=mf ok (.inl e)
theorem i4 {ks:List Key}(ok:eY P w H h)(e:H a=some (.tup (ks.map kV))):(tupleKind (aZ P w)).is h ks a:=by
 obtain ⟨_,its,r,o,h1,h2,n,h3⟩:=(show aU P w H h a (.tup (ks.map kV)) from ok a _ e)
 exact ⟨o,its.toArray,n,h1,h2,h3,by simpa using j7 r⟩
theorem mj {kvs:List (List Key×V)}(ok:eY P w H h)(e:Rd H a (.dT kvs)):kvs.length<=sizeLine/\(a == Ut)=false /\
   ∃xs,KT H kvs xs/\h.DictOfH (tupleKind (aZ P w)) a xs:=by
 obtain ⟨z,y,xs,r,o,es,ep,h1,h2,h3,h4,h5⟩:=(show aU P w H h a (.dT kvs) from Aj ok e)
 refine ⟨z,y,xs,r,o,es,ep,h1,h2,h3,h4,fun x hx=>?_,h5⟩
 have all:∀{l:List (List Key×V)} {m:List (List Key×Addr×Value)},KT H l m->∀x∈m,(tupleKind (aZ P w)).is h x.1 x.2.1:=by
   intro l m q
   induction q with
   | nil=>intro x hx; exact nomatch hx
   | @cons p q ps qs hq t ih=>
     intro x hx
     rcases List.mem_cons.mp hx with e | hx
     · subst e
       exact i4 ok (by rw [← hq.1]; exact hq.2.1)
     · exact ih x hx
 exact all r x hx
theorem zK {kvs:List (List Key×V)}(ok:eY P w H h)(e:H a=some (.dT kvs)):kvs.length<=sizeLine/\(a == Ut)=false /\
   ∃xs,KT H kvs xs/\h.DictOfH (tupleKind (aZ P w)) a xs:=mj ok (.inl e)
end
def eB (H:Hp)(a:Addr)(y:V)(r:Option V):Prop:=
 (∃kvs k,Rd H a (.dK kvs)/\y=kV k/\r=a8 kvs k)\/∃kvs k b,Rd H a (.dT kvs)/\y=.ref b/\H b=some (.tup (k.map kV))/\r=a8 kvs k
def eC (H:Hp)(a:Addr)(y v:V)(H':Hp):Prop:=
 (∃kvs k,H a=some (.dK kvs)/\y=kV k/\kvs.length < sizeLine/\H'=upd H a (.dK (putK kvs k v))) \/
 ∃kvs k b,H a=some (.dT kvs)/\y=.ref b/\H b=some (.tup (k.map kV))/\kvs.length < sizeLine/\H'=upd H a (.dT (putK kvs k v))
theorem eB.k {H:Hp}{a:Addr}{kvs:List (Key×V)}{k:Key}(e:H a=some (.dK kvs)):eB H a (kV k) (a8 kvs k):=.inl ⟨kvs,k,.inl e,rfl,rfl⟩
theorem eB.t {H:Hp}{a b:Addr}{kvs:List (List Key×V)}{k:List Key}(e:H a=some (.dT kvs))(eb:H b=some (.tup (k.map kV))):eB H a (.ref b) (a8 kvs k):=.inr ⟨kvs,k,b,.inl e,rfl,eb,rfl⟩
theorem eC.k {H:Hp}{a:Addr}{kvs:List (Key×V)}{k:Key}{v:V}(e:H a=some (.dK kvs))(hl:kvs.length < sizeLine):eC H a (kV k) v (upd H a (.dK (putK kvs k v))):=.inl ⟨kvs,k,e,rfl,hl,rfl⟩
theorem eC.t {H:Hp}{a b:Addr}{kvs:List (List Key×V)}{k:List Key}{v:V}(e:H a=some (.dT kvs))(eb:H b=some (.tup (k.map kV)))(hl:kvs.length < sizeLine) :
   eC H a (.ref b) v (upd H a (.dT (putK kvs k v))):=.inr ⟨kvs,k,b,e,rfl,eb,hl,rfl⟩
section
variable {X:Cx}{pins:List (Addr×Obj)}{σ:St}{H:Hp}{s:Shared}{a:Addr}{y v:V}{u r:Value}{o:Option V}{A:Around}{E:Value->Shared->Prop}
theorem Inv.big (I:Inv X pins σ H s):Ut < s.heap.objs.size:=by
 have h:Uc < s.heap.objs.size:=(I.mod.glob.keeps I.bk).lt
 exact Nat.lt_trans (by decide) h
theorem qO {Q:Value->Shared->Prop}(hu:A.units + 1 < cLine)(I:Inv X pins σ H s)(g:eB H a y (some v))(ry:RelV y u)(h:∀w' s',Inv X pins σ H s'->RelV v w'->Q w' s') :
   wpAny (model X.prog X.w) A (getItem (.ref a) u) Q E s:=by
 rcases g with ⟨kvs,k,e,ey,l⟩ | ⟨kvs,k,b,e,ey,eb,l⟩
 · subst ey
   obtain ⟨z,hd,vs,rel,dd⟩:=mf I.hok e
   obtain ⟨w',hw,rw'⟩:=dB.some_of (v:=v) (o:=valueAt vs k) (by rw [l]; exact rel.val k)
   exact wpAny_getItem_of (j8 ry) dd.mapOf hw (h w' _ (I.tok _) rw')
 · subst ey
   cases (show u=Tq b from ry)
   obtain ⟨z,hd,xs,rel,dd⟩:=mj I.hok e
   obtain ⟨w',hw,rw'⟩:=dB.some_of (v:=v) (o:=(atKey xs k).map (·.2)) (by rw [l]; exact rel.val k)
   obtain ⟨p,hp,bF⟩:=Option.map_eq_some_iff.mp hw
   refine wpAny_getItem_heap (tupleKind_room_in1 hu) (i4 I.hok eb) dd hp ?_
   rw [bF]
   exact h w' _ (I.tok _) rw'
theorem fh {h':Heap}{t':Nat}{ob:HO}(I:Inv X pins σ H s)(mu:D9 (H a))(hs:Um a s.heap h')(he:∃q,h'.get? a=some q)(new:aU X.prog X.w (upd H a ob) h' a ob) :
   Inv X pins σ (upd H a ob) { s with heap:=h',toks:=t' }:=
 I.write (x:=a) (e:=a) mu (.inl rfl) (fun b q hb z=>(hs.2 b hb).trans z) he new
theorem nN {P:Program}{w:World}{H':Hp}{h':Heap}{kvs:List (Key×V)}{vs:List (Key×Value)}(z:kvs.length<=sizeLine)(hd:(a == Ut)=false)(rel:KV kvs vs)(dd:h'.DictOf (aZ P w) a vs) :
   aU P w H' h' a (.dK kvs):=⟨z,hd,vs,rel,dd⟩
theorem qP {H':Hp}{Q:Unit->Shared->Prop}(hu:A.units + 1 < cLine)(I:Inv X pins σ H s)(g:eC H a y v H')(ry:RelV y u)(rv:RelV v r)(h:∀s',Inv X pins σ H' s'->Q () s') :
   wpAny (model X.prog X.w) A (setItem (.ref a) u r) Q E s:=by
 rcases g with ⟨kvs,k,e,ey,l,eH⟩ | ⟨kvs,k,b,e,ey,eb,l,eH⟩
 · subst ey eH
   obtain ⟨z,hd,vs,rel,dd⟩:=tW I.hok e
   have hz:vs.length<=sizeLine:=by rw [← rel.length]; exact z
   have hl:(putK kvs k v).length<=sizeLine:=by have:=bH kvs k v; omega
   refine wpAny_setItem_pairs (hsz:=hz) (j8 ry) dd fun h' qQ hs=>h _ ?_
   have he:∃q,h'.get? a=some q:=let ⟨q,_,_,hq,_⟩:=qQ; ⟨q,hq⟩
   exact fh I (by rw [e]; exact Tj) hs he (nN hl hd (rel.put k rv) qQ)
 · subst ey eH
   cases (show u=Tq b from ry)
   obtain ⟨z,hd,xs,rel,dd⟩:=zK I.hok e
   have hz:xs.length<=sizeLine:=by rw [← Paired.length rel]; exact z
   have hl:(putK kvs k v).length<=sizeLine:=by have:=bH kvs k v; omega
   refine wpAny_setItem_heap (hsz:=hz) (tupleKind_room_in1 hu) (i4 I.hok eb) dd fun h' qQ hs=>h _ ?_
   obtain ⟨q,es,ep,hq,h2,h3,h4,_,h5⟩:=qQ
   refine fh I (by rw [e]; exact Tj) hs ⟨q,hq⟩ ⟨hl,hd,_,(rel.put k eb rv).keeps fun c ys ec=>?_,q,es,ep,hq,h2,h3,h4,h5⟩
   rw [aj (b8 ec e (fun z=>nomatch z))]
   exact ec
end
def AI (i:Expr):Prop:=∀ov iv,subscripted i false ov iv=operate [ov,iv] (getItem ov iv)
theorem zB {prog:Program}{w:World}{A:Around}{E:Value->Shared->Prop}{s:Shared}{env:Env}{value slice:Expr}{pos:Pos}{T id:String}{Q:Value->Shared->Prop}
   (hl:typeLookup (.type T) "__getitem__"=pure (some (.builtin id))) (hs:AI slice)
   (h:wpAny (model prog w) A (eval value env) (fun o s₁=>wpAny (model prog w) A (eval slice env) (fun i s₂=>s₂.TypeIs o T/\wpAny (model prog w) A (getItem o i) Q E s₂) E s₁) E s) :
   wpAny (model prog w) A (eval (.Subscript value slice pos) env) Q E s:=by
 refine Subscript_ (wpAny_mono h (fun o s₁ h₁=>wpAny_mono h₁ (fun i s₂ h₂=>?_) fun _ _ x=>x) fun _ _ x=>x)
 obtain ⟨hT,h₂⟩:=h₂
 unfold subscriptTail
 refine wpAny_bind ?_
 rw [getitemInPython_of_ne hT.not_modules]
 refine wpAny_bind (wpAny_specialOf hT hl ?_)
 have fin:wpAny (model prog w) A (subscripted slice false o i) (fun r s₃=>wpAny (model prog w) A (letTemporaryGo value o r >>= fun _=>pure r) Q E s₃) E s₂:=by
   rw [hs o i]
   exact wpAny_operating (wpAny_mono h₂ (fun r s₃ h₃=>wpAny_bind (wpAny_letTemporaryGo (wpAny_pure h₃))) fun _ _ x=>x)
 first
   | exact wpAny_pure (wpAny_bind fin)
   | exact wpAny_bind (wpAny_pure (wpAny_bind fin))
   | exact wpAny_bind fin
theorem md {X:Cx}{pins:List (Addr×Obj)}{σ:St}{H:Hp}{s:Shared}{a:Addr}{y:V}{o:Option V}(I:Inv X pins σ H s)(g:eB H a y o):s.TypeIs (.ref a) "dict":=by
 rcases g with ⟨kvs,k,e,_,_⟩ | ⟨kvs,k,b,e,_,_,_⟩
 · obtain ⟨_,_,vs,_,dd⟩:=mf I.hok e
   exact dd.typeIs
 · obtain ⟨_,_,xs,_,dd⟩:=mj I.hok e
   exact dd.typeIs
def Av (td ty:TE):TE:=fun σ H Q=>td σ H fun x H1=>ty σ H1 fun y H2=>∃a v,x=.ref a/\eB H2 a y (some v)/\Q v H2
def Al (td ty tv:TE):TS:=fun D σ H=>tv σ H fun v H1=>td σ H1 fun x H2=>ty σ H2 fun y H3=>∃a H4,x=.ref a/\eC H3 a y v H4/\D.nx σ H4
section
variable {X:Cx}{o i e value:Expr}{pos pos' Lw:Pos}{td ty tv:TE}
theorem yZ (hu:X.A.units + 1 < cLine)(ho:PE X o td)(hi:PE X i ty)(hs:AI i):PE X (.Subscript o i pos) (Av td ty):=by
 intro pins s σ H Q I h
 refine zB PySem.F.slot_dict_getitem.lookup hs (bf (ho pins s σ H _ I h) fun u s1 ⟨x,H1,I1,rx,q1⟩=>bf (hi pins s1 σ H1 _ I1 q1) fun iv s2 ⟨y,H2,I2,ry,a,v,ex,g,q2⟩=>?_)
 subst ex
 obtain rfl:u=Tq a:=rx
 exact ⟨md I2 g,qO hu I2 g ry fun w' s3 I3 rw'=>⟨v,H2,I3,rw',q2⟩⟩
theorem zf (hu:X.A.units + 1 < cLine)(ho:PE X o td)(hi:PE X i ty)(hv:PE X value tv)(hs:Ul value (some (.Subscript o i pos')) pos.line X.env=pure false) :
   PS X (.Assign [.Subscript o i pos'] value pos) (Al td ty tv):=by
 intro pins s σ H D I h
 refine wpAny_Assign_Subscript (bf (hv pins s σ H _ I h) fun r s1 ⟨v,H1,I1,rv,q1⟩=>bf (ho pins s1 σ H1 _ I1 q1) fun u s2 ⟨x,H2,I2,rx,q2⟩=>bf (hi pins s2 σ H2 _ I2 q2) fun iv s3 ⟨y,H3,I3,ry,a,H4,ex,g,q3⟩=>?_) hs
 subst ex
 obtain rfl:u=Tq a:=rx
 exact qP hu I3 g ry rv fun s4 I4=>⟨σ,H4,I4,q3⟩
end
theorem me {P:Program}{w:World}{H:Hp}(h:Heap)(hb:Ut < h.objs.size):aU P w H (h.push { cls:=.type "dict",data:=.dict #[] }) h.objs.size (.dK []):=
 ⟨TN _,beq_eq_false_iff_ne.mpr (Ne.symm (Td hb)),[],.nil,Wg h⟩
theorem mi {P:Program}{w:World}{H:Hp}(h:Heap)(hb:Ut < h.objs.size):aU P w H (h.push { cls:=.type "dict",data:=.dict #[] }) h.objs.size (.dT []):=
 ⟨TN _,beq_eq_false_iff_ne.mpr (Ne.symm (Td hb)),[],.nil,_,#[],0,Tb _ rfl,⟨rfl,rfl,rfl⟩,rfl,rfl,US⟩
def w9:TE:=fun _ H Q=>∀p,H p=none->Q (.ref p) (upd H p (.dK []))
def xb:TE:=fun _ H Q=>∀p,H p=none->Q (.ref p) (upd H p (.dT []))
section
variable {X:Cx}{pos:Pos}
theorem vX:PE X (.Dict [] [] pos) w9:=fun pins s σ H Q I h=>
 wpAny_Dict_empty ⟨.ref s.heap.objs.size,_,I.laid (a:=s.heap.objs.size) (o:=.dK []) (t':=s.toks) (fun _ _ q=>SN _ q) (Sz _) (me s.heap I.big),rfl,h _ (I.hok.fresh (Sz _))⟩
theorem vY:PE X (.Dict [] [] pos) xb:=fun pins s σ H Q I h=>
 wpAny_Dict_empty ⟨.ref s.heap.objs.size,_,I.laid (a:=s.heap.objs.size) (o:=.dT []) (t':=s.toks) (fun _ _ q=>SN _ q) (Sz _) (mi s.heap I.big),rfl,h _ (I.hok.fresh (Sz _))⟩
end
structure M2 (X:Cx)(o:Expr)(m:Str)(apos:Pos)(e f:Expr)(cpos:Pos):Prop where
 base:TU o m X.env (eval o X.env)=eval o X.env
 few:((backTo cpos (starEach [e,f] X.env)).all (fun x=>!x.1) && (backToKw cpos (keywordEach [] X.env)).all (fun x=>x.1.isSome)
   && decide (([e,f]:List Expr).length + ([]:List Keyword).length + (if ([]:List Keyword).isEmpty then 0 else 1) < 30))=true
 line:(apos.endLine == cpos.line)=true
 trees:backTo cpos (starEach [e,f] X.env)=[(false,eval e X.env),(false,eval f X.env)]
def LR (H:Hp)(a:Addr):Prop:=(∃kvs,Rd H a (.dK kvs))\/∃kvs,Rd H a (.dT kvs)
theorem BE {X:Cx}{pins:List (Addr×Obj)}{σ:St}{H:Hp}{s:Shared}{a:Addr}(I:Inv X pins σ H s)(d:LR H a) :
   s.TypeIs (.ref a) "dict"/\(∀b,Tq a=.ref b->∃ob,s.heap.get? b=some ob/\ob.dict=none)/\(a == Ut)=false:=by
 rcases d with ⟨kvs,e⟩ | ⟨kvs,e⟩
 · obtain ⟨_,hd,vs,_,dd⟩:=mf I.hok e
   refine ⟨dd.typeIs,fun b q=>?_,hd⟩
   cases q
   obtain ⟨ob,_,_,h1,h2,_⟩:=dd
   exact ⟨ob,h1,h2.2.1⟩
 · obtain ⟨_,hd,xs,_,dd⟩:=mj I.hok e
   refine ⟨dd.typeIs,fun b q=>?_,hd⟩
   cases q
   obtain ⟨ob,_,_,h1,h2,_⟩:=dd
   exact ⟨ob,h1,h2.2.1⟩
section
variable {X:Cx}{pins:List (Addr×Obj)}{σ:St}{H:Hp}{s:Shared}{a:Addr}{y d:V}{u r:Value}{o:Option V}{A:Around}{E:Value->Shared->Prop}
theorem AY {Q:Value->Shared->Prop}(hu:A.units + 1 < cLine)(I:Inv X pins σ H s)(g:eB H a y o)(ry:RelV y u)(rd:RelV d r)(h:∀w' s',Inv X pins σ H s'->RelV (o.getD d) w'->Q w' s') :
   wpAny (model X.prog X.w) A (call (.builtin "dict.get") [.ref a,u,r]) Q E s:=by
 rcases g with ⟨kvs,k,e,ey,l⟩ | ⟨kvs,k,b,e,ey,eb,l⟩
 · subst ey
   obtain ⟨z,hd,vs,rel,dd⟩:=mf I.hok e
   refine call_meetsIn U1 dd.typeIs V0 (VW _ _ _) (meets_dict_get_default (aZ X.prog X.w) a (j8 ry) hd r) ⟨_,dd.mapOf,h _ _ (I.tok _) ?_⟩
   rw [l]
   exact (rel.val k).getD rd
 · subst ey
   cases (show u=Tq b from ry)
   obtain ⟨z,hd,xs,rel,dd⟩:=mj I.hok e
   refine call_meetsIn U1 dd.typeIs V0 (VW _ _ _) (meetsH_dict_get_default (tupleKind (aZ X.prog X.w)) a b hd r) ⟨tupleKind_room_in1 hu,k,xs,i4 I.hok eb,dd,h _ _ (I.tok _) ?_⟩
   rw [l]
   exact (rel.val k).getD rd
end
def w6 (td ty tx:TE):TE:=fun σ H Q=>td σ H fun x H1=>∃a,x=.ref a/\LR H1 a/\ty σ H1 fun y H2=>tx σ H2 fun z H3=>∃o,eB H3 a y o/\Q (o.getD z) H3
section
variable {X:Cx}{o e f:Expr}{apos cpos:Pos}{td ty tx:TE}
theorem vW (hu:X.A.units + 1 < cLine)(ho:PE X o td)(he:PE X e ty)(hf:PE X f tx)(m:M2 X o "get" apos e f cpos):PE X (.Call (.Attribute o "get" apos) [e,f] [] cpos) (w6 td ty tx):=by
 intro pins s σ H Q I h
 refine wpAny_Call_method m.base m.few m.line PySem.F.plainAttrs_dict U1 PySem.F.type_dict_get (bf (ho pins s σ H _ I h) fun u s1 ⟨x,H1,I1,rx,a,ex,d,q1⟩=>?_)
 subst ex
 obtain rfl:u=Tq a:=rx
 obtain ⟨t1,t2,_⟩:=BE I1 d
 refine ⟨t1,t2,?_⟩
 rw [m.trees]
 refine Wa rfl (Wn (UO (bf (he pins s1 σ H1 _ I1 q1) fun iv s2 ⟨y,H2,I2,ry,q2⟩=>
   UO (bf (hf pins s2 σ H2 _ I2 q2) fun fv s3 ⟨z,H3,I3,rz,ov,g,q3⟩=>Vx ?_))))
 exact AY hu I3 g ry rz fun w' s4 I4 rw'=>⟨_,H3,I4,rw',q3⟩
end
end L2
namespace L2
open PySem PySem.Spec PyProof.Rows
def dH (scope:Scope)(env:Env):List (Str×Addr):=
 (scope.names.filterMap fun (p:Str×UD)=>if p.2 == .free then (env.cells.lookup p.1).map fun c=>(p.1,c) else none).reverse
theorem iH (env:Env):∀(l:List (Str×UD)) (acc:List (Str×Addr)),(∀p∈l,p.2=.free->∃c,env.cells.lookup p.1=some c) ->
   (forIn l acc fun (x:Str×UD) (r:List (Str×Addr))=>if (x.2 == Ts)=true then do let c ← cellOf env x.1; pure (Uu ((x.1,c) :: r)) else pure (Uu r):Sem (List (Str×Addr))) =
     pure ((l.filterMap fun (p:Str×UD)=>if p.2 == .free then (env.cells.lookup p.1).map fun c=>(p.1,c) else none).reverse++acc)
 | [],acc,_=>rfl
 | p :: l,acc,h=>by
   have ih:=fun acc=>iH env l acc fun q hq=>h q (TY _ hq)
   rw [VS]
   by_cases hp:p.2=.free
   · obtain ⟨c,hc⟩:=h p TV hp
     have e:(p.2 == Ts)=true:=by rw [hp]; rfl
     rw [if_pos e]
     have ec:cellOf env p.1=pure c:=by unfold cellOf; rw [hc]
     rw [ec,T2,if_pos e,hc]
     show (forIn l ((p.1,c) :: acc) _:Sem _)=_
     rw [ih]
     simp
   · have e:¬ (p.2 == Ts)=true:=by intro z; exact hp (by simpa using z)
     rw [if_neg e,T2,if_neg e]
     show (forIn l acc _:Sem _)=_
     rw [ih]
theorem iI {scope:Scope}{env:Env}(h:∀p∈scope.names,p.2=.free->∃c,env.cells.lookup p.1=some c):closureFor scope env=pure (dH scope env):=by
 have e:=iH env scope.names [] h
 rw [Tu] at e
 show ((forIn scope.names [] fun (x:Str×UD) (r:List (Str×Addr))=>if (x.2 == Ts)=true then do let c ← cellOf env x.1; pure (Uu ((x.1,c) :: r)) else pure (Uu r)) >>= fun cs=>pure cs:Sem (List (Str×Addr)))=_
 rw [e]
 rfl
theorem kL {scope:Scope}{env:Env}{x:Str}{c:Addr}(h:(x,c)∈dH scope env):(x,Ts)∈scope.names/\env.cells.lookup x=some c:=by
 unfold dH at h
 obtain ⟨p,hp,e⟩:=List.mem_filterMap.mp (List.mem_reverse.mp h)
 obtain ⟨n,k⟩:=p
 dsimp only at e
 by_cases hk:(k == Ts)=true
 · rw [if_pos hk] at e
   have JF:k=.free:=by simpa using hk
   subst JF
   cases q:env.cells.lookup n with
   | none=>rw [q] at e; cases e
   | some c'=>rw [q] at e; cases e; exact ⟨hp,q⟩
 · rw [if_neg hk] at e; cases e
theorem jO {scope:Scope}{env:Env}{x:Str}{c:Addr}(hm:(x,Ts)∈scope.names)(hc:env.cells.lookup x=some c):(dH scope env).lookup x=some c:=by
 have hin:(x,c)∈dH scope env:=by
   unfold dH
   refine List.mem_reverse.mpr (List.mem_filterMap.mpr ⟨(x,.free),hm,?_⟩)
   simp [hc]
 cases q:(dH scope env).lookup x with
 | none=>
   have:=List.lookup_eq_none_iff.mp q (x,c) hin
   simp at this
 | some c'=>
   obtain ⟨_,e⟩:=kL (Tx q)
   rw [hc] at e
   exact e.symm
structure ar (sc:Scope)(env:Scope):Prop where
 kind:sc.kind=.function
 cell:∀y∈sc.names,y.2≠.cell
 names:∀x∈sc.names,x.2=.local->sc.names.lookup x.1=some .local
 free:∀x∈sc.names,x.2=.free->env.names.lookup x.1=some .cell\/env.names.lookup x.1=some .free
def bw (sc:Scope)(src:List (Option Nat))(N' N:List Str):Bool:=
 src.length == N'.length && (src.zip N').all fun p=>match p.1 with
   | none=>true
   | some j=>N[j]? == some p.2 && sc.names.lookup p.2 == some .free
def capσ (src:List (Option Nat))(σ:St):St:=src.map fun o=>match o with
 | none=>none
 | some j=>match σ[j]? with
   | some v=>v
   | none=>none
theorem xJ {sc:Scope}{N N':List Str}{src:List (Option Nat)}(h:bw sc src N' N=true){i:Nat}{x:Str}{j:Nat}(h1:src[i]? = some (some j))(h2:N'[i]? = some x):N[j]? = some x/\sc.names.lookup x=some .free:=by
 unfold bw at h
 have h':=(Uv _ _ ▸ h).2
 have hz:(src.zip N')[i]? = some (some j,x):=by rw [V3]; exact ⟨h1,h2⟩
 have q:=List.all_eq_true.mp h' _ (SF hz)
 simpa using q
theorem tO {sc:Scope}{N N':List Str}{src:List (Option Nat)}(h:bw sc src N' N=true):src.length=N'.length:=by
 unfold bw at h
 have h':=(Uv _ _ ▸ h).1
 simpa using h'
def bX (X:Cx)(N':List Str)(sc:Scope)(s:Shared)(H:Hp)(C:Addr)(fp:List Addr)(xe:Value->Shared->Prop):Cx where
 prog:=X.prog
 w:=X.w
 K:=X.K
 mg:=X.mg
 base:=X.base
 A:=X.A
 N:=N'
 s₀:=s
 H₀:=H
 env:=compEnvC sc (dH sc X.env) C X.env
 outer:=X.stack
 stack:=X.stack
 ex:=fp
 fn:=fun _=>false
 calm:=X.calm
 pn:=[]
 xe:=xe
theorem dU {sc:Scope}{env:Env}{x:Str}:∀{names:List (Str×UD)},
   (names.map fun (p:Str×UD)=>if (p.2 == Ts && env.scope.kind == .function && env.kindOf p.1 == some .cell) then (p.1,VO) else (p.1,p.2)).lookup x =
     (names.lookup x).map fun k=>if (k == Ts && env.scope.kind == .function && env.kindOf x == some .cell) then VO else k
 | []=>rfl
 | (n,k) :: r=>by
   have ih:=@dU sc env x r
   rw [Tz]
   cases hx:x == n with
   | true=>
     have e:x=n:=by simpa using hx
     subst e
     by_cases hc:(k == Ts && env.scope.kind == .function && env.kindOf x == some .cell)=true
     · simp only [hc,if_true,U2,hx,TQ]
     · simp only [hc,if_false,U2,hx,TQ,Vu]
   | false=>
     by_cases hc:(k == Ts && env.scope.kind == .function && env.kindOf n == some .cell)=true
     · simp only [hc,if_true,U2,hx]; exact ih
     · simp only [hc,if_false,U2,hx,Vu]; exact ih
theorem jQ {sc:Scope}{env:Env}{cl:List (Str×Addr)}{C:Addr}(x:Str):(compEnvC sc cl C env).kindOf x =
   (sc.names.lookup x).map fun k=>if (k == Ts && env.scope.kind == .function && env.kindOf x == some .cell) then VO else k:=
 dU (sc:=sc) (env:=env)
section
variable {X:Cx}{pins:List (Addr×Obj)}{σ:St}{H:Hp}{s:Shared}{N':List Str}{sc:Scope}{src:List (Option Nat)}{fp:List Addr}{xe:Value->Shared->Prop}
theorem iJ (I:Inv X pins σ H s)(S:ar sc X.env.scope)(hc:bw sc src N' X.N=true)(hf:∀b∈fp,cS X pins H b)(ho:∀b∈fp,∃o,s.heap.get? b=some o){h₁:Heap}{tk:Nat}
   (hn:h₁.Ns s.heap.objs.size (fun _=>none)) (hk:∀b o,s.heap.get? b=some o->h₁.get? b=some o) :
   Inv (bX X N' sc s H s.heap.objs.size fp xe) [] (capσ src σ) H { s with heap:=h₁,toks:=tk }:=by
 have cellmem:∀x c,(dH sc X.env).lookup x=some c->X.env.cells.lookup x=some c:=fun x c e=>(kL (Tx e)).2
 have isfree:∀x,((compEnvC sc (dH sc X.env) s.heap.objs.size X.env).kindOf x=some .cell\/(compEnvC sc (dH sc X.env) s.heap.objs.size X.env).kindOf x=some .free)->(x,Ts)∈sc.names:=fun x hx=>by
   rw [jQ] at hx
   cases q:sc.names.lookup x with
   | none=>rw [q] at hx; simp at hx
   | some k=>
     have hm:=Tx q
     by_cases JI:k=.free
     · subst JI; exact hm
     · have:(k == Ts)=false:=by simpa using JI
       have e2:(k == Ts && X.env.scope.kind == .function && X.env.kindOf x == some .cell)=false:=by rw [this]; rfl
       rw [q,TQ,e2] at hx
       have DV:(some k:Option UD)=some .cell\/(some k:Option UD)=some .free:=hx
       rcases DV with hx | hx
       · exact absurd (S6 hx) (S.cell _ hm)
       · exact absurd (S6 hx) JI
 have has:∀x,(x,Ts)∈sc.names->∃c,X.env.cells.lookup x=some c:=fun x hm=>I.ok.has x (S.free _ hm rfl)
 refine ⟨⟨I.ok.mod,S.kind,I.ok.glob,I.ok.blt,Sz _,fun x y c h1 h2=>I.ok.inj x y c (cellmem x c h1) (cellmem y c h2),fun x hx=>?_,fun x c E3 _=>?_,I.ok.hd,I.ok.frames,.inl rfl,fun b hb=>⟨?_,fun x c e=>?_⟩,I.bs,S3 I.ok.bsz I.sz,fun b o e hb=>?_,fun b hb hs=>?_,I.stack,I.qz⟩,
   rfl,I.bare,Un.kept hk,⟨_,hn,fun i x v h1 h2 h3=>?_⟩,fun x c e=>?_,I.hok.fresh (Sz _),fun x c e=>I.freeC x c (cellmem x c e),fun p hp=>absurd (show p∈([]:List (Addr×Obj)) from hp) (by simp),I.hok.kept hk,?_⟩
 · obtain ⟨c,e⟩:=has x (isfree x hx)
   exact ⟨c,jO (isfree x hx) e⟩
 · exact absurd (show false=true from E3) (by simp)
 · obtain ⟨o,e⟩:=ho b hb
   exact Td (SU e)
 · exact (hf b hb).2.2.2.2.1 x c (cellmem x c e)
 · rcases (hf b hb).2.2.2.1 with z | z
   · exact I.ok.noex b o e z
   · exact absurd (S8 (SU e) (S3 I.ok.bsz z)) (UI _)
 · rcases List.mem_cons.mp (I.jo b hs) with z | z
   · exact (hf b hb).2.1 z
   · exact (hf b hb).2.2.1 z
 · -- a Ek name
   have mD:(capσ src σ)[i]? = some (some v):=h2
   unfold capσ at mD
   rw [S2] at mD
   cases q:src[i]? with
   | none=>rw [q] at mD; cases mD
   | some o=>
     rw [q] at mD
     cases o with
     | none=>simp at mD
     | some j=>
       obtain ⟨hj,Mz⟩:=xJ hc q h1
       have hσ:σ[j]? = some (some v):=by
         simp only [TQ,Option.some.injEq] at mD
         cases r:σ[j]? with
         | none=>rw [r] at mD; cases mD
         | some w=>rw [r] at mD; rw [← mD]
       have hm:=Tx Mz
       have Fh:=S.free _ hm rfl
       obtain ⟨m,_,hl⟩:=I.loc
       obtain ⟨u,ru,lk⟩:=hl j x v hj hσ (Or.inr Fh)
       refine ⟨u,ru,.inr ⟨?_,?_⟩⟩
       · show (compEnvC sc (dH sc X.env) s.heap.objs.size X.env).kindOf x=some .cell\/(compEnvC sc (dH sc X.env) s.heap.objs.size X.env).kindOf x=some .free
         rw [jQ,Mz]
         by_cases z:(Ts == Ts && X.env.scope.kind == .function && X.env.kindOf x == some .cell)=true
         · exact .inl (by simp only [TQ,z,if_true])
         · exact .inr (by simp only [TQ,z,if_false,Vu])
       · rcases lk with ⟨z,_⟩ | ⟨_,c,e,z⟩
         · have z':X.env.scope.names.lookup x=some .local:=z
           rcases Fh with y | y <;> (rw [z'] at y; cases y)
         · obtain ⟨oc,DR,hd⟩:=z
           exact ⟨c,jO hm e,oc,hk c oc DR,hd⟩
 · obtain ⟨v,oc,DR,hd⟩:=I.cell x c (cellmem x c e)
   exact ⟨v,oc,hk c oc DR,hd⟩
 · show (capσ src σ).length=N'.length
   unfold capσ
   rw [Sv]
   exact tO hc
theorem iK {H':Hp}{σ':St}{s':Shared}(I:Inv X pins σ H s)(hf:∀b∈fp,cS X pins H b)(I':Inv (bX X N' sc s H s.heap.objs.size fp xe) [] σ' H' s'):Inv X pins σ H' s':=
 I.Ej I'.os I'.base I'.hok I'.bare fun b hb=>⟨(hf b hb).2.2.2.1,(hf b hb).2.1,(hf b hb).2.2.2.2.1,(hf b hb).2.2.2.2.2⟩
theorem pH {H':Hp}{σ':St}{s':Shared}(I':Inv (bX X N' sc s H s.heap.objs.size fp xe) [] σ' H' s'):∃m,s'.heap.Ns s.heap.objs.size m:=let ⟨m,hn,_⟩:=I'.loc; ⟨m,hn⟩
theorem jP {H1:Hp}{σ1:St}{s1:Shared}{h':Heap}(I:Inv X pins σ H s)(I1:Inv X pins σ1 H1 s1)(hn:H1 s.heap.objs.size=none)(hs:Um s.heap.objs.size s1.heap h'):Inv X pins σ1 H1 { s1 with heap:=h' }:=by
 obtain ⟨f0,f1,f2,f3,f4,f5⟩:=I.jv (H':=H1) (Sz _) hn
 exact I1.turned (t':=s1.toks) (fun b o hb e=>(hs.2 b hb).trans e) f0 f1 f3 f4 f5
end
def aQ:St->St->Prop
 | [],[]=>True
 | none :: r,_ :: r'=>aQ r r'
 | some v :: r,u :: r'=>u=some v/\aQ r r'
 | _,_=>False
theorem aQ.len:∀{a b:St},aQ a b->a.length=b.length
 | [],[],_=>rfl
 | [],_ :: _,h=>h.elim
 | none :: _,[],h=>h.elim
 | some _ :: _,[],h=>h.elim
 | none :: r,_ :: r',h=>by
   have h':aQ r r':=h
   rw [Th,Th,h'.len]
 | some v :: r,u :: r',h=>by
   have h':u=some v/\aQ r r':=h
   rw [Th,Th,h'.2.len]
theorem aQ.get:∀{a b:St},aQ a b->∀(i:Nat) (v:V),a[i]? = some (some v)->b[i]? = some (some v)
 | [],[],_,i,v,e=>by simp at e
 | [],_ :: _,h,_,_,_=>h.elim
 | none :: _,[],h,_,_,_=>h.elim
 | some _ :: _,[],h,_,_,_=>h.elim
 | none :: r,_ :: r',h,0,v,e=>by simp at e
 | none :: r,_ :: r',h,i + 1,v,e=>by
   have h':aQ r r':=h
   simpa using h'.get i v (by simpa using e)
 | some w :: r,u :: r',h,0,v,e=>by
   have h':u=some w/\aQ r r':=h
   simp at e
   subst e
   simp [h'.1]
 | some w :: r,u :: r',h,i + 1,v,e=>by
   have h':u=some w/\aQ r r':=h
   simpa using h'.2.get i v (by simpa using e)
def eQ (X:Cx)(cs:List Expr)(t:TT):Prop:=
 ∀(pins:List (Addr×Obj)) (s:Shared) (σ:St) (H:Hp) (Q:Bool->Hp->Prop),Inv X pins σ H s->t σ H Q ->
   wpAny (model X.prog X.w) X.A (forIn cs true fun c r=>if r=true then do let ok ← isTrue c X.env (eval c X.env); pure (Uu ok) else pure (Uu r)) (TP X pins σ Q) X.xe s
def Dn:TT:=fun _ H Q=>Q true H
theorem Ll {X:Cx}:eQ X [] Dn:=fun _ _ _ H _ I h=>wpAny_tests_nil ⟨H,I,h⟩
theorem Lm {X:Cx}{c:Expr}{t:TT}(h:PT X c t):eQ X [c] t:=fun pins s σ H Q I q=>wpAny_tests_one (h pins s σ H Q I q)
abbrev TM:=St->Hp->(Hp->Prop)->Prop
def xF (X:Cx)(m:Sem Unit)(t:TM):Prop:=
 ∀(pins:List (Addr×Obj)) (s:Shared) (σ:St) (H:Hp) (Q:Hp->Prop),Inv X pins σ H s->t σ H Q ->
   wpAny (model X.prog X.w) X.A m (fun _ s'=>∃H',Inv X pins σ H' s'/\Q H') X.xe s
def jq (tg:Expr)(ipos:Pos)(ifs:List Expr)(it:Value)(env:Env)(cont:Sem Unit)(more:Sem Fin):Sem Fin:=do
 standAt ipos
 match ← pyNext it with
 | none=>pure (.done .next)
 | some v=>
   letOwnedTupleGo tg it v
   assign tg env v
   let mut ok:=true
   for c in ifs do
     if ok then ok ← isTrue c env (eval c env)
   if ok then cont
   more
def eO (J:It)(σ0:St)(g:TG)(tifs:TT)(tm:TM)(Z:Hp->Prop)(H:Hp):Prop:=
 ∃W:Nat->Nat->Hp->Prop,(∃m,W 0 m H)/\∀i m H,W i m H->(J.stop i H/\Z H) \/
   (J.go i H/\∀x H',J.yld i H x H'->g x σ0 H' fun σ2 H2=>tifs σ2 H2 fun b H3=>
     if b=true then tm σ2 H3 fun H4=>aQ σ0 σ2/\∃m',m' < m/\W (i + 1) m' H4 else aQ σ0 σ2/\∃m',m' < m/\W (i + 1) m' H3)
section
variable {X:Cx}{e tg:Expr}{ipos:Pos}{ifs:List Expr}{depth:Nat}{acc:Value}{cont:Sem Unit}{it:Addr}{fp:List Addr}{tn:Nat->Heap->Prop}{J:It}{g:TG}{tifs:TT}{tm:TM}{σ0:St}{Z:Hp->Prop}{R:Result->Shared->Prop}
theorem f6 (hX:X.xe=notedBy (model X.prog X.w) X.A X.env fun e s'=>R (.error e) s')
   (heq:compTurn e depth (.ref it) acc X.env=jq tg ipos ifs (.ref it) X.env cont (again (.compLoop e depth (.ref it) acc X.env)))
   (hq:(Uz e depth (.ref it) acc X.env).quiet=true) (hA:X.A.under (.compLoop e depth (.ref it) acc X.env)=X.A) (hF:(Uz e depth (.ref it) acc X.env).isFrame=false)
   (hc:X.calm=true) (T:Turn X.prog X.w X.K tg J fp it tn) (hg:PG X tg g) (hif:eQ X ifs tifs) (hm:xF X cont tm)
   {pins:List (Addr×Obj)} {H:Hp} {s:Shared} (hf:∀b∈fp,cS X pins H b) (I:Inv X pins σ0 H s) (st:tn 0 s.heap)
   (hZ:∀H' s',Inv X pins σ0 H' s'->(∀b∈fp,H' b=none)->Z H'->R (.ok .next) s') (h:eO J σ0 g tifs tm Z H) :
   codeAny (model X.prog X.w) X.A (.compLoop e depth (.ref it) acc X.env) R s:=by
 obtain ⟨W,⟨m0,w0⟩,turn⟩:=h
 have stat:∀{H':Hp},(∀b∈fp,H' b=none)->∀b∈fp,cS X pins H' b:=fun hn b hb=>⟨hn b hb,(hf b hb).2⟩
 refine codeAny_loop hq (fun n s'=>∃i H',Inv X pins σ0 H' s'/\tn i s'.heap/\(∀b∈fp,H' b=none)/\W i n H') ?_ m0 ⟨0,H,I,st,fun b hb=>(hf b hb).1,w0⟩
 rintro n s3 ⟨i,H3,I3,r9,DG,w3⟩
 rw [hA]
 have Jt:(model X.prog X.w).den (.compLoop e depth (.ref it) acc X.env)=(compTurn e depth (.ref it) acc X.env).onRaise (fun x=>do noteFrame x X.env; theTreesLotGoes x):=by
   show (if (Uz e depth (.ref it) acc X.env).isFrame then _ else _)=_
   rw [if_neg (by rw [hF]; decide)]
 rw [Jt]
 refine wpAny_noted ?_
 rw [← hX,heq]
 unfold jq
 refine wpAny_bind (wpAny_standAt ?_)
 have tI:∀{σ7:St} {H7:Hp} {s5 s7:Shared},tn (i + 1) s5.heap->Inv X (pins++i9 fp s5.heap) σ7 H7 s7->aQ σ0 σ7->(∃m',m' < n/\W (i + 1) m' H7) ->
     ∃m,m < n/\∃i H',Inv X pins σ0 H' s7/\tn i s7.heap/\(∀b∈fp,H' b=none)/\W i m H':=fun {σ7 H7 s5 s7} xC I7 k7 ⟨m',Fd,w7⟩=>by
   refine ⟨m',Fd,i + 1,H7,I7.fV.weak k7.len k7.get,T.keep _ _ _ xC fun b hb o e=>(I7.pin (b,o) (Tv _ (Tv _ (dn hb e)))).1,fun b hb=>?_,w7⟩
   obtain ⟨o,e,d⟩:=T.obj _ _ xC b hb
   exact (I7.pin (b,o) (Tv _ (Tv _ (dn hb e)))).2.1
 rcases turn i n H3 w3 with ⟨stop,qn⟩ | ⟨go,step⟩
 · refine wpAny_bind (bf (T.done X rfl rfl rfl hc i pins s3 σ0 H3 X.xe I3 (stat DG) r9 stop) fun r s4 ⟨hr,I4⟩=>?_)
   subst hr
   exact wpAny_pure (hZ H3 s4 I4 DG qn)
 · refine wpAny_bind (bf (T.item X rfl rfl rfl hc i pins s3 σ0 H3 X.xe I3 (stat DG) r9 go) fun r s4 ⟨u,hr,h4⟩=>?_)
   subst hr
   refine wpAny_bind (bf h4 fun _ s5 ⟨x,H5,I5,r5,y5,xC,IL⟩=>?_)
   have Ik:=I5.pinned (stat IL) (T.obj _ _ xC)
   refine wpAny_bind (bf (hg _ s5 σ0 H5 x u _ Ik r5 (step x H5 y5)) fun _ s6 ⟨σ6,H6,I6,q6⟩=>?_)
   refine wpAny_bind (bf (hif _ s6 σ6 H6 _ I6 q6) fun b s7 ⟨H7,I7,q7⟩=>?_)
   cases b with
   | false=>
     obtain ⟨k7,w7⟩:=q7
     exact wpAny_pure ⟨rfl,tI xC I7 k7 w7⟩
   | true=>
     refine wpAny_bind (bf (hm _ s7 σ6 H7 _ I7 q7) fun _ s8 ⟨H8,I8,k8,w8⟩=>?_)
     exact wpAny_pure ⟨rfl,tI xC I8 k8 w8⟩
end
structure dE (P:Program)(w:World)(A:Around)(e:Expr)(tg iter:Expr)(ifs:List Expr)(emit:Addr->Env->Sem Unit):Prop where
 cl:clausesOf e=[⟨tg,iter,ifs,0⟩]
 turn:∀it D env,compTurn e 0 (.ref it) (.ref D) env=jq tg iter.pos ifs (.ref it) env (emit D env) (again (.compLoop e 0 (.ref it) (.ref D) env))
 start:∀(R:Result->Shared->Prop) (s:Shared) (it acc:Value) (env:Env),codeAny (model P w) A (.compLoop e 0 it acc env) R s ->
   wpAny (model P w) A (pyIter it) (fun BF s'=>codeAny (model P w) A (.compLoop e 0 BF acc env) R s') (notedBy (model P w) A env fun x s'=>R (.error x) s') s->codeAny (model P w) A (.compStart e 0 it acc env) R s
 quiet:∀it acc env,(Uz e 0 it acc env).quiet=true
 under:∀it acc env,A.under (.compLoop e 0 it acc env)=A
 frame:∀it acc env,(Uz e 0 it acc env).isFrame=false
theorem pF {P:Program}{w:World}{A:Around}{elt tg iter:Expr}{ifs:List Expr}{sc:Scope}{pos:Pos} :
   dE P w A (.ListComp elt [⟨tg,iter,ifs,0⟩] sc pos) tg iter ifs (fun D env=>do let _ ← call (.builtin "list.append") [.ref D,← eval elt env]) where
 cl:=rfl
 turn:=fun it D env=>by rw [compTurn_list]; rfl
 start:=fun R s it acc env h0 h=>codeAny_compStart_list h0 h
 quiet:=fun _ _ _=>rfl
 under:=fun _ _ _=>rfl
 frame:=fun _ _ _=>rfl
theorem xM {P:Program}{w:World}{A:Around}{kx vx tg iter:Expr}{ifs:List Expr}{sc:Scope}{pos:Pos} :
   dE P w A (.DictComp kx vx [⟨tg,iter,ifs,0⟩] sc pos) tg iter ifs (fun D env=>do
     let kv ← eval kx env
     let vv ← holding [kv] (eval vx env)
     standAt { kx.pos with endLine:=vx.pos.endLine,endCol:=vx.pos.endCol }
     holding [kv,vv] (dictSet D kv vv)) where
 cl:=rfl
 turn:=fun it D env=>by rw [compTurn_dict]; rfl
 start:=fun R s it acc env h0 h=>codeAny_compStart_dict h0 h
 quiet:=fun _ _ _=>rfl
 under:=fun _ _ _=>rfl
 frame:=fun _ _ _=>rfl
section
variable {X:Cx}{e tg iter:Expr}{ifs:List Expr}{emit:Addr->Env->Sem Unit}{sc:Scope}{pos:Pos}{wi:TI}{N':List Str}{src:List (Option Nat)}{g:TG}{tifs:TT}{tm:Addr->TM}{newAcc:Sem Value}{ob:Obj}{accO:HO}
def cn (src:List (Option Nat))(accO:HO)(wi:TI)(g:TG)(tifs:TT)(tm:Addr->TM):TE:=
 fun σ H Q=>wi σ H fun J H1=>∀D,H1 D=none->eO J (capσ src σ) g tifs (tm D) (fun H'=>Q (.ref D) H') (upd H1 D accO)
structure eP (X:Cx)(newAcc:Sem Value)(ob:Obj)(accO:HO):Prop where
 new:∀(s:Shared) (Q:Value->Shared->Prop) (E:Value->Shared->Prop),Q (.ref s.heap.objs.size) { s with heap:=s.heap.push ob }->wpAny (model X.prog X.w) X.A newAcc Q E s
 live:ob.isFreed=false
 ok:∀(pins:List (Addr×Obj)) (σ:St) (H:Hp) (s:Shared),Inv X pins σ H s->aU X.prog X.w (upd H s.heap.objs.size accO) (s.heap.push ob) s.heap.objs.size accO
theorem l0 {use:Option (Value->Sem Unit)}{Q':Value->Shared->Prop}(K:dE X.prog X.w X.A e tg iter ifs emit)(hc:X.calm=true)(S:ar sc X.env.scope)(hcap:bw sc src N' X.N=true)(hi:PI X tg iter wi)
   (hb:∀s H C fp xe D,PG (bX X N' sc s H C fp xe) tg g/\eQ (bX X N' sc s H C fp xe) ifs tifs/\xF (bX X N' sc s H C fp xe) (emit D (bX X N' sc s H C fp xe).env) (tm D)) (N:eP X newAcc ob accO)
   (hs:∀x,Tc iter X.env x=pure x)
   {pins:List (Addr×Obj)} {s:Shared} {σ:St} {H:Hp} {Q:VK} (I:Inv X pins σ H s) (h:cn src accO wi g tifs tm σ H Q)
   (hQ:∀(C D:Addr) (H':Hp) (s':Shared),Inv X pins σ H' s'->Q (.ref D) H'->H' C=none->(∃m,s'.heap.Ns C m)->(∀(σ1:St) (H1:Hp) (s1:Shared) (h':Heap),Inv X pins σ1 H1 s1->H1 C=none->Um C s1.heap h'->Inv X pins σ1 H1 { s1 with heap:=h' }) ->
     (C≠X.env.locals/\∀x c,X.env.cells.lookup x=some c->c≠C)->compPost (model X.prog X.w) X.A X.xe use Q' (.ref D) C (.ok .next) s') :
   wpAny (model X.prog X.w) X.A (comprehension e sc X.env pos newAcc false (eval iter X.env) use) Q' X.xe s:=by
 refine wpAny_comprehension_free (g:=⟨tg,iter,ifs,0⟩) (gs:=[]) K.cl hs (iI fun p hp hf=>I.ok.has p.1 (S.free p hp hf)) S.kind S.names ?_
 refine bf (hi pins s σ H _ I h) fun v s1 h1=>bf h1 fun itv s2 h2=>?_
 obtain ⟨it,fp,tn,J,H2,e1,I2,T,xB,f2,q2⟩:=h2
 subst e1
 refine N.new s2 _ _ ?_
 have hD:H2 s2.heap.objs.size=none:=I2.hok.fresh (Sz _)
 have E6:∀b o,s2.heap.get? b=some o->(s2.heap.push ob).get? b=some o:=fun b o e=>SN _ e
 have I3:Inv X pins σ (upd H2 s2.heap.objs.size accO) { s2 with heap:=s2.heap.push ob }:=I2.laid (t':=s2.toks) E6 (Sz _) (N.ok pins σ H2 s2 I2)
 have r9:tn 0 (s2.heap.push ob):=T.keep _ _ _ xB fun b _ o e=>E6 b o e
 have BY:∀b∈fp,∃o,(s2.heap.push ob).get? b=some o:=fun b hb=>let ⟨o,e,_⟩:=T.obj _ _ r9 b hb; ⟨o,e⟩
 have f3:∀b∈fp,cS X pins (upd H2 s2.heap.objs.size accO) b:=fun b hb=>by
   refine ⟨?_,(f2 b hb).2⟩
   obtain ⟨o,e,_⟩:=T.obj _ _ xB b hb
   rw [aj (Td (SU e))]
   exact (f2 b hb).1
 have qq:=q2 s2.heap.objs.size hD
 generalize Kf:({ s2 with heap:=s2.heap.push ob }:Shared)=s3 at I3 ⊢
 have JA:s2.heap.push ob=s3.heap:=by rw [← Kf]
 rw [JA] at r9 BY
 generalize s2.heap.objs.size=D at I3 f3 qq hD ⊢
 refine wpAny_newFunctionEnv S.cell (by intro y hy; simp at hy) (fun h₁ hns By=>?_) S.kind
 have Bo:h₁.Ns s3.heap.objs.size (fun _=>none):=hns
 have E7:∀b o,s3.heap.get? b=some o->h₁.get? b=some o:=fun b o e=>By.extBut b o (Td (SU e)) (SN _ e)
 let R:Result->Shared->Prop:=compPost (model X.prog X.w) X.A X.xe use Q' (.ref D) s3.heap.objs.size
 let X':Cx:=bX X N' sc s3 (upd H2 D accO) s3.heap.objs.size fp (notedBy (model X.prog X.w) X.A (compEnvC sc (dH sc X.env) s3.heap.objs.size X.env) fun e s'=>R (.error e) s')
 have I4:Inv X' [] (capσ src σ) (upd H2 D accO) { s3 with heap:=h₁,toks:=s3.toks + ([]:List (Str×Value)).length }:=iJ I3 S hcap f3 BY Bo E7
 have GF:tn 0 h₁:=T.keep _ _ _ r9 fun b _ o e=>E7 b o e
 obtain ⟨hg,hif,hm⟩:=hb s3 (upd H2 D accO) s3.heap.objs.size fp (notedBy (model X.prog X.w) X.A (compEnvC sc (dH sc X.env) s3.heap.objs.size X.env) fun e s'=>R (.error e) s') D
 have f4:∀b∈fp,cS X' [] (upd H2 D accO) b:=fun b hb=>by
   obtain ⟨g0,g1,g2,g3,g4,g5⟩:=f3 b hb
   refine ⟨g0,?_,?_,.inl hb,fun x c e=>?_,fun p hp=>absurd (show p∈([]:List (Addr×Obj)) from hp) (by simp)⟩
   · obtain ⟨o,e⟩:=BY b hb
     exact Td (SU e)
   · intro z
     rcases List.mem_cons.mp (I3.jo b z) with y | y
     · exact g1 y
     · exact g2 y
   · exact g4 x c (kL (Tx e)).2
 have Ez:cS X pins (upd H2 D accO) s3.heap.objs.size:=I3.jv (Sz _) (I3.hok.fresh (Sz _))
 have loop:∀s4:Shared,s4={ s3 with heap:=h₁,toks:=s3.toks + ([]:List (Str×Value)).length }->codeAny (model X.prog X.w) X.A (.compLoop e 0 (.ref it) (.ref D) X'.env) R s4:=by
   rintro s4 rfl
   refine f6 (X:=X') (Z:=fun H'=>Q (.ref D) H') rfl (K.turn it D X'.env) (K.quiet _ _ _) (K.under _ _ _) (K.frame _ _ _) hc T hg hif hm f4 I4 GF (fun H' s' I' _ z=>?_) qq
   refine hQ s3.heap.objs.size D H' s' (iK I3 f3 I') z I'.free (pH I') (fun σ1 H1 s1 h' I1 n1 Bx=>jP I3 I1 n1 Bx) ⟨Ez.2.1,fun x c e=>Ez.2.2.2.2.1 x c e⟩
 exact K.start R _ (.ref it) (.ref D) X'.env (loop _ rfl) (T.self X.A 0 _ _ _ GF (loop _ rfl))
theorem pZ (K:dE X.prog X.w X.A e tg iter ifs emit)(hc:X.calm=true)(S:ar sc X.env.scope)(hcap:bw sc src N' X.N=true)(hi:PI X tg iter wi)
   (hb:∀s H C fp xe D,PG (bX X N' sc s H C fp xe) tg g/\eQ (bX X N' sc s H C fp xe) ifs tifs/\xF (bX X N' sc s H C fp xe) (emit D (bX X N' sc s H C fp xe).env) (tm D)) (N:eP X newAcc ob accO)
   (hs:∀x,Tc iter X.env x=pure x) (he:eval e X.env=comprehension e sc X.env pos newAcc false (eval iter X.env)):PE X e (cn src accO wi g tifs tm):=by
 intro pins s σ H Q I h
 rw [he]
 refine l0 (use:=none) (Q:=Q) K hc S hcap hi hb N hs I h fun C D H' s' I' q hn ⟨m,hm⟩ gone _=>?_
 exact ⟨m,hm,fun h' sU=>⟨.ref D,H',gone σ H' s' h' I' hn sU,rfl,q⟩⟩
theorem ze {i:Nat}{x:Str}{pos' ck:Pos}(K:dE X.prog X.w X.A e tg iter ifs emit)(hc:X.calm=true)(S:ar sc X.env.scope)(hcap:bw sc src N' X.N=true)(hi:PI X tg iter wi)
   (hb:∀s H C fp xe D,PG (bX X N' sc s H C fp xe) tg g/\eQ (bX X N' sc s H C fp xe) ifs tifs/\xF (bX X N' sc s H C fp xe) (emit D (bX X N' sc s H C fp xe).env) (tm D)) (N:eP X newAcc ob accO)
   (hs:∀x,Tc iter X.env x=pure x) (he:∀u,evalThenUse e X.env u=(do let _ ← comprehension e sc X.env pos newAcc false (eval iter X.env) (some u)))
   (hN:X.N.Nodup) (hix:X.N[i]? = some x) (hx:Loc X.env.scope x) (hsw:Ul e (some (.Name x pos')) ck.line X.env=pure true)
   (hf:X.fn x=true\/X.env.scope.names.lookup x=some .local:=by first | exact .inl rfl | exact .inr rfl | assumption) :
   PS X (.Assign [.Name x pos'] e ck) (jG (cn src accO wi g tifs tm) (dJ i)):=by
 intro pins s σ H D0 I h
 rw [exec_Assign_Name_used x pos' e ck hsw,he]
 refine wpAny_bind (wpAny_standAt (wpAny_bind (wpAny_bind ?_)))
 refine l0 (use:=some (assign (.Name x pos') X.env)) (Q:=fun v H'=>D0.nx (σ.set i (some v)) H') (Q':=fun _ s'=>wpAny _ _ _ _ _ s') K hc S hcap hi hb N hs I h fun C D H' s' I' q hn ⟨m,hm⟩ gone ⟨IU,hCc⟩=>?_
 refine VU (gL (v:=.ref D) I' hN hix hx rfl (fun s2 I2 hch=>?_) hf)
 obtain ⟨a,By,ha⟩:=hch
 have uS:C≠a:=by
   rcases ha with z | z
   · rw [z]; exact IU
   · exact (hCc x a z).symm
 refine ⟨m,hm.sameBut By uS,fun h' sU=>?_⟩
 exact wpAny_pure (wpAny_pure ⟨_,H',gone _ H' s2 h' I2 hn sU,q⟩)
end
section
variable {X:Cx}{elt kx vx:Expr}{te tk tv:TE}
def bK (te:TE)(D:Addr):TM:=fun σ H K=>te σ H fun y H1=>∃ys,H1 D=some (.lst ys)/\ys.length < sizeLine/\K (upd H1 D (.lst (ys++[y])))
theorem oO (h:PE X elt te)(D:Addr):xF X (do let _ ← call (.builtin "list.append") [.ref D,← eval elt X.env]) (bK te D):=by
 intro pins s σ H Q I q
 refine wpAny_bind (bf (h pins s σ H _ I q) fun u s1 ⟨y,H1,I1,ru,ys,e,z,k⟩=>?_)
 refine wpAny_bind (bf (kg pins s1 σ H1 (.ref D) [y] (.ref D) [u] (fun _ H'=>Q H') I1 rfl (.cons ru .nil) ⟨D,ys,y,rfl,rfl,e,z,k⟩) fun r s2 ⟨v,H2,I2,_,k2⟩=>?_)
 exact wpAny_pure ⟨H2,I2,k2⟩
theorem qN {pins:List (Addr×Obj)}{σ:St}{H H':Hp}{s:Shared}{a:Addr}{y v:V}{u r:Value}{A:Around}{E:Value->Shared->Prop}{Q:Unit->Shared->Prop}(hu:A.units + 1 < cLine)(I:Inv X pins σ H s)(g:eC H a y v H')(ry:RelV y u)(rv:RelV v r)(h:∀s',Inv X pins σ H' s'->Q () s') :
   wpAny (model X.prog X.w) A (dictSet a u r) Q E s:=by
 rcases g with ⟨kvs,k,e,ey,l,eH⟩ | ⟨kvs,k,b,e,ey,eb,l,eH⟩
 · subst ey eH
   obtain ⟨z,hd,vs,rel,dd⟩:=tW I.hok e
   have hz:vs.length<=sizeLine:=by rw [← rel.length]; exact z
   have hl:(putK kvs k v).length<=sizeLine:=by have:=bH kvs k v; omega
   refine wpAny_dictSet_pairs (hsz:=hz) (j8 ry) dd fun h' qQ hs=>h _ ?_
   have he:∃q,h'.get? a=some q:=let ⟨q,_,_,hq,_⟩:=qQ; ⟨q,hq⟩
   exact fh I (by rw [e]; exact Tj) hs he (nN hl hd (rel.put k rv) qQ)
 · subst ey eH
   cases (show u=Tq b from ry)
   obtain ⟨z,hd,xs,rel,dd⟩:=zK I.hok e
   have hz:xs.length<=sizeLine:=by rw [← Paired.length rel]; exact z
   have hl:(putK kvs k v).length<=sizeLine:=by have:=bH kvs k v; omega
   have Fq:(tupleKind (aZ X.prog X.w)).room A:=show A.units < cLine by omega
   refine wpAny_dictSet_heap (hsz:=hz) Fq (i4 I.hok eb) dd fun h' qQ hs=>h _ ?_
   obtain ⟨q,es,ep,hq,h2,h3,h4,_,h5⟩:=qQ
   refine fh I (by rw [e]; exact Tj) hs ⟨q,hq⟩ ⟨hl,hd,_,(rel.put k eb rv).keeps fun c ys ec=>?_,q,es,ep,hq,h2,h3,h4,h5⟩
   rw [aj (b8 ec e (fun z=>nomatch z))]
   exact ec
def yz (tk tv:TE)(D:Addr):TM:=fun σ H K=>tk σ H fun y H1=>tv σ H1 fun v H2=>∃H3,eC H2 D y v H3/\K H3
theorem CW (hu:X.A.units + 1 < cLine)(hk:PE X kx tk)(hv:PE X vx tv)(D:Addr):xF X (do
     let kv ← eval kx X.env
     let vv ← holding [kv] (eval vx X.env)
     standAt { kx.pos with endLine:=vx.pos.endLine,endCol:=vx.pos.endCol }
     holding [kv,vv] (dictSet D kv vv)) (yz tk tv D):=by
 intro pins s σ H Q I q
 refine wpAny_bind (bf (hk pins s σ H _ I q) fun u s1 ⟨y,H1,I1,ru,q1⟩=>?_)
 refine wpAny_bind (wpAny_holding (bf (hv pins s1 σ H1 _ I1 q1) fun r s2 ⟨v,H2,I2,rv,H3,g,q2⟩=>?_))
 exact wpAny_bind (wpAny_standAt (wpAny_holding (qN hu I2 g ru rv fun s3 I3=>⟨H3,I3,q2⟩)))
theorem AO:eP X newDict { cls:=.type "dict",data:=.dict #[] } (.dT []) where
 new:=fun s Q E h=>wpAny_newObj_type h
 live:=rfl
 ok:=fun pins σ H s I=>mi s.heap I.big
theorem iD:eP X (newList []) { cls:=.type "list",data:=.seq #[] } (.lst []) where
 new:=fun s Q E h=>wpAny_newObj_type h
 live:=rfl
 ok:=fun pins σ H s I=>⟨TN _,[],0,.nil,Tb _ rfl⟩
end
section
variable {X:Cx}{elt kx vx tg iter:Expr}{ifs:List Expr}{sc:Scope}{pos:Pos}{wi:TI}{N':List Str}{src:List (Option Nat)}{g:TG}{tifs:TT}{te tk tv:TE}
theorem F8 (src:List (Option Nat))(N':List Str)(hc:X.calm=true)(S:ar sc X.env.scope)(hcap:bw sc src N' X.N=true)(hi:PI X tg iter wi)
   (hb:∀s H C fp xe,PG (bX X N' sc s H C fp xe) tg g/\eQ (bX X N' sc s H C fp xe) ifs tifs/\PE (bX X N' sc s H C fp xe) elt te)
   (hs:∀x,Tc iter X.env x=pure x:=by intro _; rfl):PE X (.ListComp elt [⟨tg,iter,ifs,0⟩] sc pos) (cn src (.lst []) wi g tifs (bK te)):=
 pZ pF hc S hcap hi (fun s H C fp xe D=>⟨(hb s H C fp xe).1,(hb s H C fp xe).2.1,oO (hb s H C fp xe).2.2 D⟩) iD hs rfl
theorem Gg {i:Nat}{x:Str}{pos' ck:Pos}(src:List (Option Nat))(N':List Str)(hc:X.calm=true)(S:ar sc X.env.scope)(hcap:bw sc src N' X.N=true)(hi:PI X tg iter wi)
   (hb:∀s H C fp xe,PG (bX X N' sc s H C fp xe) tg g/\eQ (bX X N' sc s H C fp xe) ifs tifs/\PE (bX X N' sc s H C fp xe) elt te)
   (hN:X.N.Nodup) (hix:X.N[i]? = some x) (hx:Loc X.env.scope x) (hsw:Ul (.ListComp elt [⟨tg,iter,ifs,0⟩] sc pos) (some (.Name x pos')) ck.line X.env=pure true:=by rfl)
   (hs:∀x,Tc iter X.env x=pure x:=by intro _; rfl) (hf:X.fn x=true\/X.env.scope.names.lookup x=some .local:=by first | exact .inl rfl | exact .inr rfl | assumption) :
   PS X (.Assign [.Name x pos'] (.ListComp elt [⟨tg,iter,ifs,0⟩] sc pos) ck) (jG (cn src (.lst []) wi g tifs (bK te)) (dJ i)):=
 ze pF hc S hcap hi (fun s H C fp xe D=>⟨(hb s H C fp xe).1,(hb s H C fp xe).2.1,oO (hb s H C fp xe).2.2 D⟩) iD hs (fun _=>rfl) hN hix hx hsw hf
theorem CC (src:List (Option Nat))(N':List Str)(hu:X.A.units + 1 < cLine)(hc:X.calm=true)(S:ar sc X.env.scope)(hcap:bw sc src N' X.N=true)(hi:PI X tg iter wi)
   (hb:∀s H C fp xe,PG (bX X N' sc s H C fp xe) tg g/\eQ (bX X N' sc s H C fp xe) ifs tifs/\PE (bX X N' sc s H C fp xe) kx tk/\PE (bX X N' sc s H C fp xe) vx tv)
   (hs:∀x,Tc iter X.env x=pure x:=by intro _; rfl):PE X (.DictComp kx vx [⟨tg,iter,ifs,0⟩] sc pos) (cn src (.dT []) wi g tifs (yz tk tv)):=
 pZ xM hc S hcap hi (fun s H C fp xe D=>⟨(hb s H C fp xe).1,(hb s H C fp xe).2.1,CW (X:=bX X N' sc s H C fp xe) hu (hb s H C fp xe).2.2.1 (hb s H C fp xe).2.2.2 D⟩) AO hs rfl
end
section
variable {K:Sw}{a:Addr}{xs:List V}{g:TG}{tifs:TT}{tm:TM}{σ0:St}{Z:Hp->Prop}{H:Hp}
theorem d7 (n:Nat){J:It}(Pv:Nat->Hp->Prop)(h0:Pv 0 H)(hgo:∀i H,i < n->Pv i H->J.go i H)(hst:∀H,Pv n H->J.stop n H)
   (turn:∀i H,i < n->Pv i H->∀x H',J.yld i H x H'->g x σ0 H' fun σ2 H2=>tifs σ2 H2 fun b H3=>
     if b=true then tm σ2 H3 fun H4=>aQ σ0 σ2/\∃m',m' < n - i/\(m'=n - (i + 1)/\i + 1<=n/\Pv (i + 1) H4) else aQ σ0 σ2/\∃m',m' < n - i/\(m'=n - (i + 1)/\i + 1<=n/\Pv (i + 1) H3))
   (hZ:∀H,Pv n H->Z H):eO J σ0 g tifs tm Z H:=by
 refine ⟨fun i m H=>m=n - i/\i<=n/\Pv i H,⟨n,by simp,TN _,h0⟩,?_⟩
 rintro i m H ⟨rfl,hi,p⟩
 by_cases gv:i < n
 · exact .inr ⟨hgo i H gv p,turn i H gv p⟩
 · have e:i=n:=by omega
   subst e
   exact .inl ⟨hst H p,hZ H p⟩
theorem aL (Pv:Nat->Hp->Prop)(h0:Pv 0 H)(hl:∀i H,i<=xs.length->Pv i H->aq K H a xs)
   (turn:∀i x H,xs[i]? = some x->Pv i H->g x σ0 H fun σ2 H2=>tifs σ2 H2 fun b H3=>
     if b=true then tm σ2 H3 fun H4=>aQ σ0 σ2/\∃m',m' < xs.length - i/\(m'=xs.length - (i + 1)/\i + 1<=xs.length/\Pv (i + 1) H4) else aQ σ0 σ2/\∃m',m' < xs.length - i/\(m'=xs.length - (i + 1)/\i + 1<=xs.length/\Pv (i + 1) H3))
   (hZ:∀H,Pv xs.length H->Z H):eO (Dz K a) σ0 g tifs tm Z H:=by
 refine d7 xs.length Pv h0 (fun i H hi p=>⟨xs,xs[i],hl i H (TB hi) p,by simp [hi]⟩) (fun H p=>⟨xs,hl _ H (Sz _) p,Sz _⟩) (fun i H hi p x H' y=>?_) hZ
 obtain ⟨e,y⟩:=y
 subst e
 exact turn i x _ (y xs (hl i _ (TB hi) p)) p
theorem tS (Pv:Nat->Hp->Prop)(h0:Pv 0 H)(hl:∀i H,i<=xs.length->Pv i H->aF K H a xs)
   (turn:∀i x H,xs[i]? = some x->Pv i H->g x σ0 H fun σ2 H2=>tifs σ2 H2 fun b H3=>
     if b=true then tm σ2 H3 fun H4=>aQ σ0 σ2/\∃m',m' < xs.length - i/\(m'=xs.length - (i + 1)/\i + 1<=xs.length/\Pv (i + 1) H4) else aQ σ0 σ2/\∃m',m' < xs.length - i/\(m'=xs.length - (i + 1)/\i + 1<=xs.length/\Pv (i + 1) H3))
   (hZ:∀H,Pv xs.length H->Z H):eO (Il K a) σ0 g tifs tm Z H:=by
 refine d7 xs.length Pv h0 (fun i H hi p=>⟨xs,xs[i],hl i H (TB hi) p,by simp [hi]⟩) (fun H p=>⟨xs,hl _ H (Sz _) p,Sz _⟩) (fun i H hi p x H' y=>?_) hZ
 obtain ⟨e,y⟩:=y
 subst e
 exact turn i x _ (y xs (hl i _ (TB hi) p)) p
theorem cg {lo:Int}{n:Nat}(Pv:Nat->Hp->Prop)(h0:Pv 0 H)
   (turn:∀i H,i < n->Pv i H->g (.int (lo + i)) σ0 H fun σ2 H2=>tifs σ2 H2 fun b H3=>
     if b=true then tm σ2 H3 fun H4=>aQ σ0 σ2/\∃m',m' < n - i/\(m'=n - (i + 1)/\i + 1<=n/\Pv (i + 1) H4) else aQ σ0 σ2/\∃m',m' < n - i/\(m'=n - (i + 1)/\i + 1<=n/\Pv (i + 1) H3))
   (hZ:∀H,Pv n H->Z H):eO (zH lo n) σ0 g tifs tm Z H:=by
 refine d7 n Pv h0 (fun i H hi p=>hi) (fun H p=>Sz _) (fun i H hi p x H' y=>?_) hZ
 obtain ⟨e,y⟩:=y
 subst e y
 exact turn i _ hi p
theorem aA {n i:Nat}{P:Prop}{Pv:Nat->Hp->Prop}{H:Hp}(k:P)(hi:i < n)(p:Pv (i + 1) H):P/\∃m',m' < n - i/\(m'=n - (i + 1)/\i + 1<=n/\Pv (i + 1) H):=⟨k,_,by omega,rfl,hi,p⟩
end
section
variable {X:Cx}{pins:List (Addr×Obj)}{σ:St}{H:Hp}{s:Shared}{h':Heap}{ch:List Addr}{a:Addr}{o:HO}
theorem Inv.many {t':Nat}(I:Inv X pins σ H s)(hch:∀b∈ch,cS X pins H b)(k:∀b ob,b ∉ ch->s.heap.get? b=some ob->h'.get? b=some ob)(hp:s.heap.objs.size<=a)(new:aU X.prog X.w (upd H a o) h' a o) :
   Inv X pins σ (upd H a o) { s with heap:=h',toks:=t' }:=by
 have hn:H a=none:=I.hok.fresh hp
 have na:∀b ob,s.heap.get? b=some ob->b≠a:=fun b ob e=>Td (S8 (SU e) hp)
 have vp:∀b u,H b=some u->b ∉ ch:=fun b u e z=>by rw [(hch b z).1] at e; cases e
 refine I.step (g':=s.gens) (d':=s.drawn) (ch:=ch) (fun b hb=>⟨(hch b hb).2.2.2.1,(hch b hb).2.1,(hch b hb).2.2.2.2.1,(hch b hb).2.2.2.2.2⟩) (fun b ob _ _ hc e _=>k b ob hc e) (fun b ob _ _ hc e _=>⟨ob.slots,k b ob hc e⟩)
   (fun b ob _ e n=>by rw [aj (na b ob e)]; exact n) (fun b ob hc e=>⟨ob,k b ob hc e⟩) (fun b xs e=>by rw [aj (ag e hn)]; exact e) (fun b ob u e=>by rw [aj (ag e hn)]; exact e)
   (fun b ps e=>⟨#[],by rw [aj (ag e hn),e]; simp⟩) (fun m hm=>?_) (fun b u e=>?_) I.bare
 · obtain ⟨ob,es,ep,ho,r⟩:=hm
   exact ⟨ob,es,ep,k _ ob (fun z=>(hch _ z).2.1 rfl) ho,r⟩
 · by_cases hb:b=a
   · subst hb; rw [ae] at e; cases e; exact new
   · rw [aj hb] at e
     refine (I.hok b u e).oV (fun c v hc q=>k c v ?_ q) (fun c q=>by rw [aj (ag q hn)]; exact q) fun c xs q=>by rw [aj (ag q hn)]; exact q
     rcases hc with z | z
     · subst z; exact vp c u e
     · exact vp c _ z
theorem Inv.vh {t':Nat}(I:Inv X pins σ H s)(hch:∀b∈ch,cS X pins H b)(k:∀b ob,b ∉ ch->s.heap.get? b=some ob->h'.get? b=some ob) :
   Inv X pins σ H { s with heap:=h',toks:=t' }:=by
 have vp:∀b u,H b=some u->b ∉ ch:=fun b u e z=>by rw [(hch b z).1] at e; cases e
 refine I.step (g':=s.gens) (d':=s.drawn) (ch:=ch) (fun b hb=>⟨(hch b hb).2.2.2.1,(hch b hb).2.1,(hch b hb).2.2.2.2.1,(hch b hb).2.2.2.2.2⟩) (fun b ob _ _ hc e _=>k b ob hc e) (fun b ob _ _ hc e _=>⟨ob.slots,k b ob hc e⟩)
   (fun b ob _ e n=>n) (fun b ob hc e=>⟨ob,k b ob hc e⟩) (fun b xs e=>e) (fun b ob u e=>e)
   (fun b ps e=>⟨#[],by rw [e]; simp⟩) (fun m hm=>?_) (fun b u e=>?_) I.bare
 · obtain ⟨ob,es,ep,ho,r⟩:=hm
   exact ⟨ob,es,ep,k _ ob (fun z=>(hch _ z).2.1 rfl) ho,r⟩
 · refine (I.hok b u e).oV (fun c v hc q=>k c v ?_ q) (fun c q=>q) fun c xs q=>q
   rcases hc with z | z
   · subst z; exact vp c u e
   · exact vp c _ z
end
def Im (K:Sw)(a b:Addr):It:=
 ⟨fun i H=>∃xs ys x y,aq K H a xs/\aq K H b ys/\xs[i]? = some x/\ys[i]? = some y,
  fun i H v H'=>∃p x y,H p=none/\v=.ref p/\H'=upd H p (.tup [x,y])/\∀xs ys,aq K H a xs->aq K H b ys->xs[i]? = some x/\ys[i]? = some y,
  fun i H=>∃xs ys,aq K H a xs/\aq K H b ys/\(xs.length<=i\/ys.length<=i)⟩
theorem xf {P:Program}{w:World}{K:Sw}{elts:List Expr}{x1:Nat}{tp:Pos}{a b z TI TO i1 i2:Addr}(D:ZipApart z TI TO i1 i2 a b) :
   Turn P w K (.Tuple elts x1 tp) (Im K a b) [z,TI,TO,i1,i2] z (fun i h=>IsZip h z TI TO .none/\IsPair h TI (.ref i1) (.ref i2)/\(∃x y,IsPair h TO x y)/\h.IsListIter i1 a i/\h.IsListIter i2 b i) where
 mem:=by simp
 obj:=fun i h st c hc=>by
   obtain ⟨hz,uj,⟨x,y,xo⟩,⟨o1,e1,c1,d1⟩,⟨o2,e2,c2,d2⟩⟩:=st
   simp only [Tt,Tg,or_false] at hc
   rcases hc with rfl | rfl | rfl | rfl | rfl
   · exact ⟨_,hz,fun v q=>nomatch q⟩
   · exact ⟨_,uj,fun v q=>nomatch q⟩
   · exact ⟨_,xo,fun v q=>nomatch q⟩
   · exact ⟨_,e1,fun v q=>by rw [d1] at q; cases q⟩
   · exact ⟨_,e2,fun v q=>by rw [d2] at q; cases q⟩
 keep:=fun i h h' st k=>by
   obtain ⟨hz,uj,⟨x,y,xo⟩,h1,h2⟩:=st
   exact ⟨k z (by simp) _ hz,k TI (by simp) _ uj,⟨x,y,k TO (by simp) _ xo⟩,h1.at fun o e=>k i1 (by simp) o e,h2.at fun o e=>k i2 (by simp) o e⟩
 item:=by
   intro X hP hw hK hc i pins s σ H E I hf st hg
   subst hP hw hK
   obtain ⟨xs,ys,x,y,j4,uZ,hx,hy⟩:=hg
   obtain ⟨mL,nA,p1,_⟩:=I.list j4
   obtain ⟨dO,zq,p2,_⟩:=I.list uZ
   obtain ⟨u,hu,ru⟩:=nA.get hx
   obtain ⟨v,hv,rv⟩:=zq.get hy
   obtain ⟨hz,uj,⟨x0,y0,xo⟩,h1,h2⟩:=st
   refine wpAny_pyNext_zip_item D hz uj xo h1 h2 p1.isList p2.isList (x:=u) (y:=v) (by simpa using hu) (by simpa using hv) fun h' a1 a2 a3 a4 a5 a6 hk=>?_
   refine ⟨_,rfl,Wo (s:={ s with heap:=h' }) a1 fun mD QB sU=>?_⟩
   have hT:H s.heap.objs.size=none:=I.hok.fresh (Sz _)
   have MU:z < s.heap.objs.size:=SU hz
   have kk:∀c o,c ∉ ([z,TO,i1,i2]:List Addr)->s.heap.get? c=some o->mD.get? c=some o:=fun c o eT e=>by
     simp only [Tt,Tg,or_false,not_or] at eT
     exact sU.extBut _ _ eT.1 (hk c o eT.1 eT.2.1 eT.2.2.1 eT.2.2.2 e)
   have Pn:IsPair mD s.heap.objs.size u v:=sU.extBut _ _ (UR MU) a5
   have I1:Inv X pins σ (upd H s.heap.objs.size (.tup [x,y])) { s with heap:=mD,toks:=s.toks }:=I.many (ch:=[z,TO,i1,i2]) (fun c eT=>hf c (by simp only [Tt,Tg,or_false] at eT ⊢; rcases eT with r | r | r | r <;> simp [r])) kk (Sz _)
     ⟨by show 2<=sizeLine; decide,[u,v],.cons ru (.cons rv .nil),_,Pn,rfl,_,rfl⟩
   refine ⟨.ref s.heap.objs.size,_,I1,rfl,⟨_,x,y,hT,rfl,rfl,fun NN GV q1 q2=>?_⟩,?_,fun c eT=>?_⟩
   · rw [I.cQ q1 j4,I.cQ q2 uZ]; exact ⟨hx,hy⟩
   · exact ⟨QB,sU.extBut _ _ D.TIz (hk _ _ D.TIz D.TITO D.TIi1 D.TIi2 uj),⟨_,_,sU.extBut _ _ D.TOz a2⟩,a3.extBut sU.extBut D.i1z,a4.extBut sU.extBut D.i2z⟩
   · have lt:c < s.heap.objs.size:=by
       simp only [Tt,Tg,or_false] at eT
       rcases eT with rfl | rfl | rfl | rfl | rfl
       · exact MU
       · exact SU uj
       · exact SU xo
       · obtain ⟨_,e,_⟩:=h1; exact SU e
       · obtain ⟨_,e,_⟩:=h2; exact SU e
     rw [aj (Td lt)]
     exact (hf c eT).1
 done:=by
   intro X hP hw hK hc i pins s σ H E I hf st hg
   subst hP hw hK
   obtain ⟨xs,ys,j4,uZ,Bh⟩:=hg
   obtain ⟨mL,nA,p1,_⟩:=I.list j4
   obtain ⟨dO,zq,p2,_⟩:=I.list uZ
   have l1:=nA.length
   have l2:=zq.length
   obtain ⟨hz,uj,⟨x0,y0,xo⟩,h1,h2⟩:=st
   refine wpAny_pyNext_zip_end (I.ok.hd hc) D hz uj xo h1 h2 p1.isList p2.isList ?_ fun h' hk=>⟨rfl,?_⟩
   · rcases Bh with q | q
     · exact .inl (by simp; omega)
     · exact .inr (by simp; omega)
   · exact I.vh (t':=s.toks) (ch:=[z,TO,i1,i2]) (fun c eT=>hf c (by simp only [Tt,Tg,or_false] at eT ⊢; rcases eT with r | r | r | r <;> simp [r])) fun c o eT e=>by
       simp only [Tt,Tg,or_false,not_or] at eT
       exact hk c o eT.1 eT.2.1 eT.2.2.1 eT.2.2.2 e
 self:=fun _ _ _ _ _ st h=>Vf st.1 h
def BC (K:Sw)(ta:TA):TI:=fun σ H R=>ta σ H fun vs H1=>∃a b,vs=[.ref a,.ref b]/\(∃xs,aq K H1 a xs)/\(∃ys,aq K H1 b ys)/\R (Im K a b) H1
section
variable {X:Cx}
theorem CV {a b:Expr}{ta:TA}{p pos tp:Pos}{elts:List Expr}{x1:Nat}(hg:Gl X "zip")(hm:X.mg "zip"=none)(ha:PA X [a,b] ta)(hs:starEach [a,b] X.env=[(false,eval a X.env),(false,eval b X.env)]:=by rfl)(hs2:starEach [b] X.env=[(false,eval b X.env)]:=by rfl)
   (hb:TH "zip"=some (.type "zip"):=by first | rfl | decide +kernel) :
   PI X (.Tuple elts x1 tp) (.Call (.Name "zip" p) [a,b] [] pos) (BC X.K ta):=by
 intro pins s σ H R I h
 refine Call_ (df I hg hm hb (Tr (bf (ha pos pins s σ H _ I h) fun us s1 ⟨vs,H1,I1,r1,q1⟩=>?_) (by rw [hs,hs2]) (by rw [hs2]; rfl)))
 obtain ⟨l1,l2,e,⟨xs,j4⟩,⟨ys,uZ⟩,q⟩:=q1
 subst e
 obtain ⟨u,v,rfl,ru,rv⟩:=Vals.two r1
 obtain rfl:u=Tq l1:=ru
 obtain rfl:v=Tq l2:=rv
 obtain ⟨mL,nA,p1,_⟩:=I1.list j4
 obtain ⟨dO,zq,p2,_⟩:=I1.list uZ
 have KP:l1 < s1.heap.objs.size:=by obtain ⟨_,_,e,_⟩:=p1; exact SU e
 have KQ:l2 < s1.heap.objs.size:=by obtain ⟨_,_,e,_⟩:=p2; exact SU e
 refine call_zip_2 p1.isList p2.isList fun h' hz uj xo Hi DO hsz hk=>?_
 refine Vf hz ?_
 have I2:Inv X pins σ H1 { s1 with heap:=h' }:=I1.kept (t':=s1.toks) hk
 have D:=zipApart_new KP KQ
 refine ⟨_,_,_,_,H1,rfl,I2,xf D,⟨hz,uj,⟨_,_,xo⟩,Hi,DO⟩,fun c hc=>?_,q⟩
 simp only [Tt,Tg,or_false] at hc
 have up:∀k,cS X pins H1 (s1.heap.objs.size + k):=fun k=>I1.jv (Uw _ _) (I1.hok.fresh (Uw _ _))
 rcases hc with rfl | rfl | rfl | rfl | rfl
 · exact up 4
 · exact up 2
 · exact up 3
 · exact up 0
 · exact up 1
end
section
variable {K:Sw}{a b:Addr}{xs ys:List V}{g:TG}
theorem l6 {tifs:TT}{tm:TM}{σ0:St}{Z:Hp->Prop}{H:Hp}(hlen:xs.length=ys.length)(Pv:Nat->Hp->Prop)(h0:Pv 0 H)(hl:∀i H,i<=xs.length->Pv i H->aq K H a xs/\aq K H b ys)
   (turn:∀i x y p H,xs[i]? = some x->ys[i]? = some y->Pv i H->H p=none->g (.ref p) σ0 (upd H p (.tup [x,y])) fun σ2 H2=>tifs σ2 H2 fun b H3=>
     if b=true then tm σ2 H3 fun H4=>aQ σ0 σ2/\∃m',m' < xs.length - i/\(m'=xs.length - (i + 1)/\i + 1<=xs.length/\Pv (i + 1) H4) else aQ σ0 σ2/\∃m',m' < xs.length - i/\(m'=xs.length - (i + 1)/\i + 1<=xs.length/\Pv (i + 1) H3))
   (hZ:∀H,Pv xs.length H->Z H):eO (Im K a b) σ0 g tifs tm Z H:=by
 refine d7 xs.length Pv h0 (fun i H hi p=>⟨xs,ys,xs[i],ys[i]'(hlen ▸ hi),(hl i H (TB hi) p).1,(hl i H (TB hi) p).2,by simp [hi],by simp [hlen ▸ hi]⟩) (fun H p=>⟨xs,ys,(hl _ H (Sz _) p).1,(hl _ H (Sz _) p).2,.inl (Sz _)⟩) (fun i H hi p x H' y=>?_) hZ
 obtain ⟨pp,x1,y1,hn,rfl,rfl,k⟩:=y
 obtain ⟨k1,k2⟩:=k xs ys (hl i H (TB hi) p).1 (hl i H (TB hi) p).2
 exact turn i x1 y1 pp H k1 k2 p hn
end
end L2
namespace PySem
theorem kY:typeLookup (.type "list") "keys"=pure none:=by rw [typeLookup_type,builtinLookup_eq_fast]; kernel_rfl
section
variable {prog:Program}{w:World}{A:Around}{E:Value->Shared->Prop}{s:Shared}
theorem fG {a:Addr}{xs:Array Value}{k:Nat}{u:Tok}{Q:Value->Shared->Prop}(hx:s.heap.get? a=some { cls:=.type "list",data:=.seq xs k })(hA:A.handled=none)
   (h:∀h' tk e,Heap.NewAttrErr s.heap h' e (.ref a) "keys"->E (.ref e) { s with heap:=h',toks:=tk }) :
   wpAny (model prog w) A (getAttrBy (.ref a) (.str "keys" u) false) Q E s:=by
 obtain ⟨hp,g,d,tk,os⟩:=s
 have hT:∀NF,(⟨hp,g,d,NF,os⟩ : Shared).TypeIs (.ref a) "list":=fun _=>⟨_,hx,rfl⟩
 have f1:=sub_AttributeError
 have f3:=F.slot_list_getattribute.lookup
 have f4:=F.slot_list_getattribute.bind (.ref a)
 have f5:=am_list_getattr_none
 unfold getAttrBy
 repeat (any_goals (first | assumption | exact hT _ | ((with_reducible show wpAny _ _ (call (Value.builtin "list.__getattribute__") _ _) _ _ _); refine call_meets F.slot_list_getattribute (hT _) am_entry_list_getattribute (F.args_list_getattribute_2 _ _) (meets_getattribute_miss_list a xs k #[] "keys" _ kY (by decide +kernel)) ⟨hx,hA,fun h' NF e DV=>?_⟩) | wp_step))
 obtain ⟨t',u',he⟩:=DV.there
 show wpAny _ _ (getattributeRaised _ _ _ _ _ _ _) _ _ _
 unfold getattributeRaised
 repeat (any_goals (first | assumption | wp_step))
 exact h _ _ _ DV
theorem hW {a:Addr}{xs:Array Value}{k:Nat}{Q:Option Value->Shared->Prop}(hx:s.heap.get? a=some { cls:=.type "list",data:=.seq xs k })(hA:A.handled=none)
   (h:∀h' tk,(∀b o,s.heap.get? b=some o->h'.get? b=some o)->Q none { s with heap:=h',toks:=tk }):wpAny (model prog w) A (getAttr? (.ref a) "keys") Q E s:=by
 unfold getAttr? getAttrBy?
 refine wpAny_bind (wpAny_mkText (wpAny_bind (wpAny_attempt (fG hx hA fun h' tk e ne=>?_))))
 obtain ⟨t',u',he⟩:=ne.there
 refine wpAny_bind (wpAny_isInstance (T:="AttributeError") (b:=true) ⟨_,he,rfl⟩ sub_AttributeError ?_)
 exact wpAny_pure (h h' _ ne.keeps)
theorem kZ {t:Addr}{vs:Array Value}{Q:List Value->Shared->Prop}(ht:s.heap.IsTuple t vs)(h:Q vs.toList s):wpAny (model prog w) A (VC (.ref t)) Q E s:=by
 obtain ⟨o,ho,hc,n,hd⟩:=ht
 unfold VC
 refine wpAny_bind (wpAny_typeOf (T:="tuple") ⟨o,ho,hc⟩ ?_)
 rw [if_pos (by decide)]
 refine wpAny_bind ?_
 obtain ⟨hp,g,d,tk,os⟩:=s
 unfold seqItems?
 repeat (any_goals (first | assumption | wp_step))
 all_goals (first | (rw [hd]; repeat (any_goals (first | assumption | wp_step))) | skip)
end
end PySem
namespace L2
open PySem PySem.Spec PyProof.Rows
section
variable {X:Cx}
theorem dP:entryFor table "dict.update.loop"=some Builtin.«dict.update.loop»:=entryFor_of_tree (by kernel_rfl)
def nH (H:Hp)(t:V)(kv:Key×V):Prop:=∃a,t=.ref a/\H a=some (.tup [kV kv.1,kv.2])
def putAll (d:List (Key×V))(kvs:List (Key×V)):List (Key×V):=kvs.foldl (fun d p=>putK d p.1 p.2) d
theorem nj {pins:List (Addr×Obj)}{σ:St}{A:Around}{D l it:Addr}{xs:List V}(hh:A.handled=none) :
   ∀(n i:Nat) (j:Int) (t:Tok) (kvs d:List (Key×V)) (H:Hp) (s:Shared) (R:Result->Shared->Prop),xs.length - i=n->i<=xs.length->Inv X pins σ H s->H D=some (.dK d)->d.length + n<=sizeLine->aq X.K H l xs->cS X pins H it->s.heap.IsListIter it l i ->
     Paired (nH H) (xs.drop i) kvs->(∀s',Inv X pins σ (upd H D (.dK (putAll d kvs))) s'->R (.ok (.ret .none)) s') ->
     codeAny (model X.prog X.w) A (.builtin "dict.update.loop" ⟨[.ref D,.ref it,.int j t,.none],[]⟩) R s:=by
 intro n
 induction n using Nat.strongRecOn with
 | _ n ih=>
   intro i j t kvs d H s R hn hi I hD hz hq hf hit hp hR
   obtain ⟨its,rv,p,_⟩:=I.list hq
   have hl:=rv.length
   obtain ⟨f0,f1,f2,f3,f4,f5⟩:=id hf
   refine codeAny_builtin dP ?_
   have hA:(A.under (.builtin "dict.update.loop" ⟨[.ref D,.ref it,.int j t,.none],[]⟩)).handled=none:=by rw [show (A.under (.builtin "dict.update.loop" ⟨[.ref D,.ref it,.int j t,.none],[]⟩)).handled=A.handled from rfl]; exact hh
   generalize A.under (.builtin "dict.update.loop" ⟨[.ref D,.ref it,.int j t,.none],[]⟩)=A' at hA ⊢
   unfold Builtin.«dict.update.loop»
   show wpAny _ _ (pyNext (.ref it) >>= _) _ _ _
   cases hx:xs[i]? with
   | none=>
     have PF:xs.length<=i:=List.getElem?_eq_none_iff.mp hx
     refine wpAny_bind (wpAny_pyNext_list_end hA hit p.isList (by simp; omega) fun h' eb=>?_)
     have I1:Inv X pins σ H { s with heap:=h' }:=I.turned (t':=s.toks) (fun b o hb e=>eb b o hb e) f0 f1 f3 f4 f5
     have Ju:xs.drop i=[]:=List.drop_eq_nil_of_le PF
     rw [Ju] at hp
     cases hp
     have e:upd H D (.dK (putAll d []))=H:=by
       funext b
       unfold upd
       split
       · rename_i hb; rw [hb,hD]; rfl
       · rfl
     rw [e] at hR
     show wpAny _ _ (Builtin.Dict.addKeywords D [] >>= _) _ _ _
     exact wpAny_bind (wpAny_pure (wpAny_pure (hR _ I1)))
   | some x=>
     have gv:i < xs.length:=(List.getElem?_eq_some_iff.mp hx).1
     obtain ⟨u,hu,ru⟩:=rv.get hx
     have Ju:xs.drop i=x :: xs.drop (i + 1):=by
       have e:xs[i]=x:=(List.getElem?_eq_some_iff.mp hx).2
       rw [List.drop_eq_getElem_cons gv,e]
     rw [Ju] at hp
     cases hp with
     | @cons _ kv _ r sQ Fo=>
       obtain ⟨ta,rfl,BB⟩:=sQ
       obtain rfl:u=Tq ta:=ru
       refine wpAny_bind (wpAny_pyNext_list_item hit p.isList (x:=.ref ta) (by simpa using hu) fun h' JB sb=>?_)
       have I1:Inv X pins σ H { s with heap:=h' }:=I.turned (t':=s.toks) (fun b o hb e=>(sb.2 b hb).trans e) f0 f1 f3 f4 f5
       obtain ⟨dO,zq,p2,_⟩:=I1.tuple (aF.of BB)
       obtain ⟨w1,w2,rfl,r1,r2⟩:=Vals.two zq
       refine wpAny_bind (wpAny_holding ?_)
       refine wpAny_bind (wpAny_tryCatch (kZ (show ({ s with heap:=h' }:Shared).heap.IsTuple ta #[w1,w2] from (show IsTup h' ta #[w1,w2] by simpa using p2)) ?_))
       show wpAny _ _ (holding [w1,w2] (dictSet D w1 w2)) _ _ _
       obtain ⟨z,rj,vs,rel,dd⟩:=tW I1.hok hD
       have QD:vs.length<=sizeLine:=by rw [← rel.length]; exact z
       have RM:(putK d kv.1 kv.2).length<=d.length + 1:=bH d kv.1 kv.2
       have Hj:n=xs.length - (i + 1) + 1:=by omega
       refine wpAny_holding (wpAny_dictSet_pairs (hsz:=QD) (j8 r1) dd fun h2 qQ hs2=>?_)
       have he:∃q,h2.get? D=some q:=let ⟨q,_,_,hq,_⟩:=qQ; ⟨q,hq⟩
       have EN:D≠it:=fun z=>by rw [z,f0] at hD; cases hD
       have P1:aq X.K (upd H D (.dK (putK d kv.1 kv.2))) l xs:=by
         rcases hq with (q | ⟨o,q⟩) | q
         · exact .inl (.inl (by rw [aj (b8 q hD (fun z=>nomatch z))]; exact q))
         · exact .inl (.inr ⟨o,by rw [aj (b8 q hD (fun z=>nomatch z))]; exact q⟩)
         · exact .inr q
       refine wpAny_pure ⟨Code.quiet_builtin _ (by decide +kernel),?_⟩
       refine ih (xs.length - (i + 1)) (by omega) (i + 1) _ _ r (putK d kv.1 kv.2) (upd H D (.dK (putK d kv.1 kv.2))) _ R rfl gv (fh (t':=_) I1 (by rw [hD]; exact Tj) hs2 he (nN (by omega) rj (rel.put kv.1 r2) qQ)) ae (by omega) P1 ⟨by rw [aj EN.symm]; exact f0,hf.2⟩ (JB.extBut hs2.extBut EN.symm) ?_ ?_
       · exact Paired.aI Fo fun a b ⟨c,e1,e2⟩=>⟨c,e1,by rw [aj (b8 e2 hD (fun z=>nomatch z))]; exact e2⟩
       · intro s' I'
         rw [b4] at I'
         exact hR s' I'
def qc (K:Sw):List V->Hp->VK->Prop:=fun vs H Q=>∃l xs kvs,vs=[.ref l]/\H l=some (.lst xs)/\Paired (nH H) xs kvs/\∀D,H D=none->Q (.ref D) (upd H D (.dK (putAll [] kvs)))
theorem gT (hc:X.calm=true):cO X (.type "dict") (qc X.K):=by
 intro pins s σ H vs us Q I r h
 obtain ⟨l,xs,kvs,rfl,hl,hp,q⟩:=h
 obtain ⟨u,rfl,ru⟩:=vals1 r
 obtain rfl:u=Tq l:=ru
 have hh:X.A.handled=none:=I.ok.hd hc
 have hD:H s.heap.objs.size=none:=I.hok.fresh (Sz _)
 have I1:Inv X pins σ (upd H s.heap.objs.size (.dK [])) { s with heap:=s.heap.push { cls:=.type "dict",data:=.dict #[] } }:=I.laid (t':=s.toks) (fun _ _ e=>SN _ e) (Sz _) (me s.heap I.big)
 refine callType_codes (Q₁:=fun obj s₁=>obj=.ref s.heap.objs.size/\s₁={ s with heap:=s.heap.push { cls:=.type "dict",data:=.dict #[] } }) F.kt_called_dict (F.kt_typeCall_dict_1 _) F.entry_dict_init (kt_code_dict_new _ ⟨rfl,rfl⟩) ?_
 rintro obj s₁ ⟨rfl,rfl⟩
 have Bm:(s.heap.push { cls:=.type "dict",data:=.dict #[] }).DictOf (aZ X.prog X.w) s.heap.objs.size []:=Wg s.heap
 generalize Bx:({ s with heap:=s.heap.push { cls:=.type "dict",data:=.dict #[] } }:Shared)=s1 at I1 ⊢
 have uT:s1.heap.DictOf (aZ X.prog X.w) s.heap.objs.size []:=by rw [← Bx]; exact Bm
 generalize s.heap.objs.size=D at hD I1 uT ⊢
 have uN:(upd H D (.dK [])) l=some (.lst xs):=by rw [aj (ag hl hD)]; exact hl
 refine ⟨uT.typeIs,F.args_dict_init_2 _ _,?_⟩
 unfold Builtin.«dict.__init__»
 refine wpAny_bind ?_
 unfold Builtin.Dict.selfAndRest
 refine wpAny_bind (wpAny_notOrdered_dict uT.typeIs ?_)
 show wpAny _ _ (pure (D,[Tq l])) _ _ _
 refine wpAny_pure ?_
 show wpAny _ _ (Vz "dict.__init__" D (.ref l) [] .none) _ _ _
 unfold Vz
 obtain ⟨z,its,n,rv,e⟩:=(show aU X.prog X.w _ s1.heap l (.lst xs) from I1.hok l _ uN)
 refine wpAny_bind (wpAny_typeOf (T:="list") ⟨_,e,rfl⟩ ?_)
 rw [if_pos (by decide)]
 refine wpAny_bind (hW e hh fun h' tk hk=>?_)
 rw [if_pos (show (Option.isNone (none:Option Value))=true from rfl)]
 have I2:Inv X pins σ (upd H D (.dK [])) { s1 with heap:=h',toks:=tk }:=I1.kept hk
 refine wpAny_bind (wpAny_rule ?_)
 refine wpAny_bind (wpAny_pyIter_list ⟨_,hk _ _ e,rfl,n,rfl⟩ ?_)
 have I3:=I2.kept (h':=h'.push { cls:=.type "list_iterator",data:=.fields #[.ref l,.int 0 0] }) (t':=tk) fun b o e=>SN _ e
 refine wpAny_pure ⟨Code.quiet_builtin _ (by decide +kernel),?_⟩
 refine nj (l:=l) (it:=h'.objs.size) (xs:=xs) (d:=[]) (kvs:=kvs) (pins:=pins) (σ:=σ) (A:=X.A.in1) (show X.A.in1.handled=none from hh) xs.length 0 _ _ _ _ _ (by simp) (TN _) I3 ae (by simpa using z) (aq.of uN) (I2.jv (Sz _) (I2.hok.fresh (Sz _))) ⟨_,Tb _ rfl,rfl,rfl⟩ ?_ ?_
 · exact Paired.aI hp fun a b ⟨c,e1,e2⟩=>⟨c,e1,by rw [aj (ag e2 hD)]; exact e2⟩
 · intro s' I'
   rw [b4] at I'
   exact ⟨rfl,.ref D,_,I',rfl,q D hD⟩
end
end L2
namespace L2
open PySem PySem.Spec PyProof.Rows SeqAt
inductive EB (K:Sw) (H:Hp):Nat->V->V->Bool->Prop where
 | flat {n:Nat} {x y:V}:bG x=true->bG y=true->EB K H n x y (jT x y)
 | same {n:Nat} {a:Addr}:EB K H n (.ref a) (.ref a) true
 | lst {n:Nat} {a b:Addr} {xs ys:List V} {e:Nat->Bool}:a≠b->aq K H a xs->aq K H b ys->xs.length=ys.length->(∀j x y,xs[j]? = some x->ys[j]? = some y->EB K H n x y (e j)) ->
     EB K H (n + 1) (.ref a) (.ref b) ((S5 xs.length).all e)
 | len {n:Nat} {a b:Addr} {xs ys:List V}:a≠b->aq K H a xs->aq K H b ys->xs.length≠ys.length->EB K H n (.ref a) (.ref b) false
 | tup {n:Nat} {a b:Addr} {xs ys:List V} {e:Nat->Bool}:a≠b->aF K H a xs->aF K H b ys->(∀j x y,xs[j]? = some x->ys[j]? = some y->EB K H n x y (e j)) ->
     EB K H (n + 1) (.ref a) (.ref b) ((S5 (min xs.length ys.length)).all e && xs.length == ys.length)
section
variable {X:Cx}{pins:List (Addr×Obj)}{σ:St}{H:Hp}{s:Shared}
theorem dj {K:Sw}{n:Nat}{A:Around}{xs ys:List V}{us vs:List Value}{e:Nat->Bool}(rv:Vals xs us)(rw':Vals ys vs)
   (h:∀j x y,xs[j]? = some x->ys[j]? = some y->∀(A:Around) (u v:Value),RelV x u->RelV y v->A.units + n < cLine->EqAt A s u v (e j)) (hu:A.units + (n + 1) < cLine) :
   ∀j (h1:j < us.toArray.size) (h2:j < vs.toArray.size),EqAt A.in1 s us.toArray[j] vs.toArray[j] (e j):=fun j h1 h2=>by
 have l1:=rv.length
 have l2:=rw'.length
 have O8:j < us.length:=by simpa using h1
 have mD:j < vs.length:=by simpa using h2
 have hx:xs[j]? = some (xs[j]'(by omega)):=Sx _
 have hy:ys[j]? = some (ys[j]'(by omega)):=Sx _
 obtain ⟨u,Kj,ru⟩:=rv.get hx
 obtain ⟨v,hv1,nA⟩:=rw'.get hy
 have eu:us[j]=u:=by have:=Sx O8; rw [Kj] at this; exact (S6 this).symm
 have ev:vs[j]=v:=by have:=Sx mD; rw [hv1] at this; exact (S6 this).symm
 have q:=h j _ _ hx hy A.in1 u v ru nA (by show A.units + 1 + n < cLine; omega)
 simpa [eu,ev] using q
theorem EB.at (I:Inv X pins σ H s){n:Nat}{x y:V}{b:Bool}(q:EB X.K H n x y b):∀(A:Around) (u v:Value),RelV x u->RelV y v->A.units + n < cLine->EqAt A s u v b:=by
 induction q with
 | flat h1 h2=>exact fun A u v ru rv _=>nO ru rv h1 h2
 | same=>intro A u v ru rv _; cases ru; cases rv; exact EqAt.same _
 | @lst n a b xs ys e uS ha hb hl _ ih=>
   intro A u v ru rv hu
   cases ru; cases rv
   obtain ⟨us,r1,p1,_⟩:=I.list ha
   obtain ⟨vs,r2,p2,_⟩:=I.list hb
   have l1:=r1.length
   have l2:=r2.length
   have q:=RcAt.lists (A:=A) p1.isList p2.isList (by simp; omega) (by omega) (dj (K:=X.K) r1 r2 ih hu)
   rw [show us.toArray.size=xs.length by simp [l1]] at q
   exact EqAt.of_refs uS q
 | @len n a b xs ys uS ha hb hl=>
   intro A u v ru rv hu
   cases ru; cases rv
   obtain ⟨us,r1,p1,_⟩:=I.list ha
   obtain ⟨vs,r2,p2,_⟩:=I.list hb
   have l1:=r1.length
   have l2:=r2.length
   exact EqAt.of_refs uS (RcAt.lists_lengths p1.isList p2.isList (by simp; omega) (by omega))
 | @tup n a b xs ys e uS ha hb _ ih=>
   intro A u v ru rv hu
   cases ru; cases rv
   obtain ⟨us,r1,p1,_⟩:=I.tuple ha
   obtain ⟨vs,r2,p2,_⟩:=I.tuple hb
   have l1:=r1.length
   have l2:=r2.length
   have q:=RcAt.tuples (A:=A) (show s.heap.IsTuple a us.toArray from p1) (show s.heap.IsTuple b vs.toArray from p2) (by omega) (dj (K:=X.K) r1 r2 ih hu)
   rw [show us.toArray.size=xs.length by simp [l1],show vs.toArray.size=ys.length by simp [l2]] at q
   exact EqAt.of_refs uS q
end
def RB (K:Sw)(H:Hp)(n:Nat)(x y:V)(b:Bool):Prop:=∃a c xs ys,x=.ref a/\y=.ref c /\
 ((∃e:Nat->Bool,aq K H a xs/\aq K H c ys/\xs.length=ys.length/\(∀j x y,xs[j]? = some x->ys[j]? = some y->EB K H n x y (e j))/\b=(S5 xs.length).all e) \/
  (aq K H a xs/\aq K H c ys/\xs.length≠ys.length/\b=false) \/
  (∃e:Nat->Bool,aF K H a xs/\aF K H c ys/\(∀j x y,xs[j]? = some x->ys[j]? = some y->EB K H n x y (e j))/\b=((S5 (min xs.length ys.length)).all e && xs.length == ys.length)))
section
variable {X:Cx}
theorem Cp {m:Nat}(hu:X.A.units + (m + 1) < cLine):gO X (compareOp .Eq) (fun x y H Q=>∃b,RB X.K H m x y b/\Q (.bl b) H):=by
 intro pins s σ H x y v u Q I rx ry h
 obtain ⟨b,⟨a,c,xs,ys,rfl,rfl,q⟩,k⟩:=h
 cases rx; cases ry
 rcases q with ⟨e,ha,hb,hl,he,rfl⟩ | ⟨ha,hb,hl,rfl⟩ | ⟨e,ha,hb,he,rfl⟩
 · obtain ⟨us,r1,p1,_⟩:=I.list ha
   obtain ⟨vs,r2,p2,_⟩:=I.list hb
   have l1:=r1.length
   have l2:=r2.length
   refine eq_listAt p1.isList p2.isList (by simp; omega) (by omega) (dj (K:=X.K) r1 r2 (fun j x y h1 h2=>(he j x y h1 h2).at I) hu) ?_
   rw [show us.toArray.size=xs.length by simp [l1]]
   exact ⟨.bl _,H,I,rfl,k⟩
 · obtain ⟨us,r1,p1,_⟩:=I.list ha
   obtain ⟨vs,r2,p2,_⟩:=I.list hb
   have l1:=r1.length
   have l2:=r2.length
   exact eq_list_lengthsAt p1.isList p2.isList (by simp; omega) (by omega) ⟨.bl _,H,I,rfl,k⟩
 · obtain ⟨us,r1,p1,_⟩:=I.tuple ha
   obtain ⟨vs,r2,p2,_⟩:=I.tuple hb
   have l1:=r1.length
   have l2:=r2.length
   refine eq_tupleAt (show s.heap.IsTuple a us.toArray from p1) (show s.heap.IsTuple c vs.toArray from p2) (by omega) (dj (K:=X.K) r1 r2 (fun j x y h1 h2=>(he j x y h1 h2).at I) hu) ?_
   rw [show us.toArray.size=xs.length by simp [l1],show vs.toArray.size=ys.length by simp [l2]]
   exact ⟨.bl _,H,I,rfl,k⟩
theorem Cs {m:Nat}(hu:X.A.units + (m + 1) < cLine):gO X (compareOp .NotEq) (fun x y H Q=>∃b,RB X.K H m x y b/\Q (.bl (!b)) H):=by
 intro pins s σ H x y v u Q I rx ry h
 obtain ⟨b,⟨a,c,xs,ys,rfl,rfl,q⟩,k⟩:=h
 cases rx; cases ry
 rcases q with ⟨e,ha,hb,hl,he,rfl⟩ | ⟨ha,hb,hl,rfl⟩ | ⟨e,ha,hb,he,rfl⟩
 · obtain ⟨us,r1,p1,_⟩:=I.list ha
   obtain ⟨vs,r2,p2,_⟩:=I.list hb
   have l1:=r1.length
   have l2:=r2.length
   refine RcNeAt.lists p1.isList p2.isList (by simp; omega) (by omega) (dj (K:=X.K) r1 r2 (fun j x y h1 h2=>(he j x y h1 h2).at I) hu) X.prog X.w X.xe _ ?_
   rw [show us.toArray.size=xs.length by simp [l1]]
   exact ⟨.bl _,H,I,rfl,k⟩
 · obtain ⟨us,r1,p1,_⟩:=I.list ha
   obtain ⟨vs,r2,p2,_⟩:=I.list hb
   have l1:=r1.length
   have l2:=r2.length
   exact RcNeAt.lists_lengths p1.isList p2.isList (by simp; omega) (by omega) X.prog X.w X.xe _ ⟨.bl _,H,I,rfl,k⟩
 · obtain ⟨us,r1,p1,_⟩:=I.tuple ha
   obtain ⟨vs,r2,p2,_⟩:=I.tuple hb
   have l1:=r1.length
   have l2:=r2.length
   refine RcNeAt.tuples (show s.heap.IsTuple a us.toArray from p1) (show s.heap.IsTuple c vs.toArray from p2) (by omega) (dj (K:=X.K) r1 r2 (fun j x y h1 h2=>(he j x y h1 h2).at I) hu) X.prog X.w X.xe _ ?_
   rw [show us.toArray.size=xs.length by simp [l1],show vs.toArray.size=ys.length by simp [l2]]
   exact ⟨.bl _,H,I,rfl,k⟩
end
def ET (K:Sw)(H:Hp)(n:Nat)(x y:V):Prop:=EB K H n x y true
theorem all_true {n:Nat}:(S5 n).all (fun _=>true)=true:=by rw [VG]; intro _ _; rfl
theorem ET.lst {K:Sw}{H:Hp}{n:Nat}{a b:Addr}{xs ys:List V}(ha:aq K H a xs)(hb:aq K H b ys)(hl:xs.length=ys.length)(h:∀(j:Nat) (x y:V),xs[j]? = some x->ys[j]? = some y->ET K H n x y):ET K H (n + 1) (.ref a) (.ref b):=by
 by_cases e:a=b
 · subst e; exact .same
 · have q:=EB.lst (e:=fun _=>true) e ha hb hl h
   rw [all_true] at q
   exact q
theorem ET.tup {K:Sw}{H:Hp}{n:Nat}{a b:Addr}{xs ys:List V}(ha:aF K H a xs)(hb:aF K H b ys)(hl:xs.length=ys.length)(h:∀(j:Nat) (x y:V),xs[j]? = some x->ys[j]? = some y->ET K H n x y):ET K H (n + 1) (.ref a) (.ref b):=by
 by_cases e:a=b
 · subst e; exact .same
 · have q:=EB.tup (e:=fun _=>true) e ha hb h
   rw [all_true,hl,beq_self_eq_true] at q
   exact q
theorem tY {x:V}(h:bG x=true):jT x x=true:=by cases x <;> simp_all [bG,jT]
theorem ET.refl {K:Sw}{H:Hp}{n:Nat}{x:V}(h:bG x=true\/∃a,x=.ref a):ET K H n x x:=by
 rcases h with h | ⟨a,rfl⟩
 · have q:=EB.flat (K:=K) (H:=H) (n:=n) h h
   rw [tY h] at q
   exact q
 · exact .same
theorem RB.lst {K:Sw}{H:Hp}{n:Nat}{a b:Addr}{xs ys:List V}(ha:aq K H a xs)(hb:aq K H b ys)(hl:xs.length=ys.length)(h:∀(j:Nat) (x y:V),xs[j]? = some x->ys[j]? = some y->ET K H n x y):RB K H n (.ref a) (.ref b) true:=
 ⟨a,b,xs,ys,rfl,rfl,.inl ⟨fun _=>true,ha,hb,hl,h,all_true.symm⟩⟩
theorem RB.nil {K:Sw}{H:Hp}{n:Nat}{a b:Addr}{xs:List V}(ha:aq K H a xs)(hb:aq K H b []):RB K H n (.ref a) (.ref b) xs.isEmpty:=by
 cases xs with
 | nil=>exact RB.lst ha hb rfl (fun j x y h=>by simp at h)
 | cons x r=>exact ⟨a,b,_,[],rfl,rfl,.inr (.inl ⟨ha,hb,by simp,rfl⟩)⟩
section
variable {X:Cx}{pos:Pos}
def zF (i j:Int):Prop:=0 < j/\j < 2 ^ 1000
theorem vO:gO X (binaryOp .FloorDiv) (rI zF fun i j=>.int (i / j)):=FQ fun i j _ _ _ _ _ hc q=>by
 have h1:(0:Int) < j:=hc.1
 have h2:j < 2 ^ 1000:=hc.2
 have h3:j.natAbs < 2 ^ 1000:=by omega
 exact floordiv_int (by omega) (by rw [Int.fdiv_eq_ediv_of_nonneg i (by omega)]; exact q) (.inl (PyProof.noPylong_of_log2 (S8 ((Nat.log2_lt (by omega)).mpr h3) (by decide))))
def zG (i j:Int):Prop:=i.natAbs < 2 ^ 1000/\j.natAbs < 2 ^ 1000
theorem zI {i:Int}(h:i.natAbs < 2 ^ 1000):TJ i<=1000:=by
 unfold TJ
 split
 · exact TN _
 · rename_i hi
   have h0:i.natAbs≠0:=by intro z; have:i=0:=(by omega); subst this; simp at hi
   have:=(Nat.log2_lt h0).mpr h
   omega
theorem yP:gO X (binaryOp .Mult) (rI zG fun i j=>.int (i * j)):=FQ fun i j _ _ _ _ _ hc q=>by
 have b1:=zI hc.1
 have b2:=zI hc.2
 refine mul_int q ?_
 unfold IntMulOk
 have hb:VN ((TJ i:Int) + (TJ j:Int))=false:=by
   unfold VN
   refine decide_eq_false ?_
   have:(2000:Int)<=(bitsLine:Int):=by rw [PySem.bitsLine_eq]; decide
   omega
 have e:((TJ i + TJ j:Nat):Int)=(TJ i:Int) + (TJ j:Int):=by omega
 simp [hb]
theorem tN:cO X (.builtin "isinstance") (fun xs H Q=>∃x n t b,xs=[x,.ty n]/\dm X.K H x t/\U8 X.K t (.type n)=some b/\Q (.bl b) H):=by
 intro pins s σ H xs us Q I r h
 obtain ⟨x,n,t,b,rfl,ty,e,q⟩:=h
 obtain ⟨u,v,rfl,ru,rv⟩:=Vals.two r
 obtain rfl:v=Value.type n:=rv
 exact rD I ru ty e fun tk=>⟨.bl b,H,I.tok tk,rfl,q⟩
end
end L2
namespace TW
open PySem L2
inductive K2 where
 | plus | less | same | under | both
def K2.str:K2->Str
 | .plus=>"plus" | .less=>"less" | .same=>"same" | .under=>"under" | .both=>"both"
inductive E where
 | num (n:Int) | box (tag x:Str) | yes | nt (a:E) | two (k:K2) (a b:E)
def Tp (H:Hp)(v:V)(xs:List V):Prop:=∃p,v=.ref p/\H p=some (.tup xs)
def b7 (H:Hp):V->E->Prop
 | v,.num n=>Tp H v [.str "number",.int n]
 | v,.box t x=>Tp H v [.str t,.str x]
 | v,.yes=>Tp H v [.str "yes"]
 | v,.nt a=>∃x,Tp H v [.str "not",x]/\b7 H x a
 | v,.two k a b=>∃x y,Tp H v [.str k.str,x,y]/\b7 H x a/\b7 H y b
def TK (H H':Hp):Prop:=∀b xs,H b=some (.tup xs)->H' b=some (.tup xs)
theorem TK.trans {A B C:Hp}(a:TK A B)(b:TK B C):TK A C:=fun c o h=>b c o (a c o h)
theorem Tp.keep {H H':Hp}{v:V}{xs:List V}(k:TK H H')(h:Tp H v xs):Tp H' v xs:=let ⟨p,e,q⟩:=h; ⟨p,e,k p xs q⟩
theorem b7.keep {H H':Hp}(k:TK H H'):∀{e:E} {v:V},b7 H v e->b7 H' v e
 | .num _,_,h=>Tp.keep k h
 | .box _ _,_,h=>Tp.keep k h
 | .yes,_,h=>Tp.keep k h
 | .nt _,_,⟨x,h,a⟩=>⟨x,h.keep k,b7.keep k a⟩
 | .two _ _ _,_,⟨x,y,h,a,b⟩=>⟨x,y,h.keep k,b7.keep k a,b7.keep k b⟩
def E.dep:E->Nat
 | .num _=>0 | .box _ _=>0 | .yes=>0 | .nt a=>a.dep + 1 | .two _ a b=>max a.dep b.dep + 1
def E.ow:E->Prop
 | .num _=>True
 | .box _ _=>True
 | .two .plus a b=>a.ow/\b.ow
 | .two .less a b=>a.ow/\b.ow
 | _=>False
def E.js:E->Prop
 | .yes=>True
 | .nt a=>a.js
 | .two .same a b=>a.ow/\b.ow
 | .two .under a b=>a.ow/\b.ow
 | .two .both a b=>a.js/\b.js
 | _=>False
def E.okIn (P:Str->Str->Prop):E->Prop
 | .num n=>n.natAbs < 2 ^ 100 | .box t x=>P t x | .yes=>True | .nt a=>a.okIn P | .two _ a b=>a.okIn P/\b.okIn P
def E.worth (w:Str->Str->Int):E->Int
 | .num n=>n
 | .box t x=>w t x
 | .two .plus a b=>a.worth w + b.worth w
 | .two .less a b=>a.worth w - b.worth w
 | _=>0
def E.holds (w:Str->Str->Int):E->Bool
 | .yes=>true
 | .nt a=>!(a.holds w)
 | .two .same a b=>decide (a.worth w=b.worth w)
 | .two .under a b=>decide (a.worth w < b.worth w)
 | .two .both a b=>a.holds w && b.holds w
 | _=>false
inductive Nd where
 | put (x:Str) (s:E) (n:Int) | say (s:E) (n:Int) | test (c:E) (n o:Int) | fin
def bO (H:Hp):V->Nd->Prop
 | v,.put x s n=>∃u,Tp H v [.str "put",.str x,u,.int n]/\b7 H u s
 | v,.say s n=>∃u,Tp H v [.str "say",u,.int n]/\b7 H u s
 | v,.test c n o=>∃u,Tp H v [.str "test",u,.int n,.int o]/\b7 H u c
 | v,.fin=>Tp H v [.str "end"]
theorem bO.keep {H H':Hp}(k:TK H H'):∀{e:Nd} {v:V},bO H v e->bO H' v e
 | .put _ _ _,_,⟨u,h,a⟩=>⟨u,h.keep k,a.keep k⟩
 | .say _ _,_,⟨u,h,a⟩=>⟨u,h.keep k,a.keep k⟩
 | .test _ _ _,_,⟨u,h,a⟩=>⟨u,h.keep k,a.keep k⟩
 | .fin,_,h=>Tp.keep k h
theorem bO.ref {H:Hp}:∀{e:Nd} {v:V},bO H v e->∃a,v=.ref a
 | .put _ _ _,_,⟨_,⟨p,h,_⟩,_⟩=>⟨p,h⟩
 | .say _ _,_,⟨_,⟨p,h,_⟩,_⟩=>⟨p,h⟩
 | .test _ _ _,_,⟨_,⟨p,h,_⟩,_⟩=>⟨p,h⟩
 | .fin,_,⟨p,h,_⟩=>⟨p,h⟩
def Nd.good (P:Str->Prop)(many:Int)(d:Nat):Nd->Prop
 | .put x s n=>P x/\s.ow/\s.okIn (fun t y=>t="box"/\P y)/\s.dep<=d/\0<=n/\n < many
 | .say s n=>s.ow/\s.okIn (fun t y=>t="box"/\P y)/\s.dep<=d/\0<=n/\n < many
 | .test c n o=>c.js/\c.okIn (fun t y=>t="box"/\P y)/\c.dep<=d/\0<=n/\n < many/\0<=o/\o < many
 | .fin=>True
def Kp (d:Addr)(H H':Hp):Prop:=∀b o,H b=some o->b≠d->H' b=some o
theorem Kp.refl {d:Addr}(H:Hp):Kp d H H:=fun _ _ h _=>h
theorem Kp.trans {d:Addr}{A B C:Hp}(a:Kp d A B)(b:Kp d B C):Kp d A C:=fun c o h n=>b c o (a c o h n) n
theorem Kp.new {d:Addr}{H H':Hp}{p:Addr}{o:HO}(k:Kp d H H')(h:H' p=none):Kp d H (upd H' p o):=fun b u e n=>by
 rw [aj (ag (k b u e n) h)]; exact k b u e n
theorem Kp.self {d:Addr}{H H':Hp}{o:HO}(k:Kp d H H'):Kp d H (upd H' d o):=fun b u e n=>by rw [aj n]; exact k b u e n
theorem Kp.same {d:Addr}{H H1 H2:Hp}(k:Kp d H H1)(s:ai H1 H2):Kp d H H2:=fun b u e n=>s b u (k b u e n)
theorem af {H:Hp}{p:Addr}(h:H p=none)(o:HO):ai H (upd H p o):=fun b u q=>by rw [aj (ag q h)]; exact q
theorem ai.tk {H H':Hp}(s:ai H H'):TK H H':=fun b xs h=>s b _ h
theorem aC {H:Hp}{p:Addr}(h:H p=none)(o:HO):TK H (upd H p o):=ai.tk (af h o)
theorem small {n:Nat}(h:n<=1000):n<=sizeLine:=TB (aB h)
def bU (H:Hp)(v:V)(b:Str×Int):Prop:=Tp H v [.str b.1,.int b.2]
structure bW (H:Hp)(v:V)(bs:List (Str×Int))(ins:List Str)(nds:List Nd):Prop where
 at_:∃p B I N vb vn,v=.ref p/\H p=some (.tup [.ref B,.ref I,.ref N])/\H B=some (.lst vb)/\H I=some (.lst (ins.map V.str))/\H N=some (.lst vn)/\Paired (bU H) vb bs/\Paired (bO H) vn nds
end TW
set_option exponentiation.threshold 4000
namespace TW
open PySem L2
def Src (K:Sw)(mg:Str->Option Value)(x:Str)(st:Stmt):Prop:=∃f fd,cL K x x st f fd/\mg x=some (.ref f)
def aP (P:Program)(w:World)(K:Sw)(mg:Str->Option Value)(base:Heap)(x:Str)(ps:List Str)(k:Nat)(sp:Sp):Prop:=
 ∃f fd,aN P w K mg base b6 k f fd ps sp/\Ur K (.ref f)=true/\Binds K fd ps []/\mg x=some (.ref f)
theorem aP.mono {P:Program}{w:World}{K:Sw}{mg:Str->Option Value}{base:Heap}{x:Str}{ps:List Str}{j k:Nat}{sp:Sp}(h:aP P w K mg base x ps j sp)(hk:j<=k):aP P w K mg base x ps k sp:=
 let ⟨f,fd,a,b,c,d⟩:=h; ⟨f,fd,a.mono hk,b,c,d⟩
theorem bq {A:Around}{k:Nat}(hr:b5 k A)(m:Nat)(hm:m<=64):A.units + m < cLine:=by have:=hr.units; omega
end TW
namespace L2
open PySem PySem.Spec PyProof.Rows
structure bg (e:Expr):Prop where
 h:∀(es:List Expr) (env:Env),starEach (e :: es) env=(false,eval e env) :: starEach es env
theorem dR {e:Expr}(h:∀x p,e≠.Starred x p):bg e:=⟨fun es env=>by
 cases e <;> first | rfl | exact absurd rfl (h _ _)⟩
theorem fI {c k p}:bg (.Constant c k p):=dR fun _ _ z=>nomatch z
theorem ef {x p}:bg (.Name x p):=dR fun _ _ z=>nomatch z
theorem ee {f a k p}:bg (.Call f a k p):=dR fun _ _ z=>nomatch z
theorem oE {a o b p}:bg (.BinOp a o b p):=dR fun _ _ z=>nomatch z
theorem gG {a b p}:bg (.Subscript a b p):=dR fun _ _ z=>nomatch z
theorem vE {a b p}:bg (.Tuple a b p):=dR fun _ _ z=>nomatch z
theorem vD {a p}:bg (.List a p):=dR fun _ _ z=>nomatch z
theorem vC {a b c p}:bg (.Compare a b c p):=dR fun _ _ z=>nomatch z
theorem Ab {a b c p}:bg (.ListComp a b c p):=dR fun _ _ z=>nomatch z
theorem pW {a b p}:bg (.Attribute a b p):=dR fun _ _ z=>nomatch z
def fb (es:List Expr):Prop:=∀(pos:Pos) (env:Env),(backTo pos (starEach es env)).any (·.1)=false
theorem yE:fb []:=fun _ _=>rfl
theorem vF {e:Expr}{es:List Expr}(h:bg e)(hs:fb es):fb (e :: es):=fun pos env=>by
 rw [h.h es env]
 exact hs pos env
structure nG (X:Cx)(es:List Expr)(t:TA):Prop where
 pa:PA X es t
 ns:∀e r,es=e :: r->bg e/\fb r
 nss:fb es
section
variable {X:Cx}{e:Expr}{es:List Expr}{te:TE}{t:TA}{pos:Pos}
theorem an:nG X [] Dq:=⟨Cy,(fun _ _ z=>nomatch z),yE⟩
theorem ac (ha:PE X e te)(hr:nG X es t)
   (hs:bg e:=by first | exact fI | exact ef | exact ee | exact oE | exact gG | exact vE | exact vD | exact vC | exact Ab | exact FL | exact FN | exact yC | exact pW):nG X (e :: es) (wZ te t):=
 ⟨yS ha hr.pa (hs.h es X.env),fun e' r z=>by injection z with z1 z2; subst z1 z2; exact ⟨hs,hr.nss⟩,vF hs hr.nss⟩
theorem LH {x1}(h:nG X es t):PE X (.Tuple es x1 pos) (Dr t):=CL h.pa
theorem LF (h:nG X es t):PE X (.List es pos) (Dp t):=CG h.pa
theorem Dv {x:Str}{p:Pos}{id:String}{r:List V->Hp->VK->Prop}(hc:cO X (.builtin id) r)(hg:Gl X x)(hm:X.mg x=none)(hv:TH x=some (.builtin id))(ha:nG X (e :: es) t)(hn:x≠"__name__":=by decide)(hdb:(x == ("__debug__":Str))=false:=by decide) :
   PE X (.Call (.Name x p) (e :: es) [] pos) (D3 r t):=vV hc hg hm hv ha.pa hn hdb ((ha.ns e es rfl).1.h es X.env) ((ha.ns e es rfl).2 pos X.env)
theorem Dw {x:Str}{p:Pos}{T:String}{r:List V->Hp->VK->Prop}(hc:cO X (.type T) r)(hg:Gl X x)(hm:X.mg x=none)(hv:TH x=some (.type T))(ha:nG X (e :: es) t)(hn:x≠"__name__":=by decide)(hdb:(x == ("__debug__":Str))=false:=by decide) :
   PE X (.Call (.Name x p) (e :: es) [] pos) (D3 r t):=rV hc hg hm hv ha.pa hn hdb ((ha.ns e es rfl).1.h es X.env) ((ha.ns e es rfl).2 pos X.env)
theorem LG {x:Str}{p:Pos}{ps:List Str}{k:Nat}{sp:Sp}(D:TW.aP X.prog X.w X.K X.mg X.base x ps k sp)(hr:b5 k X.A)(hg:Gl X x)(ha:nG X (e :: es) t)(hdb:(x == ("__debug__":Str))=false:=by decide) :
   PE X (.Call (.Name x p) (e :: es) [] pos) (wY sp [] E0 t):=
 let ⟨_,_,G,kp,b,m⟩:=D
 yX G hr hg m kp b .nil vU ha.pa hdb ((ha.ns e es rfl).1.h es X.env) ((ha.ns e es rfl).2 pos X.env)
theorem zE {tg a:Expr}{ta:TA}{p:Pos}(hg:Gl X "range")(hm:X.mg "range"=none)(ha:nG X [a] ta):PI X tg (.Call (.Name "range" p) [a] [] pos) (vd ta):=
 rW hg hm ha.pa ((ha.ns a [] rfl).1.h [] X.env)
theorem LI {a b:Expr}{ta:TA}{p tp:Pos}{elts:List Expr}{x1:Nat}(hg:Gl X "zip")(hm:X.mg "zip"=none)(ha:nG X [a,b] ta)(hb:bg b:=by first | exact ef | exact gG | exact ee):PI X (.Tuple elts x1 tp) (.Call (.Name "zip" p) [a,b] [] pos) (BC X.K ta):=
 CV hg hm ha.pa (by rw [(ha.ns a [b] rfl).1.h [b] X.env,hb.h [] X.env]; rfl) (by rw [hb.h [] X.env]; rfl)
theorem LD {o:Expr}{name:Str}{apos:Pos}{T id:String}{r:V->List V->Hp->VK->Prop}{to:TE}(pa:PlainAttrs T)(slot:Slot T name id)(hty:typeOf (.builtin id)=pure (.type "method_descriptor"))(hm:G0 X id r)(ho:PE X o to)(ha:nG X [e] t)
   (hbase:TU o name X.env (eval o X.env)=eval o X.env:=by rfl) (hline:(apos.endLine == pos.line)=true:=by rfl):PE X (.Call (.Attribute o name apos) [e] [] pos) (Au X.K T r to t):=
 Af pa slot hty hm ho ha.pa hbase (by rw [(ha.ns e [] rfl).1.h [] X.env]; rfl) hline ((ha.ns e [] rfl).1.h [] X.env) ((ha.ns e [] rfl).2 pos X.env)
end
end L2
namespace L3
open PySem PySem.Spec PyProof.Rows L2
structure SE (X:Cx)(e:Expr)(t:TE):Prop where
 h:PE X e t
structure ST (X:Cx)(e:Expr)(t:TT):Prop where
 h:PT X e t
structure SW (X:Cx)(e:Expr)(t:TT):Prop where
 h:PW X e t
structure SA (X:Cx)(es:List Expr)(t:TA):Prop where
 h:nG X es t
structure SS (X:Cx)(s:Stmt)(t:TS):Prop where
 h:PS X s t
structure SL (X:Cx)(ss:List Stmt)(t:TS):Prop where
 h:nr X ss t
structure SG (X:Cx)(e:Expr)(t:TG):Prop where
 h:PG X e t
structure G1 (X:Cx)(es:List Expr)(t:xk):Prop where
 h:Eb X es t
structure SI (X:Cx)(tg iter:Expr)(t:TI):Prop where
 h:PI X tg iter t
structure AL (X:Cx)(cs:List Expr)(t:TT):Prop where
 h:eQ X cs t
structure SO (X:Cx)(f:Value->Value->Sem Value)(r:R2):Prop where
 h:gO X f r
structure SX (X:Cx)(r:R2):Prop where
 h:GY X r
structure SC (X:Cx)(f:Value)(r:List V->Hp->VK->Prop):Prop where
 h:cO X f r
structure SM (X:Cx)(id:String)(r:V->List V->Hp->VK->Prop):Prop where
 h:G0 X id r
section
variable {X:Cx}{a b c e o:Expr}{es:List Expr}{ta tb tc te:TE}{t:TA}{tA uB:TT}{pos:Pos}{r:R2}
theorem v (i:Nat){x:Str}(hN:X.N[i]? = some x:=by rfl)(hv:Iu X.env.scope x:=by first | exact Or.inl rfl | exact Or.inr (Or.inl rfl) | exact Or.inr (Or.inr rfl))(hd:(x == ("__debug__":Str))=false:=by decide)
   (hcd:(x == ("__classdict__":Str))=false:=by decide):SE X (.Name x pos) (zC i):=⟨CM hN hv hd hcd⟩
theorem int {i j}:SE X (.Constant (.int i) j pos) (tC (.int i)):=⟨CF⟩
theorem bl {k j}:SE X (.Constant (.bool k) j pos) (tC (.bl k)):=⟨F6⟩
theorem str {x j}:SE X (.Constant (.str x) j pos) (tC (.str x)):=⟨CK⟩
theorem nL {x:Str}{w:V}{u:Value}(hg:Gl X x)(hm:X.mg x=none)(hv:TH x=some u)(r:RelV w u)(hn:x≠"__name__":=by decide)(hd:(x == ("__debug__":Str))=false:=by decide):SE X (.Name x pos) (tC w):=⟨yW hg hm hv r hn hd⟩
theorem op {k:Operator}(ho:SO X (binaryOp k) r)(ha:SE X a ta)(hb:SE X b tb):SE X (.BinOp a k b pos) (AD r ta tb):=⟨F9 ho.h ha.h hb.h⟩
theorem cmp {k:CmpOp}(ho:SO X (compareOp k) r)(ha:SE X a ta)(hb:SE X b tb)(hm:UP k b=false:=by exact vw _):ST X (.Compare a [k] [b] pos) (AG (AD r ta tb)):=⟨zk ho.h ha.h hb.h hm⟩
theorem kM {k:CmpOp}(ho:SO X (compareOp k) r)(ha:SE X a ta)(hb:SE X b tb)(hm:UP k b=false:=by exact vw _):SE X (.Compare a [k] [b] pos) (AD r ta tb):=⟨yY ho.h ha.h hb.h hm⟩
theorem b0:SO X (binaryOp .Add) (tq fun i j=>.int (i + j)):=⟨Cn⟩
theorem i8:SO X (binaryOp .Sub) (tq fun i j=>.int (i - j)):=⟨Cv⟩
theorem cJ:SO X (binaryOp .Mult) (rI xD fun i j=>.int (i * j)):=⟨Cr⟩
theorem BW:SO X (binaryOp .Mult) (rI zG fun i j=>.int (i * j)):=⟨yP⟩
theorem aK:SO X (binaryOp .Mod) (rI (fun _ j=>0 < j) fun i j=>.int (i % j)):=⟨Cq⟩
theorem b9:SO X (binaryOp .FloorDiv) (rI zF fun i j=>.int (i / j)):=⟨vO⟩
theorem ki:SO X (binaryOp .Pow) (rI D5 fun i j=>.int (i ^ j.toNat)):=⟨Ct⟩
theorem c9:SO X (binaryOp .Add) Gi:=⟨Co⟩
theorem bD:SO X (compareOp .Eq) Nj:=⟨FT⟩
theorem Lf:SO X (compareOp .NotEq) Nl:=⟨FX⟩
theorem i7:SO X (compareOp .Lt) (tq fun i j=>.bl (decide (i < j))):=⟨FW⟩
theorem Le:SO X (compareOp .Gt) (tq fun i j=>.bl (decide (j < i))):=⟨FV⟩
theorem Ld:SO X (compareOp .GtE) (tq fun i j=>.bl (decide (j<=i))):=⟨FU⟩
theorem kh {KK:Sw}{m:Nat}(hu:X.A.units + (m + 1) < cLine)(hK:X.K=KK:=by first | exact aW | rfl):SO X (compareOp .Eq) (fun x y H Q=>∃b,RB KK H m x y b/\Q (.bl b) H):=by
 subst hK
 exact ⟨Cp hu⟩
theorem pY {KK:Sw}{m:Nat}(hu:X.A.units + (m + 1) < cLine)(hK:X.K=KK:=by first | exact aW | rfl):SO X (compareOp .NotEq) (fun x y H Q=>∃b,RB KK H m x y b/\Q (.bl (!b)) H):=by
 subst hK
 exact ⟨Cs hu⟩
theorem lg {KK:Sw}(hK:X.K=KK:=by first | exact aW | rfl):SO X (compareOp .NotIn) (Nk KK true):=by
 subst hK
 exact ⟨lh⟩
theorem Cw {rest:List Expr}(ha:ST X a tA)(hb:SW X (.BoolOp .Or (b :: rest) pos) uB):SW X (.BoolOp .Or (a :: b :: rest) pos) (NB tA uB):=⟨Gh ha.h hb.h⟩
theorem FY (ha:ST X a tA):SW X (.BoolOp .Or [a] pos) tA:=⟨De ha.h⟩
theorem AU {rest:List Expr}(ha:ST X a tA)(hb:SW X (.BoolOp .And (b :: rest) pos) uB):SW X (.BoolOp .And (a :: b :: rest) pos) (GG tA uB):=⟨Dd ha.h hb.h⟩
theorem AR (ha:ST X a tA):SW X (.BoolOp .And [a] pos) tA:=⟨zl ha.h⟩
theorem tw (h:SW X e tA):ST X e tA:=⟨h.h.pt⟩
theorem nt (ha:ST X a tA):ST X (.UnaryOp .Not a pos) (GK tA):=⟨C8 ha.h⟩
theorem lJ (h:SE X e te)(he:∀whole,isTrue e X.env whole=(do let v ← whole; standAt e.pos; holding [v] (truthy v)):=by intro _; rfl):ST X e (tB te):=⟨C9 h.h he⟩
theorem ix (hr:SX X r)(ha:SE X a ta)(hb:SE X b tb)(hs:pk b:=by exact fun _ _=>rfl):SE X (.Subscript a b pos) (AD r ta tb):=⟨F7 hr.h ha.h hb.h hs⟩
theorem a7 {KK:Sw}(hK:X.K=KK:=by first | exact aW | rfl):SX X (Gj KK):=by
 subst hK
 exact ⟨yw⟩
theorem bo {KK:Sw}(hK:X.K=KK:=by first | exact aW | rfl):SX X (Gk KK):=by
 subst hK
 exact ⟨BG⟩
theorem l8 (hu:X.A.units + 1 < cLine)(ho:SE X a ta)(hi:SE X b tb)(hs:AI b:=by exact fun _ _=>rfl):SE X (.Subscript a b pos) (Av ta tb):=⟨yZ hu ho.h hi.h hs⟩
theorem oS {KK:Sw}{p2:Pos}(ha:SE X a ta)(hb:SE X b tb)(hK:X.K=KK:=by first | exact aW | rfl):SE X (.Subscript a (.Slice none (some b) none p2) pos) (GO (zm KK) ta iw (kD tb)):=by
 subst hK
 exact ⟨fK lC ha.h lp (fL hb.h)⟩
theorem n:SA X [] Dq:=⟨an⟩
theorem k (ha:SE X e te)(hr:SA X es t)(hs:bg e:=by first | exact fI | exact ef | exact ee | exact oE | exact gG | exact vE | exact vD | exact vC | exact Ab | exact FL | exact FN | exact yC | exact pW) :
   SA X (e :: es) (wZ te t):=⟨ac ha.h hr.h hs⟩
theorem tup {x1}(h:SA X es t):SE X (.Tuple es x1 pos) (Dr t):=⟨LH h.h⟩
theorem lst (h:SA X es t):SE X (.List es pos) (Dp t):=⟨LF h.h⟩
theorem aR {x:Str}{p:Pos}{id:String}{rr:List V->Hp->VK->Prop}(hc:SC X (.builtin id) rr)(hg:Gl X x)(hm:X.mg x=none)(hv:TH x=some (.builtin id))(ha:SA X (e :: es) t)(hn:x≠"__name__":=by decide)(hdb:(x == ("__debug__":Str))=false:=by decide) :
   SE X (.Call (.Name x p) (e :: es) [] pos) (D3 rr t):=⟨Dv hc.h hg hm hv ha.h hn hdb⟩
theorem cG {x:Str}{p:Pos}{T:String}{rr:List V->Hp->VK->Prop}(hc:SC X (.type T) rr)(hg:Gl X x)(hm:X.mg x=none)(hv:TH x=some (.type T))(ha:SA X (e :: es) t)(hn:x≠"__name__":=by decide)(hdb:(x == ("__debug__":Str))=false:=by decide) :
   SE X (.Call (.Name x p) (e :: es) [] pos) (D3 rr t):=⟨Dw hc.h hg hm hv ha.h hn hdb⟩
theorem own {x:Str}{p:Pos}{ps:List Str}{kk:Nat}{sp:Sp}(D:TW.aP X.prog X.w X.K X.mg X.base x ps kk sp)(hr:b5 kk X.A)(hg:Gl X x)(ha:SA X (e :: es) t)(hdb:(x == ("__debug__":Str))=false:=by decide) :
   SE X (.Call (.Name x p) (e :: es) [] pos) (wY sp [] E0 t):=⟨LG D hr hg ha.h hdb⟩
theorem G2 {KK:Sw}{name:Str}{apos:Pos}{T id:String}{rr:V->List V->Hp->VK->Prop}(pa:PlainAttrs T)(slot:Slot T name id)(hty:typeOf (.builtin id)=pure (.type "method_descriptor"))(hm:SM X id rr)(ho:SE X o ta)(ha:SA X [e] t)
   (hbase:TU o name X.env (eval o X.env)=eval o X.env:=by rfl) (hline:(apos.endLine == pos.line)=true:=by rfl) (hK:X.K=KK:=by first | exact aW | rfl):SE X (.Call (.Attribute o name apos) [e] [] pos) (Au KK T rr ta t):=by
 subst hK
 exact ⟨LD pa slot hty hm.h ho.h ha.h hbase hline⟩
theorem append {KK:Sw}{apos:Pos}(ho:SE X o ta)(ha:SA X [e] t)(hbase:TU o "append" X.env (eval o X.env)=eval o X.env:=by rfl)(hline:(apos.endLine == pos.line)=true:=by rfl)(hK:X.K=KK:=by first | exact aW | rfl):SE X (.Call (.Attribute o "append" apos) [e] [] pos) (Au KK "list" qb ta t):=by
 subst hK
 exact G2 Ud PySem.F.slot_list_append PySem.F.type_list_append ⟨kg⟩ ho ha hbase hline
theorem Ge {KK:Sw}{apos:Pos}(ho:SE X o ta)(ha:SA X [e] t)(hbase:TU o "pop" X.env (eval o X.env)=eval o X.env:=by rfl)(hline:(apos.endLine == pos.line)=true:=by rfl)(hK:X.K=KK:=by first | exact aW | rfl):SE X (.Call (.Attribute o "pop" apos) [e] [] pos) (Au KK "list" wa ta t):=by
 subst hK
 exact G2 Ud PySem.F.slot_list_pop PySem.F.type_list_pop ⟨vk⟩ ho ha hbase hline
theorem bL {KK:Sw}(hK:X.K=KK:=by first | exact aW | rfl):SC X (.builtin "len") (fun xs H Q=>∃p ys,xs=[.ref p]/\(aq KK H p ys\/aF KK H p ys)/\Q (.int ys.length) H):=by
 subst hK
 exact ⟨kJ⟩
theorem dG {KK:Sw}(hK:X.K=KK:=by first | exact aW | rfl):SC X (.type "list") (fun xs H Q=>∃p ys,xs=[.ref p]/\(aq KK H p ys\/aF KK H p ys)/\∀l,H l=none->Q (.ref l) (upd H l (.lst ys))):=by
 subst hK
 exact ⟨kK⟩
theorem AX {KK:Sw}(hc:X.calm=true:=by rfl)(hK:X.K=KK:=by first | exact aW | rfl):SC X (.type "dict") (qc KK):=by
 subst hK
 exact ⟨gT hc⟩
theorem pD:SC X (.type "int") (fun xs H Q=>(∃i,xs=[.int i]/\Q (.int i) H)\/∃k,xs=[.bl k]/\Q (.int (if k then 1 else 0)) H):=⟨qF⟩
theorem iG {KK:Sw}(hK:X.K=KK:=by first | exact aW | rfl):SC X (.builtin "isinstance") (fun xs H Q=>∃x n t b,xs=[x,.ty n]/\dm KK H x t/\U8 KK t (.type n)=some b/\Q (.bl b) H):=by
 subst hK
 exact ⟨tN⟩
theorem gn (i:Nat){x:Str}(hN:X.N.Nodup)(hi:X.N[i]? = some x:=by rfl)(hx:Loc X.env.scope x:=by first | exact Or.inl rfl | exact Or.inr rfl)(hf:X.fn x=true\/X.env.scope.names.lookup x=some .local:=by first | exact .inl rfl | exact .inr rfl):SG X (.Name x pos) (dJ i):=⟨y9 hN hi hx hf⟩
theorem gY:G1 X [] ED:=⟨za⟩
theorem bZ {t:TG}{u:xk}(h1:SG X e t)(h2:G1 X es u)(hs:(assignEach (e :: es) X.env).map (·.2)=assign e X.env :: (assignEach es X.env).map (·.2):=by rfl):G1 X (e :: es) (zP t u):=⟨v3 h1.h h2.h hs⟩
theorem cF {KK:Sw}{kk:Nat}{t:xk}(m:Nat)(h:G1 X es t)(hc:X.calm=true:=by rfl)(hn:(assignEach es X.env).length=m:=by rfl)(hst:(assignEach es X.env).findIdx? (·.1)=none:=by rfl)(hK:X.K=KK:=by first | exact aW | rfl):SG X (.Tuple es kk pos) (EF KK m t):=by
 subst hK
 exact ⟨CT hc h.h hn hst⟩
theorem iL {KK:Sw}{tg:Expr}(h:SE X a ta)(hK:X.K=KK:=by first | exact aW | rfl):SI X tg a (zW KK ta):=by
 subst hK
 exact ⟨zc h.h⟩
theorem iT {KK:Sw}{tg:Expr}(h:SE X a ta)(hK:X.K=KK:=by first | exact aW | rfl):SI X tg a (FD KK ta):=by
 subst hK
 exact ⟨CU h.h⟩
theorem iR {tg:Expr}{p:Pos}(hg:Gl X "range")(hm:X.mg "range"=none)(ha:SA X [a] t):SI X tg (.Call (.Name "range" p) [a] [] pos) (vd t):=⟨zE hg hm ha.h⟩
theorem iZ {KK:Sw}{p tp:Pos}{elts:List Expr}{x1:Nat}(hg:Gl X "zip")(hm:X.mg "zip"=none)(ha:SA X [a,b] t)(hb:bg b:=by first | exact ef | exact gG | exact ee)(hK:X.K=KK:=by first | exact aW | rfl):SI X (.Tuple elts x1 tp) (.Call (.Name "zip" p) [a,b] [] pos) (BC KK t):=by
 subst hK
 exact ⟨LI hg hm ha.h hb⟩
theorem gD:AL X [] Dn:=⟨Ll⟩
theorem if1 (h:ST X a tA):AL X [a] tA:=⟨Lm h.h⟩
theorem lc {tg iter elt:Expr}{ifs:List Expr}{sc:Scope}{wi:TI}{g:TG}{tifs:TT}(src:List (Option Nat))(N':List Str)(S:ar sc X.env.scope)(hcap:bw sc src N' X.N=true)(hi:SI X tg iter wi)
   (hb:∀s H C fp xe,SG (bX X N' sc s H C fp xe) tg g/\AL (bX X N' sc s H C fp xe) ifs tifs/\SE (bX X N' sc s H C fp xe) elt te) (hc:X.calm=true:=by rfl)
   (hs:∀x,Tc iter X.env x=pure x:=by intro _; rfl):SE X (.ListComp elt [⟨tg,iter,ifs,0⟩] sc pos) (cn src (.lst []) wi g tifs (bK te)):=
 ⟨F8 src N' hc S hcap hi.h (fun s H C fp xe=>⟨(hb s H C fp xe).1.h,(hb s H C fp xe).2.1.h,(hb s H C fp xe).2.2.h⟩) hs⟩
theorem Aq {tg iter elt:Expr}{ifs:List Expr}{sc:Scope}{wi:TI}{g:TG}{tifs:TT}{i:Nat}{x:Str}{pos' ck:Pos}(src:List (Option Nat))(N':List Str)(S:ar sc X.env.scope)(hcap:bw sc src N' X.N=true)(hi:SI X tg iter wi)
   (hb:∀s H C fp xe,SG (bX X N' sc s H C fp xe) tg g/\AL (bX X N' sc s H C fp xe) ifs tifs/\SE (bX X N' sc s H C fp xe) elt te) (hN:X.N.Nodup) (hix:X.N[i]? = some x:=by rfl) (hx:Loc X.env.scope x:=by exact Or.inl rfl)
   (hsw:Ul (.ListComp elt [⟨tg,iter,ifs,0⟩] sc pos) (some (.Name x pos')) ck.line X.env=pure true:=by rfl) (hc:X.calm=true:=by rfl)
   (hs:∀x,Tc iter X.env x=pure x:=by intro _; rfl) (hf:X.fn x=true\/X.env.scope.names.lookup x=some .local:=by first | exact .inl rfl | exact .inr rfl) :
   SS X (.Assign [.Name x pos'] (.ListComp elt [⟨tg,iter,ifs,0⟩] sc pos) ck) (jG (cn src (.lst []) wi g tifs (bK te)) (dJ i)):=
 ⟨Gg src N' hc S hcap hi.h (fun s H C fp xe=>⟨(hb s H C fp xe).1.h,(hb s H C fp xe).2.1.h,(hb s H C fp xe).2.2.h⟩) hN hix hx hsw hs hf⟩
theorem Of {tg iter kx vx:Expr}{ifs:List Expr}{sc:Scope}{wi:TI}{g:TG}{tifs:TT}{tk tv:TE}(src:List (Option Nat))(N':List Str)(hu:X.A.units + 1 < cLine)(S:ar sc X.env.scope)(hcap:bw sc src N' X.N=true)(hi:SI X tg iter wi)
   (hb:∀s H C fp xe,SG (bX X N' sc s H C fp xe) tg g/\AL (bX X N' sc s H C fp xe) ifs tifs/\SE (bX X N' sc s H C fp xe) kx tk/\SE (bX X N' sc s H C fp xe) vx tv) (hc:X.calm=true:=by rfl)
   (hs:∀x,Tc iter X.env x=pure x:=by intro _; rfl):SE X (.DictComp kx vx [⟨tg,iter,ifs,0⟩] sc pos) (cn src (.dT []) wi g tifs (yz tk tv)):=
 ⟨CC src N' hu hc S hcap hi.h (fun s H C fp xe=>⟨(hb s H C fp xe).1.h,(hb s H C fp xe).2.1.h,(hb s H C fp xe).2.2.1.h,(hb s H C fp xe).2.2.2.h⟩) hs⟩
variable {st:Stmt}{rest:List Stmt}{u1 u2:TS}
theorem nil:SL X [] AA:=⟨zi⟩
theorem cons (h1:SS X st u1)(h2:SL X rest u2):SL X (st :: rest) (gM u1 u2):=⟨v8 h1.h h2.h⟩
theorem one (h1:SS X st u1):SL X [st] u1:=⟨zj h1.h⟩
theorem never:SL X rest xc:=⟨r6⟩
theorem ret (he:SE X e te):SS X (.Return (some e) pos) (GN te):=⟨C5 he.h⟩
theorem ex (he:SE X e te)(hs:Ul e none pos.line X.env=pure false:=by rfl):SS X (.Expr e pos) (Aw te):=⟨zg he.h hs⟩
theorem ifs {tc:TT}{x y:List Stmt}(hc:ST X c tc)(ha:SL X x u1)(hb:SL X y u2):SS X (.If c x y pos) (GJ tc u1 u2):=⟨Gf hc.h ha.h hb.h⟩
theorem set (i:Nat){x:Str}{pos':Pos}(hN:X.N.Nodup)(he:SE X e te)(hi:X.N[i]? = some x:=by rfl)(hx:Loc X.env.scope x:=by first | exact Or.inl rfl | exact Or.inr rfl)(hs:Ul e (some (.Name x pos')) pos.line X.env=pure false:=by rfl)(hf:X.fn x=true\/X.env.scope.names.lookup x=some .local:=by first | exact .inl rfl | exact .inr rfl) :
   SS X (.Assign [.Name x pos'] e pos) (jG te (dJ i)):=⟨C6 hN hi hx he.h hs hf⟩
theorem asg {tg:Expr}{g:TG}(he:SE X e te)(hg:SG X tg g)(hs:VI [tg] e pos.line X.env=pure false:=by rfl)(hw:VJ [tg] e X.env=pure none:=by rfl)
   (h1:(assignEach [tg] X.env).map (·.2)=[assign tg X.env]:=by rfl):SS X (.Assign [tg] e pos) (jG te g):=⟨CY he.h hg.h hs hw h1⟩
theorem cT {tg iter:Expr}{body:List Stmt}{wi:TI}{g:TG}(hi:SI X tg iter wi)(hg:SG X tg g)(hb:SL X body u1)(hp:PassesOwn (model X.prog X.w) X.A X.env X.xe:=by exact PassesOwn.never)(hc:X.calm=true:=by rfl)
   (hs:∀x,Tc iter X.env x=pure x:=by intro _; rfl):SS X (.For tg iter body [] pos) (GI wi g u1):=⟨C0 hp hc hi.h hg.h hb.h hs⟩
theorem run {ss:List Stmt}{u:TS}(h:SL X ss u):nr X ss u:=h.h
end
end L3
namespace L3
open PySem PySem.Spec PyProof.Rows L2
section
variable {X:Cx}{a b c e o:Expr}{es:List Expr}{ta tb tc te:TE}{t:TA}{tA uB:TT}{pos:Pos}{r:R2}
theorem neg (ha:SE X a ta):SE X (.UnaryOp .USub a pos) (NC (rU fun i=>.int (-i)) ta):=⟨Gb Dt ha.h⟩
theorem M5 (ha:SE X a ta):SE X (.UnaryOp .Not a pos) (AB ta):=⟨CH ha.h⟩
theorem pq {rest:List Expr}(ha:SE X a ta)(hb:SE X (.BoolOp .And (b :: rest) pos) tb):SE X (.BoolOp .And (a :: b :: rest) pos) (As ta tb):=⟨CA ha.h hb.h⟩
theorem Lh {rest:List Expr}(ha:SE X a ta)(hb:SE X (.BoolOp .Or (b :: rest) pos) tb):SE X (.BoolOp .Or (a :: b :: rest) pos) (GL ta tb):=⟨Ga ha.h hb.h⟩
theorem vN {op}(ha:SE X a ta):SE X (.BoolOp op [a] pos) ta:=⟨CJ ha.h⟩
theorem QF (hc:ST X c tA)(ha:SE X a ta)(hb:SE X b tb):SE X (.IfExp c a b pos) (Nz tA ta tb):=⟨vZ hc.h ha.h hb.h⟩
theorem EM {x:Str}{p:Pos}(ho:SE X a ta)(hi:SE X (.Name x p) tb):SG X (.Subscript a (.Name x p) pos) (EE ta tb Ai):=⟨CQ ho.h hi.h set_list (fun _=>rfl)⟩
end
end L3
namespace L2
open PySem PySem.Spec PyProof.Rows
end L2
namespace L3
open PySem PySem.Spec PyProof.Rows L2
end L3
namespace PySem
open Sem (wp)
end PySem
namespace PySem
end PySem
namespace L2
open PySem PySem.Spec PyProof.Rows
end L2
namespace L3
open PySem PySem.Spec PyProof.Rows L2
end L3
namespace L2
open PySem PySem.Spec PyProof.Rows
end L2
namespace L3
open PySem PySem.Spec PyProof.Rows L2
section
variable {X:Cx}{a b c e o:Expr}{es:List Expr}{ta tb tc te:TE}{t:TA}{pos:Pos}
theorem extend {apos:Pos}{KK:Sw}(ho:SE X o ta)(ha:SA X [e] t)(hbase:TU o "extend" X.env (eval o X.env)=eval o X.env:=by rfl)(hline:(apos.endLine == pos.line)=true:=by rfl)(hK:X.K=KK:=by first | exact aW | rfl) :
   SE X (.Call (.Attribute o "extend" apos) [e] [] pos) (Au KK "list" qd ta t):=by
 subst hK
 exact G2 Ud PySem.F.slot_list_extend PySem.F.type_list_extend ⟨rJ⟩ ho ha hbase hline
theorem Es {f:Expr}{tf:TE}{apos:Pos}(hu:X.A.units + 1 < cLine)(ho:SE X o ta)(he:SE X e te)(hf:SE X f tf)(m:M2 X o "get" apos e f pos:=by exact ⟨rfl,rfl,rfl,rfl⟩):SE X (.Call (.Attribute o "get" apos) [e,f] [] pos) (w6 ta te tf):=⟨vW hu ho.h he.h hf.h m⟩
end
end L3
namespace L2
open PySem PySem.Spec PyProof.Rows
end L2
namespace L3
open PySem PySem.Spec PyProof.Rows L2
section
variable {X:Cx}{a b c e o:Expr}{es:List Expr}{ta tb tc te:TE}{t:TA}{pos pos':Pos}{P:Program}{w:World}
theorem pE {KK:Sw}(hK:X.K=KK:=by first | exact aW | rfl):SC X (.type "tuple") (fun xs H Q=>∃p ys,xs=[.ref p]/\aq KK H p ys/\∀l,H l=none->Q (.ref l) (upd H l (.tup ys))):=by
 subst hK
 refine ⟨fun pins s σ H xs us Q I r h=>?_⟩
 obtain ⟨p,ys,e,hq,q⟩:=h
 exact jt pins s σ H xs us Q I r ⟨p,ys,e,.inl ⟨hq,q⟩⟩
end
end L3
namespace L2
open PySem PySem.Spec PyProof.Rows
theorem yD {a b p}:bg (.Dict a b p):=dR fun _ _ z=>nomatch z
def nh (ta:TA):TE:=fun σ H Q=>ta σ H fun vs H1=>∃n:Nat,vs=[.int n]/\n<=100000/\∀l,H1 l=none->Q (.ref l) (upd H1 l (.lst ((S5 n).map fun i:Nat=>V.int i)))
section
variable {X:Cx}{a b:Expr}{ta:TA}{tx ty:TE}{p1 p2 pos ck:Pos}
theorem oM (hc:X.calm=true)(hg1:Gl X "list")(hm1:X.mg "list"=none)(hg2:Gl X "range")(hm2:X.mg "range"=none)(ha:nG X [a] ta)(hv1:TH "list"=some (.type "list"):=by first | rfl | decide +kernel) :
   PE X (.Call (.Name "list" p1) [.Call (.Name "range" p2) [a] [] ck] [] pos) (nh ta):=by
 intro pins s σ H Q I h
 refine wpAny_Call_Name_kw (df I hg1 hm1 hv1 ?_ (by decide) (by decide))
 refine Tr ?_ rfl rfl
 show wpAny _ _ (spliced ((false,eval (.Call (.Name "range" p2) [a] [] ck) X.env) :: [])) _ _ s
 refine UO (wpAny_Call_Name_kw (df I hg2 hm2 boot_range ?_ (by decide) (by decide)))
 refine Tr (bf (ha.pa ck pins s σ H _ I h) fun us s1 ⟨vs,H1,I1,r1,q1⟩=>?_) ((ha.ns a [] rfl).1.h [] X.env) ((ha.ns a [] rfl).2 ck X.env)
 obtain ⟨n,e,hn,q⟩:=q1
 subst e
 obtain ⟨u,rfl,ru⟩:=vals1 r1
 obtain ⟨t,rfl⟩:=ru
 refine call_range_1 ?_
 refine Vx ?_
 have I2:Inv X pins σ H1 { s1 with heap:=s1.heap.push { cls:=.type "range",data:=.fields #[.int 0 s1.toks,.int n t,.int 1 (s1.toks + 1)] },toks:=s1.toks + 1 + 1 }:=I1.kept (t':=s1.toks + 1 + 1) fun b o e=>SN _ e
 have sz:UJ 0 n 1=(n:Int):=by
   unfold UJ
   rw [if_pos (by decide)]
   by_cases z:(0:Int) < n
   · rw [if_pos z,VH]
     omega
   · rw [if_neg z]
     omega
 have sm:Builtin.Range.small 0 n 1=true:=by
   exact small_one (by omega) (by omega) (by omega) (by omega)
 refine call_list_range (n:=n) (I2.ok.hd hc) (Tb _ rfl) sm sz (S3 hn (by decide)) fun h' tk acc c' hk hS EX=>?_
 refine ⟨V.ref (s1.heap.push { cls:=.type "range",data:=.fields #[.int 0 s1.toks,.int n t,.int 1 (s1.toks + 1)] }).objs.size,_,I2.laid (a:=(s1.heap.push { cls:=.type "range",data:=.fields #[.int 0 s1.toks,.int n t,.int 1 (s1.toks + 1)] }).objs.size) (o:=.lst ((S5 n).map fun i:Nat=>V.int i)) (t':=tk) hk (Sz _) ⟨by rw [Sv,Tn]; exact S3 hn (by decide),acc.toList,c',?_,by simpa using hS⟩,rfl,q _ (I2.hok.fresh (Sz _))⟩
 have go:∀(l:List Value) (m:Nat),(∀j v,l[j]? = some v->∃t,v=UU ((m + j:Nat):Int) t)->Vals ((List.range' m l.length).map fun i:Nat=>V.int i) l:=by
   intro l
   induction l with
   | nil=>intro m _; exact .nil
   | cons v r ih=>
     intro m hl
     obtain ⟨t,e⟩:=hl 0 v rfl
     refine .cons ⟨t,e⟩ (ih (m + 1) fun j v hj=>?_)
     obtain ⟨t,e⟩:=hl (j + 1) v hj
     exact ⟨t,by rw [e,show m + 1 + j=m + (j + 1) by omega]⟩
 have z:=go acc.toList 0 fun j v hj=>by
   obtain ⟨t,e⟩:=EX.2 j v (by rw [← Wh]; exact hj)
   exact ⟨t,by rw [e,show (0:Int) + (j:Int) * 1=((0 + j:Nat):Int) by omega]⟩
 rw [UK,EX.1,← List.range_eq_range'] at z
 exact z
end
end L2
namespace L3
open PySem PySem.Spec PyProof.Rows L2
section
variable {X:Cx}{a b c e o:Expr}{es:List Expr}{ta tb tc te:TE}{t:TA}{pos:Pos}
theorem yx {p1 p2 ck:Pos}(hg1:Gl X "list")(hm1:X.mg "list"=none)(hg2:Gl X "range")(hm2:X.mg "range"=none)(ha:SA X [a] t)(hc:X.calm=true:=by rfl):SE X (.Call (.Name "list" p1) [.Call (.Name "range" p2) [a] [] ck] [] pos) (nh t):=⟨oM hc hg1 hm1 hg2 hm2 ha.h⟩
theorem wQ {KK:Sw}{p2:Pos}(ha:SE X a ta)(hb:SE X b tb)(hK:X.K=KK:=by first | exact aW | rfl):SE X (.Subscript a (.Slice (some b) none none p2) pos) (GO (zm KK) ta (kD tb) iw):=by
 subst hK
 exact ⟨fK lC ha.h (fL hb.h) lp⟩
end
end L3
namespace TW
end TW
namespace L2
open PySem PySem.Spec PyProof.Rows
end L2
namespace L3
open PySem PySem.Spec PyProof.Rows L2
end L3
namespace L2
open PySem PySem.Spec PyProof.Rows SeqAt
end L2
namespace L3
open PySem PySem.Spec PyProof.Rows L2
theorem FO {X:Cx}:SO X (binaryOp .Mult) Gm:=⟨Cu⟩
end L3
namespace L2
open PySem PySem.Spec PyProof.Rows
end L2
namespace L2
open PySem PySem.Spec PyProof.Rows PySem.W PySem.Builtin PySem.Builtin.ObjectAttr PySem.Builtin.Getset_descriptor
section
variable {M:Model}{A:Around}{E:Value->Shared->Prop}{s:Shared}{nm q:Str}{C N:Addr}{bs bm:List Value}{Py:Bool}{sn:List Str}{sub:List Value}{ab:Bool}{col:Option Bool}{dd:Option Addr}{k0 k1 k2 k3 k5:Option Value}{newId:String}
 {R3 q':Str} {T N':Addr} {bs' Ry:List Value} {Mu:Bool} {Sb:List Str} {Rg:List Value} {Ru:Bool} {Ob:Option Bool} {qQ:Option Addr} {j0 j1 j2 j3 j5:Option Value} {KW:String}
end
end L2
namespace L2
open PySem PySem.Spec PyProof.Rows
end L2
namespace TW
open PySem L2
end TW
namespace L3
open PySem PySem.Spec PyProof.Rows L2
end L3
namespace L2
open PySem PySem.Spec PyProof.Rows
end L2
namespace L3
open PySem PySem.Spec PyProof.Rows L2
end L3
namespace L2
open PySem PySem.Spec PyProof.Rows
section
variable {X:Cx}{a:Expr}{ta:TA}{p1 p2 pos ck:Pos}
def qf:V->List V->Hp->VK->Prop:=fun x vs H Q=>∃l xs y i,x=.ref l/\vs=[.int i,y]/\H l=some (.lst xs)/\0<=i/\i<=(xs.length:Int)/\xs.length < 1000/\Q .non (upd H l (.lst (xs.take i.toNat++y :: xs.drop i.toNat)))
theorem rL:GZ X "list.insert" qf:=by
 intro pins s σ H x vs v us Q I rx rv h
 obtain ⟨l,xs,y,i,rfl,rfl,hH,h0,hk,hz,q⟩:=h
 cases rx
 obtain ⟨u1,u,rfl,⟨tk,rfl⟩,ru⟩:=Vals.two rv
 obtain ⟨z,its,n,r,hl,e⟩:=I.mM hH
 have hlen:=r.length
 have fits:¬(!Uj i)=true:=by
   have:Uj i=true:=by
     unfold Uj
     simp
     omega
   simp [this]
 have few:its.toArray.size<=sizeLine:=by rw [SY]; exact S3 (show _<=1000 by omega) (by decide)
 refine call_meets F.slot_list_insert ⟨_,e,rfl⟩ F.entry_list_insert (F.args_list_insert_3 _ _ _) (PySem.AutoSeq1.list_insert_list_int_val_1 l its.toArray n i tk u fits few) ⟨e,?_⟩
 refine ⟨.non,_,I.yy (its':=its.take i.toNat++u :: its.drop i.toNat) hH e ?_ ((r.take i.toNat).append (.cons ru (r.drop i.toNat))) ?_,rfl,q⟩
 · have e1:(if i < 0 then (i + (its.toArray.size:Int)).toNat else min i.toNat its.toArray.size)=i.toNat:=by
     rw [if_neg (by omega),SY]
     omega
   dsimp only
   rw [e1]
   apply Array.ext'
   simp
   exact Tf (by rw [To]; exact Sz _)
 · rw [Sy,Th,SH,To]
   exact S3 (show _<=1000 by omega) (by decide)
end
end L2
namespace L3
open PySem PySem.Spec PyProof.Rows L2
section
variable {X:Cx}{a b c e o:Expr}{es:List Expr}{ta tb tc te:TE}{t:TA}{pos:Pos}
theorem insert {apos:Pos}{KK:Sw}{e1 e2:Expr}(ho:SE X o ta)(ha:SA X [e1,e2] t)(hn:bg e2:=by first | exact fI | exact ef | exact ee | exact gG)(hbase:TU o "insert" X.env (eval o X.env)=eval o X.env:=by rfl)(hline:(apos.endLine == pos.line)=true:=by rfl)(hK:X.K=KK:=by first | exact aW | rfl) :
   SE X (.Call (.Attribute o "insert" apos) [e1,e2] [] pos) (Au KK "list" qf ta t):=by
 subst hK
 exact ⟨Af Ud PySem.F.slot_list_insert PySem.F.type_list_insert rL ho.h ha.h.pa hbase (by rw [(ha.h.ns e1 [e2] rfl).1.h [e2] X.env,hn.h [] X.env]; rfl) hline ((ha.h.ns e1 [e2] rfl).1.h [e2] X.env) ((ha.h.ns e1 [e2] rfl).2 pos X.env)⟩
end
end L3
namespace L2
open PySem PySem.Spec PyProof.Rows
structure fY (P:Program)(w:World)(A:Around)(e:Expr)(tg iter:Expr)(ifs:List Expr)(gs:List Comprehension)(emit:Addr->Env->Sem Unit):Prop where
 cl:clausesOf e=⟨tg,iter,ifs,0⟩ :: gs
 turn:∀it D env,compTurn e 0 (.ref it) (.ref D) env=jq tg iter.pos ifs (.ref it) env (emit D env) (again (.compLoop e 0 (.ref it) (.ref D) env))
 start:∀(R:Result->Shared->Prop) (s:Shared) (it acc:Value) (env:Env),codeAny (model P w) A (.compLoop e 0 it acc env) R s ->
   wpAny (model P w) A (pyIter it) (fun BF s'=>codeAny (model P w) A (.compLoop e 0 BF acc env) R s') (notedBy (model P w) A env fun x s'=>R (.error x) s') s->codeAny (model P w) A (.compStart e 0 it acc env) R s
 quiet:∀it acc env,(Uz e 0 it acc env).quiet=true
 under:∀it acc env,A.under (.compLoop e 0 it acc env)=A
 frame:∀it acc env,(Uz e 0 it acc env).isFrame=false
section
variable {X:Cx}{e tg iter:Expr}{ifs:List Expr}{emit:Addr->Env->Sem Unit}{sc:Scope}{pos:Pos}{wi:TI}{N':List Str}{src:List (Option Nat)}{g:TG}{tifs:TT}{tm:Addr->TM}{newAcc:Sem Value}{ob:Obj}{accO:HO}{gs:List Comprehension}
theorem qL {use:Option (Value->Sem Unit)}{Q':Value->Shared->Prop}(K:fY X.prog X.w X.A e tg iter ifs gs emit)(hc:X.calm=true)(S:ar sc X.env.scope)(hcap:bw sc src N' X.N=true)(hi:PI X tg iter wi)
   (hb:∀s H C fp xe D,PG (bX X N' sc s H C fp xe) tg g/\eQ (bX X N' sc s H C fp xe) ifs tifs/\xF (bX X N' sc s H C fp xe) (emit D (bX X N' sc s H C fp xe).env) (tm D)) (N:eP X newAcc ob accO)
   (hs:∀x,Tc iter X.env x=pure x)
   {pins:List (Addr×Obj)} {s:Shared} {σ:St} {H:Hp} {Q:VK} (I:Inv X pins σ H s) (h:cn src accO wi g tifs tm σ H Q)
   (hQ:∀(C D:Addr) (H':Hp) (s':Shared),Inv X pins σ H' s'->Q (.ref D) H'->H' C=none->(∃m,s'.heap.Ns C m)->(∀(σ1:St) (H1:Hp) (s1:Shared) (h':Heap),Inv X pins σ1 H1 s1->H1 C=none->Um C s1.heap h'->Inv X pins σ1 H1 { s1 with heap:=h' }) ->
     (C≠X.env.locals/\∀x c,X.env.cells.lookup x=some c->c≠C)->compPost (model X.prog X.w) X.A X.xe use Q' (.ref D) C (.ok .next) s') :
   wpAny (model X.prog X.w) X.A (comprehension e sc X.env pos newAcc false (eval iter X.env) use) Q' X.xe s:=by
 refine wpAny_comprehension_free (g:=⟨tg,iter,ifs,0⟩) (gs:=gs) K.cl hs (iI fun p hp hf=>I.ok.has p.1 (S.free p hp hf)) S.kind S.names ?_
 refine bf (hi pins s σ H _ I h) fun v s1 h1=>bf h1 fun itv s2 h2=>?_
 obtain ⟨it,fp,tn,J,H2,e1,I2,T,xB,f2,q2⟩:=h2
 subst e1
 refine N.new s2 _ _ ?_
 have hD:H2 s2.heap.objs.size=none:=I2.hok.fresh (Sz _)
 have E6:∀b o,s2.heap.get? b=some o->(s2.heap.push ob).get? b=some o:=fun b o e=>SN _ e
 have I3:Inv X pins σ (upd H2 s2.heap.objs.size accO) { s2 with heap:=s2.heap.push ob }:=I2.laid (t':=s2.toks) E6 (Sz _) (N.ok pins σ H2 s2 I2)
 have r9:tn 0 (s2.heap.push ob):=T.keep _ _ _ xB fun b _ o e=>E6 b o e
 have BY:∀b∈fp,∃o,(s2.heap.push ob).get? b=some o:=fun b hb=>let ⟨o,e,_⟩:=T.obj _ _ r9 b hb; ⟨o,e⟩
 have f3:∀b∈fp,cS X pins (upd H2 s2.heap.objs.size accO) b:=fun b hb=>by
   refine ⟨?_,(f2 b hb).2⟩
   obtain ⟨o,e,_⟩:=T.obj _ _ xB b hb
   rw [aj (Td (SU e))]
   exact (f2 b hb).1
 have qq:=q2 s2.heap.objs.size hD
 generalize Kf:({ s2 with heap:=s2.heap.push ob }:Shared)=s3 at I3 ⊢
 have JA:s2.heap.push ob=s3.heap:=by rw [← Kf]
 rw [JA] at r9 BY
 generalize s2.heap.objs.size=D at I3 f3 qq hD ⊢
 refine wpAny_newFunctionEnv S.cell (by intro y hy; simp at hy) (fun h₁ hns By=>?_) S.kind
 have Bo:h₁.Ns s3.heap.objs.size (fun _=>none):=hns
 have E7:∀b o,s3.heap.get? b=some o->h₁.get? b=some o:=fun b o e=>By.extBut b o (Td (SU e)) (SN _ e)
 let R:Result->Shared->Prop:=compPost (model X.prog X.w) X.A X.xe use Q' (.ref D) s3.heap.objs.size
 let X':Cx:=bX X N' sc s3 (upd H2 D accO) s3.heap.objs.size fp (notedBy (model X.prog X.w) X.A (compEnvC sc (dH sc X.env) s3.heap.objs.size X.env) fun e s'=>R (.error e) s')
 have I4:Inv X' [] (capσ src σ) (upd H2 D accO) { s3 with heap:=h₁,toks:=s3.toks + ([]:List (Str×Value)).length }:=iJ I3 S hcap f3 BY Bo E7
 have GF:tn 0 h₁:=T.keep _ _ _ r9 fun b _ o e=>E7 b o e
 obtain ⟨hg,hif,hm⟩:=hb s3 (upd H2 D accO) s3.heap.objs.size fp (notedBy (model X.prog X.w) X.A (compEnvC sc (dH sc X.env) s3.heap.objs.size X.env) fun e s'=>R (.error e) s') D
 have f4:∀b∈fp,cS X' [] (upd H2 D accO) b:=fun b hb=>by
   obtain ⟨g0,g1,g2,g3,g4,g5⟩:=f3 b hb
   refine ⟨g0,?_,?_,.inl hb,fun x c e=>?_,fun p hp=>absurd (show p∈([]:List (Addr×Obj)) from hp) (by simp)⟩
   · obtain ⟨o,e⟩:=BY b hb
     exact Td (SU e)
   · intro z
     rcases List.mem_cons.mp (I3.jo b z) with y | y
     · exact g1 y
     · exact g2 y
   · exact g4 x c (kL (Tx e)).2
 have Ez:cS X pins (upd H2 D accO) s3.heap.objs.size:=I3.jv (Sz _) (I3.hok.fresh (Sz _))
 have loop:∀s4:Shared,s4={ s3 with heap:=h₁,toks:=s3.toks + ([]:List (Str×Value)).length }->codeAny (model X.prog X.w) X.A (.compLoop e 0 (.ref it) (.ref D) X'.env) R s4:=by
   rintro s4 rfl
   refine f6 (X:=X') (Z:=fun H'=>Q (.ref D) H') rfl (K.turn it D X'.env) (K.quiet _ _ _) (K.under _ _ _) (K.frame _ _ _) hc T hg hif hm f4 I4 GF (fun H' s' I' _ z=>?_) qq
   refine hQ s3.heap.objs.size D H' s' (iK I3 f3 I') z I'.free (pH I') (fun σ1 H1 s1 h' I1 n1 Bx=>jP I3 I1 n1 Bx) ⟨Ez.2.1,fun x c e=>Ez.2.2.2.2.1 x c e⟩
 exact K.start R _ (.ref it) (.ref D) X'.env (loop _ rfl) (T.self X.A 0 _ _ _ GF (loop _ rfl))
theorem v7 {i:Nat}{x:Str}{pos' ck:Pos}(K:fY X.prog X.w X.A e tg iter ifs gs emit)(hc:X.calm=true)(S:ar sc X.env.scope)(hcap:bw sc src N' X.N=true)(hi:PI X tg iter wi)
   (hb:∀s H C fp xe D,PG (bX X N' sc s H C fp xe) tg g/\eQ (bX X N' sc s H C fp xe) ifs tifs/\xF (bX X N' sc s H C fp xe) (emit D (bX X N' sc s H C fp xe).env) (tm D)) (N:eP X newAcc ob accO)
   (hs:∀x,Tc iter X.env x=pure x) (he:∀u,evalThenUse e X.env u=(do let _ ← comprehension e sc X.env pos newAcc false (eval iter X.env) (some u)))
   (hN:X.N.Nodup) (hix:X.N[i]? = some x) (hx:Loc X.env.scope x) (hsw:Ul e (some (.Name x pos')) ck.line X.env=pure true)
   (hf:X.fn x=true\/X.env.scope.names.lookup x=some .local:=by first | exact .inl rfl | exact .inr rfl | assumption) :
   PS X (.Assign [.Name x pos'] e ck) (jG (cn src accO wi g tifs tm) (dJ i)):=by
 intro pins s σ H D0 I h
 rw [exec_Assign_Name_used x pos' e ck hsw,he]
 refine wpAny_bind (wpAny_standAt (wpAny_bind (wpAny_bind ?_)))
 refine qL (use:=some (assign (.Name x pos') X.env)) (Q:=fun v H'=>D0.nx (σ.set i (some v)) H') (Q':=fun _ s'=>wpAny _ _ _ _ _ s') K hc S hcap hi hb N hs I h fun C D H' s' I' q hn ⟨m,hm⟩ gone ⟨IU,hCc⟩=>?_
 refine VU (gL (v:=.ref D) I' hN hix hx rfl (fun s2 I2 hch=>?_) hf)
 obtain ⟨a,By,ha⟩:=hch
 have uS:C≠a:=by
   rcases ha with z | z
   · rw [z]; exact IU
   · exact (hCc x a z).symm
 refine ⟨m,hm.sameBut By uS,fun h' sU=>?_⟩
 exact wpAny_pure (wpAny_pure ⟨_,H',gone _ H' s2 h' I2 hn sU,q⟩)
end
theorem Inv.GU {X:Cx}{pins:List (Addr×Obj)}{σ:St}{H:Hp}{s:Shared}(I:Inv X pins σ H s)(xe:Value->Shared->Prop):Inv { X with xe:=xe } pins σ H s where
 ok:=⟨I.ok.mod,I.ok.kind,I.ok.glob,I.ok.blt,I.ok.above,I.ok.inj,I.ok.has,I.ok.cab,I.ok.hd,I.ok.frames,I.ok.stk,I.ok.exf,I.ok.bs,I.ok.bsz,I.ok.noex,I.ok.exfs,I.ok.f9,I.ok.frf⟩
 os:=I.os
 bare:=I.bare
 base:=I.base
 loc:=I.loc
 cell:=I.cell
 free:=I.free
 freeC:=I.freeC
 pin:=I.pin
 hok:=I.hok
 len:=I.len
theorem m8 {P:Program}{w:World}{A:Around}{R:Result->Shared->Prop}{s:Shared}{elt tg iter iy aX:Expr}{ifs de:List Expr}{sc:Scope}{pos:Pos}{it acc:Value}{env:Env}
   (h0:codeAny (model P w) A (.compLoop (.ListComp elt [⟨tg,iter,ifs,0⟩,⟨iy,aX,de,0⟩] sc pos) 1 it acc env) R s)
   (h:wpAny (model P w) A (pyIter it) (fun BF s'=>codeAny (model P w) A (.compLoop (.ListComp elt [⟨tg,iter,ifs,0⟩,⟨iy,aX,de,0⟩] sc pos) 1 BF acc env) R s') (notedBy (model P w) A env fun x s'=>R (.error x) s') s) :
   codeAny (model P w) A (.compStart (.ListComp elt [⟨tg,iter,ifs,0⟩,⟨iy,aX,de,0⟩] sc pos) 1 it acc env) R s:=by
 refine codeAny_of_tree ?_
 show wpAny _ _ ((compStart (.ListComp elt [⟨tg,iter,ifs,0⟩,⟨iy,aX,de,0⟩] sc pos) 1 it acc env).onRaise (fun x=>do noteFrame x env; standAt theWindowsPlace)) _ _ s
 refine wpAny_notedAt ?_
 unfold compStart
 show wpAny _ _ (ask >>= _) _ _ s
 refine wpAny_bind (wpAny_askSetting (wpAny_ite ?_))
 split
 · first
     | exact wpAny_bind (wpAny_pure (wpAny_pure (WA rfl h0)))
     | exact wpAny_pure (WA rfl h0)
 · first
     | exact wpAny_bind (wpAny_rule (wpAny_bind (wpAny_standAt (wpAny_bind (wpAny_mono h (fun BF s' h'=>wpAny_pure (WA rfl h')) fun _ _ x=>x)))))
     | (refine wpAny_bind (wpAny_rule ?_); show wpAny _ _ (standAt aX.pos >>= _) _ _ s; exact wpAny_bind (wpAny_standAt (wpAny_bind (wpAny_mono h (fun BF s' h'=>wpAny_pure (WA rfl h')) fun _ _ x=>x))))
def pN (e aX:Expr)(D:Addr)(env:Env):Sem Unit:=do
 let x ← eval aX env
 standAt aX.pos
 let x ← Tc aX env x
 let _ ← runOwn (.compStart e 1 (← holding [x] (pyIter x)) (.ref D) env) env
def pT (wi2:TI)(g2:TG)(tifs2:TT)(tm:TM):TM:=fun σ H Q=>wi2 σ H fun J H1=>eO J σ g2 tifs2 tm Q H1
theorem Gd {X:Cx}{elt tg iter iy aX:Expr}{ifs de:List Expr}{sc:Scope}{pos:Pos}{wi2:TI}{g2:TG}{tifs2:TT}{te:TE}(hc:X.calm=true)(hi:PI X iy aX wi2)
   (hin:∀xe,PG { X with xe:=xe } iy g2/\eQ { X with xe:=xe } de tifs2/\PE { X with xe:=xe } elt te) (hs:∀x,Tc aX X.env x=pure x) (D:Addr) :
   xF X (pN (.ListComp elt [⟨tg,iter,ifs,0⟩,⟨iy,aX,de,0⟩] sc pos) aX D X.env) (pT wi2 g2 tifs2 (bK te D)):=by
 intro pins s σ H Q I q
 unfold pN
 refine wpAny_bind (bf (hi pins s σ H _ I q) fun v s1 h1=>?_)
 refine wpAny_bind (wpAny_standAt (wpAny_bind (wpAny_of_eq (hs v) (wpAny_bind (wpAny_holding (bf h1 fun itv s2 h2=>?_))))))
 obtain ⟨it,fp,tn,J,H2,e1,I2,T,xB,f2,q2⟩:=h2
 subst e1
 let R:Result->Shared->Prop:=fun r s'=>match r with
   | .ok f=>wpAny (model X.prog X.w) X.A (pure ():Sem Unit) (fun _ s'=>∃H',Inv X pins σ H' s'/\Q H') X.xe s'
   | .error e=>cameBackBy (model X.prog X.w) X.A X.env X.xe e s'
 let X2:Cx:={ X with xe:=notedBy (model X.prog X.w) X.A X.env fun e s'=>R (.error e) s' }
 have loop:codeAny (model X.prog X.w) X.A (.compLoop (.ListComp elt [⟨tg,iter,ifs,0⟩,⟨iy,aX,de,0⟩] sc pos) 1 (.ref it) (.ref D) X.env) R s2:=by
   obtain ⟨hg,hif,he⟩:=hin (notedBy (model X.prog X.w) X.A X.env fun e s'=>R (.error e) s')
   exact f6 (X:=X2) (R:=R) (Z:=Q) (cont:=do let _ ← call (.builtin "list.append") [.ref D,← eval elt X.env]) (tg:=iy) (ipos:=aX.pos) (ifs:=de) rfl rfl rfl rfl rfl hc T hg hif (oO (X:=X2) he D) f2 (I2.GU _) xB (fun H' s' I' _ z=>wpAny_pure ⟨H',I'.GU X.xe,z⟩) q2
 refine wpAny_bind (wpAny_runOwn (env:=X.env) ?_)
 exact codeAny_mono (m8 (R:=R) loop (T.self X.A 0 _ _ _ xB loop)) fun r s' hr=>by
   cases r with
   | ok f=>exact hr
   | error e=>exact hr
theorem tP {P:Program}{w:World}{A:Around}{elt tg iter iy aX:Expr}{ifs de:List Expr}{sc:Scope}{pos:Pos} :
   fY P w A (.ListComp elt [⟨tg,iter,ifs,0⟩,⟨iy,aX,de,0⟩] sc pos) tg iter ifs [⟨iy,aX,de,0⟩] (pN (.ListComp elt [⟨tg,iter,ifs,0⟩,⟨iy,aX,de,0⟩] sc pos) aX) where
 cl:=rfl
 turn:=fun it D env=>by
   unfold jq pN
   simp only [bind_assoc,pure_bind]
   rfl
 start:=fun R s it acc env h0 h=>codeAny_compStart_list h0 h
 quiet:=fun _ _ _=>rfl
 under:=fun _ _ _=>rfl
 frame:=fun _ _ _=>rfl
section
variable {X:Cx}{elt tg iter iy aX:Expr}{ifs de:List Expr}{sc:Scope}{pos:Pos}{wi wi2:TI}{N':List Str}{src:List (Option Nat)}{g g2:TG}{tifs tifs2:TT}{te:TE}
theorem C4 {i:Nat}{x:Str}{pos' ck:Pos}(src:List (Option Nat))(N':List Str)(hc:X.calm=true)(S:ar sc X.env.scope)(hcap:bw sc src N' X.N=true)(hi:PI X tg iter wi)
   (hb:∀s H C fp xe,PG (bX X N' sc s H C fp xe) tg g/\eQ (bX X N' sc s H C fp xe) ifs tifs/\PI (bX X N' sc s H C fp xe) iy aX wi2/\PG (bX X N' sc s H C fp xe) iy g2/\eQ (bX X N' sc s H C fp xe) de tifs2/\PE (bX X N' sc s H C fp xe) elt te)
   (hN:X.N.Nodup) (hix:X.N[i]? = some x) (hx:Loc X.env.scope x) (hsw:Ul (.ListComp elt [⟨tg,iter,ifs,0⟩,⟨iy,aX,de,0⟩] sc pos) (some (.Name x pos')) ck.line X.env=pure true:=by rfl)
   (hs:∀x,Tc iter X.env x=pure x:=by intro _; rfl) (hs2:∀env x,Tc aX env x=pure x:=by intro _ _; rfl) (hf:X.fn x=true\/X.env.scope.names.lookup x=some .local:=by first | exact .inl rfl | exact .inr rfl | assumption) :
   PS X (.Assign [.Name x pos'] (.ListComp elt [⟨tg,iter,ifs,0⟩,⟨iy,aX,de,0⟩] sc pos) ck) (jG (cn src (.lst []) wi g tifs (fun D=>pT wi2 g2 tifs2 (bK te D))) (dJ i)):=
 v7 tP hc S hcap hi (fun s H C fp xe D=>⟨(hb s H C fp xe).1,(hb s H C fp xe).2.1,Gd (X:=bX X N' sc s H C fp xe) hc (hb s H C fp xe).2.2.1 (fun Rr=>(hb s H C fp Rr).2.2.2) (hs2 _) D⟩) iD hs (fun _=>rfl) hN hix hx hsw hf
end
end L2
namespace L3
open PySem PySem.Spec PyProof.Rows L2
section
variable {X:Cx}{elt tg iter iy aX:Expr}{ifs de:List Expr}{sc:Scope}{pos:Pos}{wi wi2:TI}{g g2:TG}{tifs tifs2:TT}{te:TE}
theorem Lu {i:Nat}{x:Str}{pos' ck:Pos}(src:List (Option Nat))(N':List Str)(S:ar sc X.env.scope)(hcap:bw sc src N' X.N=true)(hi:SI X tg iter wi)
   (hb:∀s H C fp xe,SG (bX X N' sc s H C fp xe) tg g/\AL (bX X N' sc s H C fp xe) ifs tifs/\SI (bX X N' sc s H C fp xe) iy aX wi2/\SG (bX X N' sc s H C fp xe) iy g2/\AL (bX X N' sc s H C fp xe) de tifs2/\SE (bX X N' sc s H C fp xe) elt te) (hN:X.N.Nodup) (hix:X.N[i]? = some x:=by rfl) (hx:Loc X.env.scope x:=by exact Or.inl rfl)
   (hsw:Ul (.ListComp elt [⟨tg,iter,ifs,0⟩,⟨iy,aX,de,0⟩] sc pos) (some (.Name x pos')) ck.line X.env=pure true:=by rfl) (hc:X.calm=true:=by rfl)
   (hs:∀x,Tc iter X.env x=pure x:=by intro _; rfl) (hs2:∀env x,Tc aX env x=pure x:=by intro _ _; rfl) (hf:X.fn x=true\/X.env.scope.names.lookup x=some .local:=by first | exact .inl rfl | exact .inr rfl) :
   SS X (.Assign [.Name x pos'] (.ListComp elt [⟨tg,iter,ifs,0⟩,⟨iy,aX,de,0⟩] sc pos) ck) (jG (cn src (.lst []) wi g tifs (fun D=>pT wi2 g2 tifs2 (bK te D))) (dJ i)):=
 ⟨C4 src N' hc S hcap hi.h (fun s H C fp xe=>⟨(hb s H C fp xe).1.h,(hb s H C fp xe).2.1.h,(hb s H C fp xe).2.2.1.h,(hb s H C fp xe).2.2.2.1.h,(hb s H C fp xe).2.2.2.2.1.h,(hb s H C fp xe).2.2.2.2.2.h⟩) hN hix hx hsw hs hs2 hf⟩
end
end L3
namespace L2
open PySem PySem.Spec PyProof.Rows
theorem mm {α β:Type}{f g:α->Option β}:∀{l:List α},(∀x∈l,f x=g x)->l.filterMap f=l.filterMap g
 | [],_=>rfl
 | x :: r,h=>by rw [T2,T2,h x TV,mm fun y hy=>h y (List.mem_cons.mpr (.inr hy))]
theorem jF (its:List Value):Vp its.toArray none none (some (-1))=its.reverse.toArray:=by
 have hb:sliceBounds none none (some (-1)) its.toArray.size=(((its.length:Nat):Int) - 1,-1,-1):=by
   simp [sliceBounds]
 have hr:sliceRange (((its.length:Nat):Int) - 1) (-1) (-1)=(S5 its.length).map fun k=>its.length - 1 - k:=by
   unfold sliceRange
   have h1:¬ ((-1:Int) > 0):=by decide
   simp only [h1,if_false]
   have hc:(if ((its.length:Nat):Int) - 1 > -1 then (((its.length:Nat):Int) - 1 - -1 - -1 - 1) / (- -1) else 0).toNat=its.length:=by
     simp only [Int.neg_neg,VH]
     split <;> omega
   rw [hc]
   refine Vm fun k hk=>?_
   have:=List.mem_range.mp hk
   omega
 unfold Vp
 rw [hb]
 show ((sliceRange (((its.length:Nat):Int) - 1) (-1) (-1)).filterMap (its.toArray[·]?)).toArray=_
 rw [hr,Vt]
 have e:(S5 its.length).filterMap ((fun x=>its.toArray[x]?) ∘ fun k=>its.length - 1 - k)=((S5 its.length).map (0 + ·)).filterMap (its.reverse.toArray[·]?):=by
   rw [Vt]
   refine mm fun k hk=>?_
   have JF:=List.mem_range.mp hk
   show its.toArray[its.length - 1 - k]? = its.reverse.toArray[0 + k]?
   rw [Nat.zero_add,Wk,Wk,List.getElem?_reverse JF]
 rw [e,pick_run,Vk,Tf (by simp)]
end L2
namespace L3
open PySem PySem.Spec PyProof.Rows L2
end L3
namespace TW
end TW
namespace L3
open PySem PySem.Spec PyProof.Rows L2
section
variable {X:Cx}{a b o i value:Expr}{ta tb td ty tv:TE}{pos:Pos}
theorem GC {KK:Sw}{p2:Pos}(ha:SE X a ta)(hb:SE X b tb)(hK:X.K=KK:=by first | exact aW | rfl):SE X (.Subscript a (.Slice none (some b) none p2) pos) (GO (Gn KK) ta iw (kD tb)):=by
 subst hK
 exact ⟨fK Dk ha.h lp (fL hb.h)⟩
theorem dput {pos':Pos}(hu:X.A.units + 1 < cLine)(ho:SE X o td)(hi:SE X i ty)(hv:SE X value tv)(hs:Ul value (some (.Subscript o i pos')) pos.line X.env=pure false:=by rfl):SS X (.Assign [.Subscript o i pos'] value pos) (Al td ty tv):=⟨zf hu ho.h hi.h hv.h hs⟩
end
end L3
namespace L2
open PySem PySem.Spec PyProof.Rows
theorem slicePick_all (its:List Value):Vp its.toArray none none (some 1)=its.toArray:=by
 have hb:sliceBounds none none (some 1) its.toArray.size=(0,(its.length:Int),1):=by
   simp [sliceBounds]
 have hr:sliceRange 0 (its.length:Int) 1=(S5 its.length).map (0 + ·):=by
   unfold sliceRange
   have h1:((1:Int) > 0):=by decide
   simp only [h1,if_true]
   have hc:(if (its.length:Int) > 0 then ((its.length:Int) - 0 + 1 - 1) / 1 else 0).toNat=its.length:=by
     simp only [VH]
     split <;> omega
   rw [hc]
   refine Vm fun k hk=>?_
   have:=List.mem_range.mp hk
   omega
 unfold Vp
 rw [hb]
 show ((sliceRange 0 (its.length:Int) 1).filterMap (its.toArray[·]?)).toArray=_
 rw [hr,pick_run,Vk,Tf (by simp)]
def cR (n:Int)(xs:List V):List V:=if n=1 then xs else xs.reverse
theorem sg {n:Int}{xs:List V}:(cR n xs).length=xs.length:=by unfold cR; split <;> simp
def AF (K:Sw)(te HZ:TE):TE:=fun σ H Q=>te σ H fun x H1=>HZ σ H1 fun y H2=>∃n,y=.int n/\(n=1\/n = -1)/\∃a xs,x=.ref a/\aq K H2 a xs/\∀p,H2 p=none->Q (.ref p) (upd H2 p (.lst (cR n xs)))
theorem y8 {X:Cx}{e st:Expr}{te HZ:TE}{p2 pos:Pos}(he:PE X e te)(hst:PE X st HZ):PE X (.Subscript e (.Slice none none (some st) p2) pos) (AF X.K te HZ):=by
 intro pins s σ H Q I h
 refine Subscript_ (bf (he pins s σ H _ I h) fun v s1 ⟨x,H1,I1,r1,q1⟩=>?_)
 refine wpAny_Slice ?_
 rw [evalPart_none]
 refine wpAny_pure (wpAny_pure ?_)
 rw [evalPart_some]
 refine bf (hst pins s1 σ H1 _ I1 q1) fun vs s3 ⟨y,H3,I3,ry,n,hy,hn,a,xs,hx,hs,q⟩=>?_
 subst hy hx
 obtain ⟨t,rfl⟩:=ry
 cases r1
 have I4:Inv X pins σ H3 { s3 with heap:=s3.heap.push { cls:=.type "slice",data:=.fields #[.none,.none,.int n t] } }:=I3.kept (t':=s3.toks) fun b ob q=>SN _ q
 obtain ⟨its,r,ht,hz⟩:=I4.list hs
 have hlen:=r.length
 show wpAny (model X.prog X.w) X.A (subscriptTail e (.Slice none none (some st) p2) (.ref a) (.ref s3.heap.objs.size)) (EP X pins σ Q) X.xe { s3 with heap:=s3.heap.push { cls:=.type "slice",data:=.fields #[.none,.none,.int n t] } }
 refine tail_any (ops:=[.ref a,.ref s3.heap.objs.size]) ht.isList.typeIs slot_list_getitem.lookup ?_ (by with_unfolding_all rfl)
 refine wpAny_getItem_list_slice ht.isList (VM ..) .none .none (.int n t) (by rcases hn with rfl | rfl <;> simp) ?_ (by rw [SY] <;> omega)
 have key:∃dO:List Value,Vp its.toArray none none (some n)=dO.toArray/\Vals (cR n xs) dO:=by
   rcases hn with rfl | rfl
   · exact ⟨its,slicePick_all its,r⟩
   · exact ⟨its.reverse,jF its,r.reverse⟩
 obtain ⟨dO,e2,r2⟩:=key
 rw [e2]
 refine ⟨.ref (s3.heap.push { cls:=.type "slice",data:=.fields #[.none,.none,.int n t] }).objs.size,_,I4.laid (t':=s3.toks) (o:=.lst (cR n xs)) (fun b ob q=>SN _ q) (Sz _) ?_,rfl,q _ (I4.hok.fresh (Sz _))⟩
 exact ⟨by rw [sg]; exact hz,_,0,r2,Tb _ rfl⟩
def Ah:R2:=fun x y H Q=>∃a b:Str,x=.str a/\y=.str b/\a.length + b.length<=sizeLine/\Q (.str (a++b)) H
theorem yO {X:Cx}:gO X (binaryOp .Add) Ah:=by
 intro pins s σ H x y u v Q I rx ry h
 obtain ⟨a,b,rfl,rfl,hl,q⟩:=h
 obtain ⟨t,rfl⟩:=rx
 obtain ⟨t2,rfl⟩:=ry
 exact PyProof.Rows.add_str (fun t' tk=>⟨.str (a++b),H,I.tok _,⟨_,rfl⟩,q⟩) hl
def qe (K:Sw):V->List V->Hp->VK->Prop:=fun x vs H Q=>∃(l:Addr) (xs:List Int) (y:Int) (j:Nat),x=.ref l/\vs=[.int y]/\aq K H l (xs.map V.int)/\xs[j]? = some y/\(∀m,m < j->xs[m]? ≠ some y)/\xs.length<=1000/\Q (.int j) H
theorem pR:∀{xs:List Int} {its:List Value} {i:Nat} {a:Value},Vals (xs.map V.int) its->its[i]? = some a->∃t,a=.int (xs.getD i 0) t
 | [],_,_,_,.nil,h=>by simp at h
 | x :: xs,_,0,a,.cons r _,h=>by
   obtain ⟨t,e⟩:=r
   simp at h
   subst h
   exact ⟨t,e⟩
 | x :: xs,_,i + 1,a,.cons _ q,h=>by
   obtain ⟨t,e⟩:=pR (i:=i) q (by simpa using h)
   exact ⟨t,by simpa using e⟩
theorem rK {X:Cx}:G0 X "list.index" (qe X.K):=by
 intro pins s σ H x vs v us Q I rx rv h
 obtain ⟨l,xs,y,j,rfl,rfl,hq,hj,xu,Mi,q⟩:=h
 cases rx
 obtain ⟨u,rfl,ru⟩:=rv.one
 obtain ⟨its,rl,pl,hz⟩:=I.list hq
 have hlen:=rl.length
 rw [Sv] at hlen
 have DP:j < xs.length:=(List.getElem?_eq_some_iff.mp hj).1
 obtain ⟨o,ho,xt,n,hd⟩:=pl.isList
 obtain ⟨oc,od,R5,osl⟩:=o
 simp only at xt hd
 subst xt
 subst hd
 have tx:∀m (hm:m < its.toArray.size),∃t,its.toArray[m]=UU (xs[m]'(by simp at hm; omega)) t:=fun m hm=>by
   have Fd:m < xs.length:=by simp at hm; omega
   obtain ⟨t,e⟩:=pR (xs:=xs) (i:=m) rl (show its[m]? = some (its.toArray[m]) by simp at hm ⊢)
   refine ⟨t,e.trans ?_⟩
   rw [Ta,Sx Fd]
   rfl
 let e:Value->Bool:=fun a=>match a with | .int z _=>decide (z=y) | _=>false
 refine call_meets F.slot_list_index ⟨_,ho,rfl⟩ F.entry_list_index (F.args_list_index_2 _ _) (SeqAt.list_indexAt l its.toArray n od osl u e j (by simp; omega) (by omega) ?hit ?no) ⟨ho,?eqs,?fin⟩
 case hit=>
   obtain ⟨t,et⟩:=tx j (by simp; omega)
   rw [et]
   show decide (_=y)=true
   rw [(List.getElem?_eq_some_iff.mp hj).2]
   simp
 case no=>
   intro m hm P5
   obtain ⟨t,et⟩:=tx m hm
   rw [et]
   show decide (_=y)=false
   have Fd:m < xs.length:=by simp at hm; omega
   have:=xu m P5
   rw [Sx Fd] at this
   simpa using this
 case eqs=>
   intro a ha
   obtain ⟨m,hm,em⟩:=Array.getElem_of_mem ha
   obtain ⟨t,et⟩:=tx m hm
   rw [em] at et
   have r1:RelV (V.int (xs[m]'(by simp at hm; omega))) a:=⟨t,et⟩
   have h1:=nO (A:=X.A.in1) (s:=s) r1 ru rfl rfl
   have h2:jT (V.int (xs[m]'(by simp at hm; omega))) (.int y)=e a:=by
     rw [et]
     show decide (xs[m]'(by simp at hm; omega)=y)=decide (_=y)
     rfl
   rw [h2] at h1
   exact h1
 case fin=>exact ⟨.int j,H,I.tok _,⟨_,rfl⟩,q⟩
end L2
namespace L3
open PySem PySem.Spec PyProof.Rows L2
section
variable {X:Cx}{a b c e o:Expr}{es:List Expr}{ta tb tc te:TE}{t:TA}{pos:Pos}
theorem wR {KK:Sw}{p2 pos:Pos}(ha:SE X a ta)(hb:SE X b tb)(hK:X.K=KK:=by first | exact aW | rfl):SE X (.Subscript a (.Slice none none (some b) p2) pos) (AF KK ta tb):=by
 subst hK
 exact ⟨y8 ha.h hb.h⟩
theorem Ap {KK:Sw}{p2:Pos}(ha:SE X a ta)(hb:SE X b tb)(hc:SE X c tc)(hK:X.K=KK:=by first | exact aW | rfl):SE X (.Subscript a (.Slice (some b) (some c) none p2) pos) (GO (zm KK) ta (kD tb) (kD tc)):=by
 subst hK
 exact ⟨fK lC ha.h (fL hb.h) (fL hc.h)⟩
theorem BV:SO X (binaryOp .Add) Ah:=⟨yO⟩
theorem Et:SE X (.Dict [] [] pos) w9:=⟨vX⟩
theorem mh:SE X (.Dict [] [] pos) xb:=⟨vY⟩
theorem QE {tg:Expr}{p:Pos}(hg:Gl X "range")(hm:X.mg "range"=none)(ha:SA X [a,b] t)(hb:bg b:=by first | exact ef | exact gG | exact ee | exact fI | exact oE):SI X tg (.Call (.Name "range" p) [a,b] [] pos) (zX t):=
 ⟨rX hg hm ha.h.pa (by rw [(ha.h.ns a [b] rfl).1.h [b] X.env,hb.h [] X.env]; rfl) (by rw [hb.h [] X.env]; rfl)⟩
theorem ou {apos:Pos}{KK:Sw}(ho:SE X o ta)(ha:SA X [e] t)(hbase:TU o "index" X.env (eval o X.env)=eval o X.env:=by rfl)(hline:(apos.endLine == pos.line)=true:=by rfl)(hK:X.K=KK:=by first | exact aW | rfl) :
   SE X (.Call (.Attribute o "index" apos) [e] [] pos) (Au KK "list" (qe KK) ta t):=by
 subst hK
 exact G2 Ud PySem.F.slot_list_index PySem.F.type_list_index ⟨rK⟩ ho ha hbase hline
end
end L3
namespace L2
open PySem PySem.Spec PyProof.Rows
end L2
namespace L3
open PySem PySem.Spec PyProof.Rows L2
end L3
namespace PySem
open Sem (wp)
end PySem
namespace PySem
open Sem (wp)
open AutoSeq1 (wpAny_loadPart')
end PySem
namespace L2
open PySem PySem.Spec PyProof.Rows
end L2
namespace L3
open PySem PySem.Spec PyProof.Rows L2
end L3
namespace L2
open PySem PySem.Spec PyProof.Rows
section
variable {X:Cx}{pos:Pos}
def AE (i j:Nat)(ta:TA):TS:=fun D σ H=>ta σ H fun vs H1=>∃u v,vs=[u,v]/\D.nx ((σ.set i (some u)).set j (some v)) H1
theorem zh {i j:Nat}{x y:Str}{a b:Expr}{ta:TA}{px py pt:Pos}{kt k2 C7}(hc:X.calm=true)(hN:X.N.Nodup)(hi:X.N[i]? = some x)(hj:X.N[j]? = some y)(hij:i≠j)
   (hx:X.env.scope.names.lookup x=some .local) (hy:X.env.scope.names.lookup y=some .local) (ha:PA X [a,b] ta)
   (hw:VJ [.Tuple [.Name x px,.Name y py] kt pt] (.Tuple [a,b] k2 C7) X.env=pure (some [x,y]))
   (hs:VI [.Tuple [.Name x px,.Name y py] kt pt] (.Tuple [a,b] k2 C7) pos.line X.env=pure false:=by rfl) :
   PS X (.Assign [.Tuple [.Name x px,.Name y py] kt pt] (.Tuple [a,b] k2 C7) pos) (AE i j ta):=by
 intro pins s σ H D I h
 rw [exec_Assign_arm]
 refine wpAny_bind (wpAny_standAt ?_)
 rw [hs]
 refine wpAny_bind (wpAny_pure ?_)
 rw [if_neg (by decide)]
 refine wpAny_bind (Tuple_ (bf (ha _ pins s σ H _ I h) fun us s1 ⟨vs,H1,I1,r1,q1⟩=>?_))
 obtain ⟨u,v,e1,q1⟩:=q1
 subst e1
 obtain ⟨u1,u2,rfl,ru,rv⟩:=Vals.two r1
 refine wpAny_newObj_type ?_ YB
 have I2:Inv X pins σ H1 { s1 with heap:=s1.heap.push { cls:=.type "tuple",data:=.seq [u1,u2].toArray } }:=I1.kept (t':=s1.toks) fun b o e=>SN _ e
 rw [hw]
 refine wpAny_bind (wpAny_pure ?_)
 show wpAny (model X.prog X.w) X.A (do rule "assign.swapped-stores"; let items ← unpackItems (.ref s1.heap.objs.size) 2 none; assignInOrder [fun v=>bindName X.env y v,fun v=>bindName X.env x v] items.reverse; pure Flow.next) _ _ _
 refine wpAny_bind (wpAny_rule (wpAny_bind (unpackItems_tuple (items:=#[u1,u2]) (I.ok.hd hc) (IsTup.new s1.heap _) fun h' DV=>?_)))
 have I3:=I2.kept (h':=h') (t':=s1.toks) fun b o e=>DV b o (Td (SU e)) e
 show wpAny _ _ (assignInOrder [fun v=>bindName X.env y v,fun v=>bindName X.env x v] [u2,u1] >>= fun _=>pure Flow.next) _ _ _
 refine wpAny_bind (assignInOrder_cons (wpAny_bindName (fU I3 hN hj (.inl hy) rv (fun s2 I4=>?_) (.inr hy))))
 refine assignInOrder_cons (wpAny_bindName (fU I4 hN hi (.inl hx) ru (fun s3 I5=>assignInOrder_nil (wpAny_pure ?_)) (.inr hx)))
 rw [List.set_comm _ _ hij.symm] at I5
 exact ⟨_,H1,I5,q1⟩
end
end L2
namespace L3
open PySem PySem.Spec PyProof.Rows L2
section
variable {X:Cx}{a b c e o:Expr}{es:List Expr}{ta tb tc te:TE}{t:TA}{pos:Pos}
theorem Cz (i j:Nat){x y:Str}{px py pt:Pos}{kt k2 C7}(hN:X.N.Nodup)(ha:SA X [a,b] t)(hi:X.N[i]? = some x:=by rfl)(hj:X.N[j]? = some y:=by rfl)(hij:i≠j:=by decide)
   (hx:X.env.scope.names.lookup x=some .local:=by rfl) (hy:X.env.scope.names.lookup y=some .local:=by rfl)
   (hw:VJ [.Tuple [.Name x px,.Name y py] kt pt] (.Tuple [a,b] k2 C7) X.env=pure (some [x,y]):=by rfl)
   (hs:VI [.Tuple [.Name x px,.Name y py] kt pt] (.Tuple [a,b] k2 C7) pos.line X.env=pure false:=by rfl) (hc:X.calm=true:=by rfl) :
   SS X (.Assign [.Tuple [.Name x px,.Name y py] kt pt] (.Tuple [a,b] k2 C7) pos) (AE i j t):=⟨zh hc hN hi hj hij hx hy ha.h.pa hw hs⟩
theorem Eh (hc:X.calm=true:=by rfl):SC X (.builtin "max") (fun xs H Q=>∃i j,xs=[.int i,.int j]/\Q (.int (if j > i then j else i)) H):=⟨qG hc⟩
end
end L3
namespace TW
end TW
namespace L2
open PySem PySem.Spec PyProof.Rows SeqAt
end L2
namespace L3
open PySem PySem.Spec PyProof.Rows L2
end L3
namespace TW
end TW
namespace TW
end TW
namespace L2
open PySem PySem.Spec PyProof.Rows
section
variable {X:Cx}
theorem iF:∀{bs:List Bool} {us:List Value},Vals (bs.map V.bl) us->us=bs.map T8
 | [],_,.nil=>rfl
 | b :: bs,_,.cons r q=>by
   cases r
   rw [iF q]
   rfl
theorem qD (hc:X.calm=true):cO X (.builtin "all") (fun xs H Q=>∃(l:Addr) (bs:List Bool),xs=[.ref l]/\aq X.K H l (bs.map V.bl)/\Q (.bl (bs.all id)) H):=by
 intro pins s σ H xs us Q I r h
 obtain ⟨l,bs,rfl,hq,q⟩:=h
 obtain ⟨u,rfl,ru⟩:=vals1 r
 obtain rfl:u=Tq l:=ru
 obtain ⟨its,rv,pl,_⟩:=I.list hq
 have e1:=iF rv
 subst e1
 have hl:=pl.isList
 have gv:l < s.heap.objs.size:=by obtain ⟨_,e,_⟩:=hl; exact SU e
 refine call_all_walk (wpAny_pyIter_list hl ?_)
 refine ⟨_,_,_,_,_,_,fun i=>bs.getD i true,rfl,Walks.list (A:=X.A.in1) (show X.A.in1.handled=none from I.ok.hd hc) s.heap.objs.size l (Td gv) (bs.map T8).toArray,⟨⟨_,Tb _ rfl,rfl,rfl⟩,hl.push _⟩,?_,fun h' tk hk=>?_⟩
 · intro i v s' Q' E' hP IY
   have hv:bs[i]?.map T8=some v:=by simpa using hP
   obtain ⟨b,hb,rfl⟩:=Option.map_eq_some_iff.mp hv
   have ER:Q' (bs.getD i true) s':=IY
   rw [Ta,hb] at ER
   exact wpAny_truthy_bool ER
 · have kk:∀b o,s.heap.get? b=some o->h'.get? b=some o:=old_kept hk
   refine ⟨.bl (bs.all id),H,I.kept kk,?_,q⟩
   have e:(S5 (bs.map T8).toArray.size).all (fun i=>bs.getD i true)=bs.all id:=by
     rw [show (bs.map T8).toArray.size=bs.length by simp]
     have key:(∀i,i < bs.length->bs.getD i true=true)↔∀b∈bs,b=true:=by
       constructor
       · intro k b hb
         obtain ⟨i,hi,e⟩:=UM hb
         have:=k i hi
         rw [Ta,Sx hi] at this
         rw [← e]
         exact this
       · intro k i hi
         rw [Ta,Sx hi]
         exact k _ (U3 hi)
     rw [T4,VG,VG]
     exact ⟨fun k b hb=>key.mp (fun i hi=>k i (List.mem_range.mpr hi)) b hb,fun k i hi=>key.mpr (fun b hb=>k b hb) i (List.mem_range.mp hi)⟩
   rw [e]
   rfl
end
end L2
namespace L3
open PySem PySem.Spec PyProof.Rows L2
theorem Ef {X:Cx}{KK:Sw}(hc:X.calm=true:=by rfl)(hK:X.K=KK:=by first | exact aW | rfl):SC X (.builtin "all") (fun xs H Q=>∃(l:Addr) (bs:List Bool),xs=[.ref l]/\aq KK H l (bs.map V.bl)/\Q (.bl (bs.all id)) H):=by
 subst hK
 exact ⟨qD hc⟩
end L3
namespace L2
open PySem PySem.Spec PyProof.Rows SeqAt
end L2
namespace TW
open PySem L2
end TW
namespace L3
open PySem L2
end L3
namespace L2
open PySem PySem.Spec PyProof.Rows SeqAt
end L2
namespace L3
open PySem PySem.Spec PyProof.Rows L2
end L3
namespace PySem
open Sem (wp)
abbrev cf (h:Heap)(T:Addr)(a b c:Value):Prop:=h.get? T=some { cls:=.type "tuple",data:=.seq #[a,b,c] }
theorem F.jH (a b c:Value):checkTypeCall "zip" ⟨[a,b,c],[]⟩ = pure ():=by kernel_rfl
theorem F.lb (a b c:Value):checkBuiltinCall "zip.__new__" ⟨[.type "zip",a,b,c],[]⟩ = pure ():=by kernel_rfl
theorem F.nK (a b c d:Value):argsOk "object.__init__" ⟨[a,b,c,d],[]⟩:=by
 unfold argsOk; rw [signature?_of (id:="object.__init__") (n:=['_','_','t','i','n','i','_','_']) (o:=['t','c','e','j','b','o']) (by kernel_rfl) F.owner_object]; kernel_rfl
structure Z3 (h:Heap)(n l1 l2 l3:Addr)(i:Nat):Prop where
 z:IsZip h (n + 5) (n + 3) (n + 4) .none
 ti:cf h (n + 3) (.ref n) (.ref (n + 1)) (.ref (n + 2))
 to:∃a b c,cf h (n + 4) a b c
 i1:h.IsListIter n l1 i
 i2:h.IsListIter (n + 1) l2 i
 i3:h.IsListIter (n + 2) l3 i
section
variable {prog:Program}{w:World}{A:Around}{E:Value->Shared->Prop}{s:Shared}{n l1 l2 l3:Nat}{i:Nat}{xs ys zs:Array Value}{x y u:Value}
theorem lK {T:Addr}{a b c v:Value}{k:Nat}{Q:Unit->Shared->Prop}(hT:cf s.heap T a b c)
   (h:∀g,g.get? T=some { cls:=.type "tuple",data:=.seq ((#[a,b,c]:Array Value).setIfInBounds k v) }->Um T s.heap g->Q () { s with heap:=g }):wpAny (model prog w) A (updateSeq T (·.setIfInBounds k v)) Q E s:=by
 refine wpAny_updateSeq hT rfl (h _ ?_ (Heap.SameBut.update ..))
 rw [Wl _ hT rfl]
 simp [Vg]
theorem sG {Q:Value->Shared->Prop}(n1:l1 < n)(n2:l2 < n)(n3:l3 < n)(Z:Z3 s.heap n l1 l2 l3 i)(h1:s.heap.IsList l1 xs)(h2:s.heap.IsList l2 ys)(h3:s.heap.IsList l3 zs)(hx:xs[i]? = some x)(hy:ys[i]? = some y)(hu:zs[i]? = some u)
   (hQ:∀g,IsZip g (n + 5) (n + 3) (n + 4) (rawInt s.heap.objs.size)->cf g (n + 4) x y u->g.IsListIter n l1 (i + 1)->g.IsListIter (n + 1) l2 (i + 1)->g.IsListIter (n + 2) l3 (i + 1)->cf g s.heap.objs.size x y u ->
     (∀c o,c ∉ ([n + 5,n + 4,n,n + 1,n + 2]:List Addr)->s.heap.get? c=some o->g.get? c=some o)->Q (.ref s.heap.objs.size) { s with heap:=g }) :
   wpAny (model prog w) A (Builtin.«zip.__next__» ⟨[.ref (n + 5)],[]⟩) (fun fin s'=>∃v,fin=.done (.ret v)/\Q v s') E s:=by
 obtain ⟨zr,ti,⟨a,b,c,to⟩,j1,j2,j3⟩:=Z
 show wpAny _ _ (field (.ref (n + 5)) 2 >>= _) _ _ _
 refine wpAny_bind (wpAny_field zr rfl (x:=.bool false) rfl ?_)
 show wpAny _ _ (field (.ref (n + 5)) 3 >>= _) _ _ _
 refine wpAny_bind (wpAny_field zr rfl (x:=.ref (n + 3)) rfl ?_)
 refine wpAny_bind (wpAny_seqItems ti rfl ?_)
 show wpAny _ _ (TR (.ref (n + 5)) >>= _) _ _ _
 refine wpAny_bind ?_
 unfold TR
 refine wpAny_bind (wpAny_field zr rfl (x:=.none) rfl (wpAny_pure ?_))
 simp only [if_true]
 refine wpAny_bind (wpAny_rule ?_)
 refine wpAny_bind (wpAny_field zr rfl (x:=.ref (n + 4)) rfl ?_)
 refine wpAny_bind (wpAny_setField_rec zr (by simp) fun g1 Dx e1=>?_)
 replace Dx:IsZip g1 (n + 5) (n + 3) (n + 4) .ellipsis:=Dx
 refine wpAny_bind ?_
 simp only [List.zipIdx_cons,List.zipIdx_nil,VS,List.forIn_nil]
 refine wpAny_bind (wpAny_bind (wpAny_onRaise ?_))
 show wpAny _ _ (Uh (.ref n) >>= _) _ _ _
 refine wpAny_bind (wpAny_nextOf_list_item (j1.extBut e1.extBut (show @Ne Nat _ _ by omega)) (h1.extBut e1.extBut (show @Ne Nat _ _ by omega)) hx fun g2 k1 e2=>wpAny_pure ?_)
 have t2:cf g2 (n + 4) a b c:=e2.extBut _ _ (show @Ne Nat _ _ by omega) (e1.extBut _ _ (show @Ne Nat _ _ by omega) to)
 refine wpAny_bind (wpAny_seqItems t2 rfl ?_)
 refine wpAny_bind (lK t2 fun g3 t3 e3=>?_)
 replace t3:cf g3 (n + 4) x b c:=t3
 refine wpAny_bind (wpAny_letGo (wpAny_pure ?_))
 have c3:∀d o,d≠n + 5->d≠n + 4->d≠n->s.heap.get? d=some o->g3.get? d=some o:=fun d o d1 d2 d3 e=>e3.extBut _ _ d2 (e2.extBut _ _ d3 (e1.extBut _ _ d1 e))
 refine wpAny_bind (wpAny_bind (wpAny_onRaise ?_))
 show wpAny _ _ (Uh (.ref (n + 1)) >>= _) _ _ _
 refine wpAny_bind (wpAny_nextOf_list_item (j2.at fun o e=>c3 _ o (show @Ne Nat _ _ by omega) (show @Ne Nat _ _ by omega) (show @Ne Nat _ _ by omega) e) (h2.at fun o e=>c3 _ o (show @Ne Nat _ _ by omega) (show @Ne Nat _ _ by omega) (show @Ne Nat _ _ by omega) e) hy fun g4 k2 e4=>wpAny_pure ?_)
 have t4:cf g4 (n + 4) x b c:=e4.extBut _ _ (show @Ne Nat _ _ by omega) t3
 refine wpAny_bind (wpAny_seqItems t4 rfl ?_)
 refine wpAny_bind (lK t4 fun g5 t5 e5=>?_)
 replace t5:cf g5 (n + 4) x y c:=t5
 refine wpAny_bind (wpAny_letGo (wpAny_pure ?_))
 have c5:∀d o,d≠n + 5->d≠n + 4->d≠n->d≠n + 1->s.heap.get? d=some o->g5.get? d=some o:=fun d o d1 d2 d3 d4 e=>e5.extBut _ _ d2 (e4.extBut _ _ d4 (c3 d o d1 d2 d3 e))
 refine wpAny_bind (wpAny_bind (wpAny_onRaise ?_))
 show wpAny _ _ (Uh (.ref (n + 2)) >>= _) _ _ _
 refine wpAny_bind (wpAny_nextOf_list_item (j3.at fun o e=>c5 _ o (show @Ne Nat _ _ by omega) (show @Ne Nat _ _ by omega) (show @Ne Nat _ _ by omega) (show @Ne Nat _ _ by omega) e) (h3.at fun o e=>c5 _ o (show @Ne Nat _ _ by omega) (show @Ne Nat _ _ by omega) (show @Ne Nat _ _ by omega) (show @Ne Nat _ _ by omega) e) hu fun g6 k3 e6=>wpAny_pure ?_)
 have t6:cf g6 (n + 4) x y c:=e6.extBut _ _ (show @Ne Nat _ _ by omega) t5
 refine wpAny_bind (wpAny_seqItems t6 rfl ?_)
 refine wpAny_bind (lK t6 fun g7 t7 e7=>?_)
 replace t7:cf g7 (n + 4) x y u:=t7
 refine wpAny_bind (wpAny_letGo (wpAny_pure (wpAny_pure ?_)))
 refine wpAny_bind (wpAny_seqItems t7 rfl ?_)
 refine wpAny_bind (wpAny_newTuple ?_)
 have sz:g7.objs.size=s.heap.objs.size:=by rw [e7.1,e6.1,e5.1,e4.1,e3.1,e2.1,e1.1]
 have NT:IsZip g7 (n + 5) (n + 3) (n + 4) .ellipsis:=e7.extBut _ _ (show @Ne Nat _ _ by omega) (e6.extBut _ _ (show @Ne Nat _ _ by omega) (e5.extBut _ _ (show @Ne Nat _ _ by omega) (e4.extBut _ _ (show @Ne Nat _ _ by omega) (e3.extBut _ _ (show @Ne Nat _ _ by omega) (e2.extBut _ _ (show @Ne Nat _ _ by omega) Dx)))))
 have c7:∀d o,d≠n + 5->d≠n + 4->d≠n->d≠n + 1->d≠n + 2->s.heap.get? d=some o->g7.get? d=some o:=fun d o d1 d2 d3 d4 d5 e=>e7.extBut _ _ d2 (e6.extBut _ _ d5 (c5 d o d1 d2 d3 d4 e))
 have m1:g7.IsListIter n l1 (i + 1):=k1.at fun o e=>e7.extBut _ _ (show @Ne Nat _ _ by omega) (e6.extBut _ _ (show @Ne Nat _ _ by omega) (e5.extBut _ _ (show @Ne Nat _ _ by omega) (e4.extBut _ _ (show @Ne Nat _ _ by omega) (e3.extBut _ _ (show @Ne Nat _ _ by omega) e))))
 have m2:g7.IsListIter (n + 1) l2 (i + 1):=k2.at fun o e=>e7.extBut _ _ (show @Ne Nat _ _ by omega) (e6.extBut _ _ (show @Ne Nat _ _ by omega) (e5.extBut _ _ (show @Ne Nat _ _ by omega) e))
 have m3:g7.IsListIter (n + 2) l3 (i + 1):=k3.at fun o e=>e7.extBut _ _ (show @Ne Nat _ _ by omega) e
 have NR:n + 5 < g7.objs.size:=SU NT
 show wpAny _ _ (UN (.ref (n + 5)) (.ref g7.objs.size) >>= _) _ _ _
 refine wpAny_bind ?_
 unfold UN
 have Rt:IsZip (g7.push { cls:=.type "tuple",data:=.seq #[x,y,u] }) (n + 5) (n + 3) (n + 4) .ellipsis:=SN _ NT
 refine wpAny_bind (wpAny_setField_rec Rt (by simp) fun g9 LM e9=>?_)
 replace LM:IsZip g9 (n + 5) (n + 3) (n + 4) (rawInt g7.objs.size):=LM
 refine wpAny_setField_rec LM (by simp) fun gA Ij eA=>?_
 replace Ij:IsZip gA (n + 5) (n + 3) (n + 4) (rawInt g7.objs.size):=Ij
 have up:∀d o,d≠n + 5->g7.get? d=some o->gA.get? d=some o:=fun d o d1 e=>eA.extBut _ _ d1 (e9.extBut _ _ d1 (SN _ e))
 have tA:cf gA g7.objs.size x y u:=eA.extBut _ _ (UR NR) (e9.extBut _ _ (UR NR) (Tb _ rfl))
 rw [sz] at Ij tA
 refine wpAny_pure ⟨_,rfl,?_⟩
 show Q (.ref g7.objs.size) _
 rw [sz]
 refine hQ gA Ij (up _ _ (show @Ne Nat _ _ by omega) t7) (m1.at fun o e=>up _ o (show @Ne Nat _ _ by omega) e) (m2.at fun o e=>up _ o (show @Ne Nat _ _ by omega) e) (m3.at fun o e=>up _ o (show @Ne Nat _ _ by omega) e) tA fun d o hd e=>?_
 simp only [Tt,Tg,or_false,not_or] at hd
 exact up d o hd.1 (c7 d o hd.1 hd.2.1 hd.2.2.1 hd.2.2.2.1 hd.2.2.2.2 e)
theorem xj {Q:Fin->Shared->Prop}(hh:A.handled=none)(n1:l1 < n)(Z:Z3 s.heap n l1 l2 l3 i)(h1:s.heap.IsList l1 xs)(hx:xs[i]? = none)
   (hE:∀g e,(∀c o,c ∉ ([n + 5,n + 4,n,n + 1,n + 2]:List Addr)->s.heap.get? c=some o->g.get? c=some o)->(∃o,g.get? e=some o/\o.cls=.type "StopIteration")->E (.ref e) { s with heap:=g }) :
   wpAny (model prog w) A (Builtin.«zip.__next__» ⟨[.ref (n + 5)],[]⟩) Q E s:=by
 obtain ⟨zr,ti,⟨a,b,c,to⟩,j1,j2,j3⟩:=Z
 show wpAny _ _ (field (.ref (n + 5)) 2 >>= _) _ _ _
 refine wpAny_bind (wpAny_field zr rfl (x:=.bool false) rfl ?_)
 show wpAny _ _ (field (.ref (n + 5)) 3 >>= _) _ _ _
 refine wpAny_bind (wpAny_field zr rfl (x:=.ref (n + 3)) rfl ?_)
 refine wpAny_bind (wpAny_seqItems ti rfl ?_)
 show wpAny _ _ (TR (.ref (n + 5)) >>= _) _ _ _
 refine wpAny_bind ?_
 unfold TR
 refine wpAny_bind (wpAny_field zr rfl (x:=.none) rfl (wpAny_pure ?_))
 simp only [if_true]
 refine wpAny_bind (wpAny_rule ?_)
 refine wpAny_bind (wpAny_field zr rfl (x:=.ref (n + 4)) rfl ?_)
 refine wpAny_bind (wpAny_setField_rec zr (by simp) fun g1 Dx e1=>?_)
 replace Dx:IsZip g1 (n + 5) (n + 3) (n + 4) .ellipsis:=Dx
 refine wpAny_bind ?_
 simp only [List.zipIdx_cons,List.zipIdx_nil,VS,List.forIn_nil]
 refine wpAny_bind (wpAny_bind (wpAny_onRaise ?_))
 show wpAny _ _ (Uh (.ref n) >>= _) _ _ _
 refine wpAny_bind (wpAny_nextOf_list_end hh (j1.extBut e1.extBut (show @Ne Nat _ _ by omega)) (h1.extBut e1.extBut (show @Ne Nat _ _ by omega)) hx fun g2 e e2 he=>?_)
 obtain ⟨oe,J5,nz⟩:=he
 have NS:IsZip g2 (n + 5) (n + 3) (n + 4) .ellipsis:=e2 _ _ (show @Ne Nat _ _ by omega) Dx
 have PC:e≠n + 5:=fun q=>by subst q; rw [NS] at J5; cases J5; simp at nz
 refine wpAny_setField_rec NS (by simp) fun g3 _ e3=>hE g3 e (fun d o hd q=>?_) ⟨oe,e3.extBut _ _ PC J5,nz⟩
 simp only [Tt,Tg,or_false,not_or] at hd
 exact e3.extBut _ _ hd.1 (e2 _ _ hd.2.2.1 (e1.extBut _ _ hd.1 q))
end
abbrev oZ (h:Heap)(l1 l2 l3:Addr):Heap:=((h.push { cls:=.type "list_iterator",data:=.fields #[.ref l1,.int 0 0] }).push { cls:=.type "list_iterator",data:=.fields #[.ref l2,.int 0 0] }).push { cls:=.type "list_iterator",data:=.fields #[.ref l3,.int 0 0] }
abbrev NQ (h:Heap)(l1 l2 l3:Addr):Heap:=(((oZ h l1 l2 l3).push { cls:=.type "tuple",data:=.seq #[.ref h.objs.size,.ref (h.objs.size + 1),.ref (h.objs.size + 2)] }).push { cls:=.type "tuple",data:=.seq #[.none,.none,.none] }).push
 { cls:=.type "zip",data:=.fields #[.none,.bool false,.bool false,.ref (h.objs.size + 3),.ref (h.objs.size + 4)] }
theorem oB (l1 l2 l3:Addr)(xs ys zs:Array Value) :
   Meets (Builtin.«zip.__new__» ⟨[.type "zip",.ref l1,.ref l2,.ref l3],[]⟩) (fun _ R s=>s.heap.IsList l1 xs/\s.heap.IsList l2 ys/\s.heap.IsList l3 zs/\R (.ok (.ret (.ref (s.heap.objs.size + 5)))) { s with heap:=NQ s.heap l1 l2 l3 }):=
 .of_wp fun prog w A R s h=>by
   obtain ⟨hp,g,d,tk,os⟩:=s; obtain ⟨q1,q2,q3,h⟩:=h
   have Qn:=sub_zip
   have L1:Heap.IsList (Wi ⟨hp,g,d,tk,os⟩) l1 xs:=q1
   have L2:Heap.IsList (Wi ⟨hp.push { cls:=.type "list_iterator",data:=.fields #[.ref l1,.int 0 0] },g,d,tk,os⟩) l2 ys:=Vl q2 _
   have L3:Heap.IsList (Wi ⟨(hp.push { cls:=.type "list_iterator",data:=.fields #[.ref l1,.int 0 0] }).push { cls:=.type "list_iterator",data:=.fields #[.ref l2,.int 0 0] },g,d,tk,os⟩) l3 zs:=Vl (Vl q3 _) _
   wp_walk using wpAny_pyIter_list L1,wpAny_pyIter_list L2,wpAny_pyIter_list L3
   refine ⟨_,rfl,?_⟩
   simp only [Ui] at h ⊢
   exact h
end PySem
namespace PySem
section
variable {prog:Program}{w:World}{A:Around}{E:Value->Shared->Prop}{s:Shared}
theorem qI {l1 l2 l3:Nat}{xs ys zs:Array Value}{Q:Value->Shared->Prop}(q1:s.heap.IsList l1 xs)(q2:s.heap.IsList l2 ys)(q3:s.heap.IsList l3 zs)
   (h:∀g,Z3 g s.heap.objs.size l1 l2 l3 0->(∀c o,s.heap.get? c=some o->g.get? c=some o)->Q (.ref (s.heap.objs.size + 5)) { s with heap:=g }) :
   wpAny (model prog w) A (call (.type "zip") [.ref l1,.ref l2,.ref l3]) Q E s:=by
 refine callType_new F.called_zip (by decide) (F.jH _ _ _) (F.lb _ _ _) (fun obj=>F.nK obj _ _ _) F.entry_zip_new (oB l1 l2 l3 xs ys zs) ⟨q1,q2,q3,?_⟩
 have e0:∀(h:Heap) (o:Obj),o.isFreed=false->(h.push o).get? h.objs.size=some o:=fun h o f=>Tb h f
 have z1:(s.heap.push { cls:=.type "list_iterator",data:=.fields #[.ref l1,.int 0 0] }).objs.size=s.heap.objs.size + 1:=Ui ..
 have z2:((s.heap.push { cls:=.type "list_iterator",data:=.fields #[.ref l1,.int 0 0] }).push { cls:=.type "list_iterator",data:=.fields #[.ref l2,.int 0 0] }).objs.size=s.heap.objs.size + 2:=by rw [Ui,z1]
 have z3:(oZ s.heap l1 l2 l3).objs.size=s.heap.objs.size + 3:=by rw [Ui,z2]
 have z4:((oZ s.heap l1 l2 l3).push { cls:=.type "tuple",data:=.seq #[.ref s.heap.objs.size,.ref (s.heap.objs.size + 1),.ref (s.heap.objs.size + 2)] }).objs.size=s.heap.objs.size + 4:=by rw [Ui,z3]
 have z5:(((oZ s.heap l1 l2 l3).push { cls:=.type "tuple",data:=.seq #[.ref s.heap.objs.size,.ref (s.heap.objs.size + 1),.ref (s.heap.objs.size + 2)] }).push { cls:=.type "tuple",data:=.seq #[.none,.none,.none] }).objs.size=s.heap.objs.size + 5:=by rw [Ui,z4]
 have up:∀{h:Heap} {c:Addr} {o o':Obj},h.get? c=some o->(h.push o').get? c=some o:=fun e=>SN _ e
 have g1:=up (o':={ cls:=.type "zip",data:=.fields #[.none,.bool false,.bool false,.ref (s.heap.objs.size + 3),.ref (s.heap.objs.size + 4)] }) (up (o':={ cls:=.type "tuple",data:=.seq #[.none,.none,.none] }) (up (o':={ cls:=.type "tuple",data:=.seq #[.ref s.heap.objs.size,.ref (s.heap.objs.size + 1),.ref (s.heap.objs.size + 2)] }) (up (o':={ cls:=.type "list_iterator",data:=.fields #[.ref l3,.int 0 0] }) (up (o':={ cls:=.type "list_iterator",data:=.fields #[.ref l2,.int 0 0] }) (e0 s.heap { cls:=.type "list_iterator",data:=.fields #[.ref l1,.int 0 0] } rfl)))))
 have g2:=up (o':={ cls:=.type "zip",data:=.fields #[.none,.bool false,.bool false,.ref (s.heap.objs.size + 3),.ref (s.heap.objs.size + 4)] }) (up (o':={ cls:=.type "tuple",data:=.seq #[.none,.none,.none] }) (up (o':={ cls:=.type "tuple",data:=.seq #[.ref s.heap.objs.size,.ref (s.heap.objs.size + 1),.ref (s.heap.objs.size + 2)] }) (up (o':={ cls:=.type "list_iterator",data:=.fields #[.ref l3,.int 0 0] }) (e0 (s.heap.push { cls:=.type "list_iterator",data:=.fields #[.ref l1,.int 0 0] }) { cls:=.type "list_iterator",data:=.fields #[.ref l2,.int 0 0] } rfl))))
 have g3:=up (o':={ cls:=.type "zip",data:=.fields #[.none,.bool false,.bool false,.ref (s.heap.objs.size + 3),.ref (s.heap.objs.size + 4)] }) (up (o':={ cls:=.type "tuple",data:=.seq #[.none,.none,.none] }) (up (o':={ cls:=.type "tuple",data:=.seq #[.ref s.heap.objs.size,.ref (s.heap.objs.size + 1),.ref (s.heap.objs.size + 2)] }) (e0 ((s.heap.push { cls:=.type "list_iterator",data:=.fields #[.ref l1,.int 0 0] }).push { cls:=.type "list_iterator",data:=.fields #[.ref l2,.int 0 0] }) { cls:=.type "list_iterator",data:=.fields #[.ref l3,.int 0 0] } rfl)))
 have g4:=up (o':={ cls:=.type "zip",data:=.fields #[.none,.bool false,.bool false,.ref (s.heap.objs.size + 3),.ref (s.heap.objs.size + 4)] }) (up (o':={ cls:=.type "tuple",data:=.seq #[.none,.none,.none] }) (e0 (oZ s.heap l1 l2 l3) { cls:=.type "tuple",data:=.seq #[.ref s.heap.objs.size,.ref (s.heap.objs.size + 1),.ref (s.heap.objs.size + 2)] } rfl))
 have g5:=up (o':={ cls:=.type "zip",data:=.fields #[.none,.bool false,.bool false,.ref (s.heap.objs.size + 3),.ref (s.heap.objs.size + 4)] }) (e0 ((oZ s.heap l1 l2 l3).push { cls:=.type "tuple",data:=.seq #[.ref s.heap.objs.size,.ref (s.heap.objs.size + 1),.ref (s.heap.objs.size + 2)] }) { cls:=.type "tuple",data:=.seq #[.none,.none,.none] } rfl)
 have g6:=e0 (((oZ s.heap l1 l2 l3).push { cls:=.type "tuple",data:=.seq #[.ref s.heap.objs.size,.ref (s.heap.objs.size + 1),.ref (s.heap.objs.size + 2)] }).push { cls:=.type "tuple",data:=.seq #[.none,.none,.none] }) { cls:=.type "zip",data:=.fields #[.none,.bool false,.bool false,.ref (s.heap.objs.size + 3),.ref (s.heap.objs.size + 4)] } rfl
 rw [z1] at g2
 rw [z2] at g3
 rw [z3] at g4
 rw [z4] at g5
 rw [z5] at g6
 refine ⟨⟨_,g6,rfl⟩,h (NQ s.heap l1 l2 l3) ⟨g6,g4,⟨_,_,_,g5⟩,⟨_,g1,rfl,rfl⟩,⟨_,g2,rfl,rfl⟩,⟨_,g3,rfl,rfl⟩⟩ fun c o e=>up (up (up (up (up (up e)))))⟩
end
end PySem
namespace L2
open PySem PySem.Spec PyProof.Rows
def AH (K:Sw)(a b c:Addr):It:=
 ⟨fun i H=>∃xs ys zs x y u,aq K H a xs/\aq K H b ys/\aq K H c zs/\xs[i]? = some x/\ys[i]? = some y/\zs[i]? = some u,
  fun i H v H'=>∃p x y u,H p=none/\v=.ref p/\H'=upd H p (.tup [x,y,u])/\∀xs ys zs,aq K H a xs->aq K H b ys->aq K H c zs->xs[i]? = some x/\ys[i]? = some y/\zs[i]? = some u,
  fun i H=>∃xs,aq K H a xs/\xs.length<=i⟩
theorem sF {P:Program}{w:World}{K:Sw}{elts:List Expr}{x1:Nat}{tp:Pos}{a b c n:Nat}(na:a < n)(nb:b < n)(nc:c < n) :
   Turn P w K (.Tuple elts x1 tp) (AH K a b c) [n + 5,n + 3,n + 4,n,n + 1,n + 2] (n + 5) (fun i h=>Z3 h n a b c i) where
 mem:=by simp
 obj:=fun i h st d hd=>by
   obtain ⟨zr,ti,⟨x,y,u,to⟩,⟨o1,e1,c1,d1⟩,⟨o2,e2,c2,d2⟩,⟨o3,e3,c3,d3⟩⟩:=st
   simp only [Tt,Tg,or_false] at hd
   rcases hd with rfl | rfl | rfl | rfl | rfl | rfl
   · exact ⟨_,zr,fun v q=>nomatch q⟩
   · exact ⟨_,ti,fun v q=>nomatch q⟩
   · exact ⟨_,to,fun v q=>nomatch q⟩
   · exact ⟨_,e1,fun v q=>by rw [d1] at q; cases q⟩
   · exact ⟨_,e2,fun v q=>by rw [d2] at q; cases q⟩
   · exact ⟨_,e3,fun v q=>by rw [d3] at q; cases q⟩
 keep:=fun i h h' st k=>by
   obtain ⟨zr,ti,⟨x,y,u,to⟩,h1,h2,h3⟩:=st
   exact ⟨k _ (by simp) _ zr,k _ (by simp) _ ti,⟨x,y,u,k _ (by simp) _ to⟩,h1.at fun o e=>k _ (by simp) o e,h2.at fun o e=>k _ (by simp) o e,h3.at fun o e=>k _ (by simp) o e⟩
 item:=by
   intro X hP hw hK hc i pins s σ H E I hf st hg
   subst hP hw hK
   obtain ⟨xs,ys,zs,x,y,u,j4,uZ,zV,hx,hy,hu⟩:=hg
   obtain ⟨mL,nA,p1,_⟩:=I.list j4
   obtain ⟨dO,zq,p2,_⟩:=I.list uZ
   obtain ⟨Kq,Nm,p3,_⟩:=I.list zV
   obtain ⟨ux,gx,rx⟩:=nA.get hx
   obtain ⟨uy,gy,ry⟩:=zq.get hy
   obtain ⟨uu,gu,ru⟩:=Nm.get hu
   have lt:∀d∈([n + 5,n + 3,n + 4,n,n + 1,n + 2]:List Addr),d < s.heap.objs.size:=fun d hd=>by
     have lz:=SU st.z
     simp only [Tt,Tg,or_false] at hd
     have R0 : @LT.lt Nat _ (n + 5) s.heap.objs.size:=lz
     rcases hd with rfl | rfl | rfl | rfl | rfl | rfl <;> (show @LT.lt Nat _ _ _; omega)
   have hT:s.TypeIs (.ref (n + 5)) "zip":=⟨_,st.z,rfl⟩
   unfold pyNext
   refine wpAny_bind (wpAny_attempt (Vb (name:=Wr "__next__") hT F.slot_zip_next (wpAny_call_entry F.slot_zip_next hT F.entry_zip_next
     (sG na nb nc st p1.isList p2.isList p3.isList (x:=ux) (y:=uy) (u:=uu) (by simpa using gx) (by simpa using gy) (by simpa using gu) fun g a1 a2 a3 a4 a5 a6 hk=>wpAny_pure ?_) (F.args_zip_next_1 _))))
   refine ⟨_,rfl,Wo (s:={ s with heap:=g }) a1 fun g2 z2 e2=>?_⟩
   have n0:H s.heap.objs.size=none:=I.hok.fresh (Sz _)
   have kk:∀d o,d ∉ ([n + 5,n + 4,n,n + 1,n + 2]:List Addr)->s.heap.get? d=some o->g2.get? d=some o:=fun d o hd e=>e2.extBut _ _ (fun z=>hd (by rw [z]; simp)) (hk d o hd e)
   have t2:cf g2 s.heap.objs.size ux uy uu:=e2.extBut _ _ (UR (lt _ (by simp))) a6
   have I1:Inv X pins σ (upd H s.heap.objs.size (.tup [x,y,u])) { s with heap:=g2,toks:=s.toks }:=I.many (ch:=[n + 5,n + 4,n,n + 1,n + 2]) (fun d hd=>hf d (by simp only [Tt,Tg,or_false] at hd ⊢; rcases hd with r | r | r | r | r <;> simp [r])) kk (Sz _)
     ⟨by show 3<=sizeLine; decide,[ux,uy,uu],.cons rx (.cons ry (.cons ru .nil)),_,t2,rfl,_,rfl⟩
   refine ⟨.ref s.heap.objs.size,_,I1,rfl,⟨_,x,y,u,n0,rfl,rfl,fun NN GV Su q1 q2 q3=>?_⟩,?_,fun d hd=>?_⟩
   · rw [I.cQ q1 j4,I.cQ q2 uZ,I.cQ q3 zV]; exact ⟨hx,hy,hu⟩
   · exact ⟨z2,kk _ _ (by simp) st.ti,⟨_,_,_,e2.extBut _ _ (show @Ne Nat _ _ by omega) a2⟩,a3.at fun o e=>e2.extBut _ _ (show @Ne Nat _ _ by omega) e,a4.at fun o e=>e2.extBut _ _ (show @Ne Nat _ _ by omega) e,a5.at fun o e=>e2.extBut _ _ (show @Ne Nat _ _ by omega) e⟩
   · rw [aj (Td (lt d hd))]
     exact (hf d hd).1
 done:=by
   intro X hP hw hK hc i pins s σ H E I hf st hg
   subst hP hw hK
   obtain ⟨xs,j4,Bh⟩:=hg
   obtain ⟨mL,nA,p1,_⟩:=I.list j4
   have l1:=nA.length
   have hT:s.TypeIs (.ref (n + 5)) "zip":=⟨_,st.z,rfl⟩
   unfold pyNext
   refine wpAny_bind (wpAny_attempt (Vb (name:=Wr "__next__") hT F.slot_zip_next (wpAny_call_entry F.slot_zip_next hT F.entry_zip_next (xj (I.ok.hd hc) na st p1.isList (by simp; omega) fun g e hk he=>?_) (F.args_zip_next_1 _))))
   obtain ⟨o,ho,xt⟩:=he
   refine wpAny_bind (wpAny_isInstance (T:="StopIteration") (b:=true) ⟨o,ho,xt⟩ isSubtype_stop (wpAny_pure ⟨rfl,?_⟩))
   exact I.vh (t':=s.toks) (ch:=[n + 5,n + 4,n,n + 1,n + 2]) (fun d hd=>hf d (by simp only [Tt,Tg,or_false] at hd ⊢; rcases hd with r | r | r | r | r <;> simp [r])) hk
 self:=fun _ _ _ _ _ st h=>Vf st.z h
def zY (K:Sw)(ta:TA):TI:=fun σ H R=>ta σ H fun vs H1=>∃a b c,vs=[.ref a,.ref b,.ref c]/\(∃xs,aq K H1 a xs)/\(∃ys,aq K H1 b ys)/\(∃zs,aq K H1 c zs)/\R (AH K a b c) H1
section
variable {X:Cx}
theorem zd {a b c:Expr}{ta:TA}{p pos tp:Pos}{elts:List Expr}{x1:Nat}(hg:Gl X "zip")(hm:X.mg "zip"=none)(ha:nG X [a,b,c] ta)(hv:TH "zip"=some (.type "zip"):=by first | rfl | decide +kernel) :
   PI X (.Tuple elts x1 tp) (.Call (.Name "zip" p) [a,b,c] [] pos) (zY X.K ta):=by
 intro pins s σ H R I h
 refine wpAny_Call_Name_kw (df I hg hm hv ?_ (by decide) (by decide))
 refine Tr (bf (ha.pa pos pins s σ H _ I h) fun us s1 ⟨vs,H1,I1,r1,q1⟩=>?_) ((ha.ns a [b,c] rfl).1.h [b,c] X.env) ((ha.ns a [b,c] rfl).2 pos X.env)
 obtain ⟨l1,l2,l3,e,⟨xs,j4⟩,⟨ys,uZ⟩,⟨zs,zV⟩,q⟩:=q1
 subst e
 cases r1 with
 | cons r1 r2=>
 cases r2 with
 | cons r2 r3=>
 cases r3 with
 | cons r3 r4=>
 cases r4
 cases r1
 cases r2
 cases r3
 obtain ⟨mL,nA,p1,_⟩:=I1.list j4
 obtain ⟨dO,zq,p2,_⟩:=I1.list uZ
 obtain ⟨Kq,Nm,p3,_⟩:=I1.list zV
 have KP:l1 < s1.heap.objs.size:=by obtain ⟨_,_,e,_⟩:=p1; exact SU e
 have KQ:l2 < s1.heap.objs.size:=by obtain ⟨_,_,e,_⟩:=p2; exact SU e
 have QK:l3 < s1.heap.objs.size:=by obtain ⟨_,_,e,_⟩:=p3; exact SU e
 refine qI p1.isList p2.isList p3.isList fun g st hk=>?_
 refine Vf st.z ?_
 have I2:Inv X pins σ H1 { s1 with heap:=g }:=I1.kept (t':=s1.toks) hk
 refine ⟨_,_,_,_,H1,rfl,I2,sF KP KQ QK,st,fun c hc=>?_,q⟩
 simp only [Tt,Tg,or_false] at hc
 have up:∀k,cS X pins H1 (s1.heap.objs.size + k):=fun k=>I1.jv (Uw _ _) (I1.hok.fresh (Uw _ _))
 rcases hc with rfl | rfl | rfl | rfl | rfl | rfl
 · exact up 5
 · exact up 3
 · exact up 4
 · exact up 0
 · exact up 1
 · exact up 2
end
theorem jR {K:Sw}{a b c:Addr}{xs ys zs:List V}{g:TG}{tifs:TT}{tm:TM}{σ0:St}{Z:Hp->Prop}{H:Hp}(l1:ys.length=xs.length)(l2:zs.length=xs.length)(Pv:Nat->Hp->Prop)(h0:Pv 0 H)(hl:∀i H,i<=xs.length->Pv i H->aq K H a xs/\aq K H b ys/\aq K H c zs)
   (turn:∀i x y u p H,xs[i]? = some x->ys[i]? = some y->zs[i]? = some u->Pv i H->H p=none->g (.ref p) σ0 (upd H p (.tup [x,y,u])) fun σ2 H2=>tifs σ2 H2 fun b H3=>
     if b=true then tm σ2 H3 fun H4=>aQ σ0 σ2/\∃m',m' < xs.length - i/\(m'=xs.length - (i + 1)/\i + 1<=xs.length/\Pv (i + 1) H4) else aQ σ0 σ2/\∃m',m' < xs.length - i/\(m'=xs.length - (i + 1)/\i + 1<=xs.length/\Pv (i + 1) H3))
   (hZ:∀H,Pv xs.length H->Z H):eO (AH K a b c) σ0 g tifs tm Z H:=by
 refine d7 xs.length Pv h0 (fun i H hi p=>?_) (fun H p=>⟨xs,(hl _ H (Sz _) p).1,Sz _⟩) (fun i H hi p x H' y=>?_) hZ
 · obtain ⟨q1,q2,q3⟩:=hl i H (TB hi) p
   exact ⟨xs,ys,zs,xs[i],ys[i]'(l1 ▸ hi),zs[i]'(l2 ▸ hi),q1,q2,q3,by simp [hi],by simp [l1,hi],by simp [l2,hi]⟩
 · obtain ⟨q1,q2,q3⟩:=hl i H (TB hi) p
   obtain ⟨pp,x1,y1,u1,hn,rfl,rfl,k⟩:=y
   obtain ⟨k1,k2,k3⟩:=k xs ys zs q1 q2 q3
   exact turn i x1 y1 u1 pp H k1 k2 k3 p hn
end L2
namespace L3
open PySem PySem.Spec PyProof.Rows L2
theorem MR {X:Cx}{a b c:Expr}{t:TA}{KK:Sw}{p pos tp:Pos}{elts:List Expr}{x1:Nat}(hg:Gl X "zip")(hm:X.mg "zip"=none)(ha:SA X [a,b,c] t)(hK:X.K=KK:=by first | exact aW | rfl) :
   SI X (.Tuple elts x1 tp) (.Call (.Name "zip" p) [a,b,c] [] pos) (zY KK t):=by
 subst hK
 exact ⟨zd hg hm ha.h⟩
end L3
namespace L2
open PySem PySem.Spec PyProof.Rows
def Dy (K:Sw)(a:Addr):It:=
 ⟨fun i H=>∃xs x,aq K H a xs/\xs[i]? = some x,
  fun i H v H'=>∃p x,H p=none/\v=.ref p/\H'=upd H p (.tup [.int (i:Nat),x])/\∀xs,aq K H a xs->xs[i]? = some x,
  fun i H=>∃xs,aq K H a xs/\xs.length<=i⟩
theorem sr {P:Program}{w:World}{K:Sw}{elts:List Expr}{x1:Nat}{tp:Pos}{a n:Addr} :
   Turn P w K (.Tuple elts x1 tp) (Dy K a) [n + 1,n] (n + 1) (fun i h=>(∃old,IsEnum h (n + 1) n (i:Nat) old)/\h.IsListIter n a i) where
 mem:=by simp
 obj:=fun i h st d hd=>by
   obtain ⟨⟨old,he⟩,⟨o1,e1,c1,d1⟩⟩:=st
   simp only [Tt,Tg,or_false] at hd
   rcases hd with rfl | rfl
   · exact ⟨_,he,fun v q=>nomatch q⟩
   · exact ⟨_,e1,fun v q=>by rw [d1] at q; cases q⟩
 keep:=fun i h h' st k=>by
   obtain ⟨⟨old,he⟩,h1⟩:=st
   exact ⟨⟨old,k _ (by simp) _ he⟩,h1.at fun o e=>k _ (by simp) o e⟩
 item:=by
   intro X hP hw hK hc i pins s σ H E I hf st hg
   subst hP hw hK
   obtain ⟨xs,x,j4,hx⟩:=hg
   obtain ⟨mL,nA,p1,_⟩:=I.list j4
   obtain ⟨ux,gx,rx⟩:=nA.get hx
   obtain ⟨⟨old,he⟩,h1⟩:=st
   have ne:(n + 1:Addr)≠n:=Nat.succ_ne_self n
   refine wpAny_pyNext_enum_item he h1 p1.isList (x:=ux) (by simpa using gx) ne fun g a1 a2 a3 a4 hk=>?_
   refine ⟨_,rfl,wpAny_letOwnedTupleGo_enum (s:={ s with heap:=g,toks:=s.toks + 1 }) a1 fun g2 Pz e2=>?_⟩
   have n0:H s.heap.objs.size=none:=I.hok.fresh (Sz _)
   have KR:n + 1 < s.heap.objs.size:=SU he
   have IB:Um (n + 1) g g2:=e2
   have kk:∀d o,d ∉ ([n + 1,n]:List Addr)->s.heap.get? d=some o->g2.get? d=some o:=fun d o hd e=>by
     simp only [Tt,Tg,or_false,not_or] at hd
     exact IB.extBut _ _ hd.1 (hk d o hd.1 hd.2 e)
   have t2:IsPair g2 s.heap.objs.size (.int i s.toks) ux:=IB.extBut _ _ (UR KR) a3
   have I1:Inv X pins σ (upd H s.heap.objs.size (.tup [.int (i:Nat),x])) { s with heap:=g2,toks:=s.toks + 1 }:=I.many (ch:=[n + 1,n]) hf kk (Sz _)
     ⟨by show 2<=sizeLine; decide,[.int i s.toks,ux],.cons ⟨_,rfl⟩ (.cons rx .nil),_,t2,rfl,_,rfl⟩
   refine ⟨.ref s.heap.objs.size,_,I1,rfl,⟨_,x,n0,rfl,rfl,fun NN q1=>?_⟩,⟨⟨_,by simpa using Pz⟩,a2.at fun o e=>IB.extBut _ _ ne.symm e⟩,fun d hd=>?_⟩
   · rw [I.cQ q1 j4]; exact hx
   · have lt:d < s.heap.objs.size:=by
       simp only [Tt,Tg,or_false] at hd
       rcases hd with rfl | rfl
       · exact KR
       · exact Nat.lt_of_succ_lt KR
     rw [aj (Td lt)]
     exact (hf d hd).1
 done:=by
   intro X hP hw hK hc i pins s σ H E I hf st hg
   subst hP hw hK
   obtain ⟨xs,j4,Bh⟩:=hg
   obtain ⟨mL,nA,p1,_⟩:=I.list j4
   have l1:=nA.length
   obtain ⟨⟨old,he⟩,h1⟩:=st
   refine wpAny_pyNext_enum_end (I.ok.hd hc) he h1 p1.isList (by simp; omega) fun g hk=>⟨rfl,?_⟩
   exact I.vh (t':=s.toks) (ch:=[n]) (fun d hd=>hf d (by rw [List.mem_singleton.mp hd]; simp)) fun d o hd e=>hk d o (fun z=>hd (by rw [z]; simp)) e
 self:=fun _ _ _ _ _ st h=>by
   obtain ⟨⟨old,he⟩,_⟩:=st
   exact wpAny_pyIter_enum he h
def FC (K:Sw)(ta:TA):TI:=fun σ H R=>ta σ H fun vs H1=>∃a,vs=[.ref a]/\(∃xs,aq K H1 a xs)/\R (Dy K a) H1
theorem zb {X:Cx}{a:Expr}{ta:TA}{p pos tp:Pos}{elts:List Expr}{x1:Nat}(hg:Gl X "enumerate")(hm:X.mg "enumerate"=none)(ha:nG X [a] ta)(hv:TH "enumerate"=some (.type "enumerate"):=by first | rfl | decide +kernel) :
   PI X (.Tuple elts x1 tp) (.Call (.Name "enumerate" p) [a] [] pos) (FC X.K ta):=by
 intro pins s σ H R I h
 refine wpAny_Call_Name_kw (df I hg hm hv ?_ (by decide) (by decide))
 refine Tr (bf (ha.pa pos pins s σ H _ I h) fun us s1 ⟨vs,H1,I1,r1,q1⟩=>?_) ((ha.ns a [] rfl).1.h [] X.env) ((ha.ns a [] rfl).2 pos X.env)
 obtain ⟨l1,e,⟨xs,j4⟩,q⟩:=q1
 subst e
 cases r1 with
 | cons r1 r2=>
 cases r2
 cases r1
 obtain ⟨mL,nA,p1,_⟩:=I1.list j4
 refine call_enumerate_list p1.isList fun g he hi _ hk=>?_
 refine wpAny_pyIter_enum he ?_
 have I2:Inv X pins σ H1 { s1 with heap:=g }:=I1.kept (t':=s1.toks) hk
 refine ⟨_,_,_,_,H1,rfl,I2,sr,⟨⟨_,he⟩,hi⟩,fun c hc=>?_,q⟩
 simp only [Tt,Tg,or_false] at hc
 have up:∀k,cS X pins H1 (s1.heap.objs.size + k):=fun k=>I1.jv (Uw _ _) (I1.hok.fresh (Uw _ _))
 rcases hc with rfl | rfl
 · exact up 1
 · exact up 0
section
variable {K:Sw}{a:Addr}{xs:List V}{g:TG}
theorem mn {tb:TS}{D:Ends}{σ:St}{H:Hp}(Pv:Nat->St->Hp->Prop)(h0:Pv 0 σ H)(hl:∀i σ H,i<=xs.length->Pv i σ H->aq K H a xs)
   (hs:∀i x p σ H,xs[i]? = some x->Pv i σ H->H p=none->g (.ref p) σ (upd H p (.tup [.int (i:Nat),x])) fun σ2 H2=>tb { D with nx:=Pv (i + 1),ct:=Pv (i + 1),bk:=D.nx } σ2 H2) (hd:∀σ H,Pv xs.length σ H->D.nx σ H) :
   ∃W:Nat->Nat->St->Hp->Prop,(∃m,W 0 m σ H)/\∀i m σ H,W i m σ H ->
     ((Dy K a).stop i H/\D.nx σ H)\/((Dy K a).go i H/\∃N:St->Hp->Prop,(∀σ' H',N σ' H'->∃m',m' < m/\W (i + 1) m' σ' H')/\∀x H',(Dy K a).yld i H x H'->g x σ H' fun σ2 H2=>tb { D with nx:=N,ct:=N,bk:=D.nx } σ2 H2):=by
 refine ⟨fun i m σ H=>m=xs.length - i/\i<=xs.length/\Pv i σ H,⟨xs.length,by simp,TN _,h0⟩,?_⟩
 rintro i m σ H ⟨rfl,hi,p⟩
 have q1:=hl i σ H hi p
 by_cases gv:i < xs.length
 · refine .inr ⟨⟨xs,xs[i],q1,by simp [gv]⟩,Pv (i + 1),fun σ' H' p'=>⟨xs.length - (i + 1),by omega,rfl,gv,p'⟩,fun x H' y=>?_⟩
   obtain ⟨pp,x1,hn,rfl,rfl,k⟩:=y
   exact hs i x1 pp σ H (k xs q1) p hn
 · have e:i=xs.length:=by omega
   subst e
   exact .inl ⟨⟨xs,q1,Sz _⟩,hd σ H p⟩
theorem qK {tifs:TT}{tm:TM}{σ0:St}{Z:Hp->Prop}{H:Hp}(Pv:Nat->Hp->Prop)(h0:Pv 0 H)(hl:∀i H,i<=xs.length->Pv i H->aq K H a xs)
   (turn:∀i x p H,xs[i]? = some x->Pv i H->H p=none->g (.ref p) σ0 (upd H p (.tup [.int (i:Nat),x])) fun σ2 H2=>tifs σ2 H2 fun b H3=>
     if b=true then tm σ2 H3 fun H4=>aQ σ0 σ2/\∃m',m' < xs.length - i/\(m'=xs.length - (i + 1)/\i + 1<=xs.length/\Pv (i + 1) H4) else aQ σ0 σ2/\∃m',m' < xs.length - i/\(m'=xs.length - (i + 1)/\i + 1<=xs.length/\Pv (i + 1) H3))
   (hZ:∀H,Pv xs.length H->Z H):eO (Dy K a) σ0 g tifs tm Z H:=by
 refine d7 xs.length Pv h0 (fun i H hi p=>⟨xs,xs[i],hl i H (TB hi) p,by simp [hi]⟩) (fun H p=>⟨xs,hl _ H (Sz _) p,Sz _⟩) (fun i H hi p x H' y=>?_) hZ
 obtain ⟨pp,x1,hn,rfl,rfl,k⟩:=y
 exact turn i x1 pp H (k xs (hl i H (TB hi) p)) p hn
end
end L2
namespace L3
open PySem PySem.Spec PyProof.Rows L2
theorem iE {X:Cx}{a:Expr}{t:TA}{KK:Sw}{p pos tp:Pos}{elts:List Expr}{x1:Nat}(hg:Gl X "enumerate")(hm:X.mg "enumerate"=none)(ha:SA X [a] t)(hK:X.K=KK:=by first | exact aW | rfl) :
   SI X (.Tuple elts x1 tp) (.Call (.Name "enumerate" p) [a] [] pos) (FC KK t):=by
 subst hK
 exact ⟨zb hg hm ha.h⟩
section
variable {X:Cx}{a o e:Expr}{es:List Expr}{ta tv:TE}{t:TA}{pos pos' apos:Pos}{f m:Str}
theorem fld {KK:Sw}(ha:SE X a ta)(hb:TU a f X.env (eval a X.env)=eval a X.env:=by rfl)(hK:X.K=KK:=by first | exact aW | rfl):SE X (.Attribute a f pos) (GH KK ta f):=by
 subst hK
 exact ⟨CD ha.h hb⟩
theorem jD {KK:Sw}(ha:SE X a ta)(hv:SE X e tv)(hs:Ul e (some (.Attribute a f pos')) pos.line X.env=pure false:=by rfl)(hK:X.K=KK:=by first | exact aW | rfl):SS X (.Assign [.Attribute a f pos'] e pos) (Gu KK ta tv f):=by
 subst hK
 exact ⟨CZ ha.h hv.h hs⟩
end
end L3
namespace TW
open PySem L2
def qB (P:Program)(w:World)(K:Sw)(mg:Str->Option Value)(base:Heap)(C:Addr)(m:Str)(ps:List Str)(k:Nat)(sp:Sp):Prop:=
 ∃f fd,aN P w K mg base b6 k f fd ps sp/\Binds K fd ps []/\Meth K C m f
def lP (P:Program)(w:World)(K:Sw)(mg:Str->Option Value)(base:Heap)(x:Str)(C:Addr)(ps:List Str)(k:Nat)(sp:Sp):Prop:=
 ∃f fd,aN P w K mg base b6 k f fd ps sp/\Binds K fd ps []/\Mk K C f/\mg x=some (.ref C)
end TW
namespace L2
open PySem PySem.Spec PyProof.Rows
section
variable {X:Cx}
theorem yA (ns:List Int)(k:Int):(firstMet (fun i=>ns.getD i 0) ns.length).any (· == k)=ns.contains k:=by
 rw [firstMet_any]
 have e:(S5 ns.length).map (fun i=>ns.getD i 0)=ns:=by
   apply List.ext_getElem
   · simp
   · intro i h1 h2
     simp [Ta,h2]
 rw [e,T4,VF,UE]
 constructor
 · rintro ⟨x,hx,e⟩
   rw [← beq_iff_eq.mp e]
   exact hx
 · exact fun h=>⟨k,h,by simp⟩
theorem qH (hc:X.calm=true):cO X (.type "set") (fun xs H Q=>∃(l:Addr) (ns:List Int),xs=[.ref l]/\aq X.K H l (ns.map V.int)/\ns.length < 4000/\∀z n,H z=none->Q (.ref z) (upd H z (.set (fun k=>ns.contains k) n))):=by
 intro pins s σ H xs us Q I r h
 obtain ⟨l,ns,rfl,hq,hn,q⟩:=h
 obtain ⟨u,rfl,ru⟩:=vals1 r
 obtain rfl:u=Tq l:=ru
 obtain ⟨its,rv,pl,_⟩:=I.list hq
 have hi:=intsAre_of rv
 have le:its.length=ns.length:=by have:=rv.length; rw [Sv] at this; exact this.symm
 refine call_set_list (I.ok.hd hc) pl.isList (by simpa using hi) (by simp; show its.length + 1 < 4096; omega) fun g tk so kp=>?_
 have Rb:g.SetOf (intKind X.prog X.w) s.heap.objs.size (fun k=>ns.contains k) _:=SetOf_congr so (fun k=>by rw [show its.toArray.size=ns.length by simpa using le]; exact yA ns k) rfl
 exact ⟨.ref s.heap.objs.size,_,I.laid (o:=.set (fun k=>ns.contains k) (firstMet (fun i=>ns.getD i 0) its.toArray.size).length) (fun b o e=>kp b o (SU e) e) (Sz _) Rb,rfl,q _ _ (I.hok.fresh (Sz _))⟩
theorem rR:gO X (compareOp .NotIn) (fun x y H Q=>∃i a S n,x=.int i/\y=.ref a/\H a=some (.set S n)/\Q (.bl (!S i)) H):=by
 intro pins s σ H x y v u Q I rx ry h
 obtain ⟨i,a,S,n,rfl,rfl,ha,q⟩:=h
 obtain ⟨t,rfl⟩:=(show ∃t,v=UU i t from rx)
 cases ry
 have so:s.heap.SetOf (intKind X.prog X.w) a S n:=I.hok a _ ha
 exact wpAny_notInSet_of (knd:=intKind X.prog X.w) (intKind_is _ _ _ _) rfl so ⟨.bl _,H,I.tok _,rfl,q⟩
theorem qE (hc:X.calm=true):cO X (.builtin "any") (fun xs H Q=>∃(l:Addr) (bs:List Bool),xs=[.ref l]/\aq X.K H l (bs.map V.bl)/\Q (.bl (bs.any id)) H):=by
 intro pins s σ H xs us Q I r h
 obtain ⟨l,bs,rfl,hq,q⟩:=h
 obtain ⟨u,rfl,ru⟩:=vals1 r
 obtain rfl:u=Tq l:=ru
 obtain ⟨its,rv,pl,_⟩:=I.list hq
 have e1:=iF rv
 subst e1
 have hl:=pl.isList
 have gv:l < s.heap.objs.size:=by obtain ⟨_,e,_⟩:=hl; exact SU e
 refine call_any_walk (wpAny_pyIter_list hl ?_)
 refine ⟨_,_,_,_,_,_,fun i=>bs.getD i false,rfl,Walks.list (A:=X.A.in1) (show X.A.in1.handled=none from I.ok.hd hc) s.heap.objs.size l (Td gv) (bs.map T8).toArray,⟨⟨_,Tb _ rfl,rfl,rfl⟩,hl.push _⟩,?_,fun h' tk hk=>?_⟩
 · intro i v s' Q' E' hP IY
   have hv:bs[i]?.map T8=some v:=by simpa using hP
   obtain ⟨b,hb,rfl⟩:=Option.map_eq_some_iff.mp hv
   have ER:Q' (bs.getD i false) s':=IY
   rw [Ta,hb] at ER
   exact wpAny_truthy_bool ER
 · have kk:∀b o,s.heap.get? b=some o->h'.get? b=some o:=old_kept hk
   refine ⟨.bl (bs.any id),H,I.kept kk,?_,q⟩
   have e:(S5 (bs.map T8).toArray.size).any (fun i=>bs.getD i false)=bs.any id:=by
     rw [show (bs.map T8).toArray.size=bs.length by simp]
     rw [T4,VF,VF]
     constructor
     · rintro ⟨i,hi,e⟩
       have MC:=List.mem_range.mp hi
       rw [Ta,Sx MC] at e
       exact ⟨_,U3 MC,e⟩
     · rintro ⟨b,hb,e⟩
       obtain ⟨i,hi,e2⟩:=UM hb
       refine ⟨i,List.mem_range.mpr hi,?_⟩
       rw [Ta,Sx hi,Option.getD_some,e2]
       exact e
   rw [e]
   rfl
end
end L2
namespace L3
open PySem PySem.Spec PyProof.Rows L2
section
variable {X:Cx}{a o e:Expr}{es:List Expr}{ta tv:TE}{t:TA}{p pos pos' apos:Pos}{x m:Str}{C:Addr}{ps:List Str}{kk:Nat}{sp:Sp}
theorem Ei {KK:Sw}(hc:X.calm=true:=by rfl)(hK:X.K=KK:=by first | exact aW | rfl):SC X (.type "set") (fun xs H Q=>∃(l:Addr) (ns:List Int),xs=[.ref l]/\aq KK H l (ns.map V.int)/\ns.length < 4000/\∀z n,H z=none->Q (.ref z) (upd H z (.set (fun k=>ns.contains k) n))):=by
 subst hK
 exact ⟨qH hc⟩
theorem Eg {KK:Sw}(hc:X.calm=true:=by rfl)(hK:X.K=KK:=by first | exact aW | rfl):SC X (.builtin "any") (fun xs H Q=>∃(l:Addr) (bs:List Bool),xs=[.ref l]/\aq KK H l (bs.map V.bl)/\Q (.bl (bs.any id)) H):=by
 subst hK
 exact ⟨qE hc⟩
theorem vG:SO X (compareOp .NotIn) (fun x y H Q=>∃i a S n,x=.int i/\y=.ref a/\H a=some (.set S n)/\Q (.bl (!S i)) H):=⟨rR⟩
theorem make (D:TW.lP X.prog X.w X.K X.mg X.base x C ps kk sp)(hr:b5 (kk + 1) X.A)(hg:Gl X x)(ha:SA X (e :: es) t)(hdb:(x == ("__debug__":Str))=false:=by decide):SE X (.Call (.Name x p) (e :: es) [] pos) (Ax C sp [] E0 t):=
 let ⟨_,_,G,b,M,m⟩:=D
 ⟨y6 M G hr hg m b .nil vU ha.h.pa hdb ((ha.h.ns e es rfl).1.h es X.env) ((ha.h.ns e es rfl).2 pos X.env)⟩
theorem mN {pl:Sem Bool}(ho:SE X o ta)(c:pd X.K C)(D:TW.qB X.prog X.w X.K X.mg X.base C m ps kk sp)(hr:b5 kk X.A)(ha:SA X (e :: es) t)
   (ht:eval (.Call (.Attribute o m apos) (e :: es) [] pos) X.env=(do
     let ov ← eval o X.env
     standAt apos.atName
     let (f,first) ← holding [ov] (getMethod ov m pl)
     callWith pos f first (backTo pos (starEach (e :: es) X.env)) (backToKw pos (keywordEach [] X.env))):=by rfl):SE X (.Call (.Attribute o m apos) (e :: es) [] pos) (Ay C m sp [] E0 ta t):=
 let ⟨_,_,G,b,hm⟩:=D
 ⟨y7 ho.h c hm G hr b .nil vU ha.h.pa ((ha.h.ns e es rfl).1.h es X.env) ((ha.h.ns e es rfl).2 pos X.env) ht⟩
end
end L3
open L3 renaming v->WB,k->WC,n->WD,int->WE,ix->WG,cons->WI,op->WJ,one->WK,a7->WM,gn->WN,str->WQ,bo->WR,set->WS,tup->WT,ret->WU,own->WV,bZ->WW,cmp->WX,aK->WY,ifs->WZ,lst->W0,nil->W2,bD->W3,aR->W4,iL->W5,gD->W6,cF->W7,gY->W8,fld->W9,bL->Xa,cT->Xb,lc->Xc,b0->Xd,b9->Xe,cJ->Xf,cG->Xg,ex->Xh,c9->Xi,iR->Xj,append->Xk,i7->Xl,jD->Xm,kM->Xn,lJ->Xo,run->Xp,tw->Xq,Aq->Xr,l8->Xs,dG->Xt,i8->Xu,Cw->Xv,oS->Xw,iG->Xx,nL->Xy,dput->Xz,nt->XA,ki->XB,kh->XC,asg->XD,FY->XE,wQ->XF,vN->XG,bl->XH,mh->XI,if1->XJ,make->XW
set_option maxHeartbeats 1000000
namespace TW
open PySem L2
section
variable {P:Program}{w:World}{K:Sw}{mg:Str->Option Value}{base:Heap}
theorem lT {x qual:Str}{st:Stmt}{f:Addr}{fd:S9}{p0:Str}(F:cL K x qual st f fd)(h:∀(kV doc pm:Value) (an:Option Addr) (cdv ct u0:Value),V8 (T5 x qual (cM st) (cq st) (ak st) .none kV doc pm an cdv ct) ⟨[u0],[]⟩ = pure (([p0]:List Str).zip [u0])):Binds K fd [p0] []:=F.binds fun kV doc pm an cdv ct us hl=>match us,hl with | [u0],_=>h kV doc pm an cdv ct u0
theorem eE {x qual:Str}{st:Stmt}{f:Addr}{fd:S9}{p0 p1:Str}(F:cL K x qual st f fd)(h:∀(kV doc pm:Value) (an:Option Addr) (cdv ct u0 u1:Value),V8 (T5 x qual (cM st) (cq st) (ak st) .none kV doc pm an cdv ct) ⟨[u0,u1],[]⟩ = pure (([p0,p1]:List Str).zip [u0,u1])):Binds K fd [p0,p1] []:=F.binds fun kV doc pm an cdv ct us hl=>match us,hl with | [u0,u1],_=>h kV doc pm an cdv ct u0 u1
theorem nM {x qual:Str}{st:Stmt}{f:Addr}{fd:S9}{p0 p1 p2:Str}(F:cL K x qual st f fd)(h:∀(kV doc pm:Value) (an:Option Addr) (cdv ct u0 u1 u2:Value),V8 (T5 x qual (cM st) (cq st) (ak st) .none kV doc pm an cdv ct) ⟨[u0,u1,u2],[]⟩ = pure (([p0,p1,p2]:List Str).zip [u0,u1,u2])):Binds K fd [p0,p1,p2] []:=F.binds fun kV doc pm an cdv ct us hl=>match us,hl with | [u0,u1,u2],_=>h kV doc pm an cdv ct u0 u1 u2
theorem tK {x qual:Str}{st:Stmt}{f:Addr}{fd:S9}{p0 p1 p2 p3:Str}(F:cL K x qual st f fd)(h:∀(kV doc pm:Value) (an:Option Addr) (cdv ct u0 u1 u2 u3:Value),V8 (T5 x qual (cM st) (cq st) (ak st) .none kV doc pm an cdv ct) ⟨[u0,u1,u2,u3],[]⟩ = pure (([p0,p1,p2,p3]:List Str).zip [u0,u1,u2,u3])):Binds K fd [p0,p1,p2,p3] []:=F.binds fun kV doc pm an cdv ct us hl=>match us,hl with | [u0,u1,u2,u3],_=>h kV doc pm an cdv ct u0 u1 u2 u3
def top (i:Nat):Stmt:=PySem.Challenge.pw_twinwalk_k19_worths_of_entries.main.body.getD i (.Pass ⟨0,0,0,0⟩)
abbrev qh:Stmt:=top 20
abbrev fM:Stmt:=top 21
theorem TK.lst {H:Hp}{a:Addr}{xs:List V}{o:HO}(h:H a=some (.lst xs)):TK H (upd H a o):=fun b ys e=>by rw [aj (b8 e h (fun z=>nomatch z))]; exact e
theorem kf {α β:Type}(f:α->β):∀(l:List α) (i:Nat),(l.eraseIdx i).map f=(l.map f).eraseIdx i
 | [],_=>rfl
 | _ :: _,0=>rfl
 | a :: r,i + 1=>by simp only [V9,Tz,kf f r i]
theorem Paired.get {α β:Type}{F:α->β->Prop}:∀{l₁:List α} {l₂:List β} {i:Nat} {x:α},Paired F l₁ l₂->l₁[i]? = some x->∃y,l₂[i]? = some y/\F x y
 | _,_,_,_,.nil,e=>by simp at e
 | _,_,0,_,.cons r _,e=>by simp at e; subst e; exact ⟨_,rfl,r⟩
 | _,_,i + 1,x,.cons _ t,e=>by
   obtain ⟨u,h1,h2⟩:=Paired.get (i:=i) (x:=x) t (by simpa using e)
   exact ⟨u,by simpa using h1,h2⟩
theorem bp {σ:L2.St}{H:Hp}{A B:Hp->Prop}(h:A H):Dn σ H (fun b H3=>if b=true then A H3 else B H3):=rE (A:=A H) (B:=B H) h
theorem aG {i:Nat}{v:V}{σ:L2.St}{H:Hp}{Q:L2.St->Hp->Prop}(h:Q (σ.set i (some v)) H):dJ i v σ H Q:=h
theorem aa {A B C:Hp}(a:ai A B)(b:ai B C):ai A C:=fun p o h=>b p o (a p o h)
theorem same_refl (A:Hp):ai A A:=fun _ _ h=>h
theorem aH {H:Hp}{p:Addr}(h:H p=none)(o:HO):∃H1,ai H H1/\H1 p=some o/\upd H p o=H1:=⟨_,af h o,ae,rfl⟩
abbrev ba (s:Stmt)(x:Str):Prop:=(ak s).names.lookup x=some .globalImplicit
theorem aw {H H':Hp}{a:Addr}(s:ai H H')(h:H' a=none):H a=none:=by
 match e:H a with
 | none=>rfl
 | some o=>rw [s _ _ e] at h; cases h
theorem az {H H':Hp}{a:Addr}{o:HO}(s:ai H H')(h:H a=none):ai H (upd H' a o):=fun b u e=>by rw [aj (ag e h)]; exact s b u e
theorem ao {H H':Hp}{a:Addr}{o:HO}(s:ai H H')(h:H' a=none):ai H (upd H' a o):=az s (aw s h)
theorem br {α:Type}(f:α->V)(xs:List α){r:Int}(h0:0<=r)(h1:r < (xs.length:Int)):∃x,xs[r.toNat]? = some x/\x∈xs/\eZ (xs.map f) r=some (f x):=by
 have hr:r.toNat < xs.length:=by omega
 have e:r=((r.toNat:Nat):Int):=by omega
 have q:eZ (xs.map f) ((r.toNat:Nat):Int)=some (f xs[r.toNat]):=bJ (by rw [S2,Sx hr]; rfl)
 rw [← e] at q
 exact ⟨xs[r.toNat],Sx hr,U3 hr,q⟩
theorem jJ {xs:List V}{r:Int}(h0:0<=r)(h1:r < (xs.length:Int)):∃x,xs[r.toNat]? = some x/\eZ xs r=some x:=by
 have hr:r.toNat < xs.length:=by omega
 have e:r=((r.toNat:Nat):Int):=by omega
 have q:eZ xs ((r.toNat:Nat):Int)=some xs[r.toNat]:=bJ (Sx hr)
 rw [← e] at q
 exact ⟨xs[r.toNat],Sx hr,q⟩
structure Row (b:Int)(row:List Int)(n:Nat):Prop where
 len:row.length=n
 all:∀x∈row,0<=x/\x < b
theorem Row.at {b:Int}{row:List Int}{n:Nat}(h:Row b row n){i:Int}(h0:0<=i)(h1:i < n):∃x,eZ (row.map V.int) i=some (.int x)/\0<=x/\x < b:=by
 obtain ⟨x,_,hx,e⟩:=br V.int row (r:=i) h0 (by rw [h.len]; exact h1)
 exact ⟨x,e,h.all x hx⟩
def gK (K:Sw):Sp:=fun vs H Q _=>∃(a:Addr) (ns:List Int) (k:Int),vs=[.ref a,.int k]/\aq K H a (ns.map V.int)/\0<=k/\∀c:Int,Q (.int c) H
theorem Dj:aE ["script","k"] ["script","k"] (ak qh):=⟨rfl,rfl,rfl,by decide +kernel,rfl,by decide +kernel,by decide +kernel⟩
theorem qR:ba qh "len":=by decide +kernel
theorem yH {f:Addr}{fd:S9}(F:cL K "_law_cell_at" "_law_cell_at" qh f fd)(m_len:mg "len"=none):aN P w K mg base b6 1 f fd ["script","k"] (gK K):=by
 refine F.ok Dj (fun vs H Q E h=>?_) (fun cdv A outer s H vs Q E hr h=>?_)
 · obtain ⟨a,ns,k,rfl,_⟩:=h
   rfl
 obtain ⟨a,ns,k,rfl,hs,h0,q⟩:=h
 refine ⟨_,Xp (WI (WZ (WX Xl (WB 1) (W4 Xa qR m_len Te (WC (WB 0) WD))) (WK (WU (WG WM (WB 0) (WB 1)))) W2)
   (WK (WU WE))),?_⟩
 refine ⟨_,rfl,_,rfl,a,_,rfl,.inl hs,_,_,rfl,rfl,_,rfl,?_⟩
 refine aD (fun c=>?_) (fun _=>q 0)
 have hk:k < ((ns.map V.int).length:Int):=of_decide_eq_true c
 rw [Sv] at hk
 obtain ⟨x,_,_,kS⟩:=br V.int ns h0 hk
 exact ⟨_,rfl,_,rfl,a,_,_,_,rfl,rfl,hs,kS,q x⟩
theorem uo (s:Src K mg "_law_cell_at" qh)(m_len:mg "len"=none):aP P w K mg base "_law_cell_at" ["script","k"] 1 (gK K):=
 let ⟨f,fd,F,m⟩:=s
 ⟨f,fd,yH F m_len,F.kp,eE F fun _ _ _ _ _ _ _ _=>rfl,m⟩
def cN:Sp:=fun vs H Q _=>∃(c many bs:Int),vs=[.int c,.int many,.int bs]/\0<=many/\many<=900/\0 < bs/\bs < 2 ^ 30/\∀l row,H l=none->Row bs row many.toNat->Q (.ref l) (upd H l (.lst (row.map V.int)))
theorem bt:aE ["cell","many","base","row","rest","k","stir"] ["cell","many","base"] (ak fM):=⟨rfl,rfl,rfl,by decide +kernel,rfl,by decide +kernel,by decide +kernel⟩
theorem iU:ba fM "range":=by decide +kernel
theorem oF {f:Addr}{fd:S9}(F:cL K "_law_numbers" "_law_numbers" fM f fd)(m_range:mg "range"=none):aN P w K mg base b6 1 f fd ["cell","many","base"] cN:=by
 refine F.ok bt (fun vs H Q E h=>?_) (fun cdv A outer s H vs Q E hr h=>?_)
 · obtain ⟨c,many,bs,rfl,_⟩:=h
   rfl
 obtain ⟨c,many,bs,rfl,uR,hm1,yk,zR,q⟩:=h
 refine ⟨_,Xp (WI (WS 0 bt.nd (WJ WY (WB 0) (WJ L3.BW (WJ XB WE WE) (WJ XB WE WE))))
   (WI (WS 3 bt.nd (W0 WD))
   (WI (WS 4 bt.nd (WJ Xu (WB 0) (WJ XB WE WE)))
   (WI (Xb (Xj iU m_range (WC (WB 1) WD)) (WN 5 bt.nd) (WI (WS 6 bt.nd (WJ WY (WJ Xf (WJ Xd (WJ Xd (WB 0) (WJ Xf WE (WB 5))) WE) WE) WE))
   (WI (WS 6 bt.nd (WJ WY (WJ Xf (WB 6) (WB 6)) WE))
   (WI (WS 6 bt.nd (WJ Xe (WJ WY (WJ Xf (WJ Xd (WB 6) (WJ Xf WE (WJ Xd (WB 5) WE))) WE) WE) WE))
   (WI (WZ (WX L3.Ld (WB 0) (WJ XB WE WE)) (WI (WS 6 bt.nd (WB 4))
   (WK (WS 4 bt.nd (WJ Xe (WB 4) (WB 2))))) W2)
   (WK (Xh (Xk (WB 3) (WC (WJ WY (WB 6) (WB 2)) WD)))))))))
   (WK (WU (WB 3))))))),?_⟩
 have QX:(0:Int) < 10 ^ (45:Int).toNat * 10 ^ (45:Int).toNat:=by decide +kernel
 have LY:((10:Int) ^ (45:Int).toNat).natAbs < 2 ^ 150:=by decide +kernel
 refine ⟨_,rfl,_,_,rfl,rfl,⟨by decide,by decide,by decide⟩,_,_,rfl,rfl,⟨by decide,by decide,by decide⟩,_,_,rfl,rfl,⟨S8 LY (Nat.pow_le_pow_right (by decide) (by decide)),S8 LY (Nat.pow_le_pow_right (by decide) (by decide))⟩,_,_,rfl,rfl,QX,?_⟩
 refine ⟨Yz,fun l hl=>?_⟩
 refine ⟨_,rfl,_,_,rfl,rfl,⟨by decide,by decide,by decide⟩,_,_,rfl,rfl,?_⟩
 refine ⟨_,rfl,many,rfl,by omega,by omega,?_⟩
 refine bQ (lo:=0) (n:=many.toNat) (fun i σ H2=>∃(c rest:Int) (kv sv:Option V) (row:List Int),σ=[some (.int c),some (.int many),some (.int bs),some (.ref l),some (.int rest),kv,sv]/\H2=upd H l (.lst (row.map V.int))/\Row bs row i) ?_ ?_ ?_
 · exact ⟨_,_,none,none,[],rfl,rfl,⟨rfl,fun x hx=>nomatch hx⟩⟩
 · rintro i σ H2 hi ⟨c,rest,kv,sv,row,rfl,rfl,oq⟩
   refine ⟨_,rfl,_,rfl,_,_,rfl,rfl,.inl ⟨by decide,by decide⟩,_,_,rfl,rfl,_,_,rfl,rfl,_,_,rfl,rfl,.inr ⟨by decide,by decide⟩,_,_,rfl,rfl,(by show (0:Int) < 2147483647; decide),?_⟩
   have s1:∀n:Int,0<=n % 2147483647/\n % 2147483647 < 2147483647:=fun n=>⟨S7 _ (by decide),S0 _ (by decide)⟩
   refine ⟨_,rfl,_,rfl,_,_,rfl,rfl,.inr ⟨by have:=s1 ((c + 977 * (0 + (i:Int)) + 1) * 48271); omega,by have:=s1 ((c + 977 * (0 + (i:Int)) + 1) * 48271); omega⟩,_,_,rfl,rfl,(by show (0:Int) < 2147483629; decide),?_⟩
   refine ⟨_,rfl,_,rfl,_,_,rfl,rfl,_,_,rfl,rfl,.inl ⟨by decide,by decide⟩,_,_,rfl,rfl,_,_,rfl,rfl,.inr ⟨by decide,by decide⟩,_,_,rfl,rfl,(by show (0:Int) < 2147483563; decide),_,_,rfl,rfl,⟨(by show (0:Int) < 8; decide),(by show (8:Int) < 2 ^ 1000; decide +kernel)⟩,?_⟩
   have hd:row.length<=1000:=by have:=oq.len; omega
   refine ⟨_,rfl,_,_,rfl,rfl,⟨by decide,by decide,by decide⟩,_,_,rfl,rfl,_,rfl,?_⟩
   refine aD (fun c1=>?_) (fun c1=>?_)
   · refine ⟨_,rfl,?_⟩
     refine ⟨_,rfl,_,rfl,_,_,rfl,rfl,⟨yk,Int.lt_trans zR (by decide +kernel)⟩,?_⟩
     refine ⟨_,rfl,.inl ⟨rfl,_,aq.of ae⟩,_,rfl,_,rfl,_,_,rfl,rfl,yk,l,_,_,rfl,rfl,ae,by rw [Sv]; exact aB hd,?_⟩
     refine ⟨_,_,_,_,row++[_],rfl,by rw [b4,SR]; rfl,⟨by rw [Sy,oq.len]; rfl,fun x hx=>?_⟩⟩
     rcases List.mem_append.mp hx with z | z
     · exact oq.all x z
     · have e:=List.mem_singleton.mp z
       rw [e]
       exact ⟨S7 _ (by omega),S0 _ yk⟩
   · refine ⟨_,rfl,.inl ⟨rfl,_,aq.of ae⟩,_,rfl,_,rfl,_,_,rfl,rfl,yk,l,_,_,rfl,rfl,ae,by rw [Sv]; exact aB hd,?_⟩
     refine ⟨_,_,_,_,row++[_],rfl,by rw [b4,SR]; rfl,⟨by rw [Sy,oq.len]; rfl,fun x hx=>?_⟩⟩
     rcases List.mem_append.mp hx with z | z
     · exact oq.all x z
     · have e:=List.mem_singleton.mp z
       rw [e]
       exact ⟨S7 _ (by omega),S0 _ yk⟩
 · rintro σ H2 ⟨c,rest,kv,sv,row,rfl,rfl,oq⟩
   exact ⟨_,rfl,q l row hl oq⟩
theorem mE (s:Src K mg "_law_numbers" fM)(m_range:mg "range"=none):aP P w K mg base "_law_numbers" ["cell","many","base"] 1 cN:=
 let ⟨f,fd,F,m⟩:=s
 ⟨f,fd,oF F m_range,F.kp,nM F fun _ _ _ _ _ _ _ _ _=>rfl,m⟩
abbrev wG:Stmt:=top 23
abbrev qi:Stmt:=top 24
theorem Row.mono {b c:Int}{row:List Int}{n:Nat}(h:Row b row n)(hb:b<=c):Row c row n:=⟨h.len,fun x hx=>⟨(h.all x hx).1,Vw (h.all x hx).2 hb⟩⟩
abbrev DY (names:List Str):Str->Str->Prop:=fun t y=>t="box"/\y∈names
def jn:Sp:=fun vs H Q _=>∃(r na:Addr) (row:List Int) (n:Nat) (names:List Str),vs=[.ref r,.ref na]/\H r=some (.lst (row.map V.int))/\Row (2 ^ 40) row n/\3<=n/\H na=some (.lst (names.map V.str))/\names.length<=900 /\
 ∀(v:V) (H':Hp) (e:E),ai H H'->b7 H' v e->e.ow->e.okIn (DY names)->e.dep<=2->Q v H'
theorem ku:aE ["row","names","number","some","one","other","way"] ["row","names"] (ak wG):=⟨rfl,rfl,rfl,by decide +kernel,rfl,by decide +kernel,by decide +kernel⟩
theorem mz:ba wG "len":=by decide +kernel
theorem Ci {f:Addr}{fd:S9}(F:cL K "_law_sum" "_law_sum" wG f fd)(m_len:mg "len"=none):aN P w K mg base b6 1 f fd ["row","names"] jn:=by
 refine F.ok ku (fun vs H Q E h=>?_) (fun cdv A outer s H vs Q E hr h=>?_)
 · obtain ⟨r,na,row,n,names,rfl,_⟩:=h
   rfl
 obtain ⟨r,na,row,n,names,rfl,fW,hR,P8,gZ,gB,q⟩:=h
 refine ⟨_,Xp (WI (WS 2 ku.nd (WG WM (W0 (WC (WJ WY (WG WM (WB 0) WE) WE) (WC (WJ WY (WG WM (WB 0) WE) WE) (WC (WJ Xd (WJ XB WE WE) (WG WM (WB 0) WE)) WD)))) (WJ Xe (WJ WY (WG WM (WB 0) WE) WE) WE)))
   (WI (WS 3 ku.nd (WJ Xi (W0 (WC (WT (WC WQ (WC (WB 2) WD))) WD)) (Xc [none] ["name"] (show ar _ (ak wG) from ⟨rfl,by decide +kernel,by decide +kernel,by decide +kernel⟩) (by rfl) (W5 (WB 1)) (fun _ _ _ _ _=>⟨(WN 0 (show (["name"]:List Str).Nodup from by decide +kernel)),W6,(WT (WC WQ (WC (WB 0) WD)))⟩))))
   (WI (WS 4 ku.nd (WG WM (WB 3) (WJ WY (WJ Xe (WG WM (WB 0) WE) WE) (W4 Xa mz m_len Te (WC (WB 3) WD)))))
   (WI (WS 5 ku.nd (WG WM (WB 3) (WJ WY (WJ Xe (WG WM (WB 0) WE) WE) (W4 Xa mz m_len Te (WC (WB 3) WD)))))
   (WI (WS 6 ku.nd (WJ WY (WG WM (WB 0) WE) WE))
   (WI (WZ (WX Xl (WB 6) WE) (WK (WU (WB 4))) W2)
   (WI (WZ (WX W3 (WB 6) WE) (WK (WU (WT (WC WQ (WC (WB 4) (WC (WB 5) WD)))))) W2)
   (WI (WZ (WX W3 (WB 6) WE) (WK (WU (WT (WC WQ (WC (WT (WC WQ (WC (WB 5) (WC (WT (WC WQ (WC (WJ WY (WG WM (WB 0) WE) WE) WD))) WD)))) (WC (WB 4) WD)))))) W2)
   (WK (WU (WT (WC WQ (WC (WB 4) (WC (WT (WC WQ (WC (WJ WY (WG WM (WB 0) WE) WE) WD))) WD)))))))))))))),?_⟩
 obtain ⟨x0,a0,GS,Ie⟩:=hR.at (i:=0) (by decide) (by omega)
 obtain ⟨x1,a1,Ig,Ih⟩:=hR.at (i:=1) (by decide) (by omega)
 obtain ⟨x2,a2,LA,LB⟩:=hR.at (i:=2) (by decide) (by omega)
 have pick:∃num:Int,eZ ([.int (x1 % 3),.int (x1 % 7),.int (10 ^ (20:Int).toNat + x1)]:List V) (x2 % 12 / 5)=some (.int num)/\num.natAbs < 2 ^ 100:=by
   have Oi:(10:Int) ^ (20:Int).toNat=100000000000000000000:=by decide +kernel
   rw [Oi]
   rcases (show x2 % 12 / 5=0\/x2 % 12 / 5=1\/x2 % 12 / 5=2 by omega) with e | e | e <;> rw [e]
   · exact ⟨_,rfl,by omega⟩
   · exact ⟨_,rfl,by omega⟩
   · exact ⟨_,rfl,by omega⟩
 obtain ⟨num,kS,J2⟩:=pick
 refine ⟨_,rfl,r,_,_,_,rfl,rfl,aq.of fW,a1,_,_,rfl,rfl,(by show (0:Int) < 3; decide),_,rfl,r,_,_,_,rfl,rfl,aq.of fW,a1,_,_,rfl,rfl,(by show (0:Int) < 7; decide),?_⟩
 refine ⟨_,_,rfl,rfl,⟨by decide,by decide,by decide⟩,_,rfl,r,_,_,_,rfl,rfl,aq.of fW,a1,_,_,rfl,rfl,YC,fun l hl=>?_⟩
 have s1:ai H (upd H l (.lst [.int (x1 % 3),.int (x1 % 7),.int (10 ^ (20:Int).toNat + x1)])):=af hl _
 refine ⟨_,rfl,r,_,_,_,rfl,rfl,aq.of (s1 _ _ fW),a2,_,_,rfl,rfl,(by show (0:Int) < 12; decide),_,_,rfl,rfl,⟨(by show (0:Int) < 5; decide),(by show (5:Int) < 2 ^ 1000; decide +kernel)⟩,l,_,_,_,rfl,rfl,aq.of ae,kS,?_⟩
 generalize (upd H l (.lst [.int (x1 % 3),.int (x1 % 7),.int (10 ^ (20:Int).toNat + x1)]))=H1 at s1 ⊢
 refine ⟨_,rfl,YB,fun p hp=>⟨YA,fun l1 uN=>?_⟩⟩
 have s2:ai H (upd (upd H1 p (.tup [.str "number",.int num])) l1 (.lst [.ref p])):=ao (ao s1 hp) uN
 have L7:b7 (upd (upd H1 p (.tup [.str "number",.int num])) l1 (.lst [.ref p])) (.ref p) (.num num):=⟨p,rfl,by rw [aj (ag ae uN),ae]⟩
 have jZ:(upd (upd H1 p (.tup [.str "number",.int num])) l1 (.lst [.ref p])) l1=some (.lst [.ref p]):=ae
 generalize (upd (upd H1 p (.tup [.str "number",.int num])) l1 (.lst [.ref p]))=H2 at s2 L7 jZ ⊢
 have yu:=s2 _ _ gZ
 refine ⟨_,rfl,na,rfl,⟨_,aq.of yu⟩,fun nb kU=>?_⟩
 refine aL (xs:=names.map V.str) (fun i H3=>∃vb:List V,ai H2 H3/\H3 nb=some (.lst vb)/\vb.length=i/\Paired (b7 H3) vb ((names.take i).map (TW.E.box "box"))) ⟨[],af kU _,ae,rfl,.nil⟩ (fun i H3 _ z=>aq.of (z.choose_spec.1 _ _ yu)) (fun i x H3 hx z=>?_) (fun H3 z=>?_)
 · obtain ⟨vb,s3,uG,gC,pb⟩:=z
   obtain ⟨nm,Bn,rfl⟩ : ∃nm,names[i]? = some nm/\x=V.str nm:=by
     rw [S2] at hx
     obtain ⟨y,h1,h2⟩:=Option.map_eq_some_iff.mp hx
     exact ⟨y,h1,h2.symm⟩
   have cj:i < names.length:=(List.getElem?_eq_some_iff.mp Bn).1
   refine aG ?_
   refine bp (A:=fun H3=>bK _ nb _ H3 _) ?_
   refine ⟨_,rfl,YB,fun p2 bF=>⟨vb,?_,aB (by omega),aA (Pv:=fun i H3=>∃vb:List V,ai H2 H3/\H3 nb=some (.lst vb)/\vb.length=i/\Paired (b7 H3) vb ((names.take i).map (TW.E.box "box"))) (by repeat' constructor) (by rw [Sv]; exact cj) ?_⟩⟩
   · rw [aj (ag uG bF)]; exact uG
   · have He:(upd H3 p2 (.tup [.str "box",.str nm])) nb=some (.lst vb):=by rw [aj (ag uG bF)]; exact uG
     have t4:TK H3 (upd (upd H3 p2 (.tup [.str "box",.str nm])) nb (.lst (vb++[.ref p2]))):=(aC bF _).trans (TK.lst He)
     refine ⟨vb++[.ref p2],az (ao s3 bF) kU,ae,by rw [Sy,gC]; rfl,?_⟩
     rw [SQ,Bn,SR]
     exact Paired.snoc (Paired.aI pb fun a b h=>h.keep t4) ⟨p2,rfl,by rw [aj (ag uG bF).symm]; exact ae⟩
 · obtain ⟨vb,s3,uG,gC,pb⟩:=z
   rw [Sv] at gC pb
   rw [SV] at pb
   refine ⟨l1,nb,_,_,rfl,rfl,s3 _ _ jZ,uG,small (show 1 + vb.length<=1000 by omega),fun so Fs=>?_⟩
   have s4:=ao (o:=.lst ([.ref p]++vb)) (aa s2 s3) Fs
   have all:∀(j:Int) (H4:Hp),ai (upd H3 so (.lst ([V.ref p]++vb))) H4->0<=j->∃v e,eZ ([V.ref p]++vb) (j % (([V.ref p]++vb).length:Int))=some v/\b7 H4 v e/\e.ow/\e.okIn (DY names)/\e.dep=0:=fun j H4 s5 hj=>by
     have hG:(0:Int) < (([V.ref p]++vb).length:Int):=by rw [Sy]; show (0:Int) < ((1 + vb.length:Nat):Int); omega
     obtain ⟨v,h1,h2⟩:=jJ (xs:=[V.ref p]++vb) (r:=j % (([V.ref p]++vb).length:Int)) (S7 _ (by omega)) (S0 _ hG)
     have pa:Paired (b7 (upd H3 so (.lst ([V.ref p]++vb)))) ([V.ref p]++vb) (TW.E.num num :: names.map (TW.E.box "box")):=.cons ((L7.keep (ai.tk s3)).keep (aC Fs _)) (Paired.aI pb fun a b h=>h.keep (aC Fs _))
     obtain ⟨e,h3,h4⟩:=Paired.get pa h1
     refine ⟨v,e,h2,h4.keep (ai.tk s5),?_⟩
     rcases List.mem_cons.mp (SF h3) with z | z
     · subst z
       exact ⟨Tj,J2,rfl⟩
     · obtain ⟨y,hy,rfl⟩:=List.mem_map.mp z
       exact ⟨Tj,⟨rfl,hy⟩,rfl⟩
   have rA:(upd H3 so (.lst ([V.ref p]++vb))) so=some (.lst ([.ref p]++vb)):=ae
   have ot:=s4 _ _ fW
   have pP:(0:Int) < (([V.ref p]++vb).length:Int):=by rw [Sy]; show (0:Int) < ((1 + vb.length:Nat):Int); omega
   generalize ([V.ref p]++vb)=sv at all rA s4 ot pP ⊢
   generalize (upd H3 so (.lst sv))=H4 at all rA s4 ot ⊢
   have d8:(8:Int) < 2 ^ 1000:=by decide +kernel
   have Od:(12:Int) < 2 ^ 1000:=by decide +kernel
   obtain ⟨v1,e1,N6,ic,hU,fX,sH⟩:=all (x0 / 8) H4 (same_refl _) (by omega)
   obtain ⟨v2,e2,at2,zL,zZ,Ae,Og⟩:=all (x2 / 12) H4 (same_refl _) (by omega)
   refine ⟨_,rfl,_,rfl,r,_,_,_,rfl,rfl,aq.of ot,a0,_,_,rfl,rfl,⟨(by show (0:Int) < 8; decide),d8⟩,_,rfl,so,_,rfl,.inl (aq.of rA),_,_,rfl,rfl,pP,so,_,_,_,rfl,rfl,aq.of rA,N6,?_⟩
   refine ⟨_,rfl,_,rfl,r,_,_,_,rfl,rfl,aq.of ot,a2,_,_,rfl,rfl,⟨(by show (0:Int) < 12; decide),Od⟩,_,rfl,so,_,rfl,.inl (aq.of rA),_,_,rfl,rfl,pP,so,_,_,_,rfl,rfl,aq.of rA,at2,?_⟩
   refine ⟨_,rfl,r,_,_,_,rfl,rfl,aq.of ot,a0,_,_,rfl,rfl,(by show (0:Int) < 8; decide),?_⟩
   refine ⟨_,rfl,_,_,rfl,rfl,_,rfl,?_⟩
   refine aD (fun _=>⟨_,rfl,q v1 H4 e1 s4 ic hU fX (by omega)⟩) (fun _=>?_)
   refine ⟨_,rfl,rfl,_,rfl,?_⟩
   refine aD (fun _=>?_) (fun _=>?_)
   · refine ⟨_,rfl,_,rfl,YC,fun p5 sS=>?_⟩
     exact q (.ref p5) _ (.two .less e1 e2) (ao s4 sS) ⟨v1,v2,⟨p5,rfl,ae⟩,ic.keep (aC sS _),zL.keep (aC sS _)⟩ ⟨hU,zZ⟩ ⟨fX,Ae⟩ (by show max e1.dep e2.dep + 1<=2; omega)
   refine ⟨_,rfl,rfl,_,rfl,?_⟩
   refine aD (fun _=>?_) (fun _=>?_)
   · refine ⟨_,rfl,_,rfl,r,_,_,_,rfl,rfl,aq.of ot,a1,_,_,rfl,rfl,(by show (0:Int) < 5; decide),YB,fun p5 sS=>⟨YC,fun p6 uW=>⟨_,rfl,YC,fun p7 J8=>?_⟩⟩⟩
     have k5:b7 (upd H4 p5 (.tup [.str "number",.int (x1 % 5)])) (.ref p5) (.num (x1 % 5)):=⟨p5,rfl,ae⟩
     have k6:b7 (upd (upd H4 p5 (.tup [.str "number",.int (x1 % 5)])) p6 (.tup [.str "less",v2,.ref p5])) (.ref p6) (.two .less e2 (.num (x1 % 5))):=⟨v2,.ref p5,⟨p6,rfl,ae⟩,(zL.keep (aC sS _)).keep (aC uW _),k5.keep (aC uW _)⟩
     refine q (.ref p7) _ (.two .plus (.two .less e2 (.num (x1 % 5))) e1) (ao (ao (ao s4 sS) uW) J8) ⟨.ref p6,v1,⟨p7,rfl,ae⟩,k6.keep (aC J8 _),((ic.keep (aC sS _)).keep (aC uW _)).keep (aC J8 _)⟩ ⟨⟨zZ,Tj⟩,hU⟩ ⟨⟨Ae,?_⟩,fX⟩ (by show max (max e2.dep 0 + 1) e1.dep + 1<=2; omega)
     show (x1 % 5).natAbs < 2 ^ 100
     omega
   · refine ⟨_,rfl,_,rfl,r,_,_,_,rfl,rfl,aq.of ot,a1,_,_,rfl,rfl,(by show (0:Int) < 4; decide),YB,fun p5 sS=>⟨YC,fun p6 uW=>?_⟩⟩
     have k5:b7 (upd H4 p5 (.tup [.str "number",.int (x1 % 4)])) (.ref p5) (.num (x1 % 4)):=⟨p5,rfl,ae⟩
     refine q (.ref p6) _ (.two .plus e1 (.num (x1 % 4))) (ao (ao s4 sS) uW) ⟨v1,.ref p5,⟨p6,rfl,ae⟩,(ic.keep (aC sS _)).keep (aC uW _),k5.keep (aC uW _)⟩ ⟨hU,Tj⟩ ⟨fX,?_⟩ (by show max e1.dep 0 + 1<=2; omega)
     show (x1 % 4).natAbs < 2 ^ 100
     omega
theorem yf (s:Src K mg "_law_sum" wG)(m_len:mg "len"=none):aP P w K mg base "_law_sum" ["row","names"] 1 jn:=
 let ⟨f,fd,F,m⟩:=s
 ⟨f,fd,Ci F m_len,F.kp,eE F fun _ _ _ _ _ _ _ _=>rfl,m⟩
def lE:Sp:=fun vs H Q _=>∃(r na:Addr) (row:List Int) (n:Nat) (names:List Str),vs=[.ref r,.ref na]/\H r=some (.lst (row.map V.int))/\Row (2 ^ 30) row n/\4<=n/\H na=some (.lst (names.map V.str))/\names.length<=900 /\
 ∀(v:V) (H':Hp) (e:E),ai H H'->b7 H' v e->e.js->e.okIn (DY names)->e.dep<=5->Q v H'
theorem lB:aE ["row","names","one","other","way"] ["row","names"] (ak qi):=⟨rfl,rfl,rfl,by decide +kernel,rfl,by decide +kernel,by decide +kernel⟩
theorem eM:ba qi "_law_sum":=by decide +kernel
theorem yI {f:Addr}{fd:S9}(F:cL K "_law_condition" "_law_condition" qi f fd)(S:aP P w K mg base "_law_sum" ["row","names"] 1 jn):aN P w K mg base b6 2 f fd ["row","names"] lE:=by
 refine F.ok lB (fun vs H Q E h=>?_) (fun cdv A outer s H vs Q E hr h=>?_)
 · obtain ⟨r,na,row,n,names,rfl,_⟩:=h
   rfl
 obtain ⟨r,na,row,n,names,rfl,fW,hR,P8,gZ,gB,q⟩:=h
 refine ⟨_,Xp (WI (WS 2 lB.nd (WV S hr eM (WC (W0 (WC (WJ Xf WE (WG WM (WB 0) WE)) (WC (WG WM (WB 0) WE) (WC (WG WM (WB 0) WE) WD)))) (WC (WB 1) WD))))
   (WI (WS 3 lB.nd (WV S hr eM (WC (W0 (WC (WJ Xe (WG WM (WB 0) WE) WE) (WC (WG WM (WB 0) WE) (WC (WG WM (WB 0) WE) WD)))) (WC (WB 1) WD))))
   (WI (WS 4 lB.nd (WJ WY (WG WM (WB 0) WE) WE))
   (WI (WZ (WX W3 (WB 4) WE) (WK (WU (WT (WC WQ WD)))) W2)
   (WI (WZ (WX W3 (WB 4) WE) (WK (WU (WT (WC WQ (WC (WT (WC WQ (WC (WB 2) (WC (WB 3) WD)))) WD))))) W2)
   (WI (WZ (WX W3 (WB 4) WE) (WK (WU (WT (WC WQ (WC (WT (WC WQ (WC (WB 2) (WC (WB 3) WD)))) (WC (WT (WC WQ (WC (WT (WC WQ (WC (WB 3) (WC (WB 2) WD)))) WD))) WD)))))) W2)
   (WK (WU (WG WM (W0 (WC (WT (WC WQ (WC (WB 2) (WC (WB 3) WD)))) (WC (WT (WC WQ (WC (WB 2) (WC (WB 3) WD)))) WD))) (WJ WY (WB 4) WE)))))))))),?_⟩
 obtain ⟨x0,a0,GS,Ie⟩:=hR.at (i:=0) (by decide) (by omega)
 obtain ⟨x1,a1,Ig,Ih⟩:=hR.at (i:=1) (by decide) (by omega)
 obtain ⟨x2,a2,LA,LB⟩:=hR.at (i:=2) (by decide) (by omega)
 obtain ⟨x3,a3,NK,NL⟩:=hR.at (i:=3) (by decide) (by omega)
 have Nn:∀a b c:Int,0<=a->a < 2 ^ 40->0<=b->b < 2 ^ 40->0<=c->c < 2 ^ 40->Row (2 ^ 40) [a,b,c] 3:=fun a b c h1 h2 h3 h4 h5 h6=>⟨rfl,fun x hx=>by
   rcases List.mem_cons.mp hx with e | hx
   · rw [e]; exact ⟨h1,h2⟩
   rcases List.mem_cons.mp hx with e | hx
   · rw [e]; exact ⟨h3,h4⟩
   rw [List.mem_singleton.mp hx]; exact ⟨h5,h6⟩⟩
 refine ⟨_,rfl,r,_,_,_,rfl,rfl,aq.of fW,a3,_,_,rfl,rfl,.inl ⟨by decide,by decide⟩,_,rfl,r,_,_,_,rfl,rfl,aq.of fW,a1,_,rfl,r,_,_,_,rfl,rfl,aq.of fW,a2,YC,fun l hl=>?_⟩
 refine ⟨_,rfl,l,na,[8 * x3,x1,x2],3,names,rfl,ae,Nn _ _ _ (by omega) (by omega) (by omega) (by omega) (by omega) (by omega),Sz _,by rw [aj (ag gZ hl)]; exact gZ,gB,fun v1 H1 e1 s1 ic hU fX sH=>?_⟩
 have s1:=aa (af hl _) s1
 have fF:=s1 _ _ fW
 have d8:(8:Int) < 2 ^ 1000:=by decide +kernel
 refine ⟨_,rfl,r,_,_,_,rfl,rfl,aq.of fF,a0,_,_,rfl,rfl,⟨(by show (0:Int) < 8; decide),d8⟩,_,rfl,r,_,_,_,rfl,rfl,aq.of fF,a2,_,rfl,r,_,_,_,rfl,rfl,aq.of fF,a1,YC,fun l2 jZ=>?_⟩
 have fE:=s1 _ _ gZ
 refine ⟨_,rfl,l2,na,[x0 / 8,x2,x1],3,names,rfl,ae,Nn _ _ _ (by omega) (by omega) (by omega) (by omega) (by omega) (by omega),Sz _,by rw [aj (ag fE jZ)]; exact fE,gB,fun v2 H2 e2 s2 zL zZ Ae Og=>?_⟩
 have s12:ai H1 H2:=aa (af jZ _) s2
 have ic:=ic.keep (ai.tk s12)
 have s2:=aa s1 s12
 have Ke:=s2 _ _ fW
 refine ⟨_,rfl,r,_,_,_,rfl,rfl,aq.of Ke,a0,_,_,rfl,rfl,(by show (0:Int) < 8; decide),?_⟩
 refine ⟨_,rfl,rfl,_,rfl,?_⟩
 refine aD (fun _=>?_) (fun _=>?_)
 · refine ⟨YA,fun p hp=>?_⟩
   exact q (.ref p) _ .yes (ao s2 hp) ⟨p,rfl,ae⟩ Tj Tj (by show 0<=5; omega)
 refine ⟨_,rfl,rfl,_,rfl,?_⟩
 refine aD (fun _=>?_) (fun _=>?_)
 · refine ⟨_,rfl,_,rfl,YC,fun p hp=>⟨YB,fun p2 bF=>?_⟩⟩
   have k1:b7 (upd H2 p (.tup [.str "same",v1,v2])) (.ref p) (.two .same e1 e2):=⟨v1,v2,⟨p,rfl,ae⟩,ic.keep (aC hp _),zL.keep (aC hp _)⟩
   exact q (.ref p2) _ (.nt (.two .same e1 e2)) (ao (ao s2 hp) bF) ⟨.ref p,⟨p2,rfl,ae⟩,k1.keep (aC bF _)⟩ ⟨hU,zZ⟩ ⟨fX,Ae⟩ (by show max e1.dep e2.dep + 1 + 1<=5; omega)
 refine ⟨_,rfl,rfl,_,rfl,?_⟩
 refine aD (fun _=>?_) (fun _=>?_)
 · refine ⟨_,rfl,_,rfl,YC,fun p hp=>⟨_,rfl,_,rfl,YC,fun p2 bF=>⟨YB,fun p3 uV=>⟨YC,fun p4 pP=>?_⟩⟩⟩⟩
   have k1:b7 (upd H2 p (.tup [.str "under",v1,v2])) (.ref p) (.two .under e1 e2):=⟨v1,v2,⟨p,rfl,ae⟩,ic.keep (aC hp _),zL.keep (aC hp _)⟩
   have k2:b7 (upd (upd H2 p (.tup [.str "under",v1,v2])) p2 (.tup [.str "under",v2,v1])) (.ref p2) (.two .under e2 e1):=⟨v2,v1,⟨p2,rfl,ae⟩,(zL.keep (aC hp _)).keep (aC bF _),(ic.keep (aC hp _)).keep (aC bF _)⟩
   have k3:b7 (upd (upd (upd H2 p (.tup [.str "under",v1,v2])) p2 (.tup [.str "under",v2,v1])) p3 (.tup [.str "not",.ref p2])) (.ref p3) (.nt (.two .under e2 e1)):=⟨.ref p2,⟨p3,rfl,ae⟩,k2.keep (aC uV _)⟩
   exact q (.ref p4) _ (.two .both (.two .under e1 e2) (.nt (.two .under e2 e1))) (ao (ao (ao (ao s2 hp) bF) uV) pP) ⟨.ref p,.ref p3,⟨p4,rfl,ae⟩,((k1.keep (aC bF _)).keep (aC uV _)).keep (aC pP _),k3.keep (aC pP _)⟩ ⟨⟨hU,zZ⟩,⟨zZ,hU⟩⟩ ⟨⟨fX,Ae⟩,⟨Ae,fX⟩⟩
     (by show max (max e1.dep e2.dep + 1) (max e2.dep e1.dep + 1 + 1) + 1<=5; omega)
 · refine ⟨_,rfl,_,rfl,YC,fun p hp=>⟨_,rfl,_,rfl,YC,fun p2 bF=>⟨YB,fun l3 Bl=>?_⟩⟩⟩
   have k1:b7 (upd H2 p (.tup [.str "same",v1,v2])) (.ref p) (.two .same e1 e2):=⟨v1,v2,⟨p,rfl,ae⟩,ic.keep (aC hp _),zL.keep (aC hp _)⟩
   have k2:b7 (upd (upd H2 p (.tup [.str "same",v1,v2])) p2 (.tup [.str "under",v1,v2])) (.ref p2) (.two .under e1 e2):=⟨v1,v2,⟨p2,rfl,ae⟩,(ic.keep (aC hp _)).keep (aC bF _),(zL.keep (aC hp _)).keep (aC bF _)⟩
   have last:∀X:Int,X=x0 % 8 % 2->∃(v:V) (e:TW.E),eZ [V.ref p,V.ref p2] X=some v/\b7 (upd (upd H2 p (.tup [.str "same",v1,v2])) p2 (.tup [.str "under",v1,v2])) v e/\e.js/\e.okIn (DY names)/\e.dep<=5:=fun X hX=>by
     rcases (show X=0\/X=1 by omega) with rfl | rfl
     · exact ⟨_,_,rfl,k1.keep (aC bF _),⟨hU,zZ⟩,⟨fX,Ae⟩,(by show max e1.dep e2.dep + 1<=5; omega)⟩
     · exact ⟨_,_,rfl,k2,⟨hU,zZ⟩,⟨fX,Ae⟩,(by show max e1.dep e2.dep + 1<=5; omega)⟩
   obtain ⟨v,e,kS,ke,h1,h2,h3⟩:=last _ rfl
   exact ⟨_,rfl,_,_,rfl,rfl,(by show (0:Int) < 2; decide),l3,_,_,_,rfl,rfl,aq.of ae,kS,q v _ e (ao (ao (ao s2 hp) bF) Bl) (ke.keep (aC Bl _)) h1 h2 h3⟩
theorem uq (s:Src K mg "_law_condition" qi)(S:aP P w K mg base "_law_sum" ["row","names"] 1 jn):aP P w K mg base "_law_condition" ["row","names"] 2 lE:=
 let ⟨f,fd,F,m⟩:=s
 ⟨f,fd,yI F S,F.kp,eE F fun _ _ _ _ _ _ _ _=>rfl,m⟩
abbrev km:Stmt:=top 25
def lF:Sp:=fun vs H Q _=>∃(r na:Addr) (row:List Int) (n:Nat) (names:List Str) (many:Int),vs=[.ref r,.ref na,.int many]/\H r=some (.lst (row.map V.int))/\Row (2 ^ 30) row n/\7<=n/\H na=some (.lst (names.map V.str))/\names.length<=900/\0 < many/\many < 2 ^ 30 /\
 ∀(v:V) (H':Hp) (e:Nd),ai H H'->bO H' v e->e.good (· ∈ names) many 5->Q v H'
theorem oQ:aE ["row","names","many","after","way"] ["row","names","many"] (ak km):=⟨rfl,rfl,rfl,by decide +kernel,rfl,by decide +kernel,by decide +kernel⟩
theorem eN:ba km "_law_sum":=by decide +kernel
theorem eI:ba km "_law_condition":=by decide +kernel
theorem qU:ba km "len":=by decide +kernel
theorem yK {f:Addr}{fd:S9}(F:cL K "_law_node" "_law_node" km f fd)(m_len:mg "len"=none)(S:aP P w K mg base "_law_sum" ["row","names"] 1 jn)(C:aP P w K mg base "_law_condition" ["row","names"] 2 lE):aN P w K mg base b6 3 f fd ["row","names","many"] lF:=by
 refine F.ok oQ (fun vs H Q E h=>?_) (fun cdv A outer s H vs Q E hr h=>?_)
 · obtain ⟨r,na,row,n,names,many,rfl,_⟩:=h
   rfl
 obtain ⟨r,na,row,n,names,many,rfl,fW,hR,RR,gZ,gB,uR,hm1,q⟩:=h
 have S1:=S.mono (show 1<=2 by decide)
 refine ⟨_,Xp (WI (WS 3 oQ.nd (WJ WY (WG WM (WB 0) WE) (WB 2)))
   (WI (WS 4 oQ.nd (WJ WY (WG WM (WB 0) WE) WE))
   (WI (WZ (Xq (Xv (WX W3 (WB 4) WE) (XE (Xq (L3.AU (WX (XC (m:=0) (bq hr _ (by decide))) (WB 1) (W0 WD)) (L3.AR (WX Xl (WB 4) WE))))))) (WK (WU (WT (WC WQ WD)))) W2)
   (WI (WZ (WX Xl (WB 4) WE) (WK (WU (WT (WC WQ (WC (WG WM (WB 1) (WJ WY (WG WM (WB 0) WE) (W4 Xa qU m_len Te (WC (WB 1) WD)))) (WC (WV S1 hr eN (WC (WB 0) (WC (WB 1) WD))) (WC (WB 3) WD))))))) W2)
   (WI (WZ (WX Xl (WB 4) WE) (WK (WU (WT (WC WQ (WC (WV S1 hr eN (WC (WB 0) (WC (WB 1) WD))) (WC (WB 3) WD)))))) W2)
   (WK (WU (WT (WC WQ (WC (WV C hr eI (WC (WB 0) (WC (WB 1) WD))) (WC (WB 3) (WC (WJ WY (WG WM (WB 0) WE) (WB 2)) WD)))))))))))),?_⟩
 obtain ⟨x4,a4,LC,NM⟩:=hR.at (i:=4) (by decide) (by omega)
 obtain ⟨x5,a5,Rp,Rq⟩:=hR.at (i:=5) (by decide) (by omega)
 obtain ⟨x6,a6,So,Sq⟩:=hR.at (i:=6) (by decide) (by omega)
 have f0:∀x:Int,0<=x % many/\x % many < many:=fun x=>⟨S7 _ (by omega),S0 _ uR⟩
 refine ⟨_,rfl,r,_,_,_,rfl,rfl,aq.of fW,a4,_,rfl,_,_,rfl,rfl,uR,?_⟩
 refine ⟨_,rfl,r,_,_,_,rfl,rfl,aq.of fW,a5,_,_,rfl,rfl,(by show (0:Int) < 8; decide),?_⟩
 refine ⟨_,rfl,rfl,_,rfl,?_⟩
 refine aD (fun c1=>?_) (fun c1=>?_)
 · refine rE ?_
   refine ⟨YA,fun p hp=>?_⟩
   exact q (.ref p) _ .fin (af hp _) ⟨p,rfl,ae⟩ Tj
 refine ⟨_,rfl,Yz,fun lz rp=>?_⟩
 obtain ⟨H1,s1,QC,zz⟩:=aH rp (.lst [])
 rw [zz]; clear zz
 have fF:=s1 _ _ fW
 have fE:=s1 _ _ gZ
 refine ⟨_,RB.nil (aq.of fE) (aq.of QC),_,rfl,?_⟩
 refine aD (fun c2=>?_) (fun c2=>?_)
 · refine ⟨_,rfl,_,_,rfl,rfl,_,rfl,?_⟩
   refine aD (fun c3=>?_) (fun c3=>?_)
   · refine ⟨YA,fun p hp=>?_⟩
     exact q (.ref p) _ .fin (ao s1 hp) ⟨p,rfl,ae⟩ Tj
   · have hz:names≠[]\/¬ x5 % 8 < 3:=.inr fun z=>c3 (decide_eq_true z)
     refine ⟨_,rfl,_,_,rfl,rfl,_,rfl,?_⟩
     refine aD (fun c4=>?_) (fun c4=>?_)
     · have hw:x5 % 8 < 3:=of_decide_eq_true c4
       have hG:0 < names.length:=by
         rcases hz with z | z
         · exact List.length_pos_iff.mpr z
         · exact absurd hw z
       have mK:(0:Int) < ((names.map V.str).length:Int):=by rw [Sv]; omega
       have gv:=S0 x6 mK
       obtain ⟨y,_,hy,kS⟩:=br V.str names (r:=x6 % ((names.map V.str).length:Int)) (S7 _ (by omega)) (by rw [Sv] at gv ⊢; exact gv)
       refine ⟨_,rfl,_,rfl,r,_,_,_,rfl,rfl,aq.of fF,a6,_,rfl,na,_,rfl,.inl (aq.of fE),_,_,rfl,rfl,mK,na,_,_,_,rfl,rfl,aq.of fE,kS,?_⟩
       refine ⟨_,rfl,_,rfl,r,na,row,n,names,rfl,fF,hR.mono (by decide),by omega,fE,gB,fun v1 H2 e1 s2 ic hU fX sH=>?_⟩
       refine ⟨_,rfl,YD,fun p hp=>?_⟩
       exact q (.ref p) _ (.put y e1 (x4 % many)) (ao (aa s1 s2) hp) ⟨v1,⟨p,rfl,ae⟩,ic.keep (aC hp _)⟩ ⟨hy,hU,fX,by omega,(f0 x4).1,(f0 x4).2⟩
     refine ⟨_,rfl,_,_,rfl,rfl,_,rfl,?_⟩
     refine aD (fun c5=>?_) (fun c5=>?_)
     · refine ⟨_,rfl,_,rfl,r,na,row,n,names,rfl,fF,hR.mono (by decide),by omega,fE,gB,fun v1 H2 e1 s2 ic hU fX sH=>?_⟩
       refine ⟨_,rfl,YC,fun p hp=>?_⟩
       exact q (.ref p) _ (.say e1 (x4 % many)) (ao (aa s1 s2) hp) ⟨v1,⟨p,rfl,ae⟩,ic.keep (aC hp _)⟩ ⟨hU,fX,by omega,(f0 x4).1,(f0 x4).2⟩
     · refine ⟨_,rfl,_,rfl,r,na,row,n,names,rfl,fF,hR,by omega,fE,gB,fun v1 H2 e1 s2 ic hU fX sH=>?_⟩
       refine ⟨_,rfl,_,rfl,r,_,_,_,rfl,rfl,aq.of (s2 _ _ fF),a6,_,rfl,_,_,rfl,rfl,uR,YD,fun p hp=>?_⟩
       exact q (.ref p) _ (.test e1 (x4 % many) (x6 % many)) (ao (aa s1 s2) hp) ⟨v1,⟨p,rfl,ae⟩,ic.keep (aC hp _)⟩ ⟨hU,fX,sH,(f0 x4).1,(f0 x4).2,(f0 x6).1,(f0 x6).2⟩
 · refine hV ?_
   have hz:names≠[]\/¬ x5 % 8 < 3:=.inl fun z=>c2 (by rw [z]; rfl)
   refine ⟨_,rfl,_,_,rfl,rfl,_,rfl,?_⟩
   refine aD (fun c4=>?_) (fun c4=>?_)
   · have hw:x5 % 8 < 3:=of_decide_eq_true c4
     have hG:0 < names.length:=by
       rcases hz with z | z
       · exact List.length_pos_iff.mpr z
       · exact absurd hw z
     have mK:(0:Int) < ((names.map V.str).length:Int):=by rw [Sv]; omega
     have gv:=S0 x6 mK
     obtain ⟨y,_,hy,kS⟩:=br V.str names (r:=x6 % ((names.map V.str).length:Int)) (S7 _ (by omega)) (by rw [Sv] at gv ⊢; exact gv)
     refine ⟨_,rfl,_,rfl,r,_,_,_,rfl,rfl,aq.of fF,a6,_,rfl,na,_,rfl,.inl (aq.of fE),_,_,rfl,rfl,mK,na,_,_,_,rfl,rfl,aq.of fE,kS,?_⟩
     refine ⟨_,rfl,_,rfl,r,na,row,n,names,rfl,fF,hR.mono (by decide),by omega,fE,gB,fun v1 H2 e1 s2 ic hU fX sH=>?_⟩
     refine ⟨_,rfl,YD,fun p hp=>?_⟩
     exact q (.ref p) _ (.put y e1 (x4 % many)) (ao (aa s1 s2) hp) ⟨v1,⟨p,rfl,ae⟩,ic.keep (aC hp _)⟩ ⟨hy,hU,fX,by omega,(f0 x4).1,(f0 x4).2⟩
   refine ⟨_,rfl,_,_,rfl,rfl,_,rfl,?_⟩
   refine aD (fun c5=>?_) (fun c5=>?_)
   · refine ⟨_,rfl,_,rfl,r,na,row,n,names,rfl,fF,hR.mono (by decide),by omega,fE,gB,fun v1 H2 e1 s2 ic hU fX sH=>?_⟩
     refine ⟨_,rfl,YC,fun p hp=>?_⟩
     exact q (.ref p) _ (.say e1 (x4 % many)) (ao (aa s1 s2) hp) ⟨v1,⟨p,rfl,ae⟩,ic.keep (aC hp _)⟩ ⟨hU,fX,by omega,(f0 x4).1,(f0 x4).2⟩
   · refine ⟨_,rfl,_,rfl,r,na,row,n,names,rfl,fF,hR,by omega,fE,gB,fun v1 H2 e1 s2 ic hU fX sH=>?_⟩
     refine ⟨_,rfl,_,rfl,r,_,_,_,rfl,rfl,aq.of (s2 _ _ fF),a6,_,rfl,_,_,rfl,rfl,uR,YD,fun p hp=>?_⟩
     exact q (.ref p) _ (.test e1 (x4 % many) (x6 % many)) (ao (aa s1 s2) hp) ⟨v1,⟨p,rfl,ae⟩,ic.keep (aC hp _)⟩ ⟨hU,fX,sH,(f0 x4).1,(f0 x4).2,(f0 x6).1,(f0 x6).2⟩
theorem uz (s:Src K mg "_law_node" km)(m_len:mg "len"=none)(S:aP P w K mg base "_law_sum" ["row","names"] 1 jn)(C:aP P w K mg base "_law_condition" ["row","names"] 2 lE):aP P w K mg base "_law_node" ["row","names","many"] 3 lF:=
 let ⟨f,fd,F,m⟩:=s
 ⟨f,fd,yK F m_len S C,F.kp,nM F fun _ _ _ _ _ _ _ _ _=>rfl,m⟩
theorem fC {X:Cx}{ss:List Stmt}{G:TS->Prop}(h:∃t,L3.SL X ss t/\G t):∃t,nr X ss t/\G t:=let ⟨t,a,b⟩:=h; ⟨t,a.h,b⟩
def fc {α:Type}(xs:List α)(lo hi:Option Int):List α:=(xs.drop (HT.bT xs.length 0 lo)).take (HT.bT xs.length xs.length hi - HT.bT xs.length 0 lo)
theorem ff {α:Type}(f:α->V)(xs:List α)(lo hi:Option Int):fe (xs.map f) lo hi=(fc xs lo hi).map f:=by
 unfold fe fc
 rw [Sv,← List.map_drop,← List.map_take]
theorem l7 {α:Type}(xs:List α)(lo hi:Option Int):(fc xs lo hi).Sublist xs:=(UX _ _).trans (List.drop_sublist _ _)
theorem xO {α:Type}(xs:List α)(n:Nat):fc xs none (some (n:Int))=xs.take n:=by
 unfold fc
 rw [HT.dq,HT.wu,Vk,Nat.sub_zero]
 by_cases h:n<=xs.length
 · rw [UA h]
 · rw [Nat.min_eq_right (by omega),SV,Tf (by omega)]
theorem tU {α:Type}(xs:List α)(m n:Nat)(h:n<=xs.length)(hm:m<=n):fc xs (some (m:Int)) (some (n:Int))=(xs.drop m).take (n - m):=by
 unfold fc
 rw [HT.dq,HT.dq,UA h,UA (by omega)]
def cK {α:Type}(n:Int)(xs:List α):List α:=if n=1 then xs else xs.reverse
theorem si {α:Type}(f:α->V)(n:Int)(xs:List α):cR n (xs.map f)=(cK n xs).map f:=by
 unfold cR cK
 split
 · rfl
 · rw [List.map_reverse]
theorem dk {α:Type}{n:Int}{xs:List α}{x:α}:x∈cK n xs↔x∈xs:=by
 unfold cK
 split
 · exact Iff.rfl
 · exact List.mem_reverse
theorem m9 {α:Type}{n:Int}{xs:List α}(h:xs.Nodup):(cK n xs).Nodup:=by
 unfold cK
 split
 · exact h
 · exact (List.Perm.nodup_iff (List.reverse_perm xs)).mpr h
theorem kC {α:Type}{n:Int}{xs:List α}:(cK n xs).length=xs.length:=by
 unfold cK
 split
 · rfl
 · exact List.length_reverse
abbrev eX:Stmt:=top 26
def DA (nm:List Str):Prop:=nm=(["a","ab"]:List Str)\/nm=(["x","a"]:List Str)\/nm=(["boxes","box"]:List Str)
structure bV (bs:List (Str×Int))(ins:List Str):Prop where
 nm:∃nm szs,DA nm/\szs.length<=2/\(∀s∈szs,(1:Int)<=s/\s<=5)/\bs=nm.zip szs
 ind:ins.Nodup
 insub:∀x∈ins,x∈bs.map (·.1)
theorem DA.len {nm:List Str}(h:DA nm):nm.length=2:=by rcases h with rfl | rfl | rfl <;> rfl
theorem DA.nd {nm:List Str}(h:DA nm):nm.Nodup:=by rcases h with rfl | rfl | rfl <;> decide +kernel
theorem lM {α β:Type}:∀(xs:List α) (ys:List β),ys.length<=xs.length->(xs.zip ys).map (·.1)=xs.take ys.length
 | [],[],_=>rfl
 | _ :: _,[],_=>rfl
 | [],_ :: _,h=>by simp at h
 | x :: xs,y :: ys,h=>by
   show x :: (xs.zip ys).map (·.1)=x :: xs.take ys.length
   rw [lM xs ys (by simpa using h)]
theorem bV.nd {bs:List (Str×Int)}{ins:List Str}(h:bV bs ins):(bs.map (·.1)).Nodup:=by
 obtain ⟨nm,szs,h1,h2,_,rfl⟩:=h.nm
 rw [lM _ _ (by rw [h1.len]; exact h2)]
 exact h1.nd.sublist (UX _ _)
theorem bV.len {bs:List (Str×Int)}{ins:List Str}(h:bV bs ins):bs.length<=2:=by
 obtain ⟨nm,szs,h1,h2,_,rfl⟩:=h.nm
 rw [List.length_zip]
 omega
theorem bV.sz {bs:List (Str×Int)}{ins:List Str}(h:bV bs ins):∀b∈bs,1<=b.2/\b.2<=5:=fun b hb=>by
 obtain ⟨nm,szs,h1,h2,h3,rfl⟩:=h.nm
 exact h3 _ (UL (a:=b.1) (b:=b.2) hb).2
def fP:Sp:=fun vs H Q _=>∃(n:Int),vs=[.int n]/\0<=n/\∀(p B I:Addr) (H':Hp) (vb:List V) (bs:List (Str×Int)) (ins:List Str),ai H H'->H' p=some (.tup [.ref B,.ref I])->H' B=some (.lst vb)->Paired (bU H') vb bs->H' I=some (.lst (ins.map V.str))->bV bs ins->Q (.ref p) H'
theorem fO:aE ["number","sizes","names","boxes","inputs"] ["number"] (ak eX):=⟨rfl,rfl,rfl,by decide +kernel,rfl,by decide +kernel,by decide +kernel⟩
theorem iO:ba eX "len":=by decide +kernel
theorem kO:ba eX "range":=by decide +kernel
theorem nP:ba eX "int":=by decide +kernel
theorem vI {f:Addr}{fd:S9}(F:cL K "_law_boxes" "_law_boxes" eX f fd)(m_len:mg "len"=none)(m_range:mg "range"=none)(m_int:mg "int"=none):aN P w K mg base b6 1 f fd ["number"] fP:=by
 refine F.ok fO (fun vs H Q E h=>?_) (fun cdv A outer s H vs Q E hr h=>?_)
 · obtain ⟨n,rfl,_⟩:=h
   rfl
 obtain ⟨n,rfl,P7,q⟩:=h
 refine fC ⟨_,(WI (WS 1 fO.nd (WG WM (W0 (WC (W0 (WC WE WD)) (WC (W0 (WC WE (WC WE WD))) (WC (W0 WD) (WC (W0 (WC WE WD)) (WC (W0 (WC WE (WC WE WD))) (WC (W0 (WC WE WD)) (WC (W0 (WC WE (WC WE WD))) (WC (W0 (WC WE WD)) WD))))))))) (WJ WY (WB 0) WE)))
   (WI (WS 2 fO.nd (WG WM (W0 (WC (W0 (WC WQ (WC WQ WD))) (WC (W0 (WC WQ (WC WQ WD))) (WC (W0 (WC WQ (WC WQ WD))) WD)))) (WJ WY (WJ Xe (WB 0) WE) WE)))
   (WI (Xr (i:=3) [none,some 2,some 1] ["k","names","sizes"] (show ar _ (ak eX) from ⟨rfl,by decide +kernel,by decide +kernel,by decide +kernel⟩) (by rfl) (Xj kO m_range (WC (W4 Xa iO m_len Te (WC (WB 1) WD)) WD)) (fun _ _ _ _ _=>⟨(WN 0 (show (["k","names","sizes"]:List Str).Nodup from by decide +kernel)),W6,(WT (WC (WG WM (WB 1) (WB 0)) (WC (WG WM (WB 2) (WB 0)) WD)))⟩) fO.nd)
   (WI (WS 4 fO.nd (XF (Xw (WB 2) (W4 Xa iO m_len Te (WC (WB 1) WD))) (WJ Xf (WJ WY (WJ Xe (WB 0) WE) WE) (Xg L3.pD nP m_int (by decide +kernel) (WC (Xn Xl (WJ WY (WJ Xe (WB 0) WE) WE) WE) WD)))))
   (WK (WU (WT (WC (WB 3) (WC (L3.wR (WB 4) (WJ Xu WE (WJ Xf WE (WJ WY (WJ Xe (WB 0) WE) WE)))) WD))))))))),?_⟩
 refine ⟨YA,fun Kw JL=>?_⟩
 obtain ⟨A0,Q5,OJ,zz⟩:=aH JL (.lst [.int 2])
 rw [zz]; clear zz
 refine ⟨YB,fun Kx JM=>?_⟩
 obtain ⟨A1,sA1,OK,zz⟩:=aH JM (.lst [.int 2,.int 3])
 rw [zz]; clear zz
 refine ⟨Yz,fun Ky JN=>?_⟩
 obtain ⟨A2,sA2,OL,zz⟩:=aH JN (.lst [])
 rw [zz]; clear zz
 refine ⟨YA,fun Kz JO=>?_⟩
 obtain ⟨A3,sA3,OM,zz⟩:=aH JO (.lst [.int 3])
 rw [zz]; clear zz
 refine ⟨YB,fun KA JP=>?_⟩
 obtain ⟨A4,sA4,ON,zz⟩:=aH JP (.lst [.int 2,.int 2])
 rw [zz]; clear zz
 refine ⟨YA,fun KC JQ=>?_⟩
 obtain ⟨A5,sA5,OO,zz⟩:=aH JQ (.lst [.int 5])
 rw [zz]; clear zz
 refine ⟨YB,fun KD JR=>?_⟩
 obtain ⟨A6,sA6,OP,zz⟩:=aH JR (.lst [.int 1,.int 3])
 rw [zz]; clear zz
 refine ⟨YA,fun KG JS=>?_⟩
 obtain ⟨A7,sA7,OQ,zz⟩:=aH JS (.lst [.int 4])
 rw [zz]; clear zz
 refine ⟨YF,fun QH JT=>?_⟩
 obtain ⟨Az,sAz,OR,zz⟩:=aH JT (.lst [.ref Kw,.ref Kx,.ref Ky,.ref Kz,.ref KA,.ref KC,.ref KD,.ref KG])
 rw [zz]; clear zz
 have Ox:=(sAz _ _ (sA7 _ _ (sA6 _ _ (sA5 _ _ (sA4 _ _ (sA3 _ _ (sA2 _ _ (sA1 _ _ OJ))))))))
 have Oy:=(sAz _ _ (sA7 _ _ (sA6 _ _ (sA5 _ _ (sA4 _ _ (sA3 _ _ (sA2 _ _ OK)))))))
 have Oz:=(sAz _ _ (sA7 _ _ (sA6 _ _ (sA5 _ _ (sA4 _ _ (sA3 _ _ OL))))))
 have OA:=(sAz _ _ (sA7 _ _ (sA6 _ _ (sA5 _ _ (sA4 _ _ OM)))))
 have OB:=(sAz _ _ (sA7 _ _ (sA6 _ _ (sA5 _ _ ON))))
 have OC:=(sAz _ _ (sA7 _ _ (sA6 _ _ OO)))
 have OD:=(sAz _ _ (sA7 _ _ OP))
 have OE:=(sAz _ _ OQ)
 have kA:ai H Az:=(aa (aa (aa (aa (aa (aa (aa (aa (aa (same_refl _) Q5) sA1) sA2) sA3) sA4) sA5) sA6) sA7) sAz)
 have pA:∃(sa:Addr) (szs:List Int),eZ ([.ref Kw,.ref Kx,.ref Ky,.ref Kz,.ref KA,.ref KC,.ref KD,.ref KG]:List V) (n % 8)=some (.ref sa)/\Az sa=some (.lst (szs.map V.int))/\szs.length<=2/\∀s∈szs,(1:Int)<=s/\s<=5:=by
   rcases (show n % 8=0\/n % 8=1\/n % 8=2\/n % 8=3\/n % 8=4\/n % 8=5\/n % 8=6\/n % 8=7 by omega) with e | e | e | e | e | e | e | e <;> rw [e]
   · exact ⟨Kw,[2],rfl,Ox,by decide,by decide⟩
   · exact ⟨Kx,[2,3],rfl,Oy,by decide,by decide⟩
   · exact ⟨Ky,[],rfl,Oz,by decide,by decide⟩
   · exact ⟨Kz,[3],rfl,OA,by decide,by decide⟩
   · exact ⟨KA,[2,2],rfl,OB,by decide,by decide⟩
   · exact ⟨KC,[5],rfl,OC,by decide,by decide⟩
   · exact ⟨KD,[1,3],rfl,OD,by decide,by decide⟩
   · exact ⟨KG,[4],rfl,OE,by decide,by decide⟩
 obtain ⟨sa,szs,Jc,u5,hs2,Ql⟩:=pA
 refine ⟨_,rfl,_,_,rfl,rfl,(by show (0:Int) < 8; decide),QH,_,_,_,rfl,rfl,aq.of OR,Jc,?_⟩
 refine ⟨YB,fun KH JU=>?_⟩
 obtain ⟨B0,Q6,OS,zz⟩:=aH JU (.lst [.str "a",.str "ab"])
 rw [zz]; clear zz
 refine ⟨YB,fun KI JV=>?_⟩
 obtain ⟨B1,sB1,OT,zz⟩:=aH JV (.lst [.str "x",.str "a"])
 rw [zz]; clear zz
 refine ⟨YB,fun KJ JW=>?_⟩
 obtain ⟨B2,sB2,OU,zz⟩:=aH JW (.lst [.str "boxes",.str "box"])
 rw [zz]; clear zz
 refine ⟨YC,fun QI JX=>?_⟩
 obtain ⟨Bz,sBz,OW,zz⟩:=aH JX (.lst [.ref KH,.ref KI,.ref KJ])
 rw [zz]; clear zz
 have OF:=(sBz _ _ (sB2 _ _ (sB1 _ _ OS)))
 have OG:=(sBz _ _ (sB2 _ _ OT))
 have OH:=(sBz _ _ OU)
 have kB:ai Az Bz:=(aa (aa (aa (aa (same_refl _) Q6) sB1) sB2) sBz)
 have pB:∃(na:Addr) (nm:List Str),eZ ([.ref KH,.ref KI,.ref KJ]:List V) (n / 8 % 3)=some (.ref na)/\Bz na=some (.lst (nm.map V.str))/\DA nm:=by
   rcases (show n / 8 % 3=0\/n / 8 % 3=1\/n / 8 % 3=2 by omega) with e | e | e <;> rw [e]
   · exact ⟨KH,["a","ab"],rfl,OF,.inl rfl⟩
   · exact ⟨KI,["x","a"],rfl,OG,.inr (.inl rfl)⟩
   · exact ⟨KJ,["boxes","box"],rfl,OH,.inr (.inr rfl)⟩
 obtain ⟨na,nm,Jd,gZ,J1⟩:=pB
 have d8:(8:Int) < 2 ^ 1000:=by decide +kernel
 have L6:(24:Int) < 2 ^ 1000:=by decide +kernel
 have Oe:(72:Int) < 2 ^ 1000:=by decide +kernel
 refine ⟨_,rfl,_,_,rfl,rfl,⟨(by show (0:Int) < 8; decide),d8⟩,_,_,rfl,rfl,(by show (0:Int) < 3; decide),QI,_,_,_,rfl,rfl,aq.of OW,Jd,?_⟩
 have u5:=kB _ _ u5
 have k0:=aa kA kB
 have R4:=J1.len
 have rp:(nm.zip szs).length=szs.length:=by rw [List.length_zip]; omega
 refine ⟨_,rfl,sa,_,rfl,.inl (aq.of u5),_,rfl,by rw [Sv]; omega,by rw [Sv]; omega,fun nb kU=>?_⟩
 rw [Sv]
 refine cg (lo:=0) (n:=((szs.length:Nat):Int).toNat) (fun i H2=>∃vb:List V,ai Bz H2/\H2 nb=some (.lst vb)/\vb.length=i/\Paired (bU H2) vb ((nm.zip szs).take i)) ⟨[],af kU _,ae,rfl,.nil⟩ (fun i H2 hi z=>?_) (fun H2 z=>?_)
 · obtain ⟨vb,s2,rh,gC,pb⟩:=z
   have Hi:i < szs.length:=by omega
   have DO:i < nm.length:=by omega
   have e0:((0:Int) + (i:Int)).toNat=i:=by omega
   obtain ⟨y,gy,_,Jf⟩:=br V.str nm (r:=0 + (i:Int)) (by omega) (by omega)
   obtain ⟨z,gz,_,Jg⟩:=br V.int szs (r:=0 + (i:Int)) (by omega) (by omega)
   rw [e0] at gy gz
   refine aG ?_
   refine bp (A:=fun H3=>bK _ nb _ H3 _) ?_
   refine ⟨_,rfl,_,rfl,na,_,_,_,rfl,rfl,aq.of (s2 _ _ gZ),Jf,_,rfl,_,rfl,sa,_,_,_,rfl,rfl,aq.of (s2 _ _ u5),Jg,YB,fun p2 bF=>⟨vb,?_,aB (by omega),aA (Pv:=fun i H2=>∃vb:List V,ai Bz H2/\H2 nb=some (.lst vb)/\vb.length=i/\Paired (bU H2) vb ((nm.zip szs).take i)) (by repeat' constructor) hi ?_⟩⟩
   · rw [aj (ag rh bF)]; exact rh
   · have He:(upd H2 p2 (.tup [.str y,.int z])) nb=some (.lst vb):=by rw [aj (ag rh bF)]; exact rh
     have t4:TK H2 (upd (upd H2 p2 (.tup [.str y,.int z])) nb (.lst (vb++[.ref p2]))):=(aC bF _).trans (TK.lst He)
     refine ⟨vb++[.ref p2],az (ao s2 bF) kU,ae,by rw [Sy,gC]; rfl,?_⟩
     have ez:(nm.zip szs)[i]? = some (y,z):=by rw [V3]; exact ⟨gy,gz⟩
     rw [SQ,ez]
     exact Paired.snoc (Paired.aI pb fun a b h=>Tp.keep t4 h) ⟨p2,rfl,by rw [aj (ag rh bF).symm]; exact ae⟩
 · obtain ⟨vb,s2,rh,gC,pb⟩:=z
   rw [TZ,← rp,SV] at pb
   have k2:=aa k0 s2
   have yu:=s2 _ _ gZ
   have Kg:=s2 _ _ u5
   refine ⟨_,rfl,_,rfl,sa,_,rfl,.inl (aq.of Kg),_,rfl,na,_,rfl,aq.of yu,fun p3 uV=>?_⟩
   rw [Sv,ff,xO]
   have cl:∀c:Bool,(-(2 ^ 64):Int) < (if c=true then 1 else 0)/\(if c=true then (1:Int) else 0) < 2 ^ 64:=by decide
   refine ⟨_,rfl,_,_,rfl,rfl,⟨(by show (0:Int) < 24; decide),L6⟩,_,_,rfl,rfl,(by show (0:Int) < 3; decide),_,rfl,_,_,rfl,rfl,⟨(by show (0:Int) < 24; decide),L6⟩,_,_,rfl,rfl,(by show (0:Int) < 3; decide),_,_,rfl,rfl,.inr ⟨_,rfl,_,_,rfl,rfl,.inr (cl _),_,rfl,p3,_,rfl,aq.of ae,fun p4 pP=>?_⟩⟩
   rw [ff]
   have sub:=(l7 (nm.take szs.length) (some (n / 24 % 3 * if decide (n / 24 % 3 < 2)=true then 1 else 0)) none)
   generalize fc (nm.take szs.length) (some (n / 24 % 3 * if decide (n / 24 % 3 < 2)=true then 1 else 0)) none=BD at sub ⊢
   refine ⟨_,rfl,_,rfl,_,rfl,_,_,rfl,rfl,⟨(by show (0:Int) < 72; decide),Oe⟩,_,_,rfl,rfl,(by show (0:Int) < 2; decide),_,_,rfl,rfl,.inl ⟨by decide,by decide⟩,_,_,rfl,rfl,_,rfl,?_,p4,_,rfl,aq.of ae,fun p5 sS=>⟨YB,fun p6 uW=>?_⟩⟩
   · have:=S7 (n / 72) (show (2:Int)≠0 by decide)
     have:=S0 (n / 72) (show (0:Int) < 2 by decide)
     omega
   have k6:=ao (o:=.tup [.ref nb,.ref p5]) (ao (o:=.lst (cR (1 - 2 * (n / 72 % 2)) (BD.map V.str))) (ao (o:=.lst (BD.map V.str)) (ao (o:=.lst ((nm.take szs.length).map V.str)) (same_refl H2) uV) pP) sS) uW
   refine q p6 nb p5 _ vb (nm.zip szs) (cK (1 - 2 * (n / 72 % 2)) BD) (aa k2 k6) ae (k6 _ _ rh) (Paired.aI pb fun a b h=>Tp.keep (ai.tk k6) h) ?_ ⟨⟨nm,szs,J1,hs2,Ql,rfl⟩,?_,fun x hx=>?_⟩
   · rw [aj (ag ae uW),ae,si]
   · exact m9 ((J1.nd.sublist (UX _ _)).sublist sub)
   · rw [lM _ _ (by omega)]
     exact sub.mem (dk.mp hx)
theorem q0 (s:Src K mg "_law_boxes" eX)(m_len:mg "len"=none)(m_range:mg "range"=none)(m_int:mg "int"=none):aP P w K mg base "_law_boxes" ["number"] 1 fP:=
 let ⟨f,fd,F,m⟩:=s
 ⟨f,fd,vI F m_len m_range m_int,F.kp,lT F fun _ _ _ _ _ _ _=>rfl,m⟩
theorem tT {α:Type}(xs:List α)(m n:Nat):(fc xs (some (m:Int)) (some (n:Int))).length<=n - m:=by
 unfold fc
 rw [HT.dq,HT.dq,SH]
 omega
abbrev dX:Stmt:=top 27
structure xG (bs:List (Str×Int))(ins:List Str)(nds:List Nd)(most:Int):Prop where
 bx:bV bs ins
 one:1<=nds.length
 few:(nds.length:Int)<=most
 good:∀e∈nds,e.good (· ∈ bs.map (·.1)) nds.length 5
def oU (K:Sw):Sp:=fun vs H Q _=>∃(a:Addr) (ns:List Int) (most:Int),vs=[.ref a,.int most]/\aq K H a (ns.map V.int)/\0 < most/\most<=100/\∀(v:V) (H':Hp) (bs:List (Str×Int)) (ins:List Str) (nds:List Nd),ai H H'->bW H' v bs ins nds->xG bs ins nds most->Q v H'
theorem dh:aE ["script","most","head","boxes","inputs","names","cells","far","nodes","cell"] ["script","most"] (ak dX):=⟨rfl,rfl,rfl,by decide +kernel,rfl,by decide +kernel,by decide +kernel⟩
theorem cV:ba dX "_law_numbers":=by decide +kernel
theorem cU:ba dX "_law_cell_at":=by decide +kernel
theorem gW:ba dX "_law_boxes":=by decide +kernel
theorem iX:ba dX "_law_node":=by decide +kernel
theorem qW:ba dX "len":=by decide +kernel
theorem mx:ba dX "range":=by decide +kernel
theorem yM {f:Addr}{fd:S9}(F:cL K "_law_program" "_law_program" dX f fd)(m_len:mg "len"=none)(m_range:mg "range"=none)(CE:aP P w K mg base "_law_cell_at" ["script","k"] 1 (gK K))(NU:aP P w K mg base "_law_numbers" ["cell","many","base"] 1 cN)
    (BX:aP P w K mg base "_law_boxes" ["number"] 1 fP) (ND:aP P w K mg base "_law_node" ["row","names","many"] 3 lF):aN P w K mg base b6 4 f fd ["script","most"] (oU K):=by
 refine F.ok dh (fun vs H Q E h=>?_) (fun cdv A outer s H vs Q E hr h=>?_)
 · obtain ⟨a,ns,most,rfl,_⟩:=h
   rfl
 obtain ⟨a,ns,most,rfl,hS,uR,hm1,q⟩:=h
 have LP:=CE.mono (show 1<=3 by decide)
 have LS:=NU.mono (show 1<=3 by decide)
 have NV:=BX.mono (show 1<=3 by decide)
 refine fC ⟨_,(WI (WS 2 dh.nd (WV LS hr cV (WC (WV LP hr cU (WC (WB 0) (WC WE WD))) (WC WE (WC WE WD)))))
   (WI (XD (WV NV hr gW (WC (WG WM (WB 2) WE) WD)) (W7 2 (WW (WN 3 dh.nd) (WW (WN 4 dh.nd) W8))))
   (WI (Xr (i:=5) [none,none] ["name","size"] (show ar _ (ak dX) from ⟨rfl,by decide +kernel,by decide +kernel,by decide +kernel⟩) (by rfl) (W5 (WB 3)) (fun _ _ _ _ _=>⟨(W7 2 (WW (WN 0 (show (["name","size"]:List Str).Nodup from by decide +kernel)) (WW (WN 1 (show (["name","size"]:List Str).Nodup from by decide +kernel)) W8))),W6,(WB 0)⟩) dh.nd)
   (WI (WS 6 dh.nd (L3.Ap (WB 0) WE (WJ Xd WE (WB 1))))
   (WI (WZ (WX (XC (m:=0) (bq hr _ (by decide))) (WB 6) (W0 WD)) (WI (WS 7 dh.nd (WJ WY (WV LP hr cU (WC (WB 0) (WC WE WD))) (WJ XB WE WE)))
   (WK (Xr (i:=6) [none,some 7] ["k","far"] (show ar _ (ak dX) from ⟨rfl,by decide +kernel,by decide +kernel,by decide +kernel⟩) (by rfl) (Xj mx m_range (WC (WJ Xd WE (WJ WY (WG WM (WB 2) WE) (WB 1))) WD)) (fun _ _ _ _ _=>⟨(WN 0 (show (["k","far"]:List Str).Nodup from by decide +kernel)),W6,(WJ Xd (WB 1) (WJ Xf WE (WB 0)))⟩) dh.nd))) W2)
   (WI (WS 8 dh.nd (W0 WD))
   (WI (Xb (W5 (WB 6)) (WN 9 dh.nd) (WK (Xh (Xk (WB 8) (WC (WV ND hr iX (WC (WV LS hr cV (WC (WB 9) (WC WE (WC WE WD)))) (WC (WB 5) (WC (W4 Xa qW m_len Te (WC (WB 6) WD)) WD)))) WD)))))
   (WK (WU (WT (WC (WB 3) (WC (WB 4) (WC (WB 8) WD))))))))))))),?_⟩
 refine ⟨_,rfl,a,ns,0,rfl,hS,Int.le_refl _,fun c=>⟨c,2,5040,rfl,by decide,by decide,by decide,by decide,fun hd row PL hR=>?_⟩⟩
 obtain ⟨H1,s1,h1,zz⟩:=aH PL (.lst (row.map V.int))
 rw [zz]; clear zz
 obtain ⟨x0,a0,GS,Ie⟩:=hR.at (i:=0) (by decide) (by decide)
 obtain ⟨x1,a1,Ig,Ih⟩:=hR.at (i:=1) (by decide) (by decide)
 refine ⟨_,rfl,hd,_,_,_,rfl,rfl,aq.of h1,a0,x0,rfl,GS,fun p B I H2 vb bs ins s2 hp hB pb hI Iz=>?_⟩
 have k2:=aa s1 s2
 have gC:vb.length=bs.length:=Paired.length pb
 have rh:=Iz.len
 refine ⟨p,_,rfl,aF.of hp,rfl,_,_,rfl,_,_,rfl,rfl,?_⟩
 refine ⟨_,rfl,B,rfl,⟨_,aq.of hB⟩,fun na gZ=>?_⟩
 have FJ:B≠na:=ag hB gZ
 refine aL (xs:=vb) (fun i H3=>H3=upd H2 na (.lst ((bs.take i).map fun b=>V.str b.1))) rfl (fun i H3 _ e=>?_) (fun i x H3 hx e=>?_) (fun H3 e=>?_)
 · subst e
   exact aq.of (by rw [aj FJ]; exact hB)
 · subst e
   obtain ⟨b,fD,p,rfl,hp⟩:=Paired.get pb hx
   have cj:i < vb.length:=(List.getElem?_eq_some_iff.mp hx).1
   refine ⟨p,_,rfl,aF.of (by rw [aj (ag hp gZ)]; exact hp),rfl,_,_,rfl,_,_,rfl,rfl,?_⟩
   refine bp (A:=fun H3=>bK (zC 0) na _ H3 _) ⟨_,rfl,_,ae,aB (by rw [Sv,SH]; omega),aA (Pv:=fun i H3=>H3=upd H2 na (.lst ((bs.take i).map fun b=>V.str b.1))) (by repeat' constructor) cj ?_⟩
   rw [b4]
   congr 2
   rw [SQ,fD,SR]
   rfl
 subst e
 have et:(bs.take vb.length).map (fun b=>V.str b.1)=(bs.map (·.1)).map V.str:=by rw [gC,SV,UQ]; rfl
 rw [et]
 obtain ⟨H3,s3,gZ,zz⟩:=aH gZ (.lst ((bs.map (·.1)).map V.str))
 rw [zz]; clear zz
 have k3:=aa k2 s3
 have Pk:=ai.seq k3 hS
 have hB:=s3 _ _ hB
 have hI:=s3 _ _ hI
 have pb:Paired (bU H3) vb bs:=Paired.aI pb fun a b h=>Tp.keep (ai.tk s3) h
 refine ⟨_,rfl,_,rfl,_,rfl,_,_,rfl,rfl,_,rfl,a,_,rfl,Pk,fun ce nz=>?_⟩
 have e2:(2 + most:Int)=((2 + most.toNat:Nat):Int):=by omega
 rw [ff]
 have Em:(fc ns (some 2) (some (2 + most))).length<=most.toNat:=by
   have:=tT ns 2 (2 + most.toNat)
   rw [← e2] at this
   exact S3 this (by omega)
 generalize fc ns (some 2) (some (2 + most))=cs at Em ⊢
 obtain ⟨H4,s4,nz,zz⟩:=aH nz (.lst (cs.map V.int))
 rw [zz]; clear zz
 refine ⟨_,rfl,Yz,fun lz rp=>?_⟩
 have s4:=aa s4 (af rp (.lst []))
 have nz:=af rp (.lst []) _ _ nz
 have hz:(upd H4 lz (.lst [])) lz=some (.lst []):=ae
 generalize upd H4 lz (.lst [])=H4 at s4 nz hz ⊢
 have k4:=aa k3 s4
 have gZ:=s4 _ _ gZ
 have hB:=s4 _ _ hB
 have hI:=s4 _ _ hI
 have pb:Paired (bU H4) vb bs:=Paired.aI pb fun a b h=>Tp.keep (ai.tk s4) h
 refine ⟨_,RB.nil (aq.of nz) (aq.of hz),_,rfl,?_⟩
 refine aD (fun cc=>?_) (fun cc=>?_)
 · have Pa:=s4 _ _ (s3 _ _ (s2 _ _ h1))
   refine ⟨_,rfl,a,ns,0,rfl,ai.seq k4 hS,Int.le_refl _,fun c2=>⟨_,_,rfl,rfl,⟨by decide,by decide,by decide⟩,_,_,rfl,rfl,(show (0:Int) < 10 ^ (17:Int).toNat by decide +kernel),?_⟩⟩
   refine ⟨_,rfl,hd,_,_,_,rfl,rfl,aq.of Pa,a1,_,rfl,_,_,rfl,rfl,uR,_,_,rfl,rfl,_,rfl,?_,?_,fun DD Jn=>?_⟩
   · have:=S7 x1 (show most≠0 by omega); omega
   · have:=S0 x1 uR; omega
   have RP:=S7 x1 (show most≠0 by omega)
   have J0:=S0 x1 uR
   refine cg (lo:=0) (n:=(1 + x1 % most).toNat) (fun i H5=>∃cs:List Int,H5=upd H4 DD (.lst (cs.map V.int))/\cs.length=i) ⟨[],rfl,rfl⟩ (fun i H5 hi z=>?_) (fun H5 z=>?_)
   · obtain ⟨cs,rfl,xt⟩:=z
     refine aG ?_
     refine bp (A:=fun H3=>bK _ DD _ H3 _) ?_
     refine ⟨_,rfl,_,rfl,_,_,rfl,rfl,.inl ⟨by decide,by decide⟩,_,_,rfl,rfl,_,ae,aB (by rw [Sv]; omega),aA (Pv:=fun i H5=>∃cs:List Int,H5=upd H4 DD (.lst (cs.map V.int))/\cs.length=i) (by repeat' constructor) hi ⟨cs++[c2 % 10 ^ (17:Int).toNat + 211 * (0 + (i:Int))],?_,by rw [Sy,xt]; rfl⟩⟩
     rw [b4,SR]
     rfl
   · obtain ⟨xm,rfl,xt⟩:=z
     obtain ⟨HH,s5,nz,zz⟩:=aH Jn (.lst (xm.map V.int))
     rw [zz]; clear zz
     have Nu:=aa k4 s5
     have gZ:=s5 _ _ gZ
     have hB:=s5 _ _ hB
     have hI:=s5 _ _ hI
     have pb:Paired (bU HH) vb bs:=Paired.aI pb fun a b h=>Tp.keep (ai.tk s5) h
     have tQ:xm≠[]:=fun z=>by rw [z] at xt; simp at xt; omega
     have Em:xm.length<=most.toNat:=by omega
     refine ⟨Yz,fun nb kU=>?_⟩
     have cl:0 < xm.length:=List.length_pos_iff.mpr tQ
     have og:((xm.map V.int).length:Int)=(xm.length:Int):=by rw [Sv]
     refine ⟨_,rfl,DD,rfl,⟨_,aq.of (af kU _ _ _ nz)⟩,?_⟩
     refine bj (xs:=xm.map V.int) (fun i σ H5=>(∃cv,σ=[some (.ref a),some (.int most),some (.ref hd),some (.ref B),some (.ref I),some (.ref na),some (.ref DD),some (.int (c2 % 10 ^ (17:Int).toNat)),some (.ref nb),cv])/\∃(vn:List V) (nds:List Nd),ai HH H5/\H5 nb=some (.lst vn)/\Paired (bO H5) vn nds/\nds.length=i/\∀e∈nds,e.good (· ∈ bs.map (·.1)) xm.length 5) ⟨⟨_,rfl⟩,[],[],af kU _,ae,.nil,rfl,fun e he=>nomatch he⟩ (fun i σ H5 _ z=>?_) (fun i x σ H5 hx z=>?_) (fun σ H5 z=>?_)
     · obtain ⟨_,vn,nds,s5,_⟩:=z
       exact aq.of (s5 _ _ nz)
     · obtain ⟨⟨cv,rfl⟩,vn,nds,s5,kW,pn,gB,gd⟩:=z
       obtain ⟨c3,sJ,rfl⟩ : ∃c,xm[i]? = some c/\x=V.int c:=by
         rw [S2] at hx
         obtain ⟨y,h1,h2⟩:=Option.map_eq_some_iff.mp hx
         exact ⟨y,h1,h2.symm⟩
       have cj:i < xm.length:=(List.getElem?_eq_some_iff.mp sJ).1
       have Qv:vn.length=nds.length:=Paired.length pn
       refine ⟨_,rfl,.inl ⟨rfl,_,aq.of kW⟩,?_⟩
       refine ⟨_,rfl,c3,7,720,rfl,by decide,by decide,by decide,by decide,fun l row hl hR=>?_⟩
       have s6:=aa s5 (af hl (.lst (row.map V.int)))
       refine ⟨_,rfl,_,rfl,DD,_,rfl,.inl (aq.of (s6 _ _ nz)),l,na,row,7,bs.map (·.1),_,rfl,ae,hR.mono (by decide),Sz _,s6 _ _ gZ,by rw [Sv]; omega,by rw [og]; omega,by rw [og]; omega,fun v H7 e s7 ea ge=>?_⟩
       rw [og] at ge
       have oi:H7 nb=some (.lst vn):=s7 _ _ (af hl _ _ _ kW)
       refine ⟨nb,vn,v,rfl,rfl,oi,aB (by omega),⟨_,rfl⟩,?_⟩
       have t8:TK H5 (upd H7 nb (.lst (vn++[v]))):=((aC hl _).trans (ai.tk s7)).trans (TK.lst oi)
       refine ⟨vn++[v],nds++[e],az (aa s6 s7) kU,ae,Paired.snoc (Paired.aI pn fun a b h=>bO.keep t8 h) (bO.keep (TK.lst oi) ea),by rw [Sy,gB]; rfl,fun x hx=>?_⟩
       rcases List.mem_append.mp hx with y | y
       · exact gd x y
       · rw [List.mem_singleton.mp y]
         exact ge
     · obtain ⟨⟨cv,rfl⟩,vn,nds,s5,kW,pn,gB,gd⟩:=z
       rw [Sv] at gB
       refine ⟨_,rfl,_,rfl,_,rfl,YC,fun p9 Fi=>?_⟩
       have s9:=ao (o:=.tup [.ref B,.ref I,.ref nb]) s5 Fi
       have Gs:ai H5 (upd H5 p9 (.tup [.ref B,.ref I,.ref nb])):=af Fi _
       refine q (.ref p9) _ bs ins nds (aa Nu s9) ⟨p9,B,I,nb,vb,vn,rfl,ae,s9 _ _ hB,s9 _ _ hI,Gs _ _ kW,Paired.aI pb fun a b h=>Tp.keep (ai.tk s9) h,Paired.aI pn fun a b h=>bO.keep (ai.tk Gs) h⟩ ⟨Iz,by omega,by omega,by rw [gB]; exact gd⟩
 · have tQ:cs≠[]:=fun z=>cc (by rw [z]; rfl)
   have Nu:=k4
   refine ⟨Yz,fun nb kU=>?_⟩
   have cl:0 < cs.length:=List.length_pos_iff.mpr tQ
   have og:((cs.map V.int).length:Int)=(cs.length:Int):=by rw [Sv]
   refine ⟨_,rfl,ce,rfl,⟨_,aq.of (af kU _ _ _ nz)⟩,?_⟩
   refine bj (xs:=cs.map V.int) (fun i σ H5=>(∃cv,σ=[some (.ref a),some (.int most),some (.ref hd),some (.ref B),some (.ref I),some (.ref na),some (.ref ce),none,some (.ref nb),cv])/\∃(vn:List V) (nds:List Nd),ai H4 H5/\H5 nb=some (.lst vn)/\Paired (bO H5) vn nds/\nds.length=i/\∀e∈nds,e.good (· ∈ bs.map (·.1)) cs.length 5) ⟨⟨_,rfl⟩,[],[],af kU _,ae,.nil,rfl,fun e he=>nomatch he⟩ (fun i σ H5 _ z=>?_) (fun i x σ H5 hx z=>?_) (fun σ H5 z=>?_)
   · obtain ⟨_,vn,nds,s5,_⟩:=z
     exact aq.of (s5 _ _ nz)
   · obtain ⟨⟨cv,rfl⟩,vn,nds,s5,kW,pn,gB,gd⟩:=z
     obtain ⟨c3,sJ,rfl⟩ : ∃c,cs[i]? = some c/\x=V.int c:=by
       rw [S2] at hx
       obtain ⟨y,h1,h2⟩:=Option.map_eq_some_iff.mp hx
       exact ⟨y,h1,h2.symm⟩
     have cj:i < cs.length:=(List.getElem?_eq_some_iff.mp sJ).1
     have Qv:vn.length=nds.length:=Paired.length pn
     refine ⟨_,rfl,.inl ⟨rfl,_,aq.of kW⟩,?_⟩
     refine ⟨_,rfl,c3,7,720,rfl,by decide,by decide,by decide,by decide,fun l row hl hR=>?_⟩
     have s6:=aa s5 (af hl (.lst (row.map V.int)))
     refine ⟨_,rfl,_,rfl,ce,_,rfl,.inl (aq.of (s6 _ _ nz)),l,na,row,7,bs.map (·.1),_,rfl,ae,hR.mono (by decide),Sz _,s6 _ _ gZ,by rw [Sv]; omega,by rw [og]; omega,by rw [og]; omega,fun v H7 e s7 ea ge=>?_⟩
     rw [og] at ge
     have oi:H7 nb=some (.lst vn):=s7 _ _ (af hl _ _ _ kW)
     refine ⟨nb,vn,v,rfl,rfl,oi,aB (by omega),⟨_,rfl⟩,?_⟩
     have t8:TK H5 (upd H7 nb (.lst (vn++[v]))):=((aC hl _).trans (ai.tk s7)).trans (TK.lst oi)
     refine ⟨vn++[v],nds++[e],az (aa s6 s7) kU,ae,Paired.snoc (Paired.aI pn fun a b h=>bO.keep t8 h) (bO.keep (TK.lst oi) ea),by rw [Sy,gB]; rfl,fun x hx=>?_⟩
     rcases List.mem_append.mp hx with y | y
     · exact gd x y
     · rw [List.mem_singleton.mp y]
       exact ge
   · obtain ⟨⟨cv,rfl⟩,vn,nds,s5,kW,pn,gB,gd⟩:=z
     rw [Sv] at gB
     refine ⟨_,rfl,_,rfl,_,rfl,YC,fun p9 Fi=>?_⟩
     have s9:=ao (o:=.tup [.ref B,.ref I,.ref nb]) s5 Fi
     have Gs:ai H5 (upd H5 p9 (.tup [.ref B,.ref I,.ref nb])):=af Fi _
     refine q (.ref p9) _ bs ins nds (aa k4 s9) ⟨p9,B,I,nb,vb,vn,rfl,ae,s9 _ _ hB,s9 _ _ hI,Gs _ _ kW,Paired.aI pb fun a b h=>Tp.keep (ai.tk s9) h,Paired.aI pn fun a b h=>bO.keep (ai.tk Gs) h⟩ ⟨Iz,by omega,by omega,by rw [gB]; exact gd⟩
theorem uC (s:Src K mg "_law_program" dX)(m_len:mg "len"=none)(m_range:mg "range"=none)(CE:aP P w K mg base "_law_cell_at" ["script","k"] 1 (gK K))(NU:aP P w K mg base "_law_numbers" ["cell","many","base"] 1 cN)(BX:aP P w K mg base "_law_boxes" ["number"] 1 fP)(ND:aP P w K mg base "_law_node" ["row","names","many"] 3 lF):aP P w K mg base "_law_program" ["script","most"] 4 (oU K):=
 let ⟨f,fd,F,m⟩:=s
 ⟨f,fd,yM F m_len m_range CE NU BX ND,F.kp,eE F fun _ _ _ _ _ _ _ _=>rfl,m⟩
end
end TW
namespace TW
open PySem L2
theorem aM {K:Sw}{h:Heap}{mg:Str->Option Value}{x:Str}{st:Stmt}{od an:Option Addr}{sl:Array (Option Value)}{oc kV dc pm cd ct:Value}{f:Addr}(X:K.In h)(G:h.Ns Uc mg)(a:PySem.W.nsIn K Uc x=some (some (.ref f)))
   (l:K.lookup f=some ⟨oc,od,.func (T5 x x (cM st) (cq st) (ak st) .none kV dc pm an cd ct),sl⟩) (c:U9 K cd x=true) (k:Ur K (.ref f)=true):Src K mg x st:=⟨_,_,kN l c k,VV X G a⟩
def xN (s:Stmt):List Stmt:=match s with
 | .ClassDef _ _ _ b _ _ _ _ _ _ _=>b
 | _=>[]
def mN (i j:Nat):Stmt:=(xN (top i)).getD j (.Pass ⟨0,0,0,0⟩)
def d6 (K:Sw)(C:Addr):List Str->Prop
 | []=>True
 | f :: fs=>cC K C f/\d6 K C fs
theorem d6.get {K:Sw}{C:Addr}:∀{fs:List Str} {f:Str},d6 K C fs->f∈fs->cC K C f
 | g :: fs,f,h,hf=>by
   rcases List.mem_cons.mp hf with rfl | hf
   · exact h.1
   · exact d6.get h.2 hf
structure kG (K:Sw)(mg:Str->Option Value)(x:Str)(C:Addr)(fs:List Str):Prop where
 m:mg x=some (.ref C)
 c:pd K C
 na:d6 K C fs
def ph (K:Sw)(C:Addr)(q:Str)(st:Stmt):Prop:=∃f fd,cL K "__init__" q st f fd/\Mk K C f
def xE (K:Sw)(C:Addr)(x q:Str)(st:Stmt):Prop:=∃f fd,cL K x q st f fd/\Meth K C x f
structure Ee (K:Sw)(mg:Str->Option Value):Prop where
 s_box_sizes:Src K mg "box_sizes" (top 5)
 s_input_sizes:Src K mg "input_sizes" (top 7)
 s_every_worths:Src K mg "every_worths" (top 8)
 s_refuse_no_pair:Src K mg "refuse_no_pair" (top 10)
 s_worths_along:Src K mg "worths_along" (top 14)
 s_rows_where:Src K mg "rows_where" (top 15)
 s_rows_without:Src K mg "rows_without" (top 16)
 s_rows_counted:Src K mg "rows_counted" (top 17)
 s_entry_worths:Src K mg "entry_worths" (top 18)
 s_law_cell_at:Src K mg "_law_cell_at" (top 20)
 s_law_numbers:Src K mg "_law_numbers" (top 21)
 s_law_whole:Src K mg "_law_whole" (top 22)
 s_law_sum:Src K mg "_law_sum" (top 23)
 s_law_condition:Src K mg "_law_condition" (top 24)
 s_law_node:Src K mg "_law_node" (top 25)
 s_law_boxes:Src K mg "_law_boxes" (top 26)
 s_law_program:Src K mg "_law_program" (top 27)
 s_law_renamed:Src K mg "_law_renamed" (top 28)
 s_law_node_as:Src K mg "_law_node_as" (top 29)
 s_law_made_over:Src K mg "_law_made_over" (top 30)
 s_law_skip:Src K mg "_law_skip" (top 31)
 s_law_all_same:Src K mg "_law_all_same" (top 32)
 s_law_good_paper:Src K mg "_law_good_paper" (top 33)
 s_law_copied:Src K mg "_law_copied" (top 34)
 s_law_value:Src K mg "_law_value" (top 35)
 s_law_true:Src K mg "_law_true" (top 36)
 s_law_known:Src K mg "_law_known" (top 37)
 s_law_spoilt:Src K mg "_law_spoilt" (top 38)
 s_law_boxes_of:Src K mg "_law_boxes_of" (top 39)
 s_law_worths:Src K mg "_law_worths" (top 40)
 s_law_due:Src K mg "_law_due" (top 41)
 s_law_plain:Src K mg "_law_plain" (top 42)
 s_law_resized:Src K mg "_law_resized" (top 43)
 s_law:Src K mg "law" (top 44)
 k_Side:∃C,kG K mg "Side" C ["program","worths","numbers","steps","stays"]/\ph K C "Side.__init__" (mN 12 0)
 k_Ground:∃C,kG K mg "Ground" C ["mine","yours","width","rows","columns"]/\ph K C "Ground.__init__" (mN 13 0)/\xE K C "worths_of" "Ground.worths_of" (mN 13 2)
 m_len:mg "len"=none
 m_list:mg "list"=none
 m_range:mg "range"=none
 m_zip:mg "zip"=none
 m_dict:mg "dict"=none
 m_int:mg "int"=none
 m_isinstance:mg "isinstance"=none
 m_bool:mg "bool"=none
 m_set:mg "set"=none
 m_tuple:mg "tuple"=none
 m_max:mg "max"=none
 m_enumerate:mg "enumerate"=none
 m_any:mg "any"=none
 m_all:mg "all"=none
 m_ValueError:mg "ValueError"=none
end TW
namespace TW
open PySem L2
section
variable {P:Program}{w:World}{K:Sw}{mg:Str->Option Value}{base:Heap}
def Io (H:Hp)(a:Addr)(P:Str->Str->Prop)(W:Str->Str->Int):Prop:=∃kvs,H a=some (.dT kvs)/\∀t x,P t x->a8 kvs [.inr t,.inr x]=some (.int (W t x))
def AN (P:Str->Str->Prop):Prop:=∀t x,P t x->t="box"\/t="mine"\/t="yours"
theorem aJ {α β:Type}{f:α->β}{l:List α}{i:Nat}{y:β}(h:(l.map f)[i]? = some y):∃x,l[i]? = some x/\y=f x:=by
 rw [S2] at h
 obtain ⟨x,h1,h2⟩:=Option.map_eq_some_iff.mp h
 exact ⟨x,h1,h2.symm⟩
abbrev lr:Stmt:=top 5
def dA (H:Hp)(v:V)(bs:List (Str×Int)):Prop:=∃p B I N vb,v=.ref p/\H p=some (.tup [.ref B,I,N])/\H B=some (.lst vb)/\Paired (bU H) vb bs
theorem dA.same {H H':Hp}{v:V}{bs:List (Str×Int)}(h:dA H v bs)(s:ai H H'):dA H' v bs:=
 let ⟨p,B,I,N,vb,e,h1,h2,h3⟩:=h; ⟨p,B,I,N,vb,e,s _ _ h1,s _ _ h2,Paired.aI h3 fun _ _ z=>Tp.keep (ai.tk s) z⟩
def iu:Sp:=fun vs H Q _=>∃(v:V) (bs:List (Str×Int)),vs=[v]/\dA H v bs/\bs.length<=900/\∀l,H l=none->Q (.ref l) (upd H l (.lst ((bs.map (·.2)).map V.int)))
theorem zv:aE ["program"] ["program"] (ak lr):=⟨rfl,rfl,rfl,by decide +kernel,rfl,by decide +kernel,by decide +kernel⟩
theorem vH {f:Addr}{fd:S9}(F:cL K "box_sizes" "box_sizes" lr f fd):aN P w K mg base b6 1 f fd ["program"] iu:=by
 refine F.ok zv (fun vs H Q E h=>?_) (fun cdv A outer s H vs Q E hr h=>?_)
 · obtain ⟨v,bs,rfl,_⟩:=h
   rfl
 obtain ⟨v,bs,rfl,⟨p,B,I,N,vb,rfl,hp,hB,pb⟩,He,q⟩:=h
 refine ⟨_,Xp (WK (WU (Xc [none,none] ["name","size"] (show ar _ (ak lr) from ⟨rfl,by decide +kernel,by decide +kernel,by decide +kernel⟩) (by rfl) (W5 (WG WR (WB 0) WE)) (fun _ _ _ _ _=>⟨(W7 2 (WW (WN 0 (show (["name","size"]:List Str).Nodup from by decide +kernel)) (WW (WN 1 (show (["name","size"]:List Str).Nodup from by decide +kernel)) W8))),W6,(WB 1)⟩)))),?_⟩
 have gC:vb.length=bs.length:=Paired.length pb
 refine ⟨_,rfl,p,_,_,_,rfl,rfl,aF.of hp,rfl,B,rfl,⟨_,aq.of hB⟩,fun na gZ=>?_⟩
 have FJ:B≠na:=ag hB gZ
 refine aL (xs:=vb) (fun i H2=>H2=upd H na (.lst ((bs.take i).map fun b=>V.int b.2))) rfl (fun i H2 _ e=>?_) (fun i x H2 hx e=>?_) (fun H2 e=>?_)
 · subst e
   exact aq.of (by rw [aj FJ]; exact hB)
 · subst e
   obtain ⟨b,fD,p,rfl,hp⟩:=Paired.get pb hx
   have cj:i < vb.length:=(List.getElem?_eq_some_iff.mp hx).1
   refine ⟨p,_,rfl,aF.of (by rw [aj (ag hp gZ)]; exact hp),rfl,_,_,rfl,_,_,rfl,rfl,?_⟩
   refine bp (A:=fun H3=>bK (zC 1) na _ H3 _) ⟨_,rfl,_,ae,aB (by rw [Sv,SH]; omega),aA (Pv:=fun i H2=>H2=upd H na (.lst ((bs.take i).map fun b=>V.int b.2))) (by repeat' constructor) cj ?_⟩
   rw [b4]
   congr 2
   rw [SQ,fD,SR]
   rfl
 · subst e
   have et:(bs.take vb.length).map (fun b=>V.int b.2)=(bs.map (·.2)).map V.int:=by rw [gC,SV,UQ]; rfl
   rw [et]
   exact q na gZ
theorem qZ (s:Src K mg "box_sizes" lr)  : aP P w K mg base "box_sizes" ["program"] 1 iu:=
 let ⟨f,fd,F,m⟩:=s
 ⟨f,fd,vH F ,F.kp,lT F fun _ _ _ _ _ _ _=>rfl,m⟩
def tF:List (Str×Int)->List Int->Str->Int
 | b :: bs,w :: ws,x=>if b.1=x then w else tF bs ws x
 | _,_,_=>0
def bC (side:Str):List (Str×Int)->List Int->List (List Key×V)
 | b :: bs,w :: ws=>([.inr side,.inr b.1],.int w) :: bC side bs ws
 | _,_=>[]
theorem d9 (side:Str):∀(bs:List (Str×Int)) (ws:List Int),(bC side bs ws).length<=bs.length
 | [],_=>by simp [bC]
 | _ :: _,[]=>by simp [bC]
 | _ :: bs,_ :: ws=>by simp [bC]; exact d9 side bs ws
theorem gF (side:Str):∀(bs:List (Str×Int)) (ws:List Int) (x:Str),bs.length=ws.length->x∈bs.map (·.1)->a8 (bC side bs ws) [.inr side,.inr x]=some (.int (tF bs ws x))
 | [],_,_,_,h=>by simp at h
 | _ :: _,[],_,h,_=>by simp at h
 | b :: bs,w :: ws,x,hl,hx=>by
   show a8 (([.inr side,.inr b.1],V.int w) :: bC side bs ws) _=some (.int (if b.1=x then w else tF bs ws x))
   by_cases e:b.1=x
   · rw [if_pos e,bc (p:=(([.inr side,.inr b.1]:List Key),V.int w)) (by rw [← e])]
   · rw [if_neg e,aY (p:=(([.inr side,.inr b.1]:List Key),V.int w)) (fun z=>by injection z with _ z; injection z with z _; injection z with z; exact e z)]
     refine gF side bs ws x (by simpa using hl) ?_
     rcases List.mem_cons.mp hx with z | z
     · exact absurd z.symm e
     · exact z
theorem cP (side:Str):∀(bs:List (Str×Int)) (ws:List Int) (s x:Str),(s=side->x ∉ bs.map (·.1))->a8 (bC side bs ws) [.inr s,.inr x]=none
 | [],_,_,_,_=>rfl
 | _ :: _,[],_,_,_=>rfl
 | b :: bs,w :: ws,s,x,h=>by
   show a8 (([.inr side,.inr b.1],V.int w) :: bC side bs ws) _=none
   rw [aY (p:=(([.inr side,.inr b.1]:List Key),V.int w)) (fun z=>by injection z with z1 z; injection z1 with z1; injection z with z _; injection z with z; exact h z1.symm (List.mem_cons.mpr (.inl z.symm)))]
   exact cP side bs ws s x fun e z=>h e (List.mem_cons.mpr (.inr z))
theorem mW {κ:Type}[DecidableEq κ]{kvs:List (κ×V)}{k:κ}{v:V}(h:a8 kvs k=none):putK kvs k v=kvs++[(k,v)]:=by
 unfold putK
 rw [dZ,h]
 rfl
theorem eV (side:Str):∀(bs:List (Str×Int)) (ws:List Int) (b:Str×Int) (w:Int),bs.length=ws.length->bC side (bs++[b]) (ws++[w])=bC side bs ws++[([.inr side,.inr b.1],.int w)]
 | [],[],_,_,_=>rfl
 | [],_ :: _,_,_,h=>by simp at h
 | _ :: _,[],_,_,h=>by simp at h
 | b :: bs,w :: ws,c,v,h=>by
   show _ :: bC side (bs++[c]) (ws++[v])=_
   rw [eV side bs ws c v (by simpa using h)]
   rfl
theorem pV {bs:List (Str×Int)}(nd:(bs.map (·.1)).Nodup){i:Nat}{b:Str×Int}(h:bs[i]? = some b):b.1 ∉ (bs.take i).map (·.1):=by
 intro z
 have hi:i < bs.length:=(List.getElem?_eq_some_iff.mp h).1
 have e:bs[i]=b:=(List.getElem?_eq_some_iff.mp h).2
 obtain ⟨c,hc,e2⟩:=List.mem_map.mp z
 obtain ⟨j,hj,e3⟩:=UM hc
 have yr:j < i:=by rw [SH] at hj; omega
 rw [List.getElem_take] at e3
 have k1:(bs.map (·.1))[j]'(by rw [Sv]; omega)=(bs.map (·.1))[i]'(by rw [Sv]; omega):=by
   rw [List.getElem_map,List.getElem_map,e3,e,e2]
 exact (List.pairwise_iff_getElem.mp nd) j i _ _ yr k1
def ox:List (Str×Int)->List Int->List (Key×V)
 | b :: bs,w :: ws=>(.inr b.1,.int w) :: ox bs ws
 | _,_=>[]
theorem kb:∀(bs:List (Str×Int)) (ws:List Int) (k:Key),k∈(ox bs ws).map (·.1)->∃x∈bs.map (·.1),k=.inr x
 | [],_,_,h=>by simp [ox] at h
 | _ :: _,[],_,h=>by simp [ox] at h
 | b :: bs,w :: ws,k,h=>by
   rcases List.mem_cons.mp h with z | z
   · exact ⟨b.1,List.mem_cons.mpr (.inl rfl),z⟩
   · obtain ⟨x,hx,e⟩:=kb bs ws k z
     exact ⟨x,List.mem_cons.mpr (.inr hx),e⟩
theorem jb:∀(kvs d:List (Key×V)) (k:Key),k ∉ kvs.map (·.1)->a8 (putAll d kvs) k=a8 d k
 | [],_,_,_=>rfl
 | p :: r,d,k,h=>by
   show a8 (putAll (putK d p.1 p.2) r) k=_
   rw [jb r _ k (fun z=>h (List.mem_cons.mpr (.inr z))),cy,if_neg (fun z=>h (List.mem_cons.mpr (.inl z)))]
theorem jc:∀(bs:List (Str×Int)) (ws:List Int) (d:List (Key×V)) (x:Str),bs.length=ws.length->(bs.map (·.1)).Nodup->x∈bs.map (·.1)->a8 (putAll d (ox bs ws)) (.inr x)=some (.int (tF bs ws x))
 | [],_,_,_,_,_,h=>by simp at h
 | _ :: _,[],_,_,h,_,_=>by simp at h
 | b :: bs,w :: ws,d,x,hl,nd,hx=>by
   rw [Tz,VQ] at nd
   show a8 (putAll (putK d (.inr b.1) (.int w)) (ox bs ws)) (.inr x)=some (.int (if b.1=x then w else tF bs ws x))
   by_cases e:b.1=x
   · rw [if_pos e,jb _ _ _ (fun z=>by
       obtain ⟨y,hy,e2⟩:=kb bs ws _ z
       injection e2 with e2
       subst e2
       exact nd.1 (e ▸ hy)),cy,if_pos (by rw [e])]
   · rw [if_neg e]
     refine jc bs ws _ x (by simpa using hl) nd.2 ?_
     rcases List.mem_cons.mp hx with z | z
     · exact absurd z.symm e
     · exact z
abbrev mZ:Stmt:=top 7
def ia (bs:List (Str×Int))(x:Str):Int:=tF bs (bs.map (·.2)) x
def BM (bs:List (Str×Int)):List (Key×V):=ox bs (bs.map (·.2))
theorem mU {H:Hp}:∀{vb:List V} {bs:List (Str×Int)},Paired (bU H) vb bs->Paired (nH H) vb (BM bs)
 | _,_,.nil=>.nil
 | _,_,.cons ⟨p,e,h⟩ r=>.cons ⟨p,e,h⟩ (mU r)
theorem lI:∀{bs:List (Str×Int)} {b:Str×Int},(bs.map (·.1)).Nodup->b∈bs->ia bs b.1=b.2
 | [],_,_,h=>nomatch h
 | c :: bs,b,nd,h=>by
   rw [Tz,VQ] at nd
   show (if c.1=b.1 then c.2 else tF bs (bs.map (·.2)) b.1)=b.2
   rcases List.mem_cons.mp h with rfl | h
   · rw [if_pos rfl]
   · rw [if_neg (fun e:c.1=b.1=>nd.1 (by rw [e]; exact List.mem_map.mpr ⟨b,h,rfl⟩))]
     exact lI nd.2 h
structure Fits (bs:List (Str×Int))(ins:List Str):Prop where
 nd:(bs.map (·.1)).Nodup
 len:bs.length<=900
 sz:∀b∈bs,1<=b.2
 ind:ins.Nodup
 sub:∀x∈ins,x∈bs.map (·.1)
 ilen:ins.length<=900
def jj:Sp:=fun vs H Q _=>∃(v:V) (bs:List (Str×Int)) (ins:List Str) (nds:List Nd),vs=[v]/\bW H v bs ins nds/\Fits bs ins/\∀l H',H l=none->ai H H'->H' l=some (.lst ((ins.map (ia bs)).map V.int))->Q (.ref l) H'
theorem wI:aE ["program","sizes"] ["program"] (ak mZ):=⟨rfl,rfl,rfl,by decide +kernel,rfl,by decide +kernel,by decide +kernel⟩
theorem nS:ba mZ "dict":=by decide +kernel
theorem yJ {f:Addr}{fd:S9}(F:cL K "input_sizes" "input_sizes" mZ f fd)(m_dict:mg "dict"=none):aN P w K mg base b6 1 f fd ["program"] jj:=by
 refine F.ok wI (fun vs H Q E h=>?_) (fun cdv A outer s H vs Q E hr h=>?_)
 · obtain ⟨v,bs,ins,nds,rfl,_⟩:=h
   rfl
 obtain ⟨v,bs,ins,nds,rfl,pa,ft,q⟩:=h
 refine ⟨_,Xp (WI (WS 1 wI.nd (Xg L3.AX nS m_dict (by decide +kernel) (WC (WG WR (WB 0) WE) WD)))
   (WK (WU (Xc [none,some 1] ["name","sizes"] (show ar _ (ak mZ) from ⟨rfl,by decide +kernel,by decide +kernel,by decide +kernel⟩) (by rfl) (W5 (WG WR (WB 0) WE)) (fun _ _ _ _ _=>⟨(WN 0 (show (["name","sizes"]:List Str).Nodup from by decide +kernel)),W6,(Xs (bq hr _ (by decide)) (WB 1) (WB 0))⟩))))),?_⟩
 obtain ⟨p,B,I,N,vb,vn,rfl,hp,hB,hI,hN,pb,pn⟩:=pa
 have ilen:=ft.ilen
 refine ⟨_,rfl,p,_,_,_,rfl,rfl,aF.of hp,rfl,B,vb,BM bs,rfl,hB,mU pb,fun D hD=>?_⟩
 have s1:=af hD (.dK (putAll [] (BM bs)))
 have eD:(upd H D (.dK (putAll [] (BM bs)))) D=some (.dK (putAll [] (BM bs))):=ae
 generalize upd H D (.dK (putAll [] (BM bs)))=H2 at s1 eD ⊢
 have A8:=s1 _ _ hI
 refine ⟨_,rfl,p,_,_,_,rfl,rfl,aF.of (s1 _ _ hp),rfl,I,rfl,⟨_,aq.of A8⟩,fun l hl=>?_⟩
 refine aL (xs:=ins.map V.str) (fun i H3=>(∀b o,H2 b=some o->H3 b=some o)/\H3 l=some (.lst (((ins.map (ia bs)).take i).map V.int))) ⟨af hl _,ae⟩ (fun i H3 _ z=>aq.of (z.1 _ _ A8)) (fun i x0 H3 hx z=>?_) (fun H3 z=>?_)
 · obtain ⟨z,Bl⟩:=z
   have cj:=(List.getElem?_eq_some_iff.mp hx).1
   obtain ⟨x,MN,rfl⟩:=aJ hx
   have hv:=jc bs (bs.map (·.2)) [] x (by rw [Sv]) ft.nd (ft.sub x (SF MN))
   have g:=eB.k (k:=.inr x) (z _ _ eD)
   rw [show a8 (putAll [] (BM bs)) (.inr x)=some (.int (ia bs x)) from hv] at g
   refine aG ?_
   refine bp (A:=fun H4=>bK _ l _ H4 _) ?_
   refine ⟨_,rfl,_,rfl,D,_,rfl,g,_,Bl,aB (by rw [Sv,SH,Sv]; omega),aA (Pv:=fun i H3=>(∀b o,H2 b=some o->H3 b=some o)/\H3 l=some (.lst (((ins.map (ia bs)).take i).map V.int))) (by repeat' constructor) cj ⟨fun c o hc=>?_,?_⟩⟩
   · rw [aj (ag hc hl)]
     exact z c o hc
   · rw [ae,SQ,S2,MN,SR]
     rfl
 · obtain ⟨z,Bl⟩:=z
   have et:(ins.map (ia bs)).take (ins.map V.str).length=ins.map (ia bs):=by rw [Sv,← Sv (f:=ia bs) (as:=ins),SV]
   rw [et] at Bl
   exact q l H3 (aw s1 hl) (aa s1 z) Bl
theorem ur (s:Src K mg "input_sizes" mZ)(m_dict:mg "dict"=none):aP P w K mg base "input_sizes" ["program"] 1 jj:=
 let ⟨f,fd,F,m⟩:=s
 ⟨f,fd,yJ F m_dict,F.kp,lT F fun _ _ _ _ _ _ _=>rfl,m⟩
theorem jr {κ:Type}[DecidableEq κ]:∀(xs ys:List (κ×V)) (k:κ),a8 (xs++ys) k=match a8 xs k with | some v=>some v | none=>a8 ys k
 | [],_,_=>rfl
 | p :: r,ys,k=>by
   by_cases e:p.1=k
   · rw [VE,bc e,bc e]
   · rw [VE,aY e,aY e,jr r ys k]
abbrev lU (b1 b2:List (Str×Int)):Str->Str->Prop:=fun t x=>(t="mine"/\x∈b1.map (·.1))\/(t="yours"/\x∈b2.map (·.1))
def tM (b1:List (Str×Int))(w1:List Int)(b2:List (Str×Int))(w2:List Int):Str->Str->Int:=fun t x=>if t="mine" then tF b1 w1 x else tF b2 w2 x
theorem tL (b1 b2:List (Str×Int)):AN (lU b1 b2):=fun t _ h=>by
 rcases h with h | h
 · exact .inr (.inl h.1)
 · exact .inr (.inr h.1)
theorem AW {b1 b2:List (Str×Int)}{w1 w2:List Int}(l1:b1.length=w1.length)(l2:b2.length=w2.length):∀t x,lU b1 b2 t x->a8 (bC "mine" b1 w1++bC "yours" b2 w2) [.inr t,.inr x]=some (.int (tM b1 w1 b2 w2 t x)):=fun t x h=>by
 rw [jr]
 unfold tM
 rcases h with ⟨rfl,h⟩ | ⟨rfl,h⟩
 · rw [gF "mine" b1 w1 x l1 h,if_pos rfl]
 · rw [cP "mine" b1 w1 "yours" x (fun z=>absurd z (by decide)),if_neg (by decide)]
   exact gF "yours" b2 w2 x l2 h
theorem bW.same {H H':Hp}{v:V}{bs:List (Str×Int)}{ins:List Str}{nds:List Nd}(h:bW H v bs ins nds)(s:ai H H'):bW H' v bs ins nds:=by
 obtain ⟨p,B,I,N,vb,vn,e,h1,h2,h3,h4,h5,h6⟩:=h
 exact ⟨p,B,I,N,vb,vn,e,s _ _ h1,s _ _ h2,s _ _ h3,s _ _ h4,Paired.aI h5 fun _ _ z=>Tp.keep (ai.tk s) z,Paired.aI h6 fun _ _ z=>bO.keep (ai.tk s) z⟩
theorem bW.bx {H:Hp}{v:V}{bs:List (Str×Int)}{ins:List Str}{nds:List Nd}(h:bW H v bs ins nds):dA H v bs:=by
 obtain ⟨p,B,I,N,vb,vn,e,h1,h2,h3,h4,h5,h6⟩:=h
 exact ⟨p,B,_,_,vb,e,h1,h2,h5⟩
abbrev ip:Stmt:=top 10
structure LX (H:Hp)(v1 v2:V)(b1 b2:List (Str×Int))(ins:List Str)(n1 n2:List Nd):Prop where
 p1:bW H v1 b1 ins n1
 p2:bW H v2 b2 ins n2
 f1:Fits b1 ins
 f2:Fits b2 ins
 sz:ins.map (ia b1)=ins.map (ia b2)
def jk:Sp:=fun vs H Q _=>∃(v1 v2:V) (b1 b2:List (Str×Int)) (ins:List Str) (n1 n2:List Nd),vs=[v1,v2]/\LX H v1 v2 b1 b2 ins n1 n2/\∀H',ai H H'->Q .non H'
theorem wK:aE ["one","other"] ["one","other"] (ak ip):=⟨rfl,rfl,rfl,by decide +kernel,rfl,by decide +kernel,by decide +kernel⟩
theorem cI:ba ip "input_sizes":=by decide +kernel
theorem rP {f:Addr}{fd:S9}(F:cL K "refuse_no_pair" "refuse_no_pair" ip f fd)(IS:aP P w K mg base "input_sizes" ["program"] 1 jj):aN P w K mg base b6 2 f fd ["one","other"] jk:=by
 refine F.ok wK (fun vs H Q E h=>?_) (fun cdv A outer s H vs Q E hr h=>?_)
 · obtain ⟨v1,v2,b1,b2,ins,n1,n2,rfl,_⟩:=h
   rfl
 obtain ⟨v1,v2,b1,b2,ins,n1,n2,rfl,T,q⟩:=h
 refine fC ⟨_,(WK (WZ (Xq (Xv (WX (L3.pY (m:=0) (bq hr _ (by decide))) (WG WR (WB 0) WE) (WG WR (WB 1) WE)) (XE (WX (L3.pY (m:=0) (bq hr _ (by decide))) (WV IS hr cI (WC (WB 0) WD)) (WV IS hr cI (WC (WB 1) WD)))))) L3.never W2)),?_⟩
 obtain ⟨p,B,I,N,vb,vn,rfl,hp,hB,hI,hN,pb,pn⟩:=T.p1
 obtain ⟨p',B',I',N',Si,Sj,rfl,sR,RJ,Ph,RK,R6,R9⟩:=T.p2
 have eqs:∀{H:Hp} {n:Nat} {xs:List V},(∀x∈xs,bG x=true)->∀(j:Nat) (x y:V),xs[j]? = some x->xs[j]? = some y->ET K H n x y:=fun hf j x y hx hy=>by
   rw [hx] at hy
   cases hy
   exact ET.refl (.inl (hf x (SF hx)))
 have fs:∀x∈ins.map V.str,bG x=true:=fun x hx=>by obtain ⟨z,_,rfl⟩:=List.mem_map.mp hx; rfl
 have fi:∀(l:List Int),∀x∈l.map V.int,bG x=true:=fun l x hx=>by obtain ⟨z,_,rfl⟩:=List.mem_map.mp hx; rfl
 refine ⟨_,rfl,p,_,_,_,rfl,rfl,aF.of hp,rfl,_,rfl,p',_,_,_,rfl,rfl,aF.of sR,rfl,true,RB.lst (aq.of hI) (aq.of Ph) rfl (eqs fs),_,rfl,?_⟩
 refine aD (fun c=>absurd c (by decide)) (fun _=>?_)
 refine ⟨_,rfl,_,b1,ins,n1,rfl,T.p1,T.f1,fun l1 H1 uN s1 g1=>?_⟩
 refine ⟨_,rfl,_,b2,ins,n2,rfl,T.p2.same s1,T.f2,fun l2 H2 jZ s2 g2=>?_⟩
 rw [← T.sz] at g2
 refine ⟨true,RB.lst (aq.of (s2 _ _ g1)) (aq.of g2) rfl (eqs (fi _)),_,rfl,?_⟩
 refine aD (fun c=>absurd c (by decide)) (fun _=>?_)
 exact q _ (aa s1 s2)
theorem n6 (s:Src K mg "refuse_no_pair" ip)(IS:aP P w K mg base "input_sizes" ["program"] 1 jj):aP P w K mg base "refuse_no_pair" ["one","other"] 2 jk:=
 let ⟨f,fd,F,m⟩:=s
 ⟨f,fd,rP F IS,F.kp,eE F fun _ _ _ _ _ _ _ _=>rfl,m⟩
abbrev zu:Stmt:=top 8
def ext (n:Nat)(r:List Int):List (List Int):=(S5 n).map fun w=>r++[((w:Nat):Int)]
def bN:List Int->List (List Int)
 | []=>[[]]
 | s :: ss=>(S5 s.toNat).flatMap fun w=>(bN ss).map fun r=>((w:Nat):Int) :: r
theorem gq:∀(ss:List Int) (s:Int),bN (ss++[s])=(bN ss).flatMap (ext s.toNat)
 | [],s=>by
   show (S5 s.toNat).flatMap (fun w=>[[((w:Nat):Int)]])=[[]].flatMap (ext s.toNat)
   rw [Uq,U4,Tu]
   show _=(S5 s.toNat).map fun w=>[]++[((w:Nat):Int)]
   generalize S5 s.toNat=l
   induction l with
   | nil=>rfl
   | cons x l ih=>rw [Uq,ih]; rfl
 | a :: ss,s=>by
   show (S5 a.toNat).flatMap (fun w=>(bN (ss++[s])).map fun r=>((w:Nat):Int) :: r)=((S5 a.toNat).flatMap fun w=>(bN ss).map fun r=>((w:Nat):Int) :: r).flatMap (ext s.toNat)
   rw [List.flatMap_assoc]
   congr 1
   funext w
   rw [gq ss s,List.map_flatMap,List.flatMap_map]
   congr 1
   funext r
   unfold ext
   rw [UQ]
   rfl
theorem bR:∀(ss:List Int) (r:List Int),r∈bN ss->r.length=ss.length
 | [],r,h=>by rw [List.mem_singleton.mp h]
 | s :: ss,r,h=>by
   obtain ⟨w,_,h⟩:=List.mem_flatMap.mp h
   obtain ⟨q,hq,rfl⟩:=List.mem_map.mp h
   rw [Th,Th,bR ss q hq]
theorem fH (n:Nat):∀rows:List (List Int),(rows.flatMap (ext n)).length=rows.length * n
 | []=>by simp
 | r :: rows=>by
   rw [Uq,Sy,fH n rows,Th]
   unfold ext
   rw [Sv,Tn,UG,VD]
def dF (H:Hp)(a:Addr)(r:List Int):Prop:=H a=some (.lst (r.map V.int))
structure Own (H H2:Hp)(l:Addr)(as:List Addr)(rows:List (List Int)):Prop where
 s:ai H H2
 nl:H l=none
 na:∀a∈as,H a=none
 e:H2 l=some (.lst (as.map V.ref))
 p:Paired (dF H2) as rows
 nd:as.Nodup
 nin:l ∉ as
theorem Paired.vj {α β:Type}{F G:α->β->Prop}:∀{l₁:List α} {l₂:List β},Paired F l₁ l₂->(∀a b,a∈l₁->F a b->G a b)->Paired G l₁ l₂
 | _,_,.nil,_=>.nil
 | _,_,.cons h r,f=>.cons (f _ _ TV h) (Paired.vj r fun a b ha=>f a b (List.mem_cons.mpr (.inr ha)))
theorem Own.from {H0 H H2:Hp}{l:Addr}{as:List Addr}{rows:List (List Int)}(h:Own H H2 l as rows)(s:ai H0 H):Own H0 H2 l as rows:=
 ⟨aa s h.s,aw s h.nl,fun a ha=>aw s (h.na a ha),h.e,h.p,h.nd,h.nin⟩
theorem Own.more {H H2:Hp}{l:Addr}{as:List Addr}{rows:List (List Int)}(h:Own H H2 l as rows){b:Addr}{r:List Int}(hb:H2 b=none)(h3:Hp)(s3:ai H2 h3)(e3:h3 b=some (.lst (r.map V.int))) :
   Own H (upd h3 l (.lst ((as++[b]).map V.ref))) l (as++[b]) (rows++[r]):=by
 have nb:b≠l:=fun z=>by rw [z,h.e] at hb; cases hb
 have FJ:b ∉ as:=fun z=>by
   obtain ⟨i,hi⟩:=Ua z
   obtain ⟨q,_,hq⟩:=Paired.get h.p hi
   rw [show H2 b=some (.lst (q.map V.int)) from hq] at hb
   cases hb
 have Pp:H b=none:=aw h.s hb
 refine ⟨fun c o hc=>?_,h.nl,fun a ha=>?_,ae,Paired.snoc ?_ ?_,?_,fun z=>?_⟩
 · rw [aj (ag hc h.nl)]
   exact s3 _ _ (h.s _ _ hc)
 · rcases List.mem_append.mp ha with ha | ha
   · exact h.na a ha
   · rw [List.mem_singleton.mp ha]; exact Pp
 · refine Paired.vj h.p fun a r ha z=>?_
   show upd h3 l _ a=_
   rw [aj (fun e:a=l=>h.nin (e ▸ ha))]
   exact s3 _ _ z
 · show upd h3 l _ b=_
   rw [aj nb]
   exact e3
 · rw [List.nodup_append]
   exact ⟨h.nd,by simp,fun x hx y hy e=>FJ (by rw [List.mem_singleton.mp hy] at e; exact e ▸ hx)⟩
 · rcases List.mem_append.mp z with z | z
   · exact h.nin z
   · exact nb (List.mem_singleton.mp z).symm
def qt:Sp:=fun vs H Q _=>∃(sa:Addr) (szs:List Int),vs=[.ref sa]/\H sa=some (.lst (szs.map V.int))/\(∀s∈szs,0<=s/\s<=900)/\szs.length<=900/\(∀i,(bN (szs.take i)).length<=900)/\∀l as H',Own H H' l as (bN szs)->Q (.ref l) H'
theorem qk:aE ["sizes","rows","size"] ["sizes"] (ak zu):=⟨rfl,rfl,rfl,by decide +kernel,rfl,by decide +kernel,by decide +kernel⟩
theorem B6 {f:Addr}{fd:S9}(F:cL K "every_worths" "every_worths" zu f fd)(m_range:mg "range"=none):aN P w K mg base b6 1 f fd ["sizes"] qt:=by
 refine F.ok qk (fun vs H Q E h=>?_) (fun cdv A outer s H vs Q E hr h=>?_)
 · obtain ⟨sa,szs,rfl,_⟩:=h
   rfl
 obtain ⟨sa,szs,rfl,u5,hsz,Pe,hg,q⟩:=h
 refine ⟨_,Xp (WI (WS 1 qk.nd (W0 (WC (W0 WD) WD)))
   (WI (Xb (W5 (WB 0)) (WN 2 qk.nd) (WK (L3.Lu (i:=1) [none,none,some 2] ["row","worth","size"] (show ar _ (ak zu) from ⟨rfl,by decide +kernel,by decide +kernel,by decide +kernel⟩) (by rfl) (W5 (WB 1)) (fun _ _ _ _ _=>⟨(WN 0 (show (["row","worth","size"]:List Str).Nodup from by decide +kernel)),W6,(Xj (by rfl) m_range (WC (WB 2) WD)),(WN 1 (show (["row","worth","size"]:List Str).Nodup from by decide +kernel)),W6,(WJ Xi (WB 0) (W0 (WC (WB 1) WD)))⟩) qk.nd)))
   (WK (WU (WB 1))))),?_⟩
 refine ⟨Yz,fun e0 zT=>⟨YA,fun r0 sT=>?_⟩⟩
 have s1:=af zT (.lst [])
 have e1:(upd H e0 (.lst [])) e0=some (.lst []):=ae
 generalize upd H e0 (.lst [])=Ha at s1 e1 sT ⊢
 have s2:=af sT (.lst [.ref e0])
 have e2:(upd Ha r0 (.lst [.ref e0])) r0=some (.lst [.ref e0]):=ae
 generalize upd Ha r0 (.lst [.ref e0])=H1 at s2 e2 ⊢
 have s12:=aa s1 s2
 have O1:Own H H1 r0 [e0] (bN (szs.take 0)):=⟨s12,aw s1 sT,fun a ha=>by rw [List.mem_singleton.mp ha]; exact zT,e2,.cons (s2 _ _ e1) .nil,by simp,fun z=>by rw [List.mem_singleton.mp z,e1] at sT; cases sT⟩
 refine ⟨_,rfl,sa,rfl,⟨_,aq.of (s12 _ _ u5)⟩,?_⟩
 refine bj (xs:=szs.map V.int) (fun i σ H2=>∃(l:Addr) (as:List Addr) (o2:Option V),σ=[some (.ref sa),some (.ref l),o2]/\Own H H2 l as (bN (szs.take i))) ⟨_,_,_,rfl,O1⟩ (fun i σ H2 _ z=>?_) (fun i x0 σ H2 hx z=>?_) (fun σ H2 z=>?_)
 · obtain ⟨l,as,o2,rfl,O⟩:=z
   exact aq.of (O.s _ _ u5)
 · obtain ⟨l,as,o2,rfl,O⟩:=z
   obtain ⟨s0,Bw,rfl⟩:=aJ hx
   obtain ⟨z0,z9⟩:=hsz s0 (SF Bw)
   have hi:i < szs.length:=(List.getElem?_eq_some_iff.mp Bw).1
   have mH:bN (szs.take (i + 1))=(bN (szs.take i)).flatMap (ext s0.toNat):=by
     rw [SQ,Bw]
     exact gq _ _
   have Fu:(bN (szs.take i)).length * s0.toNat<=900:=by
     have:=hg (i + 1)
     rw [mH,fH] at this
     exact this
   have xp:as.length=(bN (szs.take i)).length:=Paired.length O.p
   refine ⟨_,rfl,l,rfl,⟨_,aq.of O.e⟩,fun D hD=>?_⟩
   refine aL (xs:=as.map V.ref) (fun j H3=>∃bs,Own H2 H3 D bs (((bN (szs.take i)).take j).flatMap (ext s0.toNat))) ⟨[],af hD _,hD,(fun a ha=>nomatch ha),ae,.nil,US,(fun z=>nomatch z)⟩ (fun j H3 _ z=>?_) (fun j x H3 hx z=>?_) (fun H3 z=>?_)
   · obtain ⟨bs,O3⟩:=z
     exact aq.of (O3.s _ _ O.e)
   · obtain ⟨bs,O3⟩:=z
     obtain ⟨a,ha,rfl⟩:=aJ hx
     have DP:j < as.length:=(List.getElem?_eq_some_iff.mp ha).1
     have PX:j < (as.map V.ref).length:=by rw [Sv]; exact DP
     obtain ⟨r,dC,uk⟩:=Paired.get O.p ha
     have yv:r.length<=900:=by
       have:=bR _ _ (SF dC)
       rw [SH] at this
       omega
     refine aG ?_
     refine bp (A:=fun H4=>pT _ _ _ (bK _ D) _ H4 _) ?_
     refine ⟨_,rfl,s0,rfl,by omega,by omega,?_⟩
     refine cg (lo:=0) (n:=s0.toNat) (fun k H4=>∃bs,Own H2 H4 D bs (((bN (szs.take i)).take j).flatMap (ext s0.toNat)++(ext s0.toNat r).take k)) ⟨bs,by rw [V2,Tu]; exact O3⟩ (fun k H4 hk z=>?_) (fun H4 z=>?_)
     · obtain ⟨cs,O4⟩:=z
       have xt:cs.length=j * s0.toNat + k:=by
         have:=Paired.length O4.p
         rw [Sy,fH,SH,SH] at this
         unfold ext at this
         rw [Sv,Tn] at this
         rw [this,UA (by omega),UA (by omega)]
       have Jq:cs.length < 901:=by
         have h1:(j + 1) * s0.toNat<=(bN (szs.take i)).length * s0.toNat:=Vj _ (by omega)
         rw [UG] at h1
         omega
       refine aG ?_
       refine bp (A:=fun H5=>bK _ D _ H5 _) ?_
       refine ⟨_,rfl,_,rfl,YA,fun wl hwl=>?_⟩
       have t1:=af hwl (.lst [.int (0 + (k:Int))])
       have u1:(upd H4 wl (.lst [.int (0 + (k:Int))])) wl=some (.lst [.int (0 + (k:Int))]):=ae
       generalize upd H4 wl (.lst [.int (0 + (k:Int))])=H5 at t1 u1 ⊢
       have Jb:H4 a=some (.lst (r.map V.int)):=O4.s _ _ uk
       refine ⟨a,wl,_,_,rfl,rfl,t1 _ _ Jb,u1,small (by simp; omega),fun nb kU=>?_⟩
       have t2:=af kU (.lst (r.map V.int++[.int (0 + (k:Int))]))
       have u2:(upd H5 nb (.lst (r.map V.int++[.int (0 + (k:Int))]))) nb=some (.lst ((r++[(k:Int)]).map V.int)):=by
         rw [ae,SR,Ve]
         rfl
       generalize upd H5 nb (.lst (r.map V.int++[.int (0 + (k:Int))]))=H6 at t2 u2 ⊢
       have Ny:=aa t1 t2
       refine ⟨_,Ny _ _ O4.e,aB (by rw [Sv]; omega),aA (Pv:=fun k H4=>∃bs,Own H2 H4 D bs (((bN (szs.take i)).take j).flatMap (ext s0.toNat)++(ext s0.toNat r).take k)) (by repeat' constructor) hk ⟨cs++[nb],?_⟩⟩
       have O5:=O4.more (aw t1 kU) H6 Ny u2
       rw [SR] at O5
       have er:(ext s0.toNat r).take (k + 1)=(ext s0.toNat r).take k++[r++[(k:Int)]]:=by
         rw [SQ]
         congr 1
         unfold ext
         rw [S2,T1 hk]
         rfl
       rw [er,← UZ]
       exact O5
     · obtain ⟨cs,O4⟩:=z
       refine aA (Pv:=fun j H3=>∃bs,Own H2 H3 D bs (((bN (szs.take i)).take j).flatMap (ext s0.toNat))) (by repeat' constructor) PX ⟨cs,?_⟩
       have e1:(ext s0.toNat r).take s0.toNat=ext s0.toNat r:=Tf (by unfold ext; rw [Sv,Tn]; exact Sz _)
       rw [e1] at O4
       rw [SQ,dC,Vn]
       show Own H2 H4 D cs (_++[r].flatMap (ext s0.toNat))
       rw [Uq,U4,Tu]
       exact O4
   · obtain ⟨bs,O3⟩:=z
     rw [Sv,xp,SV,← mH] at O3
     exact ⟨D,bs,_,rfl,O3.from O.s⟩
 · obtain ⟨l,as,o2,rfl,O⟩:=z
   rw [Sv,SV] at O
   exact ⟨_,rfl,q l as H2 O⟩
theorem xY (s:Src K mg "every_worths" zu)(m_range:mg "range"=none):aP P w K mg base "every_worths" ["sizes"] 1 qt:=
 let ⟨f,fd,F,m⟩:=s
 ⟨f,fd,B6 F m_range,F.kp,lT F fun _ _ _ _ _ _ _=>rfl,m⟩
def E.Ak (f:Str->Str):E->E
 | .num n=>.num n | .box t x=>.box t (f x) | .yes=>.yes | .nt a=>.nt (a.Ak f) | .two k a b=>.two k (a.Ak f) (b.Ak f)
def Nd.as (f:Str->Str)(g:Int->Int):Nd->Nd
 | .put x s n=>.put (f x) (s.Ak f) (g n) | .say s n=>.say (s.Ak f) (g n) | .test c n o=>.test (c.Ak f) (g n) (g o) | .fin=>.fin
def aT (H:Hp)(c:Addr)(dom:List Str)(f:Str->Str):Prop:=∃kvs,H c=some (.dK kvs)/\∀x∈dom,a8 kvs (.inr x)=some (.str (f x))
theorem aT.same {H H':Hp}{c:Addr}{dom:List Str}{f:Str->Str}(h:aT H c dom f)(s:ai H H'):aT H' c dom f:=let ⟨kvs,e,v⟩:=h; ⟨kvs,s _ _ e,v⟩
theorem aT.get {H:Hp}{c:Addr}{dom:List Str}{f:Str->Str}(h:aT H c dom f){x:Str}(hx:x∈dom):eB H c (.str x) (some (.str (f x))):=by
 obtain ⟨kvs,e,v⟩:=h
 have g:=eB.k (k:=.inr x) e
 rw [v x hx] at g
 exact g
inductive Pt where
 | plain (v:V) | tree (e:E)
def Pt.isAt (H:Hp):V->Pt->Prop
 | v,.plain u=>v=u/\((∃s,u=.str s)\/∃i,u=.int i)
 | v,.tree e=>b7 H v e
def Pt.fJ (f:Str->Str)(H:Hp):V->Pt->Prop
 | v,.plain u=>v=u
 | v,.tree e=>b7 H v (e.Ak f)
theorem Pt.fJ.keep {f:Str->Str}{H H':Hp}(k:TK H H'):∀{pt:Pt} {v:V},Pt.fJ f H v pt->Pt.fJ f H' v pt
 | .plain _,_,h=>h
 | .tree _,_,h=>b7.keep k h
def Pt.Lg (dom:List Str)(n:Nat):Pt->Prop
 | .plain _=>True
 | .tree e=>e.okIn (DY dom)/\e.dep < n
abbrev wD:Stmt:=top 28
def fR (n:Nat):Sp:=fun vs H Q _=>∃(v:V) (c:Addr) (e:E) (dom:List Str) (f:Str->Str),vs=[v,.ref c]/\b7 H v e/\e.okIn (DY dom)/\aT H c dom f/\e.dep < n/\∀(v':V) (H':Hp),ai H H'->b7 H' v' (e.Ak f)->Q v' H'
theorem Gy:aE ["thing","called"] ["thing","called"] (ak wD):=⟨rfl,rfl,rfl,by decide +kernel,rfl,by decide +kernel,by decide +kernel⟩
theorem nV:ba wD "tuple":=by decide +kernel
theorem Cf {n:Nat}{f:Addr}{fd:S9}(F:cL K "_law_renamed" "_law_renamed" wD f fd)(m_tuple:mg "tuple"=none)(m_isinstance:mg "isinstance"=none)(G:aP P w K mg base "_law_renamed" ["thing","called"] (n + 1) (fR n)):aN P w K mg base b6 (n + 2) f fd ["thing","called"] (fR (n + 1)):=by
 refine F.ok Gy (fun vs H Q E h=>?_) (fun cdv A outer s H vs Q E hr h=>?_)
 · obtain ⟨v,c,e,dom,g,rfl,_⟩:=h
   rfl
 obtain ⟨v,c,e,dom,g,rfl,ev,ok,ca,hd,q⟩:=h
 refine fC ⟨_,(WI (WZ (WX W3 (WG WR (WB 0) WE) WQ) (WK (WU (WT (WC WQ (WC (Xs (bq hr _ (by decide)) (WB 1) (WG WR (WB 0) WE)) WD))))) W2)
   (WK (WU (Xg L3.pE nV m_tuple (by decide +kernel) (WC (Xc [none,some 1] ["part","called"] (show ar _ (ak wD) from ⟨rfl,by decide +kernel,by decide +kernel,by decide +kernel⟩) (by rfl) (L3.iT (WB 0)) (fun _ _ _ _ _=>⟨(WN 0 (show (["part","called"]:List Str).Nodup from by decide +kernel)),W6,(L3.QF (Xo (W4 Xx (by rfl) m_isinstance (by decide +kernel) (WC (WB 0) (WC (Xy (w:=.ty "tuple") (by rfl) m_tuple (by decide +kernel) rfl) WD)))) (WV G hr (by rfl) (WC (WB 0) (WC (WB 1) WD))) (WB 0))⟩)) WD))))),?_⟩
 have key:(∃x,e=.box "box" x/\x∈dom)\/∃(p:Addr) (xs:List V) (pts:List Pt) (s0:Str),v=.ref p/\H p=some (.tup xs)/\Paired (Pt.isAt H) xs pts/\eZ xs 0=some (.str s0)/\s0≠"box"/\(∀pt∈pts,pt.Lg dom n)/\xs.length<=4 /\
     ∀(p':Addr) (ys:List V) (H':Hp),ai H H'->H' p'=some (.tup ys)->Paired (Pt.fJ g H') ys pts->Q (.ref p') H':=by
   cases e with
   | num m=>
     obtain ⟨p,rfl,hp⟩:=ev
     refine .inr ⟨p,_,[.plain (.str "number"),.plain (.int m)],"number",rfl,hp,.cons ⟨rfl,.inl ⟨_,rfl⟩⟩ (.cons ⟨rfl,.inr ⟨_,rfl⟩⟩ .nil),rfl,by decide,?_,by show 2<=4; decide,fun p' ys H' s' sR po=>q _ _ s' ?_⟩
     · intro pt hpt
       rcases List.mem_cons.mp hpt with z | z
       · subst z; trivial
       · rw [List.mem_singleton.mp z]; trivial
     · cases po with
       | cons h1 po=>cases po with
         | cons h2 po=>cases po; cases h1; cases h2; exact ⟨p',rfl,sR⟩
   | box t x=>
     obtain ⟨rfl,hx⟩:=ok
     exact .inl ⟨x,rfl,hx⟩
   | yes=>
     obtain ⟨p,rfl,hp⟩:=ev
     refine .inr ⟨p,_,[.plain (.str "yes")],"yes",rfl,hp,.cons ⟨rfl,.inl ⟨_,rfl⟩⟩ .nil,rfl,by decide,?_,by show 1<=4; decide,fun p' ys H' s' sR po=>q _ _ s' ?_⟩
     · intro pt hpt
       rw [List.mem_singleton.mp hpt]; trivial
     · cases po with
       | cons h1 po=>cases po; cases h1; exact ⟨p',rfl,sR⟩
   | nt a=>
     obtain ⟨x,⟨p,rfl,hp⟩,ax⟩:=ev
     have rj:a.dep + 1 < n + 1:=hd
     refine .inr ⟨p,_,[.plain (.str "not"),.tree a],"not",rfl,hp,.cons ⟨rfl,.inl ⟨_,rfl⟩⟩ (.cons ax .nil),rfl,by decide,?_,by show 2<=4; decide,fun p' ys H' s' sR po=>q _ _ s' ?_⟩
     · intro pt hpt
       rcases List.mem_cons.mp hpt with z | z
       · subst z; trivial
       · rw [List.mem_singleton.mp z]; exact ⟨ok,by omega⟩
     · cases po with
       | cons h1 po=>cases po with
         | cons h2 po=>cases po; cases h1; exact ⟨_,⟨p',rfl,sR⟩,h2⟩
   | two k a b=>
     obtain ⟨x,y,⟨p,rfl,hp⟩,ax,ay⟩:=ev
     have rj:max a.dep b.dep + 1 < n + 1:=hd
     refine .inr ⟨p,_,[.plain (.str k.str),.tree a,.tree b],k.str,rfl,hp,.cons ⟨rfl,.inl ⟨_,rfl⟩⟩ (.cons ax (.cons ay .nil)),rfl,by cases k <;> decide,?_,by show 3<=4; decide,fun p' ys H' s' sR po=>q _ _ s' ?_⟩
     · intro pt hpt
       rcases List.mem_cons.mp hpt with z | hpt
       · subst z; trivial
       rcases List.mem_cons.mp hpt with z | z
       · subst z; exact ⟨ok.1,by omega⟩
       · rw [List.mem_singleton.mp z]; exact ⟨ok.2,by omega⟩
     · cases po with
       | cons h1 po=>cases po with
         | cons h2 po=>cases po with
           | cons h3 po=>cases po; cases h1; exact ⟨_,_,⟨p',rfl,sR⟩,h2,h3⟩
 rcases key with ⟨x,rfl,hx⟩ | ⟨p,xs,pts,s0,rfl,hp,pp,h0,uS,QV,JK,q⟩
 · obtain ⟨p,rfl,hp⟩:=ev
   refine ⟨_,rfl,p,_,_,_,rfl,rfl,aF.of hp,rfl,rfl,_,rfl,?_⟩
   refine aD (fun _=>?_) (fun c=>absurd (decide_eq_true rfl) c)
   refine ⟨_,rfl,_,rfl,p,_,_,_,rfl,rfl,aF.of hp,rfl,c,_,rfl,ca.get hx,YB,fun p2 bF=>?_⟩
   exact q _ _ (af bF _) ⟨p2,rfl,ae⟩
 · refine ⟨_,rfl,p,_,_,_,rfl,rfl,aF.of hp,h0,rfl,_,rfl,?_⟩
   refine aD (fun c=>absurd (of_decide_eq_true c) (fun z=>uS (by injection z))) (fun _=>?_)
   refine ⟨_,rfl,p,rfl,⟨_,aF.of hp⟩,fun nb kU=>?_⟩
   refine tS (xs:=xs) (fun i H2=>∃ys:List V,ai H H2/\H2 nb=some (.lst ys)/\ys.length=i/\Paired (Pt.fJ g H2) ys (pts.take i)) ⟨[],af kU _,ae,rfl,.nil⟩ (fun i H2 _ z=>aF.of (z.choose_spec.1 _ _ hp)) (fun i x H2 hx z=>?_) (fun H2 z=>?_)
   · obtain ⟨ys,s2,rh,MQ,py⟩:=z
     obtain ⟨pt,hpt,kS⟩:=Paired.get pp hx
     have cj:i < xs.length:=(List.getElem?_eq_some_iff.mp hx).1
     have M9:=QV pt (SF hpt)
     refine aG ?_
     refine bp (A:=fun H3=>bK _ nb _ H3 _) ?_
     have fin:∀(v:V) (H3:Hp),ai H2 H3->Pt.fJ g H3 v pt->∃ys,H3 nb=some (.lst ys)/\ys.length < sizeLine/\∃GV,ai H (upd H3 nb (.lst (ys++[v])))/\(upd H3 nb (.lst (ys++[v]))) nb=some (.lst GV)/\GV.length=i + 1/\Paired (Pt.fJ g (upd H3 nb (.lst (ys++[v])))) GV (pts.take (i + 1)):=fun v H3 s3 ho=>by
       have uG:=s3 _ _ rh
       refine ⟨ys,uG,aB (by omega),ys++[v],az (aa s2 s3) kU,ae,by rw [Sy,MQ]; rfl,?_⟩
       rw [SQ,hpt]
       exact Paired.snoc (Paired.aI py fun a b h=>h.keep ((ai.tk s3).trans (TK.lst uG))) (ho.keep (TK.lst uG))
     cases pt with
     | plain u=>
       obtain ⟨rfl,hu⟩:=kS
       have hty:∃T:String,dm K H2 x (.type T)/\U8 K (.type T) (.type "tuple")=some false:=by
         rcases hu with ⟨s,rfl⟩ | ⟨i,rfl⟩
         · exact ⟨"str",.str s,rfl⟩
         · exact ⟨"int",.int i,rfl⟩
       obtain ⟨T,ty,QG⟩:=hty
       obtain ⟨LJ,g1,g2,g3⟩:=fin x H2 (same_refl _) rfl
       refine ⟨_,rfl,x,"tuple",_,false,rfl,ty,QG,_,rfl,?_⟩
       refine hV ⟨_,rfl,LJ,g1,g2,aA (Pv:=fun i H2=>∃ys:List V,ai H H2/\H2 nb=some (.lst ys)/\ys.length=i/\Paired (Pt.fJ g H2) ys (pts.take i)) (by repeat' constructor) cj g3⟩
     | tree e1=>
       obtain ⟨px,ex,Qi⟩ : ∃px,x=.ref px/\∃us,H px=some (.tup us):=by
         have uE:b7 H x e1:=kS
         cases e1 with
         | num m=>obtain ⟨p,e,h⟩:=uE; exact ⟨p,e,_,h⟩
         | box t y=>obtain ⟨p,e,h⟩:=uE; exact ⟨p,e,_,h⟩
         | yes=>obtain ⟨p,e,h⟩:=uE; exact ⟨p,e,_,h⟩
         | nt a=>obtain ⟨_,⟨p,e,h⟩,_⟩:=uE; exact ⟨p,e,_,h⟩
         | two k a b=>obtain ⟨_,_,⟨p,e,h⟩,_,_⟩:=uE; exact ⟨p,e,_,h⟩
       obtain ⟨us,Qu⟩:=Qi
       subst ex
       refine ⟨_,rfl,.ref px,"tuple",_,true,rfl,.tup (s2 _ _ Qu),rfl,_,rfl,?_⟩
       refine rE ⟨_,rfl,_,rfl,.ref px,c,e1,dom,g,rfl,b7.keep (ai.tk s2) kS,M9.1,ca.same s2,M9.2,fun v' H3 s3 Ow=>?_⟩
       obtain ⟨LJ,g1,g2,g3⟩:=fin v' H3 s3 Ow
       exact ⟨LJ,g1,g2,aA (Pv:=fun i H2=>∃ys:List V,ai H H2/\H2 nb=some (.lst ys)/\ys.length=i/\Paired (Pt.fJ g H2) ys (pts.take i)) (by repeat' constructor) cj g3⟩
   · obtain ⟨ys,s2,rh,MQ,py⟩:=z
     rw [Paired.length pp,SV] at py
     refine ⟨nb,_,rfl,aq.of rh,fun p' sR=>?_⟩
     exact q p' ys _ (ao s2 sR) ae (Paired.aI py fun a b h=>h.keep (aC sR _))
theorem vA {f:Addr}{fd:S9}:aN P w K mg base b6 1 f fd ["thing","called"] (fR 0):=by
 have no:∀vs H Q E,¬ fR 0 vs H Q E:=fun vs H Q E h=>by
   obtain ⟨_,_,_,_,_,_,_,_,_,h1,_⟩:=h
   omega
 exact ⟨fun vs H Q E h=>absurd h (no vs H Q E),fun A outer s H args us vs Q E _ _ _ _ h=>absurd h (no vs H Q E)⟩
theorem yd (s:Src K mg "_law_renamed" wD)(m_tuple:mg "tuple"=none)(m_isinstance:mg "isinstance"=none):∀n:Nat,aP P w K mg base "_law_renamed" ["thing","called"] (n + 1) (fR n):=by
 obtain ⟨f,fd,F,m⟩:=s
 have b:Binds K fd ["thing","called"] []:=eE F fun _ _ _ _ _ _ _ _=>rfl
 intro n
 have all:aN P w K mg base b6 (n + 1) f fd ["thing","called"] (fR n):=by
   induction n with
   | zero=>exact vA
   | succ n ih=>exact Cf F m_tuple m_isinstance ⟨f,fd,ih,F.kp,b,m⟩
 exact ⟨f,fd,all,F.kp,b,m⟩
abbrev iq:Stmt:=top 29
abbrev qj:Stmt:=top 31
def lj (ps:List Int)(n:Int):Int:=ps.getD n.toNat 0
theorem ja {ps:List Int}{n:Int}(h0:0<=n)(h1:n < (ps.length:Int)):eZ (ps.map V.int) n=some (.int (lj ps n)):=by
 obtain ⟨x,g,_,e⟩:=br V.int ps h0 h1
 rw [e]
 unfold lj
 rw [Ta,g]
 rfl
def fQ:Sp:=fun vs H Q _=>∃(v:V) (c pl:Addr) (e:Nd) (dom:List Str) (f:Str->Str) (ps:List Int),vs=[v,.ref c,.ref pl]/\bO H v e/\e.good (· ∈ dom) ps.length 5/\aT H c dom f/\H pl=some (.lst (ps.map V.int))/\∀(v':V) (H':Hp),ai H H'->bO H' v' (e.as f (lj ps))->Q v' H'
theorem wL:aE ["node","called","places"] ["node","called","places"] (ak iq):=⟨rfl,rfl,rfl,by decide +kernel,rfl,by decide +kernel,by decide +kernel⟩
theorem bM:ba iq "_law_renamed":=by decide +kernel
theorem rQ {f:Addr}{fd:S9}(F:cL K "_law_node_as" "_law_node_as" iq f fd)(R:aP P w K mg base "_law_renamed" ["thing","called"] 7 (fR 6)):aN P w K mg base b6 8 f fd ["node","called","places"] fQ:=by
 refine F.ok wL (fun vs H Q E h=>?_) (fun cdv A outer s H vs Q E hr h=>?_)
 · obtain ⟨v,c,pl,e,dom,g,ps,rfl,_⟩:=h
   rfl
 obtain ⟨v,c,pl,e,dom,g,ps,rfl,ev,gd,ca,hpl,q⟩:=h
 refine fC ⟨_,(WI (WZ (WX W3 (WG WR (WB 0) WE) WQ) (WK (WU (WT (WC WQ (WC (Xs (bq hr _ (by decide)) (WB 1) (WG WR (WB 0) WE)) (WC (WV R hr bM (WC (WG WR (WB 0) WE) (WC (WB 1) WD))) (WC (WG WM (WB 2) (WG WR (WB 0) WE)) WD))))))) W2)
   (WI (WZ (WX W3 (WG WR (WB 0) WE) WQ) (WK (WU (WT (WC WQ (WC (WV R hr bM (WC (WG WR (WB 0) WE) (WC (WB 1) WD))) (WC (WG WM (WB 2) (WG WR (WB 0) WE)) WD)))))) W2)
   (WI (WZ (WX W3 (WG WR (WB 0) WE) WQ) (WK (WU (WT (WC WQ (WC (WV R hr bM (WC (WG WR (WB 0) WE) (WC (WB 1) WD))) (WC (WG WM (WB 2) (WG WR (WB 0) WE)) (WC (WG WM (WB 2) (WG WR (WB 0) WE)) WD))))))) W2)
   (WK (WU (WB 0)))))),?_⟩
 cases e with
 | put x s1 n1=>
   obtain ⟨u,⟨p,rfl,hp⟩,au⟩:=ev
   obtain ⟨hx,hU,fX,sH,n0,nl⟩:=gd
   refine ⟨_,rfl,p,_,_,_,rfl,rfl,aF.of hp,rfl,rfl,_,rfl,?_⟩
   refine aD (fun _=>?_) (fun c=>absurd (decide_eq_true rfl) c)
   refine ⟨_,rfl,_,rfl,p,_,_,_,rfl,rfl,aF.of hp,rfl,c,_,rfl,ca.get hx,?_⟩
   refine ⟨_,rfl,p,_,_,_,rfl,rfl,aF.of hp,rfl,_,rfl,u,c,s1,dom,g,rfl,au,fX,ca,by omega,fun v' H2 s2 a2=>?_⟩
   refine ⟨_,rfl,_,rfl,p,_,_,_,rfl,rfl,aF.of (s2 _ _ hp),rfl,pl,_,_,_,rfl,rfl,aq.of (s2 _ _ hpl),ja n0 nl,YD,fun p2 bF=>?_⟩
   exact q _ _ (ao s2 bF) ⟨v',⟨p2,rfl,ae⟩,a2.keep (aC bF _)⟩
 | say s1 n1=>
   obtain ⟨u,⟨p,rfl,hp⟩,au⟩:=ev
   obtain ⟨hU,fX,sH,n0,nl⟩:=gd
   refine ⟨_,rfl,p,_,_,_,rfl,rfl,aF.of hp,rfl,rfl,_,rfl,?_⟩
   refine aD (fun c=>absurd (of_decide_eq_true c) (by decide)) (fun _=>?_)
   refine ⟨_,rfl,p,_,_,_,rfl,rfl,aF.of hp,rfl,rfl,_,rfl,?_⟩
   refine aD (fun _=>?_) (fun c=>absurd (decide_eq_true rfl) c)
   refine ⟨_,rfl,p,_,_,_,rfl,rfl,aF.of hp,rfl,_,rfl,u,c,s1,dom,g,rfl,au,fX,ca,by omega,fun v' H2 s2 a2=>?_⟩
   refine ⟨_,rfl,_,rfl,p,_,_,_,rfl,rfl,aF.of (s2 _ _ hp),rfl,pl,_,_,_,rfl,rfl,aq.of (s2 _ _ hpl),ja n0 nl,YC,fun p2 bF=>?_⟩
   exact q _ _ (ao s2 bF) ⟨v',⟨p2,rfl,ae⟩,a2.keep (aC bF _)⟩
 | test s1 n1 n2=>
   obtain ⟨u,⟨p,rfl,hp⟩,au⟩:=ev
   obtain ⟨hU,fX,sH,n0,nl,m0,ml⟩:=gd
   refine ⟨_,rfl,p,_,_,_,rfl,rfl,aF.of hp,rfl,rfl,_,rfl,?_⟩
   refine aD (fun c=>absurd (of_decide_eq_true c) (by decide)) (fun _=>?_)
   refine ⟨_,rfl,p,_,_,_,rfl,rfl,aF.of hp,rfl,rfl,_,rfl,?_⟩
   refine aD (fun c=>absurd (of_decide_eq_true c) (by decide)) (fun _=>?_)
   refine ⟨_,rfl,p,_,_,_,rfl,rfl,aF.of hp,rfl,rfl,_,rfl,?_⟩
   refine aD (fun _=>?_) (fun c=>absurd (decide_eq_true rfl) c)
   refine ⟨_,rfl,p,_,_,_,rfl,rfl,aF.of hp,rfl,_,rfl,u,c,s1,dom,g,rfl,au,fX,ca,by omega,fun v' H2 s2 a2=>?_⟩
   refine ⟨_,rfl,_,rfl,p,_,_,_,rfl,rfl,aF.of (s2 _ _ hp),rfl,pl,_,_,_,rfl,rfl,aq.of (s2 _ _ hpl),ja n0 nl,?_⟩
   refine ⟨_,rfl,_,rfl,p,_,_,_,rfl,rfl,aF.of (s2 _ _ hp),rfl,pl,_,_,_,rfl,rfl,aq.of (s2 _ _ hpl),ja m0 ml,YD,fun p2 bF=>?_⟩
   exact q _ _ (ao s2 bF) ⟨v',⟨p2,rfl,ae⟩,a2.keep (aC bF _)⟩
 | fin=>
   obtain ⟨p,rfl,hp⟩:=ev
   refine ⟨_,rfl,p,_,_,_,rfl,rfl,aF.of hp,rfl,rfl,_,rfl,?_⟩
   refine aD (fun c=>absurd (of_decide_eq_true c) (by decide)) (fun _=>?_)
   refine ⟨_,rfl,p,_,_,_,rfl,rfl,aF.of hp,rfl,rfl,_,rfl,?_⟩
   refine aD (fun c=>absurd (of_decide_eq_true c) (by decide)) (fun _=>?_)
   refine ⟨_,rfl,p,_,_,_,rfl,rfl,aF.of hp,rfl,rfl,_,rfl,?_⟩
   refine aD (fun c=>absurd (of_decide_eq_true c) (by decide)) (fun _=>?_)
   exact ⟨_,rfl,q _ _ (same_refl _) ⟨p,rfl,hp⟩⟩
theorem n8 (s:Src K mg "_law_node_as" iq)(R:aP P w K mg base "_law_renamed" ["thing","called"] 7 (fR 6)):aP P w K mg base "_law_node_as" ["node","called","places"] 8 fQ:=
 let ⟨f,fd,F,m⟩:=s
 ⟨f,fd,rQ F R,F.kp,nM F fun _ _ _ _ _ _ _ _ _=>rfl,m⟩
def iC (bs:List (Str×Int))(f:Str->Str)(after:Int)(e:Nd):Prop:=(∃o,0<=o/\o<=after/\e=.test .yes after o)\/∃x∈bs.map (·.1),e=.put (f x) (.box "box" (f x)) after
def jm:Sp:=fun vs H Q _=>∃(B c:Addr) (vb:List V) (bs:List (Str×Int)) (f:Str->Str) (n after:Int),vs=[.ref B,.ref c,.int n,.int after]/\H B=some (.lst vb)/\Paired (bU H) vb bs/\aT H c (bs.map (·.1)) f/\0<=n/\0<=after/\∀(v':V) (H':Hp) (e:Nd),ai H H'->bO H' v' e->iC bs f after e->Q v' H'
theorem wM:aE ["boxes","called","number","after","name"] ["boxes","called","number","after"] (ak qj):=⟨rfl,rfl,rfl,by decide +kernel,rfl,by decide +kernel,by decide +kernel⟩
theorem qX:ba qj "len":=by decide +kernel
theorem yN {f:Addr}{fd:S9}(F:cL K "_law_skip" "_law_skip" qj f fd)(m_len:mg "len"=none):aN P w K mg base b6 1 f fd ["boxes","called","number","after"] jm:=by
 refine F.ok wM (fun vs H Q E h=>?_) (fun cdv A outer s H vs Q E hr h=>?_)
 · obtain ⟨B,c,vb,bs,g,n,after,rfl,_⟩:=h
   rfl
 obtain ⟨B,c,vb,bs,g,n,after,rfl,hB,pb,ca,P7,RL,q⟩:=h
 refine fC ⟨_,(WI (WZ (Xq (Xv (WX (XC (m:=0) (bq hr _ (by decide))) (WB 0) (W0 WD)) (XE (WX W3 (WJ WY (WB 2) WE) WE)))) (WK (WU (WT (WC WQ (WC (WT (WC WQ WD)) (WC (WB 3) (WC (WJ WY (WJ Xe (WB 2) WE) (WJ Xd (WB 3) WE)) WD))))))) W2)
   (WI (WS 4 wM.nd (Xs (bq hr _ (by decide)) (WB 1) (WG WR (WG WM (WB 0) (WJ WY (WJ Xe (WB 2) WE) (W4 Xa qX m_len Te (WC (WB 0) WD)))) WE)))
   (WK (WU (WT (WC WQ (WC (WB 4) (WC (WT (WC WQ (WC (WB 4) WD))) (WC (WB 3) WD))))))))),?_⟩
 have d2:(2:Int) < 2 ^ 1000:=by decide +kernel
 have gC:vb.length=bs.length:=Paired.length pb
 refine ⟨_,rfl,Yz,fun lz rp=>?_⟩
 obtain ⟨H1,s1,hz,zz⟩:=aH rp (.lst [])
 rw [zz]; clear zz
 have hB1:=s1 _ _ hB
 refine ⟨_,RB.nil (aq.of hB1) (aq.of hz),_,rfl,?_⟩
 refine aD (fun c1=>?_) (fun c1=>?_)
 · refine rE ?_
   refine ⟨YA,fun p1 hp1=>⟨_,rfl,_,rfl,_,_,rfl,rfl,⟨(by show (0:Int) < 2; decide),d2⟩,_,rfl,_,_,rfl,rfl,_,_,rfl,rfl,(by show (0:Int) < after + 1; omega),YD,fun p2 bF=>?_⟩⟩
   have k1:b7 (upd H1 p1 (.tup [.str "yes"])) (.ref p1) .yes:=⟨p1,rfl,ae⟩
   exact q _ _ (.test .yes after (n / 2 % (after + 1))) (ao (ao s1 hp1) bF) ⟨.ref p1,⟨p2,rfl,ae⟩,k1.keep (aC bF _)⟩ (.inl ⟨_,S7 _ (by omega),by have:=S0 (n / 2) (show 0 < after + 1 by omega); omega,rfl⟩)
 refine ⟨_,rfl,_,_,rfl,rfl,(by show (0:Int) < 2; decide),rfl,_,rfl,?_⟩
 refine aD (fun c2=>?_) (fun c2=>?_)
 · refine ⟨YA,fun p1 hp1=>⟨_,rfl,_,rfl,_,_,rfl,rfl,⟨(by show (0:Int) < 2; decide),d2⟩,_,rfl,_,_,rfl,rfl,_,_,rfl,rfl,(by show (0:Int) < after + 1; omega),YD,fun p2 bF=>?_⟩⟩
   have k1:b7 (upd H1 p1 (.tup [.str "yes"])) (.ref p1) .yes:=⟨p1,rfl,ae⟩
   exact q _ _ (.test .yes after (n / 2 % (after + 1))) (ao (ao s1 hp1) bF) ⟨.ref p1,⟨p2,rfl,ae⟩,k1.keep (aC bF _)⟩ (.inl ⟨_,S7 _ (by omega),by have:=S0 (n / 2) (show 0 < after + 1 by omega); omega,rfl⟩)
 have hG:(0:Int) < (vb.length:Int):=by
   cases vb with
   | nil=>exact absurd rfl c1
   | cons x r=>simp only [Th]; omega
 obtain ⟨x,gx,kS⟩:=jJ (xs:=vb) (r:=n / 2 % (vb.length:Int)) (S7 _ (by omega)) (S0 _ hG)
 obtain ⟨b,gb,p,rfl,hp⟩:=Paired.get pb gx
 have hx:b.1∈bs.map (·.1):=List.mem_map.mpr ⟨b,SF gb,rfl⟩
 refine ⟨_,rfl,_,rfl,_,rfl,_,_,rfl,rfl,⟨(by show (0:Int) < 2; decide),d2⟩,_,rfl,B,_,rfl,.inl (aq.of hB1),_,_,rfl,rfl,hG,B,_,_,_,rfl,rfl,aq.of hB1,kS,p,_,_,_,rfl,rfl,aF.of (s1 _ _ hp),rfl,c,_,rfl,(ca.same s1).get hx,?_⟩
 refine ⟨_,rfl,_,rfl,YB,fun p1 hp1=>⟨_,rfl,YD,fun p2 bF=>?_⟩⟩
 have k1:b7 (upd H1 p1 (.tup [.str "box",.str (g b.1)])) (.ref p1) (.box "box" (g b.1)):=⟨p1,rfl,ae⟩
 exact q _ _ (.put (g b.1) (.box "box" (g b.1)) after) (ao (ao s1 hp1) bF) ⟨.ref p1,⟨p2,rfl,ae⟩,k1.keep (aC bF _)⟩ (.inr ⟨b.1,hx,rfl⟩)
theorem uD (s:Src K mg "_law_skip" qj)(m_len:mg "len"=none):aP P w K mg base "_law_skip" ["boxes","called","number","after"] 1 jm:=
 let ⟨f,fd,F,m⟩:=s
 ⟨f,fd,yN F m_len,F.kp,tK F fun _ _ _ _ _ _ _ _ _ _=>rfl,m⟩
abbrev dy:Stmt:=top 30
theorem i0 (x:Str):∀(ins:List Str),FE (.str x) (ins.map V.str)=decide (x∈ins)
 | []=>rfl
 | y :: r=>by
   show (jT (.str y) (.str x) || FE (.str x) (r.map V.str))=_
   rw [i0 x r]
   show ((y == x) || decide (x∈r))=_
   by_cases h:y=x
   · subst h
     simp
   · have h1:(y == x)=false:=beq_eq_false_iff_ne.mpr h
     have h2:¬ x=y:=fun z=>h z.symm
     rw [h1,Bool.false_or]
     by_cases h3:x∈r <;> simp [h2,h3]
theorem jU (ins:List Str):(ins.map V.str).all bG=true:=by
 rw [List.all_map]
 exact List.all_eq_true.mpr fun x _=>rfl
theorem fj {α:Type}[DecidableEq α]{y:α}:∀{xs:List α},y∈xs->∃j:Nat,xs[j]? = some y/\∀m,m < j->xs[m]? ≠ some y
 | x :: r,h=>by
   by_cases e:x=y
   · exact ⟨0,by rw [e]; rfl,fun m hm=>absurd hm (Vd _)⟩
   · obtain ⟨j,h1,h2⟩:=fj (xs:=r) ((List.mem_cons.mp h).resolve_left fun z=>e z.symm)
     refine ⟨j + 1,by simpa using h1,fun m hm=>?_⟩
     cases m with
     | zero=>intro z; simp at z; exact e z
     | succ m=>simpa using h2 m (by omega)
theorem eW {α:Type}:∀{l:List α} {i:Nat} (h:i < l.length) {x:α},x∈l->x=l[i]\/x∈l.eraseIdx i
 | a :: r,0,_,x,hx=>by
   rcases List.mem_cons.mp hx with z | z
   · exact .inl z
   · exact .inr (by rw [List.eraseIdx_cons_zero]; exact z)
 | a :: r,i + 1,h,x,hx=>by
   have h':i < r.length:=by simpa using h
   rw [V9]
   rcases List.mem_cons.mp hx with z | z
   · exact .inr (List.mem_cons.mpr (.inl z))
   · rcases eW h' z with y | y
     · exact .inl y
     · exact .inr (List.mem_cons.mpr (.inr y))
theorem bV.short {bs:List (Str×Int)}{ins:List Str}(h:bV bs ins):∀b∈bs,b.1.length<=5:=fun b hb=>by
 obtain ⟨nm,szs,h1,h2,h3,rfl⟩:=h.nm
 have zR:=(UL (a:=b.1) (b:=b.2) hb).1
 have:∀x∈nm,x.length<=5:=by rcases h1 with rfl | rfl | rfl <;> decide +kernel
 exact this _ zR
def dz (ins:List Str)(c:Bool)(x:Str):Str:=if x∈ins then x else if c=true then x++"z" else x
structure kH (bs:List (Str×Int))(ins:List Str)(c:Bool)(st:Int)(bs':List (Str×Int)):Prop where
 bx:bs'=cK st (bs.map fun b=>(dz ins c b.1,b.2))
 st:st=1\/st = -1
theorem oH {α β:Type}{R:α->β->Prop}{xs:List α}{ys:List β}(h:Paired R xs ys):Paired R xs.reverse ys.reverse:=by
 induction h with
 | nil=>exact .nil
 | @cons a b as bs r t ih=>rw [UY,UY]; exact Paired.snoc ih r
theorem mT {β:Type}{R:V->β->Prop}{n:Int}{xs:List V}{ys:List β}(h:Paired R xs ys):Paired R (cR n xs) (cK n ys):=by
 unfold cR cK
 by_cases e:n=1
 · rw [if_pos e,if_pos e]; exact h
 · rw [if_neg e,if_neg e]; exact oH h
theorem wO {Pm:Hp->List Int->Prop}{G:Hp->Prop}{M:Prop}(main:(∀H l,Pm H l->G H)->M)(rest:∀H l,Pm H l->G H):M:=main rest
def qC (ord ps:List Int):Prop:=∀(k:Nat) (x:Int),ps[k]? = some x->∃j:Nat,x=(j:Int)/\ord[j]? = some (k:Int)/\∀m,m < j->ord[m]? ≠ some (k:Int)
theorem rZ {ord ps:List Int}{j:Nat}(h:qC ord ps)(hj:ord[j]? = some ((ps.length:Nat):Int))(hn:∀m,m < j->ord[m]? ≠ some ((ps.length:Nat):Int)):qC ord (ps++[(j:Int)]):=fun k x hx=>by
 by_cases hk:k < ps.length
 · rw [T6 hk] at hx
   exact h k x hx
 · have hl:=(List.getElem?_eq_some_iff.mp hx).1
   rw [Sy] at hl
   have e:k=ps.length:=by simp at hl; omega
   subst e
   rw [Us (Sz _),Wv] at hx
   cases hx
   exact ⟨j,rfl,hj,hn⟩
theorem kj {ord ps:List Int}(h:qC ord ps)(h0:ord[0]? = some 0)(hl:0 < ps.length):ps[0]? = some 0:=by
 obtain ⟨j,e,hj,hn⟩:=h 0 ps[0] (Sx hl)
 have uM:j=0:=by
   by_cases z:j=0
   · exact z
   · exact absurd h0 (hn 0 (by omega))
 rw [Sx hl,e,uM]
 rfl
def o9 (ord:List Int)(many:Int)(ps bS:List Int)(sk:Nat):Prop:=∀(k:Nat) (x:Int),bS[k]? = some x->ps[k]? = some x\/(k=sk/\∃j:Nat,x=(j:Int)/\ord[j]? = some many)
def pj (bs:List (Str×Int))(f:Str->Str)(nds:List Nd)(ord ps bS:List Int)(sk:Int)(nds2:List Nd):Prop:=∀(j:Nat) (e':Nd),nds2[j]? = some e'->∃k:Int,ord[j]? = some k/\((∃e,0<=k/\nds[k.toNat]? = some e/\e'=e.as f (lj bS))\/(k=(nds.length:Int)/\sk < (nds.length:Int)/\iC bs f (lj ps sk) e'))
theorem i6 {bs:List (Str×Int)}{f:Str->Str}{nds:List Nd}{ord ps bS:List Int}{sk:Int}{nds2:List Nd}{e:Nd}(h:pj bs f nds ord ps bS sk nds2)(hn:∃k:Int,ord[nds2.length]? = some k/\((∃e1,0<=k/\nds[k.toNat]? = some e1/\e=e1.as f (lj bS))\/(k=(nds.length:Int)/\sk < (nds.length:Int)/\iC bs f (lj ps sk) e))):pj bs f nds ord ps bS sk (nds2++[e]):=fun j e' hj=>by
 by_cases hk:j < nds2.length
 · rw [T6 hk] at hj
   exact h j e' hj
 · have hl:=(List.getElem?_eq_some_iff.mp hj).1
   rw [Sy] at hl
   have e1:j=nds2.length:=by simp at hl; omega
   subst e1
   rw [Us (Sz _),Wv] at hj
   cases hj
   exact hn
structure nE (bs:List (Str×Int))(f:Str->Str)(nds nds2:List Nd)(ps bS:List Int):Prop where
 pl:ps.length=nds.length
 bl:bS.length=nds.length
 all:∀(k:Nat) (e:Nd),nds[k]? = some e->∃p b:Nat,ps[k]? = some (p:Int)/\bS[k]? = some (b:Int)/\p < nds2.length/\b < nds2.length/\nds2[p]? = some (e.as f (lj bS))/\(b=p\/∃e',nds2[b]? = some e'/\iC bs f (p:Int) e')
 only:∀(j:Nat) (e':Nd),nds2[j]? = some e'->(∃e∈nds,e'=e.as f (lj bS))\/∃p:Nat,p < nds2.length/\iC bs f (p:Int) e'
 zero:bS[0]? = some 0
theorem rM {bs:List (Str×Int)}{f:Str->Str}{nds nds2:List Nd}{ord ps bS:List Int}{sk:Int}(pl:ps.length=nds.length)(bl:bS.length=nds.length)(hp:qC ord ps)(hb:o9 ord (nds.length:Int) ps bS sk.toNat)(hn:pj bs f nds ord ps bS sk nds2)(hl:nds2.length=ord.length)(zero:bS[0]? = some 0):nE bs f nds nds2 ps bS:=by
 have pat:∀(k:Nat),k < nds.length->∃p:Nat,ps[k]? = some (p:Int)/\ord[p]? = some (k:Int)/\p < nds2.length:=fun k hk=>by
   have sP:k < ps.length:=by omega
   obtain ⟨j,e,hj,_⟩:=hp k ps[k] (Sx sP)
   have:=(List.getElem?_eq_some_iff.mp hj).1
   exact ⟨j,by rw [Sx sP,e],hj,by omega⟩
 have Q3:∀{k p:Nat},ps[k]? = some (p:Int)->lj ps (k:Int)=(p:Int):=fun h=>by
   unfold lj
   rw [Ta,TZ,h]
   rfl
 refine ⟨pl,bl,fun k e he=>?_,fun j e' hj=>?_,zero⟩
 · have hk:k < nds.length:=(List.getElem?_eq_some_iff.mp he).1
   obtain ⟨p,h1,h2,h3⟩:=pat k hk
   have JG:k < bS.length:=by omega
   have bF:nds2[p]? = some (e.as f (lj bS)):=by
     obtain ⟨k',h4,h5⟩:=hn p nds2[p] (Sx h3)
     rw [h2] at h4
     cases h4
     rcases h5 with ⟨e1,_,h6,h7⟩ | ⟨h6,_⟩
     · rw [TZ,he] at h6
       cases h6
       rw [Sx h3,h7]
     · omega
   rcases hb k bS[k] (Sx JG) with h4 | ⟨h4,j,h5,h6⟩
   · have e1:bS[k]=(p:Int):=by
       rw [h1] at h4
       exact (S6 h4).symm
     exact ⟨p,p,h1,by rw [Sx JG,e1],h3,h3,bF,.inl rfl⟩
   · have DP:=(List.getElem?_eq_some_iff.mp h6).1
     have Bj:j < nds2.length:=by omega
     obtain ⟨k',h7,h8⟩:=hn j nds2[j] (Sx Bj)
     rw [h6] at h7
     cases h7
     refine ⟨p,j,h1,by rw [Sx JG,h5],h3,Bj,bF,.inr ⟨_,Sx Bj,?_⟩⟩
     rcases h8 with ⟨e1,_,h9,_⟩ | ⟨_,h9,IQ⟩
     · have:=(List.getElem?_eq_some_iff.mp h9).1
       omega
     · have rq:lj ps sk=(p:Int):=by
         have IT:lj ps sk=lj ps (k:Int):=by unfold lj; rw [h4,TZ]
         rw [IT,Q3 h1]
       rw [← rq]
       exact IQ
 · obtain ⟨k',h4,h5⟩:=hn j e' hj
   rcases h5 with ⟨e1,_,h6,h7⟩ | ⟨_,h6,h7⟩
   · exact .inl ⟨e1,SF h6,h7⟩
   · have hk:sk.toNat < nds.length:=by
       have:=List.length_pos_of_mem (SF (show bS[0]? = some 0 from zero))
       omega
     obtain ⟨p,h1,h2,h3⟩:=pat sk.toNat hk
     refine .inr ⟨p,h3,?_⟩
     have e1:lj ps sk=(p:Int):=by
       unfold lj
       rw [Ta,h1]
       rfl
     rw [← e1]
     exact h7
structure Ea (bs:List (Str×Int))(nds:List Nd):Prop where
 l2:bs.length<=2
 sh:∀b∈bs,b.1.length<=20
 one:1<=nds.length
 few:(nds.length:Int)<=100
 good:∀e∈nds,e.good (· ∈ bs.map (·.1)) nds.length 5
def oT:Sp:=fun vs H Q _=>∃(v:V) (r:Addr) (bs:List (Str×Int)) (ins:List Str) (nds:List Nd) (row:List Int) (n:Nat),vs=[v,.ref r]/\bW H v bs ins nds/\Ea bs nds/\H r=some (.lst (row.map V.int))/\Row (2 ^ 30) row n/\6<=n /\
 ∀(p q T I2 N2 c pl bh:Addr) (H':Hp) (vt vn2:List V) (bs':List (Str×Int)) (nds2:List Nd) (cz:Bool) (st:Int),ai H H'->H' p=some (.tup [.ref q,.ref c,.ref pl,.ref bh])->H' q=some (.tup [.ref T,.ref I2,.ref N2])->H' T=some (.lst vt)->Paired (bU H') vt bs'->H' I2=some (.lst (ins.map V.str))->H' N2=some (.lst vn2)->Paired (bO H') vn2 nds2->nds2.length<=nds.length + 1 ->
   aT H' c (bs.map (·.1)) (dz ins cz)->kH bs ins cz st bs'->∀(ps bS:List Int),H' pl=some (.lst (ps.map V.int))->H' bh=some (.lst (bS.map V.int))->nE bs (dz ins cz) nds nds2 ps bS->Q (.ref p) H'
theorem aV {u1 u2:TS}{D:L2.Ends}{σ:L2.St}{H:Hp}(h:∀R:L2.St->Hp->Prop,(∀σ H,u2 D σ H->R σ H)->u1 { D with nx:=R } σ H):gM u1 u2 D σ H:=h _ fun _ _ z=>z
theorem Ep {u1 u2 u3:TS}{D:L2.Ends}{σ:L2.St}{H:Hp}(h:∀R:L2.St->Hp->Prop,(∀σ H,u3 D σ H->R σ H)->gM u1 (gM u2 fun _=>R) D σ H):gM u1 (gM u2 u3) D σ H:=h (u3 D) fun _ _ z=>z
theorem Er {u1 u2 u3 u4:TS}{D:L2.Ends}{σ:L2.St}{H:Hp}(h:∀R:L2.St->Hp->Prop,(∀σ H,u4 D σ H->R σ H)->gM u1 (gM u2 (gM u3 fun _=>R)) D σ H):gM u1 (gM u2 (gM u3 u4)) D σ H:=h (u4 D) fun _ _ z=>z
theorem bI:aE ["program","row","boxes","inputs","nodes","called","name","size","many","skipped","left","order","k","places","behind","found","turned"] ["program","row"] (ak dy):=⟨rfl,rfl,rfl,by decide +kernel,rfl,by decide +kernel,by decide +kernel⟩
theorem jY:ba dy "len":=by decide +kernel
theorem dM:ba dy "range":=by decide +kernel
theorem qV:ba dy "int":=by decide +kernel
theorem iW:ba dy "list":=by decide +kernel
theorem fu:ba dy "_law_node_as":=by decide +kernel
theorem iV:ba dy "_law_skip":=by decide +kernel
theorem yL {f:Addr}{fd:S9}(F:cL K "_law_made_over" "_law_made_over" dy f fd)(m_len:mg "len"=none)(m_range:mg "range"=none)(m_int:mg "int"=none)(m_list:mg "list"=none)(NA:aP P w K mg base "_law_node_as" ["node","called","places"] 8 fQ)(SK:aP P w K mg base "_law_skip" ["boxes","called","number","after"] 1 jm):aN P w K mg base b6 9 f fd ["program","row"] oT:=by
 refine F.ok bI (fun vs H Q E h=>?_) (fun cdv A outer s H vs Q E hr h=>?_)
 · obtain ⟨v,r,bs,ins,nds,row,n,rfl,_⟩:=h
   rfl
 obtain ⟨v,r,bs,ins,nds,row,n,rfl,⟨p,B,I,N,vb,vn,rfl,hp,hB,hI,hN,pb,pn⟩,xA,sT,hR,RQ,q⟩:=h
 have NX:=NA
 have N5:=SK.mono (show 1<=8 by decide)
 refine fC ⟨_,(WI (XD (WB 0) (W7 3 (WW (WN 2 bI.nd) (WW (WN 3 bI.nd) (WW (WN 4 bI.nd) W8)))))
   (WI (WS 5 bI.nd L3.Et)
   (WI (Xb (W5 (WB 2)) (W7 2 (WW (WN 6 bI.nd) (WW (WN 7 bI.nd) W8))) (WI (Xz (bq hr _ (by decide)) (WB 5) (WB 6) (WB 6))
   (WK (WZ (Xq (L3.AU (WX L3.lg (WB 6) (WB 3) (by rfl)) (L3.AR (WX W3 (WJ WY (WG WM (WB 1) WE) WE) WE)))) (WK (Xz (bq hr _ (by decide)) (WB 5) (WB 6) (WJ L3.BV (WB 6) WQ))) W2))))
   (WI (WS 8 bI.nd (W4 Xa jY m_len Te (WC (WB 4) WD)))
   (WI (WS 9 bI.nd (WJ WY (WG WM (WB 1) WE) (WJ Xf WE (WB 8))))
   (WI (Xr (i:=10) [none] ["k"] (show ar _ (ak dy) from ⟨rfl,by decide +kernel,by decide +kernel,by decide +kernel⟩) (by rfl) (L3.QE dM m_range (WC WE (WC (WB 8) WD))) (fun _ _ _ _ _=>⟨(WN 0 (show (["k"]:List Str).Nodup from by decide +kernel)),W6,(WB 0)⟩) bI.nd)
   (WI (WS 11 bI.nd (W0 (WC WE WD)))
   (WI (Xb (Xj dM m_range (WC (WJ Xu (WB 8) WE) WD)) (WN 12 bI.nd) (WK (Xh (Xk (WB 11) (WC (L3.Ge (WB 10) (WC (WJ WY (WJ Xe (WG WM (WB 1) WE) (WJ Xd (WB 12) WE)) (W4 Xa jY m_len Te (WC (WB 10) WD))) WD)) WD)))))
   (WI (WZ (WX Xl (WB 9) (WB 8)) (WK (Xh (L3.insert (WB 11) (WC (WJ Xd (L3.ou (WB 11) (WC (WB 9) WD)) (WJ Xf (WJ WY (WG WM (WB 1) WE) WE) (Xg L3.pD qV m_int (by decide +kernel) (WC (Xn L3.Le (WB 9) WE) WD)))) (WC (WB 8) WD))))) W2)
   (WI (Xr (i:=13) [none,some 11] ["k","order"] (show ar _ (ak dy) from ⟨rfl,by decide +kernel,by decide +kernel,by decide +kernel⟩) (by rfl) (Xj dM m_range (WC (WB 8) WD)) (fun _ _ _ _ _=>⟨(WN 0 (show (["k","order"]:List Str).Nodup from by decide +kernel)),W6,(L3.ou (WB 1) (WC (WB 0) WD))⟩) bI.nd)
   (WI (WS 14 bI.nd (Xg Xt iW m_list (by decide +kernel) (WC (WB 13) WD)))
   (WI (WZ (WX Xl (WB 9) (WB 8)) (WK (XD (L3.ou (WB 11) (WC (WB 8) WD)) (L3.EM (WB 14) (WB 9)))) W2)
   (WI (WS 15 bI.nd (W0 WD))
   (WI (Xb (W5 (WB 11)) (WN 12 bI.nd) (WK (WZ (WX Xl (WB 12) (WB 8)) (WK (Xh (Xk (WB 15) (WC (WV NX hr fu (WC (WG WM (WB 4) (WB 12)) (WC (WB 5) (WC (WB 14) WD)))) WD)))) (WK (Xh (Xk (WB 15) (WC (WV N5 hr iV (WC (WB 2) (WC (WB 5) (WC (WG WM (WB 1) WE) (WC (WG WM (WB 13) (WB 9)) WD))))) WD)))))))
   (WI (WS 16 bI.nd (L3.wR (Xc [none,none,some 5] ["name","size","called"] (show ar _ (ak dy) from ⟨rfl,by decide +kernel,by decide +kernel,by decide +kernel⟩) (by rfl) (W5 (WB 2)) (fun _ _ _ _ _=>⟨(W7 2 (WW (WN 0 (show (["name","size","called"]:List Str).Nodup from by decide +kernel)) (WW (WN 1 (show (["name","size","called"]:List Str).Nodup from by decide +kernel)) W8))),W6,(WT (WC (Xs (bq hr _ (by decide)) (WB 2) (WB 0)) (WC (WB 1) WD)))⟩)) (WJ Xu WE (WJ Xf WE (WJ WY (WG WM (WB 1) WE) WE)))))
   (WK (WU (WT (WC (WT (WC (WB 16) (WC (Xg Xt iW m_list (by decide +kernel) (WC (WB 3) WD)) (WC (WB 15) WD)))) (WC (WB 5) (WC (WB 13) (WC (WB 14) WD)))))))))))))))))))))),?_⟩
 refine Er fun Rk kR=>?_
 obtain ⟨x0,a0,GS,Ie⟩:=hR.at (i:=0) (by decide) (by omega)
 obtain ⟨x1,a1,Ig,Ih⟩:=hR.at (i:=1) (by decide) (by omega)
 obtain ⟨x2,a2,LA,LB⟩:=hR.at (i:=2) (by decide) (by omega)
 obtain ⟨x3,a3,NK,NL⟩:=hR.at (i:=3) (by decide) (by omega)
 obtain ⟨x4,a4,LC,NM⟩:=hR.at (i:=4) (by decide) (by omega)
 obtain ⟨x5,a5,Rp,Rq⟩:=hR.at (i:=5) (by decide) (by omega)
 have gC:vb.length=bs.length:=Paired.length pb
 have rh:=xA.l2
 have gB:vn.length=nds.length:=Paired.length pn
 have one:=xA.one
 have few:=xA.few
 refine ⟨_,rfl,p,_,rfl,aF.of hp,rfl,_,_,rfl,_,_,rfl,_,_,rfl,rfl,?_⟩
 refine fun c hc=>?_
 refine ⟨_,rfl,B,rfl,⟨_,aq.of (af hc _ _ _ hB)⟩,?_⟩
 have hI1:=fun kvs=>af hc (.dK kvs) _ _ hI
 have hr1:=fun kvs=>af hc (.dK kvs) _ _ sT
 refine bj (xs:=vb) (fun i σ H2=>(∃nv sv,σ=[some (.ref p),some (.ref r),some (.ref B),some (.ref I),some (.ref N),some (.ref c),nv,sv,none,none,none,none,none,none,none,none,none])/\∃kvs:List (Key×V),H2=upd H c (.dK kvs)/\kvs.length<=2 * i/\∀x∈(bs.take i).map (·.1),a8 kvs (.inr x)=some (.str (dz ins (decide (x0 % 2=1)) x))) ⟨⟨_,_,rfl⟩,[],rfl,Sz _,fun x hx=>nomatch hx⟩ (fun i σ H2 _ z=>?_) (fun i x σ H2 hx z=>?_) (fun σ H2 z=>?_)
 · obtain ⟨_,kvs,rfl,_⟩:=z
   exact aq.of (af hc _ _ _ hB)
 · obtain ⟨⟨nv,sv,rfl⟩,kvs,rfl,Bk,sQ⟩:=z
   obtain ⟨b,fD,e8,rfl,hC⟩:=Paired.get pb hx
   have cj:i < vb.length:=(List.getElem?_eq_some_iff.mp hx).1
   have E1:b∈bs:=SF fD
   have MJ:=xA.sh b E1
   have uN:=bH kvs (.inr b.1) (V.str b.1)
   refine ⟨e8,_,rfl,aF.of (af hc _ _ _ hC),rfl,_,_,rfl,_,_,rfl,rfl,?_⟩
   refine ⟨_,rfl,_,rfl,_,rfl,c,_,rfl,eC.k (k:=.inr b.1) ae (aB (by omega)),?_⟩
   rw [b4]
   have keep:∀(w:Str) (kvs':List (Key×V)),(∀j:Key,a8 kvs' j=if j=.inr b.1 then some (.str w) else a8 kvs j)->w=dz ins (decide (x0 % 2=1)) b.1->∀x∈(bs.take (i + 1)).map (·.1),a8 kvs' (.inr x)=some (.str (dz ins (decide (x0 % 2=1)) x)):=fun w kvs' hv hw x hx=>by
     rw [hv]
     by_cases e:(Sum.inr x:Key)=.inr b.1
     · rw [if_pos e,hw]
       injection e with e
       rw [e]
     · rw [if_neg e]
       refine sQ x ?_
       rw [SQ,fD,SR] at hx
       rcases List.mem_append.mp hx with z | z
       · exact z
       · exact absurd (by rw [List.mem_singleton.mp z]) e
   refine ⟨_,rfl,_,rfl,I,_,rfl,.inl (aq.of (hI1 _)),rfl,jU ins,_,rfl,?_⟩
   rw [if_pos rfl,i0]
   refine aD (fun c1=>?_) (fun c1=>?_)
   · have Bn:b.1 ∉ ins:=fun z=>by rw [decide_eq_true z] at c1; exact absurd c1 (by decide)
     refine ⟨_,rfl,r,_,_,_,rfl,rfl,aq.of (hr1 _),a0,_,_,rfl,rfl,(by show (0:Int) < 2; decide),rfl,_,rfl,?_⟩
     refine aD (fun c2=>?_) (fun c2=>?_)
     · have e2:x0 % 2=1:=by have:=of_decide_eq_true c2; injection this
       have jZ:=bH (putK kvs (.inr b.1) (V.str b.1)) (.inr b.1) (V.str (b.1++"z"))
       refine ⟨_,rfl,_,_,rfl,rfl,small (show _<=1000 by have:Str.length ("z":Str)=1:=(by decide +kernel); omega),_,rfl,_,rfl,c,_,rfl,eC.k (k:=.inr b.1) ae (aB (by omega)),?_⟩
       rw [b4]
       refine ⟨⟨_,_,rfl⟩,_,rfl,by omega,keep (b.1++"z") _ (fun j=>?_) ?_⟩
       · rw [cy,cy]
         by_cases e:j=(.inr b.1:Key)
         · rw [if_pos e,if_pos e]
         · rw [if_neg e,if_neg e,if_neg e]
       · unfold dz
         rw [if_neg Bn,if_pos (decide_eq_true e2)]
     · have e2:¬ x0 % 2=1:=fun z=>c2 (decide_eq_true (show V.int (x0 % 2)=V.int 1 by rw [z]))
       refine ⟨⟨_,_,rfl⟩,_,rfl,by omega,keep b.1 _ (fun j=>cy _ _ _ _) ?_⟩
       unfold dz
       rw [if_neg Bn,if_neg (fun z=>e2 (of_decide_eq_true z))]
   · refine hV ⟨⟨_,_,rfl⟩,_,rfl,by omega,keep b.1 _ (fun j=>cy _ _ _ _) ?_⟩
     have Bn:b.1∈ins:=Classical.byContradiction fun z=>c1 (by rw [decide_eq_false z]; rfl)
     unfold dz
     rw [if_pos Bn]
 obtain ⟨⟨nv,sv,rfl⟩,kvs,rfl,Bk,sQ⟩:=z
 rw [gC,SV] at sQ
 have s1:ai H (upd H c (.dK kvs)):=af hc _
 have ca:aT (upd H c (.dK kvs)) c (bs.map (·.1)) (dz ins (decide (x0 % 2=1))):=⟨kvs,ae,sQ⟩
 generalize upd H c (.dK kvs)=H1 at s1 ca ⊢
 have G9:=s1 _ _ hN
 have hr1:=s1 _ _ sT
 refine kR _ _ ?_
 refine Er fun Rk kR=>?_
 refine ⟨_,rfl,N,_,rfl,.inl (aq.of G9),?_⟩
 have uR:(0:Int) < 2 * (vn.length:Int):=by omega
 refine ⟨_,rfl,r,_,_,_,rfl,rfl,aq.of hr1,a1,_,rfl,_,_,rfl,rfl,.inl ⟨by decide,by decide⟩,_,_,rfl,rfl,uR,?_⟩
 have GB:0<=x1 % (2 * (vn.length:Int)):=S7 _ (by omega)
 obtain ⟨sk,rq⟩ : ∃sk:Int,sk=x1 % (2 * (vn.length:Int)):=⟨_,rfl⟩
 rw [← rq] at GB
 refine ⟨_,rfl,_,_,rfl,⟨by decide,by decide,by omega,by omega⟩,fun la ME=>?_⟩
 refine cg (lo:=1) (n:=((vn.length:Int) - 1).toNat) (fun i H2=>H2=upd H1 la (.lst (((S5 i).map fun j:Nat=>(1:Int) + (j:Int)).map V.int))) rfl (fun i H2 hi z=>?_) (fun H2 z=>?_)
 · subst z
   refine aG ?_
   refine bp (A:=fun H3=>bK _ la _ H3 _) ?_
   refine ⟨_,rfl,_,ae,aB (by rw [Sv,Sv,Tn]; omega),aA (Pv:=fun i H2=>H2=upd H1 la (.lst (((S5 i).map fun j:Nat=>(1:Int) + (j:Int)).map V.int))) (by repeat' constructor) hi ?_⟩
   rw [b4,VP,SR,SR]
   rfl
 subst z
 refine kR _ _ ?_
 refine Ep fun Rk kR=>?_
 refine ⟨YA,fun oa J3=>?_⟩
 have Ho:la≠oa:=ag ae J3
 have Br:H1 oa=none:=by rw [aj Ho.symm] at J3; exact J3
 refine ⟨_,rfl,_,_,rfl,rfl,_,rfl,by omega,by omega,?_⟩
 refine bQ (lo:=0) (n:=((vn.length:Int) - 1).toNat) (fun i σ H2=>∃(kv:Option V) (ord left:List Int),σ=[some (.ref p),some (.ref r),some (.ref B),some (.ref I),some (.ref N),some (.ref c),nv,sv,some (.int (vn.length:Int)),some (.int (x1 % (2 * (vn.length:Int)))),some (.ref la),some (.ref oa),kv,none,none,none,none]/\ai H1 H2/\H2 la=some (.lst (left.map V.int))/\H2 oa=some (.lst (ord.map V.int))/\ord.length=i + 1/\left.length + i + 1=vn.length/\(∀x∈ord,0<=x/\x < (vn.length:Int))/\(∀x∈left,0<=x/\x < (vn.length:Int))/\(∀x:Int,0<=x->x < (vn.length:Int)->x∈ord\/x∈left)/\ord[0]? = some 0) ?_ ?_ ?_
 · refine ⟨none,[0],(S5 ((vn.length:Int) - 1).toNat).map fun j:Nat=>(1:Int) + (j:Int),rfl,az (af ME _) Br,?_,ae,rfl,?_,?_,?_,?_,rfl⟩
   · rw [aj Ho]; exact ae
   · rw [Sv,Tn]; omega
   · intro x hx
     rw [List.mem_singleton.mp hx]
     omega
   · intro x hx
     obtain ⟨j,hj,rfl⟩:=List.mem_map.mp hx
     have:=List.mem_range.mp hj
     omega
   · intro x h0 h1
     by_cases e:x=0
     · exact .inl (List.mem_singleton.mpr e)
     · exact .inr (List.mem_map.mpr ⟨(x - 1).toNat,List.mem_range.mpr (by omega),by omega⟩)
 · rintro i σ H2 hi ⟨kv,ord,left,rfl,s2,yt,mI,MG,MF,ho,hl,cov,rS⟩
   have j6:=s2 _ _ hr1
   have hG:(0:Int) < ((left.map V.int).length:Int):=by rw [Sv]; omega
   have d0:(0:Int) + (i:Int) + 1 < 2 ^ 1000:=Int.lt_of_le_of_lt (show _<=(2 ^ 40:Int) by omega) (by decide +kernel)
   refine ⟨_,rfl,.inl ⟨rfl,_,aq.of mI⟩,_,rfl,.inl ⟨rfl,_,aq.of yt⟩,_,rfl,r,_,_,_,rfl,rfl,aq.of j6,a2,_,rfl,_,_,rfl,rfl,_,_,rfl,rfl,⟨(by show (0:Int) < 0 + (i:Int) + 1; omega),d0⟩,_,rfl,la,_,rfl,.inl (aq.of yt),_,_,rfl,rfl,hG,?_⟩
   have r0:=S7 (x2 / (0 + (i:Int) + 1)) (show ((left.map V.int).length:Int)≠0 by omega)
   have rl:=S0 (x2 / (0 + (i:Int) + 1)) hG
   obtain ⟨rr,MI⟩ : ∃rr:Int,rr=x2 / (0 + (i:Int) + 1) % ((left.map V.int).length:Int):=⟨_,rfl⟩
   rw [← MI] at r0 rl
   rw [Sv] at rl
   have Hk:rr.toNat < left.length:=by omega
   have hix:sY (left.map V.int).length rr=some rr.toNat:=by rw [Sv]; unfold sY; rw [if_pos r0,if_pos rl]
   have PJ:(left.map V.int)[rr.toNat]? = some (V.int left[rr.toNat]):=by rw [S2,Sx Hk]; rfl
   have jx:(upd H2 la (.lst ((left.eraseIdx rr.toNat).map V.int))) oa=some (.lst (ord.map V.int)):=by rw [aj Ho.symm]; exact mI
   refine ⟨la,_,rr,rr.toNat,_,rfl,(by subst MI; rfl),yt,by omega,by omega,(kX hix).1,PJ,?_⟩
   rw [(kf V.int left rr.toNat).symm]
   refine ⟨oa,_,_,rfl,rfl,jx,aB (by rw [Sv]; omega),?_⟩
   have hle:=VX Hk
   refine ⟨_,ord++[left[rr.toNat]],left.eraseIdx rr.toNat,rfl,az (az s2 ME) Br,?_,?_,?_,?_,?_,?_,?_,by rw [T6 (by omega)]; exact rS⟩
   · rw [aj Ho]; exact ae
   · rw [ae,SR]; rfl
   · rw [Sy,MG]; rfl
   · omega
   · intro x hx
     rcases List.mem_append.mp hx with z | z
     · exact ho x z
     · rw [List.mem_singleton.mp z]
       exact hl _ (U3 Hk)
   · exact fun x hx=>hl x ((List.eraseIdx_sublist _ _).mem hx)
   · intro x h0 h1
     rcases cov x h0 h1 with z | z
     · exact .inl (List.mem_append.mpr (.inl z))
     · rcases eW Hk z with y | y
       · exact .inl (List.mem_append.mpr (.inr (List.mem_singleton.mpr y)))
       · exact .inr y
 rintro σ H2 ⟨kv,ord,left,rfl,s2,yt,mI,MG,MF,ho,hl,cov,rS⟩
 have FF:left=[]:=List.length_eq_zero_iff.mp (by omega)
 have cov:∀x:Int,0<=x->x < (vn.length:Int)->x∈ord:=fun x h0 h1=>(cov x h0 h1).resolve_right fun z=>by rw [FF] at z; exact nomatch z
 clear hl MF
 have j6:=s2 _ _ hr1
 have cl:∀c:Bool,(-(2 ^ 64):Int) < (if c=true then 1 else 0)/\(if c=true then (1:Int) else 0) < 2 ^ 64:=by decide
 refine kR _ _ ?_
 refine ⟨_,rfl,_,rfl,_,_,rfl,rfl,_,rfl,?_⟩
 have factB:¬ decide (x1 % (2 * (vn.length:Int)) < (vn.length:Int))=true->ai H1 H2/\H2 oa=some (.lst (ord.map V.int))/\(∀x∈ord,0<=x/\(x < (vn.length:Int)\/(x=(vn.length:Int)/\sk < (vn.length:Int))))/\(∀x:Int,0<=x->x < (vn.length:Int)->x∈ord)/\ord.length<=vn.length + 1/\(sk < (vn.length:Int)->(vn.length:Int)∈ord)/\(sk=0/\sk < (vn.length:Int)->ord[0]? = some (vn.length:Int))/\(¬ (sk=0/\sk < (vn.length:Int))->ord[0]? = some 0):=fun c1=>by
   have tD:¬ sk < (vn.length:Int):=fun z=>c1 (decide_eq_true (by rw [← rq]; exact z))
   exact ⟨s2,mI,fun x hx=>⟨(ho x hx).1,.inl (ho x hx).2⟩,fun x h0 h1=>cov x h0 h1,by omega,fun z=>absurd z tD,fun z=>absurd z.2 tD,fun _=>rS⟩
 refine wO (Pm:=fun H3 bE=>ai H1 H3/\H3 oa=some (.lst (bE.map V.int))/\(∀x∈bE,0<=x/\(x < (vn.length:Int)\/(x=(vn.length:Int)/\sk < (vn.length:Int))))/\(∀x:Int,0<=x->x < (vn.length:Int)->x∈bE)/\bE.length<=vn.length + 1/\(sk < (vn.length:Int)->(vn.length:Int)∈bE)/\(sk=0/\sk < (vn.length:Int)->bE[0]? = some (vn.length:Int))/\(¬ (sk=0/\sk < (vn.length:Int))->bE[0]? = some 0)) (fun rest=>aD (fun c1=>?brA) (fun c1=>rest H2 ord (factB c1))) ?rest1
 case brA=>
   have tD:sk < (vn.length:Int):=by rw [rq]; exact of_decide_eq_true c1
   obtain ⟨j,hj,hjn⟩:=fj (cov sk GB tD)
   have DP:j < ord.length:=(List.getElem?_eq_some_iff.mp hj).1
   have Sn:=S7 x3 (show (2:Int)≠0 by decide)
   have Sm:=S0 x3 (show (0:Int) < 2 by decide)
   have N8:∀b:Bool,0<=x3 % 2 * (if b=true then 1 else 0)/\x3 % 2 * (if b=true then 1 else 0)<=1:=fun b=>by cases b <;> simp <;> omega
   have b1:=N8 (decide (0 < x1 % (2 * (vn.length:Int))))
   obtain ⟨ix,E5⟩ : ∃ix:Int,ix=(j:Int) + x3 % 2 * (if decide (0 < x1 % (2 * (vn.length:Int)))=true then 1 else 0):=⟨_,rfl⟩
   refine ⟨_,rfl,.inl ⟨rfl,_,aq.of mI⟩,_,rfl,.inl ⟨rfl,_,aq.of mI⟩,_,rfl,oa,ord,sk,j,rfl,(by rw [rq]),aq.of mI,hj,hjn,by omega,_,rfl,r,_,_,_,rfl,rfl,aq.of j6,a3,_,_,rfl,rfl,(by show (0:Int) < 2; decide),_,rfl,_,_,rfl,rfl,.inr ⟨_,rfl,_,_,rfl,rfl,.inr (cl _),_,_,rfl,rfl,_,rfl,oa,_,_,ix,rfl,(by subst E5; rfl),mI,by omega,by rw [Sv]; omega,by rw [Sv]; omega,?_⟩⟩
   obtain ⟨bE,Bq⟩ : ∃bE:List Int,bE=ord.take ix.toNat++(vn.length:Int) :: ord.drop ix.toNat:=⟨_,rfl⟩
   have eo:(ord.map V.int).take ix.toNat++V.int (vn.length:Int) :: (ord.map V.int).drop ix.toNat=bE.map V.int:=by rw [Bq,SR,Tz,List.map_take,List.map_drop]
   have F1:∀x∈bE,0<=x/\(x < (vn.length:Int)\/(x=(vn.length:Int)/\sk < (vn.length:Int))):=fun x hx=>by
     rw [Bq] at hx
     rcases List.mem_append.mp hx with z | z
     · exact ⟨(ho x (T9 z)).1,.inl (ho x (T9 z)).2⟩
     · rcases List.mem_cons.mp z with z | z
       · exact ⟨by omega,.inr ⟨z,tD⟩⟩
       · exact ⟨(ho x (Vh z)).1,.inl (ho x (Vh z)).2⟩
   have F2:∀x:Int,0<=x->x < (vn.length:Int)->x∈bE:=fun x h0 h1=>by
     have:=cov x h0 h1
     rw [← List.take_append_drop ix.toNat ord] at this
     rw [Bq]
     rcases List.mem_append.mp this with z | z
     · exact List.mem_append.mpr (.inl z)
     · exact List.mem_append.mpr (.inr (List.mem_cons.mpr (.inr z)))
   have F3:bE.length<=vn.length + 1:=by
     rw [Bq,Sy,Th,SH,To]
     omega
   have F4:(vn.length:Int)∈bE:=by
     rw [Bq]
     exact List.mem_append.mpr (.inr (List.mem_cons.mpr (.inl rfl)))
   rw [eo]
   have s3:ai H1 (upd H2 oa (.lst (bE.map V.int))):=az s2 Br
   have jx:(upd H2 oa (.lst (bE.map V.int))) oa=some (.lst (bE.map V.int)):=ae
   generalize upd H2 oa (.lst (bE.map V.int))=H3 at s3 jx ⊢
   refine rest H3 bE ⟨s3,jx,F1,F2,F3,fun _=>F4,fun e=>?_,fun e=>?_⟩
   · have ei:ix.toNat=0:=by
       have uM:j=0:=by
         by_cases uM:j=0
         · exact uM
         · exact absurd (by rw [e.1]; exact rS) (hjn 0 (by omega))
       rw [E5,← rq,e.1,uM,show decide ((0:Int) < 0)=false from rfl]
       simp
     rw [Bq,ei]
     rfl
   · have MD:0 < j:=by
       by_cases uM:j=0
       · subst uM
         rw [rS] at hj
         exact absurd ⟨(S6 hj).symm,tD⟩ e
       · omega
     have PU:0 < ix.toNat:=by omega
     rw [Bq,T6 (by rw [SH]; omega),List.getElem?_take,if_pos PU]
     exact rS
 case rest1=>
   rintro H3 bE ⟨s3,jx,F1,F2,F3,F4,Z1,Z2⟩
   have s03:=aa s1 s3
   refine ⟨_,rfl,_,rfl,by omega,by omega,fun pa om=>?_⟩
   have QT:oa≠pa:=ag jx om
   refine cg (lo:=0) (n:=(vn.length:Int).toNat) (fun i H4=>∃ps:List Int,H4=upd H3 pa (.lst (ps.map V.int))/\ps.length=i/\(∀x∈ps,0<=x)/\qC bE ps) ⟨[],rfl,rfl,(fun x hx=>nomatch hx),fun k x hx=>by simp at hx⟩ (fun i H4 hi z=>?_) (fun H4 z=>?_)
   · obtain ⟨ps,rfl,hpl,J7,Fj⟩:=z
     obtain ⟨j,hj,hjn⟩:=fj (F2 (0 + (i:Int)) (by omega) (by omega))
     have Ff:(upd H3 pa (.lst (ps.map V.int))) oa=some (.lst (bE.map V.int)):=by rw [aj QT]; exact jx
     refine aG ?_
     refine bp (A:=fun H3=>bK _ pa _ H3 _) ?_
     refine ⟨_,rfl,.inl ⟨rfl,_,aq.of Ff⟩,_,rfl,oa,bE,0 + (i:Int),j,rfl,rfl,aq.of Ff,hj,hjn,by omega,_,ae,aB (by rw [Sv]; omega),aA (Pv:=fun i H4=>∃ps:List Int,H4=upd H3 pa (.lst (ps.map V.int))/\ps.length=i/\(∀x∈ps,0<=x)/\qC bE ps) (by repeat' constructor) hi ⟨ps++[(j:Int)],?_,by rw [Sy,hpl]; rfl,fun x hx=>?_,rZ Fj (by rw [hpl,← Ve (i:Int)]; exact hj) (by rw [hpl,← Ve (i:Int)]; exact hjn)⟩⟩
     · rw [b4,SR]
       rfl
     · rcases List.mem_append.mp hx with z | z
       · exact J7 x z
       · rw [List.mem_singleton.mp z]; omega
   obtain ⟨ps,rfl,hpl,J7,Fj⟩:=z
   rw [TZ] at hpl
   have s4:ai H3 (upd H3 pa (.lst (ps.map V.int))):=af om _
   have uX:(upd H3 pa (.lst (ps.map V.int))) pa=some (.lst (ps.map V.int)):=ae
   have Qg:H pa=none:=aw s03 om
   generalize upd H3 pa (.lst (ps.map V.int))=H4 at s4 uX ⊢
   refine ⟨_,rfl,pa,_,rfl,.inl (aq.of uX),fun bh xq=>?_⟩
   obtain ⟨H5,s5,EZ,zz⟩:=aH xq (.lst (ps.map V.int))
   rw [zz]; clear zz
   have Np:=aa (aa s03 s4) s5
   have Jh:H bh=none:=aw (aa s03 s4) xq
   refine ⟨_,rfl,_,rfl,_,_,rfl,rfl,_,rfl,?_⟩
   have factC:¬ decide (x1 % (2 * (vn.length:Int)) < (vn.length:Int))=true->ai H H5/\H5 oa=some (.lst (bE.map V.int))/\H5 pa=some (.lst (ps.map V.int))/\aT H5 c (bs.map (·.1)) (dz ins (decide (x0 % 2=1)))/\H5 bh=some (.lst (ps.map V.int))/\ps.length=vn.length/\o9 bE (vn.length:Int) ps ps sk.toNat/\ps[0]? = some 0:=fun z=>by
     have tD:¬ sk < (vn.length:Int):=fun y=>z (decide_eq_true (by rw [← rq]; exact y))
     exact ⟨Np,s5 _ _ (s4 _ _ jx),s5 _ _ uX,ca.same (aa (aa s3 s4) s5),EZ,hpl,fun k x hx=>.inl hx,kj Fj (Z2 fun e=>tD e.2) (by omega)⟩
   refine wO (Pm:=fun H6 bS=>ai H H6/\H6 oa=some (.lst (bE.map V.int))/\H6 pa=some (.lst (ps.map V.int))/\aT H6 c (bs.map (·.1)) (dz ins (decide (x0 % 2=1)))/\H6 bh=some (.lst (bS.map V.int))/\bS.length=vn.length/\o9 bE (vn.length:Int) ps bS sk.toNat/\bS[0]? = some 0) (fun rest=>aD (fun c2=>?brC) (fun c2=>rest H5 ps (factC c2))) ?rest2
   case brC=>
     have tD:sk < (vn.length:Int):=by rw [rq]; exact of_decide_eq_true c2
     have F4:=F4 tD
     have Bs:=s5 _ _ (s4 _ _ jx)
     obtain ⟨j2,Bi,hj2n⟩:=fj F4
     have JE:sY (ps.map V.int).length sk=some sk.toNat:=by rw [Sv,hpl]; unfold sY; rw [if_pos GB,if_pos tD]
     refine ⟨_,rfl,.inl ⟨rfl,_,aq.of Bs⟩,_,rfl,oa,bE,_,j2,rfl,rfl,aq.of Bs,Bi,hj2n,by omega,_,rfl,_,rfl,bh,_,sk,sk.toNat,rfl,(by rw [rq]),EZ,JE,?_⟩
     obtain ⟨bS,ym⟩ : ∃bS:List Int,bS=ps.set sk.toNat (j2:Int):=⟨_,rfl⟩
     have eb:(ps.map V.int).set sk.toNat (V.int (j2:Int))=bS.map V.int:=by rw [ym,List.map_set]
     have mG:bS.length=vn.length:=by rw [ym,List.length_set]; exact hpl
     have Ji:o9 bE (vn.length:Int) ps bS sk.toNat:=fun k x hx=>by
       rw [ym,Vy] at hx
       by_cases e:sk.toNat=k
       · rw [if_pos e] at hx
         by_cases e2:sk.toNat < ps.length
         · rw [if_pos e2] at hx
           cases hx
           exact .inr ⟨e.symm,j2,rfl,Bi⟩
         · rw [if_neg e2] at hx
           cases hx
       · rw [if_neg e] at hx
         exact .inl hx
     have yk:bS[0]? = some 0:=by
       rw [ym]
       by_cases e:sk=0
       · have h2:=Z1 ⟨e,tD⟩
         have uM:j2=0:=by
           by_cases uM:j2=0
           · exact uM
           · exact absurd h2 (hj2n 0 (by omega))
         rw [e,uM]
         have:0 < ps.length:=by omega
         rw [Vy]
         simp [this]
       · rw [Vy,if_neg (by omega)]
         exact kj Fj (Z2 fun z=>e z.1) (by omega)
     rw [eb]
     have J9:=s5 _ _ uX
     have QS:pa≠bh:=ag uX xq
     have D2:ai H (upd H5 bh (.lst (bS.map V.int))):=az Np Jh
     have uU:(upd H5 bh (.lst (bS.map V.int))) oa=some (.lst (bE.map V.int)):=by rw [aj (ag (s4 _ _ jx) xq)]; exact Bs
     have uY:(upd H5 bh (.lst (bS.map V.int))) pa=some (.lst (ps.map V.int)):=by rw [aj QS]; exact J9
     have DC:aT (upd H5 bh (.lst (bS.map V.int))) c (bs.map (·.1)) (dz ins (decide (x0 % 2=1))):=by
       obtain ⟨kvs,hk,hv⟩:=ca
       exact ⟨kvs,by rw [aj (ag (s4 _ _ (s3 _ _ hk)) xq)]; exact s5 _ _ (s4 _ _ (s3 _ _ hk)),hv⟩
     have uH:(upd H5 bh (.lst (bS.map V.int))) bh=some (.lst (bS.map V.int)):=ae
     generalize upd H5 bh (.lst (bS.map V.int))=H6 at D2 uU uY DC uH ⊢
     exact rest H6 bS ⟨D2,uU,uY,DC,uH,mG,Ji,yk⟩
   case rest2=>
     rintro H6 bS ⟨D2,uU,uY,DC,uH,mG,Ji,yk⟩
     refine ⟨Yz,fun fa hfa=>?_⟩
     refine ⟨_,rfl,oa,rfl,⟨_,aq.of (af hfa _ _ _ uU)⟩,?_⟩
     refine bj (xs:=bE.map V.int) (fun i σ H7=>(∃kv,σ=[some (.ref p),some (.ref r),some (.ref B),some (.ref I),some (.ref N),some (.ref c),nv,sv,some (.int (vn.length:Int)),some (.int (x1 % (2 * (vn.length:Int)))),some (.ref la),some (.ref oa),kv,some (.ref pa),some (.ref bh),some (.ref fa),none])/\∃(vn2:List V) (nds2:List Nd),ai H6 H7/\H7 fa=some (.lst vn2)/\Paired (bO H7) vn2 nds2/\nds2.length=i/\pj bs (dz ins (decide (x0 % 2=1))) nds bE ps bS sk nds2) ⟨⟨_,rfl⟩,[],[],af hfa _,ae,.nil,rfl,fun j e hj=>by simp at hj⟩ (fun i σ H7 _ z=>?_) (fun i x σ H7 hx z=>?_) (fun σ H7 z=>?_)
     · obtain ⟨_,vn2,nds2,s7,_⟩:=z
       exact aq.of (s7 _ _ uU)
     · obtain ⟨⟨kv,rfl⟩,vn2,nds2,s7,uK,HG,hn2,xu⟩:=z
       obtain ⟨k,hk,rfl⟩ : ∃k,bE[i]? = some k/\x=V.int k:=by
         rw [S2] at hx
         obtain ⟨y,h1,h2⟩:=Option.map_eq_some_iff.mp hx
         exact ⟨y,h1,h2.symm⟩
       have cj:i < bE.length:=(List.getElem?_eq_some_iff.mp hk).1
       obtain ⟨k0,k1⟩:=F1 k (SF hk)
       have s07:=aa D2 s7
       have Qw:vn2.length=nds2.length:=Paired.length HG
       have app:∀(v':V) (H8:Hp) (e':Nd),ai H7 H8->bO H8 v' e'->H8 fa=some (.lst vn2)/\ai H6 (upd H8 fa (.lst (vn2++[v'])))/\Paired (bO (upd H8 fa (.lst (vn2++[v'])))) (vn2++[v']) (nds2++[e']):=fun v' H8 e' s8 FK=>by
         have h8:=s8 _ _ uK
         exact ⟨h8,az (aa s7 s8) hfa,Paired.snoc (Paired.aI HG fun a b h=>bO.keep ((ai.tk s8).trans (TK.lst h8)) h) (bO.keep (TK.lst h8) FK)⟩
       refine ⟨_,rfl,_,rfl,_,_,rfl,rfl,_,rfl,?_⟩
       refine aD (fun c5=>?_) (fun c5=>?_)
       · have DQ:k < (vn.length:Int):=of_decide_eq_true c5
         obtain ⟨v9,g9,uF⟩:=jJ (xs:=vn) (r:=k) k0 DQ
         obtain ⟨e9,Md,QN⟩:=Paired.get pn g9
         have Mc:=xA.good e9 (SF Md)
         rw [← gB,← mG] at Mc
         refine ⟨_,rfl,.inl ⟨rfl,_,aq.of uK⟩,_,rfl,_,rfl,N,_,_,_,rfl,rfl,aq.of (s07 _ _ hN),uF,_,rfl,_,rfl,v9,c,bh,e9,bs.map (·.1),_,bS,rfl,bO.keep (ai.tk s07) QN,Mc,DC.same s7,s7 _ _ uH,fun v' H8 s8 FK=>?_⟩
         obtain ⟨z1,z2,z3⟩:=app v' H8 _ s8 FK
         exact ⟨fa,vn2,v',rfl,rfl,z1,aB (by omega),⟨_,rfl⟩,_,_,z2,ae,z3,by rw [Sy,hn2]; rfl,i6 xu ⟨k,by rw [hn2]; exact hk,.inl ⟨e9,k0,Md,rfl⟩⟩⟩
       · have DQ:k=(vn.length:Int)/\sk < (vn.length:Int):=k1.resolve_left fun z=>c5 (decide_eq_true z)
         have Ka:=ja (ps:=ps) GB (by rw [hpl]; exact DQ.2)
         rw [rq] at Ka
         have Kb:0<=lj ps (x1 % (2 * (vn.length:Int))):=by
           obtain ⟨y,_,hy,e⟩:=br V.int ps (r:=sk) GB (by rw [hpl]; exact DQ.2)
           rw [rq,Ka] at e
           injection e with e
           injection e with e
           rw [e]
           exact J7 y hy
         refine ⟨_,rfl,.inl ⟨rfl,_,aq.of uK⟩,_,rfl,_,rfl,_,rfl,r,_,_,_,rfl,rfl,aq.of (s07 _ _ sT),a4,_,rfl,_,rfl,pa,_,_,_,rfl,rfl,aq.of (s7 _ _ uY),Ka,B,c,vb,bs,_,x4,_,rfl,s07 _ _ hB,Paired.aI pb (fun a b h=>Tp.keep (ai.tk s07) h),DC.same s7,LC,Kb,fun v' H8 e' s8 FK Qm=>?_⟩
         obtain ⟨z1,z2,z3⟩:=app v' H8 e' s8 FK
         exact ⟨fa,vn2,v',rfl,rfl,z1,aB (by omega),⟨_,rfl⟩,_,_,z2,ae,z3,by rw [Sy,hn2]; rfl,i6 xu ⟨k,by rw [hn2]; exact hk,.inr ⟨by rw [DQ.1,gB],by rw [← gB]; exact DQ.2,by rw [rq]; exact Qm⟩⟩⟩
     obtain ⟨⟨kv,rfl⟩,vn2,nds2,s7,uK,HG,hn2,xu⟩:=z
     rw [Sv] at hn2
     have NO:nE bs (dz ins (decide (x0 % 2=1))) nds nds2 ps bS:=rM (by rw [hpl]; exact gB) (by rw [mG]; exact gB) Fj (by rw [← gB]; exact Ji) xu hn2 yk
     have s07:=aa D2 s7
     have Mj:=s07 _ _ hB
     have L4:=DC.same s7
     refine ⟨_,rfl,B,rfl,⟨_,aq.of Mj⟩,fun ta BB=>?_⟩
     refine aL (xs:=vb) (fun i H8=>∃vt:List V,ai H7 H8/\H8 ta=some (.lst vt)/\vt.length=i/\Paired (bU H8) vt ((bs.map fun b=>(dz ins (decide (x0 % 2=1)) b.1,b.2)).take i)) ⟨[],af BB _,ae,rfl,.nil⟩ (fun i H8 _ z=>aq.of (z.choose_spec.1 _ _ Mj)) (fun i x H8 hx z=>?_) (fun H8 z=>?_)
     · obtain ⟨vt,s8,eU,Fx,pt⟩:=z
       obtain ⟨b,fD,e8,rfl,hC⟩:=Paired.get pb hx
       have cj:i < vb.length:=(List.getElem?_eq_some_iff.mp hx).1
       have Kl:b.1∈bs.map (·.1):=List.mem_map.mpr ⟨b,SF fD,rfl⟩
       refine ⟨e8,_,rfl,aF.of (s8 _ _ (s07 _ _ hC)),rfl,_,_,rfl,_,_,rfl,rfl,?_⟩
       refine bp (A:=fun H3=>bK _ ta _ H3 _) ?_
       refine ⟨_,rfl,_,rfl,c,_,rfl,(L4.same s8).get Kl,_,rfl,YB,fun p2 bF=>⟨vt,?_,aB (by omega),aA (Pv:=fun i H8=>∃vt:List V,ai H7 H8/\H8 ta=some (.lst vt)/\vt.length=i/\Paired (bU H8) vt ((bs.map fun b=>(dz ins (decide (x0 % 2=1)) b.1,b.2)).take i)) (by repeat' constructor) cj ?_⟩⟩
       · rw [aj (ag eU bF)]; exact eU
       · have h4:(upd H8 p2 (.tup [.str (dz ins (decide (x0 % 2=1)) b.1),.int b.2])) ta=some (.lst vt):=by rw [aj (ag eU bF)]; exact eU
         refine ⟨vt++[.ref p2],az (ao s8 bF) BB,ae,by rw [Sy,Fx]; rfl,?_⟩
         have eg:(bs.map fun b=>(dz ins (decide (x0 % 2=1)) b.1,b.2))[i]? = some (dz ins (decide (x0 % 2=1)) b.1,b.2):=by rw [S2,fD]; rfl
         rw [SQ,eg]
         exact Paired.snoc (Paired.aI pt fun a b h=>Tp.keep ((aC bF _).trans (TK.lst h4)) h) ⟨p2,rfl,by rw [aj (ag eU bF).symm]; exact ae⟩
     obtain ⟨vt,s8,eU,Fx,pt⟩:=z
     have II:(bs.map fun b=>(dz ins (decide (x0 % 2=1)) b.1,b.2)).take vb.length=bs.map fun b=>(dz ins (decide (x0 % 2=1)) b.1,b.2):=Tf (by rw [Sv]; omega)
     rw [II] at pt
     have s08:=aa s07 s8
     have Nw:1 - 2 * (x5 % 2)=1\/1 - 2 * (x5 % 2) = -1:=by
       have:=S7 x5 (show (2:Int)≠0 by decide)
       have:=S0 x5 (show (0:Int) < 2 by decide)
       omega
     refine ⟨_,rfl,r,_,_,_,rfl,rfl,aq.of (s08 _ _ sT),a5,_,_,rfl,rfl,(by show (0:Int) < 2; decide),_,_,rfl,rfl,.inl ⟨by decide,by decide⟩,_,_,rfl,rfl,_,rfl,Nw,ta,_,rfl,aq.of eU,fun tu ML=>?_⟩
     refine ⟨_,rfl,_,rfl,I,_,rfl,.inl (aq.of (af ML _ _ _ (s08 _ _ hI))),fun i2 DO=>⟨_,rfl,YC,fun q3 zV=>⟨_,rfl,_,rfl,_,rfl,YD,fun p4 pP=>?_⟩⟩⟩
     have t1:ai H8 (upd H8 tu (.lst (cR (1 - 2 * (x5 % 2)) vt))):=af ML _
     have g1:(upd H8 tu (.lst (cR (1 - 2 * (x5 % 2)) vt))) tu=some (.lst (cR (1 - 2 * (x5 % 2)) vt)):=ae
     generalize upd H8 tu (.lst (cR (1 - 2 * (x5 % 2)) vt))=H9 at t1 g1 DO zV pP ⊢
     have t2:ai H9 (upd H9 i2 (.lst (ins.map V.str))):=af DO _
     have g2:(upd H9 i2 (.lst (ins.map V.str))) i2=some (.lst (ins.map V.str)):=ae
     generalize upd H9 i2 (.lst (ins.map V.str))=HA at t2 g2 zV pP ⊢
     have t3:ai HA (upd HA q3 (.tup [.ref tu,.ref i2,.ref fa])):=af zV _
     have g3:(upd HA q3 (.tup [.ref tu,.ref i2,.ref fa])) q3=some (.tup [.ref tu,.ref i2,.ref fa]):=ae
     generalize upd HA q3 (.tup [.ref tu,.ref i2,.ref fa])=HB at t3 g3 pP ⊢
     have t4:ai HB (upd HB p4 (.tup [.ref q3,.ref c,.ref pa,.ref bh])):=af pP _
     have t78:=aa s8 (aa t1 (aa t2 (aa t3 t4)))
     have t8:=aa t1 (aa t2 (aa t3 t4))
     refine q p4 q3 tu i2 fa c pa bh _ (cR (1 - 2 * (x5 % 2)) vt) vn2 (cK (1 - 2 * (x5 % 2)) (bs.map fun b=>(dz ins (decide (x0 % 2=1)) b.1,b.2))) nds2 (decide (x0 % 2=1)) (1 - 2 * (x5 % 2)) (aa s08 t8) ae (t4 _ _ g3) (t4 _ _ (t3 _ _ (t2 _ _ g1))) ?_ (t4 _ _ (t3 _ _ g2)) (t78 _ _ uK) (Paired.aI HG fun a b h=>bO.keep (ai.tk t78) h) (by omega) (L4.same t78) ⟨rfl,Nw⟩ ps bS (t78 _ _ (s7 _ _ uY)) (t78 _ _ (s7 _ _ uH)) NO
     exact mT (Paired.aI pt fun a b h=>Tp.keep (ai.tk t8) h)
theorem uA (s:Src K mg "_law_made_over" dy)(m_len:mg "len"=none)(m_range:mg "range"=none)(m_int:mg "int"=none)(m_list:mg "list"=none)(NA:aP P w K mg base "_law_node_as" ["node","called","places"] 8 fQ)(SK:aP P w K mg base "_law_skip" ["boxes","called","number","after"] 1 jm):aP P w K mg base "_law_made_over" ["program","row"] 9 oT:=
 let ⟨f,fd,F,m⟩:=s
 ⟨f,fd,yL F m_len m_range m_int m_list NA SK,F.kp,eE F fun _ _ _ _ _ _ _ _=>rfl,m⟩
abbrev zt:Stmt:=top 34
abbrev ik:Stmt:=top 35
abbrev fN:Stmt:=top 43
abbrev gI:Stmt:=top 22
abbrev jd:Stmt:=top 36
abbrev wx:Stmt:=top 37
def qr:Sp:=fun vs H Q _=>∃(p B I N:Addr) (vb vi vn:List V),vs=[.ref p]/\H p=some (.tup [.ref B,.ref I,.ref N])/\H B=some (.lst vb)/\H I=some (.lst vi)/\H N=some (.lst vn) /\
 ∀(p' B' I' N':Addr) (H':Hp),ai H H'->H' p'=some (.tup [.ref B',.ref I',.ref N'])->H' B'=some (.lst vb)->H' I'=some (.lst vi)->H' N'=some (.lst vn)->Q (.ref p') H'
theorem Gw:aE ["program"] ["program"] (ak zt):=⟨rfl,rfl,rfl,by decide +kernel,rfl,by decide +kernel,by decide +kernel⟩
theorem gc:ba zt "list":=by decide +kernel
theorem B3 {f:Addr}{fd:S9}(F:cL K "_law_copied" "_law_copied" zt f fd)(m_list:mg "list"=none):aN P w K mg base b6 1 f fd ["program"] qr:=by
 refine F.ok Gw (fun vs H Q E h=>?_) (fun cdv A outer s H vs Q E hr h=>?_)
 · obtain ⟨p,B,I,N,vb,vi,vn,rfl,_⟩:=h
   rfl
 obtain ⟨p,B,I,N,vb,vi,vn,rfl,hp,hB,hI,hN,q⟩:=h
 refine fC ⟨_,(WK (WU (WT (WC (Xg Xt gc m_list (by decide +kernel) (WC (WG WR (WB 0) WE) WD)) (WC (Xg Xt gc m_list (by decide +kernel) (WC (WG WR (WB 0) WE) WD)) (WC (Xg Xt gc m_list (by decide +kernel) (WC (WG WR (WB 0) WE) WD)) WD)))))),?_⟩
 refine ⟨_,rfl,p,_,_,_,rfl,rfl,aF.of hp,rfl,B,_,rfl,.inl (aq.of hB),fun b1 zR=>?_⟩
 obtain ⟨H1,s1,g1,zz⟩:=aH zR (.lst vb)
 rw [zz]; clear zz
 refine ⟨_,rfl,p,_,_,_,rfl,rfl,aF.of (s1 _ _ hp),rfl,I,_,rfl,.inl (aq.of (s1 _ _ hI)),fun i1 Hi=>?_⟩
 obtain ⟨H2,s2,g2,zz⟩:=aH Hi (.lst vi)
 rw [zz]; clear zz
 have s02:=aa s1 s2
 refine ⟨_,rfl,p,_,_,_,rfl,rfl,aF.of (s02 _ _ hp),rfl,N,_,rfl,.inl (aq.of (s02 _ _ hN)),fun n1 Hj=>⟨YC,fun p1 hp1=>?_⟩⟩
 have s3:ai H2 (upd (upd H2 n1 (.lst vn)) p1 (.tup [.ref b1,.ref i1,.ref n1])):=ao (af Hj _) hp1
 exact q p1 b1 i1 n1 _ (aa s02 s3) ae (s3 _ _ (s2 _ _ g1)) (s3 _ _ g2) (by rw [aj (ag ae hp1)]; exact ae)
theorem xX (s:Src K mg "_law_copied" zt)(m_list:mg "list"=none):aP P w K mg base "_law_copied" ["program"] 1 qr:=
 let ⟨f,fd,F,m⟩:=s
 ⟨f,fd,B3 F m_list,F.kp,lT F fun _ _ _ _ _ _ _=>rfl,m⟩
def fT:Sp:=fun vs H Q _=>∃i:Int,vs=[.int i]/\Q (.bl true) H
theorem zx:aE ["found"] ["found"] (ak gI):=⟨rfl,rfl,rfl,by decide +kernel,rfl,by decide +kernel,by decide +kernel⟩
theorem cY:ba gI "isinstance":=by decide +kernel
theorem nW:ba gI "int":=by decide +kernel
theorem mC:ba gI "bool":=by decide +kernel
theorem vM {f:Addr}{fd:S9}(F:cL K "_law_whole" "_law_whole" gI f fd)(m_isinstance:mg "isinstance"=none)(m_int:mg "int"=none)(m_bool:mg "bool"=none):aN P w K mg base b6 1 f fd ["found"] fT:=by
 refine F.ok zx (fun vs H Q E h=>?_) (fun cdv A outer s H vs Q E hr h=>?_)
 · obtain ⟨i,rfl,_⟩:=h
   rfl
 obtain ⟨i,rfl,q⟩:=h
 refine fC ⟨_,(WK (WU (L3.pq (W4 Xx cY m_isinstance (by decide +kernel) (WC (WB 0) (WC (Xy (w:=.ty "int") nW m_int (by decide +kernel) rfl) WD))) (XG (L3.M5 (W4 Xx cY m_isinstance (by decide +kernel) (WC (WB 0) (WC (Xy (w:=.ty "bool") mC m_bool (by decide +kernel) rfl) WD)))))))),?_⟩
 refine ⟨_,rfl,.int i,"int",_,true,rfl,.int i,rfl,true,rfl,rE ⟨_,rfl,.int i,"bool",_,false,rfl,.int i,rfl,false,rfl,q⟩⟩
theorem rb (s:Src K mg "_law_whole" gI)(m_isinstance:mg "isinstance"=none)(m_int:mg "int"=none)(m_bool:mg "bool"=none):aP P w K mg base "_law_whole" ["found"] 1 fT:=
 let ⟨f,fd,F,m⟩:=s
 ⟨f,fd,vM F m_isinstance m_int m_bool,F.kp,lT F fun _ _ _ _ _ _ _=>rfl,m⟩
def b3 (n:Nat):Sp:=fun vs H Q _=>∃(a:Addr) (v:V) (e:E) (Pb:Str->Str->Prop) (W:Str->Str->Int),vs=[v,.ref a]/\Io H a Pb W/\AN Pb/\b7 H v e/\e.ow/\e.okIn Pb/\e.dep < n/\Q (.int (e.worth W)) H
theorem wJ:aE ["thing","boxes"] ["thing","boxes"] (ak ik):=⟨rfl,rfl,rfl,by decide +kernel,rfl,by decide +kernel,by decide +kernel⟩
theorem bB:ba ik "_law_value":=by decide +kernel
theorem rO {n:Nat}{f:Addr}{fd:S9}(F:cL K "_law_value" "_law_value" ik f fd)(G:aP P w K mg base "_law_value" ["thing","boxes"] (n + 1) (b3 n)):aN P w K mg base b6 (n + 2) f fd ["thing","boxes"] (b3 (n + 1)):=by
 refine F.ok wJ (fun vs H Q E h=>?_) (fun cdv A outer s H vs Q E hr h=>?_)
 · obtain ⟨a,v,e,Pb,W,rfl,_⟩:=h
   rfl
 obtain ⟨a,v,e,Pb,W,rfl,kn,tg,ev,es,ok,hd,q⟩:=h
 refine fC ⟨_,(WI (WZ (WX W3 (WG WR (WB 0) WE) WQ) (WK (WU (WG WR (WB 0) WE))) W2)
   (WI (WZ (WX W3 (WG WR (WB 0) WE) WQ) (WK (WU (WJ Xd (WV G hr bB (WC (WG WR (WB 0) WE) (WC (WB 1) WD))) (WV G hr bB (WC (WG WR (WB 0) WE) (WC (WB 1) WD)))))) W2)
   (WI (WZ (WX W3 (WG WR (WB 0) WE) WQ) (WK (WU (WJ Xu (WV G hr bB (WC (WG WR (WB 0) WE) (WC (WB 1) WD))) (WV G hr bB (WC (WG WR (WB 0) WE) (WC (WB 1) WD)))))) W2)
   (WK (WU (Xs (bq hr _ (by decide)) (WB 1) (WB 0))))))),?_⟩
 cases e with
 | num m=>
   obtain ⟨p,rfl,hp⟩:=ev
   refine ⟨_,rfl,p,_,_,_,rfl,rfl,aF.of hp,rfl,rfl,_,rfl,?_⟩
   refine aD (fun _=>?_) (fun c=>absurd (decide_eq_true rfl) c)
   exact ⟨_,rfl,p,_,_,_,rfl,rfl,aF.of hp,rfl,q⟩
 | box t x=>
   obtain ⟨p,rfl,hp⟩:=ev
   obtain ⟨kvs,hk,hv⟩:=kn
   have ht:=tg t x ok
   refine ⟨_,rfl,p,_,_,_,rfl,rfl,aF.of hp,rfl,rfl,_,rfl,?_⟩
   refine aD (fun c=>?_) (fun _=>?_)
   · have:=of_decide_eq_true c
     injection this with z
     subst z
     exact absurd ht (by decide)
   refine ⟨_,rfl,p,_,_,_,rfl,rfl,aF.of hp,rfl,rfl,_,rfl,?_⟩
   refine aD (fun c=>?_) (fun _=>?_)
   · have:=of_decide_eq_true c
     injection this with z
     subst z
     exact absurd ht (by decide)
   refine ⟨_,rfl,p,_,_,_,rfl,rfl,aF.of hp,rfl,rfl,_,rfl,?_⟩
   refine aD (fun c=>?_) (fun _=>?_)
   · have:=of_decide_eq_true c
     injection this with z
     subst z
     exact absurd ht (by decide)
   refine ⟨_,rfl,_,rfl,a,_,rfl,?_,q⟩
   have g:=eB.t (k:=[.inr t,.inr x]) hk hp
   rw [hv t x ok] at g
   exact g
 | yes=>exact es.elim
 | nt a=>exact es.elim
 | two k e1 e2=>
   obtain ⟨x,y,⟨p,rfl,hp⟩,ax,ay⟩:=ev
   have rj:max e1.dep e2.dep + 1 < n + 1:=hd
   cases k with
   | plus=>
     refine ⟨_,rfl,p,_,_,_,rfl,rfl,aF.of hp,rfl,rfl,_,rfl,?_⟩
     refine aD (fun c=>absurd (of_decide_eq_true c) (by decide)) (fun _=>?_)
     refine ⟨_,rfl,p,_,_,_,rfl,rfl,aF.of hp,rfl,rfl,_,rfl,?_⟩
     refine aD (fun _=>?_) (fun c=>absurd (decide_eq_true rfl) c)
     refine ⟨_,rfl,p,_,_,_,rfl,rfl,aF.of hp,rfl,_,rfl,a,x,e1,Pb,W,rfl,kn,tg,ax,es.1,ok.1,by omega,?_⟩
     refine ⟨_,rfl,p,_,_,_,rfl,rfl,aF.of hp,rfl,_,rfl,a,y,e2,Pb,W,rfl,kn,tg,ay,es.2,ok.2,by omega,?_⟩
     exact ⟨_,_,rfl,rfl,q⟩
   | less=>
     refine ⟨_,rfl,p,_,_,_,rfl,rfl,aF.of hp,rfl,rfl,_,rfl,?_⟩
     refine aD (fun c=>absurd (of_decide_eq_true c) (by decide)) (fun _=>?_)
     refine ⟨_,rfl,p,_,_,_,rfl,rfl,aF.of hp,rfl,rfl,_,rfl,?_⟩
     refine aD (fun c=>absurd (of_decide_eq_true c) (by decide)) (fun _=>?_)
     refine ⟨_,rfl,p,_,_,_,rfl,rfl,aF.of hp,rfl,rfl,_,rfl,?_⟩
     refine aD (fun _=>?_) (fun c=>absurd (decide_eq_true rfl) c)
     refine ⟨_,rfl,p,_,_,_,rfl,rfl,aF.of hp,rfl,_,rfl,a,x,e1,Pb,W,rfl,kn,tg,ax,es.1,ok.1,by omega,?_⟩
     refine ⟨_,rfl,p,_,_,_,rfl,rfl,aF.of hp,rfl,_,rfl,a,y,e2,Pb,W,rfl,kn,tg,ay,es.2,ok.2,by omega,?_⟩
     exact ⟨_,_,rfl,rfl,q⟩
   | same=>exact es.elim
   | under=>exact es.elim
   | both=>exact es.elim
theorem mR {f:Addr}{fd:S9}:aN P w K mg base b6 1 f fd ["thing","boxes"] (b3 0):=by
 have no:∀vs H Q E,¬ b3 0 vs H Q E:=fun vs H Q E h=>by
   obtain ⟨_,_,_,_,_,_,_,_,_,_,_,h1,_⟩:=h
   omega
 exact ⟨fun vs H Q E h=>absurd h (no vs H Q E),fun A outer s H args us vs Q E _ _ _ _ h=>absurd h (no vs H Q E)⟩
theorem n5 (s:Src K mg "_law_value" ik)  : ∀n:Nat,aP P w K mg base "_law_value" ["thing","boxes"] (n + 1) (b3 n):=by
 obtain ⟨f,fd,F,m⟩:=s
 have b:Binds K fd ["thing","boxes"] []:=eE F fun _ _ _ _ _ _ _ _=>rfl
 intro n
 have all:aN P w K mg base b6 (n + 1) f fd ["thing","boxes"] (b3 n):=by
   induction n with
   | zero=>exact mR
   | succ n ih=>exact rO F  ⟨f,fd,ih,F.kp,b,m⟩
 exact ⟨f,fd,all,F.kp,b,m⟩
def lq (ins:List Str)(k:Int)(b:Str×Int):Str×Int:=(b.1,b.2 + k * (if b.1∈ins then 0 else 1))
def ek:Sp:=fun vs H Q _=>∃(p B I N:Addr) (vb:List V) (bs:List (Str×Int)) (ins:List Str) (n:Int),vs=[.ref p,.int n]/\H p=some (.tup [.ref B,.ref I,.ref N])/\H B=some (.lst vb)/\Paired (bU H) vb bs/\H I=some (.lst (ins.map V.str))/\bs.length<=100 /\
 ∀(p' T:Addr) (vt:List V) (H':Hp),ai H H'->H' p'=some (.tup [.ref T,.ref I,.ref N])->H' T=some (.lst vt)->Paired (bU H') vt (bs.map (lq ins (n % 3)))->Q (.ref p') H'
theorem eh:aE ["program","number","boxes","inputs","nodes"] ["program","number"] (ak fN):=⟨rfl,rfl,rfl,by decide +kernel,rfl,by decide +kernel,by decide +kernel⟩
theorem oG {f:Addr}{fd:S9}(F:cL K "_law_resized" "_law_resized" fN f fd)(m_int:mg "int"=none):aN P w K mg base b6 1 f fd ["program","number"] ek:=by
 refine F.ok eh (fun vs H Q E h=>?_) (fun cdv A outer s H vs Q E hr h=>?_)
 · obtain ⟨p,B,I,N,vb,bs,ins,n,rfl,_⟩:=h
   rfl
 obtain ⟨p,B,I,N,vb,bs,ins,n,rfl,hp,hB,pb,hI,zR,q⟩:=h
 refine fC ⟨_,(WI (XD (WB 0) (W7 3 (WW (WN 2 eh.nd) (WW (WN 3 eh.nd) (WW (WN 4 eh.nd) W8)))))
   (WK (WU (WT (WC (Xc [none,none,some 1,some 3] ["name","size","number","inputs"] (show ar _ (ak fN) from ⟨rfl,by decide +kernel,by decide +kernel,by decide +kernel⟩) (by rfl) (W5 (WB 2)) (fun _ _ _ _ _=>⟨(W7 2 (WW (WN 0 (show (["name","size","number","inputs"]:List Str).Nodup from by decide +kernel)) (WW (WN 1 (show (["name","size","number","inputs"]:List Str).Nodup from by decide +kernel)) W8))),W6,(WT (WC (WB 0) (WC (WJ Xd (WB 1) (WJ Xf (WJ WY (WB 2) WE) (Xg L3.pD (by rfl) m_int (by decide +kernel) (WC (Xn L3.lg (WB 0) (WB 3) (by rfl)) WD)))) WD)))⟩)) (WC (WB 3) (WC (WB 4) WD))))))),?_⟩
 have gC:vb.length=bs.length:=Paired.length pb
 have cl:∀c:Bool,(-(2 ^ 64):Int) < (if c=true then 1 else 0)/\(if c=true then (1:Int) else 0) < 2 ^ 64:=by decide
 refine ⟨_,rfl,p,_,rfl,aF.of hp,rfl,_,_,rfl,_,_,rfl,_,_,rfl,rfl,?_⟩
 refine ⟨_,rfl,B,rfl,⟨_,aq.of hB⟩,fun ta BB=>?_⟩
 refine aL (xs:=vb) (fun i H8=>∃vt:List V,ai H H8/\H8 ta=some (.lst vt)/\vt.length=i/\Paired (bU H8) vt ((bs.map (lq ins (n % 3))).take i)) ⟨[],af BB _,ae,rfl,.nil⟩ (fun i H8 _ z=>aq.of (z.choose_spec.1 _ _ hB)) (fun i x H8 hx z=>?_) (fun H8 z=>?_)
 · obtain ⟨vt,s8,eU,Fx,pt⟩:=z
   obtain ⟨b,fD,e8,rfl,hC⟩:=Paired.get pb hx
   have cj:i < vb.length:=(List.getElem?_eq_some_iff.mp hx).1
   refine ⟨e8,_,rfl,aF.of (s8 _ _ hC),rfl,_,_,rfl,_,_,rfl,rfl,?_⟩
   refine bp (A:=fun H3=>bK _ ta _ H3 _) ?_
   have ez:(if (!FE (.str b.1) (ins.map V.str))=true then (1:Int) else 0)=if b.1∈ins then 0 else 1:=by
     rw [i0]
     by_cases h:b.1∈ins <;> simp [h]
   refine ⟨_,rfl,_,rfl,_,rfl,_,_,rfl,rfl,(by show (0:Int) < 3; decide),_,rfl,_,rfl,I,_,rfl,.inl (aq.of (s8 _ _ hI)),rfl,jU ins,.inr ⟨_,rfl,_,_,rfl,rfl,.inr (cl _),_,_,rfl,rfl,YB,fun p2 bF=>⟨vt,?_,aB (by omega),aA (Pv:=fun i H8=>∃vt:List V,ai H H8/\H8 ta=some (.lst vt)/\vt.length=i/\Paired (bU H8) vt ((bs.map (lq ins (n % 3))).take i)) (by repeat' constructor) cj ?_⟩⟩⟩
   · rw [aj (ag eU bF)]; exact eU
   · have h4:∀o,(upd H8 p2 o) ta=some (.lst vt):=fun o=>by rw [aj (ag eU bF)]; exact eU
     refine ⟨vt++[.ref p2],az (ao s8 bF) BB,ae,by rw [Sy,Fx]; rfl,?_⟩
     have eg:(bs.map (lq ins (n % 3)))[i]? = some (lq ins (n % 3) b):=by rw [S2,fD]; rfl
     rw [SQ,eg]
     refine Paired.snoc (Paired.aI pt fun a b h=>Tp.keep ((aC bF _).trans (TK.lst (h4 _))) h) ⟨p2,rfl,?_⟩
     rw [aj (ag eU bF).symm,ae]
     unfold lq
     rw [← ez]
     rfl
 · obtain ⟨vt,s8,eU,Fx,pt⟩:=z
   have II:(bs.map (lq ins (n % 3))).take vb.length=bs.map (lq ins (n % 3)):=Tf (by rw [Sv]; omega)
   rw [II] at pt
   refine ⟨_,rfl,_,rfl,YC,fun p3 uV=>?_⟩
   have t3:ai H8 (upd H8 p3 (.tup [.ref ta,.ref I,.ref N])):=af uV _
   exact q p3 ta vt _ (aa s8 t3) ae (t3 _ _ eU) (Paired.aI pt fun a b h=>Tp.keep (ai.tk t3) h)
theorem mF (s:Src K mg "_law_resized" fN)(m_int:mg "int"=none):aP P w K mg base "_law_resized" ["program","number"] 1 ek:=
 let ⟨f,fd,F,m⟩:=s
 ⟨f,fd,oG F m_int,F.kp,eE F fun _ _ _ _ _ _ _ _=>rfl,m⟩
def dr (n:Nat):Sp:=fun vs H Q _=>∃(a:Addr) (v:V) (e:E) (Pb:Str->Str->Prop) (W:Str->Str->Int),vs=[v,.ref a]/\Io H a Pb W/\AN Pb/\b7 H v e/\e.js/\e.okIn Pb/\e.dep < n/\Q (.bl (e.holds W)) H
theorem qm:aE ["thing","boxes","far"] ["thing","boxes"] (ak jd):=⟨rfl,rfl,rfl,by decide +kernel,rfl,by decide +kernel,by decide +kernel⟩
theorem cD:ba jd "_law_true":=by decide +kernel
theorem di:ba jd "_law_value":=by decide +kernel
theorem vJ {n:Nat}{f:Addr}{fd:S9}(F:cL K "_law_true" "_law_true" jd f fd)(VB:∀n,aP P w K mg base "_law_value" ["thing","boxes"] (n + 1) (b3 n))(G:aP P w K mg base "_law_true" ["thing","boxes"] (n + 2) (dr n)) :
    aN P w K mg base b6 (n + 3) f fd ["thing","boxes"] (dr (n + 1)):=by
 refine F.ok qm (fun vs H Q E h=>?_) (fun cdv A outer s H vs Q E hr h=>?_)
 · obtain ⟨a,v,e,Pb,W,rfl,_⟩:=h
   rfl
 obtain ⟨a,v,e,Pb,W,rfl,kn,tg,ev,es,ok,hd,q⟩:=h
 have V1:=(VB n).mono (show n + 1<=n + 2 by omega)
 refine fC ⟨_,(WI (WZ (WX W3 (WG WR (WB 0) WE) WQ) (WK (WU (L3.pq (WV G hr cD (WC (WG WR (WB 0) WE) (WC (WB 1) WD))) (XG (WV G hr cD (WC (WG WR (WB 0) WE) (WC (WB 1) WD))))))) W2)
   (WI (WZ (WX W3 (WG WR (WB 0) WE) WQ) (WK (WU (L3.M5 (WV G hr cD (WC (WG WR (WB 0) WE) (WC (WB 1) WD)))))) W2)
   (WI (WZ (WX W3 (WG WR (WB 0) WE) WQ) (WK (WU XH)) W2)
   (WI (WS 2 qm.nd (WJ Xu (WV V1 hr di (WC (WG WR (WB 0) WE) (WC (WB 1) WD))) (WV V1 hr di (WC (WG WR (WB 0) WE) (WC (WB 1) WD)))))
   (WK (WU (L3.Lh (L3.pq (Xn W3 (WB 2) WE) (XG (Xn W3 (WG WR (WB 0) WE) WQ))) (XG (L3.pq (Xn Xl (WB 2) WE) (XG (Xn W3 (WG WR (WB 0) WE) WQ))))))))))),?_⟩
 cases e with
 | num m=>exact es.elim
 | box t x=>exact es.elim
 | yes=>
   obtain ⟨p,rfl,hp⟩:=ev
   refine ⟨_,rfl,p,_,_,_,rfl,rfl,aF.of hp,rfl,rfl,_,rfl,?_⟩
   refine aD (fun c=>absurd (of_decide_eq_true c) (by decide)) (fun _=>?_)
   refine ⟨_,rfl,p,_,_,_,rfl,rfl,aF.of hp,rfl,rfl,_,rfl,?_⟩
   refine aD (fun c=>absurd (of_decide_eq_true c) (by decide)) (fun _=>?_)
   refine ⟨_,rfl,p,_,_,_,rfl,rfl,aF.of hp,rfl,rfl,_,rfl,?_⟩
   refine aD (fun _=>?_) (fun c=>absurd (decide_eq_true rfl) c)
   exact q
 | nt e1=>
   obtain ⟨x,⟨p,rfl,hp⟩,ax⟩:=ev
   have rj:e1.dep + 1 < n + 1:=hd
   refine ⟨_,rfl,p,_,_,_,rfl,rfl,aF.of hp,rfl,rfl,_,rfl,?_⟩
   refine aD (fun c=>absurd (of_decide_eq_true c) (by decide)) (fun _=>?_)
   refine ⟨_,rfl,p,_,_,_,rfl,rfl,aF.of hp,rfl,rfl,_,rfl,?_⟩
   refine aD (fun _=>?_) (fun c=>absurd (decide_eq_true rfl) c)
   exact ⟨_,rfl,p,_,_,_,rfl,rfl,aF.of hp,rfl,_,rfl,a,x,e1,Pb,W,rfl,kn,tg,ax,es,ok,by omega,_,rfl,q⟩
 | two k e1 e2=>
   obtain ⟨x,y,⟨p,rfl,hp⟩,ax,ay⟩:=ev
   have rj:max e1.dep e2.dep + 1 < n + 1:=hd
   cases k with
   | plus=>exact es.elim
   | less=>exact es.elim
   | same=>
     refine ⟨_,rfl,p,_,_,_,rfl,rfl,aF.of hp,rfl,rfl,_,rfl,?_⟩
     refine aD (fun c=>absurd (of_decide_eq_true c) (by decide)) (fun _=>?_)
     refine ⟨_,rfl,p,_,_,_,rfl,rfl,aF.of hp,rfl,rfl,_,rfl,?_⟩
     refine aD (fun c=>absurd (of_decide_eq_true c) (by decide)) (fun _=>?_)
     refine ⟨_,rfl,p,_,_,_,rfl,rfl,aF.of hp,rfl,rfl,_,rfl,?_⟩
     refine aD (fun c=>absurd (of_decide_eq_true c) (by decide)) (fun _=>?_)
     refine ⟨_,rfl,p,_,_,_,rfl,rfl,aF.of hp,rfl,_,rfl,a,x,e1,Pb,W,rfl,kn,tg,ax,es.1,ok.1,by omega,?_⟩
     refine ⟨_,rfl,p,_,_,_,rfl,rfl,aF.of hp,rfl,_,rfl,a,y,e2,Pb,W,rfl,kn,tg,ay,es.2,ok.2,by omega,?_⟩
     refine ⟨_,_,rfl,rfl,?_⟩
     have q':Q (.bl (decide (e1.worth W=e2.worth W))) H:=q
     refine ⟨_,rfl,rfl,_,rfl,?_⟩
     refine aD (fun c=>?_) (fun c=>?_)
     · have z:=of_decide_eq_true c
       injection z with z
       rw [decide_eq_true (show e1.worth W=e2.worth W by omega)] at q'
       exact ⟨_,rfl,p,_,_,_,rfl,rfl,aF.of hp,rfl,rfl,_,rfl,rE q'⟩
     · have z:¬ e1.worth W=e2.worth W:=fun z=>c (decide_eq_true (show V.int (e1.worth W - e2.worth W)=V.int 0 by rw [z,Int.sub_self]))
       rw [decide_eq_false z] at q'
       refine ⟨false,rfl,hV ?_⟩
       refine ⟨_,rfl,_,_,rfl,rfl,_,rfl,?_⟩
       refine aD (fun c=>?_) (fun c=>q')
       exact ⟨_,rfl,p,_,_,_,rfl,rfl,aF.of hp,rfl,rfl,q'⟩
   | under=>
     refine ⟨_,rfl,p,_,_,_,rfl,rfl,aF.of hp,rfl,rfl,_,rfl,?_⟩
     refine aD (fun c=>absurd (of_decide_eq_true c) (by decide)) (fun _=>?_)
     refine ⟨_,rfl,p,_,_,_,rfl,rfl,aF.of hp,rfl,rfl,_,rfl,?_⟩
     refine aD (fun c=>absurd (of_decide_eq_true c) (by decide)) (fun _=>?_)
     refine ⟨_,rfl,p,_,_,_,rfl,rfl,aF.of hp,rfl,rfl,_,rfl,?_⟩
     refine aD (fun c=>absurd (of_decide_eq_true c) (by decide)) (fun _=>?_)
     refine ⟨_,rfl,p,_,_,_,rfl,rfl,aF.of hp,rfl,_,rfl,a,x,e1,Pb,W,rfl,kn,tg,ax,es.1,ok.1,by omega,?_⟩
     refine ⟨_,rfl,p,_,_,_,rfl,rfl,aF.of hp,rfl,_,rfl,a,y,e2,Pb,W,rfl,kn,tg,ay,es.2,ok.2,by omega,?_⟩
     refine ⟨_,_,rfl,rfl,?_⟩
     have q':Q (.bl (decide (e1.worth W < e2.worth W))) H:=q
     refine ⟨_,rfl,rfl,_,rfl,?_⟩
     refine aD (fun c=>?_) (fun c=>?_)
     · have z:=of_decide_eq_true c
       injection z with z
       refine ⟨_,rfl,p,_,_,_,rfl,rfl,aF.of hp,rfl,rfl,_,rfl,hV ?_⟩
       refine ⟨_,rfl,_,_,rfl,rfl,_,rfl,?_⟩
       rw [decide_eq_false (show ¬ e1.worth W < e2.worth W by omega)] at q'
       exact aD (fun c=>absurd (of_decide_eq_true c) (by omega)) (fun c=>q')
     · refine ⟨false,rfl,hV ?_⟩
       refine ⟨_,rfl,_,_,rfl,rfl,_,rfl,?_⟩
       refine aD (fun c=>?_) (fun c=>?_)
       · rw [decide_eq_true (show e1.worth W < e2.worth W by have:=of_decide_eq_true c; omega)] at q'
         exact ⟨_,rfl,p,_,_,_,rfl,rfl,aF.of hp,rfl,rfl,q'⟩
       · rw [decide_eq_false (show ¬ e1.worth W < e2.worth W from fun z=>c (decide_eq_true (by omega)))] at q'
         exact q'
   | both=>
     refine ⟨_,rfl,p,_,_,_,rfl,rfl,aF.of hp,rfl,rfl,_,rfl,?_⟩
     refine aD (fun _=>?_) (fun c=>absurd (decide_eq_true rfl) c)
     have q':Q (.bl (e1.holds W && e2.holds W)) H:=q
     refine ⟨_,rfl,p,_,_,_,rfl,rfl,aF.of hp,rfl,_,rfl,a,x,e1,Pb,W,rfl,kn,tg,ax,es.1,ok.1,by omega,_,rfl,?_⟩
     refine aD (fun c=>?_) (fun c=>?_)
     · refine ⟨_,rfl,p,_,_,_,rfl,rfl,aF.of hp,rfl,_,rfl,a,y,e2,Pb,W,rfl,kn,tg,ay,es.2,ok.2,by omega,?_⟩
       rw [c,U0] at q'
       exact q'
     · rw [Bool.eq_false_iff.mpr c,V4] at q'
       exact q'
theorem oC {f:Addr}{fd:S9}:aN P w K mg base b6 2 f fd ["thing","boxes"] (dr 0):=by
 have no:∀vs H Q E,¬ dr 0 vs H Q E:=fun vs H Q E h=>by
   obtain ⟨_,_,_,_,_,_,_,_,_,_,_,h1,_⟩:=h
   omega
 exact ⟨fun vs H Q E h=>absurd h (no vs H Q E),fun A outer s H args us vs Q E _ _ _ _ h=>absurd h (no vs H Q E)⟩
theorem q8 (s:Src K mg "_law_true" jd)(VB:∀n,aP P w K mg base "_law_value" ["thing","boxes"] (n + 1) (b3 n)):∀n:Nat,aP P w K mg base "_law_true" ["thing","boxes"] (n + 2) (dr n):=by
 obtain ⟨f,fd,F,m⟩:=s
 have b:Binds K fd ["thing","boxes"] []:=eE F fun _ _ _ _ _ _ _ _=>rfl
 intro n
 have all:aN P w K mg base b6 (n + 2) f fd ["thing","boxes"] (dr n):=by
   induction n with
   | zero=>exact oC
   | succ n ih=>exact vJ F VB ⟨f,fd,ih,F.kp,b,m⟩
 exact ⟨f,fd,all,F.kp,b,m⟩
def qu:Sp:=fun vs H Q _=>∃(v1 v2:V) (m y:Addr) (b1 b2:List (Str×Int)) (w1 w2:List Int),vs=[v1,v2,.ref m,.ref y]/\dA H v1 b1/\dA H v2 b2/\(b1.map (·.1)).Nodup/\(b2.map (·.1)).Nodup/\H m=some (.lst (w1.map V.int))/\H y=some (.lst (w2.map V.int))/\b1.length=w1.length/\b2.length=w2.length/\b1.length<=100/\b2.length<=100 /\
 ∀D H',H D=none->ai H H'->Io H' D (lU b1 b2) (tM b1 w1 b2 w2)->Q (.ref D) H'
theorem ql:aE ["one","other","mine","yours","boxes","k"] ["one","other","mine","yours"] (ak wx):=⟨rfl,rfl,rfl,by decide +kernel,rfl,by decide +kernel,by decide +kernel⟩
theorem mw:ba wx "len":=by decide +kernel
theorem iQ:ba wx "range":=by decide +kernel
theorem B9 {f:Addr}{fd:S9}(F:cL K "_law_known" "_law_known" wx f fd)(m_len:mg "len"=none)(m_range:mg "range"=none):aN P w K mg base b6 1 f fd ["one","other","mine","yours"] qu:=by
 refine F.ok ql (fun vs H Q E h=>?_) (fun cdv A outer s H vs Q E hr h=>?_)
 · obtain ⟨v1,v2,m,y,b1,b2,w1,w2,rfl,_⟩:=h
   rfl
 obtain ⟨v1,v2,m,y,b1,b2,w1,w2,rfl,⟨p1,B1,I1,N1,nB,rfl,hp1,hB1,e8⟩,⟨p2,B2,I2,N2,nq,rfl,bF,xn,mV⟩,nd1,nd2,hm,hy,l1,l2,f1,f2,q⟩:=h
 refine fC ⟨_,(WI (WS 4 ql.nd XI)
   (WI (Xb (Xj iQ m_range (WC (W4 Xa mw m_len Te (WC (WB 2) WD)) WD)) (WN 5 ql.nd) (WK (Xz (bq hr _ (by decide)) (WB 4) (WT (WC WQ (WC (WG WR (WG WM (WG WR (WB 0) WE) (WB 5)) WE) WD))) (WG WM (WB 2) (WB 5)))))
   (WI (Xb (Xj iQ m_range (WC (W4 Xa mw m_len Te (WC (WB 3) WD)) WD)) (WN 5 ql.nd) (WK (Xz (bq hr _ (by decide)) (WB 4) (WT (WC WQ (WC (WG WR (WG WM (WG WR (WB 1) WE) (WB 5)) WE) WD))) (WG WM (WB 3) (WB 5)))))
   (WK (WU (WB 4)))))),?_⟩
 have Sg:nB.length=b1.length:=Paired.length e8
 have Sh:nq.length=b2.length:=Paired.length mV
 refine fun D hD=>?_
 refine ⟨_,rfl,m,_,rfl,.inl (aq.of (af hD _ _ _ hm)),_,rfl,by rw [Sv]; omega,by rw [Sv]; omega,?_⟩
 refine bQ (lo:=0) (n:=((w1.map V.int).length:Int).toNat) (fun i σ H2=>(∃kv,σ=[some (.ref p1),some (.ref p2),some (.ref m),some (.ref y),some (.ref D),kv])/\ai H H2/\H2 D=some (.dT (bC "mine" (b1.take i) (w1.take i)))) ?_ ?_ ?_
 · exact ⟨⟨_,rfl⟩,af hD _,ae⟩
 · rintro i σ H2 hi ⟨⟨kv,rfl⟩,s2,sI⟩
   rw [Sv] at hi
   have PV:i < w1.length:=by omega
   have PM:i < b1.length:=by omega
   have e0:((0:Int) + (i:Int)).toNat=i:=by omega
   obtain ⟨wv,gw,_,rg⟩:=br V.int w1 (r:=0 + (i:Int)) (by omega) (by omega)
   obtain ⟨bv,EG,rf⟩:=jJ (xs:=nB) (r:=0 + (i:Int)) (by omega) (by omega)
   rw [e0] at gw EG
   obtain ⟨b,gb,pb,rfl,hC⟩:=Paired.get e8 EG
   refine ⟨_,rfl,_,rfl,m,_,_,_,rfl,rfl,aq.of (s2 _ _ hm),rg,_,rfl,_,rfl,p1,_,_,_,rfl,rfl,aF.of (s2 _ _ hp1),rfl,_,rfl,B1,_,_,_,rfl,rfl,aq.of (s2 _ _ hB1),rf,pb,_,_,_,rfl,rfl,aF.of (s2 _ _ hC),rfl,YB,fun kp sP=>?_⟩
   have hD3:∀o,(upd H2 kp o) D=some (.dT (bC "mine" (b1.take i) (w1.take i))):=fun o=>by rw [aj (ag sI sP)]; exact sI
   have kl:=d9 "mine" (b1.take i) (w1.take i)
   have kt:(b1.take i).length<=b1.length:=by rw [SH]; omega
   refine ⟨D,_,rfl,eC.t (k:=[.inr "mine",.inr b.1]) (hD3 _) ae (aB (by omega)),⟨_,rfl⟩,az (ao s2 sP) hD,?_⟩
   rw [ae,mW (cP "mine" _ _ _ _ fun _=>pV nd1 gb),SQ,SQ,gb,gw]
   show _=some (HO.dT (bC "mine" (b1.take i++[b]) (w1.take i++[wv])))
   rw [eV "mine" _ _ b wv (by rw [SH,SH]; omega)]
 rintro σ H2 ⟨⟨kv,rfl⟩,s2,sI⟩
 have el:((w1.map V.int).length:Int).toNat=w1.length:=by rw [Sv]; omega
 rw [el,SV,← l1,SV] at sI
 have s1:=s2
 have Pf:=sI
 clear s2 sI
 refine ⟨_,rfl,y,_,rfl,.inl (aq.of (s1 _ _ hy)),_,rfl,by rw [Sv]; omega,by rw [Sv]; omega,?_⟩
 refine bQ (lo:=0) (n:=((w2.map V.int).length:Int).toNat) (fun i σ H2=>(∃kv,σ=[some (.ref p1),some (.ref p2),some (.ref m),some (.ref y),some (.ref D),kv])/\ai H H2/\H2 D=some (.dT (bC "mine" b1 w1++bC "yours" (b2.take i) (w2.take i)))) ?_ ?_ ?_
 · exact ⟨⟨_,rfl⟩,s1,by rw [Pf]; show _=some (HO.dT (bC "mine" b1 w1++[])); rw [Tu]⟩
 · rintro i σ H2 hi ⟨⟨kv,rfl⟩,s2,sI⟩
   rw [Sv] at hi
   have PV:i < w2.length:=by omega
   have PM:i < b2.length:=by omega
   have e0:((0:Int) + (i:Int)).toNat=i:=by omega
   obtain ⟨wv,gw,_,rg⟩:=br V.int w2 (r:=0 + (i:Int)) (by omega) (by omega)
   obtain ⟨bv,EG,rf⟩:=jJ (xs:=nq) (r:=0 + (i:Int)) (by omega) (by omega)
   rw [e0] at gw EG
   obtain ⟨b,gb,pb,rfl,hC⟩:=Paired.get mV EG
   refine ⟨_,rfl,_,rfl,y,_,_,_,rfl,rfl,aq.of (s2 _ _ hy),rg,_,rfl,_,rfl,p2,_,_,_,rfl,rfl,aF.of (s2 _ _ bF),rfl,_,rfl,B2,_,_,_,rfl,rfl,aq.of (s2 _ _ xn),rf,pb,_,_,_,rfl,rfl,aF.of (s2 _ _ hC),rfl,YB,fun kp sP=>?_⟩
   have hD3:∀o,(upd H2 kp o) D=some (.dT (bC "mine" b1 w1++bC "yours" (b2.take i) (w2.take i))):=fun o=>by rw [aj (ag sI sP)]; exact sI
   have kl:=d9 "yours" (b2.take i) (w2.take i)
   have kt:(b2.take i).length<=b2.length:=by rw [SH]; omega
   refine ⟨D,_,rfl,eC.t (k:=[.inr "yours",.inr b.1]) (hD3 _) ae (aB (by rw [Sy]; have:=d9 "mine" b1 w1; omega)),⟨_,rfl⟩,az (ao s2 sP) hD,?_⟩
   rw [ae,mW (by rw [jr,cP "mine" b1 w1 "yours" b.1 (fun z=>absurd z (by decide))]; exact cP "yours" _ _ _ _ fun _=>pV nd2 gb),SQ,SQ,gb,gw]
   show _=some (HO.dT (bC "mine" b1 w1++bC "yours" (b2.take i++[b]) (w2.take i++[wv])))
   rw [eV "yours" _ _ b wv (by rw [SH,SH]; omega),← UZ]
 rintro σ H2 ⟨⟨kv,rfl⟩,s2,sI⟩
 have el:((w2.map V.int).length:Int).toNat=w2.length:=by rw [Sv]; omega
 rw [el,SV,← l2,SV] at sI
 exact ⟨_,rfl,q D H2 hD s2 ⟨_,sI,AW l1 l2⟩⟩
theorem xZ (s:Src K mg "_law_known" wx)(m_len:mg "len"=none)(m_range:mg "range"=none):aP P w K mg base "_law_known" ["one","other","mine","yours"] 1 qu:=
 let ⟨f,fd,F,m⟩:=s
 ⟨f,fd,B9 F m_len m_range,F.kp,tK F fun _ _ _ _ _ _ _ _ _ _=>rfl,m⟩
abbrev gH:Stmt:=mN 12 0
abbrev lu:Stmt:=mN 13 0
abbrev Dh:Stmt:=mN 13 2
theorem jh {n:Nat}(h:n<=9000):n < sizeLine:=Nat.lt_of_le_of_lt h (by decide)
theorem Ra {n:Nat}(h:n<=9000):n<=sizeLine:=TB (jh h)
abbrev lk (fs:List (Str×V))(f:Str):Option V:=fs.lookup f
theorem eL {fs:List (Str×V)}(f:Str)(v:V){k:Nat}(h:fs.length<=k):∃fs',dS f v fs=fs'/\fs'.length<=k + 1/\lk fs' f=some v/\∀g,g≠f->lk fs' g=lk fs g:=
 ⟨_,rfl,by have:=dQ f v fs; omega,by show Ux _ _=_; rw [c6,if_pos rfl],fun g ng=>by show Ux _ _=_; rw [c6,if_neg ng]⟩
theorem ij {κ:Type}[DecidableEq κ](kvs:List (κ×V))(k:κ)(v:V):(putK kvs k v).length<=kvs.length + 1:=by
 unfold putK
 split
 · rw [Sv]; omega
 · rw [Sy]; exact Sz _
theorem Kp.tk {x C dx:Addr}{fs:List (Str×V)}{H H':Hp}(k:Kp x H H')(h:H x=some (.ins C dx fs)):TK H H':=fun b xs e=>k b _ e fun z=>by rw [z,h] at e; cases e
structure bu (K:Sw)(H:Hp)(a:Addr)(W:List (List Int)):Prop where
 ex:∃(C dx:Addr) (fs:List (Str×V)) (lw:Addr) (as:List Addr),pd K C/\cC K C "worths"/\H a=some (.ins C dx fs)/\lk fs "worths"=some (.ref lw)/\H lw=some (.lst (as.map V.ref))/\Paired (dF H) as W
theorem bu.keep {K:Sw}{H H':Hp}{a g C dx:Addr}{fs:List (Str×V)}{W:List (List Int)}(h:bu K H a W)(k:Kp g H H')(hg:H g=some (.ins C dx fs))(ne:a≠g):bu K H' a W:=by
 obtain ⟨C1,xP,xS,lw,as,c,n,ha,l,hl,p⟩:=h
 have nl:∀{b:Addr} {xs:List V},H b=some (.lst xs)->b≠g:=fun e z=>by rw [z,hg] at e; cases e
 exact ⟨C1,xP,xS,lw,as,c,n,k _ _ ha ne,l,k _ _ hl (nl hl),Paired.aI p fun _ _ z=>k _ _ z (nl z)⟩
theorem bu.same {K:Sw}{H H':Hp}{a:Addr}{W:List (List Int)}(h:bu K H a W)(s:ai H H'):bu K H' a W:=by
 obtain ⟨C1,xP,xS,lw,as,c,n,ha,l,hl,p⟩:=h
 exact ⟨C1,xP,xS,lw,as,c,n,s _ _ ha,l,s _ _ hl,Paired.aI p fun _ _ z=>s _ _ z⟩
structure iA (szs:List Int):Prop where
 sz:∀s∈szs,0<=s/\s<=900
 len:szs.length<=400
 gr:∀i,(bN (szs.take i)).length<=900
abbrev av (bs:List (Str×Int)):List (List Int):=bN (bs.map (·.2))
def lH (K:Sw)(C:Addr):Sp:=fun vs H Q _=>∃(x dx:Addr) (v:V) (bs:List (Str×Int)),vs=[.ref x,v]/\H x=some (.ins C dx [])/\dA H v bs/\iA (bs.map (·.2)) /\
 ∀(H':Hp),Kp x H H'->(∃fs,H' x=some (.ins C dx fs))->bu K H' x (av bs)->Q .non H'
theorem zw:aE ["self","program"] ["self","program"] (ak gH):=⟨rfl,rfl,rfl,by decide +kernel,rfl,by decide +kernel,by decide +kernel⟩
theorem eJ:ba gH "every_worths":=by decide +kernel
theorem gk:ba gH "box_sizes":=by decide +kernel
theorem gm:ba gH "enumerate":=by decide +kernel
theorem dA.kp {x C dx:Addr}{fs:List (Str×V)}{H H':Hp}{v:V}{bs:List (Str×Int)}(h:dA H v bs)(k:Kp x H H')(hx:H x=some (.ins C dx fs)):dA H' v bs:=
 let ⟨p,B,I,N,vb,e,h1,h2,h3⟩:=h
 ⟨p,B,I,N,vb,e,k.tk hx _ _ h1,k _ _ h2 (fun z=>by rw [z,hx] at h2; cases h2),Paired.aI h3 fun _ _ z=>Tp.keep (k.tk hx) z⟩
theorem vL {C:Addr}{f:Addr}{fd:S9}(F:cL K "__init__" "Side.__init__" gH f fd)(cs:kG K mg "Side" C ["program","worths","numbers","steps","stays"])(EW:aP P w K mg base "every_worths" ["sizes"] 1 qt)(BS:aP P w K mg base "box_sizes" ["program"] 1 iu)(m_tuple:mg "tuple"=none)(m_enumerate:mg "enumerate"=none):aN P w K mg base b6 2 f fd ["self","program"] (lH K C):=by
 refine F.ok zw (fun vs H Q E h=>?_) (fun cdv A outer s H vs Q E hr h=>?_)
 · obtain ⟨x,dx,v,bs,rfl,_⟩:=h
   rfl
 obtain ⟨x,dx,v,bs,rfl,hx,hb,fw,q⟩:=h
 refine fC ⟨_,(WI (Xm (WB 0) (WB 1))
   (WI (Xm (WB 0) (WV EW hr eJ (WC (WV BS hr gk (WC (WB 1) WD)) WD)))
   (WI (Xm (WB 0) (L3.Of [none,none] ["number","worths"] (bq hr _ (by decide)) (show ar _ (ak gH) from ⟨rfl,by decide +kernel,by decide +kernel,by decide +kernel⟩) (by rfl) (L3.iE gm m_enumerate (WC (W9 (WB 0)) WD)) (fun _ _ _ _ _=>⟨(W7 2 (WW (WN 0 (show (["number","worths"]:List Str).Nodup from by decide +kernel)) (WW (WN 1 (show (["number","worths"]:List Str).Nodup from by decide +kernel)) W8))),W6,(Xg L3.pE (by rfl) m_tuple (by decide +kernel) (WC (WB 1) WD)),(WB 0)⟩)))
   (WI (Xm (WB 0) XI)
   (WK (Xm (WB 0) XI)))))),?_⟩
 have cl:=cs.c
 have na:∀f,f∈(["program","worths","numbers","steps","stays"]:List Str)->cC K C f:=fun f hf=>cs.na.get hf
 refine ⟨_,rfl,_,rfl,x,C,dx,[],rfl,hx,cl,na _ (by decide),by decide,?_⟩
 obtain ⟨f1,e1,l1,_,k1⟩:=eL "program" v (fs:=[]) (Sz 0)
 rw [e1]
 have Kt:Kp x H (upd H x (.ins C dx f1)):=(Kp.refl H).self
 have x1:(upd H x (.ins C dx f1)) x=some (.ins C dx f1):=ae
 generalize upd H x (.ins C dx f1)=H1 at Kt x1 ⊢
 have zR:dA H1 v bs:=hb.kp Kt hx
 have mG:bs.length<=900:=by have:=fw.len; rw [Sv] at this; omega
 refine ⟨_,rfl,v,bs,rfl,zR,mG,fun l hl=>⟨l,_,rfl,ae,fw.sz,S3 fw.len (by decide),fw.gr,fun lw as H3 O=>?_⟩⟩
 have s3:ai H1 H3:=aa (af hl _) O.s
 have x3:=s3 _ _ x1
 refine ⟨_,rfl,x,C,dx,f1,rfl,x3,cl,na _ (by decide),by omega,?_⟩
 obtain ⟨f2,e2,l2,w2,k2⟩:=eL "worths" (.ref lw) l1
 rw [e2]
 have MT:Kp x H (upd H3 x (.ins C dx f2)):=(Kt.same s3).self
 have nl:∀{b:Addr} {xs:List V},H3 b=some (.lst xs)->b≠x:=fun e z=>by rw [z,x3] at e; cases e
 have FH:(upd H3 x (.ins C dx f2)) lw=some (.lst (as.map V.ref)):=by rw [aj (nl O.e)]; exact O.e
 have p4:Paired (dF (upd H3 x (.ins C dx f2))) as (bN (bs.map (·.2))):=Paired.aI O.p fun a r z=>by show upd H3 x _ a=_; rw [aj (nl z)]; exact z
 have x4:(upd H3 x (.ins C dx f2)) x=some (.ins C dx f2):=ae
 generalize upd H3 x (.ins C dx f2)=H4 at MT FH p4 x4 ⊢
 have xp:=Paired.length p4
 have PH:=fw.gr (bs.map (·.2)).length
 rw [SV] at PH
 refine ⟨_,rfl,x,C,dx,f2,_,rfl,x4,cl,na _ (by decide),w2,lw,rfl,⟨_,aq.of FH⟩,fun D hD=>?_⟩
 refine qK (xs:=as.map V.ref) (fun i H2=>ai H4 H2/\∃kvs,H2 D=some (.dT kvs)/\kvs.length<=i) ⟨af hD _,_,ae,Sz _⟩ (fun i H2 _ z=>aq.of (z.1 _ _ FH)) (fun i y p H2 hy z hp=>?_) (fun H5 z=>?_)
 · obtain ⟨s5,kvs,IV,hk⟩:=z
   obtain ⟨a,ha,rfl⟩:=aJ hy
   obtain ⟨r,dC,uk⟩:=Paired.get p4 ha
   have cj:i < (as.map V.ref).length:=(List.getElem?_eq_some_iff.mp hy).1
   have DO:i < 900:=by rw [Sv] at cj; omega
   obtain ⟨H6,s6,g6,zz⟩:=aH hp (.tup [.int (i:Nat),.ref a])
   rw [zz]; clear zz
   refine ⟨p,_,rfl,aF.of g6,rfl,_,_,rfl,_,_,rfl,rfl,?_⟩
   refine bp (A:=fun H3=>yz _ _ D _ H3 _) ?_
   refine ⟨_,rfl,a,_,rfl,aq.of (s6 _ _ (s5 _ _ uk)),fun tk htk=>⟨_,rfl,_,eC.t (k:=r.map Sum.inl) (kvs:=kvs) ?_ ?_ (aB (by omega)),aA (Pv:=fun i H2=>ai H4 H2/\∃kvs,H2 D=some (.dT kvs)/\kvs.length<=i) (by repeat' constructor) cj ⟨?_,_,ae,by have:=ij kvs (r.map Sum.inl) (.int (i:Nat)); omega⟩⟩⟩
   · rw [aj (ag (s6 _ _ IV) htk)]; exact s6 _ _ IV
   · rw [ae,UQ]; rfl
   · exact az (ao (aa s5 s6) htk) hD
 obtain ⟨s5,kvs,IV,_⟩:=z
 have x5:=s5 _ _ x4
 refine ⟨_,rfl,x,C,dx,f2,rfl,x5,cl,na _ (by decide),by omega,?_⟩
 obtain ⟨f3,e3,l3,_,k3⟩:=eL "numbers" (.ref D) l2
 rw [e3]
 have w3:lk f3 "worths"=some (.ref lw):=by rw [k3 _ (by decide)]; exact w2
 refine fun d1 Js=>?_
 have x6:(upd (upd H5 x (.ins C dx f3)) d1 (.dT [])) x=some (.ins C dx f3):=by rw [aj (ag ae Js)]; exact ae
 refine ⟨_,rfl,x,C,dx,f3,rfl,x6,cl,na _ (by decide),by omega,?_⟩
 obtain ⟨f4,e4,l4,_,k4⟩:=eL "steps" (.ref d1) l3
 rw [e4]
 have w4:lk f4 "worths"=some (.ref lw):=by rw [k4 _ (by decide)]; exact w3
 refine fun d2 hd2=>?_
 have x7:(upd (upd (upd (upd H5 x (.ins C dx f3)) d1 (.dT [])) x (.ins C dx f4)) d2 (.dT [])) x=some (.ins C dx f4):=by rw [aj (ag ae hd2)]; exact ae
 refine ⟨_,rfl,x,C,dx,f4,rfl,x7,cl,na _ (by decide),by omega,?_⟩
 obtain ⟨f5,e5,l5,_,k5⟩:=eL "stays" (.ref d2) l4
 rw [e5]
 have w5:lk f5 "worths"=some (.ref lw):=by rw [k5 _ (by decide)]; exact w4
 have Ku:Kp x H4 (upd (upd (upd (upd (upd H5 x (.ins C dx f3)) d1 (.dT [])) x (.ins C dx f4)) d2 (.dT [])) x (.ins C dx f5)):=((((((Kp.refl H4).same s5).self).new Js).self).new hd2).self
 have nl4:∀{b:Addr} {xs:List V},H4 b=some (.lst xs)->b≠x:=fun e z=>by rw [z,x4] at e; cases e
 exact q _ (MT.trans Ku) ⟨_,ae⟩ ⟨C,dx,f5,lw,as,cl,na _ (by decide),ae,w5,Ku _ _ FH (nl4 FH),Paired.aI p4 fun _ _ z=>Ku _ _ z (nl4 z)⟩
theorem oY:∀{bs:List (Str×Int)} {ws:List Int} {i:Nat} {b:Str×Int} {w:Int},(bs.map (·.1)).Nodup->bs[i]? = some b->ws[i]? = some w->tF bs ws b.1=w
 | [],_,_,_,_,_,h,_=>by simp at h
 | _ :: _,[],_,_,_,_,_,h=>by simp at h
 | c :: bs,v :: ws,0,b,w,_,h,g=>by
   simp at h g
   subst h g
   show (if c.1=c.1 then v else tF bs ws c.1)=v
   rw [if_pos rfl]
 | c :: bs,v :: ws,i + 1,b,w,nd,h,g=>by
   rw [Tz,VQ] at nd
   have h':bs[i]? = some b:=by simpa using h
   show (if c.1=b.1 then v else tF bs ws b.1)=w
   rw [if_neg (fun e:c.1=b.1=>nd.1 (by rw [e]; exact List.mem_map.mpr ⟨b,SF h',rfl⟩))]
   exact oY nd.2 h' (by simpa using g)
theorem made {H H1:Hp}{x dx:Addr}{o:HO}(n1:H x=none)(n2:H dx=none)(k:Kp x (upd (upd H dx (.own x)) x o) H1):ai H H1:=fun b u e=>by
 refine k b u ?_ (ag e n1)
 rw [aj (ag e n1),aj (ag e n2)]
 exact e
abbrev nR (b1 b2:List (Str×Int)):Nat:=(av b1).length * (av b2).length
def wA (W:List (List Int))(i:Nat):List Int:=W.getD i []
theorem gS {W:List (List Int)}{i:Nat}{r:List Int}(h:W[i]? = some r):wA W i=r:=by
 unfold wA
 rw [Ta,h]
 rfl
def bA (b1 b2:List (Str×Int))(r:Nat):Str->Str->Int:=tM b1 (wA (av b1) (r / (av b2).length)) b2 (wA (av b2) (r % (av b2).length))
abbrev qJ (b1 b2:List (Str×Int))(t x:Str):List V:=(S5 (nR b1 b2)).map fun r:Nat=>V.int (bA b1 b2 r t x)
def iz (b1 b2:List (Str×Int))(H:Hp)(kvs:List (List Key×V))(Pc:Str->Str->Prop):Prop:=∀t x,Pc t x->∃col,a8 kvs [.inr t,.inr x]=some (.ref col)/\H col=some (.lst (qJ b1 b2 t x))
theorem iz.put {b1 b2:List (Str×Int)}{H H':Hp}{kvs:List (List Key×V)}{Pc Pd:Str->Str->Prop}{sd y:Str}{l:Addr}(h:iz b1 b2 H kvs Pc)(k:∀b xs,H b=some (.lst xs)->H' b=some (.lst xs))(hl:H' l=some (.lst (qJ b1 b2 sd y)))
   (hP:∀t x,Pd t x->Pc t x\/(t=sd/\x=y)):iz b1 b2 H' (putK kvs [.inr sd,.inr y] (.ref l)) Pd:=fun t x hx=>by
 rw [cy]
 by_cases e:([.inr t,.inr x]:List Key)=[.inr sd,.inr y]
 · rw [if_pos e]
   injection e with e1 e2
   injection e1 with e1
   injection e2 with e2 _
   injection e2 with e2
   subst e1 e2
   exact ⟨l,rfl,hl⟩
 · rw [if_neg e]
   rcases hP t x hx with z | ⟨rfl,rfl⟩
   · obtain ⟨col,h1,h2⟩:=h t x z
     exact ⟨col,h1,k _ _ h2⟩
   · exact absurd rfl e
structure nD (K:Sw)(C:Addr)(H:Hp)(g:Addr)(b1 b2:List (Str×Int)):Prop where
 cl:pd K C
 na:d6 K C ["mine","yours","width","rows","columns"]
 ex:∃(dx:Addr) (fs:List (Str×V)) (m y rl cd:Addr) (kvs:List (List Key×V)),H g=some (.ins C dx fs)/\lk fs "mine"=some (.ref m)/\lk fs "yours"=some (.ref y)/\lk fs "width"=some (.int ((av b2).length:Nat))/\lk fs "rows"=some (.ref rl)/\lk fs "columns"=some (.ref cd) /\
   bu K H m (av b1)/\bu K H y (av b2)/\H rl=some (.lst ((S5 (nR b1 b2)).map fun i:Nat=>V.int i))/\H cd=some (.dT kvs)/\iz b1 b2 H kvs (lU b1 b2)/\∀f,f ∉ (["mine","yours","width","rows","columns"]:List Str)->lk fs f=none
theorem nD.same {K:Sw}{C:Addr}{H H':Hp}{g:Addr}{b1 b2:List (Str×Int)}(h:nD K C H g b1 b2)(s:ai H H'):nD K C H' g b1 b2:=by
 obtain ⟨cl,na,dx,fs,m,y,rl,cd,kvs,h1,h2,h3,h4,h5,h6,h7,h8,h9,IQ,IT,O9⟩:=h
 refine ⟨cl,na,dx,fs,m,y,rl,cd,kvs,s _ _ h1,h2,h3,h4,h5,h6,h7.same s,h8.same s,s _ _ h9,s _ _ IQ,fun t x hx=>?_,O9⟩
 obtain ⟨col,k1,k2⟩:=IT t x hx
 exact ⟨col,k1,s _ _ k2⟩
def wW (K:Sw)(C:Addr):Sp:=fun vs H Q _=>∃(x dx:Addr) (v1 v2:V) (b1 b2:List (Str×Int)),vs=[.ref x,v1,v2]/\H x=some (.ins C dx [])/\dA H v1 b1/\dA H v2 b2/\(b1.map (·.1)).Nodup/\(b2.map (·.1)).Nodup/\iA (b1.map (·.2))/\iA (b2.map (·.2))/\nR b1 b2<=3000 /\
 ∀(H':Hp),Kp x H H'->nD K C H' x b1 b2->Q .non H'
theorem jf:aE ["self","one","other","at","name","size"] ["self","one","other"] (ak lu):=⟨rfl,rfl,rfl,by decide +kernel,rfl,by decide +kernel,by decide +kernel⟩
theorem jV:ba lu "Side":=by decide +kernel
theorem mr:ba lu "len":=by decide +kernel
theorem qT:ba lu "list":=by decide +kernel
theorem nQ:ba lu "range":=by decide +kernel
theorem dI:ba lu "enumerate":=by decide +kernel
theorem B7 {C CS:Addr}{f:Addr}{fd:S9}(F:cL K "__init__" "Ground.__init__" lu f fd)(cs:kG K mg "Ground" C ["mine","yours","width","rows","columns"])(SD:lP P w K mg base "Side" CS ["self","program"] 2 (lH K CS))(m_len:mg "len"=none)(m_list:mg "list"=none)(m_range:mg "range"=none)(m_enumerate:mg "enumerate"=none):aN P w K mg base b6 4 f fd ["self","one","other"] (wW K C):=by
 refine F.ok jf (fun vs H Q E h=>?_) (fun cdv A outer s H vs Q E hr h=>?_)
 · obtain ⟨x,dx,v1,v2,b1,b2,rfl,_⟩:=h
   rfl
 obtain ⟨x,dx,v1,v2,b1,b2,rfl,hx,LZ,L0,nd1,nd2,fw1,fw2,hn,q⟩:=h
 refine fC ⟨_,(WI (Xm (WB 0) (XW SD hr jV (WC (WB 1) WD)))
   (WI (Xm (WB 0) (XW SD hr jV (WC (WB 2) WD)))
   (WI (Xm (WB 0) (W4 Xa mr m_len Te (WC (W9 (W9 (WB 0))) WD)))
   (WI (Xm (WB 0) (L3.yx qT m_list nQ m_range (WC (WJ Xf (W4 Xa mr m_len Te (WC (W9 (W9 (WB 0))) WD)) (W9 (WB 0))) WD)))
   (WI (Xm (WB 0) XI)
   (WI (Xb (L3.iE dI m_enumerate (WC (WG WR (WB 1) WE) WD)) (W7 2 (WW (WN 3 jf.nd) (WW (W7 2 (WW (WN 4 jf.nd) (WW (WN 5 jf.nd) W8))) W8))) (WK (Xz (bq hr _ (by decide)) (W9 (WB 0)) (WT (WC WQ (WC (WB 4) WD))) (Xc [none,some 3,some 0] ["row","at","self"] (show ar _ (ak lu) from ⟨rfl,by decide +kernel,by decide +kernel,by decide +kernel⟩) (by rfl) (W5 (W9 (WB 0))) (fun _ _ _ _ _=>⟨(WN 0 (show (["row","at","self"]:List Str).Nodup from by decide +kernel)),W6,(WG WM (WG WM (W9 (W9 (WB 2))) (WJ Xe (WB 0) (W9 (WB 2)))) (WB 1))⟩)))))
   (WK (Xb (L3.iE dI m_enumerate (WC (WG WR (WB 2) WE) WD)) (W7 2 (WW (WN 3 jf.nd) (WW (W7 2 (WW (WN 4 jf.nd) (WW (WN 5 jf.nd) W8))) W8))) (WK (Xz (bq hr _ (by decide)) (W9 (WB 0)) (WT (WC WQ (WC (WB 4) WD))) (Xc [none,some 3,some 0] ["row","at","self"] (show ar _ (ak lu) from ⟨rfl,by decide +kernel,by decide +kernel,by decide +kernel⟩) (by rfl) (W5 (W9 (WB 0))) (fun _ _ _ _ _=>⟨(WN 0 (show (["row","at","self"]:List Str).Nodup from by decide +kernel)),W6,(WG WM (WG WM (W9 (W9 (WB 2))) (WJ WY (WB 0) (W9 (WB 2)))) (WB 1))⟩)))))))))))),?_⟩
 have cl:=cs.c
 have na:∀f,f∈(["mine","yours","width","rows","columns"]:List Str)->cC K C f:=fun f hf=>cs.na.get hf
 obtain ⟨p1,B1,I1,N1,nB,rfl,hp1,hB1,e8⟩:=id LZ
 obtain ⟨p2,B2,I2,N2,nq,rfl,bF,xn,mV⟩:=id L0
 have nl:∀{b:Addr} {xs:List V},H b=some (.lst xs)->b≠x:=fun e z=>by rw [z,hx] at e; cases e
 have MV:=nl hB1
 have QL:=nl xn
 refine aV fun Rk kR=>?_
 refine ⟨_,rfl,fun sm Q7 m1 m2 m3=>⟨sm,Q7,_,b1,rfl,ae,LZ.same (aa (af m2 _) (af (by rw [aj m3.symm]; exact m1) _)),fw1,fun Ha ka xa sa=>⟨rfl,?_⟩⟩⟩
 have Lq:=made m1 m2 ka
 clear ka xa
 have BR:sm≠x:=fun z=>by rw [z,hx] at m1; cases m1
 have xa:=Lq _ _ hx
 refine ⟨_,rfl,x,C,dx,[],rfl,xa,cl,na _ (by decide),by decide,?_⟩
 obtain ⟨f1,e1,l1,FI,q1⟩:=eL "mine" (.ref sm) (fs:=[]) (Sz 0)
 rw [e1]
 have Hl:Kp x H (upd Ha x (.ins C dx f1)):=((Kp.refl H).same Lq).self
 have x1:(upd Ha x (.ins C dx f1)) x=some (.ins C dx f1):=ae
 have ir:bu K (upd Ha x (.ins C dx f1)) sm (av b1):=sa.keep (Kp.refl Ha).self xa BR
 generalize upd Ha x (.ins C dx f1)=H1 at Hl x1 ir ⊢
 clear Lq xa sa Ha
 refine kR _ _ ?_
 refine aV fun Rk kR=>?_
 refine ⟨_,rfl,fun tE Q8 m4 m5 m6=>⟨tE,Q8,_,b2,rfl,ae,(L0.kp Hl hx).same (aa (af m5 _) (af (by rw [aj m6.symm]; exact m4) _)),fw2,fun Ha ka xa sa=>⟨rfl,?_⟩⟩⟩
 have HJ:=made m4 m5 ka
 clear ka xa
 have Hu:tE≠x:=fun z=>by rw [z,x1] at m4; cases m4
 have xa:=HJ _ _ x1
 refine ⟨_,rfl,x,C,dx,f1,rfl,xa,cl,na _ (by decide),by omega,?_⟩
 obtain ⟨f2,e2,l2,xi,q2⟩:=eL "yours" (.ref tE) l1
 rw [e2]
 have Kr:Kp x H (upd Ha x (.ins C dx f2)):=(Hl.same HJ).self
 have x2:(upd Ha x (.ins C dx f2)) x=some (.ins C dx f2):=ae
 have jC:bu K (upd Ha x (.ins C dx f2)) tE (av b2):=sa.keep (Kp.refl Ha).self xa Hu
 replace ir:bu K (upd Ha x (.ins C dx f2)) sm (av b1):=(ir.same HJ).keep (Kp.refl Ha).self xa BR
 generalize upd Ha x (.ins C dx f2)=H2 at Kr x2 ir jC ⊢
 clear HJ xa sa x1 Hl Ha
 refine kR _ _ ?_
 refine aV fun Rk kR=>?_
 obtain ⟨C2,Eu,EA,xw,pw,c2,n2,u7,vf,oh,jz⟩:=id jC
 have A9:(pw.map V.ref).length=(av b2).length:=by rw [Sv]; exact Paired.length jz
 refine ⟨_,rfl,x,C,dx,f2,_,rfl,x2,cl,na _ (by decide),xi,tE,C2,Eu,EA,_,rfl,u7,c2,n2,vf,xw,_,rfl,.inl (aq.of oh),?_⟩
 rw [A9]
 refine ⟨_,rfl,x,C,dx,f2,rfl,x2,cl,na _ (by decide),by omega,?_⟩
 obtain ⟨f3,e3,l3,xh,q3⟩:=eL "width" (.int ((av b2).length:Nat)) l2
 rw [e3]
 have DW:Kp x H (upd H2 x (.ins C dx f3)):=Kr.self
 have x3:(upd H2 x (.ins C dx f3)) x=some (.ins C dx f3):=ae
 replace ir:bu K (upd H2 x (.ins C dx f3)) sm (av b1):=ir.keep (Kp.refl H2).self x2 BR
 replace jC:bu K (upd H2 x (.ins C dx f3)) tE (av b2):=jC.keep (Kp.refl H2).self x2 Hu
 clear u7 oh jz
 generalize upd H2 x (.ins C dx f3)=H3 at DW x3 ir jC ⊢
 clear Kr x2 H2
 refine kR _ _ ?_
 refine aV fun Rk kR=>?_
 obtain ⟨C3,IA,IM,KS,Iy,c3,n3,u6,BN,uQ,yU⟩:=id ir
 have I9:(Iy.map V.ref).length=(av b1).length:=by rw [Sv]; exact Paired.length yU
 have Aa:lk f3 "mine"=some (.ref sm):=by rw [q3 _ (by decide),q2 _ (by decide)]; exact FI
 refine ⟨_,rfl,x,C,dx,f3,_,rfl,x3,cl,na _ (by decide),Aa,sm,C3,IA,IM,_,rfl,u6,c3,n3,BN,KS,_,rfl,.inl (aq.of uQ),?_⟩
 rw [I9]
 have g1:(av b1).length<=900:=by have:=fw1.gr (b1.map (·.2)).length; rw [SV] at this; exact this
 have g2:(av b2).length<=900:=by have:=fw2.gr (b2.map (·.2)).length; rw [SV] at this; exact this
 refine ⟨_,rfl,x,C,dx,f3,_,rfl,x3,cl,na _ (by decide),xh,_,_,rfl,rfl,.inl ⟨by omega,by omega⟩,nR b1 b2,by show [V.int (((av b1).length:Int) * ((av b2).length:Int))]=_; rw [← Int.natCast_mul],by omega,fun rl yv=>?_⟩
 have s3:=af yv (.lst ((S5 (nR b1 b2)).map fun i:Nat=>V.int i))
 have xa:=s3 _ _ x3
 refine ⟨_,rfl,x,C,dx,f3,rfl,xa,cl,na _ (by decide),by omega,?_⟩
 obtain ⟨f4,e4,l4,Gq,q4⟩:=eL "rows" (.ref rl) l3
 rw [e4]
 have Gp:(upd H3 rl (.lst ((S5 (nR b1 b2)).map fun i:Nat=>V.int i))) rl=some (.lst ((S5 (nR b1 b2)).map fun i:Nat=>V.int i)):=ae
 replace ir:=ir.same s3
 replace jC:=jC.same s3
 replace DW:=DW.same s3
 clear u6 uQ yU
 generalize upd H3 rl (.lst ((S5 (nR b1 b2)).map fun i:Nat=>V.int i))=Ha at s3 xa Gp ir jC DW ⊢
 have Hs:rl≠x:=fun z=>by rw [z,xa] at Gp; cases Gp
 have BH:Kp x H (upd Ha x (.ins C dx f4)):=DW.self
 have x4:(upd Ha x (.ins C dx f4)) x=some (.ins C dx f4):=ae
 have D1:(upd Ha x (.ins C dx f4)) rl=some (.lst ((S5 (nR b1 b2)).map fun i:Nat=>V.int i)):=by rw [aj Hs]; exact Gp
 replace ir:bu K (upd Ha x (.ins C dx f4)) sm (av b1):=ir.keep (Kp.refl Ha).self xa BR
 replace jC:bu K (upd Ha x (.ins C dx f4)) tE (av b2):=jC.keep (Kp.refl Ha).self xa Hu
 generalize upd Ha x (.ins C dx f4)=H4 at BH x4 D1 ir jC ⊢
 clear DW x3 s3 xa Gp Ha
 refine kR _ _ ?_
 refine aV fun Rk kR=>?_
 refine fun cd hcd=>?_
 have N9:H cd=none:=by
   match e:H cd with
   | none=>rfl
   | some o=>
     by_cases z:cd=x
     · rw [z,x4] at hcd; cases hcd
     · rw [BH _ _ e z] at hcd; cases hcd
 have s4:=af hcd (.dT [])
 have xa:=s4 _ _ x4
 refine ⟨_,rfl,x,C,dx,f4,rfl,xa,cl,na _ (by decide),by omega,?_⟩
 obtain ⟨f5,e5,l5,lZ,q5⟩:=eL "columns" (.ref cd) l4
 rw [e5]
 have El:(upd H4 cd (.dT [])) cd=some (.dT []):=ae
 replace ir:=ir.same s4
 replace jC:=jC.same s4
 replace BH:=BH.same s4
 replace D1:=s4 _ _ D1
 generalize upd H4 cd (.dT [])=Ha at s4 xa El ir jC BH D1 ⊢
 have MW:cd≠x:=fun z=>by rw [z,xa] at El; cases El
 have k07:Kp x H (upd Ha x (.ins C dx f5)):=BH.self
 have x7:(upd Ha x (.ins C dx f5)) x=some (.ins C dx f5):=ae
 have wb:(upd Ha x (.ins C dx f5)) rl=some (.lst ((S5 (nR b1 b2)).map fun i:Nat=>V.int i)):=by rw [aj Hs]; exact D1
 have xK:(upd Ha x (.ins C dx f5)) cd=some (.dT []):=by rw [aj MW]; exact El
 replace ir:bu K (upd Ha x (.ins C dx f5)) sm (av b1):=ir.keep (Kp.refl Ha).self xa BR
 replace jC:bu K (upd Ha x (.ins C dx f5)) tE (av b2):=jC.keep (Kp.refl Ha).self xa Hu
 generalize upd Ha x (.ins C dx f5)=H7 at k07 x7 wb xK ir jC ⊢
 clear BH x4 s4 xa El D1 Ha
 have pU:lk f5 "mine"=some (.ref sm):=by rw [q5 _ (by decide),q4 _ (by decide)]; exact Aa
 have lL:lk f5 "yours"=some (.ref tE):=by rw [q5 _ (by decide),q4 _ (by decide),q3 _ (by decide)]; exact xi
 have gN:lk f5 "width"=some (.int ((av b2).length:Nat)):=by rw [q5 _ (by decide),q4 _ (by decide)]; exact xh
 have mY:lk f5 "rows"=some (.ref rl):=by rw [q5 _ (by decide)]; exact Gq
 have BU:x≠cd:=MW.symm
 have nl7:∀{b:Addr} {xs:List V},H7 b=some (.lst xs)->b≠cd:=fun e z=>by rw [z,xK] at e; cases e
 have nt7:∀{b:Addr} {xs:List V},H7 b=some (.tup xs)->b≠cd:=fun e z=>by rw [z,xK] at e; cases e
 have LO:=k07 _ _ hB1 MV
 have GW:=k07 _ _ xn QL
 have Ia:=Paired.length e8
 have Ib:=Paired.length mV
 have IJ:=fw1.len
 have few2:=fw2.len
 rw [Sv] at IJ few2
 refine kR _ _ ?_
 refine aV fun Rk kR=>?_
 refine ⟨_,rfl,p1,_,_,_,rfl,rfl,aF.of (k07.tk hx _ _ hp1),rfl,B1,rfl,⟨_,aq.of (k07 _ _ hB1 MV)⟩,?_⟩
 refine mn (xs:=nB) (fun i σ Hx=>(∃o3 o4 o5,σ=[some (.ref x),some (.ref p1),some (.ref p2),o3,o4,o5])/\Kp cd H7 Hx/\∃kvs,Hx cd=some (.dT kvs)/\kvs.length<=i/\iz b1 b2 Hx kvs (fun t y=>t="mine"/\y∈(b1.take i).map (·.1))) ⟨⟨_,_,_,rfl⟩,Kp.refl _,_,xK,Sz _,(fun t y h=>by obtain ⟨_,h⟩:=h; simp at h)⟩ (fun i σ Hx _ z=>aq.of (z.2.1 _ _ LO (nl7 LO))) (fun i xv p σ Hx FA z hp=>?_) (fun σ Hx z=>?_)
 · obtain ⟨⟨o3,o4,o5,rfl⟩,kx,kvs,hcd,Bk,zJ⟩:=z
   obtain ⟨b,fD,pb,rfl,hC⟩:=Paired.get e8 FA
   have cj:i < nB.length:=(List.getElem?_eq_some_iff.mp FA).1
   have mJ:=k07.tk hx _ _ hC
   have Bu:=kx _ _ (k07.tk hx _ _ hC) (fun z=>by rw [z,xK] at mJ; cases mJ)
   obtain ⟨H6,s6,g6,zz⟩:=aH hp (.tup [.int (i:Nat),.ref pb])
   rw [zz]; clear zz
   refine ⟨p,_,rfl,aF.of g6,rfl,_,_,rfl,_,_,rfl,pb,_,rfl,aF.of (s6 _ _ Bu),rfl,_,_,rfl,_,_,rfl,rfl,rfl,?_⟩
   have k6:Kp cd H7 H6:=kx.same s6
   have x6:=k6 _ _ x7 BU
   refine ⟨_,rfl,x,C,dx,f5,_,rfl,x6,cl,na _ (by decide),mY,rl,rfl,⟨_,aq.of (k6 _ _ wb (nl7 wb))⟩,fun l hl=>?_⟩
   obtain ⟨C1,xP,xS,lw,as,c1,n1,Ki,KN,Fb,vS⟩:=ir
   have BR:sm≠cd:=fun z=>by rw [z,xK] at Ki; cases Ki
   have xp:=Paired.length vS
   refine aL (xs:=(S5 (nR b1 b2)).map fun i:Nat=>V.int i) (fun j Hy=>ai H6 Hy/\Hy l=some (.lst ((qJ b1 b2 "mine" b.1).take j))) ⟨af hl _,by rw [V2]; exact ae⟩ (fun j Hy _ z=>aq.of (z.1 _ _ (k6 _ _ wb (nl7 wb)))) (fun j xv Hy hj z=>?_) (fun Hy z=>?_)
   · obtain ⟨sy,cZ⟩:=z
     obtain ⟨j',yr,rfl⟩:=aJ hj
     have hjn:j < nR b1 b2:=by have:=(List.getElem?_eq_some_iff.mp yr).1; rwa [Tn] at this
     have ej:j'=j:=by rw [T1 hjn] at yr; exact (S6 yr).symm
     subst ej
     have w2:0 < (av b2).length:=Vv fun z=>by unfold nR at hjn; rw [z,Ww] at hjn; exact absurd hjn (Vd _)
     have hix:j' / (av b2).length < (av b1).length:=Nat.div_lt_of_lt_mul (by rw [Wx]; exact hjn)
     obtain ⟨a,ha,kS⟩ : ∃a,as[j' / (av b2).length]? = some a/\eZ (as.map V.ref) ((j' / (av b2).length:Nat):Int)=some (.ref a):=by
       have h1:j' / (av b2).length < as.length:=by rw [xp]; exact hix
       exact ⟨as[j' / (av b2).length],Sx h1,bJ (by rw [S2,Sx h1]; rfl)⟩
     obtain ⟨r,dC,uk⟩:=Paired.get vS ha
     have yv:r.length=b1.length:=by have:=bR _ _ (SF dC); rwa [Sv] at this
     have mG:i < b1.length:=(List.getElem?_eq_some_iff.mp fD).1
     have Fp:r[i]? = some (r[i]'(by omega)):=Sx _
     have val:bA b1 b2 j' "mine" b.1=r[i]'(by omega):=by
       unfold bA
       rw [gS dC]
       show (if _ then _ else _)=_
       rw [if_pos rfl]
       exact oY nd1 fD Fp
     have ky:Kp cd H7 Hy:=k6.same sy
     have xy:=ky _ _ x7 BU
     refine aG ?_
     refine bp (A:=fun H3=>bK _ l _ H3 _) ?_
     refine ⟨_,rfl,x,C,dx,f5,_,rfl,xy,cl,na _ (by decide),pU,sm,C1,xP,xS,_,rfl,ky _ _ Ki BR,c1,n1,KN,_,rfl,_,rfl,x,C,dx,f5,_,rfl,xy,cl,na _ (by decide),gN,_,_,rfl,rfl,⟨by omega,Vw (show ((av b2).length:Int) < 901 by omega) (by decide +kernel)⟩,lw,_,_,_,rfl,rfl,aq.of (ky _ _ Fb (nl7 Fb)),kS,_,rfl,a,_,_,_,rfl,rfl,aq.of (ky _ _ uk (nl7 uk)),bJ (by rw [S2,Fp]; rfl),_,cZ,jh (by rw [SH]; omega),aA (Pv:=fun j Hy=>ai H6 Hy/\Hy l=some (.lst ((qJ b1 b2 "mine" b.1).take j))) (by repeat' constructor) (by rw [Sv,Tn]; exact hjn) ⟨az sy hl,?_⟩⟩
     rw [ae,SQ]
     congr 3
     rw [S2,T1 hjn]
     show [V.int _]=[V.int _]
     rw [val]
   obtain ⟨sy,cZ⟩:=z
   rw [Tf (by rw [Sv,Sv]; exact Sz _)] at cZ
   have ky:Kp cd H7 Hy:=k6.same sy
   refine ⟨_,rfl,x,C,dx,f5,_,rfl,ky _ _ x7 BU,cl,na _ (by decide),lZ,_,rfl,YB,fun kp sP=>?_⟩
   have sk:ai Hy (upd Hy kp (.tup [.str "mine",.str b.1])):=af sP _
   have uI:=sy _ _ (s6 _ _ hcd)
   refine ⟨cd,_,rfl,eC.t (k:=[.inr "mine",.inr b.1]) (kvs:=kvs) (sk _ _ uI) ae (jh (by omega)),⟨_,_,_,rfl⟩,(ky.same sk).self,_,ae,by have:=ij kvs ([.inr "mine",.inr b.1]:List Key) (.ref l); omega,zJ.put (fun c xs e=>?_) ?_ fun t y hy=>?_⟩
   · rw [aj (b8 e hcd (fun z=>nomatch z))]
     exact sk _ _ (sy _ _ (s6 _ _ e))
   · rw [aj (b8 (sk _ _ cZ) (sk _ _ uI) (fun z=>nomatch z))]
     exact sk _ _ cZ
   · rw [SQ,fD,SR] at hy
     obtain ⟨rfl,hy⟩:=hy
     rcases List.mem_append.mp hy with hy | hy
     · exact .inl ⟨rfl,hy⟩
     · exact .inr ⟨rfl,List.mem_singleton.mp hy⟩
 obtain ⟨⟨o3,o4,o5,rfl⟩,kx,kvs,hcd,Bk,zJ⟩:=z
 rw [Ia,SV] at zJ
 refine kR _ _ ?_
 have Dm:iz b1 b2 Hx kvs (fun t y=>(t="mine"/\y∈b1.map (·.1))\/(t="yours"/\y∈(b2.take 0).map (·.1))):=fun t y h=>by
   rcases h with h | ⟨_,h⟩
   · exact zJ t y h
   · simp at h
 refine ⟨_,rfl,p2,_,_,_,rfl,rfl,aF.of (kx _ _ (k07.tk hx _ _ bF) (nt7 (k07.tk hx _ _ bF))),rfl,B2,rfl,⟨_,aq.of (kx _ _ GW (nl7 GW))⟩,?_⟩
 refine mn (xs:=nq) (fun i σ Hx=>(∃o3 o4 o5,σ=[some (.ref x),some (.ref p1),some (.ref p2),o3,o4,o5])/\Kp cd H7 Hx/\∃kvs,Hx cd=some (.dT kvs)/\kvs.length<=nB.length + i/\iz b1 b2 Hx kvs (fun t y=>(t="mine"/\y∈b1.map (·.1))\/(t="yours"/\y∈(b2.take i).map (·.1)))) ⟨⟨_,_,_,rfl⟩,kx,kvs,hcd,Bk,Dm⟩ (fun i σ Hx _ z=>aq.of (z.2.1 _ _ GW (nl7 GW))) (fun i xv p σ Hx FA z hp=>?_) (fun σ Hx z=>?_)
 · obtain ⟨⟨o3,o4,o5,rfl⟩,kx,kvs,hcd,Bk,zJ⟩:=z
   obtain ⟨b,fD,pb,rfl,hC⟩:=Paired.get mV FA
   have cj:i < nq.length:=(List.getElem?_eq_some_iff.mp FA).1
   have mJ:=k07.tk hx _ _ hC
   have Bu:=kx _ _ (k07.tk hx _ _ hC) (fun z=>by rw [z,xK] at mJ; cases mJ)
   obtain ⟨H6,s6,g6,zz⟩:=aH hp (.tup [.int (i:Nat),.ref pb])
   rw [zz]; clear zz
   refine ⟨p,_,rfl,aF.of g6,rfl,_,_,rfl,_,_,rfl,pb,_,rfl,aF.of (s6 _ _ Bu),rfl,_,_,rfl,_,_,rfl,rfl,rfl,?_⟩
   have k6:Kp cd H7 H6:=kx.same s6
   have x6:=k6 _ _ x7 BU
   refine ⟨_,rfl,x,C,dx,f5,_,rfl,x6,cl,na _ (by decide),mY,rl,rfl,⟨_,aq.of (k6 _ _ wb (nl7 wb))⟩,fun l hl=>?_⟩
   obtain ⟨C1,xP,xS,lw,as,c1,n1,BA,KN,Fb,vS⟩:=jC
   have La:tE≠cd:=fun z=>by rw [z,xK] at BA; cases BA
   have xp:=Paired.length vS
   refine aL (xs:=(S5 (nR b1 b2)).map fun i:Nat=>V.int i) (fun j Hy=>ai H6 Hy/\Hy l=some (.lst ((qJ b1 b2 "yours" b.1).take j))) ⟨af hl _,by rw [V2]; exact ae⟩ (fun j Hy _ z=>aq.of (z.1 _ _ (k6 _ _ wb (nl7 wb)))) (fun j xv Hy hj z=>?_) (fun Hy z=>?_)
   · obtain ⟨sy,cZ⟩:=z
     obtain ⟨j',yr,rfl⟩:=aJ hj
     have hjn:j < nR b1 b2:=by have:=(List.getElem?_eq_some_iff.mp yr).1; rwa [Tn] at this
     have ej:j'=j:=by rw [T1 hjn] at yr; exact (S6 yr).symm
     subst ej
     have w2:0 < (av b2).length:=Vv fun z=>by unfold nR at hjn; rw [z,Ww] at hjn; exact absurd hjn (Vd _)
     have hix:j' % (av b2).length < (av b2).length:=Nat.mod_lt _ w2
     obtain ⟨a,ha,kS⟩ : ∃a,as[j' % (av b2).length]? = some a/\eZ (as.map V.ref) ((j' % (av b2).length:Nat):Int)=some (.ref a):=by
       have h1:j' % (av b2).length < as.length:=by rw [xp]; exact hix
       exact ⟨as[j' % (av b2).length],Sx h1,bJ (by rw [S2,Sx h1]; rfl)⟩
     obtain ⟨r,dC,uk⟩:=Paired.get vS ha
     have yv:r.length=b2.length:=by have:=bR _ _ (SF dC); rwa [Sv] at this
     have mG:i < b2.length:=(List.getElem?_eq_some_iff.mp fD).1
     have Fp:r[i]? = some (r[i]'(by omega)):=Sx _
     have val:bA b1 b2 j' "yours" b.1=r[i]'(by omega):=by
       unfold bA
       rw [gS dC]
       show (if _ then _ else _)=_
       rw [if_neg (by decide)]
       exact oY nd2 fD Fp
     have ky:Kp cd H7 Hy:=k6.same sy
     have xy:=ky _ _ x7 BU
     refine aG ?_
     refine bp (A:=fun H3=>bK _ l _ H3 _) ?_
     refine ⟨_,rfl,x,C,dx,f5,_,rfl,xy,cl,na _ (by decide),lL,tE,C1,xP,xS,_,rfl,ky _ _ BA La,c1,n1,KN,_,rfl,_,rfl,x,C,dx,f5,_,rfl,xy,cl,na _ (by decide),gN,_,_,rfl,rfl,(by omega),lw,_,_,_,rfl,rfl,aq.of (ky _ _ Fb (nl7 Fb)),kS,_,rfl,a,_,_,_,rfl,rfl,aq.of (ky _ _ uk (nl7 uk)),bJ (by rw [S2,Fp]; rfl),_,cZ,jh (by rw [SH]; omega),aA (Pv:=fun j Hy=>ai H6 Hy/\Hy l=some (.lst ((qJ b1 b2 "yours" b.1).take j))) (by repeat' constructor) (by rw [Sv,Tn]; exact hjn) ⟨az sy hl,?_⟩⟩
     rw [ae,SQ]
     congr 3
     rw [S2,T1 hjn]
     show [V.int _]=[V.int _]
     rw [val]
   obtain ⟨sy,cZ⟩:=z
   rw [Tf (by rw [Sv,Sv]; exact Sz _)] at cZ
   have ky:Kp cd H7 Hy:=k6.same sy
   refine ⟨_,rfl,x,C,dx,f5,_,rfl,ky _ _ x7 BU,cl,na _ (by decide),lZ,_,rfl,YB,fun kp sP=>?_⟩
   have sk:ai Hy (upd Hy kp (.tup [.str "yours",.str b.1])):=af sP _
   have uI:=sy _ _ (s6 _ _ hcd)
   refine ⟨cd,_,rfl,eC.t (k:=[.inr "yours",.inr b.1]) (kvs:=kvs) (sk _ _ uI) ae (jh (by omega)),⟨_,_,_,rfl⟩,(ky.same sk).self,_,ae,by have:=ij kvs ([.inr "yours",.inr b.1]:List Key) (.ref l); omega,zJ.put (fun c xs e=>?_) ?_ fun t y hy=>?_⟩
   · rw [aj (b8 e hcd (fun z=>nomatch z))]
     exact sk _ _ (sy _ _ (s6 _ _ e))
   · rw [aj (b8 (sk _ _ cZ) (sk _ _ uI) (fun z=>nomatch z))]
     exact sk _ _ cZ
   · rw [SQ,fD,SR] at hy
     rcases hy with hy | ⟨rfl,hy⟩
     · exact .inl (.inl hy)
     · rcases List.mem_append.mp hy with hy | hy
       · exact .inl (.inr ⟨rfl,hy⟩)
       · exact .inr ⟨rfl,List.mem_singleton.mp hy⟩
 obtain ⟨⟨o3,o4,o5,rfl⟩,kz,Kv,Jm,_,Eo⟩:=z
 rw [Ib,SV] at Eo
 obtain ⟨C2,Eu,EA,xw,pw,c2,n2,u7,vf,oh,jz⟩:=id jC
 obtain ⟨C3,IA,IM,KS,Iy,c3,n3,u6,BN,uQ,yU⟩:=id ir
 have ni:∀{b C' d':Addr} {fs:List (Str×V)},H7 b=some (.ins C' d' fs)->b≠cd:=fun e z=>by rw [z,xK] at e; cases e
 refine q _ (fun b o e nb=>kz _ _ (k07 _ _ e nb) fun z=>?_) ⟨cl,cs.na,dx,f5,sm,tE,rl,cd,Kv,kz _ _ x7 BU,pU,lL,gN,mY,lZ,⟨C3,IA,IM,KS,Iy,c3,n3,kz _ _ u6 (ni u6),BN,kz _ _ uQ (nl7 uQ),Paired.aI yU fun _ _ z=>kz _ _ z (nl7 z)⟩,⟨C2,Eu,EA,xw,pw,c2,n2,kz _ _ u7 (ni u7),vf,kz _ _ oh (nl7 oh),Paired.aI jz fun _ _ z=>kz _ _ z (nl7 z)⟩,kz _ _ wb (nl7 wb),Jm,Eo,fun f hf=>?_⟩
 · rw [z,N9] at e; cases e
 · rw [q5 _ (fun z=>hf (by rw [z]; simp)),q4 _ (fun z=>hf (by rw [z]; simp)),q3 _ (fun z=>hf (by rw [z]; simp)),q2 _ (fun z=>hf (by rw [z]; simp)),q1 _ (fun z=>hf (by rw [z]; simp))]
   rfl
abbrev lA:Stmt:=top 14
abbrev lx:Stmt:=top 15
abbrev wC:Stmt:=top 16
def wX (K:Sw)(C:Addr):Sp:=fun vs H Q _=>∃(x:Addr) (j:Nat) (b1 b2:List (Str×Int)),vs=[.ref x,.int (j:Nat)]/\nD K C H x b1 b2/\j < nR b1 b2/\(av b2).length<=900 /\
 ∀(tp m y:Addr) (H':Hp),ai H H'->H tp=none->H m=none->H y=none->H' tp=some (.tup [.ref m,.ref y])->H' m=some (.lst ((wA (av b1) (j / (av b2).length)).map V.int))->H' y=some (.lst ((wA (av b2) (j % (av b2).length)).map V.int))->Q (.ref tp) H'
theorem Gx:aE ["self","row"] ["self","row"] (ak Dh):=⟨rfl,rfl,rfl,by decide +kernel,rfl,by decide +kernel,by decide +kernel⟩
theorem jW:ba Dh "list":=by decide +kernel
theorem B8 {C:Addr}{f:Addr}{fd:S9}(F:cL K "worths_of" "Ground.worths_of" Dh f fd)(m_list:mg "list"=none):aN P w K mg base b6 1 f fd ["self","row"] (wX K C):=by
 refine F.ok Gx (fun vs H Q E h=>?_) (fun cdv A outer s H vs Q E hr h=>?_)
 · obtain ⟨x,j,b1,b2,rfl,_⟩:=h
   rfl
 obtain ⟨x,j,b1,b2,rfl,⟨cl,QM,dx,fs,m0,y0,rl,cd,kvs,hx,pU,lL,gN,_,_,ir,jC,_,_,_,_⟩,hj,hg2,q⟩:=h
 refine fC ⟨_,(WK (WU (WT (WC (Xg Xt jW m_list (by decide +kernel) (WC (WG WM (W9 (W9 (WB 0))) (WJ Xe (WB 1) (W9 (WB 0)))) WD)) (WC (Xg Xt jW m_list (by decide +kernel) (WC (WG WM (W9 (W9 (WB 0))) (WJ WY (WB 1) (W9 (WB 0)))) WD)) WD))))),?_⟩
 have na:∀f,f∈(["mine","yours","width","rows","columns"]:List Str)->cC K C f:=fun f hf=>QM.get hf
 have w2:0 < (av b2).length:=Vv fun z=>by unfold nR at hj; rw [z,Ww] at hj; exact absurd hj (Vd _)
 obtain ⟨C1,xP,xS,BQ,tJ,c1,n1,Bx,KO,JZ,vT⟩:=ir
 have JC:j / (av b2).length < (av b1).length:=Nat.div_lt_of_lt_mul (by rw [Wx]; exact hj)
 have I0:=Paired.length vT
 have ES:j / (av b2).length < tJ.length:=by rw [I0]; exact JC
 have yh:eZ (tJ.map V.ref) ((j / (av b2).length:Nat):Int)=some (.ref tJ[j / (av b2).length]):=bJ (by rw [S2,Sx ES]; rfl)
 obtain ⟨r1,hr1,Ba⟩:=Paired.get vT (Sx ES)
 obtain ⟨C2,Eu,EA,xw,pw,c2,n2,hs2,vf,oh,jz⟩:=jC
 have JD:j % (av b2).length < (av b2).length:=Nat.mod_lt _ w2
 have A9:=Paired.length jz
 have EU:j % (av b2).length < pw.length:=by rw [A9]; exact JD
 have yi:eZ (pw.map V.ref) ((j % (av b2).length:Nat):Int)=some (.ref pw[j % (av b2).length]):=bJ (by rw [S2,Sx EU]; rfl)
 obtain ⟨r2,j6,xV⟩:=Paired.get jz (Sx EU)
 refine ⟨_,rfl,x,C,dx,fs,_,rfl,hx,cl,na _ (by decide),pU,m0,C1,xP,xS,_,rfl,Bx,c1,n1,KO,_,rfl,_,rfl,x,C,dx,fs,_,rfl,hx,cl,na _ (by decide),gN,_,_,rfl,rfl,⟨by omega,Vw (show ((av b2).length:Int) < 901 by omega) (by decide +kernel)⟩,BQ,_,_,_,rfl,rfl,aq.of JZ,yh,_,_,rfl,.inl (aq.of Ba),fun m hm=>?_⟩
 obtain ⟨H1,s1,g1,zz⟩:=aH hm (.lst (r1.map V.int))
 rw [zz]; clear zz
 refine ⟨_,rfl,x,C,dx,fs,_,rfl,s1 _ _ hx,cl,na _ (by decide),lL,y0,C2,Eu,EA,_,rfl,s1 _ _ hs2,c2,n2,vf,_,rfl,_,rfl,x,C,dx,fs,_,rfl,s1 _ _ hx,cl,na _ (by decide),gN,_,_,rfl,rfl,(show (0:Int) < ((av b2).length:Int) by omega),xw,_,_,_,rfl,rfl,aq.of (s1 _ _ oh),yi,_,_,rfl,.inl (aq.of (s1 _ _ xV)),fun y hy=>⟨YB,fun tp sW=>?_⟩⟩
 have s2:ai H1 (upd (upd H1 y (.lst (r2.map V.int))) tp (.tup [.ref m,.ref y])):=ao (af hy _) sW
 rw [gS hr1,gS j6] at q
 exact q tp m y _ (aa s1 s2) (aw s1 (aw (af hy _) sW)) hm (aw s1 hy) ae (s2 _ _ g1) (by rw [aj (ag ae sW)]; exact ae)
abbrev bP (rows:List Nat):List V:=rows.map fun r:Nat=>V.int r
theorem vo (rows:List Nat):bP rows=(rows.map fun r:Nat=>(r:Int)).map V.int:=by rw [UQ]; rfl
def jl:Sp:=fun vs H Q _=>∃(a b:Addr) (rows taken:List Nat),vs=[.ref a,.ref b]/\H a=some (.lst (bP rows))/\H b=some (.lst (bP taken))/\rows.length<=3000/\taken.length<=3000/\∀(l:Addr) (H':Hp),ai H H'->H l=none->H' l=some (.lst (bP (rows.filter fun r=>!taken.contains r)))->Q (.ref l) H'
theorem jS (ns:List Nat)(r:Nat):(ns.map fun r:Nat=>(r:Int)).contains (r:Int)=ns.contains r:=by
 rw [T4,UE,UE]
 constructor
 · intro h
   obtain ⟨x,hx,e⟩:=List.mem_map.mp h
   rw [← Int.ofNat.inj e]
   exact hx
 · exact fun h=>List.mem_map.mpr ⟨r,h,rfl⟩
theorem aS {α:Type}{p:α->Bool}{xs:List α}{i:Nat}{x:α}(h:xs[i]? = some x):(xs.take (i + 1)).filter p=(xs.take i).filter p++(if p x=true then [x] else []):=by
 rw [SQ,h,List.filter_append]
 congr 1
 by_cases c:p x=true
 · rw [if_pos c]; show List.filter p [x]=[x]; rw [U5,if_pos c]; rfl
 · rw [if_neg c]; show List.filter p [x]=[]; rw [U5,if_neg c]; rfl
theorem Ao:aE ["rows","taken","gone"] ["rows","taken"] (ak wC):=⟨rfl,rfl,rfl,by decide +kernel,rfl,by decide +kernel,by decide +kernel⟩
theorem ue:ba wC "set":=by decide +kernel
theorem Ce {f:Addr}{fd:S9}(F:cL K "rows_without" "rows_without" wC f fd)(m_set:mg "set"=none):aN P w K mg base b6 1 f fd ["rows","taken"] jl:=by
 refine F.ok Ao (fun vs H Q E h=>?_) (fun cdv A outer s H vs Q E hr h=>?_)
 · obtain ⟨a,b,rows,taken,rfl,_⟩:=h
   rfl
 obtain ⟨a,b,rows,taken,rfl,ha,hb,RT,RV,q⟩:=h
 refine fC ⟨_,(WI (WS 2 Ao.nd (Xg L3.Ei ue m_set (by decide +kernel) (WC (WB 1) WD)))
   (WK (WU (Xc [none,some 2] ["row","gone"] (show ar _ (ak wC) from ⟨rfl,by decide +kernel,by decide +kernel,by decide +kernel⟩) (by rfl) (W5 (WB 0)) (fun _ _ _ _ _=>⟨(WN 0 (show (["row","gone"]:List Str).Nodup from by decide +kernel)),(XJ (WX L3.vG (WB 0) (WB 1) (by rfl))),(WB 0)⟩))))),?_⟩
 refine ⟨_,rfl,b,_,rfl,(show aq K H b ((taken.map fun r:Nat=>(r:Int)).map V.int) from aq.of (by rw [← vo]; exact hb)),by rw [Sv]; omega,fun z n hz=>?_⟩
 obtain ⟨H1,s1,g1,zz⟩:=aH hz (.set (fun k=>(taken.map fun r:Nat=>(r:Int)).contains k) n)
 rw [zz]; clear zz
 refine ⟨_,rfl,a,rfl,⟨_,aq.of (s1 _ _ ha)⟩,fun l hl=>?_⟩
 refine aL (xs:=bP rows) (fun i Hy=>ai H1 Hy/\Hy l=some (.lst (bP ((rows.take i).filter fun r=>!taken.contains r)))) ⟨af hl _,ae⟩ (fun i Hy _ w=>aq.of (w.1 _ _ (s1 _ _ ha))) (fun i x Hy hx w=>?_) (fun Hy w=>?_)
 · obtain ⟨sy,cZ⟩:=w
   obtain ⟨r,dC,rfl⟩:=aJ hx
   have cj:i < (bP rows).length:=(List.getElem?_eq_some_iff.mp hx).1
   have Mx:((rows.take i).filter fun r=>!taken.contains r).length<=3000:=S3 (Tw _ _) (by rw [SH]; omega)
   refine aG ?_
   refine ⟨_,rfl,_,rfl,_,z,_,n,rfl,rfl,sy _ _ g1,_,rfl,?_⟩
   refine aD (fun c=>?_) (fun c=>?_)
   · have c':(!taken.contains r)=true:=by rw [← jS]; exact c
     refine ⟨_,rfl,_,cZ,jh (by rw [Sv]; omega),aA (Pv:=fun i Hy=>ai H1 Hy/\Hy l=some (.lst (bP ((rows.take i).filter fun r=>!taken.contains r)))) (by repeat' constructor) cj ⟨az sy hl,?_⟩⟩
     rw [ae,aS dC,if_pos c']
     show _=some (HO.lst (List.map _ _))
     rw [SR]
     rfl
   · have c':¬ (!taken.contains r)=true:=by rw [← jS]; exact c
     refine aA (Pv:=fun i Hy=>ai H1 Hy/\Hy l=some (.lst (bP ((rows.take i).filter fun r=>!taken.contains r)))) (by repeat' constructor) cj ⟨sy,?_⟩
     rw [aS dC,if_neg c',Tu]
     exact cZ
 obtain ⟨sy,cZ⟩:=w
 rw [Sv,SV] at cZ
 exact q l Hy (aa s1 sy) (aw s1 hl) cZ
theorem yc (s:Src K mg "rows_without" wC)(m_set:mg "set"=none):aP P w K mg base "rows_without" ["rows","taken"] 1 jl:=
 let ⟨f,fd,F,m⟩:=s
 ⟨f,fd,Ce F m_set,F.kp,eE F fun _ _ _ _ _ _ _ _=>rfl,m⟩
structure lO (K:Sw)(C:Addr)(H:Hp)(g rl:Addr)(b1 b2:List (Str×Int))(rows:List Nat):Prop where
 gr:nD K C H g b1 b2
 hr:H rl=some (.lst (bP rows))
 lt:∀r∈rows,r < nR b1 b2
 few:rows.length<=3000
theorem lO.same {K:Sw}{C:Addr}{H H':Hp}{g rl:Addr}{b1 b2:List (Str×Int)}{rows:List Nat}(h:lO K C H g rl b1 b2 rows)(s:ai H H'):lO K C H' g rl b1 b2 rows:=⟨h.gr.same s,s _ _ h.hr,h.lt,h.few⟩
def fS (K:Sw)(C:Addr)(n:Nat):Sp:=fun vs H Q _=>∃(g rl:Addr) (v:V) (e:E) (rows:List Nat) (b1 b2:List (Str×Int)),vs=[.ref g,.ref rl,v]/\lO K C H g rl b1 b2 rows/\b7 H v e/\e.ow/\e.okIn (lU b1 b2)/\e.dep < n /\
 ∀(l:Addr) (H':Hp),ai H H'->H' l=some (.lst (rows.map fun r:Nat=>V.int (e.worth (bA b1 b2 r))))->Q (.ref l) H'
theorem zo (rows:List Nat)(v:V):(TC rows.length [v]).flatten=rows.map fun _=>v:=by
 induction rows with
 | nil=>rfl
 | cons a r ih=>rw [Th,Ue,UB,ih]; rfl
theorem wN:aE ["ground","rows","sum_told","column","first","second"] ["ground","rows","sum_told"] (ak lA):=⟨rfl,rfl,rfl,by decide +kernel,rfl,by decide +kernel,by decide +kernel⟩
theorem ug:ba lA "len":=by decide +kernel
theorem cX:ba lA "worths_along":=by decide +kernel
theorem mB:ba lA "zip":=by decide +kernel
theorem Cj {C:Addr}{n:Nat}{f:Addr}{fd:S9}(F:cL K "worths_along" "worths_along" lA f fd)(m_len:mg "len"=none)(m_zip:mg "zip"=none)(G:aP P w K mg base "worths_along" ["ground","rows","sum_told"] (n + 1) (fS K C n)):aN P w K mg base b6 (n + 2) f fd ["ground","rows","sum_told"] (fS K C (n + 1)):=by
 refine F.ok wN (fun vs H Q E h=>?_) (fun cdv A outer s H vs Q E hr h=>?_)
 · obtain ⟨g,rl,v,e,rows,b1,b2,rfl,_⟩:=h
   rfl
 obtain ⟨g,rl,v,e,rows,b1,b2,rfl,al,ev,es,ok,hd,q⟩:=h
 refine fC ⟨_,(WI (WZ (WX W3 (WG WR (WB 2) WE) WQ) (WK (WU (WJ L3.FO (W0 (WC (WG WR (WB 2) WE) WD)) (W4 Xa ug m_len Te (WC (WB 1) WD))))) W2)
   (WI (WZ (WX L3.lg (WG WR (WB 2) WE) (WT (WC WQ (WC WQ WD))) (by rfl)) (WI (WS 3 wN.nd (Xs (bq hr _ (by decide)) (W9 (WB 0)) (WB 2)))
   (WK (WU (Xc [none,some 3] ["row","column"] (show ar _ (ak lA) from ⟨rfl,by decide +kernel,by decide +kernel,by decide +kernel⟩) (by rfl) (W5 (WB 1)) (fun _ _ _ _ _=>⟨(WN 0 (show (["row","column"]:List Str).Nodup from by decide +kernel)),W6,(WG WM (WB 1) (WB 0))⟩))))) W2)
   (WI (L3.Cz 4 5 wN.nd (WC (WV G hr cX (WC (WB 0) (WC (WB 1) (WC (WG WR (WB 2) WE) WD)))) (WC (WV G hr cX (WC (WB 0) (WC (WB 1) (WC (WG WR (WB 2) WE) WD)))) WD)))
   (WI (WZ (WX W3 (WG WR (WB 2) WE) WQ) (WK (WU (Xc [none,none] ["x","y"] (show ar _ (ak lA) from ⟨rfl,by decide +kernel,by decide +kernel,by decide +kernel⟩) (by rfl) (L3.iZ mB m_zip (WC (WB 4) (WC (WB 5) WD))) (fun _ _ _ _ _=>⟨(W7 2 (WW (WN 0 (show (["x","y"]:List Str).Nodup from by decide +kernel)) (WW (WN 1 (show (["x","y"]:List Str).Nodup from by decide +kernel)) W8))),W6,(WJ Xd (WB 0) (WB 1))⟩)))) W2)
   (WK (WU (Xc [none,none] ["x","y"] (show ar _ (ak lA) from ⟨rfl,by decide +kernel,by decide +kernel,by decide +kernel⟩) (by rfl) (L3.iZ mB m_zip (WC (WB 4) (WC (WB 5) WD))) (fun _ _ _ _ _=>⟨(W7 2 (WW (WN 0 (show (["x","y"]:List Str).Nodup from by decide +kernel)) (WW (WN 1 (show (["x","y"]:List Str).Nodup from by decide +kernel)) W8))),W6,(WJ Xu (WB 0) (WB 1))⟩)))))))),?_⟩
 cases e with
 | num m=>
   obtain ⟨p,rfl,hp⟩:=ev
   refine ⟨_,rfl,p,_,_,_,rfl,rfl,aF.of hp,rfl,rfl,_,rfl,?_⟩
   refine aD (fun _=>?_) (fun c=>absurd (decide_eq_true rfl) c)
   refine ⟨_,rfl,p,_,_,_,rfl,rfl,aF.of hp,rfl,YA,fun l hl=>?_⟩
   have s1:=af hl (.lst [.int m])
   have g1:(upd H l (.lst [.int m])) l=some (.lst [.int m]):=ae
   generalize upd H l (.lst [.int m])=H1 at s1 g1 ⊢
   have few:=al.few
   refine ⟨_,rfl,rl,_,rfl,.inl (aq.of (s1 _ _ al.hr)),l,((bP rows).length:Int),_,rfl,rfl,g1,by rw [Sv]; omega,by rw [Sv]; omega,?_,fun k hk=>q k _ (aa s1 (af hk _)) ?_⟩
   · rw [Sv]
     exact S3 (show _<=3000 by show 1 * rows.length<=3000; omega) (by decide)
   · rw [ae,Sv,TZ,zo]
     rfl
 | box tg x=>
   obtain ⟨p,rfl,hp⟩:=ev
   have ht:tg="mine"\/tg="yours":=(show lU b1 b2 tg x from ok).imp And.left And.left
   obtain ⟨dx,fs,m0,y0,HI,cd,kvs,hx,_,_,_,_,lZ,_,_,_,hcd,zJ,_⟩:=al.gr.ex
   obtain ⟨col,hv,Jp⟩:=zJ tg x ok
   refine ⟨_,rfl,p,_,_,_,rfl,rfl,aF.of hp,rfl,rfl,_,rfl,?_⟩
   refine aD (fun c=>?_) (fun _=>?_)
   · have:=of_decide_eq_true c
     injection this with z
     subst z
     exact absurd ht (by decide)
   refine ⟨_,rfl,p,_,_,_,rfl,rfl,aF.of hp,rfl,YB,fun tt Fv=>⟨tt,_,rfl,.inr (aF.of ae),rfl,rfl,_,rfl,?_⟩⟩
   have s1:=af Fv (.tup [.str "plus",.str "less"])
   generalize upd H tt (.tup [.str "plus",.str "less"])=H1 at s1 ⊢
   refine aD (fun _=>?_) (fun c=>absurd (by rcases ht with rfl | rfl <;> rfl) c)
   have Kl:=s1 _ _ hx
   have gd:=eB.t (k:=[.inr tg,.inr x]) (s1 _ _ hcd) (s1 _ _ hp)
   rw [hv] at gd
   refine ⟨_,rfl,g,C,dx,fs,_,rfl,Kl,al.gr.cl,al.gr.na.get (by decide),lZ,_,rfl,cd,_,rfl,gd,?_⟩
   refine aG ?_
   refine ⟨_,rfl,rl,rfl,⟨_,aq.of (s1 _ _ al.hr)⟩,fun l hl=>?_⟩
   have few:=al.few
   refine aL (xs:=bP rows) (fun i Hy=>ai H1 Hy/\Hy l=some (.lst ((rows.take i).map fun r:Nat=>V.int (bA b1 b2 r tg x)))) ⟨af hl _,ae⟩ (fun i Hy _ z=>aq.of (z.1 _ _ (s1 _ _ al.hr))) (fun i w Hy hw z=>?_) (fun Hy z=>?_)
   · obtain ⟨sy,cZ⟩:=z
     obtain ⟨r,dC,rfl⟩:=aJ hw
     have cj:i < (bP rows).length:=(List.getElem?_eq_some_iff.mp hw).1
     have gv:=al.lt r (SF dC)
     refine aG ?_
     refine bp (A:=fun H3=>bK _ l _ H3 _) ?_
     refine ⟨_,rfl,_,rfl,col,_,_,_,rfl,rfl,aq.of (sy _ _ (s1 _ _ Jp)),bJ (by rw [S2,T1 gv]; rfl),_,cZ,jh (by rw [Sv,SH]; omega),aA (Pv:=fun i Hy=>ai H1 Hy/\Hy l=some (.lst ((rows.take i).map fun r:Nat=>V.int (bA b1 b2 r tg x)))) (by repeat' constructor) cj ⟨az sy hl,?_⟩⟩
     rw [ae,SQ,dC,SR]
     rfl
   obtain ⟨sy,cZ⟩:=z
   rw [Sv,SV] at cZ
   exact q l Hy (aa s1 sy) cZ
 | yes=>exact es.elim
 | nt a=>exact es.elim
 | two k ea eb=>
   obtain ⟨x,y,⟨p,rfl,hp⟩,ax,ay⟩:=ev
   have rj:max ea.dep eb.dep + 1 < n + 1:=hd
   cases k with
   | plus=>
     refine ⟨_,rfl,p,_,_,_,rfl,rfl,aF.of hp,rfl,rfl,_,rfl,?_⟩
     refine aD (fun c=>absurd (of_decide_eq_true c) (by decide)) (fun _=>?_)
     refine ⟨_,rfl,p,_,_,_,rfl,rfl,aF.of hp,rfl,YB,fun tt Fv=>⟨tt,_,rfl,.inr (aF.of ae),rfl,rfl,_,rfl,?_⟩⟩
     have s1:=af Fv (.tup [.str "plus",.str "less"])
     generalize upd H tt (.tup [.str "plus",.str "less"])=H1 at s1 ⊢
     refine aD (fun c=>absurd c (show ¬ (false=true) by decide)) (fun _=>?_)
     refine ⟨_,rfl,_,rfl,_,rfl,p,_,_,_,rfl,rfl,aF.of (s1 _ _ hp),rfl,g,rl,x,ea,rows,b1,b2,rfl,al.same s1,ax.keep (ai.tk s1),es.1,ok.1,by omega,fun l1 H2 s2 g1=>?_⟩
     have s12:=aa s1 s2
     refine ⟨_,rfl,_,rfl,_,rfl,p,_,_,_,rfl,rfl,aF.of (s12 _ _ hp),rfl,g,rl,y,eb,rows,b1,b2,rfl,al.same s12,ay.keep (ai.tk s12),es.2,ok.2,by omega,fun l2 H3 s3 g2=>⟨_,_,rfl,?_⟩⟩
     refine ⟨_,rfl,p,_,_,_,rfl,rfl,aF.of (s3 _ _ (s12 _ _ hp)),rfl,rfl,_,rfl,?_⟩
     refine aD (fun _=>?_) (fun c=>absurd (decide_eq_true rfl) c)
     refine ⟨_,rfl,_,rfl,l1,l2,rfl,⟨_,aq.of (s3 _ _ g1)⟩,⟨_,aq.of g2⟩,fun l hl=>?_⟩
     refine l6 (xs:=rows.map fun r:Nat=>V.int (ea.worth (bA b1 b2 r))) (ys:=rows.map fun r:Nat=>V.int (eb.worth (bA b1 b2 r))) (by rw [Sv,Sv]) (fun i Hy=>ai H3 Hy/\Hy l=some (.lst ((rows.take i).map fun r:Nat=>V.int (ea.worth (bA b1 b2 r) + eb.worth (bA b1 b2 r))))) ⟨af hl _,ae⟩ (fun i Hy _ z=>⟨aq.of (z.1 _ _ (s3 _ _ g1)),aq.of (z.1 _ _ g2)⟩) (fun i x y pr Hy hx hy z Bv=>?_) (fun Hy z=>?_)
     · obtain ⟨sy,cZ⟩:=z
       obtain ⟨r,dC,rfl⟩:=aJ hx
       obtain ⟨r2,j6,rfl⟩:=aJ hy
       have er:r2=r:=by rw [dC] at j6; exact (S6 j6).symm
       subst er
       have cj:i < (rows.map fun r:Nat=>V.int (ea.worth (bA b1 b2 r))).length:=(List.getElem?_eq_some_iff.mp hx).1
       obtain ⟨Hz,sp,gp,zz⟩:=aH Bv (.tup [.int (ea.worth (bA b1 b2 r2)),.int (eb.worth (bA b1 b2 r2))])
       rw [zz]; clear zz
       refine ⟨pr,_,rfl,aF.of gp,rfl,_,_,rfl,_,_,rfl,rfl,?_⟩
       refine bp (A:=fun H3=>bK _ l _ H3 _) ?_
       have few:=al.few
       refine ⟨_,rfl,_,rfl,_,_,rfl,rfl,_,sp _ _ cZ,jh (by rw [Sv,SH]; omega),aA (Pv:=fun i Hy=>ai H3 Hy/\Hy l=some (.lst ((rows.take i).map fun r:Nat=>V.int (ea.worth (bA b1 b2 r) + eb.worth (bA b1 b2 r))))) (by repeat' constructor) cj ⟨az (aa sy sp) hl,?_⟩⟩
       rw [ae,SQ,dC,SR]
       rfl
     obtain ⟨sy,cZ⟩:=z
     rw [Sv,SV] at cZ
     exact q l Hy (aa s1 (aa s2 (aa s3 sy))) cZ
   | less=>
     refine ⟨_,rfl,p,_,_,_,rfl,rfl,aF.of hp,rfl,rfl,_,rfl,?_⟩
     refine aD (fun c=>absurd (of_decide_eq_true c) (by decide)) (fun _=>?_)
     refine ⟨_,rfl,p,_,_,_,rfl,rfl,aF.of hp,rfl,YB,fun tt Fv=>⟨tt,_,rfl,.inr (aF.of ae),rfl,rfl,_,rfl,?_⟩⟩
     have s1:=af Fv (.tup [.str "plus",.str "less"])
     generalize upd H tt (.tup [.str "plus",.str "less"])=H1 at s1 ⊢
     refine aD (fun c=>absurd c (show ¬ (false=true) by decide)) (fun _=>?_)
     refine ⟨_,rfl,_,rfl,_,rfl,p,_,_,_,rfl,rfl,aF.of (s1 _ _ hp),rfl,g,rl,x,ea,rows,b1,b2,rfl,al.same s1,ax.keep (ai.tk s1),es.1,ok.1,by omega,fun l1 H2 s2 g1=>?_⟩
     have s12:=aa s1 s2
     refine ⟨_,rfl,_,rfl,_,rfl,p,_,_,_,rfl,rfl,aF.of (s12 _ _ hp),rfl,g,rl,y,eb,rows,b1,b2,rfl,al.same s12,ay.keep (ai.tk s12),es.2,ok.2,by omega,fun l2 H3 s3 g2=>⟨_,_,rfl,?_⟩⟩
     refine ⟨_,rfl,p,_,_,_,rfl,rfl,aF.of (s3 _ _ (s12 _ _ hp)),rfl,rfl,_,rfl,?_⟩
     refine aD (fun c=>absurd (of_decide_eq_true c) (by decide)) (fun _=>?_)
     refine ⟨_,rfl,_,rfl,l1,l2,rfl,⟨_,aq.of (s3 _ _ g1)⟩,⟨_,aq.of g2⟩,fun l hl=>?_⟩
     refine l6 (xs:=rows.map fun r:Nat=>V.int (ea.worth (bA b1 b2 r))) (ys:=rows.map fun r:Nat=>V.int (eb.worth (bA b1 b2 r))) (by rw [Sv,Sv]) (fun i Hy=>ai H3 Hy/\Hy l=some (.lst ((rows.take i).map fun r:Nat=>V.int (ea.worth (bA b1 b2 r) - eb.worth (bA b1 b2 r))))) ⟨af hl _,ae⟩ (fun i Hy _ z=>⟨aq.of (z.1 _ _ (s3 _ _ g1)),aq.of (z.1 _ _ g2)⟩) (fun i x y pr Hy hx hy z Bv=>?_) (fun Hy z=>?_)
     · obtain ⟨sy,cZ⟩:=z
       obtain ⟨r,dC,rfl⟩:=aJ hx
       obtain ⟨r2,j6,rfl⟩:=aJ hy
       have er:r2=r:=by rw [dC] at j6; exact (S6 j6).symm
       subst er
       have cj:i < (rows.map fun r:Nat=>V.int (ea.worth (bA b1 b2 r))).length:=(List.getElem?_eq_some_iff.mp hx).1
       obtain ⟨Hz,sp,gp,zz⟩:=aH Bv (.tup [.int (ea.worth (bA b1 b2 r2)),.int (eb.worth (bA b1 b2 r2))])
       rw [zz]; clear zz
       refine ⟨pr,_,rfl,aF.of gp,rfl,_,_,rfl,_,_,rfl,rfl,?_⟩
       refine bp (A:=fun H3=>bK _ l _ H3 _) ?_
       have few:=al.few
       refine ⟨_,rfl,_,rfl,_,_,rfl,rfl,_,sp _ _ cZ,jh (by rw [Sv,SH]; omega),aA (Pv:=fun i Hy=>ai H3 Hy/\Hy l=some (.lst ((rows.take i).map fun r:Nat=>V.int (ea.worth (bA b1 b2 r) - eb.worth (bA b1 b2 r))))) (by repeat' constructor) cj ⟨az (aa sy sp) hl,?_⟩⟩
       rw [ae,SQ,dC,SR]
       rfl
     obtain ⟨sy,cZ⟩:=z
     rw [Sv,SV] at cZ
     exact q l Hy (aa s1 (aa s2 (aa s3 sy))) cZ
   | same=>exact es.elim
   | under=>exact es.elim
   | both=>exact es.elim
theorem vB {C:Addr}{f:Addr}{fd:S9}:aN P w K mg base b6 1 f fd ["ground","rows","sum_told"] (fS K C 0):=by
 have no:∀vs H Q E,¬ fS K C 0 vs H Q E:=fun vs H Q E h=>by
   obtain ⟨_,_,_,_,_,_,_,_,_,_,_,_,h1,_⟩:=h
   omega
 exact ⟨fun vs H Q E h=>absurd h (no vs H Q E),fun A outer s H args us vs Q E _ _ _ _ h=>absurd h (no vs H Q E)⟩
theorem yg {C:Addr}(s:Src K mg "worths_along" lA)(m_len:mg "len"=none)(m_zip:mg "zip"=none):∀n:Nat,aP P w K mg base "worths_along" ["ground","rows","sum_told"] (n + 1) (fS K C n):=by
 obtain ⟨f,fd,F,m⟩:=s
 have b:Binds K fd ["ground","rows","sum_told"] []:=nM F fun _ _ _ _ _ _ _ _ _=>rfl
 intro n
 have all:aN P w K mg base b6 (n + 1) f fd ["ground","rows","sum_told"] (fS K C n):=by
   induction n with
   | zero=>exact vB
   | succ n ih=>exact Cj F m_len m_zip ⟨f,fd,ih,F.kp,b,m⟩
 exact ⟨f,fd,all,F.kp,b,m⟩
abbrev iY (b1 b2:List (Str×Int))(e:E)(r:Nat):Bool:=e.holds (bA b1 b2 r)
def gR (K:Sw)(C:Addr)(n:Nat):Sp:=fun vs H Q _=>∃(g rl:Addr) (v:V) (e:E) (rows:List Nat) (b1 b2:List (Str×Int)),vs=[.ref g,.ref rl,v]/\lO K C H g rl b1 b2 rows/\b7 H v e/\e.js/\e.okIn (lU b1 b2)/\e.dep < n /\
 ∀(l:Addr) (H':Hp),ai H H'->(l=rl\/H l=none)->H' l=some (.lst (bP (rows.filter (iY b1 b2 e))))->Q (.ref l) H'
theorem iM (rows:List Nat)(p:Nat->Bool):(rows.filter fun r=>!(rows.filter p).contains r)=rows.filter fun r=>!p r:=by
 apply UC
 intro r hr
 congr 1
 rw [T4,UE,List.mem_filter]
 exact ⟨fun h=>h.2,fun h=>⟨hr,h⟩⟩
theorem An:aE ["ground","rows","condition","first","second"] ["ground","rows","condition"] (ak lx):=⟨rfl,rfl,rfl,by decide +kernel,rfl,by decide +kernel,by decide +kernel⟩
theorem fA:ba lx "rows_without":=by decide +kernel
theorem cE:ba lx "rows_where":=by decide +kernel
theorem cW:ba lx "worths_along":=by decide +kernel
theorem my:ba lx "zip":=by decide +kernel
theorem Cd {C:Addr}{n:Nat}{f:Addr}{fd:S9}(F:cL K "rows_where" "rows_where" lx f fd)(m_zip:mg "zip"=none)(WL0:∀n,aP P w K mg base "worths_along" ["ground","rows","sum_told"] (n + 1) (fS K C n))(RO0:aP P w K mg base "rows_without" ["rows","taken"] 1 jl)(G:aP P w K mg base "rows_where" ["ground","rows","condition"] (n + 1) (gR K C n)):aN P w K mg base b6 (n + 2) f fd ["ground","rows","condition"] (gR K C (n + 1)):=by
 refine F.ok An (fun vs H Q E h=>?_) (fun cdv A outer s H vs Q E hr h=>?_)
 · obtain ⟨g,rl,v,e,rows,b1,b2,rfl,_⟩:=h
   rfl
 obtain ⟨g,rl,v,e,rows,b1,b2,rfl,al,ev,es,ok,hd,q⟩:=h
 have WL:=(WL0 n).mono (show n + 1<=n + 1 from Sz _)
 have RO:=RO0.mono (show 1<=n + 1 by omega)
 refine fC ⟨_,(WI (WZ (WX W3 (WG WR (WB 2) WE) WQ) (WK (WU (WB 1))) W2)
   (WI (WZ (WX W3 (WG WR (WB 2) WE) WQ) (WK (WU (WV RO hr fA (WC (WB 1) (WC (WV G hr cE (WC (WB 0) (WC (WB 1) (WC (WG WR (WB 2) WE) WD)))) WD))))) W2)
   (WI (WZ (WX W3 (WG WR (WB 2) WE) WQ) (WK (WU (WV G hr cE (WC (WB 0) (WC (WV G hr cE (WC (WB 0) (WC (WB 1) (WC (WG WR (WB 2) WE) WD)))) (WC (WG WR (WB 2) WE) WD)))))) W2)
   (WI (L3.Cz 3 4 An.nd (WC (WV WL hr cW (WC (WB 0) (WC (WB 1) (WC (WG WR (WB 2) WE) WD)))) (WC (WV WL hr cW (WC (WB 0) (WC (WB 1) (WC (WG WR (WB 2) WE) WD)))) WD)))
   (WI (WZ (WX W3 (WG WR (WB 2) WE) WQ) (WK (WU (Xc [none,none,none] ["row","x","y"] (show ar _ (ak lx) from ⟨rfl,by decide +kernel,by decide +kernel,by decide +kernel⟩) (by rfl) (L3.MR my m_zip (WC (WB 1) (WC (WB 3) (WC (WB 4) WD)))) (fun _ _ _ _ _=>⟨(W7 3 (WW (WN 0 (show (["row","x","y"]:List Str).Nodup from by decide +kernel)) (WW (WN 1 (show (["row","x","y"]:List Str).Nodup from by decide +kernel)) (WW (WN 2 (show (["row","x","y"]:List Str).Nodup from by decide +kernel)) W8)))),(XJ (WX W3 (WB 1) (WB 2))),(WB 0)⟩)))) W2)
   (WK (WU (Xc [none,none,none] ["row","x","y"] (show ar _ (ak lx) from ⟨rfl,by decide +kernel,by decide +kernel,by decide +kernel⟩) (by rfl) (L3.MR my m_zip (WC (WB 1) (WC (WB 3) (WC (WB 4) WD)))) (fun _ _ _ _ _=>⟨(W7 3 (WW (WN 0 (show (["row","x","y"]:List Str).Nodup from by decide +kernel)) (WW (WN 1 (show (["row","x","y"]:List Str).Nodup from by decide +kernel)) (WW (WN 2 (show (["row","x","y"]:List Str).Nodup from by decide +kernel)) W8)))),(XJ (WX Xl (WB 1) (WB 2))),(WB 0)⟩))))))))),?_⟩
 cases e with
 | num m=>exact es.elim
 | box tg x=>exact es.elim
 | yes=>
   obtain ⟨p,rfl,hp⟩:=ev
   refine ⟨_,rfl,p,_,_,_,rfl,rfl,aF.of hp,rfl,rfl,_,rfl,?_⟩
   refine aD (fun _=>?_) (fun c=>absurd (decide_eq_true rfl) c)
   refine ⟨_,rfl,q rl H (same_refl H) (.inl rfl) ?_⟩
   have e0:rows.filter (iY b1 b2 .yes)=rows:=List.filter_eq_self.mpr fun _ _=>rfl
   rw [e0]
   exact al.hr
 | nt a=>
   obtain ⟨x,⟨p,rfl,hp⟩,ax⟩:=ev
   have rj:a.dep + 1 < n + 1:=hd
   refine ⟨_,rfl,p,_,_,_,rfl,rfl,aF.of hp,rfl,rfl,_,rfl,?_⟩
   refine aD (fun c=>absurd (of_decide_eq_true c) (by decide)) (fun _=>?_)
   refine ⟨_,rfl,p,_,_,_,rfl,rfl,aF.of hp,rfl,rfl,_,rfl,?_⟩
   refine aD (fun _=>?_) (fun c=>absurd (decide_eq_true rfl) c)
   refine ⟨_,rfl,_,rfl,_,rfl,_,rfl,p,_,_,_,rfl,rfl,aF.of hp,rfl,g,rl,x,a,rows,b1,b2,rfl,al,ax,es,ok,by omega,fun l1 H1 s1 _ g1=>?_⟩
   refine ⟨rl,l1,rows,_,rfl,s1 _ _ al.hr,g1,al.few,S3 (Tw _ _) al.few,fun l H2 s2 n2 g2=>?_⟩
   refine q l H2 (aa s1 s2) (.inr (aw s1 n2)) ?_
   rw [iM] at g2
   exact g2
 | two k ea eb=>
   obtain ⟨x,y,⟨p,rfl,hp⟩,ax,ay⟩:=ev
   have rj:max ea.dep eb.dep + 1 < n + 1:=hd
   cases k with
   | plus=>exact es.elim
   | less=>exact es.elim
   | same=>
     refine ⟨_,rfl,p,_,_,_,rfl,rfl,aF.of hp,rfl,rfl,_,rfl,?_⟩
     refine aD (fun c=>absurd (of_decide_eq_true c) (by decide)) (fun _=>?_)
     refine ⟨_,rfl,p,_,_,_,rfl,rfl,aF.of hp,rfl,rfl,_,rfl,?_⟩
     refine aD (fun c=>absurd (of_decide_eq_true c) (by decide)) (fun _=>?_)
     refine ⟨_,rfl,p,_,_,_,rfl,rfl,aF.of hp,rfl,rfl,_,rfl,?_⟩
     refine aD (fun c=>absurd (of_decide_eq_true c) (by decide)) (fun _=>?_)
     refine ⟨_,rfl,_,rfl,_,rfl,p,_,_,_,rfl,rfl,aF.of hp,rfl,g,rl,x,ea,rows,b1,b2,rfl,al,ax,es.1,ok.1,by omega,fun l1 H1 s1 g1=>?_⟩
     refine ⟨_,rfl,_,rfl,_,rfl,p,_,_,_,rfl,rfl,aF.of (s1 _ _ hp),rfl,g,rl,y,eb,rows,b1,b2,rfl,al.same s1,ay.keep (ai.tk s1),es.2,ok.2,by omega,fun l2 H2 s2 g2=>⟨_,_,rfl,?_⟩⟩
     have s12:=aa s1 s2
     refine ⟨_,rfl,p,_,_,_,rfl,rfl,aF.of (s12 _ _ hp),rfl,rfl,_,rfl,?_⟩
     refine aD (fun _=>?_) (fun c=>absurd (decide_eq_true rfl) c)
     refine ⟨_,rfl,_,rfl,_,rfl,rl,l1,l2,rfl,⟨_,aq.of (s12 _ _ al.hr)⟩,⟨_,aq.of (s2 _ _ g1)⟩,⟨_,aq.of g2⟩,fun l hl=>?_⟩
     have few:=al.few
     refine jR (xs:=bP rows) (ys:=rows.map fun r:Nat=>V.int (ea.worth (bA b1 b2 r))) (zs:=rows.map fun r:Nat=>V.int (eb.worth (bA b1 b2 r))) (by rw [Sv,Sv]) (by rw [Sv,Sv]) (fun i Hy=>ai H2 Hy/\Hy l=some (.lst (bP ((rows.take i).filter (iY b1 b2 (.two .same ea eb)))))) ⟨af hl _,ae⟩ (fun i Hy _ z=>⟨aq.of (z.1 _ _ (s12 _ _ al.hr)),aq.of (z.1 _ _ (s2 _ _ g1)),aq.of (z.1 _ _ g2)⟩) (fun i x y u pr Hy hx hy hu z Bv=>?_) (fun Hy z=>?_)
     · obtain ⟨sy,cZ⟩:=z
       obtain ⟨r,dC,rfl⟩:=aJ hx
       obtain ⟨r2,j6,rfl⟩:=aJ hy
       obtain ⟨r3,Fm,rfl⟩:=aJ hu
       obtain rfl:r2=r:=by rw [dC] at j6; exact (S6 j6).symm
       obtain rfl:r3=r2:=by rw [dC] at Fm; exact (S6 Fm).symm
       have cj:i < (bP rows).length:=(List.getElem?_eq_some_iff.mp hx).1
       obtain ⟨Hz,sp,gp,zz⟩:=aH Bv (.tup [.int (r3:Nat),.int (ea.worth (bA b1 b2 r3)),.int (eb.worth (bA b1 b2 r3))])
       rw [zz]; clear zz
       have Mx:((rows.take i).filter (iY b1 b2 (.two .same ea eb))).length<=3000:=S3 (Tw _ _) (by rw [SH]; omega)
       refine ⟨pr,_,rfl,aF.of gp,rfl,_,_,rfl,_,_,rfl,_,_,rfl,rfl,?_⟩
       refine ⟨_,rfl,_,rfl,rfl,_,rfl,?_⟩
       refine aD (fun c=>?_) (fun c=>?_)
       · have c':iY b1 b2 (.two .same ea eb) r3=true:=decide_eq_true (by have:=of_decide_eq_true c; injection this)
         refine ⟨_,rfl,_,sp _ _ cZ,jh (by rw [Sv]; omega),aA (Pv:=fun i Hy=>ai H2 Hy/\Hy l=some (.lst (bP ((rows.take i).filter (iY b1 b2 (.two .same ea eb)))))) (by repeat' constructor) cj ⟨az (aa sy sp) hl,?_⟩⟩
         rw [ae,aS dC,if_pos c']
         show _=some (HO.lst (List.map _ _))
         rw [SR]
         rfl
       · have c':¬ iY b1 b2 (.two .same ea eb) r3=true:=fun z=>c (decide_eq_true (by rw [of_decide_eq_true z]))
         refine aA (Pv:=fun i Hy=>ai H2 Hy/\Hy l=some (.lst (bP ((rows.take i).filter (iY b1 b2 (.two .same ea eb)))))) (by repeat' constructor) cj ⟨aa sy sp,?_⟩
         rw [aS dC,if_neg c',Tu]
         exact sp _ _ cZ
     obtain ⟨sy,cZ⟩:=z
     rw [Sv,SV] at cZ
     exact q l Hy (aa s12 sy) (.inr (aw s12 hl)) cZ
   | under=>
     refine ⟨_,rfl,p,_,_,_,rfl,rfl,aF.of hp,rfl,rfl,_,rfl,?_⟩
     refine aD (fun c=>absurd (of_decide_eq_true c) (by decide)) (fun _=>?_)
     refine ⟨_,rfl,p,_,_,_,rfl,rfl,aF.of hp,rfl,rfl,_,rfl,?_⟩
     refine aD (fun c=>absurd (of_decide_eq_true c) (by decide)) (fun _=>?_)
     refine ⟨_,rfl,p,_,_,_,rfl,rfl,aF.of hp,rfl,rfl,_,rfl,?_⟩
     refine aD (fun c=>absurd (of_decide_eq_true c) (by decide)) (fun _=>?_)
     refine ⟨_,rfl,_,rfl,_,rfl,p,_,_,_,rfl,rfl,aF.of hp,rfl,g,rl,x,ea,rows,b1,b2,rfl,al,ax,es.1,ok.1,by omega,fun l1 H1 s1 g1=>?_⟩
     refine ⟨_,rfl,_,rfl,_,rfl,p,_,_,_,rfl,rfl,aF.of (s1 _ _ hp),rfl,g,rl,y,eb,rows,b1,b2,rfl,al.same s1,ay.keep (ai.tk s1),es.2,ok.2,by omega,fun l2 H2 s2 g2=>⟨_,_,rfl,?_⟩⟩
     have s12:=aa s1 s2
     refine ⟨_,rfl,p,_,_,_,rfl,rfl,aF.of (s12 _ _ hp),rfl,rfl,_,rfl,?_⟩
     refine aD (fun c=>absurd (of_decide_eq_true c) (by decide)) (fun _=>?_)
     refine ⟨_,rfl,_,rfl,_,rfl,rl,l1,l2,rfl,⟨_,aq.of (s12 _ _ al.hr)⟩,⟨_,aq.of (s2 _ _ g1)⟩,⟨_,aq.of g2⟩,fun l hl=>?_⟩
     have few:=al.few
     refine jR (xs:=bP rows) (ys:=rows.map fun r:Nat=>V.int (ea.worth (bA b1 b2 r))) (zs:=rows.map fun r:Nat=>V.int (eb.worth (bA b1 b2 r))) (by rw [Sv,Sv]) (by rw [Sv,Sv]) (fun i Hy=>ai H2 Hy/\Hy l=some (.lst (bP ((rows.take i).filter (iY b1 b2 (.two .under ea eb)))))) ⟨af hl _,ae⟩ (fun i Hy _ z=>⟨aq.of (z.1 _ _ (s12 _ _ al.hr)),aq.of (z.1 _ _ (s2 _ _ g1)),aq.of (z.1 _ _ g2)⟩) (fun i x y u pr Hy hx hy hu z Bv=>?_) (fun Hy z=>?_)
     · obtain ⟨sy,cZ⟩:=z
       obtain ⟨r,dC,rfl⟩:=aJ hx
       obtain ⟨r2,j6,rfl⟩:=aJ hy
       obtain ⟨r3,Fm,rfl⟩:=aJ hu
       obtain rfl:r2=r:=by rw [dC] at j6; exact (S6 j6).symm
       obtain rfl:r3=r2:=by rw [dC] at Fm; exact (S6 Fm).symm
       have cj:i < (bP rows).length:=(List.getElem?_eq_some_iff.mp hx).1
       obtain ⟨Hz,sp,gp,zz⟩:=aH Bv (.tup [.int (r3:Nat),.int (ea.worth (bA b1 b2 r3)),.int (eb.worth (bA b1 b2 r3))])
       rw [zz]; clear zz
       have Mx:((rows.take i).filter (iY b1 b2 (.two .under ea eb))).length<=3000:=S3 (Tw _ _) (by rw [SH]; omega)
       refine ⟨pr,_,rfl,aF.of gp,rfl,_,_,rfl,_,_,rfl,_,_,rfl,rfl,?_⟩
       refine ⟨_,rfl,_,rfl,_,_,rfl,rfl,_,rfl,?_⟩
       refine aD (fun c=>?_) (fun c=>?_)
       · have c':iY b1 b2 (.two .under ea eb) r3=true:=c
         refine ⟨_,rfl,_,sp _ _ cZ,jh (by rw [Sv]; omega),aA (Pv:=fun i Hy=>ai H2 Hy/\Hy l=some (.lst (bP ((rows.take i).filter (iY b1 b2 (.two .under ea eb)))))) (by repeat' constructor) cj ⟨az (aa sy sp) hl,?_⟩⟩
         rw [ae,aS dC,if_pos c']
         show _=some (HO.lst (List.map _ _))
         rw [SR]
         rfl
       · have c':¬ iY b1 b2 (.two .under ea eb) r3=true:=c
         refine aA (Pv:=fun i Hy=>ai H2 Hy/\Hy l=some (.lst (bP ((rows.take i).filter (iY b1 b2 (.two .under ea eb)))))) (by repeat' constructor) cj ⟨aa sy sp,?_⟩
         rw [aS dC,if_neg c',Tu]
         exact sp _ _ cZ
     obtain ⟨sy,cZ⟩:=z
     rw [Sv,SV] at cZ
     exact q l Hy (aa s12 sy) (.inr (aw s12 hl)) cZ
   | both=>
     refine ⟨_,rfl,p,_,_,_,rfl,rfl,aF.of hp,rfl,rfl,_,rfl,?_⟩
     refine aD (fun c=>absurd (of_decide_eq_true c) (by decide)) (fun _=>?_)
     refine ⟨_,rfl,p,_,_,_,rfl,rfl,aF.of hp,rfl,rfl,_,rfl,?_⟩
     refine aD (fun c=>absurd (of_decide_eq_true c) (by decide)) (fun _=>?_)
     refine ⟨_,rfl,p,_,_,_,rfl,rfl,aF.of hp,rfl,rfl,_,rfl,?_⟩
     refine aD (fun _=>?_) (fun c=>absurd (decide_eq_true rfl) c)
     refine ⟨_,rfl,_,rfl,_,rfl,_,rfl,p,_,_,_,rfl,rfl,aF.of hp,rfl,g,rl,x,ea,rows,b1,b2,rfl,al,ax,es.1,ok.1,by omega,fun l1 H1 s1 n1 g1=>?_⟩
     refine ⟨_,rfl,p,_,_,_,rfl,rfl,aF.of (s1 _ _ hp),rfl,g,l1,y,eb,_,b1,b2,rfl,⟨al.gr.same s1,g1,fun r hr=>al.lt r (List.mem_filter.mp hr).1,S3 (Tw _ _) al.few⟩,ay.keep (ai.tk s1),es.2,ok.2,by omega,fun l H2 s2 n2 g2=>?_⟩
     refine q l H2 (aa s1 s2) (n2.elim (fun z=>z ▸ n1) fun z=>.inr (aw s1 z)) ?_
     rw [Vs] at g2
     rw [g2,show rows.filter (fun a=>iY b1 b2 eb a && iY b1 b2 ea a)=rows.filter (iY b1 b2 (.two .both ea eb)) from UC fun r _=>Bool.and_comm _ _]
theorem vz {C:Addr}{f:Addr}{fd:S9}:aN P w K mg base b6 1 f fd ["ground","rows","condition"] (gR K C 0):=by
 have no:∀vs H Q E,¬ gR K C 0 vs H Q E:=fun vs H Q E h=>by
   obtain ⟨_,_,_,_,_,_,_,_,_,_,_,_,h1,_⟩:=h
   omega
 exact ⟨fun vs H Q E h=>absurd h (no vs H Q E),fun A outer s H args us vs Q E _ _ _ _ h=>absurd h (no vs H Q E)⟩
theorem yb {C:Addr}(s:Src K mg "rows_where" lx)(m_zip:mg "zip"=none)(WL0:∀n,aP P w K mg base "worths_along" ["ground","rows","sum_told"] (n + 1) (fS K C n))(RO0:aP P w K mg base "rows_without" ["rows","taken"] 1 jl):∀n:Nat,aP P w K mg base "rows_where" ["ground","rows","condition"] (n + 1) (gR K C n):=by
 obtain ⟨f,fd,F,m⟩:=s
 have b:Binds K fd ["ground","rows","condition"] []:=nM F fun _ _ _ _ _ _ _ _ _=>rfl
 intro n
 have all:aN P w K mg base b6 (n + 1) f fd ["ground","rows","condition"] (gR K C n):=by
   induction n with
   | zero=>exact vz
   | succ n ih=>exact Cd F m_zip WL0 RO0 ⟨f,fd,ih,F.kp,b,m⟩
 exact ⟨f,fd,all,F.kp,b,m⟩
abbrev wB:Stmt:=top 17
abbrev oP:Stmt:=top 18
structure En where
 p:Int
 q:Int
 c:E
def cB (H:Hp)(v:V)(e:En):Prop:=∃cv wh wt,Tp H v [.int e.p,.int e.q,cv,wh,wt]/\b7 H cv e.c
theorem cB.same {H H':Hp}{v:V}{e:En}(h:cB H v e)(s:ai H H'):cB H' v e:=let ⟨a,b,c,h1,h2⟩:=h; ⟨a,b,c,h1.keep (ai.tk s),h2.keep (ai.tk s)⟩
def jA (e:En)(p q:Int):Bool:=decide (e.p=p/\e.q=q)
def cH (b1 b2:List (Str×Int))(ens:List En)(p q:Int):List Nat:=(S5 (nR b1 b2)).filter fun r=>!(ens.any fun e=>jA e p q && iY b1 b2 e.c r)
def tR (b1 b2:List (Str×Int))(ens:List En)(e:En):List Nat:=(cH b1 b2 ens e.p e.q).filter (iY b1 b2 e.c)
def lX (b1 b2:List (Str×Int)):List En->List En->List (List Nat)
 | _,[]=>[]
 | done,e :: r=>tR b1 b2 done e :: lX b1 b2 (done++[e]) r
theorem fZ (b1 b2:List (Str×Int))(e:En):∀(xs done:List En),lX b1 b2 done (xs++[e])=lX b1 b2 done xs++[tR b1 b2 (done++xs) e]
 | [],done=>by rw [Tu]; rfl
 | x :: xs,done=>by
   show tR b1 b2 done x :: lX b1 b2 (done++[x]) (xs++[e])=_
   rw [fZ b1 b2 e xs,UZ]
   rfl
theorem lY (b1 b2:List (Str×Int)):∀(xs done:List En),(lX b1 b2 done xs).length=xs.length
 | [],_=>rfl
 | x :: xs,done=>by show _ + 1=_ + 1; rw [lY b1 b2 xs]
theorem xR (b1 b2:List (Str×Int))(ens:List En)(e:En):(cH b1 b2 ens e.p e.q).filter (fun r=>!iY b1 b2 e.c r)=cH b1 b2 (ens++[e]) e.p e.q:=by
 unfold cH
 rw [Vs]
 apply UC
 intro r _
 rw [List.any_append]
 have:jA e e.p e.q=true:=decide_eq_true ⟨rfl,rfl⟩
 simp only [Ug,List.any_nil,Bool.or_false,this,U0,Bool.not_or]
 exact Bool.and_comm _ _
theorem ua (b1 b2:List (Str×Int))(ens:List En)(e:En){p q:Int}(h:¬ (e.p=p/\e.q=q)):cH b1 b2 (ens++[e]) p q=cH b1 b2 ens p q:=by
 unfold cH
 apply UC
 intro r _
 rw [List.any_append]
 have:jA e p q=false:=decide_eq_false h
 simp only [Ug,List.any_nil,Bool.or_false,this,V4]
theorem tZ (b1 b2:List (Str×Int))(p q:Int):cH b1 b2 [] p q=S5 (nR b1 b2):=List.filter_eq_self.mpr fun _ _=>rfl
theorem iN (b1 b2:List (Str×Int))(ens:List En)(p q:Int):(cH b1 b2 ens p q).length<=nR b1 b2:=S3 (Tw _ _) (by rw [Tn]; exact Sz _)
theorem pO {b1 b2:List (Str×Int)}{ens:List En}{p q:Int}{r:Nat}(h:r∈cH b1 b2 ens p q):r < nR b1 b2:=List.mem_range.mp (List.mem_filter.mp h).1
def iB (b1 b2:List (Str×Int))(H:Hp)(l:Addr)(kvs:List (List Key×V))(ens:List En):Prop:=∀p q:Int,(a8 kvs [.inl p,.inl q]=none/\cH b1 b2 ens p q=S5 (nR b1 b2))\/∃a,a8 kvs [.inl p,.inl q]=some (.ref a)/\a≠l/\H a=some (.lst (bP (cH b1 b2 ens p q)))
theorem iB.put {b1 b2:List (Str×Int)}{H H':Hp}{l f:Addr}{kvs:List (List Key×V)}{ens:List En}{e:En}(h:iB b1 b2 H l kvs ens)(k:∀a xs,a≠l->H a=some (.lst xs)->H' a=some (.lst xs))(nf:f≠l)(hf:H' f=some (.lst (bP (cH b1 b2 (ens++[e]) e.p e.q)))):iB b1 b2 H' l (putK kvs [.inl e.p,.inl e.q] (.ref f)) (ens++[e]):=fun p q=>by
 rw [cy]
 by_cases c:e.p=p/\e.q=q
 · obtain ⟨rfl,rfl⟩:=c
   rw [if_pos rfl]
   exact .inr ⟨f,rfl,nf,hf⟩
 · rw [if_neg (fun z=>c (by injection z with z1 z2; injection z1 with z1; injection z2 with z2 _; injection z2 with z2; exact ⟨z1.symm,z2.symm⟩)),ua b1 b2 ens e c]
   rcases h p q with z | ⟨a,z1,z2,z3⟩
   · exact .inl z
   · exact .inr ⟨a,z1,z2,k _ _ z2 z3⟩
structure GX (b1 b2:List (Str×Int))(n:Nat)(ens:List En):Prop where
 few:ens.length<=3000
 js:∀e∈ens,e.c.js
 ok:∀e∈ens,e.c.okIn (lU b1 b2)
 dep:∀e∈ens,e.c.dep < n
def qx (K:Sw)(C:Addr)(n:Nat):Sp:=fun vs H Q _=>∃(g pa:Addr) (vps:List V) (ens:List En) (b1 b2:List (Str×Int)),vs=[.ref g,.ref pa]/\nD K C H g b1 b2/\nR b1 b2<=3000/\H pa=some (.lst vps)/\Paired (cB H) vps ens/\GX b1 b2 n ens /\
 ∀(l:Addr) (cs:List Addr) (H':Hp),ai H H'->H' l=some (.lst (cs.map V.ref))->Paired (fun a rows=>H' a=some (.lst (bP rows))) cs (lX b1 b2 [] ens)->Q (.ref l) H'
theorem kr:aE ["ground","paper","free","counted","entry","places","rows","taken"] ["ground","paper"] (ak wB):=⟨rfl,rfl,rfl,by decide +kernel,rfl,by decide +kernel,by decide +kernel⟩
theorem gX:ba wB "rows_where":=by decide +kernel
theorem fz:ba wB "rows_without":=by decide +kernel
theorem Cc {C:Addr}{n:Nat}{f:Addr}{fd:S9}(F:cL K "rows_counted" "rows_counted" wB f fd)(RW0:∀n,aP P w K mg base "rows_where" ["ground","rows","condition"] (n + 1) (gR K C n))(RO0:aP P w K mg base "rows_without" ["rows","taken"] 1 jl):aN P w K mg base b6 (n + 2) f fd ["ground","paper"] (qx K C n):=by
 refine F.ok kr (fun vs H Q E h=>?_) (fun cdv A outer s H vs Q E hr h=>?_)
 · obtain ⟨g,pa,vps,ens,b1,b2,rfl,_⟩:=h
   rfl
 obtain ⟨g,pa,vps,ens,b1,b2,rfl,G,hn,om,pe,rm,q⟩:=h
 have RW:=(RW0 n).mono (show n + 1<=n + 1 from Sz _)
 have RO:=RO0.mono (show 1<=n + 1 by omega)
 refine fC ⟨_,(WI (L3.Cz 2 3 kr.nd (WC XI (WC (W0 WD) WD) yD))
   (WI (Xb (W5 (WB 1)) (WN 4 kr.nd) (WI (WS 5 kr.nd (WT (WC (WG WR (WB 4) WE) (WC (WG WR (WB 4) WE) WD))))
   (WI (WS 6 kr.nd (L3.Es (bq hr _ (by decide)) (WB 2) (WB 5) (W9 (WB 0))))
   (WI (WS 7 kr.nd (WV RW hr gX (WC (WB 0) (WC (WB 6) (WC (WG WR (WB 4) WE) WD)))))
   (WI (Xz (bq hr _ (by decide)) (WB 2) (WB 5) (WV RO hr fz (WC (WB 6) (WC (WB 7) WD))))
   (WK (Xh (Xk (WB 3) (WC (WB 7) WD)))))))))
   (WK (WU (WB 3))))),?_⟩
 refine fun d hd=>⟨Yz,fun l hl=>⟨_,_,rfl,?_⟩⟩
 have Hm:d≠l:=ag ae hl
 have JJ:H l=none:=by rw [aj Hm.symm] at hl; exact hl
 have s0:ai H (upd (upd H d (.dT [])) l (.lst [])):=az (af hd _) JJ
 have Ly:=Paired.length pe
 have few:=rm.few
 obtain ⟨dx,fs,m0,y0,HI,cd,RY,hg,_,_,_,mY,_,_,_,yv,_,_,_⟩:=G.ex
 have Hs:HI≠l:=ag yv JJ
 refine ⟨_,rfl,pa,rfl,⟨_,aq.of (s0 _ _ om)⟩,?_⟩
 refine bj (xs:=vps) (fun i σ Hx=>(∃o4 o5 o6 o7,σ=[some (.ref g),some (.ref pa),some (.ref d),some (.ref l),o4,o5,o6,o7])/\ai H Hx/\∃kvs cs,Hx d=some (.dT kvs)/\kvs.length<=i/\iB b1 b2 Hx l kvs (ens.take i)/\Hx l=some (.lst (cs.map V.ref))/\Paired (fun a rows=>Hx a=some (.lst (bP rows))/\a≠l) cs (lX b1 b2 [] (ens.take i))) ⟨⟨_,_,_,_,rfl⟩,s0,[],[],by rw [aj Hm]; exact ae,Sz _,(fun p q=>.inl ⟨rfl,tZ b1 b2 p q⟩),ae,.nil⟩ (fun i σ Hx _ z=>aq.of (z.2.1 _ _ om)) (fun i x σ Hx hx z=>?_) (fun σ Hx z=>?_)
 · obtain ⟨⟨o4,o5,o6,o7,rfl⟩,sx,kvs,cs,DK,Bk,IK,Fc,oK⟩:=z
   have cj:i < vps.length:=(List.getElem?_eq_some_iff.mp hx).1
   obtain ⟨e,sO,cv,wh,wt,⟨en,rfl,yq⟩,Bf⟩:=Paired.get pe hx
   have DL:=SF sO
   have E2:=sx _ _ yq
   refine aG ?_
   refine aV fun Rk kR=>?_
   refine ⟨_,rfl,en,_,_,_,rfl,rfl,aF.of E2,rfl,_,rfl,en,_,_,_,rfl,rfl,aF.of E2,rfl,YB,fun pl hpl=>?_⟩
   obtain ⟨H1,s1,g1,zz⟩:=aH hpl (.tup [.int e.p,.int e.q])
   rw [zz]; clear zz
   refine aG ?_
   refine kR _ _ ?_
   refine aV fun Rk kR=>?_
   have s01:=aa sx s1
   have dg:=eB.t (k:=[.inl e.p,.inl e.q]) (s1 _ _ DK) g1
   refine ⟨_,rfl,d,rfl,.inr ⟨_,.inl (s1 _ _ DK)⟩,_,rfl,_,rfl,g,C,dx,fs,_,rfl,s01 _ _ hg,G.cl,G.na.get (by decide),mY,_,dg,?_⟩
   obtain ⟨ra,era,QU,Fn⟩ : ∃ra,(a8 kvs [.inl e.p,.inl e.q]).getD (.ref HI)=.ref ra/\ra≠l/\H1 ra=some (.lst (bP (cH b1 b2 (ens.take i) e.p e.q))):=by
     rcases IK e.p e.q with ⟨z1,z2⟩ | ⟨a,z1,z2,z3⟩
     · rw [z1,z2]
       exact ⟨HI,rfl,Hs,s01 _ _ yv⟩
     · rw [z1]
       exact ⟨a,rfl,z2,s1 _ _ z3⟩
   rw [era]
   refine aG ?_
   refine kR _ _ ?_
   refine aV fun Rk kR=>?_
   refine ⟨_,rfl,_,rfl,_,rfl,en,_,_,_,rfl,rfl,aF.of (s01 _ _ yq),rfl,g,ra,cv,e.c,_,b1,b2,rfl,⟨G.same s01,Fn,fun r hr=>pO hr,S3 (iN b1 b2 _ _ _) hn⟩,Bf.keep (ai.tk s01),rm.js e DL,rm.ok e DL,rm.dep e DL,fun tk H2 s2 n2 g2=>?_⟩
   have M7:tk≠l:=n2.elim (fun z=>z ▸ QU) fun z=>(ag (s1 _ _ Fc) z).symm
   refine aG ?_
   refine kR _ _ ?_
   refine aV fun Rk kR=>?_
   have few2:(cH b1 b2 (ens.take i) e.p e.q).length<=3000:=S3 (iN b1 b2 _ _ _) hn
   refine ⟨_,rfl,_,rfl,ra,tk,_,_,rfl,s2 _ _ Fn,g2,few2,S3 (Tw _ _) few2,fun fr H3 s3 n3 g3=>?_⟩
   rw [iM,xR] at g3
   have MZ:fr≠l:=(ag (s2 _ _ (s1 _ _ Fc)) n3).symm
   have s13:ai Hx H3:=aa s1 (aa s2 s3)
   refine ⟨_,rfl,_,rfl,d,_,rfl,eC.t (k:=[.inl e.p,.inl e.q]) (kvs:=kvs) (s13 _ _ DK) (s3 _ _ (s2 _ _ g1)) (jh (by omega)),?_⟩
   refine kR _ _ ?_
   have JK:(upd H3 d (.dT (putK kvs [.inl e.p,.inl e.q] (.ref fr)))) l=some (.lst (cs.map V.ref)):=by rw [aj Hm.symm]; exact s13 _ _ Fc
   have cl:=Paired.length oK
   rw [lY,SH] at cl
   refine ⟨_,rfl,.inl ⟨rfl,_,aq.of JK⟩,_,rfl,l,_,_,rfl,rfl,JK,jh (by rw [Sv]; omega),⟨_,_,_,_,rfl⟩,az (az (aa sx s13) hd) JJ,putK kvs [.inl e.p,.inl e.q] (.ref fr),cs++[tk],by rw [aj Hm]; exact ae,by have:=ij kvs ([.inl e.p,.inl e.q]:List Key) (.ref fr); omega,?_,by rw [ae,SR]; rfl,?_⟩
   · rw [SQ,sO]
     have kk:∀(a:Addr) (xs:List V),a≠l->H3 a=some (.lst xs)->(upd (upd H3 d (.dT (putK kvs [.inl e.p,.inl e.q] (.ref fr)))) l (.lst (cs.map V.ref++[.ref tk]))) a=some (.lst xs):=fun a xs na ha=>by
       rw [aj na,aj (b8 ha (s13 _ _ DK) (fun z=>nomatch z))]
       exact ha
     exact iB.put IK (fun a xs na ha=>kk a xs na (s13 _ _ ha)) MZ (kk _ _ MZ g3)
   · rw [SQ,sO]
     show Paired _ _ (lX b1 b2 [] (ens.take i++[e]))
     rw [fZ,VR]
     have kk:∀(a:Addr) (xs:List V),a≠l->H3 a=some (.lst xs)->(upd (upd H3 d (.dT (putK kvs [.inl e.p,.inl e.q] (.ref fr)))) l (.lst (cs.map V.ref++[.ref tk]))) a=some (.lst xs):=fun a xs na ha=>by
       rw [aj na,aj (b8 ha (s13 _ _ DK) (fun z=>nomatch z))]
       exact ha
     exact Paired.snoc (Paired.aI oK fun a r z=>⟨kk a _ z.2 (s13 _ _ z.1),z.2⟩) ⟨kk tk _ M7 (s3 _ _ g2),M7⟩
 obtain ⟨⟨o4,o5,o6,o7,rfl⟩,sx,kvs,cs,DK,Bk,IK,Fc,oK⟩:=z
 rw [Ly,SV] at oK
 exact ⟨_,rfl,q l cs Hx sx Fc (Paired.aI oK fun _ _ z=>z.1)⟩
theorem x9 {C:Addr}{n:Nat}(s:Src K mg "rows_counted" wB)(RW0:∀n,aP P w K mg base "rows_where" ["ground","rows","condition"] (n + 1) (gR K C n))(RO0:aP P w K mg base "rows_without" ["rows","taken"] 1 jl):aP P w K mg base "rows_counted" ["ground","paper"] (n + 2) (qx K C n):=
 let ⟨f,fd,F,m⟩:=s
 ⟨f,fd,Cc F RW0 RO0,F.kp,eE F fun _ _ _ _ _ _ _ _=>rfl,m⟩
theorem lP.mono {x:Str}{C:Addr}{ps:List Str}{j k:Nat}{sp:Sp}(h:lP P w K mg base x C ps j sp)(hk:j<=k):lP P w K mg base x C ps k sp:=let ⟨f,fd,a,b,c,d⟩:=h; ⟨f,fd,a.mono hk,b,c,d⟩
theorem qB.mono {C:Addr}{m:Str}{ps:List Str}{j k:Nat}{sp:Sp}(h:qB P w K mg base C m ps j sp)(hk:j<=k):qB P w K mg base C m ps k sp:=let ⟨f,fd,a,b,c⟩:=h; ⟨f,fd,a.mono hk,b,c⟩
theorem RB.ints2 {H:Hp}{n:Nat}{a b:Addr}{p q r s:Int}(ha:H a=some (.tup [.int p,.int q]))(hb:H b=some (.tup [.int r,.int s])):RB K H n (.ref a) (.ref b) (decide (p=r/\q=s)):=by
 refine ⟨a,b,_,_,rfl,rfl,.inr (.inr ⟨fun j=>if j=0 then jT (.int p) (.int r) else jT (.int q) (.int s),aF.of ha,aF.of hb,fun j x y hx hy=>?_,?_⟩)⟩
 · match j,hx,hy with
   | 0,hx,hy=>cases hx; cases hy; exact .flat rfl rfl
   | 1,hx,hy=>cases hx; cases hy; exact .flat rfl rfl
 · show _=((jT (.int p) (.int r) && (jT (.int q) (.int s) && true)) && true)
   by_cases c1:p=r
   · by_cases c2:q=s
     · simp [jT,c1,c2]
     · simp [jT,c1,c2]
   · simp [jT,c1]
theorem f7 (xs:List V){k:Nat}(h:k<=xs.length):fe xs none (some (k:Int))=xs.take k:=by
 unfold fe
 have e0:HT.bT xs.length 0 none=0:=rfl
 have e1:HT.bT xs.length xs.length (some (k:Int))=k:=by rw [HT.dq]; omega
 rw [e0,e1,Vk,Nat.sub_zero]
theorem xH {α:Type}(xs:List α)(x:α):eZ (xs++[x]) (-1)=some x:=by
 unfold eZ sY
 rw [if_neg (by decide),if_pos (by rw [Sy]; show -((_ + 1:Nat):Int) <= -1; omega)]
 show (xs++[x])[(-1 + (((xs++[x]).length:Nat):Int)).toNat]? = _
 rw [Sy,show ((-1:Int) + ((xs.length + [x].length:Nat):Int)).toNat=xs.length by show ((-1:Int) + ((xs.length + 1:Nat):Int)).toNat=_; omega]
 rw [Us (Sz _),Wv]
 rfl
def AK (b1 b2:List (Str×Int))(H H':Hp)(l t:Addr)(r:Nat):Prop:=∃m y,H' t=some (.tup [.ref m,.ref y])/\H' m=some (.lst ((wA (av b1) (r / (av b2).length)).map V.int))/\H' y=some (.lst ((wA (av b2) (r % (av b2).length)).map V.int))/\H m=none/\H y=none/\m≠l/\y≠l/\t≠l
def ju (b1 b2:List (Str×Int))(ens:List En)(k:Nat)(e:En):List Nat:=tR b1 b2 ((ens.take k).filter fun e'=>jA e' e.p e.q) e
structure Ed (n:Nat)(H:Hp)(v1 v2:V)(pa:Addr)(b1 b2:List (Str×Int))(ens:List En):Prop where
 p2:∃ins n1 n2,LX H v1 v2 b1 b2 ins n1 n2
 fw1:iA (b1.map (·.2))
 fw2:iA (b2.map (·.2))
 few:nR b1 b2<=3000
 few2:(av b2).length<=900
 pa:∃vps,H pa=some (.lst vps)/\Paired (cB H) vps ens
 el:ens.length<=300
 eo:GX b1 b2 n ens
def wV (n:Nat):Sp:=fun vs H Q _=>∃(v1 v2:V) (pa:Addr) (k:Nat) (e:En) (b1 b2:List (Str×Int)) (ens:List En),vs=[v1,v2,.ref pa,.int (k:Nat)]/\Ed n H v1 v2 pa b1 b2 ens/\ens[k]? = some e /\
 ∀(l:Addr) (ts:List Addr) (H':Hp),ai H H'->H l=none->H' l=some (.lst (ts.map V.ref))->Paired (AK b1 b2 H H' l) ts (ju b1 b2 ens k e)->Q (.ref l) H'
theorem Paired.take {α β:Type}{F:α->β->Prop}:∀{xs:List α} {ys:List β} (k:Nat),Paired F xs ys->Paired F (xs.take k) (ys.take k)
 | _,_,0,_=>.nil
 | _,_,_ + 1,.nil=>.nil
 | _,_,k + 1,.cons r t=>.cons r (Paired.take k t)
theorem m7:aE ["one","other","paper","number","ground","places","ahead","counted"] ["one","other","paper","number"] (ak oP):=⟨rfl,rfl,rfl,by decide +kernel,rfl,by decide +kernel,by decide +kernel⟩
theorem eF:ba oP "refuse_no_pair":=by decide +kernel
theorem mq:ba oP "Ground":=by decide +kernel
theorem fk:ba oP "rows_counted":=by decide +kernel
theorem cB.keep {H H':Hp}{v:V}{e:En}(h:cB H v e)(k:TK H H'):cB H' v e:=let ⟨a,b,c,h1,h2⟩:=h; ⟨a,b,c,h1.keep k,h2.keep k⟩
theorem Paired.xg {α β:Type}{F:α->β->Prop}:∀{ys:List β} {xs:List α} {y:β},Paired F xs (ys++[y])->∃Ii x,xs=Ii++[x]/\Paired F Ii ys/\F x y
 | [],_,_,.cons r .nil=>⟨[],_,rfl,.nil,r⟩
 | _ :: ys,_,_,.cons r t=>by
   obtain ⟨Ii,x,rfl,h1,h2⟩:=Paired.xg (ys:=ys) t
   exact ⟨_ :: Ii,x,rfl,.cons r h1,h2⟩
theorem B5 {C:Addr}{n:Nat}{f:Addr}{fd:S9}(F:cL K "entry_worths" "entry_worths" oP f fd)(cl:pd K C)(NP0:aP P w K mg base "refuse_no_pair" ["one","other"] 2 jk)(GD0:lP P w K mg base "Ground" C ["self","one","other"] 4 (wW K C))(RC0:aP P w K mg base "rows_counted" ["ground","paper"] (n + 2) (qx K C n))(WO0:qB P w K mg base C "worths_of" ["self","row"] 1 (wX K C)):aN P w K mg base b6 (n + 8) f fd ["one","other","paper","number"] (wV n):=by
 refine F.ok m7 (fun vs H Q E h=>?_) (fun cdv A outer s H vs Q E hr h=>?_)
 · obtain ⟨v1,v2,pa,k,e,b1,b2,ens,rfl,_⟩:=h
   rfl
 obtain ⟨v1,v2,pa,k,e,b1,b2,ens,rfl,P3,yo,q⟩:=h
 have NP:=NP0.mono (show 2<=n + 7 by omega)
 have GD:=GD0.mono (show 4<=n + 6 by omega)
 have RC:=RC0.mono (show n + 2<=n + 7 by omega)
 have WO:=WO0.mono (show 1<=n + 7 by omega)
 refine fC ⟨_,(WI (Xh (WV NP hr eF (WC (WB 0) (WC (WB 1) WD))))
   (WI (WS 4 m7.nd (XW GD hr mq (WC (WB 0) (WC (WB 1) WD))))
   (WI (WS 5 m7.nd (WT (WC (WG WR (WG WM (WB 2) (WB 3)) WE) (WC (WG WR (WG WM (WB 2) (WB 3)) WE) WD))))
   (WI (Xr (i:=6) [none,some 5] ["entry","places"] (show ar _ (ak oP) from ⟨rfl,by decide +kernel,by decide +kernel,by decide +kernel⟩) (by rfl) (W5 (Xw (WB 2) (WB 3))) (fun _ _ _ _ _=>⟨(WN 0 (show (["entry","places"]:List Str).Nodup from by decide +kernel)),(XJ (WX (XC (m:=0) (bq hr _ (by decide))) (WT (WC (WG WR (WB 0) WE) (WC (WG WR (WB 0) WE) WD))) (WB 1))),(WB 0)⟩) m7.nd)
   (WI (WS 7 m7.nd (WV RC hr fk (WC (WB 4) (WC (WJ Xi (WB 6) (W0 (WC (WG WM (WB 2) (WB 3)) WD))) WD))))
   (WK (WU (Xc [none,some 4] ["row","ground"] (show ar _ (ak oP) from ⟨rfl,by decide +kernel,by decide +kernel,by decide +kernel⟩) (by rfl) (W5 (WG WM (WB 7) (L3.neg WE))) (fun _ _ _ _ _=>⟨(WN 0 (show (["row","ground"]:List Str).Nodup from by decide +kernel)),W6,(L3.mN (WB 1) cl WO hr (WC (WB 0) WD))⟩))))))))),?_⟩
 obtain ⟨ins,n1,n2,p2⟩:=P3.p2
 obtain ⟨vps,om,pe⟩:=P3.pa
 have few:=P3.el
 have vl:=Paired.length pe
 have hk:k < ens.length:=(List.getElem?_eq_some_iff.mp yo).1
 have sQ:k < vps.length:=by omega
 have Fw:vps[k]? = some vps[k]:=Sx sQ
 have n9:eZ vps ((k:Nat):Int)=some vps[k]:=bJ Fw
 obtain ⟨e0,zT,cv,wh,wt,⟨en,u9,rm⟩,Bf⟩:=Paired.get pe Fw
 obtain rfl:e0=e:=by rw [yo] at zT; exact (S6 zT).symm
 refine aV fun Rk kR=>?_
 refine ⟨_,rfl,_,rfl,v1,v2,b1,b2,ins,n1,n2,rfl,p2,fun H1 s1=>?_⟩
 refine kR _ _ ?_
 refine aV fun Rk kR=>?_
 refine ⟨_,rfl,_,rfl,fun g dx m1 m2 m3=>⟨g,dx,v1,v2,b1,b2,rfl,ae,?_,?_,p2.f1.nd,p2.f2.nd,P3.fw1,P3.fw2,P3.few,fun H2 k2 G=>⟨rfl,?_⟩⟩⟩
 · exact ((p2.p1.same s1).bx).same (aa (af m2 _) (af (by rw [aj m3.symm]; exact m1) _))
 · exact ((p2.p2.same s1).bx).same (aa (af m2 _) (af (by rw [aj m3.symm]; exact m1) _))
 have s2:=aa s1 (made m1 m2 k2)
 refine aG ?_
 refine kR _ _ ?_
 refine aV fun Rk kR=>?_
 refine ⟨_,rfl,_,rfl,pa,_,_,_,rfl,rfl,aq.of (s2 _ _ om),n9,?_⟩
 rw [u9]
 refine ⟨en,_,_,_,rfl,rfl,aF.of (s2 _ _ rm),rfl,_,rfl,_,rfl,pa,_,_,_,rfl,rfl,aq.of (s2 _ _ om),n9,?_⟩
 rw [u9]
 refine ⟨en,_,_,_,rfl,rfl,aF.of (s2 _ _ rm),rfl,YB,fun pl hpl=>?_⟩
 have s3:ai H (upd H2 pl (.tup [.int e0.p,.int e0.q])):=ao s2 hpl
 have Mf:(upd H2 pl (.tup [.int e0.p,.int e0.q])) pl=some (.tup [.int e0.p,.int e0.q]):=ae
 have G3:=G.same (af hpl (.tup [.int e0.p,.int e0.q]))
 generalize upd H2 pl (.tup [.int e0.p,.int e0.q])=LQ at s3 Mf G3 ⊢
 refine aG ?_
 refine kR _ _ ?_
 refine aV fun Rk kR=>?_
 refine ⟨_,rfl,_,rfl,_,rfl,pa,_,rfl,aq.of (s3 _ _ om),fun sl Kh=>?_⟩
 rw [f7 vps (by omega)]
 have s4:=af Kh (.lst (vps.take k))
 have zQ:(upd LQ sl (.lst (vps.take k))) sl=some (.lst (vps.take k)):=ae
 have EL:=s4 _ _ Mf
 replace G3:=G3.same s4
 replace s4:=aa s3 s4
 generalize upd LQ sl (.lst (vps.take k))=H3 at s4 zQ EL G3 ⊢
 refine ⟨sl,rfl,⟨_,aq.of zQ⟩,fun ah DH=>?_⟩
 have DZ:=Paired.take k pe
 refine aL (xs:=vps.take k) (fun i Hy=>ai H3 Hy/\∃va,Hy ah=some (.lst va)/\va.length<=i/\Paired (cB Hy) va (((ens.take k).take i).filter fun e'=>jA e' e0.p e0.q)) ⟨af DH _,[],ae,Sz _,.nil⟩ (fun i Hy _ z=>aq.of (z.1 _ _ zQ)) (fun i x Hy hx z=>?_) (fun Hy z=>?_)
 · obtain ⟨sy,va,sX,gC,qa⟩:=z
   have cj:i < (vps.take k).length:=(List.getElem?_eq_some_iff.mp hx).1
   obtain ⟨ei,sO,IW⟩:=Paired.get DZ hx
   have EO:=IW.same (aa s4 sy)
   obtain ⟨L5,NI,NJ,⟨zM,rfl,yp⟩,Jr⟩:=id EO
   refine aG ?_
   refine ⟨_,rfl,zM,_,_,_,rfl,rfl,aF.of yp,rfl,_,rfl,zM,_,_,_,rfl,rfl,aF.of yp,rfl,YB,fun t2 Ft=>?_⟩
   obtain ⟨Hz,s5,g5,zz⟩:=aH Ft (.tup [.int ei.p,.int ei.q])
   rw [zz]; clear zz
   refine ⟨_,rfl,_,RB.ints2 g5 (s5 _ _ (sy _ _ EL)),_,rfl,?_⟩
   have jZ:(vps.take k).length<=300:=by rw [SH]; omega
   refine aD (fun c=>?_) (fun c=>?_)
   · refine ⟨_,rfl,_,s5 _ _ sX,jh (by omega),aA (Pv:=fun i Hy=>ai H3 Hy/\∃va,Hy ah=some (.lst va)/\va.length<=i/\Paired (cB Hy) va (((ens.take k).take i).filter fun e'=>jA e' e0.p e0.q)) (by repeat' constructor) cj ⟨az (aa sy s5) DH,va++[.ref zM],ae,by rw [Sy]; show _ + 1<=_; omega,?_⟩⟩
     rw [aS sO,if_pos (show jA ei e0.p e0.q=true from c)]
     have kk:TK Hy (upd Hz ah (.lst (va++[.ref zM]))):=fun b xs z=>by rw [aj (b8 (s5 _ _ z) (s5 _ _ sX) (fun z=>nomatch z))]; exact s5 _ _ z
     exact Paired.snoc (Paired.aI qa fun _ _ z=>cB.keep z kk) (cB.keep EO kk)
   · refine aA (Pv:=fun i Hy=>ai H3 Hy/\∃va,Hy ah=some (.lst va)/\va.length<=i/\Paired (cB Hy) va (((ens.take k).take i).filter fun e'=>jA e' e0.p e0.q)) (by repeat' constructor) cj ⟨aa sy s5,va,s5 _ _ sX,by omega,?_⟩
     rw [aS sO,if_neg (show ¬ jA ei e0.p e0.q=true from c),Tu]
     exact Paired.aI qa fun _ _ z=>z.same s5
 obtain ⟨sy,va,sX,gC,qa⟩:=z
 have DF:(vps.take k).length=(ens.take k).length:=Paired.length DZ
 rw [DF,SV] at qa
 have Kk:va.length<=300:=by rw [SH] at DF; rw [SH] at gC; omega
 refine kR _ _ ?_
 refine aV fun Rk kR=>?_
 have s5:=aa s4 sy
 refine ⟨_,rfl,_,rfl,_,rfl,_,rfl,pa,_,_,_,rfl,rfl,aq.of (s5 _ _ om),n9,YA,fun o1 Qd=>?_⟩
 have s6:=af Qd (.lst [vps[k]])
 have g6:(upd Hy o1 (.lst [vps[k]])) o1=some (.lst [vps[k]]):=ae
 generalize upd Hy o1 (.lst [vps[k]])=H6 at s6 g6 ⊢
 refine ⟨ah,o1,_,_,rfl,rfl,s6 _ _ sX,g6,Ra (by show va.length + 1<=9000; omega),fun ca DJ=>?_⟩
 have s7:=aa s6 (af DJ (.lst (va++[vps[k]])))
 have g7:(upd H6 ca (.lst (va++[vps[k]]))) ca=some (.lst (va++[vps[k]])):=ae
 generalize upd H6 ca (.lst (va++[vps[k]]))=H7 at s7 g7 ⊢
 have G7:=G3.same (aa sy s7)
 have sub:∀x∈((ens.take k).filter fun e'=>jA e' e0.p e0.q)++[e0],x∈ens:=fun x hx=>by
   rcases List.mem_append.mp hx with z | z
   · exact T9 (List.mem_filter.mp z).1
   · rw [List.mem_singleton.mp z]; exact SF yo
 refine ⟨g,ca,_,_,b1,b2,rfl,G7,P3.few,g7,Paired.snoc (Paired.aI qa fun _ _ z=>z.same s7) ?_,⟨?_,fun x hx=>P3.eo.js x (sub x hx),fun x hx=>P3.eo.ok x (sub x hx),fun x hx=>P3.eo.dep x (sub x hx)⟩,fun Oa cs H5 s8 OY oK=>?_⟩
 · exact cB.same ⟨cv,wh,wt,⟨en,u9,rm⟩,Bf⟩ (aa s5 s7)
 · have:=Paired.length qa
   rw [Sy]
   show _ + 1<=3000
   omega
 rw [fZ,VR] at oK
 refine aG ?_
 refine kR _ _ ?_
 obtain ⟨Rz,c0,rfl,Q1,Ms⟩:=Paired.xg oK
 have G8:=G7.same s8
 have s9:=aa s5 (aa s7 s8)
 refine ⟨_,rfl,_,rfl,Oa,_,_,_,rfl,rfl,aq.of OY,by rw [SR]; exact xH _ _,c0,rfl,⟨_,aq.of Ms⟩,fun l hl=>?_⟩
 have QJ:=iN b1 b2 ((ens.take k).filter fun e'=>jA e' e0.p e0.q) e0.p e0.q
 have RZ:(ju b1 b2 ens k e0).length<=3000:=S3 (S3 (Tw _ _) QJ) P3.few
 refine aL (xs:=bP (ju b1 b2 ens k e0)) (fun i Hy=>ai H5 Hy/\∃ts,Hy l=some (.lst (ts.map V.ref))/\Paired (AK b1 b2 H5 Hy l) ts ((ju b1 b2 ens k e0).take i)) ⟨af hl _,[],ae,.nil⟩ (fun i Hy _ z=>aq.of (z.1 _ _ Ms)) (fun i x Hy hx z=>?_) (fun Hy z=>?_)
 · obtain ⟨sy,ts,DS,pts⟩:=z
   have cj:i < (bP (ju b1 b2 ens k e0)).length:=(List.getElem?_eq_some_iff.mp hx).1
   obtain ⟨r,dC,rfl⟩:=aJ hx
   have Kd:r < nR b1 b2:=pO (List.mem_filter.mp (SF dC)).1
   obtain ⟨Oh,fs',_,_,_,_,_,PD,_,_,_,_,_,_,_,_,_,_,xu⟩:=(G8.same sy).ex
   have tl:=Paired.length pts
   rw [SH] at tl
   refine aG ?_
   refine bp (A:=fun H3=>bK _ l _ H3 _) ?_
   refine ⟨_,rfl,g,Oh,fs',rfl,PD,xu _ (by decide),_,rfl,g,r,b1,b2,rfl,G8.same sy,Kd,P3.few2,fun tp m y Hq sq n1 n2 n3 q1 q2 q3=>?_⟩
   have nm:m≠l:=(ag DS n2).symm
   have ny:y≠l:=(ag DS n3).symm
   have nt:tp≠l:=(ag DS n1).symm
   refine ⟨_,sq _ _ DS,jh (by rw [Sv]; omega),aA (Pv:=fun i Hy=>ai H5 Hy/\∃ts,Hy l=some (.lst (ts.map V.ref))/\Paired (AK b1 b2 H5 Hy l) ts ((ju b1 b2 ens k e0).take i)) (by repeat' constructor) cj ⟨az (aa sy sq) hl,ts++[tp],by rw [ae,SR]; rfl,?_⟩⟩
   rw [SQ,dC]
   have kk:∀(b:Addr) (o:HO),b≠l->Hq b=some o->(upd Hq l (.lst (ts.map V.ref++[.ref tp]))) b=some o:=fun b o nb z=>by rw [aj nb]; exact z
   refine Paired.snoc (Paired.aI pts fun a r' z=>?_) ⟨m,y,kk _ _ nt q1,kk _ _ nm q2,kk _ _ ny q3,aw sy n2,aw sy n3,nm,ny,nt⟩
   obtain ⟨m',y',z1,z2,z3,z4,z5,z6,z7,z8⟩:=z
   exact ⟨m',y',kk _ _ z8 (sq _ _ z1),kk _ _ z6 (sq _ _ z2),kk _ _ z7 (sq _ _ z3),z4,z5,z6,z7,z8⟩
 obtain ⟨sy,ts,DS,pts⟩:=z
 rw [Sv,SV] at pts
 refine q l ts Hy (aa s9 sy) (aw s9 hl) DS (Paired.aI pts fun a r z=>?_)
 obtain ⟨m',y',z1,z2,z3,z4,z5,z6,z7,z8⟩:=z
 exact ⟨m',y',z1,z2,z3,aw s9 z4,aw s9 z5,z6,z7,z8⟩
abbrev wz:Stmt:=top 40
abbrev wq:Stmt:=top 39
abbrev dW:Stmt:=top 42
abbrev wk:Stmt:=top 32
def D7 (H0 H:Hp)(l:Addr)(rows:List (List Int)):Prop:=H0 l=none/\∃as:List Addr,H l=some (.lst (as.map V.ref))/\Paired (fun a r=>dF H a r/\H0 a=none) as rows
def qv:Sp:=fun vs H Q _=>∃(sa:Addr) (szs:List Int),vs=[.ref sa]/\H sa=some (.lst (szs.map V.int))/\iA szs/\∀(l:Addr) (H':Hp),ai H H'->D7 H H' l (bN szs)->Q (.ref l) H'
theorem Paired.app {α β:Type}{R:α->β->Prop}{a c:List α}{b d:List β}(h:Paired R a b)(k:Paired R c d):Paired R (a++c) (b++d):=by
 induction h with
 | nil=>exact k
 | cons r t ih=>exact .cons r ih
theorem kq:aE ["sizes","found","size","longer","row"] ["sizes"] (ak wz):=⟨rfl,rfl,rfl,by decide +kernel,rfl,by decide +kernel,by decide +kernel⟩
theorem nT:ba wz "range":=by decide +kernel
theorem Ca {f:Addr}{fd:S9}(F:cL K "_law_worths" "_law_worths" wz f fd)(m_range:mg "range"=none):aN P w K mg base b6 1 f fd ["sizes"] qv:=by
 refine F.ok kq (fun vs H Q E h=>?_) (fun cdv A outer s H vs Q E hr h=>?_)
 · obtain ⟨sa,szs,rfl,_⟩:=h
   rfl
 obtain ⟨sa,szs,rfl,u5,fw,q⟩:=h
 refine fC ⟨_,(WI (WS 1 kq.nd (W0 (WC (W0 WD) WD)))
   (WI (Xb (W5 (WB 0)) (WN 2 kq.nd) (WI (WS 3 kq.nd (W0 WD))
   (WI (Xb (W5 (WB 1)) (WN 4 kq.nd) (WK (Xh (L3.extend (WB 3) (WC (Xc [none,some 4] ["worth","row"] (show ar _ (ak wz) from ⟨rfl,by decide +kernel,by decide +kernel,by decide +kernel⟩) (by rfl) (Xj nT m_range (WC (WB 2) WD)) (fun _ _ _ _ _=>⟨(WN 0 (show (["worth","row"]:List Str).Nodup from by decide +kernel)),W6,(WJ Xi (WB 1) (W0 (WC (WB 0) WD)))⟩)) WD)))))
   (WK (WS 1 kq.nd (WB 3))))))
   (WK (WU (WB 1))))),?_⟩
 refine ⟨Yz,fun e0 zT=>?_⟩
 obtain ⟨H1,s1,g1,zz⟩:=aH zT (.lst [])
 rw [zz]; clear zz
 refine ⟨YA,fun f0 Mw=>?_⟩
 obtain ⟨Hf,s2,g2,zz⟩:=aH Mw (.lst [.ref e0])
 rw [zz]; clear zz
 have s02:=aa s1 s2
 refine ⟨_,rfl,sa,rfl,⟨_,aq.of (s02 _ _ u5)⟩,?_⟩
 refine bj (xs:=szs.map V.int) (fun i σ H2=>∃(fa:Addr) (as:List Addr) (sv lv rv:Option V),σ=[some (.ref sa),some (.ref fa),sv,lv,rv]/\ai H H2/\H fa=none/\H2 fa=some (.lst (as.map V.ref))/\Paired (fun a r=>dF H2 a r/\H a=none) as (bN (szs.take i))) ⟨f0,[e0],_,_,_,rfl,s02,aw s1 Mw,g2,.cons ⟨s2 _ _ g1,zT⟩ .nil⟩ (fun i σ H2 _ z=>?_) (fun i x σ H2 hx z=>?_) (fun σ H2 z=>?_)
 · obtain ⟨fa,as,sv,lv,rv,rfl,s2,_⟩:=z
   exact aq.of (s2 _ _ u5)
 · obtain ⟨fa,as,sv,lv,rv,rfl,s2,_,hfa,vS⟩:=z
   obtain ⟨s0,Bw,rfl⟩:=aJ hx
   obtain ⟨z0,z9⟩:=fw.sz s0 (SF Bw)
   have hi:i < szs.length:=(List.getElem?_eq_some_iff.mp Bw).1
   have mH:bN (szs.take (i + 1))=(bN (szs.take i)).flatMap (ext s0.toNat):=by
     rw [SQ,Bw]
     exact gq _ _
   have Fu:(bN (szs.take i)).length * s0.toNat<=900:=by
     have:=fw.gr (i + 1)
     rw [mH,fH] at this
     exact this
   have xp:=Paired.length vS
   refine aG ?_
   refine ⟨Yz,fun lo E9=>?_⟩
   have Jw:=af E9 (.lst []) _ _ hfa
   refine ⟨_,rfl,fa,rfl,⟨_,aq.of Jw⟩,?_⟩
   refine bj (xs:=as.map V.ref) (fun j σ H3=>(∃rv,σ=[some (.ref sa),some (.ref fa),some (.int s0),some (.ref lo),rv])/\ai H2 H3/\∃bs:List Addr,H3 lo=some (.lst (bs.map V.ref))/\Paired (fun a r=>dF H3 a r/\a≠lo/\H a=none) bs (((bN (szs.take i)).take j).flatMap (ext s0.toNat))) ⟨⟨_,rfl⟩,af E9 _,[],ae,.nil⟩ (fun j σ H3 _ z=>aq.of (z.2.1 _ _ hfa)) (fun j x σ H3 hx z=>?_) (fun σ H3 z=>?_)
   · obtain ⟨⟨rv,rfl⟩,s3,bs,uO,F5⟩:=z
     obtain ⟨ra,Fn,rfl⟩:=aJ hx
     have hj:j < as.length:=(List.getElem?_eq_some_iff.mp Fn).1
     obtain ⟨r,dC,uk,_⟩:=Paired.get vS Fn
     have Kc:=s3 _ _ uk
     have yv:r.length<=900:=by
       have:=bR _ _ (SF dC)
       rw [SH] at this
       have:=fw.len
       omega
     have bl:=Paired.length F5
     rw [fH,SH,UA (by omega)] at bl
     have Bi:(j + 1) * s0.toNat<=900:=S3 (Vj _ (show j + 1<=(bN (szs.take i)).length by omega)) Fu
     rw [UG] at Bi
     refine aG ?_
     refine ⟨_,rfl,.inl ⟨rfl,_,aq.of uO⟩,_,rfl,s0,rfl,by omega,by omega,fun ca DJ=>?_⟩
     refine cg (lo:=0) (n:=s0.toNat) (fun n H4=>ai H3 H4/\∃cs:List Addr,H4 ca=some (.lst (cs.map V.ref))/\Paired (fun a r'=>dF H4 a r'/\a≠lo/\a≠ca/\H a=none) cs ((ext s0.toNat r).take n)) ⟨af DJ _,[],ae,.nil⟩ (fun n H4 hn z=>?_) (fun H4 z=>?_)
     · obtain ⟨s4,cs,yn,oK⟩:=z
       have cl:=Paired.length oK
       rw [SH] at cl
       refine aG ?_
       refine bp (A:=fun H5=>bK _ ca _ H5 _) ?_
       refine ⟨_,rfl,_,rfl,YA,fun l1 uN=>?_⟩
       obtain ⟨H5,s5,g5,zz⟩:=aH uN (.lst [.int (0 + (n:Int))])
       rw [zz]; clear zz
       refine ⟨ra,l1,_,_,rfl,rfl,s5 _ _ (s4 _ _ Kc),g5,small (by rw [Sv]; show r.length + 1<=1000; omega),fun l2 jZ=>?_⟩
       have ew:r.map V.int++[V.int (0 + (n:Int))]=(r++[(n:Int)]).map V.int:=by rw [SR,Ve]; rfl
       rw [ew]
       obtain ⟨H6,s6,g6,zz⟩:=aH jZ (.lst ((r++[(n:Int)]).map V.int))
       rw [zz]; clear zz
       have s46:=aa s5 s6
       have Jk:=s46 _ _ yn
       have n1:l2≠ca:=(ag (s5 _ _ yn) jZ).symm
       have n2:l2≠lo:=(ag (s5 _ _ (s4 _ _ uO)) jZ).symm
       refine ⟨_,Jk,aB (by rw [Sv]; omega),aA (Pv:=fun n H4=>ai H3 H4/\∃cs:List Addr,H4 ca=some (.lst (cs.map V.ref))/\Paired (fun a r'=>dF H4 a r'/\a≠lo/\a≠ca/\H a=none) cs ((ext s0.toNat r).take n)) (by repeat' constructor) hn ⟨az (aa s4 s46) DJ,cs++[l2],by rw [ae,SR]; rfl,?_⟩⟩
       have er:(ext s0.toNat r).take (n + 1)=(ext s0.toNat r).take n++[r++[(n:Int)]]:=by
         rw [SQ]
         congr 1
         unfold ext
         rw [S2,T1 hn]
         rfl
       rw [er]
       have kk:∀(a:Addr) (rr:List Int),a≠ca->dF H6 a rr->dF (upd H6 ca (.lst (cs.map V.ref++[.ref l2]))) a rr:=fun a rr na z=>by show upd H6 ca _ a=_; rw [aj na]; exact z
       exact Paired.snoc (Paired.aI oK fun a rr z=>⟨kk a rr z.2.2.1 (s46 _ _ z.1),z.2⟩) ⟨kk _ _ n1 g6,n2,n1,aw (aa s2 (aa s3 (aa s4 s5))) jZ⟩
     · obtain ⟨s4,cs,yn,oK⟩:=z
       have JY:=s4 _ _ uO
       have e1:(ext s0.toNat r).take s0.toNat=ext s0.toNat r:=Tf (by unfold ext; rw [Sv,Tn]; exact Sz _)
       rw [e1] at oK
       have cl:=Paired.length oK
       have el:(ext s0.toNat r).length=s0.toNat:=by unfold ext; rw [Sv,Tn]
       refine ⟨lo,ca,_,_,rfl,rfl,JY,yn,small (by rw [Sv,Sv]; omega),⟨_,rfl⟩,az (aa s3 s4) E9,bs++cs,by rw [ae,SR],?_⟩
       rw [SQ,dC,Vn]
       show Paired _ _ (_++[r].flatMap (ext s0.toNat))
       rw [Uq,U4,Tu]
       have kk:∀(a:Addr) (rr:List Int),a≠lo->dF H4 a rr->dF (upd H4 lo (.lst (bs.map V.ref++cs.map V.ref))) a rr:=fun a rr na z=>by show upd H4 lo _ a=_; rw [aj na]; exact z
       exact Paired.app (Paired.aI F5 fun a rr z=>⟨kk a rr z.2.1 (s4 _ _ z.1),z.2⟩) (Paired.aI oK fun a rr z=>⟨kk a rr z.2.1 z.1,z.2.1,z.2.2.2⟩)
   · obtain ⟨⟨rv,rfl⟩,s3,bs,uO,F5⟩:=z
     rw [Sv,xp,SV,← mH] at F5
     exact ⟨_,rfl,lo,bs,_,_,_,rfl,aa s2 s3,aw s2 E9,uO,Paired.aI F5 fun _ _ z=>⟨z.1,z.2.2⟩⟩
 obtain ⟨fa,as,sv,lv,rv,rfl,s2,QO,hfa,vS⟩:=z
 rw [Sv,SV] at vS
 exact ⟨_,rfl,q fa H2 s2 ⟨QO,as,hfa,vS⟩⟩
theorem x8 (s:Src K mg "_law_worths" wz)(m_range:mg "range"=none):aP P w K mg base "_law_worths" ["sizes"] 1 qv:=
 let ⟨f,fd,F,m⟩:=s
 ⟨f,fd,Ca F m_range,F.kp,lT F fun _ _ _ _ _ _ _=>rfl,m⟩
def lV (sd:Str)(bs:List (Str×Int)):List E:=bs.map fun b=>.box sd b.1
def qp:Sp:=fun vs H Q _=>∃(v1 v2:V) (b1 b2:List (Str×Int)),vs=[v1,v2]/\dA H v1 b1/\dA H v2 b2/\b1.length<=100/\b2.length<=100 /\
 ∀(l:Addr) (vl:List V) (H':Hp),ai H H'->H' l=some (.lst vl)->Paired (b7 H') vl (lV "mine" b1++lV "yours" b2)->Q (.ref l) H'
theorem Am:aE ["one","other","mine"] ["one","other"] (ak wq):=⟨rfl,rfl,rfl,by decide +kernel,rfl,by decide +kernel,by decide +kernel⟩
theorem BZ {f:Addr}{fd:S9}(F:cL K "_law_boxes_of" "_law_boxes_of" wq f fd)  : aN P w K mg base b6 1 f fd ["one","other"] qp:=by
 refine F.ok Am (fun vs H Q E h=>?_) (fun cdv A outer s H vs Q E hr h=>?_)
 · obtain ⟨v1,v2,b1,b2,rfl,_⟩:=h
   rfl
 obtain ⟨v1,v2,b1,b2,rfl,⟨p1,B1,I1,N1,nB,rfl,hp1,hB1,e8⟩,⟨p2,B2,I2,N2,nq,rfl,bF,xn,mV⟩,f1,f2,q⟩:=h
 refine fC ⟨_,(WI (Xr (i:=2) [none,none] ["name","size"] (show ar _ (ak wq) from ⟨rfl,by decide +kernel,by decide +kernel,by decide +kernel⟩) (by rfl) (W5 (WG WR (WB 0) WE)) (fun _ _ _ _ _=>⟨(W7 2 (WW (WN 0 (show (["name","size"]:List Str).Nodup from by decide +kernel)) (WW (WN 1 (show (["name","size"]:List Str).Nodup from by decide +kernel)) W8))),W6,(WT (WC WQ (WC (WB 0) WD)))⟩) Am.nd)
   (WK (WU (WJ Xi (WB 2) (Xc [none,none] ["name","size"] (show ar _ (ak wq) from ⟨rfl,by decide +kernel,by decide +kernel,by decide +kernel⟩) (by rfl) (W5 (WG WR (WB 1) WE)) (fun _ _ _ _ _=>⟨(W7 2 (WW (WN 0 (show (["name","size"]:List Str).Nodup from by decide +kernel)) (WW (WN 1 (show (["name","size"]:List Str).Nodup from by decide +kernel)) W8))),W6,(WT (WC WQ (WC (WB 0) WD)))⟩)))))),?_⟩
 have Ia:=Paired.length e8
 have Ib:=Paired.length mV
 have s0:=same_refl H
 refine ⟨_,rfl,p1,_,_,_,rfl,rfl,aF.of (hp1),rfl,B1,rfl,⟨_,aq.of (hB1)⟩,fun l1 hl=>?_⟩
 refine aL (xs:=nB) (fun i Hy=>ai H Hy/\∃vl,Hy l1=some (.lst vl)/\vl.length=i/\Paired (b7 Hy) vl ((lV "mine" b1).take i)) ⟨af hl _,[],ae,rfl,.nil⟩ (fun i Hy _ z=>aq.of (z.1 _ _ (hB1))) (fun i x Hy hx z=>?_) (fun Hy z=>?_)
 · obtain ⟨sy,vl,gC,Du,Dc⟩:=z
   have cj:i < nB.length:=(List.getElem?_eq_some_iff.mp hx).1
   obtain ⟨b,fD,e8,rfl,hC⟩:=Paired.get e8 hx
   refine ⟨e8,_,rfl,aF.of (sy _ _ (s0 _ _ hC)),rfl,_,_,rfl,_,_,rfl,rfl,?_⟩
   refine bp (A:=fun H3=>bK _ l1 _ H3 _) ?_
   refine ⟨_,rfl,YB,fun tp sW=>?_⟩
   obtain ⟨Hz,s5,g5,zz⟩:=aH sW (.tup [.str "mine",.str b.1])
   rw [zz]; clear zz
   refine ⟨_,s5 _ _ gC,aB (by omega),aA (Pv:=fun i Hy=>ai H Hy/\∃vl,Hy l1=some (.lst vl)/\vl.length=i/\Paired (b7 Hy) vl ((lV "mine" b1).take i)) (by repeat' constructor) cj ⟨az (aa sy s5) hl,vl++[.ref tp],ae,by rw [Sy,Du]; rfl,?_⟩⟩
   have kk:TK Hz (upd Hz l1 (.lst (vl++[.ref tp]))):=fun c xs z=>by rw [aj (b8 z (s5 _ _ gC) (fun z=>nomatch z))]; exact z
   rw [SQ,show (lV "mine" b1)[i]? = some (.box "mine" b.1) by unfold lV; rw [S2,fD]; rfl]
   exact Paired.snoc (Paired.aI Dc fun _ _ z=>z.keep ((ai.tk s5).trans kk)) ⟨tp,rfl,kk _ _ g5⟩
 obtain ⟨s1,va,ha,xp,pa⟩:=z
 revert s1 ha pa
 generalize Hy=Ha
 intro s1 ha pa
 have ea:(lV "mine" b1).take nB.length=lV "mine" b1:=Tf (by unfold lV; rw [Sv]; omega)
 rw [ea] at pa
 refine ⟨_,rfl,_,rfl,p2,_,_,_,rfl,rfl,aF.of (s1 _ _ bF),rfl,B2,rfl,⟨_,aq.of (s1 _ _ xn)⟩,fun l2 hl=>?_⟩
 refine aL (xs:=nq) (fun i Hy=>ai Ha Hy/\∃vl,Hy l2=some (.lst vl)/\vl.length=i/\Paired (b7 Hy) vl ((lV "yours" b2).take i)) ⟨af hl _,[],ae,rfl,.nil⟩ (fun i Hy _ z=>aq.of (z.1 _ _ (s1 _ _ xn))) (fun i x Hy hx z=>?_) (fun Hy z=>?_)
 · obtain ⟨sy,vl,gC,Du,Dc⟩:=z
   have cj:i < nq.length:=(List.getElem?_eq_some_iff.mp hx).1
   obtain ⟨b,fD,e8,rfl,hC⟩:=Paired.get mV hx
   refine ⟨e8,_,rfl,aF.of (sy _ _ (s1 _ _ hC)),rfl,_,_,rfl,_,_,rfl,rfl,?_⟩
   refine bp (A:=fun H3=>bK _ l2 _ H3 _) ?_
   refine ⟨_,rfl,YB,fun tp sW=>?_⟩
   obtain ⟨Hz,s5,g5,zz⟩:=aH sW (.tup [.str "yours",.str b.1])
   rw [zz]; clear zz
   refine ⟨_,s5 _ _ gC,aB (by omega),aA (Pv:=fun i Hy=>ai Ha Hy/\∃vl,Hy l2=some (.lst vl)/\vl.length=i/\Paired (b7 Hy) vl ((lV "yours" b2).take i)) (by repeat' constructor) cj ⟨az (aa sy s5) hl,vl++[.ref tp],ae,by rw [Sy,Du]; rfl,?_⟩⟩
   have kk:TK Hz (upd Hz l2 (.lst (vl++[.ref tp]))):=fun c xs z=>by rw [aj (b8 z (s5 _ _ gC) (fun z=>nomatch z))]; exact z
   rw [SQ,show (lV "yours" b2)[i]? = some (.box "yours" b.1) by unfold lV; rw [S2,fD]; rfl]
   exact Paired.snoc (Paired.aI Dc fun _ _ z=>z.keep ((ai.tk s5).trans kk)) ⟨tp,rfl,kk _ _ g5⟩
 obtain ⟨s2,vb,hb,mG,pb⟩:=z
 have eb:(lV "yours" b2).take nq.length=lV "yours" b2:=Tf (by unfold lV; rw [Sv]; omega)
 rw [eb] at pb
 refine ⟨l1,l2,_,_,rfl,rfl,s2 _ _ ha,hb,small (by omega),fun l hl=>?_⟩
 have s3:=af hl (.lst (va++vb))
 exact q l (va++vb) _ (aa s1 (aa s2 s3)) ae (Paired.app (Paired.aI pa fun _ _ z=>z.keep (ai.tk (aa s2 s3))) (Paired.aI pb fun _ _ z=>z.keep (ai.tk s3)))
theorem xW (s:Src K mg "_law_boxes_of" wq)  : aP P w K mg base "_law_boxes_of" ["one","other"] 1 qp:=
 let ⟨f,fd,F,m⟩:=s
 ⟨f,fd,BZ F ,F.kp,eE F fun _ _ _ _ _ _ _ _=>rfl,m⟩
def Ip (H:Hp)(t:Addr):Prop:=∃(m y:Addr) (ms ys:List Int),H t=some (.tup [.ref m,.ref y])/\H m=some (.lst (ms.map V.int))/\H y=some (.lst (ys.map V.int))/\ms.length<=400/\ys.length<=400
def lG:Sp:=fun vs H Q _=>∃(l:Addr) (ts:List Addr),vs=[.ref l]/\H l=some (.lst (ts.map V.ref))/\(∀t∈ts,Ip H t)/\∀H',ai H H'->Q (.bl true) H'
theorem qo:aE ["found","pair"] ["found"] (ak dW):=⟨rfl,rfl,rfl,by decide +kernel,rfl,by decide +kernel,by decide +kernel⟩
theorem bY:ba dW "isinstance":=by decide +kernel
theorem nU:ba dW "all":=by decide +kernel
theorem gQ:ba dW "list":=by decide +kernel
theorem kQ:ba dW "tuple":=by decide +kernel
theorem vK {f:Addr}{fd:S9}(F:cL K "_law_plain" "_law_plain" dW f fd)(m_isinstance:mg "isinstance"=none)(m_list:mg "list"=none)(m_tuple:mg "tuple"=none)(m_all:mg "all"=none)(WH:aP P w K mg base "_law_whole" ["found"] 1 fT):aN P w K mg base b6 2 f fd ["found"] lG:=by
 refine F.ok qo (fun vs H Q E h=>?_) (fun cdv A outer s H vs Q E hr h=>?_)
 · obtain ⟨l,ts,rfl,_⟩:=h
   rfl
 obtain ⟨l,ts,rfl,hl,hpl,q⟩:=h
 refine fC ⟨_,(WI (Xb (W5 (WB 0)) (WN 1 qo.nd) (WI (WZ (Xq (Xv (XA (Xo (W4 Xx bY m_isinstance (by decide +kernel) (WC (WB 1) (WC (Xy (w:=.ty "tuple") kQ m_tuple (by decide +kernel) rfl) WD))))) (Xv (XA (Xo (W4 Xx bY m_isinstance (by decide +kernel) (WC (WG WR (WB 1) WE) (WC (Xy (w:=.ty "list") gQ m_list (by decide +kernel) rfl) WD))))) (XE (XA (Xo (W4 Xx bY m_isinstance (by decide +kernel) (WC (WG WR (WB 1) WE) (WC (Xy (w:=.ty "list") gQ m_list (by decide +kernel) rfl) WD))))))))) (WK (WU XH)) W2)
   (WK (WZ (XA (Xo (W4 L3.Ef nU m_all (by decide +kernel) (WC (Xc [none] ["worth"] (show ar _ (ak dW) from ⟨rfl,by decide +kernel,by decide +kernel,by decide +kernel⟩) (by rfl) (W5 (WJ Xi (WG WR (WB 1) WE) (WG WR (WB 1) WE))) (fun _ _ _ _ _=>⟨(WN 0 (show (["worth"]:List Str).Nodup from by decide +kernel)),W6,(WV WH hr (by rfl) (WC (WB 0) WD))⟩)) WD)))) (WK (WU XH)) W2))))
   (WK (WU XH))),?_⟩
 refine ⟨_,rfl,l,rfl,⟨_,aq.of hl⟩,?_⟩
 refine bj (xs:=ts.map V.ref) (fun i σ H2=>(∃o,σ=[some (.ref l),o])/\ai H H2) ⟨⟨_,rfl⟩,same_refl H⟩ (fun i σ H2 _ z=>aq.of (z.2 _ _ hl)) (fun i x σ H2 hx z=>?_) (fun σ H2 z=>?_)
 · obtain ⟨⟨o,rfl⟩,s2⟩:=z
   obtain ⟨tp,sW,rfl⟩:=aJ hx
   obtain ⟨m,y,ms,ys,h1,h2,h3,l1,l2⟩:=hpl tp (SF sW)
   replace h1:=s2 _ _ h1
   replace h2:=s2 _ _ h2
   replace h3:=s2 _ _ h3
   refine aG ?_
   refine ⟨_,rfl,_,"tuple",_,true,rfl,dm.tup h1,rfl,_,rfl,?_⟩
   refine hV ?_
   refine ⟨_,rfl,tp,_,_,_,rfl,rfl,aF.of h1,rfl,_,"list",_,true,rfl,dm.lst h2,rfl,_,rfl,?_⟩
   refine hV ?_
   refine ⟨_,rfl,tp,_,_,_,rfl,rfl,aF.of h1,rfl,_,"list",_,true,rfl,dm.lst h3,rfl,_,rfl,?_⟩
   refine hV ?_
   refine ⟨_,rfl,tp,_,_,_,rfl,rfl,aF.of h1,rfl,_,rfl,tp,_,_,_,rfl,rfl,aF.of h1,rfl,m,y,_,_,rfl,rfl,h2,h3,small (by rw [Sv,Sv]; omega),fun ca DJ=>?_⟩
   have s3:ai H2 (upd H2 ca (.lst (ms.map V.int++ys.map V.int))):=af DJ _
   have g3:(upd H2 ca (.lst (ms.map V.int++ys.map V.int))) ca=some (.lst ((ms++ys).map V.int)):=by rw [ae,SR]
   generalize upd H2 ca (.lst (ms.map V.int++ys.map V.int))=H1 at s3 g3 ⊢
   refine ⟨ca,rfl,⟨_,aq.of g3⟩,fun bl mG=>?_⟩
   refine aL (xs:=(ms++ys).map V.int) (fun i Hy=>ai H1 Hy/\Hy bl=some (.lst ((((ms++ys).take i).map fun _=>true).map V.bl))) ⟨af mG _,ae⟩ (fun j Hy _ z=>aq.of (z.1 _ _ g3)) (fun j x Hy hx z=>?_) (fun Hy z=>?_)
   · obtain ⟨sy,hy⟩:=z
     obtain ⟨k,hk,rfl⟩:=aJ hx
     have DP:j < ((ms++ys).map V.int).length:=(List.getElem?_eq_some_iff.mp hx).1
     have ll:(ms++ys).length<=800:=by rw [Sy]; omega
     refine aG ?_
     refine bp (A:=fun H4=>bK _ bl _ H4 _) ?_
     refine ⟨_,rfl,k,rfl,_,hy,aB (by rw [Sv,Sv,SH]; omega),aA (Pv:=fun i Hy=>ai H1 Hy/\Hy bl=some (.lst ((((ms++ys).take i).map fun _=>true).map V.bl))) (by repeat' constructor) DP ⟨az sy mG,?_⟩⟩
     rw [ae,SQ,hk,SR,SR]
     rfl
   obtain ⟨sy,hy⟩:=z
   refine ⟨bl,_,rfl,aq.of hy,_,rfl,?_⟩
   refine aD (fun c=>?_) (fun _=>⟨⟨_,rfl⟩,aa s2 (aa s3 sy)⟩)
   rw [show ((((ms++ys).take ((ms++ys).map V.int).length).map fun _=>true).all id)=true from by rw [List.all_map]; exact List.all_eq_true.mpr fun _ _=>rfl] at c
   exact absurd c (by decide)
 exact q _ z.2
theorem q9 (s:Src K mg "_law_plain" dW)(m_isinstance:mg "isinstance"=none)(m_list:mg "list"=none)(m_tuple:mg "tuple"=none)(m_all:mg "all"=none)(WH:aP P w K mg base "_law_whole" ["found"] 1 fT):aP P w K mg base "_law_plain" ["found"] 2 lG:=
 let ⟨f,fd,F,m⟩:=s
 ⟨f,fd,vK F m_isinstance m_list m_tuple m_all WH,F.kp,lT F fun _ _ _ _ _ _ _=>rfl,m⟩
abbrev Dg:Stmt:=top 33
def ji:Sp:=fun vs H Q _=>∃(B c:Addr) (vb:List V) (bs b2:List (Str×Int)) (f:Str->Str),vs=[.ref B,.ref c]/\H B=some (.lst vb)/\Paired (bU H) vb bs/\aT H c (bs.map (·.1)) f/\(∀x∈bs.map (·.1),f x∈b2.map (·.1)) /\
 ∀(v:V) (e:E) (H':Hp),ai H H'->b7 H' v e->e.js->e.okIn (lU bs b2)->e.dep<=bs.length + 1->Q v H'
theorem je:aE ["boxes","called","found","name","size"] ["boxes","called"] (ak wk):=⟨rfl,rfl,rfl,by decide +kernel,rfl,by decide +kernel,by decide +kernel⟩
theorem yG {f:Addr}{fd:S9}(F:cL K "_law_all_same" "_law_all_same" wk f fd)  : aN P w K mg base b6 1 f fd ["boxes","called"] ji:=by
 refine F.ok je (fun vs H Q E h=>?_) (fun cdv A outer s H vs Q E hr h=>?_)
 · obtain ⟨B,c,vb,bs,b2,f,rfl,_⟩:=h
   rfl
 obtain ⟨B,c,vb,bs,b2,f,rfl,hB,pb,hc,hf,q⟩:=h
 refine fC ⟨_,(WI (WS 2 je.nd (WT (WC WQ WD)))
   (WI (Xb (W5 (WB 0)) (W7 2 (WW (WN 3 je.nd) (WW (WN 4 je.nd) W8))) (WK (WS 2 je.nd (WT (WC WQ (WC (WT (WC WQ (WC (WT (WC WQ (WC (WB 3) WD))) (WC (WT (WC WQ (WC (Xs (bq hr _ (by decide)) (WB 1) (WB 3)) WD))) WD)))) (WC (WB 2) WD)))))))
   (WK (WU (WB 2))))),?_⟩
 refine ⟨YA,fun y0 QA=>?_⟩
 obtain ⟨H1,s0,g0,zz⟩:=aH QA (.tup [.str "yes"])
 rw [zz]; clear zz
 have vl:=Paired.length pb
 refine ⟨_,rfl,B,rfl,⟨_,aq.of (s0 _ _ hB)⟩,?_⟩
 refine bj (xs:=vb) (fun i σ H2=>∃(v:V) (o3 o4:Option V) (e:TW.E),σ=[some (.ref B),some (.ref c),some v,o3,o4]/\ai H H2/\b7 H2 v e/\e.js/\e.okIn (lU bs b2)/\e.dep<=i + 1) ⟨_,_,_,.yes,rfl,s0,⟨y0,rfl,g0⟩,Tj,Tj,TN _⟩ (fun i σ H2 _ z=>?_) (fun i x σ H2 hx z=>?_) (fun σ H2 z=>?_)
 · obtain ⟨v,o3,o4,e,rfl,s2,_⟩:=z
   exact aq.of (s2 _ _ hB)
 · obtain ⟨v,o3,o4,e,rfl,s2,ev,ec,eo,ed⟩:=z
   obtain ⟨b,fD,e8,rfl,hC⟩:=Paired.get pb hx
   have E1:b.1∈bs.map (·.1):=List.mem_map.mpr ⟨b,SF fD,rfl⟩
   refine ⟨e8,_,rfl,aF.of (s2 _ _ hC),rfl,_,_,rfl,_,_,rfl,rfl,?_⟩
   refine ⟨_,rfl,YB,fun t1 h1=>?_⟩
   obtain ⟨H3,s3,g1,zz⟩:=aH h1 (.tup [.str "mine",.str b.1])
   rw [zz]; clear zz
   obtain ⟨kvs,hk,hv⟩:=hc.same (aa s2 s3)
   have dg:=eB.k (k:=.inr b.1) hk
   rw [hv _ E1] at dg
   refine ⟨_,rfl,_,rfl,c,_,rfl,dg,YB,fun t2 h2=>?_⟩
   obtain ⟨H4,s4,g2,zz⟩:=aH h2 (.tup [.str "yours",.str (f b.1)])
   rw [zz]; clear zz
   refine ⟨YC,fun t3 h3=>?_⟩
   obtain ⟨H5,s5,g3,zz⟩:=aH h3 (.tup [.str "same",.ref t1,.ref t2])
   rw [zz]; clear zz
   refine ⟨_,rfl,YC,fun t4 h4=>?_⟩
   obtain ⟨H6,s6,g4,zz⟩:=aH h4 (.tup [.str "both",.ref t3,v])
   rw [zz]; clear zz
   have HK:=aa s3 (aa s4 (aa s5 s6))
   refine ⟨.ref t4,_,_,.two .both (.two .same (.box "mine" b.1) (.box "yours" (f b.1))) e,rfl,aa s2 HK,?_,⟨⟨Tj,Tj⟩,ec⟩,⟨⟨.inl ⟨rfl,E1⟩,.inr ⟨rfl,hf _ E1⟩⟩,eo⟩,?_⟩
   · exact ⟨_,_,⟨t4,rfl,g4⟩,⟨_,_,⟨t3,rfl,s6 _ _ g3⟩,⟨t1,rfl,s6 _ _ (s5 _ _ (s4 _ _ g1))⟩,⟨t2,rfl,s6 _ _ (s5 _ _ g2)⟩⟩,ev.keep (ai.tk HK)⟩
   · show max (max 0 0 + 1) e.dep + 1<=i + 1 + 1
     omega
 obtain ⟨v,o3,o4,e,rfl,s2,ev,ec,eo,ed⟩:=z
 exact ⟨_,rfl,q v e H2 s2 ev ec eo (by omega)⟩
theorem um (s:Src K mg "_law_all_same" wk)  : aP P w K mg base "_law_all_same" ["boxes","called"] 1 ji:=
 let ⟨f,fd,F,m⟩:=s
 ⟨f,fd,yG F ,F.kp,eE F fun _ _ _ _ _ _ _ _=>rfl,m⟩
theorem yB {H:Hp}:∀{e:Nd} {v:V},bO H v e->∃p k xs,v=.ref p/\H p=some (.tup (.str k :: xs))
 | .put _ _ _,_,h=>by obtain ⟨_,⟨p,e,q⟩,_⟩:=h; exact ⟨p,_,_,e,q⟩
 | .say _ _,_,h=>by obtain ⟨_,⟨p,e,q⟩,_⟩:=h; exact ⟨p,_,_,e,q⟩
 | .test _ _ _,_,h=>by obtain ⟨_,⟨p,e,q⟩,_⟩:=h; exact ⟨p,_,_,e,q⟩
 | .fin,_,h=>by obtain ⟨p,e,q⟩:=h; exact ⟨p,_,_,e,q⟩
def nI (b1 b2:List (Str×Int))(d:Nat)(ens:List En):Prop:=∀e∈ens,e.c.js/\e.c.okIn (lU b1 b2)/\e.c.dep<=d
structure cu (b1 b2:List (Str×Int))(d n:Nat)(H:Hp)(l:Addr)(vps:List V)(ens:List En):Prop where
 h:H l=some (.lst vps)
 p:Paired (cB H) vps ens
 ok:nI b1 b2 d ens
 few:ens.length<=n
theorem cu.same {b1 b2:List (Str×Int)}{d n:Nat}{H H':Hp}{l:Addr}{vps:List V}{ens:List En}(h:cu b1 b2 d n H l vps ens)(s:ai H H'):cu b1 b2 d n H' l vps ens:=⟨s _ _ h.h,Paired.aI h.p fun _ _ z=>z.same s,h.ok,h.few⟩
theorem vP {b1 b2:List (Str×Int)}{d:Nat}{xs ys:List En}(h:nI b1 b2 d xs)(k:nI b1 b2 d ys):nI b1 b2 d (xs++ys):=fun e he=>(List.mem_append.mp he).elim (h e) (k e)
theorem vQ {b1 b2:List (Str×Int)}{d:Nat}{e:En}(h:e.c.js/\e.c.okIn (lU b1 b2)/\e.c.dep<=d):nI b1 b2 d [e]:=fun x hx=>by rw [List.mem_singleton.mp hx]; exact h
theorem cu.snoc {b1 b2:List (Str×Int)}{d m:Nat}{Hc:Hp}{l tp:Addr}{vq:List V}{eq:List En}{a b:Int}{cv x y:V}{e:E}(pp:cu b1 b2 d m Hc l vq eq)(ht:Hc tp=some (.tup [.int a,.int b,cv,x,y]))(ev:b7 Hc cv e)(oe:e.js/\e.okIn (lU b1 b2)/\e.dep<=d) :
   cu b1 b2 d (m + 1) (upd Hc l (.lst (vq++[.ref tp]))) l (vq++[.ref tp]) (eq++[⟨a,b,e⟩]):=by
 have kk:TK Hc (upd Hc l (.lst (vq++[.ref tp]))):=fun d xs z=>by rw [aj (b8 z pp.h (fun z=>nomatch z))]; exact z
 exact ⟨ae,Paired.snoc (Paired.aI pp.p fun _ _ z=>cB.keep z kk) (cB.keep ⟨cv,_,_,⟨_,rfl,ht⟩,ev⟩ kk),vP pp.ok (vQ oe),by rw [Sy]; exact U6 pp.few⟩
def Dl:Sp:=fun vs H Q _=>∃(v:V) (c pl bh:Addr) (bs b2:List (Str×Int)) (ins:List Str) (nds:List Nd) (f:Str->Str) (ps bS:List Int),vs=[v,.ref c,.ref pl,.ref bh]/\bW H v bs ins nds/\aT H c (bs.map (·.1)) f/\(∀x∈bs.map (·.1),f x∈b2.map (·.1))/\H pl=some (.lst (ps.map V.int))/\H bh=some (.lst (bS.map V.int))/\ps.length=nds.length/\bS.length=nds.length/\nds.length<=100 /\
 ∀(l:Addr) (vps:List V) (ens:List En) (H':Hp),ai H H'->cu bs b2 (bs.length + 1) (2 * nds.length) H' l vps ens->Q (.ref l) H'
theorem wH:aE ["program","called","places","behind","same","found","p","who"] ["program","called","places","behind"] (ak Dg):=⟨rfl,rfl,rfl,by decide +kernel,rfl,by decide +kernel,by decide +kernel⟩
theorem gf:ba Dg "_law_all_same":=by decide +kernel
theorem qS:ba Dg "range":=by decide +kernel
theorem xU:ba Dg "len":=by decide +kernel
theorem xT:ba Dg "int":=by decide +kernel
theorem FP {f:Addr}{fd:S9}(F:cL K "_law_good_paper" "_law_good_paper" Dg f fd)(m_len:mg "len"=none)(m_range:mg "range"=none)(m_int:mg "int"=none)(AS:aP P w K mg base "_law_all_same" ["boxes","called"] 1 ji):aN P w K mg base b6 2 f fd ["program","called","places","behind"] Dl:=by
 refine F.ok wH (fun vs H Q E h=>?_) (fun cdv A outer s H vs Q E hr h=>?_)
 · obtain ⟨v,c,pl,bh,bs,b2,ins,nds,f,ps,bS,rfl,_⟩:=h
   rfl
 obtain ⟨v,c,pl,bh,bs,b2,ins,nds,f,ps,bS,rfl,⟨p0,B,I,N,vb,vn,rfl,hp,hB,hI,hN,pb,pn⟩,hc,hf,hpl,xq,R8,Rx,few,q⟩:=h
 refine fC ⟨_,(WI (WS 4 wH.nd (WV AS hr gf (WC (WG WR (WB 0) WE) (WC (WB 1) WD))))
   (WI (WS 5 wH.nd (W0 WD))
   (WI (Xb (Xj qS m_range (WC (W4 Xa xU m_len Te (WC (WB 2) WD)) WD)) (WN 6 wH.nd) (WI (WS 7 wH.nd (WG WM (W0 (WC WQ (WC WQ WD))) (Xg L3.pD xT m_int (by decide +kernel) (WC (Xn W3 (WG WR (WG WM (WG WR (WB 0) WE) (WB 6)) WE) WQ) WD))))
   (WI (Xh (Xk (WB 5) (WC (WT (WC (WB 6) (WC (WG WM (WB 2) (WB 6)) (WC (WB 4) (WC (WB 7) (WC (WT (WC WQ (WC WE WD))) WD)))))) WD)))
   (WK (WZ (WX L3.Lf (WG WM (WB 3) (WB 6)) (WG WM (WB 2) (WB 6))) (WK (Xh (Xk (WB 5) (WC (WT (WC (WB 6) (WC (WG WM (WB 3) (WB 6)) (WC (WB 4) (WC WQ (WC (WT (WC WQ (WC WE WD))) WD)))))) WD)))) W2)))))
   (WK (WU (WB 5)))))),?_⟩
 have Sk:=Paired.length pn
 refine aV fun Rk kR=>?_
 refine ⟨_,rfl,p0,_,_,_,rfl,rfl,aF.of hp,rfl,_,rfl,B,c,vb,bs,b2,f,rfl,hB,pb,hc,hf,fun sv e H1 s1 ev ec eo ed=>?_⟩
 refine aG ?_
 refine kR _ _ ?_
 refine aV fun Rk kR=>?_
 refine ⟨Yz,fun l hl=>?_⟩
 have s2:=aa s1 (af hl (.lst []))
 refine aG ?_
 refine kR _ _ ?_
 refine ⟨_,rfl,pl,_,rfl,.inl (aq.of (s2 _ _ hpl)),_,rfl,by rw [Sv]; omega,by rw [Sv]; omega,?_⟩
 refine bQ (lo:=0) (n:=((ps.map V.int).length:Int).toNat) (fun i σ H2=>(∃o6 o7,σ=[some (.ref p0),some (.ref c),some (.ref pl),some (.ref bh),some sv,some (.ref l),o6,o7])/\ai H1 H2/\∃vps ens,cu bs b2 (bs.length + 1) (2 * i) H2 l vps ens) ⟨⟨_,_,rfl⟩,af hl _,[],[],ae,.nil,(fun e he=>nomatch he),TN _⟩ (fun i σ H2 hi z=>?_) (fun σ H2 z=>?_)
 · obtain ⟨⟨o6,o7,rfl⟩,sx,vps,ens,pap⟩:=z
   rw [Sv] at hi
   have hin:i < nds.length:=by omega
   have s02:=aa s1 sx
   obtain ⟨nv,Qc,Je⟩:=jJ (xs:=vn) (r:=0 + (i:Int)) (by omega) (by omega)
   obtain ⟨nd,_,P9⟩:=Paired.get pn Qc
   obtain ⟨np,kd,nx,rfl,Qa⟩:=yB P9
   obtain ⟨pz,_,_,EY⟩:=br V.int ps (r:=0 + (i:Int)) (by omega) (by omega)
   obtain ⟨bz,_,_,rf⟩:=br V.int bS (r:=0 + (i:Int)) (by omega) (by omega)
   have Dc:=Paired.length pap.p
   have pf:=pap.few
   refine aG ?_
   refine aV fun Rk kR=>?_
   refine ⟨YB,fun wl hwl=>?_⟩
   obtain ⟨H3,s3,g3,zz⟩:=aH hwl (.lst [.str "both",.str "end"])
   rw [zz]; clear zz
   obtain ⟨wv,Qz⟩ : ∃wv,eZ ([V.str "both",V.str "end"]:List V) (if decide (V.str kd=V.str "end")=true then 1 else 0)=some wv:=by
     by_cases cc:decide (V.str kd=V.str "end")=true
     · rw [if_pos cc]; exact ⟨_,rfl⟩
     · rw [if_neg cc]; exact ⟨_,rfl⟩
   have s03:=aa s02 s3
   refine ⟨_,rfl,p0,_,_,_,rfl,rfl,aF.of (s03 _ _ hp),rfl,_,rfl,N,_,_,_,rfl,rfl,aq.of (s03 _ _ hN),Je,np,_,_,_,rfl,rfl,aF.of (s03 _ _ Qa),(show eZ _ ((0:Nat):Int)=_ from bJ rfl),rfl,.inr ⟨_,rfl,wl,_,_,_,rfl,rfl,aq.of g3,Qz,?_⟩⟩
   refine aG ?_
   refine kR _ _ ?_
   refine aV fun Rk kR=>?_
   have oI:=pap.same s3
   refine ⟨_,rfl,.inl ⟨rfl,_,aq.of oI.h⟩,_,rfl,_,rfl,_,rfl,pl,_,_,_,rfl,rfl,aq.of (s03 _ _ hpl),EY,_,rfl,_,rfl,YB,fun u1 Kj=>⟨YE,fun u2 Qq=>?_⟩⟩
   have s4:ai H3 (upd (upd H3 u1 (.tup [.str "number",.int 0])) u2 (.tup [.int (0 + (i:Int)),.int pz,sv,wv,.ref u1])):=ao (af Kj _) Qq
   have g4:(upd (upd H3 u1 (.tup [.str "number",.int 0])) u2 (.tup [.int (0 + (i:Int)),.int pz,sv,wv,.ref u1])) u2=some (.tup [.int (0 + (i:Int)),.int pz,sv,wv,.ref u1]):=ae
   generalize upd (upd H3 u1 (.tup [.str "number",.int 0])) u2 (.tup [.int (0 + (i:Int)),.int pz,sv,wv,.ref u1])=H4 at s4 g4 ⊢
   refine ⟨l,_,_,rfl,rfl,s4 _ _ oI.h,aB (by omega),?_⟩
   have jy:=(oI.same s4).snoc g4 (ev.keep (ai.tk (aa sx (aa s3 s4)))) ⟨ec,eo,ed⟩
   have sA:ai H1 (upd H4 l (.lst (vps++[.ref u2]))):=az (aa sx (aa s3 s4)) hl
   generalize upd H4 l (.lst (vps++[.ref u2]))=HA at jy sA ⊢
   refine kR _ _ ?_
   have s0A:=aa s1 sA
   refine ⟨_,rfl,_,rfl,bh,_,_,_,rfl,rfl,aq.of (s0A _ _ xq),rf,_,rfl,_,rfl,pl,_,_,_,rfl,rfl,aq.of (s0A _ _ hpl),EY,rfl,_,rfl,?_⟩
   refine aD (fun _=>?_) (fun _=>⟨⟨_,_,rfl⟩,sA,_,_,jy.h,jy.p,jy.ok,by have:=jy.few; omega⟩)
   have Sa:=Paired.length jy.p
   have R7:=jy.few
   refine ⟨_,rfl,.inl ⟨rfl,_,aq.of jy.h⟩,_,rfl,_,rfl,_,rfl,bh,_,_,_,rfl,rfl,aq.of (s0A _ _ xq),rf,_,rfl,YB,fun u3 Qr=>⟨YE,fun u4 Qs=>?_⟩⟩
   have s5:ai HA (upd (upd HA u3 (.tup [.str "number",.int 1])) u4 (.tup [.int (0 + (i:Int)),.int bz,sv,.str "yours",.ref u3])):=ao (af Qr _) Qs
   have g5:(upd (upd HA u3 (.tup [.str "number",.int 1])) u4 (.tup [.int (0 + (i:Int)),.int bz,sv,.str "yours",.ref u3])) u4=some (.tup [.int (0 + (i:Int)),.int bz,sv,.str "yours",.ref u3]):=ae
   generalize upd (upd HA u3 (.tup [.str "number",.int 1])) u4 (.tup [.int (0 + (i:Int)),.int bz,sv,.str "yours",.ref u3])=H5 at s5 g5 ⊢
   refine ⟨l,_,_,rfl,rfl,s5 _ _ jy.h,aB (by omega),⟨_,_,rfl⟩,az (aa sA s5) hl,?_⟩
   have yT:=(jy.same s5).snoc g5 (ev.keep (ai.tk (aa sA s5))) ⟨ec,eo,ed⟩
   exact ⟨_,_,yT.h,yT.p,yT.ok,by have:=yT.few; omega⟩
 obtain ⟨⟨o6,o7,rfl⟩,sx,vps,ens,pap⟩:=z
 exact ⟨_,rfl,q l vps ens H2 (aa s1 sx) ⟨pap.h,pap.p,pap.ok,by have:=pap.few; rw [Sv,TZ] at this; omega⟩⟩
theorem Bb (s:Src K mg "_law_good_paper" Dg)(m_len:mg "len"=none)(m_range:mg "range"=none)(m_int:mg "int"=none)(AS:aP P w K mg base "_law_all_same" ["boxes","called"] 1 ji):aP P w K mg base "_law_good_paper" ["program","called","places","behind"] 2 Dl:=
 let ⟨f,fd,F,m⟩:=s
 ⟨f,fd,FP F m_len m_range m_int AS,F.kp,tK F fun _ _ _ _ _ _ _ _ _ _=>rfl,m⟩
abbrev wF:Stmt:=top 38
theorem c8 {F:L2.St->Hp->Prop}{σ:L2.St}{H:Hp}(σ':L2.St)(e:σ=σ')(h:F σ' H):F σ H:=by subst e; exact h
theorem fg (xs:List V){k:Nat}(h:k<=xs.length):fe xs (some (k:Int)) none=xs.drop k:=by
 unfold fe
 have e0:HT.bT xs.length 0 (some (k:Int))=k:=by rw [HT.dq]; omega
 have e1:HT.bT xs.length xs.length none=xs.length:=rfl
 rw [e0,e1]
 exact Tf (by rw [To]; exact Sz _)
theorem cw {α:Type}{xs:List α}{r:Int}(h0:0<=r)(h1:r < (xs.length:Int)):∃(a:Nat) (x:α),r=(a:Int)/\xs[a]? = some x/\eZ xs r=some x:=by
 have hr:r.toNat < xs.length:=by omega
 have e:r=((r.toNat:Nat):Int):=by omega
 refine ⟨r.toNat,xs[r.toNat],e,Sx hr,?_⟩
 have q:eZ xs ((r.toNat:Nat):Int)=some xs[r.toNat]:=bJ (Sx hr)
 rw [← e] at q
 exact q
def lQ (b1 b2:List (Str×Int))(H:Hp)(vs:List V):Prop:=∀v∈vs,∃e:E,b7 H v e/\e.ow/\e.okIn (lU b1 b2)/\e.dep=0
theorem lQ.same {b1 b2:List (Str×Int)}{H H':Hp}{vs:List V}(h:lQ b1 b2 H vs)(s:ai H H'):lQ b1 b2 H' vs:=fun v hv=>let ⟨e,h1,h2⟩:=h v hv; ⟨e,h1.keep (ai.tk s),h2⟩
abbrev lN (b1 b2:List (Str×Int))(d:Nat)(H:Hp)(v:V):Prop:=∃e:En,cB H v e/\e.c.js/\e.c.okIn (lU b1 b2)/\e.c.dep<=d
theorem lN.mk {b1 b2:List (Str×Int)}{d:Nat}{H:Hp}{tp:Addr}{a b:Int}{cv x y:V}{e:E}(h:H tp=some (.tup [.int a,.int b,cv,x,y]))(ev:b7 H cv e)(oe:e.js/\e.okIn (lU b1 b2)/\e.dep<=d):lN b1 b2 d H (.ref tp):=⟨⟨a,b,e⟩,⟨cv,x,y,⟨tp,rfl,h⟩,ev⟩,oe⟩
theorem lN.same {b1 b2:List (Str×Int)}{d:Nat}{H H':Hp}{v:V}(h:lN b1 b2 d H v)(s:ai H H'):lN b1 b2 d H' v:=let ⟨e,h1,h2⟩:=h; ⟨e,h1.same s,h2⟩
def ib (b1 b2:List (Str×Int))(d:Nat)(H:Hp)(vs:List V):Prop:=∀v∈vs,lN b1 b2 d H v
theorem ib.same {b1 b2:List (Str×Int)}{d:Nat}{H H':Hp}{vs:List V}(h:ib b1 b2 d H vs)(s:ai H H'):ib b1 b2 d H' vs:=fun v hv=>(h v hv).same s
theorem ib.app {b1 b2:List (Str×Int)}{d:Nat}{H:Hp}{vs us:List V}(h:ib b1 b2 d H vs)(k:ib b1 b2 d H us):ib b1 b2 d H (vs++us):=fun v hv=>(List.mem_append.mp hv).elim (h v) (k v)
theorem ib.one {b1 b2:List (Str×Int)}{d:Nat}{H:Hp}{v:V}(h:lN b1 b2 d H v):ib b1 b2 d H [v]:=fun u hu=>by rw [List.mem_singleton.mp hu]; exact h
theorem ib.take {b1 b2:List (Str×Int)}{d:Nat}{H:Hp}{vs:List V}(h:ib b1 b2 d H vs)(k:Nat):ib b1 b2 d H (vs.take k):=fun v hv=>h v (T9 hv)
theorem ib.drop {b1 b2:List (Str×Int)}{d:Nat}{H:Hp}{vs:List V}(h:ib b1 b2 d H vs)(k:Nat):ib b1 b2 d H (vs.drop k):=fun v hv=>h v (Vh hv)
theorem ib.pap {b1 b2:List (Str×Int)}{d n:Nat}{H:Hp}{l:Addr}:∀{vs:List V},ib b1 b2 d H vs->vs.length<=n->H l=some (.lst vs)->∃ens,cu b1 b2 d n H l vs ens:=fun {vs} h hn hl=>by
 have go:∀vs:List V,ib b1 b2 d H vs->∃ens,Paired (cB H) vs ens/\nI b1 b2 d ens:=fun vs=>by
   induction vs with
   | nil=>exact fun _=>⟨[],.nil,fun e he=>nomatch he⟩
   | cons v vs ih=>
     intro h
     obtain ⟨es,h1,h2⟩:=ih fun u hu=>h u (List.mem_cons.mpr (.inr hu))
     obtain ⟨e,h3,h4⟩:=h v TV
     exact ⟨e :: es,.cons h3 h1,fun x hx=>(List.mem_cons.mp hx).elim (fun z=>z ▸ h4) (h2 x)⟩
 obtain ⟨ens,h1,h2⟩:=go vs h
 exact ⟨ens,hl,h1,h2,by have:=Paired.length h1; omega⟩
theorem cu.DX {b1 b2:List (Str×Int)}{d n:Nat}{H:Hp}{l:Addr}{vs:List V}{ens:List En}(h:cu b1 b2 d n H l vs ens):ib b1 b2 d H vs:=fun v hv=>by
 obtain ⟨i,hi⟩:=Ua hv
 obtain ⟨e,he,hE⟩:=Paired.get h.p hi
 exact ⟨e,hE,h.ok e (SF he)⟩
def qy:Sp:=fun vs H Q _=>∃(pa r bx:Addr) (vps vb:List V) (ens:List En) (row:List Int) (b1 b2:List (Str×Int)) (d m:Nat),vs=[.ref pa,.ref r,.ref bx]/\cu b1 b2 d m H pa vps ens/\0 < vps.length/\m<=200/\1<=d/\H r=some (.lst (row.map V.int))/\Row (2 ^ 30) row 5/\H bx=some (.lst vb)/\lQ b1 b2 H vb/\vb.length<=100 /\
 ∀(l:Addr) (vps':List V) (ens':List En) (H':Hp),ai H H'->cu b1 b2 (d + 1) (m + 1) H' l vps' ens'->Q (.ref l) H'
theorem cx:aE ["paper","row","boxes","at","p","q","condition","who","wait","some","one","other","wider","way","entry"] ["paper","row","boxes"] (ak wF):=⟨rfl,rfl,rfl,by decide +kernel,rfl,by decide +kernel,by decide +kernel⟩
theorem uf:ba wF "max":=by decide +kernel
theorem dN:ba wF "len":=by decide +kernel
theorem Cg {f:Addr}{fd:S9}(F:cL K "_law_spoilt" "_law_spoilt" wF f fd)(m_len:mg "len"=none)(m_max:mg "max"=none):aN P w K mg base b6 1 f fd ["paper","row","boxes"] qy:=by
 refine F.ok cx (fun vs H Q E h=>?_) (fun cdv A outer s H vs Q E hr h=>?_)
 · obtain ⟨pa,r,bx,vps,vb,ens,row,b1,b2,d,m,rfl,_⟩:=h
   rfl
 obtain ⟨pa,r,bx,vps,vb,ens,row,b1,b2,d,m,rfl,pap,hG,hm2,Js,fW,hR,Pq,Rc,RX,q⟩:=h
 refine fC ⟨_,(WI (WS 3 cx.nd (WJ WY (WG WM (WB 1) WE) (W4 L3.Eh uf m_max (by decide +kernel) (WC WE (WC (W4 Xa dN m_len Te (WC (WB 0) WD)) WD)))))
   (WI (XD (WG WM (WB 0) (WB 3)) (W7 5 (WW (WN 4 cx.nd) (WW (WN 5 cx.nd) (WW (WN 6 cx.nd) (WW (WN 7 cx.nd) (WW (WN 8 cx.nd) W8)))))))
   (WI (WS 9 cx.nd (WJ Xi (W0 (WC (WT (WC WQ (WC (WJ WY (WG WM (WB 1) WE) WE) WD))) WD)) (WB 2)))
   (WI (WS 10 cx.nd (WG WM (WB 9) (WJ WY (WJ Xe (WG WM (WB 1) WE) WE) (W4 Xa dN m_len Te (WC (WB 9) WD)))))
   (WI (WS 11 cx.nd (WG WM (WB 9) (WJ WY (WG WM (WB 1) WE) (W4 Xa dN m_len Te (WC (WB 9) WD)))))
   (WI (WS 12 cx.nd (WG WM (W0 (WC (WT (WC WQ WD)) (WC (WT (WC WQ (WC (WB 6) WD))) (WC (WT (WC WQ (WC (WB 6) (WC (WT (WC WQ (WC (WB 10) (WC (WB 11) WD)))) WD)))) WD)))) (WJ WY (WG WM (WB 1) WE) WE)))
   (WI (WS 13 cx.nd (WJ WY (WG WM (WB 1) WE) WE))
   (WI (WZ (WX W3 (WB 13) WE) (WK (WU (WJ Xi (Xw (WB 0) (WB 3)) (XF (WB 0) (WJ Xd (WB 3) WE))))) W2)
   (WI (WS 14 cx.nd (WT (WC (WB 4) (WC (WB 5) (WC (WB 6) (WC (WG WM (W0 (WC WQ (WC WQ (WC WQ (WC WQ WD))))) (WJ WY (WG WM (WB 1) WE) WE)) (WC (WB 8) WD)))))))
   (WI (WZ (WX W3 (WB 13) WE) (WK (WS 14 cx.nd (WT (WC (WB 4) (WC (WB 5) (WC (WB 6) (WC (WB 7) (WC (WG WM (W0 (WC (WT (WC WQ (WC (WJ WY (WG WM (WB 1) WE) WE) WD))) (WC (WT (WC WQ (WC (WB 10) (WC (WB 11) WD)))) (WC (WB 10) WD)))) (WJ WY (WJ Xe (WG WM (WB 1) WE) WE) WE)) WD)))))))) W2)
   (WI (WZ (WX W3 (WB 13) WE) (WK (WS 14 cx.nd (WT (WC (WB 4) (WC (WB 5) (WC (WB 12) (WC (WB 7) (WC (WB 8) WD)))))))) W2)
   (WI (WZ (WX W3 (WB 13) WE) (WK (WS 14 cx.nd (WT (WC (WG WR (WG WM (WB 0) (WJ WY (WG WM (WB 1) WE) (W4 Xa dN m_len Te (WC (WB 0) WD)))) WE) (WC (WB 5) (WC (WB 6) (WC (WB 7) (WC (WB 8) WD)))))))) W2)
   (WI (WZ (WX W3 (WB 13) WE) (WK (WS 14 cx.nd (WT (WC (WB 4) (WC (WG WR (WG WM (WB 0) (WJ WY (WG WM (WB 1) WE) (W4 Xa dN m_len Te (WC (WB 0) WD)))) WE) (WC (WB 6) (WC (WB 7) (WC (WB 8) WD)))))))) W2)
   (WI (WZ (WX W3 (WB 13) WE) (WK (WU (WJ Xi (WJ Xi (Xw (WB 0) (WB 3)) (W0 (WC (WT (WC (WB 4) (WC (WB 5) (WC (WB 12) (WC (WB 7) (WC (WT (WC WQ (WC (WB 8) (WC (WT (WC WQ (WC (WJ WY (WG WM (WB 1) WE) WE) WD))) WD)))) WD)))))) WD))) (XF (WB 0) (WB 3))))) W2)
   (WI (WZ (WX W3 (WB 13) WE) (WK (WU (WJ Xi (WJ Xi (Xw (WB 0) (WB 3)) (XF (WB 0) (WJ Xd (WB 3) WE))) (W0 (WC (WG WM (WB 0) (WB 3)) WD))))) W2)
   (WK (WU (WJ Xi (WJ Xi (Xw (WB 0) (WB 3)) (W0 (WC (WB 14) WD))) (XF (WB 0) (WJ Xd (WB 3) WE)))))))))))))))))))),?_⟩
 obtain ⟨x0,a0,GS,Ie⟩:=hR.at (i:=0) (by decide) (by decide)
 obtain ⟨x1,a1,Ig,Ih⟩:=hR.at (i:=1) (by decide) (by decide)
 obtain ⟨x2,a2,LA,LB⟩:=hR.at (i:=2) (by decide) (by decide)
 obtain ⟨x3,a3,NK,NL⟩:=hR.at (i:=3) (by decide) (by decide)
 obtain ⟨x4,a4,LC,NM⟩:=hR.at (i:=4) (by decide) (by decide)
 have d4:(4:Int) < 2 ^ 1000:=by decide +kernel
 have pl:=Paired.length pap.p
 have pf:=pap.few
 have em:(if ((vps.length:Nat):Int) > 1 then ((vps.length:Nat):Int) else 1)=(vps.length:Int):=by split <;> omega
 have DX:=pap.DX
 obtain ⟨a,pv,ea,Jz,Bc⟩:=cw (xs:=vps) (r:=x0 % (vps.length:Int)) (S7 _ (by omega)) (S0 _ (by omega))
 have xp:a < vps.length:=(List.getElem?_eq_some_iff.mp Jz).1
 obtain ⟨e0,⟨cv,wh,wt,⟨en,yq,rm⟩,Bf⟩,oc,oo,od⟩:=DX pv (SF Jz)
 subst yq
 refine aV fun Rk kR=>?_
 refine ⟨_,rfl,r,_,_,_,rfl,rfl,aq.of fW,a0,_,rfl,pa,_,rfl,.inl (aq.of pap.h),_,_,rfl,_,_,rfl,rfl,(show (0:Int) < (if ((vps.length:Nat):Int) > 1 then ((vps.length:Nat):Int) else 1) by rw [em]; omega),?_⟩
 refine aG ?_
 refine kR _ _ ?_
 refine c8 [some (.ref pa),some (.ref r),some (.ref bx),some (.int (a:Nat)),none,none,none,none,none,none,none,none,none,none,none] (by rw [← (show x0 % (if ((vps.length:Nat):Int) > 1 then ((vps.length:Nat):Int) else 1)=(a:Int) by rw [em]; exact ea)]; rfl) ?_
 refine aV fun Rk kR=>?_
 rw [ea] at Bc
 refine ⟨_,rfl,_,rfl,pa,_,_,_,rfl,rfl,aq.of pap.h,Bc,en,_,rfl,aF.of rm,rfl,_,_,rfl,_,_,rfl,_,_,rfl,_,_,rfl,_,_,rfl,rfl,?_⟩
 refine kR _ _ ?_
 refine c8 [some (.ref pa),some (.ref r),some (.ref bx),some (.int (a:Nat)),some (.int e0.p),some (.int e0.q),some (cv),some (wh),some (wt),none,none,none,none,none,none] rfl ?_
 refine aV fun Rk kR=>?_
 refine ⟨_,rfl,r,_,_,_,rfl,rfl,aq.of fW,a1,_,_,rfl,rfl,(by show (0:Int) < 4; decide),YB,fun n1 Hj=>?_⟩
 obtain ⟨H1,t1,g1,zz⟩:=aH Hj (.tup [.str "number",.int (x1 % 4)])
 rw [zz]; clear zz
 refine ⟨YA,fun l1 uN=>?_⟩
 obtain ⟨H2,t2,g2,zz⟩:=aH uN (.lst [.ref n1])
 rw [zz]; clear zz
 refine ⟨_,rfl,l1,bx,_,_,rfl,rfl,g2,t2 _ _ (t1 _ _ Pq),small (by show 1 + vb.length<=1000; omega),fun so Fs=>?_⟩
 obtain ⟨H3,t3,g3,zz⟩:=aH Fs (.lst ([.ref n1]++vb))
 rw [zz]; clear zz
 have s3:=aa t1 (aa t2 t3)
 have zA:lQ b1 b2 H3 ([.ref n1]++vb):=fun v hv=>by
   rcases List.mem_cons.mp (show v∈V.ref n1 :: vb from hv) with rfl | hv
   · refine ⟨.num (x1 % 4),⟨n1,rfl,t3 _ _ (t2 _ _ g1)⟩,Tj,?_,rfl⟩
     show (x1 % 4).natAbs < 2 ^ 100
     have h1:0<=x1 % 4:=S7 _ (by decide)
     have h2:x1 % 4 < 4:=S0 _ (by decide)
     exact S8 (show (x1 % 4).natAbs < 4 by omega) (by decide)
   · exact Rc.same s3 v hv
 generalize Ma:([V.ref n1]++vb)=D4 at g3 zA
 have Ri:D4.length=vb.length + 1:=by rw [← Ma]; rfl
 have GR:(0:Int) < (D4.length:Int):=by omega
 clear Ma g1 g2
 refine aG ?_
 refine kR _ _ ?_
 refine c8 [some (.ref pa),some (.ref r),some (.ref bx),some (.int (a:Nat)),some (.int e0.p),some (.int e0.q),some (cv),some (wh),some (wt),some (.ref so),none,none,none,none,none] rfl ?_
 refine aV fun Rk kR=>?_
 obtain ⟨_,v1,_,hg1,yh⟩:=cw (xs:=D4) (r:=x1 / 4 % (D4.length:Int)) (S7 _ (by omega)) (S0 _ (by omega))
 obtain ⟨_,v2,_,hg2,yi⟩:=cw (xs:=D4) (r:=x2 % (D4.length:Int)) (S7 _ (by omega)) (S0 _ (by omega))
 obtain ⟨e1,L8,Oq,Ol,RD⟩:=zA v1 (SF hg1)
 obtain ⟨e2,L9,Ot,Om,RE⟩:=zA v2 (SF hg2)
 refine ⟨_,rfl,_,rfl,r,_,_,_,rfl,rfl,aq.of (s3 _ _ fW),a1,_,_,rfl,rfl,⟨by decide,d4⟩,_,rfl,so,_,rfl,.inl (aq.of g3),_,_,rfl,rfl,GR,so,_,_,_,rfl,rfl,aq.of g3,yh,?_⟩
 refine aG ?_
 refine kR _ _ ?_
 refine c8 [some (.ref pa),some (.ref r),some (.ref bx),some (.int (a:Nat)),some (.int e0.p),some (.int e0.q),some (cv),some (wh),some (wt),some (.ref so),some (v1),none,none,none,none] rfl ?_
 refine aV fun Rk kR=>?_
 refine ⟨_,rfl,_,rfl,r,_,_,_,rfl,rfl,aq.of (s3 _ _ fW),a2,_,rfl,so,_,rfl,.inl (aq.of g3),_,_,rfl,rfl,GR,so,_,_,_,rfl,rfl,aq.of g3,yi,?_⟩
 refine aG ?_
 refine kR _ _ ?_
 refine c8 [some (.ref pa),some (.ref r),some (.ref bx),some (.int (a:Nat)),some (.int e0.p),some (.int e0.q),some (cv),some (wh),some (wt),some (.ref so),some (v1),some (v2),none,none,none] rfl ?_
 refine aV fun Rk kR=>?_
 refine ⟨YA,fun w1 DT=>?_⟩
 obtain ⟨H4,t4,g4,zz⟩:=aH DT (.tup [.str "yes"])
 rw [zz]; clear zz
 refine ⟨_,rfl,YB,fun w2 Fy=>?_⟩
 obtain ⟨H5,t5,g5,zz⟩:=aH Fy (.tup [.str "not",cv])
 rw [zz]; clear zz
 refine ⟨_,rfl,_,rfl,_,rfl,YC,fun w3 Qx=>?_⟩
 obtain ⟨H6,t6,g6,zz⟩:=aH Qx (.tup [.str "same",v1,v2])
 rw [zz]; clear zz
 refine ⟨YC,fun w4 Qy=>?_⟩
 obtain ⟨H7,t7,g7,zz⟩:=aH Qy (.tup [.str "both",cv,.ref w3])
 rw [zz]; clear zz
 refine ⟨YC,fun wl hwl=>?_⟩
 obtain ⟨H8,t8,g8,zz⟩:=aH hwl (.lst [.ref w1,.ref w2,.ref w4])
 rw [zz]; clear zz
 have Gr:=aa t4 (aa t5 (aa t6 (aa t7 t8)))
 have s8:=aa s3 Gr
 have DE:b7 H8 cv e0.c:=Bf.keep (ai.tk s8)
 obtain ⟨_,wv,_,MA,rg⟩:=cw (xs:=[V.ref w1,V.ref w2,V.ref w4]) (r:=x3 % 3) (S7 _ (by decide)) (S0 _ (by decide))
 obtain ⟨we,MM,wc,wo,wd⟩ : ∃we:TW.E,b7 H8 wv we/\we.js/\we.okIn (lU b1 b2)/\we.dep<=d + 1:=by
   have hm:=SF MA
   rcases List.mem_cons.mp hm with rfl | hm
   · exact ⟨.yes,⟨w1,rfl,t8 _ _ (t7 _ _ (t6 _ _ (t5 _ _ g4)))⟩,Tj,Tj,TN _⟩
   rcases List.mem_cons.mp hm with rfl | hm
   · exact ⟨.nt e0.c,⟨cv,⟨w2,rfl,t8 _ _ (t7 _ _ (t6 _ _ g5))⟩,DE⟩,oc,oo,U6 od⟩
   rw [List.mem_singleton.mp hm]
   refine ⟨.two .both e0.c (.two .same e1 e2),⟨cv,.ref w3,⟨w4,rfl,t8 _ _ g7⟩,DE,⟨v1,v2,⟨w3,rfl,t8 _ _ (t7 _ _ g6)⟩,L8.keep (ai.tk Gr),L9.keep (ai.tk Gr)⟩⟩,⟨oc,Oq,Ot⟩,⟨oo,Ol,Om⟩,?_⟩
   show max e0.c.dep (max e1.dep e2.dep + 1) + 1<=d + 1
   omega
 refine ⟨_,rfl,r,_,_,_,rfl,rfl,aq.of (s8 _ _ fW),a3,_,_,rfl,rfl,(by show (0:Int) < 3; decide),wl,_,_,_,rfl,rfl,aq.of g8,rg,?_⟩
 have Ou:=L8.keep (ai.tk Gr)
 have Ov:=L9.keep (ai.tk Gr)
 clear g4 g5 g6 g7 g8 t4 t5 t6 t7 t8 g3 zA MA rg hg1 hg2 yh yi
 refine aG ?_
 refine kR _ _ ?_
 refine c8 [some (.ref pa),some (.ref r),some (.ref bx),some (.int (a:Nat)),some (.int e0.p),some (.int e0.q),some (cv),some (wh),some (wt),some (.ref so),some (v1),some (v2),some (wv),none,none] rfl ?_
 refine aV fun Rk kR=>?_
 refine ⟨_,rfl,r,_,_,_,rfl,rfl,aq.of (s8 _ _ fW),a4,_,_,rfl,rfl,(by show (0:Int) < 9; decide),?_⟩
 refine aG ?_
 refine kR _ _ ?_
 obtain ⟨way,Fz⟩ : ∃way:Int,way=x4 % 9:=⟨_,rfl⟩
 refine c8 [some (.ref pa),some (.ref r),some (.ref bx),some (.int (a:Nat)),some (.int e0.p),some (.int e0.q),some (cv),some (wh),some (wt),some (.ref so),some (v1),some (v2),some (wv),some (.int way),none] (by rw [Fz]; rfl) ?_
 clear Fz
 have oJ:=pap.same s8
 have lok8:ib b1 b2 (d + 1) H8 vps:=fun v hv=>by
   obtain ⟨e,h1,h2,h3,h4⟩:=oJ.DX v hv
   exact ⟨e,h1,h2,h3,by omega⟩
 have fin:∀(l:Addr) (vs:List V) (Hc:Hp),ai H8 Hc->Hc l=some (.lst vs)->ib b1 b2 (d + 1) Hc vs->vs.length<=m + 1->Q (.ref l) Hc:=fun l vs Hc sc hl ho hn=>by
   obtain ⟨ens',pp⟩:=ho.pap hn hl
   exact q l vs ens' Hc (aa s8 sc) pp
 have Sd:∀k,(vps.take k).length<=k:=fun k=>by rw [SH]; omega
 refine aV fun Rk kR=>?_
 refine ⟨_,rfl,rfl,_,rfl,?_⟩
 refine aD (fun _=>?_) (fun _=>?_)
 · refine ⟨_,rfl,_,rfl,_,rfl,pa,_,rfl,aq.of oJ.h,fun c1 xr=>?_⟩
   rw [f7 vps (show a<=vps.length by omega)]
   obtain ⟨K1,k1,f1,zz⟩:=aH xr (.lst (vps.take a))
   rw [zz]; clear zz
   refine ⟨_,rfl,_,rfl,_,_,rfl,rfl,_,rfl,pa,_,rfl,aq.of (k1 _ _ oJ.h),fun c2 Be=>?_⟩
   rw [show ((a:Int) + 1)=((a + 1:Nat):Int) from rfl,fg vps (show a + 1<=vps.length by omega)]
   obtain ⟨K2,k2,f2,zz⟩:=aH Be (.lst (vps.drop (a + 1)))
   rw [zz]; clear zz
   refine ⟨c1,c2,_,_,rfl,rfl,k2 _ _ f1,f2,small (by rw [SH,To]; omega),fun l hl=>?_⟩
   exact fin l _ _ (ao (aa k1 k2) hl) ae (((lok8.take a).app (lok8.drop (a + 1))).same (ao (aa k1 k2) hl)) (by rw [Sy,SH,To]; omega)
 refine kR _ _ ?_
 refine aV fun Rk kR=>?_
 refine ⟨_,rfl,_,rfl,_,rfl,YD,fun ul Qt=>?_⟩
 obtain ⟨H9,t9,g9,zz⟩:=aH Qt (.lst [.str "mine",.str "yours",.str "both",.str "end"])
 rw [zz]; clear zz
 obtain ⟨_,uw,_,_,yj⟩:=cw (xs:=[V.str "mine",V.str "yours",V.str "both",V.str "end"]) (r:=x3 % 4) (S7 _ (by decide)) (S0 _ (by decide))
 refine ⟨_,rfl,r,_,_,_,rfl,rfl,aq.of (t9 _ _ (s8 _ _ fW)),a3,_,_,rfl,rfl,(by show (0:Int) < 4; decide),ul,_,_,_,rfl,rfl,aq.of g9,yj,_,rfl,YE,fun nt Qb=>?_⟩
 obtain ⟨D8,Nx,Mb,zz⟩:=aH Qb (.tup [.int e0.p,.int e0.q,cv,uw,wt])
 rw [zz]; clear zz
 refine aG ?_
 refine kR _ _ ?_
 have tA:=aa t9 Nx
 have IF:lN b1 b2 (d + 1) D8 (.ref nt):=lN.mk Mb (DE.keep (ai.tk tA)) ⟨oc,oo,by omega⟩
 refine c8 [some (.ref pa),some (.ref r),some (.ref bx),some (.int (a:Nat)),some (.int e0.p),some (.int e0.q),some (cv),some (wh),some (wt),some (.ref so),some (v1),some (v2),some (wv),some (.int way),some (.ref nt)] rfl ?_
 clear g9 Mb t9 Nx yj
 refine aV fun Rk kR=>?_
 suffices pX:∀(ent:V) (Hc:Hp),ai H8 Hc->lN b1 b2 (d + 1) Hc ent->Rk [some (.ref pa),some (.ref r),some (.ref bx),some (.int (a:Nat)),some (.int e0.p),some (.int e0.q),some (cv),some (wh),some (wt),some (.ref so),some (v1),some (v2),some (wv),some (.int way),some (ent)] Hc by
   refine ⟨_,rfl,rfl,_,rfl,?_⟩
   refine aD (fun _=>?_) (fun _=>pX _ _ tA IF)
   refine ⟨_,rfl,_,rfl,_,rfl,_,rfl,_,rfl,r,_,_,_,rfl,rfl,aq.of (tA _ _ (s8 _ _ fW)),a3,_,_,rfl,rfl,(by show (0:Int) < 3; decide),YB,fun y1 Km=>⟨_,rfl,_,rfl,YC,fun y2 Kn=>⟨_,rfl,YC,fun y3 Ko=>?_⟩⟩⟩
   have y4:ai D8 (upd (upd (upd D8 y1 (.tup [.str "number",.int (x3 % 3)])) y2 (.tup [.str "less",v1,v2])) y3 (.lst [.ref y1,.ref y2,v1])):=ao (ao (af Km _) Kn) Ko
   have y5:(upd (upd (upd D8 y1 (.tup [.str "number",.int (x3 % 3)])) y2 (.tup [.str "less",v1,v2])) y3 (.lst [.ref y1,.ref y2,v1])) y3=some (.lst [.ref y1,.ref y2,v1]):=ae
   generalize upd (upd (upd D8 y1 (.tup [.str "number",.int (x3 % 3)])) y2 (.tup [.str "less",v1,v2])) y3 (.lst [.ref y1,.ref y2,v1])=Hy at y4 y5 ⊢
   obtain ⟨_,uv,_,_,yj⟩:=cw (xs:=[V.ref y1,V.ref y2,v1]) (r:=x2 / 4 % 3) (S7 _ (by decide)) (S0 _ (by decide))
   refine ⟨_,rfl,r,_,_,_,rfl,rfl,aq.of (y4 _ _ (tA _ _ (s8 _ _ fW))),a2,_,_,rfl,rfl,⟨by decide,d4⟩,_,_,rfl,rfl,(by show (0:Int) < 3; decide),y3,_,_,_,rfl,rfl,aq.of y5,yj,YE,fun Lb oj=>?_⟩
   obtain ⟨Hn,z1,z2,zz⟩:=aH oj (.tup [.int e0.p,.int e0.q,cv,wh,uv])
   rw [zz]; clear zz
   refine aG ?_
   exact pX _ _ (aa (aa tA y4) z1) (lN.mk z2 (DE.keep (ai.tk (aa (aa tA y4) z1))) ⟨oc,oo,by omega⟩)
 intro ent Hc sc AZ
 have eK:=oJ.same sc
 refine kR _ _ ?_
 refine aV fun Rk kR=>?_
 suffices pX:∀(ent:V) (Hc:Hp),ai H8 Hc->lN b1 b2 (d + 1) Hc ent->Rk [some (.ref pa),some (.ref r),some (.ref bx),some (.int (a:Nat)),some (.int e0.p),some (.int e0.q),some (cv),some (wh),some (wt),some (.ref so),some (v1),some (v2),some (wv),some (.int way),some (ent)] Hc by
   refine ⟨_,rfl,rfl,_,rfl,?_⟩
   refine aD (fun _=>?_) (fun _=>pX _ _ sc AZ)
   refine ⟨_,rfl,_,rfl,_,rfl,_,rfl,_,rfl,YE,fun Lb oj=>?_⟩
   obtain ⟨Hn,z1,z2,zz⟩:=aH oj (.tup [.int e0.p,.int e0.q,wv,wh,wt])
   rw [zz]; clear zz
   refine aG ?_
   exact pX _ _ (aa sc z1) (lN.mk z2 (MM.keep (ai.tk (aa sc z1))) ⟨wc,wo,wd⟩)
 intro ent Hc sc AZ
 replace eK:=oJ.same sc
 refine kR _ _ ?_
 refine aV fun Rk kR=>?_
 suffices pX:∀(ent:V) (Hc:Hp),ai H8 Hc->lN b1 b2 (d + 1) Hc ent->Rk [some (.ref pa),some (.ref r),some (.ref bx),some (.int (a:Nat)),some (.int e0.p),some (.int e0.q),some (cv),some (wh),some (wt),some (.ref so),some (v1),some (v2),some (wv),some (.int way),some (ent)] Hc by
   refine ⟨_,rfl,rfl,_,rfl,?_⟩
   refine aD (fun _=>?_) (fun _=>pX _ _ sc AZ)
   obtain ⟨a9,Ln,_,Jy,uF⟩:=cw (xs:=vps) (r:=x2 % (vps.length:Int)) (S7 _ (by omega)) (S0 _ (by omega))
   obtain ⟨e9,⟨Oc,Rn,Ro,⟨ID,uJ,Bg⟩,_⟩,_⟩:=eK.DX Ln (SF Jy)
   subst uJ
   refine ⟨_,rfl,_,rfl,r,_,_,_,rfl,rfl,aq.of (sc _ _ (s8 _ _ fW)),a2,_,rfl,pa,_,rfl,.inl (aq.of eK.h),_,_,rfl,rfl,(show (0:Int) < (vps.length:Int) by omega),pa,_,_,_,rfl,rfl,aq.of eK.h,uF,ID,_,_,_,rfl,rfl,aF.of Bg,rfl,_,rfl,_,rfl,_,rfl,_,rfl,YE,fun Lb oj=>?_⟩
   obtain ⟨Hn,z1,z2,zz⟩:=aH oj (.tup [.int e9.p,.int e0.q,cv,wh,wt])
   rw [zz]; clear zz
   refine aG ?_
   exact pX _ _ (aa sc z1) (lN.mk z2 (DE.keep (ai.tk (aa sc z1))) ⟨oc,oo,by omega⟩)
 intro ent Hc sc AZ
 replace eK:=oJ.same sc
 refine kR _ _ ?_
 refine aV fun Rk kR=>?_
 suffices pX:∀(ent:V) (Hc:Hp),ai H8 Hc->lN b1 b2 (d + 1) Hc ent->Rk [some (.ref pa),some (.ref r),some (.ref bx),some (.int (a:Nat)),some (.int e0.p),some (.int e0.q),some (cv),some (wh),some (wt),some (.ref so),some (v1),some (v2),some (wv),some (.int way),some (ent)] Hc by
   refine ⟨_,rfl,rfl,_,rfl,?_⟩
   refine aD (fun _=>?_) (fun _=>pX _ _ sc AZ)
   obtain ⟨a9,Ln,_,Jy,uF⟩:=cw (xs:=vps) (r:=x2 % (vps.length:Int)) (S7 _ (by omega)) (S0 _ (by omega))
   obtain ⟨e9,⟨Oc,Rn,Ro,⟨ID,uJ,Bg⟩,_⟩,_⟩:=eK.DX Ln (SF Jy)
   subst uJ
   refine ⟨_,rfl,_,rfl,_,rfl,r,_,_,_,rfl,rfl,aq.of (sc _ _ (s8 _ _ fW)),a2,_,rfl,pa,_,rfl,.inl (aq.of eK.h),_,_,rfl,rfl,(show (0:Int) < (vps.length:Int) by omega),pa,_,_,_,rfl,rfl,aq.of eK.h,uF,ID,_,_,_,rfl,rfl,aF.of Bg,rfl,_,rfl,_,rfl,_,rfl,YE,fun Lb oj=>?_⟩
   obtain ⟨Hn,z1,z2,zz⟩:=aH oj (.tup [.int e0.p,.int e9.q,cv,wh,wt])
   rw [zz]; clear zz
   refine aG ?_
   exact pX _ _ (aa sc z1) (lN.mk z2 (DE.keep (ai.tk (aa sc z1))) ⟨oc,oo,by omega⟩)
 intro ent Hc sc AZ
 replace eK:=oJ.same sc
 refine kR _ _ ?_
 refine aV fun Rk kR=>?_
 refine ⟨_,rfl,rfl,_,rfl,?_⟩
 refine aD (fun _=>?_) (fun _=>?_)
 · refine ⟨_,rfl,_,rfl,_,rfl,pa,_,rfl,aq.of eK.h,fun c1 xr=>?_⟩
   rw [f7 vps (show a<=vps.length by omega)]
   obtain ⟨K1,k1,f1,zz⟩:=aH xr (.lst (vps.take a))
   rw [zz]; clear zz
   refine ⟨_,rfl,_,rfl,_,rfl,_,rfl,_,rfl,_,rfl,r,_,_,_,rfl,rfl,aq.of (k1 _ _ (sc _ _ (s8 _ _ fW))),a1,_,_,rfl,rfl,(by show (0:Int) < 2; decide),YB,fun y1 Km=>⟨YC,fun y2 Kn=>⟨YE,fun y3 Ko=>⟨YA,fun y4 MO=>?_⟩⟩⟩⟩
   have k3:ai K1 (upd (upd (upd (upd K1 y1 (.tup [.str "number",.int (x1 % 2)])) y2 (.tup [.str "plus",wt,.ref y1])) y3 (.tup [.int e0.p,.int e0.q,wv,wh,.ref y2])) y4 (.lst [.ref y3])):=ao (ao (ao (af Km _) Kn) Ko) MO
   have f3:(upd (upd (upd (upd K1 y1 (.tup [.str "number",.int (x1 % 2)])) y2 (.tup [.str "plus",wt,.ref y1])) y3 (.tup [.int e0.p,.int e0.q,wv,wh,.ref y2])) y4 (.lst [.ref y3])) y4=some (.lst [.ref y3]):=ae
   have f4:(upd (upd (upd (upd K1 y1 (.tup [.str "number",.int (x1 % 2)])) y2 (.tup [.str "plus",wt,.ref y1])) y3 (.tup [.int e0.p,.int e0.q,wv,wh,.ref y2])) y4 (.lst [.ref y3])) y3=some (.tup [.int e0.p,.int e0.q,wv,wh,.ref y2]):=by rw [aj (ag ae MO)]; exact ae
   generalize upd (upd (upd (upd K1 y1 (.tup [.str "number",.int (x1 % 2)])) y2 (.tup [.str "plus",wt,.ref y1])) y3 (.tup [.int e0.p,.int e0.q,wv,wh,.ref y2])) y4 (.lst [.ref y3])=K3 at k3 f3 f4 ⊢
   refine ⟨c1,y4,_,_,rfl,rfl,k3 _ _ f1,f3,small (by rw [SH]; show _ + 1<=1000; omega),fun c3 sJ=>?_⟩
   obtain ⟨K4,k4,f5,zz⟩:=aH sJ (.lst (vps.take a++[.ref y3]))
   rw [zz]; clear zz
   have k14:=aa k1 (aa k3 k4)
   refine ⟨_,rfl,_,rfl,_,rfl,pa,_,rfl,aq.of (k14 _ _ eK.h),fun c2 Be=>?_⟩
   rw [fg vps (show a<=vps.length by omega)]
   obtain ⟨K5,k5,f2,zz⟩:=aH Be (.lst (vps.drop a))
   rw [zz]; clear zz
   refine ⟨c3,c2,_,_,rfl,rfl,k5 _ _ f5,f2,small (by rw [Sy,SH,To]; show _ + 1 + _<=1000; omega),fun l hl=>?_⟩
   have k6:ai K3 (upd K5 l (.lst (vps.take a++[.ref y3]++vps.drop a))):=ao (aa k4 k5) hl
   have k7:=aa k1 (aa k3 k6)
   exact fin l _ _ (aa sc k7) ae (((lok8.take a).same (aa sc k7)).app (ib.one ((lN.mk f4 (MM.keep (ai.tk (aa sc (aa k1 k3)))) ⟨wc,wo,wd⟩).same k6)) |>.app ((lok8.drop a).same (aa sc k7))) (by rw [Sy,Sy,SH,To]; show _ + 1 + _<=_; omega)
 refine kR _ _ ?_
 refine aV fun Rk kR=>?_
 refine ⟨_,rfl,rfl,_,rfl,?_⟩
 refine aD (fun _=>?_) (fun _=>?_)
 · refine ⟨_,rfl,_,rfl,_,rfl,pa,_,rfl,aq.of eK.h,fun c1 xr=>?_⟩
   rw [f7 vps (show a<=vps.length by omega)]
   obtain ⟨K1,k1,f1,zz⟩:=aH xr (.lst (vps.take a))
   rw [zz]; clear zz
   refine ⟨_,rfl,_,rfl,_,_,rfl,rfl,_,rfl,pa,_,rfl,aq.of (k1 _ _ eK.h),fun c2 Be=>?_⟩
   rw [show ((a:Int) + 1)=((a + 1:Nat):Int) from rfl,fg vps (show a + 1<=vps.length by omega)]
   obtain ⟨K2,k2,f2,zz⟩:=aH Be (.lst (vps.drop (a + 1)))
   rw [zz]; clear zz
   refine ⟨c1,c2,_,_,rfl,rfl,k2 _ _ f1,f2,small (by rw [SH,To]; omega),fun c3 sJ=>?_⟩
   obtain ⟨K3,k3,f3,zz⟩:=aH sJ (.lst (vps.take a++vps.drop (a + 1)))
   rw [zz]; clear zz
   have k13:=aa k1 (aa k2 k3)
   refine ⟨_,rfl,_,rfl,pa,_,_,_,rfl,rfl,aq.of (k13 _ _ eK.h),Bc,YA,fun c4 Jj=>?_⟩
   obtain ⟨K4,k4,f4,zz⟩:=aH Jj (.lst [.ref en])
   rw [zz]; clear zz
   refine ⟨c3,c4,_,_,rfl,rfl,k4 _ _ f3,f4,small (by rw [Sy,SH,To]; show _ + _ + 1<=1000; omega),fun l hl=>?_⟩
   have k5:=aa k13 (ao k4 hl (o:=.lst (vps.take a++vps.drop (a + 1)++[.ref en])))
   exact fin l _ _ (aa sc k5) ae (((lok8.take a).app (lok8.drop (a + 1))).app (ib.one (lok8 _ (SF Jz))) |>.same (aa sc k5)) (by rw [Sy,Sy,SH,To]; show _ + _ + 1<=_; omega)
 refine kR _ _ ?_
 refine ⟨_,rfl,_,rfl,_,rfl,pa,_,rfl,aq.of eK.h,fun c1 xr=>?_⟩
 rw [f7 vps (show a<=vps.length by omega)]
 obtain ⟨K1,k1,f1,zz⟩:=aH xr (.lst (vps.take a))
 rw [zz]; clear zz
 refine ⟨_,rfl,YA,fun c3 sJ=>?_⟩
 obtain ⟨K3,k3,f3,zz⟩:=aH sJ (.lst [ent])
 rw [zz]; clear zz
 refine ⟨c1,c3,_,_,rfl,rfl,k3 _ _ f1,f3,small (by rw [SH]; show _ + 1<=1000; omega),fun c4 Jj=>?_⟩
 obtain ⟨K4,k4,f4,zz⟩:=aH Jj (.lst (vps.take a++[ent]))
 rw [zz]; clear zz
 have k14:=aa k1 (aa k3 k4)
 refine ⟨_,rfl,_,rfl,_,_,rfl,rfl,_,rfl,pa,_,rfl,aq.of (k14 _ _ eK.h),fun c2 Be=>?_⟩
 rw [show ((a:Int) + 1)=((a + 1:Nat):Int) from rfl,fg vps (show a + 1<=vps.length by omega)]
 obtain ⟨K5,k5,f2,zz⟩:=aH Be (.lst (vps.drop (a + 1)))
 rw [zz]; clear zz
 refine ⟨c4,c2,_,_,rfl,rfl,k5 _ _ f4,f2,small (by rw [Sy,SH,To]; show _ + 1 + _<=1000; omega),fun l hl=>?_⟩
 have k7:=aa k14 (ao k5 hl (o:=.lst (vps.take a++[ent]++vps.drop (a + 1))))
 exact fin l _ _ (aa sc k7) ae (((lok8.take a).same (aa sc k7)).app (ib.one (AZ.same k7)) |>.app ((lok8.drop (a + 1)).same (aa sc k7))) (by rw [Sy,Sy,SH,To]; show _ + 1 + _<=_; omega)
theorem ye (s:Src K mg "_law_spoilt" wF)(m_len:mg "len"=none)(m_max:mg "max"=none):aP P w K mg base "_law_spoilt" ["paper","row","boxes"] 1 qy:=
 let ⟨f,fd,F,m⟩:=s
 ⟨f,fd,Cg F m_len m_max,F.kp,nM F fun _ _ _ _ _ _ _ _ _=>rfl,m⟩
abbrev jB:Stmt:=top 41
def pL (b1 b2:List (Str×Int))(ah:List En)(e:En)(r:Nat):Bool:=iY b1 b2 e.c r && !(ah.any fun e'=>iY b1 b2 e'.c r)
theorem pM (b1 b2:List (Str×Int))(ens:List En)(k:Nat)(e:En):ju b1 b2 ens k e=(S5 (nR b1 b2)).filter (pL b1 b2 ((ens.take k).filter fun e'=>jA e' e.p e.q) e):=by
 unfold ju tR cH
 rw [Vs]
 apply UC
 intro r _
 unfold pL
 congr 2
 generalize hx:(ens.take k).filter (fun e'=>jA e' e.p e.q)=xs
 have all:∀x∈xs,jA x e.p e.q=true:=fun x hm=>by rw [← hx] at hm; exact (List.mem_filter.mp hm).2
 clear hx
 induction xs with
 | nil=>rfl
 | cons x xs ih=>
   rw [Ug,Ug,all x TV,U0,ih fun y hy=>all y (List.mem_cons.mpr (.inr hy))]
def D6 (b1 b2:List (Str×Int))(H:Hp)(t:Addr)(r:Nat):Prop:=∃m y,H t=some (.tup [.ref m,.ref y])/\H m=some (.lst ((wA (av b1) (r / (av b2).length)).map V.int))/\H y=some (.lst ((wA (av b2) (r % (av b2).length)).map V.int))
def tH (b1 b2:List (Str×Int))(fo:Addr)(H:Hp)(t:Addr)(r:Nat):Prop:=∃m y,H t=some (.tup [.ref m,.ref y])/\H m=some (.lst ((wA (av b1) (r / (av b2).length)).map V.int))/\H y=some (.lst ((wA (av b2) (r % (av b2).length)).map V.int))/\t≠fo/\m≠fo/\y≠fo
theorem tH.same {b1 b2:List (Str×Int)}{fo:Addr}{H H':Hp}{t:Addr}{r:Nat}(h:tH b1 b2 fo H t r)(s:ai H H'):tH b1 b2 fo H' t r:=let ⟨m,y,h1,h2,h3,h4⟩:=h; ⟨m,y,s _ _ h1,s _ _ h2,s _ _ h3,h4⟩
theorem tH.put {b1 b2:List (Str×Int)}{fo:Addr}{H:Hp}{t:Addr}{r:Nat}{o:HO}(h:tH b1 b2 fo H t r):tH b1 b2 fo (upd H fo o) t r:=let ⟨m,y,h1,h2,h3,n1,n2,n3⟩:=h; ⟨m,y,by rw [aj n1]; exact h1,by rw [aj n2]; exact h2,by rw [aj n3]; exact h3,n1,n2,n3⟩
theorem tH.at {b1 b2:List (Str×Int)}{fo:Addr}{H:Hp}{t:Addr}{r:Nat}(h:tH b1 b2 fo H t r):D6 b1 b2 H t r:=let ⟨m,y,h1,h2,h3,_⟩:=h; ⟨m,y,h1,h2,h3⟩
structure NW (n:Nat)(H:Hp)(v1 v2:V)(pa:Addr)(b1 b2:List (Str×Int))(ens:List En):Prop where
 x1:dA H v1 b1
 x2:dA H v2 b2
 nd1:(b1.map (·.1)).Nodup
 nd2:(b2.map (·.1)).Nodup
 l1:b1.length<=100
 l2:b2.length<=100
 fw1:iA (b1.map (·.2))
 fw2:iA (b2.map (·.2))
 few:nR b1 b2<=3000
 pa:∃vps,H pa=some (.lst vps)/\Paired (cB H) vps ens
 el:ens.length<=300
 eo:GX b1 b2 n ens
def wU (n:Nat):Sp:=fun vs H Q _=>∃(v1 v2:V) (pa:Addr) (k:Nat) (e:En) (b1 b2:List (Str×Int)) (ens:List En),vs=[v1,v2,.ref pa,.int (k:Nat)]/\NW n H v1 v2 pa b1 b2 ens/\ens[k]? = some e /\
 ∀(l:Addr) (ts:List Addr) (H':Hp),ai H H'->H' l=some (.lst (ts.map V.ref))->Paired (D6 b1 b2 H') ts (ju b1 b2 ens k e)->Q (.ref l) H'
theorem ko:aE ["one","other","paper","number","ahead","found","mine","yours","boxes"] ["one","other","paper","number"] (ak jB):=⟨rfl,rfl,rfl,by decide +kernel,rfl,by decide +kernel,by decide +kernel⟩
theorem dt:ba jB "_law_worths":=by decide +kernel
theorem iP:ba jB "_law_known":=by decide +kernel
theorem uc:ba jB "any":=by decide +kernel
theorem jw:ba jB "_law_true":=by decide +kernel
theorem B4 {n:Nat}{f:Addr}{fd:S9}(F:cL K "_law_due" "_law_due" jB f fd)(m_any:mg "any"=none)(LW0:aP P w K mg base "_law_worths" ["sizes"] 1 qv)(LK0:aP P w K mg base "_law_known" ["one","other","mine","yours"] 1 qu)(LT0:∀n,aP P w K mg base "_law_true" ["thing","boxes"] (n + 2) (dr n)):aN P w K mg base b6 (n + 4) f fd ["one","other","paper","number"] (wU n):=by
 refine F.ok ko (fun vs H Q E h=>?_) (fun cdv A outer s H vs Q E hr h=>?_)
 · obtain ⟨v1,v2,pa,k,e,b1,b2,ens,rfl,_⟩:=h
   rfl
 obtain ⟨v1,v2,pa,k,e,b1,b2,ens,rfl,P3,yo,q⟩:=h
 have LW:=LW0.mono (show 1<=n + 3 by omega)
 have LK:=LK0.mono (show 1<=n + 3 by omega)
 have LT:=(LT0 n).mono (show n + 2<=n + 3 by omega)
 refine fC ⟨_,(WI (Xr (i:=4) [none,some 2,some 3] ["entry","paper","number"] (show ar _ (ak jB) from ⟨rfl,by decide +kernel,by decide +kernel,by decide +kernel⟩) (by rfl) (W5 (Xw (WB 2) (WB 3))) (fun _ _ _ _ _=>⟨(WN 0 (show (["entry","paper","number"]:List Str).Nodup from by decide +kernel)),(XJ (WX (XC (m:=0) (bq hr _ (by decide))) (L3.GC (WB 0) WE) (L3.GC (WG WM (WB 1) (WB 2)) WE))),(WB 0)⟩) ko.nd)
   (WI (WS 5 ko.nd (W0 WD))
   (WI (Xb (W5 (WV LW hr dt (WC (Xc [none,none] ["name","size"] (show ar _ (ak jB) from ⟨rfl,by decide +kernel,by decide +kernel,by decide +kernel⟩) (by rfl) (W5 (WG WR (WB 0) WE)) (fun _ _ _ _ _=>⟨(W7 2 (WW (WN 0 (show (["name","size"]:List Str).Nodup from by decide +kernel)) (WW (WN 1 (show (["name","size"]:List Str).Nodup from by decide +kernel)) W8))),W6,(WB 1)⟩)) WD))) (WN 6 ko.nd) (WK (Xb (W5 (WV LW hr dt (WC (Xc [none,none] ["name","size"] (show ar _ (ak jB) from ⟨rfl,by decide +kernel,by decide +kernel,by decide +kernel⟩) (by rfl) (W5 (WG WR (WB 1) WE)) (fun _ _ _ _ _=>⟨(W7 2 (WW (WN 0 (show (["name","size"]:List Str).Nodup from by decide +kernel)) (WW (WN 1 (show (["name","size"]:List Str).Nodup from by decide +kernel)) W8))),W6,(WB 1)⟩)) WD))) (WN 7 ko.nd) (WI (WS 8 ko.nd (WV LK hr iP (WC (WB 0) (WC (WB 1) (WC (WB 6) (WC (WB 7) WD))))))
   (WK (WZ (Xq (L3.AU (Xo (WV LT hr jw (WC (WG WR (WG WM (WB 2) (WB 3)) WE) (WC (WB 8) WD)))) (L3.AR (XA (Xo (W4 L3.Eg uc m_any (by decide +kernel) (WC (Xc [none,some 8] ["entry","boxes"] (show ar _ (ak jB) from ⟨rfl,by decide +kernel,by decide +kernel,by decide +kernel⟩) (by rfl) (W5 (WB 4)) (fun _ _ _ _ _=>⟨(WN 0 (show (["entry","boxes"]:List Str).Nodup from by decide +kernel)),W6,(WV LT hr (by rfl) (WC (WG WR (WB 0) WE) (WC (WB 1) WD)))⟩)) WD))))))) (WK (Xh (Xk (WB 5) (WC (WT (WC (WB 6) (WC (WB 7) WD))) WD)))) W2))))))
   (WK (WU (WB 5)))))),?_⟩
 obtain ⟨vps,om,pe⟩:=P3.pa
 obtain ⟨p1,B1,I1,N1,nB,rfl,hp1,hB1,e8⟩:=id P3.x1
 obtain ⟨p2,B2,I2,N2,nq,rfl,bF,xn,mV⟩:=id P3.x2
 have Ia:=Paired.length e8
 have Ib:=Paired.length mV
 have f1:=P3.l1
 have f2:=P3.l2
 have el:=P3.el
 have vl:=Paired.length pe
 have hk:k < ens.length:=(List.getElem?_eq_some_iff.mp yo).1
 have sQ:k < vps.length:=by omega
 have Fw:vps[k]? = some vps[k]:=Sx sQ
 have n9:eZ vps ((k:Nat):Int)=some vps[k]:=bJ Fw
 obtain ⟨e0,Mv,cv,wh,wt,⟨en,u9,rm⟩,Bf⟩:=Paired.get pe Fw
 obtain rfl:e0=e:=by rw [yo] at Mv; exact (S6 Mv).symm
 rw [u9] at n9
 refine aV fun Rk kR=>?_
 refine ⟨_,rfl,_,rfl,_,rfl,pa,_,rfl,aq.of om,fun sl Kh=>?_⟩
 rw [f7 vps (by omega)]
 have s1:=af Kh (.lst (vps.take k))
 have zQ:(upd H sl (.lst (vps.take k))) sl=some (.lst (vps.take k)):=ae
 generalize upd H sl (.lst (vps.take k))=H1 at s1 zQ ⊢
 refine ⟨sl,rfl,⟨_,aq.of zQ⟩,fun ah DH=>?_⟩
 have DZ:=Paired.take k pe
 refine aL (xs:=vps.take k) (fun i Hy=>ai H1 Hy/\∃va,Hy ah=some (.lst va)/\va.length<=i/\Paired (cB Hy) va (((ens.take k).take i).filter fun e'=>jA e' e0.p e0.q)) ⟨af DH _,[],ae,Sz _,.nil⟩ (fun i Hy _ z=>aq.of (z.1 _ _ zQ)) (fun i x Hy hx z=>?_) (fun H3 z=>?_)
 · obtain ⟨sy,va,sX,gC,qa⟩:=z
   have cj:i < (vps.take k).length:=(List.getElem?_eq_some_iff.mp hx).1
   obtain ⟨ei,sO,IW⟩:=Paired.get DZ hx
   have EO:=IW.same (aa s1 sy)
   obtain ⟨L5,NI,NJ,⟨zM,rfl,yp⟩,Jr⟩:=id EO
   refine aG ?_
   refine ⟨_,rfl,_,rfl,zM,_,rfl,aF.of yp,(fun z=>absurd z.2 (by show ¬ (2=5); decide)),fun t2 Ft=>?_⟩
   have s5:ai Hy (upd Hy t2 (.tup [.int ei.p,.int ei.q])):=af Ft _
   have g5:(upd Hy t2 (.tup [.int ei.p,.int ei.q])) t2=some (.tup [.int ei.p,.int ei.q]):=ae
   rw [show fe [V.int ei.p,V.int ei.q,L5,NI,NJ] none (some 2)=[V.int ei.p,V.int ei.q] from rfl]
   generalize upd Hy t2 (.tup [.int ei.p,.int ei.q])=Hz at s5 g5 ⊢
   have s1z:=aa s1 (aa sy s5)
   refine ⟨_,rfl,_,rfl,pa,_,_,_,rfl,rfl,aq.of (s1z _ _ om),n9,_,rfl,en,_,rfl,aF.of (s1z _ _ rm),(fun z=>absurd z.2 (by show ¬ (2=5); decide)),fun t3 Qp=>?_⟩
   have s6:ai Hz (upd Hz t3 (.tup [.int e0.p,.int e0.q])):=af Qp _
   have g6:(upd Hz t3 (.tup [.int e0.p,.int e0.q])) t3=some (.tup [.int e0.p,.int e0.q]):=ae
   rw [show fe [V.int e0.p,V.int e0.q,cv,wh,wt] none (some 2)=[V.int e0.p,V.int e0.q] from rfl]
   generalize upd Hz t3 (.tup [.int e0.p,.int e0.q])=Hw at s6 g6 ⊢
   refine ⟨_,RB.ints2 (s6 _ _ g5) g6,_,rfl,?_⟩
   have jZ:(vps.take k).length<=300:=by rw [SH]; omega
   have s56:=aa s5 s6
   refine aD (fun c=>?_) (fun c=>?_)
   · refine ⟨_,rfl,_,s56 _ _ sX,jh (by omega),aA (Pv:=fun i Hy=>ai H1 Hy/\∃va,Hy ah=some (.lst va)/\va.length<=i/\Paired (cB Hy) va (((ens.take k).take i).filter fun e'=>jA e' e0.p e0.q)) (by repeat' constructor) cj ⟨az (aa sy s56) DH,va++[.ref zM],ae,by rw [Sy]; show _ + 1<=_; omega,?_⟩⟩
     rw [aS sO,if_pos (show jA ei e0.p e0.q=true from c)]
     have kk:TK Hy (upd Hw ah (.lst (va++[.ref zM]))):=fun b xs z=>by rw [aj (b8 (s56 _ _ z) (s56 _ _ sX) (fun z=>nomatch z))]; exact s56 _ _ z
     exact Paired.snoc (Paired.aI qa fun _ _ z=>cB.keep z kk) (cB.keep EO kk)
   · refine aA (Pv:=fun i Hy=>ai H1 Hy/\∃va,Hy ah=some (.lst va)/\va.length<=i/\Paired (cB Hy) va (((ens.take k).take i).filter fun e'=>jA e' e0.p e0.q)) (by repeat' constructor) cj ⟨aa sy s56,va,s56 _ _ sX,by omega,?_⟩
     rw [aS sO,if_neg (show ¬ jA ei e0.p e0.q=true from c),Tu]
     exact Paired.aI qa fun _ _ z=>z.same s56
 obtain ⟨sy,va,sX,gC,qa⟩:=z
 have DF:(vps.take k).length=(ens.take k).length:=Paired.length DZ
 rw [DF,SV] at qa
 have Kk:va.length<=300:=by rw [SH] at DF; rw [SH] at gC; omega
 have s2:=aa s1 sy
 have sub:∀x∈((ens.take k).filter fun e'=>jA e' e0.p e0.q),x∈ens:=fun x hx=>T9 (List.mem_filter.mp hx).1
 rw [pM] at q
 generalize ((ens.take k).filter fun e'=>jA e' e0.p e0.q)=lR at qa sub q
 clear sy s1 zQ DH DZ gC DF
 refine kR _ _ ?_
 refine aV fun Rk kR=>?_
 refine ⟨Yz,fun fo My=>?_⟩
 have s3:=af My (.lst [])
 have G6:(upd H3 fo (.lst [])) fo=some (.lst []):=ae
 have s0:=aa s2 s3
 generalize upd H3 fo (.lst [])=H4 at s3 G6 s0 ⊢
 refine aG ?_
 refine kR _ _ ?_
 refine ⟨_,rfl,p1,_,_,_,rfl,rfl,aF.of (s0 _ _ hp1),rfl,B1,rfl,⟨_,aq.of (s0 _ _ hB1)⟩,fun HS hl=>?_⟩
 refine aL (xs:=nB) (fun i Hy=>ai H4 Hy/\Hy HS=some (.lst (((b1.take i).map (·.2)).map V.int))) ⟨af hl _,ae⟩ (fun i Hy _ z=>aq.of (z.1 _ _ (s0 _ _ hB1))) (fun i x Hy hx z=>?_) (fun H5 z=>?_)
 · obtain ⟨sy,hy⟩:=z
   have cj:i < nB.length:=(List.getElem?_eq_some_iff.mp hx).1
   obtain ⟨b,fD,e8,rfl,hC⟩:=Paired.get e8 hx
   refine ⟨e8,_,rfl,aF.of (sy _ _ (s0 _ _ hC)),rfl,_,_,rfl,_,_,rfl,rfl,?_⟩
   refine bp (A:=fun H3=>bK _ HS _ H3 _) ?_
   refine ⟨_,rfl,_,hy,jh (by rw [Sv,Sv,SH]; omega),aA (Pv:=fun i Hy=>ai H4 Hy/\Hy HS=some (.lst (((b1.take i).map (·.2)).map V.int))) (by repeat' constructor) cj ⟨az sy hl,?_⟩⟩
   rw [ae,SQ,fD,SR,SR]
   rfl
 obtain ⟨tz1,Mg⟩:=z
 rw [Ia,SV] at Mg
 refine ⟨HS,_,rfl,Mg,P3.fw1,fun BQ H6 s6 ⟨KY,tJ,EJ,vT⟩=>?_⟩
 have QR:BQ≠fo:=(ag (tz1 _ _ G6) KY).symm
 have s46:=aa tz1 s6
 have HK:=aa s3 s46
 have D2:=aa s0 s46
 refine ⟨BQ,rfl,⟨_,aq.of EJ⟩,?_⟩
 have O2:=Paired.length vT
 refine bj (xs:=tJ.map V.ref) (fun i σ Hx=>((∃o6 o7 o8,σ=[some (.ref p1),some (.ref p2),some (.ref pa),some (.int (k:Nat)),some (.ref ah),some (.ref fo),o6,o7,o8])/\ai H3 Hx/\∃ts,Hx fo=some (.lst (ts.map V.ref))/\Paired (tH b1 b2 fo Hx) ts ((S5 (i * (av b2).length)).filter (pL b1 b2 lR e0)))/\Hx BQ=some (.lst (tJ.map V.ref))/\Paired (fun a r=>dF Hx a r/\a≠fo) tJ (av b1)) ⟨⟨⟨_,_,_,rfl⟩,HK,[],s46 _ _ G6,by rw [Nat.zero_mul]; exact .nil⟩,EJ,Paired.aI vT fun _ _ z=>⟨z.1,(ag (tz1 _ _ G6) z.2).symm⟩⟩ (fun i σ Hx _ z=>aq.of z.2.1) (fun i x σ Hx hx z=>?_) (fun σ Hx z=>?_)
 · obtain ⟨⟨⟨o6,o7,o8,rfl⟩,sx,ts,E4,pts⟩,O7,Nf⟩:=z
   obtain ⟨ma,P4,rfl⟩:=aJ hx
   obtain ⟨w1,DT,Ba,K6⟩:=Paired.get Nf P4
   have sHx:=aa s2 sx
   refine aG ?_
   refine ⟨_,rfl,p2,_,_,_,rfl,rfl,aF.of (sHx _ _ bF),rfl,B2,rfl,⟨_,aq.of (sHx _ _ xn)⟩,fun HU hl=>?_⟩
   refine aL (xs:=nq) (fun i Hy=>ai Hx Hy/\Hy HU=some (.lst (((b2.take i).map (·.2)).map V.int))) ⟨af hl _,ae⟩ (fun i Hy _ z=>aq.of (z.1 _ _ (sHx _ _ xn))) (fun i x Hy hx z=>?_) (fun H7 z=>?_)
   · obtain ⟨sy,hy⟩:=z
     have cj:i < nq.length:=(List.getElem?_eq_some_iff.mp hx).1
     obtain ⟨b,fD,e8,rfl,hC⟩:=Paired.get mV hx
     refine ⟨e8,_,rfl,aF.of (sy _ _ (sHx _ _ hC)),rfl,_,_,rfl,_,_,rfl,rfl,?_⟩
     refine bp (A:=fun H3=>bK _ HU _ H3 _) ?_
     refine ⟨_,rfl,_,hy,jh (by rw [Sv,Sv,SH]; omega),aA (Pv:=fun i Hy=>ai Hx Hy/\Hy HU=some (.lst (((b2.take i).map (·.2)).map V.int))) (by repeat' constructor) cj ⟨az sy hl,?_⟩⟩
     rw [ae,SQ,fD,SR,SR]
     rfl
   obtain ⟨tz2,Mh⟩:=z
   rw [Ib,SV] at Mh
   refine ⟨HU,_,rfl,Mh,P3.fw2,fun xw H8 s8 ⟨KZ,pw,EK,jz⟩=>?_⟩
   have K0:xw≠fo:=(ag (tz2 _ _ E4) KZ).symm
   have t8:=aa tz2 s8
   refine ⟨xw,rfl,⟨_,aq.of EK⟩,?_⟩
   have O6:pw.length=(av b2).length:=Paired.length jz
   refine bj (xs:=pw.map V.ref) (fun j σ Hz=>((∃o7 o8,σ=[some (.ref p1),some (.ref p2),some (.ref pa),some (.int (k:Nat)),some (.ref ah),some (.ref fo),some (.ref ma),o7,o8])/\ai H3 Hz/\∃ts,Hz fo=some (.lst (ts.map V.ref))/\Paired (tH b1 b2 fo Hz) ts ((S5 (i * (av b2).length + j)).filter (pL b1 b2 lR e0)))/\Hz ma=some (.lst (w1.map V.int))/\Hz BQ=some (.lst (tJ.map V.ref))/\Paired (fun a r=>dF Hz a r/\a≠fo) tJ (av b1)/\Hz xw=some (.lst (pw.map V.ref))/\Paired (fun a r=>dF Hz a r/\a≠fo) pw (av b2)) ⟨⟨⟨_,_,rfl⟩,aa sx t8,ts,t8 _ _ E4,Paired.aI pts fun _ _ z=>z.same t8⟩,t8 _ _ Ba,t8 _ _ O7,Paired.aI Nf (fun _ _ z=>⟨t8 _ _ z.1,z.2⟩),EK,Paired.aI jz fun _ _ z=>⟨z.1,(ag (tz2 _ _ E4) z.2).symm⟩⟩ (fun j σ Hz _ z=>aq.of z.2.2.2.2.1) (fun j x σ Hz hx z=>?_) (fun σ Hz z=>?_)
   · obtain ⟨⟨⟨o7,o8,rfl⟩,sz,ts,DM,pts⟩,Fe,rp,HF,jZ,yV⟩:=z
     obtain ⟨ya,MP,rfl⟩:=aJ hx
     obtain ⟨w2,Fy,xV,M8⟩:=Paired.get yV MP
     have Bi:j < (av b2).length:=by have:=(List.getElem?_eq_some_iff.mp MP).1; omega
     have Rl:w1.length=b1.length:=by have:=bR _ _ (SF DT); rwa [Sv] at this
     have Rm:w2.length=b2.length:=by have:=bR _ _ (SF Fy); rwa [Sv] at this
     have dv:(i * (av b2).length + j) / (av b2).length=i:=by rw [VD,Nat.add_mul_div_right _ _ (by omega),Nat.div_eq_of_lt Bi,Nat.zero_add]
     have mv:(i * (av b2).length + j) % (av b2).length=j:=by rw [VD,Nat.add_mul_mod_self_right,Nat.mod_eq_of_lt Bi]
     have rw_:bA b1 b2 (i * (av b2).length + j)=tM b1 w1 b2 w2:=by unfold bA; rw [dv,mv,gS DT,gS Fy]
     have Lv:=aa s2 sz
     refine aG ?_
     refine aV fun Rk kR=>?_
     refine ⟨_,rfl,_,rfl,_,rfl,_,rfl,.ref p1,.ref p2,ma,ya,b1,b2,w1,w2,rfl,P3.x1.same Lv,P3.x2.same Lv,P3.nd1,P3.nd2,Fe,xV,Rl.symm,Rm.symm,f1,f2,fun D H9 hD s9 kn=>?_⟩
     refine aG ?_
     refine kR _ _ ?_
     have t9:=aa Lv s9
     have kt:=tL b1 b2
     refine ⟨_,rfl,_,rfl,pa,_,_,_,rfl,rfl,aq.of (t9 _ _ om),n9,en,_,_,_,rfl,rfl,aF.of (t9 _ _ rm),rfl,_,rfl,D,cv,e0.c,_,_,rfl,kn,kt,Bf.keep (ai.tk t9),P3.eo.js _ (SF yo),P3.eo.ok _ (SF yo),P3.eo.dep _ (SF yo),_,rfl,?_⟩
     have pX:(S5 (i * (av b2).length + (j + 1))).filter (pL b1 b2 lR e0)=(S5 (i * (av b2).length + j)).filter (pL b1 b2 lR e0)++(if (pL b1 b2 lR e0) (i * (av b2).length + j)=true then [i * (av b2).length + j] else []):=by
       rw [← Nat.add_assoc,VP,List.filter_append]
       congr 1
       by_cases c:(pL b1 b2 lR e0) (i * (av b2).length + j)=true
       · rw [if_pos c,U5,if_pos c]; rfl
       · rw [if_neg c,U5,if_neg c]; rfl
     have tl:=Paired.length pts
     have fl:((S5 (i * (av b2).length + j)).filter (pL b1 b2 lR e0)).length<=i * (av b2).length + j:=S3 (Tw _ _) (by rw [Tn]; exact Sz _)
     have hin:i < (av b1).length:=(List.getElem?_eq_some_iff.mp DT).1
     have Se:i * (av b2).length + j < 3000:=by
       have h1:(i + 1) * (av b2).length<=nR b1 b2:=Vj _ hin
       rw [UG] at h1
       have:=P3.few
       omega
     have no:∀{Hn:Hp},ai Hz Hn->¬ (pL b1 b2 lR e0) (i * (av b2).length + j)=true->((∃o7 o8,[some (V.ref p1),some (V.ref p2),some (V.ref pa),some (V.int (k:Nat)),some (V.ref ah),some (V.ref fo),some (V.ref ma),some (V.ref ya),some (V.ref D)]=[some (V.ref p1),some (V.ref p2),some (V.ref pa),some (V.int (k:Nat)),some (V.ref ah),some (V.ref fo),some (V.ref ma),o7,o8])/\ai H3 Hn/\∃ts,Hn fo=some (.lst (ts.map V.ref))/\Paired (tH b1 b2 fo Hn) ts ((S5 (i * (av b2).length + (j + 1))).filter (pL b1 b2 lR e0)))/\Hn ma=some (.lst (w1.map V.int))/\Hn BQ=some (.lst (tJ.map V.ref))/\Paired (fun a r=>dF Hn a r/\a≠fo) tJ (av b1)/\Hn xw=some (.lst (pw.map V.ref))/\Paired (fun a r=>dF Hn a r/\a≠fo) pw (av b2):=fun sn c=>by
       refine ⟨⟨⟨_,_,rfl⟩,aa sz sn,ts,sn _ _ DM,?_⟩,sn _ _ Fe,sn _ _ rp,Paired.aI HF (fun _ _ z=>⟨sn _ _ z.1,z.2⟩),sn _ _ jZ,Paired.aI yV fun _ _ z=>⟨sn _ _ z.1,z.2⟩⟩
       rw [pX,if_neg c,Tu]
       exact Paired.aI pts fun _ _ z=>z.same sn
     have Lx:(pL b1 b2 lR e0) (i * (av b2).length + j)=(e0.c.holds (tM b1 w1 b2 w2) && !(lR.any fun e'=>e'.c.holds (tM b1 w1 b2 w2))):=by unfold pL iY; rw [rw_]
     refine aD (fun c1=>?_) (fun c1=>?_)
     · refine ⟨_,rfl,ah,rfl,⟨_,aq.of ((aa sz s9) _ _ sX)⟩,fun bl mG=>?_⟩
       refine aL (xs:=va) (fun m Hb=>ai H9 Hb/\Hb bl=some (.lst (((lR.take m).map fun e'=>e'.c.holds (tM b1 w1 b2 w2)).map V.bl))) ⟨af mG _,ae⟩ (fun m Hb _ z=>aq.of (z.1 _ _ ((aa sz s9) _ _ sX))) (fun m x Hb hx z=>?_) (fun Hb z=>?_)
       · obtain ⟨sb,hb⟩:=z
         have J0:m < va.length:=(List.getElem?_eq_some_iff.mp hx).1
         obtain ⟨em,DL,Pg⟩:=Paired.get qa hx
         obtain ⟨cm,wm,tm,⟨Oj,rfl,Jv⟩,Pu⟩:=Pg.same (aa (aa sz s9) sb)
         have IC:=sub em (SF DL)
         obtain ⟨kvs,PY,sQ⟩:=kn
         refine aG ?_
         refine bp (A:=fun H4=>bK _ bl _ H4 _) ?_
         refine ⟨_,rfl,Oj,_,_,_,rfl,rfl,aF.of Jv,rfl,_,rfl,D,cm,em.c,_,_,rfl,⟨kvs,sb _ _ PY,sQ⟩,kt,Pu,P3.eo.js _ IC,P3.eo.ok _ IC,P3.eo.dep _ IC,_,hb,jh (by rw [Sv,Sv,SH]; omega),aA (Pv:=fun m Hb=>ai H9 Hb/\Hb bl=some (.lst (((lR.take m).map fun e'=>e'.c.holds (tM b1 w1 b2 w2)).map V.bl))) (by repeat' constructor) J0 ⟨az sb mG,?_⟩⟩
         rw [ae,SQ,DL,SR,SR]
         rfl
       obtain ⟨sb,hb⟩:=z
       have val:va.length=lR.length:=Paired.length qa
       rw [val,SV] at hb
       refine ⟨bl,_,rfl,aq.of hb,_,rfl,?_⟩
       have an:(lR.map fun e'=>e'.c.holds (tM b1 w1 b2 w2)).any id=lR.any fun e'=>e'.c.holds (tM b1 w1 b2 w2):=by rw [List.any_map]; rfl
       rw [an]
       have sn:=aa s9 sb
       refine aD (fun c2=>?_) (fun c2=>?_)
       · have tt:(pL b1 b2 lR e0) (i * (av b2).length + j)=true:=by rw [Lx,c1,U0]; exact c2
         refine ⟨_,rfl,.inl ⟨rfl,_,aq.of (sn _ _ DM)⟩,_,rfl,_,rfl,YB,fun tp sW=>?_⟩
         have st:ai Hb (upd Hb tp (.tup [.ref ma,.ref ya])):=af sW _
         have gt:(upd Hb tp (.tup [.ref ma,.ref ya])) tp=some (.tup [.ref ma,.ref ya]):=ae
         have M6:tp≠fo:=(ag (sn _ _ DM) sW).symm
         generalize upd Hb tp (.tup [.ref ma,.ref ya])=Ht at st gt ⊢
         have HR:=aa sn st
         refine ⟨fo,_,_,rfl,rfl,HR _ _ DM,jh (by rw [Sv]; omega),?_⟩
         have kl:∀{a:Addr} {o:HO},a≠fo->Hz a=some o->(upd Ht fo (.lst (ts.map V.ref++[.ref tp]))) a=some o:=fun na z=>by rw [aj na]; exact HR _ _ z
         refine ⟨⟨⟨_,_,rfl⟩,az (aa sz HR) My,ts++[tp],by rw [ae,SR]; rfl,?_⟩,kl K6 Fe,kl QR rp,?_,kl K0 jZ,?_⟩
         · rw [pX,if_pos tt]
           refine Paired.snoc (Paired.aI pts fun _ _ z=>(z.same HR).put) ⟨ma,ya,by rw [aj M6]; exact gt,?_,?_,M6,K6,M8⟩
           · rw [dv,gS DT]; exact kl K6 Fe
           · rw [mv,gS Fy]; exact kl M8 xV
         · exact Paired.aI HF fun a r z=>⟨kl z.2 z.1,z.2⟩
         · exact Paired.aI yV fun a r z=>⟨kl z.2 z.1,z.2⟩
       · exact no sn (by rw [Lx,c1,U0]; exact c2)
     · exact hV (no s9 (by rw [Lx]; intro z; exact c1 (Bool.and_eq_true_iff.mp z).1))
   · obtain ⟨⟨⟨o7,o8,rfl⟩,sz,ts,DM,pts⟩,Fe,rp,HF,jZ,yV⟩:=z
     rw [Sv,O6,← UG] at pts
     exact ⟨⟨⟨_,_,_,rfl⟩,sz,ts,DM,pts⟩,rp,HF⟩
 obtain ⟨⟨⟨o6,o7,o8,rfl⟩,sx,ts,E4,pts⟩,_⟩:=z
 rw [Sv,O2] at pts
 exact ⟨_,rfl,q fo ts Hx (aa s2 sx) E4 (Paired.aI pts fun _ _ z=>z.at)⟩
theorem qg (ins:List Str)(k:Int)(bs:List (Str×Int)):(bs.map (lq ins k)).map (·.1)=bs.map (·.1):=by
 rw [UQ]
 rfl
theorem se {α β:Type}(f:α->β)(n:Int)(xs:List α):(cK n xs).map f=cK n (xs.map f):=by
 unfold cK
 split
 · rfl
 · rw [List.map_reverse]
theorem LL {bs:List (Str×Int)}{ins:List Str}(h:bV bs ins)(cz:Bool):((bs.map fun b=>(dz ins cz b.1,b.2)).map (·.1)).Nodup:=by
 obtain ⟨nm,szs,h1,h2,_,rfl⟩:=h.nm
 have two:∀x y:Str,x≠y->x++"z"≠y->x≠y++"z"->x++"z"≠y++"z"->dz ins cz x≠dz ins cz y:=fun x y e1 e2 e3 e4=>by
   unfold dz
   split <;> split <;> (try split) <;> (try split) <;> assumption
 have all:∀x y:Str,dz ins cz x≠dz ins cz y->((([x,y].zip szs).map fun b=>(dz ins cz b.1,b.2)).map (·.1)).Nodup:=fun x y e=>by
   match szs,h2 with
   | [],_=>exact US
   | [a],_=>exact List.nodup_cons.mpr ⟨(fun z=>nomatch z),US⟩
   | [a,b],_=>exact List.nodup_cons.mpr ⟨fun z=>e (List.mem_singleton.mp z),List.nodup_cons.mpr ⟨(fun z=>nomatch z),US⟩⟩
   | _ :: _ :: _ :: _,h=>simp at h
 rcases h1 with rfl | rfl | rfl
 · exact all _ _ (two _ _ (by decide +kernel) (by decide +kernel) (by decide +kernel) (by decide +kernel))
 · exact all _ _ (two _ _ (by decide +kernel) (by decide +kernel) (by decide +kernel) (by decide +kernel))
 · exact all _ _ (two _ _ (by decide +kernel) (by decide +kernel) (by decide +kernel) (by decide +kernel))
theorem sub_len {α:Type}:∀{xs ys:List α},xs.Nodup->(∀x∈xs,x∈ys)->xs.length<=ys.length
 | [],_,_,_=>TN _
 | x :: r,ys,nd,h=>by
   obtain ⟨h1,h2⟩:=List.nodup_cons.mp nd
   obtain ⟨i,hi,e⟩:=UM (h x (List.mem_cons.mpr (.inl rfl)))
   have:=sub_len (ys:=ys.eraseIdx i) h2 fun y hy=>by
     rcases eW hi (h y (List.mem_cons.mpr (.inr hy))) with z | z
     · exact absurd (by rw [← e,← z]; exact hy) h1
     · exact z
   rw [VX hi] at this
   rw [Th]
   omega
theorem zO {bs:List (Str×Int)}{ins:List Str}(h:bV bs ins):Fits bs ins:=by
 have l2:=h.len
 have il:ins.length<=900:=by
   have:=sub_len h.ind h.insub
   rw [Sv] at this
   omega
 exact ⟨h.nd,by omega,fun b hb=>(h.sz b hb).1,h.ind,h.insub,il⟩
theorem rT {bs b':List (Str×Int)}{ins:List Str}{cz:Bool}{st k:Int}(h:bV bs ins)(o:kH bs ins cz st b')(hk:0<=k):Fits (b'.map (lq ins k)) ins/\ins.map (ia bs)=ins.map (ia (b'.map (lq ins k)))/\b'.length=bs.length:=by
 have hl:b'.length=bs.length:=by rw [o.bx,kC,Sv]
 have l2:=h.len
 have f1:=zO h
 have nd:((b'.map (lq ins k)).map (·.1)).Nodup:=by
   rw [qg,o.bx,se]
   exact m9 (LL h cz)
 have mem:∀b∈bs,(dz ins cz b.1,b.2)∈b':=fun b hb=>by
   rw [o.bx]
   exact dk.mpr (List.mem_map.mpr ⟨b,hb,rfl⟩)
 have key:∀x∈ins,∃b∈bs,b.1=x/\(x,b.2)∈b'.map (lq ins k):=fun x hx=>by
   obtain ⟨b,hb,e⟩:=List.mem_map.mp (h.insub x hx)
   refine ⟨b,hb,e,List.mem_map.mpr ⟨_,mem b hb,?_⟩⟩
   have ez:dz ins cz b.1=x:=by
     unfold dz
     rw [e,if_pos hx]
   unfold lq
   rw [ez]
   show (x,b.2 + k * (if x∈ins then 0 else 1))=(x,b.2)
   rw [if_pos hx,Int.mul_zero,Int.add_zero]
 refine ⟨⟨nd,by rw [Sv]; omega,fun c hc=>?_,h.ind,fun x hx=>?_,f1.ilen⟩,Vm fun x hx=>?_,hl⟩
 · obtain ⟨c',eT,rfl⟩:=List.mem_map.mp hc
   rw [o.bx] at eT
   obtain ⟨b,hb,rfl⟩:=List.mem_map.mp (dk.mp eT)
   have:=(h.sz b hb).1
   unfold lq
   show 1<=b.2 + k * (if dz ins cz b.1∈ins then 0 else 1)
   split <;> omega
 · obtain ⟨b,hb,e,hm⟩:=key x hx
   exact List.mem_map.mpr ⟨_,hm,rfl⟩
 · obtain ⟨b,hb,e,hm⟩:=key x hx
   have e1:=lI h.nd hb
   have e2:=lI nd hm
   rw [e] at e1
   rw [e1]
   exact e2.symm
theorem zp {row:List Int}{n:Nat}(hR:Row (2 ^ 30) row n)(lo hi:Nat)(h1:lo<=hi)(h2:hi<=n):∃rk,fc row (some (lo:Int)) (some (hi:Int))=rk/\Row (2 ^ 30) rk (hi - lo):=by
 have:=hR.len
 refine ⟨_,rfl,?_,fun x hx=>hR.all x ((l7 _ _ _).mem hx)⟩
 rw [tU row _ _ (by omega) h1,SH,To]
 omega
theorem da (s:Int)(ss:List Int):(bN (s :: ss)).length=s.toNat * (bN ss).length:=by
 show ((S5 s.toNat).flatMap fun w=>(bN ss).map fun r=>((w:Nat):Int) :: r).length=_
 generalize s.toNat=n
 induction n with
 | zero=>rw [Nat.zero_mul]; rfl
 | succ n ih=>rw [VP,Vn,Sy,ih,Uq,U4,Tu,Sv,UG]
theorem nZ:∀{szs:List Int},szs.length<=2->(∀s∈szs,1<=s/\s<=7)->(bN szs).length<=49
 | [],_,_=>by decide
 | [s],_,h=>by
   have:=h s (List.mem_cons.mpr (.inl rfl))
   rw [da]
   show s.toNat * 1<=49
   omega
 | [s,u],_,h=>by
   have h1:=h s (List.mem_cons.mpr (.inl rfl))
   have h2:=h u (List.mem_cons.mpr (.inr (List.mem_cons.mpr (.inl rfl))))
   rw [da,da]
   show s.toNat * (u.toNat * 1)<=49
   rw [Nat.mul_one]
   exact Nat.mul_le_mul (show s.toNat<=7 by omega) (show u.toNat<=7 by omega)
 | _ :: _ :: _ :: _,h,_=>by simp at h
theorem Ex {szs:List Int}(hl:szs.length<=2)(h:∀s∈szs,1<=s/\s<=7):iA szs:=
 ⟨fun s hs=>by have:=h s hs; omega,by omega,fun i=>S3 (nZ (by rw [SH]; omega) fun s hs=>h s (T9 hs)) (by decide)⟩
theorem yR {bs b':List (Str×Int)}{ins:List Str}{cz:Bool}{st k:Int}(h:bV bs ins)(o:kH bs ins cz st b')(k0:0<=k)(k2:k<=2):∀s∈(b'.map (lq ins k)).map (·.2),1<=s/\s<=7:=fun s hs=>by
 obtain ⟨c,hc,rfl⟩:=List.mem_map.mp hs
 obtain ⟨c',eT,rfl⟩:=List.mem_map.mp hc
 rw [o.bx] at eT
 obtain ⟨b,hb,rfl⟩:=List.mem_map.mp (dk.mp eT)
 have:=h.sz b hb
 unfold lq
 show 1<=b.2 + k * (if dz ins cz b.1∈ins then 0 else 1)/\b.2 + k * (if dz ins cz b.1∈ins then 0 else 1)<=7
 split <;> omega
theorem yQ {bs b':List (Str×Int)}{ins:List Str}{cz:Bool}{st k:Int}(o:kH bs ins cz st b'):∀x∈bs.map (·.1),dz ins cz x∈(b'.map (lq ins k)).map (·.1):=fun x hx=>by
 rw [qg,o.bx]
 obtain ⟨b,hb,rfl⟩:=List.mem_map.mp hx
 exact List.mem_map.mpr ⟨_,dk.mpr (List.mem_map.mpr ⟨b,hb,rfl⟩),rfl⟩
theorem cu.more {b1 b2:List (Str×Int)}{d d' n n':Nat}{H:Hp}{l:Addr}{vps:List V}{ens:List En}(h:cu b1 b2 d n H l vps ens)(hd:d<=d')(hn:n<=n'):cu b1 b2 d' n' H l vps ens:=⟨h.h,h.p,fun e he=>let ⟨a,b,c⟩:=h.ok e he; ⟨a,b,S3 c hd⟩,S3 h.few hn⟩
def qA (Hd:Hp)(fl:Addr)(B:Nat)(H:Hp)(t:Addr):Prop:=∃m y vm vy,H t=some (.tup [.ref m,.ref y])/\H m=some (.lst vm)/\H y=some (.lst vy)/\vm.length<=B/\vy.length<=B/\m≠fl/\y≠fl/\Hd m=none/\Hd y=none
theorem qA.grow {Hd:Hp}{fl:Addr}{B:Nat}{H:Hp}{t c:Addr}{vc:List V}{v:V}(h:qA Hd fl B H t)(hc:H c=some (.lst vc))(lc:vc.length<=B):qA Hd fl (B + 1) (upd H c (.lst (vc++[v]))) t:=by
 obtain ⟨m,y,vm,vy,h1,h2,h3,l1,l2,r⟩:=h
 have one:∀{a:Addr} {va:List V},H a=some (.lst va)->va.length<=B->∃vb,(upd H c (.lst (vc++[v]))) a=some (.lst vb)/\vb.length<=B + 1:=fun {a va} ha la=>by
   by_cases e:a=c
   · subst e
     exact ⟨_,ae,by rw [Sy]; exact U6 lc⟩
   · exact ⟨va,by rw [aj e]; exact ha,by omega⟩
 obtain ⟨wm,g2,k2⟩:=one h2 l1
 obtain ⟨wy,g3,k3⟩:=one h3 l2
 exact ⟨m,y,wm,wy,by rw [aj (b8 h1 hc (fun z=>nomatch z))]; exact h1,g2,g3,k2,k3,r⟩
abbrev dD:Stmt:=top 44
def qw (K:Sw):Sp:=fun vs H Q _=>∃(a:Addr) (ns:List Int),vs=[.ref a]/\aq K H a (ns.map V.int)/\ns.length<=63/\∀H',Q (.bl true) H'
theorem cb:aE ["script","one","row","other","called","places","behind","paper","k","handed","number","due","turn","found","mine","yours"] ["script"] (ak dD):=⟨rfl,rfl,rfl,by decide +kernel,rfl,by decide +kernel,by decide +kernel⟩
theorem fq:ba dD "_law_boxes_of":=by decide +kernel
theorem gg:ba dD "_law_cell_at":=by decide +kernel
theorem dw:ba dD "_law_copied":=by decide +kernel
theorem kP:ba dD "_law_due":=by decide +kernel
theorem eG:ba dD "_law_good_paper":=by decide +kernel
theorem eR:ba dD "_law_made_over":=by decide +kernel
theorem gh:ba dD "_law_numbers":=by decide +kernel
theorem iS:ba dD "_law_plain":=by decide +kernel
theorem gi:ba dD "_law_program":=by decide +kernel
theorem gj:ba dD "_law_resized":=by decide +kernel
theorem gV:ba dD "_law_spoilt":=by decide +kernel
theorem fm:ba dD "entry_worths":=by decide +kernel
theorem gU:ba dD "isinstance":=by decide +kernel
theorem ud:ba dD "len":=by decide +kernel
theorem jX:ba dD "list":=by decide +kernel
theorem eS:ba dD "range":=by decide +kernel
theorem Cb {f:Addr}{fd:S9}(F:cL K "law" "law" dD f fd)(m_len:mg "len"=none)(m_list:mg "list"=none)(m_range:mg "range"=none)(m_isinstance:mg "isinstance"=none)(PR:aP P w K mg base "_law_program" ["script","most"] 64 (oU K))(NU:aP P w K mg base "_law_numbers" ["cell","many","base"] 64 cN)(CE:aP P w K mg base "_law_cell_at" ["script","k"] 64 (gK K))(OV:aP P w K mg base "_law_made_over" ["program","row"] 64 oT)(RS:aP P w K mg base "_law_resized" ["program","number"] 64 ek)(GP:aP P w K mg base "_law_good_paper" ["program","called","places","behind"] 64 Dl)(SP:aP P w K mg base "_law_spoilt" ["paper","row","boxes"] 64 qy)(BO:aP P w K mg base "_law_boxes_of" ["one","other"] 64 qp)(CP:aP P w K mg base "_law_copied" ["program"] 64 qr)(DU:aP P w K mg base "_law_due" ["one","other","paper","number"] 64 (wU 20))(EW:aP P w K mg base "entry_worths" ["one","other","paper","number"] 64 (wV 20))(PN:aP P w K mg base "_law_plain" ["found"] 64 lG):aN P w K mg base b6 65 f fd ["script"] (qw K):=by
 refine F.ok cb (fun vs H Q E h=>?_) (fun cdv A outer s H vs Q E nu h=>?_)
 · obtain ⟨a,ns,rfl,_⟩:=h
   rfl
 obtain ⟨a,ns,rfl,hS,RI,q⟩:=h
 refine fC ⟨_,(WI (WS 1 cb.nd (WV PR nu gi (WC (WB 0) (WC WE WD))))
   (WI (WS 2 cb.nd (WV NU nu gh (WC (WV CE nu gg (WC (WB 0) (WC WE WD))) (WC WE (WC WE WD)))))
   (WI (XD (WV OV nu eR (WC (WB 1) (WC (WB 2) WD))) (W7 4 (WW (WN 3 cb.nd) (WW (WN 4 cb.nd) (WW (WN 5 cb.nd) (WW (WN 6 cb.nd) W8))))))
   (WI (WS 3 cb.nd (WV RS nu gj (WC (WB 3) (WC (WJ Xe (WG WM (WB 2) WE) WE) WD))))
   (WI (WS 7 cb.nd (WV GP nu eG (WC (WB 1) (WC (WB 4) (WC (WB 5) (WC (WB 6) WD))))))
   (WI (Xb (Xj eS m_range (WC WE WD)) (WN 8 cb.nd) (WK (WZ (WX (L3.pY (m:=2) (bq nu _ (by decide))) (WB 7) (W0 WD)) (WK (WS 7 cb.nd (WV SP nu gV (WC (WB 7) (WC (L3.Ap (WB 2) (WJ Xd WE (WJ Xf WE (WB 8))) (WJ Xd WE (WJ Xf WE (WB 8)))) (WC (WV BO nu fq (WC (WB 1) (WC (WB 3) WD))) WD)))))) W2)))
   (WI (WS 9 cb.nd (W0 (WC (WV CP nu dw (WC (WB 1) WD)) (WC (WV CP nu dw (WC (WB 3) WD)) (WC (Xg Xt jX m_list (by decide +kernel) (WC (WB 7) WD)) WD)))))
   (WI (Xb (Xj eS m_range (WC (W4 Xa ud m_len Te (WC (WB 7) WD)) WD)) (WN 10 cb.nd) (WI (WS 11 cb.nd (WV DU nu kP (WC (WB 1) (WC (WB 3) (WC (WB 7) (WC (WB 10) WD))))))
   (WK (Xb (Xj eS m_range (WC WE WD)) (WN 12 cb.nd) (WI (WS 13 cb.nd (WV EW nu fm (WC (WG WM (WB 9) WE) (WC (WG WM (WB 9) WE) (WC (WG WM (WB 9) WE) (WC (WB 10) WD))))))
   (WI (WZ (Xq (Xv (XA (Xo (W4 Xx gU m_isinstance (by decide +kernel) (WC (WB 13) (WC (Xy (w:=.ty "list") jX m_list (by decide +kernel) rfl) WD))))) (Xv (WX (L3.pY (m:=2) (bq nu _ (by decide))) (WB 13) (WB 11)) (XE (XA (Xo (WV PN nu iS (WC (WB 13) WD)))))))) (WK (WU XH)) W2)
   (WI (Xb (W5 (WB 13)) (W7 2 (WW (WN 14 cb.nd) (WW (WN 15 cb.nd) W8))) (WI (Xh (Xk (WB 14) (WC WE WD)))
   (WK (Xh (Xk (WB 15) (WC WE WD))))))
   (WK (Xh (Xk (WB 13) (WC WE WD)))))))))))
   (WK (WU (Xn (XC (m:=2) (bq nu _ (by decide))) (WB 9) (W0 (WC (WB 1) (WC (WB 3) (WC (WB 7) WD))))))))))))))),?_⟩
 have d2:(2:Int) < 2 ^ 1000:=by decide +kernel
 refine Ep fun Rk kR=>?_
 refine ⟨_,rfl,a,ns,4,rfl,hS,by decide,by decide,fun v1 HA bs ins nds sA Na xA=>?_⟩
 obtain ⟨p1,B1,I1,N1,nB,NH,rfl,hp1,hB1,hI1,G9,e8,Nh⟩:=id Na
 refine ⟨_,rfl,a,ns,1,rfl,ai.seq sA hS,by decide,fun cc=>⟨cc,24,840,rfl,by decide,by decide,by decide,by decide,fun r row sT Pj=>?_⟩⟩
 obtain ⟨HB,sB,hr,zz⟩:=aH sT (.lst (row.map V.int))
 rw [zz]; clear zz
 have hR:Row (2 ^ 30) row 24:=Pj.mono (by decide)
 have yv:row.length=24:=hR.len
 have few:=xA.few
 have Ck:=xA.bx
 have l2:=Ck.len
 have Nc:=Na.same sB
 refine aG ?_
 refine kR _ _ ?_
 refine c8 [some (.ref a),some (.ref p1),some (.ref r),none,none,none,none,none,none,none,none,none,none,none,none,none] rfl ?_
 refine aV fun Rk kR=>?_
 refine ⟨_,rfl,_,rfl,.ref p1,r,bs,ins,nds,row,24,rfl,Nc,⟨l2,fun b hb=>S3 (Ck.short b hb) (by decide),xA.one,by omega,xA.good⟩,hr,hR,by decide,fun pp p2 T0 I2 N2 cA xx xl HC Rj vn2 b' nds2 cz st sC Qh bF Pl QY A8 IX Li R1 Jl ov ps bS hpl xq MY=>?_⟩
 refine ⟨pp,_,rfl,aF.of Qh,rfl,_,_,rfl,_,_,rfl,_,_,rfl,_,_,rfl,rfl,?_⟩
 refine kR _ _ ?_
 refine c8 [some (.ref a),some (.ref p1),some (.ref r),some (.ref p2),some (.ref cA),some (.ref xx),some (.ref xl),none,none,none,none,none,none,none,none,none] rfl ?_
 refine aV fun Rk kR=>?_
 obtain ⟨y5,a5,Sr,Ss⟩:=hR.at (i:=5) (by decide) (by decide)
 have MH:=sC _ _ hr
 have mG:b'.length=bs.length:=by rw [ov.bx,kC,Sv]
 refine ⟨_,rfl,_,rfl,r,_,_,_,rfl,rfl,aq.of MH,a5,_,_,rfl,rfl,⟨(by show (0:Int) < 2; decide),d2⟩,p2,T0,I2,N2,Rj,b',ins,_,rfl,bF,Pl,QY,A8,by omega,fun p3 T3 nq HD sD uV IZ mV=>?_⟩
 have k0:0<=y5 / 2 % 3:=S7 _ (by decide)
 have k3:y5 / 2 % 3 < 3:=S0 _ (by decide)
 obtain ⟨f2,szs,_⟩:=rT (k:=y5 / 2 % 3) Ck ov k0
 have f1:=zO Ck
 have HW:=yR (k:=y5 / 2 % 3) Ck ov k0 (by omega)
 have M4:=yQ (k:=y5 / 2 % 3) ov
 obtain ⟨b2,yl⟩ : ∃b2,b2=b'.map (lq ins (y5 / 2 % 3)):=⟨_,rfl⟩
 rw [← yl] at f2 szs HW M4
 have mV:Paired (bU HD) nq b2:=by rw [yl]; exact mV
 have Rw:b2.length=bs.length:=by rw [yl,Sv]; exact mG
 have Nt:=aa sC sD
 have Nr:=aa sB Nt
 have Nb:=Nc.same Nt
 have Q0:bW HD (.ref p3) b2 ins nds2:=⟨p3,T3,I2,N2,nq,vn2,rfl,uV,IZ,sD _ _ A8,sD _ _ IX,mV,Paired.aI Li fun a b h=>bO.keep (ai.tk sD) h⟩
 have Qj:=sD _ _ MH
 have fw1:iA (bs.map (·.2)):=Ex (by rw [Sv]; exact l2) fun s hs=>by
   obtain ⟨b,hb,rfl⟩:=List.mem_map.mp hs
   have:=Ck.sz b hb
   omega
 have fw2:iA (b2.map (·.2)):=Ex (by rw [Sv]; omega) HW
 have OI:(av bs).length<=49:=nZ (by rw [Sv]; exact l2) fun s hs=>by
   obtain ⟨b,hb,rfl⟩:=List.mem_map.mp hs
   have:=Ck.sz b hb
   omega
 have EC:(av b2).length<=49:=nZ (by rw [Sv]; omega) HW
 have K9:nR bs b2<=3000:=S3 (Nat.mul_le_mul OI EC) (by decide)
 clear yl HW
 refine aG ?_
 refine kR _ _ ?_
 refine c8 [some (.ref a),some (.ref p1),some (.ref r),some (.ref p3),some (.ref cA),some (.ref xx),some (.ref xl),none,none,none,none,none,none,none,none,none] rfl ?_
 refine aV fun Rk kR=>?_
 refine ⟨_,rfl,_,rfl,_,rfl,_,rfl,.ref p1,cA,xx,xl,bs,b2,ins,nds,dz ins cz,ps,bS,rfl,Nb,Jl.same sD,M4,sD _ _ hpl,sD _ _ xq,MY.pl,MY.bl,by omega,fun pa Lz IE HE sE Lj=>?_⟩
 have Qk:=sE _ _ Qj
 have FZ:=Nb.same sE
 have F0:=Q0.same sE
 refine aG ?_
 refine kR _ _ ?_
 refine c8 [some (.ref a),some (.ref p1),some (.ref r),some (.ref p3),some (.ref cA),some (.ref xx),some (.ref xl),some (.ref pa),none,none,none,none,none,none,none,none] rfl ?_
 refine aV fun Rk kR=>?_
 have KU:∀i:Nat,i < 3->∃rk,fc row (some (7 + 5 * (0 + (i:Int)))) (some (12 + 5 * (0 + (i:Int))))=rk/\Row (2 ^ 30) rk 5:=fun i hi=>by
   obtain ⟨rk,h1,h2⟩:=zp hR (7 + 5 * i) (12 + 5 * i) (by omega) (by omega)
   have e1:(7 + 5 * (0 + (i:Int)):Int)=((7 + 5 * i:Nat):Int):=by omega
   have e2:(12 + 5 * (0 + (i:Int)):Int)=((12 + 5 * i:Nat):Int):=by omega
   have e3:12 + 5 * i - (7 + 5 * i)=5:=by omega
   rw [e3] at h2
   exact ⟨rk,by rw [e1,e2]; exact h1,h2⟩
 refine ⟨_,rfl,by decide,by decide,?_⟩
 refine bQ (lo:=0) (n:=(3:Int).toNat) (fun i σ H2=>∃(pa:Addr) (vps:List V) (ens:List En) (kv:Option V),σ=[some (.ref a),some (.ref p1),some (.ref r),some (.ref p3),some (.ref cA),some (.ref xx),some (.ref xl),some (.ref pa),kv,none,none,none,none,none,none,none]/\ai HE H2/\cu bs b2 (bs.length + 1 + i) (2 * nds.length + i) H2 pa vps ens) ⟨pa,Lz,IE,_,rfl,same_refl _,Lj⟩ (fun i σ H2 hi z=>?_) (fun σ H2 z=>?_)
 · obtain ⟨pa,vps,ens,kv,rfl,s2,pap⟩:=z
   have hi:i < 3:=hi
   obtain ⟨rk,Oo,N4⟩:=KU i hi
   refine aG ?_
   refine ⟨_,rfl,Yz,fun el PB=>?_⟩
   obtain ⟨H3,s3,g3,zz⟩:=aH PB (.lst [])
   rw [zz]; clear zz
   have oI:=pap.same s3
   have s03:=aa s2 s3
   refine ⟨_,RB.nil (aq.of oI.h) (aq.of g3),_,rfl,?_⟩
   refine aD (fun c=>?_) (fun _=>⟨pa,vps,ens,_,rfl,s03,oI.more (by omega) (by omega)⟩)
   have hG:0 < vps.length:=by
     cases vps with
     | nil=>exact absurd c (by decide)
     | cons _ _=>exact Nat.succ_pos _
   refine ⟨_,rfl,_,rfl,_,rfl,_,_,rfl,rfl,.inl ⟨by decide,by decide⟩,_,_,rfl,rfl,_,rfl,_,rfl,_,_,rfl,rfl,.inl ⟨by decide,by decide⟩,_,_,rfl,rfl,_,rfl,r,_,rfl,aq.of (s03 _ _ Qk),fun l9 P0=>?_⟩
   rw [ff,Oo]
   obtain ⟨H4,s4,g4,zz⟩:=aH P0 (.lst (rk.map V.int))
   rw [zz]; clear zz
   have Lp:=aa s03 s4
   refine ⟨_,rfl,_,rfl,.ref p1,.ref p3,bs,b2,rfl,(FZ.same Lp).bx,(F0.same Lp).bx,by omega,by omega,fun bl vl H5 s5 OX Dc=>?_⟩
   have Du:=Paired.length Dc
   rw [Sy] at Du
   unfold lV at Du
   rw [Sv,Sv] at Du
   refine ⟨pa,l9,bl,vps,vl,ens,rk,bs,b2,_,_,rfl,(oI.same s4).same s5,hG,(show 2 * nds.length + i<=200 by omega),(show 1<=bs.length + 1 + i by omega),s5 _ _ g4,N4,OX,?_,by omega,fun QZ vps' ens' H6 s6 Lk=>?_⟩
   · intro v hv
     obtain ⟨j,hj⟩:=Ua hv
     obtain ⟨e,he,hE⟩:=Paired.get Dc hj
     refine ⟨e,hE,?_⟩
     rcases List.mem_append.mp (SF he) with z | z
     · obtain ⟨b,hb,rfl⟩:=List.mem_map.mp z
       exact ⟨Tj,.inl ⟨rfl,List.mem_map.mpr ⟨b,hb,rfl⟩⟩,rfl⟩
     · obtain ⟨b,hb,rfl⟩:=List.mem_map.mp z
       exact ⟨Tj,.inr ⟨rfl,List.mem_map.mpr ⟨b,hb,rfl⟩⟩,rfl⟩
   · refine aG ?_
     exact ⟨QZ,vps',ens',_,rfl,aa Lp (aa s5 s6),Lk.more (by omega) (by omega)⟩
 obtain ⟨pa,vps,ens,kv,rfl,s2,pap⟩:=z
 have Q2:ens.length<=2 * nds.length + 3:=pap.few
 have Sl:=Paired.length pap.p
 have pok2:nI bs b2 (bs.length + 4) ens:=pap.ok
 refine kR _ _ ?_
 refine aV fun Rk kR=>?_
 have sE2:=aa sE s2
 have HP:=aa Nr sE2
 have sC2:=aa sD sE2
 refine ⟨_,rfl,p1,B1,I1,N1,nB,_,NH,rfl,HP _ _ hp1,HP _ _ hB1,HP _ _ hI1,HP _ _ G9,fun c1 CB CI CN HL sL xr Ml Mm Mn=>?_⟩
 refine ⟨_,rfl,p3,T3,I2,N2,nq,_,vn2,rfl,sL _ _ (sE2 _ _ uV),sL _ _ (sE2 _ _ IZ),sL _ _ (sC2 _ _ A8),sL _ _ (sC2 _ _ IX),fun c3 DB DI DN HM sM sJ Mo Mp Mq=>?_⟩
 have sLM:=aa sL sM
 refine ⟨_,rfl,pa,_,rfl,.inl (aq.of (sLM _ _ pap.h)),fun cp Pw=>⟨YC,fun ha MB=>?_⟩⟩
 have sN:ai HM (upd (upd HM cp (.lst vps)) ha (.lst [.ref c1,.ref c3,.ref cp])):=ao (af Pw _) MB
 have IP:(upd (upd HM cp (.lst vps)) ha (.lst [.ref c1,.ref c3,.ref cp])) cp=some (.lst vps):=by rw [aj (ag ae MB)]; exact ae
 have EI:(upd (upd HM cp (.lst vps)) ha (.lst [.ref c1,.ref c3,.ref cp])) ha=some (.lst [.ref c1,.ref c3,.ref cp]):=ae
 generalize upd (upd HM cp (.lst vps)) ha (.lst [.ref c1,.ref c3,.ref cp])=HN at sN IP EI ⊢
 have Nq:=aa sLM sN
 have Ls:=aa s2 Nq
 have Gv:=aa sM sN
 have vR:=pap.same Nq
 have NY:=FZ.same Ls
 have NZ:=F0.same Ls
 have HQ:=aa sE Ls
 have Lr:=aa Nr HQ
 have N0:bW HN (.ref c1) bs ins nds:=⟨c1,CB,CI,CN,nB,NH,rfl,Gv _ _ xr,Gv _ _ Ml,Gv _ _ Mm,Gv _ _ Mn,Paired.aI e8 (fun _ _ z=>Tp.keep (ai.tk Lr) z),Paired.aI Nh fun _ _ z=>bO.keep (ai.tk Lr) z⟩
 have N3:bW HN (.ref c3) b2 ins nds2:=⟨c3,DB,DI,DN,nq,vn2,rfl,sN _ _ sJ,sN _ _ Mo,sN _ _ Mp,sN _ _ Mq,Paired.aI mV (fun _ _ z=>Tp.keep (ai.tk HQ) z),Paired.aI Li fun _ _ z=>bO.keep (ai.tk (aa sD HQ)) z⟩
 have zN:GX bs b2 20 ens:=⟨by omega,fun e he=>(pok2 e he).1,fun e he=>(pok2 e he).2.1,fun e he=>by have:=(pok2 e he).2.2; omega⟩
 have nl4:nds.length<=4:=by omega
 refine aG ?_
 refine kR _ _ ?_
 refine c8 [some (.ref a),some (.ref p1),some (.ref r),some (.ref p3),some (.ref cA),some (.ref xx),some (.ref xl),some (.ref pa),kv,some (.ref ha),none,none,none,none,none,none] rfl ?_
 refine aV fun Rk kR=>?_
 refine ⟨_,rfl,pa,_,rfl,.inl (aq.of vR.h),_,rfl,by omega,by omega,?_⟩
 refine bQ (lo:=0) (n:=((vps.length:Nat):Int).toNat) (fun i σ H2=>(∃Lc Hv Ac Ad sZ tj,σ=[some (.ref a),some (.ref p1),some (.ref r),some (.ref p3),some (.ref cA),some (.ref xx),some (.ref xl),some (.ref pa),kv,some (.ref ha),Lc,Hv,Ac,Ad,sZ,tj])/\ai HN H2) ⟨⟨_,_,_,_,_,_,rfl⟩,same_refl _⟩ (fun i σ H3 hi z=>?_) (fun σ H3 z=>?_)
 · obtain ⟨⟨Lc,Hv,Ac,Ad,sZ,tj,rfl⟩,s3⟩:=z
   have PQ:i < ens.length:=by omega
   have sO:ens[i]? = some ens[i]:=Sx PQ
   refine aG ?_
   refine c8 [some (.ref a),some (.ref p1),some (.ref r),some (.ref p3),some (.ref cA),some (.ref xx),some (.ref xl),some (.ref pa),kv,some (.ref ha),some (.int (i:Nat)),Hv,Ac,Ad,sZ,tj] (by rw [Ve]; rfl) ?_
   refine aV fun Rk kR=>?_
   refine ⟨_,rfl,_,rfl,_,rfl,_,rfl,.ref p1,.ref p3,pa,i,ens[i],bs,b2,ens,rfl,⟨(NY.same s3).bx,(NZ.same s3).bx,f1.nd,f2.nd,by omega,by omega,fw1,fw2,K9,⟨vps,s3 _ _ vR.h,Paired.aI vR.p fun _ _ z=>z.same s3⟩,by omega,zN⟩,sO,fun du Sf Hd sd OZ Ng=>?_⟩
   refine aG ?_
   refine kR _ _ ?_
   have Nv:=aa s3 sd
   refine ⟨_,rfl,by decide,by decide,?_⟩
   refine bQ (lo:=0) (n:=(2:Int).toNat) (fun j σ H4=>(∃Ac Ad sZ tj,σ=[some (.ref a),some (.ref p1),some (.ref r),some (.ref p3),some (.ref cA),some (.ref xx),some (.ref xl),some (.ref pa),kv,some (.ref ha),some (.int (i:Nat)),some (.ref du),Ac,Ad,sZ,tj])/\ai Hd H4) ⟨⟨_,_,_,_,rfl⟩,same_refl _⟩ (fun j σ H4 hj z=>?_) (fun σ H4 z=>?_)
   · obtain ⟨⟨Ac,Ad,sZ,tj,rfl⟩,s4⟩:=z
     have sN4:=aa Nv s4
     refine aG ?_
     refine aV fun Rk kR=>?_
     refine ⟨_,rfl,ha,_,_,_,rfl,rfl,aq.of (sN4 _ _ EI),rfl,_,rfl,ha,_,_,_,rfl,rfl,aq.of (sN4 _ _ EI),rfl,_,rfl,ha,_,_,_,rfl,rfl,aq.of (sN4 _ _ EI),rfl,_,rfl,.ref c1,.ref c3,cp,i,ens[i],bs,b2,ens,rfl,⟨⟨ins,nds,nds2,N0.same sN4,N3.same sN4,f1,f2,szs⟩,fw1,fw2,K9,S3 EC (by decide),⟨vps,sN4 _ _ IP,Paired.aI vR.p fun _ _ z=>z.same sN4⟩,by omega,zN⟩,sO,fun fl ts Hf sf QQ G5 pts=>?_⟩
     refine aG ?_
     refine kR _ _ ?_
     have s4f:=aa s4 sf
     have QP:Hd fl=none:=aw s4 QQ
     refine aV fun Rk kR=>?_
     refine ⟨_,rfl,_,"list",_,true,rfl,dm.lst G5,rfl,_,rfl,?_⟩
     refine hV ?_
     refine ⟨_,rfl,_,rfl,true,?_,_,rfl,?_⟩
     · have tl:=Paired.length pts
       have dl:=Paired.length Ng
       refine RB.lst (aq.of G5) (aq.of (s4f _ _ OZ)) (by rw [Sv,Sv]; omega) fun k x y hx hy=>?_
       obtain ⟨t1,Qo,rfl⟩:=aJ hx
       obtain ⟨t2,Ft,rfl⟩:=aJ hy
       obtain ⟨r1,hr1,m1,y1,z1,z2,z3,_⟩:=Paired.get pts Qo
       obtain ⟨r2,j6,m2,y2,w1,w2,w3⟩:=Paired.get Ng Ft
       obtain rfl:r2=r1:=by rw [hr1] at j6; exact (S6 j6).symm
       have MS:∀{l:List Int} (j:Nat) (x y:V),(l.map V.int)[j]? = some x->(l.map V.int)[j]? = some y->ET K Hf 0 x y:=fun j x y hx hy=>by
         rw [hx] at hy
         cases hy
         obtain ⟨z,_,rfl⟩:=aJ hx
         exact ET.refl (.inl rfl)
       refine ET.tup (aF.of z1) (aF.of (s4f _ _ w1)) rfl fun j x y hx hy=>?_
       match j,hx,hy with
       | 0,hx,hy=>cases hx; cases hy; exact ET.lst (aq.of z2) (aq.of (s4f _ _ w2)) rfl MS
       | 1,hx,hy=>cases hx; cases hy; exact ET.lst (aq.of z3) (aq.of (s4f _ _ w3)) rfl MS
     refine aD (fun c=>absurd c (by decide)) (fun _=>?_)
     have Ic:∀{b:List (Str×Int)} {k:Nat},b.length<=2->(wA (av b) k).length<=400:=fun {b k} hb=>by
       unfold wA
       rw [Ta]
       cases hg:(av b)[k]? with
       | none=>exact TN _
       | some rr=>
         have:=bR _ _ (SF hg)
         rw [Sv] at this
         show rr.length<=400
         omega
     refine ⟨_,rfl,fl,ts,rfl,G5,fun t0 h0=>?_,fun Hg GA=>⟨_,rfl,?_⟩⟩
     · obtain ⟨k,hk⟩:=Ua h0
       obtain ⟨r1,_,m1,y1,z1,z2,z3,_⟩:=Paired.get pts hk
       exact ⟨m1,y1,_,_,z1,z2,z3,Ic l2,Ic (by omega)⟩
     refine hV ?_
     refine kR _ _ ?_
     have Q4:=aa s4f GA
     have EH:=GA _ _ G5
     have Iw:∀t0∈ts,qA Hd fl 400 Hg t0:=fun t0 h0=>by
       obtain ⟨k,hk⟩:=Ua h0
       obtain ⟨r1,_,m1,y1,z1,z2,z3,n1,n2,n3,n4,_⟩:=Paired.get pts hk
       exact ⟨m1,y1,_,_,GA _ _ z1,GA _ _ z2,GA _ _ z3,by rw [Sv]; exact Ic l2,by rw [Sv]; exact Ic (by omega),n3,n4,aw s4 n1,aw s4 n2⟩
     have tl:=Paired.length pts
     have RA:(ju bs b2 ens i ens[i]).length<=3000:=by
       rw [pM]
       exact S3 (Tw _ _) (by rw [Tn]; exact K9)
     refine aV fun Rk kR=>?_
     refine ⟨_,rfl,fl,rfl,⟨_,aq.of EH⟩,?_⟩
     refine bj (xs:=ts.map V.ref) (fun m σ H5=>(∃sZ tj,σ=[some (.ref a),some (.ref p1),some (.ref r),some (.ref p3),some (.ref cA),some (.ref xx),some (.ref xl),some (.ref pa),kv,some (.ref ha),some (.int (i:Nat)),some (.ref du),some (.int (0 + (j:Int))),some (.ref fl),sZ,tj])/\ai Hd H5/\H5 fl=some (.lst (ts.map V.ref))/\∀t0∈ts,qA Hd fl (400 + 2 * m) H5 t0) ⟨⟨_,_,rfl⟩,Q4,EH,Iw⟩ (fun m σ H5 _ z=>aq.of z.2.2.1) (fun m x σ H5 hx z=>?_) (fun σ H5 z=>?_)
     · obtain ⟨⟨sZ,tj,rfl⟩,s5,G4,any5⟩:=z
       obtain ⟨t0,MK,rfl⟩:=aJ hx
       have J0:m < ts.length:=(List.getElem?_eq_some_iff.mp MK).1
       obtain ⟨m1,y1,vm,vy,z1,z2,z3,N7,Rv,n1,n2,n3,n4⟩:=any5 t0 (SF MK)
       refine ⟨t0,_,rfl,aF.of z1,rfl,_,_,rfl,_,_,rfl,rfl,?_⟩
       refine ⟨_,rfl,.inl ⟨rfl,_,aq.of z2⟩,m1,vm,_,rfl,rfl,z2,jh (by omega),?_⟩
       have any6:∀t0∈ts,qA Hd fl (400 + 2 * m + 1) (upd H5 m1 (.lst (vm++[.int 0]))) t0:=fun t0 h0=>(any5 t0 h0).grow z2 N7
       have Me:(upd H5 m1 (.lst (vm++[.int 0]))) fl=some (.lst (ts.map V.ref)):=by rw [aj n1.symm]; exact G4
       have s6:ai Hd (upd H5 m1 (.lst (vm++[.int 0]))):=az s5 n3
       obtain ⟨wy,gy,ly⟩ : ∃wy,(upd H5 m1 (.lst (vm++[.int 0]))) y1=some (.lst wy)/\wy.length<=400 + 2 * m + 1:=by
         by_cases e:y1=m1
         · rw [e]; exact ⟨_,ae,by rw [Sy]; show _ + 1<=_; omega⟩
         · exact ⟨vy,by rw [aj e]; exact z3,by omega⟩
       generalize upd H5 m1 (.lst (vm++[.int 0]))=H6 at any6 Me s6 gy ⊢
       refine ⟨_,rfl,.inl ⟨rfl,_,aq.of gy⟩,y1,wy,_,rfl,rfl,gy,jh (by omega),⟨_,_,rfl⟩,az s6 n4,by rw [aj n2.symm]; exact Me,fun t0 h0=>?_⟩
       exact (any6 t0 h0).grow gy ly
     · obtain ⟨⟨sZ,tj,rfl⟩,s5,G4,_⟩:=z
       refine kR _ _ ?_
       refine ⟨_,rfl,.inl ⟨rfl,_,aq.of G4⟩,fl,_,_,rfl,rfl,G4,jh (by rw [Sv]; omega),?_⟩
       exact ⟨⟨_,_,_,_,rfl⟩,az s5 QP⟩
   · obtain ⟨⟨Ac,Ad,sZ,tj,rfl⟩,s4⟩:=z
     exact ⟨⟨_,_,_,_,_,_,rfl⟩,aa Nv s4⟩
 obtain ⟨⟨Lc,Hv,Ac,Ad,sZ,tj,rfl⟩,s3⟩:=z
 refine kR _ _ ?_
 refine ⟨_,rfl,_,rfl,_,rfl,_,rfl,YC,fun hb PK=>?_⟩
 obtain ⟨HV,sV,O0,zz⟩:=aH PK (.lst [.ref p1,.ref p3,.ref pa])
 rw [zz]; clear zz
 have sNV:=aa s3 sV
 have sAV:=aa Lr sNV
 have sDV:=aa HQ sNV
 have sCV:=aa sD sDV
 have sLV:=aa Gv sNV
 have sMV:=aa sN sNV
 have rfx:∀{n:Nat} {xs:List V},(∀v∈xs,bG v=true\/∃a,v=.ref a)->∀(j:Nat) (x y:V),xs[j]? = some x->xs[j]? = some y->ET K HV n x y:=fun g j x y hx hy=>by
   rw [hx] at hy
   cases hy
   exact ET.refl (g x (SF hx))
 have prf:∀{α:Type} {R:V->α->Prop} {vs:List V} {xs:List α},Paired R vs xs->(∀v x,R v x->∃a,v=.ref a)->∀v∈vs,bG v=true\/∃a,v=.ref a:=fun p k v hv=>by
   obtain ⟨j,hj⟩:=Ua hv
   obtain ⟨x,_,hx⟩:=Paired.get p hj
   exact .inr (k v x hx)
 have fs':∀(l:List Str),∀v∈l.map V.str,bG v=true\/∃a,v=.ref a:=fun l v hv=>by
   obtain ⟨x,_,rfl⟩:=List.mem_map.mp hv
   exact .inl rfl
 have Ni:∀{p p' B B' I I' N N':Addr} {vb vi vn:List V},HV p=some (.tup [.ref B,.ref I,.ref N])->HV p'=some (.tup [.ref B',.ref I',.ref N'])->HV B=some (.lst vb)->HV B'=some (.lst vb)->HV I=some (.lst vi)->HV I'=some (.lst vi)->HV N=some (.lst vn)->HV N'=some (.lst vn)->(∀v∈vb,bG v=true\/∃a,v=.ref a)->(∀v∈vi,bG v=true\/∃a,v=.ref a)->(∀v∈vn,bG v=true\/∃a,v=.ref a)->ET K HV 2 (.ref p) (.ref p'):=fun h1 h2 h3 h4 h5 h6 h7 h8 g1 g2 g3=>ET.tup (aF.of h1) (aF.of h2) rfl fun j x y hx hy=>by
   match j,hx,hy with
   | 0,hx,hy=>cases hx; cases hy; exact ET.lst (aq.of h3) (aq.of h4) rfl (rfx g1)
   | 1,hx,hy=>cases hx; cases hy; exact ET.lst (aq.of h5) (aq.of h6) rfl (rfx g2)
   | 2,hx,hy=>cases hx; cases hy; exact ET.lst (aq.of h7) (aq.of h8) rfl (rfx g3)
 refine ⟨true,RB.lst (aq.of (sNV _ _ EI)) (aq.of O0) rfl (fun j x y hx hy=>?_),q _⟩
 match j,hx,hy with
 | 0,hx,hy=>cases hx; cases hy; exact Ni (sLV _ _ xr) (sAV _ _ hp1) (sLV _ _ Ml) (sAV _ _ hB1) (sLV _ _ Mm) (sAV _ _ hI1) (sLV _ _ Mn) (sAV _ _ G9) (prf e8 fun v x h=>let ⟨p,e,_⟩:=h; ⟨p,e⟩) (fs' _) (prf Nh fun v x h=>h.ref)
 | 1,hx,hy=>cases hx; cases hy; exact Ni (sMV _ _ sJ) (sDV _ _ uV) (sMV _ _ Mo) (sDV _ _ IZ) (sMV _ _ Mp) (sCV _ _ A8) (sMV _ _ Mq) (sCV _ _ IX) (prf mV fun v x h=>let ⟨p,e,_⟩:=h; ⟨p,e⟩) (fs' _) (prf Li fun v x h=>h.ref)
 | 2,hx,hy=>cases hx; cases hy; exact ET.lst (aq.of (sNV _ _ IP)) (aq.of (sNV _ _ vR.h)) rfl (rfx (prf pap.p fun v x h=>let ⟨_,_,_,⟨p,e,_⟩,_⟩:=h; ⟨p,e⟩))
end
end TW
namespace TW
open PySem L2
theorem AQ {P:Program}{w:World}{K:Sw}{mg:Str->Option Value}{fa:Addr}(hfa:mg "law"=some (.ref fa))(t:Ee K mg) :
   ∃fd:S9,(∀(s:Shared) (u:Value),BindsTo s fd ⟨[u],[]⟩ [("script",u)])/\∀base:Heap,K.In base->base.Ns Uc mg->aN P w K mg base b6 65 fa fd ["script"] (qw K):=by
 obtain ⟨f,fd,F,m⟩:=t.s_law
 have e:=hfa.symm.trans m
 cases e
 refine ⟨fd,fun s u=>?_,fun base _ _=>?_⟩
 · obtain ⟨oc,od,kV,doc,pm,an,cdv,ct,osl,rfl,lk,hcd⟩:=F.ex
   exact .of_eq rfl
 have CE:aP P w K mg base "_law_cell_at" ["script","k"] 1 (gK K):=uo t.s_law_cell_at t.m_len
 have NU:aP P w K mg base "_law_numbers" ["cell","many","base"] 1 cN:=mE t.s_law_numbers t.m_range
 have SM:aP P w K mg base "_law_sum" ["row","names"] 1 jn:=yf t.s_law_sum t.m_len
 have CO:=uq t.s_law_condition SM
 have ND:=uz t.s_law_node t.m_len SM CO
 have BX:aP P w K mg base "_law_boxes" ["number"] 1 fP:=q0 t.s_law_boxes t.m_len t.m_range t.m_int
 have PR:=uC t.s_law_program t.m_len t.m_range CE NU BX ND
 have RN:aP P w K mg base "_law_renamed" ["thing","called"] 7 (fR 6):=yd t.s_law_renamed t.m_tuple t.m_isinstance 6
 have NA:=n8 t.s_law_node_as RN
 have SK:aP P w K mg base "_law_skip" ["boxes","called","number","after"] 1 jm:=uD t.s_law_skip t.m_len
 have OV:=uA t.s_law_made_over t.m_len t.m_range t.m_int t.m_list NA SK
 have RS:aP P w K mg base "_law_resized" ["program","number"] 1 ek:=mF t.s_law_resized t.m_int
 have CP:aP P w K mg base "_law_copied" ["program"] 1 qr:=xX t.s_law_copied t.m_list
 have WH:aP P w K mg base "_law_whole" ["found"] 1 fT:=rb t.s_law_whole t.m_isinstance t.m_int t.m_bool
 have LV:∀n,aP P w K mg base "_law_value" ["thing","boxes"] (n + 1) (b3 n):=n5 t.s_law_value
 have LT:=q8 t.s_law_true LV
 have LK:aP P w K mg base "_law_known" ["one","other","mine","yours"] 1 qu:=xZ t.s_law_known t.m_len t.m_range
 have LW:aP P w K mg base "_law_worths" ["sizes"] 1 qv:=x8 t.s_law_worths t.m_range
 have BO:aP P w K mg base "_law_boxes_of" ["one","other"] 1 qp:=xW t.s_law_boxes_of
 have PN:=q9 t.s_law_plain t.m_isinstance t.m_list t.m_tuple t.m_all WH
 have AS:aP P w K mg base "_law_all_same" ["boxes","called"] 1 ji:=um t.s_law_all_same
 have GP:=Bb t.s_law_good_paper t.m_len t.m_range t.m_int AS
 have SP:aP P w K mg base "_law_spoilt" ["paper","row","boxes"] 1 qy:=ye t.s_law_spoilt t.m_len t.m_max
 have BS:aP P w K mg base "box_sizes" ["program"] 1 iu:=qZ t.s_box_sizes
 have IS:aP P w K mg base "input_sizes" ["program"] 1 jj:=ur t.s_input_sizes t.m_dict
 have NP:=n6 t.s_refuse_no_pair IS
 have EV:aP P w K mg base "every_worths" ["sizes"] 1 qt:=xY t.s_every_worths t.m_range
 obtain ⟨CS,c1,f1,d1,F1,M1⟩:=t.k_Side
 obtain ⟨C,c2,⟨f2,d2,F2,M2⟩,f3,d3,F3,M3⟩:=t.k_Ground
 have SD:lP P w K mg base "Side" CS ["self","program"] 2 (lH K CS):=⟨f1,d1,vL F1 c1 EV BS t.m_tuple t.m_enumerate,eE F1 fun _ _ _ _ _ _ _ _=>rfl,M1,c1.m⟩
 have GD:lP P w K mg base "Ground" C ["self","one","other"] 4 (wW K C):=⟨f2,d2,B7 F2 c2 SD t.m_len t.m_list t.m_range t.m_enumerate,nM F2 fun _ _ _ _ _ _ _ _ _=>rfl,M2,c2.m⟩
 have WO:qB P w K mg base C "worths_of" ["self","row"] 1 (wX K C):=⟨f3,d3,B8 F3 t.m_list,eE F3 fun _ _ _ _ _ _ _ _=>rfl,M3⟩
 have WL:∀n,aP P w K mg base "worths_along" ["ground","rows","sum_told"] (n + 1) (fS K C n):=yg t.s_worths_along t.m_len t.m_zip
 have RO:aP P w K mg base "rows_without" ["rows","taken"] 1 jl:=yc t.s_rows_without t.m_set
 have RW:=yb t.s_rows_where t.m_zip WL RO
 have RC:aP P w K mg base "rows_counted" ["ground","paper"] 22 (qx K C 20):=x9 t.s_rows_counted RW RO
 have EW:aP P w K mg base "entry_worths" ["one","other","paper","number"] 28 (wV 20):=let ⟨f,fd,F,m⟩:=t.s_entry_worths; ⟨f,fd,B5 F c2.c NP GD RC WO,F.kp,tK F fun _ _ _ _ _ _ _ _ _ _=>rfl,m⟩
 have DU:aP P w K mg base "_law_due" ["one","other","paper","number"] 24 (wU 20):=let ⟨f,fd,F,m⟩:=t.s_law_due; ⟨f,fd,B4 F t.m_any LW LK LT,F.kp,tK F fun _ _ _ _ _ _ _ _ _ _=>rfl,m⟩
 exact Cb F t.m_len t.m_list t.m_range t.m_isinstance (PR.mono (by decide)) (NU.mono (by decide)) (CE.mono (by decide)) (OV.mono (by decide)) (RS.mono (by decide)) (GP.mono (by decide)) (SP.mono (by decide)) (BO.mono (by decide)) (CP.mono (by decide)) (DU.mono (by decide)) (EW.mono (by decide)) (PN.mono (by decide))
end TW
namespace TW
open PySem L2
theorem walk {l:PySem.W.OpenLaw}{q:Program}{loose:List Str}{XP:(Str->Option Value)->Heap->Prop}{YP:World->Heap->Prop}{d:DefRec}{K:Params->Sw}(hn:l.most=some 63)(hdf:d.params.defaults=[])
   (hY:∀(w:World) (h:Heap),YP w h->(K w.params).In h)
   (F:∀(w:World) (mg:Str->Option Value) (fa:Addr) (h:Heap),(K w.params).In h->h.Ns Uc mg->mg d.name=some (.ref fa) ->
     ∃fd:S9,(∀(s:Shared) (u:Value),BindsTo s fd ⟨[u],[]⟩ [("script",u)])/\∀base:Heap,(K w.params).In base->base.Ns Uc mg->aN l.prog w (K w.params) mg base b6 65 fa fd ["script"] (qw (K w.params))) :
   PySem.W.WalkO q loose XP YP l.row.toRowW d [] (fun f vs=>PySem.call f vs):=
 L2.zD (n:=63) (k:=65) (x:="script") (CX:=fun _=>b6) (sp:=fun w=>qw (K w.params)) hn (by decide) hdf ⟨rfl,by decide,by decide⟩ hY F (fun _ _ a ns hl _ hS=>⟨a,ns,rfl,hS,hl,fun _=>rfl⟩) fun _ _ _ _ _ z=>z
end TW
namespace PySem.W.Fast
def tw10132639993975655807:=0
def tw10142352156009518971:=0
def tw10148934411397313822:=0
def tw10152526964576564108:=0
def tw10300803959253009880:=0
def tw10320132656961402636:=0
def tw10471649370400552054:=0
def tw10500686395885059257:=0
def tw10506071696258011048:=0
def tw10508219283315346901:=0
def tw10524548986105079212:=0
def tw105605979286738270:=0
def tw10560999411784057841:=0
def tw1056505926075981735:=0
def tw10712218187538273898:=0
def tw10781891328758069747:=0
def tw10844138771120902888:=0
def tw1087761400607775745:=0
def tw10904795415695340225:=0
def tw1093775789327140645:=0
def tw10951211719715885342:=0
def tw10980533702146106949:=0
def tw110156370479082985:=0
def tw11060815337779826120:=0
def tw11071444950764762772:=0
def tw11286063200098123681:=0
def tw11317636833125646132:=0
def tw11487547092791490088:=0
def tw1149167237662048940:=0
def tw11548090236911153562:=0
def tw11585708347746384799:=0
def tw11645414753438796512:=0
def tw11686851355141147039:=0
def tw11689663666310711871:=0
def tw11696118492706729115:=0
def tw11722739607539836964:=0
def tw11757159432764811569:=0
def tw11991998291592657137:=0
def tw12006407718919206010:=0
def tw12120063361814351289:=0
def tw12156533845528733095:=0
def tw12169746172683396425:=0
def tw12248249909234396685:=0
def tw12269497451745232151:=0
def tw12282214320816654337:=0
def tw12334836003371198343:=0
def tw12354344117557738727:=0
def tw12371588259491914470:=0
def tw1243009799796895757:=0
def tw1245499417615671482:=0
def tw12517367742199645702:=0
def tw12517833073604225720:=0
def tw12528843603805952895:=0
def tw12776437347567898140:=0
def tw12908133973411578448:=0
def tw12936786353096516060:=0
def tw13099805685577804671:=0
def tw13132922589558105824:=0
def tw13382347360420741011:=0
def tw13382914942933914935:=0
def tw13399152958136863768:=0
def tw13420092569070124431:=0
def tw13463184042613883140:=0
def tw13488637051965101032:=0
def tw13514041217461151208:=0
def tw13543208942365380871:=0
def tw1355694133534752347:=0
def tw1362416165232250246:=0
def tw1375367420870810927:=0
def tw13761631054276751576:=0
def tw13846561682804645282:=0
def tw13909971274333251175:=0
def tw13965720099912264540:=0
def tw14056257289739982770:=0
def tw14057916263008844747:=0
def tw14067368915554910980:=0
def tw14090747995683716760:=0
def tw14254652280751106491:=0
def tw14264670317179111100:=0
def tw14323980772193856241:=0
def tw14472830438095747739:=0
def tw14482553712887965557:=0
def tw14684337246083444352:=0
def tw14697441583666497356:=0
def tw14806761846998222054:=0
def tw14843759173506293229:=0
def tw14874918004724363053:=0
def tw14892991171900871284:=0
def tw14924005623826749228:=0
def tw1501987897016747129:=0
def tw15022791360714382370:=0
def tw15144122583593760403:=0
def tw15220342992610729704:=0
def tw1533851180150681037:=0
def tw15413703675199105571:=0
def tw15470417497833020962:=0
def tw15523140366664178825:=0
def tw15526565919357687131:=0
def tw15553252603325566050:=0
def tw1557922334369726119:=0
def tw15631847813780215769:=0
def tw15764968269031069686:=0
def tw15773272498875576544:=0
def tw15773315783339934190:=0
def tw15803814085565041707:=0
def tw15873533083073395453:=0
def tw15875353333954292428:=0
def tw15947212559814845056:=0
def tw16014599962639673072:=0
def tw16078212356819383630:=0
def tw16093352024955760280:=0
def tw16118795293472614914:=0
def tw16204450723086609151:=0
def tw16245628552696759764:=0
def tw16253070824436730843:=0
def tw16275283877440737114:=0
def tw16275654543527499258:=0
def tw16293374062201697798:=0
def tw16351287324041951015:=0
def tw16364919793744875169:=0
def tw16424298880829932794:=0
def tw1647566666923075552:=0
def tw16551974694233827806:=0
def tw16606914523370639245:=0
def tw16618052868430888530:=0
def tw16701160317452982715:=0
def tw16782457956474288974:=0
def tw16872907004010127440:=0
def tw16881581021466196728:=0
def tw16888572337018367041:=0
def tw16934158674175357810:=0
def tw16947626811568384777:=0
def tw16997171737775955489:=0
def tw17054207982939811238:=0
def tw17058869898362943234:=0
def tw17079822425176181308:=0
def tw17098127990441350536:=0
def tw17121441536690176043:=0
def tw17140300029830710311:=0
def tw17141818198869910823:=0
def tw17161406729311936513:=0
def tw17184410249820979435:=0
def tw17209388692391255460:=0
def tw17325031745754548227:=0
def tw17415264549388440113:=0
def tw17435316809026110332:=0
def tw17460320756426677874:=0
def tw17488512454993344001:=0
def tw17538354591881628256:=0
def tw17558645463512785972:=0
def tw17685135064357717751:=0
def tw17688053629290613486:=0
def tw17788574508598291514:=0
def tw17895011091136098572:=0
def tw17901162476104471637:=0
def tw17906115010547625548:=0
def tw18055035633576234308:=0
def tw18135271587019063262:=0
def tw18334323303326334480:=0
def tw18338001544566491221:=0
def tw18423234941002155225:=0
def tw18424247994179438875:=0
def tw1902752712646658619:=0
def tw1945558048274381815:=0
def tw2028113125936056194:=0
def tw2091399671725013811:=0
def tw223338583177624678:=0
def tw2237139607211843498:=0
def tw2278397350652502874:=0
def tw2325612633763316702:=0
def tw2429187074833666573:=0
def tw2497697440387977186:=0
def tw2556623115487177111:=0
def tw2645044639408672542:=0
def tw2854780371251974057:=0
def tw2865502934205320605:=0
def tw2866059623066664323:=0
def tw2888108474702957823:=0
def tw2928510196874147925:=0
def tw2963719964430813729:=0
def tw3003554326601174697:=0
def tw3092426354076297549:=0
def tw310721280651136097:=0
def tw3136344658423874735:=0
def tw3262955234039325067:=0
def tw3276790744148266168:=0
def tw3296069809971755533:=0
def tw3425641198844967136:=0
def tw3436007372184585503:=0
def tw3453979903883990887:=0
def tw348170998178072476:=0
def tw3507150102380606899:=0
def tw369383610046291226:=0
def tw3711953333841234233:=0
def tw3766100636690908707:=0
def tw3774242346111979742:=0
def tw3794712391522506892:=0
def tw3879176254487230112:=0
def tw3889346626387245177:=0
def tw3890993734828636915:=0
def tw3900760811390826070:=0
def tw3911121999910846145:=0
def tw3928406739025366492:=0
def tw4042917088336693885:=0
def tw4069631160044837656:=0
def tw4086110360358307544:=0
def tw4097279272455766270:=0
def tw4154859272846680029:=0
def tw4182316561071662352:=0
def tw4218513397127031652:=0
def tw4227345295246896703:=0
def tw42294748926078183:=0
def tw4254570401420439885:=0
def tw4379464120305546429:=0
def tw460080525600975712:=0
def tw4608169848936785442:=0
def tw4734716522192089508:=0
def tw4832875154341662809:=0
def tw4866241500914534254:=0
def tw4868073902983845882:=0
def tw5087118469855584060:=0
def tw5103822312979991063:=0
def tw5168311527526826950:=0
def tw5362729897328003449:=0
def tw5381679501033459105:=0
def tw5475242974001346709:=0
def tw5481459351193416039:=0
def tw549490969378012226:=0
def tw5635008063797212124:=0
def tw5818871117124353788:=0
def tw5856762564210030497:=0
def tw5870031583401721341:=0
def tw5908201187431768468:=0
def tw5940038948172223229:=0
def tw5978059853001139539:=0
def tw6259576059685510032:=0
def tw6274006979215521529:=0
def tw6290160599102361480:=0
def tw6324377059768872967:=0
def tw6349903552452916328:=0
def tw6359400291678300992:=0
def tw6362511721392523714:=0
def tw6379283978180829956:=0
def tw6426154261414523056:=0
def tw6514265748606821299:=0
def tw6516003187032082161:=0
def tw6557164521618653645:=0
def tw6586314889170851152:=0
def tw6595195655346463536:=0
def tw662563994119740491:=0
def tw6654821443221044024:=0
def tw6825439075109108269:=0
def tw6850768216106663313:=0
def tw6884563449799128551:=0
def tw6944708956772545878:=0
def tw7055780553514612709:=0
def tw7059908179913225485:=0
def tw7140815246173934044:=0
def tw7226533729946376865:=0
def tw7273089363602702501:=0
def tw7287014994333806371:=0
def tw7320258745005169171:=0
def tw7411322738954837076:=0
def tw7460911706249351974:=0
def tw7539888101519253696:=0
def tw7566242504539883895:=0
def tw7568949493247763280:=0
def tw7849988346005673809:=0
def tw7912731148768080827:=0
def tw7990026409430840570:=0
def tw8023567762650574869:=0
def tw8090070092011043129:=0
def tw8234503482579649112:=0
def tw8400752174809481033:=0
def tw8406932341054236950:=0
def tw8412409494821941139:=0
def tw8416561010397856930:=0
def tw8423142455817825738:=0
def tw8460006553361999504:=0
def tw8465363556857705193:=0
def tw8498050923315088980:=0
def tw852425825725376833:=0
def tw8586524844589605607:=0
def tw8611783408772344538:=0
def tw8649121120083329217:=0
def tw8849974837635416565:=0
def tw885267408618427801:=0
def tw8888696934549679811:=0
def tw89095436519082511:=0
def tw917761732191644887:=0
def tw9177809306145291817:=0
def tw9223155923014604545:=0
def tw9235687364554862136:=0
def tw9274116555554801943:=0
def tw9287175986770610886:=0
def tw9409946506758413508:=0
def tw9452085162000272795:=0
def tw9511792130774450669:=0
def tw9518913795603620996:=0
def tw9562266057656130697:=0
def tw9605067368612662764:=0
def tw9633050914257876467:=0
def tw9633491108795647472:=0
def tw9638565060653270506:=0
def tw9682681949787645875:=0
def tw9821952463063956944:=0
def tw9969583002102385539:=0
def tw9981526320102586297:=0
end PySem.W.Fast
open PySem PySem.W PyProof.Rows
set_option maxRecDepth 100000 in
set_option maxHeartbeats 0 in
theorem PySem.Challenge.cw_twinwalk_k19_worths_of_entries_holds : PySem.Challenge.rw_twinwalk_k19_worths_of_entries.Holds := by
 w_on; o_law; k_head; (case hw=>w_witness2)
 k_fill
 refine TW.walk (l:=PySem.Challenge.rw_twinwalk_k19_worths_of_entries) rfl rfl (fun w h Y=>PySem.W.kIn_of Y) ?F
 case F=>
   intro w mg fa h KX G hmg
   refine TW.AQ hmg ?_
   refine' (⟨TW.aM KX G ?_ ?_ ?_ ?_,TW.aM KX G ?_ ?_ ?_ ?_,TW.aM KX G ?_ ?_ ?_ ?_,TW.aM KX G ?_ ?_ ?_ ?_,TW.aM KX G ?_ ?_ ?_ ?_,TW.aM KX G ?_ ?_ ?_ ?_,TW.aM KX G ?_ ?_ ?_ ?_,TW.aM KX G ?_ ?_ ?_ ?_,TW.aM KX G ?_ ?_ ?_ ?_,TW.aM KX G ?_ ?_ ?_ ?_,TW.aM KX G ?_ ?_ ?_ ?_,TW.aM KX G ?_ ?_ ?_ ?_,TW.aM KX G ?_ ?_ ?_ ?_,TW.aM KX G ?_ ?_ ?_ ?_,TW.aM KX G ?_ ?_ ?_ ?_,TW.aM KX G ?_ ?_ ?_ ?_,TW.aM KX G ?_ ?_ ?_ ?_,TW.aM KX G ?_ ?_ ?_ ?_,TW.aM KX G ?_ ?_ ?_ ?_,TW.aM KX G ?_ ?_ ?_ ?_,TW.aM KX G ?_ ?_ ?_ ?_,TW.aM KX G ?_ ?_ ?_ ?_,TW.aM KX G ?_ ?_ ?_ ?_,TW.aM KX G ?_ ?_ ?_ ?_,TW.aM KX G ?_ ?_ ?_ ?_,TW.aM KX G ?_ ?_ ?_ ?_,TW.aM KX G ?_ ?_ ?_ ?_,TW.aM KX G ?_ ?_ ?_ ?_,TW.aM KX G ?_ ?_ ?_ ?_,TW.aM KX G ?_ ?_ ?_ ?_,TW.aM KX G ?_ ?_ ?_ ?_,TW.aM KX G ?_ ?_ ?_ ?_,TW.aM KX G ?_ ?_ ?_ ?_,TW.aM KX G ?_ ?_ ?_ ?_,⟨_,⟨VV KX G ?_,⟨?_,?_,?_,?_⟩,⟨?_,?_,?_,?_,?_,trivial⟩⟩,⟨_,_,L2.kN ?_ ?_ ?_,⟨?_,?_,?_,?_⟩⟩⟩,⟨_,⟨VV KX G ?_,⟨?_,?_,?_,?_⟩,⟨?_,?_,?_,?_,?_,trivial⟩⟩,⟨_,_,L2.kN ?_ ?_ ?_,⟨?_,?_,?_,?_⟩⟩,⟨_,_,L2.kN ?_ ?_ ?_,⟨?_,?_,?_⟩⟩⟩,Ti KX G ?_,Ti KX G ?_,Ti KX G ?_,Ti KX G ?_,Ti KX G ?_,Ti KX G ?_,Ti KX G ?_,Ti KX G ?_,Ti KX G ?_,Ti KX G ?_,Ti KX G ?_,Ti KX G ?_,Ti KX G ?_,Ti KX G ?_,Ti KX G ?_⟩ : TW.Ee _ _)
   any_goals first | k_is | k_exc | rfl
   any_goals first | k_is | k_exc | rfl
   all_goals first | kit_is | decide | (repeat' constructor)
