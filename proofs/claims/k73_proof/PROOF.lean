import PyProof.Rows.All
import Wide.All
import OpenK.AllK
import Wide.FinOn
import Lean
import PyProof.EqAt
import PyProof.EqKinds
import PyProof.TupleCall
import PySem.Challenge.RW_twinwalk_k73_rows_of_no_program
set_option maxHeartbeats 1000000
set_option compiler.extract_closed false
local macro_rules|`(tactic|show$e)=>`(tactic|refine$e)
local macro_rules|`(tactic|left)=>`(tactic|decide)
local macro_rules|`(tactic|right)=>`(tactic|decide +kernel)
theorem U.{u}{α:Sort u}{a:α}:a=a:=rfl
open List renaming length_map->Rn,mem_cons_self->Ru,length_append->Rx,mem_cons_of_mem->RC,length_cons->RE,size_toArray->RH,mem_of_getElem? -> RL,getElem?_eq_getElem->RQ,map_append->RW,append_nil->RY,map_cons->R3,not_mem_nil->R4,filterMap_append->R7,length_take->R8,take_add_one->R9,getElem?_map->Sb,take_length->Sf,mem_cons->Sh,mem_append_right->Si,length_singleton->Sj,reverse_cons->Sk,append_assoc->SK,length_filterMap_le->SV,mem_append_left->S0,sum_cons->S2,getElem?_set_self->S5,map_map->Te,lookup_cons->Tj,length_drop->Tn,length_nil->Tx,range->TH,getD_eq_getElem?_getD->TJ,length_reverse->TV,filterMap_cons->TX,find?_cons->T4,map_nil->Ud,getElem?_set_ne->Ug,lookup->Uh,length_set->Ui,getElem?_append_right->Uk,any_eq_false->Uw,filter_cons_of_pos->Uy,filter_cons_of_neg->Uz,any_cons->UA,take_of_length_le->UI,sum_nil->UQ,of_mem_zip->UR,length_replicate->US,forIn_cons->UT,dropLast_concat->U2,length_take_le->U8,map_take->Vi,eraseIdxIfInBounds_toArray->Vm,eq_nil_of_length_eq_zero->Vv,any_eq_true->Vw,nil_append->VA,replicate->VQ,getElem?_append_left->VR,drop_zero->VS,map_drop->V6,getElem?_replicate->V7,eraseIdx_cons_succ->V8,all_cons->V9,length_filter_le->Wf
open PySem.W renaming Frag->Ro,kitOne->Rq,mg_none_of->So,kitAny->Sv,findIn->Sw,mg_of->Sx,hideAll->Sy,emptyDict->SF,fnOf->S6,instObj->S9,keepIn->Tf,plainGet->Uv,lookIn->UN,codeIn->UO,plainGet_of->UY,hideAll_get->UZ,of_hideAll->U3,clsIn->U4,callWith_K->U5,methodObj->Vc,hasDictIn->Vd,takerIn->Vn,excIn->VF,cellsFrom_some->VM,nsIn->VX,methodCall_KW->VY,isFn->VZ,hideAll_none->V4,plainOver->Wj
open PySem.Heap renaming get?_push_of_some->Rr,lt_size->RD,get?_push_size->RK,SameBut->Sz,size_push->Tr,get?_update_other->T7,get?_update_self->UU,FlyingW->Wh
open PySem.Str renaming ofString->Rt,join->Td,empty->TR,append_assoc->UE
open PySem renaming Spec->Rv,boot_len->RG,FuncData->RZ,foldedSetIterable->Sg,mem_of_lookup->Sm,attributeBase->Ss,mainGlobals->SD,bootBuiltins->SJ,strLen_append->SU,sysModules->Th,wpAny_callSpecial?_slot->Tt,swapsWith->Tw,wpAny_passesOwn->TN,behindInMarks->TQ,DictEntry->TZ,wpAny_execs_cons->T2,wpAny_getItem_str_slice->T8,ofString_length->T9,NameKind->Ua,wpAny_execs_nil->Up,wpAny_pyIter_list->UJ,wpAny_comprehension_free->UK,seqIndex? -> Va,call_meets->Vh,wpAny_newFunctionEnv->Vj,intText? -> VE,bindArgs->V3,Operator->V5,codeAny_builtin->Wb,Within->Wc
open Nat renaming le_trans->Ry,le_refl->Rz,lt_of_lt_of_le->RJ,ne_of_lt->R1,zero_le->Sd,lt_irrefl->SR,le_of_lt->S3,succ_pos->S8,ne_of_gt->Tg,lt_succ_self->Tq,lt_of_le_of_lt->Tv,lt_trans->TC,toDigits_of_lt_base->UD,le_add_right->UH,toDigits->U1,pow_le_pow_right->U6,le_succ->Ve,one_le_two_pow->Vl,sub_self->Vu,toDigits_append_toDigits->Vy,sub_zero->Wm,pow_succ->Wn
open PySem.Txt renaming join->RM,split->S7,replace->Vb,slice_le->Vs,contains->Vt,slice->VD
open True renaming intro->RO
open Bool renaming false_ne_true->RV,and_eq_true->To,false_eq_true->Um,eq_iff_iff->UX
open PySem.Value renaming ref->R6,none->SH,isStrOf->TY,str->Uq,bool->Ur,int->UL,type->Vk
open Option.some renaming inj->Sa
open PySem.Builtin.SmallTypes renaming nextOf->Se,ownedTupleIsFree->SQ,ownedTupleHandOut->Uj
open PySem.NameKind renaming free->Sl,cell->Vz
open PySem.PassesOwn renaming leaving->Sn,never->Wk
open PySem.Builtin.Str renaming glued->Sr,strSliceIndices->Uc,occurrences->Vr,strKind->VL
open PySem.Calls renaming spliced_cons->Su,spliced_nil->Tc,callWith_builtin->Ts,evalArgs_plain->TL,Constant_str->Vf,Name_function_global->VC
open PyProof.Rows renaming callWith_type1->SY,slot_tupleiter_next->S4,IsTupIter->Ub,entry_tupleiter_next->UG,args_tupleiter_next->UM,slot_tuple_getitem->UP,callWith_builtin1->U0
open Option renaming map_some->Ta
open False renaming elim->Tb
open Int renaming eq_ofNat_of_zero_le->Ti,toNat_natCast->Vp,ediv_nonneg->VJ,fdiv_eq_ediv_of_nonneg->VT
open PySem.Builtin.Slice renaming slicePlaces->Tu,sliceAdjust->Ue,sliceApplied->U9
open PySem.Builtin.Tuple renaming tupleExact->Tz
open ForInStep renaming yield->TU
open PySem.F renaming slot_str_split->T3,slot_zip_next->T5,slot_dict_get->T6,args_str_split_2->Ul,plainAttrs_list->Us,entry_str_split->Ut,plainAttrs_str->Ux,args_tuple_add_2->Vx,plainAttrs_dict->VG,entry_tuple_add->VH,args_zip_next_1->VI,slot_tuple_add->VN,entry_zip_next->VO,entry_dict_get->VP,type_list_pop->V0,type_dict_get->V1,slot_list_pop->V2
open PySem.Obj renaming data_mapFields->Uo,mapFields->UC,mapSeq->Vo,isFreed_of_fields->Wl
open PyProof.Rows.F renaming plain_set_update_loop->Uu
open PySem.Code renaming compLoop->UB,isFrame->Wi
open PySem.Builtin.ObjectAttr renaming bindTo->UW
open Array renaming length_toList->U7,append_assoc->Vg,getElem?_toList->We
open Classical renaming byContradiction->Vq
open PySem.Heap.SameBut renaming update->VB
open PySem.SeqAt.EqAt renaming str_int->VU,int_str->VW
open PySem.Around renaming under->Wa
set_option Elab.async false
set_option linter.all false
set_option maxRecDepth 100000
def au {a b:Prop}(h₁:a)(h₂:¬a):b:=absurd h₁ h₂
def dI.{u}{c:Prop}{h:Decidable c}(hc:c){α:Sort u}{t e:α}:ite c t e=t:=if_pos hc
def dh.{u}{c:Prop}{h:Decidable c}(hc:¬c){α:Sort u}{t e:α}:ite c t e=e:=if_neg hc
def jg {p:Prop}{i:Decidable p}(h:decide p=true):p:=of_decide_eq_true h
def hW {p:Prop}{i:Decidable p}(h:p):decide p=true:=decide_eq_true h
def gv {p:Prop}{i:Decidable p}(h:¬p):decide p=false:=decide_eq_false h
abbrev aB:=List (PySem.Str×Int)
def YI:0<=PySem.sizeLine:=by left
def YJ:1<=PySem.sizeLine:=by left
def YK:2<=PySem.sizeLine:=by left
def YL:3<=PySem.sizeLine:=by left
def YM:4<=PySem.sizeLine:=by left
def YN:5<=PySem.sizeLine:=by left
def YO:6<=PySem.sizeLine:=by left
def YQ:7<=PySem.sizeLine:=by left
def YR:8<=PySem.sizeLine:=by left
def YS:10<=PySem.sizeLine:=by left
def YT:12<=PySem.sizeLine:=by left
def YU:14<=PySem.sizeLine:=by left
def YV:24<=PySem.sizeLine:=by left
namespace L2
open PySem PySem.Spec PyProof.Rows
abbrev Key:=Sum Int Str
def mf:Key->Value->Bool
 | .inl k,v=>Value.isInt k v
 | .inr x,v=>TY x v
def KZ (w:World):Key->Int
 | .inl k=>hashInt k
 | .inr x=>hashStr w x
def bE:∀{k:Key} {v:Value},mf k v=true->(∃i t,k=Sum.inl i/\v=UL i t)\/(∃x t,k=Sum.inr x/\v=Uq x t)
 | .inl i,v,h=>by
   obtain⟨t,e⟩:=Value.isInt_shape (k:=i) (v:=v) h
   show .inl ⟨i,t,U,e⟩
 | .inr x,v,h=>by
   obtain⟨t,e⟩:=Value.isStrOf_shape (x:=x) (v:=v) h
   show .inr ⟨x,t,U,e⟩
def tY (i:Int)(t:Tok):mf (.inl i) (.int i t)=true:=by simp[mf,Value.isInt]
def tZ (x:Str)(t:Tok):mf (.inr x) (.str x t)=true:=by simp[mf,TY]
def CV (a b:Int):decide ((Sum.inl a:Key)=Sum.inl b)=(a==b):=by
 by_cases e:a=b
 . subst e;simp
 . have h:¬ (Sum.inl a:Key)=Sum.inl b:=fun q=>e (Sum.inl.inj q)
   rw[gv h]
   show(beq_eq_false_iff_ne.mpr e).symm
def CZ (a b:Str):decide ((Sum.inr a:Key)=Sum.inr b)=decide (a=b):=by
 by_cases e:a=b
 . subst e;simp
 . have h:¬ (Sum.inr a:Key)=Sum.inr b:=fun q=>e (Sum.inr.inj q)
   rw[gv h,gv e]
def CW (a:Int)(b:Str):decide ((Sum.inl a:Key)=Sum.inr b)=false:=gv (fun q=>nomatch q)
def CY (a:Str)(b:Int):decide ((Sum.inr a:Key)=Sum.inl b)=false:=gv (fun q=>nomatch q)
def bH (prog:Program)(w:World):PySem.KeyKind prog w Key where
 is:=mf
 hash:=KZ w
 inj:=fun v a b ha hb=>by
   rcases bE ha with⟨i,t,rfl,rfl⟩|⟨x,t,rfl,rfl⟩
   . rcases bE hb with⟨j,u,rfl,e⟩|⟨y,u,rfl,e⟩
     . injection e with e1 _;rw[e1]
     . show nomatch e
   . rcases bE hb with⟨j,u,rfl,e⟩|⟨y,u,rfl,e⟩
     . show nomatch e
     . injection e with e1 _;rw[e1]
 byValue:=fun k v h=>by
   rcases bE h with⟨i,t,rfl,rfl⟩|⟨x,t,rfl,rfl⟩<;>rfl
 pyHash:=fun hv h=>by
   rcases bE hv with⟨i,t,rfl,rfl⟩|⟨x,t,rfl,rfl⟩
   . show wpAny_pyHash_int h
   . show wpAny_pyHash_str h
 eqBool:=fun hu hv h=>by
   rcases bE hu with⟨i,t,rfl,rfl⟩|⟨x,t,rfl,rfl⟩
   . rcases bE hv with⟨j,u,rfl,rfl⟩|⟨y,u,rfl,rfl⟩
     . rw[CV]at h;show wpAny_eqBool_int h
     . rw[CW]at h;show VW i t y u _ _ _ _ h
   . rcases bE hv with⟨j,u,rfl,rfl⟩|⟨y,u,rfl,rfl⟩
     . rw[CY]at h;show VU x t j u _ _ _ _ h
     . rw[CZ]at h;show wpAny_eqBool_str h
 «strs»:=fun k x t v h=>by
   rcases bE h with⟨i,u,rfl,e⟩|⟨y,u,rfl,e⟩
   . show nomatch e
   . injection e with e1 _
     subst e1
     cases v<;>rfl
def oS (prog:Program)(w:World)(i:Int)(t:Tok):(bH prog w).is (.inl i) (.int i t)=true:=tY i t
def oU (prog:Program)(w:World)(x:Str)(t:Tok):(bH prog w).is (.inr x) (.str x t)=true:=tZ x t
inductive V where
 | bI|bl (b:Bool)|int (i:Int)|str (x:Str)|byt (b:Array UInt8)|flt (b:UInt64)|ref (a:Addr)|ty (n:String)
 deriving DecidableEq
def RelV:V->Value->Prop
 | .bI,u=>u=SH
 | .bl b,u=>u=Ur b
 | .int i,u=>∃t,u=UL i t
 | .str x,u=>∃t,u=Uq x t
 | .byt b,u=>∃t,u=Value.bytes b t
 | .flt b,u=>∃t,u=Value.float b t
 | .ref a,u=>u=R6 a
 | .ty n,u=>u=Vk n
abbrev Vals:List V->List Value->Prop:=Paired RelV
def Vals.length {xs:List V}{us:List Value}(r:Vals xs us):xs.length=us.length:=Paired.length r
theorem Vals.get:∀{xs:List V} {us:List Value} {i:Nat} {x:V},Vals xs us->xs[i]?=some x->∃u,us[i]?=some u/\RelV x u
 | _,_,_,_,.nil,e=>by simp at e
 | _,_,0,_,.cons r _,e=>by simp at e;subst e;show⟨_,rfl,r⟩
 | _,_,i+1,x,.cons _ t,e=>by
   obtain⟨u,h1,h2⟩:=Vals.get (i:=i) (x:=x) t (by simpa using e)
   show⟨u,by simpa using h1,h2⟩
theorem Vals.set {x:V}{u:Value}(r:RelV x u):∀{xs:List V} {us:List Value} (i:Nat),Vals xs us->Vals (xs.set i x) (us.set i u)
 | _,_,_,.nil=>.nil
 | _,_,0,.cons _ t=>.cons r t
 | _,_,i+1,.cons q t=>.cons q (Vals.set r i t)
theorem Vals.append:∀{xs ys:List V} {us ws:List Value},Vals xs us->Vals ys ws->Vals (xs++ys) (us++ws)
 | _,_,_,_,.nil,s=>s
 | _,_,_,_,.cons r t,s=>.cons r (Vals.append t s)
theorem Vals.take:∀{xs:List V} {us:List Value} (n:Nat),Vals xs us->Vals (xs.take n) (us.take n)
 | _,_,0,_=>.nil
 | _,_,_+1,.nil=>.nil
 | _,_,n+1,.cons r t=>.cons r (Vals.take n t)
theorem Vals.drop:∀{xs:List V} {us:List Value} (n:Nat),Vals xs us->Vals (xs.drop n) (us.drop n)
 | _,_,0,r=>r
 | _,_,_+1,.nil=>.nil
 | _,_,n+1,.cons _ t=>Vals.drop n t
def eh:Option V->Option Value->Prop
 | some v,some u=>RelV v u
 | none,none=>True
 | _,_=>False
def KV {κ:Type}:List (κ×V)->List (κ×Value)->Prop:=Paired fun(p:κ×V) (q:κ×Value)=>p.1=q.1/\RelV p.2 q.2
def kV:Key->V
 | .inl i=>.int i
 | .inr x=>.str x
inductive HO where
 | lst (xs:List V)
 | tup (xs:List V)
 | dK (kvs:List (Key×V))|dT (kvs:List (List Key×V))
 | set (S:Int->Bool) (n:Nat)
 | ins (C dx:Addr) (fs:List (Str×V))
 | own (x:Addr)
 | xd (fs:List (Str×V))
 | met (f x:Addr)
 | rng (lo hi:Int)
 | frz (o:Obj) (u:HO)
 | tbl (ps:Array Value)
 | ext (φ:Heap->Prop)
abbrev Hp:=Addr->Option HO
def upd (H:Hp)(a:Addr)(o:HO):Hp:=fun b=>if b=a then some o else H b
def ae {H:Hp}{a:Addr}{o:HO}:upd H a o a=some o:=by unfold upd;rw[dI rfl]
def ah {H:Hp}{a b:Addr}{o:HO}(h:b≠a):upd H a o b=H b:=by unfold upd;rw[dh h]
def j4 {H:Hp}{a:Addr}{o u:HO}:upd (upd H a o) a u=upd H a u:=by
 funext b;unfold upd;split<;>rfl
def Bl {H:Hp}{a b:Addr}{o u:HO}(h:H a=some o)(h':H b=some u)(d:o≠u):a≠b:=by
 intro e;subst e;rw[h]at h';show d (Sa h')
def ag {H:Hp}{a b:Addr}{o:HO}(h:H a=some o)(h':H b=none):a≠b:=by
 intro e;subst e;rw[h]at h';cases h'
section
variable(P:Program)(w:World)
def bB (H:Hp)(h:Heap)(a:Addr):HO->Prop
 | .lst xs=>xs.length<=sizeLine/\∃(its:List Value) (n:Nat),Vals xs its/\h.get? a=some {cls:=.type "list",data:=.seq its.toArray n}
 | .tup xs=>xs.length<=sizeLine/\∃its:List Value,Vals xs its/\IsTup h a its.toArray
 | .dK kvs=>kvs.length<=sizeLine/\(a==Th)=false/\∃vs,KV kvs vs/\h.DictOf (bH P w) a vs
 | .dT kvs=>kvs.length<=sizeLine/\(a==Th)=false/\∃xs:List (List Key×Addr×Value),
     Paired (fun(p:List Key×V) (q:List Key×Addr×Value)=>p.1=q.1/\H q.2.1=some (.tup (p.1.map kV))/\RelV p.2 q.2.2) kvs xs /\
     ∃o es ep,h.get? a=some o/\o.ExactDict/\o.data=.dict es ep/\es.toList=xs.map (entryOfKey (tupleKind (bH P w)))/\(xs.map (·.1)).Nodup
 | .set S n=>h.SetOf (intKind P w) a S n
 | .ins C dx fs=>H dx=some (.own a)/\fs.length<=1000/\dx≠a/\h.get? a=some (S9 C dx) /\
     ∃mA,h.Ns1 dx mA/\(∀f,eh (fs.lookup f) (mA f))/\Wc mA (fs.map (·.1))
 | .own _=>∃o,h.get? a=some o
 | .xd fs=>∃mA,h.Ns1 a mA/\∀f,eh (fs.lookup f) (mA f)
 | .rng lo hi=>∃t u v,h.get? a=some {cls:=.type "range",data:=.fields #[.int lo t,.int hi u,.int 1 v]}
 | .frz o u=>h.get? a=some o/\bB H h a u
 | .tbl ps=>h.get? a=some {cls:=.none,data:=.fields ps}
 | .met f x=>h.get? a=some (Vc (.ref f) (.ref x))
 | .ext φ=>φ h/\(∃o,h.get? a=some o)/\∀h1 h2:Heap,φ h1->(∀o,h1.get? a=some o->h2.get? a=some o)->φ h2
def fW (H:Hp)(h:Heap):Prop:=∀a o,H a=some o->bB P w H h a o
end
section
variable{P:Program}{w:World}{H H':Hp}{h h':Heap}{a:Addr}{o:HO}
theorem bB.lt (x:bB P w H h a o):a<h.objs.size:=by
 cases o with
 | lst xs=>obtain⟨_,_,_,_,e⟩:=x;show RD e
 | tup xs=>obtain⟨_,_,_,p⟩:=x;show p.lt
 | dK kvs=>obtain⟨_,_,_,_,o,_,_,e,_⟩:=x;show RD e
 | dT kvs=>obtain⟨_,_,_,_,o,_,_,e,_⟩:=x;show RD e
 | set S n=>obtain⟨o,_,_,_,e,_⟩:=x;show RD e
 | ins C dx fs=>obtain⟨_,_,_,e,_⟩:=x;show RD e
 | own y=>obtain⟨_,e⟩:=x;show RD e
 | xd fs=>obtain⟨_,⟨_,_,_,e,_⟩,_⟩:=x;show RD e
 | rng lo hi=>obtain⟨_,_,_,e⟩:=x;show RD e
 | frz ob u=>obtain⟨e,_⟩:=x;show RD e
 | tbl ps=>show RD (show h.get? a=some _ from x)
 | met f y=>show RD (show h.get? a=some _ from x)
 | ext φ=>obtain⟨_,⟨_,e⟩,_⟩:=x;show RD e
theorem Paired.cZ {α β:Type}{F G:α->β->Prop}:∀{l₁:List α} {l₂:List β},Paired F l₁ l₂->(∀a b,F a b->G a b)->Paired G l₁ l₂
 | _,_,.nil,_=>.nil
 | _,_,.cons r t,f=>.cons (f _ _ r) (Paired.cZ t f)
def bB.cn (x:bB P w H h a o)(k:∀b u,(b=a\/H b=some (.own a))->h.get? b=some u->h'.get? b=some u)
   (ho:∀b,H b=some (.own a)->H' b=some (.own a)) (ht:∀b xs,H b=some (.tup xs)->H' b=some (.tup xs)):bB P w H' h' a o:=by
 induction o with
 | lst xs=>obtain⟨z,its,n,r,e⟩:=x;show⟨z,its,n,r,k _ _ (.inl rfl) e⟩
 | tup xs=>obtain⟨z,its,r,ob,e,c⟩:=x;show⟨z,its,r,ob,k _ _ (.inl rfl) e,c⟩
 | dK kvs=>obtain⟨z,y,vs,r,ob,es,ep,e,c⟩:=x;show⟨z,y,vs,r,ob,es,ep,k _ _ (.inl rfl) e,c⟩
 | dT kvs=>
   obtain⟨z,y,xs,r,ob,es,ep,e,c⟩:=x
   show⟨z,y,xs,Paired.cZ r fun p q z=>⟨z.1,ht _ _ z.2.1,z.2.2⟩,ob,es,ep,k _ _ (.inl rfl) e,c⟩
 | set S n=>obtain⟨ob,es,ep,t,e,c⟩:=x;show⟨ob,es,ep,t,k _ _ (.inl rfl) e,c⟩
 | ins C dx fs=>
   obtain⟨d,z,ne,e,mA,⟨od,es,ep,e2,c⟩,r⟩:=x
   show⟨ho _ d,z,ne,k _ _ (.inl rfl) e,mA,⟨od,es,ep,k _ _ (.inr d) e2,c⟩,r⟩
 | own y=>obtain⟨ob,e⟩:=x;show⟨ob,k _ _ (.inl rfl) e⟩
 | xd fs=>obtain⟨mA,⟨od,es,ep,e,c⟩,r⟩:=x;show⟨mA,⟨od,es,ep,k _ _ (.inl rfl) e,c⟩,r⟩
 | rng lo hi=>obtain⟨t,u,v,e⟩:=x;show⟨t,u,v,k _ _ (.inl rfl) e⟩
 | frz ob u ih=>obtain⟨e,q⟩:=x;show⟨k _ _ (.inl rfl) e,ih q⟩
 | tbl ps=>
   have e:h.get? a=some {cls:=.none,data:=.fields ps}:=x
   change h'.get? a=some {cls:=.none,data:=.fields ps}
   show k a _ (.inl rfl) e
 | met f y=>
   have e:h.get? a=some (Vc (.ref f) (.ref y)):=x
   change h'.get? a=some (Vc (.ref f) (.ref y))
   show k a _ (.inl rfl) e
 | ext φ=>obtain⟨p,⟨o,e⟩,st⟩:=x;show⟨st _ _ p fun o q=>k _ _ (.inl rfl) q,⟨o,k _ _ (.inl rfl) e⟩,st⟩
def fW.lt (x:fW P w H h)(e:H a=some o):a<h.objs.size:=(x a o e).lt
def fW.fresh (x:fW P w H h)(e:h.objs.size<=a):H a=none:=by
 cases q:H a with
 | none=>rfl
 | some u=>show au (RJ (x.lt q) e) (SR _)
def fW.kept (x:fW P w H h)(k:∀b u,h.get? b=some u->h'.get? b=some u):fW P w H h':=fun a o e=>
 (x a o e).cn (fun b u z q=>k b u q) (fun z q=>q) fun z z q=>q
def fW.laid (x:fW P w H h)(k:∀b u,h.get? b=some u->h'.get? b=some u)(hp:h.objs.size<=a)(new:bB P w (upd H a o) h' a o):fW P w (upd H a o) h':=fun b u e=>by
 have hn:=x.fresh hp
 by_cases hb:b=a
 . subst hb;rw[ae]at e;cases e;show new
 . rw[ah hb]at e
   show(x b u e).cn (fun c v z q=>k c v q) (fun c q=>by rw[ah (ag q hn)];show q) fun c xs q=>by rw[ah (ag q hn)];show q
end
def Rd (H:Hp)(a:Addr)(u:HO):Prop:=H a=some u\/∃o,H a=some (.frz o u)
def Rd.ok {P:Program}{w:World}{H:Hp}{h:Heap}{a:Addr}{u:HO}(r:Rd H a u)(x:fW P w H h):bB P w H h a u:=by
 rcases r with r|⟨o,r⟩
 . show x a u r
 . obtain⟨_,q⟩:=x a _ r
   show q
def Fz:Option HO->Prop
 | some (.lst _)=>True
 | some (.dK _)=>True
 | some (.dT _)=>True
 | some (.set _ _)=>True
 | some (.ins _ _ _)=>True
 | some (.ext _)=>True
 | _=>False
section
variable{P:Program}{w:World}{H:Hp}{h h':Heap}{x e:Addr}{o':HO}
def fW.write (ok:fW P w H h)(mu:Fz (H x))(he:e=x\/H e=some (.own x))(k:∀b u,b≠e->h.get? b=some u->h'.get? b=some u)(heo:∃u,h'.get? e=some u)
   (new:bB P w (upd H x o') h' x o'):fW P w (upd H x o') h':=fun b u q=>by
 have nown:∀c y,H c=some (.own y)->c≠x:=fun c y r z=>by subst z;rw[r]at mu;show mu
 have ntup:∀c xs,H c=some (.tup xs)->c≠x:=fun c xs r z=>by subst z;rw[r]at mu;show mu
 by_cases hb:b=x
 . subst hb;rw[ae]at q;cases q;show new
 . rw[ah hb]at q
   by_cases CA:b=e
   . have q':H b=some (.own x):=by
       rcases he with z|z
       . show au (CA.trans z) hb
       . rw[CA];show z
     rw[q]at q';cases q'
     obtain⟨v,hv⟩:=heo
     show⟨v,by rw[CA];show hv⟩
   . show(ok b u q).cn (fun c v hc r=>k c v ?_ r) (fun c r=>by rw[ah (nown c b r)];show r) fun c xs r=>by rw[ah (ntup c xs r)];show r
     rcases hc with rfl|hc
     . show CA
     . rintro rfl
       rcases he with z|z
       . show nown c b hc z
       . rw[hc]at z;cases z;show hb rfl
end
structure Un (fs ex:List Addr)(H H':Hp)(h h':Heap):Prop where
 keep:∀b o,h.get? b=some o->H b=none->b∉fs->b∉ex->h'.get? b=some o
 slot:∀b o,h.get? b=some o->H b=none->b∈fs->b∉ex->∃sl,h'.get? b=some {o with slots:=sl}
 free:∀b o,h.get? b=some o->H b=none->b∉ex->H' b=none
 there:∀b o,h.get? b=some o->b∉ex->∃o',h'.get? b=some o'
 tups:∀b xs,H b=some (.tup xs)->H' b=some (.tup xs)
 frzs:∀b o u,H b=some (.frz o u)->H' b=some (.frz o u)
 tbls:∀b ps,H b=some (.tbl ps)->∃more,H' b=some (.tbl (ps++more))
section
variable{fs y7 ex QT:List Addr}{H H1 H2:Hp}{h h1 h2 h':Heap}{a x e:Addr}{o:HO}
def Un.any (u:Un fs ex H H1 h h1){b:Addr}{ob:Obj}(q:h.get? b=some ob)(n:H b=none)(hx:b∉ex):∃sl,h1.get? b=some {ob with slots:=sl}:=by
 by_cases hb:b∈fs
 . show u.slot b ob q n hb hx
 . show⟨ob.slots,u.keep b ob q n hb hx⟩
def Un.kept (k:∀b u,h.get? b=some u->h'.get? b=some u):Un fs ex H H h h':=
 ⟨fun b ob q z z z=>k b ob q,fun b ob q z z z=>⟨ob.slots,k b ob q⟩,fun z z z n z=>n,fun b ob q z=>⟨ob,k b ob q⟩,fun z z q=>q,fun z z z q=>q,fun z ps q=>⟨#[],by rw[q];simp⟩⟩
def Un.refl:Un fs ex H H h h:=Un.kept fun z z q=>q
def Un.laid (k:∀b u,h.get? b=some u->h'.get? b=some u)(hp:h.objs.size<=a)(hn:H a=none):Un fs ex H (upd H a o) h h' where
 keep:=fun b u q z z z=>k b u q
 slot:=fun b u q z z z=>⟨u.slots,k b u q⟩
 free:=fun b u q n z=>by rw[ah (R1 (RJ (RD q) hp))];show n
 there:=fun b u q z=>⟨u,k b u q⟩
 tups:=fun b xs q=>by rw[ah (ag q hn)];show q
 frzs:=fun b u xs q=>by rw[ah (ag q hn)];show q
 tbls:=fun b ps q=>⟨#[],by rw[ah (ag q hn),q];simp⟩
def Un.write (mu:Fz (H x))(he:e=x\/H e=some (.own x))(k:∀b u,b≠e->h.get? b=some u->h'.get? b=some u)(heo:∃u,h'.get? e=some u):Un fs ex H (upd H x o) h h':=by
 have hx:∀b,H b=none->b≠x:=fun b n z=>by subst z;rw[n]at mu;show mu
 have hb:∀b,H b=none->b≠e:=fun b n z=>by
   subst z
   rcases he with r|r
   . show hx b n r
   . rw[n]at r;cases r
 have hm:∀b u,H b=some u->¬ Fz (some u)->b≠x:=fun b u q nm z=>by subst z;rw[q]at mu;show nm mu
 show⟨fun b u q n y y=>k b u (hb b n) q,fun b u q n y y=>⟨u.slots,k b u (hb b n) q⟩,fun b u q n y=>by rw[ah (hx b n)];show n,fun b u q y=>?_,
   fun b xs q=>by rw[ah (hm b _ q fun z=>z)];show q,fun b u xs q=>by rw[ah (hm b _ q fun z=>z)];show q,fun b ps q=>⟨#[],by rw[ah (hm b _ q fun z=>z),q];simp⟩⟩
 by_cases CA:b=e
 . subst CA;show heo
 . show⟨u,k b u CA q⟩
end
def oh (h:Heap)(H:Hp):List Addr:=(TH h.objs.size).filter fun a=>(H a).isSome
def nh (h:Heap)(H:Hp):Heap:=Sy h (oh h H)
def tT (h:Heap)(H:Hp):(nh h H).objs.size=h.objs.size:=PySem.W.hideAll_size _ _
def vO {h:Heap}{H:Hp}{b:Addr}{o:Obj}(e:h.get? b=some o)(n:H b=none):(nh h H).get? b=some o:=
 UZ _ e fun hm=>by
   have q:(H b).isSome=true:=(List.mem_filter.mp hm).2
   rw[n]at q;simp at q
def zI {h:Heap}{H:Hp}{b:Addr}{o:Obj}(e:(nh h H).get? b=some o):h.get? b=some o/\H b=none:=by
 have e':h.get? b=some o:=U3 (oh h H) e
 show⟨e',?_⟩
 cases q:H b with
 | none=>rfl
 | some x=>
   have hm:b∈oh h H:=List.mem_filter.mpr ⟨List.mem_range.mpr (RD e'),by simp[q]⟩
   have z:(nh h H).get? b=none:=V4 (oh h H) hm
   rw[z]at e;cases e
structure Mod (K:Ro)(mg:Str->Option Value)(base:Heap):Prop where
 kin:K.In base
 glob:base.Ns SD mg
 blt:∃mb,base.Ns builtinsNs mb/\∀x:Str,x≠"__name__"->mb x=SJ x
 nolimit:base.NoLimit
structure Cx where
 prog:Program
 w:World
 K:Ro
 mg:Str->Option Value
 base:Heap
 A:Around
 N:List Str
 s₀:Shared
 H₀:Hp
 env:Env
 outer:List Env
 stack:List Env
 ex:List Addr
 fn:Str->Bool
 calm:Bool
 pn:List (Addr×Obj)
 xe:Value->Shared->Prop
def dH (l:List Env):List Addr:=l.filterMap (·.frame)
abbrev Cx.fs (X:Cx):List Addr:=dH X.outer
def IY (sc:Scope)(x:Str):Prop:=sc.names.lookup x=some .local\/sc.names.lookup x=some .cell\/sc.names.lookup x=some .free
def Loc (sc:Scope)(x:Str):Prop:=sc.names.lookup x=some .local\/sc.names.lookup x=some .cell
def Look (env:Env)(h:Heap)(m:Str->Option Value)(x:Str)(u:Value):Prop:=
 (env.kindOf x=some .local/\m x=some u)\/((env.kindOf x=some .cell\/env.kindOf x=some .free)/\∃c,env.cells.lookup x=some c/\h.IsCell c (some u))
structure Cx.Ok (X:Cx):Prop where
 mod:Mod X.K X.mg X.base
 kind:X.env.scope.kind=.function
 glob:X.env.globals=SD
 blt:X.env.builtins=builtinsNs
 above:X.s₀.heap.objs.size<=X.env.locals
 inj:∀x y c,X.env.cells.lookup x=some c->X.env.cells.lookup y=some c->x=y
 has:∀x,(X.env.kindOf x=some .cell\/X.env.kindOf x=some .free)->∃c,X.env.cells.lookup x=some c
 cab:∀x c,X.fn x=true->X.env.cells.lookup x=some c->X.s₀.heap.objs.size<=c
 hd:X.calm=true->X.A.handled=none
 frames:X.A.frames=some X.stack
 stk:X.stack=X.outer\/(X.stack=X.env::X.outer/\X.env.frame=some X.env.locals)
 exf:∀b∈X.ex,b≠X.env.locals/\∀x c,X.env.cells.lookup x=some c->c≠b
 bs:∀b o,X.base.get? b=some o->X.s₀.heap.get? b=some o/\X.H₀ b=none
 bsz:X.base.objs.size<=X.s₀.heap.objs.size
 noex:∀b o,X.base.get? b=some o->b∉X.ex
 exfs:∀b∈X.ex,b∉X.fs
 ib:X.s₀.heap.FunFrames X.base X.outer
 frf:∀b∈X.fs,X.H₀ b=none
structure Inv (X:Cx)(pins:List (Addr×Obj))(σ:List (Option V))(H:Hp)(s:Shared):Prop where
 ok:X.Ok
 os:s.os=X.s₀.os
 bare:AllBare s.gens
 base:Un X.fs X.ex X.H₀ H X.s₀.heap s.heap
 loc:∃m,s.heap.Ns X.env.locals m/\∀(i:Nat) (x:Str) (v:V),X.N[i]?=some x->σ[i]?=some (some v)->IY X.env.scope x->∃u,RelV v u/\Look X.env s.heap m x u
 cell:∀x c,X.env.cells.lookup x=some c->∃v,s.heap.IsCell c v
 free:H X.env.locals=none
 freeC:∀x c,X.env.cells.lookup x=some c->H c=none
 pin:∀p∈X.pn++pins,s.heap.get? p.1=some p.2/\H p.1=none/\p.1≠X.env.locals/\p.1∉X.fs/\∀v,p.2.data≠.cell v
 hok:fW X.prog X.w H s.heap
 len:σ.length=X.N.length
section
variable{X:Cx}{pins:List (Addr×Obj)}{σ:List (Option V)}{H H':Hp}{s:Shared}{h':Heap}
def Cx.Ok.K6 (ok:X.Ok){b:Addr}{o:Obj}(e:X.base.get? b=some o):b∉X.fs:=fun hb=>by
 have:=(ok.ib.mem hb).1
 rw[e]at this;cases this
def Inv.bs (I:Inv X pins σ H s):∀b o,X.base.get? b=some o->s.heap.get? b=some o/\H b=none:=fun b o e=>
 ⟨I.base.keep b o (I.ok.bs b o e).1 (I.ok.bs b o e).2 (I.ok.K6 e) (I.ok.noex b o e),I.base.free b o (I.ok.bs b o e).1 (I.ok.bs b o e).2 (I.ok.noex b o e)⟩
def Inv.bk (I:Inv X pins σ H s):∀b o,X.base.get? b=some o->s.heap.get? b=some o:=fun b o e=>(I.bs b o e).1
def Inv.mod (I:Inv X pins σ H s):Mod X.K X.mg X.base:=I.ok.mod
def Inv.lM (I:Inv X pins σ H s):X.K.In s.heap:=I.ok.mod.kin.keeps I.bk
def Inv.lt (I:Inv X pins σ H s):X.env.locals<s.heap.objs.size:=by obtain⟨_,hn,_⟩:=I.loc;show hn.lt
def Inv.sz (I:Inv X pins σ H s):X.s₀.heap.objs.size<=s.heap.objs.size:=Ry I.ok.above (S3 I.lt)
def Inv.K7 (I:Inv X pins σ H s){a:Addr}(h:s.heap.objs.size<=a):a∉X.fs:=fun hb=>by
 obtain⟨_,o,ho,_⟩:=I.ok.ib.mem hb
 show au (RJ (RD ho) (Ry I.sz h)) (SR _)
def Inv.yS (I:Inv X pins σ H s):∀x c,X.env.cells.lookup x=some c->c≠X.env.locals:=fun x c e z=>by
 obtain⟨v,o,ho,hd⟩:=I.cell x c e
 obtain⟨m,⟨o',es,ep,iM,Ge,_⟩,_⟩:=I.loc
 rw[z,iM]at ho;cases ho;rw[Ge]at hd;cases hd
theorem Inv.ib (I:Inv X pins σ H s):s.heap.FunFrames X.base X.outer:=by
 have all:∀(l:List Env),(∀b∈dH l,b∈X.fs)->X.s₀.heap.FunFrames X.base l->s.heap.FunFrames X.base l:=by
   intro l
   induction l with
   | nil=>intro _ _;trivial
   | cons env r ih=>
     intro hs hl
     obtain⟨hk,⟨L8,o,hf,hn,ho,hd⟩,hr⟩:=hl
     have hL:L8∈X.fs:=hs L8 (by unfold dH;rw[TX,hf];show Ru)
     obtain⟨sl,e⟩:=I.base.slot L8 o ho (I.ok.frf L8 hL) hL fun z=>I.ok.exfs L8 z hL
     show⟨hk,⟨L8,_,hf,hn,e,hd⟩,ih (fun b hb=>hs b (by unfold dH;rw[TX,hf];show RC _ hb)) hr⟩
 show all X.outer (fun y hb=>hb) I.ok.ib
def Inv.stack (I:Inv X pins σ H s):s.heap.FunFrames X.base X.stack:=by
 rcases I.ok.stk with e|⟨e,hf⟩
 . rw[e];show I.ib
 . rw[e]
   obtain⟨m,hn,_⟩:=I.loc
   show .cons (by rw[I.ok.kind];decide) hf hn ?_ I.ib
   show Heap.get?_none_of_le (Ry I.ok.bsz I.ok.above)
def Inv.lu (I:Inv X pins σ H s):∀b∈dH X.stack,b∈X.env.locals::X.fs:=fun b hb=>by
 rcases I.ok.stk with e|⟨e,hf⟩
 . rw[e]at hb;show RC _ hb
 . rw[e]at hb
   unfold dH at hb
   rw[TX,hf]at hb
   show hb
def Inv.n6 (I:Inv X pins σ H s):∀b∈dH X.stack,H b=none:=fun b hb=>by
 rcases List.mem_cons.mp (I.lu b hb)with e|hb
 . rw[e];show I.free
 . obtain⟨_,o,ho,_⟩:=I.ok.ib.mem hb
   show I.base.free b o ho (I.ok.frf b hb) fun z=>I.ok.exfs b z hb
def Inv.step {g':Array GenState}{t':Nat}{d':Drawn}{ch:List Addr}(I:Inv X pins σ H s)
   (hch:∀b∈ch,(b∈X.ex\/X.s₀.heap.objs.size<=b)/\b≠X.env.locals/\(∀x c,X.env.cells.lookup x=some c->c≠b)/\∀p∈X.pn++pins,p.1≠b)
   (keep:∀b o,b≠X.env.locals->b∉X.fs->b∉ch->s.heap.get? b=some o->H b=none->h'.get? b=some o)
   (slot:∀b o,b≠X.env.locals->b∈X.fs->b∉ch->s.heap.get? b=some o->H b=none->∃sl,h'.get? b=some {o with slots:=sl}) (free:∀b o,b∉ch->s.heap.get? b=some o->H b=none->H' b=none)
   (there:∀b o,b∉ch->s.heap.get? b=some o->∃o',h'.get? b=some o')
   (tups:∀b xs,H b=some (.tup xs)->H' b=some (.tup xs)) (frzs:∀b o u,H b=some (.frz o u)->H' b=some (.frz o u)) (tbls:∀b ps,H b=some (.tbl ps)->∃more,H' b=some (.tbl (ps++more)))
   (ns:∀m,s.heap.Ns X.env.locals m->h'.Ns X.env.locals m) (hok:fW X.prog X.w H' h') (hg:AllBare g') :
   Inv X pins σ H' {s with heap:=h',gens:=g',drawn:=d',toks:=t'}:=by
 have neL:∀b o,X.s₀.heap.get? b=some o->b≠X.env.locals:=fun b o e=>R1 (RJ (RD e) I.ok.above)
 have neC:∀b o,X.s₀.heap.get? b=some o->b∉X.ex->b∉ch:=fun b o e hx hb=>by
   rcases(hch b hb).1 with z|z
   . show hx z
   . show au (RJ (RD e) z) (SR _)
 have cellK:∀x c,X.env.cells.lookup x=some c->∀v,s.heap.IsCell c v->h'.IsCell c v:=fun x c e v ⟨o,ho,hd⟩=>by
   have wt:c∉ch:=fun z=>(hch c z).2.2.1 x c e rfl
   by_cases hc:c∈X.fs
   . obtain⟨sl,q⟩:=slot c o (I.yS x c e) hc wt ho (I.freeC x c e)
     show⟨_,q,hd⟩
   . show⟨o,keep c o (I.yS x c e) hc wt ho (I.freeC x c e),hd⟩
 show⟨I.ok,I.os,hg,⟨fun b o e n hb hx=>?_,fun b o e n hb hx=>?_,fun b o e n hx=>?_,fun b o e hx=>?_,fun b xs e=>tups b xs (I.base.tups b xs e),fun b o xs e=>frzs b o xs (I.base.frzs b o xs e),fun b ps e=>?_⟩,?_,fun x c e=>?_,?_,fun x c e=>?_,fun p hp=>?_,hok,I.len⟩
 . show keep b o (neL b o e) hb (neC b o e hx) (I.base.keep b o e n hb hx) (I.base.free b o e n hx)
 . obtain⟨sl,e1⟩:=I.base.slot b o e n hb hx
   obtain⟨Lj,e2⟩:=slot b _ (neL b o e) hb (neC b o e hx) e1 (I.base.free b o e n hx)
   show⟨Lj,e2⟩
 . obtain⟨o',e1⟩:=I.base.there b o e hx
   show free b o' (neC b o e hx) e1 (I.base.free b o e n hx)
 . obtain⟨o',e1⟩:=I.base.there b o e hx
   show there b o' (neC b o e hx) e1
 . obtain⟨m1,e1⟩:=I.base.tbls b ps e
   obtain⟨m2,e2⟩:=tbls b _ e1
   show⟨m1++m2,by rw[e2,Vg]⟩
 . obtain⟨m,hn,hl⟩:=I.loc
   show⟨m,ns m hn,fun i x v e1 e2 e3=>?_⟩
   obtain⟨u,r,l⟩:=hl i x v e1 e2 e3
   show⟨u,r,?_⟩
   rcases l with l|⟨k,c,e,z⟩
   . show .inl l
   . show .inr ⟨k,c,e,cellK x c e _ z⟩
 . obtain⟨v,z⟩:=I.cell x c e
   show⟨v,cellK x c e v z⟩
 . obtain⟨m,⟨o,_,_,ho,_⟩,_⟩:=I.loc
   show free _ o (fun z=>(hch _ z).2.1 rfl) ho I.free
 . obtain⟨v,o,ho,hd⟩:=I.cell x c e
   show free c o (fun z=>(hch c z).2.2.1 x c e rfl) ho (I.freeC x c e)
 . obtain⟨e,n,ne,nf,d⟩:=I.pin p hp
   have wt:p.1∉ch:=fun z=>(hch p.1 z).2.2.2 p hp rfl
   show⟨keep p.1 p.2 ne nf wt e n,free p.1 p.2 wt e n,ne,nf,d⟩
def Inv.un {t':Nat}(I:Inv X pins σ H s)(u:Un X.fs [] H H' s.heap h')(hok:fW X.prog X.w H' h'):Inv X pins σ H' {s with heap:=h',toks:=t'}:=by
 obtain⟨m,⟨o,es,ep,ho,r⟩,_⟩:=id I.loc
 obtain⟨sl,hL⟩:=u.any ho I.free (by simp)
 show I.step (g':=s.gens) (d':=s.drawn) (ch:=[]) (fun y z=>nomatch z) (fun b o y hb y e n=>u.keep b o e n hb (by simp)) (fun b o y hb y e n=>u.slot b o e n hb (by simp)) (fun b o y e n=>u.free b o e n (by simp)) (fun b o y e=>u.there b o e (by simp)) u.tups u.frzs u.tbls (fun m' hm=>by
   obtain⟨o',JX,JW,iM,r'⟩:=hm
   rw[ho]at iM;cases iM
   show⟨_,JX,JW,hL,r'⟩) hok I.bare
def Inv.call {g':Array GenState}{t':Nat}{d':Drawn}{ch:List Addr}(I:Inv X pins σ H s)(u:Un (dH X.stack) ch H H' s.heap h')(hok:fW X.prog X.w H' h')(hg:AllBare g')
   (hch:∀b∈ch,(b∈X.ex\/X.s₀.heap.objs.size<=b)/\b≠X.env.locals/\(∀x c,X.env.cells.lookup x=some c->c≠b)/\∀p∈X.pn++pins,p.1≠b) :
   Inv X pins σ H' {s with heap:=h',gens:=g',drawn:=d',toks:=t'}:=by
 obtain⟨m,⟨o,es,ep,ho,r⟩,_⟩:=id I.loc
 obtain⟨sl,hL⟩:=u.any ho I.free fun z=>(hch _ z).2.1 rfl
 show I.step (ch:=ch) hch (fun b o hL hb hc e n=>u.keep b o e n (fun z=>(List.mem_cons.mp (I.lu b z)).elim hL hb) hc) (fun b o y y hc e n=>u.any e n hc) (fun b o hc e n=>u.free b o e n hc) (fun b o hc e=>u.there b o e hc) u.tups u.frzs u.tbls (fun m' hm=>by
   obtain⟨o',JX,JW,iM,r'⟩:=hm
   rw[ho]at iM;cases iM
   show⟨_,JX,JW,hL,r'⟩) hok hg
def Inv.turned {t':Nat}{it:Addr}(I:Inv X pins σ H s)(k:∀b o,b≠it->s.heap.get? b=some o->h'.get? b=some o)(hn:H it=none)(hL:it≠X.env.locals)
   (h1:it∈X.ex\/X.s₀.heap.objs.size<=it) (h2:∀x c,X.env.cells.lookup x=some c->c≠it) (h3:∀p∈X.pn++pins,p.1≠it):Inv X pins σ H {s with heap:=h',toks:=t'}:=by
 have MP:∀b u,H b=some u->b≠it:=fun b u e z=>by rw[z,hn]at e;cases e
 show I.step (g':=s.gens) (d':=s.drawn) (ch:=[it]) (fun b hb=>?_) (fun b o y y hc e y=>k b o (fun z=>hc (by simp[z])) e) (fun b o y y hc e y=>⟨o.slots,k b o (fun z=>hc (by simp[z])) e⟩) (fun y y y y n=>n)
   (fun b o hc e=>⟨o,k b o (fun z=>hc (by simp[z])) e⟩) (fun y y e=>e) (fun y y y e=>e) (fun b ps e=>⟨#[],by rw[e];simp⟩) (fun m hm=>?_) (fun b u e=>?_) I.bare
 . have e:b=it:=by simpa using hb
   subst e
   show⟨h1,hL,h2,h3⟩
 . obtain⟨o,es,ep,ho,r⟩:=hm
   show⟨o,es,ep,k _ o (Ne.symm hL) ho,r⟩
 . show(I.hok b u e).cn (fun c v hc q=>k c v ?_ q) (fun y q=>q) fun y y q=>q
   rcases hc with z|z
   . rw[z];show MP b u e
   . show MP c _ z
def Inv.tok (I:Inv X pins σ H s)(t:Nat):Inv X pins σ H {s with toks:=t}:=I.un (h':=s.heap) (t':=t) Un.refl I.hok
def Inv.kept {t':Nat}(I:Inv X pins σ H s)(k:∀b u,s.heap.get? b=some u->h'.get? b=some u):Inv X pins σ H {s with heap:=h',toks:=t'}:=I.un (Un.kept k) (I.hok.kept k)
def Inv.laid {a:Addr}{o:HO}{t':Nat}(I:Inv X pins σ H s)(k:∀b u,s.heap.get? b=some u->h'.get? b=some u)(hp:s.heap.objs.size<=a)(new:bB X.prog X.w (upd H a o) h' a o) :
   Inv X pins σ (upd H a o) {s with heap:=h',toks:=t'}:=I.un (Un.laid k hp (I.hok.fresh hp)) (I.hok.laid k hp new)
def Inv.write {x e:Addr}{o:HO}{t':Nat}(I:Inv X pins σ H s)(mu:Fz (H x))(he:e=x\/H e=some (.own x))(k:∀b u,b≠e->s.heap.get? b=some u->h'.get? b=some u)(heo:∃u,h'.get? e=some u)
   (new:bB X.prog X.w (upd H x o) h' x o):Inv X pins σ (upd H x o) {s with heap:=h',toks:=t'}:=I.un (Un.write mu he k heo) (I.hok.write mu he k heo new)
def Inv.weak {σ':List (Option V)}(I:Inv X pins σ H s)(hl:σ'.length=σ.length)(w:∀(i:Nat) v,σ'[i]?=some (some v)->σ[i]?=some (some v)):Inv X pins σ' H s:=
 ⟨I.ok,I.os,I.bare,I.base,let⟨m,hn,O6⟩:=I.loc;⟨m,hn,fun i x v e1 e2 e3=>O6 i x v e1 (w i v e2) e3⟩,I.cell,I.free,I.freeC,I.pin,I.hok,hl.trans I.len⟩
def Inv.nM {iW:List (Addr×Obj)}(I:Inv X pins σ H s)(h:∀p∈iW,s.heap.get? p.1=some p.2/\H p.1=none/\p.1≠X.env.locals/\p.1∉X.fs/\∀v,p.2.data≠.cell v):Inv X iW σ H s:=
 ⟨I.ok,I.os,I.bare,I.base,I.loc,I.cell,I.free,I.freeC,fun p hp=>(List.mem_append.mp hp).elim (fun z=>I.pin p (S0 _ z)) (h p),I.hok,I.len⟩
def oW {N:List Str}(hN:N.Nodup){i j:Nat}{x:Str}(a:N[i]?=some x)(b:N[j]?=some x):i=j:=by
 obtain⟨h1,e1⟩:=List.getElem?_eq_some_iff.mp a
 obtain⟨h2,e2⟩:=List.getElem?_eq_some_iff.mp b
 show(List.getElem_inj hN).mp (e1.trans e2.symm)
def jv {M8:Model}{A:Around}{E:Value->Shared->Prop}{i:Nat}{x:Str}{v:V}{u:Value}{Q:Unit->Shared->Prop}(I:Inv X pins σ H s)(hN:X.N.Nodup)(hi:X.N[i]?=some x)(hx:Loc X.env.scope x)(r:RelV v u)
   (h:∀s',Inv X pins (σ.set i (some v)) H s'->(∃a,Sz a s.heap s'.heap/\(a=X.env.locals\/X.env.cells.lookup x=some a))->Q () s') (hf:X.fn x=true\/X.env.scope.names.lookup x=some .local:=by first|show .inl rfl|show .inr rfl|assumption):wpAny M8 A (storeName X.env x u) Q E s:=by
 obtain⟨m,hn,hl⟩:=id I.loc
 have hcls:(X.env.scope.kind==.class || (X.env.scope.kind==.module&&X.env.locals != X.env.globals))=false:=by rw[I.ok.kind];rfl
 have hiσ:i<σ.length:=by rw[I.len];show(List.getElem?_eq_some_iff.mp hi).1
 have yS:=I.yS
 have tracked:∀{a:Addr} {h':Heap},(∃o,s.heap.get? a=some o/\H a=none)->Sz a s.heap h'->fW X.prog X.w H h':=fun{a h'} ha hs b ob e=>by
   obtain⟨_,_,oK⟩:=ha
   show(I.hok b ob e).cn (fun c w' hc q=>(hs.2 c ?_).trans q) (fun t q=>q) fun t t q=>q
   rintro rfl
   rcases hc with rfl|hc
   . rw[oK]at e;cases e
   . rw[oK]at hc;cases hc
 rcases hx with hk|hk
 . show wpAny_storeName_local hk hn (fun h' hn' hs=>?_) hcls
   obtain⟨oL,_,_,Pd,_⟩:=id hn
   show h _ ⟨I.ok,I.os,I.bare,⟨fun b o e n hb hx=>?_,fun b o e n hb hx=>?_,I.base.free,fun b o e hx=>?_,I.base.tups,I.base.frzs,I.base.tbls⟩,⟨_,hn',fun j y v' e1 e2 e3=>?_⟩,fun y c e=>?_,I.free,I.freeC,fun p hp=>?_,tracked ⟨oL,Pd,I.free⟩ hs,by simpa using I.len⟩ ⟨_,hs,.inl rfl⟩
   . show(hs.2 b (R1 (RJ (RD e) I.ok.above))).trans (I.base.keep b o e n hb hx)
   . obtain⟨sl,e1⟩:=I.base.slot b o e n hb hx
     show⟨sl,(hs.2 b (R1 (RJ (RD e) I.ok.above))).trans e1⟩
   . obtain⟨o',e1⟩:=I.base.there b o e hx
     show⟨o',(hs.2 b (R1 (RJ (RD e) I.ok.above))).trans e1⟩
   . by_cases hj:j=i
     . subst hj
       rw[hi]at e1;cases e1
       rw[S5 hiσ]at e2
       cases e2
       show⟨u,r,.inl ⟨hk,by simp⟩⟩
     . rw[Ug (Ne.symm hj)]at e2
       obtain⟨u',r',q⟩:=hl j y v' e1 e2 e3
       show⟨u',r',?_⟩
       rcases q with⟨k,e⟩|⟨k,c,e,z⟩
       . show .inl ⟨k,?_⟩
         have:y≠x:=fun e=>hj (oW hN e1 (e▸hi))
         simp[this,e]
       . show .inr ⟨k,c,e,z.sameBut hs (yS y c e)⟩
   . obtain⟨w',z⟩:=I.cell y c e
     show⟨w',z.sameBut hs (yS y c e)⟩
   . obtain⟨e,n,ne,nf,d⟩:=I.pin p hp
     show⟨(hs.2 p.1 ne).trans e,n,ne,nf,d⟩
 . have Gk:X.fn x=true:=by
     rcases hf with z|z
     . show z
     . rw[z]at hk;cases hk
   obtain⟨c,hc⟩:=I.ok.has x (.inl hk)
   obtain⟨w',z⟩:=I.cell x c hc
   show wpAny_storeName_cell I.ok.kind hk hc z (fun h' pA hs=>?_)
   obtain⟨oc,Ba,KL⟩:=id z
   show h {s with heap:=h'} ⟨I.ok,I.os,I.bare,⟨fun b o e n hb hx=>?_,fun b o e n hb hx=>?_,I.base.free,fun b o e hx=>?_,I.base.tups,I.base.frzs,I.base.tbls⟩,⟨m,hn.sameBut hs (Ne.symm (yS x c hc)),fun j y v' e1 e2 e3=>?_⟩,fun y c' e=>?_,I.free,I.freeC,fun p hp=>?_,tracked ⟨oc,Ba,I.freeC x c hc⟩ hs,by simpa using I.len⟩ ⟨c,hs,.inr hc⟩
   . show(hs.2 b (R1 (RJ (RD e) (I.ok.cab x c Gk hc)))).trans (I.base.keep b o e n hb hx)
   . obtain⟨sl,e1⟩:=I.base.slot b o e n hb hx
     show⟨sl,(hs.2 b (R1 (RJ (RD e) (I.ok.cab x c Gk hc)))).trans e1⟩
   . obtain⟨o',e1⟩:=I.base.there b o e hx
     show⟨o',(hs.2 b (R1 (RJ (RD e) (I.ok.cab x c Gk hc)))).trans e1⟩
   . by_cases hj:j=i
     . subst hj
       rw[hi]at e1;cases e1
       rw[S5 hiσ]at e2
       cases e2
       show⟨u,r,.inr ⟨.inl hk,c,hc,pA⟩⟩
     . rw[Ug (Ne.symm hj)]at e2
       obtain⟨u',r',q⟩:=hl j y v' e1 e2 e3
       show⟨u',r',?_⟩
       rcases q with q|⟨k,c',e,z'⟩
       . show .inl q
       . show .inr ⟨k,c',e,z'.sameBut hs ?_⟩
         rintro rfl
         show hj (oW hN e1 (I.ok.inj _ _ _ e hc▸hi))
   . by_cases Mv:c'=c
     . subst Mv;show⟨_,pA⟩
     . obtain⟨w2,z2⟩:=I.cell y c' e
       show⟨w2,z2.sameBut hs Mv⟩
   . obtain⟨e,n,ne,nf,d⟩:=I.pin p hp
     show⟨(hs.2 p.1 ?_).trans e,n,ne,nf,d⟩
     intro q
     rw[q,Ba]at e
     have q':oc=p.2:=Sa e
     show d w' (by rw[← q'];show KL)
def ja {M8:Model}{A:Around}{E:Value->Shared->Prop}{i:Nat}{x:Str}{v:V}{u:Value}{Q:Unit->Shared->Prop}(I:Inv X pins σ H s)(hN:X.N.Nodup)(hi:X.N[i]?=some x)(hx:Loc X.env.scope x)(r:RelV v u)
   (h:∀s',Inv X pins (σ.set i (some v)) H s'->Q () s') (hf:X.fn x=true\/X.env.scope.names.lookup x=some .local:=by first|show .inl rfl|show .inr rfl|assumption):wpAny M8 A (storeName X.env x u) Q E s:=
 jv I hN hi hx r (fun s' I' z=>h s' I') hf
def Inv.A0 {s':Shared}{ch:List Addr}(I:Inv X pins σ H s)(ho:s'.os=s.os)(u:Un (dH X.stack) ch H H' s.heap s'.heap)(hok:fW X.prog X.w H' s'.heap)(hg:AllBare s'.gens)
   (hch:∀b∈ch,(b∈X.ex\/X.s₀.heap.objs.size<=b)/\b≠X.env.locals/\(∀x c,X.env.cells.lookup x=some c->c≠b)/\∀p∈X.pn++pins,p.1≠b):Inv X pins σ H' s':=by
 obtain⟨h',g',d',t',o'⟩:=s'
 have e:o'=s.os:=ho
 subst e
 show I.call (g':=g') (t':=t') (d':=d') u hok hg hch
end
abbrev XK:=Value->Option Addr->Hp->Prop
abbrev St:=List (Option V)
abbrev VK:=V->Hp->Prop
abbrev TE:=St->Hp->VK->Prop
abbrev TT:=St->Hp->(Bool->Hp->Prop)->Prop
abbrev TA:=St->Hp->(List V->Hp->Prop)->Prop
structure Ends where
 nx:St->Hp->Prop
 rt:VK
 bk:St->Hp->Prop:=fun _ _=>False
 ct:St->Hp->Prop:=fun _ _=>False
abbrev TS:=Ends->St->Hp->Prop
def EP (X:Cx)(pins:List (Addr×Obj))(σ:St)(Q:VK)(u:Value)(s':Shared):Prop:=∃v H',Inv X pins σ H' s'/\RelV v u/\Q v H'
def TP (X:Cx)(pins:List (Addr×Obj))(σ:St)(Q:Bool->Hp->Prop)(b:Bool)(s':Shared):Prop:=∃H',Inv X pins σ H' s'/\Q b H'
def AP (X:Cx)(pins:List (Addr×Obj))(σ:St)(Q:List V->Hp->Prop)(us:List Value)(s':Shared):Prop:=∃vs H',Inv X pins σ H' s'/\Vals vs us/\Q vs H'
def SP (X:Cx)(pins:List (Addr×Obj))(D:Ends)(f:Flow)(s':Shared):Prop:=
 match f with
 | .next=>∃σ' H',Inv X pins σ' H' s'/\D.nx σ' H'
 | .brk=>∃σ' H',Inv X pins σ' H' s'/\D.bk σ' H'
 | .cont=>∃σ' H',Inv X pins σ' H' s'/\D.ct σ' H'
 | .ret u=>∃v σ' H',Inv X pins σ' H' s'/\RelV v u/\D.rt v H'
def PE (X:Cx)(e:Expr)(t:TE):Prop:=
 ∀(pins:List (Addr×Obj)) (s:Shared) (σ:St) (H:Hp) (Q:VK),Inv X pins σ H s->t σ H Q->wpAny (model X.prog X.w) X.A (eval e X.env) (EP X pins σ Q) X.xe s
def PT (X:Cx)(e:Expr)(t:TT):Prop:=
 ∀(pins:List (Addr×Obj)) (s:Shared) (σ:St) (H:Hp) (Q:Bool->Hp->Prop),Inv X pins σ H s->t σ H Q->wpAny (model X.prog X.w) X.A (isTrue e X.env (eval e X.env)) (TP X pins σ Q) X.xe s
def PW (X:Cx)(e:Expr)(t:TT):Prop:=
 ∀(whole:Sem Value) (pins:List (Addr×Obj)) (s:Shared) (σ:St) (H:Hp) (Q:Bool->Hp->Prop),Inv X pins σ H s->t σ H Q->wpAny (model X.prog X.w) X.A (isTrue e X.env whole) (TP X pins σ Q) X.xe s
def PW.pt {X:Cx}{e:Expr}{t:TT}(h:PW X e t):PT X e t:=h _
def PA (X:Cx)(es:List Expr)(t:TA):Prop:=
 ∀(pos:Pos) (pins:List (Addr×Obj)) (s:Shared) (σ:St) (H:Hp) (Q:List V->Hp->Prop),Inv X pins σ H s->t σ H Q->wpAny (model X.prog X.w) X.A (spliced (backTo pos (starEach es X.env))) (AP X pins σ Q) X.xe s
def PS (X:Cx)(st:Stmt)(t:TS):Prop:=
 ∀(pins:List (Addr×Obj)) (s:Shared) (σ:St) (H:Hp) (D:Ends),Inv X pins σ H s->t D σ H->wpAny (model X.prog X.w) X.A (exec st X.env) (SP X pins D) X.xe s
def lD (X:Cx)(st:List Stmt)(t:TS):Prop:=
 ∀(pins:List (Addr×Obj)) (s:Shared) (σ:St) (H:Hp) (D:Ends),Inv X pins σ H s->t D σ H->wpAny (model X.prog X.w) X.A (execs st X.env) (SP X pins D) X.xe s
def bw {α:Type}{t:Sem α}{Q Q':α->Shared->Prop}{M8:Model}{A:Around}{E:Value->Shared->Prop}{s:Shared}(h:wpAny M8 A t Q E s)(hQ:∀a s,Q a s->Q' a s):wpAny M8 A t Q' E s:=wpAny_mono h hQ fun z z x=>x
section
variable{X:Cx}
def AL (i:Nat):TE:=fun σ H Q=>∃v,σ[i]?=some (some v)/\Q v H
def tC (v:V):TE:=fun z H Q=>Q v H
def DS {i:Nat}{x:Str}{pos:Pos}(hN:X.N[i]?=some x)(hv:IY X.env.scope x)(hd:(x==("__debug__":Str))=false:=by left)(hcd:(x==("__classdict__":Str))=false:=by left):PE X (.Name x pos) (AL i):=by
 intro pins s σ H Q I h
 obtain⟨v,e,h⟩:=h
 obtain⟨m,hn,hl⟩:=I.loc
 obtain⟨u,r,l⟩:=hl i x v hN e hv
 have fin:EP X pins σ Q u s:=⟨v,H,I,r,h⟩
 rcases l with⟨hk,hm⟩|⟨hk,c,hc,oJ⟩
 . show wpAny_Name (wpAny_loadName_local I.ok.kind hk hn hm fin) hd
 . rcases hk with hk|hk
   . show wpAny_Name (wpAny_loadName_cell I.ok.kind hk hc oJ fin) hd
   . show wpAny_Name (wpAny_loadName_free I.ok.kind hk hc oJ fin hcd) hd
def DK {i j pos}:PE X (.Constant (.int i) j pos) (tC (.int i)):=fun z z z H z I h=>wpAny_Constant_int ⟨.int i,H,I.tok _,⟨_,rfl⟩,h⟩
def Hj {b j pos}:PE X (.Constant (.bool b) j pos) (tC (.bl b)):=fun z z z H z I h=>Constant_bool ⟨.bl b,H,I,rfl,h⟩
def DP {j pos}:PE X (.Constant .none j pos) (tC .bI):=fun z z z H z I h=>Constant_none ⟨.bI,H,I,rfl,h⟩
def xq {x j pos}:PE X (.Constant (.str x) j pos) (tC (.str x)):=fun z z z H z I h=>Vf ⟨.str x,H,I.tok _,⟨_,rfl⟩,h⟩
def Gl (X:Cx)(x:Str):Prop:=X.env.kindOf x=some .globalImplicit
def iP {E:Value->Shared->Prop}{pins:List (Addr×Obj)}{s:Shared}{σ:St}{H:Hp}{x:Str}{u:Value}{pos:Pos}{Q:Value->Shared->Prop}(I:Inv X pins σ H s)(hg:Gl X x)(hm:X.mg x=some u)(h:Q u s)
   (hd:(x==("__debug__":Str))=false:=by left):wpAny (model X.prog X.w) X.A (eval (.Name x pos) X.env) Q E s:=
 VC I.ok.kind hg (Calls.loadGlobal_global (by rw[I.ok.glob];show I.mod.glob.keeps I.bk) hm h) hd
def fF {E:Value->Shared->Prop}{pins:List (Addr×Obj)}{s:Shared}{σ:St}{H:Hp}{x:Str}{u:Value}{pos:Pos}{Q:Value->Shared->Prop}(I:Inv X pins σ H s)(hg:Gl X x)(hm:X.mg x=none)(hv:SJ x=some u)(h:Q u s)
   (hn:x≠"__name__":=by left) (hd:(x==("__debug__":Str))=false:=by left):wpAny (model X.prog X.w) X.A (eval (.Name x pos) X.env) Q E s:=by
 obtain⟨mb,h1,h2⟩:=I.mod.blt
 show VC I.ok.kind hg (Calls.loadGlobal_builtin (by rw[I.ok.glob];show I.mod.glob.keeps I.bk) hm (by rw[I.ok.blt];show h1.keeps I.bk) ((h2 x hn).trans hv) h) hd
def Ab {x:Str}{v:V}{u:Value}{pos:Pos}(hg:Gl X x)(hm:X.mg x=some u)(r:RelV v u)(hd:(x==("__debug__":Str))=false:=by left):PE X (.Name x pos) (tC v):=
 fun z z z H z I h=>iP I hg hm ⟨v,H,I,r,h⟩ hd
def z4 {x:Str}{v:V}{u:Value}{pos:Pos}(hg:Gl X x)(hm:X.mg x=none)(hv:SJ x=some u)(r:RelV v u)(hn:x≠"__name__":=by left)(hd:(x==("__debug__":Str))=false:=by left):PE X (.Name x pos) (tC v):=
 fun z z z H z I h=>fF I hg hm hv ⟨v,H,I,r,h⟩ hn hd
variable{a b:Expr}{ta tb:TE}{pos:Pos}
def PC (X:Cx)(op:CmpOp)(a b:Expr)(t:TE):Prop:=
 ∀(pins:List (Addr×Obj)) (s:Shared) (σ:St) (H:Hp) (Q:VK),Inv X pins σ H s->t σ H Q ->
   wpAny (model X.prog X.w) X.A (eval a X.env) (fun v s₁=>wpAny (model X.prog X.w) X.A (eval b X.env) (fun u s₂=>wpAny (model X.prog X.w) X.A (compareOp op v u) (EP X pins σ Q) X.xe s₂) X.xe s₁) X.xe s
def tB (t:TE):TT:=fun σ H Q=>t σ H fun x H1=>∃c,x=.bl c/\Q c H1
def DI {op:CmpOp}{t:TE}(h:PC X op a b t)(h1:TQ op b=false:=by first|show wB _ (by left) (by left)|rfl):PE X (.Compare a [op] [b] pos) t:=fun pins s σ H Q I hw=>wpAny_Compare1 (h pins s σ H Q I hw) h1
def Ed {e:Expr}{t:TE}(h:PE X e t)(he:∀whole,isTrue e X.env whole=(do let v←whole;standAt e.pos;holding [v] (truthy v)):=by intro _;rfl):PT X e (tB t):=by
 intro pins s σ H Q I hw
 show isTrue_plain (bw (h pins s σ H _ I hw) fun v s1 h9=>?_) (he _)
 obtain⟨x,H1,I1,r1,q1⟩:=h9
 obtain⟨d,rfl,q⟩:=q1
 cases r1
 show wpAny_truthy_bool ⟨H1,I1,q⟩
variable{tA Jq:TT}{rest:List Expr}
def Iw (t u:TT):TT:=fun σ H Q=>t σ H fun c H1=>if c=true then u σ H1 Q else Q false H1
def Nh (t u:TT):TT:=fun σ H Q=>t σ H fun c H1=>if c=true then Q true H1 else u σ H1 Q
def IE (t:TT):TT:=fun σ H Q=>t σ H fun c H1=>Q (!c) H1
def Aq (ha:PT X a tA):PW X (.BoolOp .And [a] pos) tA:=by
 intro wh pins s σ H Q I h
 show isTrue_and (bw (ha pins s σ H Q I h) fun c s1 e=>?_)
 cases c with
 | true=>show isTrue_and_nil e
 | false=>show e
def Ef (ha:PT X a tA):PW X (.BoolOp .Or [a] pos) tA:=by
 intro wh pins s σ H Q I h
 show isTrue_or (bw (ha pins s σ H Q I h) fun c s1 e=>?_)
 cases c with
 | false=>show isTrue_or_nil e
 | true=>show e
def Ee (ha:PT X a tA)(hb:PW X (.BoolOp .And (b::rest) pos) Jq):PW X (.BoolOp .And (a::b::rest) pos) (Iw tA Jq):=by
 intro wh pins s σ H Q I h
 show isTrue_and (bw (ha pins s σ H _ I h) fun c s1 h9=>?_)
 obtain⟨H1,I1,q1⟩:=h9
 cases c with
 | true=>show hb wh pins s1 σ H1 Q I1 q1
 | false=>show⟨H1,I1,q1⟩
def HM (ha:PT X a tA)(hb:PW X (.BoolOp .Or (b::rest) pos) Jq):PW X (.BoolOp .Or (a::b::rest) pos) (Nh tA Jq):=by
 intro wh pins s σ H Q I h
 show isTrue_or (bw (ha pins s σ H _ I h) fun c s1 h9=>?_)
 obtain⟨H1,I1,q1⟩:=h9
 cases c with
 | true=>show⟨H1,I1,q1⟩
 | false=>show hb wh pins s1 σ H1 Q I1 q1
def Ec (ha:PT X a tA):PT X (.UnaryOp .Not a pos) (IE tA):=by
 intro pins s σ H Q I h
 show isTrue_not (ha pins s σ H (fun c H1=>Q (!c) H1) I h)
def BX (ta:TE):TE:=fun σ H Q=>ta σ H fun x H1=>∃c,x=.bl c/\Q (.bl (!c)) H1
def DQ (ha:PE X a ta):PE X (.UnaryOp .Not a pos) (BX ta):=by
 intro pins s σ H Q I h
 show UnaryOp_ (bw (ha pins s σ H _ I h) fun v s1 h9=>?_)
 obtain⟨x,H1,I1,r1,q1⟩:=h9
 obtain⟨c,rfl,q1⟩:=q1
 cases r1
 show not_of (wpAny_truthy_bool ⟨.bl (!c),H1,I1,U,q1⟩)
def Nf (t:TT)(ta tb:TE):TE:=fun σ H Q=>t σ H fun c H1=>if c=true then ta σ H1 Q else tb σ H1 Q
def xo {c:Expr}(hc:PT X c tA)(ha:PE X a ta)(hb:PE X b tb):PE X (.IfExp c a b pos) (Nf tA ta tb):=by
 intro pins s σ H Q I h
 show wpAny_IfExp (bw (hc pins s σ H _ I h) fun d s1 h9=>?_)
 obtain⟨H1,I1,q1⟩:=h9
 cases d with
 | true=>show ha pins s1 σ H1 Q I1 q1
 | false=>show hb pins s1 σ H1 Q I1 q1
end
def aH (K:Ro)(H:Hp)(a:Addr)(xs:List V):Prop:=
 Rd H a (.lst xs) \/
   ∃(o:Obj) (its:Array Value) (n:Nat),K.lookup a=some o/\o.cls=.type "list"/\o.dict=none/\o.data=.seq its n/\its.size<=sizeLine/\Vals xs its.toList
def bS (K:Ro)(H:Hp)(a:Addr)(xs:List V):Prop:=
 Rd H a (.tup xs) \/
   ∃(o:Obj) (its:Array Value) (n:Nat),K.lookup a=some o/\o.cls=.type "tuple"/\o.data=.seq its n/\its.size<=sizeLine/\Vals xs its.toList
def JG:Value->Option V
 | .none=>some .bI
 | .bool b=>some (.bl b)
 | .int i _=>some (.int i)
 | .str x _=>some (.str x)
 | .bytes b _=>some (.byt b)
 | .float b _=>some (.flt b)
 | .ref a=>some (.ref a)
 | .type n=>some (.ty n)
 | _=>none
def RelV.abs {x:V}{u:Value}(r:RelV x u):JG u=some x:=by
 cases x with
 | bI=>cases r;rfl
 | bl _=>cases r;rfl
 | int _=>obtain⟨t,rfl⟩:=r;rfl
 | str _=>obtain⟨t,rfl⟩:=r;rfl
 | byt _=>obtain⟨t,rfl⟩:=r;rfl
 | flt _=>obtain⟨t,rfl⟩:=r;rfl
 | ref _=>cases r;rfl
 | ty _=>cases r;rfl
def RelV.inj {x y:V}{u:Value}(r:RelV x u)(q:RelV y u):x=y:=Sa (r.abs.symm.trans q.abs)
theorem Vals.inj:∀{xs ys:List V} {us:List Value},Vals xs us->Vals ys us->xs=ys
 | _,_,_,.nil,.nil=>rfl
 | _,_,_,.cons r t,.cons r' t'=>by rw[r.inj r',Vals.inj t t']
section
variable{X:Cx}{pins:List (Addr×Obj)}{σ:St}{H:Hp}{s:Shared}{a:Addr}{xs ys:List V}
def aH.of {K:Ro}(h:H a=some (.lst xs)):aH K H a xs:=.inl (.inl h)
def bS.of {K:Ro}(h:H a=some (.tup xs)):bS K H a xs:=.inl (.inl h)
def Inv.list (I:Inv X pins σ H s)(h:aH X.K H a xs):∃its:List Value,Vals xs its/\PlainL s.heap a its.toArray/\xs.length<=sizeLine:=by
 rcases h with h|⟨o,its,n,hk,hc,hd,hs,hz,r⟩
 . obtain⟨z,its,n,r,e⟩:=h.ok I.hok
   show⟨its,r,⟨_,n,e,U,U,U⟩,z⟩
 . show⟨its.toList,r,⟨o,n,I.lM a o hk,hc,hd,by simpa using hs⟩,?_⟩
   have e:=r.length
   simp only[U7]at e
   lia
def Inv.tuple (I:Inv X pins σ H s)(h:bS X.K H a xs):∃its:List Value,Vals xs its/\IsTup s.heap a its.toArray/\xs.length<=sizeLine:=by
 rcases h with h|⟨o,its,n,hk,hc,hs,hz,r⟩
 . obtain⟨z,its,r,p⟩:=h.ok I.hok
   show⟨its,r,p,z⟩
 . show⟨its.toList,r,⟨o,I.lM a o hk,hc,n,by simpa using hs⟩,?_⟩
   have e:=r.length
   simp only[U7]at e
   lia
def Inv.kK (I:Inv X pins σ H s)(h:aH X.K H a xs)(h':aH X.K H a ys):xs=ys:=by
 obtain⟨its,r,⟨o,n,e,_,_,d⟩,_⟩:=I.list h
 obtain⟨its',r',⟨o',n',e',_,_,d'⟩,_⟩:=I.list h'
 rw[e]at e';cases e'
 rw[d]at d'
 injection d' with d1 _
 have:its=its':=by simpa using congrArg Array.toList d1
 subst this
 show r.inj r'
def Inv.mD (I:Inv X pins σ H s)(h:bS X.K H a xs)(h':bS X.K H a ys):xs=ys:=by
 obtain⟨its,r,⟨o,e,_,n,d⟩,_⟩:=I.tuple h
 obtain⟨its',r',⟨o',e',_,n',d'⟩,_⟩:=I.tuple h'
 rw[e]at e';cases e'
 rw[d]at d'
 injection d' with d1 _
 have:its=its':=by simpa using congrArg Array.toList d1
 subst this
 show r.inj r'
end
abbrev Cx.lS (X:Cx)(E:Value->Shared->Prop):Cx:={X with xe:=E}
abbrev Cx.nD (X:Cx):Cx:=X.lS fun _ _=>False
def Cx.Ok.lS {X:Cx}(ok:X.Ok)(E:Value->Shared->Prop):(X.lS E).Ok:=
 ⟨ok.mod,ok.kind,ok.glob,ok.blt,ok.above,ok.inj,ok.has,ok.cab,ok.hd,ok.frames,ok.stk,ok.exf,ok.bs,ok.bsz,ok.noex,ok.exfs,ok.ib,ok.frf⟩
def Cx.Ok.fS {X:Cx}{E:Value->Shared->Prop}(ok:(X.lS E).Ok):X.Ok:=
 ⟨ok.mod,ok.kind,ok.glob,ok.blt,ok.above,ok.inj,ok.has,ok.cab,ok.hd,ok.frames,ok.stk,ok.exf,ok.bs,ok.bsz,ok.noex,ok.exfs,ok.ib,ok.frf⟩
section
variable{X:Cx}{pins:List (Addr×Obj)}{σ:St}{H:Hp}{s:Shared}{E:Value->Shared->Prop}
def Inv.lS (I:Inv X pins σ H s)(E:Value->Shared->Prop):Inv (X.lS E) pins σ H s:=⟨I.ok.lS E,I.os,I.bare,I.base,I.loc,I.cell,I.free,I.freeC,I.pin,I.hok,I.len⟩
def Inv.fS (I:Inv (X.lS E) pins σ H s):Inv X pins σ H s:=⟨I.ok.fS,I.os,I.bare,I.base,I.loc,I.cell,I.free,I.freeC,I.pin,I.hok,I.len⟩
theorem SP.fS {D:Ends}{f:Flow}{s':Shared}(h:SP (X.lS E) pins D f s'):SP X pins D f s':=by
 cases f with
 | next=>obtain⟨σ',H',I,q⟩:=h;show⟨σ',H',I.fS,q⟩
 | brk=>obtain⟨σ',H',I,q⟩:=h;show⟨σ',H',I.fS,q⟩
 | cont=>obtain⟨σ',H',I,q⟩:=h;show⟨σ',H',I.fS,q⟩
 | ret u=>obtain⟨v,σ',H',I,r,q⟩:=h;show⟨v,σ',H',I.fS,r,q⟩
def lD.nD {st:List Stmt}{t:TS}(h:lD X.nD st t):lD X st t:=fun pins s σ H D I hw=>
 wpAny_mono (h pins s σ H D (I.lS _) hw) (fun y y q=>q.fS) fun y y z=>Tb z
end
section
variable{X:Cx}{st:Stmt}{rest:List Stmt}{t u:TS}{e:Expr}{te:TE}{pos:Pos}
def BW:TS:=fun D σ H=>D.nx σ H
def fQ (t u:TS):TS:=fun D σ H=>t {D with nx:=u D} σ H
def An:lD X [] BW:=fun z z σ H z I h=>Up ⟨σ,H,I,h⟩
def xD (h1:PS X st t)(h2:lD X rest u):lD X (st::rest) (fQ t u):=by
 intro pins s σ H D I h
 show T2 (bw (h1 pins s σ H {D with nx:=u D} I h) fun f s1 q=>?_)
 cases f with
 | next=>
   obtain⟨σ',H',I',q⟩:=q
   show h2 pins s1 σ' H' D I' q
 | ret v=>show q
 | brk=>show q
 | cont=>show q
def Ao (h1:PS X st t):lD X [st] t:=by
 intro pins s σ H D I h
 show T2 (bw (h1 pins s σ H D I h) fun f s1 q=>?_)
 cases f with
 | next=>show Up q
 | ret v=>show q
 | brk=>show q
 | cont=>show q
def Inv.quiet {pins:List (Addr×Obj)}{σ:St}{H:Hp}{s:Shared}(I:Inv X pins σ H s):interactive X.env=false:=by simp[interactive,I.ok.kind]
def BU (te:TE):TS:=fun D σ H=>te σ H fun z H1=>D.nx σ H1
def Al (he:PE X e te)(hs:Tw e none pos.line X.env=pure false:=by rfl):PS X (.Expr e pos) (BU te):=by
 intro pins s σ H D I h
 show wpAny_Expr_any (bw (he pins s σ H _ I h) fun v s1 h9=>?_) I.quiet hs
 obtain⟨x,H1,I1,r1,q1⟩:=h9
 show⟨σ,H1,I1,q1⟩
def IF (te:TE):TS:=fun D σ H=>te σ H D.rt
def Ea (he:PE X e te):PS X (.Return (some e) pos) (IF te):=by
 intro pins s σ H D I h
 show wpAny_Return_some (bw (he pins s σ H _ I h) fun v s1 h9=>?_)
 obtain⟨x,H1,I1,r1,q1⟩:=h9
 show⟨x,σ,H1,I1,r1,q1⟩
def EK (c:TT)(t u:TS):TS:=fun D σ H=>c σ H fun b H1=>if b=true then t D σ H1 else u D σ H1
def HH {c:Expr}{a b:List Stmt}{tc:TT}(hc:PT X c tc)(ha:lD X a t)(hb:lD X b u):PS X (.If c a b pos) (EK tc t u):=by
 intro pins s σ H D I h
 show wpAny_If (bw (hc pins s σ H _ I h) fun d s1 h9=>?_)
 obtain⟨H1,I1,q1⟩:=h9
 cases d with
 | true=>show ha pins s1 σ H1 D I1 q1
 | false=>show hb pins s1 σ H1 D I1 q1
def ym:TS:=fun z z z=>False
def uE {QA:List Stmt}:lD X QA ym:=fun z z z z z z h=>h.elim
end
abbrev TG:=V->St->Hp->(St->Hp->Prop)->Prop
abbrev sO:=List V->St->Hp->(St->Hp->Prop)->Prop
def PG (X:Cx)(target:Expr)(t:TG):Prop:=
 ∀(pins:List (Addr×Obj)) (s:Shared) (σ:St) (H:Hp) (v:V) (u:Value) (Q:St->Hp->Prop),Inv X pins σ H s->RelV v u->t v σ H Q ->
   wpAny (model X.prog X.w) X.A (assign target X.env u) (fun z s'=>∃σ' H',Inv X pins σ' H' s'/\Q σ' H') X.xe s
def EY (X:Cx)(ts:List Expr)(t:sO):Prop:=
 ∀(pins:List (Addr×Obj)) (s:Shared) (σ:St) (H:Hp) (vs:List V) (us:List Value) (Q:St->Hp->Prop),Inv X pins σ H s->Vals vs us->t vs σ H Q ->
   wpAny (model X.prog X.w) X.A (assignInOrder ((assignEach ts X.env).map (·.2)) us) (fun z s'=>∃σ' H',Inv X pins σ' H' s'/\Q σ' H') X.xe s
abbrev Ca:=V->V->V->Hp->(Hp->Prop)->Prop
def FC (X:Cx)(t:Ca):Prop:=
 ∀(pins:List (Addr×Obj)) (s:Shared) (σ:St) (H:Hp) (o i v:V) (ov iv u:Value) (Q:Hp->Prop),Inv X pins σ H s->RelV o ov->RelV i iv->RelV v u->t o i v H Q ->
   wpAny (model X.prog X.w) X.A (setItem ov iv u) (fun z s'=>∃H',Inv X pins σ H' s'/\Q H') X.xe s
section
variable{X:Cx}{pos:Pos}
def cI (i:Nat):TG:=fun v σ H Q=>Q (σ.set i (some v)) H
def Ae {i:Nat}{x:Str}(hN:X.N.Nodup)(hi:X.N[i]?=some x)(hx:Loc X.env.scope x)(hf:X.fn x=true\/X.env.scope.names.lookup x=some .local:=by first|show .inl rfl|show .inr rfl|assumption):PG X (.Name x pos) (cI i):=by
 intro pins s σ H v u Q I r h
 show wpAny_assign_Name (ja I hN hi hx r (fun s' I'=>⟨_,H,I',h⟩) hf)
def y9:sO:=fun vs σ H Q=>vs=[]/\Q σ H
def kB (t:TG)(u:sO):sO:=fun vs σ H Q=>∃v r,vs=v::r/\t v σ H fun σ' H'=>u r σ' H' Q
def Af:EY X [] y9:=by
 intro pins s σ H vs us Q I r h
 obtain⟨e,h⟩:=h
 subst e
 cases r
 show assignInOrder_nil ⟨σ,H,I,h⟩
def xt {e:Expr}{es:List Expr}{t:TG}{u:sO}(h1:PG X e t)(h2:EY X es u)
   (hs:(assignEach (e::es) X.env).map (·.2)=assign e X.env::(assignEach es X.env).map (·.2):=by rfl):EY X (e::es) (kB t u):=by
 intro pins s σ H vs us Q I r h
 obtain⟨v,vr,e1,h⟩:=h
 subst e1
 cases r with
 | cons r rr=>
   rw[hs]
   show assignInOrder_cons (bw (h1 pins s σ H _ _ _ I r h) fun z s1 h9=>?_)
   obtain⟨σ1,H1,I1,q1⟩:=h9
   show h2 pins s1 σ1 H1 _ _ Q I1 rr q1
def zb (K:Ro)(n:Nat)(t:sO):TG:=fun v σ H Q=>∃a xs,v=.ref a/\bS K H a xs/\xs.length=n/\t xs σ H Q
def DY {es:List Expr}{k:Nat}{t:sO}{n:Nat}(hc:X.calm=true)(h:EY X es t)
   (hn:(assignEach es X.env).length=n:=by rfl) (hst:(assignEach es X.env).findIdx? (·.1)=none:=by rfl):PG X (.Tuple es k pos) (zb X.K n t):=by
 intro pins s σ H v u Q I r hw
 obtain⟨a,xs,e1,hq,hl,hw⟩:=hw
 subst e1
 cases r
 obtain⟨its,rv,ht,hz⟩:=I.tuple hq
 show assign_Tuple_tuple (I.ok.hd hc) ht (by simp[hn,← hl,rv.length]) hst fun h' hx=>?_
 have I1:Inv X pins σ H {s with heap:=h'}:=I.kept (t':=s.toks) fun b o e=>hx b o (R1 (RD e)) e
 show h pins _ σ H xs _ Q I1 (by simpa using rv) hw
def za (to ti:TE)(t:Ca):TG:=fun v σ H Q=>to σ H fun o H1=>ti σ H1 fun i H2=>t o i v H2 fun H3=>Q σ H3
def qt {o i:Expr}{to ti:TE}{t:Ca}(ho:PE X o to)(hi:PE X i ti)(hs:FC X t)
   (ha:∀v,assign (.Subscript o i pos) X.env v=(do
     let ov←holding [v] (eval o X.env)
     let iv←holding [v,ov] (eval i X.env)
     standAt pos
     holding [v,ov,iv] (setItem ov iv v)
     release [v,ov,iv] []):=by intro _;rfl):PG X (.Subscript o i pos) (za to ti t):=by
 intro pins s σ H v u Q I r h
 rw[ha]
 show wpAny_bind (wpAny_holding (bw (ho pins s σ H _ I h) fun ov s1 h9=>?_))
 obtain⟨x,H1,I1,r1,q1⟩:=h9
 show wpAny_bind (wpAny_holding (bw (hi pins s1 σ H1 _ I1 q1) fun iv s2 h9=>?_))
 obtain⟨y,H2,I2,r2,q2⟩:=h9
 show wpAny_bind (wpAny_standAt (wpAny_bind (wpAny_holding (bw (hs pins s2 σ H2 x y v ov iv u _ I2 r1 r2 r q2) fun z s3 h9=>?_))))
 obtain⟨H3,I3,q3⟩:=h9
 show wpAny_release ⟨σ,H3,I3,q3⟩
def lR (te:TE)(g:TG):TS:=fun D σ H=>te σ H fun x H1=>g x σ H1 D.nx
def D7 {tg e:Expr}{te:TE}{g:TG}(he:PE X e te)(hg:PG X tg g)(hs:swapsWithSole [tg] e pos.line X.env=pure false:=by rfl)(hw:swappedStores [tg] e X.env=pure none:=by rfl)
   (h1:(assignEach [tg] X.env).map (·.2)=[assign tg X.env]:=by rfl):PS X (.Assign [tg] e pos) (lR te g):=by
 intro pins s σ H D I h
 show wpAny_Assign_stores (bw (he pins s σ H _ I h) fun v s1 h9=>?_) hs hw
 obtain⟨x,H1,I1,r1,q1⟩:=h9
 rw[h1]
 show bw (hg pins s1 σ H1 x v _ I1 r1 q1) fun z s2 q=>q
def Eb {i:Nat}{x:Str}{e:Expr}{te:TE}{pos':Pos}(hN:X.N.Nodup)(hi:X.N[i]?=some x)(hx:Loc X.env.scope x)(he:PE X e te)(hs:Tw e (some (.Name x pos')) pos.line X.env=pure false:=by rfl)(hf:X.fn x=true\/X.env.scope.names.lookup x=some .local:=by first|show .inl rfl|show .inr rfl|assumption) :
   PS X (.Assign [.Name x pos'] e pos) (lR te (cI i)):=by
 intro pins s σ H D I h
 show wpAny_Assign_Name (bw (he pins s σ H _ I h) fun v s1 h9=>?_) hs
 obtain⟨y,H1,I1,r1,q1⟩:=h9
 show ja I1 hN hi hx r1 (fun s2 I2=>⟨_,H1,I2,q1⟩) hf
end
section
variable{X:Cx}{pos:Pos}
def yp (c:TT)(tb:TS):TS:=fun D σ H=>∃W:Nat->St->Hp->Prop,(∃m,W m σ H)/\∀m σ H,W m σ H ->
 c σ H fun b H1=>if b=true then ∃N:St->Hp->Prop,(∀σ' H',N σ' H'->∃m',m'<m/\W m' σ' H')/\tb {D with nx:=N,ct:=N,bk:=D.nx} σ H1 else D.nx σ H1
def xB {c:Expr}{body:List Stmt}{tc:TT}{tb:TS}(hp:PassesOwn (model X.prog X.w) X.A X.env X.xe)(hc:PT X c tc)(hb:lD X body tb):PS X (.While c body [] pos) (yp tc tb):=by
 intro pins s σ H D I h
 obtain⟨W,⟨m0,w0⟩,turn⟩:=h
 show wpAny_While (codeAny_whileLoop (fun n s'=>∃σ' H',Inv X pins σ' H' s'/\W n σ' H') ?_ m0 ⟨σ,H,I,w0⟩)
 rintro n s1 ⟨σ1,H1,I1,w1⟩
 show TN hp (bw (hc pins s1 σ1 H1 _ I1 (turn n σ1 H1 w1)) fun b s2 h9=>?_)
 obtain⟨H2,I2,q2⟩:=h9
 cases b with
 | true=>
   obtain⟨N,hN,q2⟩:=q2
   rw[dI rfl]
   show TN hp (bw (hb pins s2 σ1 H2 _ I2 q2) fun f s3 q3=>?_)
   cases f with
   | next=>
     obtain⟨σ3,H3,I3,n3⟩:=q3
     obtain⟨m',hm,w3⟩:=hN σ3 H3 n3
     show⟨m',hm,σ3,H3,I3,w3⟩
   | cont=>
     obtain⟨σ3,H3,I3,n3⟩:=q3
     obtain⟨m',hm,w3⟩:=hN σ3 H3 n3
     show⟨m',hm,σ3,H3,I3,w3⟩
   | brk=>show q3
   | ret v=>show q3
 | false=>
   rw[dh RV]
   show Up ⟨σ1,H2,I2,q2⟩
end
structure It where
 go:Nat->Hp->Prop
 yld:Nat->Hp->V->Hp->Prop
 stop:Nat->Hp->Prop
def ef (X:Cx)(pins:List (Addr×Obj))(H:Hp)(b:Addr):Prop:=
 H b=none/\b≠X.env.locals/\b∉X.fs/\(b∈X.ex\/X.s₀.heap.objs.size<=b)/\(∀x c,X.env.cells.lookup x=some c->c≠b)/\∀p∈X.pn++pins,p.1≠b
def Inv.oF {X:Cx}{pins:List (Addr×Obj)}{σ:St}{H H':Hp}{s:Shared}{b:Addr}(I:Inv X pins σ H s)(hb:s.heap.objs.size<=b)(hn:H' b=none):ef X pins H' b:=by
 show⟨hn,Tg (RJ I.lt hb),I.K7 hb,.inr (Ry I.sz hb),fun x c e z=>?_,fun p hp z=>?_⟩
 . obtain⟨v,q⟩:=I.cell x c e
   show au (RJ q.lt (by rw[z];show hb)) (SR _)
 . show au (RJ (RD (I.pin p hp).1) (by rw[z];show hb)) (SR _)
structure Turn (P:Program)(w:World)(K:Ro)(tg:Expr)(J:It)(fp:List Addr)(it:Addr)(tn:Nat->Heap->Prop):Prop where
 mem:it∈fp
 obj:∀i h,tn i h->∀b∈fp,∃o,h.get? b=some o/\∀v,o.data≠.cell v
 keep:∀i h h',tn i h->(∀b∈fp,∀o,h.get? b=some o->h'.get? b=some o)->tn i h'
 item:∀(X:Cx),X.prog=P->X.w=w->X.K=K->X.calm=true->∀(i:Nat) (pins:List (Addr×Obj)) (s:Shared) (σ:St) (H:Hp) (E:Value->Shared->Prop),Inv X pins σ H s->(∀b∈fp,ef X pins H b)->tn i s.heap->J.go i H ->
   wpAny (model P w) X.A (pyNext (.ref it)) (fun r s1=>∃u,r=some u /\
     wpAny (model P w) X.A (letOwnedTupleGo tg (.ref it) u) (fun _ s2=>∃x H',Inv X pins σ H' s2/\RelV x u/\J.yld i H x H'/\tn (i+1) s2.heap/\∀b∈fp,H' b=none) E s1) E s
 done:∀(X:Cx),X.prog=P->X.w=w->X.K=K->X.calm=true->∀(i:Nat) (pins:List (Addr×Obj)) (s:Shared) (σ:St) (H:Hp) (E:Value->Shared->Prop),Inv X pins σ H s->(∀b∈fp,ef X pins H b)->tn i s.heap->J.stop i H ->
   wpAny (model P w) X.A (pyNext (.ref it)) (fun r s1=>r=none/\Inv X pins σ H s1) E s
 self:∀(A:Around) (i:Nat) (s:Shared) (Q:Value->Shared->Prop) (E:Value->Shared->Prop),tn i s.heap->Q (.ref it) s->wpAny (model P w) A (pyIter (.ref it)) Q E s
abbrev TI:=St->Hp->(It->Hp->Prop)->Prop
def LP (X:Cx)(pins:List (Addr×Obj))(σ:St)(tg:Expr)(R:It->Hp->Prop)(itv:Value)(s2:Shared):Prop:=
 ∃(it:Addr) (fp:List Addr) (tn:Nat->Heap->Prop) (J:It) (H':Hp),itv=.ref it/\Inv X pins σ H' s2/\Turn X.prog X.w X.K tg J fp it tn/\tn 0 s2.heap/\(∀b∈fp,ef X pins H' b)/\R J H'
def PI (X:Cx)(tg iter:Expr)(wi:TI):Prop:=
 ∀(pins:List (Addr×Obj)) (s:Shared) (σ:St) (H:Hp) (R:It->Hp->Prop),Inv X pins σ H s->wi σ H R ->
   wpAny (model X.prog X.w) X.A (eval iter X.env) (fun v s1=>wpAny (model X.prog X.w) X.A (pyIter v) (LP X pins σ tg R) X.xe s1) X.xe s
def vJ {M8:Model}{A:Around}{E:Value->Shared->Prop}{s:Shared}{tg:Expr}{it:Addr}{u:Value}{o:Obj}{n:String}{vs:Array Value}{Q:Unit->Shared->Prop}(ho:s.heap.get? it=some o)(hc:o.cls=.type n)(hd:o.data=.fields vs)
   (hn:["enumerate","zip","dict_itemiterator","dict_reverseitemiterator","odict_iterator","itertools.zip_longest","itertools.pairwise"].contains n=false) (hQ:Q () s):wpAny M8 A (letOwnedTupleGo tg (.ref it) u) Q E s:=by
 unfold letOwnedTupleGo
 cases tg<;>first
   | show wpAny_pure hQ
   | (cases u<;>first
       | show wpAny_pure hQ
       | (show wpAny_bind (wpAny_load ho ?_)
          rw[hc,hd]
          change wpAny M8 A (if(["enumerate","zip","dict_itemiterator","dict_reverseitemiterator","odict_iterator","itertools.zip_longest","itertools.pairwise"].contains n&&vs[0]?==some (rawInt _))=true then _ else _) Q E s
          rw[dh (by intro h;rw[hn,Bool.false_and]at h;cases h)]
          show wpAny_pure hQ))
def EW (K:Ro)(a:Addr):It:=
 ⟨fun i H=>∃xs x,aH K H a xs/\xs[i]?=some x,fun i H x H'=>H'=H/\∀xs,aH K H a xs->xs[i]?=some x,fun i H=>∃xs,aH K H a xs/\xs.length<=i⟩
def Fx (K:Ro)(a:Addr):It:=
 ⟨fun i H=>∃xs x,bS K H a xs/\xs[i]?=some x,fun i H x H'=>H'=H/\∀xs,bS K H a xs->xs[i]?=some x,fun i H=>∃xs,bS K H a xs/\xs.length<=i⟩
def B6 (lo:Int)(n:Nat):It:=⟨fun i z=>i<n,fun i H x H'=>H'=H/\x=.int (lo+i),fun i z=>n<=i⟩
def uP {P:Program}{w:World}{K:Ro}{tg:Expr}(a it:Addr):Turn P w K tg (EW K a) [it] it (fun i h=>h.IsListIter it a i) where
 mem:=by simp
 obj:=fun i h st b hb=>by
   have e:b=it:=by simpa using hb
   subst e
   obtain⟨o,e,c,d⟩:=st
   show⟨o,e,fun v z=>by rw[d]at z;cases z⟩
 keep:=fun i h h' st k=>st.at fun o e=>k it (by simp) o e
 item:=by
   intro X hP hw hK hc i pins s σ H E I hf st hg
   subst hP hw hK
   obtain⟨xs,x,hq,hx⟩:=hg
   obtain⟨its,rv,p,hz⟩:=I.list hq
   obtain⟨u,hu,ru⟩:=rv.get hx
   obtain⟨f0,f1,f2,f3,f4,f5⟩:=hf it (by simp)
   show wpAny_pyNext_list_item st p.isList (x:=u) (by simpa using hu) fun h' BO sb=>?_
   have I1:Inv X pins σ H {s with heap:=h'}:=I.turned (t':=s.toks) (fun b o hb e=>(sb.2 b hb).trans e) f0 f1 f3 f4 f5
   obtain⟨o,e,c,d⟩:=id BO
   show⟨u,U,vJ (s:={s with heap:=h'}) e c d (by left) ⟨x,H,I1,ru,⟨U,fun ys hy=>by rw[I.kK hy hq];show hx⟩,BO,fun b hb=>(hf b hb).1⟩⟩
 done:=by
   intro X hP hw hK hc i pins s σ H E I hf st hg
   subst hP hw hK
   obtain⟨xs,hq,hx⟩:=hg
   obtain⟨its,rv,p,hz⟩:=I.list hq
   obtain⟨f0,f1,f2,f3,f4,f5⟩:=hf it (by simp)
   have hl:=rv.length
   show wpAny_pyNext_list_end (I.ok.hd hc) st p.isList (by simp;lia) fun h' eb=>⟨U,I.turned (t':=s.toks) (fun b o hb e=>eb b o hb e) f0 f1 f3 f4 f5⟩
 self:=fun y y y y y st h=>wpAny_pyIter_listiter st h
def qL {P:Program}{w:World}{K:Ro}{tg:Expr}(a it:Addr):Turn P w K tg (Fx K a) [it] it (fun i h=>h.IsTupleIter it a i) where
 mem:=by simp
 obj:=fun i h st b hb=>by
   have e:b=it:=by simpa using hb
   subst e
   obtain⟨o,e,c,d⟩:=st
   show⟨o,e,fun v z=>by rw[d]at z;cases z⟩
 keep:=fun i h h' st k=>st.at fun o e=>k it (by simp) o e
 item:=by
   intro X hP hw hK hc i pins s σ H E I hf st hg
   subst hP hw hK
   obtain⟨xs,x,hq,hx⟩:=hg
   obtain⟨its,rv,p,hz⟩:=I.tuple hq
   obtain⟨u,hu,ru⟩:=rv.get hx
   obtain⟨f0,f1,f2,f3,f4,f5⟩:=hf it (by simp)
   show wpAny_pyNext_tuple_item st (show s.heap.IsTuple a its.toArray from p) (x:=u) (by simpa using hu) fun h' BO sb=>?_
   have I1:Inv X pins σ H {s with heap:=h'}:=I.turned (t':=s.toks) (fun b o hb e=>(sb.2 b hb).trans e) f0 f1 f3 f4 f5
   obtain⟨o,e,c,d⟩:=id BO
   show⟨u,U,vJ (s:={s with heap:=h'}) e c d (by left) ⟨x,H,I1,ru,⟨U,fun ys hy=>by rw[I.mD hy hq];show hx⟩,BO,fun b hb=>(hf b hb).1⟩⟩
 done:=by
   intro X hP hw hK hc i pins s σ H E I hf st hg
   subst hP hw hK
   obtain⟨xs,hq,hx⟩:=hg
   obtain⟨its,rv,p,hz⟩:=I.tuple hq
   obtain⟨f0,f1,f2,f3,f4,f5⟩:=hf it (by simp)
   have hl:=rv.length
   show wpAny_pyNext_tuple_end (I.ok.hd hc) st (show s.heap.IsTuple a its.toArray from p) (by simp;lia) fun h' eb=>⟨U,I.turned (t':=s.toks) (fun b o hb e=>eb b o hb e) f0 f1 f3 f4 f5⟩
 self:=fun y y y y y st h=>wpAny_pyIter_tupleiter st h
def qK {P:Program}{w:World}{K:Ro}{tg:Expr}(it:Addr)(lo:Int)(n:Nat):Turn P w K tg (B6 lo n) [it] it (fun i h=>IsRangeIter h it (lo+(i:Nat)*1) ((n:Int)-(i:Nat)) 1) where
 mem:=by simp
 obj:=fun i h st b hb=>by
   have e:b=it:=by simpa using hb
   subst e
   show⟨_,st,fun v z=>by
     have z':Data.fields _=Data.cell v:=z
     cases z'⟩
 keep:=fun i h h' st k=>k it (by simp) _ st
 item:=by
   intro X hP hw hK hc i pins s σ H E I hf st hg
   subst hP hw hK
   obtain⟨f0,f1,f2,f3,f4,f5⟩:=hf it (by simp)
   have W:=Walks.range (prog:=X.prog) (w:=X.w) (I.ok.hd hc) it lo 1 n
   show W.item i s _ _ hg st fun v h' tk hv BO kk=>?_
   obtain⟨t,rfl⟩:=hv
   have I1:Inv X pins σ H {s with heap:=h',toks:=tk}:=I.turned (fun b o hb e=>kk b o (by simpa using hb) e) f0 f1 f3 f4 f5
   show⟨_,U,vJ (s:={s with heap:=h',toks:=tk}) (n:="range_iterator") BO rfl rfl (by left) ⟨.int (lo+i),H,I1,⟨t,?_⟩,⟨U,U⟩,BO,fun b hb=>(hf b hb).1⟩⟩
   rw[Int.mul_one]
 done:=by
   intro X hP hw hK hc i pins s σ H E I hf st hg
   subst hP hw hK
   obtain⟨f0,f1,f2,f3,f4,f5⟩:=hf it (by simp)
   show wpAny_pyNext_range_end (I.ok.hd hc) st (by have:n<=i:=hg;lia) fun h' eb=>⟨U,I.turned (t':=s.toks) (fun b o hb e=>eb b o hb e) f0 f1 f3 f4 f5⟩
 self:=fun y y y y y st h=>wpAny_pyIter_rangeiter st h
section
variable{X:Cx}{tg:Expr}
def Be (K:Ro)(tl:TE):TI:=fun σ H R=>tl σ H fun x H1=>∃a,x=.ref a/\(∃xs,aH K H1 a xs)/\R (EW K a) H1
def GH (K:Ro)(tl:TE):TI:=fun σ H R=>tl σ H fun x H1=>∃a,x=.ref a/\(∃xs,bS K H1 a xs)/\R (Fx K a) H1
def Ah {l:Expr}{tl:TE}(hl:PE X l tl):PI X tg l (Be X.K tl):=by
 intro pins s σ H R I h
 show bw (hl pins s σ H _ I h) fun v s1 h9=>?_
 obtain⟨x,H1,I1,r1,q1⟩:=h9
 obtain⟨a,e,⟨xs,hq⟩,q⟩:=q1
 subst e
 cases r1
 obtain⟨its,rv,p,hz⟩:=I1.list hq
 show UJ p.isList ?_
 show⟨s1.heap.objs.size,[s1.heap.objs.size],_,_,H1,U,I1.kept (t':=s1.toks) fun b o e=>Rr _ e,uP a _,⟨_,RK _ rfl,U,U⟩,fun b hb=>?_,q⟩
 have e:b=s1.heap.objs.size:=by simpa using hb
 subst e
 show I1.oF (Rz _) (I1.hok.fresh (Rz _))
def DZ {l:Expr}{tl:TE}(hl:PE X l tl):PI X tg l (GH X.K tl):=by
 intro pins s σ H R I h
 show bw (hl pins s σ H _ I h) fun v s1 h9=>?_
 obtain⟨x,H1,I1,r1,q1⟩:=h9
 obtain⟨a,e,⟨xs,hq⟩,q⟩:=q1
 subst e
 cases r1
 obtain⟨its,rv,p,hz⟩:=I1.tuple hq
 show wpAny_pyIter_tuple (show s1.heap.IsTuple a its.toArray from p) ?_
 show⟨s1.heap.objs.size,[s1.heap.objs.size],_,_,H1,U,I1.kept (t':=s1.toks) fun b o e=>Rr _ e,qL a _,⟨_,RK _ rfl,U,U⟩,fun b hb=>?_,q⟩
 have e:b=s1.heap.objs.size:=by simpa using hb
 subst e
 show I1.oF (Rz _) (I1.hok.fresh (Rz _))
def xI {pins:List (Addr×Obj)}{σ:St}{H:Hp}{s:Shared}{R:It->Hp->Prop}{E:Value->Shared->Prop}{lo hi:Int}{t u v:Tok}{tk:Nat}(I:Inv X pins σ H s)(h1 : -(2^62)<=lo)(h2:lo<2^62)(h3 : -(2^62)<=hi)(h4:hi<2^62)
   (q:R (B6 lo (hi-lo).toNat) H):wpAny (model X.prog X.w) X.A (pyIter (.ref s.heap.objs.size)) (LP X pins σ tg R) E {s with heap:=s.heap.push {cls:=.type "range",data:=.fields #[.int lo t,.int hi u,.int 1 v]},toks:=tk}:=by
 show wpAny_pyIter_range (IsRange.new ..) (small_one h1 h2 h3 h4) ?_
 have I1:Inv X pins σ H {s with heap:=s.heap.push {cls:=.type "range",data:=.fields #[.int lo t,.int hi u,.int 1 v]},toks:=tk}:=I.kept fun b o e=>Rr _ e
 show⟨(s.heap.push {cls:=.type "range",data:=.fields #[.int lo t,.int hi u,.int 1 v]}).objs.size,[(s.heap.push {cls:=.type "range",data:=.fields #[.int lo t,.int hi u,.int 1 v]}).objs.size],_,_,H,rfl,
   I1.kept (t':=tk) fun b o e=>Rr _ e,qK _ lo (hi-lo).toNat,?_,fun b hb=>?_,q⟩
 . have e1:lo+((0:Nat):Int)*1=lo:=by simp
   have e2:(((hi-lo).toNat:Nat):Int)-((0:Nat):Int)=Builtin.Range.rangeSize lo hi 1:=by rw[rangeSize_one];split<;>lia
   change IsRangeIter _ _ (lo+((0:Nat):Int)*1) ((((hi-lo).toNat:Nat):Int)-((0:Nat):Int)) 1
   rw[e1,e2]
   show RK _ rfl
 . have e:b=(s.heap.push {cls:=.type "range",data:=.fields #[.int lo t,.int hi u,.int 1 v]}).objs.size:=by simpa using hb
   subst e
   show I1.oF (Rz _) (I1.hok.fresh (Rz _))
def vU (ta:TA):TI:=fun σ H R=>ta σ H fun vs H1=>∃j:Int,vs=[.int j]/\-(2^62)<=j/\j<2^62/\R (B6 0 j.toNat) H1
def uy {a:Expr}{ta:TA}{p pos:Pos}(hg:Gl X "range")(hm:X.mg "range"=none)(ha:PA X [a] ta)(hs:starEach [a] X.env=[(false,eval a X.env)]:=by rfl):PI X tg (.Call (.Name "range" p) [a] [] pos) (vU ta):=by
 intro pins s σ H R I h
 show Call_ (fF I hg hm boot_range (SY (bw (ha pos pins s σ H _ I h) fun us s1 h9=>?_) hs rfl))
 obtain⟨vs,H1,I1,r1,q1⟩:=h9
 obtain⟨j,e,q1,q2,q⟩:=q1
 subst e
 cases r1 with
 | cons r rr=>
   cases rr
   obtain⟨t,rfl⟩:=r
   show call_range_1 (xI I1 (by lia) (by lia) q1 q2 (by simpa using q))
def IB (wi:TI)(g:TG)(tb:TS):TS:=fun D σ H=>wi σ H fun J H1=>∃W:Nat->Nat->St->Hp->Prop,(∃m,W 0 m σ H1)/\∀i m σ H,W i m σ H ->
 (J.stop i H/\D.nx σ H)\/(J.go i H/\∃N:St->Hp->Prop,(∀σ' H',N σ' H'->∃m',m'<m/\W (i+1) m' σ' H')/\∀x H',J.yld i H x H'->g x σ H' fun σ2 H2=>tb {D with nx:=N,ct:=N,bk:=D.nx} σ2 H2)
def kS (fp:List Addr)(h:Heap):List (Addr×Obj):=fp.filterMap fun b=>(h.get? b).map fun o=>(b,o)
def eZ {fp:List Addr}{h:Heap}{b:Addr}{o:Obj}(hb:b∈fp)(e:h.get? b=some o):(b,o)∈kS fp h:=List.mem_filterMap.mpr ⟨b,hb,by rw[e];rfl⟩
def ug {fp:List Addr}{h:Heap}{p:Addr×Obj}(hp:p∈kS fp h):p.1∈fp/\h.get? p.1=some p.2:=by
 obtain⟨b,hb,e⟩:=List.mem_filterMap.mp hp
 cases q:h.get? b with
 | none=>rw[q]at e;cases e
 | some o=>
   rw[q]at e
   have e':(b,o)=p:=Sa e
   subst e'
   show⟨hb,q⟩
def Inv.pinned {pins:List (Addr×Obj)}{σ:St}{H:Hp}{s:Shared}{fp:List Addr}(I:Inv X pins σ H s)(hf:∀b∈fp,ef X pins H b)(ho:∀b∈fp,∃o,s.heap.get? b=some o/\∀v,o.data≠.cell v):Inv X (pins++kS fp s.heap) σ H s:=
 I.nM fun p hp=>(List.mem_append.mp hp).elim (fun z=>I.pin p (Si _ z)) fun z=>by
   obtain⟨hb,e⟩:=ug z
   obtain⟨f0,f1,f2,_⟩:=hf p.1 hb
   obtain⟨o,e',d⟩:=ho p.1 hb
   rw[e]at e';cases e'
   show⟨e,f0,f1,f2,d⟩
def Inv.jd {pins pl:List (Addr×Obj)}{σ:St}{H:Hp}{s:Shared}(I:Inv X (pins++pl) σ H s):Inv X pins σ H s:=I.nM fun p hp=>I.pin p (Si _ (S0 _ hp))
def D9 {iter:Expr}{body:List Stmt}{wi:TI}{g:TG}{tb:TS}{pos:Pos}(hp:PassesOwn (model X.prog X.w) X.A X.env X.xe)(hc:X.calm=true)(hi:PI X tg iter wi)(hg:PG X tg g)(hb:lD X body tb)
   (hs:∀x,Sg iter X.env x=pure x:=by intro _;rfl):PS X (.For tg iter body [] pos) (IB wi g tb):=by
 intro pins s σ H D I h
 show wpAny_For (bw (hi pins s σ H _ I h) fun v s1 h1=>bw h1 fun itv s2 h2=>?_) hs
 obtain⟨it,fp,tn,J,H2,e,I2,T,EH,f2,W,⟨m0,w0⟩,turn⟩:=h2
 subst e
 have stat:∀{H':Hp},(∀b∈fp,H' b=none)->∀b∈fp,ef X pins H' b:=fun hn b hb=>⟨hn b hb,(f2 b hb).2⟩
 show codeAny_forLoop_any (fun n s'=>∃i σ' H',Inv X pins σ' H' s'/\tn i s'.heap/\(∀b∈fp,H' b=none)/\W i n σ' H') ?_ m0 ⟨0,σ,H2,I2,EH,fun b hb=>(f2 b hb).1,w0⟩
 rintro n s3 ⟨i,σ3,H3,I3,uL,E8,w3⟩
 rcases turn i n σ3 H3 w3 with⟨stop,qn⟩|⟨go,N,hN,step⟩
 . show TN hp (bw (T.done X rfl rfl rfl hc i pins s3 σ3 H3 X.xe I3 (stat E8) uL stop) fun r s4 h9=>?_)
   obtain⟨hr,I4⟩:=h9
   subst hr
   show Up ⟨σ3,H3,I4,qn⟩
 . show TN hp (bw (T.item X rfl rfl rfl hc i pins s3 σ3 H3 X.xe I3 (stat E8) uL go) fun r s4 h9=>?_)
   obtain⟨u,hr,h4⟩:=h9
   subst hr
   show TN hp (bw h4 fun z s5 h9=>?_)
   obtain⟨x,H5,I5,r5,y5,yz,J1⟩:=h9
   have Jw:=I5.pinned (stat J1) (T.obj _ _ yz)
   show TN hp (bw (hg _ s5 σ3 H5 x u _ Jw r5 (step x H5 y5)) fun z s6 h9=>?_)
   obtain⟨σ6,H6,I6,q6⟩:=h9
   show TN hp (bw (hb _ s6 σ6 H6 _ I6 q6) fun f s7 q7=>?_)
   have again:∀{σ7:St} {H7:Hp},Inv X (pins++kS fp s5.heap) σ7 H7 s7->N σ7 H7->∃m,m<n/\∃i σ' H',Inv X pins σ' H' s7/\tn i s7.heap/\(∀b∈fp,H' b=none)/\W i m σ' H':=fun{σ7 H7} I7 n7=>by
     obtain⟨m',hm,w7⟩:=hN σ7 H7 n7
     show⟨m',hm,i+1,σ7,H7,I7.jd,T.keep _ _ _ yz fun b hb o e=>(I7.pin (b,o) (Si _ (Si _ (eZ hb e)))).1,fun b hb=>?_,w7⟩
     obtain⟨o,e,d⟩:=T.obj _ _ yz b hb
     show(I7.pin (b,o) (Si _ (Si _ (eZ hb e)))).2.1
   cases f with
   | next=>obtain⟨σ7,H7,I7,n7⟩:=q7;show again I7 n7
   | cont=>obtain⟨σ7,H7,I7,n7⟩:=q7;show again I7 n7
   | brk=>obtain⟨σ7,H7,I7,q7⟩:=q7;show⟨σ7,H7,I7.jd,q7⟩
   | ret v=>obtain⟨x7,σ7,H7,I7,r7,q7⟩:=q7;show⟨x7,σ7,H7,I7.jd,r7,q7⟩
end
def dG {K:Ro}{a:Addr}{xs:List V}{g:TG}{tb:TS}{D:Ends}{σ:St}{H:Hp}(Pv:Nat->St->Hp->Prop)(h0:Pv 0 σ H)(hl:∀i σ H,i<=xs.length->Pv i σ H->aH K H a xs)
   (hs:∀i x σ H,xs[i]?=some x->Pv i σ H->g x σ H fun σ2 H2=>tb {D with nx:=Pv (i+1),ct:=Pv (i+1),bk:=D.nx} σ2 H2) (hd:∀σ H,Pv xs.length σ H->D.nx σ H) :
   ∃W:Nat->Nat->St->Hp->Prop,(∃m,W 0 m σ H)/\∀i m σ H,W i m σ H ->
     ((EW K a).stop i H/\D.nx σ H)\/((EW K a).go i H/\∃N:St->Hp->Prop,(∀σ' H',N σ' H'->∃m',m'<m/\W (i+1) m' σ' H')/\∀x H',(EW K a).yld i H x H'->g x σ H' fun σ2 H2=>tb {D with nx:=N,ct:=N,bk:=D.nx} σ2 H2):=by
 show⟨fun i m σ H=>m=xs.length-i/\i<=xs.length/\Pv i σ H,⟨xs.length,by simp,Sd _,h0⟩,?_⟩
 rintro i m σ H ⟨rfl,hi,p⟩
 have q:=hl i σ H hi p
 by_cases oM:i<xs.length
 . show .inr ⟨⟨xs,xs[i],q,by simp[oM]⟩,Pv (i+1),fun σ' H' p'=>⟨xs.length-(i+1),by lia,U,oM,p'⟩,fun x H' y=>?_⟩
   obtain⟨e,y⟩:=y
   subst e
   show hs i x σ _ (y xs q) p
 . have e:i=xs.length:=by lia
   subst e
   show .inl ⟨⟨xs,q,Rz _⟩,hd σ H p⟩
def rh {K:Ro}{a:Addr}{xs:List V}{g:TG}{tb:TS}{D:Ends}{σ:St}{H:Hp}(Pv:Nat->St->Hp->Prop)(h0:Pv 0 σ H)(hl:∀i σ H,i<=xs.length->Pv i σ H->bS K H a xs)
   (hs:∀i x σ H,xs[i]?=some x->Pv i σ H->g x σ H fun σ2 H2=>tb {D with nx:=Pv (i+1),ct:=Pv (i+1),bk:=D.nx} σ2 H2) (hd:∀σ H,Pv xs.length σ H->D.nx σ H) :
   ∃W:Nat->Nat->St->Hp->Prop,(∃m,W 0 m σ H)/\∀i m σ H,W i m σ H ->
     ((Fx K a).stop i H/\D.nx σ H)\/((Fx K a).go i H/\∃N:St->Hp->Prop,(∀σ' H',N σ' H'->∃m',m'<m/\W (i+1) m' σ' H')/\∀x H',(Fx K a).yld i H x H'->g x σ H' fun σ2 H2=>tb {D with nx:=N,ct:=N,bk:=D.nx} σ2 H2):=by
 show⟨fun i m σ H=>m=xs.length-i/\i<=xs.length/\Pv i σ H,⟨xs.length,by simp,Sd _,h0⟩,?_⟩
 rintro i m σ H ⟨rfl,hi,p⟩
 have q:=hl i σ H hi p
 by_cases oM:i<xs.length
 . show .inr ⟨⟨xs,xs[i],q,by simp[oM]⟩,Pv (i+1),fun σ' H' p'=>⟨xs.length-(i+1),by lia,U,oM,p'⟩,fun x H' y=>?_⟩
   obtain⟨e,y⟩:=y
   subst e
   show hs i x σ _ (y xs q) p
 . have e:i=xs.length:=by lia
   subst e
   show .inl ⟨⟨xs,q,Rz _⟩,hd σ H p⟩
def gf {lo:Int}{n:Nat}{g:TG}{tb:TS}{D:Ends}{σ:St}{H:Hp}(Pv:Nat->St->Hp->Prop)(h0:Pv 0 σ H)
   (hs:∀i σ H,i<n->Pv i σ H->g (.int (lo+i)) σ H fun σ2 H2=>tb {D with nx:=Pv (i+1),ct:=Pv (i+1),bk:=D.nx} σ2 H2) (hd:∀σ H,Pv n σ H->D.nx σ H) :
   ∃W:Nat->Nat->St->Hp->Prop,(∃m,W 0 m σ H)/\∀i m σ H,W i m σ H ->
     ((B6 lo n).stop i H/\D.nx σ H)\/((B6 lo n).go i H/\∃N:St->Hp->Prop,(∀σ' H',N σ' H'->∃m',m'<m/\W (i+1) m' σ' H')/\∀x H',(B6 lo n).yld i H x H'->g x σ H' fun σ2 H2=>tb {D with nx:=N,ct:=N,bk:=D.nx} σ2 H2):=by
 show⟨fun i m σ H=>m=n-i/\i<=n/\Pv i σ H,⟨n,by simp,Sd _,h0⟩,?_⟩
 rintro i m σ H ⟨rfl,hi,p⟩
 by_cases oM:i<n
 . show .inr ⟨oM,Pv (i+1),fun σ' H' p'=>⟨n-(i+1),by lia,U,oM,p'⟩,fun x H' y=>?_⟩
   obtain⟨e,y⟩:=y
   subst e y
   show hs i σ _ oM p
 . have e:i=n:=by lia
   subst e
   show .inl ⟨Rz _,hd σ H p⟩
abbrev R2:=V->V->Hp->VK->Prop
def gC (X:Cx)(f:Value->Value->Sem Value)(r:R2):Prop:=
 ∀(pins:List (Addr×Obj)) (s:Shared) (σ:St) (H:Hp) (x y:V) (v u:Value) (Q:VK),Inv X pins σ H s->RelV x v->RelV y u->r x y H Q ->
   wpAny (model X.prog X.w) X.A (f v u) (EP X pins σ Q) X.xe s
def JF (X:Cx)(f:Value->Sem Value)(r:V->Hp->VK->Prop):Prop:=
 ∀(pins:List (Addr×Obj)) (s:Shared) (σ:St) (H:Hp) (x:V) (v:Value) (Q:VK),Inv X pins σ H s->RelV x v->r x H Q ->
   wpAny (model X.prog X.w) X.A (f v) (EP X pins σ Q) X.xe s
def dz (X:Cx)(f:Value)(r:List V->Hp->VK->Prop):Prop:=
 ∀(pins:List (Addr×Obj)) (s:Shared) (σ:St) (H:Hp) (xs:List V) (us:List Value) (Q:VK),Inv X pins σ H s->Vals xs us->r xs H Q ->
   wpAny (model X.prog X.w) X.A (call f us) (EP X pins σ Q) X.xe s
def yA (r:R2)(ta tb:TE):TE:=fun σ H Q=>ta σ H fun x H1=>tb σ H1 fun y H2=>r x y H2 Q
def Ni (r:V->Hp->VK->Prop)(ta:TE):TE:=fun σ H Q=>ta σ H fun x H1=>r x H1 Q
def rI (C:Int->Int->Prop)(g:Int->Int->V):R2:=fun x y H Q=>∃i j,x=.int i/\y=.int j/\C i j/\Q (g i j) H
def uY (g:Int->Int->V):R2:=fun x y H Q=>∃i j,x=.int i/\y=.int j/\Q (g i j) H
def rU (g:Int->V):V->Hp->VK->Prop:=fun x H Q=>∃i,x=.int i/\Q (g i) H
section
variable{X:Cx}{a b c:Expr}{ta tb tc:TE}{pos:Pos}
def Cg (ha:PE X a ta)(hb:PE X b tb){pins:List (Addr×Obj)}{s:Shared}{σ:St}{H:Hp}{R:V->V->Hp->Prop}(I:Inv X pins σ H s)
   (h:ta σ H fun x H1=>tb σ H1 fun y H2=>R x y H2) {Q:Value->Shared->Prop} {f:Value->Value->Sem Value}
   (hf:∀v u s2 x y H2,Inv X pins σ H2 s2->RelV x v->RelV y u->R x y H2->wpAny (model X.prog X.w) X.A (f v u) Q X.xe s2) :
   wpAny (model X.prog X.w) X.A (eval a X.env) (fun v s₁=>wpAny (model X.prog X.w) X.A (eval b X.env) (fun u s₂=>wpAny (model X.prog X.w) X.A (f v u) Q X.xe s₂) X.xe s₁) X.xe s:=by
 show bw (ha pins s σ H _ I h) fun v s1 h9=>?_
 obtain⟨x,H1,I1,r1,q1⟩:=h9
 show bw (hb pins s1 σ H1 _ I1 q1) fun u s2 h9=>?_
 obtain⟨y,H2,I2,r2,q2⟩:=h9
 show hf v u s2 x y H2 I2 r1 r2 q2
def Hq {op:V5}{r:R2}(ho:gC X (binaryOp op) r)(ha:PE X a ta)(hb:PE X b tb):PE X (.BinOp a op b pos) (yA r ta tb):=by
 intro pins s σ H Q I h
 show wpAny_BinOp (Cg ha hb I h fun v u s2 x y H2 I2 rx ry q=>ho pins s2 σ H2 x y v u Q I2 rx ry q)
def Hs {op:UnaryOp}{r:V->Hp->VK->Prop}(ho:JF X (unaryOp op) r)(ha:PE X a ta):PE X (.UnaryOp op a pos) (Ni r ta):=by
 intro pins s σ H Q I h
 show UnaryOp_ (bw (ha pins s σ H _ I h) fun v s1 h9=>?_)
 obtain⟨x,H1,I1,r1,q1⟩:=h9
 show ho pins s1 σ H1 x v Q I1 r1 q1
def G7 {f:Value->Value->Sem Value}{C:Int->Int->Prop}{g:Int->Int->Int}
   (rule:∀(i j:Int) (t u:Tok) (s:Shared) (Q:Value->Shared->Prop) (E:Value->Shared->Prop),C i j->Q (.int (g i j) s.toks) {s with toks:=s.toks+1}->wpAny (model X.prog X.w) X.A (f (.int i t) (.int j u)) Q E s) :
   gC X f (rI C fun i j=>.int (g i j)):=by
 intro pins s σ H x y v u Q I rx ry h
 obtain⟨i,j,rfl,rfl,hc,q⟩:=h
 obtain⟨t,rfl⟩:=rx
 obtain⟨t',rfl⟩:=ry
 show rule i j t t' s _ _ hc ⟨.int (g i j),H,I.tok _,⟨_,U⟩,q⟩
def G8 {f:Value->Value->Sem Value}{g:Int->Int->Int}
   (rule:∀(i j:Int) (t u:Tok) (s:Shared) (Q:Value->Shared->Prop) (E:Value->Shared->Prop),Q (.int (g i j) s.toks) {s with toks:=s.toks+1}->wpAny (model X.prog X.w) X.A (f (.int i t) (.int j u)) Q E s) :
   gC X f (uY fun i j=>.int (g i j)):=by
 intro pins s σ H x y v u Q I rx ry h
 obtain⟨i,j,rfl,rfl,q⟩:=h
 obtain⟨t,rfl⟩:=rx
 obtain⟨t',rfl⟩:=ry
 show rule i j t t' s _ _ ⟨.int (g i j),H,I.tok _,⟨_,U⟩,q⟩
def Dj {f:Value->Value->Sem Value}{g:Int->Int->Bool}
   (rule:∀(i j:Int) (t u:Tok) (s:Shared) (Q:Value->Shared->Prop) (E:Value->Shared->Prop),Q (.bool (g i j)) s->wpAny (model X.prog X.w) X.A (f (.int i t) (.int j u)) Q E s) :
   gC X f (uY fun i j=>.bl (g i j)):=by
 intro pins s σ H x y v u Q I rx ry h
 obtain⟨i,j,rfl,rfl,q⟩:=h
 obtain⟨t,rfl⟩:=rx
 obtain⟨t',rfl⟩:=ry
 show rule i j t t' s _ _ ⟨.bl (g i j),H,I,U,q⟩
def Fs (i j:Int):Prop:=0<=j/\j<=1000000/\i.natAbs<2^64
def yF (i j:Int):Prop:=(-(2^64)<i/\i<2^64)\/(-(2^64)<j/\j<2^64)
def yF.ok {i j:Int}(h:yF i j):IntMulOk i j:=by
 rcases h with⟨h1,h2⟩|⟨h1,h2⟩
 . show .of_left (intBits_le_64 h1 h2)
 . show .of_right (intBits_le_64 h1 h2)
def two_pow_nn (k:Nat):(0:Int)<=2^k:=by
 rw[two_pow_cast]
 show Int.natCast_nonneg _
def Dk:gC X (binaryOp .Add) (uY fun i j=>.int (i+j)):=G8 fun z z z z z z z q=>add_int q
def Dw:gC X (binaryOp .Sub) (uY fun i j=>.int (i-j)):=G8 fun z z z z z z z q=>sub_int q
def Ds:gC X (binaryOp .Mult) (rI yF fun i j=>.int (i*j)):=G7 fun z z z z z z z hc q=>mul_int q hc.ok
def Dr:gC X (binaryOp .Mod) (rI (fun z j=>0<j) fun i j=>.int (i%j)):=G7 fun i j z z z z z hc q=>by
 have h1:(0:Int)<j:=hc
 show mod_int' (by lia) (by rw[Int.fmod_eq_emod_of_nonneg i (by lia)];show q)
def Du:gC X (binaryOp .Pow) (rI Fs fun i j=>.int (i^j.toNat)):=G7 fun z z z z z z z hc q=>pow_int_small hc.1 hc.2.1 hc.2.2 q
def Dv:gC X (binaryOp .RShift) (rI (fun z j=>0<=j) fun i j=>.int (i/2^j.toNat)):=G7 fun i j z z z z z hc q=>
 rshift_int hc (by rw[VT i (two_pow_nn _)];show q)
def QE {f:Value->Sem Value}{g:Int->Int}
   (rule:∀(i:Int) (t:Tok) (s:Shared) (Q:Value->Shared->Prop) (E:Value->Shared->Prop),Q (.int (g i) s.toks) {s with toks:=s.toks+1}->wpAny (model X.prog X.w) X.A (f (.int i t)) Q E s) :
   JF X f (rU fun i=>.int (g i)):=by
 intro pins s σ H x v Q I rx h
 obtain⟨i,rfl,q⟩:=h
 obtain⟨t,rfl⟩:=rx
 show rule i t s _ _ ⟨.int (g i),H,I.tok _,⟨_,U⟩,q⟩
def EO:JF X (unaryOp .USub) (rU fun i=>.int (-i)):=QE fun z z z z z q=>neg_int q
end
def Im:V->V->Bool
 | .bI,.bI=>true|.bI,.int _=>true|.int _,.bI=>true|.bI,.bl _=>true|.bl _,.bI=>true|.bI,.str _=>true|.str _,.bI=>true
 | .int _,.int _=>true|.bl _,.bl _=>true|.str _,.str _=>true|.byt _,.byt _=>true
 | .int _,.str _=>true|.str _,.int _=>true|.bl _,.str _=>true|.str _,.bl _=>true
 | _,_=>false
def MU:R2:=fun x y H Q=>Im x y=true/\Q (.bl (decide (x=y))) H
def MV:R2:=fun x y H Q=>Im x y=true/\Q (.bl (!decide (x=y))) H
def qX {i j:Int}:decide (V.int i=V.int j)=(i==j):=by
 rw[UX]
 simp
def vp {i j:Bool}:decide (V.bl i=V.bl j)=(i==j):=by
 rw[UX]
 simp
def qY {i j:Str}:decide (V.str i=V.str j)=(i==j):=by
 rw[UX]
 simp
def qW {i j:Array UInt8}:decide (V.byt i=V.byt j)=(i.toList==j.toList):=by
 rw[UX]
 cases i
 cases j
 simp
section
variable{X:Cx}{a b c:Expr}{ta tb tc:TE}{pos:Pos}
def bh {pins:List (Addr×Obj)}{σ:St}{H:Hp}{s:Shared}{Q:VK}{k k':Bool}(I:Inv X pins σ H s)(q:Q (.bl k) H)(e:k=k'):EP X pins σ Q (.bool k') s:=by
 subst e
 show⟨.bl k,H,I,U,q⟩
def G9:gC X (compareOp .Eq) MU:=by
 intro pins s σ H x y v u Q I rx ry h
 obtain⟨hs,q⟩:=h
 cases x with
 | bI=>
   cases rx
   cases y with
   | bI=>cases ry;show PySem.EqNone.eq_none_none (bh I q (by simp))
   | bl j=>cases ry;show PySem.EqNone.eq_none_bool (bh I q (by simp))
   | int j=>obtain⟨t',rfl⟩:=ry;show PySem.EqNone.eq_none_int (bh I q (by simp))
   | str j=>obtain⟨t',rfl⟩:=ry;show PySem.EqNone.eq_none_str (bh I q (by simp))
   | _=>show au (show false=true from hs) RV
 | bl i=>
   cases rx
   cases y with
   | bI=>cases ry;show PySem.EqNone.eq_bool_none (bh I q (by simp))
   | bl j=>cases ry;show eq_bool (bh I q vp)
   | str j=>obtain⟨t',rfl⟩:=ry;show PySem.EqMixed.eq_bool_str (bh I q (by simp))
   | _=>show au (show false=true from hs) RV
 | int i=>
   obtain⟨t,rfl⟩:=rx
   cases y with
   | bI=>cases ry;show PySem.EqNone.eq_int_none (bh I q (by simp))
   | int j=>obtain⟨t',rfl⟩:=ry;show eq_int (bh I q qX)
   | str j=>obtain⟨t',rfl⟩:=ry;show PySem.EqMixed.eq_int_str (bh I q (by simp))
   | _=>show au (show false=true from hs) RV
 | str i=>
   obtain⟨t,rfl⟩:=rx
   cases y with
   | bI=>cases ry;show PySem.EqNone.eq_str_none (bh I q (by simp))
   | bl j=>cases ry;show PySem.EqMixed.eq_str_bool (bh I q (by simp))
   | int j=>obtain⟨t',rfl⟩:=ry;show PySem.EqMixed.eq_str_int (bh I q (by simp))
   | str j=>obtain⟨t',rfl⟩:=ry;show eq_str (bh I q qY)
   | _=>show au (show false=true from hs) RV
 | byt i=>
   obtain⟨t,rfl⟩:=rx
   cases y with
   | byt j=>obtain⟨t',rfl⟩:=ry;show PySem.W.eq_bytes (bh I q qW)
   | _=>show au (show false=true from hs) RV
 | _=>cases y<;>show au (show false=true from hs) RV
def Hh:gC X (compareOp .NotEq) MV:=by
 intro pins s σ H x y v u Q I rx ry h
 obtain⟨hs,q⟩:=h
 cases x with
 | bI=>
   cases rx
   cases y with
   | bI=>cases ry;show PySem.EqNone.ne_none_none (bh I q (by simp))
   | bl j=>cases ry;show PySem.EqNone.ne_none_bool (bh I q (by simp))
   | int j=>obtain⟨t',rfl⟩:=ry;show PySem.EqNone.ne_none_int (bh I q (by simp))
   | str j=>obtain⟨t',rfl⟩:=ry;show PySem.EqNone.ne_none_str (bh I q (by simp))
   | _=>show au (show false=true from hs) RV
 | bl i=>
   cases rx
   cases y with
   | bI=>cases ry;show PySem.EqNone.ne_bool_none (bh I q (by simp))
   | bl j=>cases ry;show ne_bool (bh I q (congrArg not vp))
   | str j=>obtain⟨t',rfl⟩:=ry;show PySem.EqMixed.ne_bool_str (bh I q (by simp))
   | _=>show au (show false=true from hs) RV
 | int i=>
   obtain⟨t,rfl⟩:=rx
   cases y with
   | bI=>cases ry;show PySem.EqNone.ne_int_none (bh I q (by simp))
   | int j=>obtain⟨t',rfl⟩:=ry;show ne_int (bh I q (congrArg not qX))
   | str j=>obtain⟨t',rfl⟩:=ry;show PySem.EqMixed.ne_int_str (bh I q (by simp))
   | _=>show au (show false=true from hs) RV
 | str i=>
   obtain⟨t,rfl⟩:=rx
   cases y with
   | bI=>cases ry;show PySem.EqNone.ne_str_none (bh I q (by simp))
   | bl j=>cases ry;show PySem.EqMixed.ne_str_bool (bh I q (by simp))
   | int j=>obtain⟨t',rfl⟩:=ry;show PySem.EqMixed.ne_str_int (bh I q (by simp))
   | str j=>obtain⟨t',rfl⟩:=ry;show ne_str (bh I q (congrArg not qY))
   | _=>show au (show false=true from hs) RV
 | byt i=>
   obtain⟨t,rfl⟩:=rx
   cases y with
   | byt j=>obtain⟨t',rfl⟩:=ry;show PySem.W.ne_bytes (bh I q (congrArg not qW))
   | _=>show au (show false=true from hs) RV
 | _=>cases y<;>show au (show false=true from hs) RV
def Hg:gC X (compareOp .Lt) (uY fun i j=>.bl (decide (i<j))):=Dj fun z z z z z z z q=>lt_int q
def Hf:gC X (compareOp .Gt) (uY fun i j=>.bl (decide (j<i))):=Dj fun z z z z z z z q=>gt_int q
def He:gC X (compareOp .GtE) (uY fun i j=>.bl (decide (j<=i))):=Dj fun z z z z z z z q=>ge_int q
def Dp:gC X (compareOp .Is) (fun x y H Q=>y=.bI/\Q (.bl (decide (x=.bI))) H):=by
 intro pins s σ H x y v u Q I rx ry h
 obtain⟨rfl,q⟩:=h
 cases ry
 show is_none_gen (bh I q ?_)
 cases x<;>first
   | (cases rx;rfl)
   | (obtain⟨t,rfl⟩:=rx;rfl)
def zX:gC X (compareOp .IsNot) (fun x y H Q=>y=.bI/\Q (.bl (!decide (x=.bI))) H):=by
 intro pins s σ H x y v u Q I rx ry h
 obtain⟨rfl,q⟩:=h
 cases ry
 show isnot_none_gen (bh I q ?_)
 cases x<;>first
   | (cases rx;rfl)
   | (obtain⟨t,rfl⟩:=rx;rfl)
def wC (b:Expr){op:CmpOp}(h:op≠.In:=by left)(h2:op≠.NotIn:=by left):TQ op b=false:=by
 have e1:(op==CmpOp.In)=false:=by cases op<;>first|rfl|show au rfl h
 have e2:(op==CmpOp.NotIn)=false:=by cases op<;>first|rfl|show au rfl h2
 cases b<;>simp[TQ,e1,e2]
def z5 {op:CmpOp}{r:R2}(ho:gC X (compareOp op) r)(ha:PE X a ta)(hb:PE X b tb)(hm:TQ op b=false):PE X (.Compare a [op] [b] pos) (yA r ta tb):=by
 intro pins s σ H Q I h
 show wpAny_Compare1 (Cg ha hb I h fun v u s2 x y H2 I2 rx ry q=>ho pins s2 σ H2 x y v u Q I2 rx ry q) hm
def B0 (t:TE):TT:=fun σ H Q=>t σ H fun x H'=>∃k,x=.bl k/\Q k H'
def Ap {op:CmpOp}{r:R2}(ho:gC X (compareOp op) r)(ha:PE X a ta)(hb:PE X b tb)(hm:TQ op b=false):PT X (.Compare a [op] [b] pos) (B0 (yA r ta tb)):=by
 intro pins s σ H Q I h
 show wpAny_isTrue_Compare1 (bw (ha pins s σ H _ I h) fun v s1 ⟨x,H1,I1,r1,q1⟩=>bw (hb pins s1 σ H1 _ I1 q1) fun u s2 ⟨y,H2,I2,r2,q2⟩=>
   bw (ho pins s2 σ H2 x y v u _ I2 r1 r2 q2) fun c s3 ⟨z,H3,I3,r3,k,e,q3⟩=>?_) hm
 subst e
 cases r3
 show wpAny_truthy_bool ⟨H3,I3,q3⟩
def ip:(sizeLine:Nat)<2^63:=by rw[sizeLine_eq];decide
def vals1 {x:V}{us:List Value}(r:Vals [x] us):∃u,us=[u]/\RelV x u:=by
 cases r with
 | cons r1 r2=>cases r2;show⟨_,rfl,r1⟩
def sQ:dz X (.type "int") (fun xs H Q=>(∃i,xs=[.int i]/\Q (.int i) H)\/∃k,xs=[.bl k]/\Q (.int (if k then 1 else 0)) H):=by
 intro pins s σ H xs us Q I r h
 rcases h with⟨i,rfl,q⟩|⟨k,rfl,q⟩
 . obtain⟨u,rfl,t,rfl⟩:=vals1 r
   show call_int_int ⟨.int i,H,I,⟨_,U⟩,q⟩
 . obtain⟨u,rfl,r1⟩:=vals1 r
   cases r1
   show call_int_bool ⟨.int (if k then 1 else 0),H,I.tok _,⟨_,U⟩,q⟩
def mS:dz X (.type "str") (fun xs H Q=>∃i,xs=[.int i]/\i.natAbs.log2<1920/\Q (.str (toString i)) H):=by
 intro pins s σ H xs us Q I r h
 obtain⟨i,rfl,hz,q⟩:=h
 obtain⟨u,rfl,t,rfl⟩:=vals1 r
 show PySem.P.str_of_int hz ⟨.str _,H,I.tok _,⟨_,U⟩,q⟩
end
structure pG (h:Heap)(x dx C:Addr)(mA:Str->Option Value):Prop where
 obj:h.get? x=some (S9 C dx)
 ns:h.Ns1 dx mA
 ne:dx≠x
def ua {h:Heap}{dx:Addr}{mA:Str->Option Value}(n:h.Ns1 dx mA):∃od,h.get? dx=some od/\∀name,UN name od=some (mA name):=by
 obtain⟨o,es,ep,ho,hd,hk,_,hm⟩:=n
 show⟨o,ho,fun name=>?_⟩
 have e:=hm name
 unfold nsFind findBy at e
 rw[← Array.find?_toList]at e
 unfold UN
 rw[hd]
 dsimp only
 split
 . rename_i y q
   rw[q]at e
   show congrArg some e
 . rename_i q
   rw[q]at e
   have a:es.toList.any (·.refKey)=false:=by
     rw[Uw]
     intro y hy
     obtain⟨z,t,Ky⟩:=hk y (Array.mem_toList_iff.mp hy)
     simp[DictEntry.refKey,Ky]
   have a':¬ es.toList.any (·.refKey)=true:=by rw[a];show RV
   rw[dh a']
   show congrArg some e
def pG.look {h:Heap}{x dx C:Addr}{mA:Str->Option Value}(I:pG h x dx C mA):∃od,PySem.W.InstAt h x (S9 C dx) C (some od)/\∀name,UN name od=some (mA name):=
 let⟨od,ho,hl⟩:=ua I.ns
 ⟨od,⟨I.obj,rfl,rfl,ho⟩,hl⟩
section
variable{prog:Program}{w:World}{A:Around}{E:Value->Shared->Prop}{s:Shared}{K:Ro}{x dx C f:Addr}{mA:Str->Option Value}{name:Str}{v:Value}
def get_map {expr:Bool}{Q:Value->Shared->Prop}(X:K.In s.heap)(I:pG s.heap x dx C mA)(hg:Uv K C name=true)(hh:Vd K C=true)
   (ha:Sw K (.ref C) name=some none) (hv:mA name=some v) (hv':PySem.W.handedIn v=true) (h:Q v {s with toks:=s.toks+1}) :
   wpAny (model prog w) A (getAttr (.ref x) name expr) Q E s:=by
 obtain⟨od,J,hl⟩:=I.look
 show PySem.W.get_value X J (UY hg).1 (PySem.W.findObj_own hh ha rfl (by rw[hl,hv])) hv' h
def vI {pl:Sem Bool}{Q:Value×List Value->Shared->Prop}(X:K.In s.heap)(I:pG s.heap x dx C mA)(hg:Uv K C name=true)
   (hf:Sw K (.ref C) name=some (some (.ref f))) (ht:VZ K (.ref f)=true) (hv:mA name=none) (h:Q (.ref f,[.ref x]) s) :
   wpAny (model prog w) A (getMethod (.ref x) name pl) Q E s:=by
 obtain⟨od,J,hl⟩:=I.look
 show PySem.W.method_fn X J (UY hg).1 (UY hg).2 hf (beq_iff_eq.mp ht) (by change(UN name od).map (·.isSome)=some false;rw[hl,hv];rfl) h
def AF {ns:List Str}{Q:Unit->Shared->Prop}(X:K.In s.heap)(I:pG s.heap x dx C mA)
   (hs:Sw K (.ref C) "__setattr__"=some (some (.builtin "object.__setattr__"))) (hp:Wj K C=true) (ht:Vn K C name=some none) (hh:Vd K C=true)
   (hw:Wc mA ns) (hsz:ns.length<=sizeLine)
   (h:∀h',pG h' x dx C (fun y=>if y=name then some v else mA y)->Sz dx s.heap h'->Q () {s with heap:=h',toks:=s.toks+2}) :
   wpAny (model prog w) A (setAttr (.ref x) name v) Q E s:=by
 obtain⟨od,J,hl⟩:=I.look
 show PySem.W.set_plain X J hs (PySem.W.osa_open (s:={s with toks:=s.toks+1}) (r:=none) X J hp ht fun b=>?_)
 obtain⟨cd,hc,Ge⟩:=PySem.W.any_some hh
 have hx:s.heap.get? x=some ⟨.ref C,some dx,.plain,#[]⟩:=I.obj
 show wpAny_bind (wpAny_pure (wpAny_bind (wpAny_bind (wpAny_loadPart hx (wpAny_bind (PySem.W.Looks.here (s:={s with toks:=s.toks+1}) (PySem.W.looks_clsIn X hc) ?_))))))
 rw[Ge]
 show wpAny_pure (a:=some dx) (wpAny_bind (wpAny_pure (wpAny_bind ?_)))
 show wpAny_nsSet1 (s:={s with toks:=s.toks+1}) I.ns fun h' hn2 hs2=>?_
 obtain⟨oD,QS,QR,Pc,OX,OT⟩:=hn2.count (PySem.Within.cons name v hw)
 show wpAny_bind (wpAny_lookBehind Pc (by rw[OX];show pastItsLine_dict (Ry OT (by rw[RE];lia))) ?_)
 show wpAny_pure (h _ ⟨(hs2.2 _ (Ne.symm I.ne)).trans I.obj,hn2,I.ne⟩ hs2)
def wg {R:Result->Shared->Prop}{vs:List Value}{kw:List (Str×Value)}(X:K.In s.heap)(hm:PySem.W.makesIn K C=true)
   (hi:Sw K (.ref C) "__init__"=some (some (.ref f))) (hf:PySem.W.typeIn K (.ref f)=some (.type "function"))
   (h:codeAny (model prog w) (A.under (.builtin "type.__call__" ⟨.ref C::vs,kw⟩)) (.call (.ref f) ⟨.ref (s.heap.objs.size+1)::vs,kw⟩) (PySem.W.InitBack (s.heap.objs.size+1) R)
     {s with heap:=(s.heap.push SF).push (S9 C s.heap.objs.size)}) :
   codeAny (model prog w) A (.call (.ref C) ⟨vs,kw⟩) R s:=by
 obtain⟨hh,g,d,t,os⟩:=s
 show PySem.W.make_core (PySem.W.makes_of X hm) (PySem.W.looks_findIn X hi) (fun self=>PySem.W.bind_fn X self hf) (.inl rfl) h
end
def fM (f:Str)(v:V):List (Str×V)->List (Str×V)
 | []=>[(f,v)]
 | (g,x)::r=>if g=f then(g,v)::r else(g,x)::fM f v r
theorem jz (f g:Str)(v:V):∀fs:List (Str×V),(fM f v fs).lookup g=if g=f then some v else fs.lookup g
 | []=>by
   change Uh g [(f,v)]=_
   by_cases h:g=f
   . have hb:(g==f)=true:=beq_iff_eq.mpr h
     simp only[Uh,hb,dI h]
   . have hb:(g==f)=false:=beq_eq_false_iff_ne.mpr h
     simp only[Uh,hb,dh h]
 | (k,x)::r=>by
   have ih:=jz f g v r
   rw[show fM f v ((k,x)::r)=(if k=f then(k,v)::r else(k,x)::fM f v r)from rfl]
   by_cases hk:k=f
   . rw[dI hk]
     by_cases h:g=k
     . have hb:(g==k)=true:=beq_iff_eq.mpr h
       simp only[Uh,hb,dI (h.trans hk)]
     . have hb:(g==k)=false:=beq_eq_false_iff_ne.mpr h
       simp only[Uh,hb,dh (fun e:g=f=>h (e.trans hk.symm))]
   . rw[dh hk]
     by_cases h:g=k
     . have hb:(g==k)=true:=beq_iff_eq.mpr h
       simp only[Uh,hb,dh (fun e:g=f=>hk (h.symm.trans e))]
     . have hb:(g==k)=false:=beq_eq_false_iff_ne.mpr h
       simp only[Uh,hb]
       show ih
theorem jq (f:Str)(v:V):∀fs:List (Str×V),f∈(fM f v fs).map (·.1)/\∀g,g∈fs.map (·.1)->g∈(fM f v fs).map (·.1)
 | []=>⟨by simp[fM],fun g h=>by simp at h⟩
 | (k,x)::r=>by
   obtain⟨i1,i2⟩:=jq f v r
   rw[show fM f v ((k,x)::r)=(if k=f then(k,v)::r else(k,x)::fM f v r)from rfl]
   by_cases hk:k=f
   . rw[dI hk]
     subst hk
     show⟨by simp,fun g h=>by simpa using h⟩
   . rw[dh hk]
     show⟨?_,fun g h=>?_⟩
     . rw[R3]
       show RC _ i1
     . rw[R3]at h ⊢
       rcases List.mem_cons.mp h with e|e
       . show List.mem_cons.mpr (.inl e)
       . show RC _ (i2 g e)
theorem jy (f:Str)(v:V):∀fs:List (Str×V),(fM f v fs).length<=fs.length+1
 | []=>by simp[fM]
 | (k,x)::r=>by
   have ih:=jy f v r
   rw[show fM f v ((k,x)::r)=(if k=f then(k,v)::r else(k,x)::fM f v r)from rfl]
   by_cases hk:k=f
   . rw[dI hk,RE,RE];lia
   . rw[dh hk,RE,RE];lia
def eh.some_of {v:V}{o:Option Value}(r:eh (some v) o):∃u,o=some u/\RelV v u:=by
 cases o with
 | none=>show(show False from r).elim
 | some u=>show⟨u,rfl,r⟩
def eh.none_of {o:Option Value}(r:eh none o):o=none:=by
 cases o with
 | none=>rfl
 | some u=>show(show False from r).elim
def tK {v:V}{u:Value}(r:RelV v u):PySem.W.handedIn u=true:=by
 cases v with
 | bI=>cases(show u=SH from r);rfl
 | bl b=>cases(show u=Ur b from r);rfl
 | int i=>obtain⟨t,e⟩:=(show ∃t,u=UL i t from r);cases e;rfl
 | str x=>obtain⟨t,e⟩:=(show ∃t,u=Uq x t from r);cases e;rfl
 | byt b=>obtain⟨t,e⟩:=(show ∃t,u=Value.bytes b t from r);cases e;rfl
 | flt b=>obtain⟨t,e⟩:=(show ∃t,u=Value.float b t from r);cases e;rfl
 | ref a=>cases(show u=R6 a from r);rfl
 | ty n=>cases(show u=Vk n from r);rfl
section
variable{P:Program}{w:World}{H H':Hp}{h h':Heap}{a C dx:Addr}{fs y7:List (Str×V)}
def nk (hok:fW P w H h)(e:H a=some (.ins C dx fs)):∃mA,pG h a dx C mA/\(∀f,eh (fs.lookup f) (mA f))/\Wc mA (fs.map (·.1))/\fs.length<=1000/\H dx=some (.own a):=by
 obtain⟨d,z,ne,ob,mA,n,r,q⟩:=(show bB P w H h a (.ins C dx fs)from hok a _ e)
 show⟨mA,⟨ob,n,ne⟩,r,q,z,d⟩
end
structure pq (K:Ro)(C:Addr):Prop where
 pg:Uv K C TR=true
 hd:Vd K C=true
 po:Wj K C=true
 sa:Sw K (.ref C) "__setattr__"=some (some (.builtin "object.__setattr__"))
def pq.get {K:Ro}{C:Addr}(c:pq K C)(f:Str):Uv K C f=true:=c.pg
def cO (K:Ro)(C:Addr)(f:Str):Prop:=Sw K (.ref C) f=some none
def cO.IG {K:Ro}{C:Addr}{f:Str}(n:cO K C f):Vn K C f=some none:=by
 unfold Vn
 rw[show Sw K (.ref C) f=some none from n]
 rfl
structure Meth (K:Ro)(C:Addr)(m:Str)(f:Addr):Prop where
 at_:Sw K (.ref C) m=some (some (.ref f))
 fn:VZ K (.ref f)=true
 kp:Tf K (.ref f)=true
section
variable{X:Cx}{pins:List (Addr×Obj)}{σ:St}{H:Hp}{s:Shared}{a C dx:Addr}{fs:List (Str×V)}{f:Str}{v:V}{A:Around}{E:Value->Shared->Prop}
def kD {b:Bool}{Q:Value->Shared->Prop}(I:Inv X pins σ H s)(e:H a=some (.ins C dx fs))(c:pq X.K C)(n:cO X.K C f)(l:fs.lookup f=some v)
   (h:∀u s',Inv X pins σ H s'->RelV v u->Q u s'):wpAny (model X.prog X.w) A (getAttr (.ref a) f b) Q E s:=by
 obtain⟨mA,O,r,_,_,_⟩:=nk I.hok e
 obtain⟨u,hu,ru⟩:=eh.some_of (v:=v) (o:=mA f) (by rw[← l];show r f)
 show get_map I.lM O (c.get f) c.hd n hu (tK ru) (h u _ (I.tok _) ru)
def kE {m:Str}{g:Addr}{pl:Sem Bool}{Q:Value×List Value->Shared->Prop}(I:Inv X pins σ H s)(e:H a=some (.ins C dx fs))(c:pq X.K C)(k:Meth X.K C m g)(l:fs.lookup m=none)
   (h:Q (.ref g,[.ref a]) s):wpAny (model X.prog X.w) A (getMethod (.ref a) m pl) Q E s:=by
 obtain⟨mA,O,r,_,_,_⟩:=nk I.hok e
 have hn:mA m=none:=eh.none_of (by rw[← l];show r m)
 show vI I.lM O (c.get m) k.at_ k.fn hn h
def kX {y:V}{u:Value}{Q:Unit->Shared->Prop}(I:Inv X pins σ H s)(e:H a=some (.ins C dx fs))(c:pq X.K C)(n:cO X.K C f)(hl:fs.length<1000)(ry:RelV y u)
   (h:∀s',Inv X pins σ (upd H a (.ins C dx (fM f y fs))) s'->Q () s'):wpAny (model X.prog X.w) A (setAttr (.ref a) f u) Q E s:=by
 obtain⟨mA,O,r,wi,_,ho⟩:=nk I.hok e
 have hz:(fs.map (·.1)).length<=sizeLine:=by rw[Rn,sizeLine_eq];lia
 show AF I.lM O c.sa c.po n.IG c.hd wi hz fun h' O' sb=>h _ ?_
 have hd:∃o,h'.get? dx=some o:=by obtain⟨o,_,_,e',_⟩:=O'.ns;show⟨o,e'⟩
 show I.write (x:=a) (e:=dx) (by rw[e];show RO) (.inr ho) (fun b q hb z=>(sb.2 b hb).trans z) hd ?_
 show⟨by rw[ah O.ne];show ho,?_,O.ne,O'.obj,_,O'.ns,fun g=>?_,fun g hg=>?_⟩
 . have:=jy f y fs;lia
 . change eh ((fM f y fs).lookup g) (if g=f then some u else mA g)
   rw[jz]
   by_cases q:g=f
   . rw[dI q,dI q];show ry
   . rw[dh q,dh q];show r g
 . by_cases q:g=f
   . rw[q];show(jq f y fs).1
   . show(jq f y fs).2 g (wi g fun z=>hg ?_)
     change(if g=f then some u else mA g)=none
     rw[dh q];show z
def Inv.made (I:Inv X pins σ H s):Inv X pins σ (upd (upd H s.heap.objs.size (.own (s.heap.objs.size+1))) (s.heap.objs.size+1) (.ins C s.heap.objs.size []))
   {s with heap:=(s.heap.push SF).push (S9 C s.heap.objs.size)}:=by
 have e1:(s.heap.push SF).get? s.heap.objs.size=some SF:=RK s.heap rfl
 have e2:((s.heap.push SF).push (S9 C s.heap.objs.size)).get? (s.heap.objs.size+1)=some (S9 C s.heap.objs.size):=by
   have:=RK (s.heap.push SF) (o:=S9 C s.heap.objs.size) rfl
   rwa[Tr]at this
 have e3:(s.heap.push SF).Ns s.heap.objs.size (fun z=>none):=⟨SF,#[],_,e1,rfl,(fun e he=>au he (by simp)),fun z=>rfl⟩
 have I1:=I.laid (a:=s.heap.objs.size) (o:=.own (s.heap.objs.size+1)) (h':=s.heap.push SF) (t':=s.toks) (fun b u q=>Rr _ q) (Rz _) ⟨_,e1⟩
 show I1.laid (a:=s.heap.objs.size+1) (o:=.ins C s.heap.objs.size []) (t':=s.toks) (fun b u q=>Rr _ q) (Nat.le_of_eq (Tr _ _)) ?_
 have ne:s.heap.objs.size≠s.heap.objs.size+1:=R1 (Tq _)
 show⟨by rw[ah ne,ae],Sd _,ne,e2,fun z=>none,(Heap.Ns1.of_empty e3).at fun o q=>Rr _ q,fun z=>RO,fun y hy=>au rfl hy⟩
def yK {prog:Program}{w:World}{env:Env}{e:Expr}{f:Str}{pos:Pos}{s:Shared}{Q:Value->Shared->Prop}(hb:Ss e f env (eval e env)=eval e env)
   (h:wpAny (model prog w) A (eval e env) (fun o s₁=>wpAny (model prog w) A (getAttr o f true) Q E s₁) E s):wpAny (model prog w) A (eval (.Attribute e f pos) env) Q E s:=
 Attribute_any_ h (by rw[arm_eval_Attribute,hb])
end
def IA (K:Ro)(ta:TE)(f:Str):TE:=fun σ H Q=>ta σ H fun x H1=>∃a C dx fs v,x=.ref a/\H1 a=some (.ins C dx fs)/\pq K C/\cO K C f/\fs.lookup f=some v/\Q v H1
def Ih (K:Ro)(ta tv:TE)(f:Str):TS:=fun D σ H=>tv σ H fun y H1=>ta σ H1 fun x H2=>∃a C dx fs,x=.ref a/\H2 a=some (.ins C dx fs)/\pq K C/\cO K C f/\fs.length<1000 /\
 D.nx σ (upd H2 a (.ins C dx (fM f y fs)))
def Fw (X:Cx)(op:V5)(rd:V->V->Hp->VK->Prop):Prop:=
 ∀(pins:List (Addr×Obj)) (s:Shared) (σ:St) (H:Hp) (x y:V) (u v:Value) (Q:VK),Inv X pins σ H s->RelV x u->RelV y v->rd x y H Q->wpAny (model X.prog X.w) X.A (inplaceOp op u v) (EP X pins σ Q) X.xe s
def rR (K:Ro)(ta tv:TE)(rd:V->V->Hp->VK->Prop)(f:Str):TS:=fun D σ H=>ta σ H fun x H1=>∃a C dx fs v,x=.ref a/\H1 a=some (.ins C dx fs)/\pq K C/\cO K C f/\fs.lookup f=some v /\
 tv σ H1 fun y H2=>rd v y H2 fun z H3=>∃FR y7,H3 a=some (.ins C FR y7)/\y7.length<1000/\D.nx σ (upd H3 a (.ins C FR (fM f z y7)))
section
variable{X:Cx}{o e value:Expr}{f:Str}{pos pos' AN:Pos}{ta tv:TE}
def DJ (he:PE X e ta)(hb:Ss e f X.env (eval e X.env)=eval e X.env):PE X (.Attribute e f pos) (IA X.K ta f):=by
 intro pins s σ H Q I h
 show yK hb (bw (he pins s σ H _ I h) fun u s1 h9=>?_)
 obtain⟨x,H1,I1,rx,a,C,dx,fs,v,ex,ea,c,n,l,q⟩:=h9
 subst ex
 obtain rfl:u=R6 a:=rx
 show kD I1 ea c n l fun u' s2 I2 ru=>⟨v,H1,I2,ru,q⟩
def D8 (ha:PE X o ta)(hv:PE X value tv)(hs:Tw value (some (.Attribute o f pos')) pos.line X.env=pure false):PS X (.Assign [.Attribute o f pos'] value pos) (Ih X.K ta tv f):=by
 intro pins s σ H D I h
 show plainObj_wpAny_Assign_Attribute (bw (hv pins s σ H _ I h) fun u s1 g9=>?_) hs
 obtain⟨y,H1,I1,ry,q⟩:=g9
 show bw (ha pins s1 σ H1 _ I1 q) fun ov s2 h9=>?_
 obtain⟨x,H2,I2,rx,a,C,dx,fs,ex,ea,c,n,l,q2⟩:=h9
 subst ex
 obtain rfl:ov=R6 a:=rx
 show kX I2 ea c n l ry fun s3 I3=>⟨σ,_,I3,q2⟩
def uA {op:V5}{rd:V->V->Hp->VK->Prop}(ha:PE X o ta)(hv:PE X value tv)(hop:Fw X op rd):PS X (.AugAssign (.Attribute o f AN) op value pos) (rR X.K ta tv rd f):=by
 intro pins s σ H D I h
 show wpAny_AugAssign_AttributeAny (bw (ha pins s σ H _ I h) fun ov s1 h9=>?_)
 obtain⟨x,H1,I1,rx,a,C,dx,fs,v,ex,ea,c,n,l,q⟩:=h9
 subst ex
 obtain rfl:ov=R6 a:=rx
 show kD I1 ea c n l fun u s2 I2 ru=>bw (hv pins s2 σ H1 _ I2 q) fun w3 s3 g9=>?_
 obtain⟨y,H2,I3,ry,q3⟩:=g9
 show bw (hop pins s3 σ H2 v y u w3 _ I3 ru ry q3) fun w4 s4 h9=>?_
 obtain⟨z,H3,I4,rz,FR,y7,N0,l',q4⟩:=h9
 show kX I4 N0 c n l' rz fun s5 I5=>⟨σ,_,I5,q4⟩
def HN:V->V->Hp->VK->Prop:=fun x y H Q=>∃i j,x=.int i/\y=.int j/\Q (.int (i+j)) H
def CN:Fw X .Add HN:=by
 rintro pins s σ H x y u v Q I rx ry ⟨i,j,rfl,rfl,q⟩
 obtain⟨t,rfl⟩:=(show ∃t,u=UL i t from rx)
 obtain⟨t',rfl⟩:=(show ∃t',v=UL j t' from ry)
 show PyProof.Rows.iadd_int ⟨.int (i+j),H,I.tok _,⟨_,U⟩,q⟩
end
structure bY (k:Nat)(A:Around):Prop where
 hd:A.handled=none
 dp:A.depth+3*k+5<recursionLimit
 un:A.units+16*k+200<cLine
def bY.mono {j k:Nat}{A:Around}(r:bY k A)(h:j<=k):bY j A:=⟨r.hd,by have:=r.dp;lia,by have:=r.un;lia⟩
def bY.deeper {k:Nat}{A:Around}(r:bY (k+1) A)(env:Env):bY k (A.deeper env):=
 ⟨r.hd,by have:=r.dp;change A.depth+1+3*k+5<_;lia,by have:=r.un;change A.units+3+16*k+200<_;lia⟩
def qa {A:Around}{C:Addr}{us:List Value}{kw:List (Str×Value)}:(A.under (.builtin "type.__call__" ⟨.ref C::us,kw⟩)).depth=A.depth+1:=by
 first|rfl|simp[Wa,Code.weight,Code.isCreation,Code.isGuard,Code.isCaller,Code.frames,Wi,guardIds]
def qc {A:Around}{C:Addr}{us:List Value}{kw:List (Str×Value)}:(A.under (.builtin "type.__call__" ⟨.ref C::us,kw⟩)).units=A.units+1:=by
 first|rfl|simp[Wa,Code.cUnits,Code.frames,Wi]
def bY.make {k:Nat}{A:Around}(r:bY (k+1) A)(C:Addr)(us:List Value)(kw:List (Str×Value)):bY k (A.under (.builtin "type.__call__" ⟨.ref C::us,kw⟩)):=
 ⟨r.hd,by have:=r.dp;rw[qa];lia,by have:=r.un;rw[qc];lia⟩
def bY.depth {k:Nat}{A:Around}(r:bY k A):A.depth<recursionLimit:=by have:=r.dp;lia
def bY.units {k:Nat}{A:Around}(r:bY k A):A.units+64<cLine:=by have:=r.un;lia
def yn:TA:=fun z H Q=>Q [] H
def yl (ta:TE)(tr:TA):TA:=fun σ H Q=>ta σ H fun x H1=>tr σ H1 fun xs H2=>Q (x::xs) H2
section
variable{X:Cx}{e:Expr}{es:List Expr}{te:TE}{t:TA}{pos:Pos}
def DC:PA X [] yn:=fun z z z z H Q I h=>Tc ⟨[],H,I,.nil,h⟩
def zZ (ha:PE X e te)(hr:PA X es t)(hs:starEach (e::es) X.env=(false,eval e X.env)::starEach es X.env:=by rfl):PA X (e::es) (yl te t):=by
 intro pos pins s σ H Q I h
 rw[hs]
 change wpAny _ _ (spliced ((false,eval e X.env)::backTo pos (starEach es X.env))) _ _ s
 show Su (bw (ha pins s σ H _ I h) fun u s1 h9=>?_)
 obtain⟨x,H1,I1,r1,q1⟩:=h9
 show bw (hr pos pins s1 σ H1 _ I1 q1) fun us s2 h9=>?_
 obtain⟨xs,H2,I2,r2,q2⟩:=h9
 show⟨x::xs,H2,I2,.cons r1 r2,q2⟩
def EN (t:TA):TE:=fun σ H Q=>t σ H fun xs H1=>xs.length<=sizeLine/\∀p,H1 p=none->Q (.ref p) (upd H1 p (.tup xs))
def EL (t:TA):TE:=fun σ H Q=>t σ H fun xs H1=>xs.length<=sizeLine/\∀p,H1 p=none->Q (.ref p) (upd H1 p (.lst xs))
def DR {x1}(h:PA X es t):PE X (.Tuple es x1 pos) (EN t):=by
 intro pins s σ H Q I hq
 show wpAny_Tuple_spliced (bw (h pos pins s σ H _ I hq) fun us s1 g9=>?_)
 obtain⟨xs,H1,I1,r,z,q⟩:=g9
 show⟨by rw[← r.length];show z,?_⟩
 have hf:H1 s1.heap.objs.size=none:=I1.hok.fresh (Rz _)
 show⟨.ref s1.heap.objs.size,upd H1 s1.heap.objs.size (.tup xs),I1.laid (t':=s1.toks) (fun b u e=>Rr _ e) (Rz _) ?_,U,q _ hf⟩
 show⟨z,us,r,⟨_,RK _ rfl,U,_,U⟩⟩
def DO (h:PA X es t):PE X (.List es pos) (EL t):=by
 intro pins s σ H Q I hq
 show wpAny_List_spliced (bw (h pos pins s σ H _ I hq) fun us s1 g9=>?_)
 obtain⟨xs,H1,I1,r,z,q⟩:=g9
 show⟨by rw[← r.length];show z,?_⟩
 have hf:H1 s1.heap.objs.size=none:=I1.hok.fresh (Rz _)
 show⟨.ref s1.heap.objs.size,upd H1 s1.heap.objs.size (.lst xs),I1.laid (t':=s1.toks) (fun b u e=>Rr _ e) (Rz _) ?_,U,q _ hf⟩
 show⟨z,us,0,r,RK _ rfl⟩
end
abbrev Sp:=List V->Hp->VK->XK->Prop
abbrev uT:=List Env->Hp->Shared->XK->Value->Shared->Prop
structure pD (P:Program)(w:World)(K:Ro)(mg:Str->Option Value)(base:Heap)(A:Around)(outer:List Env)(s:Shared)(H:Hp):Prop where
 frames:A.frames=some outer
 mod:Mod K mg base
 bs:∀b o,base.get? b=some o->s.heap.get? b=some o/\H b=none
 bsz:base.objs.size<=s.heap.objs.size
 ib:s.heap.FunFrames base outer
 frf:∀b∈dH outer,H b=none
 hok:fW P w H s.heap
 bare:AllBare s.gens
def CE (outer:List Env)(P:Program)(w:World)(H:Hp)(s:Shared)(Q:VK)(u:Value)(s':Shared):Prop:=
 ∃v H',s'.os=s.os/\AllBare s'.gens/\Un (dH outer) [] H H' s.heap s'.heap/\fW P w H' s'.heap/\RelV v u/\Q v H'
def CR (CX:uT)(outer:List Env)(P:Program)(w:World)(H:Hp)(s:Shared)(Q:VK)(E:XK)(r:Result)(s':Shared):Prop:=
 match r with
 | .ok (.ret u)=>CE outer P w H s Q u s'
 | .ok _=>False
 | .error e=>CX outer H s E e s'
structure aY (P:Program)(w:World)(K:Ro)(mg:Str->Option Value)(base:Heap)(CX:uT)(k:Nat)(f:Addr)(fd:RZ)(ps:List Str)(sp:Sp):Prop where
 len:∀vs H Q E,sp vs H Q E->vs.length=ps.length
 run:∀(A:Around) (outer:List Env) (s:Shared) (H:Hp) (args:Args) (us:List Value) (vs:List V) (Q:VK) (E:XK),bY k A->pD P w K mg base A outer s H->BindsTo s fd args (ps.zip us)->Vals vs us->sp vs H Q E ->
   codeAny (model P w) A (.call (.ref f) args) (CR CX outer P w H s Q E) s
def aY.mono {P:Program}{w:World}{K:Ro}{mg:Str->Option Value}{base:Heap}{CX:uT}{j k:Nat}{f:Addr}{fd:RZ}{ps:List Str}{sp:Sp}(F:aY P w K mg base CX j f fd ps sp)(h:j<=k) :
   aY P w K mg base CX k f fd ps sp:=⟨F.len,fun A outer s H args us vs Q E hr=>F.run A outer s H args us vs Q E (hr.mono h)⟩
def pD.make {P:Program}{w:World}{K:Ro}{mg:Str->Option Value}{base:Heap}{A:Around}{outer:List Env}{s:Shared}{H:Hp}(e:pD P w K mg base A outer s H)(C:Addr)(us:List Value)(kw:List (Str×Value)) :
   pD P w K mg base (A.under (.builtin "type.__call__" ⟨.ref C::us,kw⟩)) outer s H:=⟨by first|show e.frames|(simpa[Wa,Code.envs,Wi,pushEnvs]using e.frames),e.mod,e.bs,e.bsz,e.ib,e.frf,e.hok,e.bare⟩
section
variable{X:Cx}{pins:List (Addr×Obj)}{σ:St}{H:Hp}{s s':Shared}
def Inv.FU (I:Inv X pins σ H s):pD X.prog X.w X.K X.mg X.base X.A X.stack s H:=
 ⟨I.ok.frames,I.ok.mod,I.bs,Ry I.ok.bsz I.sz,I.stack,I.n6,I.hok,I.bare⟩
def Inv.after {Q:VK}{u:Value}(I:Inv X pins σ H s)(h:CE X.stack X.prog X.w H s Q u s'):EP X pins σ Q u s':=by
 obtain⟨v,H',os,bare,un,hok,r,q⟩:=h
 obtain⟨hh,g,d,t,Ql⟩:=s'
 obtain rfl:Ql=s.os:=os
 show⟨v,H',I.call (h':=hh) (g':=g) (d':=d) (t':=t) (ch:=[]) un hok bare (fun b z=>au z (by simp)),r,q⟩
end
def sA (sp:Sp)(dvs:List V)(E:XK)(t:TA):TE:=fun σ H Q=>t σ H fun vs H1=>sp (vs++dvs) H1 Q E
def sC (C:Addr)(m:Str)(sp:Sp)(dvs:List V)(E:XK)(ta:TE)(t:TA):TE:=fun σ H Q=>ta σ H fun x H1=>∃a dx fs,x=.ref a/\H1 a=some (.ins C dx fs)/\fs.lookup m=none /\
 t σ H1 fun vs H2=>sp (x::(vs++dvs)) H2 Q E
def BV (C:Addr)(sp:Sp)(dvs:List V)(E:XK)(t:TA):TE:=fun σ H Q=>t σ H fun vs H1=>∀x dx,H1 x=none->H1 dx=none->dx≠x ->
 sp (.ref x::(vs++dvs)) (upd (upd H1 dx (.own x)) x (.ins C dx [])) (fun v H2=>v=.bI/\Q (.ref x) H2) E
def Binds (K:Ro)(fd:RZ)(ps:List Str)(ds:List Value):Prop:=
 ∀(s:Shared) (us:List Value),K.In s.heap->(us++ds).length=ps.length->BindsTo s fd ⟨us,[]⟩ (ps.zip (us++ds))
def Binds.all {K:Ro}{fd:RZ}{ps:List Str}(h:∀us:List Value,us.length=ps.length->V3 fd ⟨us,[]⟩=pure (ps.zip us)):Binds K fd ps []:=fun s us z hl=>by
 rw[RY]at hl ⊢
 show .of_eq (h us hl)
def Passes (CX:uT)(X:Cx)(E:XK):Prop:=∀(pins:List (Addr×Obj)) (σ:St) (H:Hp) (s:Shared) (e:Value) (s':Shared),Inv X pins σ H s->CX X.stack H s E e s'->X.xe e s'
section
variable{X:Cx}{CX:uT}{k:Nat}{f C:Addr}{fd:RZ}{ps:List Str}{sp:Sp}{dvs:List V}{ds:List Value}{E:XK}{x m:Str}{p pos apos:Pos}{e o:Expr}{es:List Expr}{ta:TE}{t:TA}
def qx {pins:List (Addr×Obj)}{σ:St}{H:Hp}{s:Shared}{Q:VK}{us:List Value}{vs:List V}(F:aY X.prog X.w X.K X.mg X.base CX k f fd ps sp)(hr:bY k X.A)(hb:Binds X.K fd ps ds)(hd:Vals dvs ds)(hx:Passes CX X E)
   (I:Inv X pins σ H s) (r:Vals vs us) (h:sp (vs++dvs) H Q E):wpAny (model X.prog X.w) X.A (call (.ref f) us) (EP X pins σ Q) X.xe s:=by
 have r2:Vals (vs++dvs) (us++ds):=r.append hd
 have hl:(us++ds).length=ps.length:=by rw[← r2.length];show F.len _ _ _ _ h
 show wpAny_call (codeAny_mono (F.run X.A X.stack s H ⟨us,[]⟩ (us++ds) (vs++dvs) Q E hr I.FU (hb s us I.lM hl) r2 h) fun r s' hq=>?_)
 cases r with
 | error e=>show hx pins σ H s e s' I hq
 | ok fl=>
   cases fl with
   | ret u=>show I.after hq
   | next=>show Tb hq
   | brk=>show Tb hq
   | cont=>show Tb hq
def rL (F:aY X.prog X.w X.K X.mg X.base CX k f fd ps sp)(hr:bY k X.A)(hg:Gl X x)(hm:X.mg x=some (.ref f))(hk:Tf X.K (.ref f)=true)(hb:Binds X.K fd ps ds)(hd:Vals dvs ds)(hx:Passes CX X E)
   (ha:PA X (e::es) t) (hdb:(x==("__debug__":Str))=false:=by left) (he:starEach (e::es) X.env=(false,eval e X.env)::starEach es X.env:=by rfl) (hpl:(backTo pos (starEach es X.env)).any (·.1)=false:=by rfl) :
   PE X (.Call (.Name x p) (e::es) [] pos) (sA sp dvs E t):=by
 intro pins s σ H Q I h
 show wpAny_Call_Name_kw (iP I hg hm ?_ hdb)
 show U5 (h₀:=X.base) I.ok.mod.kin hk (bw (ha pos pins s σ H _ I h) fun us s1 g9=>?_) he hpl
 obtain⟨vs,H1,I1,r,q⟩:=g9
 show⟨I1.lM,?_⟩
 show qx F hr hb hd hx I1 r q
def Ad {pl:Sem Bool}(he:PE X o ta)(c:pq X.K C)(hm:Meth X.K C m f)(F:aY X.prog X.w X.K X.mg X.base CX k f fd ps sp)(hr:bY k X.A)(hb:Binds X.K fd ps ds)(hd:Vals dvs ds)(hx:Passes CX X E)(ha:PA X (e::es) t)
   (hst:starEach (e::es) X.env=(false,eval e X.env)::starEach es X.env:=by rfl) (hpl:(backTo pos (starEach es X.env)).any (·.1)=false:=by rfl)
   (ht:eval (.Call (.Attribute o m apos) (e::es) [] pos) X.env=(do
     let ov←eval o X.env
     standAt apos.atName
     let(f,first)←holding [ov] (getMethod ov m pl)
     callWith pos f first (backTo pos (starEach (e::es) X.env)) (backToKw pos (keywordEach [] X.env))):=by rfl) :
   PE X (.Call (.Attribute o m apos) (e::es) [] pos) (sC C m sp dvs E ta t):=by
 intro pins s σ H Q I h
 show VY (pl:=pl) (bw (he pins s σ H _ I h) fun u s1 h9=>?_) ht
 obtain⟨x,H1,I1,rx,a,dx,fs,ex,ea,l,q⟩:=h9
 subst ex
 obtain rfl:u=R6 a:=rx
 show kE I1 ea c hm l ?_
 show U5 (first:=[.ref a]) (h₀:=X.base) I.ok.mod.kin hm.kp (bw (ha pos pins s1 σ H1 _ I1 q) fun us s2 g9=>?_) hst hpl
 obtain⟨vs,H2,I2,r,q2⟩:=g9
 show⟨I2.lM,?_⟩
 show qx (us:=.ref a::us) (vs:=.ref a::vs) F hr hb hd hx I2 (.cons rfl r) q2
def xp {pl:Sem Bool}(he:PE X o ta)(c:pq X.K C)(hm:Meth X.K C m f)(F:aY X.prog X.w X.K X.mg X.base CX k f fd ps sp)(hr:bY k X.A)(hb:Binds X.K fd ps ds)(hd:Vals dvs ds)(hx:Passes CX X E)
   (ht:eval (.Call (.Attribute o m apos) [] [] pos) X.env=(do
     let ov←eval o X.env
     standAt apos.atName
     let(f,first)←holding [ov] (getMethod ov m pl)
     callWith pos f first (backTo pos (starEach [] X.env)) (backToKw pos (keywordEach [] X.env))):=by rfl) :
   PE X (.Call (.Attribute o m apos) [] [] pos) (sC C m sp dvs E ta yn):=by
 intro pins s σ H Q I h
 show VY (pl:=pl) (bw (he pins s σ H _ I h) fun u s1 h9=>?_) ht
 obtain⟨x,H1,I1,rx,a,dx,fs,ex,ea,l,q⟩:=h9
 subst ex
 obtain rfl:u=R6 a:=rx
 show kE I1 ea c hm l ?_
 show PySem.W.callWith_K0 (first:=[.ref a]) I1.lM hm.kp (qx (us:=[.ref a]) (vs:=[.ref a]) F hr hb hd hx I1 (.cons rfl .nil) q)
structure Mk (K:Ro)(C f:Addr):Prop where
 makes:PySem.W.makesIn K C=true
 init:Sw K (.ref C) "__init__"=some (some (.ref f))
 fn:VZ K (.ref f)=true
 kp:Tf K (.ref C)=true
def xM {pins:List (Addr×Obj)}{σ:St}{H:Hp}{s:Shared}{Q:VK}{us:List Value}{vs:List V}(M8:Mk X.K C f)(F:aY X.prog X.w X.K X.mg X.base CX k f fd ps sp)(hr:bY (k+1) X.A)(hb:Binds X.K fd ps ds)(hd:Vals dvs ds)
   (hx:Passes CX X E) (I:Inv X pins σ H s) (r:Vals vs us)
   (h:∀x dx,H x=none->H dx=none->dx≠x->sp (.ref x::(vs++dvs)) (upd (upd H dx (.own x)) x (.ins C dx [])) (fun v H2=>v=.bI/\Q (.ref x) H2) E) :
   wpAny (model X.prog X.w) X.A (call (.ref C) us) (EP X pins σ Q) X.xe s:=by
 have hq:=h (s.heap.objs.size+1) s.heap.objs.size (I.hok.fresh (Ve _)) (I.hok.fresh (Rz _)) (R1 (Tq _))
 have I2:=Inv.made (C:=C) I
 have r2:Vals (V.ref (s.heap.objs.size+1)::(vs++dvs)) (R6 (s.heap.objs.size+1)::(us++ds)):=.cons rfl (r.append hd)
 have hl:(R6 (s.heap.objs.size+1)::us++ds).length=ps.length:=by
   have e:=r2.length
   rw[F.len _ _ _ _ hq]at e
   show e.symm
 show wpAny_call (wg (f:=f) I.lM M8.makes M8.init (beq_iff_eq.mp M8.fn) (codeAny_mono (F.run _ X.stack _ _ ⟨R6 (s.heap.objs.size+1)::us,[]⟩ (R6 (s.heap.objs.size+1)::(us++ds)) _ _ E (hr.make C us [])
   (I2.FU.make C us []) (hb _ (R6 (s.heap.objs.size+1)::us) I2.lM hl) r2 hq) fun r s' Gy=>?_))
 cases r with
 | error e=>show hx pins σ _ _ e s' I2 Gy
 | ok fl=>
   cases fl with
   | ret u=>
     obtain⟨v,H',I3,rv,ev,q3⟩:=I2.after Gy
     subst ev
     show⟨rv,⟨V.ref (s.heap.objs.size+1),H',I3,U,q3⟩⟩
   | next=>show Tb Gy
   | brk=>show Tb Gy
   | cont=>show Tb Gy
def Ac (M8:Mk X.K C f)(F:aY X.prog X.w X.K X.mg X.base CX k f fd ps sp)(hr:bY (k+1) X.A)(hg:Gl X x)(hm:X.mg x=some (.ref C))(hb:Binds X.K fd ps ds)(hd:Vals dvs ds)(hx:Passes CX X E)
   (ha:PA X (e::es) t) (hdb:(x==("__debug__":Str))=false:=by left) (he:starEach (e::es) X.env=(false,eval e X.env)::starEach es X.env:=by rfl) (hpl:(backTo pos (starEach es X.env)).any (·.1)=false:=by rfl) :
   PE X (.Call (.Name x p) (e::es) [] pos) (BV C sp dvs E t):=by
 intro pins s σ H Q I h
 show wpAny_Call_Name_kw (iP I hg hm ?_ hdb)
 show U5 (h₀:=X.base) I.ok.mod.kin M8.kp (bw (ha pos pins s σ H _ I h) fun us s1 g9=>?_) he hpl
 obtain⟨vs,H1,I1,r,q⟩:=g9
 show⟨I1.lM,?_⟩
 show xM M8 F hr hb hd hx I1 r q
end
structure aC (N P:List Str)(sc:Scope):Prop where
 kind:sc.kind=.function
 co:sc.isCoroutine=false
 gen:sc.isGenerator=false
 nd:N.Nodup
 pre:N.take P.length=P
 par:∀x∈P,sc.names.lookup x=some .local\/sc.names.lookup x=some .cell
 nofree:∀y∈sc.names,y.2≠.free
def eU {N P:List Str}{sc:Scope}(a:sc.kind=.function:=by rfl)(b:sc.isCoroutine=false:=by rfl)(c:sc.isGenerator=false:=by rfl)(d:N.Nodup:=by right)(e:N.take P.length=P:=by rfl)(f:∀x∈P,sc.names.lookup x=some .local\/sc.names.lookup x=some .cell:=by right)(g:∀y∈sc.names,y.2≠.free:=by right):aC N P sc:=⟨a,b,c,d,e,f,g⟩
theorem lZ {kindOf:Str->Option Ua}{x:Str}:∀{binds:List (Str×Value)} {m:Str->Option Value},(∀v,(x,v)∉binds)->bindL kindOf binds m x=m x
 | [],_,_=>rfl
 | (n,v)::r,m,h=>by
   unfold bindL
   rw[lZ fun w hw=>h w (RC _ hw)]
   split
   . have:x≠n:=by rintro rfl;show h v Ru
     simp[this]
   . rfl
theorem lX {kindOf:Str->Option Ua}{x:Str}:∀{binds:List (Str×Value)} {m:Str->Option Value},(∀v,(x,v)∉binds)->bindC kindOf binds m x=m x
 | [],_,_=>rfl
 | (n,v)::r,m,h=>by
   unfold bindC
   rw[lX fun w hw=>h w (RC _ hw)]
   split
   . rfl
   . have:x≠n:=by rintro rfl;show h v Ru
     simp[this]
theorem lY {kindOf:Str->Option Ua}{x:Str}{v:Value}:∀{P:List Str} {vs:List Value} {i:Nat} {m:Str->Option Value},P.Nodup->P[i]?=some x->vs[i]?=some v->kindOf x=some .local ->
   bindL kindOf (P.zip vs) m x=some v
 | [],_,_,_,_,h,_,_=>by simp at h
 | _::_,[],_,_,_,_,h,_=>by simp at h
 | p::P,w::vs,0,m,nd,h1,h2,hk=>by
   simp at h1 h2;subst h1;subst h2
   change bindL kindOf ((p,w)::P.zip vs) m p=_
   unfold bindL
   rw[lZ fun v hv=>(List.nodup_cons.mp nd).1 (UR hv).1,dI hk]
   simp
 | p::P,w::vs,i+1,m,nd,h1,h2,hk=>by
   change bindL kindOf ((p,w)::P.zip vs) m x=_
   unfold bindL
   show lY (i:=i) (List.nodup_cons.mp nd).2 (by simpa using h1) (by simpa using h2) hk
theorem lW {kindOf:Str->Option Ua}{x:Str}{v:Value}:∀{P:List Str} {vs:List Value} {i:Nat} {m:Str->Option Value},P.Nodup->P[i]?=some x->vs[i]?=some v->kindOf x≠some .local ->
   bindC kindOf (P.zip vs) m x=some v
 | [],_,_,_,_,h,_,_=>by simp at h
 | _::_,[],_,_,_,_,h,_=>by simp at h
 | p::P,w::vs,0,m,nd,h1,h2,hk=>by
   simp at h1 h2;subst h1;subst h2
   change bindC kindOf ((p,w)::P.zip vs) m p=_
   unfold bindC
   rw[lX fun v hv=>(List.nodup_cons.mp nd).1 (UR hv).1,dh hk]
   simp
 | p::P,w::vs,i+1,m,nd,h1,h2,hk=>by
   change bindC kindOf ((p,w)::P.zip vs) m x=_
   unfold bindC
   show lW (i:=i) (List.nodup_cons.mp nd).2 (by simpa using h1) (by simpa using h2) hk
def start (N:List Str)(vs:List V):St:=vs.map some++VQ (N.length-vs.length) none
def cY (CX:uT)(P:Program)(w:World)(K:Ro)(mg:Str->Option Value)(base:Heap)(N:List Str)(qual:Str)(scope:Scope)(f:Addr)(cd:Value)(A:Around)(outer:List Env)(s:Shared)(H:Hp)(E:XK):Cx where
 prog:=P
 w:=w
 K:=K
 mg:=mg
 base:=base
 A:=A.deeper (envOfC qual scope s.heap.objs.size f cd)
 N:=N
 s₀:=s
 H₀:=H
 env:=envOfC qual scope s.heap.objs.size f cd
 outer:=outer
 stack:=envOfC qual scope s.heap.objs.size f cd::outer
 ex:=[]
 calm:=true
 fn:=fun z=>true
 pn:=[]
 xe:=fun e s'=>wpAny (model P w) (A.deeper (envOfC qual scope s.heap.objs.size f cd)) (leaving (envOfC qual scope s.heap.objs.size f cd) e) (fun z Ep=>CX outer H s E e Ep) (fun e' Ep=>CX outer H s E e' Ep) s'
def ot {sc:Scope}{n:Nat}{x:Str}(h:sc.names.lookup x=some .cell):∃c,(cellsFrom n sc.names []).lookup x=some c:=by
 have q:=VM sc.names n [] (.inl h)
 show Option.isSome_iff_exists.mp q
def tW {CX:uT}{P:Program}{w:World}{K:Ro}{mg:Str->Option Value}{base:Heap}{N ps:List Str}{qual:Str}{scope:Scope}{f:Addr}{cd:Value}{A:Around}{outer:List Env}{s s1:Shared}{H:Hp}{E:XK}{us:List Value}{vs:List V}
   (S:aC N ps scope) (hd:A.handled=none) (e0:pD P w K mg base A outer s H) (hl:vs.length=ps.length) (r:Vals vs us)
   (x:InCallC s s.heap.objs.size (bindL (envOfC qual scope s.heap.objs.size f cd).kindOf (ps.zip us) fun t=>none) (cellsFrom (s.heap.objs.size+1) scope.names []) (bindC (envOfC qual scope s.heap.objs.size f cd).kindOf (ps.zip us) fun t=>none) s1) :
   Inv (cY CX P w K mg base N qual scope f cd A outer s H E) [] (start N vs) H s1:=by
 have hpl:ps.length<=N.length:=by have:=congrArg List.length S.pre;rw[R8]at this;lia
 obtain⟨h1,tk,rfl,hk⟩:=x.done
 have noA:∀b:Addr,b∉(cY CX P w K mg base N qual scope f cd A outer s H E).ex:=fun b z=>au (show b∈([]:List Addr)from z) (by simp)
 show⟨⟨e0.mod,S.kind,U,U,Rz _,fun y z c h1 h2=>?_,fun y hy=>?_,fun y c t h=>?_,fun t=>hd,Around.frames_deeper e0.frames,.inr ⟨U,U⟩,fun b z=>au z (noA b),e0.bs,e0.bsz,fun b t t=>noA b,fun b z=>au z (noA b),e0.ib,e0.frf⟩,
   rfl,e0.bare,Un.kept hk,⟨_,x.toInCall.ns,fun i y v h1 h2 h3=>?_⟩,fun y c h=>⟨_,x.cell y c h⟩,e0.hok.fresh (Rz _),fun y c h=>?_,fun p hp=>au (show p∈([]:List (Addr×Obj))from hp) (by simp),e0.hok.kept hk,?_⟩
 . show name_of_addr x.apart (Sm h1) (Sm h2)
 . have hy:scope.names.lookup y=some .cell\/scope.names.lookup y=some .free:=hy
   rcases hy with hy|hy
   . show ot hy
   . show au rfl (S.nofree _ (Sm hy))
 . show S3 (x.above y c (Sm h))
 . have hi:i<vs.length:=by
     unfold start at h2
     by_cases hi:i<vs.length
     . show hi
     . rw[Uk (by simpa using hi)]at h2
       rw[V7]at h2
       split at h2<;>cases h2
   have ha:vs[i]?=some v:=by
     unfold start at h2
     rw[VR (by simpa using hi),Sb]at h2
     cases e:vs[i]? with
     | none=>rw[e]at h2;cases h2
     | some a=>rw[e]at h2;cases h2;rfl
   obtain⟨u,hu,rv⟩:=r.get ha
   have hp:ps[i]?=some y:=by
     rw[← S.pre,List.getElem?_take_of_lt (by lia)];show h1
   have MO:ps.Nodup:=by rw[← S.pre];show S.nd.sublist (List.take_sublist _ _)
   show⟨u,rv,?_⟩
   rcases S.par y (RL hp)with k|k
   . show .inl ⟨k,lY MO hp hu k⟩
   . obtain⟨c,e⟩:=ot (n:=s.heap.objs.size+1) k
     show .inr ⟨.inl k,c,e,?_⟩
     have q:=x.cell y c e
     rw[lW MO hp hu (by change scope.names.lookup y≠_;rw[k];decide)]at q
     show q
 . show e0.hok.fresh (S3 (x.above y c (Sm h)))
 . unfold start
   change _=N.length
   rw[Rx,Rn,US]
   lia
def A2 {CX:uT}{P:Program}{w:World}{K:Ro}{mg:Str->Option Value}{base:Heap}{k:Nat}{f:Addr}{name qual:Str}{params:Arguments}{body:List Stmt}{scope:Scope}{dV kV doc pm cdv ct oc:Value}{an od:Option Addr}
   {osl:Array (Option Value)} {N ps:List Str} {sp:Sp} (lk:K.lookup f=some ⟨oc,od,.func (S6 name qual params body scope dV kV doc pm an cdv ct),osl⟩) (hcd:UO K cdv qual=true) (S:aC N ps scope)
   (len:∀vs H Q E,sp vs H Q E->vs.length=ps.length)
   (hbody:∀(A:Around) (outer:List Env) (s:Shared) (H:Hp) (vs:List V) (Q:VK) (E:XK),bY k (A.deeper (envOfC qual scope s.heap.objs.size f cdv))->sp vs H Q E ->
     ∃t,lD (cY CX P w K mg base N qual scope f cdv A outer s H E) body t/\t {nx:=fun z H'=>Q .bI H',rt:=Q} (start N vs) H) :
   aY P w K mg base CX (k+1) f (S6 name qual params body scope dV kV doc pm an cdv ct) ps sp:=by
 show⟨len,fun A outer s H args us vs Q E hr e0 hb r hsp=>?_⟩
 have hl:=len _ _ _ _ hsp
 have KX:K.In s.heap:=e0.mod.kin.keeps fun b o e=>(e0.bs b o e).1
 have lim:s.heap.NoLimit:=e0.mod.nolimit.keeps fun b o e=>(e0.bs b o e).1
 have Gq:∀y∈ps.zip us,scope.names.lookup y.1=some .local\/(scope.names.lookup y.1=some .cell/\((cellsFrom (s.heap.objs.size+1) scope.names []).lookup y.1).isSome=true):=fun⟨n,v⟩ hy=>by
   rcases S.par n (UR hy).1 with q|q
   . show .inl q
   . show .inr ⟨q,VM _ _ _ (.inl q)⟩
 show codeAny_call_function hr.depth (KX _ _ lk) rfl S.co S.gen rfl (PySem.W.codeRec_of KX hcd) (hb _ _ _ _ ?_)
 show wpAny_newFunctionEnv_cells S.kind Gq fun env he s1 x=>?_
 subst he
 show⟨lim.keeps x.toInCall.keep,codeAny_func ?_⟩
 obtain⟨t,ht,hq⟩:=hbody A outer s H vs Q E (hr.deeper _) hsp
 have I:Inv (cY CX P w K mg base N qual scope f cdv A outer s H E) [] (start N vs) H s1:=tW S hr.hd e0 hl r x
 show wpAny_mono (ht [] s1 (start N vs) H _ I hq) (fun fl s' hs=>?_) fun e s' hs=>hs
 have fin:∀{σ':St} {H':Hp} {v:V} {u:Value},Inv (cY CX P w K mg base N qual scope f cdv A outer s H E) [] σ' H' s'->RelV v u->Q v H'->CE outer P w H s Q u s':=
   fun{σ' H' v u} J rv q=>⟨v,H',J.os,J.bare,J.base,J.hok,rv,q⟩
 cases fl with
 | ret u=>
   obtain⟨v,σ',H',J,rv,q⟩:=hs
   show fin J rv q
 | next=>
   obtain⟨σ',H',J,q⟩:=hs
   show fin (v:=V.bI) (u:=SH) J rfl q
 | brk=>
   obtain⟨_,_,_,q⟩:=hs
   show Tb q
 | cont=>
   obtain⟨_,_,_,q⟩:=hs
   show Tb q
section
variable{X:Cx}{x:Str}{p pos:Pos}{e:Expr}{es:List Expr}{t:TA}{id T:String}{r:List V->Hp->VK->Prop}
def Fn (r:List V->Hp->VK->Prop)(t:TA):TE:=fun σ H Q=>t σ H fun vs H1=>r vs H1 Q
def xk (hc:dz X (.builtin id) r)(hg:Gl X x)(hm:X.mg x=none)(hv:SJ x=some (.builtin id))(ha:PA X (e::es) t)(hn:x≠"__name__":=by left)(hdb:(x==("__debug__":Str))=false:=by left)
   (he:starEach (e::es) X.env=(false,eval e X.env)::starEach es X.env:=by rfl) (hpl:(backTo pos (starEach es X.env)).any (·.1)=false:=by rfl):PE X (.Call (.Name x p) (e::es) [] pos) (Fn r t):=by
 intro pins s σ H Q I h
 show wpAny_Call_Name_kw (fF I hg hm hv ?_ hn hdb)
 show U0 (bw (ha pos pins s σ H _ I h) fun us s1 h9=>?_) he hpl
 obtain⟨vs,H1,I1,r1,q1⟩:=h9
 show hc pins s1 σ H1 vs us Q I1 r1 q1
def uw (hc:dz X (.type T) r)(hg:Gl X x)(hm:X.mg x=none)(hv:SJ x=some (.type T))(ha:PA X (e::es) t)(hn:x≠"__name__":=by left)(hdb:(x==("__debug__":Str))=false:=by left)
   (he:starEach (e::es) X.env=(false,eval e X.env)::starEach es X.env:=by rfl) (hpl:(backTo pos (starEach es X.env)).any (·.1)=false:=by rfl):PE X (.Call (.Name x p) (e::es) [] pos) (Fn r t):=by
 intro pins s σ H Q I h
 show wpAny_Call_Name_kw (fF I hg hm hv ?_ hn hdb)
 show SY (bw (ha pos pins s σ H _ I h) fun us s1 h9=>?_) he hpl
 obtain⟨vs,H1,I1,r1,q1⟩:=h9
 show hc pins s1 σ H1 vs us Q I1 r1 q1
end
end L2
namespace HT
open PySem PyProof.Rows
section
variable{prog:Program}{w:World}{A:Around}{E:Value->Shared->Prop}{s:Shared}
def yP {t b:Addr}{vs ws:List Value}{Q:Value->Shared->Prop}(ht:IsTup s.heap t vs.toArray)(hb:IsTup s.heap b ws.toArray)(hv:vs≠[])
   (h1:ws=[]->Q (.ref t) s) (h2:ws≠[]->Q (.ref s.heap.objs.size) {s with heap:=s.heap.push {cls:=.type "tuple",data:=.seq (vs++ws).toArray} })
   (hsz:vs.length+ws.length<=sizeLine):wpAny (model prog w) A (binaryOp .Add (.ref t) (.ref b)) Q E s:=by
 obtain⟨⟨cls,dd,data,sl⟩,ho,hc,n,hd⟩:=id ht
 obtain⟨⟨NW,L6,data2,EA⟩,jm,zh,n2,hd2⟩:=id hb
 simp only at hc hd zh hd2
 subst hc hd zh hd2
 have e:vs.toArray++ws.toArray=(vs++ws).toArray:=by simp
 by_cases hw:ws=[]
 . show concat_meets ⟨_,ho,U⟩ ⟨_,jm,U⟩ noFill_tuple_add seq_tuple_add VN VH (Vx _ _)
     (tuple_addW1 t b vs.toArray ws.toArray n n2 dd L6 sl EA (by simpa using hv) (by simp[hw])) ⟨ho,jm,h1 hw⟩
 . show concat_meets ⟨_,ho,U⟩ ⟨_,jm,U⟩ noFill_tuple_add seq_tuple_add VN VH (Vx _ _)
     (tuple_addW2 t b vs.toArray ws.toArray n n2 dd L6 sl EA (by simpa using hv) (by simpa using hw) (by rw[RH,RH];show hsz)) ⟨ho,jm,?_⟩
   rw[e]
   show h2 hw
def bX (n d:Nat):Option Int->Nat
 | none=>d
 | some v=>if v<0 then(v+(n:Int)).toNat else min v.toNat n
def pd (n d:Nat):bX n d none=d:=rfl
def d9 (n d k:Nat):bX n d (some (k:Int))=min k n:=by
 change(if(k:Int)<0 then((k:Int)+(n:Int)).toNat else min (k:Int).toNat n)=min k n
 rw[dh (by lia),Vp]
def Es (n d:Nat)(hd:d<=n)(o:Option Int):bX n d o<=n:=by
 cases o with
 | none=>show hd
 | some v=>
   change(if v<0 then(v+(n:Int)).toNat else min v.toNat n)<=n
   by_cases hv:v<0
   . rw[dI hv];lia
   . rw[dh hv];show Nat.min_le_right _ _
def qU (v:Int)(n d:Nat):(if v<0 then max (v+(n:Int)) 0 else min v (n:Int))=((bX n d (some v):Nat):Int):=by
 change(if v<0 then max (v+(n:Int)) 0 else min v (n:Int))=(((if v<0 then(v+(n:Int)).toNat else min v.toNat n):Nat):Int)
 by_cases hv:v<0
 . simp only[dI hv];lia
 . simp only[dh hv];lia
def pM (lo hi:Option Int)(n:Nat):Ue lo hi 1 (n:Int)=(((bX n 0 lo:Nat):Int),((bX n n hi:Nat):Int)):=by
 have h1:¬ ((1:Int)<0):=by lia
 unfold Ue
 simp only[h1,if_false]
 show Prod.ext ?_ ?_
 . cases lo with
   | none=>rfl
   | some v=>show qU v n 0
 . cases hi with
   | none=>rfl
   | some v=>show qU v n n
def qu (i j:Nat):Tu (i:Int) (j:Int) 1=j-i:=by
 unfold Tu
 have h1:(1:Int) > 0:=by lia
 simp only[h1,if_true,Int.ediv_one]
 split<;>lia
def k6 {v:Value}{o:Option Int}{Q:Option Int->Shared->Prop}(p:IsPart v o)(h:Q o s):wpAny (model prog w) A (Builtin.Slice.slicePartIndex v) Q E s:=by
 cases p with
 | none=>show slicePart_none h
 | int i t=>show slicePart_int h
def jt {sl:Addr}{vl vu:Value}{lo hi:Option Int}{n:Nat}{Q:Int×Int×Nat->Shared->Prop}(hs:s.heap.IsSliceOf sl vl vu .none)(pl:IsPart vl lo)(pu:IsPart vu hi)
   (h:Q (((bX n 0 lo:Nat):Int),1,bX n n hi-bX n 0 lo) s):wpAny (model prog w) A (U9 (.ref sl) (pure (n:Int))) Q E s:=by
 obtain⟨os,Gv,hcs,Je⟩:=id hs
 unfold U9 Builtin.Slice.sliceFields
 show wpAny_bind (wpAny_bind (wpAny_field Gv Je (x:=vl) rfl (wpAny_bind (wpAny_field Gv Je (x:=vu) rfl (wpAny_bind (wpAny_field Gv Je (x:=.none) rfl (wpAny_pure ?_)))))))
 show wpAny_bind (slicePart_none ?_)
 change wpAny _ _ (if((1:Int)==0)=true then _ else _) _ _ s
 rw[dh (by left)]
 show wpAny_bind (k6 pl (wpAny_bind (k6 pu (wpAny_bind (wpAny_pure ?_)))))
 change wpAny _ _ (match Ue lo hi 1 (n:Int)with|(lo,hi)=>pure (lo,(1:Int),Tu lo hi 1)) _ _ s
 rw[pM lo hi n]
 change wpAny _ _ (pure (((bX n 0 lo:Nat):Int),(1:Int),Tu ((bX n 0 lo:Nat):Int) ((bX n n hi:Nat):Int) 1)) _ _ s
 rw[qu]
 show wpAny_pure h
def xv (xs:Array Value)(i k:Nat):((TH k).filterMap fun(m:Nat)=>xs[((i:Int)+(m:Int)*1).toNat]?).toArray=((xs.toList.drop i).take k).toArray:=by
 have e:(fun(m:Nat)=>xs[((i:Int)+(m:Int)*1).toNat]?)=fun m=>xs[i+m]?:=by
   funext m
   have:((i:Int)+(m:Int)*1).toNat=i+m:=by lia
   rw[this]
 rw[e]
 have:=pick_run xs i k
 rw[List.filterMap_map]at this
 have e2:((fun x=>xs[x]?) ∘ fun x=>i+x)=fun m=>xs[i+m]?:=rfl
 rw[e2]at this
 rw[this]
def iJ {t sl:Addr}{items:Array Value}{vl vu:Value}{lo hi:Option Int}{Q:Value->Shared->Prop}(ht:IsTup s.heap t items)(hs:s.heap.IsSliceOf sl vl vu .none)(pl:IsPart vl lo)(pu:IsPart vu hi)
   (hw:¬ (bX items.size 0 lo=0/\bX items.size items.size hi=items.size))
   (h:Q (.ref s.heap.objs.size) {s with heap:=s.heap.push {cls:=.type "tuple",data:=.seq ((items.toList.drop (bX items.size 0 lo)).take (bX items.size items.size hi-bX items.size 0 lo)).toArray} })
   (hsz:items.size<=sizeLine):wpAny (model prog w) A (getItem (.ref t) (.ref sl)) Q E s:=by
 have rq:sizeOk (.seq ((items.toList.drop (bX items.size 0 lo)).take (bX items.size items.size hi-bX items.size 0 lo)).toArray):=by
   change((items.toList.drop (bX items.size 0 lo)).take (bX items.size items.size hi-bX items.size 0 lo)).toArray.size<=sizeLine
   rw[RH,R8,Tn,U7]
   lia
 have hj:bX items.size items.size hi<=items.size:=Es _ _ (Rz _) hi
 obtain⟨os,Gv,hcs,Je⟩:=id hs
 have OL:s.TypeIs (.ref sl) "slice":=⟨os,Gv,hcs⟩
 unfold getItem
 try with_reducible show wpAny_holding ?_
 first|show wpAny_bind (wpAny_pure ?_)|skip
 show wpAny_bind (wpAny_sequenceKey ht.typeIs (by left) ?_)
 show wpAny_bind (Tt (name:=Rt "__getitem__") ht.typeIs UP
   (wpAny_call_entry UP ht.typeIs entry_tuple_getitem ?_ (args_tuple_getitem _ _)))
 change wpAny _ _ (Builtin.Tuple.tupleItemsOf (.ref t)>>=_) _ _ s
 show wpAny_bind (tupleItemsOf_ ht ?_)
 show wpAny_bind (wpAny_typeOf OL ?_)
 rw[dI (by left)]
 show wpAny_bind (jt hs pl pu ?_)
 have Gu:¬ ((((bX items.size 0 lo:Nat):Int)==0&&(1:Int)==1&&(bX items.size items.size hi-bX items.size 0 lo)==items.size)=true):=by
   intro q
   rw[To,To]at q
   have q1:((bX items.size 0 lo:Nat):Int)=0:=eq_of_beq q.1.1
   have q2:bX items.size items.size hi-bX items.size 0 lo=items.size:=eq_of_beq q.2
   show hw ⟨by lia,by lia⟩
 change wpAny _ _ (if(((bX items.size 0 lo:Nat):Int)==0&&(1:Int)==1&&(bX items.size items.size hi-bX items.size 0 lo)==items.size)=true then _ else _) _ _ s
 rw[dh Gu,xv]
 first
   | show wpAny_bind (m:=Tz _) (wpAny_newObj_type (wpAny_pure ⟨_,rfl,wpAny_pure h⟩) rq)
   | show wpAny_bind (m:=Tz _) (wpAny_newObj_type (wpAny_bind (wpAny_pure (wpAny_pure ⟨_,rfl,wpAny_pure h⟩))) rq)
   | show wpAny_bind (wpAny_bind (m:=Tz _) (wpAny_newObj_type (wpAny_pure (wpAny_pure ⟨_,rfl,wpAny_pure h⟩)) rq))
   | show wpAny_bind (wpAny_bind (m:=Tz _) (wpAny_newObj_type (wpAny_pure ⟨_,rfl,wpAny_pure h⟩) rq))
end
end HT
namespace L2
open PySem PySem.Spec PyProof.Rows
abbrev TO:=St->Hp->(Option Int->Hp->Prop)->Prop
def PO (X:Cx)(e:Option Expr)(t:TO):Prop:=
 ∀(pins:List (Addr×Obj)) (s:Shared) (σ:St) (H:Hp) (Q:Option Int->Hp->Prop),Inv X pins σ H s->t σ H Q ->
   wpAny (model X.prog X.w) X.A (evalPart e X.env) (fun u s'=>∃o H',Inv X pins σ H' s'/\IsPart u o/\Q o H') X.xe s
def jb:TO:=fun z H Q=>Q none H
def jc (t:TE):TO:=fun σ H Q=>t σ H fun x H1=>∃i,x=.int i/\Q (some i) H1
section
variable{X:Cx}{e:Expr}{te:TE}{lo hi:Option Expr}{tl th:TO}{pos p2:Pos}
def jS:PO X none jb:=by
 intro pins s σ H Q I h
 rw[evalPart_none]
 show wpAny_pure ⟨none,H,I,.none,h⟩
def d8 (h:PE X e te):PO X (some e) (jc te):=by
 intro pins s σ H Q I hw
 rw[evalPart_some]
 show bw (h pins s σ H _ I hw) fun u s1 h9=>?_
 obtain⟨x,H1,I1,r1,q1⟩:=h9
 obtain⟨i,rfl,q⟩:=q1
 obtain⟨t,rfl⟩:=r1
 show⟨some i,H1,I1,.int i t,q⟩
def IW (X:Cx)(r:V->Option Int->Option Int->Hp->VK->Prop):Prop:=
 ∀(pins:List (Addr×Obj)) (s:Shared) (σ:St) (H:Hp) (x:V) (v vl vu:Value) (lo hi:Option Int) (sl:Addr) (Q:VK),Inv X pins σ H s->RelV x v->s.heap.IsSliceOf sl vl vu .none->IsPart vl lo->IsPart vu hi->r x lo hi H Q ->
   ∃T id,typeLookup (.type T) "__getitem__"=pure (some (.builtin id))/\s.TypeIs v T/\wpAny (model X.prog X.w) X.A (getItem v (.ref sl)) (EP X pins σ Q) X.xe s
def EM (r:V->Option Int->Option Int->Hp->VK->Prop)(te:TE)(tl th:TO):TE:=fun σ H Q=>te σ H fun x H1=>tl σ H1 fun l H2=>th σ H2 fun u H3=>r x l u H3 Q
def eP {r:V->Option Int->Option Int->Hp->VK->Prop}(hr:IW X r)(he:PE X e te)(hl:PO X lo tl)(hu:PO X hi th):PE X (.Subscript e (.Slice lo hi none p2) pos) (EM r te tl th):=by
 intro pins s σ H Q I h
 show Subscript_ (bw (he pins s σ H _ I h) fun v s1 h9=>?_)
 obtain⟨x,H1,I1,r1,q1⟩:=h9
 show wpAny_Slice (bw (hl pins s1 σ H1 _ I1 q1) fun vl s2 g9=>?_)
 obtain⟨l,H2,I2,pl,q2⟩:=g9
 show bw (hu pins s2 σ H2 _ I2 q2) fun vu s3 h9=>?_
 obtain⟨u,H3,I3,pu,q3⟩:=h9
 rw[evalPart_none]
 show wpAny_pure ?_
 have I4:Inv X pins σ H3 {s3 with heap:=s3.heap.push {cls:=.type "slice",data:=.fields #[vl,vu,.none]} }:=I3.kept (t':=s3.toks) fun b ob q=>Rr _ q
 obtain⟨T,id,hT,ht,hg⟩:=hr pins {s3 with heap:=s3.heap.push {cls:=.type "slice",data:=.fields #[vl,vu,.none]} } σ H3 x v vl vu l u s3.heap.objs.size Q I4 r1 (Heap.IsSliceOf.new ..) pl pu q3
 change wpAny (model X.prog X.w) X.A (subscriptTail e (.Slice lo hi none p2) v (.ref s3.heap.objs.size)) (EP X pins σ Q) X.xe {s3 with heap:=s3.heap.push {cls:=.type "slice",data:=.fields #[vl,vu,.none]} }
 show tail_any (ops:=[.ref s3.heap.objs.size,v]) ht hT hg (by with_unfolding_all rfl)
def er (xs:List V)(lo hi:Option Int):List V:=(xs.drop (HT.bX xs.length 0 lo)).take (HT.bX xs.length xs.length hi-HT.bX xs.length 0 lo)
def jx (xs:List V)(lo hi:Option Int):(er xs lo hi).length<=xs.length:=by
 unfold er
 rw[R8,Tn]
 lia
def HW (K:Ro):V->Option Int->Option Int->Hp->VK->Prop:=fun x lo hi H Q=>∃a xs,x=.ref a/\bS K H a xs /\
 ¬ (HT.bX xs.length 0 lo=0/\HT.bX xs.length xs.length hi=xs.length)/\∀p,H p=none->Q (.ref p) (upd H p (.tup (er xs lo hi)))
def EE:IW X (HW X.K):=by
 intro pins s σ H x v vl vu lo hi sl Q I rx hs pl pu h
 obtain⟨a,xs,rfl,hx,hw,q⟩:=h
 cases rx
 obtain⟨its,r,ht,hz⟩:=I.tuple hx
 have hlen:its.toArray.size=xs.length:=by rw[RH];show r.length.symm
 show⟨"tuple",_,PyProof.Rows.slot_tuple_getitem.lookup,ht.typeIs,?_⟩
 show HT.iJ ht hs pl pu (by rw[hlen];show hw) ?_ (by rw[hlen];show hz)
 rw[hlen]
 show⟨.ref s.heap.objs.size,_,I.laid (t':=s.toks) (o:=.tup (er xs lo hi)) (fun b ob q=>Rr _ q) (Rz _) ?_,U,q _ (I.hok.fresh (Rz _))⟩
 show⟨Ry (jx xs lo hi) hz,_,(r.drop (HT.bX xs.length 0 lo)).take (HT.bX xs.length xs.length hi-HT.bX xs.length 0 lo),IsTup.new _ _⟩
def Bu (K:Ro):R2:=fun x y H Q=>∃a b xs ys,x=.ref a/\y=.ref b/\bS K H a xs/\bS K H b ys/\xs≠[]/\xs.length+ys.length<=sizeLine /\
 (ys=[]->Q (.ref a) H)/\(ys≠[]->∀p,H p=none->Q (.ref p) (upd H p (.tup (xs++ys))))
def Vals.nA {xs:List V}{us:List Value}(r:Vals xs us):us=[]↔xs=[]:=by
 cases r with
 | nil=>simp
 | cons _ _=>simp
def zV:gC X (binaryOp .Add) (Bu X.K):=by
 intro pins s σ H x y v u Q I rx ry h
 obtain⟨a,b,xs,ys,rfl,rfl,ha,hb,hx,hz,q1,q2⟩:=h
 cases rx
 cases ry
 obtain⟨its,r1,p1,_⟩:=I.tuple ha
 obtain⟨tX,r2,p2,_⟩:=I.tuple hb
 show HT.yP p1 p2 (fun z=>hx (r1.nA.mp z)) (fun z=>⟨.ref a,H,I,U,q1 (r2.nA.mp z)⟩) (fun z=>?_) (by rw[← r1.length,← r2.length];show hz)
 show⟨.ref s.heap.objs.size,_,I.laid (t':=s.toks) (o:=.tup (xs++ys)) (fun b ob q=>Rr _ q) (Rz _) ?_,U,q2 (fun w=>z (r2.nA.mpr w)) _ (I.hok.fresh (Rz _))⟩
 show⟨by rw[Rx];show hz,_,r1.append r2,IsTup.new _ _⟩
end
def uX (n:Nat)(i:Int):Option Nat:=if 0<=i then(if i<n then some i.toNat else none)else if -(n:Int)<=i then some (i+n).toNat else none
def iz {α:Type}(xs:List α)(i:Int):Option α:=(uX xs.length i).bind fun j=>xs[j]?
def rD {n:Nat}{i:Int}{j:Nat}(h:uX n i=some j):Va i n=some j/\j<n/\-(n:Int)<=i/\i<n:=by
 unfold uX at h
 by_cases h0:0<=i
 . rw[dI h0]at h
   by_cases h1:i<n
   . rw[dI h1]at h
     have e:i.toNat=j:=Sa h
     show⟨by rw[seqIndex_of h0 h1,e],by lia,by lia,h1⟩
   . rw[dh h1]at h;cases h
 . rw[dh h0]at h
   by_cases h1 : -(n:Int)<=i
   . rw[dI h1]at h
     have e:(i+n).toNat=j:=Sa h
     show⟨by rw[seqIndex_neg (by lia) h1,e],by lia,h1,by lia⟩
   . rw[dh h1]at h;cases h
def bU {α:Type}{xs:List α}{i:Int}{v:α}(h:iz xs i=some v):∃j,Va i xs.length=some j/\xs[j]?=some v/\j<xs.length/\-(xs.length:Int)<=i/\i<xs.length:=by
 unfold iz at h
 cases e:uX xs.length i with
 | none=>rw[e]at h;cases h
 | some j=>
   rw[e]at h
   obtain⟨h1,h2,h3,h4⟩:=rD e
   show⟨j,h1,h,h2,h3,h4⟩
def f6 {α:Type}{xs:List α}{j:Nat}{v:α}(h:xs[j]?=some v):iz xs (j:Int)=some v:=by
 have hj:j<xs.length:=(List.getElem?_eq_some_iff.mp h).1
 have e:uX xs.length (j:Int)=some j:=by
   unfold uX
   rw[dI (by lia),dI (by lia)];simp
 unfold iz;rw[e];show h
def dB {α:Type}(xs:List α)(v:α):iz (xs++[v]) (-1)=some v:=by
 have hl:(xs++[v]).length=xs.length+1:=by simp
 have e:uX (xs++[v]).length (-1)=some xs.length:=by
   unfold uX
   rw[hl,dh (by left),dI (by lia)]
   congr 1
   lia
 unfold iz
 rw[e]
 change(xs++[v])[xs.length]?=some v
 simp
def jH (b:Expr):Prop:=∀o i,subscripted b false o i=operate [o,i] (getItem o i)
def Fy (X:Cx)(r:R2):Prop:=
 ∀(value slice:Expr) (pins:List (Addr×Obj)) (s:Shared) (σ:St) (H:Hp) (x y:V) (v u:Value) (Q:VK),Inv X pins σ H s->RelV x v->RelV y u->r x y H Q ->
   subscripted slice false v u=operate [v,u] (getItem v u)->wpAny (model X.prog X.w) X.A (subscriptTail value slice v u) (EP X pins σ Q) X.xe s
def EX (X:Cx)(id:String)(r:V->List V->Hp->VK->Prop):Prop:=
 ∀(pins:List (Addr×Obj)) (s:Shared) (σ:St) (H:Hp) (x:V) (xs:List V) (v:Value) (us:List Value) (Q:VK),Inv X pins σ H s->RelV x v->Vals xs us->r x xs H Q ->
   wpAny (model X.prog X.w) X.A (call (.builtin id) (v::us)) (EP X pins σ Q) X.xe s
section
variable{X:Cx}{a b:Expr}{ta tb:TE}{pos:Pos}
def Hm {r:R2}(hr:Fy X r)(ha:PE X a ta)(hb:PE X b tb)(hs:jH b):PE X (.Subscript a b pos) (yA r ta tb):=by
 intro pins s σ H Q I h
 show Subscript_ (Cg ha hb I h fun v u s2 x y H2 I2 rx ry q=>hr a b pins s2 σ H2 x y v u Q I2 rx ry q (hs _ _))
def HR (K:Ro):R2:=fun x y H Q=>∃p xs i v,x=.ref p/\y=.int i/\aH K H p xs/\iz xs i=some v/\Q v H
def HU (K:Ro):R2:=fun x y H Q=>∃p xs i v,x=.ref p/\y=.int i/\bS K H p xs/\iz xs i=some v/\Q v H
def HS:R2:=fun x y H Q=>∃z i c,x=.str z/\y=.int i/\z.length<=sizeLine/\iz z.cps.toList i=some c/\Q (.str ⟨#[c]⟩) H
def zo:Fy X (HR X.K):=by
 intro value slice pins s σ H x y v u Q I rx ry h hs
 obtain⟨p,xs,i,z,rfl,rfl,hq,he,q⟩:=h
 cases rx
 obtain⟨t,rfl⟩:=ry
 obtain⟨its,r,pl,hz⟩:=I.list hq
 obtain⟨j,h1,h2,h3,h4,h5⟩:=bU he
 obtain⟨w,ew,rw'⟩:=r.get h2
 have hl:=r.length
 have hn:=ip
 have fin:EP X pins σ Q w s:=⟨z,H,I,rw',q⟩
 by_cases h0:0<=i
 . have hj:i.toNat=j:=by
     rw[seqIndex_of h0 h5]at h1
     show Sa h1
   show item_listR pl.isList h0 (by lia) (by rw[hj];simpa using ew) fin hs
 . have hj:(i+(its.toArray.size:Int)).toNat=j:=by
     rw[seqIndex_neg (by lia) h4]at h1
     rw[RH,← hl]
     show Sa h1
   show subscriptTail_builtinR (x:=w) pl.isList.typeIs slot_list_getitem.lookup
     (wpAny_getItem_list_neg (Q:=fun r s'=>r=w/\EP X pins σ Q r s') pl.isList (by lia) (by rw[RH]<;>lia) (by lia) (by rw[hj];simpa using ew) ⟨rfl,fin⟩) hs
def CU:Fy X (HU X.K):=by
 intro value slice pins s σ H x y v u Q I rx ry h hs
 obtain⟨p,xs,i,z,rfl,rfl,hq,he,q⟩:=h
 cases rx
 obtain⟨t,rfl⟩:=ry
 obtain⟨its,r,pl,hz⟩:=I.tuple hq
 obtain⟨j,h1,h2,h3,h4,h5⟩:=bU he
 obtain⟨w,ew,rw'⟩:=r.get h2
 have hl:=r.length
 have hn:=ip
 have fin:EP X pins σ Q w s:=⟨z,H,I,rw',q⟩
 show subscriptTail_builtinR (x:=w) pl.typeIs slot_tuple_getitem.lookup
   (getItem_tuple (j:=j) (Q:=fun r s'=>r=w/\EP X pins σ Q r s') pl (by lia) (by lia) (by rw[RH,← hl];show h1) (by simpa using ew) ⟨rfl,fin⟩) hs
def CT:Fy X HS:=by
 intro value slice pins s σ H x y v u Q I rx ry h hs
 obtain⟨z,i,c,rfl,rfl,hz,he,q⟩:=h
 obtain⟨t,rfl⟩:=rx
 obtain⟨t',rfl⟩:=ry
 obtain⟨j,h1,h2,h3,h4,h5⟩:=bU he
 have hl:z.cps.toList.length=z.length:=by simp[Str.length]
 rw[hl]at h1 h4 h5
 have hn:=ip
 show tail_any (typeIs_str s z t) slot_str_getitem.lookup (getItem_str (c:=c) (by
   have e1:decide (i < -(2^63:Int))=false:=gv (by lia)
   have e2:decide (i ≥ 2^63)=false:=gv (by lia)
   rw[e1,e2,Bool.or_false]) (by rw[h1];simpa using h2) ⟨.str ⟨#[c]⟩,H,I.tok _,⟨_,rfl⟩,q⟩) hs
def qd (its:List Value)(n j:Nat)(u:Value):Vo (·.setIfInBounds j u) {cls:=.type "list",data:=.seq its.toArray n}={cls:=.type "list",data:=.seq (its.set j u).toArray n}:=by
 simp[Vo]
def Inv.lst {pins:List (Addr×Obj)}{σ:St}{H:Hp}{s:Shared}{p:Addr}{xs:List V}(I:Inv X pins σ H s)(h:H p=some (.lst xs)) :
   ∃(its:List Value) (n:Nat),Vals xs its/\s.heap.get? p=some {cls:=.type "list",data:=.seq its.toArray n}/\xs.length<=sizeLine:=by
 obtain⟨z,its,n,r,e⟩:=I.hok p _ h
 show⟨its,n,r,e,z⟩
def Inv.C4 {pins:List (Addr×Obj)}{σ:St}{H:Hp}{s:Shared}{p:Addr}{xs ys:List V}{its its':List Value}{n n':Nat}{f:Obj->Obj}(I:Inv X pins σ H s)(h:H p=some (.lst xs))
   (ho:s.heap.get? p=some {cls:=.type "list",data:=.seq its.toArray n}) (hf:f {cls:=.type "list",data:=.seq its.toArray n}={cls:=.type "list",data:=.seq its'.toArray n'}) (r:Vals ys its') (hz:ys.length<=sizeLine) (t:Nat) :
   Inv X pins σ (upd H p (.lst ys)) {s with heap:=s.heap.update p f,toks:=t}:=by
 have e:(s.heap.update p f).get? p=some {cls:=.type "list",data:=.seq its'.toArray n'}:=by
   rw[UU f ho (by rw[hf]<;>rfl),hf]
 show I.write (x:=p) (e:=p) (by rw[h];trivial) (.inl rfl) (fun b u hb q=>(T7 _ _ (Ne.symm hb)).trans q) ⟨_,e⟩ ?_
 show⟨hz,its',n',r,e⟩
def rQ:V->V->V->Hp->(Hp->Prop)->Prop:=fun o i v H Q=>∃p xs k j,o=.ref p/\i=.int k/\H p=some (.lst xs)/\uX xs.length k=some j/\Q (upd H p (.lst (xs.set j v)))
def set_list:FC X rQ:=by
 intro pins s σ H o i v ov iv u Q I ro ri rv h
 obtain⟨p,xs,k,j,rfl,rfl,hp,hj,q⟩:=h
 cases ro
 obtain⟨t,rfl⟩:=ri
 obtain⟨its,n,r,ho,hz⟩:=I.lst hp
 obtain⟨h1,h2,h3,h4⟩:=rD hj
 have hl:=r.length
 have hn:=ip
 have I':Inv X pins σ (upd H p (.lst (xs.set j v))) {s with heap:=s.heap.update p (Vo (·.setIfInBounds j u))}:=
   I.C4 hp ho (qd its n j u) (r.set rv j) (by rw[Ui];show hz) s.toks
 by_cases h0:0<=k
 . have hk:k.toNat=j:=by
     rw[seqIndex_of h0 h4]at h1
     show Sa h1
   show PySem.W.ki_setAt ho h0 (by lia) (by rw[RH,← hl];show h4) (by rw[hk];show⟨_,I',q⟩)
 . have hk:(k+(its.toArray.size:Int)).toNat=j:=by
     rw[seqIndex_neg (by lia) h3]at h1
     rw[RH,← hl]
     show Sa h1
   show PySem.W.ki_setBack ho (by lia) (by rw[RH,← hl];show h3) (by lia) (by rw[hk];show⟨_,I',q⟩)
def nZ (lo hi:Option Int)(n:Nat):(sliceBounds lo hi none n).1=((HT.bX n 0 lo:Nat):Int)/\(sliceBounds lo hi none n).2.1=((HT.bX n n hi:Nat):Int)/\(sliceBounds lo hi none n).2.2=1:=by
 show⟨?_,?_,U⟩
 . cases lo with
   | none=>simp[sliceBounds,HT.bX]
   | some i=>
     simp only[sliceBounds,HT.bX,Option.getD_none,show(1:Int) > 0 by left,if_true]
     by_cases h:i<0
     . simp only[h,if_true]<;>lia
     . simp only[h,if_false]<;>lia
 . cases hi with
   | none=>simp[sliceBounds,HT.bX]
   | some i=>
     simp only[sliceBounds,HT.bX,Option.getD_none,show(1:Int) > 0 by left,if_true]
     by_cases h:i<0
     . simp only[h,if_true]<;>lia
     . simp only[h,if_false]<;>lia
def lQ (its:List Value)(lo hi:Option Int):slicePick its.toArray lo hi none=((its.drop (HT.bX its.length 0 lo)).take (HT.bX its.length its.length hi-HT.bX its.length 0 lo)).toArray:=by
 obtain⟨h1,h2,h3⟩:=nZ lo hi its.toArray.size
 unfold slicePick
 rw[h1,h2,h3]
 simp only[sliceRange_one,pick_run,RH]<;>rfl
def As (K:Ro):V->Option Int->Option Int->Hp->VK->Prop:=fun x lo hi H Q=>∃a xs,x=.ref a/\aH K H a xs/\∀p,H p=none->Q (.ref p) (upd H p (.lst (er xs lo hi)))
def nY:IW X (As X.K):=by
 intro pins s σ H x v vl vu lo hi sl Q I rx hs pl pu h
 obtain⟨a,xs,rfl,hx,q⟩:=h
 cases rx
 obtain⟨its,r,ht,hz⟩:=I.list hx
 have hlen:=r.length
 show⟨"list",_,slot_list_getitem.lookup,ht.isList.typeIs,?_⟩
 show wpAny_getItem_list_slice ht.isList hs pl pu .none (by simp) ?_ (by rw[RH]<;>lia)
 rw[lQ,← hlen]
 show⟨.ref s.heap.objs.size,_,I.laid (t':=s.toks) (o:=.lst (er xs lo hi)) (fun b ob q=>Rr _ q) (Rz _) ?_,U,q _ (I.hok.fresh (Rz _))⟩
 show⟨Ry (jx xs lo hi) hz,_,0,(r.drop (HT.bX xs.length 0 lo)).take (HT.bX xs.length xs.length hi-HT.bX xs.length 0 lo),RK _ rfl⟩
def dE:V->Bool
 | .bI=>true
 | .bl _=>true
 | .int _=>true
 | .str _=>true
 | _=>false
def oB:V->V->Bool
 | .bI,.bI=>true
 | .bl a,.bl b=>a==b
 | .bl a,.int b=>(if a then 1 else 0)==b
 | .int a,.bl b=>a==(if b then 1 else 0)
 | .int a,.int b=>a==b
 | .str a,.str b=>a==b
 | _,_=>false
def vz {A:Around}{s:Shared}{y x:V}{u v:Value}(ry:RelV y u)(rx:RelV x v)(fy:dE y=true)(fx:dE x=true):SeqAt.EqAt A s u v (oB y x):=by
 cases y with
 | bI=>
   cases ry
   cases x with
   | bI=>cases rx;show SeqAt.EqAt.same _
   | bl b=>cases rx;show SeqAt.EqAt.none_bool b
   | int b=>obtain⟨t,rfl⟩:=rx;show SeqAt.EqAt.none_int b t
   | str b=>obtain⟨t,rfl⟩:=rx;show SeqAt.EqAt.none_str b t
   | _=>show au (show false=true from fx) RV
 | bl a=>
   cases ry
   cases x with
   | bI=>cases rx;show SeqAt.EqAt.bool_none a
   | bl b=>cases rx;show SeqAt.EqAt.bool_bool a b
   | int b=>obtain⟨t,rfl⟩:=rx;show SeqAt.EqAt.bool_int a b t
   | str b=>obtain⟨t,rfl⟩:=rx;show SeqAt.EqAt.bool_str a b t
   | _=>show au (show false=true from fx) RV
 | int a=>
   obtain⟨t',rfl⟩:=ry
   cases x with
   | bI=>cases rx;show SeqAt.EqAt.int_none a t'
   | bl b=>cases rx;show SeqAt.EqAt.int_bool a t' b
   | int b=>obtain⟨t,rfl⟩:=rx;show SeqAt.EqAt.int_int a t' b t
   | str b=>obtain⟨t,rfl⟩:=rx;show VW a t' b t
   | _=>show au (show false=true from fx) RV
 | str a=>
   obtain⟨t',rfl⟩:=ry
   cases x with
   | bI=>cases rx;show SeqAt.EqAt.str_none a t'
   | bl b=>cases rx;show SeqAt.EqAt.str_bool a t' b
   | int b=>obtain⟨t,rfl⟩:=rx;show VU a t' b t
   | str b=>obtain⟨t,rfl⟩:=rx;show SeqAt.EqAt.str_str a t' b t
   | _=>show au (show false=true from fx) RV
 | _=>show au (show false=true from fy) RV
def mZ (x:V)(u:Value):Bool:=match u with
 | .none=>oB .bI x
 | .bool b=>oB (.bl b) x
 | .int i _=>oB (.int i) x
 | .str z _=>oB (.str z) x
 | _=>false
def vA {x y:V}{u:Value}(r:RelV y u)(f:dE y=true):mZ x u=oB y x:=by
 cases y with
 | bI=>cases r;rfl
 | bl b=>cases r;rfl
 | int i=>obtain⟨t,rfl⟩:=r;rfl
 | str z=>obtain⟨t,rfl⟩:=r;rfl
 | _=>show au (show false=true from f) RV
theorem fY {x:V}:∀{xs:List V} {us:List Value},Vals xs us->xs.all dE=true->us.any (mZ x)=xs.any fun y=>oB y x
 | _,_,.nil,_=>rfl
 | y::xs,u::us,.cons r t,f=>by
   rw[V9,To]at f
   rw[UA,UA,vA r f.1,fY t f.2]
theorem eN {A:Around}{s:Shared}{x:V}{v:Value}(rx:RelV x v)(fx:dE x=true):∀{xs:List V} {us:List Value},Vals xs us->xs.all dE=true->∀u∈us,SeqAt.EqAt A s u v (mZ x u)
 | _,_,.nil,_=>fun u hu=>by cases hu
 | y::xs,u::us,.cons r t,f=>fun u' hu=>by
   rw[V9,To]at f
   rcases List.mem_cons.mp hu with rfl|hu
   . rw[vA r f.1];show vz r rx f.1 fx
   . show eN rx fx t f.2 u' hu
def iN (x:V)(xs:List V):Bool:=xs.any fun y=>oB y x
def Jn (K:Ro)(neg:Bool):R2:=fun x y H Q=>∃p xs,y=.ref p/\(aH K H p xs\/bS K H p xs)/\dE x=true/\xs.all dE=true/\Q (.bl (if neg then !iN x xs else iN x xs)) H
def ur:gC X (compareOp .In) (Jn X.K false):=by
 intro pins s σ H x y v u Q I rx ry h
 obtain⟨p,xs,rfl,hq,fx,fs,q⟩:=h
 cases ry
 rcases hq with hq|hq
 . obtain⟨its,r,pl,hz⟩:=I.list hq
   show SeqAt.in_listAt (mZ x) pl.isList (fun w hw=>eN rx fx r fs w (by simpa using hw)) ⟨.bl _,H,I,U,?_⟩
   rw[show its.toArray.any (mZ x)=its.any (mZ x)by simp,fY r fs]
   show q
 . obtain⟨its,r,pl,hz⟩:=I.tuple hq
   show SeqAt.in_tupleAt (mZ x) pl (fun w hw=>eN rx fx r fs w (by simpa using hw)) ⟨.bl _,H,I,U,?_⟩
   rw[show its.toArray.any (mZ x)=its.any (mZ x)by simp,fY r fs]
   show q
def nK:gC X (compareOp .NotIn) (Jn X.K true):=by
 intro pins s σ H x y v u Q I rx ry h
 obtain⟨p,xs,rfl,hq,fx,fs,q⟩:=h
 cases ry
 rcases hq with hq|hq
 . obtain⟨its,r,pl,hz⟩:=I.list hq
   show SeqAt.notIn_listAt (mZ x) pl.isList (fun w hw=>eN rx fx r fs w (by simpa using hw)) ⟨.bl _,H,I,U,?_⟩
   rw[show its.toArray.any (mZ x)=its.any (mZ x)by simp,fY r fs]
   show q
 . obtain⟨its,r,pl,hz⟩:=I.tuple hq
   show SeqAt.notIn_tupleAt (mZ x) pl (fun w hw=>eN rx fx r fs w (by simpa using hw)) ⟨.bl _,H,I,U,?_⟩
   rw[show its.toArray.any (mZ x)=its.any (mZ x)by simp,fY r fs]
   show q
def mO:dz X (.builtin "len") (fun xs H Q=>∃p ys,xs=[.ref p]/\(aH X.K H p ys\/bS X.K H p ys)/\Q (.int ys.length) H):=by
 intro pins s σ H xs us Q I r h
 obtain⟨p,ys,rfl,hq,q⟩:=h
 obtain⟨u,rfl,rx⟩:=vals1 r
 cases rx
 have hn:=ip
 rcases hq with hq|hq
 . obtain⟨its,r',pl,hz⟩:=I.list hq
   have hlen:=r'.length
   show Calls.call_len_list pl.isList (by simp only[RH]<;>lia) ⟨.int ys.length,H,I.tok _,⟨s.toks+1,by rw[RH,hlen]⟩,q⟩
 . obtain⟨its,r',pl,hz⟩:=I.tuple hq
   have hlen:=r'.length
   show len_tuple pl (by simp only[RH]<;>lia) ⟨.int ys.length,H,I.tok _,⟨s.toks+1,by rw[RH,hlen]⟩,q⟩
def mQ:dz X (.builtin "len") (fun xs H Q=>∃z,xs=[.str z]/\z.length<=sizeLine/\Q (.int z.length) H):=by
 intro pins s σ H xs us Q I r h
 obtain⟨z,rfl,hz,q⟩:=h
 obtain⟨u,rfl,t,rfl⟩:=vals1 r
 have hn:=ip
 show len_str (by lia) ⟨.int z.length,H,I.tok _,⟨_,U⟩,q⟩
def mR:dz X (.type "list") (fun xs H Q=>∃p ys,xs=[.ref p]/\(aH X.K H p ys\/bS X.K H p ys)/\∀l,H l=none->Q (.ref l) (upd H l (.lst ys))):=by
 intro pins s σ H xs us Q I r h
 obtain⟨p,ys,rfl,hq,q⟩:=h
 obtain⟨u,rfl,rx⟩:=vals1 r
 cases rx
 have fin:∀(its:List Value),Vals ys its->ys.length<=sizeLine->∀(h':Heap) (c':Nat),(∀b o',s.heap.get? b=some o'->h'.get? b=some o') ->
     h'.get? s.heap.objs.size=some {cls:=.type "list",dict:=none,data:=.seq its.toArray c',slots:=#[]}->EP X pins σ Q (.ref s.heap.objs.size) {s with heap:=h'}:=fun its r' hz h' c' kp e=>
   ⟨.ref s.heap.objs.size,_,I.laid (t':=s.toks) kp (Rz _) (show bB X.prog X.w _ h' _ (.lst ys)from⟨hz,its,c',r',e⟩),rfl,q _ (I.hok.fresh (Rz _))⟩
 rcases hq with hq|hq
 . obtain⟨its,r',pl,hz⟩:=I.list hq
   have hlen:=r'.length
   obtain⟨o,ho,hc,n,hd⟩:=pl.isList
   show call_list_seq p (.inl rfl) ho hc hd (fun h' c' kp e=>fin its r' hz h' c' kp e) (by simp only[RH]<;>lia)
 . obtain⟨its,r',pl,hz⟩:=I.tuple hq
   have hlen:=r'.length
   obtain⟨o,ho,hc,n,hd⟩:=pl
   show call_list_seq p (.inr rfl) ho hc hd (fun h' c' kp e=>fin its r' hz h' c' kp e) (by simp only[RH]<;>lia)
def lJ:dz X (.type "tuple") (fun xs H Q=>∃p ys,xs=[.ref p]/\((aH X.K H p ys/\∀l,H l=none->Q (.ref l) (upd H l (.tup ys)))\/(bS X.K H p ys/\Q (.ref p) H))):=by
 intro pins s σ H xs us Q I r h
 obtain⟨p,ys,rfl,h⟩:=h
 obtain⟨u,rfl,rx⟩:=vals1 r
 cases rx
 rcases h with⟨hq,q⟩|⟨hq,q⟩
 . obtain⟨its,r',pl,hz⟩:=I.list hq
   have hlen:=r'.length
   show call_tuple_list pl.isList (fun h' kp=>?_) (by simp only[RH]<;>lia)
   have I1:Inv X pins σ H {s with heap:=h'}:=I.kept (t':=s.toks) kp
   have I2:Inv X pins σ (upd H h'.objs.size (.tup ys)) {s with heap:=h'.push {cls:=.type "tuple",data:=.seq its.toArray} }:=
     I1.laid (t':=s.toks) (fun b o e=>Rr _ e) (Rz _) (show bB X.prog X.w _ _ _ (.tup ys)from⟨hz,its,r',IsTup.new _ _⟩)
   show⟨.ref h'.objs.size,_,I2,U,q _ (I1.hok.fresh (Rz _))⟩
 . obtain⟨its,r',pl,hz⟩:=I.tuple hq
   show call_tuple_same pl ⟨.ref p,H,I,U,q⟩
def Lw (K:Ro)(T:String)(x:V)(H:Hp):Prop:=match x with
 | .str _=>T="str"
 | .int _=>T="int"
 | .ref p=>(T="list"/\∃xs,aH K H p xs)\/(T="tuple"/\∃o,K.lookup p=some o/\o.cls=.type "tuple"/\o.dict=none) \/
     (T="dict"/\((∃kvs,H p=some (.dK kvs))\/∃kvs,H p=some (.dT kvs)))\/(T="set"/\∃S n,H p=some (.set S n))
 | _=>False
def qN {pins:List (Addr×Obj)}{σ:St}{H:Hp}{s:Shared}{T:String}{x:V}{v:Value}(I:Inv X pins σ H s)(r:RelV x v)(ty:Lw X.K T x H) :
   s.TypeIs v T/\∀a,v=.ref a->∃ob,s.heap.get? a=some ob/\ob.dict=none:=by
 cases x with
 | str z=>
   obtain⟨t,rfl⟩:=r
   cases(show T="str" from ty)
   show⟨typeIs_str s z t,fun y e=>nomatch e⟩
 | int i=>
   obtain⟨t,rfl⟩:=r
   cases(show T="int" from ty)
   show⟨typeIs_int s i t,fun y e=>nomatch e⟩
 | ref p=>
   cases r
   rcases ty with⟨rfl,xs,hq⟩|⟨rfl,o,hk,hc,hd⟩|⟨rfl,hk⟩|⟨rfl,S,n,hk⟩
   . obtain⟨its,_,pl,_⟩:=I.list hq
     show⟨pl.isList.typeIs,fun a e=>?_⟩
     cases e
     obtain⟨o,n,e,c,hd,_⟩:=pl
     show⟨o,e,hd⟩
   . show⟨⟨o,I.lM p o hk,hc⟩,fun a e=>?_⟩
     cases e
     show⟨o,I.lM _ o hk,hd⟩
   . have z:∃o,s.heap.get? p=some o/\o.ExactDict:=by
       rcases hk with⟨kvs,hk⟩|⟨kvs,hk⟩
       . obtain⟨_,_,_,_,o,_,_,e,ex,_⟩:=I.hok p _ hk
         show⟨o,e,ex⟩
       . obtain⟨_,_,_,_,o,_,_,e,ex,_⟩:=I.hok p _ hk
         show⟨o,e,ex⟩
     obtain⟨o,e,ex⟩:=z
     show⟨⟨o,e,ex.1⟩,fun a e2=>?_⟩
     cases e2
     show⟨o,e,ex.2.1⟩
   . obtain⟨o,_,_,_,e,ex,_⟩:=I.hok p _ hk
     show⟨⟨o,e,ex.1⟩,fun a e2=>?_⟩
     cases e2
     show⟨o,e,ex.2.1⟩
 | _=>show Tb ty
def Iy (K:Ro)(T:String)(r:V->List V->Hp->VK->Prop)(to:TE):TE:=fun σ H Q=>to σ H fun x H1=>Lw K T x H1/\r x [] H1 Q
def EI (K:Ro)(T:String)(r:V->List V->Hp->VK->Prop)(to:TE)(t:TA):TE:=fun σ H Q=>to σ H fun x H1=>Lw K T x H1/\t σ H1 fun xs H2=>r x xs H2 Q
variable{o e:Expr}{es:List Expr}{to:TE}{t:TA}{name:Str}{apos cpos:Pos}{T id:String}{r:V->List V->Hp->VK->Prop}
def DH (pa:PlainAttrs T)(slot:Slot T name id)(hty:typeOf (.builtin id)=pure (.type "method_descriptor"))(hm:EX X id r)(ho:PE X o to)
   (hbase:Ss o name X.env (eval o X.env)=eval o X.env:=by rfl) (hline:(apos.endLine==cpos.line)=true:=by rfl):PE X (.Call (.Attribute o name apos) [] [] cpos) (Iy X.K T r to):=by
 intro pins s σ H Q I h
 show wpAny_Call_method0_late hbase hline (bw (ho pins s σ H _ I h) fun v s1 h9=>?_)
 obtain⟨x,H1,I1,r1,ty,q1⟩:=h9
 obtain⟨h1,h2⟩:=qN I1 r1 ty
 show⟨T,id,pa,slot,hty,h1,h2,Ts rfl (PySem.evalArgs_none (hm pins s1 σ H1 x [] v [] Q I1 r1 .nil q1))⟩
def Hl (pa:PlainAttrs T)(slot:Slot T name id)(hty:typeOf (.builtin id)=pure (.type "method_descriptor"))(hm:EX X id r)(ho:PE X o to)(ha:PA X (e::es) t)
   (hbase:Ss o name X.env (eval o X.env)=eval o X.env:=by rfl)
   (hfew:((backTo cpos (starEach (e::es) X.env)).all (fun x=>!x.1)&&(backToKw cpos (keywordEach [] X.env)).all (fun x=>x.1.isSome)
     && decide ((e::es).length+([]:List Keyword).length+(if([]:List Keyword).isEmpty then 0 else 1)<30))=true:=by rfl)
   (hline:(apos.endLine==cpos.line)=true:=by rfl) (hs:starEach (e::es) X.env=(false,eval e X.env)::starEach es X.env:=by rfl) (hplain:(backTo cpos (starEach es X.env)).any (·.1)=false:=by rfl) :
   PE X (.Call (.Attribute o name apos) (e::es) [] cpos) (EI X.K T r to t):=by
 intro pins s σ H Q I h
 show wpAny_Call_method_late hbase hfew hline rfl (bw (ho pins s σ H _ I h) fun v s1 h9=>?_)
 obtain⟨x,H1,I1,r1,ty,q1⟩:=h9
 obtain⟨h1,h2⟩:=qN I1 r1 ty
 show⟨T,id,pa,slot,hty,h1,h2,?_⟩
 have hA:=ha cpos pins s1 σ H1 _ I1 q1
 rw[hs]at hA ⊢
 show Ts (by change(false || (backTo cpos (starEach es X.env)).any (·.1))=false;rw[hplain]<;>rfl) (TL ?_)
 show bw hA fun us s2 h9=>?_
 obtain⟨vs,H2,I2,r2,q2⟩:=h9
 show hm pins s2 σ H2 x vs v us Q I2 r1 r2 q2
end
def JB (X:Cx)(id:String)(r:V->List V->Hp->VK->Prop):Prop:=
 ∀(pins:List (Addr×Obj)) (s:Shared) (σ:St) (H:Hp) (x:V) (xs:List V) (v:Value) (us:List Value) (Q:VK),Inv X pins σ H s->RelV x v->Vals xs us->r x xs H Q ->
   wpAny (model X.prog X.w) X.A (call (.builtin id) (v::us)) (EP X pins σ Q) X.xe s
def Vals.one:∀{x:V} {us:List Value},Vals [x] us->∃u,us=[u]/\RelV x u:=by
 intro x us h
 cases h with
 | cons r h=>cases h;show⟨_,rfl,r⟩
def Vals.two:∀{x y:V} {us:List Value},Vals [x,y] us->∃u v,us=[u,v]/\RelV x u/\RelV y v:=by
 intro x y us h
 cases h with
 | cons r h=>cases h with
   | cons q h=>cases h;show⟨_,_,rfl,r,q⟩
def Vals.zero:∀{us:List Value},Vals [] us->us=[]
 | _,.nil=>rfl
theorem Vals.dropLast {xs:List V}{us:List Value}(h:Vals xs us):Vals xs.dropLast us.dropLast:=by
 induction h with
 | nil=>show .nil
 | cons r t ih=>
   cases t with
   | nil=>show .nil
   | cons q t'=>show .cons r ih
theorem Vals.eraseIdx:∀{xs:List V} {us:List Value} (i:Nat),Vals xs us->Vals (xs.eraseIdx i) (us.eraseIdx i)
 | _,_,_,.nil=>.nil
 | _,_,0,.cons _ t=>t
 | _,_,i+1,.cons r t=>.cons r (Vals.eraseIdx i t)
def pN {α:Type}(l:List α):l.eraseIdx (l.length-1)=l.dropLast:=by
 induction l with
 | nil=>rfl
 | cons a r ih=>
   cases r with
   | nil=>rfl
   | cons b r=>
     have e:(a::b::r).length-1=((b::r).length-1)+1:=by
       have h1:(a::b::r).length=r.length+2:=rfl
       have h2:(b::r).length=r.length+1:=rfl
       lia
     rw[e,V8,ih]
     all_goals rfl
theorem mm {α:Type}:∀(l:List α) (i:Nat),(l.eraseIdx i).length<=l.length
 | [],_=>Rz _
 | _::_,0=>Ve _
 | _::r,i+1=>Nat.succ_le_succ (mm r i)
section
variable{X:Cx}{pins:List (Addr×Obj)}{σ:St}{H:Hp}{s:Shared}{l b:Addr}{xs ys zs:List V}
def Inv.C3 {its its':List Value}{n:Nat}{f:Array Value->Array Value}{t':Nat}(I:Inv X pins σ H s)(hH:H l=some (.lst xs))
   (e:s.heap.get? l=some {cls:=.type "list",data:=.seq its.toArray n}) (hf:f its.toArray=its'.toArray) (hv:Vals ys its') (hz:ys.length<=sizeLine) :
   Inv X pins σ (upd H l (.lst ys)) {s with heap:=s.heap.update l (Vo f),toks:=t'}:=by
 have q:=PySem.IsL.update e f
 rw[hf]at q
 show I.write (x:=l) (e:=l) (by rw[hH];show trivial) (.inl rfl) (fun b' u hb hu=>(T7 s.heap (Vo f) (Ne.symm hb)).trans hu) ⟨_,q⟩ ?_
 show⟨hz,its',_,hv,q⟩
def Inv.K3 {its:List Value}{t':Nat}(I:Inv X pins σ H s)(hv:Vals ys its)(hz:ys.length<=sizeLine) :
   Inv X pins σ (upd H s.heap.objs.size (.lst ys)) {s with heap:=s.heap.push {cls:=.type "list",data:=.seq its.toArray},toks:=t'}:=
 I.laid (fun z z q=>Rr _ q) (Rz _) ⟨hz,its,0,hv,RK _ rfl⟩
def Inv.fresh (I:Inv X pins σ H s):H s.heap.objs.size=none:=I.hok.fresh (Rz _)
def Inv.wc (I:Inv X pins σ H s)(hH:H l=some (.lst xs)):xs.length<=sizeLine/\∃(its:List Value) (n:Nat),Vals xs its/\xs.length=its.length/\s.heap.get? l=some {cls:=.type "list",data:=.seq its.toArray n}:=by
 obtain⟨z,its,n,r,e⟩:=I.hok l _ hH
 show⟨z,its,n,r,r.length,e⟩
end
section
variable{X:Cx}
def rP:V->List V->Hp->VK->Prop:=fun x vs H Q=>∃l xs y,x=.ref l/\vs=[y]/\H l=some (.lst xs)/\xs.length<sizeLine/\Q .bI (upd H l (.lst (xs++[y])))
def mr:JB X "list.append" rP:=by
 intro pins s σ H x vs v us Q I rx rv h
 obtain⟨l,xs,y,rfl,rfl,hH,hz,q⟩:=h
 cases rx
 obtain⟨u,rfl,ru⟩:=rv.one
 obtain⟨z,its,n,r,hl,e⟩:=I.wc hH
 show Vh F.slot_list_append ⟨_,e,U⟩ F.entry_list_append (F.args_list_append_2 _ _) (PySem.list_append l its.toArray n u (by rw[RH];lia)) ⟨e,?_⟩
 show⟨.bI,_,I.C3 (its':=its++[u]) hH e (by simp) (r.append (.cons ru .nil)) ?_,U,q⟩
 rw[Rx,Sj]
 lia
def HV:V->List V->Hp->VK->Prop:=fun x vs H Q=>∃l xs y,x=.ref l/\vs=[]/\H l=some (.lst xs)/\xs[xs.length-1]?=some y/\Q y (upd H l (.lst xs.dropLast))
def C7:JB X "list.pop" HV:=by
 intro pins s σ H x vs v us Q I rx rv h
 obtain⟨l,xs,y,rfl,rfl,hH,hy,q⟩:=h
 cases rx
 have Py:=rv.zero
 subst Py
 obtain⟨z,its,n,r,hl,e⟩:=I.wc hH
 obtain⟨u,hu,ru⟩:=r.get hy
 have CL:its.toArray[its.toArray.size-1]?=some u:=by
   change its.toArray[its.length-1]?=some u
   rw[← We,← hl]
   show hu
 show Vh F.slot_list_pop ⟨_,e,U⟩ F.entry_list_pop (F.args_list_pop_1 _) (MeetsSeq.list_pop_last l its.toArray n u CL (by rw[RH];lia)) ⟨e,?_⟩
 show⟨y,_,I.C3 (its':=its.dropLast) hH e ?_ r.dropLast ?_,ru,q⟩
 . change its.toArray.eraseIdxIfInBounds (its.toArray.size-1)=its.dropLast.toArray
   rw[RH,Vm,pN]
 . rw[List.length_dropLast]
   lia
def xG:V->List V->Hp->VK->Prop:=fun x vs H Q=>∃l xs i k y,x=.ref l/\vs=[.int i]/\H l=some (.lst xs)/\-(2^63)<=i/\i<2^63/\Va i xs.length=some k/\xs[k]?=some y/\Q y (upd H l (.lst (xs.eraseIdx k)))
def wo:JB X "list.pop" xG:=by
 intro pins s σ H x vs v us Q I rx rv h
 obtain⟨l,xs,i,k,y,rfl,rfl,hH,h1,h2,hk,hy,q⟩:=h
 cases rx
 obtain⟨u,rfl,ru⟩:=rv.one
 obtain⟨t,rfl⟩:=ru
 obtain⟨z,its,n,r,hl,e⟩:=I.wc hH
 obtain⟨w,hw,rw'⟩:=r.get hy
 show Vh F.slot_list_pop ⟨_,e,U⟩ F.entry_list_pop (F.args_list_pop_2 _ _)
   (MeetsSeq.list_pop_at l its.toArray n i t k w (fitsIndex_both h1 h2) (by rw[RH,← hl];show hk) (by rw[← We];show hw) (by rw[RH];lia)) ⟨e,?_⟩
 show⟨y,_,I.C3 (its':=its.eraseIdx k) hH e ?_ (r.eraseIdx k) ?_,rw',q⟩
 . change its.toArray.eraseIdxIfInBounds k=(its.eraseIdx k).toArray
   rw[Vm]
 . have:=mm xs k
   lia
def HP:R2:=fun x y H Q=>∃l b xs zs,x=.ref l/\y=.ref b/\H l=some (.lst xs)/\H b=some (.lst zs)/\xs.length+zs.length<=sizeLine/\∀p,H p=none->Q (.ref p) (upd H p (.lst (xs++zs)))
def Dl:gC X (binaryOp .Add) HP:=by
 intro pins s σ H x y v u Q I rx ry h
 obtain⟨l,b,xs,zs,rfl,rfl,hH,hB,hz,q⟩:=h
 cases rx
 cases ry
 obtain⟨z,its,n,r,hl,e⟩:=I.wc hH
 obtain⟨z2,tX,n2,r2,pX,e2⟩:=I.wc hB
 show PySem.P.add_list e e2 ?_ (by rw[RH,RH];lia)
 have ea:its.toArray++tX.toArray=(its++tX).toArray:=by simp
 rw[ea]
 show⟨.ref _,_,I.K3 (t':=s.toks) (r.append r2) (by rw[Rx];lia),U,q _ I.fresh⟩
end
end L2
namespace LK
open PySem PySem.W PySem.Calls PyProof.Rows
def jG {P:Params}{h:Heap}:∀(ns:List Int) (vs:List Value),WellAll P h vs (ns.map WData.int)->IntsAre vs ns:=by
 intro ns
 induction ns with
 | nil=>
   intro vs w
   rw[Ud]at w
   cases w
   show .nil
 | cons n ns ih=>
   intro vs w
   rw[R3]at w
   cases w with
   | cons a b=>
     cases a
     show .cons _ _ (ih _ b)
def uK {l:OpenLaw}{n:Nat}(hn:l.most=some n){P:Params}{h:Heap}{args:List WData}{vals:List Value}
   (hpre:l.row.toRowW.claim.pre args=true) (hwl:WellAll P h vals args) :
   ∃a vs ns,vals=[R6 a]/\args=[WData.list (ns.map WData.int)]/\h.get? a=some {cls:=.type "list",data:=.seq vs.toArray}/\IntsAre vs ns/\ns.length<=n:=by
 have Po:WShape.hasAll [] args [.list .int]=true:=(pre_splitW hpre).1
 have hc:l.pre.holds [] {args:=args}=true:=(pre_splitW hpre).2
 obtain⟨d,r,rfl,h1,h2⟩:=hasAllW_cons Po
 obtain rfl:=hasAllW_nil h2
 obtain⟨xs,rfl,h3⟩:=hasW_list h1
 obtain⟨ns,rfl⟩:=items_int h3
 have hlen:ns.length<=n:=by
   unfold OpenLaw.pre at hc
   have h4:(WTm.not (.lt (.lit (.int (n:Int))) (.len (.arg 0)))).holds [] {args:=[.list (ns.map .int)]}=true:=by
     have h4:=(holds_andW hc).1
     rw[hn]at h4
     show h4
   have h5:=condW_of h4 (w_not (w_lt w_lit (w_len_list (w_arg rfl))))
   rw[Rn]at h5
   show Nat.le_of_not_lt fun q=>?_
   have q':(n:Int)<((ns.length:Nat):Int):=by lia
   first
     | (rw[hW q']at h5;show au h5 (by left))
     | (simp at h5;lia)
 cases hwl with
 | cons w1 w2=>
   cases w2
   cases w1 with
   | list ho hall=>show⟨_,_,ns,rfl,rfl,ho,jG ns _ hall,hlen⟩
def uz (l:OpenLaw)(args:List WData):l.row.toRowW.claim.post args (.bool true) args=true:=
 postW_of (r:=l.row.toRowW) (X:=(true==true))
   (show WShape.has [] (.bool true) .bool=true by first|rfl|decide|simp[WShape.has,WShape.arms,WShape.armsAll])
   (show(WTm.eq .res (.lit (.bool true))).value [] {args:=args,res:=some (.bool true),after:=args}=some (.bool (true==true))from w_eq_bool (w_res rfl) w_lit) rfl
def oq {l:OpenLaw}{n:Nat}{q:Program}{loose:List Str}{XP:(Str->Option Value)->Heap->Prop}{YP:World->Heap->Prop}{d:DefRec}
   (hn:l.most=some n) (hdf:d.params.defaults=[])
   (call:∀(w:World) (s₀ s₁:Shared) (mg mb:Str->Option Value) (fa:Addr) (o:Obj) (pm cd doc:Value) (a:Addr) (vs:List Value) (ns:List Int),
     Ground q loose [] XP w s₀ mg mb s₁.heap->YP w s₁.heap ->
     s₁.heap.get? fa=some o->o.data=.func (docDef d.name d.params d.body d.scope pm cd doc)->s₁.heap.CodeRec cd d.name->mg d.name=some (.ref fa) ->
     s₁.heap.get? a=some {cls:=.type "list",data:=.seq vs.toArray}->IntsAre vs ns->ns.length<=n->s₁.gens=#[] ->
     codeAny (model l.prog w) callerA (.call (.ref fa) ⟨[.ref a],[]⟩) (fun r s'=>r=.ok (.ret (.bool true))/\OldK s₁.heap s'.heap/\s'.os=s₁.os/\AllBare s'.gens) s₁) :
   WalkO q loose XP YP l.row.toRowW d [] (fun f vs=>PySem.call f vs):=by
 intro w s₀ s₁ mg mb G Y8 fa o pm cd doc dV kV ho hd hcd hD hmg hg args vals as hpre O8 Q2 hwl QZ
 obtain rfl:dV=.none:=Dflts.none hD hdf
 obtain rfl:kV=.none:=Dflts.noKw hD
 obtain⟨a,vs,ns,rfl,rfl,CH,hints,hlen⟩:=uK hn hpre hwl
 show enter_call (codeAny_mono (call w s₀ s₁ mg mb fa o pm cd doc a vs ns G Y8 ho (fd_plain hd) hcd hmg CH hints hlen hg) fun r s' hq=>?_)
 obtain⟨rfl,h2,h3,h4⟩:=hq
 show⟨.inl ⟨.bool true,.bool true,[],U,fun z=>rfl,.bool true,uz l _,fun z=>⟨List.Pairwise.nil,fun z hm=>(nomatch hm)⟩⟩,h2,h3,h4⟩
end LK
namespace L2
open PySem PySem.Spec PyProof.Rows
theorem mE:∀{vs:List Value} {ns:List Int},IntsAre vs ns->Vals (ns.map V.int) vs
 | _,_,.nil=>.nil
 | _,_,.cons n t h=>.cons ⟨t,rfl⟩ (mE h)
def B9 (H:Hp):Prop:=∀b,H b=none\/∃o xs,H b=some (.frz o (.lst xs))
def wa {P:Program}{w:World}{K:Ro}{mg mb:Str->Option Value}{CX:uT}{k:Nat}{fa a:Addr}{fd:RZ}{x:Str}{sp:Sp}{s₁:Shared}{vs:List Value}{ns:List Int}
   (KX:K.In s₁.heap) (hns:s₁.heap.Ns SD mg) (hb:s₁.heap.Ns builtinsNs mb) (hbb:∀x:Str,x≠"__name__"->mb x=SJ x) (hlim:s₁.heap.NoLimit) (hg:s₁.gens=#[])
   (ha:s₁.heap.get? a=some {cls:=.type "list",data:=.seq vs.toArray}) (hi:IntsAre vs ns) (hl:ns.length<=sizeLine) (hr:bY k callerA)
   (F:∀base:Heap,K.In base->base.Ns SD mg->aY P w K mg base CX k fa fd [x] sp) (hbind:∀(s:Shared) (u:Value),BindsTo s fd ⟨[u],[]⟩ [(x,u)])
   (hsp:∀H:Hp,B9 H->aH K H a (ns.map V.int)->sp [.ref a] H (fun v y=>v=.bl true) fun y y y=>False)
   (hCX:∀H e s',CX [] H s₁ (fun y y y=>False) e s'->False) :
   codeAny (model P w) callerA (.call (.ref fa) ⟨[.ref a],[]⟩) (fun r s'=>r=.ok (.ret (.bool true))/\OldK s₁.heap s'.heap/\s'.os=s₁.os/\AllBare s'.gens) s₁:=by
 have rv:=mE hi
 have K1:=hi.length
 have core:∀H:Hp,B9 H->aH K H a (ns.map V.int)->fW P w H s₁.heap->(∀b,H b≠none->b=a)->(H a≠none->K.lookup a=none) ->
     codeAny (model P w) callerA (.call (.ref fa) ⟨[.ref a],[]⟩) (fun r s'=>r=.ok (.ret (.bool true))/\OldK s₁.heap s'.heap/\s'.os=s₁.os/\AllBare s'.gens) s₁:=by
   intro H hO hS hok hA hK
   have qT:∀{b:Addr} {o:Obj},s₁.heap.get? b=some o->H b=none->(nh s₁.heap H).get? b=some o:=fun e n=>vO e n
   have noA:∀{b:Addr} {o:Obj} {es:Array TZ} {ep:Nat},s₁.heap.get? b=some o->o.data=.dict es ep->H b=none:=fun{b o es ep} e d=>by
     cases q:H b with
     | none=>rfl
     | some u=>
       have e':b=a:=hA b (by rw[q];simp)
       subst e'
       rw[ha]at e;cases e
       have d':Data.seq vs.toArray _=Data.dict es ep:=d
       cases d'
   have nsK:∀{b:Addr} {m:Str->Option Value},s₁.heap.Ns b m->(nh s₁.heap H).Ns b m:=fun{b m} ⟨o,es,ep,e,d,r⟩=>⟨o,es,ep,qT e (noA e d),d,r⟩
   have Mt:K.In (nh s₁.heap H):=fun b o e=>qT (KX b o e) (by
     cases q:H b with
     | none=>rfl
     | some u=>
       have e':b=a:=hA b (by rw[q];simp)
       subst e'
       rw[hK (by rw[q];simp)]at e;cases e)
   have hM:Mod K mg (nh s₁.heap H):=⟨Mt,nsK hns,⟨mb,nsK hb,hbb⟩,let⟨mc,h1,h2⟩:=hlim;⟨mc,nsK h1,h2⟩⟩
   have e0:pD P w K mg (nh s₁.heap H) callerA [] s₁ H:=⟨rfl,hM,fun b o e=>zI e,Nat.le_of_eq (tT _ _),trivial,fun b hb=>au (show b∈([]:List Addr)from hb) (by simp),hok,.of_eq hg⟩
   show codeAny_mono ((F _ Mt (nsK hns)).run callerA [] s₁ H ⟨[.ref a],[]⟩ [.ref a] [.ref a] _ _ hr e0 (hbind s₁ (.ref a)) (.cons rfl .nil) (hsp H hO hS)) fun r s' h=>?_
   cases r with
   | error e=>show(hCX H e s' h).elim
   | ok fl=>
     cases fl with
     | next=>show Tb h
     | brk=>show Tb h
     | cont=>show Tb h
     | ret u=>
       obtain⟨v,H',os,bare,un,KN,r',q⟩:=h
       have q':v=.bl true:=q
       subst q'
       obtain rfl:u=Ur true:=r'
       show⟨U,OldK.of_keep fun b o e=>?_,os,bare⟩
       cases q:H b with
       | none=>show un.keep b o e q (by intro z;show au (show b∈([]:List Addr)from z) (by simp)) (by simp)
       | some u=>
         rcases hO b with z|⟨ob,xs,z⟩
         . rw[q]at z;cases z
         . have z2:=un.frzs b ob _ z
           obtain⟨e1,_⟩:=hok b _ z
           obtain⟨e2,_⟩:=KN b _ z2
           rw[e]at e1;cases e1
           show e2
 cases hk:K.lookup a with
 | some o=>
   have e:=KX a o hk
   rw[ha]at e
   cases e
   show core (fun y=>none) (fun y=>.inl rfl) (.inr ⟨_,vs.toArray,_,hk,U,U,U,by rw[RH,K1];show hl,by simpa using rv⟩) (fun b u z=>by have z':(none:Option HO)=some u:=z;cases z') (fun b z=>au rfl z) fun z=>au rfl z
 | none=>
   show core (fun b=>if b=a then some (.frz {cls:=.type "list",data:=.seq vs.toArray} (.lst (ns.map V.int)))else none) (fun b=>?_) (.inl (.inr ⟨{cls:=.type "list",data:=.seq vs.toArray},dI rfl⟩)) (fun b u z=>?_) (fun b z=>?_) fun y=>hk
   . by_cases hb:b=a
     . show .inr ⟨_,_,dI hb⟩
     . show .inl (dh hb)
   . by_cases hb:b=a
     . have z':=(dI hb).symm.trans z
       cases z'
       subst hb
       show⟨ha,by rw[Rn];show hl,vs,_,rv,ha⟩
     . have z':=(dh hb).symm.trans z
       cases z'
   . by_cases hb:b=a
     . show hb
     . show au (dh hb) z
def AQ {l:PySem.W.OpenLaw}{n k:Nat}{q:Program}{loose:List Str}{XP:(Str->Option Value)->Heap->Prop}{YP:World->Heap->Prop}{d:DefRec}{K:Params->Ro}{CX:World->uT}{sp:World->Sp}{x:Str}
   (hn:l.most=some n) (hn2:n<=sizeLine) (hdf:d.params.defaults=[]) (hr:bY k callerA)
   (hY:∀(w:World) (h:Heap),YP w h->(K w.params).In h)
   (F:∀(w:World) (mg:Str->Option Value) (fa:Addr) (h:Heap),(K w.params).In h->h.Ns SD mg->mg d.name=some (.ref fa) ->
     ∃fd:RZ,(∀(s:Shared) (u:Value),BindsTo s fd ⟨[u],[]⟩ [(x,u)]) /\
       ∀base:Heap,(K w.params).In base->base.Ns SD mg->aY l.prog w (K w.params) mg base (CX w) k fa fd [x] (sp w))
   (hsp:∀(w:World) (H:Hp) (a:Addr) (ns:List Int),ns.length<=n->B9 H->aH (K w.params) H a (ns.map V.int)->sp w [.ref a] H (fun v z=>v=.bl true) fun z z z=>False)
   (hCX:∀(w:World) (H:Hp) (s:Shared) (e:Value) (s':Shared),CX w [] H s (fun z z z=>False) e s'->False) :
   PySem.W.WalkO q loose XP YP l.row.toRowW d [] (fun f vs=>PySem.call f vs):=by
 show LK.oq hn hdf fun w s₀ s₁ mg mb fa o pm cd doc a vs ns G Y8 ho hd hcd hmg CH hints hlen hg=>?_
 have KX:=hY w _ Y8
 obtain⟨fd,hb,hF⟩:=F w mg fa _ KX G.T.g hmg
 show wa KX G.T.g G.T.b G.T.builtins G.T.nolimit hg CH hints (Ry hlen hn2) hr hF hb (fun H hO hS=>hsp w H a ns hlen hO hS) fun H e s'=>hCX w H s₁ e s'
def dt (s:Stmt):Arguments:=match s with
 | .FunctionDef _ a _ _ _ _ _ _ _ _=>a
 | _=>{posonlyargs:=[],args:=[],vararg:=none,kwonlyargs:=[],kw_defaults:=[],kwarg:=none,defaults:=[]}
def ck (s:Stmt):List Stmt:=match s with
 | .FunctionDef _ _ b _ _ _ _ _ _ _=>b
 | _=>[]
def ao (s:Stmt):Scope:=match s with
 | .FunctionDef _ _ _ _ _ _ sc _ _ _=>sc
 | _=>{kind:=.function,names:=[],isGenerator:=false,isCoroutine:=false}
abbrev dq:uT:=fun _ _ _ _ _ _=>False
abbrev E0:XK:=fun _ _ _=>False
def rK {X:Cx}:Passes dq X E0:=fun z z z z z z z h=>h.elim
structure cD (K:Ro)(x qual:Str)(st:Stmt)(f:Addr)(fd:RZ):Prop where
 ex:∃(oc:Value) (od:Option Addr) (kV doc pm:Value) (an:Option Addr) (cdv ct:Value) (osl:Array (Option Value)),
   fd=S6 x qual (dt st) (ck st) (ao st) .none kV doc pm an cdv ct/\K.lookup f=some ⟨oc,od,.func fd,osl⟩/\UO K cdv qual=true
 kp:Tf K (.ref f)=true
section
variable{P:Program}{w:World}{K:Ro}{mg:Str->Option Value}{base:Heap}
def cD.ok {x qual:Str}{st:Stmt}{f:Addr}{fd:RZ}{N ps:List Str}{k:Nat}{sp:Sp}(F:cD K x qual st f fd)(S:aC N ps (ao st))(len:∀vs H Q E,sp vs H Q E->vs.length=ps.length)
   (hbody:∀(cdv:Value) (A:Around) (outer:List Env) (s:Shared) (H:Hp) (vs:List V) (Q:VK) (E:XK),bY k (A.deeper (envOfC qual (ao st) s.heap.objs.size f cdv))->sp vs H Q E ->
     ∃t,lD (cY dq P w K mg base N qual (ao st) f cdv A outer s H E).nD (ck st) t/\t {nx:=fun z H'=>Q .bI H',rt:=Q} (start N vs) H):aY P w K mg base dq (k+1) f fd ps sp:=by
 obtain⟨oc,od,kV,doc,pm,an,cdv,ct,osl,rfl,lk,hcd⟩:=F.ex
 show A2 lk hcd S len fun A outer s H vs Q E hr hsp=>?_
 obtain⟨t,h,q⟩:=hbody cdv A outer s H vs Q E hr hsp
 show⟨t,h.nD,q⟩
def cD.iU {x qual:Str}{st:Stmt}{f:Addr}{fd:RZ}{N ps:List Str}{k:Nat}{sp:Sp}(F:cD K x qual st f fd)(S:aC N ps (ao st))(hbody:∀(cdv:Value) (A:Around) (outer:List Env) (s:Shared) (H:Hp) (vs:List V) (Q:VK) (E:XK),bY k (A.deeper (envOfC qual (ao st) s.heap.objs.size f cdv))->sp vs H Q E->∃t,lD (cY dq P w K mg base N qual (ao st) f cdv A outer s H E).nD (ck st) t/\t {nx:=fun z H'=>Q .bI H',rt:=Q} (start N vs) H)(len:∀vs H Q E,sp vs H Q E->vs.length=ps.length:=by intro vs H Q E h;repeat first|(obtain⟨rfl,_⟩:=h;rfl)|obtain⟨_,h⟩:=h):aY P w K mg base dq (k+1) f fd ps sp:=F.ok S len hbody
def cD.binds {x qual:Str}{st:Stmt}{f:Addr}{fd:RZ}{ps:List Str}(F:cD K x qual st f fd)
   (h:∀(kV doc pm:Value) (an:Option Addr) (cdv ct:Value) (us:List Value),us.length=ps.length->V3 (S6 x qual (dt st) (ck st) (ao st) .none kV doc pm an cdv ct) ⟨us,[]⟩=pure (ps.zip us)):Binds K fd ps []:=by
 obtain⟨oc,od,kV,doc,pm,an,cdv,ct,osl,rfl,lk,hcd⟩:=F.ex
 show .all (h kV doc pm an cdv ct)
def fD {x qual:Str}{st:Stmt}{f:Addr}{oc:Value}{od an:Option Addr}{osl:Array (Option Value)}{kV doc pm cdv ct:Value}(l:K.lookup f=some ⟨oc,od,.func (S6 x qual (dt st) (ck st) (ao st) .none kV doc pm an cdv ct),osl⟩)
   (c:UO K cdv qual=true) (k:Tf K (.ref f)=true):cD K x qual st f (S6 x qual (dt st) (ck st) (ao st) .none kV doc pm an cdv ct):=⟨⟨oc,od,kV,doc,pm,an,cdv,ct,osl,rfl,l,c⟩,k⟩
end
def aW {n:Nat}(h:n<=1000):n<sizeLine:=Tv h (by left)
def cb {A B:Prop}(h:B):if false=true then A else B:=by
 rw[dh RV]
 show h
def b6 {A B:Prop}(h:A):if true=true then A else B:=by
 rw[dI rfl]
 show h
def aG {c A B:Prop}[Decidable c](h1:c->A)(h2:¬ c->B):if c then A else B:=by
 by_cases h:c
 . rw[dI h]
   show h1 h
 . rw[dh h]
   show h2 h
def ai (H H':Hp):Prop:=∀b o,H b=some o->H' b=some o
def ai.seq {K:Ro}{H H':Hp}{a:Addr}{xs:List V}(e:ai H H')(h:aH K H a xs):aH K H' a xs:=by
 rcases h with(h|⟨o,h⟩)|h
 . show .inl (.inl (e _ _ h))
 . show .inl (.inr ⟨o,e _ _ h⟩)
 . show .inr h
section
variable{κ:Type}[DecidableEq κ]
def fj (kvs:List (κ×V))(k:κ):Option V:=(kvs.find? fun kv=>decide (kv.1=k)).map (·.2)
def putK (kvs:List (κ×V))(k:κ)(v:V):List (κ×V):=
 if(kvs.any fun kv=>decide (kv.1=k))=true then kvs.map (fun kv=>if kv.1=k then(kv.1,v)else kv)else kvs++[(k,v)]
def je {p:κ×V}{r:List (κ×V)}{k:κ}(e:p.1=k):fj (p::r) k=some p.2:=by simp[fj,T4,e]
def fT {p:κ×V}{r:List (κ×V)}{k:κ}(e:¬ p.1=k):fj (p::r) k=fj r k:=by simp[fj,T4,e]
theorem lC (k:κ):∀kvs:List (κ×V),(kvs.any fun kv=>decide (kv.1=k))=(fj kvs k).isSome
 | []=>rfl
 | p::r=>by
   rw[UA]
   by_cases e:p.1=k
   . simp only[je e,hW e,Bool.true_or,Option.isSome_some]
   . rw[fT e,gv e,Bool.false_or];show lC k r
def fG (kvs:List (κ×V))(k:κ)(v:V):(putK kvs k v).length<=kvs.length+1:=by
 unfold putK
 split
 . rw[Rn];lia
 . rw[Rx,RE,Tx];lia
def eh.jn {o:Option V}{u:Option Value}(r:eh o u):o.isSome=u.isSome:=by
 cases o with
 | none=>cases u with
   | none=>rfl
   | some _=>show(show False from r).elim
 | some _=>cases u with
   | none=>show(show False from r).elim
   | some _=>rfl
theorem eh.getD {o:Option V}{u:Option Value}{d:V}{d':Value}(r:eh o u)(rd:RelV d d'):RelV (o.getD d) (u.getD d'):=by
 cases o with
 | none=>cases u with
   | none=>show rd
   | some _=>show(show False from r).elim
 | some _=>cases u with
   | none=>show(show False from r).elim
   | some _=>show r
def KV.val {kvs:List (κ×V)}{vs:List (κ×Value)}(r:KV kvs vs)(k:κ):eh (fj kvs k) (valueAt vs k):=by
 unfold KV at r
 induction r with
 | nil=>show RO
 | @cons p q ps qs h t ih=>
   obtain⟨h1,h2⟩:=h
   by_cases e:p.1=k
   . have e':q.1=k:=h1.symm.trans e
     have b:valueAt (q::qs) k=some q.2:=by simp[valueAt,T4,e']
     rw[je e,b];show h2
   . have e':¬ q.1=k:=fun z=>e (h1.trans z)
     have b:valueAt (q::qs) k=valueAt qs k:=by simp[valueAt,T4,e']
     rw[fT e,b];show ih
theorem KV.any {kvs:List (κ×V)}{vs:List (κ×Value)}(r:KV kvs vs)(k:κ):(kvs.any fun kv=>decide (kv.1=k))=vs.any fun kv=>decide (kv.1=k):=by
 unfold KV at r
 induction r with
 | nil=>rfl
 | cons h t ih=>rw[UA,UA,ih,h.1]
def KV.Ej {kvs:List (κ×V)}{vs:List (κ×Value)}(r:KV kvs vs)(k:κ){y:V}{u:Value}(ry:RelV y u) :
   KV (kvs.map fun kv=>if kv.1=k then(kv.1,y)else kv) (vs.map fun kv=>if kv.1=k then(kv.1,u)else kv):=by
 unfold KV at r ⊢
 induction r with
 | nil=>show .nil
 | @cons p q ps qs h t ih=>
   rw[R3,R3]
   show .cons ?_ ih
   obtain⟨h1,h2⟩:=h
   by_cases e:p.1=k
   . rw[dI e,dI (h1.symm.trans e)];show⟨h1,ry⟩
   . rw[dh e,dh (fun z=>e (h1.trans z))];show⟨h1,h2⟩
def KV.put {kvs:List (κ×V)}{vs:List (κ×Value)}(r:KV kvs vs)(k:κ){y:V}{u:Value}(ry:RelV y u):KV (putK kvs k y) (stored vs k u):=by
 unfold putK stored
 rw[r.any k]
 by_cases e:(vs.any fun kv=>decide (kv.1=k))=true
 . rw[dI e,dI e];show r.Ej k ry
 . rw[dh e,dh e];show Paired.snoc r ⟨rfl,ry⟩
def KV.length {kvs:List (κ×V)}{vs:List (κ×Value)}(r:KV kvs vs):kvs.length=vs.length:=Paired.length r
end
def oQ {P:Program}{w:World}{k:Key}{u:Value}(r:RelV (kV k) u):(bH P w).is k u=true:=by
 cases k with
 | inl i=>obtain⟨t,e⟩:=(show ∃t,u=UL i t from r);subst e;show oS P w i t
 | inr x=>obtain⟨t,e⟩:=(show ∃t,u=Uq x t from r);subst e;show oU P w x t
theorem me {P:Program}{w:World}:∀{ks:List Key} {us:List Value},Vals (ks.map kV) us->ItemsAre (bH P w) ks us
 | [],_,r=>by rw[Ud]at r;cases r;show .nil
 | k::ks,_,r=>by
   rw[R3]at r
   cases r with
   | cons h t=>show .cons (oQ h) (me t)
abbrev KT (H:Hp):List (List Key×V)->List (List Key×Addr×Value)->Prop:=Paired fun p q=>p.1=q.1/\H q.2.1=some (.tup (p.1.map kV))/\RelV p.2 q.2.2
def KT.val {H:Hp}{kvs:List (List Key×V)}{xs:List (List Key×Addr×Value)}(r:KT H kvs xs)(k:List Key):eh (fj kvs k) ((atKey xs k).map (·.2)):=by
 induction r with
 | nil=>show RO
 | @cons p q ps qs h t ih=>
   obtain⟨h1,_,h2⟩:=h
   by_cases e:p.1=k
   . have e':q.1=k:=h1.symm.trans e
     have b:atKey (q::qs) k=some q.2:=by simp[atKey,T4,e']
     rw[je e,b];show h2
   . have e':¬ q.1=k:=fun z=>e (h1.trans z)
     have b:atKey (q::qs) k=atKey qs k:=by simp[atKey,T4,e']
     rw[fT e,b];show ih
def KT.Ej {H:Hp}{kvs:List (List Key×V)}{xs:List (List Key×Addr×Value)}(r:KT H kvs xs)(k:List Key){y:V}{u:Value}(ry:RelV y u) :
   KT H (kvs.map fun kv=>if kv.1=k then(kv.1,y)else kv) (xs.map (putAt k u)):=by
 induction r with
 | nil=>show .nil
 | @cons p q ps qs h t ih=>
   rw[R3,R3]
   show .cons ?_ ih
   obtain⟨h1,h2,h3⟩:=h
   unfold putAt
   by_cases e:p.1=k
   . rw[dI e,dI (h1.symm.trans e)];show⟨h1,h2,ry⟩
   . rw[dh e,dh (fun z=>e (h1.trans z))];show⟨h1,h2,h3⟩
def KT.put {H:Hp}{kvs:List (List Key×V)}{xs:List (List Key×Addr×Value)}(r:KT H kvs xs)(k:List Key){b:Addr}{y:V}{u:Value}(hb:H b=some (.tup (k.map kV)))(ry:RelV y u) :
   KT H (putK kvs k y) (storedH xs k b u):=by
 have e:(kvs.any fun kv=>decide (kv.1=k))=(atKey xs k).isSome:=by
   rw[lC,(r.val k).jn,Option.isSome_map]
 unfold putK storedH
 rw[e]
 by_cases q:(atKey xs k).isSome=true
 . rw[dI q,dI q];show r.Ej k ry
 . rw[dh q,dh q];show Paired.snoc r ⟨rfl,hb,ry⟩
def KT.keeps {H H':Hp}{kvs:List (List Key×V)}{xs:List (List Key×Addr×Value)}(r:KT H kvs xs)(ht:∀b ys,H b=some (.tup ys)->H' b=some (.tup ys)):KT H' kvs xs:=
 Paired.cZ r fun y y z=>⟨z.1,ht _ _ z.2.1,z.2.2⟩
section
variable{P:Program}{w:World}{H:Hp}{h:Heap}{a:Addr}
def Bw {u:HO}(ok:fW P w H h)(e:Rd H a u):bB P w H h a u:=e.ok ok
def qZ {kvs:List (Key×V)}(ok:fW P w H h)(e:Rd H a (.dK kvs)):kvs.length<=sizeLine/\(a==Th)=false/\∃vs,KV kvs vs/\h.DictOf (bH P w) a vs:=
 show bB P w H h a (.dK kvs)from Bw ok e
def A1 {kvs:List (Key×V)}(ok:fW P w H h)(e:H a=some (.dK kvs)):kvs.length<=sizeLine/\(a==Th)=false/\∃vs,KV kvs vs/\h.DictOf (bH P w) a vs:=qZ ok (.inl e)
def nr {ks:List Key}(ok:fW P w H h)(e:H a=some (.tup (ks.map kV))):(tupleKind (bH P w)).is h ks a:=by
 obtain⟨_,its,r,o,h1,h2,n,h3⟩:=(show bB P w H h a (.tup (ks.map kV))from ok a _ e)
 show⟨o,its.toArray,n,h1,h2,h3,by simpa using me r⟩
def q9 {kvs:List (List Key×V)}(ok:fW P w H h)(e:Rd H a (.dT kvs)):kvs.length<=sizeLine/\(a==Th)=false /\
   ∃xs,KT H kvs xs/\h.DictOfH (tupleKind (bH P w)) a xs:=by
 obtain⟨z,y,xs,r,o,es,ep,h1,h2,h3,h4,h5⟩:=(show bB P w H h a (.dT kvs)from Bw ok e)
 show⟨z,y,xs,r,o,es,ep,h1,h2,h3,h4,fun x hx=>?_,h5⟩
 have all:∀{l:List (List Key×V)} {m:List (List Key×Addr×Value)},KT H l m->∀x∈m,(tupleKind (bH P w)).is h x.1 x.2.1:=by
   intro l m q
   induction q with
   | nil=>intro x hx;show nomatch hx
   | @cons p q ps qs hq t ih=>
     intro x hx
     rcases List.mem_cons.mp hx with e|hx
     . subst e
       show nr ok (by rw[← hq.1];show hq.2.1)
     . show ih x hx
 show all r x hx
def FQ {kvs:List (List Key×V)}(ok:fW P w H h)(e:H a=some (.dT kvs)):kvs.length<=sizeLine/\(a==Th)=false /\
   ∃xs,KT H kvs xs/\h.DictOfH (tupleKind (bH P w)) a xs:=q9 ok (.inl e)
end
def j6 (H:Hp)(a:Addr)(y:V)(r:Option V):Prop:=
 (∃kvs k,Rd H a (.dK kvs)/\y=kV k/\r=fj kvs k)\/∃kvs k b,Rd H a (.dT kvs)/\y=.ref b/\H b=some (.tup (k.map kV))/\r=fj kvs k
def u5 (H:Hp)(a:Addr)(y v:V)(H':Hp):Prop:=
 (∃kvs k,H a=some (.dK kvs)/\y=kV k/\kvs.length<sizeLine/\H'=upd H a (.dK (putK kvs k v))) \/
 ∃kvs k b,H a=some (.dT kvs)/\y=.ref b/\H b=some (.tup (k.map kV))/\kvs.length<sizeLine/\H'=upd H a (.dT (putK kvs k v))
def j6.k {H:Hp}{a:Addr}{kvs:List (Key×V)}{k:Key}(e:H a=some (.dK kvs)):j6 H a (kV k) (fj kvs k):=.inl ⟨kvs,k,.inl e,rfl,rfl⟩
def j6.t {H:Hp}{a b:Addr}{kvs:List (List Key×V)}{k:List Key}(e:H a=some (.dT kvs))(eb:H b=some (.tup (k.map kV))):j6 H a (.ref b) (fj kvs k):=.inr ⟨kvs,k,b,.inl e,rfl,eb,rfl⟩
def u5.t {H:Hp}{a b:Addr}{kvs:List (List Key×V)}{k:List Key}{v:V}(e:H a=some (.dT kvs))(eb:H b=some (.tup (k.map kV)))(hl:kvs.length<sizeLine) :
   u5 H a (.ref b) v (upd H a (.dT (putK kvs k v))):=.inr ⟨kvs,k,b,e,rfl,eb,hl,rfl⟩
section
variable{X:Cx}{pins:List (Addr×Obj)}{σ:St}{H:Hp}{s:Shared}{a:Addr}{y v:V}{u r:Value}{o:Option V}{A:Around}{E:Value->Shared->Prop}
def Inv.big (I:Inv X pins σ H s):Th<s.heap.objs.size:=by
 have h:SD<s.heap.objs.size:=(I.mod.glob.keeps I.bk).lt
 show TC (by left) h
def tE {Q:Value->Shared->Prop}(hu:A.units+1<cLine)(I:Inv X pins σ H s)(g:j6 H a y (some v))(ry:RelV y u)(h:∀w' s',Inv X pins σ H s'->RelV v w'->Q w' s') :
   wpAny (model X.prog X.w) A (getItem (.ref a) u) Q E s:=by
 rcases g with⟨kvs,k,e,ey,l⟩|⟨kvs,k,b,e,ey,eb,l⟩
 . subst ey
   obtain⟨z,hd,vs,rel,dd⟩:=qZ I.hok e
   obtain⟨w',hw,rw'⟩:=eh.some_of (v:=v) (o:=valueAt vs k) (by rw[l];show rel.val k)
   show wpAny_getItem_of (oQ ry) dd.mapOf hw (h w' _ (I.tok _) rw')
 . subst ey
   cases(show u=R6 b from ry)
   obtain⟨z,hd,xs,rel,dd⟩:=q9 I.hok e
   obtain⟨w',hw,rw'⟩:=eh.some_of (v:=v) (o:=(atKey xs k).map (·.2)) (by rw[l];show rel.val k)
   obtain⟨p,hp,rn⟩:=Option.map_eq_some_iff.mp hw
   show wpAny_getItem_heap (tupleKind_room_in1 hu) (nr I.hok eb) dd hp ?_
   rw[rn]
   show h w' _ (I.tok _) rw'
def JP {Q:Value->Shared->Prop}(hu:A.units+1<cLine)(I:Inv X pins σ H s)(g:j6 H a y o)(ry:RelV y u)(h:∀s',Inv X pins σ H s'->Q (.bool o.isSome) s') :
   wpAny (model X.prog X.w) A (compareOp .In u (.ref a)) Q E s:=by
 rcases g with⟨kvs,k,e,ey,l⟩|⟨kvs,k,b,e,ey,eb,l⟩
 . subst ey
   obtain⟨z,hd,vs,rel,dd⟩:=qZ I.hok e
   show wpAny_in_of (oQ ry) hd dd.mapOf ?_
   rw[← (rel.val k).jn,← l]
   show h _ (I.tok _)
 . subst ey
   cases(show u=R6 b from ry)
   obtain⟨z,hd,xs,rel,dd⟩:=q9 I.hok e
   show wpAny_in_heap (tupleKind_room_in1 hu) (nr I.hok eb) hd dd ?_
   have q:=(rel.val k).jn
   rw[Option.isSome_map]at q
   rw[← q,← l]
   show h _ (I.tok _)
def mX {h':Heap}{t':Nat}{ob:HO}(I:Inv X pins σ H s)(mu:Fz (H a))(hs:Sz a s.heap h')(he:∃q,h'.get? a=some q)(new:bB X.prog X.w (upd H a ob) h' a ob) :
   Inv X pins σ (upd H a ob) {s with heap:=h',toks:=t'}:=
 I.write (x:=a) (e:=a) mu (.inl rfl) (fun b q hb z=>(hs.2 b hb).trans z) he new
def vt {P:Program}{w:World}{H':Hp}{h':Heap}{kvs:List (Key×V)}{vs:List (Key×Value)}(z:kvs.length<=sizeLine)(hd:(a==Th)=false)(rel:KV kvs vs)(dd:h'.DictOf (bH P w) a vs) :
   bB P w H' h' a (.dK kvs):=⟨z,hd,vs,rel,dd⟩
end
def u6 (i:Expr):Prop:=∀ov iv,subscripted i false ov iv=operate [ov,iv] (getItem ov iv)
def sr {prog:Program}{w:World}{A:Around}{E:Value->Shared->Prop}{s:Shared}{env:Env}{value slice:Expr}{pos:Pos}{T id:String}{Q:Value->Shared->Prop}
   (hl:typeLookup (.type T) "__getitem__"=pure (some (.builtin id))) (hs:u6 slice)
   (h:wpAny (model prog w) A (eval value env) (fun o s₁=>wpAny (model prog w) A (eval slice env) (fun i s₂=>s₂.TypeIs o T/\wpAny (model prog w) A (getItem o i) Q E s₂) E s₁) E s) :
   wpAny (model prog w) A (eval (.Subscript value slice pos) env) Q E s:=by
 show Subscript_ (wpAny_mono h (fun o s₁ h₁=>wpAny_mono h₁ (fun i s₂ h₂=>?_) fun z z x=>x) fun z z x=>x)
 obtain⟨hT,h₂⟩:=h₂
 unfold subscriptTail
 show wpAny_bind ?_
 rw[getitemInPython_of_ne hT.not_modules]
 show wpAny_bind (wpAny_specialOf hT hl ?_)
 have fin:wpAny (model prog w) A (subscripted slice false o i) (fun r s₃=>wpAny (model prog w) A (letTemporaryGo value o r>>=fun z=>pure r) Q E s₃) E s₂:=by
   rw[hs o i]
   show wpAny_operating (wpAny_mono h₂ (fun r s₃ h₃=>wpAny_bind (wpAny_letTemporaryGo (wpAny_pure h₃))) fun z z x=>x)
 first
   | show wpAny_pure (wpAny_bind fin)
   | show wpAny_bind (wpAny_pure (wpAny_bind fin))
   | show wpAny_bind fin
def oA {X:Cx}{pins:List (Addr×Obj)}{σ:St}{H:Hp}{s:Shared}{a:Addr}{y:V}{o:Option V}(I:Inv X pins σ H s)(g:j6 H a y o):s.TypeIs (.ref a) "dict":=by
 rcases g with⟨kvs,k,e,_,_⟩|⟨kvs,k,b,e,_,_,_⟩
 . obtain⟨_,_,vs,_,dd⟩:=qZ I.hok e
   show dd.typeIs
 . obtain⟨_,_,xs,_,dd⟩:=q9 I.hok e
   show dd.typeIs
def BR (td ty:TE):TE:=fun σ H Q=>td σ H fun x H1=>ty σ H1 fun y H2=>∃a v,x=.ref a/\j6 H2 a y (some v)/\Q v H2
def Iz (ty td:TE):TE:=fun σ H Q=>ty σ H fun y H1=>td σ H1 fun x H2=>∃a o,x=.ref a/\j6 H2 a y o/\Q (.bl o.isSome) H2
section
variable{X:Cx}{o i e value:Expr}{pos pos' AN:Pos}{td ty tv:TE}
def z7 (hu:X.A.units+1<cLine)(ho:PE X o td)(hi:PE X i ty)(hs:u6 i):PE X (.Subscript o i pos) (BR td ty):=by
 intro pins s σ H Q I h
 show sr PySem.F.slot_dict_getitem.lookup hs (bw (ho pins s σ H _ I h) fun u s1 g9=>?_)
 obtain⟨x,H1,I1,rx,q1⟩:=g9
 show bw (hi pins s1 σ H1 _ I1 q1) fun iv s2 h9=>?_
 obtain⟨y,H2,I2,ry,a,v,ex,g,q2⟩:=h9
 subst ex
 obtain rfl:u=R6 a:=rx
 show⟨oA I2 g,tE hu I2 g ry fun w' s3 I3 rw'=>⟨v,H2,I3,rw',q2⟩⟩
def DF (hu:X.A.units+1<cLine)(hi:PE X i ty)(ho:PE X o td):PC X .In i o (Iz ty td):=by
 intro pins s σ H Q I h
 show bw (hi pins s σ H _ I h) fun iv s1 g9=>?_
 obtain⟨y,H1,I1,ry,q1⟩:=g9
 show bw (ho pins s1 σ H1 _ I1 q1) fun u s2 h9=>?_
 obtain⟨x,H2,I2,rx,a,ov,ex,g,q2⟩:=h9
 subst ex
 obtain rfl:u=R6 a:=rx
 show JP hu I2 g ry fun s3 I3=>⟨.bl ov.isSome,H2,I3,U,q2⟩
end
def vq {P:Program}{w:World}{H:Hp}(h:Heap)(hb:Th<h.objs.size):bB P w H (h.push {cls:=.type "dict",data:=.dict #[]}) h.objs.size (.dK []):=
 ⟨Sd _,beq_eq_false_iff_ne.mpr (Ne.symm (R1 hb)),[],.nil,Heap.DictOf.new h⟩
def vw {P:Program}{w:World}{H:Hp}(h:Heap)(hb:Th<h.objs.size):bB P w H (h.push {cls:=.type "dict",data:=.dict #[]}) h.objs.size (.dT []):=
 ⟨Sd _,beq_eq_false_iff_ne.mpr (Ne.symm (R1 hb)),[],.nil,_,#[],0,RK _ rfl,⟨rfl,rfl,rfl⟩,rfl,rfl,List.nodup_nil⟩
def qI:List (TE×TE)->St->Hp->(List (V×V)->Hp->Prop)->Prop
 | [],_,H,Q=>Q [] H
 | (tk,tv)::r,σ,H,Q=>tk σ H fun x H1=>tv σ H1 fun y H2=>qI r σ H2 fun ps H3=>Q ((x,y)::ps) H3
abbrev VV:List (V×V)->List (Value×Value)->Prop:=Paired fun p q=>RelV p.1 q.1/\RelV p.2 q.2
def FA (X:Cx)(pos:Pos)(keys:List (Option Expr))(values:List Expr)(trs:List (TE×TE)):Prop:=
 ∀(pins:List (Addr×Obj)) (s:Shared) (σ:St) (H:Hp) (Q:List (V×V)->Hp->Prop),Inv X pins σ H s->qI trs σ H Q ->
   wpAny (model X.prog X.w) X.A (evalPairs (pairTrees keys values X.env pos)) (fun vs s'=>∃ps H',Inv X pins σ H' s'/\VV ps vs/\Q ps H') X.xe s
def Aj {X:Cx}{pos:Pos}:FA X pos [] [] []:=fun pins s σ H Q I h=>pairTrees_nil_walk ⟨[],H,I,.nil,h⟩
def xx {X:Cx}{pos:Pos}{k v:Expr}{ks:List (Option Expr)}{vs:List Expr}{tk tv:TE}{trs:List (TE×TE)}(hk:PE X k tk)(hv:PE X v tv)(hr:FA X pos ks vs trs) :
   FA X pos (some k::ks) (v::vs) ((tk,tv)::trs):=fun pins s σ H Q I h=>
 pairTrees_cons_walk (bw (hk pins s σ H _ I h) fun u s1 ⟨x,H1,I1,rx,q1⟩=>bw (hv pins s1 σ H1 _ I1 q1) fun w2 s2 ⟨y,H2,I2,ry,q2⟩=>
   bw (hr pins s2 σ H2 _ I2 q2) fun ws s3 ⟨ps,H3,I3,rel,q3⟩=>⟨(x,y)::ps,H3,I3,.cons ⟨rx,ry⟩ rel,q3⟩)
def fH (kvs more:List (Key×V)):List (Key×V):=more.foldl (fun acc kv=>putK acc kv.1 kv.2) kvs
def KV.merge:∀{more:List (Key×V)} {rs:List (Key×Value)} {kvs:List (Key×V)} {vs:List (Key×Value)},KV more rs->KV kvs vs->KV (fH kvs more) (merged vs rs):=by
 intro more rs kvs vs r
 unfold KV at r
 induction r generalizing kvs vs with
 | nil=>intro q;show q
 | @cons p q ps qs h t ih=>
   intro r0
   have e:KV (putK kvs p.1 p.2) (stored vs q.1 q.2):=by
     have:=r0.put p.1 h.2
     rw[← h.1];show this
   show ih e
theorem gK:∀(more kvs:List (Key×V)),(fH kvs more).length<=kvs.length+more.length
 | [],kvs=>by change kvs.length<=kvs.length+0;lia
 | p::r,kvs=>by
   have h1:=gK r (putK kvs p.1 p.2)
   have h2:=fG kvs p.1 p.2
   change(fH (putK kvs p.1 p.2) r).length<=_
   rw[RE];lia
theorem ki {P:Program}{w:World}:∀{kvs:List (Key×V)} {ws:List (Value×Value)},VV (kvs.map fun kv=>(kV kv.1,kv.2)) ws->∃rs,Carries (bH P w) ws rs/\KV kvs rs
 | [],_,r=>by rw[Ud]at r;cases r;show⟨[],RO,.nil⟩
 | p::kvs,_,r=>by
   rw[R3]at r
   cases r with
   | @cons a b as bs h t=>
     obtain⟨rs,c,q⟩:=ki (P:=P) (w:=w) t
     obtain⟨b1,b2⟩:=b
     show⟨(p.1,b2)::rs,⟨oQ h.1,U,c⟩,.cons ⟨U,h.2⟩ q⟩
def BS (trs:List (TE×TE)):TE:=fun σ H Q=>∀p,H p=none->qI trs σ (upd H p (.dK [])) fun ps H2=>H2 p=some (.dK [])/\∃kvs:List (Key×V),ps=kvs.map (fun kv=>(kV kv.1,kv.2))/\kvs.length<=15/\Q (.ref p) (upd H2 p (.dK (fH [] kvs)))
def z9 {X:Cx}{pos:Pos}{keys:List (Option Expr)}{values:List Expr}{trs:List (TE×TE)}(h:FA X pos keys values trs)(hall:keys.all (·.isSome)=true)(hl:keys.length=values.length)(h0:keys≠[])
   (h15:keys.length<=15):PE X (.Dict keys values pos) (BS trs):=by
 intro pins s σ H Q I q
 have hn:=I.hok.fresh (Rz s.heap.objs.size)
 have I1:=I.laid (a:=s.heap.objs.size) (o:=.dK []) (h':=s.heap.push {cls:=.type "dict",data:=.dict #[]}) (t':=s.toks) (fun y y q=>Rr _ q) (Rz _) (vq s.heap I.big)
 show wpAny_Dict_walk (knd:=bH X.prog X.w) hall hl h0 h15 (bw (h pins _ σ _ _ I1 (q _ hn)) fun ws s2 h9=>?_)
 obtain⟨ps,H2,I2,rel,e,kvs,ep,lk,q2⟩:=h9
 subst ep
 obtain⟨rs,c,rk⟩:=ki (P:=X.prog) (w:=X.w) rel
 obtain⟨z,hd,Rl,r0,dd⟩:=A1 I2.hok e
 cases r0
 show⟨rs,c,dd,fun h' yU hs=>⟨.ref s.heap.objs.size,_,?_,U,q2⟩⟩
 have hz:(fH [] kvs).length<=sizeLine:=by
   have h1:=gK kvs []
   rw[Tx]at h1
   rw[sizeLine_eq];lia
 have he:∃q,h'.get? s.heap.objs.size=some q:=by obtain⟨q,_,_,hq,_⟩:=yU;show⟨q,hq⟩
 show mX I2 (by rw[e];show RO) hs he (vt hz hd (rk.merge .nil) yU)
structure M1 (X:Cx)(o:Expr)(m:Str)(apos:Pos)(e:Expr)(cpos:Pos):Prop where
 base:Ss o m X.env (eval o X.env)=eval o X.env
 few:((backTo cpos (starEach [e] X.env)).all (fun x=>!x.1)&&(backToKw cpos (keywordEach [] X.env)).all (fun x=>x.1.isSome)
   && decide (([e]:List Expr).length+([]:List Keyword).length+(if([]:List Keyword).isEmpty then 0 else 1)<30))=true
 line:(apos.endLine==cpos.line)=true
 trees:backTo cpos (starEach [e] X.env)=[(false,eval e X.env)]
structure M2 (X:Cx)(o:Expr)(m:Str)(apos:Pos)(e f:Expr)(cpos:Pos):Prop where
 base:Ss o m X.env (eval o X.env)=eval o X.env
 few:((backTo cpos (starEach [e,f] X.env)).all (fun x=>!x.1)&&(backToKw cpos (keywordEach [] X.env)).all (fun x=>x.1.isSome)
   && decide (([e,f]:List Expr).length+([]:List Keyword).length+(if([]:List Keyword).isEmpty then 0 else 1)<30))=true
 line:(apos.endLine==cpos.line)=true
 trees:backTo cpos (starEach [e,f] X.env)=[(false,eval e X.env),(false,eval f X.env)]
end L2
namespace L2
open PySem PySem.Spec PyProof.Rows
def cG (scope:Scope)(env:Env):List (Str×Addr):=
 (scope.names.filterMap fun(p:Str×Ua)=>if p.2==.free then(env.cells.lookup p.1).map fun c=>(p.1,c)else none).reverse
theorem km (env:Env):∀(l:List (Str×Ua)) (acc:List (Str×Addr)),(∀p∈l,p.2=.free->∃c,env.cells.lookup p.1=some c) ->
   (forIn l acc fun(x:Str×Ua) (r:List (Str×Addr))=>if(x.2==Sl)=true then do let c←cellOf env x.1;pure (TU ((x.1,c)::r))else pure (TU r):Sem (List (Str×Addr))) =
     pure ((l.filterMap fun(p:Str×Ua)=>if p.2==.free then(env.cells.lookup p.1).map fun c=>(p.1,c)else none).reverse++acc)
 | [],acc,_=>rfl
 | p::l,acc,h=>by
   have ih:=fun acc=>km env l acc fun q hq=>h q (RC _ hq)
   rw[UT]
   by_cases hp:p.2=.free
   . obtain⟨c,hc⟩:=h p Ru hp
     have e:(p.2==Sl)=true:=by rw[hp];rfl
     rw[dI e]
     have ec:cellOf env p.1=pure c:=by unfold cellOf;rw[hc]
     rw[ec,TX,dI e,hc]
     change(forIn l ((p.1,c)::acc) _:Sem _)=_
     rw[ih]
     simp
   . have e:¬ (p.2==Sl)=true:=by intro z;show hp (by simpa using z)
     rw[dh e,TX,dh e]
     change(forIn l acc _:Sem _)=_
     rw[ih]
def gY {scope:Scope}{env:Env}(h:∀p∈scope.names,p.2=.free->∃c,env.cells.lookup p.1=some c):closureFor scope env=pure (cG scope env):=by
 have e:=km env scope.names [] h
 rw[RY]at e
 change((forIn scope.names [] fun(x:Str×Ua) (r:List (Str×Addr))=>if(x.2==Sl)=true then do let c←cellOf env x.1;pure (TU ((x.1,c)::r))else pure (TU r))>>=fun cs=>pure cs:Sem (List (Str×Addr)))=_
 rw[e]
 rfl
def mU {scope:Scope}{env:Env}{x:Str}{c:Addr}(h:(x,c)∈cG scope env):(x,Sl)∈scope.names/\env.cells.lookup x=some c:=by
 unfold cG at h
 obtain⟨p,hp,e⟩:=List.mem_filterMap.mp (List.mem_reverse.mp h)
 obtain⟨n,k⟩:=p
 dsimp only at e
 by_cases hk:(k==Sl)=true
 . rw[dI hk]at e
   have O5:k=.free:=by simpa using hk
   subst O5
   cases q:env.cells.lookup n with
   | none=>rw[q]at e;cases e
   | some c'=>rw[q]at e;cases e;show⟨hp,q⟩
 . rw[dh hk]at e;cases e
def ji {scope:Scope}{env:Env}{x:Str}{c:Addr}(hm:(x,Sl)∈scope.names)(hc:env.cells.lookup x=some c):(cG scope env).lookup x=some c:=by
 have Ff:(x,c)∈cG scope env:=by
   unfold cG
   show List.mem_reverse.mpr (List.mem_filterMap.mpr ⟨(x,.free),hm,?_⟩)
   simp[hc]
 cases q:(cG scope env).lookup x with
 | none=>
   have:=List.lookup_eq_none_iff.mp q (x,c) Ff
   simp at this
 | some c'=>
   obtain⟨_,e⟩:=mU (Sm q)
   rw[hc]at e
   show e.symm
structure bp (sc:Scope)(env:Scope):Prop where
 kind:sc.kind=.function
 cell:∀y∈sc.names,y.2≠.cell
 names:∀x∈sc.names,x.2=.local->sc.names.lookup x.1=some .local
 free:∀x∈sc.names,x.2=.free->env.names.lookup x.1=some .cell\/env.names.lookup x.1=some .free
def bT (sc:Scope)(src:List (Option Nat))(N' N:List Str):Bool:=
 src.length==N'.length&&(src.zip N').all fun p=>match p.1 with
   | none=>true
   | some j=>N[j]?==some p.2&&sc.names.lookup p.2==some .free
def capσ (src:List (Option Nat))(σ:St):St:=src.map fun o=>match o with
 | none=>none
 | some j=>match σ[j]? with
   | some v=>v
   | none=>none
def yO {sc:Scope}{N N':List Str}{src:List (Option Nat)}(h:bT sc src N' N=true){i:Nat}{x:Str}{j:Nat}(h1:src[i]?=some (some j))(h2:N'[i]?=some x):N[j]?=some x/\sc.names.lookup x=some .free:=by
 unfold bT at h
 have h':=(To _ _▸h).2
 have hz:(src.zip N')[i]?=some (some j,x):=by rw[List.getElem?_zip_eq_some];show⟨h1,h2⟩
 have q:=List.all_eq_true.mp h' _ (RL hz)
 simpa using q
def vh {sc:Scope}{N N':List Str}{src:List (Option Nat)}(h:bT sc src N' N=true):src.length=N'.length:=by
 unfold bT at h
 have h':=(To _ _▸h).1
 simpa using h'
def cV (X:Cx)(N':List Str)(sc:Scope)(s:Shared)(H:Hp)(C:Addr)(fp:List Addr)(xe:Value->Shared->Prop):Cx where
 prog:=X.prog
 w:=X.w
 K:=X.K
 mg:=X.mg
 base:=X.base
 A:=X.A
 N:=N'
 s₀:=s
 H₀:=H
 env:=compEnvC sc (cG sc X.env) C X.env
 outer:=X.stack
 stack:=X.stack
 ex:=fp
 fn:=fun z=>false
 calm:=X.calm
 pn:=[]
 xe:=xe
theorem fO {sc:Scope}{env:Env}{x:Str}:∀{names:List (Str×Ua)},
   (names.map fun(p:Str×Ua)=>if(p.2==Sl&&env.scope.kind==.function&&env.kindOf p.1==some .cell)then(p.1,Vz)else(p.1,p.2)).lookup x =
     (names.lookup x).map fun k=>if(k==Sl&&env.scope.kind==.function&&env.kindOf x==some .cell)then Vz else k
 | []=>rfl
 | (n,k)::r=>by
   have ih:=@fO sc env x r
   rw[R3]
   cases hx:x==n with
   | true=>
     have e:x=n:=by simpa using hx
     subst e
     by_cases hc:(k==Sl&&env.scope.kind==.function&&env.kindOf x==some .cell)=true
     . simp only[hc,if_true,Tj,hx,Ta]
     . simp only[hc,if_false,Tj,hx,Ta,Um]
   | false=>
     by_cases hc:(k==Sl&&env.scope.kind==.function&&env.kindOf n==some .cell)=true
     . simp only[hc,if_true,Tj,hx];show ih
     . simp only[hc,if_false,Tj,hx,Um];show ih
def f7 {sc:Scope}{env:Env}{cl:List (Str×Addr)}{C:Addr}(x:Str):(compEnvC sc cl C env).kindOf x =
   (sc.names.lookup x).map fun k=>if(k==Sl&&env.scope.kind==.function&&env.kindOf x==some .cell)then Vz else k:=
 fO (sc:=sc) (env:=env)
section
variable{X:Cx}{pins:List (Addr×Obj)}{σ:St}{H:Hp}{s:Shared}{N':List Str}{sc:Scope}{src:List (Option Nat)}{fp:List Addr}{xe:Value->Shared->Prop}
def ko (I:Inv X pins σ H s)(S:bp sc X.env.scope)(hc:bT sc src N' X.N=true)(hf:∀b∈fp,ef X pins H b)(ho:∀b∈fp,∃o,s.heap.get? b=some o){h₁:Heap}{tk:Nat}
   (hn:h₁.Ns s.heap.objs.size (fun t=>none)) (hk:∀b o,s.heap.get? b=some o->h₁.get? b=some o) :
   Inv (cV X N' sc s H s.heap.objs.size fp xe) [] (capσ src σ) H {s with heap:=h₁,toks:=tk}:=by
 have cellmem:∀x c,(cG sc X.env).lookup x=some c->X.env.cells.lookup x=some c:=fun x c e=>(mU (Sm e)).2
 have isfree:∀x,((compEnvC sc (cG sc X.env) s.heap.objs.size X.env).kindOf x=some .cell\/(compEnvC sc (cG sc X.env) s.heap.objs.size X.env).kindOf x=some .free)->(x,Sl)∈sc.names:=fun x hx=>by
   rw[f7]at hx
   cases q:sc.names.lookup x with
   | none=>rw[q]at hx;simp at hx
   | some k=>
     have hm:=Sm q
     by_cases Kz:k=.free
     . subst Kz;show hm
     . have:(k==Sl)=false:=by simpa using Kz
       have e2:(k==Sl&&X.env.scope.kind==.function&&X.env.kindOf x==some .cell)=false:=by rw[this];rfl
       rw[q,Ta,e2]at hx
       have CK:(some k:Option Ua)=some .cell\/(some k:Option Ua)=some .free:=hx
       rcases CK with hx|hx
       . show au (Sa hx) (S.cell _ hm)
       . show au (Sa hx) Kz
 have has:∀x,(x,Sl)∈sc.names->∃c,X.env.cells.lookup x=some c:=fun x hm=>I.ok.has x (S.free _ hm rfl)
 show⟨⟨I.ok.mod,S.kind,I.ok.glob,I.ok.blt,Rz _,fun x y c h1 h2=>I.ok.inj x y c (cellmem x c h1) (cellmem y c h2),fun x hx=>?_,fun x c Gk t=>?_,I.ok.hd,I.ok.frames,.inl rfl,fun b hb=>⟨?_,fun x c e=>?_⟩,I.bs,Ry I.ok.bsz I.sz,fun b o e hb=>?_,fun b hb hs=>?_,I.stack,I.n6⟩,
   rfl,I.bare,Un.kept hk,⟨_,hn,fun i x v h1 h2 h3=>?_⟩,fun x c e=>?_,I.hok.fresh (Rz _),fun x c e=>I.freeC x c (cellmem x c e),fun p hp=>au (show p∈([]:List (Addr×Obj))from hp) (by simp),I.hok.kept hk,?_⟩
 . obtain⟨c,e⟩:=has x (isfree x hx)
   show⟨c,ji (isfree x hx) e⟩
 . show au (show false=true from Gk) (by simp)
 . obtain⟨o,e⟩:=ho b hb
   show R1 (RD e)
 . show(hf b hb).2.2.2.2.1 x c (cellmem x c e)
 . rcases(hf b hb).2.2.2.1 with z|z
   . show I.ok.noex b o e z
   . show au (RJ (RD e) (Ry I.ok.bsz z)) (SR _)
 . rcases List.mem_cons.mp (I.lu b hs)with z|z
   . show(hf b hb).2.1 z
   . show(hf b hb).2.2.1 z
 . -- a FO name
   have eW:(capσ src σ)[i]?=some (some v):=h2
   unfold capσ at eW
   rw[Sb]at eW
   cases q:src[i]? with
   | none=>rw[q]at eW;cases eW
   | some o=>
     rw[q]at eW
     cases o with
     | none=>simp at eW
     | some j=>
       obtain⟨hj,hfr⟩:=yO hc q h1
       have hσ:σ[j]?=some (some v):=by
         simp only[Ta,Option.some.injEq]at eW
         cases r:σ[j]? with
         | none=>rw[r]at eW;cases eW
         | some w=>rw[r]at eW;rw[← eW]
       have hm:=Sm hfr
       have Gw:=S.free _ hm rfl
       obtain⟨m,_,hl⟩:=I.loc
       obtain⟨u,ru,lk⟩:=hl j x v hj hσ (Or.inr Gw)
       show⟨u,ru,.inr ⟨?_,?_⟩⟩
       . change(compEnvC sc (cG sc X.env) s.heap.objs.size X.env).kindOf x=some .cell\/(compEnvC sc (cG sc X.env) s.heap.objs.size X.env).kindOf x=some .free
         rw[f7,hfr]
         by_cases z:(Sl==Sl&&X.env.scope.kind==.function&&X.env.kindOf x==some .cell)=true
         . show .inl (by simp only[Ta,z,if_true])
         . show .inr (by simp only[Ta,z,if_false,Um])
       . rcases lk with⟨z,_⟩|⟨_,c,e,z⟩
         . have z':X.env.scope.names.lookup x=some .local:=z
           rcases Gw with y|y<;>(rw[z']at y;cases y)
         . obtain⟨oc,Ba,hd⟩:=z
           show⟨c,ji hm e,oc,hk c oc Ba,hd⟩
 . obtain⟨v,oc,Ba,hd⟩:=I.cell x c (cellmem x c e)
   show⟨v,oc,hk c oc Ba,hd⟩
 . change(capσ src σ).length=N'.length
   unfold capσ
   rw[Rn]
   show vh hc
def hJ {H':Hp}{σ':St}{s':Shared}(I:Inv X pins σ H s)(hf:∀b∈fp,ef X pins H b)(I':Inv (cV X N' sc s H s.heap.objs.size fp xe) [] σ' H' s'):Inv X pins σ H' s':=
 I.A0 I'.os I'.base I'.hok I'.bare fun b hb=>⟨(hf b hb).2.2.2.1,(hf b hb).2.1,(hf b hb).2.2.2.2.1,(hf b hb).2.2.2.2.2⟩
def mW {H':Hp}{σ':St}{s':Shared}(I':Inv (cV X N' sc s H s.heap.objs.size fp xe) [] σ' H' s'):∃m,s'.heap.Ns s.heap.objs.size m:=by obtain⟨m,hn,_⟩:=I'.loc;show⟨m,hn⟩
def jk {H1:Hp}{σ1:St}{s1:Shared}{h':Heap}(I:Inv X pins σ H s)(I1:Inv X pins σ1 H1 s1)(hn:H1 s.heap.objs.size=none)(hs:Sz s.heap.objs.size s1.heap h'):Inv X pins σ1 H1 {s1 with heap:=h'}:=by
 obtain⟨f0,f1,f2,f3,f4,f5⟩:=I.oF (H':=H1) (Rz _) hn
 show I1.turned (t':=s1.toks) (fun b o hb e=>(hs.2 b hb).trans e) f0 f1 f3 f4 f5
end
def bz:St->St->Prop
 | [],[]=>True
 | none::r,_::r'=>bz r r'
 | some v::r,u::r'=>u=some v/\bz r r'
 | _,_=>False
theorem bz.len:∀{a b:St},bz a b->a.length=b.length
 | [],[],_=>rfl
 | [],_::_,h=>h.elim
 | none::_,[],h=>h.elim
 | some _::_,[],h=>h.elim
 | none::r,_::r',h=>by
   have h':bz r r':=h
   rw[RE,RE,h'.len]
 | some v::r,u::r',h=>by
   have h':u=some v/\bz r r':=h
   rw[RE,RE,h'.2.len]
theorem bz.get:∀{a b:St},bz a b->∀(i:Nat) (v:V),a[i]?=some (some v)->b[i]?=some (some v)
 | [],[],_,i,v,e=>by simp at e
 | [],_::_,h,_,_,_=>h.elim
 | none::_,[],h,_,_,_=>h.elim
 | some _::_,[],h,_,_,_=>h.elim
 | none::r,_::r',h,0,v,e=>by simp at e
 | none::r,_::r',h,i+1,v,e=>by
   have h':bz r r':=h
   simpa using h'.get i v (by simpa using e)
 | some w::r,u::r',h,0,v,e=>by
   have h':u=some w/\bz r r':=h
   simp at e
   subst e
   simp[h'.1]
 | some w::r,u::r',h,i+1,v,e=>by
   have h':u=some w/\bz r r':=h
   simpa using h'.2.get i v (by simpa using e)
def jE (X:Cx)(cs:List Expr)(t:TT):Prop:=
 ∀(pins:List (Addr×Obj)) (s:Shared) (σ:St) (H:Hp) (Q:Bool->Hp->Prop),Inv X pins σ H s->t σ H Q ->
   wpAny (model X.prog X.w) X.A (forIn cs true fun c r=>if r=true then do let ok←isTrue c X.env (eval c X.env);pure (TU ok)else pure (TU r)) (TP X pins σ Q) X.xe s
def EJ:TT:=fun z H Q=>Q true H
def Lb {X:Cx}:jE X [] EJ:=fun z z z H z I h=>wpAny_tests_nil ⟨H,I,h⟩
def Lc {X:Cx}{c:Expr}{t:TT}(h:PT X c t):jE X [c] t:=fun pins s σ H Q I q=>wpAny_tests_one (h pins s σ H Q I q)
abbrev TM:=St->Hp->(Hp->Prop)->Prop
def AV (X:Cx)(m:Sem Unit)(t:TM):Prop:=
 ∀(pins:List (Addr×Obj)) (s:Shared) (σ:St) (H:Hp) (Q:Hp->Prop),Inv X pins σ H s->t σ H Q ->
   wpAny (model X.prog X.w) X.A m (fun z s'=>∃H',Inv X pins σ H' s'/\Q H') X.xe s
def qJ (tg:Expr)(ipos:Pos)(ifs:List Expr)(it:Value)(env:Env)(cont:Sem Unit)(more:Sem Fin):Sem Fin:=do
 standAt ipos
 match←pyNext it with
 | none=>pure (.done .next)
 | some v=>
   letOwnedTupleGo tg it v
   assign tg env v
   let mut ok:=true
   for c in ifs do
     if ok then ok←isTrue c env (eval c env)
   if ok then cont
   more
def lA (J:It)(σ0:St)(g:TG)(tifs:TT)(tm:TM)(Z:Hp->Prop)(H:Hp):Prop:=
 ∃W:Nat->Nat->Hp->Prop,(∃m,W 0 m H)/\∀i m H,W i m H->(J.stop i H/\Z H) \/
   (J.go i H/\∀x H',J.yld i H x H'->g x σ0 H' fun σ2 H2=>tifs σ2 H2 fun b H3=>
     if b=true then tm σ2 H3 fun H4=>bz σ0 σ2/\∃m',m'<m/\W (i+1) m' H4 else bz σ0 σ2/\∃m',m'<m/\W (i+1) m' H3)
section
variable{X:Cx}{e tg:Expr}{ipos:Pos}{ifs:List Expr}{depth:Nat}{acc:Value}{cont:Sem Unit}{it:Addr}{fp:List Addr}{tn:Nat->Heap->Prop}{J:It}{g:TG}{tifs:TT}{tm:TM}{σ0:St}{Z:Hp->Prop}{R:Result->Shared->Prop}
def l6 (hX:X.xe=notedBy (model X.prog X.w) X.A X.env fun e s'=>R (.error e) s')
   (heq:compTurn e depth (.ref it) acc X.env=qJ tg ipos ifs (.ref it) X.env cont (again (.compLoop e depth (.ref it) acc X.env)))
   (hq:(UB e depth (.ref it) acc X.env).quiet=true) (hA:X.A.under (.compLoop e depth (.ref it) acc X.env)=X.A) (hF:(UB e depth (.ref it) acc X.env).isFrame=false)
   (hc:X.calm=true) (T:Turn X.prog X.w X.K tg J fp it tn) (hg:PG X tg g) (hif:jE X ifs tifs) (hm:AV X cont tm)
   {pins:List (Addr×Obj)} {H:Hp} {s:Shared} (hf:∀b∈fp,ef X pins H b) (I:Inv X pins σ0 H s) (st:tn 0 s.heap)
   (hZ:∀H' s',Inv X pins σ0 H' s'->(∀b∈fp,H' b=none)->Z H'->R (.ok .next) s') (h:lA J σ0 g tifs tm Z H) :
   codeAny (model X.prog X.w) X.A (.compLoop e depth (.ref it) acc X.env) R s:=by
 obtain⟨W,⟨m0,w0⟩,turn⟩:=h
 have stat:∀{H':Hp},(∀b∈fp,H' b=none)->∀b∈fp,ef X pins H' b:=fun hn b hb=>⟨hn b hb,(hf b hb).2⟩
 show codeAny_loop hq (fun n s'=>∃i H',Inv X pins σ0 H' s'/\tn i s'.heap/\(∀b∈fp,H' b=none)/\W i n H') ?_ m0 ⟨0,H,I,st,fun b hb=>(hf b hb).1,w0⟩
 rintro n s3 ⟨i,H3,I3,uL,E8,w3⟩
 rw[hA]
 have Ks:(model X.prog X.w).den (.compLoop e depth (.ref it) acc X.env)=(compTurn e depth (.ref it) acc X.env).onRaise (fun x=>do noteFrame x X.env;theTreesLotGoes x):=by
   change(if(UB e depth (.ref it) acc X.env).isFrame then _ else _)=_
   rw[dh (by rw[hF];decide)]
 rw[Ks]
 show wpAny_noted ?_
 rw[← hX,heq]
 unfold qJ
 show wpAny_bind (wpAny_standAt ?_)
 have u9:∀{σ7:St} {H7:Hp} {s5 s7:Shared},tn (i+1) s5.heap->Inv X (pins++kS fp s5.heap) σ7 H7 s7->bz σ0 σ7->(∃m',m'<n/\W (i+1) m' H7) ->
     ∃m,m<n/\∃i H',Inv X pins σ0 H' s7/\tn i s7.heap/\(∀b∈fp,H' b=none)/\W i m H':=fun{σ7 H7 s5 s7} yz I7 k7 ⟨m',Gr,w7⟩=>by
   show⟨m',Gr,i+1,H7,I7.jd.weak k7.len k7.get,T.keep _ _ _ yz fun b hb o e=>(I7.pin (b,o) (Si _ (Si _ (eZ hb e)))).1,fun b hb=>?_,w7⟩
   obtain⟨o,e,d⟩:=T.obj _ _ yz b hb
   show(I7.pin (b,o) (Si _ (Si _ (eZ hb e)))).2.1
 rcases turn i n H3 w3 with⟨stop,qn⟩|⟨go,step⟩
 . show wpAny_bind (bw (T.done X rfl rfl rfl hc i pins s3 σ0 H3 X.xe I3 (stat E8) uL stop) fun r s4 h9=>?_)
   obtain⟨hr,I4⟩:=h9
   subst hr
   show wpAny_pure (hZ H3 s4 I4 E8 qn)
 . show wpAny_bind (bw (T.item X rfl rfl rfl hc i pins s3 σ0 H3 X.xe I3 (stat E8) uL go) fun r s4 h9=>?_)
   obtain⟨u,hr,h4⟩:=h9
   subst hr
   show wpAny_bind (bw h4 fun z s5 h9=>?_)
   obtain⟨x,H5,I5,r5,y5,yz,J1⟩:=h9
   have Jw:=I5.pinned (stat J1) (T.obj _ _ yz)
   show wpAny_bind (bw (hg _ s5 σ0 H5 x u _ Jw r5 (step x H5 y5)) fun z s6 h9=>?_)
   obtain⟨σ6,H6,I6,q6⟩:=h9
   show wpAny_bind (bw (hif _ s6 σ6 H6 _ I6 q6) fun b s7 h9=>?_)
   obtain⟨H7,I7,q7⟩:=h9
   cases b with
   | false=>
     obtain⟨k7,w7⟩:=q7
     show wpAny_pure ⟨U,u9 yz I7 k7 w7⟩
   | true=>
     show wpAny_bind (bw (hm _ s7 σ6 H7 _ I7 q7) fun z s8 h9=>?_)
     obtain⟨H8,I8,k8,w8⟩:=h9
     show wpAny_pure ⟨U,u9 yz I8 k8 w8⟩
end
structure dA (P:Program)(w:World)(A:Around)(e:Expr)(tg iter:Expr)(ifs:List Expr)(emit:Addr->Env->Sem Unit):Prop where
 cl:clausesOf e=[⟨tg,iter,ifs,0⟩]
 turn:∀it D env,compTurn e 0 (.ref it) (.ref D) env=qJ tg iter.pos ifs (.ref it) env (emit D env) (again (.compLoop e 0 (.ref it) (.ref D) env))
 start:∀(R:Result->Shared->Prop) (s:Shared) (it acc:Value) (env:Env),codeAny (model P w) A (.compLoop e 0 it acc env) R s ->
   wpAny (model P w) A (pyIter it) (fun PV s'=>codeAny (model P w) A (.compLoop e 0 PV acc env) R s') (notedBy (model P w) A env fun x s'=>R (.error x) s') s->codeAny (model P w) A (.compStart e 0 it acc env) R s
 quiet:∀it acc env,(UB e 0 it acc env).quiet=true
 under:∀it acc env,A.under (.compLoop e 0 it acc env)=A
 frame:∀it acc env,(UB e 0 it acc env).isFrame=false
def mT {P:Program}{w:World}{A:Around}{elt tg iter:Expr}{ifs:List Expr}{sc:Scope}{pos:Pos} :
   dA P w A (.ListComp elt [⟨tg,iter,ifs,0⟩] sc pos) tg iter ifs (fun D env=>do let _←call (.builtin "list.append") [.ref D,← eval elt env]) where
 cl:=rfl
 turn:=fun it D env=>by rw[compTurn_list];rfl
 start:=fun R s it acc env h0 h=>codeAny_compStart_list h0 h
 quiet:=fun z z z=>rfl
 under:=fun z z z=>rfl
 frame:=fun z z z=>rfl
def yQ {P:Program}{w:World}{A:Around}{kx vx tg iter:Expr}{ifs:List Expr}{sc:Scope}{pos:Pos} :
   dA P w A (.DictComp kx vx [⟨tg,iter,ifs,0⟩] sc pos) tg iter ifs (fun D env=>do
     let kv←eval kx env
     let vv←holding [kv] (eval vx env)
     standAt {kx.pos with endLine:=vx.pos.endLine,endCol:=vx.pos.endCol}
     holding [kv,vv] (dictSet D kv vv)) where
 cl:=rfl
 turn:=fun it D env=>by rw[compTurn_dict];rfl
 start:=fun R s it acc env h0 h=>codeAny_compStart_dict h0 h
 quiet:=fun z z z=>rfl
 under:=fun z z z=>rfl
 frame:=fun z z z=>rfl
section
variable{X:Cx}{e tg iter:Expr}{ifs:List Expr}{emit:Addr->Env->Sem Unit}{sc:Scope}{pos:Pos}{wi:TI}{N':List Str}{src:List (Option Nat)}{g:TG}{tifs:TT}{tm:Addr->TM}{newAcc:Sem Value}{ob:Obj}{accO:HO}
def dj (src:List (Option Nat))(accO:HO)(wi:TI)(g:TG)(tifs:TT)(tm:Addr->TM):TE:=
 fun σ H Q=>wi σ H fun J H1=>∀D,H1 D=none->lA J (capσ src σ) g tifs (tm D) (fun H'=>Q (.ref D) H') (upd H1 D accO)
structure gU (X:Cx)(newAcc:Sem Value)(ob:Obj)(accO:HO):Prop where
 new:∀(s:Shared) (Q:Value->Shared->Prop) (E:Value->Shared->Prop),Q (.ref s.heap.objs.size) {s with heap:=s.heap.push ob}->wpAny (model X.prog X.w) X.A newAcc Q E s
 live:ob.isFreed=false
 ok:∀(pins:List (Addr×Obj)) (σ:St) (H:Hp) (s:Shared),Inv X pins σ H s->bB X.prog X.w (upd H s.heap.objs.size accO) (s.heap.push ob) s.heap.objs.size accO
def ou {use:Option (Value->Sem Unit)}{Q':Value->Shared->Prop}(K:dA X.prog X.w X.A e tg iter ifs emit)(hc:X.calm=true)(S:bp sc X.env.scope)(hcap:bT sc src N' X.N=true)(hi:PI X tg iter wi)
   (hb:∀s H C fp xe D,PG (cV X N' sc s H C fp xe) tg g/\jE (cV X N' sc s H C fp xe) ifs tifs/\AV (cV X N' sc s H C fp xe) (emit D (cV X N' sc s H C fp xe).env) (tm D)) (N:gU X newAcc ob accO)
   (hs:∀x,Sg iter X.env x=pure x)
   {pins:List (Addr×Obj)} {s:Shared} {σ:St} {H:Hp} {Q:VK} (I:Inv X pins σ H s) (h:dj src accO wi g tifs tm σ H Q)
   (hQ:∀(C D:Addr) (H':Hp) (s':Shared),Inv X pins σ H' s'->Q (.ref D) H'->H' C=none->(∃m,s'.heap.Ns C m)->(∀(σ1:St) (H1:Hp) (s1:Shared) (h':Heap),Inv X pins σ1 H1 s1->H1 C=none->Sz C s1.heap h'->Inv X pins σ1 H1 {s1 with heap:=h'}) ->
     (C≠X.env.locals/\∀x c,X.env.cells.lookup x=some c->c≠C)->compPost (model X.prog X.w) X.A X.xe use Q' (.ref D) C (.ok .next) s') :
   wpAny (model X.prog X.w) X.A (comprehension e sc X.env pos newAcc false (eval iter X.env) use) Q' X.xe s:=by
 show UK (g:=⟨tg,iter,ifs,0⟩) (gs:=[]) K.cl hs (gY fun p hp hf=>I.ok.has p.1 (S.free p hp hf)) S.kind S.names ?_
 show bw (hi pins s σ H _ I h) fun v s1 h1=>bw h1 fun itv s2 h2=>?_
 obtain⟨it,fp,tn,J,H2,e1,I2,T,EH,f2,q2⟩:=h2
 subst e1
 show N.new s2 _ _ ?_
 have hD:H2 s2.heap.objs.size=none:=I2.hok.fresh (Rz _)
 have Gn:∀b o,s2.heap.get? b=some o->(s2.heap.push ob).get? b=some o:=fun b o e=>Rr _ e
 have I3:Inv X pins σ (upd H2 s2.heap.objs.size accO) {s2 with heap:=s2.heap.push ob}:=I2.laid (t':=s2.toks) Gn (Rz _) (N.ok pins σ H2 s2 I2)
 have uL:tn 0 (s2.heap.push ob):=T.keep _ _ _ EH fun b u o e=>Gn b o e
 have Dc:∀b∈fp,∃o,(s2.heap.push ob).get? b=some o:=fun b hb=>let⟨o,e,_⟩:=T.obj _ _ uL b hb;⟨o,e⟩
 have f3:∀b∈fp,ef X pins (upd H2 s2.heap.objs.size accO) b:=fun b hb=>by
   show⟨?_,(f2 b hb).2⟩
   obtain⟨o,e,_⟩:=T.obj _ _ EH b hb
   rw[ah (R1 (RD e))]
   show(f2 b hb).1
 have qq:=q2 s2.heap.objs.size hD
 generalize KQ:({s2 with heap:=s2.heap.push ob}:Shared)=s3 at I3 ⊢
 have Kw:s2.heap.push ob=s3.heap:=by rw[← KQ]
 rw[Kw]at uL Dc
 generalize s2.heap.objs.size=D at I3 f3 qq hD ⊢
 show Vj S.cell (by intro y hy;simp at hy) (fun h₁ hns Bc=>?_) S.kind
 have vP:h₁.Ns s3.heap.objs.size (fun u=>none):=hns
 have Gp:∀b o,s3.heap.get? b=some o->h₁.get? b=some o:=fun b o e=>Bc.extBut b o (R1 (RD e)) (Rr _ e)
 let R:Result->Shared->Prop:=compPost (model X.prog X.w) X.A X.xe use Q' (.ref D) s3.heap.objs.size
 let X':Cx:=cV X N' sc s3 (upd H2 D accO) s3.heap.objs.size fp (notedBy (model X.prog X.w) X.A (compEnvC sc (cG sc X.env) s3.heap.objs.size X.env) fun e s'=>R (.error e) s')
 have I4:Inv X' [] (capσ src σ) (upd H2 D accO) {s3 with heap:=h₁,toks:=s3.toks+([]:List (Str×Value)).length}:=ko I3 S hcap f3 Dc vP Gp
 have BP:tn 0 h₁:=T.keep _ _ _ uL fun b u o e=>Gp b o e
 obtain⟨hg,hif,hm⟩:=hb s3 (upd H2 D accO) s3.heap.objs.size fp (notedBy (model X.prog X.w) X.A (compEnvC sc (cG sc X.env) s3.heap.objs.size X.env) fun e s'=>R (.error e) s') D
 have f4:∀b∈fp,ef X' [] (upd H2 D accO) b:=fun b hb=>by
   obtain⟨g0,g1,g2,g3,g4,g5⟩:=f3 b hb
   show⟨g0,?_,?_,.inl hb,fun x c e=>?_,fun p hp=>au (show p∈([]:List (Addr×Obj))from hp) (by simp)⟩
   . obtain⟨o,e⟩:=Dc b hb
     show R1 (RD e)
   . intro z
     rcases List.mem_cons.mp (I3.lu b z)with y|y
     . show g1 y
     . show g2 y
   . show g4 x c (mU (Sm e)).2
 have FZ:ef X pins (upd H2 D accO) s3.heap.objs.size:=I3.oF (Rz _) (I3.hok.fresh (Rz _))
 have loop:∀s4:Shared,s4={s3 with heap:=h₁,toks:=s3.toks+([]:List (Str×Value)).length}->codeAny (model X.prog X.w) X.A (.compLoop e 0 (.ref it) (.ref D) X'.env) R s4:=by
   rintro s4 rfl
   show l6 (X:=X') (Z:=fun H'=>Q (.ref D) H') rfl (K.turn it D X'.env) (K.quiet _ _ _) (K.under _ _ _) (K.frame _ _ _) hc T hg hif hm f4 I4 BP (fun H' s' I' u z=>?_) qq
   show hQ s3.heap.objs.size D H' s' (hJ I3 f3 I') z I'.free (mW I') (fun σ1 H1 s1 h' I1 n1 GB=>jk I3 I1 n1 GB) ⟨FZ.2.1,fun x c e=>FZ.2.2.2.2.1 x c e⟩
 show K.start R _ (.ref it) (.ref D) X'.env (loop _ rfl) (T.self X.A 0 _ _ _ BP (loop _ rfl))
def z6 (K:dA X.prog X.w X.A e tg iter ifs emit)(hc:X.calm=true)(S:bp sc X.env.scope)(hcap:bT sc src N' X.N=true)(hi:PI X tg iter wi)
   (hb:∀s H C fp xe D,PG (cV X N' sc s H C fp xe) tg g/\jE (cV X N' sc s H C fp xe) ifs tifs/\AV (cV X N' sc s H C fp xe) (emit D (cV X N' sc s H C fp xe).env) (tm D)) (N:gU X newAcc ob accO)
   (hs:∀x,Sg iter X.env x=pure x) (he:eval e X.env=comprehension e sc X.env pos newAcc false (eval iter X.env)):PE X e (dj src accO wi g tifs tm):=by
 intro pins s σ H Q I h
 rw[he]
 show ou (use:=none) (Q:=Q) K hc S hcap hi hb N hs I h fun C D H' s' I' q hn ⟨m,hm⟩ gone _=>?_
 show⟨m,hm,fun h' GA=>⟨.ref D,H',gone σ H' s' h' I' hn GA,U,q⟩⟩
def rO {i:Nat}{x:Str}{pos' da:Pos}(K:dA X.prog X.w X.A e tg iter ifs emit)(hc:X.calm=true)(S:bp sc X.env.scope)(hcap:bT sc src N' X.N=true)(hi:PI X tg iter wi)
   (hb:∀s H C fp xe D,PG (cV X N' sc s H C fp xe) tg g/\jE (cV X N' sc s H C fp xe) ifs tifs/\AV (cV X N' sc s H C fp xe) (emit D (cV X N' sc s H C fp xe).env) (tm D)) (N:gU X newAcc ob accO)
   (hs:∀x,Sg iter X.env x=pure x) (he:∀u,evalThenUse e X.env u=(do let _←comprehension e sc X.env pos newAcc false (eval iter X.env) (some u)))
   (hN:X.N.Nodup) (hix:X.N[i]?=some x) (hx:Loc X.env.scope x) (hsw:Tw e (some (.Name x pos')) da.line X.env=pure true)
   (hf:X.fn x=true\/X.env.scope.names.lookup x=some .local:=by first|show .inl rfl|show .inr rfl|assumption) :
   PS X (.Assign [.Name x pos'] e da) (lR (dj src accO wi g tifs tm) (cI i)):=by
 intro pins s σ H D0 I h
 rw[exec_Assign_Name_used x pos' e da hsw,he]
 show wpAny_bind (wpAny_standAt (wpAny_bind (wpAny_bind ?_)))
 show ou (use:=some (assign (.Name x pos') X.env)) (Q:=fun v H'=>D0.nx (σ.set i (some v)) H') (Q':=fun y s'=>wpAny _ _ _ _ _ s') K hc S hcap hi hb N hs I h fun C D H' s' I' q hn g8 gone g9=>?_
 obtain⟨m,hm⟩:=g8
 obtain⟨OC,hCc⟩:=g9
 show wpAny_assign_Name (jv (v:=.ref D) I' hN hix hx rfl (fun s2 I2 hch=>?_) hf)
 obtain⟨a,Bc,ha⟩:=hch
 have rj:C≠a:=by
   rcases ha with z|z
   . rw[z];show OC
   . show(hCc x a z).symm
 show⟨m,hm.sameBut Bc rj,fun h' GA=>?_⟩
 show wpAny_pure (wpAny_pure ⟨_,H',gone _ H' s2 h' I2 hn GA,q⟩)
end
section
variable{X:Cx}{elt kx vx:Expr}{te tk tv:TE}
def dJ (te:TE)(D:Addr):TM:=fun σ H K=>te σ H fun y H1=>∃ys,H1 D=some (.lst ys)/\ys.length<sizeLine/\K (upd H1 D (.lst (ys++[y])))
def qw (h:PE X elt te)(D:Addr):AV X (do let _←call (.builtin "list.append") [.ref D,← eval elt X.env]) (dJ te D):=by
 intro pins s σ H Q I q
 show wpAny_bind (bw (h pins s σ H _ I q) fun u s1 h9=>?_)
 obtain⟨y,H1,I1,ru,ys,e,z,k⟩:=h9
 show wpAny_bind (bw (mr pins s1 σ H1 (.ref D) [y] (.ref D) [u] (fun x H'=>Q H') I1 rfl (.cons ru .nil) ⟨D,ys,y,U,U,e,z,k⟩) fun r s2 h9=>?_)
 obtain⟨v,H2,I2,_,k2⟩:=h9
 show wpAny_pure ⟨H2,I2,k2⟩
def tD {pins:List (Addr×Obj)}{σ:St}{H H':Hp}{s:Shared}{a:Addr}{y v:V}{u r:Value}{A:Around}{E:Value->Shared->Prop}{Q:Unit->Shared->Prop}(hu:A.units+1<cLine)(I:Inv X pins σ H s)(g:u5 H a y v H')(ry:RelV y u)(rv:RelV v r)(h:∀s',Inv X pins σ H' s'->Q () s') :
   wpAny (model X.prog X.w) A (dictSet a u r) Q E s:=by
 rcases g with⟨kvs,k,e,ey,l,eH⟩|⟨kvs,k,b,e,ey,eb,l,eH⟩
 . subst ey eH
   obtain⟨z,hd,vs,rel,dd⟩:=A1 I.hok e
   have hz:vs.length<=sizeLine:=by rw[← rel.length];show z
   have hl:(putK kvs k v).length<=sizeLine:=by have:=fG kvs k v;lia
   show wpAny_dictSet_pairs (hsz:=hz) (oQ ry) dd fun h' yU hs=>h _ ?_
   have he:∃q,h'.get? a=some q:=by obtain⟨q,_,_,hq,_⟩:=yU;show⟨q,hq⟩
   show mX I (by rw[e];show RO) hs he (vt hl hd (rel.put k rv) yU)
 . subst ey eH
   cases(show u=R6 b from ry)
   obtain⟨z,hd,xs,rel,dd⟩:=FQ I.hok e
   have hz:xs.length<=sizeLine:=by rw[← Paired.length rel];show z
   have hl:(putK kvs k v).length<=sizeLine:=by have:=fG kvs k v;lia
   have Gz:(tupleKind (bH X.prog X.w)).room A:=show A.units<cLine by lia
   show wpAny_dictSet_heap (hsz:=hz) Gz (nr I.hok eb) dd fun h' yU hs=>h _ ?_
   obtain⟨q,es,ep,hq,h2,h3,h4,_,h5⟩:=yU
   show mX I (by rw[e];show RO) hs ⟨q,hq⟩ ⟨hl,hd,_,(rel.put k eb rv).keeps fun c ys ec=>?_,q,es,ep,hq,h2,h3,h4,h5⟩
   rw[ah (Bl ec e (fun z=>nomatch z))]
   show ec
def C5 (tk tv:TE)(D:Addr):TM:=fun σ H K=>tk σ H fun y H1=>tv σ H1 fun v H2=>∃H3,u5 H2 D y v H3/\K H3
def D6 (hu:X.A.units+1<cLine)(hk:PE X kx tk)(hv:PE X vx tv)(D:Addr):AV X (do
     let kv←eval kx X.env
     let vv←holding [kv] (eval vx X.env)
     standAt {kx.pos with endLine:=vx.pos.endLine,endCol:=vx.pos.endCol}
     holding [kv,vv] (dictSet D kv vv)) (C5 tk tv D):=by
 intro pins s σ H Q I q
 show wpAny_bind (bw (hk pins s σ H _ I q) fun u s1 h9=>?_)
 obtain⟨y,H1,I1,ru,q1⟩:=h9
 show wpAny_bind (wpAny_holding (bw (hv pins s1 σ H1 _ I1 q1) fun r s2 h9=>?_))
 obtain⟨v,H2,I2,rv,H3,g,q2⟩:=h9
 show wpAny_bind (wpAny_standAt (wpAny_holding (tD hu I2 g ru rv fun s3 I3=>⟨H3,I3,q2⟩)))
def Cc:gU X newDict {cls:=.type "dict",data:=.dict #[]} (.dT []) where
 new:=fun s Q E h=>wpAny_newObj_type h
 live:=rfl
 ok:=fun pins σ H s I=>vw s.heap I.big
def kf:gU X (newList []) {cls:=.type "list",data:=.seq #[]} (.lst []) where
 new:=fun s Q E h=>wpAny_newObj_type h
 live:=rfl
 ok:=fun pins σ H s I=>⟨Sd _,[],0,.nil,RK _ rfl⟩
end
section
variable{X:Cx}{elt kx vx tg iter:Expr}{ifs:List Expr}{sc:Scope}{pos:Pos}{wi:TI}{N':List Str}{src:List (Option Nat)}{g:TG}{tifs:TT}{te tk tv:TE}
def Ho (src:List (Option Nat))(N':List Str)(hc:X.calm=true)(S:bp sc X.env.scope)(hcap:bT sc src N' X.N=true)(hi:PI X tg iter wi)
   (hb:∀s H C fp xe,PG (cV X N' sc s H C fp xe) tg g/\jE (cV X N' sc s H C fp xe) ifs tifs/\PE (cV X N' sc s H C fp xe) elt te)
   (hs:∀x,Sg iter X.env x=pure x:=by intro _;rfl):PE X (.ListComp elt [⟨tg,iter,ifs,0⟩] sc pos) (dj src (.lst []) wi g tifs (dJ te)):=
 z6 mT hc S hcap hi (fun s H C fp xe D=>⟨(hb s H C fp xe).1,(hb s H C fp xe).2.1,qw (hb s H C fp xe).2.2 D⟩) kf hs rfl
def HL {i:Nat}{x:Str}{pos' da:Pos}(src:List (Option Nat))(N':List Str)(hc:X.calm=true)(S:bp sc X.env.scope)(hcap:bT sc src N' X.N=true)(hi:PI X tg iter wi)
   (hb:∀s H C fp xe,PG (cV X N' sc s H C fp xe) tg g/\jE (cV X N' sc s H C fp xe) ifs tifs/\PE (cV X N' sc s H C fp xe) elt te)
   (hN:X.N.Nodup) (hix:X.N[i]?=some x) (hx:Loc X.env.scope x) (hsw:Tw (.ListComp elt [⟨tg,iter,ifs,0⟩] sc pos) (some (.Name x pos')) da.line X.env=pure true:=by rfl)
   (hs:∀x,Sg iter X.env x=pure x:=by intro _;rfl) (hf:X.fn x=true\/X.env.scope.names.lookup x=some .local:=by first|show .inl rfl|show .inr rfl|assumption) :
   PS X (.Assign [.Name x pos'] (.ListComp elt [⟨tg,iter,ifs,0⟩] sc pos) da) (lR (dj src (.lst []) wi g tifs (dJ te)) (cI i)):=
 rO mT hc S hcap hi (fun s H C fp xe D=>⟨(hb s H C fp xe).1,(hb s H C fp xe).2.1,qw (hb s H C fp xe).2.2 D⟩) kf hs (fun z=>rfl) hN hix hx hsw hf
end
section
variable{K:Ro}{a:Addr}{xs:List V}{g:TG}{tifs:TT}{tm:TM}{σ0:St}{Z:Hp->Prop}{H:Hp}
def jI (n:Nat){J:It}(Pv:Nat->Hp->Prop)(h0:Pv 0 H)(hgo:∀i H,i<n->Pv i H->J.go i H)(hst:∀H,Pv n H->J.stop n H)
   (turn:∀i H,i<n->Pv i H->∀x H',J.yld i H x H'->g x σ0 H' fun σ2 H2=>tifs σ2 H2 fun b H3=>
     if b=true then tm σ2 H3 fun H4=>bz σ0 σ2/\∃m',m'<n-i/\(m'=n-(i+1)/\i+1<=n/\Pv (i+1) H4)else bz σ0 σ2/\∃m',m'<n-i/\(m'=n-(i+1)/\i+1<=n/\Pv (i+1) H3))
   (hZ:∀H,Pv n H->Z H):lA J σ0 g tifs tm Z H:=by
 show⟨fun i m H=>m=n-i/\i<=n/\Pv i H,⟨n,by simp,Sd _,h0⟩,?_⟩
 rintro i m H ⟨rfl,hi,p⟩
 by_cases oM:i<n
 . show .inr ⟨hgo i H oM p,turn i H oM p⟩
 . have e:i=n:=by lia
   subst e
   show .inl ⟨hst H p,hZ H p⟩
def bD (Pv:Nat->Hp->Prop)(h0:Pv 0 H)(hl:∀i H,i<=xs.length->Pv i H->aH K H a xs)
   (turn:∀i x H,xs[i]?=some x->Pv i H->g x σ0 H fun σ2 H2=>tifs σ2 H2 fun b H3=>
     if b=true then tm σ2 H3 fun H4=>bz σ0 σ2/\∃m',m'<xs.length-i/\(m'=xs.length-(i+1)/\i+1<=xs.length/\Pv (i+1) H4)else bz σ0 σ2/\∃m',m'<xs.length-i/\(m'=xs.length-(i+1)/\i+1<=xs.length/\Pv (i+1) H3))
   (hZ:∀H,Pv xs.length H->Z H):lA (EW K a) σ0 g tifs tm Z H:=by
 show jI xs.length Pv h0 (fun i H hi p=>⟨xs,xs[i],hl i H (S3 hi) p,by simp[hi]⟩) (fun H p=>⟨xs,hl _ H (Rz _) p,Rz _⟩) (fun i H hi p x H' y=>?_) hZ
 obtain⟨e,y⟩:=y
 subst e
 show turn i x _ (y xs (hl i _ (S3 hi) p)) p
def hV {lo:Int}{n:Nat}(Pv:Nat->Hp->Prop)(h0:Pv 0 H)
   (turn:∀i H,i<n->Pv i H->g (.int (lo+i)) σ0 H fun σ2 H2=>tifs σ2 H2 fun b H3=>
     if b=true then tm σ2 H3 fun H4=>bz σ0 σ2/\∃m',m'<n-i/\(m'=n-(i+1)/\i+1<=n/\Pv (i+1) H4)else bz σ0 σ2/\∃m',m'<n-i/\(m'=n-(i+1)/\i+1<=n/\Pv (i+1) H3))
   (hZ:∀H,Pv n H->Z H):lA (B6 lo n) σ0 g tifs tm Z H:=by
 show jI n Pv h0 (fun i H hi p=>hi) (fun H p=>Rz _) (fun i H hi p x H' y=>?_) hZ
 obtain⟨e,y⟩:=y
 subst e y
 show turn i _ hi p
def bq {n i:Nat}{P:Prop}{Pv:Nat->Hp->Prop}{H:Hp}(k:P)(hi:i<n)(p:Pv (i+1) H):P/\∃m',m'<n-i/\(m'=n-(i+1)/\i+1<=n/\Pv (i+1) H):=⟨k,_,by lia,rfl,hi,p⟩
end
section
variable{X:Cx}{pins:List (Addr×Obj)}{σ:St}{H:Hp}{s:Shared}{h':Heap}{ch:List Addr}{a:Addr}{o:HO}
def Inv.many {t':Nat}(I:Inv X pins σ H s)(hch:∀b∈ch,ef X pins H b)(k:∀b ob,b∉ch->s.heap.get? b=some ob->h'.get? b=some ob)(hp:s.heap.objs.size<=a)(new:bB X.prog X.w (upd H a o) h' a o) :
   Inv X pins σ (upd H a o) {s with heap:=h',toks:=t'}:=by
 have hn:H a=none:=I.hok.fresh hp
 have na:∀b ob,s.heap.get? b=some ob->b≠a:=fun b ob e=>R1 (RJ (RD e) hp)
 have wt:∀b u,H b=some u->b∉ch:=fun b u e z=>by rw[(hch b z).1]at e;cases e
 show I.step (g':=s.gens) (d':=s.drawn) (ch:=ch) (fun b hb=>⟨(hch b hb).2.2.2.1,(hch b hb).2.1,(hch b hb).2.2.2.2.1,(hch b hb).2.2.2.2.2⟩) (fun b ob y y hc e y=>k b ob hc e) (fun b ob y y hc e y=>⟨ob.slots,k b ob hc e⟩)
   (fun b ob y e n=>by rw[ah (na b ob e)];show n) (fun b ob hc e=>⟨ob,k b ob hc e⟩) (fun b xs e=>by rw[ah (ag e hn)];show e) (fun b ob u e=>by rw[ah (ag e hn)];show e)
   (fun b ps e=>⟨#[],by rw[ah (ag e hn),e];simp⟩) (fun m hm=>?_) (fun b u e=>?_) I.bare
 . obtain⟨ob,es,ep,ho,r⟩:=hm
   show⟨ob,es,ep,k _ ob (fun z=>(hch _ z).2.1 rfl) ho,r⟩
 . by_cases hb:b=a
   . subst hb;rw[ae]at e;cases e;show new
   . rw[ah hb]at e
     show(I.hok b u e).cn (fun c v hc q=>k c v ?_ q) (fun c q=>by rw[ah (ag q hn)];show q) fun c xs q=>by rw[ah (ag q hn)];show q
     rcases hc with z|z
     . subst z;show wt c u e
     . show wt c _ z
def Inv.Bj {t':Nat}(I:Inv X pins σ H s)(hch:∀b∈ch,ef X pins H b)(k:∀b ob,b∉ch->s.heap.get? b=some ob->h'.get? b=some ob) :
   Inv X pins σ H {s with heap:=h',toks:=t'}:=by
 have wt:∀b u,H b=some u->b∉ch:=fun b u e z=>by rw[(hch b z).1]at e;cases e
 show I.step (g':=s.gens) (d':=s.drawn) (ch:=ch) (fun b hb=>⟨(hch b hb).2.2.2.1,(hch b hb).2.1,(hch b hb).2.2.2.2.1,(hch b hb).2.2.2.2.2⟩) (fun b ob y y hc e y=>k b ob hc e) (fun b ob y y hc e y=>⟨ob.slots,k b ob hc e⟩)
   (fun b ob y e n=>n) (fun b ob hc e=>⟨ob,k b ob hc e⟩) (fun b xs e=>e) (fun b ob u e=>e)
   (fun b ps e=>⟨#[],by rw[e];simp⟩) (fun m hm=>?_) (fun b u e=>?_) I.bare
 . obtain⟨ob,es,ep,ho,r⟩:=hm
   show⟨ob,es,ep,k _ ob (fun z=>(hch _ z).2.1 rfl) ho,r⟩
 . show(I.hok b u e).cn (fun c v hc q=>k c v ?_ q) (fun c q=>q) fun c xs q=>q
   rcases hc with z|z
   . subst z;show wt c u e
   . show wt c _ z
end
end L2
namespace PySem
end PySem
namespace L2
open PySem PySem.Spec PyProof.Rows
end L2
namespace L2
open PySem PySem.Spec PyProof.Rows SeqAt
inductive EB (K:Ro) (H:Hp):Nat->V->V->Bool->Prop where
 | flat {n:Nat} {x y:V}:dE x=true->dE y=true->EB K H n x y (oB x y)
 | same {n:Nat} {a:Addr}:EB K H n (.ref a) (.ref a) true
 | lst {n:Nat} {a b:Addr} {xs ys:List V} {e:Nat->Bool}:a≠b->aH K H a xs->aH K H b ys->xs.length=ys.length->(∀j x y,xs[j]?=some x->ys[j]?=some y->EB K H n x y (e j)) ->
     EB K H (n+1) (.ref a) (.ref b) ((TH xs.length).all e)
 | len {n:Nat} {a b:Addr} {xs ys:List V}:a≠b->aH K H a xs->aH K H b ys->xs.length≠ys.length->EB K H n (.ref a) (.ref b) false
 | tup {n:Nat} {a b:Addr} {xs ys:List V} {e:Nat->Bool}:a≠b->bS K H a xs->bS K H b ys->(∀j x y,xs[j]?=some x->ys[j]?=some y->EB K H n x y (e j)) ->
     EB K H (n+1) (.ref a) (.ref b) ((TH (min xs.length ys.length)).all e&&xs.length==ys.length)
section
variable{X:Cx}{pins:List (Addr×Obj)}{σ:St}{H:Hp}{s:Shared}
def eL {K:Ro}{n:Nat}{A:Around}{xs ys:List V}{us vs:List Value}{e:Nat->Bool}(rv:Vals xs us)(rw':Vals ys vs)
   (h:∀j x y,xs[j]?=some x->ys[j]?=some y->∀(A:Around) (u v:Value),RelV x u->RelV y v->A.units+n<cLine->EqAt A s u v (e j)) (hu:A.units+(n+1)<cLine) :
   ∀j (h1:j<us.toArray.size) (h2:j<vs.toArray.size),EqAt A.in1 s us.toArray[j] vs.toArray[j] (e j):=fun j h1 h2=>by
 have l1:=rv.length
 have l2:=rw'.length
 have Ot:j<us.length:=by simpa using h1
 have eW:j<vs.length:=by simpa using h2
 have hx:xs[j]?=some (xs[j]'(by lia)):=RQ _
 have hy:ys[j]?=some (ys[j]'(by lia)):=RQ _
 obtain⟨u,Pw,ru⟩:=rv.get hx
 obtain⟨v,Pz,Eo⟩:=rw'.get hy
 have eu:us[j]=u:=by have:=RQ Ot;rw[Pw]at this;show(Sa this).symm
 have ev:vs[j]=v:=by have:=RQ eW;rw[Pz]at this;show(Sa this).symm
 have q:=h j _ _ hx hy A.in1 u v ru Eo (by change A.units+1+n<cLine;lia)
 simpa[eu,ev]using q
def EB.at (I:Inv X pins σ H s){n:Nat}{x y:V}{b:Bool}(q:EB X.K H n x y b):∀(A:Around) (u v:Value),RelV x u->RelV y v->A.units+n<cLine->EqAt A s u v b:=by
 induction q with
 | flat h1 h2=>show fun A u v ru rv z=>vz ru rv h1 h2
 | same=>intro A u v ru rv _;cases ru;cases rv;show EqAt.same _
 | @lst n a b xs ys e rj ha hb hl _ ih=>
   intro A u v ru rv hu
   cases ru;cases rv
   obtain⟨us,r1,p1,_⟩:=I.list ha
   obtain⟨vs,r2,p2,_⟩:=I.list hb
   have l1:=r1.length
   have l2:=r2.length
   have q:=RcAt.lists (A:=A) p1.isList p2.isList (by simp;lia) (by lia) (eL (K:=X.K) r1 r2 ih hu)
   rw[show us.toArray.size=xs.length by simp[l1]]at q
   show EqAt.of_refs rj q
 | @len n a b xs ys rj ha hb hl=>
   intro A u v ru rv hu
   cases ru;cases rv
   obtain⟨us,r1,p1,_⟩:=I.list ha
   obtain⟨vs,r2,p2,_⟩:=I.list hb
   have l1:=r1.length
   have l2:=r2.length
   show EqAt.of_refs rj (RcAt.lists_lengths p1.isList p2.isList (by simp;lia) (by lia))
 | @tup n a b xs ys e rj ha hb _ ih=>
   intro A u v ru rv hu
   cases ru;cases rv
   obtain⟨us,r1,p1,_⟩:=I.tuple ha
   obtain⟨vs,r2,p2,_⟩:=I.tuple hb
   have l1:=r1.length
   have l2:=r2.length
   have q:=RcAt.tuples (A:=A) (show s.heap.IsTuple a us.toArray from p1) (show s.heap.IsTuple b vs.toArray from p2) (by lia) (eL (K:=X.K) r1 r2 ih hu)
   rw[show us.toArray.size=xs.length by simp[l1],show vs.toArray.size=ys.length by simp[l2]]at q
   show EqAt.of_refs rj q
end
def RB (K:Ro)(H:Hp)(n:Nat)(x y:V)(b:Bool):Prop:=∃a c xs ys,x=.ref a/\y=.ref c /\
 ((∃e:Nat->Bool,aH K H a xs/\aH K H c ys/\xs.length=ys.length/\(∀j x y,xs[j]?=some x->ys[j]?=some y->EB K H n x y (e j))/\b=(TH xs.length).all e) \/
  (aH K H a xs/\aH K H c ys/\xs.length≠ys.length/\b=false) \/
  (∃e:Nat->Bool,bS K H a xs/\bS K H c ys/\(∀j x y,xs[j]?=some x->ys[j]?=some y->EB K H n x y (e j))/\b=((TH (min xs.length ys.length)).all e&&xs.length==ys.length)))
section
variable{X:Cx}
def Dm {m:Nat}(hu:X.A.units+(m+1)<cLine):gC X (compareOp .Eq) (fun x y H Q=>∃b,RB X.K H m x y b/\Q (.bl b) H):=by
 intro pins s σ H x y v u Q I rx ry h
 obtain⟨b,⟨a,c,xs,ys,rfl,rfl,q⟩,k⟩:=h
 cases rx;cases ry
 rcases q with⟨e,ha,hb,hl,he,rfl⟩|⟨ha,hb,hl,rfl⟩|⟨e,ha,hb,he,rfl⟩
 . obtain⟨us,r1,p1,_⟩:=I.list ha
   obtain⟨vs,r2,p2,_⟩:=I.list hb
   have l1:=r1.length
   have l2:=r2.length
   show eq_listAt p1.isList p2.isList (by simp;lia) (by lia) (eL (K:=X.K) r1 r2 (fun j x y h1 h2=>(he j x y h1 h2).at I) hu) ?_
   rw[show us.toArray.size=xs.length by simp[l1]]
   show⟨.bl _,H,I,U,k⟩
 . obtain⟨us,r1,p1,_⟩:=I.list ha
   obtain⟨vs,r2,p2,_⟩:=I.list hb
   have l1:=r1.length
   have l2:=r2.length
   show eq_list_lengthsAt p1.isList p2.isList (by simp;lia) (by lia) ⟨.bl _,H,I,U,k⟩
 . obtain⟨us,r1,p1,_⟩:=I.tuple ha
   obtain⟨vs,r2,p2,_⟩:=I.tuple hb
   have l1:=r1.length
   have l2:=r2.length
   show eq_tupleAt (show s.heap.IsTuple a us.toArray from p1) (show s.heap.IsTuple c vs.toArray from p2) (by lia) (eL (K:=X.K) r1 r2 (fun j x y h1 h2=>(he j x y h1 h2).at I) hu) ?_
   rw[show us.toArray.size=xs.length by simp[l1],show vs.toArray.size=ys.length by simp[l2]]
   show⟨.bl _,H,I,U,k⟩
def Dt {m:Nat}(hu:X.A.units+(m+1)<cLine):gC X (compareOp .NotEq) (fun x y H Q=>∃b,RB X.K H m x y b/\Q (.bl (!b)) H):=by
 intro pins s σ H x y v u Q I rx ry h
 obtain⟨b,⟨a,c,xs,ys,rfl,rfl,q⟩,k⟩:=h
 cases rx;cases ry
 rcases q with⟨e,ha,hb,hl,he,rfl⟩|⟨ha,hb,hl,rfl⟩|⟨e,ha,hb,he,rfl⟩
 . obtain⟨us,r1,p1,_⟩:=I.list ha
   obtain⟨vs,r2,p2,_⟩:=I.list hb
   have l1:=r1.length
   have l2:=r2.length
   show RcNeAt.lists p1.isList p2.isList (by simp;lia) (by lia) (eL (K:=X.K) r1 r2 (fun j x y h1 h2=>(he j x y h1 h2).at I) hu) X.prog X.w X.xe _ ?_
   rw[show us.toArray.size=xs.length by simp[l1]]
   show⟨.bl _,H,I,U,k⟩
 . obtain⟨us,r1,p1,_⟩:=I.list ha
   obtain⟨vs,r2,p2,_⟩:=I.list hb
   have l1:=r1.length
   have l2:=r2.length
   show RcNeAt.lists_lengths p1.isList p2.isList (by simp;lia) (by lia) X.prog X.w X.xe _ ⟨.bl _,H,I,U,k⟩
 . obtain⟨us,r1,p1,_⟩:=I.tuple ha
   obtain⟨vs,r2,p2,_⟩:=I.tuple hb
   have l1:=r1.length
   have l2:=r2.length
   show RcNeAt.tuples (show s.heap.IsTuple a us.toArray from p1) (show s.heap.IsTuple c vs.toArray from p2) (by lia) (eL (K:=X.K) r1 r2 (fun j x y h1 h2=>(he j x y h1 h2).at I) hu) X.prog X.w X.xe _ ?_
   rw[show us.toArray.size=xs.length by simp[l1],show vs.toArray.size=ys.length by simp[l2]]
   show⟨.bl _,H,I,U,k⟩
end
def ET (K:Ro)(H:Hp)(n:Nat)(x y:V):Prop:=EB K H n x y true
def all_true {n:Nat}:(TH n).all (fun z=>true)=true:=by rw[List.all_eq_true];intro _ _;rfl
def vB {x:V}(h:dE x=true):oB x x=true:=by cases x<;>simp_all [dE,oB]
def ET.refl {K:Ro}{H:Hp}{n:Nat}{x:V}(h:dE x=true\/∃a,x=.ref a):ET K H n x x:=by
 rcases h with h|⟨a,rfl⟩
 . have q:=EB.flat (K:=K) (H:=H) (n:=n) h h
   rw[vB h]at q
   show q
 . show .same
def RB.lst {K:Ro}{H:Hp}{n:Nat}{a b:Addr}{xs ys:List V}(ha:aH K H a xs)(hb:aH K H b ys)(hl:xs.length=ys.length)(h:∀(j:Nat) (x y:V),xs[j]?=some x->ys[j]?=some y->ET K H n x y):RB K H n (.ref a) (.ref b) true:=
 ⟨a,b,xs,ys,rfl,rfl,.inl ⟨fun z=>true,ha,hb,hl,h,all_true.symm⟩⟩
def RB.tup {K:Ro}{H:Hp}{n:Nat}{a b:Addr}{xs ys:List V}(ha:bS K H a xs)(hb:bS K H b ys)(hl:xs.length=ys.length)(h:∀(j:Nat) (x y:V),xs[j]?=some x->ys[j]?=some y->ET K H n x y):RB K H n (.ref a) (.ref b) true:=
 ⟨a,b,xs,ys,rfl,rfl,.inr (.inr ⟨fun z=>true,ha,hb,h,by rw[all_true,hl,beq_self_eq_true];rfl⟩)⟩
def RB.nil {K:Ro}{H:Hp}{n:Nat}{a b:Addr}{xs:List V}(ha:aH K H a xs)(hb:aH K H b []):RB K H n (.ref a) (.ref b) xs.isEmpty:=by
 cases xs with
 | nil=>show RB.lst ha hb rfl (fun j x y h=>by simp at h)
 | cons x r=>show⟨a,b,_,[],rfl,rfl,.inr (.inl ⟨ha,hb,by simp,rfl⟩)⟩
section
variable{X:Cx}{pos:Pos}
def F2 (K:Ro)(n:Nat)(t:sO):TG:=fun v σ H Q=>∃a xs,v=.ref a/\aH K H a xs/\xs.length=n/\t xs σ H Q
def DX {es:List Expr}{k:Nat}{t:sO}{n:Nat}(hc:X.calm=true)(h:EY X es t)
   (hn:(assignEach es X.env).length=n:=by rfl) (hst:(assignEach es X.env).findIdx? (·.1)=none:=by rfl):PG X (.Tuple es k pos) (F2 X.K n t):=by
 intro pins s σ H v u Q I r hw
 obtain⟨a,xs,e1,hq,hl,hw⟩:=hw
 subst e1
 cases r
 obtain⟨its,rv,ht,hz⟩:=I.list hq
 have hlen:=rv.length
 rw[assign_Tuple]
 show wpAny_bind (wpAny_standAt ?_)
 unfold unpack
 rw[show(assignEach es X.env).length=its.toArray.size by simp[hn,← hl,hlen],hst]
 show wpAny_bind (wpAny_holding (PySem.W.kun_itemsOf (I.ok.hd hc) ht.isList fun h' hx=>?_))
 have I1:Inv X pins σ H {s with heap:=h'}:=I.kept (t':=s.toks) fun b o e=>hx b o (R1 (RD e)) e
 show h pins _ σ H xs _ Q I1 (by simpa using rv) hw
def AU (i j:Int):Prop:=0<j/\j<2^1000
def xj:gC X (binaryOp .FloorDiv) (rI AU fun i j=>.int (i/j)):=G7 fun i j z z z z z hc q=>by
 have h1:(0:Int)<j:=hc.1
 have h2:j<2^1000:=hc.2
 have h3:j.natAbs<2^1000:=by lia
 show floordiv_int (by lia) (by rw[VT i (by lia)];show q) (.inl (PyProof.noPylong_of_log2 (RJ ((Nat.log2_lt (by lia)).mpr h3) (by left))))
end
end L2
namespace TW
open PySem L2
inductive K2 where
 | plus|less|same|under|both
def K2.str:K2->Str
 | .plus=>"plus" | .less=>"less" | .same=>"same" | .under=>"under" | .both=>"both"
inductive E where
 | num (n:Int)|box (tag x:Str)|yes|nt (a:E)|two (k:K2) (a b:E)
def Tp (H:Hp)(v:V)(xs:List V):Prop:=∃p,v=.ref p/\H p=some (.tup xs)
def cJ (H:Hp):V->E->Prop
 | v,.num n=>Tp H v [.str "number",.int n]
 | v,.box t x=>Tp H v [.str t,.str x]
 | v,.yes=>Tp H v [.str "yes"]
 | v,.nt a=>∃x,Tp H v [.str "not",x]/\cJ H x a
 | v,.two k a b=>∃x y,Tp H v [.str k.str,x,y]/\cJ H x a/\cJ H y b
def TK (H H':Hp):Prop:=∀b xs,H b=some (.tup xs)->H' b=some (.tup xs)
def TK.trans {A B C:Hp}(a:TK A B)(b:TK B C):TK A C:=fun c o h=>b c o (a c o h)
def Tp.keep {H H':Hp}{v:V}{xs:List V}(k:TK H H')(h:Tp H v xs):Tp H' v xs:=by obtain⟨p,e,q⟩:=h;show⟨p,e,k p xs q⟩
theorem cJ.keep {H H':Hp}(k:TK H H'):∀{e:E} {v:V},cJ H v e->cJ H' v e
 | .num _,_,h=>Tp.keep k h
 | .box _ _,_,h=>Tp.keep k h
 | .yes,_,h=>Tp.keep k h
 | .nt _,_,⟨x,h,a⟩=>⟨x,h.keep k,cJ.keep k a⟩
 | .two _ _ _,_,⟨x,y,h,a,b⟩=>⟨x,y,h.keep k,cJ.keep k a,cJ.keep k b⟩
def E.dep:E->Nat
 | .num _=>0|.box _ _=>0|.yes=>0|.nt a=>a.dep+1|.two _ a b=>max a.dep b.dep+1
def E.vX:E->Prop
 | .num _=>True
 | .box _ _=>True
 | .two .plus a b=>a.vX/\b.vX
 | .two .less a b=>a.vX/\b.vX
 | _=>False
def E.Fh:E->Prop
 | .yes=>True
 | .nt a=>a.Fh
 | .two .same a b=>a.vX/\b.vX
 | .two .under a b=>a.vX/\b.vX
 | .two .both a b=>a.Fh/\b.Fh
 | _=>False
def E.okIn (P:Str->Str->Prop):E->Prop
 | .num n=>n.natAbs<2^100|.box t x=>P t x|.yes=>True|.nt a=>a.okIn P|.two _ a b=>a.okIn P/\b.okIn P
theorem E.okIn.imp {P Q:Str->Str->Prop}(f:∀t x,P t x->Q t x):∀{e:E},e.okIn P->e.okIn Q
 | .num _,h=>h|.box t x,h=>f t x h|.yes,_=>RO|.nt a,h=>E.okIn.imp f (e:=a) h|.two _ a b,h=>⟨E.okIn.imp f (e:=a) h.1,E.okIn.imp f (e:=b) h.2⟩
def Kp (d:Addr)(H H':Hp):Prop:=∀b o,H b=some o->b≠d->H' b=some o
def Kp.refl {d:Addr}(H:Hp):Kp d H H:=fun z z h z=>h
def Kp.trans {d:Addr}{A B C:Hp}(a:Kp d A B)(b:Kp d B C):Kp d A C:=fun c o h n=>b c o (a c o h n) n
def Kp.new {d:Addr}{H H':Hp}{p:Addr}{o:HO}(k:Kp d H H')(h:H' p=none):Kp d H (upd H' p o):=fun b u e n=>by
 rw[ah (ag (k b u e n) h)];show k b u e n
def Kp.self {d:Addr}{H H':Hp}{o:HO}(k:Kp d H H'):Kp d H (upd H' d o):=fun b u e n=>by rw[ah n];show k b u e n
def Kp.same {d:Addr}{H H1 H2:Hp}(k:Kp d H H1)(s:ai H1 H2):Kp d H H2:=fun b u e n=>s b u (k b u e n)
def af {H:Hp}{p:Addr}(h:H p=none)(o:HO):ai H (upd H p o):=fun b u q=>by rw[ah (ag q h)];show q
def ai.tk {H H':Hp}(s:ai H H'):TK H H':=fun b xs h=>s b _ h
def lB {H:Hp}{p:Addr}(h:H p=none)(o:HO):TK H (upd H p o):=ai.tk (af h o)
def small {n:Nat}(h:n<=1000):n<=sizeLine:=S3 (aW h)
def fm (H:Hp)(v:V)(b:Str×Int):Prop:=Tp H v [.str b.1,.int b.2]
structure yE (bs:aB):Prop where
 nd:(bs.map (·.1)).Nodup
 sz:∀b∈bs,1<=b.2/\b.2<=16
 len:bs.length<=4
end TW
set_option exponentiation.threshold 4000
namespace TW
open PySem L2
def Src (K:Ro)(mg:Str->Option Value)(x:Str)(st:Stmt):Prop:=∃f fd,cD K x x st f fd/\mg x=some (.ref f)
def b7 (P:Program)(w:World)(K:Ro)(mg:Str->Option Value)(base:Heap)(x:Str)(ps:List Str)(k:Nat)(sp:Sp):Prop:=
 ∃f fd,aY P w K mg base dq k f fd ps sp/\Tf K (.ref f)=true/\Binds K fd ps []/\mg x=some (.ref f)
def b7.mono {P:Program}{w:World}{K:Ro}{mg:Str->Option Value}{base:Heap}{x:Str}{ps:List Str}{j k:Nat}{sp:Sp}(h:b7 P w K mg base x ps j sp)(hk:j<=k):b7 P w K mg base x ps k sp:=
 let⟨f,fd,a,b,c,d⟩:=h;⟨f,fd,a.mono hk,b,c,d⟩
def fZ {α:Type}(f:α->V)(xs:List α){r:Int}(h0:0<=r)(h1:r<(xs.length:Int)):∃x∈xs,iz (xs.map f) r=some (f x):=by
 have hr:r.toNat<xs.length:=by lia
 have e:r=((r.toNat:Nat):Int):=by lia
 have q:iz (xs.map f) ((r.toNat:Nat):Int)=some (f xs[r.toNat]):=f6 (by rw[Sb,RQ hr];rfl)
 rw[← e]at q
 show⟨xs[r.toNat],List.getElem_mem hr,q⟩
def dm {A:Around}{k:Nat}(hr:bY k A)(m:Nat)(hm:m<=64):A.units+m<cLine:=by have:=hr.units;lia
end TW
namespace L2
open PySem PySem.Spec PyProof.Rows
structure bL (e:Expr):Prop where
 h:∀(es:List Expr) (env:Env),starEach (e::es) env=(false,eval e env)::starEach es env
def fK {e:Expr}(h:∀x p,e≠.Starred x p):bL e:=⟨fun es env=>by
 cases e<;>first|rfl|show au rfl (h _ _)⟩
def fJ {c k p}:bL (.Constant c k p):=fK fun y y z=>nomatch z
def nE {x p}:bL (.Name x p):=fK fun y y z=>nomatch z
def jO {f a k p}:bL (.Call f a k p):=fK fun y y z=>nomatch z
def wF {a o b p}:bL (.BinOp a o b p):=fK fun y y z=>nomatch z
def nF {a b p}:bL (.Subscript a b p):=fK fun y y z=>nomatch z
def wJ {a b p}:bL (.Tuple a b p):=fK fun y y z=>nomatch z
def wI {a p}:bL (.List a p):=fK fun y y z=>nomatch z
def wG {a b c p}:bL (.Compare a b c p):=fK fun y y z=>nomatch z
def Bn {a b c p}:bL (.ListComp a b c p):=fK fun y y z=>nomatch z
def Bo {a b p}:bL (.UnaryOp a b p):=fK fun y y z=>nomatch z
def iB (es:List Expr):Prop:=∀(pos:Pos) (env:Env),(backTo pos (starEach es env)).any (·.1)=false
def zE:iB []:=fun z z=>rfl
def wK {e:Expr}{es:List Expr}(h:bL e)(hs:iB es):iB (e::es):=fun pos env=>by
 rw[h.h es env]
 show hs pos env
structure qP (X:Cx)(es:List Expr)(t:TA):Prop where
 pa:PA X es t
 ns:∀e r,es=e::r->bL e/\iB r
 nss:iB es
section
variable{X:Cx}{e:Expr}{es:List Expr}{te:TE}{t:TA}{pos:Pos}
def an:qP X [] yn:=⟨DC,(fun y y z=>nomatch z),zE⟩
def ac (ha:PE X e te)(hr:qP X es t)
   (hs:bL e:=by first|show fJ|show nE|show jO|show wF|show nF|show wJ|show wI|show wG|show Bn|show GX|show Bo|show zD|show zC):qP X (e::es) (yl te t):=
 ⟨zZ ha hr.pa (hs.h es X.env),fun e' r z=>by injection z with z1 z2;subst z1 z2;show⟨hs,hr.nss⟩,wK hs hr.nss⟩
def LH {x1}(h:qP X es t):PE X (.Tuple es x1 pos) (EN t):=DR h.pa
def LF (h:qP X es t):PE X (.List es pos) (EL t):=DO h.pa
def ES {x:Str}{p:Pos}{id:String}{r:List V->Hp->VK->Prop}(hc:dz X (.builtin id) r)(hg:Gl X x)(hm:X.mg x=none)(hv:SJ x=some (.builtin id))(ha:qP X (e::es) t)(hn:x≠"__name__":=by left)(hdb:(x==("__debug__":Str))=false:=by left) :
   PE X (.Call (.Name x p) (e::es) [] pos) (Fn r t):=xk hc hg hm hv ha.pa hn hdb ((ha.ns e es rfl).1.h es X.env) ((ha.ns e es rfl).2 pos X.env)
def EU {x:Str}{p:Pos}{T:String}{r:List V->Hp->VK->Prop}(hc:dz X (.type T) r)(hg:Gl X x)(hm:X.mg x=none)(hv:SJ x=some (.type T))(ha:qP X (e::es) t)(hn:x≠"__name__":=by left)(hdb:(x==("__debug__":Str))=false:=by left) :
   PE X (.Call (.Name x p) (e::es) [] pos) (Fn r t):=uw hc hg hm hv ha.pa hn hdb ((ha.ns e es rfl).1.h es X.env) ((ha.ns e es rfl).2 pos X.env)
def LG {x:Str}{p:Pos}{ps:List Str}{k:Nat}{sp:Sp}(D:TW.b7 X.prog X.w X.K X.mg X.base x ps k sp)(hr:bY k X.A)(hg:Gl X x)(ha:qP X (e::es) t)(hdb:(x==("__debug__":Str))=false:=by left) :
   PE X (.Call (.Name x p) (e::es) [] pos) (sA sp [] E0 t):=
 let⟨_,_,G,kp,b,m⟩:=D
 rL G hr hg m kp b .nil rK ha.pa hdb ((ha.ns e es rfl).1.h es X.env) ((ha.ns e es rfl).2 pos X.env)
def AR {tg a:Expr}{ta:TA}{p:Pos}(hg:Gl X "range")(hm:X.mg "range"=none)(ha:qP X [a] ta):PI X tg (.Call (.Name "range" p) [a] [] pos) (vU ta):=
 uy hg hm ha.pa ((ha.ns a [] rfl).1.h [] X.env)
def LD {o:Expr}{name:Str}{apos:Pos}{T id:String}{r:V->List V->Hp->VK->Prop}{to:TE}(pa:PlainAttrs T)(slot:Slot T name id)(hty:typeOf (.builtin id)=pure (.type "method_descriptor"))(hm:EX X id r)(ho:PE X o to)(ha:qP X [e] t)
   (hbase:Ss o name X.env (eval o X.env)=eval o X.env:=by rfl) (hline:(apos.endLine==pos.line)=true:=by rfl):PE X (.Call (.Attribute o name apos) [e] [] pos) (EI X.K T r to t):=
 Hl pa slot hty hm ho ha.pa hbase (by rw[(ha.ns e [] rfl).1.h [] X.env];rfl) hline ((ha.ns e [] rfl).1.h [] X.env) ((ha.ns e [] rfl).2 pos X.env)
end
end L2
namespace L3
open PySem PySem.Spec PyProof.Rows L2
structure SE (X:Cx)(e:Expr)(t:TE):Prop where
 h:PE X e t
structure ST (X:Cx)(e:Expr)(t:TT):Prop where
 h:PT X e t
structure SW (X:Cx)(e:Expr)(t:TT):Prop where
 h:PW X e t
structure SA (X:Cx)(es:List Expr)(t:TA):Prop where
 h:qP X es t
structure SS (X:Cx)(s:Stmt)(t:TS):Prop where
 h:PS X s t
structure SL (X:Cx)(ss:List Stmt)(t:TS):Prop where
 h:lD X ss t
structure SG (X:Cx)(e:Expr)(t:TG):Prop where
 h:PG X e t
structure FE (X:Cx)(es:List Expr)(t:sO):Prop where
 h:EY X es t
structure SI (X:Cx)(tg iter:Expr)(t:TI):Prop where
 h:PI X tg iter t
structure E5 (X:Cx)(cs:List Expr)(t:TT):Prop where
 h:jE X cs t
structure SO (X:Cx)(f:Value->Value->Sem Value)(r:R2):Prop where
 h:gC X f r
structure SX (X:Cx)(r:R2):Prop where
 h:Fy X r
structure SC (X:Cx)(f:Value)(r:List V->Hp->VK->Prop):Prop where
 h:dz X f r
structure SM (X:Cx)(id:String)(r:V->List V->Hp->VK->Prop):Prop where
 h:EX X id r
section
variable{X:Cx}{a b c e o:Expr}{es:List Expr}{ta tb tc te:TE}{t:TA}{tA uB:TT}{pos:Pos}{r:R2}
def v (i:Nat){x:Str}(hN:X.N[i]?=some x:=by rfl)(hv:IY X.env.scope x:=by first|show Or.inl rfl|show Or.inr (Or.inl rfl)|show Or.inr (Or.inr rfl))(hd:(x==("__debug__":Str))=false:=by left)
   (hcd:(x==("__classdict__":Str))=false:=by left):SE X (.Name x pos) (AL i):=⟨DS hN hv hd hcd⟩
theorem int {i j}:SE X (.Constant (.int i) j pos) (tC (.int i)):=⟨DK⟩
theorem bl {k j}:SE X (.Constant (.bool k) j pos) (tC (.bl k)):=⟨Hj⟩
theorem bI {j}:SE X (.Constant .none j pos) (tC .bI):=⟨DP⟩
theorem str {x j}:SE X (.Constant (.str x) j pos) (tC (.str x)):=⟨xq⟩
def glob {x:Str}{w:V}{u:Value}(hg:Gl X x)(hm:X.mg x=some u)(r:RelV w u)(hd:(x==("__debug__":Str))=false:=by left):SE X (.Name x pos) (tC w):=⟨Ab hg hm r hd⟩
def JI {x:Str}{w:V}{u:Value}(hg:Gl X x)(hm:X.mg x=none)(hv:SJ x=some u)(r:RelV w u)(hn:x≠"__name__":=by left)(hd:(x==("__debug__":Str))=false:=by left):SE X (.Name x pos) (tC w):=⟨z4 hg hm hv r hn hd⟩
def op {k:V5}(ho:SO X (binaryOp k) r)(ha:SE X a ta)(hb:SE X b tb):SE X (.BinOp a k b pos) (yA r ta tb):=⟨Hq ho.h ha.h hb.h⟩
def cmp {k:CmpOp}(ho:SO X (compareOp k) r)(ha:SE X a ta)(hb:SE X b tb)(hm:TQ k b=false:=by show wC _):ST X (.Compare a [k] [b] pos) (B0 (yA r ta tb)):=⟨Ap ho.h ha.h hb.h hm⟩
def Cn {k:CmpOp}(ho:SO X (compareOp k) r)(ha:SE X a ta)(hb:SE X b tb)(hm:TQ k b=false:=by show wC _):SE X (.Compare a [k] [b] pos) (yA r ta tb):=⟨z5 ho.h ha.h hb.h hm⟩
def bt:SO X (binaryOp .Add) (uY fun i j=>.int (i+j)):=⟨Dk⟩
def my:SO X (binaryOp .Sub) (uY fun i j=>.int (i-j)):=⟨Dw⟩
def dk:SO X (binaryOp .Mult) (rI yF fun i j=>.int (i*j)):=⟨Ds⟩
def aO:SO X (binaryOp .Mod) (rI (fun z j=>0<j) fun i j=>.int (i%j)):=⟨Dr⟩
def bO:SO X (binaryOp .FloorDiv) (rI AU fun i j=>.int (i/j)):=⟨xj⟩
def jA:SO X (binaryOp .Pow) (rI Fs fun i j=>.int (i^j.toNat)):=⟨Du⟩
def dZ:SO X (binaryOp .Add) HP:=⟨Dl⟩
def bF:SO X (compareOp .Eq) MU:=⟨G9⟩
def oZ:SO X (compareOp .NotEq) MV:=⟨Hh⟩
def oY:SO X (compareOp .Lt) (uY fun i j=>.bl (decide (i<j))):=⟨Hg⟩
def nH:SO X (compareOp .Gt) (uY fun i j=>.bl (decide (j<i))):=⟨Hf⟩
def GY:SO X (compareOp .GtE) (uY fun i j=>.bl (decide (j<=i))):=⟨He⟩
def wN {KK:Ro}{m:Nat}(hu:X.A.units+(m+1)<cLine)(hK:X.K=KK:=by first|show br|rfl):SO X (compareOp .Eq) (fun x y H Q=>∃b,RB KK H m x y b/\Q (.bl b) H):=by
 subst hK
 show⟨Dm hu⟩
def gM {KK:Ro}{m:Nat}(hu:X.A.units+(m+1)<cLine)(hK:X.K=KK:=by first|show br|rfl):SO X (compareOp .NotEq) (fun x y H Q=>∃b,RB KK H m x y b/\Q (.bl (!b)) H):=by
 subst hK
 show⟨Dt hu⟩
def zG {KK:Ro}(hK:X.K=KK:=by first|show br|rfl):SO X (compareOp .In) (Jn KK false):=by
 subst hK
 show⟨ur⟩
def jQ {KK:Ro}(hK:X.K=KK:=by first|show br|rfl):SO X (compareOp .NotIn) (Jn KK true):=by
 subst hK
 show⟨nK⟩
def GZ:SO X (compareOp .Is) (fun x y H Q=>y=.bI/\Q (.bl (decide (x=.bI))) H):=⟨Dp⟩
def JR (hu:X.A.units+1<cLine)(hi:SE X a ta)(ho:SE X b tb)(h1:TQ .In b=false:=by first|show wB _ (by left) (by left)|rfl):SE X (.Compare a [.In] [b] pos) (Iz ta tb):=⟨DI (DF hu hi.h ho.h) h1⟩
def Dy {rest:List Expr}(ha:ST X a tA)(hb:SW X (.BoolOp .Or (b::rest) pos) uB):SW X (.BoolOp .Or (a::b::rest) pos) (Nh tA uB):=⟨HM ha.h hb.h⟩
def Fi (ha:ST X a tA):SW X (.BoolOp .Or [a] pos) tA:=⟨Ef ha.h⟩
def fC {rest:List Expr}(ha:ST X a tA)(hb:SW X (.BoolOp .And (b::rest) pos) uB):SW X (.BoolOp .And (a::b::rest) pos) (Iw tA uB):=⟨Ee ha.h hb.h⟩
def gX (ha:ST X a tA):SW X (.BoolOp .And [a] pos) tA:=⟨Aq ha.h⟩
def tw (h:SW X e tA):ST X e tA:=⟨h.h.pt⟩
def nt (ha:ST X a tA):ST X (.UnaryOp .Not a pos) (IE tA):=⟨Ec ha.h⟩
def uR (h:SE X e te)(he:∀whole,isTrue e X.env whole=(do let v←whole;standAt e.pos;holding [v] (truthy v)):=by intro _;rfl):ST X e (tB te):=⟨Ed h.h he⟩
def ix (hr:SX X r)(ha:SE X a ta)(hb:SE X b tb)(hs:jH b:=by show fun z z=>rfl):SE X (.Subscript a b pos) (yA r ta tb):=⟨Hm hr.h ha.h hb.h hs⟩
def dw {KK:Ro}(hK:X.K=KK:=by first|show br|rfl):SX X (HR KK):=by
 subst hK
 show⟨zo⟩
def eX {KK:Ro}(hK:X.K=KK:=by first|show br|rfl):SX X (HU KK):=by
 subst hK
 show⟨CU⟩
def JQ (hu:X.A.units+1<cLine)(ho:SE X a ta)(hi:SE X b tb)(hs:u6 b:=by show fun z z=>rfl):SE X (.Subscript a b pos) (BR ta tb):=⟨z7 hu ho.h hi.h hs⟩
def Ll {KK:Ro}{p2:Pos}(ha:SE X a ta)(hb:SE X b tb)(hK:X.K=KK:=by first|show br|rfl):SE X (.Subscript a (.Slice (some b) none none p2) pos) (EM (HW KK) ta (jc tb) jb):=by
 subst hK
 show⟨eP EE ha.h (d8 hb.h) jS⟩
def ED {KK:Ro}{p2:Pos}(ha:SE X a ta)(hb:SE X b tb)(hK:X.K=KK:=by first|show br|rfl):SE X (.Subscript a (.Slice none (some b) none p2) pos) (EM (As KK) ta jb (jc tb)):=by
 subst hK
 show⟨eP nY ha.h jS (d8 hb.h)⟩
def n:SA X [] yn:=⟨an⟩
def k (ha:SE X e te)(hr:SA X es t)(hs:bL e:=by first|show fJ|show nE|show jO|show wF|show nF|show wJ|show wI|show wG|show Bn|show GX|show Bo|show zD|show zC) :
   SA X (e::es) (yl te t):=⟨ac ha.h hr.h hs⟩
def tup {x1}(h:SA X es t):SE X (.Tuple es x1 pos) (EN t):=⟨LH h.h⟩
def lst (h:SA X es t):SE X (.List es pos) (EL t):=⟨LF h.h⟩
def aX {x:Str}{p:Pos}{id:String}{rr:List V->Hp->VK->Prop}(hc:SC X (.builtin id) rr)(hg:Gl X x)(hm:X.mg x=none)(hv:SJ x=some (.builtin id))(ha:SA X (e::es) t)(hn:x≠"__name__":=by left)(hdb:(x==("__debug__":Str))=false:=by left) :
   SE X (.Call (.Name x p) (e::es) [] pos) (Fn rr t):=⟨ES hc.h hg hm hv ha.h hn hdb⟩
def dC {x:Str}{p:Pos}{T:String}{rr:List V->Hp->VK->Prop}(hc:SC X (.type T) rr)(hg:Gl X x)(hm:X.mg x=none)(hv:SJ x=some (.type T))(ha:SA X (e::es) t)(hn:x≠"__name__":=by left)(hdb:(x==("__debug__":Str))=false:=by left) :
   SE X (.Call (.Name x p) (e::es) [] pos) (Fn rr t):=⟨EU hc.h hg hm hv ha.h hn hdb⟩
def own {x:Str}{p:Pos}{ps:List Str}{kk:Nat}{sp:Sp}(D:TW.b7 X.prog X.w X.K X.mg X.base x ps kk sp)(hr:bY kk X.A)(hg:Gl X x)(ha:SA X (e::es) t)(hdb:(x==("__debug__":Str))=false:=by left) :
   SE X (.Call (.Name x p) (e::es) [] pos) (sA sp [] E0 t):=⟨LG D hr hg ha.h hdb⟩
def IZ {KK:Ro}{name:Str}{apos:Pos}{T id:String}{rr:V->List V->Hp->VK->Prop}(pa:PlainAttrs T)(slot:Slot T name id)(hty:typeOf (.builtin id)=pure (.type "method_descriptor"))(hm:SM X id rr)(ho:SE X o ta)(ha:SA X [e] t)
   (hbase:Ss o name X.env (eval o X.env)=eval o X.env:=by rfl) (hline:(apos.endLine==pos.line)=true:=by rfl) (hK:X.K=KK:=by first|show br|rfl):SE X (.Call (.Attribute o name apos) [e] [] pos) (EI KK T rr ta t):=by
 subst hK
 show⟨LD pa slot hty hm.h ho.h ha.h hbase hline⟩
theorem append {KK:Ro}{apos:Pos}(ho:SE X o ta)(ha:SA X [e] t)(hbase:Ss o "append" X.env (eval o X.env)=eval o X.env:=by rfl)(hline:(apos.endLine==pos.line)=true:=by rfl)(hK:X.K=KK:=by first|show br|rfl):SE X (.Call (.Attribute o "append" apos) [e] [] pos) (EI KK "list" rP ta t):=by
 subst hK
 show IZ Us PySem.F.slot_list_append PySem.F.type_list_append ⟨mr⟩ ho ha hbase hline
def Bs {KK:Ro}{apos:Pos}(ho:SE X o ta)(ha:SA X [e] t)(hbase:Ss o "pop" X.env (eval o X.env)=eval o X.env:=by rfl)(hline:(apos.endLine==pos.line)=true:=by rfl)(hK:X.K=KK:=by first|show br|rfl):SE X (.Call (.Attribute o "pop" apos) [e] [] pos) (EI KK "list" xG ta t):=by
 subst hK
 show IZ Us V2 V0 ⟨wo⟩ ho ha hbase hline
def bu {KK:Ro}(hK:X.K=KK:=by first|show br|rfl):SC X (.builtin "len") (fun xs H Q=>∃p ys,xs=[.ref p]/\(aH KK H p ys\/bS KK H p ys)/\Q (.int ys.length) H):=by
 subst hK
 show⟨mO⟩
def mM {KK:Ro}(hK:X.K=KK:=by first|show br|rfl):SC X (.type "list") (fun xs H Q=>∃p ys,xs=[.ref p]/\(aH KK H p ys\/bS KK H p ys)/\∀l,H l=none->Q (.ref l) (upd H l (.lst ys))):=by
 subst hK
 show⟨mR⟩
def FL:SC X (.type "int") (fun xs H Q=>(∃i,xs=[.int i]/\Q (.int i) H)\/∃k,xs=[.bl k]/\Q (.int (if k then 1 else 0)) H):=⟨sQ⟩
def gn (i:Nat){x:Str}(hN:X.N.Nodup)(hi:X.N[i]?=some x:=by rfl)(hx:Loc X.env.scope x:=by first|show Or.inl rfl|show Or.inr rfl)(hf:X.fn x=true\/X.env.scope.names.lookup x=some .local:=by first|show .inl rfl|show .inr rfl):SG X (.Name x pos) (cI i):=⟨Ae hN hi hx hf⟩
def pO:FE X [] y9:=⟨Af⟩
def gw {t:TG}{u:sO}(h1:SG X e t)(h2:FE X es u)(hs:(assignEach (e::es) X.env).map (·.2)=assign e X.env::(assignEach es X.env).map (·.2):=by rfl):FE X (e::es) (kB t u):=⟨xt h1.h h2.h hs⟩
def kF {KK:Ro}{kk:Nat}{t:sO}(m:Nat)(h:FE X es t)(hc:X.calm=true:=by rfl)(hn:(assignEach es X.env).length=m:=by rfl)(hst:(assignEach es X.env).findIdx? (·.1)=none:=by rfl)(hK:X.K=KK:=by first|show br|rfl):SG X (.Tuple es kk pos) (zb KK m t):=by
 subst hK
 show⟨DY hc h.h hn hst⟩
def zc {KK:Ro}{kk:Nat}{t:sO}(m:Nat)(h:FE X es t)(hc:X.calm=true:=by rfl)(hn:(assignEach es X.env).length=m:=by rfl)(hst:(assignEach es X.env).findIdx? (·.1)=none:=by rfl)(hK:X.K=KK:=by first|show br|rfl):SG X (.Tuple es kk pos) (F2 KK m t):=by
 subst hK
 show⟨DX hc h.h hn hst⟩
def Kk {cc:Const}{j:Nat}{p:Pos}(ho:SE X a ta)(hi:SE X (.Constant cc j p) tb):SG X (.Subscript a (.Constant cc j p) pos) (za ta tb rQ):=⟨qt ho.h hi.h set_list (fun z=>rfl)⟩
def iL {KK:Ro}{tg:Expr}(h:SE X a ta)(hK:X.K=KK:=by first|show br|rfl):SI X tg a (Be KK ta):=by
 subst hK
 show⟨Ah h.h⟩
def iT {KK:Ro}{tg:Expr}(h:SE X a ta)(hK:X.K=KK:=by first|show br|rfl):SI X tg a (GH KK ta):=by
 subst hK
 show⟨DZ h.h⟩
def iR {tg:Expr}{p:Pos}(hg:Gl X "range")(hm:X.mg "range"=none)(ha:SA X [a] t):SI X tg (.Call (.Name "range" p) [a] [] pos) (vU t):=⟨AR hg hm ha.h⟩
def pB:E5 X [] EJ:=⟨Lb⟩
def if1 (h:ST X a tA):E5 X [a] tA:=⟨Lc h.h⟩
def lc {tg iter elt:Expr}{ifs:List Expr}{sc:Scope}{wi:TI}{g:TG}{tifs:TT}(src:List (Option Nat))(N':List Str)(S:bp sc X.env.scope)(hcap:bT sc src N' X.N=true)(hi:SI X tg iter wi)
   (hb:∀s H C fp xe,SG (cV X N' sc s H C fp xe) tg g/\E5 (cV X N' sc s H C fp xe) ifs tifs/\SE (cV X N' sc s H C fp xe) elt te) (hc:X.calm=true:=by rfl)
   (hs:∀x,Sg iter X.env x=pure x:=by intro _;rfl):SE X (.ListComp elt [⟨tg,iter,ifs,0⟩] sc pos) (dj src (.lst []) wi g tifs (dJ te)):=
 ⟨Ho src N' hc S hcap hi.h (fun s H C fp xe=>⟨(hb s H C fp xe).1.h,(hb s H C fp xe).2.1.h,(hb s H C fp xe).2.2.h⟩) hs⟩
def Fl {tg iter elt:Expr}{ifs:List Expr}{sc:Scope}{wi:TI}{g:TG}{tifs:TT}{i:Nat}{x:Str}{pos' da:Pos}(src:List (Option Nat))(N':List Str)(S:bp sc X.env.scope)(hcap:bT sc src N' X.N=true)(hi:SI X tg iter wi)
   (hb:∀s H C fp xe,SG (cV X N' sc s H C fp xe) tg g/\E5 (cV X N' sc s H C fp xe) ifs tifs/\SE (cV X N' sc s H C fp xe) elt te) (hN:X.N.Nodup) (hix:X.N[i]?=some x:=by rfl) (hx:Loc X.env.scope x:=by show Or.inl rfl)
   (hsw:Tw (.ListComp elt [⟨tg,iter,ifs,0⟩] sc pos) (some (.Name x pos')) da.line X.env=pure true:=by rfl) (hc:X.calm=true:=by rfl)
   (hs:∀x,Sg iter X.env x=pure x:=by intro _;rfl) (hf:X.fn x=true\/X.env.scope.names.lookup x=some .local:=by first|show .inl rfl|show .inr rfl) :
   SS X (.Assign [.Name x pos'] (.ListComp elt [⟨tg,iter,ifs,0⟩] sc pos) da) (lR (dj src (.lst []) wi g tifs (dJ te)) (cI i)):=
 ⟨HL src N' hc S hcap hi.h (fun s H C fp xe=>⟨(hb s H C fp xe).1.h,(hb s H C fp xe).2.1.h,(hb s H C fp xe).2.2.h⟩) hN hix hx hsw hs hf⟩
variable{st:Stmt}{rest:List Stmt}{u1 u2:TS}
def nil:SL X [] BW:=⟨An⟩
def cons (h1:SS X st u1)(h2:SL X rest u2):SL X (st::rest) (fQ u1 u2):=⟨xD h1.h h2.h⟩
def one (h1:SS X st u1):SL X [st] u1:=⟨Ao h1.h⟩
def never:SL X rest ym:=⟨uE⟩
def ret (he:SE X e te):SS X (.Return (some e) pos) (IF te):=⟨Ea he.h⟩
def ex (he:SE X e te)(hs:Tw e none pos.line X.env=pure false:=by rfl):SS X (.Expr e pos) (BU te):=⟨Al he.h hs⟩
def ifs {tc:TT}{x y:List Stmt}(hc:ST X c tc)(ha:SL X x u1)(hb:SL X y u2):SS X (.If c x y pos) (EK tc u1 u2):=⟨HH hc.h ha.h hb.h⟩
def set (i:Nat){x:Str}{pos':Pos}(hN:X.N.Nodup)(he:SE X e te)(hi:X.N[i]?=some x:=by rfl)(hx:Loc X.env.scope x:=by first|show Or.inl rfl|show Or.inr rfl)(hs:Tw e (some (.Name x pos')) pos.line X.env=pure false:=by rfl)(hf:X.fn x=true\/X.env.scope.names.lookup x=some .local:=by first|show .inl rfl|show .inr rfl) :
   SS X (.Assign [.Name x pos'] e pos) (lR te (cI i)):=⟨Eb hN hi hx he.h hs hf⟩
def asg {tg:Expr}{g:TG}(he:SE X e te)(hg:SG X tg g)(hs:swapsWithSole [tg] e pos.line X.env=pure false:=by rfl)(hw:swappedStores [tg] e X.env=pure none:=by rfl)
   (h1:(assignEach [tg] X.env).map (·.2)=[assign tg X.env]:=by rfl):SS X (.Assign [tg] e pos) (lR te g):=⟨D7 he.h hg.h hs hw h1⟩
def jF {tg iter:Expr}{body:List Stmt}{wi:TI}{g:TG}(hi:SI X tg iter wi)(hg:SG X tg g)(hb:SL X body u1)(hp:PassesOwn (model X.prog X.w) X.A X.env X.xe:=by show Wk)(hc:X.calm=true:=by rfl)
   (hs:∀x,Sg iter X.env x=pure x:=by intro _;rfl):SS X (.For tg iter body [] pos) (IB wi g u1):=⟨D9 hp hc hi.h hg.h hb.h hs⟩
def run {ss:List Stmt}{u:TS}(h:SL X ss u):lD X ss u:=h.h
end
end L3
namespace L3
open PySem PySem.Spec PyProof.Rows L2
section
variable{X:Cx}{a b c e o:Expr}{es:List Expr}{ta tb tc te:TE}{t:TA}{tA uB:TT}{pos:Pos}{r:R2}
def neg (ha:SE X a ta):SE X (.UnaryOp .USub a pos) (Ni (rU fun i=>.int (-i)) ta):=⟨Hs EO ha.h⟩
def Qh (ha:SE X a ta):SE X (.UnaryOp .Not a pos) (BX ta):=⟨DQ ha.h⟩
def MF (hc:ST X c tA)(ha:SE X a ta)(hb:SE X b tb):SE X (.IfExp c a b pos) (Nf tA ta tb):=⟨xo hc.h ha.h hb.h⟩
def wQ:SO X (compareOp .IsNot) (fun x y H Q=>y=.bI/\Q (.bl (!decide (x=.bI))) H):=⟨zX⟩
def A3 {x:Str}{p:Pos}(ho:SE X a ta)(hi:SE X (.Name x p) tb):SG X (.Subscript a (.Name x p) pos) (za ta tb rQ):=⟨qt ho.h hi.h set_list (fun z=>rfl)⟩
end
end L3
namespace L2
open PySem PySem.Spec PyProof.Rows
def gy (nm:Nat->Str)(i:Nat):Str->Bool:=fun x=>(TH i).any fun j=>decide (x=nm j)
def uc (nm:Nat->Str)(i:Nat)(x:Str):gy nm (i+1) x=(gy nm i x || decide (x=nm i)):=by
 unfold gy
 rw[List.range_succ,List.any_append]
 simp
def wj {nm:Nat->Str}{n i:Nat}(inj:∀a b,a<n->b<n->nm a=nm b->a=b)(hi:i<n):gy nm i (nm i)=false:=by
 unfold gy
 rw[Uw]
 intro j hj
 have Mz:j<i:=List.mem_range.mp hj
 have:¬ nm i=nm j:=fun e=>by have:=inj i j hi (by lia) e;lia
 simpa using this
section
variable{X:Cx}{a:Expr}{ta:TA}{p1 p2 pos da:Pos}
theorem sj:∀{xs:List Str} {us:List Value} {i:Nat} {v:Value},Vals (xs.map V.str) us->us[i]?=some v->∃t,v=Uq (xs.getD i "") t
 | [],_,_,_,.nil,h=>by simp at h
 | x::r,_,0,_,.cons q _,h=>by
   obtain⟨t,e⟩:=q
   simp at h
   subst h
   show⟨t,e⟩
 | x::r,_,i+1,v,.cons _ q,h=>by
   obtain⟨t,e⟩:=sj (xs:=r) (i:=i) q (by simpa using h)
   show⟨t,by simpa using e⟩
end
end L2
namespace L3
open PySem PySem.Spec PyProof.Rows L2
def Qs {X:Cx}{tg iter kx vx:Expr}{ifs:List Expr}{sc:Scope}{wi:TI}{g:TG}{tifs:TT}{tk tv:TE}{i:Nat}{x:Str}{pos pos' da:Pos}(src:List (Option Nat))(N':List Str)(hu:X.A.units+1<cLine)(S:bp sc X.env.scope)(hcap:bT sc src N' X.N=true)(hi:SI X tg iter wi)
   (hb:∀s H C fp xe,SG (cV X N' sc s H C fp xe) tg g/\E5 (cV X N' sc s H C fp xe) ifs tifs/\SE (cV X N' sc s H C fp xe) kx tk/\SE (cV X N' sc s H C fp xe) vx tv) (hN:X.N.Nodup) (hix:X.N[i]?=some x:=by rfl) (hx:Loc X.env.scope x:=by show Or.inl rfl)
   (hsw:Tw (.DictComp kx vx [⟨tg,iter,ifs,0⟩] sc pos) (some (.Name x pos')) da.line X.env=pure true:=by rfl) (hc:X.calm=true:=by rfl)
   (hs:∀x,Sg iter X.env x=pure x:=by intro _;rfl) (hf:X.fn x=true\/X.env.scope.names.lookup x=some .local:=by first|show .inl rfl|show .inr rfl) :
   SS X (.Assign [.Name x pos'] (.DictComp kx vx [⟨tg,iter,ifs,0⟩] sc pos) da) (lR (dj src (.dT []) wi g tifs (C5 tk tv)) (cI i)):=
 ⟨rO yQ hc S hcap hi.h (fun s H C fp xe D=>⟨(hb s H C fp xe).1.h,(hb s H C fp xe).2.1.h,D6 (X:=cV X N' sc s H C fp xe) hu (hb s H C fp xe).2.2.1.h (hb s H C fp xe).2.2.2.h D⟩) Cc hs (fun z=>rfl) hN hix hx hsw hf⟩
end L3
namespace PySem
open Sem (wp)
end PySem
namespace PySem
end PySem
namespace L2
open PySem PySem.Spec PyProof.Rows
end L2
namespace L3
open PySem PySem.Spec PyProof.Rows L2
end L3
namespace L2
open PySem PySem.Spec PyProof.Rows
end L2
namespace L3
open PySem PySem.Spec PyProof.Rows L2
section
variable{X:Cx}{a b c e o:Expr}{es:List Expr}{ta tb tc te:TE}{t:TA}{pos:Pos}
def fU {L4:Expr}{body:List Stmt}{Nj:TT}{u1:TS}(hcn:ST X L4 Nj)(hb:SL X body u1)(hp:PassesOwn (model X.prog X.w) X.A X.env X.xe:=by show Wk):SS X (.While L4 body [] pos) (yp Nj u1):=⟨xB hp hcn.h hb.h⟩
end
end L3
namespace L2
open PySem PySem.Spec PyProof.Rows
end L2
namespace L3
open PySem PySem.Spec PyProof.Rows L2
section
variable{X:Cx}{a b c e o:Expr}{es:List Expr}{ta tb tc te:TE}{t:TA}{pos pos':Pos}{P:Program}{w:World}
def yN {KK:Ro}(hK:X.K=KK:=by first|show br|rfl):SC X (.type "tuple") (fun xs H Q=>∃p ys,xs=[.ref p]/\aH KK H p ys/\∀l,H l=none->Q (.ref l) (upd H l (.tup ys))):=by
 subst hK
 show⟨fun pins s σ H xs us Q I r h=>?_⟩
 obtain⟨p,ys,e,hq,q⟩:=h
 show lJ pins s σ H xs us Q I r ⟨p,ys,e,.inl ⟨hq,q⟩⟩
end
end L3
namespace L2
open PySem PySem.Spec PyProof.Rows
end L2
namespace L3
open PySem PySem.Spec PyProof.Rows L2
section
variable{X:Cx}{a b c e o:Expr}{es:List Expr}{ta tb tc te:TE}{t:TA}{pos:Pos}
def EC {KK:Ro}{p2:Pos}(ha:SE X a ta)(hb:SE X b tb)(hK:X.K=KK:=by first|show br|rfl):SE X (.Subscript a (.Slice (some b) none none p2) pos) (EM (As KK) ta (jc tb) jb):=by
 subst hK
 show⟨eP nY ha.h (d8 hb.h) jS⟩
end
end L3
namespace TW
end TW
namespace L2
open PySem PySem.Spec PyProof.Rows
end L2
namespace L3
open PySem PySem.Spec PyProof.Rows L2
end L3
namespace L2
open PySem PySem.Spec PyProof.Rows SeqAt
end L2
namespace L3
open PySem PySem.Spec PyProof.Rows L2
end L3
namespace L2
open PySem PySem.Spec PyProof.Rows
def bB.ex {P:Program}{w:World}{H:Hp}{h:Heap}{a:Addr}{o:HO}(x:bB P w H h a o):∃ob,h.get? a=some ob:=by
 cases o with
 | lst xs=>obtain⟨_,_,_,_,e⟩:=x;show⟨_,e⟩
 | tup xs=>obtain⟨_,_,_,ob,e,_⟩:=x;show⟨ob,e⟩
 | dK kvs=>obtain⟨_,_,_,_,o,_,_,e,_⟩:=x;show⟨o,e⟩
 | dT kvs=>obtain⟨_,_,_,_,o,_,_,e,_⟩:=x;show⟨o,e⟩
 | set S n=>obtain⟨o,_,_,_,e,_⟩:=x;show⟨o,e⟩
 | ins C dx fs=>obtain⟨_,_,_,e,_⟩:=x;show⟨_,e⟩
 | own y=>obtain⟨ob,e⟩:=x;show⟨ob,e⟩
 | xd fs=>obtain⟨_,⟨ob,_,_,e,_⟩,_⟩:=x;show⟨ob,e⟩
 | rng lo hi=>obtain⟨_,_,_,e⟩:=x;show⟨_,e⟩
 | frz ob u=>obtain⟨e,_⟩:=x;show⟨ob,e⟩
 | tbl ps=>show⟨_,(show h.get? a=some _ from x)⟩
 | met f y=>show⟨_,(show h.get? a=some _ from x)⟩
 | ext φ=>obtain⟨_,⟨ob,e⟩,_⟩:=x;show⟨ob,e⟩
def eD (P:Program)(w:World)(base:Heap):uT:=fun outer H s E e s'=>∃(ea:Addr) (cls a0:Value) (B:Heap) (H':Hp),e=.ref ea/\s'.os=s.os/\AllBare s'.gens/\Un (dH outer) [] H H' s.heap s'.heap/\fW P w H' s'.heap /\
 base.StaysIn B/\Wh B outer ea cls a0 s'.heap/\(∀b o,s.heap.get? b=some o->b∉dH outer->∃o',B.get? b=some o')/\(∀b u,H' b=some u->∃o,B.get? b=some o)/\s.heap.get? ea=none/\E cls none H'
section
variable{P:Program}{w:World}{K:Ro}{mg:Str->Option Value}{base:Heap}{N:List Str}{qual:Str}{scope:Scope}{f:Addr}{cd:Value}{A:Around}{outer:List Env}{s:Shared}{H:Hp}{E:XK}
def eR {H1:Hp}{h B g:Heap}(ok:fW P w H1 h)(ij:∀b u,H1 b=some u->∃o,B.get? b=some o)(sb:B.StaysIn h)(sg:B.StaysIn g):fW P w H1 g:=fun a u e=>by
 show(ok a u e).cn (fun b o hb q=>?_) (fun z q=>q) (fun z z q=>q)
 have pz:∃v,H1 b=some v:=by
   rcases hb with rfl|hb
   . show⟨u,e⟩
   . show⟨_,hb⟩
 obtain⟨v,hv⟩:=pz
 obtain⟨o',iM⟩:=ij b v hv
 have:=sb b o' iM
 rw[q]at this
 cases this
 show sg b o iM
def p9 {pins:List (Addr×Obj)}{σ:St}{H1:Hp}{s1:Shared}{h':Heap}{e:Addr}{cls:Value}{args:List Value}(I:Inv (cY (eD P w base) P w K mg base N qual scope f cd A outer s H E) pins σ H1 s1)(hx:Heap.MadeExcOf s1.heap h' e cls args)(q:E cls none H1) :
   (cY (eD P w base) P w K mg base N qual scope f cd A outer s H E).xe (.ref e) {s1 with heap:=h'}:=by
 have vS:(cY (eD P w base) P w K mg base N qual scope f cd A outer s H E).stack=envOfC qual scope s.heap.objs.size f cd::outer:=rfl
 have fr:s1.heap.FunFrames base (envOfC qual scope s.heap.objs.size f cd::outer):=I.stack
 have frf:=I.n6
 rw[vS]at frf
 have hbase:∀b o,base.get? b=some o->s1.heap.get? b=some o:=I.bk
 have gj:Un (dH outer) [] H H1 s.heap s1.heap:=I.base
 have hex:∀b:Addr,b∉([]:List Addr):=fun b z=>nomatch z
 have hloc:∀b o,s.heap.get? b=some o->b∉dH outer->b∉dH (envOfC qual scope s.heap.objs.size f cd::outer):=fun b o hb hn hm=>by
   rcases List.mem_cons.mp (show b∈s.heap.objs.size::dH outer from hm)with z|z
   . show au (RD hb) (by rw[z];show SR _)
   . show hn z
 let B:=Sy s1.heap (dH (envOfC qual scope s.heap.objs.size f cd::outer))
 have bget:∀b o,s1.heap.get? b=some o->b∉dH (envOfC qual scope s.heap.objs.size f cd::outer)->B.get? b=some o:=fun b o hb hn=>UZ _ hb hn
 have LZ:B.StaysIn s1.heap:=fun b o hb=>U3 _ hb
 have stB:base.StaysIn B:=fun b o hb=>bget b o (hbase b o hb) fun hm=>by
   have:=(fr.mem hm).1
   rw[hb]at this
   cases this
 have Og:s1.heap.FunFrames B (envOfC qual scope s.heap.objs.size f cd::outer):=PySem.W.funFrames_hide fr fun env he a ha=>List.mem_filterMap.mpr ⟨env,he,ha⟩
 have oh:∀b u,H1 b=some u->∃o,B.get? b=some o:=fun b u hu=>by
   obtain⟨o,ho⟩:=(I.hok b u hu).ex
   show⟨o,bget b o ho fun hm=>?_⟩
   rw[frf b hm]at hu
   cases hu
 show wpAny_leaves_madeW (base:=B) (h:=s1.heap) (args:=args) I.ok.frames rfl LZ Og hx fun h2 t x1 x2 x3 x4=>?_
 show⟨e,cls,.ref t,B,H1,U,I.os,I.bare,⟨fun b o hb n hf y=>?_,fun b o hb n hf y=>?_,fun b o hb n y=>gj.free b o hb n (hex b),fun b o hb y=>?_,gj.tups,gj.frzs,gj.tbls⟩,eR I.hok oh LZ x1.1,stB,x1,fun b o hb hf=>?_,oh,?_,q⟩
 . show x1.1 b o (bget b o (gj.keep b o hb n hf (hex b)) (hloc b o hb hf))
 . obtain⟨sl,e1⟩:=gj.slot b o hb n hf (hex b)
   obtain⟨_,o2,jm,hd2⟩:=fr.mem (show b∈dH (envOfC qual scope s.heap.objs.size f cd::outer)from RC _ hf)
   rw[e1]at jm
   cases jm
   obtain⟨EA,e2⟩:=x4 b _ (hx.keeps b _ e1) hd2
   show⟨EA,e2⟩
 . obtain⟨o1,e1⟩:=gj.there b o hb (hex b)
   by_cases hm:b∈dH (envOfC qual scope s.heap.objs.size f cd::outer)
   . obtain⟨_,o2,jm,hd2⟩:=fr.mem hm
     obtain⟨EA,e2⟩:=x4 b _ (hx.keeps b _ jm) hd2
     show⟨_,e2⟩
   . show⟨o1,x1.1 b o1 (bget b o1 e1 hm)⟩
 . obtain⟨o1,e1⟩:=gj.there b o hb (hex b)
   show⟨o1,bget b o1 e1 (hloc b o hb hf)⟩
 . cases z:s.heap.get? e with
   | none=>rfl
   | some o=>
     obtain⟨o1,e1⟩:=gj.there e o z (hex e)
     rw[hx.new]at e1
     cases e1
def Hi {E':XK}(hE:∀c d H2,E' c d H2->E c d H2):Passes (eD P w base) (cY (eD P w base) P w K mg base N qual scope f cd A outer s H E) E':=by
 intro pins σ H1 s1 e s2 I cx
 obtain⟨ea,cls,a0,B,H2,rfl,DA,kh,iy,p6,stB,m6,ij,oh,Bm,q⟩:=cx
 have gj:Un (dH outer) [] H H1 s.heap s1.heap:=I.base
 have hex:∀b:Addr,b∉([]:List Addr):=fun b z=>nomatch z
 have vS:(cY (eD P w base) P w K mg base N qual scope f cd A outer s H E).stack=envOfC qual scope s.heap.objs.size f cd::outer:=rfl
 rw[vS]at m6 iy ij
 have hloc:∀b o,s.heap.get? b=some o->b∉dH outer->b∉dH (envOfC qual scope s.heap.objs.size f cd::outer):=fun b o hb hn hm=>by
   rcases List.mem_cons.mp (show b∈s.heap.objs.size::dH outer from hm)with z|z
   . show au (RD hb) (by rw[z];show SR _)
   . show hn z
 have Cu:=m6.2.2.1
 have sB2:=m6.1
 show wpAny_leaves_onW I.ok.frames rfl m6 fun h3 x1 x2=>?_
 have GJ:∀b o,s.heap.get? b=some o->b∉dH outer->∃o',B.get? b=some o':=fun b o hb hf=>by
   obtain⟨o1,e1⟩:=gj.there b o hb (hex b)
   show ij b o1 e1 (hloc b o hb hf)
 show⟨ea,cls,a0,B,H2,U,DA.trans I.os,kh,⟨fun b o hb n hf y=>?_,fun b o hb n hf y=>?_,fun b o hb n y=>?_,fun b o hb y=>?_,fun b xs h=>iy.tups b xs (gj.tups b xs h),fun b o u h=>iy.frzs b o u (gj.frzs b o u h),fun b ps h=>?_⟩,eR p6 oh sB2 x1.1,stB,x1,GJ,oh,?_,hE _ _ _ q⟩
 . have e1:=gj.keep b o hb n hf (hex b)
   have n1:=gj.free b o hb n (hex b)
   have e2:=iy.keep b o e1 n1 (hloc b o hb hf) (hex b)
   obtain⟨o',iM⟩:=GJ b o hb hf
   have e3:=sB2 b o' iM
   rw[e2]at e3
   cases e3
   show x1.1 b o iM
 . obtain⟨sl,e1⟩:=gj.slot b o hb n hf (hex b)
   have n1:=gj.free b o hb n (hex b)
   obtain⟨EA,e2⟩:=iy.any e1 n1 (hex b)
   obtain⟨_,o2,jm,hd2⟩:=Cu.mem (show b∈dH (envOfC qual scope s.heap.objs.size f cd::outer)from RC _ hf)
   rw[e2]at jm
   cases jm
   obtain⟨Fj,e3⟩:=x2 b _ e2 hd2
   show⟨Fj,e3⟩
 . obtain⟨o1,e1⟩:=gj.there b o hb (hex b)
   show iy.free b o1 e1 (gj.free b o hb n (hex b)) (hex b)
 . obtain⟨o1,e1⟩:=gj.there b o hb (hex b)
   obtain⟨o2,e2⟩:=iy.there b o1 e1 (hex b)
   by_cases hm:b∈dH (envOfC qual scope s.heap.objs.size f cd::outer)
   . obtain⟨_,o3,KI,Kr⟩:=Cu.mem hm
     obtain⟨Fj,e3⟩:=x2 b _ KI Kr
     show⟨_,e3⟩
   . obtain⟨o',iM⟩:=ij b o1 e1 hm
     show⟨o',x1.1 b o' iM⟩
 . obtain⟨m1,e1⟩:=gj.tbls b ps h
   obtain⟨m2,e2⟩:=iy.tbls b _ e1
   show⟨m1++m2,by rw[e2,Vg]⟩
 . cases z:s.heap.get? ea with
   | none=>rfl
   | some o=>
     obtain⟨o1,e1⟩:=gj.there ea o z (hex ea)
     rw[Bm]at e1
     cases e1
end
abbrev vE:List Value:=[.type "ValueError",.type "Exception",.type "BaseException",.type "object"]
def mV (K:Ro)(C:Addr):Option (List Value):=match K.lookup C with
 | some ⟨_,_,.cls cd,_⟩=>some cd.mro
 | _=>none
structure Xc (K:Ro)(mg:Str->Option Value)(x:Str)(C:Addr)(tl:List Value):Prop where
 m:mg x=some (.ref C)
 ex:VF K C vE "ValueError.__new__"=true
 mro:mV K C=some (.ref C::tl)
def Xc.obj {K:Ro}{mg:Str->Option Value}{x:Str}{C:Addr}{tl:List Value}{h:Heap}(c:Xc K mg x C tl)(hk:K.In h) :
   ∃N nm q bs hdct sn sub ab col dd k0 k1 k2 k3 k5 mN,h.get? C=some (excClassObj nm q C N bs tl hdct sn sub ab col dd k0 k1 k2 k3 k5 "ValueError.__new__")/\h.Ns N mN/\mN "__init__"=none/\OwnTail h vE tl:=by
 have q:=c.ex
 have m:=c.mro
 unfold VF at q
 unfold mV at m
 split at q
 . rename_i od cd sl look
   rw[look]at m
   split at q
   . rename_i C' bm k0 k1 k2 k3 n k5 hm hs
     simp only[To,beq_iff_eq,Bool.not_eq_true']at q
     obtain⟨⟨⟨⟨⟨z1,z2⟩,Gg⟩,ht⟩,hok⟩,Jh⟩:=q
     subst z1 z2
     have m2:cd.mro=.ref C'::tl:=by injection m
     rw[hm]at m2
     have e1:bm=tl:=by injection m2
     subst e1
     obtain⟨nm,bs,mro,ns,qn,hd,sn,sub,ab,col,del⟩:=cd
     dsimp only at hm Gg hok Jh
     subst hm Gg
     have Pp:sl=#[k0,k1,k2,k3,some (.builtin "ValueError.__new__"),k5]:=by
       obtain⟨l⟩:=sl
       simp only at hs
       rw[hs]
     subst Pp
     show⟨ns,nm,qn,bs,hd,sn,sub,ab,col,od,k0,k1,k2,k3,k5,_,hk _ _ look,.of_isNs (PySem.W.isNs_of_in hk hok),PySem.W.nsMap_none_of_in hk hok Jh,PySem.W.tail_of_in hk ht⟩
   . cases q
 . cases q
abbrev TF:=St->Hp->(Hp->Prop)->Prop
def PF (X:Cx)(parts:List Expr)(n:Nat)(t:TF):Prop:=∀(pins:List (Addr×Obj)) (s:Shared) (σ:St) (H:Hp) (acc:Str) (k:Hp->Prop),Inv X pins σ H s->t σ H k->acc.length+n*2000<=sizeLine ->
 Joins (model X.prog X.w) X.A X.xe (evalEach parts X.env) acc (fun out s1=>out.length<=sizeLine/\∃H',Inv X pins σ H' s1/\k H') s
def FX (x:V):Prop:=(∃i,x=.int i/\i.natAbs.log2<1920)\/∃y:Str,x=.str y/\y.length<=2000
section
variable{X:Cx}{a:Expr}{ps:List Expr}{n:Nat}{t:TF}{te:TE}{pos:Pos}
def DT:PF X [] 0 (fun z H k=>k H):=fun pins s σ H acc k I h hl=>⟨by lia,H,I,h⟩
def DV {x:Str}{j}(hx:x.length<=2000)(hr:PF X ps n t):PF X (.Constant (.str x) j pos::ps) (n+1) t:=by
 intro pins s σ H acc k I h hl
 have hp:=xq (X:=X) (x:=x) (j:=j) (pos:=pos) pins s σ H (fun v H1=>v=.str x/\H1=H) I ⟨rfl,rfl⟩
 show bw hp fun u s1 h9=>?_
 obtain⟨v,H1,I1,rv,e1,e2⟩:=h9
 subst e1 e2
 obtain⟨tk,rfl⟩:=rv
 have hlen:(acc++x).length=acc.length+x.length:=SU ..
 show⟨x,tk,U,by lia,hr pins s1 σ H1 (acc++x) k I1 h (by lia)⟩
def DW (ha:PE X a te)(hr:PF X ps n t):PF X (.FormattedValue a (-1) none pos::ps) (n+1) (fun σ H k=>te σ H fun x H1=>FX x/\t σ H1 k):=by
 intro pins s σ H acc k I h hl
 show FormattedValue_plain (bw (ha pins s σ H _ I h) fun u s1 h9=>?_)
 obtain⟨v,H1,I1,rv,fo,q⟩:=h9
 rcases fo with⟨i,rfl,hi⟩|⟨y,rfl,hy⟩
 . obtain⟨tk,rfl⟩:=rv
   show formatField_int_small hi ?_
   have h1:=int_text_length_le (k:=1920) (by left) hi
   have h2:(Rt (toString i)).length<=1921:=by rw[T9];show h1
   have hlen:(acc++Rt (toString i)).length=acc.length+(Rt (toString i)).length:=SU ..
   show⟨Rt (toString i),_,U,by lia,hr pins _ σ H1 _ k ((I1.tok _).tok _) q (by lia)⟩
 . obtain⟨tk,rfl⟩:=rv
   show formatField_str (fun t' Rf=>?_) (Ry hy (by left))
   have hlen:(acc++y).length=acc.length+y.length:=SU ..
   show⟨y,_,U,by lia,hr pins _ σ H1 _ k (I1.tok _) q (by lia)⟩
def Aa {v1 v2:Expr}(h:PF X (v1::v2::ps) n t)(hn:n<=1000):PE X (.JoinedStr (v1::v2::ps) pos) (fun σ H Q=>t σ H fun H1=>∀x,Q (.str x) H1):=by
 intro pins s σ H Q I hq
 show PySem.wpAny_JoinedStr ?_
 have hz:(TR:Str).length+n*2000<=sizeLine:=by
   have:(TR:Str).length=0:=rfl
   have:(2000000:Nat)<=sizeLine:=by left
   lia
 have j:=h pins s σ H TR _ I hq hz
 have go:∀(l:List (Sem Value)) (acc:Str) (s:Shared),Joins (model X.prog X.w) X.A X.xe l acc (fun out s1=>out.length<=sizeLine/\∃H',Inv X pins σ H' s1/\∀x,Q (.str x) H') s->Joins (model X.prog X.w) X.A X.xe l acc (fun out s1=>out.length<=sizeLine/\EP X pins σ Q (.str out s1.toks) {s1 with toks:=s1.toks+1}) s:=by
   intro l
   induction l with
   | nil=>
     rintro acc s ⟨h1,H',I',q⟩
     show⟨h1,.str acc,H',I'.tok _,⟨_,U⟩,q acc⟩
   | cons x l ih=>
     intro acc s hj
     show bw hj fun u s1 h9=>?_
     obtain⟨y,tk,e,hl,r⟩:=h9
     show⟨y,tk,e,hl,ih _ _ r⟩
 show go _ _ _ j
def yo (Ex:XK)(C:Addr)(ta:TA):TS:=fun z σ H=>ta σ H fun vs H1=>∃v,vs=[v]/\Ex (.ref C) none H1
def j8 (X:Cx)(Ex:XK):Prop:=∀{pins:List (Addr×Obj)} {σ:St} {H:Hp} {s:Shared} {h':Heap} {e:Addr} {cls:Value} {args:List Value},Inv X pins σ H s->Heap.MadeExcOf s.heap h' e cls args->Ex cls none H->X.xe (.ref e) {s with heap:=h'}
def xA {x:Str}{C:Addr}{tl:List Value}{Ex:XK}{ta:TA}{np cpos:Pos}(hx:j8 X Ex)(c:Xc X.K X.mg x C tl)(hb:tl.contains (.type "BaseException")=true)(hg:Gl X x)(hc:X.calm=true)(ha:qP X [a] ta)(hd:(x==("__debug__":Str))=false:=by left) :
   PS X (.Raise (some (.Call (.Name x np) [a] [] cpos)) none pos) (yo Ex C ta):=by
 intro pins s σ H D I h
 obtain⟨N,nm,q,bs,hdct,sn,sub,ab,col,dd,k0,k1,k2,k3,k5,mN,hC,hN,Jh,T⟩:=c.obj I.ok.mod.kin
 show wpAny_Raise_call_subT (C:=C) (nm:=nm) (q:=q) (N:=N) (bs:=bs) (bm:=tl) (hdct:=hdct) (sn:=sn) (sub:=sub) (ab:=ab) (col:=col) (dd:=dd) (k0:=k0) (k1:=k1) (k2:=k2) (k3:=k3) (k5:=k5) PySem.F.excBase_ValueError (mN:=mN) hb (I.ok.hd hc)
   (by rw[(ha.ns a [] rfl).1.h [] X.env];show(ha.ns a [] rfl).2 cpos X.env) Jh (iP I hg c.m ⟨rfl,?_⟩ hd)
 have he:=(ha.ns a [] rfl).1.h [] X.env
 have h2:=ha.pa cpos pins s σ H _ I h
 rw[he]at h2 ⊢
 show TL (bw h2 fun us s2 g9=>?_)
 obtain⟨vs,H1,I1,r,v,ev,q1⟩:=g9
 show⟨U,?_,I1.bk _ _ hC,hN.keeps I1.bk,T.keeps I1.bk,fun h' e hm=>hx I1 hm q1⟩
 have h1:=r.length
 rw[ev]at h1
 change us.length<=sizeLine
 rw[← h1]
 show(by left:1<=sizeLine)
end
end L2
namespace L2
open PySem PySem.Spec PyProof.Rows PySem.W PySem.Builtin PySem.Builtin.ObjectAttr PySem.Builtin.Getset_descriptor
section
variable{prog:Program}{w:World}{A:Around}{E:Value->Shared->Prop}{s:Shared}{K:Frag}{x C:Addr}{ox:Obj}
def jD (x C:Addr)(h:Heap):Prop:=∃o,h.get? x=some o/\o.cls=.ref C
def jD.ty {x C:Addr}{h:Heap}{M8:Model}(p:jD x C h):Looks M8 h (typeOf (.ref x)) (.ref C):=by
 obtain⟨o,h1,h2⟩:=p
 show h2▸(Looks.ld h1).andThen .now
def yX {R:Result->Shared->Prop}{tp:Value}(X:K.In s.heap)(I:jD x C s.heap)(hm:mroIn K C (.type "object")=some true)
   (h:R (.ok (.ret (.ref C))) s):codeAny (model prog w) A (.call (.builtin "getset_descriptor.__get__") ⟨[.builtin "object.__class__",.ref x,tp],[]⟩) R s:=by
 obtain⟨hh,g,dr,t,os⟩:=s
 have q0:=I.ty (M8:=model prog w)
 have q1:=looks_mroIn (M:=model prog w) X hm
 show codeAny_call_builtin KF.slot_gs.plain KF.entry_gs (KF.slot_gs.check _ _ _ _ _ _ _ _ KF.type_class (KF.args_gs _ _ _) ?_)
 unfold Builtin.«getset_descriptor.__get__» descrGet
 rw[dga_obj]
 show wpAny_bind (wpAny_pure ?_)
 unfold descrGetter descrCheckInstance descrNameAndClass isInstance
 simp only[KF.owner_class]
 repeat lk
 show⟨Code.quiet_builtin _ (by right),Wb KF.entry_class ?_⟩
 unfold Builtin.«object.__class__» shownTypeOf
 repeat lk
 show h
def tI {tk:Tok}{P:Value->Shared->Prop}(X:K.In s.heap)(I:jD x C s.heap)(ha:findIn K (.ref C) "__class__"=some (some (.builtin "object.__class__")))(hn:specialIn K (.builtin "object.__class__") "__get__"=some (some (.builtin "getset_descriptor.__get__")))
   (htk:takesIn K (.builtin "object.__class__")=some true) (hm:mroIn K C (.type "object")=some true) (h:P (.ref C) s) :
   wpAny (model prog w) A (Builtin.«object.__getattribute__» ⟨[.ref x,.str "__class__" tk],[]⟩) (fun fin s'=>∃v,fin=.done (.ret v)/\P v s') E s:=by
 obtain⟨hh,g,d,t,os⟩:=s
 have l0:=I.ty (M8:=model prog w)
 have l1:=looks_findIn (M:=model prog w) X ha
 have l2:=looks_specialIn (M:=model prog w) X hn
 have l3:=looks_takesIn (M:=model prog w) X htk
 unfold Builtin.«object.__getattribute__»
 show wpAny_bind (wpAny_pure ?_)
 dsimp only
 show wpAny_bind (wpAny_pure ?_)
 show wpAny_bind (l0.at ?_)
 show wpAny_bind ?_
 unfold Builtin.ObjectAttr.find
 show wpAny_bind (l1.at ?_)
 show wpAny_bind (l2.at ?_)
 show wpAny_bind (wpAny_bind (l3.at ?_))
 rw[dI rfl]
 show wpAny_pure ?_
 show wpAny_bind (wpAny_rule (wpAny_pure ?_))
 change wpAny _ _ (UW (.builtin "getset_descriptor.__get__") (.builtin "object.__class__") (.ref x) (.ref C)) _ _ _
 unfold UW
 dsimp only
 show wpAny_bind (wpAny_holding (wpAny_call (yX X I hm ?_)))
 show wpAny_pure ⟨_,U,h⟩
def tG {M8:Model}{Bk:Value}{Q:Unit->Shared->Prop}(X:K.In s.heap)(I:jD x C s.heap)(hb:mroIn K C (.type "BaseException")=some true)(h:Q () s) :
   wpAny M8 A (checkBuiltinCall "BaseException.__getattribute__" ⟨[.ref x,Bk],[]⟩) Q E s:=by
 obtain⟨hh,g,d,t,os⟩:=s
 have l0:=I.ty (M8:=M8)
 have l1:=looks_mroIn (M:=M8) X hb
 have kd:builtinKind "BaseException.__getattribute__"=some .slot:=by right
 have sp:splitId "BaseException.__getattribute__"=some ("BaseException","__getattribute__"):=by right
 have ar:=F.args_bexc_ga (.ref x) Bk
 simp only[checkBuiltinCall,kd,sp]
 unfold isInstance
 show wpAny_bind (wpAny_bind (l0.at (l1.at ?_)))
 repeat (first|show h|assumption|wp_step)
def tH {Q:Option Value->Shared->Prop}(X:K.In s.heap)(I:jD x C s.heap)(hga:findIn K (.ref C) "__getattribute__"=some (some (.builtin "BaseException.__getattribute__")))(hgn:findIn K (.ref C) "__getattr__"=some none)
   (ha:findIn K (.ref C) "__class__"=some (some (.builtin "object.__class__"))) (hn:specialIn K (.builtin "object.__class__") "__get__"=some (some (.builtin "getset_descriptor.__get__"))) (htk:takesIn K (.builtin "object.__class__")=some true)
   (hm:mroIn K C (.type "object")=some true) (hb:mroIn K C (.type "BaseException")=some true) (h:Q (some (.ref C)) {s with toks:=s.toks+1}) :
   wpAny (model prog w) A (getAttr? (.ref x) "__class__") Q E s:=by
 obtain⟨hh,g,d,t,os⟩:=s
 have l0:=I.ty (M8:=model prog w)
 have l1:=looks_findIn (M:=model prog w) X hga
 have l2:=looks_findIn (M:=model prog w) X hgn
 unfold getAttr? getAttrBy? getAttrBy
 show wpAny_bind (wpAny_mkText (wpAny_bind (wpAny_attempt (wpAny_holding (wpAny_bind (l0.at (wpAny_bind (l1.at ?_))))))))
 dsimp only
 rw[dh (fun z=>by rw[show(Value.builtin "BaseException.__getattribute__" == Value.builtin "object.__getattribute__")=false by right,Bool.and_false]at z;cases z)]
 unfold getAttrByItsOwn hookBefore
 rw[dI (show onTheHeap (R6 C)=true by rfl)]
 show wpAny_bind (l2.at ?_)
 show wpAny_bind (wpAny_attempt (wpAny_holding ?_))
 change wpAny _ _ (boundAndCalled (.builtin "BaseException.__getattribute__") (.ref x) (.str "__class__" t)) _ _ _
 unfold boundAndCalled
 rw[F.attr_ValueError.ga.bind (.ref x)]
 show wpAny_bind (wpAny_pure ?_)
 show wpAny_call (codeAny_call_builtin F.attr_ValueError.ga.plain F.entry_bexc_ga (tG (s:=⟨hh,g,d,t+1,os⟩) X I hb ?_))
 show wpAny_mono (tI (s:=⟨hh,g,d,t+1,os⟩) X I ha hn htk hm (P:=fun v s'=>v=.ref C/\s'=⟨hh,g,d,t+1,os⟩) ⟨U,U⟩) (fun fin s' z=>?_) fun y y z=>z
 obtain⟨v,rfl,rfl,rfl⟩:=z
 change wpAny (model prog w) A (handedOut (.ref C)) _ _ _
 show handed_on rfl (wpAny_pure h)
structure qQ (K:Frag)(C:Addr):Prop where
 ga:findIn K (.ref C) "__getattribute__"=some (some (.builtin "BaseException.__getattribute__"))
 gn:findIn K (.ref C) "__getattr__"=some none
 ha:findIn K (.ref C) "__class__"=some (some (.builtin "object.__class__"))
 hn:specialIn K (.builtin "object.__class__") "__get__"=some (some (.builtin "getset_descriptor.__get__"))
 htk:takesIn K (.builtin "object.__class__")=some true
 hm:mroIn K C (.type "object")=some true
 hb:mroIn K C (.type "BaseException")=some true
 hc:(clsIn K C).isSome=true
def kH (k:qQ K C):KitX K (.ref x) (.ref C) (jD x C) where
 ty:=fun w w w I=>I.ty
 it:=fun w w X w=>by
   obtain⟨cd,e⟩:=Option.isSome_iff_exists.mp k.hc
   unfold clsIn at e
   split at e
   . rename_i c' d' NV Lj look
     intro A' Q' E' s' st q
     unfold isType loadHead
     show wpAny_bind (wpAny_loadPart (st _ _ (X _ _ look)) (wpAny_pure q))
   . cases e
 ne:=fun h tp dd its n sl X Pu=>by
   obtain⟨cd,e⟩:=Option.isSome_iff_exists.mp k.hc
   show Bool.eq_false_iff.mpr fun q=>?_
   have z:C=tp:=Value.ref.inj (beq_iff_eq.mp q)
   subst z
   unfold clsIn at e
   split at e
   . rename_i c' d' NV Lj look
     have y:=(X _ _ look).symm.trans Pu
     cases y
   . cases e
 ca:=fun X I q=>tH X I k.ga k.gn k.ha k.hn k.htk k.hm k.hb q
end
def yq {fs:List Addr}{H1 H2:Hp}{h1 h2 h3 B:Heap}(u:Un fs [] H1 H2 h1 h2)(s2:B.StaysIn h2)(s3:B.StaysIn h3)(ij:∀b o,h1.get? b=some o->b∉fs->∃o',B.get? b=some o')
   (sl:∀b o,b∈fs->h2.get? b=some o->∃x,h3.get? b=some {o with slots:=x}):Un fs [] H1 H2 h1 h3:=by
 have hex:∀b:Addr,b∉([]:List Addr):=fun b z=>nomatch z
 show⟨fun b o hb n hf w=>?_,fun b o hb n hf w=>?_,fun b o hb n w=>u.free b o hb n (hex b),fun b o hb w=>?_,u.tups,u.frzs,u.tbls⟩
 . have e2:=u.keep b o hb n hf (hex b)
   obtain⟨o',iM⟩:=ij b o hb hf
   have e3:=s2 b o' iM
   rw[e2]at e3
   cases e3
   show s3 b o iM
 . obtain⟨x,e2⟩:=u.slot b o hb n hf (hex b)
   obtain⟨y,e3⟩:=sl b _ hf e2
   show⟨y,e3⟩
 . by_cases hm:b∈fs
   . obtain⟨o2,e2⟩:=u.there b o hb (hex b)
     obtain⟨y,e3⟩:=sl b _ hm e2
     show⟨_,e3⟩
   . obtain⟨o',iM⟩:=ij b o hb hm
     show⟨o',s3 b o' iM⟩
def ya {h2 h3 B:Heap}{l:List Env}(fr:h2.FunFrames B l)(x:h2.UpToSlots h3):∀b o,b∈dH l->h2.get? b=some o->∃y,h3.get? b=some {o with slots:=y}:=fun b o hm ho=>by
 obtain⟨_,o2,jm,hd2⟩:=fr.mem hm
 rw[ho]at jm
 cases jm
 show x b o ho hd2
def yw (ea C:Addr):HO:=.ext (jD ea C)
def Cq {P:Program}{w:World}{H:Hp}{h:Heap}{ea C:Addr}(x:jD ea C h):bB P w H h ea (yw ea C):=by
 obtain⟨o,h1,h2⟩:=id x
 show⟨x,⟨o,h1⟩,fun g1 g2 ⟨o',a,b⟩ k=>⟨o',k _ a,b⟩⟩
section
variable{X:Cx}{pins:List (Addr×Obj)}{σ:St}{H:Hp}{s:Shared}{ea C:Addr}
def Inv.IH (I:Inv X pins σ H s)(n:H ea=none)(x:jD ea C s.heap)(n0:X.s₀.heap.get? ea=none)(nl:ea≠X.env.locals)(nc:∀y c,X.env.cells.lookup y=some c->c≠ea)(np:∀p∈X.pn++pins,p.1≠ea):Inv X pins σ (upd H ea (yw ea C)) s:=by
 have ne:∀b u,H b=some u->b≠ea:=fun b u e z=>by rw[z,n]at e;cases e
 have k:∀b u,H b=some u->(upd H ea (yw ea C)) b=some u:=fun b u e=>by rw[ah (ne b u e)];show e
 show⟨I.ok,I.os,I.bare,⟨I.base.keep,I.base.slot,fun b o e m hx=>?_,I.base.there,fun b xs e=>k _ _ (I.base.tups b xs e),fun b o u e=>k _ _ (I.base.frzs b o u e),fun b ps e=>?_⟩,I.loc,I.cell,?_,fun y c e=>?_,fun p hp=>?_,fun b u e=>?_,I.len⟩
 . rw[ah (fun z=>by rw[z,n0]at e;cases e)]
   show I.base.free b o e m hx
 . obtain⟨more,e1⟩:=I.base.tbls b ps e
   show⟨more,k _ _ e1⟩
 . rw[ah (Ne.symm nl)]
   show I.free
 . rw[ah (nc y c e)]
   show I.freeC y c e
 . obtain⟨a1,a2,a3,a4,a5⟩:=I.pin p hp
   show⟨a1,by rw[ah (np p hp)];show a2,a3,a4,a5⟩
 . by_cases hb:b=ea
   . subst hb
     rw[ae]at e
     cases e
     show Cq x
   . rw[ah hb]at e
     show(I.hok b u e).cn (fun c v w q=>q) (fun c q=>k _ _ q) fun c xs q=>k _ _ q
end
section
variable{M8:Model}{A:Around}{E:Value->Shared->Prop}{s:Shared}{nm q:Str}{C N:Addr}{bs bm:List Value}{hdct:Bool}{sn:List Str}{sub:List Value}{ab:Bool}{col:Option Bool}{dd:Option Addr}{k0 k1 k2 k3 k5:Option Value}{newId:String}
 {Qg q':Str} {T N':Addr} {bs' JJ:List Value} {Gf:Bool} {Qw:List Str} {Lo:List Value} {NL:Bool} {JN:Option Bool} {yU:Option Addr} {j0 j1 j2 j3 j5:Option Value} {C8:String}
def qe {h:Heap}{g:Array GenState}{d:Drawn}{t:Nat}{os:OsState}{e:Addr}{oe:Obj}{Q:Bool->Shared->Prop}(hC:h.get? C=some (excClassObj nm q C N bs bm hdct sn sub ab col dd k0 k1 k2 k3 k5 newId))(hT:h.get? T=some (excClassObj Qg q' T N' bs' JJ Gf Qw Lo NL JN yU j0 j1 j2 j3 j5 C8))
   (he:h.get? e=some oe) (hcls:oe.cls=.ref C) (hup:(R6 C::bm).contains (.ref T)=true) (hbase:JJ.contains (.type "BaseException")=true) (hq:Q true ⟨h,g,d,t,os⟩):wpAny M8 A (excMatches (.ref e) (.ref T)) Q E ⟨h,g,d,t,os⟩:=by
 have OS:(R6 T::JJ).contains (.type "BaseException")=true:=by rw[List.contains_cons,hbase,Bool.or_true]
 have f:=tc_notTuple
 unfold excMatches
 repeat (first|(with_reducible show wpAny_loadPart_at he ?_;rw[hcls])|with_reducible show wpAny_loadPart_at hT ?_|(with_reducible show wpAny_isSubtype_exc hT ?_;rw[OS])|(with_reducible show wpAny_isSubtype_exc hC ?_;rw[hup])|wp_step)
 show hq
end
section
variable{X:Cx}{pins:List (Addr×Obj)}{σ:St}{H:Hp}{s:Shared}
def Inv.forget {σ':St}{h':Heap}{t':Nat}{m:Str->Option Value}{en:Str}{v:Option Value}(I:Inv X pins σ H s)(hm:∀(i:Nat) (x:Str) (v:V),X.N[i]?=some x->σ[i]?=some (some v)->IY X.env.scope x->∃u,RelV v u/\Look X.env s.heap m x u)
   (hn':h'.Ns X.env.locals (fun x=>if x=en then v else m x)) (hs:Sz X.env.locals s.heap h') (hl:σ'.length=σ.length) (hw:∀(i:Nat) v,σ'[i]?=some (some v)->σ[i]?=some (some v)/\X.N[i]?≠some en):Inv X pins σ' H {s with heap:=h',toks:=t'}:=by
 have neL:∀b o,X.s₀.heap.get? b=some o->b≠X.env.locals:=fun b o e=>R1 (RJ (RD e) I.ok.above)
 show⟨I.ok,I.os,I.bare,⟨fun b o e n hb hx=>?_,fun b o e n hb hx=>?_,I.base.free,fun b o e hx=>?_,I.base.tups,I.base.frzs,I.base.tbls⟩,⟨_,hn',fun j y v' e1 e2 e3=>?_⟩,fun y c e=>?_,I.free,I.freeC,fun p hp=>?_,fun b u e=>?_,hl.trans I.len⟩
 . show(hs.2 b (neL b o e)).trans (I.base.keep b o e n hb hx)
 . obtain⟨sl,e1⟩:=I.base.slot b o e n hb hx
   show⟨sl,(hs.2 b (neL b o e)).trans e1⟩
 . obtain⟨o',e1⟩:=I.base.there b o e hx
   show⟨o',(hs.2 b (neL b o e)).trans e1⟩
 . obtain⟨w1,w2⟩:=hw j v' e2
   obtain⟨u,r,l⟩:=hm j y v' e1 w1 e3
   show⟨u,r,?_⟩
   rcases l with⟨k,e⟩|⟨k,c,e,z⟩
   . show .inl ⟨k,?_⟩
     have:y≠en:=fun z=>w2 (by rw[e1,z])
     change(if y=en then v else m y)=some u
     rw[dh this]
     show e
   . show .inr ⟨k,c,e,z.sameBut hs (I.yS y c e)⟩
 . obtain⟨w',z⟩:=I.cell y c e
   show⟨w',z.sameBut hs (I.yS y c e)⟩
 . obtain⟨e,n,ne,nf,d⟩:=I.pin p hp
   show⟨(hs.2 p.1 ne).trans e,n,ne,nf,d⟩
 . have oK:=I.free
   show(I.hok b u e).cn (fun c w' hc q=>(hs.2 c ?_).trans q) (fun w q=>q) fun w w q=>q
   intro z
   rcases hc with hc|hc
   . rw[hc]at z
     rw[z,oK]at e
     cases e
   . rw[z,oK]at hc
     cases hc
def Inv.other {W:Value->Shared->Prop}{pn iW:List (Addr×Obj)}(I:Inv X pins σ H s)(h:∀p∈pn++iW,p∈X.pn++pins):Inv {X with xe:=W,pn:=pn} iW σ H s:=
 ⟨⟨I.ok.mod,I.ok.kind,I.ok.glob,I.ok.blt,I.ok.above,I.ok.inj,I.ok.has,I.ok.cab,I.ok.hd,I.ok.frames,I.ok.stk,I.ok.exf,I.ok.bs,I.ok.bsz,I.ok.noex,I.ok.exfs,I.ok.ib,I.ok.frf⟩,I.os,I.bare,I.base,I.loc,I.cell,I.free,I.freeC,fun p hp=>I.pin p (h p hp),I.hok,I.len⟩
def Inv.back {W:Value->Shared->Prop}{pn iW:List (Addr×Obj)}(I:Inv {X with xe:=W,pn:=pn} iW σ H s)(h:∀p∈X.pn++pins,p∈pn++iW):Inv X pins σ H s:=
 ⟨⟨I.ok.mod,I.ok.kind,I.ok.glob,I.ok.blt,I.ok.above,I.ok.inj,I.ok.has,I.ok.cab,I.ok.hd,I.ok.frames,I.ok.stk,I.ok.exf,I.ok.bs,I.ok.bsz,I.ok.noex,I.ok.exfs,I.ok.ib,I.ok.frf⟩,I.os,I.bare,I.base,I.loc,I.cell,I.free,I.freeC,fun p hp=>I.pin p (h p hp),I.hok,I.len⟩
def Inv.mark {e:Option Value}(I:Inv X pins σ H s):Inv {X with A:=X.A.mark e,calm:=false,xe:=fun y y=>False} pins σ H s:=
 ⟨⟨I.ok.mod,I.ok.kind,I.ok.glob,I.ok.blt,I.ok.above,I.ok.inj,I.ok.has,I.ok.cab,(fun z=>nomatch z),I.ok.frames,I.ok.stk,I.ok.exf,I.ok.bs,I.ok.bsz,I.ok.noex,I.ok.exfs,I.ok.ib,I.ok.frf⟩,I.os,I.bare,I.base,I.loc,I.cell,I.free,I.freeC,I.pin,I.hok,I.len⟩
def Inv.unmark {e:Option Value}{σ':St}{H':Hp}{s':Shared}(I0:Inv X pins σ H s)(I:Inv {X with A:=X.A.mark e,calm:=false,xe:=fun z z=>False} pins σ' H' s'):Inv X pins σ' H' s':=
 ⟨I0.ok,I.os,I.bare,I.base,I.loc,I.cell,I.free,I.freeC,I.pin,I.hok,I.len⟩
end
section
variable{P:Program}{w:World}{K:Ro}{mg:Str->Option Value}{base:Heap}
def cD.wU {x qual:Str}{st:Stmt}{f:Addr}{fd:RZ}{N ps:List Str}{k:Nat}{sp:Sp}(F:cD K x qual st f fd)(S:aC N ps (ao st))(len:∀vs H Q E,sp vs H Q E->vs.length=ps.length)
   (hbody:∀(cdv:Value) (A:Around) (outer:List Env) (s:Shared) (H:Hp) (vs:List V) (Q:VK) (E:XK),bY k (A.deeper (envOfC qual (ao st) s.heap.objs.size f cdv))->sp vs H Q E ->
     ∃t,lD (cY (eD P w base) P w K mg base N qual (ao st) f cdv A outer s H E) (ck st) t/\t {nx:=fun z H'=>Q .bI H',rt:=Q} (start N vs) H):aY P w K mg base (eD P w base) (k+1) f fd ps sp:=by
 obtain⟨oc,od,kV,doc,pm,an,cdv,ct,osl,rfl,lk,hcd⟩:=F.ex
 show A2 lk hcd S len fun A outer s H vs Q E hr hsp=>hbody cdv A outer s H vs Q E hr hsp
def cA {N:List Str}{qual:Str}{scope:Scope}{f:Addr}{cd:Value}{A:Around}{outer:List Env}{s:Shared}{H:Hp}{E:XK}:j8 (cY (eD P w base) P w K mg base N qual scope f cd A outer s H E) E:=fun I hm q=>p9 I hm q
def iV {N:List Str}{qual:Str}{scope:Scope}{f:Addr}{cd:Value}{A:Around}{outer:List Env}{s:Shared}{H:Hp}{E:XK}:Passes (eD P w base) (cY (eD P w base) P w K mg base N qual scope f cd A outer s H E) E:=Hi fun z z z h=>h
end
def HQ (K:Ro):List V->Hp->VK->Prop:=fun xs H Q=>∃ea C b,H ea=some (yw ea C)/\qQ K C/\((∃D,xs=[.ref ea,.ref D]/\Rq K (.ref C) (.ref D)=some b)\/(∃n,xs=[.ref ea,.ty n]/\Rq K (.ref C) (.type n)=some b) \/
 (∃(t:Addr) (ds:List Addr),xs=[.ref ea,.ref t]/\H t=some (.tup (ds.map V.ref))/\Sv K (.ref C) (ds.map R6)=some b))/\Q (.bl b) H
theorem mF:∀{ds:List Addr} {its:List Value},Vals (ds.map V.ref) its->its=ds.map R6
 | [],_,.nil=>rfl
 | d::ds,_,.cons r t=>by rw[mF t,show _=R6 d from r];rfl
section
variable{X:Cx}
def vg:dz X (.builtin "isinstance") (HQ X.K):=by
 intro pins s σ H xs us Q I r h
 obtain⟨ea,C,b,Gh,k,cs,q⟩:=h
 have ex:jD ea C s.heap:=(show bB X.prog X.w H s.heap ea (yw ea C)from I.hok ea _ Gh).1
 rcases cs with⟨D,rfl,e⟩|⟨n,rfl,e⟩|⟨t,ds,rfl,ht,e⟩
 . obtain⟨u,v,rfl,ru,rv⟩:=Vals.two r
   obtain rfl:u=R6 ea:=ru
   obtain rfl:v=R6 D:=rv
   show PySem.W.kia_one (kH k) I.lM ex e (fun z=>nomatch z) fun tk=>⟨.bl b,H,I.tok tk,U,q⟩
 . obtain⟨u,v,rfl,ru,rv⟩:=Vals.two r
   obtain rfl:u=R6 ea:=ru
   obtain rfl:v=Vk n:=rv
   show PySem.W.kia_one (kH k) I.lM ex e (fun z=>nomatch z) fun tk=>⟨.bl b,H,I.tok tk,U,q⟩
 . obtain⟨u,v,rfl,ru,rv⟩:=Vals.two r
   obtain rfl:u=R6 ea:=ru
   obtain rfl:v=R6 t:=rv
   obtain⟨_,its,rl,o,h1,h2,n,h3⟩:=(show bB X.prog X.w H s.heap t (.tup (ds.map V.ref))from I.hok t _ ht)
   rw[mF rl]at h3
   obtain⟨oc,od,Qj,osl⟩:=o
   simp only at h2 h3
   subst h2 h3
   show PySem.W.kia_tup (kH k) I.lM ex h1 e (fun z=>nomatch z) fun tk=>⟨.bl b,H,I.tok tk,U,q⟩
end
def js {a p}:bL (.JoinedStr a p):=fK fun y y z=>nomatch z
end L2
namespace TW
open PySem L2
def bQ (P:Program)(w:World)(K:Ro)(mg:Str->Option Value)(base:Heap)(x:Str)(ps:List Str)(k:Nat)(sp:Sp):Prop:=
 ∃f fd,aY P w K mg base (eD P w base) k f fd ps sp/\Tf K (.ref f)=true/\Binds K fd ps []/\mg x=some (.ref f)
def bQ.mono {P:Program}{w:World}{K:Ro}{mg:Str->Option Value}{base:Heap}{x:Str}{ps:List Str}{j k:Nat}{sp:Sp}(h:bQ P w K mg base x ps j sp)(hk:j<=k):bQ P w K mg base x ps k sp:=
 let⟨f,fd,a,b,c,d⟩:=h;⟨f,fd,a.mono hk,b,c,d⟩
end TW
namespace L3
open PySem PySem.Spec PyProof.Rows L2
structure EZ (X:Cx)(ps:List Expr)(n:Nat)(t:TF):Prop where
 h:PF X ps n t
section
variable{X:Cx}{a b c e o:Expr}{es:List Expr}{ta tb tc te:TE}{t:TA}{tf:TF}{pos:Pos}{n:Nat}
def fn:EZ X [] 0 (fun z H k=>k H):=⟨DT⟩
def fs {x:Str}{j}(hr:EZ X es n tf)(hx:x.length<=2000:=by left):EZ X (.Constant (.str x) j pos::es) (n+1) tf:=⟨DV hx hr.h⟩
def fv (ha:SE X a ta)(hr:EZ X es n tf):EZ X (.FormattedValue a (-1) none pos::es) (n+1) (fun σ H k=>ta σ H fun x H1=>FX x/\tf σ H1 k):=⟨DW ha.h hr.h⟩
def Cw (h:EZ X (a::b::es) n tf)(hn:n<=1000:=by left):SE X (.JoinedStr (a::b::es) pos) (fun σ H Q=>tf σ H fun H1=>∀x,Q (.str x) H1):=⟨Aa h.h hn⟩
def dN {x:Str}{C:Addr}{tl:List Value}{Ex:XK}{np cpos:Pos}(hx:j8 X Ex)(cc:Xc X.K X.mg x C tl)(hb:tl.contains (.type "BaseException")=true)(hg:Gl X x)(ha:SA X [a] t)(hc:X.calm=true:=by rfl)(hd:(x==("__debug__":Str))=false:=by left) :
   SS X (.Raise (some (.Call (.Name x np) [a] [] cpos)) none pos) (yo Ex C t):=⟨xA hx cc hb hg hc ha.h hd⟩
def kO {x:Str}{p:Pos}{ps:List Str}{kk:Nat}{sp:Sp}{Ex:XK}(hp:Passes (eD X.prog X.w X.base) X Ex)(D:TW.bQ X.prog X.w X.K X.mg X.base x ps kk sp)(hr:bY kk X.A)(hg:Gl X x)(ha:SA X (e::es) t)(hdb:(x==("__debug__":Str))=false:=by left) :
   SE X (.Call (.Name x p) (e::es) [] pos) (sA sp [] Ex t):=by
 obtain⟨_,_,G,kp,b,m⟩:=D
 show⟨rL G hr hg m kp b .nil hp ha.h.pa hdb ((ha.h.ns e es rfl).1.h es X.env) ((ha.h.ns e es rfl).2 pos X.env)⟩
def fu {KK:Ro}(hK:X.K=KK:=by first|show br|rfl):SC X (.builtin "isinstance") (HQ KK):=by
 subst hK
 show⟨vg⟩
end
end L3
namespace L2
open PySem PySem.Spec PyProof.Rows
end L2
namespace L3
open PySem PySem.Spec PyProof.Rows L2
end L3
namespace L2
open PySem PySem.Spec PyProof.Rows
def l9 (nm:Nat->Str):Nat->Nat
 | 0=>0
 | i+1=>if gy nm i (nm i)then l9 nm i else l9 nm i+1
theorem mY (nm:Nat->Str):∀i,l9 nm i<=i
 | 0=>Rz 0
 | i+1=>by
   have:=mY nm i
   change(if gy nm i (nm i)then l9 nm i else l9 nm i+1)<=i+1
   split<;>lia
theorem qV {nm:Nat->Str}{n:Nat}(inj:∀a b,a<n->b<n->nm a=nm b->a=b):∀i,i<=n->l9 nm i=i
 | 0,_=>rfl
 | i+1,h=>by
   change(if gy nm i (nm i)then l9 nm i else l9 nm i+1)=i+1
   rw[wj inj (show i<n by lia),qV inj i (by lia)]
   rfl
theorem vo {nm:Nat->Str}{a b:Nat}(hab:a<b)(e:nm b=nm a):∀n,b<n->l9 nm n<n
 | 0,h=>by lia
 | n+1,h=>by
   change(if gy nm n (nm n)then l9 nm n else l9 nm n+1)<n+1
   by_cases hb:b=n
   . subst hb
     have:gy nm b (nm b)=true:=by
       unfold gy
       rw[Vw]
       show⟨a,List.mem_range.mpr hab,hW e⟩
     rw[this]
     have:=mY nm b
     change l9 nm b<b+1
     lia
   . have:=vo hab e n (by lia)
     split<;>lia
def mx {xs:List Str}:(xs.Nodup->l9 (fun i=>xs.getD i "") xs.length=xs.length)/\(¬ xs.Nodup->l9 (fun i=>xs.getD i "") xs.length<xs.length):=by
 constructor
 . intro nd
   show qV (n:=xs.length) (fun i j hi hj e=>?_) _ (Rz _)
   rw[TJ,TJ,RQ hi,RQ hj]at e
   by_cases lt:i<j
   . show au e ((List.pairwise_iff_getElem.mp nd) i j hi hj lt)
   . by_cases gt:j<i
     . show au e.symm ((List.pairwise_iff_getElem.mp nd) j i hj hi gt)
     . lia
 . intro nd
   have:∃a b,a<b/\b<xs.length/\xs.getD b ""=xs.getD a "":=by
     show Vq fun no=>nd (List.pairwise_iff_getElem.mpr fun i j hi hj lt e=>no ⟨i,j,lt,hj,?_⟩)
     rw[TJ,TJ,RQ hi,RQ hj]
     show e.symm
   obtain⟨a,b,h1,h2,h3⟩:=this
   show vo (nm:=fun i=>xs.getD i "") h1 h3 _ h2
section
variable{P:Program}{w:World}{A:Around}
def x6 {it:Addr}{own Fp:List Addr}{GG:Array GenState->Array GenState->Prop}{n:Nat}{Pv:Nat->Value->Prop}{Zt:Nat->Shared->Prop}{RR:Result->Shared->Prop}
   (wk:WalksS P w A.in1 it own Fp GG n Pv Zt) (z:Addr) (hz:z∉own) (nm:Nat->Str) (hnm:∀i v,Pv i v->∃t,v=Uq (nm i) t) (few:n+1<scanBound) :
   ∀(m i:Nat) (s:Shared),n-i=m->i<=n->Zt i s->s.heap.SetOf (strKind P w) z (gy nm i) (l9 nm i) ->
     (∀t,Moved (z::Fp) GG s t->t.heap.SetOf (strKind P w) z (gy nm n) (l9 nm n)->RR (.ok (.ret .none)) t)->codeAny (model P w) A (.builtin "set.update.loop" ⟨[.ref z,.ref it],[]⟩) RR s:=by
 intro m
 induction m using Nat.strongRecOn with
 | _ m ih=>
   intro i s hm hi zt so k
   have zw:z∉Fp:=fun q=>hz (wk.sub _ q)
   have more:∀b∈Fp,b∈z::Fp:=fun b q=>RC _ q
   have carry:∀{t:Shared} {S:Str->Bool} {c:Nat},Moved Fp GG s t->s.heap.SetOf (strKind P w) z S c->t.heap.SetOf (strKind P w) z S c:=fun mv ⟨o,es,ep,tb,ho,rest⟩=>⟨o,es,ep,tb,mv.heap z _ zw ho,rest⟩
   show Wb PyProof.Rows.F.entry_set_update_loop ?_
   rw[Around.under_plainId Uu _]
   change wpAny _ A.in1 (pyNext (.ref it)>>=_) _ _ s
   by_cases oM:i<n
   . show wpAny_bind (wk.item i s _ _ oM zt fun v t pv QO mv=>?_)
     obtain⟨tk,rfl⟩:=hnm i v pv
     change wpAny _ A.in1 (holding [Uq (nm i) tk] (setAdd z (.str (nm i) tk))>>=_) _ _ t
     show wpAny_bind (wpAny_holding ?_)
     unfold setAdd
     have sc:=carry mv so
     show wpAny_holding (wpAny_bind ((strKind P w).pyHash (k:=nm i) (strKind_is _ _ _ _) ?_))
     show wpAny_setAddHashed_of (knd:=strKind P w) (s:={t with toks:=t.toks+1}) (strKind_is _ _ _ _) rfl sc (by have:=mY nm i;lia) fun g sb Qy=>?_
     have Qz:g.SetOf (strKind P w) z (gy nm (i+1)) (l9 nm (i+1)):=SetOf_congr Qy (fun x=>(uc nm i x).symm) rfl
     show wpAny_pure ⟨plainId_quiet Uu _,ih (n-(i+1)) (by lia) (i+1) _ rfl oM (wk.frame _ t _ _ QO (Ve _) fun b hb o e=>?_) Qz fun t' Qb Qx=>?_⟩
     . rw[sb.2 b (fun q:b=z=>hz (by rw[← q];show hb))]
       show e
     . show k t' (Moved.trans wk.gtrans ((mv.mono more).then_heap (Ve _) fun b o hb e=>?_) Qb) Qx
       rw[sb.2 b (fun q:b=z=>hb (by rw[q];show Ru))]
       show e
   . obtain rfl:i=n:=by lia
     show wpAny_bind (wk.done s _ _ zt fun t mv=>?_)
     change wpAny _ A.in1 (ret SH) _ _ t
     show wpAny_pure (k t (mv.mono more) (carry mv so))
set_option maxHeartbeats 4000000 in
def vf {E:Value->Shared->Prop}{s:Shared}{l:Addr}{its:Array Value}{xs:List Str}{Q:Value->Shared->Prop}(free:A.handled=none)(il:s.heap.IsList l its)(hx:∀i v,its[i]?=some v->∃t,v=Uq (xs.getD i "") t)(hlen:its.size=xs.length)(few:its.size+1<scanBound)
   (k:∀(g:Heap) (tk:Nat),g.SetOf (strKind P w) s.heap.objs.size (gy (fun i=>xs.getD i "") its.size) (l9 (fun i=>xs.getD i "") its.size)->(∀b o,s.heap.get? b=some o->g.get? b=some o)->Q (.ref s.heap.objs.size) {s with heap:=g,toks:=tk}) :
   wpAny (model P w) A (call (.type "set") [.ref l]) Q E s:=by
 obtain⟨cc,tl,mro⟩:=F.called_set.mro
 have e1:=F.called_set.made
 have e2:=F.called_set.sub
 show wpAny_call (codeAny_of_tree ?_)
 change wpAny _ _ (callAny (.type "set") _) _ _ _
 show wpAny_pure ⟨Code.quiet_builtin _ (by right),Wb F.entry_type_call ?_⟩
 rw[Around.under_plain (weight_type_call_type "set" [.ref l] []) rfl]
 have e3:=F.called_set.notType
 have e4:=F.called_set.canCreate
 have e5:=F.typeCall_set_1 (.ref l)
 repeat (any_goals (first|assumption|wp_step))
 show codeAny_mono (code_set_new_1 (.ref l) (E:=E) (Q₁:=fun ob t=>∃b:Bool,ob=.ref s.heap.objs.size/\t={s with heap:=s.heap.push {cls:=.type "set",dict:=none,data:=.set #[] 0 (.fresh 0 0 b)} }) fun b=>⟨b,U,U⟩) fun r t hr=>?_
 cases r with
 | error _=>show hr
 | ok fl=>
   cases fl with
   | ret ob=>
     obtain⟨b,rfl,rfl⟩:=hr
     have g0:(s.heap.push {cls:=.type "set",dict:=none,data:=.set #[] 0 (.fresh 0 0 b)}).get? s.heap.objs.size=some {cls:=.type "set",dict:=none,data:=.set #[] 0 (.fresh 0 0 b)}:=RK _ rfl
     have ty:Shared.TypeIs {s with heap:=s.heap.push {cls:=.type "set",dict:=none,data:=.set #[] 0 (.fresh 0 0 b)} } (.ref s.heap.objs.size) "set":=⟨_,g0,rfl⟩
     have f1:=F.called_set.init.lookup
     have f2:=F.called_set.init.bind (.ref s.heap.objs.size)
     repeat (any_goals (first|assumption|wp_step))
     show codeAny_mono (codeAny_call_builtin (R:=wants (fun r t=>r=.none/\∃g tk,t={s with heap:=g,toks:=tk}/\g.SetOf (strKind P w) s.heap.objs.size (gy (fun i=>xs.getD i "") its.size) (l9 (fun i=>xs.getD i "") its.size)/\∀c o,s.heap.get? c=some o->g.get? c=some o) E) F.called_set.init.plain F.entry_set_init (check_set_init_1 ty ?_)) fun r2 t2 oN=>?_
     . obtain⟨⟨oc,od,Qj,osl⟩,ho,hc,nl,hd⟩:=il
       simp only at hc hd
       subst hc
       subst hd
       have iM:(s.heap.push {cls:=.type "set",dict:=none,data:=.set #[] 0 (.fresh 0 0 b)}).get? l=some {cls:=.type "list",dict:=od,data:=.seq its nl,slots:=osl}:=Rr _ ho
       have n1:=F.sub_list_set
       have n2:=F.sub_list_frozenset
       have n3:(Vk "list" == Vk "dict")=false:=by left
       have MG:(s.heap.push {cls:=.type "set",dict:=none,data:=.set #[] 0 (.fresh 0 0 b)}).IsList l its:=⟨_,iM,rfl,nl,rfl⟩
       unfold Builtin.«set.__init__» noKeywords Builtin.Frozenset.updateFrom
       generalize Ph:pyIter=Q4
       wp_walk
       subst Ph
       show UJ MG ?_
       show wpAny_bind (wpAny_runValue ?_)
       have ls:l<s.heap.objs.size:=RD ho
       have sz1:(s.heap.push {cls:=.type "set",dict:=none,data:=.set #[] 0 (.fresh 0 0 b)}).objs.size=s.heap.objs.size+1:=Tr ..
       have a1:l≠(s.heap.push {cls:=.type "set",dict:=none,data:=.set #[] 0 (.fresh 0 0 b)}).objs.size:=by rw[sz1];show R1 (Nat.lt_succ_of_lt ls)
       have a2:s.heap.objs.size∉[(s.heap.push {cls:=.type "set",dict:=none,data:=.set #[] 0 (.fresh 0 0 b)}).objs.size,l]:=by
         rw[sz1]
         simp only[Sh,R4,or_false,not_or]
         show⟨R1 (Tq _),Tg ls⟩
       show x6 ((Walks.list (by simp[free]) _ l a1 its).toS) s.heap.objs.size a2 (fun i=>xs.getD i "") hx few (its.size-0) 0 _ (by lia) (Sd _) ⟨⟨_,RK _ rfl,U,U⟩,MG.push _⟩ ?start ?stop
       case start=>
         show SetOf_congr ((setObjOf_fresh (knd:=strKind P w) b).setOf (Rr _ g0) (by unfold scanBound;lia)) (fun z=>rfl) rfl
       case stop=>
         rintro⟨g,gg,dd,tk,os⟩ mv so
         obtain rfl:gg=s.gens:=mv.gens
         obtain rfl:dd=s.drawn:=mv.drawn
         obtain rfl:os=s.os:=mv.os
         change wpAny _ _ _ _ _ _
         show wpAny_pure ?_
         change wpAny _ _ (ret SH) _ _ _
         show wpAny_pure ⟨U,g,tk,U,so,fun c o e=>?_⟩
         have lc:=RD e
         show mv.heap c o ?_ (Rr _ (Rr _ e))
         rw[sz1]
         simp only[Sh,R4,or_false,not_or]
         show⟨R1 lc,R1 (Nat.lt_succ_of_lt lc)⟩
     . cases r2 with
       | error _=>show oN
       | ok L9=>
         cases L9 with
         | ret r=>
           obtain⟨rfl,g,tk,rfl,so,kk⟩:=oN
           repeat (any_goals (first|assumption|wp_step))
           show k _ _ so kk
         | _=>show oN.elim
   | _=>show hr.elim
end
section
variable{X:Cx}{a:Expr}{ta:TA}{p1 p2 pos da:Pos}
def pk (K:Ro)(ta:TA):TE:=fun σ H Q=>ta σ H fun vs H1=>∃(l:Addr) (xs:List Str),vs=[.ref l]/\aH K H1 l (xs.map V.str)/\xs.length<=1000/\∀n:Nat,(xs.Nodup->n=xs.length)->(¬ xs.Nodup->n<xs.length)->Q (.int n) H1
def qr (hc:X.calm=true)(hg1:Gl X "len")(hm1:X.mg "len"=none)(hg2:Gl X "set")(hm2:X.mg "set"=none)(ha:qP X [a] ta)(hv2:SJ "set"=some (.type "set"):=by first|rfl|decide +kernel) :
   PE X (.Call (.Name "len" p1) [.Call (.Name "set" p2) [a] [] da] [] pos) (pk X.K ta):=by
 intro pins s σ H Q I h
 show wpAny_Call_Name_kw (fF I hg1 hm1 RG ?_ (by left) (by left))
 show U0 ?_ rfl rfl
 change wpAny _ _ (spliced ((false,eval (.Call (.Name "set" p2) [a] [] da) X.env)::[])) _ _ s
 show Su (wpAny_Call_Name_kw (fF I hg2 hm2 hv2 ?_ (by left) (by left)))
 show SY (bw (ha.pa da pins s σ H _ I h) fun us s1 h9=>?_) ((ha.ns a [] rfl).1.h [] X.env) rfl
 obtain⟨vs,H1,I1,r1,q1⟩:=h9
 obtain⟨l,xs,rfl,hq,Mi,q⟩:=q1
 obtain⟨u,rfl,ru⟩:=vals1 r1
 obtain rfl:u=R6 l:=ru
 obtain⟨its,rv,pl,hz⟩:=I1.list hq
 have hl:=rv.length
 rw[Rn]at hl
 show vf (xs:=xs) (I1.ok.hd hc) pl.isList (fun i v e=>sj rv (by simpa using e)) (by simp;lia) (by unfold scanBound;simp;lia) fun g tk so kk=>?_
 have I2:Inv X pins σ H1 {s1 with heap:=g,toks:=tk}:=I1.kept kk
 show Tc ?_
 obtain⟨o,es,ep,t,ho,hex,hd,_,_,hb,hf,hn⟩:=so
 show call_len_set (s:={s1 with heap:=g,toks:=tk}) ho hex hd hf (by rw[hn];have:=mY (fun i=>xs.getD i "") its.toArray.size;simp at this ⊢;lia) ?_
 show⟨.int (l9 (fun i=>xs.getD i "") xs.length:Nat),H1,I2.tok _,⟨tk+1,by rw[hn,RH,hl]⟩,q _ mx.1 mx.2⟩
end
end L2
namespace L3
open PySem PySem.Spec PyProof.Rows L2
section
variable{X:Cx}{a b c e o:Expr}{es:List Expr}{ta tb tc te:TE}{t:TA}{pos:Pos}
def rG {a:Expr}{t:TA}{p1 p2 pos da:Pos}{KK:Ro}(hg1:Gl X "len")(hm1:X.mg "len"=none)(hg2:Gl X "set")(hm2:X.mg "set"=none)(ha:SA X [a] t)(hc:X.calm=true:=by rfl)(hK:X.K=KK:=by first|show br|rfl) :
   SE X (.Call (.Name "len" p1) [.Call (.Name "set" p2) [a] [] da] [] pos) (pk KK t):=by
 subst hK
 show⟨qr hc hg1 hm1 hg2 hm2 ha.h⟩
end
end L3
namespace L2
open PySem PySem.Spec PyProof.Rows
end L2
namespace L3
open PySem PySem.Spec PyProof.Rows L2
end L3
namespace L2
open PySem PySem.Spec PyProof.Rows
end L2
namespace L3
open PySem PySem.Spec PyProof.Rows L2
end L3
namespace TW
end TW
namespace L3
open PySem PySem.Spec PyProof.Rows L2
section
variable{X:Cx}{a b o i value:Expr}{ta tb td ty tv:TE}{pos:Pos}
def ql {KK:Ro}(hK:X.K=KK:=by first|show br|rfl):SO X (binaryOp .Add) (Bu KK):=by
 subst hK
 show⟨zV⟩
end
end L3
namespace L2
open PySem PySem.Spec PyProof.Rows
def Bt:R2:=fun x y H Q=>∃a b:Str,x=.str a/\y=.str b/\a.length+b.length<=sizeLine/\Q (.str (a++b)) H
def zU {X:Cx}:gC X (binaryOp .Add) Bt:=by
 intro pins s σ H x y u v Q I rx ry h
 obtain⟨a,b,rfl,rfl,hl,q⟩:=h
 obtain⟨t,rfl⟩:=rx
 obtain⟨t2,rfl⟩:=ry
 show PyProof.Rows.add_str (fun t' tk=>⟨.str (a++b),H,I.tok _,⟨_,U⟩,q⟩) hl
end L2
namespace L3
open PySem PySem.Spec PyProof.Rows L2
section
variable{X:Cx}{a b c e o:Expr}{es:List Expr}{ta tb tc te:TE}{t:TA}{pos:Pos}
def BH {KK:Ro}{p2:Pos}(ha:SE X a ta)(hb:SE X b tb)(hc:SE X c tc)(hK:X.K=KK:=by first|show br|rfl):SE X (.Subscript a (.Slice (some b) (some c) none p2) pos) (EM (As KK) ta (jc tb) (jc tc)):=by
 subst hK
 show⟨eP nY ha.h (d8 hb.h) (d8 hc.h)⟩
def bj:SO X (binaryOp .Add) Bt:=⟨zU⟩
end
end L3
namespace L2
open PySem PySem.Spec PyProof.Rows
end L2
namespace L3
open PySem PySem.Spec PyProof.Rows L2
end L3
namespace PySem
open Sem (wp)
end PySem
namespace PySem
open Sem (wp)
open AutoSeq1 (wpAny_loadPart')
end PySem
namespace L2
open PySem PySem.Spec PyProof.Rows
end L2
namespace L3
open PySem PySem.Spec PyProof.Rows L2
end L3
namespace L2
open PySem PySem.Spec PyProof.Rows
section
variable{X:Cx}{pos:Pos}
theorem rC:∀{ns:List Int} {us:List Value},Vals (ns.map V.int) us->∃l:List (Int×Tok),us=l.map (fun p=>UL p.1 p.2)/\l.map (·.1)=ns
 | [],_,.nil=>⟨[],rfl,rfl⟩
 | n::ns,_,.cons r q=>by
   obtain⟨t,rfl⟩:=r
   obtain⟨l,rfl,rfl⟩:=rC q
   show⟨(n,t)::l,U,U⟩
def sV (hc:X.calm=true):dz X (.builtin "sum") (fun xs H Q=>∃(l:Addr) (ns:List Int),xs=[.ref l]/\aH X.K H l (ns.map V.int)/\Q (.int ns.sum) H):=by
 intro pins s σ H xs us Q I r h
 obtain⟨l,ns,rfl,hq,q⟩:=h
 obtain⟨u,rfl,ru⟩:=vals1 r
 obtain rfl:u=R6 l:=ru
 obtain⟨its,rv,pl,_⟩:=I.list hq
 obtain⟨ps,e1,e2⟩:=rC rv
 have hl:s.heap.IsList l (intItems ps.toArray):=by
   have:=pl.isList
   rw[e1]at this
   simpa[intItems]using this
 show sum_intListG (I.ok.hd hc) hl fun h' tk t' k=>⟨.int ns.sum,H,I.kept k,⟨t',?_⟩,q⟩
 have e3:preSum (numAt ps.toArray) ps.toArray.size=ns.sum:=by
   rw[preSum_eq,UI (by simp),← e2]
 rw[e3]
end
end L2
namespace L3
open PySem PySem.Spec PyProof.Rows L2
section
variable{X:Cx}{a b c e o:Expr}{es:List Expr}{ta tb tc te:TE}{t:TA}{pos:Pos}
def FN {KK:Ro}(hc:X.calm=true:=by rfl)(hK:X.K=KK:=by first|show br|rfl):SC X (.builtin "sum") (fun xs H Q=>∃(l:Addr) (ns:List Int),xs=[.ref l]/\aH KK H l (ns.map V.int)/\Q (.int ns.sum) H):=by
 subst hK
 show⟨sV hc⟩
end
end L3
namespace TW
end TW
namespace L2
open PySem PySem.Spec PyProof.Rows SeqAt
end L2
namespace L3
open PySem PySem.Spec PyProof.Rows L2
end L3
namespace TW
end TW
namespace TW
end TW
namespace L2
open PySem PySem.Spec PyProof.Rows
end L2
namespace L3
open PySem PySem.Spec PyProof.Rows L2
end L3
namespace L2
open PySem PySem.Spec PyProof.Rows SeqAt
section
variable{K:Ro}{H:Hp}{α:Type}[DecidableEq α]{At:V->α->Prop}{n:Nat}
theorem kP:∀{vx vy:List V} {xs ys:List α},Paired At vx xs->Paired At vy ys->vx.length=vy.length->(∀u v x y,At u x->At v y->EB K H n u v (decide (x=y))) ->
   ∃e:Nat->Bool,(∀j x y,vx[j]?=some x->vy[j]?=some y->EB K H n x y (e j))/\(TH vx.length).all e=decide (xs=ys)
 | [],[],_,_,.nil,.nil,_,_=>⟨fun z=>true,(fun j x y h=>by cases j<;>cases h),rfl⟩
 | u::vx,v::vy,x::xs,y::ys,.cons h1 r1,.cons h2 r2,hl,k=>by
   obtain⟨e,he,ha⟩:=kP r1 r2 (by simpa using hl) k
   show⟨fun j=>match j with|0=>decide (x=y)|j+1=>e j,fun j a b hx hy=>?_,?_⟩
   . cases j with
     | zero=>
       cases hx
       cases hy
       show k u v x y h1 h2
     | succ j=>show he j a b hx hy
   . rw[RE,List.range_succ_eq_map,V9,List.all_map]
     change(decide (x=y)&&(TH vx.length).all e)=_
     rw[ha]
     by_cases c:x=y<;>by_cases d:xs=ys<;>simp[c,d]
def RB.told {a b:Addr}{vx vy:List V}{xs ys:List α}(ha:H a=some (.lst vx))(hb:H b=some (.lst vy))(px:Paired At vx xs)(py:Paired At vy ys)(k:∀u v x y,At u x->At v y->EB K H n u v (decide (x=y))):RB K H n (.ref a) (.ref b) (decide (xs=ys)):=by
 have lx:=Paired.length px
 have ly:=Paired.length py
 by_cases hl:vx.length=vy.length
 . obtain⟨e,h1,h2⟩:=kP px py hl k
   show⟨a,b,_,_,U,U,.inl ⟨e,aH.of ha,aH.of hb,hl,h1,h2.symm⟩⟩
 . show⟨a,b,_,_,U,U,.inr (.inl ⟨aH.of ha,aH.of hb,hl,gv fun z=>hl (by rw[lx,ly,z])⟩)⟩
end
theorem fL {α:Type}(c:α->V):∀xs:List α,Paired (fun v x=>v=c x) (xs.map c) xs
 | []=>.nil
 | _::r=>.cons rfl (fL c r)
def RB.LY {K:Ro}{H:Hp}{n:Nat}{a b:Addr}{xs ys:List Bool}(ha:H a=some (.lst (xs.map V.bl)))(hb:H b=some (.lst (ys.map V.bl))):RB K H n (.ref a) (.ref b) (decide (xs=ys)):=
 RB.told ha hb (fL V.bl xs) (fL V.bl ys) fun u v x y h1 h2=>by
   subst h1
   subst h2
   have e:oB (.bl x) (.bl y)=decide (x=y):=by
     cases x<;>cases y<;>rfl
   rw[← e]
   show EB.flat rfl rfl
def B1 (K:Ro)(mg:Str->Option Value)(T:Addr)(n ie:Nat)(tb:XK->TS)(th:TS):TS:=fun D σ H=>tb (fun cls z H2=>∃C tl x,cls=.ref C/\Xc K mg x C tl/\(R6 C::tl).contains (.ref T)=true/\∀ea,H2 ea=none->th {nx:=fun σ8 H8=>D.nx (σ8.set ie none) H8,rt:=fun z z=>False} ((VQ n none).set ie (some (.ref ea))) (upd H2 ea (yw ea C))) D σ H
def Am {X:Cx}{tn en:Str}{T:Addr}{ie:Nat}{body aN:List Stmt}{hst0:Stmt}{tb:XK->TS}{th:TS}{np hp pos:Pos}(hst:X.stack=X.env::X.outer)(hex:X.ex=[])(hfr:X.env.frame=some X.env.locals)(hN:X.N.Nodup)(hie:X.N[ie]?=some en)
   (hle:X.env.scope.names.lookup en=some .local) (cT:Xc X.K X.mg tn T vE) (hg:Gl X tn)
   (hb:∀(W:Value->Shared->Prop) (pn:List (Addr×Obj)) (Ex:XK),Passes (eD X.prog X.w X.base) {X with xe:=W,pn:=pn} Ex->lD {X with xe:=W,pn:=pn} body (tb Ex))
   (hh:∀ea:Addr,lD {X with A:=X.A.mark (some (.ref ea)),calm:=false,xe:=fun t t=>False} (hst0::aN) th) (hdt:(tn==("__debug__":Str))=false) :
   PS X (.Try body [.ExceptHandler (some (.Name tn np)) (some en) (hst0::aN) hp] [] [] pos) (B1 X.K X.mg T X.N.length ie tb th):=by
 intro pins s σ H D I h
 let Hd:List ExceptHandler:=[.ExceptHandler (some (.Name tn np)) (some en) (hst0::aN) hp]
 let W:Value->Shared->Prop:=fun e s1=>wpAny (model X.prog X.w) X.A (noteFrame e X.env) (fun t s2=>wpAny (model X.prog X.w) X.A (setFlight e none) (fun t s3=>wpAny (model X.prog X.w) X.A (handleBy e X.env Hd) (SP X pins D) X.xe s3) X.xe s2) X.xe s1
 have Lp:∀p∈(X.pn++pins)++[],p∈X.pn++pins:=fun p hp=>by rw[RY]at hp;show hp
 have back:∀{σ1:St} {H1:Hp} {s1:Shared} {Bq:List (Addr×Obj)},Inv {X with xe:=W,pn:=X.pn++pins} Bq σ1 H1 s1->Inv X pins σ1 H1 s1:=fun J=>J.back fun p hp=>S0 _ hp
 show wpAny_Try_except ?_
 show wpAny_mono (hb W (X.pn++pins) _ ?_ [] s σ H D (I.other Lp) h) (fun f s1 hs=>?_) (fun e s1 he=>he)
 . -- an exception of a callee
   intro Bq σ1 H1 s1 e s2 J cx
   obtain⟨ea,cls,a0,B,H2,rfl,DA,kh,iy,p6,stB,m6,ij,oh,Bm,C,tl,x,rfl,xc,hup,q⟩:=cx
   have J0:=back J
   have KS:({X with xe:=W,pn:=X.pn++pins}:Cx).stack=X.env::X.outer:=hst
   rw[KS]at iy m6 ij
   have Cu:=m6.2.2.1
   have at_:∀h3:Heap,B.StaysIn h3->s2.heap.UpToSlots h3->Inv X pins σ1 H2 {s2 with heap:=h3}:=fun h3 s3 up=>by
     show J0.A0 (s':={s2 with heap:=h3}) (ch:=[]) DA ?_ (eR p6 oh m6.1 s3) kh (fun b z=>nomatch z)
     rw[hst]
     show yq iy m6.1 s3 ij (ya Cu up)
   have n2:H2 ea=none:=by
     cases z:H2 ea with
     | none=>rfl
     | some u=>
       obtain⟨o,ho⟩:=oh ea u z
       rw[m6.2.1]at ho
       cases ho
   change wpAny (model X.prog X.w) X.A (noteFrame (.ref ea) X.env) _ _ _
   have Oh:X.A.frames=some (X.env::X.outer):=by rw[← hst];show I.ok.frames
   show wpAny_looks_onW Oh hfr m6 fun h4 Gi QG=>?_
   show wpAny_landsW Gi fun h5 Ct QH=>?_
   have IJ:=QG.trans QH
   have I5:=at_ h5 Ct.1 IJ
   show wpAny_handleBy_cons (codeAny_handlers_test (iP (I5.mark (e:=some (.ref ea))) hg cT.m ?_ hdt)) (by intro z;cases z)
   obtain⟨N1,a1,a2,a3,a4,a5,a6,a7,a8,a9,b0,b1,b2,b3,b5,m1,hC,_,_,_⟩:=xc.obj I5.lM
   obtain⟨N2,c1,c2,c3,c4,c5,c6,c7,c8,c9,d0,d1,d2,d3,d5,m2,hT,_,_,_⟩:=cT.obj I5.lM
   obtain⟨ob,Pe,KJ⟩:=Ct.there
   show qe hC hT Pe KJ hup rfl (codeAny_handlers_suite_as ?_)
   show lands_againW Ct fun h6 FY QI=>?_
   have I6:=at_ h6 FY.1 (IJ.trans QI)
   have Od:jD ea C h6:=FY.there
   have ne_of1:∀b o,s1.heap.get? b=some o->b≠ea:=fun b o hb z=>by rw[z,Bm]at hb;cases hb
   have NC:=I6.IH n2 Od (by
     cases z:X.s₀.heap.get? ea with
     | none=>rfl
     | some o=>
       by_cases hx:ea∈X.ex
       . rw[hex]at hx
         show nomatch hx
       . obtain⟨o',e1⟩:=J0.base.there ea o z hx
         rw[Bm]at e1
         cases e1) (by
     obtain⟨m,⟨o,_,_,ho,_⟩,_⟩:=J0.loc
     show(ne_of1 _ o ho).symm) (fun y c e=>by
     obtain⟨v,o,ho,_⟩:=J0.cell y c e
     show ne_of1 c o ho) (fun p hp=>ne_of1 p.1 p.2 (J0.pin p hp).1)
   show ja NC hN hie (.inl hle) (v:=.ref ea) rfl (fun s7 I7=>?_) (.inr hle)
   have hlenσ:σ1.length=X.N.length:=J0.len
   have CB:ie<σ1.length:=by rw[hlenσ];show(List.getElem?_eq_some_iff.mp hie).1
   have ND:=I7.weak (σ':=(VQ X.N.length none).set ie (some (.ref ea))) (by rw[Ui,Ui,US,hlenσ]) (fun i v e=>by
     by_cases hi:i=ie
     . subst hi
       rw[S5 (by rw[US,← hlenσ];show CB)]at e
       rw[S5 CB]
       show e
     . rw[Ug (Ne.symm hi),V7]at e
       split at e<;>cases e)
   show wpAny_mono (hh ea pins s7 _ _ _ (ND.mark (e:=some (.ref ea))) (q ea n2)) (fun f s8 hs=>?_) (fun t t z=>z.elim)
   cases f with
   | next=>
     obtain⟨σ8,H8,I8,z8⟩:=hs
     have Jx:=I6.unmark I8
     obtain⟨m8,Pa,O7⟩:=id Jx.loc
     show wpAny_nameGoes_keeps (by show hle) Pa (by rw[I.ok.kind];rfl) fun h9 v9 Pb Pn=>?_
     show⟨_,_,Jx.forget (σ':=σ8.set ie none) O7 Pb Pn (by rw[Ui]) (fun i v e=>?_),z8⟩
     have l8:σ8.length=X.N.length:=Jx.len
     by_cases hi:i=ie
     . subst hi
       rw[S5 (by rw[l8,← hlenσ];show CB)]at e
       cases e
     . rw[Ug (Ne.symm hi)]at e
       show⟨e,fun z=>hi ?_⟩
       obtain⟨h1,e1⟩:=List.getElem?_eq_some_iff.mp z
       obtain⟨h2,e2⟩:=List.getElem?_eq_some_iff.mp hie
       rcases Nat.lt_trichotomy i ie with c|c|c
       . show au (e1.trans e2.symm) (List.pairwise_iff_getElem.mp hN i ie h1 h2 c)
       . show c
       . show au (e2.trans e1.symm) (List.pairwise_iff_getElem.mp hN ie i h2 h1 c)
   | brk=>obtain⟨_,_,_,z⟩:=hs;show z.elim
   | cont=>obtain⟨_,_,_,z⟩:=hs;show z.elim
   | ret u=>obtain⟨_,_,_,_,_,z⟩:=hs;show z.elim
 . cases f with
   | next=>
     obtain⟨σ',H',J,z⟩:=hs
     show Up ⟨σ',H',back J,z⟩
   | brk=>obtain⟨σ',H',J,z⟩:=hs;show⟨σ',H',back J,z⟩
   | cont=>obtain⟨σ',H',J,z⟩:=hs;show⟨σ',H',back J,z⟩
   | ret u=>obtain⟨v,σ',H',J,r,z⟩:=hs;show⟨v,σ',H',back J,r,z⟩
end L2
namespace TW
open PySem L2
end TW
namespace L3
open PySem L2
section
variable{X:Cx}{e:Expr}{es:List Expr}{t:TA}{pos:Pos}
def Lv {tn en:Str}{T:Addr}(ie:Nat){body aN:List Stmt}{hst0:Stmt}{tbb:XK->TS}{th:TS}{np hp:Pos}{KK:Ro}{mg:Str->Option Value}{NN:Nat}(hN:X.N.Nodup)(cT:Xc X.K X.mg tn T vE)(hg:Gl X tn)
   (hb:∀(W:Value->Shared->Prop) (pn:List (Addr×Obj)) (Ex:XK),Passes (eD X.prog X.w X.base) {X with xe:=W,pn:=pn} Ex->SL {X with xe:=W,pn:=pn} body (tbb Ex))
   (hh:∀ea:Addr,SL {X with A:=X.A.mark (some (.ref ea)),calm:=false,xe:=fun z z=>False} (hst0::aN) th)
   (hie:X.N[ie]?=some en:=by rfl) (hle:X.env.scope.names.lookup en=some .local:=by rfl)
   (hst:X.stack=X.env::X.outer:=by rfl) (hex:X.ex=[]:=by rfl) (hfr:X.env.frame=some X.env.locals:=by rfl) (hK:X.K=KK:=by rfl) (hm:X.mg=mg:=by rfl) (hNN:X.N.length=NN:=by rfl)
   (hdt:(tn==("__debug__":Str))=false:=by left) :
   SS X (.Try body [.ExceptHandler (some (.Name tn np)) (some en) (hst0::aN) hp] [] [] pos) (B1 KK mg T NN ie tbb th):=by
 subst hK hm hNN
 show⟨Am hst hex hfr hN hie hle cT hg (fun W pn Ex md=>(hb W pn Ex md).h) (fun ea=>(hh ea).h) hdt⟩
end
end L3
namespace L2
open PySem PySem.Spec PyProof.Rows SeqAt
end L2
namespace L3
open PySem PySem.Spec PyProof.Rows L2
end L3
namespace PySem
open Sem (wp)
end PySem
namespace PySem
end PySem
namespace L2
open PySem PySem.Spec PyProof.Rows
end L2
namespace L3
open PySem PySem.Spec PyProof.Rows L2
end L3
namespace L2
open PySem PySem.Spec PyProof.Rows
def Jz (K:Ro)(a:Addr):It:=
 ⟨fun i H=>∃xs x,aH K H a xs/\xs[i]?=some x,
  fun i H v H'=>∃p x,H p=none/\v=.ref p/\H'=upd H p (.tup [.int (i:Nat),x])/\∀xs,aH K H a xs->xs[i]?=some x,
  fun i H=>∃xs,aH K H a xs/\xs.length<=i⟩
def uO {P:Program}{w:World}{K:Ro}{elts:List Expr}{x1:Nat}{tp:Pos}{a n:Addr} :
   Turn P w K (.Tuple elts x1 tp) (Jz K a) [n+1,n] (n+1) (fun i h=>(∃old,IsEnum h (n+1) n (i:Nat) old)/\h.IsListIter n a i) where
 mem:=by simp
 obj:=fun i h st d hd=>by
   obtain⟨⟨old,he⟩,⟨o1,e1,c1,d1⟩⟩:=st
   simp only[Sh,R4,or_false]at hd
   rcases hd with rfl|rfl
   . show⟨_,he,fun v q=>nomatch q⟩
   . show⟨_,e1,fun v q=>by rw[d1]at q;cases q⟩
 keep:=fun i h h' st k=>by
   obtain⟨⟨old,he⟩,h1⟩:=st
   show⟨⟨old,k _ (by simp) _ he⟩,h1.at fun o e=>k _ (by simp) o e⟩
 item:=by
   intro X hP hw hK hc i pins s σ H E I hf st hg
   subst hP hw hK
   obtain⟨xs,x,lF,hx⟩:=hg
   obtain⟨vY,Eo,p1,_⟩:=I.list lF
   obtain⟨ux,gx,rx⟩:=Eo.get hx
   obtain⟨⟨old,he⟩,h1⟩:=st
   have ne:(n+1:Addr)≠n:=Nat.succ_ne_self n
   show wpAny_pyNext_enum_item he h1 p1.isList (x:=ux) (by simpa using gx) ne fun g a1 a2 a3 a4 hk=>?_
   show⟨_,U,wpAny_letOwnedTupleGo_enum (s:={s with heap:=g,toks:=s.toks+1}) a1 fun g2 O1 e2=>?_⟩
   have n0:H s.heap.objs.size=none:=I.hok.fresh (Rz _)
   have K4:n+1<s.heap.objs.size:=RD he
   have JU:Sz (n+1) g g2:=e2
   have kk:∀d o,d∉([n+1,n]:List Addr)->s.heap.get? d=some o->g2.get? d=some o:=fun d o hd e=>by
     simp only[Sh,R4,or_false,not_or]at hd
     show JU.extBut _ _ hd.1 (hk d o hd.1 hd.2 e)
   have t2:IsPair g2 s.heap.objs.size (.int i s.toks) ux:=JU.extBut _ _ (Tg K4) a3
   have I1:Inv X pins σ (upd H s.heap.objs.size (.tup [.int (i:Nat),x])) {s with heap:=g2,toks:=s.toks+1}:=I.many (ch:=[n+1,n]) hf kk (Rz _)
     ⟨by change 2<=sizeLine;decide,[.int i s.toks,ux],.cons ⟨_,rfl⟩ (.cons rx .nil),_,t2,rfl,_,rfl⟩
   show⟨.ref s.heap.objs.size,_,I1,U,⟨_,x,n0,U,U,fun EV q1=>?_⟩,⟨⟨_,by simpa using O1⟩,a2.at fun o e=>JU.extBut _ _ ne.symm e⟩,fun d hd=>?_⟩
   . rw[I.kK q1 lF];show hx
   . have lt:d<s.heap.objs.size:=by
       simp only[Sh,R4,or_false]at hd
       rcases hd with rfl|rfl
       . show K4
       . show Nat.lt_of_succ_lt K4
     rw[ah (R1 lt)]
     show(hf d hd).1
 done:=by
   intro X hP hw hK hc i pins s σ H E I hf st hg
   subst hP hw hK
   obtain⟨xs,lF,Gj⟩:=hg
   obtain⟨vY,Eo,p1,_⟩:=I.list lF
   have l1:=Eo.length
   obtain⟨⟨old,he⟩,h1⟩:=st
   show wpAny_pyNext_enum_end (I.ok.hd hc) he h1 p1.isList (by simp;lia) fun g hk=>⟨U,?_⟩
   show I.Bj (t':=s.toks) (ch:=[n]) (fun d hd=>hf d (by rw[List.mem_singleton.mp hd];simp)) fun d o hd e=>hk d o (fun z=>hd (by rw[z];simp)) e
 self:=fun y y y y y st h=>by
   obtain⟨⟨old,he⟩,_⟩:=st
   show wpAny_pyIter_enum he h
def GF (K:Ro)(ta:TA):TI:=fun σ H R=>ta σ H fun vs H1=>∃a,vs=[.ref a]/\(∃xs,aH K H1 a xs)/\R (Jz K a) H1
def Ag {X:Cx}{a:Expr}{ta:TA}{p pos tp:Pos}{elts:List Expr}{x1:Nat}(hg:Gl X "enumerate")(hm:X.mg "enumerate"=none)(ha:qP X [a] ta)(hv:SJ "enumerate"=some (.type "enumerate"):=by first|rfl|decide +kernel) :
   PI X (.Tuple elts x1 tp) (.Call (.Name "enumerate" p) [a] [] pos) (GF X.K ta):=by
 intro pins s σ H R I h
 show wpAny_Call_Name_kw (fF I hg hm hv ?_ (by left) (by left))
 show SY (bw (ha.pa pos pins s σ H _ I h) fun us s1 h9=>?_) ((ha.ns a [] rfl).1.h [] X.env) ((ha.ns a [] rfl).2 pos X.env)
 obtain⟨vs,H1,I1,r1,q1⟩:=h9
 obtain⟨l1,e,⟨xs,lF⟩,q⟩:=q1
 subst e
 cases r1 with
 | cons r1 r2=>
 cases r2
 cases r1
 obtain⟨vY,Eo,p1,_⟩:=I1.list lF
 show call_enumerate_list p1.isList fun g he hi z hk=>?_
 show wpAny_pyIter_enum he ?_
 have I2:Inv X pins σ H1 {s1 with heap:=g}:=I1.kept (t':=s1.toks) hk
 show⟨_,_,_,_,H1,U,I2,uO,⟨⟨_,he⟩,hi⟩,fun c hc=>?_,q⟩
 simp only[Sh,R4,or_false]at hc
 have up:∀k,ef X pins H1 (s1.heap.objs.size+k):=fun k=>I1.oF (UH _ _) (I1.hok.fresh (UH _ _))
 rcases hc with rfl|rfl
 . show up 1
 . show up 0
section
variable{K:Ro}{a:Addr}{xs:List V}{g:TG}
def sY {tifs:TT}{tm:TM}{σ0:St}{Z:Hp->Prop}{H:Hp}(Pv:Nat->Hp->Prop)(h0:Pv 0 H)(hl:∀i H,i<=xs.length->Pv i H->aH K H a xs)
   (turn:∀i x p H,xs[i]?=some x->Pv i H->H p=none->g (.ref p) σ0 (upd H p (.tup [.int (i:Nat),x])) fun σ2 H2=>tifs σ2 H2 fun b H3=>
     if b=true then tm σ2 H3 fun H4=>bz σ0 σ2/\∃m',m'<xs.length-i/\(m'=xs.length-(i+1)/\i+1<=xs.length/\Pv (i+1) H4)else bz σ0 σ2/\∃m',m'<xs.length-i/\(m'=xs.length-(i+1)/\i+1<=xs.length/\Pv (i+1) H3))
   (hZ:∀H,Pv xs.length H->Z H):lA (Jz K a) σ0 g tifs tm Z H:=by
 show jI xs.length Pv h0 (fun i H hi p=>⟨xs,xs[i],hl i H (S3 hi) p,by simp[hi]⟩) (fun H p=>⟨xs,hl _ H (Rz _) p,Rz _⟩) (fun i H hi p x H' y=>?_) hZ
 obtain⟨pp,x1,hn,rfl,rfl,k⟩:=y
 show turn i x1 pp H (k xs (hl i H (S3 hi) p)) p hn
end
end L2
namespace L3
open PySem PySem.Spec PyProof.Rows L2
def iE {X:Cx}{a:Expr}{t:TA}{KK:Ro}{p pos tp:Pos}{elts:List Expr}{x1:Nat}(hg:Gl X "enumerate")(hm:X.mg "enumerate"=none)(ha:SA X [a] t)(hK:X.K=KK:=by first|show br|rfl) :
   SI X (.Tuple elts x1 tp) (.Call (.Name "enumerate" p) [a] [] pos) (GF KK t):=by
 subst hK
 show⟨Ag hg hm ha.h⟩
section
variable{X:Cx}{a o e:Expr}{es:List Expr}{ta tv:TE}{t:TA}{pos pos' apos:Pos}{f m:Str}
def fld {KK:Ro}(ha:SE X a ta)(hb:Ss a f X.env (eval a X.env)=eval a X.env:=by rfl)(hK:X.K=KK:=by first|show br|rfl):SE X (.Attribute a f pos) (IA KK ta f):=by
 subst hK
 show⟨DJ ha.h hb⟩
def Io {KK:Ro}(ha:SE X a ta)(hv:SE X e tv)(hs:Tw e (some (.Attribute a f pos')) pos.line X.env=pure false:=by rfl)(hK:X.K=KK:=by first|show br|rfl):SS X (.Assign [.Attribute a f pos'] e pos) (Ih KK ta tv f):=by
 subst hK
 show⟨D8 ha.h hv.h hs⟩
end
end L3
namespace TW
open PySem L2
def bN (P:Program)(w:World)(K:Ro)(mg:Str->Option Value)(base:Heap)(C:Addr)(m:Str)(ps:List Str)(k:Nat)(sp:Sp):Prop:=
 ∃f fd,aY P w K mg base dq k f fd ps sp/\Binds K fd ps []/\Meth K C m f
def oi (P:Program)(w:World)(K:Ro)(mg:Str->Option Value)(base:Heap)(x:Str)(C:Addr)(ps:List Str)(k:Nat)(sp:Sp):Prop:=
 ∃f fd,aY P w K mg base dq k f fd ps sp/\Binds K fd ps []/\Mk K C f/\mg x=some (.ref C)
end TW
namespace L2
open PySem PySem.Spec PyProof.Rows
end L2
namespace L3
open PySem PySem.Spec PyProof.Rows L2
section
variable{X:Cx}{a o e:Expr}{es:List Expr}{ta tv:TE}{t:TA}{p pos pos' apos:Pos}{x m:Str}{C:Addr}{ps:List Str}{kk:Nat}{sp:Sp}
def make (D:TW.oi X.prog X.w X.K X.mg X.base x C ps kk sp)(hr:bY (kk+1) X.A)(hg:Gl X x)(ha:SA X (e::es) t)(hdb:(x==("__debug__":Str))=false:=by left):SE X (.Call (.Name x p) (e::es) [] pos) (BV C sp [] E0 t):=by
 obtain⟨_,_,G,b,M8,m⟩:=D
 show⟨Ac M8 G hr hg m b .nil rK ha.h.pa hdb ((ha.h.ns e es rfl).1.h es X.env) ((ha.h.ns e es rfl).2 pos X.env)⟩
def dS {pl:Sem Bool}(ho:SE X o ta)(c:pq X.K C)(D:TW.bN X.prog X.w X.K X.mg X.base C m ps kk sp)(hr:bY kk X.A)(ha:SA X (e::es) t)
   (ht:eval (.Call (.Attribute o m apos) (e::es) [] pos) X.env=(do
     let ov←eval o X.env
     standAt apos.atName
     let(f,first)←holding [ov] (getMethod ov m pl)
     callWith pos f first (backTo pos (starEach (e::es) X.env)) (backToKw pos (keywordEach [] X.env))):=by rfl):SE X (.Call (.Attribute o m apos) (e::es) [] pos) (sC C m sp [] E0 ta t):=by
 obtain⟨_,_,G,b,hm⟩:=D
 show⟨Ad ho.h c hm G hr b .nil rK ha.h.pa ((ha.h.ns e es rfl).1.h es X.env) ((ha.h.ns e es rfl).2 pos X.env) ht⟩
end
end L3
namespace L3
open PySem PySem.Spec PyProof.Rows L2
end L3
namespace L2
open PySem PySem.Spec PyProof.Rows
end L2
namespace L3
open PySem PySem.Spec PyProof.Rows L2
end L3
namespace L2
open PySem PySem.Spec PyProof.Rows
end L2
namespace L3
open PySem PySem.Spec PyProof.Rows L2
def dM {X:Cx}{o:Expr}{ta:TE}{pos apos:Pos}{m:Str}{C:Addr}{ps:List Str}{kk:Nat}{sp:Sp}{pl:Sem Bool}(ho:SE X o ta)(c:pq X.K C)(D:TW.bN X.prog X.w X.K X.mg X.base C m ps kk sp)(hr:bY kk X.A)
   (ht:eval (.Call (.Attribute o m apos) [] [] pos) X.env=(do
     let ov←eval o X.env
     standAt apos.atName
     let(f,first)←holding [ov] (getMethod ov m pl)
     callWith pos f first (backTo pos (starEach [] X.env)) (backToKw pos (keywordEach [] X.env))):=by rfl):SE X (.Call (.Attribute o m apos) [] [] pos) (sC C m sp [] E0 ta yn):=by
 obtain⟨_,_,G,b,hm⟩:=D
 show⟨xp ho.h c hm G hr b .nil rK ht⟩
end L3
namespace L3
open PySem PySem.Spec PyProof.Rows L2
structure SP (X:Cx)(pos:Pos)(keys:List (Option Expr))(values:List Expr)(trs:List (TE×TE)):Prop where
 h:FA X pos keys values trs
section
variable{X:Cx}{pos:Pos}{k v:Expr}{ks:List (Option Expr)}{vs:List Expr}{tk tv:TE}{trs:List (TE×TE)}
def NY:SP X pos [] [] []:=⟨Aj⟩
def FP (hk:SE X k tk)(hv:SE X v tv)(hr:SP X pos ks vs trs):SP X pos (some k::ks) (v::vs) ((tk,tv)::trs):=⟨xx hk.h hv.h hr.h⟩
def JS (h:SP X pos (some k::ks) vs trs)(hall:(some k::ks).all (·.isSome)=true:=by rfl)(hl:(some k::ks).length=vs.length:=by rfl)(h15:(some k::ks).length<=15:=by left):SE X (.Dict (some k::ks) vs pos) (BS trs):=⟨z9 h.h hall hl (fun z=>nomatch z) h15⟩
end
end L3
namespace L2
open PySem PySem.Spec PyProof.Rows
section
variable{X:Cx}
def Eg:V->Option Int->Option Int->Hp->VK->Prop:=fun x lo hi H Q=>∃z,x=.str z/\z.length<=sizeLine/\Q (.str (VD z lo hi)) H
def x9:IW X Eg:=by
 intro pins s σ H x v vl vu lo hi sl Q I rx hs pl pu h
 obtain⟨z,rfl,hz,q⟩:=h
 obtain⟨t,rfl⟩:=rx
 show⟨"str",_,F.slot_str_getitem.lookup,typeIs_str _ _ _,?_⟩
 cases pl with
 | none=>
   cases pu with
   | none=>show T8 (l:=none) (u:=none) (st:=none) hs rfl (post_val_or_str ⟨Ry (Vs z _ _) hz,fun t' k=>⟨.str _,H,I.tok _,⟨_,rfl⟩,q⟩⟩)
   | int j u=>show T8 (l:=none) (u:=some (j,u)) (st:=none) hs rfl (post_val_or_str ⟨Ry (Vs z _ _) hz,fun t' k=>⟨.str _,H,I.tok _,⟨_,rfl⟩,q⟩⟩)
 | int i t'=>
   cases pu with
   | none=>show T8 (l:=some (i,t')) (u:=none) (st:=none) hs rfl (post_val_or_str ⟨Ry (Vs z _ _) hz,fun t' k=>⟨.str _,H,I.tok _,⟨_,rfl⟩,q⟩⟩)
   | int j u=>show T8 (l:=some (i,t')) (u:=some (j,u)) (st:=none) hs rfl (post_val_or_str ⟨Ry (Vs z _ _) hz,fun t' k=>⟨.str _,H,I.tok _,⟨_,rfl⟩,q⟩⟩)
end
end L2
namespace L3
open PySem PySem.Spec PyProof.Rows L2
section
variable{X:Cx}{a b c e o:Expr}{es:List Expr}{ta tb tc te:TE}{t:TA}{pos:Pos}
def MH:SX X HS:=⟨CT⟩
end
end L3
namespace PySem
open Sem (wp)
open PyProof.Rows (IsTup IsTupIter)
def gV (tp:Bool)(h:Heap)(it a:Addr)(i:Nat):Prop:=if tp then Ub h it a i else h.IsListIter it a i
def eI (tp:Bool)(h:Heap)(a:Addr)(xs:Array Value):Prop:=if tp then IsTup h a xs else h.IsList a xs
def CS (tp:Bool):String:=if tp then "tuple_iterator" else "list_iterator"
abbrev gH (tp:Bool)(a:Addr):Obj:={cls:=.type (CS tp),data:=.fields #[.ref a,.int 0 0]}
section
variable{tp:Bool}{h h':Heap}{it a:Addr}{i:Nat}{xs:Array Value}
def gV.cn (x:gV tp h it a i)(e:∀o,h.get? it=some o->h'.get? it=some o):gV tp h' it a i:=by
 cases tp
 . show Heap.IsListIter.at (show h.IsListIter it a i from x) e
 . obtain⟨o,ho,r⟩:=(show Ub h it a i from x)
   show(⟨o,e _ ho,r⟩ : Ub h' it a i)
def gV.obj (x:gV tp h it a i):∃o,h.get? it=some o/\∀v,o.data≠.cell v:=by
 cases tp
 . obtain⟨o,ho,_,d⟩:=(show h.IsListIter it a i from x)
   show⟨o,ho,fun v q=>by rw[d]at q;cases q⟩
 . obtain⟨o,ho,_,d⟩:=(show Ub h it a i from x)
   show⟨o,ho,fun v q=>by rw[d]at q;cases q⟩
def eI.cn (x:eI tp h a xs)(e:∀o,h.get? a=some o->h'.get? a=some o):eI tp h' a xs:=by
 cases tp
 . show Heap.IsList.at (show h.IsList a xs from x) e
 . obtain⟨o,ho,r⟩:=(show IsTup h a xs from x)
   show(⟨o,e _ ho,r⟩ : IsTup h' a xs)
def eI.lt (x:eI tp h a xs):a<h.objs.size:=by
 cases tp
 . obtain⟨o,ho,_⟩:=(show h.IsList a xs from x)
   show RD ho
 . show IsTup.lt (show IsTup h a xs from x)
end
section
variable{prog:Program}{w:World}{A:Around}{E:Value->Shared->Prop}{s:Shared}{tp t1 t2:Bool}{it a:Addr}{i:Nat}{xs ys:Array Value}{x y:Value}
def qh {Q:Value->Shared->Prop}(hit:Ub s.heap it a i)(hl:IsTup s.heap a xs)(hx:xs[i]?=some x)(hQ:∀g,Ub g it a (i+1)->Sz it s.heap g->Q x {s with heap:=g}) :
   wpAny (model prog w) A (Se (.ref it)) Q E s:=by
 obtain⟨o,ho,hc,hd⟩:=id hit
 obtain⟨o2,jm,_,n2,hd2⟩:=hl
 unfold Se
 show wpAny_bind (Tt (name:=Rt "__next__") hit.typeIs S4 (wpAny_call_entry S4 hit.typeIs UG ?_ (UM _)))
 change wpAny _ _ (field (.ref it) 0>>=_) _ _ _
 show wpAny_bind (wpAny_field ho hd (x:=.ref a) rfl ?_)
 change wpAny _ _ (if(R6 a==SH)=true then _ else _) _ _ s
 rw[dh (show ¬ ((R6 a==SH)=true)from RV)]
 change wpAny _ _ (field (.ref it) 1>>=_) _ _ _
 show wpAny_bind (wpAny_field ho hd (x:=.int i 0) rfl ?_)
 change wpAny _ _ (seqItems? (.ref a)>>=_) _ _ _
 show wpAny_bind (wpAny_seqItems jm hd2 ?_)
 simp only[Vp,hx]
 show wpAny_bind (wpAny_setField ho hd (by simp) (wpAny_pure ⟨x,U,wpAny_pure (hQ _ ?_ (VB ..))⟩))
 show⟨_,UU _ ho (Wl (Uo hd _)),(Obj.cls_mapFields ..).trans hc,by rw[Uo hd];simp[rawInt]⟩
def ud {Q:Value->Shared->Prop}(hh:A.handled=none)(hit:Ub s.heap it a i)(hl:IsTup s.heap a xs)(hx:xs[i]?=none)
   (hE:∀g e,Heap.ExtBut it s.heap g->(∃o,g.get? e=some o/\o.cls=.type "StopIteration")->E (.ref e) {s with heap:=g}):wpAny (model prog w) A (Se (.ref it)) Q E s:=by
 obtain⟨o,ho,hc,hd⟩:=id hit
 obtain⟨o2,jm,_,n2,hd2⟩:=hl
 unfold Se
 show wpAny_bind (Tt (name:=Rt "__next__") hit.typeIs S4 (wpAny_call_entry S4 hit.typeIs UG ?_ (UM _)))
 change wpAny _ _ (field (.ref it) 0>>=_) _ _ _
 show wpAny_bind (wpAny_field ho hd (x:=.ref a) rfl ?_)
 change wpAny _ _ (if(R6 a==SH)=true then _ else _) _ _ s
 rw[dh (show ¬ ((R6 a==SH)=true)from RV)]
 change wpAny _ _ (field (.ref it) 1>>=_) _ _ _
 show wpAny_bind (wpAny_field ho hd (x:=.int i 0) rfl ?_)
 change wpAny _ _ (seqItems? (.ref a)>>=_) _ _ _
 show wpAny_bind (wpAny_seqItems jm hd2 ?_)
 simp only[Vp,hx]
 show wpAny_bind (wpAny_rule (wpAny_bind (wpAny_setField ho hd (by simp) ?_)))
 change wpAny _ _ (newExc (.type "StopIteration") []>>=_) _ _ _
 show wpAny_bind ?_
 simp only[newExc,newTuple]
 show wpAny_bind (wpAny_newObj_type ?_ (by size_fits))
 show wpAny_bind (m:=firstArgMember _ _) (wpAny_of_eq (a:=SH) (by first|rfl|(simp only[firstArgMember];rfl)) ?_)
 show wpAny_newObj_type ?_ (by size_fits)
 simp only[raiseNew]
 show wpAny_bind (wpAny_handled ?_)
 first|rw[show A.in1.handled=none from hh]|rw[hh]
 show wpAny_bind (wpAny_pure (wpAny_throw ?_))
 show hE _ _ (((VB ..).extBut.push _).push _) ⟨_,RK _ rfl,U⟩
def iq {Q:Value->Shared->Prop}(hit:gV tp s.heap it a i)(hl:eI tp s.heap a xs)(hx:xs[i]?=some x)(hQ:∀g,gV tp g it a (i+1)->Sz it s.heap g->Q x {s with heap:=g}) :
   wpAny (model prog w) A (Se (.ref it)) Q E s:=by
 cases tp
 . show wpAny_nextOf_list_item (show s.heap.IsListIter it a i from hit) (show s.heap.IsList a xs from hl) hx hQ
 . show qh (show Ub s.heap it a i from hit) (show IsTup s.heap a xs from hl) hx hQ
def mw {Q:Value->Shared->Prop}(hh:A.handled=none)(hit:gV tp s.heap it a i)(hl:eI tp s.heap a xs)(hx:xs[i]?=none)
   (hE:∀g e,Heap.ExtBut it s.heap g->(∃o,g.get? e=some o/\o.cls=.type "StopIteration")->E (.ref e) {s with heap:=g}):wpAny (model prog w) A (Se (.ref it)) Q E s:=by
 cases tp
 . show wpAny_nextOf_list_end hh (show s.heap.IsListIter it a i from hit) (show s.heap.IsList a xs from hl) hx hE
 . show ud hh (show Ub s.heap it a i from hit) (show IsTup s.heap a xs from hl) hx hE
structure Z2 (t1 t2:Bool)(h:Heap)(n l1 l2:Addr)(i:Nat):Prop where
 z:IsZip h (n+4) (n+2) (n+3) .none
 ti:IsPair h (n+2) (.ref n) (.ref (n+1))
 to:∃a b,IsPair h (n+3) a b
 i1:gV t1 h n l1 i
 i2:gV t2 h (n+1) l2 i
def uS {n l1 l2:Nat}{Q:Value->Shared->Prop}(n1:l1<n)(n2:l2<n)(Z:Z2 t1 t2 s.heap n l1 l2 i)(h1:eI t1 s.heap l1 xs)(h2:eI t2 s.heap l2 ys)(hx:xs[i]?=some x)(hy:ys[i]?=some y)
   (hQ:∀g,IsZip g (n+4) (n+2) (n+3) (rawInt s.heap.objs.size)->IsPair g (n+3) x y->gV t1 g n l1 (i+1)->gV t2 g (n+1) l2 (i+1)->IsPair g s.heap.objs.size x y ->
     (∀c o,c∉([n+4,n+3,n,n+1]:List Addr)->s.heap.get? c=some o->g.get? c=some o)->Q (.ref s.heap.objs.size) {s with heap:=g}) :
   wpAny (model prog w) A (Builtin.«zip.__next__» ⟨[.ref (n+4)],[]⟩) (fun fin s'=>∃v,fin=.done (.ret v)/\Q v s') E s:=by
 obtain⟨zr,ti,⟨a,b,to⟩,j1,j2⟩:=Z
 change wpAny _ _ (field (.ref (n+4)) 2>>=_) _ _ _
 show wpAny_bind (wpAny_field zr rfl (x:=.bool false) rfl ?_)
 change wpAny _ _ (field (.ref (n+4)) 3>>=_) _ _ _
 show wpAny_bind (wpAny_field zr rfl (x:=.ref (n+2)) rfl ?_)
 show wpAny_bind (wpAny_seqItems ti rfl ?_)
 change wpAny _ _ (SQ (.ref (n+4))>>=_) _ _ _
 show wpAny_bind ?_
 unfold SQ
 show wpAny_bind (wpAny_field zr rfl (x:=.none) rfl (wpAny_pure ?_))
 simp only[if_true]
 show wpAny_bind (wpAny_rule ?_)
 show wpAny_bind (wpAny_field zr rfl (x:=.ref (n+3)) rfl ?_)
 show wpAny_bind (wpAny_setField_rec zr (by simp) fun g1 B3 e1=>?_)
 replace B3:IsZip g1 (n+4) (n+2) (n+3) .ellipsis:=B3
 show wpAny_bind ?_
 simp only[List.zipIdx_cons,List.zipIdx_nil,UT,List.forIn_nil]
 show wpAny_bind (wpAny_bind (wpAny_onRaise ?_))
 change wpAny _ _ (Se (.ref n)>>=_) _ _ _
 show wpAny_bind (iq (j1.cn fun o e=>e1.extBut _ _ (show @Ne Nat _ _ by lia) e) (h1.cn fun o e=>e1.extBut _ _ (show @Ne Nat _ _ by lia) e) hx fun g2 k1 e2=>wpAny_pure ?_)
 have Iu:IsPair g2 (n+3) a b:=e2.extBut _ _ (show @Ne Nat _ _ by lia) (e1.extBut _ _ (show @Ne Nat _ _ by lia) to)
 show wpAny_bind (wpAny_seqItems Iu rfl ?_)
 show wpAny_bind (wpAny_updateSeq_pair Iu fun g3 t3 e3=>?_)
 replace t3:IsPair g3 (n+3) x b:=t3
 show wpAny_bind (wpAny_letGo (wpAny_pure ?_))
 have c3:∀d o,d≠n+4->d≠n+3->d≠n->s.heap.get? d=some o->g3.get? d=some o:=fun d o d1 d2 d3 e=>e3.extBut _ _ d2 (e2.extBut _ _ d3 (e1.extBut _ _ d1 e))
 show wpAny_bind (wpAny_bind (wpAny_onRaise ?_))
 change wpAny _ _ (Se (.ref (n+1))>>=_) _ _ _
 show wpAny_bind (iq (j2.cn fun o e=>c3 _ o (show @Ne Nat _ _ by lia) (show @Ne Nat _ _ by lia) (show @Ne Nat _ _ by lia) e) (h2.cn fun o e=>c3 _ o (show @Ne Nat _ _ by lia) (show @Ne Nat _ _ by lia) (show @Ne Nat _ _ by lia) e) hy fun g4 k2 e4=>wpAny_pure ?_)
 have t4:IsPair g4 (n+3) x b:=e4.extBut _ _ (show @Ne Nat _ _ by lia) t3
 show wpAny_bind (wpAny_seqItems t4 rfl ?_)
 show wpAny_bind (wpAny_updateSeq_pair t4 fun g5 t5 e5=>?_)
 replace t5:IsPair g5 (n+3) x y:=t5
 show wpAny_bind (wpAny_letGo (wpAny_pure (wpAny_pure ?_)))
 show wpAny_bind (wpAny_seqItems t5 rfl ?_)
 show wpAny_bind (wpAny_newTuple ?_)
 have sz:g5.objs.size=s.heap.objs.size:=by rw[e5.1,e4.1,e3.1,e2.1,e1.1]
 have Ny:IsZip g5 (n+4) (n+2) (n+3) .ellipsis:=e5.extBut _ _ (show @Ne Nat _ _ by lia) (e4.extBut _ _ (show @Ne Nat _ _ by lia) (e3.extBut _ _ (show @Ne Nat _ _ by lia) (e2.extBut _ _ (show @Ne Nat _ _ by lia) B3)))
 have c5:∀d o,d≠n+4->d≠n+3->d≠n->d≠n+1->s.heap.get? d=some o->g5.get? d=some o:=fun d o d1 d2 d3 d4 e=>e5.extBut _ _ d2 (e4.extBut _ _ d4 (c3 d o d1 d2 d3 e))
 have m1:gV t1 g5 n l1 (i+1):=k1.cn fun o e=>e5.extBut _ _ (show @Ne Nat _ _ by lia) (e4.extBut _ _ (show @Ne Nat _ _ by lia) (e3.extBut _ _ (show @Ne Nat _ _ by lia) e))
 have m2:gV t2 g5 (n+1) l2 (i+1):=k2.cn fun o e=>e5.extBut _ _ (show @Ne Nat _ _ by lia) e
 have Nv:n+4<g5.objs.size:=RD Ny
 change wpAny _ _ (Uj (.ref (n+4)) (.ref g5.objs.size)>>=_) _ _ _
 show wpAny_bind ?_
 unfold Uj
 have QN:IsZip (g5.push {cls:=.type "tuple",data:=.seq #[x,y]}) (n+4) (n+2) (n+3) .ellipsis:=Rr _ Ny
 show wpAny_bind (wpAny_setField_rec QN (by simp) fun g9 LJ e9=>?_)
 replace LJ:IsZip g9 (n+4) (n+2) (n+3) (rawInt g5.objs.size):=LJ
 show wpAny_setField_rec LJ (by simp) fun gA Jt eA=>?_
 replace Jt:IsZip gA (n+4) (n+2) (n+3) (rawInt g5.objs.size):=Jt
 have up:∀d o,d≠n+4->g5.get? d=some o->gA.get? d=some o:=fun d o d1 e=>eA.extBut _ _ d1 (e9.extBut _ _ d1 (Rr _ e))
 have tA:IsPair gA g5.objs.size x y:=eA.extBut _ _ (Tg Nv) (e9.extBut _ _ (Tg Nv) (RK _ rfl))
 rw[sz]at Jt tA
 show wpAny_pure ⟨_,U,?_⟩
 change Q (.ref g5.objs.size) _
 rw[sz]
 show hQ gA Jt (up _ _ (show @Ne Nat _ _ by lia) t5) (m1.cn fun o e=>up _ o (show @Ne Nat _ _ by lia) e) (m2.cn fun o e=>up _ o (show @Ne Nat _ _ by lia) e) tA fun d o hd e=>?_
 simp only[Sh,R4,or_false,not_or]at hd
 show up d o hd.1 (c5 d o hd.1 hd.2.1 hd.2.2.1 hd.2.2.2 e)
def yv {n l1 l2:Nat}{Q:Fin->Shared->Prop}(hh:A.handled=none)(n1:l1<n)(n2:l2<n)(Z:Z2 t1 t2 s.heap n l1 l2 i)(h1:eI t1 s.heap l1 xs)(h2:eI t2 s.heap l2 ys)(hx:xs[i]?=none\/ys[i]?=none)
   (hE:∀g e,(∀c o,c∉([n+4,n+3,n,n+1]:List Addr)->s.heap.get? c=some o->g.get? c=some o)->(∃o,g.get? e=some o/\o.cls=.type "StopIteration")->E (.ref e) {s with heap:=g}) :
   wpAny (model prog w) A (Builtin.«zip.__next__» ⟨[.ref (n+4)],[]⟩) Q E s:=by
 obtain⟨zr,ti,⟨a,b,to⟩,j1,j2⟩:=Z
 change wpAny _ _ (field (.ref (n+4)) 2>>=_) _ _ _
 show wpAny_bind (wpAny_field zr rfl (x:=.bool false) rfl ?_)
 change wpAny _ _ (field (.ref (n+4)) 3>>=_) _ _ _
 show wpAny_bind (wpAny_field zr rfl (x:=.ref (n+2)) rfl ?_)
 show wpAny_bind (wpAny_seqItems ti rfl ?_)
 change wpAny _ _ (SQ (.ref (n+4))>>=_) _ _ _
 show wpAny_bind ?_
 unfold SQ
 show wpAny_bind (wpAny_field zr rfl (x:=.none) rfl (wpAny_pure ?_))
 simp only[if_true]
 show wpAny_bind (wpAny_rule ?_)
 show wpAny_bind (wpAny_field zr rfl (x:=.ref (n+3)) rfl ?_)
 show wpAny_bind (wpAny_setField_rec zr (by simp) fun g1 B3 e1=>?_)
 replace B3:IsZip g1 (n+4) (n+2) (n+3) .ellipsis:=B3
 show wpAny_bind ?_
 simp only[List.zipIdx_cons,List.zipIdx_nil,UT,List.forIn_nil]
 show wpAny_bind (wpAny_bind (wpAny_onRaise ?_))
 change wpAny _ _ (Se (.ref n)>>=_) _ _ _
 cases q:xs[i]? with
 | none=>
   show wpAny_bind (mw hh (j1.cn fun o e=>e1.extBut _ _ (show @Ne Nat _ _ by lia) e) (h1.cn fun o e=>e1.extBut _ _ (show @Ne Nat _ _ by lia) e) q fun g2 e e2 he=>?_)
   obtain⟨oe,CI,Gd⟩:=he
   have Nw:IsZip g2 (n+4) (n+2) (n+3) .ellipsis:=e2 _ _ (show @Ne Nat _ _ by lia) B3
   have Ku:e≠n+4:=fun q=>by subst q;rw[Nw]at CI;cases CI;simp at Gd
   show wpAny_setField_rec Nw (by simp) fun g3 y e3=>hE g3 e (fun d o hd q=>?_) ⟨oe,e3.extBut _ _ Ku CI,Gd⟩
   simp only[Sh,R4,or_false,not_or]at hd
   show e3.extBut _ _ hd.1 (e2 _ _ hd.2.2.1 (e1.extBut _ _ hd.1 q))
 | some x=>
   have hy:ys[i]?=none:=hx.resolve_left (by rw[q];show fun z=>nomatch z)
   show wpAny_bind (iq (j1.cn fun o e=>e1.extBut _ _ (show @Ne Nat _ _ by lia) e) (h1.cn fun o e=>e1.extBut _ _ (show @Ne Nat _ _ by lia) e) q fun g2 k1 e2=>wpAny_pure ?_)
   have Iu:IsPair g2 (n+3) a b:=e2.extBut _ _ (show @Ne Nat _ _ by lia) (e1.extBut _ _ (show @Ne Nat _ _ by lia) to)
   show wpAny_bind (wpAny_seqItems Iu rfl ?_)
   show wpAny_bind (wpAny_updateSeq_pair Iu fun g3 t3 e3=>?_)
   show wpAny_bind (wpAny_letGo (wpAny_pure ?_))
   have c3:∀d o,d≠n+4->d≠n+3->d≠n->s.heap.get? d=some o->g3.get? d=some o:=fun d o d1 d2 d3 e=>e3.extBut _ _ d2 (e2.extBut _ _ d3 (e1.extBut _ _ d1 e))
   show wpAny_bind (wpAny_bind (wpAny_onRaise ?_))
   change wpAny _ _ (Se (.ref (n+1))>>=_) _ _ _
   show wpAny_bind (mw hh (j2.cn fun o e=>c3 _ o (show @Ne Nat _ _ by lia) (show @Ne Nat _ _ by lia) (show @Ne Nat _ _ by lia) e) (h2.cn fun o e=>c3 _ o (show @Ne Nat _ _ by lia) (show @Ne Nat _ _ by lia) (show @Ne Nat _ _ by lia) e) hy fun g4 e e4 he=>?_)
   obtain⟨oe,CI,Gd⟩:=he
   have Nx:IsZip g4 (n+4) (n+2) (n+3) .ellipsis:=e4 _ _ (show @Ne Nat _ _ by lia) (e3.extBut _ _ (show @Ne Nat _ _ by lia) (e2.extBut _ _ (show @Ne Nat _ _ by lia) B3))
   have Ku:e≠n+4:=fun q=>by subst q;rw[Nx]at CI;cases CI;simp at Gd
   show wpAny_setField_rec Nx (by simp) fun g5 y e5=>hE g5 e (fun d o hd q=>?_) ⟨oe,e5.extBut _ _ Ku CI,Gd⟩
   simp only[Sh,R4,or_false,not_or]at hd
   show e5.extBut _ _ hd.1 (e4 _ _ hd.2.2.2 (c3 d o hd.1 hd.2.1 hd.2.2.1 q))
end
abbrev yu (t1 t2:Bool)(h:Heap)(l1 l2:Addr):Heap:=(h.push (gH t1 l1)).push (gH t2 l2)
abbrev Fq (t1 t2:Bool)(h:Heap)(l1 l2:Addr):Heap:=(((yu t1 t2 h l1 l2).push {cls:=.type "tuple",data:=.seq #[.ref h.objs.size,.ref (h.objs.size+1)]}).push {cls:=.type "tuple",data:=.seq #[.none,.none]}).push
 {cls:=.type "zip",data:=.fields #[.none,.bool false,.bool false,.ref (h.objs.size+2),.ref (h.objs.size+3)]}
def Bg {prog:Program}{w:World}{A:Around}{E:Value->Shared->Prop}{s:Shared}{tp:Bool}{a:Addr}{xs:Array Value}{Q:Value->Shared->Prop}(hl:eI tp s.heap a xs)(hQ:Q (.ref s.heap.objs.size) {s with heap:=s.heap.push (gH tp a)}):wpAny (model prog w) A (pyIter (.ref a)) Q E s:=by
 cases tp
 . show UJ (show s.heap.IsList a xs from hl) hQ
 . show PyProof.Rows.iter_tuple (show IsTup s.heap a xs from hl) hQ
def qf (t1 t2:Bool)(l1 l2:Addr)(xs ys:Array Value) :
   Meets (Builtin.«zip.__new__» ⟨[.type "zip",.ref l1,.ref l2],[]⟩) (fun z R s=>eI t1 s.heap l1 xs/\eI t2 s.heap l2 ys/\R (.ok (.ret (.ref (s.heap.objs.size+4)))) {s with heap:=Fq t1 t2 s.heap l1 l2}):=
 .of_wp fun prog w A R s h=>by
   obtain⟨hp,g,d,tk,os⟩:=s;obtain⟨q1,q2,h⟩:=h
   have Pr:=sub_zip
   have L1:eI t1 (Shared.heap ⟨hp,g,d,tk,os⟩) l1 xs:=q1
   have L2:eI t2 (Shared.heap ⟨hp.push (gH t1 l1),g,d,tk,os⟩) l2 ys:=eI.cn q2 fun o e=>Rr _ e
   wp_walk using Bg L1,Bg L2
   show⟨_,U,?_⟩
   simp only[Tr]at h ⊢
   show h
def sW {prog:Program}{w:World}{A:Around}{E:Value->Shared->Prop}{s:Shared}{t1 t2:Bool}{l1 l2:Addr}{xs ys:Array Value}{Q:Value->Shared->Prop}(q1:eI t1 s.heap l1 xs)(q2:eI t2 s.heap l2 ys)
   (h:∀g,Z2 t1 t2 g s.heap.objs.size l1 l2 0->(∀c o,s.heap.get? c=some o->g.get? c=some o)->Q (.ref (s.heap.objs.size+4)) {s with heap:=g}) :
   wpAny (model prog w) A (call (.type "zip") [.ref l1,.ref l2]) Q E s:=by
 show callType_new F.called_zip (by left) (F.typeCall_zip_2 _ _) (F.newCall_zip_2 _ _) (fun obj=>F.args_object_init_3 obj _ _) F.entry_zip_new (qf t1 t2 l1 l2 xs ys) ⟨q1,q2,?_⟩
 have sz:∀(hh:Heap) (o:Obj),(hh.push o).objs.size=hh.objs.size+1:=fun hh o=>Tr hh o
 have e1:(yu t1 t2 s.heap l1 l2).objs.size=s.heap.objs.size+2:=by rw[sz,sz]
 have g4:(Fq t1 t2 s.heap l1 l2).get? (s.heap.objs.size+4)=some {cls:=.type "zip",data:=.fields #[.none,.bool false,.bool false,.ref (s.heap.objs.size+2),.ref (s.heap.objs.size+3)]}:=by
   have:=RK (((yu t1 t2 s.heap l1 l2).push {cls:=.type "tuple",data:=.seq #[.ref s.heap.objs.size,.ref (s.heap.objs.size+1)]}).push {cls:=.type "tuple",data:=.seq #[.none,.none]}) (o:={cls:=.type "zip",data:=.fields #[.none,.bool false,.bool false,.ref (s.heap.objs.size+2),.ref (s.heap.objs.size+3)]}) rfl
   rw[sz,sz,e1]at this
   show this
 have g3:IsPair (Fq t1 t2 s.heap l1 l2) (s.heap.objs.size+3) .none .none:=by
   have:=RK ((yu t1 t2 s.heap l1 l2).push {cls:=.type "tuple",data:=.seq #[.ref s.heap.objs.size,.ref (s.heap.objs.size+1)]}) (o:={cls:=.type "tuple",data:=.seq #[.none,.none]}) rfl
   rw[sz,e1]at this
   show Rr _ this
 have g2:IsPair (Fq t1 t2 s.heap l1 l2) (s.heap.objs.size+2) (.ref s.heap.objs.size) (.ref (s.heap.objs.size+1)):=by
   have:=RK (yu t1 t2 s.heap l1 l2) (o:={cls:=.type "tuple",data:=.seq #[.ref s.heap.objs.size,.ref (s.heap.objs.size+1)]}) rfl
   rw[e1]at this
   show Rr _ (Rr _ this)
 have free:∀(tp:Bool) (a:Addr),(gH tp a).isFreed=false:=fun tp a=>rfl
 have g1:(Fq t1 t2 s.heap l1 l2).get? (s.heap.objs.size+1)=some (gH t2 l2):=by
   have:=RK (s.heap.push (gH t1 l1)) (o:=gH t2 l2) (free _ _)
   rw[sz]at this
   show Rr _ (Rr _ (Rr _ this))
 have g0:(Fq t1 t2 s.heap l1 l2).get? s.heap.objs.size=some (gH t1 l1):=
   Rr _ (Rr _ (Rr _ (Rr _ (RK _ (free _ _)))))
 have mk:∀(tp:Bool) (b a:Addr) (hh:Heap),hh.get? b=some (gH tp a)->gV tp hh b a 0:=fun tp b a hh e=>by
   cases tp
   . show(⟨_,e,U,U⟩ : hh.IsListIter b a 0)
   . show(⟨_,e,U,U⟩ : Ub hh b a 0)
 change _/\_
 show⟨⟨_,g4,U⟩,h _ ⟨g4,g2,⟨_,_,g3⟩,mk _ _ _ _ g0,mk _ _ _ _ g1⟩ fun c o x=>
   Rr _ (Rr _ (Rr _ (Rr _ (Rr _ x))))⟩
end PySem
namespace L2
open PySem PySem.Spec PyProof.Rows
def Sq (tp:Bool)(K:Ro)(H:Hp)(a:Addr)(xs:List V):Prop:=if tp then bS K H a xs else aH K H a xs
section
variable{X:Cx}{pins:List (Addr×Obj)}{σ:St}{H:Hp}{s:Shared}{tp t1 t2:Bool}{a b:Addr}{xs ys:List V}
def Inv.sq (I:Inv X pins σ H s)(h:Sq tp X.K H a xs):∃its:List Value,Vals xs its/\eI tp s.heap a its.toArray/\xs.length<=sizeLine:=by
 cases tp
 . obtain⟨its,r,p,z⟩:=I.list (show aH X.K H a xs from h)
   show⟨its,r,p.isList,z⟩
 . show I.tuple (show bS X.K H a xs from h)
def Inv.yi (I:Inv X pins σ H s)(h:Sq tp X.K H a xs)(h':Sq tp X.K H a ys):xs=ys:=by
 cases tp
 . show I.kK (show aH X.K H a xs from h) h'
 . show I.mD (show bS X.K H a xs from h) h'
def B7 (t1 t2:Bool)(K:Ro)(a b:Addr):It:=
 ⟨fun i H=>∃xs ys x y,Sq t1 K H a xs/\Sq t2 K H b ys/\xs[i]?=some x/\ys[i]?=some y,
  fun i H v H'=>∃p x y,H p=none/\v=.ref p/\H'=upd H p (.tup [x,y])/\∀xs ys,Sq t1 K H a xs->Sq t2 K H b ys->xs[i]?=some x/\ys[i]?=some y,
  fun i H=>∃xs ys,Sq t1 K H a xs/\Sq t2 K H b ys/\(xs.length<=i\/ys.length<=i)⟩
def uQ {P:Program}{w:World}{K:Ro}{elts:List Expr}{x1:Nat}{q:Pos}{n:Nat}{a b:Nat}(n1:a<n)(n2:b<n) :
   Turn P w K (.Tuple elts x1 q) (B7 t1 t2 K a b) [n+4,n+2,n+3,n,n+1] (n+4) (fun i h=>Z2 t1 t2 h n a b i) where
 mem:=by simp
 obj:=fun i h Z c hc=>by
   obtain⟨z,ti,⟨x,y,to⟩,i1,i2⟩:=Z
   simp only[Sh,R4,or_false]at hc
   rcases hc with rfl|rfl|rfl|rfl|rfl
   . show⟨_,z,fun v q=>nomatch q⟩
   . show⟨_,ti,fun v q=>nomatch q⟩
   . show⟨_,to,fun v q=>nomatch q⟩
   . show i1.obj
   . show i2.obj
 keep:=fun i h h' Z k=>by
   obtain⟨z,ti,⟨x,y,to⟩,i1,i2⟩:=Z
   show⟨k _ (by simp) _ z,k _ (by simp) _ ti,⟨x,y,k _ (by simp) _ to⟩,i1.cn fun o e=>k _ (by simp) o e,i2.cn fun o e=>k _ (by simp) o e⟩
 item:=by
   intro X hP hw hK hc i pins s σ H E I hf Z hg
   subst hP hw hK
   obtain⟨xs,ys,x,y,q1,q2,hx,hy⟩:=hg
   obtain⟨vY,r1,p1,_⟩:=I.sq q1
   obtain⟨tX,r2,p2,_⟩:=I.sq q2
   obtain⟨u,hu,ru⟩:=r1.get hx
   obtain⟨v,hv,rv⟩:=r2.get hy
   have hT:s.TypeIs (.ref (n+4)) "zip":=⟨_,Z.z,rfl⟩
   unfold pyNext
   show wpAny_bind (wpAny_attempt (Tt (name:=Rt "__next__") hT T5 (wpAny_call_entry T5 hT VO
     (uS n1 n2 Z p1 p2 (x:=u) (y:=v) (by simpa using hu) (by simpa using hv) fun g a1 a2 a3 a4 a5 hk=>wpAny_pure ?_) (VI _))))
   show⟨_,U,wpAny_letOwnedTupleGo_zip (s:={s with heap:=g}) a1 fun g2 z2 e2=>?_⟩
   have hN:H s.heap.objs.size=none:=I.hok.fresh (Rz _)
   have MN:n+4<s.heap.objs.size:=RD Z.z
   have kk:∀c o,c∉([n+4,n+3,n,n+1]:List Addr)->s.heap.get? c=some o->g2.get? c=some o:=fun c o pA e=>
     e2.extBut _ _ (fun z=>pA (by rw[z];simp)) (hk c o pA e)
   have OK:IsPair g2 s.heap.objs.size u v:=e2.extBut _ _ (Tg MN) a5
   have I1:Inv X pins σ (upd H s.heap.objs.size (.tup [x,y])) {s with heap:=g2,toks:=s.toks}:=I.many (ch:=[n+4,n+3,n,n+1]) (fun c pA=>hf c (by simp only[Sh,R4,or_false]at pA ⊢;rcases pA with r|r|r|r<;>simp[r])) kk (Rz _)
     ⟨by change 2<=sizeLine;decide,[u,v],.cons ru (.cons rv .nil),_,OK,rfl,_,rfl⟩
   show⟨.ref s.heap.objs.size,_,I1,U,⟨_,x,y,hN,U,U,fun EV Rm w1 w2=>?_⟩,?_,fun c pA=>?_⟩
   . rw[I.yi w1 q1,I.yi w2 q2];show⟨hx,hy⟩
   . show⟨z2,e2.extBut _ _ (show @Ne Nat _ _ by lia) (hk _ _ (by simp only[Sh,R4,or_false,not_or];show⟨show @Ne Nat _ _ by lia,show @Ne Nat _ _ by lia,show @Ne Nat _ _ by lia,show @Ne Nat _ _ by lia⟩) Z.ti),⟨_,_,e2.extBut _ _ (show @Ne Nat _ _ by lia) a2⟩,a3.cn fun o e=>e2.extBut _ _ (show @Ne Nat _ _ by lia) e,a4.cn fun o e=>e2.extBut _ _ (show @Ne Nat _ _ by lia) e⟩
   . have lt:c<s.heap.objs.size:=by
       have:c<=n+4:=by
         simp only[Sh,R4,or_false]at pA
         have:=pA
         have h2 : @Eq Nat c (n+4) \/ @Eq Nat c (n+2) \/ @Eq Nat c (n+3) \/ @Eq Nat c n \/ @Eq Nat c (n+1):=pA
         change @LE.le Nat _ c (n+4)
         lia
       show Tv this MN
     rw[ah (R1 lt)]
     show(hf c pA).1
 done:=by
   intro X hP hw hK hc i pins s σ H E I hf Z hg
   subst hP hw hK
   obtain⟨xs,ys,q1,q2,Gj⟩:=hg
   obtain⟨vY,r1,p1,_⟩:=I.sq q1
   obtain⟨tX,r2,p2,_⟩:=I.sq q2
   have l1:=r1.length
   have l2:=r2.length
   have hT:s.TypeIs (.ref (n+4)) "zip":=⟨_,Z.z,rfl⟩
   unfold pyNext
   show wpAny_bind (wpAny_attempt (Tt (name:=Rt "__next__") hT T5 (wpAny_call_entry T5 hT VO
     (yv (I.ok.hd hc) n1 n2 Z p1 p2 ?_ fun g e hk he=>?_) (VI _))))
   . rcases Gj with q|q
     . show .inl (by simp;lia)
     . show .inr (by simp;lia)
   . obtain⟨o,ho,ng⟩:=he
     show wpAny_bind (wpAny_isInstance (T:="StopIteration") (b:=true) ⟨o,ho,ng⟩ isSubtype_stop (wpAny_pure ⟨U,?_⟩))
     show I.Bj (t':=s.toks) (ch:=[n+4,n+3,n,n+1]) (fun c pA=>hf c (by simp only[Sh,R4,or_false]at pA ⊢;rcases pA with r|r|r|r<;>simp[r])) hk
 self:=fun t t t t t Z h=>wpAny_pyIter_zip Z.z h
def Bf (t1 t2:Bool)(K:Ro)(ta:TA):TI:=fun σ H R=>ta σ H fun vs H1=>∃a b,vs=[.ref a,.ref b]/\(∃xs,Sq t1 K H1 a xs)/\(∃ys,Sq t2 K H1 b ys)/\R (B7 t1 t2 K a b) H1
def Ai {e f:Expr}{ta:TA}{p pos q:Pos}{elts:List Expr}{x1:Nat}(hg:Gl X "zip")(hm:X.mg "zip"=none)(ha:PA X [e,f] ta)(hs:starEach [e,f] X.env=[(false,eval e X.env),(false,eval f X.env)]:=by rfl)(hs2:starEach [f] X.env=[(false,eval f X.env)]:=by rfl)
   (hb:SJ "zip"=some (.type "zip"):=by first|rfl|decide +kernel):PI X (.Tuple elts x1 q) (.Call (.Name "zip" p) [e,f] [] pos) (Bf t1 t2 X.K ta):=by
 intro pins s σ H R I h
 show Call_ (fF I hg hm hb (SY (bw (ha pos pins s σ H _ I h) fun us s1 h9=>?_) (by rw[hs,hs2]) (by rw[hs2];rfl)))
 obtain⟨vs,H1,I1,r1,w⟩:=h9
 obtain⟨l1,l2,e,⟨xs,q1⟩,⟨ys,q2⟩,w⟩:=w
 subst e
 obtain⟨u,v,rfl,ru,rv⟩:=Vals.two r1
 obtain rfl:u=R6 l1:=ru
 obtain rfl:v=R6 l2:=rv
 obtain⟨vY,Eo,p1,_⟩:=I1.sq q1
 obtain⟨tX,Ra,p2,_⟩:=I1.sq q2
 show sW p1 p2 fun g Z hk=>?_
 show wpAny_pyIter_zip Z.z ?_
 have I2:Inv X pins σ H1 {s1 with heap:=g}:=I1.kept (t':=s1.toks) hk
 show⟨_,_,_,_,H1,U,I2,uQ p1.lt p2.lt,Z,fun c hc=>?_,w⟩
 simp only[Sh,R4,or_false]at hc
 have up:∀k,ef X pins H1 (s1.heap.objs.size+k):=fun k=>I1.oF (UH _ _) (I1.hok.fresh (UH _ _))
 rcases hc with rfl|rfl|rfl|rfl|rfl
 . show up 4
 . show up 2
 . show up 3
 . show up 0
 . show up 1
end
section
variable{K:Ro}{a b:Addr}{xs ys:List V}{g:TG}{t1 t2:Bool}
def l7 {tifs:TT}{tm:TM}{σ0:St}{Z:Hp->Prop}{H:Hp}(hlen:xs.length=ys.length)(Pv:Nat->Hp->Prop)(h0:Pv 0 H)(hl:∀i H,i<=xs.length->Pv i H->Sq t1 K H a xs/\Sq t2 K H b ys)
   (turn:∀i x y p H,xs[i]?=some x->ys[i]?=some y->Pv i H->H p=none->g (.ref p) σ0 (upd H p (.tup [x,y])) fun σ2 H2=>tifs σ2 H2 fun b H3=>
     if b=true then tm σ2 H3 fun H4=>bz σ0 σ2/\∃m',m'<xs.length-i/\(m'=xs.length-(i+1)/\i+1<=xs.length/\Pv (i+1) H4)else bz σ0 σ2/\∃m',m'<xs.length-i/\(m'=xs.length-(i+1)/\i+1<=xs.length/\Pv (i+1) H3))
   (hZ:∀H,Pv xs.length H->Z H):lA (B7 t1 t2 K a b) σ0 g tifs tm Z H:=by
 show jI xs.length Pv h0 (fun i H hi p=>⟨xs,ys,xs[i],ys[i]'(hlen▸hi),(hl i H (S3 hi) p).1,(hl i H (S3 hi) p).2,by simp[hi],by simp[hlen▸hi]⟩) (fun H p=>⟨xs,ys,(hl _ H (Rz _) p).1,(hl _ H (Rz _) p).2,.inl (Rz _)⟩) (fun i H hi p x H' y=>?_) hZ
 obtain⟨pp,x1,y1,hn,rfl,rfl,k⟩:=y
 obtain⟨k1,k2⟩:=k xs ys (hl i H (S3 hi) p).1 (hl i H (S3 hi) p).2
 show turn i x1 y1 pp H k1 k2 p hn
end
end L2
namespace L3
open PySem PySem.Spec PyProof.Rows L2
section
variable{X:Cx}{a b c e o:Expr}{es:List Expr}{ta tb tc te:TE}{t:TA}{pos:Pos}
def PL (t1 t2:Bool){KK:Ro}{p q:Pos}{elts:List Expr}{x1:Nat}(hg:Gl X "zip")(hm:X.mg "zip"=none)(ha:SA X [a,b] t)(hb:bL b:=by first|show nE|show nF|show jO)(hK:X.K=KK:=by first|show br|rfl):SI X (.Tuple elts x1 q) (.Call (.Name "zip" p) [a,b] [] pos) (Bf t1 t2 KK t):=by
 subst hK
 show⟨Ai hg hm ha.h.pa (by rw[(ha.h.ns a [b] rfl).1.h [b] X.env,hb.h [] X.env];rfl) (by rw[hb.h [] X.env];rfl)⟩
end
end L3
namespace L2
open PySem PySem.Spec PyProof.Rows
section
variable{X:Cx}
theorem mG:∀{ts:List Str} {us:List Value},Vals (ts.map V.str) us->∃l:List (Str×Tok),us=strValues l/\l.map (·.1)=ts
 | [],_,.nil=>⟨[],rfl,rfl⟩
 | t::ts,_,.cons h r=>by
   obtain⟨k,rfl⟩:=h
   obtain⟨l,rfl,e⟩:=mG r
   show⟨(t,k)::l,U,by rw[R3,e]⟩
def rJoin (K:Ro):V->List V->Hp->VK->Prop:=fun x xs H Q=>∃(z:Str) (l:Addr) (ts:List Str),x=.str z/\xs=[.ref l]/\aH K H l (ts.map V.str)/\JoinOk z ts=true/\Q (.str (RM z ts)) H
def zu:EX X "str.join" (rJoin X.K):=by
 intro pins s σ H x xs v us Q I rx rs h
 obtain⟨z,l,ts,rfl,rfl,hl,hj,q⟩:=h
 obtain⟨t,rfl⟩:=rx
 obtain⟨u,rfl,ru⟩:=vals1 rs
 obtain rfl:u=R6 l:=ru
 obtain⟨its,r,p,_⟩:=I.list hl
 obtain⟨ps,rfl,e⟩:=mG r
 show SC.join p.isList e hj fun t' k=>⟨.str _,H,I.tok _,⟨_,U⟩,q⟩
def sU:dz X (.type "str") (fun xs H Q=>(∃i:Int,xs=[.int i]/\i.natAbs.log2<1920/\Q (.str (toString i)) H)\/∃y,xs=[.str y]/\Q (.str y) H):=by
 intro pins s σ H xs us Q I r h
 rcases h with h|⟨y,rfl,q⟩
 . show mS pins s σ H xs us Q I r h
 . obtain⟨u,rfl,t,rfl⟩:=vals1 r
   show PySem.P.str_of_str ⟨.str y,H,I,⟨_,U⟩,q⟩
def Dn:gC X (compareOp .In) (fun x y H Q=>∃a b:Str,x=.str a/\y=.str b/\Q (.bl (Vt b a)) H):=by
 intro pins s σ H x y v u Q I rx ry h
 obtain⟨a,b,rfl,rfl,q⟩:=h
 obtain⟨t,rfl⟩:=rx
 obtain⟨t2,rfl⟩:=ry
 show SB.contains ⟨.bl _,H,I,U,q⟩
variable{a:Expr}{ps:List Expr}{t:NK}{te:TE}{pos:Pos}
end
end L2
namespace L3
open PySem PySem.Spec PyProof.Rows L2
section
variable{X:Cx}{a b c e o:Expr}{es:List Expr}{ta tb tc te:TE}{t:TA}{tf:NK}{pos:Pos}
def kZ {KK:Ro}{apos:Pos}(ho:SE X o ta)(ha:SA X [e] t)(hbase:Ss o "join" X.env (eval o X.env)=eval o X.env:=by rfl)(hline:(apos.endLine==pos.line)=true:=by rfl)(hK:X.K=KK:=by first|show br|rfl):SE X (.Call (.Attribute o "join" apos) [e] [] pos) (EI KK "str" (rJoin KK) ta t):=by
 subst hK
 show IZ Ux PySem.F.slot_str_join PySem.F.type_str_join ⟨zu⟩ ho ha hbase hline
def jw:SC X (.type "str") (fun xs H Q=>(∃i:Int,xs=[.int i]/\i.natAbs.log2<1920/\Q (.str (toString i)) H)\/∃y,xs=[.str y]/\Q (.str y) H):=⟨sU⟩
def mL:SC X (.builtin "len") (fun xs H Q=>∃z,xs=[.str z]/\z.length<=sizeLine/\Q (.int z.length) H):=⟨mQ⟩
def wO:SO X (compareOp .In) (fun x y H Q=>∃a b:Str,x=.str a/\y=.str b/\Q (.bl (Vt b a)) H):=⟨Dn⟩
def G1:SO X (binaryOp .RShift) (rI (fun z j=>0<=j) fun i j=>.int (i/2^j.toNat)):=⟨Dv⟩
end
end L3
namespace PySem.StrLaws
open Builtin Builtin.Str
theorem nJ (s sub:Str)(hi limit:Nat):∀(l:List Nat) (st:Array Nat×Nat),st.fst.size<=limit->(forIn l st (occBody s sub hi limit)).run.fst.size<=limit
 | [],_,h=>h
 | a::l,st,h=>by
   rw[UT]
   unfold occBody
   split
   . rename_i hc
     show nJ s sub hi limit l _ ?_
     change(st.fst.push a).size<=limit
     rw[Array.size_push]
     have:=hc.1.1.1
     lia
   . show nJ s sub hi limit l _ h
def zH (x y:Str)(limit:Nat):(occurrences x y 0 x.length limit).length<=limit:=by
 rw[occ_eq]
 have:=nJ x y x.length limit (List.range' 0 (x.length+1-0)) (#[],0) (Sd _)
 simpa using this
def uv (x y:Str):(partsBetween x (occurrences x y 0 x.length (x.length+1)) y.length).length<=x.length+2:=by
 have:=zH x y (x.length+1)
 unfold partsBetween
 simp
 lia
end PySem.StrLaws
namespace L2
open PySem PySem.Spec PyProof.Rows
section
variable{X:Cx}
def xH:V->List V->Hp->VK->Prop:=fun x xs H Q=>∃(z y:Str),x=.str z/\xs=[.str y]/\(y.length==0)=false/\z.length+2<=sizeLine/\(S7 z y).length<=sizeLine/\∀l,H l=none->Q (.ref l) (upd H l (.lst ((S7 z y).map V.str)))
theorem mC:∀(l:List (Str×Tok)),Vals ((l.map (·.1)).map V.str) (strValues l)
 | []=>.nil
 | p::l=>.cons ⟨p.2,rfl⟩ (mC l)
def wq:EX X "str.split" xH:=by
 intro pins s σ H x xs v us Q I rx rs h
 obtain⟨z,y,rfl,rfl,hy,hz,hl,q⟩:=h
 obtain⟨t,rfl⟩:=rx
 obtain⟨u,rfl,ru⟩:=vals1 rs
 obtain⟨t2,rfl⟩:=ru
 have fin:∀(l:List (Str×Tok)) (tk:Nat),l.map (·.1)=S7 z y->EP X pins σ Q (.ref s.heap.objs.size) {s with toks:=tk,heap:=s.heap.push {cls:=.type "list",data:=.seq (strValues l).toArray} }:=fun l tk e=>
   ⟨.ref s.heap.objs.size,_,I.laid (a:=s.heap.objs.size) (o:=.lst ((S7 z y).map V.str)) (t':=tk) (fun w w q=>Rr _ q) (Rz _) ⟨by rw[Rn];show hl,strValues l,0,by rw[← e];show mC l,RK _ rfl⟩,rfl,q _ (I.hok.fresh (Rz _))⟩
 cases h1:(decide (z.length<y.length) || decide (VL z<VL y))
 . cases hf:(Vr z y 0 z.length (z.length+1)).isEmpty
   . show Vh T3 (typeIs_str _ _ _) Ut (Ul _ _) (meets_str_split_sep z y t t2 h1 hy hf (by lia) (Ry (StrLaws.uv z y) hz)) ?_
     change wants _ _ _ {s with toks:=_,heap:=s.heap.push {cls:=.type "list",data:=.seq (strsFrom s.toks (Builtin.Str.partsBetween z (Vr z y 0 z.length (z.length+1)) y.length)).toArray} }
     rw[strsFrom_eq]
     show fin (numbered s.toks _) _ ((numbered_texts _ _).trans ((dh (ne_true_of_eq_false h1)).trans (dh (ne_true_of_eq_false hf))).symm)
   . show Vh T3 (typeIs_str _ _ _) Ut (Ul _ _) (meets_str_split_not_found z y t t2 h1 hy hf) (fin [(z,t)] _ ((dh (ne_true_of_eq_false h1)).trans (dI hf)).symm)
 . show Vh T3 (typeIs_str _ _ _) Ut (Ul _ _) (meets_str_split_cannot_occur z y t t2 h1) (fin [(z,t)] _ (dI h1).symm)
def sS:dz X (.type "int") (fun xs H Q=>∃(x:Str) (n:Int),xs=[.str x]/\VE x=some n/\x.length<=640/\Q (.int n) H):=by
 intro pins s σ H xs us Q I r h
 obtain⟨x,n,rfl,hn,hl,q⟩:=h
 obtain⟨u,rfl,t,rfl⟩:=vals1 r
 show PySem.W.KIN.call_text hn hl ⟨.int n,H,I.tok _,⟨_,U⟩,q⟩
def eG (w:World)(K:Ro)(a:Addr)(kvs:List (Str×V)):Prop:=
 ∃(es:Array TZ) (n:Nat),K.lookup a=some ⟨.type "dict",none,.dict es n,#[]⟩/\PySem.W.KeysLit w.params es.toList/\(a==Th)=false/\Paired (fun(e:TZ) (q:Str×V)=>(∃t,e.key=.str q.1 t)/\RelV q.2 e.val) es.toList kvs
theorem eG.find {w:World}{K:Ro}{a:Addr}{es:List TZ}{kvs:List (Str×V)}(h:Paired (fun(e:TZ) (q:Str×V)=>(∃t,e.key=.str q.1 t)/\RelV q.2 e.val) es kvs)(k:Str) :
   eh (kvs.lookup k) ((es.find? fun e=>TY k e.key).map (·.val)):=by
 induction h with
 | nil=>show RO
 | @cons e q l l' r _ ih=>
   obtain⟨⟨t,ek⟩,rv⟩:=r
   obtain⟨qk,qv⟩:=q
   by_cases hk:k=qk
   . subst hk
     have e1:TY k e.key=true:=by rw[ek];simp[TY]
     rw[List.find?_cons_of_pos (by show e1),List.lookup_cons_self]
     show rv
   . have e1:¬ TY k e.key=true:=by rw[ek];simp[TY];show fun z=>hk (by first|show z|show z.symm)
     rw[List.find?_cons_of_neg (by show e1),Tj,beq_eq_false_iff_ne.mpr hk]
     show ih
def eG.map {X:Cx}{pins:List (Addr×Obj)}{σ:St}{H:Hp}{s:Shared}{a:Addr}{kvs:List (Str×V)}(I:Inv X pins σ H s)(d:eG X.w X.K a kvs):∃f,s.heap.MapOf (strKind X.prog X.w) a f/\(a==Th)=false/\(∀k,eh (kvs.lookup k) (f k))/\∃ob,s.heap.get? a=some ob/\ob.dict=none:=by
 obtain⟨es,n,hl,hk,hs,hp⟩:=d
 show⟨_,PySem.W.mapOf_K (prog:=X.prog) (w:=X.w) (h:=s.heap) I.lM hl hk,hs,fun k=>?_,_,I.lM _ _ hl,U⟩
 have:=eG.find hp k (w:=X.w) (K:=X.K) (a:=a)
 obtain⟨l⟩:=es
 unfold findBy
 rw[List.find?_toArray]
 show this
def Ar:Bool->World->Ro->R2:=fun neg w K x y H Q=>∃k a kvs,x=.str k/\y=.ref a/\eG w K a kvs/\Q (.bl (if neg then !(kvs.lookup k).isSome else(kvs.lookup k).isSome)) H
def mz {a:Option V}{b:Option Value}(h:eh a b):a.isSome=b.isSome:=by
 cases a<;>cases b<;>first|rfl|show h.elim
def Dq:gC X (compareOp .In) (Ar false X.w X.K):=by
 intro pins s σ H x y v u Q I rx ry h
 obtain⟨k,a,kvs,rfl,rfl,d,q⟩:=h
 obtain⟨t,rfl⟩:=rx
 cases ry
 obtain⟨f,hm,hs,hf,_⟩:=d.map I
 show wpAny_in_of (strKind_is X.prog X.w k t) hs hm ⟨.bl _,H,I.tok _,?_,q⟩
 change Ur (f k).isSome=Ur _
 rw[← mz (hf k)]
 rfl
def zW:gC X (compareOp .NotIn) (Ar true X.w X.K):=by
 intro pins s σ H x y v u Q I rx ry h
 obtain⟨k,a,kvs,rfl,rfl,d,q⟩:=h
 obtain⟨t,rfl⟩:=rx
 cases ry
 obtain⟨f,hm,hs,hf,_⟩:=d.map I
 show wpAny_notIn_of (strKind_is X.prog X.w k t) hs hm ⟨.bl _,H,I.tok _,?_,q⟩
 change Ur (!(f k).isSome)=Ur _
 rw[← mz (hf k)]
 rfl
variable{o e f:Expr}{td ty tx:TE}{apos cpos pos:Pos}
def Ng (w:World)(K:Ro)(td ty:TE):TE:=fun σ H Q=>td σ H fun x H1=>ty σ H1 fun y H2=>∃a k v kvs,x=.ref a/\y=.str k/\eG w K a kvs/\kvs.lookup k=some v/\Q v H2
def Hn (ho:PE X o td)(hi:PE X e ty)(hs:u6 e):PE X (.Subscript o e pos) (Ng X.w X.K td ty):=by
 intro pins s σ H Q I h
 show sr PySem.F.slot_dict_getitem.lookup hs (bw (ho pins s σ H _ I h) fun u s1 g9=>?_)
 obtain⟨x,H1,I1,rx,q1⟩:=g9
 show bw (hi pins s1 σ H1 _ I1 q1) fun iv s2 h9=>?_
 obtain⟨y,H2,I2,ry,a,k,v,kvs,ex,ey,d,l,q2⟩:=h9
 subst ex ey
 obtain rfl:u=R6 a:=rx
 obtain⟨t,rfl⟩:=ry
 obtain⟨f,hm,hs,hf,_⟩:=d.map I2
 have hk:=hf k
 rw[l]at hk
 cases e2:f k with
 | none=>rw[e2]at hk;show hk.elim
 | some z=>rw[e2]at hk;show⟨hm.typeIs,wpAny_getItem_of (strKind_is X.prog X.w k t) hm e2 ⟨v,H2,I2.tok _,hk,q2⟩⟩
def IC (w:World)(K:Ro)(td ty:TE):TE:=fun σ H Q=>td σ H fun x H1=>∃a kvs,x=.ref a/\eG w K a kvs/\ty σ H1 fun y H2=>∃k,y=.str k/\Q ((kvs.lookup k).getD .bI) H2
def DL (ho:PE X o td)(he:PE X e ty)(m:M1 X o "get" apos e cpos):PE X (.Call (.Attribute o "get" apos) [e] [] cpos) (IC X.w X.K td ty):=by
 intro pins s σ H Q I h
 show wpAny_Call_method m.base m.few m.line VG T6 V1 (bw (ho pins s σ H _ I h) fun u s1 h9=>?_)
 obtain⟨x,H1,I1,rx,a,kvs,ex,d,q1⟩:=h9
 subst ex
 obtain rfl:u=R6 a:=rx
 obtain⟨f1,hm1,_,_,K9,o1,o2⟩:=d.map I1
 show⟨hm1.typeIs,(fun b z=>by cases z;show⟨K9,o1,o2⟩),?_⟩
 rw[m.trees]
 show Ts rfl (TL (Su (bw (he pins s1 σ H1 _ I1 q1) fun iv s2 g9=>?_)))
 obtain⟨y,H2,I2,ry,k,ek,q2⟩:=g9
 show Tc ?_
 subst ek
 obtain⟨t,rfl⟩:=ry
 obtain⟨f,hm,hs,hf,_⟩:=d.map I2
 show call_meetsIn T6 hm.typeIs VP (PySem.F.args_dict_get_2 _ _) (meets_dict_get (strKind X.prog X.w) a (strKind_is X.prog X.w k t) hs) ⟨_,hm,_,H2,I2.tok _,(hf k).getD (show RelV V.bI SH from rfl),q2⟩
def ID (w:World)(K:Ro)(td ty tx:TE):TE:=fun σ H Q=>td σ H fun x H1=>∃a kvs,x=.ref a/\eG w K a kvs/\ty σ H1 fun y H2=>tx σ H2 fun z H3=>∃k,y=.str k/\Q ((kvs.lookup k).getD z) H3
def DM (ho:PE X o td)(he:PE X e ty)(hf:PE X f tx)(m:M2 X o "get" apos e f cpos):PE X (.Call (.Attribute o "get" apos) [e,f] [] cpos) (ID X.w X.K td ty tx):=by
 intro pins s σ H Q I h
 show wpAny_Call_method m.base m.few m.line VG T6 V1 (bw (ho pins s σ H _ I h) fun u s1 h9=>?_)
 obtain⟨x,H1,I1,rx,a,kvs,ex,d,q1⟩:=h9
 subst ex
 obtain rfl:u=R6 a:=rx
 obtain⟨f1,hm1,_,_,K9,o1,o2⟩:=d.map I1
 show⟨hm1.typeIs,(fun b z=>by cases z;show⟨K9,o1,o2⟩),?_⟩
 rw[m.trees]
 show Ts rfl (TL (Su (bw (he pins s1 σ H1 _ I1 q1) fun iv s2 g9=>?_)))
 obtain⟨y,H2,I2,ry,q2⟩:=g9
 show Su (bw (hf pins s2 σ H2 _ I2 q2) fun fv s3 g9=>?_)
 obtain⟨z,H3,I3,rz,k,ek,q3⟩:=g9
 show Tc ?_
 subst ek
 obtain⟨t,rfl⟩:=ry
 obtain⟨g,hm,hs,hg,_⟩:=d.map I3
 show call_meetsIn T6 hm.typeIs VP (PySem.F.args_dict_get_3 _ _ _) (meets_dict_get_default (strKind X.prog X.w) a (strKind_is X.prog X.w k t) hs _) ⟨_,hm,_,H3,I3.tok _,(hg k).getD rz,q3⟩
end
end L2
namespace L3
open PySem PySem.Spec PyProof.Rows L2
section
variable{X:Cx}{a b c e o f:Expr}{es:List Expr}{ta tb tc te tf:TE}{t:TA}{pos:Pos}
def yj {KK:Ro}{apos:Pos}(ho:SE X o ta)(ha:SA X [e] t)(hbase:Ss o "split" X.env (eval o X.env)=eval o X.env:=by rfl)(hline:(apos.endLine==pos.line)=true:=by rfl)(hK:X.K=KK:=by first|show br|rfl):SE X (.Call (.Attribute o "split" apos) [e] [] pos) (EI KK "str" xH ta t):=by
 subst hK
 show IZ Ux T3 PySem.F.type_str_split ⟨wq⟩ ho ha hbase hline
def Cm:SC X (.type "int") (fun xs H Q=>∃(x:Str) (n:Int),xs=[.str x]/\VE x=some n/\x.length<=640/\Q (.int n) H):=⟨sS⟩
def BJ {p2:Pos}(ha:SE X a ta)(hb:SE X b tb)(hc:SE X c tc):SE X (.Subscript a (.Slice (some b) (some c) none p2) pos) (EM Eg ta (jc tb) (jc tc)):=⟨eP x9 ha.h (d8 hb.h) (d8 hc.h)⟩
def G0 {KK:Ro}{ww:World}(hK:X.K=KK:=by first|show br|rfl)(hw:X.w=ww:=by rfl):SO X (compareOp .In) (Ar false ww KK):=by
 subst hK hw
 show⟨Dq⟩
def C9 {KK:Ro}{ww:World}(hK:X.K=KK:=by first|show br|rfl)(hw:X.w=ww:=by rfl):SO X (compareOp .NotIn) (Ar true ww KK):=by
 subst hK hw
 show⟨zW⟩
def kg {KK:Ro}{ww:World}(ho:SE X a ta)(hi:SE X b tb)(hs:u6 b:=by show fun z z=>rfl)(hK:X.K=KK:=by first|show br|rfl)(hw:X.w=ww:=by rfl):SE X (.Subscript a b pos) (Ng ww KK ta tb):=by
 subst hK hw
 show⟨Hn ho.h hi.h hs⟩
def PY {KK:Ro}{ww:World}{apos:Pos}(ho:SE X o ta)(he:SE X e te)(m:M1 X o "get" apos e pos:=by show⟨rfl,rfl,rfl,rfl⟩)(hK:X.K=KK:=by first|show br|rfl)(hw:X.w=ww:=by rfl):SE X (.Call (.Attribute o "get" apos) [e] [] pos) (IC ww KK ta te):=by
 subst hK hw
 show⟨DL ho.h he.h m⟩
def PZ {KK:Ro}{ww:World}{apos:Pos}(ho:SE X o ta)(he:SE X e te)(hf:SE X f tf)(m:M2 X o "get" apos e f pos:=by show⟨rfl,rfl,rfl,rfl⟩)(hK:X.K=KK:=by first|show br|rfl)(hw:X.w=ww:=by rfl):SE X (.Call (.Attribute o "get" apos) [e,f] [] pos) (ID ww KK ta te tf):=by
 subst hK hw
 show⟨DM ho.h he.h hf.h m⟩
def Ht {KK:Ro}{apos:Pos}(ho:SE X o ta)(hbase:Ss o "pop" X.env (eval o X.env)=eval o X.env:=by rfl)(hline:(apos.endLine==pos.line)=true:=by rfl)(hK:X.K=KK:=by first|show br|rfl):SE X (.Call (.Attribute o "pop" apos) [] [] pos) (Iy KK "list" HV ta):=by
 subst hK
 show⟨DH Us V2 V0 C7 ho.h hbase hline⟩
def u7 {KK:Ro}{x:Str}{AN:Pos}(ha:SE X a ta)(hv:SE X e te)(hK:X.K=KK:=by first|show br|rfl):SS X (.AugAssign (.Attribute a x AN) .Add e pos) (rR KK ta te HN x):=by
 subst hK
 show⟨uA ha.h hv.h CN⟩
def A4 {x:Expr}{op:UnaryOp}{p:Pos}(ho:SE X a ta)(hi:SE X (.UnaryOp op x p) tb):SG X (.Subscript a (.UnaryOp op x p) pos) (za ta tb rQ):=⟨qt ho.h hi.h set_list (fun z=>rfl)⟩
end
end L3
namespace HT
open PySem PySem.Spec PyProof.Rows
end HT
namespace L2
open PySem PySem.Spec PyProof.Rows
end L2
namespace L3
open PySem PySem.Spec PyProof.Rows L2
end L3
namespace L2
open PySem PySem.Spec PyProof.Rows
section
variable{M8:Model}{A:Around}{E:Value->Shared->Prop}{s:Shared}{B:Heap}{e:Addr}{cls a0 fl:Value}
structure Way (B:Heap)(l:List Env)(e:Addr)(cls a0 fl:Value)(h:Heap):Prop where
 st:B.StaysIn h
 no:B.get? e=none
 fr:h.FunFrames B l
 tr:h.TracedAtW B e cls a0 fl
def gQ {l:List Env}{o:Option Addr}{Q:Unit->Shared->Prop}(x:Way B l e cls a0 fl s.heap)
   (h:∀h',Way B l e cls a0 (o.elim SH fun f=>rawInt f) h'->s.heap.UpToSlots h'->Q () {s with heap:=h'}):wpAny M8 A (setFlight (.ref e) o) Q E s:=by
 obtain⟨x1,x2,x3,oe,vs,T,oT,ts,ze,ng,zd,z1,A9,Fd,zT,B2,z3⟩:=x
 have big:3<ts.size:=(Array.getElem?_eq_some_iff.mp z3).1
 have zY:∀b,b≠T->(s.heap.update T (UC (·.setIfInBounds 3 (o.elim SH fun f=>rawInt f)))).get? b=s.heap.get? b:=fun b nb=>T7 _ _ nb.symm
 have rec_:∀b ob,s.heap.get? b=some ob->(∀vs,ob.data≠.fields vs)->b≠T:=fun b ob hb nf z=>by
   subst z
   rw[zT]at hb
   cases hb
   show nf ts B2
 have ij:∀b ob,B.get? b=some ob->b≠T:=fun b ob hb z=>by
   subst z
   rw[A9]at hb
   cases hb
 unfold setFlight
 show wpAny_bind (wpAny_field ze zd z1 ?_)
 rw[dI (by simp)]
 show wpAny_setField zT B2 big (h _ ⟨fun b ob hb=>?_,x2,x3.of_keeps fun b ob hb nf=>?_,?_⟩ fun b ob hb nf=>?_)
 . rw[zY b (ij b ob hb)];show x1 b ob hb
 . show⟨ob,by rw[zY b (rec_ b ob hb nf)];show hb,U⟩
 . show⟨oe,vs,T,_,_,by rw[zY e Fd.symm];show ze,ng,zd,z1,A9,Fd,UU _ zT (Wl (Uo B2 _)),Uo B2 _,?_⟩
   simp[big]
 . show⟨ob.slots,by rw[zY b (rec_ b ob hb nf)];show hb⟩
def oR {env:Env}{outer:List Env}{L8:Addr}{Q:Unit->Shared->Prop}(hfr:A.frames=some (env::outer))(hf:env.frame=some L8)(x:Way B (env::outer) e cls a0 fl s.heap)
   (h:∀h',Wh B outer e cls a0 h'->s.heap.UpToSlots h'->Q () {s with heap:=h'}):wpAny M8 A (leaving env (.ref e)) Q E s:=by
 by_cases hz:fl=rawInt L8
 . subst hz
   unfold leaving
   show wpAny_bind (wpAny_noteFrame_againW hf x.tr (gQ x fun h' w u=>?_))
   show h h' ⟨w.st,w.no,w.fr.2.2,w.tr⟩ u
 . obtain⟨x1,x2,x3,oe,vs,T,oT,ts,ze,⟨ng,h0⟩,zd,z1,A9,Fd,zT,B2,z3⟩:=x
   subst ng
   have zY:∀b,b≠T->(s.heap.update T (UC (·.setIfInBounds 3 SH))).get? b=s.heap.get? b:=fun b nb=>T7 _ _ nb.symm
   have rec_:∀b ob,s.heap.get? b=some ob->(∀vs,ob.data≠.fields vs)->b≠T:=fun b ob hb nf z=>by
     subst z
     rw[zT]at hb
     cases hb
     show nf ts B2
   have ij:∀b ob,B.get? b=some ob->b≠T:=fun b ob hb z=>by
     subst z
     rw[A9]at hb
     cases hb
   unfold leaving noteFrame
   simp only[hf]
   show wpAny_bind (wpAny_bind (wpAny_field ze zd z1 ?_))
   rw[dI (by simp)]
   show wpAny_bind (wpAny_field zT B2 z3 ?_)
   rw[dh (fun z=>hz (eq_of_beq z))]
   show wpAny_bind (wpAny_setField zT B2 (Array.getElem?_eq_some_iff.mp z3).1 ?_)
   have g1:B.StaysIn (s.heap.update T (UC (·.setIfInBounds 3 SH))):=fun b ob hb=>by rw[zY b (ij b ob hb)];show x1 b ob hb
   have g2:(s.heap.update T (UC (·.setIfInBounds 3 SH))).FunFrames B (env::outer):=x3.of_keeps fun b ob hb nf=>⟨ob,by rw[zY b (rec_ b ob hb nf)];show hb,rfl⟩
   have g3:(s.heap.update T (UC (·.setIfInBounds 3 SH))).get? e=some oe:=by rw[zY e Fd.symm];show ze
   show wpAny_newEntryW hfr g2 hf g3 g1 x2 zd (Array.getElem?_eq_some_iff.mp z1).1 h0 fun h' y=>?_
   obtain⟨y1,y2,y3,y4⟩:=y
   show h h' ⟨y1,x2,y2.2.2,y3⟩ fun b ob hb nf=>y4 b ob (by rw[zY b (rec_ b ob hb nf)];show hb) nf
end
def oj (X:Cx)(E:XK):Prop:=∀(ea:Addr) (cls a0 fl:Value) (B:Heap) (H':Hp) (s':Shared),s'.os=X.s₀.os->AllBare s'.gens->Un (dH X.outer) [] X.H₀ H' X.s₀.heap s'.heap->fW X.prog X.w H' s'.heap->X.base.StaysIn B->Way B X.stack ea cls a0 fl s'.heap ->
 (∀b o,X.s₀.heap.get? b=some o->b∉dH X.outer->∃o',B.get? b=some o')->(∀b u,H' b=some u->∃o,B.get? b=some o)->X.s₀.heap.get? ea=none->E cls none H'->X.A.frames=some X.stack->X.xe (.ref ea) s'
section
variable{P:Program}{w:World}{K:Ro}{mg:Str->Option Value}{base:Heap}{N:List Str}{qual:Str}{scope:Scope}{f:Addr}{cd:Value}{A:Around}{outer:List Env}{s:Shared}{H:Hp}{E:XK}
def DD {E':XK}(hE:∀c d H2,E' c d H2->E c d H2):oj (cY (eD P w base) P w K mg base N qual scope f cd A outer s H E) E':=by
 intro ea cls a0 fl B H2 s2 DA kh iy p6 stB way ij oh Bm q hfr
 have vS:(cY (eD P w base) P w K mg base N qual scope f cd A outer s H E).stack=envOfC qual scope s.heap.objs.size f cd::outer:=rfl
 rw[vS]at way hfr
 have Cu:=way.fr
 have iy:Un (dH outer) [] H H2 s.heap s2.heap:=iy
 have ij:∀b o,s.heap.get? b=some o->b∉dH outer->∃o',B.get? b=some o':=ij
 show oR hfr rfl way fun h3 x1 x2=>?_
 show⟨ea,cls,a0,B,H2,U,DA,kh,⟨fun b o hb n hf hx=>?_,fun b o hb n hf hx=>?_,iy.free,fun b o hb hx=>?_,iy.tups,iy.frzs,iy.tbls⟩,eR p6 oh way.st x1.1,stB,x1,ij,oh,Bm,hE _ _ _ q⟩
 . have e2:=iy.keep b o hb n hf hx
   obtain⟨o',iM⟩:=ij b o hb hf
   have e3:=way.st b o' iM
   rw[e2]at e3
   cases e3
   show x1.1 b o iM
 . obtain⟨sl,e1⟩:=iy.slot b o hb n hf hx
   obtain⟨_,o2,jm,hd2⟩:=Cu.mem (show b∈dH (envOfC qual scope s.heap.objs.size f cd::outer)from RC _ hf)
   rw[e1]at jm
   cases jm
   obtain⟨Fj,e3⟩:=x2 b _ e1 hd2
   show⟨Fj,e3⟩
 . by_cases hm:b∈dH outer
   . obtain⟨_,o3,KI,Kr⟩:=Cu.mem (show b∈dH (envOfC qual scope s.heap.objs.size f cd::outer)from RC _ hm)
     obtain⟨Fj,e3⟩:=x2 b _ KI Kr
     show⟨_,e3⟩
   . obtain⟨o',iM⟩:=ij b o hb hm
     show⟨o',x1.1 b o' iM⟩
end
section
variable{X:Cx}{N':List Str}{sc:Scope}{pins:List (Addr×Obj)}{σ:St}{H:Hp}{s:Shared}{fp:List Addr}{Ex:XK}{xe:Value->Shared->Prop}{use:Option (Value->Sem Unit)}{Q':Value->Shared->Prop}{acc:Value}{L8:Addr}
theorem ma {h h' B B':Heap}:∀{l:List Env},(∀b∈dH l,h'.get? b=h.get? b)->(∀b o,B'.get? b=some o->B.get? b=some o)->h.FunFrames B l->h'.FunFrames B' l
 | [],_,_,_=>trivial
 | en::l,k,hb,⟨x1,⟨L8,o,f1,f2,f3,f4⟩,x3⟩=>by
   show⟨x1,⟨L8,o,f1,?_,?_,f4⟩,ma (fun b h=>k b ?_) hb x3⟩
   . cases z:B'.get? L8 with
     | none=>rfl
     | some o=>have:=hb _ _ z;rw[f2]at this;cases this
   . rw[k L8 (List.mem_filterMap.mpr ⟨en,Ru,f1⟩)];show f3
   . obtain⟨e2,h1,h2⟩:=List.mem_filterMap.mp h
     show List.mem_filterMap.mpr ⟨e2,RC _ h1,h2⟩
def s9 (hPA:oj X Ex)(hst:X.stack=X.env::X.outer)(hex:X.ex=[])(hL:X.env.frame=some L8)(hL0:X.s₀.heap.get? L8=none)(I:Inv X pins σ H s)(hf:∀b∈fp,ef X pins H b)
   (hxe:xe=notedBy (model X.prog X.w) X.A (compEnvC sc (cG sc X.env) s.heap.objs.size X.env) fun e s'=>compPost (model X.prog X.w) X.A X.xe use Q' acc s.heap.objs.size (.error e) s') :
   Passes (eD X.prog X.w X.base) (cV X N' sc s H s.heap.objs.size fp xe) Ex:=by
 intro iW σ' H4 s4 e s5 I4 cx
 obtain⟨ea,cls,a0,B,H5,rfl,DA,kh,iy,p6,stB,m6,ij,oh,Bm,q⟩:=cx
 have Jv:Inv (cV X N' sc s H s.heap.objs.size fp xe) [] σ' H4 s4:=I4.nM fun p hp=>nomatch hp
 have IX:Inv X pins σ H4 s4:=hJ I hf Jv
 have m6:Wh B (X.env::X.outer) ea cls a0 s5.heap:=by rw[← hst];show m6
 have iy:Un (dH X.stack) [] H4 H5 s4.heap s5.heap:=iy
 have ij:∀b o,s4.heap.get? b=some o->b∉dH X.stack->∃o',B.get? b=some o':=ij
 have hfr:X.A.frames=some (X.env::X.outer):=by rw[← hst];show I.ok.frames
 change xe (.ref ea) s5
 rw[hxe]
 change wpAny (model X.prog X.w) X.A (noteFrame (.ref ea) X.env) _ _ s5
 show wpAny_looks_onW hfr hL m6 fun h6 held ups=>?_
 obtain⟨m,hn⟩:=mW Jv
 have Ml:H4 s.heap.objs.size=none:=Jv.free
 have nC:s.heap.objs.size∉dH X.stack:=fun hm=>by
   obtain⟨_,o,ho,_⟩:=I.stack.mem hm
   show au (RD ho) (SR _)
 have nD:∀b:Addr,b∉([]:List Addr):=fun b z=>nomatch z
 obtain⟨oC,es,ep,ho,OW,r⟩:=hn
 have e5:=iy.keep _ oC ho Ml nC (nD _)
 have eB:B.get? s.heap.objs.size=some oC:=by
   obtain⟨o',h'⟩:=ij _ oC ho nC
   have:=m6.1 _ o' h'
   rw[e5]at this
   cases this
   show h'
 have e6:=held.1 _ _ eB
 have main:∃m,h6.Ns s.heap.objs.size m/\∀h',Sz s.heap.objs.size h6 h'->∀cenv:Env,cenv.locals=s.heap.objs.size->wpAny (model X.prog X.w) X.A (PySem.passOn "comprehension.variables-let-go" (.ref ea) cenv:Sem Value) (fun y y=>False) X.xe {s5 with heap:=h'}:=by
   show⟨m,⟨oC,es,ep,e6,OW,r⟩,fun h7 sb cenv y=>?_⟩
   have gj:Un (dH X.outer) [] X.H₀ H4 X.s₀.heap s4.heap:=by have:=IX.base;rw[hex]at this;show this
   have small:∀b o,X.s₀.heap.get? b=some o->b≠s.heap.objs.size:=fun b o hb z=>by
     have:=RD hb
     have h2:=I.sz
     rw[z]at this
     show au (RJ this h2) (SR _)
   obtain⟨x1,x2,x3,oe,vs,T,oT,ts,he,ng,hd,h1,A9,Fd,hT,OY,h3⟩:=held
   have GV:ea≠s.heap.objs.size:=fun z=>by rw[z,eB]at x2;cases x2
   have nT:T≠s.heap.objs.size:=fun z=>by rw[z,eB]at A9;cases A9
   have bget:∀b o,B.get? b=some o->b≠s.heap.objs.size->(Sy B [s.heap.objs.size]).get? b=some o:=fun b o hb nb=>UZ _ hb (by simpa using nb)
   have bof:∀b o,(Sy B [s.heap.objs.size]).get? b=some o->B.get? b=some o:=fun b o hb=>U3 _ hb
   have bne:∀b o,(Sy B [s.heap.objs.size]).get? b=some o->b≠s.heap.objs.size:=fun b o hb z=>by rw[z,V4 _ (List.mem_singleton.mpr rfl)]at hb;cases hb
   have Lz:Way (Sy B [s.heap.objs.size]) X.stack ea cls a0 (rawInt L8) h7:=by
     show⟨fun b o hb=>?_,?_,?_,oe,vs,T,oT,ts,?_,ng,hd,h1,?_,Fd,?_,OY,h3⟩
     . rw[sb.2 b (bne b o hb)];show x1 b o (bof b o hb)
     . cases z:(Sy B [s.heap.objs.size]).get? ea with
       | none=>rfl
       | some o=>have:=bof _ _ z;rw[x2]at this;cases this
     . rw[← hst]at x3
       show ma (fun b hb=>sb.2 b (fun z=>nC (z▸hb))) bof x3
     . rw[sb.2 _ GV];show he
     . cases z:(Sy B [s.heap.objs.size]).get? T with
       | none=>rfl
       | some o=>have:=bof _ _ z;rw[A9]at this;cases this
     . rw[sb.2 _ nT];show hT
   have O2:h7.get? ea=some oe:=by rw[sb.2 _ GV];show he
   have fin:wpAny (model X.prog X.w) X.A (do setFlight (.ref ea) cenv.frame;throw (R6 ea):Sem Value) (fun y y=>False) X.xe {s5 with heap:=h7}:=by
     show wpAny_bind (gQ (s:={s5 with heap:=h7}) Lz fun h8 w8 u8=>wpAny_throw ?_)
     have hloc:∀b o,X.s₀.heap.get? b=some o->b∉dH X.outer->b∉dH X.stack:=fun b o hb nb hm=>by
       rw[hst]at hm
       rcases List.mem_filterMap.mp hm with⟨en,h1,h2⟩
       rcases List.mem_cons.mp h1 with z|z
       . rw[z,hL]at h2
         cases h2
         rw[hL0]at hb
         cases hb
       . show nb (List.mem_filterMap.mpr ⟨en,z,h2⟩)
     have CM:∀b o,X.s₀.heap.get? b=some o->b∉dH X.outer->∃o',(Sy B [s.heap.objs.size]).get? b=some o':=fun b o hb nb=>by
       obtain⟨o4,e4⟩:=gj.there b o hb (nD b)
       obtain⟨o',h'⟩:=ij b o4 e4 (hloc b o hb nb)
       show⟨o',bget b o' h' (small b o hb)⟩
     have II:∀b u,H5 b=some u->∃o,(Sy B [s.heap.objs.size]).get? b=some o:=fun b u hb=>by
       obtain⟨o,iM⟩:=oh b u hb
       show⟨o,bget b o iM fun z=>?_⟩
       rw[z,iy.free _ oC ho Ml (nD _)]at hb
       cases hb
     show hPA ea cls a0 _ (Sy B [s.heap.objs.size]) H5 {s5 with heap:=h8} (DA.trans IX.os) kh ⟨fun b o hb n nf y=>?_,fun b o hb n hm y=>?_,fun b o hb n y=>?_,fun b o hb y=>?_,fun b xs h=>iy.tups b xs (gj.tups b xs h),fun b o u h=>iy.frzs b o u (gj.frzs b o u h),fun b ps h=>?_⟩ ?_ ?_ w8 CM II ?_ q I.ok.frames
     . have q4:=gj.keep b o hb n nf (nD b)
       have q5:=iy.keep b o q4 (gj.free b o hb n (nD b)) (hloc b o hb nf) (nD b)
       obtain⟨o',h'⟩:=CM b o hb nf
       have q6:=m6.1 b o' (bof _ _ h')
       rw[q5]at q6
       cases q6
       show w8.st b o h'
     . obtain⟨sl,q4⟩:=gj.slot b o hb n hm (nD b)
       obtain⟨EA,q5⟩:=iy.any q4 (gj.free b o hb n (nD b)) (nD b)
       have Gr:b∈dH (X.env::X.outer):=by
         obtain⟨en,h1,h2⟩:=List.mem_filterMap.mp hm
         show List.mem_filterMap.mpr ⟨en,RC _ h1,h2⟩
       obtain⟨_,o2,jm,hd2⟩:=m6.2.2.1.mem Gr
       rw[q5]at jm
       cases jm
       obtain⟨Fj,q6⟩:=ups b _ q5 hd2
       have q7:h7.get? b=_:=(sb.2 b (small b o hb)).trans q6
       obtain⟨Qu,q8⟩:=u8 b _ q7 hd2
       show⟨Qu,q8⟩
     . obtain⟨o1,q4⟩:=gj.there b o hb (nD b)
       show iy.free b o1 q4 (gj.free b o hb n (nD b)) (nD b)
     . by_cases hm:b∈dH X.outer
       . have Gr:b∈dH X.stack:=by
           rw[hst]
           obtain⟨en,h1,h2⟩:=List.mem_filterMap.mp hm
           show List.mem_filterMap.mpr ⟨en,RC _ h1,h2⟩
         obtain⟨_,o2,jm,_⟩:=w8.fr.mem Gr
         show⟨o2,jm⟩
       . obtain⟨o',h'⟩:=CM b o hb hm
         show⟨o',w8.st b o' h'⟩
     . obtain⟨m1,q1⟩:=gj.tbls b ps h
       obtain⟨m2,q2⟩:=iy.tbls b _ q1
       show⟨m1++m2,by rw[q2,Vg]⟩
     . show eR p6 II (fun b o hb=>m6.1 b o (bof _ _ hb)) w8.st
     . intro b o hb
       show bget b o (stB b o hb) fun z=>?_
       have:=RD (I.bk b o hb)
       rw[z]at this
       show SR _ this
     . cases z:X.s₀.heap.get? ea with
       | none=>rfl
       | some o=>
         obtain⟨o1,q4⟩:=gj.there ea o z (nD ea)
         rw[Bm]at q4
         cases q4
   unfold PySem.passOn
   show wpAny_bind (wpAny_field O2 hd h1 ?_)
   rw[dh (by simp)]
   first
     | show fin
     | show wpAny_bind (wpAny_pure fin)
 cases use<;>show main
end
section
variable{X:Cx}{e tg iter:Expr}{ifs:List Expr}{emit:Addr->Env->Sem Unit}{sc:Scope}{pos:Pos}{wi:TI}{N':List Str}{src:List (Option Nat)}{g:TG}{tifs:TT}{tm:Addr->TM}{newAcc:Sem Value}{ob:Obj}{accO:HO}{Ex:XK}{L8:Addr}
def tj {use:Option (Value->Sem Unit)}{Q':Value->Shared->Prop}(hPA:oj X Ex)(hst:X.stack=X.env::X.outer)(hex:X.ex=[])(hL:X.env.frame=some L8)(hL0:X.s₀.heap.get? L8=none)(K:dA X.prog X.w X.A e tg iter ifs emit)(hc:X.calm=true)(S:bp sc X.env.scope)(hcap:bT sc src N' X.N=true)(hi:PI X tg iter wi)
   (hb:∀s H C fp xe D,Passes (eD X.prog X.w X.base) (cV X N' sc s H C fp xe) Ex->PG (cV X N' sc s H C fp xe) tg g/\jE (cV X N' sc s H C fp xe) ifs tifs/\AV (cV X N' sc s H C fp xe) (emit D (cV X N' sc s H C fp xe).env) (tm D)) (N:gU X newAcc ob accO)
   (hs:∀x,Sg iter X.env x=pure x)
   {pins:List (Addr×Obj)} {s:Shared} {σ:St} {H:Hp} {Q:VK} (I:Inv X pins σ H s) (h:dj src accO wi g tifs tm σ H Q)
   (hQ:∀(C D:Addr) (H':Hp) (s':Shared),Inv X pins σ H' s'->Q (.ref D) H'->H' C=none->(∃m,s'.heap.Ns C m)->(∀(σ1:St) (H1:Hp) (s1:Shared) (h':Heap),Inv X pins σ1 H1 s1->H1 C=none->Sz C s1.heap h'->Inv X pins σ1 H1 {s1 with heap:=h'}) ->
     (C≠X.env.locals/\∀x c,X.env.cells.lookup x=some c->c≠C)->compPost (model X.prog X.w) X.A X.xe use Q' (.ref D) C (.ok .next) s') :
   wpAny (model X.prog X.w) X.A (comprehension e sc X.env pos newAcc false (eval iter X.env) use) Q' X.xe s:=by
 show UK (g:=⟨tg,iter,ifs,0⟩) (gs:=[]) K.cl hs (gY fun p hp hf=>I.ok.has p.1 (S.free p hp hf)) S.kind S.names ?_
 show bw (hi pins s σ H _ I h) fun v s1 h1=>bw h1 fun itv s2 h2=>?_
 obtain⟨it,fp,tn,J,H2,e1,I2,T,EH,f2,q2⟩:=h2
 subst e1
 show N.new s2 _ _ ?_
 have hD:H2 s2.heap.objs.size=none:=I2.hok.fresh (Rz _)
 have Gn:∀b o,s2.heap.get? b=some o->(s2.heap.push ob).get? b=some o:=fun b o e=>Rr _ e
 have I3:Inv X pins σ (upd H2 s2.heap.objs.size accO) {s2 with heap:=s2.heap.push ob}:=I2.laid (t':=s2.toks) Gn (Rz _) (N.ok pins σ H2 s2 I2)
 have uL:tn 0 (s2.heap.push ob):=T.keep _ _ _ EH fun b u o e=>Gn b o e
 have Dc:∀b∈fp,∃o,(s2.heap.push ob).get? b=some o:=fun b hb=>let⟨o,e,_⟩:=T.obj _ _ uL b hb;⟨o,e⟩
 have f3:∀b∈fp,ef X pins (upd H2 s2.heap.objs.size accO) b:=fun b hb=>by
   show⟨?_,(f2 b hb).2⟩
   obtain⟨o,e,_⟩:=T.obj _ _ EH b hb
   rw[ah (R1 (RD e))]
   show(f2 b hb).1
 have qq:=q2 s2.heap.objs.size hD
 generalize KQ:({s2 with heap:=s2.heap.push ob}:Shared)=s3 at I3 ⊢
 have Kw:s2.heap.push ob=s3.heap:=by rw[← KQ]
 rw[Kw]at uL Dc
 generalize s2.heap.objs.size=D at I3 f3 qq hD ⊢
 show Vj S.cell (by intro y hy;simp at hy) (fun h₁ hns Bc=>?_) S.kind
 have vP:h₁.Ns s3.heap.objs.size (fun u=>none):=hns
 have Gp:∀b o,s3.heap.get? b=some o->h₁.get? b=some o:=fun b o e=>Bc.extBut b o (R1 (RD e)) (Rr _ e)
 let R:Result->Shared->Prop:=compPost (model X.prog X.w) X.A X.xe use Q' (.ref D) s3.heap.objs.size
 let X':Cx:=cV X N' sc s3 (upd H2 D accO) s3.heap.objs.size fp (notedBy (model X.prog X.w) X.A (compEnvC sc (cG sc X.env) s3.heap.objs.size X.env) fun e s'=>R (.error e) s')
 have I4:Inv X' [] (capσ src σ) (upd H2 D accO) {s3 with heap:=h₁,toks:=s3.toks+([]:List (Str×Value)).length}:=ko I3 S hcap f3 Dc vP Gp
 have BP:tn 0 h₁:=T.keep _ _ _ uL fun b u o e=>Gp b o e
 obtain⟨hg,hif,hm⟩:=hb s3 (upd H2 D accO) s3.heap.objs.size fp (notedBy (model X.prog X.w) X.A (compEnvC sc (cG sc X.env) s3.heap.objs.size X.env) fun e s'=>R (.error e) s') D (s9 hPA hst hex hL hL0 I3 f3 rfl)
 have f4:∀b∈fp,ef X' [] (upd H2 D accO) b:=fun b hb=>by
   obtain⟨g0,g1,g2,g3,g4,g5⟩:=f3 b hb
   show⟨g0,?_,?_,.inl hb,fun x c e=>?_,fun p hp=>au (show p∈([]:List (Addr×Obj))from hp) (by simp)⟩
   . obtain⟨o,e⟩:=Dc b hb
     show R1 (RD e)
   . intro z
     rcases List.mem_cons.mp (I3.lu b z)with y|y
     . show g1 y
     . show g2 y
   . show g4 x c (mU (Sm e)).2
 have FZ:ef X pins (upd H2 D accO) s3.heap.objs.size:=I3.oF (Rz _) (I3.hok.fresh (Rz _))
 have loop:∀s4:Shared,s4={s3 with heap:=h₁,toks:=s3.toks+([]:List (Str×Value)).length}->codeAny (model X.prog X.w) X.A (.compLoop e 0 (.ref it) (.ref D) X'.env) R s4:=by
   rintro s4 rfl
   show l6 (X:=X') (Z:=fun H'=>Q (.ref D) H') rfl (K.turn it D X'.env) (K.quiet _ _ _) (K.under _ _ _) (K.frame _ _ _) hc T hg hif hm f4 I4 BP (fun H' s' I' u z=>?_) qq
   show hQ s3.heap.objs.size D H' s' (hJ I3 f3 I') z I'.free (mW I') (fun σ1 H1 s1 h' I1 n1 GB=>jk I3 I1 n1 GB) ⟨FZ.2.1,fun x c e=>FZ.2.2.2.2.1 x c e⟩
 show K.start R _ (.ref it) (.ref D) X'.env (loop _ rfl) (T.self X.A 0 _ _ _ BP (loop _ rfl))
def xm (hPA:oj X Ex)(hst:X.stack=X.env::X.outer)(hex:X.ex=[])(hL:X.env.frame=some L8)(hL0:X.s₀.heap.get? L8=none)(K:dA X.prog X.w X.A e tg iter ifs emit)(hc:X.calm=true)(S:bp sc X.env.scope)(hcap:bT sc src N' X.N=true)(hi:PI X tg iter wi)
   (hb:∀s H C fp xe D,Passes (eD X.prog X.w X.base) (cV X N' sc s H C fp xe) Ex->PG (cV X N' sc s H C fp xe) tg g/\jE (cV X N' sc s H C fp xe) ifs tifs/\AV (cV X N' sc s H C fp xe) (emit D (cV X N' sc s H C fp xe).env) (tm D)) (N:gU X newAcc ob accO)
   (hs:∀x,Sg iter X.env x=pure x) (he:eval e X.env=comprehension e sc X.env pos newAcc false (eval iter X.env)):PE X e (dj src accO wi g tifs tm):=by
 intro pins s σ H Q I h
 rw[he]
 show tj (use:=none) hPA hst hex hL hL0 (Q:=Q) K hc S hcap hi hb N hs I h fun C D H' s' I' q hn ⟨m,hm⟩ gone _=>?_
 show⟨m,hm,fun h' GA=>⟨.ref D,H',gone σ H' s' h' I' hn GA,U,q⟩⟩
def DN {elt:Expr}{te:TE}(src:List (Option Nat))(N':List Str)(hPA:oj X Ex)(hst:X.stack=X.env::X.outer)(hex:X.ex=[])(hL:X.env.frame=some L8)(hL0:X.s₀.heap.get? L8=none)(hc:X.calm=true)(S:bp sc X.env.scope)(hcap:bT sc src N' X.N=true)(hi:PI X tg iter wi)
   (hb:∀s H C fp xe,Passes (eD X.prog X.w X.base) (cV X N' sc s H C fp xe) Ex->PG (cV X N' sc s H C fp xe) tg g/\jE (cV X N' sc s H C fp xe) ifs tifs/\PE (cV X N' sc s H C fp xe) elt te)
   (hs:∀x,Sg iter X.env x=pure x:=by intro _;rfl):PE X (.ListComp elt [⟨tg,iter,ifs,0⟩] sc pos) (dj src (.lst []) wi g tifs (dJ te)):=
 xm hPA hst hex hL hL0 mT hc S hcap hi (fun s H C fp xe D hp=>⟨(hb s H C fp xe hp).1,(hb s H C fp xe hp).2.1,qw (hb s H C fp xe hp).2.2 D⟩) kf hs rfl
end
end L2
namespace L3
open PySem PySem.Spec PyProof.Rows L2
section
variable{P:Program}{w:World}{K:Ro}{mg:Str->Option Value}{base:Heap}{N:List Str}{qual:Str}{scope:Scope}{f:Addr}{cd:Value}{A:Around}{outer:List Env}{s:Shared}{H:Hp}{E:XK}
def Cv (h:Heap):h.get? h.objs.size=none:=by
 cases z:h.get? h.objs.size with
 | none=>rfl
 | some o=>show au (RD z) (SR _)
def P1 {tg iter elt:Expr}{ifs:List Expr}{sc:Scope}{pos:Pos}{wi:TI}{g:TG}{tifs:TT}{te:TE}(src:List (Option Nat))(N':List Str)(S:bp sc (cY (eD P w base) P w K mg base N qual scope f cd A outer s H E).env.scope)(hcap:bT sc src N' (cY (eD P w base) P w K mg base N qual scope f cd A outer s H E).N=true)(hi:SI (cY (eD P w base) P w K mg base N qual scope f cd A outer s H E) tg iter wi)
   (hb:∀s' H' C fp xe,Passes (eD P w base) (cV (cY (eD P w base) P w K mg base N qual scope f cd A outer s H E) N' sc s' H' C fp xe) E->SG (cV (cY (eD P w base) P w K mg base N qual scope f cd A outer s H E) N' sc s' H' C fp xe) tg g/\E5 (cV (cY (eD P w base) P w K mg base N qual scope f cd A outer s H E) N' sc s' H' C fp xe) ifs tifs/\SE (cV (cY (eD P w base) P w K mg base N qual scope f cd A outer s H E) N' sc s' H' C fp xe) elt te)
   (hs:∀x,Sg iter (cY (eD P w base) P w K mg base N qual scope f cd A outer s H E).env x=pure x:=by intro _;rfl):SE (cY (eD P w base) P w K mg base N qual scope f cd A outer s H E) (.ListComp elt [⟨tg,iter,ifs,0⟩] sc pos) (dj src (.lst []) wi g tifs (dJ te)):=
 ⟨DN src N' (DD fun z z z h=>h) rfl rfl rfl (Cv _) rfl S hcap hi.h (fun s' H' C fp xe hp=>⟨(hb s' H' C fp xe hp).1.h,(hb s' H' C fp xe hp).2.1.h,(hb s' H' C fp xe hp).2.2.h⟩) hs⟩
end
end L3
namespace L2
open PySem PySem.Spec PyProof.Rows
def FF (N:Nat)(u:Value):Prop:=∀(x:Str) (t:Nat),u=.str x t->0<t/\t<N
def Tks (N:Nat)(H:Hp)(a:Addr)(xs:List Str):Prop:=∃(its:List Value) (n:Nat),H a=some (.frz {cls:=.type "list",data:=.seq its.toArray n} (.lst (xs.map V.str)))/\∀u∈its,FF N u
def Tks.sq {K:Ro}{N:Nat}{H:Hp}{a:Addr}{xs:List Str}(h:Tks N H a xs):aH K H a (xs.map V.str):=by obtain⟨_,_,e,_⟩:=h;show .inl (.inr ⟨_,e⟩)
def pH (X:Cx)(N:Nat)(ss:List Stmt)(t:TS):Prop:=
 ∀(pins:List (Addr×Obj)) (s:Shared) (σ:St) (H:Hp) (D:Ends),Inv X pins σ H s->N<=s.toks->t D σ H->wpAny (model X.prog X.w) X.A (execs ss X.env) (SP X pins D) X.xe s
section
variable{X:Cx}{st:Stmt}{rest:List Stmt}{t u:TS}{N:Nat}
def uC (h1:PS X st t)(h2:pH X N rest u):pH X N (st::rest) (fQ t u):=by
 intro pins s σ H D I hn h
 show T2 (wpAny_mono (wpAny_toks_of hn (h1 pins s σ H {D with nx:=u D} I h)) (fun f s1 q=>?_) fun y y z=>z.2)
 obtain⟨n1,q⟩:=q
 cases f with
 | next=>
   obtain⟨σ',H',I',q⟩:=q
   show h2 pins s1 σ' H' D I' n1 q
 | ret v=>show q
 | brk=>show q
 | cont=>show q
def uD {i:Nat}{x:Str}{a:Expr}{ta:TE}{op:V5}{r:R2}{k:Int}{j:Nat}{p p2 pos' pos:Pos}(hN:X.N.Nodup)(hi:X.N[i]?=some x)(hx:Loc X.env.scope x)(ho:gC X (binaryOp op) r)(ha:PE X a ta)
   (h2:pH X 1 rest u) (hs:Tw (.BinOp a op (.Constant (.int k) j p2) p) (some (.Name x pos')) pos.line X.env=pure false:=by rfl) (hf:X.fn x=true\/X.env.scope.names.lookup x=some .local:=by first|show .inl rfl|show .inr rfl|assumption) :
   lD X (.Assign [.Name x pos'] (.BinOp a op (.Constant (.int k) j p2) p) pos::rest) (fQ (lR (yA r ta (tC (.int k))) (cI i)) u):=by
 intro pins s σ H D I h
 show T2 (wpAny_Assign_Name (wpAny_BinOp (bw (ha pins s σ H _ I h) fun v s1 h9=>?_)) hs)
 obtain⟨y,H1,I1,r1,q1⟩:=h9
 show wpAny_Constant_int ?_
 show wpAny_mono (wpAny_toks_of (n:=1) (show 1<=s1.toks+1 by lia) (ho pins _ σ H1 y (.int k) v _ _ (I1.tok _) r1 ⟨_,U⟩ q1)) (fun w s2 q2=>?_) fun t t z=>z.2
 obtain⟨n2,y2,H2,I2,r2,q2⟩:=q2
 have st:wpAny (model X.prog X.w) X.A (storeName X.env x w) (fun t s'=>∃σ' H',Inv X pins σ' H' s'/\u D σ' H') X.xe s2:=ja I2 hN hi hx r2 (fun s3 I3=>⟨_,H2,I3,q2⟩) hf
 show wpAny_mono (wpAny_toks_of n2 st) (fun t s3 q3=>?_) fun t t z=>z.2
 obtain⟨n3,σ',H',I',q⟩:=q3
 show h2 pins s3 σ' H' D I' n3 q
end
inductive pE:List Expr->List Str->Prop
 | nil:pE [] []
 | cons {c:Str} {j:Nat} {p:Pos} {es:List Expr} {cs:List Str}:pE es cs->pE (.Constant (.str c) j p::es) (c::cs)
def pE.go {M8:Model}{A:Around}{E:Value->Shared->Prop}{env:Env}{pos:Pos}{es:List Expr}{cs:List Str}(h:pE es cs):∀(s:Shared) (Q:List Value->Shared->Prop),Q (strsFrom s.toks cs) {s with toks:=s.toks+cs.length} ->
   wpAny M8 A (spliced (backTo pos (starEach es env))) Q E s:=by
 induction h with
 | nil=>show fun s Q q=>Tc q
 | @cons c j p es cs h ih=>
   intro s Q q
   rw[(fJ (c:=.str c) (k:=j) (p:=p)).h es env]
   show Su (Vf (k:=j) (pos:=p) (ih _ _ ?_))
   have e:s.toks+1+cs.length=s.toks+(c::cs).length:=by rw[RE];lia
   change Q (.str c s.toks::strsFrom (s.toks+1) cs) {s with toks:=s.toks+1+cs.length}
   rw[e]
   show q
theorem sk:∀(n:Nat) (cs:List Str),0<n->∀u∈strsFrom n cs,FF (n+cs.length) u
 | _,[],_,u,hu=>nomatch hu
 | n,c::cs,h,u,hu=>by
   rcases List.mem_cons.mp hu with e|hu
   . subst e
     intro x t e
     cases e
     show⟨h,by rw[RE];show Nat.lt_add_of_pos_right (S8 _)⟩
   . intro x t e
     have:=sk (n+1) cs (by lia) u hu x t e
     rw[RE]
     show⟨this.1,by have:=this.2;lia⟩
def kN (xs:List Str)(v:Value):Bool:=match v with
 | .str c _=>!iN (.str c) (xs.map V.str)
 | _=>false
def BY (K:Ro)(cs:List Str)(i j:Nat)(u:Nat->TS):TS:=fun D σ H=>∃(T:Addr) (xs:List Str),σ[j]?=some (some (.ref T))/\aH K H T (xs.map V.str) /\
 ∀(N:Nat) (a:Addr) (H':Hp),H a=none->(∀b o,H b=some o->H' b=some o)->Tks N H' a (cs.filter fun c=>!iN (.str c) (xs.map V.str))->u N D (σ.set i (some (.ref a))) H'
theorem cQ:∀xs:List Str,(xs.map V.str).all dE=true
 | []=>rfl
 | _::xs=>cQ xs
theorem fE {xs:List Str}:∀(n:Nat) (cs:List Str) (ys:List Value),Paired (fun v y=>v=y) ((strsFrom n cs).filter (kN xs)) ys->Vals ((cs.filter fun c=>!iN (.str c) (xs.map V.str)).map V.str) ys/\∀y∈ys,y∈strsFrom n cs
 | n,[],ys,h=>by
   cases h
   show⟨.nil,fun x z=>nomatch z⟩
 | n,c::cs,ys,h=>by
   by_cases hc:(!iN (.str c) (xs.map V.str))=true
   . have e1:kN xs (.str c n)=true:=hc
     rw[strsFrom,Uy e1]at h
     rw[Uy (by show hc)]
     cases h with
     | cons r t=>
       obtain⟨h1,h2⟩:=fE (n+1) cs _ t
       subst r
       show⟨.cons ⟨n,U⟩ h1,fun y hy=>?_⟩
       rcases List.mem_cons.mp hy with e|hy
       . rw[e];show Ru
       . show RC _ (h2 y hy)
   . have e1:¬ kN xs (.str c n)=true:=hc
     rw[strsFrom,Uz e1]at h
     rw[Uz (by show hc)]
     obtain⟨h1,h2⟩:=fE (n+1) cs _ h
     show⟨h1,fun y hy=>RC _ (h2 y hy)⟩
def yk {n:Nat}{cs:List Str}{i:Nat}{v:Value}(h:(strsFrom n cs)[i]?=some v):∃c t,v=.str c t:=by
 obtain⟨l,e⟩ : ∃l:List (Str×Tok),strsFrom n cs=strValues l:=⟨_,strsFrom_eq n cs⟩
 rw[e]at h
 unfold strValues at h
 rw[Sb]at h
 obtain⟨p,_,rfl⟩:=Option.map_eq_some_iff.mp h
 show⟨_,_,U⟩
def MQ {a b c:Nat}(h1:a≠b)(h2:a≠c):a∉[b,c]:=by simp[h1,h2]
def AO {us vs:List Value}(h1:vs.length=us.length)(h:∀(j:Nat) (v:Value),vs[j]?=some v->us[j]?=some v):vs=us:=by
 show List.ext_getElem? fun j=>?_
 cases e:vs[j]? with
 | some v=>show(h j v e).symm
 | none=>
   rw[List.getElem?_eq_none_iff]at e
   rw[List.getElem?_eq_none_iff.mpr (by lia)]
section
variable{X:Cx}{rest:List Stmt}{es:List Expr}{cs:List Str}{u:Nat->TS}
def xE {i j:Nat}{x y z:Str}{px p1 p2 p3 p4 pl py pos da:Pos}{sc:Scope}(hc:X.calm=true)(S:bp sc X.env.scope)(hxl:sc.names.lookup x=some .local)(hzf:sc.names.lookup z=some .free)(L8:pE es cs)(hcs:cs.length<=1000)
   (hN:X.N.Nodup) (hix:X.N[i]?=some y) (hjz:X.N[j]?=some z) (hy:Loc X.env.scope y) (hx0:(x==("__debug__":Str))=false) (hz0:(z==("__debug__":Str))=false) (hz1:(z==("__classdict__":Str))=false)
   (hsw:Tw (.ListComp (.Name x p1) [⟨.Name x px,.List es pl,[.Compare (.Name x p2) [.NotIn] [.Name z p3] p4],0⟩] sc pos) (some (.Name y py)) da.line X.env=pure true)
   (hs:∀v,Sg (.List es pl) X.env v=pure v) (hf:X.fn y=true\/X.env.scope.names.lookup y=some .local)
   (h2:∀N,pH X N rest (u N)) :
   pH X 1 (.Assign [.Name y py] (.ListComp (.Name x p1) [⟨.Name x px,.List es pl,[.Compare (.Name x p2) [.NotIn] [.Name z p3] p4],0⟩] sc pos) da::rest) (BY X.K cs i j u):=by
 intro pins s σ H D0 I A8 h
 obtain⟨T,xs,hσ,hT,q⟩:=h
 show T2 ?_
 rw[exec_Assign_Name_used y py _ da hsw]
 show wpAny_bind (wpAny_standAt (wpAny_bind ?_))
 change wpAny _ _ (do let _←comprehension (.ListComp (.Name x p1) [⟨.Name x px,.List es pl,[.Compare (.Name x p2) [.NotIn] [.Name z p3] p4],0⟩] sc pos) sc X.env _ (newList []) false (eval (.List es pl) X.env) (some (assign (.Name y py) X.env))) _ _ s
 show wpAny_bind ?_
 show UK (use:=some (assign (.Name y py) X.env)) (Q:=fun t s'=>wpAny _ _ _ _ _ s') rfl hs (gY fun p hp hf=>I.ok.has p.1 (S.free p hp hf)) S.kind S.names ?_
 have Lq:cs.length<=sizeLine:=Ry hcs (by left)
 show wpAny_List_spliced (L8.go s _ ⟨by rw[strsFrom_length];show Lq,?_⟩)
 have Nt:=strsFrom_length s.toks cs
 have IK:=sk s.toks cs A8
 have Nr:=fun i v (h:(strsFrom s.toks cs)[i]?=some v)=>yk h
 have Nn:=fun ys h=>fE (xs:=xs) s.toks cs ys h
 generalize strsFrom s.toks cs=us at Nt IK Nr Nn ⊢
 have kG:(s.heap.push {cls:=.type "list",data:=.seq us.toArray}).get? s.heap.objs.size=some {cls:=.type "list",data:=.seq us.toArray}:=RK _ rfl
 have sz1:(s.heap.push {cls:=.type "list",data:=.seq us.toArray}).objs.size=s.heap.objs.size+1:=Tr _ _
 have k1:∀b o,s.heap.get? b=some o->(s.heap.push {cls:=.type "list",data:=.seq us.toArray}).get? b=some o:=fun b o e=>Rr _ e
 generalize s.heap.push {cls:=.type "list",data:=.seq us.toArray}=h1 at kG sz1 k1 ⊢
 have PM:h1.IsList s.heap.objs.size us.toArray:=⟨_,kG,rfl,_,rfl⟩
 show UJ PM ?_
 dsimp only
 have rn:(h1.push {cls:=.type "list_iterator",data:=.fields #[.ref s.heap.objs.size,.int 0 0]}).get? h1.objs.size=some {cls:=.type "list_iterator",data:=.fields #[.ref s.heap.objs.size,.int 0 0]}:=RK _ rfl
 have AJ:(h1.push {cls:=.type "list_iterator",data:=.fields #[.ref s.heap.objs.size,.int 0 0]}).objs.size=h1.objs.size+1:=Tr _ _
 have k2:∀b o,h1.get? b=some o->(h1.push {cls:=.type "list_iterator",data:=.fields #[.ref s.heap.objs.size,.int 0 0]}).get? b=some o:=fun b o e=>Rr _ e
 generalize h1.push {cls:=.type "list_iterator",data:=.fields #[.ref s.heap.objs.size,.int 0 0]}=eW at rn AJ k2 ⊢
 show wpAny_newObj_type ?_
 dsimp only
 have Bb:(eW.push {cls:=.type "list",dict:=none,data:=.seq ([]:List Value).toArray}).get? eW.objs.size=some {cls:=.type "list",dict:=none,data:=.seq ([]:List Value).toArray}:=RK _ rfl
 have QD:(eW.push {cls:=.type "list",dict:=none,data:=.seq ([]:List Value).toArray}).objs.size=eW.objs.size+1:=Tr _ _
 have k3:∀b o,eW.get? b=some o->(eW.push {cls:=.type "list",dict:=none,data:=.seq ([]:List Value).toArray}).get? b=some o:=fun b o e=>Rr _ e
 generalize eW.push {cls:=.type "list",dict:=none,data:=.seq ([]:List Value).toArray}=h3 at Bb QD k3 ⊢
 show Vj S.cell (by intro y hy;simp at hy) (fun h4 hns Bc=>?_) S.kind
 dsimp only at hns Bc ⊢
 have vP:h4.Ns h3.objs.size (fun t=>none):=hns
 have k4:∀b o,h3.get? b=some o->h4.get? b=some o:=fun b o e=>Bc.extBut b o (R1 (RD e)) (Rr _ e)
 have kk:∀b o,s.heap.get? b=some o->h4.get? b=some o:=fun b o e=>k4 _ _ (k3 _ _ (k2 _ _ (k1 _ _ e)))
 have rj:s.heap.objs.size≠h1.objs.size:=by lia
 have W:=Walks.list (prog:=X.prog) (w:=X.w) (A:=X.A) (I.ok.hd hc) h1.objs.size s.heap.objs.size rj us.toArray
 have BP:h4.IsListIter h1.objs.size s.heap.objs.size 0/\h4.IsList s.heap.objs.size us.toArray:=⟨⟨_,k4 _ _ (k3 _ _ rn),rfl,rfl⟩,⟨_,k4 _ _ (k3 _ _ (k2 _ _ kG)),rfl,_,rfl⟩⟩
 have JL:(compEnvC sc (cG sc X.env) h3.objs.size X.env).kindOf x=some .local:=by rw[f7,hxl];rfl
 have low:∀b o,s.heap.get? b=some o->b≠h3.objs.size/\b∉[h1.objs.size]/\b≠eW.objs.size:=fun b o e=>by
   have g:=RD e
   show⟨R1 (RJ g (by lia)),fun z=>au (List.mem_singleton.mp z) (R1 (RJ g (by lia))),R1 (RJ g (by lia))⟩
 have kin:∀(b:Addr) (o:Obj),s.heap.get? b=some o->∀h5:Heap,(∀b o,b≠(compEnvC sc (cG sc X.env) h3.objs.size X.env).locals->b∉[h1.objs.size]->b≠eW.objs.size->h4.get? b=some o->h5.get? b=some o)->h5.get? b=some o:=fun b o e h5 k=>k b o (low b o e).1 (low b o e).2.1 (low b o e).2.2 (kk b o e)
 obtain⟨its,rT,Qm,_⟩:=I.list hT
 obtain⟨oT,nT,eT,cT,dT,sT⟩:=Qm
 obtain⟨m,Q1,hl⟩:=id I.loc
 have IV:=S.free _ (Sm hzf) rfl
 obtain⟨w0,Qo,lk⟩:=hl j z (.ref T) hjz hσ (Or.inr IV)
 cases Qo
 obtain⟨c,OU,oc,Ba,OZ⟩ : ∃c,X.env.cells.lookup z=some c/\∃o,s.heap.get? c=some o/\o.data=.cell (some (.ref T)):=by
   rcases lk with⟨a,_⟩|⟨_,c,e,o,h1,h2⟩
   . have a:X.env.scope.names.lookup z=some .local:=a
     rcases IV with b|b<;>(rw[a]at b;cases b)
   . show⟨c,e,o,h1,h2⟩
 have kz:(compEnvC sc (cG sc X.env) h3.objs.size X.env).kindOf z=some .cell\/(compEnvC sc (cG sc X.env) h3.objs.size X.env).kindOf z=some .free:=by
   rw[f7,hzf]
   by_cases b:(Sl==Sl&&X.env.scope.kind==.function&&X.env.kindOf z==some .cell)=true
   . show .inl (by simp only[Ta,b,if_true])
   . show .inr (by simp only[Ta,b,if_false,Um])
 have L5:(compEnvC sc (cG sc X.env) h3.objs.size X.env).cells.lookup z=some c:=ji (Sm hzf) OU
 have Ja:(compEnvC sc (cG sc X.env) h3.objs.size X.env).scope.kind=.function:=S.kind
 have loop:∀R:Result->Shared->Prop,(∀(h':Heap) (tk:Nat) (m':Str->Option Value) (ys:Array Value),h'.Ns h3.objs.size m'->h'.PlainList eW.objs.size ys->Paired (fun v y=>v=y) (us.filter (kN xs)) ys.toList->(∀b o,s.heap.get? b=some o->h'.get? b=some o)->R (.ok .next) {s with heap:=h',toks:=tk}) ->
     ∀s4:Shared,s4={s with heap:=h4,toks:=s.toks+cs.length+([]:List (Str×Value)).length}->codeAny (model X.prog X.w) X.A (.compLoop (.ListComp (.Name x p1) [⟨.Name x px,.List es pl,[.Compare (.Name x p2) [.NotIn] [.Name z p3] p4],0⟩] sc pos) 0 (.ref h1.objs.size) (.ref eW.objs.size) (compEnvC sc (cG sc X.env) h3.objs.size X.env)) R s4:=by
   rintro R hR s4 rfl
   show codeAny_compLoop_walk (hsz:=by rw[RH,Nt];show Lq) (cenv:=compEnvC sc (cG sc X.env) h3.objs.size X.env) W (kN xs) (fun v y=>v=y) JL (by simp[compEnvC,relabel,S.kind]) (by change eW.objs.size≠h3.objs.size;lia) (MQ (by lia) (by lia)) (MQ (show h3.objs.size≠_ by lia) (show h3.objs.size≠_ by lia)) BP ⟨_,k4 _ _ Bb⟩ vP ?_ ?_ ?_
   . intro i v s2 m2 hv hn2 hm2 kp _
     have hv:us[i]?=some v:=by simpa using hv
     obtain⟨c0,t0,rfl⟩:=Nr i v hv
     show wpAny_tests_one (wpAny_isTrue_Compare1 (wpAny_Name (wpAny_loadName_local Ja JL hn2 hm2 ?_) hx0) U)
     have fin:wpAny (model X.prog X.w) X.A (compareOp .NotIn (.str c0 t0) (.ref T)) (fun c s3=>wpAny (model X.prog X.w) X.A (truthy c) (fun ok s'=>ok=kN xs (.str c0 t0)/\PySem.Keeps s2 s') (notedBy (model X.prog X.w) X.A (compEnvC sc (cG sc X.env) h3.objs.size X.env) fun e s'=>R (.error e) s') s3) (notedBy (model X.prog X.w) X.A (compEnvC sc (cG sc X.env) h3.objs.size X.env) fun e s'=>R (.error e) s') s2:=by
       have il:s2.heap.IsList T its.toArray:=⟨oT,kin _ _ eT _ kp,cT,nT,sT⟩
       show SeqAt.notIn_listAt (mZ (.str c0)) il (fun w hw=>eN (show RelV (.str c0) (.str c0 t0)from⟨t0,U⟩) rfl rT (cQ xs) w (by simpa using hw)) (wpAny_truthy_bool ⟨?_,s2.heap,s2.toks,U,fun t t e=>e⟩)
       change(!its.toArray.any (mZ (.str c0)))=!iN (.str c0) (xs.map V.str)
       rw[show its.toArray.any (mZ (.str c0))=its.any (mZ (.str c0))by simp,fY rT (cQ xs)]
       rfl
     have ic:s2.heap.IsCell c (some (.ref T)):=⟨oc,kin _ _ Ba _ kp,OZ⟩
     rcases kz with kz|kz
     . show wpAny_Name (wpAny_loadName_cell Ja kz L5 ic fin) hz0
     . show wpAny_Name (wpAny_loadName_free Ja kz L5 ic fin hz1) hz0
   . intro i v s2 m2 hv _ hn2 hm2 kp _
     show wpAny_Name (wpAny_loadName_local Ja JL hn2 hm2 ⟨U,s2.heap,s2.toks,U,fun t t e=>e⟩) hx0
   . intro h' tk m' ys vs hn2 _ hpl Bd PD hF kp
     have ev:vs=us:=AO (by rw[Bd,RH]) fun j v e=>by simpa using PD j v e
     subst ev
     show hR h' tk m' ys hn2 hpl hF fun b o e=>kin b o e _ kp
 have fin:∀(h':Heap) (tk:Nat) (m':Str->Option Value) (ys:Array Value),h'.Ns h3.objs.size m'->h'.PlainList eW.objs.size ys->Paired (fun v y=>v=y) (us.filter (kN xs)) ys.toList->(∀b o,s.heap.get? b=some o->h'.get? b=some o)->s.toks+cs.length<=tk ->
     wpAny (model X.prog X.w) X.A (assign (.Name y py) X.env (.ref eW.objs.size)) (fun t Ep=>∃m,Ep.heap.Ns h3.objs.size m/\∀F4,Sz h3.objs.size Ep.heap F4->wpAny (model X.prog X.w) X.A (execs rest X.env) (SP X pins D0) X.xe {Ep with heap:=F4}) X.xe {s with heap:=h',toks:=tk}:=by
   intro h' tk m' ys hn2 hpl hF kp htk
   obtain⟨n,hpl⟩:=hpl
   obtain⟨v1,v2⟩:=Nn _ hF
   have fl:(cs.filter fun c=>!iN (.str c) (xs.map V.str)).length<=sizeLine:=Ry (Wf _ _) Lq
   have Gx:h'.get? eW.objs.size=some {cls:=.type "list",data:=.seq ys.toList.toArray n}:=by rw[Array.toArray_toList];show hpl
   have I':=I.laid (t':=tk) (o:=.frz {cls:=.type "list",data:=.seq ys.toList.toArray n} (.lst ((cs.filter fun c=>!iN (.str c) (xs.map V.str)).map V.str))) kp (show s.heap.objs.size<=eW.objs.size by lia) ⟨Gx,by rw[Rn];show fl,_,n,v1,Gx⟩
   have hfr:H eW.objs.size=none:=I.hok.fresh (by lia)
   have O3:H h3.objs.size=none:=I.hok.fresh (by lia)
   have Js:Tks (s.toks+cs.length) (upd H eW.objs.size (.frz {cls:=.type "list",data:=.seq ys.toList.toArray n} (.lst ((cs.filter fun c=>!iN (.str c) (xs.map V.str)).map V.str)))) eW.objs.size (cs.filter fun c=>!iN (.str c) (xs.map V.str)):=⟨_,n,ae,fun u hu=>by have:=IK u (v2 u hu);show this⟩
   have qq:=q _ eW.objs.size _ hfr (fun b o e=>by rw[ah (ag e hfr)];show e) Js
   have Mm:(upd H eW.objs.size (.frz {cls:=.type "list",data:=.seq ys.toList.toArray n} (.lst ((cs.filter fun c=>!iN (.str c) (xs.map V.str)).map V.str)))) h3.objs.size=none:=by rw[ah (show h3.objs.size≠eW.objs.size by lia)];show O3
   generalize upd H eW.objs.size (.frz {cls:=.type "list",data:=.seq ys.toList.toArray n} (.lst ((cs.filter fun c=>!iN (.str c) (xs.map V.str)).map V.str)))=H' at I' qq Mm Js
   have I3:Inv X pins σ H {s with heap:=h3,toks:=s.toks}:=I.kept fun b o e=>k3 _ _ (k2 _ _ (k1 _ _ e))
   show wpAny_mono (wpAny_toks_of (n:=s.toks+cs.length) htk (wpAny_assign_Name (jv (v:=.ref eW.objs.size) (Q:=fun t s2=>Inv X pins (σ.set i (some (.ref eW.objs.size))) H' s2/\∃a,Sz a h' s2.heap/\(a=X.env.locals\/X.env.cells.lookup y=some a)) I' hN hix hy rfl (fun s2 I2 hch=>⟨I2,hch⟩) hf))) (fun t s2 z=>?_) fun t t z=>z.2
   obtain⟨t2,I2,a,KR,ha⟩:=z
   have OD:h3.objs.size≠a:=by
     rcases ha with z|z
     . rw[z];show Tg (RJ I.lt (by lia))
     . obtain⟨v,o,e,_⟩:=I.cell _ _ z
       show Tg (RJ (RD e) (by lia))
   show⟨m',hn2.sameBut KR OD,fun F4 KP=>h2 _ pins _ _ H' D0 (jk I3 I2 Mm KP) t2 qq⟩
 have lp:=fun R hR=>codeAny_with_toks (n:=s.toks+cs.length) (R:=R) (s:={s with heap:=h4,toks:=s.toks+cs.length+([]:List (Str×Value)).length}) (Rz _) (loop _ hR _ rfl)
 show codeAny_compStart_list (lp _ ?_) (W.self 0 _ _ _ BP (lp _ ?_))
 all_goals
   intro h' tk m' ys a1 a2 a3 a4 a5
   show wpAny_mono (fin h' tk m' ys a1 a2 a3 a4 a5) (fun t s2 h9=>?_) fun t t z=>z
   obtain⟨m2,b1,b2⟩:=h9
   show⟨m2,b1,fun F4 c1=>wpAny_pure (wpAny_pure (b2 F4 c1))⟩
end
def LO (X:Cx)(N:Nat)(e:Expr)(t:TE):Prop:=
 ∀(pins:List (Addr×Obj)) (s:Shared) (σ:St) (H:Hp) (Q:VK),Inv X pins σ H s->N<=s.toks->t σ H Q->wpAny (model X.prog X.w) X.A (eval e X.env) (EP X pins σ Q) X.xe s
def BZ (N:Nat)(to:TE)(y:Str)(tl ti:TE):TE:=fun σ H Q=>to σ H fun x H1=>∃z,x=.str z/\tl σ H1 fun a H2=>ti σ H2 fun iv H3=>∃(l:Addr) (i:Int) (c:Str) (xs:List Str),a=.ref l/\iv=.int i/\Tks N H3 l xs/\0<=i/\xs[i.toNat]?=some c/\(y==c)=false/\z.length+(z.length+1)*c.length<=16777216/\Q (.str (Vb z y c)) H3
section
variable{X:Cx}{N:Nat}{o l ix:Expr}{to tl ti:TE}{apos cpos p2:Pos}{y:Str}{j:Nat}{p:Pos}
def xr (ho:PE X o to)(hl:PE X l tl)(hi:PE X ix ti)(hs:jH ix)
   (hbase:Ss o "replace" X.env (eval o X.env)=eval o X.env) (hline:(apos.endLine==cpos.line)=true) :
   LO X N (.Call (.Attribute o "replace" apos) [.Constant (.str y) j p,.Subscript l ix p2] [] cpos) (BZ N to y tl ti):=by
 intro pins s σ H Q I hn h
 have e1:∀es,starEach (.Constant (.str y) j p::es) X.env=(false,eval (.Constant (.str y) j p) X.env)::starEach es X.env:=fun es=>(fJ (c:=.str y) (k:=j) (p:=p)).h es X.env
 have e2:starEach [.Subscript l ix p2] X.env=[(false,eval (.Subscript l ix p2) X.env)]:=(nF (a:=l) (b:=ix) (p:=p2)).h [] X.env
 show wpAny_Call_method_late hbase (by rw[e1,e2];rfl) hline rfl (wpAny_mono (wpAny_toks_of hn (ho pins s σ H _ I h)) (fun v s1 q=>?_) fun u u z=>z.2)
 obtain⟨n1,x,H1,I1,r1,z,rfl,q1⟩:=q
 obtain⟨h1,h2⟩:=qN (T:="str") I1 r1 rfl
 obtain⟨tz,rfl⟩:=r1
 show⟨"str","str.replace",Ux,PySem.F.slot_str_replace,PySem.F.type_str_replace,h1,h2,?_⟩
 rw[e1,e2]
 show Ts rfl (TL ?_)
 show Su (Vf (k:=j) (pos:=p) ?_)
 show Su (Subscript_ (bw (hl pins _ σ H1 _ (I1.tok _) q1) fun v2 s2 g9=>?_))
 obtain⟨a,H2,I2,r2,q2⟩:=g9
 show bw (hi pins s2 σ H2 _ I2 q2) fun iv s3 h9=>?_
 obtain⟨y3,H3,I3,r3,q3⟩:=h9
 obtain⟨la,i,c,xs,rfl,rfl,tk,i0,hc,PJ,hb,q3⟩:=q3
 cases r2
 obtain⟨Rc,rfl⟩:=r3
 obtain⟨its,n,eH,KU⟩:=tk
 obtain⟨eo,_,its',n',r',e'⟩ : s3.heap.get? la=_/\_/\_:=I3.hok la _ eH
 rw[eo]at e'
 have ed:its=its':=by
   injection e' with e'
   injection e' with _ _ e' _
   injection e' with e' _
   show List.toArray_inj e'
 subst ed
 have il:s3.heap.IsList la its.toArray:=⟨_,eo,rfl,_,rfl⟩
 obtain⟨w,ew,rw'⟩:=r'.get (show(xs.map V.str)[i.toNat]?=some (.str c)by rw[Sb,hc];rfl)
 obtain⟨tw,rfl⟩:=rw'
 obtain⟨t0,t1⟩:=KU _ (RL ew) c tw rfl
 have hl:=r'.length
 have oM:i.toNat<its.length:=(List.getElem?_eq_some_iff.mp ew).1
 have Q0:=ip
 have Q3:its.length<=sizeLine:=by
   rw[← hl]
   show(show _<=_ from(show bB X.prog X.w H3 s3.heap la (.lst (xs.map V.str))from(I3.hok la _ eH).2).1)
 show item_listR il i0 (by lia) (by simpa using ew) (Tc ?_) (hs _ _)
 show SC.replace (fun z=>?_) (fun z=>?_) (fun z=>?_) PJ hb fun t' k=>⟨.str _,H3,I3.tok _,⟨_,U⟩,q3⟩
 . have z:s1.toks=0:=z
   lia
 . show au z (Tg t0)
 . show au z (Tg (RJ t1 n1))
def xC {e:Expr}{te:TE}{k:Int}{x1:Nat}{pos pr:Pos}(h:LO X N e te)(hs:bL e):pH X N [.Return (some (.Tuple [.Constant (.int k) j p,e] x1 pos)) pr] (fun D σ H=>te σ H fun v H1=>∀q,H1 q=none->D.rt (.ref q) (upd H1 q (.tup [.int k,v]))):=by
 intro pins s σ H D I hn q
 have e1:∀es,starEach (.Constant (.int k) j p::es) X.env=(false,eval (.Constant (.int k) j p) X.env)::starEach es X.env:=fun es=>(fJ (c:=.int k) (k:=j) (p:=p)).h es X.env
 have e2:starEach [e] X.env=[(false,eval e X.env)]:=hs.h [] X.env
 show T2 (wpAny_Return_some (wpAny_Tuple_spliced ?_))
 rw[e1,e2]
 show Su (wpAny_Constant_int (k:=j) (pos:=p) ?_)
 show Su (bw (h pins _ σ H _ (I.tok _) (show N<=s.toks+1 by lia) q) fun u s1 g9=>?_)
 obtain⟨x,H1,I1,r1,q1⟩:=g9
 show Tc ⟨by change 2<=sizeLine;decide,?_⟩
 have hf:H1 s1.heap.objs.size=none:=I1.hok.fresh (Rz _)
 show⟨.ref s1.heap.objs.size,σ,upd H1 s1.heap.objs.size (.tup [.int k,x]),I1.laid (t':=s1.toks) (fun b u e=>Rr _ e) (Rz _) ?_,U,q1 _ hf⟩
 show⟨by change 2<=sizeLine;decide,_,.cons ⟨_,U⟩ (.cons r1 .nil),⟨_,RK _ rfl,U,_,U⟩⟩
end
end L2
namespace L3
open PySem PySem.Spec PyProof.Rows L2
structure E6 (X:Cx)(N:Nat)(ss:List Stmt)(t:TS):Prop where
 h:pH X N ss t
section
variable{X:Cx}{st:Stmt}{rest:List Stmt}{u1 u2:TS}{N:Nat}
def gF (h1:SS X st u1)(h2:E6 X N rest u2):E6 X N (st::rest) (fQ u1 u2):=⟨uC h1.h h2.h⟩
theorem first {x:Str}{a:Expr}{ta:TE}{op:V5}{r:R2}{k:Int}{j:Nat}{p p2 pos' pos:Pos}(i:Nat)(hN:X.N.Nodup)(ho:SO X (binaryOp op) r)(ha:SE X a ta)(h2:E6 X 1 rest u2)(hi:X.N[i]?=some x:=by rfl)(hx:Loc X.env.scope x:=by first|show Or.inl rfl|show Or.inr rfl)
   (hs:Tw (.BinOp a op (.Constant (.int k) j p2) p) (some (.Name x pos')) pos.line X.env=pure false:=by rfl) (hf:X.fn x=true\/X.env.scope.names.lookup x=some .local:=by first|show .inl rfl|show .inr rfl) :
   SL X (.Assign [.Name x pos'] (.BinOp a op (.Constant (.int k) j p2) p) pos::rest) (fQ (lR (yA r ta (tC (.int k))) (cI i)) u2):=⟨uD hN hi hx ho.h ha.h h2.h hs hf⟩
def pick {KK:Ro}{es:List Expr}{cs:List Str}{u:Nat->TS}{x y z:Str}{px p1 p2 p3 p4 pl py pos da:Pos}{sc:Scope}(i j:Nat)(S:bp sc X.env.scope)(hN:X.N.Nodup)(h2:∀N,E6 X N rest (u N))(L8:pE es cs:=by repeat' constructor)(hc:X.calm=true:=by rfl)(hxl:sc.names.lookup x=some .local:=by right)(hzf:sc.names.lookup z=some .free:=by right)(hcs:cs.length<=1000:=by left)
   (hix:X.N[i]?=some y:=by rfl) (hjz:X.N[j]?=some z:=by rfl) (hy:Loc X.env.scope y:=by first|show Or.inl rfl|show Or.inr rfl) (hx0:(x==("__debug__":Str))=false:=by left) (hz0:(z==("__debug__":Str))=false:=by left) (hz1:(z==("__classdict__":Str))=false:=by left)
   (hsw:Tw (.ListComp (.Name x p1) [⟨.Name x px,.List es pl,[.Compare (.Name x p2) [.NotIn] [.Name z p3] p4],0⟩] sc pos) (some (.Name y py)) da.line X.env=pure true:=by rfl)
   (hs:∀v,Sg (.List es pl) X.env v=pure v:=by intro _;rfl) (hf:X.fn y=true\/X.env.scope.names.lookup y=some .local:=by first|show .inl rfl|show .inr rfl) (hK:X.K=KK:=by first|show br|rfl) :
   E6 X 1 (.Assign [.Name y py] (.ListComp (.Name x p1) [⟨.Name x px,.List es pl,[.Compare (.Name x p2) [.NotIn] [.Name z p3] p4],0⟩] sc pos) da::rest) (BY KK cs i j u):=by
 subst hK
 show⟨xE hc S hxl hzf L8 hcs hN hix hjz hy hx0 hz0 hz1 hsw hs hf fun N=>(h2 N).h⟩
def Av {o l ix:Expr}{to tl ti:TE}{apos cpos p p2 p3 pos pr:Pos}{y:Str}{j j2 x1:Nat}{k:Int}(ho:SE X o to)(hl:SE X l tl)(hi:SE X ix ti)(hs:jH ix:=by show fun z z=>rfl)
   (hbase:Ss o "replace" X.env (eval o X.env)=eval o X.env:=by rfl) (hline:(apos.endLine==cpos.line)=true:=by rfl) :
   E6 X N [.Return (some (.Tuple [.Constant (.int k) j2 p3,.Call (.Attribute o "replace" apos) [.Constant (.str y) j p,.Subscript l ix p2] [] cpos] x1 pos)) pr] (fun D σ H=>BZ N to y tl ti σ H fun v H1=>∀q,H1 q=none->D.rt (.ref q) (upd H1 q (.tup [.int k,v]))):=
 ⟨xC (xr ho.h hl.h hi.h hs hbase hline) jO⟩
def Lk {p2 pos:Pos}{a b:Expr}{ta tb:TE}(ha:SE X a ta)(hb:SE X b tb):SE X (.Subscript a (.Slice (some b) none none p2) pos) (EM Eg ta (jc tb) jb):=⟨eP x9 ha.h (d8 hb.h) jS⟩
end
end L3
open L3 renaming v->Y,k->L,n->M,int->Ws,op->Wt,str->Wu,cons->Wv,one->Ww,cmp->Wx,set->Wy,ix->Wz,own->WA,ifs->WB,ret->WC,lst->WD,nil->WE,aO->WG,tup->WH,gn->WI,aX->WJ,dw->WK,bF->WL,eX->WM,bt->WN,bu->WO,gw->WQ,bj->WS,bO->WT,glob->WU,tw->WV,iL->WW,fC->WX,dk->WY,pB->WZ,ex->W0,pO->W2,dC->W4,dM->W5,gX->W6,dZ->W7,jF->W8,fu->W9,dN->Xa,kF->Xb,kO->Xd,bl->Xe,gM->Xf,gF->Xg,run->Xh,nH->Xi,asg->Xj,lc->Xk,oY->Xl,jA->Xm,oZ->Xn,fU->Xo,jw->Xp,Dy->Xq,fld->Xr,dS->Xs,append->Xt,iR->Xu,kZ->Xv,my->Xw,uR->Xx,fs->Xy,Fl->Xz,Fi->XA,neg->XB,u7->XC,bI->XD,FP->XE,never->XI
set_option maxHeartbeats 1000000
namespace TW
open PySem L2
section
variable{P:Program}{w:World}{K:Ro}{mg:Str->Option Value}{base:Heap}
def lN {us:List Value}{n:Nat}(h:us.length=n+1):∃a t,us=a::t/\t.length=n:=by
 cases us with
 | nil=>cases h
 | cons a t=>show⟨a,t,rfl,Nat.succ.inj h⟩
def lG {x qual:Str}{st:Stmt}{f:Addr}{fd:RZ}{p0:Str}(F:cD K x qual st f fd)(h:∀(kV doc pm:Value) (an:Option Addr) (cdv ct u0:Value),V3 (S6 x qual (dt st) (ck st) (ao st) .none kV doc pm an cdv ct) ⟨[u0],[]⟩=pure (([p0]:List Str).zip [u0])):Binds K fd [p0] []:=F.binds fun kV doc pm an cdv ct us hl=>by
 obtain⟨u0,Lx,rfl,h1⟩:=lN hl
 cases List.length_eq_zero_iff.mp h1
 show h kV doc pm an cdv ct u0
def lH {x qual:Str}{st:Stmt}{f:Addr}{fd:RZ}{p0 p1:Str}(F:cD K x qual st f fd)(h:∀(kV doc pm:Value) (an:Option Addr) (cdv ct u0 u1:Value),V3 (S6 x qual (dt st) (ck st) (ao st) .none kV doc pm an cdv ct) ⟨[u0,u1],[]⟩=pure (([p0,p1]:List Str).zip [u0,u1])):Binds K fd [p0,p1] []:=F.binds fun kV doc pm an cdv ct us hl=>by
 obtain⟨u0,Lx,rfl,h1⟩:=lN hl
 obtain⟨u1,Nq,rfl,h2⟩:=lN h1
 cases List.length_eq_zero_iff.mp h2
 show h kV doc pm an cdv ct u0 u1
def Ci {x qual:Str}{st:Stmt}{f:Addr}{fd:RZ}{p0 p1 p2:Str}(F:cD K x qual st f fd)(h:∀(kV doc pm:Value) (an:Option Addr) (cdv ct u0 u1 u2:Value),V3 (S6 x qual (dt st) (ck st) (ao st) .none kV doc pm an cdv ct) ⟨[u0,u1,u2],[]⟩=pure (([p0,p1,p2]:List Str).zip [u0,u1,u2])):Binds K fd [p0,p1,p2] []:=F.binds fun kV doc pm an cdv ct us hl=>by
 obtain⟨u0,Lx,rfl,h1⟩:=lN hl
 obtain⟨u1,Nq,rfl,h2⟩:=lN h1
 obtain⟨u2,QK,rfl,h3⟩:=lN h2
 cases List.length_eq_zero_iff.mp h3
 show h kV doc pm an cdv ct u0 u1 u2
def Cj {x qual:Str}{st:Stmt}{f:Addr}{fd:RZ}{p0 p1 p2 p3:Str}(F:cD K x qual st f fd)(h:∀(kV doc pm:Value) (an:Option Addr) (cdv ct u0 u1 u2 u3:Value),V3 (S6 x qual (dt st) (ck st) (ao st) .none kV doc pm an cdv ct) ⟨[u0,u1,u2,u3],[]⟩=pure (([p0,p1,p2,p3]:List Str).zip [u0,u1,u2,u3])):Binds K fd [p0,p1,p2,p3] []:=F.binds fun kV doc pm an cdv ct us hl=>by
 obtain⟨u0,Lx,rfl,h1⟩:=lN hl
 obtain⟨u1,Nq,rfl,h2⟩:=lN h1
 obtain⟨u2,QK,rfl,h3⟩:=lN h2
 obtain⟨u3,Rg,rfl,h4⟩:=lN h3
 cases List.length_eq_zero_iff.mp h4
 show h kV doc pm an cdv ct u0 u1 u2 u3
def top (i:Nat):Stmt:=PySem.Challenge.pw_twinwalk_k73_rows_of_no_program.main.body.getD i (.Pass ⟨0,0,0,0⟩)
abbrev BB:Stmt:=top 45
def TK.lst {H:Hp}{a:Addr}{xs:List V}{o:HO}(h:H a=some (.lst xs)):TK H (upd H a o):=fun b ys e=>by rw[ah (Bl e h (fun z=>nomatch z))];show e
theorem gk {α β:Type}(f:α->β):∀(l:List α) (i:Nat),(l.eraseIdx i).map f=(l.map f).eraseIdx i
 | [],_=>rfl
 | _::_,0=>rfl
 | a::r,i+1=>by simp only[V8,R3,gk f r i]
theorem Paired.get {α β:Type}{F:α->β->Prop}:∀{l₁:List α} {l₂:List β} {i:Nat} {x:α},Paired F l₁ l₂->l₁[i]?=some x->∃y,l₂[i]?=some y/\F x y
 | _,_,_,_,.nil,e=>by simp at e
 | _,_,0,_,.cons r _,e=>by simp at e;subst e;show⟨_,rfl,r⟩
 | _,_,i+1,x,.cons _ t,e=>by
   obtain⟨u,h1,h2⟩:=Paired.get (i:=i) (x:=x) t (by simpa using e)
   show⟨u,by simpa using h1,h2⟩
def de {σ:L2.St}{H:Hp}{A B:Hp->Prop}(h:A H):EJ σ H (fun b H3=>if b=true then A H3 else B H3):=b6 (A:=A H) (B:=B H) h
def ak {i:Nat}{v:V}{σ:L2.St}{H:Hp}{Q:L2.St->Hp->Prop}(h:Q (σ.set i (some v)) H):cI i v σ H Q:=h
def aa {A B C:Hp}(a:ai A B)(b:ai B C):ai A C:=fun p o h=>b p o (a p o h)
def same_refl (A:Hp):ai A A:=fun z z h=>h
def aZ {H:Hp}{p:Addr}(h:H p=none)(o:HO):∃H1,ai H H1/\H1 p=some o/\upd H p o=H1:=⟨_,af h o,ae,rfl⟩
def ML {H:Hp}{p q:Addr}{o:HO}(h:H p=none)(k:upd H p o q=none)(o2:HO):∃H1,ai H H1/\H1 p=some o/\H1 q=some o2/\upd (upd H p o) q o2=H1:=⟨_,fun b u e=>af k o2 b u (af h o b u e),by rw[ah (ag ae k)];show ae,ae,rfl⟩
abbrev QP (s:Stmt)(x:Str):Prop:=(ao s).names.lookup x=some .globalImplicit
def oa (s:Stmt){sc:Scope}(a:sc.kind=.function:=by rfl)(b:∀y∈sc.names,y.2≠.cell:=by right)(c:∀x∈sc.names,x.2=.local->sc.names.lookup x.1=some .local:=by right)(d:∀x∈sc.names,x.2=.free->(ao s).names.lookup x.1=some .cell\/(ao s).names.lookup x.1=some .free:=by right):bp sc (ao s):=⟨a,b,c,d⟩
def jr (l:List Str)(h:l.Nodup:=by right):l.Nodup:=h
def cy {α:Type}{l:List α}{i:Nat}{a:α}(h:l[i]?=some a):i<l.length:=(List.getElem?_eq_some_iff.mp h).1
def cv {α:Type}{a b:α}{l:List α}(h:a∈b::l):a=b\/a∈l:=List.mem_cons.mp h
def zq {α:Type}{a b:α}{l:List α}(h:a=b\/a∈l):a∈b::l:=List.mem_cons.mpr h
def di {α:Type}{a b:α}(h:a∈[b]):a=b:=List.mem_singleton.mp h
def fc {α β:Type}{f:α->β}{b:β}{l:List α}(h:b∈l.map f):∃a,a∈l/\f a=b:=List.mem_map.mp h
def C6 {α β:Type}{f:α->β}{b:β}{l:List α}(h:∃a,a∈l/\f a=b):b∈l.map f:=List.mem_map.mpr h
def ez {α:Type}{a:α}{l m:List α}(h:a∈l++m):a∈l\/a∈m:=List.mem_append.mp h
def Qa {α:Type}{a:α}{l m:List α}(h:a∈l\/a∈m):a∈l++m:=List.mem_append.mpr h
def aS {H H':Hp}{a:Addr}(s:ai H H')(h:H' a=none):H a=none:=by
 match e:H a with
 | none=>rfl
 | some o=>rw[s _ _ e]at h;cases h
def bo {H H':Hp}{a:Addr}{o:HO}(s:ai H H')(h:H a=none):ai H (upd H' a o):=fun b u e=>by rw[ah (ag e h)];show s b u e
def az {H H':Hp}{a:Addr}{o:HO}(s:ai H H')(h:H' a=none):ai H (upd H' a o):=bo s (aS s h)
def bU {α:Type}(f:α->V)(xs:List α){r:Int}(h0:0<=r)(h1:r<(xs.length:Int)):∃x,xs[r.toNat]?=some x/\x∈xs/\iz (xs.map f) r=some (f x):=by
 have hr:r.toNat<xs.length:=by lia
 have e:r=((r.toNat:Nat):Int):=by lia
 have q:iz (xs.map f) ((r.toNat:Nat):Int)=some (f xs[r.toNat]):=f6 (by rw[Sb,RQ hr];rfl)
 rw[← e]at q
 show⟨xs[r.toNat],RQ hr,List.getElem_mem hr,q⟩
def vc {xs:List V}{r:Int}(h0:0<=r)(h1:r<(xs.length:Int)):∃x,xs[r.toNat]?=some x/\iz xs r=some x:=by
 have hr:r.toNat<xs.length:=by lia
 have e:r=((r.toNat:Nat):Int):=by lia
 have q:iz xs ((r.toNat:Nat):Int)=some xs[r.toNat]:=f6 (RQ hr)
 rw[← e]at q
 show⟨xs[r.toNat],RQ hr,q⟩
def n5 (K:Ro):Sp:=fun vs H Q z=>∃(a:Addr) (ns:List Int) (k:Int),vs=[.ref a,.int k]/\aH K H a (ns.map V.int)/\0<=k/\∀c:Int,Q (.int c) H
def Ew:aC ["script","k"] ["script","k"] (ao BB):=eU
def bR {K:Ro}{H:Hp}{p:Addr}{xs:List V}{k:Int}{z:V}{R:V->Prop}(hq:H p=some (.tup xs))(he:iz xs k=some z)(q:R z):∃p' EV j z,V.ref p=.ref p'/\V.int k=.int j/\bS K H p' EV/\iz EV j=some z/\R z:=⟨p,xs,k,z,rfl,rfl,bS.of hq,he,q⟩
def cH {K:Ro}{H:Hp}{p:Addr}{xs:List V}{k:Int}{z:V}{R:V->Prop}(hq:H p=some (.lst xs))(he:iz xs k=some z)(q:R z):∃p' EV j z,V.ref p=.ref p'/\V.int k=.int j/\aH K H p' EV/\iz EV j=some z/\R z:=⟨p,xs,k,z,rfl,rfl,aH.of hq,he,q⟩
def yC {K:Ro}{H:Hp}{σ:L2.St}{Q:L2.St->Hp->Prop}{a:Addr}{x y:V}{i j:Nat}(h:H a=some (.tup [x,y]))(q:Q ((σ.set i (some x)).set j (some y)) H):zb K 2 (kB (cI i) (kB (cI j) y9)) (.ref a) σ H Q:=⟨a,_,rfl,bS.of h,rfl,_,_,rfl,_,_,rfl,rfl,q⟩
def QF {K:Ro}{H:Hp}{σ:L2.St}{Q:L2.St->Hp->Prop}{a:Addr}{x y z:V}{i j k:Nat}(h:H a=some (.tup [x,y,z]))(q:Q (((σ.set i (some x)).set j (some y)).set k (some z)) H):zb K 3 (kB (cI i) (kB (cI j) (kB (cI k) y9))) (.ref a) σ H Q:=⟨a,_,rfl,bS.of h,rfl,_,_,rfl,_,_,rfl,_,_,rfl,rfl,q⟩
def Oe {K:Ro}{H:Hp}{a C dx:Addr}{fs:List (Str×V)}{f:Str}{v:V}{R:V->Prop}(h:H a=some (.ins C dx fs))(c:pq K C)(n:cO K C f)(l:fs.lookup f=some v)(q:R v):∃a' C' FR y7 v,V.ref a=.ref a'/\H a'=some (.ins C' FR y7)/\pq K C'/\cO K C' f/\y7.lookup f=some v/\R v:=⟨a,C,dx,fs,v,rfl,h,c,n,l,q⟩
def zJ {f:Addr}{fd:RZ}(F:cD K "_law_cell_at" "_law_cell_at" BB f fd)(m_len:mg "len"=none):aY P w K mg base dq 1 f fd ["script","k"] (n5 K):=by
 show F.iU Ew fun cdv A outer s H vs Q E hr h=>?_
 obtain⟨a,ns,k,rfl,hs,h0,q⟩:=h
 show⟨_,Xh (Wv (WB (Wx Xl (Y 1) (WJ WO U m_len RG (L (Y 0) M))) (Ww (WC (Wz WK (Y 0) (Y 1)))) WE)
   (Ww (WC Ws))),?_⟩
 show⟨_,U,_,U,a,_,U,.inl hs,_,_,U,U,_,U,?_⟩
 show aG (fun c=>?_) (fun z=>q 0)
 have hk:k<((ns.map V.int).length:Int):=jg c
 rw[Rn]at hk
 obtain⟨x,_,_,dg⟩:=bU V.int ns h0 hk
 show⟨_,U,_,U,a,_,_,_,U,U,hs,dg,q x⟩
def aq {u1 u2:TS}{D:L2.Ends}{σ:L2.St}{H:Hp}(h:∀R:L2.St->Hp->Prop,(∀σ H,u2 D σ H->R σ H)->u1 {D with nx:=R} σ H):fQ u1 u2 D σ H:=h _ fun y y z=>z
def tu {u1 u2 u3:TS}{D:L2.Ends}{σ:L2.St}{H:Hp}(h:∀R:L2.St->Hp->Prop,(∀σ H,u3 D σ H->R σ H)->fQ u1 (fQ u2 fun y=>R) D σ H):fQ u1 (fQ u2 u3) D σ H:=h (u3 D) fun y y z=>z
def JO {u1 u2 u3 u4:TS}{D:L2.Ends}{σ:L2.St}{H:Hp}(h:∀R:L2.St->Hp->Prop,(∀σ H,u4 D σ H->R σ H)->fQ u1 (fQ u2 (fQ u3 fun y=>R)) D σ H):fQ u1 (fQ u2 (fQ u3 u4)) D σ H:=h (u4 D) fun y y z=>z
def ig {X:Cx}{ss:List Stmt}{G:TS->Prop}(h:∃t,L3.SL X ss t/\G t):∃t,lD X ss t/\G t:=by obtain⟨t,a,b⟩:=h;show⟨t,a.h,b⟩
def aw {F:L2.St->Hp->Prop}{σ:L2.St}{H:Hp}(σ':L2.St)(e:σ=σ')(h:F σ' H):F σ H:=by subst e;show h
def rJ {F:L2.St->Hp->Prop}{σ:L2.St}{H:Hp}(H':Hp)(e:H=H')(h:F σ H'):F σ H:=by subst e;show h
def aP {k n:Int}(h:0<n):0<=k%n:=Int.emod_nonneg _ (by lia)
def aQ {k n:Int}(h:0<n):k%n<n:=Int.emod_lt_of_pos _ h
def CP {a b:Int}(c:decide (V.int a=V.int b)=true):a=b:=by have:=jg c;injection this
def CQ {a b:Int}(c:¬ decide (V.int a=V.int b)=true):a≠b:=fun z=>c (hW (by rw[z]))
def qR {P:V->Prop}{xs:List V}{r:Int}(h0:0<=r)(h1:r<(xs.length:Int))(h:∀x∈xs,P x):∃x,iz xs r=some x/\P x:=let⟨x,h2,h3⟩:=vc h0 h1;⟨x,h3,h x (RL h2)⟩
inductive Np where
 | put (x:Str) (s:E) (n:Int)|say (s:E) (n:Int)|test (c:E) (n o:Int)|pick (x:Str) (n:Int)|fin
def b8 (H:Hp):V->Np->Prop
 | v,.put x s n=>∃u,Tp H v [.str "put",.str x,u,.int n]/\cJ H u s
 | v,.say s n=>∃u,Tp H v [.str "say",u,.int n]/\cJ H u s
 | v,.test c n o=>∃u,Tp H v [.str "test",u,.int n,.int o]/\cJ H u c
 | v,.pick x n=>Tp H v [.str "pick",.str x,.int n]
 | v,.fin=>Tp H v [.str "end"]
theorem b8.keep {H H':Hp}(k:TK H H'):∀{e:Np} {v:V},b8 H v e->b8 H' v e
 | .put _ _ _,_,⟨u,h,a⟩=>⟨u,h.keep k,a.keep k⟩
 | .say _ _,_,⟨u,h,a⟩=>⟨u,h.keep k,a.keep k⟩
 | .test _ _ _,_,⟨u,h,a⟩=>⟨u,h.keep k,a.keep k⟩
 | .pick _ _,_,h=>Tp.keep k h
 | .fin,_,h=>Tp.keep k h
def cX {α β:Type}{f:α->β}{l:List α}{i:Nat}{y:β}(h:(l.map f)[i]?=some y):∃x,l[i]?=some x/\y=f x:=by
 rw[Sb]at h
 obtain⟨x,h1,h2⟩:=Option.map_eq_some_iff.mp h
 show⟨x,h1,h2.symm⟩
abbrev BF:Stmt:=top 46
def cm:Sp:=fun vs H Q z=>∃c k:Int,vs=[.int c,.int k]/\0<=k/\k<2^40/\∀r:Int,0<=r->r<268435456->Q (.int r) H
def qG:aC ["cell","k","number"] ["cell","k"] (ao BF):=eU
def zS {f:Addr}{fd:RZ}(F:cD K "_law_stir" "_law_stir" BF f fd):aY P w K mg base dq 1 f fd ["cell","k"] cm:=by
 show F.iU qG fun cdv A outer s H vs Q E hr h=>?_
 obtain⟨c,k,rfl,k0,k1,q⟩:=h
 show ig ⟨_,(Wv (WB (Wx L3.GY (Y 0) (Wt Xm Ws Ws)) (Ww (WC (Wt WG (Wt L3.G1 (Wt Xw (Y 0) (Wt Xm Ws Ws)) (Wt WY Ws (Y 1))) (Wt Xm Ws Ws)))) WE)
   (Wv (Wy 2 qG.nd (Wt WG (Wt WY (Wt WN (Wt WN (Y 0) (Wt WY Ws (Y 1))) Ws) Ws) Ws))
   (Wv (Wy 2 qG.nd (Wt WG (Wt WY (Y 2) (Y 2)) Ws))
   (Ww (WC (Wt WT (Wt WG (Wt WY (Y 2) Ws) Ws) Ws)))))),?_⟩
 show aq fun Rk kR=>?_
 show⟨_,U,_,_,U,U,⟨by left,by left,by left⟩,_,_,U,U,_,U,?_⟩
 show aG (fun z=>?_) (fun z=>?_)
 . show⟨_,U,_,_,U,U,⟨by left,by left,by left⟩,_,_,U,U,_,U,_,_,U,U,.inr ⟨by lia,by lia⟩,_,_,U,U,(by change 0<=28*k;lia),?_⟩
   show⟨_,_,U,U,⟨by left,by left,by left⟩,_,_,U,U,(by change(0:Int)<2^28;decide),?_⟩
   show q _ (aP (by left)) (aQ (by left))
 show kR _ _ (aq fun Rk kR=>?_)
 show⟨_,U,_,U,_,_,U,U,.inr ⟨by lia,by lia⟩,_,_,U,U,_,_,U,U,_,_,U,U,.inr ⟨by left,by left⟩,_,_,U,U,(by change(0:Int)<2147483647;decide),?_⟩
 obtain⟨b,eb,b0,b1⟩ : ∃b,b=(c+1013*k+1)*16807%2147483647/\0<=b/\b<2147483647:=⟨_,rfl,aP (by left),aQ (by left)⟩
 show ak (kR _ _ ?_)
 show aw [some (.int c),some (.int k),some (.int b)] (by subst eb;rfl) ?_
 show aq fun Rk kR=>?_
 show⟨_,U,_,U,_,_,U,U,.inl ⟨by lia,by lia⟩,_,_,U,U,(by change(0:Int)<2147483629;decide),?_⟩
 show ak (kR _ _ ?_)
 show⟨_,U,_,_,U,U,.inr ⟨by left,by left⟩,_,_,U,U,(by change(0:Int)<2147483587;decide),_,_,U,U,⟨by left,by right⟩,?_⟩
 obtain⟨a,ea,a0,a1⟩ : ∃a,a=b*b%2147483629*39373%2147483587/\0<=a/\a<2147483587:=⟨_,rfl,aP (by left),aQ (by left)⟩
 show q (b*b%2147483629*39373%2147483587/8) ?_ ?_<;>rw[← ea]<;>lia
end
end TW
namespace TW
open PySem L2
def pK (K:Ro)(mg:Str->Option Value)(x:Str)(xs:List Str):Prop:=∃t,mg x=some (.ref t)/\∀H:Hp,bS K H t (xs.map V.str)
def sX {K:Ro}{C:Addr}{cd:ClassData}{l:List Value}(h:U4 K C=some cd)(m:cd.mro=l):mV K C=some l:=by
 unfold U4 at h
 unfold mV
 split at h
 . rename_i e
   cases h
   rw[e,← m]
 . cases h
structure LU (K:Ro)(mg:Str->Option Value)(T aV aI aL aM aj aE aU aD aT aK aJ:Addr):Prop where
 t:Xc K mg "TwinError" T vE
 x_NoPair:Xc K mg "NoPair" aV (.ref T::vE)
 k_NoPair:qQ K aV
 o_NoPair:Sv K (.ref aV) []=some false
 v_NoPair:Rq K (.ref aV) (.type "ValueError")=some true
 i_NoPair_NoPair:Rq K (.ref aV) (.ref aV)=some true
 i_NoPair_NoPaper:Rq K (.ref aV) (.ref aI)=some false
 i_NoPair_TooMany:Rq K (.ref aV) (.ref aL)=some false
 i_NoPair_NoRow:Rq K (.ref aV) (.ref aM)=some false
 i_NoPair_NoProgram:Rq K (.ref aV) (.ref aj)=some false
 i_NoPair_NoWorths:Rq K (.ref aV) (.ref aE)=some false
 i_NoPair_NoNode:Rq K (.ref aV) (.ref aU)=some false
 i_NoPair_NoChange:Rq K (.ref aV) (.ref aD)=some false
 i_NoPair_NoForm:Rq K (.ref aV) (.ref aT)=some false
 i_NoPair_NoneYet:Rq K (.ref aV) (.ref aK)=some false
 i_NoPair_NoPicks:Rq K (.ref aV) (.ref aJ)=some false
 x_NoPaper:Xc K mg "NoPaper" aI (.ref T::vE)
 k_NoPaper:qQ K aI
 o_NoPaper:Sv K (.ref aI) []=some false
 v_NoPaper:Rq K (.ref aI) (.type "ValueError")=some true
 i_NoPaper_NoPair:Rq K (.ref aI) (.ref aV)=some false
 i_NoPaper_NoPaper:Rq K (.ref aI) (.ref aI)=some true
 i_NoPaper_TooMany:Rq K (.ref aI) (.ref aL)=some false
 i_NoPaper_NoRow:Rq K (.ref aI) (.ref aM)=some false
 i_NoPaper_NoProgram:Rq K (.ref aI) (.ref aj)=some false
 i_NoPaper_NoWorths:Rq K (.ref aI) (.ref aE)=some false
 i_NoPaper_NoNode:Rq K (.ref aI) (.ref aU)=some false
 i_NoPaper_NoChange:Rq K (.ref aI) (.ref aD)=some false
 i_NoPaper_NoForm:Rq K (.ref aI) (.ref aT)=some false
 i_NoPaper_NoneYet:Rq K (.ref aI) (.ref aK)=some false
 i_NoPaper_NoPicks:Rq K (.ref aI) (.ref aJ)=some false
 x_TooMany:Xc K mg "TooMany" aL (.ref T::vE)
 k_TooMany:qQ K aL
 o_TooMany:Sv K (.ref aL) []=some false
 v_TooMany:Rq K (.ref aL) (.type "ValueError")=some true
 i_TooMany_NoPair:Rq K (.ref aL) (.ref aV)=some false
 i_TooMany_NoPaper:Rq K (.ref aL) (.ref aI)=some false
 i_TooMany_TooMany:Rq K (.ref aL) (.ref aL)=some true
 i_TooMany_NoRow:Rq K (.ref aL) (.ref aM)=some false
 i_TooMany_NoProgram:Rq K (.ref aL) (.ref aj)=some false
 i_TooMany_NoWorths:Rq K (.ref aL) (.ref aE)=some false
 i_TooMany_NoNode:Rq K (.ref aL) (.ref aU)=some false
 i_TooMany_NoChange:Rq K (.ref aL) (.ref aD)=some false
 i_TooMany_NoForm:Rq K (.ref aL) (.ref aT)=some false
 i_TooMany_NoneYet:Rq K (.ref aL) (.ref aK)=some false
 i_TooMany_NoPicks:Rq K (.ref aL) (.ref aJ)=some false
 x_NoRow:Xc K mg "NoRow" aM (.ref T::vE)
 k_NoRow:qQ K aM
 o_NoRow:Sv K (.ref aM) []=some false
 v_NoRow:Rq K (.ref aM) (.type "ValueError")=some true
 i_NoRow_NoPair:Rq K (.ref aM) (.ref aV)=some false
 i_NoRow_NoPaper:Rq K (.ref aM) (.ref aI)=some false
 i_NoRow_TooMany:Rq K (.ref aM) (.ref aL)=some false
 i_NoRow_NoRow:Rq K (.ref aM) (.ref aM)=some true
 i_NoRow_NoProgram:Rq K (.ref aM) (.ref aj)=some false
 i_NoRow_NoWorths:Rq K (.ref aM) (.ref aE)=some false
 i_NoRow_NoNode:Rq K (.ref aM) (.ref aU)=some false
 i_NoRow_NoChange:Rq K (.ref aM) (.ref aD)=some false
 i_NoRow_NoForm:Rq K (.ref aM) (.ref aT)=some false
 i_NoRow_NoneYet:Rq K (.ref aM) (.ref aK)=some false
 i_NoRow_NoPicks:Rq K (.ref aM) (.ref aJ)=some false
 x_NoProgram:Xc K mg "NoProgram" aj (.ref T::vE)
 k_NoProgram:qQ K aj
 o_NoProgram:Sv K (.ref aj) []=some false
 v_NoProgram:Rq K (.ref aj) (.type "ValueError")=some true
 i_NoProgram_NoPair:Rq K (.ref aj) (.ref aV)=some false
 i_NoProgram_NoPaper:Rq K (.ref aj) (.ref aI)=some false
 i_NoProgram_TooMany:Rq K (.ref aj) (.ref aL)=some false
 i_NoProgram_NoRow:Rq K (.ref aj) (.ref aM)=some false
 i_NoProgram_NoProgram:Rq K (.ref aj) (.ref aj)=some true
 i_NoProgram_NoWorths:Rq K (.ref aj) (.ref aE)=some false
 i_NoProgram_NoNode:Rq K (.ref aj) (.ref aU)=some false
 i_NoProgram_NoChange:Rq K (.ref aj) (.ref aD)=some false
 i_NoProgram_NoForm:Rq K (.ref aj) (.ref aT)=some false
 i_NoProgram_NoneYet:Rq K (.ref aj) (.ref aK)=some false
 i_NoProgram_NoPicks:Rq K (.ref aj) (.ref aJ)=some false
 x_NoWorths:Xc K mg "NoWorths" aE (.ref T::vE)
 k_NoWorths:qQ K aE
 o_NoWorths:Sv K (.ref aE) []=some false
 v_NoWorths:Rq K (.ref aE) (.type "ValueError")=some true
 i_NoWorths_NoPair:Rq K (.ref aE) (.ref aV)=some false
 i_NoWorths_NoPaper:Rq K (.ref aE) (.ref aI)=some false
 i_NoWorths_TooMany:Rq K (.ref aE) (.ref aL)=some false
 i_NoWorths_NoRow:Rq K (.ref aE) (.ref aM)=some false
 i_NoWorths_NoProgram:Rq K (.ref aE) (.ref aj)=some false
 i_NoWorths_NoWorths:Rq K (.ref aE) (.ref aE)=some true
 i_NoWorths_NoNode:Rq K (.ref aE) (.ref aU)=some false
 i_NoWorths_NoChange:Rq K (.ref aE) (.ref aD)=some false
 i_NoWorths_NoForm:Rq K (.ref aE) (.ref aT)=some false
 i_NoWorths_NoneYet:Rq K (.ref aE) (.ref aK)=some false
 i_NoWorths_NoPicks:Rq K (.ref aE) (.ref aJ)=some false
 x_NoNode:Xc K mg "NoNode" aU (.ref T::vE)
 k_NoNode:qQ K aU
 o_NoNode:Sv K (.ref aU) []=some false
 v_NoNode:Rq K (.ref aU) (.type "ValueError")=some true
 i_NoNode_NoPair:Rq K (.ref aU) (.ref aV)=some false
 i_NoNode_NoPaper:Rq K (.ref aU) (.ref aI)=some false
 i_NoNode_TooMany:Rq K (.ref aU) (.ref aL)=some false
 i_NoNode_NoRow:Rq K (.ref aU) (.ref aM)=some false
 i_NoNode_NoProgram:Rq K (.ref aU) (.ref aj)=some false
 i_NoNode_NoWorths:Rq K (.ref aU) (.ref aE)=some false
 i_NoNode_NoNode:Rq K (.ref aU) (.ref aU)=some true
 i_NoNode_NoChange:Rq K (.ref aU) (.ref aD)=some false
 i_NoNode_NoForm:Rq K (.ref aU) (.ref aT)=some false
 i_NoNode_NoneYet:Rq K (.ref aU) (.ref aK)=some false
 i_NoNode_NoPicks:Rq K (.ref aU) (.ref aJ)=some false
 x_NoChange:Xc K mg "NoChange" aD (.ref T::vE)
 k_NoChange:qQ K aD
 o_NoChange:Sv K (.ref aD) []=some false
 v_NoChange:Rq K (.ref aD) (.type "ValueError")=some true
 i_NoChange_NoPair:Rq K (.ref aD) (.ref aV)=some false
 i_NoChange_NoPaper:Rq K (.ref aD) (.ref aI)=some false
 i_NoChange_TooMany:Rq K (.ref aD) (.ref aL)=some false
 i_NoChange_NoRow:Rq K (.ref aD) (.ref aM)=some false
 i_NoChange_NoProgram:Rq K (.ref aD) (.ref aj)=some false
 i_NoChange_NoWorths:Rq K (.ref aD) (.ref aE)=some false
 i_NoChange_NoNode:Rq K (.ref aD) (.ref aU)=some false
 i_NoChange_NoChange:Rq K (.ref aD) (.ref aD)=some true
 i_NoChange_NoForm:Rq K (.ref aD) (.ref aT)=some false
 i_NoChange_NoneYet:Rq K (.ref aD) (.ref aK)=some false
 i_NoChange_NoPicks:Rq K (.ref aD) (.ref aJ)=some false
 x_NoForm:Xc K mg "NoForm" aT (.ref T::vE)
 k_NoForm:qQ K aT
 o_NoForm:Sv K (.ref aT) []=some false
 v_NoForm:Rq K (.ref aT) (.type "ValueError")=some true
 i_NoForm_NoPair:Rq K (.ref aT) (.ref aV)=some false
 i_NoForm_NoPaper:Rq K (.ref aT) (.ref aI)=some false
 i_NoForm_TooMany:Rq K (.ref aT) (.ref aL)=some false
 i_NoForm_NoRow:Rq K (.ref aT) (.ref aM)=some false
 i_NoForm_NoProgram:Rq K (.ref aT) (.ref aj)=some false
 i_NoForm_NoWorths:Rq K (.ref aT) (.ref aE)=some false
 i_NoForm_NoNode:Rq K (.ref aT) (.ref aU)=some false
 i_NoForm_NoChange:Rq K (.ref aT) (.ref aD)=some false
 i_NoForm_NoForm:Rq K (.ref aT) (.ref aT)=some true
 i_NoForm_NoneYet:Rq K (.ref aT) (.ref aK)=some false
 i_NoForm_NoPicks:Rq K (.ref aT) (.ref aJ)=some false
 x_NoneYet:Xc K mg "NoneYet" aK (.ref T::vE)
 k_NoneYet:qQ K aK
 o_NoneYet:Sv K (.ref aK) []=some false
 v_NoneYet:Rq K (.ref aK) (.type "ValueError")=some true
 i_NoneYet_NoPair:Rq K (.ref aK) (.ref aV)=some false
 i_NoneYet_NoPaper:Rq K (.ref aK) (.ref aI)=some false
 i_NoneYet_TooMany:Rq K (.ref aK) (.ref aL)=some false
 i_NoneYet_NoRow:Rq K (.ref aK) (.ref aM)=some false
 i_NoneYet_NoProgram:Rq K (.ref aK) (.ref aj)=some false
 i_NoneYet_NoWorths:Rq K (.ref aK) (.ref aE)=some false
 i_NoneYet_NoNode:Rq K (.ref aK) (.ref aU)=some false
 i_NoneYet_NoChange:Rq K (.ref aK) (.ref aD)=some false
 i_NoneYet_NoForm:Rq K (.ref aK) (.ref aT)=some false
 i_NoneYet_NoneYet:Rq K (.ref aK) (.ref aK)=some true
 i_NoneYet_NoPicks:Rq K (.ref aK) (.ref aJ)=some false
 x_NoPicks:Xc K mg "NoPicks" aJ (.ref T::vE)
 k_NoPicks:qQ K aJ
 o_NoPicks:Sv K (.ref aJ) []=some false
 v_NoPicks:Rq K (.ref aJ) (.type "ValueError")=some true
 i_NoPicks_NoPair:Rq K (.ref aJ) (.ref aV)=some false
 i_NoPicks_NoPaper:Rq K (.ref aJ) (.ref aI)=some false
 i_NoPicks_TooMany:Rq K (.ref aJ) (.ref aL)=some false
 i_NoPicks_NoRow:Rq K (.ref aJ) (.ref aM)=some false
 i_NoPicks_NoProgram:Rq K (.ref aJ) (.ref aj)=some false
 i_NoPicks_NoWorths:Rq K (.ref aJ) (.ref aE)=some false
 i_NoPicks_NoNode:Rq K (.ref aJ) (.ref aU)=some false
 i_NoPicks_NoChange:Rq K (.ref aJ) (.ref aD)=some false
 i_NoPicks_NoForm:Rq K (.ref aJ) (.ref aT)=some false
 i_NoPicks_NoneYet:Rq K (.ref aJ) (.ref aK)=some false
 i_NoPicks_NoPicks:Rq K (.ref aJ) (.ref aJ)=some true
def fz {K:Ro}{h:Heap}{mg:Str->Option Value}{x:Str}{C:Addr}{cd:ClassData}{tl:List Value}(X:K.In h)(G:h.Ns SD mg)(a:VX K SD x=some (some (.ref C)))(e:VF K C vE "ValueError.__new__"=true)(l:U4 K C=some cd)(m:cd.mro=.ref C::tl):Xc K mg x C tl:=⟨Sx X G a,e,sX l m⟩
def dP {K:Ro}{C:Addr}{cd:ClassData}(ga:Sw K (.ref C) "__getattribute__"=some (some (.builtin "BaseException.__getattribute__")))(gn:Sw K (.ref C) "__getattr__"=some none)(ha:Sw K (.ref C) "__class__"=some (some (.builtin "object.__class__")))(hn:PySem.W.specialIn K (.builtin "object.__class__") "__get__"=some (some (.builtin "getset_descriptor.__get__")))(htk:PySem.W.takesIn K (.builtin "object.__class__")=some true)(hm:PySem.W.mroIn K C (.type "object")=some true)(hb:PySem.W.mroIn K C (.type "BaseException")=some true)(l:U4 K C=some cd):qQ K C:=⟨ga,gn,ha,hn,htk,hm,hb,by rw[l];rfl⟩
def sH {K:Ro}{h:Heap}{mg:Str->Option Value}{x:Str}{t:Addr}{od:Option Addr}{sl:Array (Option Value)}{n:Nat}{us:Array Value}{xs:List Str}(X:K.In h)(G:h.Ns SD mg)(a:VX K SD x=some (some (.ref t)))(l:K.lookup t=some ⟨.type "tuple",od,.seq us n,sl⟩)(b:us.size<=sizeLine)(e:us.toList.length=xs.length)(r:Vals (xs.map V.str) us.toList):pK K mg x xs:=⟨_,Sx X G a,fun z=>.inr ⟨_,_,_,l,rfl,rfl,b,r⟩⟩
def bb {K:Ro}{h:Heap}{mg:Str->Option Value}{x:Str}{st:Stmt}{od an:Option Addr}{sl:Array (Option Value)}{oc kV dc pm cd ct:Value}{f:Addr}(X:K.In h)(G:h.Ns SD mg)(a:VX K SD x=some (some (.ref f)))
   (l:K.lookup f=some ⟨oc,od,.func (S6 x x (dt st) (ck st) (ao st) .none kV dc pm an cd ct),sl⟩) (c:UO K cd x=true) (k:Tf K (.ref f)=true):Src K mg x st:=⟨_,_,fD l c k,Sx X G a⟩
def rE {w:World}{K:Ro}{a:Addr}{kvs:List (Str×V)}{es:Array TZ}{n:Nat}(l:K.lookup a=some ⟨.type "dict",none,.dict es n,#[]⟩)(hk:PySem.W.KeysLit w.params es.toList)(hs:(a==Th)=false)(p:Paired (fun(e:TZ) (q:Str×V)=>(∃t,e.key=.str q.1 t)/\RelV q.2 e.val) es.toList kvs):eG w K a kvs:=⟨es,n,l,hk,hs,p⟩
def tw_mk {K:Ro}{t:Addr}{vs:List V}{n2:Nat}{od:Option Addr}{sl:Array (Option Value)}{us:Array Value}(lt:K.lookup t=some ⟨.type "tuple",od,.seq us n2,sl⟩)(b:us.size<=sizeLine)(r:Vals vs us.toList):∀H:Hp,bS K H t vs:=fun z=>.inr ⟨_,_,_,lt,rfl,rfl,b,r⟩
def xy:Paired (fun(e:TZ) (q:Str×V)=>(∃t,e.key=.str q.1 t)/\RelV q.2 e.val) [] []:=.nil
def rN {e:TZ}{q:Str×V}{l:List TZ}{l2:List (Str×V)}(h1:∃t,e.key=.str q.1 t)(h2:RelV q.2 e.val)(t:Paired (fun(e:TZ) (q:Str×V)=>(∃t,e.key=.str q.1 t)/\RelV q.2 e.val) l l2):Paired (fun(e:TZ) (q:Str×V)=>(∃t,e.key=.str q.1 t)/\RelV q.2 e.val) (e::l) (q::l2):=.cons ⟨h1,h2⟩ t
def JA (w:World)(K:Ro)(mg:Str->Option Value)(x:Str)(kvs:List (Str×V)):Prop:=∃a,mg x=some (.ref a)/\eG w K a kvs
def Ju (w:World)(K:Ro)(mg:Str->Option Value)(x:Str)(kvs:List (Str×List Str)):Prop:=∃a ts,mg x=some (.ref a)/\eG w K a ((kvs.map (·.1)).zip (ts.map V.ref))/\Paired (fun(t:Addr) (q:Str×List Str)=>∀H:Hp,bS K H t (q.2.map V.str)) ts kvs
def pJ (mg:Str->Option Value)(x s:Str):Prop:=∃t,mg x=some (.str s t)
def mI (mg:Str->Option Value)(x:Str)(n:Int):Prop:=∃t,mg x=some (.int n t)
def yR (s:Stmt):List Stmt:=match s with
 | .ClassDef _ _ _ b _ _ _ _ _ _ _=>b
 | _=>[]
def dS (i j:Nat):Stmt:=(yR (top i)).getD j (.Pass ⟨0,0,0,0⟩)
def iA (K:Ro)(C:Addr):List Str->Prop
 | []=>True
 | f::fs=>cO K C f/\iA K C fs
theorem iA.get {K:Ro}{C:Addr}:∀{fs:List Str} {f:Str},iA K C fs->f∈fs->cO K C f
 | g::fs,f,h,hf=>by
   rcases cv hf with rfl|hf
   . show h.1
   . show iA.get h.2 hf
structure mH (K:Ro)(mg:Str->Option Value)(x:Str)(C:Addr)(fs:List Str):Prop where
 m:mg x=some (.ref C)
 c:pq K C
 na:iA K C fs
def qO (K:Ro)(C:Addr)(q:Str)(st:Stmt):Prop:=∃f fd,cD K "__init__" q st f fd/\Mk K C f
def cj (K:Ro)(C:Addr)(x q:Str)(st:Stmt):Prop:=∃f fd,cD K x q st f fd/\Meth K C x f
structure FG (w:World)(K:Ro)(mg:Str->Option Value):Prop where
 s_program_of:Src K mg "program_of" (top 16)
 s_refuse_boxes:Src K mg "refuse_boxes" (top 17)
 s_refuse_inputs:Src K mg "refuse_inputs" (top 18)
 s_refuse_nodes:Src K mg "refuse_nodes" (top 19)
 s_leads_of:Src K mg "leads_of" (top 20)
 s_told_by:Src K mg "told_by" (top 21)
 s_refuse_unknown:Src K mg "refuse_unknown" (top 22)
 s_all_known:Src K mg "all_known" (top 23)
 s_picked_program:Src K mg "picked_program" (top 25)
 s_read_atom:Src K mg "read_atom" (top 37)
 s_read_sum:Src K mg "read_sum" (top 38)
 s_read_test:Src K mg "read_test" (top 39)
 s_read_condition:Src K mg "read_condition" (top 40)
 s_read_word:Src K mg "read_word" (top 41)
 s_read_row:Src K mg "read_row" (top 42)
 s_read_program:Src K mg "read_program" (top 43)
 s_law_cell_at:Src K mg "_law_cell_at" (top 45)
 s_law_stir:Src K mg "_law_stir" (top 46)
 s_law_names:Src K mg "_law_names" (top 47)
 s_law_number:Src K mg "_law_number" (top 48)
 s_law_sum:Src K mg "_law_sum" (top 49)
 s_law_condition:Src K mg "_law_condition" (top 50)
 s_law_grown_sum:Src K mg "_law_grown_sum" (top 51)
 s_law_grown_condition:Src K mg "_law_grown_condition" (top 52)
 s_law_word:Src K mg "_law_word" (top 53)
 s_law_any_sum:Src K mg "_law_any_sum" (top 54)
 s_law_any_condition:Src K mg "_law_any_condition" (top 55)
 s_law_node:Src K mg "_law_node" (top 56)
 s_law_program:Src K mg "_law_program" (top 57)
 s_law_refused:Src K mg "_law_refused" (top 58)
 s_law_wrong:Src K mg "_law_wrong" (top 59)
 s_law_put_in:Src K mg "_law_put_in" (top 60)
 s_law:Src K mg "law" (top 61)
 c_PARTED:pK K mg "PARTED" ["plus","less","same","under","not","both"]
 c_NAMELESS:pK K mg "NAMELESS" ["number","yes"]
 c_LETTERS:pJ mg "LETTERS" "abcdefghijklmnopqrstuvwxyz"
 c_FIGURES:pJ mg "FIGURES" "0123456789"
 c_MOST_FIGURES:mI mg "MOST_FIGURES" 30
 c_MOST_LETTERS:mI mg "MOST_LETTERS" 8
 c_SIGN_SUMS:JA w K mg "SIGN_SUMS" [("+",.str "plus"),("-",.str "less")]
 c_SIGN_TESTS:JA w K mg "SIGN_TESTS" [("=",.str "same"),("<",.str "under")]
 c_FORMS:Ju w K mg "FORMS" [("box",["name","number"]),("input",["name"]),("put",["name","sum","number"]),("say",["sum","number"]),("test",["condition","number","number"]),("pick",["name","number"]),("end",[])]
 c_RANKS:JA w K mg "RANKS" [("box",.int 0),("input",.int 1)]
 c_NODE_RANK:mI mg "NODE_RANK" 2
 k_Reader:∃C,mH K mg "Reader" C ["word","place"]/\qO K C "Reader.__init__" (dS 36 0)/\cj K C "sign" "Reader.sign" (dS 36 1)/\cj K C "taken" "Reader.taken" (dS 36 2)/\cj K C "due" "Reader.due" (dS 36 3)/\cj K C "stretch" "Reader.stretch" (dS 36 4)/\cj K C "number" "Reader.number" (dS 36 5)/\cj K C "name" "Reader.name" (dS 36 6)
 cl:∃T aV aI aL aM aj aE aU aD aT aK aJ,LU K mg T aV aI aL aM aj aE aU aD aT aK aJ
 m_len:mg "len"=none
 m_list:mg "list"=none
 m_range:mg "range"=none
 m_zip:mg "zip"=none
 m_int:mg "int"=none
 m_isinstance:mg "isinstance"=none
 m_set:mg "set"=none
 m_tuple:mg "tuple"=none
 m_sum:mg "sum"=none
 m_enumerate:mg "enumerate"=none
 m_str:mg "str"=none
 m_ValueError:mg "ValueError"=none
end TW
namespace TW
open PySem L2
section
variable{P:Program}{w:World}{K:Ro}{mg:Str->Option Value}{base:Heap}
def Ly:aB->List Int->Str->Int
 | b::bs,w::ws,x=>if b.1=x then w else Ly bs ws x
 | _,_,_=>0
def cp (side:Str):aB->List Int->List (List Key×V)
 | b::bs,w::ws=>([.inr side,.inr b.1],.int w)::cp side bs ws
 | _,_=>[]
theorem mh (side:Str):∀(bs:aB) (ws:List Int),(cp side bs ws).length<=bs.length
 | [],_=>by simp[cp]
 | _::_,[]=>by simp[cp]
 | _::bs,_::ws=>by simp[cp];show mh side bs ws
theorem mi (side:Str):∀(bs:aB) (ws:List Int) (x:Str),bs.length=ws.length->x∈bs.map (·.1)->fj (cp side bs ws) [.inr side,.inr x]=some (.int (Ly bs ws x))
 | [],_,_,_,h=>by simp at h
 | _::_,[],_,h,_=>by simp at h
 | b::bs,w::ws,x,hl,hx=>by
   change fj (([.inr side,.inr b.1],V.int w)::cp side bs ws) _=some (.int (if b.1=x then w else Ly bs ws x))
   by_cases e:b.1=x
   . rw[dI e,je (p:=(([.inr side,.inr b.1]:List Key),V.int w)) (by rw[← e])]
   . rw[dh e,fT (p:=(([.inr side,.inr b.1]:List Key),V.int w)) (fun z=>by injection z with _ z;injection z with z _;injection z with z;show e z)]
     show mi side bs ws x (by simpa using hl) ?_
     rcases cv hx with z|z
     . show au z.symm e
     . show z
theorem ik (side:Str):∀(bs:aB) (ws:List Int) (s x:Str),(s=side->x∉bs.map (·.1))->fj (cp side bs ws) [.inr s,.inr x]=none
 | [],_,_,_,_=>rfl
 | _::_,[],_,_,_=>rfl
 | b::bs,w::ws,s,x,h=>by
   change fj (([.inr side,.inr b.1],V.int w)::cp side bs ws) _=none
   rw[fT (p:=(([.inr side,.inr b.1]:List Key),V.int w)) (fun z=>by injection z with z1 z;injection z1 with z1;injection z with z _;injection z with z;show h z1.symm (zq (.inl z.symm)))]
   show ik side bs ws s x fun e z=>h e (zq (.inr z))
def xF {κ:Type}[DecidableEq κ]{kvs:List (κ×V)}{k:κ}{v:V}(h:fj kvs k=none):putK kvs k v=kvs++[(k,v)]:=by
 unfold putK
 rw[lC,h]
 rfl
theorem kI (side:Str):∀(bs:aB) (ws:List Int) (b:Str×Int) (w:Int),bs.length=ws.length->cp side (bs++[b]) (ws++[w])=cp side bs ws++[([.inr side,.inr b.1],.int w)]
 | [],[],_,_,_=>rfl
 | [],_::_,_,_,h=>by simp at h
 | _::_,[],_,_,h=>by simp at h
 | b::bs,w::ws,c,v,h=>by
   change _::cp side (bs++[c]) (ws++[v])=_
   rw[kI side bs ws c v (by simpa using h)]
   rfl
def zx {bs:aB}(nd:(bs.map (·.1)).Nodup){i:Nat}{b:Str×Int}(h:bs[i]?=some b):b.1∉(bs.take i).map (·.1):=by
 intro z
 have hi:i<bs.length:=(cy h)
 have e:bs[i]=b:=(List.getElem?_eq_some_iff.mp h).2
 obtain⟨c,hc,e2⟩:=fc z
 obtain⟨j,hj,e3⟩:=List.getElem_of_mem hc
 have Mz:j<i:=by rw[R8]at hj;lia
 rw[List.getElem_take]at e3
 have k1:(bs.map (·.1))[j]'(by rw[Rn];lia)=(bs.map (·.1))[i]'(by rw[Rn];lia):=by
   rw[List.getElem_map,List.getElem_map,e3,e,e2]
 show(List.pairwise_iff_getElem.mp nd) j i _ _ Mz k1
abbrev JK (bs:aB):Str->Str->Prop:=fun t y=>t="box"/\y∈bs.map (·.1)
def cJ.same {H H':Hp}{v:V}{e:E}(h:cJ H v e)(s:ai H H'):cJ H' v e:=cJ.keep (ai.tk s) h
abbrev ir:Stmt:=top 23
abbrev kU:Stmt:=top 22
def E.bf (f:Str->Str->Bool):E->Bool
 | .num _=>true|.box t x=>f t x|.yes=>true|.nt a=>a.bf f|.two _ a b=>a.bf f&&b.bf f
def cu (kvs:List (List Key×V))(t x:Str):Bool:=(fj kvs [.inr t,.inr x]).isSome
abbrev fe:Str->Str->Prop:=fun t _=>t="box"
def cC (n:Nat):Sp:=fun vs H Q z=>∃(a:Addr) (v:V) (e:E) (kvs:List (List Key×V)),vs=[.ref a,v]/\H a=some (.dT kvs)/\cJ H v e/\e.okIn fe/\e.dep<n/\∀H',ai H H'->Q (.bl (e.bf (cu kvs))) H'
def jB:aC ["known","told","part"] ["known","told"] (ao ir):=eU
def uh {n:Nat}{f:Addr}{fd:RZ}(F:cD K "all_known" "all_known" ir f fd)(N:pK K mg "NAMELESS" ["number","yes"])(PT:pK K mg "PARTED" ["plus","less","same","under","not","both"])
    (G:b7 P w K mg base "all_known" ["known","told"] (n+1) (cC n)):aY P w K mg base dq (n+2) f fd ["known","told"] (cC (n+1)):=by
 obtain⟨tn,mN,cN⟩:=N
 obtain⟨tp,mP,cP⟩:=PT
 show F.iU jB fun cdv A outer s H vs Q E hr h=>?_
 obtain⟨a,v,e,kvs,rfl,hk,ev,ok,hd,q⟩:=h
 show⟨_,Xh (Wv (WB (Wx L3.zG (Wz WM (Y 1) Ws) (WU (w:=.ref tn) U mN rfl) U) (Ww (WC Xe)) WE)
   (Wv (WB (Wx L3.jQ (Wz WM (Y 1) Ws) (WU (w:=.ref tp) U mP rfl) U) (Ww (WC (L3.JR (dm hr _ (by left)) (Y 1) (Y 0)))) WE)
   (Wv (W8 (L3.iT (L3.Ll (Y 1) Ws)) (WI 2 jB.nd) (Ww (WB (L3.nt (Xx (WA G hr U (L (Y 0) (L (Y 2) M))))) (Ww (WC Xe)) WE)))
   (Ww (WC Xe))))),?_⟩
 cases e with
 | num m=>
   obtain⟨p,rfl,hp⟩:=ev
   show⟨_,U,?_⟩
   show bR hp U ?_
   show⟨tn,_,U,.inr (cN _),U,U,_,U,?_⟩
   show aG (fun u=>?_) (fun c=>au (show iN (.str "number") _=true by left) c)
   show q _ (same_refl _)
 | yes=>
   obtain⟨p,rfl,hp⟩:=ev
   show⟨_,U,?_⟩
   show bR hp U ?_
   show⟨tn,_,U,.inr (cN _),U,U,_,U,?_⟩
   show aG (fun u=>?_) (fun c=>au (show iN (.str "yes") _=true by left) c)
   show q _ (same_refl _)
 | box t x=>
   obtain⟨p,rfl,hp⟩:=ev
   have ht:t="box":=ok
   subst ht
   have g:=j6.t (k:=[.inr "box",.inr x]) hk hp
   show⟨_,U,?_⟩
   show bR hp U ?_
   show⟨tn,_,U,.inr (cN _),U,U,_,U,?_⟩
   show aG (fun c=>au c (by left)) (fun u=>?_)
   show⟨_,U,?_⟩
   show bR hp U ?_
   show⟨tp,_,U,.inr (cP _),U,U,_,U,?_⟩
   show aG (fun u=>?_) (fun c=>au (by left) c)
   show⟨_,U,_,U,a,_,U,g,q _ (same_refl _)⟩
 | nt e1=>
   obtain⟨x,⟨p,rfl,hp⟩,ax⟩:=ev
   have Ge:e1.dep+1<n+1:=hd
   have La:e1.okIn fe:=ok
   show⟨_,U,?_⟩
   show bR hp U ?_
   show⟨tn,_,U,.inr (cN _),U,U,_,U,?_⟩
   show aG (fun c=>au c (by left)) (fun u=>?_)
   show⟨_,U,?_⟩
   show bR hp U ?_
   show⟨tp,_,U,.inr (cP _),U,U,_,U,?_⟩
   show aG (fun c=>au c (by left)) (fun u=>?_)
   show⟨_,U,_,U,p,_,U,bS.of hp,(fun z=>au z.1 (show ¬ HT.bX 2 0 (some 1)=0 by left)),fun l hl=>⟨l,U,⟨_,bS.of ae⟩,?_⟩⟩
   show rh (xs:=[x]) (fun i σ H2=>(∃pv,σ=[some (.ref a),some (.ref p),pv])/\ai (upd H l (.tup [x])) H2/\(1<=i->e1.bf (cu kvs)=true)) ⟨⟨_,U⟩,same_refl _,fun z=>au z (by left)⟩ (fun i σ H2 u z=>bS.of (z.2.1 _ _ ae)) (fun i x0 σ H2 hx z=>?_) (fun σ H2 z=>?_)
   . obtain⟨⟨pv,rfl⟩,z,_⟩:=z
     have s2:=aa (af hl _) z
     have hx0:x0=x:=by
       match i,hx with
       | 0,hx=>show(Sa hx).symm
     subst hx0
     show⟨_,U,_,U,a,x0,e1,kvs,U,s2 _ _ hk,ax.same s2,La,by lia,fun H3 s3=>⟨_,U,?_⟩⟩
     show aG (fun c=>?_) (fun c=>?_)
     . have c':e1.bf (cu kvs)=false:=by cases zz:e1.bf (cu kvs)<;>simp_all
       have q':=q H3 (aa s2 s3)
       rw[show(TW.E.nt e1).bf (cu kvs)=false from c']at q'
       show q'
     . have c':e1.bf (cu kvs)=true:=by cases zz:e1.bf (cu kvs)<;>simp_all
       show⟨⟨_,U⟩,aa z s3,fun u=>c'⟩
   . have q':=q H2 (aa (af hl _) z.2.1)
     rw[show(TW.E.nt e1).bf (cu kvs)=true from z.2.2 (by change 1<=1;decide)]at q'
     show q'
 | two k e1 e2=>
   obtain⟨x,y,⟨p,rfl,hp⟩,ax,ay⟩:=ev
   have Ge:max e1.dep e2.dep+1<n+1:=hd
   have La:e1.okIn fe:=ok.1
   have Qk:e2.okIn fe:=ok.2
   show⟨_,U,?_⟩
   show bR hp U ?_
   show⟨tn,_,U,.inr (cN _),U,U,_,U,?_⟩
   show aG (fun c=>au c (by cases k<;>decide)) (fun u=>?_)
   show⟨_,U,?_⟩
   show bR hp U ?_
   show⟨tp,_,U,.inr (cP _),U,U,_,U,?_⟩
   show aG (fun c=>au c (by cases k<;>decide)) (fun u=>?_)
   show⟨_,U,_,U,p,_,U,bS.of hp,(fun z=>au z.1 (show ¬ HT.bX 3 0 (some 1)=0 by left)),fun l hl=>⟨l,U,⟨_,bS.of ae⟩,?_⟩⟩
   show rh (xs:=[x,y]) (fun i σ H2=>(∃pv,σ=[some (.ref a),some (.ref p),pv])/\ai (upd H l (.tup [x,y])) H2/\(1<=i->e1.bf (cu kvs)=true)/\(2<=i->e2.bf (cu kvs)=true)) ⟨⟨_,U⟩,same_refl _,(fun z=>au z (by left)),fun z=>au z (by left)⟩ (fun i σ H2 u z=>bS.of (z.2.1 _ _ ae)) (fun i x0 σ H2 hx z=>?_) (fun σ H2 z=>?_)
   . obtain⟨⟨pv,rfl⟩,z,z1,z2⟩:=z
     have s2:=aa (af hl _) z
     have hx0:∃e0,cJ H x0 e0/\e0.okIn fe/\e0.dep<n/\(e0.bf (cu kvs)=false->(TW.E.two k e1 e2).bf (cu kvs)=false)/\(e0.bf (cu kvs)=true->(1<=i+1->e1.bf (cu kvs)=true)/\(2<=i+1->e2.bf (cu kvs)=true)):=by
       match i,hx,z1 with
       | 0,hx,_=>show⟨e1,(Sa hx)▸ax,La,by lia,fun c=>by change(e1.bf _&&e2.bf _)=false;rw[c];rfl,fun c=>⟨fun u=>c,fun z=>au z (by left)⟩⟩
       | 1,hx,z1=>show⟨e2,(Sa hx)▸ay,Qk,by lia,fun c=>by change(e1.bf _&&e2.bf _)=false;rw[c,Bool.and_false],fun c=>⟨fun u=>z1 (by left),fun u=>c⟩⟩
     obtain⟨e0,a0,o0,d0,f0,t0⟩:=hx0
     show⟨_,U,_,U,a,x0,e0,kvs,U,s2 _ _ hk,a0.same s2,o0,d0,fun H3 s3=>⟨_,U,?_⟩⟩
     show aG (fun c=>?_) (fun c=>?_)
     . have c':e0.bf (cu kvs)=false:=by cases zz:e0.bf (cu kvs)<;>simp_all
       have q':=q H3 (aa s2 s3)
       rw[f0 c']at q'
       show q'
     . have c':e0.bf (cu kvs)=true:=by cases zz:e0.bf (cu kvs)<;>simp_all
       show⟨⟨_,U⟩,aa z s3,t0 c'⟩
   . have q':=q H2 (aa (af hl _) z.2.1)
     rw[show(TW.E.two k e1 e2).bf (cu kvs)=true by change(e1.bf _&&e2.bf _)=true;rw[z.2.2.1 (by change 1<=2;decide),z.2.2.2 (by change 2<=2;decide)];rfl]at q'
     show q'
def oX {f:Addr}{fd:RZ}:aY P w K mg base dq 1 f fd ["known","told"] (cC 0):=by
 have no:∀vs H Q E,¬ cC 0 vs H Q E:=fun vs H Q E h=>by
   obtain⟨_,_,_,_,_,_,_,_,h1,_⟩:=h
   lia
 show⟨fun vs H Q E h=>au h (no vs H Q E),fun A outer s H args us vs Q E z z z z h=>au h (no vs H Q E)⟩
def pP (s:Src K mg "all_known" ir)(N:pK K mg "NAMELESS" ["number","yes"])(PT:pK K mg "PARTED" ["plus","less","same","under","not","both"]):∀n:Nat,b7 P w K mg base "all_known" ["known","told"] (n+1) (cC n):=by
 obtain⟨f,fd,F,m⟩:=s
 have b:Binds K fd ["known","told"] []:=lH F fun z z z z z z z z=>rfl
 intro n
 have all:aY P w K mg base dq (n+1) f fd ["known","told"] (cC n):=by
   induction n with
   | zero=>show oX
   | succ n ih=>show uh F N PT ⟨f,fd,ih,F.kp,b,m⟩
 show⟨f,fd,all,F.kp,b,m⟩
def gr (C:Addr)(n:Nat):Sp:=fun vs H Q X=>∃(a:Addr) (v:V) (e:E) (kvs:List (List Key×V)),vs=[.ref a,v]/\H a=some (.dT kvs)/\cJ H v e/\e.okIn fe/\e.dep<n /\
 (e.bf (cu kvs)=true->∀H',ai H H'->Q .bI H')/\(e.bf (cu kvs)=false->∀H',ai H H'->X (.ref C) none H')
def uJ:aC ["known","told"] ["known","told"] (ao kU):=eU
def qp {n:Nat}{C T:Addr}{f:Addr}{fd:RZ}(F:cD K "refuse_unknown" "refuse_unknown" kU f fd)(cP:Xc K mg "NoProgram" C (.ref T::vE))(G:b7 P w K mg base "all_known" ["known","told"] (n+1) (cC n)):aY P w K mg base (eD P w base) (n+2) f fd ["known","told"] (gr C n):=by
 show F.wU uJ (fun vs H Q E h=>?_) (fun cdv A outer s H vs Q E hr h=>?_)
 . obtain⟨a,v,e,kvs,rfl,_⟩:=h
   rfl
 . obtain⟨a,v,e,kvs,rfl,hk,ev,ok,hd,q1,q2⟩:=h
   show⟨_,Xh (Ww (WB (L3.nt (Xx (WA G hr U (L (Y 0) (L (Y 1) M))))) (Ww (Xa cA cP U U (L Wu M))) WE)),?_⟩
   show⟨_,U,_,U,a,v,e,kvs,U,hk,ev,ok,hd,fun H3 s3=>⟨_,U,?_⟩⟩
   show aG (fun c=>?_) (fun c=>?_)
   . have c':e.bf (cu kvs)=false:=by cases zz:e.bf (cu kvs)<;>simp_all
     show⟨_,U,q2 c' _ s3⟩
   . have c':e.bf (cu kvs)=true:=by cases zz:e.bf (cu kvs)<;>simp_all
     show q1 c' _ s3
def oI {n:Nat}{C T:Addr}(s:Src K mg "refuse_unknown" kU)(cP:Xc K mg "NoProgram" C (.ref T::vE))(G:b7 P w K mg base "all_known" ["known","told"] (n+1) (cC n)):bQ P w K mg base "refuse_unknown" ["known","told"] (n+2) (gr C n):=
 let⟨f,fd,F,m⟩:=s
 ⟨f,fd,qp F cP G,F.kp,lH F fun z z z z z z z z=>rfl,m⟩
abbrev xO:Stmt:=top 20
abbrev rV:Stmt:=top 21
def Np.gJ:Np->List Int
 | .put _ _ n=>[n]|.say _ n=>[n]|.test _ n o=>[n,o]|.pick _ n=>[n]|.fin=>[]
def Np.fw:Np->List E
 | .put x s _=>[.box "box" x,s]|.say s _=>[s]|.test c _ _=>[c]|.pick x _=>[.box "box" x]|.fin=>[]
def jV:Sp:=fun vs H Q z=>∃(v:V) (nd:Np),vs=[v]/\b8 H v nd/\∀l H',ai H H'->H' l=some (.lst (nd.gJ.map V.int))->Q (.ref l) H'
def AA:aC ["node"] ["node"] (ao xO):=eU
def wV {f:Addr}{fd:RZ}(F:cD K "leads_of" "leads_of" xO f fd):aY P w K mg base dq 1 f fd ["node"] jV:=by
 show F.iU AA fun cdv A outer s H vs Q E hr h=>?_
 obtain⟨v,nd,rfl,hn,q⟩:=h
 show⟨_,Xh (Wv (WB (Wx WL (Wz WM (Y 0) Ws) Wu) (Ww (WC (WD M))) WE)
   (Wv (WB (Wx WL (Wz WM (Y 0) Ws) Wu) (Ww (WC (WD (L (Wz WM (Y 0) Ws) M)))) WE)
   (Wv (WB (Wx L3.zG (Wz WM (Y 0) Ws) (WH (L Wu (L Wu M))) U) (Ww (WC (WD (L (Wz WM (Y 0) Ws) M)))) WE)
   (Ww (WC (WD (L (Wz WM (Y 0) Ws) (L (Wz WM (Y 0) Ws) M)))))))),?_⟩
 cases nd with
 | fin=>
   obtain⟨x,rfl,hx⟩:=hn
   show⟨_,U,?_⟩
   show bR hx U ?_
   show⟨U,_,U,?_⟩
   show aG (fun z=>?_) (fun c=>au (hW rfl) c)
   show⟨YI,fun l hl=>q l _ (af hl _) ae⟩
 | put nm e n=>
   obtain⟨u,⟨x,rfl,hx⟩,eu⟩:=hn
   show⟨_,U,?_⟩
   show bR hx U ?_
   show⟨U,_,U,?_⟩
   show aG (fun c=>au (jg c) (by left)) (fun z=>?_)
   show⟨_,U,?_⟩
   show bR hx U ?_
   show⟨U,_,U,?_⟩
   show aG (fun z=>?_) (fun c=>au (hW rfl) c)
   show⟨_,U,?_⟩
   show bR hx U ?_
   show⟨YJ,fun l hl=>q l _ (af hl _) ae⟩
 | say e n=>
   obtain⟨u,⟨x,rfl,hx⟩,eu⟩:=hn
   show⟨_,U,?_⟩
   show bR hx U ?_
   show⟨U,_,U,?_⟩
   show aG (fun c=>au (jg c) (by left)) (fun z=>?_)
   show⟨_,U,?_⟩
   show bR hx U ?_
   show⟨U,_,U,?_⟩
   show aG (fun c=>au (jg c) (by left)) (fun z=>?_)
   show⟨_,U,?_⟩
   show bR hx U ?_
   show⟨YK,fun t0 tV=>⟨t0,_,U,.inr (bS.of ae),U,U,_,U,?_⟩⟩
   have s0:=af tV (.tup [.str "say",.str "pick"])
   generalize upd H t0 (.tup [.str "say",.str "pick"])=H0 at s0 ⊢
   have hx:=s0 _ _ hx
   show aG (fun z=>?_) (fun c=>au (show iN (.str "say") _=true by left) c)
   show⟨_,U,?_⟩
   show bR hx U ?_
   show⟨YJ,fun l hl=>q l _ (aa s0 (af hl _)) ae⟩
 | pick nm n=>
   obtain⟨x,rfl,hx⟩:=hn
   show⟨_,U,?_⟩
   show bR hx U ?_
   show⟨U,_,U,?_⟩
   show aG (fun c=>au (jg c) (by left)) (fun z=>?_)
   show⟨_,U,?_⟩
   show bR hx U ?_
   show⟨U,_,U,?_⟩
   show aG (fun c=>au (jg c) (by left)) (fun z=>?_)
   show⟨_,U,?_⟩
   show bR hx U ?_
   show⟨YK,fun t0 tV=>⟨t0,_,U,.inr (bS.of ae),U,U,_,U,?_⟩⟩
   have s0:=af tV (.tup [.str "say",.str "pick"])
   generalize upd H t0 (.tup [.str "say",.str "pick"])=H0 at s0 ⊢
   have hx:=s0 _ _ hx
   show aG (fun z=>?_) (fun c=>au (show iN (.str "pick") _=true by left) c)
   show⟨_,U,?_⟩
   show bR hx U ?_
   show⟨YJ,fun l hl=>q l _ (aa s0 (af hl _)) ae⟩
 | test c n o=>
   obtain⟨u,⟨x,rfl,hx⟩,eu⟩:=hn
   show⟨_,U,?_⟩
   show bR hx U ?_
   show⟨U,_,U,?_⟩
   show aG (fun c=>au (jg c) (by left)) (fun z=>?_)
   show⟨_,U,?_⟩
   show bR hx U ?_
   show⟨U,_,U,?_⟩
   show aG (fun c=>au (jg c) (by left)) (fun z=>?_)
   show⟨_,U,?_⟩
   show bR hx U ?_
   show⟨YK,fun t0 tV=>⟨t0,_,U,.inr (bS.of ae),U,U,_,U,?_⟩⟩
   have s0:=af tV (.tup [.str "say",.str "pick"])
   generalize upd H t0 (.tup [.str "say",.str "pick"])=H0 at s0 ⊢
   have hx:=s0 _ _ hx
   show aG (fun c=>au c (by left)) (fun z=>?_)
   show⟨_,U,?_⟩
   show bR hx U ?_
   show⟨_,U,?_⟩
   show bR hx U ?_
   show⟨YK,fun l hl=>q l _ (aa s0 (af hl _)) ae⟩
def i7:Sp:=fun vs H Q z=>∃(v:V) (nd:Np),vs=[v]/\b8 H v nd/\∀l H' us,ai H H'->H' l=some (.lst us)->Paired (cJ H') us nd.fw->Q (.ref l) H'
def xZ:aC ["node"] ["node"] (ao rV):=eU
def uq {f:Addr}{fd:RZ}(F:cD K "told_by" "told_by" rV f fd):aY P w K mg base dq 1 f fd ["node"] i7:=by
 show F.iU xZ fun cdv A outer s H vs Q E hr h=>?_
 obtain⟨v,nd,rfl,hn,q⟩:=h
 show⟨_,Xh (Wv (WB (Wx WL (Wz WM (Y 0) Ws) Wu) (Ww (WC (WD M))) WE)
   (Wv (WB (Wx WL (Wz WM (Y 0) Ws) Wu) (Ww (WC (WD (L (WH (L Wu (L (Wz WM (Y 0) Ws) M))) (L (Wz WM (Y 0) Ws) M))))) WE)
   (Wv (WB (Wx WL (Wz WM (Y 0) Ws) Wu) (Ww (WC (WD (L (WH (L Wu (L (Wz WM (Y 0) Ws) M))) M)))) WE)
   (Ww (WC (WD (L (Wz WM (Y 0) Ws) M))))))),?_⟩
 cases nd with
 | fin=>
   obtain⟨x,rfl,hx⟩:=hn
   show⟨_,U,?_⟩
   show bR hx U ?_
   show⟨U,_,U,?_⟩
   show aG (fun z=>?_) (fun c=>au (hW rfl) c)
   show⟨YI,fun l hl=>q l _ [] (af hl _) ae .nil⟩
 | put nm e n=>
   obtain⟨u,⟨x,rfl,hx⟩,eu⟩:=hn
   show⟨_,U,?_⟩
   show bR hx U ?_
   show⟨U,_,U,?_⟩
   show aG (fun c=>au (jg c) (by left)) (fun z=>?_)
   show⟨_,U,?_⟩
   show bR hx U ?_
   show⟨U,_,U,?_⟩
   show aG (fun z=>?_) (fun c=>au (hW rfl) c)
   show⟨_,U,?_⟩
   show bR hx U ?_
   show⟨YK,fun t0 tV=>?_⟩
   have s1:=af tV (.tup [.str "box",.str nm])
   have e1:(upd H t0 (.tup [.str "box",.str nm])) t0=some (.tup [.str "box",.str nm]):=ae
   generalize upd H t0 (.tup [.str "box",.str nm])=H1 at s1 e1 ⊢
   show⟨_,U,?_⟩
   show bR (s1 _ _ hx) U ?_
   show⟨YK,fun l hl=>?_⟩
   have s2:=af hl (.lst [.ref t0,u])
   show q l _ _ (aa s1 s2) ae (.cons ⟨t0,U,s2 _ _ e1⟩ (.cons (eu.same (aa s1 s2)) .nil))
 | say e n=>
   obtain⟨u,⟨x,rfl,hx⟩,eu⟩:=hn
   show⟨_,U,?_⟩
   show bR hx U ?_
   show⟨U,_,U,?_⟩
   show aG (fun c=>au (jg c) (by left)) (fun z=>?_)
   show⟨_,U,?_⟩
   show bR hx U ?_
   show⟨U,_,U,?_⟩
   show aG (fun c=>au (jg c) (by left)) (fun z=>?_)
   show⟨_,U,?_⟩
   show bR hx U ?_
   show⟨U,_,U,?_⟩
   show aG (fun c=>au (jg c) (by left)) (fun z=>?_)
   show⟨_,U,?_⟩
   show bR hx U ?_
   show⟨YJ,fun l hl=>q l _ _ (af hl _) ae (.cons (eu.same (af hl _)) .nil)⟩
 | pick nm n=>
   obtain⟨x,rfl,hx⟩:=hn
   show⟨_,U,?_⟩
   show bR hx U ?_
   show⟨U,_,U,?_⟩
   show aG (fun c=>au (jg c) (by left)) (fun z=>?_)
   show⟨_,U,?_⟩
   show bR hx U ?_
   show⟨U,_,U,?_⟩
   show aG (fun c=>au (jg c) (by left)) (fun z=>?_)
   show⟨_,U,?_⟩
   show bR hx U ?_
   show⟨U,_,U,?_⟩
   show aG (fun z=>?_) (fun c=>au (hW rfl) c)
   show⟨_,U,?_⟩
   show bR hx U ?_
   show⟨YK,fun t0 tV=>?_⟩
   have s1:=af tV (.tup [.str "box",.str nm])
   have e1:(upd H t0 (.tup [.str "box",.str nm])) t0=some (.tup [.str "box",.str nm]):=ae
   generalize upd H t0 (.tup [.str "box",.str nm])=H1 at s1 e1 ⊢
   show⟨YJ,fun l hl=>?_⟩
   have s2:=af hl (.lst [.ref t0])
   show q l _ _ (aa s1 s2) ae (.cons ⟨t0,U,s2 _ _ e1⟩ .nil)
 | test c n o=>
   obtain⟨u,⟨x,rfl,hx⟩,eu⟩:=hn
   show⟨_,U,?_⟩
   show bR hx U ?_
   show⟨U,_,U,?_⟩
   show aG (fun c=>au (jg c) (by left)) (fun z=>?_)
   show⟨_,U,?_⟩
   show bR hx U ?_
   show⟨U,_,U,?_⟩
   show aG (fun c=>au (jg c) (by left)) (fun z=>?_)
   show⟨_,U,?_⟩
   show bR hx U ?_
   show⟨U,_,U,?_⟩
   show aG (fun c=>au (jg c) (by left)) (fun z=>?_)
   show⟨_,U,?_⟩
   show bR hx U ?_
   show⟨YJ,fun l hl=>q l _ _ (af hl _) ae (.cons (eu.same (af hl _)) .nil)⟩
def Ck (bs:aB)(t y:Str):Bool:=decide (t="box"/\y∈bs.map (·.1))
def zl {bs:aB}{ws:List Int}(h:bs.length=ws.length)(x:Str):cu (cp "box" bs ws) "box" x=Ck bs "box" x:=by
 unfold cu Ck
 by_cases hx:x∈bs.map (·.1)
 . rw[mi "box" bs ws x h hx,hW ⟨rfl,hx⟩]
   rfl
 . rw[ik "box" bs ws "box" x fun y=>hx,gv fun z=>hx z.2]
   rfl
theorem iO {f g:Str->Str->Bool}(h:∀x,f "box" x=g "box" x):∀{e:E},e.okIn fe->e.bf f=e.bf g
 | .num _,_=>rfl
 | .box t x,ok=>by
   have ht:t="box":=ok
   subst ht
   show h x
 | .yes,_=>rfl
 | .nt a,ok=>iO h (e:=a) ok
 | .two _ a b,ok=>by
   change(a.bf f&&b.bf f)=(a.bf g&&b.bf g)
   rw[iO h (e:=a) ok.1,iO h (e:=b) ok.2]
def wR {bs:aB}{e:E}(h:e.okIn (JK bs)):e.okIn fe:=E.okIn.imp (fun y y z=>z.1) h
def cQ {xs:List Str}:(xs.map V.str).all dE=true:=by
 rw[List.all_eq_true]
 intro v hv
 obtain⟨x,_,rfl⟩:=fc hv
 rfl
def y6 {i:Int}(h:i.natAbs<2^1900):FX (.int i):=.inl ⟨i,rfl,by
 by_cases z:i.natAbs=0
 . rw[z];decide
 . show(Nat.log2_lt z).mpr (RJ h (U6 (by left) (by left)))⟩
def ni {xs:List Str}{x:Str}:iN (.str x) (xs.map V.str)=decide (x∈xs):=by
 unfold iN
 by_cases h:x∈xs
 . rw[hW h,Vw]
   show⟨.str x,C6 ⟨x,h,U⟩,by simp[oB]⟩
 . rw[gv h,Uw]
   intro v hv
   obtain⟨y,hy,rfl⟩:=fc hv
   intro e
   have:y=x:=by simpa[oB]using e
   show h (this▸hy)
def rf {x:Str}(h:x.length<=2000):FX (.str x):=.inr ⟨x,rfl,h⟩
def B4 (bs:aB):Prop:=(∀b∈bs,1<=b.2)/\(bs.map (·.1)).Nodup
def Jy (bs:aB)(ins:List Str):Prop:=(∀x∈ins,x∈bs.map (·.1))/\ins.Nodup
def lV (bs:aB)(m:Nat)(nd:Np):Prop:=(∀l∈nd.gJ,0<=l/\l<(m:Int))/\∀e∈nd.fw,e.bf (Ck bs)=true
def B8 (bs:aB)(nds:List Np):Prop:=1<=nds.length/\∀nd∈nds,lV bs nds.length nd
structure uZ (H:Hp)(B I N:Addr)(vb vn:List V)(bs:aB)(ins:List Str)(nds:List Np):Prop where
 hB:H B=some (.lst vb)
 pb:Paired (fm H) vb bs
 hI:H I=some (.lst (ins.map V.str))
 hN:H N=some (.lst vn)
 pn:Paired (b8 H) vn nds
 b9:bs.length<=900
 i9:ins.length<=900
 n9:nds.length<=900
 bs2:∀b∈bs,b.1.length<=2000
 is2:∀x∈ins,x.length<=2000
 ld:∀nd∈nds,∀l∈nd.gJ,l.natAbs<2^1900
 td:∀nd∈nds,∀e∈nd.fw,e.okIn fe/\e.dep<20
def uZ.same {H H':Hp}{B I N:Addr}{vb vn:List V}{bs:aB}{ins:List Str}{nds:List Np}(h:uZ H B I N vb vn bs ins nds)(s:ai H H'):uZ H' B I N vb vn bs ins nds:=
 ⟨s _ _ h.hB,Paired.cZ h.pb fun y y z=>Tp.keep (ai.tk s) z,s _ _ h.hI,s _ _ h.hN,Paired.cZ h.pn fun y y z=>b8.keep (ai.tk s) z,h.b9,h.i9,h.n9,h.bs2,h.is2,h.ld,h.td⟩
abbrev nR:Stmt:=top 17
abbrev nS:Stmt:=top 18
def jX (C:Addr):Sp:=fun vs H Q X=>∃(ba:Addr) (vb:List V) (bs:aB),vs=[.ref ba]/\H ba=some (.lst vb)/\Paired (fm H) vb bs/\bs.length<=900/\(∀b∈bs,b.1.length<=2000)/\(B4 bs->∀H',ai H H'->Q .bI H')/\(¬ B4 bs->∀H',ai H H'->X (.ref C) none H')
def jU:aC ["boxes","name","size","names"] ["boxes"] (ao nR):=eU
def xf {C T:Addr}{f:Addr}{fd:RZ}(F:cD K "refuse_boxes" "refuse_boxes" nR f fd)(cP:Xc K mg "NoProgram" C (.ref T::vE))(m_len:mg "len"=none)(m_set:mg "set"=none):aY P w K mg base (eD P w base) 1 f fd ["boxes"] (jX C):=by
 show F.wU jU (fun vs H Q E h=>?_) (fun cdv A outer s H vs Q E hr h=>?_)
 . obtain⟨ba,vb,bs,rfl,_⟩:=h
   rfl
 . obtain⟨ba,vb,bs,rfl,hB,pb,F7,n2,q1,q2⟩:=h
   show⟨_,Xh (Wv (W8 (WW (Y 0)) (Xb 2 (WQ (WI 1 jU.nd) (WQ (WI 2 jU.nd) W2))) (Ww (WB (Wx Xl (Y 2) Ws) (Ww (Xa cA cP U U (L (L3.Cw (Xy (L3.fv (Y 1) (Xy L3.fn)))) M js))) WE)) (hp:=Sn))
     (Wv (Xz (i:=3) [none,none] ["name","size"] (oa nR) U (WW (Y 0)) (fun y y y y y=>⟨(Xb 2 (WQ (WI 0 (jr ["name","size"])) (WQ (WI 1 (jr ["name","size"])) W2))),WZ,(Y 0)⟩) jU.nd)
     (Ww (WB (Wx Xn (L3.rG U m_len U m_set (L (Y 3) M)) (WJ WO U m_len RG (L (Y 3) M))) (Ww (Xa cA cP U U (L Wu M))) WE)))),?_⟩
   have Bd:vb.length=bs.length:=Paired.length pb
   show⟨_,U,ba,U,⟨_,aH.of hB⟩,?_⟩
   show dG (xs:=vb) (fun i σ H2=>(∃nv sv,σ=[some (.ref ba),nv,sv,none])/\H2=H/\∀b∈bs.take i,1<=b.2) ⟨⟨_,_,U⟩,U,fun b hb=>by simp at hb⟩ (fun i σ H2 y z=>by rw[z.2.1];show aH.of hB) (fun i x0 σ H2 hx z=>?_) (fun σ H2 z=>?_)
   . obtain⟨⟨nv,sv,rfl⟩,rfl,gs⟩:=z
     obtain⟨b,lK,p,rfl,hp⟩:=Paired.get pb hx
     have Gb:=RL lK
     show yC hp ?_
     show⟨_,U,_,_,U,U,_,U,?_⟩
     show aG (fun c=>?_) (fun c=>?_)
     . have c':b.2<1:=jg c
       show⟨_,U,rf (n2 b Gb),fun x=>⟨_,U,q2 (fun g=>by have:=g.1 b Gb;lia) _ (same_refl _)⟩⟩
     . have c':¬ b.2<1:=fun z=>c (hW z)
       show⟨⟨_,_,U⟩,U,fun b' pz=>?_⟩
       rw[R9,lK]at pz
       rcases ez pz with z|z
       . show gs b' z
       . have e:b'=b:=by simpa using z
         subst e
         lia
   obtain⟨⟨nv,sv,rfl⟩,hH,gs⟩:=z
   have OF:=hH.symm
   subst OF
   rw[Bd,Sf]at gs
   show⟨_,U,ba,U,⟨_,aH.of hB⟩,fun na CG=>?_⟩
   have K5:ba≠na:=ag hB CG
   show bD (xs:=vb) (fun i H2=>H2=upd H na (.lst ((bs.take i).map fun b=>V.str b.1))) rfl (fun i H2 y e=>?_) (fun i x H2 hx e=>?_) (fun H2 e=>?_)
   . subst e
     show aH.of (by rw[ah K5];show hB)
   . subst e
     obtain⟨b,lK,p,rfl,hp⟩:=Paired.get pb hx
     have eE:i<vb.length:=(cy hx)
     show yC (by rw[ah (ag hp CG)];show hp) ?_
     show de (A:=fun H3=>dJ (AL 0) na _ H3 _) ⟨_,U,_,ae,aW (by rw[Rn,R8];lia),bq (Pv:=fun i H2=>H2=upd H na (.lst ((bs.take i).map fun b=>V.str b.1))) (by repeat' constructor) eE ?_⟩
     rw[j4]
     congr 2
     rw[R9,lK,RW]
     rfl
   subst e
   have et:(bs.take vb.length).map (fun b=>V.str b.1)=(bs.map (·.1)).map V.str:=by rw[Bd,Sf,Te];rfl
   rw[et]
   have sN:=af CG (.lst ((bs.map (·.1)).map V.str))
   have A8:(upd H na (.lst ((bs.map (·.1)).map V.str))) na=some (.lst ((bs.map (·.1)).map V.str)):=ae
   generalize upd H na (.lst ((bs.map (·.1)).map V.str))=H1 at sN A8 ⊢
   show⟨_,U,na,_,U,aH.of A8,by rw[Rn];lia,fun n e1 e2=>⟨_,U,na,_,U,.inl (aH.of A8),U,_,U,?_⟩⟩
   rw[Rn]
   by_cases nd:(bs.map (·.1)).Nodup
   . have e:=e1 nd
     subst e
     show aG (fun c=>?_) (fun y=>?_)
     . simp at c
     show q1 ⟨gs,nd⟩ _ sN
   . have e:=e2 nd
     show aG (fun y=>?_) (fun c=>?_)
     . show⟨_,U,q2 (fun g=>nd g.2) _ sN⟩
     . exfalso
       apply c
       simp at e ⊢
       lia
def tP {C T:Addr}(s:Src K mg "refuse_boxes" nR)(cP:Xc K mg "NoProgram" C (.ref T::vE))(m_len:mg "len"=none)(m_set:mg "set"=none):bQ P w K mg base "refuse_boxes" ["boxes"] 1 (jX C):=
 let⟨f,fd,F,m⟩:=s
 ⟨f,fd,xf F cP m_len m_set,F.kp,lG F fun z z z z z z z=>rfl,m⟩
def jY (C:Addr):Sp:=fun vs H Q X=>∃(ba ia:Addr) (vb:List V) (bs:aB) (ins:List Str),vs=[.ref ba,.ref ia]/\H ba=some (.lst vb)/\Paired (fm H) vb bs/\H ia=some (.lst (ins.map V.str))/\bs.length<=900/\ins.length<=900/\(∀x∈ins,x.length<=2000) /\
 (Jy bs ins->∀H',ai H H'->Q .bI H')/\(¬ Jy bs ins->∀H',ai H H'->X (.ref C) none H')
def nX:aC ["boxes","inputs","names","name"] ["boxes","inputs"] (ao nS):=eU
def xg {C T:Addr}{f:Addr}{fd:RZ}(F:cD K "refuse_inputs" "refuse_inputs" nS f fd)(cP:Xc K mg "NoProgram" C (.ref T::vE))(m_len:mg "len"=none)(m_set:mg "set"=none):aY P w K mg base (eD P w base) 1 f fd ["boxes","inputs"] (jY C):=by
 show F.wU nX (fun vs H Q E h=>?_) (fun cdv A outer s H vs Q E hr h=>?_)
 . obtain⟨ba,ia,vb,bs,ins,rfl,_⟩:=h
   rfl
 . obtain⟨ba,ia,vb,bs,ins,rfl,hB,pb,hI,F7,PK,n2,q1,q2⟩:=h
   show⟨_,Xh (Wv (Xz (i:=2) [none,none] ["name","size"] (oa nS) U (WW (Y 0)) (fun v v v v v=>⟨(Xb 2 (WQ (WI 0 (jr ["name","size"])) (WQ (WI 1 (jr ["name","size"])) W2))),WZ,(Y 0)⟩) nX.nd)
     (Wv (W8 (WW (Y 1)) (WI 3 nX.nd) (Ww (WB (Wx L3.jQ (Y 3) (Y 2) U) (Ww (Xa cA cP U U (L (L3.Cw (Xy (L3.fv (Y 3) (Xy L3.fn)))) M js))) WE)) (hp:=Sn))
     (Ww (WB (Wx Xn (L3.rG U m_len U m_set (L (Y 1) M)) (WJ WO U m_len RG (L (Y 1) M))) (Ww (Xa cA cP U U (L Wu M))) WE)))),?_⟩
   have Bd:vb.length=bs.length:=Paired.length pb
   show⟨_,U,ba,U,⟨_,aH.of hB⟩,fun na CG=>?_⟩
   have K5:ba≠na:=ag hB CG
   show bD (xs:=vb) (fun i H2=>H2=upd H na (.lst ((bs.take i).map fun b=>V.str b.1))) rfl (fun i H2 v e=>?_) (fun i x H2 hx e=>?_) (fun H2 e=>?_)
   . subst e
     show aH.of (by rw[ah K5];show hB)
   . subst e
     obtain⟨b,lK,p,rfl,hp⟩:=Paired.get pb hx
     have eE:i<vb.length:=(cy hx)
     show yC (by rw[ah (ag hp CG)];show hp) ?_
     show de (A:=fun H3=>dJ (AL 0) na _ H3 _) ⟨_,U,_,ae,aW (by rw[Rn,R8];lia),bq (Pv:=fun i H2=>H2=upd H na (.lst ((bs.take i).map fun b=>V.str b.1))) (by repeat' constructor) eE ?_⟩
     rw[j4]
     congr 2
     rw[R9,lK,RW]
     rfl
   subst e
   have et:(bs.take vb.length).map (fun b=>V.str b.1)=(bs.map (·.1)).map V.str:=by rw[Bd,Sf,Te];rfl
   rw[et]
   have sN:=af CG (.lst ((bs.map (·.1)).map V.str))
   have A8:(upd H na (.lst ((bs.map (·.1)).map V.str))) na=some (.lst ((bs.map (·.1)).map V.str)):=ae
   generalize upd H na (.lst ((bs.map (·.1)).map V.str))=H1 at sN A8 ⊢
   have Jd:=sN _ _ hI
   show⟨_,U,ia,U,⟨_,aH.of Jd⟩,?_⟩
   show dG (xs:=ins.map V.str) (fun i σ H2=>(∃nv,σ=[some (.ref ba),some (.ref ia),some (.ref na),nv])/\H2=H1/\∀x∈ins.take i,x∈bs.map (·.1)) ⟨⟨_,U⟩,U,fun b hb=>by simp at hb⟩ (fun i σ H2 v z=>by rw[z.2.1];show aH.of Jd) (fun i x0 σ H2 hx z=>?_) (fun σ H2 z=>?_)
   . obtain⟨⟨nv,rfl⟩,rfl,gs⟩:=z
     obtain⟨x,yy,rfl⟩:=cX hx
     have eF:=RL yy
     show⟨_,U,_,U,na,_,U,.inl (aH.of A8),U,cQ,_,U,?_⟩
     show aG (fun c=>?_) (fun c=>?_)
     . have c':¬ x∈bs.map (·.1):=fun z=>by
         have e:=ni (xs:=bs.map (·.1)) (x:=x)
         rw[hW z]at e
         rw[e]at c
         show au c (by left)
       show⟨_,U,rf (n2 x eF),fun y=>⟨_,U,q2 (fun g=>c' (g.1 x eF)) _ sN⟩⟩
     . have c':x∈bs.map (·.1):=Vq fun z=>by
         have e:=ni (xs:=bs.map (·.1)) (x:=x)
         rw[gv z]at e
         rw[e]at c
         show c (by left)
       show⟨⟨_,U⟩,U,fun b' pz=>?_⟩
       rw[R9,yy]at pz
       rcases ez pz with z|z
       . show gs b' z
       . have e:b'=x:=by simpa using z
         subst e
         show c'
   obtain⟨⟨nv,rfl⟩,rfl,gs⟩:=z
   rw[Rn,Sf]at gs
   show⟨_,U,ia,_,U,aH.of Jd,by lia,fun n e1 e2=>⟨_,U,ia,_,U,.inl (aH.of Jd),U,_,U,?_⟩⟩
   rw[Rn]
   by_cases nd:ins.Nodup
   . have e:=e1 nd
     subst e
     show aG (fun c=>?_) (fun v=>?_)
     . simp at c
     show q1 ⟨gs,nd⟩ _ sN
   . have e:=e2 nd
     show aG (fun v=>?_) (fun c=>?_)
     . show⟨_,U,q2 (fun g=>nd g.2) _ sN⟩
     . exfalso
       apply c
       simp at e ⊢
       lia
def tQ {C T:Addr}(s:Src K mg "refuse_inputs" nS)(cP:Xc K mg "NoProgram" C (.ref T::vE))(m_len:mg "len"=none)(m_set:mg "set"=none):bQ P w K mg base "refuse_inputs" ["boxes","inputs"] 1 (jY C):=
 let⟨f,fd,F,m⟩:=s
 ⟨f,fd,xg F cP m_len m_set,F.kp,lH F fun z z z z z z z z=>rfl,m⟩
abbrev nU:Stmt:=top 19
abbrev kT:Stmt:=top 16
def jZ (C:Addr):Sp:=fun vs H Q X=>∃(B I N:Addr) (vb vn:List V) (bs:aB) (ins:List Str) (nds:List Np),vs=[.ref B,.ref N]/\uZ H B I N vb vn bs ins nds/\(bs.map (·.1)).Nodup/\(B8 bs nds->∀H',ai H H'->Q .bI H')/\(¬ B8 bs nds->∀H',ai H H'->X (.ref C) none H')
def iY:aC ["boxes","nodes","known","node","lead","told"] ["boxes","nodes"] (ao nU):=eU
def xh {C T:Addr}{f:Addr}{fd:RZ}(F:cD K "refuse_nodes" "refuse_nodes" nU f fd)(cP:Xc K mg "NoProgram" C (.ref T::vE))(m_len:mg "len"=none)(LE:b7 P w K mg base "leads_of" ["node"] 22 jV)(TB:b7 P w K mg base "told_by" ["node"] 22 i7)(RU:bQ P w K mg base "refuse_unknown" ["known","told"] 22 (gr C 20)):aY P w K mg base (eD P w base) 23 f fd ["boxes","nodes"] (jZ C):=by
 show F.wU iY (fun vs H Q E h=>?_) (fun cdv A outer s H vs Q E hr h=>?_)
 . obtain⟨ba,ia,na,vb,vn,bs,ins,nds,rfl,_⟩:=h
   rfl
 . obtain⟨ba,ia,na,vb,vn,bs,ins,nds,rfl,ap,nd,q1,q2⟩:=h
   obtain⟨hB,pb,hI,hN,pn,F7,_,Qc,_,_,ld,td⟩:=ap
   show⟨_,Xh (Wv (WB (Wx WL (WJ WO U m_len RG (L (Y 1) M)) Ws) (Ww (Xa cA cP U U (L Wu M))) WE)
     (Wv (L3.Qs (i:=2) [none,none] ["name","size"] (dm hr _ (by left)) (oa nU) U (WW (Y 0)) (fun v v v v v=>⟨(Xb 2 (WQ (WI 0 (jr ["name","size"])) (WQ (WI 1 (jr ["name","size"])) W2))),WZ,(WH (L Wu (L (Y 0) M))),(Y 1)⟩) iY.nd)
     (Ww (W8 (WW (Y 1)) (WI 3 iY.nd) (Wv (W8 (WW (WA LE hr U (L (Y 3) M))) (WI 4 iY.nd) (Ww (WB (WV (Xq (Wx Xl (Y 4) Ws) (XA (Wx L3.GY (Y 4) (WJ WO U m_len RG (L (Y 1) M)))))) (Ww (Xa cA cP U U (L (L3.Cw (Xy (L3.fv (Y 4) (Xy L3.fn)))) M js))) WE)) (hp:=Sn))
     (Ww (W8 (WW (WA TB hr U (L (Y 3) M))) (WI 5 iY.nd) (Ww (W0 (Xd iV RU hr U (L (Y 2) (L (Y 5) M))))) (hp:=Sn)))) (hp:=Sn))))),?_⟩
   have Bd:vb.length=bs.length:=Paired.length pb
   have PB:vn.length=nds.length:=Paired.length pn
   show⟨_,U,na,_,U,.inl (aH.of hN),U,_,U,?_⟩
   show aG (fun c=>?_) (fun c=>?_)
   . have:=jg c
     injection this with this
     show⟨_,U,q2 (fun g=>by have:=g.1;lia) _ (same_refl _)⟩
   have n1:1<=nds.length:=by
     by_cases z:vn.length=0
     . exfalso
       show c (hW (by rw[z];rfl))
     . lia
   show⟨_,U,ba,U,⟨_,aH.of hB⟩,fun D hD=>?_⟩
   show bD (xs:=vb) (fun i H2=>(∀b o,H b=some o->H2 b=some o)/\H2 D=some (.dT (cp "box" (bs.take i) ((bs.take i).map (·.2))))) ⟨af hD _,ae⟩ (fun i H2 v z=>aH.of (z.1 _ _ hB)) (fun i x0 H2 hx z=>?_) (fun H2 z=>?_)
   . obtain⟨z,A7⟩:=z
     obtain⟨b,lK,pp,rfl,md⟩:=Paired.get pb hx
     have eE:i<vb.length:=(cy hx)
     show yC (z _ _ md) ?_
     show de (A:=fun H3=>C5 _ _ D _ H3 _) ?_
     show⟨_,U,YK,fun kp MA=>⟨_,U,?_⟩⟩
     have Qd:D≠kp:=ag A7 MA
     have OE:(upd H2 kp (.tup [.str "box",.str b.1])) D=some (.dT (cp "box" (bs.take i) ((bs.take i).map (·.2)))):=by rw[ah Qd];show A7
     have pY:=mh "box" (bs.take i) ((bs.take i).map (·.2))
     have KD:(bs.take i).length<=bs.length:=by rw[R8];lia
     show⟨_,u5.t (k:=[.inr "box",.inr b.1]) OE ae (aW (by lia)),bq (Pv:=fun i H2=>(∀b o,H b=some o->H2 b=some o)/\H2 D=some (.dT (cp "box" (bs.take i) ((bs.take i).map (·.2))))) (by repeat' constructor) eE ⟨fun c o hc=>?_,?_⟩⟩
     . have zh:=z c o hc
       rw[ah (ag hc hD),ah (ag zh MA)]
       show zh
     . rw[ae,xF (ik "box" _ _ _ _ fun v=>zx nd lK),R9,lK]
       change _=some (HO.dT (cp "box" (bs.take i++[b]) ((bs.take i++[b]).map (·.2))))
       rw[RW]
       change _=some (HO.dT (cp "box" (bs.take i++[b]) ((bs.take i).map (·.2)++[b.2])))
       rw[kI "box" _ _ b b.2 (by rw[Rn])]
   obtain⟨s1,A7⟩:=z
   rw[Bd,Sf]at A7
   have kv:∀x,cu (cp "box" bs (bs.map (·.2))) "box" x=Ck bs "box" x:=zl (by rw[Rn])
   have Km:=s1 _ _ hN
   have Qn:Paired (b8 H2) vn nds:=Paired.cZ pn fun a b h=>b8.keep (ai.tk s1) h
   show⟨_,U,na,U,⟨_,aH.of Km⟩,?_⟩
   show dG (xs:=vn) (fun i σ H3=>(∃o3 o4 o5,σ=[some (.ref ba),some (.ref na),some (.ref D),o3,o4,o5])/\ai H2 H3/\∀e∈nds.take i,lV bs nds.length e) ⟨⟨_,_,_,U⟩,same_refl _,fun b hb=>by simp at hb⟩ (fun i σ H3 v z=>aH.of (z.2.1 _ _ Km)) (fun i x0 σ H3 hx z=>?_) (fun σ H3 z=>q1 ⟨n1,by have g:=z.2.2;rw[PB,Sf]at g;show g⟩ _ (aa s1 z.2.1))
   obtain⟨⟨o3,o4,o5,rfl⟩,s3,gs⟩:=z
   obtain⟨wz,Gs,MC⟩:=Paired.get Qn hx
   have hnm:=RL Gs
   show⟨_,U,x0,wz,U,b8.keep (ai.tk s3) MC,fun l H4 Qq e4=>?_⟩
   have s4:=aa s3 Qq
   show⟨l,U,⟨_,aH.of e4⟩,?_⟩
   show dG (xs:=wz.gJ.map V.int) (fun i σ H5=>(∃o4 o5,σ=[some (.ref ba),some (.ref na),some (.ref D),some x0,o4,o5])/\H5=H4/\∀l∈wz.gJ.take i,0<=l/\l<(nds.length:Int)) ⟨⟨_,_,U⟩,U,fun b hb=>by simp at hb⟩ (fun i σ H5 v z=>by rw[z.2.1];show aH.of e4) (fun i y0 σ H5 hy z=>?_) (fun σ H5 z=>?_)
   . obtain⟨⟨o4,o5,rfl⟩,rfl,gl⟩:=z
     obtain⟨k0,CD,rfl⟩:=cX hy
     have KA:=RL CD
     have fk:FX (.int k0):=y6 (ld wz hnm k0 KA)
     show⟨_,U,_,_,U,U,_,U,?_⟩
     show aG (fun c=>?_) (fun c=>?_)
     . have c':k0<0:=jg c
       show b6 ?_
       show⟨_,U,fk,fun y=>⟨_,U,q2 (fun g=>by have:=((g.2 wz hnm).1 k0 KA).1;lia) _ (aa s1 s4)⟩⟩
     . have c':¬ k0<0:=fun z=>c (hW z)
       show⟨_,U,_,U,na,_,U,.inl (aH.of (s4 _ _ Km)),_,_,U,U,_,U,?_⟩
       show aG (fun d=>?_) (fun d=>?_)
       . have d':k0 ≥ (vn.length:Int):=jg d
         show⟨_,U,fk,fun y=>⟨_,U,q2 (fun g=>by have:=((g.2 wz hnm).1 k0 KA).2;lia) _ (aa s1 s4)⟩⟩
       . have d':¬ k0 ≥ (vn.length:Int):=fun z=>d (hW z)
         show⟨⟨_,_,U⟩,U,fun b' pz=>?_⟩
         rw[R9,CD]at pz
         rcases ez pz with z|z
         . show gl b' z
         . have e:b'=k0:=by simpa using z
           subst e
           lia
   obtain⟨⟨o4,o5,rfl⟩,rfl,gl⟩:=z
   rw[Rn,Sf]at gl
   show⟨_,U,x0,wz,U,b8.keep (ai.tk s4) MC,fun tl H6 us s6 e6 pe=>?_⟩
   have M3:=aa s4 s6
   show⟨tl,U,⟨_,aH.of e6⟩,?_⟩
   show dG (xs:=us) (fun i σ H7=>(∃o4 o5,σ=[some (.ref ba),some (.ref na),some (.ref D),some x0,o4,o5])/\ai H6 H7/\∀e∈wz.fw.take i,e.bf (Ck bs)=true) ⟨⟨_,_,U⟩,same_refl _,fun b hb=>by simp at hb⟩ (fun i σ H7 v z=>aH.of (z.2.1 _ _ e6)) (fun i y0 σ H7 hy z=>?_) (fun σ H7 z=>?_)
   . obtain⟨⟨o4,o5,rfl⟩,s7,gt⟩:=z
     obtain⟨e0,Mw,a0⟩:=Paired.get pe hy
     have Mx:=RL Mw
     obtain⟨MT,d0⟩:=td wz hnm e0 Mx
     have M4:=aa M3 s7
     have ke:=iO (f:=cu (cp "box" bs (bs.map (·.2)))) (g:=Ck bs) kv MT
     show⟨_,U,_,U,D,y0,e0,_,U,M4 _ _ A7,a0.same s7,MT,d0,fun c H8 s8=>?_,fun c H8 s8=>?_⟩
     . show⟨⟨_,_,U⟩,aa s7 s8,fun b' pz=>?_⟩
       rw[R9,Mw]at pz
       rcases ez pz with z|z
       . show gt b' z
       . have e:b'=e0:=by simpa using z
         subst e
         rw[← ke]
         show c
     . show q2 (fun g=>by have:=(g.2 wz hnm).2 e0 Mx;rw[← ke,c]at this;cases this) _ (aa s1 (aa M4 s8))
   . obtain⟨⟨o4,o5,rfl⟩,s7,gt⟩:=z
     have Px:=Paired.length pe
     rw[Px,Sf]at gt
     show⟨⟨_,_,_,U⟩,aa M3 s7,fun b' pz=>?_⟩
     rw[R9,Gs]at pz
     rcases ez pz with z|z
     . show gs b' z
     . have e:b'=wz:=by simpa using z
       subst e
       show⟨gl,gt⟩
def tS {C T:Addr}(s:Src K mg "refuse_nodes" nU)(cP:Xc K mg "NoProgram" C (.ref T::vE))(m_len:mg "len"=none)(LE:b7 P w K mg base "leads_of" ["node"] 22 jV)(TB:b7 P w K mg base "told_by" ["node"] 22 i7)(RU:bQ P w K mg base "refuse_unknown" ["known","told"] 22 (gr C 20)):bQ P w K mg base "refuse_nodes" ["boxes","nodes"] 23 (jZ C):=
 let⟨f,fd,F,m⟩:=s
 ⟨f,fd,xh F cP m_len LE TB RU,F.kp,lH F fun z z z z z z z z=>rfl,m⟩
structure JC (H H':Hp)(p B I N:Addr)(xb xi xn:List V):Prop where
 s:ai H H'
 nB:H B=none
 nI:H I=none
 nN:H N=none
 BN:B≠N
 IN:I≠N
 BI:B≠I
 hp:H' p=some (.tup [.ref B,.ref I,.ref N])
 hB:H' B=some (.lst xb)
 hI:H' I=some (.lst xi)
 hN:H' N=some (.lst xn)
 np:H p=none
def dX (bs:aB)(ins:List Str)(nds:List Np):Prop:=B4 bs/\Jy bs ins/\B8 bs nds
def cq (C:Addr):Sp:=fun vs H Q X=>∃(B I N:Addr) (vb vn:List V) (bs:aB) (ins:List Str) (nds:List Np),vs=[.ref B,.ref I,.ref N]/\uZ H B I N vb vn bs ins nds/\(dX bs ins nds->∀p' B' I' N' H',JC H H' p' B' I' N' vb (ins.map V.str) vn->Q (.ref p') H')/\(¬ dX bs ins nds->∀H',ai H H'->X (.ref C) none H')
def uI:aC ["boxes","inputs","nodes"] ["boxes","inputs","nodes"] (ao kT):=eU
def qo {C:Addr}{f:Addr}{fd:RZ}(F:cD K "program_of" "program_of" kT f fd)(m_list:mg "list"=none)(RB:bQ P w K mg base "refuse_boxes" ["boxes"] 23 (jX C))(RI:bQ P w K mg base "refuse_inputs" ["boxes","inputs"] 23 (jY C))(RN:bQ P w K mg base "refuse_nodes" ["boxes","nodes"] 23 (jZ C)):aY P w K mg base (eD P w base) 24 f fd ["boxes","inputs","nodes"] (cq C):=by
 show F.wU uI (fun vs H Q E h=>?_) (fun cdv A outer s H vs Q E hr h=>?_)
 . obtain⟨B,I,N,vb,vn,bs,ins,nds,rfl,_⟩:=h
   rfl
 . obtain⟨B,I,N,vb,vn,bs,ins,nds,rfl,ft,q,qb⟩:=h
   show⟨_,Xh (Wv (W0 (Xd iV RB hr U (L (Y 0) M)))
     (Wv (W0 (Xd iV RI hr U (L (Y 0) (L (Y 1) M))))
     (Wv (W0 (Xd iV RN hr U (L (Y 0) (L (Y 2) M))))
     (Ww (WC (WH (L (W4 L3.mM U m_list (by right) (L (Y 0) M)) (L (W4 L3.mM U m_list (by right) (L (Y 1) M)) (L (W4 L3.mM U m_list (by right) (L (Y 2) M)) M))))))))),?_⟩
   show⟨_,U,B,vb,bs,U,ft.hB,ft.pb,ft.b9,ft.bs2,fun gB Ha sa=>?_,fun n H' s'=>qb (fun g=>n g.1) _ s'⟩
   have f1:=ft.same sa
   show⟨_,U,_,U,B,I,vb,bs,ins,U,f1.hB,f1.pb,f1.hI,ft.b9,ft.i9,ft.is2,fun gI Hb sb=>?_,fun n H' s'=>qb (fun g=>n g.2.1) _ (aa sa s')⟩
   have f2:=f1.same sb
   show⟨_,U,_,U,B,I,N,vb,vn,bs,ins,nds,U,f2,gB.2,fun gN Hc sc=>?_,fun n H' s'=>qb (fun g=>n g.2.2) _ (aa sa (aa sb s'))⟩
   have f3:=f2.same sc
   replace q:=q ⟨gB,gI,gN⟩
   have s0:=aa sa (aa sb sc)
   show⟨_,U,B,_,U,.inl (aH.of f3.hB),fun b hb=>?_⟩
   have s1:=af hb (.lst vb)
   have e1:(upd Hc b (.lst vb)) b=some (.lst vb):=ae
   generalize upd Hc b (.lst vb)=H1 at s1 e1 ⊢
   have f4:=f3.same s1
   show⟨_,U,I,_,U,.inl (aH.of f4.hI),fun i hi=>?_⟩
   have s2:=af hi (.lst (ins.map V.str))
   have e2:(upd H1 i (.lst (ins.map V.str))) i=some (.lst (ins.map V.str)):=ae
   generalize upd H1 i (.lst (ins.map V.str))=H2 at s2 e2 ⊢
   have f5:=f4.same s2
   show⟨_,U,N,_,U,.inl (aH.of f5.hN),fun n hn=>⟨YL,fun r KO=>?_⟩⟩
   have s3:=af hn (.lst vn)
   have e3:(upd H2 n (.lst vn)) n=some (.lst vn):=ae
   generalize upd H2 n (.lst vn)=H3 at s3 e3 KO ⊢
   have s4:=af KO (.tup [.ref b,.ref i,.ref n])
   have MW:=aa s0 s1
   have MX:=aa MW s2
   have mB:=aa MX s3
   show q r b i n _ ⟨aa mB s4,aS s0 hb,aS MW hi,aS MX hn,ag (s2 _ _ e1) hn,ag e2 hn,ag e1 hi,ae,s4 _ _ (s3 _ _ (s2 _ _ e1)),s4 _ _ (s3 _ _ e2),s4 _ _ e3,aS mB KO⟩
def oH {C:Addr}(s:Src K mg "program_of" kT)(m_list:mg "list"=none)(RB:bQ P w K mg base "refuse_boxes" ["boxes"] 23 (jX C))(RI:bQ P w K mg base "refuse_inputs" ["boxes","inputs"] 23 (jY C))(RN:bQ P w K mg base "refuse_nodes" ["boxes","nodes"] 23 (jZ C)):bQ P w K mg base "program_of" ["boxes","inputs","nodes"] 24 (cq C):=
 let⟨f,fd,F,m⟩:=s
 ⟨f,fd,qo F m_list RB RI RN,F.kp,Ci F fun z z z z z z z z z=>rfl,m⟩
def K2.sign:K2->Str
 | .plus=>"+" | .less=>"-" | .same=>"=" | .under=>"<" | .both=>"&"
def E.txt:E->Str
 | .num n=>Rt (toString n)
 | .box _ x=>x
 | .yes=>"yes"
 | .nt a=>"!"++a.txt
 | .two .plus a b=>"("++(a.txt++K2.sign .plus++b.txt)++")"
 | .two .less a b=>"("++(a.txt++K2.sign .less++b.txt)++")"
 | .two .same a b=>a.txt++K2.sign .same++b.txt
 | .two .under a b=>a.txt++K2.sign .under++b.txt
 | .two .both a b=>"{"++(a.txt++K2.sign .both++b.txt)++"}"
def E.sz:E->Nat
 | .num _=>31|.box _ _=>8|.yes=>3|.nt a=>a.sz+1|.two _ a b=>a.sz+b.sz+3
structure df (x:Str):Prop where
 l1:1<=x.length
 l8:x.length<=8
 lt:∀c∈x.cps.toList,97<=c/\c<123
def E.okN (P:Str->Prop):E->Prop
 | .num n=>0<=n/\n<10^30|.box t x=>t="box"/\P x|.yes=>True|.nt a=>a.okN P|.two _ a b=>a.okN P/\b.okN P
theorem E.okN.imp {P Q:Str->Prop}(f:∀x,P x->Q x):∀{e:E},e.okN P->e.okN Q
 | .num _,h=>h|.box t x,h=>⟨h.1,f x h.2⟩|.yes,_=>RO|.nt a,h=>E.okN.imp f (e:=a) h|.two _ a b,h=>⟨E.okN.imp f (e:=a) h.1,E.okN.imp f (e:=b) h.2⟩
def kM {n:Int}(h:0<=n/\n<10^30):n.natAbs<2^100:=by
 have:n<1000000000000000000000000000000:=h.2
 have h0:=h.1
 lia
def eY {n:Int}(h:n.natAbs<2^100):n.natAbs.log2<100:=by
 by_cases z:n.natAbs=0
 . rw[z];decide
 . show(Nat.log2_lt z).mpr h
def zF {n:Int}(h:n.natAbs<2^100):(Rt (toString n)).length<=101:=by
 rw[T9]
 show int_text_length_le (by left) (eY h)
def bJ {n:Int}(h:0<=n/\n<10^30):(Rt (toString n)).length<=31:=by
 rw[T9]
 show int_text_length_le10 (k:=30) (by left) ?_
 have:n<1000000000000000000000000000000:=h.2
 have h0:=h.1
 lia
theorem E.fh:∀{e:E},e.okN df->e.txt.length<=e.sz
 | .num n,h=>bJ h
 | .box _ x,h=>h.2.l8
 | .yes,_=>(by left:3<=3)
 | .nt a,h=>by
   have:=E.fh (e:=a) h
   change("!"++a.txt).length<=a.sz+1
   rw[SU,show(("!":Str)).length=1 from rfl]
   lia
 | .two k a b,h=>by
   have h1:=E.fh (e:=a) h.1
   have h2:=E.fh (e:=b) h.2
   have h3:(E.two k a b).txt.length<=a.txt.length+b.txt.length+3:=by
     have e1:(("(":Str)).length=1:=rfl
     have e2:((")":Str)).length=1:=rfl
     have e3:(K2.sign .plus).length=1:=rfl
     have e4:(K2.sign .less).length=1:=rfl
     have e5:(K2.sign .same).length=1:=rfl
     have e6:(K2.sign .under).length=1:=rfl
     have e7:(K2.sign .both).length=1:=rfl
     have e8:(("{":Str)).length=1:=rfl
     have e9:(("}":Str)).length=1:=rfl
     cases k<;>simp only[E.txt,SU]<;>lia
   change _<=a.sz+b.sz+3
   lia
structure pw (n:Nat)(e:E):Prop where
 is:e.vX
 ok:e.okN df
 sz:e.sz<=4000
 dp:e.dep<n
structure pL (n:Nat)(e:E):Prop where
 is:e.Fh
 ok:e.okN df
 sz:e.sz<=4000
 dp:e.dep<n
def pw.len {n:Nat}{e:E}(h:pw n e):e.txt.length<=4000:=Ry (E.fh h.ok) h.sz
def pL.len {n:Nat}{e:E}(h:pL n e):e.txt.length<=4000:=Ry (E.fh h.ok) h.sz
def fit {n:Nat}(h:n<=600000):n<=sizeLine:=Ry h (by left)
def AX (H:Hp)(kind:Str)(v:V)(x:Str):Prop:=
 (kind="sum"/\∃e,cJ H v e/\pw 30 e/\x=e.txt)\/(kind="condition"/\∃e,cJ H v e/\pL 30 e/\x=e.txt)\/(kind="name"/\v=.str x/\df x)\/(kind="number"/\∃i:Int,v=.int i/\(0<=i/\i<10^30)/\x=Rt (toString i))
def AX.len {H:Hp}{kind x:Str}{v:V}(h:AX H kind v x):x.length<=4000:=by
 rcases h with⟨_,e,_,h,rfl⟩|⟨_,e,_,h,rfl⟩|⟨_,_,h⟩|⟨_,i,_,h,rfl⟩
 . show h.len
 . show h.len
 . show Ry h.l8 (by left)
 . show Ry (bJ h) (by left)
abbrev bZ:List (Str×List Str):=[("box",["name","number"]),("input",["name"]),("put",["name","sum","number"]),("say",["sum","number"]),("test",["condition","number","number"]),("pick",["name","number"]),("end",[])]
def fV (w:World)(K:Ro)(aF:Addr):Prop:=∀q∈bZ,∃t kvs,eG w K aF kvs/\kvs.lookup q.1=some (.ref t)/\∀H:Hp,bS K H t (q.2.map V.str)
def fV.of {w:World}{K:Ro}{aF:Addr}{ts:List Addr}(d:eG w K aF ((bZ.map (·.1)).zip (ts.map V.ref)))(p:Paired (fun(t:Addr) (q:Str×List Str)=>∀H:Hp,bS K H t (q.2.map V.str)) ts bZ):fV w K aF:=by
 show match ts,p with|[a1,a2,a3,a4,a5,a6,a7],.cons h1 (.cons h2 (.cons h3 (.cons h4 (.cons h5 (.cons h6 (.cons h7 .nil))))))=>?_
 intro q hq
 simp only[Sh,R4,or_false]at hq
 rcases hq with rfl|rfl|rfl|rfl|rfl|rfl|rfl
 . show⟨a1,_,d,U,h1⟩
 . show⟨a2,_,d,U,h2⟩
 . show⟨a3,_,d,U,h3⟩
 . show⟨a4,_,d,U,h4⟩
 . show⟨a5,_,d,U,h5⟩
 . show⟨a6,_,d,U,h6⟩
 . show⟨a7,_,d,U,h7⟩
structure W3 (H:Hp)(ks:List Str)(vs:List V)(xs:List Str):Prop where
 l1:ks.length=vs.length
 l2:ks.length=xs.length
 at_:∀(i:Nat) (k x:Str) (v:V),ks[i]?=some k->vs[i]?=some v->xs[i]?=some x->AX H k v x
def W3.nil {H:Hp}:W3 H [] [] []:=⟨rfl,rfl,fun i z z z h=>by simp at h⟩
def W3.cons {H:Hp}{k x:Str}{v:V}{ks xs:List Str}{vs:List V}(a:AX H k v x)(h:W3 H ks vs xs):W3 H (k::ks) (v::vs) (x::xs):=⟨by simp[h.l1],by simp[h.l2],fun i a' b' c' h1 h2 h3=>by
 match i,h1,h2,h3 with
 | 0,h1,h2,h3=>
   simp at h1 h2 h3
   subst h1 h2 h3
   show a
 | i+1,h1,h2,h3=>show h.at_ i a' b' c' (by simpa using h1) (by simpa using h2) (by simpa using h3)⟩
structure om (H:Hp)(v:V)(head:Str)(xs:List Str):Prop where
 ex:∃(ks:List Str) (vals:List V),Tp H v (.str head::vals)/\(head,ks)∈bZ/\W3 H ks vals xs
def om.len {H:Hp}{v:V}{head:Str}{xs:List Str}(h:om H v head xs):xs.length<=3/\head.length<=5/\∀x∈xs,x.length<=4000:=by
 obtain⟨ks,vals,a,b,c⟩:=h.ex
 have all:∀q∈bZ,q.2.length<=3/\q.1.length<=5:=by right
 have h3:=all _ b
 show⟨by rw[← c.l2];show h3.1,h3.2,fun x hx=>?_⟩
 obtain⟨i,hi,e⟩:=List.getElem_of_mem hx
 have e1:xs[i]?=some x:=by rw[RQ hi,e]
 have hk:i<ks.length:=by rw[c.l2];show hi
 have hv:i<vals.length:=by rw[← c.l1];show hk
 show(c.at_ i _ _ _ (RQ hk) (RQ hv) e1).len
def jK {z:Str}{ts:List Str}(B:Nat)(hB:∀y∈ts,y.length<=B)(h:ts.length*B+ts.length*z.length<=16777216):JoinOk z ts=true:=by
 unfold JoinOk
 rw[StrLaws.joinFits hB h]
 rfl
def Em {H:Hp}{v:V}{head:Str}{xs:List Str}(h:om H v head xs):JoinOk " " (head::xs)=true:=by
 obtain⟨h3,h5,hl⟩:=h.len
 show jK 4000 (fun y hy=>?_) ?_
 . rcases cv hy with e|e
   . rw[e];lia
   . show hl y e
 . rw[RE,show((" ":Str)).length=1 from rfl]
   lia
def Ax {H:Hp}{v:V}{head:Str}{xs:List Str}(h:om H v head xs):(RM " " (head::xs)).length<=12100:=by
 obtain⟨h3,h5,hl⟩:=h.len
 change(Sr " " (head::xs)).length<=_
 rw[StrLaws.glued_eq_join]
 show Ry (StrLaws.join_length_le _ _) ?_
 have e:∀(l:List Str),(∀x∈l,x.length<=4000)->(l.map (·.length)).sum<=l.length*4000:=by
   intro l
   induction l with
   | nil=>intro _;show Rz _
   | cons a l ih=>
     intro h
     have h1:=ih fun x hx=>h x (RC _ hx)
     have h2:=h a Ru
     rw[R3,S2,RE]
     lia
 have:=e xs hl
 rw[R3,S2,RE,show((" ":Str)).length=1 from rfl]
 lia
def oz (a:V)(r:List V):er (a::r) (some 1) none=r:=by
 unfold er
 have e1:HT.bX (a::r).length 0 (some ((1:Nat):Int))=min 1 (a::r).length:=HT.d9 _ _ _
 rw[show((1:Int))=((1:Nat):Int)from rfl,e1,HT.pd,RE,Nat.min_eq_left (by lia)]
 simp
def iG {a:V}{r:List V}:iz (a::r) 0=some a:=f6 (xs:=a::r) (j:=0) rfl
def jh (b:Str×Int):List Str:=["box",b.1,Rt (toString b.2)]
def vW (x:Str):List Str:=["input",x]
def Np.ws:Np->List Str
 | .put x s n=>["put",x,s.txt,Rt (toString n)]
 | .say s n=>["say",s.txt,Rt (toString n)]
 | .test c n o=>["test",c.txt,Rt (toString n),Rt (toString o)]
 | .pick x n=>["pick",x,Rt (toString n)]
 | .fin=>["end"]
def Np.wr:Np->Prop
 | .put x s n=>df x/\pw 30 s/\0<=n/\n<10^30
 | .say s n=>pw 30 s/\0<=n/\n<10^30
 | .test c n o=>pL 30 c/\(0<=n/\n<10^30)/\0<=o/\o<10^30
 | .pick x n=>df x/\0<=n/\n<10^30
 | .fin=>True
def AX.nm {H:Hp}{x:Str}(h:df x):AX H "name" (.str x) x:=.inr (.inr (.inl ⟨rfl,rfl,h⟩))
def AX.no {H:Hp}{n:Int}(h:0<=n/\n<10^30):AX H "number" (.int n) (Rt (toString n)):=.inr (.inr (.inr ⟨rfl,n,rfl,h,rfl⟩))
def Np.rowAt {H:Hp}:∀{e:Np} {v:V},b8 H v e->e.wr->∃hd xs,om H v hd xs/\e.ws=hd::xs
 | .put x s n,v,⟨u,h,a⟩,⟨w1,w2,w3⟩=>⟨_,_,⟨_,_,h,by left,.cons (.nm w1) (.cons (.inl ⟨rfl,s,a,w2,rfl⟩) (.cons (.no w3) .nil))⟩,rfl⟩
 | .say s n,v,⟨u,h,a⟩,⟨w2,w3⟩=>⟨_,_,⟨_,_,h,by left,.cons (.inl ⟨rfl,s,a,w2,rfl⟩) (.cons (.no w3) .nil)⟩,rfl⟩
 | .test c n o,v,⟨u,h,a⟩,⟨w2,w3,w4⟩=>⟨_,_,⟨_,_,h,by left,.cons (.inr (.inl ⟨rfl,c,a,w2,rfl⟩)) (.cons (.no w3) (.cons (.no w4) .nil))⟩,rfl⟩
 | .pick x n,v,h,⟨w1,w3⟩=>⟨_,_,⟨_,_,h,by left,.cons (.nm w1) (.cons (.no w3) .nil)⟩,rfl⟩
 | .fin,v,h,_=>⟨_,_,⟨_,_,h,by left,.nil⟩,rfl⟩
abbrev bG:Str:=" "
def textOf (bs:aB)(ins:List Str)(nds:List Np):List Str:=bs.map (fun b=>RM bG (jh b))++ins.map (fun x=>RM bG (vW x))++nds.map (fun e=>RM bG e.ws)
structure E7 (bs:aB)(ins:List Str)(nds:List Np):Prop where
 b:∀x∈bs,df x.1/\0<=x.2/\x.2<10^30
 i:∀x∈ins,df x
 n:∀x∈nds,x.wr
 lb:bs.length<=4
 li:ins.length<=4
 ln:nds.length<=400
structure FD (H:Hp)(B I N:Addr)(vb vn:List V)(bs:aB)(ins:List Str)(nds:List Np):Prop where
 hB:H B=some (.lst vb)
 hI:H I=some (.lst (ins.map V.str))
 hN:H N=some (.lst vn)
 pb:Paired (fm H) vb bs
 pn:Paired (b8 H) vn nds
abbrev qz:Stmt:=dS 36 0
abbrev qC:Stmt:=dS 36 1
abbrev nQ:Stmt:=dS 36 2
abbrev xQ:Stmt:=dS 36 3
abbrev xS:Stmt:=dS 36 4
abbrev xR:Stmt:=dS 36 5
abbrev qA:Stmt:=dS 36 6
def SN (l:List Nat):Str:=⟨l.toArray⟩
def eV (l:List Nat):(SN l).cps.toList=l:=by simp[SN]
def oo (x:Str):SN x.cps.toList=x:=by cases x;simp[SN]
def pI (l:List Nat):(SN l).length=l.length:=by change l.toArray.size=_;simp
def gW {a b:List Nat}(h:SN a=SN b):a=b:=by
 have:=congrArg (fun s:Str=>s.cps.toList) h
 simpa[SN]using this
def bP (x:Str):x.cps.toList.length=x.length:=by simp[Str.length]
def k9 (x:Str){a b:Nat}(hab:a<=b)(hb:b<=x.length):VD x (some (a:Int)) (some (b:Int))=SN ((x.cps.toList.drop a).take (b-a)):=by
 unfold VD
 rw[StrLaws.sliced_plain x hab hb]
 split
 . rename_i h
   rw[StrLaws.strSliceIndices_plain hab hb]at h
   simp at h
   have h1:a=0:=by lia
   have h2:b=x.length:=by lia
   subst h1 h2
   rw[VS,Wm,← bP,Sf,oo]
 . rfl
def qH (x:Str){i:Nat}(h:i<=x.length):VD x (some (i:Int)) (some ((i:Int)+1))=SN ((x.cps.toList.drop i).take 1):=by
 by_cases hi:i<x.length
 . have:=k9 x (a:=i) (b:=i+1) (by lia) (by lia)
   rw[show i+1-i=1 by lia]at this
   show this
 . have hi:i=x.length:=by lia
   have e:Uc (some (i:Int)) (some ((i:Int)+1)) 1 x.length=Uc (some (i:Int)) (some (i:Int)) 1 x.length:=by
     have h2:¬ ((i:Int)+1<0):=by lia
     have h1:¬ ((i:Int)<0):=by lia
     have e1:min ((i:Int)+1) (x.length:Int)=min (i:Int) (x.length:Int):=by lia
     simp only[Uc,h1,h2,if_false,e1,show((1:Int) > 0)=True from by simp,if_true]
   have:=k9 x (a:=i) (b:=i) (by lia) (by lia)
   unfold VD at this ⊢
   rw[e,this,Vu,List.take_zero,List.drop_eq_nil_of_le (by rw[bP];lia),List.take_nil]
abbrev bK (C dx:Addr)(w:Str)(i:Nat):HO:=.ins C dx [("word",.str w),("place",.int (i:Int))]
structure lE (K:Ro)(C:Addr):Prop where
 c:pq K C
 w:cO K C "word"
 p:cO K C "place"
def mH.rd {K:Ro}{mg:Str->Option Value}{C:Addr}(s:mH K mg "Reader" C ["word","place"]):lE K C:=⟨s.c,s.na.get (by left),s.na.get (by left)⟩
def Kp.rd {r:Addr}{H H':Hp}{C dx:Addr}{w:Str}{i:Nat}(k:Kp r H H')(h:H r=some (bK C dx w i)):TK H H':=fun b xs e=>k b _ e fun z=>by rw[z,h]at e;cases e
def aA (w:Str)(i:Nat):List Nat:=w.cps.toList.drop i
def dO (w:Str)(i:Nat):(aA w i).length=w.length-i:=by unfold aA;rw[Tn,bP]
def bV {w:Str}{i:Nat}{c:Nat}{r:List Nat}(h:aA w i=c::r):aA w (i+1)=r/\i<w.length:=by
 have hl:(aA w i).length=r.length+1:=by rw[h];rfl
 rw[dO]at hl
 unfold aA at h ⊢
 rw[← List.drop_drop,h]
 show⟨U,by lia⟩
def dy {w:Str}{i:Nat}{a r:List Nat}(h:aA w i=a++r)(hi:i<=w.length):aA w (i+a.length)=r/\i+a.length<=w.length:=by
 have hl:(aA w i).length=a.length+r.length:=by rw[h,Rx]
 rw[dO]at hl
 unfold aA at h ⊢
 rw[← List.drop_drop,h,List.drop_left]
 show⟨U,by lia⟩
def i3 (C:Addr):Sp:=fun vs H Q z=>∃(r dx:Addr) (w:Str),vs=[.ref r,.str w]/\H r=some (.ins C dx [])/\Q .bI (upd H r (bK C dx w 0))
def AD:aC ["self","word"] ["self","word"] (ao qz):=eU
def qj (F:Hp->Prop){H:Hp}(H':Hp)(e:H=H')(h:F H'):F H:=by subst e;show h
def wY {C:Addr}{f:Addr}{fd:RZ}(F:cD K "__init__" "Reader.__init__" qz f fd)(R5:lE K C):aY P w K mg base dq 1 f fd ["self","word"] (i3 C):=by
 show F.iU AD fun cdv A outer s H vs Q E hr h=>?_
 obtain⟨r,dx,w,rfl,cW,q⟩:=h
 show ig ⟨_,(Wv (L3.Io (Y 0) (Y 1))
   (Ww (L3.Io (Y 0) Ws))),?_⟩
 show⟨_,U,_,U,r,C,dx,_,U,cW,R5.c,R5.w,(by change 0<1000;decide),?_⟩
 show⟨_,U,r,C,dx,_,U,ae,R5.c,R5.p,(by change 1<1000;decide),?_⟩
 show qj (fun H'=>Q .bI H') (upd H r (bK C dx w 0)) ?_ q
 rw[j4]
 rfl
def pV {C:Addr}(c:mH K mg "Reader" C ["word","place"])(s:qO K C "Reader.__init__" qz):oi P w K mg base "Reader" C ["self","word"] 1 (i3 C):=
 let⟨f,fd,F,m⟩:=s
 ⟨f,fd,wY F c.rd,lH F fun z z z z z z z z=>rfl,m,c.m⟩
def bW (C:Addr):Sp:=fun vs H Q z=>∃(r dx:Addr) (w:Str) (i:Nat),vs=[.ref r]/\H r=some (bK C dx w i)/\i<=w.length/\w.length<=sizeLine/\Q (.str (SN ((aA w i).take 1))) H
def AE:aC ["self"] ["self"] (ao qC):=eU
def xa {C:Addr}{f:Addr}{fd:RZ}(F:cD K "sign" "Reader.sign" qC f fd)(R5:lE K C):aY P w K mg base dq 1 f fd ["self"] (bW C):=by
 show F.iU AE fun cdv A outer s H vs Q E hr h=>?_
 obtain⟨r,dx,w,i,rfl,cW,hi,hw,q⟩:=h
 show ig ⟨_,(Ww (WC (L3.BJ (Xr (Y 0)) (Xr (Y 0)) (Wt WN (Xr (Y 0)) Ws)))),?_⟩
 show⟨_,U,r,C,dx,_,_,U,cW,R5.c,R5.w,U,_,U,r,C,dx,_,_,U,cW,R5.c,R5.p,U,_,U,_,U,r,C,dx,_,_,U,cW,R5.c,R5.p,U,_,_,U,U,_,U,w,U,hw,?_⟩
 rw[qH w hi]
 show q
def tO {C:Addr}(s:cj K C "sign" "Reader.sign" qC)(R5:lE K C):bN P w K mg base C "sign" ["self"] 1 (bW C):=
 let⟨f,fd,F,m⟩:=s
 ⟨f,fd,xa F R5,lG F fun z z z z z z z=>rfl,m⟩
def Di {c:Nat}{r:List Nat}(h:r.head?≠some c):V.str (SN (r.take 1))≠V.str (SN [c]):=fun z=>by
 injection z with z
 have z:=gW z
 cases r with
 | nil=>cases z
 | cons a l=>
   rw[List.take_succ_cons,List.take_zero]at z
   injection z with z _
   show h (by rw[z];rfl)
def fP (C:Addr):Sp:=fun vs H Q z=>∃(r dx:Addr) (w:Str) (i c:Nat),vs=[.ref r,.str (SN [c])]/\H r=some (bK C dx w i)/\i<=w.length/\w.length<=sizeLine/\((∃l,aA w i=c::l/\Q (.bl true) (upd H r (bK C dx w (i+1))))\/((aA w i).head?≠some c/\Q (.bl false) H))
def xX:aC ["self","sign"] ["self","sign"] (ao nQ):=eU
def bc {c:Bool}{A B:Prop}(h:c=false)(b:B):if c=true then A else B:=by rw[h];show b
def uk {C:Addr}{f:Addr}{fd:RZ}(F:cD K "taken" "Reader.taken" nQ f fd)(R5:lE K C)(SI:bN P w K mg base C "sign" ["self"] 1 (bW C)):aY P w K mg base dq 2 f fd ["self","sign"] (fP C):=by
 show F.iU xX fun cdv A outer s H vs Q E hr h=>?_
 obtain⟨r,dx,w,i,c,rfl,cW,hi,hw,cs⟩:=h
 show ig ⟨_,(Wv (WB (Wx Xn (W5 (Y 0) R5.c SI hr) (Y 1)) (Ww (WC Xe)) WE)
   (Wv (XC (Y 0) Ws)
   (Ww (WC Xe)))),?_⟩
 show aq fun Rk kR=>?_
 show⟨_,U,r,dx,_,U,cW,U,r,dx,w,i,U,cW,hi,hw,_,U,U,_,U,?_⟩
 rcases cs with⟨l,hl,q⟩|⟨hn,q⟩
 . rw[hl]
   show bc (by simp) ?_
   show kR _ _ ?_
   show⟨_,U,r,C,dx,_,_,U,cW,R5.c,R5.p,U,_,_,U,U,dx,_,cW,(by change 2<1000;decide),?_⟩
   show q
 . show aG (fun y=>q) (fun z=>au (by simp[Di hn]) z)
def pS {C:Addr}(s:cj K C "taken" "Reader.taken" nQ)(R5:lE K C)(SI:bN P w K mg base C "sign" ["self"] 1 (bW C)):bN P w K mg base C "taken" ["self","sign"] 2 (fP C):=
 let⟨f,fd,F,m⟩:=s
 ⟨f,fd,uk F R5 SI,lH F fun z z z z z z z z=>rfl,m⟩
def lg (C:Addr):Sp:=fun vs H Q z=>∃(r dx:Addr) (w:Str) (i c:Nat) (l:List Nat),vs=[.ref r,.str (SN [c])]/\H r=some (bK C dx w i)/\i<=w.length/\w.length<=sizeLine/\aA w i=c::l/\Q .bI (upd H r (bK C dx w (i+1)))
def Ez:aC ["self","sign"] ["self","sign"] (ao xQ):=eU
def zN {C:Addr}{f:Addr}{fd:RZ}(F:cD K "due" "Reader.due" xQ f fd)(R5:lE K C)(TA:bN P w K mg base C "taken" ["self","sign"] 2 (fP C)):aY P w K mg base dq 3 f fd ["self","sign"] (lg C):=by
 show F.iU Ez fun cdv A outer s H vs Q E hr h=>?_
 obtain⟨r,dx,w,i,c,l,rfl,cW,hi,hw,hl,q⟩:=h
 show ig ⟨_,(Ww (WB (L3.nt (Xx (Xs (Y 0) R5.c TA hr (L (Y 1) M)))) XI WE)),?_⟩
 show⟨_,U,r,dx,_,U,cW,U,_,U,r,dx,w,i,c,U,cW,hi,hw,.inl ⟨l,hl,_,U,?_⟩⟩
 show cb q
def vL {C:Addr}(s:cj K C "due" "Reader.due" xQ)(R5:lE K C)(TA:bN P w K mg base C "taken" ["self","sign"] 2 (fP C)):bN P w K mg base C "due" ["self","sign"] 3 (lg C):=
 let⟨f,fd,F,m⟩:=s
 ⟨f,fd,zN F R5 TA,lH F fun z z z z z z z z=>rfl,m⟩
def ju (C:Addr):Sp:=fun vs H Q z=>∃(r dx:Addr) (w S:Str) (i:Nat) (a l:List Nat),vs=[.ref r,.str S]/\H r=some (bK C dx w i)/\i<=w.length/\w.length<=sizeLine/\aA w i=a++l/\(∀c∈a,c∈S.cps.toList)/\(∀c,l.head?=some c->c∉S.cps.toList)/\Q (.str (SN a)) (upd H r (bK C dx w (i+a.length)))
def nj (S:Str)(c:Nat):Vt S (SN [c])=decide (c∈S.cps.toList):=StrLaws.found_one S c
def fX {l:List Nat}(h:l≠[]):V.str (SN l)≠V.str "":=fun z=>by
 injection z with z
 show h (gW (z.trans (show("":Str)=SN []by right)))
def xW:aC ["self","signs","begun"] ["self","signs"] (ao xS):=eU
def yr {H:Hp}{r:Addr}{o:HO}(h:H r=some o):H=upd H r o:=by
 funext b
 by_cases e:b=r
 . rw[e,ae,h]
 . rw[ah e]
def zP {C:Addr}{f:Addr}{fd:RZ}(F:cD K "stretch" "Reader.stretch" xS f fd)(R5:lE K C)(SI:bN P w K mg base C "sign" ["self"] 1 (bW C)):aY P w K mg base dq 2 f fd ["self","signs"] (ju C):=by
 show F.iU xW fun cdv A outer s H vs Q E hr h=>?_
 obtain⟨r,dx,w,S,i,a,l,rfl,cW,hi,hw,Kq,ha,hl,q⟩:=h
 obtain⟨pX,hle⟩:=dy Kq hi
 show ig ⟨_,(Wv (Wy 2 xW.nd (Xr (Y 0)))
   (Wv (Xo (WV (WX (Wx Xn (W5 (Y 0) R5.c SI hr) Wu) (W6 (Wx L3.wO (W5 (Y 0) R5.c SI hr) (Y 1) U)))) (Ww (XC (Y 0) Ws)))
   (Ww (WC (L3.BJ (Xr (Y 0)) (Y 2) (Xr (Y 0))))))),?_⟩
 show aq fun Rk kR=>?_
 show⟨_,U,r,C,dx,_,_,U,cW,R5.c,R5.p,U,?_⟩
 show ak (kR _ _ ?_)
 show aw [some (.ref r),some (.str S),some (.int (i:Int))] U ?_
 show aq fun Rk kR=>?_
 show⟨fun d σ Hx=>∃k b,σ=[some (.ref r),some (.str S),some (.int (i:Int))]/\Hx=upd H r (bK C dx w (i+k))/\d=b.length/\aA w (i+k)=b++l/\k+b.length=a.length/\∀c∈b,c∈S.cps.toList,⟨a.length,0,a,U,yr cW,U,Kq,Nat.zero_add _,ha⟩,fun d σ Hx z=>?_⟩
 obtain⟨k,b,rfl,rfl,rfl,hb,kb,hbS⟩:=z
 have Jf:i+k<=w.length:=by lia
 have vR:(upd H r (bK C dx w (i+k))) r=some (bK C dx w (i+k)):=ae
 generalize Mr:upd H r (bK C dx w (i+k))=Hk at vR ⊢
 have fin:b=[]->Rk [some (.ref r),some (.str S),some (.int (i:Int))] Hk:=fun OM=>by
   have k0:k=a.length:=by rw[OM]at kb;simpa using kb
   show kR _ _ ?_
   show⟨_,U,r,C,dx,_,_,U,vR,R5.c,R5.w,U,_,U,_,U,_,U,r,C,dx,_,_,U,vR,R5.c,R5.p,U,_,U,w,U,hw,?_⟩
   rw[k9 w (by lia) Jf,show i+k-i=a.length by lia,show(w.cps.toList.drop i)=a++l from Kq,List.take_left,← Mr,k0]
   show q
 show⟨_,U,r,dx,_,U,vR,U,r,dx,w,i+k,U,vR,Jf,hw,U,_,U,?_⟩
 cases b with
 | nil=>
   rw[hb]
   cases l with
   | nil=>show bc (by right) (cb (fin rfl))
   | cons c l'=>
     show aG (fun y=>?_) (fun y=>cb (fin rfl))
     show⟨_,U,r,dx,_,U,vR,U,r,dx,w,i+k,U,vR,Jf,hw,_,U,_,_,U,U,_,U,?_⟩
     rw[hb]
     show bc ?_ (fin rfl)
     rw[show(([]:List Nat)++c::l').take 1=[c]from rfl,nj]
     show gv (hl c rfl)
 | cons c b'=>
   obtain⟨hn,oM⟩:=bV hb
   show aG (fun y=>?_) (fun z=>au ?_ z)
   . show⟨_,U,r,dx,_,U,vR,U,r,dx,w,i+k,U,vR,Jf,hw,_,U,_,_,U,U,_,U,?_⟩
     rw[hb]
     show aG (fun y=>?_) (fun z=>au ?_ z)
     . show⟨fun σ' H'=>∃k b,σ'=[some (.ref r),some (.str S),some (.int (i:Int))]/\H'=upd H r (bK C dx w (i+k))/\b'.length=b.length/\aA w (i+k)=b++l/\k+b.length=a.length/\∀c∈b,c∈S.cps.toList,fun σ' H' z=>⟨b'.length,Tq _,z⟩,?_⟩
       show⟨_,U,r,C,dx,_,_,U,vR,R5.c,R5.p,U,_,_,U,U,dx,_,vR,(by change 2<1000;decide),?_⟩
       show⟨k+1,b',U,?_,U,by rw[← Nat.add_assoc];show hn,by have:k+(b'.length+1)=a.length:=kb;lia,fun c hc=>hbS c (RC _ hc)⟩
       rw[← Mr,j4,← Nat.add_assoc]
       rfl
     . rw[show((c::b')++l).take 1=[c]from rfl,nj]
       show hW (hbS c Ru)
   . rw[hb]
     rw[gv (fX (show((c::b')++l).take 1≠[]from fun z=>nomatch z))]
     rfl
def vN {C:Addr}(s:cj K C "stretch" "Reader.stretch" xS)(R5:lE K C)(SI:bN P w K mg base C "sign" ["self"] 1 (bW C)):bN P w K mg base C "stretch" ["self","signs"] 2 (ju C):=
 let⟨f,fd,F,m⟩:=s
 ⟨f,fd,zP F R5 SI,lH F fun z z z z z z z z=>rfl,m⟩
abbrev xP:Stmt:=top 37
abbrev m5:Str:="0123456789"
abbrev kJ:Str:="abcdefghijklmnopqrstuvwxyz"
def iQ {c:Nat}:c∈m5.cps.toList↔48<=c/\c<=57:=by
 rw[show m5.cps.toList=List.range' 48 10 by right,List.mem_range'_1]
 lia
def mn {c:Nat}:c∈kJ.cps.toList↔97<=c/\c<123:=by
 rw[show kJ.cps.toList=List.range' 97 26 by right,List.mem_range'_1]
def dU (n:Int):List Nat:=(Rt (toString n)).cps.toList
def iS (m:Nat):dU (m:Int)=(U1 10 m).map Char.toNat:=PySem.W.KIN.signs_num m
def eO {n:Int}(h:0<=n):PySem.NumText.AllDigits (dU n):=by
 obtain⟨m,rfl⟩:=Ti h
 intro c hc
 rw[iS]at hc
 obtain⟨ch,hch,e⟩:=fc hc
 rw[← e]
 show PyProof.Rows.digit_range (Nat.isDigit_of_mem_toDigits (by left) (by left) hch)
def fR (m:Nat):U1 10 m≠[]:=fun e=>by
 by_cases h:m<10
 . rw[UD h]at e;cases e
 . have t:=Vy (b:=10) (n:=m/10) (d:=m%10) (by left) (by lia) (Nat.mod_lt m (by left))
   rw[Nat.div_add_mod,e,UD (Nat.mod_lt m (by left))]at t
   simp at t
def jP {n:Int}(h:0<=n):dU n≠[]:=by
 obtain⟨m,rfl⟩:=Ti h
 rw[iS]
 show fun e=>fR m (List.map_eq_nil_iff.mp e)
def wM {n:Int}(h:0<=n/\n<10^30):(dU n).length<=30:=by
 obtain⟨m,rfl⟩:=Ti h.1
 have hm:m<10^30:=by
   have:=h.2
   have e:((10:Int)^30)=((10^30:Nat):Int):=by right
   lia
 rw[dU,bP,T9]
 show(Nat.length_repr_le_iff (n:=m) (by left)).mpr hm
def pW:∀m:Nat,0<m->∀c l,U1 10 m=c::l->c≠'0':=by
 intro m
 induction m using Nat.strongRecOn with
 | _ m ih=>
   intro hm c l e
   by_cases h:m<10
   . rw[UD h]at e
     injection e with e _
     rw[← e]
     have all:∀k:Fin 10,k.1≠0->Nat.digitChar k.1≠'0':=by left
     show all ⟨m,h⟩ (by change m≠0;lia)
   . have t:=Vy (b:=10) (n:=m/10) (d:=m%10) (by left) (by lia) (Nat.mod_lt m (by left))
     rw[Nat.div_add_mod,e]at t
     cases q:U1 10 (m/10)with
     | nil=>show au q (fR _)
     | cons d l'=>
       rw[q]at t
       injection t with t _
       rw[← t]
       show ih (m/10) (by lia) (by lia) d l' q
def uf {n:Int}(h:0<=n){l:List Nat}(e:dU n=48::l):l=[]:=by
 obtain⟨m,rfl⟩:=Ti h
 by_cases hm:m=0
 . rw[hm]at e
   rw[show dU ((0:Nat):Int)=[48]by right]at e
   injection e with _ e
   show e.symm
 . rw[iS]at e
   cases q:U1 10 m with
   | nil=>show au q (fR _)
   | cons c l'=>
     rw[q,R3]at e
     injection e with e _
     have:=pW m (by lia) c l' q
     show au (Char.toNat_inj.mp (e.trans (show(48:Nat)='0'.toNat from rfl))) this
def wL {n:Int}(h:0<=n)(hl:(dU n).length<=30):VE (SN (dU n))=some n:=by
 obtain⟨m,rfl⟩:=Ti h
 have:=PySem.intText_digits (x:=SN (dU (m:Int))) (by rw[eV];show eO h) (by rw[eV];show jP h) (by rw[pI];lia)
 rw[this,eV,iS,PySem.W.KIN.val_back]
def lh (C:Addr):Sp:=fun vs H Q z=>∃(r dx:Addr) (w:Str) (i:Nat) (n:Int) (l:List Nat),vs=[.ref r]/\H r=some (bK C dx w i)/\i<=w.length/\w.length<=sizeLine/\(0<=n/\n<10^30)/\aA w i=dU n++l/\(∀c,l.head?=some c->c∉m5.cps.toList)/\Q (.int n) (upd H r (bK C dx w (i+(dU n).length)))
def xV:aC ["self","figures"] ["self"] (ao xR):=eU
def zO {C:Addr}{f:Addr}{fd:RZ}(F:cD K "number" "Reader.number" xR f fd)(R5:lE K C)(m_len:mg "len"=none)(m_int:mg "int"=none)(cF:pJ mg "FIGURES" m5)(cM:mI mg "MOST_FIGURES" 30)(ST:bN P w K mg base C "stretch" ["self","signs"] 2 (ju C)):aY P w K mg base dq 3 f fd ["self"] (lh C):=by
 show F.iU xV fun cdv A outer s H vs Q E hr h=>?_
 obtain⟨r,dx,w,i,n,l,rfl,cW,hi,hw,hn,hl,hh,q⟩:=h
 have hlen:=wM hn
 have rj:=jP hn.1
 show ig ⟨_,(Wv (Wy 1 xV.nd (Xs (Y 0) R5.c ST hr (L (WU (w:=.str m5) U cF.choose_spec ⟨_,U⟩) M)))
   (Wv (WB (WV (Xq (Wx WL (Y 1) Wu) (Xq (Wx Xi (WJ L3.mL U m_len RG (L (Y 1) M)) (WU (w:=.int 30) U cM.choose_spec ⟨_,rfl⟩)) (XA (WV (WX (Wx WL (Wz L3.MH (Y 1) Ws) Wu) (W6 (Wx Xn (Y 1) Wu)))))))) XI WE)
   (Ww (WC (W4 L3.Cm U m_int (by right) (L (Y 1) M)))))),?_⟩
 show aq fun Rk kR=>?_
 show⟨_,U,r,dx,_,U,cW,U,r,dx,w,m5,i,dU n,l,U,cW,hi,hw,hl,(fun c hc=>iQ.mpr (eO hn.1 c hc)),hh,?_⟩
 show ak (kR _ _ ?_)
 show aw [some (.ref r),some (.str (SN (dU n)))] U ?_
 show aq fun Rk kR=>?_
 show⟨_,U,U,_,U,?_⟩
 show bc (gv (fX rj)) ?_
 have sl:(SN (dU n)).length<=30:=by rw[pI];show hlen
 show⟨_,U,_,U,Ry sl (by left),_,_,U,U,_,U,?_⟩
 show bc (gv (by rw[pI];lia)) ?_
 cases e:dU n with
 | nil=>show au e rj
 | cons c l'=>
   rw[e]at q sl
   show⟨_,U,SN (c::l'),0,c,U,U,Ry sl (by left),by rw[eV];show f6 (xs:=c::l') (j:=0) rfl,U,_,U,?_⟩
   suffices go:Rk [some (.ref r),some (.str (SN (c::l')))] (upd H r (bK C dx w (i+(c::l').length)))by
     show aG (fun z=>?_) (fun y=>cb go)
     have z:=jg z
     have hc:c=48:=by
       injection z with z
       have z:SN [c]=SN [48]:=z.trans (show("0":Str)=SN [48]by right)
       have:=gW z
       injection this
     rw[hc]at e go ⊢
     have:=uf hn.1 e
     rw[this]at e go ⊢
     show⟨_,U,U,_,U,?_⟩
     show bc ?_ go
     rw[show SN [48]=("0":Str)by right,hW rfl]
     rfl
   show kR _ _ ?_
   show⟨_,U,_,n,U,?_,Ry sl (by left),q⟩
   rw[← e]
   show wL hn.1 hlen
def vM {C:Addr}(s:cj K C "number" "Reader.number" xR)(R5:lE K C)(m_len:mg "len"=none)(m_int:mg "int"=none)(cF:pJ mg "FIGURES" m5)(cM:mI mg "MOST_FIGURES" 30)(ST:bN P w K mg base C "stretch" ["self","signs"] 2 (ju C)):bN P w K mg base C "number" ["self"] 3 (lh C):=
 let⟨f,fd,F,m⟩:=s
 ⟨f,fd,zO F R5 m_len m_int cF cM ST,lG F fun z z z z z z z=>rfl,m⟩
def i4 (C:Addr):Sp:=fun vs H Q z=>∃(r dx:Addr) (w:Str) (i:Nat) (x:Str) (l:List Nat),vs=[.ref r]/\H r=some (bK C dx w i)/\i<=w.length/\w.length<=sizeLine/\df x/\aA w i=x.cps.toList++l/\(∀c,l.head?=some c->c∉kJ.cps.toList)/\Q (.str x) (upd H r (bK C dx w (i+x.length)))
def rX:aC ["self","letters"] ["self"] (ao qA):=eU
def wZ {C:Addr}{f:Addr}{fd:RZ}(F:cD K "name" "Reader.name" qA f fd)(R5:lE K C)(m_len:mg "len"=none)(cL:pJ mg "LETTERS" kJ)(cM:mI mg "MOST_LETTERS" 8)(ST:bN P w K mg base C "stretch" ["self","signs"] 2 (ju C)):aY P w K mg base dq 3 f fd ["self"] (i4 C):=by
 show F.iU rX fun cdv A outer s H vs Q E hr h=>?_
 obtain⟨r,dx,w,i,x,l,rfl,cW,hi,hw,hx,hl,hh,q⟩:=h
 have x1:=hx.l1
 have x8:=hx.l8
 have rj:x.cps.toList≠[]:=fun z=>by
   have:=bP x
   rw[z]at this
   simp at this
   lia
 show ig ⟨_,(Wv (Wy 1 rX.nd (Xs (Y 0) R5.c ST hr (L (WU (w:=.str kJ) U cL.choose_spec ⟨_,U⟩) M)))
   (Wv (WB (WV (Xq (Wx WL (Y 1) Wu) (XA (Wx Xi (WJ L3.mL U m_len RG (L (Y 1) M)) (WU (w:=.int 8) U cM.choose_spec ⟨_,rfl⟩))))) XI WE)
   (Ww (WC (Y 1))))),?_⟩
 show aq fun Rk kR=>?_
 show⟨_,U,r,dx,_,U,cW,U,r,dx,w,kJ,i,x.cps.toList,l,U,cW,hi,hw,hl,(fun c hc=>mn.mpr (hx.lt c hc)),hh,?_⟩
 rw[bP]
 show ak (kR _ _ ?_)
 show aw [some (.ref r),some (.str x)] (by rw[oo];rfl) ?_
 show aq fun Rk kR=>?_
 show⟨_,U,U,_,U,?_⟩
 show bc (gv (by have:=fX rj;rw[oo]at this;show this)) ?_
 show⟨_,U,_,U,Ry x8 (by left),_,_,U,U,_,U,?_⟩
 show bc (gv (by lia)) ?_
 show kR _ _ ⟨_,U,q⟩
def tM {C:Addr}(s:cj K C "name" "Reader.name" qA)(R5:lE K C)(m_len:mg "len"=none)(cL:pJ mg "LETTERS" kJ)(cM:mI mg "MOST_LETTERS" 8)(ST:bN P w K mg base C "stretch" ["self","signs"] 2 (ju C)):bN P w K mg base C "name" ["self"] 3 (i4 C):=
 let⟨f,fd,F,m⟩:=s
 ⟨f,fd,wZ F R5 m_len cL cM ST,lG F fun z z z z z z z=>rfl,m⟩
abbrev BD:Stmt:=top 38
def bN.mono {C:Addr}{m:Str}{ps:List Str}{j k:Nat}{sp:Sp}(h:bN P w K mg base C m ps j sp)(hk:j<=k):bN P w K mg base C m ps k sp:=by obtain⟨f,fd,a,b,c⟩:=h;show⟨f,fd,a.mono hk,b,c⟩
def E.cps (e:E):List Nat:=e.txt.cps.toList
def Stop (l:List Nat):Prop:=∀c,l.head?=some c->¬ (48<=c/\c<=57)/\¬ (97<=c/\c<123)
inductive E.Atom:E->Prop
 | num {n:Int}:E.Atom (.num n)
 | box {t x:Str}:E.Atom (.box t x)
def r9 (C:Addr):Sp:=fun vs H Q z=>∃(r dx:Addr) (w:Str) (i:Nat) (e:E) (l:List Nat),vs=[.ref r]/\H r=some (bK C dx w i)/\i<=w.length/\w.length<=sizeLine/\e.Atom/\e.okN df/\aA w i=e.cps++l/\Stop l/\∀(v:V) (H':Hp),Kp r H H'->H' r=some (bK C dx w (i+e.cps.length))->cJ H' v e->Q v H'
def AB:aC ["reader"] ["reader"] (ao xP):=eU
def wX {C:Addr}{f:Addr}{fd:RZ}(F:cD K "read_atom" "read_atom" xP f fd)(R5:lE K C)(cF:pJ mg "FIGURES" m5)(SI0:bN P w K mg base C "sign" ["self"] 1 (bW C))(NU0:bN P w K mg base C "number" ["self"] 3 (lh C))(NA0:bN P w K mg base C "name" ["self"] 3 (i4 C)):aY P w K mg base dq 4 f fd ["reader"] (r9 C):=by
 show F.iU AB fun cdv A outer s H vs Q E hr h=>?_
 have SI:=SI0.mono (show 1<=3 by left)
 have NU:=NU0
 have NA:=NA0
 obtain⟨r,dx,w,i,e,l,rfl,cW,hi,hw,iG,ok,hl,st,q⟩:=h
 show ig ⟨_,(Wv (WB (WV (WX (Wx Xn (W5 (Y 0) R5.c SI hr) Wu) (W6 (Wx L3.wO (W5 (Y 0) R5.c SI hr) (WU (w:=.str m5) U cF.choose_spec ⟨_,U⟩) U)))) (Ww (WC (WH (L Wu (L (W5 (Y 0) R5.c NU hr) M))))) WE)
   (Ww (WC (WH (L Wu (L (W5 (Y 0) R5.c NA hr) M)))))),?_⟩
 show aq fun Rk kR=>?_
 show⟨_,U,r,dx,_,U,cW,U,r,dx,w,i,U,cW,hi,hw,U,_,U,?_⟩
 cases iG with
 | @num n=>
   have hn:0<=n/\n<10^30:=ok
   have hl:aA w i=dU n++l:=hl
   cases e:dU n with
   | nil=>show au e (jP hn.1)
   | cons c l'=>
     have hc:=eO hn.1 c (by rw[e];show Ru)
     have h1:(aA w i).take 1=[c]:=by rw[hl,e];rfl
     rw[h1]
     show aG (fun y=>?_) (fun z=>au (by rw[gv (fX (l:=[c]) (fun z=>nomatch z))];rfl) z)
     show⟨_,U,r,dx,_,U,cW,U,r,dx,w,i,U,cW,hi,hw,_,_,U,U,_,U,?_⟩
     rw[h1,nj,hW (iQ.mpr hc)]
     show b6 ?_
     show⟨_,U,r,dx,_,U,cW,U,r,dx,w,i,n,l,U,cW,hi,hw,hn,hl,(fun c hc=>fun z=>(st c hc).1 (iQ.mp z)),YK,fun p hp=>?_⟩
     have pr:p≠r:=fun z=>by rw[z,ae]at hp;cases hp
     show q (.ref p) _ ((Kp.refl H).self.new hp) (by rw[ah pr.symm,ae];rfl) ⟨p,U,ae⟩
 | @box tg x=>
   obtain⟨rfl,hx⟩ : tg="box"/\df x:=ok
   have hl:aA w i=x.cps.toList++l:=hl
   suffices go:Rk [some (.ref r)] H by
     cases e:x.cps.toList with
     | nil=>show au (bP x) (by rw[e];have:=hx.l1;simp;lia)
     | cons c l'=>
       have hc:=hx.lt c (by rw[e];show Ru)
       have h1:(aA w i).take 1=[c]:=by rw[hl,e];rfl
       rw[h1]
       show aG (fun y=>?_) (fun z=>cb go)
       show⟨_,U,r,dx,_,U,cW,U,r,dx,w,i,U,cW,hi,hw,_,_,U,U,_,U,?_⟩
       rw[h1,nj,gv (fun z=>by have:=iQ.mp z;lia)]
       show cb go
   show kR _ _ ?_
   show⟨_,U,r,dx,_,U,cW,U,r,dx,w,i,x,l,U,cW,hi,hw,hx,hl,(fun c hc=>fun z=>(st c hc).2 (mn.mp z)),YK,fun p hp=>?_⟩
   have pr:p≠r:=fun z=>by rw[z,ae]at hp;cases hp
   show q (.ref p) _ ((Kp.refl H).self.new hp) (by rw[ah pr.symm,ae,show(TW.E.box "box" x).cps.length=x.length from bP x]) ⟨p,U,ae⟩
def K2.sg:K2->Nat
 | .plus=>43|.less=>45|.same=>61|.under=>60|.both=>38
def K2.rY (k:K2):k.sign=SN [k.sg]:=by cases k<;>decide +kernel
def bM (a b:Str):(a++b).cps.toList=a.cps.toList++b.cps.toList:=by
 change(a.cps++b.cps).toList=_
 simp
structure iF (e:E):Prop where
 is:e.vX
 ok:e.okN df
def iF.cases {e:E}(h:iF e):e.Atom\/∃k a b,(k=.plus\/k=.less)/\e=.two k a b/\iF a/\iF b:=by
 obtain⟨is,ok⟩:=h
 match e,is,ok with
 | .num _,_,_=>show .inl .num
 | .box _ _,_,_=>show .inl .box
 | .two .plus a b,is,ok=>show .inr ⟨_,a,b,.inl rfl,rfl,⟨is.1,ok.1⟩,⟨is.2,ok.2⟩⟩
 | .two .less a b,is,ok=>show .inr ⟨_,a,b,.inr rfl,rfl,⟨is.1,ok.1⟩,⟨is.2,ok.2⟩⟩
def GR:("(":Str).cps.toList=[40]:=by right
def Ia:(")":Str).cps.toList=[41]:=by right
def jJ {k:K2}{a b:E}(h:k=.plus\/k=.less):(E.two k a b).cps=40::(a.cps++(k.sg::(b.cps++[41]))):=by
 have e:(E.two k a b).txt="("++(a.txt++k.sign++b.txt)++")":=by rcases h with rfl|rfl<;>rfl
 unfold E.cps
 rw[e,bM,bM,bM,bM,GR,Ia,k.rY,eV]
 simp
def eJ {e:E}(h:e.Atom)(ok:e.okN df)(l:List Nat):∃c r,e.cps++l=c::r/\((48<=c/\c<=57)\/(97<=c/\c<123)):=by
 cases h with
 | @num n=>
   have hn:0<=n/\n<10^30:=ok
   cases e:dU n with
   | nil=>show au e (jP hn.1)
   | cons c r=>show⟨c,r++l,by change dU n++l=_;rw[e];rfl,.inl (eO hn.1 c (by rw[e];show Ru))⟩
 | @box t x=>
   have hx:df x:=ok.2
   cases e:x.cps.toList with
   | nil=>show au (bP x) (by rw[e];have:=hx.l1;simp;lia)
   | cons c r=>show⟨c,r++l,by change x.cps.toList++l=_;rw[e];rfl,.inr (hx.lt c (by rw[e];show Ru))⟩
inductive Fr where
 | L8 (k:K2) (b:E)|R (k:K2) (a:E)
def D4:List Fr->E->E
 | [],e=>e
 | .L8 k b::fs,e=>D4 fs (.two k e b)
 | .R k a::fs,e=>D4 fs (.two k a e)
def pend:List Fr->List Nat
 | []=>[]
 | .L8 k b::fs=>k.sg::(b.cps++(41::pend fs))
 | .R _ _::fs=>41::pend fs
theorem kQ:∀fs:List Fr,fs.length<=(pend fs).length
 | []=>Rz _
 | .L8 k b::fs=>by
   have:=kQ fs
   change fs.length+1<=(k.sg::(b.cps++(41::pend fs))).length
   simp only[RE,Rx]
   lia
 | .R _ _::fs=>Nat.succ_le_succ (kQ fs)
def j7 (H:Hp):Fr->V->Prop
 | .L8 _ _,v=>v=.bI
 | .R k a,v=>∃u,Tp H v [.str k.str,u]/\cJ H u a
theorem j7.keep {H H':Hp}(k:TK H H'):∀{f:Fr} {v:V},j7 H f v->j7 H' f v
 | .L8 _ _,_,h=>h
 | .R _ _,_,⟨u,a,b⟩=>⟨u,a.keep k,b.keep k⟩
def LL:Fr->Prop
 | .L8 k b=>(k=.plus\/k=.less)/\iF b
 | .R k a=>(k=.plus\/k=.less)/\iF a
def uM {l:List Nat}(hl:Stop l):∀{fs:List Fr},(∀f∈fs,LL f)->Stop (pend fs++l)
 | [],_=>hl
 | .L8 k b::fs,h=>fun c hc=>by
   have e:c=k.sg:=by
     have:some k.sg=some c:=hc
     injection this with this
     show this.symm
   have hk:=(h _ Ru).1
   rw[e]
   rcases hk with rfl|rfl<;>show⟨by left,by left⟩
 | .R _ _::fs,h=>fun c hc=>by
   have e:c=41:=by
     have:some 41=some c:=hc
     injection this with this
     show this.symm
   rw[e]
   show⟨by left,by left⟩
def oP {α:Type}(xs:List α)(v:α):uX (xs++[v]).length (-1)=some xs.length:=by
 rw[Rx,Sj]
 unfold uX
 rw[dh (by left),dI (by lia)]
 congr 1
 lia
def pf {α:Type}(xs:List α)(v y:α):(xs++[v]).set xs.length y=xs++[y]:=by
 rw[List.set_append_right _ _ (Rz _),Vu]
 rfl
def kC {α:Type}(xs:List α)(v:α):(xs++[v])[(xs++[v]).length-1]?=some v:=by
 rw[Rx,Sj,Nat.add_sub_cancel,Uk (Rz _),Vu]
 rfl
theorem Paired.imp {α β:Type}{F G:α->β->Prop}(k:∀x y,F x y->G x y):∀{a:List α} {b:List β},Paired F a b->Paired G a b
 | _,_,.nil=>.nil
 | _,_,.cons r t=>.cons (k _ _ r) (Paired.imp k t)
def bC {H:Hp}{B:Addr}{o o2:HO}(h:H B=some o)(n:∀xs,o≠.tup xs):TK H (upd H B o2):=fun b xs e=>by
 rw[ah (fun z=>by rw[z,h]at e;show n xs (Sa e))]
 show e
def C2:("(":Str)=SN [40]:=by right
def En:(")":Str)=SN [41]:=by right
abbrev Jp:List (Str×V):=[("+",.str "plus"),("-",.str "less")]
def se {k:K2}(h:k=.plus\/k=.less):Jp.lookup (SN [k.sg])=some (.str k.str):=by
 rcases h with rfl|rfl<;>decide +kernel
def lq (C:Addr):Sp:=fun vs H Q z=>∃(r dx:Addr) (w:Str) (i:Nat) (e:E) (l:List Nat),vs=[.ref r]/\H r=some (bK C dx w i)/\i<=w.length/\w.length<=4000/\iF e/\aA w i=e.cps++l/\Stop l/\∀(v:V) (H':Hp),Kp r H H'->H' r=some (bK C dx w (i+e.cps.length))->cJ H' v e->Q v H'
structure j9 (C r dx B:Addr)(w:Str)(H:Hp)(e0:E)(l:List Nat)(Hx:Hp)(j:Nat)(e:E)(fs:List Fr)(us:List V):Prop where
 rd:Hx r=some (bK C dx w j)
 jl:j<=w.length
 bg:Hx B=some (.lst us.reverse)
 pr:Paired (j7 Hx) fs us
 fg:∀f∈fs,LL f
 eg:iF e
 pl:D4 fs e=e0
 kp:Kp r H Hx
def nV:aC ["reader","begun","told"] ["reader"] (ao BD):=eU
def zQ {C Cb:Addr}{f:Addr}{fd:RZ}(F:cD K "read_sum" "read_sum" BD f fd)(R5:lE K C)(m_len:mg "len"=none)(hSS:mg "SIGN_SUMS"=some (.ref Cb))(dSS:eG w K Cb Jp)(SI0:bN P w K mg base C "sign" ["self"] 1 (bW C))(TA0:bN P w K mg base C "taken" ["self","sign"] 2 (fP C))(DU0:bN P w K mg base C "due" ["self","sign"] 3 (lg C))(RA0:b7 P w K mg base "read_atom" ["reader"] 4 (r9 C)):aY P w K mg base dq 6 f fd ["reader"] (lq C):=by
 show F.iU nV fun cdv A outer s H vs Q E hr h=>?_
 have SI:=SI0.mono (show 1<=5 by left)
 have TA:=TA0.mono (show 2<=5 by left)
 have DU:=DU0.mono (show 3<=5 by left)
 have RA:=RA0.mono (show 4<=5 by left)
 obtain⟨r,dx,w,i,e0,l,rfl,cW,hi,vT,g0,hl,st,q⟩:=h
 have hw:w.length<=sizeLine:=Ry vT (by left)
 show ig ⟨_,(Wv (Wy 1 nV.nd (WD M))
   (Ww (Xo (Xx Xe) (Wv (Xo (Xx (Xs (Y 0) R5.c TA hr (L Wu M))) (Ww (W0 (Xt (Y 1) (L XD M)))))
   (Wv (Wy 2 nV.nd (WA RA hr U (L (Y 0) M)))
   (Wv (Xo (WV (WX (Wx Xi (WJ WO U m_len RG (L (Y 1) M)) Ws) (W6 (Wx L3.wQ (Wz WK (Y 1) (XB Ws)) XD)))) (Wv (W0 (Xs (Y 0) R5.c DU hr (L Wu M)))
   (Ww (Wy 2 nV.nd (Wt L3.ql (L3.Ht (Y 1)) (WH (L (Y 2) M)))))))
   (Wv (WB (Wx WL (WJ WO U m_len RG (L (Y 1) M)) Ws) (Ww (WC (Y 2))) WE)
   (Wv (WB (Wx L3.C9 (W5 (Y 0) R5.c SI hr) (WU (w:=.ref Cb) U hSS rfl) U) XI WE)
   (Wv (Xj (WH (L (L3.kg (WU (w:=.ref Cb) U hSS rfl) (W5 (Y 0) R5.c SI hr)) (L (Y 2) M))) (L3.A4 (Y 1) (XB Ws)))
   (Ww (XC (Y 0) Ws))))))))))),?_⟩
 show aq fun Rk kR=>?_
 show⟨YI,fun B hB=>?_⟩
 have Br:B≠r:=fun z=>by rw[z,cW]at hB;cases hB
 show ak (kR _ _ ?_)
 show⟨fun(d:Nat) (σ:L2.St) (Hx:Hp)=>∃(o2:Option V) (j:Nat) (e:TW.E) (fs:List Fr) (us:List V),σ=[some (.ref r),some (.ref B),o2]/\d=w.length-j/\j9 C r dx B w H e0 l Hx j e fs us/\aA w j=e.cps++(pend fs++l),⟨w.length-i,none,i,e0,[],[],U,U,⟨by rw[ah Br.symm];show cW,hi,ae,.nil,(fun f hf=>nomatch hf),g0,U,(Kp.refl H).new hB⟩,hl⟩,fun d σ Hx z=>?_⟩
 obtain⟨o2,j,e,fs,us,rfl,rfl,S,aN⟩:=z
 show⟨_,U,b6 ⟨fun σ' H'=>∃d',d'<w.length-j/\(fun(d:Nat) (σ:L2.St) (Hx:Hp)=>∃(o2:Option V) (j:Nat) (e:TW.E) (fs:List Fr) (us:List V),σ=[some (.ref r),some (.ref B),o2]/\d=w.length-j/\j9 C r dx B w H e0 l Hx j e fs us/\aA w j=e.cps++(pend fs++l)) d' σ' H',fun σ' H' z=>z,?_⟩⟩
 show aq fun Rk kR=>?_
 show⟨fun(d:Nat) (σ:L2.St) (Hx:Hp)=>∃(o2:Option V) (j':Nat) (e:TW.E) (fs:List Fr) (us:List V),σ=[some (.ref r),some (.ref B),o2]/\d=w.length-j'/\j<=j'/\j9 C r dx B w H e0 l Hx j' e fs us/\aA w j'=e.cps++(pend fs++l),⟨w.length-j,o2,j,e,fs,us,U,U,Rz _,S,aN⟩,fun d σ Hy z=>?_⟩
 obtain⟨o2,j',e,fs,us,rfl,rfl,jj,S,aN⟩:=z
 have ul:=Paired.length S.pr
 have Of:fs.length<=w.length:=by
   have h1:=kQ fs
   have h2:=dO w j'
   rw[aN,Rx,Rx]at h2
   lia
 show⟨_,U,r,dx,_,U,S.rd,U,r,dx,w,j',40,congrArg (fun z=>[V.ref r,V.str z]) C2,S.rd,S.jl,hw,?_⟩
 rcases S.eg.cases with iG|⟨k,a,b,hk,rfl,ga,gb⟩
 . obtain⟨c,r',hc,hd⟩:=eJ iG S.eg.ok (pend fs++l)
   show .inr ⟨fun z=>?_,_,U,cb ?_⟩
   . rw[aN,hc]at z
     have:some c=some 40:=z
     injection this with this
     lia
   show kR _ _ (aq fun Rk kR=>?_)
   show⟨_,U,r,dx,w,j',e,pend fs++l,U,S.rd,S.jl,hw,iG,S.eg.ok,aN,uM st S.fg,fun v Ha ka ra ev=>?_⟩
   have JM:0<e.cps.length:=by
     obtain⟨c1,r1,h1,h2⟩:=eJ iG S.eg.ok []
     rw[RY]at h1
     rw[h1]
     show S8 _
   obtain⟨oN,lL⟩:=dy aN S.jl
   show ak (kR _ _ ?_)
   show aw [some (.ref r),some (.ref B),some v] U ?_
   have SA:j9 C r dx B w H e0 l Ha (j'+e.cps.length) e fs us:=⟨ra,lL,ka _ _ S.bg Br,Paired.imp (fun f u z=>j7.keep (Kp.rd ka S.rd) z) S.pr,S.fg,S.eg,S.pl,S.kp.trans ka⟩
   obtain⟨j0,N7⟩ : ∃j0,j0=j:=⟨_,rfl⟩
   show aq fun Rk kR=>?_
   show⟨fun(d:Nat) (σ:L2.St) (Hx:Hp)=>∃(v:V) (j:Nat) (e:TW.E) (fs:List Fr) (us:List V),σ=[some (.ref r),some (.ref B),some v]/\d=fs.length/\j9 C r dx B w H e0 l Hx j e fs us/\aA w j=pend fs++l/\cJ Hx v e/\j0<j,⟨fs.length,v,_,e,fs,us,U,U,SA,oN,ev,by lia⟩,fun d σ Hz z=>?_⟩
   obtain⟨v,j2,e,fs,us,rfl,rfl,S,aN,ev,MI⟩:=z
   have ul:=Paired.length S.pr
   have lO:us.reverse.length=fs.length:=by rw[TV,← ul]
   show⟨_,U,B,_,U,.inl (aH.of S.bg),_,_,U,U,_,U,?_⟩
   match fs,us,S,aN,ul,lO with
   | [],[],S,aN,ul,lO=>
     show bc (by left) (cb ?_)
     show kR _ _ (aq fun Rk kR=>?_)
     show⟨_,U,B,_,U,.inl (aH.of S.bg),U,_,U,?_⟩
     show b6 ?_
     have e1:e=e0:=S.pl
     have hj:j2=i+e0.cps.length:=by
       have h1:=dO w j2
       have h2:=dO w i
       rw[aN]at h1
       rw[hl,Rx]at h2
       have h1:l.length=w.length-j2:=h1
       have:=S.jl
       lia
     show⟨_,U,q v Hz S.kp (by rw[← hj];show S.rd) (by rw[← e1];show ev)⟩
   | .R k a::fs,u::us,S,aN,ul,lO=>
     obtain⟨va,⟨pa,rfl,CJ⟩,ea⟩ : j7 Hz (.R k a) u:=by cases S.pr with|cons h _=>show h
     have Ak:Paired (j7 Hz) fs us:=by cases S.pr with|cons _ h=>show h
     have tJ:(k=.plus\/k=.less)/\iF a:=S.fg _ Ru
     have bg:=S.bg
     rw[Sk]at bg
     rw[Sk]
     show aG (fun y=>?_) (fun z=>au (hW (by rw[Rx,Sj];lia)) z)
     show⟨_,U,_,U,?_⟩
     show cH bg (dB _ _) ?_
     show⟨U,_,U,?_⟩
     show aG (fun y=>?_) (fun z=>au U z)
     show⟨fun σ' H'=>∃d',d'<fs.length+1/\(fun(d:Nat) (σ:L2.St) (Hx:Hp)=>∃(v:V) (j:Nat) (e:TW.E) (fs:List Fr) (us:List V),σ=[some (.ref r),some (.ref B),some v]/\d=fs.length/\j9 C r dx B w H e0 l Hx j e fs us/\aA w j=pend fs++l/\cJ Hx v e/\j0<j) d' σ' H',fun σ' H' z=>z,?_⟩
     show aq fun uU kR2=>?_
     have aN:aA w j2=41::(pend fs++l):=aN
     obtain⟨p7,pZ⟩:=bV aN
     show⟨_,U,r,dx,_,U,S.rd,U,r,dx,w,j2,41,_,congrArg (fun z=>[V.ref r,V.str z]) En,S.rd,S.jl,hw,aN,?_⟩
     have sF:TK Hz (upd Hz r (bK C dx w (j2+1))):=bC S.rd (fun y z=>nomatch z)
     have jf:(upd Hz r (bK C dx w (j2+1))) B=some (.lst (us.reverse++[.ref pa])):=by rw[ah Br];show bg
     have pC:(upd Hz r (bK C dx w (j2+1))) r=some (bK C dx w (j2+1)):=ae
     have kp1:Kp r H (upd Hz r (bK C dx w (j2+1))):=S.kp.self
     generalize upd Hz r (bK C dx w (j2+1))=H3 at sF jf pC kp1 ⊢
     show kR2 _ _ ?_
     show⟨_,U,.inl ⟨U,_,aH.of jf⟩,B,_,_,U,U,jf,kC _ _,_,U,YJ,fun q1 lF=>?_⟩
     rw[U2]at lF ⊢
     have yB:TK H3 (upd H3 B (.lst us.reverse)):=bC jf (fun y z=>nomatch z)
     have Bv:(upd H3 B (.lst us.reverse)) r=some (bK C dx w (j2+1)):=by rw[ah Br.symm];show pC
     have AY:(upd H3 B (.lst us.reverse)) B=some (.lst us.reverse):=ae
     have rF:Kp r H (upd H3 B (.lst us.reverse)):=fun b o hb nb=>by rw[ah (ag hb hB)];show kp1 b o hb nb
     generalize upd H3 B (.lst us.reverse)=H4 at yB Bv AY rF lF ⊢
     have s5:=af lF (.tup [v])
     have g5:(upd H4 q1 (.tup [v])) q1=some (.tup [v]):=ae
     generalize upd H4 q1 (.tup [v])=H5 at s5 g5 ⊢
     have tk5:=(sF.trans yB).trans (ai.tk s5)
     show⟨pa,q1,_,_,U,U,bS.of (tk5 _ _ CJ),bS.of g5,(fun z=>nomatch z),YL,(fun z=>nomatch z),fun y p hp=>?_⟩
     have s6:=af hp (.tup [.str k.str,va,v])
     have og:=tk5.trans (ai.tk s6)
     show ak ?_
     show⟨fs.length,Tq _,.ref p,j2+1,.two k a e,fs,us,rfl,rfl,⟨s6 _ _ (s5 _ _ Bv),by lia,s6 _ _ (s5 _ _ AY),Paired.imp (fun f u z=>j7.keep og z) Ak,fun f hf=>S.fg f (RC _ hf),⟨by rcases tJ.1 with rfl|rfl<;>show⟨tJ.2.is,S.eg.is⟩,tJ.2.ok,S.eg.ok⟩,S.pl,(rF.same s5).same s6⟩,p7,⟨va,v,⟨p,rfl,ae⟩,ea.keep og,ev.keep og⟩,by lia⟩
   | .L8 k b::fs,u::us,S,aN,ul,lO=>
     have hu:u=.bI:=by cases S.pr with|cons h _=>show h
     have Ak:Paired (j7 Hz) fs us:=by cases S.pr with|cons _ h=>show h
     have tJ:(k=.plus\/k=.less)/\iF b:=S.fg _ Ru
     have bg:=S.bg
     rw[Sk]at bg
     rw[Sk]
     show aG (fun y=>?_) (fun z=>au (hW (by rw[Rx,Sj];lia)) z)
     show⟨_,U,_,U,?_⟩
     show cH bg (dB _ _) ?_
     show⟨U,_,U,?_⟩
     rw[hu]
     show bc (by left) ?_
     show kR _ _ (aq fun Rk kR=>?_)
     rw[hu]at bg
     show⟨_,U,B,_,U,.inl (aH.of bg),U,_,U,?_⟩
     show bc (gv (fun z=>by injection z with z;rw[Rx,Sj]at z;lia)) ?_
     show kR _ _ ?_
     have aN:aA w j2=k.sg::(b.cps++(41::pend fs)++l):=by rw[aN];simp[pend]
     obtain⟨p7,pZ⟩:=bV aN
     have h1:(aA w j2).take 1=[k.sg]:=by rw[aN];rfl
     show aq fun Rk kR=>?_
     show⟨_,U,r,dx,_,U,S.rd,U,r,dx,w,j2,U,S.rd,S.jl,hw,_,Cb,Jp,U,U,dSS,_,U,?_⟩
     rw[h1,se tJ.1]
     show bc U ?_
     show kR _ _ (aq fun Rk kR=>?_)
     show⟨_,U,r,dx,_,U,S.rd,U,r,dx,w,j2,U,S.rd,S.jl,hw,Cb,_,.str k.str,Jp,U,U,dSS,by rw[h1];show se tJ.1,_,U,YK,fun q1 lF=>?_⟩
     have s5:=af lF (.tup [.str k.str,v])
     have g5:(upd Hz q1 (.tup [.str k.str,v])) q1=some (.tup [.str k.str,v]):=ae
     generalize upd Hz q1 (.tup [.str k.str,v])=H5 at s5 g5 ⊢
     have FJ:=s5 _ _ bg
     show⟨_,U,_,U,B,_,_,_,U,U,FJ,oP _ _,?_⟩
     rw[pf]
     have og:TK H5 (upd H5 B (.lst (us.reverse++[.ref q1]))):=bC FJ (fun y z=>nomatch z)
     have Ei:(upd H5 B (.lst (us.reverse++[.ref q1]))) r=some (bK C dx w j2):=by rw[ah Br.symm];show s5 _ _ S.rd
     have FK:(upd H5 B (.lst (us.reverse++[.ref q1]))) B=some (.lst (us.reverse++[.ref q1])):=ae
     have GP:Kp r H (upd H5 B (.lst (us.reverse++[.ref q1]))):=fun b o hb nb=>by rw[ah (ag hb hB)];show s5 _ _ (S.kp b o hb nb)
     generalize upd H5 B (.lst (us.reverse++[.ref q1]))=H6 at og Ei FK GP ⊢
     show kR _ _ ?_
     show⟨_,U,r,C,dx,_,_,U,Ei,R5.c,R5.p,U,_,_,U,U,dx,_,Ei,(by change 2<1000;decide),?_⟩
     have Nk:TK H6 (upd H6 r (bK C dx w (j2+1))):=bC Ei (fun y z=>nomatch z)
     have tk:=((ai.tk s5).trans og).trans Nk
     have Lr:=og.trans Nk
     show⟨w.length-(j2+1),by lia,some v,j2+1,b,.R k e::fs,.ref q1::us,U,U,⟨ae,by lia,?_,?_,?_,tJ.2,S.pl,GP.self⟩,?_⟩
     . rw[Sk]
       show(ah Br).trans FK
     . show .cons ⟨v,⟨q1,U,Lr _ _ g5⟩,ev.keep tk⟩ (Paired.imp (fun f u z=>j7.keep tk z) Ak)
     . intro f hf
       rcases cv hf with z|z
       . rw[z];show⟨tJ.1,S.eg⟩
       . show S.fg f (RC _ z)
     . rw[p7,SK]
       rfl
 . have aN:aA w j'=40::(a.cps++(pend (.L8 k b::fs)++l)):=by
     rw[aN,jJ hk]
     simp[pend]
   obtain⟨p7,pZ⟩:=bV aN
   show .inl ⟨_,aN,_,U,b6 ⟨fun σ' H'=>∃d',d'<w.length-j'/\∃(o2:Option V) (j':Nat) (e:TW.E) (fs:List Fr) (us:List V),σ'=[some (.ref r),some (.ref B),o2]/\d'=w.length-j'/\j<=j'/\j9 C r dx B w H e0 l H' j' e fs us/\aA w j'=e.cps++(pend fs++l),fun σ' H' z=>z,?_⟩⟩
   have sF:TK Hy (upd Hy r (bK C dx w (j'+1))):=bC S.rd (fun y z=>nomatch z)
   have jf:(upd Hy r (bK C dx w (j'+1))) B=some (.lst us.reverse):=by rw[ah Br];show S.bg
   have pC:(upd Hy r (bK C dx w (j'+1))) r=some (bK C dx w (j'+1)):=ae
   have kp1:Kp r H (upd Hy r (bK C dx w (j'+1))):=S.kp.self
   generalize upd Hy r (bK C dx w (j'+1))=H3 at sF jf pC kp1 ⊢
   have yB:TK H3 (upd H3 B (.lst (us.reverse++[.bI]))):=bC jf (fun y z=>nomatch z)
   show⟨_,U,.inl ⟨U,_,aH.of jf⟩,B,_,_,U,U,jf,Tv (show _<=4000 by rw[TV];lia) (by left),?_⟩
   show⟨w.length-(j'+1),by lia,o2,j'+1,a,.L8 k b::fs,.bI::us,U,U,by lia,⟨(ah Br.symm).trans pC,by lia,?_,.cons rfl (Paired.imp (fun f u z=>j7.keep (sF.trans yB) z) S.pr),?_,ga,S.pl,fun b o hb nb=>by rw[ah (ag hb hB)];show kp1 b o hb nb⟩,p7⟩
   . rw[Sk]
     show ae
   . intro f hf
     rcases cv hf with z|z
     . rw[z];show⟨hk,gb⟩
     . show S.fg f z
abbrev qD:Stmt:=top 39
def iD (l:List Nat):Prop:=∀c,l.head?=some c->¬ (48<=c/\c<=57)/\¬ (97<=c/\c<123)/\c≠61/\c≠60
def iD.one {l:List Nat}(h:iD l):Stop l:=fun c hc=>⟨(h c hc).1,(h c hc).2.1⟩
inductive E.sJ:E->Prop
 | yes:E.sJ .yes
 | same {a b:E}:E.sJ (.two .same a b)
 | under {a b:E}:E.sJ (.two .under a b)
structure dW (e:E):Prop where
 is:e.Fh
 ok:e.okN df
abbrev BQ:List (Str×V):=[("=",.str "same"),("<",.str "under")]
def sh {l:List Nat}(h:iD l):BQ.lookup (SN (l.take 1))=none:=by
 have e1:("=":Str)=SN [61]:=by right
 have e2:("<":Str)=SN [60]:=by right
 have n1:SN (l.take 1)≠"=":=fun z=>by
   rw[e1]at z
   have z:=gW z
   cases l with
   | nil=>cases z
   | cons c r=>
     injection z with z _
     show(h c rfl).2.2.1 z
 have n2:SN (l.take 1)≠"<":=fun z=>by
   rw[e2]at z
   have z:=gW z
   cases l with
   | nil=>cases z
   | cons c r=>
     injection z with z _
     show(h c rfl).2.2.2 z
 rw[Tj,beq_eq_false_iff_ne.mpr n1,Tj,beq_eq_false_iff_ne.mpr n2]
 rfl
def sf {k:K2}(h:k=.same\/k=.under):BQ.lookup (SN [k.sg])=some (.str k.str):=by
 rcases h with rfl|rfl<;>decide +kernel
def nz:df "yes":=⟨by left,by left,by right⟩
def eK {k:K2}{a b:E}(h:k=.same\/k=.under):(E.two k a b).cps=a.cps++(k.sg::b.cps):=by
 have e:(E.two k a b).txt=a.txt++k.sign++b.txt:=by rcases h with rfl|rfl<;>rfl
 unfold E.cps
 rw[e,bM,bM,k.rY,eV]
 simp
def nW:aC ["reader","told","kind"] ["reader"] (ao qD):=eU
abbrev qy:Stmt:=top 40
def wH {a b c:Expr}{p:Pos}:bL (.IfExp a b c p):=⟨fun z z=>rfl⟩
def dW.cases {e:E}(h:dW e):e.sJ\/(∃a,e=.nt a/\dW a)\/∃a b,e=.two .both a b/\dW a/\dW b:=by
 obtain⟨is,ok⟩:=h
 match e,is,ok with
 | .yes,_,_=>show .inl .yes
 | .two .same _ _,_,_=>show .inl .same
 | .two .under _ _,_,_=>show .inl .under
 | .nt a,is,ok=>show .inr (.inl ⟨a,rfl,is,ok⟩)
 | .two .both a b,is,ok=>show .inr (.inr ⟨a,b,rfl,⟨is.1,ok.1⟩,⟨is.2,ok.2⟩⟩)
def GW:("!":Str).cps.toList=[33]:=by right
def GQ:("{":Str).cps.toList=[123]:=by right
def HX:("}":Str).cps.toList=[125]:=by right
def FH:("&":Str).cps.toList=[38]:=by right
def vk {a:E}:(E.nt a).cps=33::a.cps:=by
 unfold E.cps
 rw[show(E.nt a).txt="!"++a.txt from rfl,bM,GW]
 rfl
def ow {a b:E}:(E.two .both a b).cps=123::(a.cps++(38::(b.cps++[125]))):=by
 have e:(E.two .both a b).txt="{"++(a.txt++"&"++b.txt)++"}":=rfl
 unfold E.cps
 rw[e,bM,bM,bM,bM,GQ,HX,FH]
 simp
def pj {e:E}(h:iF e)(l:List Nat):∃c r,e.cps++l=c::r/\c≠33/\c≠123:=by
 rcases h.cases with a|⟨k,a,b,hk,rfl,_,_⟩
 . obtain⟨c,r,e1,e2⟩:=eJ a h.ok l
   show⟨c,r,e1,by lia,by lia⟩
 . rw[jJ hk]
   show⟨40,_,U,by left,by left⟩
def mj {e:E}(h:e.sJ)(g:dW e)(l:List Nat):∃c r,e.cps++l=c::r/\c≠33/\c≠123:=by
 cases h with
 | yes=>show eJ (e:=.box "box" "yes") .box ⟨rfl,nz⟩ l |>.elim fun c ⟨r,h1,h2⟩=>⟨c,r,h1,by lia,by lia⟩
 | @same a b=>
   rw[eK (.inl rfl),SK]
   show pj ⟨g.is.1,g.ok.1⟩ _
 | @under a b=>
   rw[eK (.inr rfl),SK]
   show pj ⟨g.is.1,g.ok.1⟩ _
inductive Fc where
 | N|L8 (b:E)|R (a:E)
def rM:List Fc->E->E
 | [],e=>e
 | .N::fs,e=>rM fs (.nt e)
 | .L8 b::fs,e=>rM fs (.two .both e b)
 | .R a::fs,e=>rM fs (.two .both a e)
def cg:List Fc->List Nat
 | []=>[]
 | .N::fs=>cg fs
 | .L8 b::fs=>38::(b.cps++(125::cg fs))
 | .R _::fs=>125::cg fs
def gu (H:Hp):Fc->V->Prop
 | .N,v=>Tp H v [.str "not"]
 | .L8 _,v=>v=.bI
 | .R a,v=>∃u,Tp H v [.str "both",u]/\cJ H u a
theorem gu.keep {H H':Hp}(k:TK H H'):∀{f:Fc} {v:V},gu H f v->gu H' f v
 | .N,_,h=>Tp.keep k h
 | .L8 _,_,h=>h
 | .R _,_,⟨u,a,b⟩=>⟨u,a.keep k,b.keep k⟩
def Nz:Fc->Prop
 | .N=>True
 | .L8 b=>dW b
 | .R a=>dW a
theorem lz {l:List Nat}(hl:iD l):∀{fs:List Fc},iD (cg fs++l)
 | []=>hl
 | .N::fs=>lz hl (fs:=fs)
 | .L8 b::fs=>fun c hc=>by
   have e:c=38:=by
     have:some 38=some c:=hc
     injection this with this
     show this.symm
   rw[e]
   decide
 | .R _::fs=>fun c hc=>by
   have e:c=125:=by
     have:some 125=some c:=hc
     injection this with this
     show this.symm
   rw[e]
   decide
def qi:("!":Str)=SN [33]:=by right
def C0:("{":Str)=SN [123]:=by right
def Eh:("}":Str)=SN [125]:=by right
def Ce:("&":Str)=SN [38]:=by right
def rB {c:Nat}:iN (.str (SN [c])) [.str "!",.str "{"]=(decide (c=33) || decide (c=123)):=by
 change((("!":Str)==SN [c]) || ((("{":Str)==SN [c]) || false))=_
 rw[qi,C0,Bool.or_false]
 have h:∀d:Nat,(SN [d]==SN [c])=decide (c=d):=fun d=>by
   by_cases z:c=d
   . rw[z,beq_self_eq_true,hW rfl]
   . rw[beq_eq_false_iff_ne.mpr (fun k=>z (by injection gW k with k _;show k.symm)),gv z]
 rw[h,h]
structure fq (C r dx B:Addr)(w:Str)(H:Hp)(e0:E)(l:List Nat)(Hx:Hp)(j:Nat)(e:E)(fs:List Fc)(us:List V):Prop where
 rd:Hx r=some (bK C dx w j)
 jl:j<=w.length
 fl:fs.length<=j
 bg:Hx B=some (.lst us.reverse)
 pr:Paired (gu Hx) fs us
 fg:∀f∈fs,Nz f
 eg:dW e
 pl:rM fs e=e0
 kp:Kp r H Hx
def fq.same {C r dx B:Addr}{w:Str}{H:Hp}{e0:E}{l:List Nat}{Hx Hy:Hp}{j:Nat}{e:E}{fs:List Fc}{us:List V}(h:fq C r dx B w H e0 l Hx j e fs us)(s:ai Hx Hy):fq C r dx B w H e0 l Hy j e fs us:=⟨s _ _ h.rd,h.jl,h.fl,s _ _ h.bg,Paired.imp (fun f u z=>gu.keep (ai.tk s) z) h.pr,h.fg,h.eg,h.pl,h.kp.same s⟩
def jT:aC ["reader","begun","told"] ["reader"] (ao qy):=eU
abbrev qE:Stmt:=top 41
abbrev rS:Stmt:=top 42
def oi.mono {C:Addr}{x:Str}{ps:List Str}{j k:Nat}{sp:Sp}(h:oi P w K mg base x C ps j sp)(hk:j<=k):oi P w K mg base x C ps k sp:=by obtain⟨f,fd,a,b,c⟩:=h;show⟨f,fd,a.mono hk,b,c⟩
inductive Wd where
 | sum (e:E)|cond (e:E)|name (x:Str)|num (i:Int)
def Wd.kind:Wd->Str
 | .sum _=>"sum" | .cond _=>"condition" | .name _=>"name" | .num _=>"number"
def Wd.txt:Wd->Str
 | .sum e=>e.txt|.cond e=>e.txt|.name x=>x|.num i=>Rt (toString i)
def Wd.G:Wd->Prop
 | .sum e=>iF e/\e.txt.length<=4000|.cond e=>dW e/\e.txt.length<=4000|.name x=>df x|.num i=>0<=i/\i<10^30
def Wd.At (H:Hp)(v:V):Wd->Prop
 | .sum e=>cJ H v e|.cond e=>cJ H v e|.name x=>v=.str x|.num i=>v=.int i
theorem Wd.At.keep {H H':Hp}{v:V}(k:TK H H'):∀{d:Wd},d.At H v->d.At H' v
 | .sum e,h=>cJ.keep k h|.cond e,h=>cJ.keep k h|.name _,h=>h|.num _,h=>h
def Wd.len:∀{d:Wd},d.G->d.txt.length<=4000
 | .sum _,h=>h.2|.cond _,h=>h.2|.name _,h=>Ry h.l8 (by left)|.num _,h=>Ry (bJ h) (by left)
def HZ (w:Str):aA w 0=w.cps.toList:=rfl
def Kp.all {r:Addr}{H H1 H2:Hp}(s:ai H H1)(hr:H r=none)(k:Kp r H1 H2):ai H H2:=fun b o h=>k b o (s b o h) (ag h hr)
def iX:aC ["kind","word","reader","told"] ["kind","word"] (ao qE):=eU
theorem E.kq:∀{e:E},e.okN df->∀c∈e.cps,33<=c
 | .num n,h,c,hc=>by have:=eO (n:=n) h.1 c hc;lia
 | .box _ x,h,c,hc=>by have:=h.2.lt c hc;lia
 | .yes,_,c,hc=>by have:=nz.lt c hc;lia
 | .nt a,h,c,hc=>by
   rw[vk]at hc
   rcases cv hc with rfl|hc
   . decide
   . show E.kq (e:=a) h c hc
 | .two k a b,h,c,hc=>by
   have ha:=E.kq (e:=a) h.1 c
   have hb:=E.kq (e:=b) h.2 c
   have key:∀k:K2,33<=k.sg:=fun k=>by cases k<;>decide
   have kk:=key k
   have:(E.two k a b).cps=40::(a.cps++(k.sg::(b.cps++[41])))\/(E.two k a b).cps=a.cps++(k.sg::b.cps)\/(E.two k a b).cps=123::(a.cps++(k.sg::(b.cps++[125]))):=by
     cases k with
     | plus=>show .inl (jJ (.inl rfl))
     | less=>show .inl (jJ (.inr rfl))
     | same=>show .inr (.inl (eK (.inl rfl)))
     | under=>show .inr (.inl (eK (.inr rfl)))
     | both=>show .inr (.inr ow)
   rcases this with e|e|e<;>rw[e]at hc<;>simp only[Sh,List.mem_append,R4,or_false]at hc
   . rcases hc with rfl|hc|rfl|hc|rfl
     . decide
     . show ha hc
     . show kk
     . show hb hc
     . decide
   . rcases hc with hc|rfl|hc
     . show ha hc
     . show kk
     . show hb hc
   . rcases hc with rfl|hc|rfl|hc|rfl
     . decide
     . show ha hc
     . show kk
     . show hb hc
     . decide
def Wd.ge:∀{d:Wd},d.G->∀c∈d.txt.cps.toList,33<=c
 | .sum e,h,c,hc=>E.kq h.1.ok c hc
 | .cond e,h,c,hc=>E.kq h.1.ok c hc
 | .name x,h,c,hc=>by have:=df.lt h c hc;lia
 | .num i,h,c,hc=>by have:=eO (n:=i) h.1 c hc;lia
def jl (c:Nat):List (List Nat)->List Nat
 | []=>[]
 | [a]=>a
 | a::b::r=>a++c::jl c (b::r)
theorem eM (c:Nat):∀xs:List Str,(Td (SN [c]) xs).cps.toList=jl c (xs.map fun x=>x.cps.toList)
 | []=>rfl
 | [x]=>rfl
 | x::y::r=>by
   change((x++SN [c])++Td (SN [c]) (y::r)).cps.toList=_
   rw[bM,bM,eV,eM c (y::r)]
   simp[jl]
theorem iI {c:Nat}:∀{a b r s:List Nat},c∉a->c∉b->(r=[]\/r.head?=some c)->(s=[]\/s.head?=some c)->a++r=b++s->a=b/\r=s
 | [],[],_,_,_,_,_,_,h=>⟨rfl,h⟩
 | [],y::b,r,s,_,hb,hr,_,h=>by
   have h:r=y::(b++s):=h
   rcases hr with rfl|hr
   . cases h
   . rw[h]at hr
     have:some y=some c:=hr
     injection this with this
     show au (by rw[this];show Ru) hb
 | x::a,[],r,s,ha,_,_,hs,h=>by
   have h:x::(a++r)=s:=h
   rcases hs with rfl|hs
   . cases h
   . rw[← h]at hs
     have:some x=some c:=hs
     injection this with this
     show au (by rw[this];show Ru) ha
 | x::a,y::b,r,s,ha,hb,hr,hs,h=>by
   have h:x::(a++r)=y::(b++s):=h
   injection h with h1 h2
   obtain⟨e1,e2⟩:=iI (fun z=>ha (RC _ z)) (fun z=>hb (RC _ z)) hr hs h2
   show⟨by rw[h1,e1],e2⟩
theorem vZ {c:Nat}:∀{xs ys:List (List Nat)},xs≠[]->ys≠[]->(∀x∈xs,c∉x)->(∀x∈ys,c∉x)->jl c xs=jl c ys->xs=ys
 | [],_,h,_,_,_,_=>au rfl h
 | _,[],_,h,_,_,_=>au rfl h
 | [a],[b],_,_,_,_,h=>by
   have:a=b:=h
   rw[this]
 | [a],b::b2::s,_,_,ha,hb,h=>by
   have h:a++[]=b++c::jl c (b2::s):=by rw[RY];show h
   have:=(iI (ha a Ru) (hb b Ru) (.inl rfl) (.inr rfl) h).2
   cases this
 | a::a2::r,[b],_,_,ha,hb,h=>by
   have h:a++c::jl c (a2::r)=b++[]:=by rw[RY];show h
   have:=(iI (ha a Ru) (hb b Ru) (.inr rfl) (.inl rfl) h).2
   cases this
 | a::a2::r,b::b2::s,_,_,ha,hb,h=>by
   have h:a++c::jl c (a2::r)=b++c::jl c (b2::s):=h
   obtain⟨e1,e2⟩:=iI (ha a Ru) (hb b Ru) (.inr rfl) (.inr rfl) h
   injection e2 with _ e2
   rw[e1,vZ (xs:=a2::r) (ys:=b2::s) (fun z=>nomatch z) (fun z=>nomatch z) (fun x hx=>ha x (RC _ hx)) (fun x hx=>hb x (RC _ hx)) e2]
def lr {c:Nat}{xs:List Str}(hn:xs≠[])(h0:Td (SN [c]) xs≠TR)(hf:∀x∈xs,c∉x.cps.toList):S7 (RM (SN [c]) xs) (SN [c])=xs:=by
 have ej:RM (SN [c]) xs=Td (SN [c]) xs:=StrLaws.glued_eq_join _ _
 rw[ej]
 have h1:=StrLaws.join_split (Td (SN [c]) xs) (SN [c])
 have h2:=StrLaws.split_free (Td (SN [c]) xs) c
 have h2:∀p∈S7 (Td (SN [c]) xs) (SN [c]),c∉p.cps.toList:=h2
 generalize S7 (Td (SN [c]) xs) (SN [c])=ys at h1 h2
 have hy:ys≠[]:=fun z=>by rw[z]at h1;show h0 h1.symm
 have h3:=congrArg (fun s:Str=>s.cps.toList) h1
 have h3:(Td (SN [c]) ys).cps.toList=(Td (SN [c]) xs).cps.toList:=h3
 rw[eM,eM]at h3
 have h4:=vZ (by simpa using hy) (by simpa using hn) (fun x hx=>by obtain⟨y,hy,rfl⟩:=fc hx;show h2 y hy) (fun x hx=>by obtain⟨y,hy,rfl⟩:=fc hx;show hf y hy) h3
 have h5:=congrArg (List.map SN) h4
 rw[Te,Te]at h5
 have key:∀l:List Str,l.map (SN ∘ fun x=>x.cps.toList)=l:=fun l=>by
   induction l with
   | nil=>rfl
   | cons a l ih=>rw[R3,ih];change SN a.cps.toList::l=_;rw[oo]
 rw[key,key]at h5
 show h5
def nq {c:Nat}{x:Str}{xs:List Str}(h:x≠TR):Td (SN [c]) (x::xs)≠TR:=fun z=>by
 have e:=congrArg (fun s:Str=>s.cps.toList) z
 have e:(Td (SN [c]) (x::xs)).cps.toList=[]:=e
 rw[eM]at e
 have hx:x.cps.toList≠[]:=fun k=>h (by rw[← oo x,k];rfl)
 cases xs with
 | nil=>show hx e
 | cons y r=>
   have e:x.cps.toList++c::jl c ((y::r).map fun x=>x.cps.toList)=[]:=e
   show hx (List.append_eq_nil_iff.mp e).1
def Ln:(" ":Str)=SN [32]:=by right
def Qi:("\n":Str)=SN [10]:=by right
structure iC (head:Str)(ds:List Wd):Prop where
 fr:(head,ds.map Wd.kind)∈bZ
 g:∀d∈ds,d.G
abbrev du (head:Str)(ds:List Wd):Str:=RM " " (head::ds.map Wd.txt)
def gh:∀q∈bZ,q.2.length<=3/\q.1.length<=5/\q.1≠TR/\∀c∈q.1.cps.toList,33<=c:=by right
def iC.ge {head:Str}{ds:List Wd}(h:iC head ds):∀x∈head::ds.map Wd.txt,∀c∈x.cps.toList,33<=c:=fun x hx=>by
 rcases cv hx with rfl|hx
 . show(gh _ h.fr).2.2.2
 . obtain⟨d,hd,rfl⟩:=fc hx
   show Wd.ge (h.g d hd)
def iC.split {head:Str}{ds:List Wd}(h:iC head ds):S7 (du head ds) " "=head::ds.map Wd.txt:=by
 rw[du,Ln]
 show lr (fun z=>nomatch z) (nq (gh _ h.fr).2.2.1) (fun x hx z=>by have:=h.ge x hx _ z;lia)
def AI:∀(l:List Str),(∀x∈l,x.length<=4000)->(l.map (·.length)).sum<=l.length*4000:=by
 intro l
 induction l with
 | nil=>intro _;show Rz _
 | cons a l ih=>
   intro h
   have h1:=ih fun x hx=>h x (RC _ hx)
   have h2:=h a Ru
   rw[R3,S2,RE]
   lia
def iC.len {head:Str}{ds:List Wd}(h:iC head ds):ds.length<=3/\(du head ds).length<=12100:=by
 obtain⟨h3,h5,_⟩:=gh _ h.fr
 have h3:(ds.map Wd.kind).length<=3:=h3
 have h5:head.length<=5:=h5
 rw[Rn]at h3
 show⟨h3,?_⟩
 change(Sr " " (head::ds.map Wd.txt)).length<=_
 rw[StrLaws.glued_eq_join]
 show Ry (StrLaws.join_length_le _ _) ?_
 have:=AI (ds.map Wd.txt) fun x hx=>by obtain⟨d,hd,rfl⟩:=fc hx;show Wd.len (h.g d hd)
 rw[Rn]at this
 rw[R3,S2,RE,show((" ":Str)).length=1 from rfl,Rn]
 lia
def yI (H:Hp)(v:V)(head:Str)(ds:List Wd):Prop:=∃(p:Addr) (vals:List V),v=.ref p/\H p=some (.tup (.str head::vals))/\Paired (fun u (d:Wd)=>d.At H u) vals ds
theorem Paired.snoc {α β:Type}{R:α->β->Prop}:∀{a:List α} {b:List β} {x:α} {y:β},Paired R a b->R x y->Paired R (a++[x]) (b++[y])
 | _,_,_,_,.nil,h=>.cons h .nil
 | _,_,_,_,.cons r t,h=>.cons r (Paired.snoc t h)
def qF:aC ["row","words","kinds"] ["row"] (ao rS):=eU
def i5 (C cNR:Addr):Sp:=fun vs H Q E=>∃(r dx:Addr) (w:Str) (i:Nat),vs=[.ref r]/\H r=some (bK C dx w i)/\i<=w.length/\w.length<=4000 /\
 ((∃(e:TW.E) (l:List Nat),e.sJ/\dW e/\aA w i=e.cps++l/\iD l/\∀(v:V) (H':Hp),Kp r H H'->H' r=some (bK C dx w (i+e.cps.length))->cJ H' v e->Q v H') \/
  (∃(x:Str) (l:List Nat),df x/\x≠"yes"/\aA w i=x.cps.toList++l/\iD l/\∀H':Hp,Kp r H H'->E (.ref cNR) none H'))
def um {C uV cNR TE:Addr}{f:Addr}{fd:RZ}(F:cD K "read_test" "read_test" qD f fd)(R5:lE K C)(hST:mg "SIGN_TESTS"=some (.ref uV))(dST:eG w K uV BQ)(cN:Xc K mg "NoRow" cNR (.ref TE::vE))(SI0:bN P w K mg base C "sign" ["self"] 1 (bW C))(RS0:b7 P w K mg base "read_sum" ["reader"] 6 (lq C)):aY P w K mg base (eD P w base) 7 f fd ["reader"] (i5 C cNR):=by
 show F.wU nW (fun vs H Q E h=>?_) (fun cdv A outer s H vs Q E hr h=>?_)
 . obtain⟨r,dx,w,i,rfl,_⟩:=h
   rfl
 . have SI:=SI0.mono (show 1<=6 by left)
   have RS:=RS0
   obtain⟨r,dx,w,i,rfl,cW,hi,vT,cs⟩:=h
   have hw:w.length<=sizeLine:=Ry vT (by left)
   show ig ⟨_,(Wv (Wy 1 nW.nd (WA RS hr U (L (Y 0) M)))
     (Wv (WB (Wx L3.G0 (W5 (Y 0) R5.c SI hr) (WU (w:=.ref uV) U hST rfl) U) (Wv (Wy 2 nW.nd (L3.kg (WU (w:=.ref uV) U hST rfl) (W5 (Y 0) R5.c SI hr)))
     (Wv (XC (Y 0) Ws)
     (Ww (WC (WH (L (Y 2) (L (Y 1) (L (WA RS hr U (L (Y 0) M)) M)))))))) WE)
     (Wv (WB (Wx (Xf (m:=2) (dm hr _ (by left))) (Y 1) (WH (L Wu (L Wu M)))) (Ww (Xa cA cN U U (L Wu M))) WE)
     (Ww (WC (WH (L Wu M))))))),?_⟩
   show aq fun Rk kR=>?_
   rcases cs with⟨e,l,lf,g0,hl,st,q⟩|⟨x,l,hx,ny,hl,st,q⟩
   . have P2:e=.yes\/∃(k:K2) (a b:TW.E),(k=.same\/k=.under)/\e=.two k a b/\iF a/\iF b:=by
       cases lf with
       | yes=>show .inl rfl
       | @same a b=>show .inr ⟨.same,a,b,.inl rfl,rfl,⟨g0.is.1,g0.ok.1⟩,⟨g0.is.2,g0.ok.2⟩⟩
       | @under a b=>show .inr ⟨.under,a,b,.inr rfl,rfl,⟨g0.is.1,g0.ok.1⟩,⟨g0.is.2,g0.ok.2⟩⟩
     rcases P2 with rfl|⟨k,a,b,hk,rfl,ga,gb⟩
     . have iK:aA w i=(TW.E.box "box" "yes").cps++l:=hl
       show⟨_,U,r,dx,w,i,.box "box" "yes",l,U,cW,hi,vT,⟨trivial,U,nz⟩,iK,st.one,fun v1 H1 k1 r1 e1=>?_⟩
       obtain⟨oN,lL⟩:=dy iK hi
       obtain⟨p1,rfl,kG⟩:=e1
       show ak (kR _ _ ?_)
       show aw [some (.ref r),some (.ref p1),none] U ?_
       show aq fun Rk kR=>?_
       show⟨_,U,r,dx,_,U,r1,U,r,dx,w,_,U,r1,lL,hw,_,uV,BQ,U,U,dST,_,U,?_⟩
       rw[oN,sh st]
       show bc U ?_
       show kR _ _ (aq fun Rk kR=>?_)
       show⟨_,U,YK,fun p hp=>?_⟩
       have s2:=af hp (.tup [.str "box",.str "yes"])
       have g2:(upd H1 p (.tup [.str "box",.str "yes"])) p=some (.tup [.str "box",.str "yes"]):=ae
       have rF:=k1.new (o:=.tup [.str "box",.str "yes"]) hp
       generalize upd H1 p (.tup [.str "box",.str "yes"])=H2 at s2 g2 rF ⊢
       show⟨true,RB.tup (bS.of (s2 _ _ kG)) (bS.of g2) rfl (fun j x y hx hy=>?_),_,U,bc rfl ?_⟩
       . match j,hx,hy with
         | 0,hx,hy=>cases hx;cases hy;show ET.refl (.inl rfl)
         | 1,hx,hy=>cases hx;cases hy;show ET.refl (.inl rfl)
       show kR _ _ ?_
       show⟨YJ,fun p3 Bb=>?_⟩
       show q (.ref p3) _ (rF.new Bb) ?_ ⟨p3,U,ae⟩
       rw[ah (fun z=>by rw[← z,s2 _ _ r1]at Bb;cases Bb)]
       show s2 _ _ r1
     . rw[eK hk,SK]at hl
       show⟨_,U,r,dx,w,i,a,_,U,cW,hi,vT,ga,hl,(fun c hc=>?_),fun v1 H1 k1 r1 e1=>?_⟩
       . have:some k.sg=some c:=hc
         injection this with this
         rw[← this]
         rcases hk with rfl|rfl<;>show⟨by left,by left⟩
       have iK:aA w i=a.cps++(k.sg::(b.cps++l)):=hl
       obtain⟨oN,lL⟩:=dy iK hi
       obtain⟨p7,pZ⟩:=bV oN
       have h1:(aA w (i+a.cps.length)).take 1=[k.sg]:=by rw[oN];rfl
       show ak (kR _ _ ?_)
       show aw [some (.ref r),some v1,none] U ?_
       show aq fun Rk kR=>?_
       show⟨_,U,r,dx,_,U,r1,U,r,dx,w,_,U,r1,lL,hw,_,uV,BQ,U,U,dST,_,U,?_⟩
       rw[h1,sf hk]
       show b6 ?_
       show aq fun uU kR2=>?_
       show⟨_,U,r,dx,_,U,r1,U,r,dx,w,_,U,r1,lL,hw,uV,_,.str k.str,BQ,U,U,dST,by rw[h1];show sf hk,?_⟩
       show ak ?_
       show kR2 _ _ ?_
       show aw [some (.ref r),some v1,some (.str k.str)] U ?_
       show aq fun QQ PX=>?_
       show⟨_,U,r,C,dx,_,_,U,r1,R5.c,R5.p,U,_,_,U,U,dx,_,r1,(by change 2<1000;decide),?_⟩
       have sF:TK H1 (upd H1 r (bK C dx w (i+a.cps.length+1))):=bC r1 (fun v z=>nomatch z)
       have r2:(upd H1 r (bK C dx w (i+a.cps.length+1))) r=some (bK C dx w (i+a.cps.length+1)):=ae
       have k2:Kp r H (upd H1 r (bK C dx w (i+a.cps.length+1))):=k1.self
       show PX _ (upd H1 r (bK C dx w (i+a.cps.length+1))) ?_
       generalize upd H1 r (bK C dx w (i+a.cps.length+1))=H2 at sF r2 k2 ⊢
       show⟨_,U,_,U,_,U,r,dx,w,i+a.cps.length+1,b,l,U,r2,by lia,vT,gb,p7,st.one,fun v2 H3 k3 r3 e3=>?_⟩
       show⟨YL,fun p hp=>?_⟩
       have s4:=af hp (.tup [.str k.str,v1,v2])
       show q (.ref p) _ ((k2.trans k3).new hp) ?_ ?_
       . rw[ah (fun z=>by rw[← z,r3]at hp;cases hp),r3,eK hk]
         rw[Rx,RE,show i+(a.cps.length+(b.cps.length+1))=i+a.cps.length+1+b.cps.length by lia]
       . show⟨v1,v2,⟨p,U,ae⟩,?_,e3.keep (ai.tk s4)⟩
         show((e1.keep sF).keep (Kp.rd k3 r2)).keep (ai.tk s4)
   . have iK:aA w i=(TW.E.box "box" x).cps++l:=hl
     show⟨_,U,r,dx,w,i,.box "box" x,l,U,cW,hi,vT,⟨trivial,U,hx⟩,iK,st.one,fun v1 H1 k1 r1 e1=>?_⟩
     obtain⟨oN,lL⟩:=dy iK hi
     obtain⟨p1,rfl,kG⟩:=e1
     show ak (kR _ _ ?_)
     show aw [some (.ref r),some (.ref p1),none] U ?_
     show aq fun Rk kR=>?_
     show⟨_,U,r,dx,_,U,r1,U,r,dx,w,_,U,r1,lL,hw,_,uV,BQ,U,U,dST,_,U,?_⟩
     rw[oN,sh st]
     show bc U ?_
     show kR _ _ (aq fun Rk kR=>?_)
     show⟨_,U,YK,fun p hp=>?_⟩
     have s2:=af hp (.tup [.str "box",.str "yes"])
     have g2:(upd H1 p (.tup [.str "box",.str "yes"])) p=some (.tup [.str "box",.str "yes"]):=ae
     have rF:=k1.new (o:=.tup [.str "box",.str "yes"]) hp
     generalize upd H1 p (.tup [.str "box",.str "yes"])=H2 at s2 g2 rF ⊢
     show⟨false,⟨p1,p,_,_,U,U,.inr (.inr ⟨fun j=>match j with|0=>true|_=>false,bS.of (s2 _ _ kG),bS.of g2,(fun j x' y' CK CL=>?_),U⟩)⟩,_,U,b6 ?_⟩
     . match j,CK,CL with
       | 0,CK,CL=>cases CK;cases CL;show EB.flat (x:=.str "box") (y:=.str "box") rfl rfl
       | 1,CK,CL=>
         cases CK;cases CL
         have:=EB.flat (K:=K) (H:=H2) (n:=2) (x:=.str x) (y:=.str "yes") rfl rfl
         rw[show oB (.str x) (.str "yes")=false from beq_eq_false_iff_ne.mpr ny]at this
         show this
     show⟨_,U,q _ rF⟩
def pT {C uV cNR TE:Addr}(s:Src K mg "read_test" qD)(R5:lE K C)(hST:mg "SIGN_TESTS"=some (.ref uV))(dST:eG w K uV BQ)(cN:Xc K mg "NoRow" cNR (.ref TE::vE))(SI0:bN P w K mg base C "sign" ["self"] 1 (bW C))(RS0:b7 P w K mg base "read_sum" ["reader"] 6 (lq C)):bQ P w K mg base "read_test" ["reader"] 7 (i5 C cNR):=
 let⟨f,fd,F,m⟩:=s
 ⟨f,fd,um F R5 hST dST cN SI0 RS0,F.kp,lG F fun z z z z z z z=>rfl,m⟩
def iZ (C cNR:Addr):Sp:=fun vs H Q E=>∃(r dx:Addr) (w:Str) (i:Nat),vs=[.ref r]/\H r=some (bK C dx w i)/\i<=w.length/\w.length<=4000 /\
 ((∃(e:TW.E) (l:List Nat),dW e/\aA w i=e.cps++l/\iD l/\∀(v:V) (H':Hp),Kp r H H'->H' r=some (bK C dx w (i+e.cps.length))->cJ H' v e->Q v H') \/
  (∃(x:Str) (l:List Nat),df x/\x≠"yes"/\aA w i=x.cps.toList++l/\iD l/\∀H':Hp,Kp r H H'->E (.ref cNR) none H'))
def ui {C cNR:Addr}{f:Addr}{fd:RZ}(F:cD K "read_condition" "read_condition" qy f fd)(R5:lE K C)(m_len:mg "len"=none)(SI0:bN P w K mg base C "sign" ["self"] 1 (bW C))(DU0:bN P w K mg base C "due" ["self","sign"] 3 (lg C))(RT0:bQ P w K mg base "read_test" ["reader"] 7 (i5 C cNR)):aY P w K mg base (eD P w base) 8 f fd ["reader"] (iZ C cNR):=by
 show F.wU jT (fun vs H Q E h=>?_) (fun cdv A outer s H vs Q E hr h=>?_)
 . obtain⟨r,dx,w,i,rfl,_⟩:=h
   rfl
 . have SI:=SI0.mono (show 1<=7 by left)
   have DU:=DU0.mono (show 3<=7 by left)
   have RT:=RT0
   obtain⟨r,dx,w,i,rfl,cW,hi,vT,cs⟩:=h
   have hw:w.length<=sizeLine:=Ry vT (by left)
   show ig ⟨_,(Wv (Wy 1 jT.nd (WD M))
     (Ww (Xo (Xx Xe) (Wv (Xo (Wx L3.zG (W5 (Y 0) R5.c SI hr) (WH (L Wu (L Wu M))) U) (Wv (W0 (Xt (Y 1) (L (L3.MF (Wx WL (W5 (Y 0) R5.c SI hr) Wu) (WH (L Wu M)) XD) M wH)))
     (Ww (XC (Y 0) Ws))) (hp:=Sn))
     (Wv (Wy 2 jT.nd (Xd iV RT hr U (L (Y 0) M)))
     (Wv (Xo (WV (WX (Wx Xi (WJ WO U m_len RG (L (Y 1) M)) Ws) (W6 (Wx L3.wQ (Wz WK (Y 1) (XB Ws)) XD)))) (Wv (WB (Wx (Xf (m:=2) (dm hr _ (by left))) (Wz WK (Y 1) (XB Ws)) (WH (L Wu M))) (Ww (W0 (Xs (Y 0) R5.c DU hr (L Wu M)))) WE)
     (Ww (Wy 2 jT.nd (Wt L3.ql (L3.Ht (Y 1)) (WH (L (Y 2) M)))))) (hp:=Sn))
     (Wv (WB (Wx WL (WJ WO U m_len RG (L (Y 1) M)) Ws) (Ww (WC (Y 2))) WE)
     (Wv (W0 (Xs (Y 0) R5.c DU hr (L Wu M)))
     (Ww (Xj (WH (L Wu (L (Y 2) M))) (L3.A4 (Y 1) (XB Ws))))))))) (hp:=Sn)))),?_⟩
   show aq fun Rk kR=>?_
   show⟨YI,fun B hB=>?_⟩
   have Br:B≠r:=fun z=>by rw[z,cW]at hB;cases hB
   show ak (kR _ _ ?_)
   rcases cs with⟨e0,l,g0,hl,st,q⟩|⟨x,l,hx,ny,hl,st,q⟩
   . show⟨fun(d:Nat) (σ:L2.St) (Hx:Hp)=>∃(o2:Option V) (j:Nat) (e:TW.E) (fs:List Fc) (us:List V),σ=[some (.ref r),some (.ref B),o2]/\d=w.length-j/\fq C r dx B w H e0 l Hx j e fs us/\aA w j=e.cps++(cg fs++l),⟨w.length-i,none,i,e0,[],[],U,U,⟨by rw[ah Br.symm];show cW,hi,Sd _,ae,.nil,(fun f hf=>nomatch hf),g0,U,(Kp.refl H).new hB⟩,hl⟩,fun d σ Hx z=>?_⟩
     obtain⟨o2,j,e,fs,us,rfl,rfl,S,aN⟩:=z
     show⟨_,U,b6 ⟨fun σ' H'=>∃d',d'<w.length-j/\(fun(d:Nat) (σ:L2.St) (Hx:Hp)=>∃(o2:Option V) (j:Nat) (e:TW.E) (fs:List Fc) (us:List V),σ=[some (.ref r),some (.ref B),o2]/\d=w.length-j/\fq C r dx B w H e0 l Hx j e fs us/\aA w j=e.cps++(cg fs++l)) d' σ' H',fun σ' H' z=>z,?_⟩⟩
     show aq fun Rk kR=>?_
     show⟨fun(d:Nat) (σ:L2.St) (Hx:Hp)=>∃(o2:Option V) (j':Nat) (e:TW.E) (fs:List Fc) (us:List V),σ=[some (.ref r),some (.ref B),o2]/\d=w.length-j'/\j<=j'/\fq C r dx B w H e0 l Hx j' e fs us/\aA w j'=e.cps++(cg fs++l),⟨w.length-j,o2,j,e,fs,us,U,U,Rz _,S,aN⟩,fun d σ Hy z=>?_⟩
     obtain⟨o2,j',e,fs,us,rfl,rfl,jj,S,aN⟩:=z
     have ul:=Paired.length S.pr
     show⟨_,U,r,dx,_,U,S.rd,U,r,dx,w,j',U,S.rd,S.jl,hw,YK,fun t0 tV=>?_⟩
     have Fm:=af tV (.tup [.str "!",.str "{"])
     have F3:(upd Hy t0 (.tup [.str "!",.str "{"])) t0=some (.tup [.str "!",.str "{"]):=ae
     generalize upd Hy t0 (.tup [.str "!",.str "{"])=Fv at Fm F3 ⊢
     replace S:=S.same Fm
     show⟨t0,_,U,.inr (bS.of F3),U,U,_,U,?_⟩
     rcases S.eg.cases with iG|⟨a,rfl,ga⟩|⟨a,b,rfl,ga,gb⟩
     . obtain⟨c,r',hc,OV,hd2⟩:=mj iG S.eg (cg fs++l)
       have h1:(aA w j').take 1=[c]:=by rw[aN,hc];rfl
       rw[h1,rB,gv OV,gv hd2]
       show bc U ?_
       show kR _ _ (aq fun Rk kR=>?_)
       show⟨_,U,r,dx,w,j',U,S.rd,S.jl,vT,.inl ⟨e,cg fs++l,iG,S.eg,aN,lz st,fun v Ha ka ra ev=>?_⟩⟩
       have JM:0<e.cps.length:=by
         obtain⟨c1,r1,h1,h2⟩:=mj iG S.eg []
         rw[RY]at h1
         rw[h1]
         show S8 _
       obtain⟨oN,lL⟩:=dy aN S.jl
       show ak (kR _ _ ?_)
       show aw [some (.ref r),some (.ref B),some v] U ?_
       have SA:fq C r dx B w H e0 l Ha (j'+e.cps.length) e fs us:=⟨ra,lL,by have:=S.fl;lia,ka _ _ S.bg Br,Paired.imp (fun f u z=>gu.keep (Kp.rd ka S.rd) z) S.pr,S.fg,S.eg,S.pl,S.kp.trans ka⟩
       obtain⟨j0,N7⟩ : ∃j0,j0=j:=⟨_,rfl⟩
       show aq fun Rk kR=>?_
       show⟨fun(d:Nat) (σ:L2.St) (Hx:Hp)=>∃(v:V) (j:Nat) (e:TW.E) (fs:List Fc) (us:List V),σ=[some (.ref r),some (.ref B),some v]/\d=fs.length/\fq C r dx B w H e0 l Hx j e fs us/\aA w j=cg fs++l/\cJ Hx v e/\j0<j,⟨fs.length,v,_,e,fs,us,U,U,SA,oN,ev,by lia⟩,fun d σ Hz z=>?_⟩
       obtain⟨v,j2,e,fs,us,rfl,rfl,S,aN,ev,MI⟩:=z
       have ul:=Paired.length S.pr
       have lO:us.reverse.length=fs.length:=by rw[TV,← ul]
       show⟨_,U,B,_,U,.inl (aH.of S.bg),_,_,U,U,_,U,?_⟩
       match fs,us,S,aN,ul,lO with
       | [],[],S,aN,ul,lO=>
         show bc (by left) (cb ?_)
         show kR _ _ (aq fun Rk kR=>?_)
         show⟨_,U,B,_,U,.inl (aH.of S.bg),U,_,U,?_⟩
         show b6 ?_
         have e1:e=e0:=S.pl
         have hj:j2=i+e0.cps.length:=by
           have h1:=dO w j2
           have h2:=dO w i
           rw[aN]at h1
           rw[hl,Rx]at h2
           have h1:l.length=w.length-j2:=h1
           have:=S.jl
           lia
         show⟨_,U,q v Hz S.kp (by rw[← hj];show S.rd) (by rw[← e1];show ev)⟩
       | .N::fs,u::us,S,aN,ul,lO=>
         obtain⟨pa,rfl,CJ⟩ : gu Hz .N u:=by cases S.pr with|cons h _=>show h
         have Ak:Paired (gu Hz) fs us:=by cases S.pr with|cons _ h=>show h
         have bg:=S.bg
         rw[Sk]at bg
         rw[Sk]
         show aG (fun t=>?_) (fun z=>au (hW (by rw[Rx,Sj];lia)) z)
         show⟨_,U,_,U,?_⟩
         show cH bg (dB _ _) ?_
         show⟨U,_,U,?_⟩
         show aG (fun t=>?_) (fun z=>au U z)
         show⟨fun σ' H'=>∃d',d'<fs.length+1/\(fun(d:Nat) (σ:L2.St) (Hx:Hp)=>∃(v:V) (j:Nat) (e:TW.E) (fs:List Fc) (us:List V),σ=[some (.ref r),some (.ref B),some v]/\d=fs.length/\fq C r dx B w H e0 l Hx j e fs us/\aA w j=cg fs++l/\cJ Hx v e/\j0<j) d' σ' H',fun σ' H' z=>z,?_⟩
         show aq fun uU kR2=>?_
         show⟨_,U,_,U,?_⟩
         show cH bg (dB _ _) ?_
         show⟨YJ,fun t1 zj=>?_⟩
         have st1:=af zj (.tup [.str "not"])
         have A5:(upd Hz t1 (.tup [.str "not"])) t1=some (.tup [.str "not"]):=ae
         generalize upd Hz t1 (.tup [.str "not"])=Hw at st1 A5 ⊢
         have S1:=S.same st1
         show⟨true,RB.tup (bS.of (st1 _ _ CJ)) (bS.of A5) rfl (fun j x y hx hy=>?_),_,U,bc rfl ?_⟩
         . match j,hx,hy with
           | 0,hx,hy=>cases hx;cases hy;show ET.refl (.inl rfl)
         show kR2 _ _ ?_
         have jf:=st1 _ _ bg
         show⟨_,U,.inl ⟨U,_,aH.of jf⟩,B,_,_,U,U,jf,kC _ _,_,U,YJ,fun q1 lF=>?_⟩
         rw[U2]at lF ⊢
         have yB:TK Hw (upd Hw B (.lst us.reverse)):=bC jf (fun t z=>nomatch z)
         have Bv:(upd Hw B (.lst us.reverse)) r=some (bK C dx w j2):=by rw[ah Br.symm];show S1.rd
         have AY:(upd Hw B (.lst us.reverse)) B=some (.lst us.reverse):=ae
         have rF:Kp r H (upd Hw B (.lst us.reverse)):=fun b o hb nb=>by rw[ah (ag hb hB)];show S1.kp b o hb nb
         generalize upd Hw B (.lst us.reverse)=H4 at yB Bv AY rF lF ⊢
         have s5:=af lF (.tup [v])
         have g5:(upd H4 q1 (.tup [v])) q1=some (.tup [v]):=ae
         generalize upd H4 q1 (.tup [v])=H5 at s5 g5 ⊢
         have tk5:=((ai.tk st1).trans yB).trans (ai.tk s5)
         show⟨pa,q1,_,_,U,U,bS.of (tk5 _ _ CJ),bS.of g5,(fun z=>nomatch z),YK,(fun z=>nomatch z),fun t p hp=>?_⟩
         have s6:=af hp (.tup [.str "not",v])
         have og:=tk5.trans (ai.tk s6)
         show ak ?_
         show⟨fs.length,Tq _,.ref p,j2,.nt e,fs,us,U,U,⟨s6 _ _ (s5 _ _ Bv),S.jl,by have:fs.length+1<=j2:=S.fl;lia,s6 _ _ (s5 _ _ AY),Paired.imp (fun f u z=>gu.keep og z) Ak,fun f hf=>S.fg f (RC _ hf),⟨S.eg.is,S.eg.ok⟩,S.pl,(rF.same s5).same s6⟩,aN,⟨v,⟨p,U,ae⟩,ev.keep og⟩,MI⟩
       | .R a::fs,u::us,S,aN,ul,lO=>
         obtain⟨va,⟨pa,rfl,CJ⟩,ea⟩ : gu Hz (.R a) u:=by cases S.pr with|cons h _=>show h
         have Ak:Paired (gu Hz) fs us:=by cases S.pr with|cons _ h=>show h
         have tJ:dW a:=S.fg _ Ru
         have bg:=S.bg
         rw[Sk]at bg
         rw[Sk]
         show aG (fun t=>?_) (fun z=>au (hW (by rw[Rx,Sj];lia)) z)
         show⟨_,U,_,U,?_⟩
         show cH bg (dB _ _) ?_
         show⟨U,_,U,?_⟩
         show aG (fun t=>?_) (fun z=>au U z)
         show⟨fun σ' H'=>∃d',d'<fs.length+1/\(fun(d:Nat) (σ:L2.St) (Hx:Hp)=>∃(v:V) (j:Nat) (e:TW.E) (fs:List Fc) (us:List V),σ=[some (.ref r),some (.ref B),some v]/\d=fs.length/\fq C r dx B w H e0 l Hx j e fs us/\aA w j=cg fs++l/\cJ Hx v e/\j0<j) d' σ' H',fun σ' H' z=>z,?_⟩
         show aq fun uU kR2=>?_
         have aN:aA w j2=125::(cg fs++l):=aN
         obtain⟨p7,pZ⟩:=bV aN
         show⟨_,U,_,U,?_⟩
         show cH bg (dB _ _) ?_
         show⟨YJ,fun t1 zj=>?_⟩
         have st1:=af zj (.tup [.str "not"])
         have A5:(upd Hz t1 (.tup [.str "not"])) t1=some (.tup [.str "not"]):=ae
         generalize upd Hz t1 (.tup [.str "not"])=Hw at st1 A5 ⊢
         have S1:=S.same st1
         show⟨false,⟨pa,t1,_,_,U,U,.inr (.inr ⟨fun t=>false,bS.of (st1 _ _ CJ),bS.of A5,(fun j x y hx hy=>?_),U⟩)⟩,_,U,b6 ?_⟩
         . match j,hx,hy with
           | 0,hx,hy=>cases hx;cases hy;show EB.flat (x:=.str "both") (y:=.str "not") rfl rfl
         show⟨_,U,r,dx,_,U,S1.rd,U,r,dx,w,j2,125,_,congrArg (fun z=>[V.ref r,V.str z]) Eh,S1.rd,S1.jl,hw,aN,?_⟩
         have NR:=st1 _ _ bg
         have sF:TK Hw (upd Hw r (bK C dx w (j2+1))):=bC S1.rd (fun t z=>nomatch z)
         have jf:(upd Hw r (bK C dx w (j2+1))) B=some (.lst (us.reverse++[.ref pa])):=by rw[ah Br];show NR
         have pC:(upd Hw r (bK C dx w (j2+1))) r=some (bK C dx w (j2+1)):=ae
         have kp1:Kp r H (upd Hw r (bK C dx w (j2+1))):=S1.kp.self
         generalize upd Hw r (bK C dx w (j2+1))=H3 at sF jf pC kp1 ⊢
         show kR2 _ _ ?_
         show⟨_,U,.inl ⟨U,_,aH.of jf⟩,B,_,_,U,U,jf,kC _ _,_,U,YJ,fun q1 lF=>?_⟩
         rw[U2]at lF ⊢
         have yB:TK H3 (upd H3 B (.lst us.reverse)):=bC jf (fun t z=>nomatch z)
         have Bv:(upd H3 B (.lst us.reverse)) r=some (bK C dx w (j2+1)):=by rw[ah Br.symm];show pC
         have AY:(upd H3 B (.lst us.reverse)) B=some (.lst us.reverse):=ae
         have rF:Kp r H (upd H3 B (.lst us.reverse)):=fun b o hb nb=>by rw[ah (ag hb hB)];show kp1 b o hb nb
         generalize upd H3 B (.lst us.reverse)=H4 at yB Bv AY rF lF ⊢
         have s5:=af lF (.tup [v])
         have g5:(upd H4 q1 (.tup [v])) q1=some (.tup [v]):=ae
         generalize upd H4 q1 (.tup [v])=H5 at s5 g5 ⊢
         have tk5:=(((ai.tk st1).trans sF).trans yB).trans (ai.tk s5)
         show⟨pa,q1,_,_,U,U,bS.of (tk5 _ _ CJ),bS.of g5,(fun z=>nomatch z),YL,(fun z=>nomatch z),fun t p hp=>?_⟩
         have s6:=af hp (.tup [.str "both",va,v])
         have og:=tk5.trans (ai.tk s6)
         show ak ?_
         show⟨fs.length,Tq _,.ref p,j2+1,.two .both a e,fs,us,U,U,⟨s6 _ _ (s5 _ _ Bv),by lia,by have:fs.length+1<=j2:=S.fl;lia,s6 _ _ (s5 _ _ AY),Paired.imp (fun f u z=>gu.keep og z) Ak,fun f hf=>S.fg f (RC _ hf),⟨⟨tJ.is,S.eg.is⟩,tJ.ok,S.eg.ok⟩,S.pl,(rF.same s5).same s6⟩,p7,⟨va,v,⟨p,U,ae⟩,ea.keep og,ev.keep og⟩,by lia⟩
       | .L8 b::fs,u::us,S,aN,ul,lO=>
         have hu:u=.bI:=by cases S.pr with|cons h _=>show h
         have Ak:Paired (gu Hz) fs us:=by cases S.pr with|cons _ h=>show h
         have tJ:dW b:=S.fg _ Ru
         have bg:=S.bg
         rw[Sk]at bg
         rw[Sk]
         show aG (fun t=>?_) (fun z=>au (hW (by rw[Rx,Sj];lia)) z)
         show⟨_,U,_,U,?_⟩
         show cH bg (dB _ _) ?_
         show⟨U,_,U,?_⟩
         rw[hu]
         show bc (by left) ?_
         show kR _ _ (aq fun Rk kR=>?_)
         rw[hu]at bg
         show⟨_,U,B,_,U,.inl (aH.of bg),U,_,U,?_⟩
         show bc (gv (fun z=>by injection z with z;rw[Rx,Sj]at z;lia)) ?_
         show kR _ _ ?_
         have aN:aA w j2=38::(b.cps++(125::cg fs)++l):=by rw[aN];simp[cg]
         obtain⟨p7,pZ⟩:=bV aN
         show aq fun Rk kR=>?_
         show⟨_,U,r,dx,_,U,S.rd,U,r,dx,w,j2,38,_,congrArg (fun z=>[V.ref r,V.str z]) Ce,S.rd,S.jl,hw,aN,?_⟩
         have sF:TK Hz (upd Hz r (bK C dx w (j2+1))):=bC S.rd (fun t z=>nomatch z)
         have jf:(upd Hz r (bK C dx w (j2+1))) B=some (.lst (us.reverse++[.bI])):=by rw[ah Br];show bg
         have pC:(upd Hz r (bK C dx w (j2+1))) r=some (bK C dx w (j2+1)):=ae
         have kp1:Kp r H (upd Hz r (bK C dx w (j2+1))):=S.kp.self
         generalize upd Hz r (bK C dx w (j2+1))=H3 at sF jf pC kp1 ⊢
         show kR _ _ ?_
         show⟨_,U,YK,fun q1 lF=>?_⟩
         have s5:=af lF (.tup [.str "both",v])
         have g5:(upd H3 q1 (.tup [.str "both",v])) q1=some (.tup [.str "both",v]):=ae
         generalize upd H3 q1 (.tup [.str "both",v])=H5 at s5 g5 ⊢
         have FJ:=s5 _ _ jf
         show⟨_,U,_,U,B,_,_,_,U,U,FJ,oP _ _,?_⟩
         rw[pf]
         have og:TK H5 (upd H5 B (.lst (us.reverse++[.ref q1]))):=bC FJ (fun t z=>nomatch z)
         have Ei:(upd H5 B (.lst (us.reverse++[.ref q1]))) r=some (bK C dx w (j2+1)):=by rw[ah Br.symm];show s5 _ _ pC
         have FK:(upd H5 B (.lst (us.reverse++[.ref q1]))) B=some (.lst (us.reverse++[.ref q1])):=ae
         have GP:Kp r H (upd H5 B (.lst (us.reverse++[.ref q1]))):=fun b o hb nb=>by rw[ah (ag hb hB)];show s5 _ _ (kp1 b o hb nb)
         generalize upd H5 B (.lst (us.reverse++[.ref q1]))=H6 at og Ei FK GP ⊢
         have tk:=(sF.trans (ai.tk s5)).trans og
         show⟨w.length-(j2+1),by lia,some v,j2+1,b,.R e::fs,.ref q1::us,U,U,⟨Ei,by lia,by have:fs.length+1<=j2:=S.fl;change fs.length+1<=j2+1;lia,?_,?_,?_,tJ,S.pl,GP⟩,?_⟩
         . rw[Sk]
           show FK
         . show .cons ⟨v,⟨q1,U,og _ _ g5⟩,ev.keep tk⟩ (Paired.imp (fun f u z=>gu.keep tk z) Ak)
         . intro f hf
           rcases cv hf with z|z
           . rw[z];show S.eg
           . show S.fg f (RC _ z)
         . rw[p7,SK]
           rfl
     . have aN:aA w j'=33::(a.cps++(cg (.N::fs)++l)):=by
         rw[aN,vk]
         simp[cg]
       obtain⟨p7,pZ⟩:=bV aN
       have h1:(aA w j').take 1=[33]:=by rw[aN];rfl
       rw[h1,rB]
       show b6 ⟨fun σ' H'=>∃d',d'<w.length-j'/\(fun(d:Nat) (σ:L2.St) (Hx:Hp)=>∃(o2:Option V) (j':Nat) (e:TW.E) (fs:List Fc) (us:List V),σ=[some (.ref r),some (.ref B),o2]/\d=w.length-j'/\j<=j'/\fq C r dx B w H e0 l Hx j' e fs us/\aA w j'=e.cps++(cg fs++l)) d' σ' H',fun σ' H' z=>z,?_⟩
       show aq fun Rk kR=>?_
       show⟨_,U,.inl ⟨U,_,aH.of S.bg⟩,_,U,r,dx,_,U,S.rd,U,r,dx,w,j',U,S.rd,S.jl,hw,U,_,U,?_⟩
       rw[h1]
       show aG (fun t=>?_) (fun z=>au (by rw[qi];show hW rfl) z)
       show⟨YJ,fun t1 zj=>?_⟩
       have st1:=af zj (.tup [.str "not"])
       have A5:(upd Fv t1 (.tup [.str "not"])) t1=some (.tup [.str "not"]):=ae
       generalize upd Fv t1 (.tup [.str "not"])=H3 at st1 A5 ⊢
       have jf:=st1 _ _ S.bg
       have pC:=st1 _ _ S.rd
       have kp1:=S.kp.same st1
       show⟨B,_,_,U,U,jf,Tv (show _<=4000 by rw[TV];have:=S.fl;have:=S.jl;lia) (by left),?_⟩
       have tk3:TK H3 (upd H3 B (.lst (us.reverse++[V.ref t1]))):=bC jf (fun t z=>nomatch z)
       have Au:(upd H3 B (.lst (us.reverse++[V.ref t1]))) r=some (bK C dx w j'):=by rw[ah Br.symm];show pC
       have FI:(upd H3 B (.lst (us.reverse++[V.ref t1]))) B=some (.lst (us.reverse++[V.ref t1])):=ae
       have GO:Kp r H (upd H3 B (.lst (us.reverse++[V.ref t1]))):=fun b o hb nb=>by rw[ah (ag hb hB)];show kp1 b o hb nb
       show kR _ (upd H3 B (.lst (us.reverse++[V.ref t1]))) ?_
       generalize upd H3 B (.lst (us.reverse++[V.ref t1]))=H4 at tk3 Au FI GO ⊢
       show⟨_,U,r,C,dx,_,_,U,Au,R5.c,R5.p,U,_,_,U,U,dx,_,Au,(by change 2<1000;decide),?_⟩
       have Jr:TK H4 (upd H4 r (bK C dx w (j'+1))):=bC Au (fun t z=>nomatch z)
       have K0:Kp r H (upd H4 r (bK C dx w (j'+1))):=GO.self
       show⟨w.length-(j'+1),by lia,o2,j'+1,a,.N::fs,V.ref t1::us,U,U,by lia,⟨ae,by lia,by have:=S.fl;change fs.length+1<=j'+1;lia,by rw[Sk];show(ah Br).trans FI,.cons ⟨t1,U,Jr _ _ (tk3 _ _ A5)⟩ (Paired.imp (fun f u z=>gu.keep (((ai.tk st1).trans tk3).trans Jr) z) S.pr),fun f hf=>?_,ga,S.pl,K0⟩,p7⟩
       rcases cv hf with z|z
       . rw[z];show trivial
       . show S.fg f z
     . have aN:aA w j'=123::(a.cps++(cg (.L8 b::fs)++l)):=by
         rw[aN,ow]
         simp[cg]
       obtain⟨p7,pZ⟩:=bV aN
       have h1:(aA w j').take 1=[123]:=by rw[aN];rfl
       rw[h1,rB]
       show b6 ⟨fun σ' H'=>∃d',d'<w.length-j'/\(fun(d:Nat) (σ:L2.St) (Hx:Hp)=>∃(o2:Option V) (j':Nat) (e:TW.E) (fs:List Fc) (us:List V),σ=[some (.ref r),some (.ref B),o2]/\d=w.length-j'/\j<=j'/\fq C r dx B w H e0 l Hx j' e fs us/\aA w j'=e.cps++(cg fs++l)) d' σ' H',fun σ' H' z=>z,?_⟩
       show aq fun Rk kR=>?_
       show⟨_,U,.inl ⟨U,_,aH.of S.bg⟩,_,U,r,dx,_,U,S.rd,U,r,dx,w,j',U,S.rd,S.jl,hw,U,_,U,?_⟩
       rw[h1]
       show bc (gv (fun z=>by injection z with z;rw[qi]at z;have z:=gW z;cases z)) ?_
       obtain⟨H3,L7⟩ : ∃x,x=Fv:=⟨_,rfl⟩
       have jf:=S.bg
       have pC:=S.rd
       have kp1:=S.kp
       have st1:ai Fv H3:=by rw[L7];show fun t t z=>z
       rw[← L7]at jf pC kp1 ⊢
       show⟨B,_,_,U,U,jf,Tv (show _<=4000 by rw[TV];have:=S.fl;have:=S.jl;lia) (by left),?_⟩
       have tk3:TK H3 (upd H3 B (.lst (us.reverse++[V.bI]))):=bC jf (fun t z=>nomatch z)
       have Au:(upd H3 B (.lst (us.reverse++[V.bI]))) r=some (bK C dx w j'):=by rw[ah Br.symm];show pC
       have FI:(upd H3 B (.lst (us.reverse++[V.bI]))) B=some (.lst (us.reverse++[V.bI])):=ae
       have GO:Kp r H (upd H3 B (.lst (us.reverse++[V.bI]))):=fun b o hb nb=>by rw[ah (ag hb hB)];show kp1 b o hb nb
       show kR _ (upd H3 B (.lst (us.reverse++[V.bI]))) ?_
       generalize upd H3 B (.lst (us.reverse++[V.bI]))=H4 at tk3 Au FI GO ⊢
       show⟨_,U,r,C,dx,_,_,U,Au,R5.c,R5.p,U,_,_,U,U,dx,_,Au,(by change 2<1000;decide),?_⟩
       have Jr:TK H4 (upd H4 r (bK C dx w (j'+1))):=bC Au (fun t z=>nomatch z)
       have K0:Kp r H (upd H4 r (bK C dx w (j'+1))):=GO.self
       show⟨w.length-(j'+1),by lia,o2,j'+1,a,.L8 b::fs,V.bI::us,U,U,by lia,⟨ae,by lia,by have:=S.fl;change fs.length+1<=j'+1;lia,by rw[Sk];show(ah Br).trans FI,.cons rfl (Paired.imp (fun f u z=>gu.keep (((ai.tk st1).trans tk3).trans Jr) z) S.pr),fun f hf=>?_,ga,S.pl,K0⟩,p7⟩
       rcases cv hf with z|z
       . rw[z];show gb
       . show S.fg f z
   . show⟨fun(d:Nat) (σ:L2.St) (Hx:Hp)=>σ=[some (.ref r),some (.ref B),none]/\Hx r=some (bK C dx w i)/\Kp r H Hx,⟨0,U,by rw[ah Br.symm];show cW,(Kp.refl H).new hB⟩,fun d σ Hx z=>?_⟩
     obtain⟨rfl,rx,kx⟩:=z
     show⟨_,U,b6 ⟨fun σ' H'=>False,fun σ' H' z=>z.elim,?_⟩⟩
     show aq fun Rk kR=>?_
     show⟨fun(d:Nat) (σ:L2.St) (Hx:Hp)=>σ=[some (.ref r),some (.ref B),none]/\Hx r=some (bK C dx w i)/\Kp r H Hx,⟨0,U,rx,kx⟩,fun d σ Hy z=>?_⟩
     obtain⟨rfl,ry,ky⟩:=z
     show⟨_,U,r,dx,_,U,ry,U,r,dx,w,i,U,ry,hi,hw,YK,fun t0 tV=>?_⟩
     have Fm:=af tV (.tup [.str "!",.str "{"])
     have F3:(upd Hy t0 (.tup [.str "!",.str "{"])) t0=some (.tup [.str "!",.str "{"]):=ae
     generalize upd Hy t0 (.tup [.str "!",.str "{"])=Fv at Fm F3 ⊢
     show⟨t0,_,U,.inr (bS.of F3),U,U,_,U,?_⟩
     obtain⟨c,r',hc,hd⟩:=eJ (e:=.box "box" x) .box ⟨rfl,hx⟩ l
     have h1:(aA w i).take 1=[c]:=by
       have hl:aA w i=(TW.E.box "box" x).cps++l:=hl
       rw[hl,hc]
       rfl
     rw[h1,rB,gv (by lia),gv (by lia)]
     show bc U ?_
     show kR _ _ ?_
     show⟨_,U,r,dx,w,i,U,Fm _ _ ry,hi,vT,.inr ⟨x,l,hx,ny,hl,st,fun H' k'=>q _ ((ky.same Fm).trans k')⟩⟩
def pQ {C cNR:Addr}(s:Src K mg "read_condition" qy)(R5:lE K C)(m_len:mg "len"=none)(SI0:bN P w K mg base C "sign" ["self"] 1 (bW C))(DU0:bN P w K mg base C "due" ["self","sign"] 3 (lg C))(RT0:bQ P w K mg base "read_test" ["reader"] 7 (i5 C cNR)):bQ P w K mg base "read_condition" ["reader"] 8 (iZ C cNR):=
 let⟨f,fd,F,m⟩:=s
 ⟨f,fd,ui F R5 m_len SI0 DU0 RT0,F.kp,lG F fun z z z z z z z=>rfl,m⟩
def i6 (cNR:Addr):Sp:=fun vs H Q E=>(∃(d:Wd),vs=[.str d.kind,.str d.txt]/\d.G/\∀(v:V) (H':Hp),ai H H'->d.At H' v->Q v H')\/(∃x:Str,vs=[.str "condition",.str x]/\df x/\x≠"yes"/\∀H':Hp,ai H H'->E (.ref cNR) none H')
def uo {C cNR TE:Addr}{f:Addr}{fd:RZ}(F:cD K "read_word" "read_word" qE f fd)(R5:lE K C)(m_len:mg "len"=none)(cN:Xc K mg "NoRow" cNR (.ref TE::vE))(RD0:oi P w K mg base "Reader" C ["self","word"] 1 (i3 C))(NU0:bN P w K mg base C "number" ["self"] 3 (lh C))(NA0:bN P w K mg base C "name" ["self"] 3 (i4 C))(RS0:b7 P w K mg base "read_sum" ["reader"] 6 (lq C))(RC0:bQ P w K mg base "read_condition" ["reader"] 8 (iZ C cNR)):aY P w K mg base (eD P w base) 10 f fd ["kind","word"] (i6 cNR):=by
 show F.wU iX (fun vs H Q E h=>?_) (fun cdv A outer s H vs Q E hr h=>?_)
 . rcases h with⟨d,rfl,_⟩|⟨x,rfl,_⟩<;>rfl
 . have JE:=RD0.mono (show 1<=8 by left)
   have NU:=NU0.mono (show 3<=9 by left)
   have NA:=NA0.mono (show 3<=9 by left)
   have RS:=RS0.mono (show 6<=9 by left)
   have JD:=RC0.mono (show 8<=9 by left)
   show ig ⟨_,(Wv (Wy 2 iX.nd (L3.make JE hr U (L (Y 1) M)))
     (Wv (WB (Wx WL (Y 0) Wu) (Ww (Wy 3 iX.nd (W5 (Y 2) R5.c NA hr))) (Ww (WB (Wx WL (Y 0) Wu) (Ww (Wy 3 iX.nd (W5 (Y 2) R5.c NU hr))) (Ww (Wy 3 iX.nd (L3.MF (Wx WL (Y 0) Wu) (WA RS hr U (L (Y 2) M)) (Xd iV JD hr U (L (Y 2) M))))))))
     (Wv (WB (Wx Xn (Xr (Y 2)) (WJ L3.mL U m_len RG (L (Y 1) M))) (Ww (Xa cA cN U U (L Wu M))) WE)
     (Ww (WC (Y 3)))))),?_⟩
   show aq fun Rk kR=>?_
   rcases h with⟨d,rfl,hd,q⟩|⟨x,rfl,hx,ny,q⟩
   . have pY:=Wd.len hd
     show⟨_,U,fun r dx yx Kt O0=>?_⟩
     show⟨r,dx,d.txt,U,ae,U,?_⟩
     have s1:ai H (upd (upd (upd H dx (.own r)) r (.ins C dx [])) r (bK C dx d.txt 0)):=fun b o hb=>by
       rw[ah (ag hb yx),ah (ag hb yx),ah (ag hb Kt)]
       show hb
     have r1:(upd (upd (upd H dx (.own r)) r (.ins C dx [])) r (bK C dx d.txt 0)) r=some (bK C dx d.txt 0):=ae
     generalize upd (upd (upd H dx (.own r)) r (.ins C dx [])) r (bK C dx d.txt 0)=H1 at s1 r1 ⊢
     show ak (kR _ _ ?_)
     show aw [some (.str d.kind),some (.str d.txt),some (.ref r),none] U ?_
     show aq fun Rk kR=>?_
     have z0:=HZ d.txt
     have hw:d.txt.length<=sizeLine:=Ry pY (by left)
     match d,hd,q,pY,r1,z0,hw,kR with
     | .name x,hd,q,pY,r1,z0,hw,kR=>
       show⟨_,U,U,_,U,b6 ?_⟩
       show⟨_,U,r,dx,_,U,r1,U,r,dx,x,0,x,[],U,r1,Sd _,hw,hd,by rw[RY];show z0,(fun c hc=>nomatch hc),?_⟩
       show ak (kR _ _ ?_)
       show aw [some (.str (Wd.kind (.name x))),some (.str (Wd.txt (.name x))),some (.ref r),some (V.str x)] U ?_
       show aq fun Rk kR=>?_
       show⟨_,U,r,C,dx,_,_,U,ae,R5.c,R5.p,U,_,U,_,U,Ry pY (by left),U,_,U,?_⟩
       show bc ?_ ?_
       . rw[show(0+x.length:Nat)=x.length by lia];simp[Wd.txt]
       show kR _ _ ⟨_,U,q _ _ (fun b o hb=>by rw[ah (ag hb yx)];show s1 b o hb) rfl⟩
     | .num i,hd,q,pY,r1,z0,hw,kR=>
       show⟨_,U,U,_,U,cb ?_⟩
       show⟨_,U,U,_,U,b6 ?_⟩
       show⟨_,U,r,dx,_,U,r1,U,r,dx,_,0,i,[],U,r1,Sd _,hw,hd,by rw[RY];show z0,(fun c hc=>nomatch hc),?_⟩
       show ak (kR _ _ ?_)
       show aw [some (.str (Wd.kind (.num i))),some (.str (Wd.txt (.num i))),some (.ref r),some (V.int i)] U ?_
       show aq fun Rk kR=>?_
       show⟨_,U,r,C,dx,_,_,U,ae,R5.c,R5.p,U,_,U,_,U,Ry pY (by left),U,_,U,?_⟩
       show bc ?_ ?_
       . rw[show(0+(dU i).length:Nat)=(Rt (toString i)).length by rw[dU,bP];lia];simp[Wd.txt]
       show kR _ _ ⟨_,U,q _ _ (fun b o hb=>by rw[ah (ag hb yx)];show s1 b o hb) rfl⟩
     | .sum e,hd,q,pY,r1,z0,hw,kR=>
       show⟨_,U,U,_,U,cb ?_⟩
       show⟨_,U,U,_,U,cb ?_⟩
       show⟨_,U,U,_,U,b6 ?_⟩
       show⟨_,U,r,dx,_,0,e,[],U,r1,Sd _,pY,hd.1,by rw[RY];show z0,(fun c hc=>nomatch hc),fun v H2 k2 r2 ev=>?_⟩
       show ak (kR _ _ ?_)
       show aw [some (.str (Wd.kind (.sum e))),some (.str (Wd.txt (.sum e))),some (.ref r),some v] U ?_
       show aq fun Rk kR=>?_
       show⟨_,U,r,C,dx,_,_,U,r2,R5.c,R5.p,U,_,U,_,U,Ry pY (by left),U,_,U,?_⟩
       show bc ?_ ?_
       . rw[show(0+e.cps.length:Nat)=e.txt.length by unfold TW.E.cps;rw[bP];lia];simp[Wd.txt]
       show kR _ _ ⟨_,U,q _ _ (Kp.all s1 yx k2) ev⟩
     | .cond e,hd,q,pY,r1,z0,hw,kR=>
       show⟨_,U,U,_,U,cb ?_⟩
       show⟨_,U,U,_,U,cb ?_⟩
       show⟨_,U,U,_,U,cb ?_⟩
       show⟨_,U,r,dx,_,0,U,r1,Sd _,pY,.inl ⟨e,[],hd.1,by rw[RY];show z0,(fun c hc=>nomatch hc),fun v H2 k2 r2 ev=>?_⟩⟩
       show ak (kR _ _ ?_)
       show aw [some (.str (Wd.kind (.cond e))),some (.str (Wd.txt (.cond e))),some (.ref r),some v] U ?_
       show aq fun Rk kR=>?_
       show⟨_,U,r,C,dx,_,_,U,r2,R5.c,R5.p,U,_,U,_,U,Ry pY (by left),U,_,U,?_⟩
       show bc ?_ ?_
       . rw[show(0+e.cps.length:Nat)=e.txt.length by unfold TW.E.cps;rw[bP];lia];simp[Wd.txt]
       show kR _ _ ⟨_,U,q _ _ (Kp.all s1 yx k2) ev⟩
   . show⟨_,U,fun r dx yx Kt O0=>?_⟩
     show⟨r,dx,x,U,ae,U,?_⟩
     have s1:ai H (upd (upd (upd H dx (.own r)) r (.ins C dx [])) r (bK C dx x 0)):=fun b o hb=>by
       rw[ah (ag hb yx),ah (ag hb yx),ah (ag hb Kt)]
       show hb
     have r1:(upd (upd (upd H dx (.own r)) r (.ins C dx [])) r (bK C dx x 0)) r=some (bK C dx x 0):=ae
     generalize upd (upd (upd H dx (.own r)) r (.ins C dx [])) r (bK C dx x 0)=H1 at s1 r1 ⊢
     show ak (kR _ _ ?_)
     show aw [some (.str "condition"),some (.str x),some (.ref r),none] U ?_
     show aq fun Rk kR=>?_
     show⟨_,U,U,_,U,cb ?_⟩
     show⟨_,U,U,_,U,cb ?_⟩
     show⟨_,U,U,_,U,cb ?_⟩
     show⟨_,U,r,dx,x,0,U,r1,Sd _,Ry hx.l8 (by left),.inr ⟨x,[],hx,ny,by rw[RY];rfl,(fun c hc=>nomatch hc),fun H' k'=>q _ (Kp.all s1 yx k')⟩⟩
def pU {C cNR TE:Addr}(s:Src K mg "read_word" qE)(R5:lE K C)(m_len:mg "len"=none)(cN:Xc K mg "NoRow" cNR (.ref TE::vE))(RD0:oi P w K mg base "Reader" C ["self","word"] 1 (i3 C))(NU0:bN P w K mg base C "number" ["self"] 3 (lh C))(NA0:bN P w K mg base C "name" ["self"] 3 (i4 C))(RS0:b7 P w K mg base "read_sum" ["reader"] 6 (lq C))(RC0:bQ P w K mg base "read_condition" ["reader"] 8 (iZ C cNR)):bQ P w K mg base "read_word" ["kind","word"] 10 (i6 cNR):=
 let⟨f,fd,F,m⟩:=s
 ⟨f,fd,uo F R5 m_len cN RD0 NU0 NA0 RS0 RC0,F.kp,lH F fun z z z z z z z z=>rfl,m⟩
abbrev dY:List Str:=["say q","","end 0","test q 0 0"]
def jW (cNR:Addr):Sp:=fun vs H Q E=>(∃(head:Str) (ds:List Wd),vs=[.str (du head ds)]/\iC head ds/\∀(v:V) (H':Hp),ai H H'->yI H' v head ds->Q v H')\/(∃x:Str,vs=[.str x]/\x∈dY/\∀H':Hp,ai H H'->E (.ref cNR) none H')
def yh:S7 "say q" " "=(["say","q"]:List Str):=by right
def BM:S7 "" " "=([""]:List Str):=by right
def yg:S7 "end 0" " "=(["end","0"]:List Str):=by right
def sd:S7 "test q 0 0" " "=(["test","q","0","0"]:List Str):=by right
def GU:df "q":=⟨by left,by left,by right⟩
def w6 {aF cNR TE:Addr}{f:Addr}{fd:RZ}(F:cD K "read_row" "read_row" rS f fd)(m_len:mg "len"=none)(m_zip:mg "zip"=none)(m_tuple:mg "tuple"=none)(hF:mg "FORMS"=some (.ref aF))(dF:fV w K aF)(dF0:∃kvs,eG w K aF kvs/\kvs.lookup ("":Str)=none)(cN:Xc K mg "NoRow" cNR (.ref TE::vE))(RWd:bQ P w K mg base "read_word" ["kind","word"] 10 (i6 cNR)):aY P w K mg base (eD P w base) 11 f fd ["row"] (jW cNR):=by
 show F.wU qF (fun vs H Q E h=>?_) (fun cdv A outer s H vs Q E hr h=>?_)
 . rcases h with⟨d,e,rfl,_⟩|⟨x,rfl,_⟩<;>rfl
 . show ig ⟨_,(Wv (Wy 1 qF.nd (L3.yj (Y 0) (L Wu M)))
     (Wv (Wy 2 qF.nd (L3.PY (WU (w:=.ref aF) U hF rfl) (Wz WK (Y 1) Ws)))
     (Wv (WB (WV (Xq (Wx L3.GZ (Y 2) XD) (XA (Wx Xn (WJ WO U m_len RG (L (Y 1) M)) (Wt WN (WJ WO U m_len RG (L (Y 2) M)) Ws))))) (Ww (Xa cA cN U U (L Wu M))) WE)
     (Ww (WC (Wt L3.ql (WH (L (Wz WK (Y 1) Ws) M)) (W4 L3.yN U m_tuple (by right) (L (L3.P1 [none,none] ["kind","word"] (oa rS) U (L3.PL true false U m_zip (L (Y 2) (L (L3.EC (Y 1) Ws) M))) (fun y y y y y hp=>⟨(Xb 2 (WQ (WI 0 (jr ["kind","word"])) (WQ (WI 1 (jr ["kind","word"])) W2))),WZ,(Xd hp RWd hr U (L (Y 0) (L (Y 1) M)))⟩)) M)))))))),?_⟩
   show aq fun Rk kR=>?_
   rcases h with⟨head,ds,rfl,rg,q⟩|⟨x,rfl,hx,q⟩
   . obtain⟨d3,rl⟩:=rg.len
     obtain⟨tF,kvs,kd,lk,sq⟩:=dF _ rg.fr
     show⟨_,U,U,_,_,U,U,U,Ry (show _<=20000 by lia) (by left),?_,fun l1 iK=>?_⟩
     . rw[rg.split,RE,Rn]
       show Ry (show _<=20000 by lia) (by left)
     rw[rg.split]
     obtain⟨H1,s1,g1,zz⟩:=aZ iK (.lst ((head::ds.map Wd.txt).map V.str))
     rw[zz];clear zz
     show ak (kR _ _ ?_)
     show aw [some (.str (du head ds)),some (.ref l1),none] U ?_
     show aq fun Rk kR=>?_
     show⟨aF,kvs,U,kd,_,U,?_⟩
     show cH g1 iG ?_
     show⟨head,U,?_⟩
     rw[lk]
     show ak (kR _ _ ?_)
     show aw [some (.str (du head ds)),some (.ref l1),some (.ref tF)] U ?_
     show aq fun Rk kR=>?_
     show⟨_,U,U,_,U,bc rfl ?_⟩
     show⟨_,U,l1,_,U,.inl (aH.of g1),_,U,tF,_,U,.inr (sq _),_,_,U,U,U,_,U,?_⟩
     show bc ?_ ?_
     . simp
     show kR _ _ ?_
     show⟨_,U,?_⟩
     show cH g1 iG ?_
     show⟨YJ,fun t1 zj=>?_⟩
     obtain⟨H2,s2,g2,zz⟩:=aZ zj (.tup [.str head])
     rw[zz];clear zz
     show⟨_,U,_,U,_,U,l1,_,U,aH.of (s2 _ _ g1),fun l2 pX=>?_⟩
     rw[R3,oz]
     obtain⟨H3,s3,g3,zz⟩:=aZ pX (.lst ((ds.map Wd.txt).map V.str))
     rw[zz];clear zz
     show⟨tF,l2,U,⟨_,sq _⟩,⟨_,aH.of g3⟩,fun D hD=>?_⟩
     have hlen:((ds.map Wd.kind).map V.str).length=((ds.map Wd.txt).map V.str).length:=by simp
     show l7 (xs:=(ds.map Wd.kind).map V.str) (ys:=(ds.map Wd.txt).map V.str) hlen (fun i Hx=>ai H3 Hx/\∃vals,Hx D=some (.lst vals)/\Paired (fun u (d:Wd)=>d.At Hx u) vals (ds.take i)) ⟨af hD _,[],ae,.nil⟩ (fun i Hx y z=>⟨sq _,aH.of (z.1 _ _ g3)⟩) (fun i k0 v0 pp Hx CD Jj z md=>?_) (fun Hx z=>?_)
     . obtain⟨sx,vals,gD,pv⟩:=z
       obtain⟨k,hk,rfl⟩:=cX CD
       obtain⟨d,hd,rfl⟩:=cX hk
       have eE:i<((ds.map Wd.kind).map V.str).length:=(cy CD)
       have O4:i<ds.length:=by simpa using eE
       have Oa:v0=.str d.txt:=by
         rw[Sb,Sb,hd]at Jj
         show(Sa Jj).symm
       subst Oa
       have sp:=af md (.tup [.str d.kind,.str d.txt])
       show yC ae ?_
       show de (A:=fun H5=>dJ _ D _ H5 _) ?_
       show⟨_,U,_,U,.inl ⟨d,U,rg.g d (RL hd),fun v H' s' av=>?_⟩⟩
       have sa:=aa sp s'
       have lv:=Paired.length pv
       rw[R8]at lv
       have Nl:TK H' (upd H' D (.lst (vals++[v]))):=bC (sa _ _ gD) (fun y z=>nomatch z)
       show⟨_,sa _ _ gD,aW (by lia),bq (Pv:=fun i Hx=>ai H3 Hx/\∃vals,Hx D=some (.lst vals)/\Paired (fun u (d:Wd)=>d.At Hx u) vals (ds.take i)) (by repeat' constructor) eE ⟨bo (aa sx sa) hD,vals++[v],ae,?_⟩⟩
       rw[R9,hd]
       show(Paired.imp (fun u d z=>(z.keep (ai.tk sa)).keep Nl) pv).snoc (av.keep Nl)
     obtain⟨sx,vals,gD,pv⟩:=z
     rw[show((ds.map Wd.kind).map V.str).length=ds.length by simp,Sf]at pv
     have lv:=Paired.length pv
     show⟨D,_,U,aH.of gD,fun t2 Pt=>?_⟩
     have s4:=af Pt (.tup vals)
     have g4:(upd Hx t2 (.tup vals)) t2=some (.tup vals):=ae
     generalize upd Hx t2 (.tup vals)=H5 at s4 g4 ⊢
     have Il:=aa (aa (aa (aa s1 s2) s3) sx) s4
     show⟨t1,t2,_,_,U,U,bS.of (s4 _ _ (sx _ _ (s3 _ _ g2))),bS.of g4,(fun z=>nomatch z),Ry (show _<=1000 by rw[Sj];lia) (by left),(fun z=>?_),fun y p hp=>?_⟩
     . show q _ _ Il ⟨t1,[],U,s4 _ _ (sx _ _ (s3 _ _ g2)),?_⟩
       rw[z]at pv
       show Paired.imp (fun y y z=>z.keep (ai.tk s4)) pv
     . show q _ _ (az Il hp) ⟨p,vals,U,ae,Paired.imp (fun y y z=>(z.keep (ai.tk s4)).keep (ai.tk (af hp _))) pv⟩
   . simp only[Sh,R4,or_false]at hx
     rcases hx with rfl|rfl|rfl|rfl
     . show⟨_,U,U,_,_,U,U,U,(by right),?_,fun l1 iK=>?_⟩
       . rw[yh]
         show(by left:2<=sizeLine)
       rw[yh]
       obtain⟨H1,s1,g1,zz⟩:=aZ iK (.lst ((["say","q"]:List Str).map V.str))
       rw[zz];clear zz
       show ak (kR _ _ ?_)
       show aw [some (.str "say q"),some (.ref l1),none] U ?_
       show aq fun Rk kR=>?_
       obtain⟨tF,kvs,kd,lk,sq⟩:=dF ("say",["sum","number"]) (by left)
       show⟨aF,kvs,U,kd,_,U,?_⟩
       show cH g1 iG ?_
       show⟨"say",U,?_⟩
       rw[lk]
       show ak (kR _ _ ?_)
       show aw [some (.str "say q"),some (.ref l1),some (.ref tF)] U ?_
       show aq fun Rk kR=>?_
       show⟨_,U,U,_,U,bc rfl ?_⟩
       show⟨_,U,l1,_,U,.inl (aH.of g1),_,U,tF,_,U,.inr (sq _),_,_,U,U,U,_,U,?_⟩
       show b6 ?_
       show⟨_,U,q _ s1⟩
     . show⟨_,U,U,_,_,U,U,U,(by right),?_,fun l1 iK=>?_⟩
       . rw[BM]
         show(by left:1<=sizeLine)
       rw[BM]
       obtain⟨H1,s1,g1,zz⟩:=aZ iK (.lst (([""]:List Str).map V.str))
       rw[zz];clear zz
       show ak (kR _ _ ?_)
       show aw [some (.str ""),some (.ref l1),none] U ?_
       show aq fun Rk kR=>?_
       obtain⟨kvs,kd,lk⟩:=dF0
       show⟨aF,kvs,U,kd,_,U,?_⟩
       show cH g1 iG ?_
       show⟨"",U,?_⟩
       rw[lk]
       show ak (kR _ _ ?_)
       show aw [some (.str ""),some (.ref l1),some .bI] U ?_
       show aq fun Rk kR=>?_
       show⟨_,U,U,_,U,b6 (b6 ?_)⟩
       show⟨_,U,q _ s1⟩
     . show⟨_,U,U,_,_,U,U,U,(by right),?_,fun l1 iK=>?_⟩
       . rw[yg]
         show(by left:2<=sizeLine)
       rw[yg]
       obtain⟨H1,s1,g1,zz⟩:=aZ iK (.lst ((["end","0"]:List Str).map V.str))
       rw[zz];clear zz
       show ak (kR _ _ ?_)
       show aw [some (.str "end 0"),some (.ref l1),none] U ?_
       show aq fun Rk kR=>?_
       obtain⟨tF,kvs,kd,lk,sq⟩:=dF ("end",[]) (by left)
       show⟨aF,kvs,U,kd,_,U,?_⟩
       show cH g1 iG ?_
       show⟨"end",U,?_⟩
       rw[lk]
       show ak (kR _ _ ?_)
       show aw [some (.str "end 0"),some (.ref l1),some (.ref tF)] U ?_
       show aq fun Rk kR=>?_
       show⟨_,U,U,_,U,bc rfl ?_⟩
       show⟨_,U,l1,_,U,.inl (aH.of g1),_,U,tF,_,U,.inr (sq _),_,_,U,U,U,_,U,?_⟩
       show b6 ?_
       show⟨_,U,q _ s1⟩
     . show⟨_,U,U,_,_,U,U,U,(by right),?_,fun l1 iK=>?_⟩
       . rw[sd]
         show(by left:4<=sizeLine)
       rw[sd]
       obtain⟨H1,s1,g1,zz⟩:=aZ iK (.lst ((["test","q","0","0"]:List Str).map V.str))
       rw[zz];clear zz
       show ak (kR _ _ ?_)
       show aw [some (.str "test q 0 0"),some (.ref l1),none] U ?_
       show aq fun Rk kR=>?_
       obtain⟨tF,kvs,kd,lk,sq⟩:=dF ("test",["condition","number","number"]) (by left)
       show⟨aF,kvs,U,kd,_,U,?_⟩
       show cH g1 iG ?_
       show⟨"test",U,?_⟩
       rw[lk]
       show ak (kR _ _ ?_)
       show aw [some (.str "test q 0 0"),some (.ref l1),some (.ref tF)] U ?_
       show aq fun Rk kR=>?_
       show⟨_,U,U,_,U,bc rfl ?_⟩
       show⟨_,U,l1,_,U,.inl (aH.of g1),_,U,tF,_,U,.inr (sq _),_,_,U,U,U,_,U,?_⟩
       show bc (by left) ?_
       show kR _ _ ?_
       show⟨_,U,?_⟩
       show cH g1 iG ?_
       show⟨YJ,fun t1 zj=>?_⟩
       obtain⟨H2,s2,g2,zz⟩:=aZ zj (.tup [.str "test"])
       rw[zz];clear zz
       show⟨_,U,_,U,_,U,l1,_,U,aH.of (s2 _ _ g1),fun l2 pX=>?_⟩
       rw[R3,oz]
       obtain⟨H3,s3,g3,zz⟩:=aZ pX (.lst ((["q","0","0"]:List Str).map V.str))
       rw[zz];clear zz
       show⟨tF,l2,U,⟨_,sq _⟩,⟨_,aH.of g3⟩,fun D hD=>?_⟩
       show l7 (xs:=(["condition","number","number"]:List Str).map V.str) (ys:=(["q","0","0"]:List Str).map V.str) rfl (fun i Hx=>ai H3 Hx/\i=0) ⟨af hD _,U⟩ (fun i Hx y z=>⟨sq _,aH.of (z.1 _ _ g3)⟩) (fun i k0 v0 pp Hx CD Jj z md=>?_) (fun Hx z=>au z.2 (by left))
       obtain⟨sx,rfl⟩:=z
       cases CD
       cases Jj
       have sp:=af md (.tup [.str "condition",.str "q"])
       show yC ae ?_
       show de (A:=fun H5=>dJ _ D _ H5 _) ?_
       show⟨_,U,_,U,.inr ⟨"q",U,GU,by left,fun H' s'=>q _ (aa (aa (aa s1 s2) s3) (aa (aa sx sp) s'))⟩⟩
def tN {aF cNR TE:Addr}(s:Src K mg "read_row" rS)(m_len:mg "len"=none)(m_zip:mg "zip"=none)(m_tuple:mg "tuple"=none)(hF:mg "FORMS"=some (.ref aF))(dF:fV w K aF)(dF0:∃kvs,eG w K aF kvs/\kvs.lookup ("":Str)=none)(cN:Xc K mg "NoRow" cNR (.ref TE::vE))(RWd:bQ P w K mg base "read_word" ["kind","word"] 10 (i6 cNR)):bQ P w K mg base "read_row" ["row"] 11 (jW cNR):=
 let⟨f,fd,F,m⟩:=s
 ⟨f,fd,w6 F m_len m_zip m_tuple hF dF dF0 cN RWd,F.kp,lG F fun z z z z z z z=>rfl,m⟩
abbrev nP:Stmt:=top 25
abbrev qB:Stmt:=top 43
def xU:aC ["boxes","inputs","nodes"] ["boxes","inputs","nodes"] (ao nP):=eU
def qm {sP:Addr}{f:Addr}{fd:RZ}(F:cD K "picked_program" "picked_program" nP f fd)(PO:bQ P w K mg base "program_of" ["boxes","inputs","nodes"] 24 (cq sP)):aY P w K mg base (eD P w base) 25 f fd ["boxes","inputs","nodes"] (cq sP):=by
 show F.wU xU (fun vs H Q E h=>?_) (fun cdv A outer s H vs Q E hr h=>?_)
 . obtain⟨B,I,N,vb,vn,bs,ins,nds,rfl,_⟩:=h
   rfl
 . obtain⟨B,I,N,vb,vn,bs,ins,nds,rfl,ap,q1,q2⟩:=h
   show ig ⟨_,(Ww (WC (Xd iV PO hr U (L (Y 0) (L (Y 1) (L (Y 2) M)))))),?_⟩
   show⟨_,U,_,U,_,U,B,I,N,vb,vn,bs,ins,nds,U,ap,q1,q2⟩
def oG {sP:Addr}(s:Src K mg "picked_program" nP)(PO:bQ P w K mg base "program_of" ["boxes","inputs","nodes"] 24 (cq sP)):bQ P w K mg base "picked_program" ["boxes","inputs","nodes"] 25 (cq sP):=
 let⟨f,fd,F,m⟩:=s
 ⟨f,fd,qm F PO,F.kp,Ci F fun z z z z z z z z z=>rfl,m⟩
inductive Rw where
 | box (b:Str×Int)|inp (x:Str)|nd (e:Np)
def Np.hd:Np->Str
 | .put _ _ _=>"put" | .say _ _=>"say" | .test _ _ _=>"test" | .pick _ _=>"pick" | .fin=>"end"
def Np.jC:Np->List Wd
 | .put x s n=>[.name x,.sum s,.num n]|.say s n=>[.sum s,.num n]|.test c n o=>[.cond c,.num n,.num o]|.pick x n=>[.name x,.num n]|.fin=>[]
def Rw.hd:Rw->Str
 | .box _=>"box" | .inp _=>"input" | .nd e=>e.hd
def Rw.jC:Rw->List Wd
 | .box b=>[.name b.1,.num b.2]|.inp x=>[.name x]|.nd e=>e.jC
def Rw.rank:Rw->Nat
 | .box _=>0|.inp _=>1|.nd _=>2
def rowsOf (bs:aB)(ins:List Str)(nds:List Np):List Rw:=bs.map .box++ins.map .inp++nds.map .nd
def Np.IM:∀e:Np,e.ws=e.hd::e.jC.map Wd.txt
 | .put _ _ _=>rfl|.say _ _=>rfl|.test _ _ _=>rfl|.pick _ _=>rfl|.fin=>rfl
def eS (bs:aB)(ins:List Str)(nds:List Np):textOf bs ins nds=(rowsOf bs ins nds).map fun r=>du r.hd r.jC:=by
 unfold textOf rowsOf
 rw[RW,RW,Te,Te,Te]
 congr 1
 show List.map_congr_left fun e z=>?_
 change RM bG e.ws=du e.hd e.jC
 rw[Np.IM]
def pw.wd {e:E}(h:pw 30 e):(Wd.sum e).G:=⟨⟨h.is,h.ok⟩,h.len⟩
def pL.wd {e:E}(h:pL 30 e):(Wd.cond e).G:=⟨⟨h.is,h.ok⟩,h.len⟩
def E7.row {bs:aB}{ins:List Str}{nds:List Np}(h:E7 bs ins nds):∀r∈rowsOf bs ins nds,iC r.hd r.jC:=by
 intro r hr
 rcases ez hr with hr|hr
 . rcases ez hr with hr|hr
   . obtain⟨b,hb,rfl⟩:=fc hr
     show⟨by change(("box":Str),(["name","number"]:List Str))∈bZ;decide,fun d hd=>?_⟩
     rcases cv hd with rfl|hd
     . show(h.b b hb).1
     . rw[di hd];show(h.b b hb).2
   . obtain⟨x,hx,rfl⟩:=fc hr
     show⟨by change(("input":Str),(["name"]:List Str))∈bZ;decide,fun d hd=>?_⟩
     rw[di hd]
     show h.i x hx
 . obtain⟨e,he,rfl⟩:=fc hr
   have we:=h.n e he
   match e,we with
   | .put x s n,we=>
     show⟨by change(("put":Str),(["name","sum","number"]:List Str))∈bZ;decide,fun d hd=>?_⟩
     rcases cv hd with rfl|hd
     . show we.1
     rcases cv hd with rfl|hd
     . show we.2.1.wd
     rw[di hd]
     show we.2.2
   | .say s n,we=>
     show⟨by change(("say":Str),(["sum","number"]:List Str))∈bZ;decide,fun d hd=>?_⟩
     rcases cv hd with rfl|hd
     . show we.1.wd
     rw[di hd]
     show we.2
   | .test c n o,we=>
     show⟨by change(("test":Str),(["condition","number","number"]:List Str))∈bZ;decide,fun d hd=>?_⟩
     rcases cv hd with rfl|hd
     . show we.1.wd
     rcases cv hd with rfl|hd
     . show we.2.1
     rw[di hd]
     show we.2.2
   | .pick x n,we=>
     show⟨by change(("pick":Str),(["name","number"]:List Str))∈bZ;decide,fun d hd=>?_⟩
     rcases cv hd with rfl|hd
     . show we.1
     rw[di hd]
     show we.2
   | .fin,_=>show⟨by change(("end":Str),([]:List Str))∈bZ;decide,fun d hd=>nomatch hd⟩
def Ek {head:Str}{ds:List Wd}(h:iC head ds):∀c∈(du head ds).cps.toList,32<=c:=by
 have hg:=h.ge
 change ∀c∈(Sr " " (head::ds.map Wd.txt)).cps.toList,32<=c
 rw[StrLaws.glued_eq_join,Ln,eM]
 have key:∀l:List Str,(∀x∈l,∀c∈x.cps.toList,33<=c)->∀c∈jl 32 (l.map fun x=>x.cps.toList),32<=c:=by
   intro l
   induction l with
   | nil=>intro _ c hc;cases hc
   | cons a l ih=>
     intro hl c hc
     have ha:=hl a Ru
     have ih:=ih fun x hx=>hl x (RC _ hx)
     cases l with
     | nil=>have:=ha c hc;lia
     | cons b r=>
       have hc:c∈a.cps.toList++32::jl 32 ((b::r).map fun x=>x.cps.toList):=hc
       rcases ez hc with z|z
       . have:=ha c z;lia
       . rcases cv z with rfl|z
         . show Rz _
         . show ih c z
 show key _ hg
def El {head:Str}{ds:List Wd}(h:iC head ds):du head ds≠TR:=by
 change Sr " " (head::ds.map Wd.txt)≠_
 rw[StrLaws.glued_eq_join,Ln]
 show nq (gh _ h.fr).2.2.1
def yI.np {H:Hp}:∀{e:Np} {v:V},yI H v e.hd e.jC->b8 H v e
 | .put x s n,_,⟨p,vals,rfl,hp,pv⟩=>by
   match vals,pv with
   | [a,b,c],.cons h1 (.cons h2 (.cons h3 .nil))=>
     have h1:a=.str x:=h1
     have h3:c=.int n:=h3
     subst h1 h3
     show⟨b,⟨p,U,hp⟩,h2⟩
 | .say s n,_,⟨p,vals,rfl,hp,pv⟩=>by
   match vals,pv with
   | [b,c],.cons h2 (.cons h3 .nil)=>
     have h3:c=.int n:=h3
     subst h3
     show⟨b,⟨p,U,hp⟩,h2⟩
 | .test e n o,_,⟨p,vals,rfl,hp,pv⟩=>by
   match vals,pv with
   | [a,b,c],.cons h1 (.cons h2 (.cons h3 .nil))=>
     have h2:b=.int n:=h2
     have h3:c=.int o:=h3
     subst h2 h3
     show⟨a,⟨p,U,hp⟩,h1⟩
 | .pick x n,_,⟨p,vals,rfl,hp,pv⟩=>by
   match vals,pv with
   | [a,b],.cons h1 (.cons h2 .nil)=>
     have h1:a=.str x:=h1
     have h2:b=.int n:=h2
     subst h1 h2
     show⟨p,U,hp⟩
 | .fin,_,⟨p,vals,rfl,hp,pv⟩=>by
   match vals,pv with
   | [],.nil=>show⟨p,rfl,hp⟩
def Rw.NM:Rw->Option (Str×Int)
 | .box b=>some b|_=>none
def Rw.NP:Rw->Option Str
 | .inp x=>some x|_=>none
def Rw.NQ:Rw->Option Np
 | .nd e=>some e|_=>none
def lI (l:List Rw):aB:=l.filterMap Rw.NM
def inR (l:List Rw):List Str:=l.filterMap Rw.NP
def lP (l:List Rw):List Np:=l.filterMap Rw.NQ
def m7 {α β:Type}{f:β->α}{g:α->Option β}(h:∀b,g (f b)=some b)(l:List β):(l.map f).filterMap g=l:=by
 induction l with
 | nil=>rfl
 | cons a l ih=>rw[R3,List.filterMap_cons_some (h a),ih]
def f9 {α β γ:Type}{f:β->α}{g:α->Option γ}(h:∀b,g (f b)=none)(l:List β):(l.map f).filterMap g=[]:=by
 induction l with
 | nil=>rfl
 | cons a l ih=>rw[R3,List.filterMap_cons_none (h a),ih]
def ve (bs:aB)(ins:List Str)(nds:List Np):lI (rowsOf bs ins nds)=bs:=by
 unfold lI rowsOf
 rw[R7,R7,m7 (f:=Rw.box) (fun z=>rfl),f9 (f:=Rw.inp) (fun z=>rfl),f9 (f:=Rw.nd) (fun z=>rfl),RY,RY]
def vV (bs:aB)(ins:List Str)(nds:List Np):inR (rowsOf bs ins nds)=ins:=by
 unfold inR rowsOf
 rw[R7,R7,f9 (f:=Rw.box) (fun z=>rfl),m7 (f:=Rw.inp) (fun z=>rfl),f9 (f:=Rw.nd) (fun z=>rfl),VA,RY]
def wA (bs:aB)(ins:List Str)(nds:List Np):lP (rowsOf bs ins nds)=nds:=by
 unfold lP rowsOf
 rw[R7,R7,f9 (f:=Rw.box) (fun z=>rfl),f9 (f:=Rw.inp) (fun z=>rfl),m7 (f:=Rw.nd) (fun z=>rfl),VA,VA]
def gq {bs:aB}{ins:List Str}{nds:List Np}:(rowsOf bs ins nds).Pairwise fun a b=>a.rank<=b.rank:=by
 unfold rowsOf
 have c:∀{α:Type} (f:α->Rw) (k:Nat) (h:∀a,(f a).rank=k) (l:List α),(l.map f).Pairwise fun a b=>a.rank<=b.rank:=fun f k h l=>by
   rw[List.pairwise_map]
   show List.pairwise_of_forall fun{a b}=>by rw[h,h];show Rz _
 show List.pairwise_append.mpr ⟨List.pairwise_append.mpr ⟨c _ 0 (fun z=>rfl) _,c _ 1 (fun z=>rfl) _,fun a ha b hb=>?_⟩,c _ 2 (fun z=>rfl) _,fun a ha b hb=>?_⟩
 . obtain⟨x,_,rfl⟩:=fc ha
   show Sd _
 . obtain⟨x,_,rfl⟩:=fc hb
   cases a with|box _=>show Sd 2|inp _=>show Ve 1|nd _=>show Rz 2
abbrev Jo:List (Str×V):=[("box",.int 0),("input",.int 1)]
def Aw:∀r:Rw,(Jo.lookup r.hd).getD (.int 2)=.int (r.rank:Int)
 | .box _=>rfl|.inp _=>rfl|.nd (.put _ _ _)=>rfl|.nd (.say _ _)=>rfl|.nd (.test _ _ _)=>rfl|.nd (.pick _ _)=>rfl|.nd .fin=>rfl
structure Rp (H Hx:Hp)(B I N:Addr)(vb vi vn:List V)(l:List Rw):Prop where
 s:ai H Hx
 hB:Hx B=some (.lst vb)
 hI:Hx I=some (.lst vi)
 hN:Hx N=some (.lst vn)
 pb:Paired (fm Hx) vb (lI l)
 pi:vi=(inR l).map V.str
 pn:Paired (b8 Hx) vn (lP l)
structure Np.good (bs:aB)(m:Nat)(nd:Np):Prop where
 ld:∀n∈nd.gJ,0<=n/\n<(m:Int)
 kn:∀e∈nd.fw,e.okIn (JK bs)/\e.dep<=19
structure AW (bs:aB)(ins:List Str)(nds:List Np):Prop where
 wr:E7 bs ins nds
 bx:yE bs
 ind:ins.Nodup
 insub:∀x∈ins,x∈bs.map (·.1)
 one:1<=nds.length
 good:∀e∈nds,e.good bs nds.length
structure yD (bs:aB)(ins:List Str)(nds:List Np):Prop where
 bs2:∀b∈bs,b.1.length<=2000
 is2:∀x∈ins,x.length<=2000
 ld:∀nd∈nds,∀l∈nd.gJ,l.natAbs<2^1900
 td:∀nd∈nds,∀e∈nd.fw,e.okIn fe/\e.dep<20
def lj (cNR sP:Addr):Sp:=fun vs H z E=>∃(tx:Str) (pre:List Rw) (tl:List Str),vs=[.str tx]/\S7 tx "\n"=pre.map (fun r=>du r.hd r.jC)++tl/\tx.length+2<=sizeLine/\pre.length<=408/\tl.length<=500/\(∀r∈pre,iC r.hd r.jC)/\(pre.Pairwise fun a b=>a.rank<=b.rank) /\
 ((tl=[]/\yD (lI pre) (inR pre) (lP pre)/\¬ dX (lI pre) (inR pre) (lP pre)/\∀H':Hp,ai H H'->E (.ref sP) none H')\/(∃x post,tl=x::post/\x∈dY/\∀H':Hp,ai H H'->E (.ref cNR) none H'))
def dv:aC ["text","boxes","inputs","nodes","least","row","told","rank"] ["text"] (ao qB):=eU
def uj {aR cNR sP TE:Addr}{f:Addr}{fd:RZ}(F:cD K "read_program" "read_program" qB f fd)(hR:mg "RANKS"=some (.ref aR))(dR:eG w K aR Jo)(cK:mI mg "NODE_RANK" 2)(cN:Xc K mg "NoRow" cNR (.ref TE::vE))(RR0:bQ P w K mg base "read_row" ["row"] 11 (jW cNR))(PP:bQ P w K mg base "picked_program" ["boxes","inputs","nodes"] 25 (cq sP)):aY P w K mg base (eD P w base) 26 f fd ["text"] (lj cNR sP):=by
 show F.wU dv (fun vs H Q E h=>?_) (fun cdv A outer s H vs Q E hr h=>?_)
 . obtain⟨tx,pre,tl,rfl,_⟩:=h
   rfl
 . have RR:=RR0.mono (show 11<=25 by left)
   obtain⟨tx,pre,tl,rfl,hsp,Ji,rl,Ls,rg,gq,cs⟩:=h
   show ig ⟨_,(Wv (Xj (WH (L (WD M) (L (WD M) (L (WD M) (L Ws M))))) (Xb 4 (WQ (WI 1 dv.nd) (WQ (WI 2 dv.nd) (WQ (WI 3 dv.nd) (WQ (WI 4 dv.nd) W2))))))
     (Wv (W8 (WW (L3.yj (Y 0) (L Wu M))) (WI 5 dv.nd) (Wv (Wy 6 dv.nd (Xd iV RR hr U (L (Y 5) M)))
     (Wv (Wy 7 dv.nd (L3.PZ (WU (w:=.ref aR) U hR rfl) (Wz WM (Y 6) Ws) (WU (w:=.int 2) U cK.choose_spec ⟨_,rfl⟩)))
     (Wv (WB (Wx Xl (Y 7) (Y 4)) (Ww (Xa cA cN U U (L Wu M))) WE)
     (Wv (Wy 4 dv.nd (Y 7))
     (Ww (WB (Wx WL (Y 7) Ws) (Ww (W0 (Xt (Y 1) (L (WH (L (Wz WM (Y 6) Ws) (L (Wz WM (Y 6) Ws) M))) M)))) (Ww (WB (Wx WL (Y 7) Ws) (Ww (W0 (Xt (Y 2) (L (Wz WM (Y 6) Ws) M)))) (Ww (W0 (Xt (Y 3) (L (Y 6) M)))))))))))) (hp:=Sn))
     (Ww (WC (Xd iV PP hr U (L (Y 1) (L (Y 2) (L (Y 3) M)))))))),?_⟩
   show aq fun Rk kR=>?_
   show⟨YI,fun B hB=>?_⟩
   obtain⟨H1,sB,gB,zz⟩:=aZ hB (.lst [])
   rw[zz];clear zz
   show⟨YI,fun I hI=>?_⟩
   obtain⟨H2,sI,gI,zz⟩:=aZ hI (.lst [])
   rw[zz];clear zz
   show⟨YI,fun N hN=>?_⟩
   obtain⟨H3,sN,gN,zz⟩:=aZ hN (.lst [])
   rw[zz];clear zz
   have BI:B≠I:=ag gB hI
   have IN:I≠N:=ag gI hN
   have BN:B≠N:=ag (sI _ _ gB) hN
   have nB:=hB
   have nI:=aS sB hI
   have nN:=aS (aa sB sI) hN
   show⟨YM,fun q4 Pk=>?_⟩
   have s4:=af Pk (.tup [.ref B,.ref I,.ref N,.int 0])
   have g4:(upd H3 q4 (.tup [.ref B,.ref I,.ref N,.int 0])) q4=some (.tup [.ref B,.ref I,.ref N,.int 0]):=ae
   generalize upd H3 q4 (.tup [.ref B,.ref I,.ref N,.int 0])=H4 at s4 g4 ⊢
   show⟨q4,_,U,bS.of g4,U,_,_,U,_,_,U,_,_,U,_,_,U,U,?_⟩
   show kR _ _ ?_
   have MY:=aa (aa (aa sB sI) sN) s4
   have Mj:=s4 _ _ (sN _ _ (sI _ _ gB))
   have Ms:=s4 _ _ (sN _ _ gI)
   have Mu:=s4 _ _ gN
   show aw [some (.str tx),some (.ref B),some (.ref I),some (.ref N),some (.int 0),none,none,none] U ?_
   show aq fun Rk kR=>?_
   show⟨_,U,U,_,_,U,U,U,?_,?_,fun L8 hL=>?_⟩
   . show Ji
   . rw[hsp,Rx,Rn]
     show Ry (show _<=1000 by lia) (by left)
   rw[hsp]
   have nL:=aS MY hL
   have sL:=af hL (.lst ((pre.map (fun r=>du r.hd r.jC)++tl).map V.str))
   have gL:(upd H4 L8 (.lst ((pre.map (fun r=>du r.hd r.jC)++tl).map V.str))) L8=some (.lst ((pre.map (fun r=>du r.hd r.jC)++tl).map V.str)):=ae
   have LB:B≠L8:=ag Mj hL
   have LI:I≠L8:=ag Ms hL
   have LN:N≠L8:=ag Mu hL
   have OB:=sL _ _ Mj
   have OG:=sL _ _ Ms
   have OI:=sL _ _ Mu
   have Qp:=aa MY sL
   show⟨L8,U,⟨_,aH.of gL⟩,?_⟩
   show dG (xs:=(pre.map (fun r=>du r.hd r.jC)++tl).map V.str) (fun(i:Nat) (σ:L2.St) (Hx:Hp)=>∃(o5 o6 o7:Option V) (lv:Int) (vb vi vn:List V),σ=[some (.str tx),some (.ref B),some (.ref I),some (.ref N),some (.int lv),o5,o6,o7]/\Rp H Hx B I N vb vi vn ((pre).take i)/\Hx L8=some (.lst ((pre.map (fun r=>du r.hd r.jC)++tl).map V.str))/\(∀j r,i<=j->(pre)[j]?=some r->lv<=(r.rank:Int))/\i<=pre.length) ⟨none,none,none,0,[],[],[],U,⟨Qp,OB,OG,OI,.nil,U,.nil⟩,gL,(fun j r y y=>Int.natCast_nonneg _),Sd _⟩ (fun i σ Hx y z=>?_) (fun i x0 σ Hx hx z=>?_) (fun σ Hx z=>?_)
   . obtain⟨_,_,_,_,_,_,_,_,_,gL,_⟩:=z
     show aH.of gL
   . obtain⟨o5,o6,o7,lv,vb,vi,vn,rfl,rp,Ol,O9,IP⟩:=z
     obtain⟨y0,GD,rfl⟩:=cX hx
     by_cases Ff:i<pre.length
     rotate_left
     . have Kx:i<(pre.map (fun r=>du r.hd r.jC)++tl).length:=(cy GD)
       rcases cs with⟨rfl,_⟩|⟨x,post,rfl,Jk,q⟩
       . rw[Rx,Rn,Tx]at Kx
         lia
       . have ei:i=pre.length:=by lia
         subst ei
         have ey:y0=x:=by
           rw[Uk (by rw[Rn];show Rz _),Rn,Vu]at GD
           show(Sa GD).symm
         subst ey
         show ak ?_
         show aw [some (.str tx),some (.ref B),some (.ref I),some (.ref N),some (.int lv),some (.str y0),o6,o7] U ?_
         show aq fun Rk kR=>?_
         show⟨_,U,.inr ⟨y0,U,Jk,fun H' s'=>q _ (aa rp.s s')⟩⟩
     obtain⟨r,cW,rfl⟩ : ∃r,pre[i]?=some r/\du r.hd r.jC=y0:=by
       rw[VR (by rw[Rn];show Ff),Sb]at GD
       obtain⟨r,h1,h2⟩:=Option.map_eq_some_iff.mp GD
       show⟨r,h1,h2⟩
     have eE:i<(pre).length:=(cy cW)
     have grow:=rg r (RL cW)
     show ak ?_
     show aw [some (.str tx),some (.ref B),some (.ref I),some (.ref N),some (.int lv),some (.str (du r.hd r.jC)),o6,o7] U ?_
     show aq fun Rk kR=>?_
     show⟨_,U,.inl ⟨r.hd,r.jC,U,grow,fun v Hy sy ra=>?_⟩⟩
     show ak (kR _ _ ?_)
     show aw [some (.str tx),some (.ref B),some (.ref I),some (.ref N),some (.int lv),some (.str (du r.hd r.jC)),some v,o7] U ?_
     obtain⟨pv,vals,rfl,tU,DE⟩:=ra
     show aq fun Rk kR=>?_
     show⟨aR,Jo,U,dR,_,U,?_⟩
     show bR tU iG ?_
     show⟨r.hd,U,?_⟩
     rw[Aw]
     show ak (kR _ _ ?_)
     show aw [some (.str tx),some (.ref B),some (.ref I),some (.ref N),some (.int lv),some (.str (du r.hd r.jC)),some (.ref pv),some (.int (r.rank:Int))] U ?_
     have Jc:=sy _ _ rp.hB
     have F8:=sy _ _ rp.hI
     have Fb:=sy _ _ rp.hN
     have Kc:=sy _ _ Ol
     have Fo:=Paired.length rp.pb
     have Ri:=Paired.length rp.pn
     have Rh:vi.length=(inR ((pre).take i)).length:=by rw[rp.pi,Rn]
     have QU:(lI ((pre).take i)).length<=408:=Ry (SV _ _) (Ry (U8 _ _) (by lia))
     have L9:(inR ((pre).take i)).length<=408:=Ry (SV _ _) (Ry (U8 _ _) (by lia))
     have QV:(lP ((pre).take i)).length<=408:=Ry (SV _ _) (Ry (U8 _ _) (by lia))
     show aq fun Rk kR=>?_
     show⟨_,U,_,U,_,_,U,U,_,U,?_⟩
     show bc (gv (by have:=O9 i r (Rz _) cW;lia)) ?_
     show kR _ _ (aq fun Rk kR=>?_)
     show⟨_,U,?_⟩
     show ak (kR _ _ ?_)
     show aw [some (.str tx),some (.ref B),some (.ref I),some (.ref N),some (.int (r.rank:Int)),some (.str (du r.hd r.jC)),some (.ref pv),some (.int (r.rank:Int))] U ?_
     have p5:∀j r2,i+1<=j->(pre)[j]?=some r2->(r.rank:Int)<=(r2.rank:Int):=fun j r2 hj oN=>by
       have Gm:=(cy oN)
       have:=(List.pairwise_iff_getElem.mp (gq)) i j eE Gm (by lia)
       rw[(List.getElem?_eq_some_iff.mp cW).2,(List.getElem?_eq_some_iff.mp oN).2]at this
       show Int.ofNat_le.mpr this
     have uN:(pre).take (i+1)=(pre).take i++[r]:=by rw[R9,cW];rfl
     match r,cW,grow,tU,DE,p5,uN with
     | .box b,cW,grow,tU,DE,p5,uN=>
       match vals,DE,tU with
       | [x1,x2],.cons h1 (.cons h2 .nil),tU=>
       have h1:x1=.str b.1:=h1
       have h2:x2=.int b.2:=h2
       subst h1 h2
       show⟨_,U,U,_,U,b6 ?_⟩
       show⟨_,U,.inl ⟨U,_,aH.of Jc⟩,_,U,?_⟩
       show bR tU U ?_
       show⟨_,U,?_⟩
       show bR tU U ?_
       show⟨YK,fun pb Pg=>?_⟩
       have sb:=af Pg (.tup [.str b.1,.int b.2])
       have gb:(upd Hy pb (.tup [.str b.1,.int b.2])) pb=some (.tup [.str b.1,.int b.2]):=ae
       generalize upd Hy pb (.tup [.str b.1,.int b.2])=Hz at sb gb ⊢
       have Kl:=sb _ _ Jc
       have tk:=(ai.tk (aa sy sb)).trans (bC (o2:=.lst (vb++[.ref pb])) Kl (fun y z=>nomatch z))
       show⟨B,_,_,U,U,Kl,aW (by lia),_,_,_,_,vb++[.ref pb],vi,vn,U,⟨fun c o hc=>?_,ae,?_,?_,?_,?_,?_⟩,?_,p5,Ff⟩
       . rw[ah (ag hc nB)]
         show sb _ _ (sy _ _ (rp.s c o hc))
       . rw[ah BI.symm];show sb _ _ F8
       . rw[ah BN.symm];show sb _ _ Fb
       . rw[uN,show lI ((pre).take i++[.box b])=lI ((pre).take i)++[b]by unfold lI;rw[R7];rfl]
         show(Paired.cZ rp.pb fun y y z=>Tp.keep tk z).snoc ⟨pb,U,bC (o2:=.lst (vb++[.ref pb])) Kl (fun y z=>nomatch z) _ _ gb⟩
       . rw[uN,show inR ((pre).take i++[.box b])=inR ((pre).take i)by unfold inR;rw[R7];show RY _]
         show rp.pi
       . rw[uN,show lP ((pre).take i++[.box b])=lP ((pre).take i)by unfold lP;rw[R7];show RY _]
         show Paired.cZ rp.pn fun y y z=>b8.keep tk z
       . rw[ah LB.symm];show sb _ _ Kc
     | .inp x,cW,grow,tU,DE,p5,uN=>
       match vals,DE,tU with
       | [x1],.cons h1 .nil,tU=>
       have h1:x1=.str x:=h1
       subst h1
       show⟨_,U,U,_,U,cb ?_⟩
       show⟨_,U,U,_,U,b6 ?_⟩
       have tk:=(ai.tk sy).trans (bC (o2:=.lst (vi++[.str x])) F8 (fun y z=>nomatch z))
       show⟨_,U,.inl ⟨U,_,aH.of F8⟩,_,U,?_⟩
       show bR tU U ?_
       show⟨I,_,_,U,U,F8,aW (by lia),_,_,_,_,vb,vi++[.str x],vn,U,⟨fun c o hc=>?_,?_,ae,?_,?_,?_,?_⟩,?_,p5,Ff⟩
       . rw[ah (ag hc nI)]
         show sy _ _ (rp.s c o hc)
       . rw[ah BI];show Jc
       . rw[ah IN.symm];show Fb
       . rw[uN,show lI ((pre).take i++[.inp x])=lI ((pre).take i)by unfold lI;rw[R7];show RY _]
         show Paired.cZ rp.pb fun y y z=>Tp.keep tk z
       . rw[uN,show inR ((pre).take i++[.inp x])=inR ((pre).take i)++[x]by unfold inR;rw[R7];rfl,RW,rp.pi]
         rfl
       . rw[uN,show lP ((pre).take i++[.inp x])=lP ((pre).take i)by unfold lP;rw[R7];show RY _]
         show Paired.cZ rp.pn fun y y z=>b8.keep tk z
       . rw[ah LI.symm];show Kc
     | .nd e,cW,grow,tU,DE,p5,uN=>
       show⟨_,U,U,_,U,cb ?_⟩
       show⟨_,U,U,_,U,cb ?_⟩
       have tk:=(ai.tk sy).trans (bC (o2:=.lst (vn++[.ref pv])) Fb (fun y z=>nomatch z))
       have np:b8 Hy (.ref pv) e:=yI.np ⟨pv,vals,rfl,tU,DE⟩
       show⟨_,U,.inl ⟨U,_,aH.of Fb⟩,_,U,N,_,_,U,U,Fb,aW (by lia),_,_,_,_,vb,vi,vn++[.ref pv],U,⟨fun c o hc=>?_,?_,?_,ae,?_,?_,?_⟩,?_,p5,Ff⟩
       . rw[ah (ag hc nN)]
         show sy _ _ (rp.s c o hc)
       . rw[ah BN];show Jc
       . rw[ah IN];show F8
       . rw[uN,show lI ((pre).take i++[.nd e])=lI ((pre).take i)by unfold lI;rw[R7];show RY _]
         show Paired.cZ rp.pb fun y y z=>Tp.keep tk z
       . rw[uN,show inR ((pre).take i++[.nd e])=inR ((pre).take i)by unfold inR;rw[R7];show RY _]
         show rp.pi
       . rw[uN,show lP ((pre).take i++[.nd e])=lP ((pre).take i)++[e]by unfold lP;rw[R7];rfl]
         show(Paired.cZ rp.pn fun y y z=>b8.keep tk z).snoc (b8.keep (bC (o2:=.lst (vn++[.ref pv])) Fb (fun y z=>nomatch z)) np)
       . rw[ah LN.symm];show Kc
   obtain⟨o5,o6,o7,lv,vb,vi,vn,rfl,rp,_,_,IP⟩:=z
   rcases cs with⟨rfl,an,nG,q⟩|⟨x,post,rfl,Jk,q⟩
   rotate_left
   . rw[Rn,Rx,Rn,RE]at IP
     lia
   rw[Rn,RY,Rn,Sf]at rp
   have pi:=rp.pi
   subst pi
   have b9:(lI pre).length<=900:=Ry (SV _ _) (by lia)
   have i9:(inR pre).length<=900:=Ry (SV _ _) (by lia)
   have n9:(lP pre).length<=900:=Ry (SV _ _) (by lia)
   show kR _ _ ?_
   show⟨_,U,_,U,_,U,B,I,N,vb,vn,lI pre,inR pre,lP pre,U,⟨rp.hB,rp.pb,rp.hI,rp.hN,rp.pn,b9,i9,n9,an.bs2,an.is2,an.ld,an.td⟩,(fun g=>au g nG),fun y H' s'=>q _ (aa rp.s s')⟩
def pR {aR cNR sP TE:Addr}(s:Src K mg "read_program" qB)(hR:mg "RANKS"=some (.ref aR))(dR:eG w K aR Jo)(cK:mI mg "NODE_RANK" 2)(cN:Xc K mg "NoRow" cNR (.ref TE::vE))(RR0:bQ P w K mg base "read_row" ["row"] 11 (jW cNR))(PP:bQ P w K mg base "picked_program" ["boxes","inputs","nodes"] 25 (cq sP)):bQ P w K mg base "read_program" ["text"] 26 (lj cNR sP):=
 let⟨f,fd,F,m⟩:=s
 ⟨f,fd,uj F hR dR cK cN RR0 PP,F.kp,lG F fun z z z z z z z=>rfl,m⟩
abbrev Ij:Stmt:=top 48
abbrev Et:Stmt:=top 49
abbrev xN:Stmt:=top 50
structure Nm (H:Hp)(nl:Addr)(ns:List Str):Prop where
 hn:H nl=some (.lst (ns.map V.str))
 l4:ns.length<=4
def Nm.go {H H1:Hp}{nl:Addr}{ns:List Str}(d:Nm H nl ns)(s:ai H H1):Nm H1 nl ns:=⟨s _ _ d.hn,d.l4⟩
def ub {n:Int}(h:n<1000):n<10^30:=by
 have e:(10:Int)^30=1000000000000000000000000000000:=by left
 rw[e]
 lia
def t6 {m:Nat}(n:Nat)(h:m<=34):m<=34*2^n:=by
 have:1<=2^n:=Vl
 lia
def yc:Sp:=fun vs H Q z=>∃c k:Int,vs=[.int c,.int k]/\0<=k/\k<2^36/\∀(n:Int) (H':Hp),(0<=n/\n<10^30)->ai H H'->Q (.int n) H'
def rW:aC ["cell","k","number","far"] ["cell","k"] (ao Ij):=eU
def De {f:Addr}{fd:RZ}(F:cD K "_law_number" "_law_number" Ij f fd)(ST:b7 P w K mg base "_law_stir" ["cell","k"] 1 cm):aY P w K mg base dq 2 f fd ["cell","k"] yc:=by
 show F.iU rW fun cdv A outer s H vs Q E hr h=>?_
 obtain⟨c,k,rfl,k0,k1,q⟩:=h
 show ig ⟨_,(Wv (Wy 2 rW.nd (WA ST hr U (L (Y 0) (L (Y 1) M))))
   (Wv (Wy 3 rW.nd (Wt WN (Wt WY (WA ST hr U (L (Y 0) (L (Wt WN (Y 1) Ws) M))) (Wt Xm Ws Ws)) (Wt WY (WA ST hr U (L (Y 0) (L (Wt WN (Y 1) Ws) M))) (Wt Xm Ws Ws))))
   (Wv (Wy 3 rW.nd (Wt WN (Wt WN (Y 3) (Wt WY (WA ST hr U (L (Y 0) (L (Wt WN (Y 1) Ws) M))) (Wt Xm Ws Ws))) (Y 2)))
   (Ww (WC (Wz WK (WD (L Ws (L (Wt WG (Wt WT (Y 2) Ws) Ws) (L (Wt WG (Wt WT (Y 2) Ws) Ws) (L (Wt WG (Y 3) (Wt Xm Ws Ws)) M))))) (Wt WG (Y 2) Ws))))))),?_⟩
 show aq fun Rk kR=>?_
 show⟨_,U,_,U,c,k,U,k0,by lia,fun r r0 r1=>?_⟩
 show ak (kR _ _ ?_)
 show aw [some (.int c),some (.int k),some (.int r),none] U ?_
 show aq fun Rk kR=>?_
 show⟨_,U,_,U,_,_,U,U,c,k+700,U,by lia,by lia,fun a a0 a1=>?_⟩
 show⟨_,_,U,U,⟨by left,by left,by left⟩,_,_,U,U,.inl ⟨by lia,by lia⟩,?_⟩
 show⟨_,U,_,U,_,_,U,U,c,k+701,U,by lia,by lia,fun b b0 b1=>?_⟩
 show⟨_,_,U,U,⟨by left,by left,by left⟩,_,_,U,U,.inl ⟨by lia,by lia⟩,_,_,U,U,?_⟩
 show ak (kR _ _ (aq fun Rk kR=>?_))
 show⟨_,U,_,U,_,U,_,_,U,U,c,k+702,U,by lia,by lia,fun d d0 d1=>?_⟩
 show⟨_,_,U,U,⟨by left,by left,by left⟩,_,_,U,U,.inl ⟨by lia,by lia⟩,_,_,U,U,_,U,_,_,U,U,?_⟩
 show ak (kR _ _ ?_)
 show aw [some (.int c),some (.int k),some (.int r),some (.int (a*10^(22:Int).toNat+b*10^(14:Int).toNat+d*10^(7:Int).toNat+r))] U ?_
 obtain⟨far,Kv⟩ : ∃far,far=a*10^(22:Int).toNat+b*10^(14:Int).toNat+d*10^(7:Int).toNat+r:=⟨_,rfl⟩
 rw[← Kv]
 show⟨_,U,_,_,U,U,⟨by left,by right⟩,_,_,U,U,(by change(0:Int)<10;decide),?_⟩
 show⟨_,U,_,_,U,U,⟨by left,by right⟩,_,_,U,U,(by change(0:Int)<1000;decide),?_⟩
 show⟨_,U,_,_,U,U,⟨by left,by left,by left⟩,_,_,U,U,(by change(0:Int)<10^30;decide),YM,fun L8 hL=>?_⟩
 show⟨_,U,_,_,U,U,(by change(0:Int)<4;decide),?_⟩
 obtain⟨_,dg,n,rfl,n0,n1⟩:=qR (P:=fun v=>∃n:Int,v=.int n/\0<=n/\n<10^30) (xs:=[.int 0,.int (r/8%10),.int (r/8%1000),.int (far%10^(30:Int).toNat)]) (r:=r%4) (aP (by left)) (aQ (by left)) (fun x hx=>by
   rcases cv hx with e|hx
   . show⟨_,e,by left,by left⟩
   rcases cv hx with e|hx
   . show⟨_,e,aP (by left),?_⟩
     have:=aQ (k:=r/8) (n:=10) (by left)
     show ub (by lia)
   rcases cv hx with e|hx
   . show⟨_,e,aP (by left),?_⟩
     have:=aQ (k:=r/8) (n:=1000) (by left)
     show ub (by lia)
   . show⟨_,di hx,aP (by left),?_⟩
     show aQ (k:=far) (n:=10^(30:Int).toNat) (by left))
 show cH ae dg ?_
 show q n _ ⟨n0,n1⟩ (af hL _)
def kb:Nat->Int
 | 0=>34359738368
 | n+1=>(kb n-2)/2
theorem Bh:∀n,kb n<=34359738368
 | 0=>by left
 | n+1=>by
   have:=Bh n
   change(kb n-2)/2<=_
   lia
def GL {n:Nat}{k:Int}(h:k<kb (n+1)):2*k+2<kb n:=by
 have:k<(kb n-2)/2:=h
 lia
structure lU (ns:List Str)(d s:Nat)(e:E):Prop where
 is:e.vX
 ok:e.okN (·∈ns)
 dp:e.dep<=d
 sz:e.sz+3<=s
structure lT (ns:List Str)(d s:Nat)(e:E):Prop where
 is:e.Fh
 ok:e.okN (·∈ns)
 dp:e.dep<=d
 sz:e.sz+3<=s
def xu {k:Int}{a b:K2}(h0:0<=k)(h1:k<2):∃kk:K2,iz ([.str a.str,.str b.str]:List V) k=some (.str kk.str)/\(kk=a\/kk=b):=by
 rcases(show k=0\/k=1 by lia)with rfl|rfl
 . show⟨a,U,.inl rfl⟩
 . show⟨b,U,.inr rfl⟩
def gS (n:Nat):Sp:=fun vs H Q z=>∃(c k:Int) (nl:Addr) (d:Int) (ns:List Str),vs=[.int c,.int k,.ref nl,.int d]/\Nm H nl ns/\0<=k/\k<kb n/\0<=d/\d<n/\∀(v:V) (e:E) (H':Hp),ai H H'->cJ H' v e->lU ns d.toNat (34*2^d.toNat) e->Q v H'
def wD {f:Addr}{fd:RZ}:aY P w K mg base dq 3 f fd ["cell","k","names","deep"] (gS 0):=by
 have no:∀vs H Q E,¬ gS 0 vs H Q E:=fun vs H Q E h=>by
   obtain⟨c,k,nl,d,ns,_,_,_,_,d0,dn,_⟩:=h
   lia
 show⟨fun vs H Q E h=>au h (no vs H Q E),fun A outer s H args us vs Q E z z z z h=>au h (no vs H Q E)⟩
def xY:aC ["cell","k","names","deep","number","one"] ["cell","k","names","deep"] (ao Et):=eU
def Dg {n:Nat}{f:Addr}{fd:RZ}(F:cD K "_law_sum" "_law_sum" Et f fd)(m_len:mg "len"=none)(ST0:b7 P w K mg base "_law_stir" ["cell","k"] 1 cm)(NU0:b7 P w K mg base "_law_number" ["cell","k"] 2 yc)(G:b7 P w K mg base "_law_sum" ["cell","k","names","deep"] (n+3) (gS n)):aY P w K mg base dq (n+1+3) f fd ["cell","k","names","deep"] (gS (n+1)):=by
 show F.iU xY fun cdv A outer s H vs Q E hr h=>?_
 obtain⟨c,k,nl,d,ns,rfl,D,k0,k1,d0,dn,q⟩:=h
 have ST:=ST0.mono (show 1<=n+3 by lia)
 have NU:=NU0.mono (show 2<=n+3 by lia)
 have kl:=Bh (n+1)
 have ku:=GL k1
 show ig ⟨_,(Wv (Wy 4 xY.nd (WA ST hr U (L (Y 0) (L (Y 1) M))))
   (Wv (WB (WV (Xq (Wx WL (Y 3) Ws) (XA (Wx WL (Wt WG (Y 4) Ws) Ws)))) (Wv (WB (WV (Xq (Wx (L3.wN (m:=2) (dm hr _ (by left))) (Y 2) (WD M)) (XA (Wx WL (Wt WG (Wt WT (Y 4) Ws) Ws) Ws)))) (Ww (WC (WH (L Wu (L (WA NU hr U (L (Y 0) (L (Wt WN (Y 1) Ws) M))) M))))) WE)
   (Ww (WC (WH (L Wu (L (Wz WK (Y 2) (Wt WG (Wt WT (Y 4) Ws) (WJ WO U m_len RG (L (Y 2) M)))) M)))))) WE)
   (Wv (Wy 5 xY.nd (WA G hr U (L (Y 0) (L (Wt WN (Wt WY Ws (Y 1)) Ws) (L (Y 2) (L (Wt Xw (Y 3) Ws) M))))))
   (Ww (WC (WH (L (Wz WK (WD (L Wu (L Wu M))) (Wt WG (Wt WT (Y 4) Ws) Ws)) (L (Y 5) (L (WA G hr U (L (Y 0) (L (Wt WN (Wt WY Ws (Y 1)) Ws) (L (Y 2) (L (Wt Xw (Y 3) Ws) M))))) M))))))))),?_⟩
 show aq fun Rk kR=>?_
 show⟨_,U,_,U,c,k,U,k0,by lia,fun r r0 r1=>?_⟩
 show ak (kR _ _ ?_)
 show aw [some (.int c),some (.int k),some (.ref nl),some (.int d),some (.int r),none] U ?_
 show aq fun Rk kR=>?_
 show⟨_,U,U,_,U,?_⟩
 show aG (fun cd=>?_) (fun cd=>?_)
 . show b6 ?_
   show aq fun uU kR2=>?_
   show⟨_,U,YI,fun z hz=>?_⟩
   obtain⟨Hz,sz,gz,zz⟩:=aZ hz (.lst [])
   rw[zz];clear zz
   have Dz:=D.go sz
   show⟨_,RB.nil (aH.of Dz.hn) (aH.of gz),_,U,?_⟩
   show aG (fun c1=>?_) (fun c1=>?_)
   . show b6 ?_
     show⟨_,U,_,U,_,_,U,U,c,k+1000,U,by lia,by lia,fun i H2 i1 s2=>⟨YK,fun p hp=>?_⟩⟩
     show q (.ref p) (.num i) _ (az (aa sz s2) hp) ⟨p,U,ae⟩ ⟨RO,i1,Sd _,t6 (m:=34) _ (by left)⟩
   have vQ:0<ns.length:=by
     cases ns with
     | nil=>show au rfl c1
     | cons a l=>show S8 _
   show⟨_,U,_,_,U,U,⟨by left,by right⟩,_,_,U,U,(by change(0:Int)<3;decide),U,_,U,?_⟩
   show aG (fun c2=>?_) (fun c2=>?_)
   . show⟨_,U,_,U,_,_,U,U,c,k+1000,U,by lia,by lia,fun i H2 i1 s2=>⟨YK,fun p hp=>?_⟩⟩
     show q (.ref p) (.num i) _ (az (aa sz s2) hp) ⟨p,U,ae⟩ ⟨RO,i1,Sd _,t6 (m:=34) _ (by left)⟩
   show kR2 _ _ ?_
   show⟨_,U,_,U,_,_,U,U,⟨by left,by right⟩,_,U,nl,_,U,.inl (aH.of Dz.hn),_,_,U,U,(by rw[Rn];lia),?_⟩
   rw[Rn]
   obtain⟨x,eF,dg⟩:=fZ V.str ns (aP (k:=r/9) (n:=(ns.length:Int)) (by lia)) (aQ (by lia))
   show cH Dz.hn dg ?_
   show⟨YK,fun p hp=>?_⟩
   show q (.ref p) (.box "box" x) _ (az sz hp) ⟨p,U,ae⟩ ⟨RO,⟨U,eF⟩,Sd _,t6 (m:=11) _ (by left)⟩
 show⟨_,U,_,_,U,U,(by change(0:Int)<3;decide),U,_,U,?_⟩
 show aG (fun c3=>?_) (fun c3=>?_)
 . show aq fun uU kR2=>?_
   show⟨_,U,YI,fun z hz=>?_⟩
   obtain⟨Hz,sz,gz,zz⟩:=aZ hz (.lst [])
   rw[zz];clear zz
   have Dz:=D.go sz
   show⟨_,RB.nil (aH.of Dz.hn) (aH.of gz),_,U,?_⟩
   show aG (fun c1=>?_) (fun c1=>?_)
   . show b6 ?_
     show⟨_,U,_,U,_,_,U,U,c,k+1000,U,by lia,by lia,fun i H2 i1 s2=>⟨YK,fun p hp=>?_⟩⟩
     show q (.ref p) (.num i) _ (az (aa sz s2) hp) ⟨p,U,ae⟩ ⟨RO,i1,Sd _,t6 (m:=34) _ (by left)⟩
   have vQ:0<ns.length:=by
     cases ns with
     | nil=>show au rfl c1
     | cons a l=>show S8 _
   show⟨_,U,_,_,U,U,⟨by left,by right⟩,_,_,U,U,(by change(0:Int)<3;decide),U,_,U,?_⟩
   show aG (fun c2=>?_) (fun c2=>?_)
   . show⟨_,U,_,U,_,_,U,U,c,k+1000,U,by lia,by lia,fun i H2 i1 s2=>⟨YK,fun p hp=>?_⟩⟩
     show q (.ref p) (.num i) _ (az (aa sz s2) hp) ⟨p,U,ae⟩ ⟨RO,i1,Sd _,t6 (m:=34) _ (by left)⟩
   show kR2 _ _ ?_
   show⟨_,U,_,U,_,_,U,U,⟨by left,by right⟩,_,U,nl,_,U,.inl (aH.of Dz.hn),_,_,U,U,(by rw[Rn];lia),?_⟩
   rw[Rn]
   obtain⟨x,eF,dg⟩:=fZ V.str ns (aP (k:=r/9) (n:=(ns.length:Int)) (by lia)) (aQ (by lia))
   show cH Dz.hn dg ?_
   show⟨YK,fun p hp=>?_⟩
   show q (.ref p) (.box "box" x) _ (az sz hp) ⟨p,U,ae⟩ ⟨RO,⟨U,eF⟩,Sd _,t6 (m:=11) _ (by left)⟩
 have d1:=CQ cd
 show kR _ _ (aq fun Rk kR=>?_)
 show⟨_,U,_,U,_,_,U,U,.inr ⟨by lia,by lia⟩,_,_,U,U,_,U,_,U,_,_,U,U,c,2*k+1,nl,d-1,ns,U,D,by lia,by lia,by lia,by lia,fun v e H2 s2 ev w1=>?_⟩
 show ak (kR _ _ ?_)
 show aw [some (.int c),some (.int k),some (.ref nl),some (.int d),some (.int r),some v] U ?_
 show⟨YK,fun L8 hL=>?_⟩
 obtain⟨H3,sL,gL,zz⟩:=aZ hL (.lst [.str "plus",.str "less"])
 rw[zz];clear zz
 show⟨_,U,_,_,U,U,⟨by left,by right⟩,_,_,U,U,(by change(0:Int)<2;decide),?_⟩
 obtain⟨kk,dg,Fg⟩:=xu (a:=.plus) (b:=.less) (aP (k:=r/3) (n:=2) (by left)) (aQ (by left))
 show cH gL dg ?_
 show⟨_,U,_,U,_,U,_,_,U,U,.inr ⟨by lia,by lia⟩,_,_,U,U,_,U,_,U,_,_,U,U,c,2*k+2,nl,d-1,ns,U,D.go (aa s2 sL),by lia,by lia,by lia,by lia,fun v2 e2 H4 s4 vC w2=>⟨YL,fun p hp=>?_⟩⟩
 have Er:=az (aa sL s4) (o:=.tup [.str kk.str,v,v2]) hp
 show q (.ref p) (.two kk e e2) _ (aa s2 Er) ⟨v,v2,⟨p,U,ae⟩,ev.keep (ai.tk Er),vC.keep (lB hp _)⟩ ⟨?_,⟨w1.ok,w2.ok⟩,?_,?_⟩
 . rcases Fg with rfl|rfl<;>show⟨w1.is,w2.is⟩
 . have h1:=w1.dp
   have h2:=w2.dp
   change max e.dep e2.dep+1<=d.toNat
   lia
 . have h1:=w1.sz
   have h2:=w2.sz
   have ed:d.toNat=(d-1).toNat+1:=by lia
   change e.sz+e2.sz+3+3<=34*2^d.toNat
   rw[ed,Wn]
   lia
def zg (s:Src K mg "_law_sum" Et)(m_len:mg "len"=none)(ST0:b7 P w K mg base "_law_stir" ["cell","k"] 1 cm)(NU0:b7 P w K mg base "_law_number" ["cell","k"] 2 yc):∀n:Nat,b7 P w K mg base "_law_sum" ["cell","k","names","deep"] (n+3) (gS n):=by
 obtain⟨f,fd,F,m⟩:=s
 have b:Binds K fd ["cell","k","names","deep"] []:=Cj F fun z z z z z z z z z z=>rfl
 intro n
 have all:aY P w K mg base dq (n+3) f fd ["cell","k","names","deep"] (gS n):=by
   induction n with
   | zero=>show wD
   | succ n ih=>show Dg F m_len ST0 NU0 ⟨f,fd,ih,F.kp,b,m⟩
 show⟨f,fd,all,F.kp,b,m⟩
abbrev Na:Stmt:=top 51
abbrev M9:Stmt:=top 52
def kc:Nat->Int
 | 0=>1073741824
 | n+1=>(kc n-2)/3
theorem Bi:∀n,kc n<=1073741824
 | 0=>by left
 | n+1=>by
   have:=Bi n
   change(kc n-2)/3<=_
   lia
def GN {n:Nat}{k:Int}(h:k<kc (n+1)):3*k+2<kc n:=by
 have:k<(kc n-2)/3:=h
 lia
def kY (n m:Nat)(h:m<=272):m<=272*2^n:=by
 have:1<=2^n:=Vl
 lia
def iw (n:Nat):Sp:=fun vs H Q z=>∃(c k:Int) (nl:Addr) (d:Int) (ns:List Str),vs=[.int c,.int k,.ref nl,.int d]/\Nm H nl ns/\0<=k/\k<kc n/\0<=d/\d<n/\∀(v:V) (e:E) (H':Hp),ai H H'->cJ H' v e->lT ns (d.toNat+3) (272*2^d.toNat) e->Q v H'
def ue {f:Addr}{fd:RZ}:aY P w K mg base dq 7 f fd ["cell","k","names","deep"] (iw 0):=by
 have no:∀vs H Q E,¬ iw 0 vs H Q E:=fun vs H Q E h=>by
   obtain⟨c,k,nl,d,ns,_,_,_,_,d0,dn,_⟩:=h
   lia
 show⟨fun vs H Q E h=>au h (no vs H Q E),fun A outer s H args us vs Q E z z z z h=>au h (no vs H Q E)⟩
def kW:aC ["cell","k","names","deep","number","kind","one"] ["cell","k","names","deep"] (ao xN):=eU
def Ft (n:Nat):1<=2^n:=Vl
def zK {n:Nat}{f:Addr}{fd:RZ}(F:cD K "_law_condition" "_law_condition" xN f fd)(ST0:b7 P w K mg base "_law_stir" ["cell","k"] 1 cm)(SM0:b7 P w K mg base "_law_sum" ["cell","k","names","deep"] 6 (gS 3))(G:b7 P w K mg base "_law_condition" ["cell","k","names","deep"] (n+7) (iw n)):aY P w K mg base dq (n+1+7) f fd ["cell","k","names","deep"] (iw (n+1)):=by
 show F.iU kW fun cdv A outer s H vs Q E hr h=>?_
 obtain⟨c,k,nl,d,ns,rfl,D,k0,k1,d0,dn,q⟩:=h
 have ST:=ST0.mono (show 1<=n+7 by lia)
 have SM:=SM0.mono (show 6<=n+7 by lia)
 have kl:=Bi (n+1)
 have ku:=GN k1
 have Q6:3500000000<kb 3:=by left
 show ig ⟨_,(Wv (Wy 4 kW.nd (WA ST hr U (L (Y 0) (L (Y 1) M))))
   (Wv (Wy 5 kW.nd (Wt WG (Y 4) Ws))
   (Wv (WB (Wx WL (Y 5) Ws) (Ww (WC (WH (L Wu M)))) WE)
   (Wv (WB (WV (WX (Wx WL (Y 5) Ws) (W6 (Wx Xi (Y 3) Ws)))) (Ww (WC (WH (L Wu (L (WA G hr U (L (Y 0) (L (Wt WN (Wt WY Ws (Y 1)) Ws) (L (Y 2) (L (Wt Xw (Y 3) Ws) M))))) M))))) WE)
   (Wv (WB (WV (WX (Wx Xl (Y 5) Ws) (W6 (Wx Xi (Y 3) Ws)))) (Wv (Wy 6 kW.nd (WA G hr U (L (Y 0) (L (Wt WN (Wt WY Ws (Y 1)) Ws) (L (Y 2) (L (Wt Xw (Y 3) Ws) M))))))
   (Ww (WC (WH (L Wu (L (Y 6) (L (WA G hr U (L (Y 0) (L (Wt WN (Wt WY Ws (Y 1)) Ws) (L (Y 2) (L (Wt Xw (Y 3) Ws) M))))) M))))))) WE)
   (Wv (Wy 6 kW.nd (WA SM hr U (L (Y 0) (L (Wt WN (Wt WY Ws (Y 1)) Ws) (L (Y 2) (L Ws M))))))
   (Ww (WC (WH (L (Wz WK (WD (L Wu (L Wu M))) (Wt WG (Wt WT (Y 4) Ws) Ws)) (L (Y 6) (L (WA SM hr U (L (Y 0) (L (Wt WN (Wt WY Ws (Y 1)) Ws) (L (Y 2) (L Ws M))))) M)))))))))))),?_⟩
 show tu fun Rk kR=>?_
 show⟨_,U,_,U,c,k,U,k0,by lia,fun r r0 r1=>?_⟩
 show ak ?_
 show⟨_,U,_,_,U,U,(by change(0:Int)<6;decide),?_⟩
 show ak (kR _ _ ?_)
 show aw [some (.int c),some (.int k),some (.ref nl),some (.int d),some (.int r),some (.int (r%6)),none] U ?_
 show aq fun Rk kR=>?_
 show⟨_,U,U,_,U,?_⟩
 show aG (fun cd=>?_) (fun cd=>?_)
 . show⟨YJ,fun p hp=>?_⟩
   show q (.ref p) .yes _ (af hp _) ⟨p,U,ae⟩ ⟨RO,RO,Sd _,kY _ _ (by left)⟩
 show kR _ _ (aq fun Rk kR=>?_)
 show⟨_,U,U,_,U,?_⟩
 suffices hs:Rk [some (.int c),some (.int k),some (.ref nl),some (.int d),some (.int r),some (.int (r%6)),none] H by
   show aG (fun c1=>?_) (fun c1=>cb hs)
   show⟨_,U,_,_,U,U,_,U,?_⟩
   show aG (fun c2=>?_) (fun c2=>hs)
   have JT:0<d:=jg c2
   show⟨_,U,_,U,_,_,U,U,.inr ⟨by lia,by lia⟩,_,_,U,U,_,U,_,U,_,_,U,U,c,3*k+1,nl,d-1,ns,U,D,by lia,by lia,by lia,by lia,fun v e H2 s2 ev w1=>?_⟩
   show⟨YK,fun p hp=>?_⟩
   show q (.ref p) (.nt e) _ (az s2 hp) ⟨v,⟨p,U,ae⟩,ev.keep (lB hp _)⟩ ⟨w1.is,w1.ok,?_,?_⟩
   . have:=w1.dp
     change e.dep+1<=d.toNat+3
     lia
   . have h1:=w1.sz
     have ed:d.toNat=(d-1).toNat+1:=by lia
     change e.sz+1+3<=272*2^d.toNat
     have:=Ft (d-1).toNat
     rw[ed,Wn]
     lia
 show kR _ _ (aq fun Rk kR=>?_)
 show⟨_,U,_,_,U,U,_,U,?_⟩
 suffices hs:Rk [some (.int c),some (.int k),some (.ref nl),some (.int d),some (.int r),some (.int (r%6)),none] H by
   show aG (fun c1=>?_) (fun c1=>cb hs)
   show⟨_,U,_,_,U,U,_,U,?_⟩
   show aG (fun c2=>?_) (fun c2=>hs)
   have JT:0<d:=jg c2
   show aq fun Rk kR=>?_
   show⟨_,U,_,U,_,_,U,U,.inr ⟨by lia,by lia⟩,_,_,U,U,_,U,_,U,_,_,U,U,c,3*k+1,nl,d-1,ns,U,D,by lia,by lia,by lia,by lia,fun v e H2 s2 ev w1=>?_⟩
   show ak (kR _ _ ?_)
   show aw [some (.int c),some (.int k),some (.ref nl),some (.int d),some (.int r),some (.int (r%6)),some v] U ?_
   show⟨_,U,_,U,_,U,_,_,U,U,.inr ⟨by lia,by lia⟩,_,_,U,U,_,U,_,U,_,_,U,U,c,3*k+2,nl,d-1,ns,U,D.go s2,by lia,by lia,by lia,by lia,fun v2 e2 H3 s3 vC w2=>?_⟩
   show⟨YL,fun p hp=>?_⟩
   have M5:=az s3 (o:=.tup [.str "both",v,v2]) hp
   show q (.ref p) (.two .both e e2) _ (aa s2 M5) ⟨v,v2,⟨p,U,ae⟩,ev.keep (ai.tk M5),vC.keep (lB hp _)⟩ ⟨⟨w1.is,w2.is⟩,⟨w1.ok,w2.ok⟩,?_,?_⟩
   . have h1:=w1.dp
     have h2:=w2.dp
     change max e.dep e2.dep+1<=d.toNat+3
     lia
   . have h1:=w1.sz
     have h2:=w2.sz
     have ed:d.toNat=(d-1).toNat+1:=by lia
     change e.sz+e2.sz+3+3<=272*2^d.toNat
     rw[ed,Wn]
     lia
 show kR _ _ (aq fun Rk kR=>?_)
 show⟨_,U,_,U,_,_,U,U,.inr ⟨by lia,by lia⟩,_,_,U,U,_,U,c,3*k+3,nl,2,ns,U,D,by lia,by lia,by left,by left,fun v e H2 s2 ev w1=>?_⟩
 show ak (kR _ _ ?_)
 show aw [some (.int c),some (.int k),some (.ref nl),some (.int d),some (.int r),some (.int (r%6)),some v] U ?_
 show⟨YK,fun L8 hL=>?_⟩
 obtain⟨H3,sL,gL,zz⟩:=aZ hL (.lst [.str "same",.str "under"])
 rw[zz];clear zz
 show⟨_,U,_,_,U,U,⟨by left,by right⟩,_,_,U,U,(by change(0:Int)<2;decide),?_⟩
 obtain⟨kk,dg,Fg⟩:=xu (a:=.same) (b:=.under) (aP (k:=r/6) (n:=2) (by left)) (aQ (by left))
 show cH gL dg ?_
 show⟨_,U,_,U,_,U,_,_,U,U,.inr ⟨by lia,by lia⟩,_,_,U,U,_,U,c,3*k+200,nl,2,ns,U,D.go (aa s2 sL),by lia,by lia,by left,by left,fun v2 e2 H4 s4 vC w2=>⟨YL,fun p hp=>?_⟩⟩
 have Er:=az (aa sL s4) (o:=.tup [.str kk.str,v,v2]) hp
 show q (.ref p) (.two kk e e2) _ (aa s2 Er) ⟨v,v2,⟨p,U,ae⟩,ev.keep (ai.tk Er),vC.keep (lB hp _)⟩ ⟨?_,⟨w1.ok,w2.ok⟩,?_,kY _ _ ?_⟩
 . rcases Fg with rfl|rfl<;>show⟨w1.is,w2.is⟩
 . have h1:e.dep<=2:=w1.dp
   have h2:e2.dep<=2:=w2.dp
   change max e.dep e2.dep+1<=d.toNat+3
   lia
 . have h1:e.sz+3<=136:=w1.sz
   have h2:e2.sz+3<=136:=w2.sz
   change e.sz+e2.sz+3+3<=272
   lia
def vK (s:Src K mg "_law_condition" xN)(ST0:b7 P w K mg base "_law_stir" ["cell","k"] 1 cm)(SM0:b7 P w K mg base "_law_sum" ["cell","k","names","deep"] 6 (gS 3)):∀n:Nat,b7 P w K mg base "_law_condition" ["cell","k","names","deep"] (n+7) (iw n):=by
 obtain⟨f,fd,F,m⟩:=s
 have b:Binds K fd ["cell","k","names","deep"] []:=Cj F fun z z z z z z z z z z=>rfl
 intro n
 have all:aY P w K mg base dq (n+7) f fd ["cell","k","names","deep"] (iw n):=by
   induction n with
   | zero=>show ue
   | succ n ih=>show zK F ST0 SM0 ⟨f,fd,ih,F.kp,b,m⟩
 show⟨f,fd,all,F.kp,b,m⟩
def EG:Sp:=fun vs H Q z=>∃(c:Int) (u:V) (nl:Addr) (ns:List Str) (e:E) (d s:Nat),vs=[.int c,u,.ref nl]/\Nm H nl ns/\cJ H u e/\lU ns d s e/\∀(v:V) (e:E) (H':Hp),ai H H'->cJ H' v e->lU ns (d+15) (s+510) e->Q v H'
def Bp {k:Int}{xs:List V}(h0:0<=k)(h1:k<4)(P:V->Prop){a b c d:V}(e:xs=[a,b,c,d])(ha:P a)(hb:P b)(hc:P c)(hd:P d):∃v,iz xs k=some v/\P v:=by
 subst e
 rcases(show k=0\/k=1\/k=2\/k=3 by lia)with rfl|rfl|rfl|rfl
 . show⟨a,U,ha⟩
 . show⟨b,U,hb⟩
 . show⟨c,U,hc⟩
 . show⟨d,U,hd⟩
def uH:aC ["cell","told","names","k","number","more"] ["cell","told","names"] (ao Na):=eU
def G5 {f:Addr}{fd:RZ}(F:cD K "_law_grown_sum" "_law_grown_sum" Na f fd)(m_len:mg "len"=none)(m_range:mg "range"=none)(ST:b7 P w K mg base "_law_stir" ["cell","k"] 1 cm):aY P w K mg base dq 2 f fd ["cell","told","names"] EG:=by
 show F.iU uH fun cdv A outer s H vs Q E hr h=>?_
 obtain⟨c,u,nl,ns,e,d,s0,rfl,D,eu,wu,q⟩:=h
 show ig ⟨_,(Wv (W8 (Xu U m_range (L (Wt WN Ws (Wt WG (WA ST hr U (L (Y 0) (L Ws M))) Ws)) M)) (WI 3 uH.nd) (Wv (Wy 4 uH.nd (WA ST hr U (L (Y 0) (L (Wt WN Ws (Y 3)) M))))
   (Wv (Wy 5 uH.nd (WH (L Wu (L (Wt WG (Wt WT (Y 4) Ws) Ws) M))))
   (Wv (WB (WV (WX (Wx (Xf (m:=2) (dm hr _ (by left))) (Y 2) (WD M)) (W6 (Wx WL (Wt WG (Wt WT (Y 4) Ws) Ws) Ws)))) (Ww (Wy 5 uH.nd (WH (L Wu (L (Wz WK (Y 2) (Wt WG (Wt WT (Y 4) Ws) (WJ WO U m_len RG (L (Y 2) M)))) M))))) WE)
   (Ww (Wy 1 uH.nd (Wz WK (WD (L (WH (L Wu (L (Y 1) (L (Y 5) M)))) (L (WH (L Wu (L (Y 5) (L (Y 1) M)))) (L (WH (L Wu (L (Y 1) (L (Y 5) M)))) (L (WH (L Wu (L (Y 5) (L (Y 1) M)))) M))))) (Wt WG (Y 4) Ws))))))))
   (Ww (WC (Y 1)))),?_⟩
 show aq fun Rk kR=>?_
 show⟨_,U,c,3000,U,by left,by left,fun r r0 r1=>⟨_,_,U,U,(by change(0:Int)<15;decide),_,_,U,U,1+r%15,U,?_⟩⟩
 have m0:=aP (k:=r) (n:=15) (by left)
 have m1:=aQ (k:=r) (n:=15) (by left)
 show⟨by lia,by lia,?_⟩
 show gf (lo:=0) (n:=(1+r%15).toNat) (fun i σ Hx=>ai H Hx/\∃v e o3 o4 o5,σ=[some (.int c),some v,some (.ref nl),o3,o4,o5]/\cJ Hx v e/\lU ns (d+i) (s0+34*i) e) ⟨same_refl _,u,e,_,_,_,U,eu,wu⟩ (fun i σ Hx hi z=>?_) (fun σ Hx z=>?_)
 . obtain⟨sx,v,e,o3,o4,o5,rfl,ev,we⟩:=z
   have Dx:=D.go sx
   show ak ?_
   show aw [some (.int c),some v,some (.ref nl),some (.int (0+(i:Int))),o4,o5] U ?_
   show aq fun Rj kj=>?_
   show⟨_,U,_,U,_,_,U,U,c,3001+(0+(i:Int)),U,by lia,by lia,fun k k0 k1=>?_⟩
   show ak ?_
   show kj _ _ ?_
   show aw [some (.int c),some v,some (.ref nl),some (.int (0+(i:Int))),some (.int k),o5] U ?_
   show aq fun Rj kj=>?_
   show⟨_,U,_,_,U,U,⟨by left,by right⟩,_,_,U,U,(by change(0:Int)<100;decide),YK,fun p1 kG=>?_⟩
   have A6:=aP (k:=k/8) (n:=100) (by left)
   have E9:=aQ (k:=k/8) (n:=100) (by left)
   obtain⟨nn,FT⟩ : ∃nn,nn=k/8%100:=⟨_,rfl⟩
   rw[← FT]at A6 E9
   show rJ (upd Hx p1 (.tup [.str "number",.int nn])) (by subst FT;rfl) ?_
   obtain⟨H1,s1,g1,zz⟩:=aZ kG (.tup [.str "number",.int nn])
   rw[zz];clear zz
   show ak ?_
   show kj _ _ ?_
   show aw [some (.int c),some v,some (.ref nl),some (.int (0+(i:Int))),some (.int k),some (.ref p1)] U ?_
   show aq fun Rj kj=>?_
   suffices hs:∀(m:V) (em:TW.E) (H5:Hp),ai H1 H5->cJ H5 m em->lU ns 0 34 em->Rj [some (.int c),some v,some (.ref nl),some (.int (0+(i:Int))),some (.int k),some m] H5 by
     have en:cJ H1 (.ref p1) (.num nn):=⟨p1,rfl,g1⟩
     have dn:lU ns 0 34 (.num nn):=⟨RO,⟨A6,ub (by lia)⟩,Rz _,Rz _⟩
     show⟨_,U,YI,fun z hz=>?_⟩
     obtain⟨Hz,sz,gz,zz⟩:=aZ hz (.lst [])
     rw[zz];clear zz
     have Dz:=Dx.go (aa s1 sz)
     show⟨_,RB.nil (aH.of Dz.hn) (aH.of gz),_,U,?_⟩
     show aG (fun c1=>?_) (fun c1=>cb (hs _ _ _ sz (en.keep (ai.tk sz)) dn))
     have vQ:0<ns.length:=by
       cases ns with
       | nil=>show au c1 (by left)
       | cons a l=>show S8 _
     show⟨_,U,_,_,U,U,⟨by left,by right⟩,_,_,U,U,(by change(0:Int)<2;decide),U,_,U,?_⟩
     show aG (fun c2=>?_) (fun c2=>hs _ _ _ sz (en.keep (ai.tk sz)) dn)
     show⟨_,U,_,U,_,_,U,U,⟨by left,by right⟩,_,U,nl,_,U,.inl (aH.of Dz.hn),_,_,U,U,(by rw[Rn];lia),?_⟩
     rw[Rn]
     obtain⟨x,eF,dg⟩:=fZ V.str ns (aP (k:=k/8) (n:=(ns.length:Int)) (by lia)) (aQ (by lia))
     show cH Dz.hn dg ?_
     show⟨YK,fun p hp=>?_⟩
     show hs (.ref p) (.box "box" x) _ (az sz hp) ⟨p,U,ae⟩ ⟨RO,⟨U,eF⟩,Rz _,(by change 8+3<=34;decide)⟩
   intro m em H5 s5 JV wm
   have FW:=ev.keep (ai.tk (aa s1 s5))
   show kj _ _ ?_
   show⟨_,U,_,U,YL,fun a1 F9=>⟨_,U,_,U,YL,fun a2 Ga=>⟨_,U,_,U,YL,fun a3 Kn=>⟨_,U,_,U,YL,fun a4 Ko=>⟨YM,fun L8 hL=>?_⟩⟩⟩⟩⟩
   have t1:=af F9 (.tup [.str "plus",v,m])
   have t2:=af Ga (.tup [.str "plus",m,v])
   have t3:=af Kn (.tup [.str "less",v,m])
   have t4:=af Ko (.tup [.str "less",m,v])
   have tL:=af hL (.lst [.ref a1,.ref a2,.ref a3,.ref a4])
   have y4:=aa t4 tL
   have y3:=aa t3 y4
   have y2:=aa t2 y3
   have y1:=aa t1 y2
   have g1:=y2 _ _ (ae (H:=H5) (a:=a1) (o:=.tup [.str "plus",v,m]))
   have g2:=y3 _ _ (ae (a:=a2) (o:=.tup [.str "plus",m,v]))
   have g3:=y4 _ _ (ae (a:=a3) (o:=.tup [.str "less",v,m]))
   have g4:=tL _ _ (ae (a:=a4) (o:=.tup [.str "less",m,v]))
   show⟨_,U,_,_,U,U,(by change(0:Int)<4;decide),?_⟩
   have gL:=ae (H:=(upd (upd (upd (upd H5 a1 (.tup [.str "plus",v,m])) a2 (.tup [.str "plus",m,v])) a3 (.tup [.str "less",v,m])) a4 (.tup [.str "less",m,v]))) (a:=L8) (o:=.lst [.ref a1,.ref a2,.ref a3,.ref a4])
   generalize(upd (upd (upd (upd (upd H5 a1 (.tup [.str "plus",v,m])) a2 (.tup [.str "plus",m,v])) a3 (.tup [.str "less",v,m])) a4 (.tup [.str "less",m,v])) L8 (.lst [.ref a1,.ref a2,.ref a3,.ref a4]))=H9 at g1 g2 g3 g4 gL y1 ⊢
   have yW:=FW.keep (ai.tk y1)
   have Cp:=JV.keep (ai.tk y1)
   have szz:∀k,(k=K2.plus\/k=.less)->lU ns (d+(i+1)) (s0+34*(i+1)) (.two k e em)/\lU ns (d+(i+1)) (s0+34*(i+1)) (.two k em e):=fun k hk=>by
     have h1:=we.dp
     have h2:em.dep<=0:=wm.dp
     have h3:=we.sz
     have h4:em.sz+3<=34:=wm.sz
     constructor
     . show⟨?_,⟨we.ok,wm.ok⟩,?_,?_⟩
       . rcases hk with rfl|rfl<;>show⟨we.is,wm.is⟩
       . change max e.dep em.dep+1<=_
         lia
       . change e.sz+em.sz+3+3<=_
         lia
     . show⟨?_,⟨wm.ok,we.ok⟩,?_,?_⟩
       . rcases hk with rfl|rfl<;>show⟨wm.is,we.is⟩
       . change max em.dep e.dep+1<=_
         lia
       . change em.sz+e.sz+3+3<=_
         lia
   obtain⟨w9,dg,e9,JY,LA⟩:=Bp (xs:=[.ref a1,.ref a2,.ref a3,.ref a4]) (aP (k:=k) (n:=4) (by left)) (aQ (by left)) (fun w=>∃e9:TW.E,cJ H9 w e9/\lU ns (d+(i+1)) (s0+34*(i+1)) e9) rfl
     ⟨.two .plus e em,⟨v,m,⟨a1,rfl,g1⟩,yW,Cp⟩,(szz .plus (.inl rfl)).1⟩ ⟨.two .plus em e,⟨m,v,⟨a2,rfl,g2⟩,Cp,yW⟩,(szz .plus (.inl rfl)).2⟩ ⟨.two .less e em,⟨v,m,⟨a3,rfl,g3⟩,yW,Cp⟩,(szz .less (.inr rfl)).1⟩ ⟨.two .less em e,⟨m,v,⟨a4,rfl,g4⟩,Cp,yW⟩,(szz .less (.inr rfl)).2⟩
   show cH gL dg ?_
   show⟨aa (aa sx s1) (aa s5 y1),w9,e9,_,_,_,U,JY,LA⟩
 obtain⟨sx,v,e,o3,o4,o5,rfl,ev,we⟩:=z
 show kR _ _ ?_
 show⟨_,U,q v e Hx sx ev ⟨we.is,we.ok,?_,?_⟩⟩
 . have:=we.dp
   lia
 . have:=we.sz
   lia
abbrev Lh:Stmt:=top 53
def Ir:Sp:=fun vs H Q z=>∃(c:Int) (u:V) (ns:List Str) (e:E) (d s:Nat),vs=[.int c,u]/\cJ H u e/\lT ns d s e/\1<=d/\∀(v:V) (e:E) (H':Hp),ai H H'->cJ H' v e->lT ns (d+12) (s+816) e->Q v H'
def D3 {k:Int}{xs:List V}(h0:0<=k)(h1:k<2)(P:V->Prop){a b:V}(e:xs=[a,b])(ha:P a)(hb:P b):∃v,iz xs k=some v/\P v:=by
 subst e
 rcases(show k=0\/k=1 by lia)with rfl|rfl
 . show⟨a,U,ha⟩
 . show⟨b,U,hb⟩
def xT:aC ["cell","told","k","number","more"] ["cell","told"] (ao M9):=eU
def G4 {f:Addr}{fd:RZ}(F:cD K "_law_grown_condition" "_law_grown_condition" M9 f fd)(m_range:mg "range"=none)(ST:b7 P w K mg base "_law_stir" ["cell","k"] 1 cm):aY P w K mg base dq 2 f fd ["cell","told"] Ir:=by
 show F.iU xT fun cdv A outer s H vs Q E hr h=>?_
 obtain⟨c,u,ns,e,d,s0,rfl,eu,wu,hd,q⟩:=h
 show ig ⟨_,(Wv (W8 (Xu U m_range (L (Wt WN Ws (Wt WG (WA ST hr U (L (Y 0) (L Ws M))) Ws)) M)) (WI 2 xT.nd) (Wv (Wy 3 xT.nd (WA ST hr U (L (Y 0) (L (Wt WN Ws (Y 2)) M))))
   (Wv (Wy 4 xT.nd (Wz WK (WD (L (WH (L Wu M)) (L (WH (L Wu (L (WH (L Wu (L (Wt WG (Wt WT (Y 3) Ws) Ws) M))) (L (WH (L Wu (L Ws M))) M)))) M))) (Wt WG (Wt WT (Y 3) Ws) Ws)))
   (Ww (Wy 1 xT.nd (Wz WK (WD (L (WH (L Wu (L (Y 1) M))) (L (WH (L Wu (L (Y 1) (L (Y 4) M)))) (L (WH (L Wu (L (Y 4) (L (Y 1) M)))) (L (WH (L Wu (L (Y 1) M))) M))))) (Wt WG (Y 3) Ws)))))))
   (Ww (WC (Y 1)))),?_⟩
 show aq fun Rk kR=>?_
 show⟨_,U,c,3020,U,by left,by left,fun r r0 r1=>⟨_,_,U,U,(by change(0:Int)<12;decide),_,_,U,U,1+r%12,U,?_⟩⟩
 have m0:=aP (k:=r) (n:=12) (by left)
 have m1:=aQ (k:=r) (n:=12) (by left)
 show⟨by lia,by lia,?_⟩
 show gf (lo:=0) (n:=(1+r%12).toNat) (fun i σ Hx=>ai H Hx/\∃v e o3 o4 o5,σ=[some (.int c),some v,o3,o4,o5]/\cJ Hx v e/\lT ns (d+i) (s0+68*i) e) ⟨same_refl _,u,e,_,_,_,U,eu,wu⟩ (fun i σ Hx hi z=>?_) (fun σ Hx z=>?_)
 . obtain⟨sx,v,e,o3,o4,o5,rfl,ev,we⟩:=z
   show ak ?_
   show aw [some (.int c),some v,some (.int (0+(i:Int))),o4,o5] U ?_
   show aq fun Rj kj=>?_
   show⟨_,U,_,U,_,_,U,U,c,3021+(0+(i:Int)),U,by lia,by lia,fun k k0 k1=>?_⟩
   show ak ?_
   show kj _ _ ?_
   show aw [some (.int c),some v,some (.int (0+(i:Int))),some (.int k),o5] U ?_
   show aq fun Rj kj=>?_
   show⟨YJ,fun b1 ON=>?_⟩
   have t1:=af ON (.tup [.str "yes"])
   have g1:(upd Hx b1 (.tup [.str "yes"])) b1=some (.tup [.str "yes"]):=ae
   generalize upd Hx b1 (.tup [.str "yes"])=H1 at t1 g1 ⊢
   show⟨_,U,_,_,U,U,⟨by left,by right⟩,_,_,U,U,(by change(0:Int)<9;decide),YK,fun b2 OO=>?_⟩
   have A6:=aP (k:=k/8) (n:=9) (by left)
   have E9:=aQ (k:=k/8) (n:=9) (by left)
   obtain⟨nn,FT⟩ : ∃nn,nn=k/8%9:=⟨_,rfl⟩
   have N9:(upd H1 b2 (.tup [.str "number",.int (k/8%9)]))=upd H1 b2 (.tup [.str "number",.int nn]):=by rw[FT]
   rw[← FT]at A6 E9
   have t2:=af OO (.tup [.str "number",.int (k/8%9)])
   have g2:(upd H1 b2 (.tup [.str "number",.int (k/8%9)])) b2=some (.tup [.str "number",.int nn]):=by rw[N9];show ae
   show⟨YK,fun b3 OP=>?_⟩
   have t3:=af OP (.tup [.str "number",.int 4])
   have g3:=ae (H:=upd H1 b2 (.tup [.str "number",.int (k/8%9)])) (a:=b3) (o:=.tup [.str "number",.int 4])
   have t23:=aa t2 t3
   have g2:=t3 _ _ g2
   generalize upd (upd H1 b2 (.tup [.str "number",.int (k/8%9)])) b3 (.tup [.str "number",.int 4])=H3 at t23 g2 g3 ⊢
   show⟨YL,fun b4 OQ=>⟨YK,fun L8 hL=>?_⟩⟩
   have t4:=af OQ (.tup [.str "under",.ref b2,.ref b3])
   have tL:=af hL (.lst [.ref b1,.ref b4])
   have g4:=tL _ _ (ae (H:=H3) (a:=b4) (o:=.tup [.str "under",.ref b2,.ref b3]))
   have gL:=ae (H:=upd H3 b4 (.tup [.str "under",.ref b2,.ref b3])) (a:=L8) (o:=.lst [.ref b1,.ref b4])
   have Iv:=aa t4 tL
   generalize upd (upd H3 b4 (.tup [.str "under",.ref b2,.ref b3])) L8 (.lst [.ref b1,.ref b4])=H4 at Iv g4 gL ⊢
   have g1:=Iv _ _ (t23 _ _ g1)
   have g2:=Iv _ _ g2
   have g3:=Iv _ _ g3
   have s4:=aa t1 (aa t23 Iv)
   show⟨_,U,_,_,U,U,⟨by left,by right⟩,_,_,U,U,(by change(0:Int)<2;decide),?_⟩
   obtain⟨m,dg,em,JV,wm⟩:=D3 (xs:=[.ref b1,.ref b4]) (aP (k:=k/4) (n:=2) (by left)) (aQ (by left)) (fun w=>∃e9:TW.E,cJ H4 w e9/\lT ns 1 68 e9) rfl
     ⟨.yes,⟨b1,rfl,g1⟩,⟨RO,RO,Sd _,by left⟩⟩ ⟨.two .under (.num nn) (.num 4),⟨_,_,⟨b4,rfl,g4⟩,⟨b2,rfl,g2⟩,⟨b3,rfl,g3⟩⟩,⟨⟨RO,RO⟩,⟨⟨A6,ub (by lia)⟩,⟨by left,by left⟩⟩,by change max 0 0+1<=1;decide,by change 31+31+3+3<=68;decide⟩⟩
   show cH gL dg ?_
   show ak ?_
   show kj _ _ ?_
   show aw [some (.int c),some v,some (.int (0+(i:Int))),some (.int k),some m] U ?_
   have FW:=ev.keep (ai.tk s4)
   show⟨_,U,YK,fun a1 F9=>⟨_,U,_,U,YL,fun a2 Ga=>⟨_,U,_,U,YL,fun a3 Kn=>⟨_,U,YK,fun a4 Ko=>⟨YM,fun L8 hL=>?_⟩⟩⟩⟩⟩
   have t1:=af F9 (.tup [.str "not",v])
   have t2:=af Ga (.tup [.str "both",v,m])
   have t3:=af Kn (.tup [.str "both",m,v])
   have t4:=af Ko (.tup [.str "not",v])
   have tL:=af hL (.lst [.ref a1,.ref a2,.ref a3,.ref a4])
   have y4:=aa t4 tL
   have y3:=aa t3 y4
   have y2:=aa t2 y3
   have y1:=aa t1 y2
   have g1:=y2 _ _ (ae (H:=H4) (a:=a1) (o:=.tup [.str "not",v]))
   have g2:=y3 _ _ (ae (a:=a2) (o:=.tup [.str "both",v,m]))
   have g3:=y4 _ _ (ae (a:=a3) (o:=.tup [.str "both",m,v]))
   have g4:=tL _ _ (ae (a:=a4) (o:=.tup [.str "not",v]))
   show⟨_,U,_,_,U,U,(by change(0:Int)<4;decide),?_⟩
   have gL:=ae (H:=(upd (upd (upd (upd H4 a1 (.tup [.str "not",v])) a2 (.tup [.str "both",v,m])) a3 (.tup [.str "both",m,v])) a4 (.tup [.str "not",v]))) (a:=L8) (o:=.lst [.ref a1,.ref a2,.ref a3,.ref a4])
   generalize(upd (upd (upd (upd (upd H4 a1 (.tup [.str "not",v])) a2 (.tup [.str "both",v,m])) a3 (.tup [.str "both",m,v])) a4 (.tup [.str "not",v])) L8 (.lst [.ref a1,.ref a2,.ref a3,.ref a4]))=H9 at g1 g2 g3 g4 gL y1 ⊢
   have yW:=FW.keep (ai.tk y1)
   have Cp:=JV.keep (ai.tk y1)
   have h1:=we.dp
   have h2:em.dep<=1:=wm.dp
   have h3:=we.sz
   have h4:em.sz+3<=68:=wm.sz
   have z1:lT ns (d+(i+1)) (s0+68*(i+1)) (.nt e):=⟨we.is,we.ok,by change e.dep+1<=_;lia,by change e.sz+1+3<=_;lia⟩
   have z2:lT ns (d+(i+1)) (s0+68*(i+1)) (.two .both e em):=⟨⟨we.is,wm.is⟩,⟨we.ok,wm.ok⟩,by change max e.dep em.dep+1<=_;lia,by change e.sz+em.sz+3+3<=_;lia⟩
   have z3:lT ns (d+(i+1)) (s0+68*(i+1)) (.two .both em e):=⟨⟨wm.is,we.is⟩,⟨wm.ok,we.ok⟩,by change max em.dep e.dep+1<=_;lia,by change em.sz+e.sz+3+3<=_;lia⟩
   obtain⟨w9,dg,e9,JY,LA⟩:=Bp (xs:=[.ref a1,.ref a2,.ref a3,.ref a4]) (aP (k:=k) (n:=4) (by left)) (aQ (by left)) (fun w=>∃e9:TW.E,cJ H9 w e9/\lT ns (d+(i+1)) (s0+68*(i+1)) e9) rfl
     ⟨.nt e,⟨v,⟨a1,rfl,g1⟩,yW⟩,z1⟩ ⟨.two .both e em,⟨v,m,⟨a2,rfl,g2⟩,yW,Cp⟩,z2⟩ ⟨.two .both em e,⟨m,v,⟨a3,rfl,g3⟩,Cp,yW⟩,z3⟩ ⟨.nt e,⟨v,⟨a4,rfl,g4⟩,yW⟩,z1⟩
   show cH gL dg ?_
   show⟨aa sx (aa s4 y1),w9,e9,_,_,_,U,JY,LA⟩
 obtain⟨sx,v,e,o3,o4,o5,rfl,ev,we⟩:=z
 show kR _ _ ?_
 show⟨_,U,q v e Hx sx ev ⟨we.is,we.ok,?_,?_⟩⟩
 . have:=we.dp
   lia
 . have:=we.sz
   lia
abbrev NX:List (Key×V):=[(.inr "plus",.str "+"),(.inr "less",.str "-"),(.inr "same",.str "="),(.inr "under",.str "<"),(.inr "both",.str "&")]
def sign_of (k:K2):fj NX (.inr k.str)=some (.str k.sign):=by cases k<;>rfl
def GK (k:K2):Vt "+-" k.sign=(match k with|.plus=>true|.less=>true|_=>false):=by cases k<;>decide +kernel
def ph (n:Nat):Sp:=fun vs H Q z=>∃(v:V) (e:E),vs=[v]/\cJ H v e/\(pw n e\/pL n e)/\∀H',ai H H'->Q (.str e.txt) H'
def zB {f:Addr}{fd:RZ}:aY P w K mg base dq 1 f fd ["thing"] (ph 0):=by
 have no:∀vs H Q E,¬ ph 0 vs H Q E:=fun vs H Q E h=>by
   obtain⟨v,e,_,_,h,_⟩:=h
   rcases h with⟨_,_,_,h⟩|⟨_,_,_,h⟩<;>lia
 show⟨fun vs H Q E h=>au h (no vs H Q E),fun A outer s H args us vs Q E z z z z h=>au h (no vs H Q E)⟩
def Ey:aC ["thing","sign","word"] ["thing"] (ao Lh):=eU
def G6 {n:Nat}{f:Addr}{fd:RZ}(F:cD K "_law_word" "_law_word" Lh f fd)(m_str:mg "str"=none)(m_int:mg "int"=none)(G:b7 P w K mg base "_law_word" ["thing"] (n+1) (ph n)):aY P w K mg base dq (n+1+1) f fd ["thing"] (ph (n+1)):=by
 show F.iU Ey fun cdv A outer s H vs Q E hr h=>?_
 obtain⟨v,e,rfl,ev,we,q⟩:=h
 show ig ⟨_,(Wv (WB (Wx L3.zG (Wz WM (Y 0) Ws) (WH (L Wu (L Wu M))) U) (Ww (WC (W4 Xp U m_str (by right) (L (Wz WM (Y 0) Ws) M)))) WE)
   (Wv (WB (Wx WL (Wz WM (Y 0) Ws) Wu) (Ww (WC Wu)) WE)
   (Wv (WB (Wx WL (Wz WM (Y 0) Ws) Wu) (Ww (WC (Wt WS Wu (WA G hr U (L (Wz WM (Y 0) Ws) M))))) WE)
   (Wv (Wy 1 Ey.nd (L3.JQ (dm hr _ (by left)) (L3.JS (XE Wu Wu (XE Wu Wu (XE Wu Wu (XE Wu Wu (XE Wu Wu L3.NY)))))) (Wz WM (Y 0) Ws)))
   (Wv (Wy 2 Ey.nd (Wt WS (Wt WS (WA G hr U (L (Wz WM (Y 0) Ws) M)) (Y 1)) (WA G hr U (L (Wz WM (Y 0) Ws) M))))
   (Wv (WB (Wx WL (Wz WM (Y 0) Ws) Wu) (Ww (WC (Wt WS (Wt WS Wu (Y 2)) Wu))) WE)
   (Ww (WC (Wz WK (WD (L (Y 2) (L (Wt WS (Wt WS Wu (Y 2)) Wu) M))) (W4 L3.FL U m_int (by right) (L (L3.Cn L3.wO (Y 1) Wu U) M))))))))))),?_⟩
 match e,ev,we,q with
 | .num i,ev,we,q=>
   obtain⟨p,rfl,hp⟩:=ev
   have ok:i.natAbs<2^100:=by rcases we with⟨_,h,_,_⟩|⟨_,h,_,_⟩<;>show kM h
   show aq fun Rk kR=>?_
   show⟨_,U,?_⟩
   show bR hp U ?_
   show⟨YK,fun tt zk=>⟨tt,_,U,.inr (bS.of ae),U,U,_,U,b6 ?_⟩⟩
   have s1:=af zk (.tup [.str "number",.str "box"])
   generalize upd H tt (.tup [.str "number",.str "box"])=H1 at s1 ⊢
   have kG:=s1 _ _ hp
   show⟨_,U,?_⟩
   show bR kG U ?_
   show .inl ⟨i,U,TC (eY ok) (by left),q _ s1⟩
 | .box tg x,ev,we,q=>
   obtain⟨p,rfl,hp⟩:=ev
   obtain⟨rfl,_⟩ : tg="box"/\df x:=by rcases we with⟨_,h,_,_⟩|⟨_,h,_,_⟩<;>show h
   show aq fun Rk kR=>?_
   show⟨_,U,?_⟩
   show bR hp U ?_
   show⟨YK,fun tt zk=>⟨tt,_,U,.inr (bS.of ae),U,U,_,U,b6 ?_⟩⟩
   have s1:=af zk (.tup [.str "number",.str "box"])
   generalize upd H tt (.tup [.str "number",.str "box"])=H1 at s1 ⊢
   have kG:=s1 _ _ hp
   show⟨_,U,?_⟩
   show bR kG U ?_
   show .inr ⟨x,U,q _ s1⟩
 | .yes,ev,we,q=>
   obtain⟨p,rfl,hp⟩:=ev
   show aq fun Rk kR=>?_
   show⟨_,U,?_⟩
   show bR hp U ?_
   show⟨YK,fun tt zk=>⟨tt,_,U,.inr (bS.of ae),U,U,_,U,cb ?_⟩⟩
   have s1:=af zk (.tup [.str "number",.str "box"])
   generalize upd H tt (.tup [.str "number",.str "box"])=H1 at s1 ⊢
   have kG:=s1 _ _ hp
   show kR _ _ (aq fun Rk kR=>?_)
   show⟨_,U,?_⟩
   show bR kG U ?_
   show⟨U,_,U,b6 ?_⟩
   show q _ s1
 | .nt a,ev,we,q=>
   obtain⟨x,⟨p,rfl,hp⟩,ex⟩:=ev
   have wx:pL n a:=by
     rcases we with⟨h,_,_,_⟩|⟨h1,h2,h3,h4⟩
     . show h.elim
     . show⟨h1,h2,by have:a.sz+1<=4000:=h3;lia,by have:a.dep+1<n+1:=h4;lia⟩
   have lx:=wx.len
   show aq fun Rk kR=>?_
   show⟨_,U,?_⟩
   show bR hp U ?_
   show⟨YK,fun tt zk=>⟨tt,_,U,.inr (bS.of ae),U,U,_,U,cb ?_⟩⟩
   have s1:=af zk (.tup [.str "number",.str "box"])
   generalize upd H tt (.tup [.str "number",.str "box"])=H1 at s1 ⊢
   have kG:=s1 _ _ hp
   show kR _ _ (aq fun Rk kR=>?_)
   show⟨_,U,?_⟩
   show bR kG U ?_
   show⟨U,_,U,cb ?_⟩
   show kR _ _ (aq fun Rk kR=>?_)
   show⟨_,U,?_⟩
   show bR kG U ?_
   show⟨U,_,U,b6 ?_⟩
   show⟨_,U,?_⟩
   show bR kG U ?_
   show⟨x,a,U,ex.keep (ai.tk s1),.inr wx,fun H2 s2=>⟨"!",a.txt,U,U,fit (by have:(("!":Str)).length=1:=rfl;lia),?_⟩⟩
   show q _ (aa s1 s2)
 | .two k a b,ev,we,q=>
   obtain⟨x,y,⟨p,rfl,hp⟩,ex,ey⟩:=ev
   have QL:(pw n a\/pL n a)/\(pw n b\/pL n b):=by
     rcases we with⟨h1,h2,h3,h4⟩|⟨h1,h2,h3,h4⟩
     . have h3:a.sz+b.sz+3<=4000:=h3
       have h4:max a.dep b.dep+1<n+1:=h4
       cases k<;>first|show h1.elim|show⟨.inl ⟨h1.1,h2.1,by lia,by lia⟩,.inl ⟨h1.2,h2.2,by lia,by lia⟩⟩
     . have h3:a.sz+b.sz+3<=4000:=h3
       have h4:max a.dep b.dep+1<n+1:=h4
       cases k<;>first|show h1.elim|show⟨.inl ⟨h1.1,h2.1,by lia,by lia⟩,.inl ⟨h1.2,h2.2,by lia,by lia⟩⟩|show⟨.inr ⟨h1.1,h2.1,by lia,by lia⟩,.inr ⟨h1.2,h2.2,by lia,by lia⟩⟩
   obtain⟨wx,wy⟩:=QL
   have lx:a.txt.length<=4000:=wx.elim (·.len) (·.len)
   have ly:b.txt.length<=4000:=wy.elim (·.len) (·.len)
   have lk:k.sign.length=1:=by cases k<;>rfl
   show aq fun Rk kR=>?_
   show⟨_,U,?_⟩
   show bR hp U ?_
   show⟨YK,fun tt zk=>⟨tt,_,U,.inr (bS.of ae),U,U,_,U,aG (fun c=>au c (by cases k<;>decide)) (fun z=>?_)⟩⟩
   have s1:=af zk (.tup [.str "number",.str "box"])
   generalize upd H tt (.tup [.str "number",.str "box"])=H1 at s1 ⊢
   have kG:=s1 _ _ hp
   show kR _ _ (aq fun Rk kR=>?_)
   show⟨_,U,?_⟩
   show bR kG U ?_
   show⟨U,_,U,aG (fun c=>au c (by cases k<;>decide)) (fun z=>?_)⟩
   show kR _ _ (aq fun Rk kR=>?_)
   show⟨_,U,?_⟩
   show bR kG U ?_
   show⟨U,_,U,aG (fun c=>au c (by cases k<;>decide)) (fun z=>?_)⟩
   show kR _ _ (aq fun Rk kR=>?_)
   show fun od MD=>⟨ae,[(.inr "plus",.str "+"),(.inr "less",.str "-"),(.inr "same",.str "="),(.inr "under",.str "<"),(.inr "both",.str "&")],U,(by change 5<=15;decide),?_⟩
   have s2:ai H1 (upd (upd H1 od (.dK [])) od (.dK (fH [] [(.inr "plus",.str "+"),(.inr "less",.str "-"),(.inr "same",.str "="),(.inr "under",.str "<"),(.inr "both",.str "&")]))):=bo (af MD _) MD
   have g2:(upd (upd H1 od (.dK [])) od (.dK (fH [] [(.inr "plus",.str "+"),(.inr "less",.str "-"),(.inr "same",.str "="),(.inr "under",.str "<"),(.inr "both",.str "&")]))) od=some (.dK [(.inr "plus",.str "+"),(.inr "less",.str "-"),(.inr "same",.str "="),(.inr "under",.str "<"),(.inr "both",.str "&")]):=ae
   generalize upd (upd H1 od (.dK [])) od (.dK (fH [] [(.inr "plus",.str "+"),(.inr "less",.str "-"),(.inr "same",.str "="),(.inr "under",.str "<"),(.inr "both",.str "&")]))=H2 at s2 g2 ⊢
   have rn:=s2 _ _ kG
   have gd:=j6.k (k:=.inr k.str) g2
   rw[sign_of k]at gd
   show⟨_,U,?_⟩
   show bR rn U ?_
   show⟨od,_,U,gd,?_⟩
   show ak (kR _ _ ?_)
   have Lg:=aa s1 s2
   show aw [some (.ref p),some (.str k.sign),none] U ?_
   show aq fun Rk kR=>?_
   show⟨_,U,?_⟩
   show bR rn U ?_
   show⟨x,a,U,ex.keep (ai.tk Lg),wx,fun H3 s3=>⟨_,U,_,_,U,U,fit (by lia),?_⟩⟩
   have l1:(a.txt++k.sign).length<=38401:=by rw[SU];lia
   show⟨_,U,?_⟩
   show bR (s3 _ _ rn) U ?_
   show⟨y,b,U,ey.keep (ai.tk (aa Lg s3)),wy,fun H4 s4=>⟨_,_,U,U,fit (by lia),?_⟩⟩
   have l2:(a.txt++k.sign++b.txt).length<=76801:=by rw[SU];lia
   show ak (kR _ _ ?_)
   show aw [some (.ref p),some (.str k.sign),some (.str (a.txt++k.sign++b.txt))] U ?_
   have MZ:=aa Lg (aa s3 s4)
   have Pf:=s4 _ _ (s3 _ _ rn)
   show aq fun Rk kR=>?_
   show⟨_,U,?_⟩
   show bR Pf U ?_
   show⟨U,_,U,?_⟩
   have e1:(("{":Str)).length=1:=rfl
   have e3:(("}":Str)).length=1:=rfl
   have e4:(("(":Str)).length=1:=rfl
   have e5:((")":Str)).length=1:=rfl
   have l3:("("++(a.txt++k.sign++b.txt)).length<=76802:=by rw[SU];lia
   have l4:("{"++(a.txt++k.sign++b.txt)).length<=76802:=by rw[SU];lia
   have hc:=GK k
   cases k with
   | both=>
     show b6 ?_
     show⟨_,U,"{",_,U,U,fit (by lia),_,_,U,U,fit (by lia),?_⟩
     show q _ MZ
   | _=>
     show cb ?_
     show kR _ _ ?_
     show⟨_,U,_,U,"(",_,U,U,fit (by lia),_,_,U,U,fit (by lia),YK,fun L8 hL=>?_⟩
     show⟨_,U,_,"+-",U,U,.inr ⟨_,U,?_⟩⟩
     rw[hc]
     show cH ae U ?_
     show q _ (az MZ hL)
def Cz (s:Src K mg "_law_word" Lh)(m_str:mg "str"=none)(m_int:mg "int"=none):∀n:Nat,b7 P w K mg base "_law_word" ["thing"] (n+1) (ph n):=by
 obtain⟨f,fd,F,m⟩:=s
 have b:Binds K fd ["thing"] []:=lG F fun z z z z z z z=>rfl
 intro n
 have all:aY P w K mg base dq (n+1) f fd ["thing"] (ph n):=by
   induction n with
   | zero=>show zB
   | succ n ih=>show G6 F m_str m_int ⟨f,fd,ih,F.kp,b,m⟩
 show⟨f,fd,all,F.kp,b,m⟩
abbrev M8:Stmt:=top 54
abbrev M7:Stmt:=top 55
abbrev BC:Stmt:=top 56
def lU.up {ns:List Str}{d s d' s':Nat}{e:E}(h:lU ns d s e)(h1:d<=d')(h2:s<=s'):lU ns d' s' e:=⟨h.is,h.ok,Ry h.dp h1,Ry h.sz h2⟩
def lT.up {ns:List Str}{d s d' s':Nat}{e:E}(h:lT ns d s e)(h1:d<=d')(h2:s<=s'):lT ns d' s' e:=⟨h.is,h.ok,Ry h.dp h1,Ry h.sz h2⟩
def xw {a b:Nat}(h:a<=b):2^a<=2^b:=U6 (by left) h
def Iq:Sp:=fun vs H Q z=>∃(c:Int) (nl:Addr) (m:Int) (ns:List Str),vs=[.int c,.ref nl,.int m]/\Nm H nl ns/\0<=m/\∀(v:V) (e:E) (H':Hp),ai H H'->cJ H' v e->lU ns 18 782 e->Q v H'
def Ip:Sp:=fun vs H Q z=>∃(c:Int) (nl:Addr) (m:Int) (ns:List Str),vs=[.int c,.ref nl,.int m]/\Nm H nl ns/\0<=m/\∀(v:V) (e:E) (H':Hp),ai H H'->cJ H' v e->lT ns 19 3000 e->Q v H'
def Eu:aC ["cell","names","number","told"] ["cell","names","number"] (ao M8):=eU
def G3 {f:Addr}{fd:RZ}(F:cD K "_law_any_sum" "_law_any_sum" M8 f fd)(SM:b7 P w K mg base "_law_sum" ["cell","k","names","deep"] 7 (gS 4))(GS0:b7 P w K mg base "_law_grown_sum" ["cell","told","names"] 2 EG):aY P w K mg base dq 8 f fd ["cell","names","number"] Iq:=by
 show F.iU Eu fun cdv A outer s H vs Q E hr h=>?_
 obtain⟨c,nl,m,ns,rfl,D,m0,q⟩:=h
 have GS:=GS0.mono (show 2<=7 by left)
 show ig ⟨_,(Wv (Wy 3 Eu.nd (WA SM hr U (L (Y 0) (L Ws (L (Y 1) (L (Wt WG (Y 2) Ws) M))))))
   (Wv (WB (Wx WL (Wt WG (Wt WT (Y 2) Ws) Ws) Ws) (Ww (Wy 3 Eu.nd (WA GS hr U (L (Y 0) (L (Y 3) (L (Y 1) M)))))) WE)
   (Ww (WC (Y 3))))),?_⟩
 have d0:=aP (k:=m) (n:=4) (by left)
 have d1:=aQ (k:=m) (n:=4) (by left)
 show aq fun Rk kR=>?_
 show⟨_,U,_,U,_,U,_,_,U,U,(by change(0:Int)<4;decide),c,10,nl,m%4,ns,U,D,by left,by left,d0,d1,fun v e H1 s1 ev we=>?_⟩
 have we:lU ns 3 272 e:=we.up (by lia) (Nat.mul_le_mul_left 34 (xw (b:=3) (by lia)))
 show ak (kR _ _ ?_)
 show aw [some (.int c),some (.ref nl),some (.int m),some v] U ?_
 show aq fun Rk kR=>?_
 show⟨_,U,_,_,U,U,⟨by left,by right⟩,_,_,U,U,(by change(0:Int)<4;decide),U,_,U,?_⟩
 show aG (fun z=>?_) (fun z=>kR _ _ ?_)
 . show⟨_,U,_,U,_,U,c,v,nl,ns,e,3,272,U,D.go s1,ev,we,fun v2 e2 H2 s2 vC LC=>?_⟩
   show ak (kR _ _ ?_)
   show⟨_,U,q v2 e2 H2 (aa s1 s2) vC LC⟩
 show⟨_,U,q v e H1 s1 ev (we.up (by left) (by left))⟩
def uG:aC ["cell","names","number","told","one"] ["cell","names","number"] (ao M7):=eU
def G2 {f:Addr}{fd:RZ}(F:cD K "_law_any_condition" "_law_any_condition" M7 f fd)(SM0:b7 P w K mg base "_law_sum" ["cell","k","names","deep"] 7 (gS 4))(GS0:b7 P w K mg base "_law_grown_sum" ["cell","told","names"] 2 EG)(CO:b7 P w K mg base "_law_condition" ["cell","k","names","deep"] 11 (iw 4))(GC0:b7 P w K mg base "_law_grown_condition" ["cell","told"] 2 Ir):aY P w K mg base dq 12 f fd ["cell","names","number"] Ip:=by
 show F.iU uG fun cdv A outer s H vs Q E hr h=>?_
 obtain⟨c,nl,m,ns,rfl,D,m0,q⟩:=h
 have GS:=GS0.mono (show 2<=11 by left)
 have GC:=GC0.mono (show 2<=11 by left)
 have SM:=SM0.mono (show 7<=11 by left)
 show ig ⟨_,(Wv (Wy 3 uG.nd (WA CO hr U (L (Y 0) (L Ws (L (Y 1) (L (Wt WG (Y 2) Ws) M))))))
   (Wv (WB (Wx WL (Wt WG (Wt WT (Y 2) Ws) Ws) Ws) (Ww (Wy 3 uG.nd (WA GC hr U (L (Y 0) (L (Y 3) M))))) WE)
   (Wv (WB (Wx WL (Wt WG (Wt WT (Y 2) Ws) Ws) Ws) (Wv (Wy 4 uG.nd (WA GS hr U (L (Y 0) (L (WA SM hr U (L (Y 0) (L Ws (L (Y 1) (L Ws M))))) (L (Y 1) M)))))
   (Ww (Wy 3 uG.nd (WH (L (Wz WK (WD (L Wu (L Wu M))) (Wt WG (Wt WT (Y 2) Ws) Ws)) (L (Y 4) (L (WA SM hr U (L (Y 0) (L Ws (L (Y 1) (L Ws M))))) M))))))) WE)
   (Wv (WB (Wx WL (Wt WG (Wt WT (Y 2) Ws) Ws) Ws) (Ww (Wy 3 uG.nd (WH (L Wu (L (WH (L (Wz WM (Y 3) Ws) (L (Wz WM (Y 3) Ws) (L (Wz WM (Y 3) Ws) M)))) M))))) WE)
   (Ww (WC (Y 3))))))),?_⟩
 have d0:=aP (k:=m) (n:=4) (by left)
 have d1:=aQ (k:=m) (n:=4) (by left)
 show aq fun Rk kR=>?_
 show⟨_,U,_,U,_,U,_,_,U,U,(by change(0:Int)<4;decide),c,10,nl,m%4,ns,U,D,by left,by left,d0,d1,fun v e H1 s1 ev we=>?_⟩
 have we:lT ns 6 2176 e:=we.up (by lia) (Nat.mul_le_mul_left 272 (xw (b:=3) (by lia)))
 show ak (kR _ _ ?_)
 show aw [some (.int c),some (.ref nl),some (.int m),some v,none] U ?_
 show aq fun Rk kR=>?_
 show⟨_,U,_,_,U,U,⟨by left,by right⟩,_,_,U,U,(by change(0:Int)<4;decide),U,_,U,?_⟩
 suffices hs:∀(v:V) (e:TW.E) (H1:Hp),ai H H1->cJ H1 v e->lT ns 19 2992 e->Rk [some (.int c),some (.ref nl),some (.int m),some v,none] H1 by
   show aG (fun u=>?_) (fun u=>hs v e H1 s1 ev (we.up (by left) (by left)))
   show⟨_,U,_,U,c,v,ns,e,6,2176,U,ev,we,by left,fun v2 e2 H2 s2 vC LC=>?_⟩
   show ak ?_
   show hs v2 e2 H2 (aa s1 s2) vC (LC.up (by left) (by left))
 intro v e H1 s1 ev we
 show kR _ _ (aq fun Rk kR=>?_)
 show⟨_,U,_,_,U,U,⟨by left,by right⟩,_,_,U,U,(by change(0:Int)<4;decide),U,_,U,?_⟩
 suffices hs:∀(v:V) (e:TW.E) (H1:Hp) (o4:Option V),ai H H1->cJ H1 v e->lT ns 19 2992 e->(m/4%4=1->∃k a b,e=.two k a b/\(k=.same\/k=.under)/\e.sz+3<=782/\e.dep<=18)->Rk [some (.int c),some (.ref nl),some (.int m),some v,o4] H1 by
   show aG (fun u=>?_) (fun cz=>hs v e H1 none s1 ev we (fun z=>au (hW (congrArg V.int z)) cz))
   show aq fun Rk kR=>?_
   show⟨_,U,_,U,_,U,c,500,nl,2,ns,U,D.go s1,by left,by left,by left,by left,fun v2 e2 H2 s2 vC w2=>?_⟩
   have w2:lU ns 2 136 e2:=w2
   show⟨_,U,c,v2,nl,ns,e2,2,136,U,D.go (aa s1 s2),vC,w2,fun v3 e3 H3 s3 Ob w3=>?_⟩
   show ak (kR _ _ ?_)
   show aw [some (.int c),some (.ref nl),some (.int m),some v,some v3] U ?_
   show⟨YK,fun L8 hL=>?_⟩
   obtain⟨H4,sL,gL,zz⟩:=aZ hL (.lst [.str "same",.str "under"])
   rw[zz];clear zz
   show⟨_,U,_,_,U,U,⟨by left,by right⟩,_,_,U,U,(by change(0:Int)<2;decide),?_⟩
   obtain⟨kk,dg,Fg⟩:=xu (a:=.same) (b:=.under) (aP (k:=m/16) (n:=2) (by left)) (aQ (by left))
   show cH gL dg ?_
   show⟨_,U,_,U,_,U,c,600,nl,2,ns,U,D.go (aa s1 (aa s2 (aa s3 sL))),by left,by left,by left,by left,fun v5 e5 H5 s5 FW w5=>⟨YL,fun p hp=>?_⟩⟩
   have w5:lU ns 2 136 e5:=w5
   have sp:=az (aa sL s5) (o:=.tup [.str kk.str,v3,v5]) hp
   have x1:=w3.dp
   have x2:=w3.sz
   have x3:=w5.dp
   have x4:=w5.sz
   have xd:(TW.E.two kk e3 e5).dep<=18:=by change max e3.dep e5.dep+1<=18;lia
   have xs:(TW.E.two kk e3 e5).sz+3<=782:=by change e3.sz+e5.sz+3+3<=782;lia
   show ak ?_
   show hs (.ref p) (.two kk e3 e5) _ (some v3) (aa (aa s1 (aa s2 s3)) sp) ⟨v3,v5,⟨p,U,ae⟩,Ob.keep (ai.tk sp),FW.keep (lB hp _)⟩ ⟨?_,⟨w3.ok,w5.ok⟩,by lia,by lia⟩ (fun u=>⟨kk,e3,e5,U,Fg,xs,xd⟩)
   rcases Fg with rfl|rfl<;>show⟨w3.is,w5.is⟩
 intro v e H1 o4 s1 ev we hm
 show kR _ _ (aq fun Rk kR=>?_)
 show⟨_,U,_,_,U,U,⟨by left,by right⟩,_,_,U,U,(by change(0:Int)<8;decide),U,_,U,?_⟩
 show aG (fun c5=>?_) (fun u=>kR _ _ ⟨_,U,q v e H1 s1 ev (we.up (by left) (by left))⟩)
 have c5:=CP c5
 obtain⟨k,a,b,rfl,hk,xs,xd⟩:=hm (by lia)
 obtain⟨x,y,⟨p,rfl,hp⟩,ex,ey⟩:=ev
 show⟨_,U,?_⟩
 show bR hp U ?_
 show⟨_,U,?_⟩
 show bR hp U ?_
 show⟨_,U,?_⟩
 show bR hp U ?_
 show⟨YL,fun p2 rn=>⟨YK,fun p3 Bb=>?_⟩⟩
 have t2:=af rn (.tup [.str k.str,y,x])
 have t3:=af Bb (.tup [.str "not",.ref p2])
 have t23:=aa t2 t3
 show ak (kR _ _ ?_)
 show⟨_,U,q (.ref p3) (.nt (.two k b a)) _ (aa s1 t23) ⟨.ref p2,⟨p3,U,ae⟩,y,x,⟨p2,U,t3 _ _ ae⟩,ey.keep (ai.tk t23),ex.keep (ai.tk t23)⟩ ⟨?_,⟨we.ok.2,we.ok.1⟩,?_,?_⟩⟩
 . have is:=we.is
   rcases hk with rfl|rfl<;>show⟨is.2,is.1⟩
 . have xd:max a.dep b.dep+1<=18:=xd
   change max b.dep a.dep+1+1<=19
   lia
 . have xs:a.sz+b.sz+3+3<=782:=xs
   change b.sz+a.sz+3+1+3<=3000
   lia
def lU.wr {ns:List Str}{d s:Nat}{e:E}(h:lU ns d s e)(l8:∀x∈ns,df x)(hd:d<30)(hs:s<=4001):pw 30 e:=⟨h.is,E.okN.imp l8 h.ok,by have:=h.sz;lia,by have:=h.dp;lia⟩
def lT.wr {ns:List Str}{d s:Nat}{e:E}(h:lT ns d s e)(l8:∀x∈ns,df x)(hd:d<30)(hs:s<=4001):pL 30 e:=⟨h.is,E.okN.imp l8 h.ok,by have:=h.sz;lia,by have:=h.dp;lia⟩
structure sM (ns:List Str)(m:Int)(e:Np):Prop where
 w:e.wr
 ld:∀n∈e.gJ,0<=n/\n<m
 kn:∀t∈e.fw,t.okN (·∈ns)/\t.dep<=19
 lo:∀t∈e.fw,t.txt.length<=3000
def yb:Sp:=fun vs H Q z=>∃(c:Int) (nl:Addr) (m:Int) (ns:List Str),vs=[.int c,.ref nl,.int m]/\Nm H nl ns/\(∀x∈ns,df x)/\0<m/\m<=63/\∀(L8:Addr) (v:V) (e:Np) (H':Hp),H L8=none->ai H H'->H' L8=some (.lst [v,.str (RM bG e.ws)])->b8 H' v e->sM ns m e->Q (.ref L8) H'
def yt {H:Hp}{v:V}{e:Np}(h:b8 H v e)(w:e.wr):JoinOk " " e.ws=true:=by
 obtain⟨hd,xs,ra,eq⟩:=Np.rowAt h w
 rw[eq]
 show Em ra
def ME {m g:Int}(h0:0<=g)(h1:g<m)(h2:m<=63):0<=g/\g<10^30:=⟨h0,ub (by lia)⟩
def lU.lo {ns:List Str}{d s:Nat}{e:E}(h:lU ns d s e)(l8:∀x∈ns,df x)(hd:d<=19)(hs:s<=3003):(e.okN (·∈ns)/\e.dep<=19)/\e.txt.length<=3000:=⟨⟨h.ok,Ry h.dp hd⟩,Ry (E.fh (E.okN.imp l8 h.ok)) (by have:=h.sz;lia)⟩
def lT.lo {ns:List Str}{d s:Nat}{e:E}(h:lT ns d s e)(l8:∀x∈ns,df x)(hd:d<=19)(hs:s<=3003):(e.okN (·∈ns)/\e.dep<=19)/\e.txt.length<=3000:=⟨⟨h.ok,Ry h.dp hd⟩,Ry (E.fh (E.okN.imp l8 h.ok)) (by have:=h.sz;lia)⟩
def mJ {ns:List Str}{x:Str}(hx:x∈ns)(l8:∀x∈ns,df x):((E.box "box" x).okN (·∈ns)/\(E.box "box" x).dep<=19)/\(E.box "box" x).txt.length<=3000:=⟨⟨⟨rfl,hx⟩,Sd _⟩,Ry (l8 x hx).l8 (by left)⟩
def all1 {α:Type}{P:α->Prop}{a:α}(h:P a):∀x∈[a],P x:=fun x hx=>by rw[di hx];show h
def all2 {α:Type}{P:α->Prop}{a b:α}(h:P a)(h2:P b):∀x∈[a,b],P x:=fun x hx=>by
 rcases cv hx with e|hx
 . rw[e];show h
 . rw[di hx];show h2
def yV:RM bG (Np.ws .fin)="end":=by right
def eC:aC ["cell","names","many","number","goals","kind","name","told","row"] ["cell","names","many"] (ao BC):=eU
def zL {f:Addr}{fd:RZ}(F:cD K "_law_node" "_law_node" BC f fd)(m_len:mg "len"=none)(m_str:mg "str"=none)(ST0:b7 P w K mg base "_law_stir" ["cell","k"] 1 cm)(AS0:b7 P w K mg base "_law_any_sum" ["cell","names","number"] 8 Iq)(AC0:b7 P w K mg base "_law_any_condition" ["cell","names","number"] 12 Ip)(LW0:b7 P w K mg base "_law_word" ["thing"] 31 (ph 30)):aY P w K mg base dq 41 f fd ["cell","names","many"] yb:=by
 show F.iU eC fun cdv A outer s H vs Q E hr h=>?_
 obtain⟨c,nl,m,ns,rfl,D,l8,m0,m9,q⟩:=h
 have ST:=ST0.mono (show 1<=40 by left)
 have AS:=AS0.mono (show 8<=40 by left)
 have AC:=AC0.mono (show 12<=40 by left)
 have LW:=LW0.mono (show 31<=40 by left)
 show ig ⟨_,(Wv (Wy 3 eC.nd (WA ST hr U (L (Y 0) (L Ws M))))
   (Wv (Wy 4 eC.nd (WD (L (Wt WG (WA ST hr U (L (Y 0) (L Ws M))) (Y 2)) (L (Wt WG (WA ST hr U (L (Y 0) (L Ws M))) (Y 2)) M))))
   (Wv (Wy 5 eC.nd (Wt WG (Y 3) Ws))
   (Wv (WB (WV (WX (Wx Xl (Y 5) Ws) (W6 (Wx (Xf (m:=2) (dm hr _ (by left))) (Y 1) (WD M))))) (Wv (Wy 6 eC.nd (Wz WK (Y 1) (Wt WG (Wt WT (Y 3) Ws) (WJ WO U m_len RG (L (Y 1) M)))))
   (Wv (Wy 7 eC.nd (WA AS hr U (L (Y 0) (L (Y 1) (L (Wt WT (Y 3) Ws) M)))))
   (Ww (WC (WD (L (WH (L Wu (L (Y 6) (L (Y 7) (L (Wz WK (Y 4) Ws) M))))) (L (Xv Wu (L (WD (L Wu (L (Y 6) (L (WA LW hr U (L (Y 7) M)) (L (W4 Xp U m_str (by right) (L (Wz WK (Y 4) Ws) M)) M))))) M)) M))))))) WE)
   (Wv (WB (Wx Xl (Y 5) Ws) (Wv (Wy 7 eC.nd (WA AS hr U (L (Y 0) (L (Y 1) (L (Wt WT (Y 3) Ws) M)))))
   (Ww (WC (WD (L (WH (L Wu (L (Y 7) (L (Wz WK (Y 4) Ws) M)))) (L (Xv Wu (L (WD (L Wu (L (WA LW hr U (L (Y 7) M)) (L (W4 Xp U m_str (by right) (L (Wz WK (Y 4) Ws) M)) M)))) M)) M)))))) WE)
   (Wv (WB (Wx Xl (Y 5) Ws) (Wv (Wy 7 eC.nd (WA AC hr U (L (Y 0) (L (Y 1) (L (Wt WT (Y 3) Ws) M)))))
   (Wv (Wy 8 eC.nd (Xv Wu (L (WD (L Wu (L (WA LW hr U (L (Y 7) M)) (L (W4 Xp U m_str (by right) (L (Wz WK (Y 4) Ws) M)) (L (W4 Xp U m_str (by right) (L (Wz WK (Y 4) Ws) M)) M))))) M)))
   (Ww (WC (WD (L (WH (L Wu (L (Y 7) (L (Wz WK (Y 4) Ws) (L (Wz WK (Y 4) Ws) M))))) (L (Y 8) M))))))) WE)
   (Wv (WB (WV (WX (Wx WL (Y 5) Ws) (W6 (Wx (Xf (m:=2) (dm hr _ (by left))) (Y 1) (WD M))))) (Wv (Wy 6 eC.nd (Wz WK (Y 1) (Wt WG (Wt WT (Y 3) Ws) (WJ WO U m_len RG (L (Y 1) M)))))
   (Ww (WC (WD (L (WH (L Wu (L (Y 6) (L (Wz WK (Y 4) Ws) M)))) (L (Xv Wu (L (WD (L Wu (L (Y 6) (L (W4 Xp U m_str (by right) (L (Wz WK (Y 4) Ws) M)) M)))) M)) M)))))) WE)
   (Ww (WC (WD (L (WH (L Wu M)) (L Wu M)))))))))))),?_⟩
 show JO fun Rk kR=>?_
 show⟨_,U,c,0,U,by left,by left,fun r r0 r1=>?_⟩
 show ak ?_
 show⟨_,U,c,1,U,by left,by left,fun a a0 a1=>⟨_,U,_,_,U,U,m0,?_⟩⟩
 show⟨_,U,c,2,U,by left,by left,fun b b0 b1=>⟨_,U,_,_,U,U,m0,YK,fun G hG=>?_⟩⟩
 obtain⟨g0,N5,F5,F6⟩ : ∃g,g=a%m/\0<=g/\g<m:=⟨_,rfl,aP m0,aQ m0⟩
 obtain⟨g1,N6,A6,E9⟩ : ∃g,g=b%m/\0<=g/\g<m:=⟨_,rfl,aP m0,aQ m0⟩
 have n0:=ME F5 F6 m9
 have n1:=ME A6 E9 m9
 show ak ?_
 show⟨_,U,_,_,U,U,(by change(0:Int)<10;decide),?_⟩
 show ak (kR _ _ ?_)
 show aw [some (.int c),some (.ref nl),some (.int m),some (.int r),some (.ref G),some (.int (r%10)),none,none,none] U ?_
 show rJ (upd H G (.lst [.int g0,.int g1])) (by subst N5 N6;rfl) ?_
 obtain⟨H1,sG,gG,zz⟩:=aZ hG (.lst [.int g0,.int g1])
 rw[zz];clear zz
 have DG:=D.go sG
 show aq fun Rk kR=>?_
 show⟨_,U,_,_,U,U,_,U,?_⟩
 suffices hs:∀H2,ai H1 H2->Rk [some (.int c),some (.ref nl),some (.int m),some (.int r),some (.ref G),some (.int (r%10)),none,none,none] H2 by
   show aG (fun c3=>?_) (fun u=>cb (hs H1 (same_refl _)))
   show⟨_,U,YI,fun z hz=>?_⟩
   obtain⟨Hz,sz,gz,zz⟩:=aZ hz (.lst [])
   rw[zz];clear zz
   have Dz:=DG.go sz
   have AJ:=aa sG sz
   have Kb:=sz _ _ gG
   show⟨_,RB.nil (aH.of Dz.hn) (aH.of gz),_,U,?_⟩
   show aG (fun c1=>?_) (fun u=>hs Hz sz)
   have vQ:0<ns.length:=by
     cases ns with
     | nil=>show au c1 (by left)
     | cons a l=>show S8 _
   show aq fun Rk kR=>?_
   show⟨_,U,_,U,_,_,U,U,⟨by left,by right⟩,_,U,nl,_,U,.inl (aH.of Dz.hn),_,_,U,U,(by rw[Rn];lia),?_⟩
   rw[Rn]
   obtain⟨x,eF,dg⟩:=fZ V.str ns (aP (k:=r/16) (n:=(ns.length:Int)) (by lia)) (aQ (by lia))
   show cH Dz.hn dg ?_
   show ak (kR _ _ ?_)
   show aw [some (.int c),some (.ref nl),some (.int m),some (.int r),some (.ref G),some (.int (r%10)),some (.str x),none,none] U ?_
   show aq fun Rk kR=>?_
   show⟨_,U,_,U,_,U,_,_,U,U,⟨by left,by right⟩,c,nl,_,ns,U,Dz,VJ r0 (by left),fun v e H3 s3 ev dr=>?_⟩
   have we:=dr.wr l8 (by left) (by left)
   have lo:=dr.lo l8 (by left) (by left)
   have sB:=aa AJ s3
   have uW:=s3 _ _ Kb
   show ak (kR _ _ ?_)
   show aw [some (.int c),some (.ref nl),some (.int m),some (.int r),some (.ref G),some (.int (r%10)),some (.str x),some (v),none] U ?_
   show⟨_,U,_,U,_,U,?_⟩
   show cH uW U ?_
   show⟨YM,fun p hp=>?_⟩
   have sp:=az sB (o:=.tup [.str "put",.str x,v,.int g0]) hp
   have gp:=ae (H:=H3) (a:=p) (o:=.tup [.str "put",.str x,v,.int g0])
   have tp:=af hp (.tup [.str "put",.str x,v,.int g0])
   generalize upd H3 p (.tup [.str "put",.str x,v,.int g0])=H4 at sp gp tp ⊢
   have F1:=tp _ _ uW
   have FV:=ev.keep (ai.tk tp)
   have nd:b8 H4 (.ref p) (.put x e g0):=⟨v,⟨p,rfl,gp⟩,FV⟩
   have wr:sM ns m (.put x e g0:Np):=⟨⟨l8 x eF,we,n0⟩,all1 ⟨F5,F6⟩,all2 (mJ eF l8).1 lo.1,all2 (mJ eF l8).2 lo.2⟩
   show⟨U,_,U,_,U,v,e,U,FV,.inl we,fun H5 s5=>?_⟩
   show⟨_,U,?_⟩
   show cH (s5 _ _ F1) U ?_
   show .inl ⟨g0,U,TC (eY (kM n0)) (by left),YM,fun l hl=>?_⟩
   show⟨" ",l,["put",x,e.txt,Rt (toString g0)],U,U,aH.of ae,yt nd wr.w,YK,fun L8 hL=>?_⟩
   show q L8 (.ref p) (.put x e g0) _ (aS (az (aa sp s5) hl) hL) (az (az (aa sp s5) hl) hL) ae (nd.keep (ai.tk (az (az s5 hl) hL))) wr
 intro H2 s2
 have D2:=DG.go s2
 have Ka:=s2 _ _ gG
 have Ii:=aa sG s2
 show kR _ _ (aq fun Rk kR=>?_)
 show⟨_,U,_,_,U,U,_,U,?_⟩
 show aG (fun c5=>?_) (fun u=>?_)
 . show aq fun Rk kR=>?_
   show⟨_,U,_,U,_,U,_,_,U,U,⟨by left,by right⟩,c,nl,_,ns,U,D2,VJ r0 (by left),fun v e H3 s3 ev dr=>?_⟩
   have we:=dr.wr l8 (by left) (by left)
   have lo:=dr.lo l8 (by left) (by left)
   have sB:=aa Ii s3
   have uW:=s3 _ _ Ka
   show ak (kR _ _ ?_)
   show aw [some (.int c),some (.ref nl),some (.int m),some (.int r),some (.ref G),some (.int (r%10)),none,some (v),none] U ?_
   show⟨_,U,_,U,?_⟩
   show cH uW U ?_
   show⟨YL,fun p hp=>?_⟩
   have sp:=az sB (o:=.tup [.str "say",v,.int g0]) hp
   have gp:=ae (H:=H3) (a:=p) (o:=.tup [.str "say",v,.int g0])
   have tp:=af hp (.tup [.str "say",v,.int g0])
   generalize upd H3 p (.tup [.str "say",v,.int g0])=H4 at sp gp tp ⊢
   have F1:=tp _ _ uW
   have FV:=ev.keep (ai.tk tp)
   have nd:b8 H4 (.ref p) (.say e g0):=⟨v,⟨p,rfl,gp⟩,FV⟩
   have wr:sM ns m (.say e g0:Np):=⟨⟨we,n0⟩,all1 ⟨F5,F6⟩,all1 lo.1,all1 lo.2⟩
   show⟨U,_,U,v,e,U,FV,.inl we,fun H5 s5=>?_⟩
   show⟨_,U,?_⟩
   show cH (s5 _ _ F1) U ?_
   show .inl ⟨g0,U,TC (eY (kM n0)) (by left),YL,fun l hl=>?_⟩
   show⟨" ",l,["say",e.txt,Rt (toString g0)],U,U,aH.of ae,yt nd wr.w,YK,fun L8 hL=>?_⟩
   show q L8 (.ref p) (.say e g0) _ (aS (az (aa sp s5) hl) hL) (az (az (aa sp s5) hl) hL) ae (nd.keep (ai.tk (az (az s5 hl) hL))) wr
 show kR _ _ (aq fun Rk kR=>?_)
 show⟨_,U,_,_,U,U,_,U,?_⟩
 show aG (fun c5=>?_) (fun u=>?_)
 . show aq fun Rk kR=>?_
   show⟨_,U,_,U,_,U,_,_,U,U,⟨by left,by right⟩,c,nl,_,ns,U,D2,VJ r0 (by left),fun v e H3 s3 ev dr=>?_⟩
   have we:=dr.wr l8 (by left) (by left)
   have lo:=dr.lo l8 (by left) (by left)
   have sB:=aa Ii s3
   have uW:=s3 _ _ Ka
   show ak (kR _ _ ?_)
   show aw [some (.int c),some (.ref nl),some (.int m),some (.int r),some (.ref G),some (.int (r%10)),none,some (v),none] U ?_
   show aq fun Rk kR=>?_
   have wr:sM ns m (Np.test e g0 g1):=⟨⟨we,n0,n1⟩,all2 ⟨F5,F6⟩ ⟨A6,E9⟩,all1 lo.1,all1 lo.2⟩
   show⟨U,_,U,v,e,U,ev,.inr we,fun H5 s5=>?_⟩
   show⟨_,U,?_⟩
   show cH (s5 _ _ uW) U ?_
   show .inl ⟨g0,U,TC (eY (kM n0)) (by left),?_⟩
   show⟨_,U,?_⟩
   show cH (s5 _ _ uW) U ?_
   show .inl ⟨g1,U,TC (eY (kM n1)) (by left),YM,fun l hl=>?_⟩
   have hj:JoinOk " " ["test",e.txt,Rt (toString g0),Rt (toString g1)]=true:=by
     show jK 4000 (fun y hy=>?_) (by change 4*4000+4*1<=16777216;decide)
     have a1:=bJ n0
     have a2:=bJ n1
     have a3:=we.len
     rcases cv hy with z|hy
     . rw[z];decide
     rcases cv hy with z|hy
     . rw[z];lia
     rcases cv hy with z|hy
     . rw[z];lia
     . rw[di hy];lia
   show⟨" ",l,["test",e.txt,Rt (toString g0),Rt (toString g1)],U,U,aH.of ae,hj,?_⟩
   have s6:=az s5 (o:=.lst [.str "test",.str e.txt,.str (Rt (toString g0)),.str (Rt (toString g1))]) hl
   show ak (kR _ _ ?_)
   show rJ (upd H5 l (.lst [.str "test",.str e.txt,.str (Rt (toString g0)),.str (Rt (toString g1))])) U ?_
   generalize upd H5 l (.lst [.str "test",.str e.txt,.str (Rt (toString g0)),.str (Rt (toString g1))])=H6 at s6 ⊢
   show aw [some (.int c),some (.ref nl),some (.int m),some (.int r),some (.ref G),some (.int (r%10)),none,some (v),some (.str (RM bG ["test",e.txt,Rt (toString g0),Rt (toString g1)]))] U ?_
   have Mc:=s6 _ _ uW
   have Oc:=ev.keep (ai.tk s6)
   show⟨_,U,_,U,?_⟩
   show cH Mc U ?_
   show⟨_,U,?_⟩
   show cH Mc U ?_
   show⟨YM,fun p hp=>⟨_,U,YK,fun L8 hL=>?_⟩⟩
   have tp:=af hp (.tup [.str "test",v,.int g0,.int g1])
   have tL:=af hL (.lst [.ref p,.str (RM bG ["test",e.txt,Rt (toString g0),Rt (toString g1)])])
   show q L8 (.ref p) (.test e g0 g1) _ (aS (aa (aa sB s6) tp) hL) (aa (aa sB s6) (aa tp tL)) ae ⟨v,⟨p,U,tL _ _ ae⟩,Oc.keep (ai.tk (aa tp tL))⟩ wr
 show kR _ _ (aq fun Rk kR=>?_)
 show⟨_,U,U,_,U,?_⟩
 suffices hs:∀H3,ai H2 H3->Rk [some (.int c),some (.ref nl),some (.int m),some (.int r),some (.ref G),some (.int (r%10)),none,none,none] H3 by
   show aG (fun c8=>?_) (fun u=>cb (hs H2 (same_refl _)))
   show⟨_,U,YI,fun z hz=>?_⟩
   obtain⟨Hz,sz,gz,zz⟩:=aZ hz (.lst [])
   rw[zz];clear zz
   have Dz:=D2.go sz
   have AJ:=aa Ii sz
   have Kb:=sz _ _ Ka
   show⟨_,RB.nil (aH.of Dz.hn) (aH.of gz),_,U,?_⟩
   show aG (fun c1=>?_) (fun u=>hs Hz sz)
   have vQ:0<ns.length:=by
     cases ns with
     | nil=>show au c1 (by left)
     | cons a l=>show S8 _
   show aq fun Rk kR=>?_
   show⟨_,U,_,U,_,_,U,U,⟨by left,by right⟩,_,U,nl,_,U,.inl (aH.of Dz.hn),_,_,U,U,(by rw[Rn];lia),?_⟩
   rw[Rn]
   obtain⟨x,eF,dg⟩:=fZ V.str ns (aP (k:=r/16) (n:=(ns.length:Int)) (by lia)) (aQ (by lia))
   show cH Dz.hn dg ?_
   show ak (kR _ _ ?_)
   show aw [some (.int c),some (.ref nl),some (.int m),some (.int r),some (.ref G),some (.int (r%10)),some (.str x),none,none] U ?_
   have sB:=AJ
   have uW:=Kb
   show⟨_,U,_,U,?_⟩
   show cH uW U ?_
   show⟨YL,fun p hp=>?_⟩
   have sp:=az sB (o:=.tup [.str "pick",.str x,.int g0]) hp
   have gp:=ae (H:=Hz) (a:=p) (o:=.tup [.str "pick",.str x,.int g0])
   have tp:=af hp (.tup [.str "pick",.str x,.int g0])
   generalize upd Hz p (.tup [.str "pick",.str x,.int g0])=H4 at sp gp tp ⊢
   have F1:=tp _ _ uW
   have nd:b8 H4 (.ref p) (.pick x g0):=⟨p,rfl,gp⟩
   have wr:sM ns m (.pick x g0:Np):=⟨⟨l8 x eF,n0⟩,all1 ⟨F5,F6⟩,all1 (mJ eF l8).1,all1 (mJ eF l8).2⟩
   show⟨U,_,U,_,U,?_⟩
   show cH F1 U ?_
   show .inl ⟨g0,U,TC (eY (kM n0)) (by left),YL,fun l hl=>?_⟩
   show⟨" ",l,["pick",x,Rt (toString g0)],U,U,aH.of ae,yt nd wr.w,YK,fun L8 hL=>?_⟩
   show q L8 (.ref p) (.pick x g0) _ (aS (az sp hl) hL) (az (az sp hl) hL) ae (nd.keep (ai.tk (az (az (same_refl _) hl) hL))) wr
 intro H3 s3
 show kR _ _ ?_
 show⟨YJ,fun p hp=>⟨YK,fun L8 hL=>?_⟩⟩
 have tp:=af hp (.tup [.str "end"])
 have tL:=af hL (.lst [.ref p,.str "end"])
 show q L8 (.ref p) .fin _ (aS (aa (aa Ii s3) tp) hL) (aa (aa Ii s3) (aa tp tL)) (by rw[yV];show ae) ⟨p,U,tL _ _ ae⟩ ⟨RO,(fun u z=>nomatch z),(fun u z=>nomatch z),fun u z=>nomatch z⟩
abbrev nO:Stmt:=top 47
theorem sub_len {α:Type}[DecidableEq α]:∀{xs ys:List α},xs.Nodup->(∀x∈xs,x∈ys)->xs.length<=ys.length
 | [],_,_,_=>Sd _
 | x::r,ys,nd,h=>by
   rw[List.nodup_cons]at nd
   have hx:x∈ys:=h x (zq (.inl rfl))
   have ih:=sub_len (xs:=r) (ys:=ys.erase x) nd.2 fun y hy=>(List.mem_erase_of_ne (a:=y) (b:=x) (fun e:y=x=>nd.1 (e▸hy))).mpr (h y (zq (.inr hy)))
   have hl:=List.length_erase_of_mem hx
   have vQ:0<ys.length:=List.length_pos_of_mem hx
   rw[RE]
   lia
abbrev lets:Str:="abcdefghijklmnopqrstuvwxyz"
def zp {k:Int}(h0:0<=k)(h1:k<26):iz lets.cps.toList k=some (97+k.toNat):=by
 have all:∀n:Fin 26,iz lets.cps.toList (n.1:Int)=some (97+n.1):=by right
 have:=all ⟨k.toNat,by lia⟩
 rw[show((k.toNat:Nat):Int)=k by lia]at this
 show this
abbrev bA:List Str:=["a","yes","put","box","abcdefgh","end","ye","no","x","test","input","abcdefg","yess","say","pick","plus","less","same","number","under","both","not","yours","mine"]
def AH:bA.Nodup:=by right
def AG:∀x∈bA,1<=x.length/\x.length<=8/\∀c∈x.cps.toList,97<=c/\c<123:=by right
def EF:∀x∈bA,df x:=fun x hx=>let⟨a,b,c⟩:=AG x hx;⟨a,b,c⟩
theorem MJ:∀ts:List Str,(Td "" ts).cps.toList=(ts.map fun x=>x.cps.toList).flatten
 | []=>rfl
 | [x]=>by change x.cps.toList=x.cps.toList++[];rw[RY]
 | x::y::r=>by
   change((x++"")++Td "" (y::r)).cps.toList=_
   rw[bM,bM,MJ (y::r),show("":Str).cps.toList=[]from rfl,RY]
   rfl
def v7 {ts:List Str}(h:∀x∈ts,∃c,x.cps.toList=[c]/\97<=c/\c<123)(h1:1<=ts.length)(h8:ts.length<=8):df (RM "" ts):=by
 have e:(RM "" ts).cps.toList=(ts.map fun x=>x.cps.toList).flatten:=by
   change(Sr "" ts).cps.toList=_
   rw[StrLaws.glued_eq_join]
   show MJ ts
 have key:∀l:List Str,(∀x∈l,∃c,x.cps.toList=[c]/\97<=c/\c<123)->(l.map fun x=>x.cps.toList).flatten.length=l.length/\∀c∈(l.map fun x=>x.cps.toList).flatten,97<=c/\c<123:=by
   intro l
   induction l with
   | nil=>intro _;show⟨rfl,fun c hc=>nomatch hc⟩
   | cons a l ih=>
     intro hl
     obtain⟨i1,i2⟩:=ih fun x hx=>hl x (RC _ hx)
     obtain⟨c0,e0,OR⟩:=hl a Ru
     rw[R3,List.flatten_cons,e0]
     show⟨by rw[Rx,i1,Sj,RE];lia,fun c hc=>?_⟩
     rcases ez hc with z|z
     . rw[di z];show OR
     . show i2 c z
 obtain⟨k1,k2⟩:=key ts h
 rw[← e]at k1 k2
 rw[bP]at k1
 show⟨by lia,by lia,k2⟩
def zv {fs:List Str}{y:Str}(h:fs.Nodup)(hy:y∉fs):(fs++[y]).Nodup:=by
 rw[List.nodup_append]
 show⟨h,by simp,fun a ha b hb=>?_⟩
 rw[di hb]
 show fun z=>hy (z▸ha)
def freeOf (fs:List Str)(xs:List Str):List Str:=xs.filter fun x=>!decide (x∈fs)
def vH {fs:List Str}(h:fs.length<=4):0<(freeOf fs bA).length:=by
 show Nat.pos_of_ne_zero fun z=>?_
 have hn:=Vv z
 have hall:∀x∈bA,x∈fs:=fun x hx=>by
   by_cases hf:x∈fs
   . show hf
   . have:x∈freeOf fs bA:=List.mem_filter.mpr ⟨hx,by simp[hf]⟩
     rw[hn]at this
     cases this
 have:=sub_len AH hall
 have e:bA.length=24:=rfl
 lia
def rA {xs:List Str}{x:Str}:iN (.str x) (xs.map V.str)=decide (x∈xs):=by
 unfold iN
 by_cases h:x∈xs
 . rw[hW h,Vw]
   show⟨.str x,C6 ⟨x,h,U⟩,by simp[oB]⟩
 . rw[gv h,Uw]
   intro v hv
   obtain⟨y,hy,rfl⟩:=fc hv
   intro e
   have:y=x:=by simpa[oB]using e
   show h (this▸hy)
def r8:Sp:=fun vs H Q z=>∃(c m:Int),vs=[.int c,.int m]/\0<=m/\m<=4/\∀(l:Addr) (ns:List Str) (H':Hp),ai H H'->H' l=some (.lst (ns.map V.str))->ns.length=m.toNat->(∀x∈ns,df x)->ns.Nodup->Q (.ref l) H'
def cB:aC ["head","many","some","letters","found","k","number","left","name","word"] ["head","many"] (ao nO):=eU
def wW {f:Addr}{fd:RZ}(F:cD K "_law_names" "_law_names" nO f fd)(m_len:mg "len"=none)(m_range:mg "range"=none)(ST:b7 P w K mg base "_law_stir" ["cell","k"] 1 cm):aY P w K mg base dq 2 f fd ["head","many"] r8:=by
 show F.iU cB fun cdv A outer s H vs Q E hr h=>?_
 obtain⟨c,m,rfl,m0,m4,q⟩:=h
 show ig ⟨_,(Wv (Wy 2 cB.nd (WD (L Wu (L Wu (L Wu (L Wu (L Wu (L Wu (L Wu (L Wu (L Wu (L Wu (L Wu (L Wu (L Wu (L Wu M))))))))))))))))
   (Wv (Wy 2 cB.nd (Wt W7 (Y 2) (WD (L Wu (L Wu (L Wu (L Wu (L Wu (L Wu (L Wu (L Wu (L Wu (L Wu M)))))))))))))
   (Wv (Wy 3 cB.nd Wu)
   (Wv (Wy 4 cB.nd (WD M))
   (Wv (W8 (Xu U m_range (L (Y 1) M)) (WI 5 cB.nd) (Wv (Wy 6 cB.nd (WA ST hr U (L (Y 0) (L (Wt WN Ws (Y 5)) M))))
   (Wv (Xz (i:=7) [none,some 4] ["name","found"] (oa nO) U (WW (Y 2)) (fun v v v v v=>⟨(WI 0 (jr ["name","found"])),(L3.if1 (Wx L3.jQ (Y 0) (Y 1) U)),(Y 0)⟩) cB.nd)
   (Wv (Wy 8 cB.nd (Wz WK (Y 7) (Wt WG (Y 6) (WJ WO U m_len RG (L (Y 7) M)))))
   (Wv (Wy 9 cB.nd (Xv Wu (L (Xk [none,some 3,some 0,some 5] ["j","letters","head","k"] (oa nO) U (Xu U m_range (L (Wt WN Ws (Wt WG (Wt WT (Y 6) Ws) Ws)) M)) (fun v v v v v=>⟨(WI 0 (jr ["j","letters","head","k"])),WZ,(Wz L3.MH (Y 1) (Wt WG (WA ST hr U (L (Y 2) (L (Wt WN (Wt WN Ws (Wt WY Ws (Y 3))) (Y 0)) M))) Ws))⟩)) M)))
   (Wv (WB (WV (WX (Wx WL (Wt WG (WA ST hr U (L (Y 0) (L (Wt WN Ws (Y 5)) M))) Ws) Ws) (W6 (Wx L3.jQ (Y 9) (Y 4) U)))) (Ww (Wy 8 cB.nd (Y 9))) WE)
   (Ww (W0 (Xt (Y 4) (L (Y 8) M))))))))))
   (Ww (WC (Y 4)))))))),?_⟩
 show tu fun Rk kR=>?_
 show⟨YU,fun s1 GB=>?_⟩
 obtain⟨Ha,sa,ga,zz⟩:=aZ GB (.lst [.str "a",.str "yes",.str "put",.str "box",.str "abcdefgh",.str "end",.str "ye",.str "no",.str "x",.str "test",.str "input",.str "abcdefg",.str "yess",.str "say"])
 rw[zz];clear zz
 show ak ?_
 show⟨_,U,YS,fun s2 hs2=>?_⟩
 obtain⟨Hb,sb,gb,zz⟩:=aZ hs2 (.lst [.str "pick",.str "plus",.str "less",.str "same",.str "number",.str "under",.str "both",.str "not",.str "yours",.str "mine"])
 rw[zz];clear zz
 show⟨s1,s2,_,_,U,U,sb _ _ ga,gb,YV,fun sm Pq=>?_⟩
 have sc:=az (aa sa sb) (o:=.lst (bA.map V.str)) Pq
 have gc:(upd Hb sm (.lst (bA.map V.str))) sm=some (.lst (bA.map V.str)):=ae
 show ak (kR _ _ ?_)
 show rJ (upd Hb sm (.lst (bA.map V.str))) U ?_
 generalize upd Hb sm (.lst (bA.map V.str))=Hc at sc gc ⊢
 show tu fun Rk kR=>?_
 show ak ?_
 show⟨YI,fun ln Jg=>?_⟩
 have KG:=aS sc Jg
 have Qv:sm≠ln:=ag gc Jg
 have g2:(upd Hc ln (.lst [])) ln=some (.lst (([]:List Str).map V.str)):=ae
 have s2:ai H (upd Hc ln (.lst [])):=az sc Jg
 have gs:(upd Hc ln (.lst [])) sm=some (.lst (bA.map V.str)):=af Jg _ _ _ gc
 generalize upd Hc ln (.lst [])=H2 at g2 s2 gs ⊢
 show ak (kR _ _ ?_)
 show aw [some (.int c),some (.int m),some (.ref sm),some (.str lets),some (.ref ln),none,none,none,none,none] U ?_
 show aq fun Rk kR=>?_
 show⟨_,U,m,U,by lia,by lia,?_⟩
 show gf (lo:=0) (n:=m.toNat) (fun i σ Hx=>(∃o5 o6 o7 o8 o9,σ=[some (.int c),some (.int m),some (.ref sm),some (.str lets),some (.ref ln),o5,o6,o7,o8,o9])/\ai H Hx/\Hx sm=some (.lst (bA.map V.str))/\∃fs:List Str,Hx ln=some (.lst (fs.map V.str))/\fs.length=i/\(∀x∈fs,df x)/\fs.Nodup) ⟨⟨_,_,_,_,_,U⟩,s2,gs,[],g2,U,(fun x hx=>nomatch hx),List.nodup_nil⟩ (fun i σ Hx hi z=>?_) (fun σ Hx z=>?_)
 . obtain⟨⟨o5,o6,o7,o8,o9,rfl⟩,sx,gm,fs,gl,fl,f8,JZ⟩:=z
   show ak ?_
   show aw [some (.int c),some (.int m),some (.ref sm),some (.str lets),some (.ref ln),some (.int (0+(i:Int))),o6,o7,o8,o9] U ?_
   show aq fun Rj kj=>?_
   show⟨_,U,_,U,_,_,U,U,c,400+(0+(i:Int)),U,by lia,by lia,fun r r0 r1=>?_⟩
   show ak ?_
   show kj _ _ ?_
   show aw [some (.int c),some (.int m),some (.ref sm),some (.str lets),some (.ref ln),some (.int (0+(i:Int))),some (.int r),o7,o8,o9] U ?_
   show aq fun Rj kj=>?_
   show⟨_,U,sm,U,⟨_,aH.of gm⟩,fun D hD=>?_⟩
   show bD (xs:=bA.map V.str) (fun j Hy=>ai Hx Hy/\Hy D=some (.lst ((freeOf fs (bA.take j)).map V.str))) ⟨af hD _,ae⟩ (fun j Hy v z=>aH.of (z.1 _ _ gm)) (fun j x0 Hy hx z=>?_) (fun Hy z=>?_)
   . obtain⟨sy,gD⟩:=z
     have Gm:=(cy hx)
     have Q5:j<24:=Gm
     obtain⟨x,yy,rfl⟩:=cX hx
     show ak ?_
     show⟨_,U,_,U,ln,_,U,.inl (aH.of (sy _ _ gl)),U,cQ,_,U,?_⟩
     have MS:bA.take (j+1)=bA.take j++[x]:=by rw[R9,yy];rfl
     have hb:(if true=true then !iN (.str x) (fs.map V.str)else iN (.str x) (fs.map V.str))=!decide (x∈fs):=by rw[rA];rfl
     rw[hb]
     by_cases hf:x∈fs
     . rw[hW hf]
       show cb ?_
       show bq (Pv:=fun j Hy=>ai Hx Hy/\Hy D=some (.lst ((freeOf fs (bA.take j)).map V.str))) (by repeat' constructor) Gm ⟨sy,?_⟩
       rw[gD,MS]
       unfold freeOf
       rw[List.filter_append,Uz (by simp[hf]),List.filter_nil,RY]
     . rw[gv hf]
       show b6 ?_
       show⟨_,U,_,gD,Tv (show _<=1000 from ?_) (by left),bq (Pv:=fun j Hy=>ai Hx Hy/\Hy D=some (.lst ((freeOf fs (bA.take j)).map V.str))) (by repeat' constructor) Gm ⟨bo sy hD,?_⟩⟩
       . rw[Rn]
         show Ry (Wf _ _) ?_
         rw[R8]
         lia
       . rw[ae,MS]
         unfold freeOf
         rw[List.filter_append,Uy (by simp[hf]),List.filter_nil,RW]
         rfl
   obtain⟨sy,gD⟩:=z
   rw[Rn,Sf]at gD
   have fp:=vH (fs:=fs) (by lia)
   have lm:((freeOf fs bA).map V.str).length=(freeOf fs bA).length:=Rn ..
   show ak ?_
   show kj _ _ ?_
   show aw [some (.int c),some (.int m),some (.ref sm),some (.str lets),some (.ref ln),some (.int (0+(i:Int))),some (.int r),some (.ref D),o8,o9] U ?_
   show aq fun Rj kj=>?_
   show⟨_,U,_,U,_,U,D,_,U,.inl (aH.of gD),_,_,U,U,(by rw[lm];lia),?_⟩
   rw[lm]
   obtain⟨x,eF,dg⟩:=fZ V.str (freeOf fs bA) (aP (k:=r) (n:=((freeOf fs bA).length:Int)) (by lia)) (aQ (by lia))
   show cH gD dg ?_
   have x8:df x:=EF x (List.mem_filter.mp eF).1
   have Nu:x∉fs:=by simpa using(List.mem_filter.mp eF).2
   show ak ?_
   show kj _ _ ?_
   show aw [some (.int c),some (.int m),some (.ref sm),some (.str lets),some (.ref ln),some (.int (0+(i:Int))),some (.int r),some (.ref D),some (.str x),o9] U ?_
   have QB:=aa sx sy
   have Ki:=sy _ _ gm
   have Kg:=sy _ _ gl
   show aq fun Rj kj=>?_
   have w0:=aP (k:=r/32) (n:=8) (by left)
   have w1:=aQ (k:=r/32) (n:=8) (by left)
   show⟨U,_,U,_,_,U,U,⟨by left,by right⟩,_,_,U,U,(by change(0:Int)<8;decide),_,_,U,U,1+r/32%8,U,by lia,by lia,fun D2 A7=>?_⟩
   show hV (lo:=0) (n:=(1+r/32%8).toNat) (fun j Hv=>ai Hy Hv/\∃ts:List Str,Hv D2=some (.lst (ts.map V.str))/\ts.length=j/\∀x∈ts,∃c,x.cps.toList=[c]/\97<=c/\c<123) ⟨af A7 _,[],ae,U,fun x hx=>nomatch hx⟩ (fun j Hz hj z=>?_) (fun Hz z=>?_)
   . obtain⟨sz,ts,gD,tl,t1⟩:=z
     show ak ?_
     show de (A:=fun H5=>dJ _ D2 _ H5 _) ?_
     show⟨_,U,_,U,_,U,_,_,U,U,.inr ⟨by lia,by lia⟩,_,_,U,U,_,U,_,_,U,U,c,450+8*(0+(i:Int))+(0+(j:Int)),U,by lia,by lia,fun a a0 a1=>⟨_,_,U,U,(by change(0:Int)<26;decide),?_⟩⟩
     show⟨lets,_,_,U,U,by left,zp (aP (by left)) (aQ (by left)),?_⟩
     show⟨_,gD,aW (by rw[Rn];lia),bq (Pv:=fun j Hv=>ai Hy Hv/\∃ts:List Str,Hv D2=some (.lst (ts.map V.str))/\ts.length=j/\∀x∈ts,∃c,x.cps.toList=[c]/\97<=c/\c<123) (by repeat' constructor) hj ⟨bo sz A7,ts++[⟨#[97+(a%26).toNat]⟩],by rw[ae,RW];rfl,by rw[Rx,tl];rfl,fun x hx=>?_⟩⟩
     rcases ez hx with z|z
     . show t1 x z
     . rw[di z]
       have a2:=aQ (k:=a) (n:=26) (by left)
       have a3:=aP (k:=a) (n:=26) (by left)
       show⟨97+(a%26).toNat,U,by lia,by lia⟩
   obtain⟨sz,ts,gD,tl,t1⟩:=z
   show⟨"",D2,ts,rfl,rfl,aH.of gD,jK 1 (fun x hx=>by obtain⟨c,e,_⟩:=t1 x hx;rw[← bP,e];show Rz _) (by rw[show(("":Str)).length=0 from rfl];lia),?_⟩
   have w8:=v7 t1 (by lia) (by lia)
   obtain⟨wd,L8⟩ : ∃wd,wd=RM "" ts:=⟨_,rfl⟩
   show ak ?_
   show kj _ _ ?_
   show aw [some (.int c),some (.int m),some (.ref sm),some (.str lets),some (.ref ln),some (.int (0+(i:Int))),some (.int r),some (.ref D),some (.str x),some (.str wd)] (by subst L8;rfl) ?_
   rw[← L8]at w8
   have QC:=aa QB sz
   have Kj:=sz _ _ Ki
   have Kh:=sz _ _ Kg
   show aq fun Rj kj=>?_
   suffices hs:∀y:Str,df y->y∉fs->Rj [some (.int c),some (.int m),some (.ref sm),some (.str lets),some (.ref ln),some (.int (0+(i:Int))),some (.int r),some (.ref D),some (.str y),some (.str wd)] Hz by
     show⟨_,U,_,U,_,_,U,U,c,440+(0+(i:Int)),U,by lia,by lia,fun a a0 a1=>⟨_,_,U,U,(by change(0:Int)<2;decide),U,_,U,?_⟩⟩
     show aG (fun v=>?_) (fun v=>cb (hs x x8 Nu))
     show⟨_,U,_,U,ln,_,U,.inl (aH.of Kh),U,cQ,_,U,?_⟩
     show aG (fun cw=>?_) (fun v=>hs x x8 Nu)
     have cw:(!iN (.str wd) (fs.map V.str))=true:=cw
     rw[rA]at cw
     show⟨_,U,?_⟩
     show ak ?_
     show hs wd w8 (by simpa using cw)
   intro y y8 QM
   show kj _ _ ?_
   show⟨_,U,.inl ⟨U,_,aH.of Kh⟩,_,U,ln,_,_,U,U,Kh,aW (by rw[Rn];lia),⟨_,_,_,_,_,U⟩,bo QC KG,by rw[ah Qv];show Kj,fs++[y],by rw[ae,RW];rfl,by rw[Rx,fl];rfl,fun z hz=>?_,zv JZ QM⟩
   rcases ez hz with e|e
   . show f8 z e
   . rw[di e];show y8
 obtain⟨⟨o5,o6,o7,o8,o9,rfl⟩,sx,gm,fs,gl,fl,f8,JZ⟩:=z
 show kR _ _ ?_
 show⟨_,U,q ln fs Hx sx gl fl f8 JZ⟩
abbrev gP:Stmt:=top 57
def cS:aC ["script","head","names","boxes","left","inputs","k","cells","nodes","rows"] ["script"] (ao gP):=eU
def dQ (H:Hp)(v:V)(e:Np):Prop:=∃L8 nv,v=.ref L8/\H L8=some (.lst [nv,.str (RM bG e.ws)])/\b8 H nv e
def dQ.same {H H':Hp}(s:ai H H'){v:V}{e:Np}(h:dQ H v e):dQ H' v e:=by obtain⟨L8,nv,a,b,c⟩:=h;show⟨L8,nv,a,s _ _ b,c.keep (ai.tk s)⟩
def mK (n z:Str):"box "++n++" "++z=RM bG ["box",n,z]:=by
 change _=Sr bG ["box",n,z]
 rw[StrLaws.glued_eq_join]
 change _="box"++bG++(n++bG++z)
 rw[show("box ":Str)="box"++bG by right]
 simp only[UE]
def p8 (n:Str):"input "++n=RM bG ["input",n]:=by
 change _=Sr bG ["input",n]
 rw[StrLaws.glued_eq_join]
 change _="input"++bG++n
 rw[show("input ":Str)="input"++bG by right]
def xK {H:Hp}{v:V}{e:Np}(h:b8 H v e)(w:e.wr):(RM bG e.ws).length<=sizeLine:=by
 obtain⟨hd,xs,ra,eq⟩:=Np.rowAt h w
 rw[eq]
 show Ry (Ax ra) (by left)
def vj (sc:List Int):∃cs:List Int,er (sc.map V.int) (some 1) (some 41)=cs.map V.int/\cs.length<=40:=by
 have e1:HT.bX (sc.map V.int).length 0 (some ((1:Nat):Int))=min 1 (sc.map V.int).length:=HT.d9 _ _ _
 have e2:HT.bX (sc.map V.int).length (sc.map V.int).length (some ((41:Nat):Int))=min 41 (sc.map V.int).length:=HT.d9 _ _ _
 show⟨(sc.drop (HT.bX (sc.map V.int).length 0 (some ((1:Nat):Int)))).take (HT.bX (sc.map V.int).length (sc.map V.int).length (some ((41:Nat):Int))-HT.bX (sc.map V.int).length 0 (some ((1:Nat):Int))),?_,?_⟩
 . rw[Vi,V6]
   rfl
 . rw[R8,Tn,e1,e2,Rn]
   lia
def zf (cs:List Int):∃ds:List Int,er (cs.map V.int) none (some ((cs.length:Int)/2))=ds.map V.int/\ds.length=cs.length/2:=by
 have e0:(((cs.length/2:Nat):Nat):Int)=(cs.length:Int)/2:=by lia
 have e2:HT.bX (cs.map V.int).length (cs.map V.int).length (some ((cs.length/2:Nat):Int))=min (cs.length/2) (cs.map V.int).length:=HT.d9 _ _ _
 show⟨cs.take (cs.length/2),?_,by rw[R8];lia⟩
 unfold er
 rw[← e0,e2,HT.pd,VS,Rn,Wm,Vi,Nat.min_eq_left (by lia)]
def x5 {i:Int}{n:Nat}(h0:0<=i)(h1:i<(n:Int)):Va i n=some i.toNat:=by
 unfold Va
 simp only[dh (show ¬ i<0 by lia)]
 rw[dI (by simp[h0,h1])]
def LX {n:Int}(h:1<=n/\n<=16):n.natAbs<2^100:=RJ (show n.natAbs<64 by lia) (by left)
theorem E.okN.ij {bs:aB}{ns:List Str}(h:bs.map (·.1)=ns):∀{e:E},e.okN (·∈ns)->e.okIn (JK bs)
 | .num _,o=>kM o
 | .box t x,o=>⟨o.1,by rw[h];show o.2⟩
 | .yes,_=>RO
 | .nt a,o=>E.okN.ij h (e:=a) o
 | .two _ a b,o=>⟨E.okN.ij h (e:=a) o.1,E.okN.ij h (e:=b) o.2⟩
theorem kr:∀{l:List Str} {j:Nat} {x:Str},l[j]?=some x->l.Perm (x::l.eraseIdx j)
 | a::l,0,x,h=>by
   have:a=x:=by simpa using h
   rw[this]
   show .refl _
 | a::l,j+1,x,h=>by
   have h:l[j]?=some x:=by simpa using h
   show((kr h).cons a).trans (.swap x a _)
def sM.row {ns:List Str}{m:Int}{e:Np}(h:sM ns m e):(RM bG e.ws).length<=3600:=by
 have key:∀(l:List Str),(∀x∈l,x.length<=31)->(l.map (·.length)).sum<=l.length*31:=by
   intro l
   induction l with
   | nil=>intro _;show Rz _
   | cons a l ih=>
     intro h
     have h1:=ih fun x hx=>h x (RC _ hx)
     have h2:=h a Ru
     rw[R3,S2,RE]
     lia
 have lo:=h.lo
 have w:=h.w
 change(Sr bG e.ws).length<=_
 rw[StrLaws.glued_eq_join]
 show Ry (StrLaws.join_length_le _ _) ?_
 rw[show(bG:Str).length=1 from rfl]
 match e,lo,w with
 | .put x t n,lo,w=>
   have h1:=lo t (RC _ Ru)
   have h2:=w.1.l8
   have h3:=bJ w.2.2
   have h4:(("put":Str)).length=3:=rfl
   simp only[Np.ws,R3,Ud,S2,UQ,RE,Tx]
   lia
 | .say t n,lo,w=>
   have h1:=lo t Ru
   have h3:=bJ w.2
   have h4:(("say":Str)).length=3:=rfl
   simp only[Np.ws,R3,Ud,S2,UQ,RE,Tx]
   lia
 | .test t n o,lo,w=>
   have h1:=lo t Ru
   have h3:=bJ w.2.1
   have h5:=bJ w.2.2
   have h4:(("test":Str)).length=4:=rfl
   simp only[Np.ws,R3,Ud,S2,UQ,RE,Tx]
   lia
 | .pick x n,lo,w=>
   have h2:=w.1.l8
   have h3:=bJ w.2
   have h4:(("pick":Str)).length=4:=rfl
   simp only[Np.ws,R3,Ud,S2,UQ,RE,Tx]
   lia
 | .fin,_,_=>show(by left:3+0+1*1<=3600)
def dQ.put {H:Hp}{N:Addr}{us QJ:List V}(gN:H N=some (.lst us)){v:V}{e:Np}(h:dQ H v e/\v≠.ref N):dQ (upd H N (.lst QJ)) v e/\v≠.ref N:=by
 obtain⟨⟨L8,nv,rfl,b,c⟩,n⟩:=h
 have ln:L8≠N:=fun z=>n (by rw[z])
 show⟨⟨L8,nv,U,by rw[ah ln];show b,c.keep (TW.TK.lst gN)⟩,n⟩
def yd (K:Ro):Sp:=fun vs H Q z=>∃(a:Addr) (sc:List Int),vs=[.ref a]/\aH K H a (sc.map V.int)/\∀(L8 p R B I N:Addr) (vb vn:List V) (bs:aB) (ins:List Str) (nds:List Np) (H':Hp),ai H H'->H' L8=some (.lst [.ref p,.ref R])->H' p=some (.tup [.ref B,.ref I,.ref N])->FD H' B I N vb vn bs ins nds->AW bs ins nds->nds.length<=40->H' R=some (.lst ((textOf bs ins nds).map V.str))->Q (.ref L8) H'
def zM {f:Addr}{fd:RZ}(F:cD K "_law_program" "_law_program" gP f fd)(m_len:mg "len"=none)(m_range:mg "range"=none)(m_list:mg "list"=none)(m_str:mg "str"=none)(m_sum:mg "sum"=none)(m_enumerate:mg "enumerate"=none)(CE:b7 P w K mg base "_law_cell_at" ["script","k"] 41 (n5 K))(NS:b7 P w K mg base "_law_names" ["head","many"] 41 r8)(ST:b7 P w K mg base "_law_stir" ["cell","k"] 41 cm)(NO:b7 P w K mg base "_law_node" ["cell","names","many"] 41 yb):aY P w K mg base dq 42 f fd ["script"] (yd K):=by
 show F.iU cS fun cdv A outer s H vs Q E hr h=>?_
 obtain⟨a,sc,rfl,hs,q⟩:=h
 show ig ⟨_,(Wv (Wy 1 cS.nd (WA CE hr U (L (Y 0) (L Ws M))))
   (Wv (Wy 2 cS.nd (WA NS hr U (L (Y 1) (L (Wt WG (WA ST hr U (L (Y 1) (L Ws M))) Ws) M))))
   (Wv (Xz (i:=3) [none,none,some 1] ["k","name","head"] (oa gP) U (L3.iE U m_enumerate (L (Y 2) M)) (fun y y y y y=>⟨(Xb 2 (WQ (WI 0 (jr ["k","name","head"])) (WQ (WI 1 (jr ["k","name","head"])) W2))),WZ,(WH (L (Y 1) (L (Wt WN Ws (Wt WG (WA ST hr U (L (Y 2) (L (Wt WN Ws (Y 0)) M))) Ws)) M)))⟩) cS.nd)
   (Wv (Wy 4 cS.nd (W4 L3.mM U m_list (by right) (L (Y 2) M)))
   (Wv (Wy 5 cS.nd (WD M))
   (Wv (W8 (Xu U m_range (L (Wt WG (WA ST hr U (L (Y 1) (L Ws M))) (Wt WN (WJ WO U m_len RG (L (Y 2) M)) Ws)) M)) (WI 6 cS.nd) (Ww (W0 (Xt (Y 5) (L (L3.Bs (Y 4) (L (Wt WG (WA ST hr U (L (Y 1) (L (Wt WN Ws (Y 6)) M))) (WJ WO U m_len RG (L (Y 4) M))) M)) M)))))
   (Wv (Wy 7 cS.nd (L3.BH (Y 0) Ws Ws))
   (Wv (WB (Wx (L3.wN (m:=2) (dm hr _ (by left))) (Y 7) (WD M)) (Ww (Wy 7 cS.nd (WD (L Ws M)))) WE)
   (Wv (Xz (i:=8) [none,some 2,some 7] ["cell","names","cells"] (oa gP) U (WW (Y 7)) (fun y y y y y=>⟨(WI 0 (jr ["cell","names","cells"])),WZ,(WA NO hr U (L (Y 0) (L (Y 1) (L (WJ WO U m_len RG (L (Y 2) M)) M))))⟩) cS.nd)
   (Wv (Xo (Wx Xi (WJ L3.FN U m_sum (by right) (L (Xk [none,none] ["node","row"] (oa gP) U (WW (Y 8)) (fun y y y y y=>⟨(L3.zc 2 (WQ (WI 0 (jr ["node","row"])) (WQ (WI 1 (jr ["node","row"])) W2))),WZ,(Wt WN (WJ L3.mL U m_len RG (L (Y 1) M)) Ws)⟩)) M)) Ws) (Wv (Wy 7 cS.nd (L3.ED (Y 7) (Wt WT (WJ WO U m_len RG (L (Y 7) M)) Ws)))
   (Ww (Xz (i:=8) [none,some 2,some 7] ["cell","names","cells"] (oa gP) U (WW (Y 7)) (fun y y y y y=>⟨(WI 0 (jr ["cell","names","cells"])),WZ,(WA NO hr U (L (Y 0) (L (Y 1) (L (WJ WO U m_len RG (L (Y 2) M)) M))))⟩) cS.nd))))
   (Wv (Wy 9 cS.nd (Wt W7 (Xk [none,none] ["name","size"] (oa gP) U (WW (Y 3)) (fun y y y y y=>⟨(Xb 2 (WQ (WI 0 (jr ["name","size"])) (WQ (WI 1 (jr ["name","size"])) W2))),WZ,(Wt WS (Wt WS (Wt WS Wu (Y 0)) Wu) (W4 Xp U m_str (by right) (L (Y 1) M)))⟩)) (Xk [none] ["name"] (oa gP) U (WW (Y 5)) (fun y y y y y=>⟨(WI 0 (jr ["name"])),WZ,(Wt WS Wu (Y 0))⟩))))
   (Ww (WC (WD (L (WH (L (Y 3) (L (Y 5) (L (Xk [none,none] ["node","row"] (oa gP) U (WW (Y 8)) (fun y y y y y=>⟨(L3.zc 2 (WQ (WI 0 (jr ["node","row"])) (WQ (WI 1 (jr ["node","row"])) W2))),WZ,(Y 0)⟩)) M)))) (L (Wt W7 (Y 9) (Xk [none,none] ["node","row"] (oa gP) U (WW (Y 8)) (fun y y y y y=>⟨(L3.zc 2 (WQ (WI 0 (jr ["node","row"])) (WQ (WI 1 (jr ["node","row"])) W2))),WZ,(Y 1)⟩))) M)))))))))))))))),?_⟩
 show aq fun Rk kR=>?_
 show⟨_,U,a,sc,0,U,hs,by left,fun c=>?_⟩
 show ak (kR _ _ ?_)
 show aw [some (.ref a),some (.int c),none,none,none,none,none,none,none,none] U ?_
 show aq fun Rk kR=>?_
 show⟨_,U,_,U,c,420,U,by left,by left,fun r r0 r1=>⟨_,_,U,U,(by change(0:Int)<5;decide),c,r%5,U,aP (by left),(by have:=aQ (k:=r) (n:=5) (by left);lia),fun nl ns H1 s1 gn Qf n8 MR=>?_⟩⟩
 have r5:=aQ (k:=r) (n:=5) (by left)
 have Q9:=aP (k:=r) (n:=5) (by left)
 have D1:Nm H1 nl ns:=⟨gn,by lia⟩
 have n4:=D1.l4
 show ak (kR _ _ ?_)
 show aw [some (.ref a),some (.int c),some (.ref nl),none,none,none,none,none,none,none] U ?_
 show aq fun Rk kR=>?_
 show⟨_,U,nl,U,⟨_,aH.of gn⟩,fun B hB=>?_⟩
 show sY (xs:=ns.map V.str) (fun i Hy=>ai H1 Hy/\∃us bs,Hy B=some (.lst us)/\us.length=i/\Paired (fm Hy) us bs/\bs.map (·.1)=ns.take i/\∀b∈bs,df b.1/\1<=b.2/\b.2<=16) ⟨af hB _,[],[],ae,U,.nil,U,fun b hb=>nomatch hb⟩ (fun i Hy y z=>aH.of (z.1 _ _ gn)) (fun i x0 pp Hy hx z md=>?_) (fun Hy z=>?_)
 . obtain⟨sy,us,bs,gB,ul,pu,en,wu⟩:=z
   have eE:=(cy hx)
   have CC:i<ns.length:=by rw[Rn]at eE;show eE
   obtain⟨x,yy,rfl⟩:=cX hx
   have sp:=af md (.tup [.int (i:Nat),.str x])
   have gp:(upd Hy pp (.tup [.int (i:Nat),.str x])) pp=some (.tup [.int (i:Nat),.str x]):=ae
   generalize upd Hy pp (.tup [.int (i:Nat),.str x])=Hz at sp gp ⊢
   show yC gp ?_
   show de (A:=fun H5=>dJ _ B _ H5 _) ?_
   show⟨_,U,_,U,_,U,_,_,U,U,c,421+(i:Int),U,by lia,by lia,fun k k0 k1=>⟨_,_,U,U,(by change(0:Int)<16;decide),_,_,U,U,YK,fun q2 Pj=>?_⟩⟩
   have z0:=aP (k:=k) (n:=16) (by left)
   have z1:=aQ (k:=k) (n:=16) (by left)
   have tq:=af Pj (.tup [.str x,.int (1+k%16)])
   have J9:=tq _ _ (sp _ _ gB)
   show⟨us,J9,aW (by lia),bq (Pv:=fun i Hy=>ai H1 Hy/\∃us bs,Hy B=some (.lst us)/\us.length=i/\Paired (fm Hy) us bs/\bs.map (·.1)=ns.take i/\∀b∈bs,df b.1/\1<=b.2/\b.2<=16) (by repeat' constructor) eE ⟨bo (aa (aa sy sp) tq) hB,us++[.ref q2],bs++[(x,1+k%16)],ae,by rw[Rx,ul];rfl,?_,?_,fun b hb=>?_⟩⟩
   . show Paired.snoc (Paired.cZ pu fun y y z=>Tp.keep ((ai.tk (aa sp tq)).trans (TW.TK.lst J9)) z) ⟨q2,U,TW.TK.lst J9 _ _ ae⟩
   . rw[RW,en,R9,yy]
     rfl
   . rcases ez hb with z|z
     . show wu b z
     . rw[di z]
       show⟨n8 x (RL yy),by change 1<=1+k%16;lia,by change 1+k%16<=16;lia⟩
 obtain⟨sy,us,bs,gB,ul,pu,en,wb⟩:=z
 rw[Rn]at ul
 rw[Rn,Sf]at en
 have bl:=Paired.length pu
 obtain⟨H2,vb,s2,gB,pb,vl⟩ : ∃H2 vb,ai H1 H2/\H2 B=some (.lst vb)/\Paired (fm H2) vb bs/\H2=Hy/\vb=us:=⟨Hy,us,sy,gB,pu,rfl,rfl⟩
 obtain⟨rfl,rfl⟩:=vl
 have D2:=D1.go s2
 show ak (kR _ _ ?_)
 show aw [some (.ref a),some (.int c),some (.ref nl),some (.ref B),none,none,none,none,none,none] U ?_
 show tu fun Rk kR=>?_
 show⟨_,U,nl,_,U,.inl (aH.of D2.hn),fun lf MB=>?_⟩
 obtain⟨H3,sl,gl,zz⟩:=aZ MB (.lst (ns.map V.str))
 rw[zz];clear zz
 show ak ?_
 show⟨YI,fun I hI=>?_⟩
 have MM:lf≠I:=ag gl hI
 obtain⟨H4,si,gi,zz⟩:=aZ hI (.lst [])
 rw[zz];clear zz
 have gl:=si _ _ gl
 have Rb:=aa s2 (aa sl si)
 show ak (kR _ _ ?_)
 show aw [some (.ref a),some (.int c),some (.ref nl),some (.ref B),some (.ref lf),some (.ref I),none,none,none,none] U ?_
 show aq fun Rk kR=>?_
 show⟨_,U,c,430,U,by left,by left,fun u u0 u1=>⟨_,U,nl,_,U,.inl (aH.of (si _ _ (sl _ _ D2.hn))),_,_,U,U,_,_,U,U,(by change(0:Int)<((ns.map V.str).length:Int)+1;lia),u%(((ns.map V.str).length:Int)+1),U,?_⟩⟩
 have j0:=aP (k:=u) (n:=((ns.map V.str).length:Int)+1) (by lia)
 have j1:=aQ (k:=u) (n:=((ns.map V.str).length:Int)+1) (by lia)
 rw[Rn]at j0 j1 ⊢
 show⟨by lia,by lia,?_⟩
 have Er:=aa sl si
 show gf (lo:=0) (n:=(u%((ns.length:Int)+1)).toNat) (fun i σ Hx=>(∃o6,σ=[some (.ref a),some (.int c),some (.ref nl),some (.ref B),some (.ref lf),some (.ref I),o6,none,none,none])/\ai H2 Hx/\∃ls is:List Str,Hx lf=some (.lst (ls.map V.str))/\Hx I=some (.lst (is.map V.str))/\ls.length+i=ns.length/\is.length=i/\(is++ls).Perm ns) ⟨⟨_,U⟩,Er,ns,[],gl,gi,U,U,.refl _⟩ (fun i σ Hx hi z=>?_) (fun σ Hx z=>?_)
 . obtain⟨⟨o6,rfl⟩,sx,ls,is,hl,My,ll,il,pm⟩:=z
   show ak ?_
   show aw [some (.ref a),some (.int c),some (.ref nl),some (.ref B),some (.ref lf),some (.ref I),some (.int (0+(i:Int))),none,none,none] U ?_
   show⟨_,U,.inl ⟨U,_,aH.of My⟩,_,U,.inl ⟨U,_,aH.of hl⟩,_,U,_,U,_,_,U,U,c,431+(0+(i:Int)),U,by lia,by lia,fun k k0 k1=>⟨_,U,lf,_,U,.inl (aH.of hl),_,_,U,U,(by rw[Rn];lia),?_⟩⟩
   have m0:=aP (k:=k) (n:=((ls.map V.str).length:Int)) (by rw[Rn];lia)
   have m1:=aQ (k:=k) (n:=((ls.map V.str).length:Int)) (by rw[Rn];lia)
   have ml:(ls.map V.str).length=ls.length:=Rn ..
   obtain⟨j,ej⟩ : ∃j,j=k%((ls.map V.str).length:Int):=⟨_,rfl⟩
   rw[← ej]at m0 m1
   obtain⟨x,gx,eF,_⟩:=bU V.str ls m0 (by lia)
   show⟨lf,_,_,j.toNat,.str x,U,U,hl,?_,?_,?_,?_,?_⟩
   . change -(2^63)<=k%((ls.map V.str).length:Int)
     rw[← ej];lia
   . change k%((ls.map V.str).length:Int)<2^63
     rw[← ej];lia
   . change Va (k%((ls.map V.str).length:Int)) _=_
     rw[← ej];show x5 m0 m1
   . rw[Sb,gx];rfl
   show⟨I,_,_,U,U,by rw[ah MM.symm];show My,aW (by rw[Rn];lia),⟨_,U⟩,bo (bo sx MB) (aS sl hI),ls.eraseIdx j.toNat,is++[x],?_,by rw[ae,RW];rfl,?_,by rw[Rx,il];rfl,?_⟩
   . rw[ah MM,ae,gk]
   . rw[List.length_eraseIdx,dI (by lia)]
     lia
   . rw[SK]
     show((kr gx).symm.append_left is).trans pm
 obtain⟨⟨o6,rfl⟩,sx,ls,ins,_,gI,ll,il,pm⟩:=z
 have i8:∀x∈ins,df x:=fun x hx=>n8 x (pm.mem_iff.mp (S0 _ hx))
 have sB:=aa s1 (aa s2 sx)
 have gB:=sx _ _ gB
 have pb:Paired (fm Hx) vb bs:=Paired.cZ pb fun y y z=>Tp.keep (ai.tk sx) z
 have DB:=D2.go sx
 have zm:ins.length<=4:=by lia
 show kR _ _ (tu fun Rk kR=>?_)
 suffices oJ:∀(cl:Addr) (cs:List Int) (H5:Hp),ai Hx H5->H5 cl=some (.lst (cs.map V.int))->(1<=cs.length/\cs.length<=40)->Rk [some (.ref a),some (.int c),some (.ref nl),some (.ref B),some (.ref lf),some (.ref I),o6,some (.ref cl),none,none] H5 by
   obtain⟨cs,N3,I9⟩:=vj sc
   show⟨_,U,_,U,_,U,a,_,U,ai.seq sB hs,fun cl ng=>?_⟩
   rw[N3]
   obtain⟨Hc,Nc,gc,zz⟩:=aZ ng (.lst (cs.map V.int))
   rw[zz];clear zz
   show ak ?_
   show⟨_,U,YI,fun z hz=>?_⟩
   obtain⟨Hz,sz,gz,zz⟩:=aZ hz (.lst [])
   rw[zz];clear zz
   show⟨_,RB.nil (aH.of (sz _ _ gc)) (aH.of gz),_,U,?_⟩
   show aG (fun y=>?_) (fun cc=>?_)
   . show⟨YJ,fun c2 zh=>?_⟩
     show ak ?_
     show oJ c2 [0] _ (az (aa Nc sz) zh) ae (by left)
   . show oJ cl cs Hz (aa Nc sz) (sz _ _ gc) ⟨by cases cs with|nil=>show au rfl cc|cons a l=>show S8 _,I9⟩
 intro cl cs H5 s5 ng ⟨c1,I9⟩
 show kR _ _ (aq fun Rk kR=>?_)
 have D5:=DB.go s5
 show⟨_,U,cl,U,⟨_,aH.of ng⟩,fun N hN=>?_⟩
 show bD (xs:=cs.map V.int) (fun i Hy=>ai H5 Hy/\∃us es,Hy N=some (.lst us)/\us.length=i/\Paired (fun v e=>dQ Hy v e/\v≠.ref N) us es/\∀e∈es,sM ns ((cs.map V.int).length:Int) e) ⟨af hN _,[],[],ae,U,.nil,fun e he=>nomatch he⟩ (fun i Hy y z=>aH.of (z.1 _ _ ng)) (fun i x0 Hy hx z=>?_) (fun Hy z=>?_)
 . obtain⟨sy,us,es,gN,ul,pu,wu⟩:=z
   have eE:=(cy hx)
   have CC:i<cs.length:=by rw[Rn]at eE;show eE
   obtain⟨cc,_,rfl⟩:=cX hx
   show ak ?_
   show de (A:=fun H5=>dJ _ N _ H5 _) ?_
   show⟨_,U,_,U,_,U,cl,_,U,.inl (aH.of (sy _ _ ng)),cc,nl,_,ns,U,D5.go sy,n8,by rw[Rn];lia,by rw[Rn];lia,fun L8 v e Hz hL sz gL nd wr=>?_⟩
   have Cy:=sz _ _ gN
   have LN:L8≠N:=(ag gN hL).symm
   show⟨us,Cy,aW (by lia),bq (Pv:=fun i Hy=>ai H5 Hy/\∃us es,Hy N=some (.lst us)/\us.length=i/\Paired (fun v e=>dQ Hy v e/\v≠.ref N) us es/\∀e∈es,sM ns ((cs.map V.int).length:Int) e) (by repeat' constructor) eE ⟨bo (aa sy sz) hN,us++[.ref L8],es++[e],ae,by rw[Rx,ul];rfl,?_,fun e' he=>?_⟩⟩
   . show Paired.snoc (Paired.cZ pu fun y y z=>dQ.put Cy ⟨dQ.same sz z.1,z.2⟩) (dQ.put Cy ⟨⟨L8,v,U,gL,nd⟩,fun z=>LN (by injection z)⟩)
   . rcases ez he with z|z
     . show wu e' z
     . rw[di z];show wr
 obtain⟨sy,us,es,gN,ul,pu,wu⟩:=z
 rw[Rn]at ul wu
 show ak (kR _ _ ?_)
 show aw [some (.ref a),some (.int c),some (.ref nl),some (.ref B),some (.ref lf),some (.ref I),o6,some (.ref cl),some (.ref N),none] U ?_
 show aq fun Rk kR=>?_
 show⟨fun(d:Nat) (σ:L2.St) (Hy:Hp)=>∃(cl:Addr) (cs:List Int) (N:Addr) (us:List V) (es:List Np),σ=[some (.ref a),some (.int c),some (.ref nl),some (.ref B),some (.ref lf),some (.ref I),o6,some (.ref cl),some (.ref N),none]/\d=cs.length/\ai Hx Hy/\Hy cl=some (.lst (cs.map V.int))/\(1<=cs.length/\cs.length<=40)/\Hy N=some (.lst us)/\us.length=cs.length/\Paired (fun v e=>dQ Hy v e/\v≠.ref N) us es/\∀e∈es,sM ns (cs.length:Int) e,⟨cs.length,cl,cs,N,us,es,U,U,aa s5 sy,sy _ _ ng,⟨c1,I9⟩,gN,ul,pu,wu⟩,fun d σ Hz z=>?_⟩
 obtain⟨cl,cs,N,us,es,rfl,rfl,s5,ng,⟨c1,I9⟩,gN,ul,pu,wu⟩:=z
 have el:=Paired.length pu
 show⟨_,U,N,U,⟨_,aH.of gN⟩,fun D hD=>?_⟩
 show bD (xs:=us) (fun i Hy=>ai Hz Hy/\∃ks:List Int,Hy D=some (.lst (ks.map V.int))/\ks.length=i/\∀k∈ks,k<=3601) ⟨af hD _,[],ae,U,fun k hk=>nomatch hk⟩ (fun i Hy y z=>aH.of (z.1 _ _ gN)) (fun i x0 Hy hx z=>?_) (fun Hy z=>?_)
 . obtain⟨sy,ks,gD,kl,k3⟩:=z
   have eE:=(cy hx)
   obtain⟨e,Fe,⟨L8,nv,rfl,gL,nd⟩,_⟩:=Paired.get pu hx
   show⟨L8,_,U,aH.of (sy _ _ gL),U,_,_,U,_,_,U,U,?_⟩
   show de (A:=fun H5=>dJ _ D _ H5 _) ?_
   show⟨_,U,_,U,xK nd (wu e (RL Fe)).w,_,_,U,U,_,gD,aW (by rw[Rn];lia),bq (Pv:=fun i Hy=>ai Hz Hy/\∃ks:List Int,Hy D=some (.lst (ks.map V.int))/\ks.length=i/\∀k∈ks,k<=3601) (by repeat' constructor) eE ⟨bo sy hD,ks++[((RM bG e.ws).length:Int)+1],by rw[ae,RW];rfl,by rw[Rx,kl];rfl,fun k hk=>?_⟩⟩
   rcases ez hk with z|z
   . show k3 k z
   . rw[di z]
     have:=(wu e (RL Fe)).row
     lia
 obtain⟨sy,ks,gD,kl,k3⟩:=z
 show⟨D,ks,U,aH.of gD,_,_,U,U,_,U,?_⟩
 have s5:=aa s5 sy
 have ng:=sy _ _ ng
 have gN:=sy _ _ gN
 have pu:Paired (fun v e=>dQ Hy v e/\v≠.ref N) us es:=Paired.cZ pu fun y y z=>⟨dQ.same sy z.1,z.2⟩
 show aG (fun cc=>?_) (fun y=>?_)
 . have cpos:2<=cs.length:=by
     show Nat.lt_of_le_of_ne c1 fun z=>?_
     have kn:ks.length=1:=by lia
     have cc:=jg cc
     match ks,kn,k3,cc with
     | [k],_,k3,cc=>
       have:=k3 k Ru
       have cc:(3700:Int)<[k].sum:=cc
       simp only[S2,UQ]at cc
       lia
   show⟨fun σ' H'=>∃d',d'<cs.length/\(fun(d:Nat) (σ:L2.St) (Hy:Hp)=>∃(cl:Addr) (cs:List Int) (N:Addr) (us:List V) (es:List Np),σ=[some (.ref a),some (.int c),some (.ref nl),some (.ref B),some (.ref lf),some (.ref I),o6,some (.ref cl),some (.ref N),none]/\d=cs.length/\ai Hx Hy/\Hy cl=some (.lst (cs.map V.int))/\(1<=cs.length/\cs.length<=40)/\Hy N=some (.lst us)/\us.length=cs.length/\Paired (fun v e=>dQ Hy v e/\v≠.ref N) us es/\∀e∈es,sM ns (cs.length:Int) e) d' σ' H',fun σ' H' z=>z,?_⟩
   show aq fun uU kR2=>?_
   show⟨_,U,_,U,cl,_,U,.inl (aH.of ng),_,_,U,U,⟨by left,by right⟩,_,U,cl,_,U,aH.of ng,fun c2 zh=>?_⟩
   obtain⟨ds,N4,dl⟩:=zf cs
   show qj (fun H'=>cI 7 (.ref c2) [some (.ref a),some (.int c),some (.ref nl),some (.ref B),some (.ref lf),some (.ref I),o6,some (.ref cl),some (.ref N),none] H' _) (upd Hy c2 (.lst (ds.map V.int))) (by rw[Rn];change upd Hy c2 (.lst (er (cs.map V.int) none (some ((cs.length:Int)/2))))=_;rw[N4]) ?_
   obtain⟨LM,Nd,Jb,zz⟩:=aZ zh (.lst (ds.map V.int))
   rw[zz];clear zz
   show ak ?_
   show kR2 _ _ ?_
   show aw [some (.ref a),some (.int c),some (.ref nl),some (.ref B),some (.ref lf),some (.ref I),o6,some (.ref c2),some (.ref N),none] U ?_
   have D5:=DB.go (aa s5 Nd)
   show⟨_,U,c2,U,⟨_,aH.of Jb⟩,fun N hN=>?_⟩
   show bD (xs:=ds.map V.int) (fun i Hw=>ai LM Hw/\∃us es,Hw N=some (.lst us)/\us.length=i/\Paired (fun v e=>dQ Hw v e/\v≠.ref N) us es/\∀e∈es,sM ns ((ds.map V.int).length:Int) e) ⟨af hN _,[],[],ae,U,.nil,fun e he=>nomatch he⟩ (fun i Hw y z=>aH.of (z.1 _ _ Jb)) (fun i x0 Hw hx z=>?_) (fun Hw z=>?_)
   . obtain⟨sy,us,es,gN,ul,pu,wu⟩:=z
     have eE:=(cy hx)
     have CC:i<ds.length:=by rw[Rn]at eE;show eE
     obtain⟨cc,_,rfl⟩:=cX hx
     show ak ?_
     show de (A:=fun H5=>dJ _ N _ H5 _) ?_
     show⟨_,U,_,U,_,U,c2,_,U,.inl (aH.of (sy _ _ Jb)),cc,nl,_,ns,U,D5.go sy,n8,by rw[Rn];lia,by rw[Rn];lia,fun L8 v e Hr hL sz gL nd wr=>?_⟩
     have Cy:=sz _ _ gN
     have LN:L8≠N:=(ag gN hL).symm
     show⟨us,Cy,aW (by lia),bq (Pv:=fun i Hw=>ai LM Hw/\∃us es,Hw N=some (.lst us)/\us.length=i/\Paired (fun v e=>dQ Hw v e/\v≠.ref N) us es/\∀e∈es,sM ns ((ds.map V.int).length:Int) e) (by repeat' constructor) eE ⟨bo (aa sy sz) hN,us++[.ref L8],es++[e],ae,by rw[Rx,ul];rfl,?_,fun e' he=>?_⟩⟩
     . show Paired.snoc (Paired.cZ pu fun y y z=>dQ.put Cy ⟨dQ.same sz z.1,z.2⟩) (dQ.put Cy ⟨⟨L8,v,U,gL,nd⟩,fun z=>LN (by injection z)⟩)
     . rcases ez he with z|z
       . show wu e' z
       . rw[di z];show wr
   obtain⟨sy,us,es,gN,ul,pu,wu⟩:=z
   rw[Rn]at ul wu
   show ak ?_
   show⟨ds.length,by lia,c2,ds,N,us,es,U,U,aa (aa s5 Nd) sy,sy _ _ Jb,⟨by lia,by lia⟩,gN,ul,pu,wu⟩
 have gB:=s5 _ _ gB
 have gI:=s5 _ _ gI
 have pb:Paired (fm Hy) vb bs:=Paired.cZ pb fun y y z=>Tp.keep (ai.tk s5) z
 have sB:=aa sB s5
 have L0:bs.length<=4:=by lia
 show kR _ _ (aq fun Rk kR=>?_)
 show⟨_,U,B,U,⟨_,aH.of gB⟩,fun E1 Mn=>?_⟩
 show bD (xs:=vb) (fun i Hv=>ai Hy Hv/\Hv E1=some (.lst ((bs.take i).map fun b=>V.str (RM bG (jh b))))) ⟨af Mn _,ae⟩ (fun i Hv y z=>aH.of (z.1 _ _ gB)) (fun i x0 Hv hx z=>?_) (fun Hv z=>?_)
 . obtain⟨sv,gE⟩:=z
   have eE:=(cy hx)
   obtain⟨b,lK,pp,rfl,md⟩:=Paired.get pb hx
   have w9:=wb b (RL lK)
   have w8:=w9.1.l8
   have n1:=zF (LX w9.2)
   have e1:(("box ":Str)).length=4:=rfl
   have e2:((" ":Str)).length=1:=rfl
   show yC (sv _ _ md) ?_
   show de (A:=fun H5=>dJ _ E1 _ H5 _) ?_
   show⟨_,U,"box ",_,U,U,fit (by lia),_," ",U,U,fit (by rw[SU];lia),_,U,.inl ⟨_,U,TC (eY (LX w9.2)) (by left),_,_,U,U,fit (by rw[SU,SU];lia),?_⟩⟩
   show⟨_,gE,aW (by rw[Rn,R8];lia),bq (Pv:=fun i Hv=>ai Hy Hv/\Hv E1=some (.lst ((bs.take i).map fun b=>V.str (RM bG (jh b))))) (by repeat' constructor) eE ⟨bo sv Mn,?_⟩⟩
   rw[ae,mK,R9,lK,RW]
   rfl
 obtain⟨sv,gE⟩:=z
 rw[show vb.length=bs.length from bl,Sf]at gE
 have Md:=sv _ _ gI
 show⟨_,U,I,U,⟨_,aH.of Md⟩,fun E2 Mo=>?_⟩
 show bD (xs:=ins.map V.str) (fun i Hu=>ai Hv Hu/\Hu E2=some (.lst ((ins.take i).map fun x=>V.str (RM bG (vW x))))) ⟨af Mo _,ae⟩ (fun i Hu y z=>aH.of (z.1 _ _ Md)) (fun i x0 Hu hx z=>?_) (fun Hu z=>?_)
 . obtain⟨su,gE⟩:=z
   have eE:=(cy hx)
   have CC:i<ins.length:=by rw[Rn]at eE;show eE
   obtain⟨x,yy,rfl⟩:=cX hx
   have w8:=(i8 x (RL yy)).l8
   have e1:(("input ":Str)).length=6:=rfl
   show ak ?_
   show de (A:=fun H5=>dJ _ E2 _ H5 _) ?_
   show⟨_,U,"input ",_,U,U,fit (by lia),?_⟩
   show⟨_,gE,aW (by rw[Rn,R8];lia),bq (Pv:=fun i Hu=>ai Hv Hu/\Hu E2=some (.lst ((ins.take i).map fun x=>V.str (RM bG (vW x))))) (by repeat' constructor) eE ⟨bo su Mo,?_⟩⟩
   rw[ae,p8,R9,yy,RW]
   rfl
 obtain⟨su,Ma⟩:=z
 rw[Rn,Sf]at Ma
 show⟨E1,E2,_,_,U,U,su _ _ gE,Ma,small (by rw[Rn,Rn];lia),fun R0 OJ=>?_⟩
 have sR:=af OJ (.lst (bs.map (fun b=>V.str (RM bG (jh b)))++ins.map (fun x=>V.str (RM bG (vW x)))))
 have gR:(upd Hu R0 (.lst (bs.map (fun b=>V.str (RM bG (jh b)))++ins.map (fun x=>V.str (RM bG (vW x)))))) R0=some (.lst (bs.map (fun b=>V.str (RM bG (jh b)))++ins.map (fun x=>V.str (RM bG (vW x))))):=ae
 generalize upd Hu R0 (.lst (bs.map (fun b=>V.str (RM bG (jh b)))++ins.map (fun x=>V.str (RM bG (vW x)))))=H7 at sR gR ⊢
 have s7:=aa (aa sv su) sR
 have gB:=s7 _ _ gB
 have gI:=s7 _ _ gI
 have gN:=s7 _ _ gN
 have pb:Paired (fm H7) vb bs:=Paired.cZ pb fun y y z=>Tp.keep (ai.tk s7) z
 have pu:Paired (fun v e=>dQ H7 v e/\v≠.ref N) us es:=Paired.cZ pu fun y y z=>⟨dQ.same s7 z.1,z.2⟩
 have sB:=aa sB s7
 show ak (kR _ _ ?_)
 show aw [some (.ref a),some (.int c),some (.ref nl),some (.ref B),some (.ref lf),some (.ref I),o6,some (.ref cl),some (.ref N),some (.ref R0)] U ?_
 show⟨_,U,_,U,_,U,N,U,⟨_,aH.of gN⟩,fun E3 Mp=>?_⟩
 show bD (xs:=us) (fun i Hv=>ai H7 Hv/\∃vn,Hv E3=some (.lst vn)/\vn.length=i/\Paired (b8 Hv) vn (es.take i)) ⟨af Mp _,[],ae,U,.nil⟩ (fun i Hv y z=>aH.of (z.1 _ _ gN)) (fun i x0 Hv hx z=>?_) (fun Hv z=>?_)
 . obtain⟨sv,vn,gE,vl,pn⟩:=z
   have eE:=(cy hx)
   obtain⟨e,Fe,⟨L8,nv,rfl,gL,nd⟩,_⟩:=Paired.get pu hx
   show⟨L8,_,U,aH.of (sv _ _ gL),U,_,_,U,_,_,U,U,?_⟩
   show de (A:=fun H5=>dJ _ E3 _ H5 _) ?_
   show⟨_,U,_,gE,aW (by lia),bq (Pv:=fun i Hv=>ai H7 Hv/\∃vn,Hv E3=some (.lst vn)/\vn.length=i/\Paired (b8 Hv) vn (es.take i)) (by repeat' constructor) eE ⟨bo sv Mp,vn++[nv],ae,by rw[Rx,vl];rfl,?_⟩⟩
   rw[R9,Fe]
   show Paired.snoc (Paired.cZ pn fun y y z=>b8.keep (TW.TK.lst gE) z) ((nd.keep (ai.tk sv)).keep (TW.TK.lst gE))
 obtain⟨sv,vn,Oi,vl,pn⟩:=z
 rw[el,Sf]at pn
 show⟨YL,fun p hp=>?_⟩
 obtain⟨H8,sp,gp,zz⟩:=aZ hp (.tup [.ref B,.ref I,.ref E3])
 rw[zz];clear zz
 show⟨_,U,_,U,N,U,⟨_,aH.of (sp _ _ (sv _ _ gN))⟩,fun E4 Mq=>?_⟩
 show bD (xs:=us) (fun i Hu=>ai H8 Hu/\Hu E4=some (.lst ((es.take i).map fun e=>V.str (RM bG e.ws)))) ⟨af Mq _,ae⟩ (fun i Hu y z=>aH.of (z.1 _ _ (sp _ _ (sv _ _ gN)))) (fun i x0 Hu hx z=>?_) (fun Hu z=>?_)
 . obtain⟨su,gE⟩:=z
   have eE:=(cy hx)
   obtain⟨e,Fe,⟨L8,nv,rfl,gL,nd⟩,_⟩:=Paired.get pu hx
   show⟨L8,_,U,aH.of (su _ _ (sp _ _ (sv _ _ gL))),U,_,_,U,_,_,U,U,?_⟩
   show de (A:=fun H5=>dJ _ E4 _ H5 _) ?_
   show⟨_,U,_,gE,aW (by rw[Rn,R8];lia),bq (Pv:=fun i Hu=>ai H8 Hu/\Hu E4=some (.lst ((es.take i).map fun e=>V.str (RM bG e.ws)))) (by repeat' constructor) eE ⟨bo su Mq,?_⟩⟩
   rw[ae,R9,Fe,RW]
   rfl
 obtain⟨su,Mb⟩:=z
 rw[el,Sf]at Mb
 show⟨R0,E4,_,_,U,U,su _ _ (sp _ _ (sv _ _ gR)),Mb,small (by rw[Rx,Rn,Rn,Rn];lia),fun R hR=>⟨YK,fun L8 hL=>?_⟩⟩
 have tR:=af hR (.lst (bs.map (fun b=>V.str (RM bG (jh b)))++ins.map (fun x=>V.str (RM bG (vW x)))++es.map (fun e=>V.str (RM bG e.ws))))
 have tL:=af hL (.lst [.ref p,.ref R])
 have t9:=aa tR tL
 have t8:=aa (aa sp su) t9
 have t7:=aa sv t8
 show q L8 p R B I E3 vb vn bs ins es _ (aa sB t7) ae (t9 _ _ (su _ _ gp)) ⟨t7 _ _ gB,t7 _ _ gI,t8 _ _ Oi,Paired.cZ pb fun y y z=>Tp.keep (ai.tk t7) z,Paired.cZ pn fun y y z=>b8.keep (ai.tk t8) z⟩ ⟨⟨fun b hb=>⟨(wb b hb).1,by have:=(wb b hb).2.1;lia,ub (by have:=(wb b hb).2.2;lia)⟩,i8,fun e he=>(wu e he).w,L0,zm,by lia⟩,⟨by rw[en];show MR,fun b hb=>(wb b hb).2,L0⟩,(List.nodup_append.mp (pm.nodup_iff.mpr MR)).1,fun x hx=>by rw[en];show pm.mem_iff.mp (S0 _ hx),by lia,fun e he=>⟨fun n hn=>by have:=(wu e he).ld n hn;lia,fun t ht=>⟨TW.E.okN.ij en ((wu e he).kn t ht).1,((wu e he).kn t ht).2⟩⟩⟩ (by lia) ?_
 have Om:=tL _ _ (ae (H:=Hu) (a:=R) (o:=.lst (bs.map (fun b=>V.str (RM bG (jh b)))++ins.map (fun x=>V.str (RM bG (vW x)))++es.map (fun e=>V.str (RM bG e.ws)))))
 show Om.trans ?_
 unfold textOf
 rw[RW,RW,Te,Te,Te]
 rfl
abbrev BE:Stmt:=top 58
def iu:aC ["text","found","e"] ["text"] (ao BE):=eU
abbrev flags (k:Nat):List Bool:=(TH 12).map (·==k)
def yf:Sp:=fun vs H Q z=>∃(tx:Str) (pre:List Rw) (tl:List Str) (k:Nat),vs=[.str tx]/\S7 tx "\n"=pre.map (fun r=>du r.hd r.jC)++tl/\tx.length+2<=sizeLine/\pre.length<=408/\tl.length<=500/\(∀r∈pre,iC r.hd r.jC)/\(pre.Pairwise fun a b=>a.rank<=b.rank) /\
 ((k=4/\tl=[]/\yD (lI pre) (inR pre) (lP pre)/\¬ dX (lI pre) (inR pre) (lP pre))\/(k=3/\∃x post,tl=x::post/\x∈dY))/\∀(l:Addr) (H':Hp),ai H H'->H' l=some (.lst ((flags k).map V.bl))->Q (.ref l) H'
def zR {T aV aI aL aM aj aE aU aD aT aK aJ:Addr}{f:Addr}{fd:RZ}(F:cD K "_law_refused" "_law_refused" BE f fd)(R:LU K mg T aV aI aL aM aj aE aU aD aT aK aJ)(m_isinstance:mg "isinstance"=none)(m_ValueError:mg "ValueError"=none)(RP:bQ P w K mg base "read_program" ["text"] 26 (lj aM aj)):aY P w K mg base dq 27 f fd ["text"] yf:=by
 show F.iU iu fun cdv A outer s H vs Q E hr h=>?_
 obtain⟨tx,pre,tl,k,rfl,hsp,Ji,rl,Ls,rg,rm,cs,q⟩:=h
 show ig ⟨_,(Wv (Wy 1 iu.nd (WD M))
   (Wv (L3.Lv 2 iu.nd R.t U (fun W pn Ex hp=>(Ww (W0 (Xd hp RP hr U (L (Y 0) M))))) (fun ea=>(Wv (Wy 1 iu.nd (WD (L (WJ W9 U m_isinstance (by right) (L (Y 2) (L (WU (w:=.ref aV) U R.x_NoPair.m rfl) M))) (L (WJ W9 U m_isinstance (by right) (L (Y 2) (L (WU (w:=.ref aI) U R.x_NoPaper.m rfl) M))) (L (WJ W9 U m_isinstance (by right) (L (Y 2) (L (WU (w:=.ref aL) U R.x_TooMany.m rfl) M))) (L (WJ W9 U m_isinstance (by right) (L (Y 2) (L (WU (w:=.ref aM) U R.x_NoRow.m rfl) M))) M))))))
   (Wv (Wy 1 iu.nd (Wt W7 (Y 1) (WD (L (WJ W9 U m_isinstance (by right) (L (Y 2) (L (WU (w:=.ref aj) U R.x_NoProgram.m rfl) M))) (L (WJ W9 U m_isinstance (by right) (L (Y 2) (L (WU (w:=.ref aE) U R.x_NoWorths.m rfl) M))) (L (WJ W9 U m_isinstance (by right) (L (Y 2) (L (WU (w:=.ref aU) U R.x_NoNode.m rfl) M))) M))))))
   (Wv (Wy 1 iu.nd (Wt W7 (Y 1) (WD (L (WJ W9 U m_isinstance (by right) (L (Y 2) (L (WU (w:=.ref aD) U R.x_NoChange.m rfl) M))) (L (WJ W9 U m_isinstance (by right) (L (Y 2) (L (WU (w:=.ref aT) U R.x_NoForm.m rfl) M))) (L (WJ W9 U m_isinstance (by right) (L (Y 2) (L (WU (w:=.ref aK) U R.x_NoneYet.m rfl) M))) M))))))
   (Ww (Wy 1 iu.nd (Wt W7 (Y 1) (WD (L (WJ W9 U m_isinstance (by right) (L (Y 2) (L (WU (w:=.ref aJ) U R.x_NoPicks.m rfl) M))) (L (L3.Qh (WJ W9 U m_isinstance (by right) (L (Y 2) (L (L3.JI (w:=.ty "ValueError") U m_ValueError (by right) rfl) M)))) M)))))))))))
   (Ww (WC (Y 1))))),?_⟩
 show aq fun NJ Jl=>?_
 show⟨YI,fun Q7 KC=>?_⟩
 obtain⟨H1,s1,g1,zz⟩:=aZ KC (.lst [])
 rw[zz];clear zz
 show ak ?_
 show Jl _ _ ?_
 show aq fun NJ Jl=>?_
 show⟨_,U,?_⟩
 rcases cs with⟨rfl,e1,an,nG⟩|⟨rfl,x,post,e1,Jk⟩
 . show⟨tx,pre,tl,U,hsp,Ji,rl,Ls,rg,rm,.inl ⟨e1,an,nG,fun H3 s3=>?_⟩⟩
   show⟨_,_,_,U,R.x_NoProgram,(by simp),fun ea Gh=>?_⟩
   obtain⟨h0,Co⟩ : ∃h0,h0=upd H3 ea (yw ea aj):=⟨_,rfl⟩
   have H0:h0 ea=some (yw ea aj):=by rw[Co];show ae
   have Li:ai H3 h0:=by rw[Co];show af Gh _
   rw[← Co]
   show aw [none,none,some (.ref ea)] U ?_
   show aq fun Rk kR=>?_
   show⟨_,U,ea,aj,false,H0,R.k_NoProgram,.inl ⟨_,U,R.i_NoProgram_NoPair⟩,_,U,ea,aj,false,H0,R.k_NoProgram,.inl ⟨_,U,R.i_NoProgram_NoPaper⟩,_,U,ea,aj,false,H0,R.k_NoProgram,.inl ⟨_,U,R.i_NoProgram_TooMany⟩,_,U,ea,aj,false,H0,R.k_NoProgram,.inl ⟨_,U,R.i_NoProgram_NoRow⟩,YM,fun l0 CF=>?_⟩
   obtain⟨Ou,sA0,J2,zz⟩:=aZ CF (.lst [.bl false,.bl false,.bl false,.bl false])
   rw[zz];clear zz
   have yG:=sA0 _ _ H0
   show ak (kR _ _ ?_)
   show aw [none,some (.ref l0),some (.ref ea)] U ?_
   show aq fun Rk kR=>?_
   show⟨_,U,_,U,ea,aj,true,yG,R.k_NoProgram,.inl ⟨_,U,R.i_NoProgram_NoProgram⟩,_,U,ea,aj,false,yG,R.k_NoProgram,.inl ⟨_,U,R.i_NoProgram_NoWorths⟩,_,U,ea,aj,false,yG,R.k_NoProgram,.inl ⟨_,U,R.i_NoProgram_NoNode⟩,YL,fun m1 hm1=>?_⟩
   obtain⟨Oy,sB1,J6,zz⟩:=aZ hm1 (.lst [.bl true,.bl false,.bl false])
   rw[zz];clear zz
   show⟨l0,m1,_,_,U,U,sB1 _ _ J2,J6,YQ,fun l1 iK=>?_⟩
   obtain⟨Ov,Ic,J3,zz⟩:=aZ iK (.lst ([.bl false,.bl false,.bl false,.bl false]++[.bl true,.bl false,.bl false]))
   rw[zz];clear zz
   have yH:=Ic _ _ (sB1 _ _ yG)
   show ak (kR _ _ ?_)
   show aw [none,some (.ref l1),some (.ref ea)] U ?_
   show aq fun Rk kR=>?_
   show⟨_,U,_,U,ea,aj,false,yH,R.k_NoProgram,.inl ⟨_,U,R.i_NoProgram_NoChange⟩,_,U,ea,aj,false,yH,R.k_NoProgram,.inl ⟨_,U,R.i_NoProgram_NoForm⟩,_,U,ea,aj,false,yH,R.k_NoProgram,.inl ⟨_,U,R.i_NoProgram_NoneYet⟩,YL,fun m2 hm2=>?_⟩
   obtain⟨Oz,sB2,J7,zz⟩:=aZ hm2 (.lst [.bl false,.bl false,.bl false])
   rw[zz];clear zz
   show⟨l1,m2,_,_,U,U,sB2 _ _ J3,J7,YS,fun l2 pX=>?_⟩
   obtain⟨Ow,Ie,J4,zz⟩:=aZ pX (.lst (([.bl false,.bl false,.bl false,.bl false]++[.bl true,.bl false,.bl false])++[.bl false,.bl false,.bl false]))
   rw[zz];clear zz
   have B5:=Ie _ _ (sB2 _ _ yH)
   show ak (kR _ _ ?_)
   show aw [none,some (.ref l2),some (.ref ea)] U ?_
   show⟨_,U,_,U,ea,aj,false,B5,R.k_NoProgram,.inl ⟨_,U,R.i_NoProgram_NoPicks⟩,_,U,ea,aj,true,B5,R.k_NoProgram,.inr (.inl ⟨_,U,R.v_NoProgram⟩),true,U,YK,fun m3 KH=>?_⟩
   obtain⟨OA,sB3,J8,zz⟩:=aZ KH (.lst [.bl false,.bl (!true)])
   rw[zz];clear zz
   show⟨l2,m3,_,_,U,U,sB3 _ _ J4,J8,YT,fun l3 zi=>?_⟩
   obtain⟨Ox,Ig,J5,zz⟩:=aZ zi (.lst ((([.bl false,.bl false,.bl false,.bl false]++[.bl true,.bl false,.bl false])++[.bl false,.bl false,.bl false])++[.bl false,.bl (!true)]))
   rw[zz];clear zz
   have NB:=Ig _ _ (sB3 _ _ B5)
   show ak ?_
   show Jl _ _ ?_
   show⟨_,U,q l3 _ (aa s1 (aa s3 (aa Li (aa (aa (aa (sA0) (aa sB1 Ic)) (aa sB2 Ie)) (aa sB3 Ig))))) J5⟩
 . show⟨tx,pre,tl,U,hsp,Ji,rl,Ls,rg,rm,.inr ⟨x,post,e1,Jk,fun H3 s3=>?_⟩⟩
   show⟨_,_,_,U,R.x_NoRow,(by simp),fun ea Gh=>?_⟩
   obtain⟨h0,Co⟩ : ∃h0,h0=upd H3 ea (yw ea aM):=⟨_,rfl⟩
   have H0:h0 ea=some (yw ea aM):=by rw[Co];show ae
   have Li:ai H3 h0:=by rw[Co];show af Gh _
   rw[← Co]
   show aw [none,none,some (.ref ea)] U ?_
   show aq fun Rk kR=>?_
   show⟨_,U,ea,aM,false,H0,R.k_NoRow,.inl ⟨_,U,R.i_NoRow_NoPair⟩,_,U,ea,aM,false,H0,R.k_NoRow,.inl ⟨_,U,R.i_NoRow_NoPaper⟩,_,U,ea,aM,false,H0,R.k_NoRow,.inl ⟨_,U,R.i_NoRow_TooMany⟩,_,U,ea,aM,true,H0,R.k_NoRow,.inl ⟨_,U,R.i_NoRow_NoRow⟩,YM,fun l0 CF=>?_⟩
   obtain⟨Ou,sA0,J2,zz⟩:=aZ CF (.lst [.bl false,.bl false,.bl false,.bl true])
   rw[zz];clear zz
   have yG:=sA0 _ _ H0
   show ak (kR _ _ ?_)
   show aw [none,some (.ref l0),some (.ref ea)] U ?_
   show aq fun Rk kR=>?_
   show⟨_,U,_,U,ea,aM,false,yG,R.k_NoRow,.inl ⟨_,U,R.i_NoRow_NoProgram⟩,_,U,ea,aM,false,yG,R.k_NoRow,.inl ⟨_,U,R.i_NoRow_NoWorths⟩,_,U,ea,aM,false,yG,R.k_NoRow,.inl ⟨_,U,R.i_NoRow_NoNode⟩,YL,fun m1 hm1=>?_⟩
   obtain⟨Oy,sB1,J6,zz⟩:=aZ hm1 (.lst [.bl false,.bl false,.bl false])
   rw[zz];clear zz
   show⟨l0,m1,_,_,U,U,sB1 _ _ J2,J6,YQ,fun l1 iK=>?_⟩
   obtain⟨Ov,Ic,J3,zz⟩:=aZ iK (.lst ([.bl false,.bl false,.bl false,.bl true]++[.bl false,.bl false,.bl false]))
   rw[zz];clear zz
   have yH:=Ic _ _ (sB1 _ _ yG)
   show ak (kR _ _ ?_)
   show aw [none,some (.ref l1),some (.ref ea)] U ?_
   show aq fun Rk kR=>?_
   show⟨_,U,_,U,ea,aM,false,yH,R.k_NoRow,.inl ⟨_,U,R.i_NoRow_NoChange⟩,_,U,ea,aM,false,yH,R.k_NoRow,.inl ⟨_,U,R.i_NoRow_NoForm⟩,_,U,ea,aM,false,yH,R.k_NoRow,.inl ⟨_,U,R.i_NoRow_NoneYet⟩,YL,fun m2 hm2=>?_⟩
   obtain⟨Oz,sB2,J7,zz⟩:=aZ hm2 (.lst [.bl false,.bl false,.bl false])
   rw[zz];clear zz
   show⟨l1,m2,_,_,U,U,sB2 _ _ J3,J7,YS,fun l2 pX=>?_⟩
   obtain⟨Ow,Ie,J4,zz⟩:=aZ pX (.lst (([.bl false,.bl false,.bl false,.bl true]++[.bl false,.bl false,.bl false])++[.bl false,.bl false,.bl false]))
   rw[zz];clear zz
   have B5:=Ie _ _ (sB2 _ _ yH)
   show ak (kR _ _ ?_)
   show aw [none,some (.ref l2),some (.ref ea)] U ?_
   show⟨_,U,_,U,ea,aM,false,B5,R.k_NoRow,.inl ⟨_,U,R.i_NoRow_NoPicks⟩,_,U,ea,aM,true,B5,R.k_NoRow,.inr (.inl ⟨_,U,R.v_NoRow⟩),true,U,YK,fun m3 KH=>?_⟩
   obtain⟨OA,sB3,J8,zz⟩:=aZ KH (.lst [.bl false,.bl (!true)])
   rw[zz];clear zz
   show⟨l2,m3,_,_,U,U,sB3 _ _ J4,J8,YT,fun l3 zi=>?_⟩
   obtain⟨Ox,Ig,J5,zz⟩:=aZ zi (.lst ((([.bl false,.bl false,.bl false,.bl true]++[.bl false,.bl false,.bl false])++[.bl false,.bl false,.bl false])++[.bl false,.bl (!true)]))
   rw[zz];clear zz
   have NB:=Ig _ _ (sB3 _ _ B5)
   show ak ?_
   show Jl _ _ ?_
   show⟨_,U,q l3 _ (aa s1 (aa s3 (aa Li (aa (aa (aa (sA0) (aa sB1 Ic)) (aa sB2 Ie)) (aa sB3 Ig))))) J5⟩
structure cE (bs:aB)(ins:List Str)(nds:List Np):Prop where
 b:∀x∈bs,df x.1/\0<=x.2/\x.2<10^30
 i:∀x∈ins,df x
 n:∀x∈nds,x.wr
 td:∀nd∈nds,∀e∈nd.fw,e.okIn fe/\e.dep<20
 lb:bs.length<=6
 li:ins.length<=6
 ln:nds.length<=42
inductive fA (bs:aB) (ins:List Str) (nds:List Np):Int->Str->Prop
 | box (b:Str×Int):(df b.1/\0<=b.2/\b.2<10^30)->(b.2<1\/b.1∈bs.map (·.1))->fA bs ins nds 0 (RM bG (jh b))
 | inp (x:Str):df x->(x∉bs.map (·.1)\/x∈ins)->fA bs ins nds 1 (RM bG (vW x))
 | nd (e:Np):e.wr->(∀t∈e.fw,t.okIn fe/\t.dep<20)->(∀m:Nat,m<=nds.length+1->¬ lV bs m e)->fA bs ins nds 2 (RM bG e.ws)
def mid {α:Type}(l:List α)(k:Nat)(x:α):List α:=l.take k++[x]++l.drop k
def jN {α:Type}{l:List α}{k:Nat}{x y:α}(h:y∈mid l k x):y=x\/y∈l:=by
 rcases ez h with z|z
 . rcases ez z with z|z
   . show .inr (List.mem_of_mem_take z)
   . show .inl (di z)
 . show .inr (List.mem_of_mem_drop z)
def kL {α:Type}(l:List α)(k:Nat)(x:α):x∈mid l k x:=S0 _ (Si _ Ru)
def jL {α:Type}(l:List α)(k:Nat)(x:α):(mid l k x).length=l.length+1:=by
 unfold mid
 rw[Rx,Rx,R8,Tn]
 change _+1+_=_
 lia
def jM {α β:Type}(f:α->β)(l:List α)(k:Nat)(x:α):(mid l k x).map f=mid (l.map f) k (f x):=by
 unfold mid
 rw[RW,RW,Vi,V6]
 rfl
def mq {α:Type}{l:List α}{k:Nat}{x:α}(h:(mid l k x).Nodup):x∉l:=fun hx=>by
 unfold mid at h
 obtain⟨h1,_,h3⟩:=List.nodup_append.mp h
 obtain⟨_,_,h4⟩:=List.nodup_append.mp h1
 rw[← List.take_append_drop k l]at hx
 rcases ez hx with z|z
 . show h4 x z x (List.mem_singleton.mpr rfl) rfl
 . show h3 x (Si _ (List.mem_singleton.mpr rfl)) x z rfl
section
variable{bs:aB}{ins:List Str}{nds:List Np}
def AW.yY (h:AW bs ins nds)(n40:nds.length<=40):cE bs ins nds:=⟨h.wr.b,h.wr.i,h.wr.n,fun nd hn e he=>⟨wR ((h.good nd hn).kn e he).1,by have:=((h.good nd hn).kn e he).2;lia⟩,by have:=h.wr.lb;lia,by have:=h.wr.li;lia,by lia⟩
def cE.row (h:cE bs ins nds):∀r∈rowsOf bs ins nds,iC r.hd r.jC:=fun r hr=>by
 rcases ez hr with hr|hr
 . rcases ez hr with hr|hr
   . obtain⟨b,hb,rfl⟩:=fc hr
     show E7.row (bs:=[b]) (ins:=[]) (nds:=[]) ⟨all1 (h.b b hb),(fun y z=>nomatch z),(fun y z=>nomatch z),(show 1<=4 by left),(by left),(by left)⟩ _ Ru
   . obtain⟨b,hb,rfl⟩:=fc hr
     show E7.row (bs:=[]) (ins:=[b]) (nds:=[]) ⟨(fun y z=>nomatch z),all1 (h.i b hb),(fun y z=>nomatch z),(by left),(show 1<=4 by left),(by left)⟩ _ Ru
 . obtain⟨b,hb,rfl⟩:=fc hr
   show E7.row (bs:=[]) (ins:=[]) (nds:=[b]) ⟨(fun y z=>nomatch z),(fun y z=>nomatch z),all1 (h.n b hb),(by left),(by left),(show 1<=400 by left)⟩ _ Ru
def Np.wr.ld:∀{e:Np},e.wr->∀l∈e.gJ,0<=l/\l<10^30
 | .put _ _ _,h,l,hl=>by rw[di hl];show h.2.2
 | .say _ _,h,l,hl=>by rw[di hl];show h.2
 | .test _ _ _,h,l,hl=>by
   rcases cv hl with e|hl
   . rw[e];show h.2.1
   . rw[di hl];show h.2.2
 | .pick _ _,h,l,hl=>by rw[di hl];show h.2
 | .fin,_,_,hl=>nomatch hl
def cE.ask (h:cE bs ins nds):yD bs ins nds:=⟨fun b hb=>Ry (h.b b hb).1.l8 (by left),fun x hx=>Ry (h.i x hx).l8 (by left),fun nd hn l hl=>RJ (kM ((h.n nd hn).ld l hl)) (U6 (by left) (by left)),h.td⟩
def cE.len (h:cE bs ins nds):(rowsOf bs ins nds).length<=54:=by
 have:=h.lb
 have:=h.li
 have:=h.ln
 unfold rowsOf
 rw[Rx,Rx,Rn,Rn,Rn]
 lia
def cE.none (h:cE bs ins nds):cE bs ins []/\¬ dX bs ins []:=⟨⟨h.b,h.i,(fun y z=>nomatch z),(fun y z=>nomatch z),h.lb,h.li,(by left)⟩,fun p=>au p.2.2.1 (by left)⟩
def yL (h:AW bs ins nds)(n40:nds.length<=40)(k:Nat){b:Str×Int}(hb:df b.1/\0<=b.2/\b.2<10^30)(no:b.2<1\/b.1∈bs.map (·.1)):cE (mid bs k b) ins nds/\¬ dX (mid bs k b) ins nds:=by
 have f:=h.yY n40
 show⟨⟨fun x hx=>?_,f.i,f.n,f.td,by have:=h.wr.lb;rw[jL];lia,f.li,f.ln⟩,fun p=>?_⟩
 . rcases jN hx with rfl|hx
   . show hb
   . show f.b x hx
 . rcases no with no|no
   . have:=p.1.1 b (kL _ _ _)
     lia
   . have nd:=p.1.2
     rw[jM]at nd
     show mq nd no
def vd (h:AW bs ins nds)(n40:nds.length<=40)(k:Nat){b:Str×Int}(hk:bs[k]?=some b):cE (bs.set k (b.1,0)) ins nds/\¬ dX (bs.set k (b.1,0)) ins nds:=by
 have f:=h.yY n40
 have kl:=(cy hk)
 show⟨⟨fun x hx=>?_,f.i,f.n,f.td,by rw[Ui];show f.lb,f.li,f.ln⟩,fun p=>?_⟩
 . rcases List.mem_or_eq_of_mem_set hx with hx|rfl
   . show f.b x hx
   . show⟨(f.b b (RL hk)).1,Int.le_refl 0,show(0:Int)<10^30 by left⟩
 . have:=p.1.1 (b.1,0) (RL (i:=k) (by rw[S5 kl]))
   show au (show(1:Int)<=0 from this) (by left)
def yM (h:AW bs ins nds)(n40:nds.length<=40)(k:Nat){x:Str}(hx:df x)(no:x∉bs.map (·.1)\/x∈ins):cE bs (mid ins k x) nds/\¬ dX bs (mid ins k x) nds:=by
 have f:=h.yY n40
 show⟨⟨f.b,fun y hy=>?_,f.n,f.td,f.lb,by have:=h.wr.li;rw[jL];lia,f.ln⟩,fun p=>?_⟩
 . rcases jN hy with rfl|hy
   . show hx
   . show f.i y hy
 . rcases no with no|no
   . show no (p.2.1.1 x (kL _ _ _))
   . show mq p.2.1.2 no
def Cf (h:AW bs ins nds)(n40:nds.length<=40)(k:Nat){ns:List Np}(sub:∀e∈ns,e∈nds)(hl:ns.length<=nds.length){e:Np}(w:e.wr)(td:∀t∈e.fw,t.okIn fe/\t.dep<20)(no:∀m:Nat,m<=nds.length+1->¬ lV bs m e):cE bs ins (mid ns k e)/\¬ dX bs ins (mid ns k e):=by
 have f:=h.yY n40
 show⟨⟨f.b,f.i,fun y hy=>?_,fun y hy=>?_,f.lb,f.li,by rw[jL];lia⟩,fun p=>?_⟩
 . rcases jN hy with rfl|hy
   . show w
   . show f.n y (sub y hy)
 . rcases jN hy with rfl|hy
   . show td
   . show f.td y (sub y hy)
 . show no _ (by rw[jL];lia) (p.2.2.2 e (kL _ _ _))
end
abbrev iH:List Str:=["q","nobox","zz","keyword","strange"]
def dD:∀x∈iH,df x:=fun x hx=>by
 have h1:∀x∈iH,1<=x.length/\x.length<=8/\∀c∈x.cps.toList,97<=c/\c<123:=by right
 show⟨(h1 x hx).1,(h1 x hx).2.1,(h1 x hx).2.2⟩
abbrev gO:List Str:=["put @ 1 0","pick @ 0","say @ 0","say ((1+2)-(3+@)) 0","test @=1 0 0","test {yes&!1<(2+@)} 0 0","say (@-@) 0","test !!1=@ 0 0"]
abbrev bx (x:Str):E:=.box "box" x
abbrev zy (x:Str):List Np:=[.put x (.num 1) 0,.pick x 0,.say (bx x) 0,.say (.two .less (.two .plus (.num 1) (.num 2)) (.two .plus (.num 3) (bx x))) 0,.test (.two .same (bx x) (.num 1)) 0 0,.test (.two .both .yes (.nt (.two .under (.num 1) (.two .plus (.num 2) (bx x))))) 0 0,.say (.two .less (bx x) (bx x)) 0,.test (.nt (.nt (.two .same (.num 1) (bx x)))) 0 0]
def HY:∀x∈iH,gO.map (fun r=>Vb r "@" x)=(zy x).map fun e=>RM bG e.ws:=by right
def uF:∀r∈gO,r.length<=30:=by right
def yZ:∀x∈iH,(("@":Str)==x)=false:=by right
theorem jR {P:Str->Prop}:∀{e:E},e.okN P->e.okIn fe
 | .num _,h=>kM h|.box t x,h=>h.1|.yes,_=>RO|.nt a,h=>jR (e:=a) h|.two _ a b,h=>⟨jR (e:=a) h.1,jR (e:=b) h.2⟩
def qg {n:Int}(h0:0<=n:=by left)(h:n<100:=by left):0<=n/\n<10^30:=⟨h0,Int.lt_trans h (by left)⟩
def rH {x:Str}(hx:df x):∀e∈zy x,e.wr/\∀t∈e.fw,t.okIn fe/\t.dep<20:=by
 have b:(bx x).okN df:=⟨rfl,hx⟩
 have s0:pw 30 (.num 1):=⟨RO,qg,by left,by left⟩
 have s1:pw 30 (bx x):=⟨RO,b,by change 8<=4000;decide,by change 0<30;decide⟩
 have s2:pw 30 (.two .less (.two .plus (.num 1) (.num 2)) (.two .plus (.num 3) (bx x))):=⟨⟨⟨RO,RO⟩,RO,RO⟩,⟨⟨qg,qg⟩,qg,b⟩,by change 31+31+3+(31+8+3)+3<=4000;decide,by change 2<30;decide⟩
 have c1:pL 30 (.two .same (bx x) (.num 1)):=⟨⟨RO,RO⟩,⟨b,qg⟩,by change 8+31+3<=4000;decide,by change 1<30;decide⟩
 have c2:pL 30 (.two .both .yes (.nt (.two .under (.num 1) (.two .plus (.num 2) (bx x))))):=⟨⟨RO,⟨RO,RO,RO⟩⟩,⟨RO,qg,qg,b⟩,by change 3+(31+(31+8+3)+3+1)+3<=4000;decide,by change 4<30;decide⟩
 have s3:pw 30 (.two .less (bx x) (bx x)):=⟨⟨RO,RO⟩,⟨b,b⟩,by change 8+8+3<=4000;decide,by change 1<30;decide⟩
 have c3:pL 30 (.nt (.nt (.two .same (.num 1) (bx x)))):=⟨⟨RO,RO⟩,⟨qg,b⟩,by change 31+8+3+1+1<=4000;decide,by change 3<30;decide⟩
 have t:∀{e:E},e.okN df->∀n,n<20->e.dep=n->e.okIn fe/\e.dep<20:=fun h n hn z=>⟨jR h,by rw[z];show hn⟩
 have d0:=qg (n:=0)
 intro e he
 simp only[Sh,R4,or_false]at he
 rcases he with rfl|rfl|rfl|rfl|rfl|rfl|rfl|rfl
 . show⟨⟨hx,s0,d0⟩,all2 (t b 0 (by left) rfl) (t s0.ok 0 (by left) rfl)⟩
 . show⟨⟨hx,d0⟩,all1 (t b 0 (by left) rfl)⟩
 . show⟨⟨s1,d0⟩,all1 (t s1.ok 0 (by left) rfl)⟩
 . show⟨⟨s2,d0⟩,all1 (t s2.ok 2 (by left) rfl)⟩
 . show⟨⟨c1,d0,d0⟩,all1 (t c1.ok 1 (by left) rfl)⟩
 . show⟨⟨c2,d0,d0⟩,all1 (t c2.ok 4 (by left) rfl)⟩
 . show⟨⟨s3,d0⟩,all1 (t s3.ok 1 (by left) rfl)⟩
 . show⟨⟨c3,d0,d0⟩,all1 (t c3.ok 3 (by left) rfl)⟩
def zA {bs:aB}{x:Str}(h:x∉bs.map (·.1)){m:Nat}:∀e∈zy x,¬ lV bs m e:=by
 have b:Ck bs "box" x=false:=gv fun z=>h z.2
 intro e he p
 simp only[Sh,R4,or_false]at he
 rcases he with rfl|rfl|rfl|rfl|rfl|rfl|rfl|rfl
 all_goals
   have q:=p.2 _ Ru
   simp[E.bf,b]at q
def ER {bs:aB}{ins:List Str}{nds:List Np}{x:Str}(hx:x∈iH)(h:x∉bs.map (·.1)){k:Nat}{r:Str}(hr:gO[k]?=some r):fA bs ins nds 2 (Vb r "@" x):=by
 have e:=congrArg (fun l:List Str=>l[k]?) (HY x hx)
 have e:(gO.map (fun r=>Vb r "@" x))[k]?=((zy x).map fun e=>RM bG e.ws)[k]?:=e
 rw[Sb,hr,Sb]at e
 obtain⟨nd,hn,en⟩:=Option.map_eq_some_iff.mp e.symm
 have en:RM bG nd.ws=Vb r "@" x:=en
 rw[← en]
 have hm:=RL hn
 show .nd nd (rH (dD x hx) nd hm).1 (rH (dD x hx) nd hm).2 fun m z=>zA h nd hm
def kA {bs:aB}{nds:List Np}{f:Int}(hf:(nds.length:Int)+1<=f){e:Np}(h:f∈e.gJ):∀m:Nat,m<=nds.length+1->¬ lV bs m e:=fun m hm p=>by
 have:=p.1 f h
 lia
abbrev Cr (b:Str)(f:Int):List Np:=[.say (.num 1) f,.test .yes 0 f,.test .yes f 0,.put b (.num 1) f,.pick b f]
def Cs {bs:aB}{ins:List Str}{nds:List Np}{b:Str}{f:Int}(hb:df b)(h0:(nds.length:Int)+1<=f)(h1:f<10^30):∀e∈Cr b f,fA bs ins nds 2 (RM bG e.ws):=by
 have s0:pw 30 (.num 1):=⟨RO,qg,by left,by left⟩
 have c0:pL 30 .yes:=⟨RO,RO,by left,by left⟩
 have hf:0<=f/\f<10^30:=⟨by lia,h1⟩
 have d0:=qg (n:=0)
 have tn:(E.num 1).okIn fe/\(E.num 1).dep<20:=⟨kM qg,by left⟩
 have ty:E.yes.okIn fe/\E.yes.dep<20:=⟨RO,by left⟩
 have tb:(bx b).okIn fe/\(bx b).dep<20:=⟨rfl,by change 0<20;decide⟩
 intro e he
 simp only[Sh,R4,or_false]at he
 rcases he with rfl|rfl|rfl|rfl|rfl
 . show .nd _ ⟨s0,hf⟩ (all1 tn) (kA h0 Ru)
 . show .nd _ ⟨c0,d0,hf⟩ (all1 ty) (kA h0 (RC _ Ru))
 . show .nd _ ⟨c0,hf,d0⟩ (all1 ty) (kA h0 Ru)
 . show .nd _ ⟨hb,s0,hf⟩ (all2 tb tn) (kA h0 Ru)
 . show .nd _ ⟨hb,hf⟩ (all1 tb) (kA h0 Ru)
def MK (a b c:Str):RM bG [a,b,c]=a++bG++(b++bG++c):=by
 change Sr bG [a,b,c]=_
 rw[StrLaws.glued_eq_join]
 rfl
def KY (a b c d:Str):RM bG [a,b,c,d]=a++bG++(b++bG++(c++bG++d)):=by
 change Sr bG [a,b,c,d]=_
 rw[StrLaws.glued_eq_join]
 rfl
def t1:E.txt (.num 1)="1":=by right
def i0:Rt (toString (0:Int))=("0":Str):=by right
def vD (b:Str)(f:Int):(Cr b f).map (fun e=>RM bG e.ws)=["say 1 "++Rt (toString f),"test yes 0 "++Rt (toString f),"test yes "++Rt (toString f)++" 0","put "++b++" 1 "++Rt (toString f),"pick "++b++" "++Rt (toString f)]:=by
 change[RM bG ["say",E.txt (.num 1),Rt (toString f)],RM bG ["test","yes",Rt (toString (0:Int)),Rt (toString f)],RM bG ["test","yes",Rt (toString f),Rt (toString (0:Int))],RM bG ["put",b,E.txt (.num 1),Rt (toString f)],RM bG ["pick",b,Rt (toString f)]]=_
 rw[MK,KY,KY,KY,MK,t1,i0,show("say 1 ":Str)="say"++bG++("1"++bG)by right,show("test yes 0 ":Str)="test"++bG++("yes"++bG++("0"++bG))by right,show("test yes ":Str)="test"++bG++("yes"++bG)by right,show(" 0":Str)=bG++"0" by right,show("put ":Str)="put"++bG by right,show(" 1 ":Str)=bG++("1"++bG)by right,show("pick ":Str)="pick"++bG by right]
 simp only[UE]
def FD.same {H H':Hp}{B I N:Addr}{vb vn:List V}{bs:aB}{ins:List Str}{nds:List Np}(h:FD H B I N vb vn bs ins nds)(s:ai H H'):FD H' B I N vb vn bs ins nds:=⟨s _ _ h.hB,s _ _ h.hI,s _ _ h.hN,Paired.cZ h.pb fun y y z=>Tp.keep (ai.tk s) z,Paired.cZ h.pn fun y y z=>b8.keep (ai.tk s) z⟩
abbrev Az:Stmt:=top 59
def eQ:aC ["program","cell","many","boxes","inputs","nodes","kind","number","far","taken","strange","rows"] ["program","cell","many"] (ao Az):=eU
structure Wg (n:Nat)(H:Hp)(B I st:Addr)(vb:List V)(bs:aB)(ins fr:List Str):Prop where
 hB:H B=some (.lst vb)
 pb:Paired (fm H) vb bs
 hI:H I=some (.lst (ins.map V.str))
 tk:Tks n H st fr
def Wg.go {n:Nat}{H H':Hp}{B I st:Addr}{vb:List V}{bs:aB}{ins fr:List Str}(h:Wg n H B I st vb bs ins fr)(s:ai H H'):Wg n H' B I st vb bs ins fr:=
 ⟨s _ _ h.hB,Paired.cZ h.pb fun y y z=>Tp.keep (ai.tk s) z,s _ _ h.hI,let⟨a,b,c,d⟩:=h.tk;⟨a,b,s _ _ c,d⟩⟩
def F0 {ns:List Str}(h:ns.length<=4):0<(iH.filter fun c=>!iN (.str c) (ns.map V.str)).length/\∀x∈iH.filter (fun c=>!iN (.str c) (ns.map V.str)),x∈iH/\x∉ns:=by
 have key:∀x,x∈iH.filter (fun c=>!iN (.str c) (ns.map V.str))↔x∈iH/\x∉ns:=fun x=>by
   rw[List.mem_filter,ni]
   simp
 show⟨Nat.pos_of_ne_zero fun z=>?_,fun x hx=>(key x).mp hx⟩
 have hn:=Vv z
 have hall:∀x∈iH,x∈ns:=fun x hx=>by
   by_cases hf:x∈ns
   . show hf
   . have:=(key x).mpr ⟨hx,hf⟩
     rw[hn]at this
     cases this
 have:=sub_len (show iH.Nodup by right) hall
 have e:iH.length=5:=rfl
 lia
def xJ (x:Str):"box "++x++" 0"=RM bG (jh (x,0))/\"box "++x++" 2"=RM bG (jh (x,2)):=by
 have e:Rt (toString (2:Int))=("2":Str):=by right
 have a0:(" 0":Str)=" "++"0":=by right
 have a2:(" 2":Str)=" "++"2":=by right
 show⟨?_,?_⟩
 . change _=RM bG ["box",x,Rt (toString (0:Int))]
   rw[i0,← mK,a0]
   simp only[UE]
 . change _=RM bG ["box",x,Rt (toString (2:Int))]
   rw[e,← mK,a2]
   simp only[UE]
def cU (a b:Str):(a++b).length=a.length+b.length:=Str.length_append _ _
abbrev BA (b z:Str):List Str:=["say 1 "++z,"test yes 0 "++z,"test yes "++z++" 0","put "++b++" 1 "++z,"pick "++b++" "++z]
def rb {bs:aB}{ins:List Str}{nds:List Np}{b:Str}{f:Int}(hb:df b)(h0:(nds.length:Int)+1<=f)(h1:f<10^30):∀r∈BA b (Rt (toString f)),fA bs ins nds 2 r:=fun r hr=>by
 have hr:r∈(Cr b f).map (fun e=>RM bG e.ws):=by rw[vD];show hr
 obtain⟨e,he,rfl⟩:=fc hr
 show Cs hb h0 h1 e he
def BL:Sp:=fun vs H Q z=>∃(p:Addr) (c:Int) (B I N:Addr) (vb vn:List V) (bs:aB) (ins:List Str) (nds:List Np),vs=[.ref p,.int c,.int ((nds.length:Int)+1)]/\H p=some (.tup [.ref B,.ref I,.ref N])/\FD H B I N vb vn bs ins nds/\AW bs ins nds/\nds.length<=40 /\
 ∀(t:Addr) (w:Int) (row:Str) (H':Hp),ai H H'->H' t=some (.tup [.int w,.str row])->fA bs ins nds w row->Q (.ref t) H'
def Dh {f:Addr}{fd:RZ}(F:cD K "_law_wrong" "_law_wrong" Az f fd)(m_len:mg "len"=none)(m_str:mg "str"=none)(ST:b7 P w K mg base "_law_stir" ["cell","k"] 1 cm):aY P w K mg base dq 2 f fd ["program","cell","many"] BL:=by
 show F.iU eQ fun cdv A outer s H vs Q E hr h=>?_
 obtain⟨p,c,B,I,N,vb,vn,bs,ins,nds,rfl,hp,pt,pg,n40,q⟩:=h
 have NT:=pg.wr.lb
 have Fo:=Paired.length pt.pb
 show ig ⟨_,(Wv (Xj (Y 0) (Xb 3 (WQ (WI 3 eQ.nd) (WQ (WI 4 eQ.nd) (WQ (WI 5 eQ.nd) W2)))))
   (L3.first 6 eQ.nd WG (WA ST hr U (L (Y 1) (L Ws M)))
   (Xg (Wy 7 eQ.nd (WA ST hr U (L (Y 1) (L Ws M))))
   (Xg (Wy 8 eQ.nd (W4 Xp U m_str (by right) (L (Wz WK (WD (L (Y 2) (L (Wt WN (Y 2) Ws) (L (Wt Xm Ws Ws) (L (Wt WN (Y 2) Ws) M))))) (Wt WG (WA ST hr U (L (Y 1) (L Ws M))) Ws)) M)))
   (Xg (Wy 9 eQ.nd (Xk [none,none] ["name","size"] (oa Az) U (WW (Y 3)) (fun y y y y y=>⟨(Xb 2 (WQ (WI 0 (jr ["name","size"])) (WQ (WI 1 (jr ["name","size"])) W2))),WZ,(Y 0)⟩)))
   (L3.pick 10 9 (oa Az) eQ.nd fun N1=>
   (Xg (WB (Wx WL (Y 6) Ws) (Ww (WC (WH (L Ws (L (Wt WS (Wt WS Wu (Wz WK (Y 10) (Wt WG (Y 7) (WJ WO U m_len RG (L (Y 10) M))))) Wu) M))))) WE)
   (Xg (WB (WV (WX (Wx WL (Y 6) Ws) (W6 (Wx (Xf (m:=2) (dm hr _ (by left))) (Y 3) (WD M))))) (Ww (WC (WH (L Ws (L (Wt WS (Wt WS Wu (Wz WM (Wz WK (Y 3) (Wt WG (Y 7) (WJ WO U m_len RG (L (Y 3) M)))) Ws)) Wu) M))))) WE)
   (Xg (WB (WV (WX (Wx WL (Y 6) Ws) (W6 (Wx (Xf (m:=2) (dm hr _ (by left))) (Y 4) (WD M))))) (Ww (WC (WH (L Ws (L (Wt WS Wu (Wz WK (Y 4) (Wt WG (Y 7) (WJ WO U m_len RG (L (Y 4) M))))) M))))) WE)
   (Xg (WB (Wx WL (Y 6) Ws) (Ww (WC (WH (L Ws (L (Wt WS Wu (Wz WK (Y 10) (Wt WG (Y 7) (WJ WO U m_len RG (L (Y 10) M))))) M))))) WE)
   (Xg (WB (Wx WL (Y 6) Ws) (Wv (Wy 11 eQ.nd (WD (L (Wt WS Wu (Y 8)) (L (Wt WS Wu (Y 8)) (L (Wt WS (Wt WS Wu (Y 8)) Wu) M)))))
   (Wv (WB (Wx (Xf (m:=2) (dm hr _ (by left))) (Y 3) (WD M)) (Ww (Wy 11 eQ.nd (Wt W7 (Y 11) (WD (L (Wt WS (Wt WS (Wt WS Wu (Wz WM (Wz WK (Y 3) Ws) Ws)) Wu) (Y 8)) (L (Wt WS (Wt WS (Wt WS Wu (Wz WM (Wz WK (Y 3) Ws) Ws)) Wu) (Y 8)) M)))))) WE)
   (Ww (WC (WH (L Ws (L (Wz WK (Y 11) (Wt WG (Y 7) (WJ WO U m_len RG (L (Y 11) M)))) M))))))) WE)
   (Xg (Wy 11 eQ.nd (WD (L Wu (L Wu (L Wu (L Wu (L Wu (L Wu M))))))))
   (Xg (Wy 11 eQ.nd (Wt W7 (Y 11) (WD (L Wu (L Wu M)))))
   (L3.Av (Wz WK (Y 11) (Wt WG (Y 7) (WJ WO U m_len RG (L (Y 11) M)))) (Y 10) (Wt WG (Wt WT (Y 7) Ws) (WJ WO U m_len RG (L (Y 10) M))))))))))))))))),?_⟩
 show aq fun Rk kR=>?_
 show⟨_,U,?_⟩
 show QF hp ?_
 show kR _ _ ?_
 show aw [some (.ref p),some (.int c),some (.int ((nds.length:Int)+1)),some (.ref B),some (.ref I),some (.ref N),none,none,none,none,none,none] U ?_
 show aq fun Rk kR=>?_
 show⟨_,U,c,910,U,by left,by left,fun k k0 k1=>⟨_,_,U,U,(by change(0:Int)<8;decide),?_⟩⟩
 obtain⟨kd,N8⟩ : ∃kd,kd=k%8:=⟨_,rfl⟩
 show ak (kR _ _ ?_)
 show aw [some (.ref p),some (.int c),some (.int ((nds.length:Int)+1)),some (.ref B),some (.ref I),some (.ref N),some (.int kd),none,none,none,none,none] (by rw[N8];rfl) ?_
 show aq fun Rk kR=>?_
 show⟨_,U,c,912,U,by left,by left,fun nu u0 u1=>?_⟩
 show ak (kR _ _ ?_)
 show aw [some (.ref p),some (.int c),some (.int ((nds.length:Int)+1)),some (.ref B),some (.ref I),some (.ref N),some (.int kd),some (.int nu),none,none,none,none] U ?_
 show aq fun Rk kR=>?_
 show⟨_,U,_,U,_,_,U,U,_,_,U,U,⟨by left,by left,by left⟩,_,U,_,_,U,U,YM,fun l0 CF=>?_⟩
 obtain⟨H1,s0,Kf,zz⟩:=aZ CF (.lst [.int ((nds.length:Int)+1),.int ((nds.length:Int)+1+1),.int (10^(29:Int).toNat),.int ((nds.length:Int)+1+40)])
 rw[zz];clear zz
 show⟨_,U,c,911,U,by left,by left,fun j j0 j1=>⟨_,_,U,U,(by change(0:Int)<4;decide),?_⟩⟩
 obtain⟨_,dg,f,rfl,f0,f1⟩:=qR (P:=fun v=>∃n:Int,v=.int n/\(nds.length:Int)+1<=n/\n<10^30) (xs:=[.int ((nds.length:Int)+1),.int ((nds.length:Int)+1+1),.int (10^(29:Int).toNat),.int ((nds.length:Int)+1+40)]) (r:=j%4) (aP (by left)) (aQ (by left)) (fun x hx=>by
   have JH:∀n:Int,n<=1000->n<10^30:=fun n h=>Int.lt_of_le_of_lt h (by left)
   rcases cv hx with e|hx
   . show⟨_,e,Int.le_refl _,JH _ (by lia)⟩
   rcases cv hx with e|hx
   . show⟨_,e,by lia,JH _ (by lia)⟩
   rcases cv hx with e|hx
   . show⟨_,e,Int.le_trans (show(nds.length:Int)+1<=41 by lia) (by left),by left⟩
   . show⟨_,di hx,by lia,JH _ (by lia)⟩)
 show cH Kf dg ?_
 show .inl ⟨f,U,TC (eY (kM ⟨by lia,f1⟩)) (by left),?_⟩
 show ak (kR _ _ ?_)
 show aw [some (.ref p),some (.int c),some (.int ((nds.length:Int)+1)),some (.ref B),some (.ref I),some (.ref N),some (.int kd),some (.int nu),some (.str (Rt (toString f))),none,none,none] U ?_
 have fl:=bJ (n:=f) ⟨by lia,f1⟩
 have Jm:=pt.same s0
 show aq fun Rk kR=>?_
 show⟨_,U,B,U,⟨_,aH.of Jm.hB⟩,fun tk htk=>?_⟩
 show bD (xs:=vb) (fun(i:Nat) Hx=>ai H1 Hx/\Hx tk=some (.lst (((bs.map (·.1)).take i).map V.str))) ⟨af htk _,ae⟩ (fun i Hx y z=>aH.of (z.1 _ _ Jm.hB)) (fun i x0 Hx hx z=>?_) (fun H2 z=>?_)
 . obtain⟨sx,gD⟩:=z
   have eE:=(cy hx)
   obtain⟨b,lK,pp,rfl,md⟩:=Paired.get Jm.pb hx
   show yC (sx _ _ md) ?_
   show de (A:=fun H5=>dJ _ tk _ H5 _) ?_
   show⟨_,U,_,gD,aW (by rw[Rn,R8];lia),bq (Pv:=fun(i:Nat) Hx=>ai H1 Hx/\Hx tk=some (.lst (((bs.map (·.1)).take i).map V.str))) (by repeat' constructor) eE ⟨bo sx htk,?_⟩⟩
   rw[ae,R9,Sb,lK,RW]
   rfl
 obtain⟨s2,Me⟩:=z
 rw[Fo,UI (by rw[Rn];show Rz _)]at Me
 show ak (kR _ _ ?_)
 show aw [some (.ref p),some (.int c),some (.int ((nds.length:Int)+1)),some (.ref B),some (.ref I),some (.ref N),some (.int kd),some (.int nu),some (.str (Rt (toString f))),some (.ref tk),none,none] U ?_
 show⟨tk,bs.map (·.1),U,aH.of Me,fun n st H3 y s3 Js=>?_⟩
 have mB:ai H H3:=aa s0 (aa s2 s3)
 have Ld:=Jm.same (aa s2 s3)
 have d:Wg n H3 B I st vb bs ins _:=⟨Ld.hB,Ld.pb,Ld.hI,Js⟩
 obtain⟨vG,fin5⟩:=F0 (ns:=bs.map (·.1)) (by rw[Rn];show NT)
 generalize iH.filter (fun c=>!iN (.str c) ((bs.map (·.1)).map V.str))=fr at d vG fin5
 have C1:∀x∈fr,x.length<=8:=fun x hx=>(dD x (fin5 x hx).1).l8
 have nlo:=fun(n:Nat) (h:0<n)=>aP (k:=nu) (n:=(n:Int)) (by lia)
 have nhi:=fun(n:Nat) (h:0<n)=>aQ (k:=nu) (n:=(n:Int)) (by lia)
 have Qr:(1000000:Nat)<=sizeLine:=by left
 show aw [some (.ref p),some (.int c),some (.int ((nds.length:Int)+1)),some (.ref B),some (.ref I),some (.ref N),some (.int kd),some (.int nu),some (.str (Rt (toString f))),some (.ref tk),some (.ref st),none] U ?_
 generalize H3=H4 at d mB
 show aq fun Rk kR=>?_
 show⟨_,U,U,_,U,aG (fun y=>?_) (fun y=>?_)⟩
 . obtain⟨x,_,eF,dg⟩:=bU V.str fr (nlo _ vG) (nhi _ vG)
   rw[← Rn (f:=V.str)]at dg
   show⟨_,U,_,U,_,U,st,_,U,.inl ((d.tk.sq)),_,_,U,U,(by rw[Rn];lia),st,_,_,_,U,U,(d.tk.sq),dg,_,_,U,U,(by have:=C1 x eF;change 4+x.length<=sizeLine;lia),_,_,U,U,(by have:=C1 x eF;rw[cU];change 4+x.length+2<=sizeLine;lia),YK,fun t ht=>?_⟩
   show q t _ _ _ (az mB ht) ae ?_
   rw[(xJ x).1]
   show .box (x,0) ⟨dD x (fin5 x eF).1,qg (n:=0)⟩ (.inl (show(0:Int)<1 by left))
 show kR _ _ (aq fun Rk kR=>?_)
 suffices rest:∀H5,ai H4 H5->Rk [some (.ref p),some (.int c),some (.int ((nds.length:Int)+1)),some (.ref B),some (.ref I),some (.ref N),some (.int kd),some (.int nu),some (.str (Rt (toString f))),some (.ref tk),some (.ref st),none] H5 by
   show⟨_,U,U,_,U,aG (fun y=>?_) (fun y=>?_)⟩
   rotate_left
   . show bc rfl (rest _ (fun y y z=>z))
   show⟨_,U,YI,fun z hz=>?_⟩
   obtain⟨H5,sz,gz,zz⟩:=aZ hz (.lst [])
   rw[zz];clear zz
   have d5:=d.go sz
   show⟨_,RB.nil (aH.of d5.hB) (aH.of gz),_,U,aG (fun cc=>?_) (fun y=>?_)⟩
   rotate_left
   . show rest _ sz
   have IL:0<vb.length:=by
     cases vb with
     | nil=>show au cc (by left)
     | cons a l=>show S8 _
   obtain⟨v,hv,dg⟩:=vc (xs:=vb) (nlo _ IL) (nhi _ IL)
   obtain⟨b,lK,pp,rfl,md⟩:=Paired.get d5.pb hv
   have Gb:=RL lK
   have lb:=pg.wr.b b Gb
   show⟨_,U,_,U,_,U,B,_,U,.inl (aH.of d5.hB),_,_,U,U,(by lia),?_⟩
   show cH d5.hB dg ?_
   show bR md U ?_
   show⟨_,_,U,U,(by have:=lb.1.l8;change 4+b.1.length<=sizeLine;lia),_,_,U,U,(by have:=lb.1.l8;rw[cU];change 4+b.1.length+2<=sizeLine;lia),YK,fun t ht=>?_⟩
   show q t _ _ _ (az (aa mB sz) ht) ae ?_
   rw[(xJ b.1).2]
   show .box (b.1,2) ⟨lb.1,qg (n:=2)⟩ (.inr (C6 ⟨b,Gb,U⟩))
 obtain⟨Fu,NZ⟩ : ∃Fu,Fu=H4:=⟨_,rfl⟩
 intro H5 s5
 replace mB:=aa mB s5
 replace d:=d.go s5
 obtain⟨H4,eH⟩ : ∃H4,H4=H5:=⟨_,rfl⟩
 rw[← eH]at mB d ⊢
 show kR _ _ (aq fun Rk kR=>?_)
 suffices rest:∀H5,ai H4 H5->Rk [some (.ref p),some (.int c),some (.int ((nds.length:Int)+1)),some (.ref B),some (.ref I),some (.ref N),some (.int kd),some (.int nu),some (.str (Rt (toString f))),some (.ref tk),some (.ref st),none] H5 by
   show⟨_,U,U,_,U,aG (fun y=>?_) (fun y=>?_)⟩
   rotate_left
   . show bc rfl (rest _ (fun y y z=>z))
   show⟨_,U,YI,fun z hz=>?_⟩
   obtain⟨H5,sz,gz,zz⟩:=aZ hz (.lst [])
   rw[zz];clear zz
   have d5:=d.go sz
   show⟨_,RB.nil (aH.of d5.hI) (aH.of gz),_,U,aG (fun cc=>?_) (fun y=>?_)⟩
   rotate_left
   . show rest _ sz
   have ipos:0<ins.length:=by
     cases ins with
     | nil=>show au cc (by left)
     | cons a l=>show S8 _
   obtain⟨x,_,eF,dg⟩:=bU V.str ins (nlo _ ipos) (nhi _ ipos)
   rw[← Rn (f:=V.str)]at dg
   have lx:=pg.wr.i x eF
   show⟨_,U,_,U,_,U,I,_,U,.inl (aH.of d5.hI),_,_,U,U,(by rw[Rn];lia),?_⟩
   show cH d5.hI dg ?_
   show⟨_,_,U,U,(by have:=lx.l8;change 6+x.length<=sizeLine;lia),YK,fun t ht=>?_⟩
   show q t _ _ _ (az (aa mB sz) ht) ae ?_
   rw[p8 x]
   show .inp x lx (.inr eF)
 obtain⟨Fu,NZ⟩ : ∃Fu,Fu=H4:=⟨_,rfl⟩
 intro H5 s5
 replace mB:=aa mB s5
 replace d:=d.go s5
 obtain⟨H4,eH⟩ : ∃H4,H4=H5:=⟨_,rfl⟩
 rw[← eH]at mB d ⊢
 show kR _ _ (aq fun Rk kR=>?_)
 show⟨_,U,U,_,U,aG (fun y=>?_) (fun y=>?_)⟩
 . obtain⟨x,_,eF,dg⟩:=bU V.str fr (nlo _ vG) (nhi _ vG)
   rw[← Rn (f:=V.str)]at dg
   have lx:=dD x (fin5 x eF).1
   show⟨_,U,_,U,_,U,st,_,U,.inl ((d.tk.sq)),_,_,U,U,(by rw[Rn];lia),st,_,_,_,U,U,(d.tk.sq),dg,_,_,U,U,(by have:=lx.l8;change 6+x.length<=sizeLine;lia),YK,fun t ht=>?_⟩
   show q t _ _ _ (az mB ht) ae ?_
   rw[p8 x]
   show .inp x lx (.inl (fin5 x eF).2)
 show kR _ _ (aq fun Rk kR=>?_)
 show⟨_,U,U,_,U,aG (fun y=>?_) (fun y=>?_)⟩
 . clear kR
   show aq fun uU kR=>?_
   show⟨_,U,_,_,U,U,(by change 6+(Rt (toString f)).length<=sizeLine;lia),_,U,_,_,U,U,(by change 11+(Rt (toString f)).length<=sizeLine;lia),_,U,_,_,U,U,(by change 9+(Rt (toString f)).length<=sizeLine;lia),_,_,U,U,(by rw[cU];change 9+(Rt (toString f)).length+2<=sizeLine;lia),YL,fun l1 iK=>?_⟩
   obtain⟨H5,s5,g5,zz⟩:=aZ iK (.lst [V.str ("say 1 "++Rt (toString f)),V.str ("test yes 0 "++Rt (toString f)),V.str ("test yes "++Rt (toString f)++" 0")])
   rw[zz];clear zz
   have d5:=d.go s5
   show ak (kR _ _ ?_)
   show aw [some (.ref p),some (.int c),some (.int ((nds.length:Int)+1)),some (.ref B),some (.ref I),some (.ref N),some (.int kd),some (.int nu),some (.str (Rt (toString f))),some (.ref tk),some (.ref st),some (.ref l1)] U ?_
   show aq fun uU kR=>?_
   suffices rest:∀(l1:Addr) (rs:List Str) (H6:Hp),ai H5 H6->H6 l1=some (.lst (rs.map V.str))->0<rs.length->(∀r∈rs,fA bs ins nds 2 r)->uU [some (.ref p),some (.int c),some (.int ((nds.length:Int)+1)),some (.ref B),some (.ref I),some (.ref N),some (.int kd),some (.int nu),some (.str (Rt (toString f))),some (.ref tk),some (.ref st),some (.ref l1)] H6 by
     have w3:∀r∈(["say 1 "++Rt (toString f),"test yes 0 "++Rt (toString f),"test yes "++Rt (toString f)++" 0"]:List Str),fA bs ins nds 2 r:=fun r hr=>rb (b:="q") (dD "q" (by left)) f0 f1 r (S0 ["put "++"q"++" 1 "++Rt (toString f),"pick "++"q"++" "++Rt (toString f)] hr)
     show⟨_,U,YI,fun z hz=>?_⟩
     obtain⟨H6,sz,gz,zz⟩:=aZ hz (.lst [])
     rw[zz];clear zz
     have d6:=d5.go sz
     show⟨_,RB.nil (aH.of d6.hB) (aH.of gz),_,U,aG (fun cc=>?_) (fun y=>?_)⟩
     rotate_left
     . show rest l1 ["say 1 "++Rt (toString f),"test yes 0 "++Rt (toString f),"test yes "++Rt (toString f)++" 0"] _ sz (sz _ _ g5) (by change 0<3;decide) w3
     obtain⟨v,hv⟩ : ∃v,vb[0]?=some v:=by
       cases vb with
       | nil=>show au cc (by left)
       | cons a l=>show⟨a,rfl⟩
     have dg:iz vb 0=some v:=f6 hv
     obtain⟨b,lK,pp,rfl,md⟩:=Paired.get d6.pb hv
     have lb:=(pg.wr.b b (RL lK)).1
     have Q8:=lb.l8
     show⟨_,U,_,U,?_⟩
     show cH d6.hB dg ?_
     show bR md U ?_
     show⟨_,_,U,U,(by change 4+b.1.length<=sizeLine;lia),_,_,U,U,(by rw[cU];change 4+b.1.length+3<=sizeLine;lia),_,U,_,_,U,U,(by rw[cU,cU];change 4+b.1.length+3+(Rt (toString f)).length<=sizeLine;lia),?_⟩
     show⟨_,U,?_⟩
     show cH d6.hB dg ?_
     show bR md U ?_
     show⟨_,_,U,U,(by change 5+b.1.length<=sizeLine;lia),_,_,U,U,(by rw[cU];change 5+b.1.length+1<=sizeLine;lia),_,U,_,_,U,U,(by rw[cU,cU];change 5+b.1.length+1+(Rt (toString f)).length<=sizeLine;lia),YK,fun l2 pX=>?_⟩
     obtain⟨H7,s7,g7,zz⟩:=aZ pX (.lst [V.str ("put "++b.1++" 1 "++Rt (toString f)),V.str ("pick "++b.1++" "++Rt (toString f))])
     rw[zz];clear zz
     show⟨l1,l2,_,_,U,U,s7 _ _ (sz _ _ g5),g7,YN,fun l3 zi=>?_⟩
     show ak ?_
     show rest l3 (BA b.1 (Rt (toString f))) _ (az (aa sz s7) zi) ae (by change 0<5;decide) (rb lb f0 f1)
   intro l1 rs H6 s6 g6 Ib hw
   show kR _ _ ?_
   obtain⟨x,_,eF,dg⟩:=bU V.str rs (nlo _ Ib) (nhi _ Ib)
   rw[← Rn (f:=V.str)]at dg
   show⟨_,U,_,U,_,U,l1,_,U,.inl (aH.of g6),_,_,U,U,(by rw[Rn];lia),?_⟩
   show cH g6 dg ?_
   show⟨YK,fun t ht=>?_⟩
   show q t _ _ _ (az (aa mB (aa s5 s6)) ht) ae (hw x eF)
 show kR _ _ (tu fun Rk kR=>?_)
 show⟨YO,fun l1 iK=>?_⟩
 obtain⟨H5,s5,g5,zz⟩:=aZ iK (.lst [V.str "put @ 1 0",V.str "pick @ 0",V.str "say @ 0",V.str "say ((1+2)-(3+@)) 0",V.str "test @=1 0 0",V.str "test {yes&!1<(2+@)} 0 0"])
 rw[zz];clear zz
 show ak ?_
 show⟨_,U,YK,fun l2 pX=>?_⟩
 obtain⟨H6,s6,g6,zz⟩:=aZ pX (.lst [V.str "say (@-@) 0",V.str "test !!1=@ 0 0"])
 rw[zz];clear zz
 show⟨l1,l2,_,_,U,U,s6 _ _ g5,g6,YR,fun l3 zi=>?_⟩
 have s7:ai H6 (upd H6 l3 (.lst (gO.map V.str))):=af zi _
 have g7:(upd H6 l3 (.lst (gO.map V.str))) l3=some (.lst (gO.map V.str)):=ae
 show qj (fun Hz=>cI _ _ _ Hz _) (upd H6 l3 (.lst (gO.map V.str))) U ?_
 generalize upd H6 l3 (.lst (gO.map V.str))=H7 at s7 g7 ⊢
 have M6:=aa s5 (aa s6 s7)
 have d7:=d.go M6
 show ak (kR _ _ ?_)
 obtain⟨r,Pl,Pm,dg⟩:=bU V.str gO (nlo 8 (by left)) (nhi 8 (by left))
 obtain⟨x,PH,eF,_⟩:=bU V.str fr (r:=nu/8%(fr.length:Int)) (aP (by lia)) (aQ (by lia))
 have rl:=uF r Pm
 have xl:=C1 x eF
 show⟨_,U,_,U,_,U,l3,_,U,.inl (aH.of g7),_,_,U,U,(by change(0:Int)<8;decide),?_⟩
 show cH g7 dg ?_
 show⟨r,U,_,U,_,U,_,_,U,U,⟨by left,by right⟩,_,U,st,_,U,.inl d7.tk.sq,_,_,U,U,(by rw[Rn];lia),?_⟩
 show⟨st,_,x,fr,U,U,d7.tk,?_,?_,yZ x (fin5 x eF).1,?_,fun t ht=>?_⟩
 . rw[Rn]
   show aP (by lia)
 . rw[Rn]
   show PH
 . have:=Nat.mul_le_mul (show r.length+1<=31 by lia) xl
   lia
 . show q t _ _ _ (az (aa mB M6) ht) ae (ER (fin5 x eF).1 (fin5 x eF).2 Pl)
abbrev Ik:Stmt:=top 60
def oy (xs:List V){k:Nat}(h:k<=xs.length):er xs (some (k:Int)) none=xs.drop k:=by
 unfold er
 have e0:HT.bX xs.length 0 (some (k:Int))=k:=by rw[HT.d9];lia
 have e1:HT.bX xs.length xs.length none=xs.length:=rfl
 rw[e0,e1]
 show UI (by rw[Tn];show Rz _)
def vm (xs:List V){k:Nat}(h:k<=xs.length):er xs none (some (k:Int))=xs.take k:=by
 unfold er
 have e0:HT.bX xs.length 0 none=0:=rfl
 have e1:HT.bX xs.length xs.length (some (k:Int))=k:=by rw[HT.d9];lia
 rw[e0,e1,VS,Wm]
def BG:aC ["rows","row","cell","at"] ["rows","row","cell"] (ao Ik):=eU
def yT (xs:List V){a b:Nat}(h:a<=b)(h2:b<=xs.length):er xs (some (a:Int)) (some (b:Int))=(xs.drop a).take (b-a):=by
 unfold er
 have e0:HT.bX xs.length 0 (some (a:Int))=a:=by rw[HT.d9];lia
 have e1:HT.bX xs.length xs.length (some (b:Int))=b:=by rw[HT.d9];lia
 rw[e0,e1]
def BK (K:Ro):Sp:=fun vs H Q z=>∃(R:Addr) (rs:List Str) (row:Str) (c:Int),vs=[.ref R,.str row,.int c]/\aH K H R (rs.map V.str)/\rs.length<=500/\∀(l:Addr) (k:Nat) (H':Hp),ai H H'->H l=none->H' l=some (.lst ((mid rs k row).map V.str))->Q (.ref l) H'
def Df {f:Addr}{fd:RZ}(F:cD K "_law_put_in" "_law_put_in" Ik f fd)(m_len:mg "len"=none)(ST:b7 P w K mg base "_law_stir" ["cell","k"] 1 cm):aY P w K mg base dq 2 f fd ["rows","row","cell"] (BK K):=by
 show F.iU BG fun cdv A outer s H vs Q E hr h=>?_
 obtain⟨R,rs,row,c,rfl,hR,r5,q⟩:=h
 have ml:(rs.map V.str).length=rs.length:=Rn ..
 show ig ⟨_,(Wv (Wy 3 BG.nd (Wt WG (WA ST hr U (L (Y 2) (L Ws M))) (Wt WN (WJ WO U m_len RG (L (Y 0) M)) Ws)))
   (Ww (WC (Wt W7 (Wt W7 (L3.ED (Y 0) (Y 3)) (WD (L (Y 1) M))) (L3.EC (Y 0) (Y 3)))))),?_⟩
 show aq fun Rk kR=>?_
 show⟨_,U,c,915,U,by left,by left,fun j j0 j1=>⟨_,U,R,_,U,.inl hR,_,_,U,U,_,_,U,U,(by rw[ml];lia),?_⟩⟩
 obtain⟨k,ek⟩ : ∃k:Nat,(k:Int)=j%(((rs.map V.str).length:Int)+1):=⟨(j%(((rs.map V.str).length:Int)+1)).toNat,by have:=aP (k:=j) (n:=((rs.map V.str).length:Int)+1) (by lia);lia⟩
 have kl:k<=(rs.map V.str).length:=by
   have:=aQ (k:=j) (n:=((rs.map V.str).length:Int)+1) (by lia)
   lia
 show ak (kR _ _ ?_)
 show aw [some (.ref R),some (.str row),some (.int c),some (.int (k:Int))] (by rw[ek];rfl) ?_
 show⟨_,U,_,U,_,U,R,_,U,hR,fun l1 iK=>?_⟩
 rw[vm _ kl]
 obtain⟨H1,s1,g1,zz⟩:=aZ iK (.lst ((rs.map V.str).take k))
 rw[zz];clear zz
 show⟨_,U,YJ,fun l2 pX=>?_⟩
 obtain⟨H2,s2,g2,zz⟩:=aZ pX (.lst [.str row])
 rw[zz];clear zz
 show⟨l1,l2,_,_,U,U,s2 _ _ g1,g2,Ry (show _<=1000 by rw[R8];change _+1<=1000;lia) (by left),fun l3 zi=>?_⟩
 obtain⟨H3,s3,g3,zz⟩:=aZ zi (.lst ((rs.map V.str).take k++[.str row]))
 rw[zz];clear zz
 have mB:=aa s1 (aa s2 s3)
 show⟨_,U,_,U,_,U,R,_,U,ai.seq mB hR,fun l4 pY=>?_⟩
 rw[oy _ kl]
 obtain⟨H4,s4,g4,zz⟩:=aZ pY (.lst ((rs.map V.str).drop k))
 rw[zz];clear zz
 show⟨l3,l4,_,_,U,U,s4 _ _ g3,g4,Ry (show _<=1000 by rw[Rx,R8,Tn];change _+1+_<=1000;lia) (by left),fun l5 KD=>?_⟩
 show q l5 k _ (az (aa mB s4) KD) (aS (aa mB s4) KD) ?_
 rw[ae]
 unfold mid
 rw[RW,RW,Vi,V6]
 rfl
def v8 {c:Nat}{x y:Str}{r:List Str}:Td (SN [c]) (x::y::r)≠TR:=fun z=>by
 have e:=congrArg (fun s:Str=>s.cps.toList) z
 have e:(Td (SN [c]) (x::y::r)).cps.toList=[]:=e
 rw[eM]at e
 have e:x.cps.toList++c::jl c ((y::r).map fun x=>x.cps.toList)=[]:=e
 cases(List.append_eq_nil_iff.mp e).2
def qM {xs:List Str}(hl:xs.length<=60)(h:∀x∈xs,x.length<=12100/\10∉x.cps.toList)(hn:xs≠[])(h0:Td (SN [10]) xs≠TR):JoinOk "\n" xs=true/\S7 (RM "\n" xs) "\n"=xs/\(RM "\n" xs).length+2<=sizeLine:=by
 show⟨jK 12100 (fun y hy=>(h y hy).1) ?_,?_,?_⟩
 . rw[show(("\n":Str)).length=1 from rfl]
   lia
 . rw[Qi]
   show lr hn h0 fun x hx=>(h x hx).2
 . have e:(RM "\n" xs).length<=60*12101:=by
     change(Sr "\n" _).length<=_
     rw[StrLaws.glued_eq_join]
     show Ry (StrLaws.join_length_le _ _) ?_
     have key:∀l:List Str,(∀r∈l,r.length<=12100)->(l.map (·.length)).sum<=l.length*12100:=by
       intro l
       induction l with
       | nil=>intro _;show Rz _
       | cons a l ih=>
         intro h
         have h1:=ih fun x hx=>h x (RC _ hx)
         have h2:=h a Ru
         rw[R3,S2,RE]
         lia
     have:=key xs fun x hx=>(h x hx).1
     rw[show(("\n":Str)).length=1 from rfl]
     lia
   show Ry (Nat.add_le_add_right e 2) (by left)
section
variable{bs:aB}{ins:List Str}{nds:List Np}
def cE.txt (f:cE bs ins nds):∀x∈textOf bs ins nds,x.length<=12100/\10∉x.cps.toList:=fun x hx=>by
 rw[eS]at hx
 obtain⟨r,hr,rfl⟩:=fc hx
 show⟨(f.row r hr).len.2,fun z=>?_⟩
 have:=Ek (f.row r hr) _ z
 lia
def qS:∀x∈dY,x.length<=12100/\10∉x.cps.toList:=by right
def cE.AM (f:cE bs ins nds):(textOf bs ins nds).length<=54:=by
 rw[eS,Rn]
 show f.len
def cE.ne (f:cE bs ins nds){l:List Str}(h:textOf bs ins nds≠[]):Td (SN [10]) (textOf bs ins nds++l)≠TR:=by
 have hr:=f.row
 rw[eS]at h ⊢
 cases e:rowsOf bs ins nds with
 | nil=>rw[e]at h;show au rfl h
 | cons a b=>
   rw[e]at hr
   show nq (El (hr a Ru))
structure yJ (tx:Str)(k:Nat):Prop where
 ex:∃(pre:List Rw) (tl:List Str),S7 tx "\n"=pre.map (fun r=>du r.hd r.jC)++tl/\tx.length+2<=sizeLine/\pre.length<=408/\tl.length<=500/\(∀r∈pre,iC r.hd r.jC)/\(pre.Pairwise fun a b=>a.rank<=b.rank)/\((k=4/\tl=[]/\yD (lI pre) (inR pre) (lP pre)/\¬ dX (lI pre) (inR pre) (lP pre))\/(k=3/\∃x post,tl=x::post/\x∈dY))
def Bx (f:cE bs ins nds)(no:¬ dX bs ins nds)(h:textOf bs ins nds≠[]):JoinOk "\n" (textOf bs ins nds)=true/\yJ (RM "\n" (textOf bs ins nds)) 4:=by
 have n0:=f.ne (l:=[]) h
 rw[RY]at n0
 obtain⟨h1,h2,h3⟩:=qM (by have:=f.AM;lia) f.txt h n0
 show⟨h1,⟨rowsOf bs ins nds,[],?_,h3,by have:=f.len;lia,by left,f.row,gq,.inl ⟨U,U,?_,?_⟩⟩⟩
 . rw[h2,RY,eS]
 . rw[ve,vV,wA];show f.ask
 . rw[ve,vV,wA];show no
def By (f:cE bs ins nds)(h:textOf bs ins nds≠[]){x:Str}(hx:x∈dY):JoinOk "\n" (x::textOf bs ins nds)=true/\yJ (RM "\n" (x::textOf bs ins nds)) 3:=by
 have tl:=f.AM
 obtain⟨h1,h2,h3⟩:=qM (xs:=x::textOf bs ins nds) (by rw[RE];lia) (fun y hy=>by
   rcases cv hy with e|hy
   . rw[e];show qS x hx
   . show f.txt y hy) (fun z=>nomatch z) (by
   cases e:textOf bs ins nds with
   | nil=>show au e h
   | cons a b=>show v8)
 show⟨h1,⟨[],x::textOf bs ins nds,h2,h3,by left,by rw[RE];lia,(fun w z=>nomatch z),.nil,.inr ⟨U,x,_,U,hx⟩⟩⟩
def Bz (f:cE bs ins nds)(h:textOf bs ins nds≠[]){x:Str}(hx:x∈dY):JoinOk "\n" (textOf bs ins nds++[x])=true/\yJ (RM "\n" (textOf bs ins nds++[x])) 3:=by
 have tl:=f.AM
 obtain⟨h1,h2,h3⟩:=qM (xs:=textOf bs ins nds++[x]) (by rw[Rx];change _+1<=60;lia) (fun y hy=>by
   rcases ez hy with hy|hy
   . show f.txt y hy
   . rw[di hy];show qS x hx) (fun z=>h (List.append_eq_nil_iff.mp z).1) (f.ne h)
 show⟨h1,⟨rowsOf bs ins nds,[x],?_,h3,by have:=f.len;lia,by change 1<=500;decide,f.row,gq,.inr ⟨U,x,[],U,hx⟩⟩⟩
 rw[h2,eS]
end
def fA.len {bs:aB}{ins:List Str}{nds:List Np}{w:Int}{row:Str}(h:fA bs ins nds w row):row.length<=sizeLine:=by
 have key:∀(b:aB) (i:List Str) (n:List Np) (x:Str),cE b i n->x∈textOf b i n->x.length<=sizeLine:=fun b i n x f hx=>Ry (f.txt x hx).1 (by left)
 cases h with
 | box b hb _=>show key [b] [] [] _ ⟨all1 hb,(fun y z=>nomatch z),(fun y z=>nomatch z),(fun y z=>nomatch z),(by change 1<=6;decide),(by left),(by left)⟩ Ru
 | inp x hx _=>show key [] [x] [] _ ⟨(fun y z=>nomatch z),all1 hx,(fun y z=>nomatch z),(fun y z=>nomatch z),(by left),(by change 1<=6;decide),(by left)⟩ Ru
 | nd e we td _=>show key [] [] [e] _ ⟨(fun y z=>nomatch z),(fun y z=>nomatch z),all1 we,all1 td,(by left),(by left),(by change 1<=42;decide)⟩ Ru
abbrev Ay:Stmt:=top 61
def rZ (K:Ro):Sp:=fun vs H Q z=>∃(a:Addr) (ns:List Int),vs=[.ref a]/\aH K H a (ns.map V.int)/\ns.length<=63/\∀H',Q (.bl true) H'
abbrev fB (b:Str×Int):Str:=RM bG (jh b)
abbrev fI (x:Str):Str:=RM bG (vW x)
abbrev fN (e:Np):Str:=RM bG e.ws
def GI {c:TT}{t u:TS}{D:L2.Ends}{σ:L2.St}{H:Hp}(h:∀T U8:Hp->Prop,(∀H1,t D σ H1->T H1)->(∀H1,u D σ H1->U8 H1)->c σ H (fun b H1=>if b=true then T H1 else U8 H1)):EK c t u D σ H:=h _ _ (fun y z=>z) (fun y z=>z)
section
variable{bs:aB}{ins:List Str}{nds:List Np}
def sE (bs:aB)(ins:List Str)(nds:List Np):(textOf bs ins nds).map V.str=(bs.map fB).map V.str++((ins.map fI).map V.str++(nds.map fN).map V.str):=by
 change(bs.map fB++ins.map fI++nds.map fN).map V.str=_
 rw[RW,RW,SK]
def IS {n:Nat}(h:n=bs.length):er ((textOf bs ins nds).map V.str) none (some (n:Int))=(bs.map fB).map V.str:=by
 rw[sE,vm _ (by rw[Rx,Rn,Rn];lia)]
 show List.take_left' (by rw[Rn,Rn,h])
def IT {n m:Nat}(h:n=bs.length)(h2:m=ins.length):er ((textOf bs ins nds).map V.str) (some (n:Int)) (some ((n:Int)+(m:Int)))=(ins.map fI).map V.str:=by
 rw[show(n:Int)+(m:Int)=((n+m:Nat):Int)by lia,sE,yT _ (by lia) (by rw[Rx,Rx,Rn,Rn,Rn,Rn];lia),List.drop_left' (by rw[Rn,Rn,h])]
 show List.take_left' (by rw[Rn,Rn];lia)
def IU {n m:Nat}(h:n=bs.length)(h2:m=ins.length):er ((textOf bs ins nds).map V.str) (some ((n:Int)+(m:Int))) none=(nds.map fN).map V.str:=by
 rw[show(n:Int)+(m:Int)=((n+m:Nat):Int)by lia,sE,oy _ (by rw[Rx,Rx,Rn,Rn,Rn,Rn];lia),← SK]
 show List.drop_left' (by rw[Rx,Rn,Rn,Rn,Rn];lia)
end
structure Zn (H:Hp)(Z z0 z1 z2:Addr)(A B C:List Str):Prop where
 hZ:H Z=some (.lst [.ref z0,.ref z1,.ref z2])
 h0:H z0=some (.lst (A.map V.str))
 h1:H z1=some (.lst (B.map V.str))
 h2:H z2=some (.lst (C.map V.str))
 n0:z0≠Z
 n1:z1≠Z
 n2:z2≠Z
 n01:z0≠z1
 n02:z0≠z2
 n12:z1≠z2
def Zn.go {H H':Hp}{Z z0 z1 z2:Addr}{A B C:List Str}(h:Zn H Z z0 z1 z2 A B C)(s:ai H H'):Zn H' Z z0 z1 z2 A B C:=⟨s _ _ h.hZ,s _ _ h.h0,s _ _ h.h1,s _ _ h.h2,h.n0,h.n1,h.n2,h.n01,h.n02,h.n12⟩
section
variable{H H':Hp}{Z z0 z1 z2 l:Addr}{A B C X:List Str}
def Zn.Le (h:Zn H Z z0 z1 z2 A B C)(s:ai H H')(n:H l=none)(g:H' l=some (.lst (X.map V.str))):Zn (upd H' Z (.lst [.ref l,.ref z1,.ref z2])) Z l z1 z2 X B C:=by
 have a:∀z xs,H z=some (.lst xs)->l≠z:=fun z xs e k=>by rw[← k,n]at e;cases e
 show⟨ae,by rw[ah (a _ _ h.hZ)];show g,by rw[ah h.n1];show s _ _ h.h1,by rw[ah h.n2];show s _ _ h.h2,a _ _ h.hZ,h.n1,h.n2,a _ _ h.h1,a _ _ h.h2,h.n12⟩
def Zn.Lf (h:Zn H Z z0 z1 z2 A B C)(s:ai H H')(n:H l=none)(g:H' l=some (.lst (X.map V.str))):Zn (upd H' Z (.lst [.ref z0,.ref l,.ref z2])) Z z0 l z2 A X C:=by
 have a:∀z xs,H z=some (.lst xs)->l≠z:=fun z xs e k=>by rw[← k,n]at e;cases e
 show⟨ae,by rw[ah h.n0];show s _ _ h.h0,by rw[ah (a _ _ h.hZ)];show g,by rw[ah h.n2];show s _ _ h.h2,h.n0,a _ _ h.hZ,h.n2,(a _ _ h.h0).symm,h.n02,a _ _ h.h2⟩
def Zn.put2 (h:Zn H Z z0 z1 z2 A B C)(s:ai H H')(n:H l=none)(g:H' l=some (.lst (X.map V.str))):Zn (upd H' Z (.lst [.ref z0,.ref z1,.ref l])) Z z0 z1 l A B X:=by
 have a:∀z xs,H z=some (.lst xs)->l≠z:=fun z xs e k=>by rw[← k,n]at e;cases e
 show⟨ae,by rw[ah h.n0];show s _ _ h.h0,by rw[ah h.n1];show s _ _ h.h1,by rw[ah (a _ _ h.hZ)];show g,h.n0,h.n1,a _ _ h.hZ,h.n01,(a _ _ h.h0).symm,(a _ _ h.h1).symm⟩
def Zn.PN (h:Zn H Z z0 z1 z2 A B C):Zn (upd H z0 (.lst (X.map V.str))) Z z0 z1 z2 X B C:=⟨by rw[ah h.n0.symm];show h.hZ,ae,by rw[ah h.n01.symm];show h.h1,by rw[ah h.n02.symm];show h.h2,h.n0,h.n1,h.n2,h.n01,h.n02,h.n12⟩
def Zn.PQ (h:Zn H Z z0 z1 z2 A B C):Zn (upd H z2 (.lst (X.map V.str))) Z z0 z1 z2 A B X:=⟨by rw[ah h.n2.symm];show h.hZ,by rw[ah h.n02];show h.h0,by rw[ah h.n12];show h.h1,ae,h.n0,h.n1,h.n2,h.n01,h.n02,h.n12⟩
def Zn.iG (h:Zn H Z z0 z1 z2 A B C):iz [V.ref z0,V.ref z1,V.ref z2] 0=some (.ref z0)/\iz [V.ref z0,V.ref z1,V.ref z2] 1=some (.ref z1)/\iz [V.ref z0,V.ref z1,V.ref z2] 2=some (.ref z2):=⟨rfl,rfl,rfl⟩
end
def oE (k:Nat)(kk:Int)(hk:kk=(k:Int))(i:Nat)(h:i<12):(flags k).take (i+1)=(flags k).take i++[decide (V.int (i:Int)=V.int kk)]:=by
 have e:(flags k)[i]?=some (i==k):=by
   unfold flags
   rw[Sb,List.getElem?_range h]
   rfl
 rw[R9,e]
 have:(i==k)=decide (V.int (i:Int)=V.int kk):=by
   subst hk
   by_cases z:i=k
   . subst z;simp
   . rw[beq_false_of_ne z,gv (fun y=>by injection y with y;lia)]
 rw[this]
 rfl
def ee:aC ["script","program","rows","cell","first","second","zones","where","row","at","texts","strange","some"] ["script"] (ao Ay):=eU
def Dd {f:Addr}{fd:RZ}(F:cD K "law" "law" Ay f fd)(m_len:mg "len"=none)(m_range:mg "range"=none)(CE:b7 P w K mg base "_law_cell_at" ["script","k"] 64 (n5 K))(ST:b7 P w K mg base "_law_stir" ["cell","k"] 64 cm)(PR:b7 P w K mg base "_law_program" ["script"] 64 (yd K))(WR:b7 P w K mg base "_law_wrong" ["program","cell","many"] 64 BL)(PU:b7 P w K mg base "_law_put_in" ["rows","row","cell"] 64 (BK K))(RF:b7 P w K mg base "_law_refused" ["text"] 64 yf):aY P w K mg base dq 65 f fd ["script"] (rZ K):=by
 show F.iU ee fun cdv A outer s H vs Q E hr h=>?_
 obtain⟨a,sc,rfl,hS,QW,q⟩:=h
 show ig ⟨_,(Wv (Xj (WA PR hr U (L (Y 0) M)) (L3.zc 2 (WQ (WI 1 ee.nd) (WQ (WI 2 ee.nd) W2))))
   (Wv (Wy 3 ee.nd (WA CE hr U (L (Y 0) (L Ws M))))
   (Wv (Wy 4 ee.nd (WJ WO U m_len RG (L (Wz WM (Y 1) Ws) M)))
   (Wv (Wy 5 ee.nd (Wt WN (Y 4) (WJ WO U m_len RG (L (Wz WM (Y 1) Ws) M))))
   (Wv (Wy 6 ee.nd (WD (L (L3.ED (Y 2) (Y 4)) (L (L3.BH (Y 2) (Y 4) (Y 5)) (L (L3.EC (Y 2) (Y 5)) M)))))
   (Wv (Xj (WA WR hr U (L (Y 1) (L (Y 3) (L (Wt WN (WJ WO U m_len RG (L (Wz WK (Y 6) Ws) M)) Ws) M)))) (Xb 2 (WQ (WI 7 ee.nd) (WQ (WI 8 ee.nd) W2))))
   (Wv (WB (WV (WX (Wx WL (L3.Lk (Y 8) (XB Ws)) Wu) (WX (Wx WL (Y 7) Ws) (WX (Wx Xi (Y 4) Ws) (W6 (Wx WL (Wt WG (WA ST hr U (L (Y 3) (L Ws M))) Ws) Ws)))))) (Wv (Wy 9 ee.nd (Wt WG (WA ST hr U (L (Y 3) (L Ws M))) (Y 4)))
   (Ww (Xj (Wt WS (Wt WS Wu (Wz WM (Wz WK (Wz WM (Y 1) Ws) (Y 9)) Ws)) Wu) (L3.A3 (Wz WK (Y 6) Ws) (Y 9))))) (Wv (WB (WV (WX (Wx WL (Y 7) Ws) (W6 (Wx Xi (WJ WO U m_len RG (L (Wz WK (Y 6) Ws) M)) Ws)))) (Ww (W0 (L3.Bs (Wz WK (Y 6) Ws) (L (Wt WG (WA ST hr U (L (Y 3) (L Ws M))) Ws) M)))) WE)
   (Ww (Xj (WA PU hr U (L (Wz WK (Y 6) (Y 7)) (L (Y 8) (L (Y 3) M)))) (L3.A3 (Y 6) (Y 7))))))
   (Wv (WB (Wx WL (Wt WG (WA ST hr U (L (Y 3) (L Ws M))) Ws) Ws) (Ww (Xj (WD M) (L3.Kk (Y 6) Ws))) WE)
   (Wv (Wy 10 ee.nd (Wt W7 (Wt W7 (Wz WK (Y 6) Ws) (Wz WK (Y 6) Ws)) (Wz WK (Y 6) Ws)))
   (Wv (WB (Wx (L3.wN (m:=2) (dm hr _ (by left))) (Y 10) (WD M)) (Ww (Wy 10 ee.nd (WD (L Wu M)))) WE)
   (Wv (WB (Wx (Xf (m:=2) (dm hr _ (by left))) (WA RF hr U (L (Xv Wu (L (Y 10) M)) M)) (Xk [none] ["k"] (oa Ay) U (Xu U m_range (L Ws M)) (fun y y y y y=>⟨(WI 0 (jr ["k"])),WZ,(L3.Cn WL (Y 0) Ws)⟩))) (Ww (WC Xe)) WE)
   (Wv (Wy 11 ee.nd (Wz WK (WD (L Wu (L Wu (L Wu (L Wu M))))) (Wt WG (WA ST hr U (L (Y 3) (L Ws M))) Ws)))
   (Wv (W8 (WW (WD (L (Wt W7 (WD (L (Y 11) M)) (Y 10)) (L (Wt W7 (Y 10) (WD (L (Y 11) M))) M)))) (WI 12 ee.nd) (Ww (WB (Wx (Xf (m:=2) (dm hr _ (by left))) (WA RF hr U (L (Xv Wu (L (Y 12) M)) M)) (Xk [none] ["k"] (oa Ay) U (Xu U m_range (L Ws M)) (fun y y y y y=>⟨(WI 0 (jr ["k"])),WZ,(L3.Cn WL (Y 0) Ws)⟩))) (Ww (WC Xe)) WE)))
   (Ww (WC Xe))))))))))))))),?_⟩
 show aq fun Rk kR=>?_
 show⟨_,U,a,sc,U,hS,fun L8 p R B I N vb vn bs ins nds H1 s1 gL hp pt pg n40 gR=>?_⟩
 show⟨L8,_,U,aH.of gL,U,_,_,U,_,_,U,U,?_⟩
 have Fo:=Paired.length pt.pb
 have zm:(ins.map V.str).length=ins.length:=Rn ..
 show kR _ _ ?_
 show aw [some (.ref a),some (.ref p),some (.ref R),none,none,none,none,none,none,none,none,none,none] U ?_
 show aq fun Rk kR=>?_
 show⟨_,U,a,sc,41,U,ai.seq s1 hS,by left,fun c=>?_⟩
 show ak (kR _ _ ?_)
 show aw [some (.ref a),some (.ref p),some (.ref R),some (.int c),none,none,none,none,none,none,none,none,none] U ?_
 show aq fun Rk kR=>?_
 show⟨_,U,?_⟩
 show bR hp U ?_
 show⟨B,_,U,.inl (aH.of pt.hB),?_⟩
 show ak (kR _ _ ?_)
 show aw [some (.ref a),some (.ref p),some (.ref R),some (.int c),some (.int (vb.length:Int)),none,none,none,none,none,none,none,none] U ?_
 show aq fun Rk kR=>?_
 show⟨_,U,_,U,?_⟩
 show bR hp U ?_
 show⟨I,_,U,.inl (aH.of pt.hI),_,_,U,U,?_⟩
 show ak (kR _ _ ?_)
 show aw [some (.ref a),some (.ref p),some (.ref R),some (.int c),some (.int (vb.length:Int)),some (.int ((vb.length:Int)+((ins.map V.str).length:Int))),none,none,none,none,none,none,none] U ?_
 show aq fun Rk kR=>?_
 show⟨_,U,_,U,_,U,R,_,U,aH.of gR,fun z0 hz0=>?_⟩
 rw[IS Fo]
 obtain⟨H2,sz0,Mf,zz⟩:=aZ hz0 (.lst ((bs.map fB).map V.str))
 rw[zz];clear zz
 show⟨_,U,_,U,_,U,_,U,_,U,R,_,U,aH.of (sz0 _ _ gR),fun z1 hz1=>?_⟩
 rw[IT Fo zm]
 obtain⟨H3,sz1,Mg,zz⟩:=aZ hz1 (.lst ((ins.map fI).map V.str))
 rw[zz];clear zz
 show⟨_,U,_,U,_,U,R,_,U,aH.of (sz1 _ _ (sz0 _ _ gR)),fun z2 KW=>?_⟩
 rw[IU Fo zm]
 obtain⟨H4,AJ,Mh,zz⟩:=aZ KW (.lst ((nds.map fN).map V.str))
 rw[zz];clear zz
 show⟨YL,fun Z hZ=>?_⟩
 obtain⟨H5,sZ,gZ,zz⟩:=aZ hZ (.lst [.ref z0,.ref z1,.ref z2])
 rw[zz];clear zz
 have M0:ai H1 H5:=aa sz0 (aa sz1 (aa AJ sZ))
 have zn:Zn H5 Z z0 z1 z2 (bs.map fB) (ins.map fI) (nds.map fN):=by
   have b0:=sz1 _ _ Mf
   have b1:=AJ _ _ b0
   have c1:=AJ _ _ Mg
   show⟨gZ,sZ _ _ b1,sZ _ _ c1,sZ _ _ Mh,ag b1 hZ,ag c1 hZ,ag Mh hZ,ag Mf hz1,ag b0 KW,ag Mg KW⟩
 replace hp:=M0 _ _ hp
 replace pt:=pt.same M0
 show ak (kR _ _ ?_)
 show aw [some (.ref a),some (.ref p),some (.ref R),some (.int c),some (.int (vb.length:Int)),some (.int ((vb.length:Int)+((ins.map V.str).length:Int))),some (.ref Z),none,none,none,none,none,none] U ?_
 show aq fun Rk kR=>?_
 show⟨_,U,_,U,_,U,?_⟩
 show cH zn.hZ zn.iG.2.2 ?_
 show⟨z2,_,U,.inl (aH.of zn.h2),_,_,U,U,p,c,B,I,N,vb,vn,bs,ins,nds,(by change[V.ref p,V.int c,V.int ((((nds.map fN).map V.str).length:Int)+1)]=_;rw[Rn,Rn]),hp,pt,pg,n40,fun t w row H6 s6 gt wr=>?_⟩
 show yC gt ?_
 show kR _ _ ?_
 replace zn:=zn.go s6
 replace hp:=s6 _ _ hp
 replace pt:=pt.same s6
 show aw [some (.ref a),some (.ref p),some (.ref R),some (.int c),some (.int (vb.length:Int)),some (.int ((vb.length:Int)+((ins.map V.str).length:Int))),some (.ref Z),some (.int w),some (.str row),none,none,none,none] U ?_
 show aq fun Rk kR=>?_
 suffices hz:∀(o9:Option V) (z0 z1 z2:Addr) (bs':aB) (ins':List Str) (nds':List Np) (H8:Hp),Zn H8 Z z0 z1 z2 (bs'.map fB) (ins'.map fI) (nds'.map fN)->cE bs' ins' nds'->¬ dX bs' ins' nds'->Rk [some (.ref a),some (.ref p),some (.ref R),some (.int c),some (.int (vb.length:Int)),some (.int ((vb.length:Int)+((ins.map V.str).length:Int))),some (.ref Z),some (.int w),some (.str row),o9,none,none,none] H8 by
   show GI fun T U8 hT hU=>?_
   have uu:U8 H6:=by
     show hU _ ?_
     show aq fun uU kR2=>?_
     cases wr with
     | box b hb Gu=>
       show⟨_,U,U,_,U,bc rfl (bc rfl (kR2 _ _ ?_))⟩
       show⟨_,U,_,U,?_⟩
       show cH zn.hZ zn.iG.1 ?_
       show⟨_,U,_,U,z0,bs.map fB,_,c,U,aH.of zn.h0,(by have:=pg.wr.lb;rw[Rn];lia),fun l k H8 s8 nl gl=>?_⟩
       show⟨_,U,_,U,Z,_,0,0,U,U,s8 _ _ zn.hZ,U,?_⟩
       have ok:=yL pg n40 k hb Gu
       show hz none l z1 z2 (mid bs k b) ins nds _ (zn.Le s8 nl (by rw[jM];show gl)) ok.1 ok.2
     | inp x hx Gu=>
       show⟨_,U,U,_,U,bc rfl (bc rfl (kR2 _ _ ?_))⟩
       show⟨_,U,_,U,?_⟩
       show cH zn.hZ zn.iG.2.1 ?_
       show⟨_,U,_,U,z1,ins.map fI,_,c,U,aH.of zn.h1,(by have:=pg.wr.li;rw[Rn];lia),fun l k H8 s8 nl gl=>?_⟩
       show⟨_,U,_,U,Z,_,1,1,U,U,s8 _ _ zn.hZ,U,?_⟩
       have ok:=yM pg n40 k hx Gu
       show hz none z0 l z2 bs (mid ins k x) nds _ (zn.Lf s8 nl (by rw[jM];show gl)) ok.1 ok.2
     | nd e we td no=>
       suffices rn:∀(ns:List Np) (H7:Hp),Zn H7 Z z0 z1 z2 (bs.map fB) (ins.map fI) (ns.map fN)->(∀e∈ns,e∈nds)->ns.length<=nds.length->uU [some (.ref a),some (.ref p),some (.ref R),some (.int c),some (.int (vb.length:Int)),some (.int ((vb.length:Int)+((ins.map V.str).length:Int))),some (.ref Z),some (.int 2),some (.str (fN e)),none,none,none,none] H7 by
         show⟨_,U,U,_,U,b6 ?_⟩
         show⟨_,U,?_⟩
         show cH zn.hZ zn.iG.2.2 ?_
         show⟨z2,_,U,.inl (aH.of zn.h2),_,_,U,U,_,U,?_⟩
         show aG (fun cc=>?_) (fun y=>rn nds _ zn (fun y z=>z) (Rz _))
         have cc:39<nds.length:=by
           have:=jg cc
           rw[Rn,Rn]at this
           lia
         show⟨_,U,?_⟩
         show cH zn.hZ zn.iG.2.2 ?_
         show⟨.inl ⟨U,_,aH.of zn.h2⟩,_,U,c,918,U,by left,by left,fun j j0 j1=>⟨_,_,U,U,(by change(0:Int)<40;decide),?_⟩⟩
         have m0:=aP (k:=j) (n:=40) (by left)
         have m1:=aQ (k:=j) (n:=40) (by left)
         obtain⟨i,ei⟩ : ∃i,i=j%40:=⟨_,rfl⟩
         rw[← ei]at m0 m1
         have P0:((nds.map fN).map V.str).length=nds.length:=by rw[Rn,Rn]
         have il:i.toNat<nds.length:=by lia
         show⟨z2,_,_,i.toNat,.str (fN nds[i.toNat]),U,U,zn.h2,?_,?_,?_,?_,?_⟩
         . change -(2^63)<=j%40
           rw[← ei];lia
         . change j%40<2^63
           rw[← ei];lia
         . change Va (j%40) _=_
           rw[← ei]
           show x5 m0 (by rw[P0];lia)
         . rw[Sb,Sb,RQ il]
           rfl
         rw[← gk,← gk]
         show rn (nds.eraseIdx i.toNat) _ zn.PQ (fun y z=>List.mem_of_mem_eraseIdx z) (List.length_eraseIdx_le _ _)
       intro ns H7 IQ sub Qe
       show kR2 _ _ ?_
       show⟨_,U,_,U,?_⟩
       show cH IQ.hZ IQ.iG.2.2 ?_
       show⟨_,U,_,U,z2,ns.map fN,_,c,U,aH.of IQ.h2,(by rw[Rn];lia),fun l k H8 s8 nl gl=>?_⟩
       show⟨_,U,_,U,Z,_,2,2,U,U,s8 _ _ IQ.hZ,U,?_⟩
       have ok:=Cf pg n40 k sub Qe we td no
       show hz none z0 z1 l bs ins (mid ns k e) _ (IQ.put2 s8 nl (by rw[jM];show gl)) ok.1 ok.2
   show⟨_,U,_,U,_,U,row,U,wr.len,U,_,U,aG (fun y=>?_) (fun y=>bc rfl uu)⟩
   show⟨_,U,U,_,U,aG (fun y=>?_) (fun y=>bc rfl uu)⟩
   show⟨_,U,_,_,U,U,_,U,aG (fun cf=>?_) (fun y=>bc rfl uu)⟩
   show⟨_,U,c,916,U,by left,by left,fun j j0 j1=>⟨_,_,U,U,(by change(0:Int)<2;decide),U,_,U,aG (fun y=>?_) (fun y=>uu)⟩⟩
   show hT _ ?_
   have cf:0<vb.length:=by
     have:=jg cf
     lia
   show aq fun uU kR2=>?_
   show⟨_,U,c,917,U,by left,by left,fun j j0 j1=>⟨_,U,_,_,U,U,(by lia),?_⟩⟩
   obtain⟨i,ei⟩ : ∃i,i=j%(vb.length:Int):=⟨_,rfl⟩
   have m0:=aP (k:=j) (n:=(vb.length:Int)) (by lia)
   have m1:=aQ (k:=j) (n:=(vb.length:Int)) (by lia)
   rw[← ei]at m0 m1
   show ak ?_
   show kR2 _ _ ?_
   show aw [some (.ref a),some (.ref p),some (.ref R),some (.int c),some (.int (vb.length:Int)),some (.int ((vb.length:Int)+((ins.map V.str).length:Int))),some (.ref Z),some (.int w),some (.str row),some (.int i),none,none,none] (by rw[ei];rfl) ?_
   obtain⟨v,hv,dg⟩:=vc (xs:=vb) m0 m1
   obtain⟨b,lK,pp,rfl,md⟩:=Paired.get pt.pb hv
   have lb:=(pg.wr.b b (RL lK)).1.l8
   have Qr:(1000000:Nat)<=sizeLine:=by left
   show⟨_,U,?_⟩
   show bR hp U ?_
   show⟨_,U,?_⟩
   show cH pt.hB dg ?_
   show bR md U ?_
   show⟨_,_,U,U,(by change 4+b.1.length<=sizeLine;lia),_,_,U,U,(by rw[cU];change 4+b.1.length+2<=sizeLine;lia),?_⟩
   show⟨_,U,?_⟩
   show cH zn.hZ zn.iG.1 ?_
   show⟨_,U,z0,_,_,i.toNat,U,U,zn.h0,?_,?_⟩
   . unfold uX
     rw[dI m0,Rn,Rn,dI (by lia)]
   have ok:=vd pg n40 i.toNat lK
   rw[(xJ b.1).1,← List.map_set,← List.map_set]
   show hz _ z0 z1 z2 (bs.set i.toNat (b.1,0)) ins nds _ zn.PN ok.1 ok.2
 intro o9 z0 z1 z2 AZ oO nds3 H8 zn ff no
 show kR _ _ (aq fun Rk kR=>?_)
 suffices hy:∀(z2:Addr) (nds3:List Np) (H9:Hp),Zn H9 Z z0 z1 z2 (AZ.map fB) (oO.map fI) (nds3.map fN)->cE AZ oO nds3->¬ dX AZ oO nds3->Rk [some (.ref a),some (.ref p),some (.ref R),some (.int c),some (.int (vb.length:Int)),some (.int ((vb.length:Int)+((ins.map V.str).length:Int))),some (.ref Z),some (.int w),some (.str row),o9,none,none,none] H9 by
   show⟨_,U,c,913,U,by left,by left,fun j y y=>⟨_,_,U,U,(by change(0:Int)<5;decide),U,_,U,aG (fun y=>?_) (fun y=>hy z2 nds3 _ zn ff no)⟩⟩
   show⟨YI,fun l hl=>?_⟩
   show⟨_,U,Z,_,2,2,U,U,(af hl _) _ _ zn.hZ,U,?_⟩
   show hy l [] _ (zn.put2 (af hl _) hl (X:=[]) ae) ff.none.1 ff.none.2
 intro z2 nds3 H9 zn ff no
 show kR _ _ (aq fun Rk kR=>?_)
 have fb:=ff.lb
 have fi:=ff.li
 have fn:=ff.ln
 show⟨_,U,?_⟩
 show cH zn.hZ zn.iG.1 ?_
 show⟨_,U,?_⟩
 show cH zn.hZ zn.iG.2.1 ?_
 show⟨z0,z1,_,_,U,U,zn.h0,zn.h1,Ry (show _<=1000 by rw[Rn,Rn,Rn,Rn];lia) (by left),fun l1 iK=>?_⟩
 obtain⟨HA,sl1,Kg,zz⟩:=aZ iK (.lst ((AZ.map fB).map V.str++(oO.map fI).map V.str))
 rw[zz];clear zz
 show⟨_,U,?_⟩
 show cH (sl1 _ _ zn.hZ) zn.iG.2.2 ?_
 show⟨l1,z2,_,_,U,U,Kg,sl1 _ _ zn.h2,Ry (show _<=1000 by rw[Rx,Rn,Rn,Rn,Rn,Rn,Rn];lia) (by left),fun T0 QX=>?_⟩
 have Kd:(upd HA T0 (.lst ((AZ.map fB).map V.str++(oO.map fI).map V.str++(nds3.map fN).map V.str))) T0=some (.lst ((textOf AZ oO nds3).map V.str)):=by rw[ae,sE,SK]
 generalize upd HA T0 (.lst ((AZ.map fB).map V.str++(oO.map fI).map V.str++(nds3.map fN).map V.str))=HB at Kd ⊢
 show ak (kR _ _ ?_)
 show aw [some (.ref a),some (.ref p),some (.ref R),some (.int c),some (.int (vb.length:Int)),some (.int ((vb.length:Int)+((ins.map V.str).length:Int))),some (.ref Z),some (.int w),some (.str row),o9,some (.ref T0),none,none] U ?_
 show aq fun Rk kR=>?_
 suffices hx:∀(T0:Addr) (bs4:aB) (ins4:List Str) (nds4:List Np) (HC:Hp),HC T0=some (.lst ((textOf bs4 ins4 nds4).map V.str))->cE bs4 ins4 nds4->¬ dX bs4 ins4 nds4->textOf bs4 ins4 nds4≠[]->Rk [some (.ref a),some (.ref p),some (.ref R),some (.int c),some (.int (vb.length:Int)),some (.int ((vb.length:Int)+((ins.map V.str).length:Int))),some (.ref Z),some (.int w),some (.str row),o9,some (.ref T0),none,none] HC by
   show⟨_,U,YI,fun z hz=>?_⟩
   obtain⟨HC,sz,gz,zz⟩:=aZ hz (.lst [])
   rw[zz];clear zz
   show⟨_,RB.nil (aH.of (sz _ _ Kd)) (aH.of gz),_,U,aG (fun cc=>?_) (fun cc=>?_)⟩
   . show⟨YJ,fun T1 QY=>?_⟩
     show ak ?_
     have f1:cE [(("q":Str),(1:Int))] [] []:=⟨all1 ⟨dD "q" (by left),qg (n:=1)⟩,(fun y z=>nomatch z),(fun y z=>nomatch z),(fun y z=>nomatch z),(by left),(by left),(by left)⟩
     have e1:textOf [(("q":Str),(1:Int))] [] []=(["box q 1"]:List Str):=by right
     show hx T1 [("q",1)] [] [] _ (by rw[ae,e1];rfl) f1 f1.none.2 (by rw[e1];show fun z=>nomatch z)
   . show hx T0 AZ oO nds3 _ (sz _ _ Kd) ff no (fun z=>cc (by rw[z];rfl))
 intro T0 bs4 ins4 nds4 HC gT ff no ne
 show kR _ _ (aq fun Rk kR=>?_)
 show⟨U,_,U,"\n",T0,textOf bs4 ins4 nds4,U,U,aH.of gT,(Bx ff no ne).1,?_⟩
 obtain⟨pre,Lu,r1,r2,r3,r4,r5,r6,r7⟩:=(Bx ff no ne).2.ex
 show⟨_,pre,Lu,4,U,r1,r2,r3,r4,r5,r6,r7,fun fl HD sD Ke=>?_⟩
 show⟨12,U,by left,by left,fun D hD=>?_⟩
 show hV (lo:=0) (n:=12) (fun(i:Nat) Hx=>ai HD Hx/\Hx D=some (.lst (((flags 4).take i).map V.bl))) ⟨af hD _,ae⟩ (fun i Hx eE z=>?_) (fun Hx z=>?_)
 . obtain⟨sx,gD⟩:=z
   show ak ?_
   show de (A:=fun H5=>dJ _ D _ H5 _) ?_
   show⟨_,U,U,_,gD,aW (by rw[Rn,R8];lia),bq (Pv:=fun(i:Nat) Hx=>ai HD Hx/\Hx D=some (.lst (((flags 4).take i).map V.bl))) (by repeat' constructor) eE ⟨bo sx hD,?_⟩⟩
   rw[ae,oE 4 4 rfl i eE,RW,Int.zero_add]
   rfl
 obtain⟨sx,gD⟩:=z
 have gD:Hx D=some (.lst ((flags 4).map V.bl)):=gD
 show⟨_,RB.LY (sx _ _ Ke) gD,_,U,bc (by rw[hW rfl];rfl) ?_⟩
 replace gT:=sx _ _ (sD _ _ gT)
 show kR _ _ (aq fun Rk kR=>?_)
 show⟨YM,fun l0 CF=>?_⟩
 obtain⟨HE,Qt,Kf,zz⟩:=aZ CF (.lst [V.str "say q",V.str "",V.str "end 0",V.str "test q 0 0"])
 rw[zz];clear zz
 show⟨_,U,c,914,U,by left,by left,fun j y y=>⟨_,_,U,U,(by change(0:Int)<4;decide),?_⟩⟩
 obtain⟨x,_,eF,dg⟩:=bU V.str dY (r:=j%4) (aP (by left)) (aQ (by left))
 show cH Kf dg ?_
 show ak (kR _ _ ?_)
 show aw [some (.ref a),some (.ref p),some (.ref R),some (.int c),some (.int (vb.length:Int)),some (.int ((vb.length:Int)+((ins.map V.str).length:Int))),some (.ref Z),some (.int w),some (.str row),o9,some (.ref T0),some (.str x),none] U ?_
 replace gT:=Qt _ _ gT
 have tl:=ff.AM
 show aq fun Rk kR=>?_
 show⟨_,U,YJ,fun a1 F9=>?_⟩
 obtain⟨HG,sa1,Oo,zz⟩:=aZ F9 (.lst [.str x])
 rw[zz];clear zz
 show⟨_,U,a1,T0,_,_,U,U,Oo,sa1 _ _ gT,Ry (show _<=1000 by rw[Rn];change 1+_<=1000;lia) (by left),fun m1 hm1=>?_⟩
 obtain⟨HI,sm1,Ki,zz⟩:=aZ hm1 (.lst ([V.str x]++(textOf bs4 ins4 nds4).map V.str))
 rw[zz];clear zz
 show⟨_,U,_,U,YJ,fun a2 Ga=>?_⟩
 obtain⟨HJ,sa2,Oq,zz⟩:=aZ Ga (.lst [.str x])
 rw[zz];clear zz
 show⟨T0,a2,_,_,U,U,sa2 _ _ (sm1 _ _ (sa1 _ _ gT)),Oq,Ry (show _<=1000 by rw[Rn];change _+1<=1000;lia) (by left),fun m2 hm2=>?_⟩
 obtain⟨HK,sm2,Kj,zz⟩:=aZ hm2 (.lst ((textOf bs4 ins4 nds4).map V.str++[V.str x]))
 rw[zz];clear zz
 show⟨YK,fun Lm OH=>?_⟩
 obtain⟨HF,Nb,Oj,zz⟩:=aZ OH (.lst [.ref m1,.ref m2])
 rw[zz];clear zz
 have g1:HF Lm=some (.lst [.ref m1,.ref m2]):=Oj
 have g2:HF m1=some (.lst ((x::textOf bs4 ins4 nds4).map V.str)):=Nb _ _ (sm2 _ _ (sa2 _ _ Ki))
 have g3:HF m2=some (.lst ((textOf bs4 ins4 nds4++[x]).map V.str)):=by
   rw[RW]
   show Nb _ _ Kj
 show⟨Lm,U,⟨_,aH.of g1⟩,?_⟩
 show dG (xs:=[.ref m1,.ref m2]) (fun i σ Hx=>(∃K8,σ=[some (.ref a),some (.ref p),some (.ref R),some (.int c),some (.int (vb.length:Int)),some (.int ((vb.length:Int)+((ins.map V.str).length:Int))),some (.ref Z),some (.int w),some (.str row),o9,some (.ref T0),some (.str x),K8])/\ai HF Hx) ⟨⟨_,U⟩,fun y y z=>z⟩ (fun i σ Hx y z=>aH.of (z.2 _ _ g1)) (fun i x0 σ Hy hx0 z=>?_) (fun σ Hy z=>?_)
 rotate_left
 . obtain⟨⟨K8,rfl⟩,_⟩:=z
   show kR _ _ ?_
   show q _
 obtain⟨⟨K8,rfl⟩,sy⟩:=z
 obtain⟨m,ts,rfl,gm,jo,sp⟩ : ∃(m:Addr) (ts:List Str),x0=.ref m/\Hy m=some (.lst (ts.map V.str))/\JoinOk "\n" ts=true/\yJ (RM "\n" ts) 3:=by
   match i,hx0 with
   | 0,hx0=>
     cases hx0
     show⟨m1,_,U,sy _ _ g2,(By ff ne eF).1,(By ff ne eF).2⟩
   | 1,hx0=>
     cases hx0
     show⟨m2,_,U,sy _ _ g3,(Bz ff ne eF).1,(Bz ff ne eF).2⟩
   | i+2,hx0=>show au hx0 (by simp)
 show ak ?_
 show aw [some (.ref a),some (.ref p),some (.ref R),some (.int c),some (.int (vb.length:Int)),some (.int ((vb.length:Int)+((ins.map V.str).length:Int))),some (.ref Z),some (.int w),some (.str row),o9,some (.ref T0),some (.str x),some (.ref m)] U ?_
 show⟨U,_,U,"\n",m,ts,U,U,aH.of gm,jo,?_⟩
 obtain⟨pre,Lu,r1,r2,r3,r4,r5,r6,r7⟩:=sp.ex
 show⟨_,pre,Lu,3,U,r1,r2,r3,r4,r5,r6,r7,fun fl HD sD Ke=>?_⟩
 show⟨12,U,by left,by left,fun D hD=>?_⟩
 show hV (lo:=0) (n:=12) (fun(i:Nat) Hx=>ai HD Hx/\Hx D=some (.lst (((flags 3).take i).map V.bl))) ⟨af hD _,ae⟩ (fun i Hx eE z=>?_) (fun Hx z=>?_)
 . obtain⟨sx,gD⟩:=z
   show ak ?_
   show de (A:=fun H5=>dJ _ D _ H5 _) ?_
   show⟨_,U,U,_,gD,aW (by rw[Rn,R8];lia),bq (Pv:=fun(i:Nat) Hx=>ai HD Hx/\Hx D=some (.lst (((flags 3).take i).map V.bl))) (by repeat' constructor) eE ⟨bo sx hD,?_⟩⟩
   rw[ae,oE 3 3 rfl i eE,RW,Int.zero_add]
   rfl
 obtain⟨sx,gD⟩:=z
 have gD:Hx D=some (.lst ((flags 3).map V.bl)):=gD
 show⟨_,RB.LY (sx _ _ Ke) gD,_,U,bc (by rw[hW rfl];rfl) ?_⟩
 show⟨⟨_,U⟩,aa sy (aa sD sx)⟩
end
end TW
namespace TW
open PySem L2
def vF {ts:List Addr}:((bZ.map (·.1)).zip (ts.map V.ref)).lookup ("":Str)=none:=by
 rw[List.lookup_eq_none_iff]
 intro p hp
 have h1:=(UR (a:=p.1) (b:=p.2) hp).1
 have key:∀x∈bZ.map (·.1),(("":Str)==x)=false:=by right
 have:=key p.1 h1
 simpa using this
def oV {x:Str}{st:Stmt}{ps:List Str}{k:Nat}{sp:Sp}{P:Program}{w:World}{K:Ro}{mg:Str->Option Value}{base:Heap}(s:Src K mg x st)(h:∀{f fd},cD K x x st f fd->aY P w K mg base dq k f fd ps sp)(b:∀{f fd},cD K x x st f fd->Binds K fd ps []:=by intro f fd F;first|show lH F fun z z z z z z z z=>rfl|show lG F fun z z z z z z z=>rfl|show Ci F fun z z z z z z z z z=>rfl|show Cj F fun z z z z z z z z z z=>rfl):b7 P w K mg base x ps k sp:=let⟨f,fd,F,m⟩:=s;⟨f,fd,h F,F.kp,b F,m⟩
def Cd {P:Program}{w:World}{K:Ro}{mg:Str->Option Value}{fa:Addr}(hfa:mg "law"=some (.ref fa))(t:FG w K mg) :
   ∃fd:RZ,(∀(s:Shared) (u:Value),BindsTo s fd ⟨[u],[]⟩ [("script",u)])/\∀base:Heap,K.In base->base.Ns SD mg->aY P w K mg base dq 65 fa fd ["script"] (rZ K):=by
 obtain⟨f,fd,F,m⟩:=t.s_law
 have e:=hfa.symm.trans m
 cases e
 show⟨fd,fun s u=>?_,fun base z z=>?_⟩
 . obtain⟨oc,od,kV,doc,pm,an,cdv,ct,osl,rfl,lk,hcd⟩:=F.ex
   show .of_eq rfl
 obtain⟨T,aV,aI,aL,aM,aj,aE,aU,aD,aT,aK,aJ,R⟩:=t.cl
 obtain⟨Cb,hSS,dSS⟩:=t.c_SIGN_SUMS
 obtain⟨uV,hST,dST⟩:=t.c_SIGN_TESTS
 obtain⟨aR,hR,dR⟩:=t.c_RANKS
 obtain⟨aF,ts,hF,dF0,pF⟩:=t.c_FORMS
 have dF:fV w K aF:=fV.of dF0 pF
 have CE:b7 P w K mg base "_law_cell_at" ["script","k"] 1 (n5 K):=oV t.s_law_cell_at fun F=>zJ F t.m_len
 have ST:b7 P w K mg base "_law_stir" ["cell","k"] 1 cm:=oV t.s_law_stir fun F=>zS F
 have NU:=oV (P:=P) (w:=w) (base:=base) t.s_law_number fun F=>De F ST
 have SM:=zg t.s_law_sum t.m_len ST NU
 have CO:=vK t.s_law_condition ST (SM 3)
 have GS:=oV (P:=P) (w:=w) (base:=base) t.s_law_grown_sum fun F=>G5 F t.m_len t.m_range ST
 have GC:=oV (P:=P) (w:=w) (base:=base) t.s_law_grown_condition fun F=>G4 F t.m_range ST
 have LW:∀n,b7 P w K mg base "_law_word" ["thing"] (n+1) (ph n):=Cz t.s_law_word t.m_str t.m_int
 have AS:=oV (P:=P) (w:=w) (base:=base) t.s_law_any_sum fun F=>G3 F (SM 4) GS
 have AC:=oV (P:=P) (w:=w) (base:=base) t.s_law_any_condition fun F=>G2 F (SM 4) GS (CO 4) GC
 have NO:=oV (P:=P) (w:=w) (base:=base) t.s_law_node fun F=>zL F t.m_len t.m_str ST AS AC (LW 30)
 have NS:=oV (P:=P) (w:=w) (base:=base) t.s_law_names fun F=>wW F t.m_len t.m_range ST
 have PR:=oV (P:=P) (w:=w) (base:=base) t.s_law_program fun F=>zM F t.m_len t.m_range t.m_list t.m_str t.m_sum t.m_enumerate (CE.mono (by left)) (NS.mono (by left)) (ST.mono (by left)) NO
 obtain⟨C,cR,iR,P7,P9,P4,P8,P6,P5⟩:=t.k_Reader
 have R5:=cR.rd
 have JE:oi P w K mg base "Reader" C ["self","word"] 1 (i3 C):=pV cR iR
 have SI:bN P w K mg base C "sign" ["self"] 1 (bW C):=tO P7 R5
 have TA:=pS P9 R5 SI
 have DU:=vL P4 R5 TA
 have LV:=vN P8 R5 SI
 have LR:=vM P6 R5 t.m_len t.m_int t.c_FIGURES t.c_MOST_FIGURES LV
 have LQ:=tM P5 R5 t.m_len t.c_LETTERS t.c_MOST_LETTERS LV
 have NF:=oV (P:=P) (w:=w) (base:=base) t.s_read_atom fun F=>wX F R5 t.c_FIGURES SI LR LQ
 have LS:=oV (P:=P) (w:=w) (base:=base) t.s_read_sum fun F=>zQ F R5 t.m_len hSS dSS SI TA DU NF
 have NH:=pT t.s_read_test R5 hST dST R.x_NoRow SI LS
 have JD:=pQ t.s_read_condition R5 t.m_len SI DU NH
 have NI:=pU t.s_read_word R5 t.m_len R.x_NoRow JE LR LQ LS JD
 have NG:=tN t.s_read_row t.m_len t.m_zip t.m_tuple hF dF ⟨_,dF0,vF⟩ R.x_NoRow NI
 have AK:b7 P w K mg base "all_known" ["known","told"] 21 (cC 20):=pP t.s_all_known t.c_NAMELESS t.c_PARTED 20
 have RU:=oI t.s_refuse_unknown R.x_NoProgram AK
 have LE:b7 P w K mg base "leads_of" ["node"] 1 jV:=oV t.s_leads_of fun F=>wV F
 have TB:b7 P w K mg base "told_by" ["node"] 1 i7:=oV t.s_told_by fun F=>uq F
 have RX:=tP (P:=P) (w:=w) (base:=base) t.s_refuse_boxes R.x_NoProgram t.m_len t.m_set
 have RI:=tQ (P:=P) (w:=w) (base:=base) t.s_refuse_inputs R.x_NoProgram t.m_len t.m_set
 have RN:=tS t.s_refuse_nodes R.x_NoProgram t.m_len (LE.mono (by left)) (TB.mono (by left)) (RU.mono (by left))
 have PO:=oH t.s_program_of t.m_list (RX.mono (by left)) (RI.mono (by left)) (RN.mono (by left))
 have PP:=oG t.s_picked_program PO
 have RP:=pR t.s_read_program hR dR t.c_NODE_RANK R.x_NoRow NG PP
 have RF:=oV (P:=P) (w:=w) (base:=base) t.s_law_refused fun F=>zR F R t.m_isinstance t.m_ValueError RP
 have WR:=oV (P:=P) (w:=w) (base:=base) t.s_law_wrong fun F=>Dh F t.m_len t.m_str ST
 have PU:=oV (P:=P) (w:=w) (base:=base) t.s_law_put_in fun F=>Df F t.m_len ST
 show Dd F t.m_len t.m_range (CE.mono (by left)) (ST.mono (by left)) (PR.mono (by left)) (WR.mono (by left)) (PU.mono (by left)) (RF.mono (by left))
end TW
namespace TW
open PySem L2
def walk {l:PySem.W.OpenLaw}{q:Program}{loose:List Str}{XP:(Str->Option Value)->Heap->Prop}{YP:World->Heap->Prop}{d:DefRec}{K:Params->Ro}(hn:l.most=some 63)(hdf:d.params.defaults=[])
   (hY:∀(w:World) (h:Heap),YP w h->(K w.params).In h)
   (F:∀(w:World) (mg:Str->Option Value) (fa:Addr) (h:Heap),(K w.params).In h->h.Ns SD mg->mg d.name=some (.ref fa) ->
     ∃fd:RZ,(∀(s:Shared) (u:Value),BindsTo s fd ⟨[u],[]⟩ [("script",u)])/\∀base:Heap,(K w.params).In base->base.Ns SD mg->aY l.prog w (K w.params) mg base dq 65 fa fd ["script"] (rZ (K w.params))) :
   PySem.W.WalkO q loose XP YP l.row.toRowW d [] (fun f vs=>PySem.call f vs):=
 L2.AQ (n:=63) (k:=65) (x:="script") (CX:=fun y=>dq) (sp:=fun w=>rZ (K w.params)) hn (by left) hdf ⟨rfl,by left,by left⟩ hY F (fun y y a ns hl y hS=>⟨a,ns,rfl,hS,hl,fun y=>rfl⟩) fun y y y y y z=>z
end TW
namespace PySem.W.Fast
def tw10058315673205378923:=0
def tw10058425504349448443:=0
def tw10099668013336052068:=0
def tw10126040738276722252:=0
def tw10167379579683628960:=0
def tw10169607078447614474:=0
def tw10180189762686791030:=0
def tw10190658376070890478:=0
def tw10224413315833059358:=0
def tw10252430739505534201:=0
def tw10258461438411031387:=0
def tw10270065989098406461:=0
def tw10279678729182521288:=0
def tw10280893202556216642:=0
def tw10390359785065445662:=0
def tw10424390864558749176:=0
def tw10456274227320107950:=0
def tw10546976016260081221:=0
def tw10560339735910447421:=0
def tw10638507077428319438:=0
def tw10643491860118860356:=0
def tw10774708202950135331:=0
def tw10880313489750187986:=0
def tw10885906874349212042:=0
def tw10930827607797286371:=0
def tw10973720724771317771:=0
def tw11000338890757696130:=0
def tw11053866467742153576:=0
def tw11078092635532646097:=0
def tw11108491304754112139:=0
def tw11203918459232754158:=0
def tw11271346347696482633:=0
def tw11303914052792318909:=0
def tw11317437389966275730:=0
def tw11364337809642134448:=0
def tw11371699963769161313:=0
def tw11411680187840507935:=0
def tw11512961993199362117:=0
def tw11522746884075853256:=0
def tw11613256509649821586:=0
def tw11621040211984279985:=0
def tw11679488804621937932:=0
def tw11790145704018243537:=0
def tw11798311217491991027:=0
def tw11805533241676814499:=0
def tw11886561742229178414:=0
def tw1190183032635118016:=0
def tw11933511321420971210:=0
def tw11988399204160731484:=0
def tw12022291340484643427:=0
def tw12024670958858612905:=0
def tw12030011834153654135:=0
def tw12035804537491725143:=0
def tw12171330588861857358:=0
def tw12205255063461457199:=0
def tw12214859039399495625:=0
def tw12217686697022938727:=0
def tw12219564598167816976:=0
def tw12225068496096101496:=0
def tw12226316479988447241:=0
def tw12241623976085152084:=0
def tw12521414384619316796:=0
def tw12553849044096835886:=0
def tw12560888739884246249:=0
def tw12571874635516482104:=0
def tw12650656557364292936:=0
def tw12724512721955171172:=0
def tw12732350414372396022:=0
def tw12772871092189510345:=0
def tw1280919591471941498:=0
def tw12814658024015614274:=0
def tw12829026713971421054:=0
def tw12855179383434101376:=0
def tw12855248996097054380:=0
def tw12906752515068088503:=0
def tw12925518736590149331:=0
def tw12958371851956608172:=0
def tw12959661629527926589:=0
def tw12971173281972376546:=0
def tw12974133242872091962:=0
def tw13025104491424454556:=0
def tw13050957790504600893:=0
def tw13059781772046338333:=0
def tw13065220652977659374:=0
def tw1307007125480459981:=0
def tw13109334357482169065:=0
def tw13115940269520343727:=0
def tw13185426783351414865:=0
def tw13188383233809570439:=0
def tw13195160926476480021:=0
def tw13198286180876026658:=0
def tw13201858306915300593:=0
def tw13251738858576356125:=0
def tw13284422568807119992:=0
def tw13295831216170549296:=0
def tw13391592944920274384:=0
def tw13413927435598028479:=0
def tw13430405569354652755:=0
def tw13461812455985941174:=0
def tw13472919961363625260:=0
def tw13507732184358812335:=0
def tw13542633691964583974:=0
def tw13550122452091494883:=0
def tw13558352608327560943:=0
def tw13567328325490583212:=0
def tw13589725121044308273:=0
def tw13605625270571918979:=0
def tw13621251556089292572:=0
def tw13670103592544497260:=0
def tw13800843984467357157:=0
def tw13815187434389909779:=0
def tw13853244719270801971:=0
def tw1389376979456190366:=0
def tw13927924164798575014:=0
def tw13962404419233960585:=0
def tw14014798927754964832:=0
def tw14072419209613633948:=0
def tw14076023504440550920:=0
def tw14115308984692809727:=0
def tw14284560814682107761:=0
def tw14297337693012748843:=0
def tw14304868568707655580:=0
def tw14325005504245311868:=0
def tw14411611546966620765:=0
def tw14463088267709629143:=0
def tw14534232896185705914:=0
def tw1455174100859214033:=0
def tw14663188443072203857:=0
def tw14730865920469752410:=0
def tw14738335940357008796:=0
def tw14751651412680882531:=0
def tw14758091920894903561:=0
def tw14768471573002902047:=0
def tw14801434444439533938:=0
def tw14853558879040376633:=0
def tw14858698552305162370:=0
def tw14860037155858361158:=0
def tw14910131532761181218:=0
def tw14964032814032467864:=0
def tw1497188189881427329:=0
def tw1499592927401878049:=0
def tw15018455167143188156:=0
def tw15030434978609217050:=0
def tw15083324685843759567:=0
def tw15196738735448789291:=0
def tw15289298141928714878:=0
def tw15312488975931879065:=0
def tw15352356368034922838:=0
def tw15362518914388304237:=0
def tw15384212024714216130:=0
def tw1539533598467199951:=0
def tw1539580596903701105:=0
def tw15420450903943639833:=0
def tw15424049548326693078:=0
def tw15474731158391700227:=0
def tw15504506371914938136:=0
def tw15536626031607227615:=0
def tw15583640344121351762:=0
def tw15622909683504161893:=0
def tw15639868153737188601:=0
def tw15659800338573241:=0
def tw15662688197219841937:=0
def tw15702152963854425427:=0
def tw15707664577804269929:=0
def tw15738014704899549372:=0
def tw15747432912573127767:=0
def tw15875862391693545155:=0
def tw1591668027720127986:=0
def tw15923423687522542116:=0
def tw15923739320108943364:=0
def tw15981718982308012778:=0
def tw16006062590172412881:=0
def tw16030763091839831002:=0
def tw16040849997551268543:=0
def tw16070575145943915446:=0
def tw16139189784298113023:=0
def tw16146173984139908453:=0
def tw16147710332715490232:=0
def tw16268571162700795449:=0
def tw16334132401615456449:=0
def tw16343759733058451515:=0
def tw1635936937265147935:=0
def tw16374037015450336724:=0
def tw16398012977879614131:=0
def tw16416718558420980284:=0
def tw16420378274138920003:=0
def tw16454437962572863386:=0
def tw16572853341496610531:=0
def tw16581280996648860706:=0
def tw16603884785413895676:=0
def tw16616494034227598553:=0
def tw16710288965568636214:=0
def tw16723884633437113952:=0
def tw16739618018357230039:=0
def tw16754894218029917366:=0
def tw16841745059330572844:=0
def tw16920876557783301202:=0
def tw1692137331476015445:=0
def tw16922657769026073612:=0
def tw16934998765504523506:=0
def tw16955857152345208868:=0
def tw17012603116687889170:=0
def tw17037009610373588981:=0
def tw17061112504390530727:=0
def tw17071953581173321337:=0
def tw17087765227570194418:=0
def tw17200657052456353892:=0
def tw17273051645437650879:=0
def tw17328301494446102881:=0
def tw1733729442802719000:=0
def tw17461420836924350003:=0
def tw17558704902144650487:=0
def tw17578459905522309259:=0
def tw17606299276549109740:=0
def tw17610208323622788928:=0
def tw17623534786322293814:=0
def tw17626270697282815442:=0
def tw17681672723933292774:=0
def tw17729983450155234448:=0
def tw17741610516802252582:=0
def tw17825532576157378260:=0
def tw17854670777011669111:=0
def tw17856362087817566058:=0
def tw17881841455556262745:=0
def tw17892593651629863016:=0
def tw17892949517496630759:=0
def tw17936105745437994503:=0
def tw17938716463974909273:=0
def tw17939679058541332292:=0
def tw1796860868449158097:=0
def tw18056811552343771017:=0
def tw18075825203664605389:=0
def tw18084409022578679910:=0
def tw18093453562178368868:=0
def tw18117043450983882878:=0
def tw18152909130489118781:=0
def tw18173475624304959613:=0
def tw18217712499974178141:=0
def tw18234844702374534710:=0
def tw18247915644538975187:=0
def tw18332989045169424798:=0
def tw18343348723343469853:=0
def tw18371961978956828783:=0
def tw18382392351631643356:=0
def tw1855457691546223269:=0
def tw1999548495451627601:=0
def tw2066792093668389746:=0
def tw209318984881948417:=0
def tw2162060750284523643:=0
def tw21793638618687956:=0
def tw2238199710067747458:=0
def tw2280725703155008306:=0
def tw2436514467267483678:=0
def tw2647372111147583536:=0
def tw265170086992137904:=0
def tw2677282968558129432:=0
def tw2696339426544107671:=0
def tw2736706210633840827:=0
def tw2771435314829289802:=0
def tw2817238431437240257:=0
def tw283352149664782353:=0
def tw2864708748029334050:=0
def tw2907612056557853447:=0
def tw2955958784666941692:=0
def tw2960824819623542509:=0
def tw2960936373522448205:=0
def tw2982405400170911414:=0
def tw3011535597764496072:=0
def tw3054867677715355886:=0
def tw3073571839325869208:=0
def tw312869728493242061:=0
def tw3138281807513658649:=0
def tw3138902743919880767:=0
def tw3153334259151502622:=0
def tw3205568377894014032:=0
def tw3215200938642119076:=0
def tw3222011879992462549:=0
def tw3234462376608470368:=0
def tw326746213265202538:=0
def tw3301326017786871089:=0
def tw3309178060072360303:=0
def tw3328543729774877308:=0
def tw3333389057487798977:=0
def tw3350829340738250999:=0
def tw3369734773328151171:=0
def tw339738509456703920:=0
def tw3490561128197043767:=0
def tw3492323994853025079:=0
def tw3495173113275400346:=0
def tw3605258368380531311:=0
def tw3669981887639252120:=0
def tw3671531322385134525:=0
def tw3738374276094194124:=0
def tw3805928592216920092:=0
def tw3819924972452954542:=0
def tw3820895054709843152:=0
def tw386662250869550633:=0
def tw3956055875637339961:=0
def tw3958551109262300917:=0
def tw3959741636002624462:=0
def tw404935360530626058:=0
def tw4066317607545313414:=0
def tw4080924896186909865:=0
def tw4107745546727230457:=0
def tw4177767871726208193:=0
def tw42316256332212812:=0
def tw4260055466038237896:=0
def tw4335398583393665585:=0
def tw4360143487862977056:=0
def tw4367211350122475047:=0
def tw4408394621240076593:=0
def tw4410325651317767284:=0
def tw4474566933329267971:=0
def tw4588054263517928722:=0
def tw4631277752847313887:=0
def tw4697058915763805931:=0
def tw4760250626858778674:=0
def tw478689450077770639:=0
def tw4816618258302014720:=0
def tw4843726444490325943:=0
def tw4863457666639457619:=0
def tw486887556028874074:=0
def tw4916975398114417412:=0
def tw4967883293858630471:=0
def tw503748357396005238:=0
def tw5085362974618063237:=0
def tw5139785244248855008:=0
def tw5150067141597800826:=0
def tw5152170912907991671:=0
def tw5198958855709881010:=0
def tw5237055759443586575:=0
def tw5242585765078370264:=0
def tw5263809313611222492:=0
def tw5269945610817351744:=0
def tw5371054231069403124:=0
def tw5385865141985289787:=0
def tw5399983366105008416:=0
def tw5437200815487495111:=0
def tw5494604293653407340:=0
def tw5505813367960828604:=0
def tw5682326172061092894:=0
def tw5699607376423287874:=0
def tw5727626805918529573:=0
def tw5737738847158152015:=0
def tw5753881234109884777:=0
def tw5818013027615032821:=0
def tw5849054094011806622:=0
def tw5851143466265000783:=0
def tw5878169562147798558:=0
def tw5891007254677512661:=0
def tw5913009642661829674:=0
def tw5922747387358268257:=0
def tw6007771244927551138:=0
def tw6050764137236637232:=0
def tw6056699170575354691:=0
def tw6068924236570720326:=0
def tw6077982885772938216:=0
def tw6085622027577696176:=0
def tw6100477204543079476:=0
def tw6100965059419948029:=0
def tw612616652894840869:=0
def tw6176789394597106861:=0
def tw6292457136913258110:=0
def tw6325891552859330517:=0
def tw6412396235558189324:=0
def tw6435404426608264756:=0
def tw644587990425793607:=0
def tw6452658806021261451:=0
def tw6463151407979995068:=0
def tw6464211408978932087:=0
def tw6481513514042836028:=0
def tw6598558252406161743:=0
def tw6623254159569190490:=0
def tw663396314116384893:=0
def tw6673472712235408828:=0
def tw6778789718009116890:=0
def tw68884814688588800:=0
def tw6892344381704422455:=0
def tw6907831748324433326:=0
def tw6922879066279344932:=0
def tw6960308639808357463:=0
def tw6971565498558574525:=0
def tw7094379822929361024:=0
def tw7175128766399467591:=0
def tw7207571379782773104:=0
def tw7232298345372651741:=0
def tw7234932652422726316:=0
def tw724263568954470817:=0
def tw7276032848230883511:=0
def tw728542806160947758:=0
def tw7309592329822717512:=0
def tw7457782161119763372:=0
def tw7546677026531781919:=0
def tw7566631512267274257:=0
def tw7591594832488716123:=0
def tw7622296731017243061:=0
def tw7645796894986954680:=0
def tw7710400959342709867:=0
def tw7749039205401458135:=0
def tw7808956788802233151:=0
def tw7814843383554847416:=0
def tw7877313647480650585:=0
def tw7929674599182137121:=0
def tw7976452281103873106:=0
def tw800245043599037353:=0
def tw8004229446476524047:=0
def tw8082654425432415271:=0
def tw8083293702176913044:=0
def tw8148523330679297303:=0
def tw8173970200310976662:=0
def tw8233971713229563820:=0
def tw8272904942404643171:=0
def tw8284871018949125260:=0
def tw8330108601183221799:=0
def tw8444572785386892330:=0
def tw8451413730171356989:=0
def tw847467911959741175:=0
def tw8581038476807956192:=0
def tw8591611324418713697:=0
def tw8604503605193559154:=0
def tw8615175303504173563:=0
def tw8628027103153919125:=0
def tw8654951958574427513:=0
def tw8658516612989557881:=0
def tw8703899588833340070:=0
def tw873049141822628040:=0
def tw8750380655156889280:=0
def tw88944556546054719:=0
def tw8914504388434618896:=0
def tw894787287973331639:=0
def tw8950449674599005784:=0
def tw9038942647221089611:=0
def tw9051715707932240167:=0
def tw9103269440939531867:=0
def tw912937587665485117:=0
def tw9138829914125993985:=0
def tw9154580384318628132:=0
def tw9218260237986777356:=0
def tw9224944937578383985:=0
def tw9265735272242842825:=0
def tw9295437799676848065:=0
def tw9310113877525196089:=0
def tw931965946140597197:=0
def tw9351002621857610216:=0
def tw9394522812730378367:=0
def tw9422342144662692179:=0
def tw9428275624701195720:=0
def tw9548443183533701812:=0
def tw9589148490341137395:=0
def tw9591217164476653526:=0
def tw9616387831725034179:=0
def tw9638628050081771369:=0
def tw9690501337801596872:=0
def tw970485538833343141:=0
def tw9740905466826400027:=0
def tw9941422262809747559:=0
end PySem.W.Fast
open PySem PySem.W PyProof.Rows
set_option maxRecDepth 100000 in
set_option maxHeartbeats 0 in
theorem PySem.Challenge.cw_twinwalk_k73_rows_of_no_program_holds : PySem.Challenge.rw_twinwalk_k73_rows_of_no_program.Holds := by
 w_on;o_law;k_head;(case hw=>w_witness2)
 k_fill
 show TW.walk (l:=PySem.Challenge.rw_twinwalk_k73_rows_of_no_program) rfl rfl (fun w h Y8=>PySem.W.kIn_of Y8) ?F
 case F=>
   intro w mg fa h KX G hmg
   show TW.Cd hmg ?_
   refine' (⟨TW.bb KX G ?_ ?_ ?_ ?_,TW.bb KX G ?_ ?_ ?_ ?_,TW.bb KX G ?_ ?_ ?_ ?_,TW.bb KX G ?_ ?_ ?_ ?_,TW.bb KX G ?_ ?_ ?_ ?_,TW.bb KX G ?_ ?_ ?_ ?_,TW.bb KX G ?_ ?_ ?_ ?_,TW.bb KX G ?_ ?_ ?_ ?_,TW.bb KX G ?_ ?_ ?_ ?_,TW.bb KX G ?_ ?_ ?_ ?_,TW.bb KX G ?_ ?_ ?_ ?_,TW.bb KX G ?_ ?_ ?_ ?_,TW.bb KX G ?_ ?_ ?_ ?_,TW.bb KX G ?_ ?_ ?_ ?_,TW.bb KX G ?_ ?_ ?_ ?_,TW.bb KX G ?_ ?_ ?_ ?_,TW.bb KX G ?_ ?_ ?_ ?_,TW.bb KX G ?_ ?_ ?_ ?_,TW.bb KX G ?_ ?_ ?_ ?_,TW.bb KX G ?_ ?_ ?_ ?_,TW.bb KX G ?_ ?_ ?_ ?_,TW.bb KX G ?_ ?_ ?_ ?_,TW.bb KX G ?_ ?_ ?_ ?_,TW.bb KX G ?_ ?_ ?_ ?_,TW.bb KX G ?_ ?_ ?_ ?_,TW.bb KX G ?_ ?_ ?_ ?_,TW.bb KX G ?_ ?_ ?_ ?_,TW.bb KX G ?_ ?_ ?_ ?_,TW.bb KX G ?_ ?_ ?_ ?_,TW.bb KX G ?_ ?_ ?_ ?_,TW.bb KX G ?_ ?_ ?_ ?_,TW.bb KX G ?_ ?_ ?_ ?_,TW.bb KX G ?_ ?_ ?_ ?_,TW.sH KX G ?_ ?_ ?_ ?_ ?_,TW.sH KX G ?_ ?_ ?_ ?_ ?_,⟨_,Sx KX G ?_⟩,⟨_,Sx KX G ?_⟩,⟨_,Sx KX G ?_⟩,⟨_,Sx KX G ?_⟩,⟨_,Sx KX G ?_,TW.rE ?_ ?_ ?_ ?_⟩,⟨_,Sx KX G ?_,TW.rE ?_ ?_ ?_ ?_⟩,⟨_,[?_,?_,?_,?_,?_,?_,?_],Sx KX G ?_,TW.rE ?_ ?_ ?_ ?_,(.cons (TW.tw_mk ?_ ?_ ?_) (.cons (TW.tw_mk ?_ ?_ ?_) (.cons (TW.tw_mk ?_ ?_ ?_) (.cons (TW.tw_mk ?_ ?_ ?_) (.cons (TW.tw_mk ?_ ?_ ?_) (.cons (TW.tw_mk ?_ ?_ ?_) (.cons (TW.tw_mk ?_ ?_ ?_) .nil)))))))⟩,⟨_,Sx KX G ?_,TW.rE ?_ ?_ ?_ ?_⟩,⟨_,Sx KX G ?_⟩,⟨_,⟨Sx KX G ?_,⟨?_,?_,?_,?_⟩,⟨?_,?_,trivial⟩⟩,⟨_,_,L2.fD ?_ ?_ ?_,⟨?_,?_,?_,?_⟩⟩,⟨_,_,L2.fD ?_ ?_ ?_,⟨?_,?_,?_⟩⟩,⟨_,_,L2.fD ?_ ?_ ?_,⟨?_,?_,?_⟩⟩,⟨_,_,L2.fD ?_ ?_ ?_,⟨?_,?_,?_⟩⟩,⟨_,_,L2.fD ?_ ?_ ?_,⟨?_,?_,?_⟩⟩,⟨_,_,L2.fD ?_ ?_ ?_,⟨?_,?_,?_⟩⟩,⟨_,_,L2.fD ?_ ?_ ?_,⟨?_,?_,?_⟩⟩⟩,⟨_,_,_,_,_,_,_,_,_,_,_,_,TW.fz KX G ?_ ?_ ?_ ?_,TW.fz KX G ?_ ?_ ?xl_NoPair ?_,TW.dP ?_ ?_ ?_ ?xhn ?xtk ?_ ?_ ?xl_NoPair,?_,?_,?_,?_,?_,?_,?_,?_,?_,?_,?_,?_,?_,TW.fz KX G ?_ ?_ ?xl_NoPaper ?_,TW.dP ?_ ?_ ?_ ?xhn ?xtk ?_ ?_ ?xl_NoPaper,?_,?_,?_,?_,?_,?_,?_,?_,?_,?_,?_,?_,?_,TW.fz KX G ?_ ?_ ?xl_TooMany ?_,TW.dP ?_ ?_ ?_ ?xhn ?xtk ?_ ?_ ?xl_TooMany,?_,?_,?_,?_,?_,?_,?_,?_,?_,?_,?_,?_,?_,TW.fz KX G ?_ ?_ ?xl_NoRow ?_,TW.dP ?_ ?_ ?_ ?xhn ?xtk ?_ ?_ ?xl_NoRow,?_,?_,?_,?_,?_,?_,?_,?_,?_,?_,?_,?_,?_,TW.fz KX G ?_ ?_ ?xl_NoProgram ?_,TW.dP ?_ ?_ ?_ ?xhn ?xtk ?_ ?_ ?xl_NoProgram,?_,?_,?_,?_,?_,?_,?_,?_,?_,?_,?_,?_,?_,TW.fz KX G ?_ ?_ ?xl_NoWorths ?_,TW.dP ?_ ?_ ?_ ?xhn ?xtk ?_ ?_ ?xl_NoWorths,?_,?_,?_,?_,?_,?_,?_,?_,?_,?_,?_,?_,?_,TW.fz KX G ?_ ?_ ?xl_NoNode ?_,TW.dP ?_ ?_ ?_ ?xhn ?xtk ?_ ?_ ?xl_NoNode,?_,?_,?_,?_,?_,?_,?_,?_,?_,?_,?_,?_,?_,TW.fz KX G ?_ ?_ ?xl_NoChange ?_,TW.dP ?_ ?_ ?_ ?xhn ?xtk ?_ ?_ ?xl_NoChange,?_,?_,?_,?_,?_,?_,?_,?_,?_,?_,?_,?_,?_,TW.fz KX G ?_ ?_ ?xl_NoForm ?_,TW.dP ?_ ?_ ?_ ?xhn ?xtk ?_ ?_ ?xl_NoForm,?_,?_,?_,?_,?_,?_,?_,?_,?_,?_,?_,?_,?_,TW.fz KX G ?_ ?_ ?xl_NoneYet ?_,TW.dP ?_ ?_ ?_ ?xhn ?xtk ?_ ?_ ?xl_NoneYet,?_,?_,?_,?_,?_,?_,?_,?_,?_,?_,?_,?_,?_,TW.fz KX G ?_ ?_ ?xl_NoPicks ?_,TW.dP ?_ ?_ ?_ ?xhn ?xtk ?_ ?_ ?xl_NoPicks,?_,?_,?_,?_,?_,?_,?_,?_,?_,?_,?_,?_,?_⟩,So KX G ?_,So KX G ?_,So KX G ?_,So KX G ?_,So KX G ?_,So KX G ?_,So KX G ?_,So KX G ?_,So KX G ?_,So KX G ?_,So KX G ?_,So KX G ?_⟩ : TW.FG _ _ _)
   (try any_goals first|k_is|k_exc|rfl|((repeat (first|show TW.xy|show TW.rN ⟨_,rfl⟩ rfl ?_|show TW.rN ⟨_,rfl⟩ ⟨_,rfl⟩ ?_));done))
   (try any_goals first|k_is|k_exc|rfl|((repeat (first|show TW.xy|show TW.rN ⟨_,rfl⟩ rfl ?_|show TW.rN ⟨_,rfl⟩ ⟨_,rfl⟩ ?_));done))
   all_goals first|kit_is|decide|rfl|show⟨_,rfl⟩|(k_keys;done)|(repeat' constructor)
