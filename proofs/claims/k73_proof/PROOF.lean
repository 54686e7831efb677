import PyProof.Rows.All
import Wide.All
import OpenK.AllK
import Wide.FinOn
import Lean
import PyProof.EqAt
import PyProof.EqKinds
import PyProof.TupleCall
import PySem.Challenge.RW_twinwalk_k73_rows_of_no_program
set_option maxHeartbeats 1000000
set_option compiler.extract_closed false
local macro_rules|`(tactic|show$e)=>`(tactic|refine$e)
local macro_rules|`(tactic|left)=>`(tactic|decide)
local macro_rules|`(tactic|right)=>`(tactic|decide +kernel)
theorem U.{u}{α:Sort u}{a:α}:a=a:=rfl
open List renaming length_map->Rn,mem_cons_self->Ru,length_append->Rx,mem_cons_of_mem->RC,length_cons->RE,size_toArray->RH,mem_of_getElem? -> RL,getElem?_eq_getElem->RQ,map_append->RW,append_nil->RY,map_cons->R3,not_mem_nil->R4,filterMap_append->R7,length_take->R8,take_add_one->R9,getElem?_map->Sb,take_length->Sf,mem_cons->Sh,mem_append_right->Si,length_singleton->Sj,reverse_cons->Sk,append_assoc->SK,length_filterMap_le->SV,mem_append_left->S0,sum_cons->S2,getElem?_set_self->S5,map_map->Te,lookup_cons->Tj,length_drop->Tn,length_nil->Tx,range->TH,getD_eq_getElem?_getD->TJ,length_reverse->TV,filterMap_cons->TX,find?_cons->T4,map_nil->Ud,getElem?_set_ne->Ug,lookup->Uh,length_set->Ui,getElem?_append_right->Uk,any_eq_false->Uw,filter_cons_of_pos->Uy,filter_cons_of_neg->Uz,any_cons->UA,take_of_length_le->UI,sum_nil->UQ,of_mem_zip->UR,length_replicate->US,forIn_cons->UT,dropLast_concat->U2,length_take_le->U8,map_take->Vi,eraseIdxIfInBounds_toArray->Vm,eq_nil_of_length_eq_zero->Vv,any_eq_true->Vw,nil_append->VA,replicate->VQ,getElem?_append_left->VR,drop_zero->VS,map_drop->V6,getElem?_replicate->V7,eraseIdx_cons_succ->V8,all_cons->V9,length_filter_le->Wf
open PySem.W renaming Frag->Ro,kitOne->Rq,mg_none_of->So,kitAny->Sv,findIn->Sw,mg_of->Sx,hideAll->Sy,emptyDict->SF,fnOf->S6,instObj->S9,keepIn->Tf,plainGet->Uv,lookIn->UN,codeIn->UO,plainGet_of->UY,hideAll_get->UZ,of_hideAll->U3,clsIn->U4,callWith_K->U5,methodObj->Vc,hasDictIn->Vd,takerIn->Vn,excIn->VF,cellsFrom_some->VM,nsIn->VX,methodCall_KW->VY,isFn->VZ,hideAll_none->V4,plainOver->Wj
open PySem.Heap renaming get?_push_of_some->Rr,lt_size->RD,get?_push_size->RK,SameBut->Sz,size_push->Tr,get?_update_other->T7,get?_update_self->UU,FlyingW->Wh
open PySem.Str renaming ofString->Rt,join->Td,empty->TR,append_assoc->UE
open PySem renaming Spec->Rv,boot_len->RG,FuncData->RZ,foldedSetIterable->Sg,mem_of_lookup->Sm,attributeBase->Ss,mainGlobals->SD,bootBuiltins->SJ,strLen_append->SU,sysModules->Th,wpAny_callSpecial?_slot->Tt,swapsWith->Tw,wpAny_passesOwn->TN,behindInMarks->TQ,DictEntry->TZ,wpAny_execs_cons->T2,wpAny_getItem_str_slice->T8,ofString_length->T9,NameKind->Ua,wpAny_execs_nil->Up,wpAny_pyIter_list->UJ,wpAny_comprehension_free->UK,seqIndex? -> Va,call_meets->Vh,wpAny_newFunctionEnv->Vj,intText? -> VE,bindArgs->V3,Operator->V5,codeAny_builtin->Wb,Within->Wc
open Nat renaming le_trans->Ry,le_refl->Rz,lt_of_lt_of_le->RJ,ne_of_lt->R1,zero_le->Sd,lt_irrefl->SR,le_of_lt->S3,succ_pos->S8,ne_of_gt->Tg,lt_succ_self->Tq,lt_of_le_of_lt->Tv,lt_trans->TC,toDigits_of_lt_base->UD,le_add_right->UH,toDigits->U1,pow_le_pow_right->U6,le_succ->Ve,one_le_two_pow->Vl,sub_self->Vu,toDigits_append_toDigits->Vy,sub_zero->Wm,pow_succ->Wn
open PySem.Txt renaming join->RM,split->S7,replace->Vb,slice_le->Vs,contains->Vt,slice->VD
open True renaming intro->RO
open Bool renaming false_ne_true->RV,and_eq_true->To,false_eq_true->Um,eq_iff_iff->UX
open PySem.Value renaming ref->R6,none->SH,isStrOf->TY,str->Uq,bool->Ur,int->UL,type->Vk
open Option.some renaming inj->Sa
open PySem.Builtin.SmallTypes renaming nextOf->Se,ownedTupleIsFree->SQ,ownedTupleHandOut->Uj
open PySem.NameKind renaming free->Sl,cell->Vz
open PySem.PassesOwn renaming leaving->Sn,never->Wk
open PySem.Builtin.Str renaming glued->Sr,strSliceIndices->Uc,occurrences->Vr,strKind->VL
open PySem.Calls renaming spliced_cons->Su,spliced_nil->Tc,callWith_builtin->Ts,evalArgs_plain->TL,Constant_str->Vf,Name_function_global->VC
open PyProof.Rows renaming callWith_type1->SY,slot_tupleiter_next->S4,IsTupIter->Ub,entry_tupleiter_next->UG,args_tupleiter_next->UM,slot_tuple_getitem->UP,callWith_builtin1->U0
open Option renaming map_some->Ta
open False renaming elim->Tb
open Int renaming eq_ofNat_of_zero_le->Ti,toNat_natCast->Vp,ediv_nonneg->VJ,fdiv_eq_ediv_of_nonneg->VT
open PySem.Builtin.Slice renaming slicePlaces->Tu,sliceAdjust->Ue,sliceApplied->U9
open PySem.Builtin.Tuple renaming tupleExact->Tz
open ForInStep renaming yield->TU
open PySem.F renaming slot_str_split->T3,slot_zip_next->T5,slot_dict_get->T6,args_str_split_2->Ul,plainAttrs_list->Us,entry_str_split->Ut,plainAttrs_str->Ux,args_tuple_add_2->Vx,plainAttrs_dict->VG,entry_tuple_add->VH,args_zip_next_1->VI,slot_tuple_add->VN,entry_zip_next->VO,entry_dict_get->VP,type_list_pop->V0,type_dict_get->V1,slot_list_pop->V2
open PySem.Obj renaming data_mapFields->Uo,mapFields->UC,mapSeq->Vo,isFreed_of_fields->Wl
open PyProof.Rows.F renaming plain_set_update_loop->Uu
open PySem.Code renaming compLoop->UB,isFrame->Wi
open PySem.Builtin.ObjectAttr renaming bindTo->UW
open Array renaming length_toList->U7,append_assoc->Vg,getElem?_toList->We
open Classical renaming byContradiction->Vq
open PySem.Heap.SameBut renaming update->VB
open PySem.SeqAt.EqAt renaming str_int->VU,int_str->VW
open PySem.Around renaming under->Wa
set_option Elab.async false
set_option linter.all false
set_option maxRecDepth 100000
local macro"#"e:term:tactic=>`(tactic|refine$e)
open Lean.Parser.Tactic in
local macro"@"p:rcasesPatMed":="e:term:tactic=>`(tactic|obtain $p:rcasesPatMed:=$e)
open Lean.Parser.Term in
local macro"!"d:letDecl:tactic=>`(tactic|have $d:letDecl)
local macro:max x:term:max"~":term=>`(($x).length)
local notation"S"=>some
local notation"O"=>List
local notation"Z"=>none
local notation"J"=>PySem.Addr
def au {a b:Prop}(h₁:a)(h₂:¬a):b:=absurd h₁ h₂
def dI.{u}{c:Prop}{h:Decidable c}(hc:c){α:Sort u}{t e:α}:ite c t e=t:=if_pos hc
def dh.{u}{c:Prop}{h:Decidable c}(hc:¬c){α:Sort u}{t e:α}:ite c t e=e:=if_neg hc
def jg {p:Prop}{i:Decidable p}(h:decide p=true):p:=of_decide_eq_true h
def hW {p:Prop}{i:Decidable p}(h:p):decide p=true:=decide_eq_true h
def gv {p:Prop}{i:Decidable p}(h:¬p):decide p=false:=decide_eq_false h
abbrev aB:=O (PySem.Str×Int)
def YI:0<=PySem.sizeLine:=by left
def YJ:1<=PySem.sizeLine:=by left
def YK:2<=PySem.sizeLine:=by left
def YL:3<=PySem.sizeLine:=by left
def YM:4<=PySem.sizeLine:=by left
def YN:5<=PySem.sizeLine:=by left
def YO:6<=PySem.sizeLine:=by left
def YQ:7<=PySem.sizeLine:=by left
def YR:8<=PySem.sizeLine:=by left
def YS:10<=PySem.sizeLine:=by left
def YT:12<=PySem.sizeLine:=by left
def YU:14<=PySem.sizeLine:=by left
def YV:24<=PySem.sizeLine:=by left
namespace L2
open PySem PySem.Spec PyProof.Rows
abbrev Key:=Sum Int Str
def mf:Key->Value->Bool
 | .inl k,v=>Value.isInt k v
 | .inr x,v=>TY x v
def KZ (w:World):Key->Int
 | .inl k=>hashInt k
 | .inr x=>hashStr w x
def bE:∀{k:Key} {v:Value},mf k v=true->(∃i t,k=Sum.inl i/\v=UL i t)\/(∃x t,k=Sum.inr x/\v=Uq x t)
 | .inl i,v,h=>by
   @⟨t,e⟩:=Value.isInt_shape (k:=i) (v:=v) h
   #.inl ⟨i,t,U,e⟩
 | .inr x,v,h=>by
   @⟨t,e⟩:=Value.isStrOf_shape (x:=x) (v:=v) h
   #.inr ⟨x,t,U,e⟩
def tY (i:Int)(t:Tok):mf (.inl i) (.int i t)=true:=by simp[mf,Value.isInt]
def tZ (x:Str)(t:Tok):mf (.inr x) (.str x t)=true:=by simp[mf,TY]
def CV (a b:Int):decide ((Sum.inl a:Key)=Sum.inl b)=(a==b):=by
 by_cases e:a=b
 . subst e;simp
 . !h:¬ (Sum.inl a:Key)=Sum.inl b:=λq=>e (Sum.inl.inj q)
   rw[gv h]
   #(beq_eq_false_iff_ne.mpr e).symm
def CZ (a b:Str):decide ((Sum.inr a:Key)=Sum.inr b)=decide (a=b):=by
 by_cases e:a=b
 . subst e;simp
 . !h:¬ (Sum.inr a:Key)=Sum.inr b:=λq=>e (Sum.inr.inj q)
   rw[gv h,gv e]
def CW (a:Int)(b:Str):decide ((Sum.inl a:Key)=Sum.inr b)=false:=gv (λq=>nomatch q)
def CY (a:Str)(b:Int):decide ((Sum.inr a:Key)=Sum.inl b)=false:=gv (λq=>nomatch q)
def bH (prog:Program)(w:World):PySem.KeyKind prog w Key where
 is:=mf
 hash:=KZ w
 inj:=λv a b ha hb=>by
   rcases bE ha with⟨i,t,rfl,rfl⟩|⟨x,t,rfl,rfl⟩
   . rcases bE hb with⟨j,u,rfl,e⟩|⟨y,u,rfl,e⟩
     . injection e with e1 _;rw[e1]
     . #nomatch e
   . rcases bE hb with⟨j,u,rfl,e⟩|⟨y,u,rfl,e⟩
     . #nomatch e
     . injection e with e1 _;rw[e1]
 byValue:=λk v h=>by
   rcases bE h with⟨i,t,rfl,rfl⟩|⟨x,t,rfl,rfl⟩<;>rfl
 pyHash:=λhv h=>by
   rcases bE hv with⟨i,t,rfl,rfl⟩|⟨x,t,rfl,rfl⟩
   . #wpAny_pyHash_int h
   . #wpAny_pyHash_str h
 eqBool:=λhu hv h=>by
   rcases bE hu with⟨i,t,rfl,rfl⟩|⟨x,t,rfl,rfl⟩
   . rcases bE hv with⟨j,u,rfl,rfl⟩|⟨y,u,rfl,rfl⟩
     . rw[CV]at h;#wpAny_eqBool_int h
     . rw[CW]at h;#VW i t y u _ _ _ _ h
   . rcases bE hv with⟨j,u,rfl,rfl⟩|⟨y,u,rfl,rfl⟩
     . rw[CY]at h;#VU x t j u _ _ _ _ h
     . rw[CZ]at h;#wpAny_eqBool_str h
 «strs»:=λk x t v h=>by
   rcases bE h with⟨i,u,rfl,e⟩|⟨y,u,rfl,e⟩
   . #nomatch e
   . injection e with e1 _
     subst e1
     cases v<;>rfl
def oS (prog:Program)(w:World)(i:Int)(t:Tok):(bH prog w).is (.inl i) (.int i t)=true:=tY i t
def oU (prog:Program)(w:World)(x:Str)(t:Tok):(bH prog w).is (.inr x) (.str x t)=true:=tZ x t
inductive V where
 | bI|bl (b:Bool)|int (i:Int)|str (x:Str)|byt (b:Array UInt8)|flt (b:UInt64)|ref (a:J)|ty (n:String)
 deriving DecidableEq
def RelV:V->Value->Prop
 | .bI,u=>u=SH
 | .bl b,u=>u=Ur b
 | .int i,u=>∃t,u=UL i t
 | .str x,u=>∃t,u=Uq x t
 | .byt b,u=>∃t,u=Value.bytes b t
 | .flt b,u=>∃t,u=Value.float b t
 | .ref a,u=>u=R6 a
 | .ty n,u=>u=Vk n
abbrev Vals:O V->O Value->Prop:=Paired RelV
def Vals.length {xs:O V}{us:O Value}(r:Vals xs us):xs~=us~:=Paired.length r
theorem Vals.get:∀{xs:O V} {us:O Value} {i:Nat} {x:V},Vals xs us->xs[i]?=S x->∃u,us[i]?=S u/\RelV x u
 | _,_,_,_,.nil,e=>by simp at e
 | _,_,0,_,.cons r _,e=>by simp at e;subst e;#⟨_,rfl,r⟩
 | _,_,i+1,x,.cons _ t,e=>by
   @⟨u,h1,h2⟩:=Vals.get (i:=i) (x:=x) t (by simpa using e)
   #⟨u,by simpa using h1,h2⟩
theorem Vals.set {x:V}{u:Value}(r:RelV x u):∀{xs:O V} {us:O Value} (i:Nat),Vals xs us->Vals (xs.set i x) (us.set i u)
 | _,_,_,.nil=>.nil
 | _,_,0,.cons _ t=>.cons r t
 | _,_,i+1,.cons q t=>.cons q (Vals.set r i t)
theorem Vals.append:∀{xs ys:O V} {us ws:O Value},Vals xs us->Vals ys ws->Vals (xs++ys) (us++ws)
 | _,_,_,_,.nil,s=>s
 | _,_,_,_,.cons r t,s=>.cons r (Vals.append t s)
theorem Vals.take:∀{xs:O V} {us:O Value} (n:Nat),Vals xs us->Vals (xs.take n) (us.take n)
 | _,_,0,_=>.nil
 | _,_,_+1,.nil=>.nil
 | _,_,n+1,.cons r t=>.cons r (Vals.take n t)
theorem Vals.drop:∀{xs:O V} {us:O Value} (n:Nat),Vals xs us->Vals (xs.drop n) (us.drop n)
 | _,_,0,r=>r
 | _,_,_+1,.nil=>.nil
 | _,_,n+1,.cons _ t=>Vals.drop n t
def eh:Option V->Option Value->Prop
 | some v,S u=>RelV v u
 | none,Z=>True
 | _,_=>False
def KV {κ:Type}:O (κ×V)->O (κ×Value)->Prop:=Paired λ(p:κ×V) (q:κ×Value)=>p.1=q.1/\RelV p.2 q.2
def kV:Key->V
 | .inl i=>.int i
 | .inr x=>.str x
inductive HO where
 | lst (xs:O V)
 | tup (xs:O V)
 | dK (kvs:O (Key×V))|dT (kvs:O (O Key×V))
 | set (S8x:Int->Bool) (n:Nat)
 | ins (C dx:J) (fs:O (Str×V))
 | own (x:J)
 | xd (fs:O (Str×V))
 | met (f x:J)
 | rng (lo hi:Int)
 | frz (o:Obj) (u:HO)
 | tbl (ps:Array Value)
 | ext (φ:Heap->Prop)
abbrev Hp:=J->Option HO
def upd (H:Hp)(a:J)(o:HO):Hp:=λb=>if b=a then S o else H b
def ae {H:Hp}{a:J}{o:HO}:upd H a o a=S o:=by unfold upd;rw[dI rfl]
def ah {H:Hp}{a b:J}{o:HO}(h:b≠a):upd H a o b=H b:=by unfold upd;rw[dh h]
def j4 {H:Hp}{a:J}{o u:HO}:upd (upd H a o) a u=upd H a u:=by
 funext b;unfold upd;split<;>rfl
def Bl {H:Hp}{a b:J}{o u:HO}(h:H a=S o)(h':H b=S u)(d:o≠u):a≠b:=by
 intro e;subst e;rw[h]at h';#d (Sa h')
def ag {H:Hp}{a b:J}{o:HO}(h:H a=S o)(h':H b=Z):a≠b:=by
 intro e;subst e;rw[h]at h';cases h'
section
variable(P:Program)(w:World)
def bB (H:Hp)(h:Heap)(a:J):HO->Prop
 | .lst xs=>xs~<=sizeLine/\∃(its:O Value) (n:Nat),Vals xs its/\h.get? a=S {cls:=.type "list",data:=.seq its.toArray n}
 | .tup xs=>xs~<=sizeLine/\∃its:O Value,Vals xs its/\IsTup h a its.toArray
 | .dK kvs=>kvs~<=sizeLine/\(a==Th)=false/\∃vs,KV kvs vs/\h.DictOf (bH P w) a vs
 | .dT kvs=>kvs~<=sizeLine/\(a==Th)=false/\∃xs:O (O Key×J×Value),
     Paired (λ(p:O Key×V) (q:O Key×J×Value)=>p.1=q.1/\H q.2.1=S (.tup (p.1.map kV))/\RelV p.2 q.2.2) kvs xs /\
     ∃o es ep,h.get? a=S o/\o.ExactDict/\o.data=.dict es ep/\es.toList=xs.map (entryOfKey (tupleKind (bH P w)))/\(xs.map (·.1)).Nodup
 | .set S8x n=>h.SetOf (intKind P w) a S8x n
 | .ins C dx fs=>H dx=S (.own a)/\fs~<=1000/\dx≠a/\h.get? a=S (S9 C dx) /\
     ∃mA,h.Ns1 dx mA/\(∀f,eh (fs.lookup f) (mA f))/\Wc mA (fs.map (·.1))
 | .own _=>∃o,h.get? a=S o
 | .xd fs=>∃mA,h.Ns1 a mA/\∀f,eh (fs.lookup f) (mA f)
 | .rng lo hi=>∃t u v,h.get? a=S {cls:=.type "range",data:=.fields #[.int lo t,.int hi u,.int 1 v]}
 | .frz o u=>h.get? a=S o/\bB H h a u
 | .tbl ps=>h.get? a=S {cls:=.none,data:=.fields ps}
 | .met f x=>h.get? a=S (Vc (.ref f) (.ref x))
 | .ext φ=>φ h/\(∃o,h.get? a=S o)/\∀h1 h2:Heap,φ h1->(∀o,h1.get? a=S o->h2.get? a=S o)->φ h2
def fW (H:Hp)(h:Heap):Prop:=∀a o,H a=S o->bB P w H h a o
end
section
variable{P:Program}{w:World}{H H':Hp}{h h':Heap}{a:J}{o:HO}
theorem bB.lt (x:bB P w H h a o):a<h.objs.size:=by
 cases o with
 | lst xs=>@⟨_,_,_,_,e⟩:=x;#RD e
 | tup xs=>@⟨_,_,_,p⟩:=x;#p.lt
 | dK kvs=>@⟨_,_,_,_,o,_,_,e,_⟩:=x;#RD e
 | dT kvs=>@⟨_,_,_,_,o,_,_,e,_⟩:=x;#RD e
 | set S8x n=>@⟨o,_,_,_,e,_⟩:=x;#RD e
 | ins C dx fs=>@⟨_,_,_,e,_⟩:=x;#RD e
 | own y=>@⟨_,e⟩:=x;#RD e
 | xd fs=>@⟨_,⟨_,_,_,e,_⟩,_⟩:=x;#RD e
 | rng lo hi=>@⟨_,_,_,e⟩:=x;#RD e
 | frz ob u=>@⟨e,_⟩:=x;#RD e
 | tbl ps=>#RD (show h.get? a=S _ from x)
 | met f y=>#RD (show h.get? a=S _ from x)
 | ext φ=>@⟨_,⟨_,e⟩,_⟩:=x;#RD e
theorem Paired.cZ {α β:Type}{F G:α->β->Prop}:∀{l₁:O α} {l₂:O β},Paired F l₁ l₂->(∀a b,F a b->G a b)->Paired G l₁ l₂
 | _,_,.nil,_=>.nil
 | _,_,.cons r t,f=>.cons (f _ _ r) (Paired.cZ t f)
def bB.cn (x:bB P w H h a o)(k:∀b u,(b=a\/H b=S (.own a))->h.get? b=S u->h'.get? b=S u)
   (ho:∀b,H b=S (.own a)->H' b=S (.own a)) (ht:∀b xs,H b=S (.tup xs)->H' b=S (.tup xs)):bB P w H' h' a o:=by
 induction o with
 | lst xs=>@⟨z,its,n,r,e⟩:=x;#⟨z,its,n,r,k _ _ (.inl rfl) e⟩
 | tup xs=>@⟨z,its,r,ob,e,c⟩:=x;#⟨z,its,r,ob,k _ _ (.inl rfl) e,c⟩
 | dK kvs=>@⟨z,y,vs,r,ob,es,ep,e,c⟩:=x;#⟨z,y,vs,r,ob,es,ep,k _ _ (.inl rfl) e,c⟩
 | dT kvs=>
   @⟨z,y,xs,r,ob,es,ep,e,c⟩:=x
   #⟨z,y,xs,Paired.cZ r λp q z=>⟨z.1,ht _ _ z.2.1,z.2.2⟩,ob,es,ep,k _ _ (.inl rfl) e,c⟩
 | set S8x n=>@⟨ob,es,ep,t,e,c⟩:=x;#⟨ob,es,ep,t,k _ _ (.inl rfl) e,c⟩
 | ins C dx fs=>
   @⟨d,z,ne,e,mA,⟨od,es,ep,e2,c⟩,r⟩:=x
   #⟨ho _ d,z,ne,k _ _ (.inl rfl) e,mA,⟨od,es,ep,k _ _ (.inr d) e2,c⟩,r⟩
 | own y=>@⟨ob,e⟩:=x;#⟨ob,k _ _ (.inl rfl) e⟩
 | xd fs=>@⟨mA,⟨od,es,ep,e,c⟩,r⟩:=x;#⟨mA,⟨od,es,ep,k _ _ (.inl rfl) e,c⟩,r⟩
 | rng lo hi=>@⟨t,u,v,e⟩:=x;#⟨t,u,v,k _ _ (.inl rfl) e⟩
 | frz ob u ih=>@⟨e,q⟩:=x;#⟨k _ _ (.inl rfl) e,ih q⟩
 | tbl ps=>
   have e:h.get? a=S {cls:=.none,data:=.fields ps}:=x
   change h'.get? a=S {cls:=.none,data:=.fields ps}
   #k a _ (.inl rfl) e
 | met f y=>
   have e:h.get? a=S (Vc (.ref f) (.ref y)):=x
   change h'.get? a=S (Vc (.ref f) (.ref y))
   #k a _ (.inl rfl) e
 | ext φ=>@⟨p,⟨o,e⟩,st⟩:=x;#⟨st _ _ p λo q=>k _ _ (.inl rfl) q,⟨o,k _ _ (.inl rfl) e⟩,st⟩
def fW.lt (x:fW P w H h)(e:H a=S o):a<h.objs.size:=(x a o e).lt
def fW.fresh (x:fW P w H h)(e:h.objs.size<=a):H a=Z:=by
 cases q:H a with
 | none=>rfl
 | some u=>#au (RJ (x.lt q) e) (SR _)
def fW.kept (x:fW P w H h)(k:∀b u,h.get? b=S u->h'.get? b=S u):fW P w H h':=λa o e=>
 (x a o e).cn (λb u z q=>k b u q) (λz q=>q) λz z q=>q
def fW.laid (x:fW P w H h)(k:∀b u,h.get? b=S u->h'.get? b=S u)(hp:h.objs.size<=a)(new:bB P w (upd H a o) h' a o):fW P w (upd H a o) h':=λb u e=>by
 !hn:=x.fresh hp
 by_cases hb:b=a
 . subst hb;rw[ae]at e;cases e;#new
 . rw[ah hb]at e
   show(x b u e).cn (λc v z q=>k c v q) (λc q=>by rw[ah (ag q hn)];#q) λc xs q=>by rw[ah (ag q hn)];#q
end
def Rd (H:Hp)(a:J)(u:HO):Prop:=H a=S u\/∃o,H a=S (.frz o u)
def Rd.ok {P:Program}{w:World}{H:Hp}{h:Heap}{a:J}{u:HO}(r:Rd H a u)(x:fW P w H h):bB P w H h a u:=by
 rcases r with r|⟨o,r⟩
 . #x a u r
 . @⟨_,q⟩:=x a _ r
   #q
def Fz:Option HO->Prop
 | some (.lst _)=>True
 | some (.dK _)=>True
 | some (.dT _)=>True
 | some (.set _ _)=>True
 | some (.ins _ _ _)=>True
 | some (.ext _)=>True
 | _=>False
section
variable{P:Program}{w:World}{H:Hp}{h h':Heap}{x e:J}{o':HO}
def fW.write (ok:fW P w H h)(mu:Fz (H x))(he:e=x\/H e=S (.own x))(k:∀b u,b≠e->h.get? b=S u->h'.get? b=S u)(heo:∃u,h'.get? e=S u)
   (new:bB P w (upd H x o') h' x o'):fW P w (upd H x o') h':=λb u q=>by
 !nown:∀c y,H c=S (.own y)->c≠x:=λc y r z=>by subst z;rw[r]at mu;#mu
 !ntup:∀c xs,H c=S (.tup xs)->c≠x:=λc xs r z=>by subst z;rw[r]at mu;#mu
 by_cases hb:b=x
 . subst hb;rw[ae]at q;cases q;#new
 . rw[ah hb]at q
   by_cases CA:b=e
   . !q':H b=S (.own x):=by
       rcases he with z|z
       . #au (CA.trans z) hb
       . rw[CA];#z
     rw[q]at q';cases q'
     @⟨v,hv⟩:=heo
     #⟨v,by rw[CA];#hv⟩
   . show(ok b u q).cn (λc v hc r=>k c v ?_ r) (λc r=>by rw[ah (nown c b r)];#r) λc xs r=>by rw[ah (ntup c xs r)];#r
     rcases hc with rfl|hc
     . #CA
     . rintro rfl
       rcases he with z|z
       . #nown c b hc z
       . rw[hc]at z;cases z;#hb rfl
end
structure Un (fs ex:O J)(H H':Hp)(h h':Heap):Prop where
 keep:∀b o,h.get? b=S o->H b=Z->b∉fs->b∉ex->h'.get? b=S o
 slot:∀b o,h.get? b=S o->H b=Z->b∈fs->b∉ex->∃sl,h'.get? b=S {o with slots:=sl}
 free:∀b o,h.get? b=S o->H b=Z->b∉ex->H' b=Z
 there:∀b o,h.get? b=S o->b∉ex->∃o',h'.get? b=S o'
 tups:∀b xs,H b=S (.tup xs)->H' b=S (.tup xs)
 frzs:∀b o u,H b=S (.frz o u)->H' b=S (.frz o u)
 tbls:∀b ps,H b=S (.tbl ps)->∃more,H' b=S (.tbl (ps++more))
section
variable{fs y7 ex QT:O J}{H H1 H2:Hp}{h h1 h2 h':Heap}{a x e:J}{o:HO}
def Un.any (u:Un fs ex H H1 h h1){b:J}{ob:Obj}(q:h.get? b=S ob)(n:H b=Z)(hx:b∉ex):∃sl,h1.get? b=S {ob with slots:=sl}:=by
 by_cases hb:b∈fs
 . #u.slot b ob q n hb hx
 . #⟨ob.slots,u.keep b ob q n hb hx⟩
def Un.kept (k:∀b u,h.get? b=S u->h'.get? b=S u):Un fs ex H H h h':=
 ⟨λb ob q z z z=>k b ob q,λb ob q z z z=>⟨ob.slots,k b ob q⟩,λz z z n z=>n,λb ob q z=>⟨ob,k b ob q⟩,λz z q=>q,λz z z q=>q,λz ps q=>⟨#[],by rw[q];simp⟩⟩
def Un.refl:Un fs ex H H h h:=Un.kept λz z q=>q
def Un.laid (k:∀b u,h.get? b=S u->h'.get? b=S u)(hp:h.objs.size<=a)(hn:H a=Z):Un fs ex H (upd H a o) h h' where
 keep:=λb u q z z z=>k b u q
 slot:=λb u q z z z=>⟨u.slots,k b u q⟩
 free:=λb u q n z=>by rw[ah (R1 (RJ (RD q) hp))];#n
 there:=λb u q z=>⟨u,k b u q⟩
 tups:=λb xs q=>by rw[ah (ag q hn)];#q
 frzs:=λb u xs q=>by rw[ah (ag q hn)];#q
 tbls:=λb ps q=>⟨#[],by rw[ah (ag q hn),q];simp⟩
def Un.write (mu:Fz (H x))(he:e=x\/H e=S (.own x))(k:∀b u,b≠e->h.get? b=S u->h'.get? b=S u)(heo:∃u,h'.get? e=S u):Un fs ex H (upd H x o) h h':=by
 !hx:∀b,H b=Z->b≠x:=λb n z=>by subst z;rw[n]at mu;#mu
 !hb:∀b,H b=Z->b≠e:=λb n z=>by
   subst z
   rcases he with r|r
   . #hx b n r
   . rw[n]at r;cases r
 !hm:∀b u,H b=S u->¬ Fz (S u)->b≠x:=λb u q nm z=>by subst z;rw[q]at mu;#nm mu
 #⟨λb u q n y y=>k b u (hb b n) q,λb u q n y y=>⟨u.slots,k b u (hb b n) q⟩,λb u q n y=>by rw[ah (hx b n)];#n,λb u q y=>?_,
   λb xs q=>by rw[ah (hm b _ q λz=>z)];show q,λb u xs q=>by rw[ah (hm b _ q λz=>z)];#q,λb ps q=>⟨#[],by rw[ah (hm b _ q λz=>z),q];simp⟩⟩
 by_cases CA:b=e
 . subst CA;#heo
 . #⟨u,k b u CA q⟩
end
def oh (h:Heap)(H:Hp):O J:=(TH h.objs.size).filter λa=>(H a).isSome
def nh (h:Heap)(H:Hp):Heap:=Sy h (oh h H)
def tT (h:Heap)(H:Hp):(nh h H).objs.size=h.objs.size:=PySem.W.hideAll_size _ _
def vO {h:Heap}{H:Hp}{b:J}{o:Obj}(e:h.get? b=S o)(n:H b=Z):(nh h H).get? b=S o:=
 UZ _ e λhm=>by
   !q:(H b).isSome=true:=(List.mem_filter.mp hm).2
   rw[n]at q;simp at q
def zI {h:Heap}{H:Hp}{b:J}{o:Obj}(e:(nh h H).get? b=S o):h.get? b=S o/\H b=Z:=by
 !e':h.get? b=S o:=U3 (oh h H) e
 #⟨e',?_⟩
 cases q:H b with
 | none=>rfl
 | some x=>
   have hm:b∈oh h H:=List.mem_filter.mpr ⟨List.mem_range.mpr (RD e'),by simp[q]⟩
   have z:(nh h H).get? b=Z:=V4 (oh h H) hm
   rw[z]at e;cases e
structure Mod (K:Ro)(mg:Str->Option Value)(base:Heap):Prop where
 kin:K.In base
 glob:base.Ns SD mg
 blt:∃mb,base.Ns builtinsNs mb/\∀x:Str,x≠"__name__"->mb x=SJ x
 nolimit:base.NoLimit
structure Cx where
 prog:Program
 w:World
 K:Ro
 mg:Str->Option Value
 base:Heap
 A:Around
 N:O Str
 s₀:Shared
 H₀:Hp
 env:Env
 outer:O Env
 stack:O Env
 ex:O J
 fn:Str->Bool
 calm:Bool
 pn:O (J×Obj)
 xe:Value->Shared->Prop
def dH (l:O Env):O J:=l.filterMap (·.frame)
abbrev Cx.fs (X:Cx):O J:=dH X.outer
def IY (sc:Scope)(x:Str):Prop:=sc.names.lookup x=S .local\/sc.names.lookup x=S .cell\/sc.names.lookup x=S .free
def Loc (sc:Scope)(x:Str):Prop:=sc.names.lookup x=S .local\/sc.names.lookup x=S .cell
def Look (env:Env)(h:Heap)(m:Str->Option Value)(x:Str)(u:Value):Prop:=
 (env.kindOf x=S .local/\m x=S u)\/((env.kindOf x=S .cell\/env.kindOf x=S .free)/\∃c,env.cells.lookup x=S c/\h.IsCell c (S u))
structure Cx.Ok (X:Cx):Prop where
 mod:Mod X.K X.mg X.base
 kind:X.env.scope.kind=.function
 glob:X.env.globals=SD
 blt:X.env.builtins=builtinsNs
 above:X.s₀.heap.objs.size<=X.env.locals
 inj:∀x y c,X.env.cells.lookup x=S c->X.env.cells.lookup y=S c->x=y
 has:∀x,(X.env.kindOf x=S .cell\/X.env.kindOf x=S .free)->∃c,X.env.cells.lookup x=S c
 cab:∀x c,X.fn x=true->X.env.cells.lookup x=S c->X.s₀.heap.objs.size<=c
 hd:X.calm=true->X.A.handled=Z
 frames:X.A.frames=S X.stack
 stk:X.stack=X.outer\/(X.stack=X.env::X.outer/\X.env.frame=S X.env.locals)
 exf:∀b∈X.ex,b≠X.env.locals/\∀x c,X.env.cells.lookup x=S c->c≠b
 bs:∀b o,X.base.get? b=S o->X.s₀.heap.get? b=S o/\X.H₀ b=Z
 bsz:X.base.objs.size<=X.s₀.heap.objs.size
 noex:∀b o,X.base.get? b=S o->b∉X.ex
 exfs:∀b∈X.ex,b∉X.fs
 ib:X.s₀.heap.FunFrames X.base X.outer
 frf:∀b∈X.fs,X.H₀ b=Z
structure Inv (X:Cx)(pins:O (J×Obj))(σ:O (Option V))(H:Hp)(s:Shared):Prop where
 ok:X.Ok
 os:s.os=X.s₀.os
 bare:AllBare s.gens
 base:Un X.fs X.ex X.H₀ H X.s₀.heap s.heap
 loc:∃m,s.heap.Ns X.env.locals m/\∀(i:Nat) (x:Str) (v:V),X.N[i]?=S x->σ[i]?=S (S v)->IY X.env.scope x->∃u,RelV v u/\Look X.env s.heap m x u
 cell:∀x c,X.env.cells.lookup x=S c->∃v,s.heap.IsCell c v
 free:H X.env.locals=Z
 freeC:∀x c,X.env.cells.lookup x=S c->H c=Z
 pin:∀p∈X.pn++pins,s.heap.get? p.1=S p.2/\H p.1=Z/\p.1≠X.env.locals/\p.1∉X.fs/\∀v,p.2.data≠.cell v
 hok:fW X.prog X.w H s.heap
 len:σ.length=X.N.length
section
variable{X:Cx}{pins:O (J×Obj)}{σ:O (Option V)}{H H':Hp}{s:Shared}{h':Heap}
def Cx.Ok.K6 (ok:X.Ok){b:J}{o:Obj}(e:X.base.get? b=S o):b∉X.fs:=λhb=>by
 !:=(ok.ib.mem hb).1
 rw[e]at this;cases this
def Inv.bs (I:Inv X pins σ H s):∀b o,X.base.get? b=S o->s.heap.get? b=S o/\H b=Z:=λb o e=>
 ⟨I.base.keep b o (I.ok.bs b o e).1 (I.ok.bs b o e).2 (I.ok.K6 e) (I.ok.noex b o e),I.base.free b o (I.ok.bs b o e).1 (I.ok.bs b o e).2 (I.ok.noex b o e)⟩
def Inv.bk (I:Inv X pins σ H s):∀b o,X.base.get? b=S o->s.heap.get? b=S o:=λb o e=>(I.bs b o e).1
def Inv.mod (I:Inv X pins σ H s):Mod X.K X.mg X.base:=I.ok.mod
def Inv.lM (I:Inv X pins σ H s):X.K.In s.heap:=I.ok.mod.kin.keeps I.bk
def Inv.lt (I:Inv X pins σ H s):X.env.locals<s.heap.objs.size:=by@⟨_,hn,_⟩:=I.loc;#hn.lt
def Inv.sz (I:Inv X pins σ H s):X.s₀.heap.objs.size<=s.heap.objs.size:=Ry I.ok.above (S3 I.lt)
def Inv.K7 (I:Inv X pins σ H s){a:J}(h:s.heap.objs.size<=a):a∉X.fs:=λhb=>by
 @⟨_,o,ho,_⟩:=I.ok.ib.mem hb
 #au (RJ (RD ho) (Ry I.sz h)) (SR _)
def Inv.yS (I:Inv X pins σ H s):∀x c,X.env.cells.lookup x=S c->c≠X.env.locals:=λx c e z=>by
 @⟨v,o,ho,hd⟩:=I.cell x c e
 @⟨m,⟨o',es,ep,iM,Ge,_⟩,_⟩:=I.loc
 rw[z,iM]at ho;cases ho;rw[Ge]at hd;cases hd
theorem Inv.ib (I:Inv X pins σ H s):s.heap.FunFrames X.base X.outer:=by
 !all:∀(l:O Env),(∀b∈dH l,b∈X.fs)->X.s₀.heap.FunFrames X.base l->s.heap.FunFrames X.base l:=by
   intro l
   induction l with
   | nil=>intro _ _;trivial
   | cons env r ih=>
     intro hs hl
     @⟨hk,⟨L8,o,hf,hn,ho,hd⟩,hr⟩:=hl
     !hL:L8∈X.fs:=hs L8 (by unfold dH;rw[TX,hf];#Ru)
     @⟨sl,e⟩:=I.base.slot L8 o ho (I.ok.frf L8 hL) hL λz=>I.ok.exfs L8 z hL
     #⟨hk,⟨L8,_,hf,hn,e,hd⟩,ih (λb hb=>hs b (by unfold dH;rw[TX,hf];#RC _ hb)) hr⟩
 #all X.outer (λy hb=>hb) I.ok.ib
def Inv.stack (I:Inv X pins σ H s):s.heap.FunFrames X.base X.stack:=by
 rcases I.ok.stk with e|⟨e,hf⟩
 . rw[e];#I.ib
 . rw[e]
   @⟨m,hn,_⟩:=I.loc
   #.cons (by rw[I.ok.kind];decide) hf hn ?_ I.ib
   #Heap.get?_none_of_le (Ry I.ok.bsz I.ok.above)
def Inv.lu (I:Inv X pins σ H s):∀b∈dH X.stack,b∈X.env.locals::X.fs:=λb hb=>by
 rcases I.ok.stk with e|⟨e,hf⟩
 . rw[e]at hb;#RC _ hb
 . rw[e]at hb
   unfold dH at hb
   rw[TX,hf]at hb
   #hb
def Inv.n6 (I:Inv X pins σ H s):∀b∈dH X.stack,H b=Z:=λb hb=>by
 rcases List.mem_cons.mp (I.lu b hb)with e|hb
 . rw[e];#I.free
 . @⟨_,o,ho,_⟩:=I.ok.ib.mem hb
   #I.base.free b o ho (I.ok.frf b hb) λz=>I.ok.exfs b z hb
def Inv.step {g':Array GenState}{t':Nat}{d':Drawn}{ch:O J}(I:Inv X pins σ H s)
   (hch:∀b∈ch,(b∈X.ex\/X.s₀.heap.objs.size<=b)/\b≠X.env.locals/\(∀x c,X.env.cells.lookup x=S c->c≠b)/\∀p∈X.pn++pins,p.1≠b)
   (keep:∀b o,b≠X.env.locals->b∉X.fs->b∉ch->s.heap.get? b=S o->H b=Z->h'.get? b=S o)
   (slot:∀b o,b≠X.env.locals->b∈X.fs->b∉ch->s.heap.get? b=S o->H b=Z->∃sl,h'.get? b=S {o with slots:=sl}) (free:∀b o,b∉ch->s.heap.get? b=S o->H b=Z->H' b=Z)
   (there:∀b o,b∉ch->s.heap.get? b=S o->∃o',h'.get? b=S o')
   (tups:∀b xs,H b=S (.tup xs)->H' b=S (.tup xs)) (frzs:∀b o u,H b=S (.frz o u)->H' b=S (.frz o u)) (tbls:∀b ps,H b=S (.tbl ps)->∃more,H' b=S (.tbl (ps++more)))
   (ns:∀m,s.heap.Ns X.env.locals m->h'.Ns X.env.locals m) (hok:fW X.prog X.w H' h') (hg:AllBare g') :
   Inv X pins σ H' {s with heap:=h',gens:=g',drawn:=d',toks:=t'}:=by
 !neL:∀b o,X.s₀.heap.get? b=S o->b≠X.env.locals:=λb o e=>R1 (RJ (RD e) I.ok.above)
 !neC:∀b o,X.s₀.heap.get? b=S o->b∉X.ex->b∉ch:=λb o e hx hb=>by
   rcases(hch b hb).1 with z|z
   . #hx z
   . #au (RJ (RD e) z) (SR _)
 !cellK:∀x c,X.env.cells.lookup x=S c->∀v,s.heap.IsCell c v->h'.IsCell c v:=λx c e v ⟨o,ho,hd⟩=>by
   !wt:c∉ch:=λz=>(hch c z).2.2.1 x c e rfl
   by_cases hc:c∈X.fs
   . @⟨sl,q⟩:=slot c o (I.yS x c e) hc wt ho (I.freeC x c e)
     #⟨_,q,hd⟩
   . #⟨o,keep c o (I.yS x c e) hc wt ho (I.freeC x c e),hd⟩
 #⟨I.ok,I.os,hg,⟨λb o e n hb hx=>?_,λb o e n hb hx=>?_,λb o e n hx=>?_,λb o e hx=>?_,λb xs e=>tups b xs (I.base.tups b xs e),λb o xs e=>frzs b o xs (I.base.frzs b o xs e),λb ps e=>?_⟩,?_,λx c e=>?_,?_,λx c e=>?_,λp hp=>?_,hok,I.len⟩
 . #keep b o (neL b o e) hb (neC b o e hx) (I.base.keep b o e n hb hx) (I.base.free b o e n hx)
 . @⟨sl,e1⟩:=I.base.slot b o e n hb hx
   @⟨Lj,e2⟩:=slot b _ (neL b o e) hb (neC b o e hx) e1 (I.base.free b o e n hx)
   #⟨Lj,e2⟩
 . @⟨o',e1⟩:=I.base.there b o e hx
   #free b o' (neC b o e hx) e1 (I.base.free b o e n hx)
 . @⟨o',e1⟩:=I.base.there b o e hx
   #there b o' (neC b o e hx) e1
 . @⟨m1,e1⟩:=I.base.tbls b ps e
   @⟨m2,e2⟩:=tbls b _ e1
   #⟨m1++m2,by rw[e2,Vg]⟩
 . @⟨m,hn,hl⟩:=I.loc
   #⟨m,ns m hn,λi x v e1 e2 e3=>?_⟩
   @⟨u,r,l⟩:=hl i x v e1 e2 e3
   #⟨u,r,?_⟩
   rcases l with l|⟨k,c,e,z⟩
   . #.inl l
   . #.inr ⟨k,c,e,cellK x c e _ z⟩
 . @⟨v,z⟩:=I.cell x c e
   #⟨v,cellK x c e v z⟩
 . @⟨m,⟨o,_,_,ho,_⟩,_⟩:=I.loc
   #free _ o (λz=>(hch _ z).2.1 rfl) ho I.free
 . @⟨v,o,ho,hd⟩:=I.cell x c e
   #free c o (λz=>(hch c z).2.2.1 x c e rfl) ho (I.freeC x c e)
 . @⟨e,n,ne,nf,d⟩:=I.pin p hp
   !wt:p.1∉ch:=λz=>(hch p.1 z).2.2.2 p hp rfl
   #⟨keep p.1 p.2 ne nf wt e n,free p.1 p.2 wt e n,ne,nf,d⟩
def Inv.un {t':Nat}(I:Inv X pins σ H s)(u:Un X.fs [] H H' s.heap h')(hok:fW X.prog X.w H' h'):Inv X pins σ H' {s with heap:=h',toks:=t'}:=by
 @⟨m,⟨o,es,ep,ho,r⟩,_⟩:=id I.loc
 @⟨sl,hL⟩:=u.any ho I.free (by simp)
 #I.step (g':=s.gens) (d':=s.drawn) (ch:=[]) (λy z=>nomatch z) (λb o y hb y e n=>u.keep b o e n hb (by simp)) (λb o y hb y e n=>u.slot b o e n hb (by simp)) (λb o y e n=>u.free b o e n (by simp)) (λb o y e=>u.there b o e (by simp)) u.tups u.frzs u.tbls (λm' hm=>by
   @⟨o',JX,JW,iM,r'⟩:=hm
   rw[ho]at iM;cases iM
   #⟨_,JX,JW,hL,r'⟩) hok I.bare
def Inv.call {g':Array GenState}{t':Nat}{d':Drawn}{ch:O J}(I:Inv X pins σ H s)(u:Un (dH X.stack) ch H H' s.heap h')(hok:fW X.prog X.w H' h')(hg:AllBare g')
   (hch:∀b∈ch,(b∈X.ex\/X.s₀.heap.objs.size<=b)/\b≠X.env.locals/\(∀x c,X.env.cells.lookup x=S c->c≠b)/\∀p∈X.pn++pins,p.1≠b) :
   Inv X pins σ H' {s with heap:=h',gens:=g',drawn:=d',toks:=t'}:=by
 @⟨m,⟨o,es,ep,ho,r⟩,_⟩:=id I.loc
 @⟨sl,hL⟩:=u.any ho I.free λz=>(hch _ z).2.1 rfl
 #I.step (ch:=ch) hch (λb o hL hb hc e n=>u.keep b o e n (λz=>(List.mem_cons.mp (I.lu b z)).elim hL hb) hc) (λb o y y hc e n=>u.any e n hc) (λb o hc e n=>u.free b o e n hc) (λb o hc e=>u.there b o e hc) u.tups u.frzs u.tbls (λm' hm=>by
   @⟨o',JX,JW,iM,r'⟩:=hm
   rw[ho]at iM;cases iM
   #⟨_,JX,JW,hL,r'⟩) hok hg
def Inv.turned {t':Nat}{it:J}(I:Inv X pins σ H s)(k:∀b o,b≠it->s.heap.get? b=S o->h'.get? b=S o)(hn:H it=Z)(hL:it≠X.env.locals)
   (h1:it∈X.ex\/X.s₀.heap.objs.size<=it) (h2:∀x c,X.env.cells.lookup x=S c->c≠it) (h3:∀p∈X.pn++pins,p.1≠it):Inv X pins σ H {s with heap:=h',toks:=t'}:=by
 !MP:∀b u,H b=S u->b≠it:=λb u e z=>by rw[z,hn]at e;cases e
 #I.step (g':=s.gens) (d':=s.drawn) (ch:=[it]) (λb hb=>?_) (λb o y y hc e y=>k b o (λz=>hc (by simp[z])) e) (λb o y y hc e y=>⟨o.slots,k b o (λz=>hc (by simp[z])) e⟩) (λy y y y n=>n)
   (λb o hc e=>⟨o,k b o (λz=>hc (by simp[z])) e⟩) (λy y e=>e) (λy y y e=>e) (λb ps e=>⟨#[],by rw[e];simp⟩) (λm hm=>?_) (λb u e=>?_) I.bare
 . !e:b=it:=by simpa using hb
   subst e
   #⟨h1,hL,h2,h3⟩
 . @⟨o,es,ep,ho,r⟩:=hm
   #⟨o,es,ep,k _ o (Ne.symm hL) ho,r⟩
 . #(I.hok b u e).cn (λc v hc q=>k c v ?_ q) (λy q=>q) λy y q=>q
   rcases hc with z|z
   . rw[z];#MP b u e
   . #MP c _ z
def Inv.tok (I:Inv X pins σ H s)(t:Nat):Inv X pins σ H {s with toks:=t}:=I.un (h':=s.heap) (t':=t) Un.refl I.hok
def Inv.kept {t':Nat}(I:Inv X pins σ H s)(k:∀b u,s.heap.get? b=S u->h'.get? b=S u):Inv X pins σ H {s with heap:=h',toks:=t'}:=I.un (Un.kept k) (I.hok.kept k)
def Inv.laid {a:J}{o:HO}{t':Nat}(I:Inv X pins σ H s)(k:∀b u,s.heap.get? b=S u->h'.get? b=S u)(hp:s.heap.objs.size<=a)(new:bB X.prog X.w (upd H a o) h' a o) :
   Inv X pins σ (upd H a o) {s with heap:=h',toks:=t'}:=I.un (Un.laid k hp (I.hok.fresh hp)) (I.hok.laid k hp new)
def Inv.write {x e:J}{o:HO}{t':Nat}(I:Inv X pins σ H s)(mu:Fz (H x))(he:e=x\/H e=S (.own x))(k:∀b u,b≠e->s.heap.get? b=S u->h'.get? b=S u)(heo:∃u,h'.get? e=S u)
   (new:bB X.prog X.w (upd H x o) h' x o):Inv X pins σ (upd H x o) {s with heap:=h',toks:=t'}:=I.un (Un.write mu he k heo) (I.hok.write mu he k heo new)
def Inv.weak {σ':O (Option V)}(I:Inv X pins σ H s)(hl:σ'.length=σ.length)(w:∀(i:Nat) v,σ'[i]?=S (S v)->σ[i]?=S (S v)):Inv X pins σ' H s:=
 ⟨I.ok,I.os,I.bare,I.base,let⟨m,hn,O6⟩:=I.loc;⟨m,hn,λi x v e1 e2 e3=>O6 i x v e1 (w i v e2) e3⟩,I.cell,I.free,I.freeC,I.pin,I.hok,hl.trans I.len⟩
def Inv.nM {iW:O (J×Obj)}(I:Inv X pins σ H s)(h:∀p∈iW,s.heap.get? p.1=S p.2/\H p.1=Z/\p.1≠X.env.locals/\p.1∉X.fs/\∀v,p.2.data≠.cell v):Inv X iW σ H s:=
 ⟨I.ok,I.os,I.bare,I.base,I.loc,I.cell,I.free,I.freeC,λp hp=>(List.mem_append.mp hp).elim (λz=>I.pin p (S0 _ z)) (h p),I.hok,I.len⟩
def oW {N:O Str}(hN:N.Nodup){i j:Nat}{x:Str}(a:N[i]?=S x)(b:N[j]?=S x):i=j:=by
 @⟨h1,e1⟩:=List.getElem?_eq_some_iff.mp a
 @⟨h2,e2⟩:=List.getElem?_eq_some_iff.mp b
 #(List.getElem_inj hN).mp (e1.trans e2.symm)
def jv {M8:Model}{A:Around}{E:Value->Shared->Prop}{i:Nat}{x:Str}{v:V}{u:Value}{Q:Unit->Shared->Prop}(I:Inv X pins σ H s)(hN:X.N.Nodup)(hi:X.N[i]?=S x)(hx:Loc X.env.scope x)(r:RelV v u)
   (h:∀s',Inv X pins (σ.set i (S v)) H s'->(∃a,Sz a s.heap s'.heap/\(a=X.env.locals\/X.env.cells.lookup x=S a))->Q () s') (hf:X.fn x=true\/X.env.scope.names.lookup x=S .local:=by first|show .inl rfl|show .inr rfl|assumption):wpAny M8 A (storeName X.env x u) Q E s:=by
 @⟨m,hn,hl⟩:=id I.loc
 !hcls:(X.env.scope.kind==.class || (X.env.scope.kind==.module&&X.env.locals != X.env.globals))=false:=by rw[I.ok.kind];rfl
 !hiσ:i<σ.length:=by rw[I.len];#(List.getElem?_eq_some_iff.mp hi).1
 !yS:=I.yS
 !tracked:∀{a:J} {h':Heap},(∃o,s.heap.get? a=S o/\H a=Z)->Sz a s.heap h'->fW X.prog X.w H h':=λ{a h'} ha hs b ob e=>by
   @⟨_,_,oK⟩:=ha
   #(I.hok b ob e).cn (λc w' hc q=>(hs.2 c ?_).trans q) (λt q=>q) λt t q=>q
   rintro rfl
   rcases hc with rfl|hc
   . rw[oK]at e;cases e
   . rw[oK]at hc;cases hc
 rcases hx with hk|hk
 . #wpAny_storeName_local hk hn (λh' hn' hs=>?_) hcls
   @⟨oL,_,_,Pd,_⟩:=id hn
   #h _ ⟨I.ok,I.os,I.bare,⟨λb o e n hb hx=>?_,λb o e n hb hx=>?_,I.base.free,λb o e hx=>?_,I.base.tups,I.base.frzs,I.base.tbls⟩,⟨_,hn',λj y v' e1 e2 e3=>?_⟩,λy c e=>?_,I.free,I.freeC,λp hp=>?_,tracked ⟨oL,Pd,I.free⟩ hs,by simpa using I.len⟩ ⟨_,hs,.inl rfl⟩
   . #(hs.2 b (R1 (RJ (RD e) I.ok.above))).trans (I.base.keep b o e n hb hx)
   . @⟨sl,e1⟩:=I.base.slot b o e n hb hx
     #⟨sl,(hs.2 b (R1 (RJ (RD e) I.ok.above))).trans e1⟩
   . @⟨o',e1⟩:=I.base.there b o e hx
     #⟨o',(hs.2 b (R1 (RJ (RD e) I.ok.above))).trans e1⟩
   . by_cases hj:j=i
     . subst hj
       rw[hi]at e1;cases e1
       rw[S5 hiσ]at e2
       cases e2
       #⟨u,r,.inl ⟨hk,by simp⟩⟩
     . rw[Ug (Ne.symm hj)]at e2
       @⟨u',r',q⟩:=hl j y v' e1 e2 e3
       #⟨u',r',?_⟩
       rcases q with⟨k,e⟩|⟨k,c,e,z⟩
       . #.inl ⟨k,?_⟩
         !:y≠x:=λe=>hj (oW hN e1 (e▸hi))
         simp[this,e]
       . #.inr ⟨k,c,e,z.sameBut hs (yS y c e)⟩
   . @⟨w',z⟩:=I.cell y c e
     #⟨w',z.sameBut hs (yS y c e)⟩
   . @⟨e,n,ne,nf,d⟩:=I.pin p hp
     #⟨(hs.2 p.1 ne).trans e,n,ne,nf,d⟩
 . !Gk:X.fn x=true:=by
     rcases hf with z|z
     . #z
     . rw[z]at hk;cases hk
   @⟨c,hc⟩:=I.ok.has x (.inl hk)
   @⟨w',z⟩:=I.cell x c hc
   #wpAny_storeName_cell I.ok.kind hk hc z (λh' pA hs=>?_)
   @⟨oc,Ba,KL⟩:=id z
   #h {s with heap:=h'} ⟨I.ok,I.os,I.bare,⟨λb o e n hb hx=>?_,λb o e n hb hx=>?_,I.base.free,λb o e hx=>?_,I.base.tups,I.base.frzs,I.base.tbls⟩,⟨m,hn.sameBut hs (Ne.symm (yS x c hc)),λj y v' e1 e2 e3=>?_⟩,λy c' e=>?_,I.free,I.freeC,λp hp=>?_,tracked ⟨oc,Ba,I.freeC x c hc⟩ hs,by simpa using I.len⟩ ⟨c,hs,.inr hc⟩
   . #(hs.2 b (R1 (RJ (RD e) (I.ok.cab x c Gk hc)))).trans (I.base.keep b o e n hb hx)
   . @⟨sl,e1⟩:=I.base.slot b o e n hb hx
     #⟨sl,(hs.2 b (R1 (RJ (RD e) (I.ok.cab x c Gk hc)))).trans e1⟩
   . @⟨o',e1⟩:=I.base.there b o e hx
     #⟨o',(hs.2 b (R1 (RJ (RD e) (I.ok.cab x c Gk hc)))).trans e1⟩
   . by_cases hj:j=i
     . subst hj
       rw[hi]at e1;cases e1
       rw[S5 hiσ]at e2
       cases e2
       #⟨u,r,.inr ⟨.inl hk,c,hc,pA⟩⟩
     . rw[Ug (Ne.symm hj)]at e2
       @⟨u',r',q⟩:=hl j y v' e1 e2 e3
       #⟨u',r',?_⟩
       rcases q with q|⟨k,c',e,z'⟩
       . #.inl q
       . #.inr ⟨k,c',e,z'.sameBut hs ?_⟩
         rintro rfl
         #hj (oW hN e1 (I.ok.inj _ _ _ e hc▸hi))
   . by_cases Mv:c'=c
     . subst Mv;#⟨_,pA⟩
     . @⟨w2,z2⟩:=I.cell y c' e
       #⟨w2,z2.sameBut hs Mv⟩
   . @⟨e,n,ne,nf,d⟩:=I.pin p hp
     #⟨(hs.2 p.1 ?_).trans e,n,ne,nf,d⟩
     intro q
     rw[q,Ba]at e
     !q':oc=p.2:=Sa e
     #d w' (by rw[← q'];#KL)
def ja {M8:Model}{A:Around}{E:Value->Shared->Prop}{i:Nat}{x:Str}{v:V}{u:Value}{Q:Unit->Shared->Prop}(I:Inv X pins σ H s)(hN:X.N.Nodup)(hi:X.N[i]?=S x)(hx:Loc X.env.scope x)(r:RelV v u)
   (h:∀s',Inv X pins (σ.set i (S v)) H s'->Q () s') (hf:X.fn x=true\/X.env.scope.names.lookup x=S .local:=by first|show .inl rfl|show .inr rfl|assumption):wpAny M8 A (storeName X.env x u) Q E s:=
 jv I hN hi hx r (λs' I' z=>h s' I') hf
def Inv.A0 {s':Shared}{ch:O J}(I:Inv X pins σ H s)(ho:s'.os=s.os)(u:Un (dH X.stack) ch H H' s.heap s'.heap)(hok:fW X.prog X.w H' s'.heap)(hg:AllBare s'.gens)
   (hch:∀b∈ch,(b∈X.ex\/X.s₀.heap.objs.size<=b)/\b≠X.env.locals/\(∀x c,X.env.cells.lookup x=S c->c≠b)/\∀p∈X.pn++pins,p.1≠b):Inv X pins σ H' s':=by
 @⟨h',g',d',t',o'⟩:=s'
 !e:o'=s.os:=ho
 subst e
 #I.call (g':=g') (t':=t') (d':=d') u hok hg hch
end
abbrev XK:=Value->Option J->Hp->Prop
abbrev St:=O (Option V)
abbrev VK:=V->Hp->Prop
abbrev TE:=St->Hp->VK->Prop
abbrev TT:=St->Hp->(Bool->Hp->Prop)->Prop
abbrev TA:=St->Hp->(O V->Hp->Prop)->Prop
structure Ends where
 nx:St->Hp->Prop
 rt:VK
 bk:St->Hp->Prop:=λ_ _=>False
 ct:St->Hp->Prop:=λ_ _=>False
abbrev TS:=Ends->St->Hp->Prop
def EP (X:Cx)(pins:O (J×Obj))(σ:St)(Q:VK)(u:Value)(s':Shared):Prop:=∃v H',Inv X pins σ H' s'/\RelV v u/\Q v H'
def TP (X:Cx)(pins:O (J×Obj))(σ:St)(Q:Bool->Hp->Prop)(b:Bool)(s':Shared):Prop:=∃H',Inv X pins σ H' s'/\Q b H'
def AP (X:Cx)(pins:O (J×Obj))(σ:St)(Q:O V->Hp->Prop)(us:O Value)(s':Shared):Prop:=∃vs H',Inv X pins σ H' s'/\Vals vs us/\Q vs H'
def SP (X:Cx)(pins:O (J×Obj))(D:Ends)(f:Flow)(s':Shared):Prop:=
 match f with
 | .next=>∃σ' H',Inv X pins σ' H' s'/\D.nx σ' H'
 | .brk=>∃σ' H',Inv X pins σ' H' s'/\D.bk σ' H'
 | .cont=>∃σ' H',Inv X pins σ' H' s'/\D.ct σ' H'
 | .ret u=>∃v σ' H',Inv X pins σ' H' s'/\RelV v u/\D.rt v H'
def PE (X:Cx)(e:Expr)(t:TE):Prop:=
 ∀(pins:O (J×Obj)) (s:Shared) (σ:St) (H:Hp) (Q:VK),Inv X pins σ H s->t σ H Q->wpAny (model X.prog X.w) X.A (eval e X.env) (EP X pins σ Q) X.xe s
def PT (X:Cx)(e:Expr)(t:TT):Prop:=
 ∀(pins:O (J×Obj)) (s:Shared) (σ:St) (H:Hp) (Q:Bool->Hp->Prop),Inv X pins σ H s->t σ H Q->wpAny (model X.prog X.w) X.A (isTrue e X.env (eval e X.env)) (TP X pins σ Q) X.xe s
def PW (X:Cx)(e:Expr)(t:TT):Prop:=
 ∀(whole:Sem Value) (pins:O (J×Obj)) (s:Shared) (σ:St) (H:Hp) (Q:Bool->Hp->Prop),Inv X pins σ H s->t σ H Q->wpAny (model X.prog X.w) X.A (isTrue e X.env whole) (TP X pins σ Q) X.xe s
def PW.pt {X:Cx}{e:Expr}{t:TT}(h:PW X e t):PT X e t:=h _
def PA (X:Cx)(es:O Expr)(t:TA):Prop:=
 ∀(pos:Pos) (pins:O (J×Obj)) (s:Shared) (σ:St) (H:Hp) (Q:O V->Hp->Prop),Inv X pins σ H s->t σ H Q->wpAny (model X.prog X.w) X.A (spliced (backTo pos (starEach es X.env))) (AP X pins σ Q) X.xe s
def PS (X:Cx)(st:Stmt)(t:TS):Prop:=
 ∀(pins:O (J×Obj)) (s:Shared) (σ:St) (H:Hp) (D:Ends),Inv X pins σ H s->t D σ H->wpAny (model X.prog X.w) X.A (exec st X.env) (SP X pins D) X.xe s
def lD (X:Cx)(st:O Stmt)(t:TS):Prop:=
 ∀(pins:O (J×Obj)) (s:Shared) (σ:St) (H:Hp) (D:Ends),Inv X pins σ H s->t D σ H->wpAny (model X.prog X.w) X.A (execs st X.env) (SP X pins D) X.xe s
def bw {α:Type}{t:Sem α}{Q Q':α->Shared->Prop}{M8:Model}{A:Around}{E:Value->Shared->Prop}{s:Shared}(h:wpAny M8 A t Q E s)(hQ:∀a s,Q a s->Q' a s):wpAny M8 A t Q' E s:=wpAny_mono h hQ λz z x=>x
section
variable{X:Cx}
def AL (i:Nat):TE:=λσ H Q=>∃v,σ[i]?=S (S v)/\Q v H
def tC (v:V):TE:=λz H Q=>Q v H
def DS {i:Nat}{x:Str}{pos:Pos}(hN:X.N[i]?=S x)(hv:IY X.env.scope x)(hd:(x==("__debug__":Str))=false:=by left)(hcd:(x==("__classdict__":Str))=false:=by left):PE X (.Name x pos) (AL i):=by
 intro pins s σ H Q I h
 @⟨v,e,h⟩:=h
 @⟨m,hn,hl⟩:=I.loc
 @⟨u,r,l⟩:=hl i x v hN e hv
 !fin:EP X pins σ Q u s:=⟨v,H,I,r,h⟩
 rcases l with⟨hk,hm⟩|⟨hk,c,hc,oJ⟩
 . #wpAny_Name (wpAny_loadName_local I.ok.kind hk hn hm fin) hd
 . rcases hk with hk|hk
   . #wpAny_Name (wpAny_loadName_cell I.ok.kind hk hc oJ fin) hd
   . #wpAny_Name (wpAny_loadName_free I.ok.kind hk hc oJ fin hcd) hd
def DK {i j pos}:PE X (.Constant (.int i) j pos) (tC (.int i)):=λz z z H z I h=>wpAny_Constant_int ⟨.int i,H,I.tok _,⟨_,rfl⟩,h⟩
def Hj {b j pos}:PE X (.Constant (.bool b) j pos) (tC (.bl b)):=λz z z H z I h=>Constant_bool ⟨.bl b,H,I,rfl,h⟩
def DP {j pos}:PE X (.Constant .none j pos) (tC .bI):=λz z z H z I h=>Constant_none ⟨.bI,H,I,rfl,h⟩
def xq {x j pos}:PE X (.Constant (.str x) j pos) (tC (.str x)):=λz z z H z I h=>Vf ⟨.str x,H,I.tok _,⟨_,rfl⟩,h⟩
def Gl (X:Cx)(x:Str):Prop:=X.env.kindOf x=S .globalImplicit
def iP {E:Value->Shared->Prop}{pins:O (J×Obj)}{s:Shared}{σ:St}{H:Hp}{x:Str}{u:Value}{pos:Pos}{Q:Value->Shared->Prop}(I:Inv X pins σ H s)(hg:Gl X x)(hm:X.mg x=S u)(h:Q u s)
   (hd:(x==("__debug__":Str))=false:=by left):wpAny (model X.prog X.w) X.A (eval (.Name x pos) X.env) Q E s:=
 VC I.ok.kind hg (Calls.loadGlobal_global (by rw[I.ok.glob];#I.mod.glob.keeps I.bk) hm h) hd
def fF {E:Value->Shared->Prop}{pins:O (J×Obj)}{s:Shared}{σ:St}{H:Hp}{x:Str}{u:Value}{pos:Pos}{Q:Value->Shared->Prop}(I:Inv X pins σ H s)(hg:Gl X x)(hm:X.mg x=Z)(hv:SJ x=S u)(h:Q u s)
   (hn:x≠"__name__":=by left) (hd:(x==("__debug__":Str))=false:=by left):wpAny (model X.prog X.w) X.A (eval (.Name x pos) X.env) Q E s:=by
 @⟨mb,h1,h2⟩:=I.mod.blt
 #VC I.ok.kind hg (Calls.loadGlobal_builtin (by rw[I.ok.glob];#I.mod.glob.keeps I.bk) hm (by rw[I.ok.blt];#h1.keeps I.bk) ((h2 x hn).trans hv) h) hd
def Ab {x:Str}{v:V}{u:Value}{pos:Pos}(hg:Gl X x)(hm:X.mg x=S u)(r:RelV v u)(hd:(x==("__debug__":Str))=false:=by left):PE X (.Name x pos) (tC v):=
 λz z z H z I h=>iP I hg hm ⟨v,H,I,r,h⟩ hd
def z4 {x:Str}{v:V}{u:Value}{pos:Pos}(hg:Gl X x)(hm:X.mg x=Z)(hv:SJ x=S u)(r:RelV v u)(hn:x≠"__name__":=by left)(hd:(x==("__debug__":Str))=false:=by left):PE X (.Name x pos) (tC v):=
 λz z z H z I h=>fF I hg hm hv ⟨v,H,I,r,h⟩ hn hd
variable{a b:Expr}{ta tb:TE}{pos:Pos}
def PC (X:Cx)(op:CmpOp)(a b:Expr)(t:TE):Prop:=
 ∀(pins:O (J×Obj)) (s:Shared) (σ:St) (H:Hp) (Q:VK),Inv X pins σ H s->t σ H Q ->
   wpAny (model X.prog X.w) X.A (eval a X.env) (λv s₁=>wpAny (model X.prog X.w) X.A (eval b X.env) (λu s₂=>wpAny (model X.prog X.w) X.A (compareOp op v u) (EP X pins σ Q) X.xe s₂) X.xe s₁) X.xe s
def tB (t:TE):TT:=λσ H Q=>t σ H λx H1=>∃c,x=.bl c/\Q c H1
def DI {op:CmpOp}{t:TE}(h:PC X op a b t)(h1:TQ op b=false:=by first|show wB _ (by left) (by left)|rfl):PE X (.Compare a [op] [b] pos) t:=λpins s σ H Q I hw=>wpAny_Compare1 (h pins s σ H Q I hw) h1
def Ed {e:Expr}{t:TE}(h:PE X e t)(he:∀whole,isTrue e X.env whole=(do let v←whole;standAt e.pos;holding [v] (truthy v)):=by intro _;rfl):PT X e (tB t):=by
 intro pins s σ H Q I hw
 #isTrue_plain (bw (h pins s σ H _ I hw) λv s1 h9=>?_) (he _)
 @⟨x,H1,I1,r1,q1⟩:=h9
 @⟨d,rfl,q⟩:=q1
 cases r1
 #wpAny_truthy_bool ⟨H1,I1,q⟩
variable{tA Jq:TT}{rest:O Expr}
def Iw (t u:TT):TT:=λσ H Q=>t σ H λc H1=>if c=true then u σ H1 Q else Q false H1
def Nh (t u:TT):TT:=λσ H Q=>t σ H λc H1=>if c=true then Q true H1 else u σ H1 Q
def IE (t:TT):TT:=λσ H Q=>t σ H λc H1=>Q (!c) H1
def Aq (ha:PT X a tA):PW X (.BoolOp .And [a] pos) tA:=by
 intro wh pins s σ H Q I h
 #isTrue_and (bw (ha pins s σ H Q I h) λc s1 e=>?_)
 cases c with
 | true=>#isTrue_and_nil e
 | false=>#e
def Ef (ha:PT X a tA):PW X (.BoolOp .Or [a] pos) tA:=by
 intro wh pins s σ H Q I h
 #isTrue_or (bw (ha pins s σ H Q I h) λc s1 e=>?_)
 cases c with
 | false=>#isTrue_or_nil e
 | true=>#e
def Ee (ha:PT X a tA)(hb:PW X (.BoolOp .And (b::rest) pos) Jq):PW X (.BoolOp .And (a::b::rest) pos) (Iw tA Jq):=by
 intro wh pins s σ H Q I h
 #isTrue_and (bw (ha pins s σ H _ I h) λc s1 h9=>?_)
 @⟨H1,I1,q1⟩:=h9
 cases c with
 | true=>#hb wh pins s1 σ H1 Q I1 q1
 | false=>#⟨H1,I1,q1⟩
def HM (ha:PT X a tA)(hb:PW X (.BoolOp .Or (b::rest) pos) Jq):PW X (.BoolOp .Or (a::b::rest) pos) (Nh tA Jq):=by
 intro wh pins s σ H Q I h
 #isTrue_or (bw (ha pins s σ H _ I h) λc s1 h9=>?_)
 @⟨H1,I1,q1⟩:=h9
 cases c with
 | true=>#⟨H1,I1,q1⟩
 | false=>#hb wh pins s1 σ H1 Q I1 q1
def Ec (ha:PT X a tA):PT X (.UnaryOp .Not a pos) (IE tA):=by
 intro pins s σ H Q I h
 #isTrue_not (ha pins s σ H (λc H1=>Q (!c) H1) I h)
def BX (ta:TE):TE:=λσ H Q=>ta σ H λx H1=>∃c,x=.bl c/\Q (.bl (!c)) H1
def DQ (ha:PE X a ta):PE X (.UnaryOp .Not a pos) (BX ta):=by
 intro pins s σ H Q I h
 #UnaryOp_ (bw (ha pins s σ H _ I h) λv s1 h9=>?_)
 @⟨x,H1,I1,r1,q1⟩:=h9
 @⟨c,rfl,q1⟩:=q1
 cases r1
 #not_of (wpAny_truthy_bool ⟨.bl (!c),H1,I1,U,q1⟩)
def Nf (t:TT)(ta tb:TE):TE:=λσ H Q=>t σ H λc H1=>if c=true then ta σ H1 Q else tb σ H1 Q
def xo {c:Expr}(hc:PT X c tA)(ha:PE X a ta)(hb:PE X b tb):PE X (.IfExp c a b pos) (Nf tA ta tb):=by
 intro pins s σ H Q I h
 #wpAny_IfExp (bw (hc pins s σ H _ I h) λd s1 h9=>?_)
 @⟨H1,I1,q1⟩:=h9
 cases d with
 | true=>#ha pins s1 σ H1 Q I1 q1
 | false=>#hb pins s1 σ H1 Q I1 q1
end
def aH (K:Ro)(H:Hp)(a:J)(xs:O V):Prop:=
 Rd H a (.lst xs) \/
   ∃(o:Obj) (its:Array Value) (n:Nat),K.lookup a=S o/\o.cls=.type "list"/\o.dict=Z/\o.data=.seq its n/\its.size<=sizeLine/\Vals xs its.toList
def bS (K:Ro)(H:Hp)(a:J)(xs:O V):Prop:=
 Rd H a (.tup xs) \/
   ∃(o:Obj) (its:Array Value) (n:Nat),K.lookup a=S o/\o.cls=.type "tuple"/\o.data=.seq its n/\its.size<=sizeLine/\Vals xs its.toList
def JG:Value->Option V
 | .none=>S .bI
 | .bool b=>S (.bl b)
 | .int i _=>S (.int i)
 | .str x _=>S (.str x)
 | .bytes b _=>S (.byt b)
 | .float b _=>S (.flt b)
 | .ref a=>S (.ref a)
 | .type n=>S (.ty n)
 | _=>Z
def RelV.abs {x:V}{u:Value}(r:RelV x u):JG u=S x:=by
 cases x with
 | bI=>cases r;rfl
 | bl _=>cases r;rfl
 | int _=>@⟨t,rfl⟩:=r;rfl
 | str _=>@⟨t,rfl⟩:=r;rfl
 | byt _=>@⟨t,rfl⟩:=r;rfl
 | flt _=>@⟨t,rfl⟩:=r;rfl
 | ref _=>cases r;rfl
 | ty _=>cases r;rfl
def RelV.inj {x y:V}{u:Value}(r:RelV x u)(q:RelV y u):x=y:=Sa (r.abs.symm.trans q.abs)
theorem Vals.inj:∀{xs ys:O V} {us:O Value},Vals xs us->Vals ys us->xs=ys
 | _,_,_,.nil,.nil=>rfl
 | _,_,_,.cons r t,.cons r' t'=>by rw[r.inj r',Vals.inj t t']
section
variable{X:Cx}{pins:O (J×Obj)}{σ:St}{H:Hp}{s:Shared}{a:J}{xs ys:O V}
def aH.of {K:Ro}(h:H a=S (.lst xs)):aH K H a xs:=.inl (.inl h)
def bS.of {K:Ro}(h:H a=S (.tup xs)):bS K H a xs:=.inl (.inl h)
def Inv.list (I:Inv X pins σ H s)(h:aH X.K H a xs):∃its:O Value,Vals xs its/\PlainL s.heap a its.toArray/\xs~<=sizeLine:=by
 rcases h with h|⟨o,its,n,hk,hc,hd,hs,hz,r⟩
 . @⟨z,its,n,r,e⟩:=h.ok I.hok
   #⟨its,r,⟨_,n,e,U,U,U⟩,z⟩
 . #⟨its.toList,r,⟨o,n,I.lM a o hk,hc,hd,by simpa using hs⟩,?_⟩
   !e:=r~
   simp only[U7]at e
   lia
def Inv.tuple (I:Inv X pins σ H s)(h:bS X.K H a xs):∃its:O Value,Vals xs its/\IsTup s.heap a its.toArray/\xs~<=sizeLine:=by
 rcases h with h|⟨o,its,n,hk,hc,hs,hz,r⟩
 . @⟨z,its,r,p⟩:=h.ok I.hok
   #⟨its,r,p,z⟩
 . #⟨its.toList,r,⟨o,I.lM a o hk,hc,n,by simpa using hs⟩,?_⟩
   !e:=r~
   simp only[U7]at e
   lia
def Inv.kK (I:Inv X pins σ H s)(h:aH X.K H a xs)(h':aH X.K H a ys):xs=ys:=by
 @⟨its,r,⟨o,n,e,_,_,d⟩,_⟩:=I.list h
 @⟨its',r',⟨o',n',e',_,_,d'⟩,_⟩:=I.list h'
 rw[e]at e';cases e'
 rw[d]at d'
 injection d' with d1 _
 !:its=its':=by simpa using congrArg Array.toList d1
 subst this
 #r.inj r'
def Inv.mD (I:Inv X pins σ H s)(h:bS X.K H a xs)(h':bS X.K H a ys):xs=ys:=by
 @⟨its,r,⟨o,e,_,n,d⟩,_⟩:=I.tuple h
 @⟨its',r',⟨o',e',_,n',d'⟩,_⟩:=I.tuple h'
 rw[e]at e';cases e'
 rw[d]at d'
 injection d' with d1 _
 !:its=its':=by simpa using congrArg Array.toList d1
 subst this
 #r.inj r'
end
abbrev Cx.lS (X:Cx)(E:Value->Shared->Prop):Cx:={X with xe:=E}
abbrev Cx.nD (X:Cx):Cx:=X.lS λ_ _=>False
def Cx.Ok.lS {X:Cx}(ok:X.Ok)(E:Value->Shared->Prop):(X.lS E).Ok:=
 ⟨ok.mod,ok.kind,ok.glob,ok.blt,ok.above,ok.inj,ok.has,ok.cab,ok.hd,ok.frames,ok.stk,ok.exf,ok.bs,ok.bsz,ok.noex,ok.exfs,ok.ib,ok.frf⟩
def Cx.Ok.fS {X:Cx}{E:Value->Shared->Prop}(ok:(X.lS E).Ok):X.Ok:=
 ⟨ok.mod,ok.kind,ok.glob,ok.blt,ok.above,ok.inj,ok.has,ok.cab,ok.hd,ok.frames,ok.stk,ok.exf,ok.bs,ok.bsz,ok.noex,ok.exfs,ok.ib,ok.frf⟩
section
variable{X:Cx}{pins:O (J×Obj)}{σ:St}{H:Hp}{s:Shared}{E:Value->Shared->Prop}
def Inv.lS (I:Inv X pins σ H s)(E:Value->Shared->Prop):Inv (X.lS E) pins σ H s:=⟨I.ok.lS E,I.os,I.bare,I.base,I.loc,I.cell,I.free,I.freeC,I.pin,I.hok,I.len⟩
def Inv.fS (I:Inv (X.lS E) pins σ H s):Inv X pins σ H s:=⟨I.ok.fS,I.os,I.bare,I.base,I.loc,I.cell,I.free,I.freeC,I.pin,I.hok,I.len⟩
theorem SP.fS {D:Ends}{f:Flow}{s':Shared}(h:SP (X.lS E) pins D f s'):SP X pins D f s':=by
 cases f with
 | next=>@⟨σ',H',I,q⟩:=h;#⟨σ',H',I.fS,q⟩
 | brk=>@⟨σ',H',I,q⟩:=h;#⟨σ',H',I.fS,q⟩
 | cont=>@⟨σ',H',I,q⟩:=h;#⟨σ',H',I.fS,q⟩
 | ret u=>@⟨v,σ',H',I,r,q⟩:=h;#⟨v,σ',H',I.fS,r,q⟩
def lD.nD {st:O Stmt}{t:TS}(h:lD X.nD st t):lD X st t:=λpins s σ H D I hw=>
 wpAny_mono (h pins s σ H D (I.lS _) hw) (λy y q=>q.fS) λy y z=>Tb z
end
section
variable{X:Cx}{st:Stmt}{rest:O Stmt}{t u:TS}{e:Expr}{te:TE}{pos:Pos}
def BW:TS:=λD σ H=>D.nx σ H
def fQ (t u:TS):TS:=λD σ H=>t {D with nx:=u D} σ H
def An:lD X [] BW:=λz z σ H z I h=>Up ⟨σ,H,I,h⟩
def xD (h1:PS X st t)(h2:lD X rest u):lD X (st::rest) (fQ t u):=by
 intro pins s σ H D I h
 #T2 (bw (h1 pins s σ H {D with nx:=u D} I h) λf s1 q=>?_)
 cases f with
 | next=>
   @⟨σ',H',I',q⟩:=q
   #h2 pins s1 σ' H' D I' q
 | ret v=>#q
 | brk=>#q
 | cont=>#q
def Ao (h1:PS X st t):lD X [st] t:=by
 intro pins s σ H D I h
 #T2 (bw (h1 pins s σ H D I h) λf s1 q=>?_)
 cases f with
 | next=>#Up q
 | ret v=>#q
 | brk=>#q
 | cont=>#q
def Inv.quiet {pins:O (J×Obj)}{σ:St}{H:Hp}{s:Shared}(I:Inv X pins σ H s):interactive X.env=false:=by simp[interactive,I.ok.kind]
def BU (te:TE):TS:=λD σ H=>te σ H λz H1=>D.nx σ H1
def Al (he:PE X e te)(hs:Tw e Z pos.line X.env=pure false:=by rfl):PS X (.Expr e pos) (BU te):=by
 intro pins s σ H D I h
 #wpAny_Expr_any (bw (he pins s σ H _ I h) λv s1 h9=>?_) I.quiet hs
 @⟨x,H1,I1,r1,q1⟩:=h9
 #⟨σ,H1,I1,q1⟩
def IF (te:TE):TS:=λD σ H=>te σ H D.rt
def Ea (he:PE X e te):PS X (.Return (S e) pos) (IF te):=by
 intro pins s σ H D I h
 #wpAny_Return_some (bw (he pins s σ H _ I h) λv s1 h9=>?_)
 @⟨x,H1,I1,r1,q1⟩:=h9
 #⟨x,σ,H1,I1,r1,q1⟩
def EK (c:TT)(t u:TS):TS:=λD σ H=>c σ H λb H1=>if b=true then t D σ H1 else u D σ H1
def HH {c:Expr}{a b:O Stmt}{tc:TT}(hc:PT X c tc)(ha:lD X a t)(hb:lD X b u):PS X (.If c a b pos) (EK tc t u):=by
 intro pins s σ H D I h
 #wpAny_If (bw (hc pins s σ H _ I h) λd s1 h9=>?_)
 @⟨H1,I1,q1⟩:=h9
 cases d with
 | true=>#ha pins s1 σ H1 D I1 q1
 | false=>#hb pins s1 σ H1 D I1 q1
def ym:TS:=λz z z=>False
def uE {QA:O Stmt}:lD X QA ym:=λz z z z z z h=>h.elim
end
abbrev TG:=V->St->Hp->(St->Hp->Prop)->Prop
abbrev sO:=O V->St->Hp->(St->Hp->Prop)->Prop
def PG (X:Cx)(target:Expr)(t:TG):Prop:=
 ∀(pins:O (J×Obj)) (s:Shared) (σ:St) (H:Hp) (v:V) (u:Value) (Q:St->Hp->Prop),Inv X pins σ H s->RelV v u->t v σ H Q ->
   wpAny (model X.prog X.w) X.A (assign target X.env u) (λz s'=>∃σ' H',Inv X pins σ' H' s'/\Q σ' H') X.xe s
def EY (X:Cx)(ts:O Expr)(t:sO):Prop:=
 ∀(pins:O (J×Obj)) (s:Shared) (σ:St) (H:Hp) (vs:O V) (us:O Value) (Q:St->Hp->Prop),Inv X pins σ H s->Vals vs us->t vs σ H Q ->
   wpAny (model X.prog X.w) X.A (assignInOrder ((assignEach ts X.env).map (·.2)) us) (λz s'=>∃σ' H',Inv X pins σ' H' s'/\Q σ' H') X.xe s
abbrev Ca:=V->V->V->Hp->(Hp->Prop)->Prop
def FC (X:Cx)(t:Ca):Prop:=
 ∀(pins:O (J×Obj)) (s:Shared) (σ:St) (H:Hp) (o i v:V) (ov iv u:Value) (Q:Hp->Prop),Inv X pins σ H s->RelV o ov->RelV i iv->RelV v u->t o i v H Q ->
   wpAny (model X.prog X.w) X.A (setItem ov iv u) (λz s'=>∃H',Inv X pins σ H' s'/\Q H') X.xe s
section
variable{X:Cx}{pos:Pos}
def cI (i:Nat):TG:=λv σ H Q=>Q (σ.set i (S v)) H
def Ae {i:Nat}{x:Str}(hN:X.N.Nodup)(hi:X.N[i]?=S x)(hx:Loc X.env.scope x)(hf:X.fn x=true\/X.env.scope.names.lookup x=S .local:=by first|show .inl rfl|show .inr rfl|assumption):PG X (.Name x pos) (cI i):=by
 intro pins s σ H v u Q I r h
 #wpAny_assign_Name (ja I hN hi hx r (λs' I'=>⟨_,H,I',h⟩) hf)
def y9:sO:=λvs σ H Q=>vs=[]/\Q σ H
def kB (t:TG)(u:sO):sO:=λvs σ H Q=>∃v r,vs=v::r/\t v σ H λσ' H'=>u r σ' H' Q
def Af:EY X [] y9:=by
 intro pins s σ H vs us Q I r h
 @⟨e,h⟩:=h
 subst e
 cases r
 #assignInOrder_nil ⟨σ,H,I,h⟩
def xt {e:Expr}{es:O Expr}{t:TG}{u:sO}(h1:PG X e t)(h2:EY X es u)
   (hs:(assignEach (e::es) X.env).map (·.2)=assign e X.env::(assignEach es X.env).map (·.2):=by rfl):EY X (e::es) (kB t u):=by
 intro pins s σ H vs us Q I r h
 @⟨v,vr,e1,h⟩:=h
 subst e1
 cases r with
 | cons r rr=>
   rw[hs]
   #assignInOrder_cons (bw (h1 pins s σ H _ _ _ I r h) λz s1 h9=>?_)
   @⟨σ1,H1,I1,q1⟩:=h9
   #h2 pins s1 σ1 H1 _ _ Q I1 rr q1
def zb (K:Ro)(n:Nat)(t:sO):TG:=λv σ H Q=>∃a xs,v=.ref a/\bS K H a xs/\xs~=n/\t xs σ H Q
def DY {es:O Expr}{k:Nat}{t:sO}{n:Nat}(hc:X.calm=true)(h:EY X es t)
   (hn:(assignEach es X.env)~=n:=by rfl) (hst:(assignEach es X.env).findIdx? (·.1)=Z:=by rfl):PG X (.Tuple es k pos) (zb X.K n t):=by
 intro pins s σ H v u Q I r hw
 @⟨a,xs,e1,hq,hl,hw⟩:=hw
 subst e1
 cases r
 @⟨its,rv,ht,hz⟩:=I.tuple hq
 #assign_Tuple_tuple (I.ok.hd hc) ht (by simp[hn,← hl,rv~]) hst λh' hx=>?_
 !I1:Inv X pins σ H {s with heap:=h'}:=I.kept (t':=s.toks) λb o e=>hx b o (R1 (RD e)) e
 #h pins _ σ H xs _ Q I1 (by simpa using rv) hw
def za (to ti:TE)(t:Ca):TG:=λv σ H Q=>to σ H λo H1=>ti σ H1 λi H2=>t o i v H2 λH3=>Q σ H3
def qt {o i:Expr}{to ti:TE}{t:Ca}(ho:PE X o to)(hi:PE X i ti)(hs:FC X t)
   (ha:∀v,assign (.Subscript o i pos) X.env v=(do
     let ov←holding [v] (eval o X.env)
     let iv←holding [v,ov] (eval i X.env)
     standAt pos
     holding [v,ov,iv] (setItem ov iv v)
     release [v,ov,iv] []):=by intro _;rfl):PG X (.Subscript o i pos) (za to ti t):=by
 intro pins s σ H v u Q I r h
 rw[ha]
 #wpAny_bind (wpAny_holding (bw (ho pins s σ H _ I h) λov s1 h9=>?_))
 @⟨x,H1,I1,r1,q1⟩:=h9
 #wpAny_bind (wpAny_holding (bw (hi pins s1 σ H1 _ I1 q1) λiv s2 h9=>?_))
 @⟨y,H2,I2,r2,q2⟩:=h9
 #wpAny_bind (wpAny_standAt (wpAny_bind (wpAny_holding (bw (hs pins s2 σ H2 x y v ov iv u _ I2 r1 r2 r q2) λz s3 h9=>?_))))
 @⟨H3,I3,q3⟩:=h9
 #wpAny_release ⟨σ,H3,I3,q3⟩
def lR (te:TE)(g:TG):TS:=λD σ H=>te σ H λx H1=>g x σ H1 D.nx
def D7 {tg e:Expr}{te:TE}{g:TG}(he:PE X e te)(hg:PG X tg g)(hs:swapsWithSole [tg] e pos.line X.env=pure false:=by rfl)(hw:swappedStores [tg] e X.env=pure Z:=by rfl)
   (h1:(assignEach [tg] X.env).map (·.2)=[assign tg X.env]:=by rfl):PS X (.Assign [tg] e pos) (lR te g):=by
 intro pins s σ H D I h
 #wpAny_Assign_stores (bw (he pins s σ H _ I h) λv s1 h9=>?_) hs hw
 @⟨x,H1,I1,r1,q1⟩:=h9
 rw[h1]
 #bw (hg pins s1 σ H1 x v _ I1 r1 q1) λz s2 q=>q
def Eb {i:Nat}{x:Str}{e:Expr}{te:TE}{pos':Pos}(hN:X.N.Nodup)(hi:X.N[i]?=S x)(hx:Loc X.env.scope x)(he:PE X e te)(hs:Tw e (S (.Name x pos')) pos.line X.env=pure false:=by rfl)(hf:X.fn x=true\/X.env.scope.names.lookup x=S .local:=by first|show .inl rfl|show .inr rfl|assumption) :
   PS X (.Assign [.Name x pos'] e pos) (lR te (cI i)):=by
 intro pins s σ H D I h
 #wpAny_Assign_Name (bw (he pins s σ H _ I h) λv s1 h9=>?_) hs
 @⟨y,H1,I1,r1,q1⟩:=h9
 #ja I1 hN hi hx r1 (λs2 I2=>⟨_,H1,I2,q1⟩) hf
end
section
variable{X:Cx}{pos:Pos}
def yp (c:TT)(tb:TS):TS:=λD σ H=>∃W:Nat->St->Hp->Prop,(∃m,W m σ H)/\∀m σ H,W m σ H ->
 c σ H λb H1=>if b=true then ∃N:St->Hp->Prop,(∀σ' H',N σ' H'->∃m',m'<m/\W m' σ' H')/\tb {D with nx:=N,ct:=N,bk:=D.nx} σ H1 else D.nx σ H1
def xB {c:Expr}{body:O Stmt}{tc:TT}{tb:TS}(hp:PassesOwn (model X.prog X.w) X.A X.env X.xe)(hc:PT X c tc)(hb:lD X body tb):PS X (.While c body [] pos) (yp tc tb):=by
 intro pins s σ H D I h
 @⟨W,⟨m0,w0⟩,turn⟩:=h
 #wpAny_While (codeAny_whileLoop (λn s'=>∃σ' H',Inv X pins σ' H' s'/\W n σ' H') ?_ m0 ⟨σ,H,I,w0⟩)
 rintro n s1 ⟨σ1,H1,I1,w1⟩
 #TN hp (bw (hc pins s1 σ1 H1 _ I1 (turn n σ1 H1 w1)) λb s2 h9=>?_)
 @⟨H2,I2,q2⟩:=h9
 cases b with
 | true=>
   @⟨N,hN,q2⟩:=q2
   rw[dI rfl]
   #TN hp (bw (hb pins s2 σ1 H2 _ I2 q2) λf s3 q3=>?_)
   cases f with
   | next=>
     @⟨σ3,H3,I3,n3⟩:=q3
     @⟨m',hm,w3⟩:=hN σ3 H3 n3
     #⟨m',hm,σ3,H3,I3,w3⟩
   | cont=>
     @⟨σ3,H3,I3,n3⟩:=q3
     @⟨m',hm,w3⟩:=hN σ3 H3 n3
     #⟨m',hm,σ3,H3,I3,w3⟩
   | brk=>#q3
   | ret v=>#q3
 | false=>
   rw[dh RV]
   #Up ⟨σ1,H2,I2,q2⟩
end
structure It where
 go:Nat->Hp->Prop
 yld:Nat->Hp->V->Hp->Prop
 stop:Nat->Hp->Prop
def ef (X:Cx)(pins:O (J×Obj))(H:Hp)(b:J):Prop:=
 H b=Z/\b≠X.env.locals/\b∉X.fs/\(b∈X.ex\/X.s₀.heap.objs.size<=b)/\(∀x c,X.env.cells.lookup x=S c->c≠b)/\∀p∈X.pn++pins,p.1≠b
def Inv.oF {X:Cx}{pins:O (J×Obj)}{σ:St}{H H':Hp}{s:Shared}{b:J}(I:Inv X pins σ H s)(hb:s.heap.objs.size<=b)(hn:H' b=Z):ef X pins H' b:=by
 #⟨hn,Tg (RJ I.lt hb),I.K7 hb,.inr (Ry I.sz hb),λx c e z=>?_,λp hp z=>?_⟩
 . @⟨v,q⟩:=I.cell x c e
   #au (RJ q.lt (by rw[z];#hb)) (SR _)
 . #au (RJ (RD (I.pin p hp).1) (by rw[z];#hb)) (SR _)
structure Turn (P:Program)(w:World)(K:Ro)(tg:Expr)(J8x:It)(fp:O J)(it:J)(tn:Nat->Heap->Prop):Prop where
 mem:it∈fp
 obj:∀i h,tn i h->∀b∈fp,∃o,h.get? b=S o/\∀v,o.data≠.cell v
 keep:∀i h h',tn i h->(∀b∈fp,∀o,h.get? b=S o->h'.get? b=S o)->tn i h'
 item:∀(X:Cx),X.prog=P->X.w=w->X.K=K->X.calm=true->∀(i:Nat) (pins:O (J×Obj)) (s:Shared) (σ:St) (H:Hp) (E:Value->Shared->Prop),Inv X pins σ H s->(∀b∈fp,ef X pins H b)->tn i s.heap->J8x.go i H ->
   wpAny (model P w) X.A (pyNext (.ref it)) (λr s1=>∃u,r=S u /\
     wpAny (model P w) X.A (letOwnedTupleGo tg (.ref it) u) (λ_ s2=>∃x H',Inv X pins σ H' s2/\RelV x u/\J8x.yld i H x H'/\tn (i+1) s2.heap/\∀b∈fp,H' b=Z) E s1) E s
 done:∀(X:Cx),X.prog=P->X.w=w->X.K=K->X.calm=true->∀(i:Nat) (pins:O (J×Obj)) (s:Shared) (σ:St) (H:Hp) (E:Value->Shared->Prop),Inv X pins σ H s->(∀b∈fp,ef X pins H b)->tn i s.heap->J8x.stop i H ->
   wpAny (model P w) X.A (pyNext (.ref it)) (λr s1=>r=Z/\Inv X pins σ H s1) E s
 self:∀(A:Around) (i:Nat) (s:Shared) (Q:Value->Shared->Prop) (E:Value->Shared->Prop),tn i s.heap->Q (.ref it) s->wpAny (model P w) A (pyIter (.ref it)) Q E s
abbrev TI:=St->Hp->(It->Hp->Prop)->Prop
def LP (X:Cx)(pins:O (J×Obj))(σ:St)(tg:Expr)(R:It->Hp->Prop)(itv:Value)(s2:Shared):Prop:=
 ∃(it:J) (fp:O J) (tn:Nat->Heap->Prop) (J8x:It) (H':Hp),itv=.ref it/\Inv X pins σ H' s2/\Turn X.prog X.w X.K tg J8x fp it tn/\tn 0 s2.heap/\(∀b∈fp,ef X pins H' b)/\R J8x H'
def PI (X:Cx)(tg iter:Expr)(wi:TI):Prop:=
 ∀(pins:O (J×Obj)) (s:Shared) (σ:St) (H:Hp) (R:It->Hp->Prop),Inv X pins σ H s->wi σ H R ->
   wpAny (model X.prog X.w) X.A (eval iter X.env) (λv s1=>wpAny (model X.prog X.w) X.A (pyIter v) (LP X pins σ tg R) X.xe s1) X.xe s
def vJ {M8:Model}{A:Around}{E:Value->Shared->Prop}{s:Shared}{tg:Expr}{it:J}{u:Value}{o:Obj}{n:String}{vs:Array Value}{Q:Unit->Shared->Prop}(ho:s.heap.get? it=S o)(hc:o.cls=.type n)(hd:o.data=.fields vs)
   (hn:["enumerate","zip","dict_itemiterator","dict_reverseitemiterator","odict_iterator","itertools.zip_longest","itertools.pairwise"].contains n=false) (hQ:Q () s):wpAny M8 A (letOwnedTupleGo tg (.ref it) u) Q E s:=by
 unfold letOwnedTupleGo
 cases tg<;>first
   | show wpAny_pure hQ
   | (cases u<;>first
       | show wpAny_pure hQ
       | (show wpAny_bind (wpAny_load ho ?_)
          rw[hc,hd]
          change wpAny M8 A (if(["enumerate","zip","dict_itemiterator","dict_reverseitemiterator","odict_iterator","itertools.zip_longest","itertools.pairwise"].contains n&&vs[0]?==S (rawInt _))=true then _ else _) Q E s
          rw[dh (by intro h;rw[hn,Bool.false_and]at h;cases h)]
          #wpAny_pure hQ))
def EW (K:Ro)(a:J):It:=
 ⟨λi H=>∃xs x,aH K H a xs/\xs[i]?=S x,λi H x H'=>H'=H/\∀xs,aH K H a xs->xs[i]?=S x,λi H=>∃xs,aH K H a xs/\xs~<=i⟩
def Fx (K:Ro)(a:J):It:=
 ⟨λi H=>∃xs x,bS K H a xs/\xs[i]?=S x,λi H x H'=>H'=H/\∀xs,bS K H a xs->xs[i]?=S x,λi H=>∃xs,bS K H a xs/\xs~<=i⟩
def B6 (lo:Int)(n:Nat):It:=⟨λi z=>i<n,λi H x H'=>H'=H/\x=.int (lo+i),λi z=>n<=i⟩
def uP {P:Program}{w:World}{K:Ro}{tg:Expr}(a it:J):Turn P w K tg (EW K a) [it] it (λi h=>h.IsListIter it a i) where
 mem:=by simp
 obj:=λi h st b hb=>by
   !e:b=it:=by simpa using hb
   subst e
   @⟨o,e,c,d⟩:=st
   #⟨o,e,λv z=>by rw[d]at z;cases z⟩
 keep:=λi h h' st k=>st.at λo e=>k it (by simp) o e
 item:=by
   intro X hP hw hK hc i pins s σ H E I hf st hg
   subst hP hw hK
   @⟨xs,x,hq,hx⟩:=hg
   @⟨its,rv,p,hz⟩:=I.list hq
   @⟨u,hu,ru⟩:=rv.get hx
   @⟨f0,f1,f2,f3,f4,f5⟩:=hf it (by simp)
   #wpAny_pyNext_list_item st p.isList (x:=u) (by simpa using hu) λh' BO sb=>?_
   !I1:Inv X pins σ H {s with heap:=h'}:=I.turned (t':=s.toks) (λb o hb e=>(sb.2 b hb).trans e) f0 f1 f3 f4 f5
   @⟨o,e,c,d⟩:=id BO
   #⟨u,U,vJ (s:={s with heap:=h'}) e c d (by left) ⟨x,H,I1,ru,⟨U,λys hy=>by rw[I.kK hy hq];#hx⟩,BO,λb hb=>(hf b hb).1⟩⟩
 done:=by
   intro X hP hw hK hc i pins s σ H E I hf st hg
   subst hP hw hK
   @⟨xs,hq,hx⟩:=hg
   @⟨its,rv,p,hz⟩:=I.list hq
   @⟨f0,f1,f2,f3,f4,f5⟩:=hf it (by simp)
   !hl:=rv~
   #wpAny_pyNext_list_end (I.ok.hd hc) st p.isList (by simp;lia) λh' eb=>⟨U,I.turned (t':=s.toks) (λb o hb e=>eb b o hb e) f0 f1 f3 f4 f5⟩
 self:=λy y y y y st h=>wpAny_pyIter_listiter st h
def qL {P:Program}{w:World}{K:Ro}{tg:Expr}(a it:J):Turn P w K tg (Fx K a) [it] it (λi h=>h.IsTupleIter it a i) where
 mem:=by simp
 obj:=λi h st b hb=>by
   !e:b=it:=by simpa using hb
   subst e
   @⟨o,e,c,d⟩:=st
   #⟨o,e,λv z=>by rw[d]at z;cases z⟩
 keep:=λi h h' st k=>st.at λo e=>k it (by simp) o e
 item:=by
   intro X hP hw hK hc i pins s σ H E I hf st hg
   subst hP hw hK
   @⟨xs,x,hq,hx⟩:=hg
   @⟨its,rv,p,hz⟩:=I.tuple hq
   @⟨u,hu,ru⟩:=rv.get hx
   @⟨f0,f1,f2,f3,f4,f5⟩:=hf it (by simp)
   #wpAny_pyNext_tuple_item st (show s.heap.IsTuple a its.toArray from p) (x:=u) (by simpa using hu) λh' BO sb=>?_
   !I1:Inv X pins σ H {s with heap:=h'}:=I.turned (t':=s.toks) (λb o hb e=>(sb.2 b hb).trans e) f0 f1 f3 f4 f5
   @⟨o,e,c,d⟩:=id BO
   #⟨u,U,vJ (s:={s with heap:=h'}) e c d (by left) ⟨x,H,I1,ru,⟨U,λys hy=>by rw[I.mD hy hq];#hx⟩,BO,λb hb=>(hf b hb).1⟩⟩
 done:=by
   intro X hP hw hK hc i pins s σ H E I hf st hg
   subst hP hw hK
   @⟨xs,hq,hx⟩:=hg
   @⟨its,rv,p,hz⟩:=I.tuple hq
   @⟨f0,f1,f2,f3,f4,f5⟩:=hf it (by simp)
   !hl:=rv~
   #wpAny_pyNext_tuple_end (I.ok.hd hc) st (show s.heap.IsTuple a its.toArray from p) (by simp;lia) λh' eb=>⟨U,I.turned (t':=s.toks) (λb o hb e=>eb b o hb e) f0 f1 f3 f4 f5⟩
 self:=λy y y y y st h=>wpAny_pyIter_tupleiter st h
def qK {P:Program}{w:World}{K:Ro}{tg:Expr}(it:J)(lo:Int)(n:Nat):Turn P w K tg (B6 lo n) [it] it (λi h=>IsRangeIter h it (lo+(i:Nat)*1) ((n:Int)-(i:Nat)) 1) where
 mem:=by simp
 obj:=λi h st b hb=>by
   !e:b=it:=by simpa using hb
   subst e
   #⟨_,st,λv z=>by
     !z':Data.fields _=Data.cell v:=z
     cases z'⟩
 keep:=λi h h' st k=>k it (by simp) _ st
 item:=by
   intro X hP hw hK hc i pins s σ H E I hf st hg
   subst hP hw hK
   @⟨f0,f1,f2,f3,f4,f5⟩:=hf it (by simp)
   !W:=Walks.range (prog:=X.prog) (w:=X.w) (I.ok.hd hc) it lo 1 n
   #W.item i s _ _ hg st λv h' tk hv BO kk=>?_
   @⟨t,rfl⟩:=hv
   !I1:Inv X pins σ H {s with heap:=h',toks:=tk}:=I.turned (λb o hb e=>kk b o (by simpa using hb) e) f0 f1 f3 f4 f5
   #⟨_,U,vJ (s:={s with heap:=h',toks:=tk}) (n:="range_iterator") BO rfl rfl (by left) ⟨.int (lo+i),H,I1,⟨t,?_⟩,⟨U,U⟩,BO,λb hb=>(hf b hb).1⟩⟩
   rw[Int.mul_one]
 done:=by
   intro X hP hw hK hc i pins s σ H E I hf st hg
   subst hP hw hK
   @⟨f0,f1,f2,f3,f4,f5⟩:=hf it (by simp)
   #wpAny_pyNext_range_end (I.ok.hd hc) st (by !:n<=i:=hg;lia) λh' eb=>⟨U,I.turned (t':=s.toks) (λb o hb e=>eb b o hb e) f0 f1 f3 f4 f5⟩
 self:=λy y y y y st h=>wpAny_pyIter_rangeiter st h
section
variable{X:Cx}{tg:Expr}
def Be (K:Ro)(tl:TE):TI:=λσ H R=>tl σ H λx H1=>∃a,x=.ref a/\(∃xs,aH K H1 a xs)/\R (EW K a) H1
def GH (K:Ro)(tl:TE):TI:=λσ H R=>tl σ H λx H1=>∃a,x=.ref a/\(∃xs,bS K H1 a xs)/\R (Fx K a) H1
def Ah {l:Expr}{tl:TE}(hl:PE X l tl):PI X tg l (Be X.K tl):=by
 intro pins s σ H R I h
 #bw (hl pins s σ H _ I h) λv s1 h9=>?_
 @⟨x,H1,I1,r1,q1⟩:=h9
 @⟨a,e,⟨xs,hq⟩,q⟩:=q1
 subst e
 cases r1
 @⟨its,rv,p,hz⟩:=I1.list hq
 #UJ p.isList ?_
 #⟨s1.heap.objs.size,[s1.heap.objs.size],_,_,H1,U,I1.kept (t':=s1.toks) λb o e=>Rr _ e,uP a _,⟨_,RK _ rfl,U,U⟩,λb hb=>?_,q⟩
 !e:b=s1.heap.objs.size:=by simpa using hb
 subst e
 #I1.oF (Rz _) (I1.hok.fresh (Rz _))
def DZ {l:Expr}{tl:TE}(hl:PE X l tl):PI X tg l (GH X.K tl):=by
 intro pins s σ H R I h
 #bw (hl pins s σ H _ I h) λv s1 h9=>?_
 @⟨x,H1,I1,r1,q1⟩:=h9
 @⟨a,e,⟨xs,hq⟩,q⟩:=q1
 subst e
 cases r1
 @⟨its,rv,p,hz⟩:=I1.tuple hq
 #wpAny_pyIter_tuple (show s1.heap.IsTuple a its.toArray from p) ?_
 #⟨s1.heap.objs.size,[s1.heap.objs.size],_,_,H1,U,I1.kept (t':=s1.toks) λb o e=>Rr _ e,qL a _,⟨_,RK _ rfl,U,U⟩,λb hb=>?_,q⟩
 !e:b=s1.heap.objs.size:=by simpa using hb
 subst e
 #I1.oF (Rz _) (I1.hok.fresh (Rz _))
def xI {pins:O (J×Obj)}{σ:St}{H:Hp}{s:Shared}{R:It->Hp->Prop}{E:Value->Shared->Prop}{lo hi:Int}{t u v:Tok}{tk:Nat}(I:Inv X pins σ H s)(h1 : -(2^62)<=lo)(h2:lo<2^62)(h3 : -(2^62)<=hi)(h4:hi<2^62)
   (q:R (B6 lo (hi-lo).toNat) H):wpAny (model X.prog X.w) X.A (pyIter (.ref s.heap.objs.size)) (LP X pins σ tg R) E {s with heap:=s.heap.push {cls:=.type "range",data:=.fields #[.int lo t,.int hi u,.int 1 v]},toks:=tk}:=by
 #wpAny_pyIter_range (IsRange.new ..) (small_one h1 h2 h3 h4) ?_
 !I1:Inv X pins σ H {s with heap:=s.heap.push {cls:=.type "range",data:=.fields #[.int lo t,.int hi u,.int 1 v]},toks:=tk}:=I.kept λb o e=>Rr _ e
 #⟨(s.heap.push {cls:=.type "range",data:=.fields #[.int lo t,.int hi u,.int 1 v]}).objs.size,[(s.heap.push {cls:=.type "range",data:=.fields #[.int lo t,.int hi u,.int 1 v]}).objs.size],_,_,H,rfl,
   I1.kept (t':=tk) λb o e=>Rr _ e,qK _ lo (hi-lo).toNat,?_,λb hb=>?_,q⟩
 . !e1:lo+((0:Nat):Int)*1=lo:=by simp
   !e2:(((hi-lo).toNat:Nat):Int)-((0:Nat):Int)=Builtin.Range.rangeSize lo hi 1:=by rw[rangeSize_one];split<;>lia
   change IsRangeIter _ _ (lo+((0:Nat):Int)*1) ((((hi-lo).toNat:Nat):Int)-((0:Nat):Int)) 1
   rw[e1,e2]
   #RK _ rfl
 . !e:b=(s.heap.push {cls:=.type "range",data:=.fields #[.int lo t,.int hi u,.int 1 v]}).objs.size:=by simpa using hb
   subst e
   #I1.oF (Rz _) (I1.hok.fresh (Rz _))
def vU (ta:TA):TI:=λσ H R=>ta σ H λvs H1=>∃j:Int,vs=[.int j]/\-(2^62)<=j/\j<2^62/\R (B6 0 j.toNat) H1
def uy {a:Expr}{ta:TA}{p pos:Pos}(hg:Gl X "range")(hm:X.mg "range"=Z)(ha:PA X [a] ta)(hs:starEach [a] X.env=[(false,eval a X.env)]:=by rfl):PI X tg (.Call (.Name "range" p) [a] [] pos) (vU ta):=by
 intro pins s σ H R I h
 #Call_ (fF I hg hm boot_range (SY (bw (ha pos pins s σ H _ I h) λus s1 h9=>?_) hs rfl))
 @⟨vs,H1,I1,r1,q1⟩:=h9
 @⟨j,e,q1,q2,q⟩:=q1
 subst e
 cases r1 with
 | cons r rr=>
   cases rr
   @⟨t,rfl⟩:=r
   #call_range_1 (xI I1 (by lia) (by lia) q1 q2 (by simpa using q))
def IB (wi:TI)(g:TG)(tb:TS):TS:=λD σ H=>wi σ H λJ8x H1=>∃W:Nat->Nat->St->Hp->Prop,(∃m,W 0 m σ H1)/\∀i m σ H,W i m σ H ->
 (J8x.stop i H/\D.nx σ H)\/(J8x.go i H/\∃N:St->Hp->Prop,(∀σ' H',N σ' H'->∃m',m'<m/\W (i+1) m' σ' H')/\∀x H',J8x.yld i H x H'->g x σ H' λσ2 H2=>tb {D with nx:=N,ct:=N,bk:=D.nx} σ2 H2)
def kS (fp:O J)(h:Heap):O (J×Obj):=fp.filterMap λb=>(h.get? b).map λo=>(b,o)
def eZ {fp:O J}{h:Heap}{b:J}{o:Obj}(hb:b∈fp)(e:h.get? b=S o):(b,o)∈kS fp h:=List.mem_filterMap.mpr ⟨b,hb,by rw[e];rfl⟩
def ug {fp:O J}{h:Heap}{p:J×Obj}(hp:p∈kS fp h):p.1∈fp/\h.get? p.1=S p.2:=by
 @⟨b,hb,e⟩:=List.mem_filterMap.mp hp
 cases q:h.get? b with
 | none=>rw[q]at e;cases e
 | some o=>
   rw[q]at e
   !e':(b,o)=p:=Sa e
   subst e'
   #⟨hb,q⟩
def Inv.pinned {pins:O (J×Obj)}{σ:St}{H:Hp}{s:Shared}{fp:O J}(I:Inv X pins σ H s)(hf:∀b∈fp,ef X pins H b)(ho:∀b∈fp,∃o,s.heap.get? b=S o/\∀v,o.data≠.cell v):Inv X (pins++kS fp s.heap) σ H s:=
 I.nM λp hp=>(List.mem_append.mp hp).elim (λz=>I.pin p (Si _ z)) λz=>by
   @⟨hb,e⟩:=ug z
   @⟨f0,f1,f2,_⟩:=hf p.1 hb
   @⟨o,e',d⟩:=ho p.1 hb
   rw[e]at e';cases e'
   #⟨e,f0,f1,f2,d⟩
def Inv.jd {pins pl:O (J×Obj)}{σ:St}{H:Hp}{s:Shared}(I:Inv X (pins++pl) σ H s):Inv X pins σ H s:=I.nM λp hp=>I.pin p (Si _ (S0 _ hp))
def D9 {iter:Expr}{body:O Stmt}{wi:TI}{g:TG}{tb:TS}{pos:Pos}(hp:PassesOwn (model X.prog X.w) X.A X.env X.xe)(hc:X.calm=true)(hi:PI X tg iter wi)(hg:PG X tg g)(hb:lD X body tb)
   (hs:∀x,Sg iter X.env x=pure x:=by intro _;rfl):PS X (.For tg iter body [] pos) (IB wi g tb):=by
 intro pins s σ H D I h
 #wpAny_For (bw (hi pins s σ H _ I h) λv s1 h1=>bw h1 λitv s2 h2=>?_) hs
 @⟨it,fp,tn,J8x,H2,e,I2,T,EH,f2,W,⟨m0,w0⟩,turn⟩:=h2
 subst e
 !stat:∀{H':Hp},(∀b∈fp,H' b=Z)->∀b∈fp,ef X pins H' b:=λhn b hb=>⟨hn b hb,(f2 b hb).2⟩
 #codeAny_forLoop_any (λn s'=>∃i σ' H',Inv X pins σ' H' s'/\tn i s'.heap/\(∀b∈fp,H' b=Z)/\W i n σ' H') ?_ m0 ⟨0,σ,H2,I2,EH,λb hb=>(f2 b hb).1,w0⟩
 rintro n s3 ⟨i,σ3,H3,I3,uL,E8,w3⟩
 rcases turn i n σ3 H3 w3 with⟨stop,qn⟩|⟨go,N,hN,step⟩
 . #TN hp (bw (T.done X rfl rfl rfl hc i pins s3 σ3 H3 X.xe I3 (stat E8) uL stop) λr s4 h9=>?_)
   @⟨hr,I4⟩:=h9
   subst hr
   #Up ⟨σ3,H3,I4,qn⟩
 . #TN hp (bw (T.item X rfl rfl rfl hc i pins s3 σ3 H3 X.xe I3 (stat E8) uL go) λr s4 h9=>?_)
   @⟨u,hr,h4⟩:=h9
   subst hr
   #TN hp (bw h4 λz s5 h9=>?_)
   @⟨x,H5,I5,r5,y5,yz,J1⟩:=h9
   !Jw:=I5.pinned (stat J1) (T.obj _ _ yz)
   #TN hp (bw (hg _ s5 σ3 H5 x u _ Jw r5 (step x H5 y5)) λz s6 h9=>?_)
   @⟨σ6,H6,I6,q6⟩:=h9
   #TN hp (bw (hb _ s6 σ6 H6 _ I6 q6) λf s7 q7=>?_)
   !again:∀{σ7:St} {H7:Hp},Inv X (pins++kS fp s5.heap) σ7 H7 s7->N σ7 H7->∃m,m<n/\∃i σ' H',Inv X pins σ' H' s7/\tn i s7.heap/\(∀b∈fp,H' b=Z)/\W i m σ' H':=λ{σ7 H7} I7 n7=>by
     @⟨m',hm,w7⟩:=hN σ7 H7 n7
     #⟨m',hm,i+1,σ7,H7,I7.jd,T.keep _ _ _ yz λb hb o e=>(I7.pin (b,o) (Si _ (Si _ (eZ hb e)))).1,λb hb=>?_,w7⟩
     @⟨o,e,d⟩:=T.obj _ _ yz b hb
     #(I7.pin (b,o) (Si _ (Si _ (eZ hb e)))).2.1
   cases f with
   | next=>@⟨σ7,H7,I7,n7⟩:=q7;#again I7 n7
   | cont=>@⟨σ7,H7,I7,n7⟩:=q7;#again I7 n7
   | brk=>@⟨σ7,H7,I7,q7⟩:=q7;#⟨σ7,H7,I7.jd,q7⟩
   | ret v=>@⟨x7,σ7,H7,I7,r7,q7⟩:=q7;#⟨x7,σ7,H7,I7.jd,r7,q7⟩
end
def dG {K:Ro}{a:J}{xs:O V}{g:TG}{tb:TS}{D:Ends}{σ:St}{H:Hp}(Pv:Nat->St->Hp->Prop)(h0:Pv 0 σ H)(hl:∀i σ H,i<=xs~->Pv i σ H->aH K H a xs)
   (hs:∀i x σ H,xs[i]?=S x->Pv i σ H->g x σ H λσ2 H2=>tb {D with nx:=Pv (i+1),ct:=Pv (i+1),bk:=D.nx} σ2 H2) (hd:∀σ H,Pv xs~ σ H->D.nx σ H) :
   ∃W:Nat->Nat->St->Hp->Prop,(∃m,W 0 m σ H)/\∀i m σ H,W i m σ H ->
     ((EW K a).stop i H/\D.nx σ H)\/((EW K a).go i H/\∃N:St->Hp->Prop,(∀σ' H',N σ' H'->∃m',m'<m/\W (i+1) m' σ' H')/\∀x H',(EW K a).yld i H x H'->g x σ H' λσ2 H2=>tb {D with nx:=N,ct:=N,bk:=D.nx} σ2 H2):=by
 #⟨λi m σ H=>m=xs~-i/\i<=xs~/\Pv i σ H,⟨xs~,by simp,Sd _,h0⟩,?_⟩
 rintro i m σ H ⟨rfl,hi,p⟩
 !q:=hl i σ H hi p
 by_cases oM:i<xs~
 . #.inr ⟨⟨xs,xs[i],q,by simp[oM]⟩,Pv (i+1),λσ' H' p'=>⟨xs~-(i+1),by lia,U,oM,p'⟩,λx H' y=>?_⟩
   @⟨e,y⟩:=y
   subst e
   #hs i x σ _ (y xs q) p
 . !e:i=xs~:=by lia
   subst e
   #.inl ⟨⟨xs,q,Rz _⟩,hd σ H p⟩
def rh {K:Ro}{a:J}{xs:O V}{g:TG}{tb:TS}{D:Ends}{σ:St}{H:Hp}(Pv:Nat->St->Hp->Prop)(h0:Pv 0 σ H)(hl:∀i σ H,i<=xs~->Pv i σ H->bS K H a xs)
   (hs:∀i x σ H,xs[i]?=S x->Pv i σ H->g x σ H λσ2 H2=>tb {D with nx:=Pv (i+1),ct:=Pv (i+1),bk:=D.nx} σ2 H2) (hd:∀σ H,Pv xs~ σ H->D.nx σ H) :
   ∃W:Nat->Nat->St->Hp->Prop,(∃m,W 0 m σ H)/\∀i m σ H,W i m σ H ->
     ((Fx K a).stop i H/\D.nx σ H)\/((Fx K a).go i H/\∃N:St->Hp->Prop,(∀σ' H',N σ' H'->∃m',m'<m/\W (i+1) m' σ' H')/\∀x H',(Fx K a).yld i H x H'->g x σ H' λσ2 H2=>tb {D with nx:=N,ct:=N,bk:=D.nx} σ2 H2):=by
 #⟨λi m σ H=>m=xs~-i/\i<=xs~/\Pv i σ H,⟨xs~,by simp,Sd _,h0⟩,?_⟩
 rintro i m σ H ⟨rfl,hi,p⟩
 !q:=hl i σ H hi p
 by_cases oM:i<xs~
 . #.inr ⟨⟨xs,xs[i],q,by simp[oM]⟩,Pv (i+1),λσ' H' p'=>⟨xs~-(i+1),by lia,U,oM,p'⟩,λx H' y=>?_⟩
   @⟨e,y⟩:=y
   subst e
   #hs i x σ _ (y xs q) p
 . !e:i=xs~:=by lia
   subst e
   #.inl ⟨⟨xs,q,Rz _⟩,hd σ H p⟩
def gf {lo:Int}{n:Nat}{g:TG}{tb:TS}{D:Ends}{σ:St}{H:Hp}(Pv:Nat->St->Hp->Prop)(h0:Pv 0 σ H)
   (hs:∀i σ H,i<n->Pv i σ H->g (.int (lo+i)) σ H λσ2 H2=>tb {D with nx:=Pv (i+1),ct:=Pv (i+1),bk:=D.nx} σ2 H2) (hd:∀σ H,Pv n σ H->D.nx σ H) :
   ∃W:Nat->Nat->St->Hp->Prop,(∃m,W 0 m σ H)/\∀i m σ H,W i m σ H ->
     ((B6 lo n).stop i H/\D.nx σ H)\/((B6 lo n).go i H/\∃N:St->Hp->Prop,(∀σ' H',N σ' H'->∃m',m'<m/\W (i+1) m' σ' H')/\∀x H',(B6 lo n).yld i H x H'->g x σ H' λσ2 H2=>tb {D with nx:=N,ct:=N,bk:=D.nx} σ2 H2):=by
 #⟨λi m σ H=>m=n-i/\i<=n/\Pv i σ H,⟨n,by simp,Sd _,h0⟩,?_⟩
 rintro i m σ H ⟨rfl,hi,p⟩
 by_cases oM:i<n
 . #.inr ⟨oM,Pv (i+1),λσ' H' p'=>⟨n-(i+1),by lia,U,oM,p'⟩,λx H' y=>?_⟩
   @⟨e,y⟩:=y
   subst e y
   #hs i σ _ oM p
 . !e:i=n:=by lia
   subst e
   #.inl ⟨Rz _,hd σ H p⟩
abbrev R2:=V->V->Hp->VK->Prop
def gC (X:Cx)(f:Value->Value->Sem Value)(r:R2):Prop:=
 ∀(pins:O (J×Obj)) (s:Shared) (σ:St) (H:Hp) (x y:V) (v u:Value) (Q:VK),Inv X pins σ H s->RelV x v->RelV y u->r x y H Q ->
   wpAny (model X.prog X.w) X.A (f v u) (EP X pins σ Q) X.xe s
def JF (X:Cx)(f:Value->Sem Value)(r:V->Hp->VK->Prop):Prop:=
 ∀(pins:O (J×Obj)) (s:Shared) (σ:St) (H:Hp) (x:V) (v:Value) (Q:VK),Inv X pins σ H s->RelV x v->r x H Q ->
   wpAny (model X.prog X.w) X.A (f v) (EP X pins σ Q) X.xe s
def dz (X:Cx)(f:Value)(r:O V->Hp->VK->Prop):Prop:=
 ∀(pins:O (J×Obj)) (s:Shared) (σ:St) (H:Hp) (xs:O V) (us:O Value) (Q:VK),Inv X pins σ H s->Vals xs us->r xs H Q ->
   wpAny (model X.prog X.w) X.A (call f us) (EP X pins σ Q) X.xe s
def yA (r:R2)(ta tb:TE):TE:=λσ H Q=>ta σ H λx H1=>tb σ H1 λy H2=>r x y H2 Q
def Ni (r:V->Hp->VK->Prop)(ta:TE):TE:=λσ H Q=>ta σ H λx H1=>r x H1 Q
def rI (C:Int->Int->Prop)(g:Int->Int->V):R2:=λx y H Q=>∃i j,x=.int i/\y=.int j/\C i j/\Q (g i j) H
def uY (g:Int->Int->V):R2:=λx y H Q=>∃i j,x=.int i/\y=.int j/\Q (g i j) H
def rU (g:Int->V):V->Hp->VK->Prop:=λx H Q=>∃i,x=.int i/\Q (g i) H
section
variable{X:Cx}{a b c:Expr}{ta tb tc:TE}{pos:Pos}
def Cg (ha:PE X a ta)(hb:PE X b tb){pins:O (J×Obj)}{s:Shared}{σ:St}{H:Hp}{R:V->V->Hp->Prop}(I:Inv X pins σ H s)
   (h:ta σ H λx H1=>tb σ H1 λy H2=>R x y H2) {Q:Value->Shared->Prop} {f:Value->Value->Sem Value}
   (hf:∀v u s2 x y H2,Inv X pins σ H2 s2->RelV x v->RelV y u->R x y H2->wpAny (model X.prog X.w) X.A (f v u) Q X.xe s2) :
   wpAny (model X.prog X.w) X.A (eval a X.env) (λv s₁=>wpAny (model X.prog X.w) X.A (eval b X.env) (λu s₂=>wpAny (model X.prog X.w) X.A (f v u) Q X.xe s₂) X.xe s₁) X.xe s:=by
 #bw (ha pins s σ H _ I h) λv s1 h9=>?_
 @⟨x,H1,I1,r1,q1⟩:=h9
 #bw (hb pins s1 σ H1 _ I1 q1) λu s2 h9=>?_
 @⟨y,H2,I2,r2,q2⟩:=h9
 #hf v u s2 x y H2 I2 r1 r2 q2
def Hq {op:V5}{r:R2}(ho:gC X (binaryOp op) r)(ha:PE X a ta)(hb:PE X b tb):PE X (.BinOp a op b pos) (yA r ta tb):=by
 intro pins s σ H Q I h
 #wpAny_BinOp (Cg ha hb I h λv u s2 x y H2 I2 rx ry q=>ho pins s2 σ H2 x y v u Q I2 rx ry q)
def Hs {op:UnaryOp}{r:V->Hp->VK->Prop}(ho:JF X (unaryOp op) r)(ha:PE X a ta):PE X (.UnaryOp op a pos) (Ni r ta):=by
 intro pins s σ H Q I h
 #UnaryOp_ (bw (ha pins s σ H _ I h) λv s1 h9=>?_)
 @⟨x,H1,I1,r1,q1⟩:=h9
 #ho pins s1 σ H1 x v Q I1 r1 q1
def G7 {f:Value->Value->Sem Value}{C:Int->Int->Prop}{g:Int->Int->Int}
   (rule:∀(i j:Int) (t u:Tok) (s:Shared) (Q:Value->Shared->Prop) (E:Value->Shared->Prop),C i j->Q (.int (g i j) s.toks) {s with toks:=s.toks+1}->wpAny (model X.prog X.w) X.A (f (.int i t) (.int j u)) Q E s) :
   gC X f (rI C λi j=>.int (g i j)):=by
 intro pins s σ H x y v u Q I rx ry h
 @⟨i,j,rfl,rfl,hc,q⟩:=h
 @⟨t,rfl⟩:=rx
 @⟨t',rfl⟩:=ry
 #rule i j t t' s _ _ hc ⟨.int (g i j),H,I.tok _,⟨_,U⟩,q⟩
def G8 {f:Value->Value->Sem Value}{g:Int->Int->Int}
   (rule:∀(i j:Int) (t u:Tok) (s:Shared) (Q:Value->Shared->Prop) (E:Value->Shared->Prop),Q (.int (g i j) s.toks) {s with toks:=s.toks+1}->wpAny (model X.prog X.w) X.A (f (.int i t) (.int j u)) Q E s) :
   gC X f (uY λi j=>.int (g i j)):=by
 intro pins s σ H x y v u Q I rx ry h
 @⟨i,j,rfl,rfl,q⟩:=h
 @⟨t,rfl⟩:=rx
 @⟨t',rfl⟩:=ry
 #rule i j t t' s _ _ ⟨.int (g i j),H,I.tok _,⟨_,U⟩,q⟩
def Dj {f:Value->Value->Sem Value}{g:Int->Int->Bool}
   (rule:∀(i j:Int) (t u:Tok) (s:Shared) (Q:Value->Shared->Prop) (E:Value->Shared->Prop),Q (.bool (g i j)) s->wpAny (model X.prog X.w) X.A (f (.int i t) (.int j u)) Q E s) :
   gC X f (uY λi j=>.bl (g i j)):=by
 intro pins s σ H x y v u Q I rx ry h
 @⟨i,j,rfl,rfl,q⟩:=h
 @⟨t,rfl⟩:=rx
 @⟨t',rfl⟩:=ry
 #rule i j t t' s _ _ ⟨.bl (g i j),H,I,U,q⟩
def Fs (i j:Int):Prop:=0<=j/\j<=1000000/\i.natAbs<2^64
def yF (i j:Int):Prop:=(-(2^64)<i/\i<2^64)\/(-(2^64)<j/\j<2^64)
def yF.ok {i j:Int}(h:yF i j):IntMulOk i j:=by
 rcases h with⟨h1,h2⟩|⟨h1,h2⟩
 . #.of_left (intBits_le_64 h1 h2)
 . #.of_right (intBits_le_64 h1 h2)
def two_pow_nn (k:Nat):(0:Int)<=2^k:=by
 rw[two_pow_cast]
 #Int.natCast_nonneg _
def Dk:gC X (binaryOp .Add) (uY λi j=>.int (i+j)):=G8 λz z z z z z z q=>add_int q
def Dw:gC X (binaryOp .Sub) (uY λi j=>.int (i-j)):=G8 λz z z z z z z q=>sub_int q
def Ds:gC X (binaryOp .Mult) (rI yF λi j=>.int (i*j)):=G7 λz z z z z z z hc q=>mul_int q hc.ok
def Dr:gC X (binaryOp .Mod) (rI (λz j=>0<j) λi j=>.int (i%j)):=G7 λi j z z z z z hc q=>by
 !h1:(0:Int)<j:=hc
 #mod_int' (by lia) (by rw[Int.fmod_eq_emod_of_nonneg i (by lia)];#q)
def Du:gC X (binaryOp .Pow) (rI Fs λi j=>.int (i^j.toNat)):=G7 λz z z z z z z hc q=>pow_int_small hc.1 hc.2.1 hc.2.2 q
def Dv:gC X (binaryOp .RShift) (rI (λz j=>0<=j) λi j=>.int (i/2^j.toNat)):=G7 λi j z z z z z hc q=>
 rshift_int hc (by rw[VT i (two_pow_nn _)];#q)
def QE {f:Value->Sem Value}{g:Int->Int}
   (rule:∀(i:Int) (t:Tok) (s:Shared) (Q:Value->Shared->Prop) (E:Value->Shared->Prop),Q (.int (g i) s.toks) {s with toks:=s.toks+1}->wpAny (model X.prog X.w) X.A (f (.int i t)) Q E s) :
   JF X f (rU λi=>.int (g i)):=by
 intro pins s σ H x v Q I rx h
 @⟨i,rfl,q⟩:=h
 @⟨t,rfl⟩:=rx
 #rule i t s _ _ ⟨.int (g i),H,I.tok _,⟨_,U⟩,q⟩
def EO:JF X (unaryOp .USub) (rU λi=>.int (-i)):=QE λz z z z z q=>neg_int q
end
def Im:V->V->Bool
 | .bI,.bI=>true|.bI,.int _=>true|.int _,.bI=>true|.bI,.bl _=>true|.bl _,.bI=>true|.bI,.str _=>true|.str _,.bI=>true
 | .int _,.int _=>true|.bl _,.bl _=>true|.str _,.str _=>true|.byt _,.byt _=>true
 | .int _,.str _=>true|.str _,.int _=>true|.bl _,.str _=>true|.str _,.bl _=>true
 | _,_=>false
def MU:R2:=λx y H Q=>Im x y=true/\Q (.bl (decide (x=y))) H
def MV:R2:=λx y H Q=>Im x y=true/\Q (.bl (!decide (x=y))) H
def qX {i j:Int}:decide (V.int i=V.int j)=(i==j):=by
 rw[UX]
 simp
def vp {i j:Bool}:decide (V.bl i=V.bl j)=(i==j):=by
 rw[UX]
 simp
def qY {i j:Str}:decide (V.str i=V.str j)=(i==j):=by
 rw[UX]
 simp
def qW {i j:Array UInt8}:decide (V.byt i=V.byt j)=(i.toList==j.toList):=by
 rw[UX]
 cases i
 cases j
 simp
section
variable{X:Cx}{a b c:Expr}{ta tb tc:TE}{pos:Pos}
def bh {pins:O (J×Obj)}{σ:St}{H:Hp}{s:Shared}{Q:VK}{k k':Bool}(I:Inv X pins σ H s)(q:Q (.bl k) H)(e:k=k'):EP X pins σ Q (.bool k') s:=by
 subst e
 #⟨.bl k,H,I,U,q⟩
def G9:gC X (compareOp .Eq) MU:=by
 intro pins s σ H x y v u Q I rx ry h
 @⟨hs,q⟩:=h
 cases x with
 | bI=>
   cases rx
   cases y with
   | bI=>cases ry;#PySem.EqNone.eq_none_none (bh I q (by simp))
   | bl j=>cases ry;#PySem.EqNone.eq_none_bool (bh I q (by simp))
   | int j=>@⟨t',rfl⟩:=ry;#PySem.EqNone.eq_none_int (bh I q (by simp))
   | str j=>@⟨t',rfl⟩:=ry;#PySem.EqNone.eq_none_str (bh I q (by simp))
   | _=>#au (show false=true from hs) RV
 | bl i=>
   cases rx
   cases y with
   | bI=>cases ry;#PySem.EqNone.eq_bool_none (bh I q (by simp))
   | bl j=>cases ry;#eq_bool (bh I q vp)
   | str j=>@⟨t',rfl⟩:=ry;#PySem.EqMixed.eq_bool_str (bh I q (by simp))
   | _=>#au (show false=true from hs) RV
 | int i=>
   @⟨t,rfl⟩:=rx
   cases y with
   | bI=>cases ry;#PySem.EqNone.eq_int_none (bh I q (by simp))
   | int j=>@⟨t',rfl⟩:=ry;#eq_int (bh I q qX)
   | str j=>@⟨t',rfl⟩:=ry;#PySem.EqMixed.eq_int_str (bh I q (by simp))
   | _=>#au (show false=true from hs) RV
 | str i=>
   @⟨t,rfl⟩:=rx
   cases y with
   | bI=>cases ry;#PySem.EqNone.eq_str_none (bh I q (by simp))
   | bl j=>cases ry;#PySem.EqMixed.eq_str_bool (bh I q (by simp))
   | int j=>@⟨t',rfl⟩:=ry;#PySem.EqMixed.eq_str_int (bh I q (by simp))
   | str j=>@⟨t',rfl⟩:=ry;#eq_str (bh I q qY)
   | _=>#au (show false=true from hs) RV
 | byt i=>
   @⟨t,rfl⟩:=rx
   cases y with
   | byt j=>@⟨t',rfl⟩:=ry;#PySem.W.eq_bytes (bh I q qW)
   | _=>#au (show false=true from hs) RV
 | _=>cases y<;>#au (show false=true from hs) RV
def Hh:gC X (compareOp .NotEq) MV:=by
 intro pins s σ H x y v u Q I rx ry h
 @⟨hs,q⟩:=h
 cases x with
 | bI=>
   cases rx
   cases y with
   | bI=>cases ry;#PySem.EqNone.ne_none_none (bh I q (by simp))
   | bl j=>cases ry;#PySem.EqNone.ne_none_bool (bh I q (by simp))
   | int j=>@⟨t',rfl⟩:=ry;#PySem.EqNone.ne_none_int (bh I q (by simp))
   | str j=>@⟨t',rfl⟩:=ry;#PySem.EqNone.ne_none_str (bh I q (by simp))
   | _=>#au (show false=true from hs) RV
 | bl i=>
   cases rx
   cases y with
   | bI=>cases ry;#PySem.EqNone.ne_bool_none (bh I q (by simp))
   | bl j=>cases ry;#ne_bool (bh I q (congrArg not vp))
   | str j=>@⟨t',rfl⟩:=ry;#PySem.EqMixed.ne_bool_str (bh I q (by simp))
   | _=>#au (show false=true from hs) RV
 | int i=>
   @⟨t,rfl⟩:=rx
   cases y with
   | bI=>cases ry;#PySem.EqNone.ne_int_none (bh I q (by simp))
   | int j=>@⟨t',rfl⟩:=ry;#ne_int (bh I q (congrArg not qX))
   | str j=>@⟨t',rfl⟩:=ry;#PySem.EqMixed.ne_int_str (bh I q (by simp))
   | _=>#au (show false=true from hs) RV
 | str i=>
   @⟨t,rfl⟩:=rx
   cases y with
   | bI=>cases ry;#PySem.EqNone.ne_str_none (bh I q (by simp))
   | bl j=>cases ry;#PySem.EqMixed.ne_str_bool (bh I q (by simp))
   | int j=>@⟨t',rfl⟩:=ry;#PySem.EqMixed.ne_str_int (bh I q (by simp))
   | str j=>@⟨t',rfl⟩:=ry;#ne_str (bh I q (congrArg not qY))
   | _=>#au (show false=true from hs) RV
 | byt i=>
   @⟨t,rfl⟩:=rx
   cases y with
   | byt j=>@⟨t',rfl⟩:=ry;#PySem.W.ne_bytes (bh I q (congrArg not qW))
   | _=>#au (show false=true from hs) RV
 | _=>cases y<;>#au (show false=true from hs) RV
def Hg:gC X (compareOp .Lt) (uY λi j=>.bl (decide (i<j))):=Dj λz z z z z z z q=>lt_int q
def Hf:gC X (compareOp .Gt) (uY λi j=>.bl (decide (j<i))):=Dj λz z z z z z z q=>gt_int q
def He:gC X (compareOp .GtE) (uY λi j=>.bl (decide (j<=i))):=Dj λz z z z z z z q=>ge_int q
def Dp:gC X (compareOp .Is) (λx y H Q=>y=.bI/\Q (.bl (decide (x=.bI))) H):=by
 intro pins s σ H x y v u Q I rx ry h
 @⟨rfl,q⟩:=h
 cases ry
 #is_none_gen (bh I q ?_)
 cases x<;>first
   | (cases rx;rfl)
   | (@⟨t,rfl⟩:=rx;rfl)
def zX:gC X (compareOp .IsNot) (λx y H Q=>y=.bI/\Q (.bl (!decide (x=.bI))) H):=by
 intro pins s σ H x y v u Q I rx ry h
 @⟨rfl,q⟩:=h
 cases ry
 #isnot_none_gen (bh I q ?_)
 cases x<;>first
   | (cases rx;rfl)
   | (@⟨t,rfl⟩:=rx;rfl)
def wC (b:Expr){op:CmpOp}(h:op≠.In:=by left)(h2:op≠.NotIn:=by left):TQ op b=false:=by
 !e1:(op==CmpOp.In)=false:=by cases op<;>first|rfl|show au rfl h
 !e2:(op==CmpOp.NotIn)=false:=by cases op<;>first|rfl|show au rfl h2
 cases b<;>simp[TQ,e1,e2]
def z5 {op:CmpOp}{r:R2}(ho:gC X (compareOp op) r)(ha:PE X a ta)(hb:PE X b tb)(hm:TQ op b=false):PE X (.Compare a [op] [b] pos) (yA r ta tb):=by
 intro pins s σ H Q I h
 #wpAny_Compare1 (Cg ha hb I h λv u s2 x y H2 I2 rx ry q=>ho pins s2 σ H2 x y v u Q I2 rx ry q) hm
def B0 (t:TE):TT:=λσ H Q=>t σ H λx H'=>∃k,x=.bl k/\Q k H'
def Ap {op:CmpOp}{r:R2}(ho:gC X (compareOp op) r)(ha:PE X a ta)(hb:PE X b tb)(hm:TQ op b=false):PT X (.Compare a [op] [b] pos) (B0 (yA r ta tb)):=by
 intro pins s σ H Q I h
 #wpAny_isTrue_Compare1 (bw (ha pins s σ H _ I h) λv s1 ⟨x,H1,I1,r1,q1⟩=>bw (hb pins s1 σ H1 _ I1 q1) λu s2 ⟨y,H2,I2,r2,q2⟩=>
   bw (ho pins s2 σ H2 x y v u _ I2 r1 r2 q2) λc s3 ⟨z,H3,I3,r3,k,e,q3⟩=>?_) hm
 subst e
 cases r3
 #wpAny_truthy_bool ⟨H3,I3,q3⟩
def ip:(sizeLine:Nat)<2^63:=by rw[sizeLine_eq];decide
def vals1 {x:V}{us:O Value}(r:Vals [x] us):∃u,us=[u]/\RelV x u:=by
 cases r with
 | cons r1 r2=>cases r2;#⟨_,rfl,r1⟩
def sQ:dz X (.type "int") (λxs H Q=>(∃i,xs=[.int i]/\Q (.int i) H)\/∃k,xs=[.bl k]/\Q (.int (if k then 1 else 0)) H):=by
 intro pins s σ H xs us Q I r h
 rcases h with⟨i,rfl,q⟩|⟨k,rfl,q⟩
 . @⟨u,rfl,t,rfl⟩:=vals1 r
   #call_int_int ⟨.int i,H,I,⟨_,U⟩,q⟩
 . @⟨u,rfl,r1⟩:=vals1 r
   cases r1
   #call_int_bool ⟨.int (if k then 1 else 0),H,I.tok _,⟨_,U⟩,q⟩
def mS:dz X (.type "str") (λxs H Q=>∃i,xs=[.int i]/\i.natAbs.log2<1920/\Q (.str (toString i)) H):=by
 intro pins s σ H xs us Q I r h
 @⟨i,rfl,hz,q⟩:=h
 @⟨u,rfl,t,rfl⟩:=vals1 r
 #PySem.P.str_of_int hz ⟨.str _,H,I.tok _,⟨_,U⟩,q⟩
end
structure pG (h:Heap)(x dx C:J)(mA:Str->Option Value):Prop where
 obj:h.get? x=S (S9 C dx)
 ns:h.Ns1 dx mA
 ne:dx≠x
def ua {h:Heap}{dx:J}{mA:Str->Option Value}(n:h.Ns1 dx mA):∃od,h.get? dx=S od/\∀name,UN name od=S (mA name):=by
 @⟨o,es,ep,ho,hd,hk,_,hm⟩:=n
 #⟨o,ho,λname=>?_⟩
 !e:=hm name
 unfold nsFind findBy at e
 rw[← Array.find?_toList]at e
 unfold UN
 rw[hd]
 dsimp only
 split
 . rename_i y q
   rw[q]at e
   #congrArg S e
 . rename_i q
   rw[q]at e
   !a:es.toList.any (·.refKey)=false:=by
     rw[Uw]
     intro y hy
     @⟨z,t,Ky⟩:=hk y (Array.mem_toList_iff.mp hy)
     simp[DictEntry.refKey,Ky]
   !a':¬ es.toList.any (·.refKey)=true:=by rw[a];#RV
   rw[dh a']
   #congrArg S e
def pG.look {h:Heap}{x dx C:J}{mA:Str->Option Value}(I:pG h x dx C mA):∃od,PySem.W.InstAt h x (S9 C dx) C (S od)/\∀name,UN name od=S (mA name):=
 let⟨od,ho,hl⟩:=ua I.ns
 ⟨od,⟨I.obj,rfl,rfl,ho⟩,hl⟩
section
variable{prog:Program}{w:World}{A:Around}{E:Value->Shared->Prop}{s:Shared}{K:Ro}{x dx C f:J}{mA:Str->Option Value}{name:Str}{v:Value}
def get_map {expr:Bool}{Q:Value->Shared->Prop}(X:K.In s.heap)(I:pG s.heap x dx C mA)(hg:Uv K C name=true)(hh:Vd K C=true)
   (ha:Sw K (.ref C) name=S Z) (hv:mA name=S v) (hv':PySem.W.handedIn v=true) (h:Q v {s with toks:=s.toks+1}) :
   wpAny (model prog w) A (getAttr (.ref x) name expr) Q E s:=by
 @⟨od,J8x,hl⟩:=I.look
 #PySem.W.get_value X J8x (UY hg).1 (PySem.W.findObj_own hh ha rfl (by rw[hl,hv])) hv' h
def vI {pl:Sem Bool}{Q:Value×O Value->Shared->Prop}(X:K.In s.heap)(I:pG s.heap x dx C mA)(hg:Uv K C name=true)
   (hf:Sw K (.ref C) name=S (S (.ref f))) (ht:VZ K (.ref f)=true) (hv:mA name=Z) (h:Q (.ref f,[.ref x]) s) :
   wpAny (model prog w) A (getMethod (.ref x) name pl) Q E s:=by
 @⟨od,J8x,hl⟩:=I.look
 #PySem.W.method_fn X J8x (UY hg).1 (UY hg).2 hf (beq_iff_eq.mp ht) (by change(UN name od).map (·.isSome)=S false;rw[hl,hv];rfl) h
def AF {ns:O Str}{Q:Unit->Shared->Prop}(X:K.In s.heap)(I:pG s.heap x dx C mA)
   (hs:Sw K (.ref C) "__setattr__"=S (S (.builtin "object.__setattr__"))) (hp:Wj K C=true) (ht:Vn K C name=S Z) (hh:Vd K C=true)
   (hw:Wc mA ns) (hsz:ns~<=sizeLine)
   (h:∀h',pG h' x dx C (λy=>if y=name then S v else mA y)->Sz dx s.heap h'->Q () {s with heap:=h',toks:=s.toks+2}) :
   wpAny (model prog w) A (setAttr (.ref x) name v) Q E s:=by
 @⟨od,J8x,hl⟩:=I.look
 #PySem.W.set_plain X J8x hs (PySem.W.osa_open (s:={s with toks:=s.toks+1}) (r:=Z) X J8x hp ht λb=>?_)
 @⟨cd,hc,Ge⟩:=PySem.W.any_some hh
 !hx:s.heap.get? x=S ⟨.ref C,S dx,.plain,#[]⟩:=I.obj
 #wpAny_bind (wpAny_pure (wpAny_bind (wpAny_bind (wpAny_loadPart hx (wpAny_bind (PySem.W.Looks.here (s:={s with toks:=s.toks+1}) (PySem.W.looks_clsIn X hc) ?_))))))
 rw[Ge]
 #wpAny_pure (a:=S dx) (wpAny_bind (wpAny_pure (wpAny_bind ?_)))
 #wpAny_nsSet1 (s:={s with toks:=s.toks+1}) I.ns λh' hn2 hs2=>?_
 @⟨oD,QS,QR,Pc,OX,OT⟩:=hn2.count (PySem.Within.cons name v hw)
 #wpAny_bind (wpAny_lookBehind Pc (by rw[OX];#pastItsLine_dict (Ry OT (by rw[RE];lia))) ?_)
 #wpAny_pure (h _ ⟨(hs2.2 _ (Ne.symm I.ne)).trans I.obj,hn2,I.ne⟩ hs2)
def wg {R:Result->Shared->Prop}{vs:O Value}{kw:O (Str×Value)}(X:K.In s.heap)(hm:PySem.W.makesIn K C=true)
   (hi:Sw K (.ref C) "__init__"=S (S (.ref f))) (hf:PySem.W.typeIn K (.ref f)=S (.type "function"))
   (h:codeAny (model prog w) (A.under (.builtin "type.__call__" ⟨.ref C::vs,kw⟩)) (.call (.ref f) ⟨.ref (s.heap.objs.size+1)::vs,kw⟩) (PySem.W.InitBack (s.heap.objs.size+1) R)
     {s with heap:=(s.heap.push SF).push (S9 C s.heap.objs.size)}) :
   codeAny (model prog w) A (.call (.ref C) ⟨vs,kw⟩) R s:=by
 @⟨hh,g,d,t,os⟩:=s
 #PySem.W.make_core (PySem.W.makes_of X hm) (PySem.W.looks_findIn X hi) (λself=>PySem.W.bind_fn X self hf) (.inl rfl) h
end
def fM (f:Str)(v:V):O (Str×V)->O (Str×V)
 | []=>[(f,v)]
 | (g,x)::r=>if g=f then(g,v)::r else(g,x)::fM f v r
theorem jz (f g:Str)(v:V):∀fs:O (Str×V),(fM f v fs).lookup g=if g=f then S v else fs.lookup g
 | []=>by
   change Uh g [(f,v)]=_
   by_cases h:g=f
   . !hb:(g==f)=true:=beq_iff_eq.mpr h
     simp only[Uh,hb,dI h]
   . !hb:(g==f)=false:=beq_eq_false_iff_ne.mpr h
     simp only[Uh,hb,dh h]
 | (k,x)::r=>by
   !ih:=jz f g v r
   rw[show fM f v ((k,x)::r)=(if k=f then(k,v)::r else(k,x)::fM f v r)from rfl]
   by_cases hk:k=f
   . rw[dI hk]
     by_cases h:g=k
     . !hb:(g==k)=true:=beq_iff_eq.mpr h
       simp only[Uh,hb,dI (h.trans hk)]
     . !hb:(g==k)=false:=beq_eq_false_iff_ne.mpr h
       simp only[Uh,hb,dh (λe:g=f=>h (e.trans hk.symm))]
   . rw[dh hk]
     by_cases h:g=k
     . !hb:(g==k)=true:=beq_iff_eq.mpr h
       simp only[Uh,hb,dh (λe:g=f=>hk (h.symm.trans e))]
     . !hb:(g==k)=false:=beq_eq_false_iff_ne.mpr h
       simp only[Uh,hb]
       #ih
theorem jq (f:Str)(v:V):∀fs:O (Str×V),f∈(fM f v fs).map (·.1)/\∀g,g∈fs.map (·.1)->g∈(fM f v fs).map (·.1)
 | []=>⟨by simp[fM],λg h=>by simp at h⟩
 | (k,x)::r=>by
   @⟨i1,i2⟩:=jq f v r
   rw[show fM f v ((k,x)::r)=(if k=f then(k,v)::r else(k,x)::fM f v r)from rfl]
   by_cases hk:k=f
   . rw[dI hk]
     subst hk
     #⟨by simp,λg h=>by simpa using h⟩
   . rw[dh hk]
     #⟨?_,λg h=>?_⟩
     . rw[R3]
       #RC _ i1
     . rw[R3]at h ⊢
       rcases List.mem_cons.mp h with e|e
       . #List.mem_cons.mpr (.inl e)
       . #RC _ (i2 g e)
theorem jy (f:Str)(v:V):∀fs:O (Str×V),(fM f v fs)~<=fs~+1
 | []=>by simp[fM]
 | (k,x)::r=>by
   !ih:=jy f v r
   rw[show fM f v ((k,x)::r)=(if k=f then(k,v)::r else(k,x)::fM f v r)from rfl]
   by_cases hk:k=f
   . rw[dI hk,RE,RE];lia
   . rw[dh hk,RE,RE];lia
def eh.some_of {v:V}{o:Option Value}(r:eh (S v) o):∃u,o=S u/\RelV v u:=by
 cases o with
 | none=>#(show False from r).elim
 | some u=>#⟨u,rfl,r⟩
def eh.none_of {o:Option Value}(r:eh Z o):o=Z:=by
 cases o with
 | none=>rfl
 | some u=>#(show False from r).elim
def tK {v:V}{u:Value}(r:RelV v u):PySem.W.handedIn u=true:=by
 cases v with
 | bI=>cases(show u=SH from r);rfl
 | bl b=>cases(show u=Ur b from r);rfl
 | int i=>@⟨t,e⟩:=(show ∃t,u=UL i t from r);cases e;rfl
 | str x=>@⟨t,e⟩:=(show ∃t,u=Uq x t from r);cases e;rfl
 | byt b=>@⟨t,e⟩:=(show ∃t,u=Value.bytes b t from r);cases e;rfl
 | flt b=>@⟨t,e⟩:=(show ∃t,u=Value.float b t from r);cases e;rfl
 | ref a=>cases(show u=R6 a from r);rfl
 | ty n=>cases(show u=Vk n from r);rfl
section
variable{P:Program}{w:World}{H H':Hp}{h h':Heap}{a C dx:J}{fs y7:O (Str×V)}
def nk (hok:fW P w H h)(e:H a=S (.ins C dx fs)):∃mA,pG h a dx C mA/\(∀f,eh (fs.lookup f) (mA f))/\Wc mA (fs.map (·.1))/\fs~<=1000/\H dx=S (.own a):=by
 @⟨d,z,ne,ob,mA,n,r,q⟩:=(show bB P w H h a (.ins C dx fs)from hok a _ e)
 #⟨mA,⟨ob,n,ne⟩,r,q,z,d⟩
end
structure pq (K:Ro)(C:J):Prop where
 pg:Uv K C TR=true
 hd:Vd K C=true
 po:Wj K C=true
 sa:Sw K (.ref C) "__setattr__"=S (S (.builtin "object.__setattr__"))
def pq.get {K:Ro}{C:J}(c:pq K C)(f:Str):Uv K C f=true:=c.pg
def cO (K:Ro)(C:J)(f:Str):Prop:=Sw K (.ref C) f=S Z
def cO.IG {K:Ro}{C:J}{f:Str}(n:cO K C f):Vn K C f=S Z:=by
 unfold Vn
 rw[show Sw K (.ref C) f=S Z from n]
 rfl
structure Meth (K:Ro)(C:J)(m:Str)(f:J):Prop where
 at_:Sw K (.ref C) m=S (S (.ref f))
 fn:VZ K (.ref f)=true
 kp:Tf K (.ref f)=true
section
variable{X:Cx}{pins:O (J×Obj)}{σ:St}{H:Hp}{s:Shared}{a C dx:J}{fs:O (Str×V)}{f:Str}{v:V}{A:Around}{E:Value->Shared->Prop}
def kD {b:Bool}{Q:Value->Shared->Prop}(I:Inv X pins σ H s)(e:H a=S (.ins C dx fs))(c:pq X.K C)(n:cO X.K C f)(l:fs.lookup f=S v)
   (h:∀u s',Inv X pins σ H s'->RelV v u->Q u s'):wpAny (model X.prog X.w) A (getAttr (.ref a) f b) Q E s:=by
 @⟨mA,O8x,r,_,_,_⟩:=nk I.hok e
 @⟨u,hu,ru⟩:=eh.some_of (v:=v) (o:=mA f) (by rw[← l];#r f)
 #get_map I.lM O8x (c.get f) c.hd n hu (tK ru) (h u _ (I.tok _) ru)
def kE {m:Str}{g:J}{pl:Sem Bool}{Q:Value×O Value->Shared->Prop}(I:Inv X pins σ H s)(e:H a=S (.ins C dx fs))(c:pq X.K C)(k:Meth X.K C m g)(l:fs.lookup m=Z)
   (h:Q (.ref g,[.ref a]) s):wpAny (model X.prog X.w) A (getMethod (.ref a) m pl) Q E s:=by
 @⟨mA,O8x,r,_,_,_⟩:=nk I.hok e
 !hn:mA m=Z:=eh.none_of (by rw[← l];#r m)
 #vI I.lM O8x (c.get m) k.at_ k.fn hn h
def kX {y:V}{u:Value}{Q:Unit->Shared->Prop}(I:Inv X pins σ H s)(e:H a=S (.ins C dx fs))(c:pq X.K C)(n:cO X.K C f)(hl:fs~<1000)(ry:RelV y u)
   (h:∀s',Inv X pins σ (upd H a (.ins C dx (fM f y fs))) s'->Q () s'):wpAny (model X.prog X.w) A (setAttr (.ref a) f u) Q E s:=by
 @⟨mA,O8x,r,wi,_,ho⟩:=nk I.hok e
 !hz:(fs.map (·.1))~<=sizeLine:=by rw[Rn,sizeLine_eq];lia
 #AF I.lM O8x c.sa c.po n.IG c.hd wi hz λh' O' sb=>h _ ?_
 !hd:∃o,h'.get? dx=S o:=by@⟨o,_,_,e',_⟩:=O'.ns;#⟨o,e'⟩
 #I.write (x:=a) (e:=dx) (by rw[e];#RO) (.inr ho) (λb q hb z=>(sb.2 b hb).trans z) hd ?_
 #⟨by rw[ah O8x.ne];#ho,?_,O8x.ne,O'.obj,_,O'.ns,λg=>?_,λg hg=>?_⟩
 . !:=jy f y fs;lia
 . change eh ((fM f y fs).lookup g) (if g=f then S u else mA g)
   rw[jz]
   by_cases q:g=f
   . rw[dI q,dI q];#ry
   . rw[dh q,dh q];#r g
 . by_cases q:g=f
   . rw[q];#(jq f y fs).1
   . #(jq f y fs).2 g (wi g λz=>hg ?_)
     change(if g=f then S u else mA g)=Z
     rw[dh q];#z
def Inv.made (I:Inv X pins σ H s):Inv X pins σ (upd (upd H s.heap.objs.size (.own (s.heap.objs.size+1))) (s.heap.objs.size+1) (.ins C s.heap.objs.size []))
   {s with heap:=(s.heap.push SF).push (S9 C s.heap.objs.size)}:=by
 !e1:(s.heap.push SF).get? s.heap.objs.size=S SF:=RK s.heap rfl
 !e2:((s.heap.push SF).push (S9 C s.heap.objs.size)).get? (s.heap.objs.size+1)=S (S9 C s.heap.objs.size):=by
   !:=RK (s.heap.push SF) (o:=S9 C s.heap.objs.size) rfl
   rwa[Tr]at this
 !e3:(s.heap.push SF).Ns s.heap.objs.size (λz=>Z):=⟨SF,#[],_,e1,rfl,(λe he=>au he (by simp)),λz=>rfl⟩
 !I1:=I.laid (a:=s.heap.objs.size) (o:=.own (s.heap.objs.size+1)) (h':=s.heap.push SF) (t':=s.toks) (λb u q=>Rr _ q) (Rz _) ⟨_,e1⟩
 #I1.laid (a:=s.heap.objs.size+1) (o:=.ins C s.heap.objs.size []) (t':=s.toks) (λb u q=>Rr _ q) (Nat.le_of_eq (Tr _ _)) ?_
 !ne:s.heap.objs.size≠s.heap.objs.size+1:=R1 (Tq _)
 #⟨by rw[ah ne,ae],Sd _,ne,e2,λz=>Z,(Heap.Ns1.of_empty e3).at λo q=>Rr _ q,λz=>RO,λy hy=>au rfl hy⟩
def yK {prog:Program}{w:World}{env:Env}{e:Expr}{f:Str}{pos:Pos}{s:Shared}{Q:Value->Shared->Prop}(hb:Ss e f env (eval e env)=eval e env)
   (h:wpAny (model prog w) A (eval e env) (λo s₁=>wpAny (model prog w) A (getAttr o f true) Q E s₁) E s):wpAny (model prog w) A (eval (.Attribute e f pos) env) Q E s:=
 Attribute_any_ h (by rw[arm_eval_Attribute,hb])
end
def IA (K:Ro)(ta:TE)(f:Str):TE:=λσ H Q=>ta σ H λx H1=>∃a C dx fs v,x=.ref a/\H1 a=S (.ins C dx fs)/\pq K C/\cO K C f/\fs.lookup f=S v/\Q v H1
def Ih (K:Ro)(ta tv:TE)(f:Str):TS:=λD σ H=>tv σ H λy H1=>ta σ H1 λx H2=>∃a C dx fs,x=.ref a/\H2 a=S (.ins C dx fs)/\pq K C/\cO K C f/\fs~<1000 /\
 D.nx σ (upd H2 a (.ins C dx (fM f y fs)))
def Fw (X:Cx)(op:V5)(rd:V->V->Hp->VK->Prop):Prop:=
 ∀(pins:O (J×Obj)) (s:Shared) (σ:St) (H:Hp) (x y:V) (u v:Value) (Q:VK),Inv X pins σ H s->RelV x u->RelV y v->rd x y H Q->wpAny (model X.prog X.w) X.A (inplaceOp op u v) (EP X pins σ Q) X.xe s
def rR (K:Ro)(ta tv:TE)(rd:V->V->Hp->VK->Prop)(f:Str):TS:=λD σ H=>ta σ H λx H1=>∃a C dx fs v,x=.ref a/\H1 a=S (.ins C dx fs)/\pq K C/\cO K C f/\fs.lookup f=S v /\
 tv σ H1 λy H2=>rd v y H2 λz H3=>∃FR y7,H3 a=S (.ins C FR y7)/\y7~<1000/\D.nx σ (upd H3 a (.ins C FR (fM f z y7)))
section
variable{X:Cx}{o e value:Expr}{f:Str}{pos pos' AN:Pos}{ta tv:TE}
def DJ (he:PE X e ta)(hb:Ss e f X.env (eval e X.env)=eval e X.env):PE X (.Attribute e f pos) (IA X.K ta f):=by
 intro pins s σ H Q I h
 #yK hb (bw (he pins s σ H _ I h) λu s1 h9=>?_)
 @⟨x,H1,I1,rx,a,C,dx,fs,v,ex,ea,c,n,l,q⟩:=h9
 subst ex
 obtain rfl:u=R6 a:=rx
 #kD I1 ea c n l λu' s2 I2 ru=>⟨v,H1,I2,ru,q⟩
def D8 (ha:PE X o ta)(hv:PE X value tv)(hs:Tw value (S (.Attribute o f pos')) pos.line X.env=pure false):PS X (.Assign [.Attribute o f pos'] value pos) (Ih X.K ta tv f):=by
 intro pins s σ H D I h
 #plainObj_wpAny_Assign_Attribute (bw (hv pins s σ H _ I h) λu s1 g9=>?_) hs
 @⟨y,H1,I1,ry,q⟩:=g9
 #bw (ha pins s1 σ H1 _ I1 q) λov s2 h9=>?_
 @⟨x,H2,I2,rx,a,C,dx,fs,ex,ea,c,n,l,q2⟩:=h9
 subst ex
 obtain rfl:ov=R6 a:=rx
 #kX I2 ea c n l ry λs3 I3=>⟨σ,_,I3,q2⟩
def uA {op:V5}{rd:V->V->Hp->VK->Prop}(ha:PE X o ta)(hv:PE X value tv)(hop:Fw X op rd):PS X (.AugAssign (.Attribute o f AN) op value pos) (rR X.K ta tv rd f):=by
 intro pins s σ H D I h
 #wpAny_AugAssign_AttributeAny (bw (ha pins s σ H _ I h) λov s1 h9=>?_)
 @⟨x,H1,I1,rx,a,C,dx,fs,v,ex,ea,c,n,l,q⟩:=h9
 subst ex
 obtain rfl:ov=R6 a:=rx
 #kD I1 ea c n l λu s2 I2 ru=>bw (hv pins s2 σ H1 _ I2 q) λw3 s3 g9=>?_
 @⟨y,H2,I3,ry,q3⟩:=g9
 #bw (hop pins s3 σ H2 v y u w3 _ I3 ru ry q3) λw4 s4 h9=>?_
 @⟨z,H3,I4,rz,FR,y7,N0,l',q4⟩:=h9
 #kX I4 N0 c n l' rz λs5 I5=>⟨σ,_,I5,q4⟩
def HN:V->V->Hp->VK->Prop:=λx y H Q=>∃i j,x=.int i/\y=.int j/\Q (.int (i+j)) H
def CN:Fw X .Add HN:=by
 rintro pins s σ H x y u v Q I rx ry ⟨i,j,rfl,rfl,q⟩
 @⟨t,rfl⟩:=(show ∃t,u=UL i t from rx)
 @⟨t',rfl⟩:=(show ∃t',v=UL j t' from ry)
 #PyProof.Rows.iadd_int ⟨.int (i+j),H,I.tok _,⟨_,U⟩,q⟩
end
structure bY (k:Nat)(A:Around):Prop where
 hd:A.handled=Z
 dp:A.depth+3*k+5<recursionLimit
 un:A.units+16*k+200<cLine
def bY.mono {j k:Nat}{A:Around}(r:bY k A)(h:j<=k):bY j A:=⟨r.hd,by !:=r.dp;lia,by !:=r.un;lia⟩
def bY.deeper {k:Nat}{A:Around}(r:bY (k+1) A)(env:Env):bY k (A.deeper env):=
 ⟨r.hd,by !:=r.dp;change A.depth+1+3*k+5<_;lia,by !:=r.un;change A.units+3+16*k+200<_;lia⟩
def qa {A:Around}{C:J}{us:O Value}{kw:O (Str×Value)}:(A.under (.builtin "type.__call__" ⟨.ref C::us,kw⟩)).depth=A.depth+1:=by
 first|rfl|simp[Wa,Code.weight,Code.isCreation,Code.isGuard,Code.isCaller,Code.frames,Wi,guardIds]
def qc {A:Around}{C:J}{us:O Value}{kw:O (Str×Value)}:(A.under (.builtin "type.__call__" ⟨.ref C::us,kw⟩)).units=A.units+1:=by
 first|rfl|simp[Wa,Code.cUnits,Code.frames,Wi]
def bY.make {k:Nat}{A:Around}(r:bY (k+1) A)(C:J)(us:O Value)(kw:O (Str×Value)):bY k (A.under (.builtin "type.__call__" ⟨.ref C::us,kw⟩)):=
 ⟨r.hd,by !:=r.dp;rw[qa];lia,by !:=r.un;rw[qc];lia⟩
def bY.depth {k:Nat}{A:Around}(r:bY k A):A.depth<recursionLimit:=by !:=r.dp;lia
def bY.units {k:Nat}{A:Around}(r:bY k A):A.units+64<cLine:=by !:=r.un;lia
def yn:TA:=λz H Q=>Q [] H
def yl (ta:TE)(tr:TA):TA:=λσ H Q=>ta σ H λx H1=>tr σ H1 λxs H2=>Q (x::xs) H2
section
variable{X:Cx}{e:Expr}{es:O Expr}{te:TE}{t:TA}{pos:Pos}
def DC:PA X [] yn:=λz z z z H Q I h=>Tc ⟨[],H,I,.nil,h⟩
def zZ (ha:PE X e te)(hr:PA X es t)(hs:starEach (e::es) X.env=(false,eval e X.env)::starEach es X.env:=by rfl):PA X (e::es) (yl te t):=by
 intro pos pins s σ H Q I h
 rw[hs]
 change wpAny _ _ (spliced ((false,eval e X.env)::backTo pos (starEach es X.env))) _ _ s
 #Su (bw (ha pins s σ H _ I h) λu s1 h9=>?_)
 @⟨x,H1,I1,r1,q1⟩:=h9
 #bw (hr pos pins s1 σ H1 _ I1 q1) λus s2 h9=>?_
 @⟨xs,H2,I2,r2,q2⟩:=h9
 #⟨x::xs,H2,I2,.cons r1 r2,q2⟩
def EN (t:TA):TE:=λσ H Q=>t σ H λxs H1=>xs~<=sizeLine/\∀p,H1 p=Z->Q (.ref p) (upd H1 p (.tup xs))
def EL (t:TA):TE:=λσ H Q=>t σ H λxs H1=>xs~<=sizeLine/\∀p,H1 p=Z->Q (.ref p) (upd H1 p (.lst xs))
def DR {x1}(h:PA X es t):PE X (.Tuple es x1 pos) (EN t):=by
 intro pins s σ H Q I hq
 #wpAny_Tuple_spliced (bw (h pos pins s σ H _ I hq) λus s1 g9=>?_)
 @⟨xs,H1,I1,r,z,q⟩:=g9
 #⟨by rw[← r~];#z,?_⟩
 !hf:H1 s1.heap.objs.size=Z:=I1.hok.fresh (Rz _)
 #⟨.ref s1.heap.objs.size,upd H1 s1.heap.objs.size (.tup xs),I1.laid (t':=s1.toks) (λb u e=>Rr _ e) (Rz _) ?_,U,q _ hf⟩
 #⟨z,us,r,⟨_,RK _ rfl,U,_,U⟩⟩
def DO (h:PA X es t):PE X (.List es pos) (EL t):=by
 intro pins s σ H Q I hq
 #wpAny_List_spliced (bw (h pos pins s σ H _ I hq) λus s1 g9=>?_)
 @⟨xs,H1,I1,r,z,q⟩:=g9
 #⟨by rw[← r~];#z,?_⟩
 !hf:H1 s1.heap.objs.size=Z:=I1.hok.fresh (Rz _)
 #⟨.ref s1.heap.objs.size,upd H1 s1.heap.objs.size (.lst xs),I1.laid (t':=s1.toks) (λb u e=>Rr _ e) (Rz _) ?_,U,q _ hf⟩
 #⟨z,us,0,r,RK _ rfl⟩
end
abbrev Sp:=O V->Hp->VK->XK->Prop
abbrev uT:=O Env->Hp->Shared->XK->Value->Shared->Prop
structure pD (P:Program)(w:World)(K:Ro)(mg:Str->Option Value)(base:Heap)(A:Around)(outer:O Env)(s:Shared)(H:Hp):Prop where
 frames:A.frames=S outer
 mod:Mod K mg base
 bs:∀b o,base.get? b=S o->s.heap.get? b=S o/\H b=Z
 bsz:base.objs.size<=s.heap.objs.size
 ib:s.heap.FunFrames base outer
 frf:∀b∈dH outer,H b=Z
 hok:fW P w H s.heap
 bare:AllBare s.gens
def CE (outer:O Env)(P:Program)(w:World)(H:Hp)(s:Shared)(Q:VK)(u:Value)(s':Shared):Prop:=
 ∃v H',s'.os=s.os/\AllBare s'.gens/\Un (dH outer) [] H H' s.heap s'.heap/\fW P w H' s'.heap/\RelV v u/\Q v H'
def CR (CX:uT)(outer:O Env)(P:Program)(w:World)(H:Hp)(s:Shared)(Q:VK)(E:XK)(r:Result)(s':Shared):Prop:=
 match r with
 | .ok (.ret u)=>CE outer P w H s Q u s'
 | .ok _=>False
 | .error e=>CX outer H s E e s'
structure aY (P:Program)(w:World)(K:Ro)(mg:Str->Option Value)(base:Heap)(CX:uT)(k:Nat)(f:J)(fd:RZ)(ps:O Str)(sp:Sp):Prop where
 len:∀vs H Q E,sp vs H Q E->vs~=ps~
 run:∀(A:Around) (outer:O Env) (s:Shared) (H:Hp) (args:Args) (us:O Value) (vs:O V) (Q:VK) (E:XK),bY k A->pD P w K mg base A outer s H->BindsTo s fd args (ps.zip us)->Vals vs us->sp vs H Q E ->
   codeAny (model P w) A (.call (.ref f) args) (CR CX outer P w H s Q E) s
def aY.mono {P:Program}{w:World}{K:Ro}{mg:Str->Option Value}{base:Heap}{CX:uT}{j k:Nat}{f:J}{fd:RZ}{ps:O Str}{sp:Sp}(F:aY P w K mg base CX j f fd ps sp)(h:j<=k) :
   aY P w K mg base CX k f fd ps sp:=⟨F.len,λA outer s H args us vs Q E hr=>F.run A outer s H args us vs Q E (hr.mono h)⟩
def pD.make {P:Program}{w:World}{K:Ro}{mg:Str->Option Value}{base:Heap}{A:Around}{outer:O Env}{s:Shared}{H:Hp}(e:pD P w K mg base A outer s H)(C:J)(us:O Value)(kw:O (Str×Value)) :
   pD P w K mg base (A.under (.builtin "type.__call__" ⟨.ref C::us,kw⟩)) outer s H:=⟨by first|show e.frames|(simpa[Wa,Code.envs,Wi,pushEnvs]using e.frames),e.mod,e.bs,e.bsz,e.ib,e.frf,e.hok,e.bare⟩
section
variable{X:Cx}{pins:O (J×Obj)}{σ:St}{H:Hp}{s s':Shared}
def Inv.FU (I:Inv X pins σ H s):pD X.prog X.w X.K X.mg X.base X.A X.stack s H:=
 ⟨I.ok.frames,I.ok.mod,I.bs,Ry I.ok.bsz I.sz,I.stack,I.n6,I.hok,I.bare⟩
def Inv.after {Q:VK}{u:Value}(I:Inv X pins σ H s)(h:CE X.stack X.prog X.w H s Q u s'):EP X pins σ Q u s':=by
 @⟨v,H',os,bare,un,hok,r,q⟩:=h
 @⟨hh,g,d,t,Ql⟩:=s'
 obtain rfl:Ql=s.os:=os
 #⟨v,H',I.call (h':=hh) (g':=g) (d':=d) (t':=t) (ch:=[]) un hok bare (λb z=>au z (by simp)),r,q⟩
end
def sA (sp:Sp)(dvs:O V)(E:XK)(t:TA):TE:=λσ H Q=>t σ H λvs H1=>sp (vs++dvs) H1 Q E
def sC (C:J)(m:Str)(sp:Sp)(dvs:O V)(E:XK)(ta:TE)(t:TA):TE:=λσ H Q=>ta σ H λx H1=>∃a dx fs,x=.ref a/\H1 a=S (.ins C dx fs)/\fs.lookup m=Z /\
 t σ H1 λvs H2=>sp (x::(vs++dvs)) H2 Q E
def BV (C:J)(sp:Sp)(dvs:O V)(E:XK)(t:TA):TE:=λσ H Q=>t σ H λvs H1=>∀x dx,H1 x=Z->H1 dx=Z->dx≠x ->
 sp (.ref x::(vs++dvs)) (upd (upd H1 dx (.own x)) x (.ins C dx [])) (λv H2=>v=.bI/\Q (.ref x) H2) E
def Binds (K:Ro)(fd:RZ)(ps:O Str)(ds:O Value):Prop:=
 ∀(s:Shared) (us:O Value),K.In s.heap->(us++ds)~=ps~->BindsTo s fd ⟨us,[]⟩ (ps.zip (us++ds))
def Binds.all {K:Ro}{fd:RZ}{ps:O Str}(h:∀us:O Value,us~=ps~->V3 fd ⟨us,[]⟩=pure (ps.zip us)):Binds K fd ps []:=λs us z hl=>by
 rw[RY]at hl ⊢
 #.of_eq (h us hl)
def Passes (CX:uT)(X:Cx)(E:XK):Prop:=∀(pins:O (J×Obj)) (σ:St) (H:Hp) (s:Shared) (e:Value) (s':Shared),Inv X pins σ H s->CX X.stack H s E e s'->X.xe e s'
section
variable{X:Cx}{CX:uT}{k:Nat}{f C:J}{fd:RZ}{ps:O Str}{sp:Sp}{dvs:O V}{ds:O Value}{E:XK}{x m:Str}{p pos apos:Pos}{e o:Expr}{es:O Expr}{ta:TE}{t:TA}
def qx {pins:O (J×Obj)}{σ:St}{H:Hp}{s:Shared}{Q:VK}{us:O Value}{vs:O V}(F:aY X.prog X.w X.K X.mg X.base CX k f fd ps sp)(hr:bY k X.A)(hb:Binds X.K fd ps ds)(hd:Vals dvs ds)(hx:Passes CX X E)
   (I:Inv X pins σ H s) (r:Vals vs us) (h:sp (vs++dvs) H Q E):wpAny (model X.prog X.w) X.A (call (.ref f) us) (EP X pins σ Q) X.xe s:=by
 !r2:Vals (vs++dvs) (us++ds):=r.append hd
 !hl:(us++ds)~=ps~:=by rw[← r2~];#F.len _ _ _ _ h
 #wpAny_call (codeAny_mono (F.run X.A X.stack s H ⟨us,[]⟩ (us++ds) (vs++dvs) Q E hr I.FU (hb s us I.lM hl) r2 h) λr s' hq=>?_)
 cases r with
 | error e=>#hx pins σ H s e s' I hq
 | ok fl=>
   cases fl with
   | ret u=>#I.after hq
   | next=>#Tb hq
   | brk=>#Tb hq
   | cont=>#Tb hq
def rL (F:aY X.prog X.w X.K X.mg X.base CX k f fd ps sp)(hr:bY k X.A)(hg:Gl X x)(hm:X.mg x=S (.ref f))(hk:Tf X.K (.ref f)=true)(hb:Binds X.K fd ps ds)(hd:Vals dvs ds)(hx:Passes CX X E)
   (ha:PA X (e::es) t) (hdb:(x==("__debug__":Str))=false:=by left) (he:starEach (e::es) X.env=(false,eval e X.env)::starEach es X.env:=by rfl) (hpl:(backTo pos (starEach es X.env)).any (·.1)=false:=by rfl) :
   PE X (.Call (.Name x p) (e::es) [] pos) (sA sp dvs E t):=by
 intro pins s σ H Q I h
 #wpAny_Call_Name_kw (iP I hg hm ?_ hdb)
 #U5 (h₀:=X.base) I.ok.mod.kin hk (bw (ha pos pins s σ H _ I h) λus s1 g9=>?_) he hpl
 @⟨vs,H1,I1,r,q⟩:=g9
 #⟨I1.lM,?_⟩
 #qx F hr hb hd hx I1 r q
def Ad {pl:Sem Bool}(he:PE X o ta)(c:pq X.K C)(hm:Meth X.K C m f)(F:aY X.prog X.w X.K X.mg X.base CX k f fd ps sp)(hr:bY k X.A)(hb:Binds X.K fd ps ds)(hd:Vals dvs ds)(hx:Passes CX X E)(ha:PA X (e::es) t)
   (hst:starEach (e::es) X.env=(false,eval e X.env)::starEach es X.env:=by rfl) (hpl:(backTo pos (starEach es X.env)).any (·.1)=false:=by rfl)
   (ht:eval (.Call (.Attribute o m apos) (e::es) [] pos) X.env=(do
     let ov←eval o X.env
     standAt apos.atName
     let(f,first)←holding [ov] (getMethod ov m pl)
     callWith pos f first (backTo pos (starEach (e::es) X.env)) (backToKw pos (keywordEach [] X.env))):=by rfl) :
   PE X (.Call (.Attribute o m apos) (e::es) [] pos) (sC C m sp dvs E ta t):=by
 intro pins s σ H Q I h
 #VY (pl:=pl) (bw (he pins s σ H _ I h) λu s1 h9=>?_) ht
 @⟨x,H1,I1,rx,a,dx,fs,ex,ea,l,q⟩:=h9
 subst ex
 obtain rfl:u=R6 a:=rx
 #kE I1 ea c hm l ?_
 #U5 (first:=[.ref a]) (h₀:=X.base) I.ok.mod.kin hm.kp (bw (ha pos pins s1 σ H1 _ I1 q) λus s2 g9=>?_) hst hpl
 @⟨vs,H2,I2,r,q2⟩:=g9
 #⟨I2.lM,?_⟩
 #qx (us:=.ref a::us) (vs:=.ref a::vs) F hr hb hd hx I2 (.cons rfl r) q2
def xp {pl:Sem Bool}(he:PE X o ta)(c:pq X.K C)(hm:Meth X.K C m f)(F:aY X.prog X.w X.K X.mg X.base CX k f fd ps sp)(hr:bY k X.A)(hb:Binds X.K fd ps ds)(hd:Vals dvs ds)(hx:Passes CX X E)
   (ht:eval (.Call (.Attribute o m apos) [] [] pos) X.env=(do
     let ov←eval o X.env
     standAt apos.atName
     let(f,first)←holding [ov] (getMethod ov m pl)
     callWith pos f first (backTo pos (starEach [] X.env)) (backToKw pos (keywordEach [] X.env))):=by rfl) :
   PE X (.Call (.Attribute o m apos) [] [] pos) (sC C m sp dvs E ta yn):=by
 intro pins s σ H Q I h
 #VY (pl:=pl) (bw (he pins s σ H _ I h) λu s1 h9=>?_) ht
 @⟨x,H1,I1,rx,a,dx,fs,ex,ea,l,q⟩:=h9
 subst ex
 obtain rfl:u=R6 a:=rx
 #kE I1 ea c hm l ?_
 #PySem.W.callWith_K0 (first:=[.ref a]) I1.lM hm.kp (qx (us:=[.ref a]) (vs:=[.ref a]) F hr hb hd hx I1 (.cons rfl .nil) q)
structure Mk (K:Ro)(C f:J):Prop where
 makes:PySem.W.makesIn K C=true
 init:Sw K (.ref C) "__init__"=S (S (.ref f))
 fn:VZ K (.ref f)=true
 kp:Tf K (.ref C)=true
def xM {pins:O (J×Obj)}{σ:St}{H:Hp}{s:Shared}{Q:VK}{us:O Value}{vs:O V}(M8:Mk X.K C f)(F:aY X.prog X.w X.K X.mg X.base CX k f fd ps sp)(hr:bY (k+1) X.A)(hb:Binds X.K fd ps ds)(hd:Vals dvs ds)
   (hx:Passes CX X E) (I:Inv X pins σ H s) (r:Vals vs us)
   (h:∀x dx,H x=Z->H dx=Z->dx≠x->sp (.ref x::(vs++dvs)) (upd (upd H dx (.own x)) x (.ins C dx [])) (λv H2=>v=.bI/\Q (.ref x) H2) E) :
   wpAny (model X.prog X.w) X.A (call (.ref C) us) (EP X pins σ Q) X.xe s:=by
 !hq:=h (s.heap.objs.size+1) s.heap.objs.size (I.hok.fresh (Ve _)) (I.hok.fresh (Rz _)) (R1 (Tq _))
 !I2:=Inv.made (C:=C) I
 !r2:Vals (V.ref (s.heap.objs.size+1)::(vs++dvs)) (R6 (s.heap.objs.size+1)::(us++ds)):=.cons rfl (r.append hd)
 !hl:(R6 (s.heap.objs.size+1)::us++ds)~=ps~:=by
   !e:=r2~
   rw[F.len _ _ _ _ hq]at e
   #e.symm
 #wpAny_call (wg (f:=f) I.lM M8.makes M8.init (beq_iff_eq.mp M8.fn) (codeAny_mono (F.run _ X.stack _ _ ⟨R6 (s.heap.objs.size+1)::us,[]⟩ (R6 (s.heap.objs.size+1)::(us++ds)) _ _ E (hr.make C us [])
   (I2.FU.make C us []) (hb _ (R6 (s.heap.objs.size+1)::us) I2.lM hl) r2 hq) λr s' Gy=>?_))
 cases r with
 | error e=>#hx pins σ _ _ e s' I2 Gy
 | ok fl=>
   cases fl with
   | ret u=>
     @⟨v,H',I3,rv,ev,q3⟩:=I2.after Gy
     subst ev
     #⟨rv,⟨V.ref (s.heap.objs.size+1),H',I3,U,q3⟩⟩
   | next=>#Tb Gy
   | brk=>#Tb Gy
   | cont=>#Tb Gy
def Ac (M8:Mk X.K C f)(F:aY X.prog X.w X.K X.mg X.base CX k f fd ps sp)(hr:bY (k+1) X.A)(hg:Gl X x)(hm:X.mg x=S (.ref C))(hb:Binds X.K fd ps ds)(hd:Vals dvs ds)(hx:Passes CX X E)
   (ha:PA X (e::es) t) (hdb:(x==("__debug__":Str))=false:=by left) (he:starEach (e::es) X.env=(false,eval e X.env)::starEach es X.env:=by rfl) (hpl:(backTo pos (starEach es X.env)).any (·.1)=false:=by rfl) :
   PE X (.Call (.Name x p) (e::es) [] pos) (BV C sp dvs E t):=by
 intro pins s σ H Q I h
 #wpAny_Call_Name_kw (iP I hg hm ?_ hdb)
 #U5 (h₀:=X.base) I.ok.mod.kin M8.kp (bw (ha pos pins s σ H _ I h) λus s1 g9=>?_) he hpl
 @⟨vs,H1,I1,r,q⟩:=g9
 #⟨I1.lM,?_⟩
 #xM M8 F hr hb hd hx I1 r q
end
structure aC (N P:O Str)(sc:Scope):Prop where
 kind:sc.kind=.function
 co:sc.isCoroutine=false
 gen:sc.isGenerator=false
 nd:N.Nodup
 pre:N.take P.length=P
 par:∀x∈P,sc.names.lookup x=S .local\/sc.names.lookup x=S .cell
 nofree:∀y∈sc.names,y.2≠.free
def eU {N P:O Str}{sc:Scope}(a:sc.kind=.function:=by rfl)(b:sc.isCoroutine=false:=by rfl)(c:sc.isGenerator=false:=by rfl)(d:N.Nodup:=by right)(e:N.take P.length=P:=by rfl)(f:∀x∈P,sc.names.lookup x=S .local\/sc.names.lookup x=S .cell:=by right)(g:∀y∈sc.names,y.2≠.free:=by right):aC N P sc:=⟨a,b,c,d,e,f,g⟩
theorem lZ {kindOf:Str->Option Ua}{x:Str}:∀{binds:O (Str×Value)} {m:Str->Option Value},(∀v,(x,v)∉binds)->bindL kindOf binds m x=m x
 | [],_,_=>rfl
 | (n,v)::r,m,h=>by
   unfold bindL
   rw[lZ λw hw=>h w (RC _ hw)]
   split
   . !:x≠n:=by rintro rfl;#h v Ru
     simp[this]
   . rfl
theorem lX {kindOf:Str->Option Ua}{x:Str}:∀{binds:O (Str×Value)} {m:Str->Option Value},(∀v,(x,v)∉binds)->bindC kindOf binds m x=m x
 | [],_,_=>rfl
 | (n,v)::r,m,h=>by
   unfold bindC
   rw[lX λw hw=>h w (RC _ hw)]
   split
   . rfl
   . !:x≠n:=by rintro rfl;#h v Ru
     simp[this]
theorem lY {kindOf:Str->Option Ua}{x:Str}{v:Value}:∀{P:O Str} {vs:O Value} {i:Nat} {m:Str->Option Value},P.Nodup->P[i]?=S x->vs[i]?=S v->kindOf x=S .local ->
   bindL kindOf (P.zip vs) m x=S v
 | [],_,_,_,_,h,_,_=>by simp at h
 | _::_,[],_,_,_,_,h,_=>by simp at h
 | p::P,w::vs,0,m,nd,h1,h2,hk=>by
   simp at h1 h2;subst h1;subst h2
   change bindL kindOf ((p,w)::P.zip vs) m p=_
   unfold bindL
   rw[lZ λv hv=>(List.nodup_cons.mp nd).1 (UR hv).1,dI hk]
   simp
 | p::P,w::vs,i+1,m,nd,h1,h2,hk=>by
   change bindL kindOf ((p,w)::P.zip vs) m x=_
   unfold bindL
   #lY (i:=i) (List.nodup_cons.mp nd).2 (by simpa using h1) (by simpa using h2) hk
theorem lW {kindOf:Str->Option Ua}{x:Str}{v:Value}:∀{P:O Str} {vs:O Value} {i:Nat} {m:Str->Option Value},P.Nodup->P[i]?=S x->vs[i]?=S v->kindOf x≠S .local ->
   bindC kindOf (P.zip vs) m x=S v
 | [],_,_,_,_,h,_,_=>by simp at h
 | _::_,[],_,_,_,_,h,_=>by simp at h
 | p::P,w::vs,0,m,nd,h1,h2,hk=>by
   simp at h1 h2;subst h1;subst h2
   change bindC kindOf ((p,w)::P.zip vs) m p=_
   unfold bindC
   rw[lX λv hv=>(List.nodup_cons.mp nd).1 (UR hv).1,dh hk]
   simp
 | p::P,w::vs,i+1,m,nd,h1,h2,hk=>by
   change bindC kindOf ((p,w)::P.zip vs) m x=_
   unfold bindC
   #lW (i:=i) (List.nodup_cons.mp nd).2 (by simpa using h1) (by simpa using h2) hk
def start (N:O Str)(vs:O V):St:=vs.map S++VQ (N.length-vs~) Z
def cY (CX:uT)(P:Program)(w:World)(K:Ro)(mg:Str->Option Value)(base:Heap)(N:O Str)(qual:Str)(scope:Scope)(f:J)(cd:Value)(A:Around)(outer:O Env)(s:Shared)(H:Hp)(E:XK):Cx where
 prog:=P
 w:=w
 K:=K
 mg:=mg
 base:=base
 A:=A.deeper (envOfC qual scope s.heap.objs.size f cd)
 N:=N
 s₀:=s
 H₀:=H
 env:=envOfC qual scope s.heap.objs.size f cd
 outer:=outer
 stack:=envOfC qual scope s.heap.objs.size f cd::outer
 ex:=[]
 calm:=true
 fn:=λz=>true
 pn:=[]
 xe:=λe s'=>wpAny (model P w) (A.deeper (envOfC qual scope s.heap.objs.size f cd)) (leaving (envOfC qual scope s.heap.objs.size f cd) e) (λz Ep=>CX outer H s E e Ep) (λe' Ep=>CX outer H s E e' Ep) s'
def ot {sc:Scope}{n:Nat}{x:Str}(h:sc.names.lookup x=S .cell):∃c,(cellsFrom n sc.names []).lookup x=S c:=by
 !q:=VM sc.names n [] (.inl h)
 #Option.isSome_iff_exists.mp q
def tW {CX:uT}{P:Program}{w:World}{K:Ro}{mg:Str->Option Value}{base:Heap}{N ps:O Str}{qual:Str}{scope:Scope}{f:J}{cd:Value}{A:Around}{outer:O Env}{s s1:Shared}{H:Hp}{E:XK}{us:O Value}{vs:O V}
   (S8x:aC N ps scope) (hd:A.handled=Z) (e0:pD P w K mg base A outer s H) (hl:vs~=ps~) (r:Vals vs us)
   (x:InCallC s s.heap.objs.size (bindL (envOfC qual scope s.heap.objs.size f cd).kindOf (ps.zip us) λt=>Z) (cellsFrom (s.heap.objs.size+1) scope.names []) (bindC (envOfC qual scope s.heap.objs.size f cd).kindOf (ps.zip us) λt=>Z) s1) :
   Inv (cY CX P w K mg base N qual scope f cd A outer s H E) [] (start N vs) H s1:=by
 !hpl:ps~<=N.length:=by !:=congrArg List.length S8x.pre;rw[R8]at this;lia
 @⟨h1,tk,rfl,hk⟩:=x.done
 !noA:∀b:J,b∉(cY CX P w K mg base N qual scope f cd A outer s H E).ex:=λb z=>au (show b∈([]:O J)from z) (by simp)
 #⟨⟨e0.mod,S8x.kind,U,U,Rz _,λy z c h1 h2=>?_,λy hy=>?_,λy c t h=>?_,λt=>hd,Around.frames_deeper e0.frames,.inr ⟨U,U⟩,λb z=>au z (noA b),e0.bs,e0.bsz,λb t t=>noA b,λb z=>au z (noA b),e0.ib,e0.frf⟩,
   rfl,e0.bare,Un.kept hk,⟨_,x.toInCall.ns,λi y v h1 h2 h3=>?_⟩,λy c h=>⟨_,x.cell y c h⟩,e0.hok.fresh (Rz _),λy c h=>?_,λp hp=>au (show p∈([]:O (J×Obj))from hp) (by simp),e0.hok.kept hk,?_⟩
 . #name_of_addr x.apart (Sm h1) (Sm h2)
 . !hy:scope.names.lookup y=S .cell\/scope.names.lookup y=S .free:=hy
   rcases hy with hy|hy
   . #ot hy
   . #au rfl (S8x.nofree _ (Sm hy))
 . #S3 (x.above y c (Sm h))
 . !hi:i<vs~:=by
     unfold start at h2
     by_cases hi:i<vs~
     . #hi
     . rw[Uk (by simpa using hi)]at h2
       rw[V7]at h2
       split at h2<;>cases h2
   !ha:vs[i]?=S v:=by
     unfold start at h2
     rw[VR (by simpa using hi),Sb]at h2
     cases e:vs[i]? with
     | none=>rw[e]at h2;cases h2
     | some a=>rw[e]at h2;cases h2;rfl
   @⟨u,hu,rv⟩:=r.get ha
   !hp:ps[i]?=S y:=by
     rw[← S8x.pre,List.getElem?_take_of_lt (by lia)];#h1
   !MO:ps.Nodup:=by rw[← S8x.pre];#S8x.nd.sublist (List.take_sublist _ _)
   #⟨u,rv,?_⟩
   rcases S8x.par y (RL hp)with k|k
   . #.inl ⟨k,lY MO hp hu k⟩
   . @⟨c,e⟩:=ot (n:=s.heap.objs.size+1) k
     #.inr ⟨.inl k,c,e,?_⟩
     !q:=x.cell y c e
     rw[lW MO hp hu (by change scope.names.lookup y≠_;rw[k];decide)]at q
     #q
 . #e0.hok.fresh (S3 (x.above y c (Sm h)))
 . unfold start
   change _=N.length
   rw[Rx,Rn,US]
   lia
def A2 {CX:uT}{P:Program}{w:World}{K:Ro}{mg:Str->Option Value}{base:Heap}{k:Nat}{f:J}{name qual:Str}{params:Arguments}{body:O Stmt}{scope:Scope}{dV kV doc pm cdv ct oc:Value}{an od:Option J}
   {osl:Array (Option Value)} {N ps:O Str} {sp:Sp} (lk:K.lookup f=S ⟨oc,od,.func (S6 name qual params body scope dV kV doc pm an cdv ct),osl⟩) (hcd:UO K cdv qual=true) (S8x:aC N ps scope)
   (len:∀vs H Q E,sp vs H Q E->vs~=ps~)
   (hbody:∀(A:Around) (outer:O Env) (s:Shared) (H:Hp) (vs:O V) (Q:VK) (E:XK),bY k (A.deeper (envOfC qual scope s.heap.objs.size f cdv))->sp vs H Q E ->
     ∃t,lD (cY CX P w K mg base N qual scope f cdv A outer s H E) body t/\t {nx:=λz H'=>Q .bI H',rt:=Q} (start N vs) H) :
   aY P w K mg base CX (k+1) f (S6 name qual params body scope dV kV doc pm an cdv ct) ps sp:=by
 #⟨len,λA outer s H args us vs Q E hr e0 hb r hsp=>?_⟩
 !hl:=len _ _ _ _ hsp
 !KX:K.In s.heap:=e0.mod.kin.keeps λb o e=>(e0.bs b o e).1
 !lim:s.heap.NoLimit:=e0.mod.nolimit.keeps λb o e=>(e0.bs b o e).1
 !Gq:∀y∈ps.zip us,scope.names.lookup y.1=S .local\/(scope.names.lookup y.1=S .cell/\((cellsFrom (s.heap.objs.size+1) scope.names []).lookup y.1).isSome=true):=λ⟨n,v⟩ hy=>by
   rcases S8x.par n (UR hy).1 with q|q
   . #.inl q
   . #.inr ⟨q,VM _ _ _ (.inl q)⟩
 #codeAny_call_function hr.depth (KX _ _ lk) rfl S8x.co S8x.gen rfl (PySem.W.codeRec_of KX hcd) (hb _ _ _ _ ?_)
 #wpAny_newFunctionEnv_cells S8x.kind Gq λenv he s1 x=>?_
 subst he
 #⟨lim.keeps x.toInCall.keep,codeAny_func ?_⟩
 @⟨t,ht,hq⟩:=hbody A outer s H vs Q E (hr.deeper _) hsp
 !I:Inv (cY CX P w K mg base N qual scope f cdv A outer s H E) [] (start N vs) H s1:=tW S8x hr.hd e0 hl r x
 #wpAny_mono (ht [] s1 (start N vs) H _ I hq) (λfl s' hs=>?_) λe s' hs=>hs
 !fin:∀{σ':St} {H':Hp} {v:V} {u:Value},Inv (cY CX P w K mg base N qual scope f cdv A outer s H E) [] σ' H' s'->RelV v u->Q v H'->CE outer P w H s Q u s':=
   λ{σ' H' v u} J8x rv q=>⟨v,H',J8x.os,J8x.bare,J8x.base,J8x.hok,rv,q⟩
 cases fl with
 | ret u=>
   @⟨v,σ',H',J8x,rv,q⟩:=hs
   #fin J8x rv q
 | next=>
   @⟨σ',H',J8x,q⟩:=hs
   #fin (v:=V.bI) (u:=SH) J8x rfl q
 | brk=>
   @⟨_,_,_,q⟩:=hs
   #Tb q
 | cont=>
   @⟨_,_,_,q⟩:=hs
   #Tb q
section
variable{X:Cx}{x:Str}{p pos:Pos}{e:Expr}{es:O Expr}{t:TA}{id T:String}{r:O V->Hp->VK->Prop}
def Fn (r:O V->Hp->VK->Prop)(t:TA):TE:=λσ H Q=>t σ H λvs H1=>r vs H1 Q
def xk (hc:dz X (.builtin id) r)(hg:Gl X x)(hm:X.mg x=Z)(hv:SJ x=S (.builtin id))(ha:PA X (e::es) t)(hn:x≠"__name__":=by left)(hdb:(x==("__debug__":Str))=false:=by left)
   (he:starEach (e::es) X.env=(false,eval e X.env)::starEach es X.env:=by rfl) (hpl:(backTo pos (starEach es X.env)).any (·.1)=false:=by rfl):PE X (.Call (.Name x p) (e::es) [] pos) (Fn r t):=by
 intro pins s σ H Q I h
 #wpAny_Call_Name_kw (fF I hg hm hv ?_ hn hdb)
 #U0 (bw (ha pos pins s σ H _ I h) λus s1 h9=>?_) he hpl
 @⟨vs,H1,I1,r1,q1⟩:=h9
 #hc pins s1 σ H1 vs us Q I1 r1 q1
def uw (hc:dz X (.type T) r)(hg:Gl X x)(hm:X.mg x=Z)(hv:SJ x=S (.type T))(ha:PA X (e::es) t)(hn:x≠"__name__":=by left)(hdb:(x==("__debug__":Str))=false:=by left)
   (he:starEach (e::es) X.env=(false,eval e X.env)::starEach es X.env:=by rfl) (hpl:(backTo pos (starEach es X.env)).any (·.1)=false:=by rfl):PE X (.Call (.Name x p) (e::es) [] pos) (Fn r t):=by
 intro pins s σ H Q I h
 #wpAny_Call_Name_kw (fF I hg hm hv ?_ hn hdb)
 #SY (bw (ha pos pins s σ H _ I h) λus s1 h9=>?_) he hpl
 @⟨vs,H1,I1,r1,q1⟩:=h9
 #hc pins s1 σ H1 vs us Q I1 r1 q1
end
end L2
namespace HT
open PySem PyProof.Rows
section
variable{prog:Program}{w:World}{A:Around}{E:Value->Shared->Prop}{s:Shared}
def yP {t b:J}{vs ws:O Value}{Q:Value->Shared->Prop}(ht:IsTup s.heap t vs.toArray)(hb:IsTup s.heap b ws.toArray)(hv:vs≠[])
   (h1:ws=[]->Q (.ref t) s) (h2:ws≠[]->Q (.ref s.heap.objs.size) {s with heap:=s.heap.push {cls:=.type "tuple",data:=.seq (vs++ws).toArray} })
   (hsz:vs~+ws~<=sizeLine):wpAny (model prog w) A (binaryOp .Add (.ref t) (.ref b)) Q E s:=by
 @⟨⟨cls,dd,data,sl⟩,ho,hc,n,hd⟩:=id ht
 @⟨⟨NW,L6,data2,EA⟩,jm,zh,n2,hd2⟩:=id hb
 simp only at hc hd zh hd2
 subst hc hd zh hd2
 !e:vs.toArray++ws.toArray=(vs++ws).toArray:=by simp
 by_cases hw:ws=[]
 . #concat_meets ⟨_,ho,U⟩ ⟨_,jm,U⟩ noFill_tuple_add seq_tuple_add VN VH (Vx _ _)
     (tuple_addW1 t b vs.toArray ws.toArray n n2 dd L6 sl EA (by simpa using hv) (by simp[hw])) ⟨ho,jm,h1 hw⟩
 . #concat_meets ⟨_,ho,U⟩ ⟨_,jm,U⟩ noFill_tuple_add seq_tuple_add VN VH (Vx _ _)
     (tuple_addW2 t b vs.toArray ws.toArray n n2 dd L6 sl EA (by simpa using hv) (by simpa using hw) (by rw[RH,RH];#hsz)) ⟨ho,jm,?_⟩
   rw[e]
   #h2 hw
def bX (n d:Nat):Option Int->Nat
 | none=>d
 | some v=>if v<0 then(v+(n:Int)).toNat else min v.toNat n
def pd (n d:Nat):bX n d Z=d:=rfl
def d9 (n d k:Nat):bX n d (S (k:Int))=min k n:=by
 change(if(k:Int)<0 then((k:Int)+(n:Int)).toNat else min (k:Int).toNat n)=min k n
 rw[dh (by lia),Vp]
def Es (n d:Nat)(hd:d<=n)(o:Option Int):bX n d o<=n:=by
 cases o with
 | none=>#hd
 | some v=>
   change(if v<0 then(v+(n:Int)).toNat else min v.toNat n)<=n
   by_cases hv:v<0
   . rw[dI hv];lia
   . rw[dh hv];#Nat.min_le_right _ _
def qU (v:Int)(n d:Nat):(if v<0 then max (v+(n:Int)) 0 else min v (n:Int))=((bX n d (S v):Nat):Int):=by
 change(if v<0 then max (v+(n:Int)) 0 else min v (n:Int))=(((if v<0 then(v+(n:Int)).toNat else min v.toNat n):Nat):Int)
 by_cases hv:v<0
 . simp only[dI hv];lia
 . simp only[dh hv];lia
def pM (lo hi:Option Int)(n:Nat):Ue lo hi 1 (n:Int)=(((bX n 0 lo:Nat):Int),((bX n n hi:Nat):Int)):=by
 !h1:¬ ((1:Int)<0):=by lia
 unfold Ue
 simp only[h1,if_false]
 #Prod.ext ?_ ?_
 . cases lo with
   | none=>rfl
   | some v=>#qU v n 0
 . cases hi with
   | none=>rfl
   | some v=>#qU v n n
def qu (i j:Nat):Tu (i:Int) (j:Int) 1=j-i:=by
 unfold Tu
 !h1:(1:Int) > 0:=by lia
 simp only[h1,if_true,Int.ediv_one]
 split<;>lia
def k6 {v:Value}{o:Option Int}{Q:Option Int->Shared->Prop}(p:IsPart v o)(h:Q o s):wpAny (model prog w) A (Builtin.Slice.slicePartIndex v) Q E s:=by
 cases p with
 | none=>#slicePart_none h
 | int i t=>#slicePart_int h
def jt {sl:J}{vl vu:Value}{lo hi:Option Int}{n:Nat}{Q:Int×Int×Nat->Shared->Prop}(hs:s.heap.IsSliceOf sl vl vu .none)(pl:IsPart vl lo)(pu:IsPart vu hi)
   (h:Q (((bX n 0 lo:Nat):Int),1,bX n n hi-bX n 0 lo) s):wpAny (model prog w) A (U9 (.ref sl) (pure (n:Int))) Q E s:=by
 @⟨os,Gv,hcs,Je⟩:=id hs
 unfold U9 Builtin.Slice.sliceFields
 #wpAny_bind (wpAny_bind (wpAny_field Gv Je (x:=vl) rfl (wpAny_bind (wpAny_field Gv Je (x:=vu) rfl (wpAny_bind (wpAny_field Gv Je (x:=.none) rfl (wpAny_pure ?_)))))))
 #wpAny_bind (slicePart_none ?_)
 change wpAny _ _ (if((1:Int)==0)=true then _ else _) _ _ s
 rw[dh (by left)]
 #wpAny_bind (k6 pl (wpAny_bind (k6 pu (wpAny_bind (wpAny_pure ?_)))))
 change wpAny _ _ (match Ue lo hi 1 (n:Int)with|(lo,hi)=>pure (lo,(1:Int),Tu lo hi 1)) _ _ s
 rw[pM lo hi n]
 change wpAny _ _ (pure (((bX n 0 lo:Nat):Int),(1:Int),Tu ((bX n 0 lo:Nat):Int) ((bX n n hi:Nat):Int) 1)) _ _ s
 rw[qu]
 #wpAny_pure h
def xv (xs:Array Value)(i k:Nat):((TH k).filterMap λ(m:Nat)=>xs[((i:Int)+(m:Int)*1).toNat]?).toArray=((xs.toList.drop i).take k).toArray:=by
 !e:(λ(m:Nat)=>xs[((i:Int)+(m:Int)*1).toNat]?)=λm=>xs[i+m]?:=by
   funext m
   !:((i:Int)+(m:Int)*1).toNat=i+m:=by lia
   rw[this]
 rw[e]
 !:=pick_run xs i k
 rw[List.filterMap_map]at this
 !e2:((λx=>xs[x]?) ∘ λx=>i+x)=λm=>xs[i+m]?:=rfl
 rw[e2]at this
 rw[this]
def iJ {t sl:J}{items:Array Value}{vl vu:Value}{lo hi:Option Int}{Q:Value->Shared->Prop}(ht:IsTup s.heap t items)(hs:s.heap.IsSliceOf sl vl vu .none)(pl:IsPart vl lo)(pu:IsPart vu hi)
   (hw:¬ (bX items.size 0 lo=0/\bX items.size items.size hi=items.size))
   (h:Q (.ref s.heap.objs.size) {s with heap:=s.heap.push {cls:=.type "tuple",data:=.seq ((items.toList.drop (bX items.size 0 lo)).take (bX items.size items.size hi-bX items.size 0 lo)).toArray} })
   (hsz:items.size<=sizeLine):wpAny (model prog w) A (getItem (.ref t) (.ref sl)) Q E s:=by
 !rq:sizeOk (.seq ((items.toList.drop (bX items.size 0 lo)).take (bX items.size items.size hi-bX items.size 0 lo)).toArray):=by
   change((items.toList.drop (bX items.size 0 lo)).take (bX items.size items.size hi-bX items.size 0 lo)).toArray.size<=sizeLine
   rw[RH,R8,Tn,U7]
   lia
 !hj:bX items.size items.size hi<=items.size:=Es _ _ (Rz _) hi
 @⟨os,Gv,hcs,Je⟩:=id hs
 !OL:s.TypeIs (.ref sl) "slice":=⟨os,Gv,hcs⟩
 unfold getItem
 try with_reducible show wpAny_holding ?_
 first|show wpAny_bind (wpAny_pure ?_)|skip
 #wpAny_bind (wpAny_sequenceKey ht.typeIs (by left) ?_)
 #wpAny_bind (Tt (name:=Rt "__getitem__") ht.typeIs UP
   (wpAny_call_entry UP ht.typeIs entry_tuple_getitem ?_ (args_tuple_getitem _ _)))
 change wpAny _ _ (Builtin.Tuple.tupleItemsOf (.ref t)>>=_) _ _ s
 #wpAny_bind (tupleItemsOf_ ht ?_)
 #wpAny_bind (wpAny_typeOf OL ?_)
 rw[dI (by left)]
 #wpAny_bind (jt hs pl pu ?_)
 !Gu:¬ ((((bX items.size 0 lo:Nat):Int)==0&&(1:Int)==1&&(bX items.size items.size hi-bX items.size 0 lo)==items.size)=true):=by
   intro q
   rw[To,To]at q
   !q1:((bX items.size 0 lo:Nat):Int)=0:=eq_of_beq q.1.1
   !q2:bX items.size items.size hi-bX items.size 0 lo=items.size:=eq_of_beq q.2
   #hw ⟨by lia,by lia⟩
 change wpAny _ _ (if(((bX items.size 0 lo:Nat):Int)==0&&(1:Int)==1&&(bX items.size items.size hi-bX items.size 0 lo)==items.size)=true then _ else _) _ _ s
 rw[dh Gu,xv]
 first
   | show wpAny_bind (m:=Tz _) (wpAny_newObj_type (wpAny_pure ⟨_,rfl,wpAny_pure h⟩) rq)
   | show wpAny_bind (m:=Tz _) (wpAny_newObj_type (wpAny_bind (wpAny_pure (wpAny_pure ⟨_,rfl,wpAny_pure h⟩))) rq)
   | show wpAny_bind (wpAny_bind (m:=Tz _) (wpAny_newObj_type (wpAny_pure (wpAny_pure ⟨_,rfl,wpAny_pure h⟩)) rq))
   | show wpAny_bind (wpAny_bind (m:=Tz _) (wpAny_newObj_type (wpAny_pure ⟨_,rfl,wpAny_pure h⟩) rq))
end
end HT
namespace L2
open PySem PySem.Spec PyProof.Rows
abbrev TO:=St->Hp->(Option Int->Hp->Prop)->Prop
def PO (X:Cx)(e:Option Expr)(t:TO):Prop:=
 ∀(pins:O (J×Obj)) (s:Shared) (σ:St) (H:Hp) (Q:Option Int->Hp->Prop),Inv X pins σ H s->t σ H Q ->
   wpAny (model X.prog X.w) X.A (evalPart e X.env) (λu s'=>∃o H',Inv X pins σ H' s'/\IsPart u o/\Q o H') X.xe s
def jb:TO:=λz H Q=>Q Z H
def jc (t:TE):TO:=λσ H Q=>t σ H λx H1=>∃i,x=.int i/\Q (S i) H1
section
variable{X:Cx}{e:Expr}{te:TE}{lo hi:Option Expr}{tl th:TO}{pos p2:Pos}
def jS:PO X Z jb:=by
 intro pins s σ H Q I h
 rw[evalPart_none]
 #wpAny_pure ⟨Z,H,I,.none,h⟩
def d8 (h:PE X e te):PO X (S e) (jc te):=by
 intro pins s σ H Q I hw
 rw[evalPart_some]
 #bw (h pins s σ H _ I hw) λu s1 h9=>?_
 @⟨x,H1,I1,r1,q1⟩:=h9
 @⟨i,rfl,q⟩:=q1
 @⟨t,rfl⟩:=r1
 #⟨S i,H1,I1,.int i t,q⟩
def IW (X:Cx)(r:V->Option Int->Option Int->Hp->VK->Prop):Prop:=
 ∀(pins:O (J×Obj)) (s:Shared) (σ:St) (H:Hp) (x:V) (v vl vu:Value) (lo hi:Option Int) (sl:J) (Q:VK),Inv X pins σ H s->RelV x v->s.heap.IsSliceOf sl vl vu .none->IsPart vl lo->IsPart vu hi->r x lo hi H Q ->
   ∃T id,typeLookup (.type T) "__getitem__"=pure (S (.builtin id))/\s.TypeIs v T/\wpAny (model X.prog X.w) X.A (getItem v (.ref sl)) (EP X pins σ Q) X.xe s
def EM (r:V->Option Int->Option Int->Hp->VK->Prop)(te:TE)(tl th:TO):TE:=λσ H Q=>te σ H λx H1=>tl σ H1 λl H2=>th σ H2 λu H3=>r x l u H3 Q
def eP {r:V->Option Int->Option Int->Hp->VK->Prop}(hr:IW X r)(he:PE X e te)(hl:PO X lo tl)(hu:PO X hi th):PE X (.Subscript e (.Slice lo hi Z p2) pos) (EM r te tl th):=by
 intro pins s σ H Q I h
 #Subscript_ (bw (he pins s σ H _ I h) λv s1 h9=>?_)
 @⟨x,H1,I1,r1,q1⟩:=h9
 #wpAny_Slice (bw (hl pins s1 σ H1 _ I1 q1) λvl s2 g9=>?_)
 @⟨l,H2,I2,pl,q2⟩:=g9
 #bw (hu pins s2 σ H2 _ I2 q2) λvu s3 h9=>?_
 @⟨u,H3,I3,pu,q3⟩:=h9
 rw[evalPart_none]
 #wpAny_pure ?_
 !I4:Inv X pins σ H3 {s3 with heap:=s3.heap.push {cls:=.type "slice",data:=.fields #[vl,vu,.none]} }:=I3.kept (t':=s3.toks) λb ob q=>Rr _ q
 @⟨T,id,hT,ht,hg⟩:=hr pins {s3 with heap:=s3.heap.push {cls:=.type "slice",data:=.fields #[vl,vu,.none]} } σ H3 x v vl vu l u s3.heap.objs.size Q I4 r1 (Heap.IsSliceOf.new ..) pl pu q3
 change wpAny (model X.prog X.w) X.A (subscriptTail e (.Slice lo hi Z p2) v (.ref s3.heap.objs.size)) (EP X pins σ Q) X.xe {s3 with heap:=s3.heap.push {cls:=.type "slice",data:=.fields #[vl,vu,.none]} }
 #tail_any (ops:=[.ref s3.heap.objs.size,v]) ht hT hg (by with_unfolding_all rfl)
def er (xs:O V)(lo hi:Option Int):O V:=(xs.drop (HT.bX xs~ 0 lo)).take (HT.bX xs~ xs~ hi-HT.bX xs~ 0 lo)
def jx (xs:O V)(lo hi:Option Int):(er xs lo hi)~<=xs~:=by
 unfold er
 rw[R8,Tn]
 lia
def HW (K:Ro):V->Option Int->Option Int->Hp->VK->Prop:=λx lo hi H Q=>∃a xs,x=.ref a/\bS K H a xs /\
 ¬ (HT.bX xs~ 0 lo=0/\HT.bX xs~ xs~ hi=xs~)/\∀p,H p=Z->Q (.ref p) (upd H p (.tup (er xs lo hi)))
def EE:IW X (HW X.K):=by
 intro pins s σ H x v vl vu lo hi sl Q I rx hs pl pu h
 @⟨a,xs,rfl,hx,hw,q⟩:=h
 cases rx
 @⟨its,r,ht,hz⟩:=I.tuple hx
 !hlen:its.toArray.size=xs~:=by rw[RH];#r.length.symm
 #⟨"tuple",_,PyProof.Rows.slot_tuple_getitem.lookup,ht.typeIs,?_⟩
 #HT.iJ ht hs pl pu (by rw[hlen];#hw) ?_ (by rw[hlen];#hz)
 rw[hlen]
 #⟨.ref s.heap.objs.size,_,I.laid (t':=s.toks) (o:=.tup (er xs lo hi)) (λb ob q=>Rr _ q) (Rz _) ?_,U,q _ (I.hok.fresh (Rz _))⟩
 #⟨Ry (jx xs lo hi) hz,_,(r.drop (HT.bX xs~ 0 lo)).take (HT.bX xs~ xs~ hi-HT.bX xs~ 0 lo),IsTup.new _ _⟩
def Bu (K:Ro):R2:=λx y H Q=>∃a b xs ys,x=.ref a/\y=.ref b/\bS K H a xs/\bS K H b ys/\xs≠[]/\xs~+ys~<=sizeLine /\
 (ys=[]->Q (.ref a) H)/\(ys≠[]->∀p,H p=Z->Q (.ref p) (upd H p (.tup (xs++ys))))
def Vals.nA {xs:O V}{us:O Value}(r:Vals xs us):us=[]↔xs=[]:=by
 cases r with
 | nil=>simp
 | cons _ _=>simp
def zV:gC X (binaryOp .Add) (Bu X.K):=by
 intro pins s σ H x y v u Q I rx ry h
 @⟨a,b,xs,ys,rfl,rfl,ha,hb,hx,hz,q1,q2⟩:=h
 cases rx
 cases ry
 @⟨its,r1,p1,_⟩:=I.tuple ha
 @⟨tX,r2,p2,_⟩:=I.tuple hb
 #HT.yP p1 p2 (λz=>hx (r1.nA.mp z)) (λz=>⟨.ref a,H,I,U,q1 (r2.nA.mp z)⟩) (λz=>?_) (by rw[← r1~,← r2~];#hz)
 #⟨.ref s.heap.objs.size,_,I.laid (t':=s.toks) (o:=.tup (xs++ys)) (λb ob q=>Rr _ q) (Rz _) ?_,U,q2 (λw=>z (r2.nA.mpr w)) _ (I.hok.fresh (Rz _))⟩
 #⟨by rw[Rx];#hz,_,r1.append r2,IsTup.new _ _⟩
end
def uX (n:Nat)(i:Int):Option Nat:=if 0<=i then(if i<n then S i.toNat else Z)else if -(n:Int)<=i then S (i+n).toNat else Z
def iz {α:Type}(xs:O α)(i:Int):Option α:=(uX xs~ i).bind λj=>xs[j]?
def rD {n:Nat}{i:Int}{j:Nat}(h:uX n i=S j):Va i n=S j/\j<n/\-(n:Int)<=i/\i<n:=by
 unfold uX at h
 by_cases h0:0<=i
 . rw[dI h0]at h
   by_cases h1:i<n
   . rw[dI h1]at h
     !e:i.toNat=j:=Sa h
     #⟨by rw[seqIndex_of h0 h1,e],by lia,by lia,h1⟩
   . rw[dh h1]at h;cases h
 . rw[dh h0]at h
   by_cases h1 : -(n:Int)<=i
   . rw[dI h1]at h
     !e:(i+n).toNat=j:=Sa h
     #⟨by rw[seqIndex_neg (by lia) h1,e],by lia,h1,by lia⟩
   . rw[dh h1]at h;cases h
def bU {α:Type}{xs:O α}{i:Int}{v:α}(h:iz xs i=S v):∃j,Va i xs~=S j/\xs[j]?=S v/\j<xs~/\-(xs~:Int)<=i/\i<xs~:=by
 unfold iz at h
 cases e:uX xs~ i with
 | none=>rw[e]at h;cases h
 | some j=>
   rw[e]at h
   @⟨h1,h2,h3,h4⟩:=rD e
   #⟨j,h1,h,h2,h3,h4⟩
def f6 {α:Type}{xs:O α}{j:Nat}{v:α}(h:xs[j]?=S v):iz xs (j:Int)=S v:=by
 !hj:j<xs~:=(List.getElem?_eq_some_iff.mp h).1
 !e:uX xs~ (j:Int)=S j:=by
   unfold uX
   rw[dI (by lia),dI (by lia)];simp
 unfold iz;rw[e];#h
def dB {α:Type}(xs:O α)(v:α):iz (xs++[v]) (-1)=S v:=by
 !hl:(xs++[v])~=xs~+1:=by simp
 !e:uX (xs++[v])~ (-1)=S xs~:=by
   unfold uX
   rw[hl,dh (by left),dI (by lia)]
   congr 1
   lia
 unfold iz
 rw[e]
 change(xs++[v])[xs~]?=S v
 simp
def jH (b:Expr):Prop:=∀o i,subscripted b false o i=operate [o,i] (getItem o i)
def Fy (X:Cx)(r:R2):Prop:=
 ∀(value slice:Expr) (pins:O (J×Obj)) (s:Shared) (σ:St) (H:Hp) (x y:V) (v u:Value) (Q:VK),Inv X pins σ H s->RelV x v->RelV y u->r x y H Q ->
   subscripted slice false v u=operate [v,u] (getItem v u)->wpAny (model X.prog X.w) X.A (subscriptTail value slice v u) (EP X pins σ Q) X.xe s
def EX (X:Cx)(id:String)(r:V->O V->Hp->VK->Prop):Prop:=
 ∀(pins:O (J×Obj)) (s:Shared) (σ:St) (H:Hp) (x:V) (xs:O V) (v:Value) (us:O Value) (Q:VK),Inv X pins σ H s->RelV x v->Vals xs us->r x xs H Q ->
   wpAny (model X.prog X.w) X.A (call (.builtin id) (v::us)) (EP X pins σ Q) X.xe s
section
variable{X:Cx}{a b:Expr}{ta tb:TE}{pos:Pos}
def Hm {r:R2}(hr:Fy X r)(ha:PE X a ta)(hb:PE X b tb)(hs:jH b):PE X (.Subscript a b pos) (yA r ta tb):=by
 intro pins s σ H Q I h
 #Subscript_ (Cg ha hb I h λv u s2 x y H2 I2 rx ry q=>hr a b pins s2 σ H2 x y v u Q I2 rx ry q (hs _ _))
def HR (K:Ro):R2:=λx y H Q=>∃p xs i v,x=.ref p/\y=.int i/\aH K H p xs/\iz xs i=S v/\Q v H
def HU (K:Ro):R2:=λx y H Q=>∃p xs i v,x=.ref p/\y=.int i/\bS K H p xs/\iz xs i=S v/\Q v H
def HS:R2:=λx y H Q=>∃z i c,x=.str z/\y=.int i/\z~<=sizeLine/\iz z.cps.toList i=S c/\Q (.str ⟨#[c]⟩) H
def zo:Fy X (HR X.K):=by
 intro value slice pins s σ H x y v u Q I rx ry h hs
 @⟨p,xs,i,z,rfl,rfl,hq,he,q⟩:=h
 cases rx
 @⟨t,rfl⟩:=ry
 @⟨its,r,pl,hz⟩:=I.list hq
 @⟨j,h1,h2,h3,h4,h5⟩:=bU he
 @⟨w,ew,rw'⟩:=r.get h2
 !hl:=r~
 !hn:=ip
 !fin:EP X pins σ Q w s:=⟨z,H,I,rw',q⟩
 by_cases h0:0<=i
 . !hj:i.toNat=j:=by
     rw[seqIndex_of h0 h5]at h1
     #Sa h1
   #item_listR pl.isList h0 (by lia) (by rw[hj];simpa using ew) fin hs
 . !hj:(i+(its.toArray.size:Int)).toNat=j:=by
     rw[seqIndex_neg (by lia) h4]at h1
     rw[RH,← hl]
     #Sa h1
   #subscriptTail_builtinR (x:=w) pl.isList.typeIs slot_list_getitem.lookup
     (wpAny_getItem_list_neg (Q:=λr s'=>r=w/\EP X pins σ Q r s') pl.isList (by lia) (by rw[RH]<;>lia) (by lia) (by rw[hj];simpa using ew) ⟨rfl,fin⟩) hs
def CU:Fy X (HU X.K):=by
 intro value slice pins s σ H x y v u Q I rx ry h hs
 @⟨p,xs,i,z,rfl,rfl,hq,he,q⟩:=h
 cases rx
 @⟨t,rfl⟩:=ry
 @⟨its,r,pl,hz⟩:=I.tuple hq
 @⟨j,h1,h2,h3,h4,h5⟩:=bU he
 @⟨w,ew,rw'⟩:=r.get h2
 !hl:=r~
 !hn:=ip
 !fin:EP X pins σ Q w s:=⟨z,H,I,rw',q⟩
 #subscriptTail_builtinR (x:=w) pl.typeIs slot_tuple_getitem.lookup
   (getItem_tuple (j:=j) (Q:=λr s'=>r=w/\EP X pins σ Q r s') pl (by lia) (by lia) (by rw[RH,← hl];#h1) (by simpa using ew) ⟨rfl,fin⟩) hs
def CT:Fy X HS:=by
 intro value slice pins s σ H x y v u Q I rx ry h hs
 @⟨z,i,c,rfl,rfl,hz,he,q⟩:=h
 @⟨t,rfl⟩:=rx
 @⟨t',rfl⟩:=ry
 @⟨j,h1,h2,h3,h4,h5⟩:=bU he
 !hl:z.cps.toList~=z~:=by simp[Str.length]
 rw[hl]at h1 h4 h5
 !hn:=ip
 #tail_any (typeIs_str s z t) slot_str_getitem.lookup (getItem_str (c:=c) (by
   !e1:decide (i < -(2^63:Int))=false:=gv (by lia)
   !e2:decide (i ≥ 2^63)=false:=gv (by lia)
   rw[e1,e2,Bool.or_false]) (by rw[h1];simpa using h2) ⟨.str ⟨#[c]⟩,H,I.tok _,⟨_,rfl⟩,q⟩) hs
def qd (its:O Value)(n j:Nat)(u:Value):Vo (·.setIfInBounds j u) {cls:=.type "list",data:=.seq its.toArray n}={cls:=.type "list",data:=.seq (its.set j u).toArray n}:=by
 simp[Vo]
def Inv.lst {pins:O (J×Obj)}{σ:St}{H:Hp}{s:Shared}{p:J}{xs:O V}(I:Inv X pins σ H s)(h:H p=S (.lst xs)) :
   ∃(its:O Value) (n:Nat),Vals xs its/\s.heap.get? p=S {cls:=.type "list",data:=.seq its.toArray n}/\xs~<=sizeLine:=by
 @⟨z,its,n,r,e⟩:=I.hok p _ h
 #⟨its,n,r,e,z⟩
def Inv.C4 {pins:O (J×Obj)}{σ:St}{H:Hp}{s:Shared}{p:J}{xs ys:O V}{its its':O Value}{n n':Nat}{f:Obj->Obj}(I:Inv X pins σ H s)(h:H p=S (.lst xs))
   (ho:s.heap.get? p=S {cls:=.type "list",data:=.seq its.toArray n}) (hf:f {cls:=.type "list",data:=.seq its.toArray n}={cls:=.type "list",data:=.seq its'.toArray n'}) (r:Vals ys its') (hz:ys~<=sizeLine) (t:Nat) :
   Inv X pins σ (upd H p (.lst ys)) {s with heap:=s.heap.update p f,toks:=t}:=by
 !e:(s.heap.update p f).get? p=S {cls:=.type "list",data:=.seq its'.toArray n'}:=by
   rw[UU f ho (by rw[hf]<;>rfl),hf]
 #I.write (x:=p) (e:=p) (by rw[h];trivial) (.inl rfl) (λb u hb q=>(T7 _ _ (Ne.symm hb)).trans q) ⟨_,e⟩ ?_
 #⟨hz,its',n',r,e⟩
def rQ:V->V->V->Hp->(Hp->Prop)->Prop:=λo i v H Q=>∃p xs k j,o=.ref p/\i=.int k/\H p=S (.lst xs)/\uX xs~ k=S j/\Q (upd H p (.lst (xs.set j v)))
def set_list:FC X rQ:=by
 intro pins s σ H o i v ov iv u Q I ro ri rv h
 @⟨p,xs,k,j,rfl,rfl,hp,hj,q⟩:=h
 cases ro
 @⟨t,rfl⟩:=ri
 @⟨its,n,r,ho,hz⟩:=I.lst hp
 @⟨h1,h2,h3,h4⟩:=rD hj
 !hl:=r~
 !hn:=ip
 !I':Inv X pins σ (upd H p (.lst (xs.set j v))) {s with heap:=s.heap.update p (Vo (·.setIfInBounds j u))}:=
   I.C4 hp ho (qd its n j u) (r.set rv j) (by rw[Ui];#hz) s.toks
 by_cases h0:0<=k
 . !hk:k.toNat=j:=by
     rw[seqIndex_of h0 h4]at h1
     #Sa h1
   #PySem.W.ki_setAt ho h0 (by lia) (by rw[RH,← hl];#h4) (by rw[hk];#⟨_,I',q⟩)
 . !hk:(k+(its.toArray.size:Int)).toNat=j:=by
     rw[seqIndex_neg (by lia) h3]at h1
     rw[RH,← hl]
     #Sa h1
   #PySem.W.ki_setBack ho (by lia) (by rw[RH,← hl];#h3) (by lia) (by rw[hk];#⟨_,I',q⟩)
def nZ (lo hi:Option Int)(n:Nat):(sliceBounds lo hi Z n).1=((HT.bX n 0 lo:Nat):Int)/\(sliceBounds lo hi Z n).2.1=((HT.bX n n hi:Nat):Int)/\(sliceBounds lo hi Z n).2.2=1:=by
 #⟨?_,?_,U⟩
 . cases lo with
   | none=>simp[sliceBounds,HT.bX]
   | some i=>
     simp only[sliceBounds,HT.bX,Option.getD_none,show(1:Int) > 0 by left,if_true]
     by_cases h:i<0
     . simp only[h,if_true]<;>lia
     . simp only[h,if_false]<;>lia
 . cases hi with
   | none=>simp[sliceBounds,HT.bX]
   | some i=>
     simp only[sliceBounds,HT.bX,Option.getD_none,show(1:Int) > 0 by left,if_true]
     by_cases h:i<0
     . simp only[h,if_true]<;>lia
     . simp only[h,if_false]<;>lia
def lQ (its:O Value)(lo hi:Option Int):slicePick its.toArray lo hi Z=((its.drop (HT.bX its~ 0 lo)).take (HT.bX its~ its~ hi-HT.bX its~ 0 lo)).toArray:=by
 @⟨h1,h2,h3⟩:=nZ lo hi its.toArray.size
 unfold slicePick
 rw[h1,h2,h3]
 simp only[sliceRange_one,pick_run,RH]<;>rfl
def As (K:Ro):V->Option Int->Option Int->Hp->VK->Prop:=λx lo hi H Q=>∃a xs,x=.ref a/\aH K H a xs/\∀p,H p=Z->Q (.ref p) (upd H p (.lst (er xs lo hi)))
def nY:IW X (As X.K):=by
 intro pins s σ H x v vl vu lo hi sl Q I rx hs pl pu h
 @⟨a,xs,rfl,hx,q⟩:=h
 cases rx
 @⟨its,r,ht,hz⟩:=I.list hx
 !hlen:=r~
 #⟨"list",_,slot_list_getitem.lookup,ht.isList.typeIs,?_⟩
 #wpAny_getItem_list_slice ht.isList hs pl pu .none (by simp) ?_ (by rw[RH]<;>lia)
 rw[lQ,← hlen]
 #⟨.ref s.heap.objs.size,_,I.laid (t':=s.toks) (o:=.lst (er xs lo hi)) (λb ob q=>Rr _ q) (Rz _) ?_,U,q _ (I.hok.fresh (Rz _))⟩
 #⟨Ry (jx xs lo hi) hz,_,0,(r.drop (HT.bX xs~ 0 lo)).take (HT.bX xs~ xs~ hi-HT.bX xs~ 0 lo),RK _ rfl⟩
def dE:V->Bool
 | .bI=>true
 | .bl _=>true
 | .int _=>true
 | .str _=>true
 | _=>false
def oB:V->V->Bool
 | .bI,.bI=>true
 | .bl a,.bl b=>a==b
 | .bl a,.int b=>(if a then 1 else 0)==b
 | .int a,.bl b=>a==(if b then 1 else 0)
 | .int a,.int b=>a==b
 | .str a,.str b=>a==b
 | _,_=>false
def vz {A:Around}{s:Shared}{y x:V}{u v:Value}(ry:RelV y u)(rx:RelV x v)(fy:dE y=true)(fx:dE x=true):SeqAt.EqAt A s u v (oB y x):=by
 cases y with
 | bI=>
   cases ry
   cases x with
   | bI=>cases rx;#SeqAt.EqAt.same _
   | bl b=>cases rx;#SeqAt.EqAt.none_bool b
   | int b=>@⟨t,rfl⟩:=rx;#SeqAt.EqAt.none_int b t
   | str b=>@⟨t,rfl⟩:=rx;#SeqAt.EqAt.none_str b t
   | _=>#au (show false=true from fx) RV
 | bl a=>
   cases ry
   cases x with
   | bI=>cases rx;#SeqAt.EqAt.bool_none a
   | bl b=>cases rx;#SeqAt.EqAt.bool_bool a b
   | int b=>@⟨t,rfl⟩:=rx;#SeqAt.EqAt.bool_int a b t
   | str b=>@⟨t,rfl⟩:=rx;#SeqAt.EqAt.bool_str a b t
   | _=>#au (show false=true from fx) RV
 | int a=>
   @⟨t',rfl⟩:=ry
   cases x with
   | bI=>cases rx;#SeqAt.EqAt.int_none a t'
   | bl b=>cases rx;#SeqAt.EqAt.int_bool a t' b
   | int b=>@⟨t,rfl⟩:=rx;#SeqAt.EqAt.int_int a t' b t
   | str b=>@⟨t,rfl⟩:=rx;#VW a t' b t
   | _=>#au (show false=true from fx) RV
 | str a=>
   @⟨t',rfl⟩:=ry
   cases x with
   | bI=>cases rx;#SeqAt.EqAt.str_none a t'
   | bl b=>cases rx;#SeqAt.EqAt.str_bool a t' b
   | int b=>@⟨t,rfl⟩:=rx;#VU a t' b t
   | str b=>@⟨t,rfl⟩:=rx;#SeqAt.EqAt.str_str a t' b t
   | _=>#au (show false=true from fx) RV
 | _=>#au (show false=true from fy) RV
def mZ (x:V)(u:Value):Bool:=match u with
 | .none=>oB .bI x
 | .bool b=>oB (.bl b) x
 | .int i _=>oB (.int i) x
 | .str z _=>oB (.str z) x
 | _=>false
def vA {x y:V}{u:Value}(r:RelV y u)(f:dE y=true):mZ x u=oB y x:=by
 cases y with
 | bI=>cases r;rfl
 | bl b=>cases r;rfl
 | int i=>@⟨t,rfl⟩:=r;rfl
 | str z=>@⟨t,rfl⟩:=r;rfl
 | _=>#au (show false=true from f) RV
theorem fY {x:V}:∀{xs:O V} {us:O Value},Vals xs us->xs.all dE=true->us.any (mZ x)=xs.any λy=>oB y x
 | _,_,.nil,_=>rfl
 | y::xs,u::us,.cons r t,f=>by
   rw[V9,To]at f
   rw[UA,UA,vA r f.1,fY t f.2]
theorem eN {A:Around}{s:Shared}{x:V}{v:Value}(rx:RelV x v)(fx:dE x=true):∀{xs:O V} {us:O Value},Vals xs us->xs.all dE=true->∀u∈us,SeqAt.EqAt A s u v (mZ x u)
 | _,_,.nil,_=>λu hu=>by cases hu
 | y::xs,u::us,.cons r t,f=>λu' hu=>by
   rw[V9,To]at f
   rcases List.mem_cons.mp hu with rfl|hu
   . rw[vA r f.1];#vz r rx f.1 fx
   . #eN rx fx t f.2 u' hu
def iN (x:V)(xs:O V):Bool:=xs.any λy=>oB y x
def Jn (K:Ro)(neg:Bool):R2:=λx y H Q=>∃p xs,y=.ref p/\(aH K H p xs\/bS K H p xs)/\dE x=true/\xs.all dE=true/\Q (.bl (if neg then !iN x xs else iN x xs)) H
def ur:gC X (compareOp .In) (Jn X.K false):=by
 intro pins s σ H x y v u Q I rx ry h
 @⟨p,xs,rfl,hq,fx,fs,q⟩:=h
 cases ry
 rcases hq with hq|hq
 . @⟨its,r,pl,hz⟩:=I.list hq
   #SeqAt.in_listAt (mZ x) pl.isList (λw hw=>eN rx fx r fs w (by simpa using hw)) ⟨.bl _,H,I,U,?_⟩
   rw[show its.toArray.any (mZ x)=its.any (mZ x)by simp,fY r fs]
   #q
 . @⟨its,r,pl,hz⟩:=I.tuple hq
   #SeqAt.in_tupleAt (mZ x) pl (λw hw=>eN rx fx r fs w (by simpa using hw)) ⟨.bl _,H,I,U,?_⟩
   rw[show its.toArray.any (mZ x)=its.any (mZ x)by simp,fY r fs]
   #q
def nK:gC X (compareOp .NotIn) (Jn X.K true):=by
 intro pins s σ H x y v u Q I rx ry h
 @⟨p,xs,rfl,hq,fx,fs,q⟩:=h
 cases ry
 rcases hq with hq|hq
 . @⟨its,r,pl,hz⟩:=I.list hq
   #SeqAt.notIn_listAt (mZ x) pl.isList (λw hw=>eN rx fx r fs w (by simpa using hw)) ⟨.bl _,H,I,U,?_⟩
   rw[show its.toArray.any (mZ x)=its.any (mZ x)by simp,fY r fs]
   #q
 . @⟨its,r,pl,hz⟩:=I.tuple hq
   #SeqAt.notIn_tupleAt (mZ x) pl (λw hw=>eN rx fx r fs w (by simpa using hw)) ⟨.bl _,H,I,U,?_⟩
   rw[show its.toArray.any (mZ x)=its.any (mZ x)by simp,fY r fs]
   #q
def mO:dz X (.builtin "len") (λxs H Q=>∃p ys,xs=[.ref p]/\(aH X.K H p ys\/bS X.K H p ys)/\Q (.int ys~) H):=by
 intro pins s σ H xs us Q I r h
 @⟨p,ys,rfl,hq,q⟩:=h
 @⟨u,rfl,rx⟩:=vals1 r
 cases rx
 !hn:=ip
 rcases hq with hq|hq
 . @⟨its,r',pl,hz⟩:=I.list hq
   !hlen:=r'~
   #Calls.call_len_list pl.isList (by simp only[RH]<;>lia) ⟨.int ys~,H,I.tok _,⟨s.toks+1,by rw[RH,hlen]⟩,q⟩
 . @⟨its,r',pl,hz⟩:=I.tuple hq
   !hlen:=r'~
   #len_tuple pl (by simp only[RH]<;>lia) ⟨.int ys~,H,I.tok _,⟨s.toks+1,by rw[RH,hlen]⟩,q⟩
def mQ:dz X (.builtin "len") (λxs H Q=>∃z,xs=[.str z]/\z~<=sizeLine/\Q (.int z~) H):=by
 intro pins s σ H xs us Q I r h
 @⟨z,rfl,hz,q⟩:=h
 @⟨u,rfl,t,rfl⟩:=vals1 r
 !hn:=ip
 #len_str (by lia) ⟨.int z~,H,I.tok _,⟨_,U⟩,q⟩
def mR:dz X (.type "list") (λxs H Q=>∃p ys,xs=[.ref p]/\(aH X.K H p ys\/bS X.K H p ys)/\∀l,H l=Z->Q (.ref l) (upd H l (.lst ys))):=by
 intro pins s σ H xs us Q I r h
 @⟨p,ys,rfl,hq,q⟩:=h
 @⟨u,rfl,rx⟩:=vals1 r
 cases rx
 !fin:∀(its:O Value),Vals ys its->ys~<=sizeLine->∀(h':Heap) (c':Nat),(∀b o',s.heap.get? b=S o'->h'.get? b=S o') ->
     h'.get? s.heap.objs.size=S {cls:=.type "list",dict:=Z,data:=.seq its.toArray c',slots:=#[]}->EP X pins σ Q (.ref s.heap.objs.size) {s with heap:=h'}:=λits r' hz h' c' kp e=>
   ⟨.ref s.heap.objs.size,_,I.laid (t':=s.toks) kp (Rz _) (show bB X.prog X.w _ h' _ (.lst ys)from⟨hz,its,c',r',e⟩),rfl,q _ (I.hok.fresh (Rz _))⟩
 rcases hq with hq|hq
 . @⟨its,r',pl,hz⟩:=I.list hq
   !hlen:=r'~
   @⟨o,ho,hc,n,hd⟩:=pl.isList
   #call_list_seq p (.inl rfl) ho hc hd (λh' c' kp e=>fin its r' hz h' c' kp e) (by simp only[RH]<;>lia)
 . @⟨its,r',pl,hz⟩:=I.tuple hq
   !hlen:=r'~
   @⟨o,ho,hc,n,hd⟩:=pl
   #call_list_seq p (.inr rfl) ho hc hd (λh' c' kp e=>fin its r' hz h' c' kp e) (by simp only[RH]<;>lia)
def lJ:dz X (.type "tuple") (λxs H Q=>∃p ys,xs=[.ref p]/\((aH X.K H p ys/\∀l,H l=Z->Q (.ref l) (upd H l (.tup ys)))\/(bS X.K H p ys/\Q (.ref p) H))):=by
 intro pins s σ H xs us Q I r h
 @⟨p,ys,rfl,h⟩:=h
 @⟨u,rfl,rx⟩:=vals1 r
 cases rx
 rcases h with⟨hq,q⟩|⟨hq,q⟩
 . @⟨its,r',pl,hz⟩:=I.list hq
   !hlen:=r'~
   #call_tuple_list pl.isList (λh' kp=>?_) (by simp only[RH]<;>lia)
   !I1:Inv X pins σ H {s with heap:=h'}:=I.kept (t':=s.toks) kp
   !I2:Inv X pins σ (upd H h'.objs.size (.tup ys)) {s with heap:=h'.push {cls:=.type "tuple",data:=.seq its.toArray} }:=
     I1.laid (t':=s.toks) (λb o e=>Rr _ e) (Rz _) (show bB X.prog X.w _ _ _ (.tup ys)from⟨hz,its,r',IsTup.new _ _⟩)
   #⟨.ref h'.objs.size,_,I2,U,q _ (I1.hok.fresh (Rz _))⟩
 . @⟨its,r',pl,hz⟩:=I.tuple hq
   #call_tuple_same pl ⟨.ref p,H,I,U,q⟩
def Lw (K:Ro)(T:String)(x:V)(H:Hp):Prop:=match x with
 | .str _=>T="str"
 | .int _=>T="int"
 | .ref p=>(T="list"/\∃xs,aH K H p xs)\/(T="tuple"/\∃o,K.lookup p=S o/\o.cls=.type "tuple"/\o.dict=Z) \/
     (T="dict"/\((∃kvs,H p=S (.dK kvs))\/∃kvs,H p=S (.dT kvs)))\/(T="set"/\∃S8x n,H p=S (.set S8x n))
 | _=>False
def qN {pins:O (J×Obj)}{σ:St}{H:Hp}{s:Shared}{T:String}{x:V}{v:Value}(I:Inv X pins σ H s)(r:RelV x v)(ty:Lw X.K T x H) :
   s.TypeIs v T/\∀a,v=.ref a->∃ob,s.heap.get? a=S ob/\ob.dict=Z:=by
 cases x with
 | str z=>
   @⟨t,rfl⟩:=r
   cases(show T="str" from ty)
   #⟨typeIs_str s z t,λy e=>nomatch e⟩
 | int i=>
   @⟨t,rfl⟩:=r
   cases(show T="int" from ty)
   #⟨typeIs_int s i t,λy e=>nomatch e⟩
 | ref p=>
   cases r
   rcases ty with⟨rfl,xs,hq⟩|⟨rfl,o,hk,hc,hd⟩|⟨rfl,hk⟩|⟨rfl,S8x,n,hk⟩
   . @⟨its,_,pl,_⟩:=I.list hq
     #⟨pl.isList.typeIs,λa e=>?_⟩
     cases e
     @⟨o,n,e,c,hd,_⟩:=pl
     #⟨o,e,hd⟩
   . #⟨⟨o,I.lM p o hk,hc⟩,λa e=>?_⟩
     cases e
     #⟨o,I.lM _ o hk,hd⟩
   . !z:∃o,s.heap.get? p=S o/\o.ExactDict:=by
       rcases hk with⟨kvs,hk⟩|⟨kvs,hk⟩
       . @⟨_,_,_,_,o,_,_,e,ex,_⟩:=I.hok p _ hk
         #⟨o,e,ex⟩
       . @⟨_,_,_,_,o,_,_,e,ex,_⟩:=I.hok p _ hk
         #⟨o,e,ex⟩
     @⟨o,e,ex⟩:=z
     #⟨⟨o,e,ex.1⟩,λa e2=>?_⟩
     cases e2
     #⟨o,e,ex.2.1⟩
   . @⟨o,_,_,_,e,ex,_⟩:=I.hok p _ hk
     #⟨⟨o,e,ex.1⟩,λa e2=>?_⟩
     cases e2
     #⟨o,e,ex.2.1⟩
 | _=>#Tb ty
def Iy (K:Ro)(T:String)(r:V->O V->Hp->VK->Prop)(to:TE):TE:=λσ H Q=>to σ H λx H1=>Lw K T x H1/\r x [] H1 Q
def EI (K:Ro)(T:String)(r:V->O V->Hp->VK->Prop)(to:TE)(t:TA):TE:=λσ H Q=>to σ H λx H1=>Lw K T x H1/\t σ H1 λxs H2=>r x xs H2 Q
variable{o e:Expr}{es:O Expr}{to:TE}{t:TA}{name:Str}{apos cpos:Pos}{T id:String}{r:V->O V->Hp->VK->Prop}
def DH (pa:PlainAttrs T)(slot:Slot T name id)(hty:typeOf (.builtin id)=pure (.type "method_descriptor"))(hm:EX X id r)(ho:PE X o to)
   (hbase:Ss o name X.env (eval o X.env)=eval o X.env:=by rfl) (hline:(apos.endLine==cpos.line)=true:=by rfl):PE X (.Call (.Attribute o name apos) [] [] cpos) (Iy X.K T r to):=by
 intro pins s σ H Q I h
 #wpAny_Call_method0_late hbase hline (bw (ho pins s σ H _ I h) λv s1 h9=>?_)
 @⟨x,H1,I1,r1,ty,q1⟩:=h9
 @⟨h1,h2⟩:=qN I1 r1 ty
 #⟨T,id,pa,slot,hty,h1,h2,Ts rfl (PySem.evalArgs_none (hm pins s1 σ H1 x [] v [] Q I1 r1 .nil q1))⟩
def Hl (pa:PlainAttrs T)(slot:Slot T name id)(hty:typeOf (.builtin id)=pure (.type "method_descriptor"))(hm:EX X id r)(ho:PE X o to)(ha:PA X (e::es) t)
   (hbase:Ss o name X.env (eval o X.env)=eval o X.env:=by rfl)
   (hfew:((backTo cpos (starEach (e::es) X.env)).all (λx=>!x.1)&&(backToKw cpos (keywordEach [] X.env)).all (λx=>x.1.isSome)
     && decide ((e::es)~+([]:O Keyword)~+(if([]:O Keyword).isEmpty then 0 else 1)<30))=true:=by rfl)
   (hline:(apos.endLine==cpos.line)=true:=by rfl) (hs:starEach (e::es) X.env=(false,eval e X.env)::starEach es X.env:=by rfl) (hplain:(backTo cpos (starEach es X.env)).any (·.1)=false:=by rfl) :
   PE X (.Call (.Attribute o name apos) (e::es) [] cpos) (EI X.K T r to t):=by
 intro pins s σ H Q I h
 #wpAny_Call_method_late hbase hfew hline rfl (bw (ho pins s σ H _ I h) λv s1 h9=>?_)
 @⟨x,H1,I1,r1,ty,q1⟩:=h9
 @⟨h1,h2⟩:=qN I1 r1 ty
 #⟨T,id,pa,slot,hty,h1,h2,?_⟩
 !hA:=ha cpos pins s1 σ H1 _ I1 q1
 rw[hs]at hA ⊢
 #Ts (by change(false || (backTo cpos (starEach es X.env)).any (·.1))=false;rw[hplain]<;>rfl) (TL ?_)
 #bw hA λus s2 h9=>?_
 @⟨vs,H2,I2,r2,q2⟩:=h9
 #hm pins s2 σ H2 x vs v us Q I2 r1 r2 q2
end
def JB (X:Cx)(id:String)(r:V->O V->Hp->VK->Prop):Prop:=
 ∀(pins:O (J×Obj)) (s:Shared) (σ:St) (H:Hp) (x:V) (xs:O V) (v:Value) (us:O Value) (Q:VK),Inv X pins σ H s->RelV x v->Vals xs us->r x xs H Q ->
   wpAny (model X.prog X.w) X.A (call (.builtin id) (v::us)) (EP X pins σ Q) X.xe s
def Vals.one:∀{x:V} {us:O Value},Vals [x] us->∃u,us=[u]/\RelV x u:=by
 intro x us h
 cases h with
 | cons r h=>cases h;#⟨_,rfl,r⟩
def Vals.two:∀{x y:V} {us:O Value},Vals [x,y] us->∃u v,us=[u,v]/\RelV x u/\RelV y v:=by
 intro x y us h
 cases h with
 | cons r h=>cases h with
   | cons q h=>cases h;#⟨_,_,rfl,r,q⟩
def Vals.zero:∀{us:O Value},Vals [] us->us=[]
 | _,.nil=>rfl
theorem Vals.dropLast {xs:O V}{us:O Value}(h:Vals xs us):Vals xs.dropLast us.dropLast:=by
 induction h with
 | nil=>#.nil
 | cons r t ih=>
   cases t with
   | nil=>#.nil
   | cons q t'=>#.cons r ih
theorem Vals.eraseIdx:∀{xs:O V} {us:O Value} (i:Nat),Vals xs us->Vals (xs.eraseIdx i) (us.eraseIdx i)
 | _,_,_,.nil=>.nil
 | _,_,0,.cons _ t=>t
 | _,_,i+1,.cons r t=>.cons r (Vals.eraseIdx i t)
def pN {α:Type}(l:O α):l.eraseIdx (l~-1)=l.dropLast:=by
 induction l with
 | nil=>rfl
 | cons a r ih=>
   cases r with
   | nil=>rfl
   | cons b r=>
     have e:(a::b::r)~-1=((b::r)~-1)+1:=by
       have h1:(a::b::r)~=r~+2:=rfl
       have h2:(b::r)~=r~+1:=rfl
       lia
     rw[e,V8,ih]
     all_goals rfl
theorem mm {α:Type}:∀(l:O α) (i:Nat),(l.eraseIdx i)~<=l~
 | [],_=>Rz _
 | _::_,0=>Ve _
 | _::r,i+1=>Nat.succ_le_succ (mm r i)
section
variable{X:Cx}{pins:O (J×Obj)}{σ:St}{H:Hp}{s:Shared}{l b:J}{xs ys zs:O V}
def Inv.C3 {its its':O Value}{n:Nat}{f:Array Value->Array Value}{t':Nat}(I:Inv X pins σ H s)(hH:H l=S (.lst xs))
   (e:s.heap.get? l=S {cls:=.type "list",data:=.seq its.toArray n}) (hf:f its.toArray=its'.toArray) (hv:Vals ys its') (hz:ys~<=sizeLine) :
   Inv X pins σ (upd H l (.lst ys)) {s with heap:=s.heap.update l (Vo f),toks:=t'}:=by
 !q:=PySem.IsL.update e f
 rw[hf]at q
 #I.write (x:=l) (e:=l) (by rw[hH];#trivial) (.inl rfl) (λb' u hb hu=>(T7 s.heap (Vo f) (Ne.symm hb)).trans hu) ⟨_,q⟩ ?_
 #⟨hz,its',_,hv,q⟩
def Inv.K3 {its:O Value}{t':Nat}(I:Inv X pins σ H s)(hv:Vals ys its)(hz:ys~<=sizeLine) :
   Inv X pins σ (upd H s.heap.objs.size (.lst ys)) {s with heap:=s.heap.push {cls:=.type "list",data:=.seq its.toArray},toks:=t'}:=
 I.laid (λz z q=>Rr _ q) (Rz _) ⟨hz,its,0,hv,RK _ rfl⟩
def Inv.fresh (I:Inv X pins σ H s):H s.heap.objs.size=Z:=I.hok.fresh (Rz _)
def Inv.wc (I:Inv X pins σ H s)(hH:H l=S (.lst xs)):xs~<=sizeLine/\∃(its:O Value) (n:Nat),Vals xs its/\xs~=its~/\s.heap.get? l=S {cls:=.type "list",data:=.seq its.toArray n}:=by
 @⟨z,its,n,r,e⟩:=I.hok l _ hH
 #⟨z,its,n,r,r~,e⟩
end
section
variable{X:Cx}
def rP:V->O V->Hp->VK->Prop:=λx vs H Q=>∃l xs y,x=.ref l/\vs=[y]/\H l=S (.lst xs)/\xs~<sizeLine/\Q .bI (upd H l (.lst (xs++[y])))
def mr:JB X "list.append" rP:=by
 intro pins s σ H x vs v us Q I rx rv h
 @⟨l,xs,y,rfl,rfl,hH,hz,q⟩:=h
 cases rx
 @⟨u,rfl,ru⟩:=rv.one
 @⟨z,its,n,r,hl,e⟩:=I.wc hH
 #Vh F.slot_list_append ⟨_,e,U⟩ F.entry_list_append (F.args_list_append_2 _ _) (PySem.list_append l its.toArray n u (by rw[RH];lia)) ⟨e,?_⟩
 #⟨.bI,_,I.C3 (its':=its++[u]) hH e (by simp) (r.append (.cons ru .nil)) ?_,U,q⟩
 rw[Rx,Sj]
 lia
def HV:V->O V->Hp->VK->Prop:=λx vs H Q=>∃l xs y,x=.ref l/\vs=[]/\H l=S (.lst xs)/\xs[xs~-1]?=S y/\Q y (upd H l (.lst xs.dropLast))
def C7:JB X "list.pop" HV:=by
 intro pins s σ H x vs v us Q I rx rv h
 @⟨l,xs,y,rfl,rfl,hH,hy,q⟩:=h
 cases rx
 !Py:=rv.zero
 subst Py
 @⟨z,its,n,r,hl,e⟩:=I.wc hH
 @⟨u,hu,ru⟩:=r.get hy
 !CL:its.toArray[its.toArray.size-1]?=S u:=by
   change its.toArray[its~-1]?=S u
   rw[← We,← hl]
   #hu
 #Vh F.slot_list_pop ⟨_,e,U⟩ F.entry_list_pop (F.args_list_pop_1 _) (MeetsSeq.list_pop_last l its.toArray n u CL (by rw[RH];lia)) ⟨e,?_⟩
 #⟨y,_,I.C3 (its':=its.dropLast) hH e ?_ r.dropLast ?_,ru,q⟩
 . change its.toArray.eraseIdxIfInBounds (its.toArray.size-1)=its.dropLast.toArray
   rw[RH,Vm,pN]
 . rw[List.length_dropLast]
   lia
def xG:V->O V->Hp->VK->Prop:=λx vs H Q=>∃l xs i k y,x=.ref l/\vs=[.int i]/\H l=S (.lst xs)/\-(2^63)<=i/\i<2^63/\Va i xs~=S k/\xs[k]?=S y/\Q y (upd H l (.lst (xs.eraseIdx k)))
def wo:JB X "list.pop" xG:=by
 intro pins s σ H x vs v us Q I rx rv h
 @⟨l,xs,i,k,y,rfl,rfl,hH,h1,h2,hk,hy,q⟩:=h
 cases rx
 @⟨u,rfl,ru⟩:=rv.one
 @⟨t,rfl⟩:=ru
 @⟨z,its,n,r,hl,e⟩:=I.wc hH
 @⟨w,hw,rw'⟩:=r.get hy
 #Vh F.slot_list_pop ⟨_,e,U⟩ F.entry_list_pop (F.args_list_pop_2 _ _)
   (MeetsSeq.list_pop_at l its.toArray n i t k w (fitsIndex_both h1 h2) (by rw[RH,← hl];#hk) (by rw[← We];#hw) (by rw[RH];lia)) ⟨e,?_⟩
 #⟨y,_,I.C3 (its':=its.eraseIdx k) hH e ?_ (r.eraseIdx k) ?_,rw',q⟩
 . change its.toArray.eraseIdxIfInBounds k=(its.eraseIdx k).toArray
   rw[Vm]
 . !:=mm xs k
   lia
def HP:R2:=λx y H Q=>∃l b xs zs,x=.ref l/\y=.ref b/\H l=S (.lst xs)/\H b=S (.lst zs)/\xs~+zs~<=sizeLine/\∀p,H p=Z->Q (.ref p) (upd H p (.lst (xs++zs)))
def Dl:gC X (binaryOp .Add) HP:=by
 intro pins s σ H x y v u Q I rx ry h
 @⟨l,b,xs,zs,rfl,rfl,hH,hB,hz,q⟩:=h
 cases rx
 cases ry
 @⟨z,its,n,r,hl,e⟩:=I.wc hH
 @⟨z2,tX,n2,r2,pX,e2⟩:=I.wc hB
 #PySem.P.add_list e e2 ?_ (by rw[RH,RH];lia)
 !ea:its.toArray++tX.toArray=(its++tX).toArray:=by simp
 rw[ea]
 #⟨.ref _,_,I.K3 (t':=s.toks) (r.append r2) (by rw[Rx];lia),U,q _ I.fresh⟩
end
end L2
namespace LK
open PySem PySem.W PySem.Calls PyProof.Rows
def jG {P:Params}{h:Heap}:∀(ns:O Int) (vs:O Value),WellAll P h vs (ns.map WData.int)->IntsAre vs ns:=by
 intro ns
 induction ns with
 | nil=>
   intro vs w
   rw[Ud]at w
   cases w
   #.nil
 | cons n ns ih=>
   intro vs w
   rw[R3]at w
   cases w with
   | cons a b=>
     cases a
     #.cons _ _ (ih _ b)
def uK {l:OpenLaw}{n:Nat}(hn:l.most=S n){P:Params}{h:Heap}{args:O WData}{vals:O Value}
   (hpre:l.row.toRowW.claim.pre args=true) (hwl:WellAll P h vals args) :
   ∃a vs ns,vals=[R6 a]/\args=[WData.list (ns.map WData.int)]/\h.get? a=S {cls:=.type "list",data:=.seq vs.toArray}/\IntsAre vs ns/\ns~<=n:=by
 !Po:WShape.hasAll [] args [.list .int]=true:=(pre_splitW hpre).1
 !hc:l.pre.holds [] {args:=args}=true:=(pre_splitW hpre).2
 @⟨d,r,rfl,h1,h2⟩:=hasAllW_cons Po
 obtain rfl:=hasAllW_nil h2
 @⟨xs,rfl,h3⟩:=hasW_list h1
 @⟨ns,rfl⟩:=items_int h3
 !hlen:ns~<=n:=by
   unfold OpenLaw.pre at hc
   !h4:(WTm.not (.lt (.lit (.int (n:Int))) (.len (.arg 0)))).holds [] {args:=[.list (ns.map .int)]}=true:=by
     !h4:=(holds_andW hc).1
     rw[hn]at h4
     #h4
   !h5:=condW_of h4 (w_not (w_lt w_lit (w_len_list (w_arg rfl))))
   rw[Rn]at h5
   #Nat.le_of_not_lt λq=>?_
   !q':(n:Int)<((ns~:Nat):Int):=by lia
   first
     | (rw[hW q']at h5;#au h5 (by left))
     | (simp at h5;lia)
 cases hwl with
 | cons w1 w2=>
   cases w2
   cases w1 with
   | list ho hall=>#⟨_,_,ns,rfl,rfl,ho,jG ns _ hall,hlen⟩
def uz (l:OpenLaw)(args:O WData):l.row.toRowW.claim.post args (.bool true) args=true:=
 postW_of (r:=l.row.toRowW) (X:=(true==true))
   (show WShape.has [] (.bool true) .bool=true by first|rfl|decide|simp[WShape.has,WShape.arms,WShape.armsAll])
   (show(WTm.eq .res (.lit (.bool true))).value [] {args:=args,res:=S (.bool true),after:=args}=S (.bool (true==true))from w_eq_bool (w_res rfl) w_lit) rfl
def oq {l:OpenLaw}{n:Nat}{q:Program}{loose:O Str}{XP:(Str->Option Value)->Heap->Prop}{YP:World->Heap->Prop}{d:DefRec}
   (hn:l.most=S n) (hdf:d.params.defaults=[])
   (call:∀(w:World) (s₀ s₁:Shared) (mg mb:Str->Option Value) (fa:J) (o:Obj) (pm cd doc:Value) (a:J) (vs:O Value) (ns:O Int),
     Ground q loose [] XP w s₀ mg mb s₁.heap->YP w s₁.heap ->
     s₁.heap.get? fa=S o->o.data=.func (docDef d.name d.params d.body d.scope pm cd doc)->s₁.heap.CodeRec cd d.name->mg d.name=S (.ref fa) ->
     s₁.heap.get? a=S {cls:=.type "list",data:=.seq vs.toArray}->IntsAre vs ns->ns~<=n->s₁.gens=#[] ->
     codeAny (model l.prog w) callerA (.call (.ref fa) ⟨[.ref a],[]⟩) (λr s'=>r=.ok (.ret (.bool true))/\OldK s₁.heap s'.heap/\s'.os=s₁.os/\AllBare s'.gens) s₁) :
   WalkO q loose XP YP l.row.toRowW d [] (λf vs=>PySem.call f vs):=by
 intro w s₀ s₁ mg mb G Y8 fa o pm cd doc dV kV ho hd hcd hD hmg hg args vals as hpre O8 Q2 hwl QZ
 obtain rfl:dV=.none:=Dflts.none hD hdf
 obtain rfl:kV=.none:=Dflts.noKw hD
 @⟨a,vs,ns,rfl,rfl,CH,hints,hlen⟩:=uK hn hpre hwl
 #enter_call (codeAny_mono (call w s₀ s₁ mg mb fa o pm cd doc a vs ns G Y8 ho (fd_plain hd) hcd hmg CH hints hlen hg) λr s' hq=>?_)
 @⟨rfl,h2,h3,h4⟩:=hq
 #⟨.inl ⟨.bool true,.bool true,[],U,λz=>rfl,.bool true,uz l _,λz=>⟨List.Pairwise.nil,λz hm=>(nomatch hm)⟩⟩,h2,h3,h4⟩
end LK
namespace L2
open PySem PySem.Spec PyProof.Rows
theorem mE:∀{vs:O Value} {ns:O Int},IntsAre vs ns->Vals (ns.map V.int) vs
 | _,_,.nil=>.nil
 | _,_,.cons n t h=>.cons ⟨t,rfl⟩ (mE h)
def B9 (H:Hp):Prop:=∀b,H b=Z\/∃o xs,H b=S (.frz o (.lst xs))
def wa {P:Program}{w:World}{K:Ro}{mg mb:Str->Option Value}{CX:uT}{k:Nat}{fa a:J}{fd:RZ}{x:Str}{sp:Sp}{s₁:Shared}{vs:O Value}{ns:O Int}
   (KX:K.In s₁.heap) (hns:s₁.heap.Ns SD mg) (hb:s₁.heap.Ns builtinsNs mb) (hbb:∀x:Str,x≠"__name__"->mb x=SJ x) (hlim:s₁.heap.NoLimit) (hg:s₁.gens=#[])
   (ha:s₁.heap.get? a=S {cls:=.type "list",data:=.seq vs.toArray}) (hi:IntsAre vs ns) (hl:ns~<=sizeLine) (hr:bY k callerA)
   (F:∀base:Heap,K.In base->base.Ns SD mg->aY P w K mg base CX k fa fd [x] sp) (hbind:∀(s:Shared) (u:Value),BindsTo s fd ⟨[u],[]⟩ [(x,u)])
   (hsp:∀H:Hp,B9 H->aH K H a (ns.map V.int)->sp [.ref a] H (λv y=>v=.bl true) λy y y=>False)
   (hCX:∀H e s',CX [] H s₁ (λy y y=>False) e s'->False) :
   codeAny (model P w) callerA (.call (.ref fa) ⟨[.ref a],[]⟩) (λr s'=>r=.ok (.ret (.bool true))/\OldK s₁.heap s'.heap/\s'.os=s₁.os/\AllBare s'.gens) s₁:=by
 !rv:=mE hi
 !K1:=hi~
 !core:∀H:Hp,B9 H->aH K H a (ns.map V.int)->fW P w H s₁.heap->(∀b,H b≠Z->b=a)->(H a≠Z->K.lookup a=Z) ->
     codeAny (model P w) callerA (.call (.ref fa) ⟨[.ref a],[]⟩) (λr s'=>r=.ok (.ret (.bool true))/\OldK s₁.heap s'.heap/\s'.os=s₁.os/\AllBare s'.gens) s₁:=by
   intro H hO hS hok hA hK
   !qT:∀{b:J} {o:Obj},s₁.heap.get? b=S o->H b=Z->(nh s₁.heap H).get? b=S o:=λe n=>vO e n
   !noA:∀{b:J} {o:Obj} {es:Array TZ} {ep:Nat},s₁.heap.get? b=S o->o.data=.dict es ep->H b=Z:=λ{b o es ep} e d=>by
     cases q:H b with
     | none=>rfl
     | some u=>
       have e':b=a:=hA b (by rw[q];simp)
       subst e'
       rw[ha]at e;cases e
       !d':Data.seq vs.toArray _=Data.dict es ep:=d
       cases d'
   !nsK:∀{b:J} {m:Str->Option Value},s₁.heap.Ns b m->(nh s₁.heap H).Ns b m:=λ{b m} ⟨o,es,ep,e,d,r⟩=>⟨o,es,ep,qT e (noA e d),d,r⟩
   !Mt:K.In (nh s₁.heap H):=λb o e=>qT (KX b o e) (by
     cases q:H b with
     | none=>rfl
     | some u=>
       have e':b=a:=hA b (by rw[q];simp)
       subst e'
       rw[hK (by rw[q];simp)]at e;cases e)
   !hM:Mod K mg (nh s₁.heap H):=⟨Mt,nsK hns,⟨mb,nsK hb,hbb⟩,let⟨mc,h1,h2⟩:=hlim;⟨mc,nsK h1,h2⟩⟩
   !e0:pD P w K mg (nh s₁.heap H) callerA [] s₁ H:=⟨rfl,hM,λb o e=>zI e,Nat.le_of_eq (tT _ _),trivial,λb hb=>au (show b∈([]:O J)from hb) (by simp),hok,.of_eq hg⟩
   #codeAny_mono ((F _ Mt (nsK hns)).run callerA [] s₁ H ⟨[.ref a],[]⟩ [.ref a] [.ref a] _ _ hr e0 (hbind s₁ (.ref a)) (.cons rfl .nil) (hsp H hO hS)) λr s' h=>?_
   cases r with
   | error e=>#(hCX H e s' h).elim
   | ok fl=>
     cases fl with
     | next=>#Tb h
     | brk=>#Tb h
     | cont=>#Tb h
     | ret u=>
       @⟨v,H',os,bare,un,KN,r',q⟩:=h
       !q':v=.bl true:=q
       subst q'
       obtain rfl:u=Ur true:=r'
       #⟨U,OldK.of_keep λb o e=>?_,os,bare⟩
       cases q:H b with
       | none=>#un.keep b o e q (by intro z;#au (show b∈([]:O J)from z) (by simp)) (by simp)
       | some u=>
         rcases hO b with z|⟨ob,xs,z⟩
         . rw[q]at z;cases z
         . !z2:=un.frzs b ob _ z
           @⟨e1,_⟩:=hok b _ z
           @⟨e2,_⟩:=KN b _ z2
           rw[e]at e1;cases e1
           #e2
 cases hk:K.lookup a with
 | some o=>
   have e:=KX a o hk
   rw[ha]at e
   cases e
   #core (λy=>Z) (λy=>.inl rfl) (.inr ⟨_,vs.toArray,_,hk,U,U,U,by rw[RH,K1];show hl,by simpa using rv⟩) (λb u z=>by !z':(Z:Option HO)=S u:=z;cases z') (λb z=>au rfl z) λz=>au rfl z
 | none=>
   #core (λb=>if b=a then S (.frz {cls:=.type "list",data:=.seq vs.toArray} (.lst (ns.map V.int)))else Z) (λb=>?_) (.inl (.inr ⟨{cls:=.type "list",data:=.seq vs.toArray},dI rfl⟩)) (λb u z=>?_) (λb z=>?_) λy=>hk
   . by_cases hb:b=a
     . #.inr ⟨_,_,dI hb⟩
     . #.inl (dh hb)
   . by_cases hb:b=a
     . !z':=(dI hb).symm.trans z
       cases z'
       subst hb
       #⟨ha,by rw[Rn];#hl,vs,_,rv,ha⟩
     . !z':=(dh hb).symm.trans z
       cases z'
   . by_cases hb:b=a
     . #hb
     . #au (dh hb) z
def AQ {l:PySem.W.OpenLaw}{n k:Nat}{q:Program}{loose:O Str}{XP:(Str->Option Value)->Heap->Prop}{YP:World->Heap->Prop}{d:DefRec}{K:Params->Ro}{CX:World->uT}{sp:World->Sp}{x:Str}
   (hn:l.most=S n) (hn2:n<=sizeLine) (hdf:d.params.defaults=[]) (hr:bY k callerA)
   (hY:∀(w:World) (h:Heap),YP w h->(K w.params).In h)
   (F:∀(w:World) (mg:Str->Option Value) (fa:J) (h:Heap),(K w.params).In h->h.Ns SD mg->mg d.name=S (.ref fa) ->
     ∃fd:RZ,(∀(s:Shared) (u:Value),BindsTo s fd ⟨[u],[]⟩ [(x,u)]) /\
       ∀base:Heap,(K w.params).In base->base.Ns SD mg->aY l.prog w (K w.params) mg base (CX w) k fa fd [x] (sp w))
   (hsp:∀(w:World) (H:Hp) (a:J) (ns:O Int),ns~<=n->B9 H->aH (K w.params) H a (ns.map V.int)->sp w [.ref a] H (λv z=>v=.bl true) λz z z=>False)
   (hCX:∀(w:World) (H:Hp) (s:Shared) (e:Value) (s':Shared),CX w [] H s (λz z z=>False) e s'->False) :
   PySem.W.WalkO q loose XP YP l.row.toRowW d [] (λf vs=>PySem.call f vs):=by
 #LK.oq hn hdf λw s₀ s₁ mg mb fa o pm cd doc a vs ns G Y8 ho hd hcd hmg CH hints hlen hg=>?_
 !KX:=hY w _ Y8
 @⟨fd,hb,hF⟩:=F w mg fa _ KX G.T.g hmg
 #wa KX G.T.g G.T.b G.T.builtins G.T.nolimit hg CH hints (Ry hlen hn2) hr hF hb (λH hO hS=>hsp w H a ns hlen hO hS) λH e s'=>hCX w H s₁ e s'
def dt (s:Stmt):Arguments:=match s with
 | .FunctionDef _ a _ _ _ _ _ _ _ _=>a
 | _=>{posonlyargs:=[],args:=[],vararg:=Z,kwonlyargs:=[],kw_defaults:=[],kwarg:=Z,defaults:=[]}
def ck (s:Stmt):O Stmt:=match s with
 | .FunctionDef _ _ b _ _ _ _ _ _ _=>b
 | _=>[]
def ao (s:Stmt):Scope:=match s with
 | .FunctionDef _ _ _ _ _ _ sc _ _ _=>sc
 | _=>{kind:=.function,names:=[],isGenerator:=false,isCoroutine:=false}
abbrev dq:uT:=λ_ _ _ _ _ _=>False
abbrev E0:XK:=λ_ _ _=>False
def rK {X:Cx}:Passes dq X E0:=λz z z z z z z h=>h.elim
structure cD (K:Ro)(x qual:Str)(st:Stmt)(f:J)(fd:RZ):Prop where
 ex:∃(oc:Value) (od:Option J) (kV doc pm:Value) (an:Option J) (cdv ct:Value) (osl:Array (Option Value)),
   fd=S6 x qual (dt st) (ck st) (ao st) .none kV doc pm an cdv ct/\K.lookup f=S ⟨oc,od,.func fd,osl⟩/\UO K cdv qual=true
 kp:Tf K (.ref f)=true
section
variable{P:Program}{w:World}{K:Ro}{mg:Str->Option Value}{base:Heap}
def cD.ok {x qual:Str}{st:Stmt}{f:J}{fd:RZ}{N ps:O Str}{k:Nat}{sp:Sp}(F:cD K x qual st f fd)(S8x:aC N ps (ao st))(len:∀vs H Q E,sp vs H Q E->vs~=ps~)
   (hbody:∀(cdv:Value) (A:Around) (outer:O Env) (s:Shared) (H:Hp) (vs:O V) (Q:VK) (E:XK),bY k (A.deeper (envOfC qual (ao st) s.heap.objs.size f cdv))->sp vs H Q E ->
     ∃t,lD (cY dq P w K mg base N qual (ao st) f cdv A outer s H E).nD (ck st) t/\t {nx:=λz H'=>Q .bI H',rt:=Q} (start N vs) H):aY P w K mg base dq (k+1) f fd ps sp:=by
 @⟨oc,od,kV,doc,pm,an,cdv,ct,osl,rfl,lk,hcd⟩:=F.ex
 #A2 lk hcd S8x len λA outer s H vs Q E hr hsp=>?_
 @⟨t,h,q⟩:=hbody cdv A outer s H vs Q E hr hsp
 #⟨t,h.nD,q⟩
def cD.iU {x qual:Str}{st:Stmt}{f:J}{fd:RZ}{N ps:O Str}{k:Nat}{sp:Sp}(F:cD K x qual st f fd)(S8x:aC N ps (ao st))(hbody:∀(cdv:Value) (A:Around) (outer:O Env) (s:Shared) (H:Hp) (vs:O V) (Q:VK) (E:XK),bY k (A.deeper (envOfC qual (ao st) s.heap.objs.size f cdv))->sp vs H Q E->∃t,lD (cY dq P w K mg base N qual (ao st) f cdv A outer s H E).nD (ck st) t/\t {nx:=λz H'=>Q .bI H',rt:=Q} (start N vs) H)(len:∀vs H Q E,sp vs H Q E->vs~=ps~:=by intro vs H Q E h;repeat first|(@⟨rfl,_⟩:=h;rfl)|@⟨_,h⟩:=h):aY P w K mg base dq (k+1) f fd ps sp:=F.ok S8x len hbody
def cD.binds {x qual:Str}{st:Stmt}{f:J}{fd:RZ}{ps:O Str}(F:cD K x qual st f fd)
   (h:∀(kV doc pm:Value) (an:Option J) (cdv ct:Value) (us:O Value),us~=ps~->V3 (S6 x qual (dt st) (ck st) (ao st) .none kV doc pm an cdv ct) ⟨us,[]⟩=pure (ps.zip us)):Binds K fd ps []:=by
 @⟨oc,od,kV,doc,pm,an,cdv,ct,osl,rfl,lk,hcd⟩:=F.ex
 #.all (h kV doc pm an cdv ct)
def fD {x qual:Str}{st:Stmt}{f:J}{oc:Value}{od an:Option J}{osl:Array (Option Value)}{kV doc pm cdv ct:Value}(l:K.lookup f=S ⟨oc,od,.func (S6 x qual (dt st) (ck st) (ao st) .none kV doc pm an cdv ct),osl⟩)
   (c:UO K cdv qual=true) (k:Tf K (.ref f)=true):cD K x qual st f (S6 x qual (dt st) (ck st) (ao st) .none kV doc pm an cdv ct):=⟨⟨oc,od,kV,doc,pm,an,cdv,ct,osl,rfl,l,c⟩,k⟩
end
def aW {n:Nat}(h:n<=1000):n<sizeLine:=Tv h (by left)
def cb {A B:Prop}(h:B):if false=true then A else B:=by
 rw[dh RV]
 #h
def b6 {A B:Prop}(h:A):if true=true then A else B:=by
 rw[dI rfl]
 #h
def aG {c A B:Prop}[Decidable c](h1:c->A)(h2:¬ c->B):if c then A else B:=by
 by_cases h:c
 . rw[dI h]
   #h1 h
 . rw[dh h]
   #h2 h
def ai (H H':Hp):Prop:=∀b o,H b=S o->H' b=S o
def ai.seq {K:Ro}{H H':Hp}{a:J}{xs:O V}(e:ai H H')(h:aH K H a xs):aH K H' a xs:=by
 rcases h with(h|⟨o,h⟩)|h
 . #.inl (.inl (e _ _ h))
 . #.inl (.inr ⟨o,e _ _ h⟩)
 . #.inr h
section
variable{κ:Type}[DecidableEq κ]
def fj (kvs:O (κ×V))(k:κ):Option V:=(kvs.find? λkv=>decide (kv.1=k)).map (·.2)
def putK (kvs:O (κ×V))(k:κ)(v:V):O (κ×V):=
 if(kvs.any λkv=>decide (kv.1=k))=true then kvs.map (λkv=>if kv.1=k then(kv.1,v)else kv)else kvs++[(k,v)]
def je {p:κ×V}{r:O (κ×V)}{k:κ}(e:p.1=k):fj (p::r) k=S p.2:=by simp[fj,T4,e]
def fT {p:κ×V}{r:O (κ×V)}{k:κ}(e:¬ p.1=k):fj (p::r) k=fj r k:=by simp[fj,T4,e]
theorem lC (k:κ):∀kvs:O (κ×V),(kvs.any λkv=>decide (kv.1=k))=(fj kvs k).isSome
 | []=>rfl
 | p::r=>by
   rw[UA]
   by_cases e:p.1=k
   . simp only[je e,hW e,Bool.true_or,Option.isSome_some]
   . rw[fT e,gv e,Bool.false_or];#lC k r
def fG (kvs:O (κ×V))(k:κ)(v:V):(putK kvs k v)~<=kvs~+1:=by
 unfold putK
 split
 . rw[Rn];lia
 . rw[Rx,RE,Tx];lia
def eh.jn {o:Option V}{u:Option Value}(r:eh o u):o.isSome=u.isSome:=by
 cases o with
 | none=>cases u with
   | none=>rfl
   | some _=>#(show False from r).elim
 | some _=>cases u with
   | none=>#(show False from r).elim
   | some _=>rfl
theorem eh.getD {o:Option V}{u:Option Value}{d:V}{d':Value}(r:eh o u)(rd:RelV d d'):RelV (o.getD d) (u.getD d'):=by
 cases o with
 | none=>cases u with
   | none=>#rd
   | some _=>#(show False from r).elim
 | some _=>cases u with
   | none=>#(show False from r).elim
   | some _=>#r
def KV.val {kvs:O (κ×V)}{vs:O (κ×Value)}(r:KV kvs vs)(k:κ):eh (fj kvs k) (valueAt vs k):=by
 unfold KV at r
 induction r with
 | nil=>#RO
 | @cons p q ps qs h t ih=>
   @⟨h1,h2⟩:=h
   by_cases e:p.1=k
   . !e':q.1=k:=h1.symm.trans e
     !b:valueAt (q::qs) k=S q.2:=by simp[valueAt,T4,e']
     rw[je e,b];#h2
   . !e':¬ q.1=k:=λz=>e (h1.trans z)
     !b:valueAt (q::qs) k=valueAt qs k:=by simp[valueAt,T4,e']
     rw[fT e,b];#ih
theorem KV.any {kvs:O (κ×V)}{vs:O (κ×Value)}(r:KV kvs vs)(k:κ):(kvs.any λkv=>decide (kv.1=k))=vs.any λkv=>decide (kv.1=k):=by
 unfold KV at r
 induction r with
 | nil=>rfl
 | cons h t ih=>rw[UA,UA,ih,h.1]
def KV.Ej {kvs:O (κ×V)}{vs:O (κ×Value)}(r:KV kvs vs)(k:κ){y:V}{u:Value}(ry:RelV y u) :
   KV (kvs.map λkv=>if kv.1=k then(kv.1,y)else kv) (vs.map λkv=>if kv.1=k then(kv.1,u)else kv):=by
 unfold KV at r ⊢
 induction r with
 | nil=>#.nil
 | @cons p q ps qs h t ih=>
   rw[R3,R3]
   #.cons ?_ ih
   @⟨h1,h2⟩:=h
   by_cases e:p.1=k
   . rw[dI e,dI (h1.symm.trans e)];#⟨h1,ry⟩
   . rw[dh e,dh (λz=>e (h1.trans z))];#⟨h1,h2⟩
def KV.put {kvs:O (κ×V)}{vs:O (κ×Value)}(r:KV kvs vs)(k:κ){y:V}{u:Value}(ry:RelV y u):KV (putK kvs k y) (stored vs k u):=by
 unfold putK stored
 rw[r.any k]
 by_cases e:(vs.any λkv=>decide (kv.1=k))=true
 . rw[dI e,dI e];#r.Ej k ry
 . rw[dh e,dh e];#Paired.snoc r ⟨rfl,ry⟩
def KV.length {kvs:O (κ×V)}{vs:O (κ×Value)}(r:KV kvs vs):kvs~=vs~:=Paired.length r
end
def oQ {P:Program}{w:World}{k:Key}{u:Value}(r:RelV (kV k) u):(bH P w).is k u=true:=by
 cases k with
 | inl i=>@⟨t,e⟩:=(show ∃t,u=UL i t from r);subst e;#oS P w i t
 | inr x=>@⟨t,e⟩:=(show ∃t,u=Uq x t from r);subst e;#oU P w x t
theorem me {P:Program}{w:World}:∀{ks:O Key} {us:O Value},Vals (ks.map kV) us->ItemsAre (bH P w) ks us
 | [],_,r=>by rw[Ud]at r;cases r;#.nil
 | k::ks,_,r=>by
   rw[R3]at r
   cases r with
   | cons h t=>#.cons (oQ h) (me t)
abbrev KT (H:Hp):O (O Key×V)->O (O Key×J×Value)->Prop:=Paired λp q=>p.1=q.1/\H q.2.1=S (.tup (p.1.map kV))/\RelV p.2 q.2.2
def KT.val {H:Hp}{kvs:O (O Key×V)}{xs:O (O Key×J×Value)}(r:KT H kvs xs)(k:O Key):eh (fj kvs k) ((atKey xs k).map (·.2)):=by
 induction r with
 | nil=>#RO
 | @cons p q ps qs h t ih=>
   @⟨h1,_,h2⟩:=h
   by_cases e:p.1=k
   . !e':q.1=k:=h1.symm.trans e
     !b:atKey (q::qs) k=S q.2:=by simp[atKey,T4,e']
     rw[je e,b];#h2
   . !e':¬ q.1=k:=λz=>e (h1.trans z)
     !b:atKey (q::qs) k=atKey qs k:=by simp[atKey,T4,e']
     rw[fT e,b];#ih
def KT.Ej {H:Hp}{kvs:O (O Key×V)}{xs:O (O Key×J×Value)}(r:KT H kvs xs)(k:O Key){y:V}{u:Value}(ry:RelV y u) :
   KT H (kvs.map λkv=>if kv.1=k then(kv.1,y)else kv) (xs.map (putAt k u)):=by
 induction r with
 | nil=>#.nil
 | @cons p q ps qs h t ih=>
   rw[R3,R3]
   #.cons ?_ ih
   @⟨h1,h2,h3⟩:=h
   unfold putAt
   by_cases e:p.1=k
   . rw[dI e,dI (h1.symm.trans e)];#⟨h1,h2,ry⟩
   . rw[dh e,dh (λz=>e (h1.trans z))];#⟨h1,h2,h3⟩
def KT.put {H:Hp}{kvs:O (O Key×V)}{xs:O (O Key×J×Value)}(r:KT H kvs xs)(k:O Key){b:J}{y:V}{u:Value}(hb:H b=S (.tup (k.map kV)))(ry:RelV y u) :
   KT H (putK kvs k y) (storedH xs k b u):=by
 !e:(kvs.any λkv=>decide (kv.1=k))=(atKey xs k).isSome:=by
   rw[lC,(r.val k).jn,Option.isSome_map]
 unfold putK storedH
 rw[e]
 by_cases q:(atKey xs k).isSome=true
 . rw[dI q,dI q];#r.Ej k ry
 . rw[dh q,dh q];#Paired.snoc r ⟨rfl,hb,ry⟩
def KT.keeps {H H':Hp}{kvs:O (O Key×V)}{xs:O (O Key×J×Value)}(r:KT H kvs xs)(ht:∀b ys,H b=S (.tup ys)->H' b=S (.tup ys)):KT H' kvs xs:=
 Paired.cZ r λy y z=>⟨z.1,ht _ _ z.2.1,z.2.2⟩
section
variable{P:Program}{w:World}{H:Hp}{h:Heap}{a:J}
def Bw {u:HO}(ok:fW P w H h)(e:Rd H a u):bB P w H h a u:=e.ok ok
def qZ {kvs:O (Key×V)}(ok:fW P w H h)(e:Rd H a (.dK kvs)):kvs~<=sizeLine/\(a==Th)=false/\∃vs,KV kvs vs/\h.DictOf (bH P w) a vs:=
 show bB P w H h a (.dK kvs)from Bw ok e
def A1 {kvs:O (Key×V)}(ok:fW P w H h)(e:H a=S (.dK kvs)):kvs~<=sizeLine/\(a==Th)=false/\∃vs,KV kvs vs/\h.DictOf (bH P w) a vs:=qZ ok (.inl e)
def nr {ks:O Key}(ok:fW P w H h)(e:H a=S (.tup (ks.map kV))):(tupleKind (bH P w)).is h ks a:=by
 @⟨_,its,r,o,h1,h2,n,h3⟩:=(show bB P w H h a (.tup (ks.map kV))from ok a _ e)
 #⟨o,its.toArray,n,h1,h2,h3,by simpa using me r⟩
def q9 {kvs:O (O Key×V)}(ok:fW P w H h)(e:Rd H a (.dT kvs)):kvs~<=sizeLine/\(a==Th)=false /\
   ∃xs,KT H kvs xs/\h.DictOfH (tupleKind (bH P w)) a xs:=by
 @⟨z,y,xs,r,o,es,ep,h1,h2,h3,h4,h5⟩:=(show bB P w H h a (.dT kvs)from Bw ok e)
 #⟨z,y,xs,r,o,es,ep,h1,h2,h3,h4,λx hx=>?_,h5⟩
 !all:∀{l:O (O Key×V)} {m:O (O Key×J×Value)},KT H l m->∀x∈m,(tupleKind (bH P w)).is h x.1 x.2.1:=by
   intro l m q
   induction q with
   | nil=>intro x hx;#nomatch hx
   | @cons p q ps qs hq t ih=>
     intro x hx
     rcases List.mem_cons.mp hx with e|hx
     . subst e
       #nr ok (by rw[← hq.1];#hq.2.1)
     . #ih x hx
 #all r x hx
def FQ {kvs:O (O Key×V)}(ok:fW P w H h)(e:H a=S (.dT kvs)):kvs~<=sizeLine/\(a==Th)=false /\
   ∃xs,KT H kvs xs/\h.DictOfH (tupleKind (bH P w)) a xs:=q9 ok (.inl e)
end
def j6 (H:Hp)(a:J)(y:V)(r:Option V):Prop:=
 (∃kvs k,Rd H a (.dK kvs)/\y=kV k/\r=fj kvs k)\/∃kvs k b,Rd H a (.dT kvs)/\y=.ref b/\H b=S (.tup (k.map kV))/\r=fj kvs k
def u5 (H:Hp)(a:J)(y v:V)(H':Hp):Prop:=
 (∃kvs k,H a=S (.dK kvs)/\y=kV k/\kvs~<sizeLine/\H'=upd H a (.dK (putK kvs k v))) \/
 ∃kvs k b,H a=S (.dT kvs)/\y=.ref b/\H b=S (.tup (k.map kV))/\kvs~<sizeLine/\H'=upd H a (.dT (putK kvs k v))
def j6.k {H:Hp}{a:J}{kvs:O (Key×V)}{k:Key}(e:H a=S (.dK kvs)):j6 H a (kV k) (fj kvs k):=.inl ⟨kvs,k,.inl e,rfl,rfl⟩
def j6.t {H:Hp}{a b:J}{kvs:O (O Key×V)}{k:O Key}(e:H a=S (.dT kvs))(eb:H b=S (.tup (k.map kV))):j6 H a (.ref b) (fj kvs k):=.inr ⟨kvs,k,b,.inl e,rfl,eb,rfl⟩
def u5.t {H:Hp}{a b:J}{kvs:O (O Key×V)}{k:O Key}{v:V}(e:H a=S (.dT kvs))(eb:H b=S (.tup (k.map kV)))(hl:kvs~<sizeLine) :
   u5 H a (.ref b) v (upd H a (.dT (putK kvs k v))):=.inr ⟨kvs,k,b,e,rfl,eb,hl,rfl⟩
section
variable{X:Cx}{pins:O (J×Obj)}{σ:St}{H:Hp}{s:Shared}{a:J}{y v:V}{u r:Value}{o:Option V}{A:Around}{E:Value->Shared->Prop}
def Inv.big (I:Inv X pins σ H s):Th<s.heap.objs.size:=by
 !h:SD<s.heap.objs.size:=(I.mod.glob.keeps I.bk).lt
 #TC (by left) h
def tE {Q:Value->Shared->Prop}(hu:A.units+1<cLine)(I:Inv X pins σ H s)(g:j6 H a y (S v))(ry:RelV y u)(h:∀w' s',Inv X pins σ H s'->RelV v w'->Q w' s') :
   wpAny (model X.prog X.w) A (getItem (.ref a) u) Q E s:=by
 rcases g with⟨kvs,k,e,ey,l⟩|⟨kvs,k,b,e,ey,eb,l⟩
 . subst ey
   @⟨z,hd,vs,rel,dd⟩:=qZ I.hok e
   @⟨w',hw,rw'⟩:=eh.some_of (v:=v) (o:=valueAt vs k) (by rw[l];#rel.val k)
   #wpAny_getItem_of (oQ ry) dd.mapOf hw (h w' _ (I.tok _) rw')
 . subst ey
   cases(show u=R6 b from ry)
   @⟨z,hd,xs,rel,dd⟩:=q9 I.hok e
   @⟨w',hw,rw'⟩:=eh.some_of (v:=v) (o:=(atKey xs k).map (·.2)) (by rw[l];#rel.val k)
   @⟨p,hp,rn⟩:=Option.map_eq_some_iff.mp hw
   #wpAny_getItem_heap (tupleKind_room_in1 hu) (nr I.hok eb) dd hp ?_
   rw[rn]
   #h w' _ (I.tok _) rw'
def JP {Q:Value->Shared->Prop}(hu:A.units+1<cLine)(I:Inv X pins σ H s)(g:j6 H a y o)(ry:RelV y u)(h:∀s',Inv X pins σ H s'->Q (.bool o.isSome) s') :
   wpAny (model X.prog X.w) A (compareOp .In u (.ref a)) Q E s:=by
 rcases g with⟨kvs,k,e,ey,l⟩|⟨kvs,k,b,e,ey,eb,l⟩
 . subst ey
   @⟨z,hd,vs,rel,dd⟩:=qZ I.hok e
   #wpAny_in_of (oQ ry) hd dd.mapOf ?_
   rw[← (rel.val k).jn,← l]
   #h _ (I.tok _)
 . subst ey
   cases(show u=R6 b from ry)
   @⟨z,hd,xs,rel,dd⟩:=q9 I.hok e
   #wpAny_in_heap (tupleKind_room_in1 hu) (nr I.hok eb) hd dd ?_
   !q:=(rel.val k).jn
   rw[Option.isSome_map]at q
   rw[← q,← l]
   #h _ (I.tok _)
def mX {h':Heap}{t':Nat}{ob:HO}(I:Inv X pins σ H s)(mu:Fz (H a))(hs:Sz a s.heap h')(he:∃q,h'.get? a=S q)(new:bB X.prog X.w (upd H a ob) h' a ob) :
   Inv X pins σ (upd H a ob) {s with heap:=h',toks:=t'}:=
 I.write (x:=a) (e:=a) mu (.inl rfl) (λb q hb z=>(hs.2 b hb).trans z) he new
def vt {P:Program}{w:World}{H':Hp}{h':Heap}{kvs:O (Key×V)}{vs:O (Key×Value)}(z:kvs~<=sizeLine)(hd:(a==Th)=false)(rel:KV kvs vs)(dd:h'.DictOf (bH P w) a vs) :
   bB P w H' h' a (.dK kvs):=⟨z,hd,vs,rel,dd⟩
end
def u6 (i:Expr):Prop:=∀ov iv,subscripted i false ov iv=operate [ov,iv] (getItem ov iv)
def sr {prog:Program}{w:World}{A:Around}{E:Value->Shared->Prop}{s:Shared}{env:Env}{value slice:Expr}{pos:Pos}{T id:String}{Q:Value->Shared->Prop}
   (hl:typeLookup (.type T) "__getitem__"=pure (S (.builtin id))) (hs:u6 slice)
   (h:wpAny (model prog w) A (eval value env) (λo s₁=>wpAny (model prog w) A (eval slice env) (λi s₂=>s₂.TypeIs o T/\wpAny (model prog w) A (getItem o i) Q E s₂) E s₁) E s) :
   wpAny (model prog w) A (eval (.Subscript value slice pos) env) Q E s:=by
 #Subscript_ (wpAny_mono h (λo s₁ h₁=>wpAny_mono h₁ (λi s₂ h₂=>?_) λz z x=>x) λz z x=>x)
 @⟨hT,h₂⟩:=h₂
 unfold subscriptTail
 #wpAny_bind ?_
 rw[getitemInPython_of_ne hT.not_modules]
 #wpAny_bind (wpAny_specialOf hT hl ?_)
 !fin:wpAny (model prog w) A (subscripted slice false o i) (λr s₃=>wpAny (model prog w) A (letTemporaryGo value o r>>=λz=>pure r) Q E s₃) E s₂:=by
   rw[hs o i]
   #wpAny_operating (wpAny_mono h₂ (λr s₃ h₃=>wpAny_bind (wpAny_letTemporaryGo (wpAny_pure h₃))) λz z x=>x)
 first
   | show wpAny_pure (wpAny_bind fin)
   | show wpAny_bind (wpAny_pure (wpAny_bind fin))
   | show wpAny_bind fin
def oA {X:Cx}{pins:O (J×Obj)}{σ:St}{H:Hp}{s:Shared}{a:J}{y:V}{o:Option V}(I:Inv X pins σ H s)(g:j6 H a y o):s.TypeIs (.ref a) "dict":=by
 rcases g with⟨kvs,k,e,_,_⟩|⟨kvs,k,b,e,_,_,_⟩
 . @⟨_,_,vs,_,dd⟩:=qZ I.hok e
   #dd.typeIs
 . @⟨_,_,xs,_,dd⟩:=q9 I.hok e
   #dd.typeIs
def BR (td ty:TE):TE:=λσ H Q=>td σ H λx H1=>ty σ H1 λy H2=>∃a v,x=.ref a/\j6 H2 a y (S v)/\Q v H2
def Iz (ty td:TE):TE:=λσ H Q=>ty σ H λy H1=>td σ H1 λx H2=>∃a o,x=.ref a/\j6 H2 a y o/\Q (.bl o.isSome) H2
section
variable{X:Cx}{o i e value:Expr}{pos pos' AN:Pos}{td ty tv:TE}
def z7 (hu:X.A.units+1<cLine)(ho:PE X o td)(hi:PE X i ty)(hs:u6 i):PE X (.Subscript o i pos) (BR td ty):=by
 intro pins s σ H Q I h
 #sr PySem.F.slot_dict_getitem.lookup hs (bw (ho pins s σ H _ I h) λu s1 g9=>?_)
 @⟨x,H1,I1,rx,q1⟩:=g9
 #bw (hi pins s1 σ H1 _ I1 q1) λiv s2 h9=>?_
 @⟨y,H2,I2,ry,a,v,ex,g,q2⟩:=h9
 subst ex
 obtain rfl:u=R6 a:=rx
 #⟨oA I2 g,tE hu I2 g ry λw' s3 I3 rw'=>⟨v,H2,I3,rw',q2⟩⟩
def DF (hu:X.A.units+1<cLine)(hi:PE X i ty)(ho:PE X o td):PC X .In i o (Iz ty td):=by
 intro pins s σ H Q I h
 #bw (hi pins s σ H _ I h) λiv s1 g9=>?_
 @⟨y,H1,I1,ry,q1⟩:=g9
 #bw (ho pins s1 σ H1 _ I1 q1) λu s2 h9=>?_
 @⟨x,H2,I2,rx,a,ov,ex,g,q2⟩:=h9
 subst ex
 obtain rfl:u=R6 a:=rx
 #JP hu I2 g ry λs3 I3=>⟨.bl ov.isSome,H2,I3,U,q2⟩
end
def vq {P:Program}{w:World}{H:Hp}(h:Heap)(hb:Th<h.objs.size):bB P w H (h.push {cls:=.type "dict",data:=.dict #[]}) h.objs.size (.dK []):=
 ⟨Sd _,beq_eq_false_iff_ne.mpr (Ne.symm (R1 hb)),[],.nil,Heap.DictOf.new h⟩
def vw {P:Program}{w:World}{H:Hp}(h:Heap)(hb:Th<h.objs.size):bB P w H (h.push {cls:=.type "dict",data:=.dict #[]}) h.objs.size (.dT []):=
 ⟨Sd _,beq_eq_false_iff_ne.mpr (Ne.symm (R1 hb)),[],.nil,_,#[],0,RK _ rfl,⟨rfl,rfl,rfl⟩,rfl,rfl,List.nodup_nil⟩
def qI:O (TE×TE)->St->Hp->(O (V×V)->Hp->Prop)->Prop
 | [],_,H,Q=>Q [] H
 | (tk,tv)::r,σ,H,Q=>tk σ H λx H1=>tv σ H1 λy H2=>qI r σ H2 λps H3=>Q ((x,y)::ps) H3
abbrev VV:O (V×V)->O (Value×Value)->Prop:=Paired λp q=>RelV p.1 q.1/\RelV p.2 q.2
def FA (X:Cx)(pos:Pos)(keys:O (Option Expr))(values:O Expr)(trs:O (TE×TE)):Prop:=
 ∀(pins:O (J×Obj)) (s:Shared) (σ:St) (H:Hp) (Q:O (V×V)->Hp->Prop),Inv X pins σ H s->qI trs σ H Q ->
   wpAny (model X.prog X.w) X.A (evalPairs (pairTrees keys values X.env pos)) (λvs s'=>∃ps H',Inv X pins σ H' s'/\VV ps vs/\Q ps H') X.xe s
def Aj {X:Cx}{pos:Pos}:FA X pos [] [] []:=λpins s σ H Q I h=>pairTrees_nil_walk ⟨[],H,I,.nil,h⟩
def xx {X:Cx}{pos:Pos}{k v:Expr}{ks:O (Option Expr)}{vs:O Expr}{tk tv:TE}{trs:O (TE×TE)}(hk:PE X k tk)(hv:PE X v tv)(hr:FA X pos ks vs trs) :
   FA X pos (S k::ks) (v::vs) ((tk,tv)::trs):=λpins s σ H Q I h=>
 pairTrees_cons_walk (bw (hk pins s σ H _ I h) λu s1 ⟨x,H1,I1,rx,q1⟩=>bw (hv pins s1 σ H1 _ I1 q1) λw2 s2 ⟨y,H2,I2,ry,q2⟩=>
   bw (hr pins s2 σ H2 _ I2 q2) λws s3 ⟨ps,H3,I3,rel,q3⟩=>⟨(x,y)::ps,H3,I3,.cons ⟨rx,ry⟩ rel,q3⟩)
def fH (kvs more:O (Key×V)):O (Key×V):=more.foldl (λacc kv=>putK acc kv.1 kv.2) kvs
def KV.merge:∀{more:O (Key×V)} {rs:O (Key×Value)} {kvs:O (Key×V)} {vs:O (Key×Value)},KV more rs->KV kvs vs->KV (fH kvs more) (merged vs rs):=by
 intro more rs kvs vs r
 unfold KV at r
 induction r generalizing kvs vs with
 | nil=>intro q;#q
 | @cons p q ps qs h t ih=>
   intro r0
   !e:KV (putK kvs p.1 p.2) (stored vs q.1 q.2):=by
     !:=r0.put p.1 h.2
     rw[← h.1];#this
   #ih e
theorem gK:∀(more kvs:O (Key×V)),(fH kvs more)~<=kvs~+more~
 | [],kvs=>by change kvs~<=kvs~+0;lia
 | p::r,kvs=>by
   !h1:=gK r (putK kvs p.1 p.2)
   !h2:=fG kvs p.1 p.2
   change(fH (putK kvs p.1 p.2) r)~<=_
   rw[RE];lia
theorem ki {P:Program}{w:World}:∀{kvs:O (Key×V)} {ws:O (Value×Value)},VV (kvs.map λkv=>(kV kv.1,kv.2)) ws->∃rs,Carries (bH P w) ws rs/\KV kvs rs
 | [],_,r=>by rw[Ud]at r;cases r;#⟨[],RO,.nil⟩
 | p::kvs,_,r=>by
   rw[R3]at r
   cases r with
   | @cons a b as bs h t=>
     @⟨rs,c,q⟩:=ki (P:=P) (w:=w) t
     @⟨b1,b2⟩:=b
     #⟨(p.1,b2)::rs,⟨oQ h.1,U,c⟩,.cons ⟨U,h.2⟩ q⟩
def BS (trs:O (TE×TE)):TE:=λσ H Q=>∀p,H p=Z->qI trs σ (upd H p (.dK [])) λps H2=>H2 p=S (.dK [])/\∃kvs:O (Key×V),ps=kvs.map (λkv=>(kV kv.1,kv.2))/\kvs~<=15/\Q (.ref p) (upd H2 p (.dK (fH [] kvs)))
def z9 {X:Cx}{pos:Pos}{keys:O (Option Expr)}{values:O Expr}{trs:O (TE×TE)}(h:FA X pos keys values trs)(hall:keys.all (·.isSome)=true)(hl:keys~=values~)(h0:keys≠[])
   (h15:keys~<=15):PE X (.Dict keys values pos) (BS trs):=by
 intro pins s σ H Q I q
 !hn:=I.hok.fresh (Rz s.heap.objs.size)
 !I1:=I.laid (a:=s.heap.objs.size) (o:=.dK []) (h':=s.heap.push {cls:=.type "dict",data:=.dict #[]}) (t':=s.toks) (λy y q=>Rr _ q) (Rz _) (vq s.heap I.big)
 #wpAny_Dict_walk (knd:=bH X.prog X.w) hall hl h0 h15 (bw (h pins _ σ _ _ I1 (q _ hn)) λws s2 h9=>?_)
 @⟨ps,H2,I2,rel,e,kvs,ep,lk,q2⟩:=h9
 subst ep
 @⟨rs,c,rk⟩:=ki (P:=X.prog) (w:=X.w) rel
 @⟨z,hd,Rl,r0,dd⟩:=A1 I2.hok e
 cases r0
 #⟨rs,c,dd,λh' yU hs=>⟨.ref s.heap.objs.size,_,?_,U,q2⟩⟩
 !hz:(fH [] kvs)~<=sizeLine:=by
   !h1:=gK kvs []
   rw[Tx]at h1
   rw[sizeLine_eq];lia
 !he:∃q,h'.get? s.heap.objs.size=S q:=by@⟨q,_,_,hq,_⟩:=yU;#⟨q,hq⟩
 #mX I2 (by rw[e];#RO) hs he (vt hz hd (rk.merge .nil) yU)
structure M1 (X:Cx)(o:Expr)(m:Str)(apos:Pos)(e:Expr)(cpos:Pos):Prop where
 base:Ss o m X.env (eval o X.env)=eval o X.env
 few:((backTo cpos (starEach [e] X.env)).all (λx=>!x.1)&&(backToKw cpos (keywordEach [] X.env)).all (λx=>x.1.isSome)
   && decide (([e]:O Expr)~+([]:O Keyword)~+(if([]:O Keyword).isEmpty then 0 else 1)<30))=true
 line:(apos.endLine==cpos.line)=true
 trees:backTo cpos (starEach [e] X.env)=[(false,eval e X.env)]
structure M2 (X:Cx)(o:Expr)(m:Str)(apos:Pos)(e f:Expr)(cpos:Pos):Prop where
 base:Ss o m X.env (eval o X.env)=eval o X.env
 few:((backTo cpos (starEach [e,f] X.env)).all (λx=>!x.1)&&(backToKw cpos (keywordEach [] X.env)).all (λx=>x.1.isSome)
   && decide (([e,f]:O Expr)~+([]:O Keyword)~+(if([]:O Keyword).isEmpty then 0 else 1)<30))=true
 line:(apos.endLine==cpos.line)=true
 trees:backTo cpos (starEach [e,f] X.env)=[(false,eval e X.env),(false,eval f X.env)]
end L2
namespace L2
open PySem PySem.Spec PyProof.Rows
def cG (scope:Scope)(env:Env):O (Str×J):=
 (scope.names.filterMap λ(p:Str×Ua)=>if p.2==.free then(env.cells.lookup p.1).map λc=>(p.1,c)else Z).reverse
theorem km (env:Env):∀(l:O (Str×Ua)) (acc:O (Str×J)),(∀p∈l,p.2=.free->∃c,env.cells.lookup p.1=S c) ->
   (forIn l acc λ(x:Str×Ua) (r:O (Str×J))=>if(x.2==Sl)=true then do let c←cellOf env x.1;pure (TU ((x.1,c)::r))else pure (TU r):Sem (O (Str×J))) =
     pure ((l.filterMap λ(p:Str×Ua)=>if p.2==.free then(env.cells.lookup p.1).map λc=>(p.1,c)else Z).reverse++acc)
 | [],acc,_=>rfl
 | p::l,acc,h=>by
   !ih:=λacc=>km env l acc λq hq=>h q (RC _ hq)
   rw[UT]
   by_cases hp:p.2=.free
   . @⟨c,hc⟩:=h p Ru hp
     !e:(p.2==Sl)=true:=by rw[hp];rfl
     rw[dI e]
     !ec:cellOf env p.1=pure c:=by unfold cellOf;rw[hc]
     rw[ec,TX,dI e,hc]
     change(forIn l ((p.1,c)::acc) _:Sem _)=_
     rw[ih]
     simp
   . !e:¬ (p.2==Sl)=true:=by intro z;#hp (by simpa using z)
     rw[dh e,TX,dh e]
     change(forIn l acc _:Sem _)=_
     rw[ih]
def gY {scope:Scope}{env:Env}(h:∀p∈scope.names,p.2=.free->∃c,env.cells.lookup p.1=S c):closureFor scope env=pure (cG scope env):=by
 !e:=km env scope.names [] h
 rw[RY]at e
 change((forIn scope.names [] λ(x:Str×Ua) (r:O (Str×J))=>if(x.2==Sl)=true then do let c←cellOf env x.1;pure (TU ((x.1,c)::r))else pure (TU r))>>=λcs=>pure cs:Sem (O (Str×J)))=_
 rw[e]
 rfl
def mU {scope:Scope}{env:Env}{x:Str}{c:J}(h:(x,c)∈cG scope env):(x,Sl)∈scope.names/\env.cells.lookup x=S c:=by
 unfold cG at h
 @⟨p,hp,e⟩:=List.mem_filterMap.mp (List.mem_reverse.mp h)
 @⟨n,k⟩:=p
 dsimp only at e
 by_cases hk:(k==Sl)=true
 . rw[dI hk]at e
   !O5:k=.free:=by simpa using hk
   subst O5
   cases q:env.cells.lookup n with
   | none=>rw[q]at e;cases e
   | some c'=>rw[q]at e;cases e;#⟨hp,q⟩
 . rw[dh hk]at e;cases e
def ji {scope:Scope}{env:Env}{x:Str}{c:J}(hm:(x,Sl)∈scope.names)(hc:env.cells.lookup x=S c):(cG scope env).lookup x=S c:=by
 !Ff:(x,c)∈cG scope env:=by
   unfold cG
   #List.mem_reverse.mpr (List.mem_filterMap.mpr ⟨(x,.free),hm,?_⟩)
   simp[hc]
 cases q:(cG scope env).lookup x with
 | none=>
   have:=List.lookup_eq_none_iff.mp q (x,c) Ff
   simp at this
 | some c'=>
   @⟨_,e⟩:=mU (Sm q)
   rw[hc]at e
   #e.symm
structure bp (sc:Scope)(env:Scope):Prop where
 kind:sc.kind=.function
 cell:∀y∈sc.names,y.2≠.cell
 names:∀x∈sc.names,x.2=.local->sc.names.lookup x.1=S .local
 free:∀x∈sc.names,x.2=.free->env.names.lookup x.1=S .cell\/env.names.lookup x.1=S .free
def bT (sc:Scope)(src:O (Option Nat))(N' N:O Str):Bool:=
 src~==N'.length&&(src.zip N').all λp=>match p.1 with
   | none=>true
   | some j=>N[j]?==S p.2&&sc.names.lookup p.2==S .free
def capσ (src:O (Option Nat))(σ:St):St:=src.map λo=>match o with
 | none=>Z
 | some j=>match σ[j]? with
   | some v=>v
   | none=>Z
def yO {sc:Scope}{N N':O Str}{src:O (Option Nat)}(h:bT sc src N' N=true){i:Nat}{x:Str}{j:Nat}(h1:src[i]?=S (S j))(h2:N'[i]?=S x):N[j]?=S x/\sc.names.lookup x=S .free:=by
 unfold bT at h
 !h':=(To _ _▸h).2
 !hz:(src.zip N')[i]?=S (S j,x):=by rw[List.getElem?_zip_eq_some];#⟨h1,h2⟩
 !q:=List.all_eq_true.mp h' _ (RL hz)
 simpa using q
def vh {sc:Scope}{N N':O Str}{src:O (Option Nat)}(h:bT sc src N' N=true):src~=N'.length:=by
 unfold bT at h
 !h':=(To _ _▸h).1
 simpa using h'
def cV (X:Cx)(N':O Str)(sc:Scope)(s:Shared)(H:Hp)(C:J)(fp:O J)(xe:Value->Shared->Prop):Cx where
 prog:=X.prog
 w:=X.w
 K:=X.K
 mg:=X.mg
 base:=X.base
 A:=X.A
 N:=N'
 s₀:=s
 H₀:=H
 env:=compEnvC sc (cG sc X.env) C X.env
 outer:=X.stack
 stack:=X.stack
 ex:=fp
 fn:=λz=>false
 calm:=X.calm
 pn:=[]
 xe:=xe
theorem fO {sc:Scope}{env:Env}{x:Str}:∀{names:O (Str×Ua)},
   (names.map λ(p:Str×Ua)=>if(p.2==Sl&&env.scope.kind==.function&&env.kindOf p.1==S .cell)then(p.1,Vz)else(p.1,p.2)).lookup x =
     (names.lookup x).map λk=>if(k==Sl&&env.scope.kind==.function&&env.kindOf x==S .cell)then Vz else k
 | []=>rfl
 | (n,k)::r=>by
   !ih:=@fO sc env x r
   rw[R3]
   cases hx:x==n with
   | true=>
     have e:x=n:=by simpa using hx
     subst e
     by_cases hc:(k==Sl&&env.scope.kind==.function&&env.kindOf x==S .cell)=true
     . simp only[hc,if_true,Tj,hx,Ta]
     . simp only[hc,if_false,Tj,hx,Ta,Um]
   | false=>
     by_cases hc:(k==Sl&&env.scope.kind==.function&&env.kindOf n==S .cell)=true
     . simp only[hc,if_true,Tj,hx];#ih
     . simp only[hc,if_false,Tj,hx,Um];#ih
def f7 {sc:Scope}{env:Env}{cl:O (Str×J)}{C:J}(x:Str):(compEnvC sc cl C env).kindOf x =
   (sc.names.lookup x).map λk=>if(k==Sl&&env.scope.kind==.function&&env.kindOf x==S .cell)then Vz else k:=
 fO (sc:=sc) (env:=env)
section
variable{X:Cx}{pins:O (J×Obj)}{σ:St}{H:Hp}{s:Shared}{N':O Str}{sc:Scope}{src:O (Option Nat)}{fp:O J}{xe:Value->Shared->Prop}
def ko (I:Inv X pins σ H s)(S8x:bp sc X.env.scope)(hc:bT sc src N' X.N=true)(hf:∀b∈fp,ef X pins H b)(ho:∀b∈fp,∃o,s.heap.get? b=S o){h₁:Heap}{tk:Nat}
   (hn:h₁.Ns s.heap.objs.size (λt=>Z)) (hk:∀b o,s.heap.get? b=S o->h₁.get? b=S o) :
   Inv (cV X N' sc s H s.heap.objs.size fp xe) [] (capσ src σ) H {s with heap:=h₁,toks:=tk}:=by
 !cellmem:∀x c,(cG sc X.env).lookup x=S c->X.env.cells.lookup x=S c:=λx c e=>(mU (Sm e)).2
 !isfree:∀x,((compEnvC sc (cG sc X.env) s.heap.objs.size X.env).kindOf x=S .cell\/(compEnvC sc (cG sc X.env) s.heap.objs.size X.env).kindOf x=S .free)->(x,Sl)∈sc.names:=λx hx=>by
   rw[f7]at hx
   cases q:sc.names.lookup x with
   | none=>rw[q]at hx;simp at hx
   | some k=>
     have hm:=Sm q
     by_cases Kz:k=.free
     . subst Kz;#hm
     . !:(k==Sl)=false:=by simpa using Kz
       !e2:(k==Sl&&X.env.scope.kind==.function&&X.env.kindOf x==S .cell)=false:=by rw[this];rfl
       rw[q,Ta,e2]at hx
       !CK:(S k:Option Ua)=S .cell\/(S k:Option Ua)=S .free:=hx
       rcases CK with hx|hx
       . #au (Sa hx) (S8x.cell _ hm)
       . #au (Sa hx) Kz
 !has:∀x,(x,Sl)∈sc.names->∃c,X.env.cells.lookup x=S c:=λx hm=>I.ok.has x (S8x.free _ hm rfl)
 #⟨⟨I.ok.mod,S8x.kind,I.ok.glob,I.ok.blt,Rz _,λx y c h1 h2=>I.ok.inj x y c (cellmem x c h1) (cellmem y c h2),λx hx=>?_,λx c Gk t=>?_,I.ok.hd,I.ok.frames,.inl rfl,λb hb=>⟨?_,λx c e=>?_⟩,I.bs,Ry I.ok.bsz I.sz,λb o e hb=>?_,λb hb hs=>?_,I.stack,I.n6⟩,
   rfl,I.bare,Un.kept hk,⟨_,hn,λi x v h1 h2 h3=>?_⟩,λx c e=>?_,I.hok.fresh (Rz _),λx c e=>I.freeC x c (cellmem x c e),λp hp=>au (show p∈([]:O (J×Obj))from hp) (by simp),I.hok.kept hk,?_⟩
 . @⟨c,e⟩:=has x (isfree x hx)
   #⟨c,ji (isfree x hx) e⟩
 . #au (show false=true from Gk) (by simp)
 . @⟨o,e⟩:=ho b hb
   #R1 (RD e)
 . #(hf b hb).2.2.2.2.1 x c (cellmem x c e)
 . rcases(hf b hb).2.2.2.1 with z|z
   . #I.ok.noex b o e z
   . #au (RJ (RD e) (Ry I.ok.bsz z)) (SR _)
 . rcases List.mem_cons.mp (I.lu b hs)with z|z
   . #(hf b hb).2.1 z
   . #(hf b hb).2.2.1 z
 . -- a FO name
   !eW:(capσ src σ)[i]?=S (S v):=h2
   unfold capσ at eW
   rw[Sb]at eW
   cases q:src[i]? with
   | none=>rw[q]at eW;cases eW
   | some o=>
     rw[q]at eW
     cases o with
     | none=>simp at eW
     | some j=>
       @⟨hj,hfr⟩:=yO hc q h1
       !hσ:σ[j]?=S (S v):=by
         simp only[Ta,Option.some.injEq]at eW
         cases r:σ[j]? with
         | none=>rw[r]at eW;cases eW
         | some w=>rw[r]at eW;rw[← eW]
       !hm:=Sm hfr
       !Gw:=S8x.free _ hm rfl
       @⟨m,_,hl⟩:=I.loc
       @⟨u,ru,lk⟩:=hl j x v hj hσ (Or.inr Gw)
       #⟨u,ru,.inr ⟨?_,?_⟩⟩
       . change(compEnvC sc (cG sc X.env) s.heap.objs.size X.env).kindOf x=S .cell\/(compEnvC sc (cG sc X.env) s.heap.objs.size X.env).kindOf x=S .free
         rw[f7,hfr]
         by_cases z:(Sl==Sl&&X.env.scope.kind==.function&&X.env.kindOf x==S .cell)=true
         . #.inl (by simp only[Ta,z,if_true])
         . #.inr (by simp only[Ta,z,if_false,Um])
       . rcases lk with⟨z,_⟩|⟨_,c,e,z⟩
         . !z':X.env.scope.names.lookup x=S .local:=z
           rcases Gw with y|y<;>(rw[z']at y;cases y)
         . @⟨oc,Ba,hd⟩:=z
           #⟨c,ji hm e,oc,hk c oc Ba,hd⟩
 . @⟨v,oc,Ba,hd⟩:=I.cell x c (cellmem x c e)
   #⟨v,oc,hk c oc Ba,hd⟩
 . change(capσ src σ)~=N'.length
   unfold capσ
   rw[Rn]
   #vh hc
def hJ {H':Hp}{σ':St}{s':Shared}(I:Inv X pins σ H s)(hf:∀b∈fp,ef X pins H b)(I':Inv (cV X N' sc s H s.heap.objs.size fp xe) [] σ' H' s'):Inv X pins σ H' s':=
 I.A0 I'.os I'.base I'.hok I'.bare λb hb=>⟨(hf b hb).2.2.2.1,(hf b hb).2.1,(hf b hb).2.2.2.2.1,(hf b hb).2.2.2.2.2⟩
def mW {H':Hp}{σ':St}{s':Shared}(I':Inv (cV X N' sc s H s.heap.objs.size fp xe) [] σ' H' s'):∃m,s'.heap.Ns s.heap.objs.size m:=by@⟨m,hn,_⟩:=I'.loc;#⟨m,hn⟩
def jk {H1:Hp}{σ1:St}{s1:Shared}{h':Heap}(I:Inv X pins σ H s)(I1:Inv X pins σ1 H1 s1)(hn:H1 s.heap.objs.size=Z)(hs:Sz s.heap.objs.size s1.heap h'):Inv X pins σ1 H1 {s1 with heap:=h'}:=by
 @⟨f0,f1,f2,f3,f4,f5⟩:=I.oF (H':=H1) (Rz _) hn
 #I1.turned (t':=s1.toks) (λb o hb e=>(hs.2 b hb).trans e) f0 f1 f3 f4 f5
end
def bz:St->St->Prop
 | [],[]=>True
 | none::r,_::r'=>bz r r'
 | some v::r,u::r'=>u=S v/\bz r r'
 | _,_=>False
theorem bz.len:∀{a b:St},bz a b->a~=b~
 | [],[],_=>rfl
 | [],_::_,h=>h.elim
 | none::_,[],h=>h.elim
 | some _::_,[],h=>h.elim
 | none::r,_::r',h=>by
   !h':bz r r':=h
   rw[RE,RE,h'.len]
 | some v::r,u::r',h=>by
   !h':u=S v/\bz r r':=h
   rw[RE,RE,h'.2.len]
theorem bz.get:∀{a b:St},bz a b->∀(i:Nat) (v:V),a[i]?=S (S v)->b[i]?=S (S v)
 | [],[],_,i,v,e=>by simp at e
 | [],_::_,h,_,_,_=>h.elim
 | none::_,[],h,_,_,_=>h.elim
 | some _::_,[],h,_,_,_=>h.elim
 | none::r,_::r',h,0,v,e=>by simp at e
 | none::r,_::r',h,i+1,v,e=>by
   !h':bz r r':=h
   simpa using h'.get i v (by simpa using e)
 | some w::r,u::r',h,0,v,e=>by
   !h':u=S w/\bz r r':=h
   simp at e
   subst e
   simp[h'.1]
 | some w::r,u::r',h,i+1,v,e=>by
   !h':u=S w/\bz r r':=h
   simpa using h'.2.get i v (by simpa using e)
def jE (X:Cx)(cs:O Expr)(t:TT):Prop:=
 ∀(pins:O (J×Obj)) (s:Shared) (σ:St) (H:Hp) (Q:Bool->Hp->Prop),Inv X pins σ H s->t σ H Q ->
   wpAny (model X.prog X.w) X.A (forIn cs true λc r=>if r=true then do let ok←isTrue c X.env (eval c X.env);pure (TU ok)else pure (TU r)) (TP X pins σ Q) X.xe s
def EJ:TT:=λz H Q=>Q true H
def Lb {X:Cx}:jE X [] EJ:=λz z z H z I h=>wpAny_tests_nil ⟨H,I,h⟩
def Lc {X:Cx}{c:Expr}{t:TT}(h:PT X c t):jE X [c] t:=λpins s σ H Q I q=>wpAny_tests_one (h pins s σ H Q I q)
abbrev TM:=St->Hp->(Hp->Prop)->Prop
def AV (X:Cx)(m:Sem Unit)(t:TM):Prop:=
 ∀(pins:O (J×Obj)) (s:Shared) (σ:St) (H:Hp) (Q:Hp->Prop),Inv X pins σ H s->t σ H Q ->
   wpAny (model X.prog X.w) X.A m (λz s'=>∃H',Inv X pins σ H' s'/\Q H') X.xe s
def qJ (tg:Expr)(ipos:Pos)(ifs:O Expr)(it:Value)(env:Env)(cont:Sem Unit)(more:Sem Fin):Sem Fin:=do
 standAt ipos
 match←pyNext it with
 | none=>pure (.done .next)
 | some v=>
   letOwnedTupleGo tg it v
   assign tg env v
   let mut ok:=true
   for c in ifs do
     if ok then ok←isTrue c env (eval c env)
   if ok then cont
   more
def lA (J8x:It)(σ0:St)(g:TG)(tifs:TT)(tm:TM)(Z8x:Hp->Prop)(H:Hp):Prop:=
 ∃W:Nat->Nat->Hp->Prop,(∃m,W 0 m H)/\∀i m H,W i m H->(J8x.stop i H/\Z8x H) \/
   (J8x.go i H/\∀x H',J8x.yld i H x H'->g x σ0 H' λσ2 H2=>tifs σ2 H2 λb H3=>
     if b=true then tm σ2 H3 λH4=>bz σ0 σ2/\∃m',m'<m/\W (i+1) m' H4 else bz σ0 σ2/\∃m',m'<m/\W (i+1) m' H3)
section
variable{X:Cx}{e tg:Expr}{ipos:Pos}{ifs:O Expr}{depth:Nat}{acc:Value}{cont:Sem Unit}{it:J}{fp:O J}{tn:Nat->Heap->Prop}{J8x:It}{g:TG}{tifs:TT}{tm:TM}{σ0:St}{Z8x:Hp->Prop}{R:Result->Shared->Prop}
def l6 (hX:X.xe=notedBy (model X.prog X.w) X.A X.env λe s'=>R (.error e) s')
   (heq:compTurn e depth (.ref it) acc X.env=qJ tg ipos ifs (.ref it) X.env cont (again (.compLoop e depth (.ref it) acc X.env)))
   (hq:(UB e depth (.ref it) acc X.env).quiet=true) (hA:X.A.under (.compLoop e depth (.ref it) acc X.env)=X.A) (hF:(UB e depth (.ref it) acc X.env).isFrame=false)
   (hc:X.calm=true) (T:Turn X.prog X.w X.K tg J8x fp it tn) (hg:PG X tg g) (hif:jE X ifs tifs) (hm:AV X cont tm)
   {pins:O (J×Obj)} {H:Hp} {s:Shared} (hf:∀b∈fp,ef X pins H b) (I:Inv X pins σ0 H s) (st:tn 0 s.heap)
   (hZ:∀H' s',Inv X pins σ0 H' s'->(∀b∈fp,H' b=Z)->Z8x H'->R (.ok .next) s') (h:lA J8x σ0 g tifs tm Z8x H) :
   codeAny (model X.prog X.w) X.A (.compLoop e depth (.ref it) acc X.env) R s:=by
 @⟨W,⟨m0,w0⟩,turn⟩:=h
 !stat:∀{H':Hp},(∀b∈fp,H' b=Z)->∀b∈fp,ef X pins H' b:=λhn b hb=>⟨hn b hb,(hf b hb).2⟩
 #codeAny_loop hq (λn s'=>∃i H',Inv X pins σ0 H' s'/\tn i s'.heap/\(∀b∈fp,H' b=Z)/\W i n H') ?_ m0 ⟨0,H,I,st,λb hb=>(hf b hb).1,w0⟩
 rintro n s3 ⟨i,H3,I3,uL,E8,w3⟩
 rw[hA]
 !Ks:(model X.prog X.w).den (.compLoop e depth (.ref it) acc X.env)=(compTurn e depth (.ref it) acc X.env).onRaise (λx=>do noteFrame x X.env;theTreesLotGoes x):=by
   change(if(UB e depth (.ref it) acc X.env).isFrame then _ else _)=_
   rw[dh (by rw[hF];decide)]
 rw[Ks]
 #wpAny_noted ?_
 rw[← hX,heq]
 unfold qJ
 #wpAny_bind (wpAny_standAt ?_)
 !u9:∀{σ7:St} {H7:Hp} {s5 s7:Shared},tn (i+1) s5.heap->Inv X (pins++kS fp s5.heap) σ7 H7 s7->bz σ0 σ7->(∃m',m'<n/\W (i+1) m' H7) ->
     ∃m,m<n/\∃i H',Inv X pins σ0 H' s7/\tn i s7.heap/\(∀b∈fp,H' b=Z)/\W i m H':=λ{σ7 H7 s5 s7} yz I7 k7 ⟨m',Gr,w7⟩=>by
   #⟨m',Gr,i+1,H7,I7.jd.weak k7.len k7.get,T.keep _ _ _ yz λb hb o e=>(I7.pin (b,o) (Si _ (Si _ (eZ hb e)))).1,λb hb=>?_,w7⟩
   @⟨o,e,d⟩:=T.obj _ _ yz b hb
   #(I7.pin (b,o) (Si _ (Si _ (eZ hb e)))).2.1
 rcases turn i n H3 w3 with⟨stop,qn⟩|⟨go,step⟩
 . #wpAny_bind (bw (T.done X rfl rfl rfl hc i pins s3 σ0 H3 X.xe I3 (stat E8) uL stop) λr s4 h9=>?_)
   @⟨hr,I4⟩:=h9
   subst hr
   #wpAny_pure (hZ H3 s4 I4 E8 qn)
 . #wpAny_bind (bw (T.item X rfl rfl rfl hc i pins s3 σ0 H3 X.xe I3 (stat E8) uL go) λr s4 h9=>?_)
   @⟨u,hr,h4⟩:=h9
   subst hr
   #wpAny_bind (bw h4 λz s5 h9=>?_)
   @⟨x,H5,I5,r5,y5,yz,J1⟩:=h9
   !Jw:=I5.pinned (stat J1) (T.obj _ _ yz)
   #wpAny_bind (bw (hg _ s5 σ0 H5 x u _ Jw r5 (step x H5 y5)) λz s6 h9=>?_)
   @⟨σ6,H6,I6,q6⟩:=h9
   #wpAny_bind (bw (hif _ s6 σ6 H6 _ I6 q6) λb s7 h9=>?_)
   @⟨H7,I7,q7⟩:=h9
   cases b with
   | false=>
     @⟨k7,w7⟩:=q7
     #wpAny_pure ⟨U,u9 yz I7 k7 w7⟩
   | true=>
     #wpAny_bind (bw (hm _ s7 σ6 H7 _ I7 q7) λz s8 h9=>?_)
     @⟨H8,I8,k8,w8⟩:=h9
     #wpAny_pure ⟨U,u9 yz I8 k8 w8⟩
end
structure dA (P:Program)(w:World)(A:Around)(e:Expr)(tg iter:Expr)(ifs:O Expr)(emit:J->Env->Sem Unit):Prop where
 cl:clausesOf e=[⟨tg,iter,ifs,0⟩]
 turn:∀it D env,compTurn e 0 (.ref it) (.ref D) env=qJ tg iter.pos ifs (.ref it) env (emit D env) (again (.compLoop e 0 (.ref it) (.ref D) env))
 start:∀(R:Result->Shared->Prop) (s:Shared) (it acc:Value) (env:Env),codeAny (model P w) A (.compLoop e 0 it acc env) R s ->
   wpAny (model P w) A (pyIter it) (λPV s'=>codeAny (model P w) A (.compLoop e 0 PV acc env) R s') (notedBy (model P w) A env λx s'=>R (.error x) s') s->codeAny (model P w) A (.compStart e 0 it acc env) R s
 quiet:∀it acc env,(UB e 0 it acc env).quiet=true
 under:∀it acc env,A.under (.compLoop e 0 it acc env)=A
 frame:∀it acc env,(UB e 0 it acc env).isFrame=false
def mT {P:Program}{w:World}{A:Around}{elt tg iter:Expr}{ifs:O Expr}{sc:Scope}{pos:Pos} :
   dA P w A (.ListComp elt [⟨tg,iter,ifs,0⟩] sc pos) tg iter ifs (λD env=>do let _←call (.builtin "list.append") [.ref D,← eval elt env]) where
 cl:=rfl
 turn:=λit D env=>by rw[compTurn_list];rfl
 start:=λR s it acc env h0 h=>codeAny_compStart_list h0 h
 quiet:=λz z z=>rfl
 under:=λz z z=>rfl
 frame:=λz z z=>rfl
def yQ {P:Program}{w:World}{A:Around}{kx vx tg iter:Expr}{ifs:O Expr}{sc:Scope}{pos:Pos} :
   dA P w A (.DictComp kx vx [⟨tg,iter,ifs,0⟩] sc pos) tg iter ifs (λD env=>do
     let kv←eval kx env
     let vv←holding [kv] (eval vx env)
     standAt {kx.pos with endLine:=vx.pos.endLine,endCol:=vx.pos.endCol}
     holding [kv,vv] (dictSet D kv vv)) where
 cl:=rfl
 turn:=λit D env=>by rw[compTurn_dict];rfl
 start:=λR s it acc env h0 h=>codeAny_compStart_dict h0 h
 quiet:=λz z z=>rfl
 under:=λz z z=>rfl
 frame:=λz z z=>rfl
section
variable{X:Cx}{e tg iter:Expr}{ifs:O Expr}{emit:J->Env->Sem Unit}{sc:Scope}{pos:Pos}{wi:TI}{N':O Str}{src:O (Option Nat)}{g:TG}{tifs:TT}{tm:J->TM}{newAcc:Sem Value}{ob:Obj}{accO:HO}
def dj (src:O (Option Nat))(accO:HO)(wi:TI)(g:TG)(tifs:TT)(tm:J->TM):TE:=
 λσ H Q=>wi σ H λJ8x H1=>∀D,H1 D=Z->lA J8x (capσ src σ) g tifs (tm D) (λH'=>Q (.ref D) H') (upd H1 D accO)
structure gU (X:Cx)(newAcc:Sem Value)(ob:Obj)(accO:HO):Prop where
 new:∀(s:Shared) (Q:Value->Shared->Prop) (E:Value->Shared->Prop),Q (.ref s.heap.objs.size) {s with heap:=s.heap.push ob}->wpAny (model X.prog X.w) X.A newAcc Q E s
 live:ob.isFreed=false
 ok:∀(pins:O (J×Obj)) (σ:St) (H:Hp) (s:Shared),Inv X pins σ H s->bB X.prog X.w (upd H s.heap.objs.size accO) (s.heap.push ob) s.heap.objs.size accO
def ou {use:Option (Value->Sem Unit)}{Q':Value->Shared->Prop}(K:dA X.prog X.w X.A e tg iter ifs emit)(hc:X.calm=true)(S8x:bp sc X.env.scope)(hcap:bT sc src N' X.N=true)(hi:PI X tg iter wi)
   (hb:∀s H C fp xe D,PG (cV X N' sc s H C fp xe) tg g/\jE (cV X N' sc s H C fp xe) ifs tifs/\AV (cV X N' sc s H C fp xe) (emit D (cV X N' sc s H C fp xe).env) (tm D)) (N:gU X newAcc ob accO)
   (hs:∀x,Sg iter X.env x=pure x)
   {pins:O (J×Obj)} {s:Shared} {σ:St} {H:Hp} {Q:VK} (I:Inv X pins σ H s) (h:dj src accO wi g tifs tm σ H Q)
   (hQ:∀(C D:J) (H':Hp) (s':Shared),Inv X pins σ H' s'->Q (.ref D) H'->H' C=Z->(∃m,s'.heap.Ns C m)->(∀(σ1:St) (H1:Hp) (s1:Shared) (h':Heap),Inv X pins σ1 H1 s1->H1 C=Z->Sz C s1.heap h'->Inv X pins σ1 H1 {s1 with heap:=h'}) ->
     (C≠X.env.locals/\∀x c,X.env.cells.lookup x=S c->c≠C)->compPost (model X.prog X.w) X.A X.xe use Q' (.ref D) C (.ok .next) s') :
   wpAny (model X.prog X.w) X.A (comprehension e sc X.env pos newAcc false (eval iter X.env) use) Q' X.xe s:=by
 #UK (g:=⟨tg,iter,ifs,0⟩) (gs:=[]) K.cl hs (gY λp hp hf=>I.ok.has p.1 (S8x.free p hp hf)) S8x.kind S8x.names ?_
 #bw (hi pins s σ H _ I h) λv s1 h1=>bw h1 λitv s2 h2=>?_
 @⟨it,fp,tn,J8x,H2,e1,I2,T,EH,f2,q2⟩:=h2
 subst e1
 #N.new s2 _ _ ?_
 !hD:H2 s2.heap.objs.size=Z:=I2.hok.fresh (Rz _)
 !Gn:∀b o,s2.heap.get? b=S o->(s2.heap.push ob).get? b=S o:=λb o e=>Rr _ e
 !I3:Inv X pins σ (upd H2 s2.heap.objs.size accO) {s2 with heap:=s2.heap.push ob}:=I2.laid (t':=s2.toks) Gn (Rz _) (N.ok pins σ H2 s2 I2)
 !uL:tn 0 (s2.heap.push ob):=T.keep _ _ _ EH λb u o e=>Gn b o e
 !Dc:∀b∈fp,∃o,(s2.heap.push ob).get? b=S o:=λb hb=>let⟨o,e,_⟩:=T.obj _ _ uL b hb;⟨o,e⟩
 !f3:∀b∈fp,ef X pins (upd H2 s2.heap.objs.size accO) b:=λb hb=>by
   #⟨?_,(f2 b hb).2⟩
   @⟨o,e,_⟩:=T.obj _ _ EH b hb
   rw[ah (R1 (RD e))]
   #(f2 b hb).1
 !qq:=q2 s2.heap.objs.size hD
 generalize KQ:({s2 with heap:=s2.heap.push ob}:Shared)=s3 at I3 ⊢
 !Kw:s2.heap.push ob=s3.heap:=by rw[← KQ]
 rw[Kw]at uL Dc
 generalize s2.heap.objs.size=D at I3 f3 qq hD ⊢
 #Vj S8x.cell (by intro y hy;simp at hy) (λh₁ hns Bc=>?_) S8x.kind
 !vP:h₁.Ns s3.heap.objs.size (λu=>Z):=hns
 !Gp:∀b o,s3.heap.get? b=S o->h₁.get? b=S o:=λb o e=>Bc.extBut b o (R1 (RD e)) (Rr _ e)
 let R:Result->Shared->Prop:=compPost (model X.prog X.w) X.A X.xe use Q' (.ref D) s3.heap.objs.size
 let X':Cx:=cV X N' sc s3 (upd H2 D accO) s3.heap.objs.size fp (notedBy (model X.prog X.w) X.A (compEnvC sc (cG sc X.env) s3.heap.objs.size X.env) λe s'=>R (.error e) s')
 !I4:Inv X' [] (capσ src σ) (upd H2 D accO) {s3 with heap:=h₁,toks:=s3.toks+([]:O (Str×Value))~}:=ko I3 S8x hcap f3 Dc vP Gp
 !BP:tn 0 h₁:=T.keep _ _ _ uL λb u o e=>Gp b o e
 @⟨hg,hif,hm⟩:=hb s3 (upd H2 D accO) s3.heap.objs.size fp (notedBy (model X.prog X.w) X.A (compEnvC sc (cG sc X.env) s3.heap.objs.size X.env) λe s'=>R (.error e) s') D
 !f4:∀b∈fp,ef X' [] (upd H2 D accO) b:=λb hb=>by
   @⟨g0,g1,g2,g3,g4,g5⟩:=f3 b hb
   #⟨g0,?_,?_,.inl hb,λx c e=>?_,λp hp=>au (show p∈([]:O (J×Obj))from hp) (by simp)⟩
   . @⟨o,e⟩:=Dc b hb
     #R1 (RD e)
   . intro z
     rcases List.mem_cons.mp (I3.lu b z)with y|y
     . #g1 y
     . #g2 y
   . #g4 x c (mU (Sm e)).2
 !FZ:ef X pins (upd H2 D accO) s3.heap.objs.size:=I3.oF (Rz _) (I3.hok.fresh (Rz _))
 !loop:∀s4:Shared,s4={s3 with heap:=h₁,toks:=s3.toks+([]:O (Str×Value))~}->codeAny (model X.prog X.w) X.A (.compLoop e 0 (.ref it) (.ref D) X'.env) R s4:=by
   rintro s4 rfl
   #l6 (X:=X') (Z8x:=λH'=>Q (.ref D) H') rfl (K.turn it D X'.env) (K.quiet _ _ _) (K.under _ _ _) (K.frame _ _ _) hc T hg hif hm f4 I4 BP (λH' s' I' u z=>?_) qq
   #hQ s3.heap.objs.size D H' s' (hJ I3 f3 I') z I'.free (mW I') (λσ1 H1 s1 h' I1 n1 GB=>jk I3 I1 n1 GB) ⟨FZ.2.1,λx c e=>FZ.2.2.2.2.1 x c e⟩
 #K.start R _ (.ref it) (.ref D) X'.env (loop _ rfl) (T.self X.A 0 _ _ _ BP (loop _ rfl))
def z6 (K:dA X.prog X.w X.A e tg iter ifs emit)(hc:X.calm=true)(S8x:bp sc X.env.scope)(hcap:bT sc src N' X.N=true)(hi:PI X tg iter wi)
   (hb:∀s H C fp xe D,PG (cV X N' sc s H C fp xe) tg g/\jE (cV X N' sc s H C fp xe) ifs tifs/\AV (cV X N' sc s H C fp xe) (emit D (cV X N' sc s H C fp xe).env) (tm D)) (N:gU X newAcc ob accO)
   (hs:∀x,Sg iter X.env x=pure x) (he:eval e X.env=comprehension e sc X.env pos newAcc false (eval iter X.env)):PE X e (dj src accO wi g tifs tm):=by
 intro pins s σ H Q I h
 rw[he]
 #ou (use:=Z) (Q:=Q) K hc S8x hcap hi hb N hs I h λC D H' s' I' q hn ⟨m,hm⟩ gone _=>?_
 #⟨m,hm,λh' GA=>⟨.ref D,H',gone σ H' s' h' I' hn GA,U,q⟩⟩
def rO {i:Nat}{x:Str}{pos' da:Pos}(K:dA X.prog X.w X.A e tg iter ifs emit)(hc:X.calm=true)(S8x:bp sc X.env.scope)(hcap:bT sc src N' X.N=true)(hi:PI X tg iter wi)
   (hb:∀s H C fp xe D,PG (cV X N' sc s H C fp xe) tg g/\jE (cV X N' sc s H C fp xe) ifs tifs/\AV (cV X N' sc s H C fp xe) (emit D (cV X N' sc s H C fp xe).env) (tm D)) (N:gU X newAcc ob accO)
   (hs:∀x,Sg iter X.env x=pure x) (he:∀u,evalThenUse e X.env u=(do let _←comprehension e sc X.env pos newAcc false (eval iter X.env) (S u)))
   (hN:X.N.Nodup) (hix:X.N[i]?=S x) (hx:Loc X.env.scope x) (hsw:Tw e (S (.Name x pos')) da.line X.env=pure true)
   (hf:X.fn x=true\/X.env.scope.names.lookup x=S .local:=by first|show .inl rfl|show .inr rfl|assumption) :
   PS X (.Assign [.Name x pos'] e da) (lR (dj src accO wi g tifs tm) (cI i)):=by
 intro pins s σ H D0 I h
 rw[exec_Assign_Name_used x pos' e da hsw,he]
 #wpAny_bind (wpAny_standAt (wpAny_bind (wpAny_bind ?_)))
 #ou (use:=S (assign (.Name x pos') X.env)) (Q:=λv H'=>D0.nx (σ.set i (S v)) H') (Q':=λy s'=>wpAny _ _ _ _ _ s') K hc S8x hcap hi hb N hs I h λC D H' s' I' q hn g8 gone g9=>?_
 @⟨m,hm⟩:=g8
 @⟨OC,hCc⟩:=g9
 #wpAny_assign_Name (jv (v:=.ref D) I' hN hix hx rfl (λs2 I2 hch=>?_) hf)
 @⟨a,Bc,ha⟩:=hch
 !rj:C≠a:=by
   rcases ha with z|z
   . rw[z];#OC
   . #(hCc x a z).symm
 #⟨m,hm.sameBut Bc rj,λh' GA=>?_⟩
 #wpAny_pure (wpAny_pure ⟨_,H',gone _ H' s2 h' I2 hn GA,q⟩)
end
section
variable{X:Cx}{elt kx vx:Expr}{te tk tv:TE}
def dJ (te:TE)(D:J):TM:=λσ H K=>te σ H λy H1=>∃ys,H1 D=S (.lst ys)/\ys~<sizeLine/\K (upd H1 D (.lst (ys++[y])))
def qw (h:PE X elt te)(D:J):AV X (do let _←call (.builtin "list.append") [.ref D,← eval elt X.env]) (dJ te D):=by
 intro pins s σ H Q I q
 #wpAny_bind (bw (h pins s σ H _ I q) λu s1 h9=>?_)
 @⟨y,H1,I1,ru,ys,e,z,k⟩:=h9
 #wpAny_bind (bw (mr pins s1 σ H1 (.ref D) [y] (.ref D) [u] (λx H'=>Q H') I1 rfl (.cons ru .nil) ⟨D,ys,y,U,U,e,z,k⟩) λr s2 h9=>?_)
 @⟨v,H2,I2,_,k2⟩:=h9
 #wpAny_pure ⟨H2,I2,k2⟩
def tD {pins:O (J×Obj)}{σ:St}{H H':Hp}{s:Shared}{a:J}{y v:V}{u r:Value}{A:Around}{E:Value->Shared->Prop}{Q:Unit->Shared->Prop}(hu:A.units+1<cLine)(I:Inv X pins σ H s)(g:u5 H a y v H')(ry:RelV y u)(rv:RelV v r)(h:∀s',Inv X pins σ H' s'->Q () s') :
   wpAny (model X.prog X.w) A (dictSet a u r) Q E s:=by
 rcases g with⟨kvs,k,e,ey,l,eH⟩|⟨kvs,k,b,e,ey,eb,l,eH⟩
 . subst ey eH
   @⟨z,hd,vs,rel,dd⟩:=A1 I.hok e
   !hz:vs~<=sizeLine:=by rw[← rel~];#z
   !hl:(putK kvs k v)~<=sizeLine:=by !:=fG kvs k v;lia
   #wpAny_dictSet_pairs (hsz:=hz) (oQ ry) dd λh' yU hs=>h _ ?_
   !he:∃q,h'.get? a=S q:=by@⟨q,_,_,hq,_⟩:=yU;#⟨q,hq⟩
   #mX I (by rw[e];#RO) hs he (vt hl hd (rel.put k rv) yU)
 . subst ey eH
   cases(show u=R6 b from ry)
   @⟨z,hd,xs,rel,dd⟩:=FQ I.hok e
   !hz:xs~<=sizeLine:=by rw[← Paired.length rel];#z
   !hl:(putK kvs k v)~<=sizeLine:=by !:=fG kvs k v;lia
   !Gz:(tupleKind (bH X.prog X.w)).room A:=show A.units<cLine by lia
   #wpAny_dictSet_heap (hsz:=hz) Gz (nr I.hok eb) dd λh' yU hs=>h _ ?_
   @⟨q,es,ep,hq,h2,h3,h4,_,h5⟩:=yU
   #mX I (by rw[e];#RO) hs ⟨q,hq⟩ ⟨hl,hd,_,(rel.put k eb rv).keeps λc ys ec=>?_,q,es,ep,hq,h2,h3,h4,h5⟩
   rw[ah (Bl ec e (λz=>nomatch z))]
   #ec
def C5 (tk tv:TE)(D:J):TM:=λσ H K=>tk σ H λy H1=>tv σ H1 λv H2=>∃H3,u5 H2 D y v H3/\K H3
def D6 (hu:X.A.units+1<cLine)(hk:PE X kx tk)(hv:PE X vx tv)(D:J):AV X (do
     let kv←eval kx X.env
     let vv←holding [kv] (eval vx X.env)
     standAt {kx.pos with endLine:=vx.pos.endLine,endCol:=vx.pos.endCol}
     holding [kv,vv] (dictSet D kv vv)) (C5 tk tv D):=by
 intro pins s σ H Q I q
 #wpAny_bind (bw (hk pins s σ H _ I q) λu s1 h9=>?_)
 @⟨y,H1,I1,ru,q1⟩:=h9
 #wpAny_bind (wpAny_holding (bw (hv pins s1 σ H1 _ I1 q1) λr s2 h9=>?_))
 @⟨v,H2,I2,rv,H3,g,q2⟩:=h9
 #wpAny_bind (wpAny_standAt (wpAny_holding (tD hu I2 g ru rv λs3 I3=>⟨H3,I3,q2⟩)))
def Cc:gU X newDict {cls:=.type "dict",data:=.dict #[]} (.dT []) where
 new:=λs Q E h=>wpAny_newObj_type h
 live:=rfl
 ok:=λpins σ H s I=>vw s.heap I.big
def kf:gU X (newList []) {cls:=.type "list",data:=.seq #[]} (.lst []) where
 new:=λs Q E h=>wpAny_newObj_type h
 live:=rfl
 ok:=λpins σ H s I=>⟨Sd _,[],0,.nil,RK _ rfl⟩
end
section
variable{X:Cx}{elt kx vx tg iter:Expr}{ifs:O Expr}{sc:Scope}{pos:Pos}{wi:TI}{N':O Str}{src:O (Option Nat)}{g:TG}{tifs:TT}{te tk tv:TE}
def Ho (src:O (Option Nat))(N':O Str)(hc:X.calm=true)(S8x:bp sc X.env.scope)(hcap:bT sc src N' X.N=true)(hi:PI X tg iter wi)
   (hb:∀s H C fp xe,PG (cV X N' sc s H C fp xe) tg g/\jE (cV X N' sc s H C fp xe) ifs tifs/\PE (cV X N' sc s H C fp xe) elt te)
   (hs:∀x,Sg iter X.env x=pure x:=by intro _;rfl):PE X (.ListComp elt [⟨tg,iter,ifs,0⟩] sc pos) (dj src (.lst []) wi g tifs (dJ te)):=
 z6 mT hc S8x hcap hi (λs H C fp xe D=>⟨(hb s H C fp xe).1,(hb s H C fp xe).2.1,qw (hb s H C fp xe).2.2 D⟩) kf hs rfl
def HL {i:Nat}{x:Str}{pos' da:Pos}(src:O (Option Nat))(N':O Str)(hc:X.calm=true)(S8x:bp sc X.env.scope)(hcap:bT sc src N' X.N=true)(hi:PI X tg iter wi)
   (hb:∀s H C fp xe,PG (cV X N' sc s H C fp xe) tg g/\jE (cV X N' sc s H C fp xe) ifs tifs/\PE (cV X N' sc s H C fp xe) elt te)
   (hN:X.N.Nodup) (hix:X.N[i]?=S x) (hx:Loc X.env.scope x) (hsw:Tw (.ListComp elt [⟨tg,iter,ifs,0⟩] sc pos) (S (.Name x pos')) da.line X.env=pure true:=by rfl)
   (hs:∀x,Sg iter X.env x=pure x:=by intro _;rfl) (hf:X.fn x=true\/X.env.scope.names.lookup x=S .local:=by first|show .inl rfl|show .inr rfl|assumption) :
   PS X (.Assign [.Name x pos'] (.ListComp elt [⟨tg,iter,ifs,0⟩] sc pos) da) (lR (dj src (.lst []) wi g tifs (dJ te)) (cI i)):=
 rO mT hc S8x hcap hi (λs H C fp xe D=>⟨(hb s H C fp xe).1,(hb s H C fp xe).2.1,qw (hb s H C fp xe).2.2 D⟩) kf hs (λz=>rfl) hN hix hx hsw hf
end
section
variable{K:Ro}{a:J}{xs:O V}{g:TG}{tifs:TT}{tm:TM}{σ0:St}{Z8x:Hp->Prop}{H:Hp}
def jI (n:Nat){J8x:It}(Pv:Nat->Hp->Prop)(h0:Pv 0 H)(hgo:∀i H,i<n->Pv i H->J8x.go i H)(hst:∀H,Pv n H->J8x.stop n H)
   (turn:∀i H,i<n->Pv i H->∀x H',J8x.yld i H x H'->g x σ0 H' λσ2 H2=>tifs σ2 H2 λb H3=>
     if b=true then tm σ2 H3 λH4=>bz σ0 σ2/\∃m',m'<n-i/\(m'=n-(i+1)/\i+1<=n/\Pv (i+1) H4)else bz σ0 σ2/\∃m',m'<n-i/\(m'=n-(i+1)/\i+1<=n/\Pv (i+1) H3))
   (hZ:∀H,Pv n H->Z8x H):lA J8x σ0 g tifs tm Z8x H:=by
 #⟨λi m H=>m=n-i/\i<=n/\Pv i H,⟨n,by simp,Sd _,h0⟩,?_⟩
 rintro i m H ⟨rfl,hi,p⟩
 by_cases oM:i<n
 . #.inr ⟨hgo i H oM p,turn i H oM p⟩
 . !e:i=n:=by lia
   subst e
   #.inl ⟨hst H p,hZ H p⟩
def bD (Pv:Nat->Hp->Prop)(h0:Pv 0 H)(hl:∀i H,i<=xs~->Pv i H->aH K H a xs)
   (turn:∀i x H,xs[i]?=S x->Pv i H->g x σ0 H λσ2 H2=>tifs σ2 H2 λb H3=>
     if b=true then tm σ2 H3 λH4=>bz σ0 σ2/\∃m',m'<xs~-i/\(m'=xs~-(i+1)/\i+1<=xs~/\Pv (i+1) H4)else bz σ0 σ2/\∃m',m'<xs~-i/\(m'=xs~-(i+1)/\i+1<=xs~/\Pv (i+1) H3))
   (hZ:∀H,Pv xs~ H->Z8x H):lA (EW K a) σ0 g tifs tm Z8x H:=by
 #jI xs~ Pv h0 (λi H hi p=>⟨xs,xs[i],hl i H (S3 hi) p,by simp[hi]⟩) (λH p=>⟨xs,hl _ H (Rz _) p,Rz _⟩) (λi H hi p x H' y=>?_) hZ
 @⟨e,y⟩:=y
 subst e
 #turn i x _ (y xs (hl i _ (S3 hi) p)) p
def hV {lo:Int}{n:Nat}(Pv:Nat->Hp->Prop)(h0:Pv 0 H)
   (turn:∀i H,i<n->Pv i H->g (.int (lo+i)) σ0 H λσ2 H2=>tifs σ2 H2 λb H3=>
     if b=true then tm σ2 H3 λH4=>bz σ0 σ2/\∃m',m'<n-i/\(m'=n-(i+1)/\i+1<=n/\Pv (i+1) H4)else bz σ0 σ2/\∃m',m'<n-i/\(m'=n-(i+1)/\i+1<=n/\Pv (i+1) H3))
   (hZ:∀H,Pv n H->Z8x H):lA (B6 lo n) σ0 g tifs tm Z8x H:=by
 #jI n Pv h0 (λi H hi p=>hi) (λH p=>Rz _) (λi H hi p x H' y=>?_) hZ
 @⟨e,y⟩:=y
 subst e y
 #turn i _ hi p
def bq {n i:Nat}{P:Prop}{Pv:Nat->Hp->Prop}{H:Hp}(k:P)(hi:i<n)(p:Pv (i+1) H):P/\∃m',m'<n-i/\(m'=n-(i+1)/\i+1<=n/\Pv (i+1) H):=⟨k,_,by lia,rfl,hi,p⟩
end
section
variable{X:Cx}{pins:O (J×Obj)}{σ:St}{H:Hp}{s:Shared}{h':Heap}{ch:O J}{a:J}{o:HO}
def Inv.many {t':Nat}(I:Inv X pins σ H s)(hch:∀b∈ch,ef X pins H b)(k:∀b ob,b∉ch->s.heap.get? b=S ob->h'.get? b=S ob)(hp:s.heap.objs.size<=a)(new:bB X.prog X.w (upd H a o) h' a o) :
   Inv X pins σ (upd H a o) {s with heap:=h',toks:=t'}:=by
 !hn:H a=Z:=I.hok.fresh hp
 !na:∀b ob,s.heap.get? b=S ob->b≠a:=λb ob e=>R1 (RJ (RD e) hp)
 !wt:∀b u,H b=S u->b∉ch:=λb u e z=>by rw[(hch b z).1]at e;cases e
 #I.step (g':=s.gens) (d':=s.drawn) (ch:=ch) (λb hb=>⟨(hch b hb).2.2.2.1,(hch b hb).2.1,(hch b hb).2.2.2.2.1,(hch b hb).2.2.2.2.2⟩) (λb ob y y hc e y=>k b ob hc e) (λb ob y y hc e y=>⟨ob.slots,k b ob hc e⟩)
   (λb ob y e n=>by rw[ah (na b ob e)];#n) (λb ob hc e=>⟨ob,k b ob hc e⟩) (λb xs e=>by rw[ah (ag e hn)];#e) (λb ob u e=>by rw[ah (ag e hn)];#e)
   (λb ps e=>⟨#[],by rw[ah (ag e hn),e];simp⟩) (λm hm=>?_) (λb u e=>?_) I.bare
 . @⟨ob,es,ep,ho,r⟩:=hm
   #⟨ob,es,ep,k _ ob (λz=>(hch _ z).2.1 rfl) ho,r⟩
 . by_cases hb:b=a
   . subst hb;rw[ae]at e;cases e;#new
   . rw[ah hb]at e
     show(I.hok b u e).cn (λc v hc q=>k c v ?_ q) (λc q=>by rw[ah (ag q hn)];#q) λc xs q=>by rw[ah (ag q hn)];#q
     rcases hc with z|z
     . subst z;#wt c u e
     . #wt c _ z
def Inv.Bj {t':Nat}(I:Inv X pins σ H s)(hch:∀b∈ch,ef X pins H b)(k:∀b ob,b∉ch->s.heap.get? b=S ob->h'.get? b=S ob) :
   Inv X pins σ H {s with heap:=h',toks:=t'}:=by
 !wt:∀b u,H b=S u->b∉ch:=λb u e z=>by rw[(hch b z).1]at e;cases e
 #I.step (g':=s.gens) (d':=s.drawn) (ch:=ch) (λb hb=>⟨(hch b hb).2.2.2.1,(hch b hb).2.1,(hch b hb).2.2.2.2.1,(hch b hb).2.2.2.2.2⟩) (λb ob y y hc e y=>k b ob hc e) (λb ob y y hc e y=>⟨ob.slots,k b ob hc e⟩)
   (λb ob y e n=>n) (λb ob hc e=>⟨ob,k b ob hc e⟩) (λb xs e=>e) (λb ob u e=>e)
   (λb ps e=>⟨#[],by rw[e];simp⟩) (λm hm=>?_) (λb u e=>?_) I.bare
 . @⟨ob,es,ep,ho,r⟩:=hm
   #⟨ob,es,ep,k _ ob (λz=>(hch _ z).2.1 rfl) ho,r⟩
 . #(I.hok b u e).cn (λc v hc q=>k c v ?_ q) (λc q=>q) λc xs q=>q
   rcases hc with z|z
   . subst z;#wt c u e
   . #wt c _ z
end
end L2
namespace PySem
end PySem
namespace L2
open PySem PySem.Spec PyProof.Rows
end L2
namespace L2
open PySem PySem.Spec PyProof.Rows SeqAt
inductive EB (K:Ro) (H:Hp):Nat->V->V->Bool->Prop where
 | flat {n:Nat} {x y:V}:dE x=true->dE y=true->EB K H n x y (oB x y)
 | same {n:Nat} {a:J}:EB K H n (.ref a) (.ref a) true
 | lst {n:Nat} {a b:J} {xs ys:O V} {e:Nat->Bool}:a≠b->aH K H a xs->aH K H b ys->xs~=ys~->(∀j x y,xs[j]?=S x->ys[j]?=S y->EB K H n x y (e j)) ->
     EB K H (n+1) (.ref a) (.ref b) ((TH xs~).all e)
 | len {n:Nat} {a b:J} {xs ys:O V}:a≠b->aH K H a xs->aH K H b ys->xs~≠ys~->EB K H n (.ref a) (.ref b) false
 | tup {n:Nat} {a b:J} {xs ys:O V} {e:Nat->Bool}:a≠b->bS K H a xs->bS K H b ys->(∀j x y,xs[j]?=S x->ys[j]?=S y->EB K H n x y (e j)) ->
     EB K H (n+1) (.ref a) (.ref b) ((TH (min xs~ ys~)).all e&&xs~==ys~)
section
variable{X:Cx}{pins:O (J×Obj)}{σ:St}{H:Hp}{s:Shared}
def eL {K:Ro}{n:Nat}{A:Around}{xs ys:O V}{us vs:O Value}{e:Nat->Bool}(rv:Vals xs us)(rw':Vals ys vs)
   (h:∀j x y,xs[j]?=S x->ys[j]?=S y->∀(A:Around) (u v:Value),RelV x u->RelV y v->A.units+n<cLine->EqAt A s u v (e j)) (hu:A.units+(n+1)<cLine) :
   ∀j (h1:j<us.toArray.size) (h2:j<vs.toArray.size),EqAt A.in1 s us.toArray[j] vs.toArray[j] (e j):=λj h1 h2=>by
 !l1:=rv~
 !l2:=rw'~
 !Ot:j<us~:=by simpa using h1
 !eW:j<vs~:=by simpa using h2
 !hx:xs[j]?=S (xs[j]'(by lia)):=RQ _
 !hy:ys[j]?=S (ys[j]'(by lia)):=RQ _
 @⟨u,Pw,ru⟩:=rv.get hx
 @⟨v,Pz,Eo⟩:=rw'.get hy
 !eu:us[j]=u:=by !:=RQ Ot;rw[Pw]at this;#(Sa this).symm
 !ev:vs[j]=v:=by !:=RQ eW;rw[Pz]at this;#(Sa this).symm
 !q:=h j _ _ hx hy A.in1 u v ru Eo (by change A.units+1+n<cLine;lia)
 simpa[eu,ev]using q
def EB.at (I:Inv X pins σ H s){n:Nat}{x y:V}{b:Bool}(q:EB X.K H n x y b):∀(A:Around) (u v:Value),RelV x u->RelV y v->A.units+n<cLine->EqAt A s u v b:=by
 induction q with
 | flat h1 h2=>#λA u v ru rv z=>vz ru rv h1 h2
 | same=>intro A u v ru rv _;cases ru;cases rv;#EqAt.same _
 | @lst n a b xs ys e rj ha hb hl _ ih=>
   intro A u v ru rv hu
   cases ru;cases rv
   @⟨us,r1,p1,_⟩:=I.list ha
   @⟨vs,r2,p2,_⟩:=I.list hb
   !l1:=r1~
   !l2:=r2~
   !q:=RcAt.lists (A:=A) p1.isList p2.isList (by simp;lia) (by lia) (eL (K:=X.K) r1 r2 ih hu)
   rw[show us.toArray.size=xs~ by simp[l1]]at q
   #EqAt.of_refs rj q
 | @len n a b xs ys rj ha hb hl=>
   intro A u v ru rv hu
   cases ru;cases rv
   @⟨us,r1,p1,_⟩:=I.list ha
   @⟨vs,r2,p2,_⟩:=I.list hb
   !l1:=r1~
   !l2:=r2~
   #EqAt.of_refs rj (RcAt.lists_lengths p1.isList p2.isList (by simp;lia) (by lia))
 | @tup n a b xs ys e rj ha hb _ ih=>
   intro A u v ru rv hu
   cases ru;cases rv
   @⟨us,r1,p1,_⟩:=I.tuple ha
   @⟨vs,r2,p2,_⟩:=I.tuple hb
   !l1:=r1~
   !l2:=r2~
   !q:=RcAt.tuples (A:=A) (show s.heap.IsTuple a us.toArray from p1) (show s.heap.IsTuple b vs.toArray from p2) (by lia) (eL (K:=X.K) r1 r2 ih hu)
   rw[show us.toArray.size=xs~ by simp[l1],show vs.toArray.size=ys~ by simp[l2]]at q
   #EqAt.of_refs rj q
end
def RB (K:Ro)(H:Hp)(n:Nat)(x y:V)(b:Bool):Prop:=∃a c xs ys,x=.ref a/\y=.ref c /\
 ((∃e:Nat->Bool,aH K H a xs/\aH K H c ys/\xs~=ys~/\(∀j x y,xs[j]?=S x->ys[j]?=S y->EB K H n x y (e j))/\b=(TH xs~).all e) \/
  (aH K H a xs/\aH K H c ys/\xs~≠ys~/\b=false) \/
  (∃e:Nat->Bool,bS K H a xs/\bS K H c ys/\(∀j x y,xs[j]?=S x->ys[j]?=S y->EB K H n x y (e j))/\b=((TH (min xs~ ys~)).all e&&xs~==ys~)))
section
variable{X:Cx}
def Dm {m:Nat}(hu:X.A.units+(m+1)<cLine):gC X (compareOp .Eq) (λx y H Q=>∃b,RB X.K H m x y b/\Q (.bl b) H):=by
 intro pins s σ H x y v u Q I rx ry h
 @⟨b,⟨a,c,xs,ys,rfl,rfl,q⟩,k⟩:=h
 cases rx;cases ry
 rcases q with⟨e,ha,hb,hl,he,rfl⟩|⟨ha,hb,hl,rfl⟩|⟨e,ha,hb,he,rfl⟩
 . @⟨us,r1,p1,_⟩:=I.list ha
   @⟨vs,r2,p2,_⟩:=I.list hb
   !l1:=r1~
   !l2:=r2~
   #eq_listAt p1.isList p2.isList (by simp;lia) (by lia) (eL (K:=X.K) r1 r2 (λj x y h1 h2=>(he j x y h1 h2).at I) hu) ?_
   rw[show us.toArray.size=xs~ by simp[l1]]
   #⟨.bl _,H,I,U,k⟩
 . @⟨us,r1,p1,_⟩:=I.list ha
   @⟨vs,r2,p2,_⟩:=I.list hb
   !l1:=r1~
   !l2:=r2~
   #eq_list_lengthsAt p1.isList p2.isList (by simp;lia) (by lia) ⟨.bl _,H,I,U,k⟩
 . @⟨us,r1,p1,_⟩:=I.tuple ha
   @⟨vs,r2,p2,_⟩:=I.tuple hb
   !l1:=r1~
   !l2:=r2~
   #eq_tupleAt (show s.heap.IsTuple a us.toArray from p1) (show s.heap.IsTuple c vs.toArray from p2) (by lia) (eL (K:=X.K) r1 r2 (λj x y h1 h2=>(he j x y h1 h2).at I) hu) ?_
   rw[show us.toArray.size=xs~ by simp[l1],show vs.toArray.size=ys~ by simp[l2]]
   #⟨.bl _,H,I,U,k⟩
def Dt {m:Nat}(hu:X.A.units+(m+1)<cLine):gC X (compareOp .NotEq) (λx y H Q=>∃b,RB X.K H m x y b/\Q (.bl (!b)) H):=by
 intro pins s σ H x y v u Q I rx ry h
 @⟨b,⟨a,c,xs,ys,rfl,rfl,q⟩,k⟩:=h
 cases rx;cases ry
 rcases q with⟨e,ha,hb,hl,he,rfl⟩|⟨ha,hb,hl,rfl⟩|⟨e,ha,hb,he,rfl⟩
 . @⟨us,r1,p1,_⟩:=I.list ha
   @⟨vs,r2,p2,_⟩:=I.list hb
   !l1:=r1~
   !l2:=r2~
   #RcNeAt.lists p1.isList p2.isList (by simp;lia) (by lia) (eL (K:=X.K) r1 r2 (λj x y h1 h2=>(he j x y h1 h2).at I) hu) X.prog X.w X.xe _ ?_
   rw[show us.toArray.size=xs~ by simp[l1]]
   #⟨.bl _,H,I,U,k⟩
 . @⟨us,r1,p1,_⟩:=I.list ha
   @⟨vs,r2,p2,_⟩:=I.list hb
   !l1:=r1~
   !l2:=r2~
   #RcNeAt.lists_lengths p1.isList p2.isList (by simp;lia) (by lia) X.prog X.w X.xe _ ⟨.bl _,H,I,U,k⟩
 . @⟨us,r1,p1,_⟩:=I.tuple ha
   @⟨vs,r2,p2,_⟩:=I.tuple hb
   !l1:=r1~
   !l2:=r2~
   #RcNeAt.tuples (show s.heap.IsTuple a us.toArray from p1) (show s.heap.IsTuple c vs.toArray from p2) (by lia) (eL (K:=X.K) r1 r2 (λj x y h1 h2=>(he j x y h1 h2).at I) hu) X.prog X.w X.xe _ ?_
   rw[show us.toArray.size=xs~ by simp[l1],show vs.toArray.size=ys~ by simp[l2]]
   #⟨.bl _,H,I,U,k⟩
end
def ET (K:Ro)(H:Hp)(n:Nat)(x y:V):Prop:=EB K H n x y true
def all_true {n:Nat}:(TH n).all (λz=>true)=true:=by rw[List.all_eq_true];intro _ _;rfl
def vB {x:V}(h:dE x=true):oB x x=true:=by cases x<;>simp_all [dE,oB]
def ET.refl {K:Ro}{H:Hp}{n:Nat}{x:V}(h:dE x=true\/∃a,x=.ref a):ET K H n x x:=by
 rcases h with h|⟨a,rfl⟩
 . !q:=EB.flat (K:=K) (H:=H) (n:=n) h h
   rw[vB h]at q
   #q
 . #.same
def RB.lst {K:Ro}{H:Hp}{n:Nat}{a b:J}{xs ys:O V}(ha:aH K H a xs)(hb:aH K H b ys)(hl:xs~=ys~)(h:∀(j:Nat) (x y:V),xs[j]?=S x->ys[j]?=S y->ET K H n x y):RB K H n (.ref a) (.ref b) true:=
 ⟨a,b,xs,ys,rfl,rfl,.inl ⟨λz=>true,ha,hb,hl,h,all_true.symm⟩⟩
def RB.tup {K:Ro}{H:Hp}{n:Nat}{a b:J}{xs ys:O V}(ha:bS K H a xs)(hb:bS K H b ys)(hl:xs~=ys~)(h:∀(j:Nat) (x y:V),xs[j]?=S x->ys[j]?=S y->ET K H n x y):RB K H n (.ref a) (.ref b) true:=
 ⟨a,b,xs,ys,rfl,rfl,.inr (.inr ⟨λz=>true,ha,hb,h,by rw[all_true,hl,beq_self_eq_true];rfl⟩)⟩
def RB.nil {K:Ro}{H:Hp}{n:Nat}{a b:J}{xs:O V}(ha:aH K H a xs)(hb:aH K H b []):RB K H n (.ref a) (.ref b) xs.isEmpty:=by
 cases xs with
 | nil=>#RB.lst ha hb rfl (λj x y h=>by simp at h)
 | cons x r=>#⟨a,b,_,[],rfl,rfl,.inr (.inl ⟨ha,hb,by simp,rfl⟩)⟩
section
variable{X:Cx}{pos:Pos}
def F2 (K:Ro)(n:Nat)(t:sO):TG:=λv σ H Q=>∃a xs,v=.ref a/\aH K H a xs/\xs~=n/\t xs σ H Q
def DX {es:O Expr}{k:Nat}{t:sO}{n:Nat}(hc:X.calm=true)(h:EY X es t)
   (hn:(assignEach es X.env)~=n:=by rfl) (hst:(assignEach es X.env).findIdx? (·.1)=Z:=by rfl):PG X (.Tuple es k pos) (F2 X.K n t):=by
 intro pins s σ H v u Q I r hw
 @⟨a,xs,e1,hq,hl,hw⟩:=hw
 subst e1
 cases r
 @⟨its,rv,ht,hz⟩:=I.list hq
 !hlen:=rv~
 rw[assign_Tuple]
 #wpAny_bind (wpAny_standAt ?_)
 unfold unpack
 rw[show(assignEach es X.env)~=its.toArray.size by simp[hn,← hl,hlen],hst]
 #wpAny_bind (wpAny_holding (PySem.W.kun_itemsOf (I.ok.hd hc) ht.isList λh' hx=>?_))
 !I1:Inv X pins σ H {s with heap:=h'}:=I.kept (t':=s.toks) λb o e=>hx b o (R1 (RD e)) e
 #h pins _ σ H xs _ Q I1 (by simpa using rv) hw
def AU (i j:Int):Prop:=0<j/\j<2^1000
def xj:gC X (binaryOp .FloorDiv) (rI AU λi j=>.int (i/j)):=G7 λi j z z z z z hc q=>by
 !h1:(0:Int)<j:=hc.1
 !h2:j<2^1000:=hc.2
 !h3:j.natAbs<2^1000:=by lia
 #floordiv_int (by lia) (by rw[VT i (by lia)];#q) (.inl (PyProof.noPylong_of_log2 (RJ ((Nat.log2_lt (by lia)).mpr h3) (by left))))
end
end L2
namespace TW
open PySem L2
inductive K2 where
 | plus|less|same|under|both
def K2.str:K2->Str
 | .plus=>"plus" | .less=>"less" | .same=>"same" | .under=>"under" | .both=>"both"
inductive E where
 | num (n:Int)|box (tag x:Str)|yes|nt (a:E)|two (k:K2) (a b:E)
def Tp (H:Hp)(v:V)(xs:O V):Prop:=∃p,v=.ref p/\H p=S (.tup xs)
def cJ (H:Hp):V->E->Prop
 | v,.num n=>Tp H v [.str "number",.int n]
 | v,.box t x=>Tp H v [.str t,.str x]
 | v,.yes=>Tp H v [.str "yes"]
 | v,.nt a=>∃x,Tp H v [.str "not",x]/\cJ H x a
 | v,.two k a b=>∃x y,Tp H v [.str k.str,x,y]/\cJ H x a/\cJ H y b
def TK (H H':Hp):Prop:=∀b xs,H b=S (.tup xs)->H' b=S (.tup xs)
def TK.trans {A B C:Hp}(a:TK A B)(b:TK B C):TK A C:=λc o h=>b c o (a c o h)
def Tp.keep {H H':Hp}{v:V}{xs:O V}(k:TK H H')(h:Tp H v xs):Tp H' v xs:=by@⟨p,e,q⟩:=h;#⟨p,e,k p xs q⟩
theorem cJ.keep {H H':Hp}(k:TK H H'):∀{e:E} {v:V},cJ H v e->cJ H' v e
 | .num _,_,h=>Tp.keep k h
 | .box _ _,_,h=>Tp.keep k h
 | .yes,_,h=>Tp.keep k h
 | .nt _,_,⟨x,h,a⟩=>⟨x,h.keep k,cJ.keep k a⟩
 | .two _ _ _,_,⟨x,y,h,a,b⟩=>⟨x,y,h.keep k,cJ.keep k a,cJ.keep k b⟩
def E.dep:E->Nat
 | .num _=>0|.box _ _=>0|.yes=>0|.nt a=>a.dep+1|.two _ a b=>max a.dep b.dep+1
def E.vX:E->Prop
 | .num _=>True
 | .box _ _=>True
 | .two .plus a b=>a.vX/\b.vX
 | .two .less a b=>a.vX/\b.vX
 | _=>False
def E.Fh:E->Prop
 | .yes=>True
 | .nt a=>a.Fh
 | .two .same a b=>a.vX/\b.vX
 | .two .under a b=>a.vX/\b.vX
 | .two .both a b=>a.Fh/\b.Fh
 | _=>False
def E.okIn (P:Str->Str->Prop):E->Prop
 | .num n=>n.natAbs<2^100|.box t x=>P t x|.yes=>True|.nt a=>a.okIn P|.two _ a b=>a.okIn P/\b.okIn P
theorem E.okIn.imp {P Q:Str->Str->Prop}(f:∀t x,P t x->Q t x):∀{e:E},e.okIn P->e.okIn Q
 | .num _,h=>h|.box t x,h=>f t x h|.yes,_=>RO|.nt a,h=>E.okIn.imp f (e:=a) h|.two _ a b,h=>⟨E.okIn.imp f (e:=a) h.1,E.okIn.imp f (e:=b) h.2⟩
def Kp (d:J)(H H':Hp):Prop:=∀b o,H b=S o->b≠d->H' b=S o
def Kp.refl {d:J}(H:Hp):Kp d H H:=λz z h z=>h
def Kp.trans {d:J}{A B C:Hp}(a:Kp d A B)(b:Kp d B C):Kp d A C:=λc o h n=>b c o (a c o h n) n
def Kp.new {d:J}{H H':Hp}{p:J}{o:HO}(k:Kp d H H')(h:H' p=Z):Kp d H (upd H' p o):=λb u e n=>by
 rw[ah (ag (k b u e n) h)];#k b u e n
def Kp.self {d:J}{H H':Hp}{o:HO}(k:Kp d H H'):Kp d H (upd H' d o):=λb u e n=>by rw[ah n];#k b u e n
def Kp.same {d:J}{H H1 H2:Hp}(k:Kp d H H1)(s:ai H1 H2):Kp d H H2:=λb u e n=>s b u (k b u e n)
def af {H:Hp}{p:J}(h:H p=Z)(o:HO):ai H (upd H p o):=λb u q=>by rw[ah (ag q h)];#q
def ai.tk {H H':Hp}(s:ai H H'):TK H H':=λb xs h=>s b _ h
def lB {H:Hp}{p:J}(h:H p=Z)(o:HO):TK H (upd H p o):=ai.tk (af h o)
def small {n:Nat}(h:n<=1000):n<=sizeLine:=S3 (aW h)
def fm (H:Hp)(v:V)(b:Str×Int):Prop:=Tp H v [.str b.1,.int b.2]
structure yE (bs:aB):Prop where
 nd:(bs.map (·.1)).Nodup
 sz:∀b∈bs,1<=b.2/\b.2<=16
 len:bs~<=4
end TW
set_option exponentiation.threshold 4000
namespace TW
open PySem L2
def Src (K:Ro)(mg:Str->Option Value)(x:Str)(st:Stmt):Prop:=∃f fd,cD K x x st f fd/\mg x=S (.ref f)
def b7 (P:Program)(w:World)(K:Ro)(mg:Str->Option Value)(base:Heap)(x:Str)(ps:O Str)(k:Nat)(sp:Sp):Prop:=
 ∃f fd,aY P w K mg base dq k f fd ps sp/\Tf K (.ref f)=true/\Binds K fd ps []/\mg x=S (.ref f)
def b7.mono {P:Program}{w:World}{K:Ro}{mg:Str->Option Value}{base:Heap}{x:Str}{ps:O Str}{j k:Nat}{sp:Sp}(h:b7 P w K mg base x ps j sp)(hk:j<=k):b7 P w K mg base x ps k sp:=
 let⟨f,fd,a,b,c,d⟩:=h;⟨f,fd,a.mono hk,b,c,d⟩
def fZ {α:Type}(f:α->V)(xs:O α){r:Int}(h0:0<=r)(h1:r<(xs~:Int)):∃x∈xs,iz (xs.map f) r=S (f x):=by
 !hr:r.toNat<xs~:=by lia
 !e:r=((r.toNat:Nat):Int):=by lia
 !q:iz (xs.map f) ((r.toNat:Nat):Int)=S (f xs[r.toNat]):=f6 (by rw[Sb,RQ hr];rfl)
 rw[← e]at q
 #⟨xs[r.toNat],List.getElem_mem hr,q⟩
def dm {A:Around}{k:Nat}(hr:bY k A)(m:Nat)(hm:m<=64):A.units+m<cLine:=by !:=hr.units;lia
end TW
namespace L2
open PySem PySem.Spec PyProof.Rows
structure bL (e:Expr):Prop where
 h:∀(es:O Expr) (env:Env),starEach (e::es) env=(false,eval e env)::starEach es env
def fK {e:Expr}(h:∀x p,e≠.Starred x p):bL e:=⟨λes env=>by
 cases e<;>first|rfl|show au rfl (h _ _)⟩
def fJ {c k p}:bL (.Constant c k p):=fK λy y z=>nomatch z
def nE {x p}:bL (.Name x p):=fK λy y z=>nomatch z
def jO {f a k p}:bL (.Call f a k p):=fK λy y z=>nomatch z
def wF {a o b p}:bL (.BinOp a o b p):=fK λy y z=>nomatch z
def nF {a b p}:bL (.Subscript a b p):=fK λy y z=>nomatch z
def wJ {a b p}:bL (.Tuple a b p):=fK λy y z=>nomatch z
def wI {a p}:bL (.List a p):=fK λy y z=>nomatch z
def wG {a b c p}:bL (.Compare a b c p):=fK λy y z=>nomatch z
def Bn {a b c p}:bL (.ListComp a b c p):=fK λy y z=>nomatch z
def Bo {a b p}:bL (.UnaryOp a b p):=fK λy y z=>nomatch z
def iB (es:O Expr):Prop:=∀(pos:Pos) (env:Env),(backTo pos (starEach es env)).any (·.1)=false
def zE:iB []:=λz z=>rfl
def wK {e:Expr}{es:O Expr}(h:bL e)(hs:iB es):iB (e::es):=λpos env=>by
 rw[h.h es env]
 #hs pos env
structure qP (X:Cx)(es:O Expr)(t:TA):Prop where
 pa:PA X es t
 ns:∀e r,es=e::r->bL e/\iB r
 nss:iB es
section
variable{X:Cx}{e:Expr}{es:O Expr}{te:TE}{t:TA}{pos:Pos}
def an:qP X [] yn:=⟨DC,(λy y z=>nomatch z),zE⟩
def ac (ha:PE X e te)(hr:qP X es t)
   (hs:bL e:=by first|show fJ|show nE|show jO|show wF|show nF|show wJ|show wI|show wG|show Bn|show GX|show Bo|show zD|show zC):qP X (e::es) (yl te t):=
 ⟨zZ ha hr.pa (hs.h es X.env),λe' r z=>by injection z with z1 z2;subst z1 z2;#⟨hs,hr.nss⟩,wK hs hr.nss⟩
def LH {x1}(h:qP X es t):PE X (.Tuple es x1 pos) (EN t):=DR h.pa
def LF (h:qP X es t):PE X (.List es pos) (EL t):=DO h.pa
def ES {x:Str}{p:Pos}{id:String}{r:O V->Hp->VK->Prop}(hc:dz X (.builtin id) r)(hg:Gl X x)(hm:X.mg x=Z)(hv:SJ x=S (.builtin id))(ha:qP X (e::es) t)(hn:x≠"__name__":=by left)(hdb:(x==("__debug__":Str))=false:=by left) :
   PE X (.Call (.Name x p) (e::es) [] pos) (Fn r t):=xk hc hg hm hv ha.pa hn hdb ((ha.ns e es rfl).1.h es X.env) ((ha.ns e es rfl).2 pos X.env)
def EU {x:Str}{p:Pos}{T:String}{r:O V->Hp->VK->Prop}(hc:dz X (.type T) r)(hg:Gl X x)(hm:X.mg x=Z)(hv:SJ x=S (.type T))(ha:qP X (e::es) t)(hn:x≠"__name__":=by left)(hdb:(x==("__debug__":Str))=false:=by left) :
   PE X (.Call (.Name x p) (e::es) [] pos) (Fn r t):=uw hc hg hm hv ha.pa hn hdb ((ha.ns e es rfl).1.h es X.env) ((ha.ns e es rfl).2 pos X.env)
def LG {x:Str}{p:Pos}{ps:O Str}{k:Nat}{sp:Sp}(D:TW.b7 X.prog X.w X.K X.mg X.base x ps k sp)(hr:bY k X.A)(hg:Gl X x)(ha:qP X (e::es) t)(hdb:(x==("__debug__":Str))=false:=by left) :
   PE X (.Call (.Name x p) (e::es) [] pos) (sA sp [] E0 t):=
 let⟨_,_,G,kp,b,m⟩:=D
 rL G hr hg m kp b .nil rK ha.pa hdb ((ha.ns e es rfl).1.h es X.env) ((ha.ns e es rfl).2 pos X.env)
def AR {tg a:Expr}{ta:TA}{p:Pos}(hg:Gl X "range")(hm:X.mg "range"=Z)(ha:qP X [a] ta):PI X tg (.Call (.Name "range" p) [a] [] pos) (vU ta):=
 uy hg hm ha.pa ((ha.ns a [] rfl).1.h [] X.env)
def LD {o:Expr}{name:Str}{apos:Pos}{T id:String}{r:V->O V->Hp->VK->Prop}{to:TE}(pa:PlainAttrs T)(slot:Slot T name id)(hty:typeOf (.builtin id)=pure (.type "method_descriptor"))(hm:EX X id r)(ho:PE X o to)(ha:qP X [e] t)
   (hbase:Ss o name X.env (eval o X.env)=eval o X.env:=by rfl) (hline:(apos.endLine==pos.line)=true:=by rfl):PE X (.Call (.Attribute o name apos) [e] [] pos) (EI X.K T r to t):=
 Hl pa slot hty hm ho ha.pa hbase (by rw[(ha.ns e [] rfl).1.h [] X.env];rfl) hline ((ha.ns e [] rfl).1.h [] X.env) ((ha.ns e [] rfl).2 pos X.env)
end
end L2
namespace L3
open PySem PySem.Spec PyProof.Rows L2
structure SE (X:Cx)(e:Expr)(t:TE):Prop where
 h:PE X e t
structure ST (X:Cx)(e:Expr)(t:TT):Prop where
 h:PT X e t
structure SW (X:Cx)(e:Expr)(t:TT):Prop where
 h:PW X e t
structure SA (X:Cx)(es:O Expr)(t:TA):Prop where
 h:qP X es t
structure SS (X:Cx)(s:Stmt)(t:TS):Prop where
 h:PS X s t
structure SL (X:Cx)(ss:O Stmt)(t:TS):Prop where
 h:lD X ss t
structure SG (X:Cx)(e:Expr)(t:TG):Prop where
 h:PG X e t
structure FE (X:Cx)(es:O Expr)(t:sO):Prop where
 h:EY X es t
structure SI (X:Cx)(tg iter:Expr)(t:TI):Prop where
 h:PI X tg iter t
structure E5 (X:Cx)(cs:O Expr)(t:TT):Prop where
 h:jE X cs t
structure SO (X:Cx)(f:Value->Value->Sem Value)(r:R2):Prop where
 h:gC X f r
structure SX (X:Cx)(r:R2):Prop where
 h:Fy X r
structure SC (X:Cx)(f:Value)(r:O V->Hp->VK->Prop):Prop where
 h:dz X f r
structure SM (X:Cx)(id:String)(r:V->O V->Hp->VK->Prop):Prop where
 h:EX X id r
section
variable{X:Cx}{a b c e o:Expr}{es:O Expr}{ta tb tc te:TE}{t:TA}{tA uB:TT}{pos:Pos}{r:R2}
def v (i:Nat){x:Str}(hN:X.N[i]?=S x:=by rfl)(hv:IY X.env.scope x:=by first|show Or.inl rfl|show Or.inr (Or.inl rfl)|show Or.inr (Or.inr rfl))(hd:(x==("__debug__":Str))=false:=by left)
   (hcd:(x==("__classdict__":Str))=false:=by left):SE X (.Name x pos) (AL i):=⟨DS hN hv hd hcd⟩
theorem int {i j}:SE X (.Constant (.int i) j pos) (tC (.int i)):=⟨DK⟩
theorem bl {k j}:SE X (.Constant (.bool k) j pos) (tC (.bl k)):=⟨Hj⟩
theorem bI {j}:SE X (.Constant .none j pos) (tC .bI):=⟨DP⟩
theorem str {x j}:SE X (.Constant (.str x) j pos) (tC (.str x)):=⟨xq⟩
def glob {x:Str}{w:V}{u:Value}(hg:Gl X x)(hm:X.mg x=S u)(r:RelV w u)(hd:(x==("__debug__":Str))=false:=by left):SE X (.Name x pos) (tC w):=⟨Ab hg hm r hd⟩
def JI {x:Str}{w:V}{u:Value}(hg:Gl X x)(hm:X.mg x=Z)(hv:SJ x=S u)(r:RelV w u)(hn:x≠"__name__":=by left)(hd:(x==("__debug__":Str))=false:=by left):SE X (.Name x pos) (tC w):=⟨z4 hg hm hv r hn hd⟩
def op {k:V5}(ho:SO X (binaryOp k) r)(ha:SE X a ta)(hb:SE X b tb):SE X (.BinOp a k b pos) (yA r ta tb):=⟨Hq ho.h ha.h hb.h⟩
def cmp {k:CmpOp}(ho:SO X (compareOp k) r)(ha:SE X a ta)(hb:SE X b tb)(hm:TQ k b=false:=by#wC _):ST X (.Compare a [k] [b] pos) (B0 (yA r ta tb)):=⟨Ap ho.h ha.h hb.h hm⟩
def Cn {k:CmpOp}(ho:SO X (compareOp k) r)(ha:SE X a ta)(hb:SE X b tb)(hm:TQ k b=false:=by#wC _):SE X (.Compare a [k] [b] pos) (yA r ta tb):=⟨z5 ho.h ha.h hb.h hm⟩
def bt:SO X (binaryOp .Add) (uY λi j=>.int (i+j)):=⟨Dk⟩
def my:SO X (binaryOp .Sub) (uY λi j=>.int (i-j)):=⟨Dw⟩
def dk:SO X (binaryOp .Mult) (rI yF λi j=>.int (i*j)):=⟨Ds⟩
def aO:SO X (binaryOp .Mod) (rI (λz j=>0<j) λi j=>.int (i%j)):=⟨Dr⟩
def bO:SO X (binaryOp .FloorDiv) (rI AU λi j=>.int (i/j)):=⟨xj⟩
def jA:SO X (binaryOp .Pow) (rI Fs λi j=>.int (i^j.toNat)):=⟨Du⟩
def dZ:SO X (binaryOp .Add) HP:=⟨Dl⟩
def bF:SO X (compareOp .Eq) MU:=⟨G9⟩
def oZ:SO X (compareOp .NotEq) MV:=⟨Hh⟩
def oY:SO X (compareOp .Lt) (uY λi j=>.bl (decide (i<j))):=⟨Hg⟩
def nH:SO X (compareOp .Gt) (uY λi j=>.bl (decide (j<i))):=⟨Hf⟩
def GY:SO X (compareOp .GtE) (uY λi j=>.bl (decide (j<=i))):=⟨He⟩
def wN {KK:Ro}{m:Nat}(hu:X.A.units+(m+1)<cLine)(hK:X.K=KK:=by first|show br|rfl):SO X (compareOp .Eq) (λx y H Q=>∃b,RB KK H m x y b/\Q (.bl b) H):=by
 subst hK
 #⟨Dm hu⟩
def gM {KK:Ro}{m:Nat}(hu:X.A.units+(m+1)<cLine)(hK:X.K=KK:=by first|show br|rfl):SO X (compareOp .NotEq) (λx y H Q=>∃b,RB KK H m x y b/\Q (.bl (!b)) H):=by
 subst hK
 #⟨Dt hu⟩
def zG {KK:Ro}(hK:X.K=KK:=by first|show br|rfl):SO X (compareOp .In) (Jn KK false):=by
 subst hK
 #⟨ur⟩
def jQ {KK:Ro}(hK:X.K=KK:=by first|show br|rfl):SO X (compareOp .NotIn) (Jn KK true):=by
 subst hK
 #⟨nK⟩
def GZ:SO X (compareOp .Is) (λx y H Q=>y=.bI/\Q (.bl (decide (x=.bI))) H):=⟨Dp⟩
def JR (hu:X.A.units+1<cLine)(hi:SE X a ta)(ho:SE X b tb)(h1:TQ .In b=false:=by first|show wB _ (by left) (by left)|rfl):SE X (.Compare a [.In] [b] pos) (Iz ta tb):=⟨DI (DF hu hi.h ho.h) h1⟩
def Dy {rest:O Expr}(ha:ST X a tA)(hb:SW X (.BoolOp .Or (b::rest) pos) uB):SW X (.BoolOp .Or (a::b::rest) pos) (Nh tA uB):=⟨HM ha.h hb.h⟩
def Fi (ha:ST X a tA):SW X (.BoolOp .Or [a] pos) tA:=⟨Ef ha.h⟩
def fC {rest:O Expr}(ha:ST X a tA)(hb:SW X (.BoolOp .And (b::rest) pos) uB):SW X (.BoolOp .And (a::b::rest) pos) (Iw tA uB):=⟨Ee ha.h hb.h⟩
def gX (ha:ST X a tA):SW X (.BoolOp .And [a] pos) tA:=⟨Aq ha.h⟩
def tw (h:SW X e tA):ST X e tA:=⟨h.h.pt⟩
def nt (ha:ST X a tA):ST X (.UnaryOp .Not a pos) (IE tA):=⟨Ec ha.h⟩
def uR (h:SE X e te)(he:∀whole,isTrue e X.env whole=(do let v←whole;standAt e.pos;holding [v] (truthy v)):=by intro _;rfl):ST X e (tB te):=⟨Ed h.h he⟩
def ix (hr:SX X r)(ha:SE X a ta)(hb:SE X b tb)(hs:jH b:=by#λz z=>rfl):SE X (.Subscript a b pos) (yA r ta tb):=⟨Hm hr.h ha.h hb.h hs⟩
def dw {KK:Ro}(hK:X.K=KK:=by first|show br|rfl):SX X (HR KK):=by
 subst hK
 #⟨zo⟩
def eX {KK:Ro}(hK:X.K=KK:=by first|show br|rfl):SX X (HU KK):=by
 subst hK
 #⟨CU⟩
def JQ (hu:X.A.units+1<cLine)(ho:SE X a ta)(hi:SE X b tb)(hs:u6 b:=by#λz z=>rfl):SE X (.Subscript a b pos) (BR ta tb):=⟨z7 hu ho.h hi.h hs⟩
def Ll {KK:Ro}{p2:Pos}(ha:SE X a ta)(hb:SE X b tb)(hK:X.K=KK:=by first|show br|rfl):SE X (.Subscript a (.Slice (S b) Z Z p2) pos) (EM (HW KK) ta (jc tb) jb):=by
 subst hK
 #⟨eP EE ha.h (d8 hb.h) jS⟩
def ED {KK:Ro}{p2:Pos}(ha:SE X a ta)(hb:SE X b tb)(hK:X.K=KK:=by first|show br|rfl):SE X (.Subscript a (.Slice Z (S b) Z p2) pos) (EM (As KK) ta jb (jc tb)):=by
 subst hK
 #⟨eP nY ha.h jS (d8 hb.h)⟩
def n:SA X [] yn:=⟨an⟩
def k (ha:SE X e te)(hr:SA X es t)(hs:bL e:=by first|show fJ|show nE|show jO|show wF|show nF|show wJ|show wI|show wG|show Bn|show GX|show Bo|show zD|show zC) :
   SA X (e::es) (yl te t):=⟨ac ha.h hr.h hs⟩
def tup {x1}(h:SA X es t):SE X (.Tuple es x1 pos) (EN t):=⟨LH h.h⟩
def lst (h:SA X es t):SE X (.List es pos) (EL t):=⟨LF h.h⟩
def aX {x:Str}{p:Pos}{id:String}{rr:O V->Hp->VK->Prop}(hc:SC X (.builtin id) rr)(hg:Gl X x)(hm:X.mg x=Z)(hv:SJ x=S (.builtin id))(ha:SA X (e::es) t)(hn:x≠"__name__":=by left)(hdb:(x==("__debug__":Str))=false:=by left) :
   SE X (.Call (.Name x p) (e::es) [] pos) (Fn rr t):=⟨ES hc.h hg hm hv ha.h hn hdb⟩
def dC {x:Str}{p:Pos}{T:String}{rr:O V->Hp->VK->Prop}(hc:SC X (.type T) rr)(hg:Gl X x)(hm:X.mg x=Z)(hv:SJ x=S (.type T))(ha:SA X (e::es) t)(hn:x≠"__name__":=by left)(hdb:(x==("__debug__":Str))=false:=by left) :
   SE X (.Call (.Name x p) (e::es) [] pos) (Fn rr t):=⟨EU hc.h hg hm hv ha.h hn hdb⟩
def own {x:Str}{p:Pos}{ps:O Str}{kk:Nat}{sp:Sp}(D:TW.b7 X.prog X.w X.K X.mg X.base x ps kk sp)(hr:bY kk X.A)(hg:Gl X x)(ha:SA X (e::es) t)(hdb:(x==("__debug__":Str))=false:=by left) :
   SE X (.Call (.Name x p) (e::es) [] pos) (sA sp [] E0 t):=⟨LG D hr hg ha.h hdb⟩
def IZ {KK:Ro}{name:Str}{apos:Pos}{T id:String}{rr:V->O V->Hp->VK->Prop}(pa:PlainAttrs T)(slot:Slot T name id)(hty:typeOf (.builtin id)=pure (.type "method_descriptor"))(hm:SM X id rr)(ho:SE X o ta)(ha:SA X [e] t)
   (hbase:Ss o name X.env (eval o X.env)=eval o X.env:=by rfl) (hline:(apos.endLine==pos.line)=true:=by rfl) (hK:X.K=KK:=by first|show br|rfl):SE X (.Call (.Attribute o name apos) [e] [] pos) (EI KK T rr ta t):=by
 subst hK
 #⟨LD pa slot hty hm.h ho.h ha.h hbase hline⟩
theorem append {KK:Ro}{apos:Pos}(ho:SE X o ta)(ha:SA X [e] t)(hbase:Ss o "append" X.env (eval o X.env)=eval o X.env:=by rfl)(hline:(apos.endLine==pos.line)=true:=by rfl)(hK:X.K=KK:=by first|show br|rfl):SE X (.Call (.Attribute o "append" apos) [e] [] pos) (EI KK "list" rP ta t):=by
 subst hK
 #IZ Us PySem.F.slot_list_append PySem.F.type_list_append ⟨mr⟩ ho ha hbase hline
def Bs {KK:Ro}{apos:Pos}(ho:SE X o ta)(ha:SA X [e] t)(hbase:Ss o "pop" X.env (eval o X.env)=eval o X.env:=by rfl)(hline:(apos.endLine==pos.line)=true:=by rfl)(hK:X.K=KK:=by first|show br|rfl):SE X (.Call (.Attribute o "pop" apos) [e] [] pos) (EI KK "list" xG ta t):=by
 subst hK
 #IZ Us V2 V0 ⟨wo⟩ ho ha hbase hline
def bu {KK:Ro}(hK:X.K=KK:=by first|show br|rfl):SC X (.builtin "len") (λxs H Q=>∃p ys,xs=[.ref p]/\(aH KK H p ys\/bS KK H p ys)/\Q (.int ys~) H):=by
 subst hK
 #⟨mO⟩
def mM {KK:Ro}(hK:X.K=KK:=by first|show br|rfl):SC X (.type "list") (λxs H Q=>∃p ys,xs=[.ref p]/\(aH KK H p ys\/bS KK H p ys)/\∀l,H l=Z->Q (.ref l) (upd H l (.lst ys))):=by
 subst hK
 #⟨mR⟩
def FL:SC X (.type "int") (λxs H Q=>(∃i,xs=[.int i]/\Q (.int i) H)\/∃k,xs=[.bl k]/\Q (.int (if k then 1 else 0)) H):=⟨sQ⟩
def gn (i:Nat){x:Str}(hN:X.N.Nodup)(hi:X.N[i]?=S x:=by rfl)(hx:Loc X.env.scope x:=by first|show Or.inl rfl|show Or.inr rfl)(hf:X.fn x=true\/X.env.scope.names.lookup x=S .local:=by first|show .inl rfl|show .inr rfl):SG X (.Name x pos) (cI i):=⟨Ae hN hi hx hf⟩
def pO:FE X [] y9:=⟨Af⟩
def gw {t:TG}{u:sO}(h1:SG X e t)(h2:FE X es u)(hs:(assignEach (e::es) X.env).map (·.2)=assign e X.env::(assignEach es X.env).map (·.2):=by rfl):FE X (e::es) (kB t u):=⟨xt h1.h h2.h hs⟩
def kF {KK:Ro}{kk:Nat}{t:sO}(m:Nat)(h:FE X es t)(hc:X.calm=true:=by rfl)(hn:(assignEach es X.env)~=m:=by rfl)(hst:(assignEach es X.env).findIdx? (·.1)=Z:=by rfl)(hK:X.K=KK:=by first|show br|rfl):SG X (.Tuple es kk pos) (zb KK m t):=by
 subst hK
 #⟨DY hc h.h hn hst⟩
def zc {KK:Ro}{kk:Nat}{t:sO}(m:Nat)(h:FE X es t)(hc:X.calm=true:=by rfl)(hn:(assignEach es X.env)~=m:=by rfl)(hst:(assignEach es X.env).findIdx? (·.1)=Z:=by rfl)(hK:X.K=KK:=by first|show br|rfl):SG X (.Tuple es kk pos) (F2 KK m t):=by
 subst hK
 #⟨DX hc h.h hn hst⟩
def Kk {cc:Const}{j:Nat}{p:Pos}(ho:SE X a ta)(hi:SE X (.Constant cc j p) tb):SG X (.Subscript a (.Constant cc j p) pos) (za ta tb rQ):=⟨qt ho.h hi.h set_list (λz=>rfl)⟩
def iL {KK:Ro}{tg:Expr}(h:SE X a ta)(hK:X.K=KK:=by first|show br|rfl):SI X tg a (Be KK ta):=by
 subst hK
 #⟨Ah h.h⟩
def iT {KK:Ro}{tg:Expr}(h:SE X a ta)(hK:X.K=KK:=by first|show br|rfl):SI X tg a (GH KK ta):=by
 subst hK
 #⟨DZ h.h⟩
def iR {tg:Expr}{p:Pos}(hg:Gl X "range")(hm:X.mg "range"=Z)(ha:SA X [a] t):SI X tg (.Call (.Name "range" p) [a] [] pos) (vU t):=⟨AR hg hm ha.h⟩
def pB:E5 X [] EJ:=⟨Lb⟩
def if1 (h:ST X a tA):E5 X [a] tA:=⟨Lc h.h⟩
def lc {tg iter elt:Expr}{ifs:O Expr}{sc:Scope}{wi:TI}{g:TG}{tifs:TT}(src:O (Option Nat))(N':O Str)(S8x:bp sc X.env.scope)(hcap:bT sc src N' X.N=true)(hi:SI X tg iter wi)
   (hb:∀s H C fp xe,SG (cV X N' sc s H C fp xe) tg g/\E5 (cV X N' sc s H C fp xe) ifs tifs/\SE (cV X N' sc s H C fp xe) elt te) (hc:X.calm=true:=by rfl)
   (hs:∀x,Sg iter X.env x=pure x:=by intro _;rfl):SE X (.ListComp elt [⟨tg,iter,ifs,0⟩] sc pos) (dj src (.lst []) wi g tifs (dJ te)):=
 ⟨Ho src N' hc S8x hcap hi.h (λs H C fp xe=>⟨(hb s H C fp xe).1.h,(hb s H C fp xe).2.1.h,(hb s H C fp xe).2.2.h⟩) hs⟩
def Fl {tg iter elt:Expr}{ifs:O Expr}{sc:Scope}{wi:TI}{g:TG}{tifs:TT}{i:Nat}{x:Str}{pos' da:Pos}(src:O (Option Nat))(N':O Str)(S8x:bp sc X.env.scope)(hcap:bT sc src N' X.N=true)(hi:SI X tg iter wi)
   (hb:∀s H C fp xe,SG (cV X N' sc s H C fp xe) tg g/\E5 (cV X N' sc s H C fp xe) ifs tifs/\SE (cV X N' sc s H C fp xe) elt te) (hN:X.N.Nodup) (hix:X.N[i]?=S x:=by rfl) (hx:Loc X.env.scope x:=by#Or.inl rfl)
   (hsw:Tw (.ListComp elt [⟨tg,iter,ifs,0⟩] sc pos) (S (.Name x pos')) da.line X.env=pure true:=by rfl) (hc:X.calm=true:=by rfl)
   (hs:∀x,Sg iter X.env x=pure x:=by intro _;rfl) (hf:X.fn x=true\/X.env.scope.names.lookup x=S .local:=by first|show .inl rfl|show .inr rfl) :
   SS X (.Assign [.Name x pos'] (.ListComp elt [⟨tg,iter,ifs,0⟩] sc pos) da) (lR (dj src (.lst []) wi g tifs (dJ te)) (cI i)):=
 ⟨HL src N' hc S8x hcap hi.h (λs H C fp xe=>⟨(hb s H C fp xe).1.h,(hb s H C fp xe).2.1.h,(hb s H C fp xe).2.2.h⟩) hN hix hx hsw hs hf⟩
variable{st:Stmt}{rest:O Stmt}{u1 u2:TS}
def nil:SL X [] BW:=⟨An⟩
def cons (h1:SS X st u1)(h2:SL X rest u2):SL X (st::rest) (fQ u1 u2):=⟨xD h1.h h2.h⟩
def one (h1:SS X st u1):SL X [st] u1:=⟨Ao h1.h⟩
def never:SL X rest ym:=⟨uE⟩
def ret (he:SE X e te):SS X (.Return (S e) pos) (IF te):=⟨Ea he.h⟩
def ex (he:SE X e te)(hs:Tw e Z pos.line X.env=pure false:=by rfl):SS X (.Expr e pos) (BU te):=⟨Al he.h hs⟩
def ifs {tc:TT}{x y:O Stmt}(hc:ST X c tc)(ha:SL X x u1)(hb:SL X y u2):SS X (.If c x y pos) (EK tc u1 u2):=⟨HH hc.h ha.h hb.h⟩
def set (i:Nat){x:Str}{pos':Pos}(hN:X.N.Nodup)(he:SE X e te)(hi:X.N[i]?=S x:=by rfl)(hx:Loc X.env.scope x:=by first|show Or.inl rfl|show Or.inr rfl)(hs:Tw e (S (.Name x pos')) pos.line X.env=pure false:=by rfl)(hf:X.fn x=true\/X.env.scope.names.lookup x=S .local:=by first|show .inl rfl|show .inr rfl) :
   SS X (.Assign [.Name x pos'] e pos) (lR te (cI i)):=⟨Eb hN hi hx he.h hs hf⟩
def asg {tg:Expr}{g:TG}(he:SE X e te)(hg:SG X tg g)(hs:swapsWithSole [tg] e pos.line X.env=pure false:=by rfl)(hw:swappedStores [tg] e X.env=pure Z:=by rfl)
   (h1:(assignEach [tg] X.env).map (·.2)=[assign tg X.env]:=by rfl):SS X (.Assign [tg] e pos) (lR te g):=⟨D7 he.h hg.h hs hw h1⟩
def jF {tg iter:Expr}{body:O Stmt}{wi:TI}{g:TG}(hi:SI X tg iter wi)(hg:SG X tg g)(hb:SL X body u1)(hp:PassesOwn (model X.prog X.w) X.A X.env X.xe:=by#Wk)(hc:X.calm=true:=by rfl)
   (hs:∀x,Sg iter X.env x=pure x:=by intro _;rfl):SS X (.For tg iter body [] pos) (IB wi g u1):=⟨D9 hp hc hi.h hg.h hb.h hs⟩
def run {ss:O Stmt}{u:TS}(h:SL X ss u):lD X ss u:=h.h
end
end L3
namespace L3
open PySem PySem.Spec PyProof.Rows L2
section
variable{X:Cx}{a b c e o:Expr}{es:O Expr}{ta tb tc te:TE}{t:TA}{tA uB:TT}{pos:Pos}{r:R2}
def neg (ha:SE X a ta):SE X (.UnaryOp .USub a pos) (Ni (rU λi=>.int (-i)) ta):=⟨Hs EO ha.h⟩
def Qh (ha:SE X a ta):SE X (.UnaryOp .Not a pos) (BX ta):=⟨DQ ha.h⟩
def MF (hc:ST X c tA)(ha:SE X a ta)(hb:SE X b tb):SE X (.IfExp c a b pos) (Nf tA ta tb):=⟨xo hc.h ha.h hb.h⟩
def wQ:SO X (compareOp .IsNot) (λx y H Q=>y=.bI/\Q (.bl (!decide (x=.bI))) H):=⟨zX⟩
def A3 {x:Str}{p:Pos}(ho:SE X a ta)(hi:SE X (.Name x p) tb):SG X (.Subscript a (.Name x p) pos) (za ta tb rQ):=⟨qt ho.h hi.h set_list (λz=>rfl)⟩
end
end L3
namespace L2
open PySem PySem.Spec PyProof.Rows
def gy (nm:Nat->Str)(i:Nat):Str->Bool:=λx=>(TH i).any λj=>decide (x=nm j)
def uc (nm:Nat->Str)(i:Nat)(x:Str):gy nm (i+1) x=(gy nm i x || decide (x=nm i)):=by
 unfold gy
 rw[List.range_succ,List.any_append]
 simp
def wj {nm:Nat->Str}{n i:Nat}(inj:∀a b,a<n->b<n->nm a=nm b->a=b)(hi:i<n):gy nm i (nm i)=false:=by
 unfold gy
 rw[Uw]
 intro j hj
 !Mz:j<i:=List.mem_range.mp hj
 !:¬ nm i=nm j:=λe=>by !:=inj i j hi (by lia) e;lia
 simpa using this
section
variable{X:Cx}{a:Expr}{ta:TA}{p1 p2 pos da:Pos}
theorem sj:∀{xs:O Str} {us:O Value} {i:Nat} {v:Value},Vals (xs.map V.str) us->us[i]?=S v->∃t,v=Uq (xs.getD i "") t
 | [],_,_,_,.nil,h=>by simp at h
 | x::r,_,0,_,.cons q _,h=>by
   @⟨t,e⟩:=q
   simp at h
   subst h
   #⟨t,e⟩
 | x::r,_,i+1,v,.cons _ q,h=>by
   @⟨t,e⟩:=sj (xs:=r) (i:=i) q (by simpa using h)
   #⟨t,by simpa using e⟩
end
end L2
namespace L3
open PySem PySem.Spec PyProof.Rows L2
def Qs {X:Cx}{tg iter kx vx:Expr}{ifs:O Expr}{sc:Scope}{wi:TI}{g:TG}{tifs:TT}{tk tv:TE}{i:Nat}{x:Str}{pos pos' da:Pos}(src:O (Option Nat))(N':O Str)(hu:X.A.units+1<cLine)(S8x:bp sc X.env.scope)(hcap:bT sc src N' X.N=true)(hi:SI X tg iter wi)
   (hb:∀s H C fp xe,SG (cV X N' sc s H C fp xe) tg g/\E5 (cV X N' sc s H C fp xe) ifs tifs/\SE (cV X N' sc s H C fp xe) kx tk/\SE (cV X N' sc s H C fp xe) vx tv) (hN:X.N.Nodup) (hix:X.N[i]?=S x:=by rfl) (hx:Loc X.env.scope x:=by#Or.inl rfl)
   (hsw:Tw (.DictComp kx vx [⟨tg,iter,ifs,0⟩] sc pos) (S (.Name x pos')) da.line X.env=pure true:=by rfl) (hc:X.calm=true:=by rfl)
   (hs:∀x,Sg iter X.env x=pure x:=by intro _;rfl) (hf:X.fn x=true\/X.env.scope.names.lookup x=S .local:=by first|show .inl rfl|show .inr rfl) :
   SS X (.Assign [.Name x pos'] (.DictComp kx vx [⟨tg,iter,ifs,0⟩] sc pos) da) (lR (dj src (.dT []) wi g tifs (C5 tk tv)) (cI i)):=
 ⟨rO yQ hc S8x hcap hi.h (λs H C fp xe D=>⟨(hb s H C fp xe).1.h,(hb s H C fp xe).2.1.h,D6 (X:=cV X N' sc s H C fp xe) hu (hb s H C fp xe).2.2.1.h (hb s H C fp xe).2.2.2.h D⟩) Cc hs (λz=>rfl) hN hix hx hsw hf⟩
end L3
namespace PySem
open Sem (wp)
end PySem
namespace PySem
end PySem
namespace L2
open PySem PySem.Spec PyProof.Rows
end L2
namespace L3
open PySem PySem.Spec PyProof.Rows L2
end L3
namespace L2
open PySem PySem.Spec PyProof.Rows
end L2
namespace L3
open PySem PySem.Spec PyProof.Rows L2
section
variable{X:Cx}{a b c e o:Expr}{es:O Expr}{ta tb tc te:TE}{t:TA}{pos:Pos}
def fU {L4:Expr}{body:O Stmt}{Nj:TT}{u1:TS}(hcn:ST X L4 Nj)(hb:SL X body u1)(hp:PassesOwn (model X.prog X.w) X.A X.env X.xe:=by#Wk):SS X (.While L4 body [] pos) (yp Nj u1):=⟨xB hp hcn.h hb.h⟩
end
end L3
namespace L2
open PySem PySem.Spec PyProof.Rows
end L2
namespace L3
open PySem PySem.Spec PyProof.Rows L2
section
variable{X:Cx}{a b c e o:Expr}{es:O Expr}{ta tb tc te:TE}{t:TA}{pos pos':Pos}{P:Program}{w:World}
def yN {KK:Ro}(hK:X.K=KK:=by first|show br|rfl):SC X (.type "tuple") (λxs H Q=>∃p ys,xs=[.ref p]/\aH KK H p ys/\∀l,H l=Z->Q (.ref l) (upd H l (.tup ys))):=by
 subst hK
 #⟨λpins s σ H xs us Q I r h=>?_⟩
 @⟨p,ys,e,hq,q⟩:=h
 #lJ pins s σ H xs us Q I r ⟨p,ys,e,.inl ⟨hq,q⟩⟩
end
end L3
namespace L2
open PySem PySem.Spec PyProof.Rows
end L2
namespace L3
open PySem PySem.Spec PyProof.Rows L2
section
variable{X:Cx}{a b c e o:Expr}{es:O Expr}{ta tb tc te:TE}{t:TA}{pos:Pos}
def EC {KK:Ro}{p2:Pos}(ha:SE X a ta)(hb:SE X b tb)(hK:X.K=KK:=by first|show br|rfl):SE X (.Subscript a (.Slice (S b) Z Z p2) pos) (EM (As KK) ta (jc tb) jb):=by
 subst hK
 #⟨eP nY ha.h (d8 hb.h) jS⟩
end
end L3
namespace TW
end TW
namespace L2
open PySem PySem.Spec PyProof.Rows
end L2
namespace L3
open PySem PySem.Spec PyProof.Rows L2
end L3
namespace L2
open PySem PySem.Spec PyProof.Rows SeqAt
end L2
namespace L3
open PySem PySem.Spec PyProof.Rows L2
end L3
namespace L2
open PySem PySem.Spec PyProof.Rows
def bB.ex {P:Program}{w:World}{H:Hp}{h:Heap}{a:J}{o:HO}(x:bB P w H h a o):∃ob,h.get? a=S ob:=by
 cases o with
 | lst xs=>@⟨_,_,_,_,e⟩:=x;#⟨_,e⟩
 | tup xs=>@⟨_,_,_,ob,e,_⟩:=x;#⟨ob,e⟩
 | dK kvs=>@⟨_,_,_,_,o,_,_,e,_⟩:=x;#⟨o,e⟩
 | dT kvs=>@⟨_,_,_,_,o,_,_,e,_⟩:=x;#⟨o,e⟩
 | set S8x n=>@⟨o,_,_,_,e,_⟩:=x;#⟨o,e⟩
 | ins C dx fs=>@⟨_,_,_,e,_⟩:=x;#⟨_,e⟩
 | own y=>@⟨ob,e⟩:=x;#⟨ob,e⟩
 | xd fs=>@⟨_,⟨ob,_,_,e,_⟩,_⟩:=x;#⟨ob,e⟩
 | rng lo hi=>@⟨_,_,_,e⟩:=x;#⟨_,e⟩
 | frz ob u=>@⟨e,_⟩:=x;#⟨ob,e⟩
 | tbl ps=>#⟨_,(show h.get? a=S _ from x)⟩
 | met f y=>#⟨_,(show h.get? a=S _ from x)⟩
 | ext φ=>@⟨_,⟨ob,e⟩,_⟩:=x;#⟨ob,e⟩
def eD (P:Program)(w:World)(base:Heap):uT:=λouter H s E e s'=>∃(ea:J) (cls a0:Value) (B:Heap) (H':Hp),e=.ref ea/\s'.os=s.os/\AllBare s'.gens/\Un (dH outer) [] H H' s.heap s'.heap/\fW P w H' s'.heap /\
 base.StaysIn B/\Wh B outer ea cls a0 s'.heap/\(∀b o,s.heap.get? b=S o->b∉dH outer->∃o',B.get? b=S o')/\(∀b u,H' b=S u->∃o,B.get? b=S o)/\s.heap.get? ea=Z/\E cls Z H'
section
variable{P:Program}{w:World}{K:Ro}{mg:Str->Option Value}{base:Heap}{N:O Str}{qual:Str}{scope:Scope}{f:J}{cd:Value}{A:Around}{outer:O Env}{s:Shared}{H:Hp}{E:XK}
def eR {H1:Hp}{h B g:Heap}(ok:fW P w H1 h)(ij:∀b u,H1 b=S u->∃o,B.get? b=S o)(sb:B.StaysIn h)(sg:B.StaysIn g):fW P w H1 g:=λa u e=>by
 #(ok a u e).cn (λb o hb q=>?_) (λz q=>q) (λz z q=>q)
 !pz:∃v,H1 b=S v:=by
   rcases hb with rfl|hb
   . #⟨u,e⟩
   . #⟨_,hb⟩
 @⟨v,hv⟩:=pz
 @⟨o',iM⟩:=ij b v hv
 !:=sb b o' iM
 rw[q]at this
 cases this
 #sg b o iM
def p9 {pins:O (J×Obj)}{σ:St}{H1:Hp}{s1:Shared}{h':Heap}{e:J}{cls:Value}{args:O Value}(I:Inv (cY (eD P w base) P w K mg base N qual scope f cd A outer s H E) pins σ H1 s1)(hx:Heap.MadeExcOf s1.heap h' e cls args)(q:E cls Z H1) :
   (cY (eD P w base) P w K mg base N qual scope f cd A outer s H E).xe (.ref e) {s1 with heap:=h'}:=by
 !vS:(cY (eD P w base) P w K mg base N qual scope f cd A outer s H E).stack=envOfC qual scope s.heap.objs.size f cd::outer:=rfl
 !fr:s1.heap.FunFrames base (envOfC qual scope s.heap.objs.size f cd::outer):=I.stack
 !frf:=I.n6
 rw[vS]at frf
 !hbase:∀b o,base.get? b=S o->s1.heap.get? b=S o:=I.bk
 !gj:Un (dH outer) [] H H1 s.heap s1.heap:=I.base
 !hex:∀b:J,b∉([]:O J):=λb z=>nomatch z
 !hloc:∀b o,s.heap.get? b=S o->b∉dH outer->b∉dH (envOfC qual scope s.heap.objs.size f cd::outer):=λb o hb hn hm=>by
   rcases List.mem_cons.mp (show b∈s.heap.objs.size::dH outer from hm)with z|z
   . #au (RD hb) (by rw[z];#SR _)
   . #hn z
 let B:=Sy s1.heap (dH (envOfC qual scope s.heap.objs.size f cd::outer))
 !bget:∀b o,s1.heap.get? b=S o->b∉dH (envOfC qual scope s.heap.objs.size f cd::outer)->B.get? b=S o:=λb o hb hn=>UZ _ hb hn
 !LZ:B.StaysIn s1.heap:=λb o hb=>U3 _ hb
 !stB:base.StaysIn B:=λb o hb=>bget b o (hbase b o hb) λhm=>by
   !:=(fr.mem hm).1
   rw[hb]at this
   cases this
 !Og:s1.heap.FunFrames B (envOfC qual scope s.heap.objs.size f cd::outer):=PySem.W.funFrames_hide fr λenv he a ha=>List.mem_filterMap.mpr ⟨env,he,ha⟩
 !oh:∀b u,H1 b=S u->∃o,B.get? b=S o:=λb u hu=>by
   @⟨o,ho⟩:=(I.hok b u hu).ex
   #⟨o,bget b o ho λhm=>?_⟩
   rw[frf b hm]at hu
   cases hu
 #wpAny_leaves_madeW (base:=B) (h:=s1.heap) (args:=args) I.ok.frames rfl LZ Og hx λh2 t x1 x2 x3 x4=>?_
 #⟨e,cls,.ref t,B,H1,U,I.os,I.bare,⟨λb o hb n hf y=>?_,λb o hb n hf y=>?_,λb o hb n y=>gj.free b o hb n (hex b),λb o hb y=>?_,gj.tups,gj.frzs,gj.tbls⟩,eR I.hok oh LZ x1.1,stB,x1,λb o hb hf=>?_,oh,?_,q⟩
 . #x1.1 b o (bget b o (gj.keep b o hb n hf (hex b)) (hloc b o hb hf))
 . @⟨sl,e1⟩:=gj.slot b o hb n hf (hex b)
   @⟨_,o2,jm,hd2⟩:=fr.mem (show b∈dH (envOfC qual scope s.heap.objs.size f cd::outer)from RC _ hf)
   rw[e1]at jm
   cases jm
   @⟨EA,e2⟩:=x4 b _ (hx.keeps b _ e1) hd2
   #⟨EA,e2⟩
 . @⟨o1,e1⟩:=gj.there b o hb (hex b)
   by_cases hm:b∈dH (envOfC qual scope s.heap.objs.size f cd::outer)
   . @⟨_,o2,jm,hd2⟩:=fr.mem hm
     @⟨EA,e2⟩:=x4 b _ (hx.keeps b _ jm) hd2
     #⟨_,e2⟩
   . #⟨o1,x1.1 b o1 (bget b o1 e1 hm)⟩
 . @⟨o1,e1⟩:=gj.there b o hb (hex b)
   #⟨o1,bget b o1 e1 (hloc b o hb hf)⟩
 . cases z:s.heap.get? e with
   | none=>rfl
   | some o=>
     @⟨o1,e1⟩:=gj.there e o z (hex e)
     rw[hx.new]at e1
     cases e1
def Hi {E':XK}(hE:∀c d H2,E' c d H2->E c d H2):Passes (eD P w base) (cY (eD P w base) P w K mg base N qual scope f cd A outer s H E) E':=by
 intro pins σ H1 s1 e s2 I cx
 @⟨ea,cls,a0,B,H2,rfl,DA,kh,iy,p6,stB,m6,ij,oh,Bm,q⟩:=cx
 !gj:Un (dH outer) [] H H1 s.heap s1.heap:=I.base
 !hex:∀b:J,b∉([]:O J):=λb z=>nomatch z
 !vS:(cY (eD P w base) P w K mg base N qual scope f cd A outer s H E).stack=envOfC qual scope s.heap.objs.size f cd::outer:=rfl
 rw[vS]at m6 iy ij
 !hloc:∀b o,s.heap.get? b=S o->b∉dH outer->b∉dH (envOfC qual scope s.heap.objs.size f cd::outer):=λb o hb hn hm=>by
   rcases List.mem_cons.mp (show b∈s.heap.objs.size::dH outer from hm)with z|z
   . #au (RD hb) (by rw[z];#SR _)
   . #hn z
 !Cu:=m6.2.2.1
 !sB2:=m6.1
 #wpAny_leaves_onW I.ok.frames rfl m6 λh3 x1 x2=>?_
 !GJ:∀b o,s.heap.get? b=S o->b∉dH outer->∃o',B.get? b=S o':=λb o hb hf=>by
   @⟨o1,e1⟩:=gj.there b o hb (hex b)
   #ij b o1 e1 (hloc b o hb hf)
 #⟨ea,cls,a0,B,H2,U,DA.trans I.os,kh,⟨λb o hb n hf y=>?_,λb o hb n hf y=>?_,λb o hb n y=>?_,λb o hb y=>?_,λb xs h=>iy.tups b xs (gj.tups b xs h),λb o u h=>iy.frzs b o u (gj.frzs b o u h),λb ps h=>?_⟩,eR p6 oh sB2 x1.1,stB,x1,GJ,oh,?_,hE _ _ _ q⟩
 . !e1:=gj.keep b o hb n hf (hex b)
   !n1:=gj.free b o hb n (hex b)
   !e2:=iy.keep b o e1 n1 (hloc b o hb hf) (hex b)
   @⟨o',iM⟩:=GJ b o hb hf
   !e3:=sB2 b o' iM
   rw[e2]at e3
   cases e3
   #x1.1 b o iM
 . @⟨sl,e1⟩:=gj.slot b o hb n hf (hex b)
   !n1:=gj.free b o hb n (hex b)
   @⟨EA,e2⟩:=iy.any e1 n1 (hex b)
   @⟨_,o2,jm,hd2⟩:=Cu.mem (show b∈dH (envOfC qual scope s.heap.objs.size f cd::outer)from RC _ hf)
   rw[e2]at jm
   cases jm
   @⟨Fj,e3⟩:=x2 b _ e2 hd2
   #⟨Fj,e3⟩
 . @⟨o1,e1⟩:=gj.there b o hb (hex b)
   #iy.free b o1 e1 (gj.free b o hb n (hex b)) (hex b)
 . @⟨o1,e1⟩:=gj.there b o hb (hex b)
   @⟨o2,e2⟩:=iy.there b o1 e1 (hex b)
   by_cases hm:b∈dH (envOfC qual scope s.heap.objs.size f cd::outer)
   . @⟨_,o3,KI,Kr⟩:=Cu.mem hm
     @⟨Fj,e3⟩:=x2 b _ KI Kr
     #⟨_,e3⟩
   . @⟨o',iM⟩:=ij b o1 e1 hm
     #⟨o',x1.1 b o' iM⟩
 . @⟨m1,e1⟩:=gj.tbls b ps h
   @⟨m2,e2⟩:=iy.tbls b _ e1
   #⟨m1++m2,by rw[e2,Vg]⟩
 . cases z:s.heap.get? ea with
   | none=>rfl
   | some o=>
     @⟨o1,e1⟩:=gj.there ea o z (hex ea)
     rw[Bm]at e1
     cases e1
end
abbrev vE:O Value:=[.type "ValueError",.type "Exception",.type "BaseException",.type "object"]
def mV (K:Ro)(C:J):Option (O Value):=match K.lookup C with
 | some ⟨_,_,.cls cd,_⟩=>S cd.mro
 | _=>Z
structure Xc (K:Ro)(mg:Str->Option Value)(x:Str)(C:J)(tl:O Value):Prop where
 m:mg x=S (.ref C)
 ex:VF K C vE "ValueError.__new__"=true
 mro:mV K C=S (.ref C::tl)
def Xc.obj {K:Ro}{mg:Str->Option Value}{x:Str}{C:J}{tl:O Value}{h:Heap}(c:Xc K mg x C tl)(hk:K.In h) :
   ∃N nm q bs hdct sn sub ab col dd k0 k1 k2 k3 k5 mN,h.get? C=S (excClassObj nm q C N bs tl hdct sn sub ab col dd k0 k1 k2 k3 k5 "ValueError.__new__")/\h.Ns N mN/\mN "__init__"=Z/\OwnTail h vE tl:=by
 !q:=c.ex
 !m:=c.mro
 unfold VF at q
 unfold mV at m
 split at q
 . rename_i od cd sl look
   rw[look]at m
   split at q
   . rename_i C' bm k0 k1 k2 k3 n k5 hm hs
     simp only[To,beq_iff_eq,Bool.not_eq_true']at q
     @⟨⟨⟨⟨⟨z1,z2⟩,Gg⟩,ht⟩,hok⟩,Jh⟩:=q
     subst z1 z2
     !m2:cd.mro=.ref C'::tl:=by injection m
     rw[hm]at m2
     !e1:bm=tl:=by injection m2
     subst e1
     @⟨nm,bs,mro,ns,qn,hd,sn,sub,ab,col,del⟩:=cd
     dsimp only at hm Gg hok Jh
     subst hm Gg
     !Pp:sl=#[k0,k1,k2,k3,S (.builtin "ValueError.__new__"),k5]:=by
       @⟨l⟩:=sl
       simp only at hs
       rw[hs]
     subst Pp
     #⟨ns,nm,qn,bs,hd,sn,sub,ab,col,od,k0,k1,k2,k3,k5,_,hk _ _ look,.of_isNs (PySem.W.isNs_of_in hk hok),PySem.W.nsMap_none_of_in hk hok Jh,PySem.W.tail_of_in hk ht⟩
   . cases q
 . cases q
abbrev TF:=St->Hp->(Hp->Prop)->Prop
def PF (X:Cx)(parts:O Expr)(n:Nat)(t:TF):Prop:=∀(pins:O (J×Obj)) (s:Shared) (σ:St) (H:Hp) (acc:Str) (k:Hp->Prop),Inv X pins σ H s->t σ H k->acc~+n*2000<=sizeLine ->
 Joins (model X.prog X.w) X.A X.xe (evalEach parts X.env) acc (λout s1=>out~<=sizeLine/\∃H',Inv X pins σ H' s1/\k H') s
def FX (x:V):Prop:=(∃i,x=.int i/\i.natAbs.log2<1920)\/∃y:Str,x=.str y/\y~<=2000
section
variable{X:Cx}{a:Expr}{ps:O Expr}{n:Nat}{t:TF}{te:TE}{pos:Pos}
def DT:PF X [] 0 (λz H k=>k H):=λpins s σ H acc k I h hl=>⟨by lia,H,I,h⟩
def DV {x:Str}{j}(hx:x~<=2000)(hr:PF X ps n t):PF X (.Constant (.str x) j pos::ps) (n+1) t:=by
 intro pins s σ H acc k I h hl
 !hp:=xq (X:=X) (x:=x) (j:=j) (pos:=pos) pins s σ H (λv H1=>v=.str x/\H1=H) I ⟨rfl,rfl⟩
 #bw hp λu s1 h9=>?_
 @⟨v,H1,I1,rv,e1,e2⟩:=h9
 subst e1 e2
 @⟨tk,rfl⟩:=rv
 !hlen:(acc++x)~=acc~+x~:=SU ..
 #⟨x,tk,U,by lia,hr pins s1 σ H1 (acc++x) k I1 h (by lia)⟩
def DW (ha:PE X a te)(hr:PF X ps n t):PF X (.FormattedValue a (-1) Z pos::ps) (n+1) (λσ H k=>te σ H λx H1=>FX x/\t σ H1 k):=by
 intro pins s σ H acc k I h hl
 #FormattedValue_plain (bw (ha pins s σ H _ I h) λu s1 h9=>?_)
 @⟨v,H1,I1,rv,fo,q⟩:=h9
 rcases fo with⟨i,rfl,hi⟩|⟨y,rfl,hy⟩
 . @⟨tk,rfl⟩:=rv
   #formatField_int_small hi ?_
   !h1:=int_text_length_le (k:=1920) (by left) hi
   !h2:(Rt (toString i))~<=1921:=by rw[T9];#h1
   !hlen:(acc++Rt (toString i))~=acc~+(Rt (toString i))~:=SU ..
   #⟨Rt (toString i),_,U,by lia,hr pins _ σ H1 _ k ((I1.tok _).tok _) q (by lia)⟩
 . @⟨tk,rfl⟩:=rv
   #formatField_str (λt' Rf=>?_) (Ry hy (by left))
   !hlen:(acc++y)~=acc~+y~:=SU ..
   #⟨y,_,U,by lia,hr pins _ σ H1 _ k (I1.tok _) q (by lia)⟩
def Aa {v1 v2:Expr}(h:PF X (v1::v2::ps) n t)(hn:n<=1000):PE X (.JoinedStr (v1::v2::ps) pos) (λσ H Q=>t σ H λH1=>∀x,Q (.str x) H1):=by
 intro pins s σ H Q I hq
 #PySem.wpAny_JoinedStr ?_
 !hz:(TR:Str)~+n*2000<=sizeLine:=by
   !:(TR:Str)~=0:=rfl
   !:(2000000:Nat)<=sizeLine:=by left
   lia
 !j:=h pins s σ H TR _ I hq hz
 !go:∀(l:O (Sem Value)) (acc:Str) (s:Shared),Joins (model X.prog X.w) X.A X.xe l acc (λout s1=>out~<=sizeLine/\∃H',Inv X pins σ H' s1/\∀x,Q (.str x) H') s->Joins (model X.prog X.w) X.A X.xe l acc (λout s1=>out~<=sizeLine/\EP X pins σ Q (.str out s1.toks) {s1 with toks:=s1.toks+1}) s:=by
   intro l
   induction l with
   | nil=>
     rintro acc s ⟨h1,H',I',q⟩
     #⟨h1,.str acc,H',I'.tok _,⟨_,U⟩,q acc⟩
   | cons x l ih=>
     intro acc s hj
     #bw hj λu s1 h9=>?_
     @⟨y,tk,e,hl,r⟩:=h9
     #⟨y,tk,e,hl,ih _ _ r⟩
 #go _ _ _ j
def yo (Ex:XK)(C:J)(ta:TA):TS:=λz σ H=>ta σ H λvs H1=>∃v,vs=[v]/\Ex (.ref C) Z H1
def j8 (X:Cx)(Ex:XK):Prop:=∀{pins:O (J×Obj)} {σ:St} {H:Hp} {s:Shared} {h':Heap} {e:J} {cls:Value} {args:O Value},Inv X pins σ H s->Heap.MadeExcOf s.heap h' e cls args->Ex cls Z H->X.xe (.ref e) {s with heap:=h'}
def xA {x:Str}{C:J}{tl:O Value}{Ex:XK}{ta:TA}{np cpos:Pos}(hx:j8 X Ex)(c:Xc X.K X.mg x C tl)(hb:tl.contains (.type "BaseException")=true)(hg:Gl X x)(hc:X.calm=true)(ha:qP X [a] ta)(hd:(x==("__debug__":Str))=false:=by left) :
   PS X (.Raise (S (.Call (.Name x np) [a] [] cpos)) Z pos) (yo Ex C ta):=by
 intro pins s σ H D I h
 @⟨N,nm,q,bs,hdct,sn,sub,ab,col,dd,k0,k1,k2,k3,k5,mN,hC,hN,Jh,T⟩:=c.obj I.ok.mod.kin
 #wpAny_Raise_call_subT (C:=C) (nm:=nm) (q:=q) (N:=N) (bs:=bs) (bm:=tl) (hdct:=hdct) (sn:=sn) (sub:=sub) (ab:=ab) (col:=col) (dd:=dd) (k0:=k0) (k1:=k1) (k2:=k2) (k3:=k3) (k5:=k5) PySem.F.excBase_ValueError (mN:=mN) hb (I.ok.hd hc)
   (by rw[(ha.ns a [] rfl).1.h [] X.env];#(ha.ns a [] rfl).2 cpos X.env) Jh (iP I hg c.m ⟨rfl,?_⟩ hd)
 !he:=(ha.ns a [] rfl).1.h [] X.env
 !h2:=ha.pa cpos pins s σ H _ I h
 rw[he]at h2 ⊢
 #TL (bw h2 λus s2 g9=>?_)
 @⟨vs,H1,I1,r,v,ev,q1⟩:=g9
 #⟨U,?_,I1.bk _ _ hC,hN.keeps I1.bk,T.keeps I1.bk,λh' e hm=>hx I1 hm q1⟩
 !h1:=r~
 rw[ev]at h1
 change us~<=sizeLine
 rw[← h1]
 #(by left:1<=sizeLine)
end
end L2
namespace L2
open PySem PySem.Spec PyProof.Rows PySem.W PySem.Builtin PySem.Builtin.ObjectAttr PySem.Builtin.Getset_descriptor
section
variable{prog:Program}{w:World}{A:Around}{E:Value->Shared->Prop}{s:Shared}{K:Frag}{x C:J}{ox:Obj}
def jD (x C:J)(h:Heap):Prop:=∃o,h.get? x=S o/\o.cls=.ref C
def jD.ty {x C:J}{h:Heap}{M8:Model}(p:jD x C h):Looks M8 h (typeOf (.ref x)) (.ref C):=by
 @⟨o,h1,h2⟩:=p
 #h2▸(Looks.ld h1).andThen .now
def yX {R:Result->Shared->Prop}{tp:Value}(X:K.In s.heap)(I:jD x C s.heap)(hm:mroIn K C (.type "object")=S true)
   (h:R (.ok (.ret (.ref C))) s):codeAny (model prog w) A (.call (.builtin "getset_descriptor.__get__") ⟨[.builtin "object.__class__",.ref x,tp],[]⟩) R s:=by
 @⟨hh,g,dr,t,os⟩:=s
 !q0:=I.ty (M8:=model prog w)
 !q1:=looks_mroIn (M:=model prog w) X hm
 #codeAny_call_builtin KF.slot_gs.plain KF.entry_gs (KF.slot_gs.check _ _ _ _ _ _ _ _ KF.type_class (KF.args_gs _ _ _) ?_)
 unfold Builtin.«getset_descriptor.__get__» descrGet
 rw[dga_obj]
 #wpAny_bind (wpAny_pure ?_)
 unfold descrGetter descrCheckInstance descrNameAndClass isInstance
 simp only[KF.owner_class]
 repeat lk
 #⟨Code.quiet_builtin _ (by right),Wb KF.entry_class ?_⟩
 unfold Builtin.«object.__class__» shownTypeOf
 repeat lk
 #h
def tI {tk:Tok}{P:Value->Shared->Prop}(X:K.In s.heap)(I:jD x C s.heap)(ha:findIn K (.ref C) "__class__"=S (S (.builtin "object.__class__")))(hn:specialIn K (.builtin "object.__class__") "__get__"=S (S (.builtin "getset_descriptor.__get__")))
   (htk:takesIn K (.builtin "object.__class__")=S true) (hm:mroIn K C (.type "object")=S true) (h:P (.ref C) s) :
   wpAny (model prog w) A (Builtin.«object.__getattribute__» ⟨[.ref x,.str "__class__" tk],[]⟩) (λfin s'=>∃v,fin=.done (.ret v)/\P v s') E s:=by
 @⟨hh,g,d,t,os⟩:=s
 !l0:=I.ty (M8:=model prog w)
 !l1:=looks_findIn (M:=model prog w) X ha
 !l2:=looks_specialIn (M:=model prog w) X hn
 !l3:=looks_takesIn (M:=model prog w) X htk
 unfold Builtin.«object.__getattribute__»
 #wpAny_bind (wpAny_pure ?_)
 dsimp only
 #wpAny_bind (wpAny_pure ?_)
 #wpAny_bind (l0.at ?_)
 #wpAny_bind ?_
 unfold Builtin.ObjectAttr.find
 #wpAny_bind (l1.at ?_)
 #wpAny_bind (l2.at ?_)
 #wpAny_bind (wpAny_bind (l3.at ?_))
 rw[dI rfl]
 #wpAny_pure ?_
 #wpAny_bind (wpAny_rule (wpAny_pure ?_))
 change wpAny _ _ (UW (.builtin "getset_descriptor.__get__") (.builtin "object.__class__") (.ref x) (.ref C)) _ _ _
 unfold UW
 dsimp only
 #wpAny_bind (wpAny_holding (wpAny_call (yX X I hm ?_)))
 #wpAny_pure ⟨_,U,h⟩
def tG {M8:Model}{Bk:Value}{Q:Unit->Shared->Prop}(X:K.In s.heap)(I:jD x C s.heap)(hb:mroIn K C (.type "BaseException")=S true)(h:Q () s) :
   wpAny M8 A (checkBuiltinCall "BaseException.__getattribute__" ⟨[.ref x,Bk],[]⟩) Q E s:=by
 @⟨hh,g,d,t,os⟩:=s
 !l0:=I.ty (M8:=M8)
 !l1:=looks_mroIn (M:=M8) X hb
 !kd:builtinKind "BaseException.__getattribute__"=S .slot:=by right
 !sp:splitId "BaseException.__getattribute__"=S ("BaseException","__getattribute__"):=by right
 !ar:=F.args_bexc_ga (.ref x) Bk
 simp only[checkBuiltinCall,kd,sp]
 unfold isInstance
 #wpAny_bind (wpAny_bind (l0.at (l1.at ?_)))
 repeat (first|show h|assumption|wp_step)
def tH {Q:Option Value->Shared->Prop}(X:K.In s.heap)(I:jD x C s.heap)(hga:findIn K (.ref C) "__getattribute__"=S (S (.builtin "BaseException.__getattribute__")))(hgn:findIn K (.ref C) "__getattr__"=S Z)
   (ha:findIn K (.ref C) "__class__"=S (S (.builtin "object.__class__"))) (hn:specialIn K (.builtin "object.__class__") "__get__"=S (S (.builtin "getset_descriptor.__get__"))) (htk:takesIn K (.builtin "object.__class__")=S true)
   (hm:mroIn K C (.type "object")=S true) (hb:mroIn K C (.type "BaseException")=S true) (h:Q (S (.ref C)) {s with toks:=s.toks+1}) :
   wpAny (model prog w) A (getAttr? (.ref x) "__class__") Q E s:=by
 @⟨hh,g,d,t,os⟩:=s
 !l0:=I.ty (M8:=model prog w)
 !l1:=looks_findIn (M:=model prog w) X hga
 !l2:=looks_findIn (M:=model prog w) X hgn
 unfold getAttr? getAttrBy? getAttrBy
 #wpAny_bind (wpAny_mkText (wpAny_bind (wpAny_attempt (wpAny_holding (wpAny_bind (l0.at (wpAny_bind (l1.at ?_))))))))
 dsimp only
 rw[dh (λz=>by rw[show(Value.builtin "BaseException.__getattribute__" == Value.builtin "object.__getattribute__")=false by right,Bool.and_false]at z;cases z)]
 unfold getAttrByItsOwn hookBefore
 rw[dI (show onTheHeap (R6 C)=true by rfl)]
 #wpAny_bind (l2.at ?_)
 #wpAny_bind (wpAny_attempt (wpAny_holding ?_))
 change wpAny _ _ (boundAndCalled (.builtin "BaseException.__getattribute__") (.ref x) (.str "__class__" t)) _ _ _
 unfold boundAndCalled
 rw[F.attr_ValueError.ga.bind (.ref x)]
 #wpAny_bind (wpAny_pure ?_)
 #wpAny_call (codeAny_call_builtin F.attr_ValueError.ga.plain F.entry_bexc_ga (tG (s:=⟨hh,g,d,t+1,os⟩) X I hb ?_))
 #wpAny_mono (tI (s:=⟨hh,g,d,t+1,os⟩) X I ha hn htk hm (P:=λv s'=>v=.ref C/\s'=⟨hh,g,d,t+1,os⟩) ⟨U,U⟩) (λfin s' z=>?_) λy y z=>z
 @⟨v,rfl,rfl,rfl⟩:=z
 change wpAny (model prog w) A (handedOut (.ref C)) _ _ _
 #handed_on rfl (wpAny_pure h)
structure qQ (K:Frag)(C:J):Prop where
 ga:findIn K (.ref C) "__getattribute__"=S (S (.builtin "BaseException.__getattribute__"))
 gn:findIn K (.ref C) "__getattr__"=S Z
 ha:findIn K (.ref C) "__class__"=S (S (.builtin "object.__class__"))
 hn:specialIn K (.builtin "object.__class__") "__get__"=S (S (.builtin "getset_descriptor.__get__"))
 htk:takesIn K (.builtin "object.__class__")=S true
 hm:mroIn K C (.type "object")=S true
 hb:mroIn K C (.type "BaseException")=S true
 hc:(clsIn K C).isSome=true
def kH (k:qQ K C):KitX K (.ref x) (.ref C) (jD x C) where
 ty:=λw w w I=>I.ty
 it:=λw w X w=>by
   @⟨cd,e⟩:=Option.isSome_iff_exists.mp k.hc
   unfold clsIn at e
   split at e
   . rename_i c' d' NV Lj look
     intro A' Q' E' s' st q
     unfold isType loadHead
     #wpAny_bind (wpAny_loadPart (st _ _ (X _ _ look)) (wpAny_pure q))
   . cases e
 ne:=λh tp dd its n sl X Pu=>by
   @⟨cd,e⟩:=Option.isSome_iff_exists.mp k.hc
   #Bool.eq_false_iff.mpr λq=>?_
   !z:C=tp:=Value.ref.inj (beq_iff_eq.mp q)
   subst z
   unfold clsIn at e
   split at e
   . rename_i c' d' NV Lj look
     !y:=(X _ _ look).symm.trans Pu
     cases y
   . cases e
 ca:=λX I q=>tH X I k.ga k.gn k.ha k.hn k.htk k.hm k.hb q
end
def yq {fs:O J}{H1 H2:Hp}{h1 h2 h3 B:Heap}(u:Un fs [] H1 H2 h1 h2)(s2:B.StaysIn h2)(s3:B.StaysIn h3)(ij:∀b o,h1.get? b=S o->b∉fs->∃o',B.get? b=S o')
   (sl:∀b o,b∈fs->h2.get? b=S o->∃x,h3.get? b=S {o with slots:=x}):Un fs [] H1 H2 h1 h3:=by
 !hex:∀b:J,b∉([]:O J):=λb z=>nomatch z
 #⟨λb o hb n hf w=>?_,λb o hb n hf w=>?_,λb o hb n w=>u.free b o hb n (hex b),λb o hb w=>?_,u.tups,u.frzs,u.tbls⟩
 . !e2:=u.keep b o hb n hf (hex b)
   @⟨o',iM⟩:=ij b o hb hf
   !e3:=s2 b o' iM
   rw[e2]at e3
   cases e3
   #s3 b o iM
 . @⟨x,e2⟩:=u.slot b o hb n hf (hex b)
   @⟨y,e3⟩:=sl b _ hf e2
   #⟨y,e3⟩
 . by_cases hm:b∈fs
   . @⟨o2,e2⟩:=u.there b o hb (hex b)
     @⟨y,e3⟩:=sl b _ hm e2
     #⟨_,e3⟩
   . @⟨o',iM⟩:=ij b o hb hm
     #⟨o',s3 b o' iM⟩
def ya {h2 h3 B:Heap}{l:O Env}(fr:h2.FunFrames B l)(x:h2.UpToSlots h3):∀b o,b∈dH l->h2.get? b=S o->∃y,h3.get? b=S {o with slots:=y}:=λb o hm ho=>by
 @⟨_,o2,jm,hd2⟩:=fr.mem hm
 rw[ho]at jm
 cases jm
 #x b o ho hd2
def yw (ea C:J):HO:=.ext (jD ea C)
def Cq {P:Program}{w:World}{H:Hp}{h:Heap}{ea C:J}(x:jD ea C h):bB P w H h ea (yw ea C):=by
 @⟨o,h1,h2⟩:=id x
 #⟨x,⟨o,h1⟩,λg1 g2 ⟨o',a,b⟩ k=>⟨o',k _ a,b⟩⟩
section
variable{X:Cx}{pins:O (J×Obj)}{σ:St}{H:Hp}{s:Shared}{ea C:J}
def Inv.IH (I:Inv X pins σ H s)(n:H ea=Z)(x:jD ea C s.heap)(n0:X.s₀.heap.get? ea=Z)(nl:ea≠X.env.locals)(nc:∀y c,X.env.cells.lookup y=S c->c≠ea)(np:∀p∈X.pn++pins,p.1≠ea):Inv X pins σ (upd H ea (yw ea C)) s:=by
 !ne:∀b u,H b=S u->b≠ea:=λb u e z=>by rw[z,n]at e;cases e
 !k:∀b u,H b=S u->(upd H ea (yw ea C)) b=S u:=λb u e=>by rw[ah (ne b u e)];#e
 #⟨I.ok,I.os,I.bare,⟨I.base.keep,I.base.slot,λb o e m hx=>?_,I.base.there,λb xs e=>k _ _ (I.base.tups b xs e),λb o u e=>k _ _ (I.base.frzs b o u e),λb ps e=>?_⟩,I.loc,I.cell,?_,λy c e=>?_,λp hp=>?_,λb u e=>?_,I.len⟩
 . rw[ah (λz=>by rw[z,n0]at e;cases e)]
   #I.base.free b o e m hx
 . @⟨more,e1⟩:=I.base.tbls b ps e
   #⟨more,k _ _ e1⟩
 . rw[ah (Ne.symm nl)]
   #I.free
 . rw[ah (nc y c e)]
   #I.freeC y c e
 . @⟨a1,a2,a3,a4,a5⟩:=I.pin p hp
   #⟨a1,by rw[ah (np p hp)];#a2,a3,a4,a5⟩
 . by_cases hb:b=ea
   . subst hb
     rw[ae]at e
     cases e
     #Cq x
   . rw[ah hb]at e
     #(I.hok b u e).cn (λc v w q=>q) (λc q=>k _ _ q) λc xs q=>k _ _ q
end
section
variable{M8:Model}{A:Around}{E:Value->Shared->Prop}{s:Shared}{nm q:Str}{C N:J}{bs bm:O Value}{hdct:Bool}{sn:O Str}{sub:O Value}{ab:Bool}{col:Option Bool}{dd:Option J}{k0 k1 k2 k3 k5:Option Value}{newId:String}
 {Qg q':Str} {T N':J} {bs' JJ:O Value} {Gf:Bool} {Qw:O Str} {Lo:O Value} {NL:Bool} {JN:Option Bool} {yU:Option J} {j0 j1 j2 j3 j5:Option Value} {C8:String}
def qe {h:Heap}{g:Array GenState}{d:Drawn}{t:Nat}{os:OsState}{e:J}{oe:Obj}{Q:Bool->Shared->Prop}(hC:h.get? C=S (excClassObj nm q C N bs bm hdct sn sub ab col dd k0 k1 k2 k3 k5 newId))(hT:h.get? T=S (excClassObj Qg q' T N' bs' JJ Gf Qw Lo NL JN yU j0 j1 j2 j3 j5 C8))
   (he:h.get? e=S oe) (hcls:oe.cls=.ref C) (hup:(R6 C::bm).contains (.ref T)=true) (hbase:JJ.contains (.type "BaseException")=true) (hq:Q true ⟨h,g,d,t,os⟩):wpAny M8 A (excMatches (.ref e) (.ref T)) Q E ⟨h,g,d,t,os⟩:=by
 !OS:(R6 T::JJ).contains (.type "BaseException")=true:=by rw[List.contains_cons,hbase,Bool.or_true]
 !f:=tc_notTuple
 unfold excMatches
 repeat (first|(with_reducible show wpAny_loadPart_at he ?_;rw[hcls])|with_reducible show wpAny_loadPart_at hT ?_|(with_reducible show wpAny_isSubtype_exc hT ?_;rw[OS])|(with_reducible show wpAny_isSubtype_exc hC ?_;rw[hup])|wp_step)
 #hq
end
section
variable{X:Cx}{pins:O (J×Obj)}{σ:St}{H:Hp}{s:Shared}
def Inv.forget {σ':St}{h':Heap}{t':Nat}{m:Str->Option Value}{en:Str}{v:Option Value}(I:Inv X pins σ H s)(hm:∀(i:Nat) (x:Str) (v:V),X.N[i]?=S x->σ[i]?=S (S v)->IY X.env.scope x->∃u,RelV v u/\Look X.env s.heap m x u)
   (hn':h'.Ns X.env.locals (λx=>if x=en then v else m x)) (hs:Sz X.env.locals s.heap h') (hl:σ'.length=σ.length) (hw:∀(i:Nat) v,σ'[i]?=S (S v)->σ[i]?=S (S v)/\X.N[i]?≠S en):Inv X pins σ' H {s with heap:=h',toks:=t'}:=by
 !neL:∀b o,X.s₀.heap.get? b=S o->b≠X.env.locals:=λb o e=>R1 (RJ (RD e) I.ok.above)
 #⟨I.ok,I.os,I.bare,⟨λb o e n hb hx=>?_,λb o e n hb hx=>?_,I.base.free,λb o e hx=>?_,I.base.tups,I.base.frzs,I.base.tbls⟩,⟨_,hn',λj y v' e1 e2 e3=>?_⟩,λy c e=>?_,I.free,I.freeC,λp hp=>?_,λb u e=>?_,hl.trans I.len⟩
 . #(hs.2 b (neL b o e)).trans (I.base.keep b o e n hb hx)
 . @⟨sl,e1⟩:=I.base.slot b o e n hb hx
   #⟨sl,(hs.2 b (neL b o e)).trans e1⟩
 . @⟨o',e1⟩:=I.base.there b o e hx
   #⟨o',(hs.2 b (neL b o e)).trans e1⟩
 . @⟨w1,w2⟩:=hw j v' e2
   @⟨u,r,l⟩:=hm j y v' e1 w1 e3
   #⟨u,r,?_⟩
   rcases l with⟨k,e⟩|⟨k,c,e,z⟩
   . #.inl ⟨k,?_⟩
     !:y≠en:=λz=>w2 (by rw[e1,z])
     change(if y=en then v else m y)=S u
     rw[dh this]
     #e
   . #.inr ⟨k,c,e,z.sameBut hs (I.yS y c e)⟩
 . @⟨w',z⟩:=I.cell y c e
   #⟨w',z.sameBut hs (I.yS y c e)⟩
 . @⟨e,n,ne,nf,d⟩:=I.pin p hp
   #⟨(hs.2 p.1 ne).trans e,n,ne,nf,d⟩
 . !oK:=I.free
   #(I.hok b u e).cn (λc w' hc q=>(hs.2 c ?_).trans q) (λw q=>q) λw w q=>q
   intro z
   rcases hc with hc|hc
   . rw[hc]at z
     rw[z,oK]at e
     cases e
   . rw[z,oK]at hc
     cases hc
def Inv.other {W:Value->Shared->Prop}{pn iW:O (J×Obj)}(I:Inv X pins σ H s)(h:∀p∈pn++iW,p∈X.pn++pins):Inv {X with xe:=W,pn:=pn} iW σ H s:=
 ⟨⟨I.ok.mod,I.ok.kind,I.ok.glob,I.ok.blt,I.ok.above,I.ok.inj,I.ok.has,I.ok.cab,I.ok.hd,I.ok.frames,I.ok.stk,I.ok.exf,I.ok.bs,I.ok.bsz,I.ok.noex,I.ok.exfs,I.ok.ib,I.ok.frf⟩,I.os,I.bare,I.base,I.loc,I.cell,I.free,I.freeC,λp hp=>I.pin p (h p hp),I.hok,I.len⟩
def Inv.back {W:Value->Shared->Prop}{pn iW:O (J×Obj)}(I:Inv {X with xe:=W,pn:=pn} iW σ H s)(h:∀p∈X.pn++pins,p∈pn++iW):Inv X pins σ H s:=
 ⟨⟨I.ok.mod,I.ok.kind,I.ok.glob,I.ok.blt,I.ok.above,I.ok.inj,I.ok.has,I.ok.cab,I.ok.hd,I.ok.frames,I.ok.stk,I.ok.exf,I.ok.bs,I.ok.bsz,I.ok.noex,I.ok.exfs,I.ok.ib,I.ok.frf⟩,I.os,I.bare,I.base,I.loc,I.cell,I.free,I.freeC,λp hp=>I.pin p (h p hp),I.hok,I.len⟩
def Inv.mark {e:Option Value}(I:Inv X pins σ H s):Inv {X with A:=X.A.mark e,calm:=false,xe:=λy y=>False} pins σ H s:=
 ⟨⟨I.ok.mod,I.ok.kind,I.ok.glob,I.ok.blt,I.ok.above,I.ok.inj,I.ok.has,I.ok.cab,(λz=>nomatch z),I.ok.frames,I.ok.stk,I.ok.exf,I.ok.bs,I.ok.bsz,I.ok.noex,I.ok.exfs,I.ok.ib,I.ok.frf⟩,I.os,I.bare,I.base,I.loc,I.cell,I.free,I.freeC,I.pin,I.hok,I.len⟩
def Inv.unmark {e:Option Value}{σ':St}{H':Hp}{s':Shared}(I0:Inv X pins σ H s)(I:Inv {X with A:=X.A.mark e,calm:=false,xe:=λz z=>False} pins σ' H' s'):Inv X pins σ' H' s':=
 ⟨I0.ok,I.os,I.bare,I.base,I.loc,I.cell,I.free,I.freeC,I.pin,I.hok,I.len⟩
end
section
variable{P:Program}{w:World}{K:Ro}{mg:Str->Option Value}{base:Heap}
def cD.wU {x qual:Str}{st:Stmt}{f:J}{fd:RZ}{N ps:O Str}{k:Nat}{sp:Sp}(F:cD K x qual st f fd)(S8x:aC N ps (ao st))(len:∀vs H Q E,sp vs H Q E->vs~=ps~)
   (hbody:∀(cdv:Value) (A:Around) (outer:O Env) (s:Shared) (H:Hp) (vs:O V) (Q:VK) (E:XK),bY k (A.deeper (envOfC qual (ao st) s.heap.objs.size f cdv))->sp vs H Q E ->
     ∃t,lD (cY (eD P w base) P w K mg base N qual (ao st) f cdv A outer s H E) (ck st) t/\t {nx:=λz H'=>Q .bI H',rt:=Q} (start N vs) H):aY P w K mg base (eD P w base) (k+1) f fd ps sp:=by
 @⟨oc,od,kV,doc,pm,an,cdv,ct,osl,rfl,lk,hcd⟩:=F.ex
 #A2 lk hcd S8x len λA outer s H vs Q E hr hsp=>hbody cdv A outer s H vs Q E hr hsp
def cA {N:O Str}{qual:Str}{scope:Scope}{f:J}{cd:Value}{A:Around}{outer:O Env}{s:Shared}{H:Hp}{E:XK}:j8 (cY (eD P w base) P w K mg base N qual scope f cd A outer s H E) E:=λI hm q=>p9 I hm q
def iV {N:O Str}{qual:Str}{scope:Scope}{f:J}{cd:Value}{A:Around}{outer:O Env}{s:Shared}{H:Hp}{E:XK}:Passes (eD P w base) (cY (eD P w base) P w K mg base N qual scope f cd A outer s H E) E:=Hi λz z z h=>h
end
def HQ (K:Ro):O V->Hp->VK->Prop:=λxs H Q=>∃ea C b,H ea=S (yw ea C)/\qQ K C/\((∃D,xs=[.ref ea,.ref D]/\Rq K (.ref C) (.ref D)=S b)\/(∃n,xs=[.ref ea,.ty n]/\Rq K (.ref C) (.type n)=S b) \/
 (∃(t:J) (ds:O J),xs=[.ref ea,.ref t]/\H t=S (.tup (ds.map V.ref))/\Sv K (.ref C) (ds.map R6)=S b))/\Q (.bl b) H
theorem mF:∀{ds:O J} {its:O Value},Vals (ds.map V.ref) its->its=ds.map R6
 | [],_,.nil=>rfl
 | d::ds,_,.cons r t=>by rw[mF t,show _=R6 d from r];rfl
section
variable{X:Cx}
def vg:dz X (.builtin "isinstance") (HQ X.K):=by
 intro pins s σ H xs us Q I r h
 @⟨ea,C,b,Gh,k,cs,q⟩:=h
 !ex:jD ea C s.heap:=(show bB X.prog X.w H s.heap ea (yw ea C)from I.hok ea _ Gh).1
 rcases cs with⟨D,rfl,e⟩|⟨n,rfl,e⟩|⟨t,ds,rfl,ht,e⟩
 . @⟨u,v,rfl,ru,rv⟩:=Vals.two r
   obtain rfl:u=R6 ea:=ru
   obtain rfl:v=R6 D:=rv
   #PySem.W.kia_one (kH k) I.lM ex e (λz=>nomatch z) λtk=>⟨.bl b,H,I.tok tk,U,q⟩
 . @⟨u,v,rfl,ru,rv⟩:=Vals.two r
   obtain rfl:u=R6 ea:=ru
   obtain rfl:v=Vk n:=rv
   #PySem.W.kia_one (kH k) I.lM ex e (λz=>nomatch z) λtk=>⟨.bl b,H,I.tok tk,U,q⟩
 . @⟨u,v,rfl,ru,rv⟩:=Vals.two r
   obtain rfl:u=R6 ea:=ru
   obtain rfl:v=R6 t:=rv
   @⟨_,its,rl,o,h1,h2,n,h3⟩:=(show bB X.prog X.w H s.heap t (.tup (ds.map V.ref))from I.hok t _ ht)
   rw[mF rl]at h3
   @⟨oc,od,Qj,osl⟩:=o
   simp only at h2 h3
   subst h2 h3
   #PySem.W.kia_tup (kH k) I.lM ex h1 e (λz=>nomatch z) λtk=>⟨.bl b,H,I.tok tk,U,q⟩
end
def js {a p}:bL (.JoinedStr a p):=fK λy y z=>nomatch z
end L2
namespace TW
open PySem L2
def bQ (P:Program)(w:World)(K:Ro)(mg:Str->Option Value)(base:Heap)(x:Str)(ps:O Str)(k:Nat)(sp:Sp):Prop:=
 ∃f fd,aY P w K mg base (eD P w base) k f fd ps sp/\Tf K (.ref f)=true/\Binds K fd ps []/\mg x=S (.ref f)
def bQ.mono {P:Program}{w:World}{K:Ro}{mg:Str->Option Value}{base:Heap}{x:Str}{ps:O Str}{j k:Nat}{sp:Sp}(h:bQ P w K mg base x ps j sp)(hk:j<=k):bQ P w K mg base x ps k sp:=
 let⟨f,fd,a,b,c,d⟩:=h;⟨f,fd,a.mono hk,b,c,d⟩
end TW
namespace L3
open PySem PySem.Spec PyProof.Rows L2
structure EZ (X:Cx)(ps:O Expr)(n:Nat)(t:TF):Prop where
 h:PF X ps n t
section
variable{X:Cx}{a b c e o:Expr}{es:O Expr}{ta tb tc te:TE}{t:TA}{tf:TF}{pos:Pos}{n:Nat}
def fn:EZ X [] 0 (λz H k=>k H):=⟨DT⟩
def fs {x:Str}{j}(hr:EZ X es n tf)(hx:x~<=2000:=by left):EZ X (.Constant (.str x) j pos::es) (n+1) tf:=⟨DV hx hr.h⟩
def fv (ha:SE X a ta)(hr:EZ X es n tf):EZ X (.FormattedValue a (-1) Z pos::es) (n+1) (λσ H k=>ta σ H λx H1=>FX x/\tf σ H1 k):=⟨DW ha.h hr.h⟩
def Cw (h:EZ X (a::b::es) n tf)(hn:n<=1000:=by left):SE X (.JoinedStr (a::b::es) pos) (λσ H Q=>tf σ H λH1=>∀x,Q (.str x) H1):=⟨Aa h.h hn⟩
def dN {x:Str}{C:J}{tl:O Value}{Ex:XK}{np cpos:Pos}(hx:j8 X Ex)(cc:Xc X.K X.mg x C tl)(hb:tl.contains (.type "BaseException")=true)(hg:Gl X x)(ha:SA X [a] t)(hc:X.calm=true:=by rfl)(hd:(x==("__debug__":Str))=false:=by left) :
   SS X (.Raise (S (.Call (.Name x np) [a] [] cpos)) Z pos) (yo Ex C t):=⟨xA hx cc hb hg hc ha.h hd⟩
def kO {x:Str}{p:Pos}{ps:O Str}{kk:Nat}{sp:Sp}{Ex:XK}(hp:Passes (eD X.prog X.w X.base) X Ex)(D:TW.bQ X.prog X.w X.K X.mg X.base x ps kk sp)(hr:bY kk X.A)(hg:Gl X x)(ha:SA X (e::es) t)(hdb:(x==("__debug__":Str))=false:=by left) :
   SE X (.Call (.Name x p) (e::es) [] pos) (sA sp [] Ex t):=by
 @⟨_,_,G,kp,b,m⟩:=D
 #⟨rL G hr hg m kp b .nil hp ha.h.pa hdb ((ha.h.ns e es rfl).1.h es X.env) ((ha.h.ns e es rfl).2 pos X.env)⟩
def fu {KK:Ro}(hK:X.K=KK:=by first|show br|rfl):SC X (.builtin "isinstance") (HQ KK):=by
 subst hK
 #⟨vg⟩
end
end L3
namespace L2
open PySem PySem.Spec PyProof.Rows
end L2
namespace L3
open PySem PySem.Spec PyProof.Rows L2
end L3
namespace L2
open PySem PySem.Spec PyProof.Rows
def l9 (nm:Nat->Str):Nat->Nat
 | 0=>0
 | i+1=>if gy nm i (nm i)then l9 nm i else l9 nm i+1
theorem mY (nm:Nat->Str):∀i,l9 nm i<=i
 | 0=>Rz 0
 | i+1=>by
   !:=mY nm i
   change(if gy nm i (nm i)then l9 nm i else l9 nm i+1)<=i+1
   split<;>lia
theorem qV {nm:Nat->Str}{n:Nat}(inj:∀a b,a<n->b<n->nm a=nm b->a=b):∀i,i<=n->l9 nm i=i
 | 0,_=>rfl
 | i+1,h=>by
   change(if gy nm i (nm i)then l9 nm i else l9 nm i+1)=i+1
   rw[wj inj (show i<n by lia),qV inj i (by lia)]
   rfl
theorem vo {nm:Nat->Str}{a b:Nat}(hab:a<b)(e:nm b=nm a):∀n,b<n->l9 nm n<n
 | 0,h=>by lia
 | n+1,h=>by
   change(if gy nm n (nm n)then l9 nm n else l9 nm n+1)<n+1
   by_cases hb:b=n
   . subst hb
     !:gy nm b (nm b)=true:=by
       unfold gy
       rw[Vw]
       #⟨a,List.mem_range.mpr hab,hW e⟩
     rw[this]
     !:=mY nm b
     change l9 nm b<b+1
     lia
   . !:=vo hab e n (by lia)
     split<;>lia
def mx {xs:O Str}:(xs.Nodup->l9 (λi=>xs.getD i "") xs~=xs~)/\(¬ xs.Nodup->l9 (λi=>xs.getD i "") xs~<xs~):=by
 constructor
 . intro nd
   #qV (n:=xs~) (λi j hi hj e=>?_) _ (Rz _)
   rw[TJ,TJ,RQ hi,RQ hj]at e
   by_cases lt:i<j
   . #au e ((List.pairwise_iff_getElem.mp nd) i j hi hj lt)
   . by_cases gt:j<i
     . #au e.symm ((List.pairwise_iff_getElem.mp nd) j i hj hi gt)
     . lia
 . intro nd
   !:∃a b,a<b/\b<xs~/\xs.getD b ""=xs.getD a "":=by
     #Vq λno=>nd (List.pairwise_iff_getElem.mpr λi j hi hj lt e=>no ⟨i,j,lt,hj,?_⟩)
     rw[TJ,TJ,RQ hi,RQ hj]
     #e.symm
   @⟨a,b,h1,h2,h3⟩:=this
   #vo (nm:=λi=>xs.getD i "") h1 h3 _ h2
section
variable{P:Program}{w:World}{A:Around}
def x6 {it:J}{own Fp:O J}{GG:Array GenState->Array GenState->Prop}{n:Nat}{Pv:Nat->Value->Prop}{Zt:Nat->Shared->Prop}{RR:Result->Shared->Prop}
   (wk:WalksS P w A.in1 it own Fp GG n Pv Zt) (z:J) (hz:z∉own) (nm:Nat->Str) (hnm:∀i v,Pv i v->∃t,v=Uq (nm i) t) (few:n+1<scanBound) :
   ∀(m i:Nat) (s:Shared),n-i=m->i<=n->Zt i s->s.heap.SetOf (strKind P w) z (gy nm i) (l9 nm i) ->
     (∀t,Moved (z::Fp) GG s t->t.heap.SetOf (strKind P w) z (gy nm n) (l9 nm n)->RR (.ok (.ret .none)) t)->codeAny (model P w) A (.builtin "set.update.loop" ⟨[.ref z,.ref it],[]⟩) RR s:=by
 intro m
 induction m using Nat.strongRecOn with
 | _ m ih=>
   intro i s hm hi zt so k
   !zw:z∉Fp:=λq=>hz (wk.sub _ q)
   !more:∀b∈Fp,b∈z::Fp:=λb q=>RC _ q
   !carry:∀{t:Shared} {S8x:Str->Bool} {c:Nat},Moved Fp GG s t->s.heap.SetOf (strKind P w) z S8x c->t.heap.SetOf (strKind P w) z S8x c:=λmv ⟨o,es,ep,tb,ho,rest⟩=>⟨o,es,ep,tb,mv.heap z _ zw ho,rest⟩
   #Wb PyProof.Rows.F.entry_set_update_loop ?_
   rw[Around.under_plainId Uu _]
   change wpAny _ A.in1 (pyNext (.ref it)>>=_) _ _ s
   by_cases oM:i<n
   . #wpAny_bind (wk.item i s _ _ oM zt λv t pv QO mv=>?_)
     @⟨tk,rfl⟩:=hnm i v pv
     change wpAny _ A.in1 (holding [Uq (nm i) tk] (setAdd z (.str (nm i) tk))>>=_) _ _ t
     #wpAny_bind (wpAny_holding ?_)
     unfold setAdd
     !sc:=carry mv so
     #wpAny_holding (wpAny_bind ((strKind P w).pyHash (k:=nm i) (strKind_is _ _ _ _) ?_))
     #wpAny_setAddHashed_of (knd:=strKind P w) (s:={t with toks:=t.toks+1}) (strKind_is _ _ _ _) rfl sc (by !:=mY nm i;lia) λg sb Qy=>?_
     !Qz:g.SetOf (strKind P w) z (gy nm (i+1)) (l9 nm (i+1)):=SetOf_congr Qy (λx=>(uc nm i x).symm) rfl
     #wpAny_pure ⟨plainId_quiet Uu _,ih (n-(i+1)) (by lia) (i+1) _ rfl oM (wk.frame _ t _ _ QO (Ve _) λb hb o e=>?_) Qz λt' Qb Qx=>?_⟩
     . rw[sb.2 b (λq:b=z=>hz (by rw[← q];#hb))]
       #e
     . #k t' (Moved.trans wk.gtrans ((mv.mono more).then_heap (Ve _) λb o hb e=>?_) Qb) Qx
       rw[sb.2 b (λq:b=z=>hb (by rw[q];#Ru))]
       #e
   . obtain rfl:i=n:=by lia
     #wpAny_bind (wk.done s _ _ zt λt mv=>?_)
     change wpAny _ A.in1 (ret SH) _ _ t
     #wpAny_pure (k t (mv.mono more) (carry mv so))
set_option maxHeartbeats 4000000 in
def vf {E:Value->Shared->Prop}{s:Shared}{l:J}{its:Array Value}{xs:O Str}{Q:Value->Shared->Prop}(free:A.handled=Z)(il:s.heap.IsList l its)(hx:∀i v,its[i]?=S v->∃t,v=Uq (xs.getD i "") t)(hlen:its.size=xs~)(few:its.size+1<scanBound)
   (k:∀(g:Heap) (tk:Nat),g.SetOf (strKind P w) s.heap.objs.size (gy (λi=>xs.getD i "") its.size) (l9 (λi=>xs.getD i "") its.size)->(∀b o,s.heap.get? b=S o->g.get? b=S o)->Q (.ref s.heap.objs.size) {s with heap:=g,toks:=tk}) :
   wpAny (model P w) A (call (.type "set") [.ref l]) Q E s:=by
 @⟨cc,tl,mro⟩:=F.called_set.mro
 !e1:=F.called_set.made
 !e2:=F.called_set.sub
 #wpAny_call (codeAny_of_tree ?_)
 change wpAny _ _ (callAny (.type "set") _) _ _ _
 #wpAny_pure ⟨Code.quiet_builtin _ (by right),Wb F.entry_type_call ?_⟩
 rw[Around.under_plain (weight_type_call_type "set" [.ref l] []) rfl]
 !e3:=F.called_set.notType
 !e4:=F.called_set.canCreate
 !e5:=F.typeCall_set_1 (.ref l)
 repeat (any_goals (first|assumption|wp_step))
 #codeAny_mono (code_set_new_1 (.ref l) (E:=E) (Q₁:=λob t=>∃b:Bool,ob=.ref s.heap.objs.size/\t={s with heap:=s.heap.push {cls:=.type "set",dict:=Z,data:=.set #[] 0 (.fresh 0 0 b)} }) λb=>⟨b,U,U⟩) λr t hr=>?_
 cases r with
 | error _=>#hr
 | ok fl=>
   cases fl with
   | ret ob=>
     @⟨b,rfl,rfl⟩:=hr
     !g0:(s.heap.push {cls:=.type "set",dict:=Z,data:=.set #[] 0 (.fresh 0 0 b)}).get? s.heap.objs.size=S {cls:=.type "set",dict:=Z,data:=.set #[] 0 (.fresh 0 0 b)}:=RK _ rfl
     !ty:Shared.TypeIs {s with heap:=s.heap.push {cls:=.type "set",dict:=Z,data:=.set #[] 0 (.fresh 0 0 b)} } (.ref s.heap.objs.size) "set":=⟨_,g0,rfl⟩
     !f1:=F.called_set.init.lookup
     !f2:=F.called_set.init.bind (.ref s.heap.objs.size)
     repeat (any_goals (first|assumption|wp_step))
     #codeAny_mono (codeAny_call_builtin (R:=wants (λr t=>r=.none/\∃g tk,t={s with heap:=g,toks:=tk}/\g.SetOf (strKind P w) s.heap.objs.size (gy (λi=>xs.getD i "") its.size) (l9 (λi=>xs.getD i "") its.size)/\∀c o,s.heap.get? c=S o->g.get? c=S o) E) F.called_set.init.plain F.entry_set_init (check_set_init_1 ty ?_)) λr2 t2 oN=>?_
     . @⟨⟨oc,od,Qj,osl⟩,ho,hc,nl,hd⟩:=il
       simp only at hc hd
       subst hc
       subst hd
       !iM:(s.heap.push {cls:=.type "set",dict:=Z,data:=.set #[] 0 (.fresh 0 0 b)}).get? l=S {cls:=.type "list",dict:=od,data:=.seq its nl,slots:=osl}:=Rr _ ho
       !n1:=F.sub_list_set
       !n2:=F.sub_list_frozenset
       !n3:(Vk "list" == Vk "dict")=false:=by left
       !MG:(s.heap.push {cls:=.type "set",dict:=Z,data:=.set #[] 0 (.fresh 0 0 b)}).IsList l its:=⟨_,iM,rfl,nl,rfl⟩
       unfold Builtin.«set.__init__» noKeywords Builtin.Frozenset.updateFrom
       generalize Ph:pyIter=Q4
       wp_walk
       subst Ph
       #UJ MG ?_
       #wpAny_bind (wpAny_runValue ?_)
       !ls:l<s.heap.objs.size:=RD ho
       !sz1:(s.heap.push {cls:=.type "set",dict:=Z,data:=.set #[] 0 (.fresh 0 0 b)}).objs.size=s.heap.objs.size+1:=Tr ..
       !a1:l≠(s.heap.push {cls:=.type "set",dict:=Z,data:=.set #[] 0 (.fresh 0 0 b)}).objs.size:=by rw[sz1];#R1 (Nat.lt_succ_of_lt ls)
       !a2:s.heap.objs.size∉[(s.heap.push {cls:=.type "set",dict:=Z,data:=.set #[] 0 (.fresh 0 0 b)}).objs.size,l]:=by
         rw[sz1]
         simp only[Sh,R4,or_false,not_or]
         #⟨R1 (Tq _),Tg ls⟩
       #x6 ((Walks.list (by simp[free]) _ l a1 its).toS) s.heap.objs.size a2 (λi=>xs.getD i "") hx few (its.size-0) 0 _ (by lia) (Sd _) ⟨⟨_,RK _ rfl,U,U⟩,MG.push _⟩ ?start ?stop
       case start=>
         #SetOf_congr ((setObjOf_fresh (knd:=strKind P w) b).setOf (Rr _ g0) (by unfold scanBound;lia)) (λz=>rfl) rfl
       case stop=>
         rintro⟨g,gg,dd,tk,os⟩ mv so
         obtain rfl:gg=s.gens:=mv.gens
         obtain rfl:dd=s.drawn:=mv.drawn
         obtain rfl:os=s.os:=mv.os
         change wpAny _ _ _ _ _ _
         #wpAny_pure ?_
         change wpAny _ _ (ret SH) _ _ _
         #wpAny_pure ⟨U,g,tk,U,so,λc o e=>?_⟩
         !lc:=RD e
         #mv.heap c o ?_ (Rr _ (Rr _ e))
         rw[sz1]
         simp only[Sh,R4,or_false,not_or]
         #⟨R1 lc,R1 (Nat.lt_succ_of_lt lc)⟩
     . cases r2 with
       | error _=>#oN
       | ok L9=>
         cases L9 with
         | ret r=>
           @⟨rfl,g,tk,rfl,so,kk⟩:=oN
           repeat (any_goals (first|assumption|wp_step))
           #k _ _ so kk
         | _=>#oN.elim
   | _=>#hr.elim
end
section
variable{X:Cx}{a:Expr}{ta:TA}{p1 p2 pos da:Pos}
def pk (K:Ro)(ta:TA):TE:=λσ H Q=>ta σ H λvs H1=>∃(l:J) (xs:O Str),vs=[.ref l]/\aH K H1 l (xs.map V.str)/\xs~<=1000/\∀n:Nat,(xs.Nodup->n=xs~)->(¬ xs.Nodup->n<xs~)->Q (.int n) H1
def qr (hc:X.calm=true)(hg1:Gl X "len")(hm1:X.mg "len"=Z)(hg2:Gl X "set")(hm2:X.mg "set"=Z)(ha:qP X [a] ta)(hv2:SJ "set"=S (.type "set"):=by first|rfl|decide +kernel) :
   PE X (.Call (.Name "len" p1) [.Call (.Name "set" p2) [a] [] da] [] pos) (pk X.K ta):=by
 intro pins s σ H Q I h
 #wpAny_Call_Name_kw (fF I hg1 hm1 RG ?_ (by left) (by left))
 #U0 ?_ rfl rfl
 change wpAny _ _ (spliced ((false,eval (.Call (.Name "set" p2) [a] [] da) X.env)::[])) _ _ s
 #Su (wpAny_Call_Name_kw (fF I hg2 hm2 hv2 ?_ (by left) (by left)))
 #SY (bw (ha.pa da pins s σ H _ I h) λus s1 h9=>?_) ((ha.ns a [] rfl).1.h [] X.env) rfl
 @⟨vs,H1,I1,r1,q1⟩:=h9
 @⟨l,xs,rfl,hq,Mi,q⟩:=q1
 @⟨u,rfl,ru⟩:=vals1 r1
 obtain rfl:u=R6 l:=ru
 @⟨its,rv,pl,hz⟩:=I1.list hq
 !hl:=rv~
 rw[Rn]at hl
 #vf (xs:=xs) (I1.ok.hd hc) pl.isList (λi v e=>sj rv (by simpa using e)) (by simp;lia) (by unfold scanBound;simp;lia) λg tk so kk=>?_
 !I2:Inv X pins σ H1 {s1 with heap:=g,toks:=tk}:=I1.kept kk
 #Tc ?_
 @⟨o,es,ep,t,ho,hex,hd,_,_,hb,hf,hn⟩:=so
 #call_len_set (s:={s1 with heap:=g,toks:=tk}) ho hex hd hf (by rw[hn];!:=mY (λi=>xs.getD i "") its.toArray.size;simp at this ⊢;lia) ?_
 #⟨.int (l9 (λi=>xs.getD i "") xs~:Nat),H1,I2.tok _,⟨tk+1,by rw[hn,RH,hl]⟩,q _ mx.1 mx.2⟩
end
end L2
namespace L3
open PySem PySem.Spec PyProof.Rows L2
section
variable{X:Cx}{a b c e o:Expr}{es:O Expr}{ta tb tc te:TE}{t:TA}{pos:Pos}
def rG {a:Expr}{t:TA}{p1 p2 pos da:Pos}{KK:Ro}(hg1:Gl X "len")(hm1:X.mg "len"=Z)(hg2:Gl X "set")(hm2:X.mg "set"=Z)(ha:SA X [a] t)(hc:X.calm=true:=by rfl)(hK:X.K=KK:=by first|show br|rfl) :
   SE X (.Call (.Name "len" p1) [.Call (.Name "set" p2) [a] [] da] [] pos) (pk KK t):=by
 subst hK
 #⟨qr hc hg1 hm1 hg2 hm2 ha.h⟩
end
end L3
namespace L2
open PySem PySem.Spec PyProof.Rows
end L2
namespace L3
open PySem PySem.Spec PyProof.Rows L2
end L3
namespace L2
open PySem PySem.Spec PyProof.Rows
end L2
namespace L3
open PySem PySem.Spec PyProof.Rows L2
end L3
namespace TW
end TW
namespace L3
open PySem PySem.Spec PyProof.Rows L2
section
variable{X:Cx}{a b o i value:Expr}{ta tb td ty tv:TE}{pos:Pos}
def ql {KK:Ro}(hK:X.K=KK:=by first|show br|rfl):SO X (binaryOp .Add) (Bu KK):=by
 subst hK
 #⟨zV⟩
end
end L3
namespace L2
open PySem PySem.Spec PyProof.Rows
def Bt:R2:=λx y H Q=>∃a b:Str,x=.str a/\y=.str b/\a~+b~<=sizeLine/\Q (.str (a++b)) H
def zU {X:Cx}:gC X (binaryOp .Add) Bt:=by
 intro pins s σ H x y u v Q I rx ry h
 @⟨a,b,rfl,rfl,hl,q⟩:=h
 @⟨t,rfl⟩:=rx
 @⟨t2,rfl⟩:=ry
 #PyProof.Rows.add_str (λt' tk=>⟨.str (a++b),H,I.tok _,⟨_,U⟩,q⟩) hl
end L2
namespace L3
open PySem PySem.Spec PyProof.Rows L2
section
variable{X:Cx}{a b c e o:Expr}{es:O Expr}{ta tb tc te:TE}{t:TA}{pos:Pos}
def BH {KK:Ro}{p2:Pos}(ha:SE X a ta)(hb:SE X b tb)(hc:SE X c tc)(hK:X.K=KK:=by first|show br|rfl):SE X (.Subscript a (.Slice (S b) (S c) Z p2) pos) (EM (As KK) ta (jc tb) (jc tc)):=by
 subst hK
 #⟨eP nY ha.h (d8 hb.h) (d8 hc.h)⟩
def bj:SO X (binaryOp .Add) Bt:=⟨zU⟩
end
end L3
namespace L2
open PySem PySem.Spec PyProof.Rows
end L2
namespace L3
open PySem PySem.Spec PyProof.Rows L2
end L3
namespace PySem
open Sem (wp)
end PySem
namespace PySem
open Sem (wp)
open AutoSeq1 (wpAny_loadPart')
end PySem
namespace L2
open PySem PySem.Spec PyProof.Rows
end L2
namespace L3
open PySem PySem.Spec PyProof.Rows L2
end L3
namespace L2
open PySem PySem.Spec PyProof.Rows
section
variable{X:Cx}{pos:Pos}
theorem rC:∀{ns:O Int} {us:O Value},Vals (ns.map V.int) us->∃l:O (Int×Tok),us=l.map (λp=>UL p.1 p.2)/\l.map (·.1)=ns
 | [],_,.nil=>⟨[],rfl,rfl⟩
 | n::ns,_,.cons r q=>by
   @⟨t,rfl⟩:=r
   @⟨l,rfl,rfl⟩:=rC q
   #⟨(n,t)::l,U,U⟩
def sV (hc:X.calm=true):dz X (.builtin "sum") (λxs H Q=>∃(l:J) (ns:O Int),xs=[.ref l]/\aH X.K H l (ns.map V.int)/\Q (.int ns.sum) H):=by
 intro pins s σ H xs us Q I r h
 @⟨l,ns,rfl,hq,q⟩:=h
 @⟨u,rfl,ru⟩:=vals1 r
 obtain rfl:u=R6 l:=ru
 @⟨its,rv,pl,_⟩:=I.list hq
 @⟨ps,e1,e2⟩:=rC rv
 !hl:s.heap.IsList l (intItems ps.toArray):=by
   !:=pl.isList
   rw[e1]at this
   simpa[intItems]using this
 #sum_intListG (I.ok.hd hc) hl λh' tk t' k=>⟨.int ns.sum,H,I.kept k,⟨t',?_⟩,q⟩
 !e3:preSum (numAt ps.toArray) ps.toArray.size=ns.sum:=by
   rw[preSum_eq,UI (by simp),← e2]
 rw[e3]
end
end L2
namespace L3
open PySem PySem.Spec PyProof.Rows L2
section
variable{X:Cx}{a b c e o:Expr}{es:O Expr}{ta tb tc te:TE}{t:TA}{pos:Pos}
def FN {KK:Ro}(hc:X.calm=true:=by rfl)(hK:X.K=KK:=by first|show br|rfl):SC X (.builtin "sum") (λxs H Q=>∃(l:J) (ns:O Int),xs=[.ref l]/\aH KK H l (ns.map V.int)/\Q (.int ns.sum) H):=by
 subst hK
 #⟨sV hc⟩
end
end L3
namespace TW
end TW
namespace L2
open PySem PySem.Spec PyProof.Rows SeqAt
end L2
namespace L3
open PySem PySem.Spec PyProof.Rows L2
end L3
namespace TW
end TW
namespace TW
end TW
namespace L2
open PySem PySem.Spec PyProof.Rows
end L2
namespace L3
open PySem PySem.Spec PyProof.Rows L2
end L3
namespace L2
open PySem PySem.Spec PyProof.Rows SeqAt
section
variable{K:Ro}{H:Hp}{α:Type}[DecidableEq α]{At:V->α->Prop}{n:Nat}
theorem kP:∀{vx vy:O V} {xs ys:O α},Paired At vx xs->Paired At vy ys->vx~=vy~->(∀u v x y,At u x->At v y->EB K H n u v (decide (x=y))) ->
   ∃e:Nat->Bool,(∀j x y,vx[j]?=S x->vy[j]?=S y->EB K H n x y (e j))/\(TH vx~).all e=decide (xs=ys)
 | [],[],_,_,.nil,.nil,_,_=>⟨λz=>true,(λj x y h=>by cases j<;>cases h),rfl⟩
 | u::vx,v::vy,x::xs,y::ys,.cons h1 r1,.cons h2 r2,hl,k=>by
   @⟨e,he,ha⟩:=kP r1 r2 (by simpa using hl) k
   #⟨λj=>match j with|0=>decide (x=y)|j+1=>e j,λj a b hx hy=>?_,?_⟩
   . cases j with
     | zero=>
       cases hx
       cases hy
       #k u v x y h1 h2
     | succ j=>#he j a b hx hy
   . rw[RE,List.range_succ_eq_map,V9,List.all_map]
     change(decide (x=y)&&(TH vx~).all e)=_
     rw[ha]
     by_cases c:x=y<;>by_cases d:xs=ys<;>simp[c,d]
def RB.told {a b:J}{vx vy:O V}{xs ys:O α}(ha:H a=S (.lst vx))(hb:H b=S (.lst vy))(px:Paired At vx xs)(py:Paired At vy ys)(k:∀u v x y,At u x->At v y->EB K H n u v (decide (x=y))):RB K H n (.ref a) (.ref b) (decide (xs=ys)):=by
 !lx:=Paired.length px
 !ly:=Paired.length py
 by_cases hl:vx~=vy~
 . @⟨e,h1,h2⟩:=kP px py hl k
   #⟨a,b,_,_,U,U,.inl ⟨e,aH.of ha,aH.of hb,hl,h1,h2.symm⟩⟩
 . #⟨a,b,_,_,U,U,.inr (.inl ⟨aH.of ha,aH.of hb,hl,gv λz=>hl (by rw[lx,ly,z])⟩)⟩
end
theorem fL {α:Type}(c:α->V):∀xs:O α,Paired (λv x=>v=c x) (xs.map c) xs
 | []=>.nil
 | _::r=>.cons rfl (fL c r)
def RB.LY {K:Ro}{H:Hp}{n:Nat}{a b:J}{xs ys:O Bool}(ha:H a=S (.lst (xs.map V.bl)))(hb:H b=S (.lst (ys.map V.bl))):RB K H n (.ref a) (.ref b) (decide (xs=ys)):=
 RB.told ha hb (fL V.bl xs) (fL V.bl ys) λu v x y h1 h2=>by
   subst h1
   subst h2
   !e:oB (.bl x) (.bl y)=decide (x=y):=by
     cases x<;>cases y<;>rfl
   rw[← e]
   #EB.flat rfl rfl
def B1 (K:Ro)(mg:Str->Option Value)(T:J)(n ie:Nat)(tb:XK->TS)(th:TS):TS:=λD σ H=>tb (λcls z H2=>∃C tl x,cls=.ref C/\Xc K mg x C tl/\(R6 C::tl).contains (.ref T)=true/\∀ea,H2 ea=Z->th {nx:=λσ8 H8=>D.nx (σ8.set ie Z) H8,rt:=λz z=>False} ((VQ n Z).set ie (S (.ref ea))) (upd H2 ea (yw ea C))) D σ H
def Am {X:Cx}{tn en:Str}{T:J}{ie:Nat}{body aN:O Stmt}{hst0:Stmt}{tb:XK->TS}{th:TS}{np hp pos:Pos}(hst:X.stack=X.env::X.outer)(hex:X.ex=[])(hfr:X.env.frame=S X.env.locals)(hN:X.N.Nodup)(hie:X.N[ie]?=S en)
   (hle:X.env.scope.names.lookup en=S .local) (cT:Xc X.K X.mg tn T vE) (hg:Gl X tn)
   (hb:∀(W:Value->Shared->Prop) (pn:O (J×Obj)) (Ex:XK),Passes (eD X.prog X.w X.base) {X with xe:=W,pn:=pn} Ex->lD {X with xe:=W,pn:=pn} body (tb Ex))
   (hh:∀ea:J,lD {X with A:=X.A.mark (S (.ref ea)),calm:=false,xe:=λt t=>False} (hst0::aN) th) (hdt:(tn==("__debug__":Str))=false) :
   PS X (.Try body [.ExceptHandler (S (.Name tn np)) (S en) (hst0::aN) hp] [] [] pos) (B1 X.K X.mg T X.N.length ie tb th):=by
 intro pins s σ H D I h
 let Hd:O ExceptHandler:=[.ExceptHandler (S (.Name tn np)) (S en) (hst0::aN) hp]
 let W:Value->Shared->Prop:=λe s1=>wpAny (model X.prog X.w) X.A (noteFrame e X.env) (λt s2=>wpAny (model X.prog X.w) X.A (setFlight e Z) (λt s3=>wpAny (model X.prog X.w) X.A (handleBy e X.env Hd) (SP X pins D) X.xe s3) X.xe s2) X.xe s1
 !Lp:∀p∈(X.pn++pins)++[],p∈X.pn++pins:=λp hp=>by rw[RY]at hp;#hp
 !back:∀{σ1:St} {H1:Hp} {s1:Shared} {Bq:O (J×Obj)},Inv {X with xe:=W,pn:=X.pn++pins} Bq σ1 H1 s1->Inv X pins σ1 H1 s1:=λJ8x=>J8x.back λp hp=>S0 _ hp
 #wpAny_Try_except ?_
 #wpAny_mono (hb W (X.pn++pins) _ ?_ [] s σ H D (I.other Lp) h) (λf s1 hs=>?_) (λe s1 he=>he)
 . -- an exception of a callee
   intro Bq σ1 H1 s1 e s2 J8x cx
   @⟨ea,cls,a0,B,H2,rfl,DA,kh,iy,p6,stB,m6,ij,oh,Bm,C,tl,x,rfl,xc,hup,q⟩:=cx
   !J0:=back J8x
   !KS:({X with xe:=W,pn:=X.pn++pins}:Cx).stack=X.env::X.outer:=hst
   rw[KS]at iy m6 ij
   !Cu:=m6.2.2.1
   !at_:∀h3:Heap,B.StaysIn h3->s2.heap.UpToSlots h3->Inv X pins σ1 H2 {s2 with heap:=h3}:=λh3 s3 up=>by
     #J0.A0 (s':={s2 with heap:=h3}) (ch:=[]) DA ?_ (eR p6 oh m6.1 s3) kh (λb z=>nomatch z)
     rw[hst]
     #yq iy m6.1 s3 ij (ya Cu up)
   !n2:H2 ea=Z:=by
     cases z:H2 ea with
     | none=>rfl
     | some u=>
       @⟨o,ho⟩:=oh ea u z
       rw[m6.2.1]at ho
       cases ho
   change wpAny (model X.prog X.w) X.A (noteFrame (.ref ea) X.env) _ _ _
   !Oh:X.A.frames=S (X.env::X.outer):=by rw[← hst];#I.ok.frames
   #wpAny_looks_onW Oh hfr m6 λh4 Gi QG=>?_
   #wpAny_landsW Gi λh5 Ct QH=>?_
   !IJ:=QG.trans QH
   !I5:=at_ h5 Ct.1 IJ
   #wpAny_handleBy_cons (codeAny_handlers_test (iP (I5.mark (e:=S (.ref ea))) hg cT.m ?_ hdt)) (by intro z;cases z)
   @⟨N1,a1,a2,a3,a4,a5,a6,a7,a8,a9,b0,b1,b2,b3,b5,m1,hC,_,_,_⟩:=xc.obj I5.lM
   @⟨N2,c1,c2,c3,c4,c5,c6,c7,c8,c9,d0,d1,d2,d3,d5,m2,hT,_,_,_⟩:=cT.obj I5.lM
   @⟨ob,Pe,KJ⟩:=Ct.there
   #qe hC hT Pe KJ hup rfl (codeAny_handlers_suite_as ?_)
   #lands_againW Ct λh6 FY QI=>?_
   !I6:=at_ h6 FY.1 (IJ.trans QI)
   !Od:jD ea C h6:=FY.there
   !ne_of1:∀b o,s1.heap.get? b=S o->b≠ea:=λb o hb z=>by rw[z,Bm]at hb;cases hb
   !NC:=I6.IH n2 Od (by
     cases z:X.s₀.heap.get? ea with
     | none=>rfl
     | some o=>
       by_cases hx:ea∈X.ex
       . rw[hex]at hx
         #nomatch hx
       . @⟨o',e1⟩:=J0.base.there ea o z hx
         rw[Bm]at e1
         cases e1) (by
     @⟨m,⟨o,_,_,ho,_⟩,_⟩:=J0.loc
     #(ne_of1 _ o ho).symm) (λy c e=>by
     @⟨v,o,ho,_⟩:=J0.cell y c e
     #ne_of1 c o ho) (λp hp=>ne_of1 p.1 p.2 (J0.pin p hp).1)
   #ja NC hN hie (.inl hle) (v:=.ref ea) rfl (λs7 I7=>?_) (.inr hle)
   !hlenσ:σ1.length=X.N.length:=J0.len
   !CB:ie<σ1.length:=by rw[hlenσ];#(List.getElem?_eq_some_iff.mp hie).1
   !ND:=I7.weak (σ':=(VQ X.N.length Z).set ie (S (.ref ea))) (by rw[Ui,Ui,US,hlenσ]) (λi v e=>by
     by_cases hi:i=ie
     . subst hi
       rw[S5 (by rw[US,← hlenσ];#CB)]at e
       rw[S5 CB]
       #e
     . rw[Ug (Ne.symm hi),V7]at e
       split at e<;>cases e)
   #wpAny_mono (hh ea pins s7 _ _ _ (ND.mark (e:=S (.ref ea))) (q ea n2)) (λf s8 hs=>?_) (λt t z=>z.elim)
   cases f with
   | next=>
     @⟨σ8,H8,I8,z8⟩:=hs
     !Jx:=I6.unmark I8
     @⟨m8,Pa,O7⟩:=id Jx.loc
     #wpAny_nameGoes_keeps (by#hle) Pa (by rw[I.ok.kind];rfl) λh9 v9 Pb Pn=>?_
     #⟨_,_,Jx.forget (σ':=σ8.set ie Z) O7 Pb Pn (by rw[Ui]) (λi v e=>?_),z8⟩
     !l8:σ8.length=X.N.length:=Jx.len
     by_cases hi:i=ie
     . subst hi
       rw[S5 (by rw[l8,← hlenσ];#CB)]at e
       cases e
     . rw[Ug (Ne.symm hi)]at e
       #⟨e,λz=>hi ?_⟩
       @⟨h1,e1⟩:=List.getElem?_eq_some_iff.mp z
       @⟨h2,e2⟩:=List.getElem?_eq_some_iff.mp hie
       rcases Nat.lt_trichotomy i ie with c|c|c
       . #au (e1.trans e2.symm) (List.pairwise_iff_getElem.mp hN i ie h1 h2 c)
       . #c
       . #au (e2.trans e1.symm) (List.pairwise_iff_getElem.mp hN ie i h2 h1 c)
   | brk=>@⟨_,_,_,z⟩:=hs;#z.elim
   | cont=>@⟨_,_,_,z⟩:=hs;#z.elim
   | ret u=>@⟨_,_,_,_,_,z⟩:=hs;#z.elim
 . cases f with
   | next=>
     @⟨σ',H',J8x,z⟩:=hs
     #Up ⟨σ',H',back J8x,z⟩
   | brk=>@⟨σ',H',J8x,z⟩:=hs;#⟨σ',H',back J8x,z⟩
   | cont=>@⟨σ',H',J8x,z⟩:=hs;#⟨σ',H',back J8x,z⟩
   | ret u=>@⟨v,σ',H',J8x,r,z⟩:=hs;#⟨v,σ',H',back J8x,r,z⟩
end L2
namespace TW
open PySem L2
end TW
namespace L3
open PySem L2
section
variable{X:Cx}{e:Expr}{es:O Expr}{t:TA}{pos:Pos}
def Lv {tn en:Str}{T:J}(ie:Nat){body aN:O Stmt}{hst0:Stmt}{tbb:XK->TS}{th:TS}{np hp:Pos}{KK:Ro}{mg:Str->Option Value}{NN:Nat}(hN:X.N.Nodup)(cT:Xc X.K X.mg tn T vE)(hg:Gl X tn)
   (hb:∀(W:Value->Shared->Prop) (pn:O (J×Obj)) (Ex:XK),Passes (eD X.prog X.w X.base) {X with xe:=W,pn:=pn} Ex->SL {X with xe:=W,pn:=pn} body (tbb Ex))
   (hh:∀ea:J,SL {X with A:=X.A.mark (S (.ref ea)),calm:=false,xe:=λz z=>False} (hst0::aN) th)
   (hie:X.N[ie]?=S en:=by rfl) (hle:X.env.scope.names.lookup en=S .local:=by rfl)
   (hst:X.stack=X.env::X.outer:=by rfl) (hex:X.ex=[]:=by rfl) (hfr:X.env.frame=S X.env.locals:=by rfl) (hK:X.K=KK:=by rfl) (hm:X.mg=mg:=by rfl) (hNN:X.N.length=NN:=by rfl)
   (hdt:(tn==("__debug__":Str))=false:=by left) :
   SS X (.Try body [.ExceptHandler (S (.Name tn np)) (S en) (hst0::aN) hp] [] [] pos) (B1 KK mg T NN ie tbb th):=by
 subst hK hm hNN
 #⟨Am hst hex hfr hN hie hle cT hg (λW pn Ex md=>(hb W pn Ex md).h) (λea=>(hh ea).h) hdt⟩
end
end L3
namespace L2
open PySem PySem.Spec PyProof.Rows SeqAt
end L2
namespace L3
open PySem PySem.Spec PyProof.Rows L2
end L3
namespace PySem
open Sem (wp)
end PySem
namespace PySem
end PySem
namespace L2
open PySem PySem.Spec PyProof.Rows
end L2
namespace L3
open PySem PySem.Spec PyProof.Rows L2
end L3
namespace L2
open PySem PySem.Spec PyProof.Rows
def Jz (K:Ro)(a:J):It:=
 ⟨λi H=>∃xs x,aH K H a xs/\xs[i]?=S x,
  λi H v H'=>∃p x,H p=Z/\v=.ref p/\H'=upd H p (.tup [.int (i:Nat),x])/\∀xs,aH K H a xs->xs[i]?=S x,
  λi H=>∃xs,aH K H a xs/\xs~<=i⟩
def uO {P:Program}{w:World}{K:Ro}{elts:O Expr}{x1:Nat}{tp:Pos}{a n:J} :
   Turn P w K (.Tuple elts x1 tp) (Jz K a) [n+1,n] (n+1) (λi h=>(∃old,IsEnum h (n+1) n (i:Nat) old)/\h.IsListIter n a i) where
 mem:=by simp
 obj:=λi h st d hd=>by
   @⟨⟨old,he⟩,⟨o1,e1,c1,d1⟩⟩:=st
   simp only[Sh,R4,or_false]at hd
   rcases hd with rfl|rfl
   . #⟨_,he,λv q=>nomatch q⟩
   . #⟨_,e1,λv q=>by rw[d1]at q;cases q⟩
 keep:=λi h h' st k=>by
   @⟨⟨old,he⟩,h1⟩:=st
   #⟨⟨old,k _ (by simp) _ he⟩,h1.at λo e=>k _ (by simp) o e⟩
 item:=by
   intro X hP hw hK hc i pins s σ H E I hf st hg
   subst hP hw hK
   @⟨xs,x,lF,hx⟩:=hg
   @⟨vY,Eo,p1,_⟩:=I.list lF
   @⟨ux,gx,rx⟩:=Eo.get hx
   @⟨⟨old,he⟩,h1⟩:=st
   !ne:(n+1:J)≠n:=Nat.succ_ne_self n
   #wpAny_pyNext_enum_item he h1 p1.isList (x:=ux) (by simpa using gx) ne λg a1 a2 a3 a4 hk=>?_
   #⟨_,U,wpAny_letOwnedTupleGo_enum (s:={s with heap:=g,toks:=s.toks+1}) a1 λg2 O1 e2=>?_⟩
   !n0:H s.heap.objs.size=Z:=I.hok.fresh (Rz _)
   !K4:n+1<s.heap.objs.size:=RD he
   !JU:Sz (n+1) g g2:=e2
   !kk:∀d o,d∉([n+1,n]:O J)->s.heap.get? d=S o->g2.get? d=S o:=λd o hd e=>by
     simp only[Sh,R4,or_false,not_or]at hd
     #JU.extBut _ _ hd.1 (hk d o hd.1 hd.2 e)
   !t2:IsPair g2 s.heap.objs.size (.int i s.toks) ux:=JU.extBut _ _ (Tg K4) a3
   !I1:Inv X pins σ (upd H s.heap.objs.size (.tup [.int (i:Nat),x])) {s with heap:=g2,toks:=s.toks+1}:=I.many (ch:=[n+1,n]) hf kk (Rz _)
     ⟨by change 2<=sizeLine;decide,[.int i s.toks,ux],.cons ⟨_,rfl⟩ (.cons rx .nil),_,t2,rfl,_,rfl⟩
   #⟨.ref s.heap.objs.size,_,I1,U,⟨_,x,n0,U,U,λEV q1=>?_⟩,⟨⟨_,by simpa using O1⟩,a2.at λo e=>JU.extBut _ _ ne.symm e⟩,λd hd=>?_⟩
   . rw[I.kK q1 lF];#hx
   . !lt:d<s.heap.objs.size:=by
       simp only[Sh,R4,or_false]at hd
       rcases hd with rfl|rfl
       . #K4
       . #Nat.lt_of_succ_lt K4
     rw[ah (R1 lt)]
     #(hf d hd).1
 done:=by
   intro X hP hw hK hc i pins s σ H E I hf st hg
   subst hP hw hK
   @⟨xs,lF,Gj⟩:=hg
   @⟨vY,Eo,p1,_⟩:=I.list lF
   !l1:=Eo.length
   @⟨⟨old,he⟩,h1⟩:=st
   #wpAny_pyNext_enum_end (I.ok.hd hc) he h1 p1.isList (by simp;lia) λg hk=>⟨U,?_⟩
   #I.Bj (t':=s.toks) (ch:=[n]) (λd hd=>hf d (by rw[List.mem_singleton.mp hd];simp)) λd o hd e=>hk d o (λz=>hd (by rw[z];simp)) e
 self:=λy y y y y st h=>by
   @⟨⟨old,he⟩,_⟩:=st
   #wpAny_pyIter_enum he h
def GF (K:Ro)(ta:TA):TI:=λσ H R=>ta σ H λvs H1=>∃a,vs=[.ref a]/\(∃xs,aH K H1 a xs)/\R (Jz K a) H1
def Ag {X:Cx}{a:Expr}{ta:TA}{p pos tp:Pos}{elts:O Expr}{x1:Nat}(hg:Gl X "enumerate")(hm:X.mg "enumerate"=Z)(ha:qP X [a] ta)(hv:SJ "enumerate"=S (.type "enumerate"):=by first|rfl|decide +kernel) :
   PI X (.Tuple elts x1 tp) (.Call (.Name "enumerate" p) [a] [] pos) (GF X.K ta):=by
 intro pins s σ H R I h
 #wpAny_Call_Name_kw (fF I hg hm hv ?_ (by left) (by left))
 #SY (bw (ha.pa pos pins s σ H _ I h) λus s1 h9=>?_) ((ha.ns a [] rfl).1.h [] X.env) ((ha.ns a [] rfl).2 pos X.env)
 @⟨vs,H1,I1,r1,q1⟩:=h9
 @⟨l1,e,⟨xs,lF⟩,q⟩:=q1
 subst e
 cases r1 with
 | cons r1 r2=>
 cases r2
 cases r1
 @⟨vY,Eo,p1,_⟩:=I1.list lF
 #call_enumerate_list p1.isList λg he hi z hk=>?_
 #wpAny_pyIter_enum he ?_
 !I2:Inv X pins σ H1 {s1 with heap:=g}:=I1.kept (t':=s1.toks) hk
 #⟨_,_,_,_,H1,U,I2,uO,⟨⟨_,he⟩,hi⟩,λc hc=>?_,q⟩
 simp only[Sh,R4,or_false]at hc
 !up:∀k,ef X pins H1 (s1.heap.objs.size+k):=λk=>I1.oF (UH _ _) (I1.hok.fresh (UH _ _))
 rcases hc with rfl|rfl
 . #up 1
 . #up 0
section
variable{K:Ro}{a:J}{xs:O V}{g:TG}
def sY {tifs:TT}{tm:TM}{σ0:St}{Z8x:Hp->Prop}{H:Hp}(Pv:Nat->Hp->Prop)(h0:Pv 0 H)(hl:∀i H,i<=xs~->Pv i H->aH K H a xs)
   (turn:∀i x p H,xs[i]?=S x->Pv i H->H p=Z->g (.ref p) σ0 (upd H p (.tup [.int (i:Nat),x])) λσ2 H2=>tifs σ2 H2 λb H3=>
     if b=true then tm σ2 H3 λH4=>bz σ0 σ2/\∃m',m'<xs~-i/\(m'=xs~-(i+1)/\i+1<=xs~/\Pv (i+1) H4)else bz σ0 σ2/\∃m',m'<xs~-i/\(m'=xs~-(i+1)/\i+1<=xs~/\Pv (i+1) H3))
   (hZ:∀H,Pv xs~ H->Z8x H):lA (Jz K a) σ0 g tifs tm Z8x H:=by
 #jI xs~ Pv h0 (λi H hi p=>⟨xs,xs[i],hl i H (S3 hi) p,by simp[hi]⟩) (λH p=>⟨xs,hl _ H (Rz _) p,Rz _⟩) (λi H hi p x H' y=>?_) hZ
 @⟨pp,x1,hn,rfl,rfl,k⟩:=y
 #turn i x1 pp H (k xs (hl i H (S3 hi) p)) p hn
end
end L2
namespace L3
open PySem PySem.Spec PyProof.Rows L2
def iE {X:Cx}{a:Expr}{t:TA}{KK:Ro}{p pos tp:Pos}{elts:O Expr}{x1:Nat}(hg:Gl X "enumerate")(hm:X.mg "enumerate"=Z)(ha:SA X [a] t)(hK:X.K=KK:=by first|show br|rfl) :
   SI X (.Tuple elts x1 tp) (.Call (.Name "enumerate" p) [a] [] pos) (GF KK t):=by
 subst hK
 #⟨Ag hg hm ha.h⟩
section
variable{X:Cx}{a o e:Expr}{es:O Expr}{ta tv:TE}{t:TA}{pos pos' apos:Pos}{f m:Str}
def fld {KK:Ro}(ha:SE X a ta)(hb:Ss a f X.env (eval a X.env)=eval a X.env:=by rfl)(hK:X.K=KK:=by first|show br|rfl):SE X (.Attribute a f pos) (IA KK ta f):=by
 subst hK
 #⟨DJ ha.h hb⟩
def Io {KK:Ro}(ha:SE X a ta)(hv:SE X e tv)(hs:Tw e (S (.Attribute a f pos')) pos.line X.env=pure false:=by rfl)(hK:X.K=KK:=by first|show br|rfl):SS X (.Assign [.Attribute a f pos'] e pos) (Ih KK ta tv f):=by
 subst hK
 #⟨D8 ha.h hv.h hs⟩
end
end L3
namespace TW
open PySem L2
def bN (P:Program)(w:World)(K:Ro)(mg:Str->Option Value)(base:Heap)(C:J)(m:Str)(ps:O Str)(k:Nat)(sp:Sp):Prop:=
 ∃f fd,aY P w K mg base dq k f fd ps sp/\Binds K fd ps []/\Meth K C m f
def oi (P:Program)(w:World)(K:Ro)(mg:Str->Option Value)(base:Heap)(x:Str)(C:J)(ps:O Str)(k:Nat)(sp:Sp):Prop:=
 ∃f fd,aY P w K mg base dq k f fd ps sp/\Binds K fd ps []/\Mk K C f/\mg x=S (.ref C)
end TW
namespace L2
open PySem PySem.Spec PyProof.Rows
end L2
namespace L3
open PySem PySem.Spec PyProof.Rows L2
section
variable{X:Cx}{a o e:Expr}{es:O Expr}{ta tv:TE}{t:TA}{p pos pos' apos:Pos}{x m:Str}{C:J}{ps:O Str}{kk:Nat}{sp:Sp}
def make (D:TW.oi X.prog X.w X.K X.mg X.base x C ps kk sp)(hr:bY (kk+1) X.A)(hg:Gl X x)(ha:SA X (e::es) t)(hdb:(x==("__debug__":Str))=false:=by left):SE X (.Call (.Name x p) (e::es) [] pos) (BV C sp [] E0 t):=by
 @⟨_,_,G,b,M8,m⟩:=D
 #⟨Ac M8 G hr hg m b .nil rK ha.h.pa hdb ((ha.h.ns e es rfl).1.h es X.env) ((ha.h.ns e es rfl).2 pos X.env)⟩
def dS {pl:Sem Bool}(ho:SE X o ta)(c:pq X.K C)(D:TW.bN X.prog X.w X.K X.mg X.base C m ps kk sp)(hr:bY kk X.A)(ha:SA X (e::es) t)
   (ht:eval (.Call (.Attribute o m apos) (e::es) [] pos) X.env=(do
     let ov←eval o X.env
     standAt apos.atName
     let(f,first)←holding [ov] (getMethod ov m pl)
     callWith pos f first (backTo pos (starEach (e::es) X.env)) (backToKw pos (keywordEach [] X.env))):=by rfl):SE X (.Call (.Attribute o m apos) (e::es) [] pos) (sC C m sp [] E0 ta t):=by
 @⟨_,_,G,b,hm⟩:=D
 #⟨Ad ho.h c hm G hr b .nil rK ha.h.pa ((ha.h.ns e es rfl).1.h es X.env) ((ha.h.ns e es rfl).2 pos X.env) ht⟩
end
end L3
namespace L3
open PySem PySem.Spec PyProof.Rows L2
end L3
namespace L2
open PySem PySem.Spec PyProof.Rows
end L2
namespace L3
open PySem PySem.Spec PyProof.Rows L2
end L3
namespace L2
open PySem PySem.Spec PyProof.Rows
end L2
namespace L3
open PySem PySem.Spec PyProof.Rows L2
def dM {X:Cx}{o:Expr}{ta:TE}{pos apos:Pos}{m:Str}{C:J}{ps:O Str}{kk:Nat}{sp:Sp}{pl:Sem Bool}(ho:SE X o ta)(c:pq X.K C)(D:TW.bN X.prog X.w X.K X.mg X.base C m ps kk sp)(hr:bY kk X.A)
   (ht:eval (.Call (.Attribute o m apos) [] [] pos) X.env=(do
     let ov←eval o X.env
     standAt apos.atName
     let(f,first)←holding [ov] (getMethod ov m pl)
     callWith pos f first (backTo pos (starEach [] X.env)) (backToKw pos (keywordEach [] X.env))):=by rfl):SE X (.Call (.Attribute o m apos) [] [] pos) (sC C m sp [] E0 ta yn):=by
 @⟨_,_,G,b,hm⟩:=D
 #⟨xp ho.h c hm G hr b .nil rK ht⟩
end L3
namespace L3
open PySem PySem.Spec PyProof.Rows L2
structure SP (X:Cx)(pos:Pos)(keys:O (Option Expr))(values:O Expr)(trs:O (TE×TE)):Prop where
 h:FA X pos keys values trs
section
variable{X:Cx}{pos:Pos}{k v:Expr}{ks:O (Option Expr)}{vs:O Expr}{tk tv:TE}{trs:O (TE×TE)}
def NY:SP X pos [] [] []:=⟨Aj⟩
def FP (hk:SE X k tk)(hv:SE X v tv)(hr:SP X pos ks vs trs):SP X pos (S k::ks) (v::vs) ((tk,tv)::trs):=⟨xx hk.h hv.h hr.h⟩
def JS (h:SP X pos (S k::ks) vs trs)(hall:(S k::ks).all (·.isSome)=true:=by rfl)(hl:(S k::ks)~=vs~:=by rfl)(h15:(S k::ks)~<=15:=by left):SE X (.Dict (S k::ks) vs pos) (BS trs):=⟨z9 h.h hall hl (λz=>nomatch z) h15⟩
end
end L3
namespace L2
open PySem PySem.Spec PyProof.Rows
section
variable{X:Cx}
def Eg:V->Option Int->Option Int->Hp->VK->Prop:=λx lo hi H Q=>∃z,x=.str z/\z~<=sizeLine/\Q (.str (VD z lo hi)) H
def x9:IW X Eg:=by
 intro pins s σ H x v vl vu lo hi sl Q I rx hs pl pu h
 @⟨z,rfl,hz,q⟩:=h
 @⟨t,rfl⟩:=rx
 #⟨"str",_,F.slot_str_getitem.lookup,typeIs_str _ _ _,?_⟩
 cases pl with
 | none=>
   cases pu with
   | none=>#T8 (l:=Z) (u:=Z) (st:=Z) hs rfl (post_val_or_str ⟨Ry (Vs z _ _) hz,λt' k=>⟨.str _,H,I.tok _,⟨_,rfl⟩,q⟩⟩)
   | int j u=>#T8 (l:=Z) (u:=S (j,u)) (st:=Z) hs rfl (post_val_or_str ⟨Ry (Vs z _ _) hz,λt' k=>⟨.str _,H,I.tok _,⟨_,rfl⟩,q⟩⟩)
 | int i t'=>
   cases pu with
   | none=>#T8 (l:=S (i,t')) (u:=Z) (st:=Z) hs rfl (post_val_or_str ⟨Ry (Vs z _ _) hz,λt' k=>⟨.str _,H,I.tok _,⟨_,rfl⟩,q⟩⟩)
   | int j u=>#T8 (l:=S (i,t')) (u:=S (j,u)) (st:=Z) hs rfl (post_val_or_str ⟨Ry (Vs z _ _) hz,λt' k=>⟨.str _,H,I.tok _,⟨_,rfl⟩,q⟩⟩)
end
end L2
namespace L3
open PySem PySem.Spec PyProof.Rows L2
section
variable{X:Cx}{a b c e o:Expr}{es:O Expr}{ta tb tc te:TE}{t:TA}{pos:Pos}
def MH:SX X HS:=⟨CT⟩
end
end L3
namespace PySem
open Sem (wp)
open PyProof.Rows (IsTup IsTupIter)
def gV (tp:Bool)(h:Heap)(it a:J)(i:Nat):Prop:=if tp then Ub h it a i else h.IsListIter it a i
def eI (tp:Bool)(h:Heap)(a:J)(xs:Array Value):Prop:=if tp then IsTup h a xs else h.IsList a xs
def CS (tp:Bool):String:=if tp then "tuple_iterator" else "list_iterator"
abbrev gH (tp:Bool)(a:J):Obj:={cls:=.type (CS tp),data:=.fields #[.ref a,.int 0 0]}
section
variable{tp:Bool}{h h':Heap}{it a:J}{i:Nat}{xs:Array Value}
def gV.cn (x:gV tp h it a i)(e:∀o,h.get? it=S o->h'.get? it=S o):gV tp h' it a i:=by
 cases tp
 . #Heap.IsListIter.at (show h.IsListIter it a i from x) e
 . @⟨o,ho,r⟩:=(show Ub h it a i from x)
   #(⟨o,e _ ho,r⟩ : Ub h' it a i)
def gV.obj (x:gV tp h it a i):∃o,h.get? it=S o/\∀v,o.data≠.cell v:=by
 cases tp
 . @⟨o,ho,_,d⟩:=(show h.IsListIter it a i from x)
   #⟨o,ho,λv q=>by rw[d]at q;cases q⟩
 . @⟨o,ho,_,d⟩:=(show Ub h it a i from x)
   #⟨o,ho,λv q=>by rw[d]at q;cases q⟩
def eI.cn (x:eI tp h a xs)(e:∀o,h.get? a=S o->h'.get? a=S o):eI tp h' a xs:=by
 cases tp
 . #Heap.IsList.at (show h.IsList a xs from x) e
 . @⟨o,ho,r⟩:=(show IsTup h a xs from x)
   #(⟨o,e _ ho,r⟩ : IsTup h' a xs)
def eI.lt (x:eI tp h a xs):a<h.objs.size:=by
 cases tp
 . @⟨o,ho,_⟩:=(show h.IsList a xs from x)
   #RD ho
 . #IsTup.lt (show IsTup h a xs from x)
end
section
variable{prog:Program}{w:World}{A:Around}{E:Value->Shared->Prop}{s:Shared}{tp t1 t2:Bool}{it a:J}{i:Nat}{xs ys:Array Value}{x y:Value}
def qh {Q:Value->Shared->Prop}(hit:Ub s.heap it a i)(hl:IsTup s.heap a xs)(hx:xs[i]?=S x)(hQ:∀g,Ub g it a (i+1)->Sz it s.heap g->Q x {s with heap:=g}) :
   wpAny (model prog w) A (Se (.ref it)) Q E s:=by
 @⟨o,ho,hc,hd⟩:=id hit
 @⟨o2,jm,_,n2,hd2⟩:=hl
 unfold Se
 #wpAny_bind (Tt (name:=Rt "__next__") hit.typeIs S4 (wpAny_call_entry S4 hit.typeIs UG ?_ (UM _)))
 change wpAny _ _ (field (.ref it) 0>>=_) _ _ _
 #wpAny_bind (wpAny_field ho hd (x:=.ref a) rfl ?_)
 change wpAny _ _ (if(R6 a==SH)=true then _ else _) _ _ s
 rw[dh (show ¬ ((R6 a==SH)=true)from RV)]
 change wpAny _ _ (field (.ref it) 1>>=_) _ _ _
 #wpAny_bind (wpAny_field ho hd (x:=.int i 0) rfl ?_)
 change wpAny _ _ (seqItems? (.ref a)>>=_) _ _ _
 #wpAny_bind (wpAny_seqItems jm hd2 ?_)
 simp only[Vp,hx]
 #wpAny_bind (wpAny_setField ho hd (by simp) (wpAny_pure ⟨x,U,wpAny_pure (hQ _ ?_ (VB ..))⟩))
 #⟨_,UU _ ho (Wl (Uo hd _)),(Obj.cls_mapFields ..).trans hc,by rw[Uo hd];simp[rawInt]⟩
def ud {Q:Value->Shared->Prop}(hh:A.handled=Z)(hit:Ub s.heap it a i)(hl:IsTup s.heap a xs)(hx:xs[i]?=Z)
   (hE:∀g e,Heap.ExtBut it s.heap g->(∃o,g.get? e=S o/\o.cls=.type "StopIteration")->E (.ref e) {s with heap:=g}):wpAny (model prog w) A (Se (.ref it)) Q E s:=by
 @⟨o,ho,hc,hd⟩:=id hit
 @⟨o2,jm,_,n2,hd2⟩:=hl
 unfold Se
 #wpAny_bind (Tt (name:=Rt "__next__") hit.typeIs S4 (wpAny_call_entry S4 hit.typeIs UG ?_ (UM _)))
 change wpAny _ _ (field (.ref it) 0>>=_) _ _ _
 #wpAny_bind (wpAny_field ho hd (x:=.ref a) rfl ?_)
 change wpAny _ _ (if(R6 a==SH)=true then _ else _) _ _ s
 rw[dh (show ¬ ((R6 a==SH)=true)from RV)]
 change wpAny _ _ (field (.ref it) 1>>=_) _ _ _
 #wpAny_bind (wpAny_field ho hd (x:=.int i 0) rfl ?_)
 change wpAny _ _ (seqItems? (.ref a)>>=_) _ _ _
 #wpAny_bind (wpAny_seqItems jm hd2 ?_)
 simp only[Vp,hx]
 #wpAny_bind (wpAny_rule (wpAny_bind (wpAny_setField ho hd (by simp) ?_)))
 change wpAny _ _ (newExc (.type "StopIteration") []>>=_) _ _ _
 #wpAny_bind ?_
 simp only[newExc,newTuple]
 #wpAny_bind (wpAny_newObj_type ?_ (by size_fits))
 #wpAny_bind (m:=firstArgMember _ _) (wpAny_of_eq (a:=SH) (by first|rfl|(simp only[firstArgMember];rfl)) ?_)
 #wpAny_newObj_type ?_ (by size_fits)
 simp only[raiseNew]
 #wpAny_bind (wpAny_handled ?_)
 first|rw[show A.in1.handled=Z from hh]|rw[hh]
 #wpAny_bind (wpAny_pure (wpAny_throw ?_))
 #hE _ _ (((VB ..).extBut.push _).push _) ⟨_,RK _ rfl,U⟩
def iq {Q:Value->Shared->Prop}(hit:gV tp s.heap it a i)(hl:eI tp s.heap a xs)(hx:xs[i]?=S x)(hQ:∀g,gV tp g it a (i+1)->Sz it s.heap g->Q x {s with heap:=g}) :
   wpAny (model prog w) A (Se (.ref it)) Q E s:=by
 cases tp
 . #wpAny_nextOf_list_item (show s.heap.IsListIter it a i from hit) (show s.heap.IsList a xs from hl) hx hQ
 . #qh (show Ub s.heap it a i from hit) (show IsTup s.heap a xs from hl) hx hQ
def mw {Q:Value->Shared->Prop}(hh:A.handled=Z)(hit:gV tp s.heap it a i)(hl:eI tp s.heap a xs)(hx:xs[i]?=Z)
   (hE:∀g e,Heap.ExtBut it s.heap g->(∃o,g.get? e=S o/\o.cls=.type "StopIteration")->E (.ref e) {s with heap:=g}):wpAny (model prog w) A (Se (.ref it)) Q E s:=by
 cases tp
 . #wpAny_nextOf_list_end hh (show s.heap.IsListIter it a i from hit) (show s.heap.IsList a xs from hl) hx hE
 . #ud hh (show Ub s.heap it a i from hit) (show IsTup s.heap a xs from hl) hx hE
structure Z2 (t1 t2:Bool)(h:Heap)(n l1 l2:J)(i:Nat):Prop where
 z:IsZip h (n+4) (n+2) (n+3) .none
 ti:IsPair h (n+2) (.ref n) (.ref (n+1))
 to:∃a b,IsPair h (n+3) a b
 i1:gV t1 h n l1 i
 i2:gV t2 h (n+1) l2 i
def uS {n l1 l2:Nat}{Q:Value->Shared->Prop}(n1:l1<n)(n2:l2<n)(Z8x:Z2 t1 t2 s.heap n l1 l2 i)(h1:eI t1 s.heap l1 xs)(h2:eI t2 s.heap l2 ys)(hx:xs[i]?=S x)(hy:ys[i]?=S y)
   (hQ:∀g,IsZip g (n+4) (n+2) (n+3) (rawInt s.heap.objs.size)->IsPair g (n+3) x y->gV t1 g n l1 (i+1)->gV t2 g (n+1) l2 (i+1)->IsPair g s.heap.objs.size x y ->
     (∀c o,c∉([n+4,n+3,n,n+1]:O J)->s.heap.get? c=S o->g.get? c=S o)->Q (.ref s.heap.objs.size) {s with heap:=g}) :
   wpAny (model prog w) A (Builtin.«zip.__next__» ⟨[.ref (n+4)],[]⟩) (λfin s'=>∃v,fin=.done (.ret v)/\Q v s') E s:=by
 @⟨zr,ti,⟨a,b,to⟩,j1,j2⟩:=Z8x
 change wpAny _ _ (field (.ref (n+4)) 2>>=_) _ _ _
 #wpAny_bind (wpAny_field zr rfl (x:=.bool false) rfl ?_)
 change wpAny _ _ (field (.ref (n+4)) 3>>=_) _ _ _
 #wpAny_bind (wpAny_field zr rfl (x:=.ref (n+2)) rfl ?_)
 #wpAny_bind (wpAny_seqItems ti rfl ?_)
 change wpAny _ _ (SQ (.ref (n+4))>>=_) _ _ _
 #wpAny_bind ?_
 unfold SQ
 #wpAny_bind (wpAny_field zr rfl (x:=.none) rfl (wpAny_pure ?_))
 simp only[if_true]
 #wpAny_bind (wpAny_rule ?_)
 #wpAny_bind (wpAny_field zr rfl (x:=.ref (n+3)) rfl ?_)
 #wpAny_bind (wpAny_setField_rec zr (by simp) λg1 B3 e1=>?_)
 replace B3:IsZip g1 (n+4) (n+2) (n+3) .ellipsis:=B3
 #wpAny_bind ?_
 simp only[List.zipIdx_cons,List.zipIdx_nil,UT,List.forIn_nil]
 #wpAny_bind (wpAny_bind (wpAny_onRaise ?_))
 change wpAny _ _ (Se (.ref n)>>=_) _ _ _
 #wpAny_bind (iq (j1.cn λo e=>e1.extBut _ _ (show @Ne Nat _ _ by lia) e) (h1.cn λo e=>e1.extBut _ _ (show @Ne Nat _ _ by lia) e) hx λg2 k1 e2=>wpAny_pure ?_)
 !Iu:IsPair g2 (n+3) a b:=e2.extBut _ _ (show @Ne Nat _ _ by lia) (e1.extBut _ _ (show @Ne Nat _ _ by lia) to)
 #wpAny_bind (wpAny_seqItems Iu rfl ?_)
 #wpAny_bind (wpAny_updateSeq_pair Iu λg3 t3 e3=>?_)
 replace t3:IsPair g3 (n+3) x b:=t3
 #wpAny_bind (wpAny_letGo (wpAny_pure ?_))
 !c3:∀d o,d≠n+4->d≠n+3->d≠n->s.heap.get? d=S o->g3.get? d=S o:=λd o d1 d2 d3 e=>e3.extBut _ _ d2 (e2.extBut _ _ d3 (e1.extBut _ _ d1 e))
 #wpAny_bind (wpAny_bind (wpAny_onRaise ?_))
 change wpAny _ _ (Se (.ref (n+1))>>=_) _ _ _
 #wpAny_bind (iq (j2.cn λo e=>c3 _ o (show @Ne Nat _ _ by lia) (show @Ne Nat _ _ by lia) (show @Ne Nat _ _ by lia) e) (h2.cn λo e=>c3 _ o (show @Ne Nat _ _ by lia) (show @Ne Nat _ _ by lia) (show @Ne Nat _ _ by lia) e) hy λg4 k2 e4=>wpAny_pure ?_)
 !t4:IsPair g4 (n+3) x b:=e4.extBut _ _ (show @Ne Nat _ _ by lia) t3
 #wpAny_bind (wpAny_seqItems t4 rfl ?_)
 #wpAny_bind (wpAny_updateSeq_pair t4 λg5 t5 e5=>?_)
 replace t5:IsPair g5 (n+3) x y:=t5
 #wpAny_bind (wpAny_letGo (wpAny_pure (wpAny_pure ?_)))
 #wpAny_bind (wpAny_seqItems t5 rfl ?_)
 #wpAny_bind (wpAny_newTuple ?_)
 !sz:g5.objs.size=s.heap.objs.size:=by rw[e5.1,e4.1,e3.1,e2.1,e1.1]
 !Ny:IsZip g5 (n+4) (n+2) (n+3) .ellipsis:=e5.extBut _ _ (show @Ne Nat _ _ by lia) (e4.extBut _ _ (show @Ne Nat _ _ by lia) (e3.extBut _ _ (show @Ne Nat _ _ by lia) (e2.extBut _ _ (show @Ne Nat _ _ by lia) B3)))
 !c5:∀d o,d≠n+4->d≠n+3->d≠n->d≠n+1->s.heap.get? d=S o->g5.get? d=S o:=λd o d1 d2 d3 d4 e=>e5.extBut _ _ d2 (e4.extBut _ _ d4 (c3 d o d1 d2 d3 e))
 !m1:gV t1 g5 n l1 (i+1):=k1.cn λo e=>e5.extBut _ _ (show @Ne Nat _ _ by lia) (e4.extBut _ _ (show @Ne Nat _ _ by lia) (e3.extBut _ _ (show @Ne Nat _ _ by lia) e))
 !m2:gV t2 g5 (n+1) l2 (i+1):=k2.cn λo e=>e5.extBut _ _ (show @Ne Nat _ _ by lia) e
 !Nv:n+4<g5.objs.size:=RD Ny
 change wpAny _ _ (Uj (.ref (n+4)) (.ref g5.objs.size)>>=_) _ _ _
 #wpAny_bind ?_
 unfold Uj
 !QN:IsZip (g5.push {cls:=.type "tuple",data:=.seq #[x,y]}) (n+4) (n+2) (n+3) .ellipsis:=Rr _ Ny
 #wpAny_bind (wpAny_setField_rec QN (by simp) λg9 LJ e9=>?_)
 replace LJ:IsZip g9 (n+4) (n+2) (n+3) (rawInt g5.objs.size):=LJ
 #wpAny_setField_rec LJ (by simp) λgA Jt eA=>?_
 replace Jt:IsZip gA (n+4) (n+2) (n+3) (rawInt g5.objs.size):=Jt
 !up:∀d o,d≠n+4->g5.get? d=S o->gA.get? d=S o:=λd o d1 e=>eA.extBut _ _ d1 (e9.extBut _ _ d1 (Rr _ e))
 !tA:IsPair gA g5.objs.size x y:=eA.extBut _ _ (Tg Nv) (e9.extBut _ _ (Tg Nv) (RK _ rfl))
 rw[sz]at Jt tA
 #wpAny_pure ⟨_,U,?_⟩
 change Q (.ref g5.objs.size) _
 rw[sz]
 #hQ gA Jt (up _ _ (show @Ne Nat _ _ by lia) t5) (m1.cn λo e=>up _ o (show @Ne Nat _ _ by lia) e) (m2.cn λo e=>up _ o (show @Ne Nat _ _ by lia) e) tA λd o hd e=>?_
 simp only[Sh,R4,or_false,not_or]at hd
 #up d o hd.1 (c5 d o hd.1 hd.2.1 hd.2.2.1 hd.2.2.2 e)
def yv {n l1 l2:Nat}{Q:Fin->Shared->Prop}(hh:A.handled=Z)(n1:l1<n)(n2:l2<n)(Z8x:Z2 t1 t2 s.heap n l1 l2 i)(h1:eI t1 s.heap l1 xs)(h2:eI t2 s.heap l2 ys)(hx:xs[i]?=Z\/ys[i]?=Z)
   (hE:∀g e,(∀c o,c∉([n+4,n+3,n,n+1]:O J)->s.heap.get? c=S o->g.get? c=S o)->(∃o,g.get? e=S o/\o.cls=.type "StopIteration")->E (.ref e) {s with heap:=g}) :
   wpAny (model prog w) A (Builtin.«zip.__next__» ⟨[.ref (n+4)],[]⟩) Q E s:=by
 @⟨zr,ti,⟨a,b,to⟩,j1,j2⟩:=Z8x
 change wpAny _ _ (field (.ref (n+4)) 2>>=_) _ _ _
 #wpAny_bind (wpAny_field zr rfl (x:=.bool false) rfl ?_)
 change wpAny _ _ (field (.ref (n+4)) 3>>=_) _ _ _
 #wpAny_bind (wpAny_field zr rfl (x:=.ref (n+2)) rfl ?_)
 #wpAny_bind (wpAny_seqItems ti rfl ?_)
 change wpAny _ _ (SQ (.ref (n+4))>>=_) _ _ _
 #wpAny_bind ?_
 unfold SQ
 #wpAny_bind (wpAny_field zr rfl (x:=.none) rfl (wpAny_pure ?_))
 simp only[if_true]
 #wpAny_bind (wpAny_rule ?_)
 #wpAny_bind (wpAny_field zr rfl (x:=.ref (n+3)) rfl ?_)
 #wpAny_bind (wpAny_setField_rec zr (by simp) λg1 B3 e1=>?_)
 replace B3:IsZip g1 (n+4) (n+2) (n+3) .ellipsis:=B3
 #wpAny_bind ?_
 simp only[List.zipIdx_cons,List.zipIdx_nil,UT,List.forIn_nil]
 #wpAny_bind (wpAny_bind (wpAny_onRaise ?_))
 change wpAny _ _ (Se (.ref n)>>=_) _ _ _
 cases q:xs[i]? with
 | none=>
   #wpAny_bind (mw hh (j1.cn λo e=>e1.extBut _ _ (show @Ne Nat _ _ by lia) e) (h1.cn λo e=>e1.extBut _ _ (show @Ne Nat _ _ by lia) e) q λg2 e e2 he=>?_)
   @⟨oe,CI,Gd⟩:=he
   !Nw:IsZip g2 (n+4) (n+2) (n+3) .ellipsis:=e2 _ _ (show @Ne Nat _ _ by lia) B3
   !Ku:e≠n+4:=λq=>by subst q;rw[Nw]at CI;cases CI;simp at Gd
   #wpAny_setField_rec Nw (by simp) λg3 y e3=>hE g3 e (λd o hd q=>?_) ⟨oe,e3.extBut _ _ Ku CI,Gd⟩
   simp only[Sh,R4,or_false,not_or]at hd
   #e3.extBut _ _ hd.1 (e2 _ _ hd.2.2.1 (e1.extBut _ _ hd.1 q))
 | some x=>
   have hy:ys[i]?=Z:=hx.resolve_left (by rw[q];#λz=>nomatch z)
   #wpAny_bind (iq (j1.cn λo e=>e1.extBut _ _ (show @Ne Nat _ _ by lia) e) (h1.cn λo e=>e1.extBut _ _ (show @Ne Nat _ _ by lia) e) q λg2 k1 e2=>wpAny_pure ?_)
   !Iu:IsPair g2 (n+3) a b:=e2.extBut _ _ (show @Ne Nat _ _ by lia) (e1.extBut _ _ (show @Ne Nat _ _ by lia) to)
   #wpAny_bind (wpAny_seqItems Iu rfl ?_)
   #wpAny_bind (wpAny_updateSeq_pair Iu λg3 t3 e3=>?_)
   #wpAny_bind (wpAny_letGo (wpAny_pure ?_))
   !c3:∀d o,d≠n+4->d≠n+3->d≠n->s.heap.get? d=S o->g3.get? d=S o:=λd o d1 d2 d3 e=>e3.extBut _ _ d2 (e2.extBut _ _ d3 (e1.extBut _ _ d1 e))
   #wpAny_bind (wpAny_bind (wpAny_onRaise ?_))
   change wpAny _ _ (Se (.ref (n+1))>>=_) _ _ _
   #wpAny_bind (mw hh (j2.cn λo e=>c3 _ o (show @Ne Nat _ _ by lia) (show @Ne Nat _ _ by lia) (show @Ne Nat _ _ by lia) e) (h2.cn λo e=>c3 _ o (show @Ne Nat _ _ by lia) (show @Ne Nat _ _ by lia) (show @Ne Nat _ _ by lia) e) hy λg4 e e4 he=>?_)
   @⟨oe,CI,Gd⟩:=he
   !Nx:IsZip g4 (n+4) (n+2) (n+3) .ellipsis:=e4 _ _ (show @Ne Nat _ _ by lia) (e3.extBut _ _ (show @Ne Nat _ _ by lia) (e2.extBut _ _ (show @Ne Nat _ _ by lia) B3))
   !Ku:e≠n+4:=λq=>by subst q;rw[Nx]at CI;cases CI;simp at Gd
   #wpAny_setField_rec Nx (by simp) λg5 y e5=>hE g5 e (λd o hd q=>?_) ⟨oe,e5.extBut _ _ Ku CI,Gd⟩
   simp only[Sh,R4,or_false,not_or]at hd
   #e5.extBut _ _ hd.1 (e4 _ _ hd.2.2.2 (c3 d o hd.1 hd.2.1 hd.2.2.1 q))
end
abbrev yu (t1 t2:Bool)(h:Heap)(l1 l2:J):Heap:=(h.push (gH t1 l1)).push (gH t2 l2)
abbrev Fq (t1 t2:Bool)(h:Heap)(l1 l2:J):Heap:=(((yu t1 t2 h l1 l2).push {cls:=.type "tuple",data:=.seq #[.ref h.objs.size,.ref (h.objs.size+1)]}).push {cls:=.type "tuple",data:=.seq #[.none,.none]}).push
 {cls:=.type "zip",data:=.fields #[.none,.bool false,.bool false,.ref (h.objs.size+2),.ref (h.objs.size+3)]}
def Bg {prog:Program}{w:World}{A:Around}{E:Value->Shared->Prop}{s:Shared}{tp:Bool}{a:J}{xs:Array Value}{Q:Value->Shared->Prop}(hl:eI tp s.heap a xs)(hQ:Q (.ref s.heap.objs.size) {s with heap:=s.heap.push (gH tp a)}):wpAny (model prog w) A (pyIter (.ref a)) Q E s:=by
 cases tp
 . #UJ (show s.heap.IsList a xs from hl) hQ
 . #PyProof.Rows.iter_tuple (show IsTup s.heap a xs from hl) hQ
def qf (t1 t2:Bool)(l1 l2:J)(xs ys:Array Value) :
   Meets (Builtin.«zip.__new__» ⟨[.type "zip",.ref l1,.ref l2],[]⟩) (λz R s=>eI t1 s.heap l1 xs/\eI t2 s.heap l2 ys/\R (.ok (.ret (.ref (s.heap.objs.size+4)))) {s with heap:=Fq t1 t2 s.heap l1 l2}):=
 .of_wp λprog w A R s h=>by
   @⟨hp,g,d,tk,os⟩:=s;@⟨q1,q2,h⟩:=h
   !Pr:=sub_zip
   !L1:eI t1 (Shared.heap ⟨hp,g,d,tk,os⟩) l1 xs:=q1
   !L2:eI t2 (Shared.heap ⟨hp.push (gH t1 l1),g,d,tk,os⟩) l2 ys:=eI.cn q2 λo e=>Rr _ e
   wp_walk using Bg L1,Bg L2
   #⟨_,U,?_⟩
   simp only[Tr]at h ⊢
   #h
def sW {prog:Program}{w:World}{A:Around}{E:Value->Shared->Prop}{s:Shared}{t1 t2:Bool}{l1 l2:J}{xs ys:Array Value}{Q:Value->Shared->Prop}(q1:eI t1 s.heap l1 xs)(q2:eI t2 s.heap l2 ys)
   (h:∀g,Z2 t1 t2 g s.heap.objs.size l1 l2 0->(∀c o,s.heap.get? c=S o->g.get? c=S o)->Q (.ref (s.heap.objs.size+4)) {s with heap:=g}) :
   wpAny (model prog w) A (call (.type "zip") [.ref l1,.ref l2]) Q E s:=by
 #callType_new F.called_zip (by left) (F.typeCall_zip_2 _ _) (F.newCall_zip_2 _ _) (λobj=>F.args_object_init_3 obj _ _) F.entry_zip_new (qf t1 t2 l1 l2 xs ys) ⟨q1,q2,?_⟩
 !sz:∀(hh:Heap) (o:Obj),(hh.push o).objs.size=hh.objs.size+1:=λhh o=>Tr hh o
 !e1:(yu t1 t2 s.heap l1 l2).objs.size=s.heap.objs.size+2:=by rw[sz,sz]
 !g4:(Fq t1 t2 s.heap l1 l2).get? (s.heap.objs.size+4)=S {cls:=.type "zip",data:=.fields #[.none,.bool false,.bool false,.ref (s.heap.objs.size+2),.ref (s.heap.objs.size+3)]}:=by
   !:=RK (((yu t1 t2 s.heap l1 l2).push {cls:=.type "tuple",data:=.seq #[.ref s.heap.objs.size,.ref (s.heap.objs.size+1)]}).push {cls:=.type "tuple",data:=.seq #[.none,.none]}) (o:={cls:=.type "zip",data:=.fields #[.none,.bool false,.bool false,.ref (s.heap.objs.size+2),.ref (s.heap.objs.size+3)]}) rfl
   rw[sz,sz,e1]at this
   #this
 !g3:IsPair (Fq t1 t2 s.heap l1 l2) (s.heap.objs.size+3) .none .none:=by
   !:=RK ((yu t1 t2 s.heap l1 l2).push {cls:=.type "tuple",data:=.seq #[.ref s.heap.objs.size,.ref (s.heap.objs.size+1)]}) (o:={cls:=.type "tuple",data:=.seq #[.none,.none]}) rfl
   rw[sz,e1]at this
   #Rr _ this
 !g2:IsPair (Fq t1 t2 s.heap l1 l2) (s.heap.objs.size+2) (.ref s.heap.objs.size) (.ref (s.heap.objs.size+1)):=by
   !:=RK (yu t1 t2 s.heap l1 l2) (o:={cls:=.type "tuple",data:=.seq #[.ref s.heap.objs.size,.ref (s.heap.objs.size+1)]}) rfl
   rw[e1]at this
   #Rr _ (Rr _ this)
 !free:∀(tp:Bool) (a:J),(gH tp a).isFreed=false:=λtp a=>rfl
 !g1:(Fq t1 t2 s.heap l1 l2).get? (s.heap.objs.size+1)=S (gH t2 l2):=by
   !:=RK (s.heap.push (gH t1 l1)) (o:=gH t2 l2) (free _ _)
   rw[sz]at this
   #Rr _ (Rr _ (Rr _ this))
 !g0:(Fq t1 t2 s.heap l1 l2).get? s.heap.objs.size=S (gH t1 l1):=
   Rr _ (Rr _ (Rr _ (Rr _ (RK _ (free _ _)))))
 !mk:∀(tp:Bool) (b a:J) (hh:Heap),hh.get? b=S (gH tp a)->gV tp hh b a 0:=λtp b a hh e=>by
   cases tp
   . #(⟨_,e,U,U⟩ : hh.IsListIter b a 0)
   . #(⟨_,e,U,U⟩ : Ub hh b a 0)
 change _/\_
 #⟨⟨_,g4,U⟩,h _ ⟨g4,g2,⟨_,_,g3⟩,mk _ _ _ _ g0,mk _ _ _ _ g1⟩ λc o x=>
   Rr _ (Rr _ (Rr _ (Rr _ (Rr _ x))))⟩
end PySem
namespace L2
open PySem PySem.Spec PyProof.Rows
def Sq (tp:Bool)(K:Ro)(H:Hp)(a:J)(xs:O V):Prop:=if tp then bS K H a xs else aH K H a xs
section
variable{X:Cx}{pins:O (J×Obj)}{σ:St}{H:Hp}{s:Shared}{tp t1 t2:Bool}{a b:J}{xs ys:O V}
def Inv.sq (I:Inv X pins σ H s)(h:Sq tp X.K H a xs):∃its:O Value,Vals xs its/\eI tp s.heap a its.toArray/\xs~<=sizeLine:=by
 cases tp
 . @⟨its,r,p,z⟩:=I.list (show aH X.K H a xs from h)
   #⟨its,r,p.isList,z⟩
 . #I.tuple (show bS X.K H a xs from h)
def Inv.yi (I:Inv X pins σ H s)(h:Sq tp X.K H a xs)(h':Sq tp X.K H a ys):xs=ys:=by
 cases tp
 . #I.kK (show aH X.K H a xs from h) h'
 . #I.mD (show bS X.K H a xs from h) h'
def B7 (t1 t2:Bool)(K:Ro)(a b:J):It:=
 ⟨λi H=>∃xs ys x y,Sq t1 K H a xs/\Sq t2 K H b ys/\xs[i]?=S x/\ys[i]?=S y,
  λi H v H'=>∃p x y,H p=Z/\v=.ref p/\H'=upd H p (.tup [x,y])/\∀xs ys,Sq t1 K H a xs->Sq t2 K H b ys->xs[i]?=S x/\ys[i]?=S y,
  λi H=>∃xs ys,Sq t1 K H a xs/\Sq t2 K H b ys/\(xs~<=i\/ys~<=i)⟩
def uQ {P:Program}{w:World}{K:Ro}{elts:O Expr}{x1:Nat}{q:Pos}{n:Nat}{a b:Nat}(n1:a<n)(n2:b<n) :
   Turn P w K (.Tuple elts x1 q) (B7 t1 t2 K a b) [n+4,n+2,n+3,n,n+1] (n+4) (λi h=>Z2 t1 t2 h n a b i) where
 mem:=by simp
 obj:=λi h Z8x c hc=>by
   @⟨z,ti,⟨x,y,to⟩,i1,i2⟩:=Z8x
   simp only[Sh,R4,or_false]at hc
   rcases hc with rfl|rfl|rfl|rfl|rfl
   . #⟨_,z,λv q=>nomatch q⟩
   . #⟨_,ti,λv q=>nomatch q⟩
   . #⟨_,to,λv q=>nomatch q⟩
   . #i1.obj
   . #i2.obj
 keep:=λi h h' Z8x k=>by
   @⟨z,ti,⟨x,y,to⟩,i1,i2⟩:=Z8x
   #⟨k _ (by simp) _ z,k _ (by simp) _ ti,⟨x,y,k _ (by simp) _ to⟩,i1.cn λo e=>k _ (by simp) o e,i2.cn λo e=>k _ (by simp) o e⟩
 item:=by
   intro X hP hw hK hc i pins s σ H E I hf Z8x hg
   subst hP hw hK
   @⟨xs,ys,x,y,q1,q2,hx,hy⟩:=hg
   @⟨vY,r1,p1,_⟩:=I.sq q1
   @⟨tX,r2,p2,_⟩:=I.sq q2
   @⟨u,hu,ru⟩:=r1.get hx
   @⟨v,hv,rv⟩:=r2.get hy
   !hT:s.TypeIs (.ref (n+4)) "zip":=⟨_,Z8x.z,rfl⟩
   unfold pyNext
   #wpAny_bind (wpAny_attempt (Tt (name:=Rt "__next__") hT T5 (wpAny_call_entry T5 hT VO
     (uS n1 n2 Z8x p1 p2 (x:=u) (y:=v) (by simpa using hu) (by simpa using hv) λg a1 a2 a3 a4 a5 hk=>wpAny_pure ?_) (VI _))))
   #⟨_,U,wpAny_letOwnedTupleGo_zip (s:={s with heap:=g}) a1 λg2 z2 e2=>?_⟩
   !hN:H s.heap.objs.size=Z:=I.hok.fresh (Rz _)
   !MN:n+4<s.heap.objs.size:=RD Z8x.z
   !kk:∀c o,c∉([n+4,n+3,n,n+1]:O J)->s.heap.get? c=S o->g2.get? c=S o:=λc o pA e=>
     e2.extBut _ _ (λz=>pA (by rw[z];simp)) (hk c o pA e)
   !OK:IsPair g2 s.heap.objs.size u v:=e2.extBut _ _ (Tg MN) a5
   !I1:Inv X pins σ (upd H s.heap.objs.size (.tup [x,y])) {s with heap:=g2,toks:=s.toks}:=I.many (ch:=[n+4,n+3,n,n+1]) (λc pA=>hf c (by simp only[Sh,R4,or_false]at pA ⊢;rcases pA with r|r|r|r<;>simp[r])) kk (Rz _)
     ⟨by change 2<=sizeLine;decide,[u,v],.cons ru (.cons rv .nil),_,OK,rfl,_,rfl⟩
   #⟨.ref s.heap.objs.size,_,I1,U,⟨_,x,y,hN,U,U,λEV Rm w1 w2=>?_⟩,?_,λc pA=>?_⟩
   . rw[I.yi w1 q1,I.yi w2 q2];#⟨hx,hy⟩
   . #⟨z2,e2.extBut _ _ (show @Ne Nat _ _ by lia) (hk _ _ (by simp only[Sh,R4,or_false,not_or];#⟨show @Ne Nat _ _ by lia,show @Ne Nat _ _ by lia,show @Ne Nat _ _ by lia,show @Ne Nat _ _ by lia⟩) Z8x.ti),⟨_,_,e2.extBut _ _ (show @Ne Nat _ _ by lia) a2⟩,a3.cn λo e=>e2.extBut _ _ (show @Ne Nat _ _ by lia) e,a4.cn λo e=>e2.extBut _ _ (show @Ne Nat _ _ by lia) e⟩
   . !lt:c<s.heap.objs.size:=by
       !:c<=n+4:=by
         simp only[Sh,R4,or_false]at pA
         !:=pA
         !h2 : @Eq Nat c (n+4) \/ @Eq Nat c (n+2) \/ @Eq Nat c (n+3) \/ @Eq Nat c n \/ @Eq Nat c (n+1):=pA
         change @LE.le Nat _ c (n+4)
         lia
       #Tv this MN
     rw[ah (R1 lt)]
     #(hf c pA).1
 done:=by
   intro X hP hw hK hc i pins s σ H E I hf Z8x hg
   subst hP hw hK
   @⟨xs,ys,q1,q2,Gj⟩:=hg
   @⟨vY,r1,p1,_⟩:=I.sq q1
   @⟨tX,r2,p2,_⟩:=I.sq q2
   !l1:=r1~
   !l2:=r2~
   !hT:s.TypeIs (.ref (n+4)) "zip":=⟨_,Z8x.z,rfl⟩
   unfold pyNext
   #wpAny_bind (wpAny_attempt (Tt (name:=Rt "__next__") hT T5 (wpAny_call_entry T5 hT VO
     (yv (I.ok.hd hc) n1 n2 Z8x p1 p2 ?_ λg e hk he=>?_) (VI _))))
   . rcases Gj with q|q
     . #.inl (by simp;lia)
     . #.inr (by simp;lia)
   . @⟨o,ho,ng⟩:=he
     #wpAny_bind (wpAny_isInstance (T:="StopIteration") (b:=true) ⟨o,ho,ng⟩ isSubtype_stop (wpAny_pure ⟨U,?_⟩))
     #I.Bj (t':=s.toks) (ch:=[n+4,n+3,n,n+1]) (λc pA=>hf c (by simp only[Sh,R4,or_false]at pA ⊢;rcases pA with r|r|r|r<;>simp[r])) hk
 self:=λt t t t t Z8x h=>wpAny_pyIter_zip Z8x.z h
def Bf (t1 t2:Bool)(K:Ro)(ta:TA):TI:=λσ H R=>ta σ H λvs H1=>∃a b,vs=[.ref a,.ref b]/\(∃xs,Sq t1 K H1 a xs)/\(∃ys,Sq t2 K H1 b ys)/\R (B7 t1 t2 K a b) H1
def Ai {e f:Expr}{ta:TA}{p pos q:Pos}{elts:O Expr}{x1:Nat}(hg:Gl X "zip")(hm:X.mg "zip"=Z)(ha:PA X [e,f] ta)(hs:starEach [e,f] X.env=[(false,eval e X.env),(false,eval f X.env)]:=by rfl)(hs2:starEach [f] X.env=[(false,eval f X.env)]:=by rfl)
   (hb:SJ "zip"=S (.type "zip"):=by first|rfl|decide +kernel):PI X (.Tuple elts x1 q) (.Call (.Name "zip" p) [e,f] [] pos) (Bf t1 t2 X.K ta):=by
 intro pins s σ H R I h
 #Call_ (fF I hg hm hb (SY (bw (ha pos pins s σ H _ I h) λus s1 h9=>?_) (by rw[hs,hs2]) (by rw[hs2];rfl)))
 @⟨vs,H1,I1,r1,w⟩:=h9
 @⟨l1,l2,e,⟨xs,q1⟩,⟨ys,q2⟩,w⟩:=w
 subst e
 @⟨u,v,rfl,ru,rv⟩:=Vals.two r1
 obtain rfl:u=R6 l1:=ru
 obtain rfl:v=R6 l2:=rv
 @⟨vY,Eo,p1,_⟩:=I1.sq q1
 @⟨tX,Ra,p2,_⟩:=I1.sq q2
 #sW p1 p2 λg Z8x hk=>?_
 #wpAny_pyIter_zip Z8x.z ?_
 !I2:Inv X pins σ H1 {s1 with heap:=g}:=I1.kept (t':=s1.toks) hk
 #⟨_,_,_,_,H1,U,I2,uQ p1.lt p2.lt,Z8x,λc hc=>?_,w⟩
 simp only[Sh,R4,or_false]at hc
 !up:∀k,ef X pins H1 (s1.heap.objs.size+k):=λk=>I1.oF (UH _ _) (I1.hok.fresh (UH _ _))
 rcases hc with rfl|rfl|rfl|rfl|rfl
 . #up 4
 . #up 2
 . #up 3
 . #up 0
 . #up 1
end
section
variable{K:Ro}{a b:J}{xs ys:O V}{g:TG}{t1 t2:Bool}
def l7 {tifs:TT}{tm:TM}{σ0:St}{Z8x:Hp->Prop}{H:Hp}(hlen:xs~=ys~)(Pv:Nat->Hp->Prop)(h0:Pv 0 H)(hl:∀i H,i<=xs~->Pv i H->Sq t1 K H a xs/\Sq t2 K H b ys)
   (turn:∀i x y p H,xs[i]?=S x->ys[i]?=S y->Pv i H->H p=Z->g (.ref p) σ0 (upd H p (.tup [x,y])) λσ2 H2=>tifs σ2 H2 λb H3=>
     if b=true then tm σ2 H3 λH4=>bz σ0 σ2/\∃m',m'<xs~-i/\(m'=xs~-(i+1)/\i+1<=xs~/\Pv (i+1) H4)else bz σ0 σ2/\∃m',m'<xs~-i/\(m'=xs~-(i+1)/\i+1<=xs~/\Pv (i+1) H3))
   (hZ:∀H,Pv xs~ H->Z8x H):lA (B7 t1 t2 K a b) σ0 g tifs tm Z8x H:=by
 #jI xs~ Pv h0 (λi H hi p=>⟨xs,ys,xs[i],ys[i]'(hlen▸hi),(hl i H (S3 hi) p).1,(hl i H (S3 hi) p).2,by simp[hi],by simp[hlen▸hi]⟩) (λH p=>⟨xs,ys,(hl _ H (Rz _) p).1,(hl _ H (Rz _) p).2,.inl (Rz _)⟩) (λi H hi p x H' y=>?_) hZ
 @⟨pp,x1,y1,hn,rfl,rfl,k⟩:=y
 @⟨k1,k2⟩:=k xs ys (hl i H (S3 hi) p).1 (hl i H (S3 hi) p).2
 #turn i x1 y1 pp H k1 k2 p hn
end
end L2
namespace L3
open PySem PySem.Spec PyProof.Rows L2
section
variable{X:Cx}{a b c e o:Expr}{es:O Expr}{ta tb tc te:TE}{t:TA}{pos:Pos}
def PL (t1 t2:Bool){KK:Ro}{p q:Pos}{elts:O Expr}{x1:Nat}(hg:Gl X "zip")(hm:X.mg "zip"=Z)(ha:SA X [a,b] t)(hb:bL b:=by first|show nE|show nF|show jO)(hK:X.K=KK:=by first|show br|rfl):SI X (.Tuple elts x1 q) (.Call (.Name "zip" p) [a,b] [] pos) (Bf t1 t2 KK t):=by
 subst hK
 #⟨Ai hg hm ha.h.pa (by rw[(ha.h.ns a [b] rfl).1.h [b] X.env,hb.h [] X.env];rfl) (by rw[hb.h [] X.env];rfl)⟩
end
end L3
namespace L2
open PySem PySem.Spec PyProof.Rows
section
variable{X:Cx}
theorem mG:∀{ts:O Str} {us:O Value},Vals (ts.map V.str) us->∃l:O (Str×Tok),us=strValues l/\l.map (·.1)=ts
 | [],_,.nil=>⟨[],rfl,rfl⟩
 | t::ts,_,.cons h r=>by
   @⟨k,rfl⟩:=h
   @⟨l,rfl,e⟩:=mG r
   #⟨(t,k)::l,U,by rw[R3,e]⟩
def rJoin (K:Ro):V->O V->Hp->VK->Prop:=λx xs H Q=>∃(z:Str) (l:J) (ts:O Str),x=.str z/\xs=[.ref l]/\aH K H l (ts.map V.str)/\JoinOk z ts=true/\Q (.str (RM z ts)) H
def zu:EX X "str.join" (rJoin X.K):=by
 intro pins s σ H x xs v us Q I rx rs h
 @⟨z,l,ts,rfl,rfl,hl,hj,q⟩:=h
 @⟨t,rfl⟩:=rx
 @⟨u,rfl,ru⟩:=vals1 rs
 obtain rfl:u=R6 l:=ru
 @⟨its,r,p,_⟩:=I.list hl
 @⟨ps,rfl,e⟩:=mG r
 #SC.join p.isList e hj λt' k=>⟨.str _,H,I.tok _,⟨_,U⟩,q⟩
def sU:dz X (.type "str") (λxs H Q=>(∃i:Int,xs=[.int i]/\i.natAbs.log2<1920/\Q (.str (toString i)) H)\/∃y,xs=[.str y]/\Q (.str y) H):=by
 intro pins s σ H xs us Q I r h
 rcases h with h|⟨y,rfl,q⟩
 . #mS pins s σ H xs us Q I r h
 . @⟨u,rfl,t,rfl⟩:=vals1 r
   #PySem.P.str_of_str ⟨.str y,H,I,⟨_,U⟩,q⟩
def Dn:gC X (compareOp .In) (λx y H Q=>∃a b:Str,x=.str a/\y=.str b/\Q (.bl (Vt b a)) H):=by
 intro pins s σ H x y v u Q I rx ry h
 @⟨a,b,rfl,rfl,q⟩:=h
 @⟨t,rfl⟩:=rx
 @⟨t2,rfl⟩:=ry
 #SB.contains ⟨.bl _,H,I,U,q⟩
variable{a:Expr}{ps:O Expr}{t:NK}{te:TE}{pos:Pos}
end
end L2
namespace L3
open PySem PySem.Spec PyProof.Rows L2
section
variable{X:Cx}{a b c e o:Expr}{es:O Expr}{ta tb tc te:TE}{t:TA}{tf:NK}{pos:Pos}
def kZ {KK:Ro}{apos:Pos}(ho:SE X o ta)(ha:SA X [e] t)(hbase:Ss o "join" X.env (eval o X.env)=eval o X.env:=by rfl)(hline:(apos.endLine==pos.line)=true:=by rfl)(hK:X.K=KK:=by first|show br|rfl):SE X (.Call (.Attribute o "join" apos) [e] [] pos) (EI KK "str" (rJoin KK) ta t):=by
 subst hK
 #IZ Ux PySem.F.slot_str_join PySem.F.type_str_join ⟨zu⟩ ho ha hbase hline
def jw:SC X (.type "str") (λxs H Q=>(∃i:Int,xs=[.int i]/\i.natAbs.log2<1920/\Q (.str (toString i)) H)\/∃y,xs=[.str y]/\Q (.str y) H):=⟨sU⟩
def mL:SC X (.builtin "len") (λxs H Q=>∃z,xs=[.str z]/\z~<=sizeLine/\Q (.int z~) H):=⟨mQ⟩
def wO:SO X (compareOp .In) (λx y H Q=>∃a b:Str,x=.str a/\y=.str b/\Q (.bl (Vt b a)) H):=⟨Dn⟩
def G1:SO X (binaryOp .RShift) (rI (λz j=>0<=j) λi j=>.int (i/2^j.toNat)):=⟨Dv⟩
end
end L3
namespace PySem.StrLaws
open Builtin Builtin.Str
theorem nJ (s sub:Str)(hi limit:Nat):∀(l:O Nat) (st:Array Nat×Nat),st.fst.size<=limit->(forIn l st (occBody s sub hi limit)).run.fst.size<=limit
 | [],_,h=>h
 | a::l,st,h=>by
   rw[UT]
   unfold occBody
   split
   . rename_i hc
     #nJ s sub hi limit l _ ?_
     change(st.fst.push a).size<=limit
     rw[Array.size_push]
     !:=hc.1.1.1
     lia
   . #nJ s sub hi limit l _ h
def zH (x y:Str)(limit:Nat):(occurrences x y 0 x~ limit)~<=limit:=by
 rw[occ_eq]
 !:=nJ x y x~ limit (List.range' 0 (x~+1-0)) (#[],0) (Sd _)
 simpa using this
def uv (x y:Str):(partsBetween x (occurrences x y 0 x~ (x~+1)) y~)~<=x~+2:=by
 !:=zH x y (x~+1)
 unfold partsBetween
 simp
 lia
end PySem.StrLaws
namespace L2
open PySem PySem.Spec PyProof.Rows
section
variable{X:Cx}
def xH:V->O V->Hp->VK->Prop:=λx xs H Q=>∃(z y:Str),x=.str z/\xs=[.str y]/\(y~==0)=false/\z~+2<=sizeLine/\(S7 z y)~<=sizeLine/\∀l,H l=Z->Q (.ref l) (upd H l (.lst ((S7 z y).map V.str)))
theorem mC:∀(l:O (Str×Tok)),Vals ((l.map (·.1)).map V.str) (strValues l)
 | []=>.nil
 | p::l=>.cons ⟨p.2,rfl⟩ (mC l)
def wq:EX X "str.split" xH:=by
 intro pins s σ H x xs v us Q I rx rs h
 @⟨z,y,rfl,rfl,hy,hz,hl,q⟩:=h
 @⟨t,rfl⟩:=rx
 @⟨u,rfl,ru⟩:=vals1 rs
 @⟨t2,rfl⟩:=ru
 !fin:∀(l:O (Str×Tok)) (tk:Nat),l.map (·.1)=S7 z y->EP X pins σ Q (.ref s.heap.objs.size) {s with toks:=tk,heap:=s.heap.push {cls:=.type "list",data:=.seq (strValues l).toArray} }:=λl tk e=>
   ⟨.ref s.heap.objs.size,_,I.laid (a:=s.heap.objs.size) (o:=.lst ((S7 z y).map V.str)) (t':=tk) (λw w q=>Rr _ q) (Rz _) ⟨by rw[Rn];show hl,strValues l,0,by rw[← e];#mC l,RK _ rfl⟩,rfl,q _ (I.hok.fresh (Rz _))⟩
 cases h1:(decide (z~<y~) || decide (VL z<VL y))
 . cases hf:(Vr z y 0 z~ (z~+1)).isEmpty
   . #Vh T3 (typeIs_str _ _ _) Ut (Ul _ _) (meets_str_split_sep z y t t2 h1 hy hf (by lia) (Ry (StrLaws.uv z y) hz)) ?_
     change wants _ _ _ {s with toks:=_,heap:=s.heap.push {cls:=.type "list",data:=.seq (strsFrom s.toks (Builtin.Str.partsBetween z (Vr z y 0 z~ (z~+1)) y~)).toArray} }
     rw[strsFrom_eq]
     #fin (numbered s.toks _) _ ((numbered_texts _ _).trans ((dh (ne_true_of_eq_false h1)).trans (dh (ne_true_of_eq_false hf))).symm)
   . #Vh T3 (typeIs_str _ _ _) Ut (Ul _ _) (meets_str_split_not_found z y t t2 h1 hy hf) (fin [(z,t)] _ ((dh (ne_true_of_eq_false h1)).trans (dI hf)).symm)
 . #Vh T3 (typeIs_str _ _ _) Ut (Ul _ _) (meets_str_split_cannot_occur z y t t2 h1) (fin [(z,t)] _ (dI h1).symm)
def sS:dz X (.type "int") (λxs H Q=>∃(x:Str) (n:Int),xs=[.str x]/\VE x=S n/\x~<=640/\Q (.int n) H):=by
 intro pins s σ H xs us Q I r h
 @⟨x,n,rfl,hn,hl,q⟩:=h
 @⟨u,rfl,t,rfl⟩:=vals1 r
 #PySem.W.KIN.call_text hn hl ⟨.int n,H,I.tok _,⟨_,U⟩,q⟩
def eG (w:World)(K:Ro)(a:J)(kvs:O (Str×V)):Prop:=
 ∃(es:Array TZ) (n:Nat),K.lookup a=S ⟨.type "dict",Z,.dict es n,#[]⟩/\PySem.W.KeysLit w.params es.toList/\(a==Th)=false/\Paired (λ(e:TZ) (q:Str×V)=>(∃t,e.key=.str q.1 t)/\RelV q.2 e.val) es.toList kvs
theorem eG.find {w:World}{K:Ro}{a:J}{es:O TZ}{kvs:O (Str×V)}(h:Paired (λ(e:TZ) (q:Str×V)=>(∃t,e.key=.str q.1 t)/\RelV q.2 e.val) es kvs)(k:Str) :
   eh (kvs.lookup k) ((es.find? λe=>TY k e.key).map (·.val)):=by
 induction h with
 | nil=>#RO
 | @cons e q l l' r _ ih=>
   @⟨⟨t,ek⟩,rv⟩:=r
   @⟨qk,qv⟩:=q
   by_cases hk:k=qk
   . subst hk
     !e1:TY k e.key=true:=by rw[ek];simp[TY]
     rw[List.find?_cons_of_pos (by#e1),List.lookup_cons_self]
     #rv
   . !e1:¬ TY k e.key=true:=by rw[ek];simp[TY];#λz=>hk (by first|show z|show z.symm)
     rw[List.find?_cons_of_neg (by#e1),Tj,beq_eq_false_iff_ne.mpr hk]
     #ih
def eG.map {X:Cx}{pins:O (J×Obj)}{σ:St}{H:Hp}{s:Shared}{a:J}{kvs:O (Str×V)}(I:Inv X pins σ H s)(d:eG X.w X.K a kvs):∃f,s.heap.MapOf (strKind X.prog X.w) a f/\(a==Th)=false/\(∀k,eh (kvs.lookup k) (f k))/\∃ob,s.heap.get? a=S ob/\ob.dict=Z:=by
 @⟨es,n,hl,hk,hs,hp⟩:=d
 #⟨_,PySem.W.mapOf_K (prog:=X.prog) (w:=X.w) (h:=s.heap) I.lM hl hk,hs,λk=>?_,_,I.lM _ _ hl,U⟩
 !:=eG.find hp k (w:=X.w) (K:=X.K) (a:=a)
 @⟨l⟩:=es
 unfold findBy
 rw[List.find?_toArray]
 #this
def Ar:Bool->World->Ro->R2:=λneg w K x y H Q=>∃k a kvs,x=.str k/\y=.ref a/\eG w K a kvs/\Q (.bl (if neg then !(kvs.lookup k).isSome else(kvs.lookup k).isSome)) H
def mz {a:Option V}{b:Option Value}(h:eh a b):a.isSome=b.isSome:=by
 cases a<;>cases b<;>first|rfl|show h.elim
def Dq:gC X (compareOp .In) (Ar false X.w X.K):=by
 intro pins s σ H x y v u Q I rx ry h
 @⟨k,a,kvs,rfl,rfl,d,q⟩:=h
 @⟨t,rfl⟩:=rx
 cases ry
 @⟨f,hm,hs,hf,_⟩:=d.map I
 #wpAny_in_of (strKind_is X.prog X.w k t) hs hm ⟨.bl _,H,I.tok _,?_,q⟩
 change Ur (f k).isSome=Ur _
 rw[← mz (hf k)]
 rfl
def zW:gC X (compareOp .NotIn) (Ar true X.w X.K):=by
 intro pins s σ H x y v u Q I rx ry h
 @⟨k,a,kvs,rfl,rfl,d,q⟩:=h
 @⟨t,rfl⟩:=rx
 cases ry
 @⟨f,hm,hs,hf,_⟩:=d.map I
 #wpAny_notIn_of (strKind_is X.prog X.w k t) hs hm ⟨.bl _,H,I.tok _,?_,q⟩
 change Ur (!(f k).isSome)=Ur _
 rw[← mz (hf k)]
 rfl
variable{o e f:Expr}{td ty tx:TE}{apos cpos pos:Pos}
def Ng (w:World)(K:Ro)(td ty:TE):TE:=λσ H Q=>td σ H λx H1=>ty σ H1 λy H2=>∃a k v kvs,x=.ref a/\y=.str k/\eG w K a kvs/\kvs.lookup k=S v/\Q v H2
def Hn (ho:PE X o td)(hi:PE X e ty)(hs:u6 e):PE X (.Subscript o e pos) (Ng X.w X.K td ty):=by
 intro pins s σ H Q I h
 #sr PySem.F.slot_dict_getitem.lookup hs (bw (ho pins s σ H _ I h) λu s1 g9=>?_)
 @⟨x,H1,I1,rx,q1⟩:=g9
 #bw (hi pins s1 σ H1 _ I1 q1) λiv s2 h9=>?_
 @⟨y,H2,I2,ry,a,k,v,kvs,ex,ey,d,l,q2⟩:=h9
 subst ex ey
 obtain rfl:u=R6 a:=rx
 @⟨t,rfl⟩:=ry
 @⟨f,hm,hs,hf,_⟩:=d.map I2
 !hk:=hf k
 rw[l]at hk
 cases e2:f k with
 | none=>rw[e2]at hk;#hk.elim
 | some z=>rw[e2]at hk;#⟨hm.typeIs,wpAny_getItem_of (strKind_is X.prog X.w k t) hm e2 ⟨v,H2,I2.tok _,hk,q2⟩⟩
def IC (w:World)(K:Ro)(td ty:TE):TE:=λσ H Q=>td σ H λx H1=>∃a kvs,x=.ref a/\eG w K a kvs/\ty σ H1 λy H2=>∃k,y=.str k/\Q ((kvs.lookup k).getD .bI) H2
def DL (ho:PE X o td)(he:PE X e ty)(m:M1 X o "get" apos e cpos):PE X (.Call (.Attribute o "get" apos) [e] [] cpos) (IC X.w X.K td ty):=by
 intro pins s σ H Q I h
 #wpAny_Call_method m.base m.few m.line VG T6 V1 (bw (ho pins s σ H _ I h) λu s1 h9=>?_)
 @⟨x,H1,I1,rx,a,kvs,ex,d,q1⟩:=h9
 subst ex
 obtain rfl:u=R6 a:=rx
 @⟨f1,hm1,_,_,K9,o1,o2⟩:=d.map I1
 #⟨hm1.typeIs,(λb z=>by cases z;#⟨K9,o1,o2⟩),?_⟩
 rw[m.trees]
 #Ts rfl (TL (Su (bw (he pins s1 σ H1 _ I1 q1) λiv s2 g9=>?_)))
 @⟨y,H2,I2,ry,k,ek,q2⟩:=g9
 #Tc ?_
 subst ek
 @⟨t,rfl⟩:=ry
 @⟨f,hm,hs,hf,_⟩:=d.map I2
 #call_meetsIn T6 hm.typeIs VP (PySem.F.args_dict_get_2 _ _) (meets_dict_get (strKind X.prog X.w) a (strKind_is X.prog X.w k t) hs) ⟨_,hm,_,H2,I2.tok _,(hf k).getD (show RelV V.bI SH from rfl),q2⟩
def ID (w:World)(K:Ro)(td ty tx:TE):TE:=λσ H Q=>td σ H λx H1=>∃a kvs,x=.ref a/\eG w K a kvs/\ty σ H1 λy H2=>tx σ H2 λz H3=>∃k,y=.str k/\Q ((kvs.lookup k).getD z) H3
def DM (ho:PE X o td)(he:PE X e ty)(hf:PE X f tx)(m:M2 X o "get" apos e f cpos):PE X (.Call (.Attribute o "get" apos) [e,f] [] cpos) (ID X.w X.K td ty tx):=by
 intro pins s σ H Q I h
 #wpAny_Call_method m.base m.few m.line VG T6 V1 (bw (ho pins s σ H _ I h) λu s1 h9=>?_)
 @⟨x,H1,I1,rx,a,kvs,ex,d,q1⟩:=h9
 subst ex
 obtain rfl:u=R6 a:=rx
 @⟨f1,hm1,_,_,K9,o1,o2⟩:=d.map I1
 #⟨hm1.typeIs,(λb z=>by cases z;#⟨K9,o1,o2⟩),?_⟩
 rw[m.trees]
 #Ts rfl (TL (Su (bw (he pins s1 σ H1 _ I1 q1) λiv s2 g9=>?_)))
 @⟨y,H2,I2,ry,q2⟩:=g9
 #Su (bw (hf pins s2 σ H2 _ I2 q2) λfv s3 g9=>?_)
 @⟨z,H3,I3,rz,k,ek,q3⟩:=g9
 #Tc ?_
 subst ek
 @⟨t,rfl⟩:=ry
 @⟨g,hm,hs,hg,_⟩:=d.map I3
 #call_meetsIn T6 hm.typeIs VP (PySem.F.args_dict_get_3 _ _ _) (meets_dict_get_default (strKind X.prog X.w) a (strKind_is X.prog X.w k t) hs _) ⟨_,hm,_,H3,I3.tok _,(hg k).getD rz,q3⟩
end
end L2
namespace L3
open PySem PySem.Spec PyProof.Rows L2
section
variable{X:Cx}{a b c e o f:Expr}{es:O Expr}{ta tb tc te tf:TE}{t:TA}{pos:Pos}
def yj {KK:Ro}{apos:Pos}(ho:SE X o ta)(ha:SA X [e] t)(hbase:Ss o "split" X.env (eval o X.env)=eval o X.env:=by rfl)(hline:(apos.endLine==pos.line)=true:=by rfl)(hK:X.K=KK:=by first|show br|rfl):SE X (.Call (.Attribute o "split" apos) [e] [] pos) (EI KK "str" xH ta t):=by
 subst hK
 #IZ Ux T3 PySem.F.type_str_split ⟨wq⟩ ho ha hbase hline
def Cm:SC X (.type "int") (λxs H Q=>∃(x:Str) (n:Int),xs=[.str x]/\VE x=S n/\x~<=640/\Q (.int n) H):=⟨sS⟩
def BJ {p2:Pos}(ha:SE X a ta)(hb:SE X b tb)(hc:SE X c tc):SE X (.Subscript a (.Slice (S b) (S c) Z p2) pos) (EM Eg ta (jc tb) (jc tc)):=⟨eP x9 ha.h (d8 hb.h) (d8 hc.h)⟩
def G0 {KK:Ro}{ww:World}(hK:X.K=KK:=by first|show br|rfl)(hw:X.w=ww:=by rfl):SO X (compareOp .In) (Ar false ww KK):=by
 subst hK hw
 #⟨Dq⟩
def C9 {KK:Ro}{ww:World}(hK:X.K=KK:=by first|show br|rfl)(hw:X.w=ww:=by rfl):SO X (compareOp .NotIn) (Ar true ww KK):=by
 subst hK hw
 #⟨zW⟩
def kg {KK:Ro}{ww:World}(ho:SE X a ta)(hi:SE X b tb)(hs:u6 b:=by#λz z=>rfl)(hK:X.K=KK:=by first|show br|rfl)(hw:X.w=ww:=by rfl):SE X (.Subscript a b pos) (Ng ww KK ta tb):=by
 subst hK hw
 #⟨Hn ho.h hi.h hs⟩
def PY {KK:Ro}{ww:World}{apos:Pos}(ho:SE X o ta)(he:SE X e te)(m:M1 X o "get" apos e pos:=by#⟨rfl,rfl,rfl,rfl⟩)(hK:X.K=KK:=by first|show br|rfl)(hw:X.w=ww:=by rfl):SE X (.Call (.Attribute o "get" apos) [e] [] pos) (IC ww KK ta te):=by
 subst hK hw
 #⟨DL ho.h he.h m⟩
def PZ {KK:Ro}{ww:World}{apos:Pos}(ho:SE X o ta)(he:SE X e te)(hf:SE X f tf)(m:M2 X o "get" apos e f pos:=by#⟨rfl,rfl,rfl,rfl⟩)(hK:X.K=KK:=by first|show br|rfl)(hw:X.w=ww:=by rfl):SE X (.Call (.Attribute o "get" apos) [e,f] [] pos) (ID ww KK ta te tf):=by
 subst hK hw
 #⟨DM ho.h he.h hf.h m⟩
def Ht {KK:Ro}{apos:Pos}(ho:SE X o ta)(hbase:Ss o "pop" X.env (eval o X.env)=eval o X.env:=by rfl)(hline:(apos.endLine==pos.line)=true:=by rfl)(hK:X.K=KK:=by first|show br|rfl):SE X (.Call (.Attribute o "pop" apos) [] [] pos) (Iy KK "list" HV ta):=by
 subst hK
 #⟨DH Us V2 V0 C7 ho.h hbase hline⟩
def u7 {KK:Ro}{x:Str}{AN:Pos}(ha:SE X a ta)(hv:SE X e te)(hK:X.K=KK:=by first|show br|rfl):SS X (.AugAssign (.Attribute a x AN) .Add e pos) (rR KK ta te HN x):=by
 subst hK
 #⟨uA ha.h hv.h CN⟩
def A4 {x:Expr}{op:UnaryOp}{p:Pos}(ho:SE X a ta)(hi:SE X (.UnaryOp op x p) tb):SG X (.Subscript a (.UnaryOp op x p) pos) (za ta tb rQ):=⟨qt ho.h hi.h set_list (λz=>rfl)⟩
end
end L3
namespace HT
open PySem PySem.Spec PyProof.Rows
end HT
namespace L2
open PySem PySem.Spec PyProof.Rows
end L2
namespace L3
open PySem PySem.Spec PyProof.Rows L2
end L3
namespace L2
open PySem PySem.Spec PyProof.Rows
section
variable{M8:Model}{A:Around}{E:Value->Shared->Prop}{s:Shared}{B:Heap}{e:J}{cls a0 fl:Value}
structure Way (B:Heap)(l:O Env)(e:J)(cls a0 fl:Value)(h:Heap):Prop where
 st:B.StaysIn h
 no:B.get? e=Z
 fr:h.FunFrames B l
 tr:h.TracedAtW B e cls a0 fl
def gQ {l:O Env}{o:Option J}{Q:Unit->Shared->Prop}(x:Way B l e cls a0 fl s.heap)
   (h:∀h',Way B l e cls a0 (o.elim SH λf=>rawInt f) h'->s.heap.UpToSlots h'->Q () {s with heap:=h'}):wpAny M8 A (setFlight (.ref e) o) Q E s:=by
 @⟨x1,x2,x3,oe,vs,T,oT,ts,ze,ng,zd,z1,A9,Fd,zT,B2,z3⟩:=x
 !big:3<ts.size:=(Array.getElem?_eq_some_iff.mp z3).1
 !zY:∀b,b≠T->(s.heap.update T (UC (·.setIfInBounds 3 (o.elim SH λf=>rawInt f)))).get? b=s.heap.get? b:=λb nb=>T7 _ _ nb.symm
 !rec_:∀b ob,s.heap.get? b=S ob->(∀vs,ob.data≠.fields vs)->b≠T:=λb ob hb nf z=>by
   subst z
   rw[zT]at hb
   cases hb
   #nf ts B2
 !ij:∀b ob,B.get? b=S ob->b≠T:=λb ob hb z=>by
   subst z
   rw[A9]at hb
   cases hb
 unfold setFlight
 #wpAny_bind (wpAny_field ze zd z1 ?_)
 rw[dI (by simp)]
 #wpAny_setField zT B2 big (h _ ⟨λb ob hb=>?_,x2,x3.of_keeps λb ob hb nf=>?_,?_⟩ λb ob hb nf=>?_)
 . rw[zY b (ij b ob hb)];#x1 b ob hb
 . #⟨ob,by rw[zY b (rec_ b ob hb nf)];#hb,U⟩
 . #⟨oe,vs,T,_,_,by rw[zY e Fd.symm];#ze,ng,zd,z1,A9,Fd,UU _ zT (Wl (Uo B2 _)),Uo B2 _,?_⟩
   simp[big]
 . #⟨ob.slots,by rw[zY b (rec_ b ob hb nf)];#hb⟩
def oR {env:Env}{outer:O Env}{L8:J}{Q:Unit->Shared->Prop}(hfr:A.frames=S (env::outer))(hf:env.frame=S L8)(x:Way B (env::outer) e cls a0 fl s.heap)
   (h:∀h',Wh B outer e cls a0 h'->s.heap.UpToSlots h'->Q () {s with heap:=h'}):wpAny M8 A (leaving env (.ref e)) Q E s:=by
 by_cases hz:fl=rawInt L8
 . subst hz
   unfold leaving
   #wpAny_bind (wpAny_noteFrame_againW hf x.tr (gQ x λh' w u=>?_))
   #h h' ⟨w.st,w.no,w.fr.2.2,w.tr⟩ u
 . @⟨x1,x2,x3,oe,vs,T,oT,ts,ze,⟨ng,h0⟩,zd,z1,A9,Fd,zT,B2,z3⟩:=x
   subst ng
   !zY:∀b,b≠T->(s.heap.update T (UC (·.setIfInBounds 3 SH))).get? b=s.heap.get? b:=λb nb=>T7 _ _ nb.symm
   !rec_:∀b ob,s.heap.get? b=S ob->(∀vs,ob.data≠.fields vs)->b≠T:=λb ob hb nf z=>by
     subst z
     rw[zT]at hb
     cases hb
     #nf ts B2
   !ij:∀b ob,B.get? b=S ob->b≠T:=λb ob hb z=>by
     subst z
     rw[A9]at hb
     cases hb
   unfold leaving noteFrame
   simp only[hf]
   #wpAny_bind (wpAny_bind (wpAny_field ze zd z1 ?_))
   rw[dI (by simp)]
   #wpAny_bind (wpAny_field zT B2 z3 ?_)
   rw[dh (λz=>hz (eq_of_beq z))]
   #wpAny_bind (wpAny_setField zT B2 (Array.getElem?_eq_some_iff.mp z3).1 ?_)
   !g1:B.StaysIn (s.heap.update T (UC (·.setIfInBounds 3 SH))):=λb ob hb=>by rw[zY b (ij b ob hb)];#x1 b ob hb
   !g2:(s.heap.update T (UC (·.setIfInBounds 3 SH))).FunFrames B (env::outer):=x3.of_keeps λb ob hb nf=>⟨ob,by rw[zY b (rec_ b ob hb nf)];#hb,rfl⟩
   !g3:(s.heap.update T (UC (·.setIfInBounds 3 SH))).get? e=S oe:=by rw[zY e Fd.symm];#ze
   #wpAny_newEntryW hfr g2 hf g3 g1 x2 zd (Array.getElem?_eq_some_iff.mp z1).1 h0 λh' y=>?_
   @⟨y1,y2,y3,y4⟩:=y
   #h h' ⟨y1,x2,y2.2.2,y3⟩ λb ob hb nf=>y4 b ob (by rw[zY b (rec_ b ob hb nf)];#hb) nf
end
def oj (X:Cx)(E:XK):Prop:=∀(ea:J) (cls a0 fl:Value) (B:Heap) (H':Hp) (s':Shared),s'.os=X.s₀.os->AllBare s'.gens->Un (dH X.outer) [] X.H₀ H' X.s₀.heap s'.heap->fW X.prog X.w H' s'.heap->X.base.StaysIn B->Way B X.stack ea cls a0 fl s'.heap ->
 (∀b o,X.s₀.heap.get? b=S o->b∉dH X.outer->∃o',B.get? b=S o')->(∀b u,H' b=S u->∃o,B.get? b=S o)->X.s₀.heap.get? ea=Z->E cls Z H'->X.A.frames=S X.stack->X.xe (.ref ea) s'
section
variable{P:Program}{w:World}{K:Ro}{mg:Str->Option Value}{base:Heap}{N:O Str}{qual:Str}{scope:Scope}{f:J}{cd:Value}{A:Around}{outer:O Env}{s:Shared}{H:Hp}{E:XK}
def DD {E':XK}(hE:∀c d H2,E' c d H2->E c d H2):oj (cY (eD P w base) P w K mg base N qual scope f cd A outer s H E) E':=by
 intro ea cls a0 fl B H2 s2 DA kh iy p6 stB way ij oh Bm q hfr
 !vS:(cY (eD P w base) P w K mg base N qual scope f cd A outer s H E).stack=envOfC qual scope s.heap.objs.size f cd::outer:=rfl
 rw[vS]at way hfr
 !Cu:=way.fr
 !iy:Un (dH outer) [] H H2 s.heap s2.heap:=iy
 !ij:∀b o,s.heap.get? b=S o->b∉dH outer->∃o',B.get? b=S o':=ij
 #oR hfr rfl way λh3 x1 x2=>?_
 #⟨ea,cls,a0,B,H2,U,DA,kh,⟨λb o hb n hf hx=>?_,λb o hb n hf hx=>?_,iy.free,λb o hb hx=>?_,iy.tups,iy.frzs,iy.tbls⟩,eR p6 oh way.st x1.1,stB,x1,ij,oh,Bm,hE _ _ _ q⟩
 . !e2:=iy.keep b o hb n hf hx
   @⟨o',iM⟩:=ij b o hb hf
   !e3:=way.st b o' iM
   rw[e2]at e3
   cases e3
   #x1.1 b o iM
 . @⟨sl,e1⟩:=iy.slot b o hb n hf hx
   @⟨_,o2,jm,hd2⟩:=Cu.mem (show b∈dH (envOfC qual scope s.heap.objs.size f cd::outer)from RC _ hf)
   rw[e1]at jm
   cases jm
   @⟨Fj,e3⟩:=x2 b _ e1 hd2
   #⟨Fj,e3⟩
 . by_cases hm:b∈dH outer
   . @⟨_,o3,KI,Kr⟩:=Cu.mem (show b∈dH (envOfC qual scope s.heap.objs.size f cd::outer)from RC _ hm)
     @⟨Fj,e3⟩:=x2 b _ KI Kr
     #⟨_,e3⟩
   . @⟨o',iM⟩:=ij b o hb hm
     #⟨o',x1.1 b o' iM⟩
end
section
variable{X:Cx}{N':O Str}{sc:Scope}{pins:O (J×Obj)}{σ:St}{H:Hp}{s:Shared}{fp:O J}{Ex:XK}{xe:Value->Shared->Prop}{use:Option (Value->Sem Unit)}{Q':Value->Shared->Prop}{acc:Value}{L8:J}
theorem ma {h h' B B':Heap}:∀{l:O Env},(∀b∈dH l,h'.get? b=h.get? b)->(∀b o,B'.get? b=S o->B.get? b=S o)->h.FunFrames B l->h'.FunFrames B' l
 | [],_,_,_=>trivial
 | en::l,k,hb,⟨x1,⟨L8,o,f1,f2,f3,f4⟩,x3⟩=>by
   #⟨x1,⟨L8,o,f1,?_,?_,f4⟩,ma (λb h=>k b ?_) hb x3⟩
   . cases z:B'.get? L8 with
     | none=>rfl
     | some o=>have:=hb _ _ z;rw[f2]at this;cases this
   . rw[k L8 (List.mem_filterMap.mpr ⟨en,Ru,f1⟩)];#f3
   . @⟨e2,h1,h2⟩:=List.mem_filterMap.mp h
     #List.mem_filterMap.mpr ⟨e2,RC _ h1,h2⟩
def s9 (hPA:oj X Ex)(hst:X.stack=X.env::X.outer)(hex:X.ex=[])(hL:X.env.frame=S L8)(hL0:X.s₀.heap.get? L8=Z)(I:Inv X pins σ H s)(hf:∀b∈fp,ef X pins H b)
   (hxe:xe=notedBy (model X.prog X.w) X.A (compEnvC sc (cG sc X.env) s.heap.objs.size X.env) λe s'=>compPost (model X.prog X.w) X.A X.xe use Q' acc s.heap.objs.size (.error e) s') :
   Passes (eD X.prog X.w X.base) (cV X N' sc s H s.heap.objs.size fp xe) Ex:=by
 intro iW σ' H4 s4 e s5 I4 cx
 @⟨ea,cls,a0,B,H5,rfl,DA,kh,iy,p6,stB,m6,ij,oh,Bm,q⟩:=cx
 !Jv:Inv (cV X N' sc s H s.heap.objs.size fp xe) [] σ' H4 s4:=I4.nM λp hp=>nomatch hp
 !IX:Inv X pins σ H4 s4:=hJ I hf Jv
 !m6:Wh B (X.env::X.outer) ea cls a0 s5.heap:=by rw[← hst];#m6
 !iy:Un (dH X.stack) [] H4 H5 s4.heap s5.heap:=iy
 !ij:∀b o,s4.heap.get? b=S o->b∉dH X.stack->∃o',B.get? b=S o':=ij
 !hfr:X.A.frames=S (X.env::X.outer):=by rw[← hst];#I.ok.frames
 change xe (.ref ea) s5
 rw[hxe]
 change wpAny (model X.prog X.w) X.A (noteFrame (.ref ea) X.env) _ _ s5
 #wpAny_looks_onW hfr hL m6 λh6 held ups=>?_
 @⟨m,hn⟩:=mW Jv
 !Ml:H4 s.heap.objs.size=Z:=Jv.free
 !nC:s.heap.objs.size∉dH X.stack:=λhm=>by
   @⟨_,o,ho,_⟩:=I.stack.mem hm
   #au (RD ho) (SR _)
 !nD:∀b:J,b∉([]:O J):=λb z=>nomatch z
 @⟨oC,es,ep,ho,OW,r⟩:=hn
 !e5:=iy.keep _ oC ho Ml nC (nD _)
 !eB:B.get? s.heap.objs.size=S oC:=by
   @⟨o',h'⟩:=ij _ oC ho nC
   !:=m6.1 _ o' h'
   rw[e5]at this
   cases this
   #h'
 !e6:=held.1 _ _ eB
 !main:∃m,h6.Ns s.heap.objs.size m/\∀h',Sz s.heap.objs.size h6 h'->∀cenv:Env,cenv.locals=s.heap.objs.size->wpAny (model X.prog X.w) X.A (PySem.passOn "comprehension.variables-let-go" (.ref ea) cenv:Sem Value) (λy y=>False) X.xe {s5 with heap:=h'}:=by
   #⟨m,⟨oC,es,ep,e6,OW,r⟩,λh7 sb cenv y=>?_⟩
   !gj:Un (dH X.outer) [] X.H₀ H4 X.s₀.heap s4.heap:=by !:=IX.base;rw[hex]at this;#this
   !small:∀b o,X.s₀.heap.get? b=S o->b≠s.heap.objs.size:=λb o hb z=>by
     !:=RD hb
     !h2:=I.sz
     rw[z]at this
     #au (RJ this h2) (SR _)
   @⟨x1,x2,x3,oe,vs,T,oT,ts,he,ng,hd,h1,A9,Fd,hT,OY,h3⟩:=held
   !GV:ea≠s.heap.objs.size:=λz=>by rw[z,eB]at x2;cases x2
   !nT:T≠s.heap.objs.size:=λz=>by rw[z,eB]at A9;cases A9
   !bget:∀b o,B.get? b=S o->b≠s.heap.objs.size->(Sy B [s.heap.objs.size]).get? b=S o:=λb o hb nb=>UZ _ hb (by simpa using nb)
   !bof:∀b o,(Sy B [s.heap.objs.size]).get? b=S o->B.get? b=S o:=λb o hb=>U3 _ hb
   !bne:∀b o,(Sy B [s.heap.objs.size]).get? b=S o->b≠s.heap.objs.size:=λb o hb z=>by rw[z,V4 _ (List.mem_singleton.mpr rfl)]at hb;cases hb
   !Lz:Way (Sy B [s.heap.objs.size]) X.stack ea cls a0 (rawInt L8) h7:=by
     #⟨λb o hb=>?_,?_,?_,oe,vs,T,oT,ts,?_,ng,hd,h1,?_,Fd,?_,OY,h3⟩
     . rw[sb.2 b (bne b o hb)];#x1 b o (bof b o hb)
     . cases z:(Sy B [s.heap.objs.size]).get? ea with
       | none=>rfl
       | some o=>have:=bof _ _ z;rw[x2]at this;cases this
     . rw[← hst]at x3
       #ma (λb hb=>sb.2 b (λz=>nC (z▸hb))) bof x3
     . rw[sb.2 _ GV];#he
     . cases z:(Sy B [s.heap.objs.size]).get? T with
       | none=>rfl
       | some o=>have:=bof _ _ z;rw[A9]at this;cases this
     . rw[sb.2 _ nT];#hT
   !O2:h7.get? ea=S oe:=by rw[sb.2 _ GV];#he
   !fin:wpAny (model X.prog X.w) X.A (do setFlight (.ref ea) cenv.frame;throw (R6 ea):Sem Value) (λy y=>False) X.xe {s5 with heap:=h7}:=by
     #wpAny_bind (gQ (s:={s5 with heap:=h7}) Lz λh8 w8 u8=>wpAny_throw ?_)
     !hloc:∀b o,X.s₀.heap.get? b=S o->b∉dH X.outer->b∉dH X.stack:=λb o hb nb hm=>by
       rw[hst]at hm
       rcases List.mem_filterMap.mp hm with⟨en,h1,h2⟩
       rcases List.mem_cons.mp h1 with z|z
       . rw[z,hL]at h2
         cases h2
         rw[hL0]at hb
         cases hb
       . #nb (List.mem_filterMap.mpr ⟨en,z,h2⟩)
     !CM:∀b o,X.s₀.heap.get? b=S o->b∉dH X.outer->∃o',(Sy B [s.heap.objs.size]).get? b=S o':=λb o hb nb=>by
       @⟨o4,e4⟩:=gj.there b o hb (nD b)
       @⟨o',h'⟩:=ij b o4 e4 (hloc b o hb nb)
       #⟨o',bget b o' h' (small b o hb)⟩
     !II:∀b u,H5 b=S u->∃o,(Sy B [s.heap.objs.size]).get? b=S o:=λb u hb=>by
       @⟨o,iM⟩:=oh b u hb
       #⟨o,bget b o iM λz=>?_⟩
       rw[z,iy.free _ oC ho Ml (nD _)]at hb
       cases hb
     #hPA ea cls a0 _ (Sy B [s.heap.objs.size]) H5 {s5 with heap:=h8} (DA.trans IX.os) kh ⟨λb o hb n nf y=>?_,λb o hb n hm y=>?_,λb o hb n y=>?_,λb o hb y=>?_,λb xs h=>iy.tups b xs (gj.tups b xs h),λb o u h=>iy.frzs b o u (gj.frzs b o u h),λb ps h=>?_⟩ ?_ ?_ w8 CM II ?_ q I.ok.frames
     . !q4:=gj.keep b o hb n nf (nD b)
       !q5:=iy.keep b o q4 (gj.free b o hb n (nD b)) (hloc b o hb nf) (nD b)
       @⟨o',h'⟩:=CM b o hb nf
       !q6:=m6.1 b o' (bof _ _ h')
       rw[q5]at q6
       cases q6
       #w8.st b o h'
     . @⟨sl,q4⟩:=gj.slot b o hb n hm (nD b)
       @⟨EA,q5⟩:=iy.any q4 (gj.free b o hb n (nD b)) (nD b)
       !Gr:b∈dH (X.env::X.outer):=by
         @⟨en,h1,h2⟩:=List.mem_filterMap.mp hm
         #List.mem_filterMap.mpr ⟨en,RC _ h1,h2⟩
       @⟨_,o2,jm,hd2⟩:=m6.2.2.1.mem Gr
       rw[q5]at jm
       cases jm
       @⟨Fj,q6⟩:=ups b _ q5 hd2
       !q7:h7.get? b=_:=(sb.2 b (small b o hb)).trans q6
       @⟨Qu,q8⟩:=u8 b _ q7 hd2
       #⟨Qu,q8⟩
     . @⟨o1,q4⟩:=gj.there b o hb (nD b)
       #iy.free b o1 q4 (gj.free b o hb n (nD b)) (nD b)
     . by_cases hm:b∈dH X.outer
       . !Gr:b∈dH X.stack:=by
           rw[hst]
           @⟨en,h1,h2⟩:=List.mem_filterMap.mp hm
           #List.mem_filterMap.mpr ⟨en,RC _ h1,h2⟩
         @⟨_,o2,jm,_⟩:=w8.fr.mem Gr
         #⟨o2,jm⟩
       . @⟨o',h'⟩:=CM b o hb hm
         #⟨o',w8.st b o' h'⟩
     . @⟨m1,q1⟩:=gj.tbls b ps h
       @⟨m2,q2⟩:=iy.tbls b _ q1
       #⟨m1++m2,by rw[q2,Vg]⟩
     . #eR p6 II (λb o hb=>m6.1 b o (bof _ _ hb)) w8.st
     . intro b o hb
       #bget b o (stB b o hb) λz=>?_
       !:=RD (I.bk b o hb)
       rw[z]at this
       #SR _ this
     . cases z:X.s₀.heap.get? ea with
       | none=>rfl
       | some o=>
         @⟨o1,q4⟩:=gj.there ea o z (nD ea)
         rw[Bm]at q4
         cases q4
   unfold PySem.passOn
   #wpAny_bind (wpAny_field O2 hd h1 ?_)
   rw[dh (by simp)]
   first
     | show fin
     | show wpAny_bind (wpAny_pure fin)
 cases use<;>#main
end
section
variable{X:Cx}{e tg iter:Expr}{ifs:O Expr}{emit:J->Env->Sem Unit}{sc:Scope}{pos:Pos}{wi:TI}{N':O Str}{src:O (Option Nat)}{g:TG}{tifs:TT}{tm:J->TM}{newAcc:Sem Value}{ob:Obj}{accO:HO}{Ex:XK}{L8:J}
def tj {use:Option (Value->Sem Unit)}{Q':Value->Shared->Prop}(hPA:oj X Ex)(hst:X.stack=X.env::X.outer)(hex:X.ex=[])(hL:X.env.frame=S L8)(hL0:X.s₀.heap.get? L8=Z)(K:dA X.prog X.w X.A e tg iter ifs emit)(hc:X.calm=true)(S8x:bp sc X.env.scope)(hcap:bT sc src N' X.N=true)(hi:PI X tg iter wi)
   (hb:∀s H C fp xe D,Passes (eD X.prog X.w X.base) (cV X N' sc s H C fp xe) Ex->PG (cV X N' sc s H C fp xe) tg g/\jE (cV X N' sc s H C fp xe) ifs tifs/\AV (cV X N' sc s H C fp xe) (emit D (cV X N' sc s H C fp xe).env) (tm D)) (N:gU X newAcc ob accO)
   (hs:∀x,Sg iter X.env x=pure x)
   {pins:O (J×Obj)} {s:Shared} {σ:St} {H:Hp} {Q:VK} (I:Inv X pins σ H s) (h:dj src accO wi g tifs tm σ H Q)
   (hQ:∀(C D:J) (H':Hp) (s':Shared),Inv X pins σ H' s'->Q (.ref D) H'->H' C=Z->(∃m,s'.heap.Ns C m)->(∀(σ1:St) (H1:Hp) (s1:Shared) (h':Heap),Inv X pins σ1 H1 s1->H1 C=Z->Sz C s1.heap h'->Inv X pins σ1 H1 {s1 with heap:=h'}) ->
     (C≠X.env.locals/\∀x c,X.env.cells.lookup x=S c->c≠C)->compPost (model X.prog X.w) X.A X.xe use Q' (.ref D) C (.ok .next) s') :
   wpAny (model X.prog X.w) X.A (comprehension e sc X.env pos newAcc false (eval iter X.env) use) Q' X.xe s:=by
 #UK (g:=⟨tg,iter,ifs,0⟩) (gs:=[]) K.cl hs (gY λp hp hf=>I.ok.has p.1 (S8x.free p hp hf)) S8x.kind S8x.names ?_
 #bw (hi pins s σ H _ I h) λv s1 h1=>bw h1 λitv s2 h2=>?_
 @⟨it,fp,tn,J8x,H2,e1,I2,T,EH,f2,q2⟩:=h2
 subst e1
 #N.new s2 _ _ ?_
 !hD:H2 s2.heap.objs.size=Z:=I2.hok.fresh (Rz _)
 !Gn:∀b o,s2.heap.get? b=S o->(s2.heap.push ob).get? b=S o:=λb o e=>Rr _ e
 !I3:Inv X pins σ (upd H2 s2.heap.objs.size accO) {s2 with heap:=s2.heap.push ob}:=I2.laid (t':=s2.toks) Gn (Rz _) (N.ok pins σ H2 s2 I2)
 !uL:tn 0 (s2.heap.push ob):=T.keep _ _ _ EH λb u o e=>Gn b o e
 !Dc:∀b∈fp,∃o,(s2.heap.push ob).get? b=S o:=λb hb=>let⟨o,e,_⟩:=T.obj _ _ uL b hb;⟨o,e⟩
 !f3:∀b∈fp,ef X pins (upd H2 s2.heap.objs.size accO) b:=λb hb=>by
   #⟨?_,(f2 b hb).2⟩
   @⟨o,e,_⟩:=T.obj _ _ EH b hb
   rw[ah (R1 (RD e))]
   #(f2 b hb).1
 !qq:=q2 s2.heap.objs.size hD
 generalize KQ:({s2 with heap:=s2.heap.push ob}:Shared)=s3 at I3 ⊢
 !Kw:s2.heap.push ob=s3.heap:=by rw[← KQ]
 rw[Kw]at uL Dc
 generalize s2.heap.objs.size=D at I3 f3 qq hD ⊢
 #Vj S8x.cell (by intro y hy;simp at hy) (λh₁ hns Bc=>?_) S8x.kind
 !vP:h₁.Ns s3.heap.objs.size (λu=>Z):=hns
 !Gp:∀b o,s3.heap.get? b=S o->h₁.get? b=S o:=λb o e=>Bc.extBut b o (R1 (RD e)) (Rr _ e)
 let R:Result->Shared->Prop:=compPost (model X.prog X.w) X.A X.xe use Q' (.ref D) s3.heap.objs.size
 let X':Cx:=cV X N' sc s3 (upd H2 D accO) s3.heap.objs.size fp (notedBy (model X.prog X.w) X.A (compEnvC sc (cG sc X.env) s3.heap.objs.size X.env) λe s'=>R (.error e) s')
 !I4:Inv X' [] (capσ src σ) (upd H2 D accO) {s3 with heap:=h₁,toks:=s3.toks+([]:O (Str×Value))~}:=ko I3 S8x hcap f3 Dc vP Gp
 !BP:tn 0 h₁:=T.keep _ _ _ uL λb u o e=>Gp b o e
 @⟨hg,hif,hm⟩:=hb s3 (upd H2 D accO) s3.heap.objs.size fp (notedBy (model X.prog X.w) X.A (compEnvC sc (cG sc X.env) s3.heap.objs.size X.env) λe s'=>R (.error e) s') D (s9 hPA hst hex hL hL0 I3 f3 rfl)
 !f4:∀b∈fp,ef X' [] (upd H2 D accO) b:=λb hb=>by
   @⟨g0,g1,g2,g3,g4,g5⟩:=f3 b hb
   #⟨g0,?_,?_,.inl hb,λx c e=>?_,λp hp=>au (show p∈([]:O (J×Obj))from hp) (by simp)⟩
   . @⟨o,e⟩:=Dc b hb
     #R1 (RD e)
   . intro z
     rcases List.mem_cons.mp (I3.lu b z)with y|y
     . #g1 y
     . #g2 y
   . #g4 x c (mU (Sm e)).2
 !FZ:ef X pins (upd H2 D accO) s3.heap.objs.size:=I3.oF (Rz _) (I3.hok.fresh (Rz _))
 !loop:∀s4:Shared,s4={s3 with heap:=h₁,toks:=s3.toks+([]:O (Str×Value))~}->codeAny (model X.prog X.w) X.A (.compLoop e 0 (.ref it) (.ref D) X'.env) R s4:=by
   rintro s4 rfl
   #l6 (X:=X') (Z8x:=λH'=>Q (.ref D) H') rfl (K.turn it D X'.env) (K.quiet _ _ _) (K.under _ _ _) (K.frame _ _ _) hc T hg hif hm f4 I4 BP (λH' s' I' u z=>?_) qq
   #hQ s3.heap.objs.size D H' s' (hJ I3 f3 I') z I'.free (mW I') (λσ1 H1 s1 h' I1 n1 GB=>jk I3 I1 n1 GB) ⟨FZ.2.1,λx c e=>FZ.2.2.2.2.1 x c e⟩
 #K.start R _ (.ref it) (.ref D) X'.env (loop _ rfl) (T.self X.A 0 _ _ _ BP (loop _ rfl))
def xm (hPA:oj X Ex)(hst:X.stack=X.env::X.outer)(hex:X.ex=[])(hL:X.env.frame=S L8)(hL0:X.s₀.heap.get? L8=Z)(K:dA X.prog X.w X.A e tg iter ifs emit)(hc:X.calm=true)(S8x:bp sc X.env.scope)(hcap:bT sc src N' X.N=true)(hi:PI X tg iter wi)
   (hb:∀s H C fp xe D,Passes (eD X.prog X.w X.base) (cV X N' sc s H C fp xe) Ex->PG (cV X N' sc s H C fp xe) tg g/\jE (cV X N' sc s H C fp xe) ifs tifs/\AV (cV X N' sc s H C fp xe) (emit D (cV X N' sc s H C fp xe).env) (tm D)) (N:gU X newAcc ob accO)
   (hs:∀x,Sg iter X.env x=pure x) (he:eval e X.env=comprehension e sc X.env pos newAcc false (eval iter X.env)):PE X e (dj src accO wi g tifs tm):=by
 intro pins s σ H Q I h
 rw[he]
 #tj (use:=Z) hPA hst hex hL hL0 (Q:=Q) K hc S8x hcap hi hb N hs I h λC D H' s' I' q hn ⟨m,hm⟩ gone _=>?_
 #⟨m,hm,λh' GA=>⟨.ref D,H',gone σ H' s' h' I' hn GA,U,q⟩⟩
def DN {elt:Expr}{te:TE}(src:O (Option Nat))(N':O Str)(hPA:oj X Ex)(hst:X.stack=X.env::X.outer)(hex:X.ex=[])(hL:X.env.frame=S L8)(hL0:X.s₀.heap.get? L8=Z)(hc:X.calm=true)(S8x:bp sc X.env.scope)(hcap:bT sc src N' X.N=true)(hi:PI X tg iter wi)
   (hb:∀s H C fp xe,Passes (eD X.prog X.w X.base) (cV X N' sc s H C fp xe) Ex->PG (cV X N' sc s H C fp xe) tg g/\jE (cV X N' sc s H C fp xe) ifs tifs/\PE (cV X N' sc s H C fp xe) elt te)
   (hs:∀x,Sg iter X.env x=pure x:=by intro _;rfl):PE X (.ListComp elt [⟨tg,iter,ifs,0⟩] sc pos) (dj src (.lst []) wi g tifs (dJ te)):=
 xm hPA hst hex hL hL0 mT hc S8x hcap hi (λs H C fp xe D hp=>⟨(hb s H C fp xe hp).1,(hb s H C fp xe hp).2.1,qw (hb s H C fp xe hp).2.2 D⟩) kf hs rfl
end
end L2
namespace L3
open PySem PySem.Spec PyProof.Rows L2
section
variable{P:Program}{w:World}{K:Ro}{mg:Str->Option Value}{base:Heap}{N:O Str}{qual:Str}{scope:Scope}{f:J}{cd:Value}{A:Around}{outer:O Env}{s:Shared}{H:Hp}{E:XK}
def Cv (h:Heap):h.get? h.objs.size=Z:=by
 cases z:h.get? h.objs.size with
 | none=>rfl
 | some o=>#au (RD z) (SR _)
def P1 {tg iter elt:Expr}{ifs:O Expr}{sc:Scope}{pos:Pos}{wi:TI}{g:TG}{tifs:TT}{te:TE}(src:O (Option Nat))(N':O Str)(S8x:bp sc (cY (eD P w base) P w K mg base N qual scope f cd A outer s H E).env.scope)(hcap:bT sc src N' (cY (eD P w base) P w K mg base N qual scope f cd A outer s H E).N=true)(hi:SI (cY (eD P w base) P w K mg base N qual scope f cd A outer s H E) tg iter wi)
   (hb:∀s' H' C fp xe,Passes (eD P w base) (cV (cY (eD P w base) P w K mg base N qual scope f cd A outer s H E) N' sc s' H' C fp xe) E->SG (cV (cY (eD P w base) P w K mg base N qual scope f cd A outer s H E) N' sc s' H' C fp xe) tg g/\E5 (cV (cY (eD P w base) P w K mg base N qual scope f cd A outer s H E) N' sc s' H' C fp xe) ifs tifs/\SE (cV (cY (eD P w base) P w K mg base N qual scope f cd A outer s H E) N' sc s' H' C fp xe) elt te)
   (hs:∀x,Sg iter (cY (eD P w base) P w K mg base N qual scope f cd A outer s H E).env x=pure x:=by intro _;rfl):SE (cY (eD P w base) P w K mg base N qual scope f cd A outer s H E) (.ListComp elt [⟨tg,iter,ifs,0⟩] sc pos) (dj src (.lst []) wi g tifs (dJ te)):=
 ⟨DN src N' (DD λz z z h=>h) rfl rfl rfl (Cv _) rfl S8x hcap hi.h (λs' H' C fp xe hp=>⟨(hb s' H' C fp xe hp).1.h,(hb s' H' C fp xe hp).2.1.h,(hb s' H' C fp xe hp).2.2.h⟩) hs⟩
end
end L3
namespace L2
open PySem PySem.Spec PyProof.Rows
def FF (N:Nat)(u:Value):Prop:=∀(x:Str) (t:Nat),u=.str x t->0<t/\t<N
def Tks (N:Nat)(H:Hp)(a:J)(xs:O Str):Prop:=∃(its:O Value) (n:Nat),H a=S (.frz {cls:=.type "list",data:=.seq its.toArray n} (.lst (xs.map V.str)))/\∀u∈its,FF N u
def Tks.sq {K:Ro}{N:Nat}{H:Hp}{a:J}{xs:O Str}(h:Tks N H a xs):aH K H a (xs.map V.str):=by@⟨_,_,e,_⟩:=h;#.inl (.inr ⟨_,e⟩)
def pH (X:Cx)(N:Nat)(ss:O Stmt)(t:TS):Prop:=
 ∀(pins:O (J×Obj)) (s:Shared) (σ:St) (H:Hp) (D:Ends),Inv X pins σ H s->N<=s.toks->t D σ H->wpAny (model X.prog X.w) X.A (execs ss X.env) (SP X pins D) X.xe s
section
variable{X:Cx}{st:Stmt}{rest:O Stmt}{t u:TS}{N:Nat}
def uC (h1:PS X st t)(h2:pH X N rest u):pH X N (st::rest) (fQ t u):=by
 intro pins s σ H D I hn h
 #T2 (wpAny_mono (wpAny_toks_of hn (h1 pins s σ H {D with nx:=u D} I h)) (λf s1 q=>?_) λy y z=>z.2)
 @⟨n1,q⟩:=q
 cases f with
 | next=>
   @⟨σ',H',I',q⟩:=q
   #h2 pins s1 σ' H' D I' n1 q
 | ret v=>#q
 | brk=>#q
 | cont=>#q
def uD {i:Nat}{x:Str}{a:Expr}{ta:TE}{op:V5}{r:R2}{k:Int}{j:Nat}{p p2 pos' pos:Pos}(hN:X.N.Nodup)(hi:X.N[i]?=S x)(hx:Loc X.env.scope x)(ho:gC X (binaryOp op) r)(ha:PE X a ta)
   (h2:pH X 1 rest u) (hs:Tw (.BinOp a op (.Constant (.int k) j p2) p) (S (.Name x pos')) pos.line X.env=pure false:=by rfl) (hf:X.fn x=true\/X.env.scope.names.lookup x=S .local:=by first|show .inl rfl|show .inr rfl|assumption) :
   lD X (.Assign [.Name x pos'] (.BinOp a op (.Constant (.int k) j p2) p) pos::rest) (fQ (lR (yA r ta (tC (.int k))) (cI i)) u):=by
 intro pins s σ H D I h
 #T2 (wpAny_Assign_Name (wpAny_BinOp (bw (ha pins s σ H _ I h) λv s1 h9=>?_)) hs)
 @⟨y,H1,I1,r1,q1⟩:=h9
 #wpAny_Constant_int ?_
 #wpAny_mono (wpAny_toks_of (n:=1) (show 1<=s1.toks+1 by lia) (ho pins _ σ H1 y (.int k) v _ _ (I1.tok _) r1 ⟨_,U⟩ q1)) (λw s2 q2=>?_) λt t z=>z.2
 @⟨n2,y2,H2,I2,r2,q2⟩:=q2
 !st:wpAny (model X.prog X.w) X.A (storeName X.env x w) (λt s'=>∃σ' H',Inv X pins σ' H' s'/\u D σ' H') X.xe s2:=ja I2 hN hi hx r2 (λs3 I3=>⟨_,H2,I3,q2⟩) hf
 #wpAny_mono (wpAny_toks_of n2 st) (λt s3 q3=>?_) λt t z=>z.2
 @⟨n3,σ',H',I',q⟩:=q3
 #h2 pins s3 σ' H' D I' n3 q
end
inductive pE:O Expr->O Str->Prop
 | nil:pE [] []
 | cons {c:Str} {j:Nat} {p:Pos} {es:O Expr} {cs:O Str}:pE es cs->pE (.Constant (.str c) j p::es) (c::cs)
def pE.go {M8:Model}{A:Around}{E:Value->Shared->Prop}{env:Env}{pos:Pos}{es:O Expr}{cs:O Str}(h:pE es cs):∀(s:Shared) (Q:O Value->Shared->Prop),Q (strsFrom s.toks cs) {s with toks:=s.toks+cs~} ->
   wpAny M8 A (spliced (backTo pos (starEach es env))) Q E s:=by
 induction h with
 | nil=>#λs Q q=>Tc q
 | @cons c j p es cs h ih=>
   intro s Q q
   rw[(fJ (c:=.str c) (k:=j) (p:=p)).h es env]
   #Su (Vf (k:=j) (pos:=p) (ih _ _ ?_))
   !e:s.toks+1+cs~=s.toks+(c::cs)~:=by rw[RE];lia
   change Q (.str c s.toks::strsFrom (s.toks+1) cs) {s with toks:=s.toks+1+cs~}
   rw[e]
   #q
theorem sk:∀(n:Nat) (cs:O Str),0<n->∀u∈strsFrom n cs,FF (n+cs~) u
 | _,[],_,u,hu=>nomatch hu
 | n,c::cs,h,u,hu=>by
   rcases List.mem_cons.mp hu with e|hu
   . subst e
     intro x t e
     cases e
     #⟨h,by rw[RE];#Nat.lt_add_of_pos_right (S8 _)⟩
   . intro x t e
     !:=sk (n+1) cs (by lia) u hu x t e
     rw[RE]
     #⟨this.1,by !:=this.2;lia⟩
def kN (xs:O Str)(v:Value):Bool:=match v with
 | .str c _=>!iN (.str c) (xs.map V.str)
 | _=>false
def BY (K:Ro)(cs:O Str)(i j:Nat)(u:Nat->TS):TS:=λD σ H=>∃(T:J) (xs:O Str),σ[j]?=S (S (.ref T))/\aH K H T (xs.map V.str) /\
 ∀(N:Nat) (a:J) (H':Hp),H a=Z->(∀b o,H b=S o->H' b=S o)->Tks N H' a (cs.filter λc=>!iN (.str c) (xs.map V.str))->u N D (σ.set i (S (.ref a))) H'
theorem cQ:∀xs:O Str,(xs.map V.str).all dE=true
 | []=>rfl
 | _::xs=>cQ xs
theorem fE {xs:O Str}:∀(n:Nat) (cs:O Str) (ys:O Value),Paired (λv y=>v=y) ((strsFrom n cs).filter (kN xs)) ys->Vals ((cs.filter λc=>!iN (.str c) (xs.map V.str)).map V.str) ys/\∀y∈ys,y∈strsFrom n cs
 | n,[],ys,h=>by
   cases h
   #⟨.nil,λx z=>nomatch z⟩
 | n,c::cs,ys,h=>by
   by_cases hc:(!iN (.str c) (xs.map V.str))=true
   . !e1:kN xs (.str c n)=true:=hc
     rw[strsFrom,Uy e1]at h
     rw[Uy (by#hc)]
     cases h with
     | cons r t=>
       @⟨h1,h2⟩:=fE (n+1) cs _ t
       subst r
       #⟨.cons ⟨n,U⟩ h1,λy hy=>?_⟩
       rcases List.mem_cons.mp hy with e|hy
       . rw[e];#Ru
       . #RC _ (h2 y hy)
   . !e1:¬ kN xs (.str c n)=true:=hc
     rw[strsFrom,Uz e1]at h
     rw[Uz (by#hc)]
     @⟨h1,h2⟩:=fE (n+1) cs _ h
     #⟨h1,λy hy=>RC _ (h2 y hy)⟩
def yk {n:Nat}{cs:O Str}{i:Nat}{v:Value}(h:(strsFrom n cs)[i]?=S v):∃c t,v=.str c t:=by
 obtain⟨l,e⟩ : ∃l:O (Str×Tok),strsFrom n cs=strValues l:=⟨_,strsFrom_eq n cs⟩
 rw[e]at h
 unfold strValues at h
 rw[Sb]at h
 @⟨p,_,rfl⟩:=Option.map_eq_some_iff.mp h
 #⟨_,_,U⟩
def MQ {a b c:Nat}(h1:a≠b)(h2:a≠c):a∉[b,c]:=by simp[h1,h2]
def AO {us vs:O Value}(h1:vs~=us~)(h:∀(j:Nat) (v:Value),vs[j]?=S v->us[j]?=S v):vs=us:=by
 #List.ext_getElem? λj=>?_
 cases e:vs[j]? with
 | some v=>#(h j v e).symm
 | none=>
   rw[List.getElem?_eq_none_iff]at e
   rw[List.getElem?_eq_none_iff.mpr (by lia)]
section
variable{X:Cx}{rest:O Stmt}{es:O Expr}{cs:O Str}{u:Nat->TS}
def xE {i j:Nat}{x y z:Str}{px p1 p2 p3 p4 pl py pos da:Pos}{sc:Scope}(hc:X.calm=true)(S8x:bp sc X.env.scope)(hxl:sc.names.lookup x=S .local)(hzf:sc.names.lookup z=S .free)(L8:pE es cs)(hcs:cs~<=1000)
   (hN:X.N.Nodup) (hix:X.N[i]?=S y) (hjz:X.N[j]?=S z) (hy:Loc X.env.scope y) (hx0:(x==("__debug__":Str))=false) (hz0:(z==("__debug__":Str))=false) (hz1:(z==("__classdict__":Str))=false)
   (hsw:Tw (.ListComp (.Name x p1) [⟨.Name x px,.List es pl,[.Compare (.Name x p2) [.NotIn] [.Name z p3] p4],0⟩] sc pos) (S (.Name y py)) da.line X.env=pure true)
   (hs:∀v,Sg (.List es pl) X.env v=pure v) (hf:X.fn y=true\/X.env.scope.names.lookup y=S .local)
   (h2:∀N,pH X N rest (u N)) :
   pH X 1 (.Assign [.Name y py] (.ListComp (.Name x p1) [⟨.Name x px,.List es pl,[.Compare (.Name x p2) [.NotIn] [.Name z p3] p4],0⟩] sc pos) da::rest) (BY X.K cs i j u):=by
 intro pins s σ H D0 I A8 h
 @⟨T,xs,hσ,hT,q⟩:=h
 #T2 ?_
 rw[exec_Assign_Name_used y py _ da hsw]
 #wpAny_bind (wpAny_standAt (wpAny_bind ?_))
 change wpAny _ _ (do let _←comprehension (.ListComp (.Name x p1) [⟨.Name x px,.List es pl,[.Compare (.Name x p2) [.NotIn] [.Name z p3] p4],0⟩] sc pos) sc X.env _ (newList []) false (eval (.List es pl) X.env) (S (assign (.Name y py) X.env))) _ _ s
 #wpAny_bind ?_
 #UK (use:=S (assign (.Name y py) X.env)) (Q:=λt s'=>wpAny _ _ _ _ _ s') rfl hs (gY λp hp hf=>I.ok.has p.1 (S8x.free p hp hf)) S8x.kind S8x.names ?_
 !Lq:cs~<=sizeLine:=Ry hcs (by left)
 #wpAny_List_spliced (L8.go s _ ⟨by rw[strsFrom_length];#Lq,?_⟩)
 !Nt:=strsFrom_length s.toks cs
 !IK:=sk s.toks cs A8
 !Nr:=λi v (h:(strsFrom s.toks cs)[i]?=S v)=>yk h
 !Nn:=λys h=>fE (xs:=xs) s.toks cs ys h
 generalize strsFrom s.toks cs=us at Nt IK Nr Nn ⊢
 !kG:(s.heap.push {cls:=.type "list",data:=.seq us.toArray}).get? s.heap.objs.size=S {cls:=.type "list",data:=.seq us.toArray}:=RK _ rfl
 !sz1:(s.heap.push {cls:=.type "list",data:=.seq us.toArray}).objs.size=s.heap.objs.size+1:=Tr _ _
 !k1:∀b o,s.heap.get? b=S o->(s.heap.push {cls:=.type "list",data:=.seq us.toArray}).get? b=S o:=λb o e=>Rr _ e
 generalize s.heap.push {cls:=.type "list",data:=.seq us.toArray}=h1 at kG sz1 k1 ⊢
 !PM:h1.IsList s.heap.objs.size us.toArray:=⟨_,kG,rfl,_,rfl⟩
 #UJ PM ?_
 dsimp only
 !rn:(h1.push {cls:=.type "list_iterator",data:=.fields #[.ref s.heap.objs.size,.int 0 0]}).get? h1.objs.size=S {cls:=.type "list_iterator",data:=.fields #[.ref s.heap.objs.size,.int 0 0]}:=RK _ rfl
 !AJ:(h1.push {cls:=.type "list_iterator",data:=.fields #[.ref s.heap.objs.size,.int 0 0]}).objs.size=h1.objs.size+1:=Tr _ _
 !k2:∀b o,h1.get? b=S o->(h1.push {cls:=.type "list_iterator",data:=.fields #[.ref s.heap.objs.size,.int 0 0]}).get? b=S o:=λb o e=>Rr _ e
 generalize h1.push {cls:=.type "list_iterator",data:=.fields #[.ref s.heap.objs.size,.int 0 0]}=eW at rn AJ k2 ⊢
 #wpAny_newObj_type ?_
 dsimp only
 !Bb:(eW.push {cls:=.type "list",dict:=Z,data:=.seq ([]:O Value).toArray}).get? eW.objs.size=S {cls:=.type "list",dict:=Z,data:=.seq ([]:O Value).toArray}:=RK _ rfl
 !QD:(eW.push {cls:=.type "list",dict:=Z,data:=.seq ([]:O Value).toArray}).objs.size=eW.objs.size+1:=Tr _ _
 !k3:∀b o,eW.get? b=S o->(eW.push {cls:=.type "list",dict:=Z,data:=.seq ([]:O Value).toArray}).get? b=S o:=λb o e=>Rr _ e
 generalize eW.push {cls:=.type "list",dict:=Z,data:=.seq ([]:O Value).toArray}=h3 at Bb QD k3 ⊢
 #Vj S8x.cell (by intro y hy;simp at hy) (λh4 hns Bc=>?_) S8x.kind
 dsimp only at hns Bc ⊢
 !vP:h4.Ns h3.objs.size (λt=>Z):=hns
 !k4:∀b o,h3.get? b=S o->h4.get? b=S o:=λb o e=>Bc.extBut b o (R1 (RD e)) (Rr _ e)
 !kk:∀b o,s.heap.get? b=S o->h4.get? b=S o:=λb o e=>k4 _ _ (k3 _ _ (k2 _ _ (k1 _ _ e)))
 !rj:s.heap.objs.size≠h1.objs.size:=by lia
 !W:=Walks.list (prog:=X.prog) (w:=X.w) (A:=X.A) (I.ok.hd hc) h1.objs.size s.heap.objs.size rj us.toArray
 !BP:h4.IsListIter h1.objs.size s.heap.objs.size 0/\h4.IsList s.heap.objs.size us.toArray:=⟨⟨_,k4 _ _ (k3 _ _ rn),rfl,rfl⟩,⟨_,k4 _ _ (k3 _ _ (k2 _ _ kG)),rfl,_,rfl⟩⟩
 !JL:(compEnvC sc (cG sc X.env) h3.objs.size X.env).kindOf x=S .local:=by rw[f7,hxl];rfl
 !low:∀b o,s.heap.get? b=S o->b≠h3.objs.size/\b∉[h1.objs.size]/\b≠eW.objs.size:=λb o e=>by
   !g:=RD e
   #⟨R1 (RJ g (by lia)),λz=>au (List.mem_singleton.mp z) (R1 (RJ g (by lia))),R1 (RJ g (by lia))⟩
 !kin:∀(b:J) (o:Obj),s.heap.get? b=S o->∀h5:Heap,(∀b o,b≠(compEnvC sc (cG sc X.env) h3.objs.size X.env).locals->b∉[h1.objs.size]->b≠eW.objs.size->h4.get? b=S o->h5.get? b=S o)->h5.get? b=S o:=λb o e h5 k=>k b o (low b o e).1 (low b o e).2.1 (low b o e).2.2 (kk b o e)
 @⟨its,rT,Qm,_⟩:=I.list hT
 @⟨oT,nT,eT,cT,dT,sT⟩:=Qm
 @⟨m,Q1,hl⟩:=id I.loc
 !IV:=S8x.free _ (Sm hzf) rfl
 @⟨w0,Qo,lk⟩:=hl j z (.ref T) hjz hσ (Or.inr IV)
 cases Qo
 obtain⟨c,OU,oc,Ba,OZ⟩ : ∃c,X.env.cells.lookup z=S c/\∃o,s.heap.get? c=S o/\o.data=.cell (S (.ref T)):=by
   rcases lk with⟨a,_⟩|⟨_,c,e,o,h1,h2⟩
   . !a:X.env.scope.names.lookup z=S .local:=a
     rcases IV with b|b<;>(rw[a]at b;cases b)
   . #⟨c,e,o,h1,h2⟩
 !kz:(compEnvC sc (cG sc X.env) h3.objs.size X.env).kindOf z=S .cell\/(compEnvC sc (cG sc X.env) h3.objs.size X.env).kindOf z=S .free:=by
   rw[f7,hzf]
   by_cases b:(Sl==Sl&&X.env.scope.kind==.function&&X.env.kindOf z==S .cell)=true
   . #.inl (by simp only[Ta,b,if_true])
   . #.inr (by simp only[Ta,b,if_false,Um])
 !L5:(compEnvC sc (cG sc X.env) h3.objs.size X.env).cells.lookup z=S c:=ji (Sm hzf) OU
 !Ja:(compEnvC sc (cG sc X.env) h3.objs.size X.env).scope.kind=.function:=S8x.kind
 !loop:∀R:Result->Shared->Prop,(∀(h':Heap) (tk:Nat) (m':Str->Option Value) (ys:Array Value),h'.Ns h3.objs.size m'->h'.PlainList eW.objs.size ys->Paired (λv y=>v=y) (us.filter (kN xs)) ys.toList->(∀b o,s.heap.get? b=S o->h'.get? b=S o)->R (.ok .next) {s with heap:=h',toks:=tk}) ->
     ∀s4:Shared,s4={s with heap:=h4,toks:=s.toks+cs~+([]:O (Str×Value))~}->codeAny (model X.prog X.w) X.A (.compLoop (.ListComp (.Name x p1) [⟨.Name x px,.List es pl,[.Compare (.Name x p2) [.NotIn] [.Name z p3] p4],0⟩] sc pos) 0 (.ref h1.objs.size) (.ref eW.objs.size) (compEnvC sc (cG sc X.env) h3.objs.size X.env)) R s4:=by
   rintro R hR s4 rfl
   #codeAny_compLoop_walk (hsz:=by rw[RH,Nt];#Lq) (cenv:=compEnvC sc (cG sc X.env) h3.objs.size X.env) W (kN xs) (λv y=>v=y) JL (by simp[compEnvC,relabel,S8x.kind]) (by change eW.objs.size≠h3.objs.size;lia) (MQ (by lia) (by lia)) (MQ (show h3.objs.size≠_ by lia) (show h3.objs.size≠_ by lia)) BP ⟨_,k4 _ _ Bb⟩ vP ?_ ?_ ?_
   . intro i v s2 m2 hv hn2 hm2 kp _
     !hv:us[i]?=S v:=by simpa using hv
     @⟨c0,t0,rfl⟩:=Nr i v hv
     #wpAny_tests_one (wpAny_isTrue_Compare1 (wpAny_Name (wpAny_loadName_local Ja JL hn2 hm2 ?_) hx0) U)
     !fin:wpAny (model X.prog X.w) X.A (compareOp .NotIn (.str c0 t0) (.ref T)) (λc s3=>wpAny (model X.prog X.w) X.A (truthy c) (λok s'=>ok=kN xs (.str c0 t0)/\PySem.Keeps s2 s') (notedBy (model X.prog X.w) X.A (compEnvC sc (cG sc X.env) h3.objs.size X.env) λe s'=>R (.error e) s') s3) (notedBy (model X.prog X.w) X.A (compEnvC sc (cG sc X.env) h3.objs.size X.env) λe s'=>R (.error e) s') s2:=by
       !il:s2.heap.IsList T its.toArray:=⟨oT,kin _ _ eT _ kp,cT,nT,sT⟩
       #SeqAt.notIn_listAt (mZ (.str c0)) il (λw hw=>eN (show RelV (.str c0) (.str c0 t0)from⟨t0,U⟩) rfl rT (cQ xs) w (by simpa using hw)) (wpAny_truthy_bool ⟨?_,s2.heap,s2.toks,U,λt t e=>e⟩)
       change(!its.toArray.any (mZ (.str c0)))=!iN (.str c0) (xs.map V.str)
       rw[show its.toArray.any (mZ (.str c0))=its.any (mZ (.str c0))by simp,fY rT (cQ xs)]
       rfl
     !ic:s2.heap.IsCell c (S (.ref T)):=⟨oc,kin _ _ Ba _ kp,OZ⟩
     rcases kz with kz|kz
     . #wpAny_Name (wpAny_loadName_cell Ja kz L5 ic fin) hz0
     . #wpAny_Name (wpAny_loadName_free Ja kz L5 ic fin hz1) hz0
   . intro i v s2 m2 hv _ hn2 hm2 kp _
     #wpAny_Name (wpAny_loadName_local Ja JL hn2 hm2 ⟨U,s2.heap,s2.toks,U,λt t e=>e⟩) hx0
   . intro h' tk m' ys vs hn2 _ hpl Bd PD hF kp
     !ev:vs=us:=AO (by rw[Bd,RH]) λj v e=>by simpa using PD j v e
     subst ev
     #hR h' tk m' ys hn2 hpl hF λb o e=>kin b o e _ kp
 !fin:∀(h':Heap) (tk:Nat) (m':Str->Option Value) (ys:Array Value),h'.Ns h3.objs.size m'->h'.PlainList eW.objs.size ys->Paired (λv y=>v=y) (us.filter (kN xs)) ys.toList->(∀b o,s.heap.get? b=S o->h'.get? b=S o)->s.toks+cs~<=tk ->
     wpAny (model X.prog X.w) X.A (assign (.Name y py) X.env (.ref eW.objs.size)) (λt Ep=>∃m,Ep.heap.Ns h3.objs.size m/\∀F4,Sz h3.objs.size Ep.heap F4->wpAny (model X.prog X.w) X.A (execs rest X.env) (SP X pins D0) X.xe {Ep with heap:=F4}) X.xe {s with heap:=h',toks:=tk}:=by
   intro h' tk m' ys hn2 hpl hF kp htk
   @⟨n,hpl⟩:=hpl
   @⟨v1,v2⟩:=Nn _ hF
   !fl:(cs.filter λc=>!iN (.str c) (xs.map V.str))~<=sizeLine:=Ry (Wf _ _) Lq
   !Gx:h'.get? eW.objs.size=S {cls:=.type "list",data:=.seq ys.toList.toArray n}:=by rw[Array.toArray_toList];#hpl
   !I':=I.laid (t':=tk) (o:=.frz {cls:=.type "list",data:=.seq ys.toList.toArray n} (.lst ((cs.filter λc=>!iN (.str c) (xs.map V.str)).map V.str))) kp (show s.heap.objs.size<=eW.objs.size by lia) ⟨Gx,by rw[Rn];#fl,_,n,v1,Gx⟩
   !hfr:H eW.objs.size=Z:=I.hok.fresh (by lia)
   !O3:H h3.objs.size=Z:=I.hok.fresh (by lia)
   !Js:Tks (s.toks+cs~) (upd H eW.objs.size (.frz {cls:=.type "list",data:=.seq ys.toList.toArray n} (.lst ((cs.filter λc=>!iN (.str c) (xs.map V.str)).map V.str)))) eW.objs.size (cs.filter λc=>!iN (.str c) (xs.map V.str)):=⟨_,n,ae,λu hu=>by !:=IK u (v2 u hu);#this⟩
   !qq:=q _ eW.objs.size _ hfr (λb o e=>by rw[ah (ag e hfr)];#e) Js
   !Mm:(upd H eW.objs.size (.frz {cls:=.type "list",data:=.seq ys.toList.toArray n} (.lst ((cs.filter λc=>!iN (.str c) (xs.map V.str)).map V.str)))) h3.objs.size=Z:=by rw[ah (show h3.objs.size≠eW.objs.size by lia)];#O3
   generalize upd H eW.objs.size (.frz {cls:=.type "list",data:=.seq ys.toList.toArray n} (.lst ((cs.filter λc=>!iN (.str c) (xs.map V.str)).map V.str)))=H' at I' qq Mm Js
   !I3:Inv X pins σ H {s with heap:=h3,toks:=s.toks}:=I.kept λb o e=>k3 _ _ (k2 _ _ (k1 _ _ e))
   #wpAny_mono (wpAny_toks_of (n:=s.toks+cs~) htk (wpAny_assign_Name (jv (v:=.ref eW.objs.size) (Q:=λt s2=>Inv X pins (σ.set i (S (.ref eW.objs.size))) H' s2/\∃a,Sz a h' s2.heap/\(a=X.env.locals\/X.env.cells.lookup y=S a)) I' hN hix hy rfl (λs2 I2 hch=>⟨I2,hch⟩) hf))) (λt s2 z=>?_) λt t z=>z.2
   @⟨t2,I2,a,KR,ha⟩:=z
   !OD:h3.objs.size≠a:=by
     rcases ha with z|z
     . rw[z];#Tg (RJ I.lt (by lia))
     . @⟨v,o,e,_⟩:=I.cell _ _ z
       #Tg (RJ (RD e) (by lia))
   #⟨m',hn2.sameBut KR OD,λF4 KP=>h2 _ pins _ _ H' D0 (jk I3 I2 Mm KP) t2 qq⟩
 !lp:=λR hR=>codeAny_with_toks (n:=s.toks+cs~) (R:=R) (s:={s with heap:=h4,toks:=s.toks+cs~+([]:O (Str×Value))~}) (Rz _) (loop _ hR _ rfl)
 #codeAny_compStart_list (lp _ ?_) (W.self 0 _ _ _ BP (lp _ ?_))
 all_goals
   intro h' tk m' ys a1 a2 a3 a4 a5
   #wpAny_mono (fin h' tk m' ys a1 a2 a3 a4 a5) (λt s2 h9=>?_) λt t z=>z
   @⟨m2,b1,b2⟩:=h9
   #⟨m2,b1,λF4 c1=>wpAny_pure (wpAny_pure (b2 F4 c1))⟩
end
def LO (X:Cx)(N:Nat)(e:Expr)(t:TE):Prop:=
 ∀(pins:O (J×Obj)) (s:Shared) (σ:St) (H:Hp) (Q:VK),Inv X pins σ H s->N<=s.toks->t σ H Q->wpAny (model X.prog X.w) X.A (eval e X.env) (EP X pins σ Q) X.xe s
def BZ (N:Nat)(to:TE)(y:Str)(tl ti:TE):TE:=λσ H Q=>to σ H λx H1=>∃z,x=.str z/\tl σ H1 λa H2=>ti σ H2 λiv H3=>∃(l:J) (i:Int) (c:Str) (xs:O Str),a=.ref l/\iv=.int i/\Tks N H3 l xs/\0<=i/\xs[i.toNat]?=S c/\(y==c)=false/\z~+(z~+1)*c~<=16777216/\Q (.str (Vb z y c)) H3
section
variable{X:Cx}{N:Nat}{o l ix:Expr}{to tl ti:TE}{apos cpos p2:Pos}{y:Str}{j:Nat}{p:Pos}
def xr (ho:PE X o to)(hl:PE X l tl)(hi:PE X ix ti)(hs:jH ix)
   (hbase:Ss o "replace" X.env (eval o X.env)=eval o X.env) (hline:(apos.endLine==cpos.line)=true) :
   LO X N (.Call (.Attribute o "replace" apos) [.Constant (.str y) j p,.Subscript l ix p2] [] cpos) (BZ N to y tl ti):=by
 intro pins s σ H Q I hn h
 !e1:∀es,starEach (.Constant (.str y) j p::es) X.env=(false,eval (.Constant (.str y) j p) X.env)::starEach es X.env:=λes=>(fJ (c:=.str y) (k:=j) (p:=p)).h es X.env
 !e2:starEach [.Subscript l ix p2] X.env=[(false,eval (.Subscript l ix p2) X.env)]:=(nF (a:=l) (b:=ix) (p:=p2)).h [] X.env
 #wpAny_Call_method_late hbase (by rw[e1,e2];rfl) hline rfl (wpAny_mono (wpAny_toks_of hn (ho pins s σ H _ I h)) (λv s1 q=>?_) λu u z=>z.2)
 @⟨n1,x,H1,I1,r1,z,rfl,q1⟩:=q
 @⟨h1,h2⟩:=qN (T:="str") I1 r1 rfl
 @⟨tz,rfl⟩:=r1
 #⟨"str","str.replace",Ux,PySem.F.slot_str_replace,PySem.F.type_str_replace,h1,h2,?_⟩
 rw[e1,e2]
 #Ts rfl (TL ?_)
 #Su (Vf (k:=j) (pos:=p) ?_)
 #Su (Subscript_ (bw (hl pins _ σ H1 _ (I1.tok _) q1) λv2 s2 g9=>?_))
 @⟨a,H2,I2,r2,q2⟩:=g9
 #bw (hi pins s2 σ H2 _ I2 q2) λiv s3 h9=>?_
 @⟨y3,H3,I3,r3,q3⟩:=h9
 @⟨la,i,c,xs,rfl,rfl,tk,i0,hc,PJ,hb,q3⟩:=q3
 cases r2
 @⟨Rc,rfl⟩:=r3
 @⟨its,n,eH,KU⟩:=tk
 obtain⟨eo,_,its',n',r',e'⟩ : s3.heap.get? la=_/\_/\_:=I3.hok la _ eH
 rw[eo]at e'
 !ed:its=its':=by
   injection e' with e'
   injection e' with _ _ e' _
   injection e' with e' _
   #List.toArray_inj e'
 subst ed
 !il:s3.heap.IsList la its.toArray:=⟨_,eo,rfl,_,rfl⟩
 @⟨w,ew,rw'⟩:=r'.get (show(xs.map V.str)[i.toNat]?=S (.str c)by rw[Sb,hc];rfl)
 @⟨tw,rfl⟩:=rw'
 @⟨t0,t1⟩:=KU _ (RL ew) c tw rfl
 !hl:=r'~
 !oM:i.toNat<its~:=(List.getElem?_eq_some_iff.mp ew).1
 !Q0:=ip
 !Q3:its~<=sizeLine:=by
   rw[← hl]
   #(show _<=_ from(show bB X.prog X.w H3 s3.heap la (.lst (xs.map V.str))from(I3.hok la _ eH).2).1)
 #item_listR il i0 (by lia) (by simpa using ew) (Tc ?_) (hs _ _)
 #SC.replace (λz=>?_) (λz=>?_) (λz=>?_) PJ hb λt' k=>⟨.str _,H3,I3.tok _,⟨_,U⟩,q3⟩
 . !z:s1.toks=0:=z
   lia
 . #au z (Tg t0)
 . #au z (Tg (RJ t1 n1))
def xC {e:Expr}{te:TE}{k:Int}{x1:Nat}{pos pr:Pos}(h:LO X N e te)(hs:bL e):pH X N [.Return (S (.Tuple [.Constant (.int k) j p,e] x1 pos)) pr] (λD σ H=>te σ H λv H1=>∀q,H1 q=Z->D.rt (.ref q) (upd H1 q (.tup [.int k,v]))):=by
 intro pins s σ H D I hn q
 !e1:∀es,starEach (.Constant (.int k) j p::es) X.env=(false,eval (.Constant (.int k) j p) X.env)::starEach es X.env:=λes=>(fJ (c:=.int k) (k:=j) (p:=p)).h es X.env
 !e2:starEach [e] X.env=[(false,eval e X.env)]:=hs.h [] X.env
 #T2 (wpAny_Return_some (wpAny_Tuple_spliced ?_))
 rw[e1,e2]
 #Su (wpAny_Constant_int (k:=j) (pos:=p) ?_)
 #Su (bw (h pins _ σ H _ (I.tok _) (show N<=s.toks+1 by lia) q) λu s1 g9=>?_)
 @⟨x,H1,I1,r1,q1⟩:=g9
 #Tc ⟨by change 2<=sizeLine;decide,?_⟩
 !hf:H1 s1.heap.objs.size=Z:=I1.hok.fresh (Rz _)
 #⟨.ref s1.heap.objs.size,σ,upd H1 s1.heap.objs.size (.tup [.int k,x]),I1.laid (t':=s1.toks) (λb u e=>Rr _ e) (Rz _) ?_,U,q1 _ hf⟩
 #⟨by change 2<=sizeLine;decide,_,.cons ⟨_,U⟩ (.cons r1 .nil),⟨_,RK _ rfl,U,_,U⟩⟩
end
end L2
namespace L3
open PySem PySem.Spec PyProof.Rows L2
structure E6 (X:Cx)(N:Nat)(ss:O Stmt)(t:TS):Prop where
 h:pH X N ss t
section
variable{X:Cx}{st:Stmt}{rest:O Stmt}{u1 u2:TS}{N:Nat}
def gF (h1:SS X st u1)(h2:E6 X N rest u2):E6 X N (st::rest) (fQ u1 u2):=⟨uC h1.h h2.h⟩
theorem first {x:Str}{a:Expr}{ta:TE}{op:V5}{r:R2}{k:Int}{j:Nat}{p p2 pos' pos:Pos}(i:Nat)(hN:X.N.Nodup)(ho:SO X (binaryOp op) r)(ha:SE X a ta)(h2:E6 X 1 rest u2)(hi:X.N[i]?=S x:=by rfl)(hx:Loc X.env.scope x:=by first|show Or.inl rfl|show Or.inr rfl)
   (hs:Tw (.BinOp a op (.Constant (.int k) j p2) p) (S (.Name x pos')) pos.line X.env=pure false:=by rfl) (hf:X.fn x=true\/X.env.scope.names.lookup x=S .local:=by first|show .inl rfl|show .inr rfl) :
   SL X (.Assign [.Name x pos'] (.BinOp a op (.Constant (.int k) j p2) p) pos::rest) (fQ (lR (yA r ta (tC (.int k))) (cI i)) u2):=⟨uD hN hi hx ho.h ha.h h2.h hs hf⟩
def pick {KK:Ro}{es:O Expr}{cs:O Str}{u:Nat->TS}{x y z:Str}{px p1 p2 p3 p4 pl py pos da:Pos}{sc:Scope}(i j:Nat)(S8x:bp sc X.env.scope)(hN:X.N.Nodup)(h2:∀N,E6 X N rest (u N))(L8:pE es cs:=by repeat' constructor)(hc:X.calm=true:=by rfl)(hxl:sc.names.lookup x=S .local:=by right)(hzf:sc.names.lookup z=S .free:=by right)(hcs:cs~<=1000:=by left)
   (hix:X.N[i]?=S y:=by rfl) (hjz:X.N[j]?=S z:=by rfl) (hy:Loc X.env.scope y:=by first|show Or.inl rfl|show Or.inr rfl) (hx0:(x==("__debug__":Str))=false:=by left) (hz0:(z==("__debug__":Str))=false:=by left) (hz1:(z==("__classdict__":Str))=false:=by left)
   (hsw:Tw (.ListComp (.Name x p1) [⟨.Name x px,.List es pl,[.Compare (.Name x p2) [.NotIn] [.Name z p3] p4],0⟩] sc pos) (S (.Name y py)) da.line X.env=pure true:=by rfl)
   (hs:∀v,Sg (.List es pl) X.env v=pure v:=by intro _;rfl) (hf:X.fn y=true\/X.env.scope.names.lookup y=S .local:=by first|show .inl rfl|show .inr rfl) (hK:X.K=KK:=by first|show br|rfl) :
   E6 X 1 (.Assign [.Name y py] (.ListComp (.Name x p1) [⟨.Name x px,.List es pl,[.Compare (.Name x p2) [.NotIn] [.Name z p3] p4],0⟩] sc pos) da::rest) (BY KK cs i j u):=by
 subst hK
 #⟨xE hc S8x hxl hzf L8 hcs hN hix hjz hy hx0 hz0 hz1 hsw hs hf λN=>(h2 N).h⟩
def Av {o l ix:Expr}{to tl ti:TE}{apos cpos p p2 p3 pos pr:Pos}{y:Str}{j j2 x1:Nat}{k:Int}(ho:SE X o to)(hl:SE X l tl)(hi:SE X ix ti)(hs:jH ix:=by#λz z=>rfl)
   (hbase:Ss o "replace" X.env (eval o X.env)=eval o X.env:=by rfl) (hline:(apos.endLine==cpos.line)=true:=by rfl) :
   E6 X N [.Return (S (.Tuple [.Constant (.int k) j2 p3,.Call (.Attribute o "replace" apos) [.Constant (.str y) j p,.Subscript l ix p2] [] cpos] x1 pos)) pr] (λD σ H=>BZ N to y tl ti σ H λv H1=>∀q,H1 q=Z->D.rt (.ref q) (upd H1 q (.tup [.int k,v]))):=
 ⟨xC (xr ho.h hl.h hi.h hs hbase hline) jO⟩
def Lk {p2 pos:Pos}{a b:Expr}{ta tb:TE}(ha:SE X a ta)(hb:SE X b tb):SE X (.Subscript a (.Slice (S b) Z Z p2) pos) (EM Eg ta (jc tb) jb):=⟨eP x9 ha.h (d8 hb.h) jS⟩
end
end L3
open L3 renaming v->Y,k->L,n->M,int->Ws,op->Wt,str->Wu,cons->Wv,one->Ww,cmp->Wx,set->Wy,ix->Wz,own->WA,ifs->WB,ret->WC,lst->WD,nil->WE,aO->WG,tup->WH,gn->WI,aX->WJ,dw->WK,bF->WL,eX->WM,bt->WN,bu->WO,gw->WQ,bj->WS,bO->WT,glob->WU,tw->WV,iL->WW,fC->WX,dk->WY,pB->WZ,ex->W0,pO->W2,dC->W4,dM->W5,gX->W6,dZ->W7,jF->W8,fu->W9,dN->Xa,kF->Xb,kO->Xd,bl->Xe,gM->Xf,gF->Xg,run->Xh,nH->Xi,asg->Xj,lc->Xk,oY->Xl,jA->Xm,oZ->Xn,fU->Xo,jw->Xp,Dy->Xq,fld->Xr,dS->Xs,append->Xt,iR->Xu,kZ->Xv,my->Xw,uR->Xx,fs->Xy,Fl->Xz,Fi->XA,neg->XB,u7->XC,bI->XD,FP->XE,never->XI
set_option maxHeartbeats 1000000
namespace TW
open PySem L2
section
variable{P:Program}{w:World}{K:Ro}{mg:Str->Option Value}{base:Heap}
def lN {us:O Value}{n:Nat}(h:us~=n+1):∃a t,us=a::t/\t~=n:=by
 cases us with
 | nil=>cases h
 | cons a t=>#⟨a,t,rfl,Nat.succ.inj h⟩
def lG {x qual:Str}{st:Stmt}{f:J}{fd:RZ}{p0:Str}(F:cD K x qual st f fd)(h:∀(kV doc pm:Value) (an:Option J) (cdv ct u0:Value),V3 (S6 x qual (dt st) (ck st) (ao st) .none kV doc pm an cdv ct) ⟨[u0],[]⟩=pure (([p0]:O Str).zip [u0])):Binds K fd [p0] []:=F.binds λkV doc pm an cdv ct us hl=>by
 @⟨u0,Lx,rfl,h1⟩:=lN hl
 cases List.length_eq_zero_iff.mp h1
 #h kV doc pm an cdv ct u0
def lH {x qual:Str}{st:Stmt}{f:J}{fd:RZ}{p0 p1:Str}(F:cD K x qual st f fd)(h:∀(kV doc pm:Value) (an:Option J) (cdv ct u0 u1:Value),V3 (S6 x qual (dt st) (ck st) (ao st) .none kV doc pm an cdv ct) ⟨[u0,u1],[]⟩=pure (([p0,p1]:O Str).zip [u0,u1])):Binds K fd [p0,p1] []:=F.binds λkV doc pm an cdv ct us hl=>by
 @⟨u0,Lx,rfl,h1⟩:=lN hl
 @⟨u1,Nq,rfl,h2⟩:=lN h1
 cases List.length_eq_zero_iff.mp h2
 #h kV doc pm an cdv ct u0 u1
def Ci {x qual:Str}{st:Stmt}{f:J}{fd:RZ}{p0 p1 p2:Str}(F:cD K x qual st f fd)(h:∀(kV doc pm:Value) (an:Option J) (cdv ct u0 u1 u2:Value),V3 (S6 x qual (dt st) (ck st) (ao st) .none kV doc pm an cdv ct) ⟨[u0,u1,u2],[]⟩=pure (([p0,p1,p2]:O Str).zip [u0,u1,u2])):Binds K fd [p0,p1,p2] []:=F.binds λkV doc pm an cdv ct us hl=>by
 @⟨u0,Lx,rfl,h1⟩:=lN hl
 @⟨u1,Nq,rfl,h2⟩:=lN h1
 @⟨u2,QK,rfl,h3⟩:=lN h2
 cases List.length_eq_zero_iff.mp h3
 #h kV doc pm an cdv ct u0 u1 u2
def Cj {x qual:Str}{st:Stmt}{f:J}{fd:RZ}{p0 p1 p2 p3:Str}(F:cD K x qual st f fd)(h:∀(kV doc pm:Value) (an:Option J) (cdv ct u0 u1 u2 u3:Value),V3 (S6 x qual (dt st) (ck st) (ao st) .none kV doc pm an cdv ct) ⟨[u0,u1,u2,u3],[]⟩=pure (([p0,p1,p2,p3]:O Str).zip [u0,u1,u2,u3])):Binds K fd [p0,p1,p2,p3] []:=F.binds λkV doc pm an cdv ct us hl=>by
 @⟨u0,Lx,rfl,h1⟩:=lN hl
 @⟨u1,Nq,rfl,h2⟩:=lN h1
 @⟨u2,QK,rfl,h3⟩:=lN h2
 @⟨u3,Rg,rfl,h4⟩:=lN h3
 cases List.length_eq_zero_iff.mp h4
 #h kV doc pm an cdv ct u0 u1 u2 u3
def top (i:Nat):Stmt:=PySem.Challenge.pw_twinwalk_k73_rows_of_no_program.main.body.getD i (.Pass ⟨0,0,0,0⟩)
abbrev BB:Stmt:=top 45
def TK.lst {H:Hp}{a:J}{xs:O V}{o:HO}(h:H a=S (.lst xs)):TK H (upd H a o):=λb ys e=>by rw[ah (Bl e h (λz=>nomatch z))];#e
theorem gk {α β:Type}(f:α->β):∀(l:O α) (i:Nat),(l.eraseIdx i).map f=(l.map f).eraseIdx i
 | [],_=>rfl
 | _::_,0=>rfl
 | a::r,i+1=>by simp only[V8,R3,gk f r i]
theorem Paired.get {α β:Type}{F:α->β->Prop}:∀{l₁:O α} {l₂:O β} {i:Nat} {x:α},Paired F l₁ l₂->l₁[i]?=S x->∃y,l₂[i]?=S y/\F x y
 | _,_,_,_,.nil,e=>by simp at e
 | _,_,0,_,.cons r _,e=>by simp at e;subst e;#⟨_,rfl,r⟩
 | _,_,i+1,x,.cons _ t,e=>by
   @⟨u,h1,h2⟩:=Paired.get (i:=i) (x:=x) t (by simpa using e)
   #⟨u,by simpa using h1,h2⟩
def de {σ:L2.St}{H:Hp}{A B:Hp->Prop}(h:A H):EJ σ H (λb H3=>if b=true then A H3 else B H3):=b6 (A:=A H) (B:=B H) h
def ak {i:Nat}{v:V}{σ:L2.St}{H:Hp}{Q:L2.St->Hp->Prop}(h:Q (σ.set i (S v)) H):cI i v σ H Q:=h
def aa {A B C:Hp}(a:ai A B)(b:ai B C):ai A C:=λp o h=>b p o (a p o h)
def same_refl (A:Hp):ai A A:=λz z h=>h
def aZ {H:Hp}{p:J}(h:H p=Z)(o:HO):∃H1,ai H H1/\H1 p=S o/\upd H p o=H1:=⟨_,af h o,ae,rfl⟩
def ML {H:Hp}{p q:J}{o:HO}(h:H p=Z)(k:upd H p o q=Z)(o2:HO):∃H1,ai H H1/\H1 p=S o/\H1 q=S o2/\upd (upd H p o) q o2=H1:=⟨_,λb u e=>af k o2 b u (af h o b u e),by rw[ah (ag ae k)];#ae,ae,rfl⟩
abbrev QP (s:Stmt)(x:Str):Prop:=(ao s).names.lookup x=S .globalImplicit
def oa (s:Stmt){sc:Scope}(a:sc.kind=.function:=by rfl)(b:∀y∈sc.names,y.2≠.cell:=by right)(c:∀x∈sc.names,x.2=.local->sc.names.lookup x.1=S .local:=by right)(d:∀x∈sc.names,x.2=.free->(ao s).names.lookup x.1=S .cell\/(ao s).names.lookup x.1=S .free:=by right):bp sc (ao s):=⟨a,b,c,d⟩
def jr (l:O Str)(h:l.Nodup:=by right):l.Nodup:=h
def cy {α:Type}{l:O α}{i:Nat}{a:α}(h:l[i]?=S a):i<l~:=(List.getElem?_eq_some_iff.mp h).1
def cv {α:Type}{a b:α}{l:O α}(h:a∈b::l):a=b\/a∈l:=List.mem_cons.mp h
def zq {α:Type}{a b:α}{l:O α}(h:a=b\/a∈l):a∈b::l:=List.mem_cons.mpr h
def di {α:Type}{a b:α}(h:a∈[b]):a=b:=List.mem_singleton.mp h
def fc {α β:Type}{f:α->β}{b:β}{l:O α}(h:b∈l.map f):∃a,a∈l/\f a=b:=List.mem_map.mp h
def C6 {α β:Type}{f:α->β}{b:β}{l:O α}(h:∃a,a∈l/\f a=b):b∈l.map f:=List.mem_map.mpr h
def ez {α:Type}{a:α}{l m:O α}(h:a∈l++m):a∈l\/a∈m:=List.mem_append.mp h
def Qa {α:Type}{a:α}{l m:O α}(h:a∈l\/a∈m):a∈l++m:=List.mem_append.mpr h
def aS {H H':Hp}{a:J}(s:ai H H')(h:H' a=Z):H a=Z:=by
 match e:H a with
 | none=>rfl
 | some o=>rw[s _ _ e]at h;cases h
def bo {H H':Hp}{a:J}{o:HO}(s:ai H H')(h:H a=Z):ai H (upd H' a o):=λb u e=>by rw[ah (ag e h)];#s b u e
def az {H H':Hp}{a:J}{o:HO}(s:ai H H')(h:H' a=Z):ai H (upd H' a o):=bo s (aS s h)
def bU {α:Type}(f:α->V)(xs:O α){r:Int}(h0:0<=r)(h1:r<(xs~:Int)):∃x,xs[r.toNat]?=S x/\x∈xs/\iz (xs.map f) r=S (f x):=by
 !hr:r.toNat<xs~:=by lia
 !e:r=((r.toNat:Nat):Int):=by lia
 !q:iz (xs.map f) ((r.toNat:Nat):Int)=S (f xs[r.toNat]):=f6 (by rw[Sb,RQ hr];rfl)
 rw[← e]at q
 #⟨xs[r.toNat],RQ hr,List.getElem_mem hr,q⟩
def vc {xs:O V}{r:Int}(h0:0<=r)(h1:r<(xs~:Int)):∃x,xs[r.toNat]?=S x/\iz xs r=S x:=by
 !hr:r.toNat<xs~:=by lia
 !e:r=((r.toNat:Nat):Int):=by lia
 !q:iz xs ((r.toNat:Nat):Int)=S xs[r.toNat]:=f6 (RQ hr)
 rw[← e]at q
 #⟨xs[r.toNat],RQ hr,q⟩
def n5 (K:Ro):Sp:=λvs H Q z=>∃(a:J) (ns:O Int) (k:Int),vs=[.ref a,.int k]/\aH K H a (ns.map V.int)/\0<=k/\∀c:Int,Q (.int c) H
def Ew:aC ["script","k"] ["script","k"] (ao BB):=eU
def bR {K:Ro}{H:Hp}{p:J}{xs:O V}{k:Int}{z:V}{R:V->Prop}(hq:H p=S (.tup xs))(he:iz xs k=S z)(q:R z):∃p' EV j z,V.ref p=.ref p'/\V.int k=.int j/\bS K H p' EV/\iz EV j=S z/\R z:=⟨p,xs,k,z,rfl,rfl,bS.of hq,he,q⟩
def cH {K:Ro}{H:Hp}{p:J}{xs:O V}{k:Int}{z:V}{R:V->Prop}(hq:H p=S (.lst xs))(he:iz xs k=S z)(q:R z):∃p' EV j z,V.ref p=.ref p'/\V.int k=.int j/\aH K H p' EV/\iz EV j=S z/\R z:=⟨p,xs,k,z,rfl,rfl,aH.of hq,he,q⟩
def yC {K:Ro}{H:Hp}{σ:L2.St}{Q:L2.St->Hp->Prop}{a:J}{x y:V}{i j:Nat}(h:H a=S (.tup [x,y]))(q:Q ((σ.set i (S x)).set j (S y)) H):zb K 2 (kB (cI i) (kB (cI j) y9)) (.ref a) σ H Q:=⟨a,_,rfl,bS.of h,rfl,_,_,rfl,_,_,rfl,rfl,q⟩
def QF {K:Ro}{H:Hp}{σ:L2.St}{Q:L2.St->Hp->Prop}{a:J}{x y z:V}{i j k:Nat}(h:H a=S (.tup [x,y,z]))(q:Q (((σ.set i (S x)).set j (S y)).set k (S z)) H):zb K 3 (kB (cI i) (kB (cI j) (kB (cI k) y9))) (.ref a) σ H Q:=⟨a,_,rfl,bS.of h,rfl,_,_,rfl,_,_,rfl,_,_,rfl,rfl,q⟩
def Oe {K:Ro}{H:Hp}{a C dx:J}{fs:O (Str×V)}{f:Str}{v:V}{R:V->Prop}(h:H a=S (.ins C dx fs))(c:pq K C)(n:cO K C f)(l:fs.lookup f=S v)(q:R v):∃a' C' FR y7 v,V.ref a=.ref a'/\H a'=S (.ins C' FR y7)/\pq K C'/\cO K C' f/\y7.lookup f=S v/\R v:=⟨a,C,dx,fs,v,rfl,h,c,n,l,q⟩
def zJ {f:J}{fd:RZ}(F:cD K "_law_cell_at" "_law_cell_at" BB f fd)(m_len:mg "len"=Z):aY P w K mg base dq 1 f fd ["script","k"] (n5 K):=by
 #F.iU Ew λcdv A outer s H vs Q E hr h=>?_
 @⟨a,ns,k,rfl,hs,h0,q⟩:=h
 #⟨_,Xh (Wv (WB (Wx Xl (Y 1) (WJ WO U m_len RG (L (Y 0) M))) (Ww (WC (Wz WK (Y 0) (Y 1)))) WE)
   (Ww (WC Ws))),?_⟩
 #⟨_,U,_,U,a,_,U,.inl hs,_,_,U,U,_,U,?_⟩
 #aG (λc=>?_) (λz=>q 0)
 !hk:k<((ns.map V.int)~:Int):=jg c
 rw[Rn]at hk
 @⟨x,_,_,dg⟩:=bU V.int ns h0 hk
 #⟨_,U,_,U,a,_,_,_,U,U,hs,dg,q x⟩
def aq {u1 u2:TS}{D:L2.Ends}{σ:L2.St}{H:Hp}(h:∀R:L2.St->Hp->Prop,(∀σ H,u2 D σ H->R σ H)->u1 {D with nx:=R} σ H):fQ u1 u2 D σ H:=h _ λy y z=>z
def tu {u1 u2 u3:TS}{D:L2.Ends}{σ:L2.St}{H:Hp}(h:∀R:L2.St->Hp->Prop,(∀σ H,u3 D σ H->R σ H)->fQ u1 (fQ u2 λy=>R) D σ H):fQ u1 (fQ u2 u3) D σ H:=h (u3 D) λy y z=>z
def JO {u1 u2 u3 u4:TS}{D:L2.Ends}{σ:L2.St}{H:Hp}(h:∀R:L2.St->Hp->Prop,(∀σ H,u4 D σ H->R σ H)->fQ u1 (fQ u2 (fQ u3 λy=>R)) D σ H):fQ u1 (fQ u2 (fQ u3 u4)) D σ H:=h (u4 D) λy y z=>z
def ig {X:Cx}{ss:O Stmt}{G:TS->Prop}(h:∃t,L3.SL X ss t/\G t):∃t,lD X ss t/\G t:=by@⟨t,a,b⟩:=h;#⟨t,a.h,b⟩
def aw {F:L2.St->Hp->Prop}{σ:L2.St}{H:Hp}(σ':L2.St)(e:σ=σ')(h:F σ' H):F σ H:=by subst e;#h
def rJ {F:L2.St->Hp->Prop}{σ:L2.St}{H:Hp}(H':Hp)(e:H=H')(h:F σ H'):F σ H:=by subst e;#h
def aP {k n:Int}(h:0<n):0<=k%n:=Int.emod_nonneg _ (by lia)
def aQ {k n:Int}(h:0<n):k%n<n:=Int.emod_lt_of_pos _ h
def CP {a b:Int}(c:decide (V.int a=V.int b)=true):a=b:=by !:=jg c;injection this
def CQ {a b:Int}(c:¬ decide (V.int a=V.int b)=true):a≠b:=λz=>c (hW (by rw[z]))
def qR {P:V->Prop}{xs:O V}{r:Int}(h0:0<=r)(h1:r<(xs~:Int))(h:∀x∈xs,P x):∃x,iz xs r=S x/\P x:=let⟨x,h2,h3⟩:=vc h0 h1;⟨x,h3,h x (RL h2)⟩
inductive Np where
 | put (x:Str) (s:E) (n:Int)|say (s:E) (n:Int)|test (c:E) (n o:Int)|pick (x:Str) (n:Int)|fin
def b8 (H:Hp):V->Np->Prop
 | v,.put x s n=>∃u,Tp H v [.str "put",.str x,u,.int n]/\cJ H u s
 | v,.say s n=>∃u,Tp H v [.str "say",u,.int n]/\cJ H u s
 | v,.test c n o=>∃u,Tp H v [.str "test",u,.int n,.int o]/\cJ H u c
 | v,.pick x n=>Tp H v [.str "pick",.str x,.int n]
 | v,.fin=>Tp H v [.str "end"]
theorem b8.keep {H H':Hp}(k:TK H H'):∀{e:Np} {v:V},b8 H v e->b8 H' v e
 | .put _ _ _,_,⟨u,h,a⟩=>⟨u,h.keep k,a.keep k⟩
 | .say _ _,_,⟨u,h,a⟩=>⟨u,h.keep k,a.keep k⟩
 | .test _ _ _,_,⟨u,h,a⟩=>⟨u,h.keep k,a.keep k⟩
 | .pick _ _,_,h=>Tp.keep k h
 | .fin,_,h=>Tp.keep k h
def cX {α β:Type}{f:α->β}{l:O α}{i:Nat}{y:β}(h:(l.map f)[i]?=S y):∃x,l[i]?=S x/\y=f x:=by
 rw[Sb]at h
 @⟨x,h1,h2⟩:=Option.map_eq_some_iff.mp h
 #⟨x,h1,h2.symm⟩
abbrev BF:Stmt:=top 46
def cm:Sp:=λvs H Q z=>∃c k:Int,vs=[.int c,.int k]/\0<=k/\k<2^40/\∀r:Int,0<=r->r<268435456->Q (.int r) H
def qG:aC ["cell","k","number"] ["cell","k"] (ao BF):=eU
def zS {f:J}{fd:RZ}(F:cD K "_law_stir" "_law_stir" BF f fd):aY P w K mg base dq 1 f fd ["cell","k"] cm:=by
 #F.iU qG λcdv A outer s H vs Q E hr h=>?_
 @⟨c,k,rfl,k0,k1,q⟩:=h
 #ig ⟨_,(Wv (WB (Wx L3.GY (Y 0) (Wt Xm Ws Ws)) (Ww (WC (Wt WG (Wt L3.G1 (Wt Xw (Y 0) (Wt Xm Ws Ws)) (Wt WY Ws (Y 1))) (Wt Xm Ws Ws)))) WE)
   (Wv (Wy 2 qG.nd (Wt WG (Wt WY (Wt WN (Wt WN (Y 0) (Wt WY Ws (Y 1))) Ws) Ws) Ws))
   (Wv (Wy 2 qG.nd (Wt WG (Wt WY (Y 2) (Y 2)) Ws))
   (Ww (WC (Wt WT (Wt WG (Wt WY (Y 2) Ws) Ws) Ws)))))),?_⟩
 #aq λRk kR=>?_
 #⟨_,U,_,_,U,U,⟨by left,by left,by left⟩,_,_,U,U,_,U,?_⟩
 #aG (λz=>?_) (λz=>?_)
 . #⟨_,U,_,_,U,U,⟨by left,by left,by left⟩,_,_,U,U,_,U,_,_,U,U,.inr ⟨by lia,by lia⟩,_,_,U,U,(by change 0<=28*k;lia),?_⟩
   #⟨_,_,U,U,⟨by left,by left,by left⟩,_,_,U,U,(by change(0:Int)<2^28;decide),?_⟩
   #q _ (aP (by left)) (aQ (by left))
 #kR _ _ (aq λRk kR=>?_)
 #⟨_,U,_,U,_,_,U,U,.inr ⟨by lia,by lia⟩,_,_,U,U,_,_,U,U,_,_,U,U,.inr ⟨by left,by left⟩,_,_,U,U,(by change(0:Int)<2147483647;decide),?_⟩
 obtain⟨b,eb,b0,b1⟩ : ∃b,b=(c+1013*k+1)*16807%2147483647/\0<=b/\b<2147483647:=⟨_,rfl,aP (by left),aQ (by left)⟩
 #ak (kR _ _ ?_)
 #aw [S (.int c),S (.int k),S (.int b)] (by subst eb;rfl) ?_
 #aq λRk kR=>?_
 #⟨_,U,_,U,_,_,U,U,.inl ⟨by lia,by lia⟩,_,_,U,U,(by change(0:Int)<2147483629;decide),?_⟩
 #ak (kR _ _ ?_)
 #⟨_,U,_,_,U,U,.inr ⟨by left,by left⟩,_,_,U,U,(by change(0:Int)<2147483587;decide),_,_,U,U,⟨by left,by right⟩,?_⟩
 obtain⟨a,ea,a0,a1⟩ : ∃a,a=b*b%2147483629*39373%2147483587/\0<=a/\a<2147483587:=⟨_,rfl,aP (by left),aQ (by left)⟩
 #q (b*b%2147483629*39373%2147483587/8) ?_ ?_<;>rw[← ea]<;>lia
end
end TW
namespace TW
open PySem L2
def pK (K:Ro)(mg:Str->Option Value)(x:Str)(xs:O Str):Prop:=∃t,mg x=S (.ref t)/\∀H:Hp,bS K H t (xs.map V.str)
def sX {K:Ro}{C:J}{cd:ClassData}{l:O Value}(h:U4 K C=S cd)(m:cd.mro=l):mV K C=S l:=by
 unfold U4 at h
 unfold mV
 split at h
 . rename_i e
   cases h
   rw[e,← m]
 . cases h
structure LU (K:Ro)(mg:Str->Option Value)(T aV aI aL aM aj aE aU aD aT aK aJ:J):Prop where
 t:Xc K mg "TwinError" T vE
 x_NoPair:Xc K mg "NoPair" aV (.ref T::vE)
 k_NoPair:qQ K aV
 o_NoPair:Sv K (.ref aV) []=S false
 v_NoPair:Rq K (.ref aV) (.type "ValueError")=S true
 i_NoPair_NoPair:Rq K (.ref aV) (.ref aV)=S true
 i_NoPair_NoPaper:Rq K (.ref aV) (.ref aI)=S false
 i_NoPair_TooMany:Rq K (.ref aV) (.ref aL)=S false
 i_NoPair_NoRow:Rq K (.ref aV) (.ref aM)=S false
 i_NoPair_NoProgram:Rq K (.ref aV) (.ref aj)=S false
 i_NoPair_NoWorths:Rq K (.ref aV) (.ref aE)=S false
 i_NoPair_NoNode:Rq K (.ref aV) (.ref aU)=S false
 i_NoPair_NoChange:Rq K (.ref aV) (.ref aD)=S false
 i_NoPair_NoForm:Rq K (.ref aV) (.ref aT)=S false
 i_NoPair_NoneYet:Rq K (.ref aV) (.ref aK)=S false
 i_NoPair_NoPicks:Rq K (.ref aV) (.ref aJ)=S false
 x_NoPaper:Xc K mg "NoPaper" aI (.ref T::vE)
 k_NoPaper:qQ K aI
 o_NoPaper:Sv K (.ref aI) []=S false
 v_NoPaper:Rq K (.ref aI) (.type "ValueError")=S true
 i_NoPaper_NoPair:Rq K (.ref aI) (.ref aV)=S false
 i_NoPaper_NoPaper:Rq K (.ref aI) (.ref aI)=S true
 i_NoPaper_TooMany:Rq K (.ref aI) (.ref aL)=S false
 i_NoPaper_NoRow:Rq K (.ref aI) (.ref aM)=S false
 i_NoPaper_NoProgram:Rq K (.ref aI) (.ref aj)=S false
 i_NoPaper_NoWorths:Rq K (.ref aI) (.ref aE)=S false
 i_NoPaper_NoNode:Rq K (.ref aI) (.ref aU)=S false
 i_NoPaper_NoChange:Rq K (.ref aI) (.ref aD)=S false
 i_NoPaper_NoForm:Rq K (.ref aI) (.ref aT)=S false
 i_NoPaper_NoneYet:Rq K (.ref aI) (.ref aK)=S false
 i_NoPaper_NoPicks:Rq K (.ref aI) (.ref aJ)=S false
 x_TooMany:Xc K mg "TooMany" aL (.ref T::vE)
 k_TooMany:qQ K aL
 o_TooMany:Sv K (.ref aL) []=S false
 v_TooMany:Rq K (.ref aL) (.type "ValueError")=S true
 i_TooMany_NoPair:Rq K (.ref aL) (.ref aV)=S false
 i_TooMany_NoPaper:Rq K (.ref aL) (.ref aI)=S false
 i_TooMany_TooMany:Rq K (.ref aL) (.ref aL)=S true
 i_TooMany_NoRow:Rq K (.ref aL) (.ref aM)=S false
 i_TooMany_NoProgram:Rq K (.ref aL) (.ref aj)=S false
 i_TooMany_NoWorths:Rq K (.ref aL) (.ref aE)=S false
 i_TooMany_NoNode:Rq K (.ref aL) (.ref aU)=S false
 i_TooMany_NoChange:Rq K (.ref aL) (.ref aD)=S false
 i_TooMany_NoForm:Rq K (.ref aL) (.ref aT)=S false
 i_TooMany_NoneYet:Rq K (.ref aL) (.ref aK)=S false
 i_TooMany_NoPicks:Rq K (.ref aL) (.ref aJ)=S false
 x_NoRow:Xc K mg "NoRow" aM (.ref T::vE)
 k_NoRow:qQ K aM
 o_NoRow:Sv K (.ref aM) []=S false
 v_NoRow:Rq K (.ref aM) (.type "ValueError")=S true
 i_NoRow_NoPair:Rq K (.ref aM) (.ref aV)=S false
 i_NoRow_NoPaper:Rq K (.ref aM) (.ref aI)=S false
 i_NoRow_TooMany:Rq K (.ref aM) (.ref aL)=S false
 i_NoRow_NoRow:Rq K (.ref aM) (.ref aM)=S true
 i_NoRow_NoProgram:Rq K (.ref aM) (.ref aj)=S false
 i_NoRow_NoWorths:Rq K (.ref aM) (.ref aE)=S false
 i_NoRow_NoNode:Rq K (.ref aM) (.ref aU)=S false
 i_NoRow_NoChange:Rq K (.ref aM) (.ref aD)=S false
 i_NoRow_NoForm:Rq K (.ref aM) (.ref aT)=S false
 i_NoRow_NoneYet:Rq K (.ref aM) (.ref aK)=S false
 i_NoRow_NoPicks:Rq K (.ref aM) (.ref aJ)=S false
 x_NoProgram:Xc K mg "NoProgram" aj (.ref T::vE)
 k_NoProgram:qQ K aj
 o_NoProgram:Sv K (.ref aj) []=S false
 v_NoProgram:Rq K (.ref aj) (.type "ValueError")=S true
 i_NoProgram_NoPair:Rq K (.ref aj) (.ref aV)=S false
 i_NoProgram_NoPaper:Rq K (.ref aj) (.ref aI)=S false
 i_NoProgram_TooMany:Rq K (.ref aj) (.ref aL)=S false
 i_NoProgram_NoRow:Rq K (.ref aj) (.ref aM)=S false
 i_NoProgram_NoProgram:Rq K (.ref aj) (.ref aj)=S true
 i_NoProgram_NoWorths:Rq K (.ref aj) (.ref aE)=S false
 i_NoProgram_NoNode:Rq K (.ref aj) (.ref aU)=S false
 i_NoProgram_NoChange:Rq K (.ref aj) (.ref aD)=S false
 i_NoProgram_NoForm:Rq K (.ref aj) (.ref aT)=S false
 i_NoProgram_NoneYet:Rq K (.ref aj) (.ref aK)=S false
 i_NoProgram_NoPicks:Rq K (.ref aj) (.ref aJ)=S false
 x_NoWorths:Xc K mg "NoWorths" aE (.ref T::vE)
 k_NoWorths:qQ K aE
 o_NoWorths:Sv K (.ref aE) []=S false
 v_NoWorths:Rq K (.ref aE) (.type "ValueError")=S true
 i_NoWorths_NoPair:Rq K (.ref aE) (.ref aV)=S false
 i_NoWorths_NoPaper:Rq K (.ref aE) (.ref aI)=S false
 i_NoWorths_TooMany:Rq K (.ref aE) (.ref aL)=S false
 i_NoWorths_NoRow:Rq K (.ref aE) (.ref aM)=S false
 i_NoWorths_NoProgram:Rq K (.ref aE) (.ref aj)=S false
 i_NoWorths_NoWorths:Rq K (.ref aE) (.ref aE)=S true
 i_NoWorths_NoNode:Rq K (.ref aE) (.ref aU)=S false
 i_NoWorths_NoChange:Rq K (.ref aE) (.ref aD)=S false
 i_NoWorths_NoForm:Rq K (.ref aE) (.ref aT)=S false
 i_NoWorths_NoneYet:Rq K (.ref aE) (.ref aK)=S false
 i_NoWorths_NoPicks:Rq K (.ref aE) (.ref aJ)=S false
 x_NoNode:Xc K mg "NoNode" aU (.ref T::vE)
 k_NoNode:qQ K aU
 o_NoNode:Sv K (.ref aU) []=S false
 v_NoNode:Rq K (.ref aU) (.type "ValueError")=S true
 i_NoNode_NoPair:Rq K (.ref aU) (.ref aV)=S false
 i_NoNode_NoPaper:Rq K (.ref aU) (.ref aI)=S false
 i_NoNode_TooMany:Rq K (.ref aU) (.ref aL)=S false
 i_NoNode_NoRow:Rq K (.ref aU) (.ref aM)=S false
 i_NoNode_NoProgram:Rq K (.ref aU) (.ref aj)=S false
 i_NoNode_NoWorths:Rq K (.ref aU) (.ref aE)=S false
 i_NoNode_NoNode:Rq K (.ref aU) (.ref aU)=S true
 i_NoNode_NoChange:Rq K (.ref aU) (.ref aD)=S false
 i_NoNode_NoForm:Rq K (.ref aU) (.ref aT)=S false
 i_NoNode_NoneYet:Rq K (.ref aU) (.ref aK)=S false
 i_NoNode_NoPicks:Rq K (.ref aU) (.ref aJ)=S false
 x_NoChange:Xc K mg "NoChange" aD (.ref T::vE)
 k_NoChange:qQ K aD
 o_NoChange:Sv K (.ref aD) []=S false
 v_NoChange:Rq K (.ref aD) (.type "ValueError")=S true
 i_NoChange_NoPair:Rq K (.ref aD) (.ref aV)=S false
 i_NoChange_NoPaper:Rq K (.ref aD) (.ref aI)=S false
 i_NoChange_TooMany:Rq K (.ref aD) (.ref aL)=S false
 i_NoChange_NoRow:Rq K (.ref aD) (.ref aM)=S false
 i_NoChange_NoProgram:Rq K (.ref aD) (.ref aj)=S false
 i_NoChange_NoWorths:Rq K (.ref aD) (.ref aE)=S false
 i_NoChange_NoNode:Rq K (.ref aD) (.ref aU)=S false
 i_NoChange_NoChange:Rq K (.ref aD) (.ref aD)=S true
 i_NoChange_NoForm:Rq K (.ref aD) (.ref aT)=S false
 i_NoChange_NoneYet:Rq K (.ref aD) (.ref aK)=S false
 i_NoChange_NoPicks:Rq K (.ref aD) (.ref aJ)=S false
 x_NoForm:Xc K mg "NoForm" aT (.ref T::vE)
 k_NoForm:qQ K aT
 o_NoForm:Sv K (.ref aT) []=S false
 v_NoForm:Rq K (.ref aT) (.type "ValueError")=S true
 i_NoForm_NoPair:Rq K (.ref aT) (.ref aV)=S false
 i_NoForm_NoPaper:Rq K (.ref aT) (.ref aI)=S false
 i_NoForm_TooMany:Rq K (.ref aT) (.ref aL)=S false
 i_NoForm_NoRow:Rq K (.ref aT) (.ref aM)=S false
 i_NoForm_NoProgram:Rq K (.ref aT) (.ref aj)=S false
 i_NoForm_NoWorths:Rq K (.ref aT) (.ref aE)=S false
 i_NoForm_NoNode:Rq K (.ref aT) (.ref aU)=S false
 i_NoForm_NoChange:Rq K (.ref aT) (.ref aD)=S false
 i_NoForm_NoForm:Rq K (.ref aT) (.ref aT)=S true
 i_NoForm_NoneYet:Rq K (.ref aT) (.ref aK)=S false
 i_NoForm_NoPicks:Rq K (.ref aT) (.ref aJ)=S false
 x_NoneYet:Xc K mg "NoneYet" aK (.ref T::vE)
 k_NoneYet:qQ K aK
 o_NoneYet:Sv K (.ref aK) []=S false
 v_NoneYet:Rq K (.ref aK) (.type "ValueError")=S true
 i_NoneYet_NoPair:Rq K (.ref aK) (.ref aV)=S false
 i_NoneYet_NoPaper:Rq K (.ref aK) (.ref aI)=S false
 i_NoneYet_TooMany:Rq K (.ref aK) (.ref aL)=S false
 i_NoneYet_NoRow:Rq K (.ref aK) (.ref aM)=S false
 i_NoneYet_NoProgram:Rq K (.ref aK) (.ref aj)=S false
 i_NoneYet_NoWorths:Rq K (.ref aK) (.ref aE)=S false
 i_NoneYet_NoNode:Rq K (.ref aK) (.ref aU)=S false
 i_NoneYet_NoChange:Rq K (.ref aK) (.ref aD)=S false
 i_NoneYet_NoForm:Rq K (.ref aK) (.ref aT)=S false
 i_NoneYet_NoneYet:Rq K (.ref aK) (.ref aK)=S true
 i_NoneYet_NoPicks:Rq K (.ref aK) (.ref aJ)=S false
 x_NoPicks:Xc K mg "NoPicks" aJ (.ref T::vE)
 k_NoPicks:qQ K aJ
 o_NoPicks:Sv K (.ref aJ) []=S false
 v_NoPicks:Rq K (.ref aJ) (.type "ValueError")=S true
 i_NoPicks_NoPair:Rq K (.ref aJ) (.ref aV)=S false
 i_NoPicks_NoPaper:Rq K (.ref aJ) (.ref aI)=S false
 i_NoPicks_TooMany:Rq K (.ref aJ) (.ref aL)=S false
 i_NoPicks_NoRow:Rq K (.ref aJ) (.ref aM)=S false
 i_NoPicks_NoProgram:Rq K (.ref aJ) (.ref aj)=S false
 i_NoPicks_NoWorths:Rq K (.ref aJ) (.ref aE)=S false
 i_NoPicks_NoNode:Rq K (.ref aJ) (.ref aU)=S false
 i_NoPicks_NoChange:Rq K (.ref aJ) (.ref aD)=S false
 i_NoPicks_NoForm:Rq K (.ref aJ) (.ref aT)=S false
 i_NoPicks_NoneYet:Rq K (.ref aJ) (.ref aK)=S false
 i_NoPicks_NoPicks:Rq K (.ref aJ) (.ref aJ)=S true
def fz {K:Ro}{h:Heap}{mg:Str->Option Value}{x:Str}{C:J}{cd:ClassData}{tl:O Value}(X:K.In h)(G:h.Ns SD mg)(a:VX K SD x=S (S (.ref C)))(e:VF K C vE "ValueError.__new__"=true)(l:U4 K C=S cd)(m:cd.mro=.ref C::tl):Xc K mg x C tl:=⟨Sx X G a,e,sX l m⟩
def dP {K:Ro}{C:J}{cd:ClassData}(ga:Sw K (.ref C) "__getattribute__"=S (S (.builtin "BaseException.__getattribute__")))(gn:Sw K (.ref C) "__getattr__"=S Z)(ha:Sw K (.ref C) "__class__"=S (S (.builtin "object.__class__")))(hn:PySem.W.specialIn K (.builtin "object.__class__") "__get__"=S (S (.builtin "getset_descriptor.__get__")))(htk:PySem.W.takesIn K (.builtin "object.__class__")=S true)(hm:PySem.W.mroIn K C (.type "object")=S true)(hb:PySem.W.mroIn K C (.type "BaseException")=S true)(l:U4 K C=S cd):qQ K C:=⟨ga,gn,ha,hn,htk,hm,hb,by rw[l];rfl⟩
def sH {K:Ro}{h:Heap}{mg:Str->Option Value}{x:Str}{t:J}{od:Option J}{sl:Array (Option Value)}{n:Nat}{us:Array Value}{xs:O Str}(X:K.In h)(G:h.Ns SD mg)(a:VX K SD x=S (S (.ref t)))(l:K.lookup t=S ⟨.type "tuple",od,.seq us n,sl⟩)(b:us.size<=sizeLine)(e:us.toList~=xs~)(r:Vals (xs.map V.str) us.toList):pK K mg x xs:=⟨_,Sx X G a,λz=>.inr ⟨_,_,_,l,rfl,rfl,b,r⟩⟩
def bb {K:Ro}{h:Heap}{mg:Str->Option Value}{x:Str}{st:Stmt}{od an:Option J}{sl:Array (Option Value)}{oc kV dc pm cd ct:Value}{f:J}(X:K.In h)(G:h.Ns SD mg)(a:VX K SD x=S (S (.ref f)))
   (l:K.lookup f=S ⟨oc,od,.func (S6 x x (dt st) (ck st) (ao st) .none kV dc pm an cd ct),sl⟩) (c:UO K cd x=true) (k:Tf K (.ref f)=true):Src K mg x st:=⟨_,_,fD l c k,Sx X G a⟩
def rE {w:World}{K:Ro}{a:J}{kvs:O (Str×V)}{es:Array TZ}{n:Nat}(l:K.lookup a=S ⟨.type "dict",Z,.dict es n,#[]⟩)(hk:PySem.W.KeysLit w.params es.toList)(hs:(a==Th)=false)(p:Paired (λ(e:TZ) (q:Str×V)=>(∃t,e.key=.str q.1 t)/\RelV q.2 e.val) es.toList kvs):eG w K a kvs:=⟨es,n,l,hk,hs,p⟩
def tw_mk {K:Ro}{t:J}{vs:O V}{n2:Nat}{od:Option J}{sl:Array (Option Value)}{us:Array Value}(lt:K.lookup t=S ⟨.type "tuple",od,.seq us n2,sl⟩)(b:us.size<=sizeLine)(r:Vals vs us.toList):∀H:Hp,bS K H t vs:=λz=>.inr ⟨_,_,_,lt,rfl,rfl,b,r⟩
def xy:Paired (λ(e:TZ) (q:Str×V)=>(∃t,e.key=.str q.1 t)/\RelV q.2 e.val) [] []:=.nil
def rN {e:TZ}{q:Str×V}{l:O TZ}{l2:O (Str×V)}(h1:∃t,e.key=.str q.1 t)(h2:RelV q.2 e.val)(t:Paired (λ(e:TZ) (q:Str×V)=>(∃t,e.key=.str q.1 t)/\RelV q.2 e.val) l l2):Paired (λ(e:TZ) (q:Str×V)=>(∃t,e.key=.str q.1 t)/\RelV q.2 e.val) (e::l) (q::l2):=.cons ⟨h1,h2⟩ t
def JA (w:World)(K:Ro)(mg:Str->Option Value)(x:Str)(kvs:O (Str×V)):Prop:=∃a,mg x=S (.ref a)/\eG w K a kvs
def Ju (w:World)(K:Ro)(mg:Str->Option Value)(x:Str)(kvs:O (Str×O Str)):Prop:=∃a ts,mg x=S (.ref a)/\eG w K a ((kvs.map (·.1)).zip (ts.map V.ref))/\Paired (λ(t:J) (q:Str×O Str)=>∀H:Hp,bS K H t (q.2.map V.str)) ts kvs
def pJ (mg:Str->Option Value)(x s:Str):Prop:=∃t,mg x=S (.str s t)
def mI (mg:Str->Option Value)(x:Str)(n:Int):Prop:=∃t,mg x=S (.int n t)
def yR (s:Stmt):O Stmt:=match s with
 | .ClassDef _ _ _ b _ _ _ _ _ _ _=>b
 | _=>[]
def dS (i j:Nat):Stmt:=(yR (top i)).getD j (.Pass ⟨0,0,0,0⟩)
def iA (K:Ro)(C:J):O Str->Prop
 | []=>True
 | f::fs=>cO K C f/\iA K C fs
theorem iA.get {K:Ro}{C:J}:∀{fs:O Str} {f:Str},iA K C fs->f∈fs->cO K C f
 | g::fs,f,h,hf=>by
   rcases cv hf with rfl|hf
   . #h.1
   . #iA.get h.2 hf
structure mH (K:Ro)(mg:Str->Option Value)(x:Str)(C:J)(fs:O Str):Prop where
 m:mg x=S (.ref C)
 c:pq K C
 na:iA K C fs
def qO (K:Ro)(C:J)(q:Str)(st:Stmt):Prop:=∃f fd,cD K "__init__" q st f fd/\Mk K C f
def cj (K:Ro)(C:J)(x q:Str)(st:Stmt):Prop:=∃f fd,cD K x q st f fd/\Meth K C x f
structure FG (w:World)(K:Ro)(mg:Str->Option Value):Prop where
 s_program_of:Src K mg "program_of" (top 16)
 s_refuse_boxes:Src K mg "refuse_boxes" (top 17)
 s_refuse_inputs:Src K mg "refuse_inputs" (top 18)
 s_refuse_nodes:Src K mg "refuse_nodes" (top 19)
 s_leads_of:Src K mg "leads_of" (top 20)
 s_told_by:Src K mg "told_by" (top 21)
 s_refuse_unknown:Src K mg "refuse_unknown" (top 22)
 s_all_known:Src K mg "all_known" (top 23)
 s_picked_program:Src K mg "picked_program" (top 25)
 s_read_atom:Src K mg "read_atom" (top 37)
 s_read_sum:Src K mg "read_sum" (top 38)
 s_read_test:Src K mg "read_test" (top 39)
 s_read_condition:Src K mg "read_condition" (top 40)
 s_read_word:Src K mg "read_word" (top 41)
 s_read_row:Src K mg "read_row" (top 42)
 s_read_program:Src K mg "read_program" (top 43)
 s_law_cell_at:Src K mg "_law_cell_at" (top 45)
 s_law_stir:Src K mg "_law_stir" (top 46)
 s_law_names:Src K mg "_law_names" (top 47)
 s_law_number:Src K mg "_law_number" (top 48)
 s_law_sum:Src K mg "_law_sum" (top 49)
 s_law_condition:Src K mg "_law_condition" (top 50)
 s_law_grown_sum:Src K mg "_law_grown_sum" (top 51)
 s_law_grown_condition:Src K mg "_law_grown_condition" (top 52)
 s_law_word:Src K mg "_law_word" (top 53)
 s_law_any_sum:Src K mg "_law_any_sum" (top 54)
 s_law_any_condition:Src K mg "_law_any_condition" (top 55)
 s_law_node:Src K mg "_law_node" (top 56)
 s_law_program:Src K mg "_law_program" (top 57)
 s_law_refused:Src K mg "_law_refused" (top 58)
 s_law_wrong:Src K mg "_law_wrong" (top 59)
 s_law_put_in:Src K mg "_law_put_in" (top 60)
 s_law:Src K mg "law" (top 61)
 c_PARTED:pK K mg "PARTED" ["plus","less","same","under","not","both"]
 c_NAMELESS:pK K mg "NAMELESS" ["number","yes"]
 c_LETTERS:pJ mg "LETTERS" "abcdefghijklmnopqrstuvwxyz"
 c_FIGURES:pJ mg "FIGURES" "0123456789"
 c_MOST_FIGURES:mI mg "MOST_FIGURES" 30
 c_MOST_LETTERS:mI mg "MOST_LETTERS" 8
 c_SIGN_SUMS:JA w K mg "SIGN_SUMS" [("+",.str "plus"),("-",.str "less")]
 c_SIGN_TESTS:JA w K mg "SIGN_TESTS" [("=",.str "same"),("<",.str "under")]
 c_FORMS:Ju w K mg "FORMS" [("box",["name","number"]),("input",["name"]),("put",["name","sum","number"]),("say",["sum","number"]),("test",["condition","number","number"]),("pick",["name","number"]),("end",[])]
 c_RANKS:JA w K mg "RANKS" [("box",.int 0),("input",.int 1)]
 c_NODE_RANK:mI mg "NODE_RANK" 2
 k_Reader:∃C,mH K mg "Reader" C ["word","place"]/\qO K C "Reader.__init__" (dS 36 0)/\cj K C "sign" "Reader.sign" (dS 36 1)/\cj K C "taken" "Reader.taken" (dS 36 2)/\cj K C "due" "Reader.due" (dS 36 3)/\cj K C "stretch" "Reader.stretch" (dS 36 4)/\cj K C "number" "Reader.number" (dS 36 5)/\cj K C "name" "Reader.name" (dS 36 6)
 cl:∃T aV aI aL aM aj aE aU aD aT aK aJ,LU K mg T aV aI aL aM aj aE aU aD aT aK aJ
 m_len:mg "len"=Z
 m_list:mg "list"=Z
 m_range:mg "range"=Z
 m_zip:mg "zip"=Z
 m_int:mg "int"=Z
 m_isinstance:mg "isinstance"=Z
 m_set:mg "set"=Z
 m_tuple:mg "tuple"=Z
 m_sum:mg "sum"=Z
 m_enumerate:mg "enumerate"=Z
 m_str:mg "str"=Z
 m_ValueError:mg "ValueError"=Z
end TW
namespace TW
open PySem L2
section
variable{P:Program}{w:World}{K:Ro}{mg:Str->Option Value}{base:Heap}
def Ly:aB->O Int->Str->Int
 | b::bs,w::ws,x=>if b.1=x then w else Ly bs ws x
 | _,_,_=>0
def cp (side:Str):aB->O Int->O (O Key×V)
 | b::bs,w::ws=>([.inr side,.inr b.1],.int w)::cp side bs ws
 | _,_=>[]
theorem mh (side:Str):∀(bs:aB) (ws:O Int),(cp side bs ws)~<=bs~
 | [],_=>by simp[cp]
 | _::_,[]=>by simp[cp]
 | _::bs,_::ws=>by simp[cp];#mh side bs ws
theorem mi (side:Str):∀(bs:aB) (ws:O Int) (x:Str),bs~=ws~->x∈bs.map (·.1)->fj (cp side bs ws) [.inr side,.inr x]=S (.int (Ly bs ws x))
 | [],_,_,_,h=>by simp at h
 | _::_,[],_,h,_=>by simp at h
 | b::bs,w::ws,x,hl,hx=>by
   change fj (([.inr side,.inr b.1],V.int w)::cp side bs ws) _=S (.int (if b.1=x then w else Ly bs ws x))
   by_cases e:b.1=x
   . rw[dI e,je (p:=(([.inr side,.inr b.1]:O Key),V.int w)) (by rw[← e])]
   . rw[dh e,fT (p:=(([.inr side,.inr b.1]:O Key),V.int w)) (λz=>by injection z with _ z;injection z with z _;injection z with z;#e z)]
     #mi side bs ws x (by simpa using hl) ?_
     rcases cv hx with z|z
     . #au z.symm e
     . #z
theorem ik (side:Str):∀(bs:aB) (ws:O Int) (s x:Str),(s=side->x∉bs.map (·.1))->fj (cp side bs ws) [.inr s,.inr x]=Z
 | [],_,_,_,_=>rfl
 | _::_,[],_,_,_=>rfl
 | b::bs,w::ws,s,x,h=>by
   change fj (([.inr side,.inr b.1],V.int w)::cp side bs ws) _=Z
   rw[fT (p:=(([.inr side,.inr b.1]:O Key),V.int w)) (λz=>by injection z with z1 z;injection z1 with z1;injection z with z _;injection z with z;#h z1.symm (zq (.inl z.symm)))]
   #ik side bs ws s x λe z=>h e (zq (.inr z))
def xF {κ:Type}[DecidableEq κ]{kvs:O (κ×V)}{k:κ}{v:V}(h:fj kvs k=Z):putK kvs k v=kvs++[(k,v)]:=by
 unfold putK
 rw[lC,h]
 rfl
theorem kI (side:Str):∀(bs:aB) (ws:O Int) (b:Str×Int) (w:Int),bs~=ws~->cp side (bs++[b]) (ws++[w])=cp side bs ws++[([.inr side,.inr b.1],.int w)]
 | [],[],_,_,_=>rfl
 | [],_::_,_,_,h=>by simp at h
 | _::_,[],_,_,h=>by simp at h
 | b::bs,w::ws,c,v,h=>by
   change _::cp side (bs++[c]) (ws++[v])=_
   rw[kI side bs ws c v (by simpa using h)]
   rfl
def zx {bs:aB}(nd:(bs.map (·.1)).Nodup){i:Nat}{b:Str×Int}(h:bs[i]?=S b):b.1∉(bs.take i).map (·.1):=by
 intro z
 !hi:i<bs~:=(cy h)
 !e:bs[i]=b:=(List.getElem?_eq_some_iff.mp h).2
 @⟨c,hc,e2⟩:=fc z
 @⟨j,hj,e3⟩:=List.getElem_of_mem hc
 !Mz:j<i:=by rw[R8]at hj;lia
 rw[List.getElem_take]at e3
 !k1:(bs.map (·.1))[j]'(by rw[Rn];lia)=(bs.map (·.1))[i]'(by rw[Rn];lia):=by
   rw[List.getElem_map,List.getElem_map,e3,e,e2]
 #(List.pairwise_iff_getElem.mp nd) j i _ _ Mz k1
abbrev JK (bs:aB):Str->Str->Prop:=λt y=>t="box"/\y∈bs.map (·.1)
def cJ.same {H H':Hp}{v:V}{e:E}(h:cJ H v e)(s:ai H H'):cJ H' v e:=cJ.keep (ai.tk s) h
abbrev ir:Stmt:=top 23
abbrev kU:Stmt:=top 22
def E.bf (f:Str->Str->Bool):E->Bool
 | .num _=>true|.box t x=>f t x|.yes=>true|.nt a=>a.bf f|.two _ a b=>a.bf f&&b.bf f
def cu (kvs:O (O Key×V))(t x:Str):Bool:=(fj kvs [.inr t,.inr x]).isSome
abbrev fe:Str->Str->Prop:=λt _=>t="box"
def cC (n:Nat):Sp:=λvs H Q z=>∃(a:J) (v:V) (e:E) (kvs:O (O Key×V)),vs=[.ref a,v]/\H a=S (.dT kvs)/\cJ H v e/\e.okIn fe/\e.dep<n/\∀H',ai H H'->Q (.bl (e.bf (cu kvs))) H'
def jB:aC ["known","told","part"] ["known","told"] (ao ir):=eU
def uh {n:Nat}{f:J}{fd:RZ}(F:cD K "all_known" "all_known" ir f fd)(N:pK K mg "NAMELESS" ["number","yes"])(PT:pK K mg "PARTED" ["plus","less","same","under","not","both"])
    (G:b7 P w K mg base "all_known" ["known","told"] (n+1) (cC n)):aY P w K mg base dq (n+2) f fd ["known","told"] (cC (n+1)):=by
 @⟨tn,mN,cN⟩:=N
 @⟨tp,mP,cP⟩:=PT
 #F.iU jB λcdv A outer s H vs Q E hr h=>?_
 @⟨a,v,e,kvs,rfl,hk,ev,ok,hd,q⟩:=h
 #⟨_,Xh (Wv (WB (Wx L3.zG (Wz WM (Y 1) Ws) (WU (w:=.ref tn) U mN rfl) U) (Ww (WC Xe)) WE)
   (Wv (WB (Wx L3.jQ (Wz WM (Y 1) Ws) (WU (w:=.ref tp) U mP rfl) U) (Ww (WC (L3.JR (dm hr _ (by left)) (Y 1) (Y 0)))) WE)
   (Wv (W8 (L3.iT (L3.Ll (Y 1) Ws)) (WI 2 jB.nd) (Ww (WB (L3.nt (Xx (WA G hr U (L (Y 0) (L (Y 2) M))))) (Ww (WC Xe)) WE)))
   (Ww (WC Xe))))),?_⟩
 cases e with
 | num m=>
   @⟨p,rfl,hp⟩:=ev
   #⟨_,U,?_⟩
   #bR hp U ?_
   #⟨tn,_,U,.inr (cN _),U,U,_,U,?_⟩
   #aG (λu=>?_) (λc=>au (show iN (.str "number") _=true by left) c)
   #q _ (same_refl _)
 | yes=>
   @⟨p,rfl,hp⟩:=ev
   #⟨_,U,?_⟩
   #bR hp U ?_
   #⟨tn,_,U,.inr (cN _),U,U,_,U,?_⟩
   #aG (λu=>?_) (λc=>au (show iN (.str "yes") _=true by left) c)
   #q _ (same_refl _)
 | box t x=>
   @⟨p,rfl,hp⟩:=ev
   !ht:t="box":=ok
   subst ht
   !g:=j6.t (k:=[.inr "box",.inr x]) hk hp
   #⟨_,U,?_⟩
   #bR hp U ?_
   #⟨tn,_,U,.inr (cN _),U,U,_,U,?_⟩
   #aG (λc=>au c (by left)) (λu=>?_)
   #⟨_,U,?_⟩
   #bR hp U ?_
   #⟨tp,_,U,.inr (cP _),U,U,_,U,?_⟩
   #aG (λu=>?_) (λc=>au (by left) c)
   #⟨_,U,_,U,a,_,U,g,q _ (same_refl _)⟩
 | nt e1=>
   @⟨x,⟨p,rfl,hp⟩,ax⟩:=ev
   !Ge:e1.dep+1<n+1:=hd
   !La:e1.okIn fe:=ok
   #⟨_,U,?_⟩
   #bR hp U ?_
   #⟨tn,_,U,.inr (cN _),U,U,_,U,?_⟩
   #aG (λc=>au c (by left)) (λu=>?_)
   #⟨_,U,?_⟩
   #bR hp U ?_
   #⟨tp,_,U,.inr (cP _),U,U,_,U,?_⟩
   #aG (λc=>au c (by left)) (λu=>?_)
   #⟨_,U,_,U,p,_,U,bS.of hp,(λz=>au z.1 (show ¬ HT.bX 2 0 (S 1)=0 by left)),λl hl=>⟨l,U,⟨_,bS.of ae⟩,?_⟩⟩
   #rh (xs:=[x]) (λi σ H2=>(∃pv,σ=[S (.ref a),S (.ref p),pv])/\ai (upd H l (.tup [x])) H2/\(1<=i->e1.bf (cu kvs)=true)) ⟨⟨_,U⟩,same_refl _,λz=>au z (by left)⟩ (λi σ H2 u z=>bS.of (z.2.1 _ _ ae)) (λi x0 σ H2 hx z=>?_) (λσ H2 z=>?_)
   . @⟨⟨pv,rfl⟩,z,_⟩:=z
     !s2:=aa (af hl _) z
     !hx0:x0=x:=by
       match i,hx with
       | 0,hx=>#(Sa hx).symm
     subst hx0
     #⟨_,U,_,U,a,x0,e1,kvs,U,s2 _ _ hk,ax.same s2,La,by lia,λH3 s3=>⟨_,U,?_⟩⟩
     #aG (λc=>?_) (λc=>?_)
     . !c':e1.bf (cu kvs)=false:=by cases zz:e1.bf (cu kvs)<;>simp_all
       !q':=q H3 (aa s2 s3)
       rw[show(TW.E.nt e1).bf (cu kvs)=false from c']at q'
       #q'
     . !c':e1.bf (cu kvs)=true:=by cases zz:e1.bf (cu kvs)<;>simp_all
       #⟨⟨_,U⟩,aa z s3,λu=>c'⟩
   . !q':=q H2 (aa (af hl _) z.2.1)
     rw[show(TW.E.nt e1).bf (cu kvs)=true from z.2.2 (by change 1<=1;decide)]at q'
     #q'
 | two k e1 e2=>
   @⟨x,y,⟨p,rfl,hp⟩,ax,ay⟩:=ev
   !Ge:max e1.dep e2.dep+1<n+1:=hd
   !La:e1.okIn fe:=ok.1
   !Qk:e2.okIn fe:=ok.2
   #⟨_,U,?_⟩
   #bR hp U ?_
   #⟨tn,_,U,.inr (cN _),U,U,_,U,?_⟩
   #aG (λc=>au c (by cases k<;>decide)) (λu=>?_)
   #⟨_,U,?_⟩
   #bR hp U ?_
   #⟨tp,_,U,.inr (cP _),U,U,_,U,?_⟩
   #aG (λc=>au c (by cases k<;>decide)) (λu=>?_)
   #⟨_,U,_,U,p,_,U,bS.of hp,(λz=>au z.1 (show ¬ HT.bX 3 0 (S 1)=0 by left)),λl hl=>⟨l,U,⟨_,bS.of ae⟩,?_⟩⟩
   #rh (xs:=[x,y]) (λi σ H2=>(∃pv,σ=[S (.ref a),S (.ref p),pv])/\ai (upd H l (.tup [x,y])) H2/\(1<=i->e1.bf (cu kvs)=true)/\(2<=i->e2.bf (cu kvs)=true)) ⟨⟨_,U⟩,same_refl _,(λz=>au z (by left)),λz=>au z (by left)⟩ (λi σ H2 u z=>bS.of (z.2.1 _ _ ae)) (λi x0 σ H2 hx z=>?_) (λσ H2 z=>?_)
   . @⟨⟨pv,rfl⟩,z,z1,z2⟩:=z
     !s2:=aa (af hl _) z
     !hx0:∃e0,cJ H x0 e0/\e0.okIn fe/\e0.dep<n/\(e0.bf (cu kvs)=false->(TW.E.two k e1 e2).bf (cu kvs)=false)/\(e0.bf (cu kvs)=true->(1<=i+1->e1.bf (cu kvs)=true)/\(2<=i+1->e2.bf (cu kvs)=true)):=by
       match i,hx,z1 with
       | 0,hx,_=>#⟨e1,(Sa hx)▸ax,La,by lia,λc=>by change(e1.bf _&&e2.bf _)=false;rw[c];rfl,λc=>⟨λu=>c,λz=>au z (by left)⟩⟩
       | 1,hx,z1=>#⟨e2,(Sa hx)▸ay,Qk,by lia,λc=>by change(e1.bf _&&e2.bf _)=false;rw[c,Bool.and_false],λc=>⟨λu=>z1 (by left),λu=>c⟩⟩
     @⟨e0,a0,o0,d0,f0,t0⟩:=hx0
     #⟨_,U,_,U,a,x0,e0,kvs,U,s2 _ _ hk,a0.same s2,o0,d0,λH3 s3=>⟨_,U,?_⟩⟩
     #aG (λc=>?_) (λc=>?_)
     . !c':e0.bf (cu kvs)=false:=by cases zz:e0.bf (cu kvs)<;>simp_all
       !q':=q H3 (aa s2 s3)
       rw[f0 c']at q'
       #q'
     . !c':e0.bf (cu kvs)=true:=by cases zz:e0.bf (cu kvs)<;>simp_all
       #⟨⟨_,U⟩,aa z s3,t0 c'⟩
   . !q':=q H2 (aa (af hl _) z.2.1)
     rw[show(TW.E.two k e1 e2).bf (cu kvs)=true by change(e1.bf _&&e2.bf _)=true;rw[z.2.2.1 (by change 1<=2;decide),z.2.2.2 (by change 2<=2;decide)];rfl]at q'
     #q'
def oX {f:J}{fd:RZ}:aY P w K mg base dq 1 f fd ["known","told"] (cC 0):=by
 !no:∀vs H Q E,¬ cC 0 vs H Q E:=λvs H Q E h=>by
   @⟨_,_,_,_,_,_,_,_,h1,_⟩:=h
   lia
 #⟨λvs H Q E h=>au h (no vs H Q E),λA outer s H args us vs Q E z z z z h=>au h (no vs H Q E)⟩
def pP (s:Src K mg "all_known" ir)(N:pK K mg "NAMELESS" ["number","yes"])(PT:pK K mg "PARTED" ["plus","less","same","under","not","both"]):∀n:Nat,b7 P w K mg base "all_known" ["known","told"] (n+1) (cC n):=by
 @⟨f,fd,F,m⟩:=s
 !b:Binds K fd ["known","told"] []:=lH F λz z z z z z z z=>rfl
 intro n
 !all:aY P w K mg base dq (n+1) f fd ["known","told"] (cC n):=by
   induction n with
   | zero=>#oX
   | succ n ih=>#uh F N PT ⟨f,fd,ih,F.kp,b,m⟩
 #⟨f,fd,all,F.kp,b,m⟩
def gr (C:J)(n:Nat):Sp:=λvs H Q X=>∃(a:J) (v:V) (e:E) (kvs:O (O Key×V)),vs=[.ref a,v]/\H a=S (.dT kvs)/\cJ H v e/\e.okIn fe/\e.dep<n /\
 (e.bf (cu kvs)=true->∀H',ai H H'->Q .bI H')/\(e.bf (cu kvs)=false->∀H',ai H H'->X (.ref C) Z H')
def uJ:aC ["known","told"] ["known","told"] (ao kU):=eU
def qp {n:Nat}{C T:J}{f:J}{fd:RZ}(F:cD K "refuse_unknown" "refuse_unknown" kU f fd)(cP:Xc K mg "NoProgram" C (.ref T::vE))(G:b7 P w K mg base "all_known" ["known","told"] (n+1) (cC n)):aY P w K mg base (eD P w base) (n+2) f fd ["known","told"] (gr C n):=by
 #F.wU uJ (λvs H Q E h=>?_) (λcdv A outer s H vs Q E hr h=>?_)
 . @⟨a,v,e,kvs,rfl,_⟩:=h
   rfl
 . @⟨a,v,e,kvs,rfl,hk,ev,ok,hd,q1,q2⟩:=h
   #⟨_,Xh (Ww (WB (L3.nt (Xx (WA G hr U (L (Y 0) (L (Y 1) M))))) (Ww (Xa cA cP U U (L Wu M))) WE)),?_⟩
   #⟨_,U,_,U,a,v,e,kvs,U,hk,ev,ok,hd,λH3 s3=>⟨_,U,?_⟩⟩
   #aG (λc=>?_) (λc=>?_)
   . !c':e.bf (cu kvs)=false:=by cases zz:e.bf (cu kvs)<;>simp_all
     #⟨_,U,q2 c' _ s3⟩
   . !c':e.bf (cu kvs)=true:=by cases zz:e.bf (cu kvs)<;>simp_all
     #q1 c' _ s3
def oI {n:Nat}{C T:J}(s:Src K mg "refuse_unknown" kU)(cP:Xc K mg "NoProgram" C (.ref T::vE))(G:b7 P w K mg base "all_known" ["known","told"] (n+1) (cC n)):bQ P w K mg base "refuse_unknown" ["known","told"] (n+2) (gr C n):=
 let⟨f,fd,F,m⟩:=s
 ⟨f,fd,qp F cP G,F.kp,lH F λz z z z z z z z=>rfl,m⟩
abbrev xO:Stmt:=top 20
abbrev rV:Stmt:=top 21
def Np.gJ:Np->O Int
 | .put _ _ n=>[n]|.say _ n=>[n]|.test _ n o=>[n,o]|.pick _ n=>[n]|.fin=>[]
def Np.fw:Np->O E
 | .put x s _=>[.box "box" x,s]|.say s _=>[s]|.test c _ _=>[c]|.pick x _=>[.box "box" x]|.fin=>[]
def jV:Sp:=λvs H Q z=>∃(v:V) (nd:Np),vs=[v]/\b8 H v nd/\∀l H',ai H H'->H' l=S (.lst (nd.gJ.map V.int))->Q (.ref l) H'
def AA:aC ["node"] ["node"] (ao xO):=eU
def wV {f:J}{fd:RZ}(F:cD K "leads_of" "leads_of" xO f fd):aY P w K mg base dq 1 f fd ["node"] jV:=by
 #F.iU AA λcdv A outer s H vs Q E hr h=>?_
 @⟨v,nd,rfl,hn,q⟩:=h
 #⟨_,Xh (Wv (WB (Wx WL (Wz WM (Y 0) Ws) Wu) (Ww (WC (WD M))) WE)
   (Wv (WB (Wx WL (Wz WM (Y 0) Ws) Wu) (Ww (WC (WD (L (Wz WM (Y 0) Ws) M)))) WE)
   (Wv (WB (Wx L3.zG (Wz WM (Y 0) Ws) (WH (L Wu (L Wu M))) U) (Ww (WC (WD (L (Wz WM (Y 0) Ws) M)))) WE)
   (Ww (WC (WD (L (Wz WM (Y 0) Ws) (L (Wz WM (Y 0) Ws) M)))))))),?_⟩
 cases nd with
 | fin=>
   @⟨x,rfl,hx⟩:=hn
   #⟨_,U,?_⟩
   #bR hx U ?_
   #⟨U,_,U,?_⟩
   #aG (λz=>?_) (λc=>au (hW rfl) c)
   #⟨YI,λl hl=>q l _ (af hl _) ae⟩
 | put nm e n=>
   @⟨u,⟨x,rfl,hx⟩,eu⟩:=hn
   #⟨_,U,?_⟩
   #bR hx U ?_
   #⟨U,_,U,?_⟩
   #aG (λc=>au (jg c) (by left)) (λz=>?_)
   #⟨_,U,?_⟩
   #bR hx U ?_
   #⟨U,_,U,?_⟩
   #aG (λz=>?_) (λc=>au (hW rfl) c)
   #⟨_,U,?_⟩
   #bR hx U ?_
   #⟨YJ,λl hl=>q l _ (af hl _) ae⟩
 | say e n=>
   @⟨u,⟨x,rfl,hx⟩,eu⟩:=hn
   #⟨_,U,?_⟩
   #bR hx U ?_
   #⟨U,_,U,?_⟩
   #aG (λc=>au (jg c) (by left)) (λz=>?_)
   #⟨_,U,?_⟩
   #bR hx U ?_
   #⟨U,_,U,?_⟩
   #aG (λc=>au (jg c) (by left)) (λz=>?_)
   #⟨_,U,?_⟩
   #bR hx U ?_
   #⟨YK,λt0 tV=>⟨t0,_,U,.inr (bS.of ae),U,U,_,U,?_⟩⟩
   !s0:=af tV (.tup [.str "say",.str "pick"])
   generalize upd H t0 (.tup [.str "say",.str "pick"])=H0 at s0 ⊢
   !hx:=s0 _ _ hx
   #aG (λz=>?_) (λc=>au (show iN (.str "say") _=true by left) c)
   #⟨_,U,?_⟩
   #bR hx U ?_
   #⟨YJ,λl hl=>q l _ (aa s0 (af hl _)) ae⟩
 | pick nm n=>
   @⟨x,rfl,hx⟩:=hn
   #⟨_,U,?_⟩
   #bR hx U ?_
   #⟨U,_,U,?_⟩
   #aG (λc=>au (jg c) (by left)) (λz=>?_)
   #⟨_,U,?_⟩
   #bR hx U ?_
   #⟨U,_,U,?_⟩
   #aG (λc=>au (jg c) (by left)) (λz=>?_)
   #⟨_,U,?_⟩
   #bR hx U ?_
   #⟨YK,λt0 tV=>⟨t0,_,U,.inr (bS.of ae),U,U,_,U,?_⟩⟩
   !s0:=af tV (.tup [.str "say",.str "pick"])
   generalize upd H t0 (.tup [.str "say",.str "pick"])=H0 at s0 ⊢
   !hx:=s0 _ _ hx
   #aG (λz=>?_) (λc=>au (show iN (.str "pick") _=true by left) c)
   #⟨_,U,?_⟩
   #bR hx U ?_
   #⟨YJ,λl hl=>q l _ (aa s0 (af hl _)) ae⟩
 | test c n o=>
   @⟨u,⟨x,rfl,hx⟩,eu⟩:=hn
   #⟨_,U,?_⟩
   #bR hx U ?_
   #⟨U,_,U,?_⟩
   #aG (λc=>au (jg c) (by left)) (λz=>?_)
   #⟨_,U,?_⟩
   #bR hx U ?_
   #⟨U,_,U,?_⟩
   #aG (λc=>au (jg c) (by left)) (λz=>?_)
   #⟨_,U,?_⟩
   #bR hx U ?_
   #⟨YK,λt0 tV=>⟨t0,_,U,.inr (bS.of ae),U,U,_,U,?_⟩⟩
   !s0:=af tV (.tup [.str "say",.str "pick"])
   generalize upd H t0 (.tup [.str "say",.str "pick"])=H0 at s0 ⊢
   !hx:=s0 _ _ hx
   #aG (λc=>au c (by left)) (λz=>?_)
   #⟨_,U,?_⟩
   #bR hx U ?_
   #⟨_,U,?_⟩
   #bR hx U ?_
   #⟨YK,λl hl=>q l _ (aa s0 (af hl _)) ae⟩
def i7:Sp:=λvs H Q z=>∃(v:V) (nd:Np),vs=[v]/\b8 H v nd/\∀l H' us,ai H H'->H' l=S (.lst us)->Paired (cJ H') us nd.fw->Q (.ref l) H'
def xZ:aC ["node"] ["node"] (ao rV):=eU
def uq {f:J}{fd:RZ}(F:cD K "told_by" "told_by" rV f fd):aY P w K mg base dq 1 f fd ["node"] i7:=by
 #F.iU xZ λcdv A outer s H vs Q E hr h=>?_
 @⟨v,nd,rfl,hn,q⟩:=h
 #⟨_,Xh (Wv (WB (Wx WL (Wz WM (Y 0) Ws) Wu) (Ww (WC (WD M))) WE)
   (Wv (WB (Wx WL (Wz WM (Y 0) Ws) Wu) (Ww (WC (WD (L (WH (L Wu (L (Wz WM (Y 0) Ws) M))) (L (Wz WM (Y 0) Ws) M))))) WE)
   (Wv (WB (Wx WL (Wz WM (Y 0) Ws) Wu) (Ww (WC (WD (L (WH (L Wu (L (Wz WM (Y 0) Ws) M))) M)))) WE)
   (Ww (WC (WD (L (Wz WM (Y 0) Ws) M))))))),?_⟩
 cases nd with
 | fin=>
   @⟨x,rfl,hx⟩:=hn
   #⟨_,U,?_⟩
   #bR hx U ?_
   #⟨U,_,U,?_⟩
   #aG (λz=>?_) (λc=>au (hW rfl) c)
   #⟨YI,λl hl=>q l _ [] (af hl _) ae .nil⟩
 | put nm e n=>
   @⟨u,⟨x,rfl,hx⟩,eu⟩:=hn
   #⟨_,U,?_⟩
   #bR hx U ?_
   #⟨U,_,U,?_⟩
   #aG (λc=>au (jg c) (by left)) (λz=>?_)
   #⟨_,U,?_⟩
   #bR hx U ?_
   #⟨U,_,U,?_⟩
   #aG (λz=>?_) (λc=>au (hW rfl) c)
   #⟨_,U,?_⟩
   #bR hx U ?_
   #⟨YK,λt0 tV=>?_⟩
   !s1:=af tV (.tup [.str "box",.str nm])
   !e1:(upd H t0 (.tup [.str "box",.str nm])) t0=S (.tup [.str "box",.str nm]):=ae
   generalize upd H t0 (.tup [.str "box",.str nm])=H1 at s1 e1 ⊢
   #⟨_,U,?_⟩
   #bR (s1 _ _ hx) U ?_
   #⟨YK,λl hl=>?_⟩
   !s2:=af hl (.lst [.ref t0,u])
   #q l _ _ (aa s1 s2) ae (.cons ⟨t0,U,s2 _ _ e1⟩ (.cons (eu.same (aa s1 s2)) .nil))
 | say e n=>
   @⟨u,⟨x,rfl,hx⟩,eu⟩:=hn
   #⟨_,U,?_⟩
   #bR hx U ?_
   #⟨U,_,U,?_⟩
   #aG (λc=>au (jg c) (by left)) (λz=>?_)
   #⟨_,U,?_⟩
   #bR hx U ?_
   #⟨U,_,U,?_⟩
   #aG (λc=>au (jg c) (by left)) (λz=>?_)
   #⟨_,U,?_⟩
   #bR hx U ?_
   #⟨U,_,U,?_⟩
   #aG (λc=>au (jg c) (by left)) (λz=>?_)
   #⟨_,U,?_⟩
   #bR hx U ?_
   #⟨YJ,λl hl=>q l _ _ (af hl _) ae (.cons (eu.same (af hl _)) .nil)⟩
 | pick nm n=>
   @⟨x,rfl,hx⟩:=hn
   #⟨_,U,?_⟩
   #bR hx U ?_
   #⟨U,_,U,?_⟩
   #aG (λc=>au (jg c) (by left)) (λz=>?_)
   #⟨_,U,?_⟩
   #bR hx U ?_
   #⟨U,_,U,?_⟩
   #aG (λc=>au (jg c) (by left)) (λz=>?_)
   #⟨_,U,?_⟩
   #bR hx U ?_
   #⟨U,_,U,?_⟩
   #aG (λz=>?_) (λc=>au (hW rfl) c)
   #⟨_,U,?_⟩
   #bR hx U ?_
   #⟨YK,λt0 tV=>?_⟩
   !s1:=af tV (.tup [.str "box",.str nm])
   !e1:(upd H t0 (.tup [.str "box",.str nm])) t0=S (.tup [.str "box",.str nm]):=ae
   generalize upd H t0 (.tup [.str "box",.str nm])=H1 at s1 e1 ⊢
   #⟨YJ,λl hl=>?_⟩
   !s2:=af hl (.lst [.ref t0])
   #q l _ _ (aa s1 s2) ae (.cons ⟨t0,U,s2 _ _ e1⟩ .nil)
 | test c n o=>
   @⟨u,⟨x,rfl,hx⟩,eu⟩:=hn
   #⟨_,U,?_⟩
   #bR hx U ?_
   #⟨U,_,U,?_⟩
   #aG (λc=>au (jg c) (by left)) (λz=>?_)
   #⟨_,U,?_⟩
   #bR hx U ?_
   #⟨U,_,U,?_⟩
   #aG (λc=>au (jg c) (by left)) (λz=>?_)
   #⟨_,U,?_⟩
   #bR hx U ?_
   #⟨U,_,U,?_⟩
   #aG (λc=>au (jg c) (by left)) (λz=>?_)
   #⟨_,U,?_⟩
   #bR hx U ?_
   #⟨YJ,λl hl=>q l _ _ (af hl _) ae (.cons (eu.same (af hl _)) .nil)⟩
def Ck (bs:aB)(t y:Str):Bool:=decide (t="box"/\y∈bs.map (·.1))
def zl {bs:aB}{ws:O Int}(h:bs~=ws~)(x:Str):cu (cp "box" bs ws) "box" x=Ck bs "box" x:=by
 unfold cu Ck
 by_cases hx:x∈bs.map (·.1)
 . rw[mi "box" bs ws x h hx,hW ⟨rfl,hx⟩]
   rfl
 . rw[ik "box" bs ws "box" x λy=>hx,gv λz=>hx z.2]
   rfl
theorem iO {f g:Str->Str->Bool}(h:∀x,f "box" x=g "box" x):∀{e:E},e.okIn fe->e.bf f=e.bf g
 | .num _,_=>rfl
 | .box t x,ok=>by
   !ht:t="box":=ok
   subst ht
   #h x
 | .yes,_=>rfl
 | .nt a,ok=>iO h (e:=a) ok
 | .two _ a b,ok=>by
   change(a.bf f&&b.bf f)=(a.bf g&&b.bf g)
   rw[iO h (e:=a) ok.1,iO h (e:=b) ok.2]
def wR {bs:aB}{e:E}(h:e.okIn (JK bs)):e.okIn fe:=E.okIn.imp (λy y z=>z.1) h
def cQ {xs:O Str}:(xs.map V.str).all dE=true:=by
 rw[List.all_eq_true]
 intro v hv
 @⟨x,_,rfl⟩:=fc hv
 rfl
def y6 {i:Int}(h:i.natAbs<2^1900):FX (.int i):=.inl ⟨i,rfl,by
 by_cases z:i.natAbs=0
 . rw[z];decide
 . #(Nat.log2_lt z).mpr (RJ h (U6 (by left) (by left)))⟩
def ni {xs:O Str}{x:Str}:iN (.str x) (xs.map V.str)=decide (x∈xs):=by
 unfold iN
 by_cases h:x∈xs
 . rw[hW h,Vw]
   #⟨.str x,C6 ⟨x,h,U⟩,by simp[oB]⟩
 . rw[gv h,Uw]
   intro v hv
   @⟨y,hy,rfl⟩:=fc hv
   intro e
   !:y=x:=by simpa[oB]using e
   #h (this▸hy)
def rf {x:Str}(h:x~<=2000):FX (.str x):=.inr ⟨x,rfl,h⟩
def B4 (bs:aB):Prop:=(∀b∈bs,1<=b.2)/\(bs.map (·.1)).Nodup
def Jy (bs:aB)(ins:O Str):Prop:=(∀x∈ins,x∈bs.map (·.1))/\ins.Nodup
def lV (bs:aB)(m:Nat)(nd:Np):Prop:=(∀l∈nd.gJ,0<=l/\l<(m:Int))/\∀e∈nd.fw,e.bf (Ck bs)=true
def B8 (bs:aB)(nds:O Np):Prop:=1<=nds~/\∀nd∈nds,lV bs nds~ nd
structure uZ (H:Hp)(B I N:J)(vb vn:O V)(bs:aB)(ins:O Str)(nds:O Np):Prop where
 hB:H B=S (.lst vb)
 pb:Paired (fm H) vb bs
 hI:H I=S (.lst (ins.map V.str))
 hN:H N=S (.lst vn)
 pn:Paired (b8 H) vn nds
 b9:bs~<=900
 i9:ins~<=900
 n9:nds~<=900
 bs2:∀b∈bs,b.1~<=2000
 is2:∀x∈ins,x~<=2000
 ld:∀nd∈nds,∀l∈nd.gJ,l.natAbs<2^1900
 td:∀nd∈nds,∀e∈nd.fw,e.okIn fe/\e.dep<20
def uZ.same {H H':Hp}{B I N:J}{vb vn:O V}{bs:aB}{ins:O Str}{nds:O Np}(h:uZ H B I N vb vn bs ins nds)(s:ai H H'):uZ H' B I N vb vn bs ins nds:=
 ⟨s _ _ h.hB,Paired.cZ h.pb λy y z=>Tp.keep (ai.tk s) z,s _ _ h.hI,s _ _ h.hN,Paired.cZ h.pn λy y z=>b8.keep (ai.tk s) z,h.b9,h.i9,h.n9,h.bs2,h.is2,h.ld,h.td⟩
abbrev nR:Stmt:=top 17
abbrev nS:Stmt:=top 18
def jX (C:J):Sp:=λvs H Q X=>∃(ba:J) (vb:O V) (bs:aB),vs=[.ref ba]/\H ba=S (.lst vb)/\Paired (fm H) vb bs/\bs~<=900/\(∀b∈bs,b.1~<=2000)/\(B4 bs->∀H',ai H H'->Q .bI H')/\(¬ B4 bs->∀H',ai H H'->X (.ref C) Z H')
def jU:aC ["boxes","name","size","names"] ["boxes"] (ao nR):=eU
def xf {C T:J}{f:J}{fd:RZ}(F:cD K "refuse_boxes" "refuse_boxes" nR f fd)(cP:Xc K mg "NoProgram" C (.ref T::vE))(m_len:mg "len"=Z)(m_set:mg "set"=Z):aY P w K mg base (eD P w base) 1 f fd ["boxes"] (jX C):=by
 #F.wU jU (λvs H Q E h=>?_) (λcdv A outer s H vs Q E hr h=>?_)
 . @⟨ba,vb,bs,rfl,_⟩:=h
   rfl
 . @⟨ba,vb,bs,rfl,hB,pb,F7,n2,q1,q2⟩:=h
   #⟨_,Xh (Wv (W8 (WW (Y 0)) (Xb 2 (WQ (WI 1 jU.nd) (WQ (WI 2 jU.nd) W2))) (Ww (WB (Wx Xl (Y 2) Ws) (Ww (Xa cA cP U U (L (L3.Cw (Xy (L3.fv (Y 1) (Xy L3.fn)))) M js))) WE)) (hp:=Sn))
     (Wv (Xz (i:=3) [Z,Z] ["name","size"] (oa nR) U (WW (Y 0)) (λy y y y y=>⟨(Xb 2 (WQ (WI 0 (jr ["name","size"])) (WQ (WI 1 (jr ["name","size"])) W2))),WZ,(Y 0)⟩) jU.nd)
     (Ww (WB (Wx Xn (L3.rG U m_len U m_set (L (Y 3) M)) (WJ WO U m_len RG (L (Y 3) M))) (Ww (Xa cA cP U U (L Wu M))) WE)))),?_⟩
   !Bd:vb~=bs~:=Paired.length pb
   #⟨_,U,ba,U,⟨_,aH.of hB⟩,?_⟩
   #dG (xs:=vb) (λi σ H2=>(∃nv sv,σ=[S (.ref ba),nv,sv,Z])/\H2=H/\∀b∈bs.take i,1<=b.2) ⟨⟨_,_,U⟩,U,λb hb=>by simp at hb⟩ (λi σ H2 y z=>by rw[z.2.1];#aH.of hB) (λi x0 σ H2 hx z=>?_) (λσ H2 z=>?_)
   . @⟨⟨nv,sv,rfl⟩,rfl,gs⟩:=z
     @⟨b,lK,p,rfl,hp⟩:=Paired.get pb hx
     !Gb:=RL lK
     #yC hp ?_
     #⟨_,U,_,_,U,U,_,U,?_⟩
     #aG (λc=>?_) (λc=>?_)
     . !c':b.2<1:=jg c
       #⟨_,U,rf (n2 b Gb),λx=>⟨_,U,q2 (λg=>by !:=g.1 b Gb;lia) _ (same_refl _)⟩⟩
     . !c':¬ b.2<1:=λz=>c (hW z)
       #⟨⟨_,_,U⟩,U,λb' pz=>?_⟩
       rw[R9,lK]at pz
       rcases ez pz with z|z
       . #gs b' z
       . !e:b'=b:=by simpa using z
         subst e
         lia
   @⟨⟨nv,sv,rfl⟩,hH,gs⟩:=z
   !OF:=hH.symm
   subst OF
   rw[Bd,Sf]at gs
   #⟨_,U,ba,U,⟨_,aH.of hB⟩,λna CG=>?_⟩
   !K5:ba≠na:=ag hB CG
   #bD (xs:=vb) (λi H2=>H2=upd H na (.lst ((bs.take i).map λb=>V.str b.1))) rfl (λi H2 y e=>?_) (λi x H2 hx e=>?_) (λH2 e=>?_)
   . subst e
     #aH.of (by rw[ah K5];#hB)
   . subst e
     @⟨b,lK,p,rfl,hp⟩:=Paired.get pb hx
     !eE:i<vb~:=(cy hx)
     #yC (by rw[ah (ag hp CG)];#hp) ?_
     #de (A:=λH3=>dJ (AL 0) na _ H3 _) ⟨_,U,_,ae,aW (by rw[Rn,R8];lia),bq (Pv:=λi H2=>H2=upd H na (.lst ((bs.take i).map λb=>V.str b.1))) (by repeat' constructor) eE ?_⟩
     rw[j4]
     congr 2
     rw[R9,lK,RW]
     rfl
   subst e
   !et:(bs.take vb~).map (λb=>V.str b.1)=(bs.map (·.1)).map V.str:=by rw[Bd,Sf,Te];rfl
   rw[et]
   !sN:=af CG (.lst ((bs.map (·.1)).map V.str))
   !A8:(upd H na (.lst ((bs.map (·.1)).map V.str))) na=S (.lst ((bs.map (·.1)).map V.str)):=ae
   generalize upd H na (.lst ((bs.map (·.1)).map V.str))=H1 at sN A8 ⊢
   #⟨_,U,na,_,U,aH.of A8,by rw[Rn];lia,λn e1 e2=>⟨_,U,na,_,U,.inl (aH.of A8),U,_,U,?_⟩⟩
   rw[Rn]
   by_cases nd:(bs.map (·.1)).Nodup
   . !e:=e1 nd
     subst e
     #aG (λc=>?_) (λy=>?_)
     . simp at c
     #q1 ⟨gs,nd⟩ _ sN
   . !e:=e2 nd
     #aG (λy=>?_) (λc=>?_)
     . #⟨_,U,q2 (λg=>nd g.2) _ sN⟩
     . exfalso
       apply c
       simp at e ⊢
       lia
def tP {C T:J}(s:Src K mg "refuse_boxes" nR)(cP:Xc K mg "NoProgram" C (.ref T::vE))(m_len:mg "len"=Z)(m_set:mg "set"=Z):bQ P w K mg base "refuse_boxes" ["boxes"] 1 (jX C):=
 let⟨f,fd,F,m⟩:=s
 ⟨f,fd,xf F cP m_len m_set,F.kp,lG F λz z z z z z z=>rfl,m⟩
def jY (C:J):Sp:=λvs H Q X=>∃(ba ia:J) (vb:O V) (bs:aB) (ins:O Str),vs=[.ref ba,.ref ia]/\H ba=S (.lst vb)/\Paired (fm H) vb bs/\H ia=S (.lst (ins.map V.str))/\bs~<=900/\ins~<=900/\(∀x∈ins,x~<=2000) /\
 (Jy bs ins->∀H',ai H H'->Q .bI H')/\(¬ Jy bs ins->∀H',ai H H'->X (.ref C) Z H')
def nX:aC ["boxes","inputs","names","name"] ["boxes","inputs"] (ao nS):=eU
def xg {C T:J}{f:J}{fd:RZ}(F:cD K "refuse_inputs" "refuse_inputs" nS f fd)(cP:Xc K mg "NoProgram" C (.ref T::vE))(m_len:mg "len"=Z)(m_set:mg "set"=Z):aY P w K mg base (eD P w base) 1 f fd ["boxes","inputs"] (jY C):=by
 #F.wU nX (λvs H Q E h=>?_) (λcdv A outer s H vs Q E hr h=>?_)
 . @⟨ba,ia,vb,bs,ins,rfl,_⟩:=h
   rfl
 . @⟨ba,ia,vb,bs,ins,rfl,hB,pb,hI,F7,PK,n2,q1,q2⟩:=h
   #⟨_,Xh (Wv (Xz (i:=2) [Z,Z] ["name","size"] (oa nS) U (WW (Y 0)) (λv v v v v=>⟨(Xb 2 (WQ (WI 0 (jr ["name","size"])) (WQ (WI 1 (jr ["name","size"])) W2))),WZ,(Y 0)⟩) nX.nd)
     (Wv (W8 (WW (Y 1)) (WI 3 nX.nd) (Ww (WB (Wx L3.jQ (Y 3) (Y 2) U) (Ww (Xa cA cP U U (L (L3.Cw (Xy (L3.fv (Y 3) (Xy L3.fn)))) M js))) WE)) (hp:=Sn))
     (Ww (WB (Wx Xn (L3.rG U m_len U m_set (L (Y 1) M)) (WJ WO U m_len RG (L (Y 1) M))) (Ww (Xa cA cP U U (L Wu M))) WE)))),?_⟩
   !Bd:vb~=bs~:=Paired.length pb
   #⟨_,U,ba,U,⟨_,aH.of hB⟩,λna CG=>?_⟩
   !K5:ba≠na:=ag hB CG
   #bD (xs:=vb) (λi H2=>H2=upd H na (.lst ((bs.take i).map λb=>V.str b.1))) rfl (λi H2 v e=>?_) (λi x H2 hx e=>?_) (λH2 e=>?_)
   . subst e
     #aH.of (by rw[ah K5];#hB)
   . subst e
     @⟨b,lK,p,rfl,hp⟩:=Paired.get pb hx
     !eE:i<vb~:=(cy hx)
     #yC (by rw[ah (ag hp CG)];#hp) ?_
     #de (A:=λH3=>dJ (AL 0) na _ H3 _) ⟨_,U,_,ae,aW (by rw[Rn,R8];lia),bq (Pv:=λi H2=>H2=upd H na (.lst ((bs.take i).map λb=>V.str b.1))) (by repeat' constructor) eE ?_⟩
     rw[j4]
     congr 2
     rw[R9,lK,RW]
     rfl
   subst e
   !et:(bs.take vb~).map (λb=>V.str b.1)=(bs.map (·.1)).map V.str:=by rw[Bd,Sf,Te];rfl
   rw[et]
   !sN:=af CG (.lst ((bs.map (·.1)).map V.str))
   !A8:(upd H na (.lst ((bs.map (·.1)).map V.str))) na=S (.lst ((bs.map (·.1)).map V.str)):=ae
   generalize upd H na (.lst ((bs.map (·.1)).map V.str))=H1 at sN A8 ⊢
   !Jd:=sN _ _ hI
   #⟨_,U,ia,U,⟨_,aH.of Jd⟩,?_⟩
   #dG (xs:=ins.map V.str) (λi σ H2=>(∃nv,σ=[S (.ref ba),S (.ref ia),S (.ref na),nv])/\H2=H1/\∀x∈ins.take i,x∈bs.map (·.1)) ⟨⟨_,U⟩,U,λb hb=>by simp at hb⟩ (λi σ H2 v z=>by rw[z.2.1];#aH.of Jd) (λi x0 σ H2 hx z=>?_) (λσ H2 z=>?_)
   . @⟨⟨nv,rfl⟩,rfl,gs⟩:=z
     @⟨x,yy,rfl⟩:=cX hx
     !eF:=RL yy
     #⟨_,U,_,U,na,_,U,.inl (aH.of A8),U,cQ,_,U,?_⟩
     #aG (λc=>?_) (λc=>?_)
     . !c':¬ x∈bs.map (·.1):=λz=>by
         !e:=ni (xs:=bs.map (·.1)) (x:=x)
         rw[hW z]at e
         rw[e]at c
         #au c (by left)
       #⟨_,U,rf (n2 x eF),λy=>⟨_,U,q2 (λg=>c' (g.1 x eF)) _ sN⟩⟩
     . !c':x∈bs.map (·.1):=Vq λz=>by
         !e:=ni (xs:=bs.map (·.1)) (x:=x)
         rw[gv z]at e
         rw[e]at c
         #c (by left)
       #⟨⟨_,U⟩,U,λb' pz=>?_⟩
       rw[R9,yy]at pz
       rcases ez pz with z|z
       . #gs b' z
       . !e:b'=x:=by simpa using z
         subst e
         #c'
   @⟨⟨nv,rfl⟩,rfl,gs⟩:=z
   rw[Rn,Sf]at gs
   #⟨_,U,ia,_,U,aH.of Jd,by lia,λn e1 e2=>⟨_,U,ia,_,U,.inl (aH.of Jd),U,_,U,?_⟩⟩
   rw[Rn]
   by_cases nd:ins.Nodup
   . !e:=e1 nd
     subst e
     #aG (λc=>?_) (λv=>?_)
     . simp at c
     #q1 ⟨gs,nd⟩ _ sN
   . !e:=e2 nd
     #aG (λv=>?_) (λc=>?_)
     . #⟨_,U,q2 (λg=>nd g.2) _ sN⟩
     . exfalso
       apply c
       simp at e ⊢
       lia
def tQ {C T:J}(s:Src K mg "refuse_inputs" nS)(cP:Xc K mg "NoProgram" C (.ref T::vE))(m_len:mg "len"=Z)(m_set:mg "set"=Z):bQ P w K mg base "refuse_inputs" ["boxes","inputs"] 1 (jY C):=
 let⟨f,fd,F,m⟩:=s
 ⟨f,fd,xg F cP m_len m_set,F.kp,lH F λz z z z z z z z=>rfl,m⟩
abbrev nU:Stmt:=top 19
abbrev kT:Stmt:=top 16
def jZ (C:J):Sp:=λvs H Q X=>∃(B I N:J) (vb vn:O V) (bs:aB) (ins:O Str) (nds:O Np),vs=[.ref B,.ref N]/\uZ H B I N vb vn bs ins nds/\(bs.map (·.1)).Nodup/\(B8 bs nds->∀H',ai H H'->Q .bI H')/\(¬ B8 bs nds->∀H',ai H H'->X (.ref C) Z H')
def iY:aC ["boxes","nodes","known","node","lead","told"] ["boxes","nodes"] (ao nU):=eU
def xh {C T:J}{f:J}{fd:RZ}(F:cD K "refuse_nodes" "refuse_nodes" nU f fd)(cP:Xc K mg "NoProgram" C (.ref T::vE))(m_len:mg "len"=Z)(LE:b7 P w K mg base "leads_of" ["node"] 22 jV)(TB:b7 P w K mg base "told_by" ["node"] 22 i7)(RU:bQ P w K mg base "refuse_unknown" ["known","told"] 22 (gr C 20)):aY P w K mg base (eD P w base) 23 f fd ["boxes","nodes"] (jZ C):=by
 #F.wU iY (λvs H Q E h=>?_) (λcdv A outer s H vs Q E hr h=>?_)
 . @⟨ba,ia,na,vb,vn,bs,ins,nds,rfl,_⟩:=h
   rfl
 . @⟨ba,ia,na,vb,vn,bs,ins,nds,rfl,ap,nd,q1,q2⟩:=h
   @⟨hB,pb,hI,hN,pn,F7,_,Qc,_,_,ld,td⟩:=ap
   #⟨_,Xh (Wv (WB (Wx WL (WJ WO U m_len RG (L (Y 1) M)) Ws) (Ww (Xa cA cP U U (L Wu M))) WE)
     (Wv (L3.Qs (i:=2) [Z,Z] ["name","size"] (dm hr _ (by left)) (oa nU) U (WW (Y 0)) (λv v v v v=>⟨(Xb 2 (WQ (WI 0 (jr ["name","size"])) (WQ (WI 1 (jr ["name","size"])) W2))),WZ,(WH (L Wu (L (Y 0) M))),(Y 1)⟩) iY.nd)
     (Ww (W8 (WW (Y 1)) (WI 3 iY.nd) (Wv (W8 (WW (WA LE hr U (L (Y 3) M))) (WI 4 iY.nd) (Ww (WB (WV (Xq (Wx Xl (Y 4) Ws) (XA (Wx L3.GY (Y 4) (WJ WO U m_len RG (L (Y 1) M)))))) (Ww (Xa cA cP U U (L (L3.Cw (Xy (L3.fv (Y 4) (Xy L3.fn)))) M js))) WE)) (hp:=Sn))
     (Ww (W8 (WW (WA TB hr U (L (Y 3) M))) (WI 5 iY.nd) (Ww (W0 (Xd iV RU hr U (L (Y 2) (L (Y 5) M))))) (hp:=Sn)))) (hp:=Sn))))),?_⟩
   !Bd:vb~=bs~:=Paired.length pb
   !PB:vn~=nds~:=Paired.length pn
   #⟨_,U,na,_,U,.inl (aH.of hN),U,_,U,?_⟩
   #aG (λc=>?_) (λc=>?_)
   . !:=jg c
     injection this with this
     #⟨_,U,q2 (λg=>by !:=g.1;lia) _ (same_refl _)⟩
   !n1:1<=nds~:=by
     by_cases z:vn~=0
     . exfalso
       #c (hW (by rw[z];rfl))
     . lia
   #⟨_,U,ba,U,⟨_,aH.of hB⟩,λD hD=>?_⟩
   #bD (xs:=vb) (λi H2=>(∀b o,H b=S o->H2 b=S o)/\H2 D=S (.dT (cp "box" (bs.take i) ((bs.take i).map (·.2))))) ⟨af hD _,ae⟩ (λi H2 v z=>aH.of (z.1 _ _ hB)) (λi x0 H2 hx z=>?_) (λH2 z=>?_)
   . @⟨z,A7⟩:=z
     @⟨b,lK,pp,rfl,md⟩:=Paired.get pb hx
     !eE:i<vb~:=(cy hx)
     #yC (z _ _ md) ?_
     #de (A:=λH3=>C5 _ _ D _ H3 _) ?_
     #⟨_,U,YK,λkp MA=>⟨_,U,?_⟩⟩
     !Qd:D≠kp:=ag A7 MA
     !OE:(upd H2 kp (.tup [.str "box",.str b.1])) D=S (.dT (cp "box" (bs.take i) ((bs.take i).map (·.2)))):=by rw[ah Qd];#A7
     !pY:=mh "box" (bs.take i) ((bs.take i).map (·.2))
     !KD:(bs.take i)~<=bs~:=by rw[R8];lia
     #⟨_,u5.t (k:=[.inr "box",.inr b.1]) OE ae (aW (by lia)),bq (Pv:=λi H2=>(∀b o,H b=S o->H2 b=S o)/\H2 D=S (.dT (cp "box" (bs.take i) ((bs.take i).map (·.2))))) (by repeat' constructor) eE ⟨λc o hc=>?_,?_⟩⟩
     . !zh:=z c o hc
       rw[ah (ag hc hD),ah (ag zh MA)]
       #zh
     . rw[ae,xF (ik "box" _ _ _ _ λv=>zx nd lK),R9,lK]
       change _=S (HO.dT (cp "box" (bs.take i++[b]) ((bs.take i++[b]).map (·.2))))
       rw[RW]
       change _=S (HO.dT (cp "box" (bs.take i++[b]) ((bs.take i).map (·.2)++[b.2])))
       rw[kI "box" _ _ b b.2 (by rw[Rn])]
   @⟨s1,A7⟩:=z
   rw[Bd,Sf]at A7
   !kv:∀x,cu (cp "box" bs (bs.map (·.2))) "box" x=Ck bs "box" x:=zl (by rw[Rn])
   !Km:=s1 _ _ hN
   !Qn:Paired (b8 H2) vn nds:=Paired.cZ pn λa b h=>b8.keep (ai.tk s1) h
   #⟨_,U,na,U,⟨_,aH.of Km⟩,?_⟩
   #dG (xs:=vn) (λi σ H3=>(∃o3 o4 o5,σ=[S (.ref ba),S (.ref na),S (.ref D),o3,o4,o5])/\ai H2 H3/\∀e∈nds.take i,lV bs nds~ e) ⟨⟨_,_,_,U⟩,same_refl _,λb hb=>by simp at hb⟩ (λi σ H3 v z=>aH.of (z.2.1 _ _ Km)) (λi x0 σ H3 hx z=>?_) (λσ H3 z=>q1 ⟨n1,by !g:=z.2.2;rw[PB,Sf]at g;#g⟩ _ (aa s1 z.2.1))
   @⟨⟨o3,o4,o5,rfl⟩,s3,gs⟩:=z
   @⟨wz,Gs,MC⟩:=Paired.get Qn hx
   !hnm:=RL Gs
   #⟨_,U,x0,wz,U,b8.keep (ai.tk s3) MC,λl H4 Qq e4=>?_⟩
   !s4:=aa s3 Qq
   #⟨l,U,⟨_,aH.of e4⟩,?_⟩
   #dG (xs:=wz.gJ.map V.int) (λi σ H5=>(∃o4 o5,σ=[S (.ref ba),S (.ref na),S (.ref D),S x0,o4,o5])/\H5=H4/\∀l∈wz.gJ.take i,0<=l/\l<(nds~:Int)) ⟨⟨_,_,U⟩,U,λb hb=>by simp at hb⟩ (λi σ H5 v z=>by rw[z.2.1];#aH.of e4) (λi y0 σ H5 hy z=>?_) (λσ H5 z=>?_)
   . @⟨⟨o4,o5,rfl⟩,rfl,gl⟩:=z
     @⟨k0,CD,rfl⟩:=cX hy
     !KA:=RL CD
     !fk:FX (.int k0):=y6 (ld wz hnm k0 KA)
     #⟨_,U,_,_,U,U,_,U,?_⟩
     #aG (λc=>?_) (λc=>?_)
     . !c':k0<0:=jg c
       #b6 ?_
       #⟨_,U,fk,λy=>⟨_,U,q2 (λg=>by !:=((g.2 wz hnm).1 k0 KA).1;lia) _ (aa s1 s4)⟩⟩
     . !c':¬ k0<0:=λz=>c (hW z)
       #⟨_,U,_,U,na,_,U,.inl (aH.of (s4 _ _ Km)),_,_,U,U,_,U,?_⟩
       #aG (λd=>?_) (λd=>?_)
       . !d':k0 ≥ (vn~:Int):=jg d
         #⟨_,U,fk,λy=>⟨_,U,q2 (λg=>by !:=((g.2 wz hnm).1 k0 KA).2;lia) _ (aa s1 s4)⟩⟩
       . !d':¬ k0 ≥ (vn~:Int):=λz=>d (hW z)
         #⟨⟨_,_,U⟩,U,λb' pz=>?_⟩
         rw[R9,CD]at pz
         rcases ez pz with z|z
         . #gl b' z
         . !e:b'=k0:=by simpa using z
           subst e
           lia
   @⟨⟨o4,o5,rfl⟩,rfl,gl⟩:=z
   rw[Rn,Sf]at gl
   #⟨_,U,x0,wz,U,b8.keep (ai.tk s4) MC,λtl H6 us s6 e6 pe=>?_⟩
   !M3:=aa s4 s6
   #⟨tl,U,⟨_,aH.of e6⟩,?_⟩
   #dG (xs:=us) (λi σ H7=>(∃o4 o5,σ=[S (.ref ba),S (.ref na),S (.ref D),S x0,o4,o5])/\ai H6 H7/\∀e∈wz.fw.take i,e.bf (Ck bs)=true) ⟨⟨_,_,U⟩,same_refl _,λb hb=>by simp at hb⟩ (λi σ H7 v z=>aH.of (z.2.1 _ _ e6)) (λi y0 σ H7 hy z=>?_) (λσ H7 z=>?_)
   . @⟨⟨o4,o5,rfl⟩,s7,gt⟩:=z
     @⟨e0,Mw,a0⟩:=Paired.get pe hy
     !Mx:=RL Mw
     @⟨MT,d0⟩:=td wz hnm e0 Mx
     !M4:=aa M3 s7
     !ke:=iO (f:=cu (cp "box" bs (bs.map (·.2)))) (g:=Ck bs) kv MT
     #⟨_,U,_,U,D,y0,e0,_,U,M4 _ _ A7,a0.same s7,MT,d0,λc H8 s8=>?_,λc H8 s8=>?_⟩
     . #⟨⟨_,_,U⟩,aa s7 s8,λb' pz=>?_⟩
       rw[R9,Mw]at pz
       rcases ez pz with z|z
       . #gt b' z
       . !e:b'=e0:=by simpa using z
         subst e
         rw[← ke]
         #c
     . #q2 (λg=>by !:=(g.2 wz hnm).2 e0 Mx;rw[← ke,c]at this;cases this) _ (aa s1 (aa M4 s8))
   . @⟨⟨o4,o5,rfl⟩,s7,gt⟩:=z
     !Px:=Paired.length pe
     rw[Px,Sf]at gt
     #⟨⟨_,_,_,U⟩,aa M3 s7,λb' pz=>?_⟩
     rw[R9,Gs]at pz
     rcases ez pz with z|z
     . #gs b' z
     . !e:b'=wz:=by simpa using z
       subst e
       #⟨gl,gt⟩
def tS {C T:J}(s:Src K mg "refuse_nodes" nU)(cP:Xc K mg "NoProgram" C (.ref T::vE))(m_len:mg "len"=Z)(LE:b7 P w K mg base "leads_of" ["node"] 22 jV)(TB:b7 P w K mg base "told_by" ["node"] 22 i7)(RU:bQ P w K mg base "refuse_unknown" ["known","told"] 22 (gr C 20)):bQ P w K mg base "refuse_nodes" ["boxes","nodes"] 23 (jZ C):=
 let⟨f,fd,F,m⟩:=s
 ⟨f,fd,xh F cP m_len LE TB RU,F.kp,lH F λz z z z z z z z=>rfl,m⟩
structure JC (H H':Hp)(p B I N:J)(xb xi xn:O V):Prop where
 s:ai H H'
 nB:H B=Z
 nI:H I=Z
 nN:H N=Z
 BN:B≠N
 IN:I≠N
 BI:B≠I
 hp:H' p=S (.tup [.ref B,.ref I,.ref N])
 hB:H' B=S (.lst xb)
 hI:H' I=S (.lst xi)
 hN:H' N=S (.lst xn)
 np:H p=Z
def dX (bs:aB)(ins:O Str)(nds:O Np):Prop:=B4 bs/\Jy bs ins/\B8 bs nds
def cq (C:J):Sp:=λvs H Q X=>∃(B I N:J) (vb vn:O V) (bs:aB) (ins:O Str) (nds:O Np),vs=[.ref B,.ref I,.ref N]/\uZ H B I N vb vn bs ins nds/\(dX bs ins nds->∀p' B' I' N' H',JC H H' p' B' I' N' vb (ins.map V.str) vn->Q (.ref p') H')/\(¬ dX bs ins nds->∀H',ai H H'->X (.ref C) Z H')
def uI:aC ["boxes","inputs","nodes"] ["boxes","inputs","nodes"] (ao kT):=eU
def qo {C:J}{f:J}{fd:RZ}(F:cD K "program_of" "program_of" kT f fd)(m_list:mg "list"=Z)(RB:bQ P w K mg base "refuse_boxes" ["boxes"] 23 (jX C))(RI:bQ P w K mg base "refuse_inputs" ["boxes","inputs"] 23 (jY C))(RN:bQ P w K mg base "refuse_nodes" ["boxes","nodes"] 23 (jZ C)):aY P w K mg base (eD P w base) 24 f fd ["boxes","inputs","nodes"] (cq C):=by
 #F.wU uI (λvs H Q E h=>?_) (λcdv A outer s H vs Q E hr h=>?_)
 . @⟨B,I,N,vb,vn,bs,ins,nds,rfl,_⟩:=h
   rfl
 . @⟨B,I,N,vb,vn,bs,ins,nds,rfl,ft,q,qb⟩:=h
   #⟨_,Xh (Wv (W0 (Xd iV RB hr U (L (Y 0) M)))
     (Wv (W0 (Xd iV RI hr U (L (Y 0) (L (Y 1) M))))
     (Wv (W0 (Xd iV RN hr U (L (Y 0) (L (Y 2) M))))
     (Ww (WC (WH (L (W4 L3.mM U m_list (by right) (L (Y 0) M)) (L (W4 L3.mM U m_list (by right) (L (Y 1) M)) (L (W4 L3.mM U m_list (by right) (L (Y 2) M)) M))))))))),?_⟩
   #⟨_,U,B,vb,bs,U,ft.hB,ft.pb,ft.b9,ft.bs2,λgB Ha sa=>?_,λn H' s'=>qb (λg=>n g.1) _ s'⟩
   !f1:=ft.same sa
   #⟨_,U,_,U,B,I,vb,bs,ins,U,f1.hB,f1.pb,f1.hI,ft.b9,ft.i9,ft.is2,λgI Hb sb=>?_,λn H' s'=>qb (λg=>n g.2.1) _ (aa sa s')⟩
   !f2:=f1.same sb
   #⟨_,U,_,U,B,I,N,vb,vn,bs,ins,nds,U,f2,gB.2,λgN Hc sc=>?_,λn H' s'=>qb (λg=>n g.2.2) _ (aa sa (aa sb s'))⟩
   !f3:=f2.same sc
   replace q:=q ⟨gB,gI,gN⟩
   !s0:=aa sa (aa sb sc)
   #⟨_,U,B,_,U,.inl (aH.of f3.hB),λb hb=>?_⟩
   !s1:=af hb (.lst vb)
   !e1:(upd Hc b (.lst vb)) b=S (.lst vb):=ae
   generalize upd Hc b (.lst vb)=H1 at s1 e1 ⊢
   !f4:=f3.same s1
   #⟨_,U,I,_,U,.inl (aH.of f4.hI),λi hi=>?_⟩
   !s2:=af hi (.lst (ins.map V.str))
   !e2:(upd H1 i (.lst (ins.map V.str))) i=S (.lst (ins.map V.str)):=ae
   generalize upd H1 i (.lst (ins.map V.str))=H2 at s2 e2 ⊢
   !f5:=f4.same s2
   #⟨_,U,N,_,U,.inl (aH.of f5.hN),λn hn=>⟨YL,λr KO=>?_⟩⟩
   !s3:=af hn (.lst vn)
   !e3:(upd H2 n (.lst vn)) n=S (.lst vn):=ae
   generalize upd H2 n (.lst vn)=H3 at s3 e3 KO ⊢
   !s4:=af KO (.tup [.ref b,.ref i,.ref n])
   !MW:=aa s0 s1
   !MX:=aa MW s2
   !mB:=aa MX s3
   #q r b i n _ ⟨aa mB s4,aS s0 hb,aS MW hi,aS MX hn,ag (s2 _ _ e1) hn,ag e2 hn,ag e1 hi,ae,s4 _ _ (s3 _ _ (s2 _ _ e1)),s4 _ _ (s3 _ _ e2),s4 _ _ e3,aS mB KO⟩
def oH {C:J}(s:Src K mg "program_of" kT)(m_list:mg "list"=Z)(RB:bQ P w K mg base "refuse_boxes" ["boxes"] 23 (jX C))(RI:bQ P w K mg base "refuse_inputs" ["boxes","inputs"] 23 (jY C))(RN:bQ P w K mg base "refuse_nodes" ["boxes","nodes"] 23 (jZ C)):bQ P w K mg base "program_of" ["boxes","inputs","nodes"] 24 (cq C):=
 let⟨f,fd,F,m⟩:=s
 ⟨f,fd,qo F m_list RB RI RN,F.kp,Ci F λz z z z z z z z z=>rfl,m⟩
def K2.sign:K2->Str
 | .plus=>"+" | .less=>"-" | .same=>"=" | .under=>"<" | .both=>"&"
def E.txt:E->Str
 | .num n=>Rt (toString n)
 | .box _ x=>x
 | .yes=>"yes"
 | .nt a=>"!"++a.txt
 | .two .plus a b=>"("++(a.txt++K2.sign .plus++b.txt)++")"
 | .two .less a b=>"("++(a.txt++K2.sign .less++b.txt)++")"
 | .two .same a b=>a.txt++K2.sign .same++b.txt
 | .two .under a b=>a.txt++K2.sign .under++b.txt
 | .two .both a b=>"{"++(a.txt++K2.sign .both++b.txt)++"}"
def E.sz:E->Nat
 | .num _=>31|.box _ _=>8|.yes=>3|.nt a=>a.sz+1|.two _ a b=>a.sz+b.sz+3
structure df (x:Str):Prop where
 l1:1<=x~
 l8:x~<=8
 lt:∀c∈x.cps.toList,97<=c/\c<123
def E.okN (P:Str->Prop):E->Prop
 | .num n=>0<=n/\n<10^30|.box t x=>t="box"/\P x|.yes=>True|.nt a=>a.okN P|.two _ a b=>a.okN P/\b.okN P
theorem E.okN.imp {P Q:Str->Prop}(f:∀x,P x->Q x):∀{e:E},e.okN P->e.okN Q
 | .num _,h=>h|.box t x,h=>⟨h.1,f x h.2⟩|.yes,_=>RO|.nt a,h=>E.okN.imp f (e:=a) h|.two _ a b,h=>⟨E.okN.imp f (e:=a) h.1,E.okN.imp f (e:=b) h.2⟩
def kM {n:Int}(h:0<=n/\n<10^30):n.natAbs<2^100:=by
 !:n<1000000000000000000000000000000:=h.2
 !h0:=h.1
 lia
def eY {n:Int}(h:n.natAbs<2^100):n.natAbs.log2<100:=by
 by_cases z:n.natAbs=0
 . rw[z];decide
 . #(Nat.log2_lt z).mpr h
def zF {n:Int}(h:n.natAbs<2^100):(Rt (toString n))~<=101:=by
 rw[T9]
 #int_text_length_le (by left) (eY h)
def bJ {n:Int}(h:0<=n/\n<10^30):(Rt (toString n))~<=31:=by
 rw[T9]
 #int_text_length_le10 (k:=30) (by left) ?_
 !:n<1000000000000000000000000000000:=h.2
 !h0:=h.1
 lia
theorem E.fh:∀{e:E},e.okN df->e.txt~<=e.sz
 | .num n,h=>bJ h
 | .box _ x,h=>h.2.l8
 | .yes,_=>(by left:3<=3)
 | .nt a,h=>by
   !:=E.fh (e:=a) h
   change("!"++a.txt)~<=a.sz+1
   rw[SU,show(("!":Str))~=1 from rfl]
   lia
 | .two k a b,h=>by
   !h1:=E.fh (e:=a) h.1
   !h2:=E.fh (e:=b) h.2
   !h3:(E.two k a b).txt.length<=a.txt~+b.txt~+3:=by
     !e1:(("(":Str))~=1:=rfl
     !e2:((")":Str))~=1:=rfl
     !e3:(K2.sign .plus)~=1:=rfl
     !e4:(K2.sign .less)~=1:=rfl
     !e5:(K2.sign .same)~=1:=rfl
     !e6:(K2.sign .under)~=1:=rfl
     !e7:(K2.sign .both)~=1:=rfl
     !e8:(("{":Str))~=1:=rfl
     !e9:(("}":Str))~=1:=rfl
     cases k<;>simp only[E.txt,SU]<;>lia
   change _<=a.sz+b.sz+3
   lia
structure pw (n:Nat)(e:E):Prop where
 is:e.vX
 ok:e.okN df
 sz:e.sz<=4000
 dp:e.dep<n
structure pL (n:Nat)(e:E):Prop where
 is:e.Fh
 ok:e.okN df
 sz:e.sz<=4000
 dp:e.dep<n
def pw.len {n:Nat}{e:E}(h:pw n e):e.txt~<=4000:=Ry (E.fh h.ok) h.sz
def pL.len {n:Nat}{e:E}(h:pL n e):e.txt~<=4000:=Ry (E.fh h.ok) h.sz
def fit {n:Nat}(h:n<=600000):n<=sizeLine:=Ry h (by left)
def AX (H:Hp)(kind:Str)(v:V)(x:Str):Prop:=
 (kind="sum"/\∃e,cJ H v e/\pw 30 e/\x=e.txt)\/(kind="condition"/\∃e,cJ H v e/\pL 30 e/\x=e.txt)\/(kind="name"/\v=.str x/\df x)\/(kind="number"/\∃i:Int,v=.int i/\(0<=i/\i<10^30)/\x=Rt (toString i))
def AX.len {H:Hp}{kind x:Str}{v:V}(h:AX H kind v x):x~<=4000:=by
 rcases h with⟨_,e,_,h,rfl⟩|⟨_,e,_,h,rfl⟩|⟨_,_,h⟩|⟨_,i,_,h,rfl⟩
 . #h.len
 . #h.len
 . #Ry h.l8 (by left)
 . #Ry (bJ h) (by left)
abbrev bZ:O (Str×O Str):=[("box",["name","number"]),("input",["name"]),("put",["name","sum","number"]),("say",["sum","number"]),("test",["condition","number","number"]),("pick",["name","number"]),("end",[])]
def fV (w:World)(K:Ro)(aF:J):Prop:=∀q∈bZ,∃t kvs,eG w K aF kvs/\kvs.lookup q.1=S (.ref t)/\∀H:Hp,bS K H t (q.2.map V.str)
def fV.of {w:World}{K:Ro}{aF:J}{ts:O J}(d:eG w K aF ((bZ.map (·.1)).zip (ts.map V.ref)))(p:Paired (λ(t:J) (q:Str×O Str)=>∀H:Hp,bS K H t (q.2.map V.str)) ts bZ):fV w K aF:=by
 #match ts,p with|[a1,a2,a3,a4,a5,a6,a7],.cons h1 (.cons h2 (.cons h3 (.cons h4 (.cons h5 (.cons h6 (.cons h7 .nil))))))=>?_
 intro q hq
 simp only[Sh,R4,or_false]at hq
 rcases hq with rfl|rfl|rfl|rfl|rfl|rfl|rfl
 . #⟨a1,_,d,U,h1⟩
 . #⟨a2,_,d,U,h2⟩
 . #⟨a3,_,d,U,h3⟩
 . #⟨a4,_,d,U,h4⟩
 . #⟨a5,_,d,U,h5⟩
 . #⟨a6,_,d,U,h6⟩
 . #⟨a7,_,d,U,h7⟩
structure W3 (H:Hp)(ks:O Str)(vs:O V)(xs:O Str):Prop where
 l1:ks~=vs~
 l2:ks~=xs~
 at_:∀(i:Nat) (k x:Str) (v:V),ks[i]?=S k->vs[i]?=S v->xs[i]?=S x->AX H k v x
def W3.nil {H:Hp}:W3 H [] [] []:=⟨rfl,rfl,λi z z z h=>by simp at h⟩
def W3.cons {H:Hp}{k x:Str}{v:V}{ks xs:O Str}{vs:O V}(a:AX H k v x)(h:W3 H ks vs xs):W3 H (k::ks) (v::vs) (x::xs):=⟨by simp[h.l1],by simp[h.l2],λi a' b' c' h1 h2 h3=>by
 match i,h1,h2,h3 with
 | 0,h1,h2,h3=>
   simp at h1 h2 h3
   subst h1 h2 h3
   #a
 | i+1,h1,h2,h3=>#h.at_ i a' b' c' (by simpa using h1) (by simpa using h2) (by simpa using h3)⟩
structure om (H:Hp)(v:V)(head:Str)(xs:O Str):Prop where
 ex:∃(ks:O Str) (vals:O V),Tp H v (.str head::vals)/\(head,ks)∈bZ/\W3 H ks vals xs
def om.len {H:Hp}{v:V}{head:Str}{xs:O Str}(h:om H v head xs):xs~<=3/\head~<=5/\∀x∈xs,x~<=4000:=by
 @⟨ks,vals,a,b,c⟩:=h.ex
 !all:∀q∈bZ,q.2~<=3/\q.1~<=5:=by right
 !h3:=all _ b
 #⟨by rw[← c.l2];#h3.1,h3.2,λx hx=>?_⟩
 @⟨i,hi,e⟩:=List.getElem_of_mem hx
 !e1:xs[i]?=S x:=by rw[RQ hi,e]
 !hk:i<ks~:=by rw[c.l2];#hi
 !hv:i<vals~:=by rw[← c.l1];#hk
 #(c.at_ i _ _ _ (RQ hk) (RQ hv) e1).len
def jK {z:Str}{ts:O Str}(B:Nat)(hB:∀y∈ts,y~<=B)(h:ts~*B+ts~*z~<=16777216):JoinOk z ts=true:=by
 unfold JoinOk
 rw[StrLaws.joinFits hB h]
 rfl
def Em {H:Hp}{v:V}{head:Str}{xs:O Str}(h:om H v head xs):JoinOk " " (head::xs)=true:=by
 @⟨h3,h5,hl⟩:=h.len
 #jK 4000 (λy hy=>?_) ?_
 . rcases cv hy with e|e
   . rw[e];lia
   . #hl y e
 . rw[RE,show((" ":Str))~=1 from rfl]
   lia
def Ax {H:Hp}{v:V}{head:Str}{xs:O Str}(h:om H v head xs):(RM " " (head::xs))~<=12100:=by
 @⟨h3,h5,hl⟩:=h.len
 change(Sr " " (head::xs))~<=_
 rw[StrLaws.glued_eq_join]
 #Ry (StrLaws.join_length_le _ _) ?_
 !e:∀(l:O Str),(∀x∈l,x~<=4000)->(l.map (·.length)).sum<=l~*4000:=by
   intro l
   induction l with
   | nil=>intro _;#Rz _
   | cons a l ih=>
     intro h
     !h1:=ih λx hx=>h x (RC _ hx)
     !h2:=h a Ru
     rw[R3,S2,RE]
     lia
 !:=e xs hl
 rw[R3,S2,RE,show((" ":Str))~=1 from rfl]
 lia
def oz (a:V)(r:O V):er (a::r) (S 1) Z=r:=by
 unfold er
 !e1:HT.bX (a::r)~ 0 (S ((1:Nat):Int))=min 1 (a::r)~:=HT.d9 _ _ _
 rw[show((1:Int))=((1:Nat):Int)from rfl,e1,HT.pd,RE,Nat.min_eq_left (by lia)]
 simp
def iG {a:V}{r:O V}:iz (a::r) 0=S a:=f6 (xs:=a::r) (j:=0) rfl
def jh (b:Str×Int):O Str:=["box",b.1,Rt (toString b.2)]
def vW (x:Str):O Str:=["input",x]
def Np.ws:Np->O Str
 | .put x s n=>["put",x,s.txt,Rt (toString n)]
 | .say s n=>["say",s.txt,Rt (toString n)]
 | .test c n o=>["test",c.txt,Rt (toString n),Rt (toString o)]
 | .pick x n=>["pick",x,Rt (toString n)]
 | .fin=>["end"]
def Np.wr:Np->Prop
 | .put x s n=>df x/\pw 30 s/\0<=n/\n<10^30
 | .say s n=>pw 30 s/\0<=n/\n<10^30
 | .test c n o=>pL 30 c/\(0<=n/\n<10^30)/\0<=o/\o<10^30
 | .pick x n=>df x/\0<=n/\n<10^30
 | .fin=>True
def AX.nm {H:Hp}{x:Str}(h:df x):AX H "name" (.str x) x:=.inr (.inr (.inl ⟨rfl,rfl,h⟩))
def AX.no {H:Hp}{n:Int}(h:0<=n/\n<10^30):AX H "number" (.int n) (Rt (toString n)):=.inr (.inr (.inr ⟨rfl,n,rfl,h,rfl⟩))
def Np.rowAt {H:Hp}:∀{e:Np} {v:V},b8 H v e->e.wr->∃hd xs,om H v hd xs/\e.ws=hd::xs
 | .put x s n,v,⟨u,h,a⟩,⟨w1,w2,w3⟩=>⟨_,_,⟨_,_,h,by left,.cons (.nm w1) (.cons (.inl ⟨rfl,s,a,w2,rfl⟩) (.cons (.no w3) .nil))⟩,rfl⟩
 | .say s n,v,⟨u,h,a⟩,⟨w2,w3⟩=>⟨_,_,⟨_,_,h,by left,.cons (.inl ⟨rfl,s,a,w2,rfl⟩) (.cons (.no w3) .nil)⟩,rfl⟩
 | .test c n o,v,⟨u,h,a⟩,⟨w2,w3,w4⟩=>⟨_,_,⟨_,_,h,by left,.cons (.inr (.inl ⟨rfl,c,a,w2,rfl⟩)) (.cons (.no w3) (.cons (.no w4) .nil))⟩,rfl⟩
 | .pick x n,v,h,⟨w1,w3⟩=>⟨_,_,⟨_,_,h,by left,.cons (.nm w1) (.cons (.no w3) .nil)⟩,rfl⟩
 | .fin,v,h,_=>⟨_,_,⟨_,_,h,by left,.nil⟩,rfl⟩
abbrev bG:Str:=" "
def textOf (bs:aB)(ins:O Str)(nds:O Np):O Str:=bs.map (λb=>RM bG (jh b))++ins.map (λx=>RM bG (vW x))++nds.map (λe=>RM bG e.ws)
structure E7 (bs:aB)(ins:O Str)(nds:O Np):Prop where
 b:∀x∈bs,df x.1/\0<=x.2/\x.2<10^30
 i:∀x∈ins,df x
 n:∀x∈nds,x.wr
 lb:bs~<=4
 li:ins~<=4
 ln:nds~<=400
structure FD (H:Hp)(B I N:J)(vb vn:O V)(bs:aB)(ins:O Str)(nds:O Np):Prop where
 hB:H B=S (.lst vb)
 hI:H I=S (.lst (ins.map V.str))
 hN:H N=S (.lst vn)
 pb:Paired (fm H) vb bs
 pn:Paired (b8 H) vn nds
abbrev qz:Stmt:=dS 36 0
abbrev qC:Stmt:=dS 36 1
abbrev nQ:Stmt:=dS 36 2
abbrev xQ:Stmt:=dS 36 3
abbrev xS:Stmt:=dS 36 4
abbrev xR:Stmt:=dS 36 5
abbrev qA:Stmt:=dS 36 6
def SN (l:O Nat):Str:=⟨l.toArray⟩
def eV (l:O Nat):(SN l).cps.toList=l:=by simp[SN]
def oo (x:Str):SN x.cps.toList=x:=by cases x;simp[SN]
def pI (l:O Nat):(SN l)~=l~:=by change l.toArray.size=_;simp
def gW {a b:O Nat}(h:SN a=SN b):a=b:=by
 !:=congrArg (λs:Str=>s.cps.toList) h
 simpa[SN]using this
def bP (x:Str):x.cps.toList~=x~:=by simp[Str.length]
def k9 (x:Str){a b:Nat}(hab:a<=b)(hb:b<=x~):VD x (S (a:Int)) (S (b:Int))=SN ((x.cps.toList.drop a).take (b-a)):=by
 unfold VD
 rw[StrLaws.sliced_plain x hab hb]
 split
 . rename_i h
   rw[StrLaws.strSliceIndices_plain hab hb]at h
   simp at h
   !h1:a=0:=by lia
   !h2:b=x~:=by lia
   subst h1 h2
   rw[VS,Wm,← bP,Sf,oo]
 . rfl
def qH (x:Str){i:Nat}(h:i<=x~):VD x (S (i:Int)) (S ((i:Int)+1))=SN ((x.cps.toList.drop i).take 1):=by
 by_cases hi:i<x~
 . !:=k9 x (a:=i) (b:=i+1) (by lia) (by lia)
   rw[show i+1-i=1 by lia]at this
   #this
 . !hi:i=x~:=by lia
   !e:Uc (S (i:Int)) (S ((i:Int)+1)) 1 x~=Uc (S (i:Int)) (S (i:Int)) 1 x~:=by
     !h2:¬ ((i:Int)+1<0):=by lia
     !h1:¬ ((i:Int)<0):=by lia
     !e1:min ((i:Int)+1) (x~:Int)=min (i:Int) (x~:Int):=by lia
     simp only[Uc,h1,h2,if_false,e1,show((1:Int) > 0)=True from by simp,if_true]
   !:=k9 x (a:=i) (b:=i) (by lia) (by lia)
   unfold VD at this ⊢
   rw[e,this,Vu,List.take_zero,List.drop_eq_nil_of_le (by rw[bP];lia),List.take_nil]
abbrev bK (C dx:J)(w:Str)(i:Nat):HO:=.ins C dx [("word",.str w),("place",.int (i:Int))]
structure lE (K:Ro)(C:J):Prop where
 c:pq K C
 w:cO K C "word"
 p:cO K C "place"
def mH.rd {K:Ro}{mg:Str->Option Value}{C:J}(s:mH K mg "Reader" C ["word","place"]):lE K C:=⟨s.c,s.na.get (by left),s.na.get (by left)⟩
def Kp.rd {r:J}{H H':Hp}{C dx:J}{w:Str}{i:Nat}(k:Kp r H H')(h:H r=S (bK C dx w i)):TK H H':=λb xs e=>k b _ e λz=>by rw[z,h]at e;cases e
def aA (w:Str)(i:Nat):O Nat:=w.cps.toList.drop i
def dO (w:Str)(i:Nat):(aA w i)~=w~-i:=by unfold aA;rw[Tn,bP]
def bV {w:Str}{i:Nat}{c:Nat}{r:O Nat}(h:aA w i=c::r):aA w (i+1)=r/\i<w~:=by
 !hl:(aA w i)~=r~+1:=by rw[h];rfl
 rw[dO]at hl
 unfold aA at h ⊢
 rw[← List.drop_drop,h]
 #⟨U,by lia⟩
def dy {w:Str}{i:Nat}{a r:O Nat}(h:aA w i=a++r)(hi:i<=w~):aA w (i+a~)=r/\i+a~<=w~:=by
 !hl:(aA w i)~=a~+r~:=by rw[h,Rx]
 rw[dO]at hl
 unfold aA at h ⊢
 rw[← List.drop_drop,h,List.drop_left]
 #⟨U,by lia⟩
def i3 (C:J):Sp:=λvs H Q z=>∃(r dx:J) (w:Str),vs=[.ref r,.str w]/\H r=S (.ins C dx [])/\Q .bI (upd H r (bK C dx w 0))
def AD:aC ["self","word"] ["self","word"] (ao qz):=eU
def qj (F:Hp->Prop){H:Hp}(H':Hp)(e:H=H')(h:F H'):F H:=by subst e;#h
def wY {C:J}{f:J}{fd:RZ}(F:cD K "__init__" "Reader.__init__" qz f fd)(R5:lE K C):aY P w K mg base dq 1 f fd ["self","word"] (i3 C):=by
 #F.iU AD λcdv A outer s H vs Q E hr h=>?_
 @⟨r,dx,w,rfl,cW,q⟩:=h
 #ig ⟨_,(Wv (L3.Io (Y 0) (Y 1))
   (Ww (L3.Io (Y 0) Ws))),?_⟩
 #⟨_,U,_,U,r,C,dx,_,U,cW,R5.c,R5.w,(by change 0<1000;decide),?_⟩
 #⟨_,U,r,C,dx,_,U,ae,R5.c,R5.p,(by change 1<1000;decide),?_⟩
 #qj (λH'=>Q .bI H') (upd H r (bK C dx w 0)) ?_ q
 rw[j4]
 rfl
def pV {C:J}(c:mH K mg "Reader" C ["word","place"])(s:qO K C "Reader.__init__" qz):oi P w K mg base "Reader" C ["self","word"] 1 (i3 C):=
 let⟨f,fd,F,m⟩:=s
 ⟨f,fd,wY F c.rd,lH F λz z z z z z z z=>rfl,m,c.m⟩
def bW (C:J):Sp:=λvs H Q z=>∃(r dx:J) (w:Str) (i:Nat),vs=[.ref r]/\H r=S (bK C dx w i)/\i<=w~/\w~<=sizeLine/\Q (.str (SN ((aA w i).take 1))) H
def AE:aC ["self"] ["self"] (ao qC):=eU
def xa {C:J}{f:J}{fd:RZ}(F:cD K "sign" "Reader.sign" qC f fd)(R5:lE K C):aY P w K mg base dq 1 f fd ["self"] (bW C):=by
 #F.iU AE λcdv A outer s H vs Q E hr h=>?_
 @⟨r,dx,w,i,rfl,cW,hi,hw,q⟩:=h
 #ig ⟨_,(Ww (WC (L3.BJ (Xr (Y 0)) (Xr (Y 0)) (Wt WN (Xr (Y 0)) Ws)))),?_⟩
 #⟨_,U,r,C,dx,_,_,U,cW,R5.c,R5.w,U,_,U,r,C,dx,_,_,U,cW,R5.c,R5.p,U,_,U,_,U,r,C,dx,_,_,U,cW,R5.c,R5.p,U,_,_,U,U,_,U,w,U,hw,?_⟩
 rw[qH w hi]
 #q
def tO {C:J}(s:cj K C "sign" "Reader.sign" qC)(R5:lE K C):bN P w K mg base C "sign" ["self"] 1 (bW C):=
 let⟨f,fd,F,m⟩:=s
 ⟨f,fd,xa F R5,lG F λz z z z z z z=>rfl,m⟩
def Di {c:Nat}{r:O Nat}(h:r.head?≠S c):V.str (SN (r.take 1))≠V.str (SN [c]):=λz=>by
 injection z with z
 !z:=gW z
 cases r with
 | nil=>cases z
 | cons a l=>
   rw[List.take_succ_cons,List.take_zero]at z
   injection z with z _
   #h (by rw[z];rfl)
def fP (C:J):Sp:=λvs H Q z=>∃(r dx:J) (w:Str) (i c:Nat),vs=[.ref r,.str (SN [c])]/\H r=S (bK C dx w i)/\i<=w~/\w~<=sizeLine/\((∃l,aA w i=c::l/\Q (.bl true) (upd H r (bK C dx w (i+1))))\/((aA w i).head?≠S c/\Q (.bl false) H))
def xX:aC ["self","sign"] ["self","sign"] (ao nQ):=eU
def bc {c:Bool}{A B:Prop}(h:c=false)(b:B):if c=true then A else B:=by rw[h];#b
def uk {C:J}{f:J}{fd:RZ}(F:cD K "taken" "Reader.taken" nQ f fd)(R5:lE K C)(SI:bN P w K mg base C "sign" ["self"] 1 (bW C)):aY P w K mg base dq 2 f fd ["self","sign"] (fP C):=by
 #F.iU xX λcdv A outer s H vs Q E hr h=>?_
 @⟨r,dx,w,i,c,rfl,cW,hi,hw,cs⟩:=h
 #ig ⟨_,(Wv (WB (Wx Xn (W5 (Y 0) R5.c SI hr) (Y 1)) (Ww (WC Xe)) WE)
   (Wv (XC (Y 0) Ws)
   (Ww (WC Xe)))),?_⟩
 #aq λRk kR=>?_
 #⟨_,U,r,dx,_,U,cW,U,r,dx,w,i,U,cW,hi,hw,_,U,U,_,U,?_⟩
 rcases cs with⟨l,hl,q⟩|⟨hn,q⟩
 . rw[hl]
   #bc (by simp) ?_
   #kR _ _ ?_
   #⟨_,U,r,C,dx,_,_,U,cW,R5.c,R5.p,U,_,_,U,U,dx,_,cW,(by change 2<1000;decide),?_⟩
   #q
 . #aG (λy=>q) (λz=>au (by simp[Di hn]) z)
def pS {C:J}(s:cj K C "taken" "Reader.taken" nQ)(R5:lE K C)(SI:bN P w K mg base C "sign" ["self"] 1 (bW C)):bN P w K mg base C "taken" ["self","sign"] 2 (fP C):=
 let⟨f,fd,F,m⟩:=s
 ⟨f,fd,uk F R5 SI,lH F λz z z z z z z z=>rfl,m⟩
def lg (C:J):Sp:=λvs H Q z=>∃(r dx:J) (w:Str) (i c:Nat) (l:O Nat),vs=[.ref r,.str (SN [c])]/\H r=S (bK C dx w i)/\i<=w~/\w~<=sizeLine/\aA w i=c::l/\Q .bI (upd H r (bK C dx w (i+1)))
def Ez:aC ["self","sign"] ["self","sign"] (ao xQ):=eU
def zN {C:J}{f:J}{fd:RZ}(F:cD K "due" "Reader.due" xQ f fd)(R5:lE K C)(TA:bN P w K mg base C "taken" ["self","sign"] 2 (fP C)):aY P w K mg base dq 3 f fd ["self","sign"] (lg C):=by
 #F.iU Ez λcdv A outer s H vs Q E hr h=>?_
 @⟨r,dx,w,i,c,l,rfl,cW,hi,hw,hl,q⟩:=h
 #ig ⟨_,(Ww (WB (L3.nt (Xx (Xs (Y 0) R5.c TA hr (L (Y 1) M)))) XI WE)),?_⟩
 #⟨_,U,r,dx,_,U,cW,U,_,U,r,dx,w,i,c,U,cW,hi,hw,.inl ⟨l,hl,_,U,?_⟩⟩
 #cb q
def vL {C:J}(s:cj K C "due" "Reader.due" xQ)(R5:lE K C)(TA:bN P w K mg base C "taken" ["self","sign"] 2 (fP C)):bN P w K mg base C "due" ["self","sign"] 3 (lg C):=
 let⟨f,fd,F,m⟩:=s
 ⟨f,fd,zN F R5 TA,lH F λz z z z z z z z=>rfl,m⟩
def ju (C:J):Sp:=λvs H Q z=>∃(r dx:J) (w S8x:Str) (i:Nat) (a l:O Nat),vs=[.ref r,.str S8x]/\H r=S (bK C dx w i)/\i<=w~/\w~<=sizeLine/\aA w i=a++l/\(∀c∈a,c∈S8x.cps.toList)/\(∀c,l.head?=S c->c∉S8x.cps.toList)/\Q (.str (SN a)) (upd H r (bK C dx w (i+a~)))
def nj (S8x:Str)(c:Nat):Vt S8x (SN [c])=decide (c∈S8x.cps.toList):=StrLaws.found_one S8x c
def fX {l:O Nat}(h:l≠[]):V.str (SN l)≠V.str "":=λz=>by
 injection z with z
 #h (gW (z.trans (show("":Str)=SN []by right)))
def xW:aC ["self","signs","begun"] ["self","signs"] (ao xS):=eU
def yr {H:Hp}{r:J}{o:HO}(h:H r=S o):H=upd H r o:=by
 funext b
 by_cases e:b=r
 . rw[e,ae,h]
 . rw[ah e]
def zP {C:J}{f:J}{fd:RZ}(F:cD K "stretch" "Reader.stretch" xS f fd)(R5:lE K C)(SI:bN P w K mg base C "sign" ["self"] 1 (bW C)):aY P w K mg base dq 2 f fd ["self","signs"] (ju C):=by
 #F.iU xW λcdv A outer s H vs Q E hr h=>?_
 @⟨r,dx,w,S8x,i,a,l,rfl,cW,hi,hw,Kq,ha,hl,q⟩:=h
 @⟨pX,hle⟩:=dy Kq hi
 #ig ⟨_,(Wv (Wy 2 xW.nd (Xr (Y 0)))
   (Wv (Xo (WV (WX (Wx Xn (W5 (Y 0) R5.c SI hr) Wu) (W6 (Wx L3.wO (W5 (Y 0) R5.c SI hr) (Y 1) U)))) (Ww (XC (Y 0) Ws)))
   (Ww (WC (L3.BJ (Xr (Y 0)) (Y 2) (Xr (Y 0))))))),?_⟩
 #aq λRk kR=>?_
 #⟨_,U,r,C,dx,_,_,U,cW,R5.c,R5.p,U,?_⟩
 #ak (kR _ _ ?_)
 #aw [S (.ref r),S (.str S8x),S (.int (i:Int))] U ?_
 #aq λRk kR=>?_
 #⟨λd σ Hx=>∃k b,σ=[S (.ref r),S (.str S8x),S (.int (i:Int))]/\Hx=upd H r (bK C dx w (i+k))/\d=b~/\aA w (i+k)=b++l/\k+b~=a~/\∀c∈b,c∈S8x.cps.toList,⟨a~,0,a,U,yr cW,U,Kq,Nat.zero_add _,ha⟩,λd σ Hx z=>?_⟩
 @⟨k,b,rfl,rfl,rfl,hb,kb,hbS⟩:=z
 !Jf:i+k<=w~:=by lia
 !vR:(upd H r (bK C dx w (i+k))) r=S (bK C dx w (i+k)):=ae
 generalize Mr:upd H r (bK C dx w (i+k))=Hk at vR ⊢
 !fin:b=[]->Rk [S (.ref r),S (.str S8x),S (.int (i:Int))] Hk:=λOM=>by
   !k0:k=a~:=by rw[OM]at kb;simpa using kb
   #kR _ _ ?_
   #⟨_,U,r,C,dx,_,_,U,vR,R5.c,R5.w,U,_,U,_,U,_,U,r,C,dx,_,_,U,vR,R5.c,R5.p,U,_,U,w,U,hw,?_⟩
   rw[k9 w (by lia) Jf,show i+k-i=a~ by lia,show(w.cps.toList.drop i)=a++l from Kq,List.take_left,← Mr,k0]
   #q
 #⟨_,U,r,dx,_,U,vR,U,r,dx,w,i+k,U,vR,Jf,hw,U,_,U,?_⟩
 cases b with
 | nil=>
   rw[hb]
   cases l with
   | nil=>#bc (by right) (cb (fin rfl))
   | cons c l'=>
     #aG (λy=>?_) (λy=>cb (fin rfl))
     #⟨_,U,r,dx,_,U,vR,U,r,dx,w,i+k,U,vR,Jf,hw,_,U,_,_,U,U,_,U,?_⟩
     rw[hb]
     #bc ?_ (fin rfl)
     rw[show(([]:O Nat)++c::l').take 1=[c]from rfl,nj]
     #gv (hl c rfl)
 | cons c b'=>
   @⟨hn,oM⟩:=bV hb
   #aG (λy=>?_) (λz=>au ?_ z)
   . #⟨_,U,r,dx,_,U,vR,U,r,dx,w,i+k,U,vR,Jf,hw,_,U,_,_,U,U,_,U,?_⟩
     rw[hb]
     #aG (λy=>?_) (λz=>au ?_ z)
     . #⟨λσ' H'=>∃k b,σ'=[S (.ref r),S (.str S8x),S (.int (i:Int))]/\H'=upd H r (bK C dx w (i+k))/\b'~=b~/\aA w (i+k)=b++l/\k+b~=a~/\∀c∈b,c∈S8x.cps.toList,λσ' H' z=>⟨b'~,Tq _,z⟩,?_⟩
       #⟨_,U,r,C,dx,_,_,U,vR,R5.c,R5.p,U,_,_,U,U,dx,_,vR,(by change 2<1000;decide),?_⟩
       #⟨k+1,b',U,?_,U,by rw[← Nat.add_assoc];show hn,by !:k+(b'~+1)=a~:=kb;lia,λc hc=>hbS c (RC _ hc)⟩
       rw[← Mr,j4,← Nat.add_assoc]
       rfl
     . rw[show((c::b')++l).take 1=[c]from rfl,nj]
       #hW (hbS c Ru)
   . rw[hb]
     rw[gv (fX (show((c::b')++l).take 1≠[]from λz=>nomatch z))]
     rfl
def vN {C:J}(s:cj K C "stretch" "Reader.stretch" xS)(R5:lE K C)(SI:bN P w K mg base C "sign" ["self"] 1 (bW C)):bN P w K mg base C "stretch" ["self","signs"] 2 (ju C):=
 let⟨f,fd,F,m⟩:=s
 ⟨f,fd,zP F R5 SI,lH F λz z z z z z z z=>rfl,m⟩
abbrev xP:Stmt:=top 37
abbrev m5:Str:="0123456789"
abbrev kJ:Str:="abcdefghijklmnopqrstuvwxyz"
def iQ {c:Nat}:c∈m5.cps.toList↔48<=c/\c<=57:=by
 rw[show m5.cps.toList=List.range' 48 10 by right,List.mem_range'_1]
 lia
def mn {c:Nat}:c∈kJ.cps.toList↔97<=c/\c<123:=by
 rw[show kJ.cps.toList=List.range' 97 26 by right,List.mem_range'_1]
def dU (n:Int):O Nat:=(Rt (toString n)).cps.toList
def iS (m:Nat):dU (m:Int)=(U1 10 m).map Char.toNat:=PySem.W.KIN.signs_num m
def eO {n:Int}(h:0<=n):PySem.NumText.AllDigits (dU n):=by
 @⟨m,rfl⟩:=Ti h
 intro c hc
 rw[iS]at hc
 @⟨ch,hch,e⟩:=fc hc
 rw[← e]
 #PyProof.Rows.digit_range (Nat.isDigit_of_mem_toDigits (by left) (by left) hch)
def fR (m:Nat):U1 10 m≠[]:=λe=>by
 by_cases h:m<10
 . rw[UD h]at e;cases e
 . !t:=Vy (b:=10) (n:=m/10) (d:=m%10) (by left) (by lia) (Nat.mod_lt m (by left))
   rw[Nat.div_add_mod,e,UD (Nat.mod_lt m (by left))]at t
   simp at t
def jP {n:Int}(h:0<=n):dU n≠[]:=by
 @⟨m,rfl⟩:=Ti h
 rw[iS]
 #λe=>fR m (List.map_eq_nil_iff.mp e)
def wM {n:Int}(h:0<=n/\n<10^30):(dU n)~<=30:=by
 @⟨m,rfl⟩:=Ti h.1
 !hm:m<10^30:=by
   !:=h.2
   !e:((10:Int)^30)=((10^30:Nat):Int):=by right
   lia
 rw[dU,bP,T9]
 #(Nat.length_repr_le_iff (n:=m) (by left)).mpr hm
def pW:∀m:Nat,0<m->∀c l,U1 10 m=c::l->c≠'0':=by
 intro m
 induction m using Nat.strongRecOn with
 | _ m ih=>
   intro hm c l e
   by_cases h:m<10
   . rw[UD h]at e
     injection e with e _
     rw[← e]
     !all:∀k:Fin 10,k.1≠0->Nat.digitChar k.1≠'0':=by left
     #all ⟨m,h⟩ (by change m≠0;lia)
   . !t:=Vy (b:=10) (n:=m/10) (d:=m%10) (by left) (by lia) (Nat.mod_lt m (by left))
     rw[Nat.div_add_mod,e]at t
     cases q:U1 10 (m/10)with
     | nil=>#au q (fR _)
     | cons d l'=>
       rw[q]at t
       injection t with t _
       rw[← t]
       #ih (m/10) (by lia) (by lia) d l' q
def uf {n:Int}(h:0<=n){l:O Nat}(e:dU n=48::l):l=[]:=by
 @⟨m,rfl⟩:=Ti h
 by_cases hm:m=0
 . rw[hm]at e
   rw[show dU ((0:Nat):Int)=[48]by right]at e
   injection e with _ e
   #e.symm
 . rw[iS]at e
   cases q:U1 10 m with
   | nil=>#au q (fR _)
   | cons c l'=>
     rw[q,R3]at e
     injection e with e _
     !:=pW m (by lia) c l' q
     #au (Char.toNat_inj.mp (e.trans (show(48:Nat)='0'.toNat from rfl))) this
def wL {n:Int}(h:0<=n)(hl:(dU n)~<=30):VE (SN (dU n))=S n:=by
 @⟨m,rfl⟩:=Ti h
 !:=PySem.intText_digits (x:=SN (dU (m:Int))) (by rw[eV];#eO h) (by rw[eV];#jP h) (by rw[pI];lia)
 rw[this,eV,iS,PySem.W.KIN.val_back]
def lh (C:J):Sp:=λvs H Q z=>∃(r dx:J) (w:Str) (i:Nat) (n:Int) (l:O Nat),vs=[.ref r]/\H r=S (bK C dx w i)/\i<=w~/\w~<=sizeLine/\(0<=n/\n<10^30)/\aA w i=dU n++l/\(∀c,l.head?=S c->c∉m5.cps.toList)/\Q (.int n) (upd H r (bK C dx w (i+(dU n)~)))
def xV:aC ["self","figures"] ["self"] (ao xR):=eU
def zO {C:J}{f:J}{fd:RZ}(F:cD K "number" "Reader.number" xR f fd)(R5:lE K C)(m_len:mg "len"=Z)(m_int:mg "int"=Z)(cF:pJ mg "FIGURES" m5)(cM:mI mg "MOST_FIGURES" 30)(ST:bN P w K mg base C "stretch" ["self","signs"] 2 (ju C)):aY P w K mg base dq 3 f fd ["self"] (lh C):=by
 #F.iU xV λcdv A outer s H vs Q E hr h=>?_
 @⟨r,dx,w,i,n,l,rfl,cW,hi,hw,hn,hl,hh,q⟩:=h
 !hlen:=wM hn
 !rj:=jP hn.1
 #ig ⟨_,(Wv (Wy 1 xV.nd (Xs (Y 0) R5.c ST hr (L (WU (w:=.str m5) U cF.choose_spec ⟨_,U⟩) M)))
   (Wv (WB (WV (Xq (Wx WL (Y 1) Wu) (Xq (Wx Xi (WJ L3.mL U m_len RG (L (Y 1) M)) (WU (w:=.int 30) U cM.choose_spec ⟨_,rfl⟩)) (XA (WV (WX (Wx WL (Wz L3.MH (Y 1) Ws) Wu) (W6 (Wx Xn (Y 1) Wu)))))))) XI WE)
   (Ww (WC (W4 L3.Cm U m_int (by right) (L (Y 1) M)))))),?_⟩
 #aq λRk kR=>?_
 #⟨_,U,r,dx,_,U,cW,U,r,dx,w,m5,i,dU n,l,U,cW,hi,hw,hl,(λc hc=>iQ.mpr (eO hn.1 c hc)),hh,?_⟩
 #ak (kR _ _ ?_)
 #aw [S (.ref r),S (.str (SN (dU n)))] U ?_
 #aq λRk kR=>?_
 #⟨_,U,U,_,U,?_⟩
 #bc (gv (fX rj)) ?_
 !sl:(SN (dU n))~<=30:=by rw[pI];#hlen
 #⟨_,U,_,U,Ry sl (by left),_,_,U,U,_,U,?_⟩
 #bc (gv (by rw[pI];lia)) ?_
 cases e:dU n with
 | nil=>#au e rj
 | cons c l'=>
   rw[e]at q sl
   #⟨_,U,SN (c::l'),0,c,U,U,Ry sl (by left),by rw[eV];#f6 (xs:=c::l') (j:=0) rfl,U,_,U,?_⟩
   suffices go:Rk [S (.ref r),S (.str (SN (c::l')))] (upd H r (bK C dx w (i+(c::l')~)))by
     #aG (λz=>?_) (λy=>cb go)
     !z:=jg z
     !hc:c=48:=by
       injection z with z
       !z:SN [c]=SN [48]:=z.trans (show("0":Str)=SN [48]by right)
       !:=gW z
       injection this
     rw[hc]at e go ⊢
     !:=uf hn.1 e
     rw[this]at e go ⊢
     #⟨_,U,U,_,U,?_⟩
     #bc ?_ go
     rw[show SN [48]=("0":Str)by right,hW rfl]
     rfl
   #kR _ _ ?_
   #⟨_,U,_,n,U,?_,Ry sl (by left),q⟩
   rw[← e]
   #wL hn.1 hlen
def vM {C:J}(s:cj K C "number" "Reader.number" xR)(R5:lE K C)(m_len:mg "len"=Z)(m_int:mg "int"=Z)(cF:pJ mg "FIGURES" m5)(cM:mI mg "MOST_FIGURES" 30)(ST:bN P w K mg base C "stretch" ["self","signs"] 2 (ju C)):bN P w K mg base C "number" ["self"] 3 (lh C):=
 let⟨f,fd,F,m⟩:=s
 ⟨f,fd,zO F R5 m_len m_int cF cM ST,lG F λz z z z z z z=>rfl,m⟩
def i4 (C:J):Sp:=λvs H Q z=>∃(r dx:J) (w:Str) (i:Nat) (x:Str) (l:O Nat),vs=[.ref r]/\H r=S (bK C dx w i)/\i<=w~/\w~<=sizeLine/\df x/\aA w i=x.cps.toList++l/\(∀c,l.head?=S c->c∉kJ.cps.toList)/\Q (.str x) (upd H r (bK C dx w (i+x~)))
def rX:aC ["self","letters"] ["self"] (ao qA):=eU
def wZ {C:J}{f:J}{fd:RZ}(F:cD K "name" "Reader.name" qA f fd)(R5:lE K C)(m_len:mg "len"=Z)(cL:pJ mg "LETTERS" kJ)(cM:mI mg "MOST_LETTERS" 8)(ST:bN P w K mg base C "stretch" ["self","signs"] 2 (ju C)):aY P w K mg base dq 3 f fd ["self"] (i4 C):=by
 #F.iU rX λcdv A outer s H vs Q E hr h=>?_
 @⟨r,dx,w,i,x,l,rfl,cW,hi,hw,hx,hl,hh,q⟩:=h
 !x1:=hx.l1
 !x8:=hx.l8
 !rj:x.cps.toList≠[]:=λz=>by
   !:=bP x
   rw[z]at this
   simp at this
   lia
 #ig ⟨_,(Wv (Wy 1 rX.nd (Xs (Y 0) R5.c ST hr (L (WU (w:=.str kJ) U cL.choose_spec ⟨_,U⟩) M)))
   (Wv (WB (WV (Xq (Wx WL (Y 1) Wu) (XA (Wx Xi (WJ L3.mL U m_len RG (L (Y 1) M)) (WU (w:=.int 8) U cM.choose_spec ⟨_,rfl⟩))))) XI WE)
   (Ww (WC (Y 1))))),?_⟩
 #aq λRk kR=>?_
 #⟨_,U,r,dx,_,U,cW,U,r,dx,w,kJ,i,x.cps.toList,l,U,cW,hi,hw,hl,(λc hc=>mn.mpr (hx.lt c hc)),hh,?_⟩
 rw[bP]
 #ak (kR _ _ ?_)
 #aw [S (.ref r),S (.str x)] (by rw[oo];rfl) ?_
 #aq λRk kR=>?_
 #⟨_,U,U,_,U,?_⟩
 #bc (gv (by !:=fX rj;rw[oo]at this;#this)) ?_
 #⟨_,U,_,U,Ry x8 (by left),_,_,U,U,_,U,?_⟩
 #bc (gv (by lia)) ?_
 #kR _ _ ⟨_,U,q⟩
def tM {C:J}(s:cj K C "name" "Reader.name" qA)(R5:lE K C)(m_len:mg "len"=Z)(cL:pJ mg "LETTERS" kJ)(cM:mI mg "MOST_LETTERS" 8)(ST:bN P w K mg base C "stretch" ["self","signs"] 2 (ju C)):bN P w K mg base C "name" ["self"] 3 (i4 C):=
 let⟨f,fd,F,m⟩:=s
 ⟨f,fd,wZ F R5 m_len cL cM ST,lG F λz z z z z z z=>rfl,m⟩
abbrev BD:Stmt:=top 38
def bN.mono {C:J}{m:Str}{ps:O Str}{j k:Nat}{sp:Sp}(h:bN P w K mg base C m ps j sp)(hk:j<=k):bN P w K mg base C m ps k sp:=by@⟨f,fd,a,b,c⟩:=h;#⟨f,fd,a.mono hk,b,c⟩
def E.cps (e:E):O Nat:=e.txt.cps.toList
def Stop (l:O Nat):Prop:=∀c,l.head?=S c->¬ (48<=c/\c<=57)/\¬ (97<=c/\c<123)
inductive E.Atom:E->Prop
 | num {n:Int}:E.Atom (.num n)
 | box {t x:Str}:E.Atom (.box t x)
def r9 (C:J):Sp:=λvs H Q z=>∃(r dx:J) (w:Str) (i:Nat) (e:E) (l:O Nat),vs=[.ref r]/\H r=S (bK C dx w i)/\i<=w~/\w~<=sizeLine/\e.Atom/\e.okN df/\aA w i=e.cps++l/\Stop l/\∀(v:V) (H':Hp),Kp r H H'->H' r=S (bK C dx w (i+e.cps~))->cJ H' v e->Q v H'
def AB:aC ["reader"] ["reader"] (ao xP):=eU
def wX {C:J}{f:J}{fd:RZ}(F:cD K "read_atom" "read_atom" xP f fd)(R5:lE K C)(cF:pJ mg "FIGURES" m5)(SI0:bN P w K mg base C "sign" ["self"] 1 (bW C))(NU0:bN P w K mg base C "number" ["self"] 3 (lh C))(NA0:bN P w K mg base C "name" ["self"] 3 (i4 C)):aY P w K mg base dq 4 f fd ["reader"] (r9 C):=by
 #F.iU AB λcdv A outer s H vs Q E hr h=>?_
 !SI:=SI0.mono (show 1<=3 by left)
 !NU:=NU0
 !NA:=NA0
 @⟨r,dx,w,i,e,l,rfl,cW,hi,hw,iG,ok,hl,st,q⟩:=h
 #ig ⟨_,(Wv (WB (WV (WX (Wx Xn (W5 (Y 0) R5.c SI hr) Wu) (W6 (Wx L3.wO (W5 (Y 0) R5.c SI hr) (WU (w:=.str m5) U cF.choose_spec ⟨_,U⟩) U)))) (Ww (WC (WH (L Wu (L (W5 (Y 0) R5.c NU hr) M))))) WE)
   (Ww (WC (WH (L Wu (L (W5 (Y 0) R5.c NA hr) M)))))),?_⟩
 #aq λRk kR=>?_
 #⟨_,U,r,dx,_,U,cW,U,r,dx,w,i,U,cW,hi,hw,U,_,U,?_⟩
 cases iG with
 | @num n=>
   have hn:0<=n/\n<10^30:=ok
   have hl:aA w i=dU n++l:=hl
   cases e:dU n with
   | nil=>#au e (jP hn.1)
   | cons c l'=>
     have hc:=eO hn.1 c (by rw[e];#Ru)
     have h1:(aA w i).take 1=[c]:=by rw[hl,e];rfl
     rw[h1]
     #aG (λy=>?_) (λz=>au (by rw[gv (fX (l:=[c]) (λz=>nomatch z))];rfl) z)
     #⟨_,U,r,dx,_,U,cW,U,r,dx,w,i,U,cW,hi,hw,_,_,U,U,_,U,?_⟩
     rw[h1,nj,hW (iQ.mpr hc)]
     #b6 ?_
     #⟨_,U,r,dx,_,U,cW,U,r,dx,w,i,n,l,U,cW,hi,hw,hn,hl,(λc hc=>λz=>(st c hc).1 (iQ.mp z)),YK,λp hp=>?_⟩
     !pr:p≠r:=λz=>by rw[z,ae]at hp;cases hp
     #q (.ref p) _ ((Kp.refl H).self.new hp) (by rw[ah pr.symm,ae];rfl) ⟨p,U,ae⟩
 | @box tg x=>
   obtain⟨rfl,hx⟩ : tg="box"/\df x:=ok
   !hl:aA w i=x.cps.toList++l:=hl
   suffices go:Rk [S (.ref r)] H by
     cases e:x.cps.toList with
     | nil=>#au (bP x) (by rw[e];!:=hx.l1;simp;lia)
     | cons c l'=>
       have hc:=hx.lt c (by rw[e];#Ru)
       have h1:(aA w i).take 1=[c]:=by rw[hl,e];rfl
       rw[h1]
       #aG (λy=>?_) (λz=>cb go)
       #⟨_,U,r,dx,_,U,cW,U,r,dx,w,i,U,cW,hi,hw,_,_,U,U,_,U,?_⟩
       rw[h1,nj,gv (λz=>by !:=iQ.mp z;lia)]
       #cb go
   #kR _ _ ?_
   #⟨_,U,r,dx,_,U,cW,U,r,dx,w,i,x,l,U,cW,hi,hw,hx,hl,(λc hc=>λz=>(st c hc).2 (mn.mp z)),YK,λp hp=>?_⟩
   !pr:p≠r:=λz=>by rw[z,ae]at hp;cases hp
   #q (.ref p) _ ((Kp.refl H).self.new hp) (by rw[ah pr.symm,ae,show(TW.E.box "box" x).cps.length=x~ from bP x]) ⟨p,U,ae⟩
def K2.sg:K2->Nat
 | .plus=>43|.less=>45|.same=>61|.under=>60|.both=>38
def K2.rY (k:K2):k.sign=SN [k.sg]:=by cases k<;>decide +kernel
def bM (a b:Str):(a++b).cps.toList=a.cps.toList++b.cps.toList:=by
 change(a.cps++b.cps).toList=_
 simp
structure iF (e:E):Prop where
 is:e.vX
 ok:e.okN df
def iF.cases {e:E}(h:iF e):e.Atom\/∃k a b,(k=.plus\/k=.less)/\e=.two k a b/\iF a/\iF b:=by
 @⟨is,ok⟩:=h
 match e,is,ok with
 | .num _,_,_=>#.inl .num
 | .box _ _,_,_=>#.inl .box
 | .two .plus a b,is,ok=>#.inr ⟨_,a,b,.inl rfl,rfl,⟨is.1,ok.1⟩,⟨is.2,ok.2⟩⟩
 | .two .less a b,is,ok=>#.inr ⟨_,a,b,.inr rfl,rfl,⟨is.1,ok.1⟩,⟨is.2,ok.2⟩⟩
def GR:("(":Str).cps.toList=[40]:=by right
def Ia:(")":Str).cps.toList=[41]:=by right
def jJ {k:K2}{a b:E}(h:k=.plus\/k=.less):(E.two k a b).cps=40::(a.cps++(k.sg::(b.cps++[41]))):=by
 !e:(E.two k a b).txt="("++(a.txt++k.sign++b.txt)++")":=by rcases h with rfl|rfl<;>rfl
 unfold E.cps
 rw[e,bM,bM,bM,bM,GR,Ia,k.rY,eV]
 simp
def eJ {e:E}(h:e.Atom)(ok:e.okN df)(l:O Nat):∃c r,e.cps++l=c::r/\((48<=c/\c<=57)\/(97<=c/\c<123)):=by
 cases h with
 | @num n=>
   have hn:0<=n/\n<10^30:=ok
   cases e:dU n with
   | nil=>#au e (jP hn.1)
   | cons c r=>#⟨c,r++l,by change dU n++l=_;rw[e];rfl,.inl (eO hn.1 c (by rw[e];#Ru))⟩
 | @box t x=>
   have hx:df x:=ok.2
   cases e:x.cps.toList with
   | nil=>#au (bP x) (by rw[e];!:=hx.l1;simp;lia)
   | cons c r=>#⟨c,r++l,by change x.cps.toList++l=_;rw[e];rfl,.inr (hx.lt c (by rw[e];#Ru))⟩
inductive Fr where
 | L8 (k:K2) (b:E)|R (k:K2) (a:E)
def D4:O Fr->E->E
 | [],e=>e
 | .L8 k b::fs,e=>D4 fs (.two k e b)
 | .R k a::fs,e=>D4 fs (.two k a e)
def pend:O Fr->O Nat
 | []=>[]
 | .L8 k b::fs=>k.sg::(b.cps++(41::pend fs))
 | .R _ _::fs=>41::pend fs
theorem kQ:∀fs:O Fr,fs~<=(pend fs)~
 | []=>Rz _
 | .L8 k b::fs=>by
   !:=kQ fs
   change fs~+1<=(k.sg::(b.cps++(41::pend fs)))~
   simp only[RE,Rx]
   lia
 | .R _ _::fs=>Nat.succ_le_succ (kQ fs)
def j7 (H:Hp):Fr->V->Prop
 | .L8 _ _,v=>v=.bI
 | .R k a,v=>∃u,Tp H v [.str k.str,u]/\cJ H u a
theorem j7.keep {H H':Hp}(k:TK H H'):∀{f:Fr} {v:V},j7 H f v->j7 H' f v
 | .L8 _ _,_,h=>h
 | .R _ _,_,⟨u,a,b⟩=>⟨u,a.keep k,b.keep k⟩
def LL:Fr->Prop
 | .L8 k b=>(k=.plus\/k=.less)/\iF b
 | .R k a=>(k=.plus\/k=.less)/\iF a
def uM {l:O Nat}(hl:Stop l):∀{fs:O Fr},(∀f∈fs,LL f)->Stop (pend fs++l)
 | [],_=>hl
 | .L8 k b::fs,h=>λc hc=>by
   !e:c=k.sg:=by
     !:S k.sg=S c:=hc
     injection this with this
     #this.symm
   !hk:=(h _ Ru).1
   rw[e]
   rcases hk with rfl|rfl<;>#⟨by left,by left⟩
 | .R _ _::fs,h=>λc hc=>by
   !e:c=41:=by
     !:S 41=S c:=hc
     injection this with this
     #this.symm
   rw[e]
   #⟨by left,by left⟩
def oP {α:Type}(xs:O α)(v:α):uX (xs++[v])~ (-1)=S xs~:=by
 rw[Rx,Sj]
 unfold uX
 rw[dh (by left),dI (by lia)]
 congr 1
 lia
def pf {α:Type}(xs:O α)(v y:α):(xs++[v]).set xs~ y=xs++[y]:=by
 rw[List.set_append_right _ _ (Rz _),Vu]
 rfl
def kC {α:Type}(xs:O α)(v:α):(xs++[v])[(xs++[v])~-1]?=S v:=by
 rw[Rx,Sj,Nat.add_sub_cancel,Uk (Rz _),Vu]
 rfl
theorem Paired.imp {α β:Type}{F G:α->β->Prop}(k:∀x y,F x y->G x y):∀{a:O α} {b:O β},Paired F a b->Paired G a b
 | _,_,.nil=>.nil
 | _,_,.cons r t=>.cons (k _ _ r) (Paired.imp k t)
def bC {H:Hp}{B:J}{o o2:HO}(h:H B=S o)(n:∀xs,o≠.tup xs):TK H (upd H B o2):=λb xs e=>by
 rw[ah (λz=>by rw[z,h]at e;#n xs (Sa e))]
 #e
def C2:("(":Str)=SN [40]:=by right
def En:(")":Str)=SN [41]:=by right
abbrev Jp:O (Str×V):=[("+",.str "plus"),("-",.str "less")]
def se {k:K2}(h:k=.plus\/k=.less):Jp.lookup (SN [k.sg])=S (.str k.str):=by
 rcases h with rfl|rfl<;>decide +kernel
def lq (C:J):Sp:=λvs H Q z=>∃(r dx:J) (w:Str) (i:Nat) (e:E) (l:O Nat),vs=[.ref r]/\H r=S (bK C dx w i)/\i<=w~/\w~<=4000/\iF e/\aA w i=e.cps++l/\Stop l/\∀(v:V) (H':Hp),Kp r H H'->H' r=S (bK C dx w (i+e.cps~))->cJ H' v e->Q v H'
structure j9 (C r dx B:J)(w:Str)(H:Hp)(e0:E)(l:O Nat)(Hx:Hp)(j:Nat)(e:E)(fs:O Fr)(us:O V):Prop where
 rd:Hx r=S (bK C dx w j)
 jl:j<=w~
 bg:Hx B=S (.lst us.reverse)
 pr:Paired (j7 Hx) fs us
 fg:∀f∈fs,LL f
 eg:iF e
 pl:D4 fs e=e0
 kp:Kp r H Hx
def nV:aC ["reader","begun","told"] ["reader"] (ao BD):=eU
def zQ {C Cb:J}{f:J}{fd:RZ}(F:cD K "read_sum" "read_sum" BD f fd)(R5:lE K C)(m_len:mg "len"=Z)(hSS:mg "SIGN_SUMS"=S (.ref Cb))(dSS:eG w K Cb Jp)(SI0:bN P w K mg base C "sign" ["self"] 1 (bW C))(TA0:bN P w K mg base C "taken" ["self","sign"] 2 (fP C))(DU0:bN P w K mg base C "due" ["self","sign"] 3 (lg C))(RA0:b7 P w K mg base "read_atom" ["reader"] 4 (r9 C)):aY P w K mg base dq 6 f fd ["reader"] (lq C):=by
 #F.iU nV λcdv A outer s H vs Q E hr h=>?_
 !SI:=SI0.mono (show 1<=5 by left)
 !TA:=TA0.mono (show 2<=5 by left)
 !DU:=DU0.mono (show 3<=5 by left)
 !RA:=RA0.mono (show 4<=5 by left)
 @⟨r,dx,w,i,e0,l,rfl,cW,hi,vT,g0,hl,st,q⟩:=h
 !hw:w~<=sizeLine:=Ry vT (by left)
 #ig ⟨_,(Wv (Wy 1 nV.nd (WD M))
   (Ww (Xo (Xx Xe) (Wv (Xo (Xx (Xs (Y 0) R5.c TA hr (L Wu M))) (Ww (W0 (Xt (Y 1) (L XD M)))))
   (Wv (Wy 2 nV.nd (WA RA hr U (L (Y 0) M)))
   (Wv (Xo (WV (WX (Wx Xi (WJ WO U m_len RG (L (Y 1) M)) Ws) (W6 (Wx L3.wQ (Wz WK (Y 1) (XB Ws)) XD)))) (Wv (W0 (Xs (Y 0) R5.c DU hr (L Wu M)))
   (Ww (Wy 2 nV.nd (Wt L3.ql (L3.Ht (Y 1)) (WH (L (Y 2) M)))))))
   (Wv (WB (Wx WL (WJ WO U m_len RG (L (Y 1) M)) Ws) (Ww (WC (Y 2))) WE)
   (Wv (WB (Wx L3.C9 (W5 (Y 0) R5.c SI hr) (WU (w:=.ref Cb) U hSS rfl) U) XI WE)
   (Wv (Xj (WH (L (L3.kg (WU (w:=.ref Cb) U hSS rfl) (W5 (Y 0) R5.c SI hr)) (L (Y 2) M))) (L3.A4 (Y 1) (XB Ws)))
   (Ww (XC (Y 0) Ws))))))))))),?_⟩
 #aq λRk kR=>?_
 #⟨YI,λB hB=>?_⟩
 !Br:B≠r:=λz=>by rw[z,cW]at hB;cases hB
 #ak (kR _ _ ?_)
 #⟨λ(d:Nat) (σ:L2.St) (Hx:Hp)=>∃(o2:Option V) (j:Nat) (e:TW.E) (fs:O Fr) (us:O V),σ=[S (.ref r),S (.ref B),o2]/\d=w~-j/\j9 C r dx B w H e0 l Hx j e fs us/\aA w j=e.cps++(pend fs++l),⟨w~-i,Z,i,e0,[],[],U,U,⟨by rw[ah Br.symm];#cW,hi,ae,.nil,(λf hf=>nomatch hf),g0,U,(Kp.refl H).new hB⟩,hl⟩,λd σ Hx z=>?_⟩
 @⟨o2,j,e,fs,us,rfl,rfl,S8x,aN⟩:=z
 #⟨_,U,b6 ⟨λσ' H'=>∃d',d'<w~-j/\(λ(d:Nat) (σ:L2.St) (Hx:Hp)=>∃(o2:Option V) (j:Nat) (e:TW.E) (fs:O Fr) (us:O V),σ=[S (.ref r),S (.ref B),o2]/\d=w~-j/\j9 C r dx B w H e0 l Hx j e fs us/\aA w j=e.cps++(pend fs++l)) d' σ' H',λσ' H' z=>z,?_⟩⟩
 #aq λRk kR=>?_
 #⟨λ(d:Nat) (σ:L2.St) (Hx:Hp)=>∃(o2:Option V) (j':Nat) (e:TW.E) (fs:O Fr) (us:O V),σ=[S (.ref r),S (.ref B),o2]/\d=w~-j'/\j<=j'/\j9 C r dx B w H e0 l Hx j' e fs us/\aA w j'=e.cps++(pend fs++l),⟨w~-j,o2,j,e,fs,us,U,U,Rz _,S8x,aN⟩,λd σ Hy z=>?_⟩
 @⟨o2,j',e,fs,us,rfl,rfl,jj,S8x,aN⟩:=z
 !ul:=Paired.length S8x.pr
 !Of:fs~<=w~:=by
   !h1:=kQ fs
   !h2:=dO w j'
   rw[aN,Rx,Rx]at h2
   lia
 #⟨_,U,r,dx,_,U,S8x.rd,U,r,dx,w,j',40,congrArg (λz=>[V.ref r,V.str z]) C2,S8x.rd,S8x.jl,hw,?_⟩
 rcases S8x.eg.cases with iG|⟨k,a,b,hk,rfl,ga,gb⟩
 . @⟨c,r',hc,hd⟩:=eJ iG S8x.eg.ok (pend fs++l)
   #.inr ⟨λz=>?_,_,U,cb ?_⟩
   . rw[aN,hc]at z
     !:S c=S 40:=z
     injection this with this
     lia
   #kR _ _ (aq λRk kR=>?_)
   #⟨_,U,r,dx,w,j',e,pend fs++l,U,S8x.rd,S8x.jl,hw,iG,S8x.eg.ok,aN,uM st S8x.fg,λv Ha ka ra ev=>?_⟩
   !JM:0<e.cps~:=by
     @⟨c1,r1,h1,h2⟩:=eJ iG S8x.eg.ok []
     rw[RY]at h1
     rw[h1]
     #S8 _
   @⟨oN,lL⟩:=dy aN S8x.jl
   #ak (kR _ _ ?_)
   #aw [S (.ref r),S (.ref B),S v] U ?_
   !SA:j9 C r dx B w H e0 l Ha (j'+e.cps~) e fs us:=⟨ra,lL,ka _ _ S8x.bg Br,Paired.imp (λf u z=>j7.keep (Kp.rd ka S8x.rd) z) S8x.pr,S8x.fg,S8x.eg,S8x.pl,S8x.kp.trans ka⟩
   obtain⟨j0,N7⟩ : ∃j0,j0=j:=⟨_,rfl⟩
   #aq λRk kR=>?_
   #⟨λ(d:Nat) (σ:L2.St) (Hx:Hp)=>∃(v:V) (j:Nat) (e:TW.E) (fs:O Fr) (us:O V),σ=[S (.ref r),S (.ref B),S v]/\d=fs~/\j9 C r dx B w H e0 l Hx j e fs us/\aA w j=pend fs++l/\cJ Hx v e/\j0<j,⟨fs~,v,_,e,fs,us,U,U,SA,oN,ev,by lia⟩,λd σ Hz z=>?_⟩
   @⟨v,j2,e,fs,us,rfl,rfl,S8x,aN,ev,MI⟩:=z
   !ul:=Paired.length S8x.pr
   !lO:us.reverse~=fs~:=by rw[TV,← ul]
   #⟨_,U,B,_,U,.inl (aH.of S8x.bg),_,_,U,U,_,U,?_⟩
   match fs,us,S8x,aN,ul,lO with
   | [],[],S8x,aN,ul,lO=>
     #bc (by left) (cb ?_)
     #kR _ _ (aq λRk kR=>?_)
     #⟨_,U,B,_,U,.inl (aH.of S8x.bg),U,_,U,?_⟩
     #b6 ?_
     !e1:e=e0:=S8x.pl
     !hj:j2=i+e0.cps~:=by
       !h1:=dO w j2
       !h2:=dO w i
       rw[aN]at h1
       rw[hl,Rx]at h2
       !h1:l~=w~-j2:=h1
       !:=S8x.jl
       lia
     #⟨_,U,q v Hz S8x.kp (by rw[← hj];#S8x.rd) (by rw[← e1];#ev)⟩
   | .R k a::fs,u::us,S8x,aN,ul,lO=>
     obtain⟨va,⟨pa,rfl,CJ⟩,ea⟩ : j7 Hz (.R k a) u:=by cases S8x.pr with|cons h _=>show h
     !Ak:Paired (j7 Hz) fs us:=by cases S8x.pr with|cons _ h=>show h
     !tJ:(k=.plus\/k=.less)/\iF a:=S8x.fg _ Ru
     !bg:=S8x.bg
     rw[Sk]at bg
     rw[Sk]
     #aG (λy=>?_) (λz=>au (hW (by rw[Rx,Sj];lia)) z)
     #⟨_,U,_,U,?_⟩
     #cH bg (dB _ _) ?_
     #⟨U,_,U,?_⟩
     #aG (λy=>?_) (λz=>au U z)
     #⟨λσ' H'=>∃d',d'<fs~+1/\(λ(d:Nat) (σ:L2.St) (Hx:Hp)=>∃(v:V) (j:Nat) (e:TW.E) (fs:O Fr) (us:O V),σ=[S (.ref r),S (.ref B),S v]/\d=fs~/\j9 C r dx B w H e0 l Hx j e fs us/\aA w j=pend fs++l/\cJ Hx v e/\j0<j) d' σ' H',λσ' H' z=>z,?_⟩
     #aq λuU kR2=>?_
     !aN:aA w j2=41::(pend fs++l):=aN
     @⟨p7,pZ⟩:=bV aN
     #⟨_,U,r,dx,_,U,S8x.rd,U,r,dx,w,j2,41,_,congrArg (λz=>[V.ref r,V.str z]) En,S8x.rd,S8x.jl,hw,aN,?_⟩
     !sF:TK Hz (upd Hz r (bK C dx w (j2+1))):=bC S8x.rd (λy z=>nomatch z)
     !jf:(upd Hz r (bK C dx w (j2+1))) B=S (.lst (us.reverse++[.ref pa])):=by rw[ah Br];#bg
     !pC:(upd Hz r (bK C dx w (j2+1))) r=S (bK C dx w (j2+1)):=ae
     !kp1:Kp r H (upd Hz r (bK C dx w (j2+1))):=S8x.kp.self
     generalize upd Hz r (bK C dx w (j2+1))=H3 at sF jf pC kp1 ⊢
     #kR2 _ _ ?_
     #⟨_,U,.inl ⟨U,_,aH.of jf⟩,B,_,_,U,U,jf,kC _ _,_,U,YJ,λq1 lF=>?_⟩
     rw[U2]at lF ⊢
     !yB:TK H3 (upd H3 B (.lst us.reverse)):=bC jf (λy z=>nomatch z)
     !Bv:(upd H3 B (.lst us.reverse)) r=S (bK C dx w (j2+1)):=by rw[ah Br.symm];#pC
     !AY:(upd H3 B (.lst us.reverse)) B=S (.lst us.reverse):=ae
     !rF:Kp r H (upd H3 B (.lst us.reverse)):=λb o hb nb=>by rw[ah (ag hb hB)];#kp1 b o hb nb
     generalize upd H3 B (.lst us.reverse)=H4 at yB Bv AY rF lF ⊢
     !s5:=af lF (.tup [v])
     !g5:(upd H4 q1 (.tup [v])) q1=S (.tup [v]):=ae
     generalize upd H4 q1 (.tup [v])=H5 at s5 g5 ⊢
     !tk5:=(sF.trans yB).trans (ai.tk s5)
     #⟨pa,q1,_,_,U,U,bS.of (tk5 _ _ CJ),bS.of g5,(λz=>nomatch z),YL,(λz=>nomatch z),λy p hp=>?_⟩
     !s6:=af hp (.tup [.str k.str,va,v])
     !og:=tk5.trans (ai.tk s6)
     #ak ?_
     #⟨fs~,Tq _,.ref p,j2+1,.two k a e,fs,us,rfl,rfl,⟨s6 _ _ (s5 _ _ Bv),by lia,s6 _ _ (s5 _ _ AY),Paired.imp (λf u z=>j7.keep og z) Ak,λf hf=>S8x.fg f (RC _ hf),⟨by rcases tJ.1 with rfl|rfl<;>#⟨tJ.2.is,S8x.eg.is⟩,tJ.2.ok,S8x.eg.ok⟩,S8x.pl,(rF.same s5).same s6⟩,p7,⟨va,v,⟨p,rfl,ae⟩,ea.keep og,ev.keep og⟩,by lia⟩
   | .L8 k b::fs,u::us,S8x,aN,ul,lO=>
     have hu:u=.bI:=by cases S8x.pr with|cons h _=>show h
     have Ak:Paired (j7 Hz) fs us:=by cases S8x.pr with|cons _ h=>show h
     have tJ:(k=.plus\/k=.less)/\iF b:=S8x.fg _ Ru
     have bg:=S8x.bg
     rw[Sk]at bg
     rw[Sk]
     #aG (λy=>?_) (λz=>au (hW (by rw[Rx,Sj];lia)) z)
     #⟨_,U,_,U,?_⟩
     #cH bg (dB _ _) ?_
     #⟨U,_,U,?_⟩
     rw[hu]
     #bc (by left) ?_
     #kR _ _ (aq λRk kR=>?_)
     rw[hu]at bg
     #⟨_,U,B,_,U,.inl (aH.of bg),U,_,U,?_⟩
     #bc (gv (λz=>by injection z with z;rw[Rx,Sj]at z;lia)) ?_
     #kR _ _ ?_
     !aN:aA w j2=k.sg::(b.cps++(41::pend fs)++l):=by rw[aN];simp[pend]
     @⟨p7,pZ⟩:=bV aN
     !h1:(aA w j2).take 1=[k.sg]:=by rw[aN];rfl
     #aq λRk kR=>?_
     #⟨_,U,r,dx,_,U,S8x.rd,U,r,dx,w,j2,U,S8x.rd,S8x.jl,hw,_,Cb,Jp,U,U,dSS,_,U,?_⟩
     rw[h1,se tJ.1]
     #bc U ?_
     #kR _ _ (aq λRk kR=>?_)
     #⟨_,U,r,dx,_,U,S8x.rd,U,r,dx,w,j2,U,S8x.rd,S8x.jl,hw,Cb,_,.str k.str,Jp,U,U,dSS,by rw[h1];#se tJ.1,_,U,YK,λq1 lF=>?_⟩
     !s5:=af lF (.tup [.str k.str,v])
     !g5:(upd Hz q1 (.tup [.str k.str,v])) q1=S (.tup [.str k.str,v]):=ae
     generalize upd Hz q1 (.tup [.str k.str,v])=H5 at s5 g5 ⊢
     !FJ:=s5 _ _ bg
     #⟨_,U,_,U,B,_,_,_,U,U,FJ,oP _ _,?_⟩
     rw[pf]
     !og:TK H5 (upd H5 B (.lst (us.reverse++[.ref q1]))):=bC FJ (λy z=>nomatch z)
     !Ei:(upd H5 B (.lst (us.reverse++[.ref q1]))) r=S (bK C dx w j2):=by rw[ah Br.symm];#s5 _ _ S8x.rd
     !FK:(upd H5 B (.lst (us.reverse++[.ref q1]))) B=S (.lst (us.reverse++[.ref q1])):=ae
     !GP:Kp r H (upd H5 B (.lst (us.reverse++[.ref q1]))):=λb o hb nb=>by rw[ah (ag hb hB)];#s5 _ _ (S8x.kp b o hb nb)
     generalize upd H5 B (.lst (us.reverse++[.ref q1]))=H6 at og Ei FK GP ⊢
     #kR _ _ ?_
     #⟨_,U,r,C,dx,_,_,U,Ei,R5.c,R5.p,U,_,_,U,U,dx,_,Ei,(by change 2<1000;decide),?_⟩
     !Nk:TK H6 (upd H6 r (bK C dx w (j2+1))):=bC Ei (λy z=>nomatch z)
     !tk:=((ai.tk s5).trans og).trans Nk
     !Lr:=og.trans Nk
     #⟨w~-(j2+1),by lia,S v,j2+1,b,.R k e::fs,.ref q1::us,U,U,⟨ae,by lia,?_,?_,?_,tJ.2,S8x.pl,GP.self⟩,?_⟩
     . rw[Sk]
       #(ah Br).trans FK
     . #.cons ⟨v,⟨q1,U,Lr _ _ g5⟩,ev.keep tk⟩ (Paired.imp (λf u z=>j7.keep tk z) Ak)
     . intro f hf
       rcases cv hf with z|z
       . rw[z];#⟨tJ.1,S8x.eg⟩
       . #S8x.fg f (RC _ z)
     . rw[p7,SK]
       rfl
 . !aN:aA w j'=40::(a.cps++(pend (.L8 k b::fs)++l)):=by
     rw[aN,jJ hk]
     simp[pend]
   @⟨p7,pZ⟩:=bV aN
   #.inl ⟨_,aN,_,U,b6 ⟨λσ' H'=>∃d',d'<w~-j'/\∃(o2:Option V) (j':Nat) (e:TW.E) (fs:O Fr) (us:O V),σ'=[S (.ref r),S (.ref B),o2]/\d'=w~-j'/\j<=j'/\j9 C r dx B w H e0 l H' j' e fs us/\aA w j'=e.cps++(pend fs++l),λσ' H' z=>z,?_⟩⟩
   !sF:TK Hy (upd Hy r (bK C dx w (j'+1))):=bC S8x.rd (λy z=>nomatch z)
   !jf:(upd Hy r (bK C dx w (j'+1))) B=S (.lst us.reverse):=by rw[ah Br];#S8x.bg
   !pC:(upd Hy r (bK C dx w (j'+1))) r=S (bK C dx w (j'+1)):=ae
   !kp1:Kp r H (upd Hy r (bK C dx w (j'+1))):=S8x.kp.self
   generalize upd Hy r (bK C dx w (j'+1))=H3 at sF jf pC kp1 ⊢
   !yB:TK H3 (upd H3 B (.lst (us.reverse++[.bI]))):=bC jf (λy z=>nomatch z)
   #⟨_,U,.inl ⟨U,_,aH.of jf⟩,B,_,_,U,U,jf,Tv (show _<=4000 by rw[TV];lia) (by left),?_⟩
   #⟨w~-(j'+1),by lia,o2,j'+1,a,.L8 k b::fs,.bI::us,U,U,by lia,⟨(ah Br.symm).trans pC,by lia,?_,.cons rfl (Paired.imp (λf u z=>j7.keep (sF.trans yB) z) S8x.pr),?_,ga,S8x.pl,λb o hb nb=>by rw[ah (ag hb hB)];#kp1 b o hb nb⟩,p7⟩
   . rw[Sk]
     #ae
   . intro f hf
     rcases cv hf with z|z
     . rw[z];#⟨hk,gb⟩
     . #S8x.fg f z
abbrev qD:Stmt:=top 39
def iD (l:O Nat):Prop:=∀c,l.head?=S c->¬ (48<=c/\c<=57)/\¬ (97<=c/\c<123)/\c≠61/\c≠60
def iD.one {l:O Nat}(h:iD l):Stop l:=λc hc=>⟨(h c hc).1,(h c hc).2.1⟩
inductive E.sJ:E->Prop
 | yes:E.sJ .yes
 | same {a b:E}:E.sJ (.two .same a b)
 | under {a b:E}:E.sJ (.two .under a b)
structure dW (e:E):Prop where
 is:e.Fh
 ok:e.okN df
abbrev BQ:O (Str×V):=[("=",.str "same"),("<",.str "under")]
def sh {l:O Nat}(h:iD l):BQ.lookup (SN (l.take 1))=Z:=by
 !e1:("=":Str)=SN [61]:=by right
 !e2:("<":Str)=SN [60]:=by right
 !n1:SN (l.take 1)≠"=":=λz=>by
   rw[e1]at z
   !z:=gW z
   cases l with
   | nil=>cases z
   | cons c r=>
     injection z with z _
     #(h c rfl).2.2.1 z
 !n2:SN (l.take 1)≠"<":=λz=>by
   rw[e2]at z
   !z:=gW z
   cases l with
   | nil=>cases z
   | cons c r=>
     injection z with z _
     #(h c rfl).2.2.2 z
 rw[Tj,beq_eq_false_iff_ne.mpr n1,Tj,beq_eq_false_iff_ne.mpr n2]
 rfl
def sf {k:K2}(h:k=.same\/k=.under):BQ.lookup (SN [k.sg])=S (.str k.str):=by
 rcases h with rfl|rfl<;>decide +kernel
def nz:df "yes":=⟨by left,by left,by right⟩
def eK {k:K2}{a b:E}(h:k=.same\/k=.under):(E.two k a b).cps=a.cps++(k.sg::b.cps):=by
 !e:(E.two k a b).txt=a.txt++k.sign++b.txt:=by rcases h with rfl|rfl<;>rfl
 unfold E.cps
 rw[e,bM,bM,k.rY,eV]
 simp
def nW:aC ["reader","told","kind"] ["reader"] (ao qD):=eU
abbrev qy:Stmt:=top 40
def wH {a b c:Expr}{p:Pos}:bL (.IfExp a b c p):=⟨λz z=>rfl⟩
def dW.cases {e:E}(h:dW e):e.sJ\/(∃a,e=.nt a/\dW a)\/∃a b,e=.two .both a b/\dW a/\dW b:=by
 @⟨is,ok⟩:=h
 match e,is,ok with
 | .yes,_,_=>#.inl .yes
 | .two .same _ _,_,_=>#.inl .same
 | .two .under _ _,_,_=>#.inl .under
 | .nt a,is,ok=>#.inr (.inl ⟨a,rfl,is,ok⟩)
 | .two .both a b,is,ok=>#.inr (.inr ⟨a,b,rfl,⟨is.1,ok.1⟩,⟨is.2,ok.2⟩⟩)
def GW:("!":Str).cps.toList=[33]:=by right
def GQ:("{":Str).cps.toList=[123]:=by right
def HX:("}":Str).cps.toList=[125]:=by right
def FH:("&":Str).cps.toList=[38]:=by right
def vk {a:E}:(E.nt a).cps=33::a.cps:=by
 unfold E.cps
 rw[show(E.nt a).txt="!"++a.txt from rfl,bM,GW]
 rfl
def ow {a b:E}:(E.two .both a b).cps=123::(a.cps++(38::(b.cps++[125]))):=by
 !e:(E.two .both a b).txt="{"++(a.txt++"&"++b.txt)++"}":=rfl
 unfold E.cps
 rw[e,bM,bM,bM,bM,GQ,HX,FH]
 simp
def pj {e:E}(h:iF e)(l:O Nat):∃c r,e.cps++l=c::r/\c≠33/\c≠123:=by
 rcases h.cases with a|⟨k,a,b,hk,rfl,_,_⟩
 . @⟨c,r,e1,e2⟩:=eJ a h.ok l
   #⟨c,r,e1,by lia,by lia⟩
 . rw[jJ hk]
   #⟨40,_,U,by left,by left⟩
def mj {e:E}(h:e.sJ)(g:dW e)(l:O Nat):∃c r,e.cps++l=c::r/\c≠33/\c≠123:=by
 cases h with
 | yes=>#eJ (e:=.box "box" "yes") .box ⟨rfl,nz⟩ l |>.elim λc ⟨r,h1,h2⟩=>⟨c,r,h1,by lia,by lia⟩
 | @same a b=>
   rw[eK (.inl rfl),SK]
   #pj ⟨g.is.1,g.ok.1⟩ _
 | @under a b=>
   rw[eK (.inr rfl),SK]
   #pj ⟨g.is.1,g.ok.1⟩ _
inductive Fc where
 | N|L8 (b:E)|R (a:E)
def rM:O Fc->E->E
 | [],e=>e
 | .N::fs,e=>rM fs (.nt e)
 | .L8 b::fs,e=>rM fs (.two .both e b)
 | .R a::fs,e=>rM fs (.two .both a e)
def cg:O Fc->O Nat
 | []=>[]
 | .N::fs=>cg fs
 | .L8 b::fs=>38::(b.cps++(125::cg fs))
 | .R _::fs=>125::cg fs
def gu (H:Hp):Fc->V->Prop
 | .N,v=>Tp H v [.str "not"]
 | .L8 _,v=>v=.bI
 | .R a,v=>∃u,Tp H v [.str "both",u]/\cJ H u a
theorem gu.keep {H H':Hp}(k:TK H H'):∀{f:Fc} {v:V},gu H f v->gu H' f v
 | .N,_,h=>Tp.keep k h
 | .L8 _,_,h=>h
 | .R _,_,⟨u,a,b⟩=>⟨u,a.keep k,b.keep k⟩
def Nz:Fc->Prop
 | .N=>True
 | .L8 b=>dW b
 | .R a=>dW a
theorem lz {l:O Nat}(hl:iD l):∀{fs:O Fc},iD (cg fs++l)
 | []=>hl
 | .N::fs=>lz hl (fs:=fs)
 | .L8 b::fs=>λc hc=>by
   !e:c=38:=by
     !:S 38=S c:=hc
     injection this with this
     #this.symm
   rw[e]
   decide
 | .R _::fs=>λc hc=>by
   !e:c=125:=by
     !:S 125=S c:=hc
     injection this with this
     #this.symm
   rw[e]
   decide
def qi:("!":Str)=SN [33]:=by right
def C0:("{":Str)=SN [123]:=by right
def Eh:("}":Str)=SN [125]:=by right
def Ce:("&":Str)=SN [38]:=by right
def rB {c:Nat}:iN (.str (SN [c])) [.str "!",.str "{"]=(decide (c=33) || decide (c=123)):=by
 change((("!":Str)==SN [c]) || ((("{":Str)==SN [c]) || false))=_
 rw[qi,C0,Bool.or_false]
 !h:∀d:Nat,(SN [d]==SN [c])=decide (c=d):=λd=>by
   by_cases z:c=d
   . rw[z,beq_self_eq_true,hW rfl]
   . rw[beq_eq_false_iff_ne.mpr (λk=>z (by injection gW k with k _;#k.symm)),gv z]
 rw[h,h]
structure fq (C r dx B:J)(w:Str)(H:Hp)(e0:E)(l:O Nat)(Hx:Hp)(j:Nat)(e:E)(fs:O Fc)(us:O V):Prop where
 rd:Hx r=S (bK C dx w j)
 jl:j<=w~
 fl:fs~<=j
 bg:Hx B=S (.lst us.reverse)
 pr:Paired (gu Hx) fs us
 fg:∀f∈fs,Nz f
 eg:dW e
 pl:rM fs e=e0
 kp:Kp r H Hx
def fq.same {C r dx B:J}{w:Str}{H:Hp}{e0:E}{l:O Nat}{Hx Hy:Hp}{j:Nat}{e:E}{fs:O Fc}{us:O V}(h:fq C r dx B w H e0 l Hx j e fs us)(s:ai Hx Hy):fq C r dx B w H e0 l Hy j e fs us:=⟨s _ _ h.rd,h.jl,h.fl,s _ _ h.bg,Paired.imp (λf u z=>gu.keep (ai.tk s) z) h.pr,h.fg,h.eg,h.pl,h.kp.same s⟩
def jT:aC ["reader","begun","told"] ["reader"] (ao qy):=eU
abbrev qE:Stmt:=top 41
abbrev rS:Stmt:=top 42
def oi.mono {C:J}{x:Str}{ps:O Str}{j k:Nat}{sp:Sp}(h:oi P w K mg base x C ps j sp)(hk:j<=k):oi P w K mg base x C ps k sp:=by@⟨f,fd,a,b,c⟩:=h;#⟨f,fd,a.mono hk,b,c⟩
inductive Wd where
 | sum (e:E)|cond (e:E)|name (x:Str)|num (i:Int)
def Wd.kind:Wd->Str
 | .sum _=>"sum" | .cond _=>"condition" | .name _=>"name" | .num _=>"number"
def Wd.txt:Wd->Str
 | .sum e=>e.txt|.cond e=>e.txt|.name x=>x|.num i=>Rt (toString i)
def Wd.G:Wd->Prop
 | .sum e=>iF e/\e.txt~<=4000|.cond e=>dW e/\e.txt~<=4000|.name x=>df x|.num i=>0<=i/\i<10^30
def Wd.At (H:Hp)(v:V):Wd->Prop
 | .sum e=>cJ H v e|.cond e=>cJ H v e|.name x=>v=.str x|.num i=>v=.int i
theorem Wd.At.keep {H H':Hp}{v:V}(k:TK H H'):∀{d:Wd},d.At H v->d.At H' v
 | .sum e,h=>cJ.keep k h|.cond e,h=>cJ.keep k h|.name _,h=>h|.num _,h=>h
def Wd.len:∀{d:Wd},d.G->d.txt~<=4000
 | .sum _,h=>h.2|.cond _,h=>h.2|.name _,h=>Ry h.l8 (by left)|.num _,h=>Ry (bJ h) (by left)
def HZ (w:Str):aA w 0=w.cps.toList:=rfl
def Kp.all {r:J}{H H1 H2:Hp}(s:ai H H1)(hr:H r=Z)(k:Kp r H1 H2):ai H H2:=λb o h=>k b o (s b o h) (ag h hr)
def iX:aC ["kind","word","reader","told"] ["kind","word"] (ao qE):=eU
theorem E.kq:∀{e:E},e.okN df->∀c∈e.cps,33<=c
 | .num n,h,c,hc=>by !:=eO (n:=n) h.1 c hc;lia
 | .box _ x,h,c,hc=>by !:=h.2.lt c hc;lia
 | .yes,_,c,hc=>by !:=nz.lt c hc;lia
 | .nt a,h,c,hc=>by
   rw[vk]at hc
   rcases cv hc with rfl|hc
   . decide
   . #E.kq (e:=a) h c hc
 | .two k a b,h,c,hc=>by
   !ha:=E.kq (e:=a) h.1 c
   !hb:=E.kq (e:=b) h.2 c
   !key:∀k:K2,33<=k.sg:=λk=>by cases k<;>decide
   !kk:=key k
   !:(E.two k a b).cps=40::(a.cps++(k.sg::(b.cps++[41])))\/(E.two k a b).cps=a.cps++(k.sg::b.cps)\/(E.two k a b).cps=123::(a.cps++(k.sg::(b.cps++[125]))):=by
     cases k with
     | plus=>#.inl (jJ (.inl rfl))
     | less=>#.inl (jJ (.inr rfl))
     | same=>#.inr (.inl (eK (.inl rfl)))
     | under=>#.inr (.inl (eK (.inr rfl)))
     | both=>#.inr (.inr ow)
   rcases this with e|e|e<;>rw[e]at hc<;>simp only[Sh,List.mem_append,R4,or_false]at hc
   . rcases hc with rfl|hc|rfl|hc|rfl
     . decide
     . #ha hc
     . #kk
     . #hb hc
     . decide
   . rcases hc with hc|rfl|hc
     . #ha hc
     . #kk
     . #hb hc
   . rcases hc with rfl|hc|rfl|hc|rfl
     . decide
     . #ha hc
     . #kk
     . #hb hc
     . decide
def Wd.ge:∀{d:Wd},d.G->∀c∈d.txt.cps.toList,33<=c
 | .sum e,h,c,hc=>E.kq h.1.ok c hc
 | .cond e,h,c,hc=>E.kq h.1.ok c hc
 | .name x,h,c,hc=>by !:=df.lt h c hc;lia
 | .num i,h,c,hc=>by !:=eO (n:=i) h.1 c hc;lia
def jl (c:Nat):O (O Nat)->O Nat
 | []=>[]
 | [a]=>a
 | a::b::r=>a++c::jl c (b::r)
theorem eM (c:Nat):∀xs:O Str,(Td (SN [c]) xs).cps.toList=jl c (xs.map λx=>x.cps.toList)
 | []=>rfl
 | [x]=>rfl
 | x::y::r=>by
   change((x++SN [c])++Td (SN [c]) (y::r)).cps.toList=_
   rw[bM,bM,eV,eM c (y::r)]
   simp[jl]
theorem iI {c:Nat}:∀{a b r s:O Nat},c∉a->c∉b->(r=[]\/r.head?=S c)->(s=[]\/s.head?=S c)->a++r=b++s->a=b/\r=s
 | [],[],_,_,_,_,_,_,h=>⟨rfl,h⟩
 | [],y::b,r,s,_,hb,hr,_,h=>by
   !h:r=y::(b++s):=h
   rcases hr with rfl|hr
   . cases h
   . rw[h]at hr
     !:S y=S c:=hr
     injection this with this
     #au (by rw[this];#Ru) hb
 | x::a,[],r,s,ha,_,_,hs,h=>by
   !h:x::(a++r)=s:=h
   rcases hs with rfl|hs
   . cases h
   . rw[← h]at hs
     !:S x=S c:=hs
     injection this with this
     #au (by rw[this];#Ru) ha
 | x::a,y::b,r,s,ha,hb,hr,hs,h=>by
   !h:x::(a++r)=y::(b++s):=h
   injection h with h1 h2
   @⟨e1,e2⟩:=iI (λz=>ha (RC _ z)) (λz=>hb (RC _ z)) hr hs h2
   #⟨by rw[h1,e1],e2⟩
theorem vZ {c:Nat}:∀{xs ys:O (O Nat)},xs≠[]->ys≠[]->(∀x∈xs,c∉x)->(∀x∈ys,c∉x)->jl c xs=jl c ys->xs=ys
 | [],_,h,_,_,_,_=>au rfl h
 | _,[],_,h,_,_,_=>au rfl h
 | [a],[b],_,_,_,_,h=>by
   !:a=b:=h
   rw[this]
 | [a],b::b2::s,_,_,ha,hb,h=>by
   !h:a++[]=b++c::jl c (b2::s):=by rw[RY];#h
   !:=(iI (ha a Ru) (hb b Ru) (.inl rfl) (.inr rfl) h).2
   cases this
 | a::a2::r,[b],_,_,ha,hb,h=>by
   !h:a++c::jl c (a2::r)=b++[]:=by rw[RY];#h
   !:=(iI (ha a Ru) (hb b Ru) (.inr rfl) (.inl rfl) h).2
   cases this
 | a::a2::r,b::b2::s,_,_,ha,hb,h=>by
   !h:a++c::jl c (a2::r)=b++c::jl c (b2::s):=h
   @⟨e1,e2⟩:=iI (ha a Ru) (hb b Ru) (.inr rfl) (.inr rfl) h
   injection e2 with _ e2
   rw[e1,vZ (xs:=a2::r) (ys:=b2::s) (λz=>nomatch z) (λz=>nomatch z) (λx hx=>ha x (RC _ hx)) (λx hx=>hb x (RC _ hx)) e2]
def lr {c:Nat}{xs:O Str}(hn:xs≠[])(h0:Td (SN [c]) xs≠TR)(hf:∀x∈xs,c∉x.cps.toList):S7 (RM (SN [c]) xs) (SN [c])=xs:=by
 !ej:RM (SN [c]) xs=Td (SN [c]) xs:=StrLaws.glued_eq_join _ _
 rw[ej]
 !h1:=StrLaws.join_split (Td (SN [c]) xs) (SN [c])
 !h2:=StrLaws.split_free (Td (SN [c]) xs) c
 !h2:∀p∈S7 (Td (SN [c]) xs) (SN [c]),c∉p.cps.toList:=h2
 generalize S7 (Td (SN [c]) xs) (SN [c])=ys at h1 h2
 !hy:ys≠[]:=λz=>by rw[z]at h1;#h0 h1.symm
 !h3:=congrArg (λs:Str=>s.cps.toList) h1
 !h3:(Td (SN [c]) ys).cps.toList=(Td (SN [c]) xs).cps.toList:=h3
 rw[eM,eM]at h3
 !h4:=vZ (by simpa using hy) (by simpa using hn) (λx hx=>by@⟨y,hy,rfl⟩:=fc hx;#h2 y hy) (λx hx=>by@⟨y,hy,rfl⟩:=fc hx;#hf y hy) h3
 !h5:=congrArg (List.map SN) h4
 rw[Te,Te]at h5
 !key:∀l:O Str,l.map (SN ∘ λx=>x.cps.toList)=l:=λl=>by
   induction l with
   | nil=>rfl
   | cons a l ih=>rw[R3,ih];change SN a.cps.toList::l=_;rw[oo]
 rw[key,key]at h5
 #h5
def nq {c:Nat}{x:Str}{xs:O Str}(h:x≠TR):Td (SN [c]) (x::xs)≠TR:=λz=>by
 !e:=congrArg (λs:Str=>s.cps.toList) z
 !e:(Td (SN [c]) (x::xs)).cps.toList=[]:=e
 rw[eM]at e
 !hx:x.cps.toList≠[]:=λk=>h (by rw[← oo x,k];rfl)
 cases xs with
 | nil=>#hx e
 | cons y r=>
   have e:x.cps.toList++c::jl c ((y::r).map λx=>x.cps.toList)=[]:=e
   #hx (List.append_eq_nil_iff.mp e).1
def Ln:(" ":Str)=SN [32]:=by right
def Qi:("\n":Str)=SN [10]:=by right
structure iC (head:Str)(ds:O Wd):Prop where
 fr:(head,ds.map Wd.kind)∈bZ
 g:∀d∈ds,d.G
abbrev du (head:Str)(ds:O Wd):Str:=RM " " (head::ds.map Wd.txt)
def gh:∀q∈bZ,q.2~<=3/\q.1~<=5/\q.1≠TR/\∀c∈q.1.cps.toList,33<=c:=by right
def iC.ge {head:Str}{ds:O Wd}(h:iC head ds):∀x∈head::ds.map Wd.txt,∀c∈x.cps.toList,33<=c:=λx hx=>by
 rcases cv hx with rfl|hx
 . #(gh _ h.fr).2.2.2
 . @⟨d,hd,rfl⟩:=fc hx
   #Wd.ge (h.g d hd)
def iC.split {head:Str}{ds:O Wd}(h:iC head ds):S7 (du head ds) " "=head::ds.map Wd.txt:=by
 rw[du,Ln]
 #lr (λz=>nomatch z) (nq (gh _ h.fr).2.2.1) (λx hx z=>by !:=h.ge x hx _ z;lia)
def AI:∀(l:O Str),(∀x∈l,x~<=4000)->(l.map (·.length)).sum<=l~*4000:=by
 intro l
 induction l with
 | nil=>intro _;#Rz _
 | cons a l ih=>
   intro h
   !h1:=ih λx hx=>h x (RC _ hx)
   !h2:=h a Ru
   rw[R3,S2,RE]
   lia
def iC.len {head:Str}{ds:O Wd}(h:iC head ds):ds~<=3/\(du head ds)~<=12100:=by
 @⟨h3,h5,_⟩:=gh _ h.fr
 !h3:(ds.map Wd.kind)~<=3:=h3
 !h5:head~<=5:=h5
 rw[Rn]at h3
 #⟨h3,?_⟩
 change(Sr " " (head::ds.map Wd.txt))~<=_
 rw[StrLaws.glued_eq_join]
 #Ry (StrLaws.join_length_le _ _) ?_
 !:=AI (ds.map Wd.txt) λx hx=>by@⟨d,hd,rfl⟩:=fc hx;#Wd.len (h.g d hd)
 rw[Rn]at this
 rw[R3,S2,RE,show((" ":Str))~=1 from rfl,Rn]
 lia
def yI (H:Hp)(v:V)(head:Str)(ds:O Wd):Prop:=∃(p:J) (vals:O V),v=.ref p/\H p=S (.tup (.str head::vals))/\Paired (λu (d:Wd)=>d.At H u) vals ds
theorem Paired.snoc {α β:Type}{R:α->β->Prop}:∀{a:O α} {b:O β} {x:α} {y:β},Paired R a b->R x y->Paired R (a++[x]) (b++[y])
 | _,_,_,_,.nil,h=>.cons h .nil
 | _,_,_,_,.cons r t,h=>.cons r (Paired.snoc t h)
def qF:aC ["row","words","kinds"] ["row"] (ao rS):=eU
def i5 (C cNR:J):Sp:=λvs H Q E=>∃(r dx:J) (w:Str) (i:Nat),vs=[.ref r]/\H r=S (bK C dx w i)/\i<=w~/\w~<=4000 /\
 ((∃(e:TW.E) (l:O Nat),e.sJ/\dW e/\aA w i=e.cps++l/\iD l/\∀(v:V) (H':Hp),Kp r H H'->H' r=S (bK C dx w (i+e.cps~))->cJ H' v e->Q v H') \/
  (∃(x:Str) (l:O Nat),df x/\x≠"yes"/\aA w i=x.cps.toList++l/\iD l/\∀H':Hp,Kp r H H'->E (.ref cNR) Z H'))
def um {C uV cNR TE:J}{f:J}{fd:RZ}(F:cD K "read_test" "read_test" qD f fd)(R5:lE K C)(hST:mg "SIGN_TESTS"=S (.ref uV))(dST:eG w K uV BQ)(cN:Xc K mg "NoRow" cNR (.ref TE::vE))(SI0:bN P w K mg base C "sign" ["self"] 1 (bW C))(RS0:b7 P w K mg base "read_sum" ["reader"] 6 (lq C)):aY P w K mg base (eD P w base) 7 f fd ["reader"] (i5 C cNR):=by
 #F.wU nW (λvs H Q E h=>?_) (λcdv A outer s H vs Q E hr h=>?_)
 . @⟨r,dx,w,i,rfl,_⟩:=h
   rfl
 . !SI:=SI0.mono (show 1<=6 by left)
   !RS:=RS0
   @⟨r,dx,w,i,rfl,cW,hi,vT,cs⟩:=h
   !hw:w~<=sizeLine:=Ry vT (by left)
   #ig ⟨_,(Wv (Wy 1 nW.nd (WA RS hr U (L (Y 0) M)))
     (Wv (WB (Wx L3.G0 (W5 (Y 0) R5.c SI hr) (WU (w:=.ref uV) U hST rfl) U) (Wv (Wy 2 nW.nd (L3.kg (WU (w:=.ref uV) U hST rfl) (W5 (Y 0) R5.c SI hr)))
     (Wv (XC (Y 0) Ws)
     (Ww (WC (WH (L (Y 2) (L (Y 1) (L (WA RS hr U (L (Y 0) M)) M)))))))) WE)
     (Wv (WB (Wx (Xf (m:=2) (dm hr _ (by left))) (Y 1) (WH (L Wu (L Wu M)))) (Ww (Xa cA cN U U (L Wu M))) WE)
     (Ww (WC (WH (L Wu M))))))),?_⟩
   #aq λRk kR=>?_
   rcases cs with⟨e,l,lf,g0,hl,st,q⟩|⟨x,l,hx,ny,hl,st,q⟩
   . !P2:e=.yes\/∃(k:K2) (a b:TW.E),(k=.same\/k=.under)/\e=.two k a b/\iF a/\iF b:=by
       cases lf with
       | yes=>#.inl rfl
       | @same a b=>#.inr ⟨.same,a,b,.inl rfl,rfl,⟨g0.is.1,g0.ok.1⟩,⟨g0.is.2,g0.ok.2⟩⟩
       | @under a b=>#.inr ⟨.under,a,b,.inr rfl,rfl,⟨g0.is.1,g0.ok.1⟩,⟨g0.is.2,g0.ok.2⟩⟩
     rcases P2 with rfl|⟨k,a,b,hk,rfl,ga,gb⟩
     . !iK:aA w i=(TW.E.box "box" "yes").cps++l:=hl
       #⟨_,U,r,dx,w,i,.box "box" "yes",l,U,cW,hi,vT,⟨trivial,U,nz⟩,iK,st.one,λv1 H1 k1 r1 e1=>?_⟩
       @⟨oN,lL⟩:=dy iK hi
       @⟨p1,rfl,kG⟩:=e1
       #ak (kR _ _ ?_)
       #aw [S (.ref r),S (.ref p1),Z] U ?_
       #aq λRk kR=>?_
       #⟨_,U,r,dx,_,U,r1,U,r,dx,w,_,U,r1,lL,hw,_,uV,BQ,U,U,dST,_,U,?_⟩
       rw[oN,sh st]
       #bc U ?_
       #kR _ _ (aq λRk kR=>?_)
       #⟨_,U,YK,λp hp=>?_⟩
       !s2:=af hp (.tup [.str "box",.str "yes"])
       !g2:(upd H1 p (.tup [.str "box",.str "yes"])) p=S (.tup [.str "box",.str "yes"]):=ae
       !rF:=k1.new (o:=.tup [.str "box",.str "yes"]) hp
       generalize upd H1 p (.tup [.str "box",.str "yes"])=H2 at s2 g2 rF ⊢
       #⟨true,RB.tup (bS.of (s2 _ _ kG)) (bS.of g2) rfl (λj x y hx hy=>?_),_,U,bc rfl ?_⟩
       . match j,hx,hy with
         | 0,hx,hy=>cases hx;cases hy;#ET.refl (.inl rfl)
         | 1,hx,hy=>cases hx;cases hy;#ET.refl (.inl rfl)
       #kR _ _ ?_
       #⟨YJ,λp3 Bb=>?_⟩
       #q (.ref p3) _ (rF.new Bb) ?_ ⟨p3,U,ae⟩
       rw[ah (λz=>by rw[← z,s2 _ _ r1]at Bb;cases Bb)]
       #s2 _ _ r1
     . rw[eK hk,SK]at hl
       #⟨_,U,r,dx,w,i,a,_,U,cW,hi,vT,ga,hl,(λc hc=>?_),λv1 H1 k1 r1 e1=>?_⟩
       . !:S k.sg=S c:=hc
         injection this with this
         rw[← this]
         rcases hk with rfl|rfl<;>#⟨by left,by left⟩
       !iK:aA w i=a.cps++(k.sg::(b.cps++l)):=hl
       @⟨oN,lL⟩:=dy iK hi
       @⟨p7,pZ⟩:=bV oN
       !h1:(aA w (i+a.cps~)).take 1=[k.sg]:=by rw[oN];rfl
       #ak (kR _ _ ?_)
       #aw [S (.ref r),S v1,Z] U ?_
       #aq λRk kR=>?_
       #⟨_,U,r,dx,_,U,r1,U,r,dx,w,_,U,r1,lL,hw,_,uV,BQ,U,U,dST,_,U,?_⟩
       rw[h1,sf hk]
       #b6 ?_
       #aq λuU kR2=>?_
       #⟨_,U,r,dx,_,U,r1,U,r,dx,w,_,U,r1,lL,hw,uV,_,.str k.str,BQ,U,U,dST,by rw[h1];#sf hk,?_⟩
       #ak ?_
       #kR2 _ _ ?_
       #aw [S (.ref r),S v1,S (.str k.str)] U ?_
       #aq λQQ PX=>?_
       #⟨_,U,r,C,dx,_,_,U,r1,R5.c,R5.p,U,_,_,U,U,dx,_,r1,(by change 2<1000;decide),?_⟩
       !sF:TK H1 (upd H1 r (bK C dx w (i+a.cps~+1))):=bC r1 (λv z=>nomatch z)
       !r2:(upd H1 r (bK C dx w (i+a.cps~+1))) r=S (bK C dx w (i+a.cps~+1)):=ae
       !k2:Kp r H (upd H1 r (bK C dx w (i+a.cps~+1))):=k1.self
       #PX _ (upd H1 r (bK C dx w (i+a.cps~+1))) ?_
       generalize upd H1 r (bK C dx w (i+a.cps~+1))=H2 at sF r2 k2 ⊢
       #⟨_,U,_,U,_,U,r,dx,w,i+a.cps~+1,b,l,U,r2,by lia,vT,gb,p7,st.one,λv2 H3 k3 r3 e3=>?_⟩
       #⟨YL,λp hp=>?_⟩
       !s4:=af hp (.tup [.str k.str,v1,v2])
       #q (.ref p) _ ((k2.trans k3).new hp) ?_ ?_
       . rw[ah (λz=>by rw[← z,r3]at hp;cases hp),r3,eK hk]
         rw[Rx,RE,show i+(a.cps~+(b.cps~+1))=i+a.cps~+1+b.cps~ by lia]
       . #⟨v1,v2,⟨p,U,ae⟩,?_,e3.keep (ai.tk s4)⟩
         #((e1.keep sF).keep (Kp.rd k3 r2)).keep (ai.tk s4)
   . !iK:aA w i=(TW.E.box "box" x).cps++l:=hl
     #⟨_,U,r,dx,w,i,.box "box" x,l,U,cW,hi,vT,⟨trivial,U,hx⟩,iK,st.one,λv1 H1 k1 r1 e1=>?_⟩
     @⟨oN,lL⟩:=dy iK hi
     @⟨p1,rfl,kG⟩:=e1
     #ak (kR _ _ ?_)
     #aw [S (.ref r),S (.ref p1),Z] U ?_
     #aq λRk kR=>?_
     #⟨_,U,r,dx,_,U,r1,U,r,dx,w,_,U,r1,lL,hw,_,uV,BQ,U,U,dST,_,U,?_⟩
     rw[oN,sh st]
     #bc U ?_
     #kR _ _ (aq λRk kR=>?_)
     #⟨_,U,YK,λp hp=>?_⟩
     !s2:=af hp (.tup [.str "box",.str "yes"])
     !g2:(upd H1 p (.tup [.str "box",.str "yes"])) p=S (.tup [.str "box",.str "yes"]):=ae
     !rF:=k1.new (o:=.tup [.str "box",.str "yes"]) hp
     generalize upd H1 p (.tup [.str "box",.str "yes"])=H2 at s2 g2 rF ⊢
     #⟨false,⟨p1,p,_,_,U,U,.inr (.inr ⟨λj=>match j with|0=>true|_=>false,bS.of (s2 _ _ kG),bS.of g2,(λj x' y' CK CL=>?_),U⟩)⟩,_,U,b6 ?_⟩
     . match j,CK,CL with
       | 0,CK,CL=>cases CK;cases CL;#EB.flat (x:=.str "box") (y:=.str "box") rfl rfl
       | 1,CK,CL=>
         cases CK;cases CL
         !:=EB.flat (K:=K) (H:=H2) (n:=2) (x:=.str x) (y:=.str "yes") rfl rfl
         rw[show oB (.str x) (.str "yes")=false from beq_eq_false_iff_ne.mpr ny]at this
         #this
     #⟨_,U,q _ rF⟩
def pT {C uV cNR TE:J}(s:Src K mg "read_test" qD)(R5:lE K C)(hST:mg "SIGN_TESTS"=S (.ref uV))(dST:eG w K uV BQ)(cN:Xc K mg "NoRow" cNR (.ref TE::vE))(SI0:bN P w K mg base C "sign" ["self"] 1 (bW C))(RS0:b7 P w K mg base "read_sum" ["reader"] 6 (lq C)):bQ P w K mg base "read_test" ["reader"] 7 (i5 C cNR):=
 let⟨f,fd,F,m⟩:=s
 ⟨f,fd,um F R5 hST dST cN SI0 RS0,F.kp,lG F λz z z z z z z=>rfl,m⟩
def iZ (C cNR:J):Sp:=λvs H Q E=>∃(r dx:J) (w:Str) (i:Nat),vs=[.ref r]/\H r=S (bK C dx w i)/\i<=w~/\w~<=4000 /\
 ((∃(e:TW.E) (l:O Nat),dW e/\aA w i=e.cps++l/\iD l/\∀(v:V) (H':Hp),Kp r H H'->H' r=S (bK C dx w (i+e.cps~))->cJ H' v e->Q v H') \/
  (∃(x:Str) (l:O Nat),df x/\x≠"yes"/\aA w i=x.cps.toList++l/\iD l/\∀H':Hp,Kp r H H'->E (.ref cNR) Z H'))
def ui {C cNR:J}{f:J}{fd:RZ}(F:cD K "read_condition" "read_condition" qy f fd)(R5:lE K C)(m_len:mg "len"=Z)(SI0:bN P w K mg base C "sign" ["self"] 1 (bW C))(DU0:bN P w K mg base C "due" ["self","sign"] 3 (lg C))(RT0:bQ P w K mg base "read_test" ["reader"] 7 (i5 C cNR)):aY P w K mg base (eD P w base) 8 f fd ["reader"] (iZ C cNR):=by
 #F.wU jT (λvs H Q E h=>?_) (λcdv A outer s H vs Q E hr h=>?_)
 . @⟨r,dx,w,i,rfl,_⟩:=h
   rfl
 . !SI:=SI0.mono (show 1<=7 by left)
   !DU:=DU0.mono (show 3<=7 by left)
   !RT:=RT0
   @⟨r,dx,w,i,rfl,cW,hi,vT,cs⟩:=h
   !hw:w~<=sizeLine:=Ry vT (by left)
   #ig ⟨_,(Wv (Wy 1 jT.nd (WD M))
     (Ww (Xo (Xx Xe) (Wv (Xo (Wx L3.zG (W5 (Y 0) R5.c SI hr) (WH (L Wu (L Wu M))) U) (Wv (W0 (Xt (Y 1) (L (L3.MF (Wx WL (W5 (Y 0) R5.c SI hr) Wu) (WH (L Wu M)) XD) M wH)))
     (Ww (XC (Y 0) Ws))) (hp:=Sn))
     (Wv (Wy 2 jT.nd (Xd iV RT hr U (L (Y 0) M)))
     (Wv (Xo (WV (WX (Wx Xi (WJ WO U m_len RG (L (Y 1) M)) Ws) (W6 (Wx L3.wQ (Wz WK (Y 1) (XB Ws)) XD)))) (Wv (WB (Wx (Xf (m:=2) (dm hr _ (by left))) (Wz WK (Y 1) (XB Ws)) (WH (L Wu M))) (Ww (W0 (Xs (Y 0) R5.c DU hr (L Wu M)))) WE)
     (Ww (Wy 2 jT.nd (Wt L3.ql (L3.Ht (Y 1)) (WH (L (Y 2) M)))))) (hp:=Sn))
     (Wv (WB (Wx WL (WJ WO U m_len RG (L (Y 1) M)) Ws) (Ww (WC (Y 2))) WE)
     (Wv (W0 (Xs (Y 0) R5.c DU hr (L Wu M)))
     (Ww (Xj (WH (L Wu (L (Y 2) M))) (L3.A4 (Y 1) (XB Ws))))))))) (hp:=Sn)))),?_⟩
   #aq λRk kR=>?_
   #⟨YI,λB hB=>?_⟩
   !Br:B≠r:=λz=>by rw[z,cW]at hB;cases hB
   #ak (kR _ _ ?_)
   rcases cs with⟨e0,l,g0,hl,st,q⟩|⟨x,l,hx,ny,hl,st,q⟩
   . #⟨λ(d:Nat) (σ:L2.St) (Hx:Hp)=>∃(o2:Option V) (j:Nat) (e:TW.E) (fs:O Fc) (us:O V),σ=[S (.ref r),S (.ref B),o2]/\d=w~-j/\fq C r dx B w H e0 l Hx j e fs us/\aA w j=e.cps++(cg fs++l),⟨w~-i,Z,i,e0,[],[],U,U,⟨by rw[ah Br.symm];#cW,hi,Sd _,ae,.nil,(λf hf=>nomatch hf),g0,U,(Kp.refl H).new hB⟩,hl⟩,λd σ Hx z=>?_⟩
     @⟨o2,j,e,fs,us,rfl,rfl,S8x,aN⟩:=z
     #⟨_,U,b6 ⟨λσ' H'=>∃d',d'<w~-j/\(λ(d:Nat) (σ:L2.St) (Hx:Hp)=>∃(o2:Option V) (j:Nat) (e:TW.E) (fs:O Fc) (us:O V),σ=[S (.ref r),S (.ref B),o2]/\d=w~-j/\fq C r dx B w H e0 l Hx j e fs us/\aA w j=e.cps++(cg fs++l)) d' σ' H',λσ' H' z=>z,?_⟩⟩
     #aq λRk kR=>?_
     #⟨λ(d:Nat) (σ:L2.St) (Hx:Hp)=>∃(o2:Option V) (j':Nat) (e:TW.E) (fs:O Fc) (us:O V),σ=[S (.ref r),S (.ref B),o2]/\d=w~-j'/\j<=j'/\fq C r dx B w H e0 l Hx j' e fs us/\aA w j'=e.cps++(cg fs++l),⟨w~-j,o2,j,e,fs,us,U,U,Rz _,S8x,aN⟩,λd σ Hy z=>?_⟩
     @⟨o2,j',e,fs,us,rfl,rfl,jj,S8x,aN⟩:=z
     !ul:=Paired.length S8x.pr
     #⟨_,U,r,dx,_,U,S8x.rd,U,r,dx,w,j',U,S8x.rd,S8x.jl,hw,YK,λt0 tV=>?_⟩
     !Fm:=af tV (.tup [.str "!",.str "{"])
     !F3:(upd Hy t0 (.tup [.str "!",.str "{"])) t0=S (.tup [.str "!",.str "{"]):=ae
     generalize upd Hy t0 (.tup [.str "!",.str "{"])=Fv at Fm F3 ⊢
     replace S8x:=S8x.same Fm
     #⟨t0,_,U,.inr (bS.of F3),U,U,_,U,?_⟩
     rcases S8x.eg.cases with iG|⟨a,rfl,ga⟩|⟨a,b,rfl,ga,gb⟩
     . @⟨c,r',hc,OV,hd2⟩:=mj iG S8x.eg (cg fs++l)
       !h1:(aA w j').take 1=[c]:=by rw[aN,hc];rfl
       rw[h1,rB,gv OV,gv hd2]
       #bc U ?_
       #kR _ _ (aq λRk kR=>?_)
       #⟨_,U,r,dx,w,j',U,S8x.rd,S8x.jl,vT,.inl ⟨e,cg fs++l,iG,S8x.eg,aN,lz st,λv Ha ka ra ev=>?_⟩⟩
       !JM:0<e.cps~:=by
         @⟨c1,r1,h1,h2⟩:=mj iG S8x.eg []
         rw[RY]at h1
         rw[h1]
         #S8 _
       @⟨oN,lL⟩:=dy aN S8x.jl
       #ak (kR _ _ ?_)
       #aw [S (.ref r),S (.ref B),S v] U ?_
       !SA:fq C r dx B w H e0 l Ha (j'+e.cps~) e fs us:=⟨ra,lL,by !:=S8x.fl;lia,ka _ _ S8x.bg Br,Paired.imp (λf u z=>gu.keep (Kp.rd ka S8x.rd) z) S8x.pr,S8x.fg,S8x.eg,S8x.pl,S8x.kp.trans ka⟩
       obtain⟨j0,N7⟩ : ∃j0,j0=j:=⟨_,rfl⟩
       #aq λRk kR=>?_
       #⟨λ(d:Nat) (σ:L2.St) (Hx:Hp)=>∃(v:V) (j:Nat) (e:TW.E) (fs:O Fc) (us:O V),σ=[S (.ref r),S (.ref B),S v]/\d=fs~/\fq C r dx B w H e0 l Hx j e fs us/\aA w j=cg fs++l/\cJ Hx v e/\j0<j,⟨fs~,v,_,e,fs,us,U,U,SA,oN,ev,by lia⟩,λd σ Hz z=>?_⟩
       @⟨v,j2,e,fs,us,rfl,rfl,S8x,aN,ev,MI⟩:=z
       !ul:=Paired.length S8x.pr
       !lO:us.reverse~=fs~:=by rw[TV,← ul]
       #⟨_,U,B,_,U,.inl (aH.of S8x.bg),_,_,U,U,_,U,?_⟩
       match fs,us,S8x,aN,ul,lO with
       | [],[],S8x,aN,ul,lO=>
         #bc (by left) (cb ?_)
         #kR _ _ (aq λRk kR=>?_)
         #⟨_,U,B,_,U,.inl (aH.of S8x.bg),U,_,U,?_⟩
         #b6 ?_
         !e1:e=e0:=S8x.pl
         !hj:j2=i+e0.cps~:=by
           !h1:=dO w j2
           !h2:=dO w i
           rw[aN]at h1
           rw[hl,Rx]at h2
           !h1:l~=w~-j2:=h1
           !:=S8x.jl
           lia
         #⟨_,U,q v Hz S8x.kp (by rw[← hj];#S8x.rd) (by rw[← e1];#ev)⟩
       | .N::fs,u::us,S8x,aN,ul,lO=>
         obtain⟨pa,rfl,CJ⟩ : gu Hz .N u:=by cases S8x.pr with|cons h _=>show h
         !Ak:Paired (gu Hz) fs us:=by cases S8x.pr with|cons _ h=>show h
         !bg:=S8x.bg
         rw[Sk]at bg
         rw[Sk]
         #aG (λt=>?_) (λz=>au (hW (by rw[Rx,Sj];lia)) z)
         #⟨_,U,_,U,?_⟩
         #cH bg (dB _ _) ?_
         #⟨U,_,U,?_⟩
         #aG (λt=>?_) (λz=>au U z)
         #⟨λσ' H'=>∃d',d'<fs~+1/\(λ(d:Nat) (σ:L2.St) (Hx:Hp)=>∃(v:V) (j:Nat) (e:TW.E) (fs:O Fc) (us:O V),σ=[S (.ref r),S (.ref B),S v]/\d=fs~/\fq C r dx B w H e0 l Hx j e fs us/\aA w j=cg fs++l/\cJ Hx v e/\j0<j) d' σ' H',λσ' H' z=>z,?_⟩
         #aq λuU kR2=>?_
         #⟨_,U,_,U,?_⟩
         #cH bg (dB _ _) ?_
         #⟨YJ,λt1 zj=>?_⟩
         !st1:=af zj (.tup [.str "not"])
         !A5:(upd Hz t1 (.tup [.str "not"])) t1=S (.tup [.str "not"]):=ae
         generalize upd Hz t1 (.tup [.str "not"])=Hw at st1 A5 ⊢
         !S1:=S8x.same st1
         #⟨true,RB.tup (bS.of (st1 _ _ CJ)) (bS.of A5) rfl (λj x y hx hy=>?_),_,U,bc rfl ?_⟩
         . match j,hx,hy with
           | 0,hx,hy=>cases hx;cases hy;#ET.refl (.inl rfl)
         #kR2 _ _ ?_
         !jf:=st1 _ _ bg
         #⟨_,U,.inl ⟨U,_,aH.of jf⟩,B,_,_,U,U,jf,kC _ _,_,U,YJ,λq1 lF=>?_⟩
         rw[U2]at lF ⊢
         !yB:TK Hw (upd Hw B (.lst us.reverse)):=bC jf (λt z=>nomatch z)
         !Bv:(upd Hw B (.lst us.reverse)) r=S (bK C dx w j2):=by rw[ah Br.symm];#S1.rd
         !AY:(upd Hw B (.lst us.reverse)) B=S (.lst us.reverse):=ae
         !rF:Kp r H (upd Hw B (.lst us.reverse)):=λb o hb nb=>by rw[ah (ag hb hB)];#S1.kp b o hb nb
         generalize upd Hw B (.lst us.reverse)=H4 at yB Bv AY rF lF ⊢
         !s5:=af lF (.tup [v])
         !g5:(upd H4 q1 (.tup [v])) q1=S (.tup [v]):=ae
         generalize upd H4 q1 (.tup [v])=H5 at s5 g5 ⊢
         !tk5:=((ai.tk st1).trans yB).trans (ai.tk s5)
         #⟨pa,q1,_,_,U,U,bS.of (tk5 _ _ CJ),bS.of g5,(λz=>nomatch z),YK,(λz=>nomatch z),λt p hp=>?_⟩
         !s6:=af hp (.tup [.str "not",v])
         !og:=tk5.trans (ai.tk s6)
         #ak ?_
         #⟨fs~,Tq _,.ref p,j2,.nt e,fs,us,U,U,⟨s6 _ _ (s5 _ _ Bv),S8x.jl,by !:fs~+1<=j2:=S8x.fl;lia,s6 _ _ (s5 _ _ AY),Paired.imp (λf u z=>gu.keep og z) Ak,λf hf=>S8x.fg f (RC _ hf),⟨S8x.eg.is,S8x.eg.ok⟩,S8x.pl,(rF.same s5).same s6⟩,aN,⟨v,⟨p,U,ae⟩,ev.keep og⟩,MI⟩
       | .R a::fs,u::us,S8x,aN,ul,lO=>
         obtain⟨va,⟨pa,rfl,CJ⟩,ea⟩ : gu Hz (.R a) u:=by cases S8x.pr with|cons h _=>show h
         !Ak:Paired (gu Hz) fs us:=by cases S8x.pr with|cons _ h=>show h
         !tJ:dW a:=S8x.fg _ Ru
         !bg:=S8x.bg
         rw[Sk]at bg
         rw[Sk]
         #aG (λt=>?_) (λz=>au (hW (by rw[Rx,Sj];lia)) z)
         #⟨_,U,_,U,?_⟩
         #cH bg (dB _ _) ?_
         #⟨U,_,U,?_⟩
         #aG (λt=>?_) (λz=>au U z)
         #⟨λσ' H'=>∃d',d'<fs~+1/\(λ(d:Nat) (σ:L2.St) (Hx:Hp)=>∃(v:V) (j:Nat) (e:TW.E) (fs:O Fc) (us:O V),σ=[S (.ref r),S (.ref B),S v]/\d=fs~/\fq C r dx B w H e0 l Hx j e fs us/\aA w j=cg fs++l/\cJ Hx v e/\j0<j) d' σ' H',λσ' H' z=>z,?_⟩
         #aq λuU kR2=>?_
         !aN:aA w j2=125::(cg fs++l):=aN
         @⟨p7,pZ⟩:=bV aN
         #⟨_,U,_,U,?_⟩
         #cH bg (dB _ _) ?_
         #⟨YJ,λt1 zj=>?_⟩
         !st1:=af zj (.tup [.str "not"])
         !A5:(upd Hz t1 (.tup [.str "not"])) t1=S (.tup [.str "not"]):=ae
         generalize upd Hz t1 (.tup [.str "not"])=Hw at st1 A5 ⊢
         !S1:=S8x.same st1
         #⟨false,⟨pa,t1,_,_,U,U,.inr (.inr ⟨λt=>false,bS.of (st1 _ _ CJ),bS.of A5,(λj x y hx hy=>?_),U⟩)⟩,_,U,b6 ?_⟩
         . match j,hx,hy with
           | 0,hx,hy=>cases hx;cases hy;#EB.flat (x:=.str "both") (y:=.str "not") rfl rfl
         #⟨_,U,r,dx,_,U,S1.rd,U,r,dx,w,j2,125,_,congrArg (λz=>[V.ref r,V.str z]) Eh,S1.rd,S1.jl,hw,aN,?_⟩
         !NR:=st1 _ _ bg
         !sF:TK Hw (upd Hw r (bK C dx w (j2+1))):=bC S1.rd (λt z=>nomatch z)
         !jf:(upd Hw r (bK C dx w (j2+1))) B=S (.lst (us.reverse++[.ref pa])):=by rw[ah Br];#NR
         !pC:(upd Hw r (bK C dx w (j2+1))) r=S (bK C dx w (j2+1)):=ae
         !kp1:Kp r H (upd Hw r (bK C dx w (j2+1))):=S1.kp.self
         generalize upd Hw r (bK C dx w (j2+1))=H3 at sF jf pC kp1 ⊢
         #kR2 _ _ ?_
         #⟨_,U,.inl ⟨U,_,aH.of jf⟩,B,_,_,U,U,jf,kC _ _,_,U,YJ,λq1 lF=>?_⟩
         rw[U2]at lF ⊢
         !yB:TK H3 (upd H3 B (.lst us.reverse)):=bC jf (λt z=>nomatch z)
         !Bv:(upd H3 B (.lst us.reverse)) r=S (bK C dx w (j2+1)):=by rw[ah Br.symm];#pC
         !AY:(upd H3 B (.lst us.reverse)) B=S (.lst us.reverse):=ae
         !rF:Kp r H (upd H3 B (.lst us.reverse)):=λb o hb nb=>by rw[ah (ag hb hB)];#kp1 b o hb nb
         generalize upd H3 B (.lst us.reverse)=H4 at yB Bv AY rF lF ⊢
         !s5:=af lF (.tup [v])
         !g5:(upd H4 q1 (.tup [v])) q1=S (.tup [v]):=ae
         generalize upd H4 q1 (.tup [v])=H5 at s5 g5 ⊢
         !tk5:=(((ai.tk st1).trans sF).trans yB).trans (ai.tk s5)
         #⟨pa,q1,_,_,U,U,bS.of (tk5 _ _ CJ),bS.of g5,(λz=>nomatch z),YL,(λz=>nomatch z),λt p hp=>?_⟩
         !s6:=af hp (.tup [.str "both",va,v])
         !og:=tk5.trans (ai.tk s6)
         #ak ?_
         #⟨fs~,Tq _,.ref p,j2+1,.two .both a e,fs,us,U,U,⟨s6 _ _ (s5 _ _ Bv),by lia,by !:fs~+1<=j2:=S8x.fl;lia,s6 _ _ (s5 _ _ AY),Paired.imp (λf u z=>gu.keep og z) Ak,λf hf=>S8x.fg f (RC _ hf),⟨⟨tJ.is,S8x.eg.is⟩,tJ.ok,S8x.eg.ok⟩,S8x.pl,(rF.same s5).same s6⟩,p7,⟨va,v,⟨p,U,ae⟩,ea.keep og,ev.keep og⟩,by lia⟩
       | .L8 b::fs,u::us,S8x,aN,ul,lO=>
         have hu:u=.bI:=by cases S8x.pr with|cons h _=>show h
         have Ak:Paired (gu Hz) fs us:=by cases S8x.pr with|cons _ h=>show h
         have tJ:dW b:=S8x.fg _ Ru
         have bg:=S8x.bg
         rw[Sk]at bg
         rw[Sk]
         #aG (λt=>?_) (λz=>au (hW (by rw[Rx,Sj];lia)) z)
         #⟨_,U,_,U,?_⟩
         #cH bg (dB _ _) ?_
         #⟨U,_,U,?_⟩
         rw[hu]
         #bc (by left) ?_
         #kR _ _ (aq λRk kR=>?_)
         rw[hu]at bg
         #⟨_,U,B,_,U,.inl (aH.of bg),U,_,U,?_⟩
         #bc (gv (λz=>by injection z with z;rw[Rx,Sj]at z;lia)) ?_
         #kR _ _ ?_
         !aN:aA w j2=38::(b.cps++(125::cg fs)++l):=by rw[aN];simp[cg]
         @⟨p7,pZ⟩:=bV aN
         #aq λRk kR=>?_
         #⟨_,U,r,dx,_,U,S8x.rd,U,r,dx,w,j2,38,_,congrArg (λz=>[V.ref r,V.str z]) Ce,S8x.rd,S8x.jl,hw,aN,?_⟩
         !sF:TK Hz (upd Hz r (bK C dx w (j2+1))):=bC S8x.rd (λt z=>nomatch z)
         !jf:(upd Hz r (bK C dx w (j2+1))) B=S (.lst (us.reverse++[.bI])):=by rw[ah Br];#bg
         !pC:(upd Hz r (bK C dx w (j2+1))) r=S (bK C dx w (j2+1)):=ae
         !kp1:Kp r H (upd Hz r (bK C dx w (j2+1))):=S8x.kp.self
         generalize upd Hz r (bK C dx w (j2+1))=H3 at sF jf pC kp1 ⊢
         #kR _ _ ?_
         #⟨_,U,YK,λq1 lF=>?_⟩
         !s5:=af lF (.tup [.str "both",v])
         !g5:(upd H3 q1 (.tup [.str "both",v])) q1=S (.tup [.str "both",v]):=ae
         generalize upd H3 q1 (.tup [.str "both",v])=H5 at s5 g5 ⊢
         !FJ:=s5 _ _ jf
         #⟨_,U,_,U,B,_,_,_,U,U,FJ,oP _ _,?_⟩
         rw[pf]
         !og:TK H5 (upd H5 B (.lst (us.reverse++[.ref q1]))):=bC FJ (λt z=>nomatch z)
         !Ei:(upd H5 B (.lst (us.reverse++[.ref q1]))) r=S (bK C dx w (j2+1)):=by rw[ah Br.symm];#s5 _ _ pC
         !FK:(upd H5 B (.lst (us.reverse++[.ref q1]))) B=S (.lst (us.reverse++[.ref q1])):=ae
         !GP:Kp r H (upd H5 B (.lst (us.reverse++[.ref q1]))):=λb o hb nb=>by rw[ah (ag hb hB)];#s5 _ _ (kp1 b o hb nb)
         generalize upd H5 B (.lst (us.reverse++[.ref q1]))=H6 at og Ei FK GP ⊢
         !tk:=(sF.trans (ai.tk s5)).trans og
         #⟨w~-(j2+1),by lia,S v,j2+1,b,.R e::fs,.ref q1::us,U,U,⟨Ei,by lia,by !:fs~+1<=j2:=S8x.fl;change fs~+1<=j2+1;lia,?_,?_,?_,tJ,S8x.pl,GP⟩,?_⟩
         . rw[Sk]
           #FK
         . #.cons ⟨v,⟨q1,U,og _ _ g5⟩,ev.keep tk⟩ (Paired.imp (λf u z=>gu.keep tk z) Ak)
         . intro f hf
           rcases cv hf with z|z
           . rw[z];#S8x.eg
           . #S8x.fg f (RC _ z)
         . rw[p7,SK]
           rfl
     . !aN:aA w j'=33::(a.cps++(cg (.N::fs)++l)):=by
         rw[aN,vk]
         simp[cg]
       @⟨p7,pZ⟩:=bV aN
       !h1:(aA w j').take 1=[33]:=by rw[aN];rfl
       rw[h1,rB]
       #b6 ⟨λσ' H'=>∃d',d'<w~-j'/\(λ(d:Nat) (σ:L2.St) (Hx:Hp)=>∃(o2:Option V) (j':Nat) (e:TW.E) (fs:O Fc) (us:O V),σ=[S (.ref r),S (.ref B),o2]/\d=w~-j'/\j<=j'/\fq C r dx B w H e0 l Hx j' e fs us/\aA w j'=e.cps++(cg fs++l)) d' σ' H',λσ' H' z=>z,?_⟩
       #aq λRk kR=>?_
       #⟨_,U,.inl ⟨U,_,aH.of S8x.bg⟩,_,U,r,dx,_,U,S8x.rd,U,r,dx,w,j',U,S8x.rd,S8x.jl,hw,U,_,U,?_⟩
       rw[h1]
       #aG (λt=>?_) (λz=>au (by rw[qi];#hW rfl) z)
       #⟨YJ,λt1 zj=>?_⟩
       !st1:=af zj (.tup [.str "not"])
       !A5:(upd Fv t1 (.tup [.str "not"])) t1=S (.tup [.str "not"]):=ae
       generalize upd Fv t1 (.tup [.str "not"])=H3 at st1 A5 ⊢
       !jf:=st1 _ _ S8x.bg
       !pC:=st1 _ _ S8x.rd
       !kp1:=S8x.kp.same st1
       #⟨B,_,_,U,U,jf,Tv (show _<=4000 by rw[TV];!:=S8x.fl;!:=S8x.jl;lia) (by left),?_⟩
       !tk3:TK H3 (upd H3 B (.lst (us.reverse++[V.ref t1]))):=bC jf (λt z=>nomatch z)
       !Au:(upd H3 B (.lst (us.reverse++[V.ref t1]))) r=S (bK C dx w j'):=by rw[ah Br.symm];#pC
       !FI:(upd H3 B (.lst (us.reverse++[V.ref t1]))) B=S (.lst (us.reverse++[V.ref t1])):=ae
       !GO:Kp r H (upd H3 B (.lst (us.reverse++[V.ref t1]))):=λb o hb nb=>by rw[ah (ag hb hB)];#kp1 b o hb nb
       #kR _ (upd H3 B (.lst (us.reverse++[V.ref t1]))) ?_
       generalize upd H3 B (.lst (us.reverse++[V.ref t1]))=H4 at tk3 Au FI GO ⊢
       #⟨_,U,r,C,dx,_,_,U,Au,R5.c,R5.p,U,_,_,U,U,dx,_,Au,(by change 2<1000;decide),?_⟩
       !Jr:TK H4 (upd H4 r (bK C dx w (j'+1))):=bC Au (λt z=>nomatch z)
       !K0:Kp r H (upd H4 r (bK C dx w (j'+1))):=GO.self
       #⟨w~-(j'+1),by lia,o2,j'+1,a,.N::fs,V.ref t1::us,U,U,by lia,⟨ae,by lia,by !:=S8x.fl;change fs~+1<=j'+1;lia,by rw[Sk];#(ah Br).trans FI,.cons ⟨t1,U,Jr _ _ (tk3 _ _ A5)⟩ (Paired.imp (λf u z=>gu.keep (((ai.tk st1).trans tk3).trans Jr) z) S8x.pr),λf hf=>?_,ga,S8x.pl,K0⟩,p7⟩
       rcases cv hf with z|z
       . rw[z];#trivial
       . #S8x.fg f z
     . !aN:aA w j'=123::(a.cps++(cg (.L8 b::fs)++l)):=by
         rw[aN,ow]
         simp[cg]
       @⟨p7,pZ⟩:=bV aN
       !h1:(aA w j').take 1=[123]:=by rw[aN];rfl
       rw[h1,rB]
       #b6 ⟨λσ' H'=>∃d',d'<w~-j'/\(λ(d:Nat) (σ:L2.St) (Hx:Hp)=>∃(o2:Option V) (j':Nat) (e:TW.E) (fs:O Fc) (us:O V),σ=[S (.ref r),S (.ref B),o2]/\d=w~-j'/\j<=j'/\fq C r dx B w H e0 l Hx j' e fs us/\aA w j'=e.cps++(cg fs++l)) d' σ' H',λσ' H' z=>z,?_⟩
       #aq λRk kR=>?_
       #⟨_,U,.inl ⟨U,_,aH.of S8x.bg⟩,_,U,r,dx,_,U,S8x.rd,U,r,dx,w,j',U,S8x.rd,S8x.jl,hw,U,_,U,?_⟩
       rw[h1]
       #bc (gv (λz=>by injection z with z;rw[qi]at z;!z:=gW z;cases z)) ?_
       obtain⟨H3,L7⟩ : ∃x,x=Fv:=⟨_,rfl⟩
       !jf:=S8x.bg
       !pC:=S8x.rd
       !kp1:=S8x.kp
       !st1:ai Fv H3:=by rw[L7];#λt t z=>z
       rw[← L7]at jf pC kp1 ⊢
       #⟨B,_,_,U,U,jf,Tv (show _<=4000 by rw[TV];!:=S8x.fl;!:=S8x.jl;lia) (by left),?_⟩
       !tk3:TK H3 (upd H3 B (.lst (us.reverse++[V.bI]))):=bC jf (λt z=>nomatch z)
       !Au:(upd H3 B (.lst (us.reverse++[V.bI]))) r=S (bK C dx w j'):=by rw[ah Br.symm];#pC
       !FI:(upd H3 B (.lst (us.reverse++[V.bI]))) B=S (.lst (us.reverse++[V.bI])):=ae
       !GO:Kp r H (upd H3 B (.lst (us.reverse++[V.bI]))):=λb o hb nb=>by rw[ah (ag hb hB)];#kp1 b o hb nb
       #kR _ (upd H3 B (.lst (us.reverse++[V.bI]))) ?_
       generalize upd H3 B (.lst (us.reverse++[V.bI]))=H4 at tk3 Au FI GO ⊢
       #⟨_,U,r,C,dx,_,_,U,Au,R5.c,R5.p,U,_,_,U,U,dx,_,Au,(by change 2<1000;decide),?_⟩
       !Jr:TK H4 (upd H4 r (bK C dx w (j'+1))):=bC Au (λt z=>nomatch z)
       !K0:Kp r H (upd H4 r (bK C dx w (j'+1))):=GO.self
       #⟨w~-(j'+1),by lia,o2,j'+1,a,.L8 b::fs,V.bI::us,U,U,by lia,⟨ae,by lia,by !:=S8x.fl;change fs~+1<=j'+1;lia,by rw[Sk];#(ah Br).trans FI,.cons rfl (Paired.imp (λf u z=>gu.keep (((ai.tk st1).trans tk3).trans Jr) z) S8x.pr),λf hf=>?_,ga,S8x.pl,K0⟩,p7⟩
       rcases cv hf with z|z
       . rw[z];#gb
       . #S8x.fg f z
   . #⟨λ(d:Nat) (σ:L2.St) (Hx:Hp)=>σ=[S (.ref r),S (.ref B),Z]/\Hx r=S (bK C dx w i)/\Kp r H Hx,⟨0,U,by rw[ah Br.symm];#cW,(Kp.refl H).new hB⟩,λd σ Hx z=>?_⟩
     @⟨rfl,rx,kx⟩:=z
     #⟨_,U,b6 ⟨λσ' H'=>False,λσ' H' z=>z.elim,?_⟩⟩
     #aq λRk kR=>?_
     #⟨λ(d:Nat) (σ:L2.St) (Hx:Hp)=>σ=[S (.ref r),S (.ref B),Z]/\Hx r=S (bK C dx w i)/\Kp r H Hx,⟨0,U,rx,kx⟩,λd σ Hy z=>?_⟩
     @⟨rfl,ry,ky⟩:=z
     #⟨_,U,r,dx,_,U,ry,U,r,dx,w,i,U,ry,hi,hw,YK,λt0 tV=>?_⟩
     !Fm:=af tV (.tup [.str "!",.str "{"])
     !F3:(upd Hy t0 (.tup [.str "!",.str "{"])) t0=S (.tup [.str "!",.str "{"]):=ae
     generalize upd Hy t0 (.tup [.str "!",.str "{"])=Fv at Fm F3 ⊢
     #⟨t0,_,U,.inr (bS.of F3),U,U,_,U,?_⟩
     @⟨c,r',hc,hd⟩:=eJ (e:=.box "box" x) .box ⟨rfl,hx⟩ l
     !h1:(aA w i).take 1=[c]:=by
       !hl:aA w i=(TW.E.box "box" x).cps++l:=hl
       rw[hl,hc]
       rfl
     rw[h1,rB,gv (by lia),gv (by lia)]
     #bc U ?_
     #kR _ _ ?_
     #⟨_,U,r,dx,w,i,U,Fm _ _ ry,hi,vT,.inr ⟨x,l,hx,ny,hl,st,λH' k'=>q _ ((ky.same Fm).trans k')⟩⟩
def pQ {C cNR:J}(s:Src K mg "read_condition" qy)(R5:lE K C)(m_len:mg "len"=Z)(SI0:bN P w K mg base C "sign" ["self"] 1 (bW C))(DU0:bN P w K mg base C "due" ["self","sign"] 3 (lg C))(RT0:bQ P w K mg base "read_test" ["reader"] 7 (i5 C cNR)):bQ P w K mg base "read_condition" ["reader"] 8 (iZ C cNR):=
 let⟨f,fd,F,m⟩:=s
 ⟨f,fd,ui F R5 m_len SI0 DU0 RT0,F.kp,lG F λz z z z z z z=>rfl,m⟩
def i6 (cNR:J):Sp:=λvs H Q E=>(∃(d:Wd),vs=[.str d.kind,.str d.txt]/\d.G/\∀(v:V) (H':Hp),ai H H'->d.At H' v->Q v H')\/(∃x:Str,vs=[.str "condition",.str x]/\df x/\x≠"yes"/\∀H':Hp,ai H H'->E (.ref cNR) Z H')
def uo {C cNR TE:J}{f:J}{fd:RZ}(F:cD K "read_word" "read_word" qE f fd)(R5:lE K C)(m_len:mg "len"=Z)(cN:Xc K mg "NoRow" cNR (.ref TE::vE))(RD0:oi P w K mg base "Reader" C ["self","word"] 1 (i3 C))(NU0:bN P w K mg base C "number" ["self"] 3 (lh C))(NA0:bN P w K mg base C "name" ["self"] 3 (i4 C))(RS0:b7 P w K mg base "read_sum" ["reader"] 6 (lq C))(RC0:bQ P w K mg base "read_condition" ["reader"] 8 (iZ C cNR)):aY P w K mg base (eD P w base) 10 f fd ["kind","word"] (i6 cNR):=by
 #F.wU iX (λvs H Q E h=>?_) (λcdv A outer s H vs Q E hr h=>?_)
 . rcases h with⟨d,rfl,_⟩|⟨x,rfl,_⟩<;>rfl
 . !JE:=RD0.mono (show 1<=8 by left)
   !NU:=NU0.mono (show 3<=9 by left)
   !NA:=NA0.mono (show 3<=9 by left)
   !RS:=RS0.mono (show 6<=9 by left)
   !JD:=RC0.mono (show 8<=9 by left)
   #ig ⟨_,(Wv (Wy 2 iX.nd (L3.make JE hr U (L (Y 1) M)))
     (Wv (WB (Wx WL (Y 0) Wu) (Ww (Wy 3 iX.nd (W5 (Y 2) R5.c NA hr))) (Ww (WB (Wx WL (Y 0) Wu) (Ww (Wy 3 iX.nd (W5 (Y 2) R5.c NU hr))) (Ww (Wy 3 iX.nd (L3.MF (Wx WL (Y 0) Wu) (WA RS hr U (L (Y 2) M)) (Xd iV JD hr U (L (Y 2) M))))))))
     (Wv (WB (Wx Xn (Xr (Y 2)) (WJ L3.mL U m_len RG (L (Y 1) M))) (Ww (Xa cA cN U U (L Wu M))) WE)
     (Ww (WC (Y 3)))))),?_⟩
   #aq λRk kR=>?_
   rcases h with⟨d,rfl,hd,q⟩|⟨x,rfl,hx,ny,q⟩
   . !pY:=Wd.len hd
     #⟨_,U,λr dx yx Kt O0=>?_⟩
     #⟨r,dx,d.txt,U,ae,U,?_⟩
     !s1:ai H (upd (upd (upd H dx (.own r)) r (.ins C dx [])) r (bK C dx d.txt 0)):=λb o hb=>by
       rw[ah (ag hb yx),ah (ag hb yx),ah (ag hb Kt)]
       #hb
     !r1:(upd (upd (upd H dx (.own r)) r (.ins C dx [])) r (bK C dx d.txt 0)) r=S (bK C dx d.txt 0):=ae
     generalize upd (upd (upd H dx (.own r)) r (.ins C dx [])) r (bK C dx d.txt 0)=H1 at s1 r1 ⊢
     #ak (kR _ _ ?_)
     #aw [S (.str d.kind),S (.str d.txt),S (.ref r),Z] U ?_
     #aq λRk kR=>?_
     !z0:=HZ d.txt
     !hw:d.txt~<=sizeLine:=Ry pY (by left)
     match d,hd,q,pY,r1,z0,hw,kR with
     | .name x,hd,q,pY,r1,z0,hw,kR=>
       #⟨_,U,U,_,U,b6 ?_⟩
       #⟨_,U,r,dx,_,U,r1,U,r,dx,x,0,x,[],U,r1,Sd _,hw,hd,by rw[RY];#z0,(λc hc=>nomatch hc),?_⟩
       #ak (kR _ _ ?_)
       #aw [S (.str (Wd.kind (.name x))),S (.str (Wd.txt (.name x))),S (.ref r),S (V.str x)] U ?_
       #aq λRk kR=>?_
       #⟨_,U,r,C,dx,_,_,U,ae,R5.c,R5.p,U,_,U,_,U,Ry pY (by left),U,_,U,?_⟩
       #bc ?_ ?_
       . rw[show(0+x~:Nat)=x~ by lia];simp[Wd.txt]
       #kR _ _ ⟨_,U,q _ _ (λb o hb=>by rw[ah (ag hb yx)];#s1 b o hb) rfl⟩
     | .num i,hd,q,pY,r1,z0,hw,kR=>
       #⟨_,U,U,_,U,cb ?_⟩
       #⟨_,U,U,_,U,b6 ?_⟩
       #⟨_,U,r,dx,_,U,r1,U,r,dx,_,0,i,[],U,r1,Sd _,hw,hd,by rw[RY];#z0,(λc hc=>nomatch hc),?_⟩
       #ak (kR _ _ ?_)
       #aw [S (.str (Wd.kind (.num i))),S (.str (Wd.txt (.num i))),S (.ref r),S (V.int i)] U ?_
       #aq λRk kR=>?_
       #⟨_,U,r,C,dx,_,_,U,ae,R5.c,R5.p,U,_,U,_,U,Ry pY (by left),U,_,U,?_⟩
       #bc ?_ ?_
       . rw[show(0+(dU i)~:Nat)=(Rt (toString i))~ by rw[dU,bP];lia];simp[Wd.txt]
       #kR _ _ ⟨_,U,q _ _ (λb o hb=>by rw[ah (ag hb yx)];#s1 b o hb) rfl⟩
     | .sum e,hd,q,pY,r1,z0,hw,kR=>
       #⟨_,U,U,_,U,cb ?_⟩
       #⟨_,U,U,_,U,cb ?_⟩
       #⟨_,U,U,_,U,b6 ?_⟩
       #⟨_,U,r,dx,_,0,e,[],U,r1,Sd _,pY,hd.1,by rw[RY];#z0,(λc hc=>nomatch hc),λv H2 k2 r2 ev=>?_⟩
       #ak (kR _ _ ?_)
       #aw [S (.str (Wd.kind (.sum e))),S (.str (Wd.txt (.sum e))),S (.ref r),S v] U ?_
       #aq λRk kR=>?_
       #⟨_,U,r,C,dx,_,_,U,r2,R5.c,R5.p,U,_,U,_,U,Ry pY (by left),U,_,U,?_⟩
       #bc ?_ ?_
       . rw[show(0+e.cps~:Nat)=e.txt~ by unfold TW.E.cps;rw[bP];lia];simp[Wd.txt]
       #kR _ _ ⟨_,U,q _ _ (Kp.all s1 yx k2) ev⟩
     | .cond e,hd,q,pY,r1,z0,hw,kR=>
       #⟨_,U,U,_,U,cb ?_⟩
       #⟨_,U,U,_,U,cb ?_⟩
       #⟨_,U,U,_,U,cb ?_⟩
       #⟨_,U,r,dx,_,0,U,r1,Sd _,pY,.inl ⟨e,[],hd.1,by rw[RY];#z0,(λc hc=>nomatch hc),λv H2 k2 r2 ev=>?_⟩⟩
       #ak (kR _ _ ?_)
       #aw [S (.str (Wd.kind (.cond e))),S (.str (Wd.txt (.cond e))),S (.ref r),S v] U ?_
       #aq λRk kR=>?_
       #⟨_,U,r,C,dx,_,_,U,r2,R5.c,R5.p,U,_,U,_,U,Ry pY (by left),U,_,U,?_⟩
       #bc ?_ ?_
       . rw[show(0+e.cps~:Nat)=e.txt~ by unfold TW.E.cps;rw[bP];lia];simp[Wd.txt]
       #kR _ _ ⟨_,U,q _ _ (Kp.all s1 yx k2) ev⟩
   . #⟨_,U,λr dx yx Kt O0=>?_⟩
     #⟨r,dx,x,U,ae,U,?_⟩
     !s1:ai H (upd (upd (upd H dx (.own r)) r (.ins C dx [])) r (bK C dx x 0)):=λb o hb=>by
       rw[ah (ag hb yx),ah (ag hb yx),ah (ag hb Kt)]
       #hb
     !r1:(upd (upd (upd H dx (.own r)) r (.ins C dx [])) r (bK C dx x 0)) r=S (bK C dx x 0):=ae
     generalize upd (upd (upd H dx (.own r)) r (.ins C dx [])) r (bK C dx x 0)=H1 at s1 r1 ⊢
     #ak (kR _ _ ?_)
     #aw [S (.str "condition"),S (.str x),S (.ref r),Z] U ?_
     #aq λRk kR=>?_
     #⟨_,U,U,_,U,cb ?_⟩
     #⟨_,U,U,_,U,cb ?_⟩
     #⟨_,U,U,_,U,cb ?_⟩
     #⟨_,U,r,dx,x,0,U,r1,Sd _,Ry hx.l8 (by left),.inr ⟨x,[],hx,ny,by rw[RY];rfl,(λc hc=>nomatch hc),λH' k'=>q _ (Kp.all s1 yx k')⟩⟩
def pU {C cNR TE:J}(s:Src K mg "read_word" qE)(R5:lE K C)(m_len:mg "len"=Z)(cN:Xc K mg "NoRow" cNR (.ref TE::vE))(RD0:oi P w K mg base "Reader" C ["self","word"] 1 (i3 C))(NU0:bN P w K mg base C "number" ["self"] 3 (lh C))(NA0:bN P w K mg base C "name" ["self"] 3 (i4 C))(RS0:b7 P w K mg base "read_sum" ["reader"] 6 (lq C))(RC0:bQ P w K mg base "read_condition" ["reader"] 8 (iZ C cNR)):bQ P w K mg base "read_word" ["kind","word"] 10 (i6 cNR):=
 let⟨f,fd,F,m⟩:=s
 ⟨f,fd,uo F R5 m_len cN RD0 NU0 NA0 RS0 RC0,F.kp,lH F λz z z z z z z z=>rfl,m⟩
abbrev dY:O Str:=["say q","","end 0","test q 0 0"]
def jW (cNR:J):Sp:=λvs H Q E=>(∃(head:Str) (ds:O Wd),vs=[.str (du head ds)]/\iC head ds/\∀(v:V) (H':Hp),ai H H'->yI H' v head ds->Q v H')\/(∃x:Str,vs=[.str x]/\x∈dY/\∀H':Hp,ai H H'->E (.ref cNR) Z H')
def yh:S7 "say q" " "=(["say","q"]:O Str):=by right
def BM:S7 "" " "=([""]:O Str):=by right
def yg:S7 "end 0" " "=(["end","0"]:O Str):=by right
def sd:S7 "test q 0 0" " "=(["test","q","0","0"]:O Str):=by right
def GU:df "q":=⟨by left,by left,by right⟩
def w6 {aF cNR TE:J}{f:J}{fd:RZ}(F:cD K "read_row" "read_row" rS f fd)(m_len:mg "len"=Z)(m_zip:mg "zip"=Z)(m_tuple:mg "tuple"=Z)(hF:mg "FORMS"=S (.ref aF))(dF:fV w K aF)(dF0:∃kvs,eG w K aF kvs/\kvs.lookup ("":Str)=Z)(cN:Xc K mg "NoRow" cNR (.ref TE::vE))(RWd:bQ P w K mg base "read_word" ["kind","word"] 10 (i6 cNR)):aY P w K mg base (eD P w base) 11 f fd ["row"] (jW cNR):=by
 #F.wU qF (λvs H Q E h=>?_) (λcdv A outer s H vs Q E hr h=>?_)
 . rcases h with⟨d,e,rfl,_⟩|⟨x,rfl,_⟩<;>rfl
 . #ig ⟨_,(Wv (Wy 1 qF.nd (L3.yj (Y 0) (L Wu M)))
     (Wv (Wy 2 qF.nd (L3.PY (WU (w:=.ref aF) U hF rfl) (Wz WK (Y 1) Ws)))
     (Wv (WB (WV (Xq (Wx L3.GZ (Y 2) XD) (XA (Wx Xn (WJ WO U m_len RG (L (Y 1) M)) (Wt WN (WJ WO U m_len RG (L (Y 2) M)) Ws))))) (Ww (Xa cA cN U U (L Wu M))) WE)
     (Ww (WC (Wt L3.ql (WH (L (Wz WK (Y 1) Ws) M)) (W4 L3.yN U m_tuple (by right) (L (L3.P1 [Z,Z] ["kind","word"] (oa rS) U (L3.PL true false U m_zip (L (Y 2) (L (L3.EC (Y 1) Ws) M))) (λy y y y y hp=>⟨(Xb 2 (WQ (WI 0 (jr ["kind","word"])) (WQ (WI 1 (jr ["kind","word"])) W2))),WZ,(Xd hp RWd hr U (L (Y 0) (L (Y 1) M)))⟩)) M)))))))),?_⟩
   #aq λRk kR=>?_
   rcases h with⟨head,ds,rfl,rg,q⟩|⟨x,rfl,hx,q⟩
   . @⟨d3,rl⟩:=rg.len
     @⟨tF,kvs,kd,lk,sq⟩:=dF _ rg.fr
     #⟨_,U,U,_,_,U,U,U,Ry (show _<=20000 by lia) (by left),?_,λl1 iK=>?_⟩
     . rw[rg.split,RE,Rn]
       #Ry (show _<=20000 by lia) (by left)
     rw[rg.split]
     @⟨H1,s1,g1,zz⟩:=aZ iK (.lst ((head::ds.map Wd.txt).map V.str))
     rw[zz];clear zz
     #ak (kR _ _ ?_)
     #aw [S (.str (du head ds)),S (.ref l1),Z] U ?_
     #aq λRk kR=>?_
     #⟨aF,kvs,U,kd,_,U,?_⟩
     #cH g1 iG ?_
     #⟨head,U,?_⟩
     rw[lk]
     #ak (kR _ _ ?_)
     #aw [S (.str (du head ds)),S (.ref l1),S (.ref tF)] U ?_
     #aq λRk kR=>?_
     #⟨_,U,U,_,U,bc rfl ?_⟩
     #⟨_,U,l1,_,U,.inl (aH.of g1),_,U,tF,_,U,.inr (sq _),_,_,U,U,U,_,U,?_⟩
     #bc ?_ ?_
     . simp
     #kR _ _ ?_
     #⟨_,U,?_⟩
     #cH g1 iG ?_
     #⟨YJ,λt1 zj=>?_⟩
     @⟨H2,s2,g2,zz⟩:=aZ zj (.tup [.str head])
     rw[zz];clear zz
     #⟨_,U,_,U,_,U,l1,_,U,aH.of (s2 _ _ g1),λl2 pX=>?_⟩
     rw[R3,oz]
     @⟨H3,s3,g3,zz⟩:=aZ pX (.lst ((ds.map Wd.txt).map V.str))
     rw[zz];clear zz
     #⟨tF,l2,U,⟨_,sq _⟩,⟨_,aH.of g3⟩,λD hD=>?_⟩
     !hlen:((ds.map Wd.kind).map V.str)~=((ds.map Wd.txt).map V.str)~:=by simp
     #l7 (xs:=(ds.map Wd.kind).map V.str) (ys:=(ds.map Wd.txt).map V.str) hlen (λi Hx=>ai H3 Hx/\∃vals,Hx D=S (.lst vals)/\Paired (λu (d:Wd)=>d.At Hx u) vals (ds.take i)) ⟨af hD _,[],ae,.nil⟩ (λi Hx y z=>⟨sq _,aH.of (z.1 _ _ g3)⟩) (λi k0 v0 pp Hx CD Jj z md=>?_) (λHx z=>?_)
     . @⟨sx,vals,gD,pv⟩:=z
       @⟨k,hk,rfl⟩:=cX CD
       @⟨d,hd,rfl⟩:=cX hk
       !eE:i<((ds.map Wd.kind).map V.str)~:=(cy CD)
       !O4:i<ds~:=by simpa using eE
       !Oa:v0=.str d.txt:=by
         rw[Sb,Sb,hd]at Jj
         #(Sa Jj).symm
       subst Oa
       !sp:=af md (.tup [.str d.kind,.str d.txt])
       #yC ae ?_
       #de (A:=λH5=>dJ _ D _ H5 _) ?_
       #⟨_,U,_,U,.inl ⟨d,U,rg.g d (RL hd),λv H' s' av=>?_⟩⟩
       !sa:=aa sp s'
       !lv:=Paired.length pv
       rw[R8]at lv
       !Nl:TK H' (upd H' D (.lst (vals++[v]))):=bC (sa _ _ gD) (λy z=>nomatch z)
       #⟨_,sa _ _ gD,aW (by lia),bq (Pv:=λi Hx=>ai H3 Hx/\∃vals,Hx D=S (.lst vals)/\Paired (λu (d:Wd)=>d.At Hx u) vals (ds.take i)) (by repeat' constructor) eE ⟨bo (aa sx sa) hD,vals++[v],ae,?_⟩⟩
       rw[R9,hd]
       #(Paired.imp (λu d z=>(z.keep (ai.tk sa)).keep Nl) pv).snoc (av.keep Nl)
     @⟨sx,vals,gD,pv⟩:=z
     rw[show((ds.map Wd.kind).map V.str)~=ds~ by simp,Sf]at pv
     !lv:=Paired.length pv
     #⟨D,_,U,aH.of gD,λt2 Pt=>?_⟩
     !s4:=af Pt (.tup vals)
     !g4:(upd Hx t2 (.tup vals)) t2=S (.tup vals):=ae
     generalize upd Hx t2 (.tup vals)=H5 at s4 g4 ⊢
     !Il:=aa (aa (aa (aa s1 s2) s3) sx) s4
     #⟨t1,t2,_,_,U,U,bS.of (s4 _ _ (sx _ _ (s3 _ _ g2))),bS.of g4,(λz=>nomatch z),Ry (show _<=1000 by rw[Sj];lia) (by left),(λz=>?_),λy p hp=>?_⟩
     . #q _ _ Il ⟨t1,[],U,s4 _ _ (sx _ _ (s3 _ _ g2)),?_⟩
       rw[z]at pv
       #Paired.imp (λy y z=>z.keep (ai.tk s4)) pv
     . #q _ _ (az Il hp) ⟨p,vals,U,ae,Paired.imp (λy y z=>(z.keep (ai.tk s4)).keep (ai.tk (af hp _))) pv⟩
   . simp only[Sh,R4,or_false]at hx
     rcases hx with rfl|rfl|rfl|rfl
     . #⟨_,U,U,_,_,U,U,U,(by right),?_,λl1 iK=>?_⟩
       . rw[yh]
         #(by left:2<=sizeLine)
       rw[yh]
       @⟨H1,s1,g1,zz⟩:=aZ iK (.lst ((["say","q"]:O Str).map V.str))
       rw[zz];clear zz
       #ak (kR _ _ ?_)
       #aw [S (.str "say q"),S (.ref l1),Z] U ?_
       #aq λRk kR=>?_
       @⟨tF,kvs,kd,lk,sq⟩:=dF ("say",["sum","number"]) (by left)
       #⟨aF,kvs,U,kd,_,U,?_⟩
       #cH g1 iG ?_
       #⟨"say",U,?_⟩
       rw[lk]
       #ak (kR _ _ ?_)
       #aw [S (.str "say q"),S (.ref l1),S (.ref tF)] U ?_
       #aq λRk kR=>?_
       #⟨_,U,U,_,U,bc rfl ?_⟩
       #⟨_,U,l1,_,U,.inl (aH.of g1),_,U,tF,_,U,.inr (sq _),_,_,U,U,U,_,U,?_⟩
       #b6 ?_
       #⟨_,U,q _ s1⟩
     . #⟨_,U,U,_,_,U,U,U,(by right),?_,λl1 iK=>?_⟩
       . rw[BM]
         #(by left:1<=sizeLine)
       rw[BM]
       @⟨H1,s1,g1,zz⟩:=aZ iK (.lst (([""]:O Str).map V.str))
       rw[zz];clear zz
       #ak (kR _ _ ?_)
       #aw [S (.str ""),S (.ref l1),Z] U ?_
       #aq λRk kR=>?_
       @⟨kvs,kd,lk⟩:=dF0
       #⟨aF,kvs,U,kd,_,U,?_⟩
       #cH g1 iG ?_
       #⟨"",U,?_⟩
       rw[lk]
       #ak (kR _ _ ?_)
       #aw [S (.str ""),S (.ref l1),S .bI] U ?_
       #aq λRk kR=>?_
       #⟨_,U,U,_,U,b6 (b6 ?_)⟩
       #⟨_,U,q _ s1⟩
     . #⟨_,U,U,_,_,U,U,U,(by right),?_,λl1 iK=>?_⟩
       . rw[yg]
         #(by left:2<=sizeLine)
       rw[yg]
       @⟨H1,s1,g1,zz⟩:=aZ iK (.lst ((["end","0"]:O Str).map V.str))
       rw[zz];clear zz
       #ak (kR _ _ ?_)
       #aw [S (.str "end 0"),S (.ref l1),Z] U ?_
       #aq λRk kR=>?_
       @⟨tF,kvs,kd,lk,sq⟩:=dF ("end",[]) (by left)
       #⟨aF,kvs,U,kd,_,U,?_⟩
       #cH g1 iG ?_
       #⟨"end",U,?_⟩
       rw[lk]
       #ak (kR _ _ ?_)
       #aw [S (.str "end 0"),S (.ref l1),S (.ref tF)] U ?_
       #aq λRk kR=>?_
       #⟨_,U,U,_,U,bc rfl ?_⟩
       #⟨_,U,l1,_,U,.inl (aH.of g1),_,U,tF,_,U,.inr (sq _),_,_,U,U,U,_,U,?_⟩
       #b6 ?_
       #⟨_,U,q _ s1⟩
     . #⟨_,U,U,_,_,U,U,U,(by right),?_,λl1 iK=>?_⟩
       . rw[sd]
         #(by left:4<=sizeLine)
       rw[sd]
       @⟨H1,s1,g1,zz⟩:=aZ iK (.lst ((["test","q","0","0"]:O Str).map V.str))
       rw[zz];clear zz
       #ak (kR _ _ ?_)
       #aw [S (.str "test q 0 0"),S (.ref l1),Z] U ?_
       #aq λRk kR=>?_
       @⟨tF,kvs,kd,lk,sq⟩:=dF ("test",["condition","number","number"]) (by left)
       #⟨aF,kvs,U,kd,_,U,?_⟩
       #cH g1 iG ?_
       #⟨"test",U,?_⟩
       rw[lk]
       #ak (kR _ _ ?_)
       #aw [S (.str "test q 0 0"),S (.ref l1),S (.ref tF)] U ?_
       #aq λRk kR=>?_
       #⟨_,U,U,_,U,bc rfl ?_⟩
       #⟨_,U,l1,_,U,.inl (aH.of g1),_,U,tF,_,U,.inr (sq _),_,_,U,U,U,_,U,?_⟩
       #bc (by left) ?_
       #kR _ _ ?_
       #⟨_,U,?_⟩
       #cH g1 iG ?_
       #⟨YJ,λt1 zj=>?_⟩
       @⟨H2,s2,g2,zz⟩:=aZ zj (.tup [.str "test"])
       rw[zz];clear zz
       #⟨_,U,_,U,_,U,l1,_,U,aH.of (s2 _ _ g1),λl2 pX=>?_⟩
       rw[R3,oz]
       @⟨H3,s3,g3,zz⟩:=aZ pX (.lst ((["q","0","0"]:O Str).map V.str))
       rw[zz];clear zz
       #⟨tF,l2,U,⟨_,sq _⟩,⟨_,aH.of g3⟩,λD hD=>?_⟩
       #l7 (xs:=(["condition","number","number"]:O Str).map V.str) (ys:=(["q","0","0"]:O Str).map V.str) rfl (λi Hx=>ai H3 Hx/\i=0) ⟨af hD _,U⟩ (λi Hx y z=>⟨sq _,aH.of (z.1 _ _ g3)⟩) (λi k0 v0 pp Hx CD Jj z md=>?_) (λHx z=>au z.2 (by left))
       @⟨sx,rfl⟩:=z
       cases CD
       cases Jj
       !sp:=af md (.tup [.str "condition",.str "q"])
       #yC ae ?_
       #de (A:=λH5=>dJ _ D _ H5 _) ?_
       #⟨_,U,_,U,.inr ⟨"q",U,GU,by left,λH' s'=>q _ (aa (aa (aa s1 s2) s3) (aa (aa sx sp) s'))⟩⟩
def tN {aF cNR TE:J}(s:Src K mg "read_row" rS)(m_len:mg "len"=Z)(m_zip:mg "zip"=Z)(m_tuple:mg "tuple"=Z)(hF:mg "FORMS"=S (.ref aF))(dF:fV w K aF)(dF0:∃kvs,eG w K aF kvs/\kvs.lookup ("":Str)=Z)(cN:Xc K mg "NoRow" cNR (.ref TE::vE))(RWd:bQ P w K mg base "read_word" ["kind","word"] 10 (i6 cNR)):bQ P w K mg base "read_row" ["row"] 11 (jW cNR):=
 let⟨f,fd,F,m⟩:=s
 ⟨f,fd,w6 F m_len m_zip m_tuple hF dF dF0 cN RWd,F.kp,lG F λz z z z z z z=>rfl,m⟩
abbrev nP:Stmt:=top 25
abbrev qB:Stmt:=top 43
def xU:aC ["boxes","inputs","nodes"] ["boxes","inputs","nodes"] (ao nP):=eU
def qm {sP:J}{f:J}{fd:RZ}(F:cD K "picked_program" "picked_program" nP f fd)(PO:bQ P w K mg base "program_of" ["boxes","inputs","nodes"] 24 (cq sP)):aY P w K mg base (eD P w base) 25 f fd ["boxes","inputs","nodes"] (cq sP):=by
 #F.wU xU (λvs H Q E h=>?_) (λcdv A outer s H vs Q E hr h=>?_)
 . @⟨B,I,N,vb,vn,bs,ins,nds,rfl,_⟩:=h
   rfl
 . @⟨B,I,N,vb,vn,bs,ins,nds,rfl,ap,q1,q2⟩:=h
   #ig ⟨_,(Ww (WC (Xd iV PO hr U (L (Y 0) (L (Y 1) (L (Y 2) M)))))),?_⟩
   #⟨_,U,_,U,_,U,B,I,N,vb,vn,bs,ins,nds,U,ap,q1,q2⟩
def oG {sP:J}(s:Src K mg "picked_program" nP)(PO:bQ P w K mg base "program_of" ["boxes","inputs","nodes"] 24 (cq sP)):bQ P w K mg base "picked_program" ["boxes","inputs","nodes"] 25 (cq sP):=
 let⟨f,fd,F,m⟩:=s
 ⟨f,fd,qm F PO,F.kp,Ci F λz z z z z z z z z=>rfl,m⟩
inductive Rw where
 | box (b:Str×Int)|inp (x:Str)|nd (e:Np)
def Np.hd:Np->Str
 | .put _ _ _=>"put" | .say _ _=>"say" | .test _ _ _=>"test" | .pick _ _=>"pick" | .fin=>"end"
def Np.jC:Np->O Wd
 | .put x s n=>[.name x,.sum s,.num n]|.say s n=>[.sum s,.num n]|.test c n o=>[.cond c,.num n,.num o]|.pick x n=>[.name x,.num n]|.fin=>[]
def Rw.hd:Rw->Str
 | .box _=>"box" | .inp _=>"input" | .nd e=>e.hd
def Rw.jC:Rw->O Wd
 | .box b=>[.name b.1,.num b.2]|.inp x=>[.name x]|.nd e=>e.jC
def Rw.rank:Rw->Nat
 | .box _=>0|.inp _=>1|.nd _=>2
def rowsOf (bs:aB)(ins:O Str)(nds:O Np):O Rw:=bs.map .box++ins.map .inp++nds.map .nd
def Np.IM:∀e:Np,e.ws=e.hd::e.jC.map Wd.txt
 | .put _ _ _=>rfl|.say _ _=>rfl|.test _ _ _=>rfl|.pick _ _=>rfl|.fin=>rfl
def eS (bs:aB)(ins:O Str)(nds:O Np):textOf bs ins nds=(rowsOf bs ins nds).map λr=>du r.hd r.jC:=by
 unfold textOf rowsOf
 rw[RW,RW,Te,Te,Te]
 congr 1
 #List.map_congr_left λe z=>?_
 change RM bG e.ws=du e.hd e.jC
 rw[Np.IM]
def pw.wd {e:E}(h:pw 30 e):(Wd.sum e).G:=⟨⟨h.is,h.ok⟩,h.len⟩
def pL.wd {e:E}(h:pL 30 e):(Wd.cond e).G:=⟨⟨h.is,h.ok⟩,h.len⟩
def E7.row {bs:aB}{ins:O Str}{nds:O Np}(h:E7 bs ins nds):∀r∈rowsOf bs ins nds,iC r.hd r.jC:=by
 intro r hr
 rcases ez hr with hr|hr
 . rcases ez hr with hr|hr
   . @⟨b,hb,rfl⟩:=fc hr
     #⟨by change(("box":Str),(["name","number"]:O Str))∈bZ;decide,λd hd=>?_⟩
     rcases cv hd with rfl|hd
     . #(h.b b hb).1
     . rw[di hd];#(h.b b hb).2
   . @⟨x,hx,rfl⟩:=fc hr
     #⟨by change(("input":Str),(["name"]:O Str))∈bZ;decide,λd hd=>?_⟩
     rw[di hd]
     #h.i x hx
 . @⟨e,he,rfl⟩:=fc hr
   !we:=h.n e he
   match e,we with
   | .put x s n,we=>
     #⟨by change(("put":Str),(["name","sum","number"]:O Str))∈bZ;decide,λd hd=>?_⟩
     rcases cv hd with rfl|hd
     . #we.1
     rcases cv hd with rfl|hd
     . #we.2.1.wd
     rw[di hd]
     #we.2.2
   | .say s n,we=>
     #⟨by change(("say":Str),(["sum","number"]:O Str))∈bZ;decide,λd hd=>?_⟩
     rcases cv hd with rfl|hd
     . #we.1.wd
     rw[di hd]
     #we.2
   | .test c n o,we=>
     #⟨by change(("test":Str),(["condition","number","number"]:O Str))∈bZ;decide,λd hd=>?_⟩
     rcases cv hd with rfl|hd
     . #we.1.wd
     rcases cv hd with rfl|hd
     . #we.2.1
     rw[di hd]
     #we.2.2
   | .pick x n,we=>
     #⟨by change(("pick":Str),(["name","number"]:O Str))∈bZ;decide,λd hd=>?_⟩
     rcases cv hd with rfl|hd
     . #we.1
     rw[di hd]
     #we.2
   | .fin,_=>#⟨by change(("end":Str),([]:O Str))∈bZ;decide,λd hd=>nomatch hd⟩
def Ek {head:Str}{ds:O Wd}(h:iC head ds):∀c∈(du head ds).cps.toList,32<=c:=by
 !hg:=h.ge
 change ∀c∈(Sr " " (head::ds.map Wd.txt)).cps.toList,32<=c
 rw[StrLaws.glued_eq_join,Ln,eM]
 !key:∀l:O Str,(∀x∈l,∀c∈x.cps.toList,33<=c)->∀c∈jl 32 (l.map λx=>x.cps.toList),32<=c:=by
   intro l
   induction l with
   | nil=>intro _ c hc;cases hc
   | cons a l ih=>
     intro hl c hc
     !ha:=hl a Ru
     !ih:=ih λx hx=>hl x (RC _ hx)
     cases l with
     | nil=>have:=ha c hc;lia
     | cons b r=>
       have hc:c∈a.cps.toList++32::jl 32 ((b::r).map λx=>x.cps.toList):=hc
       rcases ez hc with z|z
       . !:=ha c z;lia
       . rcases cv z with rfl|z
         . #Rz _
         . #ih c z
 #key _ hg
def El {head:Str}{ds:O Wd}(h:iC head ds):du head ds≠TR:=by
 change Sr " " (head::ds.map Wd.txt)≠_
 rw[StrLaws.glued_eq_join,Ln]
 #nq (gh _ h.fr).2.2.1
def yI.np {H:Hp}:∀{e:Np} {v:V},yI H v e.hd e.jC->b8 H v e
 | .put x s n,_,⟨p,vals,rfl,hp,pv⟩=>by
   match vals,pv with
   | [a,b,c],.cons h1 (.cons h2 (.cons h3 .nil))=>
     have h1:a=.str x:=h1
     have h3:c=.int n:=h3
     subst h1 h3
     #⟨b,⟨p,U,hp⟩,h2⟩
 | .say s n,_,⟨p,vals,rfl,hp,pv⟩=>by
   match vals,pv with
   | [b,c],.cons h2 (.cons h3 .nil)=>
     have h3:c=.int n:=h3
     subst h3
     #⟨b,⟨p,U,hp⟩,h2⟩
 | .test e n o,_,⟨p,vals,rfl,hp,pv⟩=>by
   match vals,pv with
   | [a,b,c],.cons h1 (.cons h2 (.cons h3 .nil))=>
     have h2:b=.int n:=h2
     have h3:c=.int o:=h3
     subst h2 h3
     #⟨a,⟨p,U,hp⟩,h1⟩
 | .pick x n,_,⟨p,vals,rfl,hp,pv⟩=>by
   match vals,pv with
   | [a,b],.cons h1 (.cons h2 .nil)=>
     have h1:a=.str x:=h1
     have h2:b=.int n:=h2
     subst h1 h2
     #⟨p,U,hp⟩
 | .fin,_,⟨p,vals,rfl,hp,pv⟩=>by
   match vals,pv with
   | [],.nil=>#⟨p,rfl,hp⟩
def Rw.NM:Rw->Option (Str×Int)
 | .box b=>S b|_=>Z
def Rw.NP:Rw->Option Str
 | .inp x=>S x|_=>Z
def Rw.NQ:Rw->Option Np
 | .nd e=>S e|_=>Z
def lI (l:O Rw):aB:=l.filterMap Rw.NM
def inR (l:O Rw):O Str:=l.filterMap Rw.NP
def lP (l:O Rw):O Np:=l.filterMap Rw.NQ
def m7 {α β:Type}{f:β->α}{g:α->Option β}(h:∀b,g (f b)=S b)(l:O β):(l.map f).filterMap g=l:=by
 induction l with
 | nil=>rfl
 | cons a l ih=>rw[R3,List.filterMap_cons_some (h a),ih]
def f9 {α β γ:Type}{f:β->α}{g:α->Option γ}(h:∀b,g (f b)=Z)(l:O β):(l.map f).filterMap g=[]:=by
 induction l with
 | nil=>rfl
 | cons a l ih=>rw[R3,List.filterMap_cons_none (h a),ih]
def ve (bs:aB)(ins:O Str)(nds:O Np):lI (rowsOf bs ins nds)=bs:=by
 unfold lI rowsOf
 rw[R7,R7,m7 (f:=Rw.box) (λz=>rfl),f9 (f:=Rw.inp) (λz=>rfl),f9 (f:=Rw.nd) (λz=>rfl),RY,RY]
def vV (bs:aB)(ins:O Str)(nds:O Np):inR (rowsOf bs ins nds)=ins:=by
 unfold inR rowsOf
 rw[R7,R7,f9 (f:=Rw.box) (λz=>rfl),m7 (f:=Rw.inp) (λz=>rfl),f9 (f:=Rw.nd) (λz=>rfl),VA,RY]
def wA (bs:aB)(ins:O Str)(nds:O Np):lP (rowsOf bs ins nds)=nds:=by
 unfold lP rowsOf
 rw[R7,R7,f9 (f:=Rw.box) (λz=>rfl),f9 (f:=Rw.inp) (λz=>rfl),m7 (f:=Rw.nd) (λz=>rfl),VA,VA]
def gq {bs:aB}{ins:O Str}{nds:O Np}:(rowsOf bs ins nds).Pairwise λa b=>a.rank<=b.rank:=by
 unfold rowsOf
 !c:∀{α:Type} (f:α->Rw) (k:Nat) (h:∀a,(f a).rank=k) (l:O α),(l.map f).Pairwise λa b=>a.rank<=b.rank:=λf k h l=>by
   rw[List.pairwise_map]
   show List.pairwise_of_forall λ{a b}=>by rw[h,h];#Rz _
 #List.pairwise_append.mpr ⟨List.pairwise_append.mpr ⟨c _ 0 (λz=>rfl) _,c _ 1 (λz=>rfl) _,λa ha b hb=>?_⟩,c _ 2 (λz=>rfl) _,λa ha b hb=>?_⟩
 . @⟨x,_,rfl⟩:=fc ha
   #Sd _
 . @⟨x,_,rfl⟩:=fc hb
   cases a with|box _=>show Sd 2|inp _=>show Ve 1|nd _=>show Rz 2
abbrev Jo:O (Str×V):=[("box",.int 0),("input",.int 1)]
def Aw:∀r:Rw,(Jo.lookup r.hd).getD (.int 2)=.int (r.rank:Int)
 | .box _=>rfl|.inp _=>rfl|.nd (.put _ _ _)=>rfl|.nd (.say _ _)=>rfl|.nd (.test _ _ _)=>rfl|.nd (.pick _ _)=>rfl|.nd .fin=>rfl
structure Rp (H Hx:Hp)(B I N:J)(vb vi vn:O V)(l:O Rw):Prop where
 s:ai H Hx
 hB:Hx B=S (.lst vb)
 hI:Hx I=S (.lst vi)
 hN:Hx N=S (.lst vn)
 pb:Paired (fm Hx) vb (lI l)
 pi:vi=(inR l).map V.str
 pn:Paired (b8 Hx) vn (lP l)
structure Np.good (bs:aB)(m:Nat)(nd:Np):Prop where
 ld:∀n∈nd.gJ,0<=n/\n<(m:Int)
 kn:∀e∈nd.fw,e.okIn (JK bs)/\e.dep<=19
structure AW (bs:aB)(ins:O Str)(nds:O Np):Prop where
 wr:E7 bs ins nds
 bx:yE bs
 ind:ins.Nodup
 insub:∀x∈ins,x∈bs.map (·.1)
 one:1<=nds~
 good:∀e∈nds,e.good bs nds~
structure yD (bs:aB)(ins:O Str)(nds:O Np):Prop where
 bs2:∀b∈bs,b.1~<=2000
 is2:∀x∈ins,x~<=2000
 ld:∀nd∈nds,∀l∈nd.gJ,l.natAbs<2^1900
 td:∀nd∈nds,∀e∈nd.fw,e.okIn fe/\e.dep<20
def lj (cNR sP:J):Sp:=λvs H z E=>∃(tx:Str) (pre:O Rw) (tl:O Str),vs=[.str tx]/\S7 tx "\n"=pre.map (λr=>du r.hd r.jC)++tl/\tx~+2<=sizeLine/\pre~<=408/\tl~<=500/\(∀r∈pre,iC r.hd r.jC)/\(pre.Pairwise λa b=>a.rank<=b.rank) /\
 ((tl=[]/\yD (lI pre) (inR pre) (lP pre)/\¬ dX (lI pre) (inR pre) (lP pre)/\∀H':Hp,ai H H'->E (.ref sP) Z H')\/(∃x post,tl=x::post/\x∈dY/\∀H':Hp,ai H H'->E (.ref cNR) Z H'))
def dv:aC ["text","boxes","inputs","nodes","least","row","told","rank"] ["text"] (ao qB):=eU
def uj {aR cNR sP TE:J}{f:J}{fd:RZ}(F:cD K "read_program" "read_program" qB f fd)(hR:mg "RANKS"=S (.ref aR))(dR:eG w K aR Jo)(cK:mI mg "NODE_RANK" 2)(cN:Xc K mg "NoRow" cNR (.ref TE::vE))(RR0:bQ P w K mg base "read_row" ["row"] 11 (jW cNR))(PP:bQ P w K mg base "picked_program" ["boxes","inputs","nodes"] 25 (cq sP)):aY P w K mg base (eD P w base) 26 f fd ["text"] (lj cNR sP):=by
 #F.wU dv (λvs H Q E h=>?_) (λcdv A outer s H vs Q E hr h=>?_)
 . @⟨tx,pre,tl,rfl,_⟩:=h
   rfl
 . !RR:=RR0.mono (show 11<=25 by left)
   @⟨tx,pre,tl,rfl,hsp,Ji,rl,Ls,rg,gq,cs⟩:=h
   #ig ⟨_,(Wv (Xj (WH (L (WD M) (L (WD M) (L (WD M) (L Ws M))))) (Xb 4 (WQ (WI 1 dv.nd) (WQ (WI 2 dv.nd) (WQ (WI 3 dv.nd) (WQ (WI 4 dv.nd) W2))))))
     (Wv (W8 (WW (L3.yj (Y 0) (L Wu M))) (WI 5 dv.nd) (Wv (Wy 6 dv.nd (Xd iV RR hr U (L (Y 5) M)))
     (Wv (Wy 7 dv.nd (L3.PZ (WU (w:=.ref aR) U hR rfl) (Wz WM (Y 6) Ws) (WU (w:=.int 2) U cK.choose_spec ⟨_,rfl⟩)))
     (Wv (WB (Wx Xl (Y 7) (Y 4)) (Ww (Xa cA cN U U (L Wu M))) WE)
     (Wv (Wy 4 dv.nd (Y 7))
     (Ww (WB (Wx WL (Y 7) Ws) (Ww (W0 (Xt (Y 1) (L (WH (L (Wz WM (Y 6) Ws) (L (Wz WM (Y 6) Ws) M))) M)))) (Ww (WB (Wx WL (Y 7) Ws) (Ww (W0 (Xt (Y 2) (L (Wz WM (Y 6) Ws) M)))) (Ww (W0 (Xt (Y 3) (L (Y 6) M)))))))))))) (hp:=Sn))
     (Ww (WC (Xd iV PP hr U (L (Y 1) (L (Y 2) (L (Y 3) M)))))))),?_⟩
   #aq λRk kR=>?_
   #⟨YI,λB hB=>?_⟩
   @⟨H1,sB,gB,zz⟩:=aZ hB (.lst [])
   rw[zz];clear zz
   #⟨YI,λI hI=>?_⟩
   @⟨H2,sI,gI,zz⟩:=aZ hI (.lst [])
   rw[zz];clear zz
   #⟨YI,λN hN=>?_⟩
   @⟨H3,sN,gN,zz⟩:=aZ hN (.lst [])
   rw[zz];clear zz
   !BI:B≠I:=ag gB hI
   !IN:I≠N:=ag gI hN
   !BN:B≠N:=ag (sI _ _ gB) hN
   !nB:=hB
   !nI:=aS sB hI
   !nN:=aS (aa sB sI) hN
   #⟨YM,λq4 Pk=>?_⟩
   !s4:=af Pk (.tup [.ref B,.ref I,.ref N,.int 0])
   !g4:(upd H3 q4 (.tup [.ref B,.ref I,.ref N,.int 0])) q4=S (.tup [.ref B,.ref I,.ref N,.int 0]):=ae
   generalize upd H3 q4 (.tup [.ref B,.ref I,.ref N,.int 0])=H4 at s4 g4 ⊢
   #⟨q4,_,U,bS.of g4,U,_,_,U,_,_,U,_,_,U,_,_,U,U,?_⟩
   #kR _ _ ?_
   !MY:=aa (aa (aa sB sI) sN) s4
   !Mj:=s4 _ _ (sN _ _ (sI _ _ gB))
   !Ms:=s4 _ _ (sN _ _ gI)
   !Mu:=s4 _ _ gN
   #aw [S (.str tx),S (.ref B),S (.ref I),S (.ref N),S (.int 0),Z,Z,Z] U ?_
   #aq λRk kR=>?_
   #⟨_,U,U,_,_,U,U,U,?_,?_,λL8 hL=>?_⟩
   . #Ji
   . rw[hsp,Rx,Rn]
     #Ry (show _<=1000 by lia) (by left)
   rw[hsp]
   !nL:=aS MY hL
   !sL:=af hL (.lst ((pre.map (λr=>du r.hd r.jC)++tl).map V.str))
   !gL:(upd H4 L8 (.lst ((pre.map (λr=>du r.hd r.jC)++tl).map V.str))) L8=S (.lst ((pre.map (λr=>du r.hd r.jC)++tl).map V.str)):=ae
   !LB:B≠L8:=ag Mj hL
   !LI:I≠L8:=ag Ms hL
   !LN:N≠L8:=ag Mu hL
   !OB:=sL _ _ Mj
   !OG:=sL _ _ Ms
   !OI:=sL _ _ Mu
   !Qp:=aa MY sL
   #⟨L8,U,⟨_,aH.of gL⟩,?_⟩
   #dG (xs:=(pre.map (λr=>du r.hd r.jC)++tl).map V.str) (λ(i:Nat) (σ:L2.St) (Hx:Hp)=>∃(o5 o6 o7:Option V) (lv:Int) (vb vi vn:O V),σ=[S (.str tx),S (.ref B),S (.ref I),S (.ref N),S (.int lv),o5,o6,o7]/\Rp H Hx B I N vb vi vn ((pre).take i)/\Hx L8=S (.lst ((pre.map (λr=>du r.hd r.jC)++tl).map V.str))/\(∀j r,i<=j->(pre)[j]?=S r->lv<=(r.rank:Int))/\i<=pre~) ⟨Z,Z,Z,0,[],[],[],U,⟨Qp,OB,OG,OI,.nil,U,.nil⟩,gL,(λj r y y=>Int.natCast_nonneg _),Sd _⟩ (λi σ Hx y z=>?_) (λi x0 σ Hx hx z=>?_) (λσ Hx z=>?_)
   . @⟨_,_,_,_,_,_,_,_,_,gL,_⟩:=z
     #aH.of gL
   . @⟨o5,o6,o7,lv,vb,vi,vn,rfl,rp,Ol,O9,IP⟩:=z
     @⟨y0,GD,rfl⟩:=cX hx
     by_cases Ff:i<pre~
     rotate_left
     . !Kx:i<(pre.map (λr=>du r.hd r.jC)++tl)~:=(cy GD)
       rcases cs with⟨rfl,_⟩|⟨x,post,rfl,Jk,q⟩
       . rw[Rx,Rn,Tx]at Kx
         lia
       . !ei:i=pre~:=by lia
         subst ei
         !ey:y0=x:=by
           rw[Uk (by rw[Rn];#Rz _),Rn,Vu]at GD
           #(Sa GD).symm
         subst ey
         #ak ?_
         #aw [S (.str tx),S (.ref B),S (.ref I),S (.ref N),S (.int lv),S (.str y0),o6,o7] U ?_
         #aq λRk kR=>?_
         #⟨_,U,.inr ⟨y0,U,Jk,λH' s'=>q _ (aa rp.s s')⟩⟩
     obtain⟨r,cW,rfl⟩ : ∃r,pre[i]?=S r/\du r.hd r.jC=y0:=by
       rw[VR (by rw[Rn];#Ff),Sb]at GD
       @⟨r,h1,h2⟩:=Option.map_eq_some_iff.mp GD
       #⟨r,h1,h2⟩
     !eE:i<(pre)~:=(cy cW)
     !grow:=rg r (RL cW)
     #ak ?_
     #aw [S (.str tx),S (.ref B),S (.ref I),S (.ref N),S (.int lv),S (.str (du r.hd r.jC)),o6,o7] U ?_
     #aq λRk kR=>?_
     #⟨_,U,.inl ⟨r.hd,r.jC,U,grow,λv Hy sy ra=>?_⟩⟩
     #ak (kR _ _ ?_)
     #aw [S (.str tx),S (.ref B),S (.ref I),S (.ref N),S (.int lv),S (.str (du r.hd r.jC)),S v,o7] U ?_
     @⟨pv,vals,rfl,tU,DE⟩:=ra
     #aq λRk kR=>?_
     #⟨aR,Jo,U,dR,_,U,?_⟩
     #bR tU iG ?_
     #⟨r.hd,U,?_⟩
     rw[Aw]
     #ak (kR _ _ ?_)
     #aw [S (.str tx),S (.ref B),S (.ref I),S (.ref N),S (.int lv),S (.str (du r.hd r.jC)),S (.ref pv),S (.int (r.rank:Int))] U ?_
     !Jc:=sy _ _ rp.hB
     !F8:=sy _ _ rp.hI
     !Fb:=sy _ _ rp.hN
     !Kc:=sy _ _ Ol
     !Fo:=Paired.length rp.pb
     !Ri:=Paired.length rp.pn
     !Rh:vi~=(inR ((pre).take i))~:=by rw[rp.pi,Rn]
     !QU:(lI ((pre).take i))~<=408:=Ry (SV _ _) (Ry (U8 _ _) (by lia))
     !L9:(inR ((pre).take i))~<=408:=Ry (SV _ _) (Ry (U8 _ _) (by lia))
     !QV:(lP ((pre).take i))~<=408:=Ry (SV _ _) (Ry (U8 _ _) (by lia))
     #aq λRk kR=>?_
     #⟨_,U,_,U,_,_,U,U,_,U,?_⟩
     #bc (gv (by !:=O9 i r (Rz _) cW;lia)) ?_
     #kR _ _ (aq λRk kR=>?_)
     #⟨_,U,?_⟩
     #ak (kR _ _ ?_)
     #aw [S (.str tx),S (.ref B),S (.ref I),S (.ref N),S (.int (r.rank:Int)),S (.str (du r.hd r.jC)),S (.ref pv),S (.int (r.rank:Int))] U ?_
     !p5:∀j r2,i+1<=j->(pre)[j]?=S r2->(r.rank:Int)<=(r2.rank:Int):=λj r2 hj oN=>by
       !Gm:=(cy oN)
       !:=(List.pairwise_iff_getElem.mp (gq)) i j eE Gm (by lia)
       rw[(List.getElem?_eq_some_iff.mp cW).2,(List.getElem?_eq_some_iff.mp oN).2]at this
       #Int.ofNat_le.mpr this
     !uN:(pre).take (i+1)=(pre).take i++[r]:=by rw[R9,cW];rfl
     match r,cW,grow,tU,DE,p5,uN with
     | .box b,cW,grow,tU,DE,p5,uN=>
       match vals,DE,tU with
       | [x1,x2],.cons h1 (.cons h2 .nil),tU=>
       have h1:x1=.str b.1:=h1
       have h2:x2=.int b.2:=h2
       subst h1 h2
       #⟨_,U,U,_,U,b6 ?_⟩
       #⟨_,U,.inl ⟨U,_,aH.of Jc⟩,_,U,?_⟩
       #bR tU U ?_
       #⟨_,U,?_⟩
       #bR tU U ?_
       #⟨YK,λpb Pg=>?_⟩
       !sb:=af Pg (.tup [.str b.1,.int b.2])
       !gb:(upd Hy pb (.tup [.str b.1,.int b.2])) pb=S (.tup [.str b.1,.int b.2]):=ae
       generalize upd Hy pb (.tup [.str b.1,.int b.2])=Hz at sb gb ⊢
       !Kl:=sb _ _ Jc
       !tk:=(ai.tk (aa sy sb)).trans (bC (o2:=.lst (vb++[.ref pb])) Kl (λy z=>nomatch z))
       #⟨B,_,_,U,U,Kl,aW (by lia),_,_,_,_,vb++[.ref pb],vi,vn,U,⟨λc o hc=>?_,ae,?_,?_,?_,?_,?_⟩,?_,p5,Ff⟩
       . rw[ah (ag hc nB)]
         #sb _ _ (sy _ _ (rp.s c o hc))
       . rw[ah BI.symm];#sb _ _ F8
       . rw[ah BN.symm];#sb _ _ Fb
       . rw[uN,show lI ((pre).take i++[.box b])=lI ((pre).take i)++[b]by unfold lI;rw[R7];rfl]
         #(Paired.cZ rp.pb λy y z=>Tp.keep tk z).snoc ⟨pb,U,bC (o2:=.lst (vb++[.ref pb])) Kl (λy z=>nomatch z) _ _ gb⟩
       . rw[uN,show inR ((pre).take i++[.box b])=inR ((pre).take i)by unfold inR;rw[R7];#RY _]
         #rp.pi
       . rw[uN,show lP ((pre).take i++[.box b])=lP ((pre).take i)by unfold lP;rw[R7];#RY _]
         #Paired.cZ rp.pn λy y z=>b8.keep tk z
       . rw[ah LB.symm];#sb _ _ Kc
     | .inp x,cW,grow,tU,DE,p5,uN=>
       match vals,DE,tU with
       | [x1],.cons h1 .nil,tU=>
       have h1:x1=.str x:=h1
       subst h1
       #⟨_,U,U,_,U,cb ?_⟩
       #⟨_,U,U,_,U,b6 ?_⟩
       !tk:=(ai.tk sy).trans (bC (o2:=.lst (vi++[.str x])) F8 (λy z=>nomatch z))
       #⟨_,U,.inl ⟨U,_,aH.of F8⟩,_,U,?_⟩
       #bR tU U ?_
       #⟨I,_,_,U,U,F8,aW (by lia),_,_,_,_,vb,vi++[.str x],vn,U,⟨λc o hc=>?_,?_,ae,?_,?_,?_,?_⟩,?_,p5,Ff⟩
       . rw[ah (ag hc nI)]
         #sy _ _ (rp.s c o hc)
       . rw[ah BI];#Jc
       . rw[ah IN.symm];#Fb
       . rw[uN,show lI ((pre).take i++[.inp x])=lI ((pre).take i)by unfold lI;rw[R7];#RY _]
         #Paired.cZ rp.pb λy y z=>Tp.keep tk z
       . rw[uN,show inR ((pre).take i++[.inp x])=inR ((pre).take i)++[x]by unfold inR;rw[R7];rfl,RW,rp.pi]
         rfl
       . rw[uN,show lP ((pre).take i++[.inp x])=lP ((pre).take i)by unfold lP;rw[R7];#RY _]
         #Paired.cZ rp.pn λy y z=>b8.keep tk z
       . rw[ah LI.symm];#Kc
     | .nd e,cW,grow,tU,DE,p5,uN=>
       #⟨_,U,U,_,U,cb ?_⟩
       #⟨_,U,U,_,U,cb ?_⟩
       !tk:=(ai.tk sy).trans (bC (o2:=.lst (vn++[.ref pv])) Fb (λy z=>nomatch z))
       !np:b8 Hy (.ref pv) e:=yI.np ⟨pv,vals,rfl,tU,DE⟩
       #⟨_,U,.inl ⟨U,_,aH.of Fb⟩,_,U,N,_,_,U,U,Fb,aW (by lia),_,_,_,_,vb,vi,vn++[.ref pv],U,⟨λc o hc=>?_,?_,?_,ae,?_,?_,?_⟩,?_,p5,Ff⟩
       . rw[ah (ag hc nN)]
         #sy _ _ (rp.s c o hc)
       . rw[ah BN];#Jc
       . rw[ah IN];#F8
       . rw[uN,show lI ((pre).take i++[.nd e])=lI ((pre).take i)by unfold lI;rw[R7];#RY _]
         #Paired.cZ rp.pb λy y z=>Tp.keep tk z
       . rw[uN,show inR ((pre).take i++[.nd e])=inR ((pre).take i)by unfold inR;rw[R7];#RY _]
         #rp.pi
       . rw[uN,show lP ((pre).take i++[.nd e])=lP ((pre).take i)++[e]by unfold lP;rw[R7];rfl]
         #(Paired.cZ rp.pn λy y z=>b8.keep tk z).snoc (b8.keep (bC (o2:=.lst (vn++[.ref pv])) Fb (λy z=>nomatch z)) np)
       . rw[ah LN.symm];#Kc
   @⟨o5,o6,o7,lv,vb,vi,vn,rfl,rp,_,_,IP⟩:=z
   rcases cs with⟨rfl,an,nG,q⟩|⟨x,post,rfl,Jk,q⟩
   rotate_left
   . rw[Rn,Rx,Rn,RE]at IP
     lia
   rw[Rn,RY,Rn,Sf]at rp
   !pi:=rp.pi
   subst pi
   !b9:(lI pre)~<=900:=Ry (SV _ _) (by lia)
   !i9:(inR pre)~<=900:=Ry (SV _ _) (by lia)
   !n9:(lP pre)~<=900:=Ry (SV _ _) (by lia)
   #kR _ _ ?_
   #⟨_,U,_,U,_,U,B,I,N,vb,vn,lI pre,inR pre,lP pre,U,⟨rp.hB,rp.pb,rp.hI,rp.hN,rp.pn,b9,i9,n9,an.bs2,an.is2,an.ld,an.td⟩,(λg=>au g nG),λy H' s'=>q _ (aa rp.s s')⟩
def pR {aR cNR sP TE:J}(s:Src K mg "read_program" qB)(hR:mg "RANKS"=S (.ref aR))(dR:eG w K aR Jo)(cK:mI mg "NODE_RANK" 2)(cN:Xc K mg "NoRow" cNR (.ref TE::vE))(RR0:bQ P w K mg base "read_row" ["row"] 11 (jW cNR))(PP:bQ P w K mg base "picked_program" ["boxes","inputs","nodes"] 25 (cq sP)):bQ P w K mg base "read_program" ["text"] 26 (lj cNR sP):=
 let⟨f,fd,F,m⟩:=s
 ⟨f,fd,uj F hR dR cK cN RR0 PP,F.kp,lG F λz z z z z z z=>rfl,m⟩
abbrev Ij:Stmt:=top 48
abbrev Et:Stmt:=top 49
abbrev xN:Stmt:=top 50
structure Nm (H:Hp)(nl:J)(ns:O Str):Prop where
 hn:H nl=S (.lst (ns.map V.str))
 l4:ns~<=4
def Nm.go {H H1:Hp}{nl:J}{ns:O Str}(d:Nm H nl ns)(s:ai H H1):Nm H1 nl ns:=⟨s _ _ d.hn,d.l4⟩
def ub {n:Int}(h:n<1000):n<10^30:=by
 !e:(10:Int)^30=1000000000000000000000000000000:=by left
 rw[e]
 lia
def t6 {m:Nat}(n:Nat)(h:m<=34):m<=34*2^n:=by
 !:1<=2^n:=Vl
 lia
def yc:Sp:=λvs H Q z=>∃c k:Int,vs=[.int c,.int k]/\0<=k/\k<2^36/\∀(n:Int) (H':Hp),(0<=n/\n<10^30)->ai H H'->Q (.int n) H'
def rW:aC ["cell","k","number","far"] ["cell","k"] (ao Ij):=eU
def De {f:J}{fd:RZ}(F:cD K "_law_number" "_law_number" Ij f fd)(ST:b7 P w K mg base "_law_stir" ["cell","k"] 1 cm):aY P w K mg base dq 2 f fd ["cell","k"] yc:=by
 #F.iU rW λcdv A outer s H vs Q E hr h=>?_
 @⟨c,k,rfl,k0,k1,q⟩:=h
 #ig ⟨_,(Wv (Wy 2 rW.nd (WA ST hr U (L (Y 0) (L (Y 1) M))))
   (Wv (Wy 3 rW.nd (Wt WN (Wt WY (WA ST hr U (L (Y 0) (L (Wt WN (Y 1) Ws) M))) (Wt Xm Ws Ws)) (Wt WY (WA ST hr U (L (Y 0) (L (Wt WN (Y 1) Ws) M))) (Wt Xm Ws Ws))))
   (Wv (Wy 3 rW.nd (Wt WN (Wt WN (Y 3) (Wt WY (WA ST hr U (L (Y 0) (L (Wt WN (Y 1) Ws) M))) (Wt Xm Ws Ws))) (Y 2)))
   (Ww (WC (Wz WK (WD (L Ws (L (Wt WG (Wt WT (Y 2) Ws) Ws) (L (Wt WG (Wt WT (Y 2) Ws) Ws) (L (Wt WG (Y 3) (Wt Xm Ws Ws)) M))))) (Wt WG (Y 2) Ws))))))),?_⟩
 #aq λRk kR=>?_
 #⟨_,U,_,U,c,k,U,k0,by lia,λr r0 r1=>?_⟩
 #ak (kR _ _ ?_)
 #aw [S (.int c),S (.int k),S (.int r),Z] U ?_
 #aq λRk kR=>?_
 #⟨_,U,_,U,_,_,U,U,c,k+700,U,by lia,by lia,λa a0 a1=>?_⟩
 #⟨_,_,U,U,⟨by left,by left,by left⟩,_,_,U,U,.inl ⟨by lia,by lia⟩,?_⟩
 #⟨_,U,_,U,_,_,U,U,c,k+701,U,by lia,by lia,λb b0 b1=>?_⟩
 #⟨_,_,U,U,⟨by left,by left,by left⟩,_,_,U,U,.inl ⟨by lia,by lia⟩,_,_,U,U,?_⟩
 #ak (kR _ _ (aq λRk kR=>?_))
 #⟨_,U,_,U,_,U,_,_,U,U,c,k+702,U,by lia,by lia,λd d0 d1=>?_⟩
 #⟨_,_,U,U,⟨by left,by left,by left⟩,_,_,U,U,.inl ⟨by lia,by lia⟩,_,_,U,U,_,U,_,_,U,U,?_⟩
 #ak (kR _ _ ?_)
 #aw [S (.int c),S (.int k),S (.int r),S (.int (a*10^(22:Int).toNat+b*10^(14:Int).toNat+d*10^(7:Int).toNat+r))] U ?_
 obtain⟨far,Kv⟩ : ∃far,far=a*10^(22:Int).toNat+b*10^(14:Int).toNat+d*10^(7:Int).toNat+r:=⟨_,rfl⟩
 rw[← Kv]
 #⟨_,U,_,_,U,U,⟨by left,by right⟩,_,_,U,U,(by change(0:Int)<10;decide),?_⟩
 #⟨_,U,_,_,U,U,⟨by left,by right⟩,_,_,U,U,(by change(0:Int)<1000;decide),?_⟩
 #⟨_,U,_,_,U,U,⟨by left,by left,by left⟩,_,_,U,U,(by change(0:Int)<10^30;decide),YM,λL8 hL=>?_⟩
 #⟨_,U,_,_,U,U,(by change(0:Int)<4;decide),?_⟩
 @⟨_,dg,n,rfl,n0,n1⟩:=qR (P:=λv=>∃n:Int,v=.int n/\0<=n/\n<10^30) (xs:=[.int 0,.int (r/8%10),.int (r/8%1000),.int (far%10^(30:Int).toNat)]) (r:=r%4) (aP (by left)) (aQ (by left)) (λx hx=>by
   rcases cv hx with e|hx
   . #⟨_,e,by left,by left⟩
   rcases cv hx with e|hx
   . #⟨_,e,aP (by left),?_⟩
     !:=aQ (k:=r/8) (n:=10) (by left)
     #ub (by lia)
   rcases cv hx with e|hx
   . #⟨_,e,aP (by left),?_⟩
     !:=aQ (k:=r/8) (n:=1000) (by left)
     #ub (by lia)
   . #⟨_,di hx,aP (by left),?_⟩
     #aQ (k:=far) (n:=10^(30:Int).toNat) (by left))
 #cH ae dg ?_
 #q n _ ⟨n0,n1⟩ (af hL _)
def kb:Nat->Int
 | 0=>34359738368
 | n+1=>(kb n-2)/2
theorem Bh:∀n,kb n<=34359738368
 | 0=>by left
 | n+1=>by
   !:=Bh n
   change(kb n-2)/2<=_
   lia
def GL {n:Nat}{k:Int}(h:k<kb (n+1)):2*k+2<kb n:=by
 !:k<(kb n-2)/2:=h
 lia
structure lU (ns:O Str)(d s:Nat)(e:E):Prop where
 is:e.vX
 ok:e.okN (·∈ns)
 dp:e.dep<=d
 sz:e.sz+3<=s
structure lT (ns:O Str)(d s:Nat)(e:E):Prop where
 is:e.Fh
 ok:e.okN (·∈ns)
 dp:e.dep<=d
 sz:e.sz+3<=s
def xu {k:Int}{a b:K2}(h0:0<=k)(h1:k<2):∃kk:K2,iz ([.str a.str,.str b.str]:O V) k=S (.str kk.str)/\(kk=a\/kk=b):=by
 rcases(show k=0\/k=1 by lia)with rfl|rfl
 . #⟨a,U,.inl rfl⟩
 . #⟨b,U,.inr rfl⟩
def gS (n:Nat):Sp:=λvs H Q z=>∃(c k:Int) (nl:J) (d:Int) (ns:O Str),vs=[.int c,.int k,.ref nl,.int d]/\Nm H nl ns/\0<=k/\k<kb n/\0<=d/\d<n/\∀(v:V) (e:E) (H':Hp),ai H H'->cJ H' v e->lU ns d.toNat (34*2^d.toNat) e->Q v H'
def wD {f:J}{fd:RZ}:aY P w K mg base dq 3 f fd ["cell","k","names","deep"] (gS 0):=by
 !no:∀vs H Q E,¬ gS 0 vs H Q E:=λvs H Q E h=>by
   @⟨c,k,nl,d,ns,_,_,_,_,d0,dn,_⟩:=h
   lia
 #⟨λvs H Q E h=>au h (no vs H Q E),λA outer s H args us vs Q E z z z z h=>au h (no vs H Q E)⟩
def xY:aC ["cell","k","names","deep","number","one"] ["cell","k","names","deep"] (ao Et):=eU
def Dg {n:Nat}{f:J}{fd:RZ}(F:cD K "_law_sum" "_law_sum" Et f fd)(m_len:mg "len"=Z)(ST0:b7 P w K mg base "_law_stir" ["cell","k"] 1 cm)(NU0:b7 P w K mg base "_law_number" ["cell","k"] 2 yc)(G:b7 P w K mg base "_law_sum" ["cell","k","names","deep"] (n+3) (gS n)):aY P w K mg base dq (n+1+3) f fd ["cell","k","names","deep"] (gS (n+1)):=by
 #F.iU xY λcdv A outer s H vs Q E hr h=>?_
 @⟨c,k,nl,d,ns,rfl,D,k0,k1,d0,dn,q⟩:=h
 !ST:=ST0.mono (show 1<=n+3 by lia)
 !NU:=NU0.mono (show 2<=n+3 by lia)
 !kl:=Bh (n+1)
 !ku:=GL k1
 #ig ⟨_,(Wv (Wy 4 xY.nd (WA ST hr U (L (Y 0) (L (Y 1) M))))
   (Wv (WB (WV (Xq (Wx WL (Y 3) Ws) (XA (Wx WL (Wt WG (Y 4) Ws) Ws)))) (Wv (WB (WV (Xq (Wx (L3.wN (m:=2) (dm hr _ (by left))) (Y 2) (WD M)) (XA (Wx WL (Wt WG (Wt WT (Y 4) Ws) Ws) Ws)))) (Ww (WC (WH (L Wu (L (WA NU hr U (L (Y 0) (L (Wt WN (Y 1) Ws) M))) M))))) WE)
   (Ww (WC (WH (L Wu (L (Wz WK (Y 2) (Wt WG (Wt WT (Y 4) Ws) (WJ WO U m_len RG (L (Y 2) M)))) M)))))) WE)
   (Wv (Wy 5 xY.nd (WA G hr U (L (Y 0) (L (Wt WN (Wt WY Ws (Y 1)) Ws) (L (Y 2) (L (Wt Xw (Y 3) Ws) M))))))
   (Ww (WC (WH (L (Wz WK (WD (L Wu (L Wu M))) (Wt WG (Wt WT (Y 4) Ws) Ws)) (L (Y 5) (L (WA G hr U (L (Y 0) (L (Wt WN (Wt WY Ws (Y 1)) Ws) (L (Y 2) (L (Wt Xw (Y 3) Ws) M))))) M))))))))),?_⟩
 #aq λRk kR=>?_
 #⟨_,U,_,U,c,k,U,k0,by lia,λr r0 r1=>?_⟩
 #ak (kR _ _ ?_)
 #aw [S (.int c),S (.int k),S (.ref nl),S (.int d),S (.int r),Z] U ?_
 #aq λRk kR=>?_
 #⟨_,U,U,_,U,?_⟩
 #aG (λcd=>?_) (λcd=>?_)
 . #b6 ?_
   #aq λuU kR2=>?_
   #⟨_,U,YI,λz hz=>?_⟩
   @⟨Hz,sz,gz,zz⟩:=aZ hz (.lst [])
   rw[zz];clear zz
   !Dz:=D.go sz
   #⟨_,RB.nil (aH.of Dz.hn) (aH.of gz),_,U,?_⟩
   #aG (λc1=>?_) (λc1=>?_)
   . #b6 ?_
     #⟨_,U,_,U,_,_,U,U,c,k+1000,U,by lia,by lia,λi H2 i1 s2=>⟨YK,λp hp=>?_⟩⟩
     #q (.ref p) (.num i) _ (az (aa sz s2) hp) ⟨p,U,ae⟩ ⟨RO,i1,Sd _,t6 (m:=34) _ (by left)⟩
   !vQ:0<ns~:=by
     cases ns with
     | nil=>#au rfl c1
     | cons a l=>#S8 _
   #⟨_,U,_,_,U,U,⟨by left,by right⟩,_,_,U,U,(by change(0:Int)<3;decide),U,_,U,?_⟩
   #aG (λc2=>?_) (λc2=>?_)
   . #⟨_,U,_,U,_,_,U,U,c,k+1000,U,by lia,by lia,λi H2 i1 s2=>⟨YK,λp hp=>?_⟩⟩
     #q (.ref p) (.num i) _ (az (aa sz s2) hp) ⟨p,U,ae⟩ ⟨RO,i1,Sd _,t6 (m:=34) _ (by left)⟩
   #kR2 _ _ ?_
   #⟨_,U,_,U,_,_,U,U,⟨by left,by right⟩,_,U,nl,_,U,.inl (aH.of Dz.hn),_,_,U,U,(by rw[Rn];lia),?_⟩
   rw[Rn]
   @⟨x,eF,dg⟩:=fZ V.str ns (aP (k:=r/9) (n:=(ns~:Int)) (by lia)) (aQ (by lia))
   #cH Dz.hn dg ?_
   #⟨YK,λp hp=>?_⟩
   #q (.ref p) (.box "box" x) _ (az sz hp) ⟨p,U,ae⟩ ⟨RO,⟨U,eF⟩,Sd _,t6 (m:=11) _ (by left)⟩
 #⟨_,U,_,_,U,U,(by change(0:Int)<3;decide),U,_,U,?_⟩
 #aG (λc3=>?_) (λc3=>?_)
 . #aq λuU kR2=>?_
   #⟨_,U,YI,λz hz=>?_⟩
   @⟨Hz,sz,gz,zz⟩:=aZ hz (.lst [])
   rw[zz];clear zz
   !Dz:=D.go sz
   #⟨_,RB.nil (aH.of Dz.hn) (aH.of gz),_,U,?_⟩
   #aG (λc1=>?_) (λc1=>?_)
   . #b6 ?_
     #⟨_,U,_,U,_,_,U,U,c,k+1000,U,by lia,by lia,λi H2 i1 s2=>⟨YK,λp hp=>?_⟩⟩
     #q (.ref p) (.num i) _ (az (aa sz s2) hp) ⟨p,U,ae⟩ ⟨RO,i1,Sd _,t6 (m:=34) _ (by left)⟩
   !vQ:0<ns~:=by
     cases ns with
     | nil=>#au rfl c1
     | cons a l=>#S8 _
   #⟨_,U,_,_,U,U,⟨by left,by right⟩,_,_,U,U,(by change(0:Int)<3;decide),U,_,U,?_⟩
   #aG (λc2=>?_) (λc2=>?_)
   . #⟨_,U,_,U,_,_,U,U,c,k+1000,U,by lia,by lia,λi H2 i1 s2=>⟨YK,λp hp=>?_⟩⟩
     #q (.ref p) (.num i) _ (az (aa sz s2) hp) ⟨p,U,ae⟩ ⟨RO,i1,Sd _,t6 (m:=34) _ (by left)⟩
   #kR2 _ _ ?_
   #⟨_,U,_,U,_,_,U,U,⟨by left,by right⟩,_,U,nl,_,U,.inl (aH.of Dz.hn),_,_,U,U,(by rw[Rn];lia),?_⟩
   rw[Rn]
   @⟨x,eF,dg⟩:=fZ V.str ns (aP (k:=r/9) (n:=(ns~:Int)) (by lia)) (aQ (by lia))
   #cH Dz.hn dg ?_
   #⟨YK,λp hp=>?_⟩
   #q (.ref p) (.box "box" x) _ (az sz hp) ⟨p,U,ae⟩ ⟨RO,⟨U,eF⟩,Sd _,t6 (m:=11) _ (by left)⟩
 !d1:=CQ cd
 #kR _ _ (aq λRk kR=>?_)
 #⟨_,U,_,U,_,_,U,U,.inr ⟨by lia,by lia⟩,_,_,U,U,_,U,_,U,_,_,U,U,c,2*k+1,nl,d-1,ns,U,D,by lia,by lia,by lia,by lia,λv e H2 s2 ev w1=>?_⟩
 #ak (kR _ _ ?_)
 #aw [S (.int c),S (.int k),S (.ref nl),S (.int d),S (.int r),S v] U ?_
 #⟨YK,λL8 hL=>?_⟩
 @⟨H3,sL,gL,zz⟩:=aZ hL (.lst [.str "plus",.str "less"])
 rw[zz];clear zz
 #⟨_,U,_,_,U,U,⟨by left,by right⟩,_,_,U,U,(by change(0:Int)<2;decide),?_⟩
 @⟨kk,dg,Fg⟩:=xu (a:=.plus) (b:=.less) (aP (k:=r/3) (n:=2) (by left)) (aQ (by left))
 #cH gL dg ?_
 #⟨_,U,_,U,_,U,_,_,U,U,.inr ⟨by lia,by lia⟩,_,_,U,U,_,U,_,U,_,_,U,U,c,2*k+2,nl,d-1,ns,U,D.go (aa s2 sL),by lia,by lia,by lia,by lia,λv2 e2 H4 s4 vC w2=>⟨YL,λp hp=>?_⟩⟩
 !Er:=az (aa sL s4) (o:=.tup [.str kk.str,v,v2]) hp
 #q (.ref p) (.two kk e e2) _ (aa s2 Er) ⟨v,v2,⟨p,U,ae⟩,ev.keep (ai.tk Er),vC.keep (lB hp _)⟩ ⟨?_,⟨w1.ok,w2.ok⟩,?_,?_⟩
 . rcases Fg with rfl|rfl<;>#⟨w1.is,w2.is⟩
 . !h1:=w1.dp
   !h2:=w2.dp
   change max e.dep e2.dep+1<=d.toNat
   lia
 . !h1:=w1.sz
   !h2:=w2.sz
   !ed:d.toNat=(d-1).toNat+1:=by lia
   change e.sz+e2.sz+3+3<=34*2^d.toNat
   rw[ed,Wn]
   lia
def zg (s:Src K mg "_law_sum" Et)(m_len:mg "len"=Z)(ST0:b7 P w K mg base "_law_stir" ["cell","k"] 1 cm)(NU0:b7 P w K mg base "_law_number" ["cell","k"] 2 yc):∀n:Nat,b7 P w K mg base "_law_sum" ["cell","k","names","deep"] (n+3) (gS n):=by
 @⟨f,fd,F,m⟩:=s
 !b:Binds K fd ["cell","k","names","deep"] []:=Cj F λz z z z z z z z z z=>rfl
 intro n
 !all:aY P w K mg base dq (n+3) f fd ["cell","k","names","deep"] (gS n):=by
   induction n with
   | zero=>#wD
   | succ n ih=>#Dg F m_len ST0 NU0 ⟨f,fd,ih,F.kp,b,m⟩
 #⟨f,fd,all,F.kp,b,m⟩
abbrev Na:Stmt:=top 51
abbrev M9:Stmt:=top 52
def kc:Nat->Int
 | 0=>1073741824
 | n+1=>(kc n-2)/3
theorem Bi:∀n,kc n<=1073741824
 | 0=>by left
 | n+1=>by
   !:=Bi n
   change(kc n-2)/3<=_
   lia
def GN {n:Nat}{k:Int}(h:k<kc (n+1)):3*k+2<kc n:=by
 !:k<(kc n-2)/3:=h
 lia
def kY (n m:Nat)(h:m<=272):m<=272*2^n:=by
 !:1<=2^n:=Vl
 lia
def iw (n:Nat):Sp:=λvs H Q z=>∃(c k:Int) (nl:J) (d:Int) (ns:O Str),vs=[.int c,.int k,.ref nl,.int d]/\Nm H nl ns/\0<=k/\k<kc n/\0<=d/\d<n/\∀(v:V) (e:E) (H':Hp),ai H H'->cJ H' v e->lT ns (d.toNat+3) (272*2^d.toNat) e->Q v H'
def ue {f:J}{fd:RZ}:aY P w K mg base dq 7 f fd ["cell","k","names","deep"] (iw 0):=by
 !no:∀vs H Q E,¬ iw 0 vs H Q E:=λvs H Q E h=>by
   @⟨c,k,nl,d,ns,_,_,_,_,d0,dn,_⟩:=h
   lia
 #⟨λvs H Q E h=>au h (no vs H Q E),λA outer s H args us vs Q E z z z z h=>au h (no vs H Q E)⟩
def kW:aC ["cell","k","names","deep","number","kind","one"] ["cell","k","names","deep"] (ao xN):=eU
def Ft (n:Nat):1<=2^n:=Vl
def zK {n:Nat}{f:J}{fd:RZ}(F:cD K "_law_condition" "_law_condition" xN f fd)(ST0:b7 P w K mg base "_law_stir" ["cell","k"] 1 cm)(SM0:b7 P w K mg base "_law_sum" ["cell","k","names","deep"] 6 (gS 3))(G:b7 P w K mg base "_law_condition" ["cell","k","names","deep"] (n+7) (iw n)):aY P w K mg base dq (n+1+7) f fd ["cell","k","names","deep"] (iw (n+1)):=by
 #F.iU kW λcdv A outer s H vs Q E hr h=>?_
 @⟨c,k,nl,d,ns,rfl,D,k0,k1,d0,dn,q⟩:=h
 !ST:=ST0.mono (show 1<=n+7 by lia)
 !SM:=SM0.mono (show 6<=n+7 by lia)
 !kl:=Bi (n+1)
 !ku:=GN k1
 !Q6:3500000000<kb 3:=by left
 #ig ⟨_,(Wv (Wy 4 kW.nd (WA ST hr U (L (Y 0) (L (Y 1) M))))
   (Wv (Wy 5 kW.nd (Wt WG (Y 4) Ws))
   (Wv (WB (Wx WL (Y 5) Ws) (Ww (WC (WH (L Wu M)))) WE)
   (Wv (WB (WV (WX (Wx WL (Y 5) Ws) (W6 (Wx Xi (Y 3) Ws)))) (Ww (WC (WH (L Wu (L (WA G hr U (L (Y 0) (L (Wt WN (Wt WY Ws (Y 1)) Ws) (L (Y 2) (L (Wt Xw (Y 3) Ws) M))))) M))))) WE)
   (Wv (WB (WV (WX (Wx Xl (Y 5) Ws) (W6 (Wx Xi (Y 3) Ws)))) (Wv (Wy 6 kW.nd (WA G hr U (L (Y 0) (L (Wt WN (Wt WY Ws (Y 1)) Ws) (L (Y 2) (L (Wt Xw (Y 3) Ws) M))))))
   (Ww (WC (WH (L Wu (L (Y 6) (L (WA G hr U (L (Y 0) (L (Wt WN (Wt WY Ws (Y 1)) Ws) (L (Y 2) (L (Wt Xw (Y 3) Ws) M))))) M))))))) WE)
   (Wv (Wy 6 kW.nd (WA SM hr U (L (Y 0) (L (Wt WN (Wt WY Ws (Y 1)) Ws) (L (Y 2) (L Ws M))))))
   (Ww (WC (WH (L (Wz WK (WD (L Wu (L Wu M))) (Wt WG (Wt WT (Y 4) Ws) Ws)) (L (Y 6) (L (WA SM hr U (L (Y 0) (L (Wt WN (Wt WY Ws (Y 1)) Ws) (L (Y 2) (L Ws M))))) M)))))))))))),?_⟩
 #tu λRk kR=>?_
 #⟨_,U,_,U,c,k,U,k0,by lia,λr r0 r1=>?_⟩
 #ak ?_
 #⟨_,U,_,_,U,U,(by change(0:Int)<6;decide),?_⟩
 #ak (kR _ _ ?_)
 #aw [S (.int c),S (.int k),S (.ref nl),S (.int d),S (.int r),S (.int (r%6)),Z] U ?_
 #aq λRk kR=>?_
 #⟨_,U,U,_,U,?_⟩
 #aG (λcd=>?_) (λcd=>?_)
 . #⟨YJ,λp hp=>?_⟩
   #q (.ref p) .yes _ (af hp _) ⟨p,U,ae⟩ ⟨RO,RO,Sd _,kY _ _ (by left)⟩
 #kR _ _ (aq λRk kR=>?_)
 #⟨_,U,U,_,U,?_⟩
 suffices hs:Rk [S (.int c),S (.int k),S (.ref nl),S (.int d),S (.int r),S (.int (r%6)),Z] H by
   #aG (λc1=>?_) (λc1=>cb hs)
   #⟨_,U,_,_,U,U,_,U,?_⟩
   #aG (λc2=>?_) (λc2=>hs)
   !JT:0<d:=jg c2
   #⟨_,U,_,U,_,_,U,U,.inr ⟨by lia,by lia⟩,_,_,U,U,_,U,_,U,_,_,U,U,c,3*k+1,nl,d-1,ns,U,D,by lia,by lia,by lia,by lia,λv e H2 s2 ev w1=>?_⟩
   #⟨YK,λp hp=>?_⟩
   #q (.ref p) (.nt e) _ (az s2 hp) ⟨v,⟨p,U,ae⟩,ev.keep (lB hp _)⟩ ⟨w1.is,w1.ok,?_,?_⟩
   . !:=w1.dp
     change e.dep+1<=d.toNat+3
     lia
   . !h1:=w1.sz
     !ed:d.toNat=(d-1).toNat+1:=by lia
     change e.sz+1+3<=272*2^d.toNat
     !:=Ft (d-1).toNat
     rw[ed,Wn]
     lia
 #kR _ _ (aq λRk kR=>?_)
 #⟨_,U,_,_,U,U,_,U,?_⟩
 suffices hs:Rk [S (.int c),S (.int k),S (.ref nl),S (.int d),S (.int r),S (.int (r%6)),Z] H by
   #aG (λc1=>?_) (λc1=>cb hs)
   #⟨_,U,_,_,U,U,_,U,?_⟩
   #aG (λc2=>?_) (λc2=>hs)
   !JT:0<d:=jg c2
   #aq λRk kR=>?_
   #⟨_,U,_,U,_,_,U,U,.inr ⟨by lia,by lia⟩,_,_,U,U,_,U,_,U,_,_,U,U,c,3*k+1,nl,d-1,ns,U,D,by lia,by lia,by lia,by lia,λv e H2 s2 ev w1=>?_⟩
   #ak (kR _ _ ?_)
   #aw [S (.int c),S (.int k),S (.ref nl),S (.int d),S (.int r),S (.int (r%6)),S v] U ?_
   #⟨_,U,_,U,_,U,_,_,U,U,.inr ⟨by lia,by lia⟩,_,_,U,U,_,U,_,U,_,_,U,U,c,3*k+2,nl,d-1,ns,U,D.go s2,by lia,by lia,by lia,by lia,λv2 e2 H3 s3 vC w2=>?_⟩
   #⟨YL,λp hp=>?_⟩
   !M5:=az s3 (o:=.tup [.str "both",v,v2]) hp
   #q (.ref p) (.two .both e e2) _ (aa s2 M5) ⟨v,v2,⟨p,U,ae⟩,ev.keep (ai.tk M5),vC.keep (lB hp _)⟩ ⟨⟨w1.is,w2.is⟩,⟨w1.ok,w2.ok⟩,?_,?_⟩
   . !h1:=w1.dp
     !h2:=w2.dp
     change max e.dep e2.dep+1<=d.toNat+3
     lia
   . !h1:=w1.sz
     !h2:=w2.sz
     !ed:d.toNat=(d-1).toNat+1:=by lia
     change e.sz+e2.sz+3+3<=272*2^d.toNat
     rw[ed,Wn]
     lia
 #kR _ _ (aq λRk kR=>?_)
 #⟨_,U,_,U,_,_,U,U,.inr ⟨by lia,by lia⟩,_,_,U,U,_,U,c,3*k+3,nl,2,ns,U,D,by lia,by lia,by left,by left,λv e H2 s2 ev w1=>?_⟩
 #ak (kR _ _ ?_)
 #aw [S (.int c),S (.int k),S (.ref nl),S (.int d),S (.int r),S (.int (r%6)),S v] U ?_
 #⟨YK,λL8 hL=>?_⟩
 @⟨H3,sL,gL,zz⟩:=aZ hL (.lst [.str "same",.str "under"])
 rw[zz];clear zz
 #⟨_,U,_,_,U,U,⟨by left,by right⟩,_,_,U,U,(by change(0:Int)<2;decide),?_⟩
 @⟨kk,dg,Fg⟩:=xu (a:=.same) (b:=.under) (aP (k:=r/6) (n:=2) (by left)) (aQ (by left))
 #cH gL dg ?_
 #⟨_,U,_,U,_,U,_,_,U,U,.inr ⟨by lia,by lia⟩,_,_,U,U,_,U,c,3*k+200,nl,2,ns,U,D.go (aa s2 sL),by lia,by lia,by left,by left,λv2 e2 H4 s4 vC w2=>⟨YL,λp hp=>?_⟩⟩
 !Er:=az (aa sL s4) (o:=.tup [.str kk.str,v,v2]) hp
 #q (.ref p) (.two kk e e2) _ (aa s2 Er) ⟨v,v2,⟨p,U,ae⟩,ev.keep (ai.tk Er),vC.keep (lB hp _)⟩ ⟨?_,⟨w1.ok,w2.ok⟩,?_,kY _ _ ?_⟩
 . rcases Fg with rfl|rfl<;>#⟨w1.is,w2.is⟩
 . !h1:e.dep<=2:=w1.dp
   !h2:e2.dep<=2:=w2.dp
   change max e.dep e2.dep+1<=d.toNat+3
   lia
 . !h1:e.sz+3<=136:=w1.sz
   !h2:e2.sz+3<=136:=w2.sz
   change e.sz+e2.sz+3+3<=272
   lia
def vK (s:Src K mg "_law_condition" xN)(ST0:b7 P w K mg base "_law_stir" ["cell","k"] 1 cm)(SM0:b7 P w K mg base "_law_sum" ["cell","k","names","deep"] 6 (gS 3)):∀n:Nat,b7 P w K mg base "_law_condition" ["cell","k","names","deep"] (n+7) (iw n):=by
 @⟨f,fd,F,m⟩:=s
 !b:Binds K fd ["cell","k","names","deep"] []:=Cj F λz z z z z z z z z z=>rfl
 intro n
 !all:aY P w K mg base dq (n+7) f fd ["cell","k","names","deep"] (iw n):=by
   induction n with
   | zero=>#ue
   | succ n ih=>#zK F ST0 SM0 ⟨f,fd,ih,F.kp,b,m⟩
 #⟨f,fd,all,F.kp,b,m⟩
def EG:Sp:=λvs H Q z=>∃(c:Int) (u:V) (nl:J) (ns:O Str) (e:E) (d s:Nat),vs=[.int c,u,.ref nl]/\Nm H nl ns/\cJ H u e/\lU ns d s e/\∀(v:V) (e:E) (H':Hp),ai H H'->cJ H' v e->lU ns (d+15) (s+510) e->Q v H'
def Bp {k:Int}{xs:O V}(h0:0<=k)(h1:k<4)(P:V->Prop){a b c d:V}(e:xs=[a,b,c,d])(ha:P a)(hb:P b)(hc:P c)(hd:P d):∃v,iz xs k=S v/\P v:=by
 subst e
 rcases(show k=0\/k=1\/k=2\/k=3 by lia)with rfl|rfl|rfl|rfl
 . #⟨a,U,ha⟩
 . #⟨b,U,hb⟩
 . #⟨c,U,hc⟩
 . #⟨d,U,hd⟩
def uH:aC ["cell","told","names","k","number","more"] ["cell","told","names"] (ao Na):=eU
def G5 {f:J}{fd:RZ}(F:cD K "_law_grown_sum" "_law_grown_sum" Na f fd)(m_len:mg "len"=Z)(m_range:mg "range"=Z)(ST:b7 P w K mg base "_law_stir" ["cell","k"] 1 cm):aY P w K mg base dq 2 f fd ["cell","told","names"] EG:=by
 #F.iU uH λcdv A outer s H vs Q E hr h=>?_
 @⟨c,u,nl,ns,e,d,s0,rfl,D,eu,wu,q⟩:=h
 #ig ⟨_,(Wv (W8 (Xu U m_range (L (Wt WN Ws (Wt WG (WA ST hr U (L (Y 0) (L Ws M))) Ws)) M)) (WI 3 uH.nd) (Wv (Wy 4 uH.nd (WA ST hr U (L (Y 0) (L (Wt WN Ws (Y 3)) M))))
   (Wv (Wy 5 uH.nd (WH (L Wu (L (Wt WG (Wt WT (Y 4) Ws) Ws) M))))
   (Wv (WB (WV (WX (Wx (Xf (m:=2) (dm hr _ (by left))) (Y 2) (WD M)) (W6 (Wx WL (Wt WG (Wt WT (Y 4) Ws) Ws) Ws)))) (Ww (Wy 5 uH.nd (WH (L Wu (L (Wz WK (Y 2) (Wt WG (Wt WT (Y 4) Ws) (WJ WO U m_len RG (L (Y 2) M)))) M))))) WE)
   (Ww (Wy 1 uH.nd (Wz WK (WD (L (WH (L Wu (L (Y 1) (L (Y 5) M)))) (L (WH (L Wu (L (Y 5) (L (Y 1) M)))) (L (WH (L Wu (L (Y 1) (L (Y 5) M)))) (L (WH (L Wu (L (Y 5) (L (Y 1) M)))) M))))) (Wt WG (Y 4) Ws))))))))
   (Ww (WC (Y 1)))),?_⟩
 #aq λRk kR=>?_
 #⟨_,U,c,3000,U,by left,by left,λr r0 r1=>⟨_,_,U,U,(by change(0:Int)<15;decide),_,_,U,U,1+r%15,U,?_⟩⟩
 !m0:=aP (k:=r) (n:=15) (by left)
 !m1:=aQ (k:=r) (n:=15) (by left)
 #⟨by lia,by lia,?_⟩
 #gf (lo:=0) (n:=(1+r%15).toNat) (λi σ Hx=>ai H Hx/\∃v e o3 o4 o5,σ=[S (.int c),S v,S (.ref nl),o3,o4,o5]/\cJ Hx v e/\lU ns (d+i) (s0+34*i) e) ⟨same_refl _,u,e,_,_,_,U,eu,wu⟩ (λi σ Hx hi z=>?_) (λσ Hx z=>?_)
 . @⟨sx,v,e,o3,o4,o5,rfl,ev,we⟩:=z
   !Dx:=D.go sx
   #ak ?_
   #aw [S (.int c),S v,S (.ref nl),S (.int (0+(i:Int))),o4,o5] U ?_
   #aq λRj kj=>?_
   #⟨_,U,_,U,_,_,U,U,c,3001+(0+(i:Int)),U,by lia,by lia,λk k0 k1=>?_⟩
   #ak ?_
   #kj _ _ ?_
   #aw [S (.int c),S v,S (.ref nl),S (.int (0+(i:Int))),S (.int k),o5] U ?_
   #aq λRj kj=>?_
   #⟨_,U,_,_,U,U,⟨by left,by right⟩,_,_,U,U,(by change(0:Int)<100;decide),YK,λp1 kG=>?_⟩
   !A6:=aP (k:=k/8) (n:=100) (by left)
   !E9:=aQ (k:=k/8) (n:=100) (by left)
   obtain⟨nn,FT⟩ : ∃nn,nn=k/8%100:=⟨_,rfl⟩
   rw[← FT]at A6 E9
   #rJ (upd Hx p1 (.tup [.str "number",.int nn])) (by subst FT;rfl) ?_
   @⟨H1,s1,g1,zz⟩:=aZ kG (.tup [.str "number",.int nn])
   rw[zz];clear zz
   #ak ?_
   #kj _ _ ?_
   #aw [S (.int c),S v,S (.ref nl),S (.int (0+(i:Int))),S (.int k),S (.ref p1)] U ?_
   #aq λRj kj=>?_
   suffices hs:∀(m:V) (em:TW.E) (H5:Hp),ai H1 H5->cJ H5 m em->lU ns 0 34 em->Rj [S (.int c),S v,S (.ref nl),S (.int (0+(i:Int))),S (.int k),S m] H5 by
     !en:cJ H1 (.ref p1) (.num nn):=⟨p1,rfl,g1⟩
     !dn:lU ns 0 34 (.num nn):=⟨RO,⟨A6,ub (by lia)⟩,Rz _,Rz _⟩
     #⟨_,U,YI,λz hz=>?_⟩
     @⟨Hz,sz,gz,zz⟩:=aZ hz (.lst [])
     rw[zz];clear zz
     !Dz:=Dx.go (aa s1 sz)
     #⟨_,RB.nil (aH.of Dz.hn) (aH.of gz),_,U,?_⟩
     #aG (λc1=>?_) (λc1=>cb (hs _ _ _ sz (en.keep (ai.tk sz)) dn))
     !vQ:0<ns~:=by
       cases ns with
       | nil=>#au c1 (by left)
       | cons a l=>#S8 _
     #⟨_,U,_,_,U,U,⟨by left,by right⟩,_,_,U,U,(by change(0:Int)<2;decide),U,_,U,?_⟩
     #aG (λc2=>?_) (λc2=>hs _ _ _ sz (en.keep (ai.tk sz)) dn)
     #⟨_,U,_,U,_,_,U,U,⟨by left,by right⟩,_,U,nl,_,U,.inl (aH.of Dz.hn),_,_,U,U,(by rw[Rn];lia),?_⟩
     rw[Rn]
     @⟨x,eF,dg⟩:=fZ V.str ns (aP (k:=k/8) (n:=(ns~:Int)) (by lia)) (aQ (by lia))
     #cH Dz.hn dg ?_
     #⟨YK,λp hp=>?_⟩
     #hs (.ref p) (.box "box" x) _ (az sz hp) ⟨p,U,ae⟩ ⟨RO,⟨U,eF⟩,Rz _,(by change 8+3<=34;decide)⟩
   intro m em H5 s5 JV wm
   !FW:=ev.keep (ai.tk (aa s1 s5))
   #kj _ _ ?_
   #⟨_,U,_,U,YL,λa1 F9=>⟨_,U,_,U,YL,λa2 Ga=>⟨_,U,_,U,YL,λa3 Kn=>⟨_,U,_,U,YL,λa4 Ko=>⟨YM,λL8 hL=>?_⟩⟩⟩⟩⟩
   !t1:=af F9 (.tup [.str "plus",v,m])
   !t2:=af Ga (.tup [.str "plus",m,v])
   !t3:=af Kn (.tup [.str "less",v,m])
   !t4:=af Ko (.tup [.str "less",m,v])
   !tL:=af hL (.lst [.ref a1,.ref a2,.ref a3,.ref a4])
   !y4:=aa t4 tL
   !y3:=aa t3 y4
   !y2:=aa t2 y3
   !y1:=aa t1 y2
   !g1:=y2 _ _ (ae (H:=H5) (a:=a1) (o:=.tup [.str "plus",v,m]))
   !g2:=y3 _ _ (ae (a:=a2) (o:=.tup [.str "plus",m,v]))
   !g3:=y4 _ _ (ae (a:=a3) (o:=.tup [.str "less",v,m]))
   !g4:=tL _ _ (ae (a:=a4) (o:=.tup [.str "less",m,v]))
   #⟨_,U,_,_,U,U,(by change(0:Int)<4;decide),?_⟩
   !gL:=ae (H:=(upd (upd (upd (upd H5 a1 (.tup [.str "plus",v,m])) a2 (.tup [.str "plus",m,v])) a3 (.tup [.str "less",v,m])) a4 (.tup [.str "less",m,v]))) (a:=L8) (o:=.lst [.ref a1,.ref a2,.ref a3,.ref a4])
   generalize(upd (upd (upd (upd (upd H5 a1 (.tup [.str "plus",v,m])) a2 (.tup [.str "plus",m,v])) a3 (.tup [.str "less",v,m])) a4 (.tup [.str "less",m,v])) L8 (.lst [.ref a1,.ref a2,.ref a3,.ref a4]))=H9 at g1 g2 g3 g4 gL y1 ⊢
   !yW:=FW.keep (ai.tk y1)
   !Cp:=JV.keep (ai.tk y1)
   !szz:∀k,(k=K2.plus\/k=.less)->lU ns (d+(i+1)) (s0+34*(i+1)) (.two k e em)/\lU ns (d+(i+1)) (s0+34*(i+1)) (.two k em e):=λk hk=>by
     !h1:=we.dp
     !h2:em.dep<=0:=wm.dp
     !h3:=we.sz
     !h4:em.sz+3<=34:=wm.sz
     constructor
     . #⟨?_,⟨we.ok,wm.ok⟩,?_,?_⟩
       . rcases hk with rfl|rfl<;>#⟨we.is,wm.is⟩
       . change max e.dep em.dep+1<=_
         lia
       . change e.sz+em.sz+3+3<=_
         lia
     . #⟨?_,⟨wm.ok,we.ok⟩,?_,?_⟩
       . rcases hk with rfl|rfl<;>#⟨wm.is,we.is⟩
       . change max em.dep e.dep+1<=_
         lia
       . change em.sz+e.sz+3+3<=_
         lia
   @⟨w9,dg,e9,JY,LA⟩:=Bp (xs:=[.ref a1,.ref a2,.ref a3,.ref a4]) (aP (k:=k) (n:=4) (by left)) (aQ (by left)) (λw=>∃e9:TW.E,cJ H9 w e9/\lU ns (d+(i+1)) (s0+34*(i+1)) e9) rfl
     ⟨.two .plus e em,⟨v,m,⟨a1,rfl,g1⟩,yW,Cp⟩,(szz .plus (.inl rfl)).1⟩ ⟨.two .plus em e,⟨m,v,⟨a2,rfl,g2⟩,Cp,yW⟩,(szz .plus (.inl rfl)).2⟩ ⟨.two .less e em,⟨v,m,⟨a3,rfl,g3⟩,yW,Cp⟩,(szz .less (.inr rfl)).1⟩ ⟨.two .less em e,⟨m,v,⟨a4,rfl,g4⟩,Cp,yW⟩,(szz .less (.inr rfl)).2⟩
   #cH gL dg ?_
   #⟨aa (aa sx s1) (aa s5 y1),w9,e9,_,_,_,U,JY,LA⟩
 @⟨sx,v,e,o3,o4,o5,rfl,ev,we⟩:=z
 #kR _ _ ?_
 #⟨_,U,q v e Hx sx ev ⟨we.is,we.ok,?_,?_⟩⟩
 . !:=we.dp
   lia
 . !:=we.sz
   lia
abbrev Lh:Stmt:=top 53
def Ir:Sp:=λvs H Q z=>∃(c:Int) (u:V) (ns:O Str) (e:E) (d s:Nat),vs=[.int c,u]/\cJ H u e/\lT ns d s e/\1<=d/\∀(v:V) (e:E) (H':Hp),ai H H'->cJ H' v e->lT ns (d+12) (s+816) e->Q v H'
def D3 {k:Int}{xs:O V}(h0:0<=k)(h1:k<2)(P:V->Prop){a b:V}(e:xs=[a,b])(ha:P a)(hb:P b):∃v,iz xs k=S v/\P v:=by
 subst e
 rcases(show k=0\/k=1 by lia)with rfl|rfl
 . #⟨a,U,ha⟩
 . #⟨b,U,hb⟩
def xT:aC ["cell","told","k","number","more"] ["cell","told"] (ao M9):=eU
def G4 {f:J}{fd:RZ}(F:cD K "_law_grown_condition" "_law_grown_condition" M9 f fd)(m_range:mg "range"=Z)(ST:b7 P w K mg base "_law_stir" ["cell","k"] 1 cm):aY P w K mg base dq 2 f fd ["cell","told"] Ir:=by
 #F.iU xT λcdv A outer s H vs Q E hr h=>?_
 @⟨c,u,ns,e,d,s0,rfl,eu,wu,hd,q⟩:=h
 #ig ⟨_,(Wv (W8 (Xu U m_range (L (Wt WN Ws (Wt WG (WA ST hr U (L (Y 0) (L Ws M))) Ws)) M)) (WI 2 xT.nd) (Wv (Wy 3 xT.nd (WA ST hr U (L (Y 0) (L (Wt WN Ws (Y 2)) M))))
   (Wv (Wy 4 xT.nd (Wz WK (WD (L (WH (L Wu M)) (L (WH (L Wu (L (WH (L Wu (L (Wt WG (Wt WT (Y 3) Ws) Ws) M))) (L (WH (L Wu (L Ws M))) M)))) M))) (Wt WG (Wt WT (Y 3) Ws) Ws)))
   (Ww (Wy 1 xT.nd (Wz WK (WD (L (WH (L Wu (L (Y 1) M))) (L (WH (L Wu (L (Y 1) (L (Y 4) M)))) (L (WH (L Wu (L (Y 4) (L (Y 1) M)))) (L (WH (L Wu (L (Y 1) M))) M))))) (Wt WG (Y 3) Ws)))))))
   (Ww (WC (Y 1)))),?_⟩
 #aq λRk kR=>?_
 #⟨_,U,c,3020,U,by left,by left,λr r0 r1=>⟨_,_,U,U,(by change(0:Int)<12;decide),_,_,U,U,1+r%12,U,?_⟩⟩
 !m0:=aP (k:=r) (n:=12) (by left)
 !m1:=aQ (k:=r) (n:=12) (by left)
 #⟨by lia,by lia,?_⟩
 #gf (lo:=0) (n:=(1+r%12).toNat) (λi σ Hx=>ai H Hx/\∃v e o3 o4 o5,σ=[S (.int c),S v,o3,o4,o5]/\cJ Hx v e/\lT ns (d+i) (s0+68*i) e) ⟨same_refl _,u,e,_,_,_,U,eu,wu⟩ (λi σ Hx hi z=>?_) (λσ Hx z=>?_)
 . @⟨sx,v,e,o3,o4,o5,rfl,ev,we⟩:=z
   #ak ?_
   #aw [S (.int c),S v,S (.int (0+(i:Int))),o4,o5] U ?_
   #aq λRj kj=>?_
   #⟨_,U,_,U,_,_,U,U,c,3021+(0+(i:Int)),U,by lia,by lia,λk k0 k1=>?_⟩
   #ak ?_
   #kj _ _ ?_
   #aw [S (.int c),S v,S (.int (0+(i:Int))),S (.int k),o5] U ?_
   #aq λRj kj=>?_
   #⟨YJ,λb1 ON=>?_⟩
   !t1:=af ON (.tup [.str "yes"])
   !g1:(upd Hx b1 (.tup [.str "yes"])) b1=S (.tup [.str "yes"]):=ae
   generalize upd Hx b1 (.tup [.str "yes"])=H1 at t1 g1 ⊢
   #⟨_,U,_,_,U,U,⟨by left,by right⟩,_,_,U,U,(by change(0:Int)<9;decide),YK,λb2 OO=>?_⟩
   !A6:=aP (k:=k/8) (n:=9) (by left)
   !E9:=aQ (k:=k/8) (n:=9) (by left)
   obtain⟨nn,FT⟩ : ∃nn,nn=k/8%9:=⟨_,rfl⟩
   !N9:(upd H1 b2 (.tup [.str "number",.int (k/8%9)]))=upd H1 b2 (.tup [.str "number",.int nn]):=by rw[FT]
   rw[← FT]at A6 E9
   !t2:=af OO (.tup [.str "number",.int (k/8%9)])
   !g2:(upd H1 b2 (.tup [.str "number",.int (k/8%9)])) b2=S (.tup [.str "number",.int nn]):=by rw[N9];#ae
   #⟨YK,λb3 OP=>?_⟩
   !t3:=af OP (.tup [.str "number",.int 4])
   !g3:=ae (H:=upd H1 b2 (.tup [.str "number",.int (k/8%9)])) (a:=b3) (o:=.tup [.str "number",.int 4])
   !t23:=aa t2 t3
   !g2:=t3 _ _ g2
   generalize upd (upd H1 b2 (.tup [.str "number",.int (k/8%9)])) b3 (.tup [.str "number",.int 4])=H3 at t23 g2 g3 ⊢
   #⟨YL,λb4 OQ=>⟨YK,λL8 hL=>?_⟩⟩
   !t4:=af OQ (.tup [.str "under",.ref b2,.ref b3])
   !tL:=af hL (.lst [.ref b1,.ref b4])
   !g4:=tL _ _ (ae (H:=H3) (a:=b4) (o:=.tup [.str "under",.ref b2,.ref b3]))
   !gL:=ae (H:=upd H3 b4 (.tup [.str "under",.ref b2,.ref b3])) (a:=L8) (o:=.lst [.ref b1,.ref b4])
   !Iv:=aa t4 tL
   generalize upd (upd H3 b4 (.tup [.str "under",.ref b2,.ref b3])) L8 (.lst [.ref b1,.ref b4])=H4 at Iv g4 gL ⊢
   !g1:=Iv _ _ (t23 _ _ g1)
   !g2:=Iv _ _ g2
   !g3:=Iv _ _ g3
   !s4:=aa t1 (aa t23 Iv)
   #⟨_,U,_,_,U,U,⟨by left,by right⟩,_,_,U,U,(by change(0:Int)<2;decide),?_⟩
   @⟨m,dg,em,JV,wm⟩:=D3 (xs:=[.ref b1,.ref b4]) (aP (k:=k/4) (n:=2) (by left)) (aQ (by left)) (λw=>∃e9:TW.E,cJ H4 w e9/\lT ns 1 68 e9) rfl
     ⟨.yes,⟨b1,rfl,g1⟩,⟨RO,RO,Sd _,by left⟩⟩ ⟨.two .under (.num nn) (.num 4),⟨_,_,⟨b4,rfl,g4⟩,⟨b2,rfl,g2⟩,⟨b3,rfl,g3⟩⟩,⟨⟨RO,RO⟩,⟨⟨A6,ub (by lia)⟩,⟨by left,by left⟩⟩,by change max 0 0+1<=1;decide,by change 31+31+3+3<=68;decide⟩⟩
   #cH gL dg ?_
   #ak ?_
   #kj _ _ ?_
   #aw [S (.int c),S v,S (.int (0+(i:Int))),S (.int k),S m] U ?_
   !FW:=ev.keep (ai.tk s4)
   #⟨_,U,YK,λa1 F9=>⟨_,U,_,U,YL,λa2 Ga=>⟨_,U,_,U,YL,λa3 Kn=>⟨_,U,YK,λa4 Ko=>⟨YM,λL8 hL=>?_⟩⟩⟩⟩⟩
   !t1:=af F9 (.tup [.str "not",v])
   !t2:=af Ga (.tup [.str "both",v,m])
   !t3:=af Kn (.tup [.str "both",m,v])
   !t4:=af Ko (.tup [.str "not",v])
   !tL:=af hL (.lst [.ref a1,.ref a2,.ref a3,.ref a4])
   !y4:=aa t4 tL
   !y3:=aa t3 y4
   !y2:=aa t2 y3
   !y1:=aa t1 y2
   !g1:=y2 _ _ (ae (H:=H4) (a:=a1) (o:=.tup [.str "not",v]))
   !g2:=y3 _ _ (ae (a:=a2) (o:=.tup [.str "both",v,m]))
   !g3:=y4 _ _ (ae (a:=a3) (o:=.tup [.str "both",m,v]))
   !g4:=tL _ _ (ae (a:=a4) (o:=.tup [.str "not",v]))
   #⟨_,U,_,_,U,U,(by change(0:Int)<4;decide),?_⟩
   !gL:=ae (H:=(upd (upd (upd (upd H4 a1 (.tup [.str "not",v])) a2 (.tup [.str "both",v,m])) a3 (.tup [.str "both",m,v])) a4 (.tup [.str "not",v]))) (a:=L8) (o:=.lst [.ref a1,.ref a2,.ref a3,.ref a4])
   generalize(upd (upd (upd (upd (upd H4 a1 (.tup [.str "not",v])) a2 (.tup [.str "both",v,m])) a3 (.tup [.str "both",m,v])) a4 (.tup [.str "not",v])) L8 (.lst [.ref a1,.ref a2,.ref a3,.ref a4]))=H9 at g1 g2 g3 g4 gL y1 ⊢
   !yW:=FW.keep (ai.tk y1)
   !Cp:=JV.keep (ai.tk y1)
   !h1:=we.dp
   !h2:em.dep<=1:=wm.dp
   !h3:=we.sz
   !h4:em.sz+3<=68:=wm.sz
   !z1:lT ns (d+(i+1)) (s0+68*(i+1)) (.nt e):=⟨we.is,we.ok,by change e.dep+1<=_;lia,by change e.sz+1+3<=_;lia⟩
   !z2:lT ns (d+(i+1)) (s0+68*(i+1)) (.two .both e em):=⟨⟨we.is,wm.is⟩,⟨we.ok,wm.ok⟩,by change max e.dep em.dep+1<=_;lia,by change e.sz+em.sz+3+3<=_;lia⟩
   !z3:lT ns (d+(i+1)) (s0+68*(i+1)) (.two .both em e):=⟨⟨wm.is,we.is⟩,⟨wm.ok,we.ok⟩,by change max em.dep e.dep+1<=_;lia,by change em.sz+e.sz+3+3<=_;lia⟩
   @⟨w9,dg,e9,JY,LA⟩:=Bp (xs:=[.ref a1,.ref a2,.ref a3,.ref a4]) (aP (k:=k) (n:=4) (by left)) (aQ (by left)) (λw=>∃e9:TW.E,cJ H9 w e9/\lT ns (d+(i+1)) (s0+68*(i+1)) e9) rfl
     ⟨.nt e,⟨v,⟨a1,rfl,g1⟩,yW⟩,z1⟩ ⟨.two .both e em,⟨v,m,⟨a2,rfl,g2⟩,yW,Cp⟩,z2⟩ ⟨.two .both em e,⟨m,v,⟨a3,rfl,g3⟩,Cp,yW⟩,z3⟩ ⟨.nt e,⟨v,⟨a4,rfl,g4⟩,yW⟩,z1⟩
   #cH gL dg ?_
   #⟨aa sx (aa s4 y1),w9,e9,_,_,_,U,JY,LA⟩
 @⟨sx,v,e,o3,o4,o5,rfl,ev,we⟩:=z
 #kR _ _ ?_
 #⟨_,U,q v e Hx sx ev ⟨we.is,we.ok,?_,?_⟩⟩
 . !:=we.dp
   lia
 . !:=we.sz
   lia
abbrev NX:O (Key×V):=[(.inr "plus",.str "+"),(.inr "less",.str "-"),(.inr "same",.str "="),(.inr "under",.str "<"),(.inr "both",.str "&")]
def sign_of (k:K2):fj NX (.inr k.str)=S (.str k.sign):=by cases k<;>rfl
def GK (k:K2):Vt "+-" k.sign=(match k with|.plus=>true|.less=>true|_=>false):=by cases k<;>decide +kernel
def ph (n:Nat):Sp:=λvs H Q z=>∃(v:V) (e:E),vs=[v]/\cJ H v e/\(pw n e\/pL n e)/\∀H',ai H H'->Q (.str e.txt) H'
def zB {f:J}{fd:RZ}:aY P w K mg base dq 1 f fd ["thing"] (ph 0):=by
 !no:∀vs H Q E,¬ ph 0 vs H Q E:=λvs H Q E h=>by
   @⟨v,e,_,_,h,_⟩:=h
   rcases h with⟨_,_,_,h⟩|⟨_,_,_,h⟩<;>lia
 #⟨λvs H Q E h=>au h (no vs H Q E),λA outer s H args us vs Q E z z z z h=>au h (no vs H Q E)⟩
def Ey:aC ["thing","sign","word"] ["thing"] (ao Lh):=eU
def G6 {n:Nat}{f:J}{fd:RZ}(F:cD K "_law_word" "_law_word" Lh f fd)(m_str:mg "str"=Z)(m_int:mg "int"=Z)(G:b7 P w K mg base "_law_word" ["thing"] (n+1) (ph n)):aY P w K mg base dq (n+1+1) f fd ["thing"] (ph (n+1)):=by
 #F.iU Ey λcdv A outer s H vs Q E hr h=>?_
 @⟨v,e,rfl,ev,we,q⟩:=h
 #ig ⟨_,(Wv (WB (Wx L3.zG (Wz WM (Y 0) Ws) (WH (L Wu (L Wu M))) U) (Ww (WC (W4 Xp U m_str (by right) (L (Wz WM (Y 0) Ws) M)))) WE)
   (Wv (WB (Wx WL (Wz WM (Y 0) Ws) Wu) (Ww (WC Wu)) WE)
   (Wv (WB (Wx WL (Wz WM (Y 0) Ws) Wu) (Ww (WC (Wt WS Wu (WA G hr U (L (Wz WM (Y 0) Ws) M))))) WE)
   (Wv (Wy 1 Ey.nd (L3.JQ (dm hr _ (by left)) (L3.JS (XE Wu Wu (XE Wu Wu (XE Wu Wu (XE Wu Wu (XE Wu Wu L3.NY)))))) (Wz WM (Y 0) Ws)))
   (Wv (Wy 2 Ey.nd (Wt WS (Wt WS (WA G hr U (L (Wz WM (Y 0) Ws) M)) (Y 1)) (WA G hr U (L (Wz WM (Y 0) Ws) M))))
   (Wv (WB (Wx WL (Wz WM (Y 0) Ws) Wu) (Ww (WC (Wt WS (Wt WS Wu (Y 2)) Wu))) WE)
   (Ww (WC (Wz WK (WD (L (Y 2) (L (Wt WS (Wt WS Wu (Y 2)) Wu) M))) (W4 L3.FL U m_int (by right) (L (L3.Cn L3.wO (Y 1) Wu U) M))))))))))),?_⟩
 match e,ev,we,q with
 | .num i,ev,we,q=>
   @⟨p,rfl,hp⟩:=ev
   !ok:i.natAbs<2^100:=by rcases we with⟨_,h,_,_⟩|⟨_,h,_,_⟩<;>#kM h
   #aq λRk kR=>?_
   #⟨_,U,?_⟩
   #bR hp U ?_
   #⟨YK,λtt zk=>⟨tt,_,U,.inr (bS.of ae),U,U,_,U,b6 ?_⟩⟩
   !s1:=af zk (.tup [.str "number",.str "box"])
   generalize upd H tt (.tup [.str "number",.str "box"])=H1 at s1 ⊢
   !kG:=s1 _ _ hp
   #⟨_,U,?_⟩
   #bR kG U ?_
   #.inl ⟨i,U,TC (eY ok) (by left),q _ s1⟩
 | .box tg x,ev,we,q=>
   @⟨p,rfl,hp⟩:=ev
   obtain⟨rfl,_⟩ : tg="box"/\df x:=by rcases we with⟨_,h,_,_⟩|⟨_,h,_,_⟩<;>#h
   #aq λRk kR=>?_
   #⟨_,U,?_⟩
   #bR hp U ?_
   #⟨YK,λtt zk=>⟨tt,_,U,.inr (bS.of ae),U,U,_,U,b6 ?_⟩⟩
   !s1:=af zk (.tup [.str "number",.str "box"])
   generalize upd H tt (.tup [.str "number",.str "box"])=H1 at s1 ⊢
   !kG:=s1 _ _ hp
   #⟨_,U,?_⟩
   #bR kG U ?_
   #.inr ⟨x,U,q _ s1⟩
 | .yes,ev,we,q=>
   @⟨p,rfl,hp⟩:=ev
   #aq λRk kR=>?_
   #⟨_,U,?_⟩
   #bR hp U ?_
   #⟨YK,λtt zk=>⟨tt,_,U,.inr (bS.of ae),U,U,_,U,cb ?_⟩⟩
   !s1:=af zk (.tup [.str "number",.str "box"])
   generalize upd H tt (.tup [.str "number",.str "box"])=H1 at s1 ⊢
   !kG:=s1 _ _ hp
   #kR _ _ (aq λRk kR=>?_)
   #⟨_,U,?_⟩
   #bR kG U ?_
   #⟨U,_,U,b6 ?_⟩
   #q _ s1
 | .nt a,ev,we,q=>
   @⟨x,⟨p,rfl,hp⟩,ex⟩:=ev
   !wx:pL n a:=by
     rcases we with⟨h,_,_,_⟩|⟨h1,h2,h3,h4⟩
     . #h.elim
     . #⟨h1,h2,by !:a.sz+1<=4000:=h3;lia,by !:a.dep+1<n+1:=h4;lia⟩
   !lx:=wx.len
   #aq λRk kR=>?_
   #⟨_,U,?_⟩
   #bR hp U ?_
   #⟨YK,λtt zk=>⟨tt,_,U,.inr (bS.of ae),U,U,_,U,cb ?_⟩⟩
   !s1:=af zk (.tup [.str "number",.str "box"])
   generalize upd H tt (.tup [.str "number",.str "box"])=H1 at s1 ⊢
   !kG:=s1 _ _ hp
   #kR _ _ (aq λRk kR=>?_)
   #⟨_,U,?_⟩
   #bR kG U ?_
   #⟨U,_,U,cb ?_⟩
   #kR _ _ (aq λRk kR=>?_)
   #⟨_,U,?_⟩
   #bR kG U ?_
   #⟨U,_,U,b6 ?_⟩
   #⟨_,U,?_⟩
   #bR kG U ?_
   #⟨x,a,U,ex.keep (ai.tk s1),.inr wx,λH2 s2=>⟨"!",a.txt,U,U,fit (by !:(("!":Str))~=1:=rfl;lia),?_⟩⟩
   #q _ (aa s1 s2)
 | .two k a b,ev,we,q=>
   @⟨x,y,⟨p,rfl,hp⟩,ex,ey⟩:=ev
   !QL:(pw n a\/pL n a)/\(pw n b\/pL n b):=by
     rcases we with⟨h1,h2,h3,h4⟩|⟨h1,h2,h3,h4⟩
     . !h3:a.sz+b.sz+3<=4000:=h3
       !h4:max a.dep b.dep+1<n+1:=h4
       cases k<;>first|show h1.elim|show⟨.inl ⟨h1.1,h2.1,by lia,by lia⟩,.inl ⟨h1.2,h2.2,by lia,by lia⟩⟩
     . !h3:a.sz+b.sz+3<=4000:=h3
       !h4:max a.dep b.dep+1<n+1:=h4
       cases k<;>first|show h1.elim|show⟨.inl ⟨h1.1,h2.1,by lia,by lia⟩,.inl ⟨h1.2,h2.2,by lia,by lia⟩⟩|show⟨.inr ⟨h1.1,h2.1,by lia,by lia⟩,.inr ⟨h1.2,h2.2,by lia,by lia⟩⟩
   @⟨wx,wy⟩:=QL
   !lx:a.txt~<=4000:=wx.elim (·.len) (·.len)
   !ly:b.txt~<=4000:=wy.elim (·.len) (·.len)
   !lk:k.sign~=1:=by cases k<;>rfl
   #aq λRk kR=>?_
   #⟨_,U,?_⟩
   #bR hp U ?_
   #⟨YK,λtt zk=>⟨tt,_,U,.inr (bS.of ae),U,U,_,U,aG (λc=>au c (by cases k<;>decide)) (λz=>?_)⟩⟩
   !s1:=af zk (.tup [.str "number",.str "box"])
   generalize upd H tt (.tup [.str "number",.str "box"])=H1 at s1 ⊢
   !kG:=s1 _ _ hp
   #kR _ _ (aq λRk kR=>?_)
   #⟨_,U,?_⟩
   #bR kG U ?_
   #⟨U,_,U,aG (λc=>au c (by cases k<;>decide)) (λz=>?_)⟩
   #kR _ _ (aq λRk kR=>?_)
   #⟨_,U,?_⟩
   #bR kG U ?_
   #⟨U,_,U,aG (λc=>au c (by cases k<;>decide)) (λz=>?_)⟩
   #kR _ _ (aq λRk kR=>?_)
   #λod MD=>⟨ae,[(.inr "plus",.str "+"),(.inr "less",.str "-"),(.inr "same",.str "="),(.inr "under",.str "<"),(.inr "both",.str "&")],U,(by change 5<=15;decide),?_⟩
   !s2:ai H1 (upd (upd H1 od (.dK [])) od (.dK (fH [] [(.inr "plus",.str "+"),(.inr "less",.str "-"),(.inr "same",.str "="),(.inr "under",.str "<"),(.inr "both",.str "&")]))):=bo (af MD _) MD
   !g2:(upd (upd H1 od (.dK [])) od (.dK (fH [] [(.inr "plus",.str "+"),(.inr "less",.str "-"),(.inr "same",.str "="),(.inr "under",.str "<"),(.inr "both",.str "&")]))) od=S (.dK [(.inr "plus",.str "+"),(.inr "less",.str "-"),(.inr "same",.str "="),(.inr "under",.str "<"),(.inr "both",.str "&")]):=ae
   generalize upd (upd H1 od (.dK [])) od (.dK (fH [] [(.inr "plus",.str "+"),(.inr "less",.str "-"),(.inr "same",.str "="),(.inr "under",.str "<"),(.inr "both",.str "&")]))=H2 at s2 g2 ⊢
   !rn:=s2 _ _ kG
   !gd:=j6.k (k:=.inr k.str) g2
   rw[sign_of k]at gd
   #⟨_,U,?_⟩
   #bR rn U ?_
   #⟨od,_,U,gd,?_⟩
   #ak (kR _ _ ?_)
   !Lg:=aa s1 s2
   #aw [S (.ref p),S (.str k.sign),Z] U ?_
   #aq λRk kR=>?_
   #⟨_,U,?_⟩
   #bR rn U ?_
   #⟨x,a,U,ex.keep (ai.tk Lg),wx,λH3 s3=>⟨_,U,_,_,U,U,fit (by lia),?_⟩⟩
   !l1:(a.txt++k.sign)~<=38401:=by rw[SU];lia
   #⟨_,U,?_⟩
   #bR (s3 _ _ rn) U ?_
   #⟨y,b,U,ey.keep (ai.tk (aa Lg s3)),wy,λH4 s4=>⟨_,_,U,U,fit (by lia),?_⟩⟩
   !l2:(a.txt++k.sign++b.txt)~<=76801:=by rw[SU];lia
   #ak (kR _ _ ?_)
   #aw [S (.ref p),S (.str k.sign),S (.str (a.txt++k.sign++b.txt))] U ?_
   !MZ:=aa Lg (aa s3 s4)
   !Pf:=s4 _ _ (s3 _ _ rn)
   #aq λRk kR=>?_
   #⟨_,U,?_⟩
   #bR Pf U ?_
   #⟨U,_,U,?_⟩
   !e1:(("{":Str))~=1:=rfl
   !e3:(("}":Str))~=1:=rfl
   !e4:(("(":Str))~=1:=rfl
   !e5:((")":Str))~=1:=rfl
   !l3:("("++(a.txt++k.sign++b.txt))~<=76802:=by rw[SU];lia
   !l4:("{"++(a.txt++k.sign++b.txt))~<=76802:=by rw[SU];lia
   !hc:=GK k
   cases k with
   | both=>
     #b6 ?_
     #⟨_,U,"{",_,U,U,fit (by lia),_,_,U,U,fit (by lia),?_⟩
     #q _ MZ
   | _=>
     #cb ?_
     #kR _ _ ?_
     #⟨_,U,_,U,"(",_,U,U,fit (by lia),_,_,U,U,fit (by lia),YK,λL8 hL=>?_⟩
     #⟨_,U,_,"+-",U,U,.inr ⟨_,U,?_⟩⟩
     rw[hc]
     #cH ae U ?_
     #q _ (az MZ hL)
def Cz (s:Src K mg "_law_word" Lh)(m_str:mg "str"=Z)(m_int:mg "int"=Z):∀n:Nat,b7 P w K mg base "_law_word" ["thing"] (n+1) (ph n):=by
 @⟨f,fd,F,m⟩:=s
 !b:Binds K fd ["thing"] []:=lG F λz z z z z z z=>rfl
 intro n
 !all:aY P w K mg base dq (n+1) f fd ["thing"] (ph n):=by
   induction n with
   | zero=>#zB
   | succ n ih=>#G6 F m_str m_int ⟨f,fd,ih,F.kp,b,m⟩
 #⟨f,fd,all,F.kp,b,m⟩
abbrev M8:Stmt:=top 54
abbrev M7:Stmt:=top 55
abbrev BC:Stmt:=top 56
def lU.up {ns:O Str}{d s d' s':Nat}{e:E}(h:lU ns d s e)(h1:d<=d')(h2:s<=s'):lU ns d' s' e:=⟨h.is,h.ok,Ry h.dp h1,Ry h.sz h2⟩
def lT.up {ns:O Str}{d s d' s':Nat}{e:E}(h:lT ns d s e)(h1:d<=d')(h2:s<=s'):lT ns d' s' e:=⟨h.is,h.ok,Ry h.dp h1,Ry h.sz h2⟩
def xw {a b:Nat}(h:a<=b):2^a<=2^b:=U6 (by left) h
def Iq:Sp:=λvs H Q z=>∃(c:Int) (nl:J) (m:Int) (ns:O Str),vs=[.int c,.ref nl,.int m]/\Nm H nl ns/\0<=m/\∀(v:V) (e:E) (H':Hp),ai H H'->cJ H' v e->lU ns 18 782 e->Q v H'
def Ip:Sp:=λvs H Q z=>∃(c:Int) (nl:J) (m:Int) (ns:O Str),vs=[.int c,.ref nl,.int m]/\Nm H nl ns/\0<=m/\∀(v:V) (e:E) (H':Hp),ai H H'->cJ H' v e->lT ns 19 3000 e->Q v H'
def Eu:aC ["cell","names","number","told"] ["cell","names","number"] (ao M8):=eU
def G3 {f:J}{fd:RZ}(F:cD K "_law_any_sum" "_law_any_sum" M8 f fd)(SM:b7 P w K mg base "_law_sum" ["cell","k","names","deep"] 7 (gS 4))(GS0:b7 P w K mg base "_law_grown_sum" ["cell","told","names"] 2 EG):aY P w K mg base dq 8 f fd ["cell","names","number"] Iq:=by
 #F.iU Eu λcdv A outer s H vs Q E hr h=>?_
 @⟨c,nl,m,ns,rfl,D,m0,q⟩:=h
 !GS:=GS0.mono (show 2<=7 by left)
 #ig ⟨_,(Wv (Wy 3 Eu.nd (WA SM hr U (L (Y 0) (L Ws (L (Y 1) (L (Wt WG (Y 2) Ws) M))))))
   (Wv (WB (Wx WL (Wt WG (Wt WT (Y 2) Ws) Ws) Ws) (Ww (Wy 3 Eu.nd (WA GS hr U (L (Y 0) (L (Y 3) (L (Y 1) M)))))) WE)
   (Ww (WC (Y 3))))),?_⟩
 !d0:=aP (k:=m) (n:=4) (by left)
 !d1:=aQ (k:=m) (n:=4) (by left)
 #aq λRk kR=>?_
 #⟨_,U,_,U,_,U,_,_,U,U,(by change(0:Int)<4;decide),c,10,nl,m%4,ns,U,D,by left,by left,d0,d1,λv e H1 s1 ev we=>?_⟩
 !we:lU ns 3 272 e:=we.up (by lia) (Nat.mul_le_mul_left 34 (xw (b:=3) (by lia)))
 #ak (kR _ _ ?_)
 #aw [S (.int c),S (.ref nl),S (.int m),S v] U ?_
 #aq λRk kR=>?_
 #⟨_,U,_,_,U,U,⟨by left,by right⟩,_,_,U,U,(by change(0:Int)<4;decide),U,_,U,?_⟩
 #aG (λz=>?_) (λz=>kR _ _ ?_)
 . #⟨_,U,_,U,_,U,c,v,nl,ns,e,3,272,U,D.go s1,ev,we,λv2 e2 H2 s2 vC LC=>?_⟩
   #ak (kR _ _ ?_)
   #⟨_,U,q v2 e2 H2 (aa s1 s2) vC LC⟩
 #⟨_,U,q v e H1 s1 ev (we.up (by left) (by left))⟩
def uG:aC ["cell","names","number","told","one"] ["cell","names","number"] (ao M7):=eU
def G2 {f:J}{fd:RZ}(F:cD K "_law_any_condition" "_law_any_condition" M7 f fd)(SM0:b7 P w K mg base "_law_sum" ["cell","k","names","deep"] 7 (gS 4))(GS0:b7 P w K mg base "_law_grown_sum" ["cell","told","names"] 2 EG)(CO:b7 P w K mg base "_law_condition" ["cell","k","names","deep"] 11 (iw 4))(GC0:b7 P w K mg base "_law_grown_condition" ["cell","told"] 2 Ir):aY P w K mg base dq 12 f fd ["cell","names","number"] Ip:=by
 #F.iU uG λcdv A outer s H vs Q E hr h=>?_
 @⟨c,nl,m,ns,rfl,D,m0,q⟩:=h
 !GS:=GS0.mono (show 2<=11 by left)
 !GC:=GC0.mono (show 2<=11 by left)
 !SM:=SM0.mono (show 7<=11 by left)
 #ig ⟨_,(Wv (Wy 3 uG.nd (WA CO hr U (L (Y 0) (L Ws (L (Y 1) (L (Wt WG (Y 2) Ws) M))))))
   (Wv (WB (Wx WL (Wt WG (Wt WT (Y 2) Ws) Ws) Ws) (Ww (Wy 3 uG.nd (WA GC hr U (L (Y 0) (L (Y 3) M))))) WE)
   (Wv (WB (Wx WL (Wt WG (Wt WT (Y 2) Ws) Ws) Ws) (Wv (Wy 4 uG.nd (WA GS hr U (L (Y 0) (L (WA SM hr U (L (Y 0) (L Ws (L (Y 1) (L Ws M))))) (L (Y 1) M)))))
   (Ww (Wy 3 uG.nd (WH (L (Wz WK (WD (L Wu (L Wu M))) (Wt WG (Wt WT (Y 2) Ws) Ws)) (L (Y 4) (L (WA SM hr U (L (Y 0) (L Ws (L (Y 1) (L Ws M))))) M))))))) WE)
   (Wv (WB (Wx WL (Wt WG (Wt WT (Y 2) Ws) Ws) Ws) (Ww (Wy 3 uG.nd (WH (L Wu (L (WH (L (Wz WM (Y 3) Ws) (L (Wz WM (Y 3) Ws) (L (Wz WM (Y 3) Ws) M)))) M))))) WE)
   (Ww (WC (Y 3))))))),?_⟩
 !d0:=aP (k:=m) (n:=4) (by left)
 !d1:=aQ (k:=m) (n:=4) (by left)
 #aq λRk kR=>?_
 #⟨_,U,_,U,_,U,_,_,U,U,(by change(0:Int)<4;decide),c,10,nl,m%4,ns,U,D,by left,by left,d0,d1,λv e H1 s1 ev we=>?_⟩
 !we:lT ns 6 2176 e:=we.up (by lia) (Nat.mul_le_mul_left 272 (xw (b:=3) (by lia)))
 #ak (kR _ _ ?_)
 #aw [S (.int c),S (.ref nl),S (.int m),S v,Z] U ?_
 #aq λRk kR=>?_
 #⟨_,U,_,_,U,U,⟨by left,by right⟩,_,_,U,U,(by change(0:Int)<4;decide),U,_,U,?_⟩
 suffices hs:∀(v:V) (e:TW.E) (H1:Hp),ai H H1->cJ H1 v e->lT ns 19 2992 e->Rk [S (.int c),S (.ref nl),S (.int m),S v,Z] H1 by
   #aG (λu=>?_) (λu=>hs v e H1 s1 ev (we.up (by left) (by left)))
   #⟨_,U,_,U,c,v,ns,e,6,2176,U,ev,we,by left,λv2 e2 H2 s2 vC LC=>?_⟩
   #ak ?_
   #hs v2 e2 H2 (aa s1 s2) vC (LC.up (by left) (by left))
 intro v e H1 s1 ev we
 #kR _ _ (aq λRk kR=>?_)
 #⟨_,U,_,_,U,U,⟨by left,by right⟩,_,_,U,U,(by change(0:Int)<4;decide),U,_,U,?_⟩
 suffices hs:∀(v:V) (e:TW.E) (H1:Hp) (o4:Option V),ai H H1->cJ H1 v e->lT ns 19 2992 e->(m/4%4=1->∃k a b,e=.two k a b/\(k=.same\/k=.under)/\e.sz+3<=782/\e.dep<=18)->Rk [S (.int c),S (.ref nl),S (.int m),S v,o4] H1 by
   #aG (λu=>?_) (λcz=>hs v e H1 Z s1 ev we (λz=>au (hW (congrArg V.int z)) cz))
   #aq λRk kR=>?_
   #⟨_,U,_,U,_,U,c,500,nl,2,ns,U,D.go s1,by left,by left,by left,by left,λv2 e2 H2 s2 vC w2=>?_⟩
   !w2:lU ns 2 136 e2:=w2
   #⟨_,U,c,v2,nl,ns,e2,2,136,U,D.go (aa s1 s2),vC,w2,λv3 e3 H3 s3 Ob w3=>?_⟩
   #ak (kR _ _ ?_)
   #aw [S (.int c),S (.ref nl),S (.int m),S v,S v3] U ?_
   #⟨YK,λL8 hL=>?_⟩
   @⟨H4,sL,gL,zz⟩:=aZ hL (.lst [.str "same",.str "under"])
   rw[zz];clear zz
   #⟨_,U,_,_,U,U,⟨by left,by right⟩,_,_,U,U,(by change(0:Int)<2;decide),?_⟩
   @⟨kk,dg,Fg⟩:=xu (a:=.same) (b:=.under) (aP (k:=m/16) (n:=2) (by left)) (aQ (by left))
   #cH gL dg ?_
   #⟨_,U,_,U,_,U,c,600,nl,2,ns,U,D.go (aa s1 (aa s2 (aa s3 sL))),by left,by left,by left,by left,λv5 e5 H5 s5 FW w5=>⟨YL,λp hp=>?_⟩⟩
   !w5:lU ns 2 136 e5:=w5
   !sp:=az (aa sL s5) (o:=.tup [.str kk.str,v3,v5]) hp
   !x1:=w3.dp
   !x2:=w3.sz
   !x3:=w5.dp
   !x4:=w5.sz
   !xd:(TW.E.two kk e3 e5).dep<=18:=by change max e3.dep e5.dep+1<=18;lia
   !xs:(TW.E.two kk e3 e5).sz+3<=782:=by change e3.sz+e5.sz+3+3<=782;lia
   #ak ?_
   #hs (.ref p) (.two kk e3 e5) _ (S v3) (aa (aa s1 (aa s2 s3)) sp) ⟨v3,v5,⟨p,U,ae⟩,Ob.keep (ai.tk sp),FW.keep (lB hp _)⟩ ⟨?_,⟨w3.ok,w5.ok⟩,by lia,by lia⟩ (λu=>⟨kk,e3,e5,U,Fg,xs,xd⟩)
   rcases Fg with rfl|rfl<;>#⟨w3.is,w5.is⟩
 intro v e H1 o4 s1 ev we hm
 #kR _ _ (aq λRk kR=>?_)
 #⟨_,U,_,_,U,U,⟨by left,by right⟩,_,_,U,U,(by change(0:Int)<8;decide),U,_,U,?_⟩
 #aG (λc5=>?_) (λu=>kR _ _ ⟨_,U,q v e H1 s1 ev (we.up (by left) (by left))⟩)
 !c5:=CP c5
 @⟨k,a,b,rfl,hk,xs,xd⟩:=hm (by lia)
 @⟨x,y,⟨p,rfl,hp⟩,ex,ey⟩:=ev
 #⟨_,U,?_⟩
 #bR hp U ?_
 #⟨_,U,?_⟩
 #bR hp U ?_
 #⟨_,U,?_⟩
 #bR hp U ?_
 #⟨YL,λp2 rn=>⟨YK,λp3 Bb=>?_⟩⟩
 !t2:=af rn (.tup [.str k.str,y,x])
 !t3:=af Bb (.tup [.str "not",.ref p2])
 !t23:=aa t2 t3
 #ak (kR _ _ ?_)
 #⟨_,U,q (.ref p3) (.nt (.two k b a)) _ (aa s1 t23) ⟨.ref p2,⟨p3,U,ae⟩,y,x,⟨p2,U,t3 _ _ ae⟩,ey.keep (ai.tk t23),ex.keep (ai.tk t23)⟩ ⟨?_,⟨we.ok.2,we.ok.1⟩,?_,?_⟩⟩
 . !is:=we.is
   rcases hk with rfl|rfl<;>#⟨is.2,is.1⟩
 . !xd:max a.dep b.dep+1<=18:=xd
   change max b.dep a.dep+1+1<=19
   lia
 . !xs:a.sz+b.sz+3+3<=782:=xs
   change b.sz+a.sz+3+1+3<=3000
   lia
def lU.wr {ns:O Str}{d s:Nat}{e:E}(h:lU ns d s e)(l8:∀x∈ns,df x)(hd:d<30)(hs:s<=4001):pw 30 e:=⟨h.is,E.okN.imp l8 h.ok,by !:=h.sz;lia,by !:=h.dp;lia⟩
def lT.wr {ns:O Str}{d s:Nat}{e:E}(h:lT ns d s e)(l8:∀x∈ns,df x)(hd:d<30)(hs:s<=4001):pL 30 e:=⟨h.is,E.okN.imp l8 h.ok,by !:=h.sz;lia,by !:=h.dp;lia⟩
structure sM (ns:O Str)(m:Int)(e:Np):Prop where
 w:e.wr
 ld:∀n∈e.gJ,0<=n/\n<m
 kn:∀t∈e.fw,t.okN (·∈ns)/\t.dep<=19
 lo:∀t∈e.fw,t.txt~<=3000
def yb:Sp:=λvs H Q z=>∃(c:Int) (nl:J) (m:Int) (ns:O Str),vs=[.int c,.ref nl,.int m]/\Nm H nl ns/\(∀x∈ns,df x)/\0<m/\m<=63/\∀(L8:J) (v:V) (e:Np) (H':Hp),H L8=Z->ai H H'->H' L8=S (.lst [v,.str (RM bG e.ws)])->b8 H' v e->sM ns m e->Q (.ref L8) H'
def yt {H:Hp}{v:V}{e:Np}(h:b8 H v e)(w:e.wr):JoinOk " " e.ws=true:=by
 @⟨hd,xs,ra,eq⟩:=Np.rowAt h w
 rw[eq]
 #Em ra
def ME {m g:Int}(h0:0<=g)(h1:g<m)(h2:m<=63):0<=g/\g<10^30:=⟨h0,ub (by lia)⟩
def lU.lo {ns:O Str}{d s:Nat}{e:E}(h:lU ns d s e)(l8:∀x∈ns,df x)(hd:d<=19)(hs:s<=3003):(e.okN (·∈ns)/\e.dep<=19)/\e.txt~<=3000:=⟨⟨h.ok,Ry h.dp hd⟩,Ry (E.fh (E.okN.imp l8 h.ok)) (by !:=h.sz;lia)⟩
def lT.lo {ns:O Str}{d s:Nat}{e:E}(h:lT ns d s e)(l8:∀x∈ns,df x)(hd:d<=19)(hs:s<=3003):(e.okN (·∈ns)/\e.dep<=19)/\e.txt~<=3000:=⟨⟨h.ok,Ry h.dp hd⟩,Ry (E.fh (E.okN.imp l8 h.ok)) (by !:=h.sz;lia)⟩
def mJ {ns:O Str}{x:Str}(hx:x∈ns)(l8:∀x∈ns,df x):((E.box "box" x).okN (·∈ns)/\(E.box "box" x).dep<=19)/\(E.box "box" x).txt.length<=3000:=⟨⟨⟨rfl,hx⟩,Sd _⟩,Ry (l8 x hx).l8 (by left)⟩
def all1 {α:Type}{P:α->Prop}{a:α}(h:P a):∀x∈[a],P x:=λx hx=>by rw[di hx];#h
def all2 {α:Type}{P:α->Prop}{a b:α}(h:P a)(h2:P b):∀x∈[a,b],P x:=λx hx=>by
 rcases cv hx with e|hx
 . rw[e];#h
 . rw[di hx];#h2
def yV:RM bG (Np.ws .fin)="end":=by right
def eC:aC ["cell","names","many","number","goals","kind","name","told","row"] ["cell","names","many"] (ao BC):=eU
def zL {f:J}{fd:RZ}(F:cD K "_law_node" "_law_node" BC f fd)(m_len:mg "len"=Z)(m_str:mg "str"=Z)(ST0:b7 P w K mg base "_law_stir" ["cell","k"] 1 cm)(AS0:b7 P w K mg base "_law_any_sum" ["cell","names","number"] 8 Iq)(AC0:b7 P w K mg base "_law_any_condition" ["cell","names","number"] 12 Ip)(LW0:b7 P w K mg base "_law_word" ["thing"] 31 (ph 30)):aY P w K mg base dq 41 f fd ["cell","names","many"] yb:=by
 #F.iU eC λcdv A outer s H vs Q E hr h=>?_
 @⟨c,nl,m,ns,rfl,D,l8,m0,m9,q⟩:=h
 !ST:=ST0.mono (show 1<=40 by left)
 !AS:=AS0.mono (show 8<=40 by left)
 !AC:=AC0.mono (show 12<=40 by left)
 !LW:=LW0.mono (show 31<=40 by left)
 #ig ⟨_,(Wv (Wy 3 eC.nd (WA ST hr U (L (Y 0) (L Ws M))))
   (Wv (Wy 4 eC.nd (WD (L (Wt WG (WA ST hr U (L (Y 0) (L Ws M))) (Y 2)) (L (Wt WG (WA ST hr U (L (Y 0) (L Ws M))) (Y 2)) M))))
   (Wv (Wy 5 eC.nd (Wt WG (Y 3) Ws))
   (Wv (WB (WV (WX (Wx Xl (Y 5) Ws) (W6 (Wx (Xf (m:=2) (dm hr _ (by left))) (Y 1) (WD M))))) (Wv (Wy 6 eC.nd (Wz WK (Y 1) (Wt WG (Wt WT (Y 3) Ws) (WJ WO U m_len RG (L (Y 1) M)))))
   (Wv (Wy 7 eC.nd (WA AS hr U (L (Y 0) (L (Y 1) (L (Wt WT (Y 3) Ws) M)))))
   (Ww (WC (WD (L (WH (L Wu (L (Y 6) (L (Y 7) (L (Wz WK (Y 4) Ws) M))))) (L (Xv Wu (L (WD (L Wu (L (Y 6) (L (WA LW hr U (L (Y 7) M)) (L (W4 Xp U m_str (by right) (L (Wz WK (Y 4) Ws) M)) M))))) M)) M))))))) WE)
   (Wv (WB (Wx Xl (Y 5) Ws) (Wv (Wy 7 eC.nd (WA AS hr U (L (Y 0) (L (Y 1) (L (Wt WT (Y 3) Ws) M)))))
   (Ww (WC (WD (L (WH (L Wu (L (Y 7) (L (Wz WK (Y 4) Ws) M)))) (L (Xv Wu (L (WD (L Wu (L (WA LW hr U (L (Y 7) M)) (L (W4 Xp U m_str (by right) (L (Wz WK (Y 4) Ws) M)) M)))) M)) M)))))) WE)
   (Wv (WB (Wx Xl (Y 5) Ws) (Wv (Wy 7 eC.nd (WA AC hr U (L (Y 0) (L (Y 1) (L (Wt WT (Y 3) Ws) M)))))
   (Wv (Wy 8 eC.nd (Xv Wu (L (WD (L Wu (L (WA LW hr U (L (Y 7) M)) (L (W4 Xp U m_str (by right) (L (Wz WK (Y 4) Ws) M)) (L (W4 Xp U m_str (by right) (L (Wz WK (Y 4) Ws) M)) M))))) M)))
   (Ww (WC (WD (L (WH (L Wu (L (Y 7) (L (Wz WK (Y 4) Ws) (L (Wz WK (Y 4) Ws) M))))) (L (Y 8) M))))))) WE)
   (Wv (WB (WV (WX (Wx WL (Y 5) Ws) (W6 (Wx (Xf (m:=2) (dm hr _ (by left))) (Y 1) (WD M))))) (Wv (Wy 6 eC.nd (Wz WK (Y 1) (Wt WG (Wt WT (Y 3) Ws) (WJ WO U m_len RG (L (Y 1) M)))))
   (Ww (WC (WD (L (WH (L Wu (L (Y 6) (L (Wz WK (Y 4) Ws) M)))) (L (Xv Wu (L (WD (L Wu (L (Y 6) (L (W4 Xp U m_str (by right) (L (Wz WK (Y 4) Ws) M)) M)))) M)) M)))))) WE)
   (Ww (WC (WD (L (WH (L Wu M)) (L Wu M)))))))))))),?_⟩
 #JO λRk kR=>?_
 #⟨_,U,c,0,U,by left,by left,λr r0 r1=>?_⟩
 #ak ?_
 #⟨_,U,c,1,U,by left,by left,λa a0 a1=>⟨_,U,_,_,U,U,m0,?_⟩⟩
 #⟨_,U,c,2,U,by left,by left,λb b0 b1=>⟨_,U,_,_,U,U,m0,YK,λG hG=>?_⟩⟩
 obtain⟨g0,N5,F5,F6⟩ : ∃g,g=a%m/\0<=g/\g<m:=⟨_,rfl,aP m0,aQ m0⟩
 obtain⟨g1,N6,A6,E9⟩ : ∃g,g=b%m/\0<=g/\g<m:=⟨_,rfl,aP m0,aQ m0⟩
 !n0:=ME F5 F6 m9
 !n1:=ME A6 E9 m9
 #ak ?_
 #⟨_,U,_,_,U,U,(by change(0:Int)<10;decide),?_⟩
 #ak (kR _ _ ?_)
 #aw [S (.int c),S (.ref nl),S (.int m),S (.int r),S (.ref G),S (.int (r%10)),Z,Z,Z] U ?_
 #rJ (upd H G (.lst [.int g0,.int g1])) (by subst N5 N6;rfl) ?_
 @⟨H1,sG,gG,zz⟩:=aZ hG (.lst [.int g0,.int g1])
 rw[zz];clear zz
 !DG:=D.go sG
 #aq λRk kR=>?_
 #⟨_,U,_,_,U,U,_,U,?_⟩
 suffices hs:∀H2,ai H1 H2->Rk [S (.int c),S (.ref nl),S (.int m),S (.int r),S (.ref G),S (.int (r%10)),Z,Z,Z] H2 by
   #aG (λc3=>?_) (λu=>cb (hs H1 (same_refl _)))
   #⟨_,U,YI,λz hz=>?_⟩
   @⟨Hz,sz,gz,zz⟩:=aZ hz (.lst [])
   rw[zz];clear zz
   !Dz:=DG.go sz
   !AJ:=aa sG sz
   !Kb:=sz _ _ gG
   #⟨_,RB.nil (aH.of Dz.hn) (aH.of gz),_,U,?_⟩
   #aG (λc1=>?_) (λu=>hs Hz sz)
   !vQ:0<ns~:=by
     cases ns with
     | nil=>#au c1 (by left)
     | cons a l=>#S8 _
   #aq λRk kR=>?_
   #⟨_,U,_,U,_,_,U,U,⟨by left,by right⟩,_,U,nl,_,U,.inl (aH.of Dz.hn),_,_,U,U,(by rw[Rn];lia),?_⟩
   rw[Rn]
   @⟨x,eF,dg⟩:=fZ V.str ns (aP (k:=r/16) (n:=(ns~:Int)) (by lia)) (aQ (by lia))
   #cH Dz.hn dg ?_
   #ak (kR _ _ ?_)
   #aw [S (.int c),S (.ref nl),S (.int m),S (.int r),S (.ref G),S (.int (r%10)),S (.str x),Z,Z] U ?_
   #aq λRk kR=>?_
   #⟨_,U,_,U,_,U,_,_,U,U,⟨by left,by right⟩,c,nl,_,ns,U,Dz,VJ r0 (by left),λv e H3 s3 ev dr=>?_⟩
   !we:=dr.wr l8 (by left) (by left)
   !lo:=dr.lo l8 (by left) (by left)
   !sB:=aa AJ s3
   !uW:=s3 _ _ Kb
   #ak (kR _ _ ?_)
   #aw [S (.int c),S (.ref nl),S (.int m),S (.int r),S (.ref G),S (.int (r%10)),S (.str x),S (v),Z] U ?_
   #⟨_,U,_,U,_,U,?_⟩
   #cH uW U ?_
   #⟨YM,λp hp=>?_⟩
   !sp:=az sB (o:=.tup [.str "put",.str x,v,.int g0]) hp
   !gp:=ae (H:=H3) (a:=p) (o:=.tup [.str "put",.str x,v,.int g0])
   !tp:=af hp (.tup [.str "put",.str x,v,.int g0])
   generalize upd H3 p (.tup [.str "put",.str x,v,.int g0])=H4 at sp gp tp ⊢
   !F1:=tp _ _ uW
   !FV:=ev.keep (ai.tk tp)
   !nd:b8 H4 (.ref p) (.put x e g0):=⟨v,⟨p,rfl,gp⟩,FV⟩
   !wr:sM ns m (.put x e g0:Np):=⟨⟨l8 x eF,we,n0⟩,all1 ⟨F5,F6⟩,all2 (mJ eF l8).1 lo.1,all2 (mJ eF l8).2 lo.2⟩
   #⟨U,_,U,_,U,v,e,U,FV,.inl we,λH5 s5=>?_⟩
   #⟨_,U,?_⟩
   #cH (s5 _ _ F1) U ?_
   #.inl ⟨g0,U,TC (eY (kM n0)) (by left),YM,λl hl=>?_⟩
   #⟨" ",l,["put",x,e.txt,Rt (toString g0)],U,U,aH.of ae,yt nd wr.w,YK,λL8 hL=>?_⟩
   #q L8 (.ref p) (.put x e g0) _ (aS (az (aa sp s5) hl) hL) (az (az (aa sp s5) hl) hL) ae (nd.keep (ai.tk (az (az s5 hl) hL))) wr
 intro H2 s2
 !D2:=DG.go s2
 !Ka:=s2 _ _ gG
 !Ii:=aa sG s2
 #kR _ _ (aq λRk kR=>?_)
 #⟨_,U,_,_,U,U,_,U,?_⟩
 #aG (λc5=>?_) (λu=>?_)
 . #aq λRk kR=>?_
   #⟨_,U,_,U,_,U,_,_,U,U,⟨by left,by right⟩,c,nl,_,ns,U,D2,VJ r0 (by left),λv e H3 s3 ev dr=>?_⟩
   !we:=dr.wr l8 (by left) (by left)
   !lo:=dr.lo l8 (by left) (by left)
   !sB:=aa Ii s3
   !uW:=s3 _ _ Ka
   #ak (kR _ _ ?_)
   #aw [S (.int c),S (.ref nl),S (.int m),S (.int r),S (.ref G),S (.int (r%10)),Z,S (v),Z] U ?_
   #⟨_,U,_,U,?_⟩
   #cH uW U ?_
   #⟨YL,λp hp=>?_⟩
   !sp:=az sB (o:=.tup [.str "say",v,.int g0]) hp
   !gp:=ae (H:=H3) (a:=p) (o:=.tup [.str "say",v,.int g0])
   !tp:=af hp (.tup [.str "say",v,.int g0])
   generalize upd H3 p (.tup [.str "say",v,.int g0])=H4 at sp gp tp ⊢
   !F1:=tp _ _ uW
   !FV:=ev.keep (ai.tk tp)
   !nd:b8 H4 (.ref p) (.say e g0):=⟨v,⟨p,rfl,gp⟩,FV⟩
   !wr:sM ns m (.say e g0:Np):=⟨⟨we,n0⟩,all1 ⟨F5,F6⟩,all1 lo.1,all1 lo.2⟩
   #⟨U,_,U,v,e,U,FV,.inl we,λH5 s5=>?_⟩
   #⟨_,U,?_⟩
   #cH (s5 _ _ F1) U ?_
   #.inl ⟨g0,U,TC (eY (kM n0)) (by left),YL,λl hl=>?_⟩
   #⟨" ",l,["say",e.txt,Rt (toString g0)],U,U,aH.of ae,yt nd wr.w,YK,λL8 hL=>?_⟩
   #q L8 (.ref p) (.say e g0) _ (aS (az (aa sp s5) hl) hL) (az (az (aa sp s5) hl) hL) ae (nd.keep (ai.tk (az (az s5 hl) hL))) wr
 #kR _ _ (aq λRk kR=>?_)
 #⟨_,U,_,_,U,U,_,U,?_⟩
 #aG (λc5=>?_) (λu=>?_)
 . #aq λRk kR=>?_
   #⟨_,U,_,U,_,U,_,_,U,U,⟨by left,by right⟩,c,nl,_,ns,U,D2,VJ r0 (by left),λv e H3 s3 ev dr=>?_⟩
   !we:=dr.wr l8 (by left) (by left)
   !lo:=dr.lo l8 (by left) (by left)
   !sB:=aa Ii s3
   !uW:=s3 _ _ Ka
   #ak (kR _ _ ?_)
   #aw [S (.int c),S (.ref nl),S (.int m),S (.int r),S (.ref G),S (.int (r%10)),Z,S (v),Z] U ?_
   #aq λRk kR=>?_
   !wr:sM ns m (Np.test e g0 g1):=⟨⟨we,n0,n1⟩,all2 ⟨F5,F6⟩ ⟨A6,E9⟩,all1 lo.1,all1 lo.2⟩
   #⟨U,_,U,v,e,U,ev,.inr we,λH5 s5=>?_⟩
   #⟨_,U,?_⟩
   #cH (s5 _ _ uW) U ?_
   #.inl ⟨g0,U,TC (eY (kM n0)) (by left),?_⟩
   #⟨_,U,?_⟩
   #cH (s5 _ _ uW) U ?_
   #.inl ⟨g1,U,TC (eY (kM n1)) (by left),YM,λl hl=>?_⟩
   !hj:JoinOk " " ["test",e.txt,Rt (toString g0),Rt (toString g1)]=true:=by
     #jK 4000 (λy hy=>?_) (by change 4*4000+4*1<=16777216;decide)
     !a1:=bJ n0
     !a2:=bJ n1
     !a3:=we.len
     rcases cv hy with z|hy
     . rw[z];decide
     rcases cv hy with z|hy
     . rw[z];lia
     rcases cv hy with z|hy
     . rw[z];lia
     . rw[di hy];lia
   #⟨" ",l,["test",e.txt,Rt (toString g0),Rt (toString g1)],U,U,aH.of ae,hj,?_⟩
   !s6:=az s5 (o:=.lst [.str "test",.str e.txt,.str (Rt (toString g0)),.str (Rt (toString g1))]) hl
   #ak (kR _ _ ?_)
   #rJ (upd H5 l (.lst [.str "test",.str e.txt,.str (Rt (toString g0)),.str (Rt (toString g1))])) U ?_
   generalize upd H5 l (.lst [.str "test",.str e.txt,.str (Rt (toString g0)),.str (Rt (toString g1))])=H6 at s6 ⊢
   #aw [S (.int c),S (.ref nl),S (.int m),S (.int r),S (.ref G),S (.int (r%10)),Z,S (v),S (.str (RM bG ["test",e.txt,Rt (toString g0),Rt (toString g1)]))] U ?_
   !Mc:=s6 _ _ uW
   !Oc:=ev.keep (ai.tk s6)
   #⟨_,U,_,U,?_⟩
   #cH Mc U ?_
   #⟨_,U,?_⟩
   #cH Mc U ?_
   #⟨YM,λp hp=>⟨_,U,YK,λL8 hL=>?_⟩⟩
   !tp:=af hp (.tup [.str "test",v,.int g0,.int g1])
   !tL:=af hL (.lst [.ref p,.str (RM bG ["test",e.txt,Rt (toString g0),Rt (toString g1)])])
   #q L8 (.ref p) (.test e g0 g1) _ (aS (aa (aa sB s6) tp) hL) (aa (aa sB s6) (aa tp tL)) ae ⟨v,⟨p,U,tL _ _ ae⟩,Oc.keep (ai.tk (aa tp tL))⟩ wr
 #kR _ _ (aq λRk kR=>?_)
 #⟨_,U,U,_,U,?_⟩
 suffices hs:∀H3,ai H2 H3->Rk [S (.int c),S (.ref nl),S (.int m),S (.int r),S (.ref G),S (.int (r%10)),Z,Z,Z] H3 by
   #aG (λc8=>?_) (λu=>cb (hs H2 (same_refl _)))
   #⟨_,U,YI,λz hz=>?_⟩
   @⟨Hz,sz,gz,zz⟩:=aZ hz (.lst [])
   rw[zz];clear zz
   !Dz:=D2.go sz
   !AJ:=aa Ii sz
   !Kb:=sz _ _ Ka
   #⟨_,RB.nil (aH.of Dz.hn) (aH.of gz),_,U,?_⟩
   #aG (λc1=>?_) (λu=>hs Hz sz)
   !vQ:0<ns~:=by
     cases ns with
     | nil=>#au c1 (by left)
     | cons a l=>#S8 _
   #aq λRk kR=>?_
   #⟨_,U,_,U,_,_,U,U,⟨by left,by right⟩,_,U,nl,_,U,.inl (aH.of Dz.hn),_,_,U,U,(by rw[Rn];lia),?_⟩
   rw[Rn]
   @⟨x,eF,dg⟩:=fZ V.str ns (aP (k:=r/16) (n:=(ns~:Int)) (by lia)) (aQ (by lia))
   #cH Dz.hn dg ?_
   #ak (kR _ _ ?_)
   #aw [S (.int c),S (.ref nl),S (.int m),S (.int r),S (.ref G),S (.int (r%10)),S (.str x),Z,Z] U ?_
   !sB:=AJ
   !uW:=Kb
   #⟨_,U,_,U,?_⟩
   #cH uW U ?_
   #⟨YL,λp hp=>?_⟩
   !sp:=az sB (o:=.tup [.str "pick",.str x,.int g0]) hp
   !gp:=ae (H:=Hz) (a:=p) (o:=.tup [.str "pick",.str x,.int g0])
   !tp:=af hp (.tup [.str "pick",.str x,.int g0])
   generalize upd Hz p (.tup [.str "pick",.str x,.int g0])=H4 at sp gp tp ⊢
   !F1:=tp _ _ uW
   !nd:b8 H4 (.ref p) (.pick x g0):=⟨p,rfl,gp⟩
   !wr:sM ns m (.pick x g0:Np):=⟨⟨l8 x eF,n0⟩,all1 ⟨F5,F6⟩,all1 (mJ eF l8).1,all1 (mJ eF l8).2⟩
   #⟨U,_,U,_,U,?_⟩
   #cH F1 U ?_
   #.inl ⟨g0,U,TC (eY (kM n0)) (by left),YL,λl hl=>?_⟩
   #⟨" ",l,["pick",x,Rt (toString g0)],U,U,aH.of ae,yt nd wr.w,YK,λL8 hL=>?_⟩
   #q L8 (.ref p) (.pick x g0) _ (aS (az sp hl) hL) (az (az sp hl) hL) ae (nd.keep (ai.tk (az (az (same_refl _) hl) hL))) wr
 intro H3 s3
 #kR _ _ ?_
 #⟨YJ,λp hp=>⟨YK,λL8 hL=>?_⟩⟩
 !tp:=af hp (.tup [.str "end"])
 !tL:=af hL (.lst [.ref p,.str "end"])
 #q L8 (.ref p) .fin _ (aS (aa (aa Ii s3) tp) hL) (aa (aa Ii s3) (aa tp tL)) (by rw[yV];#ae) ⟨p,U,tL _ _ ae⟩ ⟨RO,(λu z=>nomatch z),(λu z=>nomatch z),λu z=>nomatch z⟩
abbrev nO:Stmt:=top 47
theorem sub_len {α:Type}[DecidableEq α]:∀{xs ys:O α},xs.Nodup->(∀x∈xs,x∈ys)->xs~<=ys~
 | [],_,_,_=>Sd _
 | x::r,ys,nd,h=>by
   rw[List.nodup_cons]at nd
   !hx:x∈ys:=h x (zq (.inl rfl))
   !ih:=sub_len (xs:=r) (ys:=ys.erase x) nd.2 λy hy=>(List.mem_erase_of_ne (a:=y) (b:=x) (λe:y=x=>nd.1 (e▸hy))).mpr (h y (zq (.inr hy)))
   !hl:=List.length_erase_of_mem hx
   !vQ:0<ys~:=List.length_pos_of_mem hx
   rw[RE]
   lia
abbrev lets:Str:="abcdefghijklmnopqrstuvwxyz"
def zp {k:Int}(h0:0<=k)(h1:k<26):iz lets.cps.toList k=S (97+k.toNat):=by
 !all:∀n:Fin 26,iz lets.cps.toList (n.1:Int)=S (97+n.1):=by right
 !:=all ⟨k.toNat,by lia⟩
 rw[show((k.toNat:Nat):Int)=k by lia]at this
 #this
abbrev bA:O Str:=["a","yes","put","box","abcdefgh","end","ye","no","x","test","input","abcdefg","yess","say","pick","plus","less","same","number","under","both","not","yours","mine"]
def AH:bA.Nodup:=by right
def AG:∀x∈bA,1<=x~/\x~<=8/\∀c∈x.cps.toList,97<=c/\c<123:=by right
def EF:∀x∈bA,df x:=λx hx=>let⟨a,b,c⟩:=AG x hx;⟨a,b,c⟩
theorem MJ:∀ts:O Str,(Td "" ts).cps.toList=(ts.map λx=>x.cps.toList).flatten
 | []=>rfl
 | [x]=>by change x.cps.toList=x.cps.toList++[];rw[RY]
 | x::y::r=>by
   change((x++"")++Td "" (y::r)).cps.toList=_
   rw[bM,bM,MJ (y::r),show("":Str).cps.toList=[]from rfl,RY]
   rfl
def v7 {ts:O Str}(h:∀x∈ts,∃c,x.cps.toList=[c]/\97<=c/\c<123)(h1:1<=ts~)(h8:ts~<=8):df (RM "" ts):=by
 !e:(RM "" ts).cps.toList=(ts.map λx=>x.cps.toList).flatten:=by
   change(Sr "" ts).cps.toList=_
   rw[StrLaws.glued_eq_join]
   #MJ ts
 !key:∀l:O Str,(∀x∈l,∃c,x.cps.toList=[c]/\97<=c/\c<123)->(l.map λx=>x.cps.toList).flatten.length=l~/\∀c∈(l.map λx=>x.cps.toList).flatten,97<=c/\c<123:=by
   intro l
   induction l with
   | nil=>intro _;#⟨rfl,λc hc=>nomatch hc⟩
   | cons a l ih=>
     intro hl
     @⟨i1,i2⟩:=ih λx hx=>hl x (RC _ hx)
     @⟨c0,e0,OR⟩:=hl a Ru
     rw[R3,List.flatten_cons,e0]
     #⟨by rw[Rx,i1,Sj,RE];lia,λc hc=>?_⟩
     rcases ez hc with z|z
     . rw[di z];#OR
     . #i2 c z
 @⟨k1,k2⟩:=key ts h
 rw[← e]at k1 k2
 rw[bP]at k1
 #⟨by lia,by lia,k2⟩
def zv {fs:O Str}{y:Str}(h:fs.Nodup)(hy:y∉fs):(fs++[y]).Nodup:=by
 rw[List.nodup_append]
 #⟨h,by simp,λa ha b hb=>?_⟩
 rw[di hb]
 #λz=>hy (z▸ha)
def freeOf (fs:O Str)(xs:O Str):O Str:=xs.filter λx=>!decide (x∈fs)
def vH {fs:O Str}(h:fs~<=4):0<(freeOf fs bA)~:=by
 #Nat.pos_of_ne_zero λz=>?_
 !hn:=Vv z
 !hall:∀x∈bA,x∈fs:=λx hx=>by
   by_cases hf:x∈fs
   . #hf
   . !:x∈freeOf fs bA:=List.mem_filter.mpr ⟨hx,by simp[hf]⟩
     rw[hn]at this
     cases this
 !:=sub_len AH hall
 !e:bA~=24:=rfl
 lia
def rA {xs:O Str}{x:Str}:iN (.str x) (xs.map V.str)=decide (x∈xs):=by
 unfold iN
 by_cases h:x∈xs
 . rw[hW h,Vw]
   #⟨.str x,C6 ⟨x,h,U⟩,by simp[oB]⟩
 . rw[gv h,Uw]
   intro v hv
   @⟨y,hy,rfl⟩:=fc hv
   intro e
   !:y=x:=by simpa[oB]using e
   #h (this▸hy)
def r8:Sp:=λvs H Q z=>∃(c m:Int),vs=[.int c,.int m]/\0<=m/\m<=4/\∀(l:J) (ns:O Str) (H':Hp),ai H H'->H' l=S (.lst (ns.map V.str))->ns~=m.toNat->(∀x∈ns,df x)->ns.Nodup->Q (.ref l) H'
def cB:aC ["head","many","some","letters","found","k","number","left","name","word"] ["head","many"] (ao nO):=eU
def wW {f:J}{fd:RZ}(F:cD K "_law_names" "_law_names" nO f fd)(m_len:mg "len"=Z)(m_range:mg "range"=Z)(ST:b7 P w K mg base "_law_stir" ["cell","k"] 1 cm):aY P w K mg base dq 2 f fd ["head","many"] r8:=by
 #F.iU cB λcdv A outer s H vs Q E hr h=>?_
 @⟨c,m,rfl,m0,m4,q⟩:=h
 #ig ⟨_,(Wv (Wy 2 cB.nd (WD (L Wu (L Wu (L Wu (L Wu (L Wu (L Wu (L Wu (L Wu (L Wu (L Wu (L Wu (L Wu (L Wu (L Wu M))))))))))))))))
   (Wv (Wy 2 cB.nd (Wt W7 (Y 2) (WD (L Wu (L Wu (L Wu (L Wu (L Wu (L Wu (L Wu (L Wu (L Wu (L Wu M)))))))))))))
   (Wv (Wy 3 cB.nd Wu)
   (Wv (Wy 4 cB.nd (WD M))
   (Wv (W8 (Xu U m_range (L (Y 1) M)) (WI 5 cB.nd) (Wv (Wy 6 cB.nd (WA ST hr U (L (Y 0) (L (Wt WN Ws (Y 5)) M))))
   (Wv (Xz (i:=7) [Z,S 4] ["name","found"] (oa nO) U (WW (Y 2)) (λv v v v v=>⟨(WI 0 (jr ["name","found"])),(L3.if1 (Wx L3.jQ (Y 0) (Y 1) U)),(Y 0)⟩) cB.nd)
   (Wv (Wy 8 cB.nd (Wz WK (Y 7) (Wt WG (Y 6) (WJ WO U m_len RG (L (Y 7) M)))))
   (Wv (Wy 9 cB.nd (Xv Wu (L (Xk [Z,S 3,S 0,S 5] ["j","letters","head","k"] (oa nO) U (Xu U m_range (L (Wt WN Ws (Wt WG (Wt WT (Y 6) Ws) Ws)) M)) (λv v v v v=>⟨(WI 0 (jr ["j","letters","head","k"])),WZ,(Wz L3.MH (Y 1) (Wt WG (WA ST hr U (L (Y 2) (L (Wt WN (Wt WN Ws (Wt WY Ws (Y 3))) (Y 0)) M))) Ws))⟩)) M)))
   (Wv (WB (WV (WX (Wx WL (Wt WG (WA ST hr U (L (Y 0) (L (Wt WN Ws (Y 5)) M))) Ws) Ws) (W6 (Wx L3.jQ (Y 9) (Y 4) U)))) (Ww (Wy 8 cB.nd (Y 9))) WE)
   (Ww (W0 (Xt (Y 4) (L (Y 8) M))))))))))
   (Ww (WC (Y 4)))))))),?_⟩
 #tu λRk kR=>?_
 #⟨YU,λs1 GB=>?_⟩
 @⟨Ha,sa,ga,zz⟩:=aZ GB (.lst [.str "a",.str "yes",.str "put",.str "box",.str "abcdefgh",.str "end",.str "ye",.str "no",.str "x",.str "test",.str "input",.str "abcdefg",.str "yess",.str "say"])
 rw[zz];clear zz
 #ak ?_
 #⟨_,U,YS,λs2 hs2=>?_⟩
 @⟨Hb,sb,gb,zz⟩:=aZ hs2 (.lst [.str "pick",.str "plus",.str "less",.str "same",.str "number",.str "under",.str "both",.str "not",.str "yours",.str "mine"])
 rw[zz];clear zz
 #⟨s1,s2,_,_,U,U,sb _ _ ga,gb,YV,λsm Pq=>?_⟩
 !sc:=az (aa sa sb) (o:=.lst (bA.map V.str)) Pq
 !gc:(upd Hb sm (.lst (bA.map V.str))) sm=S (.lst (bA.map V.str)):=ae
 #ak (kR _ _ ?_)
 #rJ (upd Hb sm (.lst (bA.map V.str))) U ?_
 generalize upd Hb sm (.lst (bA.map V.str))=Hc at sc gc ⊢
 #tu λRk kR=>?_
 #ak ?_
 #⟨YI,λln Jg=>?_⟩
 !KG:=aS sc Jg
 !Qv:sm≠ln:=ag gc Jg
 !g2:(upd Hc ln (.lst [])) ln=S (.lst (([]:O Str).map V.str)):=ae
 !s2:ai H (upd Hc ln (.lst [])):=az sc Jg
 !gs:(upd Hc ln (.lst [])) sm=S (.lst (bA.map V.str)):=af Jg _ _ _ gc
 generalize upd Hc ln (.lst [])=H2 at g2 s2 gs ⊢
 #ak (kR _ _ ?_)
 #aw [S (.int c),S (.int m),S (.ref sm),S (.str lets),S (.ref ln),Z,Z,Z,Z,Z] U ?_
 #aq λRk kR=>?_
 #⟨_,U,m,U,by lia,by lia,?_⟩
 #gf (lo:=0) (n:=m.toNat) (λi σ Hx=>(∃o5 o6 o7 o8 o9,σ=[S (.int c),S (.int m),S (.ref sm),S (.str lets),S (.ref ln),o5,o6,o7,o8,o9])/\ai H Hx/\Hx sm=S (.lst (bA.map V.str))/\∃fs:O Str,Hx ln=S (.lst (fs.map V.str))/\fs~=i/\(∀x∈fs,df x)/\fs.Nodup) ⟨⟨_,_,_,_,_,U⟩,s2,gs,[],g2,U,(λx hx=>nomatch hx),List.nodup_nil⟩ (λi σ Hx hi z=>?_) (λσ Hx z=>?_)
 . @⟨⟨o5,o6,o7,o8,o9,rfl⟩,sx,gm,fs,gl,fl,f8,JZ⟩:=z
   #ak ?_
   #aw [S (.int c),S (.int m),S (.ref sm),S (.str lets),S (.ref ln),S (.int (0+(i:Int))),o6,o7,o8,o9] U ?_
   #aq λRj kj=>?_
   #⟨_,U,_,U,_,_,U,U,c,400+(0+(i:Int)),U,by lia,by lia,λr r0 r1=>?_⟩
   #ak ?_
   #kj _ _ ?_
   #aw [S (.int c),S (.int m),S (.ref sm),S (.str lets),S (.ref ln),S (.int (0+(i:Int))),S (.int r),o7,o8,o9] U ?_
   #aq λRj kj=>?_
   #⟨_,U,sm,U,⟨_,aH.of gm⟩,λD hD=>?_⟩
   #bD (xs:=bA.map V.str) (λj Hy=>ai Hx Hy/\Hy D=S (.lst ((freeOf fs (bA.take j)).map V.str))) ⟨af hD _,ae⟩ (λj Hy v z=>aH.of (z.1 _ _ gm)) (λj x0 Hy hx z=>?_) (λHy z=>?_)
   . @⟨sy,gD⟩:=z
     !Gm:=(cy hx)
     !Q5:j<24:=Gm
     @⟨x,yy,rfl⟩:=cX hx
     #ak ?_
     #⟨_,U,_,U,ln,_,U,.inl (aH.of (sy _ _ gl)),U,cQ,_,U,?_⟩
     !MS:bA.take (j+1)=bA.take j++[x]:=by rw[R9,yy];rfl
     !hb:(if true=true then !iN (.str x) (fs.map V.str)else iN (.str x) (fs.map V.str))=!decide (x∈fs):=by rw[rA];rfl
     rw[hb]
     by_cases hf:x∈fs
     . rw[hW hf]
       #cb ?_
       #bq (Pv:=λj Hy=>ai Hx Hy/\Hy D=S (.lst ((freeOf fs (bA.take j)).map V.str))) (by repeat' constructor) Gm ⟨sy,?_⟩
       rw[gD,MS]
       unfold freeOf
       rw[List.filter_append,Uz (by simp[hf]),List.filter_nil,RY]
     . rw[gv hf]
       #b6 ?_
       #⟨_,U,_,gD,Tv (show _<=1000 from ?_) (by left),bq (Pv:=λj Hy=>ai Hx Hy/\Hy D=S (.lst ((freeOf fs (bA.take j)).map V.str))) (by repeat' constructor) Gm ⟨bo sy hD,?_⟩⟩
       . rw[Rn]
         #Ry (Wf _ _) ?_
         rw[R8]
         lia
       . rw[ae,MS]
         unfold freeOf
         rw[List.filter_append,Uy (by simp[hf]),List.filter_nil,RW]
         rfl
   @⟨sy,gD⟩:=z
   rw[Rn,Sf]at gD
   !fp:=vH (fs:=fs) (by lia)
   !lm:((freeOf fs bA).map V.str)~=(freeOf fs bA)~:=Rn ..
   #ak ?_
   #kj _ _ ?_
   #aw [S (.int c),S (.int m),S (.ref sm),S (.str lets),S (.ref ln),S (.int (0+(i:Int))),S (.int r),S (.ref D),o8,o9] U ?_
   #aq λRj kj=>?_
   #⟨_,U,_,U,_,U,D,_,U,.inl (aH.of gD),_,_,U,U,(by rw[lm];lia),?_⟩
   rw[lm]
   @⟨x,eF,dg⟩:=fZ V.str (freeOf fs bA) (aP (k:=r) (n:=((freeOf fs bA)~:Int)) (by lia)) (aQ (by lia))
   #cH gD dg ?_
   !x8:df x:=EF x (List.mem_filter.mp eF).1
   !Nu:x∉fs:=by simpa using(List.mem_filter.mp eF).2
   #ak ?_
   #kj _ _ ?_
   #aw [S (.int c),S (.int m),S (.ref sm),S (.str lets),S (.ref ln),S (.int (0+(i:Int))),S (.int r),S (.ref D),S (.str x),o9] U ?_
   !QB:=aa sx sy
   !Ki:=sy _ _ gm
   !Kg:=sy _ _ gl
   #aq λRj kj=>?_
   !w0:=aP (k:=r/32) (n:=8) (by left)
   !w1:=aQ (k:=r/32) (n:=8) (by left)
   #⟨U,_,U,_,_,U,U,⟨by left,by right⟩,_,_,U,U,(by change(0:Int)<8;decide),_,_,U,U,1+r/32%8,U,by lia,by lia,λD2 A7=>?_⟩
   #hV (lo:=0) (n:=(1+r/32%8).toNat) (λj Hv=>ai Hy Hv/\∃ts:O Str,Hv D2=S (.lst (ts.map V.str))/\ts~=j/\∀x∈ts,∃c,x.cps.toList=[c]/\97<=c/\c<123) ⟨af A7 _,[],ae,U,λx hx=>nomatch hx⟩ (λj Hz hj z=>?_) (λHz z=>?_)
   . @⟨sz,ts,gD,tl,t1⟩:=z
     #ak ?_
     #de (A:=λH5=>dJ _ D2 _ H5 _) ?_
     #⟨_,U,_,U,_,U,_,_,U,U,.inr ⟨by lia,by lia⟩,_,_,U,U,_,U,_,_,U,U,c,450+8*(0+(i:Int))+(0+(j:Int)),U,by lia,by lia,λa a0 a1=>⟨_,_,U,U,(by change(0:Int)<26;decide),?_⟩⟩
     #⟨lets,_,_,U,U,by left,zp (aP (by left)) (aQ (by left)),?_⟩
     #⟨_,gD,aW (by rw[Rn];lia),bq (Pv:=λj Hv=>ai Hy Hv/\∃ts:O Str,Hv D2=S (.lst (ts.map V.str))/\ts~=j/\∀x∈ts,∃c,x.cps.toList=[c]/\97<=c/\c<123) (by repeat' constructor) hj ⟨bo sz A7,ts++[⟨#[97+(a%26).toNat]⟩],by rw[ae,RW];rfl,by rw[Rx,tl];rfl,λx hx=>?_⟩⟩
     rcases ez hx with z|z
     . #t1 x z
     . rw[di z]
       !a2:=aQ (k:=a) (n:=26) (by left)
       !a3:=aP (k:=a) (n:=26) (by left)
       #⟨97+(a%26).toNat,U,by lia,by lia⟩
   @⟨sz,ts,gD,tl,t1⟩:=z
   #⟨"",D2,ts,rfl,rfl,aH.of gD,jK 1 (λx hx=>by@⟨c,e,_⟩:=t1 x hx;rw[← bP,e];#Rz _) (by rw[show(("":Str))~=0 from rfl];lia),?_⟩
   !w8:=v7 t1 (by lia) (by lia)
   obtain⟨wd,L8⟩ : ∃wd,wd=RM "" ts:=⟨_,rfl⟩
   #ak ?_
   #kj _ _ ?_
   #aw [S (.int c),S (.int m),S (.ref sm),S (.str lets),S (.ref ln),S (.int (0+(i:Int))),S (.int r),S (.ref D),S (.str x),S (.str wd)] (by subst L8;rfl) ?_
   rw[← L8]at w8
   !QC:=aa QB sz
   !Kj:=sz _ _ Ki
   !Kh:=sz _ _ Kg
   #aq λRj kj=>?_
   suffices hs:∀y:Str,df y->y∉fs->Rj [S (.int c),S (.int m),S (.ref sm),S (.str lets),S (.ref ln),S (.int (0+(i:Int))),S (.int r),S (.ref D),S (.str y),S (.str wd)] Hz by
     #⟨_,U,_,U,_,_,U,U,c,440+(0+(i:Int)),U,by lia,by lia,λa a0 a1=>⟨_,_,U,U,(by change(0:Int)<2;decide),U,_,U,?_⟩⟩
     #aG (λv=>?_) (λv=>cb (hs x x8 Nu))
     #⟨_,U,_,U,ln,_,U,.inl (aH.of Kh),U,cQ,_,U,?_⟩
     #aG (λcw=>?_) (λv=>hs x x8 Nu)
     !cw:(!iN (.str wd) (fs.map V.str))=true:=cw
     rw[rA]at cw
     #⟨_,U,?_⟩
     #ak ?_
     #hs wd w8 (by simpa using cw)
   intro y y8 QM
   #kj _ _ ?_
   #⟨_,U,.inl ⟨U,_,aH.of Kh⟩,_,U,ln,_,_,U,U,Kh,aW (by rw[Rn];lia),⟨_,_,_,_,_,U⟩,bo QC KG,by rw[ah Qv];show Kj,fs++[y],by rw[ae,RW];rfl,by rw[Rx,fl];rfl,λz hz=>?_,zv JZ QM⟩
   rcases ez hz with e|e
   . #f8 z e
   . rw[di e];#y8
 @⟨⟨o5,o6,o7,o8,o9,rfl⟩,sx,gm,fs,gl,fl,f8,JZ⟩:=z
 #kR _ _ ?_
 #⟨_,U,q ln fs Hx sx gl fl f8 JZ⟩
abbrev gP:Stmt:=top 57
def cS:aC ["script","head","names","boxes","left","inputs","k","cells","nodes","rows"] ["script"] (ao gP):=eU
def dQ (H:Hp)(v:V)(e:Np):Prop:=∃L8 nv,v=.ref L8/\H L8=S (.lst [nv,.str (RM bG e.ws)])/\b8 H nv e
def dQ.same {H H':Hp}(s:ai H H'){v:V}{e:Np}(h:dQ H v e):dQ H' v e:=by@⟨L8,nv,a,b,c⟩:=h;#⟨L8,nv,a,s _ _ b,c.keep (ai.tk s)⟩
def mK (n z:Str):"box "++n++" "++z=RM bG ["box",n,z]:=by
 change _=Sr bG ["box",n,z]
 rw[StrLaws.glued_eq_join]
 change _="box"++bG++(n++bG++z)
 rw[show("box ":Str)="box"++bG by right]
 simp only[UE]
def p8 (n:Str):"input "++n=RM bG ["input",n]:=by
 change _=Sr bG ["input",n]
 rw[StrLaws.glued_eq_join]
 change _="input"++bG++n
 rw[show("input ":Str)="input"++bG by right]
def xK {H:Hp}{v:V}{e:Np}(h:b8 H v e)(w:e.wr):(RM bG e.ws)~<=sizeLine:=by
 @⟨hd,xs,ra,eq⟩:=Np.rowAt h w
 rw[eq]
 #Ry (Ax ra) (by left)
def vj (sc:O Int):∃cs:O Int,er (sc.map V.int) (S 1) (S 41)=cs.map V.int/\cs~<=40:=by
 !e1:HT.bX (sc.map V.int)~ 0 (S ((1:Nat):Int))=min 1 (sc.map V.int)~:=HT.d9 _ _ _
 !e2:HT.bX (sc.map V.int)~ (sc.map V.int)~ (S ((41:Nat):Int))=min 41 (sc.map V.int)~:=HT.d9 _ _ _
 #⟨(sc.drop (HT.bX (sc.map V.int)~ 0 (S ((1:Nat):Int)))).take (HT.bX (sc.map V.int)~ (sc.map V.int)~ (S ((41:Nat):Int))-HT.bX (sc.map V.int)~ 0 (S ((1:Nat):Int))),?_,?_⟩
 . rw[Vi,V6]
   rfl
 . rw[R8,Tn,e1,e2,Rn]
   lia
def zf (cs:O Int):∃ds:O Int,er (cs.map V.int) Z (S ((cs~:Int)/2))=ds.map V.int/\ds~=cs~/2:=by
 !e0:(((cs~/2:Nat):Nat):Int)=(cs~:Int)/2:=by lia
 !e2:HT.bX (cs.map V.int)~ (cs.map V.int)~ (S ((cs~/2:Nat):Int))=min (cs~/2) (cs.map V.int)~:=HT.d9 _ _ _
 #⟨cs.take (cs~/2),?_,by rw[R8];lia⟩
 unfold er
 rw[← e0,e2,HT.pd,VS,Rn,Wm,Vi,Nat.min_eq_left (by lia)]
def x5 {i:Int}{n:Nat}(h0:0<=i)(h1:i<(n:Int)):Va i n=S i.toNat:=by
 unfold Va
 simp only[dh (show ¬ i<0 by lia)]
 rw[dI (by simp[h0,h1])]
def LX {n:Int}(h:1<=n/\n<=16):n.natAbs<2^100:=RJ (show n.natAbs<64 by lia) (by left)
theorem E.okN.ij {bs:aB}{ns:O Str}(h:bs.map (·.1)=ns):∀{e:E},e.okN (·∈ns)->e.okIn (JK bs)
 | .num _,o=>kM o
 | .box t x,o=>⟨o.1,by rw[h];#o.2⟩
 | .yes,_=>RO
 | .nt a,o=>E.okN.ij h (e:=a) o
 | .two _ a b,o=>⟨E.okN.ij h (e:=a) o.1,E.okN.ij h (e:=b) o.2⟩
theorem kr:∀{l:O Str} {j:Nat} {x:Str},l[j]?=S x->l.Perm (x::l.eraseIdx j)
 | a::l,0,x,h=>by
   !:a=x:=by simpa using h
   rw[this]
   #.refl _
 | a::l,j+1,x,h=>by
   !h:l[j]?=S x:=by simpa using h
   #((kr h).cons a).trans (.swap x a _)
def sM.row {ns:O Str}{m:Int}{e:Np}(h:sM ns m e):(RM bG e.ws)~<=3600:=by
 !key:∀(l:O Str),(∀x∈l,x~<=31)->(l.map (·.length)).sum<=l~*31:=by
   intro l
   induction l with
   | nil=>intro _;#Rz _
   | cons a l ih=>
     intro h
     !h1:=ih λx hx=>h x (RC _ hx)
     !h2:=h a Ru
     rw[R3,S2,RE]
     lia
 !lo:=h.lo
 !w:=h.w
 change(Sr bG e.ws)~<=_
 rw[StrLaws.glued_eq_join]
 #Ry (StrLaws.join_length_le _ _) ?_
 rw[show(bG:Str)~=1 from rfl]
 match e,lo,w with
 | .put x t n,lo,w=>
   have h1:=lo t (RC _ Ru)
   have h2:=w.1.l8
   have h3:=bJ w.2.2
   have h4:(("put":Str))~=3:=rfl
   simp only[Np.ws,R3,Ud,S2,UQ,RE,Tx]
   lia
 | .say t n,lo,w=>
   have h1:=lo t Ru
   have h3:=bJ w.2
   have h4:(("say":Str))~=3:=rfl
   simp only[Np.ws,R3,Ud,S2,UQ,RE,Tx]
   lia
 | .test t n o,lo,w=>
   have h1:=lo t Ru
   have h3:=bJ w.2.1
   have h5:=bJ w.2.2
   have h4:(("test":Str))~=4:=rfl
   simp only[Np.ws,R3,Ud,S2,UQ,RE,Tx]
   lia
 | .pick x n,lo,w=>
   have h2:=w.1.l8
   have h3:=bJ w.2
   have h4:(("pick":Str))~=4:=rfl
   simp only[Np.ws,R3,Ud,S2,UQ,RE,Tx]
   lia
 | .fin,_,_=>#(by left:3+0+1*1<=3600)
def dQ.put {H:Hp}{N:J}{us QJ:O V}(gN:H N=S (.lst us)){v:V}{e:Np}(h:dQ H v e/\v≠.ref N):dQ (upd H N (.lst QJ)) v e/\v≠.ref N:=by
 @⟨⟨L8,nv,rfl,b,c⟩,n⟩:=h
 !ln:L8≠N:=λz=>n (by rw[z])
 #⟨⟨L8,nv,U,by rw[ah ln];#b,c.keep (TW.TK.lst gN)⟩,n⟩
def yd (K:Ro):Sp:=λvs H Q z=>∃(a:J) (sc:O Int),vs=[.ref a]/\aH K H a (sc.map V.int)/\∀(L8 p R B I N:J) (vb vn:O V) (bs:aB) (ins:O Str) (nds:O Np) (H':Hp),ai H H'->H' L8=S (.lst [.ref p,.ref R])->H' p=S (.tup [.ref B,.ref I,.ref N])->FD H' B I N vb vn bs ins nds->AW bs ins nds->nds~<=40->H' R=S (.lst ((textOf bs ins nds).map V.str))->Q (.ref L8) H'
def zM {f:J}{fd:RZ}(F:cD K "_law_program" "_law_program" gP f fd)(m_len:mg "len"=Z)(m_range:mg "range"=Z)(m_list:mg "list"=Z)(m_str:mg "str"=Z)(m_sum:mg "sum"=Z)(m_enumerate:mg "enumerate"=Z)(CE:b7 P w K mg base "_law_cell_at" ["script","k"] 41 (n5 K))(NS:b7 P w K mg base "_law_names" ["head","many"] 41 r8)(ST:b7 P w K mg base "_law_stir" ["cell","k"] 41 cm)(NO:b7 P w K mg base "_law_node" ["cell","names","many"] 41 yb):aY P w K mg base dq 42 f fd ["script"] (yd K):=by
 #F.iU cS λcdv A outer s H vs Q E hr h=>?_
 @⟨a,sc,rfl,hs,q⟩:=h
 #ig ⟨_,(Wv (Wy 1 cS.nd (WA CE hr U (L (Y 0) (L Ws M))))
   (Wv (Wy 2 cS.nd (WA NS hr U (L (Y 1) (L (Wt WG (WA ST hr U (L (Y 1) (L Ws M))) Ws) M))))
   (Wv (Xz (i:=3) [Z,Z,S 1] ["k","name","head"] (oa gP) U (L3.iE U m_enumerate (L (Y 2) M)) (λy y y y y=>⟨(Xb 2 (WQ (WI 0 (jr ["k","name","head"])) (WQ (WI 1 (jr ["k","name","head"])) W2))),WZ,(WH (L (Y 1) (L (Wt WN Ws (Wt WG (WA ST hr U (L (Y 2) (L (Wt WN Ws (Y 0)) M))) Ws)) M)))⟩) cS.nd)
   (Wv (Wy 4 cS.nd (W4 L3.mM U m_list (by right) (L (Y 2) M)))
   (Wv (Wy 5 cS.nd (WD M))
   (Wv (W8 (Xu U m_range (L (Wt WG (WA ST hr U (L (Y 1) (L Ws M))) (Wt WN (WJ WO U m_len RG (L (Y 2) M)) Ws)) M)) (WI 6 cS.nd) (Ww (W0 (Xt (Y 5) (L (L3.Bs (Y 4) (L (Wt WG (WA ST hr U (L (Y 1) (L (Wt WN Ws (Y 6)) M))) (WJ WO U m_len RG (L (Y 4) M))) M)) M)))))
   (Wv (Wy 7 cS.nd (L3.BH (Y 0) Ws Ws))
   (Wv (WB (Wx (L3.wN (m:=2) (dm hr _ (by left))) (Y 7) (WD M)) (Ww (Wy 7 cS.nd (WD (L Ws M)))) WE)
   (Wv (Xz (i:=8) [Z,S 2,S 7] ["cell","names","cells"] (oa gP) U (WW (Y 7)) (λy y y y y=>⟨(WI 0 (jr ["cell","names","cells"])),WZ,(WA NO hr U (L (Y 0) (L (Y 1) (L (WJ WO U m_len RG (L (Y 2) M)) M))))⟩) cS.nd)
   (Wv (Xo (Wx Xi (WJ L3.FN U m_sum (by right) (L (Xk [Z,Z] ["node","row"] (oa gP) U (WW (Y 8)) (λy y y y y=>⟨(L3.zc 2 (WQ (WI 0 (jr ["node","row"])) (WQ (WI 1 (jr ["node","row"])) W2))),WZ,(Wt WN (WJ L3.mL U m_len RG (L (Y 1) M)) Ws)⟩)) M)) Ws) (Wv (Wy 7 cS.nd (L3.ED (Y 7) (Wt WT (WJ WO U m_len RG (L (Y 7) M)) Ws)))
   (Ww (Xz (i:=8) [Z,S 2,S 7] ["cell","names","cells"] (oa gP) U (WW (Y 7)) (λy y y y y=>⟨(WI 0 (jr ["cell","names","cells"])),WZ,(WA NO hr U (L (Y 0) (L (Y 1) (L (WJ WO U m_len RG (L (Y 2) M)) M))))⟩) cS.nd))))
   (Wv (Wy 9 cS.nd (Wt W7 (Xk [Z,Z] ["name","size"] (oa gP) U (WW (Y 3)) (λy y y y y=>⟨(Xb 2 (WQ (WI 0 (jr ["name","size"])) (WQ (WI 1 (jr ["name","size"])) W2))),WZ,(Wt WS (Wt WS (Wt WS Wu (Y 0)) Wu) (W4 Xp U m_str (by right) (L (Y 1) M)))⟩)) (Xk [Z] ["name"] (oa gP) U (WW (Y 5)) (λy y y y y=>⟨(WI 0 (jr ["name"])),WZ,(Wt WS Wu (Y 0))⟩))))
   (Ww (WC (WD (L (WH (L (Y 3) (L (Y 5) (L (Xk [Z,Z] ["node","row"] (oa gP) U (WW (Y 8)) (λy y y y y=>⟨(L3.zc 2 (WQ (WI 0 (jr ["node","row"])) (WQ (WI 1 (jr ["node","row"])) W2))),WZ,(Y 0)⟩)) M)))) (L (Wt W7 (Y 9) (Xk [Z,Z] ["node","row"] (oa gP) U (WW (Y 8)) (λy y y y y=>⟨(L3.zc 2 (WQ (WI 0 (jr ["node","row"])) (WQ (WI 1 (jr ["node","row"])) W2))),WZ,(Y 1)⟩))) M)))))))))))))))),?_⟩
 #aq λRk kR=>?_
 #⟨_,U,a,sc,0,U,hs,by left,λc=>?_⟩
 #ak (kR _ _ ?_)
 #aw [S (.ref a),S (.int c),Z,Z,Z,Z,Z,Z,Z,Z] U ?_
 #aq λRk kR=>?_
 #⟨_,U,_,U,c,420,U,by left,by left,λr r0 r1=>⟨_,_,U,U,(by change(0:Int)<5;decide),c,r%5,U,aP (by left),(by !:=aQ (k:=r) (n:=5) (by left);lia),λnl ns H1 s1 gn Qf n8 MR=>?_⟩⟩
 !r5:=aQ (k:=r) (n:=5) (by left)
 !Q9:=aP (k:=r) (n:=5) (by left)
 !D1:Nm H1 nl ns:=⟨gn,by lia⟩
 !n4:=D1.l4
 #ak (kR _ _ ?_)
 #aw [S (.ref a),S (.int c),S (.ref nl),Z,Z,Z,Z,Z,Z,Z] U ?_
 #aq λRk kR=>?_
 #⟨_,U,nl,U,⟨_,aH.of gn⟩,λB hB=>?_⟩
 #sY (xs:=ns.map V.str) (λi Hy=>ai H1 Hy/\∃us bs,Hy B=S (.lst us)/\us~=i/\Paired (fm Hy) us bs/\bs.map (·.1)=ns.take i/\∀b∈bs,df b.1/\1<=b.2/\b.2<=16) ⟨af hB _,[],[],ae,U,.nil,U,λb hb=>nomatch hb⟩ (λi Hy y z=>aH.of (z.1 _ _ gn)) (λi x0 pp Hy hx z md=>?_) (λHy z=>?_)
 . @⟨sy,us,bs,gB,ul,pu,en,wu⟩:=z
   !eE:=(cy hx)
   !CC:i<ns~:=by rw[Rn]at eE;#eE
   @⟨x,yy,rfl⟩:=cX hx
   !sp:=af md (.tup [.int (i:Nat),.str x])
   !gp:(upd Hy pp (.tup [.int (i:Nat),.str x])) pp=S (.tup [.int (i:Nat),.str x]):=ae
   generalize upd Hy pp (.tup [.int (i:Nat),.str x])=Hz at sp gp ⊢
   #yC gp ?_
   #de (A:=λH5=>dJ _ B _ H5 _) ?_
   #⟨_,U,_,U,_,U,_,_,U,U,c,421+(i:Int),U,by lia,by lia,λk k0 k1=>⟨_,_,U,U,(by change(0:Int)<16;decide),_,_,U,U,YK,λq2 Pj=>?_⟩⟩
   !z0:=aP (k:=k) (n:=16) (by left)
   !z1:=aQ (k:=k) (n:=16) (by left)
   !tq:=af Pj (.tup [.str x,.int (1+k%16)])
   !J9:=tq _ _ (sp _ _ gB)
   #⟨us,J9,aW (by lia),bq (Pv:=λi Hy=>ai H1 Hy/\∃us bs,Hy B=S (.lst us)/\us~=i/\Paired (fm Hy) us bs/\bs.map (·.1)=ns.take i/\∀b∈bs,df b.1/\1<=b.2/\b.2<=16) (by repeat' constructor) eE ⟨bo (aa (aa sy sp) tq) hB,us++[.ref q2],bs++[(x,1+k%16)],ae,by rw[Rx,ul];rfl,?_,?_,λb hb=>?_⟩⟩
   . #Paired.snoc (Paired.cZ pu λy y z=>Tp.keep ((ai.tk (aa sp tq)).trans (TW.TK.lst J9)) z) ⟨q2,U,TW.TK.lst J9 _ _ ae⟩
   . rw[RW,en,R9,yy]
     rfl
   . rcases ez hb with z|z
     . #wu b z
     . rw[di z]
       #⟨n8 x (RL yy),by change 1<=1+k%16;lia,by change 1+k%16<=16;lia⟩
 @⟨sy,us,bs,gB,ul,pu,en,wb⟩:=z
 rw[Rn]at ul
 rw[Rn,Sf]at en
 !bl:=Paired.length pu
 obtain⟨H2,vb,s2,gB,pb,vl⟩ : ∃H2 vb,ai H1 H2/\H2 B=S (.lst vb)/\Paired (fm H2) vb bs/\H2=Hy/\vb=us:=⟨Hy,us,sy,gB,pu,rfl,rfl⟩
 @⟨rfl,rfl⟩:=vl
 !D2:=D1.go s2
 #ak (kR _ _ ?_)
 #aw [S (.ref a),S (.int c),S (.ref nl),S (.ref B),Z,Z,Z,Z,Z,Z] U ?_
 #tu λRk kR=>?_
 #⟨_,U,nl,_,U,.inl (aH.of D2.hn),λlf MB=>?_⟩
 @⟨H3,sl,gl,zz⟩:=aZ MB (.lst (ns.map V.str))
 rw[zz];clear zz
 #ak ?_
 #⟨YI,λI hI=>?_⟩
 !MM:lf≠I:=ag gl hI
 @⟨H4,si,gi,zz⟩:=aZ hI (.lst [])
 rw[zz];clear zz
 !gl:=si _ _ gl
 !Rb:=aa s2 (aa sl si)
 #ak (kR _ _ ?_)
 #aw [S (.ref a),S (.int c),S (.ref nl),S (.ref B),S (.ref lf),S (.ref I),Z,Z,Z,Z] U ?_
 #aq λRk kR=>?_
 #⟨_,U,c,430,U,by left,by left,λu u0 u1=>⟨_,U,nl,_,U,.inl (aH.of (si _ _ (sl _ _ D2.hn))),_,_,U,U,_,_,U,U,(by change(0:Int)<((ns.map V.str)~:Int)+1;lia),u%(((ns.map V.str)~:Int)+1),U,?_⟩⟩
 !j0:=aP (k:=u) (n:=((ns.map V.str)~:Int)+1) (by lia)
 !j1:=aQ (k:=u) (n:=((ns.map V.str)~:Int)+1) (by lia)
 rw[Rn]at j0 j1 ⊢
 #⟨by lia,by lia,?_⟩
 !Er:=aa sl si
 #gf (lo:=0) (n:=(u%((ns~:Int)+1)).toNat) (λi σ Hx=>(∃o6,σ=[S (.ref a),S (.int c),S (.ref nl),S (.ref B),S (.ref lf),S (.ref I),o6,Z,Z,Z])/\ai H2 Hx/\∃ls is:O Str,Hx lf=S (.lst (ls.map V.str))/\Hx I=S (.lst (is.map V.str))/\ls~+i=ns~/\is~=i/\(is++ls).Perm ns) ⟨⟨_,U⟩,Er,ns,[],gl,gi,U,U,.refl _⟩ (λi σ Hx hi z=>?_) (λσ Hx z=>?_)
 . @⟨⟨o6,rfl⟩,sx,ls,is,hl,My,ll,il,pm⟩:=z
   #ak ?_
   #aw [S (.ref a),S (.int c),S (.ref nl),S (.ref B),S (.ref lf),S (.ref I),S (.int (0+(i:Int))),Z,Z,Z] U ?_
   #⟨_,U,.inl ⟨U,_,aH.of My⟩,_,U,.inl ⟨U,_,aH.of hl⟩,_,U,_,U,_,_,U,U,c,431+(0+(i:Int)),U,by lia,by lia,λk k0 k1=>⟨_,U,lf,_,U,.inl (aH.of hl),_,_,U,U,(by rw[Rn];lia),?_⟩⟩
   !m0:=aP (k:=k) (n:=((ls.map V.str)~:Int)) (by rw[Rn];lia)
   !m1:=aQ (k:=k) (n:=((ls.map V.str)~:Int)) (by rw[Rn];lia)
   !ml:(ls.map V.str)~=ls~:=Rn ..
   obtain⟨j,ej⟩ : ∃j,j=k%((ls.map V.str)~:Int):=⟨_,rfl⟩
   rw[← ej]at m0 m1
   @⟨x,gx,eF,_⟩:=bU V.str ls m0 (by lia)
   #⟨lf,_,_,j.toNat,.str x,U,U,hl,?_,?_,?_,?_,?_⟩
   . change -(2^63)<=k%((ls.map V.str)~:Int)
     rw[← ej];lia
   . change k%((ls.map V.str)~:Int)<2^63
     rw[← ej];lia
   . change Va (k%((ls.map V.str)~:Int)) _=_
     rw[← ej];#x5 m0 m1
   . rw[Sb,gx];rfl
   #⟨I,_,_,U,U,by rw[ah MM.symm];show My,aW (by rw[Rn];lia),⟨_,U⟩,bo (bo sx MB) (aS sl hI),ls.eraseIdx j.toNat,is++[x],?_,by rw[ae,RW];rfl,?_,by rw[Rx,il];rfl,?_⟩
   . rw[ah MM,ae,gk]
   . rw[List.length_eraseIdx,dI (by lia)]
     lia
   . rw[SK]
     #((kr gx).symm.append_left is).trans pm
 @⟨⟨o6,rfl⟩,sx,ls,ins,_,gI,ll,il,pm⟩:=z
 !i8:∀x∈ins,df x:=λx hx=>n8 x (pm.mem_iff.mp (S0 _ hx))
 !sB:=aa s1 (aa s2 sx)
 !gB:=sx _ _ gB
 !pb:Paired (fm Hx) vb bs:=Paired.cZ pb λy y z=>Tp.keep (ai.tk sx) z
 !DB:=D2.go sx
 !zm:ins~<=4:=by lia
 #kR _ _ (tu λRk kR=>?_)
 suffices oJ:∀(cl:J) (cs:O Int) (H5:Hp),ai Hx H5->H5 cl=S (.lst (cs.map V.int))->(1<=cs~/\cs~<=40)->Rk [S (.ref a),S (.int c),S (.ref nl),S (.ref B),S (.ref lf),S (.ref I),o6,S (.ref cl),Z,Z] H5 by
   @⟨cs,N3,I9⟩:=vj sc
   #⟨_,U,_,U,_,U,a,_,U,ai.seq sB hs,λcl ng=>?_⟩
   rw[N3]
   @⟨Hc,Nc,gc,zz⟩:=aZ ng (.lst (cs.map V.int))
   rw[zz];clear zz
   #ak ?_
   #⟨_,U,YI,λz hz=>?_⟩
   @⟨Hz,sz,gz,zz⟩:=aZ hz (.lst [])
   rw[zz];clear zz
   #⟨_,RB.nil (aH.of (sz _ _ gc)) (aH.of gz),_,U,?_⟩
   #aG (λy=>?_) (λcc=>?_)
   . #⟨YJ,λc2 zh=>?_⟩
     #ak ?_
     #oJ c2 [0] _ (az (aa Nc sz) zh) ae (by left)
   . #oJ cl cs Hz (aa Nc sz) (sz _ _ gc) ⟨by cases cs with|nil=>show au rfl cc|cons a l=>show S8 _,I9⟩
 intro cl cs H5 s5 ng ⟨c1,I9⟩
 #kR _ _ (aq λRk kR=>?_)
 !D5:=DB.go s5
 #⟨_,U,cl,U,⟨_,aH.of ng⟩,λN hN=>?_⟩
 #bD (xs:=cs.map V.int) (λi Hy=>ai H5 Hy/\∃us es,Hy N=S (.lst us)/\us~=i/\Paired (λv e=>dQ Hy v e/\v≠.ref N) us es/\∀e∈es,sM ns ((cs.map V.int)~:Int) e) ⟨af hN _,[],[],ae,U,.nil,λe he=>nomatch he⟩ (λi Hy y z=>aH.of (z.1 _ _ ng)) (λi x0 Hy hx z=>?_) (λHy z=>?_)
 . @⟨sy,us,es,gN,ul,pu,wu⟩:=z
   !eE:=(cy hx)
   !CC:i<cs~:=by rw[Rn]at eE;#eE
   @⟨cc,_,rfl⟩:=cX hx
   #ak ?_
   #de (A:=λH5=>dJ _ N _ H5 _) ?_
   #⟨_,U,_,U,_,U,cl,_,U,.inl (aH.of (sy _ _ ng)),cc,nl,_,ns,U,D5.go sy,n8,by rw[Rn];lia,by rw[Rn];lia,λL8 v e Hz hL sz gL nd wr=>?_⟩
   !Cy:=sz _ _ gN
   !LN:L8≠N:=(ag gN hL).symm
   #⟨us,Cy,aW (by lia),bq (Pv:=λi Hy=>ai H5 Hy/\∃us es,Hy N=S (.lst us)/\us~=i/\Paired (λv e=>dQ Hy v e/\v≠.ref N) us es/\∀e∈es,sM ns ((cs.map V.int)~:Int) e) (by repeat' constructor) eE ⟨bo (aa sy sz) hN,us++[.ref L8],es++[e],ae,by rw[Rx,ul];rfl,?_,λe' he=>?_⟩⟩
   . #Paired.snoc (Paired.cZ pu λy y z=>dQ.put Cy ⟨dQ.same sz z.1,z.2⟩) (dQ.put Cy ⟨⟨L8,v,U,gL,nd⟩,λz=>LN (by injection z)⟩)
   . rcases ez he with z|z
     . #wu e' z
     . rw[di z];#wr
 @⟨sy,us,es,gN,ul,pu,wu⟩:=z
 rw[Rn]at ul wu
 #ak (kR _ _ ?_)
 #aw [S (.ref a),S (.int c),S (.ref nl),S (.ref B),S (.ref lf),S (.ref I),o6,S (.ref cl),S (.ref N),Z] U ?_
 #aq λRk kR=>?_
 #⟨λ(d:Nat) (σ:L2.St) (Hy:Hp)=>∃(cl:J) (cs:O Int) (N:J) (us:O V) (es:O Np),σ=[S (.ref a),S (.int c),S (.ref nl),S (.ref B),S (.ref lf),S (.ref I),o6,S (.ref cl),S (.ref N),Z]/\d=cs~/\ai Hx Hy/\Hy cl=S (.lst (cs.map V.int))/\(1<=cs~/\cs~<=40)/\Hy N=S (.lst us)/\us~=cs~/\Paired (λv e=>dQ Hy v e/\v≠.ref N) us es/\∀e∈es,sM ns (cs~:Int) e,⟨cs~,cl,cs,N,us,es,U,U,aa s5 sy,sy _ _ ng,⟨c1,I9⟩,gN,ul,pu,wu⟩,λd σ Hz z=>?_⟩
 @⟨cl,cs,N,us,es,rfl,rfl,s5,ng,⟨c1,I9⟩,gN,ul,pu,wu⟩:=z
 !el:=Paired.length pu
 #⟨_,U,N,U,⟨_,aH.of gN⟩,λD hD=>?_⟩
 #bD (xs:=us) (λi Hy=>ai Hz Hy/\∃ks:O Int,Hy D=S (.lst (ks.map V.int))/\ks~=i/\∀k∈ks,k<=3601) ⟨af hD _,[],ae,U,λk hk=>nomatch hk⟩ (λi Hy y z=>aH.of (z.1 _ _ gN)) (λi x0 Hy hx z=>?_) (λHy z=>?_)
 . @⟨sy,ks,gD,kl,k3⟩:=z
   !eE:=(cy hx)
   @⟨e,Fe,⟨L8,nv,rfl,gL,nd⟩,_⟩:=Paired.get pu hx
   #⟨L8,_,U,aH.of (sy _ _ gL),U,_,_,U,_,_,U,U,?_⟩
   #de (A:=λH5=>dJ _ D _ H5 _) ?_
   #⟨_,U,_,U,xK nd (wu e (RL Fe)).w,_,_,U,U,_,gD,aW (by rw[Rn];lia),bq (Pv:=λi Hy=>ai Hz Hy/\∃ks:O Int,Hy D=S (.lst (ks.map V.int))/\ks~=i/\∀k∈ks,k<=3601) (by repeat' constructor) eE ⟨bo sy hD,ks++[((RM bG e.ws)~:Int)+1],by rw[ae,RW];rfl,by rw[Rx,kl];rfl,λk hk=>?_⟩⟩
   rcases ez hk with z|z
   . #k3 k z
   . rw[di z]
     !:=(wu e (RL Fe)).row
     lia
 @⟨sy,ks,gD,kl,k3⟩:=z
 #⟨D,ks,U,aH.of gD,_,_,U,U,_,U,?_⟩
 !s5:=aa s5 sy
 !ng:=sy _ _ ng
 !gN:=sy _ _ gN
 !pu:Paired (λv e=>dQ Hy v e/\v≠.ref N) us es:=Paired.cZ pu λy y z=>⟨dQ.same sy z.1,z.2⟩
 #aG (λcc=>?_) (λy=>?_)
 . !cpos:2<=cs~:=by
     #Nat.lt_of_le_of_ne c1 λz=>?_
     !kn:ks~=1:=by lia
     !cc:=jg cc
     match ks,kn,k3,cc with
     | [k],_,k3,cc=>
       have:=k3 k Ru
       have cc:(3700:Int)<[k].sum:=cc
       simp only[S2,UQ]at cc
       lia
   #⟨λσ' H'=>∃d',d'<cs~/\(λ(d:Nat) (σ:L2.St) (Hy:Hp)=>∃(cl:J) (cs:O Int) (N:J) (us:O V) (es:O Np),σ=[S (.ref a),S (.int c),S (.ref nl),S (.ref B),S (.ref lf),S (.ref I),o6,S (.ref cl),S (.ref N),Z]/\d=cs~/\ai Hx Hy/\Hy cl=S (.lst (cs.map V.int))/\(1<=cs~/\cs~<=40)/\Hy N=S (.lst us)/\us~=cs~/\Paired (λv e=>dQ Hy v e/\v≠.ref N) us es/\∀e∈es,sM ns (cs~:Int) e) d' σ' H',λσ' H' z=>z,?_⟩
   #aq λuU kR2=>?_
   #⟨_,U,_,U,cl,_,U,.inl (aH.of ng),_,_,U,U,⟨by left,by right⟩,_,U,cl,_,U,aH.of ng,λc2 zh=>?_⟩
   @⟨ds,N4,dl⟩:=zf cs
   #qj (λH'=>cI 7 (.ref c2) [S (.ref a),S (.int c),S (.ref nl),S (.ref B),S (.ref lf),S (.ref I),o6,S (.ref cl),S (.ref N),Z] H' _) (upd Hy c2 (.lst (ds.map V.int))) (by rw[Rn];change upd Hy c2 (.lst (er (cs.map V.int) Z (S ((cs~:Int)/2))))=_;rw[N4]) ?_
   @⟨LM,Nd,Jb,zz⟩:=aZ zh (.lst (ds.map V.int))
   rw[zz];clear zz
   #ak ?_
   #kR2 _ _ ?_
   #aw [S (.ref a),S (.int c),S (.ref nl),S (.ref B),S (.ref lf),S (.ref I),o6,S (.ref c2),S (.ref N),Z] U ?_
   !D5:=DB.go (aa s5 Nd)
   #⟨_,U,c2,U,⟨_,aH.of Jb⟩,λN hN=>?_⟩
   #bD (xs:=ds.map V.int) (λi Hw=>ai LM Hw/\∃us es,Hw N=S (.lst us)/\us~=i/\Paired (λv e=>dQ Hw v e/\v≠.ref N) us es/\∀e∈es,sM ns ((ds.map V.int)~:Int) e) ⟨af hN _,[],[],ae,U,.nil,λe he=>nomatch he⟩ (λi Hw y z=>aH.of (z.1 _ _ Jb)) (λi x0 Hw hx z=>?_) (λHw z=>?_)
   . @⟨sy,us,es,gN,ul,pu,wu⟩:=z
     !eE:=(cy hx)
     !CC:i<ds~:=by rw[Rn]at eE;#eE
     @⟨cc,_,rfl⟩:=cX hx
     #ak ?_
     #de (A:=λH5=>dJ _ N _ H5 _) ?_
     #⟨_,U,_,U,_,U,c2,_,U,.inl (aH.of (sy _ _ Jb)),cc,nl,_,ns,U,D5.go sy,n8,by rw[Rn];lia,by rw[Rn];lia,λL8 v e Hr hL sz gL nd wr=>?_⟩
     !Cy:=sz _ _ gN
     !LN:L8≠N:=(ag gN hL).symm
     #⟨us,Cy,aW (by lia),bq (Pv:=λi Hw=>ai LM Hw/\∃us es,Hw N=S (.lst us)/\us~=i/\Paired (λv e=>dQ Hw v e/\v≠.ref N) us es/\∀e∈es,sM ns ((ds.map V.int)~:Int) e) (by repeat' constructor) eE ⟨bo (aa sy sz) hN,us++[.ref L8],es++[e],ae,by rw[Rx,ul];rfl,?_,λe' he=>?_⟩⟩
     . #Paired.snoc (Paired.cZ pu λy y z=>dQ.put Cy ⟨dQ.same sz z.1,z.2⟩) (dQ.put Cy ⟨⟨L8,v,U,gL,nd⟩,λz=>LN (by injection z)⟩)
     . rcases ez he with z|z
       . #wu e' z
       . rw[di z];#wr
   @⟨sy,us,es,gN,ul,pu,wu⟩:=z
   rw[Rn]at ul wu
   #ak ?_
   #⟨ds~,by lia,c2,ds,N,us,es,U,U,aa (aa s5 Nd) sy,sy _ _ Jb,⟨by lia,by lia⟩,gN,ul,pu,wu⟩
 !gB:=s5 _ _ gB
 !gI:=s5 _ _ gI
 !pb:Paired (fm Hy) vb bs:=Paired.cZ pb λy y z=>Tp.keep (ai.tk s5) z
 !sB:=aa sB s5
 !L0:bs~<=4:=by lia
 #kR _ _ (aq λRk kR=>?_)
 #⟨_,U,B,U,⟨_,aH.of gB⟩,λE1 Mn=>?_⟩
 #bD (xs:=vb) (λi Hv=>ai Hy Hv/\Hv E1=S (.lst ((bs.take i).map λb=>V.str (RM bG (jh b))))) ⟨af Mn _,ae⟩ (λi Hv y z=>aH.of (z.1 _ _ gB)) (λi x0 Hv hx z=>?_) (λHv z=>?_)
 . @⟨sv,gE⟩:=z
   !eE:=(cy hx)
   @⟨b,lK,pp,rfl,md⟩:=Paired.get pb hx
   !w9:=wb b (RL lK)
   !w8:=w9.1.l8
   !n1:=zF (LX w9.2)
   !e1:(("box ":Str))~=4:=rfl
   !e2:((" ":Str))~=1:=rfl
   #yC (sv _ _ md) ?_
   #de (A:=λH5=>dJ _ E1 _ H5 _) ?_
   #⟨_,U,"box ",_,U,U,fit (by lia),_," ",U,U,fit (by rw[SU];lia),_,U,.inl ⟨_,U,TC (eY (LX w9.2)) (by left),_,_,U,U,fit (by rw[SU,SU];lia),?_⟩⟩
   #⟨_,gE,aW (by rw[Rn,R8];lia),bq (Pv:=λi Hv=>ai Hy Hv/\Hv E1=S (.lst ((bs.take i).map λb=>V.str (RM bG (jh b))))) (by repeat' constructor) eE ⟨bo sv Mn,?_⟩⟩
   rw[ae,mK,R9,lK,RW]
   rfl
 @⟨sv,gE⟩:=z
 rw[show vb~=bs~ from bl,Sf]at gE
 !Md:=sv _ _ gI
 #⟨_,U,I,U,⟨_,aH.of Md⟩,λE2 Mo=>?_⟩
 #bD (xs:=ins.map V.str) (λi Hu=>ai Hv Hu/\Hu E2=S (.lst ((ins.take i).map λx=>V.str (RM bG (vW x))))) ⟨af Mo _,ae⟩ (λi Hu y z=>aH.of (z.1 _ _ Md)) (λi x0 Hu hx z=>?_) (λHu z=>?_)
 . @⟨su,gE⟩:=z
   !eE:=(cy hx)
   !CC:i<ins~:=by rw[Rn]at eE;#eE
   @⟨x,yy,rfl⟩:=cX hx
   !w8:=(i8 x (RL yy)).l8
   !e1:(("input ":Str))~=6:=rfl
   #ak ?_
   #de (A:=λH5=>dJ _ E2 _ H5 _) ?_
   #⟨_,U,"input ",_,U,U,fit (by lia),?_⟩
   #⟨_,gE,aW (by rw[Rn,R8];lia),bq (Pv:=λi Hu=>ai Hv Hu/\Hu E2=S (.lst ((ins.take i).map λx=>V.str (RM bG (vW x))))) (by repeat' constructor) eE ⟨bo su Mo,?_⟩⟩
   rw[ae,p8,R9,yy,RW]
   rfl
 @⟨su,Ma⟩:=z
 rw[Rn,Sf]at Ma
 #⟨E1,E2,_,_,U,U,su _ _ gE,Ma,small (by rw[Rn,Rn];lia),λR0 OJ=>?_⟩
 !sR:=af OJ (.lst (bs.map (λb=>V.str (RM bG (jh b)))++ins.map (λx=>V.str (RM bG (vW x)))))
 !gR:(upd Hu R0 (.lst (bs.map (λb=>V.str (RM bG (jh b)))++ins.map (λx=>V.str (RM bG (vW x)))))) R0=S (.lst (bs.map (λb=>V.str (RM bG (jh b)))++ins.map (λx=>V.str (RM bG (vW x))))):=ae
 generalize upd Hu R0 (.lst (bs.map (λb=>V.str (RM bG (jh b)))++ins.map (λx=>V.str (RM bG (vW x)))))=H7 at sR gR ⊢
 !s7:=aa (aa sv su) sR
 !gB:=s7 _ _ gB
 !gI:=s7 _ _ gI
 !gN:=s7 _ _ gN
 !pb:Paired (fm H7) vb bs:=Paired.cZ pb λy y z=>Tp.keep (ai.tk s7) z
 !pu:Paired (λv e=>dQ H7 v e/\v≠.ref N) us es:=Paired.cZ pu λy y z=>⟨dQ.same s7 z.1,z.2⟩
 !sB:=aa sB s7
 #ak (kR _ _ ?_)
 #aw [S (.ref a),S (.int c),S (.ref nl),S (.ref B),S (.ref lf),S (.ref I),o6,S (.ref cl),S (.ref N),S (.ref R0)] U ?_
 #⟨_,U,_,U,_,U,N,U,⟨_,aH.of gN⟩,λE3 Mp=>?_⟩
 #bD (xs:=us) (λi Hv=>ai H7 Hv/\∃vn,Hv E3=S (.lst vn)/\vn~=i/\Paired (b8 Hv) vn (es.take i)) ⟨af Mp _,[],ae,U,.nil⟩ (λi Hv y z=>aH.of (z.1 _ _ gN)) (λi x0 Hv hx z=>?_) (λHv z=>?_)
 . @⟨sv,vn,gE,vl,pn⟩:=z
   !eE:=(cy hx)
   @⟨e,Fe,⟨L8,nv,rfl,gL,nd⟩,_⟩:=Paired.get pu hx
   #⟨L8,_,U,aH.of (sv _ _ gL),U,_,_,U,_,_,U,U,?_⟩
   #de (A:=λH5=>dJ _ E3 _ H5 _) ?_
   #⟨_,U,_,gE,aW (by lia),bq (Pv:=λi Hv=>ai H7 Hv/\∃vn,Hv E3=S (.lst vn)/\vn~=i/\Paired (b8 Hv) vn (es.take i)) (by repeat' constructor) eE ⟨bo sv Mp,vn++[nv],ae,by rw[Rx,vl];rfl,?_⟩⟩
   rw[R9,Fe]
   #Paired.snoc (Paired.cZ pn λy y z=>b8.keep (TW.TK.lst gE) z) ((nd.keep (ai.tk sv)).keep (TW.TK.lst gE))
 @⟨sv,vn,Oi,vl,pn⟩:=z
 rw[el,Sf]at pn
 #⟨YL,λp hp=>?_⟩
 @⟨H8,sp,gp,zz⟩:=aZ hp (.tup [.ref B,.ref I,.ref E3])
 rw[zz];clear zz
 #⟨_,U,_,U,N,U,⟨_,aH.of (sp _ _ (sv _ _ gN))⟩,λE4 Mq=>?_⟩
 #bD (xs:=us) (λi Hu=>ai H8 Hu/\Hu E4=S (.lst ((es.take i).map λe=>V.str (RM bG e.ws)))) ⟨af Mq _,ae⟩ (λi Hu y z=>aH.of (z.1 _ _ (sp _ _ (sv _ _ gN)))) (λi x0 Hu hx z=>?_) (λHu z=>?_)
 . @⟨su,gE⟩:=z
   !eE:=(cy hx)
   @⟨e,Fe,⟨L8,nv,rfl,gL,nd⟩,_⟩:=Paired.get pu hx
   #⟨L8,_,U,aH.of (su _ _ (sp _ _ (sv _ _ gL))),U,_,_,U,_,_,U,U,?_⟩
   #de (A:=λH5=>dJ _ E4 _ H5 _) ?_
   #⟨_,U,_,gE,aW (by rw[Rn,R8];lia),bq (Pv:=λi Hu=>ai H8 Hu/\Hu E4=S (.lst ((es.take i).map λe=>V.str (RM bG e.ws)))) (by repeat' constructor) eE ⟨bo su Mq,?_⟩⟩
   rw[ae,R9,Fe,RW]
   rfl
 @⟨su,Mb⟩:=z
 rw[el,Sf]at Mb
 #⟨R0,E4,_,_,U,U,su _ _ (sp _ _ (sv _ _ gR)),Mb,small (by rw[Rx,Rn,Rn,Rn];lia),λR hR=>⟨YK,λL8 hL=>?_⟩⟩
 !tR:=af hR (.lst (bs.map (λb=>V.str (RM bG (jh b)))++ins.map (λx=>V.str (RM bG (vW x)))++es.map (λe=>V.str (RM bG e.ws))))
 !tL:=af hL (.lst [.ref p,.ref R])
 !t9:=aa tR tL
 !t8:=aa (aa sp su) t9
 !t7:=aa sv t8
 #q L8 p R B I E3 vb vn bs ins es _ (aa sB t7) ae (t9 _ _ (su _ _ gp)) ⟨t7 _ _ gB,t7 _ _ gI,t8 _ _ Oi,Paired.cZ pb λy y z=>Tp.keep (ai.tk t7) z,Paired.cZ pn λy y z=>b8.keep (ai.tk t8) z⟩ ⟨⟨λb hb=>⟨(wb b hb).1,by !:=(wb b hb).2.1;lia,ub (by !:=(wb b hb).2.2;lia)⟩,i8,λe he=>(wu e he).w,L0,zm,by lia⟩,⟨by rw[en];#MR,λb hb=>(wb b hb).2,L0⟩,(List.nodup_append.mp (pm.nodup_iff.mpr MR)).1,λx hx=>by rw[en];show pm.mem_iff.mp (S0 _ hx),by lia,λe he=>⟨λn hn=>by !:=(wu e he).ld n hn;lia,λt ht=>⟨TW.E.okN.ij en ((wu e he).kn t ht).1,((wu e he).kn t ht).2⟩⟩⟩ (by lia) ?_
 !Om:=tL _ _ (ae (H:=Hu) (a:=R) (o:=.lst (bs.map (λb=>V.str (RM bG (jh b)))++ins.map (λx=>V.str (RM bG (vW x)))++es.map (λe=>V.str (RM bG e.ws)))))
 #Om.trans ?_
 unfold textOf
 rw[RW,RW,Te,Te,Te]
 rfl
abbrev BE:Stmt:=top 58
def iu:aC ["text","found","e"] ["text"] (ao BE):=eU
abbrev flags (k:Nat):O Bool:=(TH 12).map (·==k)
def yf:Sp:=λvs H Q z=>∃(tx:Str) (pre:O Rw) (tl:O Str) (k:Nat),vs=[.str tx]/\S7 tx "\n"=pre.map (λr=>du r.hd r.jC)++tl/\tx~+2<=sizeLine/\pre~<=408/\tl~<=500/\(∀r∈pre,iC r.hd r.jC)/\(pre.Pairwise λa b=>a.rank<=b.rank) /\
 ((k=4/\tl=[]/\yD (lI pre) (inR pre) (lP pre)/\¬ dX (lI pre) (inR pre) (lP pre))\/(k=3/\∃x post,tl=x::post/\x∈dY))/\∀(l:J) (H':Hp),ai H H'->H' l=S (.lst ((flags k).map V.bl))->Q (.ref l) H'
def zR {T aV aI aL aM aj aE aU aD aT aK aJ:J}{f:J}{fd:RZ}(F:cD K "_law_refused" "_law_refused" BE f fd)(R:LU K mg T aV aI aL aM aj aE aU aD aT aK aJ)(m_isinstance:mg "isinstance"=Z)(m_ValueError:mg "ValueError"=Z)(RP:bQ P w K mg base "read_program" ["text"] 26 (lj aM aj)):aY P w K mg base dq 27 f fd ["text"] yf:=by
 #F.iU iu λcdv A outer s H vs Q E hr h=>?_
 @⟨tx,pre,tl,k,rfl,hsp,Ji,rl,Ls,rg,rm,cs,q⟩:=h
 #ig ⟨_,(Wv (Wy 1 iu.nd (WD M))
   (Wv (L3.Lv 2 iu.nd R.t U (λW pn Ex hp=>(Ww (W0 (Xd hp RP hr U (L (Y 0) M))))) (λea=>(Wv (Wy 1 iu.nd (WD (L (WJ W9 U m_isinstance (by right) (L (Y 2) (L (WU (w:=.ref aV) U R.x_NoPair.m rfl) M))) (L (WJ W9 U m_isinstance (by right) (L (Y 2) (L (WU (w:=.ref aI) U R.x_NoPaper.m rfl) M))) (L (WJ W9 U m_isinstance (by right) (L (Y 2) (L (WU (w:=.ref aL) U R.x_TooMany.m rfl) M))) (L (WJ W9 U m_isinstance (by right) (L (Y 2) (L (WU (w:=.ref aM) U R.x_NoRow.m rfl) M))) M))))))
   (Wv (Wy 1 iu.nd (Wt W7 (Y 1) (WD (L (WJ W9 U m_isinstance (by right) (L (Y 2) (L (WU (w:=.ref aj) U R.x_NoProgram.m rfl) M))) (L (WJ W9 U m_isinstance (by right) (L (Y 2) (L (WU (w:=.ref aE) U R.x_NoWorths.m rfl) M))) (L (WJ W9 U m_isinstance (by right) (L (Y 2) (L (WU (w:=.ref aU) U R.x_NoNode.m rfl) M))) M))))))
   (Wv (Wy 1 iu.nd (Wt W7 (Y 1) (WD (L (WJ W9 U m_isinstance (by right) (L (Y 2) (L (WU (w:=.ref aD) U R.x_NoChange.m rfl) M))) (L (WJ W9 U m_isinstance (by right) (L (Y 2) (L (WU (w:=.ref aT) U R.x_NoForm.m rfl) M))) (L (WJ W9 U m_isinstance (by right) (L (Y 2) (L (WU (w:=.ref aK) U R.x_NoneYet.m rfl) M))) M))))))
   (Ww (Wy 1 iu.nd (Wt W7 (Y 1) (WD (L (WJ W9 U m_isinstance (by right) (L (Y 2) (L (WU (w:=.ref aJ) U R.x_NoPicks.m rfl) M))) (L (L3.Qh (WJ W9 U m_isinstance (by right) (L (Y 2) (L (L3.JI (w:=.ty "ValueError") U m_ValueError (by right) rfl) M)))) M)))))))))))
   (Ww (WC (Y 1))))),?_⟩
 #aq λNJ Jl=>?_
 #⟨YI,λQ7 KC=>?_⟩
 @⟨H1,s1,g1,zz⟩:=aZ KC (.lst [])
 rw[zz];clear zz
 #ak ?_
 #Jl _ _ ?_
 #aq λNJ Jl=>?_
 #⟨_,U,?_⟩
 rcases cs with⟨rfl,e1,an,nG⟩|⟨rfl,x,post,e1,Jk⟩
 . #⟨tx,pre,tl,U,hsp,Ji,rl,Ls,rg,rm,.inl ⟨e1,an,nG,λH3 s3=>?_⟩⟩
   #⟨_,_,_,U,R.x_NoProgram,(by simp),λea Gh=>?_⟩
   obtain⟨h0,Co⟩ : ∃h0,h0=upd H3 ea (yw ea aj):=⟨_,rfl⟩
   !H0:h0 ea=S (yw ea aj):=by rw[Co];#ae
   !Li:ai H3 h0:=by rw[Co];#af Gh _
   rw[← Co]
   #aw [Z,Z,S (.ref ea)] U ?_
   #aq λRk kR=>?_
   #⟨_,U,ea,aj,false,H0,R.k_NoProgram,.inl ⟨_,U,R.i_NoProgram_NoPair⟩,_,U,ea,aj,false,H0,R.k_NoProgram,.inl ⟨_,U,R.i_NoProgram_NoPaper⟩,_,U,ea,aj,false,H0,R.k_NoProgram,.inl ⟨_,U,R.i_NoProgram_TooMany⟩,_,U,ea,aj,false,H0,R.k_NoProgram,.inl ⟨_,U,R.i_NoProgram_NoRow⟩,YM,λl0 CF=>?_⟩
   @⟨Ou,sA0,J2,zz⟩:=aZ CF (.lst [.bl false,.bl false,.bl false,.bl false])
   rw[zz];clear zz
   !yG:=sA0 _ _ H0
   #ak (kR _ _ ?_)
   #aw [Z,S (.ref l0),S (.ref ea)] U ?_
   #aq λRk kR=>?_
   #⟨_,U,_,U,ea,aj,true,yG,R.k_NoProgram,.inl ⟨_,U,R.i_NoProgram_NoProgram⟩,_,U,ea,aj,false,yG,R.k_NoProgram,.inl ⟨_,U,R.i_NoProgram_NoWorths⟩,_,U,ea,aj,false,yG,R.k_NoProgram,.inl ⟨_,U,R.i_NoProgram_NoNode⟩,YL,λm1 hm1=>?_⟩
   @⟨Oy,sB1,J6,zz⟩:=aZ hm1 (.lst [.bl true,.bl false,.bl false])
   rw[zz];clear zz
   #⟨l0,m1,_,_,U,U,sB1 _ _ J2,J6,YQ,λl1 iK=>?_⟩
   @⟨Ov,Ic,J3,zz⟩:=aZ iK (.lst ([.bl false,.bl false,.bl false,.bl false]++[.bl true,.bl false,.bl false]))
   rw[zz];clear zz
   !yH:=Ic _ _ (sB1 _ _ yG)
   #ak (kR _ _ ?_)
   #aw [Z,S (.ref l1),S (.ref ea)] U ?_
   #aq λRk kR=>?_
   #⟨_,U,_,U,ea,aj,false,yH,R.k_NoProgram,.inl ⟨_,U,R.i_NoProgram_NoChange⟩,_,U,ea,aj,false,yH,R.k_NoProgram,.inl ⟨_,U,R.i_NoProgram_NoForm⟩,_,U,ea,aj,false,yH,R.k_NoProgram,.inl ⟨_,U,R.i_NoProgram_NoneYet⟩,YL,λm2 hm2=>?_⟩
   @⟨Oz,sB2,J7,zz⟩:=aZ hm2 (.lst [.bl false,.bl false,.bl false])
   rw[zz];clear zz
   #⟨l1,m2,_,_,U,U,sB2 _ _ J3,J7,YS,λl2 pX=>?_⟩
   @⟨Ow,Ie,J4,zz⟩:=aZ pX (.lst (([.bl false,.bl false,.bl false,.bl false]++[.bl true,.bl false,.bl false])++[.bl false,.bl false,.bl false]))
   rw[zz];clear zz
   !B5:=Ie _ _ (sB2 _ _ yH)
   #ak (kR _ _ ?_)
   #aw [Z,S (.ref l2),S (.ref ea)] U ?_
   #⟨_,U,_,U,ea,aj,false,B5,R.k_NoProgram,.inl ⟨_,U,R.i_NoProgram_NoPicks⟩,_,U,ea,aj,true,B5,R.k_NoProgram,.inr (.inl ⟨_,U,R.v_NoProgram⟩),true,U,YK,λm3 KH=>?_⟩
   @⟨OA,sB3,J8,zz⟩:=aZ KH (.lst [.bl false,.bl (!true)])
   rw[zz];clear zz
   #⟨l2,m3,_,_,U,U,sB3 _ _ J4,J8,YT,λl3 zi=>?_⟩
   @⟨Ox,Ig,J5,zz⟩:=aZ zi (.lst ((([.bl false,.bl false,.bl false,.bl false]++[.bl true,.bl false,.bl false])++[.bl false,.bl false,.bl false])++[.bl false,.bl (!true)]))
   rw[zz];clear zz
   !NB:=Ig _ _ (sB3 _ _ B5)
   #ak ?_
   #Jl _ _ ?_
   #⟨_,U,q l3 _ (aa s1 (aa s3 (aa Li (aa (aa (aa (sA0) (aa sB1 Ic)) (aa sB2 Ie)) (aa sB3 Ig))))) J5⟩
 . #⟨tx,pre,tl,U,hsp,Ji,rl,Ls,rg,rm,.inr ⟨x,post,e1,Jk,λH3 s3=>?_⟩⟩
   #⟨_,_,_,U,R.x_NoRow,(by simp),λea Gh=>?_⟩
   obtain⟨h0,Co⟩ : ∃h0,h0=upd H3 ea (yw ea aM):=⟨_,rfl⟩
   !H0:h0 ea=S (yw ea aM):=by rw[Co];#ae
   !Li:ai H3 h0:=by rw[Co];#af Gh _
   rw[← Co]
   #aw [Z,Z,S (.ref ea)] U ?_
   #aq λRk kR=>?_
   #⟨_,U,ea,aM,false,H0,R.k_NoRow,.inl ⟨_,U,R.i_NoRow_NoPair⟩,_,U,ea,aM,false,H0,R.k_NoRow,.inl ⟨_,U,R.i_NoRow_NoPaper⟩,_,U,ea,aM,false,H0,R.k_NoRow,.inl ⟨_,U,R.i_NoRow_TooMany⟩,_,U,ea,aM,true,H0,R.k_NoRow,.inl ⟨_,U,R.i_NoRow_NoRow⟩,YM,λl0 CF=>?_⟩
   @⟨Ou,sA0,J2,zz⟩:=aZ CF (.lst [.bl false,.bl false,.bl false,.bl true])
   rw[zz];clear zz
   !yG:=sA0 _ _ H0
   #ak (kR _ _ ?_)
   #aw [Z,S (.ref l0),S (.ref ea)] U ?_
   #aq λRk kR=>?_
   #⟨_,U,_,U,ea,aM,false,yG,R.k_NoRow,.inl ⟨_,U,R.i_NoRow_NoProgram⟩,_,U,ea,aM,false,yG,R.k_NoRow,.inl ⟨_,U,R.i_NoRow_NoWorths⟩,_,U,ea,aM,false,yG,R.k_NoRow,.inl ⟨_,U,R.i_NoRow_NoNode⟩,YL,λm1 hm1=>?_⟩
   @⟨Oy,sB1,J6,zz⟩:=aZ hm1 (.lst [.bl false,.bl false,.bl false])
   rw[zz];clear zz
   #⟨l0,m1,_,_,U,U,sB1 _ _ J2,J6,YQ,λl1 iK=>?_⟩
   @⟨Ov,Ic,J3,zz⟩:=aZ iK (.lst ([.bl false,.bl false,.bl false,.bl true]++[.bl false,.bl false,.bl false]))
   rw[zz];clear zz
   !yH:=Ic _ _ (sB1 _ _ yG)
   #ak (kR _ _ ?_)
   #aw [Z,S (.ref l1),S (.ref ea)] U ?_
   #aq λRk kR=>?_
   #⟨_,U,_,U,ea,aM,false,yH,R.k_NoRow,.inl ⟨_,U,R.i_NoRow_NoChange⟩,_,U,ea,aM,false,yH,R.k_NoRow,.inl ⟨_,U,R.i_NoRow_NoForm⟩,_,U,ea,aM,false,yH,R.k_NoRow,.inl ⟨_,U,R.i_NoRow_NoneYet⟩,YL,λm2 hm2=>?_⟩
   @⟨Oz,sB2,J7,zz⟩:=aZ hm2 (.lst [.bl false,.bl false,.bl false])
   rw[zz];clear zz
   #⟨l1,m2,_,_,U,U,sB2 _ _ J3,J7,YS,λl2 pX=>?_⟩
   @⟨Ow,Ie,J4,zz⟩:=aZ pX (.lst (([.bl false,.bl false,.bl false,.bl true]++[.bl false,.bl false,.bl false])++[.bl false,.bl false,.bl false]))
   rw[zz];clear zz
   !B5:=Ie _ _ (sB2 _ _ yH)
   #ak (kR _ _ ?_)
   #aw [Z,S (.ref l2),S (.ref ea)] U ?_
   #⟨_,U,_,U,ea,aM,false,B5,R.k_NoRow,.inl ⟨_,U,R.i_NoRow_NoPicks⟩,_,U,ea,aM,true,B5,R.k_NoRow,.inr (.inl ⟨_,U,R.v_NoRow⟩),true,U,YK,λm3 KH=>?_⟩
   @⟨OA,sB3,J8,zz⟩:=aZ KH (.lst [.bl false,.bl (!true)])
   rw[zz];clear zz
   #⟨l2,m3,_,_,U,U,sB3 _ _ J4,J8,YT,λl3 zi=>?_⟩
   @⟨Ox,Ig,J5,zz⟩:=aZ zi (.lst ((([.bl false,.bl false,.bl false,.bl true]++[.bl false,.bl false,.bl false])++[.bl false,.bl false,.bl false])++[.bl false,.bl (!true)]))
   rw[zz];clear zz
   !NB:=Ig _ _ (sB3 _ _ B5)
   #ak ?_
   #Jl _ _ ?_
   #⟨_,U,q l3 _ (aa s1 (aa s3 (aa Li (aa (aa (aa (sA0) (aa sB1 Ic)) (aa sB2 Ie)) (aa sB3 Ig))))) J5⟩
structure cE (bs:aB)(ins:O Str)(nds:O Np):Prop where
 b:∀x∈bs,df x.1/\0<=x.2/\x.2<10^30
 i:∀x∈ins,df x
 n:∀x∈nds,x.wr
 td:∀nd∈nds,∀e∈nd.fw,e.okIn fe/\e.dep<20
 lb:bs~<=6
 li:ins~<=6
 ln:nds~<=42
inductive fA (bs:aB) (ins:O Str) (nds:O Np):Int->Str->Prop
 | box (b:Str×Int):(df b.1/\0<=b.2/\b.2<10^30)->(b.2<1\/b.1∈bs.map (·.1))->fA bs ins nds 0 (RM bG (jh b))
 | inp (x:Str):df x->(x∉bs.map (·.1)\/x∈ins)->fA bs ins nds 1 (RM bG (vW x))
 | nd (e:Np):e.wr->(∀t∈e.fw,t.okIn fe/\t.dep<20)->(∀m:Nat,m<=nds~+1->¬ lV bs m e)->fA bs ins nds 2 (RM bG e.ws)
def mid {α:Type}(l:O α)(k:Nat)(x:α):O α:=l.take k++[x]++l.drop k
def jN {α:Type}{l:O α}{k:Nat}{x y:α}(h:y∈mid l k x):y=x\/y∈l:=by
 rcases ez h with z|z
 . rcases ez z with z|z
   . #.inr (List.mem_of_mem_take z)
   . #.inl (di z)
 . #.inr (List.mem_of_mem_drop z)
def kL {α:Type}(l:O α)(k:Nat)(x:α):x∈mid l k x:=S0 _ (Si _ Ru)
def jL {α:Type}(l:O α)(k:Nat)(x:α):(mid l k x)~=l~+1:=by
 unfold mid
 rw[Rx,Rx,R8,Tn]
 change _+1+_=_
 lia
def jM {α β:Type}(f:α->β)(l:O α)(k:Nat)(x:α):(mid l k x).map f=mid (l.map f) k (f x):=by
 unfold mid
 rw[RW,RW,Vi,V6]
 rfl
def mq {α:Type}{l:O α}{k:Nat}{x:α}(h:(mid l k x).Nodup):x∉l:=λhx=>by
 unfold mid at h
 @⟨h1,_,h3⟩:=List.nodup_append.mp h
 @⟨_,_,h4⟩:=List.nodup_append.mp h1
 rw[← List.take_append_drop k l]at hx
 rcases ez hx with z|z
 . #h4 x z x (List.mem_singleton.mpr rfl) rfl
 . #h3 x (Si _ (List.mem_singleton.mpr rfl)) x z rfl
section
variable{bs:aB}{ins:O Str}{nds:O Np}
def AW.yY (h:AW bs ins nds)(n40:nds~<=40):cE bs ins nds:=⟨h.wr.b,h.wr.i,h.wr.n,λnd hn e he=>⟨wR ((h.good nd hn).kn e he).1,by !:=((h.good nd hn).kn e he).2;lia⟩,by !:=h.wr.lb;lia,by !:=h.wr.li;lia,by lia⟩
def cE.row (h:cE bs ins nds):∀r∈rowsOf bs ins nds,iC r.hd r.jC:=λr hr=>by
 rcases ez hr with hr|hr
 . rcases ez hr with hr|hr
   . @⟨b,hb,rfl⟩:=fc hr
     #E7.row (bs:=[b]) (ins:=[]) (nds:=[]) ⟨all1 (h.b b hb),(λy z=>nomatch z),(λy z=>nomatch z),(show 1<=4 by left),(by left),(by left)⟩ _ Ru
   . @⟨b,hb,rfl⟩:=fc hr
     #E7.row (bs:=[]) (ins:=[b]) (nds:=[]) ⟨(λy z=>nomatch z),all1 (h.i b hb),(λy z=>nomatch z),(by left),(show 1<=4 by left),(by left)⟩ _ Ru
 . @⟨b,hb,rfl⟩:=fc hr
   #E7.row (bs:=[]) (ins:=[]) (nds:=[b]) ⟨(λy z=>nomatch z),(λy z=>nomatch z),all1 (h.n b hb),(by left),(by left),(show 1<=400 by left)⟩ _ Ru
def Np.wr.ld:∀{e:Np},e.wr->∀l∈e.gJ,0<=l/\l<10^30
 | .put _ _ _,h,l,hl=>by rw[di hl];#h.2.2
 | .say _ _,h,l,hl=>by rw[di hl];#h.2
 | .test _ _ _,h,l,hl=>by
   rcases cv hl with e|hl
   . rw[e];#h.2.1
   . rw[di hl];#h.2.2
 | .pick _ _,h,l,hl=>by rw[di hl];#h.2
 | .fin,_,_,hl=>nomatch hl
def cE.ask (h:cE bs ins nds):yD bs ins nds:=⟨λb hb=>Ry (h.b b hb).1.l8 (by left),λx hx=>Ry (h.i x hx).l8 (by left),λnd hn l hl=>RJ (kM ((h.n nd hn).ld l hl)) (U6 (by left) (by left)),h.td⟩
def cE.len (h:cE bs ins nds):(rowsOf bs ins nds)~<=54:=by
 !:=h.lb
 !:=h.li
 !:=h.ln
 unfold rowsOf
 rw[Rx,Rx,Rn,Rn,Rn]
 lia
def cE.none (h:cE bs ins nds):cE bs ins []/\¬ dX bs ins []:=⟨⟨h.b,h.i,(λy z=>nomatch z),(λy z=>nomatch z),h.lb,h.li,(by left)⟩,λp=>au p.2.2.1 (by left)⟩
def yL (h:AW bs ins nds)(n40:nds~<=40)(k:Nat){b:Str×Int}(hb:df b.1/\0<=b.2/\b.2<10^30)(no:b.2<1\/b.1∈bs.map (·.1)):cE (mid bs k b) ins nds/\¬ dX (mid bs k b) ins nds:=by
 !f:=h.yY n40
 #⟨⟨λx hx=>?_,f.i,f.n,f.td,by !:=h.wr.lb;rw[jL];lia,f.li,f.ln⟩,λp=>?_⟩
 . rcases jN hx with rfl|hx
   . #hb
   . #f.b x hx
 . rcases no with no|no
   . !:=p.1.1 b (kL _ _ _)
     lia
   . !nd:=p.1.2
     rw[jM]at nd
     #mq nd no
def vd (h:AW bs ins nds)(n40:nds~<=40)(k:Nat){b:Str×Int}(hk:bs[k]?=S b):cE (bs.set k (b.1,0)) ins nds/\¬ dX (bs.set k (b.1,0)) ins nds:=by
 !f:=h.yY n40
 !kl:=(cy hk)
 #⟨⟨λx hx=>?_,f.i,f.n,f.td,by rw[Ui];#f.lb,f.li,f.ln⟩,λp=>?_⟩
 . rcases List.mem_or_eq_of_mem_set hx with hx|rfl
   . #f.b x hx
   . #⟨(f.b b (RL hk)).1,Int.le_refl 0,show(0:Int)<10^30 by left⟩
 . !:=p.1.1 (b.1,0) (RL (i:=k) (by rw[S5 kl]))
   #au (show(1:Int)<=0 from this) (by left)
def yM (h:AW bs ins nds)(n40:nds~<=40)(k:Nat){x:Str}(hx:df x)(no:x∉bs.map (·.1)\/x∈ins):cE bs (mid ins k x) nds/\¬ dX bs (mid ins k x) nds:=by
 !f:=h.yY n40
 #⟨⟨f.b,λy hy=>?_,f.n,f.td,f.lb,by !:=h.wr.li;rw[jL];lia,f.ln⟩,λp=>?_⟩
 . rcases jN hy with rfl|hy
   . #hx
   . #f.i y hy
 . rcases no with no|no
   . #no (p.2.1.1 x (kL _ _ _))
   . #mq p.2.1.2 no
def Cf (h:AW bs ins nds)(n40:nds~<=40)(k:Nat){ns:O Np}(sub:∀e∈ns,e∈nds)(hl:ns~<=nds~){e:Np}(w:e.wr)(td:∀t∈e.fw,t.okIn fe/\t.dep<20)(no:∀m:Nat,m<=nds~+1->¬ lV bs m e):cE bs ins (mid ns k e)/\¬ dX bs ins (mid ns k e):=by
 !f:=h.yY n40
 #⟨⟨f.b,f.i,λy hy=>?_,λy hy=>?_,f.lb,f.li,by rw[jL];lia⟩,λp=>?_⟩
 . rcases jN hy with rfl|hy
   . #w
   . #f.n y (sub y hy)
 . rcases jN hy with rfl|hy
   . #td
   . #f.td y (sub y hy)
 . #no _ (by rw[jL];lia) (p.2.2.2 e (kL _ _ _))
end
abbrev iH:O Str:=["q","nobox","zz","keyword","strange"]
def dD:∀x∈iH,df x:=λx hx=>by
 !h1:∀x∈iH,1<=x~/\x~<=8/\∀c∈x.cps.toList,97<=c/\c<123:=by right
 #⟨(h1 x hx).1,(h1 x hx).2.1,(h1 x hx).2.2⟩
abbrev gO:O Str:=["put @ 1 0","pick @ 0","say @ 0","say ((1+2)-(3+@)) 0","test @=1 0 0","test {yes&!1<(2+@)} 0 0","say (@-@) 0","test !!1=@ 0 0"]
abbrev bx (x:Str):E:=.box "box" x
abbrev zy (x:Str):O Np:=[.put x (.num 1) 0,.pick x 0,.say (bx x) 0,.say (.two .less (.two .plus (.num 1) (.num 2)) (.two .plus (.num 3) (bx x))) 0,.test (.two .same (bx x) (.num 1)) 0 0,.test (.two .both .yes (.nt (.two .under (.num 1) (.two .plus (.num 2) (bx x))))) 0 0,.say (.two .less (bx x) (bx x)) 0,.test (.nt (.nt (.two .same (.num 1) (bx x)))) 0 0]
def HY:∀x∈iH,gO.map (λr=>Vb r "@" x)=(zy x).map λe=>RM bG e.ws:=by right
def uF:∀r∈gO,r~<=30:=by right
def yZ:∀x∈iH,(("@":Str)==x)=false:=by right
theorem jR {P:Str->Prop}:∀{e:E},e.okN P->e.okIn fe
 | .num _,h=>kM h|.box t x,h=>h.1|.yes,_=>RO|.nt a,h=>jR (e:=a) h|.two _ a b,h=>⟨jR (e:=a) h.1,jR (e:=b) h.2⟩
def qg {n:Int}(h0:0<=n:=by left)(h:n<100:=by left):0<=n/\n<10^30:=⟨h0,Int.lt_trans h (by left)⟩
def rH {x:Str}(hx:df x):∀e∈zy x,e.wr/\∀t∈e.fw,t.okIn fe/\t.dep<20:=by
 !b:(bx x).okN df:=⟨rfl,hx⟩
 !s0:pw 30 (.num 1):=⟨RO,qg,by left,by left⟩
 !s1:pw 30 (bx x):=⟨RO,b,by change 8<=4000;decide,by change 0<30;decide⟩
 !s2:pw 30 (.two .less (.two .plus (.num 1) (.num 2)) (.two .plus (.num 3) (bx x))):=⟨⟨⟨RO,RO⟩,RO,RO⟩,⟨⟨qg,qg⟩,qg,b⟩,by change 31+31+3+(31+8+3)+3<=4000;decide,by change 2<30;decide⟩
 !c1:pL 30 (.two .same (bx x) (.num 1)):=⟨⟨RO,RO⟩,⟨b,qg⟩,by change 8+31+3<=4000;decide,by change 1<30;decide⟩
 !c2:pL 30 (.two .both .yes (.nt (.two .under (.num 1) (.two .plus (.num 2) (bx x))))):=⟨⟨RO,⟨RO,RO,RO⟩⟩,⟨RO,qg,qg,b⟩,by change 3+(31+(31+8+3)+3+1)+3<=4000;decide,by change 4<30;decide⟩
 !s3:pw 30 (.two .less (bx x) (bx x)):=⟨⟨RO,RO⟩,⟨b,b⟩,by change 8+8+3<=4000;decide,by change 1<30;decide⟩
 !c3:pL 30 (.nt (.nt (.two .same (.num 1) (bx x)))):=⟨⟨RO,RO⟩,⟨qg,b⟩,by change 31+8+3+1+1<=4000;decide,by change 3<30;decide⟩
 !t:∀{e:E},e.okN df->∀n,n<20->e.dep=n->e.okIn fe/\e.dep<20:=λh n hn z=>⟨jR h,by rw[z];#hn⟩
 !d0:=qg (n:=0)
 intro e he
 simp only[Sh,R4,or_false]at he
 rcases he with rfl|rfl|rfl|rfl|rfl|rfl|rfl|rfl
 . #⟨⟨hx,s0,d0⟩,all2 (t b 0 (by left) rfl) (t s0.ok 0 (by left) rfl)⟩
 . #⟨⟨hx,d0⟩,all1 (t b 0 (by left) rfl)⟩
 . #⟨⟨s1,d0⟩,all1 (t s1.ok 0 (by left) rfl)⟩
 . #⟨⟨s2,d0⟩,all1 (t s2.ok 2 (by left) rfl)⟩
 . #⟨⟨c1,d0,d0⟩,all1 (t c1.ok 1 (by left) rfl)⟩
 . #⟨⟨c2,d0,d0⟩,all1 (t c2.ok 4 (by left) rfl)⟩
 . #⟨⟨s3,d0⟩,all1 (t s3.ok 1 (by left) rfl)⟩
 . #⟨⟨c3,d0,d0⟩,all1 (t c3.ok 3 (by left) rfl)⟩
def zA {bs:aB}{x:Str}(h:x∉bs.map (·.1)){m:Nat}:∀e∈zy x,¬ lV bs m e:=by
 !b:Ck bs "box" x=false:=gv λz=>h z.2
 intro e he p
 simp only[Sh,R4,or_false]at he
 rcases he with rfl|rfl|rfl|rfl|rfl|rfl|rfl|rfl
 all_goals
   !q:=p.2 _ Ru
   simp[E.bf,b]at q
def ER {bs:aB}{ins:O Str}{nds:O Np}{x:Str}(hx:x∈iH)(h:x∉bs.map (·.1)){k:Nat}{r:Str}(hr:gO[k]?=S r):fA bs ins nds 2 (Vb r "@" x):=by
 !e:=congrArg (λl:O Str=>l[k]?) (HY x hx)
 !e:(gO.map (λr=>Vb r "@" x))[k]?=((zy x).map λe=>RM bG e.ws)[k]?:=e
 rw[Sb,hr,Sb]at e
 @⟨nd,hn,en⟩:=Option.map_eq_some_iff.mp e.symm
 !en:RM bG nd.ws=Vb r "@" x:=en
 rw[← en]
 !hm:=RL hn
 #.nd nd (rH (dD x hx) nd hm).1 (rH (dD x hx) nd hm).2 λm z=>zA h nd hm
def kA {bs:aB}{nds:O Np}{f:Int}(hf:(nds~:Int)+1<=f){e:Np}(h:f∈e.gJ):∀m:Nat,m<=nds~+1->¬ lV bs m e:=λm hm p=>by
 !:=p.1 f h
 lia
abbrev Cr (b:Str)(f:Int):O Np:=[.say (.num 1) f,.test .yes 0 f,.test .yes f 0,.put b (.num 1) f,.pick b f]
def Cs {bs:aB}{ins:O Str}{nds:O Np}{b:Str}{f:Int}(hb:df b)(h0:(nds~:Int)+1<=f)(h1:f<10^30):∀e∈Cr b f,fA bs ins nds 2 (RM bG e.ws):=by
 !s0:pw 30 (.num 1):=⟨RO,qg,by left,by left⟩
 !c0:pL 30 .yes:=⟨RO,RO,by left,by left⟩
 !hf:0<=f/\f<10^30:=⟨by lia,h1⟩
 !d0:=qg (n:=0)
 !tn:(E.num 1).okIn fe/\(E.num 1).dep<20:=⟨kM qg,by left⟩
 !ty:E.yes.okIn fe/\E.yes.dep<20:=⟨RO,by left⟩
 !tb:(bx b).okIn fe/\(bx b).dep<20:=⟨rfl,by change 0<20;decide⟩
 intro e he
 simp only[Sh,R4,or_false]at he
 rcases he with rfl|rfl|rfl|rfl|rfl
 . #.nd _ ⟨s0,hf⟩ (all1 tn) (kA h0 Ru)
 . #.nd _ ⟨c0,d0,hf⟩ (all1 ty) (kA h0 (RC _ Ru))
 . #.nd _ ⟨c0,hf,d0⟩ (all1 ty) (kA h0 Ru)
 . #.nd _ ⟨hb,s0,hf⟩ (all2 tb tn) (kA h0 Ru)
 . #.nd _ ⟨hb,hf⟩ (all1 tb) (kA h0 Ru)
def MK (a b c:Str):RM bG [a,b,c]=a++bG++(b++bG++c):=by
 change Sr bG [a,b,c]=_
 rw[StrLaws.glued_eq_join]
 rfl
def KY (a b c d:Str):RM bG [a,b,c,d]=a++bG++(b++bG++(c++bG++d)):=by
 change Sr bG [a,b,c,d]=_
 rw[StrLaws.glued_eq_join]
 rfl
def t1:E.txt (.num 1)="1":=by right
def i0:Rt (toString (0:Int))=("0":Str):=by right
def vD (b:Str)(f:Int):(Cr b f).map (λe=>RM bG e.ws)=["say 1 "++Rt (toString f),"test yes 0 "++Rt (toString f),"test yes "++Rt (toString f)++" 0","put "++b++" 1 "++Rt (toString f),"pick "++b++" "++Rt (toString f)]:=by
 change[RM bG ["say",E.txt (.num 1),Rt (toString f)],RM bG ["test","yes",Rt (toString (0:Int)),Rt (toString f)],RM bG ["test","yes",Rt (toString f),Rt (toString (0:Int))],RM bG ["put",b,E.txt (.num 1),Rt (toString f)],RM bG ["pick",b,Rt (toString f)]]=_
 rw[MK,KY,KY,KY,MK,t1,i0,show("say 1 ":Str)="say"++bG++("1"++bG)by right,show("test yes 0 ":Str)="test"++bG++("yes"++bG++("0"++bG))by right,show("test yes ":Str)="test"++bG++("yes"++bG)by right,show(" 0":Str)=bG++"0" by right,show("put ":Str)="put"++bG by right,show(" 1 ":Str)=bG++("1"++bG)by right,show("pick ":Str)="pick"++bG by right]
 simp only[UE]
def FD.same {H H':Hp}{B I N:J}{vb vn:O V}{bs:aB}{ins:O Str}{nds:O Np}(h:FD H B I N vb vn bs ins nds)(s:ai H H'):FD H' B I N vb vn bs ins nds:=⟨s _ _ h.hB,s _ _ h.hI,s _ _ h.hN,Paired.cZ h.pb λy y z=>Tp.keep (ai.tk s) z,Paired.cZ h.pn λy y z=>b8.keep (ai.tk s) z⟩
abbrev Az:Stmt:=top 59
def eQ:aC ["program","cell","many","boxes","inputs","nodes","kind","number","far","taken","strange","rows"] ["program","cell","many"] (ao Az):=eU
structure Wg (n:Nat)(H:Hp)(B I st:J)(vb:O V)(bs:aB)(ins fr:O Str):Prop where
 hB:H B=S (.lst vb)
 pb:Paired (fm H) vb bs
 hI:H I=S (.lst (ins.map V.str))
 tk:Tks n H st fr
def Wg.go {n:Nat}{H H':Hp}{B I st:J}{vb:O V}{bs:aB}{ins fr:O Str}(h:Wg n H B I st vb bs ins fr)(s:ai H H'):Wg n H' B I st vb bs ins fr:=
 ⟨s _ _ h.hB,Paired.cZ h.pb λy y z=>Tp.keep (ai.tk s) z,s _ _ h.hI,let⟨a,b,c,d⟩:=h.tk;⟨a,b,s _ _ c,d⟩⟩
def F0 {ns:O Str}(h:ns~<=4):0<(iH.filter λc=>!iN (.str c) (ns.map V.str))~/\∀x∈iH.filter (λc=>!iN (.str c) (ns.map V.str)),x∈iH/\x∉ns:=by
 !key:∀x,x∈iH.filter (λc=>!iN (.str c) (ns.map V.str))↔x∈iH/\x∉ns:=λx=>by
   rw[List.mem_filter,ni]
   simp
 #⟨Nat.pos_of_ne_zero λz=>?_,λx hx=>(key x).mp hx⟩
 !hn:=Vv z
 !hall:∀x∈iH,x∈ns:=λx hx=>by
   by_cases hf:x∈ns
   . #hf
   . !:=(key x).mpr ⟨hx,hf⟩
     rw[hn]at this
     cases this
 !:=sub_len (show iH.Nodup by right) hall
 !e:iH~=5:=rfl
 lia
def xJ (x:Str):"box "++x++" 0"=RM bG (jh (x,0))/\"box "++x++" 2"=RM bG (jh (x,2)):=by
 !e:Rt (toString (2:Int))=("2":Str):=by right
 !a0:(" 0":Str)=" "++"0":=by right
 !a2:(" 2":Str)=" "++"2":=by right
 #⟨?_,?_⟩
 . change _=RM bG ["box",x,Rt (toString (0:Int))]
   rw[i0,← mK,a0]
   simp only[UE]
 . change _=RM bG ["box",x,Rt (toString (2:Int))]
   rw[e,← mK,a2]
   simp only[UE]
def cU (a b:Str):(a++b)~=a~+b~:=Str.length_append _ _
abbrev BA (b z:Str):O Str:=["say 1 "++z,"test yes 0 "++z,"test yes "++z++" 0","put "++b++" 1 "++z,"pick "++b++" "++z]
def rb {bs:aB}{ins:O Str}{nds:O Np}{b:Str}{f:Int}(hb:df b)(h0:(nds~:Int)+1<=f)(h1:f<10^30):∀r∈BA b (Rt (toString f)),fA bs ins nds 2 r:=λr hr=>by
 !hr:r∈(Cr b f).map (λe=>RM bG e.ws):=by rw[vD];#hr
 @⟨e,he,rfl⟩:=fc hr
 #Cs hb h0 h1 e he
def BL:Sp:=λvs H Q z=>∃(p:J) (c:Int) (B I N:J) (vb vn:O V) (bs:aB) (ins:O Str) (nds:O Np),vs=[.ref p,.int c,.int ((nds~:Int)+1)]/\H p=S (.tup [.ref B,.ref I,.ref N])/\FD H B I N vb vn bs ins nds/\AW bs ins nds/\nds~<=40 /\
 ∀(t:J) (w:Int) (row:Str) (H':Hp),ai H H'->H' t=S (.tup [.int w,.str row])->fA bs ins nds w row->Q (.ref t) H'
def Dh {f:J}{fd:RZ}(F:cD K "_law_wrong" "_law_wrong" Az f fd)(m_len:mg "len"=Z)(m_str:mg "str"=Z)(ST:b7 P w K mg base "_law_stir" ["cell","k"] 1 cm):aY P w K mg base dq 2 f fd ["program","cell","many"] BL:=by
 #F.iU eQ λcdv A outer s H vs Q E hr h=>?_
 @⟨p,c,B,I,N,vb,vn,bs,ins,nds,rfl,hp,pt,pg,n40,q⟩:=h
 !NT:=pg.wr.lb
 !Fo:=Paired.length pt.pb
 #ig ⟨_,(Wv (Xj (Y 0) (Xb 3 (WQ (WI 3 eQ.nd) (WQ (WI 4 eQ.nd) (WQ (WI 5 eQ.nd) W2)))))
   (L3.first 6 eQ.nd WG (WA ST hr U (L (Y 1) (L Ws M)))
   (Xg (Wy 7 eQ.nd (WA ST hr U (L (Y 1) (L Ws M))))
   (Xg (Wy 8 eQ.nd (W4 Xp U m_str (by right) (L (Wz WK (WD (L (Y 2) (L (Wt WN (Y 2) Ws) (L (Wt Xm Ws Ws) (L (Wt WN (Y 2) Ws) M))))) (Wt WG (WA ST hr U (L (Y 1) (L Ws M))) Ws)) M)))
   (Xg (Wy 9 eQ.nd (Xk [Z,Z] ["name","size"] (oa Az) U (WW (Y 3)) (λy y y y y=>⟨(Xb 2 (WQ (WI 0 (jr ["name","size"])) (WQ (WI 1 (jr ["name","size"])) W2))),WZ,(Y 0)⟩)))
   (L3.pick 10 9 (oa Az) eQ.nd λN1=>
   (Xg (WB (Wx WL (Y 6) Ws) (Ww (WC (WH (L Ws (L (Wt WS (Wt WS Wu (Wz WK (Y 10) (Wt WG (Y 7) (WJ WO U m_len RG (L (Y 10) M))))) Wu) M))))) WE)
   (Xg (WB (WV (WX (Wx WL (Y 6) Ws) (W6 (Wx (Xf (m:=2) (dm hr _ (by left))) (Y 3) (WD M))))) (Ww (WC (WH (L Ws (L (Wt WS (Wt WS Wu (Wz WM (Wz WK (Y 3) (Wt WG (Y 7) (WJ WO U m_len RG (L (Y 3) M)))) Ws)) Wu) M))))) WE)
   (Xg (WB (WV (WX (Wx WL (Y 6) Ws) (W6 (Wx (Xf (m:=2) (dm hr _ (by left))) (Y 4) (WD M))))) (Ww (WC (WH (L Ws (L (Wt WS Wu (Wz WK (Y 4) (Wt WG (Y 7) (WJ WO U m_len RG (L (Y 4) M))))) M))))) WE)
   (Xg (WB (Wx WL (Y 6) Ws) (Ww (WC (WH (L Ws (L (Wt WS Wu (Wz WK (Y 10) (Wt WG (Y 7) (WJ WO U m_len RG (L (Y 10) M))))) M))))) WE)
   (Xg (WB (Wx WL (Y 6) Ws) (Wv (Wy 11 eQ.nd (WD (L (Wt WS Wu (Y 8)) (L (Wt WS Wu (Y 8)) (L (Wt WS (Wt WS Wu (Y 8)) Wu) M)))))
   (Wv (WB (Wx (Xf (m:=2) (dm hr _ (by left))) (Y 3) (WD M)) (Ww (Wy 11 eQ.nd (Wt W7 (Y 11) (WD (L (Wt WS (Wt WS (Wt WS Wu (Wz WM (Wz WK (Y 3) Ws) Ws)) Wu) (Y 8)) (L (Wt WS (Wt WS (Wt WS Wu (Wz WM (Wz WK (Y 3) Ws) Ws)) Wu) (Y 8)) M)))))) WE)
   (Ww (WC (WH (L Ws (L (Wz WK (Y 11) (Wt WG (Y 7) (WJ WO U m_len RG (L (Y 11) M)))) M))))))) WE)
   (Xg (Wy 11 eQ.nd (WD (L Wu (L Wu (L Wu (L Wu (L Wu (L Wu M))))))))
   (Xg (Wy 11 eQ.nd (Wt W7 (Y 11) (WD (L Wu (L Wu M)))))
   (L3.Av (Wz WK (Y 11) (Wt WG (Y 7) (WJ WO U m_len RG (L (Y 11) M)))) (Y 10) (Wt WG (Wt WT (Y 7) Ws) (WJ WO U m_len RG (L (Y 10) M))))))))))))))))),?_⟩
 #aq λRk kR=>?_
 #⟨_,U,?_⟩
 #QF hp ?_
 #kR _ _ ?_
 #aw [S (.ref p),S (.int c),S (.int ((nds~:Int)+1)),S (.ref B),S (.ref I),S (.ref N),Z,Z,Z,Z,Z,Z] U ?_
 #aq λRk kR=>?_
 #⟨_,U,c,910,U,by left,by left,λk k0 k1=>⟨_,_,U,U,(by change(0:Int)<8;decide),?_⟩⟩
 obtain⟨kd,N8⟩ : ∃kd,kd=k%8:=⟨_,rfl⟩
 #ak (kR _ _ ?_)
 #aw [S (.ref p),S (.int c),S (.int ((nds~:Int)+1)),S (.ref B),S (.ref I),S (.ref N),S (.int kd),Z,Z,Z,Z,Z] (by rw[N8];rfl) ?_
 #aq λRk kR=>?_
 #⟨_,U,c,912,U,by left,by left,λnu u0 u1=>?_⟩
 #ak (kR _ _ ?_)
 #aw [S (.ref p),S (.int c),S (.int ((nds~:Int)+1)),S (.ref B),S (.ref I),S (.ref N),S (.int kd),S (.int nu),Z,Z,Z,Z] U ?_
 #aq λRk kR=>?_
 #⟨_,U,_,U,_,_,U,U,_,_,U,U,⟨by left,by left,by left⟩,_,U,_,_,U,U,YM,λl0 CF=>?_⟩
 @⟨H1,s0,Kf,zz⟩:=aZ CF (.lst [.int ((nds~:Int)+1),.int ((nds~:Int)+1+1),.int (10^(29:Int).toNat),.int ((nds~:Int)+1+40)])
 rw[zz];clear zz
 #⟨_,U,c,911,U,by left,by left,λj j0 j1=>⟨_,_,U,U,(by change(0:Int)<4;decide),?_⟩⟩
 @⟨_,dg,f,rfl,f0,f1⟩:=qR (P:=λv=>∃n:Int,v=.int n/\(nds~:Int)+1<=n/\n<10^30) (xs:=[.int ((nds~:Int)+1),.int ((nds~:Int)+1+1),.int (10^(29:Int).toNat),.int ((nds~:Int)+1+40)]) (r:=j%4) (aP (by left)) (aQ (by left)) (λx hx=>by
   !JH:∀n:Int,n<=1000->n<10^30:=λn h=>Int.lt_of_le_of_lt h (by left)
   rcases cv hx with e|hx
   . #⟨_,e,Int.le_refl _,JH _ (by lia)⟩
   rcases cv hx with e|hx
   . #⟨_,e,by lia,JH _ (by lia)⟩
   rcases cv hx with e|hx
   . #⟨_,e,Int.le_trans (show(nds~:Int)+1<=41 by lia) (by left),by left⟩
   . #⟨_,di hx,by lia,JH _ (by lia)⟩)
 #cH Kf dg ?_
 #.inl ⟨f,U,TC (eY (kM ⟨by lia,f1⟩)) (by left),?_⟩
 #ak (kR _ _ ?_)
 #aw [S (.ref p),S (.int c),S (.int ((nds~:Int)+1)),S (.ref B),S (.ref I),S (.ref N),S (.int kd),S (.int nu),S (.str (Rt (toString f))),Z,Z,Z] U ?_
 !fl:=bJ (n:=f) ⟨by lia,f1⟩
 !Jm:=pt.same s0
 #aq λRk kR=>?_
 #⟨_,U,B,U,⟨_,aH.of Jm.hB⟩,λtk htk=>?_⟩
 #bD (xs:=vb) (λ(i:Nat) Hx=>ai H1 Hx/\Hx tk=S (.lst (((bs.map (·.1)).take i).map V.str))) ⟨af htk _,ae⟩ (λi Hx y z=>aH.of (z.1 _ _ Jm.hB)) (λi x0 Hx hx z=>?_) (λH2 z=>?_)
 . @⟨sx,gD⟩:=z
   !eE:=(cy hx)
   @⟨b,lK,pp,rfl,md⟩:=Paired.get Jm.pb hx
   #yC (sx _ _ md) ?_
   #de (A:=λH5=>dJ _ tk _ H5 _) ?_
   #⟨_,U,_,gD,aW (by rw[Rn,R8];lia),bq (Pv:=λ(i:Nat) Hx=>ai H1 Hx/\Hx tk=S (.lst (((bs.map (·.1)).take i).map V.str))) (by repeat' constructor) eE ⟨bo sx htk,?_⟩⟩
   rw[ae,R9,Sb,lK,RW]
   rfl
 @⟨s2,Me⟩:=z
 rw[Fo,UI (by rw[Rn];#Rz _)]at Me
 #ak (kR _ _ ?_)
 #aw [S (.ref p),S (.int c),S (.int ((nds~:Int)+1)),S (.ref B),S (.ref I),S (.ref N),S (.int kd),S (.int nu),S (.str (Rt (toString f))),S (.ref tk),Z,Z] U ?_
 #⟨tk,bs.map (·.1),U,aH.of Me,λn st H3 y s3 Js=>?_⟩
 !mB:ai H H3:=aa s0 (aa s2 s3)
 !Ld:=Jm.same (aa s2 s3)
 !d:Wg n H3 B I st vb bs ins _:=⟨Ld.hB,Ld.pb,Ld.hI,Js⟩
 @⟨vG,fin5⟩:=F0 (ns:=bs.map (·.1)) (by rw[Rn];#NT)
 generalize iH.filter (λc=>!iN (.str c) ((bs.map (·.1)).map V.str))=fr at d vG fin5
 !C1:∀x∈fr,x~<=8:=λx hx=>(dD x (fin5 x hx).1).l8
 !nlo:=λ(n:Nat) (h:0<n)=>aP (k:=nu) (n:=(n:Int)) (by lia)
 !nhi:=λ(n:Nat) (h:0<n)=>aQ (k:=nu) (n:=(n:Int)) (by lia)
 !Qr:(1000000:Nat)<=sizeLine:=by left
 #aw [S (.ref p),S (.int c),S (.int ((nds~:Int)+1)),S (.ref B),S (.ref I),S (.ref N),S (.int kd),S (.int nu),S (.str (Rt (toString f))),S (.ref tk),S (.ref st),Z] U ?_
 generalize H3=H4 at d mB
 #aq λRk kR=>?_
 #⟨_,U,U,_,U,aG (λy=>?_) (λy=>?_)⟩
 . @⟨x,_,eF,dg⟩:=bU V.str fr (nlo _ vG) (nhi _ vG)
   rw[← Rn (f:=V.str)]at dg
   #⟨_,U,_,U,_,U,st,_,U,.inl ((d.tk.sq)),_,_,U,U,(by rw[Rn];lia),st,_,_,_,U,U,(d.tk.sq),dg,_,_,U,U,(by !:=C1 x eF;change 4+x~<=sizeLine;lia),_,_,U,U,(by !:=C1 x eF;rw[cU];change 4+x~+2<=sizeLine;lia),YK,λt ht=>?_⟩
   #q t _ _ _ (az mB ht) ae ?_
   rw[(xJ x).1]
   #.box (x,0) ⟨dD x (fin5 x eF).1,qg (n:=0)⟩ (.inl (show(0:Int)<1 by left))
 #kR _ _ (aq λRk kR=>?_)
 suffices rest:∀H5,ai H4 H5->Rk [S (.ref p),S (.int c),S (.int ((nds~:Int)+1)),S (.ref B),S (.ref I),S (.ref N),S (.int kd),S (.int nu),S (.str (Rt (toString f))),S (.ref tk),S (.ref st),Z] H5 by
   #⟨_,U,U,_,U,aG (λy=>?_) (λy=>?_)⟩
   rotate_left
   . #bc rfl (rest _ (λy y z=>z))
   #⟨_,U,YI,λz hz=>?_⟩
   @⟨H5,sz,gz,zz⟩:=aZ hz (.lst [])
   rw[zz];clear zz
   !d5:=d.go sz
   #⟨_,RB.nil (aH.of d5.hB) (aH.of gz),_,U,aG (λcc=>?_) (λy=>?_)⟩
   rotate_left
   . #rest _ sz
   !IL:0<vb~:=by
     cases vb with
     | nil=>#au cc (by left)
     | cons a l=>#S8 _
   @⟨v,hv,dg⟩:=vc (xs:=vb) (nlo _ IL) (nhi _ IL)
   @⟨b,lK,pp,rfl,md⟩:=Paired.get d5.pb hv
   !Gb:=RL lK
   !lb:=pg.wr.b b Gb
   #⟨_,U,_,U,_,U,B,_,U,.inl (aH.of d5.hB),_,_,U,U,(by lia),?_⟩
   #cH d5.hB dg ?_
   #bR md U ?_
   #⟨_,_,U,U,(by !:=lb.1.l8;change 4+b.1~<=sizeLine;lia),_,_,U,U,(by !:=lb.1.l8;rw[cU];change 4+b.1~+2<=sizeLine;lia),YK,λt ht=>?_⟩
   #q t _ _ _ (az (aa mB sz) ht) ae ?_
   rw[(xJ b.1).2]
   #.box (b.1,2) ⟨lb.1,qg (n:=2)⟩ (.inr (C6 ⟨b,Gb,U⟩))
 obtain⟨Fu,NZ⟩ : ∃Fu,Fu=H4:=⟨_,rfl⟩
 intro H5 s5
 replace mB:=aa mB s5
 replace d:=d.go s5
 obtain⟨H4,eH⟩ : ∃H4,H4=H5:=⟨_,rfl⟩
 rw[← eH]at mB d ⊢
 #kR _ _ (aq λRk kR=>?_)
 suffices rest:∀H5,ai H4 H5->Rk [S (.ref p),S (.int c),S (.int ((nds~:Int)+1)),S (.ref B),S (.ref I),S (.ref N),S (.int kd),S (.int nu),S (.str (Rt (toString f))),S (.ref tk),S (.ref st),Z] H5 by
   #⟨_,U,U,_,U,aG (λy=>?_) (λy=>?_)⟩
   rotate_left
   . #bc rfl (rest _ (λy y z=>z))
   #⟨_,U,YI,λz hz=>?_⟩
   @⟨H5,sz,gz,zz⟩:=aZ hz (.lst [])
   rw[zz];clear zz
   !d5:=d.go sz
   #⟨_,RB.nil (aH.of d5.hI) (aH.of gz),_,U,aG (λcc=>?_) (λy=>?_)⟩
   rotate_left
   . #rest _ sz
   !ipos:0<ins~:=by
     cases ins with
     | nil=>#au cc (by left)
     | cons a l=>#S8 _
   @⟨x,_,eF,dg⟩:=bU V.str ins (nlo _ ipos) (nhi _ ipos)
   rw[← Rn (f:=V.str)]at dg
   !lx:=pg.wr.i x eF
   #⟨_,U,_,U,_,U,I,_,U,.inl (aH.of d5.hI),_,_,U,U,(by rw[Rn];lia),?_⟩
   #cH d5.hI dg ?_
   #⟨_,_,U,U,(by !:=lx.l8;change 6+x~<=sizeLine;lia),YK,λt ht=>?_⟩
   #q t _ _ _ (az (aa mB sz) ht) ae ?_
   rw[p8 x]
   #.inp x lx (.inr eF)
 obtain⟨Fu,NZ⟩ : ∃Fu,Fu=H4:=⟨_,rfl⟩
 intro H5 s5
 replace mB:=aa mB s5
 replace d:=d.go s5
 obtain⟨H4,eH⟩ : ∃H4,H4=H5:=⟨_,rfl⟩
 rw[← eH]at mB d ⊢
 #kR _ _ (aq λRk kR=>?_)
 #⟨_,U,U,_,U,aG (λy=>?_) (λy=>?_)⟩
 . @⟨x,_,eF,dg⟩:=bU V.str fr (nlo _ vG) (nhi _ vG)
   rw[← Rn (f:=V.str)]at dg
   !lx:=dD x (fin5 x eF).1
   #⟨_,U,_,U,_,U,st,_,U,.inl ((d.tk.sq)),_,_,U,U,(by rw[Rn];lia),st,_,_,_,U,U,(d.tk.sq),dg,_,_,U,U,(by !:=lx.l8;change 6+x~<=sizeLine;lia),YK,λt ht=>?_⟩
   #q t _ _ _ (az mB ht) ae ?_
   rw[p8 x]
   #.inp x lx (.inl (fin5 x eF).2)
 #kR _ _ (aq λRk kR=>?_)
 #⟨_,U,U,_,U,aG (λy=>?_) (λy=>?_)⟩
 . clear kR
   #aq λuU kR=>?_
   #⟨_,U,_,_,U,U,(by change 6+(Rt (toString f))~<=sizeLine;lia),_,U,_,_,U,U,(by change 11+(Rt (toString f))~<=sizeLine;lia),_,U,_,_,U,U,(by change 9+(Rt (toString f))~<=sizeLine;lia),_,_,U,U,(by rw[cU];change 9+(Rt (toString f))~+2<=sizeLine;lia),YL,λl1 iK=>?_⟩
   @⟨H5,s5,g5,zz⟩:=aZ iK (.lst [V.str ("say 1 "++Rt (toString f)),V.str ("test yes 0 "++Rt (toString f)),V.str ("test yes "++Rt (toString f)++" 0")])
   rw[zz];clear zz
   !d5:=d.go s5
   #ak (kR _ _ ?_)
   #aw [S (.ref p),S (.int c),S (.int ((nds~:Int)+1)),S (.ref B),S (.ref I),S (.ref N),S (.int kd),S (.int nu),S (.str (Rt (toString f))),S (.ref tk),S (.ref st),S (.ref l1)] U ?_
   #aq λuU kR=>?_
   suffices rest:∀(l1:J) (rs:O Str) (H6:Hp),ai H5 H6->H6 l1=S (.lst (rs.map V.str))->0<rs~->(∀r∈rs,fA bs ins nds 2 r)->uU [S (.ref p),S (.int c),S (.int ((nds~:Int)+1)),S (.ref B),S (.ref I),S (.ref N),S (.int kd),S (.int nu),S (.str (Rt (toString f))),S (.ref tk),S (.ref st),S (.ref l1)] H6 by
     !w3:∀r∈(["say 1 "++Rt (toString f),"test yes 0 "++Rt (toString f),"test yes "++Rt (toString f)++" 0"]:O Str),fA bs ins nds 2 r:=λr hr=>rb (b:="q") (dD "q" (by left)) f0 f1 r (S0 ["put "++"q"++" 1 "++Rt (toString f),"pick "++"q"++" "++Rt (toString f)] hr)
     #⟨_,U,YI,λz hz=>?_⟩
     @⟨H6,sz,gz,zz⟩:=aZ hz (.lst [])
     rw[zz];clear zz
     !d6:=d5.go sz
     #⟨_,RB.nil (aH.of d6.hB) (aH.of gz),_,U,aG (λcc=>?_) (λy=>?_)⟩
     rotate_left
     . #rest l1 ["say 1 "++Rt (toString f),"test yes 0 "++Rt (toString f),"test yes "++Rt (toString f)++" 0"] _ sz (sz _ _ g5) (by change 0<3;decide) w3
     obtain⟨v,hv⟩ : ∃v,vb[0]?=S v:=by
       cases vb with
       | nil=>#au cc (by left)
       | cons a l=>#⟨a,rfl⟩
     !dg:iz vb 0=S v:=f6 hv
     @⟨b,lK,pp,rfl,md⟩:=Paired.get d6.pb hv
     !lb:=(pg.wr.b b (RL lK)).1
     !Q8:=lb.l8
     #⟨_,U,_,U,?_⟩
     #cH d6.hB dg ?_
     #bR md U ?_
     #⟨_,_,U,U,(by change 4+b.1~<=sizeLine;lia),_,_,U,U,(by rw[cU];change 4+b.1~+3<=sizeLine;lia),_,U,_,_,U,U,(by rw[cU,cU];change 4+b.1~+3+(Rt (toString f))~<=sizeLine;lia),?_⟩
     #⟨_,U,?_⟩
     #cH d6.hB dg ?_
     #bR md U ?_
     #⟨_,_,U,U,(by change 5+b.1~<=sizeLine;lia),_,_,U,U,(by rw[cU];change 5+b.1~+1<=sizeLine;lia),_,U,_,_,U,U,(by rw[cU,cU];change 5+b.1~+1+(Rt (toString f))~<=sizeLine;lia),YK,λl2 pX=>?_⟩
     @⟨H7,s7,g7,zz⟩:=aZ pX (.lst [V.str ("put "++b.1++" 1 "++Rt (toString f)),V.str ("pick "++b.1++" "++Rt (toString f))])
     rw[zz];clear zz
     #⟨l1,l2,_,_,U,U,s7 _ _ (sz _ _ g5),g7,YN,λl3 zi=>?_⟩
     #ak ?_
     #rest l3 (BA b.1 (Rt (toString f))) _ (az (aa sz s7) zi) ae (by change 0<5;decide) (rb lb f0 f1)
   intro l1 rs H6 s6 g6 Ib hw
   #kR _ _ ?_
   @⟨x,_,eF,dg⟩:=bU V.str rs (nlo _ Ib) (nhi _ Ib)
   rw[← Rn (f:=V.str)]at dg
   #⟨_,U,_,U,_,U,l1,_,U,.inl (aH.of g6),_,_,U,U,(by rw[Rn];lia),?_⟩
   #cH g6 dg ?_
   #⟨YK,λt ht=>?_⟩
   #q t _ _ _ (az (aa mB (aa s5 s6)) ht) ae (hw x eF)
 #kR _ _ (tu λRk kR=>?_)
 #⟨YO,λl1 iK=>?_⟩
 @⟨H5,s5,g5,zz⟩:=aZ iK (.lst [V.str "put @ 1 0",V.str "pick @ 0",V.str "say @ 0",V.str "say ((1+2)-(3+@)) 0",V.str "test @=1 0 0",V.str "test {yes&!1<(2+@)} 0 0"])
 rw[zz];clear zz
 #ak ?_
 #⟨_,U,YK,λl2 pX=>?_⟩
 @⟨H6,s6,g6,zz⟩:=aZ pX (.lst [V.str "say (@-@) 0",V.str "test !!1=@ 0 0"])
 rw[zz];clear zz
 #⟨l1,l2,_,_,U,U,s6 _ _ g5,g6,YR,λl3 zi=>?_⟩
 !s7:ai H6 (upd H6 l3 (.lst (gO.map V.str))):=af zi _
 !g7:(upd H6 l3 (.lst (gO.map V.str))) l3=S (.lst (gO.map V.str)):=ae
 #qj (λHz=>cI _ _ _ Hz _) (upd H6 l3 (.lst (gO.map V.str))) U ?_
 generalize upd H6 l3 (.lst (gO.map V.str))=H7 at s7 g7 ⊢
 !M6:=aa s5 (aa s6 s7)
 !d7:=d.go M6
 #ak (kR _ _ ?_)
 @⟨r,Pl,Pm,dg⟩:=bU V.str gO (nlo 8 (by left)) (nhi 8 (by left))
 @⟨x,PH,eF,_⟩:=bU V.str fr (r:=nu/8%(fr~:Int)) (aP (by lia)) (aQ (by lia))
 !rl:=uF r Pm
 !xl:=C1 x eF
 #⟨_,U,_,U,_,U,l3,_,U,.inl (aH.of g7),_,_,U,U,(by change(0:Int)<8;decide),?_⟩
 #cH g7 dg ?_
 #⟨r,U,_,U,_,U,_,_,U,U,⟨by left,by right⟩,_,U,st,_,U,.inl d7.tk.sq,_,_,U,U,(by rw[Rn];lia),?_⟩
 #⟨st,_,x,fr,U,U,d7.tk,?_,?_,yZ x (fin5 x eF).1,?_,λt ht=>?_⟩
 . rw[Rn]
   #aP (by lia)
 . rw[Rn]
   #PH
 . !:=Nat.mul_le_mul (show r~+1<=31 by lia) xl
   lia
 . #q t _ _ _ (az (aa mB M6) ht) ae (ER (fin5 x eF).1 (fin5 x eF).2 Pl)
abbrev Ik:Stmt:=top 60
def oy (xs:O V){k:Nat}(h:k<=xs~):er xs (S (k:Int)) Z=xs.drop k:=by
 unfold er
 !e0:HT.bX xs~ 0 (S (k:Int))=k:=by rw[HT.d9];lia
 !e1:HT.bX xs~ xs~ Z=xs~:=rfl
 rw[e0,e1]
 #UI (by rw[Tn];#Rz _)
def vm (xs:O V){k:Nat}(h:k<=xs~):er xs Z (S (k:Int))=xs.take k:=by
 unfold er
 !e0:HT.bX xs~ 0 Z=0:=rfl
 !e1:HT.bX xs~ xs~ (S (k:Int))=k:=by rw[HT.d9];lia
 rw[e0,e1,VS,Wm]
def BG:aC ["rows","row","cell","at"] ["rows","row","cell"] (ao Ik):=eU
def yT (xs:O V){a b:Nat}(h:a<=b)(h2:b<=xs~):er xs (S (a:Int)) (S (b:Int))=(xs.drop a).take (b-a):=by
 unfold er
 !e0:HT.bX xs~ 0 (S (a:Int))=a:=by rw[HT.d9];lia
 !e1:HT.bX xs~ xs~ (S (b:Int))=b:=by rw[HT.d9];lia
 rw[e0,e1]
def BK (K:Ro):Sp:=λvs H Q z=>∃(R:J) (rs:O Str) (row:Str) (c:Int),vs=[.ref R,.str row,.int c]/\aH K H R (rs.map V.str)/\rs~<=500/\∀(l:J) (k:Nat) (H':Hp),ai H H'->H l=Z->H' l=S (.lst ((mid rs k row).map V.str))->Q (.ref l) H'
def Df {f:J}{fd:RZ}(F:cD K "_law_put_in" "_law_put_in" Ik f fd)(m_len:mg "len"=Z)(ST:b7 P w K mg base "_law_stir" ["cell","k"] 1 cm):aY P w K mg base dq 2 f fd ["rows","row","cell"] (BK K):=by
 #F.iU BG λcdv A outer s H vs Q E hr h=>?_
 @⟨R,rs,row,c,rfl,hR,r5,q⟩:=h
 !ml:(rs.map V.str)~=rs~:=Rn ..
 #ig ⟨_,(Wv (Wy 3 BG.nd (Wt WG (WA ST hr U (L (Y 2) (L Ws M))) (Wt WN (WJ WO U m_len RG (L (Y 0) M)) Ws)))
   (Ww (WC (Wt W7 (Wt W7 (L3.ED (Y 0) (Y 3)) (WD (L (Y 1) M))) (L3.EC (Y 0) (Y 3)))))),?_⟩
 #aq λRk kR=>?_
 #⟨_,U,c,915,U,by left,by left,λj j0 j1=>⟨_,U,R,_,U,.inl hR,_,_,U,U,_,_,U,U,(by rw[ml];lia),?_⟩⟩
 obtain⟨k,ek⟩ : ∃k:Nat,(k:Int)=j%(((rs.map V.str)~:Int)+1):=⟨(j%(((rs.map V.str)~:Int)+1)).toNat,by !:=aP (k:=j) (n:=((rs.map V.str)~:Int)+1) (by lia);lia⟩
 !kl:k<=(rs.map V.str)~:=by
   !:=aQ (k:=j) (n:=((rs.map V.str)~:Int)+1) (by lia)
   lia
 #ak (kR _ _ ?_)
 #aw [S (.ref R),S (.str row),S (.int c),S (.int (k:Int))] (by rw[ek];rfl) ?_
 #⟨_,U,_,U,_,U,R,_,U,hR,λl1 iK=>?_⟩
 rw[vm _ kl]
 @⟨H1,s1,g1,zz⟩:=aZ iK (.lst ((rs.map V.str).take k))
 rw[zz];clear zz
 #⟨_,U,YJ,λl2 pX=>?_⟩
 @⟨H2,s2,g2,zz⟩:=aZ pX (.lst [.str row])
 rw[zz];clear zz
 #⟨l1,l2,_,_,U,U,s2 _ _ g1,g2,Ry (show _<=1000 by rw[R8];change _+1<=1000;lia) (by left),λl3 zi=>?_⟩
 @⟨H3,s3,g3,zz⟩:=aZ zi (.lst ((rs.map V.str).take k++[.str row]))
 rw[zz];clear zz
 !mB:=aa s1 (aa s2 s3)
 #⟨_,U,_,U,_,U,R,_,U,ai.seq mB hR,λl4 pY=>?_⟩
 rw[oy _ kl]
 @⟨H4,s4,g4,zz⟩:=aZ pY (.lst ((rs.map V.str).drop k))
 rw[zz];clear zz
 #⟨l3,l4,_,_,U,U,s4 _ _ g3,g4,Ry (show _<=1000 by rw[Rx,R8,Tn];change _+1+_<=1000;lia) (by left),λl5 KD=>?_⟩
 #q l5 k _ (az (aa mB s4) KD) (aS (aa mB s4) KD) ?_
 rw[ae]
 unfold mid
 rw[RW,RW,Vi,V6]
 rfl
def v8 {c:Nat}{x y:Str}{r:O Str}:Td (SN [c]) (x::y::r)≠TR:=λz=>by
 !e:=congrArg (λs:Str=>s.cps.toList) z
 !e:(Td (SN [c]) (x::y::r)).cps.toList=[]:=e
 rw[eM]at e
 !e:x.cps.toList++c::jl c ((y::r).map λx=>x.cps.toList)=[]:=e
 cases(List.append_eq_nil_iff.mp e).2
def qM {xs:O Str}(hl:xs~<=60)(h:∀x∈xs,x~<=12100/\10∉x.cps.toList)(hn:xs≠[])(h0:Td (SN [10]) xs≠TR):JoinOk "\n" xs=true/\S7 (RM "\n" xs) "\n"=xs/\(RM "\n" xs)~+2<=sizeLine:=by
 #⟨jK 12100 (λy hy=>(h y hy).1) ?_,?_,?_⟩
 . rw[show(("\n":Str))~=1 from rfl]
   lia
 . rw[Qi]
   #lr hn h0 λx hx=>(h x hx).2
 . !e:(RM "\n" xs)~<=60*12101:=by
     change(Sr "\n" _)~<=_
     rw[StrLaws.glued_eq_join]
     #Ry (StrLaws.join_length_le _ _) ?_
     !key:∀l:O Str,(∀r∈l,r~<=12100)->(l.map (·.length)).sum<=l~*12100:=by
       intro l
       induction l with
       | nil=>intro _;#Rz _
       | cons a l ih=>
         intro h
         !h1:=ih λx hx=>h x (RC _ hx)
         !h2:=h a Ru
         rw[R3,S2,RE]
         lia
     !:=key xs λx hx=>(h x hx).1
     rw[show(("\n":Str))~=1 from rfl]
     lia
   #Ry (Nat.add_le_add_right e 2) (by left)
section
variable{bs:aB}{ins:O Str}{nds:O Np}
def cE.txt (f:cE bs ins nds):∀x∈textOf bs ins nds,x~<=12100/\10∉x.cps.toList:=λx hx=>by
 rw[eS]at hx
 @⟨r,hr,rfl⟩:=fc hx
 #⟨(f.row r hr).len.2,λz=>?_⟩
 !:=Ek (f.row r hr) _ z
 lia
def qS:∀x∈dY,x~<=12100/\10∉x.cps.toList:=by right
def cE.AM (f:cE bs ins nds):(textOf bs ins nds)~<=54:=by
 rw[eS,Rn]
 #f.len
def cE.ne (f:cE bs ins nds){l:O Str}(h:textOf bs ins nds≠[]):Td (SN [10]) (textOf bs ins nds++l)≠TR:=by
 !hr:=f.row
 rw[eS]at h ⊢
 cases e:rowsOf bs ins nds with
 | nil=>rw[e]at h;#au rfl h
 | cons a b=>
   rw[e]at hr
   #nq (El (hr a Ru))
structure yJ (tx:Str)(k:Nat):Prop where
 ex:∃(pre:O Rw) (tl:O Str),S7 tx "\n"=pre.map (λr=>du r.hd r.jC)++tl/\tx~+2<=sizeLine/\pre~<=408/\tl~<=500/\(∀r∈pre,iC r.hd r.jC)/\(pre.Pairwise λa b=>a.rank<=b.rank)/\((k=4/\tl=[]/\yD (lI pre) (inR pre) (lP pre)/\¬ dX (lI pre) (inR pre) (lP pre))\/(k=3/\∃x post,tl=x::post/\x∈dY))
def Bx (f:cE bs ins nds)(no:¬ dX bs ins nds)(h:textOf bs ins nds≠[]):JoinOk "\n" (textOf bs ins nds)=true/\yJ (RM "\n" (textOf bs ins nds)) 4:=by
 !n0:=f.ne (l:=[]) h
 rw[RY]at n0
 @⟨h1,h2,h3⟩:=qM (by !:=f.AM;lia) f.txt h n0
 #⟨h1,⟨rowsOf bs ins nds,[],?_,h3,by !:=f.len;lia,by left,f.row,gq,.inl ⟨U,U,?_,?_⟩⟩⟩
 . rw[h2,RY,eS]
 . rw[ve,vV,wA];#f.ask
 . rw[ve,vV,wA];#no
def By (f:cE bs ins nds)(h:textOf bs ins nds≠[]){x:Str}(hx:x∈dY):JoinOk "\n" (x::textOf bs ins nds)=true/\yJ (RM "\n" (x::textOf bs ins nds)) 3:=by
 !tl:=f.AM
 @⟨h1,h2,h3⟩:=qM (xs:=x::textOf bs ins nds) (by rw[RE];lia) (λy hy=>by
   rcases cv hy with e|hy
   . rw[e];#qS x hx
   . #f.txt y hy) (λz=>nomatch z) (by
   cases e:textOf bs ins nds with
   | nil=>#au e h
   | cons a b=>#v8)
 #⟨h1,⟨[],x::textOf bs ins nds,h2,h3,by left,by rw[RE];lia,(λw z=>nomatch z),.nil,.inr ⟨U,x,_,U,hx⟩⟩⟩
def Bz (f:cE bs ins nds)(h:textOf bs ins nds≠[]){x:Str}(hx:x∈dY):JoinOk "\n" (textOf bs ins nds++[x])=true/\yJ (RM "\n" (textOf bs ins nds++[x])) 3:=by
 !tl:=f.AM
 @⟨h1,h2,h3⟩:=qM (xs:=textOf bs ins nds++[x]) (by rw[Rx];change _+1<=60;lia) (λy hy=>by
   rcases ez hy with hy|hy
   . #f.txt y hy
   . rw[di hy];#qS x hx) (λz=>h (List.append_eq_nil_iff.mp z).1) (f.ne h)
 #⟨h1,⟨rowsOf bs ins nds,[x],?_,h3,by !:=f.len;lia,by change 1<=500;decide,f.row,gq,.inr ⟨U,x,[],U,hx⟩⟩⟩
 rw[h2,eS]
end
def fA.len {bs:aB}{ins:O Str}{nds:O Np}{w:Int}{row:Str}(h:fA bs ins nds w row):row~<=sizeLine:=by
 !key:∀(b:aB) (i:O Str) (n:O Np) (x:Str),cE b i n->x∈textOf b i n->x~<=sizeLine:=λb i n x f hx=>Ry (f.txt x hx).1 (by left)
 cases h with
 | box b hb _=>#key [b] [] [] _ ⟨all1 hb,(λy z=>nomatch z),(λy z=>nomatch z),(λy z=>nomatch z),(by change 1<=6;decide),(by left),(by left)⟩ Ru
 | inp x hx _=>#key [] [x] [] _ ⟨(λy z=>nomatch z),all1 hx,(λy z=>nomatch z),(λy z=>nomatch z),(by left),(by change 1<=6;decide),(by left)⟩ Ru
 | nd e we td _=>#key [] [] [e] _ ⟨(λy z=>nomatch z),(λy z=>nomatch z),all1 we,all1 td,(by left),(by left),(by change 1<=42;decide)⟩ Ru
abbrev Ay:Stmt:=top 61
def rZ (K:Ro):Sp:=λvs H Q z=>∃(a:J) (ns:O Int),vs=[.ref a]/\aH K H a (ns.map V.int)/\ns~<=63/\∀H',Q (.bl true) H'
abbrev fB (b:Str×Int):Str:=RM bG (jh b)
abbrev fI (x:Str):Str:=RM bG (vW x)
abbrev fN (e:Np):Str:=RM bG e.ws
def GI {c:TT}{t u:TS}{D:L2.Ends}{σ:L2.St}{H:Hp}(h:∀T U8:Hp->Prop,(∀H1,t D σ H1->T H1)->(∀H1,u D σ H1->U8 H1)->c σ H (λb H1=>if b=true then T H1 else U8 H1)):EK c t u D σ H:=h _ _ (λy z=>z) (λy z=>z)
section
variable{bs:aB}{ins:O Str}{nds:O Np}
def sE (bs:aB)(ins:O Str)(nds:O Np):(textOf bs ins nds).map V.str=(bs.map fB).map V.str++((ins.map fI).map V.str++(nds.map fN).map V.str):=by
 change(bs.map fB++ins.map fI++nds.map fN).map V.str=_
 rw[RW,RW,SK]
def IS {n:Nat}(h:n=bs~):er ((textOf bs ins nds).map V.str) Z (S (n:Int))=(bs.map fB).map V.str:=by
 rw[sE,vm _ (by rw[Rx,Rn,Rn];lia)]
 #List.take_left' (by rw[Rn,Rn,h])
def IT {n m:Nat}(h:n=bs~)(h2:m=ins~):er ((textOf bs ins nds).map V.str) (S (n:Int)) (S ((n:Int)+(m:Int)))=(ins.map fI).map V.str:=by
 rw[show(n:Int)+(m:Int)=((n+m:Nat):Int)by lia,sE,yT _ (by lia) (by rw[Rx,Rx,Rn,Rn,Rn,Rn];lia),List.drop_left' (by rw[Rn,Rn,h])]
 #List.take_left' (by rw[Rn,Rn];lia)
def IU {n m:Nat}(h:n=bs~)(h2:m=ins~):er ((textOf bs ins nds).map V.str) (S ((n:Int)+(m:Int))) Z=(nds.map fN).map V.str:=by
 rw[show(n:Int)+(m:Int)=((n+m:Nat):Int)by lia,sE,oy _ (by rw[Rx,Rx,Rn,Rn,Rn,Rn];lia),← SK]
 #List.drop_left' (by rw[Rx,Rn,Rn,Rn,Rn];lia)
end
structure Zn (H:Hp)(Z8x z0 z1 z2:J)(A B C:O Str):Prop where
 hZ:H Z8x=S (.lst [.ref z0,.ref z1,.ref z2])
 h0:H z0=S (.lst (A.map V.str))
 h1:H z1=S (.lst (B.map V.str))
 h2:H z2=S (.lst (C.map V.str))
 n0:z0≠Z8x
 n1:z1≠Z8x
 n2:z2≠Z8x
 n01:z0≠z1
 n02:z0≠z2
 n12:z1≠z2
def Zn.go {H H':Hp}{Z8x z0 z1 z2:J}{A B C:O Str}(h:Zn H Z8x z0 z1 z2 A B C)(s:ai H H'):Zn H' Z8x z0 z1 z2 A B C:=⟨s _ _ h.hZ,s _ _ h.h0,s _ _ h.h1,s _ _ h.h2,h.n0,h.n1,h.n2,h.n01,h.n02,h.n12⟩
section
variable{H H':Hp}{Z8x z0 z1 z2 l:J}{A B C X:O Str}
def Zn.Le (h:Zn H Z8x z0 z1 z2 A B C)(s:ai H H')(n:H l=Z)(g:H' l=S (.lst (X.map V.str))):Zn (upd H' Z8x (.lst [.ref l,.ref z1,.ref z2])) Z8x l z1 z2 X B C:=by
 !a:∀z xs,H z=S (.lst xs)->l≠z:=λz xs e k=>by rw[← k,n]at e;cases e
 #⟨ae,by rw[ah (a _ _ h.hZ)];show g,by rw[ah h.n1];show s _ _ h.h1,by rw[ah h.n2];#s _ _ h.h2,a _ _ h.hZ,h.n1,h.n2,a _ _ h.h1,a _ _ h.h2,h.n12⟩
def Zn.Lf (h:Zn H Z8x z0 z1 z2 A B C)(s:ai H H')(n:H l=Z)(g:H' l=S (.lst (X.map V.str))):Zn (upd H' Z8x (.lst [.ref z0,.ref l,.ref z2])) Z8x z0 l z2 A X C:=by
 !a:∀z xs,H z=S (.lst xs)->l≠z:=λz xs e k=>by rw[← k,n]at e;cases e
 #⟨ae,by rw[ah h.n0];show s _ _ h.h0,by rw[ah (a _ _ h.hZ)];show g,by rw[ah h.n2];#s _ _ h.h2,h.n0,a _ _ h.hZ,h.n2,(a _ _ h.h0).symm,h.n02,a _ _ h.h2⟩
def Zn.put2 (h:Zn H Z8x z0 z1 z2 A B C)(s:ai H H')(n:H l=Z)(g:H' l=S (.lst (X.map V.str))):Zn (upd H' Z8x (.lst [.ref z0,.ref z1,.ref l])) Z8x z0 z1 l A B X:=by
 !a:∀z xs,H z=S (.lst xs)->l≠z:=λz xs e k=>by rw[← k,n]at e;cases e
 #⟨ae,by rw[ah h.n0];show s _ _ h.h0,by rw[ah h.n1];show s _ _ h.h1,by rw[ah (a _ _ h.hZ)];#g,h.n0,h.n1,a _ _ h.hZ,h.n01,(a _ _ h.h0).symm,(a _ _ h.h1).symm⟩
def Zn.PN (h:Zn H Z8x z0 z1 z2 A B C):Zn (upd H z0 (.lst (X.map V.str))) Z8x z0 z1 z2 X B C:=⟨by rw[ah h.n0.symm];show h.hZ,ae,by rw[ah h.n01.symm];show h.h1,by rw[ah h.n02.symm];#h.h2,h.n0,h.n1,h.n2,h.n01,h.n02,h.n12⟩
def Zn.PQ (h:Zn H Z8x z0 z1 z2 A B C):Zn (upd H z2 (.lst (X.map V.str))) Z8x z0 z1 z2 A B X:=⟨by rw[ah h.n2.symm];show h.hZ,by rw[ah h.n02];show h.h0,by rw[ah h.n12];#h.h1,ae,h.n0,h.n1,h.n2,h.n01,h.n02,h.n12⟩
def Zn.iG (h:Zn H Z8x z0 z1 z2 A B C):iz [V.ref z0,V.ref z1,V.ref z2] 0=S (.ref z0)/\iz [V.ref z0,V.ref z1,V.ref z2] 1=S (.ref z1)/\iz [V.ref z0,V.ref z1,V.ref z2] 2=S (.ref z2):=⟨rfl,rfl,rfl⟩
end
def oE (k:Nat)(kk:Int)(hk:kk=(k:Int))(i:Nat)(h:i<12):(flags k).take (i+1)=(flags k).take i++[decide (V.int (i:Int)=V.int kk)]:=by
 !e:(flags k)[i]?=S (i==k):=by
   unfold flags
   rw[Sb,List.getElem?_range h]
   rfl
 rw[R9,e]
 !:(i==k)=decide (V.int (i:Int)=V.int kk):=by
   subst hk
   by_cases z:i=k
   . subst z;simp
   . rw[beq_false_of_ne z,gv (λy=>by injection y with y;lia)]
 rw[this]
 rfl
def ee:aC ["script","program","rows","cell","first","second","zones","where","row","at","texts","strange","some"] ["script"] (ao Ay):=eU
def Dd {f:J}{fd:RZ}(F:cD K "law" "law" Ay f fd)(m_len:mg "len"=Z)(m_range:mg "range"=Z)(CE:b7 P w K mg base "_law_cell_at" ["script","k"] 64 (n5 K))(ST:b7 P w K mg base "_law_stir" ["cell","k"] 64 cm)(PR:b7 P w K mg base "_law_program" ["script"] 64 (yd K))(WR:b7 P w K mg base "_law_wrong" ["program","cell","many"] 64 BL)(PU:b7 P w K mg base "_law_put_in" ["rows","row","cell"] 64 (BK K))(RF:b7 P w K mg base "_law_refused" ["text"] 64 yf):aY P w K mg base dq 65 f fd ["script"] (rZ K):=by
 #F.iU ee λcdv A outer s H vs Q E hr h=>?_
 @⟨a,sc,rfl,hS,QW,q⟩:=h
 #ig ⟨_,(Wv (Xj (WA PR hr U (L (Y 0) M)) (L3.zc 2 (WQ (WI 1 ee.nd) (WQ (WI 2 ee.nd) W2))))
   (Wv (Wy 3 ee.nd (WA CE hr U (L (Y 0) (L Ws M))))
   (Wv (Wy 4 ee.nd (WJ WO U m_len RG (L (Wz WM (Y 1) Ws) M)))
   (Wv (Wy 5 ee.nd (Wt WN (Y 4) (WJ WO U m_len RG (L (Wz WM (Y 1) Ws) M))))
   (Wv (Wy 6 ee.nd (WD (L (L3.ED (Y 2) (Y 4)) (L (L3.BH (Y 2) (Y 4) (Y 5)) (L (L3.EC (Y 2) (Y 5)) M)))))
   (Wv (Xj (WA WR hr U (L (Y 1) (L (Y 3) (L (Wt WN (WJ WO U m_len RG (L (Wz WK (Y 6) Ws) M)) Ws) M)))) (Xb 2 (WQ (WI 7 ee.nd) (WQ (WI 8 ee.nd) W2))))
   (Wv (WB (WV (WX (Wx WL (L3.Lk (Y 8) (XB Ws)) Wu) (WX (Wx WL (Y 7) Ws) (WX (Wx Xi (Y 4) Ws) (W6 (Wx WL (Wt WG (WA ST hr U (L (Y 3) (L Ws M))) Ws) Ws)))))) (Wv (Wy 9 ee.nd (Wt WG (WA ST hr U (L (Y 3) (L Ws M))) (Y 4)))
   (Ww (Xj (Wt WS (Wt WS Wu (Wz WM (Wz WK (Wz WM (Y 1) Ws) (Y 9)) Ws)) Wu) (L3.A3 (Wz WK (Y 6) Ws) (Y 9))))) (Wv (WB (WV (WX (Wx WL (Y 7) Ws) (W6 (Wx Xi (WJ WO U m_len RG (L (Wz WK (Y 6) Ws) M)) Ws)))) (Ww (W0 (L3.Bs (Wz WK (Y 6) Ws) (L (Wt WG (WA ST hr U (L (Y 3) (L Ws M))) Ws) M)))) WE)
   (Ww (Xj (WA PU hr U (L (Wz WK (Y 6) (Y 7)) (L (Y 8) (L (Y 3) M)))) (L3.A3 (Y 6) (Y 7))))))
   (Wv (WB (Wx WL (Wt WG (WA ST hr U (L (Y 3) (L Ws M))) Ws) Ws) (Ww (Xj (WD M) (L3.Kk (Y 6) Ws))) WE)
   (Wv (Wy 10 ee.nd (Wt W7 (Wt W7 (Wz WK (Y 6) Ws) (Wz WK (Y 6) Ws)) (Wz WK (Y 6) Ws)))
   (Wv (WB (Wx (L3.wN (m:=2) (dm hr _ (by left))) (Y 10) (WD M)) (Ww (Wy 10 ee.nd (WD (L Wu M)))) WE)
   (Wv (WB (Wx (Xf (m:=2) (dm hr _ (by left))) (WA RF hr U (L (Xv Wu (L (Y 10) M)) M)) (Xk [Z] ["k"] (oa Ay) U (Xu U m_range (L Ws M)) (λy y y y y=>⟨(WI 0 (jr ["k"])),WZ,(L3.Cn WL (Y 0) Ws)⟩))) (Ww (WC Xe)) WE)
   (Wv (Wy 11 ee.nd (Wz WK (WD (L Wu (L Wu (L Wu (L Wu M))))) (Wt WG (WA ST hr U (L (Y 3) (L Ws M))) Ws)))
   (Wv (W8 (WW (WD (L (Wt W7 (WD (L (Y 11) M)) (Y 10)) (L (Wt W7 (Y 10) (WD (L (Y 11) M))) M)))) (WI 12 ee.nd) (Ww (WB (Wx (Xf (m:=2) (dm hr _ (by left))) (WA RF hr U (L (Xv Wu (L (Y 12) M)) M)) (Xk [Z] ["k"] (oa Ay) U (Xu U m_range (L Ws M)) (λy y y y y=>⟨(WI 0 (jr ["k"])),WZ,(L3.Cn WL (Y 0) Ws)⟩))) (Ww (WC Xe)) WE)))
   (Ww (WC Xe))))))))))))))),?_⟩
 #aq λRk kR=>?_
 #⟨_,U,a,sc,U,hS,λL8 p R B I N vb vn bs ins nds H1 s1 gL hp pt pg n40 gR=>?_⟩
 #⟨L8,_,U,aH.of gL,U,_,_,U,_,_,U,U,?_⟩
 !Fo:=Paired.length pt.pb
 !zm:(ins.map V.str)~=ins~:=Rn ..
 #kR _ _ ?_
 #aw [S (.ref a),S (.ref p),S (.ref R),Z,Z,Z,Z,Z,Z,Z,Z,Z,Z] U ?_
 #aq λRk kR=>?_
 #⟨_,U,a,sc,41,U,ai.seq s1 hS,by left,λc=>?_⟩
 #ak (kR _ _ ?_)
 #aw [S (.ref a),S (.ref p),S (.ref R),S (.int c),Z,Z,Z,Z,Z,Z,Z,Z,Z] U ?_
 #aq λRk kR=>?_
 #⟨_,U,?_⟩
 #bR hp U ?_
 #⟨B,_,U,.inl (aH.of pt.hB),?_⟩
 #ak (kR _ _ ?_)
 #aw [S (.ref a),S (.ref p),S (.ref R),S (.int c),S (.int (vb~:Int)),Z,Z,Z,Z,Z,Z,Z,Z] U ?_
 #aq λRk kR=>?_
 #⟨_,U,_,U,?_⟩
 #bR hp U ?_
 #⟨I,_,U,.inl (aH.of pt.hI),_,_,U,U,?_⟩
 #ak (kR _ _ ?_)
 #aw [S (.ref a),S (.ref p),S (.ref R),S (.int c),S (.int (vb~:Int)),S (.int ((vb~:Int)+((ins.map V.str)~:Int))),Z,Z,Z,Z,Z,Z,Z] U ?_
 #aq λRk kR=>?_
 #⟨_,U,_,U,_,U,R,_,U,aH.of gR,λz0 hz0=>?_⟩
 rw[IS Fo]
 @⟨H2,sz0,Mf,zz⟩:=aZ hz0 (.lst ((bs.map fB).map V.str))
 rw[zz];clear zz
 #⟨_,U,_,U,_,U,_,U,_,U,R,_,U,aH.of (sz0 _ _ gR),λz1 hz1=>?_⟩
 rw[IT Fo zm]
 @⟨H3,sz1,Mg,zz⟩:=aZ hz1 (.lst ((ins.map fI).map V.str))
 rw[zz];clear zz
 #⟨_,U,_,U,_,U,R,_,U,aH.of (sz1 _ _ (sz0 _ _ gR)),λz2 KW=>?_⟩
 rw[IU Fo zm]
 @⟨H4,AJ,Mh,zz⟩:=aZ KW (.lst ((nds.map fN).map V.str))
 rw[zz];clear zz
 #⟨YL,λZ8x hZ=>?_⟩
 @⟨H5,sZ,gZ,zz⟩:=aZ hZ (.lst [.ref z0,.ref z1,.ref z2])
 rw[zz];clear zz
 !M0:ai H1 H5:=aa sz0 (aa sz1 (aa AJ sZ))
 !zn:Zn H5 Z8x z0 z1 z2 (bs.map fB) (ins.map fI) (nds.map fN):=by
   !b0:=sz1 _ _ Mf
   !b1:=AJ _ _ b0
   !c1:=AJ _ _ Mg
   #⟨gZ,sZ _ _ b1,sZ _ _ c1,sZ _ _ Mh,ag b1 hZ,ag c1 hZ,ag Mh hZ,ag Mf hz1,ag b0 KW,ag Mg KW⟩
 replace hp:=M0 _ _ hp
 replace pt:=pt.same M0
 #ak (kR _ _ ?_)
 #aw [S (.ref a),S (.ref p),S (.ref R),S (.int c),S (.int (vb~:Int)),S (.int ((vb~:Int)+((ins.map V.str)~:Int))),S (.ref Z8x),Z,Z,Z,Z,Z,Z] U ?_
 #aq λRk kR=>?_
 #⟨_,U,_,U,_,U,?_⟩
 #cH zn.hZ zn.iG.2.2 ?_
 #⟨z2,_,U,.inl (aH.of zn.h2),_,_,U,U,p,c,B,I,N,vb,vn,bs,ins,nds,(by change[V.ref p,V.int c,V.int ((((nds.map fN).map V.str)~:Int)+1)]=_;rw[Rn,Rn]),hp,pt,pg,n40,λt w row H6 s6 gt wr=>?_⟩
 #yC gt ?_
 #kR _ _ ?_
 replace zn:=zn.go s6
 replace hp:=s6 _ _ hp
 replace pt:=pt.same s6
 #aw [S (.ref a),S (.ref p),S (.ref R),S (.int c),S (.int (vb~:Int)),S (.int ((vb~:Int)+((ins.map V.str)~:Int))),S (.ref Z8x),S (.int w),S (.str row),Z,Z,Z,Z] U ?_
 #aq λRk kR=>?_
 suffices hz:∀(o9:Option V) (z0 z1 z2:J) (bs':aB) (ins':O Str) (nds':O Np) (H8:Hp),Zn H8 Z8x z0 z1 z2 (bs'.map fB) (ins'.map fI) (nds'.map fN)->cE bs' ins' nds'->¬ dX bs' ins' nds'->Rk [S (.ref a),S (.ref p),S (.ref R),S (.int c),S (.int (vb~:Int)),S (.int ((vb~:Int)+((ins.map V.str)~:Int))),S (.ref Z8x),S (.int w),S (.str row),o9,Z,Z,Z] H8 by
   #GI λT U8 hT hU=>?_
   !uu:U8 H6:=by
     #hU _ ?_
     #aq λuU kR2=>?_
     cases wr with
     | box b hb Gu=>
       #⟨_,U,U,_,U,bc rfl (bc rfl (kR2 _ _ ?_))⟩
       #⟨_,U,_,U,?_⟩
       #cH zn.hZ zn.iG.1 ?_
       #⟨_,U,_,U,z0,bs.map fB,_,c,U,aH.of zn.h0,(by !:=pg.wr.lb;rw[Rn];lia),λl k H8 s8 nl gl=>?_⟩
       #⟨_,U,_,U,Z8x,_,0,0,U,U,s8 _ _ zn.hZ,U,?_⟩
       !ok:=yL pg n40 k hb Gu
       #hz Z l z1 z2 (mid bs k b) ins nds _ (zn.Le s8 nl (by rw[jM];#gl)) ok.1 ok.2
     | inp x hx Gu=>
       #⟨_,U,U,_,U,bc rfl (bc rfl (kR2 _ _ ?_))⟩
       #⟨_,U,_,U,?_⟩
       #cH zn.hZ zn.iG.2.1 ?_
       #⟨_,U,_,U,z1,ins.map fI,_,c,U,aH.of zn.h1,(by !:=pg.wr.li;rw[Rn];lia),λl k H8 s8 nl gl=>?_⟩
       #⟨_,U,_,U,Z8x,_,1,1,U,U,s8 _ _ zn.hZ,U,?_⟩
       !ok:=yM pg n40 k hx Gu
       #hz Z z0 l z2 bs (mid ins k x) nds _ (zn.Lf s8 nl (by rw[jM];#gl)) ok.1 ok.2
     | nd e we td no=>
       suffices rn:∀(ns:O Np) (H7:Hp),Zn H7 Z8x z0 z1 z2 (bs.map fB) (ins.map fI) (ns.map fN)->(∀e∈ns,e∈nds)->ns~<=nds~->uU [S (.ref a),S (.ref p),S (.ref R),S (.int c),S (.int (vb~:Int)),S (.int ((vb~:Int)+((ins.map V.str)~:Int))),S (.ref Z8x),S (.int 2),S (.str (fN e)),Z,Z,Z,Z] H7 by
         #⟨_,U,U,_,U,b6 ?_⟩
         #⟨_,U,?_⟩
         #cH zn.hZ zn.iG.2.2 ?_
         #⟨z2,_,U,.inl (aH.of zn.h2),_,_,U,U,_,U,?_⟩
         #aG (λcc=>?_) (λy=>rn nds _ zn (λy z=>z) (Rz _))
         !cc:39<nds~:=by
           !:=jg cc
           rw[Rn,Rn]at this
           lia
         #⟨_,U,?_⟩
         #cH zn.hZ zn.iG.2.2 ?_
         #⟨.inl ⟨U,_,aH.of zn.h2⟩,_,U,c,918,U,by left,by left,λj j0 j1=>⟨_,_,U,U,(by change(0:Int)<40;decide),?_⟩⟩
         !m0:=aP (k:=j) (n:=40) (by left)
         !m1:=aQ (k:=j) (n:=40) (by left)
         obtain⟨i,ei⟩ : ∃i,i=j%40:=⟨_,rfl⟩
         rw[← ei]at m0 m1
         !P0:((nds.map fN).map V.str)~=nds~:=by rw[Rn,Rn]
         !il:i.toNat<nds~:=by lia
         #⟨z2,_,_,i.toNat,.str (fN nds[i.toNat]),U,U,zn.h2,?_,?_,?_,?_,?_⟩
         . change -(2^63)<=j%40
           rw[← ei];lia
         . change j%40<2^63
           rw[← ei];lia
         . change Va (j%40) _=_
           rw[← ei]
           #x5 m0 (by rw[P0];lia)
         . rw[Sb,Sb,RQ il]
           rfl
         rw[← gk,← gk]
         #rn (nds.eraseIdx i.toNat) _ zn.PQ (λy z=>List.mem_of_mem_eraseIdx z) (List.length_eraseIdx_le _ _)
       intro ns H7 IQ sub Qe
       #kR2 _ _ ?_
       #⟨_,U,_,U,?_⟩
       #cH IQ.hZ IQ.iG.2.2 ?_
       #⟨_,U,_,U,z2,ns.map fN,_,c,U,aH.of IQ.h2,(by rw[Rn];lia),λl k H8 s8 nl gl=>?_⟩
       #⟨_,U,_,U,Z8x,_,2,2,U,U,s8 _ _ IQ.hZ,U,?_⟩
       !ok:=Cf pg n40 k sub Qe we td no
       #hz Z z0 z1 l bs ins (mid ns k e) _ (IQ.put2 s8 nl (by rw[jM];#gl)) ok.1 ok.2
   #⟨_,U,_,U,_,U,row,U,wr.len,U,_,U,aG (λy=>?_) (λy=>bc rfl uu)⟩
   #⟨_,U,U,_,U,aG (λy=>?_) (λy=>bc rfl uu)⟩
   #⟨_,U,_,_,U,U,_,U,aG (λcf=>?_) (λy=>bc rfl uu)⟩
   #⟨_,U,c,916,U,by left,by left,λj j0 j1=>⟨_,_,U,U,(by change(0:Int)<2;decide),U,_,U,aG (λy=>?_) (λy=>uu)⟩⟩
   #hT _ ?_
   !cf:0<vb~:=by
     !:=jg cf
     lia
   #aq λuU kR2=>?_
   #⟨_,U,c,917,U,by left,by left,λj j0 j1=>⟨_,U,_,_,U,U,(by lia),?_⟩⟩
   obtain⟨i,ei⟩ : ∃i,i=j%(vb~:Int):=⟨_,rfl⟩
   !m0:=aP (k:=j) (n:=(vb~:Int)) (by lia)
   !m1:=aQ (k:=j) (n:=(vb~:Int)) (by lia)
   rw[← ei]at m0 m1
   #ak ?_
   #kR2 _ _ ?_
   #aw [S (.ref a),S (.ref p),S (.ref R),S (.int c),S (.int (vb~:Int)),S (.int ((vb~:Int)+((ins.map V.str)~:Int))),S (.ref Z8x),S (.int w),S (.str row),S (.int i),Z,Z,Z] (by rw[ei];rfl) ?_
   @⟨v,hv,dg⟩:=vc (xs:=vb) m0 m1
   @⟨b,lK,pp,rfl,md⟩:=Paired.get pt.pb hv
   !lb:=(pg.wr.b b (RL lK)).1.l8
   !Qr:(1000000:Nat)<=sizeLine:=by left
   #⟨_,U,?_⟩
   #bR hp U ?_
   #⟨_,U,?_⟩
   #cH pt.hB dg ?_
   #bR md U ?_
   #⟨_,_,U,U,(by change 4+b.1~<=sizeLine;lia),_,_,U,U,(by rw[cU];change 4+b.1~+2<=sizeLine;lia),?_⟩
   #⟨_,U,?_⟩
   #cH zn.hZ zn.iG.1 ?_
   #⟨_,U,z0,_,_,i.toNat,U,U,zn.h0,?_,?_⟩
   . unfold uX
     rw[dI m0,Rn,Rn,dI (by lia)]
   !ok:=vd pg n40 i.toNat lK
   rw[(xJ b.1).1,← List.map_set,← List.map_set]
   #hz _ z0 z1 z2 (bs.set i.toNat (b.1,0)) ins nds _ zn.PN ok.1 ok.2
 intro o9 z0 z1 z2 AZ oO nds3 H8 zn ff no
 #kR _ _ (aq λRk kR=>?_)
 suffices hy:∀(z2:J) (nds3:O Np) (H9:Hp),Zn H9 Z8x z0 z1 z2 (AZ.map fB) (oO.map fI) (nds3.map fN)->cE AZ oO nds3->¬ dX AZ oO nds3->Rk [S (.ref a),S (.ref p),S (.ref R),S (.int c),S (.int (vb~:Int)),S (.int ((vb~:Int)+((ins.map V.str)~:Int))),S (.ref Z8x),S (.int w),S (.str row),o9,Z,Z,Z] H9 by
   #⟨_,U,c,913,U,by left,by left,λj y y=>⟨_,_,U,U,(by change(0:Int)<5;decide),U,_,U,aG (λy=>?_) (λy=>hy z2 nds3 _ zn ff no)⟩⟩
   #⟨YI,λl hl=>?_⟩
   #⟨_,U,Z8x,_,2,2,U,U,(af hl _) _ _ zn.hZ,U,?_⟩
   #hy l [] _ (zn.put2 (af hl _) hl (X:=[]) ae) ff.none.1 ff.none.2
 intro z2 nds3 H9 zn ff no
 #kR _ _ (aq λRk kR=>?_)
 !fb:=ff.lb
 !fi:=ff.li
 !fn:=ff.ln
 #⟨_,U,?_⟩
 #cH zn.hZ zn.iG.1 ?_
 #⟨_,U,?_⟩
 #cH zn.hZ zn.iG.2.1 ?_
 #⟨z0,z1,_,_,U,U,zn.h0,zn.h1,Ry (show _<=1000 by rw[Rn,Rn,Rn,Rn];lia) (by left),λl1 iK=>?_⟩
 @⟨HA,sl1,Kg,zz⟩:=aZ iK (.lst ((AZ.map fB).map V.str++(oO.map fI).map V.str))
 rw[zz];clear zz
 #⟨_,U,?_⟩
 #cH (sl1 _ _ zn.hZ) zn.iG.2.2 ?_
 #⟨l1,z2,_,_,U,U,Kg,sl1 _ _ zn.h2,Ry (show _<=1000 by rw[Rx,Rn,Rn,Rn,Rn,Rn,Rn];lia) (by left),λT0 QX=>?_⟩
 !Kd:(upd HA T0 (.lst ((AZ.map fB).map V.str++(oO.map fI).map V.str++(nds3.map fN).map V.str))) T0=S (.lst ((textOf AZ oO nds3).map V.str)):=by rw[ae,sE,SK]
 generalize upd HA T0 (.lst ((AZ.map fB).map V.str++(oO.map fI).map V.str++(nds3.map fN).map V.str))=HB at Kd ⊢
 #ak (kR _ _ ?_)
 #aw [S (.ref a),S (.ref p),S (.ref R),S (.int c),S (.int (vb~:Int)),S (.int ((vb~:Int)+((ins.map V.str)~:Int))),S (.ref Z8x),S (.int w),S (.str row),o9,S (.ref T0),Z,Z] U ?_
 #aq λRk kR=>?_
 suffices hx:∀(T0:J) (bs4:aB) (ins4:O Str) (nds4:O Np) (HC:Hp),HC T0=S (.lst ((textOf bs4 ins4 nds4).map V.str))->cE bs4 ins4 nds4->¬ dX bs4 ins4 nds4->textOf bs4 ins4 nds4≠[]->Rk [S (.ref a),S (.ref p),S (.ref R),S (.int c),S (.int (vb~:Int)),S (.int ((vb~:Int)+((ins.map V.str)~:Int))),S (.ref Z8x),S (.int w),S (.str row),o9,S (.ref T0),Z,Z] HC by
   #⟨_,U,YI,λz hz=>?_⟩
   @⟨HC,sz,gz,zz⟩:=aZ hz (.lst [])
   rw[zz];clear zz
   #⟨_,RB.nil (aH.of (sz _ _ Kd)) (aH.of gz),_,U,aG (λcc=>?_) (λcc=>?_)⟩
   . #⟨YJ,λT1 QY=>?_⟩
     #ak ?_
     !f1:cE [(("q":Str),(1:Int))] [] []:=⟨all1 ⟨dD "q" (by left),qg (n:=1)⟩,(λy z=>nomatch z),(λy z=>nomatch z),(λy z=>nomatch z),(by left),(by left),(by left)⟩
     !e1:textOf [(("q":Str),(1:Int))] [] []=(["box q 1"]:O Str):=by right
     #hx T1 [("q",1)] [] [] _ (by rw[ae,e1];rfl) f1 f1.none.2 (by rw[e1];#λz=>nomatch z)
   . #hx T0 AZ oO nds3 _ (sz _ _ Kd) ff no (λz=>cc (by rw[z];rfl))
 intro T0 bs4 ins4 nds4 HC gT ff no ne
 #kR _ _ (aq λRk kR=>?_)
 #⟨U,_,U,"\n",T0,textOf bs4 ins4 nds4,U,U,aH.of gT,(Bx ff no ne).1,?_⟩
 @⟨pre,Lu,r1,r2,r3,r4,r5,r6,r7⟩:=(Bx ff no ne).2.ex
 #⟨_,pre,Lu,4,U,r1,r2,r3,r4,r5,r6,r7,λfl HD sD Ke=>?_⟩
 #⟨12,U,by left,by left,λD hD=>?_⟩
 #hV (lo:=0) (n:=12) (λ(i:Nat) Hx=>ai HD Hx/\Hx D=S (.lst (((flags 4).take i).map V.bl))) ⟨af hD _,ae⟩ (λi Hx eE z=>?_) (λHx z=>?_)
 . @⟨sx,gD⟩:=z
   #ak ?_
   #de (A:=λH5=>dJ _ D _ H5 _) ?_
   #⟨_,U,U,_,gD,aW (by rw[Rn,R8];lia),bq (Pv:=λ(i:Nat) Hx=>ai HD Hx/\Hx D=S (.lst (((flags 4).take i).map V.bl))) (by repeat' constructor) eE ⟨bo sx hD,?_⟩⟩
   rw[ae,oE 4 4 rfl i eE,RW,Int.zero_add]
   rfl
 @⟨sx,gD⟩:=z
 !gD:Hx D=S (.lst ((flags 4).map V.bl)):=gD
 #⟨_,RB.LY (sx _ _ Ke) gD,_,U,bc (by rw[hW rfl];rfl) ?_⟩
 replace gT:=sx _ _ (sD _ _ gT)
 #kR _ _ (aq λRk kR=>?_)
 #⟨YM,λl0 CF=>?_⟩
 @⟨HE,Qt,Kf,zz⟩:=aZ CF (.lst [V.str "say q",V.str "",V.str "end 0",V.str "test q 0 0"])
 rw[zz];clear zz
 #⟨_,U,c,914,U,by left,by left,λj y y=>⟨_,_,U,U,(by change(0:Int)<4;decide),?_⟩⟩
 @⟨x,_,eF,dg⟩:=bU V.str dY (r:=j%4) (aP (by left)) (aQ (by left))
 #cH Kf dg ?_
 #ak (kR _ _ ?_)
 #aw [S (.ref a),S (.ref p),S (.ref R),S (.int c),S (.int (vb~:Int)),S (.int ((vb~:Int)+((ins.map V.str)~:Int))),S (.ref Z8x),S (.int w),S (.str row),o9,S (.ref T0),S (.str x),Z] U ?_
 replace gT:=Qt _ _ gT
 !tl:=ff.AM
 #aq λRk kR=>?_
 #⟨_,U,YJ,λa1 F9=>?_⟩
 @⟨HG,sa1,Oo,zz⟩:=aZ F9 (.lst [.str x])
 rw[zz];clear zz
 #⟨_,U,a1,T0,_,_,U,U,Oo,sa1 _ _ gT,Ry (show _<=1000 by rw[Rn];change 1+_<=1000;lia) (by left),λm1 hm1=>?_⟩
 @⟨HI,sm1,Ki,zz⟩:=aZ hm1 (.lst ([V.str x]++(textOf bs4 ins4 nds4).map V.str))
 rw[zz];clear zz
 #⟨_,U,_,U,YJ,λa2 Ga=>?_⟩
 @⟨HJ,sa2,Oq,zz⟩:=aZ Ga (.lst [.str x])
 rw[zz];clear zz
 #⟨T0,a2,_,_,U,U,sa2 _ _ (sm1 _ _ (sa1 _ _ gT)),Oq,Ry (show _<=1000 by rw[Rn];change _+1<=1000;lia) (by left),λm2 hm2=>?_⟩
 @⟨HK,sm2,Kj,zz⟩:=aZ hm2 (.lst ((textOf bs4 ins4 nds4).map V.str++[V.str x]))
 rw[zz];clear zz
 #⟨YK,λLm OH=>?_⟩
 @⟨HF,Nb,Oj,zz⟩:=aZ OH (.lst [.ref m1,.ref m2])
 rw[zz];clear zz
 !g1:HF Lm=S (.lst [.ref m1,.ref m2]):=Oj
 !g2:HF m1=S (.lst ((x::textOf bs4 ins4 nds4).map V.str)):=Nb _ _ (sm2 _ _ (sa2 _ _ Ki))
 !g3:HF m2=S (.lst ((textOf bs4 ins4 nds4++[x]).map V.str)):=by
   rw[RW]
   #Nb _ _ Kj
 #⟨Lm,U,⟨_,aH.of g1⟩,?_⟩
 #dG (xs:=[.ref m1,.ref m2]) (λi σ Hx=>(∃K8,σ=[S (.ref a),S (.ref p),S (.ref R),S (.int c),S (.int (vb~:Int)),S (.int ((vb~:Int)+((ins.map V.str)~:Int))),S (.ref Z8x),S (.int w),S (.str row),o9,S (.ref T0),S (.str x),K8])/\ai HF Hx) ⟨⟨_,U⟩,λy y z=>z⟩ (λi σ Hx y z=>aH.of (z.2 _ _ g1)) (λi x0 σ Hy hx0 z=>?_) (λσ Hy z=>?_)
 rotate_left
 . @⟨⟨K8,rfl⟩,_⟩:=z
   #kR _ _ ?_
   #q _
 @⟨⟨K8,rfl⟩,sy⟩:=z
 obtain⟨m,ts,rfl,gm,jo,sp⟩ : ∃(m:J) (ts:O Str),x0=.ref m/\Hy m=S (.lst (ts.map V.str))/\JoinOk "\n" ts=true/\yJ (RM "\n" ts) 3:=by
   match i,hx0 with
   | 0,hx0=>
     cases hx0
     #⟨m1,_,U,sy _ _ g2,(By ff ne eF).1,(By ff ne eF).2⟩
   | 1,hx0=>
     cases hx0
     #⟨m2,_,U,sy _ _ g3,(Bz ff ne eF).1,(Bz ff ne eF).2⟩
   | i+2,hx0=>#au hx0 (by simp)
 #ak ?_
 #aw [S (.ref a),S (.ref p),S (.ref R),S (.int c),S (.int (vb~:Int)),S (.int ((vb~:Int)+((ins.map V.str)~:Int))),S (.ref Z8x),S (.int w),S (.str row),o9,S (.ref T0),S (.str x),S (.ref m)] U ?_
 #⟨U,_,U,"\n",m,ts,U,U,aH.of gm,jo,?_⟩
 @⟨pre,Lu,r1,r2,r3,r4,r5,r6,r7⟩:=sp.ex
 #⟨_,pre,Lu,3,U,r1,r2,r3,r4,r5,r6,r7,λfl HD sD Ke=>?_⟩
 #⟨12,U,by left,by left,λD hD=>?_⟩
 #hV (lo:=0) (n:=12) (λ(i:Nat) Hx=>ai HD Hx/\Hx D=S (.lst (((flags 3).take i).map V.bl))) ⟨af hD _,ae⟩ (λi Hx eE z=>?_) (λHx z=>?_)
 . @⟨sx,gD⟩:=z
   #ak ?_
   #de (A:=λH5=>dJ _ D _ H5 _) ?_
   #⟨_,U,U,_,gD,aW (by rw[Rn,R8];lia),bq (Pv:=λ(i:Nat) Hx=>ai HD Hx/\Hx D=S (.lst (((flags 3).take i).map V.bl))) (by repeat' constructor) eE ⟨bo sx hD,?_⟩⟩
   rw[ae,oE 3 3 rfl i eE,RW,Int.zero_add]
   rfl
 @⟨sx,gD⟩:=z
 !gD:Hx D=S (.lst ((flags 3).map V.bl)):=gD
 #⟨_,RB.LY (sx _ _ Ke) gD,_,U,bc (by rw[hW rfl];rfl) ?_⟩
 #⟨⟨_,U⟩,aa sy (aa sD sx)⟩
end
end TW
namespace TW
open PySem L2
def vF {ts:O J}:((bZ.map (·.1)).zip (ts.map V.ref)).lookup ("":Str)=Z:=by
 rw[List.lookup_eq_none_iff]
 intro p hp
 !h1:=(UR (a:=p.1) (b:=p.2) hp).1
 !key:∀x∈bZ.map (·.1),(("":Str)==x)=false:=by right
 !:=key p.1 h1
 simpa using this
def oV {x:Str}{st:Stmt}{ps:O Str}{k:Nat}{sp:Sp}{P:Program}{w:World}{K:Ro}{mg:Str->Option Value}{base:Heap}(s:Src K mg x st)(h:∀{f fd},cD K x x st f fd->aY P w K mg base dq k f fd ps sp)(b:∀{f fd},cD K x x st f fd->Binds K fd ps []:=by intro f fd F;first|show lH F λz z z z z z z z=>rfl|show lG F λz z z z z z z=>rfl|show Ci F λz z z z z z z z z=>rfl|show Cj F λz z z z z z z z z z=>rfl):b7 P w K mg base x ps k sp:=let⟨f,fd,F,m⟩:=s;⟨f,fd,h F,F.kp,b F,m⟩
def Cd {P:Program}{w:World}{K:Ro}{mg:Str->Option Value}{fa:J}(hfa:mg "law"=S (.ref fa))(t:FG w K mg) :
   ∃fd:RZ,(∀(s:Shared) (u:Value),BindsTo s fd ⟨[u],[]⟩ [("script",u)])/\∀base:Heap,K.In base->base.Ns SD mg->aY P w K mg base dq 65 fa fd ["script"] (rZ K):=by
 @⟨f,fd,F,m⟩:=t.s_law
 !e:=hfa.symm.trans m
 cases e
 #⟨fd,λs u=>?_,λbase z z=>?_⟩
 . @⟨oc,od,kV,doc,pm,an,cdv,ct,osl,rfl,lk,hcd⟩:=F.ex
   #.of_eq rfl
 @⟨T,aV,aI,aL,aM,aj,aE,aU,aD,aT,aK,aJ,R⟩:=t.cl
 @⟨Cb,hSS,dSS⟩:=t.c_SIGN_SUMS
 @⟨uV,hST,dST⟩:=t.c_SIGN_TESTS
 @⟨aR,hR,dR⟩:=t.c_RANKS
 @⟨aF,ts,hF,dF0,pF⟩:=t.c_FORMS
 !dF:fV w K aF:=fV.of dF0 pF
 !CE:b7 P w K mg base "_law_cell_at" ["script","k"] 1 (n5 K):=oV t.s_law_cell_at λF=>zJ F t.m_len
 !ST:b7 P w K mg base "_law_stir" ["cell","k"] 1 cm:=oV t.s_law_stir λF=>zS F
 !NU:=oV (P:=P) (w:=w) (base:=base) t.s_law_number λF=>De F ST
 !SM:=zg t.s_law_sum t.m_len ST NU
 !CO:=vK t.s_law_condition ST (SM 3)
 !GS:=oV (P:=P) (w:=w) (base:=base) t.s_law_grown_sum λF=>G5 F t.m_len t.m_range ST
 !GC:=oV (P:=P) (w:=w) (base:=base) t.s_law_grown_condition λF=>G4 F t.m_range ST
 !LW:∀n,b7 P w K mg base "_law_word" ["thing"] (n+1) (ph n):=Cz t.s_law_word t.m_str t.m_int
 !AS:=oV (P:=P) (w:=w) (base:=base) t.s_law_any_sum λF=>G3 F (SM 4) GS
 !AC:=oV (P:=P) (w:=w) (base:=base) t.s_law_any_condition λF=>G2 F (SM 4) GS (CO 4) GC
 !NO:=oV (P:=P) (w:=w) (base:=base) t.s_law_node λF=>zL F t.m_len t.m_str ST AS AC (LW 30)
 !NS:=oV (P:=P) (w:=w) (base:=base) t.s_law_names λF=>wW F t.m_len t.m_range ST
 !PR:=oV (P:=P) (w:=w) (base:=base) t.s_law_program λF=>zM F t.m_len t.m_range t.m_list t.m_str t.m_sum t.m_enumerate (CE.mono (by left)) (NS.mono (by left)) (ST.mono (by left)) NO
 @⟨C,cR,iR,P7,P9,P4,P8,P6,P5⟩:=t.k_Reader
 !R5:=cR.rd
 !JE:oi P w K mg base "Reader" C ["self","word"] 1 (i3 C):=pV cR iR
 !SI:bN P w K mg base C "sign" ["self"] 1 (bW C):=tO P7 R5
 !TA:=pS P9 R5 SI
 !DU:=vL P4 R5 TA
 !LV:=vN P8 R5 SI
 !LR:=vM P6 R5 t.m_len t.m_int t.c_FIGURES t.c_MOST_FIGURES LV
 !LQ:=tM P5 R5 t.m_len t.c_LETTERS t.c_MOST_LETTERS LV
 !NF:=oV (P:=P) (w:=w) (base:=base) t.s_read_atom λF=>wX F R5 t.c_FIGURES SI LR LQ
 !LS:=oV (P:=P) (w:=w) (base:=base) t.s_read_sum λF=>zQ F R5 t.m_len hSS dSS SI TA DU NF
 !NH:=pT t.s_read_test R5 hST dST R.x_NoRow SI LS
 !JD:=pQ t.s_read_condition R5 t.m_len SI DU NH
 !NI:=pU t.s_read_word R5 t.m_len R.x_NoRow JE LR LQ LS JD
 !NG:=tN t.s_read_row t.m_len t.m_zip t.m_tuple hF dF ⟨_,dF0,vF⟩ R.x_NoRow NI
 !AK:b7 P w K mg base "all_known" ["known","told"] 21 (cC 20):=pP t.s_all_known t.c_NAMELESS t.c_PARTED 20
 !RU:=oI t.s_refuse_unknown R.x_NoProgram AK
 !LE:b7 P w K mg base "leads_of" ["node"] 1 jV:=oV t.s_leads_of λF=>wV F
 !TB:b7 P w K mg base "told_by" ["node"] 1 i7:=oV t.s_told_by λF=>uq F
 !RX:=tP (P:=P) (w:=w) (base:=base) t.s_refuse_boxes R.x_NoProgram t.m_len t.m_set
 !RI:=tQ (P:=P) (w:=w) (base:=base) t.s_refuse_inputs R.x_NoProgram t.m_len t.m_set
 !RN:=tS t.s_refuse_nodes R.x_NoProgram t.m_len (LE.mono (by left)) (TB.mono (by left)) (RU.mono (by left))
 !PO:=oH t.s_program_of t.m_list (RX.mono (by left)) (RI.mono (by left)) (RN.mono (by left))
 !PP:=oG t.s_picked_program PO
 !RP:=pR t.s_read_program hR dR t.c_NODE_RANK R.x_NoRow NG PP
 !RF:=oV (P:=P) (w:=w) (base:=base) t.s_law_refused λF=>zR F R t.m_isinstance t.m_ValueError RP
 !WR:=oV (P:=P) (w:=w) (base:=base) t.s_law_wrong λF=>Dh F t.m_len t.m_str ST
 !PU:=oV (P:=P) (w:=w) (base:=base) t.s_law_put_in λF=>Df F t.m_len ST
 #Dd F t.m_len t.m_range (CE.mono (by left)) (ST.mono (by left)) (PR.mono (by left)) (WR.mono (by left)) (PU.mono (by left)) (RF.mono (by left))
end TW
namespace TW
open PySem L2
def walk {l:PySem.W.OpenLaw}{q:Program}{loose:O Str}{XP:(Str->Option Value)->Heap->Prop}{YP:World->Heap->Prop}{d:DefRec}{K:Params->Ro}(hn:l.most=S 63)(hdf:d.params.defaults=[])
   (hY:∀(w:World) (h:Heap),YP w h->(K w.params).In h)
   (F:∀(w:World) (mg:Str->Option Value) (fa:J) (h:Heap),(K w.params).In h->h.Ns SD mg->mg d.name=S (.ref fa) ->
     ∃fd:RZ,(∀(s:Shared) (u:Value),BindsTo s fd ⟨[u],[]⟩ [("script",u)])/\∀base:Heap,(K w.params).In base->base.Ns SD mg->aY l.prog w (K w.params) mg base dq 65 fa fd ["script"] (rZ (K w.params))) :
   PySem.W.WalkO q loose XP YP l.row.toRowW d [] (λf vs=>PySem.call f vs):=
 L2.AQ (n:=63) (k:=65) (x:="script") (CX:=λy=>dq) (sp:=λw=>rZ (K w.params)) hn (by left) hdf ⟨rfl,by left,by left⟩ hY F (λy y a ns hl y hS=>⟨a,ns,rfl,hS,hl,λy=>rfl⟩) λy y y y y z=>z
end TW
namespace PySem.W.Fast
open Lean in
local macro"tw"ns:num*:command=>return⟨mkNullNode (<-ns.mapM fun n=>do let i:=mkIdent (.mkSimple s!"tw{n.getNat}");`(def $i:ident:=0))⟩
tw 10058315673205378923 10058425504349448443 10099668013336052068 10126040738276722252 10167379579683628960 10169607078447614474 10180189762686791030 10190658376070890478 10224413315833059358 10252430739505534201 10258461438411031387 10270065989098406461 10279678729182521288 10280893202556216642 10390359785065445662 10424390864558749176 10456274227320107950 10546976016260081221 10560339735910447421 10638507077428319438 10643491860118860356 10774708202950135331 10880313489750187986 10885906874349212042 10930827607797286371 10973720724771317771 11000338890757696130 11053866467742153576 11078092635532646097 11108491304754112139 11203918459232754158 11271346347696482633 11303914052792318909 11317437389966275730 11364337809642134448 11371699963769161313 11411680187840507935 11512961993199362117 11522746884075853256 11613256509649821586 11621040211984279985 11679488804621937932 11790145704018243537 11798311217491991027 11805533241676814499 11886561742229178414 1190183032635118016 11933511321420971210 11988399204160731484 12022291340484643427 12024670958858612905 12030011834153654135 12035804537491725143 12171330588861857358 12205255063461457199 12214859039399495625 12217686697022938727 12219564598167816976 12225068496096101496 12226316479988447241 12241623976085152084 12521414384619316796 12553849044096835886 12560888739884246249 12571874635516482104 12650656557364292936 12724512721955171172 12732350414372396022 12772871092189510345 1280919591471941498 12814658024015614274 12829026713971421054 12855179383434101376 12855248996097054380 12906752515068088503 12925518736590149331 12958371851956608172 12959661629527926589 12971173281972376546 12974133242872091962 13025104491424454556 13050957790504600893 13059781772046338333 13065220652977659374 1307007125480459981 13109334357482169065 13115940269520343727 13185426783351414865 13188383233809570439 13195160926476480021 13198286180876026658 13201858306915300593 13251738858576356125 13284422568807119992 13295831216170549296 13391592944920274384 13413927435598028479 13430405569354652755 13461812455985941174 13472919961363625260 13507732184358812335 13542633691964583974 13550122452091494883 13558352608327560943 13567328325490583212 13589725121044308273 13605625270571918979 13621251556089292572 13670103592544497260 13800843984467357157 13815187434389909779 13853244719270801971 1389376979456190366 13927924164798575014 13962404419233960585 14014798927754964832 14072419209613633948 14076023504440550920 14115308984692809727 14284560814682107761 14297337693012748843 14304868568707655580 14325005504245311868 14411611546966620765 14463088267709629143 14534232896185705914 1455174100859214033 14663188443072203857 14730865920469752410 14738335940357008796 14751651412680882531 14758091920894903561 14768471573002902047 14801434444439533938 14853558879040376633 14858698552305162370 14860037155858361158 14910131532761181218 14964032814032467864 1497188189881427329 1499592927401878049 15018455167143188156 15030434978609217050 15083324685843759567 15196738735448789291 15289298141928714878 15312488975931879065 15352356368034922838 15362518914388304237 15384212024714216130 1539533598467199951 1539580596903701105 15420450903943639833 15424049548326693078 15474731158391700227 15504506371914938136 15536626031607227615 15583640344121351762 15622909683504161893 15639868153737188601 15659800338573241 15662688197219841937 15702152963854425427 15707664577804269929 15738014704899549372 15747432912573127767 15875862391693545155 1591668027720127986 15923423687522542116 15923739320108943364 15981718982308012778 16006062590172412881 16030763091839831002 16040849997551268543 16070575145943915446 16139189784298113023 16146173984139908453 16147710332715490232 16268571162700795449 16334132401615456449 16343759733058451515 1635936937265147935 16374037015450336724 16398012977879614131 16416718558420980284 16420378274138920003 16454437962572863386 16572853341496610531 16581280996648860706 16603884785413895676 16616494034227598553 16710288965568636214 16723884633437113952 16739618018357230039 16754894218029917366 16841745059330572844 16920876557783301202 1692137331476015445 16922657769026073612 16934998765504523506 16955857152345208868 17012603116687889170 17037009610373588981 17061112504390530727 17071953581173321337 17087765227570194418 17200657052456353892 17273051645437650879 17328301494446102881 1733729442802719000 17461420836924350003 17558704902144650487 17578459905522309259 17606299276549109740 17610208323622788928 17623534786322293814 17626270697282815442 17681672723933292774 17729983450155234448 17741610516802252582 17825532576157378260 17854670777011669111 17856362087817566058 17881841455556262745 17892593651629863016 17892949517496630759 17936105745437994503 17938716463974909273 17939679058541332292 1796860868449158097 18056811552343771017 18075825203664605389 18084409022578679910 18093453562178368868 18117043450983882878 18152909130489118781 18173475624304959613 18217712499974178141 18234844702374534710 18247915644538975187 18332989045169424798 18343348723343469853 18371961978956828783 18382392351631643356 1855457691546223269 1999548495451627601 2066792093668389746 209318984881948417 2162060750284523643 21793638618687956 2238199710067747458 2280725703155008306 2436514467267483678 2647372111147583536 265170086992137904 2677282968558129432 2696339426544107671 2736706210633840827 2771435314829289802 2817238431437240257 283352149664782353 2864708748029334050 2907612056557853447 2955958784666941692 2960824819623542509 2960936373522448205 2982405400170911414 3011535597764496072 3054867677715355886 3073571839325869208 312869728493242061 3138281807513658649 3138902743919880767 3153334259151502622 3205568377894014032 3215200938642119076 3222011879992462549 3234462376608470368 326746213265202538 3301326017786871089 3309178060072360303 3328543729774877308 3333389057487798977 3350829340738250999 3369734773328151171 339738509456703920 3490561128197043767 3492323994853025079 3495173113275400346 3605258368380531311 3669981887639252120 3671531322385134525 3738374276094194124 3805928592216920092 3819924972452954542 3820895054709843152 386662250869550633 3956055875637339961 3958551109262300917 3959741636002624462 404935360530626058 4066317607545313414 4080924896186909865 4107745546727230457 4177767871726208193 42316256332212812 4260055466038237896 4335398583393665585 4360143487862977056 4367211350122475047 4408394621240076593 4410325651317767284 4474566933329267971 4588054263517928722 4631277752847313887 4697058915763805931 4760250626858778674 478689450077770639 4816618258302014720 4843726444490325943 4863457666639457619 486887556028874074 4916975398114417412 4967883293858630471 503748357396005238 5085362974618063237 5139785244248855008 5150067141597800826 5152170912907991671 5198958855709881010 5237055759443586575 5242585765078370264 5263809313611222492 5269945610817351744 5371054231069403124 5385865141985289787 5399983366105008416 5437200815487495111 5494604293653407340 5505813367960828604 5682326172061092894 5699607376423287874 5727626805918529573 5737738847158152015 5753881234109884777 5818013027615032821 5849054094011806622 5851143466265000783 5878169562147798558 5891007254677512661 5913009642661829674 5922747387358268257 6007771244927551138 6050764137236637232 6056699170575354691 6068924236570720326 6077982885772938216 6085622027577696176 6100477204543079476 6100965059419948029 612616652894840869 6176789394597106861 6292457136913258110 6325891552859330517 6412396235558189324 6435404426608264756 644587990425793607 6452658806021261451 6463151407979995068 6464211408978932087 6481513514042836028 6598558252406161743 6623254159569190490 663396314116384893 6673472712235408828 6778789718009116890 68884814688588800 6892344381704422455 6907831748324433326 6922879066279344932 6960308639808357463 6971565498558574525 7094379822929361024 7175128766399467591 7207571379782773104 7232298345372651741 7234932652422726316 724263568954470817 7276032848230883511 728542806160947758 7309592329822717512 7457782161119763372 7546677026531781919 7566631512267274257 7591594832488716123 7622296731017243061 7645796894986954680 7710400959342709867 7749039205401458135 7808956788802233151 7814843383554847416 7877313647480650585 7929674599182137121 7976452281103873106 800245043599037353 8004229446476524047 8082654425432415271 8083293702176913044 8148523330679297303 8173970200310976662 8233971713229563820 8272904942404643171 8284871018949125260 8330108601183221799 8444572785386892330 8451413730171356989 847467911959741175 8581038476807956192 8591611324418713697 8604503605193559154 8615175303504173563 8628027103153919125 8654951958574427513 8658516612989557881 8703899588833340070 873049141822628040 8750380655156889280 88944556546054719 8914504388434618896 894787287973331639 8950449674599005784 9038942647221089611 9051715707932240167 9103269440939531867 912937587665485117 9138829914125993985 9154580384318628132 9218260237986777356 9224944937578383985 9265735272242842825 9295437799676848065 9310113877525196089 931965946140597197 9351002621857610216 9394522812730378367 9422342144662692179 9428275624701195720 9548443183533701812 9589148490341137395 9591217164476653526 9616387831725034179 9638628050081771369 9690501337801596872 970485538833343141 9740905466826400027 9941422262809747559
end PySem.W.Fast
open PySem PySem.W PyProof.Rows
set_option maxRecDepth 100000 in
set_option maxHeartbeats 0 in
theorem PySem.Challenge.cw_twinwalk_k73_rows_of_no_program_holds : PySem.Challenge.rw_twinwalk_k73_rows_of_no_program.Holds := by
 w_on;o_law;k_head;(case hw=>w_witness2)
 k_fill
 show TW.walk (l:=PySem.Challenge.rw_twinwalk_k73_rows_of_no_program) rfl rfl (fun w h Y8=>PySem.W.kIn_of Y8) ?F
 case F=>
   intro w mg fa h KX G hmg
   show TW.Cd hmg ?_
   refine' (⟨TW.bb KX G ?_ ?_ ?_ ?_,TW.bb KX G ?_ ?_ ?_ ?_,TW.bb KX G ?_ ?_ ?_ ?_,TW.bb KX G ?_ ?_ ?_ ?_,TW.bb KX G ?_ ?_ ?_ ?_,TW.bb KX G ?_ ?_ ?_ ?_,TW.bb KX G ?_ ?_ ?_ ?_,TW.bb KX G ?_ ?_ ?_ ?_,TW.bb KX G ?_ ?_ ?_ ?_,TW.bb KX G ?_ ?_ ?_ ?_,TW.bb KX G ?_ ?_ ?_ ?_,TW.bb KX G ?_ ?_ ?_ ?_,TW.bb KX G ?_ ?_ ?_ ?_,TW.bb KX G ?_ ?_ ?_ ?_,TW.bb KX G ?_ ?_ ?_ ?_,TW.bb KX G ?_ ?_ ?_ ?_,TW.bb KX G ?_ ?_ ?_ ?_,TW.bb KX G ?_ ?_ ?_ ?_,TW.bb KX G ?_ ?_ ?_ ?_,TW.bb KX G ?_ ?_ ?_ ?_,TW.bb KX G ?_ ?_ ?_ ?_,TW.bb KX G ?_ ?_ ?_ ?_,TW.bb KX G ?_ ?_ ?_ ?_,TW.bb KX G ?_ ?_ ?_ ?_,TW.bb KX G ?_ ?_ ?_ ?_,TW.bb KX G ?_ ?_ ?_ ?_,TW.bb KX G ?_ ?_ ?_ ?_,TW.bb KX G ?_ ?_ ?_ ?_,TW.bb KX G ?_ ?_ ?_ ?_,TW.bb KX G ?_ ?_ ?_ ?_,TW.bb KX G ?_ ?_ ?_ ?_,TW.bb KX G ?_ ?_ ?_ ?_,TW.bb KX G ?_ ?_ ?_ ?_,TW.sH KX G ?_ ?_ ?_ ?_ ?_,TW.sH KX G ?_ ?_ ?_ ?_ ?_,⟨_,Sx KX G ?_⟩,⟨_,Sx KX G ?_⟩,⟨_,Sx KX G ?_⟩,⟨_,Sx KX G ?_⟩,⟨_,Sx KX G ?_,TW.rE ?_ ?_ ?_ ?_⟩,⟨_,Sx KX G ?_,TW.rE ?_ ?_ ?_ ?_⟩,⟨_,[?_,?_,?_,?_,?_,?_,?_],Sx KX G ?_,TW.rE ?_ ?_ ?_ ?_,(.cons (TW.tw_mk ?_ ?_ ?_) (.cons (TW.tw_mk ?_ ?_ ?_) (.cons (TW.tw_mk ?_ ?_ ?_) (.cons (TW.tw_mk ?_ ?_ ?_) (.cons (TW.tw_mk ?_ ?_ ?_) (.cons (TW.tw_mk ?_ ?_ ?_) (.cons (TW.tw_mk ?_ ?_ ?_) .nil)))))))⟩,⟨_,Sx KX G ?_,TW.rE ?_ ?_ ?_ ?_⟩,⟨_,Sx KX G ?_⟩,⟨_,⟨Sx KX G ?_,⟨?_,?_,?_,?_⟩,⟨?_,?_,trivial⟩⟩,⟨_,_,L2.fD ?_ ?_ ?_,⟨?_,?_,?_,?_⟩⟩,⟨_,_,L2.fD ?_ ?_ ?_,⟨?_,?_,?_⟩⟩,⟨_,_,L2.fD ?_ ?_ ?_,⟨?_,?_,?_⟩⟩,⟨_,_,L2.fD ?_ ?_ ?_,⟨?_,?_,?_⟩⟩,⟨_,_,L2.fD ?_ ?_ ?_,⟨?_,?_,?_⟩⟩,⟨_,_,L2.fD ?_ ?_ ?_,⟨?_,?_,?_⟩⟩,⟨_,_,L2.fD ?_ ?_ ?_,⟨?_,?_,?_⟩⟩⟩,⟨_,_,_,_,_,_,_,_,_,_,_,_,TW.fz KX G ?_ ?_ ?_ ?_,TW.fz KX G ?_ ?_ ?xl_NoPair ?_,TW.dP ?_ ?_ ?_ ?xhn ?xtk ?_ ?_ ?xl_NoPair,?_,?_,?_,?_,?_,?_,?_,?_,?_,?_,?_,?_,?_,TW.fz KX G ?_ ?_ ?xl_NoPaper ?_,TW.dP ?_ ?_ ?_ ?xhn ?xtk ?_ ?_ ?xl_NoPaper,?_,?_,?_,?_,?_,?_,?_,?_,?_,?_,?_,?_,?_,TW.fz KX G ?_ ?_ ?xl_TooMany ?_,TW.dP ?_ ?_ ?_ ?xhn ?xtk ?_ ?_ ?xl_TooMany,?_,?_,?_,?_,?_,?_,?_,?_,?_,?_,?_,?_,?_,TW.fz KX G ?_ ?_ ?xl_NoRow ?_,TW.dP ?_ ?_ ?_ ?xhn ?xtk ?_ ?_ ?xl_NoRow,?_,?_,?_,?_,?_,?_,?_,?_,?_,?_,?_,?_,?_,TW.fz KX G ?_ ?_ ?xl_NoProgram ?_,TW.dP ?_ ?_ ?_ ?xhn ?xtk ?_ ?_ ?xl_NoProgram,?_,?_,?_,?_,?_,?_,?_,?_,?_,?_,?_,?_,?_,TW.fz KX G ?_ ?_ ?xl_NoWorths ?_,TW.dP ?_ ?_ ?_ ?xhn ?xtk ?_ ?_ ?xl_NoWorths,?_,?_,?_,?_,?_,?_,?_,?_,?_,?_,?_,?_,?_,TW.fz KX G ?_ ?_ ?xl_NoNode ?_,TW.dP ?_ ?_ ?_ ?xhn ?xtk ?_ ?_ ?xl_NoNode,?_,?_,?_,?_,?_,?_,?_,?_,?_,?_,?_,?_,?_,TW.fz KX G ?_ ?_ ?xl_NoChange ?_,TW.dP ?_ ?_ ?_ ?xhn ?xtk ?_ ?_ ?xl_NoChange,?_,?_,?_,?_,?_,?_,?_,?_,?_,?_,?_,?_,?_,TW.fz KX G ?_ ?_ ?xl_NoForm ?_,TW.dP ?_ ?_ ?_ ?xhn ?xtk ?_ ?_ ?xl_NoForm,?_,?_,?_,?_,?_,?_,?_,?_,?_,?_,?_,?_,?_,TW.fz KX G ?_ ?_ ?xl_NoneYet ?_,TW.dP ?_ ?_ ?_ ?xhn ?xtk ?_ ?_ ?xl_NoneYet,?_,?_,?_,?_,?_,?_,?_,?_,?_,?_,?_,?_,?_,TW.fz KX G ?_ ?_ ?xl_NoPicks ?_,TW.dP ?_ ?_ ?_ ?xhn ?xtk ?_ ?_ ?xl_NoPicks,?_,?_,?_,?_,?_,?_,?_,?_,?_,?_,?_,?_,?_⟩,So KX G ?_,So KX G ?_,So KX G ?_,So KX G ?_,So KX G ?_,So KX G ?_,So KX G ?_,So KX G ?_,So KX G ?_,So KX G ?_,So KX G ?_,So KX G ?_⟩ : TW.FG _ _ _)
   (try any_goals first|k_is|k_exc|rfl|((repeat (first|show TW.xy|show TW.rN ⟨_,rfl⟩ rfl ?_|show TW.rN ⟨_,rfl⟩ ⟨_,rfl⟩ ?_));done))
   (try any_goals first|k_is|k_exc|rfl|((repeat (first|show TW.xy|show TW.rN ⟨_,rfl⟩ rfl ?_|show TW.rN ⟨_,rfl⟩ ⟨_,rfl⟩ ?_));done))
   all_goals first|kit_is|decide|rfl|show⟨_,rfl⟩|(k_keys;done)|(repeat' constructor)
