import PyProof.Rows.All
import Wide.All
import OpenK.AllK
import Wide.FinOn
import Lean
import PyProof.EqAt
import PyProof.EqKinds
import PyProof.TupleCall
import PySem.Challenge.RW_twinwalk_k20_papers_of_none
set_option maxHeartbeats 1000000
set_option compiler.extract_closed false
local macro_rules|`(tactic|show$e)=>`(tactic|refine$e)
local macro_rules|`(tactic|left)=>`(tactic|decide)
local macro_rules|`(tactic|right)=>`(tactic|decide +kernel)
theorem U.{u}{α:Sort u}{a:α}:a=a:=rfl
open PySem renaming Value->ae,Shared->aj,wpAny_bind->aq,wpAny->aD,model->aI,wpAny_pure->aS,World->aY,FuncData->ba,Spec->bg,Program->bo,Around->bD,Scope->cG,starEach->cM,cLine->dC,compareOp->dD,boot_len->eE,binaryOp->f7,Builtin->gZ,codeAny->hU,wpAny_field->hV,wpAny_holding->hW,backTo->iB,mainGlobals->iC,IsPair->ja,bootBuiltins->jc,foldedSetIterable->jd,holding->jr,atKey->kf,wpAny_mono->kh,NameKind->lq,pyNext->lF,standAt->lH,swapsWith->lI,tupleKind->lJ,IsZip->mv,sysModules->mx,assignEach->nq,attributeBase->nA,sliceBounds->nC,wpAny_Call_Name_kw->nD,wpAny_rule->nE,mem_of_lookup->oP,Result->oQ,behindInMarks->oR,bindName->oS,wpAny_standAt->qw,ZipApart->rS,call_meets->rT,compEnvC->rV,getItem->rW,wpAny_attempt->rX,wpAny_newObj_type->rY,wpAny_seqItems->rZ,wpAny_truthy_bool->r6,BindsTo->uG,callerA->uM,notedBy->uN,slicePick->uO,valueAt->uP,wpAny_setField_rec->uQ,backToKw->xj,bindArgs->xk,codeAny_mono->xl,getAttr? -> xm,getMethod->xn,keywordEach->xo,sliceRange->xp,swappedStores->xq,swapsWithSole->xr,tupleKind_room_in1->xt,wpAny_nextOf_list_item->xu,wpAny_pyIter_list->xw,assignInOrder->As,getAttrBy->Au,typeLookup->Aw,wpAny_bindName->Ax,wpAny_call->Ay,wpAny_callSpecial?_slot->AA,wpAny_call_entry->AB,wpAny_passesOwn->AD,wpAny_pyIter_zip->AE,evalPart_none->Eh,getattributeRaised->Ei,letOwnedTupleGo->Ej,sub_AttributeError->Ek,subscripted->El,wpAny_execs_nil->Em,wpAny_isInstance->Eo,wpAny_onRaise->Ep,wpAny_typeOf->Er,Within->Lw,builtinLookup_eq_fast->Lz,checkBuiltinCall->LA,codeAny_builtin->LB,dictSetDefault->LC,recursionLimit->LD,typeLookup_type->LF,wpAny_dictSet_pairs->LG,wpAny_getItem_list_slice->LH,wpAny_nextOf_list_end->LI,wpAny_notOrdered_dict->LJ,wpAny_letOwnedTupleGo_zip->US,wpAny_newFunctionEnv_cells->UT
open PySem.W renaming Frag->av,kitOne->fZ,mg_of->jL,findIn->lA,fnOf->lB,keepIn->lC,kia_one->lD,mg_none_of->lE,emptyDict->qu,instObj->rQ,codeIn->xh,kitAny->Am,callWith_K->D9,clsIn->Ea,lookIn->Eb,nsIn->Ec,plainGet->Ed,cellsFrom_some->Ln,excIn->Lo,hasDictIn->Lp,isFn->Lq,methodObj->Lr,mroIn->Ls,plainGet_of->Lu,takerIn->Lv,codeRec_of->UI,hideAll_get->UJ,kitx_dict->UK,kitx_list->UL,methodCall_KW->UM,of_hideAll->UN,plainOver->UO,specialIn->UP
open List renaming length_map->aA,getElem?_eq_getElem->bB,mem_of_getElem? -> bI,range->cj,length_take->cp,map_append->cq,length_append->cJ,take_length->cL,take_add_one->cV,getElem?_map->eI,size_toArray->eM,getD_eq_getElem?_getD->eR,mem_cons->fz,not_mem_nil->fA,replicate->fQ,length_cons->gF,map_cons->jb,append_nil->jJ,map_map->jK,getElem?_of_mem->j9,length_range->lp,take_of_length_le->nj,length_drop->oI,mem_append_right->oJ,mem_cons_self->oK,any_cons->qm,find?_cons->qo,length_filter_le->qp,lookup->qr,mem_cons_of_mem->qt,mem_of_mem_take->rM,of_mem_zip->rN,filterMap_cons->uI,getElem?_range->uJ,length_set->uK,all_eq_true->wR,drop_zero->wU,length_replicate->wW,mem_of_mem_drop->wX,replicate_succ->wY,take_zero->wZ,append_assoc->z7,flatMap_cons->Aa,flatten_cons->Ab,forIn_cons->Ac,getElem?_append_left->Ad,getElem?_set_self->Ae,getElem_of_mem->Af,length->Ag,nodup_cons->Ah,reverse_cons->Ai,all_cons->DP,any_nil->DQ,contains_iff_mem->DR,filter_congr->DS,find?_append->DT,forIn_nil->DU,getElem?_set->DV,getElem?_set_ne->DW,getElem?_zipWith->DX,lookup_cons->DY,map_congr_left->DZ,map_reverse->D1,set_comm->D2,take_sublist->D3,drop_eq_getElem_cons->KZ,filterMap_map->K0,flatMap_nil->K3,getElem?_append_right->K4,getElem?_replicate->K5,getElem_mem->K6,length_reverse->K7,map_nil->K8,map_take->K9,mem_append->La,mem_append_left->Lb,mem_filter->Lc,mem_singleton->Ld,nil_append->Le,nodup_append->Lf,range_succ->Lg,take_append_drop->Lh,drop_eq_nil_of_le->Uu,eraseIdx_cons_succ->Uv,getElem?_eq_none->Uw,getElem?_reverse->Ux,getElem?_toArray->Uy,getElem?_zip_eq_some->Uz,length_pos_of_mem->UA,length_singleton->UB
open Nat renaming le_refl->aK,le_trans->ck,ne_of_lt->eV,zero_le->fL,lt_of_lt_of_le->gQ,le_of_lt->jq,not_lt_zero->oM,le_add_right->rO,lt_irrefl->rP,succ_mul->uL,mul_comm->xb,ne_of_gt->xf,min_eq_left->Aj,mul_zero->Ak,pos_of_ne_zero->Al,add_lt_add_left->D4,div_lt_of_lt_mul->D5,mod_lt->D6,mul_le_mul_right->D7,add_comm->Lj,lt_succ_self->Lk
open True renaming intro->bK
open PySem.Value renaming ref->bU,bool->qv,int->rR,none->Aq,str->Ar,builtin->Ee,type->Eg,float->Lx
open PySem.Heap renaming lt_size->bX,get?_push_of_some->di,get?_push_size->hG,SameBut->lj,size_push->rL,get?_update_self->KU,get?_update_other->Uq
open Option.some renaming inj->dX
open Bool renaming false_ne_true->fK,and_eq_true->j8,eq_iff_iff->qk,false_and->wO,and_false->zS,false_or->DD,or_false->DE,true_and->DF,false_eq_true->KJ,or_true->KL
open PyProof.Rows renaming envOfC->fM,kindOf->kg,AllBare->oH,callWith_type1->oO,assignInOrder_cons->xi,Subscript_->Ao,subscriptTail->Av,assignInOrder_nil->Ly,slot_tuple_getitem->UC
open False renaming elim->gD
open Int renaming toNat_natCast->gE,emod_nonneg->hJ,emod_lt_of_pos->iz,le_refl->zW,toNat_of_nonneg->zY,zero_add->zZ,ediv_one->DO,lt_of_lt_of_le->KY
open PySem.NameKind renaming free->iA,cell->Li
open Sum renaming inl->jM,inr->kc
open Ne renaming symm->mw
open Option renaming map_some->oN,isSome_map->Ll
open PySem.Builtin.Int renaming intBits->rH,intTooBig->Ul
open PySem.Builtin.SmallTypes renaming nextOf->rJ,ownedTupleIsFree->rK,ownedTupleHandOut->Uo
open PySem.Calls renaming spliced_cons->uH,spliced_nil->zT,evalArgs_plain->DL,callWith_builtin->KR,Name_function_global->Up
open ForInStep renaming yield->wQ
open PySem.Obj renaming mapSeq->xg
open PySem.Code renaming compLoop->zU,quiet_builtin->zV,isFrame->KS
open Int.ofNat renaming inj->zX
open PySem.Str renaming ofString->An
open Sum.inl renaming inj->Ap
open Array renaming length_toList->DC,toList->KI,getElem?_toList->Ug,toList_append->Uh
open PySem.Builtin.Dict renaming updateFrom->DG,addKeywords->Ui,pairItems->Uj,selfAndRest->Uk
open PySem.Builtin.List renaming listFitsIndex->DH,listTooLong->KO
open PySem.Builtin.Slice renaming slicePlaces->DJ,sliceAdjust->KQ,sliceApplied->Um
open PySem.Builtin.Tuple renaming tupleExact->DK
open PySem.Heap.SameBut renaming update->DM
open PySem.F renaming plainAttrs_list->D8,slot_dict_get->Lm,args_dict_get_3->UD,entry_dict_get->UE,plainAttrs_dict->UG,slot_dict_setdefault->UH
open PySem.Around renaming under->KH,frames_deeper->Ue
open PySem.Builtin.Range renaming rangeSize->KP
open List.Pairwise renaming cons->Ur,imp_of_mem->Us,nil->Ut
open PySem.SeqAt.EqAt renaming int_str->UQ,str_int->UR
set_option Elab.async false
set_option linter.all false
set_option maxRecDepth 100000
open Option renaming some->S,none->Z
open PySem renaming Addr->J
local macro_rules|`(↑$x)=>`(($x).length)
local macro_rules|`(↥$x)=>`(List $x)
local macro_rules|`(∅)=>`(by decide)
local macro_rules|`(⋯)=>`(by lia)
def bF {α β:Sort _}{p q r t:α->β->Prop}{a:α}{b:β}(h:p a b)(k:q a b)(l:r a b)(m:t a b):∃x y,p x y/\q x y/\r x y/\t x y:=⟨a,b,h,k,l,m⟩
def aL {α:Sort _}{p q r:α->Prop}{a:α}(h:p a)(k:q a)(l:r a):∃x,p x/\q x/\r x:=⟨a,h,k,l⟩
def aN {α:Sort _}{s:Prop}{p q:α->Prop}{a:α}(h:s)(k:p a)(l:q a):s/\∃x,p x/\q x:=⟨h,a,k,l⟩
def aw {α β:Sort _}{p q r:α->β->Prop}{a:α}{b:β}(h:p a b)(k:q a b)(l:r a b):∃x y,p x y/\q x y/\r x y:=⟨a,b,h,k,l⟩
def aa {α:Sort _}{p q:α->Prop}{a:α}(h:p a)(k:q a):∃x,p x/\q x:=⟨a,h,k⟩
def ao {a b:Prop}(h₁:a)(h₂:¬a):b:=absurd h₁ h₂
def aB.{u}{c:Prop}{h:Decidable c}(hc:c){α:Sort u}{t e:α}:ite c t e=t:=if_pos hc
def az.{u}{c:Prop}{h:Decidable c}(hc:¬c){α:Sort u}{t e:α}:ite c t e=e:=if_neg hc
def bw {p:Prop}{i:Decidable p}(h:decide p=true):p:=of_decide_eq_true h
def bS {p:Prop}{i:Decidable p}(h:p):decide p=true:=decide_eq_true h
def fU {p:Prop}{i:Decidable p}(h:¬p):decide p=false:=decide_eq_false h
abbrev ak:=↥(PySem.Str×Int)
def alI:0<=PySem.sizeLine:=by left
def alJ:1<=PySem.sizeLine:=by left
def alK:2<=PySem.sizeLine:=by left
def alL:3<=PySem.sizeLine:=by left
def alM:4<=PySem.sizeLine:=by left
def alO:5<=PySem.sizeLine:=by left
def alP:8<=PySem.sizeLine:=by left
namespace L2
open PySem PySem.Spec PyProof.Rows
abbrev Key:=Sum Int Str
def vU:Key->ae->Bool
 | .inl k,v=>Value.isInt k v
 | .inr x,v=>Value.isStrOf x v
def aaL (w:aY):Key->Int
 | .inl k=>hashInt k
 | .inr x=>hashStr w x
def pR:∀{k:Key} {v:ae},vU k v=true->(∃i t,k=jM i/\v=rR i t)\/(∃x t,k=kc x/\v=Ar x t)
 | .inl i,v,h=>by
   obtain⟨t,e⟩:=Value.isInt_shape (k:=i) (v:=v) h
   show .inl ⟨i,t,U,e⟩
 | .inr x,v,h=>by
   obtain⟨t,e⟩:=Value.isStrOf_shape (x:=x) (v:=v) h
   show .inr ⟨x,t,U,e⟩
def aaM (i:Int)(t:Tok):vU (.inl i) (.int i t)=true:=by simp[vU,Value.isInt]
def aaN (x:Str)(t:Tok):vU (.inr x) (.str x t)=true:=by simp[vU,Value.isStrOf]
def aaO (a b:Int):decide ((jM a:Key)=jM b)=(a==b):=by
 by_cases e:a=b
 . subst e;simp
 . have h:¬ (jM a:Key)=jM b:=λq=>e (Ap q)
   rw[fU h]
   show(beq_eq_false_iff_ne.mpr e).symm
def aaR (a b:Str):decide ((kc a:Key)=kc b)=decide (a=b):=by
 by_cases e:a=b
 . subst e;simp
 . have h:¬ (kc a:Key)=kc b:=λq=>e (Sum.inr.inj q)
   rw[fU h,fU e]
def aaP (a:Int)(b:Str):decide ((jM a:Key)=kc b)=false:=fU (λq=>nomatch q)
def aaQ (a:Str)(b:Int):decide ((kc a:Key)=jM b)=false:=fU (λq=>nomatch q)
def eU (prog:bo)(w:aY):PySem.KeyKind prog w Key where
 is:=vU
 hash:=aaL w
 inj:=λv a b ha hb=>by
   rcases pR ha with⟨i,t,rfl,rfl⟩|⟨x,t,rfl,rfl⟩
   . rcases pR hb with⟨j,u,rfl,e⟩|⟨y,u,rfl,e⟩
     . injection e with e1 _;rw[e1]
     . show nomatch e
   . rcases pR hb with⟨j,u,rfl,e⟩|⟨y,u,rfl,e⟩
     . show nomatch e
     . injection e with e1 _;rw[e1]
 byValue:=λk v h=>by
   rcases pR h with⟨i,t,rfl,rfl⟩|⟨x,t,rfl,rfl⟩<;>rfl
 pyHash:=λhv h=>by
   rcases pR hv with⟨i,t,rfl,rfl⟩|⟨x,t,rfl,rfl⟩
   . show wpAny_pyHash_int h
   . show wpAny_pyHash_str h
 eqBool:=λhu hv h=>by
   rcases pR hu with⟨i,t,rfl,rfl⟩|⟨x,t,rfl,rfl⟩
   . rcases pR hv with⟨j,u,rfl,rfl⟩|⟨y,u,rfl,rfl⟩
     . rw[aaO]at h;show wpAny_eqBool_int h
     . rw[aaP]at h;show UQ i t y u _ _ _ _ h
   . rcases pR hv with⟨j,u,rfl,rfl⟩|⟨y,u,rfl,rfl⟩
     . rw[aaQ]at h;show UR x t j u _ _ _ _ h
     . rw[aaR]at h;show wpAny_eqBool_str h
 «strs»:=λk x t v h=>by
   rcases pR h with⟨i,u,rfl,e⟩|⟨y,u,rfl,e⟩
   . show nomatch e
   . injection e with e1 _
     subst e1
     cases v<;>rfl
def abm (prog:bo)(w:aY)(i:Int)(t:Tok):(eU prog w).is (.inl i) (.int i t)=true:=aaM i t
def abn (prog:bo)(w:aY)(x:Str)(t:Tok):(eU prog w).is (.inr x) (.str x t)=true:=aaN x t
inductive V where
 | aM|bl (b:Bool)|int (i:Int)|str (x:Str)|byt (b:Array UInt8)|flt (b:UInt64)|ref (a:J)|ty (n:String)
 deriving DecidableEq
def RelV:V->ae->Prop
 | .aM,u=>u=Aq
 | .bl b,u=>u=qv b
 | .int i,u=>∃t,u=rR i t
 | .str x,u=>∃t,u=Ar x t
 | .byt b,u=>∃t,u=Value.bytes b t
 | .flt b,u=>∃t,u=Lx b t
 | .ref a,u=>u=bU a
 | .ty n,u=>u=Eg n
abbrev Vals:↥V->↥ae->Prop:=Paired RelV
def Vals.length {xs:↥V}{us:↥ae}(r:Vals xs us):↑xs=↑us:=Paired.length r
theorem Vals.get:∀{xs:↥V} {us:↥ae} {i:Nat} {x:V},Vals xs us->xs[i]?=S x->∃u,us[i]?=S u/\RelV x u
 | _,_,_,_,.nil,e=>by simp at e
 | _,_,0,_,.cons r _,e=>by simp at e;subst e;show⟨_,rfl,r⟩
 | _,_,i+1,x,.cons _ t,e=>by
   obtain⟨u,h1,h2⟩:=Vals.get (i:=i) (x:=x) t (by simpa using e)
   show⟨u,by simpa using h1,h2⟩
theorem Vals.set {x:V}{u:ae}(r:RelV x u):∀{xs:↥V} {us:↥ae} (i:Nat),Vals xs us->Vals (xs.set i x) (us.set i u)
 | _,_,_,.nil=>.nil
 | _,_,0,.cons _ t=>.cons r t
 | _,_,i+1,.cons q t=>.cons q (Vals.set r i t)
theorem Vals.append:∀{xs ys:↥V} {us ws:↥ae},Vals xs us->Vals ys ws->Vals (xs++ys) (us++ws)
 | _,_,_,_,.nil,s=>s
 | _,_,_,_,.cons r t,s=>.cons r (Vals.append t s)
theorem Vals.take:∀{xs:↥V} {us:↥ae} (n:Nat),Vals xs us->Vals (xs.take n) (us.take n)
 | _,_,0,_=>.nil
 | _,_,_+1,.nil=>.nil
 | _,_,n+1,.cons r t=>.cons r (Vals.take n t)
theorem Vals.drop:∀{xs:↥V} {us:↥ae} (n:Nat),Vals xs us->Vals (xs.drop n) (us.drop n)
 | _,_,0,r=>r
 | _,_,_+1,.nil=>.nil
 | _,_,n+1,.cons _ t=>Vals.drop n t
def ig:Option V->Option ae->Prop
 | some v,S u=>RelV v u
 | none,Z=>True
 | _,_=>False
def KV {κ:Type}:↥(κ×V)->↥(κ×ae)->Prop:=Paired λ(p:κ×V) (q:κ×ae)=>p.1=q.1/\RelV p.2 q.2
def kV:Key->V
 | .inl i=>.int i
 | .inr x=>.str x
inductive HO where
 | lst (xs:↥V)
 | tup (xs:↥V)
 | dK (kvs:↥(Key×V))|dT (kvs:↥(↥Key×V))
 | set (S8:Int->Bool) (n:Nat)
 | ins (C dx:J) (fs:↥(Str×V))
 | own (x:J)
 | xd (fs:↥(Str×V))
 | met (f x:J)
 | rng (lo hi:Int)
 | frz (o:Obj) (u:HO)
 | tbl (ps:Array ae)
 | ext (φ:Heap->Prop)
abbrev Hp:=J->Option HO
def upd (H:Hp)(a:J)(o:HO):Hp:=λb=>if b=a then S o else H b
def ai {H:Hp}{a:J}{o:HO}:upd H a o a=S o:=by unfold upd;rw[aB rfl]
def aC {H:Hp}{a b:J}{o:HO}(h:b≠a):upd H a o b=H b:=by unfold upd;rw[az h]
def kZ {H:Hp}{a:J}{o u:HO}:upd (upd H a o) a u=upd H a u:=by
 funext b;unfold upd;split<;>rfl
def i6 {H:Hp}{a b:J}{o u:HO}(h:H a=S o)(h':H b=S u)(d:o≠u):a≠b:=by
 intro e;subst e;rw[h]at h';show d (dX h')
def aR {H:Hp}{a b:J}{o:HO}(h:H a=S o)(h':H b=Z):a≠b:=by
 intro e;subst e;rw[h]at h';cases h'
section
variable(P:bo)(w:aY)
def dj (H:Hp)(h:Heap)(a:J):HO->Prop
 | .lst xs=>↑xs<=sizeLine/\∃(G:↥ae) (n:Nat),Vals xs G/\h.get? a=S {cls:=.type "list",data:=.seq G.toArray n}
 | .tup xs=>↑xs<=sizeLine/\∃G:↥ae,Vals xs G/\IsTup h a G.toArray
 | .dK kvs=>↑kvs<=sizeLine/\(a==mx)=false/\∃vs,KV kvs vs/\h.DictOf (eU P w) a vs
 | .dT kvs=>↑kvs<=sizeLine/\(a==mx)=false/\∃xs:↥(↥Key×J×ae),
     Paired (λ(p:↥Key×V) (q:↥Key×J×ae)=>p.1=q.1/\H q.2.1=S (.tup (p.1.map kV))/\RelV p.2 q.2.2) kvs xs /\
     ∃o es I,h.get? a=S o/\o.ExactDict/\o.data=.dict es I/\es.toList=xs.map (entryOfKey (lJ (eU P w)))/\(xs.map (·.1)).Nodup
 | .set S8 n=>h.SetOf (intKind P w) a S8 n
 | .ins C dx fs=>H dx=S (.own a)/\↑fs<=1000/\dx≠a/\h.get? a=S (rQ C dx) /\
     ∃mA,h.Ns1 dx mA/\(∀f,ig (fs.lookup f) (mA f))/\Lw mA (fs.map (·.1))
 | .own _=>∃o,h.get? a=S o
 | .xd fs=>∃mA,h.Ns1 a mA/\∀f,ig (fs.lookup f) (mA f)
 | .rng lo hi=>∃t u v,h.get? a=S {cls:=.type "range",data:=.fields #[.int lo t,.int hi u,.int 1 v]}
 | .frz o u=>h.get? a=S o/\dj H h a u
 | .tbl ps=>h.get? a=S {cls:=.none,data:=.fields ps}
 | .met f x=>h.get? a=S (Lr (.ref f) (.ref x))
 | .ext φ=>φ h/\(∃o,h.get? a=S o)/\∀h1 h2:Heap,φ h1->(∀o,h1.get? a=S o->h2.get? a=S o)->φ h2
def dH (H:Hp)(h:Heap):Prop:=∀a o,H a=S o->dj P w H h a o
end
section
variable{P:bo}{w:aY}{H H':Hp}{h h':Heap}{a:J}{o:HO}
theorem dj.lt (x:dj P w H h a o):a<h.objs.size:=by
 cases o with
 | lst xs=>obtain⟨_,_,_,_,e⟩:=x;show bX e
 | tup xs=>obtain⟨_,_,_,p⟩:=x;show p.lt
 | dK kvs=>obtain⟨_,_,_,_,o,_,_,e,_⟩:=x;show bX e
 | dT kvs=>obtain⟨_,_,_,_,o,_,_,e,_⟩:=x;show bX e
 | set S8 n=>obtain⟨o,_,_,_,e,_⟩:=x;show bX e
 | ins C dx fs=>obtain⟨_,_,_,e,_⟩:=x;show bX e
 | own y=>obtain⟨_,e⟩:=x;show bX e
 | xd fs=>obtain⟨_,⟨_,_,_,e,_⟩,_⟩:=x;show bX e
 | rng lo hi=>obtain⟨_,_,_,e⟩:=x;show bX e
 | frz ob u=>obtain⟨e,_⟩:=x;show bX e
 | tbl ps=>show bX (show h.get? a=S _ from x)
 | met f y=>show bX (show h.get? a=S _ from x)
 | ext φ=>obtain⟨_,⟨_,e⟩,_⟩:=x;show bX e
theorem Paired.bc {α β:Type}{F G:α->β->Prop}:∀{l₁:List α} {l₂:List β},Paired F l₁ l₂->(∀a b,F a b->G a b)->Paired G l₁ l₂
 | _,_,.nil,_=>.nil
 | _,_,.cons r t,f=>.cons (f _ _ r) (Paired.bc t f)
def dj.mm (x:dj P w H h a o)(k:∀b u,(b=a\/H b=S (.own a))->h.get? b=S u->h'.get? b=S u)
   (ho:∀b,H b=S (.own a)->H' b=S (.own a)) (ht:∀b xs,H b=S (.tup xs)->H' b=S (.tup xs)):dj P w H' h' a o:=by
 induction o with
 | lst xs=>obtain⟨z,I,n,r,e⟩:=x;show⟨z,I,n,r,k _ _ (.inl rfl) e⟩
 | tup xs=>obtain⟨z,I,r,ob,e,c⟩:=x;show⟨z,I,r,ob,k _ _ (.inl rfl) e,c⟩
 | dK kvs=>obtain⟨z,y,vs,r,ob,es,G,e,c⟩:=x;show⟨z,y,vs,r,ob,es,G,k _ _ (.inl rfl) e,c⟩
 | dT kvs=>
   obtain⟨z,y,xs,r,ob,es,G,e,c⟩:=x
   show⟨z,y,xs,Paired.bc r λp q z=>⟨z.1,ht _ _ z.2.1,z.2.2⟩,ob,es,G,k _ _ (.inl rfl) e,c⟩
 | set S8 n=>obtain⟨ob,es,G,t,e,c⟩:=x;show⟨ob,es,G,t,k _ _ (.inl rfl) e,c⟩
 | ins C dx fs=>
   obtain⟨d,z,ne,e,mA,⟨O,es,G,e2,c⟩,r⟩:=x
   show⟨ho _ d,z,ne,k _ _ (.inl rfl) e,mA,⟨O,es,G,k _ _ (.inr d) e2,c⟩,r⟩
 | own y=>obtain⟨ob,e⟩:=x;show⟨ob,k _ _ (.inl rfl) e⟩
 | xd fs=>obtain⟨mA,⟨O,es,G,e,c⟩,r⟩:=x;show⟨mA,⟨O,es,G,k _ _ (.inl rfl) e,c⟩,r⟩
 | rng lo hi=>obtain⟨t,u,v,e⟩:=x;show⟨t,u,v,k _ _ (.inl rfl) e⟩
 | frz ob u ih=>obtain⟨e,q⟩:=x;show⟨k _ _ (.inl rfl) e,ih q⟩
 | tbl ps=>
   have e:h.get? a=S {cls:=.none,data:=.fields ps}:=x
   change h'.get? a=S {cls:=.none,data:=.fields ps}
   show k a _ (.inl rfl) e
 | met f y=>
   have e:h.get? a=S (Lr (.ref f) (.ref y)):=x
   change h'.get? a=S (Lr (.ref f) (.ref y))
   show k a _ (.inl rfl) e
 | ext φ=>obtain⟨p,⟨o,e⟩,st⟩:=x;show⟨st _ _ p λo q=>k _ _ (.inl rfl) q,⟨o,k _ _ (.inl rfl) e⟩,st⟩
def dH.lt (x:dH P w H h)(e:H a=S o):a<h.objs.size:=(x a o e).lt
def dH.fresh (x:dH P w H h)(e:h.objs.size<=a):H a=Z:=by
 cases q:H a with
 | none=>rfl
 | some u=>show ao (gQ (x.lt q) e) (rP _)
def dH.kept (x:dH P w H h)(k:∀b u,h.get? b=S u->h'.get? b=S u):dH P w H h':=λa o e=>
 (x a o e).mm (λb u z q=>k b u q) (λz q=>q) λz z q=>q
def dH.laid (x:dH P w H h)(k:∀b u,h.get? b=S u->h'.get? b=S u)(I:h.objs.size<=a)(new:dj P w (upd H a o) h' a o):dH P w (upd H a o) h':=λb u e=>by
 have G:=x.fresh I
 by_cases hb:b=a
 . subst hb;rw[ai]at e;cases e;show new
 . rw[aC hb]at e
   show(x b u e).mm (λc v z q=>k c v q) (λc q=>by rw[aC (aR q G)];show q) λc xs q=>by rw[aC (aR q G)];show q
end
def Rd (H:Hp)(a:J)(u:HO):Prop:=H a=S u\/∃o,H a=S (.frz o u)
def Rd.ok {P:bo}{w:aY}{H:Hp}{h:Heap}{a:J}{u:HO}(r:Rd H a u)(x:dH P w H h):dj P w H h a u:=by
 rcases r with r|⟨o,r⟩
 . show x a u r
 . obtain⟨_,q⟩:=x a _ r
   show q
def xE:Option HO->Prop
 | some (.lst _)=>True
 | some (.dK _)=>True
 | some (.dT _)=>True
 | some (.set _ _)=>True
 | some (.ins _ _ _)=>True
 | some (.ext _)=>True
 | _=>False
section
variable{P:bo}{w:aY}{H:Hp}{h h':Heap}{x e:J}{o':HO}
def dH.write (ok:dH P w H h)(O:xE (H x))(he:e=x\/H e=S (.own x))(k:∀b u,b≠e->h.get? b=S u->h'.get? b=S u)(heo:∃u,h'.get? e=S u)
   (new:dj P w (upd H x o') h' x o'):dH P w (upd H x o') h':=λb u q=>by
 have G:∀c y,H c=S (.own y)->c≠x:=λc y r z=>by subst z;rw[r]at O;show O
 have I:∀c xs,H c=S (.tup xs)->c≠x:=λc xs r z=>by subst z;rw[r]at O;show O
 by_cases hb:b=x
 . subst hb;rw[ai]at q;cases q;show new
 . rw[aC hb]at q
   by_cases tK:b=e
   . have q':H b=S (.own x):=by
       rcases he with z|z
       . show ao (tK.trans z) hb
       . rw[tK];show z
     rw[q]at q';cases q'
     obtain⟨v,hv⟩:=heo
     show⟨v,by rw[tK];show hv⟩
   . show(ok b u q).mm (λc v hc r=>k c v ?_ r) (λc r=>by rw[aC (G c b r)];show r) λc xs r=>by rw[aC (I c xs r)];show r
     rcases hc with rfl|hc
     . show tK
     . rintro rfl
       rcases he with z|z
       . show G c b hc z
       . rw[hc]at z;cases z;show hb rfl
end
structure Un (fs ex:↥J)(H H':Hp)(h h':Heap):Prop where
 keep:∀b o,h.get? b=S o->H b=Z->b∉fs->b∉ex->h'.get? b=S o
 slot:∀b o,h.get? b=S o->H b=Z->b∈fs->b∉ex->∃sl,h'.get? b=S {o with slots:=sl}
 free:∀b o,h.get? b=S o->H b=Z->b∉ex->H' b=Z
 there:∀b o,h.get? b=S o->b∉ex->∃o',h'.get? b=S o'
 tups:∀b xs,H b=S (.tup xs)->H' b=S (.tup xs)
 frzs:∀b o u,H b=S (.frz o u)->H' b=S (.frz o u)
 tbls:∀b ps,H b=S (.tbl ps)->∃more,H' b=S (.tbl (ps++more))
section
variable{fs fs' ex ex':↥J}{H H1 H2:Hp}{h h1 h2 h':Heap}{a x e:J}{o:HO}
def Un.any (u:Un fs ex H H1 h h1){b:J}{ob:Obj}(q:h.get? b=S ob)(n:H b=Z)(hx:b∉ex):∃G,h1.get? b=S {ob with slots:=G}:=by
 by_cases hb:b∈fs
 . show u.slot b ob q n hb hx
 . show⟨ob.slots,u.keep b ob q n hb hx⟩
def Un.kept (k:∀b u,h.get? b=S u->h'.get? b=S u):Un fs ex H H h h':=
 ⟨λb ob q z z z=>k b ob q,λb ob q z z z=>⟨ob.slots,k b ob q⟩,λz z z n z=>n,λb ob q z=>⟨ob,k b ob q⟩,λz z q=>q,λz z z q=>q,λz ps q=>⟨#[],by rw[q];simp⟩⟩
def Un.refl:Un fs ex H H h h:=Un.kept λz z q=>q
def Un.laid (k:∀b u,h.get? b=S u->h'.get? b=S u)(hp:h.objs.size<=a)(hn:H a=Z):Un fs ex H (upd H a o) h h' where
 keep:=λb u q z z z=>k b u q
 slot:=λb u q z z z=>⟨u.slots,k b u q⟩
 free:=λb u q n z=>by rw[aC (eV (gQ (bX q) hp))];show n
 there:=λb u q z=>⟨u,k b u q⟩
 tups:=λb xs q=>by rw[aC (aR q hn)];show q
 frzs:=λb u xs q=>by rw[aC (aR q hn)];show q
 tbls:=λb ps q=>⟨#[],by rw[aC (aR q hn),q];simp⟩
def Un.write (G:xE (H x))(he:e=x\/H e=S (.own x))(k:∀b u,b≠e->h.get? b=S u->h'.get? b=S u)(I:∃u,h'.get? e=S u):Un fs ex H (upd H x o) h h':=by
 have hx:∀b,H b=Z->b≠x:=λb n z=>by subst z;rw[n]at G;show G
 have hb:∀b,H b=Z->b≠e:=λb n z=>by
   subst z
   rcases he with r|r
   . show hx b n r
   . rw[n]at r;cases r
 have O:∀b u,H b=S u->¬ xE (S u)->b≠x:=λb u q nm z=>by subst z;rw[q]at G;show nm G
 show⟨λb u q n y y=>k b u (hb b n) q,λb u q n y y=>⟨u.slots,k b u (hb b n) q⟩,λb u q n y=>by rw[aC (hx b n)];show n,λb u q y=>?_,
   λb xs q=>by rw[aC (O b _ q λz=>z)];show q,λb u xs q=>by rw[aC (O b _ q λz=>z)];show q,λb ps q=>⟨#[],by rw[aC (O b _ q λz=>z),q];simp⟩⟩
 by_cases tK:b=e
 . subst tK;show I
 . show⟨u,k b u tK q⟩
end
def kY (h:Heap)(H:Hp):↥J:=(cj h.objs.size).filter λa=>(H a).isSome
def pC (h:Heap)(H:Hp):Heap:=PySem.W.hideAll h (kY h H)
def Ze (h:Heap)(H:Hp):(pC h H).objs.size=h.objs.size:=PySem.W.hideAll_size _ _
def Zd {h:Heap}{H:Hp}{b:J}{o:Obj}(e:h.get? b=S o)(n:H b=Z):(pC h H).get? b=S o:=
 UJ _ e λG=>by
   have q:(H b).isSome=true:=(List.mem_filter.mp G).2
   rw[n]at q;simp at q
def aci {h:Heap}{H:Hp}{b:J}{o:Obj}(e:(pC h H).get? b=S o):h.get? b=S o/\H b=Z:=by
 have G:h.get? b=S o:=UN (kY h H) e
 show⟨G,?_⟩
 cases q:H b with
 | none=>rfl
 | some x=>
   have I:b∈kY h H:=List.mem_filter.mpr ⟨List.mem_range.mpr (bX G),by simp[q]⟩
   have z:(pC h H).get? b=Z:=PySem.W.hideAll_none (kY h H) I
   rw[z]at e;cases e
structure Mod (K:av)(mg:Str->Option ae)(base:Heap):Prop where
 kin:K.In base
 glob:base.Ns iC mg
 blt:∃mb,base.Ns builtinsNs mb/\∀x:Str,x≠"__name__"->mb x=jc x
 nolimit:base.NoLimit
structure Cx where
 prog:bo
 w:aY
 K:av
 mg:Str->Option ae
 base:Heap
 A:bD
 N:↥Str
 s₀:aj
 H₀:Hp
 env:Env
 outer:↥Env
 stack:↥Env
 ex:↥J
 fn:Str->Bool
 calm:Bool
 pn:↥(J×Obj)
 xe:ae->aj->Prop
def eF (l:↥Env):↥J:=l.filterMap (·.frame)
abbrev Cx.fs (X:Cx):↥J:=eF X.outer
def AX (sc:cG)(x:Str):Prop:=sc.names.lookup x=S .local\/sc.names.lookup x=S .cell\/sc.names.lookup x=S .free
def Loc (sc:cG)(x:Str):Prop:=sc.names.lookup x=S .local\/sc.names.lookup x=S .cell
def Look (env:Env)(h:Heap)(m:Str->Option ae)(x:Str)(u:ae):Prop:=
 (env.kindOf x=S .local/\m x=S u)\/((env.kindOf x=S .cell\/env.kindOf x=S .free)/\∃c,env.cells.lookup x=S c/\h.IsCell c (S u))
structure Cx.Ok (X:Cx):Prop where
 mod:Mod X.K X.mg X.base
 kind:X.env.scope.kind=.function
 glob:X.env.globals=iC
 blt:X.env.builtins=builtinsNs
 above:X.s₀.heap.objs.size<=X.env.locals
 inj:∀x y c,X.env.cells.lookup x=S c->X.env.cells.lookup y=S c->x=y
 has:∀x,(X.env.kindOf x=S .cell\/X.env.kindOf x=S .free)->∃c,X.env.cells.lookup x=S c
 cab:∀x c,X.fn x=true->X.env.cells.lookup x=S c->X.s₀.heap.objs.size<=c
 hd:X.calm=true->X.A.handled=Z
 frames:X.A.frames=S X.stack
 stk:X.stack=X.outer\/(X.stack=X.env::X.outer/\X.env.frame=S X.env.locals)
 exf:∀b∈X.ex,b≠X.env.locals/\∀x c,X.env.cells.lookup x=S c->c≠b
 bs:∀b o,X.base.get? b=S o->X.s₀.heap.get? b=S o/\X.H₀ b=Z
 bsz:X.base.objs.size<=X.s₀.heap.objs.size
 noex:∀b o,X.base.get? b=S o->b∉X.ex
 exfs:∀b∈X.ex,b∉X.fs
 ij:X.s₀.heap.FunFrames X.base X.outer
 frf:∀b∈X.fs,X.H₀ b=Z
structure Inv (X:Cx)(pins:↥(J×Obj))(σ:↥(Option V))(H:Hp)(s:aj):Prop where
 ok:X.Ok
 os:s.os=X.s₀.os
 bare:oH s.gens
 base:Un X.fs X.ex X.H₀ H X.s₀.heap s.heap
 loc:∃m,s.heap.Ns X.env.locals m/\∀(i:Nat) (x:Str) (v:V),X.N[i]?=S x->σ[i]?=S (S v)->AX X.env.scope x->∃u,RelV v u/\Look X.env s.heap m x u
 cell:∀x c,X.env.cells.lookup x=S c->∃v,s.heap.IsCell c v
 free:H X.env.locals=Z
 freeC:∀x c,X.env.cells.lookup x=S c->H c=Z
 pin:∀p∈X.pn++pins,s.heap.get? p.1=S p.2/\H p.1=Z/\p.1≠X.env.locals/\p.1∉X.fs/\∀v,p.2.data≠.cell v
 hok:dH X.prog X.w H s.heap
 len:σ.length=X.N.length
section
variable{X:Cx}{pins:↥(J×Obj)}{σ:↥(Option V)}{H H':Hp}{s:aj}{h':Heap}
def Cx.Ok.abM (ok:X.Ok){b:J}{o:Obj}(e:X.base.get? b=S o):b∉X.fs:=λhb=>by
 have:=(ok.ij.mem hb).1
 rw[e]at this;cases this
def Inv.bs (I:Inv X pins σ H s):∀b o,X.base.get? b=S o->s.heap.get? b=S o/\H b=Z:=λb o e=>
 ⟨I.base.keep b o (I.ok.bs b o e).1 (I.ok.bs b o e).2 (I.ok.abM e) (I.ok.noex b o e),I.base.free b o (I.ok.bs b o e).1 (I.ok.bs b o e).2 (I.ok.noex b o e)⟩
def Inv.bk (I:Inv X pins σ H s):∀b o,X.base.get? b=S o->s.heap.get? b=S o:=λb o e=>(I.bs b o e).1
def Inv.mod (I:Inv X pins σ H s):Mod X.K X.mg X.base:=I.ok.mod
def Inv.dQ (I:Inv X pins σ H s):X.K.In s.heap:=I.ok.mod.kin.keeps I.bk
def Inv.lt (I:Inv X pins σ H s):X.env.locals<s.heap.objs.size:=by obtain⟨_,G,_⟩:=I.loc;show G.lt
def Inv.sz (I:Inv X pins σ H s):X.s₀.heap.objs.size<=s.heap.objs.size:=ck I.ok.above (jq I.lt)
def Inv.abN (I:Inv X pins σ H s){a:J}(h:s.heap.objs.size<=a):a∉X.fs:=λhb=>by
 obtain⟨_,o,G,_⟩:=I.ok.ij.mem hb
 show ao (gQ (bX G) (ck I.sz h)) (rP _)
def Inv.kr (I:Inv X pins σ H s):∀x c,X.env.cells.lookup x=S c->c≠X.env.locals:=λx c e z=>by
 obtain⟨v,o,G,O⟩:=I.cell x c e
 obtain⟨m,⟨o',es,ep,Ps,iV,_⟩,_⟩:=I.loc
 rw[z,Ps]at G;cases G;rw[iV]at O;cases O
theorem Inv.ij (I:Inv X pins σ H s):s.heap.FunFrames X.base X.outer:=by
 have all:∀(l:↥Env),(∀b∈eF l,b∈X.fs)->X.s₀.heap.FunFrames X.base l->s.heap.FunFrames X.base l:=by
   intro l
   induction l with
   | nil=>intro _ _;trivial
   | cons env r ih=>
     intro O hl
     obtain⟨hk,⟨L8,o,hf,hn,ho,hd⟩,hr⟩:=hl
     have G:L8∈X.fs:=O L8 (by unfold eF;rw[uI,hf];show oK)
     obtain⟨sl,e⟩:=I.base.slot L8 o ho (I.ok.frf L8 G) G λz=>I.ok.exfs L8 z G
     show⟨hk,⟨L8,_,hf,hn,e,hd⟩,ih (λb hb=>O b (by unfold eF;rw[uI,hf];show qt _ hb)) hr⟩
 show all X.outer (λy hb=>hb) I.ok.ij
def Inv.stack (I:Inv X pins σ H s):s.heap.FunFrames X.base X.stack:=by
 rcases I.ok.stk with e|⟨e,hf⟩
 . rw[e];show I.ij
 . rw[e]
   obtain⟨m,G,_⟩:=I.loc
   show .cons (by rw[I.ok.kind];decide) hf G ?_ I.ij
   show Heap.get?_none_of_le (ck I.ok.bsz I.ok.above)
def Inv.Dh (I:Inv X pins σ H s):∀b∈eF X.stack,b∈X.env.locals::X.fs:=λb hb=>by
 rcases I.ok.stk with e|⟨e,hf⟩
 . rw[e]at hb;show qt _ hb
 . rw[e]at hb
   unfold eF at hb
   rw[uI,hf]at hb
   show hb
def Inv.Kh (I:Inv X pins σ H s):∀b∈eF X.stack,H b=Z:=λb hb=>by
 rcases List.mem_cons.mp (I.Dh b hb)with e|hb
 . rw[e];show I.free
 . obtain⟨_,o,G,_⟩:=I.ok.ij.mem hb
   show I.base.free b o G (I.ok.frf b hb) λz=>I.ok.exfs b z hb
def Inv.step {g':Array GenState}{t':Nat}{d':Drawn}{ch:↥J}(I:Inv X pins σ H s)
   (Op:∀b∈ch,(b∈X.ex\/X.s₀.heap.objs.size<=b)/\b≠X.env.locals/\(∀x c,X.env.cells.lookup x=S c->c≠b)/\∀p∈X.pn++pins,p.1≠b)
   (keep:∀b o,b≠X.env.locals->b∉X.fs->b∉ch->s.heap.get? b=S o->H b=Z->h'.get? b=S o)
   (slot:∀b o,b≠X.env.locals->b∈X.fs->b∉ch->s.heap.get? b=S o->H b=Z->∃sl,h'.get? b=S {o with slots:=sl}) (free:∀b o,b∉ch->s.heap.get? b=S o->H b=Z->H' b=Z)
   (there:∀b o,b∉ch->s.heap.get? b=S o->∃o',h'.get? b=S o')
   (tups:∀b xs,H b=S (.tup xs)->H' b=S (.tup xs)) (frzs:∀b o u,H b=S (.frz o u)->H' b=S (.frz o u)) (tbls:∀b ps,H b=S (.tbl ps)->∃more,H' b=S (.tbl (ps++more)))
   (ns:∀m,s.heap.Ns X.env.locals m->h'.Ns X.env.locals m) (hok:dH X.prog X.w H' h') (hg:oH g') :
   Inv X pins σ H' {s with heap:=h',gens:=g',drawn:=d',toks:=t'}:=by
 have neL:∀b o,X.s₀.heap.get? b=S o->b≠X.env.locals:=λb o e=>eV (gQ (bX e) I.ok.above)
 have O:∀b o,X.s₀.heap.get? b=S o->b∉X.ex->b∉ch:=λb o e hx hb=>by
   rcases(Op b hb).1 with z|z
   . show hx z
   . show ao (gQ (bX e) z) (rP _)
 have G:∀x c,X.env.cells.lookup x=S c->∀v,s.heap.IsCell c v->h'.IsCell c v:=λx c e v ⟨o,ho,hd⟩=>by
   have mX:c∉ch:=λz=>(Op c z).2.2.1 x c e rfl
   by_cases hc:c∈X.fs
   . obtain⟨sl,q⟩:=slot c o (I.kr x c e) hc mX ho (I.freeC x c e)
     show⟨_,q,hd⟩
   . show⟨o,keep c o (I.kr x c e) hc mX ho (I.freeC x c e),hd⟩
 show⟨I.ok,I.os,hg,⟨λb o e n hb hx=>?_,λb o e n hb hx=>?_,λb o e n hx=>?_,λb o e hx=>?_,λb xs e=>tups b xs (I.base.tups b xs e),λb o xs e=>frzs b o xs (I.base.frzs b o xs e),λb ps e=>?_⟩,?_,λx c e=>?_,?_,λx c e=>?_,λp hp=>?_,hok,I.len⟩
 . show keep b o (neL b o e) hb (O b o e hx) (I.base.keep b o e n hb hx) (I.base.free b o e n hx)
 . obtain⟨sl,e1⟩:=I.base.slot b o e n hb hx
   obtain⟨JB,e2⟩:=slot b _ (neL b o e) hb (O b o e hx) e1 (I.base.free b o e n hx)
   show⟨JB,e2⟩
 . obtain⟨o',e1⟩:=I.base.there b o e hx
   show free b o' (O b o e hx) e1 (I.base.free b o e n hx)
 . obtain⟨o',e1⟩:=I.base.there b o e hx
   show there b o' (O b o e hx) e1
 . obtain⟨m1,e1⟩:=I.base.tbls b ps e
   obtain⟨m2,e2⟩:=tbls b _ e1
   show⟨m1++m2,by rw[e2,Array.append_assoc]⟩
 . obtain⟨m,hn,hl⟩:=I.loc
   show⟨m,ns m hn,λi x v e1 e2 e3=>?_⟩
   obtain⟨u,r,l⟩:=hl i x v e1 e2 e3
   show⟨u,r,?_⟩
   rcases l with l|⟨k,c,e,z⟩
   . show .inl l
   . show .inr ⟨k,c,e,G x c e _ z⟩
 . obtain⟨v,z⟩:=I.cell x c e
   show⟨v,G x c e v z⟩
 . obtain⟨m,⟨o,_,_,ho,_⟩,_⟩:=I.loc
   show free _ o (λz=>(Op _ z).2.1 rfl) ho I.free
 . obtain⟨v,o,ho,hd⟩:=I.cell x c e
   show free c o (λz=>(Op c z).2.2.1 x c e rfl) ho (I.freeC x c e)
 . obtain⟨e,n,ne,nf,d⟩:=I.pin p hp
   have mX:p.1∉ch:=λz=>(Op p.1 z).2.2.2 p hp rfl
   show⟨keep p.1 p.2 ne nf mX e n,free p.1 p.2 mX e n,ne,nf,d⟩
def Inv.un {t':Nat}(I:Inv X pins σ H s)(u:Un X.fs [] H H' s.heap h')(G:dH X.prog X.w H' h'):Inv X pins σ H' {s with heap:=h',toks:=t'}:=by
 obtain⟨m,⟨o,es,ep,O,r⟩,_⟩:=id I.loc
 obtain⟨sl,hL⟩:=u.any O I.free (by simp)
 show I.step (g':=s.gens) (d':=s.drawn) (ch:=[]) (λy z=>nomatch z) (λb o y hb y e n=>u.keep b o e n hb (by simp)) (λb o y hb y e n=>u.slot b o e n hb (by simp)) (λb o y e n=>u.free b o e n (by simp)) (λb o y e=>u.there b o e (by simp)) u.tups u.frzs u.tbls (λm' hm=>by
   obtain⟨o',tD,FF,Ps,r'⟩:=hm
   rw[O]at Ps;cases Ps
   show⟨_,tD,FF,hL,r'⟩) G I.bare
def Inv.call {g':Array GenState}{t':Nat}{d':Drawn}{ch:↥J}(I:Inv X pins σ H s)(u:Un (eF X.stack) ch H H' s.heap h')(G:dH X.prog X.w H' h')(hg:oH g')
   (Op:∀b∈ch,(b∈X.ex\/X.s₀.heap.objs.size<=b)/\b≠X.env.locals/\(∀x c,X.env.cells.lookup x=S c->c≠b)/\∀p∈X.pn++pins,p.1≠b) :
   Inv X pins σ H' {s with heap:=h',gens:=g',drawn:=d',toks:=t'}:=by
 obtain⟨m,⟨o,es,ep,ho,r⟩,_⟩:=id I.loc
 obtain⟨sl,O⟩:=u.any ho I.free λz=>(Op _ z).2.1 rfl
 show I.step (ch:=ch) Op (λb o O hb hc e n=>u.keep b o e n (λz=>(List.mem_cons.mp (I.Dh b z)).elim O hb) hc) (λb o y y hc e n=>u.any e n hc) (λb o hc e n=>u.free b o e n hc) (λb o hc e=>u.there b o e hc) u.tups u.frzs u.tbls (λm' hm=>by
   obtain⟨o',tD,FF,Ps,r'⟩:=hm
   rw[ho]at Ps;cases Ps
   show⟨_,tD,FF,O,r'⟩) G hg
def Inv.turned {t':Nat}{it:J}(I:Inv X pins σ H s)(k:∀b o,b≠it->s.heap.get? b=S o->h'.get? b=S o)(hn:H it=Z)(G:it≠X.env.locals)
   (h1:it∈X.ex\/X.s₀.heap.objs.size<=it) (h2:∀x c,X.env.cells.lookup x=S c->c≠it) (h3:∀p∈X.pn++pins,p.1≠it):Inv X pins σ H {s with heap:=h',toks:=t'}:=by
 have O:∀b u,H b=S u->b≠it:=λb u e z=>by rw[z,hn]at e;cases e
 show I.step (g':=s.gens) (d':=s.drawn) (ch:=[it]) (λb hb=>?_) (λb o y y hc e y=>k b o (λz=>hc (by simp[z])) e) (λb o y y hc e y=>⟨o.slots,k b o (λz=>hc (by simp[z])) e⟩) (λy y y y n=>n)
   (λb o hc e=>⟨o,k b o (λz=>hc (by simp[z])) e⟩) (λy y e=>e) (λy y y e=>e) (λb ps e=>⟨#[],by rw[e];simp⟩) (λm hm=>?_) (λb u e=>?_) I.bare
 . have e:b=it:=by simpa using hb
   subst e
   show⟨h1,G,h2,h3⟩
 . obtain⟨o,es,ep,ho,r⟩:=hm
   show⟨o,es,ep,k _ o (mw G) ho,r⟩
 . show(I.hok b u e).mm (λc v hc q=>k c v ?_ q) (λy q=>q) λy y q=>q
   rcases hc with z|z
   . rw[z];show O b u e
   . show O c _ z
def Inv.tok (I:Inv X pins σ H s)(t:Nat):Inv X pins σ H {s with toks:=t}:=I.un (h':=s.heap) (t':=t) Un.refl I.hok
def Inv.kept {t':Nat}(I:Inv X pins σ H s)(k:∀b u,s.heap.get? b=S u->h'.get? b=S u):Inv X pins σ H {s with heap:=h',toks:=t'}:=I.un (Un.kept k) (I.hok.kept k)
def Inv.laid {a:J}{o:HO}{t':Nat}(I:Inv X pins σ H s)(k:∀b u,s.heap.get? b=S u->h'.get? b=S u)(G:s.heap.objs.size<=a)(new:dj X.prog X.w (upd H a o) h' a o) :
   Inv X pins σ (upd H a o) {s with heap:=h',toks:=t'}:=I.un (Un.laid k G (I.hok.fresh G)) (I.hok.laid k G new)
def Inv.write {x e:J}{o:HO}{t':Nat}(I:Inv X pins σ H s)(O:xE (H x))(he:e=x\/H e=S (.own x))(k:∀b u,b≠e->s.heap.get? b=S u->h'.get? b=S u)(G:∃u,h'.get? e=S u)
   (new:dj X.prog X.w (upd H x o) h' x o):Inv X pins σ (upd H x o) {s with heap:=h',toks:=t'}:=I.un (Un.write O he k G) (I.hok.write O he k G new)
def Inv.weak {σ':↥(Option V)}(I:Inv X pins σ H s)(G:σ'.length=σ.length)(w:∀(i:Nat) v,σ'[i]?=S (S v)->σ[i]?=S (S v)):Inv X pins σ' H s:=
 ⟨I.ok,I.os,I.bare,I.base,let⟨m,O,Zk⟩:=I.loc;⟨m,O,λi x v e1 e2 e3=>Zk i x v e1 (w i v e2) e3⟩,I.cell,I.free,I.freeC,I.pin,I.hok,G.trans I.len⟩
def Inv.Ql {G:↥(J×Obj)}(I:Inv X pins σ H s)(h:∀p∈G,s.heap.get? p.1=S p.2/\H p.1=Z/\p.1≠X.env.locals/\p.1∉X.fs/\∀v,p.2.data≠.cell v):Inv X G σ H s:=
 ⟨I.ok,I.os,I.bare,I.base,I.loc,I.cell,I.free,I.freeC,λp O=>(List.mem_append.mp O).elim (λz=>I.pin p (Lb _ z)) (h p),I.hok,I.len⟩
def PL {N:↥Str}(G:N.Nodup){i j:Nat}{x:Str}(a:N[i]?=S x)(b:N[j]?=S x):i=j:=by
 obtain⟨h1,I⟩:=List.getElem?_eq_some_iff.mp a
 obtain⟨h2,O⟩:=List.getElem?_eq_some_iff.mp b
 show(List.getElem_inj G).mp (I.trans O.symm)
def Sj {M8:Model}{A:bD}{E:ae->aj->Prop}{i:Nat}{x:Str}{v:V}{u:ae}{Q:Unit->aj->Prop}(I:Inv X pins σ H s)(hN:X.N.Nodup)(hi:X.N[i]?=S x)(hx:Loc X.env.scope x)(r:RelV v u)
   (h:∀s',Inv X pins (σ.set i (S v)) H s'->(∃a,lj a s.heap s'.heap/\(a=X.env.locals\/X.env.cells.lookup x=S a))->Q () s') (hf:X.fn x=true\/X.env.scope.names.lookup x=S .local:=by first|show .inl rfl|show .inr rfl|assumption):aD M8 A (storeName X.env x u) Q E s:=by
 obtain⟨m,hn,hl⟩:=id I.loc
 have hcls:(X.env.scope.kind==.class || (X.env.scope.kind==.module&&X.env.locals != X.env.globals))=false:=by rw[I.ok.kind];rfl
 have hiσ:i<σ.length:=by rw[I.len];show(List.getElem?_eq_some_iff.mp hi).1
 have kr:=I.kr
 have O:∀{a:J} {h':Heap},(∃o,s.heap.get? a=S o/\H a=Z)->lj a s.heap h'->dH X.prog X.w H h':=λ{a h'} ha G b ob e=>by
   obtain⟨_,_,yl⟩:=ha
   show(I.hok b ob e).mm (λc w' hc q=>(G.2 c ?_).trans q) (λt q=>q) λt t q=>q
   rintro rfl
   rcases hc with rfl|hc
   . rw[yl]at e;cases e
   . rw[yl]at hc;cases hc
 rcases hx with hk|hk
 . show wpAny_storeName_local hk hn (λh' hn' G=>?_) hcls
   obtain⟨oL,_,_,ZQ,_⟩:=id hn
   show h _ ⟨I.ok,I.os,I.bare,⟨λb o e n hb hx=>?_,λb o e n hb hx=>?_,I.base.free,λb o e hx=>?_,I.base.tups,I.base.frzs,I.base.tbls⟩,⟨_,hn',λj y v' e1 e2 e3=>?_⟩,λy c e=>?_,I.free,I.freeC,λp hp=>?_,O ⟨oL,ZQ,I.free⟩ G,by simpa using I.len⟩ ⟨_,G,.inl rfl⟩
   . show(G.2 b (eV (gQ (bX e) I.ok.above))).trans (I.base.keep b o e n hb hx)
   . obtain⟨sl,e1⟩:=I.base.slot b o e n hb hx
     show⟨sl,(G.2 b (eV (gQ (bX e) I.ok.above))).trans e1⟩
   . obtain⟨o',e1⟩:=I.base.there b o e hx
     show⟨o',(G.2 b (eV (gQ (bX e) I.ok.above))).trans e1⟩
   . by_cases hj:j=i
     . subst hj
       rw[hi]at e1;cases e1
       rw[Ae hiσ]at e2
       cases e2
       show⟨u,r,.inl ⟨hk,by simp⟩⟩
     . rw[DW (mw hj)]at e2
       obtain⟨u',r',q⟩:=hl j y v' e1 e2 e3
       show⟨u',r',?_⟩
       rcases q with⟨k,e⟩|⟨k,c,e,z⟩
       . show .inl ⟨k,?_⟩
         have:y≠x:=λe=>hj (PL hN e1 (e▸hi))
         simp[this,e]
       . show .inr ⟨k,c,e,z.sameBut G (kr y c e)⟩
   . obtain⟨w',z⟩:=I.cell y c e
     show⟨w',z.sameBut G (kr y c e)⟩
   . obtain⟨e,n,ne,nf,d⟩:=I.pin p hp
     show⟨(G.2 p.1 ne).trans e,n,ne,nf,d⟩
 . have yk:X.fn x=true:=by
     rcases hf with z|z
     . show z
     . rw[z]at hk;cases hk
   obtain⟨c,hc⟩:=I.ok.has x (.inl hk)
   obtain⟨w',z⟩:=I.cell x c hc
   show wpAny_storeName_cell I.ok.kind hk hc z (λh' eZ G=>?_)
   obtain⟨oc,vP,ZT⟩:=id z
   show h {s with heap:=h'} ⟨I.ok,I.os,I.bare,⟨λb o e n hb hx=>?_,λb o e n hb hx=>?_,I.base.free,λb o e hx=>?_,I.base.tups,I.base.frzs,I.base.tbls⟩,⟨m,hn.sameBut G (mw (kr x c hc)),λj y v' e1 e2 e3=>?_⟩,λy c' e=>?_,I.free,I.freeC,λp hp=>?_,O ⟨oc,vP,I.freeC x c hc⟩ G,by simpa using I.len⟩ ⟨c,G,.inr hc⟩
   . show(G.2 b (eV (gQ (bX e) (I.ok.cab x c yk hc)))).trans (I.base.keep b o e n hb hx)
   . obtain⟨sl,e1⟩:=I.base.slot b o e n hb hx
     show⟨sl,(G.2 b (eV (gQ (bX e) (I.ok.cab x c yk hc)))).trans e1⟩
   . obtain⟨o',e1⟩:=I.base.there b o e hx
     show⟨o',(G.2 b (eV (gQ (bX e) (I.ok.cab x c yk hc)))).trans e1⟩
   . by_cases hj:j=i
     . subst hj
       rw[hi]at e1;cases e1
       rw[Ae hiσ]at e2
       cases e2
       show⟨u,r,.inr ⟨.inl hk,c,hc,eZ⟩⟩
     . rw[DW (mw hj)]at e2
       obtain⟨u',r',q⟩:=hl j y v' e1 e2 e3
       show⟨u',r',?_⟩
       rcases q with q|⟨k,c',e,z'⟩
       . show .inl q
       . show .inr ⟨k,c',e,z'.sameBut G ?_⟩
         rintro rfl
         show hj (PL hN e1 (I.ok.inj _ _ _ e hc▸hi))
   . by_cases kI:c'=c
     . subst kI;show⟨_,eZ⟩
     . obtain⟨w2,z2⟩:=I.cell y c' e
       show⟨w2,z2.sameBut G kI⟩
   . obtain⟨e,n,ne,nf,d⟩:=I.pin p hp
     show⟨(G.2 p.1 ?_).trans e,n,ne,nf,d⟩
     intro q
     rw[q,vP]at e
     have q':oc=p.2:=dX e
     show d w' (by rw[← q'];show ZT)
def rA {M8:Model}{A:bD}{E:ae->aj->Prop}{i:Nat}{x:Str}{v:V}{u:ae}{Q:Unit->aj->Prop}(I:Inv X pins σ H s)(G:X.N.Nodup)(hi:X.N[i]?=S x)(hx:Loc X.env.scope x)(r:RelV v u)
   (h:∀s',Inv X pins (σ.set i (S v)) H s'->Q () s') (hf:X.fn x=true\/X.env.scope.names.lookup x=S .local:=by first|show .inl rfl|show .inr rfl|assumption):aD M8 A (storeName X.env x u) Q E s:=
 Sj I G hi hx r (λs' O z=>h s' O) hf
def Inv.Mz {s':aj}{ch:↥J}(I:Inv X pins σ H s)(O:s'.os=s.os)(u:Un (eF X.stack) ch H H' s.heap s'.heap)(G:dH X.prog X.w H' s'.heap)(hg:oH s'.gens)
   (Op:∀b∈ch,(b∈X.ex\/X.s₀.heap.objs.size<=b)/\b≠X.env.locals/\(∀x c,X.env.cells.lookup x=S c->c≠b)/\∀p∈X.pn++pins,p.1≠b):Inv X pins σ H' s':=by
 obtain⟨h',g',d',t',o'⟩:=s'
 have e:o'=s.os:=O
 subst e
 show I.call (g':=g') (t':=t') (d':=d') u G hg Op
end
abbrev XK:=ae->Option J->Hp->Prop
abbrev St:=↥(Option V)
abbrev VK:=V->Hp->Prop
abbrev TE:=St->Hp->VK->Prop
abbrev TT:=St->Hp->(Bool->Hp->Prop)->Prop
abbrev TA:=St->Hp->(↥V->Hp->Prop)->Prop
structure Ends where
 nx:St->Hp->Prop
 rt:VK
 bk:St->Hp->Prop:=λ_ _=>False
 ct:St->Hp->Prop:=λ_ _=>False
abbrev TS:=Ends->St->Hp->Prop
def EP (X:Cx)(pins:↥(J×Obj))(σ:St)(Q:VK)(u:ae)(s':aj):Prop:=∃v H',Inv X pins σ H' s'/\RelV v u/\Q v H'
def TP (X:Cx)(pins:↥(J×Obj))(σ:St)(Q:Bool->Hp->Prop)(b:Bool)(s':aj):Prop:=∃H',Inv X pins σ H' s'/\Q b H'
def AP (X:Cx)(pins:↥(J×Obj))(σ:St)(Q:↥V->Hp->Prop)(us:↥ae)(s':aj):Prop:=∃vs H',Inv X pins σ H' s'/\Vals vs us/\Q vs H'
def SP (X:Cx)(pins:↥(J×Obj))(D:Ends)(f:Flow)(s':aj):Prop:=
 match f with
 | .next=>∃σ' H',Inv X pins σ' H' s'/\D.nx σ' H'
 | .brk=>∃σ' H',Inv X pins σ' H' s'/\D.bk σ' H'
 | .cont=>∃σ' H',Inv X pins σ' H' s'/\D.ct σ' H'
 | .ret u=>∃v σ' H',Inv X pins σ' H' s'/\RelV v u/\D.rt v H'
def PE (X:Cx)(e:Expr)(t:TE):Prop:=
 ∀(pins:↥(J×Obj)) (s:aj) (σ:St) (H:Hp) (Q:VK),Inv X pins σ H s->t σ H Q->aD (aI X.prog X.w) X.A (eval e X.env) (EP X pins σ Q) X.xe s
def PT (X:Cx)(e:Expr)(t:TT):Prop:=
 ∀(pins:↥(J×Obj)) (s:aj) (σ:St) (H:Hp) (Q:Bool->Hp->Prop),Inv X pins σ H s->t σ H Q->aD (aI X.prog X.w) X.A (isTrue e X.env (eval e X.env)) (TP X pins σ Q) X.xe s
def PW (X:Cx)(e:Expr)(t:TT):Prop:=
 ∀(G:Sem ae) (pins:↥(J×Obj)) (s:aj) (σ:St) (H:Hp) (Q:Bool->Hp->Prop),Inv X pins σ H s->t σ H Q->aD (aI X.prog X.w) X.A (isTrue e X.env G) (TP X pins σ Q) X.xe s
def PW.pt {X:Cx}{e:Expr}{t:TT}(h:PW X e t):PT X e t:=h _
def PA (X:Cx)(es:↥Expr)(t:TA):Prop:=
 ∀(ci:Pos) (pins:↥(J×Obj)) (s:aj) (σ:St) (H:Hp) (Q:↥V->Hp->Prop),Inv X pins σ H s->t σ H Q->aD (aI X.prog X.w) X.A (spliced (iB ci (cM es X.env))) (AP X pins σ Q) X.xe s
def PS (X:Cx)(st:Stmt)(t:TS):Prop:=
 ∀(pins:↥(J×Obj)) (s:aj) (σ:St) (H:Hp) (D:Ends),Inv X pins σ H s->t D σ H->aD (aI X.prog X.w) X.A (exec st X.env) (SP X pins D) X.xe s
def fR (X:Cx)(st:↥Stmt)(t:TS):Prop:=
 ∀(pins:↥(J×Obj)) (s:aj) (σ:St) (H:Hp) (D:Ends),Inv X pins σ H s->t D σ H->aD (aI X.prog X.w) X.A (execs st X.env) (SP X pins D) X.xe s
def aO {α:Type}{t:Sem α}{Q Q':α->aj->Prop}{M8:Model}{A:bD}{E:ae->aj->Prop}{s:aj}(h:aD M8 A t Q E s)(G:∀a s,Q a s->Q' a s):aD M8 A t Q' E s:=kh h G λz z x=>x
section
variable{X:Cx}
def qh (i:Nat):TE:=λσ H Q=>∃v,σ[i]?=S (S v)/\Q v H
def tC (v:V):TE:=λz H Q=>Q v H
def aeU {i:Nat}{x:Str}{ci:Pos}(hN:X.N[i]?=S x)(hv:AX X.env.scope x)(G:(x==("__debug__":Str))=false:=by left)(wS:(x==("__classdict__":Str))=false:=by left):PE X (.Name x ci) (qh i):=by
 intro pins s σ H Q I h
 obtain⟨v,e,h⟩:=h
 obtain⟨m,hn,hl⟩:=I.loc
 obtain⟨u,r,l⟩:=hl i x v hN e hv
 have fin:EP X pins σ Q u s:=⟨v,H,I,r,h⟩
 rcases l with⟨hk,hm⟩|⟨hk,c,hc,O⟩
 . show wpAny_Name (wpAny_loadName_local I.ok.kind hk hn hm fin) G
 . rcases hk with hk|hk
   . show wpAny_Name (wpAny_loadName_cell I.ok.kind hk hc O fin) G
   . show wpAny_Name (wpAny_loadName_free I.ok.kind hk hc O fin wS) G
def aeC {i j ci}:PE X (.Constant (.int i) j ci) (tC (.int i)):=λz z z H z I h=>wpAny_Constant_int ⟨.int i,H,I.tok _,⟨_,rfl⟩,h⟩
def aek {b j ci}:PE X (.Constant (.bool b) j ci) (tC (.bl b)):=λz z z H z I h=>Constant_bool ⟨.bl b,H,I,rfl,h⟩
def aeK {j ci}:PE X (.Constant .none j ci) (tC .aM):=λz z z H z I h=>Constant_none ⟨.aM,H,I,rfl,h⟩
def aeR {x j ci}:PE X (.Constant (.str x) j ci) (tC (.str x)):=λz z z H z I h=>Calls.Constant_str ⟨.str x,H,I.tok _,⟨_,rfl⟩,h⟩
def Gl (X:Cx)(x:Str):Prop:=X.env.kindOf x=S .globalImplicit
def vV {E:ae->aj->Prop}{pins:↥(J×Obj)}{s:aj}{σ:St}{H:Hp}{x:Str}{u:ae}{ci:Pos}{Q:ae->aj->Prop}(I:Inv X pins σ H s)(G:Gl X x)(O:X.mg x=S u)(h:Q u s)
   (hd:(x==("__debug__":Str))=false:=by left):aD (aI X.prog X.w) X.A (eval (.Name x ci) X.env) Q E s:=
 Up I.ok.kind G (Calls.loadGlobal_global (by rw[I.ok.glob];show I.mod.glob.keeps I.bk) O h) hd
def md {E:ae->aj->Prop}{pins:↥(J×Obj)}{s:aj}{σ:St}{H:Hp}{x:Str}{u:ae}{ci:Pos}{Q:ae->aj->Prop}(I:Inv X pins σ H s)(G:Gl X x)(O:X.mg x=Z)(hv:jc x=S u)(h:Q u s)
   (hn:x≠"__name__":=by left) (hd:(x==("__debug__":Str))=false:=by left):aD (aI X.prog X.w) X.A (eval (.Name x ci) X.env) Q E s:=by
 obtain⟨mb,h1,h2⟩:=I.mod.blt
 show Up I.ok.kind G (Calls.loadGlobal_builtin (by rw[I.ok.glob];show I.mod.glob.keeps I.bk) O (by rw[I.ok.blt];show h1.keeps I.bk) ((h2 x hn).trans hv) h) hd
def aeA {x:Str}{v:V}{u:ae}{ci:Pos}(G:Gl X x)(O:X.mg x=S u)(r:RelV v u)(hd:(x==("__debug__":Str))=false:=by left):PE X (.Name x ci) (tC v):=
 λz z z H z I h=>vV I G O ⟨v,H,I,r,h⟩ hd
def ael {x:Str}{v:V}{u:ae}{ci:Pos}(G:Gl X x)(O:X.mg x=Z)(hv:jc x=S u)(r:RelV v u)(hn:x≠"__name__":=by left)(hd:(x==("__debug__":Str))=false:=by left):PE X (.Name x ci) (tC v):=
 λz z z H z I h=>md I G O hv ⟨v,H,I,r,h⟩ hn hd
variable{a b:Expr}{ta tb:TE}{ci:Pos}
def PC (X:Cx)(op:CmpOp)(a b:Expr)(t:TE):Prop:=
 ∀(pins:↥(J×Obj)) (s:aj) (σ:St) (H:Hp) (Q:VK),Inv X pins σ H s->t σ H Q ->
   aD (aI X.prog X.w) X.A (eval a X.env) (λv s₁=>aD (aI X.prog X.w) X.A (eval b X.env) (λu s₂=>aD (aI X.prog X.w) X.A (dD op v u) (EP X pins σ Q) X.xe s₂) X.xe s₁) X.xe s
def tB (t:TE):TT:=λσ H Q=>t σ H λx H1=>∃c,x=.bl c/\Q c H1
def aeq {op:CmpOp}{t:TE}(h:PC X op a b t)(h1:oR op b=false:=by first|show G _ ∅ (∅)|rfl):PE X (.Compare a [op] [b] ci) t:=λpins s σ H Q I hw=>wpAny_Compare1 (h pins s σ H Q I hw) h1
def afG {op:CmpOp}{t:TE}(h:PC X op a b t)(h1:oR op b=false:=by first|show Il _ ∅ (∅)|rfl):PT X (.Compare a [op] [b] ci) (tB t):=by
 intro pins s σ H Q I hw
 show wpAny_isTrue_Compare1 (aO (h pins s σ H _ I hw) λv s1 h1=>aO h1 λu s2 h2=>aO h2 λc s3 G=>?_) h1
 obtain⟨x,H1,O,r1,q1⟩:=G
 obtain⟨d,rfl,q⟩:=q1
 cases r1
 show r6 ⟨H1,O,q⟩
def afJ {e:Expr}{t:TE}(h:PE X e t)(O:∀G,isTrue e X.env G=(do let v←G;lH e.pos;jr [v] (truthy v)):=by intro _;rfl):PT X e (tB t):=by
 intro pins s σ H Q I hw
 show isTrue_plain (aO (h pins s σ H _ I hw) λv s1 h9=>?_) (O _)
 obtain⟨x,H1,I1,r1,q1⟩:=h9
 obtain⟨d,rfl,q⟩:=q1
 cases r1
 show r6 ⟨H1,I1,q⟩
variable{tA Dl:TT}{ms:↥Expr}
def Sy (t u:TT):TT:=λσ H Q=>t σ H λc H1=>if c=true then u σ H1 Q else Q false H1
def Td (t u:TT):TT:=λσ H Q=>t σ H λc H1=>if c=true then Q true H1 else u σ H1 Q
def Tb (t:TT):TT:=λσ H Q=>t σ H λc H1=>Q (!c) H1
def afP (ha:PT X a tA):PW X (.BoolOp .And [a] ci) tA:=by
 intro G pins s σ H Q I h
 show isTrue_and (aO (ha pins s σ H Q I h) λc O e=>?_)
 cases c with
 | true=>show isTrue_and_nil e
 | false=>show e
def afR (ha:PT X a tA):PW X (.BoolOp .Or [a] ci) tA:=by
 intro G pins s σ H Q I h
 show isTrue_or (aO (ha pins s σ H Q I h) λc O e=>?_)
 cases c with
 | false=>show isTrue_or_nil e
 | true=>show e
def afO (ha:PT X a tA)(hb:PW X (.BoolOp .And (b::ms) ci) Dl):PW X (.BoolOp .And (a::b::ms) ci) (Sy tA Dl):=by
 intro wh pins s σ H Q I h
 show isTrue_and (aO (ha pins s σ H _ I h) λc s1 h9=>?_)
 obtain⟨H1,G,O⟩:=h9
 cases c with
 | true=>show hb wh pins s1 σ H1 Q G O
 | false=>show⟨H1,G,O⟩
def afQ (ha:PT X a tA)(hb:PW X (.BoolOp .Or (b::ms) ci) Dl):PW X (.BoolOp .Or (a::b::ms) ci) (Td tA Dl):=by
 intro wh pins s σ H Q I h
 show isTrue_or (aO (ha pins s σ H _ I h) λc s1 h9=>?_)
 obtain⟨H1,G,O⟩:=h9
 cases c with
 | true=>show⟨H1,G,O⟩
 | false=>show hb wh pins s1 σ H1 Q G O
def afI (ha:PT X a tA):PT X (.UnaryOp .Not a ci) (Tb tA):=by
 intro pins s σ H Q I h
 show isTrue_not (ha pins s σ H (λc H1=>Q (!c) H1) I h)
def Sz (ta tb:TE):TE:=λσ H Q=>ta σ H λx H1=>∃c,x=.bl c/\if c=true then tb σ H1 Q else Q (.bl false) H1
def Te (ta tb:TE):TE:=λσ H Q=>ta σ H λx H1=>∃c,x=.bl c/\if c=true then Q (.bl true) H1 else tb σ H1 Q
def Tc (ta:TE):TE:=λσ H Q=>ta σ H λx H1=>∃c,x=.bl c/\Q (.bl (!c)) H1
def aeM {op}{t:TE}(h:PE X a t):PE X (.BoolOp op [a] ci) t:=λpins s σ H Q I hw=>BoolOp_one (h pins s σ H Q I hw)
def aej (ha:PE X a ta)(hb:PE X (.BoolOp .And (b::ms) ci) tb):PE X (.BoolOp .And (a::b::ms) ci) (Sz ta tb):=by
 intro pins s σ H Q I h
 show BoolOp_and (aO (ha pins s σ H _ I h) λv s1 h9=>?_)
 obtain⟨x,H1,O,r1,G⟩:=h9
 obtain⟨c,rfl,G⟩:=G
 cases r1
 show r6 ?_
 cases c with
 | true=>show hb pins s1 σ H1 Q O G
 | false=>show⟨.bl false,H1,O,rfl,G⟩
def aeO (ha:PE X a ta)(hb:PE X (.BoolOp .Or (b::ms) ci) tb):PE X (.BoolOp .Or (a::b::ms) ci) (Te ta tb):=by
 intro pins s σ H Q I h
 show BoolOp_or (aO (ha pins s σ H _ I h) λv s1 h9=>?_)
 obtain⟨x,H1,O,r1,G⟩:=h9
 obtain⟨c,rfl,G⟩:=G
 cases r1
 show r6 ?_
 cases c with
 | false=>show hb pins s1 σ H1 Q O G
 | true=>show⟨.bl true,H1,O,rfl,G⟩
def aeL (ha:PE X a ta):PE X (.UnaryOp .Not a ci) (Tc ta):=by
 intro pins s σ H Q I h
 show UnaryOp_ (aO (ha pins s σ H _ I h) λv s1 O=>?_)
 obtain⟨x,H1,I1,r1,G⟩:=O
 obtain⟨c,rfl,G⟩:=G
 cases r1
 show not_of (r6 ⟨.bl (!c),H1,I1,U,G⟩)
def S5 (t:TT)(ta tb:TE):TE:=λσ H Q=>t σ H λc H1=>if c=true then ta σ H1 Q else tb σ H1 Q
def aeB {c:Expr}(hc:PT X c tA)(ha:PE X a ta)(hb:PE X b tb):PE X (.IfExp c a b ci) (S5 tA ta tb):=by
 intro pins s σ H Q I h
 show wpAny_IfExp (aO (hc pins s σ H _ I h) λd G h9=>?_)
 obtain⟨H1,O,q1⟩:=h9
 cases d with
 | true=>show ha pins G σ H1 Q O q1
 | false=>show hb pins G σ H1 Q O q1
end
def af (K:av)(H:Hp)(a:J)(xs:↥V):Prop:=
 Rd H a (.lst xs) \/
   ∃(o:Obj) (G:Array ae) (n:Nat),K.lookup a=S o/\o.cls=.type "list"/\o.dict=Z/\o.data=.seq G n/\G.size<=sizeLine/\Vals xs G.toList
def bQ (K:av)(H:Hp)(a:J)(xs:↥V):Prop:=
 Rd H a (.tup xs) \/
   ∃(o:Obj) (G:Array ae) (n:Nat),K.lookup a=S o/\o.cls=.type "tuple"/\o.data=.seq G n/\G.size<=sizeLine/\Vals xs G.toList
def Vn:ae->Option V
 | .none=>S .aM
 | .bool b=>S (.bl b)
 | .int i _=>S (.int i)
 | .str x _=>S (.str x)
 | .bytes b _=>S (.byt b)
 | .float b _=>S (.flt b)
 | .ref a=>S (.ref a)
 | .type n=>S (.ty n)
 | _=>Z
def RelV.abs {x:V}{u:ae}(r:RelV x u):Vn u=S x:=by
 cases x with
 | aM=>cases r;rfl
 | bl _=>cases r;rfl
 | int _=>obtain⟨t,rfl⟩:=r;rfl
 | str _=>obtain⟨t,rfl⟩:=r;rfl
 | byt _=>obtain⟨t,rfl⟩:=r;rfl
 | flt _=>obtain⟨t,rfl⟩:=r;rfl
 | ref _=>cases r;rfl
 | ty _=>cases r;rfl
def RelV.inj {x y:V}{u:ae}(r:RelV x u)(q:RelV y u):x=y:=dX (r.abs.symm.trans q.abs)
theorem Vals.inj:∀{xs ys:↥V} {us:↥ae},Vals xs us->Vals ys us->xs=ys
 | _,_,_,.nil,.nil=>rfl
 | _,_,_,.cons r t,.cons G t'=>by rw[r.inj G,Vals.inj t t']
section
variable{X:Cx}{pins:↥(J×Obj)}{σ:St}{H:Hp}{s:aj}{a:J}{xs ys:↥V}
def af.of {K:av}(h:H a=S (.lst xs)):af K H a xs:=.inl (.inl h)
def bQ.of {K:av}(h:H a=S (.tup xs)):bQ K H a xs:=.inl (.inl h)
def Inv.list (I:Inv X pins σ H s)(h:af X.K H a xs):∃G:↥ae,Vals xs G/\PlainL s.heap a G.toArray/\↑xs<=sizeLine:=by
 rcases h with h|⟨o,G,n,hk,hc,O,hs,hz,r⟩
 . obtain⟨z,G,n,r,e⟩:=h.ok I.hok
   show⟨G,r,⟨_,n,e,U,U,U⟩,z⟩
 . show⟨G.toList,r,⟨o,n,I.dQ a o hk,hc,O,by simpa using hs⟩,?_⟩
   have e:=↑r
   simp only[DC]at e
   lia
def Inv.tuple (I:Inv X pins σ H s)(h:bQ X.K H a xs):∃G:↥ae,Vals xs G/\IsTup s.heap a G.toArray/\↑xs<=sizeLine:=by
 rcases h with h|⟨o,G,n,hk,hc,O,hz,r⟩
 . obtain⟨z,G,r,p⟩:=h.ok I.hok
   show⟨G,r,p,z⟩
 . show⟨G.toList,r,⟨o,I.dQ a o hk,hc,n,by simpa using O⟩,?_⟩
   have e:=↑r
   simp only[DC]at e
   lia
def Inv.tZ (I:Inv X pins σ H s)(h:af X.K H a xs)(h':af X.K H a ys):xs=ys:=by
 obtain⟨O,r,⟨o,n,e,_,_,d⟩,_⟩:=I.list h
 obtain⟨its',r',⟨o',n',G,_,_,d'⟩,_⟩:=I.list h'
 rw[e]at G;cases G
 rw[d]at d'
 injection d' with d1 _
 have:O=its':=by simpa using congrArg KI d1
 subst this
 show r.inj r'
def Inv.ahk (I:Inv X pins σ H s)(h:bQ X.K H a xs)(h':bQ X.K H a ys):xs=ys:=by
 obtain⟨O,r,⟨o,e,_,n,d⟩,_⟩:=I.tuple h
 obtain⟨its',r',⟨o',G,_,n',d'⟩,_⟩:=I.tuple h'
 rw[e]at G;cases G
 rw[d]at d'
 injection d' with d1 _
 have:O=its':=by simpa using congrArg KI d1
 subst this
 show r.inj r'
end
abbrev Cx.oG (X:Cx)(E:ae->aj->Prop):Cx:={X with xe:=E}
abbrev Cx.pX (X:Cx):Cx:=X.oG λ_ _=>False
def Cx.Ok.oG {X:Cx}(ok:X.Ok)(E:ae->aj->Prop):(X.oG E).Ok:=
 ⟨ok.mod,ok.kind,ok.glob,ok.blt,ok.above,ok.inj,ok.has,ok.cab,ok.hd,ok.frames,ok.stk,ok.exf,ok.bs,ok.bsz,ok.noex,ok.exfs,ok.ij,ok.frf⟩
def Cx.Ok.rD {X:Cx}{E:ae->aj->Prop}(ok:(X.oG E).Ok):X.Ok:=
 ⟨ok.mod,ok.kind,ok.glob,ok.blt,ok.above,ok.inj,ok.has,ok.cab,ok.hd,ok.frames,ok.stk,ok.exf,ok.bs,ok.bsz,ok.noex,ok.exfs,ok.ij,ok.frf⟩
section
variable{X:Cx}{pins:↥(J×Obj)}{σ:St}{H:Hp}{s:aj}{E:ae->aj->Prop}
def Inv.oG (I:Inv X pins σ H s)(E:ae->aj->Prop):Inv (X.oG E) pins σ H s:=⟨I.ok.oG E,I.os,I.bare,I.base,I.loc,I.cell,I.free,I.freeC,I.pin,I.hok,I.len⟩
def Inv.rD (I:Inv (X.oG E) pins σ H s):Inv X pins σ H s:=⟨I.ok.rD,I.os,I.bare,I.base,I.loc,I.cell,I.free,I.freeC,I.pin,I.hok,I.len⟩
theorem SP.rD {D:Ends}{f:Flow}{s':aj}(h:SP (X.oG E) pins D f s'):SP X pins D f s':=by
 cases f with
 | next=>obtain⟨σ',H',I,q⟩:=h;show⟨σ',H',I.rD,q⟩
 | brk=>obtain⟨σ',H',I,q⟩:=h;show⟨σ',H',I.rD,q⟩
 | cont=>obtain⟨σ',H',I,q⟩:=h;show⟨σ',H',I.rD,q⟩
 | ret u=>obtain⟨v,σ',H',I,r,q⟩:=h;show⟨v,σ',H',I.rD,r,q⟩
def fR.pX {st:↥Stmt}{t:TS}(h:fR X.pX st t):fR X st t:=λpins s σ H D I hw=>
 kh (h pins s σ H D (I.oG _) hw) (λy y q=>q.rD) λy y z=>gD z
end
section
variable{X:Cx}{st:Stmt}{ms:↥Stmt}{t u:TS}{e:Expr}{te:TE}{ci:Pos}
def Ta:TS:=λD σ H=>D.nx σ H
def kX (t u:TS):TS:=λD σ H=>t {D with nx:=u D} σ H
def afD:fR X [] Ta:=λz z σ H z I h=>Em ⟨σ,H,I,h⟩
def afB (h1:PS X st t)(h2:fR X ms u):fR X (st::ms) (kX t u):=by
 intro pins s σ H D I h
 show wpAny_execs_cons (aO (h1 pins s σ H {D with nx:=u D} I h) λf G q=>?_)
 cases f with
 | next=>
   obtain⟨σ',H',O,q⟩:=q
   show h2 pins G σ' H' D O q
 | ret v=>show q
 | brk=>show q
 | cont=>show q
def afE (h1:PS X st t):fR X [st] t:=by
 intro pins s σ H D I h
 show wpAny_execs_cons (aO (h1 pins s σ H D I h) λf G q=>?_)
 cases f with
 | next=>show Em q
 | ret v=>show q
 | brk=>show q
 | cont=>show q
def Inv.quiet {pins:↥(J×Obj)}{σ:St}{H:Hp}{s:aj}(I:Inv X pins σ H s):interactive X.env=false:=by simp[interactive,I.ok.kind]
def S2 (te:TE):TS:=λD σ H=>te σ H λz H1=>D.nx σ H1
def afn (G:PE X e te)(O:lI e Z ci.line X.env=pure false:=by rfl):PS X (.Expr e ci) (S2 te):=by
 intro pins s σ H D I h
 show wpAny_Expr_any (aO (G pins s σ H _ I h) λv s1 h9=>?_) I.quiet O
 obtain⟨x,H1,I1,r1,q1⟩:=h9
 show⟨σ,H1,I1,q1⟩
def Ti (te:TE):TS:=λD σ H=>te σ H D.rt
def afw (G:PE X e te):PS X (.Return (S e) ci) (Ti te):=by
 intro pins s σ H D I h
 show wpAny_Return_some (aO (G pins s σ H _ I h) λv s1 O=>?_)
 obtain⟨x,H1,I1,r1,q1⟩:=O
 show⟨x,σ,H1,I1,r1,q1⟩
def S6 (c:TT)(t u:TS):TS:=λD σ H=>c σ H λb H1=>if b=true then t D σ H1 else u D σ H1
def afq {c:Expr}{a b:↥Stmt}{tc:TT}(hc:PT X c tc)(ha:fR X a t)(hb:fR X b u):PS X (.If c a b ci) (S6 tc t u):=by
 intro pins s σ H D I h
 show wpAny_If (aO (hc pins s σ H _ I h) λd G h9=>?_)
 obtain⟨H1,O,q1⟩:=h9
 cases d with
 | true=>show ha pins G σ H1 D O q1
 | false=>show hb pins G σ H1 D O q1
def S9:TS:=λz z z=>False
def afC {G:↥Stmt}:fR X G S9:=λz z z z z z h=>h.elim
end
abbrev TG:=V->St->Hp->(St->Hp->Prop)->Prop
abbrev nM:=↥V->St->Hp->(St->Hp->Prop)->Prop
def PG (X:Cx)(G:Expr)(t:TG):Prop:=
 ∀(pins:↥(J×Obj)) (s:aj) (σ:St) (H:Hp) (v:V) (u:ae) (Q:St->Hp->Prop),Inv X pins σ H s->RelV v u->t v σ H Q ->
   aD (aI X.prog X.w) X.A (assign G X.env u) (λz s'=>∃σ' H',Inv X pins σ' H' s'/\Q σ' H') X.xe s
def xG (X:Cx)(G:↥Expr)(t:nM):Prop:=
 ∀(pins:↥(J×Obj)) (s:aj) (σ:St) (H:Hp) (vs:↥V) (us:↥ae) (Q:St->Hp->Prop),Inv X pins σ H s->Vals vs us->t vs σ H Q ->
   aD (aI X.prog X.w) X.A (As ((nq G X.env).map (·.2)) us) (λz s'=>∃σ' H',Inv X pins σ' H' s'/\Q σ' H') X.xe s
abbrev EX:=V->V->V->Hp->(Hp->Prop)->Prop
def L4 (X:Cx)(t:EX):Prop:=
 ∀(pins:↥(J×Obj)) (s:aj) (σ:St) (H:Hp) (o i v:V) (G I u:ae) (Q:Hp->Prop),Inv X pins σ H s->RelV o G->RelV i I->RelV v u->t o i v H Q ->
   aD (aI X.prog X.w) X.A (setItem G I u) (λz s'=>∃H',Inv X pins σ H' s'/\Q H') X.xe s
section
variable{X:Cx}{ci:Pos}
def gK (i:Nat):TG:=λv σ H Q=>Q (σ.set i (S v)) H
def aeV {i:Nat}{x:Str}(G:X.N.Nodup)(hi:X.N[i]?=S x)(hx:Loc X.env.scope x)(hf:X.fn x=true\/X.env.scope.names.lookup x=S .local:=by first|show .inl rfl|show .inr rfl|assumption):PG X (.Name x ci) (gK i):=by
 intro pins s σ H v u Q I r h
 show wpAny_assign_Name (rA I G hi hx r (λs' O=>⟨_,H,O,h⟩) hf)
def vo:nM:=λvs σ H Q=>vs=[]/\Q σ H
def lS (t:TG)(u:nM):nM:=λvs σ H Q=>∃v r,vs=v::r/\t v σ H λσ' H'=>u r σ' H' Q
def aeZ:xG X [] vo:=by
 intro pins s σ H vs us Q I r h
 obtain⟨e,h⟩:=h
 subst e
 cases r
 show Ly ⟨σ,H,I,h⟩
def aeY {e:Expr}{es:↥Expr}{t:TG}{u:nM}(h1:PG X e t)(h2:xG X es u)
   (G:(nq (e::es) X.env).map (·.2)=assign e X.env::(nq es X.env).map (·.2):=by rfl):xG X (e::es) (lS t u):=by
 intro pins s σ H vs us Q I r h
 obtain⟨v,vr,O,h⟩:=h
 subst O
 cases r with
 | cons r rr=>
   rw[G]
   show xi (aO (h1 pins s σ H _ _ _ I r h) λz s1 h9=>?_)
   obtain⟨σ1,H1,I1,q1⟩:=h9
   show h2 pins s1 σ1 H1 _ _ Q I1 rr q1
def vp (K:av)(n:Nat)(t:nM):TG:=λv σ H Q=>∃a xs,v=.ref a/\bQ K H a xs/\↑xs=n/\t xs σ H Q
def aeX {es:↥Expr}{k:Nat}{t:nM}{n:Nat}(hc:X.calm=true)(h:xG X es t)
   (hn:↑(nq es X.env)=n:=by rfl) (G:(nq es X.env).findIdx? (·.1)=Z:=by rfl):PG X (.Tuple es k ci) (vp X.K n t):=by
 intro pins s σ H v u Q I r hw
 obtain⟨a,xs,e1,hq,hl,hw⟩:=hw
 subst e1
 cases r
 obtain⟨dL,O,ht,hz⟩:=I.tuple hq
 show assign_Tuple_tuple (I.ok.hd hc) ht (by simp[hn,← hl,O.length]) G λh' hx=>?_
 have I1:Inv X pins σ H {s with heap:=h'}:=I.kept (t':=s.toks) λb o e=>hx b o (eV (bX e)) e
 show h pins _ σ H xs _ Q I1 (by simpa using O) hw
def Nr (to G:TE)(t:EX):TG:=λv σ H Q=>to σ H λo H1=>G σ H1 λi H2=>t o i v H2 λI=>Q σ I
def aeW {o i:Expr}{to ti:TE}{t:EX}(ho:PE X o to)(hi:PE X i ti)(hs:L4 X t)
   (ha:∀v,assign (.Subscript o i ci) X.env v=(do
     let G←jr [v] (eval o X.env)
     let O←jr [v,G] (eval i X.env)
     lH ci
     jr [v,G,O] (setItem G O v)
     release [v,G,O] []):=by intro _;rfl):PG X (.Subscript o i ci) (Nr to ti t):=by
 intro pins s σ H v u Q I r h
 rw[ha]
 show aq (hW (aO (ho pins s σ H _ I h) λG s1 h9=>?_))
 obtain⟨x,H1,I1,r1,q1⟩:=h9
 show aq (hW (aO (hi pins s1 σ H1 _ I1 q1) λO s2 h9=>?_))
 obtain⟨y,H2,I2,r2,q2⟩:=h9
 show aq (qw (aq (hW (aO (hs pins s2 σ H2 x y v G O u _ I2 r1 r2 r q2) λz s3 h9=>?_))))
 obtain⟨H3,I3,q3⟩:=h9
 show wpAny_release ⟨σ,H3,I3,q3⟩
def qg (te:TE)(g:TG):TS:=λD σ H=>te σ H λx H1=>g x σ H1 D.nx
def afl {tg e:Expr}{te:TE}{g:TG}(G:PE X e te)(O:PG X tg g)(hs:xr [tg] e ci.line X.env=pure false:=by rfl)(hw:xq [tg] e X.env=pure Z:=by rfl)
   (h1:(nq [tg] X.env).map (·.2)=[assign tg X.env]:=by rfl):PS X (.Assign [tg] e ci) (qg te g):=by
 intro pins s σ H D I h
 show wpAny_Assign_stores (aO (G pins s σ H _ I h) λv s1 h9=>?_) hs hw
 obtain⟨x,H1,I1,r1,q1⟩:=h9
 rw[h1]
 show aO (O pins s1 σ H1 x v _ I1 r1 q1) λz s2 q=>q
def afx {i:Nat}{x:Str}{e:Expr}{te:TE}{pi:Pos}(G:X.N.Nodup)(hi:X.N[i]?=S x)(hx:Loc X.env.scope x)(O:PE X e te)(hs:lI e (S (.Name x pi)) ci.line X.env=pure false:=by rfl)(hf:X.fn x=true\/X.env.scope.names.lookup x=S .local:=by first|show .inl rfl|show .inr rfl|assumption) :
   PS X (.Assign [.Name x pi] e ci) (qg te (gK i)):=by
 intro pins s σ H D I h
 show wpAny_Assign_Name (aO (O pins s σ H _ I h) λv s1 h9=>?_) hs
 obtain⟨y,H1,I1,r1,q1⟩:=h9
 show rA I1 G hi hx r1 (λs2 I2=>⟨_,H1,I2,q1⟩) hf
end
structure It where
 go:Nat->Hp->Prop
 yld:Nat->Hp->V->Hp->Prop
 stop:Nat->Hp->Prop
def fC (X:Cx)(pins:↥(J×Obj))(H:Hp)(b:J):Prop:=
 H b=Z/\b≠X.env.locals/\b∉X.fs/\(b∈X.ex\/X.s₀.heap.objs.size<=b)/\(∀x c,X.env.cells.lookup x=S c->c≠b)/\∀p∈X.pn++pins,p.1≠b
def Inv.nU {X:Cx}{pins:↥(J×Obj)}{σ:St}{H H':Hp}{s:aj}{b:J}(I:Inv X pins σ H s)(hb:s.heap.objs.size<=b)(G:H' b=Z):fC X pins H' b:=by
 show⟨G,xf (gQ I.lt hb),I.abN hb,.inr (ck I.sz hb),λx c e z=>?_,λp O z=>?_⟩
 . obtain⟨v,q⟩:=I.cell x c e
   show ao (gQ q.lt (by rw[z];show hb)) (rP _)
 . show ao (gQ (bX (I.pin p O).1) (by rw[z];show hb)) (rP _)
structure Turn (P:bo)(w:aY)(K:av)(tg:Expr)(J8:It)(fp:↥J)(it:J)(tn:Nat->Heap->Prop):Prop where
 mem:it∈fp
 obj:∀i h,tn i h->∀b∈fp,∃o,h.get? b=S o/\∀v,o.data≠.cell v
 keep:∀i h h',tn i h->(∀b∈fp,∀o,h.get? b=S o->h'.get? b=S o)->tn i h'
 item:∀(X:Cx),X.prog=P->X.w=w->X.K=K->X.calm=true->∀(i:Nat) (pins:↥(J×Obj)) (s:aj) (σ:St) (H:Hp) (E:ae->aj->Prop),Inv X pins σ H s->(∀b∈fp,fC X pins H b)->tn i s.heap->J8.go i H ->
   aD (aI P w) X.A (lF (.ref it)) (λr s1=>∃u,r=S u /\
     aD (aI P w) X.A (Ej tg (.ref it) u) (λ_ s2=>∃x H',Inv X pins σ H' s2/\RelV x u/\J8.yld i H x H'/\tn (i+1) s2.heap/\∀b∈fp,H' b=Z) E s1) E s
 done:∀(X:Cx),X.prog=P->X.w=w->X.K=K->X.calm=true->∀(i:Nat) (pins:↥(J×Obj)) (s:aj) (σ:St) (H:Hp) (E:ae->aj->Prop),Inv X pins σ H s->(∀b∈fp,fC X pins H b)->tn i s.heap->J8.stop i H ->
   aD (aI P w) X.A (lF (.ref it)) (λr s1=>r=Z/\Inv X pins σ H s1) E s
 self:∀(A:bD) (i:Nat) (s:aj) (Q:ae->aj->Prop) (E:ae->aj->Prop),tn i s.heap->Q (.ref it) s->aD (aI P w) A (pyIter (.ref it)) Q E s
abbrev TI:=St->Hp->(It->Hp->Prop)->Prop
def L0 (X:Cx)(pins:↥(J×Obj))(σ:St)(tg:Expr)(R:It->Hp->Prop)(G:ae)(I:aj):Prop:=
 ∃(it:J) (fp:↥J) (tn:Nat->Heap->Prop) (J8:It) (H':Hp),G=.ref it/\Inv X pins σ H' I/\Turn X.prog X.w X.K tg J8 fp it tn/\tn 0 I.heap/\(∀b∈fp,fC X pins H' b)/\R J8 H'
def PI (X:Cx)(tg iter:Expr)(wi:TI):Prop:=
 ∀(pins:↥(J×Obj)) (s:aj) (σ:St) (H:Hp) (R:It->Hp->Prop),Inv X pins σ H s->wi σ H R ->
   aD (aI X.prog X.w) X.A (eval iter X.env) (λv G=>aD (aI X.prog X.w) X.A (pyIter v) (L0 X pins σ tg R) X.xe G) X.xe s
def FX {M8:Model}{A:bD}{E:ae->aj->Prop}{s:aj}{tg:Expr}{it:J}{u:ae}{o:Obj}{n:String}{vs:Array ae}{Q:Unit->aj->Prop}(I:s.heap.get? it=S o)(hc:o.cls=.type n)(O:o.data=.fields vs)
   (hn:["enumerate","zip","dict_itemiterator","dict_reverseitemiterator","odict_iterator","itertools.zip_longest","itertools.pairwise"].contains n=false) (G:Q () s):aD M8 A (Ej tg (.ref it) u) Q E s:=by
 unfold Ej
 cases tg<;>first
   | show aS G
   | (cases u<;>first
       | show aS G
       | (show aq (wpAny_load I ?_)
          rw[hc,O]
          change aD M8 A (if(["enumerate","zip","dict_itemiterator","dict_reverseitemiterator","odict_iterator","itertools.zip_longest","itertools.pairwise"].contains n&&vs[0]?==S (rawInt _))=true then _ else _) Q E s
          rw[az (by intro h;rw[hn,wO]at h;cases h)]
          show aS G))
def uX (K:av)(a:J):It:=
 ⟨λi H=>∃xs x,af K H a xs/\xs[i]?=S x,λi H x H'=>H'=H/\∀xs,af K H a xs->xs[i]?=S x,λi H=>∃xs,af K H a xs/\↑xs<=i⟩
def uY (K:av)(a:J):It:=
 ⟨λi H=>∃xs x,bQ K H a xs/\xs[i]?=S x,λi H x H'=>H'=H/\∀xs,bQ K H a xs->xs[i]?=S x,λi H=>∃xs,bQ K H a xs/\↑xs<=i⟩
def qy (lo:Int)(n:Nat):It:=⟨λi z=>i<n,λi H x H'=>H'=H/\x=.int (lo+i),λi z=>n<=i⟩
def ahm {P:bo}{w:aY}{K:av}{tg:Expr}(a it:J):Turn P w K tg (uX K a) [it] it (λi h=>h.IsListIter it a i) where
 mem:=by simp
 obj:=λi h st b hb=>by
   have e:b=it:=by simpa using hb
   subst e
   obtain⟨o,e,c,d⟩:=st
   show⟨o,e,λv z=>by rw[d]at z;cases z⟩
 keep:=λi h h' st k=>st.at λo e=>k it (by simp) o e
 item:=by
   intro X hP hw hK hc i pins s σ H E I hf st hg
   subst hP hw hK
   obtain⟨xs,x,hq,hx⟩:=hg
   obtain⟨dL,rv,p,hz⟩:=I.list hq
   obtain⟨u,hu,ru⟩:=rv.get hx
   obtain⟨f0,f1,f2,f3,f4,f5⟩:=hf it (by simp)
   show wpAny_pyNext_list_item st p.isList (x:=u) (by simpa using hu) λh' oE sb=>?_
   have I1:Inv X pins σ H {s with heap:=h'}:=I.turned (t':=s.toks) (λb o hb e=>(sb.2 b hb).trans e) f0 f1 f3 f4 f5
   obtain⟨o,e,c,d⟩:=id oE
   show⟨u,U,FX (s:={s with heap:=h'}) e c d ∅ ⟨x,H,I1,ru,⟨U,λys hy=>by rw[I.tZ hy hq];show hx⟩,oE,λb hb=>(hf b hb).1⟩⟩
 done:=by
   intro X hP hw hK hc i pins s σ H E I hf st hg
   subst hP hw hK
   obtain⟨xs,hq,hx⟩:=hg
   obtain⟨dL,rv,p,hz⟩:=I.list hq
   obtain⟨f0,f1,f2,f3,f4,f5⟩:=hf it (by simp)
   have hl:=↑rv
   show wpAny_pyNext_list_end (I.ok.hd hc) st p.isList (by simp;lia) λh' eb=>⟨U,I.turned (t':=s.toks) (λb o hb e=>eb b o hb e) f0 f1 f3 f4 f5⟩
 self:=λy y y y y st h=>wpAny_pyIter_listiter st h
def ahq {P:bo}{w:aY}{K:av}{tg:Expr}(a it:J):Turn P w K tg (uY K a) [it] it (λi h=>h.IsTupleIter it a i) where
 mem:=by simp
 obj:=λi h st b hb=>by
   have e:b=it:=by simpa using hb
   subst e
   obtain⟨o,e,c,d⟩:=st
   show⟨o,e,λv z=>by rw[d]at z;cases z⟩
 keep:=λi h h' st k=>st.at λo e=>k it (by simp) o e
 item:=by
   intro X hP hw hK hc i pins s σ H E I hf st hg
   subst hP hw hK
   obtain⟨xs,x,hq,hx⟩:=hg
   obtain⟨dL,rv,p,hz⟩:=I.tuple hq
   obtain⟨u,hu,ru⟩:=rv.get hx
   obtain⟨f0,f1,f2,f3,f4,f5⟩:=hf it (by simp)
   show wpAny_pyNext_tuple_item st (show s.heap.IsTuple a dL.toArray from p) (x:=u) (by simpa using hu) λh' oE sb=>?_
   have I1:Inv X pins σ H {s with heap:=h'}:=I.turned (t':=s.toks) (λb o hb e=>(sb.2 b hb).trans e) f0 f1 f3 f4 f5
   obtain⟨o,e,c,d⟩:=id oE
   show⟨u,U,FX (s:={s with heap:=h'}) e c d ∅ ⟨x,H,I1,ru,⟨U,λys hy=>by rw[I.ahk hy hq];show hx⟩,oE,λb hb=>(hf b hb).1⟩⟩
 done:=by
   intro X hP hw hK hc i pins s σ H E I hf st hg
   subst hP hw hK
   obtain⟨xs,hq,hx⟩:=hg
   obtain⟨dL,rv,p,hz⟩:=I.tuple hq
   obtain⟨f0,f1,f2,f3,f4,f5⟩:=hf it (by simp)
   have hl:=↑rv
   show wpAny_pyNext_tuple_end (I.ok.hd hc) st (show s.heap.IsTuple a dL.toArray from p) (by simp;lia) λh' eb=>⟨U,I.turned (t':=s.toks) (λb o hb e=>eb b o hb e) f0 f1 f3 f4 f5⟩
 self:=λy y y y y st h=>wpAny_pyIter_tupleiter st h
def ahp {P:bo}{w:aY}{K:av}{tg:Expr}(it:J)(lo:Int)(n:Nat):Turn P w K tg (qy lo n) [it] it (λi h=>IsRangeIter h it (lo+(i:Nat)*1) ((n:Int)-(i:Nat)) 1) where
 mem:=by simp
 obj:=λi h st b hb=>by
   have e:b=it:=by simpa using hb
   subst e
   show⟨_,st,λv z=>by
     have z':Data.fields _=Data.cell v:=z
     cases z'⟩
 keep:=λi h h' st k=>k it (by simp) _ st
 item:=by
   intro X hP hw hK hc i pins s σ H E I hf st hg
   subst hP hw hK
   obtain⟨f0,f1,f2,f3,f4,f5⟩:=hf it (by simp)
   have W:=Walks.range (prog:=X.prog) (w:=X.w) (I.ok.hd hc) it lo 1 n
   show W.item i s _ _ hg st λv h' tk hv oE kk=>?_
   obtain⟨t,rfl⟩:=hv
   have I1:Inv X pins σ H {s with heap:=h',toks:=tk}:=I.turned (λb o hb e=>kk b o (by simpa using hb) e) f0 f1 f3 f4 f5
   show aa U (FX (s:={s with heap:=h',toks:=tk}) (n:="range_iterator") oE rfl rfl ∅ ⟨.int (lo+i),H,I1,⟨t,?_⟩,⟨U,U⟩,oE,λb hb=>(hf b hb).1⟩)
   rw[Int.mul_one]
 done:=by
   intro X hP hw hK hc i pins s σ H E I hf st hg
   subst hP hw hK
   obtain⟨f0,f1,f2,f3,f4,f5⟩:=hf it (by simp)
   show wpAny_pyNext_range_end (I.ok.hd hc) st (by have:n<=i:=hg;lia) λh' eb=>⟨U,I.turned (t':=s.toks) (λb o hb e=>eb b o hb e) f0 f1 f3 f4 f5⟩
 self:=λy y y y y st h=>wpAny_pyIter_rangeiter st h
section
variable{X:Cx}{tg:Expr}
def OI (K:av)(tl:TE):TI:=λσ H R=>tl σ H λx H1=>∃a,x=.ref a/\(∃xs,af K H1 a xs)/\R (uX K a) H1
def OK (K:av)(tl:TE):TI:=λσ H R=>tl σ H λx H1=>∃a,x=.ref a/\(∃xs,bQ K H1 a xs)/\R (uY K a) H1
def ae1 {l:Expr}{tl:TE}(hl:PE X l tl):PI X tg l (OI X.K tl):=by
 intro pins s σ H R I h
 show aO (hl pins s σ H _ I h) λv G h9=>?_
 obtain⟨x,H1,O,r1,q1⟩:=h9
 obtain⟨a,e,⟨xs,hq⟩,q⟩:=q1
 subst e
 cases r1
 obtain⟨dL,rv,p,hz⟩:=O.list hq
 show xw p.isList ⟨G.heap.objs.size,[G.heap.objs.size],_,_,H1,U,O.kept (t':=G.toks) λb o e=>di _ e,ahm a _,⟨_,hG _ rfl,U,U⟩,λb hb=>?_,q⟩
 have e:b=G.heap.objs.size:=by simpa using hb
 subst e
 show O.nU (aK _) (O.hok.fresh (aK _))
def ae4 {l:Expr}{tl:TE}(hl:PE X l tl):PI X tg l (OK X.K tl):=by
 intro pins s σ H R I h
 show aO (hl pins s σ H _ I h) λv G h9=>?_
 obtain⟨x,H1,O,r1,q1⟩:=h9
 obtain⟨a,e,⟨xs,hq⟩,q⟩:=q1
 subst e
 cases r1
 obtain⟨dL,rv,p,hz⟩:=O.tuple hq
 show wpAny_pyIter_tuple (show G.heap.IsTuple a dL.toArray from p) ?_
 show⟨G.heap.objs.size,[G.heap.objs.size],_,_,H1,U,O.kept (t':=G.toks) λb o e=>di _ e,ahq a _,⟨_,hG _ rfl,U,U⟩,λb hb=>?_,q⟩
 have e:b=G.heap.objs.size:=by simpa using hb
 subst e
 show O.nU (aK _) (O.hok.fresh (aK _))
def QL {pins:↥(J×Obj)}{σ:St}{H:Hp}{s:aj}{R:It->Hp->Prop}{E:ae->aj->Prop}{lo hi:Int}{t u v:Tok}{tk:Nat}(I:Inv X pins σ H s)(h1 : -(2^62)<=lo)(h2:lo<2^62)(O : -(2^62)<=hi)(h4:hi<2^62)
   (q:R (qy lo (hi-lo).toNat) H):aD (aI X.prog X.w) X.A (pyIter (.ref s.heap.objs.size)) (L0 X pins σ tg R) E {s with heap:=s.heap.push {cls:=.type "range",data:=.fields #[.int lo t,.int hi u,.int 1 v]},toks:=tk}:=by
 show wpAny_pyIter_range (IsRange.new ..) (small_one h1 h2 O h4) ?_
 have G:Inv X pins σ H {s with heap:=s.heap.push {cls:=.type "range",data:=.fields #[.int lo t,.int hi u,.int 1 v]},toks:=tk}:=I.kept λb o e=>di _ e
 show⟨(s.heap.push {cls:=.type "range",data:=.fields #[.int lo t,.int hi u,.int 1 v]}).objs.size,[(s.heap.push {cls:=.type "range",data:=.fields #[.int lo t,.int hi u,.int 1 v]}).objs.size],_,_,H,rfl,
   G.kept (t':=tk) λb o e=>di _ e,ahp _ lo (hi-lo).toNat,?_,λb hb=>?_,q⟩
 . have e1:lo+((0:Nat):Int)*1=lo:=by simp
   have e2:(((hi-lo).toNat:Nat):Int)-((0:Nat):Int)=KP lo hi 1:=by rw[rangeSize_one];split<;>lia
   change IsRangeIter _ _ (lo+((0:Nat):Int)*1) ((((hi-lo).toNat:Nat):Int)-((0:Nat):Int)) 1
   rw[e1,e2]
   show hG _ rfl
 . have e:b=(s.heap.push {cls:=.type "range",data:=.fields #[.int lo t,.int hi u,.int 1 v]}).objs.size:=by simpa using hb
   subst e
   show G.nU (aK _) (G.hok.fresh (aK _))
def G3 (ta:TA):TI:=λσ H R=>ta σ H λvs H1=>∃j:Int,vs=[.int j]/\-(2^62)<=j/\j<2^62/\R (qy 0 j.toNat) H1
def OJ (ta:TA):TI:=λσ H R=>ta σ H λvs H1=>∃i j:Int,vs=[.int i,.int j]/\(-(2^62)<=i/\i<2^62/\-(2^62)<=j/\j<2^62)/\R (qy i (j-i).toNat) H1
def ae2 {a:Expr}{ta:TA}{p ci:Pos}(O:Gl X "range")(hm:X.mg "range"=Z)(ha:PA X [a] ta)(hs:cM [a] X.env=[(false,eval a X.env)]:=by rfl):PI X tg (.Call (.Name "range" p) [a] [] ci) (G3 ta):=by
 intro pins s σ H R I h
 show Call_ (md I O hm boot_range (oO (aO (ha ci pins s σ H _ I h) λus s1 h9=>?_) hs rfl))
 obtain⟨vs,H1,I1,r1,G⟩:=h9
 obtain⟨j,e,G,q2,q⟩:=G
 subst e
 cases r1 with
 | cons r rr=>
   cases rr
   obtain⟨t,rfl⟩:=r
   show call_range_1 (QL I1 ⋯ ⋯ G q2 (by simpa using q))
def ae3 {a b:Expr}{ta:TA}{p ci:Pos}(hg:Gl X "range")(hm:X.mg "range"=Z)(ha:PA X [a,b] ta)(hs:cM [a,b] X.env=[(false,eval a X.env),(false,eval b X.env)]:=by rfl)(PP:cM [b] X.env=[(false,eval b X.env)]:=by rfl) :
   PI X tg (.Call (.Name "range" p) [a,b] [] ci) (OJ ta):=by
 intro pins s σ H R I h
 show Call_ (md I hg hm boot_range (oO (aO (ha ci pins s σ H _ I h) λus s1 h9=>?_) (by rw[hs,PP]) (by rw[PP];rfl)))
 obtain⟨vs,H1,I1,r1,G⟩:=h9
 obtain⟨i,j,e,⟨G,q2,q3,q4⟩,q⟩:=G
 subst e
 cases r1 with
 | cons r O=>
   cases O with
   | cons r' O=>
     cases O
     obtain⟨t,rfl⟩:=r
     obtain⟨t',rfl⟩:=r'
     show call_range_2 (QL I1 G q2 q3 q4 q)
def S4 (wi:TI)(g:TG)(tb:TS):TS:=λD σ H=>wi σ H λJ8 H1=>∃W:Nat->Nat->St->Hp->Prop,(∃m,W 0 m σ H1)/\∀i m σ H,W i m σ H ->
 (J8.stop i H/\D.nx σ H)\/(J8.go i H/\∃N:St->Hp->Prop,(∀σ' H',N σ' H'->∃G,G<m/\W (i+1) G σ' H')/\∀x H',J8.yld i H x H'->g x σ H' λσ2 H2=>tb {D with nx:=N,ct:=N,bk:=D.nx} σ2 H2)
def zm (fp:↥J)(h:Heap):↥(J×Obj):=fp.filterMap λb=>(h.get? b).map λo=>(b,o)
def B9 {fp:↥J}{h:Heap}{b:J}{o:Obj}(hb:b∈fp)(e:h.get? b=S o):(b,o)∈zm fp h:=List.mem_filterMap.mpr ⟨b,hb,by rw[e];rfl⟩
def acj {fp:↥J}{h:Heap}{p:J×Obj}(G:p∈zm fp h):p.1∈fp/\h.get? p.1=S p.2:=by
 obtain⟨b,hb,e⟩:=List.mem_filterMap.mp G
 cases q:h.get? b with
 | none=>rw[q]at e;cases e
 | some o=>
   rw[q]at e
   have I:(b,o)=p:=dX e
   subst I
   show⟨hb,q⟩
def Inv.pinned {pins:↥(J×Obj)}{σ:St}{H:Hp}{s:aj}{fp:↥J}(I:Inv X pins σ H s)(hf:∀b∈fp,fC X pins H b)(O:∀b∈fp,∃o,s.heap.get? b=S o/\∀v,o.data≠.cell v):Inv X (pins++zm fp s.heap) σ H s:=
 I.Ql λp hp=>(List.mem_append.mp hp).elim (λz=>I.pin p (oJ _ z)) λz=>by
   obtain⟨hb,e⟩:=acj z
   obtain⟨f0,f1,f2,_⟩:=hf p.1 hb
   obtain⟨o,G,d⟩:=O p.1 hb
   rw[e]at G;cases G
   show⟨e,f0,f1,f2,d⟩
def Inv.Dt {pins pl:↥(J×Obj)}{σ:St}{H:Hp}{s:aj}(I:Inv X (pins++pl) σ H s):Inv X pins σ H s:=I.Ql λp G=>I.pin p (oJ _ (Lb _ G))
def afp {iter:Expr}{body:↥Stmt}{wi:TI}{g:TG}{tb:TS}{ci:Pos}(hp:PassesOwn (aI X.prog X.w) X.A X.env X.xe)(hc:X.calm=true)(hi:PI X tg iter wi)(hg:PG X tg g)(hb:fR X body tb)
   (hs:∀x,jd iter X.env x=pure x:=by intro _;rfl):PS X (.For tg iter body [] ci) (S4 wi g tb):=by
 intro pins s σ H D I h
 show wpAny_For (aO (hi pins s σ H _ I h) λv s1 h1=>aO h1 λitv s2 h2=>?_) hs
 obtain⟨it,fp,tn,J8,H2,e,I2,T,fY,f2,W,⟨m0,w0⟩,turn⟩:=h2
 subst e
 have G:∀{H':Hp},(∀b∈fp,H' b=Z)->∀b∈fp,fC X pins H' b:=λhn b hb=>⟨hn b hb,(f2 b hb).2⟩
 show codeAny_forLoop_any (λn s'=>∃i σ' H',Inv X pins σ' H' s'/\tn i s'.heap/\(∀b∈fp,H' b=Z)/\W i n σ' H') ?_ m0 ⟨0,σ,H2,I2,fY,λb hb=>(f2 b hb).1,w0⟩
 rintro n s3 ⟨i,σ3,H3,I3,kW,qI,w3⟩
 rcases turn i n σ3 H3 w3 with⟨stop,qn⟩|⟨go,N,hN,step⟩
 . show AD hp (aO (T.done X rfl rfl rfl hc i pins s3 σ3 H3 X.xe I3 (G qI) kW stop) λr s4 h9=>?_)
   obtain⟨hr,I4⟩:=h9
   subst hr
   show Em ⟨σ3,H3,I4,qn⟩
 . show AD hp (aO (T.item X rfl rfl rfl hc i pins s3 σ3 H3 X.xe I3 (G qI) kW go) λr s4 h9=>?_)
   obtain⟨u,hr,h4⟩:=h9
   subst hr
   show AD hp (aO h4 λz s5 h9=>?_)
   obtain⟨x,H5,I5,r5,y5,mj,FL⟩:=h9
   have Ey:=I5.pinned (G FL) (T.obj _ _ mj)
   show AD hp (aO (hg _ s5 σ3 H5 x u _ Ey r5 (step x H5 y5)) λz s6 h9=>?_)
   obtain⟨σ6,H6,I6,q6⟩:=h9
   show AD hp (aO (hb _ s6 σ6 H6 _ I6 q6) λf s7 q7=>?_)
   have again:∀{σ7:St} {O:Hp},Inv X (pins++zm fp s5.heap) σ7 O s7->N σ7 O->∃m,m<n/\∃i σ' H',Inv X pins σ' H' s7/\tn i s7.heap/\(∀b∈fp,H' b=Z)/\W i m σ' H':=λ{σ7 O} I7 n7=>by
     obtain⟨m',hm,w7⟩:=hN σ7 O n7
     show⟨m',hm,i+1,σ7,O,I7.Dt,T.keep _ _ _ mj λb hb o e=>(I7.pin (b,o) (oJ _ (oJ _ (B9 hb e)))).1,λb hb=>?_,w7⟩
     obtain⟨o,e,d⟩:=T.obj _ _ mj b hb
     show(I7.pin (b,o) (oJ _ (oJ _ (B9 hb e)))).2.1
   cases f with
   | next=>obtain⟨σ7,O,I7,n7⟩:=q7;show again I7 n7
   | cont=>obtain⟨σ7,O,I7,n7⟩:=q7;show again I7 n7
   | brk=>obtain⟨σ7,O,I7,q7⟩:=q7;show⟨σ7,O,I7.Dt,q7⟩
   | ret v=>obtain⟨x7,σ7,O,I7,r7,q7⟩:=q7;show⟨x7,σ7,O,I7.Dt,r7,q7⟩
end
def nS {K:av}{a:J}{xs:↥V}{g:TG}{tb:TS}{D:Ends}{σ:St}{H:Hp}(Pv:Nat->St->Hp->Prop)(O:Pv 0 σ H)(hl:∀i σ H,i<=↑xs->Pv i σ H->af K H a xs)
   (hs:∀i x σ H,xs[i]?=S x->Pv i σ H->g x σ H λσ2 H2=>tb {D with nx:=Pv (i+1),ct:=Pv (i+1),bk:=D.nx} σ2 H2) (hd:∀σ H,Pv ↑xs σ H->D.nx σ H) :
   ∃W:Nat->Nat->St->Hp->Prop,(∃m,W 0 m σ H)/\∀i m σ H,W i m σ H ->
     ((uX K a).stop i H/\D.nx σ H)\/((uX K a).go i H/\∃N:St->Hp->Prop,(∀σ' H',N σ' H'->∃G,G<m/\W (i+1) G σ' H')/\∀x H',(uX K a).yld i H x H'->g x σ H' λσ2 H2=>tb {D with nx:=N,ct:=N,bk:=D.nx} σ2 H2):=by
 show⟨λi m σ H=>m=↑xs-i/\i<=↑xs/\Pv i σ H,⟨↑xs,by simp,fL _,O⟩,?_⟩
 rintro i m σ H ⟨rfl,hi,p⟩
 have q:=hl i σ H hi p
 by_cases I:i<↑xs
 . show .inr ⟨⟨xs,xs[i],q,by simp[I]⟩,Pv (i+1),λσ' H' p'=>⟨↑xs-(i+1),⋯,U,I,p'⟩,λx H' y=>?_⟩
   obtain⟨e,y⟩:=y
   subst e
   show hs i x σ _ (y xs q) p
 . have e:i=↑xs:=⋯
   subst e
   show .inl ⟨⟨xs,q,aK _⟩,hd σ H p⟩
def Nl {K:av}{a:J}{xs:↥V}{g:TG}{tb:TS}{D:Ends}{σ:St}{H:Hp}(Pv:Nat->St->Hp->Prop)(O:Pv 0 σ H)(hl:∀i σ H,i<=↑xs->Pv i σ H->bQ K H a xs)
   (hs:∀i x σ H,xs[i]?=S x->Pv i σ H->g x σ H λσ2 H2=>tb {D with nx:=Pv (i+1),ct:=Pv (i+1),bk:=D.nx} σ2 H2) (hd:∀σ H,Pv ↑xs σ H->D.nx σ H) :
   ∃W:Nat->Nat->St->Hp->Prop,(∃m,W 0 m σ H)/\∀i m σ H,W i m σ H ->
     ((uY K a).stop i H/\D.nx σ H)\/((uY K a).go i H/\∃N:St->Hp->Prop,(∀σ' H',N σ' H'->∃G,G<m/\W (i+1) G σ' H')/\∀x H',(uY K a).yld i H x H'->g x σ H' λσ2 H2=>tb {D with nx:=N,ct:=N,bk:=D.nx} σ2 H2):=by
 show⟨λi m σ H=>m=↑xs-i/\i<=↑xs/\Pv i σ H,⟨↑xs,by simp,fL _,O⟩,?_⟩
 rintro i m σ H ⟨rfl,hi,p⟩
 have q:=hl i σ H hi p
 by_cases I:i<↑xs
 . show .inr ⟨⟨xs,xs[i],q,by simp[I]⟩,Pv (i+1),λσ' H' p'=>⟨↑xs-(i+1),⋯,U,I,p'⟩,λx H' y=>?_⟩
   obtain⟨e,y⟩:=y
   subst e
   show hs i x σ _ (y xs q) p
 . have e:i=↑xs:=⋯
   subst e
   show .inl ⟨⟨xs,q,aK _⟩,hd σ H p⟩
def xU {lo:Int}{n:Nat}{g:TG}{tb:TS}{D:Ends}{σ:St}{H:Hp}(Pv:Nat->St->Hp->Prop)(O:Pv 0 σ H)
   (hs:∀i σ H,i<n->Pv i σ H->g (.int (lo+i)) σ H λσ2 H2=>tb {D with nx:=Pv (i+1),ct:=Pv (i+1),bk:=D.nx} σ2 H2) (hd:∀σ H,Pv n σ H->D.nx σ H) :
   ∃W:Nat->Nat->St->Hp->Prop,(∃m,W 0 m σ H)/\∀i m σ H,W i m σ H ->
     ((qy lo n).stop i H/\D.nx σ H)\/((qy lo n).go i H/\∃N:St->Hp->Prop,(∀σ' H',N σ' H'->∃I,I<m/\W (i+1) I σ' H')/\∀x H',(qy lo n).yld i H x H'->g x σ H' λσ2 H2=>tb {D with nx:=N,ct:=N,bk:=D.nx} σ2 H2):=by
 show⟨λi m σ H=>m=n-i/\i<=n/\Pv i σ H,⟨n,by simp,fL _,O⟩,?_⟩
 rintro i m σ H ⟨rfl,hi,p⟩
 by_cases G:i<n
 . show .inr ⟨G,Pv (i+1),λσ' H' p'=>⟨n-(i+1),⋯,U,G,p'⟩,λx H' y=>?_⟩
   obtain⟨e,y⟩:=y
   subst e y
   show hs i σ _ G p
 . have e:i=n:=⋯
   subst e
   show .inl ⟨aK _,hd σ H p⟩
abbrev R2:=V->V->Hp->VK->Prop
def dZ (X:Cx)(f:ae->ae->Sem ae)(r:R2):Prop:=
 ∀(pins:↥(J×Obj)) (s:aj) (σ:St) (H:Hp) (x y:V) (v u:ae) (Q:VK),Inv X pins σ H s->RelV x v->RelV y u->r x y H Q ->
   aD (aI X.prog X.w) X.A (f v u) (EP X pins σ Q) X.xe s
def EZ (X:Cx)(f:ae->Sem ae)(r:V->Hp->VK->Prop):Prop:=
 ∀(pins:↥(J×Obj)) (s:aj) (σ:St) (H:Hp) (x:V) (v:ae) (Q:VK),Inv X pins σ H s->RelV x v->r x H Q ->
   aD (aI X.prog X.w) X.A (f v) (EP X pins σ Q) X.xe s
def jO (X:Cx)(f:ae)(r:↥V->Hp->VK->Prop):Prop:=
 ∀(pins:↥(J×Obj)) (s:aj) (σ:St) (H:Hp) (xs:↥V) (us:↥ae) (Q:VK),Inv X pins σ H s->Vals xs us->r xs H Q ->
   aD (aI X.prog X.w) X.A (call f us) (EP X pins σ Q) X.xe s
def oF (r:R2)(ta tb:TE):TE:=λσ H Q=>ta σ H λx H1=>tb σ H1 λy H2=>r x y H2 Q
def Tq (r:V->Hp->VK->Prop)(ta:TE):TE:=λσ H Q=>ta σ H λx H1=>r x H1 Q
def rI (C:Int->Int->Prop)(g:Int->Int->V):R2:=λx y H Q=>∃i j,x=.int i/\y=.int j/\C i j/\Q (g i j) H
def kS (g:Int->Int->V):R2:=λx y H Q=>∃i j,x=.int i/\y=.int j/\Q (g i j) H
def rU (g:Int->V):V->Hp->VK->Prop:=λx H Q=>∃i,x=.int i/\Q (g i) H
section
variable{X:Cx}{a b c:Expr}{ta tb tc:TE}{ci:Pos}
def E8 (ha:PE X a ta)(hb:PE X b tb){pins:↥(J×Obj)}{s:aj}{σ:St}{H:Hp}{R:V->V->Hp->Prop}(I:Inv X pins σ H s)
   (h:ta σ H λx H1=>tb σ H1 λy H2=>R x y H2) {Q:ae->aj->Prop} {f:ae->ae->Sem ae}
   (hf:∀v u G x y H2,Inv X pins σ H2 G->RelV x v->RelV y u->R x y H2->aD (aI X.prog X.w) X.A (f v u) Q X.xe G) :
   aD (aI X.prog X.w) X.A (eval a X.env) (λv s₁=>aD (aI X.prog X.w) X.A (eval b X.env) (λu s₂=>aD (aI X.prog X.w) X.A (f v u) Q X.xe s₂) X.xe s₁) X.xe s:=by
 show aO (ha pins s σ H _ I h) λv s1 O=>?_
 obtain⟨x,H1,I1,r1,q1⟩:=O
 show aO (hb pins s1 σ H1 _ I1 q1) λu G O=>?_
 obtain⟨y,H2,I2,r2,q2⟩:=O
 show hf v u G x y H2 I2 r1 r2 q2
def aeN {op:Operator}{r:R2}(G:dZ X (f7 op) r)(ha:PE X a ta)(hb:PE X b tb):PE X (.BinOp a op b ci) (oF r ta tb):=by
 intro pins s σ H Q I h
 show wpAny_BinOp (E8 ha hb I h λv u O x y H2 I2 rx ry q=>G pins O σ H2 x y v u Q I2 rx ry q)
def aeT {op:UnaryOp}{r:V->Hp->VK->Prop}(G:EZ X (unaryOp op) r)(ha:PE X a ta):PE X (.UnaryOp op a ci) (Tq r ta):=by
 intro pins s σ H Q I h
 show UnaryOp_ (aO (ha pins s σ H _ I h) λv O h9=>?_)
 obtain⟨x,H1,I1,r1,q1⟩:=h9
 show G pins O σ H1 x v Q I1 r1 q1
def zc {f:ae->ae->Sem ae}{C:Int->Int->Prop}{g:Int->Int->Int}
   (rule:∀(i j:Int) (t u:Tok) (s:aj) (Q:ae->aj->Prop) (E:ae->aj->Prop),C i j->Q (.int (g i j) s.toks) {s with toks:=s.toks+1}->aD (aI X.prog X.w) X.A (f (.int i t) (.int j u)) Q E s) :
   dZ X f (rI C λi j=>.int (g i j)):=by
 intro pins s σ H x y v u Q I G O h
 obtain⟨i,j,rfl,rfl,hc,q⟩:=h
 obtain⟨t,rfl⟩:=G
 obtain⟨t',rfl⟩:=O
 show rule i j t t' s _ _ hc ⟨.int (g i j),H,I.tok _,⟨_,U⟩,q⟩
def P8 {f:ae->ae->Sem ae}{g:Int->Int->Int}
   (rule:∀(i j:Int) (t u:Tok) (s:aj) (Q:ae->aj->Prop) (E:ae->aj->Prop),Q (.int (g i j) s.toks) {s with toks:=s.toks+1}->aD (aI X.prog X.w) X.A (f (.int i t) (.int j u)) Q E s) :
   dZ X f (kS λi j=>.int (g i j)):=by
 intro pins s σ H x y v u Q I G O h
 obtain⟨i,j,rfl,rfl,q⟩:=h
 obtain⟨t,rfl⟩:=G
 obtain⟨t',rfl⟩:=O
 show rule i j t t' s _ _ ⟨.int (g i j),H,I.tok _,⟨_,U⟩,q⟩
def Iw {f:ae->ae->Sem ae}{g:Int->Int->Bool}
   (rule:∀(i j:Int) (t u:Tok) (s:aj) (Q:ae->aj->Prop) (E:ae->aj->Prop),Q (.bool (g i j)) s->aD (aI X.prog X.w) X.A (f (.int i t) (.int j u)) Q E s) :
   dZ X f (kS λi j=>.bl (g i j)):=by
 intro pins s σ H x y v u Q I G O h
 obtain⟨i,j,rfl,rfl,q⟩:=h
 obtain⟨t,rfl⟩:=G
 obtain⟨t',rfl⟩:=O
 show rule i j t t' s _ _ ⟨.bl (g i j),H,I,U,q⟩
def LQ (i j:Int):Prop:=0<=j/\j<=1000000/\i.natAbs<2^64
def AI (i j:Int):Prop:=(-(2^64)<i/\i<2^64)\/(-(2^64)<j/\j<2^64)
def AI.ok {i j:Int}(h:AI i j):IntMulOk i j:=by
 rcases h with⟨h1,h2⟩|⟨h1,h2⟩
 . show .of_left (intBits_le_64 h1 h2)
 . show .of_right (intBits_le_64 h1 h2)
def adm:dZ X (f7 .Add) (kS λi j=>.int (i+j)):=P8 λz z z z z z z q=>add_int q
def adI:dZ X (f7 .Sub) (kS λi j=>.int (i-j)):=P8 λz z z z z z z q=>sub_int q
def adz:dZ X (f7 .Mult) (rI AI λi j=>.int (i*j)):=zc λz z z z z z z hc q=>mul_int q hc.ok
def ady:dZ X (f7 .Mod) (rI (λz j=>0<j) λi j=>.int (i%j)):=zc λi j z z z z z hc q=>by
 have h1:(0:Int)<j:=hc
 show mod_int' ⋯ (by rw[Int.fmod_eq_emod_of_nonneg i ⋯];show q)
def adG:dZ X (f7 .Pow) (rI LQ λi j=>.int (i^j.toNat)):=zc λz z z z z z z hc q=>pow_int_small hc.1 hc.2.1 hc.2.2 q
def unI {f:ae->Sem ae}{g:Int->Int}
   (rule:∀(i:Int) (t:Tok) (s:aj) (Q:ae->aj->Prop) (E:ae->aj->Prop),Q (.int (g i) s.toks) {s with toks:=s.toks+1}->aD (aI X.prog X.w) X.A (f (.int i t)) Q E s) :
   EZ X f (rU λi=>.int (g i)):=by
 intro pins s σ H x v Q I G h
 obtain⟨i,rfl,q⟩:=h
 obtain⟨t,rfl⟩:=G
 show rule i t s _ _ ⟨.int (g i),H,I.tok _,⟨_,U⟩,q⟩
def ahw:EZ X (unaryOp .USub) (rU λi=>.int (-i)):=unI λz z z z z q=>neg_int q
end
def RM:V->V->Bool
 | .aM,.aM=>true|.aM,.int _=>true|.int _,.aM=>true|.aM,.bl _=>true|.bl _,.aM=>true|.aM,.str _=>true|.str _,.aM=>true
 | .int _,.int _=>true|.bl _,.bl _=>true|.str _,.str _=>true|.byt _,.byt _=>true
 | .int _,.str _=>true|.str _,.int _=>true|.bl _,.str _=>true|.str _,.bl _=>true
 | _,_=>false
def QA:R2:=λx y H Q=>RM x y=true/\Q (.bl (decide (x=y))) H
def QG:R2:=λx y H Q=>RM x y=true/\Q (.bl (!decide (x=y))) H
def MY {i j:Int}:decide (V.int i=V.int j)=(i==j):=by
 rw[qk]
 simp
def MW {i j:Bool}:decide (V.bl i=V.bl j)=(i==j):=by
 rw[qk]
 simp
def MZ {i j:Str}:decide (V.str i=V.str j)=(i==j):=by
 rw[qk]
 simp
def MX {i j:Array UInt8}:decide (V.byt i=V.byt j)=(i.toList==j.toList):=by
 rw[qk]
 cases i
 cases j
 simp
section
variable{X:Cx}{a b c:Expr}{ta tb tc:TE}{ci:Pos}
def dO {pins:↥(J×Obj)}{σ:St}{H:Hp}{s:aj}{Q:VK}{k G:Bool}(I:Inv X pins σ H s)(q:Q (.bl k) H)(e:k=G):EP X pins σ Q (.bool G) s:=by
 subst e
 show⟨.bl k,H,I,U,q⟩
def adp:dZ X (dD .Eq) QA:=by
 intro pins s σ H x y v u Q I rx G h
 obtain⟨O,q⟩:=h
 cases x with
 | aM=>
   cases rx
   cases y with
   | aM=>cases G;show PySem.EqNone.eq_none_none (dO I q (by simp))
   | bl j=>cases G;show PySem.EqNone.eq_none_bool (dO I q (by simp))
   | int j=>obtain⟨t',rfl⟩:=G;show PySem.EqNone.eq_none_int (dO I q (by simp))
   | str j=>obtain⟨t',rfl⟩:=G;show PySem.EqNone.eq_none_str (dO I q (by simp))
   | _=>show ao (show false=true from O) fK
 | bl i=>
   cases rx
   cases y with
   | aM=>cases G;show PySem.EqNone.eq_bool_none (dO I q (by simp))
   | bl j=>cases G;show eq_bool (dO I q MW)
   | str j=>obtain⟨t',rfl⟩:=G;show PySem.EqMixed.eq_bool_str (dO I q (by simp))
   | _=>show ao (show false=true from O) fK
 | int i=>
   obtain⟨t,rfl⟩:=rx
   cases y with
   | aM=>cases G;show PySem.EqNone.eq_int_none (dO I q (by simp))
   | int j=>obtain⟨t',rfl⟩:=G;show eq_int (dO I q MY)
   | str j=>obtain⟨t',rfl⟩:=G;show PySem.EqMixed.eq_int_str (dO I q (by simp))
   | _=>show ao (show false=true from O) fK
 | str i=>
   obtain⟨t,rfl⟩:=rx
   cases y with
   | aM=>cases G;show PySem.EqNone.eq_str_none (dO I q (by simp))
   | bl j=>cases G;show PySem.EqMixed.eq_str_bool (dO I q (by simp))
   | int j=>obtain⟨t',rfl⟩:=G;show PySem.EqMixed.eq_str_int (dO I q (by simp))
   | str j=>obtain⟨t',rfl⟩:=G;show eq_str (dO I q MZ)
   | _=>show ao (show false=true from O) fK
 | byt i=>
   obtain⟨t,rfl⟩:=rx
   cases y with
   | byt j=>obtain⟨t',rfl⟩:=G;show PySem.W.eq_bytes (dO I q MX)
   | _=>show ao (show false=true from O) fK
 | _=>cases y<;>show ao (show false=true from O) fK
def adB:dZ X (dD .NotEq) QG:=by
 intro pins s σ H x y v u Q I rx G h
 obtain⟨O,q⟩:=h
 cases x with
 | aM=>
   cases rx
   cases y with
   | aM=>cases G;show PySem.EqNone.ne_none_none (dO I q (by simp))
   | bl j=>cases G;show PySem.EqNone.ne_none_bool (dO I q (by simp))
   | int j=>obtain⟨t',rfl⟩:=G;show PySem.EqNone.ne_none_int (dO I q (by simp))
   | str j=>obtain⟨t',rfl⟩:=G;show PySem.EqNone.ne_none_str (dO I q (by simp))
   | _=>show ao (show false=true from O) fK
 | bl i=>
   cases rx
   cases y with
   | aM=>cases G;show PySem.EqNone.ne_bool_none (dO I q (by simp))
   | bl j=>cases G;show ne_bool (dO I q (congrArg not MW))
   | str j=>obtain⟨t',rfl⟩:=G;show PySem.EqMixed.ne_bool_str (dO I q (by simp))
   | _=>show ao (show false=true from O) fK
 | int i=>
   obtain⟨t,rfl⟩:=rx
   cases y with
   | aM=>cases G;show PySem.EqNone.ne_int_none (dO I q (by simp))
   | int j=>obtain⟨t',rfl⟩:=G;show ne_int (dO I q (congrArg not MY))
   | str j=>obtain⟨t',rfl⟩:=G;show PySem.EqMixed.ne_int_str (dO I q (by simp))
   | _=>show ao (show false=true from O) fK
 | str i=>
   obtain⟨t,rfl⟩:=rx
   cases y with
   | aM=>cases G;show PySem.EqNone.ne_str_none (dO I q (by simp))
   | bl j=>cases G;show PySem.EqMixed.ne_str_bool (dO I q (by simp))
   | int j=>obtain⟨t',rfl⟩:=G;show PySem.EqMixed.ne_str_int (dO I q (by simp))
   | str j=>obtain⟨t',rfl⟩:=G;show ne_str (dO I q (congrArg not MZ))
   | _=>show ao (show false=true from O) fK
 | byt i=>
   obtain⟨t,rfl⟩:=rx
   cases y with
   | byt j=>obtain⟨t',rfl⟩:=G;show PySem.W.ne_bytes (dO I q (congrArg not MX))
   | _=>show ao (show false=true from O) fK
 | _=>cases y<;>show ao (show false=true from O) fK
def adx:dZ X (dD .Lt) (kS λi j=>.bl (decide (i<j))):=Iw λz z z z z z z q=>lt_int q
def adu:dZ X (dD .Gt) (kS λi j=>.bl (decide (j<i))):=Iw λz z z z z z z q=>gt_int q
def adt:dZ X (dD .GtE) (kS λi j=>.bl (decide (j<=i))):=Iw λz z z z z z z q=>ge_int q
def adw:dZ X (dD .Is) (λx y H Q=>y=.aM/\Q (.bl (decide (x=.aM))) H):=by
 intro pins s σ H x y v u Q I G O h
 obtain⟨rfl,q⟩:=h
 cases O
 show is_none_gen (dO I q ?_)
 cases x<;>first
   | (cases G;rfl)
   | (obtain⟨t,rfl⟩:=G;rfl)
def adF:dZ X (dD .IsNot) (λx y H Q=>y=.aM/\Q (.bl (!decide (x=.aM))) H):=by
 intro pins s σ H x y v u Q I G O h
 obtain⟨rfl,q⟩:=h
 cases O
 show isnot_none_gen (dO I q ?_)
 cases x<;>first
   | (cases G;rfl)
   | (obtain⟨t,rfl⟩:=G;rfl)
def PM (b:Expr){op:CmpOp}(h:op≠.In:=by left)(h2:op≠.NotIn:=by left):oR op b=false:=by
 have G:(op==CmpOp.In)=false:=by cases op<;>first|rfl|show ao rfl h
 have I:(op==CmpOp.NotIn)=false:=by cases op<;>first|rfl|show ao rfl h2
 cases b<;>simp[oR,G,I]
def aer {op:CmpOp}{r:R2}(G:dZ X (dD op) r)(ha:PE X a ta)(hb:PE X b tb)(O:oR op b=false):PE X (.Compare a [op] [b] ci) (oF r ta tb):=by
 intro pins s σ H Q I h
 show wpAny_Compare1 (E8 ha hb I h λv u s2 x y H2 I2 rx ry q=>G pins s2 σ H2 x y v u Q I2 rx ry q) O
def Kk (t:TE):TT:=λσ H Q=>t σ H λx H'=>∃k,x=.bl k/\Q k H'
def afH {op:CmpOp}{r:R2}(G:dZ X (dD op) r)(ha:PE X a ta)(hb:PE X b tb)(O:oR op b=false):PT X (.Compare a [op] [b] ci) (Kk (oF r ta tb)):=by
 intro pins s σ H Q I h
 show wpAny_isTrue_Compare1 (aO (ha pins s σ H _ I h) λv s1 ⟨x,H1,I1,r1,q1⟩=>aO (hb pins s1 σ H1 _ I1 q1) λu s2 ⟨y,H2,I2,r2,q2⟩=>
   aO (G pins s2 σ H2 x y v u _ I2 r1 r2 q2) λc s3 ⟨z,H3,I3,r3,k,e,q3⟩=>?_) O
 subst e
 cases r3
 show r6 ⟨H3,I3,q3⟩
def SF (r I:R2)(ta tb tc:TE):TE:=λσ H Q=>ta σ H λx H1=>tb σ H1 λy H2=>r x y H2 λz G=>∃k,z=.bl k /\
 (if k=true then tc σ G λO H4=>I y O H4 Q else Q (.bl false) G)
def aep {op G:CmpOp}{r O:R2}(ho:dZ X (dD op) r)(Ps:dZ X (dD G) O)(ha:PE X a ta)(hb:PE X b tb)(hc:PE X c tc)
   (hm:lastMarks [op,G] [b,c]=false:=by with_unfolding_all rfl):PE X (.Compare a [op,G] [b,c] ci) (SF r O ta tb tc):=by
 intro pins s σ H Q I h
 show Compare_chain (aO (ha pins s σ H _ I h) λv s1 ⟨x,H1,I1,r1,q1⟩=>chain_link (aO (hb pins s1 σ H1 _ I1 q1) λu s2 ⟨y,H2,I2,r2,q2⟩=>
   aO (ho pins s2 σ H2 x y v u _ I2 r1 r2 q2) λd s3 ⟨z,H3,I3,r3,k,e,q3⟩=>?_)) hm
 subst e
 cases r3
 show r6 ?_
 cases k with
 | false=>show ite_ff ⟨.bl false,H3,I3,rfl,q3⟩
 | true=>show ite_tt (chain_last (aO (hc pins s3 σ H3 _ I3 q3) λw' s4 ⟨z',H4,I4,r4,q4⟩=>Ps pins s4 σ H4 y z' u w' Q I4 r2 r4 q4))
def B5:(sizeLine:Nat)<2^63:=by rw[sizeLine_eq];decide
def vals1 {x:V}{us:↥ae}(r:Vals [x] us):∃u,us=[u]/\RelV x u:=by
 cases r with
 | cons G I=>cases I;show⟨_,rfl,G⟩
def VQ:jO X (.type "int") (λxs H Q=>(∃i,xs=[.int i]/\Q (.int i) H)\/∃k,xs=[.bl k]/\Q (.int (if k then 1 else 0)) H):=by
 intro pins s σ H xs us Q I r h
 rcases h with⟨i,rfl,q⟩|⟨k,rfl,q⟩
 . obtain⟨u,rfl,t,rfl⟩:=vals1 r
   show call_int_int ⟨.int i,H,I,⟨_,U⟩,q⟩
 . obtain⟨u,rfl,G⟩:=vals1 r
   cases G
   show call_int_bool ⟨.int (if k then 1 else 0),H,I.tok _,⟨_,U⟩,q⟩
end
structure sI (h:Heap)(x dx C:J)(mA:Str->Option ae):Prop where
 obj:h.get? x=S (rQ C dx)
 ns:h.Ns1 dx mA
 ne:dx≠x
def aa9 {h:Heap}{dx:J}{mA:Str->Option ae}(n:h.Ns1 dx mA):∃I,h.get? dx=S I/\∀name,Eb name I=S (mA name):=by
 obtain⟨o,es,ep,O,hd,hk,_,hm⟩:=n
 show⟨o,O,λname=>?_⟩
 have e:=hm name
 unfold nsFind findBy at e
 rw[← Array.find?_toList]at e
 unfold Eb
 rw[hd]
 dsimp only
 split
 . rename_i y q
   rw[q]at e
   show congrArg S e
 . rename_i q
   rw[q]at e
   have a:es.toList.any (·.refKey)=false:=by
     rw[List.any_eq_false]
     intro y hy
     obtain⟨z,t,G⟩:=hk y (Array.mem_toList_iff.mp hy)
     simp[DictEntry.refKey,G]
   have a':¬ es.toList.any (·.refKey)=true:=by rw[a];show fK
   rw[az a']
   show congrArg S e
def sI.look {h:Heap}{x dx C:J}{mA:Str->Option ae}(I:sI h x dx C mA):∃G,PySem.W.InstAt h x (rQ C dx) C (S G)/\∀name,Eb name G=S (mA name):=
 let⟨G,O,hl⟩:=aa9 I.ns
 ⟨G,⟨I.obj,rfl,rfl,O⟩,hl⟩
section
variable{prog:bo}{w:aY}{A:bD}{E:ae->aj->Prop}{s:aj}{K:av}{x dx C f:J}{mA:Str->Option ae}{name:Str}{v:ae}
def get_map {expr:Bool}{Q:ae->aj->Prop}(X:K.In s.heap)(I:sI s.heap x dx C mA)(O:Ed K C name=true)(hh:Lp K C=true)
   (ha:lA K (.ref C) name=S Z) (hv:mA name=S v) (G:PySem.W.handedIn v=true) (h:Q v {s with toks:=s.toks+1}) :
   aD (aI prog w) A (getAttr (.ref x) name expr) Q E s:=by
 obtain⟨od,J8,hl⟩:=I.look
 show PySem.W.get_value X J8 (Lu O).1 (PySem.W.findObj_own hh ha rfl (by rw[hl,hv])) G h
def XX {pl:Sem Bool}{Q:ae×↥ae->aj->Prop}(X:K.In s.heap)(I:sI s.heap x dx C mA)(G:Ed K C name=true)
   (hf:lA K (.ref C) name=S (S (.ref f))) (O:Lq K (.ref f)=true) (hv:mA name=Z) (h:Q (.ref f,[.ref x]) s) :
   aD (aI prog w) A (xn (.ref x) name pl) Q E s:=by
 obtain⟨od,J8,hl⟩:=I.look
 show PySem.W.method_fn X J8 (Lu G).1 (Lu G).2 hf (beq_iff_eq.mp O) (by change(Eb name od).map (·.isSome)=S false;rw[hl,hv];rfl) h
def agD {O:↥Str}{Q:Unit->aj->Prop}(X:K.In s.heap)(I:sI s.heap x dx C mA)
   (hs:lA K (.ref C) "__setattr__"=S (S (.builtin "object.__setattr__"))) (hp:UO K C=true) (ht:Lv K C name=S Z) (hh:Lp K C=true)
   (hw:Lw mA O) (hsz:O.length<=sizeLine)
   (h:∀h',sI h' x dx C (λy=>if y=name then S v else mA y)->lj dx s.heap h'->Q () {s with heap:=h',toks:=s.toks+2}) :
   aD (aI prog w) A (setAttr (.ref x) name v) Q E s:=by
 obtain⟨od,J8,hl⟩:=I.look
 show PySem.W.set_plain X J8 hs (PySem.W.osa_open (s:={s with toks:=s.toks+1}) (r:=Z) X J8 hp ht λb=>?_)
 obtain⟨cd,hc,iV⟩:=PySem.W.any_some hh
 have hx:s.heap.get? x=S ⟨.ref C,S dx,.plain,#[]⟩:=I.obj
 show aq (aS (aq (aq (wpAny_loadPart hx (aq (PySem.W.Looks.here (s:={s with toks:=s.toks+1}) (PySem.W.looks_clsIn X hc) ?_))))))
 rw[iV]
 show aS (a:=S dx) (aq (aS (aq (wpAny_nsSet1 (s:={s with toks:=s.toks+1}) I.ns λh' G PP=>?_))))
 obtain⟨oD,esD,epD,ZP,YY,YS⟩:=G.count (PySem.Within.cons name v hw)
 show aq (wpAny_lookBehind ZP (by rw[YY];show pastItsLine_dict (ck YS (by rw[gF];lia))) (aS (h _ ⟨(PP.2 _ (mw I.ne)).trans I.obj,G,I.ne⟩ PP)))
def abe {R:oQ->aj->Prop}{vs:↥ae}{G:↥(Str×ae)}(X:K.In s.heap)(I:PySem.W.makesIn K C=true)
   (hi:lA K (.ref C) "__init__"=S (S (.ref f))) (hf:PySem.W.typeIn K (.ref f)=S (.type "function"))
   (h:hU (aI prog w) (A.under (.builtin "type.__call__" ⟨.ref C::vs,G⟩)) (.call (.ref f) ⟨.ref (s.heap.objs.size+1)::vs,G⟩) (PySem.W.InitBack (s.heap.objs.size+1) R)
     {s with heap:=(s.heap.push qu).push (rQ C s.heap.objs.size)}) :
   hU (aI prog w) A (.call (.ref C) ⟨vs,G⟩) R s:=by
 obtain⟨O,g,d,t,os⟩:=s
 show PySem.W.make_core (PySem.W.makes_of X I) (PySem.W.looks_findIn X hi) (λself=>PySem.W.bind_fn X self hf) (.inl rfl) h
end
def gN (f:Str)(v:V):↥(Str×V)->↥(Str×V)
 | []=>[(f,v)]
 | (g,x)::r=>if g=f then(g,v)::r else(g,x)::gN f v r
theorem B6 (f g:Str)(v:V):∀fs:↥(Str×V),(gN f v fs).lookup g=if g=f then S v else fs.lookup g
 | []=>by
   change qr g [(f,v)]=_
   by_cases h:g=f
   . have hb:(g==f)=true:=beq_iff_eq.mpr h
     simp only[qr,hb,aB h]
   . have hb:(g==f)=false:=beq_eq_false_iff_ne.mpr h
     simp only[qr,hb,az h]
 | (k,x)::r=>by
   have G:=B6 f g v r
   rw[show gN f v ((k,x)::r)=(if k=f then(k,v)::r else(k,x)::gN f v r)from rfl]
   by_cases hk:k=f
   . rw[aB hk]
     by_cases h:g=k
     . have hb:(g==k)=true:=beq_iff_eq.mpr h
       simp only[qr,hb,aB (h.trans hk)]
     . have hb:(g==k)=false:=beq_eq_false_iff_ne.mpr h
       simp only[qr,hb,az (λe:g=f=>h (e.trans hk.symm))]
   . rw[az hk]
     by_cases h:g=k
     . have hb:(g==k)=true:=beq_iff_eq.mpr h
       simp only[qr,hb,az (λe:g=f=>hk (h.symm.trans e))]
     . have hb:(g==k)=false:=beq_eq_false_iff_ne.mpr h
       simp only[qr,hb]
       show G
theorem G9 (f:Str)(v:V):∀fs:↥(Str×V),f∈(gN f v fs).map (·.1)/\∀g,g∈fs.map (·.1)->g∈(gN f v fs).map (·.1)
 | []=>⟨by simp[gN],λg h=>by simp at h⟩
 | (k,x)::r=>by
   obtain⟨G,I⟩:=G9 f v r
   rw[show gN f v ((k,x)::r)=(if k=f then(k,v)::r else(k,x)::gN f v r)from rfl]
   by_cases hk:k=f
   . rw[aB hk]
     subst hk
     show⟨by simp,λg h=>by simpa using h⟩
   . rw[az hk]
     show⟨?_,λg h=>?_⟩
     . rw[jb]
       show qt _ G
     . rw[jb]at h ⊢
       rcases List.mem_cons.mp h with e|e
       . show List.mem_cons.mpr (.inl e)
       . show qt _ (I g e)
theorem HU (f:Str)(v:V):∀fs:↥(Str×V),↑(gN f v fs)<=↑fs+1
 | []=>by simp[gN]
 | (k,x)::r=>by
   have G:=HU f v r
   rw[show gN f v ((k,x)::r)=(if k=f then(k,v)::r else(k,x)::gN f v r)from rfl]
   by_cases hk:k=f
   . rw[aB hk,gF,gF];lia
   . rw[az hk,gF,gF];lia
def ig.some_of {v:V}{o:Option ae}(r:ig (S v) o):∃u,o=S u/\RelV v u:=by
 cases o with
 | none=>show(show False from r).elim
 | some u=>show⟨u,rfl,r⟩
def ig.none_of {o:Option ae}(r:ig Z o):o=Z:=by
 cases o with
 | none=>rfl
 | some u=>show(show False from r).elim
def Ys {v:V}{u:ae}(r:RelV v u):PySem.W.handedIn u=true:=by
 cases v with
 | aM=>cases(show u=Aq from r);rfl
 | bl b=>cases(show u=qv b from r);rfl
 | int i=>obtain⟨t,e⟩:=(show ∃t,u=rR i t from r);cases e;rfl
 | str x=>obtain⟨t,e⟩:=(show ∃t,u=Ar x t from r);cases e;rfl
 | byt b=>obtain⟨t,e⟩:=(show ∃t,u=Value.bytes b t from r);cases e;rfl
 | flt b=>obtain⟨t,e⟩:=(show ∃t,u=Lx b t from r);cases e;rfl
 | ref a=>cases(show u=bU a from r);rfl
 | ty n=>cases(show u=Eg n from r);rfl
section
variable{P:bo}{w:aY}{H H':Hp}{h h':Heap}{a C dx:J}{fs fs':↥(Str×V)}
def BQ (G:dH P w H h)(e:H a=S (.ins C dx fs)):∃mA,sI h a dx C mA/\(∀f,ig (fs.lookup f) (mA f))/\Lw mA (fs.map (·.1))/\↑fs<=1000/\H dx=S (.own a):=by
 obtain⟨d,z,I,ob,mA,n,r,q⟩:=(show dj P w H h a (.ins C dx fs)from G a _ e)
 show⟨mA,⟨ob,n,I⟩,r,q,z,d⟩
end
structure fB (K:av)(C:J):Prop where
 pg:Ed K C Str.empty=true
 hd:Lp K C=true
 po:UO K C=true
 sa:lA K (.ref C) "__setattr__"=S (S (.builtin "object.__setattr__"))
def fB.get {K:av}{C:J}(c:fB K C)(f:Str):Ed K C f=true:=c.pg
def jP (K:av)(C:J)(f:Str):Prop:=lA K (.ref C) f=S Z
def jP.ahc {K:av}{C:J}{f:Str}(n:jP K C f):Lv K C f=S Z:=by
 unfold Lv
 rw[show lA K (.ref C) f=S Z from n]
 rfl
structure Meth (K:av)(C:J)(m:Str)(f:J):Prop where
 at_:lA K (.ref C) m=S (S (.ref f))
 fn:Lq K (.ref f)=true
 kp:lC K (.ref f)=true
section
variable{X:Cx}{pins:↥(J×Obj)}{σ:St}{H:Hp}{s:aj}{a C dx:J}{fs:↥(Str×V)}{f:Str}{v:V}{A:bD}{E:ae->aj->Prop}
def XY {b:Bool}{Q:ae->aj->Prop}(I:Inv X pins σ H s)(e:H a=S (.ins C dx fs))(c:fB X.K C)(n:jP X.K C f)(l:fs.lookup f=S v)
   (h:∀u s',Inv X pins σ H s'->RelV v u->Q u s'):aD (aI X.prog X.w) A (getAttr (.ref a) f b) Q E s:=by
 obtain⟨mA,O,r,_,_,_⟩:=BQ I.hok e
 obtain⟨u,hu,G⟩:=ig.some_of (v:=v) (o:=mA f) (by rw[← l];show r f)
 show get_map I.dQ O (c.get f) c.hd n hu (Ys G) (h u _ (I.tok _) G)
def Nx {m:Str}{g:J}{pl:Sem Bool}{Q:ae×↥ae->aj->Prop}(I:Inv X pins σ H s)(e:H a=S (.ins C dx fs))(c:fB X.K C)(k:Meth X.K C m g)(l:fs.lookup m=Z)
   (h:Q (.ref g,[.ref a]) s):aD (aI X.prog X.w) A (xn (.ref a) m pl) Q E s:=by
 obtain⟨mA,O,r,_,_,_⟩:=BQ I.hok e
 have G:mA m=Z:=ig.none_of (by rw[← l];show r m)
 show XX I.dQ O (c.get m) k.at_ k.fn G h
def agE {y:V}{u:ae}{Q:Unit->aj->Prop}(I:Inv X pins σ H s)(e:H a=S (.ins C dx fs))(c:fB X.K C)(n:jP X.K C f)(hl:↑fs<1000)(ry:RelV y u)
   (h:∀s',Inv X pins σ (upd H a (.ins C dx (gN f y fs))) s'->Q () s'):aD (aI X.prog X.w) A (setAttr (.ref a) f u) Q E s:=by
 obtain⟨mA,O,r,wi,_,ho⟩:=BQ I.hok e
 have hz:↑(fs.map (·.1))<=sizeLine:=by rw[aA,sizeLine_eq];lia
 show agD I.dQ O c.sa c.po n.ahc c.hd wi hz λh' G sb=>h _ ?_
 have hd:∃o,h'.get? dx=S o:=by obtain⟨o,_,_,e',_⟩:=G.ns;show⟨o,e'⟩
 show I.write (x:=a) (e:=dx) (by rw[e];show bK) (.inr ho) (λb q hb z=>(sb.2 b hb).trans z) hd ⟨by rw[aC O.ne];show ho,?_,O.ne,G.obj,_,G.ns,λg=>?_,λg hg=>?_⟩
 . have:=HU f y fs;lia
 . change ig ((gN f y fs).lookup g) (if g=f then S u else mA g)
   rw[B6]
   by_cases q:g=f
   . rw[aB q,aB q];show ry
   . rw[az q,az q];show r g
 . by_cases q:g=f
   . rw[q];show(G9 f y fs).1
   . show(G9 f y fs).2 g (wi g λz=>hg ?_)
     change(if g=f then S u else mA g)=Z
     rw[az q];show z
def Inv.made (I:Inv X pins σ H s):Inv X pins σ (upd (upd H s.heap.objs.size (.own (s.heap.objs.size+1))) (s.heap.objs.size+1) (.ins C s.heap.objs.size []))
   {s with heap:=(s.heap.push qu).push (rQ C s.heap.objs.size)}:=by
 have G:(s.heap.push qu).get? s.heap.objs.size=S qu:=hG s.heap rfl
 have e2:((s.heap.push qu).push (rQ C s.heap.objs.size)).get? (s.heap.objs.size+1)=S (rQ C s.heap.objs.size):=by
   have:=hG (s.heap.push qu) (o:=rQ C s.heap.objs.size) rfl
   rwa[rL]at this
 have e3:(s.heap.push qu).Ns s.heap.objs.size (λz=>Z):=⟨qu,#[],_,G,rfl,(λe he=>ao he (by simp)),λz=>rfl⟩
 have I1:=I.laid (a:=s.heap.objs.size) (o:=.own (s.heap.objs.size+1)) (h':=s.heap.push qu) (t':=s.toks) (λb u q=>di _ q) (aK _) ⟨_,G⟩
 show I1.laid (a:=s.heap.objs.size+1) (o:=.ins C s.heap.objs.size []) (t':=s.toks) (λb u q=>di _ q) (Nat.le_of_eq (rL _ _)) ?_
 have O:s.heap.objs.size≠s.heap.objs.size+1:=eV (Lk _)
 show⟨by rw[aC O,ai],fL _,O,e2,λz=>Z,(Heap.Ns1.of_empty e3).at λo q=>di _ q,λz=>bK,λy hy=>ao rfl hy⟩
def VA {prog:bo}{w:aY}{env:Env}{e:Expr}{f:Str}{ci:Pos}{s:aj}{Q:ae->aj->Prop}(hb:nA e f env (eval e env)=eval e env)
   (h:aD (aI prog w) A (eval e env) (λo s₁=>aD (aI prog w) A (getAttr o f true) Q E s₁) E s):aD (aI prog w) A (eval (.Attribute e f ci) env) Q E s:=
 Attribute_any_ h (by rw[arm_eval_Attribute,hb])
end
def S3 (K:av)(ta:TE)(f:Str):TE:=λσ H Q=>ta σ H λx H1=>∃a C dx fs v,x=.ref a/\H1 a=S (.ins C dx fs)/\fB K C/\jP K C f/\fs.lookup f=S v/\Q v H1
def Q7 (K:av)(ta tv:TE)(f:Str):TS:=λD σ H=>tv σ H λy H1=>ta σ H1 λx H2=>∃a C dx fs,x=.ref a/\H2 a=S (.ins C dx fs)/\fB K C/\jP K C f/\↑fs<1000 /\
 D.nx σ (upd H2 a (.ins C dx (gN f y fs)))
section
variable{X:Cx}{o e value:Expr}{f:Str}{ci pi ahe:Pos}{ta tv:TE}
def aez (G:PE X e ta)(hb:nA e f X.env (eval e X.env)=eval e X.env):PE X (.Attribute e f ci) (S3 X.K ta f):=by
 intro pins s σ H Q I h
 show VA hb (aO (G pins s σ H _ I h) λu s1 O=>?_)
 obtain⟨x,H1,I1,rx,a,C,dx,fs,v,ex,ea,c,n,l,q⟩:=O
 subst ex
 obtain rfl:u=bU a:=rx
 show XY I1 ea c n l λu' s2 I2 ru=>⟨v,H1,I2,ru,q⟩
def afo (ha:PE X o ta)(hv:PE X value tv)(G:lI value (S (.Attribute o f pi)) ci.line X.env=pure false):PS X (.Assign [.Attribute o f pi] value ci) (Q7 X.K ta tv f):=by
 intro pins s σ H D I h
 show plainObj_wpAny_Assign_Attribute (aO (hv pins s σ H _ I h) λu O g9=>?_) G
 obtain⟨y,H1,I1,ry,q⟩:=g9
 show aO (ha pins O σ H1 _ I1 q) λov s2 h9=>?_
 obtain⟨x,H2,I2,rx,a,C,dx,fs,ex,ea,c,n,l,q2⟩:=h9
 subst ex
 obtain rfl:ov=bU a:=rx
 show agE I2 ea c n l ry λs3 I3=>⟨σ,_,I3,q2⟩
end
section
variable{X:Cx}{pins:↥(J×Obj)}{σ:St}{H:Hp}{s:aj}{A:bD}{E:ae->aj->Prop}{Q:ae->aj->Prop}{c:ae}{b:Bool}
inductive jv (K:av) (H:Hp):V->ae->Prop where
 | aM:jv K H .aM (.type "NoneType")
 | bl (x:Bool):jv K H (.bl x) (.type "bool")
 | int (i:Int):jv K H (.int i) (.type "int")
 | str (x:Str):jv K H (.str x) (.type "str")
 | flt (x:UInt64):jv K H (.flt x) (.type "float")
 | lst {a:J} {xs:↥V} (e:H a=S (.lst xs)):jv K H (.ref a) (.type "list")
 | frz {a:J} {o:Obj} {xs:↥V} (e:H a=S (.frz o (.lst xs))):jv K H (.ref a) (.type "list")
 | tup {a:J} {xs:↥V} (e:H a=S (.tup xs)):jv K H (.ref a) (.type "tuple")
 | dK {a:J} {kvs:↥(Key×V)} (e:H a=S (.dK kvs)):jv K H (.ref a) (.type "dict")
 | dT {a:J} {kvs:↥(↥Key×V)} (e:H a=S (.dT kvs)):jv K H (.ref a) (.type "dict")
 | ins {a C dx:J} {fs:↥(Str×V)} (e:H a=S (.ins C dx fs)) (cl:fB K C) (ha:lA K (.ref C) "__class__"=S (S (.builtin "object.__class__")))
     (hn:UP K (.builtin "object.__class__") "__get__"=S (S (.builtin "getset_descriptor.__get__"))) (htk:PySem.W.takesIn K (.builtin "object.__class__")=S true)
     (hm:Ls K C (.type "object")=S true):jv K H (.ref a) (.ref C)
def aaF {x:V}{u t:ae}(I:Inv X pins σ H s)(G:RelV x u)(ty:jv X.K H x t)(e:fZ X.K t c=S b)(h:∀tk,Q (.bool b) {s with toks:=tk}) :
   aD (aI X.prog X.w) A (call (.builtin "isinstance") [u,c]) Q E s:=by
 cases ty with
 | aM=>cases(show u=Aq from G);show lD PySem.W.kitx_none I.dQ bK e (λz=>nomatch z) h
 | bl y=>cases(show u=qv y from G);show lD PySem.W.kitx_bool I.dQ bK e (λz=>nomatch z) h
 | int i=>obtain⟨t,q⟩:=(show ∃t,u=rR i t from G);cases q;show lD PySem.W.kitx_int I.dQ bK e (λz=>nomatch z) h
 | str y=>obtain⟨t,q⟩:=(show ∃t,u=Ar y t from G);cases q;show lD PySem.W.kitx_str I.dQ bK e (λz=>nomatch z) h
 | flt y=>obtain⟨t,q⟩:=(show ∃t,u=Lx y t from G);cases q;show lD PySem.W.kitx_float I.dQ bK e (λz=>nomatch z) h
 | @lst a xs ea=>
   cases(show u=bU a from G)
   obtain⟨_,_,n,_,h1⟩:=(show dj X.prog X.w H s.heap a (.lst xs)from I.hok a _ ea)
   show lD UL I.dQ ⟨_,h1,U⟩ e (λz=>nomatch z) h
 | @frz a ob xs ea=>
   cases(show u=bU a from G)
   obtain⟨_,_,_,n,_,h1⟩:=(show dj X.prog X.w H s.heap a (.frz ob (.lst xs))from I.hok a _ ea)
   show lD UL I.dQ ⟨_,h1,U⟩ e (λz=>nomatch z) h
 | @tup a xs ea=>
   cases(show u=bU a from G)
   obtain⟨_,_,_,p⟩:=(show dj X.prog X.w H s.heap a (.tup xs)from I.hok a _ ea)
   obtain⟨o,h1,h2,_⟩:=p
   show lD PySem.W.kitx_tuple I.dQ ⟨o,h1,h2⟩ e (λz=>nomatch z) h
 | @dK a kvs ea=>
   cases(show u=bU a from G)
   obtain⟨_,_,vs,_,p⟩:=(show dj X.prog X.w H s.heap a (.dK kvs)from I.hok a _ ea)
   obtain⟨o,es,ep,h1,h2,_⟩:=p
   show lD UK I.dQ ⟨o,h1,h2.1⟩ e (λz=>nomatch z) h
 | @dT a kvs ea=>
   cases(show u=bU a from G)
   obtain⟨_,_,xs,_,o,es,ep,h1,h2,_⟩:=(show dj X.prog X.w H s.heap a (.dT kvs)from I.hok a _ ea)
   show lD UK I.dQ ⟨o,h1,h2.1⟩ e (λz=>nomatch z) h
 | @ins a C dx fs ea cl ha hn htk hm=>
   cases(show u=bU a from G)
   obtain⟨mA,O,_⟩:=BQ I.hok ea
   obtain⟨od,J8,_⟩:=O.look
   show lD (PySem.W.kitx_own (cl.get _) cl.hd ha hn htk hm) I.dQ J8 e (λz=>nomatch z) h
end
structure cX (k:Nat)(A:bD):Prop where
 hd:A.handled=Z
 dp:A.depth+3*k+5<LD
 un:A.units+16*k+200<dC
def cX.mono {j k:Nat}{A:bD}(r:cX k A)(h:j<=k):cX j A:=⟨r.hd,by have:=r.dp;lia,by have:=r.un;lia⟩
def cX.deeper {k:Nat}{A:bD}(r:cX (k+1) A)(env:Env):cX k (A.deeper env):=
 ⟨r.hd,by have:=r.dp;change A.depth+1+3*k+5<_;lia,by have:=r.un;change A.units+3+16*k+200<_;lia⟩
def abd {A:bD}{C:J}{us:↥ae}{G:↥(Str×ae)}:(A.under (.builtin "type.__call__" ⟨.ref C::us,G⟩)).depth=A.depth+1:=by
 first|rfl|simp[KH,Code.weight,Code.isCreation,Code.isGuard,Code.isCaller,Code.frames,KS,guardIds]
def abf {A:bD}{C:J}{us:↥ae}{G:↥(Str×ae)}:(A.under (.builtin "type.__call__" ⟨.ref C::us,G⟩)).units=A.units+1:=by
 first|rfl|simp[KH,Code.cUnits,Code.frames,KS]
def cX.make {k:Nat}{A:bD}(r:cX (k+1) A)(C:J)(us:↥ae)(G:↥(Str×ae)):cX k (A.under (.builtin "type.__call__" ⟨.ref C::us,G⟩)):=
 ⟨r.hd,by have:=r.dp;rw[abd];lia,by have:=r.un;rw[abf];lia⟩
def cX.depth {k:Nat}{A:bD}(r:cX k A):A.depth<LD:=by have:=r.dp;lia
def cX.units {k:Nat}{A:bD}(r:cX k A):A.units+64<dC:=by have:=r.un;lia
def zI:TA:=λz H Q=>Q [] H
def Ki (ta:TE)(G:TA):TA:=λσ H Q=>ta σ H λx H1=>G σ H1 λxs H2=>Q (x::xs) H2
section
variable{X:Cx}{e:Expr}{es:↥Expr}{te:TE}{t:TA}{ci:Pos}
def adW:PA X [] zI:=λz z z z H Q I h=>zT ⟨[],H,I,.nil,h⟩
def adV (ha:PE X e te)(O:PA X es t)(hs:cM (e::es) X.env=(false,eval e X.env)::cM es X.env:=by rfl):PA X (e::es) (Ki te t):=by
 intro ci pins s σ H Q I h
 rw[hs]
 change aD _ _ (spliced ((false,eval e X.env)::iB ci (cM es X.env))) _ _ s
 show uH (aO (ha pins s σ H _ I h) λu s1 G=>?_)
 obtain⟨x,H1,I1,r1,q1⟩:=G
 show aO (O ci pins s1 σ H1 _ I1 q1) λus s2 G=>?_
 obtain⟨xs,H2,I2,r2,q2⟩:=G
 show⟨x::xs,H2,I2,.cons r1 r2,q2⟩
def Kl (t:TA):TE:=λσ H Q=>t σ H λxs H1=>↑xs<=sizeLine/\∀p,H1 p=Z->Q (.ref p) (upd H1 p (.tup xs))
def Kj (t:TA):TE:=λσ H Q=>t σ H λxs H1=>↑xs<=sizeLine/\∀p,H1 p=Z->Q (.ref p) (upd H1 p (.lst xs))
def aeS {x1}(h:PA X es t):PE X (.Tuple es x1 ci) (Kl t):=by
 intro pins s σ H Q I hq
 show wpAny_Tuple_spliced (aO (h ci pins s σ H _ I hq) λus G g9=>?_)
 obtain⟨xs,H1,O,r,z,q⟩:=g9
 show⟨by rw[← ↑r];show z,?_⟩
 have hf:H1 G.heap.objs.size=Z:=O.hok.fresh (aK _)
 show⟨.ref G.heap.objs.size,upd H1 G.heap.objs.size (.tup xs),O.laid (t':=G.toks) (λb u e=>di _ e) (aK _) ?_,U,q _ hf⟩
 show⟨z,us,r,⟨_,hG _ rfl,U,_,U⟩⟩
def aeG (h:PA X es t):PE X (.List es ci) (Kj t):=by
 intro pins s σ H Q I hq
 show wpAny_List_spliced (aO (h ci pins s σ H _ I hq) λus G g9=>?_)
 obtain⟨xs,H1,O,r,z,q⟩:=g9
 show⟨by rw[← ↑r];show z,?_⟩
 have hf:H1 G.heap.objs.size=Z:=O.hok.fresh (aK _)
 show⟨.ref G.heap.objs.size,upd H1 G.heap.objs.size (.lst xs),O.laid (t':=G.toks) (λb u e=>di _ e) (aK _) ?_,U,q _ hf⟩
 show⟨z,us,0,r,hG _ rfl⟩
end
abbrev Sp:=↥V->Hp->VK->XK->Prop
abbrev js:=↥Env->Hp->aj->XK->ae->aj->Prop
structure oT (P:bo)(w:aY)(K:av)(mg:Str->Option ae)(base:Heap)(A:bD)(outer:↥Env)(s:aj)(H:Hp):Prop where
 frames:A.frames=S outer
 mod:Mod K mg base
 bs:∀b o,base.get? b=S o->s.heap.get? b=S o/\H b=Z
 bsz:base.objs.size<=s.heap.objs.size
 ij:s.heap.FunFrames base outer
 frf:∀b∈eF outer,H b=Z
 hok:dH P w H s.heap
 bare:oH s.gens
def CE (outer:↥Env)(P:bo)(w:aY)(H:Hp)(s:aj)(Q:VK)(u:ae)(s':aj):Prop:=
 ∃v H',s'.os=s.os/\oH s'.gens/\Un (eF outer) [] H H' s.heap s'.heap/\dH P w H' s'.heap/\RelV v u/\Q v H'
def CR (CX:js)(outer:↥Env)(P:bo)(w:aY)(H:Hp)(s:aj)(Q:VK)(E:XK)(r:oQ)(s':aj):Prop:=
 match r with
 | .ok (.ret u)=>CE outer P w H s Q u s'
 | .ok _=>False
 | .error e=>CX outer H s E e s'
structure aU (P:bo)(w:aY)(K:av)(mg:Str->Option ae)(base:Heap)(CX:js)(k:Nat)(f:J)(fd:ba)(ps:↥Str)(sp:Sp):Prop where
 len:∀vs H Q E,sp vs H Q E->↑vs=↑ps
 run:∀(A:bD) (outer:↥Env) (s:aj) (H:Hp) (args:Args) (us:↥ae) (vs:↥V) (Q:VK) (E:XK),cX k A->oT P w K mg base A outer s H->uG s fd args (ps.zip us)->Vals vs us->sp vs H Q E ->
   hU (aI P w) A (.call (.ref f) args) (CR CX outer P w H s Q E) s
def aU.mono {P:bo}{w:aY}{K:av}{mg:Str->Option ae}{base:Heap}{CX:js}{j k:Nat}{f:J}{fd:ba}{ps:↥Str}{sp:Sp}(F:aU P w K mg base CX j f fd ps sp)(h:j<=k) :
   aU P w K mg base CX k f fd ps sp:=⟨F.len,λA outer s H args us vs Q E G=>F.run A outer s H args us vs Q E (G.mono h)⟩
def aU.imp {P:bo}{w:aY}{K:av}{mg:Str->Option ae}{base:Heap}{CX:js}{k:Nat}{f:J}{fd:ba}{ps:↥Str}{sp sp':Sp}(F:aU P w K mg base CX k f fd ps sp)
   (h:∀vs H Q E,sp' vs H Q E->sp vs H Q E):aU P w K mg base CX k f fd ps sp':=
 ⟨λvs H Q E q=>F.len vs H Q E (h _ _ _ _ q),λA outer s H args us vs Q E G I hb hv O=>F.run A outer s H args us vs Q E G I hb hv (h _ _ _ _ O)⟩
def oT.make {P:bo}{w:aY}{K:av}{mg:Str->Option ae}{base:Heap}{A:bD}{outer:↥Env}{s:aj}{H:Hp}(e:oT P w K mg base A outer s H)(C:J)(us:↥ae)(G:↥(Str×ae)) :
   oT P w K mg base (A.under (.builtin "type.__call__" ⟨.ref C::us,G⟩)) outer s H:=⟨by first|show e.frames|(simpa[KH,Code.envs,KS,pushEnvs]using e.frames),e.mod,e.bs,e.bsz,e.ij,e.frf,e.hok,e.bare⟩
section
variable{X:Cx}{pins:↥(J×Obj)}{σ:St}{H:Hp}{s s':aj}
def Inv.FE (I:Inv X pins σ H s):oT X.prog X.w X.K X.mg X.base X.A X.stack s H:=
 ⟨I.ok.frames,I.ok.mod,I.bs,ck I.ok.bsz I.sz,I.stack,I.Kh,I.hok,I.bare⟩
def Inv.after {Q:VK}{u:ae}(I:Inv X pins σ H s)(h:CE X.stack X.prog X.w H s Q u s'):EP X pins σ Q u s':=by
 obtain⟨v,H',os,G,un,O,r,q⟩:=h
 obtain⟨hh,g,d,t,os'⟩:=s'
 obtain rfl:os'=s.os:=os
 show⟨v,H',I.call (h':=hh) (g':=g) (d':=d) (t':=t) (ch:=[]) un O G (λb z=>ao z (by simp)),r,q⟩
end
def uv (sp:Sp)(Uf:↥V)(E:XK)(t:TA):TE:=λσ H Q=>t σ H λvs H1=>sp (vs++Uf) H1 Q E
def Dn (C:J)(m:Str)(sp:Sp)(Uf:↥V)(E:XK)(ta:TE)(t:TA):TE:=λσ H Q=>ta σ H λx H1=>∃a dx fs,x=.ref a/\H1 a=S (.ins C dx fs)/\fs.lookup m=Z /\
 t σ H1 λvs H2=>sp (x::(vs++Uf)) H2 Q E
def S8 (C:J)(sp:Sp)(Uf:↥V)(E:XK)(t:TA):TE:=λσ H Q=>t σ H λvs H1=>∀x dx,H1 x=Z->H1 dx=Z->dx≠x ->
 sp (.ref x::(vs++Uf)) (upd (upd H1 dx (.own x)) x (.ins C dx [])) (λv H2=>v=.aM/\Q (.ref x) H2) E
def Binds (K:av)(fd:ba)(ps:↥Str)(ds:↥ae):Prop:=
 ∀(s:aj) (us:↥ae),K.In s.heap->↑(us++ds)=↑ps->uG s fd ⟨us,[]⟩ (ps.zip (us++ds))
def Binds.all {K:av}{fd:ba}{ps:↥Str}(h:∀us:↥ae,↑us=↑ps->xk fd ⟨us,[]⟩=pure (ps.zip us)):Binds K fd ps []:=λs us z G=>by
 rw[jJ]at G ⊢
 show .of_eq (h us G)
def Passes (CX:js)(X:Cx)(E:XK):Prop:=∀(pins:↥(J×Obj)) (σ:St) (H:Hp) (s:aj) (e:ae) (s':aj),Inv X pins σ H s->CX X.stack H s E e s'->X.xe e s'
section
variable{X:Cx}{CX:js}{k:Nat}{f C:J}{fd:ba}{ps:↥Str}{sp:Sp}{Uf:↥V}{ds:↥ae}{E:XK}{x m:Str}{p ci lv:Pos}{e o:Expr}{es:↥Expr}{ta:TE}{t:TA}
def IV {pins:↥(J×Obj)}{σ:St}{H:Hp}{s:aj}{Q:VK}{us:↥ae}{vs:↥V}(F:aU X.prog X.w X.K X.mg X.base CX k f fd ps sp)(O:cX k X.A)(hb:Binds X.K fd ps ds)(hd:Vals Uf ds)(hx:Passes CX X E)
   (I:Inv X pins σ H s) (r:Vals vs us) (h:sp (vs++Uf) H Q E):aD (aI X.prog X.w) X.A (call (.ref f) us) (EP X pins σ Q) X.xe s:=by
 have G:Vals (vs++Uf) (us++ds):=r.append hd
 have hl:↑(us++ds)=↑ps:=by rw[← G.length];show F.len _ _ _ _ h
 show Ay (xl (F.run X.A X.stack s H ⟨us,[]⟩ (us++ds) (vs++Uf) Q E O I.FE (hb s us I.dQ hl) G h) λr s' hq=>?_)
 cases r with
 | error e=>show hx pins σ H s e s' I hq
 | ok fl=>
   cases fl with
   | ret u=>show I.after hq
   | next=>show gD hq
   | brk=>show gD hq
   | cont=>show gD hq
def IF (F:aU X.prog X.w X.K X.mg X.base CX k f fd ps sp)(O:cX k X.A)(hg:Gl X x)(hm:X.mg x=S (.ref f))(hk:lC X.K (.ref f)=true)(hb:Binds X.K fd ps ds)(hd:Vals Uf ds)(hx:Passes CX X E)
   (ha:PA X (e::es) t) (IN:(x==("__debug__":Str))=false:=by left) (he:cM (e::es) X.env=(false,eval e X.env)::cM es X.env:=by rfl) (Ev:(iB ci (cM es X.env)).any (·.1)=false:=by rfl) :
   PE X (.Call (.Name x p) (e::es) [] ci) (uv sp Uf E t):=by
 intro pins s σ H Q I h
 show nD (vV I hg hm ?_ IN)
 show D9 (h₀:=X.base) I.ok.mod.kin hk (aO (ha ci pins s σ H _ I h) λus s1 g9=>?_) he Ev
 obtain⟨vs,H1,G,r,q⟩:=g9
 show⟨G.dQ,IV F O hb hd hx G r q⟩
def aeI {pl:Sem Bool}(he:PE X o ta)(c:fB X.K C)(O:Meth X.K C m f)(F:aU X.prog X.w X.K X.mg X.base CX k f fd ps sp)(hr:cX k X.A)(hb:Binds X.K fd ps ds)(hd:Vals Uf ds)(hx:Passes CX X E)(ha:PA X (e::es) t)
   (G:cM (e::es) X.env=(false,eval e X.env)::cM es X.env:=by rfl) (Ev:(iB ci (cM es X.env)).any (·.1)=false:=by rfl)
   (ht:eval (.Call (.Attribute o m lv) (e::es) [] ci) X.env=(do
     let ov←eval o X.env
     lH lv.atName
     let(f,first)←jr [ov] (xn ov m pl)
     callWith ci f first (iB ci (cM (e::es) X.env)) (xj ci (xo [] X.env))):=by rfl) :
   PE X (.Call (.Attribute o m lv) (e::es) [] ci) (Dn C m sp Uf E ta t):=by
 intro pins s σ H Q I h
 show UM (pl:=pl) (aO (he pins s σ H _ I h) λu s1 h9=>?_) ht
 obtain⟨x,H1,I1,rx,a,dx,fs,ex,ea,l,q⟩:=h9
 subst ex
 obtain rfl:u=bU a:=rx
 show Nx I1 ea c O l (D9 (first:=[.ref a]) (h₀:=X.base) I.ok.mod.kin O.kp (aO (ha ci pins s1 σ H1 _ I1 q) λus s2 g9=>?_) G Ev)
 obtain⟨vs,H2,I2,r,q2⟩:=g9
 show⟨I2.dQ,IV (us:=.ref a::us) (vs:=.ref a::vs) F hr hb hd hx I2 (.cons rfl r) q2⟩
def aeJ {pl:Sem Bool}(he:PE X o ta)(c:fB X.K C)(O:Meth X.K C m f)(F:aU X.prog X.w X.K X.mg X.base CX k f fd ps sp)(hr:cX k X.A)(hb:Binds X.K fd ps ds)(hd:Vals Uf ds)(hx:Passes CX X E)
   (ht:eval (.Call (.Attribute o m lv) [] [] ci) X.env=(do
     let ov←eval o X.env
     lH lv.atName
     let(f,first)←jr [ov] (xn ov m pl)
     callWith ci f first (iB ci (cM [] X.env)) (xj ci (xo [] X.env))):=by rfl) :
   PE X (.Call (.Attribute o m lv) [] [] ci) (Dn C m sp Uf E ta zI):=by
 intro pins s σ H Q I h
 show UM (pl:=pl) (aO (he pins s σ H _ I h) λu s1 h9=>?_) ht
 obtain⟨x,H1,G,rx,a,dx,fs,ex,ea,l,q⟩:=h9
 subst ex
 obtain rfl:u=bU a:=rx
 show Nx G ea c O l (PySem.W.callWith_K0 (first:=[.ref a]) G.dQ O.kp (IV (us:=[.ref a]) (vs:=[.ref a]) F hr hb hd hx G (.cons rfl .nil) q))
structure Mk (K:av)(C f:J):Prop where
 makes:PySem.W.makesIn K C=true
 init:lA K (.ref C) "__init__"=S (S (.ref f))
 fn:Lq K (.ref f)=true
 kp:lC K (.ref C)=true
def af0 {pins:↥(J×Obj)}{σ:St}{H:Hp}{s:aj}{Q:VK}{us:↥ae}{vs:↥V}(M8:Mk X.K C f)(F:aU X.prog X.w X.K X.mg X.base CX k f fd ps sp)(hr:cX (k+1) X.A)(hb:Binds X.K fd ps ds)(hd:Vals Uf ds)
   (hx:Passes CX X E) (I:Inv X pins σ H s) (r:Vals vs us)
   (h:∀x dx,H x=Z->H dx=Z->dx≠x->sp (.ref x::(vs++Uf)) (upd (upd H dx (.own x)) x (.ins C dx [])) (λv H2=>v=.aM/\Q (.ref x) H2) E) :
   aD (aI X.prog X.w) X.A (call (.ref C) us) (EP X pins σ Q) X.xe s:=by
 have hq:=h (s.heap.objs.size+1) s.heap.objs.size (I.hok.fresh (Nat.le_succ _)) (I.hok.fresh (aK _)) (eV (Lk _))
 have O:=Inv.made (C:=C) I
 have r2:Vals (V.ref (s.heap.objs.size+1)::(vs++Uf)) (bU (s.heap.objs.size+1)::(us++ds)):=.cons rfl (r.append hd)
 have hl:↑(bU (s.heap.objs.size+1)::us++ds)=↑ps:=by
   have e:=↑r2
   rw[F.len _ _ _ _ hq]at e
   show e.symm
 show Ay (abe (f:=f) I.dQ M8.makes M8.init (beq_iff_eq.mp M8.fn) (xl (F.run _ X.stack _ _ ⟨bU (s.heap.objs.size+1)::us,[]⟩ (bU (s.heap.objs.size+1)::(us++ds)) _ _ E (hr.make C us [])
   (O.FE.make C us []) (hb _ (bU (s.heap.objs.size+1)::us) O.dQ hl) r2 hq) λr s' G=>?_))
 cases r with
 | error e=>show hx pins σ _ _ e s' O G
 | ok fl=>
   cases fl with
   | ret u=>
     obtain⟨v,H',I3,rv,ev,q3⟩:=O.after G
     subst ev
     show⟨rv,⟨V.ref (s.heap.objs.size+1),H',I3,U,q3⟩⟩
   | next=>show gD G
   | brk=>show gD G
   | cont=>show gD G
def aeH (M8:Mk X.K C f)(F:aU X.prog X.w X.K X.mg X.base CX k f fd ps sp)(O:cX (k+1) X.A)(hg:Gl X x)(hm:X.mg x=S (.ref C))(hb:Binds X.K fd ps ds)(hd:Vals Uf ds)(hx:Passes CX X E)
   (ha:PA X (e::es) t) (IN:(x==("__debug__":Str))=false:=by left) (he:cM (e::es) X.env=(false,eval e X.env)::cM es X.env:=by rfl) (Ev:(iB ci (cM es X.env)).any (·.1)=false:=by rfl) :
   PE X (.Call (.Name x p) (e::es) [] ci) (S8 C sp Uf E t):=by
 intro pins s σ H Q I h
 show nD (vV I hg hm ?_ IN)
 show D9 (h₀:=X.base) I.ok.mod.kin M8.kp (aO (ha ci pins s σ H _ I h) λus s1 g9=>?_) he Ev
 obtain⟨vs,H1,G,r,q⟩:=g9
 show⟨G.dQ,af0 M8 F O hb hd hx G r q⟩
end
structure bE (N P:↥Str)(sc:cG):Prop where
 kind:sc.kind=.function
 co:sc.isCoroutine=false
 gen:sc.isGenerator=false
 nd:N.Nodup
 pre:N.take P.length=P
 par:∀x∈P,sc.names.lookup x=S .local\/sc.names.lookup x=S .cell
 nofree:∀y∈sc.names,y.2≠.free
def bP {N P:↥Str}{sc:cG}(a:sc.kind=.function:=by rfl)(b:sc.isCoroutine=false:=by rfl)(c:sc.isGenerator=false:=by rfl)(d:N.Nodup:=by right)(e:N.take P.length=P:=by rfl)(f:∀x∈P,sc.names.lookup x=S .local\/sc.names.lookup x=S .cell:=by right)(g:∀y∈sc.names,y.2≠.free:=by right):bE N P sc:=⟨a,b,c,d,e,f,g⟩
theorem Mj {kg:Str->Option lq}{x:Str}:∀{binds:↥(Str×ae)} {m:Str->Option ae},(∀v,(x,v)∉binds)->bindL kg binds m x=m x
 | [],_,_=>rfl
 | (n,v)::r,m,h=>by
   unfold bindL
   rw[Mj λw hw=>h w (qt _ hw)]
   split
   . have:x≠n:=by rintro rfl;show h v oK
     simp[this]
   . rfl
theorem Mg {kg:Str->Option lq}{x:Str}:∀{binds:↥(Str×ae)} {m:Str->Option ae},(∀v,(x,v)∉binds)->bindC kg binds m x=m x
 | [],_,_=>rfl
 | (n,v)::r,m,h=>by
   unfold bindC
   rw[Mg λw hw=>h w (qt _ hw)]
   split
   . rfl
   . have:x≠n:=by rintro rfl;show h v oK
     simp[this]
theorem Mi {kg:Str->Option lq}{x:Str}{v:ae}:∀{P:↥Str} {vs:↥ae} {i:Nat} {m:Str->Option ae},P.Nodup->P[i]?=S x->vs[i]?=S v->kg x=S .local ->
   bindL kg (P.zip vs) m x=S v
 | [],_,_,_,_,h,_,_=>by simp at h
 | _::_,[],_,_,_,_,h,_=>by simp at h
 | p::P,w::vs,0,m,nd,h1,h2,hk=>by
   simp at h1 h2;subst h1;subst h2
   change bindL kg ((p,w)::P.zip vs) m p=_
   unfold bindL
   rw[Mj λv hv=>(List.nodup_cons.mp nd).1 (rN hv).1,aB hk]
   simp
 | p::P,w::vs,i+1,m,nd,h1,h2,hk=>by
   change bindL kg ((p,w)::P.zip vs) m x=_
   unfold bindL
   show Mi (i:=i) (List.nodup_cons.mp nd).2 (by simpa using h1) (by simpa using h2) hk
theorem Mf {kg:Str->Option lq}{x:Str}{v:ae}:∀{P:↥Str} {vs:↥ae} {i:Nat} {m:Str->Option ae},P.Nodup->P[i]?=S x->vs[i]?=S v->kg x≠S .local ->
   bindC kg (P.zip vs) m x=S v
 | [],_,_,_,_,h,_,_=>by simp at h
 | _::_,[],_,_,_,_,h,_=>by simp at h
 | p::P,w::vs,0,m,nd,h1,h2,hk=>by
   simp at h1 h2;subst h1;subst h2
   change bindC kg ((p,w)::P.zip vs) m p=_
   unfold bindC
   rw[Mg λv hv=>(List.nodup_cons.mp nd).1 (rN hv).1,az hk]
   simp
 | p::P,w::vs,i+1,m,nd,h1,h2,hk=>by
   change bindC kg ((p,w)::P.zip vs) m x=_
   unfold bindC
   show Mf (i:=i) (List.nodup_cons.mp nd).2 (by simpa using h1) (by simpa using h2) hk
def start (N:↥Str)(vs:↥V):St:=vs.map S++fQ (N.length-↑vs) Z
def gV (CX:js)(P:bo)(w:aY)(K:av)(mg:Str->Option ae)(base:Heap)(N:↥Str)(qual:Str)(f8:cG)(f:J)(cd:ae)(A:bD)(outer:↥Env)(s:aj)(H:Hp)(E:XK):Cx where
 prog:=P
 w:=w
 K:=K
 mg:=mg
 base:=base
 A:=A.deeper (fM qual f8 s.heap.objs.size f cd)
 N:=N
 s₀:=s
 H₀:=H
 env:=fM qual f8 s.heap.objs.size f cd
 outer:=outer
 stack:=fM qual f8 s.heap.objs.size f cd::outer
 ex:=[]
 calm:=true
 fn:=λz=>true
 pn:=[]
 xe:=λe s'=>aD (aI P w) (A.deeper (fM qual f8 s.heap.objs.size f cd)) (leaving (fM qual f8 s.heap.objs.size f cd) e) (λz IW=>CX outer H s E e IW) (λe' IW=>CX outer H s E e' IW) s'
def MA {sc:cG}{n:Nat}{x:Str}(h:sc.names.lookup x=S .cell):∃c,(cellsFrom n sc.names []).lookup x=S c:=by
 have q:=Ln sc.names n [] (.inl h)
 show Option.isSome_iff_exists.mp q
def OP {CX:js}{P:bo}{w:aY}{K:av}{mg:Str->Option ae}{base:Heap}{N ps:↥Str}{qual:Str}{f8:cG}{f:J}{cd:ae}{A:bD}{outer:↥Env}{s s1:aj}{H:Hp}{E:XK}{us:↥ae}{vs:↥V}
   (S8:bE N ps f8) (hd:A.handled=Z) (G:oT P w K mg base A outer s H) (hl:↑vs=↑ps) (r:Vals vs us)
   (x:InCallC s s.heap.objs.size (bindL (fM qual f8 s.heap.objs.size f cd).kindOf (ps.zip us) λt=>Z) (cellsFrom (s.heap.objs.size+1) f8.names []) (bindC (fM qual f8 s.heap.objs.size f cd).kindOf (ps.zip us) λt=>Z) s1) :
   Inv (gV CX P w K mg base N qual f8 f cd A outer s H E) [] (start N vs) H s1:=by
 have Ev:↑ps<=N.length:=by have:=congrArg Ag S8.pre;rw[cp]at this;lia
 obtain⟨h1,tk,rfl,hk⟩:=x.done
 have I:∀b:J,b∉(gV CX P w K mg base N qual f8 f cd A outer s H E).ex:=λb z=>ao (show b∈([]:↥J)from z) (by simp)
 show⟨⟨G.mod,S8.kind,U,U,aK _,λy z c h1 h2=>?_,λy hy=>?_,λy c t h=>?_,λt=>hd,Ue G.frames,.inr ⟨U,U⟩,λb z=>ao z (I b),G.bs,G.bsz,λb t t=>I b,λb z=>ao z (I b),G.ij,G.frf⟩,
   rfl,G.bare,Un.kept hk,⟨_,x.toInCall.ns,λi y v h1 h2 h3=>?_⟩,λy c h=>⟨_,x.cell y c h⟩,G.hok.fresh (aK _),λy c h=>?_,λp O=>ao (show p∈([]:↥(J×Obj))from O) (by simp),G.hok.kept hk,?_⟩
 . show name_of_addr x.apart (oP h1) (oP h2)
 . have hy:f8.names.lookup y=S .cell\/f8.names.lookup y=S .free:=hy
   rcases hy with hy|hy
   . show MA hy
   . show ao rfl (S8.nofree _ (oP hy))
 . show jq (x.above y c (oP h))
 . have hi:i<↑vs:=by
     unfold start at h2
     by_cases hi:i<↑vs
     . show hi
     . rw[K4 (by simpa using hi)]at h2
       rw[K5]at h2
       split at h2<;>cases h2
   have ha:vs[i]?=S v:=by
     unfold start at h2
     rw[Ad (by simpa using hi),eI]at h2
     cases e:vs[i]? with
     | none=>rw[e]at h2;cases h2
     | some a=>rw[e]at h2;cases h2;rfl
   obtain⟨u,hu,rv⟩:=r.get ha
   have O:ps[i]?=S y:=by
     rw[← S8.pre,List.getElem?_take_of_lt ⋯];show h1
   have Pw:ps.Nodup:=by rw[← S8.pre];show S8.nd.sublist (D3 _ _)
   show⟨u,rv,?_⟩
   rcases S8.par y (bI O)with k|k
   . show .inl ⟨k,Mi Pw O hu k⟩
   . obtain⟨c,e⟩:=MA (n:=s.heap.objs.size+1) k
     show .inr ⟨.inl k,c,e,?_⟩
     have q:=x.cell y c e
     rw[Mf Pw O hu (by change f8.names.lookup y≠_;rw[k];decide)]at q
     show q
 . show G.hok.fresh (jq (x.above y c (oP h)))
 . unfold start
   change _=N.length
   rw[cJ,aA,wW]
   lia
def FI {CX:js}{P:bo}{w:aY}{K:av}{mg:Str->Option ae}{base:Heap}{k:Nat}{f:J}{name qual:Str}{G:Arguments}{body:↥Stmt}{f8:cG}{dV kV doc pm O ct oc:ae}{an od:Option J}
   {ZB:Array (Option ae)} {N ps:↥Str} {sp:Sp} (lk:K.lookup f=S ⟨oc,od,.func (lB name qual G body f8 dV kV doc pm an O ct),ZB⟩) (wS:xh K O qual=true) (S8:bE N ps f8)
   (len:∀vs H Q E,sp vs H Q E->↑vs=↑ps)
   (Fa:∀(A:bD) (outer:↥Env) (s:aj) (H:Hp) (vs:↥V) (Q:VK) (E:XK),cX k (A.deeper (fM qual f8 s.heap.objs.size f O))->sp vs H Q E ->
     ∃t,fR (gV CX P w K mg base N qual f8 f O A outer s H E) body t/\t {nx:=λz H'=>Q .aM H',rt:=Q} (start N vs) H) :
   aU P w K mg base CX (k+1) f (lB name qual G body f8 dV kV doc pm an O ct) ps sp:=by
 show⟨len,λA outer s H args us vs Q E hr e0 hb r hsp=>?_⟩
 have hl:=len _ _ _ _ hsp
 have KX:K.In s.heap:=e0.mod.kin.keeps λb o e=>(e0.bs b o e).1
 have lim:s.heap.NoLimit:=e0.mod.nolimit.keeps λb o e=>(e0.bs b o e).1
 have Zj:∀y∈ps.zip us,f8.names.lookup y.1=S .local\/(f8.names.lookup y.1=S .cell/\((cellsFrom (s.heap.objs.size+1) f8.names []).lookup y.1).isSome=true):=λ⟨n,v⟩ hy=>by
   rcases S8.par n (rN hy).1 with q|q
   . show .inl q
   . show .inr ⟨q,Ln _ _ _ (.inl q)⟩
 show codeAny_call_function hr.depth (KX _ _ lk) rfl S8.co S8.gen rfl (UI KX wS) (hb _ _ _ _ (UT S8.kind Zj λenv he s1 x=>?_))
 subst he
 show⟨lim.keeps x.toInCall.keep,codeAny_func ?_⟩
 obtain⟨t,ht,hq⟩:=Fa A outer s H vs Q E (hr.deeper _) hsp
 have I:Inv (gV CX P w K mg base N qual f8 f O A outer s H E) [] (start N vs) H s1:=OP S8 hr.hd e0 hl r x
 show kh (ht [] s1 (start N vs) H _ I hq) (λfl s' hs=>?_) λe s' hs=>hs
 have fin:∀{σ':St} {H':Hp} {v:V} {u:ae},Inv (gV CX P w K mg base N qual f8 f O A outer s H E) [] σ' H' s'->RelV v u->Q v H'->CE outer P w H s Q u s':=
   λ{σ' H' v u} J8 rv q=>⟨v,H',J8.os,J8.bare,J8.base,J8.hok,rv,q⟩
 cases fl with
 | ret u=>
   obtain⟨v,σ',H',J8,rv,q⟩:=hs
   show fin J8 rv q
 | next=>
   obtain⟨σ',H',J8,q⟩:=hs
   show fin (v:=V.aM) (u:=Aq) J8 rfl q
 | brk=>
   obtain⟨_,_,_,q⟩:=hs
   show gD q
 | cont=>
   obtain⟨_,_,_,q⟩:=hs
   show gD q
section
variable{X:Cx}{x:Str}{p ci:Pos}{e:Expr}{es:↥Expr}{t:TA}{id T:String}{r:↥V->Hp->VK->Prop}
def wL (r:↥V->Hp->VK->Prop)(t:TA):TE:=λσ H Q=>t σ H λvs H1=>r vs H1 Q
def aem (hc:jO X (.builtin id) r)(G:Gl X x)(O:X.mg x=Z)(hv:jc x=S (.builtin id))(ha:PA X (e::es) t)(hn:x≠"__name__":=by left)(IN:(x==("__debug__":Str))=false:=by left)
   (he:cM (e::es) X.env=(false,eval e X.env)::cM es X.env:=by rfl) (Ev:(iB ci (cM es X.env)).any (·.1)=false:=by rfl):PE X (.Call (.Name x p) (e::es) [] ci) (wL r t):=by
 intro pins s σ H Q I h
 show nD (md I G O hv ?_ hn IN)
 show PyProof.Rows.callWith_builtin1 (aO (ha ci pins s σ H _ I h) λus s1 h9=>?_) he Ev
 obtain⟨vs,H1,I1,r1,q1⟩:=h9
 show hc pins s1 σ H1 vs us Q I1 r1 q1
def aeo (hc:jO X (.type T) r)(G:Gl X x)(O:X.mg x=Z)(hv:jc x=S (.type T))(ha:PA X (e::es) t)(hn:x≠"__name__":=by left)(IN:(x==("__debug__":Str))=false:=by left)
   (he:cM (e::es) X.env=(false,eval e X.env)::cM es X.env:=by rfl) (Ev:(iB ci (cM es X.env)).any (·.1)=false:=by rfl):PE X (.Call (.Name x p) (e::es) [] ci) (wL r t):=by
 intro pins s σ H Q I h
 show nD (md I G O hv ?_ hn IN)
 show oO (aO (ha ci pins s σ H _ I h) λus s1 h9=>?_) he Ev
 obtain⟨vs,H1,I1,r1,q1⟩:=h9
 show hc pins s1 σ H1 vs us Q I1 r1 q1
end
end L2
namespace HT
open PySem PyProof.Rows
section
variable{prog:bo}{w:aY}{A:bD}{E:ae->aj->Prop}{s:aj}
def bH (n d:Nat):Option Int->Nat
 | none=>d
 | some v=>if v<0 then(v+(n:Int)).toNat else min v.toNat n
def aga (n d:Nat):bH n d Z=d:=rfl
def uh (n d k:Nat):bH n d (S (k:Int))=min k n:=by
 change(if(k:Int)<0 then((k:Int)+(n:Int)).toNat else min (k:Int).toNat n)=min k n
 rw[az ⋯,gE]
def af9 (n d:Nat)(G:d<=n)(o:Option Int):bH n d o<=n:=by
 cases o with
 | none=>show G
 | some v=>
   change(if v<0 then(v+(n:Int)).toNat else min v.toNat n)<=n
   by_cases hv:v<0
   . rw[aB hv];lia
   . rw[az hv];show Nat.min_le_right _ _
def MF (v:Int)(n d:Nat):(if v<0 then max (v+(n:Int)) 0 else min v (n:Int))=((bH n d (S v):Nat):Int):=by
 change(if v<0 then max (v+(n:Int)) 0 else min v (n:Int))=(((if v<0 then(v+(n:Int)).toNat else min v.toNat n):Nat):Int)
 by_cases hv:v<0
 . simp only[aB hv];lia
 . simp only[az hv];lia
def Vp (lo hi:Option Int)(n:Nat):KQ lo hi 1 (n:Int)=(((bH n 0 lo:Nat):Int),((bH n n hi:Nat):Int)):=by
 have h1:¬ ((1:Int)<0):=⋯
 unfold KQ
 simp only[h1,if_false]
 show Prod.ext ?_ ?_
 . cases lo with
   | none=>rfl
   | some v=>show MF v n 0
 . cases hi with
   | none=>rfl
   | some v=>show MF v n n
def afc (i j:Nat):DJ (i:Int) (j:Int) 1=j-i:=by
 unfold DJ
 have h1:(1:Int) > 0:=⋯
 simp only[h1,if_true,DO]
 split<;>lia
def RY {v:ae}{o:Option Int}{Q:Option Int->aj->Prop}(p:IsPart v o)(h:Q o s):aD (aI prog w) A (Builtin.Slice.slicePartIndex v) Q E s:=by
 cases p with
 | none=>show slicePart_none h
 | int i t=>show slicePart_int h
def agO {sl:J}{G I:ae}{lo hi:Option Int}{n:Nat}{Q:Int×Int×Nat->aj->Prop}(hs:s.heap.IsSliceOf sl G I .none)(pl:IsPart G lo)(pu:IsPart I hi)
   (h:Q (((bH n 0 lo:Nat):Int),1,bH n n hi-bH n 0 lo) s):aD (aI prog w) A (Um (.ref sl) (pure (n:Int))) Q E s:=by
 obtain⟨os,O,Ga,Bx⟩:=id hs
 unfold Um Builtin.Slice.sliceFields
 show aq (aq (hV O Bx (x:=G) rfl (aq (hV O Bx (x:=I) rfl (aq (hV O Bx (x:=.none) rfl (aS (aq (slicePart_none ?_)))))))))
 change aD _ _ (if((1:Int)==0)=true then _ else _) _ _ s
 rw[az ∅]
 show aq (RY pl (aq (RY pu (aq (aS ?_)))))
 change aD _ _ (match KQ lo hi 1 (n:Int)with|(lo,hi)=>pure (lo,(1:Int),DJ lo hi 1)) _ _ s
 rw[Vp lo hi n]
 change aD _ _ (pure (((bH n 0 lo:Nat):Int),(1:Int),DJ ((bH n 0 lo:Nat):Int) ((bH n n hi:Nat):Int) 1)) _ _ s
 rw[afc]
 show aS h
def ae7 (xs:Array ae)(i k:Nat):((cj k).filterMap λ(m:Nat)=>xs[((i:Int)+(m:Int)*1).toNat]?).toArray=((xs.toList.drop i).take k).toArray:=by
 have e:(λ(m:Nat)=>xs[((i:Int)+(m:Int)*1).toNat]?)=λm=>xs[i+m]?:=by
   funext m
   have:((i:Int)+(m:Int)*1).toNat=i+m:=⋯
   rw[this]
 rw[e]
 have:=pick_run xs i k
 rw[K0]at this
 have G:((λx=>xs[x]?) ∘ λx=>i+x)=λm=>xs[i+m]?:=rfl
 rw[G]at this
 rw[this]
def XW {t O:J}{items:Array ae}{vl vu:ae}{lo hi:Option Int}{Q:ae->aj->Prop}(G:IsTup s.heap t items)(hs:s.heap.IsSliceOf O vl vu .none)(pl:IsPart vl lo)(pu:IsPart vu hi)
   (hw:¬ (bH items.size 0 lo=0/\bH items.size items.size hi=items.size))
   (h:Q (.ref s.heap.objs.size) {s with heap:=s.heap.push {cls:=.type "tuple",data:=.seq ((items.toList.drop (bH items.size 0 lo)).take (bH items.size items.size hi-bH items.size 0 lo)).toArray} })
   (hsz:items.size<=sizeLine):aD (aI prog w) A (rW (.ref t) (.ref O)) Q E s:=by
 have I:sizeOk (.seq ((items.toList.drop (bH items.size 0 lo)).take (bH items.size items.size hi-bH items.size 0 lo)).toArray):=by
   change((items.toList.drop (bH items.size 0 lo)).take (bH items.size items.size hi-bH items.size 0 lo)).toArray.size<=sizeLine
   rw[eM,cp,oI,DC]
   lia
 have hj:bH items.size items.size hi<=items.size:=af9 _ _ (aK _) hi
 obtain⟨os,yt,Ga,Bx⟩:=id hs
 have Yn:s.TypeIs (.ref O) "slice":=⟨os,yt,Ga⟩
 unfold rW
 try with_reducible show hW ?_
 first|show aq (aS ?_)|skip
 show aq (wpAny_sequenceKey G.typeIs ∅ ?_)
 show aq (AA (name:=An "__getitem__") G.typeIs UC
   (AB UC G.typeIs entry_tuple_getitem ?_ (args_tuple_getitem _ _)))
 change aD _ _ (Builtin.Tuple.tupleItemsOf (.ref t)>>=_) _ _ s
 show aq (tupleItemsOf_ G (aq (Er Yn ?_)))
 rw[aB ∅]
 show aq (agO hs pl pu ?_)
 have ik:¬ ((((bH items.size 0 lo:Nat):Int)==0&&(1:Int)==1&&(bH items.size items.size hi-bH items.size 0 lo)==items.size)=true):=by
   intro q
   rw[j8,j8]at q
   have q1:((bH items.size 0 lo:Nat):Int)=0:=eq_of_beq q.1.1
   have q2:bH items.size items.size hi-bH items.size 0 lo=items.size:=eq_of_beq q.2
   show hw ⟨⋯,⋯⟩
 change aD _ _ (if(((bH items.size 0 lo:Nat):Int)==0&&(1:Int)==1&&(bH items.size items.size hi-bH items.size 0 lo)==items.size)=true then _ else _) _ _ s
 rw[az ik,ae7]
 first
   | show aq (m:=DK _) (rY (aS ⟨_,rfl,aS h⟩) I)
   | show aq (m:=DK _) (rY (aq (aS (aS ⟨_,rfl,aS h⟩))) I)
   | show aq (aq (m:=DK _) (rY (aS (aS ⟨_,rfl,aS h⟩)) I))
   | show aq (aq (m:=DK _) (rY (aS ⟨_,rfl,aS h⟩) I))
end
end HT
namespace L2
open PySem PySem.Spec PyProof.Rows
abbrev TO:=St->Hp->(Option Int->Hp->Prop)->Prop
def PO (X:Cx)(e:Option Expr)(t:TO):Prop:=
 ∀(pins:↥(J×Obj)) (s:aj) (σ:St) (H:Hp) (Q:Option Int->Hp->Prop),Inv X pins σ H s->t σ H Q ->
   aD (aI X.prog X.w) X.A (evalPart e X.env) (λu s'=>∃o H',Inv X pins σ H' s'/\IsPart u o/\Q o H') X.xe s
def Dp:TO:=λz H Q=>Q Z H
def wM (t:TE):TO:=λσ H Q=>t σ H λx H1=>∃i,x=.int i/\Q (S i) H1
def intsAre_of {G:↥Int}:∀{us:↥ae},Vals (G.map V.int) us->IntsAre us G:=by
 induction G with
 | nil=>intro us r;rw[K8]at r;cases r;show .nil
 | cons n G I=>
   intro us r
   rw[jb]at r
   cases r with
   | cons O r2=>
     obtain⟨t,e⟩:=O
     subst e
     show .cons n t (I r2)
section
variable{X:Cx}{e:Expr}{te:TE}{lo hi:Option Expr}{tl th:TO}{ci p2:Pos}
def IJ:PO X Z Dp:=by
 intro pins s σ H Q I h
 rw[Eh]
 show aS ⟨Z,H,I,.none,h⟩
def zp (h:PE X e te):PO X (S e) (wM te):=by
 intro pins s σ H Q I hw
 rw[evalPart_some]
 show aO (h pins s σ H _ I hw) λu s1 G=>?_
 obtain⟨x,H1,O,r1,q1⟩:=G
 obtain⟨i,rfl,q⟩:=q1
 obtain⟨t,rfl⟩:=r1
 show⟨S i,H1,O,.int i t,q⟩
def EO (X:Cx)(r:V->Option Int->Option Int->Hp->VK->Prop):Prop:=
 ∀(pins:↥(J×Obj)) (s:aj) (σ:St) (H:Hp) (x:V) (v G I:ae) (lo hi:Option Int) (O:J) (Q:VK),Inv X pins σ H s->RelV x v->s.heap.IsSliceOf O G I .none->IsPart G lo->IsPart I hi->r x lo hi H Q ->
   ∃T id,Aw (.type T) "__getitem__"=pure (S (.builtin id))/\s.TypeIs v T/\aD (aI X.prog X.w) X.A (rW v (.ref O)) (EP X pins σ Q) X.xe s
def zJ (r:V->Option Int->Option Int->Hp->VK->Prop)(te:TE)(tl th:TO):TE:=λσ H Q=>te σ H λx H1=>tl σ H1 λl H2=>th σ H2 λu G=>r x l u G Q
def Cp {r:V->Option Int->Option Int->Hp->VK->Prop}(hr:EO X r)(he:PE X e te)(hl:PO X lo tl)(hu:PO X hi th):PE X (.Subscript e (.Slice lo hi Z p2) ci) (zJ r te tl th):=by
 intro pins s σ H Q I h
 show Ao (aO (he pins s σ H _ I h) λv s1 h9=>?_)
 obtain⟨x,H1,I1,r1,q1⟩:=h9
 show wpAny_Slice (aO (hl pins s1 σ H1 _ I1 q1) λO s2 g9=>?_)
 obtain⟨l,H2,I2,pl,q2⟩:=g9
 show aO (hu pins s2 σ H2 _ I2 q2) λvu G h9=>?_
 obtain⟨u,H3,I3,pu,q3⟩:=h9
 rw[Eh]
 show aS ?_
 have I4:Inv X pins σ H3 {G with heap:=G.heap.push {cls:=.type "slice",data:=.fields #[O,vu,.none]} }:=I3.kept (t':=G.toks) λb ob q=>di _ q
 obtain⟨T,id,hT,ht,hg⟩:=hr pins {G with heap:=G.heap.push {cls:=.type "slice",data:=.fields #[O,vu,.none]} } σ H3 x v O vu l u G.heap.objs.size Q I4 r1 (Heap.IsSliceOf.new ..) pl pu q3
 change aD (aI X.prog X.w) X.A (Av e (.Slice lo hi Z p2) v (.ref G.heap.objs.size)) (EP X pins σ Q) X.xe {G with heap:=G.heap.push {cls:=.type "slice",data:=.fields #[O,vu,.none]} }
 show tail_any (ops:=[.ref G.heap.objs.size,v]) ht hT hg (by with_unfolding_all rfl)
def kC (xs:↥V)(lo hi:Option Int):↥V:=(xs.drop (HT.bH ↑xs 0 lo)).take (HT.bH ↑xs ↑xs hi-HT.bH ↑xs 0 lo)
def MR (xs:↥V)(lo hi:Option Int):↑(kC xs lo hi)<=↑xs:=by
 unfold kC
 rw[cp,oI]
 lia
def QK (K:av):V->Option Int->Option Int->Hp->VK->Prop:=λx lo hi H Q=>∃a xs,x=.ref a/\bQ K H a xs /\
 ¬ (HT.bH ↑xs 0 lo=0/\HT.bH ↑xs ↑xs hi=↑xs)/\∀p,H p=Z->Q (.ref p) (upd H p (.tup (kC xs lo hi)))
def agL:EO X (QK X.K):=by
 intro pins s σ H x v vl vu lo hi sl Q I rx hs pl pu h
 obtain⟨a,xs,rfl,hx,hw,q⟩:=h
 cases rx
 obtain⟨dL,r,O,hz⟩:=I.tuple hx
 have G:dL.toArray.size=↑xs:=by rw[eM];show r.length.symm
 show⟨"tuple",_,PyProof.Rows.slot_tuple_getitem.lookup,O.typeIs,HT.XW O hs pl pu (by rw[G];show hw) ?_ (by rw[G];show hz)⟩
 rw[G]
 show⟨.ref s.heap.objs.size,_,I.laid (t':=s.toks) (o:=.tup (kC xs lo hi)) (λb ob q=>di _ q) (aK _) ?_,U,q _ (I.hok.fresh (aK _))⟩
 show⟨ck (MR xs lo hi) hz,_,(r.drop (HT.bH ↑xs 0 lo)).take (HT.bH ↑xs ↑xs hi-HT.bH ↑xs 0 lo),IsTup.new _ _⟩
end
def kN (n:Nat)(i:Int):Option Nat:=if 0<=i then(if i<n then S i.toNat else Z)else if -(n:Int)<=i then S (i+n).toNat else Z
def de {α:Type}(xs:List α)(i:Int):Option α:=(kN ↑xs i).bind λj=>xs[j]?
def G8 {n:Nat}{i:Int}{j:Nat}(h:kN n i=S j):seqIndex? i n=S j/\j<n/\-(n:Int)<=i/\i<n:=by
 unfold kN at h
 by_cases G:0<=i
 . rw[aB G]at h
   by_cases h1:i<n
   . rw[aB h1]at h
     have e:i.toNat=j:=dX h
     show⟨by rw[seqIndex_of G h1,e],⋯,⋯,h1⟩
   . rw[az h1]at h;cases h
 . rw[az G]at h
   by_cases h1 : -(n:Int)<=i
   . rw[aB h1]at h
     have e:(i+n).toNat=j:=dX h
     show⟨by rw[seqIndex_neg ⋯ h1,e],⋯,h1,⋯⟩
   . rw[az h1]at h;cases h
def mF {α:Type}{xs:List α}{i:Int}{v:α}(h:de xs i=S v):∃j,seqIndex? i ↑xs=S j/\xs[j]?=S v/\j<↑xs/\-(↑xs:Int)<=i/\i<↑xs:=by
 unfold de at h
 cases e:kN ↑xs i with
 | none=>rw[e]at h;cases h
 | some j=>
   rw[e]at h
   obtain⟨h1,h2,G,I⟩:=G8 e
   show⟨j,h1,h,h2,G,I⟩
def gH {α:Type}{xs:List α}{j:Nat}{v:α}(h:xs[j]?=S v):de xs (j:Int)=S v:=by
 have G:j<↑xs:=(List.getElem?_eq_some_iff.mp h).1
 have e:kN ↑xs (j:Int)=S j:=by
   unfold kN
   rw[aB ⋯,aB ⋯];simp
 unfold de;rw[e];show h
def L5 (b:Expr):Prop:=∀o i,El b false o i=operate [o,i] (rW o i)
def AN (X:Cx)(r:R2):Prop:=
 ∀(value G:Expr) (pins:↥(J×Obj)) (s:aj) (σ:St) (H:Hp) (x y:V) (v u:ae) (Q:VK),Inv X pins σ H s->RelV x v->RelV y u->r x y H Q ->
   El G false v u=operate [v,u] (rW v u)->aD (aI X.prog X.w) X.A (Av value G v u) (EP X pins σ Q) X.xe s
def AO (X:Cx)(id:String)(r:V->↥V->Hp->VK->Prop):Prop:=
 ∀(pins:↥(J×Obj)) (s:aj) (σ:St) (H:Hp) (x:V) (xs:↥V) (v:ae) (us:↥ae) (Q:VK),Inv X pins σ H s->RelV x v->Vals xs us->r x xs H Q ->
   aD (aI X.prog X.w) X.A (call (.builtin id) (v::us)) (EP X pins σ Q) X.xe s
section
variable{X:Cx}{a b:Expr}{ta tb:TE}{ci:Pos}
def aeD {r:R2}(G:AN X r)(ha:PE X a ta)(hb:PE X b tb)(O:L5 b):PE X (.Subscript a b ci) (oF r ta tb):=by
 intro pins s σ H Q I h
 show Ao (E8 ha hb I h λv u s2 x y H2 I2 rx ry q=>G a b pins s2 σ H2 x y v u Q I2 rx ry q (O _ _))
def QE (K:av):R2:=λx y H Q=>∃p xs i v,x=.ref p/\y=.int i/\af K H p xs/\de xs i=S v/\Q v H
def QF (K:av):R2:=λx y H Q=>∃p xs i v,x=.ref p/\y=.int i/\bQ K H p xs/\de xs i=S v/\Q v H
def aaI:AN X (QE X.K):=by
 intro value KE pins s σ H x y v u Q I rx ry h hs
 obtain⟨p,xs,i,z,rfl,rfl,hq,he,q⟩:=h
 cases rx
 obtain⟨t,rfl⟩:=ry
 obtain⟨dL,r,pl,hz⟩:=I.list hq
 obtain⟨j,h1,h2,h3,h4,h5⟩:=mF he
 obtain⟨w,ew,G⟩:=r.get h2
 have hl:=↑r
 have hn:=B5
 have fin:EP X pins σ Q w s:=⟨z,H,I,G,q⟩
 by_cases h0:0<=i
 . have O:i.toNat=j:=by
     rw[seqIndex_of h0 h5]at h1
     show dX h1
   show item_listR pl.isList h0 ⋯ (by rw[O];simpa using ew) fin hs
 . have O:(i+(dL.toArray.size:Int)).toNat=j:=by
     rw[seqIndex_neg ⋯ h4]at h1
     rw[eM,← hl]
     show dX h1
   show subscriptTail_builtinR (x:=w) pl.isList.typeIs slot_list_getitem.lookup
     (wpAny_getItem_list_neg (Q:=λr s'=>r=w/\EP X pins σ Q r s') pl.isList ⋯ (by rw[eM]<;>lia) ⋯ (by rw[O];simpa using ew) ⟨rfl,fin⟩) hs
def aaJ:AN X (QF X.K):=by
 intro value KE pins s σ H x y v u Q I O ry h hs
 obtain⟨p,xs,i,z,rfl,rfl,hq,he,q⟩:=h
 cases O
 obtain⟨t,rfl⟩:=ry
 obtain⟨dL,r,pl,hz⟩:=I.tuple hq
 obtain⟨j,h1,h2,h3,h4,h5⟩:=mF he
 obtain⟨w,ew,G⟩:=r.get h2
 have hl:=↑r
 have hn:=B5
 have fin:EP X pins σ Q w s:=⟨z,H,I,G,q⟩
 show subscriptTail_builtinR (x:=w) pl.typeIs slot_tuple_getitem.lookup
   (getItem_tuple (j:=j) (Q:=λr s'=>r=w/\EP X pins σ Q r s') pl ⋯ ⋯ (by rw[eM,← hl];show h1) (by simpa using ew) ⟨rfl,fin⟩) hs
def abg (G:↥ae)(n j:Nat)(u:ae):xg (·.setIfInBounds j u) {cls:=.type "list",data:=.seq G.toArray n}={cls:=.type "list",data:=.seq (G.set j u).toArray n}:=by
 simp[xg]
def Inv.lst {pins:↥(J×Obj)}{σ:St}{H:Hp}{s:aj}{p:J}{xs:↥V}(I:Inv X pins σ H s)(h:H p=S (.lst xs)) :
   ∃(G:↥ae) (n:Nat),Vals xs G/\s.heap.get? p=S {cls:=.type "list",data:=.seq G.toArray n}/\↑xs<=sizeLine:=by
 obtain⟨z,G,n,r,e⟩:=I.hok p _ h
 show⟨G,n,r,e,z⟩
def Inv.abb {pins:↥(J×Obj)}{σ:St}{H:Hp}{s:aj}{p:J}{xs ys:↥V}{O its':↥ae}{n G:Nat}{f:Obj->Obj}(I:Inv X pins σ H s)(h:H p=S (.lst xs))
   (ho:s.heap.get? p=S {cls:=.type "list",data:=.seq O.toArray n}) (hf:f {cls:=.type "list",data:=.seq O.toArray n}={cls:=.type "list",data:=.seq its'.toArray G}) (r:Vals ys its') (hz:↑ys<=sizeLine) (t:Nat) :
   Inv X pins σ (upd H p (.lst ys)) {s with heap:=s.heap.update p f,toks:=t}:=by
 have e:(s.heap.update p f).get? p=S {cls:=.type "list",data:=.seq its'.toArray G}:=by
   rw[KU f ho (by rw[hf]<;>rfl),hf]
 show I.write (x:=p) (e:=p) (by rw[h];trivial) (.inl rfl) (λb u hb q=>(Uq _ _ (mw hb)).trans q) ⟨_,e⟩ ⟨hz,its',G,r,e⟩
def QJ:V->V->V->Hp->(Hp->Prop)->Prop:=λo i v H Q=>∃p xs k j,o=.ref p/\i=.int k/\H p=S (.lst xs)/\kN ↑xs k=S j/\Q (upd H p (.lst (xs.set j v)))
def set_list:L4 X QJ:=by
 intro pins s σ H o i v ov iv u Q I ro ri rv h
 obtain⟨p,xs,k,j,rfl,rfl,hp,hj,q⟩:=h
 cases ro
 obtain⟨t,rfl⟩:=ri
 obtain⟨dL,n,r,G,hz⟩:=I.lst hp
 obtain⟨h1,h2,h3,h4⟩:=G8 hj
 have O:=↑r
 have hn:=B5
 have I':Inv X pins σ (upd H p (.lst (xs.set j v))) {s with heap:=s.heap.update p (xg (·.setIfInBounds j u))}:=
   I.abb hp G (abg dL n j u) (r.set rv j) (by rw[uK];show hz) s.toks
 by_cases h0:0<=k
 . have hk:k.toNat=j:=by
     rw[seqIndex_of h0 h4]at h1
     show dX h1
   show PySem.W.ki_setAt G h0 ⋯ (by rw[eM,← O];show h4) (by rw[hk];show⟨_,I',q⟩)
 . have hk:(k+(dL.toArray.size:Int)).toNat=j:=by
     rw[seqIndex_neg ⋯ h3]at h1
     rw[eM,← O]
     show dX h1
   show PySem.W.ki_setBack G ⋯ (by rw[eM,← O];show h3) ⋯ (by rw[hk];show⟨_,I',q⟩)
def agQ (lo hi:Option Int)(n:Nat):(nC lo hi Z n).1=((HT.bH n 0 lo:Nat):Int)/\(nC lo hi Z n).2.1=((HT.bH n n hi:Nat):Int)/\(nC lo hi Z n).2.2=1:=by
 show⟨?_,?_,U⟩
 . cases lo with
   | none=>simp[nC,HT.bH]
   | some i=>
     simp only[nC,HT.bH,Option.getD_none,show(1:Int) > 0 by left,if_true]
     by_cases h:i<0
     . simp only[h,if_true]<;>lia
     . simp only[h,if_false]<;>lia
 . cases hi with
   | none=>simp[nC,HT.bH]
   | some i=>
     simp only[nC,HT.bH,Option.getD_none,show(1:Int) > 0 by left,if_true]
     by_cases h:i<0
     . simp only[h,if_true]<;>lia
     . simp only[h,if_false]<;>lia
def agP (G:↥ae)(lo hi:Option Int):uO G.toArray lo hi Z=((G.drop (HT.bH G.length 0 lo)).take (HT.bH G.length G.length hi-HT.bH G.length 0 lo)).toArray:=by
 obtain⟨h1,h2,I⟩:=agQ lo hi G.toArray.size
 unfold uO
 rw[h1,h2,I]
 simp only[sliceRange_one,pick_run,eM]<;>rfl
def Cv (K:av):V->Option Int->Option Int->Hp->VK->Prop:=λx lo hi H Q=>∃a xs,x=.ref a/\af K H a xs/\∀p,H p=Z->Q (.ref p) (upd H p (.lst (kC xs lo hi)))
def JF:EO X (Cv X.K):=by
 intro pins s σ H x v vl vu lo hi sl Q I O hs pl pu h
 obtain⟨a,xs,rfl,hx,q⟩:=h
 cases O
 obtain⟨dL,r,G,hz⟩:=I.list hx
 have mo:=↑r
 show⟨"list",_,slot_list_getitem.lookup,G.isList.typeIs,LH G.isList hs pl pu .none (by simp) ?_ (by rw[eM]<;>lia)⟩
 rw[agP,← mo]
 show⟨.ref s.heap.objs.size,_,I.laid (t':=s.toks) (o:=.lst (kC xs lo hi)) (λb ob q=>di _ q) (aK _) ?_,U,q _ (I.hok.fresh (aK _))⟩
 show⟨ck (MR xs lo hi) hz,_,0,(r.drop (HT.bH ↑xs 0 lo)).take (HT.bH ↑xs ↑xs hi-HT.bH ↑xs 0 lo),hG _ rfl⟩
def fG:V->Bool
 | .aM=>true
 | .bl _=>true
 | .int _=>true
 | .str _=>true
 | _=>false
def eK:V->V->Bool
 | .aM,.aM=>true
 | .bl a,.bl b=>a==b
 | .bl a,.int b=>(if a then 1 else 0)==b
 | .int a,.bl b=>a==(if b then 1 else 0)
 | .int a,.int b=>a==b
 | .str a,.str b=>a==b
 | _,_=>false
def FG {A:bD}{s:aj}{y x:V}{u v:ae}(I:RelV y u)(G:RelV x v)(fy:fG y=true)(O:fG x=true):SeqAt.EqAt A s u v (eK y x):=by
 cases y with
 | aM=>
   cases I
   cases x with
   | aM=>cases G;show SeqAt.EqAt.same _
   | bl b=>cases G;show SeqAt.EqAt.none_bool b
   | int b=>obtain⟨t,rfl⟩:=G;show SeqAt.EqAt.none_int b t
   | str b=>obtain⟨t,rfl⟩:=G;show SeqAt.EqAt.none_str b t
   | _=>show ao (show false=true from O) fK
 | bl a=>
   cases I
   cases x with
   | aM=>cases G;show SeqAt.EqAt.bool_none a
   | bl b=>cases G;show SeqAt.EqAt.bool_bool a b
   | int b=>obtain⟨t,rfl⟩:=G;show SeqAt.EqAt.bool_int a b t
   | str b=>obtain⟨t,rfl⟩:=G;show SeqAt.EqAt.bool_str a b t
   | _=>show ao (show false=true from O) fK
 | int a=>
   obtain⟨t',rfl⟩:=I
   cases x with
   | aM=>cases G;show SeqAt.EqAt.int_none a t'
   | bl b=>cases G;show SeqAt.EqAt.int_bool a t' b
   | int b=>obtain⟨t,rfl⟩:=G;show SeqAt.EqAt.int_int a t' b t
   | str b=>obtain⟨t,rfl⟩:=G;show UQ a t' b t
   | _=>show ao (show false=true from O) fK
 | str a=>
   obtain⟨t',rfl⟩:=I
   cases x with
   | aM=>cases G;show SeqAt.EqAt.str_none a t'
   | bl b=>cases G;show SeqAt.EqAt.str_bool a t' b
   | int b=>obtain⟨t,rfl⟩:=G;show UR a t' b t
   | str b=>obtain⟨t,rfl⟩:=G;show SeqAt.EqAt.str_str a t' b t
   | _=>show ao (show false=true from O) fK
 | _=>show ao (show false=true from fy) fK
def jy (x:V)(u:ae):Bool:=match u with
 | .none=>eK .aM x
 | .bool b=>eK (.bl b) x
 | .int i _=>eK (.int i) x
 | .str z _=>eK (.str z) x
 | _=>false
def Na {x y:V}{u:ae}(r:RelV y u)(f:fG y=true):jy x u=eK y x:=by
 cases y with
 | aM=>cases r;rfl
 | bl b=>cases r;rfl
 | int i=>obtain⟨t,rfl⟩:=r;rfl
 | str z=>obtain⟨t,rfl⟩:=r;rfl
 | _=>show ao (show false=true from f) fK
theorem xM {x:V}:∀{xs:↥V} {us:↥ae},Vals xs us->xs.all fG=true->us.any (jy x)=xs.any λy=>eK y x
 | _,_,.nil,_=>rfl
 | y::xs,u::us,.cons r t,f=>by
   rw[DP,j8]at f
   rw[qm,qm,Na r f.1,xM t f.2]
theorem yR {A:bD}{s:aj}{x:V}{v:ae}(G:RelV x v)(I:fG x=true):∀{xs:↥V} {us:↥ae},Vals xs us->xs.all fG=true->∀u∈us,SeqAt.EqAt A s u v (jy x u)
 | _,_,.nil,_=>λu hu=>by cases hu
 | y::xs,u::us,.cons r t,f=>λO hu=>by
   rw[DP,j8]at f
   rcases List.mem_cons.mp hu with rfl|hu
   . rw[Na r f.1];show FG r G f.1 I
   . show yR G I t f.2 O hu
def iX (x:V)(xs:↥V):Bool:=xs.any λy=>eK y x
def Cu (K:av)(neg:Bool):R2:=λx y H Q=>∃p xs,y=.ref p/\(af K H p xs\/bQ K H p xs)/\fG x=true/\xs.all fG=true/\Q (.bl (if neg then !iX x xs else iX x xs)) H
def adv:dZ X (dD .In) (Cu X.K false):=by
 intro pins s σ H x y v u Q I O ry h
 obtain⟨p,xs,rfl,hq,fx,fs,q⟩:=h
 cases ry
 rcases hq with hq|hq
 . obtain⟨G,r,pl,hz⟩:=I.list hq
   show SeqAt.in_listAt (jy x) pl.isList (λw hw=>yR O fx r fs w (by simpa using hw)) ⟨.bl _,H,I,U,?_⟩
   rw[show G.toArray.any (jy x)=G.any (jy x)by simp,xM r fs]
   show q
 . obtain⟨G,r,pl,hz⟩:=I.tuple hq
   show SeqAt.in_tupleAt (jy x) pl (λw hw=>yR O fx r fs w (by simpa using hw)) ⟨.bl _,H,I,U,?_⟩
   rw[show G.toArray.any (jy x)=G.any (jy x)by simp,xM r fs]
   show q
def adE:dZ X (dD .NotIn) (Cu X.K true):=by
 intro pins s σ H x y v u Q I O ry h
 obtain⟨p,xs,rfl,hq,fx,fs,q⟩:=h
 cases ry
 rcases hq with hq|hq
 . obtain⟨G,r,pl,hz⟩:=I.list hq
   show SeqAt.notIn_listAt (jy x) pl.isList (λw hw=>yR O fx r fs w (by simpa using hw)) ⟨.bl _,H,I,U,?_⟩
   rw[show G.toArray.any (jy x)=G.any (jy x)by simp,xM r fs]
   show q
 . obtain⟨G,r,pl,hz⟩:=I.tuple hq
   show SeqAt.notIn_tupleAt (jy x) pl (λw hw=>yR O fx r fs w (by simpa using hw)) ⟨.bl _,H,I,U,?_⟩
   rw[show G.toArray.any (jy x)=G.any (jy x)by simp,xM r fs]
   show q
def VT:jO X (.builtin "len") (λxs H Q=>∃p ys,xs=[.ref p]/\(af X.K H p ys\/bQ X.K H p ys)/\Q (.int ↑ys) H):=by
 intro pins s σ H xs us Q I r h
 obtain⟨p,ys,rfl,hq,q⟩:=h
 obtain⟨u,rfl,rx⟩:=vals1 r
 cases rx
 have hn:=B5
 rcases hq with hq|hq
 . obtain⟨dL,G,pl,hz⟩:=I.list hq
   have O:=G.length
   show Calls.call_len_list pl.isList (by simp only[eM]<;>lia) ⟨.int ↑ys,H,I.tok _,⟨s.toks+1,by rw[eM,O]⟩,q⟩
 . obtain⟨dL,G,pl,hz⟩:=I.tuple hq
   have O:=G.length
   show len_tuple pl (by simp only[eM]<;>lia) ⟨.int ↑ys,H,I.tok _,⟨s.toks+1,by rw[eM,O]⟩,q⟩
def VU:jO X (.type "list") (λxs H Q=>∃p ys,xs=[.ref p]/\(af X.K H p ys\/bQ X.K H p ys)/\∀l,H l=Z->Q (.ref l) (upd H l (.lst ys))):=by
 intro pins s σ H xs us Q I r h
 obtain⟨p,ys,rfl,hq,q⟩:=h
 obtain⟨u,rfl,rx⟩:=vals1 r
 cases rx
 have fin:∀(G:↥ae),Vals ys G->↑ys<=sizeLine->∀(h':Heap) (O:Nat),(∀b o',s.heap.get? b=S o'->h'.get? b=S o') ->
     h'.get? s.heap.objs.size=S {cls:=.type "list",dict:=Z,data:=.seq G.toArray O,slots:=#[]}->EP X pins σ Q (.ref s.heap.objs.size) {s with heap:=h'}:=λG r' hz h' O kp e=>
   ⟨.ref s.heap.objs.size,_,I.laid (t':=s.toks) kp (aK _) (show dj X.prog X.w _ h' _ (.lst ys)from⟨hz,G,O,r',e⟩),rfl,q _ (I.hok.fresh (aK _))⟩
 rcases hq with hq|hq
 . obtain⟨G,r',pl,hz⟩:=I.list hq
   have mo:=↑r'
   obtain⟨o,ho,hc,n,hd⟩:=pl.isList
   show call_list_seq p (.inl rfl) ho hc hd (λh' O kp e=>fin G r' hz h' O kp e) (by simp only[eM]<;>lia)
 . obtain⟨G,r',pl,hz⟩:=I.tuple hq
   have mo:=↑r'
   obtain⟨o,ho,hc,n,hd⟩:=pl
   show call_list_seq p (.inr rfl) ho hc hd (λh' O kp e=>fin G r' hz h' O kp e) (by simp only[eM]<;>lia)
def VW:jO X (.type "tuple") (λxs H Q=>∃p ys,xs=[.ref p]/\((af X.K H p ys/\∀l,H l=Z->Q (.ref l) (upd H l (.tup ys)))\/(bQ X.K H p ys/\Q (.ref p) H))):=by
 intro pins s σ H xs us Q I r h
 obtain⟨p,ys,rfl,h⟩:=h
 obtain⟨u,rfl,rx⟩:=vals1 r
 cases rx
 rcases h with⟨hq,q⟩|⟨hq,q⟩
 . obtain⟨G,O,pl,hz⟩:=I.list hq
   have mo:=O.length
   show call_tuple_list pl.isList (λh' kp=>?_) (by simp only[eM]<;>lia)
   have I1:Inv X pins σ H {s with heap:=h'}:=I.kept (t':=s.toks) kp
   have I2:Inv X pins σ (upd H h'.objs.size (.tup ys)) {s with heap:=h'.push {cls:=.type "tuple",data:=.seq G.toArray} }:=
     I1.laid (t':=s.toks) (λb o e=>di _ e) (aK _) (show dj X.prog X.w _ _ _ (.tup ys)from⟨hz,G,O,IsTup.new _ _⟩)
   show⟨.ref h'.objs.size,_,I2,U,q _ (I1.hok.fresh (aK _))⟩
 . obtain⟨G,O,pl,hz⟩:=I.tuple hq
   show call_tuple_same pl ⟨.ref p,H,I,U,q⟩
def Ts (K:av)(T:String)(x:V)(H:Hp):Prop:=match x with
 | .str _=>T="str"
 | .int _=>T="int"
 | .ref p=>(T="list"/\∃xs,af K H p xs)\/(T="tuple"/\∃o,K.lookup p=S o/\o.cls=.type "tuple"/\o.dict=Z) \/
     (T="dict"/\((∃kvs,H p=S (.dK kvs))\/∃kvs,H p=S (.dT kvs)))\/(T="set"/\∃S8 n,H p=S (.set S8 n))
 | _=>False
def aht {pins:↥(J×Obj)}{σ:St}{H:Hp}{s:aj}{T:String}{x:V}{v:ae}(I:Inv X pins σ H s)(r:RelV x v)(ty:Ts X.K T x H) :
   s.TypeIs v T/\∀a,v=.ref a->∃ob,s.heap.get? a=S ob/\ob.dict=Z:=by
 cases x with
 | str z=>
   obtain⟨t,rfl⟩:=r
   cases(show T="str" from ty)
   show⟨typeIs_str s z t,λy e=>nomatch e⟩
 | int i=>
   obtain⟨t,rfl⟩:=r
   cases(show T="int" from ty)
   show⟨typeIs_int s i t,λy e=>nomatch e⟩
 | ref p=>
   cases r
   rcases ty with⟨rfl,xs,hq⟩|⟨rfl,o,hk,hc,G⟩|⟨rfl,hk⟩|⟨rfl,S8,n,hk⟩
   . obtain⟨dL,_,pl,_⟩:=I.list hq
     show⟨pl.isList.typeIs,λa e=>?_⟩
     cases e
     obtain⟨o,n,e,c,G,_⟩:=pl
     show⟨o,e,G⟩
   . show⟨⟨o,I.dQ p o hk,hc⟩,λa e=>?_⟩
     cases e
     show⟨o,I.dQ _ o hk,G⟩
   . have z:∃o,s.heap.get? p=S o/\o.ExactDict:=by
       rcases hk with⟨kvs,hk⟩|⟨kvs,hk⟩
       . obtain⟨_,_,_,_,o,_,_,e,ex,_⟩:=I.hok p _ hk
         show⟨o,e,ex⟩
       . obtain⟨_,_,_,_,o,_,_,e,ex,_⟩:=I.hok p _ hk
         show⟨o,e,ex⟩
     obtain⟨o,e,ex⟩:=z
     show⟨⟨o,e,ex.1⟩,λa O=>?_⟩
     cases O
     show⟨o,e,ex.2.1⟩
   . obtain⟨o,_,_,_,e,ex,_⟩:=I.hok p _ hk
     show⟨⟨o,e,ex.1⟩,λa O=>?_⟩
     cases O
     show⟨o,e,ex.2.1⟩
 | _=>show gD ty
def ur (K:av)(T:String)(r:V->↥V->Hp->VK->Prop)(to:TE)(t:TA):TE:=λσ H Q=>to σ H λx H1=>Ts K T x H1/\t σ H1 λxs H2=>r x xs H2 Q
variable{o e:Expr}{es:↥Expr}{to:TE}{t:TA}{name:Str}{lv v4:Pos}{T id:String}{r:V->↥V->Hp->VK->Prop}
def Qf (pa:PlainAttrs T)(O:Slot T name id)(hty:typeOf (.builtin id)=pure (.type "method_descriptor"))(hm:AO X id r)(ho:PE X o to)(ha:PA X (e::es) t)
   (u8:nA o name X.env (eval o X.env)=eval o X.env:=by rfl)
   (hfew:((iB v4 (cM (e::es) X.env)).all (λx=>!x.1)&&(xj v4 (xo [] X.env)).all (λx=>x.1.isSome)
     && decide (↑(e::es)+↑([]:↥Keyword)+(if([]:↥Keyword).isEmpty then 0 else 1)<30))=true:=by rfl)
   (wE:(lv.endLine==v4.line)=true:=by rfl) (hs:cM (e::es) X.env=(false,eval e X.env)::cM es X.env:=by rfl) (G:(iB v4 (cM es X.env)).any (·.1)=false:=by rfl) :
   PE X (.Call (.Attribute o name lv) (e::es) [] v4) (ur X.K T r to t):=by
 intro pins s σ H Q I h
 show wpAny_Call_method_late u8 hfew wE rfl (aO (ho pins s σ H _ I h) λv s1 h9=>?_)
 obtain⟨x,H1,I1,r1,ty,q1⟩:=h9
 obtain⟨h1,h2⟩:=aht I1 r1 ty
 show⟨T,id,pa,O,hty,h1,h2,?_⟩
 have hA:=ha v4 pins s1 σ H1 _ I1 q1
 rw[hs]at hA ⊢
 show KR (by change(false || (iB v4 (cM es X.env)).any (·.1))=false;rw[G]<;>rfl) (DL (aO hA λus s2 h9=>?_))
 obtain⟨vs,H2,I2,r2,q2⟩:=h9
 show hm pins s2 σ H2 x vs v us Q I2 r1 r2 q2
end
def ED (X:Cx)(id:String)(r:V->↥V->Hp->VK->Prop):Prop:=
 ∀(pins:↥(J×Obj)) (s:aj) (σ:St) (H:Hp) (x:V) (xs:↥V) (v:ae) (us:↥ae) (Q:VK),Inv X pins σ H s->RelV x v->Vals xs us->r x xs H Q ->
   aD (aI X.prog X.w) X.A (call (.builtin id) (v::us)) (EP X pins σ Q) X.xe s
def Vals.one:∀{x:V} {us:↥ae},Vals [x] us->∃u,us=[u]/\RelV x u:=by
 intro x us h
 cases h with
 | cons r h=>cases h;show⟨_,rfl,r⟩
def Vals.two:∀{x y:V} {us:↥ae},Vals [x,y] us->∃u v,us=[u,v]/\RelV x u/\RelV y v:=by
 intro x y us h
 cases h with
 | cons r h=>cases h with
   | cons q h=>cases h;show⟨_,_,rfl,r,q⟩
theorem Vals.eraseIdx:∀{xs:↥V} {us:↥ae} (i:Nat),Vals xs us->Vals (xs.eraseIdx i) (us.eraseIdx i)
 | _,_,_,.nil=>.nil
 | _,_,0,.cons _ t=>t
 | _,_,i+1,.cons r t=>.cons r (Vals.eraseIdx i t)
theorem Vals.reverse {xs:↥V}{us:↥ae}(h:Vals xs us):Vals xs.reverse us.reverse:=by
 induction h with
 | nil=>show .nil
 | cons r t G=>rw[Ai,Ai];show Vals.append G (.cons r .nil)
theorem Vals.rep {xs:↥V}{us:↥ae}(h:Vals xs us):∀k:Nat,Vals (fQ k xs).flatten (fQ k us).flatten
 | 0=>.nil
 | k+1=>by
   rw[wY,wY,Ab,Ab]
   show Vals.append h (Vals.rep h k)
theorem O2 {α:Type}:∀(l:List α) (i:Nat),↑(l.eraseIdx i)<=↑l
 | [],_=>aK _
 | _::_,0=>Nat.le_succ _
 | _::r,i+1=>Nat.succ_le_succ (O2 r i)
theorem foldl_rep (G:↥ae):∀(k:Nat) (v6:↥ae),
   List.foldl (λI O=>I++O) v6.toArray (fQ k G.toArray)=(v6++(fQ k G).flatten).toArray
 | 0,v6=>by simp
 | k+1,v6=>by
   have e:v6.toArray++G.toArray=(v6++G).toArray:=by simp
   have e2:(v6++G)++(fQ k G).flatten=v6++(fQ (k+1) G).flatten:=by
     rw[wY,Ab,z7]
   rw[← e2,← foldl_rep G k (v6++G),← e,wY,List.foldl_cons]
section
variable{X:Cx}{pins:↥(J×Obj)}{σ:St}{H:Hp}{s:aj}{l b:J}{xs ys zs:↥V}
def Inv.Ic {G its':↥ae}{n:Nat}{f:Array ae->Array ae}{t':Nat}(I:Inv X pins σ H s)(O:H l=S (.lst xs))
   (e:s.heap.get? l=S {cls:=.type "list",data:=.seq G.toArray n}) (hf:f G.toArray=its'.toArray) (hv:Vals ys its') (hz:↑ys<=sizeLine) :
   Inv X pins σ (upd H l (.lst ys)) {s with heap:=s.heap.update l (xg f),toks:=t'}:=by
 have q:=PySem.IsL.update e f
 rw[hf]at q
 show I.write (x:=l) (e:=l) (by rw[O];show trivial) (.inl rfl) (λb' u hb hu=>(Uq s.heap (xg f) (mw hb)).trans hu) ⟨_,q⟩ ⟨hz,its',_,hv,q⟩
def Inv.O7 {G:↥ae}{t':Nat}(I:Inv X pins σ H s)(hv:Vals ys G)(hz:↑ys<=sizeLine) :
   Inv X pins σ (upd H s.heap.objs.size (.lst ys)) {s with heap:=s.heap.push {cls:=.type "list",data:=.seq G.toArray},toks:=t'}:=
 I.laid (λz z q=>di _ q) (aK _) ⟨hz,G,0,hv,hG _ rfl⟩
def Inv.fresh (I:Inv X pins σ H s):H s.heap.objs.size=Z:=I.hok.fresh (aK _)
def Inv.vW (I:Inv X pins σ H s)(O:H l=S (.lst xs)):↑xs<=sizeLine/\∃(G:↥ae) (n:Nat),Vals xs G/\↑xs=G.length/\s.heap.get? l=S {cls:=.type "list",data:=.seq G.toArray n}:=by
 obtain⟨z,G,n,r,e⟩:=I.hok l _ O
 show⟨z,G,n,r,↑r,e⟩
def abU {n:Nat}(h:n<=sizeLine):KO n=false:=by
 unfold KO
 show fU ⋯
end
section
variable{X:Cx}
def Qx:V->↥V->Hp->VK->Prop:=λx vs H Q=>∃l xs y,x=.ref l/\vs=[y]/\H l=S (.lst xs)/\↑xs<sizeLine/\Q .aM (upd H l (.lst (xs++[y])))
def Pl:ED X "list.append" Qx:=by
 intro pins s σ H x vs v us Q I rx rv h
 obtain⟨l,xs,y,rfl,rfl,G,hz,q⟩:=h
 cases rx
 obtain⟨u,rfl,ru⟩:=rv.one
 obtain⟨z,O,n,r,hl,e⟩:=I.vW G
 show rT F.slot_list_append ⟨_,e,U⟩ F.entry_list_append (F.args_list_append_2 _ _) (PySem.list_append l O.toArray n u (by rw[eM];lia)) ⟨e,.aM,_,I.Ic (its':=O++[u]) G e (by simp) (r.append (.cons ru .nil)) ?_,U,q⟩
 rw[cJ,UB]
 lia
def QH:V->↥V->Hp->VK->Prop:=λx vs H Q=>∃l xs i k y,x=.ref l/\vs=[.int i]/\H l=S (.lst xs)/\-(2^63)<=i/\i<2^63/\seqIndex? i ↑xs=S k/\xs[k]?=S y/\Q y (upd H l (.lst (xs.eraseIdx k)))
def abq:ED X "list.pop" QH:=by
 intro pins s σ H x vs v us Q I rx rv h
 obtain⟨l,xs,i,k,y,rfl,rfl,hH,h1,h2,hk,hy,q⟩:=h
 cases rx
 obtain⟨u,rfl,ru⟩:=rv.one
 obtain⟨t,rfl⟩:=ru
 obtain⟨z,G,n,r,hl,e⟩:=I.vW hH
 obtain⟨w,hw,O⟩:=r.get hy
 show rT F.slot_list_pop ⟨_,e,U⟩ F.entry_list_pop (F.args_list_pop_2 _ _)
   (MeetsSeq.list_pop_at l G.toArray n i t k w (fitsIndex_both h1 h2) (by rw[eM,← hl];show hk) (by rw[← Ug];show hw) (by rw[eM];lia)) ⟨e,?_⟩
 show⟨y,_,I.Ic (its':=G.eraseIdx k) hH e ?_ (r.eraseIdx k) ?_,O,q⟩
 . change G.toArray.eraseIdxIfInBounds k=(G.eraseIdx k).toArray
   rw[List.eraseIdxIfInBounds_toArray]
 . have:=O2 xs k
   lia
def Qy:R2:=λx y H Q=>∃l b xs zs,x=.ref l/\y=.ref b/\H l=S (.lst xs)/\H b=S (.lst zs)/\↑xs+↑zs<=sizeLine/\∀p,H p=Z->Q (.ref p) (upd H p (.lst (xs++zs)))
def ado:dZ X (f7 .Add) Qy:=by
 intro pins s σ H x y v u Q I rx ry h
 obtain⟨l,b,xs,zs,rfl,rfl,hH,hB,hz,q⟩:=h
 cases rx
 cases ry
 obtain⟨z,G,n,r,hl,e⟩:=I.vW hH
 obtain⟨z2,O,n2,r2,wP,e2⟩:=I.vW hB
 show PySem.P.add_list e e2 ?_ (by rw[eM,eM];lia)
 have ea:G.toArray++O.toArray=(G++O).toArray:=by simp
 rw[ea]
 show⟨.ref _,_,I.O7 (t':=s.toks) (r.append r2) (by rw[cJ];lia),U,q _ I.fresh⟩
def QI:R2:=λx y H Q=>∃l k xs,x=.ref l/\y=.int k/\H l=S (.lst xs)/\-(2^63)<=k/\k<2^63/\↑xs*k.toNat<=sizeLine /\
 ∀p,H p=Z->Q (.ref p) (upd H p (.lst (fQ k.toNat xs).flatten))
def len_rep {α:Type}(xs:List α)(k:Nat):(fQ k xs).flatten.length=k*↑xs:=by
 induction k with
 | zero=>simp
 | succ k G=>rw[wY,Ab,cJ,G,uL,Lj]
def adH:dZ X (f7 .Mult) QI:=by
 intro pins s σ H x y v u Q I rx ry h
 obtain⟨l,k,xs,rfl,rfl,hH,h1,h2,hz,q⟩:=h
 cases rx
 obtain⟨t,rfl⟩:=ry
 obtain⟨z,G,n,r,hl,e⟩:=I.vW hH
 have mo:G.toArray.size*k.toNat<=sizeLine:=by rw[eM,← hl];show hz
 have wr:¬ G.toArray.size*k.toNat > (2^63-1)/8:=by
   have:(sizeLine:Nat)<=(2^63-1)/8:=by left
   lia
 have Y4:¬ (!DH k)=true:=by
   rw[fitsIndex_both h1 h2]
   show fK
 have ZC:¬ KO (G.toArray.size*k.toNat)=true:=by
   rw[abU mo]
   show fK
 have qP:List.foldl (λO x2=>O++x2) #[] (fQ (if G.toArray.isEmpty=true then 0 else k.toNat) G.toArray)=(fQ k.toNat G).flatten.toArray:=by
   have f0:∀m:Nat,List.foldl (λO x2=>O++x2) #[] (fQ m G.toArray)=(fQ m G).flatten.toArray:=λm=>by
     have:=foldl_rep G m []
     rw[Le]at this
     show this
   rw[f0]
   cases G with
   | nil=>simp
   | cons a r'=>rw[az (by simp)]
 show wpAny_binaryOp_repeat_ref (T:="list") (U:="int") ∅ ⟨_,e,U⟩ (λs'=>typeIs_int s' k t) noFill_list_mul F.fills_int_mul F.slot_int_rmul repeat_list F.slot_int_index.lookup
   (rT F.slot_int_rmul (typeIs_int s k t) F.entry_int_rmul (F.args_int_rmul_2 _ _) (int___rmul___int_list k t l G.toArray n)
     ⟨e,rfl,⟨_,e,rfl⟩,rT F.slot_list_mul ⟨_,e,rfl⟩ F.entry_list_mul (F.args_list_mul_2 _ _) (AutoListH.list___mul___list_int_3 l G.toArray n k t Y4 wr ZC) ⟨e,?_⟩⟩)
 rw[qP]
 show⟨.ref _,_,I.O7 (t':=s.toks) (r.rep k.toNat) (by rw[len_rep,xb];show hz),U,q _ I.fresh⟩
end
end L2
namespace LK
open PySem PySem.W PySem.Calls PyProof.Rows
def aaE {P:Params}{h:Heap}:∀(G:↥Int) (vs:↥ae),WellAll P h vs (G.map WData.int)->IntsAre vs G:=by
 intro G
 induction G with
 | nil=>
   intro vs w
   rw[K8]at w
   cases w
   show .nil
 | cons n G I=>
   intro vs w
   rw[jb]at w
   cases w with
   | cons a b=>
     cases a
     show .cons _ _ (I _ b)
def agA {l:OpenLaw}{n:Nat}(hn:l.most=S n){P:Params}{h:Heap}{args:↥WData}{I:↥ae}
   (O:l.row.toRowW.claim.pre args=true) (hwl:WellAll P h I args) :
   ∃a vs G,I=[bU a]/\args=[WData.list (G.map WData.int)]/\h.get? a=S {cls:=.type "list",data:=.seq vs.toArray}/\IntsAre vs G/\G.length<=n:=by
 have Oz:WShape.hasAll [] args [.list .int]=true:=(pre_splitW O).1
 have hc:l.pre.holds [] {args:=args}=true:=(pre_splitW O).2
 obtain⟨d,r,rfl,h1,h2⟩:=hasAllW_cons Oz
 obtain rfl:=hasAllW_nil h2
 obtain⟨xs,rfl,h3⟩:=hasW_list h1
 obtain⟨G,rfl⟩:=items_int h3
 have mo:G.length<=n:=by
   unfold OpenLaw.pre at hc
   have h4:(WTm.not (.lt (.lit (.int (n:Int))) (.len (.arg 0)))).holds [] {args:=[.list (G.map .int)]}=true:=by
     have h4:=(holds_andW hc).1
     rw[hn]at h4
     show h4
   have h5:=condW_of h4 (w_not (w_lt w_lit (w_len_list (w_arg rfl))))
   rw[aA]at h5
   show Nat.le_of_not_lt λq=>?_
   have q':(n:Int)<((G.length:Nat):Int):=⋯
   first
     | (rw[bS q']at h5;show ao h5 ∅)
     | (simp at h5;lia)
 cases hwl with
 | cons w1 w2=>
   cases w2
   cases w1 with
   | list ho Yr=>show⟨_,_,G,rfl,rfl,ho,aaE G _ Yr,mo⟩
def afh (l:OpenLaw)(args:↥WData):l.row.toRowW.claim.post args (.bool true) args=true:=
 postW_of (r:=l.row.toRowW) (X:=(true==true))
   (show WShape.has [] (.bool true) .bool=true by first|rfl|decide|simp[WShape.has,WShape.arms,WShape.armsAll])
   (show(WTm.eq .res (.lit (.bool true))).value [] {args:=args,res:=S (.bool true),after:=args}=S (.bool (true==true))from w_eq_bool (w_res rfl) w_lit) rfl
def Vz {l:OpenLaw}{n:Nat}{q:bo}{UV:↥Str}{XP:(Str->Option ae)->Heap->Prop}{YP:aY->Heap->Prop}{d:DefRec}
   (hn:l.most=S n) (hdf:d.params.defaults=[])
   (call:∀(w:aY) (s₀ s₁:aj) (mg mb:Str->Option ae) (O:J) (o:Obj) (pm cd doc:ae) (a:J) (vs:↥ae) (ns:↥Int),
     Ground q UV [] XP w s₀ mg mb s₁.heap->YP w s₁.heap ->
     s₁.heap.get? O=S o->o.data=.func (docDef d.name d.params d.body d.scope pm cd doc)->s₁.heap.CodeRec cd d.name->mg d.name=S (.ref O) ->
     s₁.heap.get? a=S {cls:=.type "list",data:=.seq vs.toArray}->IntsAre vs ns->↑ns<=n->s₁.gens=#[] ->
     hU (aI l.prog w) uM (.call (.ref O) ⟨[.ref a],[]⟩) (λr s'=>r=.ok (.ret (.bool true))/\OldK s₁.heap s'.heap/\s'.os=s₁.os/\oH s'.gens) s₁) :
   WalkO q UV XP YP l.row.toRowW d [] (λf vs=>PySem.call f vs):=by
 intro w s₀ s₁ mg mb G Y8 O o pm cd doc dV kV ho hd wS hD hmg hg args vals as hpre aiX hrd hwl hlo
 obtain rfl:dV=.none:=Dflts.none hD hdf
 obtain rfl:kV=.none:=Dflts.noKw hD
 obtain⟨a,vs,ns,rfl,rfl,Gx,I,mo⟩:=agA hn hpre hwl
 show enter_call (xl (call w s₀ s₁ mg mb O o pm cd doc a vs ns G Y8 ho (fd_plain hd) wS hmg Gx I mo hg) λr s' hq=>?_)
 obtain⟨rfl,h2,h3,h4⟩:=hq
 show⟨.inl ⟨.bool true,.bool true,[],U,λz=>rfl,.bool true,afh l _,λz=>⟨Ut,λz hm=>(nomatch hm)⟩⟩,h2,h3,h4⟩
end LK
namespace L2
open PySem PySem.Spec PyProof.Rows
theorem Tz:∀{vs:↥ae} {G:↥Int},IntsAre vs G->Vals (G.map V.int) vs
 | _,_,.nil=>.nil
 | _,_,.cons n t h=>.cons ⟨t,rfl⟩ (Tz h)
def EH (H:Hp):Prop:=∀b,H b=Z\/∃o xs,H b=S (.frz o (.lst xs))
def aa3 {P:bo}{w:aY}{K:av}{mg mb:Str->Option ae}{CX:js}{k:Nat}{fa a:J}{fd:ba}{x:Str}{sp:Sp}{s₁:aj}{vs:↥ae}{ns:↥Int}
   (KX:K.In s₁.heap) (hns:s₁.heap.Ns iC mg) (hb:s₁.heap.Ns builtinsNs mb) (hbb:∀x:Str,x≠"__name__"->mb x=jc x) (hlim:s₁.heap.NoLimit) (hg:s₁.gens=#[])
   (ha:s₁.heap.get? a=S {cls:=.type "list",data:=.seq vs.toArray}) (hi:IntsAre vs ns) (hl:↑ns<=sizeLine) (hr:cX k uM)
   (F:∀base:Heap,K.In base->base.Ns iC mg->aU P w K mg base CX k fa fd [x] sp) (O:∀(s:aj) (u:ae),uG s fd ⟨[u],[]⟩ [(x,u)])
   (hsp:∀H:Hp,EH H->af K H a (ns.map V.int)->sp [.ref a] H (λv y=>v=.bl true) λy y y=>False)
   (hCX:∀H e s',CX [] H s₁ (λy y y=>False) e s'->False) :
   hU (aI P w) uM (.call (.ref fa) ⟨[.ref a],[]⟩) (λr s'=>r=.ok (.ret (.bool true))/\OldK s₁.heap s'.heap/\s'.os=s₁.os/\oH s'.gens) s₁:=by
 have rv:=Tz hi
 have aa6:=↑hi
 have I:∀H:Hp,EH H->af K H a (ns.map V.int)->dH P w H s₁.heap->(∀b,H b≠Z->b=a)->(H a≠Z->K.lookup a=Z) ->
     hU (aI P w) uM (.call (.ref fa) ⟨[.ref a],[]⟩) (λr s'=>r=.ok (.ret (.bool true))/\OldK s₁.heap s'.heap/\s'.os=s₁.os/\oH s'.gens) s₁:=by
   intro H hO hS hok hA hK
   have Md:∀{b:J} {o:Obj},s₁.heap.get? b=S o->H b=Z->(pC s₁.heap H).get? b=S o:=λe n=>Zd e n
   have noA:∀{b:J} {o:Obj} {es:Array DictEntry} {ep:Nat},s₁.heap.get? b=S o->o.data=.dict es ep->H b=Z:=λ{b o es ep} e d=>by
     cases q:H b with
     | none=>rfl
     | some u=>
       have e':b=a:=hA b (by rw[q];simp)
       subst e'
       rw[ha]at e;cases e
       have d':Data.seq vs.toArray _=Data.dict es ep:=d
       cases d'
   have G:∀{b:J} {m:Str->Option ae},s₁.heap.Ns b m->(pC s₁.heap H).Ns b m:=λ{b m} ⟨o,es,ep,e,d,r⟩=>⟨o,es,ep,Md e (noA e d),d,r⟩
   have NV:K.In (pC s₁.heap H):=λb o e=>Md (KX b o e) (by
     cases q:H b with
     | none=>rfl
     | some u=>
       have e':b=a:=hA b (by rw[q];simp)
       subst e'
       rw[hK (by rw[q];simp)]at e;cases e)
   have hM:Mod K mg (pC s₁.heap H):=⟨NV,G hns,⟨mb,G hb,hbb⟩,let⟨mc,h1,h2⟩:=hlim;⟨mc,G h1,h2⟩⟩
   have e0:oT P w K mg (pC s₁.heap H) uM [] s₁ H:=⟨rfl,hM,λb o e=>aci e,Nat.le_of_eq (Ze _ _),trivial,λb hb=>ao (show b∈([]:↥J)from hb) (by simp),hok,.of_eq hg⟩
   show xl ((F _ NV (G hns)).run uM [] s₁ H ⟨[.ref a],[]⟩ [.ref a] [.ref a] _ _ hr e0 (O s₁ (.ref a)) (.cons rfl .nil) (hsp H hO hS)) λr s' h=>?_
   cases r with
   | error e=>show(hCX H e s' h).elim
   | ok fl=>
     cases fl with
     | next=>show gD h
     | brk=>show gD h
     | cont=>show gD h
     | ret u=>
       obtain⟨v,H',os,bare,un,ZU,r',q⟩:=h
       have q':v=.bl true:=q
       subst q'
       obtain rfl:u=qv true:=r'
       show⟨U,OldK.of_keep λb o e=>?_,os,bare⟩
       cases q:H b with
       | none=>show un.keep b o e q (by intro z;show ao (show b∈([]:↥J)from z) (by simp)) (by simp)
       | some u=>
         rcases hO b with z|⟨ob,xs,z⟩
         . rw[q]at z;cases z
         . have z2:=un.frzs b ob _ z
           obtain⟨e1,_⟩:=hok b _ z
           obtain⟨e2,_⟩:=ZU b _ z2
           rw[e]at e1;cases e1
           show e2
 cases hk:K.lookup a with
 | some o=>
   have e:=KX a o hk
   rw[ha]at e
   cases e
   show I (λy=>Z) (λy=>.inl rfl) (.inr ⟨_,vs.toArray,_,hk,U,U,U,by rw[eM,aa6];show hl,by simpa using rv⟩) (λb u z=>by have z':(Z:Option HO)=S u:=z;cases z') (λb z=>ao rfl z) λz=>ao rfl z
 | none=>
   show I (λb=>if b=a then S (.frz {cls:=.type "list",data:=.seq vs.toArray} (.lst (ns.map V.int)))else Z) (λb=>?_) (.inl (.inr ⟨{cls:=.type "list",data:=.seq vs.toArray},aB rfl⟩)) (λb u z=>?_) (λb z=>?_) λy=>hk
   . by_cases hb:b=a
     . show .inr ⟨_,_,aB hb⟩
     . show .inl (az hb)
   . by_cases hb:b=a
     . have z':=(aB hb).symm.trans z
       cases z'
       subst hb
       show⟨ha,by rw[aA];show hl,vs,_,rv,ha⟩
     . have z':=(az hb).symm.trans z
       cases z'
   . by_cases hb:b=a
     . show hb
     . show ao (az hb) z
def ahH {l:PySem.W.OpenLaw}{n k:Nat}{q:bo}{UV:↥Str}{XP:(Str->Option ae)->Heap->Prop}{YP:aY->Heap->Prop}{d:DefRec}{K:Params->av}{CX:aY->js}{sp:aY->Sp}{x:Str}
   (hn:l.most=S n) (hn2:n<=sizeLine) (hdf:d.params.defaults=[]) (hr:cX k uM)
   (hY:∀(w:aY) (h:Heap),YP w h->(K w.params).In h)
   (F:∀(w:aY) (mg:Str->Option ae) (O:J) (h:Heap),(K w.params).In h->h.Ns iC mg->mg d.name=S (.ref O) ->
     ∃fd:ba,(∀(s:aj) (u:ae),uG s fd ⟨[u],[]⟩ [(x,u)]) /\
       ∀base:Heap,(K w.params).In base->base.Ns iC mg->aU l.prog w (K w.params) mg base (CX w) k O fd [x] (sp w))
   (hsp:∀(w:aY) (H:Hp) (a:J) (ns:↥Int),↑ns<=n->EH H->af (K w.params) H a (ns.map V.int)->sp w [.ref a] H (λv z=>v=.bl true) λz z z=>False)
   (hCX:∀(w:aY) (H:Hp) (s:aj) (e:ae) (s':aj),CX w [] H s (λz z z=>False) e s'->False) :
   PySem.W.WalkO q UV XP YP l.row.toRowW d [] (λf vs=>PySem.call f vs):=by
 show LK.Vz hn hdf λw s₀ s₁ mg mb O o pm cd doc a vs ns G Y8 ho hd wS hmg Gx I mo hg=>?_
 have KX:=hY w _ Y8
 obtain⟨fd,hb,hF⟩:=F w mg O _ KX G.T.g hmg
 show aa3 KX G.T.g G.T.b G.T.builtins G.T.nolimit hg Gx I (ck mo hn2) hr hF hb (λH hO hS=>hsp w H a ns mo hO hS) λH e s'=>hCX w H s₁ e s'
def mG (s:Stmt):Arguments:=match s with
 | .FunctionDef _ a _ _ _ _ _ _ _ _=>a
 | _=>{posonlyargs:=[],args:=[],vararg:=Z,kwonlyargs:=[],kw_defaults:=[],kwarg:=Z,defaults:=[]}
def jg (s:Stmt):↥Stmt:=match s with
 | .FunctionDef _ _ b _ _ _ _ _ _ _=>b
 | _=>[]
def aV (s:Stmt):cG:=match s with
 | .FunctionDef _ _ _ _ _ _ sc _ _ _=>sc
 | _=>{kind:=.function,names:=[],isGenerator:=false,isCoroutine:=false}
abbrev bj:js:=λ_ _ _ _ _ _=>False
abbrev E0:XK:=λ_ _ _=>False
def zi {X:Cx}:Passes bj X E0:=λz z z z z z z h=>h.elim
structure bq (K:av)(x qual:Str)(st:Stmt)(f:J)(fd:ba):Prop where
 ex:∃(oc:ae) (od:Option J) (kV doc pm:ae) (an:Option J) (im ct:ae) (ZB:Array (Option ae)),
   fd=lB x qual (mG st) (jg st) (aV st) .none kV doc pm an im ct/\K.lookup f=S ⟨oc,od,.func fd,ZB⟩/\xh K im qual=true
 kp:lC K (.ref f)=true
section
variable{P:bo}{w:aY}{K:av}{mg:Str->Option ae}{base:Heap}
def bq.ok {x qual:Str}{st:Stmt}{f:J}{fd:ba}{N ps:↥Str}{k:Nat}{sp:Sp}(F:bq K x qual st f fd)(S8:bE N ps (aV st))(len:∀vs H Q E,sp vs H Q E->↑vs=↑ps)
   (O:∀(G:ae) (A:bD) (outer:↥Env) (s:aj) (H:Hp) (vs:↥V) (Q:VK) (E:XK),cX k (A.deeper (fM qual (aV st) s.heap.objs.size f G))->sp vs H Q E ->
     ∃t,fR (gV bj P w K mg base N qual (aV st) f G A outer s H E).pX (jg st) t/\t {nx:=λz H'=>Q .aM H',rt:=Q} (start N vs) H):aU P w K mg base bj (k+1) f fd ps sp:=by
 obtain⟨oc,od,kV,doc,pm,an,G,ct,ZB,rfl,lk,wS⟩:=F.ex
 show FI lk wS S8 len λA outer s H vs Q E hr I=>?_
 obtain⟨t,h,q⟩:=O G A outer s H vs Q E hr I
 show⟨t,h.pX,q⟩
def bq.bZ {x qual:Str}{st:Stmt}{f:J}{fd:ba}{N ps:↥Str}{k:Nat}{sp:Sp}(F:bq K x qual st f fd)(S8:bE N ps (aV st))(I:∀(G:ae) (A:bD) (outer:↥Env) (s:aj) (H:Hp) (vs:↥V) (Q:VK) (E:XK),cX k (A.deeper (fM qual (aV st) s.heap.objs.size f G))->sp vs H Q E->∃t,fR (gV bj P w K mg base N qual (aV st) f G A outer s H E).pX (jg st) t/\t {nx:=λz H'=>Q .aM H',rt:=Q} (start N vs) H)(len:∀vs H Q E,sp vs H Q E->↑vs=↑ps:=by intro vs H Q E h;repeat first|(obtain⟨rfl,_⟩:=h;rfl)|obtain⟨_,h⟩:=h):aU P w K mg base bj (k+1) f fd ps sp:=F.ok S8 len I
def bq.binds {x qual:Str}{st:Stmt}{f:J}{fd:ba}{ps:↥Str}(F:bq K x qual st f fd)
   (h:∀(kV doc G:ae) (an:Option J) (I ct:ae) (us:↥ae),↑us=↑ps->xk (lB x qual (mG st) (jg st) (aV st) .none kV doc G an I ct) ⟨us,[]⟩=pure (ps.zip us)):Binds K fd ps []:=by
 obtain⟨O,od,kV,doc,G,an,I,ct,ZB,rfl,lk,wS⟩:=F.ex
 show .all (h kV doc G an I ct)
def lR {x qual:Str}{st:Stmt}{f:J}{O:ae}{od an:Option J}{ZB:Array (Option ae)}{kV doc I G ct:ae}(l:K.lookup f=S ⟨O,od,.func (lB x qual (mG st) (jg st) (aV st) .none kV doc I an G ct),ZB⟩)
   (c:xh K G qual=true) (k:lC K (.ref f)=true):bq K x qual st f (lB x qual (mG st) (jg st) (aV st) .none kV doc I an G ct):=⟨⟨O,od,kV,doc,I,an,G,ct,ZB,rfl,l,c⟩,k⟩
end
def da {n:Nat}(h:n<=1000):n<sizeLine:=Nat.lt_of_le_of_lt h ∅
def mV {A B:Prop}(h:B):if false=true then A else B:=by
 rw[az fK]
 show h
def oh {A B:Prop}(h:A):if true=true then A else B:=by
 rw[aB rfl]
 show h
def aG {c A B:Prop}[Decidable c](h1:c->A)(h2:¬ c->B):if c then A else B:=by
 by_cases h:c
 . rw[aB h]
   show h1 h
 . rw[az h]
   show h2 h
def ag (H H':Hp):Prop:=∀b o,H b=S o->H' b=S o
def ag.seq {K:av}{H H':Hp}{a:J}{xs:↥V}(e:ag H H')(h:af K H a xs):af K H' a xs:=by
 rcases h with(h|⟨o,h⟩)|h
 . show .inl (.inl (e _ _ h))
 . show .inl (.inr ⟨o,e _ _ h⟩)
 . show .inr h
section
variable{κ:Type}[DecidableEq κ]
def bu (kvs:↥(κ×V))(k:κ):Option V:=(kvs.find? λG=>decide (G.1=k)).map (·.2)
def putK (kvs:↥(κ×V))(k:κ)(v:V):↥(κ×V):=
 if(kvs.any λG=>decide (G.1=k))=true then kvs.map (λG=>if G.1=k then(G.1,v)else G)else kvs++[(k,v)]
def mr {p:κ×V}{r:↥(κ×V)}{k:κ}(e:p.1=k):bu (p::r) k=S p.2:=by simp[bu,qo,e]
def k9 {p:κ×V}{r:↥(κ×V)}{k:κ}(e:¬ p.1=k):bu (p::r) k=bu r k:=by simp[bu,qo,e]
theorem wN (k:κ):∀kvs:↥(κ×V),(kvs.any λG=>decide (G.1=k))=(bu kvs k).isSome
 | []=>rfl
 | p::r=>by
   rw[qm]
   by_cases e:p.1=k
   . simp only[mr e,bS e,Bool.true_or,Option.isSome_some]
   . rw[k9 e,fU e,DD];show wN k r
theorem Tw (k j:κ)(y:V):∀kvs:↥(κ×V),bu (kvs.map λG=>if G.1=k then(G.1,y)else G) j=(bu kvs j).map λx=>if j=k then y else x
 | []=>rfl
 | p::r=>by
   have I:=Tw k j y r
   rw[jb]
   by_cases h:p.1=k
   . rw[aB h]
     by_cases e:p.1=j
     . rw[mr (p:=(p.1,y)) e,mr e,oN,aB (e.symm.trans h)]
     . rw[k9 (p:=(p.1,y)) e,k9 e,I]
   . rw[az h]
     by_cases e:p.1=j
     . rw[mr (p:=p) e,mr e,oN,az (λz=>h (e.trans z))]
     . rw[k9 (p:=p) e,k9 e,I]
theorem Tx (k j:κ)(y:V):∀kvs:↥(κ×V),bu kvs k=Z->bu (kvs++[(k,y)]) j=if j=k then S y else bu kvs j
 | [],_=>by
   by_cases e:k=j
   . rw[aB e.symm];show mr (p:=(k,y)) e
   . rw[az (λz=>e z.symm)];show k9 (p:=(k,y)) e
 | p::r,G=>by
   rw[List.cons_append]
   have hk:¬ p.1=k:=λz=>by rw[mr z]at G;cases G
   rw[k9 hk]at G
   have I:=Tx k j y r G
   by_cases e:p.1=j
   . rw[mr e,mr e,az (λz=>hk (e.trans z))]
   . rw[k9 e,k9 e,I]
def j7 (kvs:↥(κ×V))(k j:κ)(y:V):bu (putK kvs k y) j=if j=k then S y else bu kvs j:=by
 unfold putK
 by_cases a:(kvs.any λG=>decide (G.1=k))=true
 . rw[aB a,Tw]
   rw[wN]at a
   by_cases e:j=k
   . obtain⟨x,hx⟩:=Option.isSome_iff_exists.mp a
     rw[aB e,e,hx,oN,aB rfl]
   . rw[az e]
     cases bu kvs j with
     | none=>rfl
     | some x=>rw[oN,az e]
 . rw[az a]
   show Tx k j y kvs ?_
   rw[wN]at a
   cases q:bu kvs k with
   | none=>rfl
   | some x=>rw[q]at a;show(a rfl).elim
def pS (kvs:↥(κ×V))(k:κ)(v:V):↑(putK kvs k v)<=↑kvs+1:=by
 unfold putK
 split
 . rw[aA];lia
 . rw[cJ,gF,List.length_nil];lia
def ig.yJ {o:Option V}{u:Option ae}(r:ig o u):o.isSome=u.isSome:=by
 cases o with
 | none=>cases u with
   | none=>rfl
   | some _=>show(show False from r).elim
 | some _=>cases u with
   | none=>show(show False from r).elim
   | some _=>rfl
theorem ig.getD {o:Option V}{u:Option ae}{d:V}{d':ae}(r:ig o u)(G:RelV d d'):RelV (o.getD d) (u.getD d'):=by
 cases o with
 | none=>cases u with
   | none=>show G
   | some _=>show(show False from r).elim
 | some _=>cases u with
   | none=>show(show False from r).elim
   | some _=>show r
def KV.val {kvs:↥(κ×V)}{vs:↥(κ×ae)}(r:KV kvs vs)(k:κ):ig (bu kvs k) (uP vs k):=by
 unfold KV at r
 induction r with
 | nil=>show bK
 | @cons p q ps G h t O=>
   obtain⟨h1,h2⟩:=h
   by_cases e:p.1=k
   . have I:q.1=k:=h1.symm.trans e
     have b:uP (q::G) k=S q.2:=by simp[uP,qo,I]
     rw[mr e,b];show h2
   . have I:¬ q.1=k:=λz=>e (h1.trans z)
     have b:uP (q::G) k=uP G k:=by simp[uP,qo,I]
     rw[k9 e,b];show O
theorem KV.any {kvs:↥(κ×V)}{vs:↥(κ×ae)}(r:KV kvs vs)(k:κ):(kvs.any λG=>decide (G.1=k))=vs.any λG=>decide (G.1=k):=by
 unfold KV at r
 induction r with
 | nil=>rfl
 | cons h t I=>rw[qm,qm,I,h.1]
def KV.IT {kvs:↥(κ×V)}{vs:↥(κ×ae)}(r:KV kvs vs)(k:κ){y:V}{u:ae}(I:RelV y u) :
   KV (kvs.map λG=>if G.1=k then(G.1,y)else G) (vs.map λG=>if G.1=k then(G.1,u)else G):=by
 unfold KV at r ⊢
 induction r with
 | nil=>show .nil
 | @cons p q ps qs h t O=>
   rw[jb,jb]
   show .cons ?_ O
   obtain⟨h1,h2⟩:=h
   by_cases e:p.1=k
   . rw[aB e,aB (h1.symm.trans e)];show⟨h1,I⟩
   . rw[az e,az (λz=>e (h1.trans z))];show⟨h1,h2⟩
def KV.put {kvs:↥(κ×V)}{vs:↥(κ×ae)}(r:KV kvs vs)(k:κ){y:V}{u:ae}(G:RelV y u):KV (putK kvs k y) (stored vs k u):=by
 unfold putK stored
 rw[r.any k]
 by_cases e:(vs.any λI=>decide (I.1=k))=true
 . rw[aB e,aB e];show r.IT k G
 . rw[az e,az e];show Paired.snoc r ⟨rfl,G⟩
def KV.length {kvs:↥(κ×V)}{vs:↥(κ×ae)}(r:KV kvs vs):↑kvs=↑vs:=Paired.length r
end
def pQ {P:bo}{w:aY}{k:Key}{u:ae}(r:RelV (kV k) u):(eU P w).is k u=true:=by
 cases k with
 | inl i=>obtain⟨t,e⟩:=(show ∃t,u=rR i t from r);subst e;show abm P w i t
 | inr x=>obtain⟨t,e⟩:=(show ∃t,u=Ar x t from r);subst e;show abn P w x t
theorem OR {P:bo}{w:aY}:∀{G:↥Key} {us:↥ae},Vals (G.map kV) us->ItemsAre (eU P w) G us
 | [],_,r=>by rw[K8]at r;cases r;show .nil
 | k::G,_,r=>by
   rw[jb]at r
   cases r with
   | cons h t=>show .cons (pQ h) (OR t)
abbrev KT (H:Hp):↥(↥Key×V)->↥(↥Key×J×ae)->Prop:=Paired λp q=>p.1=q.1/\H q.2.1=S (.tup (p.1.map kV))/\RelV p.2 q.2.2
def KT.val {H:Hp}{kvs:↥(↥Key×V)}{xs:↥(↥Key×J×ae)}(r:KT H kvs xs)(k:↥Key):ig (bu kvs k) ((kf xs k).map (·.2)):=by
 induction r with
 | nil=>show bK
 | @cons p q ps G h t O=>
   obtain⟨h1,_,h2⟩:=h
   by_cases e:p.1=k
   . have I:q.1=k:=h1.symm.trans e
     have b:kf (q::G) k=S q.2:=by simp[kf,qo,I]
     rw[mr e,b];show h2
   . have I:¬ q.1=k:=λz=>e (h1.trans z)
     have b:kf (q::G) k=kf G k:=by simp[kf,qo,I]
     rw[k9 e,b];show O
def KT.IT {H:Hp}{kvs:↥(↥Key×V)}{xs:↥(↥Key×J×ae)}(r:KT H kvs xs)(k:↥Key){y:V}{u:ae}(I:RelV y u) :
   KT H (kvs.map λG=>if G.1=k then(G.1,y)else G) (xs.map (putAt k u)):=by
 induction r with
 | nil=>show .nil
 | @cons p q ps qs h t O=>
   rw[jb,jb]
   show .cons ?_ O
   obtain⟨h1,h2,h3⟩:=h
   unfold putAt
   by_cases e:p.1=k
   . rw[aB e,aB (h1.symm.trans e)];show⟨h1,h2,I⟩
   . rw[az e,az (λz=>e (h1.trans z))];show⟨h1,h2,h3⟩
def KT.put {H:Hp}{kvs:↥(↥Key×V)}{xs:↥(↥Key×J×ae)}(r:KT H kvs xs)(k:↥Key){b:J}{y:V}{u:ae}(hb:H b=S (.tup (k.map kV)))(G:RelV y u) :
   KT H (putK kvs k y) (storedH xs k b u):=by
 have e:(kvs.any λI=>decide (I.1=k))=(kf xs k).isSome:=by
   rw[wN,(r.val k).yJ,Ll]
 unfold putK storedH
 rw[e]
 by_cases q:(kf xs k).isSome=true
 . rw[aB q,aB q];show r.IT k G
 . rw[az q,az q];show Paired.snoc r ⟨rfl,hb,G⟩
def KT.keeps {H H':Hp}{kvs:↥(↥Key×V)}{xs:↥(↥Key×J×ae)}(r:KT H kvs xs)(G:∀b ys,H b=S (.tup ys)->H' b=S (.tup ys)):KT H' kvs xs:=
 Paired.bc r λy y z=>⟨z.1,G _ _ z.2.1,z.2.2⟩
section
variable{P:bo}{w:aY}{H:Hp}{h:Heap}{a:J}
def QM {u:HO}(ok:dH P w H h)(e:Rd H a u):dj P w H h a u:=e.ok ok
def sZ {kvs:↥(Key×V)}(ok:dH P w H h)(e:Rd H a (.dK kvs)):↑kvs<=sizeLine/\(a==mx)=false/\∃vs,KV kvs vs/\h.DictOf (eU P w) a vs:=
 show dj P w H h a (.dK kvs)from QM ok e
def Bh {kvs:↥(Key×V)}(ok:dH P w H h)(e:H a=S (.dK kvs)):↑kvs<=sizeLine/\(a==mx)=false/\∃vs,KV kvs vs/\h.DictOf (eU P w) a vs:=sZ ok (.inl e)
def qY {G:↥Key}(ok:dH P w H h)(e:H a=S (.tup (G.map kV))):(lJ (eU P w)).is h G a:=by
 obtain⟨_,I,r,o,h1,h2,n,O⟩:=(show dj P w H h a (.tup (G.map kV))from ok a _ e)
 show⟨o,I.toArray,n,h1,h2,O,by simpa using OR r⟩
def tj {kvs:↥(↥Key×V)}(ok:dH P w H h)(e:Rd H a (.dT kvs)):↑kvs<=sizeLine/\(a==mx)=false /\
   ∃xs,KT H kvs xs/\h.DictOfH (lJ (eU P w)) a xs:=by
 obtain⟨z,y,xs,r,o,es,G,h1,h2,I,O,h5⟩:=(show dj P w H h a (.dT kvs)from QM ok e)
 show⟨z,y,xs,r,o,es,G,h1,h2,I,O,λx hx=>?_,h5⟩
 have all:∀{l:↥(↥Key×V)} {m:↥(↥Key×J×ae)},KT H l m->∀x∈m,(lJ (eU P w)).is h x.1 x.2.1:=by
   intro l m q
   induction q with
   | nil=>intro x hx;show nomatch hx
   | @cons p q ps qs hq t ih=>
     intro x hx
     rcases List.mem_cons.mp hx with e|hx
     . subst e
       show qY ok (by rw[← hq.1];show hq.2.1)
     . show ih x hx
 show all r x hx
def Fz {kvs:↥(↥Key×V)}(ok:dH P w H h)(e:H a=S (.dT kvs)):↑kvs<=sizeLine/\(a==mx)=false /\
   ∃xs,KT H kvs xs/\h.DictOfH (lJ (eU P w)) a xs:=tj ok (.inl e)
end
def dN (H:Hp)(a:J)(y:V)(r:Option V):Prop:=
 (∃kvs k,Rd H a (.dK kvs)/\y=kV k/\r=bu kvs k)\/∃kvs k b,Rd H a (.dT kvs)/\y=.ref b/\H b=S (.tup (k.map kV))/\r=bu kvs k
def iD (H:Hp)(a:J)(y v:V)(H':Hp):Prop:=
 (∃kvs k,H a=S (.dK kvs)/\y=kV k/\↑kvs<sizeLine/\H'=upd H a (.dK (putK kvs k v))) \/
 ∃kvs k b,H a=S (.dT kvs)/\y=.ref b/\H b=S (.tup (k.map kV))/\↑kvs<sizeLine/\H'=upd H a (.dT (putK kvs k v))
def dN.k {H:Hp}{a:J}{kvs:↥(Key×V)}{k:Key}(e:H a=S (.dK kvs)):dN H a (kV k) (bu kvs k):=.inl ⟨kvs,k,.inl e,rfl,rfl⟩
def dN.t {H:Hp}{a b:J}{kvs:↥(↥Key×V)}{k:↥Key}(e:H a=S (.dT kvs))(G:H b=S (.tup (k.map kV))):dN H a (.ref b) (bu kvs k):=.inr ⟨kvs,k,b,.inl e,rfl,G,rfl⟩
def iD.k {H:Hp}{a:J}{kvs:↥(Key×V)}{k:Key}{v:V}(e:H a=S (.dK kvs))(G:↑kvs<sizeLine):iD H a (kV k) v (upd H a (.dK (putK kvs k v))):=.inl ⟨kvs,k,e,rfl,G,rfl⟩
def iD.t {H:Hp}{a b:J}{kvs:↥(↥Key×V)}{k:↥Key}{v:V}(e:H a=S (.dT kvs))(G:H b=S (.tup (k.map kV)))(I:↑kvs<sizeLine) :
   iD H a (.ref b) v (upd H a (.dT (putK kvs k v))):=.inr ⟨kvs,k,b,e,rfl,G,I,rfl⟩
section
variable{X:Cx}{pins:↥(J×Obj)}{σ:St}{H:Hp}{s:aj}{a:J}{y v:V}{u r:ae}{o:Option V}{A:bD}{E:ae->aj->Prop}
def Inv.big (I:Inv X pins σ H s):mx<s.heap.objs.size:=by
 have h:iC<s.heap.objs.size:=(I.mod.glob.keeps I.bk).lt
 show Nat.lt_trans ∅ h
def Wt {Q:ae->aj->Prop}(hu:A.units+1<dC)(I:Inv X pins σ H s)(g:dN H a y (S v))(ry:RelV y u)(h:∀O s',Inv X pins σ H s'->RelV v O->Q O s') :
   aD (aI X.prog X.w) A (rW (.ref a) u) Q E s:=by
 rcases g with⟨kvs,k,e,ey,l⟩|⟨kvs,k,b,e,ey,eb,l⟩
 . subst ey
   obtain⟨z,hd,vs,wT,dd⟩:=sZ I.hok e
   obtain⟨O,hw,G⟩:=ig.some_of (v:=v) (o:=uP vs k) (by rw[l];show wT.val k)
   show wpAny_getItem_of (pQ ry) dd.mapOf hw (h O _ (I.tok _) G)
 . subst ey
   cases(show u=bU b from ry)
   obtain⟨z,hd,xs,wT,dd⟩:=tj I.hok e
   obtain⟨O,hw,G⟩:=ig.some_of (v:=v) (o:=(kf xs k).map (·.2)) (by rw[l];show wT.val k)
   obtain⟨p,hp,bp⟩:=Option.map_eq_some_iff.mp hw
   show wpAny_getItem_heap (xt hu) (qY I.hok eb) dd hp ?_
   rw[bp]
   show h O _ (I.tok _) G
def Wu {Q:ae->aj->Prop}(hu:A.units+1<dC)(I:Inv X pins σ H s)(g:dN H a y o)(ry:RelV y u)(h:∀s',Inv X pins σ H s'->Q (.bool o.isSome) s') :
   aD (aI X.prog X.w) A (dD .In u (.ref a)) Q E s:=by
 rcases g with⟨kvs,k,e,G,l⟩|⟨kvs,k,b,e,G,eb,l⟩
 . subst G
   obtain⟨z,O,vs,wT,dd⟩:=sZ I.hok e
   show wpAny_in_of (pQ ry) O dd.mapOf ?_
   rw[← (wT.val k).yJ,← l]
   show h _ (I.tok _)
 . subst G
   cases(show u=bU b from ry)
   obtain⟨z,O,xs,wT,dd⟩:=tj I.hok e
   show wpAny_in_heap (xt hu) (qY I.hok eb) O dd ?_
   have q:=(wT.val k).yJ
   rw[Ll]at q
   rw[← q,← l]
   show h _ (I.tok _)
def Wv {Q:ae->aj->Prop}(hu:A.units+1<dC)(I:Inv X pins σ H s)(g:dN H a y o)(ry:RelV y u)(h:∀s',Inv X pins σ H s'->Q (.bool (!o.isSome)) s') :
   aD (aI X.prog X.w) A (dD .NotIn u (.ref a)) Q E s:=by
 rcases g with⟨kvs,k,e,G,l⟩|⟨kvs,k,b,e,G,eb,l⟩
 . subst G
   obtain⟨z,O,vs,wT,dd⟩:=sZ I.hok e
   show wpAny_notIn_of (pQ ry) O dd.mapOf ?_
   rw[← (wT.val k).yJ,← l]
   show h _ (I.tok _)
 . subst G
   cases(show u=bU b from ry)
   obtain⟨z,O,xs,wT,dd⟩:=tj I.hok e
   show wpAny_notIn_heap (xt hu) (qY I.hok eb) O dd ?_
   have q:=(wT.val k).yJ
   rw[Ll]at q
   rw[← q,← l]
   show h _ (I.tok _)
def sY {h':Heap}{t':Nat}{ob:HO}(I:Inv X pins σ H s)(G:xE (H a))(O:lj a s.heap h')(he:∃q,h'.get? a=S q)(new:dj X.prog X.w (upd H a ob) h' a ob) :
   Inv X pins σ (upd H a ob) {s with heap:=h',toks:=t'}:=
 I.write (x:=a) (e:=a) G (.inl rfl) (λb q hb z=>(O.2 b hb).trans z) he new
def Bg {P:bo}{w:aY}{H':Hp}{h':Heap}{kvs:↥(Key×V)}{vs:↥(Key×ae)}(z:↑kvs<=sizeLine)(G:(a==mx)=false)(I:KV kvs vs)(dd:h'.DictOf (eU P w) a vs) :
   dj P w H' h' a (.dK kvs):=⟨z,G,vs,I,dd⟩
def Wx {H':Hp}{Q:Unit->aj->Prop}(hu:A.units+1<dC)(I:Inv X pins σ H s)(g:iD H a y v H')(ry:RelV y u)(rv:RelV v r)(h:∀s',Inv X pins σ H' s'->Q () s') :
   aD (aI X.prog X.w) A (setItem (.ref a) u r) Q E s:=by
 rcases g with⟨kvs,k,e,ey,l,eH⟩|⟨kvs,k,b,e,ey,eb,l,eH⟩
 . subst ey eH
   obtain⟨z,hd,vs,G,dd⟩:=Bh I.hok e
   have hz:↑vs<=sizeLine:=by rw[← G.length];show z
   have hl:↑(putK kvs k v)<=sizeLine:=by have:=pS kvs k v;lia
   show wpAny_setItem_pairs (hsz:=hz) (pQ ry) dd λh' O hs=>h _ ?_
   have he:∃q,h'.get? a=S q:=by obtain⟨q,_,_,hq,_⟩:=O;show⟨q,hq⟩
   show sY I (by rw[e];show bK) hs he (Bg hl hd (G.put k rv) O)
 . subst ey eH
   cases(show u=bU b from ry)
   obtain⟨z,hd,xs,G,dd⟩:=Fz I.hok e
   have hz:↑xs<=sizeLine:=by rw[← Paired.length G];show z
   have hl:↑(putK kvs k v)<=sizeLine:=by have:=pS kvs k v;lia
   show wpAny_setItem_heap (hsz:=hz) (xt hu) (qY I.hok eb) dd λh' O hs=>h _ ?_
   obtain⟨q,es,ep,hq,h2,h3,h4,_,h5⟩:=O
   show sY I (by rw[e];show bK) hs ⟨q,hq⟩ ⟨hl,hd,_,(G.put k eb rv).keeps λc ys ec=>?_,q,es,ep,hq,h2,h3,h4,h5⟩
   rw[aC (i6 ec e (λz=>nomatch z))]
   show ec
end
def EE (i:Expr):Prop:=∀G I,El i false G I=operate [G,I] (rW G I)
def ag8 {prog:bo}{w:aY}{A:bD}{E:ae->aj->Prop}{s:aj}{env:Env}{value G:Expr}{ci:Pos}{T id:String}{Q:ae->aj->Prop}
   (O:Aw (.type T) "__getitem__"=pure (S (.builtin id))) (hs:EE G)
   (h:aD (aI prog w) A (eval value env) (λo s₁=>aD (aI prog w) A (eval G env) (λi s₂=>s₂.TypeIs o T/\aD (aI prog w) A (rW o i) Q E s₂) E s₁) E s) :
   aD (aI prog w) A (eval (.Subscript value G ci) env) Q E s:=by
 show Ao (kh h (λo s₁ h₁=>kh h₁ (λi s₂ h₂=>?_) λz z x=>x) λz z x=>x)
 obtain⟨I,h₂⟩:=h₂
 unfold Av
 show aq ?_
 rw[getitemInPython_of_ne I.not_modules]
 show aq (wpAny_specialOf I O ?_)
 have fin:aD (aI prog w) A (El G false o i) (λr s₃=>aD (aI prog w) A (letTemporaryGo value o r>>=λz=>pure r) Q E s₃) E s₂:=by
   rw[hs o i]
   show wpAny_operating (kh h₂ (λr s₃ h₃=>aq (wpAny_letTemporaryGo (aS h₃))) λz z x=>x)
 first
   | show aS (aq fin)
   | show aq (aS (aq fin))
   | show aq fin
def Wy {X:Cx}{pins:↥(J×Obj)}{σ:St}{H:Hp}{s:aj}{a:J}{y:V}{o:Option V}(I:Inv X pins σ H s)(g:dN H a y o):s.TypeIs (.ref a) "dict":=by
 rcases g with⟨kvs,k,e,_,_⟩|⟨kvs,k,b,e,_,_,_⟩
 . obtain⟨_,_,vs,_,dd⟩:=sZ I.hok e
   show dd.typeIs
 . obtain⟨_,_,xs,_,dd⟩:=tj I.hok e
   show dd.typeIs
def SH (td ty:TE):TE:=λσ H Q=>td σ H λx H1=>ty σ H1 λy H2=>∃a v,x=.ref a/\dN H2 a y (S v)/\Q v H2
def SN (ty td:TE):TE:=λσ H Q=>ty σ H λy H1=>td σ H1 λx H2=>∃a o,x=.ref a/\dN H2 a y o/\Q (.bl o.isSome) H2
def SU (ty td:TE):TE:=λσ H Q=>ty σ H λy H1=>td σ H1 λx H2=>∃a o,x=.ref a/\dN H2 a y o/\Q (.bl (!o.isSome)) H2
def Q3 (td ty tv:TE):TS:=λD σ H=>tv σ H λv H1=>td σ H1 λx H2=>ty σ H2 λy I=>∃a G,x=.ref a/\iD I a y v G/\D.nx σ G
section
variable{X:Cx}{o i e value:Expr}{ci pi ahe:Pos}{td ty tv:TE}
def aet (hu:X.A.units+1<dC)(ho:PE X o td)(hi:PE X i ty)(hs:EE i):PE X (.Subscript o i ci) (SH td ty):=by
 intro pins s σ H Q I h
 show ag8 PySem.F.slot_dict_getitem.lookup hs (aO (ho pins s σ H _ I h) λu s1 g9=>?_)
 obtain⟨x,H1,I1,rx,q1⟩:=g9
 show aO (hi pins s1 σ H1 _ I1 q1) λiv s2 h9=>?_
 obtain⟨y,H2,O,ry,a,v,ex,g,q2⟩:=h9
 subst ex
 obtain rfl:u=bU a:=rx
 show⟨Wy O g,Wt hu O g ry λw' s3 I3 G=>⟨v,H2,I3,G,q2⟩⟩
def aed (hu:X.A.units+1<dC)(hi:PE X i ty)(G:PE X o td):PC X .In i o (SN ty td):=by
 intro pins s σ H Q I h
 show aO (hi pins s σ H _ I h) λiv O g9=>?_
 obtain⟨y,H1,I1,ry,q1⟩:=g9
 show aO (G pins O σ H1 _ I1 q1) λu s2 h9=>?_
 obtain⟨x,H2,I2,rx,a,ov,ex,g,q2⟩:=h9
 subst ex
 obtain rfl:u=bU a:=rx
 show Wu hu I2 g ry λs3 I3=>⟨.bl ov.isSome,H2,I3,U,q2⟩
def aee (hu:X.A.units+1<dC)(hi:PE X i ty)(G:PE X o td):PC X .NotIn i o (SU ty td):=by
 intro pins s σ H Q I h
 show aO (hi pins s σ H _ I h) λiv O g9=>?_
 obtain⟨y,H1,I1,ry,q1⟩:=g9
 show aO (G pins O σ H1 _ I1 q1) λu s2 h9=>?_
 obtain⟨x,H2,I2,rx,a,ov,ex,g,q2⟩:=h9
 subst ex
 obtain rfl:u=bU a:=rx
 show Wv hu I2 g ry λs3 I3=>⟨.bl (!ov.isSome),H2,I3,U,q2⟩
def afm (hu:X.A.units+1<dC)(O:PE X o td)(hi:PE X i ty)(hv:PE X value tv)(hs:lI value (S (.Subscript o i pi)) ci.line X.env=pure false) :
   PS X (.Assign [.Subscript o i pi] value ci) (Q3 td ty tv):=by
 intro pins s σ H D I h
 show wpAny_Assign_Subscript (aO (hv pins s σ H _ I h) λr s1 G=>?_) hs
 obtain⟨v,H1,I1,rv,q1⟩:=G
 show aO (O pins s1 σ H1 _ I1 q1) λu s2 G=>?_
 obtain⟨x,H2,I2,rx,q2⟩:=G
 show aO (hi pins s2 σ H2 _ I2 q2) λiv s3 h9=>?_
 obtain⟨y,H3,I3,ry,a,H4,ex,g,q3⟩:=h9
 subst ex
 obtain rfl:u=bU a:=rx
 show Wx hu I3 g ry rv λs4 I4=>⟨σ,H4,I4,q3⟩
end
def Fv {P:bo}{w:aY}{H:Hp}(h:Heap)(hb:mx<h.objs.size):dj P w H (h.push {cls:=.type "dict",data:=.dict #[]}) h.objs.size (.dK []):=
 ⟨fL _,beq_eq_false_iff_ne.mpr (mw (eV hb)),[],.nil,Heap.DictOf.new h⟩
def M4 {P:bo}{w:aY}{H:Hp}(h:Heap)(hb:mx<h.objs.size):dj P w H (h.push {cls:=.type "dict",data:=.dict #[]}) h.objs.size (.dT []):=
 ⟨fL _,beq_eq_false_iff_ne.mpr (mw (eV hb)),[],.nil,_,#[],0,hG _ rfl,⟨rfl,rfl,rfl⟩,rfl,rfl,List.nodup_nil⟩
def SQ:TE:=λz H Q=>∀p,H p=Z->Q (.ref p) (upd H p (.dK []))
def SR:TE:=λz H Q=>∀p,H p=Z->Q (.ref p) (upd H p (.dT []))
section
variable{X:Cx}{ci:Pos}
def aew:PE X (.Dict [] [] ci) SQ:=λpins s σ H Q I h=>
 wpAny_Dict_empty ⟨.ref s.heap.objs.size,_,I.laid (a:=s.heap.objs.size) (o:=.dK []) (t':=s.toks) (λz z q=>di _ q) (aK _) (Fv s.heap I.big),rfl,h _ (I.hok.fresh (aK _))⟩
def aex:PE X (.Dict [] [] ci) SR:=λpins s σ H Q I h=>
 wpAny_Dict_empty ⟨.ref s.heap.objs.size,_,I.laid (a:=s.heap.objs.size) (o:=.dT []) (t':=s.toks) (λz z q=>di _ q) (aK _) (M4 s.heap I.big),rfl,h _ (I.hok.fresh (aK _))⟩
end
structure M2 (X:Cx)(o:Expr)(m:Str)(lv:Pos)(e f:Expr)(v4:Pos):Prop where
 base:nA o m X.env (eval o X.env)=eval o X.env
 cC:((iB v4 (cM [e,f] X.env)).all (λx=>!x.1)&&(xj v4 (xo [] X.env)).all (λx=>x.1.isSome)
   && decide (↑([e,f]:↥Expr)+↑([]:↥Keyword)+(if([]:↥Keyword).isEmpty then 0 else 1)<30))=true
 line:(lv.endLine==v4.line)=true
 trees:iB v4 (cM [e,f] X.env)=[(false,eval e X.env),(false,eval f X.env)]
def EC (H:Hp)(a:J):Prop:=(∃kvs,Rd H a (.dK kvs))\/∃kvs,Rd H a (.dT kvs)
def OQ {X:Cx}{pins:↥(J×Obj)}{σ:St}{H:Hp}{s:aj}{a:J}(I:Inv X pins σ H s)(d:EC H a) :
   s.TypeIs (.ref a) "dict"/\(∀b,bU a=.ref b->∃ob,s.heap.get? b=S ob/\ob.dict=Z)/\(a==mx)=false:=by
 rcases d with⟨kvs,e⟩|⟨kvs,e⟩
 . obtain⟨_,G,vs,_,dd⟩:=sZ I.hok e
   show⟨dd.typeIs,λb q=>?_,G⟩
   cases q
   obtain⟨ob,_,_,h1,h2,_⟩:=dd
   show⟨ob,h1,h2.2.1⟩
 . obtain⟨_,G,xs,_,dd⟩:=tj I.hok e
   show⟨dd.typeIs,λb q=>?_,G⟩
   cases q
   obtain⟨ob,_,_,h1,h2,_⟩:=dd
   show⟨ob,h1,h2.2.1⟩
section
variable{X:Cx}{pins:↥(J×Obj)}{σ:St}{H:Hp}{s:aj}{a:J}{y d:V}{u r:ae}{o:Option V}{A:bD}{E:ae->aj->Prop}
def Ws {Q:ae->aj->Prop}(hu:A.units+1<dC)(I:Inv X pins σ H s)(g:dN H a y o)(ry:RelV y u)(rd:RelV d r)(h:∀w' s',Inv X pins σ H s'->RelV (o.getD d) w'->Q w' s') :
   aD (aI X.prog X.w) A (call (.builtin "dict.get") [.ref a,u,r]) Q E s:=by
 rcases g with⟨kvs,k,e,G,l⟩|⟨kvs,k,b,e,G,eb,l⟩
 . subst G
   obtain⟨z,O,vs,wT,dd⟩:=sZ I.hok e
   show call_meetsIn Lm dd.typeIs UE (UD _ _ _) (meets_dict_get_default (eU X.prog X.w) a (pQ ry) O r) ⟨_,dd.mapOf,h _ _ (I.tok _) ?_⟩
   rw[l]
   show(wT.val k).getD rd
 . subst G
   cases(show u=bU b from ry)
   obtain⟨z,O,xs,wT,dd⟩:=tj I.hok e
   show call_meetsIn Lm dd.typeIs UE (UD _ _ _) (meetsH_dict_get_default (lJ (eU X.prog X.w)) a b O r) ⟨xt hu,k,xs,qY I.hok eb,dd,h _ _ (I.tok _) ?_⟩
   rw[l]
   show(wT.val k).getD rd
end
def SJ (td ty tx:TE):TE:=λσ H Q=>td σ H λx H1=>∃a,x=.ref a/\EC H1 a/\ty σ H1 λy H2=>tx σ H2 λz G=>∃o,dN G a y o/\Q (o.getD z) G
section
variable{X:Cx}{o e f:Expr}{lv v4:Pos}{td ty tx:TE}
def aeu (hu:X.A.units+1<dC)(ho:PE X o td)(he:PE X e ty)(hf:PE X f tx)(m:M2 X o "get" lv e f v4):PE X (.Call (.Attribute o "get" lv) [e,f] [] v4) (SJ td ty tx):=by
 intro pins s σ H Q I h
 show wpAny_Call_method m.base m.cC m.line UG Lm PySem.F.type_dict_get (aO (ho pins s σ H _ I h) λu s1 h9=>?_)
 obtain⟨x,H1,O,rx,a,ex,d,q1⟩:=h9
 subst ex
 obtain rfl:u=bU a:=rx
 obtain⟨t1,t2,_⟩:=OQ O d
 show⟨t1,t2,?_⟩
 rw[m.trees]
 show KR rfl (DL (uH (aO (he pins s1 σ H1 _ O q1) λiv s2 ⟨y,H2,I2,ry,q2⟩=>
   uH (aO (hf pins s2 σ H2 _ I2 q2) λfv s3 ⟨z,H3,I3,rz,ov,g,q3⟩=>zT ?_))))
 show Ws hu I3 g ry rz λw' s4 I4 G=>⟨_,H3,I4,G,q3⟩
end
section
variable{κ:Type}[DecidableEq κ]
def ahD {kvs:↥(κ×V)}{k:κ}(h:bu kvs k=Z):¬ k∈kvs.map (·.1):=by
 intro m
 obtain⟨p,G,e⟩:=List.mem_map.mp m
 have q:(kvs.any λI=>decide (I.1=k))=true:=List.any_eq_true.mpr ⟨p,G,bS e⟩
 rw[wN,h]at q
 show ao q (by simp)
theorem Py:∀{l:List κ} {k:κ},l.Nodup->¬ k∈l->(l++[k]).Nodup
 | [],k,_,_=>by simp
 | a::r,k,h,hk=>by
   obtain⟨h1,h2⟩:=List.nodup_cons.mp h
   change(a::(r++[k])).Nodup
   show List.nodup_cons.mpr ⟨λm=>?_,Py h2 λm=>hk (List.mem_cons.mpr (Or.inr m))⟩
   rcases List.mem_append.mp m with q|q
   . show h1 q
   . show hk (List.mem_cons.mpr (Or.inl (List.mem_singleton.mp q).symm))
end
def jw (f8:cG)(env:Env):↥(Str×J):=
 (f8.names.filterMap λ(p:Str×lq)=>if p.2==.free then(env.cells.lookup p.1).map λc=>(p.1,c)else Z).reverse
theorem MG (env:Env):∀(l:↥(Str×lq)) (v6:↥(Str×J)),(∀p∈l,p.2=.free->∃c,env.cells.lookup p.1=S c) ->
   (forIn l v6 λ(x:Str×lq) (r:↥(Str×J))=>if(x.2==iA)=true then do let c←cellOf env x.1;pure (wQ ((x.1,c)::r))else pure (wQ r):Sem (↥(Str×J))) =
     pure ((l.filterMap λ(p:Str×lq)=>if p.2==.free then(env.cells.lookup p.1).map λc=>(p.1,c)else Z).reverse++v6)
 | [],v6,_=>rfl
 | p::l,v6,h=>by
   have I:=λv6=>MG env l v6 λq hq=>h q (qt _ hq)
   rw[Ac]
   by_cases G:p.2=.free
   . obtain⟨c,hc⟩:=h p oK G
     have e:(p.2==iA)=true:=by rw[G];rfl
     rw[aB e]
     have O:cellOf env p.1=pure c:=by unfold cellOf;rw[hc]
     rw[O,uI,aB e,hc]
     change(forIn l ((p.1,c)::v6) _:Sem _)=_
     rw[I]
     simp
   . have e:¬ (p.2==iA)=true:=by intro z;show G (by simpa using z)
     rw[az e,uI,az e]
     change(forIn l v6 _:Sem _)=_
     rw[I]
def V6 {f8:cG}{env:Env}(h:∀p∈f8.names,p.2=.free->∃c,env.cells.lookup p.1=S c):closureFor f8 env=pure (jw f8 env):=by
 have e:=MG env f8.names [] h
 rw[jJ]at e
 change((forIn f8.names [] λ(x:Str×lq) (r:↥(Str×J))=>if(x.2==iA)=true then do let c←cellOf env x.1;pure (wQ ((x.1,c)::r))else pure (wQ r))>>=λG=>pure G:Sem (↥(Str×J)))=_
 rw[e]
 rfl
def Fp {f8:cG}{env:Env}{x:Str}{c:J}(h:(x,c)∈jw f8 env):(x,iA)∈f8.names/\env.cells.lookup x=S c:=by
 unfold jw at h
 obtain⟨p,G,e⟩:=List.mem_filterMap.mp (List.mem_reverse.mp h)
 obtain⟨n,k⟩:=p
 dsimp only at e
 by_cases hk:(k==iA)=true
 . rw[aB hk]at e
   have I:k=.free:=by simpa using hk
   subst I
   cases q:env.cells.lookup n with
   | none=>rw[q]at e;cases e
   | some O=>rw[q]at e;cases e;show⟨G,q⟩
 . rw[az hk]at e;cases e
def ME {f8:cG}{env:Env}{x:Str}{c:J}(I:(x,iA)∈f8.names)(hc:env.cells.lookup x=S c):(jw f8 env).lookup x=S c:=by
 have G:(x,c)∈jw f8 env:=by
   unfold jw
   show List.mem_reverse.mpr (List.mem_filterMap.mpr ⟨(x,.free),I,?_⟩)
   simp[hc]
 cases q:(jw f8 env).lookup x with
 | none=>
   have:=List.lookup_eq_none_iff.mp q (x,c) G
   simp at this
 | some O=>
   obtain⟨_,e⟩:=Fp (oP q)
   rw[hc]at e
   show e.symm
structure ki (sc:cG)(env:cG):Prop where
 kind:sc.kind=.function
 cell:∀y∈sc.names,y.2≠.cell
 names:∀x∈sc.names,x.2=.local->sc.names.lookup x.1=S .local
 free:∀x∈sc.names,x.2=.free->env.names.lookup x.1=S .cell\/env.names.lookup x.1=S .free
def jf (sc:cG)(ut:↥(Option Nat))(N' N:↥Str):Bool:=
 ↑ut==N'.length&&(ut.zip N').all λp=>match p.1 with
   | none=>true
   | some j=>N[j]?==S p.2&&sc.names.lookup p.2==S .free
def capσ (ut:↥(Option Nat))(σ:St):St:=ut.map λo=>match o with
 | none=>Z
 | some j=>match σ[j]? with
   | some v=>v
   | none=>Z
def VY {sc:cG}{N N':↥Str}{ut:↥(Option Nat)}(h:jf sc ut N' N=true){i:Nat}{x:Str}{j:Nat}(h1:ut[i]?=S (S j))(h2:N'[i]?=S x):N[j]?=S x/\sc.names.lookup x=S .free:=by
 unfold jf at h
 have h':=(j8 _ _▸h).2
 have hz:(ut.zip N')[i]?=S (S j,x):=by rw[Uz];show⟨h1,h2⟩
 have q:=List.all_eq_true.mp h' _ (bI hz)
 simpa using q
def VZ {sc:cG}{N N':↥Str}{ut:↥(Option Nat)}(h:jf sc ut N' N=true):↑ut=N'.length:=by
 unfold jf at h
 have h':=(j8 _ _▸h).1
 simpa using h'
def b8 (X:Cx)(N':↥Str)(sc:cG)(s:aj)(H:Hp)(C:J)(fp:↥J)(xe:ae->aj->Prop):Cx where
 prog:=X.prog
 w:=X.w
 K:=X.K
 mg:=X.mg
 base:=X.base
 A:=X.A
 N:=N'
 s₀:=s
 H₀:=H
 env:=rV sc (jw sc X.env) C X.env
 outer:=X.stack
 stack:=X.stack
 ex:=fp
 fn:=λz=>false
 calm:=X.calm
 pn:=[]
 xe:=xe
theorem QN {sc:cG}{env:Env}{x:Str}:∀{names:↥(Str×lq)},
   (names.map λ(p:Str×lq)=>if(p.2==iA&&env.scope.kind==.function&&env.kindOf p.1==S .cell)then(p.1,Li)else(p.1,p.2)).lookup x =
     (names.lookup x).map λk=>if(k==iA&&env.scope.kind==.function&&env.kindOf x==S .cell)then Li else k
 | []=>rfl
 | (n,k)::r=>by
   have G:=@QN sc env x r
   rw[jb]
   cases hx:x==n with
   | true=>
     have e:x=n:=by simpa using hx
     subst e
     by_cases hc:(k==iA&&env.scope.kind==.function&&env.kindOf x==S .cell)=true
     . simp only[hc,if_true,DY,hx,oN]
     . simp only[hc,if_false,DY,hx,oN,KJ]
   | false=>
     by_cases hc:(k==iA&&env.scope.kind==.function&&env.kindOf n==S .cell)=true
     . simp only[hc,if_true,DY,hx];show G
     . simp only[hc,if_false,DY,hx,KJ];show G
def MN {sc:cG}{env:Env}{G:↥(Str×J)}{C:J}(x:Str):(rV sc G C env).kindOf x =
   (sc.names.lookup x).map λk=>if(k==iA&&env.scope.kind==.function&&env.kindOf x==S .cell)then Li else k:=
 QN (sc:=sc) (env:=env)
section
variable{X:Cx}{pins:↥(J×Obj)}{σ:St}{H:Hp}{s:aj}{N':↥Str}{sc:cG}{ut:↥(Option Nat)}{fp:↥J}{xe:ae->aj->Prop}
def Wc (I:Inv X pins σ H s)(S8:ki sc X.env.scope)(hc:jf sc ut N' X.N=true)(hf:∀b∈fp,fC X pins H b)(ho:∀b∈fp,∃o,s.heap.get? b=S o){h₁:Heap}{tk:Nat}
   (hn:h₁.Ns s.heap.objs.size (λt=>Z)) (hk:∀b o,s.heap.get? b=S o->h₁.get? b=S o) :
   Inv (b8 X N' sc s H s.heap.objs.size fp xe) [] (capσ ut σ) H {s with heap:=h₁,toks:=tk}:=by
 have No:∀x c,(jw sc X.env).lookup x=S c->X.env.cells.lookup x=S c:=λx c e=>(Fp (oP e)).2
 have G:∀x,((rV sc (jw sc X.env) s.heap.objs.size X.env).kindOf x=S .cell\/(rV sc (jw sc X.env) s.heap.objs.size X.env).kindOf x=S .free)->(x,iA)∈sc.names:=λx hx=>by
   rw[MN]at hx
   cases q:sc.names.lookup x with
   | none=>rw[q]at hx;simp at hx
   | some k=>
     have hm:=oP q
     by_cases Gm:k=.free
     . subst Gm;show hm
     . have:(k==iA)=false:=by simpa using Gm
       have e2:(k==iA&&X.env.scope.kind==.function&&X.env.kindOf x==S .cell)=false:=by rw[this];rfl
       rw[q,oN,e2]at hx
       have qV:(S k:Option lq)=S .cell\/(S k:Option lq)=S .free:=hx
       rcases qV with hx|hx
       . show ao (dX hx) (S8.cell _ hm)
       . show ao (dX hx) Gm
 have has:∀x,(x,iA)∈sc.names->∃c,X.env.cells.lookup x=S c:=λx hm=>I.ok.has x (S8.free _ hm rfl)
 show⟨⟨I.ok.mod,S8.kind,I.ok.glob,I.ok.blt,aK _,λx y c h1 h2=>I.ok.inj x y c (No x c h1) (No y c h2),λx hx=>?_,λx c yk t=>?_,I.ok.hd,I.ok.frames,.inl rfl,λb hb=>⟨?_,λx c e=>?_⟩,I.bs,ck I.ok.bsz I.sz,λb o e hb=>?_,λb hb hs=>?_,I.stack,I.Kh⟩,
   rfl,I.bare,Un.kept hk,⟨_,hn,λi x v h1 h2 h3=>?_⟩,λx c e=>?_,I.hok.fresh (aK _),λx c e=>I.freeC x c (No x c e),λp hp=>ao (show p∈([]:↥(J×Obj))from hp) (by simp),I.hok.kept hk,?_⟩
 . obtain⟨c,e⟩:=has x (G x hx)
   show⟨c,ME (G x hx) e⟩
 . show ao (show false=true from yk) (by simp)
 . obtain⟨o,e⟩:=ho b hb
   show eV (bX e)
 . show(hf b hb).2.2.2.2.1 x c (No x c e)
 . rcases(hf b hb).2.2.2.1 with z|z
   . show I.ok.noex b o e z
   . show ao (gQ (bX e) (ck I.ok.bsz z)) (rP _)
 . rcases List.mem_cons.mp (I.Dh b hs)with z|z
   . show(hf b hb).2.1 z
   . show(hf b hb).2.2.1 z
 . -- a aiJ name
   have O:(capσ ut σ)[i]?=S (S v):=h2
   unfold capσ at O
   rw[eI]at O
   cases q:ut[i]? with
   | none=>rw[q]at O;cases O
   | some o=>
     rw[q]at O
     cases o with
     | none=>simp at O
     | some j=>
       obtain⟨hj,hfr⟩:=VY hc q h1
       have hσ:σ[j]?=S (S v):=by
         simp only[oN,Option.some.injEq]at O
         cases r:σ[j]? with
         | none=>rw[r]at O;cases O
         | some w=>rw[r]at O;rw[← O]
       have hm:=oP hfr
       have Ot:=S8.free _ hm rfl
       obtain⟨m,_,hl⟩:=I.loc
       obtain⟨u,ru,lk⟩:=hl j x v hj hσ (Or.inr Ot)
       show⟨u,ru,.inr ⟨?_,?_⟩⟩
       . change(rV sc (jw sc X.env) s.heap.objs.size X.env).kindOf x=S .cell\/(rV sc (jw sc X.env) s.heap.objs.size X.env).kindOf x=S .free
         rw[MN,hfr]
         by_cases z:(iA==iA&&X.env.scope.kind==.function&&X.env.kindOf x==S .cell)=true
         . show .inl (by simp only[oN,z,if_true])
         . show .inr (by simp only[oN,z,if_false,KJ])
       . rcases lk with⟨z,_⟩|⟨_,c,e,z⟩
         . have z':X.env.scope.names.lookup x=S .local:=z
           rcases Ot with y|y<;>(rw[z']at y;cases y)
         . obtain⟨oc,vP,hd⟩:=z
           show⟨c,ME hm e,oc,hk c oc vP,hd⟩
 . obtain⟨v,oc,vP,hd⟩:=I.cell x c (No x c e)
   show⟨v,oc,hk c oc vP,hd⟩
 . change(capσ ut σ).length=N'.length
   unfold capσ
   rw[aA]
   show VZ hc
def Wf {H':Hp}{σ':St}{s':aj}(I:Inv X pins σ H s)(hf:∀b∈fp,fC X pins H b)(G:Inv (b8 X N' sc s H s.heap.objs.size fp xe) [] σ' H' s'):Inv X pins σ H' s':=
 I.Mz G.os G.base G.hok G.bare λb hb=>⟨(hf b hb).2.2.2.1,(hf b hb).2.1,(hf b hb).2.2.2.2.1,(hf b hb).2.2.2.2.2⟩
def Wg {H':Hp}{σ':St}{s':aj}(G:Inv (b8 X N' sc s H s.heap.objs.size fp xe) [] σ' H' s'):∃m,s'.heap.Ns s.heap.objs.size m:=by obtain⟨m,I,_⟩:=G.loc;show⟨m,I⟩
def We {H1:Hp}{σ1:St}{G:aj}{h':Heap}(I:Inv X pins σ H s)(O:Inv X pins σ1 H1 G)(hn:H1 s.heap.objs.size=Z)(hs:lj s.heap.objs.size G.heap h'):Inv X pins σ1 H1 {G with heap:=h'}:=by
 obtain⟨f0,f1,f2,f3,f4,f5⟩:=I.nU (H':=H1) (aK _) hn
 show O.turned (t':=G.toks) (λb o hb e=>(hs.2 b hb).trans e) f0 f1 f3 f4 f5
end
def eJ:St->St->Prop
 | [],[]=>True
 | none::r,_::G=>eJ r G
 | some v::r,u::G=>u=S v/\eJ r G
 | _,_=>False
theorem eJ.len:∀{a b:St},eJ a b->↑a=↑b
 | [],[],_=>rfl
 | [],_::_,h=>h.elim
 | none::_,[],h=>h.elim
 | some _::_,[],h=>h.elim
 | none::r,_::G,h=>by
   have h':eJ r G:=h
   rw[gF,gF,h'.len]
 | some v::r,u::G,h=>by
   have h':u=S v/\eJ r G:=h
   rw[gF,gF,h'.2.len]
theorem eJ.get:∀{a b:St},eJ a b->∀(i:Nat) (v:V),a[i]?=S (S v)->b[i]?=S (S v)
 | [],[],_,i,v,e=>by simp at e
 | [],_::_,h,_,_,_=>h.elim
 | none::_,[],h,_,_,_=>h.elim
 | some _::_,[],h,_,_,_=>h.elim
 | none::r,_::G,h,0,v,e=>by simp at e
 | none::r,_::G,h,i+1,v,e=>by
   have h':eJ r G:=h
   simpa using h'.get i v (by simpa using e)
 | some w::r,u::G,h,0,v,e=>by
   have h':u=S w/\eJ r G:=h
   simp at e
   subst e
   simp[h'.1]
 | some w::r,u::G,h,i+1,v,e=>by
   have h':u=S w/\eJ r G:=h
   simpa using h'.2.get i v (by simpa using e)
def ko (X:Cx)(G:↥Expr)(t:TT):Prop:=
 ∀(pins:↥(J×Obj)) (s:aj) (σ:St) (H:Hp) (Q:Bool->Hp->Prop),Inv X pins σ H s->t σ H Q ->
   aD (aI X.prog X.w) X.A (forIn G true λc r=>if r=true then do let ok←isTrue c X.env (eval c X.env);pure (wQ ok)else pure (wQ r)) (TP X pins σ Q) X.xe s
def Dm:TT:=λz H Q=>Q true H
def ae8 {X:Cx}:ko X [] Dm:=λz z z H z I h=>wpAny_tests_nil ⟨H,I,h⟩
def ae9 {X:Cx}{c:Expr}{t:TT}(h:PT X c t):ko X [c] t:=λpins s σ H Q I q=>wpAny_tests_one (h pins s σ H Q I q)
abbrev TM:=St->Hp->(Hp->Prop)->Prop
def sJ (X:Cx)(m:Sem Unit)(t:TM):Prop:=
 ∀(pins:↥(J×Obj)) (s:aj) (σ:St) (H:Hp) (Q:Hp->Prop),Inv X pins σ H s->t σ H Q ->
   aD (aI X.prog X.w) X.A m (λz s'=>∃H',Inv X pins σ H' s'/\Q H') X.xe s
def Ds (tg:Expr)(ipos:Pos)(ifs:↥Expr)(it:ae)(env:Env)(cont:Sem Unit)(more:Sem Fin):Sem Fin:=do
 lH ipos
 match←lF it with
 | none=>pure (.done .next)
 | some v=>
   Ej tg it v
   assign tg env v
   let mut ok:=true
   for c in ifs do
     if ok then ok←isTrue c env (eval c env)
   if ok then cont
   more
def mn (J8:It)(σ0:St)(g:TG)(jp:TT)(tm:TM)(Z8:Hp->Prop)(H:Hp):Prop:=
 ∃W:Nat->Nat->Hp->Prop,(∃m,W 0 m H)/\∀i m H,W i m H->(J8.stop i H/\Z8 H) \/
   (J8.go i H/\∀x H',J8.yld i H x H'->g x σ0 H' λσ2 H2=>jp σ2 H2 λb I=>
     if b=true then tm σ2 I λO=>eJ σ0 σ2/\∃G,G<m/\W (i+1) G O else eJ σ0 σ2/\∃G,G<m/\W (i+1) G I)
section
variable{X:Cx}{e tg:Expr}{ipos:Pos}{ifs:↥Expr}{depth:Nat}{v6:ae}{cont:Sem Unit}{it:J}{fp:↥J}{tn:Nat->Heap->Prop}{J8:It}{g:TG}{jp:TT}{tm:TM}{σ0:St}{Z8:Hp->Prop}{R:oQ->aj->Prop}
def MO (hX:X.xe=uN (aI X.prog X.w) X.A X.env λe s'=>R (.error e) s')
   (heq:compTurn e depth (.ref it) v6 X.env=Ds tg ipos ifs (.ref it) X.env cont (again (.compLoop e depth (.ref it) v6 X.env)))
   (hq:(zU e depth (.ref it) v6 X.env).quiet=true) (hA:X.A.under (.compLoop e depth (.ref it) v6 X.env)=X.A) (hF:(zU e depth (.ref it) v6 X.env).isFrame=false)
   (hc:X.calm=true) (T:Turn X.prog X.w X.K tg J8 fp it tn) (hg:PG X tg g) (hif:ko X ifs jp) (hm:sJ X cont tm)
   {pins:↥(J×Obj)} {H:Hp} {s:aj} (hf:∀b∈fp,fC X pins H b) (I:Inv X pins σ0 H s) (st:tn 0 s.heap)
   (hZ:∀H' s',Inv X pins σ0 H' s'->(∀b∈fp,H' b=Z)->Z8 H'->R (.ok .next) s') (h:mn J8 σ0 g jp tm Z8 H) :
   hU (aI X.prog X.w) X.A (.compLoop e depth (.ref it) v6 X.env) R s:=by
 obtain⟨W,⟨m0,w0⟩,turn⟩:=h
 have G:∀{H':Hp},(∀b∈fp,H' b=Z)->∀b∈fp,fC X pins H' b:=λhn b hb=>⟨hn b hb,(hf b hb).2⟩
 show codeAny_loop hq (λn s'=>∃i H',Inv X pins σ0 H' s'/\tn i s'.heap/\(∀b∈fp,H' b=Z)/\W i n H') ?_ m0 ⟨0,H,I,st,λb hb=>(hf b hb).1,w0⟩
 rintro n s3 ⟨i,H3,I3,kW,qI,w3⟩
 rw[hA]
 have Y0:(aI X.prog X.w).den (.compLoop e depth (.ref it) v6 X.env)=(compTurn e depth (.ref it) v6 X.env).onRaise (λx=>do noteFrame x X.env;theTreesLotGoes x):=by
   change(if(zU e depth (.ref it) v6 X.env).isFrame then _ else _)=_
   rw[az (by rw[hF];decide)]
 rw[Y0]
 show wpAny_noted ?_
 rw[← hX,heq]
 unfold Ds
 show aq (qw ?_)
 have Ma:∀{σ7:St} {H7:Hp} {s5 s7:aj},tn (i+1) s5.heap->Inv X (pins++zm fp s5.heap) σ7 H7 s7->eJ σ0 σ7->(∃m',m'<n/\W (i+1) m' H7) ->
     ∃m,m<n/\∃i H',Inv X pins σ0 H' s7/\tn i s7.heap/\(∀b∈fp,H' b=Z)/\W i m H':=λ{σ7 H7 s5 s7} mj I7 k7 ⟨m',pL,w7⟩=>by
   show⟨m',pL,i+1,H7,I7.Dt.weak k7.len k7.get,T.keep _ _ _ mj λb hb o e=>(I7.pin (b,o) (oJ _ (oJ _ (B9 hb e)))).1,λb hb=>?_,w7⟩
   obtain⟨o,e,d⟩:=T.obj _ _ mj b hb
   show(I7.pin (b,o) (oJ _ (oJ _ (B9 hb e)))).2.1
 rcases turn i n H3 w3 with⟨stop,qn⟩|⟨go,step⟩
 . show aq (aO (T.done X rfl rfl rfl hc i pins s3 σ0 H3 X.xe I3 (G qI) kW stop) λr s4 O=>?_)
   obtain⟨hr,I4⟩:=O
   subst hr
   show aS (hZ H3 s4 I4 qI qn)
 . show aq (aO (T.item X rfl rfl rfl hc i pins s3 σ0 H3 X.xe I3 (G qI) kW go) λr s4 O=>?_)
   obtain⟨u,hr,h4⟩:=O
   subst hr
   show aq (aO h4 λz s5 O=>?_)
   obtain⟨x,H5,I5,r5,y5,mj,FL⟩:=O
   have Ey:=I5.pinned (G FL) (T.obj _ _ mj)
   show aq (aO (hg _ s5 σ0 H5 x u _ Ey r5 (step x H5 y5)) λz s6 O=>?_)
   obtain⟨σ6,H6,I6,q6⟩:=O
   show aq (aO (hif _ s6 σ6 H6 _ I6 q6) λb s7 O=>?_)
   obtain⟨H7,I7,q7⟩:=O
   cases b with
   | false=>
     obtain⟨k7,w7⟩:=q7
     show aS ⟨U,Ma mj I7 k7 w7⟩
   | true=>
     show aq (aO (hm _ s7 σ6 H7 _ I7 q7) λz s8 O=>?_)
     obtain⟨H8,I8,k8,w8⟩:=O
     show aS ⟨U,Ma mj I8 k8 w8⟩
end
structure uS (P:bo)(w:aY)(A:bD)(e:Expr)(tg iter:Expr)(ifs:↥Expr)(gs:↥Comprehension)(WF:J->Env->Sem Unit):Prop where
 cl:clausesOf e=⟨tg,iter,ifs,0⟩::gs
 turn:∀it D env,compTurn e 0 (.ref it) (.ref D) env=Ds tg iter.pos ifs (.ref it) env (WF D env) (again (.compLoop e 0 (.ref it) (.ref D) env))
 start:∀(R:oQ->aj->Prop) (s:aj) (it v6:ae) (env:Env),hU (aI P w) A (.compLoop e 0 it v6 env) R s ->
   aD (aI P w) A (pyIter it) (λyK s'=>hU (aI P w) A (.compLoop e 0 yK v6 env) R s') (uN (aI P w) A env λx s'=>R (.error x) s') s->hU (aI P w) A (.compStart e 0 it v6 env) R s
 quiet:∀it v6 env,(zU e 0 it v6 env).quiet=true
 under:∀it v6 env,A.under (.compLoop e 0 it v6 env)=A
 frame:∀it v6 env,(zU e 0 it v6 env).isFrame=false
def MD {P:bo}{w:aY}{A:bD}{xz tg iter:Expr}{ifs:↥Expr}{sc:cG}{ci:Pos} :
   uS P w A (.ListComp xz [⟨tg,iter,ifs,0⟩] sc ci) tg iter ifs [] (λD env=>do let _←call (.builtin "list.append") [.ref D,← eval xz env]) where
 cl:=rfl
 turn:=λit D env=>by rw[compTurn_list];rfl
 start:=λR s it v6 env h0 h=>codeAny_compStart_list h0 h
 quiet:=λz z z=>rfl
 under:=λz z z=>rfl
 frame:=λz z z=>rfl
def V3 {P:bo}{w:aY}{A:bD}{kx vx tg iter:Expr}{ifs:↥Expr}{sc:cG}{ci:Pos} :
   uS P w A (.DictComp kx vx [⟨tg,iter,ifs,0⟩] sc ci) tg iter ifs [] (λD env=>do
     let kv←eval kx env
     let vv←jr [kv] (eval vx env)
     lH {kx.pos with endLine:=vx.pos.endLine,endCol:=vx.pos.endCol}
     jr [kv,vv] (dictSet D kv vv)) where
 cl:=rfl
 turn:=λit D env=>by rw[compTurn_dict];rfl
 start:=λR s it v6 env h0 h=>codeAny_compStart_dict h0 h
 quiet:=λz z z=>rfl
 under:=λz z z=>rfl
 frame:=λz z z=>rfl
section
variable{X:Cx}{e tg iter:Expr}{ifs:↥Expr}{WF:J->Env->Sem Unit}{sc:cG}{ci:Pos}{wi:TI}{N':↥Str}{ut:↥(Option Nat)}{g:TG}{jp:TT}{tm:J->TM}{xL:Sem ae}{ob:Obj}{AC:HO}{gs:↥Comprehension}
def mZ (ut:↥(Option Nat))(AC:HO)(wi:TI)(g:TG)(jp:TT)(tm:J->TM):TE:=
 λσ H Q=>wi σ H λJ8 H1=>∀D,H1 D=Z->mn J8 (capσ ut σ) g jp (tm D) (λH'=>Q (.ref D) H') (upd H1 D AC)
structure xx (X:Cx)(xL:Sem ae)(ob:Obj)(AC:HO):Prop where
 new:∀(s:aj) (Q:ae->aj->Prop) (E:ae->aj->Prop),Q (.ref s.heap.objs.size) {s with heap:=s.heap.push ob}->aD (aI X.prog X.w) X.A xL Q E s
 live:ob.isFreed=false
 ok:∀(pins:↥(J×Obj)) (σ:St) (H:Hp) (s:aj),Inv X pins σ H s->dj X.prog X.w (upd H s.heap.objs.size AC) (s.heap.push ob) s.heap.objs.size AC
def MP {use:Option (ae->Sem Unit)}{Q':ae->aj->Prop}(K:uS X.prog X.w X.A e tg iter ifs gs WF)(hc:X.calm=true)(S8:ki sc X.env.scope)(wr:jf sc ut N' X.N=true)(hi:PI X tg iter wi)
   (hb:∀s H C fp xe D,PG (b8 X N' sc s H C fp xe) tg g/\ko (b8 X N' sc s H C fp xe) ifs jp/\sJ (b8 X N' sc s H C fp xe) (WF D (b8 X N' sc s H C fp xe).env) (tm D)) (N:xx X xL ob AC)
   (hs:∀x,jd iter X.env x=pure x)
   {pins:↥(J×Obj)} {s:aj} {σ:St} {H:Hp} {Q:VK} (I:Inv X pins σ H s) (h:mZ ut AC wi g jp tm σ H Q)
   (hQ:∀(C D:J) (H':Hp) (s':aj),Inv X pins σ H' s'->Q (.ref D) H'->H' C=Z->(∃m,s'.heap.Ns C m)->(∀(σ1:St) (H1:Hp) (s1:aj) (h':Heap),Inv X pins σ1 H1 s1->H1 C=Z->lj C s1.heap h'->Inv X pins σ1 H1 {s1 with heap:=h'}) ->
     (C≠X.env.locals/\∀x c,X.env.cells.lookup x=S c->c≠C)->compPost (aI X.prog X.w) X.A X.xe use Q' (.ref D) C (.ok .next) s') :
   aD (aI X.prog X.w) X.A (comprehension e sc X.env ci xL false (eval iter X.env) use) Q' X.xe s:=by
 show wpAny_comprehension_free (g:=⟨tg,iter,ifs,0⟩) (gs:=gs) K.cl hs (V6 λp hp hf=>I.ok.has p.1 (S8.free p hp hf)) S8.kind S8.names (aO (hi pins s σ H _ I h) λv s1 h1=>aO h1 λitv G h2=>?_)
 obtain⟨it,fp,tn,J8,H2,e1,I2,T,fY,f2,q2⟩:=h2
 subst e1
 show N.new G _ _ ?_
 have hD:H2 G.heap.objs.size=Z:=I2.hok.fresh (aK _)
 have By:∀b o,G.heap.get? b=S o->(G.heap.push ob).get? b=S o:=λb o e=>di _ e
 have I3:Inv X pins σ (upd H2 G.heap.objs.size AC) {G with heap:=G.heap.push ob}:=I2.laid (t':=G.toks) By (aK _) (N.ok pins σ H2 G I2)
 have kW:tn 0 (G.heap.push ob):=T.keep _ _ _ fY λb u o e=>By b o e
 have Ir:∀b∈fp,∃o,(G.heap.push ob).get? b=S o:=λb hb=>let⟨o,e,_⟩:=T.obj _ _ kW b hb;⟨o,e⟩
 have f3:∀b∈fp,fC X pins (upd H2 G.heap.objs.size AC) b:=λb hb=>by
   show⟨?_,(f2 b hb).2⟩
   obtain⟨o,e,_⟩:=T.obj _ _ fY b hb
   rw[aC (eV (bX e))]
   show(f2 b hb).1
 have qq:=q2 G.heap.objs.size hD
 generalize yG:({G with heap:=G.heap.push ob}:aj)=O at I3 ⊢
 have Y8:G.heap.push ob=O.heap:=by rw[← yG]
 rw[Y8]at kW Ir
 generalize G.heap.objs.size=D at I3 f3 qq hD ⊢
 show wpAny_newFunctionEnv S8.cell (by intro y hy;simp at hy) (λh₁ hns GJ=>?_) S8.kind
 have ZK:h₁.Ns O.heap.objs.size (λu=>Z):=hns
 have Oj:∀b o,O.heap.get? b=S o->h₁.get? b=S o:=λb o e=>GJ.extBut b o (eV (bX e)) (di _ e)
 let R:oQ->aj->Prop:=compPost (aI X.prog X.w) X.A X.xe use Q' (.ref D) O.heap.objs.size
 let X':Cx:=b8 X N' sc O (upd H2 D AC) O.heap.objs.size fp (uN (aI X.prog X.w) X.A (rV sc (jw sc X.env) O.heap.objs.size X.env) λe s'=>R (.error e) s')
 have I4:Inv X' [] (capσ ut σ) (upd H2 D AC) {O with heap:=h₁,toks:=O.toks+↑([]:↥(Str×ae))}:=Wc I3 S8 wr f3 Ir ZK Oj
 have rq:tn 0 h₁:=T.keep _ _ _ kW λb u o e=>Oj b o e
 obtain⟨hg,hif,hm⟩:=hb O (upd H2 D AC) O.heap.objs.size fp (uN (aI X.prog X.w) X.A (rV sc (jw sc X.env) O.heap.objs.size X.env) λe s'=>R (.error e) s') D
 have f4:∀b∈fp,fC X' [] (upd H2 D AC) b:=λb hb=>by
   obtain⟨g0,g1,g2,g3,g4,g5⟩:=f3 b hb
   show⟨g0,?_,?_,.inl hb,λx c e=>?_,λp hp=>ao (show p∈([]:↥(J×Obj))from hp) (by simp)⟩
   . obtain⟨o,e⟩:=Ir b hb
     show eV (bX e)
   . intro z
     rcases List.mem_cons.mp (I3.Dh b z)with y|y
     . show g1 y
     . show g2 y
   . show g4 x c (Fp (oP e)).2
 have Nm:fC X pins (upd H2 D AC) O.heap.objs.size:=I3.nU (aK _) (I3.hok.fresh (aK _))
 have loop:∀s4:aj,s4={O with heap:=h₁,toks:=O.toks+↑([]:↥(Str×ae))}->hU (aI X.prog X.w) X.A (.compLoop e 0 (.ref it) (.ref D) X'.env) R s4:=by
   rintro s4 rfl
   show MO (X:=X') (Z8:=λH'=>Q (.ref D) H') rfl (K.turn it D X'.env) (K.quiet _ _ _) (K.under _ _ _) (K.frame _ _ _) hc T hg hif hm f4 I4 rq (λH' s' I' u z=>?_) qq
   show hQ O.heap.objs.size D H' s' (Wf I3 f3 I') z I'.free (Wg I') (λσ1 H1 s1 h' I1 n1 GI=>We I3 I1 n1 GI) ⟨Nm.2.1,λx c e=>Nm.2.2.2.2.1 x c e⟩
 show K.start R _ (.ref it) (.ref D) X'.env (loop _ rfl) (T.self X.A 0 _ _ _ rq (loop _ rfl))
def Qg (K:uS X.prog X.w X.A e tg iter ifs gs WF)(hc:X.calm=true)(S8:ki sc X.env.scope)(O:jf sc ut N' X.N=true)(hi:PI X tg iter wi)
   (hb:∀s H C fp xe D,PG (b8 X N' sc s H C fp xe) tg g/\ko (b8 X N' sc s H C fp xe) ifs jp/\sJ (b8 X N' sc s H C fp xe) (WF D (b8 X N' sc s H C fp xe).env) (tm D)) (N:xx X xL ob AC)
   (hs:∀x,jd iter X.env x=pure x) (he:eval e X.env=comprehension e sc X.env ci xL false (eval iter X.env)):PE X e (mZ ut AC wi g jp tm):=by
 intro pins s σ H Q I h
 rw[he]
 show MP (use:=Z) (Q:=Q) K hc S8 O hi hb N hs I h λC D H' s' I' q hn ⟨m,hm⟩ G _=>⟨m,hm,λh' l9=>⟨.ref D,H',G σ H' s' h' I' hn l9,U,q⟩⟩
def Qo {i:Nat}{x:Str}{pi eB:Pos}(K:uS X.prog X.w X.A e tg iter ifs gs WF)(hc:X.calm=true)(S8:ki sc X.env.scope)(wr:jf sc ut N' X.N=true)(hi:PI X tg iter wi)
   (hb:∀s H C fp xe D,PG (b8 X N' sc s H C fp xe) tg g/\ko (b8 X N' sc s H C fp xe) ifs jp/\sJ (b8 X N' sc s H C fp xe) (WF D (b8 X N' sc s H C fp xe).env) (tm D)) (N:xx X xL ob AC)
   (hs:∀x,jd iter X.env x=pure x) (he:∀u,evalThenUse e X.env u=(do let _←comprehension e sc X.env ci xL false (eval iter X.env) (S u)))
   (hN:X.N.Nodup) (O:X.N[i]?=S x) (hx:Loc X.env.scope x) (hsw:lI e (S (.Name x pi)) eB.line X.env=pure true)
   (hf:X.fn x=true\/X.env.scope.names.lookup x=S .local:=by first|show .inl rfl|show .inr rfl|assumption) :
   PS X (.Assign [.Name x pi] e eB) (qg (mZ ut AC wi g jp tm) (gK i)):=by
 intro pins s σ H D0 I h
 rw[exec_Assign_Name_used x pi e eB hsw,he]
 show aq (qw (aq (aq (MP (use:=S (assign (.Name x pi) X.env)) (Q:=λv H'=>D0.nx (σ.set i (S v)) H') (Q':=λy s'=>aD _ _ _ _ _ s') K hc S8 wr hi hb N hs I h λC D H' s' I' q hn g8 G g9=>?_))))
 obtain⟨m,hm⟩:=g8
 obtain⟨Yi,hCc⟩:=g9
 show wpAny_assign_Name (Sj (v:=.ref D) I' hN O hx rfl (λs2 I2 Op=>?_) hf)
 obtain⟨a,GJ,ha⟩:=Op
 have pO:C≠a:=by
   rcases ha with z|z
   . rw[z];show Yi
   . show(hCc x a z).symm
 show⟨m,hm.sameBut GJ pO,λh' l9=>aS (aS ⟨_,H',G _ H' s2 h' I2 hn l9,q⟩)⟩
end
section
variable{X:Cx}{xz kx vx:Expr}{te tk tv:TE}
def cR (te:TE)(D:J):TM:=λσ H K=>te σ H λy H1=>∃ys,H1 D=S (.lst ys)/\↑ys<sizeLine/\K (upd H1 D (.lst (ys++[y])))
def IH (h:PE X xz te)(D:J):sJ X (do let _←call (.builtin "list.append") [.ref D,← eval xz X.env]) (cR te D):=by
 intro pins s σ H Q I q
 show aq (aO (h pins s σ H _ I q) λu O G=>?_)
 obtain⟨y,H1,I1,ru,ys,e,z,k⟩:=G
 show aq (aO (Pl pins O σ H1 (.ref D) [y] (.ref D) [u] (λx H'=>Q H') I1 rfl (.cons ru .nil) ⟨D,ys,y,U,U,e,z,k⟩) λr s2 G=>?_)
 obtain⟨v,H2,I2,_,k2⟩:=G
 show aS ⟨H2,I2,k2⟩
def Wr {pins:↥(J×Obj)}{σ:St}{H H':Hp}{s:aj}{a:J}{y v:V}{u r:ae}{A:bD}{E:ae->aj->Prop}{Q:Unit->aj->Prop}(hu:A.units+1<dC)(I:Inv X pins σ H s)(g:iD H a y v H')(ry:RelV y u)(rv:RelV v r)(h:∀s',Inv X pins σ H' s'->Q () s') :
   aD (aI X.prog X.w) A (dictSet a u r) Q E s:=by
 rcases g with⟨kvs,k,e,ey,l,eH⟩|⟨kvs,k,b,e,ey,eb,l,eH⟩
 . subst ey eH
   obtain⟨z,hd,vs,G,dd⟩:=Bh I.hok e
   have hz:↑vs<=sizeLine:=by rw[← G.length];show z
   have hl:↑(putK kvs k v)<=sizeLine:=by have:=pS kvs k v;lia
   show LG (hsz:=hz) (pQ ry) dd λh' O hs=>h _ ?_
   have he:∃q,h'.get? a=S q:=by obtain⟨q,_,_,hq,_⟩:=O;show⟨q,hq⟩
   show sY I (by rw[e];show bK) hs he (Bg hl hd (G.put k rv) O)
 . subst ey eH
   cases(show u=bU b from ry)
   obtain⟨z,hd,xs,G,dd⟩:=Fz I.hok e
   have hz:↑xs<=sizeLine:=by rw[← Paired.length G];show z
   have hl:↑(putK kvs k v)<=sizeLine:=by have:=pS kvs k v;lia
   have aac:(lJ (eU X.prog X.w)).room A:=show A.units<dC by lia
   show wpAny_dictSet_heap (hsz:=hz) aac (qY I.hok eb) dd λh' O hs=>h _ ?_
   obtain⟨q,es,ep,hq,h2,h3,h4,_,h5⟩:=O
   show sY I (by rw[e];show bK) hs ⟨q,hq⟩ ⟨hl,hd,_,(G.put k eb rv).keeps λc ys ec=>?_,q,es,ep,hq,h2,h3,h4,h5⟩
   rw[aC (i6 ec e (λz=>nomatch z))]
   show ec
def yP (tk tv:TE)(D:J):TM:=λσ H K=>tk σ H λy H1=>tv σ H1 λv H2=>∃G,iD H2 D y v G/\K G
def aff (hu:X.A.units+1<dC)(hk:PE X kx tk)(hv:PE X vx tv)(D:J):sJ X (do
     let G←eval kx X.env
     let vv←jr [G] (eval vx X.env)
     lH {kx.pos with endLine:=vx.pos.endLine,endCol:=vx.pos.endCol}
     jr [G,vv] (dictSet D G vv)) (yP tk tv D):=by
 intro pins s σ H Q I q
 show aq (aO (hk pins s σ H _ I q) λu s1 O=>?_)
 obtain⟨y,H1,I1,ru,q1⟩:=O
 show aq (hW (aO (hv pins s1 σ H1 _ I1 q1) λr s2 O=>?_))
 obtain⟨v,H2,I2,rv,H3,g,q2⟩:=O
 show aq (qw (hW (Wr hu I2 g ru rv λs3 I3=>⟨H3,I3,q2⟩)))
def Vo:xx X newDict {cls:=.type "dict",data:=.dict #[]} (.dT []) where
 new:=λs Q E h=>rY h
 live:=rfl
 ok:=λpins σ H s I=>M4 s.heap I.big
def E1:xx X (newList []) {cls:=.type "list",data:=.seq #[]} (.lst []) where
 new:=λs Q E h=>rY h
 live:=rfl
 ok:=λpins σ H s I=>⟨fL _,[],0,.nil,hG _ rfl⟩
end
section
variable{X:Cx}{xz kx vx tg iter:Expr}{ifs:↥Expr}{sc:cG}{ci:Pos}{wi:TI}{N':↥Str}{ut:↥(Option Nat)}{g:TG}{jp:TT}{te tk tv:TE}
def aeE (ut:↥(Option Nat))(N':↥Str)(hc:X.calm=true)(S8:ki sc X.env.scope)(G:jf sc ut N' X.N=true)(hi:PI X tg iter wi)
   (hb:∀s H C fp xe,PG (b8 X N' sc s H C fp xe) tg g/\ko (b8 X N' sc s H C fp xe) ifs jp/\PE (b8 X N' sc s H C fp xe) xz te)
   (I:∀x,jd iter X.env x=pure x:=by intro _;rfl):PE X (.ListComp xz [⟨tg,iter,ifs,0⟩] sc ci) (mZ ut (.lst []) wi g jp (cR te)):=
 Qg MD hc S8 G hi (λs H C fp xe D=>⟨(hb s H C fp xe).1,(hb s H C fp xe).2.1,IH (hb s H C fp xe).2.2 D⟩) E1 I rfl
def afr {i:Nat}{x:Str}{pi eB:Pos}(ut:↥(Option Nat))(N':↥Str)(hc:X.calm=true)(S8:ki sc X.env.scope)(O:jf sc ut N' X.N=true)(hi:PI X tg iter wi)
   (hb:∀s H C fp xe,PG (b8 X N' sc s H C fp xe) tg g/\ko (b8 X N' sc s H C fp xe) ifs jp/\PE (b8 X N' sc s H C fp xe) xz te)
   (hN:X.N.Nodup) (G:X.N[i]?=S x) (hx:Loc X.env.scope x) (I:lI (.ListComp xz [⟨tg,iter,ifs,0⟩] sc ci) (S (.Name x pi)) eB.line X.env=pure true:=by rfl)
   (hs:∀x,jd iter X.env x=pure x:=by intro _;rfl) (hf:X.fn x=true\/X.env.scope.names.lookup x=S .local:=by first|show .inl rfl|show .inr rfl|assumption) :
   PS X (.Assign [.Name x pi] (.ListComp xz [⟨tg,iter,ifs,0⟩] sc ci) eB) (qg (mZ ut (.lst []) wi g jp (cR te)) (gK i)):=
 Qo MD hc S8 O hi (λs H C fp xe D=>⟨(hb s H C fp xe).1,(hb s H C fp xe).2.1,IH (hb s H C fp xe).2.2 D⟩) E1 hs (λz=>rfl) hN G hx I hf
def aes (ut:↥(Option Nat))(N':↥Str)(hu:X.A.units+1<dC)(hc:X.calm=true)(S8:ki sc X.env.scope)(G:jf sc ut N' X.N=true)(hi:PI X tg iter wi)
   (hb:∀s H C fp xe,PG (b8 X N' sc s H C fp xe) tg g/\ko (b8 X N' sc s H C fp xe) ifs jp/\PE (b8 X N' sc s H C fp xe) kx tk/\PE (b8 X N' sc s H C fp xe) vx tv)
   (I:∀x,jd iter X.env x=pure x:=by intro _;rfl):PE X (.DictComp kx vx [⟨tg,iter,ifs,0⟩] sc ci) (mZ ut (.dT []) wi g jp (yP tk tv)):=
 Qg V3 hc S8 G hi (λs H C fp xe D=>⟨(hb s H C fp xe).1,(hb s H C fp xe).2.1,aff (X:=b8 X N' sc s H C fp xe) hu (hb s H C fp xe).2.2.1 (hb s H C fp xe).2.2.2 D⟩) Vo I rfl
end
section
variable{K:av}{a:J}{xs:↥V}{g:TG}{jp:TT}{tm:TM}{σ0:St}{Z8:Hp->Prop}{H:Hp}
def vh (n:Nat){J8:It}(Pv:Nat->Hp->Prop)(h0:Pv 0 H)(O:∀i H,i<n->Pv i H->J8.go i H)(hst:∀H,Pv n H->J8.stop n H)
   (G:∀i H,i<n->Pv i H->∀x H',J8.yld i H x H'->g x σ0 H' λσ2 H2=>jp σ2 H2 λb H3=>
     if b=true then tm σ2 H3 λH4=>eJ σ0 σ2/\∃I,I<n-i/\(I=n-(i+1)/\i+1<=n/\Pv (i+1) H4)else eJ σ0 σ2/\∃I,I<n-i/\(I=n-(i+1)/\i+1<=n/\Pv (i+1) H3))
   (hZ:∀H,Pv n H->Z8 H):mn J8 σ0 g jp tm Z8 H:=by
 show⟨λi m H=>m=n-i/\i<=n/\Pv i H,⟨n,by simp,fL _,h0⟩,?_⟩
 rintro i m H ⟨rfl,hi,p⟩
 by_cases cE:i<n
 . show .inr ⟨O i H cE p,G i H cE p⟩
 . have e:i=n:=⋯
   subst e
   show .inl ⟨hst H p,hZ H p⟩
def fT (Pv:Nat->Hp->Prop)(h0:Pv 0 H)(O:∀i H,i<=↑xs->Pv i H->af K H a xs)
   (G:∀i x H,xs[i]?=S x->Pv i H->g x σ0 H λσ2 H2=>jp σ2 H2 λb H3=>
     if b=true then tm σ2 H3 λH4=>eJ σ0 σ2/\∃I,I<↑xs-i/\(I=↑xs-(i+1)/\i+1<=↑xs/\Pv (i+1) H4)else eJ σ0 σ2/\∃I,I<↑xs-i/\(I=↑xs-(i+1)/\i+1<=↑xs/\Pv (i+1) H3))
   (hZ:∀H,Pv ↑xs H->Z8 H):mn (uX K a) σ0 g jp tm Z8 H:=by
 show vh ↑xs Pv h0 (λi H hi p=>⟨xs,xs[i],O i H (jq hi) p,by simp[hi]⟩) (λH p=>⟨xs,O _ H (aK _) p,aK _⟩) (λi H hi p x H' y=>?_) hZ
 obtain⟨e,y⟩:=y
 subst e
 show G i x _ (y xs (O i _ (jq hi) p)) p
def Wh (Pv:Nat->Hp->Prop)(h0:Pv 0 H)(O:∀i H,i<=↑xs->Pv i H->bQ K H a xs)
   (G:∀i x H,xs[i]?=S x->Pv i H->g x σ0 H λσ2 H2=>jp σ2 H2 λb H3=>
     if b=true then tm σ2 H3 λH4=>eJ σ0 σ2/\∃I,I<↑xs-i/\(I=↑xs-(i+1)/\i+1<=↑xs/\Pv (i+1) H4)else eJ σ0 σ2/\∃I,I<↑xs-i/\(I=↑xs-(i+1)/\i+1<=↑xs/\Pv (i+1) H3))
   (hZ:∀H,Pv ↑xs H->Z8 H):mn (uY K a) σ0 g jp tm Z8 H:=by
 show vh ↑xs Pv h0 (λi H hi p=>⟨xs,xs[i],O i H (jq hi) p,by simp[hi]⟩) (λH p=>⟨xs,O _ H (aK _) p,aK _⟩) (λi H hi p x H' y=>?_) hZ
 obtain⟨e,y⟩:=y
 subst e
 show G i x _ (y xs (O i _ (jq hi) p)) p
def vj {lo:Int}{n:Nat}(Pv:Nat->Hp->Prop)(h0:Pv 0 H)
   (G:∀i H,i<n->Pv i H->g (.int (lo+i)) σ0 H λσ2 H2=>jp σ2 H2 λb O=>
     if b=true then tm σ2 O λH4=>eJ σ0 σ2/\∃I,I<n-i/\(I=n-(i+1)/\i+1<=n/\Pv (i+1) H4)else eJ σ0 σ2/\∃I,I<n-i/\(I=n-(i+1)/\i+1<=n/\Pv (i+1) O))
   (hZ:∀H,Pv n H->Z8 H):mn (qy lo n) σ0 g jp tm Z8 H:=by
 show vh n Pv h0 (λi H hi p=>hi) (λH p=>aK _) (λi H hi p x H' y=>?_) hZ
 obtain⟨e,y⟩:=y
 subst e y
 show G i _ hi p
def cO {n i:Nat}{P:Prop}{Pv:Nat->Hp->Prop}{H:Hp}(k:P)(hi:i<n)(p:Pv (i+1) H):P/\∃G,G<n-i/\(G=n-(i+1)/\i+1<=n/\Pv (i+1) H):=⟨k,_,⋯,rfl,hi,p⟩
end
section
variable{X:Cx}{pins:↥(J×Obj)}{σ:St}{H:Hp}{s:aj}{h':Heap}{ch:↥J}{a:J}{o:HO}
def Inv.many {t':Nat}(I:Inv X pins σ H s)(G:∀b∈ch,fC X pins H b)(k:∀b ob,b∉ch->s.heap.get? b=S ob->h'.get? b=S ob)(hp:s.heap.objs.size<=a)(new:dj X.prog X.w (upd H a o) h' a o) :
   Inv X pins σ (upd H a o) {s with heap:=h',toks:=t'}:=by
 have O:H a=Z:=I.hok.fresh hp
 have na:∀b ob,s.heap.get? b=S ob->b≠a:=λb ob e=>eV (gQ (bX e) hp)
 have mX:∀b u,H b=S u->b∉ch:=λb u e z=>by rw[(G b z).1]at e;cases e
 show I.step (g':=s.gens) (d':=s.drawn) (ch:=ch) (λb hb=>⟨(G b hb).2.2.2.1,(G b hb).2.1,(G b hb).2.2.2.2.1,(G b hb).2.2.2.2.2⟩) (λb ob y y hc e y=>k b ob hc e) (λb ob y y hc e y=>⟨ob.slots,k b ob hc e⟩)
   (λb ob y e n=>by rw[aC (na b ob e)];show n) (λb ob hc e=>⟨ob,k b ob hc e⟩) (λb xs e=>by rw[aC (aR e O)];show e) (λb ob u e=>by rw[aC (aR e O)];show e)
   (λb ps e=>⟨#[],by rw[aC (aR e O),e];simp⟩) (λm hm=>?_) (λb u e=>?_) I.bare
 . obtain⟨ob,es,ep,ho,r⟩:=hm
   show⟨ob,es,ep,k _ ob (λz=>(G _ z).2.1 rfl) ho,r⟩
 . by_cases hb:b=a
   . subst hb;rw[ai]at e;cases e;show new
   . rw[aC hb]at e
     show(I.hok b u e).mm (λc v hc q=>k c v ?_ q) (λc q=>by rw[aC (aR q O)];show q) λc xs q=>by rw[aC (aR q O)];show q
     rcases hc with z|z
     . subst z;show mX c u e
     . show mX c _ z
def Inv.yQ {t':Nat}(I:Inv X pins σ H s)(G:∀b∈ch,fC X pins H b)(k:∀b ob,b∉ch->s.heap.get? b=S ob->h'.get? b=S ob) :
   Inv X pins σ H {s with heap:=h',toks:=t'}:=by
 have O:∀b u,H b=S u->b∉ch:=λb u e z=>by rw[(G b z).1]at e;cases e
 show I.step (g':=s.gens) (d':=s.drawn) (ch:=ch) (λb hb=>⟨(G b hb).2.2.2.1,(G b hb).2.1,(G b hb).2.2.2.2.1,(G b hb).2.2.2.2.2⟩) (λb ob y y hc e y=>k b ob hc e) (λb ob y y hc e y=>⟨ob.slots,k b ob hc e⟩)
   (λb ob y e n=>n) (λb ob hc e=>⟨ob,k b ob hc e⟩) (λb xs e=>e) (λb ob u e=>e)
   (λb ps e=>⟨#[],by rw[e];simp⟩) (λm hm=>?_) (λb u e=>?_) I.bare
 . obtain⟨ob,es,ep,ho,r⟩:=hm
   show⟨ob,es,ep,k _ ob (λz=>(G _ z).2.1 rfl) ho,r⟩
 . show(I.hok b u e).mm (λc v hc q=>k c v ?_ q) (λc q=>q) λc xs q=>q
   rcases hc with z|z
   . subst z;show O c u e
   . show O c _ z
end
def sr (K:av)(a b:J):It:=
 ⟨λi H=>∃xs ys x y,af K H a xs/\af K H b ys/\xs[i]?=S x/\ys[i]?=S y,
  λi H v H'=>∃p x y,H p=Z/\v=.ref p/\H'=upd H p (.tup [x,y])/\∀xs ys,af K H a xs->af K H b ys->xs[i]?=S x/\ys[i]?=S y,
  λi H=>∃xs ys,af K H a xs/\af K H b ys/\(↑xs<=i\/↑ys<=i)⟩
def ahr {P:bo}{w:aY}{K:av}{AT:↥Expr}{x1:Nat}{tp:Pos}{a b z TI TO i1 i2:J}(D:rS z TI TO i1 i2 a b) :
   Turn P w K (.Tuple AT x1 tp) (sr K a b) [z,TI,TO,i1,i2] z (λi h=>mv h z TI TO .none/\ja h TI (.ref i1) (.ref i2)/\(∃x y,ja h TO x y)/\h.IsListIter i1 a i/\h.IsListIter i2 b i) where
 mem:=by simp
 obj:=λi h st c hc=>by
   obtain⟨hz,Tk,⟨x,y,kG⟩,⟨o1,e1,c1,d1⟩,⟨o2,e2,c2,d2⟩⟩:=st
   simp only[fz,fA,or_false]at hc
   rcases hc with rfl|rfl|rfl|rfl|rfl
   . show⟨_,hz,λv q=>nomatch q⟩
   . show⟨_,Tk,λv q=>nomatch q⟩
   . show⟨_,kG,λv q=>nomatch q⟩
   . show⟨_,e1,λv q=>by rw[d1]at q;cases q⟩
   . show⟨_,e2,λv q=>by rw[d2]at q;cases q⟩
 keep:=λi h h' st k=>by
   obtain⟨hz,Tk,⟨x,y,kG⟩,h1,h2⟩:=st
   show⟨k z (by simp) _ hz,k TI (by simp) _ Tk,⟨x,y,k TO (by simp) _ kG⟩,h1.at λo e=>k i1 (by simp) o e,h2.at λo e=>k i2 (by simp) o e⟩
 item:=by
   intro X hP hw hK hc i pins s σ H E I hf st hg
   subst hP hw hK
   obtain⟨xs,ys,x,y,eS,iW,hx,hy⟩:=hg
   obtain⟨oi,gO,p1,_⟩:=I.list eS
   obtain⟨jY,kU,p2,_⟩:=I.list iW
   obtain⟨u,hu,ru⟩:=gO.get hx
   obtain⟨v,hv,rv⟩:=kU.get hy
   obtain⟨hz,Tk,⟨x0,y0,kG⟩,h1,h2⟩:=st
   show wpAny_pyNext_zip_item D hz Tk kG h1 h2 p1.isList p2.isList (x:=u) (y:=v) (by simpa using hu) (by simpa using hv) λh' a1 a2 a3 a4 a5 a6 hk=>aa U (US (s:={s with heap:=h'}) a1 λiU hz' l9=>?_)
   have hT:H s.heap.objs.size=Z:=I.hok.fresh (aK _)
   have O8:z<s.heap.objs.size:=bX hz
   have kk:∀c o,c∉([z,TO,i1,i2]:↥J)->s.heap.get? c=S o->iU.get? c=S o:=λc o eZ e=>by
     simp only[fz,fA,or_false,not_or]at eZ
     show l9.extBut _ _ eZ.1 (hk c o eZ.1 eZ.2.1 eZ.2.2.1 eZ.2.2.2 e)
   have Ym:ja iU s.heap.objs.size u v:=l9.extBut _ _ (xf O8) a5
   have I1:Inv X pins σ (upd H s.heap.objs.size (.tup [x,y])) {s with heap:=iU,toks:=s.toks}:=I.many (ch:=[z,TO,i1,i2]) (λc eZ=>hf c (by simp only[fz,fA,or_false]at eZ ⊢;rcases eZ with r|r|r|r<;>simp[r])) kk (aK _)
     ⟨by change 2<=sizeLine;decide,[u,v],.cons ru (.cons rv .nil),_,Ym,rfl,_,rfl⟩
   show⟨.ref s.heap.objs.size,_,I1,U,⟨_,x,y,hT,U,U,λrG zR q1 q2=>?_⟩,?_,λc eZ=>?_⟩
   . rw[I.tZ q1 eS,I.tZ q2 iW];show⟨hx,hy⟩
   . show⟨hz',l9.extBut _ _ D.TIz (hk _ _ D.TIz D.TITO D.TIi1 D.TIi2 Tk),⟨_,_,l9.extBut _ _ D.TOz a2⟩,a3.extBut l9.extBut D.i1z,a4.extBut l9.extBut D.i2z⟩
   . have lt:c<s.heap.objs.size:=by
       simp only[fz,fA,or_false]at eZ
       rcases eZ with rfl|rfl|rfl|rfl|rfl
       . show O8
       . show bX Tk
       . show bX kG
       . obtain⟨_,e,_⟩:=h1;show bX e
       . obtain⟨_,e,_⟩:=h2;show bX e
     rw[aC (eV lt)]
     show(hf c eZ).1
 done:=by
   intro X hP hw hK hc i pins s σ H E I hf st hg
   subst hP hw hK
   obtain⟨xs,ys,eS,iW,hend⟩:=hg
   obtain⟨oi,gO,p1,_⟩:=I.list eS
   obtain⟨jY,kU,p2,_⟩:=I.list iW
   have l1:=↑gO
   have l2:=↑kU
   obtain⟨hz,Tk,⟨x0,y0,kG⟩,h1,h2⟩:=st
   show wpAny_pyNext_zip_end (I.ok.hd hc) D hz Tk kG h1 h2 p1.isList p2.isList ?_ λh' hk=>⟨U,?_⟩
   . rcases hend with q|q
     . show .inl (by simp;lia)
     . show .inr (by simp;lia)
   . show I.yQ (t':=s.toks) (ch:=[z,TO,i1,i2]) (λc eZ=>hf c (by simp only[fz,fA,or_false]at eZ ⊢;rcases eZ with r|r|r|r<;>simp[r])) λc o eZ e=>by
       simp only[fz,fA,or_false,not_or]at eZ
       show hk c o eZ.1 eZ.2.1 eZ.2.2.1 eZ.2.2.2 e
 self:=λt t t t t st h=>AE st.1 h
def G5 (K:av)(ta:TA):TI:=λσ H R=>ta σ H λvs H1=>∃a b,vs=[.ref a,.ref b]/\(∃xs,af K H1 a xs)/\(∃ys,af K H1 b ys)/\R (sr K a b) H1
section
variable{X:Cx}
def ae5 {a b:Expr}{ta:TA}{p ci tp:Pos}{AT:↥Expr}{x1:Nat}(hg:Gl X "zip")(hm:X.mg "zip"=Z)(ha:PA X [a,b] ta)(hs:cM [a,b] X.env=[(false,eval a X.env),(false,eval b X.env)]:=by rfl)(PP:cM [b] X.env=[(false,eval b X.env)]:=by rfl)
   (hb:jc "zip"=S (.type "zip"):=by first|rfl|decide +kernel) :
   PI X (.Tuple AT x1 tp) (.Call (.Name "zip" p) [a,b] [] ci) (G5 X.K ta):=by
 intro pins s σ H R I h
 show Call_ (md I hg hm hb (oO (aO (ha ci pins s σ H _ I h) λus G h9=>?_) (by rw[hs,PP]) (by rw[PP];rfl)))
 obtain⟨vs,H1,O,r1,q1⟩:=h9
 obtain⟨l1,l2,e,⟨xs,eS⟩,⟨ys,iW⟩,q⟩:=q1
 subst e
 obtain⟨u,v,rfl,ru,rv⟩:=Vals.two r1
 obtain rfl:u=bU l1:=ru
 obtain rfl:v=bU l2:=rv
 obtain⟨oi,gO,p1,_⟩:=O.list eS
 obtain⟨jY,kU,p2,_⟩:=O.list iW
 have yM:l1<G.heap.objs.size:=by obtain⟨_,_,e,_⟩:=p1;show bX e
 have yN:l2<G.heap.objs.size:=by obtain⟨_,_,e,_⟩:=p2;show bX e
 show call_zip_2 p1.isList p2.isList λh' hz Tk kG lU kJ hsz hk=>AE hz ?_
 have I2:Inv X pins σ H1 {G with heap:=h'}:=O.kept (t':=G.toks) hk
 have D:=zipApart_new yM yN
 show⟨_,_,_,_,H1,U,I2,ahr D,⟨hz,Tk,⟨_,_,kG⟩,lU,kJ⟩,λc hc=>?_,q⟩
 simp only[fz,fA,or_false]at hc
 have up:∀k,fC X pins H1 (G.heap.objs.size+k):=λk=>O.nU (rO _ _) (O.hok.fresh (rO _ _))
 rcases hc with rfl|rfl|rfl|rfl|rfl
 . show up 4
 . show up 2
 . show up 3
 . show up 0
 . show up 1
end
section
variable{K:av}{a b:J}{xs ys:↥V}{g:TG}
def FK {tb:TS}{D:Ends}{σ:St}{H:Hp}(mo:↑xs=↑ys)(Pv:Nat->St->Hp->Prop)(h0:Pv 0 σ H)(hl:∀i σ H,i<=↑xs->Pv i σ H->af K H a xs/\af K H b ys)
   (hs:∀i x y p σ H,xs[i]?=S x->ys[i]?=S y->Pv i σ H->H p=Z->g (.ref p) σ (upd H p (.tup [x,y])) λσ2 H2=>tb {D with nx:=Pv (i+1),ct:=Pv (i+1),bk:=D.nx} σ2 H2) (hd:∀σ H,Pv ↑xs σ H->D.nx σ H) :
   ∃W:Nat->Nat->St->Hp->Prop,(∃m,W 0 m σ H)/\∀i m σ H,W i m σ H ->
     ((sr K a b).stop i H/\D.nx σ H)\/((sr K a b).go i H/\∃N:St->Hp->Prop,(∀σ' H',N σ' H'->∃m',m'<m/\W (i+1) m' σ' H')/\∀x H',(sr K a b).yld i H x H'->g x σ H' λσ2 H2=>tb {D with nx:=N,ct:=N,bk:=D.nx} σ2 H2):=by
 show⟨λi m σ H=>m=↑xs-i/\i<=↑xs/\Pv i σ H,⟨↑xs,by simp,fL _,h0⟩,?_⟩
 rintro i m σ H ⟨rfl,hi,p⟩
 obtain⟨I,O⟩:=hl i σ H hi p
 by_cases G:i<↑xs
 . show .inr ⟨⟨xs,ys,xs[i],ys[i]'(mo▸G),I,O,by simp[G],by simp[mo▸G]⟩,Pv (i+1),λσ' H' p'=>⟨↑xs-(i+1),⋯,U,G,p'⟩,λx H' y=>?_⟩
   obtain⟨pp,x1,y1,hn,rfl,rfl,k⟩:=y
   obtain⟨k1,k2⟩:=k xs ys I O
   show hs i x1 y1 pp σ H k1 k2 p hn
 . have e:i=↑xs:=⋯
   subst e
   show .inl ⟨⟨xs,ys,I,O,.inl (aK _)⟩,hd σ H p⟩
def Be {jp:TT}{tm:TM}{σ0:St}{Z8:Hp->Prop}{H:Hp}(mo:↑xs=↑ys)(Pv:Nat->Hp->Prop)(h0:Pv 0 H)(G:∀i H,i<=↑xs->Pv i H->af K H a xs/\af K H b ys)
   (I:∀i x y p H,xs[i]?=S x->ys[i]?=S y->Pv i H->H p=Z->g (.ref p) σ0 (upd H p (.tup [x,y])) λσ2 H2=>jp σ2 H2 λb H3=>
     if b=true then tm σ2 H3 λH4=>eJ σ0 σ2/\∃O,O<↑xs-i/\(O=↑xs-(i+1)/\i+1<=↑xs/\Pv (i+1) H4)else eJ σ0 σ2/\∃O,O<↑xs-i/\(O=↑xs-(i+1)/\i+1<=↑xs/\Pv (i+1) H3))
   (hZ:∀H,Pv ↑xs H->Z8 H):mn (sr K a b) σ0 g jp tm Z8 H:=by
 show vh ↑xs Pv h0 (λi H hi p=>⟨xs,ys,xs[i],ys[i]'(mo▸hi),(G i H (jq hi) p).1,(G i H (jq hi) p).2,by simp[hi],by simp[mo▸hi]⟩) (λH p=>⟨xs,ys,(G _ H (aK _) p).1,(G _ H (aK _) p).2,.inl (aK _)⟩) (λi H hi p x H' y=>?_) hZ
 obtain⟨pp,x1,y1,hn,rfl,rfl,k⟩:=y
 obtain⟨k1,k2⟩:=k xs ys (G i H (jq hi) p).1 (G i H (jq hi) p).2
 show I i x1 y1 pp H k1 k2 p hn
end
end L2
namespace PySem
def aa1:Aw (.type "list") "keys"=pure Z:=by rw[LF,Lz];kernel_rfl
section
variable{prog:bo}{w:aY}{A:bD}{E:ae->aj->Prop}{s:aj}
def aaZ {a:J}{xs:Array ae}{k:Nat}{u:Tok}{Q:ae->aj->Prop}(hx:s.heap.get? a=S {cls:=.type "list",data:=.seq xs k})(hA:A.handled=Z)
   (h:∀h' tk e,Heap.NewAttrErr s.heap h' e (.ref a) "keys"->E (.ref e) {s with heap:=h',toks:=tk}) :
   aD (aI prog w) A (Au (.ref a) (.str "keys" u) false) Q E s:=by
 obtain⟨hp,g,d,tk,os⟩:=s
 have G:∀I,(⟨hp,g,d,I,os⟩ : aj).TypeIs (.ref a) "list":=λz=>⟨_,hx,rfl⟩
 have f1:=Ek
 have f3:=F.slot_list_getattribute.lookup
 have f4:=F.slot_list_getattribute.bind (.ref a)
 have f5:=am_list_getattr_none
 unfold Au
 repeat (any_goals (first|assumption|show G _|((with_reducible change aD _ _ (call (Ee "list.__getattribute__") _ _) _ _ _);show rT F.slot_list_getattribute (G _) am_entry_list_getattribute (F.args_list_getattribute_2 _ _) (meets_getattribute_miss_list a xs k #[] "keys" _ aa1 (by right)) ⟨hx,hA,λh' I e O=>?_⟩)|wp_step))
 obtain⟨t',u',he⟩:=O.there
 change aD _ _ (Ei _ _ _ _ _ _ _) _ _ _
 unfold Ei
 repeat (any_goals (first|assumption|wp_step))
 show h _ _ _ O
def aa0 {a:J}{xs:Array ae}{k:Nat}{Q:Option ae->aj->Prop}(hx:s.heap.get? a=S {cls:=.type "list",data:=.seq xs k})(I:A.handled=Z)
   (h:∀h' tk,(∀b o,s.heap.get? b=S o->h'.get? b=S o)->Q Z {s with heap:=h',toks:=tk}):aD (aI prog w) A (xm (.ref a) "keys") Q E s:=by
 unfold xm getAttrBy?
 show aq (wpAny_mkText (aq (rX (aaZ hx I λh' tk e G=>?_))))
 obtain⟨t',u',O⟩:=G.there
 show aq (Eo (T:="AttributeError") (b:=true) ⟨_,O,U⟩ Ek (aS (h h' _ G.keeps)))
def OY {t:J}{vs:Array ae}{Q:↥ae->aj->Prop}(G:s.heap.IsTuple t vs)(h:Q vs.toList s):aD (aI prog w) A (Uj (.ref t)) Q E s:=by
 obtain⟨o,I,hc,n,O⟩:=G
 unfold Uj
 show aq (Er (T:="tuple") ⟨o,I,hc⟩ ?_)
 rw[aB ∅]
 show aq ?_
 obtain⟨hp,g,d,tk,os⟩:=s
 unfold seqItems?
 repeat (any_goals (first|assumption|wp_step))
 all_goals (first|(rw[O];repeat (any_goals (first|assumption|wp_step)))|skip)
end
end PySem
namespace L2
open PySem PySem.Spec PyProof.Rows
section
variable{X:Cx}
def OX:entryFor table "dict.update.loop"=S gZ.«dict.update.loop»:=entryFor_of_tree (by kernel_rfl)
def EJ (H:Hp)(t:V)(G:Key×V):Prop:=∃a,t=.ref a/\H a=S (.tup [kV G.1,G.2])
def putAll (d:↥(Key×V))(kvs:↥(Key×V)):↥(Key×V):=kvs.foldl (λd p=>putK d p.1 p.2) d
def ahB {pins:↥(J×Obj)}{σ:St}{A:bD}{D l it:J}{xs:↥V}(hh:A.handled=Z) :
   ∀(n i:Nat) (j:Int) (t:Tok) (kvs d:↥(Key×V)) (H:Hp) (s:aj) (R:oQ->aj->Prop),↑xs-i=n->i<=↑xs->Inv X pins σ H s->H D=S (.dK d)->↑d+n<=sizeLine->af X.K H l xs->fC X pins H it->s.heap.IsListIter it l i ->
     Paired (EJ H) (xs.drop i) kvs->(∀s',Inv X pins σ (upd H D (.dK (putAll d kvs))) s'->R (.ok (.ret .none)) s') ->
     hU (aI X.prog X.w) A (.builtin "dict.update.loop" ⟨[.ref D,.ref it,.int j t,.none],[]⟩) R s:=by
 intro n
 induction n using Nat.strongRecOn with
 | _ n ih=>
   intro i j t kvs d H s R hn hi I O hz hq hf hit hp hR
   obtain⟨dL,rv,p,_⟩:=I.list hq
   have hl:=↑rv
   obtain⟨f0,f1,f2,f3,f4,f5⟩:=id hf
   show LB OX ?_
   have hA:(A.under (.builtin "dict.update.loop" ⟨[.ref D,.ref it,.int j t,.none],[]⟩)).handled=Z:=by rw[show(A.under (.builtin "dict.update.loop" ⟨[.ref D,.ref it,.int j t,.none],[]⟩)).handled=A.handled from rfl];show hh
   generalize A.under (.builtin "dict.update.loop" ⟨[.ref D,.ref it,.int j t,.none],[]⟩)=A' at hA ⊢
   unfold gZ.«dict.update.loop»
   change aD _ _ (lF (.ref it)>>=_) _ _ _
   cases hx:xs[i]? with
   | none=>
     have Gg:↑xs<=i:=List.getElem?_eq_none_iff.mp hx
     show aq (wpAny_pyNext_list_end hA hit p.isList (by simp;lia) λh' eb=>?_)
     have I1:Inv X pins σ H {s with heap:=h'}:=I.turned (t':=s.toks) (λb o hb e=>eb b o hb e) f0 f1 f3 f4 f5
     have Gb:xs.drop i=[]:=Uu Gg
     rw[Gb]at hp
     cases hp
     have e:upd H D (.dK (putAll d []))=H:=by
       funext b
       unfold upd
       split
       . rename_i hb;rw[hb,O];rfl
       . rfl
     rw[e]at hR
     change aD _ _ (Ui D []>>=_) _ _ _
     show aq (aS (aS (hR _ I1)))
   | some x=>
     have cE:i<↑xs:=(List.getElem?_eq_some_iff.mp hx).1
     obtain⟨u,hu,ru⟩:=rv.get hx
     have Gb:xs.drop i=x::xs.drop (i+1):=by
       have e:xs[i]=x:=(List.getElem?_eq_some_iff.mp hx).2
       rw[KZ cE,e]
     rw[Gb]at hp
     cases hp with
     | @cons _ G _ r vJ qS=>
       obtain⟨ta,rfl,qU⟩:=vJ
       obtain rfl:u=bU ta:=ru
       show aq (wpAny_pyNext_list_item hit p.isList (x:=.ref ta) (by simpa using hu) λh' Zg sb=>?_)
       have I1:Inv X pins σ H {s with heap:=h'}:=I.turned (t':=s.toks) (λb o hb e=>(sb.2 b hb).trans e) f0 f1 f3 f4 f5
       obtain⟨jY,kU,p2,_⟩:=I1.tuple (bQ.of qU)
       obtain⟨w1,w2,rfl,r1,r2⟩:=Vals.two kU
       show aq (hW ?_)
       show aq (wpAny_tryCatch (OY (show({s with heap:=h'}:aj).heap.IsTuple ta #[w1,w2]from(show IsTup h' ta #[w1,w2]by simpa using p2)) ?_))
       change aD _ _ (jr [w1,w2] (dictSet D w1 w2)) _ _ _
       obtain⟨z,iV,vs,wT,dd⟩:=Bh I1.hok O
       have G2:↑vs<=sizeLine:=by rw[← ↑wT];show z
       have ZA:↑(putK d G.1 G.2)<=↑d+1:=pS d G.1 G.2
       have yp:n=↑xs-(i+1)+1:=⋯
       show hW (LG (hsz:=G2) (pQ r1) dd λh2 gW PP=>?_)
       have he:∃q,h2.get? D=S q:=by obtain⟨q,_,_,hq,_⟩:=gW;show⟨q,hq⟩
       have NT:D≠it:=λz=>by rw[z,f0]at O;cases O
       have Zz:af X.K (upd H D (.dK (putK d G.1 G.2))) l xs:=by
         rcases hq with(q|⟨o,q⟩)|q
         . show .inl (.inl (by rw[aC (i6 q O (λz=>nomatch z))];show q))
         . show .inl (.inr ⟨o,by rw[aC (i6 q O (λz=>nomatch z))];show q⟩)
         . show .inr q
       show aS ⟨zV _ (by right),ih (↑xs-(i+1)) ⋯ (i+1) _ _ r (putK d G.1 G.2) (upd H D (.dK (putK d G.1 G.2))) _ R rfl cE (sY (t':=_) I1 (by rw[O];show bK) PP he (Bg ⋯ iV (wT.put G.1 r2) gW)) ai ⋯ Zz ⟨by rw[aC NT.symm];show f0,hf.2⟩ (Zg.extBut PP.extBut NT.symm) ?_ ?_⟩
       . show Paired.bc qS λa b ⟨c,e1,e2⟩=>⟨c,e1,by rw[aC (i6 e2 O (λz=>nomatch z))];show e2⟩
       . intro s' I'
         rw[kZ]at I'
         show hR s' I'
def Qz (K:av):↥V->Hp->VK->Prop:=λvs H Q=>∃l xs kvs,vs=[.ref l]/\H l=S (.lst xs)/\Paired (EJ H) xs kvs/\∀D,H D=Z->Q (.ref D) (upd H D (.dK (putAll [] kvs)))
def VP (hc:X.calm=true):jO X (.type "dict") (Qz X.K):=by
 intro pins s σ H vs us Q I r h
 obtain⟨l,xs,kvs,rfl,hl,hp,q⟩:=h
 obtain⟨u,rfl,ru⟩:=vals1 r
 obtain rfl:u=bU l:=ru
 have hh:X.A.handled=Z:=I.ok.hd hc
 have G:H s.heap.objs.size=Z:=I.hok.fresh (aK _)
 have O:Inv X pins σ (upd H s.heap.objs.size (.dK [])) {s with heap:=s.heap.push {cls:=.type "dict",data:=.dict #[]} }:=I.laid (t':=s.toks) (λy y e=>di _ e) (aK _) (Fv s.heap I.big)
 show callType_codes (Q₁:=λobj s₁=>obj=.ref s.heap.objs.size/\s₁={s with heap:=s.heap.push {cls:=.type "dict",data:=.dict #[]} }) F.kt_called_dict (F.kt_typeCall_dict_1 _) F.entry_dict_init (kt_code_dict_new _ ⟨U,U⟩) ?_
 rintro obj s₁ ⟨rfl,rfl⟩
 have qP:(s.heap.push {cls:=.type "dict",data:=.dict #[]}).DictOf (eU X.prog X.w) s.heap.objs.size []:=Heap.DictOf.new s.heap
 generalize GI:({s with heap:=s.heap.push {cls:=.type "dict",data:=.dict #[]} }:aj)=s1 at O ⊢
 have Gq:s1.heap.DictOf (eU X.prog X.w) s.heap.objs.size []:=by rw[← GI];show qP
 generalize s.heap.objs.size=D at G O Gq ⊢
 have EQ:(upd H D (.dK [])) l=S (.lst xs):=by rw[aC (aR hl G)];show hl
 show⟨Gq.typeIs,F.args_dict_init_2 _ _,?_⟩
 unfold gZ.«dict.__init__»
 show aq ?_
 unfold Uk
 show aq (LJ Gq.typeIs ?_)
 change aD _ _ (pure (D,[bU l])) _ _ _
 show aS ?_
 change aD _ _ (DG "dict.__init__" D (.ref l) [] .none) _ _ _
 unfold DG
 obtain⟨z,dL,n,rv,e⟩:=(show dj X.prog X.w _ s1.heap l (.lst xs)from O.hok l _ EQ)
 show aq (Er (T:="list") ⟨_,e,U⟩ ?_)
 rw[aB ∅]
 show aq (aa0 e hh λh' tk hk=>?_)
 rw[aB (show(Option.isNone (Z:Option ae))=true from rfl)]
 have I2:Inv X pins σ (upd H D (.dK [])) {s1 with heap:=h',toks:=tk}:=O.kept hk
 show aq (nE (aq (xw ⟨_,hk _ _ e,U,n,U⟩ ?_)))
 have I3:=I2.kept (h':=h'.push {cls:=.type "list_iterator",data:=.fields #[.ref l,.int 0 0]}) (t':=tk) λb o e=>di _ e
 show aS ⟨zV _ (by right),?_⟩
 show ahB (l:=l) (it:=h'.objs.size) (xs:=xs) (d:=[]) (kvs:=kvs) (pins:=pins) (σ:=σ) (A:=X.A.in1) (show X.A.in1.handled=Z from hh) ↑xs 0 _ _ _ _ _ (by simp) (fL _) I3 ai (by simpa using z) (af.of EQ) (I2.nU (aK _) (I2.hok.fresh (aK _))) ⟨_,hG _ rfl,U,U⟩ ?_ ?_
 . show Paired.bc hp λa b ⟨c,e1,e2⟩=>⟨c,e1,by rw[aC (aR e2 G)];show e2⟩
 . intro s' I'
   rw[kZ]at I'
   show⟨U,.ref D,_,I',U,q D G⟩
end
end L2
namespace L2
open PySem PySem.Spec PyProof.Rows SeqAt
inductive EB (K:av) (H:Hp):Nat->V->V->Bool->Prop where
 | flat {n:Nat} {x y:V}:fG x=true->fG y=true->EB K H n x y (eK x y)
 | same {n:Nat} {a:J}:EB K H n (.ref a) (.ref a) true
 | lst {n:Nat} {a b:J} {xs ys:↥V} {e:Nat->Bool}:a≠b->af K H a xs->af K H b ys->↑xs=↑ys->(∀j x y,xs[j]?=S x->ys[j]?=S y->EB K H n x y (e j)) ->
     EB K H (n+1) (.ref a) (.ref b) ((cj ↑xs).all e)
 | len {n:Nat} {a b:J} {xs ys:↥V}:a≠b->af K H a xs->af K H b ys->↑xs≠↑ys->EB K H n (.ref a) (.ref b) false
 | tup {n:Nat} {a b:J} {xs ys:↥V} {e:Nat->Bool}:a≠b->bQ K H a xs->bQ K H b ys->(∀j x y,xs[j]?=S x->ys[j]?=S y->EB K H n x y (e j)) ->
     EB K H (n+1) (.ref a) (.ref b) ((cj (min ↑xs ↑ys)).all e&&↑xs==↑ys)
section
variable{X:Cx}{pins:↥(J×Obj)}{σ:St}{H:Hp}{s:aj}
def vS {K:av}{n:Nat}{A:bD}{xs ys:↥V}{us vs:↥ae}{e:Nat->Bool}(O:Vals xs us)(G:Vals ys vs)
   (h:∀j x y,xs[j]?=S x->ys[j]?=S y->∀(A:bD) (u v:ae),RelV x u->RelV y v->A.units+n<dC->EqAt A s u v (e j)) (hu:A.units+(n+1)<dC) :
   ∀j (h1:j<us.toArray.size) (h2:j<vs.toArray.size),EqAt A.in1 s us.toArray[j] vs.toArray[j] (e j):=λj h1 h2=>by
 have l1:=O.length
 have l2:=G.length
 have Ye:j<↑us:=by simpa using h1
 have iU:j<↑vs:=by simpa using h2
 have hx:xs[j]?=S (xs[j]'⋯):=bB _
 have hy:ys[j]?=S (ys[j]'⋯):=bB _
 obtain⟨u,jE,ru⟩:=O.get hx
 obtain⟨v,I,gO⟩:=G.get hy
 have eu:us[j]=u:=by have:=bB Ye;rw[jE]at this;show(dX this).symm
 have ev:vs[j]=v:=by have:=bB iU;rw[I]at this;show(dX this).symm
 have q:=h j _ _ hx hy A.in1 u v ru gO (by change A.units+1+n<dC;lia)
 simpa[eu,ev]using q
def EB.at (I:Inv X pins σ H s){n:Nat}{x y:V}{b:Bool}(q:EB X.K H n x y b):∀(A:bD) (u v:ae),RelV x u->RelV y v->A.units+n<dC->EqAt A s u v b:=by
 induction q with
 | flat h1 h2=>show λA u v G O z=>FG G O h1 h2
 | same=>intro A u v G O _;cases G;cases O;show EqAt.same _
 | @lst n a b xs ys e pO ha hb hl _ ih=>
   intro A u v G O hu
   cases G;cases O
   obtain⟨us,r1,p1,_⟩:=I.list ha
   obtain⟨vs,r2,p2,_⟩:=I.list hb
   have l1:=↑r1
   have l2:=↑r2
   have q:=RcAt.lists (A:=A) p1.isList p2.isList (by simp;lia) ⋯ (vS (K:=X.K) r1 r2 ih hu)
   rw[show us.toArray.size=↑xs by simp[l1]]at q
   show EqAt.of_refs pO q
 | @len n a b xs ys pO ha hb hl=>
   intro A u v G O hu
   cases G;cases O
   obtain⟨us,r1,p1,_⟩:=I.list ha
   obtain⟨vs,r2,p2,_⟩:=I.list hb
   have l1:=↑r1
   have l2:=↑r2
   show EqAt.of_refs pO (RcAt.lists_lengths p1.isList p2.isList (by simp;lia) ⋯)
 | @tup n a b xs ys e pO ha hb _ ih=>
   intro A u v G O hu
   cases G;cases O
   obtain⟨us,r1,p1,_⟩:=I.tuple ha
   obtain⟨vs,r2,p2,_⟩:=I.tuple hb
   have l1:=↑r1
   have l2:=↑r2
   have q:=RcAt.tuples (A:=A) (show s.heap.IsTuple a us.toArray from p1) (show s.heap.IsTuple b vs.toArray from p2) ⋯ (vS (K:=X.K) r1 r2 ih hu)
   rw[show us.toArray.size=↑xs by simp[l1],show vs.toArray.size=↑ys by simp[l2]]at q
   show EqAt.of_refs pO q
end
def RB (K:av)(H:Hp)(n:Nat)(x y:V)(b:Bool):Prop:=∃a c xs ys,x=.ref a/\y=.ref c /\
 ((∃e:Nat->Bool,af K H a xs/\af K H c ys/\↑xs=↑ys/\(∀j x y,xs[j]?=S x->ys[j]?=S y->EB K H n x y (e j))/\b=(cj ↑xs).all e) \/
  (af K H a xs/\af K H c ys/\↑xs≠↑ys/\b=false) \/
  (∃e:Nat->Bool,bQ K H a xs/\bQ K H c ys/\(∀j x y,xs[j]?=S x->ys[j]?=S y->EB K H n x y (e j))/\b=((cj (min ↑xs ↑ys)).all e&&↑xs==↑ys)))
section
variable{X:Cx}
def adq {m:Nat}(hu:X.A.units+(m+1)<dC):dZ X (dD .Eq) (λx y H Q=>∃b,RB X.K H m x y b/\Q (.bl b) H):=by
 intro pins s σ H x y v u Q I rx ry h
 obtain⟨b,⟨a,c,xs,ys,rfl,rfl,q⟩,k⟩:=h
 cases rx;cases ry
 rcases q with⟨e,ha,hb,hl,he,rfl⟩|⟨ha,hb,hl,rfl⟩|⟨e,ha,hb,he,rfl⟩
 . obtain⟨us,G,p1,_⟩:=I.list ha
   obtain⟨vs,O,p2,_⟩:=I.list hb
   have l1:=G.length
   have l2:=O.length
   show eq_listAt p1.isList p2.isList (by simp;lia) ⋯ (vS (K:=X.K) G O (λj x y h1 h2=>(he j x y h1 h2).at I) hu) ?_
   rw[show us.toArray.size=↑xs by simp[l1]]
   show⟨.bl _,H,I,U,k⟩
 . obtain⟨us,G,p1,_⟩:=I.list ha
   obtain⟨vs,O,p2,_⟩:=I.list hb
   have l1:=G.length
   have l2:=O.length
   show eq_list_lengthsAt p1.isList p2.isList (by simp;lia) ⋯ ⟨.bl _,H,I,U,k⟩
 . obtain⟨us,G,p1,_⟩:=I.tuple ha
   obtain⟨vs,O,p2,_⟩:=I.tuple hb
   have l1:=G.length
   have l2:=O.length
   show eq_tupleAt (show s.heap.IsTuple a us.toArray from p1) (show s.heap.IsTuple c vs.toArray from p2) ⋯ (vS (K:=X.K) G O (λj x y h1 h2=>(he j x y h1 h2).at I) hu) ?_
   rw[show us.toArray.size=↑xs by simp[l1],show vs.toArray.size=↑ys by simp[l2]]
   show⟨.bl _,H,I,U,k⟩
def adC {m:Nat}(hu:X.A.units+(m+1)<dC):dZ X (dD .NotEq) (λx y H Q=>∃b,RB X.K H m x y b/\Q (.bl (!b)) H):=by
 intro pins s σ H x y v u Q I rx ry h
 obtain⟨b,⟨a,c,xs,ys,rfl,rfl,q⟩,k⟩:=h
 cases rx;cases ry
 rcases q with⟨e,ha,hb,hl,he,rfl⟩|⟨ha,hb,hl,rfl⟩|⟨e,ha,hb,he,rfl⟩
 . obtain⟨us,G,p1,_⟩:=I.list ha
   obtain⟨vs,O,p2,_⟩:=I.list hb
   have l1:=G.length
   have l2:=O.length
   show RcNeAt.lists p1.isList p2.isList (by simp;lia) ⋯ (vS (K:=X.K) G O (λj x y h1 h2=>(he j x y h1 h2).at I) hu) X.prog X.w X.xe _ ?_
   rw[show us.toArray.size=↑xs by simp[l1]]
   show⟨.bl _,H,I,U,k⟩
 . obtain⟨us,G,p1,_⟩:=I.list ha
   obtain⟨vs,O,p2,_⟩:=I.list hb
   have l1:=G.length
   have l2:=O.length
   show RcNeAt.lists_lengths p1.isList p2.isList (by simp;lia) ⋯ X.prog X.w X.xe _ ⟨.bl _,H,I,U,k⟩
 . obtain⟨us,G,p1,_⟩:=I.tuple ha
   obtain⟨vs,O,p2,_⟩:=I.tuple hb
   have l1:=G.length
   have l2:=O.length
   show RcNeAt.tuples (show s.heap.IsTuple a us.toArray from p1) (show s.heap.IsTuple c vs.toArray from p2) ⋯ (vS (K:=X.K) G O (λj x y h1 h2=>(he j x y h1 h2).at I) hu) X.prog X.w X.xe _ ?_
   rw[show us.toArray.size=↑xs by simp[l1],show vs.toArray.size=↑ys by simp[l2]]
   show⟨.bl _,H,I,U,k⟩
end
def ET (K:av)(H:Hp)(n:Nat)(x y:V):Prop:=EB K H n x y true
def all_true {n:Nat}:(cj n).all (λz=>true)=true:=by rw[wR];intro _ _;rfl
def ET.lst {K:av}{H:Hp}{n:Nat}{a b:J}{xs ys:↥V}(ha:af K H a xs)(hb:af K H b ys)(G:↑xs=↑ys)(h:∀(j:Nat) (x y:V),xs[j]?=S x->ys[j]?=S y->ET K H n x y):ET K H (n+1) (.ref a) (.ref b):=by
 by_cases e:a=b
 . subst e;show .same
 . have q:=EB.lst (e:=λz=>true) e ha hb G h
   rw[all_true]at q
   show q
def ET.tup {K:av}{H:Hp}{n:Nat}{a b:J}{xs ys:↥V}(ha:bQ K H a xs)(hb:bQ K H b ys)(G:↑xs=↑ys)(h:∀(j:Nat) (x y:V),xs[j]?=S x->ys[j]?=S y->ET K H n x y):ET K H (n+1) (.ref a) (.ref b):=by
 by_cases e:a=b
 . subst e;show .same
 . have q:=EB.tup (e:=λz=>true) e ha hb h
   rw[all_true,G,beq_self_eq_true]at q
   show q
def WN {x:V}(h:fG x=true):eK x x=true:=by cases x<;>simp_all [fG,eK]
def ET.refl {K:av}{H:Hp}{n:Nat}{x:V}(h:fG x=true\/∃a,x=.ref a):ET K H n x x:=by
 rcases h with h|⟨a,rfl⟩
 . have q:=EB.flat (K:=K) (H:=H) (n:=n) h h
   rw[WN h]at q
   show q
 . show .same
def RB.lst {K:av}{H:Hp}{n:Nat}{a b:J}{xs ys:↥V}(ha:af K H a xs)(hb:af K H b ys)(G:↑xs=↑ys)(h:∀(j:Nat) (x y:V),xs[j]?=S x->ys[j]?=S y->ET K H n x y):RB K H n (.ref a) (.ref b) true:=
 ⟨a,b,xs,ys,rfl,rfl,.inl ⟨λz=>true,ha,hb,G,h,all_true.symm⟩⟩
def RB.nil {K:av}{H:Hp}{n:Nat}{a b:J}{xs:↥V}(ha:af K H a xs)(hb:af K H b []):RB K H n (.ref a) (.ref b) xs.isEmpty:=by
 cases xs with
 | nil=>show RB.lst ha hb rfl (λj x y h=>by simp at h)
 | cons x r=>show⟨a,b,_,[],rfl,rfl,.inr (.inl ⟨ha,hb,by simp,rfl⟩)⟩
section
variable{X:Cx}{ci:Pos}
def LN (i j:Int):Prop:=0<j/\j<2^1000
def ads:dZ X (f7 .FloorDiv) (rI LN λi j=>.int (i/j)):=zc λi j z z z z z hc q=>by
 have h1:(0:Int)<j:=hc.1
 have h2:j<2^1000:=hc.2
 have G:j.natAbs<2^1000:=⋯
 show floordiv_int ⋯ (by rw[Int.fdiv_eq_ediv_of_nonneg i ⋯];show q) (.inl (PyProof.noPylong_of_log2 (gQ ((Nat.log2_lt ⋯).mpr G) ∅)))
def LP (i j:Int):Prop:=i.natAbs<2^1000/\j.natAbs<2^1000
def Ml {i:Int}(h:i.natAbs<2^1000):rH i<=1000:=by
 unfold rH
 split
 . show fL _
 . rename_i hi
   have G:i.natAbs≠0:=by intro z;have:i=0:=(⋯);subst this;simp at hi
   have:=(Nat.log2_lt G).mpr h
   lia
def adA:dZ X (f7 .Mult) (rI LP λi j=>.int (i*j)):=zc λi j z z z z z hc q=>by
 have b1:=Ml hc.1
 have b2:=Ml hc.2
 show mul_int q ?_
 unfold IntMulOk
 have hb:Ul ((rH i:Int)+(rH j:Int))=false:=by
   unfold Ul
   show fU ?_
   have:(2000:Int)<=(bitsLine:Int):=by rw[PySem.bitsLine_eq];decide
   lia
 have e:((rH i+rH j:Nat):Int)=(rH i:Int)+(rH j:Int):=⋯
 simp[hb]
def VS:jO X (.builtin "isinstance") (λxs H Q=>∃x n t b,xs=[x,.ty n]/\jv X.K H x t/\fZ X.K t (.type n)=S b/\Q (.bl b) H):=by
 intro pins s σ H xs us Q I r h
 obtain⟨x,n,t,b,rfl,ty,e,q⟩:=h
 obtain⟨u,v,rfl,G,O⟩:=Vals.two r
 obtain rfl:v=Eg n:=O
 show aaF I G ty e λtk=>⟨.bl b,H,I.tok tk,U,q⟩
end
end L2
namespace TW
open PySem L2
inductive K2 where
 | plus|less|same|under|both
def K2.str:K2->Str
 | .plus=>"plus" | .less=>"less" | .same=>"same" | .under=>"under" | .both=>"both"
inductive E where
 | num (n:Int)|box (tag x:Str)|yes|nt (a:E)|two (k:K2) (a b:E)
def Tp (H:Hp)(v:V)(xs:↥V):Prop:=∃p,v=.ref p/\H p=S (.tup xs)
def bL (H:Hp):V->E->Prop
 | v,.num n=>Tp H v [.str "number",.int n]
 | v,.box t x=>Tp H v [.str t,.str x]
 | v,.yes=>Tp H v [.str "yes"]
 | v,.nt a=>∃x,Tp H v [.str "not",x]/\bL H x a
 | v,.two k a b=>∃x y,Tp H v [.str k.str,x,y]/\bL H x a/\bL H y b
def TK (H H':Hp):Prop:=∀b xs,H b=S (.tup xs)->H' b=S (.tup xs)
def TK.trans {A B C:Hp}(a:TK A B)(b:TK B C):TK A C:=λc o h=>b c o (a c o h)
def Tp.keep {H H':Hp}{v:V}{xs:↥V}(k:TK H H')(h:Tp H v xs):Tp H' v xs:=by obtain⟨p,e,q⟩:=h;show⟨p,e,k p xs q⟩
theorem bL.keep {H H':Hp}(k:TK H H'):∀{e:E} {v:V},bL H v e->bL H' v e
 | .num _,_,h=>Tp.keep k h
 | .box _ _,_,h=>Tp.keep k h
 | .yes,_,h=>Tp.keep k h
 | .nt _,_,⟨x,h,a⟩=>⟨x,h.keep k,bL.keep k a⟩
 | .two _ _ _,_,⟨x,y,h,a,b⟩=>⟨x,y,h.keep k,bL.keep k a,bL.keep k b⟩
def E.dep:E->Nat
 | .num _=>0|.box _ _=>0|.yes=>0|.nt a=>a.dep+1|.two _ a b=>max a.dep b.dep+1
def E.dP:E->Prop
 | .num _=>True
 | .box _ _=>True
 | .two .plus a b=>a.dP/\b.dP
 | .two .less a b=>a.dP/\b.dP
 | _=>False
def E.fj:E->Prop
 | .yes=>True
 | .nt a=>a.fj
 | .two .same a b=>a.dP/\b.dP
 | .two .under a b=>a.dP/\b.dP
 | .two .both a b=>a.fj/\b.fj
 | _=>False
def E.okIn (P:Str->Str->Prop):E->Prop
 | .num n=>n.natAbs<2^100|.box t x=>P t x|.yes=>True|.nt a=>a.okIn P|.two _ a b=>a.okIn P/\b.okIn P
theorem E.okIn.imp {P Q:Str->Str->Prop}(f:∀t x,P t x->Q t x):∀{e:E},e.okIn P->e.okIn Q
 | .num _,h=>h|.box t x,h=>f t x h|.yes,_=>bK|.nt a,h=>E.okIn.imp f (e:=a) h|.two _ a b,h=>⟨E.okIn.imp f (e:=a) h.1,E.okIn.imp f (e:=b) h.2⟩
def E.worth (w:Str->Str->Int):E->Int
 | .num n=>n
 | .box t x=>w t x
 | .two .plus a b=>a.worth w+b.worth w
 | .two .less a b=>a.worth w-b.worth w
 | _=>0
def E.holds (w:Str->Str->Int):E->Bool
 | .yes=>true
 | .nt a=>!(a.holds w)
 | .two .same a b=>decide (a.worth w=b.worth w)
 | .two .under a b=>decide (a.worth w<b.worth w)
 | .two .both a b=>a.holds w&&b.holds w
 | _=>false
inductive Nd where
 | put (x:Str) (s:E) (n:Int)|say (s:E) (n:Int)|test (c:E) (n o:Int)|fin
def cB (H:Hp):V->Nd->Prop
 | v,.put x s n=>∃u,Tp H v [.str "put",.str x,u,.int n]/\bL H u s
 | v,.say s n=>∃u,Tp H v [.str "say",u,.int n]/\bL H u s
 | v,.test c n o=>∃u,Tp H v [.str "test",u,.int n,.int o]/\bL H u c
 | v,.fin=>Tp H v [.str "end"]
theorem cB.keep {H H':Hp}(k:TK H H'):∀{e:Nd} {v:V},cB H v e->cB H' v e
 | .put _ _ _,_,⟨u,h,a⟩=>⟨u,h.keep k,a.keep k⟩
 | .say _ _,_,⟨u,h,a⟩=>⟨u,h.keep k,a.keep k⟩
 | .test _ _ _,_,⟨u,h,a⟩=>⟨u,h.keep k,a.keep k⟩
 | .fin,_,h=>Tp.keep k h
theorem cB.ref {H:Hp}:∀{e:Nd} {v:V},cB H v e->∃a,v=.ref a
 | .put _ _ _,_,⟨_,⟨p,h,_⟩,_⟩=>⟨p,h⟩
 | .say _ _,_,⟨_,⟨p,h,_⟩,_⟩=>⟨p,h⟩
 | .test _ _ _,_,⟨_,⟨p,h,_⟩,_⟩=>⟨p,h⟩
 | .fin,_,⟨p,h,_⟩=>⟨p,h⟩
def Nd.good (P:Str->Prop)(many:Int)(d:Nat):Nd->Prop
 | .put x s n=>P x/\s.dP/\s.okIn (λt y=>t="box"/\P y)/\s.dep<=d/\0<=n/\n<many
 | .say s n=>s.dP/\s.okIn (λt y=>t="box"/\P y)/\s.dep<=d/\0<=n/\n<many
 | .test c n o=>c.fj/\c.okIn (λt y=>t="box"/\P y)/\c.dep<=d/\0<=n/\n<many/\0<=o/\o<many
 | .fin=>True
def Kp (d:J)(H H':Hp):Prop:=∀b o,H b=S o->b≠d->H' b=S o
def Kp.refl {d:J}(H:Hp):Kp d H H:=λz z h z=>h
def Kp.trans {d:J}{A B C:Hp}(a:Kp d A B)(b:Kp d B C):Kp d A C:=λc o h n=>b c o (a c o h n) n
def Kp.new {d:J}{H H':Hp}{p:J}{o:HO}(k:Kp d H H')(h:H' p=Z):Kp d H (upd H' p o):=λb u e n=>by
 rw[aC (aR (k b u e n) h)];show k b u e n
def Kp.self {d:J}{H H':Hp}{o:HO}(k:Kp d H H'):Kp d H (upd H' d o):=λb u e n=>by rw[aC n];show k b u e n
def Kp.same {d:J}{H H1 H2:Hp}(k:Kp d H H1)(s:ag H1 H2):Kp d H H2:=λb u e n=>s b u (k b u e n)
def aH {H:Hp}{p:J}(h:H p=Z)(o:HO):ag H (upd H p o):=λb u q=>by rw[aC (aR q h)];show q
def ag.tk {H H':Hp}(s:ag H H'):TK H H':=λb xs h=>s b _ h
def bN {H:Hp}{p:J}(h:H p=Z)(o:HO):TK H (upd H p o):=ag.tk (aH h o)
def small {n:Nat}(h:n<=1000):n<=sizeLine:=jq (da h)
def eX (H:Hp)(v:V)(b:Str×Int):Prop:=Tp H v [.str b.1,.int b.2]
structure cu (H:Hp)(v:V)(bs:ak)(ins:↥Str)(cr:↥Nd):Prop where
 at_:∃p B I N vb vn,v=.ref p/\H p=S (.tup [.ref B,.ref I,.ref N])/\H B=S (.lst vb)/\H I=S (.lst (ins.map V.str))/\H N=S (.lst vn)/\Paired (eX H) vb bs/\Paired (cB H) vn cr
end TW
set_option exponentiation.threshold 4000
namespace TW
open PySem L2
def Src (K:av)(mg:Str->Option ae)(x:Str)(st:Stmt):Prop:=∃f fd,bq K x x st f fd/\mg x=S (.ref f)
def aP (P:bo)(w:aY)(K:av)(mg:Str->Option ae)(base:Heap)(x:Str)(ps:↥Str)(k:Nat)(sp:Sp):Prop:=
 ∃f fd,aU P w K mg base bj k f fd ps sp/\lC K (.ref f)=true/\Binds K fd ps []/\mg x=S (.ref f)
def aP.mono {P:bo}{w:aY}{K:av}{mg:Str->Option ae}{base:Heap}{x:Str}{ps:↥Str}{j k:Nat}{sp:Sp}(h:aP P w K mg base x ps j sp)(hk:j<=k):aP P w K mg base x ps k sp:=
 let⟨f,fd,a,b,c,d⟩:=h;⟨f,fd,a.mono hk,b,c,d⟩
def aP.imp {P:bo}{w:aY}{K:av}{mg:Str->Option ae}{base:Heap}{x:Str}{ps:↥Str}{k:Nat}{sp sp':Sp}(h:aP P w K mg base x ps k sp)(f:∀vs H Q E,sp' vs H Q E->sp vs H Q E):aP P w K mg base x ps k sp':=
 let⟨g,fd,a,b,c,d⟩:=h;⟨g,fd,a.imp f,b,c,d⟩
def cI {A:bD}{k:Nat}(G:cX k A)(m:Nat)(I:m<=64):A.units+m<dC:=by have:=G.units;lia
end TW
namespace L2
open PySem PySem.Spec PyProof.Rows
structure fN (e:Expr):Prop where
 h:∀(es:↥Expr) (env:Env),cM (e::es) env=(false,eval e env)::cM es env
def me {e:Expr}(h:∀x p,e≠.Starred x p):fN e:=⟨λes env=>by
 cases e<;>first|rfl|show ao rfl (h _ _)⟩
def Ci {c k p}:fN (.Constant c k p):=me λy y z=>nomatch z
def ub {x p}:fN (.Name x p):=me λy y z=>nomatch z
def ua {f a k p}:fN (.Call f a k p):=me λy y z=>nomatch z
def Io {a o b p}:fN (.BinOp a o b p):=me λy y z=>nomatch z
def uc {a b p}:fN (.Subscript a b p):=me λy y z=>nomatch z
def PX {a b p}:fN (.Tuple a b p):=me λy y z=>nomatch z
def PV {a p}:fN (.List a p):=me λy y z=>nomatch z
def PQ {a b c p}:fN (.Compare a b c p):=me λy y z=>nomatch z
def PU {a b c p}:fN (.ListComp a b c p):=me λy y z=>nomatch z
def PY {a b p}:fN (.UnaryOp a b p):=me λy y z=>nomatch z
def PN {a b p}:fN (.Attribute a b p):=me λy y z=>nomatch z
def xF (es:↥Expr):Prop:=∀(ci:Pos) (env:Env),(iB ci (cM es env)).any (·.1)=false
def ab2:xF []:=λz z=>rfl
def ab1 {e:Expr}{es:↥Expr}(h:fN e)(G:xF es):xF (e::es):=λci env=>by
 rw[h.h es env]
 show G ci env
structure iF (X:Cx)(es:↥Expr)(t:TA):Prop where
 pa:PA X es t
 ns:∀e r,es=e::r->fN e/\xF r
 nss:xF es
section
variable{X:Cx}{e:Expr}{es:↥Expr}{te:TE}{t:TA}{ci:Pos}
def an:iF X [] zI:=⟨adW,(λy y z=>nomatch z),ab2⟩
def ac (ha:PE X e te)(G:iF X es t)
   (I:fN e:=by first|show Ci|show ub|show ua|show Io|show uc|show PX|show PV|show PQ|show PU|show O|show PY|show abY|show PN):iF X (e::es) (Ki te t):=
 ⟨adV ha G.pa (I.h es X.env),λe' r z=>by injection z with z1 z2;subst z1 z2;show⟨I,G.nss⟩,ab1 I G.nss⟩
def ahY {G}(h:iF X es t):PE X (.Tuple es G ci) (Kl t):=aeS h.pa
def ahV (h:iF X es t):PE X (.List es ci) (Kj t):=aeG h.pa
def ahS {x:Str}{p:Pos}{id:String}{r:↥V->Hp->VK->Prop}(hc:jO X (.builtin id) r)(G:Gl X x)(I:X.mg x=Z)(hv:jc x=S (.builtin id))(ha:iF X (e::es) t)(O:x≠"__name__":=by left)(IN:(x==("__debug__":Str))=false:=by left) :
   PE X (.Call (.Name x p) (e::es) [] ci) (wL r t):=aem hc G I hv ha.pa O IN ((ha.ns e es rfl).1.h es X.env) ((ha.ns e es rfl).2 ci X.env)
def ahT {x:Str}{p:Pos}{T:String}{r:↥V->Hp->VK->Prop}(hc:jO X (.type T) r)(G:Gl X x)(I:X.mg x=Z)(hv:jc x=S (.type T))(ha:iF X (e::es) t)(O:x≠"__name__":=by left)(IN:(x==("__debug__":Str))=false:=by left) :
   PE X (.Call (.Name x p) (e::es) [] ci) (wL r t):=aeo hc G I hv ha.pa O IN ((ha.ns e es rfl).1.h es X.env) ((ha.ns e es rfl).2 ci X.env)
def ahW {x:Str}{p:Pos}{ps:↥Str}{k:Nat}{sp:Sp}(D:TW.aP X.prog X.w X.K X.mg X.base x ps k sp)(I:cX k X.A)(O:Gl X x)(ha:iF X (e::es) t)(IN:(x==("__debug__":Str))=false:=by left) :
   PE X (.Call (.Name x p) (e::es) [] ci) (uv sp [] E0 t):=
 let⟨_,_,G,kp,b,m⟩:=D
 IF G I O m kp b .nil zi ha.pa IN ((ha.ns e es rfl).1.h es X.env) ((ha.ns e es rfl).2 ci X.env)
def ahX {tg a:Expr}{ta:TA}{p:Pos}(G:Gl X "range")(I:X.mg "range"=Z)(ha:iF X [a] ta):PI X tg (.Call (.Name "range" p) [a] [] ci) (G3 ta):=
 ae2 G I ha.pa ((ha.ns a [] rfl).1.h [] X.env)
def ah0 {a b:Expr}{ta:TA}{p G:Pos}{I:↥Expr}{O:Nat}(hg:Gl X "zip")(hm:X.mg "zip"=Z)(ha:iF X [a,b] ta)(hb:fN b:=by first|show ub|show uc|show ua):PI X (.Tuple I O G) (.Call (.Name "zip" p) [a,b] [] ci) (G5 X.K ta):=
 ae5 hg hm ha.pa (by rw[(ha.ns a [b] rfl).1.h [b] X.env,hb.h [] X.env];rfl) (by rw[hb.h [] X.env];rfl)
def ahR {o:Expr}{name:Str}{lv:Pos}{T id:String}{r:V->↥V->Hp->VK->Prop}{to:TE}(O:PlainAttrs T)(G:Slot T name id)(I:typeOf (.builtin id)=pure (.type "method_descriptor"))(hm:AO X id r)(ho:PE X o to)(ha:iF X [e] t)
   (u8:nA o name X.env (eval o X.env)=eval o X.env:=by rfl) (wE:(lv.endLine==ci.line)=true:=by rfl):PE X (.Call (.Attribute o name lv) [e] [] ci) (ur X.K T r to t):=
 Qf O G I hm ho ha.pa u8 (by rw[(ha.ns e [] rfl).1.h [] X.env];rfl) wE ((ha.ns e [] rfl).1.h [] X.env) ((ha.ns e [] rfl).2 ci X.env)
end
end L2
namespace L3
open PySem PySem.Spec PyProof.Rows L2
def dF {CX:js}{P:bo}{w:aY}{K:av}{mg:Str->Option ae}{base:Heap}{N:↥Str}{qual:Str}{f8:cG}{f:J}{cd:ae}{A:bD}{outer:↥Env}{G:aj}{H0:Hp}{E:XK}:(gV CX P w K mg base N qual f8 f cd A outer G H0 E).pX.K=K:=rfl
def dE {CX:js}{P:bo}{w:aY}{K:av}{mg:Str->Option ae}{base:Heap}{N:↥Str}{qual:Str}{f8:cG}{f:J}{cd:ae}{A:bD}{outer:↥Env}{G:aj}{H0:Hp}{E:XK}{N':↥Str}{sc:cG}{s:aj}{H:Hp}{C:J}{fp:↥J}{xe:ae->aj->Prop}:(b8 (gV CX P w K mg base N qual f8 f cd A outer G H0 E).pX N' sc s H C fp xe).K=K:=rfl
structure SE (X:Cx)(e:Expr)(t:TE):Prop where
 h:PE X e t
structure ST (X:Cx)(e:Expr)(t:TT):Prop where
 h:PT X e t
structure SW (X:Cx)(e:Expr)(t:TT):Prop where
 h:PW X e t
structure SA (X:Cx)(es:↥Expr)(t:TA):Prop where
 h:iF X es t
structure SS (X:Cx)(s:Stmt)(t:TS):Prop where
 h:PS X s t
structure SL (X:Cx)(ss:↥Stmt)(t:TS):Prop where
 h:fR X ss t
structure SG (X:Cx)(e:Expr)(t:TG):Prop where
 h:PG X e t
structure AV (X:Cx)(es:↥Expr)(t:nM):Prop where
 h:xG X es t
structure SI (X:Cx)(tg iter:Expr)(t:TI):Prop where
 h:PI X tg iter t
structure sO (X:Cx)(cs:↥Expr)(t:TT):Prop where
 h:ko X cs t
structure SO (X:Cx)(f:ae->ae->Sem ae)(r:R2):Prop where
 h:dZ X f r
structure SX (X:Cx)(r:R2):Prop where
 h:AN X r
structure SC (X:Cx)(f:ae)(r:↥V->Hp->VK->Prop):Prop where
 h:jO X f r
structure SM (X:Cx)(id:String)(r:V->↥V->Hp->VK->Prop):Prop where
 h:AO X id r
section
variable{X:Cx}{a b c e o:Expr}{es:↥Expr}{ta tb tc te:TE}{t:TA}{tA uB:TT}{ci:Pos}{r:R2}
def v (i:Nat){x:Str}(G:X.N[i]?=S x:=by rfl)(hv:AX X.env.scope x:=by first|show Or.inl rfl|show Or.inr (Or.inl rfl)|show Or.inr (Or.inr rfl))(I:(x==("__debug__":Str))=false:=by left)
   (O:(x==("__classdict__":Str))=false:=by left):SE X (.Name x ci) (qh i):=⟨aeU G hv I O⟩
theorem int {i j}:SE X (.Constant (.int i) j ci) (tC (.int i)):=⟨aeC⟩
theorem bl {k j}:SE X (.Constant (.bool k) j ci) (tC (.bl k)):=⟨aek⟩
theorem aM {j}:SE X (.Constant .none j ci) (tC .aM):=⟨aeK⟩
theorem str {x j}:SE X (.Constant (.str x) j ci) (tC (.str x)):=⟨aeR⟩
def glob {x:Str}{w:V}{u:ae}(G:Gl X x)(I:X.mg x=S u)(r:RelV w u)(O:(x==("__debug__":Str))=false:=by left):SE X (.Name x ci) (tC w):=⟨aeA G I r O⟩
def E9 {x:Str}{w:V}{u:ae}(G:Gl X x)(I:X.mg x=Z)(hv:jc x=S u)(r:RelV w u)(O:x≠"__name__":=by left)(hd:(x==("__debug__":Str))=false:=by left):SE X (.Name x ci) (tC w):=⟨ael G I hv r O hd⟩
def op {k:Operator}(G:SO X (f7 k) r)(ha:SE X a ta)(hb:SE X b tb):SE X (.BinOp a k b ci) (oF r ta tb):=⟨aeN G.h ha.h hb.h⟩
def cmp {k:CmpOp}(G:SO X (dD k) r)(ha:SE X a ta)(hb:SE X b tb)(I:oR k b=false:=by show PM _):ST X (.Compare a [k] [b] ci) (Kk (oF r ta tb)):=⟨afH G.h ha.h hb.h I⟩
def gU {k:CmpOp}(G:SO X (dD k) r)(ha:SE X a ta)(hb:SE X b tb)(I:oR k b=false:=by show PM _):SE X (.Compare a [k] [b] ci) (oF r ta tb):=⟨aer G.h ha.h hb.h I⟩
def fP:SO X (f7 .Add) (kS λi j=>.int (i+j)):=⟨adm⟩
def q9:SO X (f7 .Sub) (kS λi j=>.int (i-j)):=⟨adI⟩
def ir:SO X (f7 .Mult) (rI AI λi j=>.int (i*j)):=⟨adz⟩
def acd:SO X (f7 .Mult) (rI LP λi j=>.int (i*j)):=⟨adA⟩
def bV:SO X (f7 .Mod) (rI (λz j=>0<j) λi j=>.int (i%j)):=⟨ady⟩
def jF:SO X (f7 .FloorDiv) (rI LN λi j=>.int (i/j)):=⟨ads⟩
def ud:SO X (f7 .Pow) (rI LQ λi j=>.int (i^j.toNat)):=⟨adG⟩
def kO:SO X (f7 .Add) Qy:=⟨ado⟩
def cg:SO X (dD .Eq) QA:=⟨adp⟩
def Ip:SO X (dD .NotEq) QG:=⟨adB⟩
def jG:SO X (dD .Lt) (kS λi j=>.bl (decide (i<j))):=⟨adx⟩
def Cj:SO X (dD .Gt) (kS λi j=>.bl (decide (j<i))):=⟨adu⟩
def zb:SO X (dD .GtE) (kS λi j=>.bl (decide (j<=i))):=⟨adt⟩
def za {KK:av}{m:Nat}(hu:X.A.units+(m+1)<dC)(G:X.K=KK:=by first|show L3.dF|show L3.dE|rfl):SO X (dD .Eq) (λx y H Q=>∃b,RB KK H m x y b/\Q (.bl b) H):=by
 subst G
 show⟨adq hu⟩
def v5 {KK:av}{m:Nat}(hu:X.A.units+(m+1)<dC)(G:X.K=KK:=by first|show L3.dF|show L3.dE|rfl):SO X (dD .NotEq) (λx y H Q=>∃b,RB KK H m x y b/\Q (.bl (!b)) H):=by
 subst G
 show⟨adC hu⟩
def pY {KK:av}(G:X.K=KK:=by first|show L3.dF|show L3.dE|rfl):SO X (dD .In) (Cu KK false):=by
 subst G
 show⟨adv⟩
def Iq {KK:av}(G:X.K=KK:=by first|show L3.dF|show L3.dE|rfl):SO X (dD .NotIn) (Cu KK true):=by
 subst G
 show⟨adE⟩
def P5:SO X (dD .Is) (λx y H Q=>y=.aM/\Q (.bl (decide (x=.aM))) H):=⟨adw⟩
def WA (hu:X.A.units+1<dC)(hi:SE X a ta)(G:SE X b tb)(h1:oR .In b=false:=by first|show I _ ∅ (∅)|rfl):SE X (.Compare a [.In] [b] ci) (SN ta tb):=⟨aeq (aed hu hi.h G.h) h1⟩
def jZ {ms:↥Expr}(ha:ST X a tA)(hb:SW X (.BoolOp .Or (b::ms) ci) uB):SW X (.BoolOp .Or (a::b::ms) ci) (Td tA uB):=⟨afQ ha.h hb.h⟩
def oo (ha:ST X a tA):SW X (.BoolOp .Or [a] ci) tA:=⟨afR ha.h⟩
def E3 {ms:↥Expr}(ha:ST X a tA)(hb:SW X (.BoolOp .And (b::ms) ci) uB):SW X (.BoolOp .And (a::b::ms) ci) (Sy tA uB):=⟨afO ha.h hb.h⟩
def E2 (ha:ST X a tA):SW X (.BoolOp .And [a] ci) tA:=⟨afP ha.h⟩
def tw (h:SW X e tA):ST X e tA:=⟨h.h.pt⟩
def nt (ha:ST X a tA):ST X (.UnaryOp .Not a ci) (Tb tA):=⟨afI ha.h⟩
def m7 (h:SE X e te)(I:∀G,isTrue e X.env G=(do let v←G;lH e.pos;jr [v] (truthy v)):=by intro _;rfl):ST X e (tB te):=⟨afJ h.h I⟩
def ix (G:SX X r)(ha:SE X a ta)(hb:SE X b tb)(I:L5 b:=by show λz z=>rfl):SE X (.Subscript a b ci) (oF r ta tb):=⟨aeD G.h ha.h hb.h I⟩
def aW {KK:av}(G:X.K=KK:=by first|show L3.dF|show L3.dE|rfl):SX X (QE KK):=by
 subst G
 show⟨aaI⟩
def aQ {KK:av}(G:X.K=KK:=by first|show L3.dF|show L3.dE|rfl):SX X (QF KK):=by
 subst G
 show⟨aaJ⟩
def jR (hu:X.A.units+1<dC)(G:SE X a ta)(hi:SE X b tb)(I:EE b:=by show λz z=>rfl):SE X (.Subscript a b ci) (SH ta tb):=⟨aet hu G.h hi.h I⟩
def agK {KK:av}{p2:Pos}(ha:SE X a ta)(hb:SE X b tb)(G:X.K=KK:=by first|show L3.dF|show L3.dE|rfl):SE X (.Subscript a (.Slice (S b) Z Z p2) ci) (zJ (QK KK) ta (wM tb) Dp):=by
 subst G
 show⟨Cp agL ha.h (zp hb.h) IJ⟩
def JE {KK:av}{p2:Pos}(ha:SE X a ta)(hb:SE X b tb)(G:X.K=KK:=by first|show L3.dF|show L3.dE|rfl):SE X (.Subscript a (.Slice Z (S b) Z p2) ci) (zJ (Cv KK) ta Dp (wM tb)):=by
 subst G
 show⟨Cp JF ha.h IJ (zp hb.h)⟩
def n:SA X [] zI:=⟨an⟩
def k (ha:SE X e te)(G:SA X es t)(I:fN e:=by first|show Ci|show ub|show ua|show Io|show uc|show PX|show PV|show PQ|show PU|show O|show PY|show abY|show PN) :
   SA X (e::es) (Ki te t):=⟨ac ha.h G.h I⟩
def tup {G}(h:SA X es t):SE X (.Tuple es G ci) (Kl t):=⟨ahY h.h⟩
def lst (h:SA X es t):SE X (.List es ci) (Kj t):=⟨ahV h.h⟩
def cS {x:Str}{p:Pos}{id:String}{G:↥V->Hp->VK->Prop}(hc:SC X (.builtin id) G)(I:Gl X x)(O:X.mg x=Z)(hv:jc x=S (.builtin id))(ha:SA X (e::es) t)(hn:x≠"__name__":=by left)(IN:(x==("__debug__":Str))=false:=by left) :
   SE X (.Call (.Name x p) (e::es) [] ci) (wL G t):=⟨ahS hc.h I O hv ha.h hn IN⟩
def gJ {x:Str}{p:Pos}{T:String}{G:↥V->Hp->VK->Prop}(hc:SC X (.type T) G)(I:Gl X x)(O:X.mg x=Z)(hv:jc x=S (.type T))(ha:SA X (e::es) t)(hn:x≠"__name__":=by left)(IN:(x==("__debug__":Str))=false:=by left) :
   SE X (.Call (.Name x p) (e::es) [] ci) (wL G t):=⟨ahT hc.h I O hv ha.h hn IN⟩
def own {x:Str}{p:Pos}{ps:↥Str}{kk:Nat}{sp:Sp}(D:TW.aP X.prog X.w X.K X.mg X.base x ps kk sp)(G:cX kk X.A)(I:Gl X x)(ha:SA X (e::es) t)(O:(x==("__debug__":Str))=false:=by left) :
   SE X (.Call (.Name x p) (e::es) [] ci) (uv sp [] E0 t):=⟨ahW D G I ha.h O⟩
def Fd {KK:av}{name:Str}{lv:Pos}{T id:String}{O:V->↥V->Hp->VK->Prop}(pa:PlainAttrs T)(G:Slot T name id)(I:typeOf (.builtin id)=pure (.type "method_descriptor"))(hm:SM X id O)(ho:SE X o ta)(ha:SA X [e] t)
   (u8:nA o name X.env (eval o X.env)=eval o X.env:=by rfl) (wE:(lv.endLine==ci.line)=true:=by rfl) (hK:X.K=KK:=by first|show L3.dF|show L3.dE|rfl):SE X (.Call (.Attribute o name lv) [e] [] ci) (ur KK T O ta t):=by
 subst hK
 show⟨ahR pa G I hm.h ho.h ha.h u8 wE⟩
theorem append {KK:av}{lv:Pos}(G:SE X o ta)(ha:SA X [e] t)(I:nA o "append" X.env (eval o X.env)=eval o X.env:=by rfl)(O:(lv.endLine==ci.line)=true:=by rfl)(hK:X.K=KK:=by first|show L3.dF|show L3.dE|rfl):SE X (.Call (.Attribute o "append" lv) [e] [] ci) (ur KK "list" Qx ta t):=by
 subst hK
 show Fd D8 PySem.F.slot_list_append PySem.F.type_list_append ⟨Pl⟩ G ha I O
def afg {KK:av}{lv:Pos}(G:SE X o ta)(ha:SA X [e] t)(I:nA o "pop" X.env (eval o X.env)=eval o X.env:=by rfl)(O:(lv.endLine==ci.line)=true:=by rfl)(hK:X.K=KK:=by first|show L3.dF|show L3.dE|rfl):SE X (.Call (.Attribute o "pop" lv) [e] [] ci) (ur KK "list" QH ta t):=by
 subst hK
 show Fd D8 PySem.F.slot_list_pop PySem.F.type_list_pop ⟨abq⟩ G ha I O
def ee {KK:av}(G:X.K=KK:=by first|show L3.dF|show L3.dE|rfl):SC X (.builtin "len") (λxs H Q=>∃p ys,xs=[.ref p]/\(af KK H p ys\/bQ KK H p ys)/\Q (.int ↑ys) H):=by
 subst G
 show⟨VT⟩
def qF {KK:av}(G:X.K=KK:=by first|show L3.dF|show L3.dE|rfl):SC X (.type "list") (λxs H Q=>∃p ys,xs=[.ref p]/\(af KK H p ys\/bQ KK H p ys)/\∀l,H l=Z->Q (.ref l) (upd H l (.lst ys))):=by
 subst G
 show⟨VU⟩
def VM {KK:av}(hc:X.calm=true:=by rfl)(G:X.K=KK:=by first|show L3.dF|show L3.dE|rfl):SC X (.type "dict") (Qz KK):=by
 subst G
 show⟨VP hc⟩
def sX:SC X (.type "int") (λxs H Q=>(∃i,xs=[.int i]/\Q (.int i) H)\/∃k,xs=[.bl k]/\Q (.int (if k then 1 else 0)) H):=⟨VQ⟩
def Mw {KK:av}(G:X.K=KK:=by first|show L3.dF|show L3.dE|rfl):SC X (.builtin "isinstance") (λxs H Q=>∃x n t b,xs=[x,.ty n]/\jv KK H x t/\fZ KK t (.type n)=S b/\Q (.bl b) H):=by
 subst G
 show⟨VS⟩
def gn (i:Nat){x:Str}(G:X.N.Nodup)(hi:X.N[i]?=S x:=by rfl)(hx:Loc X.env.scope x:=by first|show Or.inl rfl|show Or.inr rfl)(hf:X.fn x=true\/X.env.scope.names.lookup x=S .local:=by first|show .inl rfl|show .inr rfl):SG X (.Name x ci) (gK i):=⟨aeV G hi hx hf⟩
def cY:AV X [] vo:=⟨aeZ⟩
def aZ {t:TG}{u:nM}(h1:SG X e t)(h2:AV X es u)(G:(nq (e::es) X.env).map (·.2)=assign e X.env::(nq es X.env).map (·.2):=by rfl):AV X (e::es) (lS t u):=⟨aeY h1.h h2.h G⟩
def cZ {KK:av}{kk:Nat}{t:nM}(m:Nat)(h:AV X es t)(hc:X.calm=true:=by rfl)(I:↑(nq es X.env)=m:=by rfl)(G:(nq es X.env).findIdx? (·.1)=Z:=by rfl)(O:X.K=KK:=by first|show L3.dF|show L3.dE|rfl):SG X (.Tuple es kk ci) (vp KK m t):=by
 subst O
 show⟨aeX hc h.h I G⟩
def iL {KK:av}{tg:Expr}(h:SE X a ta)(G:X.K=KK:=by first|show L3.dF|show L3.dE|rfl):SI X tg a (OI KK ta):=by
 subst G
 show⟨ae1 h.h⟩
def iT {KK:av}{tg:Expr}(h:SE X a ta)(G:X.K=KK:=by first|show L3.dF|show L3.dE|rfl):SI X tg a (OK KK ta):=by
 subst G
 show⟨ae4 h.h⟩
def iR {tg:Expr}{p:Pos}(G:Gl X "range")(I:X.mg "range"=Z)(ha:SA X [a] t):SI X tg (.Call (.Name "range" p) [a] [] ci) (G3 t):=⟨ahX G I ha.h⟩
def iZ {KK:av}{p G:Pos}{I:↥Expr}{O:Nat}(hg:Gl X "zip")(hm:X.mg "zip"=Z)(ha:SA X [a,b] t)(hb:fN b:=by first|show ub|show uc|show ua)(hK:X.K=KK:=by first|show L3.dF|show L3.dE|rfl):SI X (.Tuple I O G) (.Call (.Name "zip" p) [a,b] [] ci) (G5 KK t):=by
 subst hK
 show⟨ah0 hg hm ha.h hb⟩
def dI:sO X [] Dm:=⟨ae8⟩
def if1 (h:ST X a tA):sO X [a] tA:=⟨ae9 h.h⟩
def lc {tg iter xz:Expr}{ifs:↥Expr}{sc:cG}{wi:TI}{g:TG}{jp:TT}(ut:↥(Option Nat))(N':↥Str)(S8:ki sc X.env.scope)(G:jf sc ut N' X.N=true)(hi:SI X tg iter wi)
   (hb:∀s H C fp xe,SG (b8 X N' sc s H C fp xe) tg g/\sO (b8 X N' sc s H C fp xe) ifs jp/\SE (b8 X N' sc s H C fp xe) xz te) (hc:X.calm=true:=by rfl)
   (I:∀x,jd iter X.env x=pure x:=by intro _;rfl):SE X (.ListComp xz [⟨tg,iter,ifs,0⟩] sc ci) (mZ ut (.lst []) wi g jp (cR te)):=
 ⟨aeE ut N' hc S8 G hi.h (λs H C fp xe=>⟨(hb s H C fp xe).1.h,(hb s H C fp xe).2.1.h,(hb s H C fp xe).2.2.h⟩) I⟩
def rm {tg iter xz:Expr}{ifs:↥Expr}{sc:cG}{wi:TI}{g:TG}{jp:TT}{i:Nat}{x:Str}{pi eB:Pos}(ut:↥(Option Nat))(N':↥Str)(S8:ki sc X.env.scope)(O:jf sc ut N' X.N=true)(hi:SI X tg iter wi)
   (hb:∀s H C fp xe,SG (b8 X N' sc s H C fp xe) tg g/\sO (b8 X N' sc s H C fp xe) ifs jp/\SE (b8 X N' sc s H C fp xe) xz te) (hN:X.N.Nodup) (G:X.N[i]?=S x:=by rfl) (hx:Loc X.env.scope x:=by show Or.inl rfl)
   (I:lI (.ListComp xz [⟨tg,iter,ifs,0⟩] sc ci) (S (.Name x pi)) eB.line X.env=pure true:=by rfl) (hc:X.calm=true:=by rfl)
   (hs:∀x,jd iter X.env x=pure x:=by intro _;rfl) (hf:X.fn x=true\/X.env.scope.names.lookup x=S .local:=by first|show .inl rfl|show .inr rfl) :
   SS X (.Assign [.Name x pi] (.ListComp xz [⟨tg,iter,ifs,0⟩] sc ci) eB) (qg (mZ ut (.lst []) wi g jp (cR te)) (gK i)):=
 ⟨afr ut N' hc S8 O hi.h (λs H C fp xe=>⟨(hb s H C fp xe).1.h,(hb s H C fp xe).2.1.h,(hb s H C fp xe).2.2.h⟩) hN G hx I hs hf⟩
def MV {tg iter kx vx:Expr}{ifs:↥Expr}{sc:cG}{wi:TI}{g:TG}{jp:TT}{tk tv:TE}(ut:↥(Option Nat))(N':↥Str)(hu:X.A.units+1<dC)(S8:ki sc X.env.scope)(G:jf sc ut N' X.N=true)(hi:SI X tg iter wi)
   (hb:∀s H C fp xe,SG (b8 X N' sc s H C fp xe) tg g/\sO (b8 X N' sc s H C fp xe) ifs jp/\SE (b8 X N' sc s H C fp xe) kx tk/\SE (b8 X N' sc s H C fp xe) vx tv) (hc:X.calm=true:=by rfl)
   (I:∀x,jd iter X.env x=pure x:=by intro _;rfl):SE X (.DictComp kx vx [⟨tg,iter,ifs,0⟩] sc ci) (mZ ut (.dT []) wi g jp (yP tk tv)):=
 ⟨aes ut N' hu hc S8 G hi.h (λs H C fp xe=>⟨(hb s H C fp xe).1.h,(hb s H C fp xe).2.1.h,(hb s H C fp xe).2.2.1.h,(hb s H C fp xe).2.2.2.h⟩) I⟩
variable{st:Stmt}{ms:↥Stmt}{u1 u2:TS}
def nil:SL X [] Ta:=⟨afD⟩
def cons (h1:SS X st u1)(h2:SL X ms u2):SL X (st::ms) (kX u1 u2):=⟨afB h1.h h2.h⟩
def one (h1:SS X st u1):SL X [st] u1:=⟨afE h1.h⟩
def never:SL X ms S9:=⟨afC⟩
def ret (G:SE X e te):SS X (.Return (S e) ci) (Ti te):=⟨afw G.h⟩
def ex (G:SE X e te)(I:lI e Z ci.line X.env=pure false:=by rfl):SS X (.Expr e ci) (S2 te):=⟨afn G.h I⟩
def ifs {tc:TT}{x y:↥Stmt}(hc:ST X c tc)(ha:SL X x u1)(hb:SL X y u2):SS X (.If c x y ci) (S6 tc u1 u2):=⟨afq hc.h ha.h hb.h⟩
def set (i:Nat){x:Str}{pi:Pos}(G:X.N.Nodup)(I:SE X e te)(hi:X.N[i]?=S x:=by rfl)(hx:Loc X.env.scope x:=by first|show Or.inl rfl|show Or.inr rfl)(O:lI e (S (.Name x pi)) ci.line X.env=pure false:=by rfl)(hf:X.fn x=true\/X.env.scope.names.lookup x=S .local:=by first|show .inl rfl|show .inr rfl) :
   SS X (.Assign [.Name x pi] e ci) (qg te (gK i)):=⟨afx G hi hx I.h O hf⟩
def asg {tg:Expr}{g:TG}(G:SE X e te)(I:SG X tg g)(O:xr [tg] e ci.line X.env=pure false:=by rfl)(hw:xq [tg] e X.env=pure Z:=by rfl)
   (h1:(nq [tg] X.env).map (·.2)=[assign tg X.env]:=by rfl):SS X (.Assign [tg] e ci) (qg te g):=⟨afl G.h I.h O hw h1⟩
def gh {tg iter:Expr}{body:↥Stmt}{wi:TI}{g:TG}(hi:SI X tg iter wi)(G:SG X tg g)(hb:SL X body u1)(I:PassesOwn (aI X.prog X.w) X.A X.env X.xe:=by show PassesOwn.never)(hc:X.calm=true:=by rfl)
   (O:∀x,jd iter X.env x=pure x:=by intro _;rfl):SS X (.For tg iter body [] ci) (S4 wi g u1):=⟨afp I hc hi.h G.h hb.h O⟩
def run {G:↥Stmt}{u:TS}(h:SL X G u):fR X G u:=h.h
end
end L3
namespace L3
open PySem PySem.Spec PyProof.Rows L2
section
variable{X:Cx}{a b c e o:Expr}{es:↥Expr}{ta tb tc te:TE}{t:TA}{tA uB:TT}{ci:Pos}{r:R2}
def neg (ha:SE X a ta):SE X (.UnaryOp .USub a ci) (Tq (rU λi=>.int (-i)) ta):=⟨aeT ahw ha.h⟩
def ntE (ha:SE X a ta):SE X (.UnaryOp .Not a ci) (Tc ta):=⟨aeL ha.h⟩
def AY {ms:↥Expr}(ha:SE X a ta)(hb:SE X (.BoolOp .And (b::ms) ci) tb):SE X (.BoolOp .And (a::b::ms) ci) (Sz ta tb):=⟨aej ha.h hb.h⟩
def adJ {ms:↥Expr}(ha:SE X a ta)(hb:SE X (.BoolOp .Or (b::ms) ci) tb):SE X (.BoolOp .Or (a::b::ms) ci) (Te ta tb):=⟨aeO ha.h hb.h⟩
def Ck {op}(ha:SE X a ta):SE X (.BoolOp op [a] ci) ta:=⟨aeM ha.h⟩
def BP (hc:ST X c tA)(ha:SE X a ta)(hb:SE X b tb):SE X (.IfExp c a b ci) (S5 tA ta tb):=⟨aeB hc.h ha.h hb.h⟩
def acf:SO X (dD .IsNot) (λx y H Q=>y=.aM/\Q (.bl (!decide (x=.aM))) H):=⟨adF⟩
def NF {x:Str}{p:Pos}(G:SE X a ta)(hi:SE X (.Name x p) tb):SG X (.Subscript a (.Name x p) ci) (Nr ta tb QJ):=⟨aeW G.h hi.h set_list (λz=>rfl)⟩
end
end L3
namespace L2
open PySem PySem.Spec PyProof.Rows
end L2
namespace L3
open PySem PySem.Spec PyProof.Rows L2
end L3
namespace PySem
open Sem (wp)
abbrev oX (h:Heap)(z TI TO T:J)(f:Bool):Prop:=
 h.get? z=S {cls:=.type "zip",dict:=Z,data:=.fields #[rawInt T,.bool f,.bool false,.ref TI,.ref TO],slots:=#[]}
section
variable{prog:bo}{w:aY}{A:bD}{E:ae->aj->Prop}{s:aj}
def TZ {a:J}{o:Obj}{Q:Option Obj->aj->Prop}(h:s.heap.get? a=S o)(k:Q (S o) s):aD (aI prog w) A (loadIfAlive a) Q E s:=λΓ p hΓ=>by
 change Sem.wp _ _ (Sem.loadIfAlive a .pure) _ _ _ _
 rw[Sem.wp_loadIfAlive,h]
 show(aS k:aD (aI prog w) A (Sem.pure (S o)) Q E s) Γ p hΓ
def ah5 {z TI TO T G I l1 l2:J}{f:Bool}{ot:Obj}{k1 k2:Nat}{xs ys:Array ae}{x y:ae}{Q:ae->aj->Prop}(D:rS z TI TO G I l1 l2)(hz:oX s.heap z TI TO T f)(hT:s.heap.get? T=S ot)(Tk:ja s.heap TI (.ref G) (.ref I))
   (h1:s.heap.IsListIter G l1 k1) (h2:s.heap.IsListIter I l2 k2) (EQ:s.heap.IsList l1 xs) (wP:s.heap.IsList l2 ys) (hx:xs[k1]?=S x) (hy:ys[k2]?=S y)
   (hQ:∀h',oX h' z TI TO T true->h'.IsListIter G l1 (k1+1)->h'.IsListIter I l2 (k2+1)->ja h' s.heap.objs.size x y->(∀c o,c≠z->c≠G->c≠I->s.heap.get? c=S o->h'.get? c=S o)->Q (.ref s.heap.objs.size) {s with heap:=h'}) :
   aD (aI prog w) A (gZ.«zip.__next__» ⟨[.ref z],[]⟩) (λfin s'=>∃v,fin=.done (.ret v)/\Q v s') E s:=by
 change aD _ _ (field (.ref z) 2>>=_) _ _ _
 show aq (hV hz rfl (x:=.bool false) rfl ?_)
 change aD _ _ (field (.ref z) 3>>=_) _ _ _
 show aq (hV hz rfl (x:=.ref TI) rfl (aq (rZ Tk rfl ?_)))
 change aD _ _ (rK (.ref z)>>=_) _ _ _
 show aq ?_
 unfold rK
 show aq (hV hz rfl (x:=rawInt T) rfl ?_)
 change aD _ _ (loadIfAlive (T:Int).toNat>>=_) _ _ _
 rw[gE]
 show aq (TZ hT ?_)
 rw[az (by simp)]
 show aq (hV hz rfl (x:=.bool f) rfl (kh (Q:=λb t=>b=false/\∃g,t={s with heap:=g}/\oX g z TI TO T true/\lj z s.heap g) ?mark (λb t hb=>?next) (λu u h=>h)))
 case mark=>
   cases f
   . change aD _ _ (setField (.ref z) 1 (.bool true)>>=_) _ _ _
     show aq (uQ hz (by simp) λg hg hs=>aS ⟨U,g,U,hg,hs⟩)
   . show aS ⟨U,s.heap,U,hz,⟨U,λu u=>rfl⟩⟩
 case next=>
   obtain⟨rfl,g,rfl,gz,gs⟩:=hb
   rw[az ∅]
   simp only[← Array.forIn_toList]
   simp only[Ac,DU]
   show aq (aq (aq (hW ?_)))
   change aD _ _ (rJ (.ref G)>>=_) _ _ _
   show aq (xu (h1.extBut gs.extBut D.i1z) (EQ.extBut gs.extBut D.l1z) hx λg2 a2 O=>aS (aS (aq (aq (hW ?_)))))
   change aD _ _ (rJ (.ref I)>>=_) _ _ _
   show aq (xu ((h2.extBut gs.extBut D.i2z).extBut O.extBut D.i12.symm) ((wP.extBut gs.extBut D.l2z).extBut O.extBut D.l2i1) hy λg3 a3 s3=>aS (aS (aS ?_)))
   change aD _ _ (newTuple [x,y]>>=_) _ _ _
   show aq (wpAny_newTuple (aS (aa U ?_)))
   have sz:g3.objs.size=s.heap.objs.size:=by rw[s3.1,O.1,gs.1]
   have up:∀c o,c≠z->c≠G->c≠I->s.heap.get? c=S o->(g3.push {cls:=.type "tuple",data:=.seq [x,y].toArray}).get? c=S o:=λc o n1 n2 n3 e=>
     di _ (s3.extBut _ _ n3 (O.extBut _ _ n2 (gs.extBut _ _ n1 e)))
   change Q (.ref g3.objs.size) _
   have qP:ja (g3.push {cls:=.type "tuple",data:=.seq [x,y].toArray}) g3.objs.size x y:=hG _ rfl
   rw[sz]at qP ⊢
   show hQ _ (di _ (s3.extBut _ _ D.i2z.symm (O.extBut _ _ D.i1z.symm gz))) ((a2.extBut s3.extBut D.i12).at λo e=>di _ e) (a3.at λo e=>di _ e) qP up
def ah4 {z TI TO T G I l1 l2:J}{f:Bool}{ot:Obj}{k1 k2:Nat}{xs ys:Array ae}{Q:Fin->aj->Prop}(hh:A.handled=Z)(D:rS z TI TO G I l1 l2)(hz:oX s.heap z TI TO T f)(hT:s.heap.get? T=S ot)(Tk:ja s.heap TI (.ref G) (.ref I))
   (h1:s.heap.IsListIter G l1 k1) (h2:s.heap.IsListIter I l2 k2) (EQ:s.heap.IsList l1 xs) (wP:s.heap.IsList l2 ys) (O:xs[k1]?=Z\/ys[k2]?=Z)
   (hE:∀h' e,(∀c o,c≠z->c≠G->c≠I->s.heap.get? c=S o->h'.get? c=S o)->(∃o,h'.get? e=S o/\o.cls=.type "StopIteration")->E (.ref e) {s with heap:=h'}) :
   aD (aI prog w) A (gZ.«zip.__next__» ⟨[.ref z],[]⟩) Q E s:=by
 change aD _ _ (field (.ref z) 2>>=_) _ _ _
 show aq (hV hz rfl (x:=.bool false) rfl ?_)
 change aD _ _ (field (.ref z) 3>>=_) _ _ _
 show aq (hV hz rfl (x:=.ref TI) rfl (aq (rZ Tk rfl ?_)))
 change aD _ _ (rK (.ref z)>>=_) _ _ _
 show aq ?_
 unfold rK
 show aq (hV hz rfl (x:=rawInt T) rfl ?_)
 change aD _ _ (loadIfAlive (T:Int).toNat>>=_) _ _ _
 rw[gE]
 show aq (TZ hT ?_)
 rw[az (by simp)]
 show aq (hV hz rfl (x:=.bool f) rfl (kh (Q:=λb t=>b=false/\∃g,t={s with heap:=g}/\oX g z TI TO T true/\lj z s.heap g) ?mark (λb t hb=>?next) (λy y h=>h)))
 case mark=>
   cases f
   . change aD _ _ (setField (.ref z) 1 (.bool true)>>=_) _ _ _
     show aq (uQ hz (by simp) λg hg hs=>aS ⟨U,g,U,hg,hs⟩)
   . show aS ⟨U,s.heap,U,hz,⟨U,λy y=>rfl⟩⟩
 case next=>
   obtain⟨rfl,g,rfl,gz,gs⟩:=hb
   rw[az ∅]
   simp only[← Array.forIn_toList]
   simp only[Ac,DU]
   show aq (aq (aq (hW ?_)))
   change aD _ _ (rJ (.ref G)>>=_) _ _ _
   cases hx:xs[k1]? with
   | none=>
     show aq (LI hh (h1.extBut gs.extBut D.i1z) (EQ.extBut gs.extBut D.l1z) hx λg2 e k2 he=>hE g2 e (λc o n1 n2 y q=>k2 _ _ n2 (gs.extBut _ _ n1 q)) he)
   | some x=>
     have hy:ys[k2]?=Z:=by
       rcases O with q|q
       . rw[hx]at q;cases q
       . show q
     show aq (xu (h1.extBut gs.extBut D.i1z) (EQ.extBut gs.extBut D.l1z) hx λg2 a2 s2=>aS (aS (aq (aq (hW ?_)))))
     change aD _ _ (rJ (.ref I)>>=_) _ _ _
     show aq (LI hh ((h2.extBut gs.extBut D.i2z).extBut s2.extBut D.i12.symm) ((wP.extBut gs.extBut D.l2z).extBut s2.extBut D.l2i1) hy λg3 e k3 he=>hE g3 e (λc o n1 n2 n3 q=>k3 _ _ n3 (s2.extBut _ _ n2 (gs.extBut _ _ n1 q))) he)
def abF {z TI TO T G I l1 l2:J}{f:Bool}{O:Obj}{k1 k2:Nat}{xs ys:Array ae}{x y:ae}{Q:Option ae->aj->Prop}(D:rS z TI TO G I l1 l2)(hz:oX s.heap z TI TO T f)(hT:s.heap.get? T=S O)(Tk:ja s.heap TI (.ref G) (.ref I))
   (h1:s.heap.IsListIter G l1 k1) (h2:s.heap.IsListIter I l2 k2) (EQ:s.heap.IsList l1 xs) (wP:s.heap.IsList l2 ys) (hx:xs[k1]?=S x) (hy:ys[k2]?=S y)
   (hQ:∀h',oX h' z TI TO T true->h'.IsListIter G l1 (k1+1)->h'.IsListIter I l2 (k2+1)->ja h' s.heap.objs.size x y->(∀c o,c≠z->c≠G->c≠I->s.heap.get? c=S o->h'.get? c=S o)->Q (S (.ref s.heap.objs.size)) {s with heap:=h'}) :
   aD (aI prog w) A (lF (.ref z)) Q E s:=by
 have ty:s.TypeIs (.ref z) "zip":=⟨_,hz,rfl⟩
 unfold lF
 show aq (rX (AA (name:=An "__next__") ty F.slot_zip_next (AB F.slot_zip_next ty F.entry_zip_next (ah5 D hz hT Tk h1 h2 EQ wP hx hy ?_) (F.args_zip_next_1 _))))
 show λg a b c d e=>aS (hQ g a b c d e)
def abE {z TI TO T I O l1 l2:J}{f:Bool}{ot:Obj}{k1 k2:Nat}{xs ys:Array ae}{Q:Option ae->aj->Prop}(hh:A.handled=Z)(D:rS z TI TO I O l1 l2)(hz:oX s.heap z TI TO T f)(hT:s.heap.get? T=S ot)(Tk:ja s.heap TI (.ref I) (.ref O))
   (h1:s.heap.IsListIter I l1 k1) (h2:s.heap.IsListIter O l2 k2) (EQ:s.heap.IsList l1 xs) (wP:s.heap.IsList l2 ys) (G:xs[k1]?=Z\/ys[k2]?=Z)
   (hQ:∀h',(∀c o,c≠z->c≠I->c≠O->s.heap.get? c=S o->h'.get? c=S o)->Q Z {s with heap:=h'}):aD (aI prog w) A (lF (.ref z)) Q E s:=by
 have ty:s.TypeIs (.ref z) "zip":=⟨_,hz,rfl⟩
 unfold lF
 show aq (rX (AA (name:=An "__next__") ty F.slot_zip_next (AB F.slot_zip_next ty F.entry_zip_next (ah4 hh D hz hT Tk h1 h2 EQ wP G λg e kk he=>?_) (F.args_zip_next_1 _))))
 obtain⟨o,ho,hc⟩:=he
 show aq (Eo (T:="StopIteration") (b:=true) ⟨o,ho,hc⟩ isSubtype_stop (aS (hQ _ kk)))
end
end PySem
namespace PySem
def aia:Aw (.type "zip") "keys"=pure Z:=by rw[LF,Lz];kernel_rfl
def ah9:Aw (.type "zip") "__getattr__"=pure Z:=by rw[LF,Lz];kernel_rfl
def ah8:entryFor table "zip.__getattribute__"=S gZ.«object.__getattribute__»:=entryFor_alias (id':="object.__getattribute__") (by kernel_rfl) (by right) (by right) (by kernel_rfl)
def aib (z:J)(G:Array ae)(u:Tok) :
   Meets (gZ.«object.__getattribute__» ⟨[.ref z,.str "keys" u],[]⟩) (λA R s=>s.heap.get? z=S {cls:=.type "zip",dict:=Z,data:=.fields G,slots:=#[]}/\raisesAttr (.ref z) "keys" A R s):=
 Meets.of_wp λP w A R s h=>by
   obtain⟨I,g,d,tk,os⟩:=s
   obtain⟨hz,h⟩:=h
   have ty:(⟨I,g,d,tk,os⟩ : aj).TypeIs (.ref z) "zip":=⟨_,hz,rfl⟩
   have O:=aia
   unfold gZ.«object.__getattribute__»
   repeat (any_goals (first|assumption|wp_step))
   show wpAny_raiseAttrError h.1 h.2 (attrMsg_fits (by right) (by right))
section
variable{P:bo}{w:aY}{A:bD}{E:ae->aj->Prop}{s:aj}
def ah7 {z:J}{G:Array ae}{u:Tok}{Q:ae->aj->Prop}(hz:s.heap.get? z=S {cls:=.type "zip",dict:=Z,data:=.fields G,slots:=#[]})(free:A.handled=Z)
   (k:∀g tk e,Heap.NewAttrErr s.heap g e (.ref z) "keys"->E (.ref e) {s with heap:=g,toks:=tk}):aD (aI P w) A (Au (.ref z) (.str "keys" u) false) Q E s:=by
 obtain⟨O,g,d,tk,os⟩:=s
 have ty:∀t,(⟨O,g,d,t,os⟩ : aj).TypeIs (.ref z) "zip":=λy=>⟨_,hz,rfl⟩
 have q1:=Ek
 have q2:=F.slot_zip_getattribute.lookup
 have q3:=F.slot_zip_getattribute.bind (.ref z)
 have q4:=ah9
 unfold Au
 repeat (any_goals (first|assumption|show ty _|((with_reducible change aD _ _ (call (Ee "zip.__getattribute__") _ _) _ _ _);show rT F.slot_zip_getattribute (ty _) ah8 (F.args_zip_getattribute_2 _ _) (aib z G _) ⟨hz,free,λg' Km e I=>?_⟩)|wp_step))
 obtain⟨t',u',he⟩:=I.there
 change aD _ _ (Ei _ _ _ _ _ _ _) _ _ _
 unfold Ei
 repeat (any_goals (first|assumption|wp_step))
 show k _ _ _ I
def aic {z:J}{I:Array ae}{Q:Option ae->aj->Prop}(hz:s.heap.get? z=S {cls:=.type "zip",dict:=Z,data:=.fields I,slots:=#[]})(free:A.handled=Z)
   (k:∀g tk,(∀b o,s.heap.get? b=S o->g.get? b=S o)->Q Z {s with heap:=g,toks:=tk}):aD (aI P w) A (xm (.ref z) "keys") Q E s:=by
 unfold xm getAttrBy?
 show aq (wpAny_mkText (aq (rX (ah7 hz free λg tk e G=>?_))))
 obtain⟨t',u',O⟩:=G.there
 show aq (Eo (T:="AttributeError") (b:=true) ⟨_,O,U⟩ Ek (aS (k g _ G.keeps)))
end
end PySem
namespace L2
open PySem PySem.Spec PyProof.Rows
structure iG (h:Heap)(z TI TO i1 i2 l1 l2:J)(i:Nat):Prop where
 ti:ja h TI (.ref i1) (.ref i2)
 to:∃x y,ja h TO x y
 a:h.IsListIter i1 l1 i
 b:h.IsListIter i2 l2 i
 z:mv h z TI TO .none\/∃T f x y,oX h z TI TO T f/\ja h T x y
def iG.ob {h:Heap}{z TI TO G I l1 l2:J}{i:Nat}(s:iG h z TI TO G I l1 l2 i):∃O,h.get? z=S {cls:=.type "zip",dict:=Z,data:=.fields O,slots:=#[]}:=by
 rcases s.z with e|⟨T,f,x,y,e,_⟩
 . show⟨_,e⟩
 . show⟨_,e⟩
def iG.but {h g:Heap}{z TI TO G I l1 l2 D:J}{i:Nat}(s:iG h z TI TO G I l1 l2 i)(k:Heap.ExtBut D h g)(n1:z≠D)(n2:TI≠D)(n3:TO≠D)(O:G≠D)(n5:I≠D)(dict:∀x y,¬ ja h D x y):iG g z TI TO G I l1 l2 i:=by
 obtain⟨t1,⟨x,y,t2⟩,a,b,zz⟩:=s
 show⟨k _ _ n2 t1,⟨x,y,k _ _ n3 t2⟩,a.extBut k O,b.extBut k n5,?_⟩
 rcases zz with e|⟨T,f,x,y,e,p⟩
 . show .inl (k _ _ n1 e)
 . show .inr ⟨T,f,x,y,k _ _ n1 e,k _ _ (λq=>dict x y (q▸p)) p⟩
section
variable{P:bo}{w:aY}{A:bD}{E:ae->aj->Prop}{s:aj}
def iG.item {z TI TO G I l1 l2:J}{i:Nat}{us vs:Array ae}{u v:ae}{Q:Option ae->aj->Prop}(D:rS z TI TO G I l1 l2)(st:iG s.heap z TI TO G I l1 l2 i)(h1:s.heap.IsList l1 us)(h2:s.heap.IsList l2 vs)(hu:us[i]?=S u)(hv:vs[i]?=S v)
   (k:∀g,iG g z TI TO G I l1 l2 (i+1)->ja g s.heap.objs.size u v->(∀c o,c∉([z,TO,G,I]:↥J)->s.heap.get? c=S o->g.get? c=S o)->Q (S (.ref s.heap.objs.size)) {s with heap:=g}):aD (aI P w) A (lF (.ref z)) Q E s:=by
 obtain⟨O,⟨x,y,t2⟩,a,b,zz⟩:=st
 rcases zz with e|⟨T,f,x',y',e,p⟩
 . show wpAny_pyNext_zip_item D e O t2 a b h1 h2 hu hv λg b1 b2 b3 b4 b5 b6 kk=>k g ⟨kk _ _ D.TIz D.TITO D.TIi1 D.TIi2 O,⟨_,_,b2⟩,b3,b4,.inr ⟨_,_,_,_,b1,b5⟩⟩ b5 λc o hc q=>?_
   simp only[fz,fA,or_false,not_or]at hc
   show kk c o hc.1 hc.2.1 hc.2.2.1 hc.2.2.2 q
 . have nz:T≠z:=λq=>by
     subst q
     have h:=congrArg Obj.cls (dX (e.symm.trans p))
     simp at h
   have n1:T≠G:=λq=>by
     subst q
     obtain⟨o,ho,hc,_⟩:=a
     rw[dX (ho.symm.trans p)]at hc
     simp at hc
   have n2:T≠I:=λq=>by
     subst q
     obtain⟨o,ho,hc,_⟩:=b
     rw[dX (ho.symm.trans p)]at hc
     simp at hc
   show abF D e p O a b h1 h2 hu hv λg b1 b3 b4 b5 kk=>k g ⟨kk _ _ D.TIz D.TIi1 D.TIi2 O,⟨_,_,kk _ _ D.TOz D.TOi1 D.TOi2 t2⟩,b3,b4,.inr ⟨T,true,_,_,b1,kk _ _ nz n1 n2 p⟩⟩ b5 λc o hc q=>?_
   simp only[fz,fA,or_false,not_or]at hc
   show kk c o hc.1 hc.2.2.1 hc.2.2.2 q
def iG.done {z TI TO G I l1 l2:J}{i:Nat}{us vs:Array ae}{Q:Option ae->aj->Prop}(free:A.handled=Z)(D:rS z TI TO G I l1 l2)(st:iG s.heap z TI TO G I l1 l2 i)(h1:s.heap.IsList l1 us)(h2:s.heap.IsList l2 vs)(hu:us[i]?=Z)
   (k:∀g,(∀c o,c∉([z,TO,G,I]:↥J)->s.heap.get? c=S o->g.get? c=S o)->Q Z {s with heap:=g}):aD (aI P w) A (lF (.ref z)) Q E s:=by
 obtain⟨O,⟨x,y,t2⟩,a,b,zz⟩:=st
 rcases zz with e|⟨T,f,x',y',e,p⟩
 . show wpAny_pyNext_zip_end free D e O t2 a b h1 h2 (.inl hu) λg kk=>k g λc o hc q=>?_
   simp only[fz,fA,or_false,not_or]at hc
   show kk c o hc.1 hc.2.1 hc.2.2.1 hc.2.2.2 q
 . show abE free D e p O a b h1 h2 (.inl hu) λg kk=>k g λc o hc q=>?_
   simp only[fz,fA,or_false,not_or]at hc
   show kk c o hc.1 hc.2.2.1 hc.2.2.2 q
end
section
variable{X:Cx}
def aaX {G:↥Key}{ys:↥V}{i:Nat}{k:Key}{y:V}(h1:G[i]?=S k)(h2:ys[i]?=S y):(G.drop i).zip (ys.drop i)=(k,y)::(G.drop (i+1)).zip (ys.drop (i+1)):=by
 have l1:=(List.getElem?_eq_some_iff.mp h1)
 have l2:=(List.getElem?_eq_some_iff.mp h2)
 obtain⟨I,O⟩:=l1
 obtain⟨a2,e2⟩:=l2
 rw[KZ I,KZ a2,O,e2]
 rfl
def ah6 {pins:↥(J×Obj)}{σ:St}{A:bD}{D z TI TO i1 i2 l1 l2:J}{G:↥Key}{ys:↥V}(hh:A.handled=Z)(ap:rS z TI TO i1 i2 l1 l2)(ww:G.length=↑ys) :
   ∀(n i:Nat) (j:Int) (t:Tok) (d:↥(Key×V)) (H:Hp) (s:aj) (R:oQ->aj->Prop),G.length-i=n->i<=G.length->Inv X pins σ H s->H D=S (.dK d)->↑d+n<=sizeLine->af X.K H l1 (G.map kV)->af X.K H l2 ys->(∀c∈([z,TI,TO,i1,i2]:↥J),fC X pins H c) ->
     iG s.heap z TI TO i1 i2 l1 l2 i->(∀s',Inv X pins σ (upd H D (.dK (putAll d ((G.drop i).zip (ys.drop i))))) s'->R (.ok (.ret .none)) s') ->
     hU (aI X.prog X.w) A (.builtin "dict.update.loop" ⟨[.ref D,.ref z,.int j t,.none],[]⟩) R s:=by
 intro n
 induction n using Nat.strongRecOn with
 | _ n ih=>
   intro i j t d H s R hn hi I hD hz eS iW fp st hR
   obtain⟨oi,gO,p1,_⟩:=I.list eS
   obtain⟨jY,kU,p2,_⟩:=I.list iW
   have EQ:=↑gO
   have wP:=↑kU
   rw[aA]at EQ
   have ch:∀c∈([z,TO,i1,i2]:↥J),fC X pins H c:=λc hc=>fp c (by simp only[fz,fA,or_false]at hc ⊢;rcases hc with r|r|r|r<;>simp[r])
   show LB OX ?_
   have hA:(A.under (.builtin "dict.update.loop" ⟨[.ref D,.ref z,.int j t,.none],[]⟩)).handled=Z:=hh
   generalize A.under (.builtin "dict.update.loop" ⟨[.ref D,.ref z,.int j t,.none],[]⟩)=A' at hA ⊢
   unfold gZ.«dict.update.loop»
   change aD _ _ (lF (.ref z)>>=_) _ _ _
   by_cases cE:i<G.length
   . obtain⟨kk,hk⟩ : ∃kk,G[i]?=S kk:=⟨G[i],bB cE⟩
     obtain⟨yy,hy⟩ : ∃yy,ys[i]?=S yy:=⟨ys[i]'⋯,bB ⋯⟩
     obtain⟨u,hu,ru⟩:=gO.get (show(G.map kV)[i]?=S (kV kk)by rw[eI,hk];rfl)
     obtain⟨v,hv,rv⟩:=kU.get hy
     show aq (st.item ap p1.isList p2.isList (u:=u) (v:=v) (by simpa using hu) (by simpa using hv) λg oE np kp=>?_)
     have I1:Inv X pins σ H {s with heap:=g}:=I.yQ (t':=s.toks) ch kp
     show aq (hW (aq (wpAny_tryCatch (OY (show({s with heap:=g}:aj).heap.IsTuple s.heap.objs.size #[u,v]from⟨_,np,U,_,U⟩) ?_))))
     change aD _ _ (jr [u,v] (dictSet D u v)) _ _ _
     obtain⟨_,iV,vs,wT,dd⟩:=Bh I1.hok hD
     have G2:↑vs<=sizeLine:=by rw[← ↑wT];lia
     have ZA:↑(putK d kk yy)<=↑d+1:=pS d kk yy
     show hW (LG (hsz:=G2) (pQ ru) dd λh2 gW PP=>?_)
     have he:∃q,h2.get? D=S q:=by obtain⟨q,_,_,hq,_⟩:=gW;show⟨q,hq⟩
     have ne:∀c∈([z,TI,TO,i1,i2]:↥J),c≠D:=λc hc q=>by have:=(fp c hc).1;rw[q,hD]at this;cases this
     have O:∀{l:J} {xs:↥V},af X.K H l xs->af X.K (upd H D (.dK (putK d kk yy))) l xs:=λhq=>by
       rcases hq with(q|⟨o,q⟩)|q
       . show .inl (.inl (by rw[aC (i6 q hD (λz=>nomatch z))];show q))
       . show .inl (.inr ⟨o,by rw[aC (i6 q hD (λz=>nomatch z))];show q⟩)
       . show .inr q
     have nodict:∀x y,¬ ja g D x y:=λx y q=>by
       obtain⟨o,ho,hc⟩:=(show Shared.TypeIs {s with heap:=g} (.ref D) "dict" from dd.typeIs)
       rw[dX (ho.symm.trans q)]at hc
       simp at hc
     show aS ⟨zV _ (by right),?_⟩
     show ih (G.length-(i+1)) ⋯ (i+1) _ _ (putK d kk yy) (upd H D (.dK (putK d kk yy))) _ R rfl cE (sY (t':=_) I1 (by rw[hD];show bK) PP he (Bg ⋯ iV (wT.put kk rv) gW)) ai ⋯ (O eS) (O iW) (λc hc=>⟨by rw[aC (ne c hc)];show(fp c hc).1,(fp c hc).2⟩)
       (oE.but PP.extBut (ne z (by simp)) (ne TI (by simp)) (ne TO (by simp)) (ne i1 (by simp)) (ne i2 (by simp)) nodict) ?_
     intro s' I'
     rw[kZ]at I'
     rw[aaX hk hy]at hR
     show hR s' I'
   . have Gg:G.length<=i:=⋯
     show aq (st.done hA ap p1.isList p2.isList (by simp;lia) λg kp=>?_)
     have I1:Inv X pins σ H {s with heap:=g}:=I.yQ (t':=s.toks) ch kp
     have e0:(G.drop i).zip (ys.drop i)=[]:=by rw[Uu Gg];rfl
     have e:upd H D (.dK (putAll d ((G.drop i).zip (ys.drop i))))=H:=by
       rw[e0]
       funext b
       unfold upd
       split
       . rename_i hb;rw[hb,hD];rfl
       . rfl
     rw[e]at hR
     change aD _ _ (Ui D []>>=_) _ _ _
     show aq (aS (aS (hR _ I1)))
end
def iG.up {h g:Heap}{z TI TO G I l1 l2:J}{i:Nat}(s:iG h z TI TO G I l1 l2 i)(k:∀c o,h.get? c=S o->g.get? c=S o):iG g z TI TO G I l1 l2 i:=by
 obtain⟨O,⟨x,y,t2⟩,a,b,zz⟩:=s
 show⟨k _ _ O,⟨x,y,k _ _ t2⟩,a.at λo e=>k _ o e,b.at λo e=>k _ o e,?_⟩
 rcases zz with e|⟨T,f,x,y,e,p⟩
 . show .inl (k _ _ e)
 . show .inr ⟨T,f,x,y,k _ _ e,k _ _ p⟩
def S0 (K:av)(ta:TA):TE:=λσ H Q=>ta σ H λvs H1=>∃(l1 l2:J) (G:↥Key) (ys:↥V),vs=[.ref l1,.ref l2]/\af K H1 l1 (G.map kV)/\af K H1 l2 ys/\G.length=↑ys/\G.length<=1000/\∀D,H1 D=Z->Q (.ref D) (upd H1 D (.dK (putAll [] (G.zip ys))))
section
variable{X:Cx}{a b:Expr}{ta:TA}{p1 p2 ci eB:Pos}
def aev (hc:X.calm=true)(hg1:Gl X "dict")(hm1:X.mg "dict"=Z)(hg2:Gl X "zip")(hm2:X.mg "zip"=Z)(ha:iF X [a,b] ta)(hb:fN b)(hv1:jc "dict"=S (.type "dict"):=by first|rfl|decide +kernel)(hv2:jc "zip"=S (.type "zip"):=by first|rfl|decide +kernel) :
   PE X (.Call (.Name "dict" p1) [.Call (.Name "zip" p2) [a,b] [] eB] [] ci) (S0 X.K ta):=by
 intro pins s σ H Q I h
 show nD (md I hg1 hm1 hv1 ?_ ∅ ∅)
 show oO ?_ rfl rfl
 change aD _ _ (spliced ((false,eval (.Call (.Name "zip" p2) [a,b] [] eB) X.env)::[])) _ _ s
 show uH (nD (md I hg2 hm2 hv2 ?_ ∅ ∅))
 show oO (aO (ha.pa eB pins s σ H _ I h) λus G h9=>?_) ((ha.ns a [b] rfl).1.h [b] X.env) ((ha.ns a [b] rfl).2 eB X.env)
 obtain⟨vs,H1,I1,r1,q1⟩:=h9
 obtain⟨l1,l2,ks,ys,e,eS,iW,mo,NG,q⟩:=q1
 subst e
 obtain⟨u,v,rfl,ru,rv⟩:=Vals.two r1
 obtain rfl:u=bU l1:=ru
 obtain rfl:v=bU l2:=rv
 obtain⟨oi,gO,p1,_⟩:=I1.list eS
 obtain⟨jY,kU,p2,_⟩:=I1.list iW
 have yM:l1<G.heap.objs.size:=by obtain⟨_,_,e,_⟩:=p1;show bX e
 have yN:l2<G.heap.objs.size:=by obtain⟨_,_,e,_⟩:=p2;show bX e
 show call_zip_2 p1.isList p2.isList λh' hz Tk kG lU kJ hsz hk=>zT ?_
 have hh:X.A.handled=Z:=I1.ok.hd hc
 have ap:=zipApart_new yM yN
 have st:iG h' (G.heap.objs.size+4) (G.heap.objs.size+2) (G.heap.objs.size+3) G.heap.objs.size (G.heap.objs.size+1) l1 l2 0:=⟨Tk,⟨_,_,kG⟩,lU,kJ,.inl hz⟩
 have I2:Inv X pins σ H1 {G with heap:=h'}:=I1.kept (t':=G.toks) hk
 have up:∀k,fC X pins H1 (G.heap.objs.size+k):=λk=>I1.nU (rO _ _) (I1.hok.fresh (rO _ _))
 have O:∀c∈([G.heap.objs.size+4,G.heap.objs.size+2,G.heap.objs.size+3,G.heap.objs.size,G.heap.objs.size+1]:↥J),fC X pins H1 c/\c<h'.objs.size:=λc kI=>by
   simp only[fz,fA,or_false]at kI
   rw[hsz]
   rcases kI with rfl|rfl|rfl|rfl|rfl
   . show⟨up 4,Lk _⟩
   . show⟨up 2,by change _+2<_+5;show D4 ∅ _⟩
   . show⟨up 3,by change _+3<_+5;show D4 ∅ _⟩
   . show⟨up 0,by change _+0<_+5;show D4 ∅ _⟩
   . show⟨up 1,by change _+1<_+5;show D4 ∅ _⟩
 generalize G.heap.objs.size+4=z at hz st ap O ⊢
 generalize G.heap.objs.size+2=TI at hz Tk st ap O
 generalize G.heap.objs.size+3=TO at hz kG st ap O
 generalize G.heap.objs.size+1=i2 at st ap O
 generalize G.heap.objs.size=i1 at st ap O
 have hD:H1 h'.objs.size=Z:=I2.hok.fresh (aK _)
 have I3:Inv X pins σ (upd H1 h'.objs.size (.dK [])) {G with heap:=h'.push {cls:=.type "dict",data:=.dict #[]} }:=I2.laid (t':=G.toks) (λy y e=>di _ e) (aK _) (Fv h' I2.big)
 have kW:=st.up (g:=h'.push {cls:=.type "dict",data:=.dict #[]}) λc o e=>di _ e
 show callType_codes (s:={G with heap:=h'}) (Q₁:=λobj t=>obj=.ref h'.objs.size/\t={G with heap:=h'.push {cls:=.type "dict",data:=.dict #[]} }) F.kt_called_dict (F.kt_typeCall_dict_1 _) F.entry_dict_init (kt_code_dict_new _ ⟨U,U⟩) ?_
 rintro obj t ⟨rfl,rfl⟩
 have qP:(h'.push {cls:=.type "dict",data:=.dict #[]}).DictOf (eU X.prog X.w) h'.objs.size []:=Heap.DictOf.new h'
 have Nn:∀c∈([z,TI,TO,i1,i2]:↥J),fC X pins (upd H1 h'.objs.size (.dK [])) c:=λc kI=>⟨by rw[aC (eV (O c kI).2)];show(O c kI).1.1,(O c kI).1.2⟩
 generalize yG:({G with heap:=h'.push {cls:=.type "dict",data:=.dict #[]} }:aj)=s3 at I3 ⊢
 have Gs:s3.heap.DictOf (eU X.prog X.w) h'.objs.size []:=by rw[← yG];show qP
 have hz3:mv s3.heap z TI TO .none:=by rw[← yG];show di _ hz
 have Sh:iG s3.heap z TI TO i1 i2 l1 l2 0:=by rw[← yG];show kW
 generalize h'.objs.size=D at hD I3 Gs Nn ⊢
 have keepL:∀{l:J} {xs:↥V},af X.K H1 l xs->af X.K (upd H1 D (.dK [])) l xs:=λhq=>by
   rcases hq with(r|⟨o,r⟩)|r
   . show .inl (.inl (by rw[aC (aR r hD)];show r))
   . show .inl (.inr ⟨o,by rw[aC (aR r hD)];show r⟩)
   . show .inr r
 show⟨Gs.typeIs,F.args_dict_init_2 _ _,?_⟩
 unfold gZ.«dict.__init__»
 show aq ?_
 unfold Uk
 show aq (LJ Gs.typeIs ?_)
 change aD _ _ (pure (D,[bU z])) _ _ _
 show aS ?_
 change aD _ _ (DG "dict.__init__" D (.ref z) [] .none) _ _ _
 unfold DG
 obtain⟨fl,eo⟩:=Sh.ob
 show aq (Er (T:="zip") ⟨_,eo,U⟩ ?_)
 rw[aB ∅]
 show aq (aic eo hh λg tk kk=>?_)
 rw[aB (show(Option.isNone (Z:Option ae))=true from rfl)]
 have I4:Inv X pins σ (upd H1 D (.dK [])) {s3 with heap:=g,toks:=tk}:=I3.kept kk
 have rq:iG g z TI TO i1 i2 l1 l2 0:=Sh.up kk
 show aq (nE (aq (AE (kk _ _ hz3) (aS ⟨zV _ (by right),?_⟩))))
 show ah6 (D:=D) (pins:=pins) (σ:=σ) (A:=X.A.in1) (show X.A.in1.handled=Z from hh) ap mo ↑ks 0 _ _ [] _ _ _ (by simp) (fL _) I4 ai (by simp;show ck NG ∅) (keepL eS) (keepL iW) Nn rq ?_
 intro s' I'
 rw[kZ,wU,wU]at I'
 show⟨U,.ref D,_,I',U,q D hD⟩
end
end L2
namespace L3
open PySem PySem.Spec PyProof.Rows L2
def Wz {X:Cx}{a b:Expr}{t:TA}{p1 p2 ci eB:Pos}{KK:av}(G:Gl X "dict")(I:X.mg "dict"=Z)(O:Gl X "zip")(hm2:X.mg "zip"=Z)(ha:SA X [a,b] t)(hb:fN b:=by first|show ub|show uc|show ua)(hc:X.calm=true:=by rfl)(hK:X.K=KK:=by first|show L3.dF|show L3.dE|rfl) :
   SE X (.Call (.Name "dict" p1) [.Call (.Name "zip" p2) [a,b] [] eB] [] ci) (S0 KK t):=by
 subst hK
 show⟨aev hc G I O hm2 ha.h hb⟩
end L3
namespace L2
open PySem PySem.Spec PyProof.Rows
section
variable{X:Cx}{ci:Pos}
def Tg (i j k:Nat)(ta:TA):TS:=λD σ H=>ta σ H λvs H1=>∃u v w,vs=[u,v,w]/\D.nx (((σ.set i (S u)).set j (S v)).set k (S w)) H1
def afu {i j k:Nat}{x y z:Str}{a b c:Expr}{ta:TA}{px py pz pt:Pos}{kt k2 i7}(hc:X.calm=true)(hN:X.N.Nodup)(hi:X.N[i]?=S x)(hj:X.N[j]?=S y)(hk:X.N[k]?=S z)(hij:i≠j)(hik:i≠k)(hjk:j≠k)
   (hx:X.env.scope.names.lookup x=S .local) (hy:X.env.scope.names.lookup y=S .local) (hzl:X.env.scope.names.lookup z=S .local) (ha:PA X [a,b,c] ta)
   (hw:xq [.Tuple [.Name x px,.Name y py,.Name z pz] kt pt] (.Tuple [a,b,c] k2 i7) X.env=pure (S [x,y,z]))
   (hs:xr [.Tuple [.Name x px,.Name y py,.Name z pz] kt pt] (.Tuple [a,b,c] k2 i7) ci.line X.env=pure false:=by rfl) :
   PS X (.Assign [.Tuple [.Name x px,.Name y py,.Name z pz] kt pt] (.Tuple [a,b,c] k2 i7) ci) (Tg i j k ta):=by
 intro pins s σ H D I h
 rw[exec_Assign_arm]
 show aq (qw ?_)
 rw[hs]
 show aq (aS ?_)
 rw[az ∅]
 show aq (Tuple_ (aO (ha _ pins s σ H _ I h) λus G h9=>?_))
 obtain⟨vs,H1,I1,r1,q1⟩:=h9
 obtain⟨u,v,w,e1,q1⟩:=q1
 subst e1
 obtain⟨u1,u2,O,rfl,ru,rv,rw'⟩ : ∃u1 u2 O,us=[u1,u2,O]/\RelV u u1/\RelV v u2/\RelV w O:=by
   cases r1 with
   | cons p q=>
     cases q with
     | cons p' q'=>
       cases q' with
       | cons p'' q''=>
         cases q''
         show⟨_,_,aa U ⟨p,p',p''⟩⟩
 show rY ?_ alL
 have I2:Inv X pins σ H1 {G with heap:=G.heap.push {cls:=.type "tuple",data:=.seq [u1,u2,O].toArray} }:=I1.kept (t':=G.toks) λb o e=>di _ e
 rw[hw]
 show aq (aS ?_)
 change aD (aI X.prog X.w) X.A (do rule "assign.swapped-stores";let items←unpackItems (.ref G.heap.objs.size) 3 Z;As [λv=>oS X.env z v,λv=>oS X.env y v,λv=>oS X.env x v] items.reverse;pure Flow.next) _ _ _
 show aq (nE (aq (unpackItems_tuple (items:=#[u1,u2,O]) (I.ok.hd hc) (IsTup.new G.heap _) λh' qV=>?_)))
 have I3:=I2.kept (h':=h') (t':=G.toks) λb o e=>qV b o (eV (bX e)) e
 change aD _ _ (As [λv=>oS X.env z v,λv=>oS X.env y v,λv=>oS X.env x v] [O,u2,u1]>>=λt=>pure Flow.next) _ _ _
 show aq (xi (Ax (rA I3 hN hk (.inl hzl) rw' (λs2 I4=>?_) (.inr hzl))))
 show xi (Ax (rA I4 hN hj (.inl hy) rv (λs3 I5=>?_) (.inr hy)))
 show xi (Ax (rA I5 hN hi (.inl hx) ru (λs4 I6=>Ly (aS ?_)) (.inr hx)))
 have e:((σ.set k (S w)).set j (S v)).set i (S u)=((σ.set i (S u)).set j (S v)).set k (S w):=by
   rw[D2 _ _ hjk.symm,D2 _ _ hik.symm,D2 _ _ hij.symm]
 rw[e]at I6
 show⟨_,H1,I6,q1⟩
end
end L2
namespace L3
open PySem PySem.Spec PyProof.Rows L2
section
variable{X:Cx}{a b c e o:Expr}{es:↥Expr}{ta tb tc te:TE}{t:TA}{ci:Pos}
def Qc (i j k:Nat){x y z:Str}{G I O pt:Pos}{kt k2 i7}(hN:X.N.Nodup)(ha:SA X [a,b,c] t)(hi:X.N[i]?=S x:=by rfl)(hj:X.N[j]?=S y:=by rfl)(hk:X.N[k]?=S z:=by rfl)(hij:i≠j:=by left)(hik:i≠k:=by left)(hjk:j≠k:=by left)
   (hx:X.env.scope.names.lookup x=S .local:=by rfl) (hy:X.env.scope.names.lookup y=S .local:=by rfl) (hzl:X.env.scope.names.lookup z=S .local:=by rfl)
   (hw:xq [.Tuple [.Name x G,.Name y I,.Name z O] kt pt] (.Tuple [a,b,c] k2 i7) X.env=pure (S [x,y,z]):=by rfl)
   (hs:xr [.Tuple [.Name x G,.Name y I,.Name z O] kt pt] (.Tuple [a,b,c] k2 i7) ci.line X.env=pure false:=by rfl) (hc:X.calm=true:=by rfl) :
   SS X (.Assign [.Tuple [.Name x G,.Name y I,.Name z O] kt pt] (.Tuple [a,b,c] k2 i7) ci) (Tg i j k t):=⟨afu hc hN hi hj hk hij hik hjk hx hy hzl ha.h.pa hw hs⟩
def M0 {f:Expr}{tf:TE}{lv:Pos}(hu:X.A.units+1<dC)(G:SE X o ta)(I:SE X e te)(hf:SE X f tf)(m:M2 X o "get" lv e f ci:=by show⟨rfl,rfl,rfl,rfl⟩):SE X (.Call (.Attribute o "get" lv) [e,f] [] ci) (SJ ta te tf):=⟨aeu hu G.h I.h hf.h m⟩
end
end L3
namespace L2
open PySem PySem.Spec PyProof.Rows
end L2
namespace L3
open PySem PySem.Spec PyProof.Rows L2
section
variable{X:Cx}{a b c e o:Expr}{es:↥Expr}{ta tb tc te:TE}{t:TA}{ci pi:Pos}{P:bo}{w:aY}
def Fm {KK:av}(G:X.K=KK:=by first|show L3.dF|show L3.dE|rfl):SC X (.type "tuple") (λxs H Q=>∃p ys,xs=[.ref p]/\af KK H p ys/\∀l,H l=Z->Q (.ref l) (upd H l (.tup ys))):=by
 subst G
 show⟨λpins s σ H xs us Q I r h=>?_⟩
 obtain⟨p,ys,e,hq,q⟩:=h
 show VW pins s σ H xs us Q I r ⟨p,ys,e,.inl ⟨hq,q⟩⟩
end
end L3
namespace L2
open PySem PySem.Spec PyProof.Rows
def ab0 {a b p}:fN (.Dict a b p):=me λy y z=>nomatch z
def S7 (ta:TA):TE:=λσ H Q=>ta σ H λvs H1=>∃n:Nat,vs=[.int n]/\n<=100000/\∀l,H1 l=Z->Q (.ref l) (upd H1 l (.lst ((cj n).map λi:Nat=>V.int i)))
section
variable{X:Cx}{a b:Expr}{ta:TA}{tx ty:TE}{p1 p2 ci eB:Pos}
def aeF (hc:X.calm=true)(O:Gl X "list")(hm1:X.mg "list"=Z)(hg2:Gl X "range")(hm2:X.mg "range"=Z)(ha:iF X [a] ta)(hv1:jc "list"=S (.type "list"):=by first|rfl|decide +kernel) :
   PE X (.Call (.Name "list" p1) [.Call (.Name "range" p2) [a] [] eB] [] ci) (S7 ta):=by
 intro pins s σ H Q I h
 show nD (md I O hm1 hv1 ?_ ∅ ∅)
 show oO ?_ rfl rfl
 change aD _ _ (spliced ((false,eval (.Call (.Name "range" p2) [a] [] eB) X.env)::[])) _ _ s
 show uH (nD (md I hg2 hm2 boot_range ?_ ∅ ∅))
 show oO (aO (ha.pa eB pins s σ H _ I h) λus G h9=>?_) ((ha.ns a [] rfl).1.h [] X.env) ((ha.ns a [] rfl).2 eB X.env)
 obtain⟨vs,H1,I1,r1,q1⟩:=h9
 obtain⟨n,e,hn,q⟩:=q1
 subst e
 obtain⟨u,rfl,ru⟩:=vals1 r1
 obtain⟨t,rfl⟩:=ru
 show call_range_1 (zT ?_)
 have I2:Inv X pins σ H1 {G with heap:=G.heap.push {cls:=.type "range",data:=.fields #[.int 0 G.toks,.int n t,.int 1 (G.toks+1)]},toks:=G.toks+1+1}:=I1.kept (t':=G.toks+1+1) λb o e=>di _ e
 have sz:KP 0 n 1=(n:Int):=by
   unfold KP
   rw[aB ∅]
   by_cases z:(0:Int)<n
   . rw[aB z,DO]
     lia
   . rw[az z]
     lia
 have sm:Builtin.Range.small 0 n 1=true:=by
   show small_one ⋯ ⋯ ⋯ ⋯
 show call_list_range (n:=n) (I2.ok.hd hc) (hG _ rfl) sm sz (ck hn ∅) λh' tk v6 c' hk hS NX=>⟨V.ref (G.heap.push {cls:=.type "range",data:=.fields #[.int 0 G.toks,.int n t,.int 1 (G.toks+1)]}).objs.size,_,I2.laid (a:=(G.heap.push {cls:=.type "range",data:=.fields #[.int 0 G.toks,.int n t,.int 1 (G.toks+1)]}).objs.size) (o:=.lst ((cj n).map λi:Nat=>V.int i)) (t':=tk) hk (aK _) ⟨by rw[aA,lp];show ck hn ∅,v6.toList,c',?_,by simpa using hS⟩,U,q _ (I2.hok.fresh (aK _))⟩
 have go:∀(l:↥ae) (m:Nat),(∀j v,l[j]?=S v->∃t,v=rR ((m+j:Nat):Int) t)->Vals ((List.range' m ↑l).map λi:Nat=>V.int i) l:=by
   intro l
   induction l with
   | nil=>intro m _;show .nil
   | cons v r ih=>
     intro m hl
     obtain⟨t,e⟩:=hl 0 v rfl
     show .cons ⟨t,e⟩ (ih (m+1) λj v hj=>?_)
     obtain⟨t,e⟩:=hl (j+1) v hj
     show⟨t,by rw[e,show m+1+j=m+(j+1)by lia]⟩
 have z:=go v6.toList 0 λj v hj=>by
   obtain⟨t,e⟩:=NX.2 j v (by rw[← Ug];show hj)
   show⟨t,by rw[e,show(0:Int)+(j:Int)*1=((0+j:Nat):Int)by lia]⟩
 rw[DC,NX.1,← List.range_eq_range']at z
 show z
end
end L2
namespace L3
open PySem PySem.Spec PyProof.Rows L2
section
variable{X:Cx}{a b c e o:Expr}{es:↥Expr}{ta tb tc te:TE}{t:TA}{ci:Pos}
def aa8 {p1 p2 eB:Pos}(G:Gl X "list")(I:X.mg "list"=Z)(O:Gl X "range")(hm2:X.mg "range"=Z)(ha:SA X [a] t)(hc:X.calm=true:=by rfl):SE X (.Call (.Name "list" p1) [.Call (.Name "range" p2) [a] [] eB] [] ci) (S7 t):=⟨aeF hc G I O hm2 ha.h⟩
def JD {KK:av}{p2:Pos}(ha:SE X a ta)(hb:SE X b tb)(G:X.K=KK:=by first|show L3.dF|show L3.dE|rfl):SE X (.Subscript a (.Slice (S b) Z Z p2) ci) (zJ (Cv KK) ta (wM tb) Dp):=by
 subst G
 show⟨Cp JF ha.h (zp hb.h) IJ⟩
end
end L3
namespace TW
end TW
namespace L2
open PySem PySem.Spec PyProof.Rows
end L2
namespace L3
open PySem PySem.Spec PyProof.Rows L2
end L3
namespace L2
open PySem PySem.Spec PyProof.Rows SeqAt
end L2
namespace L3
open PySem PySem.Spec PyProof.Rows L2
def P6 {X:Cx}:SO X (f7 .Mult) QI:=⟨adH⟩
end L3
namespace L2
open PySem PySem.Spec PyProof.Rows
def dj.ex {P:bo}{w:aY}{H:Hp}{h:Heap}{a:J}{o:HO}(x:dj P w H h a o):∃ob,h.get? a=S ob:=by
 cases o with
 | lst xs=>obtain⟨_,_,_,_,e⟩:=x;show⟨_,e⟩
 | tup xs=>obtain⟨_,_,_,ob,e,_⟩:=x;show⟨ob,e⟩
 | dK kvs=>obtain⟨_,_,_,_,o,_,_,e,_⟩:=x;show⟨o,e⟩
 | dT kvs=>obtain⟨_,_,_,_,o,_,_,e,_⟩:=x;show⟨o,e⟩
 | set S8 n=>obtain⟨o,_,_,_,e,_⟩:=x;show⟨o,e⟩
 | ins C dx fs=>obtain⟨_,_,_,e,_⟩:=x;show⟨_,e⟩
 | own y=>obtain⟨ob,e⟩:=x;show⟨ob,e⟩
 | xd fs=>obtain⟨_,⟨ob,_,_,e,_⟩,_⟩:=x;show⟨ob,e⟩
 | rng lo hi=>obtain⟨_,_,_,e⟩:=x;show⟨_,e⟩
 | frz ob u=>obtain⟨e,_⟩:=x;show⟨ob,e⟩
 | tbl ps=>show⟨_,(show h.get? a=S _ from x)⟩
 | met f y=>show⟨_,(show h.get? a=S _ from x)⟩
 | ext φ=>obtain⟨_,⟨ob,e⟩,_⟩:=x;show⟨ob,e⟩
def ib (P:bo)(w:aY)(base:Heap):js:=λouter H s E e s'=>∃(ea:J) (cls G:ae) (B:Heap) (H':Hp),e=.ref ea/\s'.os=s.os/\oH s'.gens/\Un (eF outer) [] H H' s.heap s'.heap/\dH P w H' s'.heap /\
 base.StaysIn B/\Heap.FlyingW B outer ea cls G s'.heap/\(∀b o,s.heap.get? b=S o->b∉eF outer->∃o',B.get? b=S o')/\(∀b u,H' b=S u->∃o,B.get? b=S o)/\s.heap.get? ea=Z/\E cls Z H'
section
variable{P:bo}{w:aY}{K:av}{mg:Str->Option ae}{base:Heap}{N:↥Str}{qual:Str}{f8:cG}{f:J}{cd:ae}{A:bD}{outer:↥Env}{s:aj}{H:Hp}{E:XK}
def Kf {H1:Hp}{h B g:Heap}(ok:dH P w H1 h)(G:∀b u,H1 b=S u->∃o,B.get? b=S o)(O:B.StaysIn h)(sg:B.StaysIn g):dH P w H1 g:=λa u e=>by
 show(ok a u e).mm (λb o hb q=>?_) (λz q=>q) (λz z q=>q)
 have Bv:∃v,H1 b=S v:=by
   rcases hb with rfl|hb
   . show⟨u,e⟩
   . show⟨_,hb⟩
 obtain⟨v,hv⟩:=Bv
 obtain⟨o',I⟩:=G b v hv
 have:=O b o' I
 rw[q]at this
 cases this
 show sg b o I
def aa4 {pins:↥(J×Obj)}{σ:St}{H1:Hp}{O:aj}{h':Heap}{e:J}{cls:ae}{args:↥ae}(I:Inv (gV (ib P w base) P w K mg base N qual f8 f cd A outer s H E) pins σ H1 O)(hx:Heap.MadeExcOf O.heap h' e cls args)(q:E cls Z H1) :
   (gV (ib P w base) P w K mg base N qual f8 f cd A outer s H E).xe (.ref e) {O with heap:=h'}:=by
 have GN:(gV (ib P w base) P w K mg base N qual f8 f cd A outer s H E).stack=fM qual f8 s.heap.objs.size f cd::outer:=rfl
 have fr:O.heap.FunFrames base (fM qual f8 s.heap.objs.size f cd::outer):=I.stack
 have frf:=I.Kh
 rw[GN]at frf
 have u8:∀b o,base.get? b=S o->O.heap.get? b=S o:=I.bk
 have fV:Un (eF outer) [] H H1 s.heap O.heap:=I.base
 have hex:∀b:J,b∉([]:↥J):=λb z=>nomatch z
 have hloc:∀b o,s.heap.get? b=S o->b∉eF outer->b∉eF (fM qual f8 s.heap.objs.size f cd::outer):=λb o hb hn hm=>by
   rcases List.mem_cons.mp (show b∈s.heap.objs.size::eF outer from hm)with z|z
   . show ao (bX hb) (by rw[z];show rP _)
   . show hn z
 let B:=PySem.W.hideAll O.heap (eF (fM qual f8 s.heap.objs.size f cd::outer))
 have G:∀b o,O.heap.get? b=S o->b∉eF (fM qual f8 s.heap.objs.size f cd::outer)->B.get? b=S o:=λb o hb hn=>UJ _ hb hn
 have Mo:B.StaysIn O.heap:=λb o hb=>UN _ hb
 have Dd:base.StaysIn B:=λb o hb=>G b o (u8 b o hb) λhm=>by
   have:=(fr.mem hm).1
   rw[hb]at this
   cases this
 have Xh:O.heap.FunFrames B (fM qual f8 s.heap.objs.size f cd::outer):=PySem.W.funFrames_hide fr λenv he a ha=>List.mem_filterMap.mpr ⟨env,he,ha⟩
 have kY:∀b u,H1 b=S u->∃o,B.get? b=S o:=λb u hu=>by
   obtain⟨o,ho⟩:=(I.hok b u hu).ex
   show⟨o,G b o ho λhm=>?_⟩
   rw[frf b hm]at hu
   cases hu
 show wpAny_leaves_madeW (base:=B) (h:=O.heap) (args:=args) I.ok.frames rfl Mo Xh hx λh2 t x1 x2 x3 x4=>⟨e,cls,.ref t,B,H1,U,I.os,I.bare,⟨λb o hb n hf y=>?_,λb o hb n hf y=>?_,λb o hb n y=>fV.free b o hb n (hex b),λb o hb y=>?_,fV.tups,fV.frzs,fV.tbls⟩,Kf I.hok kY Mo x1.1,Dd,x1,λb o hb hf=>?_,kY,?_,q⟩
 . show x1.1 b o (G b o (fV.keep b o hb n hf (hex b)) (hloc b o hb hf))
 . obtain⟨sl,e1⟩:=fV.slot b o hb n hf (hex b)
   obtain⟨_,o2,ip,hd2⟩:=fr.mem (show b∈eF (fM qual f8 s.heap.objs.size f cd::outer)from qt _ hf)
   rw[e1]at ip
   cases ip
   obtain⟨JC,e2⟩:=x4 b _ (hx.keeps b _ e1) hd2
   show⟨JC,e2⟩
 . obtain⟨o1,e1⟩:=fV.there b o hb (hex b)
   by_cases hm:b∈eF (fM qual f8 s.heap.objs.size f cd::outer)
   . obtain⟨_,o2,ip,hd2⟩:=fr.mem hm
     obtain⟨JC,e2⟩:=x4 b _ (hx.keeps b _ ip) hd2
     show⟨_,e2⟩
   . show⟨o1,x1.1 b o1 (G b o1 e1 hm)⟩
 . obtain⟨o1,e1⟩:=fV.there b o hb (hex b)
   show⟨o1,G b o1 e1 (hloc b o hb hf)⟩
 . cases z:s.heap.get? e with
   | none=>rfl
   | some o=>
     obtain⟨o1,e1⟩:=fV.there e o z (hex e)
     rw[hx.new]at e1
     cases e1
def ad4 {E':XK}(hE:∀c d H2,E' c d H2->E c d H2):Passes (ib P w base) (gV (ib P w base) P w K mg base N qual f8 f cd A outer s H E) E':=by
 intro pins σ H1 s1 e s2 I cx
 obtain⟨ea,cls,a0,B,H2,rfl,Iy,E7,m9,Gz,Dd,mH,inB,kY,Cb,q⟩:=cx
 have O:Un (eF outer) [] H H1 s.heap s1.heap:=I.base
 have hex:∀b:J,b∉([]:↥J):=λb z=>nomatch z
 have GN:(gV (ib P w base) P w K mg base N qual f8 f cd A outer s H E).stack=fM qual f8 s.heap.objs.size f cd::outer:=rfl
 rw[GN]at mH m9 inB
 have hloc:∀b o,s.heap.get? b=S o->b∉eF outer->b∉eF (fM qual f8 s.heap.objs.size f cd::outer):=λb o hb hn hm=>by
   rcases List.mem_cons.mp (show b∈s.heap.objs.size::eF outer from hm)with z|z
   . show ao (bX hb) (by rw[z];show rP _)
   . show hn z
 have vm:=mH.2.2.1
 have sB2:=mH.1
 show wpAny_leaves_onW I.ok.frames rfl mH λh3 x1 x2=>?_
 have OM:∀b o,s.heap.get? b=S o->b∉eF outer->∃o',B.get? b=S o':=λb o hb hf=>by
   obtain⟨o1,G⟩:=O.there b o hb (hex b)
   show inB b o1 G (hloc b o hb hf)
 show⟨ea,cls,a0,B,H2,U,Iy.trans I.os,E7,⟨λb o hb n hf y=>?_,λb o hb n hf y=>?_,λb o hb n y=>?_,λb o hb y=>?_,λb xs h=>m9.tups b xs (O.tups b xs h),λb o u h=>m9.frzs b o u (O.frzs b o u h),λb ps h=>?_⟩,Kf Gz kY sB2 x1.1,Dd,x1,OM,kY,?_,hE _ _ _ q⟩
 . have G:=O.keep b o hb n hf (hex b)
   have n1:=O.free b o hb n (hex b)
   have e2:=m9.keep b o G n1 (hloc b o hb hf) (hex b)
   obtain⟨o',Ps⟩:=OM b o hb hf
   have e3:=sB2 b o' Ps
   rw[e2]at e3
   cases e3
   show x1.1 b o Ps
 . obtain⟨sl,G⟩:=O.slot b o hb n hf (hex b)
   have n1:=O.free b o hb n (hex b)
   obtain⟨JC,e2⟩:=m9.any G n1 (hex b)
   obtain⟨_,o2,ip,hd2⟩:=vm.mem (show b∈eF (fM qual f8 s.heap.objs.size f cd::outer)from qt _ hf)
   rw[e2]at ip
   cases ip
   obtain⟨RU,e3⟩:=x2 b _ e2 hd2
   show⟨RU,e3⟩
 . obtain⟨o1,G⟩:=O.there b o hb (hex b)
   show m9.free b o1 G (O.free b o hb n (hex b)) (hex b)
 . obtain⟨o1,G⟩:=O.there b o hb (hex b)
   obtain⟨o2,e2⟩:=m9.there b o1 G (hex b)
   by_cases hm:b∈eF (fM qual f8 s.heap.objs.size f cd::outer)
   . obtain⟨_,o3,ZO,YX⟩:=vm.mem hm
     obtain⟨RU,e3⟩:=x2 b _ ZO YX
     show⟨_,e3⟩
   . obtain⟨o',Ps⟩:=inB b o1 G hm
     show⟨o',x1.1 b o' Ps⟩
 . obtain⟨m1,G⟩:=O.tbls b ps h
   obtain⟨m2,e2⟩:=m9.tbls b _ G
   show⟨m1++m2,by rw[e2,Array.append_assoc]⟩
 . cases z:s.heap.get? ea with
   | none=>rfl
   | some o=>
     obtain⟨o1,G⟩:=O.there ea o z (hex ea)
     rw[Cb]at G
     cases G
end
abbrev vE:↥ae:=[.type "ValueError",.type "Exception",.type "BaseException",.type "object"]
def Bd (K:av)(C:J):Option (↥ae):=match K.lookup C with
 | some ⟨_,_,.cls cd,_⟩=>S cd.mro
 | _=>Z
structure Xc (K:av)(mg:Str->Option ae)(x:Str)(C:J)(tl:↥ae):Prop where
 m:mg x=S (.ref C)
 ex:Lo K C vE "ValueError.__new__"=true
 mro:Bd K C=S (.ref C::tl)
def Xc.obj {K:av}{mg:Str->Option ae}{x:Str}{C:J}{tl:↥ae}{h:Heap}(c:Xc K mg x C tl)(hk:K.In h) :
   ∃N nm q bs hdct sn sub ab col dd k0 k1 k2 k3 k5 mN,h.get? C=S (excClassObj nm q C N bs tl hdct sn sub ab col dd k0 k1 k2 k3 k5 "ValueError.__new__")/\h.Ns N mN/\mN "__init__"=Z/\OwnTail h vE tl:=by
 have q:=c.ex
 have m:=c.mro
 unfold Lo at q
 unfold Bd at m
 split at q
 . rename_i od cd O look
   rw[look]at m
   split at q
   . rename_i C' bm k0 k1 k2 k3 n k5 I hs
     simp only[j8,beq_iff_eq,Bool.not_eq_true']at q
     obtain⟨⟨⟨⟨⟨z1,z2⟩,N8⟩,ht⟩,G⟩,lW⟩:=q
     subst z1 z2
     have m2:cd.mro=.ref C'::tl:=by injection m
     rw[I]at m2
     have e1:bm=tl:=by injection m2
     subst e1
     obtain⟨nm,bs,mro,ns,qn,hd,sn,sub,ab,col,del⟩:=cd
     dsimp only at I N8 G lW
     subst I N8
     have BK:O=#[k0,k1,k2,k3,S (.builtin "ValueError.__new__"),k5]:=by
       obtain⟨l⟩:=O
       simp only at hs
       rw[hs]
     subst BK
     show⟨ns,nm,qn,bs,hd,sn,sub,ab,col,od,k0,k1,k2,k3,k5,_,hk _ _ look,.of_isNs (PySem.W.isNs_of_in hk G),PySem.W.nsMap_none_of_in hk G lW,PySem.W.tail_of_in hk ht⟩
   . cases q
 . cases q
section
variable{X:Cx}{a:Expr}{ps:↥Expr}{n:Nat}{t:TF}{te:TE}{ci:Pos}
def Th (G:XK)(C:J)(ta:TA):TS:=λz σ H=>ta σ H λvs H1=>∃v,vs=[v]/\G (.ref C) Z H1
def EL (X:Cx)(G:XK):Prop:=∀{pins:↥(J×Obj)} {σ:St} {H:Hp} {s:aj} {h':Heap} {e:J} {cls:ae} {args:↥ae},Inv X pins σ H s->Heap.MadeExcOf s.heap h' e cls args->G cls Z H->X.xe (.ref e) {s with heap:=h'}
def afv {x:Str}{C:J}{tl:↥ae}{O:XK}{ta:TA}{np v4:Pos}(hx:EL X O)(c:Xc X.K X.mg x C tl)(hb:tl.contains (.type "BaseException")=true)(hg:Gl X x)(hc:X.calm=true)(ha:iF X [a] ta)(hd:(x==("__debug__":Str))=false:=by left) :
   PS X (.Raise (S (.Call (.Name x np) [a] [] v4)) Z ci) (Th O C ta):=by
 intro pins s σ H D I h
 obtain⟨N,nm,q,bs,hdct,sn,sub,ab,col,dd,k0,k1,k2,k3,k5,mN,hC,hN,lW,T⟩:=c.obj I.ok.mod.kin
 show wpAny_Raise_call_subT (C:=C) (nm:=nm) (q:=q) (N:=N) (bs:=bs) (bm:=tl) (hdct:=hdct) (sn:=sn) (sub:=sub) (ab:=ab) (col:=col) (dd:=dd) (k0:=k0) (k1:=k1) (k2:=k2) (k3:=k3) (k5:=k5) PySem.F.excBase_ValueError (mN:=mN) hb (I.ok.hd hc)
   (by rw[(ha.ns a [] rfl).1.h [] X.env];show(ha.ns a [] rfl).2 v4 X.env) lW (vV I hg c.m ⟨rfl,?_⟩ hd)
 have he:=(ha.ns a [] rfl).1.h [] X.env
 have h2:=ha.pa v4 pins s σ H _ I h
 rw[he]at h2 ⊢
 show DL (aO h2 λus s2 g9=>?_)
 obtain⟨vs,H1,G,r,v,ev,q1⟩:=g9
 show⟨U,?_,G.bk _ _ hC,hN.keeps G.bk,T.keeps G.bk,λh' e hm=>hx G hm q1⟩
 have h1:=↑r
 rw[ev]at h1
 change ↑us<=sizeLine
 rw[← h1]
 show(by left:1<=sizeLine)
end
end L2
namespace L2
open PySem PySem.Spec PyProof.Rows PySem.W PySem.Builtin PySem.Builtin.ObjectAttr PySem.Builtin.Getset_descriptor
section
variable{prog:bo}{w:aY}{A:bD}{E:ae->aj->Prop}{s:aj}{K:Frag}{x C:J}{ox:Obj}
def lK (x C:J)(h:Heap):Prop:=∃o,h.get? x=S o/\o.cls=.ref C
def lK.ty {x C:J}{h:Heap}{M8:Model}(p:lK x C h):Looks M8 h (typeOf (.ref x)) (.ref C):=by
 obtain⟨o,h1,h2⟩:=p
 show h2▸(Looks.ld h1).andThen .now
def WX {R:oQ->aj->Prop}{G:ae}(X:K.In s.heap)(I:lK x C s.heap)(O:mroIn K C (.type "object")=S true)
   (h:R (.ok (.ret (.ref C))) s):hU (aI prog w) A (.call (.builtin "getset_descriptor.__get__") ⟨[.builtin "object.__class__",.ref x,G],[]⟩) R s:=by
 obtain⟨hh,g,dr,t,os⟩:=s
 have q0:=I.ty (M8:=aI prog w)
 have q1:=looks_mroIn (M:=aI prog w) X O
 show codeAny_call_builtin KF.slot_gs.plain KF.entry_gs (KF.slot_gs.check _ _ _ _ _ _ _ _ KF.type_class (KF.args_gs _ _ _) ?_)
 unfold gZ.«getset_descriptor.__get__» descrGet
 rw[dga_obj]
 show aq (aS ?_)
 unfold descrGetter descrCheckInstance descrNameAndClass isInstance
 simp only[KF.owner_class]
 repeat lk
 show⟨zV _ (by right),LB KF.entry_class ?_⟩
 unfold gZ.«object.__class__» shownTypeOf
 repeat lk
 show h
def WW {tk:Tok}{P:ae->aj->Prop}(X:K.In s.heap)(I:lK x C s.heap)(ha:findIn K (.ref C) "__class__"=S (S (.builtin "object.__class__")))(O:specialIn K (.builtin "object.__class__") "__get__"=S (S (.builtin "getset_descriptor.__get__")))
   (G:takesIn K (.builtin "object.__class__")=S true) (hm:mroIn K C (.type "object")=S true) (h:P (.ref C) s) :
   aD (aI prog w) A (gZ.«object.__getattribute__» ⟨[.ref x,.str "__class__" tk],[]⟩) (λfin s'=>∃v,fin=.done (.ret v)/\P v s') E s:=by
 obtain⟨hh,g,d,t,os⟩:=s
 have l0:=I.ty (M8:=aI prog w)
 have l1:=looks_findIn (M:=aI prog w) X ha
 have l2:=looks_specialIn (M:=aI prog w) X O
 have l3:=looks_takesIn (M:=aI prog w) X G
 unfold gZ.«object.__getattribute__»
 show aq (aS ?_)
 dsimp only
 show aq (aS (aq (l0.at (aq ?_))))
 unfold Builtin.ObjectAttr.find
 show aq (l1.at (aq (l2.at (aq (aq (l3.at ?_))))))
 rw[aB rfl]
 show aS (aq (nE (aS ?_)))
 change aD _ _ (Builtin.ObjectAttr.bindTo (.builtin "getset_descriptor.__get__") (.builtin "object.__class__") (.ref x) (.ref C)) _ _ _
 unfold Builtin.ObjectAttr.bindTo
 dsimp only
 show aq (hW (Ay (WX X I hm (aS (aa U h)))))
def WU {M8:Model}{G:ae}{Q:Unit->aj->Prop}(X:K.In s.heap)(I:lK x C s.heap)(hb:mroIn K C (.type "BaseException")=S true)(h:Q () s) :
   aD M8 A (LA "BaseException.__getattribute__" ⟨[.ref x,G],[]⟩) Q E s:=by
 obtain⟨hh,g,d,t,os⟩:=s
 have O:=I.ty (M8:=M8)
 have l1:=looks_mroIn (M:=M8) X hb
 have kd:builtinKind "BaseException.__getattribute__"=S .slot:=by right
 have sp:splitId "BaseException.__getattribute__"=S ("BaseException","__getattribute__"):=by right
 have ar:=F.args_bexc_ga (.ref x) G
 simp only[LA,kd,sp]
 unfold isInstance
 show aq (aq (O.at (l1.at ?_)))
 repeat (first|show h|assumption|wp_step)
def WV {Q:Option ae->aj->Prop}(X:K.In s.heap)(I:lK x C s.heap)(G:findIn K (.ref C) "__getattribute__"=S (S (.builtin "BaseException.__getattribute__")))(O:findIn K (.ref C) "__getattr__"=S Z)
   (ha:findIn K (.ref C) "__class__"=S (S (.builtin "object.__class__"))) (hn:specialIn K (.builtin "object.__class__") "__get__"=S (S (.builtin "getset_descriptor.__get__"))) (htk:takesIn K (.builtin "object.__class__")=S true)
   (hm:mroIn K C (.type "object")=S true) (hb:mroIn K C (.type "BaseException")=S true) (h:Q (S (.ref C)) {s with toks:=s.toks+1}) :
   aD (aI prog w) A (xm (.ref x) "__class__") Q E s:=by
 obtain⟨hh,g,d,t,os⟩:=s
 have l0:=I.ty (M8:=aI prog w)
 have l1:=looks_findIn (M:=aI prog w) X G
 have l2:=looks_findIn (M:=aI prog w) X O
 unfold xm getAttrBy? Au
 show aq (wpAny_mkText (aq (rX (hW (aq (l0.at (aq (l1.at ?_))))))))
 dsimp only
 rw[az (λz=>by rw[show(Ee "BaseException.__getattribute__" == Ee "object.__getattribute__")=false by right,zS]at z;cases z)]
 unfold getAttrByItsOwn hookBefore
 rw[aB (show onTheHeap (bU C)=true by rfl)]
 show aq (l2.at (aq (rX (hW ?_))))
 change aD _ _ (boundAndCalled (.builtin "BaseException.__getattribute__") (.ref x) (.str "__class__" t)) _ _ _
 unfold boundAndCalled
 rw[F.attr_ValueError.ga.bind (.ref x)]
 show aq (aS (Ay (codeAny_call_builtin F.attr_ValueError.ga.plain F.entry_bexc_ga (WU (s:=⟨hh,g,d,t+1,os⟩) X I hb (kh (WW (s:=⟨hh,g,d,t+1,os⟩) X I ha hn htk hm (P:=λv s'=>v=.ref C/\s'=⟨hh,g,d,t+1,os⟩) ⟨U,U⟩) (λfin s' z=>?_) λy y z=>z)))))
 obtain⟨v,rfl,rfl,rfl⟩:=z
 change aD (aI prog w) A (handedOut (.ref C)) _ _ _
 show handed_on rfl (aS h)
structure sP (K:Frag)(C:J):Prop where
 ga:findIn K (.ref C) "__getattribute__"=S (S (.builtin "BaseException.__getattribute__"))
 gn:findIn K (.ref C) "__getattr__"=S Z
 ha:findIn K (.ref C) "__class__"=S (S (.builtin "object.__class__"))
 hn:specialIn K (.builtin "object.__class__") "__get__"=S (S (.builtin "getset_descriptor.__get__"))
 htk:takesIn K (.builtin "object.__class__")=S true
 hm:mroIn K C (.type "object")=S true
 hb:mroIn K C (.type "BaseException")=S true
 hc:(clsIn K C).isSome=true
def Hl (k:sP K C):KitX K (.ref x) (.ref C) (lK x C) where
 ty:=λw w w I=>I.ty
 it:=λw w X w=>by
   obtain⟨cd,e⟩:=Option.isSome_iff_exists.mp k.hc
   unfold clsIn at e
   split at e
   . rename_i c' d' V0 JB look
     intro A' Q' E' s' st q
     unfold isType loadHead
     show aq (wpAny_loadPart (st _ _ (X _ _ look)) (aS q))
   . cases e
 ne:=λh tp dd dL n sl X yH=>by
   obtain⟨cd,e⟩:=Option.isSome_iff_exists.mp k.hc
   show Bool.eq_false_iff.mpr λq=>?_
   have z:C=tp:=Value.ref.inj (beq_iff_eq.mp q)
   subst z
   unfold clsIn at e
   split at e
   . rename_i c' d' V0 JB look
     have y:=(X _ _ look).symm.trans yH
     cases y
   . cases e
 ca:=λX I q=>WV X I k.ga k.gn k.ha k.hn k.htk k.hm k.hb q
end
def ahx {fs:↥J}{H1 H2:Hp}{h1 h2 h3 B:Heap}(u:Un fs [] H1 H2 h1 h2)(s2:B.StaysIn h2)(s3:B.StaysIn h3)(I:∀b o,h1.get? b=S o->b∉fs->∃o',B.get? b=S o')
   (sl:∀b o,b∈fs->h2.get? b=S o->∃x,h3.get? b=S {o with slots:=x}):Un fs [] H1 H2 h1 h3:=by
 have hex:∀b:J,b∉([]:↥J):=λb z=>nomatch z
 show⟨λb o hb n hf w=>?_,λb o hb n hf w=>?_,λb o hb n w=>u.free b o hb n (hex b),λb o hb w=>?_,u.tups,u.frzs,u.tbls⟩
 . have O:=u.keep b o hb n hf (hex b)
   obtain⟨o',Ps⟩:=I b o hb hf
   have G:=s2 b o' Ps
   rw[O]at G
   cases G
   show s3 b o Ps
 . obtain⟨x,O⟩:=u.slot b o hb n hf (hex b)
   obtain⟨y,G⟩:=sl b _ hf O
   show⟨y,G⟩
 . by_cases hm:b∈fs
   . obtain⟨o2,O⟩:=u.there b o hb (hex b)
     obtain⟨y,G⟩:=sl b _ hm O
     show⟨_,G⟩
   . obtain⟨o',Ps⟩:=I b o hb hm
     show⟨o',s3 b o' Ps⟩
def agR {h2 I B:Heap}{l:↥Env}(fr:h2.FunFrames B l)(x:h2.UpToSlots I):∀b o,b∈eF l->h2.get? b=S o->∃y,I.get? b=S {o with slots:=y}:=λb o hm O=>by
 obtain⟨_,o2,ip,G⟩:=fr.mem hm
 rw[O]at ip
 cases ip
 show x b o O G
def qH (ea C:J):HO:=.ext (lK ea C)
def WT {P:bo}{w:aY}{H:Hp}{h:Heap}{ea C:J}(x:lK ea C h):dj P w H h ea (qH ea C):=by
 obtain⟨o,h1,h2⟩:=id x
 show⟨x,⟨o,h1⟩,λG g2 ⟨o',a,b⟩ k=>⟨o',k _ a,b⟩⟩
section
variable{X:Cx}{pins:↥(J×Obj)}{σ:St}{H:Hp}{s:aj}{ea C:J}
def Inv.ahf (I:Inv X pins σ H s)(n:H ea=Z)(x:lK ea C s.heap)(O:X.s₀.heap.get? ea=Z)(nl:ea≠X.env.locals)(nc:∀y c,X.env.cells.lookup y=S c->c≠ea)(np:∀p∈X.pn++pins,p.1≠ea):Inv X pins σ (upd H ea (qH ea C)) s:=by
 have ne:∀b u,H b=S u->b≠ea:=λb u e z=>by rw[z,n]at e;cases e
 have k:∀b u,H b=S u->(upd H ea (qH ea C)) b=S u:=λb u e=>by rw[aC (ne b u e)];show e
 show⟨I.ok,I.os,I.bare,⟨I.base.keep,I.base.slot,λb o e m hx=>?_,I.base.there,λb xs e=>k _ _ (I.base.tups b xs e),λb o u e=>k _ _ (I.base.frzs b o u e),λb ps e=>?_⟩,I.loc,I.cell,?_,λy c e=>?_,λp G=>?_,λb u e=>?_,I.len⟩
 . rw[aC (λz=>by rw[z,O]at e;cases e)]
   show I.base.free b o e m hx
 . obtain⟨more,e1⟩:=I.base.tbls b ps e
   show⟨more,k _ _ e1⟩
 . rw[aC (mw nl)]
   show I.free
 . rw[aC (nc y c e)]
   show I.freeC y c e
 . obtain⟨a1,a2,a3,a4,a5⟩:=I.pin p G
   show⟨a1,by rw[aC (np p G)];show a2,a3,a4,a5⟩
 . by_cases hb:b=ea
   . subst hb
     rw[ai]at e
     cases e
     show WT x
   . rw[aC hb]at e
     show(I.hok b u e).mm (λc v w q=>q) (λc q=>k _ _ q) λc xs q=>k _ _ q
end
section
variable{M8:Model}{A:bD}{E:ae->aj->Prop}{s:aj}{nm q:Str}{C N:J}{bs bm:↥ae}{hdct:Bool}{sn:↥Str}{sub:↥ae}{ab:Bool}{col:Option Bool}{dd:Option J}{k0 k1 k2 k3 k5:Option ae}{newId:String}
 {nm' q':Str} {T N':J} {bs' Fc:↥ae} {YZ:Bool} {sn':↥Str} {ag6:↥ae} {Vm:Bool} {xS:Option Bool} {gW:Option J} {j0 j1 j2 j3 j5:Option ae} {abD:String}
def abh {h:Heap}{g:Array GenState}{d:Drawn}{t:Nat}{os:OsState}{e:J}{O:Obj}{Q:Bool->aj->Prop}(hC:h.get? C=S (excClassObj nm q C N bs bm hdct sn sub ab col dd k0 k1 k2 k3 k5 newId))(hT:h.get? T=S (excClassObj nm' q' T N' bs' Fc YZ sn' ag6 Vm xS gW j0 j1 j2 j3 j5 abD))
   (he:h.get? e=S O) (G:O.cls=.ref C) (I:(bU C::bm).contains (.ref T)=true) (u8:Fc.contains (.type "BaseException")=true) (hq:Q true ⟨h,g,d,t,os⟩):aD M8 A (excMatches (.ref e) (.ref T)) Q E ⟨h,g,d,t,os⟩:=by
 have YR:(bU T::Fc).contains (.type "BaseException")=true:=by rw[List.contains_cons,u8,KL]
 have f:=tc_notTuple
 unfold excMatches
 repeat (first|(with_reducible show wpAny_loadPart_at he ?_;rw[G])|with_reducible show wpAny_loadPart_at hT ?_|(with_reducible show wpAny_isSubtype_exc hT ?_;rw[YR])|(with_reducible show wpAny_isSubtype_exc hC ?_;rw[I])|wp_step)
 show hq
end
section
variable{X:Cx}{pins:↥(J×Obj)}{σ:St}{H:Hp}{s:aj}
def Inv.forget {σ':St}{h':Heap}{t':Nat}{m:Str->Option ae}{en:Str}{v:Option ae}(I:Inv X pins σ H s)(hm:∀(i:Nat) (x:Str) (v:V),X.N[i]?=S x->σ[i]?=S (S v)->AX X.env.scope x->∃u,RelV v u/\Look X.env s.heap m x u)
   (hn':h'.Ns X.env.locals (λx=>if x=en then v else m x)) (G:lj X.env.locals s.heap h') (hl:σ'.length=σ.length) (hw:∀(i:Nat) v,σ'[i]?=S (S v)->σ[i]?=S (S v)/\X.N[i]?≠S en):Inv X pins σ' H {s with heap:=h',toks:=t'}:=by
 have O:∀b o,X.s₀.heap.get? b=S o->b≠X.env.locals:=λb o e=>eV (gQ (bX e) I.ok.above)
 show⟨I.ok,I.os,I.bare,⟨λb o e n hb hx=>?_,λb o e n hb hx=>?_,I.base.free,λb o e hx=>?_,I.base.tups,I.base.frzs,I.base.tbls⟩,⟨_,hn',λj y v' e1 e2 e3=>?_⟩,λy c e=>?_,I.free,I.freeC,λp hp=>?_,λb u e=>?_,hl.trans I.len⟩
 . show(G.2 b (O b o e)).trans (I.base.keep b o e n hb hx)
 . obtain⟨sl,e1⟩:=I.base.slot b o e n hb hx
   show⟨sl,(G.2 b (O b o e)).trans e1⟩
 . obtain⟨o',e1⟩:=I.base.there b o e hx
   show⟨o',(G.2 b (O b o e)).trans e1⟩
 . obtain⟨w1,w2⟩:=hw j v' e2
   obtain⟨u,r,l⟩:=hm j y v' e1 w1 e3
   show⟨u,r,?_⟩
   rcases l with⟨k,e⟩|⟨k,c,e,z⟩
   . show .inl ⟨k,?_⟩
     have:y≠en:=λz=>w2 (by rw[e1,z])
     change(if y=en then v else m y)=S u
     rw[az this]
     show e
   . show .inr ⟨k,c,e,z.sameBut G (I.kr y c e)⟩
 . obtain⟨w',z⟩:=I.cell y c e
   show⟨w',z.sameBut G (I.kr y c e)⟩
 . obtain⟨e,n,ne,nf,d⟩:=I.pin p hp
   show⟨(G.2 p.1 ne).trans e,n,ne,nf,d⟩
 . have yl:=I.free
   show(I.hok b u e).mm (λc w' hc q=>(G.2 c ?_).trans q) (λw q=>q) λw w q=>q
   intro z
   rcases hc with hc|hc
   . rw[hc]at z
     rw[z,yl]at e
     cases e
   . rw[z,yl]at hc
     cases hc
def Inv.other {W:ae->aj->Prop}{pn G:↥(J×Obj)}(I:Inv X pins σ H s)(h:∀p∈pn++G,p∈X.pn++pins):Inv {X with xe:=W,pn:=pn} G σ H s:=
 ⟨⟨I.ok.mod,I.ok.kind,I.ok.glob,I.ok.blt,I.ok.above,I.ok.inj,I.ok.has,I.ok.cab,I.ok.hd,I.ok.frames,I.ok.stk,I.ok.exf,I.ok.bs,I.ok.bsz,I.ok.noex,I.ok.exfs,I.ok.ij,I.ok.frf⟩,I.os,I.bare,I.base,I.loc,I.cell,I.free,I.freeC,λp O=>I.pin p (h p O),I.hok,I.len⟩
def Inv.back {W:ae->aj->Prop}{pn G:↥(J×Obj)}(I:Inv {X with xe:=W,pn:=pn} G σ H s)(h:∀p∈X.pn++pins,p∈pn++G):Inv X pins σ H s:=
 ⟨⟨I.ok.mod,I.ok.kind,I.ok.glob,I.ok.blt,I.ok.above,I.ok.inj,I.ok.has,I.ok.cab,I.ok.hd,I.ok.frames,I.ok.stk,I.ok.exf,I.ok.bs,I.ok.bsz,I.ok.noex,I.ok.exfs,I.ok.ij,I.ok.frf⟩,I.os,I.bare,I.base,I.loc,I.cell,I.free,I.freeC,λp O=>I.pin p (h p O),I.hok,I.len⟩
def Inv.mark {e:Option ae}(I:Inv X pins σ H s):Inv {X with A:=X.A.mark e,calm:=false,xe:=λy y=>False} pins σ H s:=
 ⟨⟨I.ok.mod,I.ok.kind,I.ok.glob,I.ok.blt,I.ok.above,I.ok.inj,I.ok.has,I.ok.cab,(λz=>nomatch z),I.ok.frames,I.ok.stk,I.ok.exf,I.ok.bs,I.ok.bsz,I.ok.noex,I.ok.exfs,I.ok.ij,I.ok.frf⟩,I.os,I.bare,I.base,I.loc,I.cell,I.free,I.freeC,I.pin,I.hok,I.len⟩
def Inv.unmark {e:Option ae}{σ':St}{H':Hp}{s':aj}(G:Inv X pins σ H s)(I:Inv {X with A:=X.A.mark e,calm:=false,xe:=λz z=>False} pins σ' H' s'):Inv X pins σ' H' s':=
 ⟨G.ok,I.os,I.bare,I.base,I.loc,I.cell,I.free,I.freeC,I.pin,I.hok,I.len⟩
end
section
variable{P:bo}{w:aY}{K:av}{mg:Str->Option ae}{base:Heap}
def bq.Iv {x qual:Str}{st:Stmt}{f:J}{fd:ba}{N ps:↥Str}{k:Nat}{sp:Sp}(F:bq K x qual st f fd)(S8:bE N ps (aV st))(len:∀vs H Q E,sp vs H Q E->↑vs=↑ps)
   (O:∀(G:ae) (A:bD) (outer:↥Env) (s:aj) (H:Hp) (vs:↥V) (Q:VK) (E:XK),cX k (A.deeper (fM qual (aV st) s.heap.objs.size f G))->sp vs H Q E ->
     ∃t,fR (gV (ib P w base) P w K mg base N qual (aV st) f G A outer s H E) (jg st) t/\t {nx:=λz H'=>Q .aM H',rt:=Q} (start N vs) H):aU P w K mg base (ib P w base) (k+1) f fd ps sp:=by
 obtain⟨oc,od,kV,doc,pm,an,G,ct,ZB,rfl,lk,wS⟩:=F.ex
 show FI lk wS S8 len λA outer s H vs Q E hr I=>O G A outer s H vs Q E hr I
def afU {N:↥Str}{qual:Str}{f8:cG}{f:J}{cd:ae}{A:bD}{outer:↥Env}{s:aj}{H:Hp}{E:XK}:EL (gV (ib P w base) P w K mg base N qual f8 f cd A outer s H E) E:=λI G q=>aa4 I G q
def Qd {N:↥Str}{qual:Str}{f8:cG}{f:J}{cd:ae}{A:bD}{outer:↥Env}{s:aj}{H:Hp}{E:XK}:Passes (ib P w base) (gV (ib P w base) P w K mg base N qual f8 f cd A outer s H E) E:=ad4 λz z z h=>h
end
def QD (K:av):↥V->Hp->VK->Prop:=λxs H Q=>∃ea C b,H ea=S (qH ea C)/\sP K C/\((∃D,xs=[.ref ea,.ref D]/\fZ K (.ref C) (.ref D)=S b)\/(∃n,xs=[.ref ea,.ty n]/\fZ K (.ref C) (.type n)=S b) \/
 (∃(t:J) (ds:↥J),xs=[.ref ea,.ref t]/\H t=S (.tup (ds.map V.ref))/\Am K (.ref C) (ds.map bU)=S b))/\Q (.bl b) H
theorem TC:∀{ds:↥J} {G:↥ae},Vals (ds.map V.ref) G->G=ds.map bU
 | [],_,.nil=>rfl
 | d::ds,_,.cons r t=>by rw[TC t,show _=bU d from r];rfl
section
variable{X:Cx}
def VR:jO X (.builtin "isinstance") (QD X.K):=by
 intro pins s σ H xs us Q I r h
 obtain⟨ea,C,b,tM,k,cs,q⟩:=h
 have ex:lK ea C s.heap:=(show dj X.prog X.w H s.heap ea (qH ea C)from I.hok ea _ tM).1
 rcases cs with⟨D,rfl,e⟩|⟨n,rfl,e⟩|⟨t,ds,rfl,ht,e⟩
 . obtain⟨u,v,rfl,G,O⟩:=Vals.two r
   obtain rfl:u=bU ea:=G
   obtain rfl:v=bU D:=O
   show lD (Hl k) I.dQ ex e (λz=>nomatch z) λtk=>⟨.bl b,H,I.tok tk,U,q⟩
 . obtain⟨u,v,rfl,G,O⟩:=Vals.two r
   obtain rfl:u=bU ea:=G
   obtain rfl:v=Eg n:=O
   show lD (Hl k) I.dQ ex e (λz=>nomatch z) λtk=>⟨.bl b,H,I.tok tk,U,q⟩
 . obtain⟨u,v,rfl,G,O⟩:=Vals.two r
   obtain rfl:u=bU ea:=G
   obtain rfl:v=bU t:=O
   obtain⟨_,dL,rl,o,h1,h2,n,h3⟩:=(show dj X.prog X.w H s.heap t (.tup (ds.map V.ref))from I.hok t _ ht)
   rw[TC rl]at h3
   obtain⟨oc,od,oda,ZB⟩:=o
   simp only at h2 h3
   subst h2 h3
   show PySem.W.kia_tup (Hl k) I.dQ ex h1 e (λz=>nomatch z) λtk=>⟨.bl b,H,I.tok tk,U,q⟩
end
end L2
namespace TW
open PySem L2
def nJ (P:bo)(w:aY)(K:av)(mg:Str->Option ae)(base:Heap)(x:Str)(ps:↥Str)(k:Nat)(sp:Sp):Prop:=
 ∃f fd,aU P w K mg base (ib P w base) k f fd ps sp/\lC K (.ref f)=true/\Binds K fd ps []/\mg x=S (.ref f)
end TW
namespace L3
open PySem PySem.Spec PyProof.Rows L2
section
variable{X:Cx}{a b c e o:Expr}{es:↥Expr}{ta tb tc te:TE}{t:TA}{tf:TF}{ci:Pos}{n:Nat}
def afT {x:Str}{C:J}{tl:↥ae}{G:XK}{I v4:Pos}(hx:EL X G)(O:Xc X.K X.mg x C tl)(hb:tl.contains (.type "BaseException")=true)(hg:Gl X x)(ha:SA X [a] t)(hc:X.calm=true:=by rfl)(hd:(x==("__debug__":Str))=false:=by left) :
   SS X (.Raise (S (.Call (.Name x I) [a] [] v4)) Z ci) (Th G C t):=⟨afv hx O hb hg hc ha.h hd⟩
def Cn {x:Str}{p:Pos}{ps:↥Str}{kk:Nat}{sp:Sp}{I:XK}(O:Passes (ib X.prog X.w X.base) X I)(D:TW.nJ X.prog X.w X.K X.mg X.base x ps kk sp)(hr:cX kk X.A)(hg:Gl X x)(ha:SA X (e::es) t)(IN:(x==("__debug__":Str))=false:=by left) :
   SE X (.Call (.Name x p) (e::es) [] ci) (uv sp [] I t):=by
 obtain⟨_,_,G,kp,b,m⟩:=D
 show⟨IF G hr hg m kp b .nil O ha.h.pa IN ((ha.h.ns e es rfl).1.h es X.env) ((ha.h.ns e es rfl).2 ci X.env)⟩
def xO {KK:av}(G:X.K=KK:=by first|show L3.dF|show L3.dE|rfl):SC X (.builtin "isinstance") (QD KK):=by
 subst G
 show⟨VR⟩
end
end L3
namespace L2
open PySem PySem.Spec PyProof.Rows
end L2
namespace L3
open PySem PySem.Spec PyProof.Rows L2
end L3
namespace L2
open PySem PySem.Spec PyProof.Rows
section
variable{X:Cx}{a:Expr}{ta:TA}{p1 p2 ci eB:Pos}
def QC:V->↥V->Hp->VK->Prop:=λx vs H Q=>∃l xs y i,x=.ref l/\vs=[.int i,y]/\H l=S (.lst xs)/\0<=i/\i<=(↑xs:Int)/\↑xs<1000/\Q .aM (upd H l (.lst (xs.take i.toNat++y::xs.drop i.toNat)))
def abp:ED X "list.insert" QC:=by
 intro pins s σ H x vs v us Q I rx rv h
 obtain⟨l,xs,y,i,rfl,rfl,hH,h0,hk,hz,q⟩:=h
 cases rx
 obtain⟨u1,u,rfl,⟨tk,rfl⟩,ru⟩:=Vals.two rv
 obtain⟨z,G,n,r,hl,e⟩:=I.vW hH
 have mo:=↑r
 have O:¬(!DH i)=true:=by
   have:DH i=true:=by
     unfold DH
     simp
     lia
   simp[this]
 have cC:G.toArray.size<=sizeLine:=by rw[eM];show ck (show _<=1000 by lia) ∅
 show rT F.slot_list_insert ⟨_,e,U⟩ F.entry_list_insert (F.args_list_insert_3 _ _ _) (PySem.AutoSeq1.list_insert_list_int_val_1 l G.toArray n i tk u O cC) ⟨e,.aM,_,I.Ic (its':=G.take i.toNat++u::G.drop i.toNat) hH e ?_ ((r.take i.toNat).append (.cons ru (r.drop i.toNat))) ?_,U,q⟩
 . have e1:(if i<0 then(i+(G.toArray.size:Int)).toNat else min i.toNat G.toArray.size)=i.toNat:=by
     rw[az ⋯,eM]
     lia
   dsimp only
   rw[e1]
   apply Array.ext'
   simp
   show nj (by rw[oI];show aK _)
 . rw[cJ,gF,cp,oI]
   show ck (show _<=1000 by lia) ∅
end
end L2
namespace L3
open PySem PySem.Spec PyProof.Rows L2
section
variable{X:Cx}{a b c e o:Expr}{es:↥Expr}{ta tb tc te:TE}{t:TA}{ci:Pos}
theorem insert {lv:Pos}{KK:av}{I G:Expr}(O:SE X o ta)(ha:SA X [I,G] t)(hn:fN G:=by first|show Ci|show ub|show ua|show uc)(u8:nA o "insert" X.env (eval o X.env)=eval o X.env:=by rfl)(wE:(lv.endLine==ci.line)=true:=by rfl)(hK:X.K=KK:=by first|show L3.dF|show L3.dE|rfl) :
   SE X (.Call (.Attribute o "insert" lv) [I,G] [] ci) (ur KK "list" QC ta t):=by
 subst hK
 show⟨Qf D8 PySem.F.slot_list_insert PySem.F.type_list_insert abp O.h ha.h.pa u8 (by rw[(ha.h.ns I [G] rfl).1.h [G] X.env,hn.h [] X.env];rfl) wE ((ha.h.ns I [G] rfl).1.h [G] X.env) ((ha.h.ns I [G] rfl).2 ci X.env)⟩
end
end L3
namespace L2
open PySem PySem.Spec PyProof.Rows
section
variable{X:Cx}{e tg iter:Expr}{ifs:↥Expr}{WF:J->Env->Sem Unit}{sc:cG}{ci:Pos}{wi:TI}{N':↥Str}{ut:↥(Option Nat)}{g:TG}{jp:TT}{tm:J->TM}{xL:Sem ae}{ob:Obj}{AC:HO}{gs:↥Comprehension}
end
def Inv.T5 {X:Cx}{pins:↥(J×Obj)}{σ:St}{H:Hp}{s:aj}(I:Inv X pins σ H s)(xe:ae->aj->Prop):Inv {X with xe:=xe} pins σ H s where
 ok:=⟨I.ok.mod,I.ok.kind,I.ok.glob,I.ok.blt,I.ok.above,I.ok.inj,I.ok.has,I.ok.cab,I.ok.hd,I.ok.frames,I.ok.stk,I.ok.exf,I.ok.bs,I.ok.bsz,I.ok.noex,I.ok.exfs,I.ok.ij,I.ok.frf⟩
 os:=I.os
 bare:=I.bare
 base:=I.base
 loc:=I.loc
 cell:=I.cell
 free:=I.free
 freeC:=I.freeC
 pin:=I.pin
 hok:=I.hok
 len:=I.len
def agW {P:bo}{w:aY}{A:bD}{R:oQ->aj->Prop}{s:aj}{xz tg iter fJ d6:Expr}{ifs gq:↥Expr}{sc:cG}{ci:Pos}{it v6:ae}{env:Env}
   (I:hU (aI P w) A (.compLoop (.ListComp xz [⟨tg,iter,ifs,0⟩,⟨fJ,d6,gq,0⟩] sc ci) 1 it v6 env) R s)
   (h:aD (aI P w) A (pyIter it) (λG s'=>hU (aI P w) A (.compLoop (.ListComp xz [⟨tg,iter,ifs,0⟩,⟨fJ,d6,gq,0⟩] sc ci) 1 G v6 env) R s') (uN (aI P w) A env λx s'=>R (.error x) s') s) :
   hU (aI P w) A (.compStart (.ListComp xz [⟨tg,iter,ifs,0⟩,⟨fJ,d6,gq,0⟩] sc ci) 1 it v6 env) R s:=by
 show codeAny_of_tree ?_
 change aD _ _ ((compStart (.ListComp xz [⟨tg,iter,ifs,0⟩,⟨fJ,d6,gq,0⟩] sc ci) 1 it v6 env).onRaise (λx=>do noteFrame x env;lH theWindowsPlace)) _ _ s
 show wpAny_notedAt ?_
 unfold compStart
 change aD _ _ (ask>>=_) _ _ s
 show aq (wpAny_askSetting (wpAny_ite ?_))
 split
 . first
     | show aq (aS (aS (And.intro rfl I)))
     | show aS (And.intro rfl I)
 . first
     | show aq (nE (aq (qw (aq (kh h (λG s' h'=>aS (And.intro rfl h')) λz z x=>x)))))
     | (show aq (nE ?_);change aD _ _ (lH d6.pos>>=_) _ _ s;show aq (qw (aq (kh h (λG s' h'=>aS (And.intro rfl h')) λz z x=>x))))
def Bm (e d6:Expr)(D:J)(env:Env):Sem Unit:=do
 let x←eval d6 env
 lH d6.pos
 let x←jd d6 env x
 let _←runOwn (.compStart e 1 (← jr [x] (pyIter x)) (.ref D) env) env
def B8 (wi2:TI)(g2:TG)(Gc:TT)(tm:TM):TM:=λσ H Q=>wi2 σ H λJ8 H1=>mn J8 σ g2 Gc tm Q H1
def afe {X:Cx}{xz tg iter fJ d6:Expr}{ifs gq:↥Expr}{sc:cG}{ci:Pos}{wi2:TI}{g2:TG}{Gc:TT}{te:TE}(hc:X.calm=true)(hi:PI X fJ d6 wi2)
   (O:∀xe,PG {X with xe:=xe} fJ g2/\ko {X with xe:=xe} gq Gc/\PE {X with xe:=xe} xz te) (hs:∀x,jd d6 X.env x=pure x) (D:J) :
   sJ X (Bm (.ListComp xz [⟨tg,iter,ifs,0⟩,⟨fJ,d6,gq,0⟩] sc ci) d6 D X.env) (B8 wi2 g2 Gc (cR te D)):=by
 intro pins s σ H Q I q
 unfold Bm
 show aq (aO (hi pins s σ H _ I q) λv s1 h1=>aq (qw (aq (wpAny_of_eq (hs v) (aq (hW (aO h1 λitv s2 h2=>?_)))))))
 obtain⟨it,fp,tn,J8,H2,e1,I2,T,fY,f2,q2⟩:=h2
 subst e1
 let R:oQ->aj->Prop:=λr s'=>match r with
   | .ok f=>aD (aI X.prog X.w) X.A (pure ():Sem Unit) (λy s'=>∃H',Inv X pins σ H' s'/\Q H') X.xe s'
   | .error e=>cameBackBy (aI X.prog X.w) X.A X.env X.xe e s'
 let X2:Cx:={X with xe:=uN (aI X.prog X.w) X.A X.env λe s'=>R (.error e) s'}
 have G:hU (aI X.prog X.w) X.A (.compLoop (.ListComp xz [⟨tg,iter,ifs,0⟩,⟨fJ,d6,gq,0⟩] sc ci) 1 (.ref it) (.ref D) X.env) R s2:=by
   obtain⟨hg,hif,he⟩:=O (uN (aI X.prog X.w) X.A X.env λe s'=>R (.error e) s')
   show MO (X:=X2) (R:=R) (Z8:=Q) (cont:=do let _←call (.builtin "list.append") [.ref D,← eval xz X.env]) (tg:=fJ) (ipos:=d6.pos) (ifs:=gq) rfl rfl rfl rfl rfl hc T hg hif (IH (X:=X2) he D) f2 (I2.T5 _) fY (λH' s' I' y z=>aS ⟨H',I'.T5 X.xe,z⟩) q2
 show aq (wpAny_runOwn (env:=X.env) ?_)
 show xl (agW (R:=R) G (T.self X.A 0 _ _ _ fY G)) λr s' hr=>by
   cases r with
   | ok f=>show hr
   | error e=>show hr
def V4 {P:bo}{w:aY}{A:bD}{xz tg iter fJ d6:Expr}{ifs gq:↥Expr}{sc:cG}{ci:Pos} :
   uS P w A (.ListComp xz [⟨tg,iter,ifs,0⟩,⟨fJ,d6,gq,0⟩] sc ci) tg iter ifs [⟨fJ,d6,gq,0⟩] (Bm (.ListComp xz [⟨tg,iter,ifs,0⟩,⟨fJ,d6,gq,0⟩] sc ci) d6) where
 cl:=rfl
 turn:=λit D env=>by
   unfold Ds Bm
   simp only[bind_assoc,pure_bind]
   rfl
 start:=λR s it v6 env h0 h=>codeAny_compStart_list h0 h
 quiet:=λz z z=>rfl
 under:=λz z z=>rfl
 frame:=λz z z=>rfl
section
variable{X:Cx}{xz tg iter fJ d6:Expr}{ifs gq:↥Expr}{sc:cG}{ci:Pos}{wi wi2:TI}{N':↥Str}{ut:↥(Option Nat)}{g g2:TG}{jp Gc:TT}{te:TE}
def afs {i:Nat}{x:Str}{pi eB:Pos}(ut:↥(Option Nat))(N':↥Str)(hc:X.calm=true)(S8:ki sc X.env.scope)(wr:jf sc ut N' X.N=true)(hi:PI X tg iter wi)
   (hb:∀s H C fp xe,PG (b8 X N' sc s H C fp xe) tg g/\ko (b8 X N' sc s H C fp xe) ifs jp/\PI (b8 X N' sc s H C fp xe) fJ d6 wi2/\PG (b8 X N' sc s H C fp xe) fJ g2/\ko (b8 X N' sc s H C fp xe) gq Gc/\PE (b8 X N' sc s H C fp xe) xz te)
   (hN:X.N.Nodup) (G:X.N[i]?=S x) (hx:Loc X.env.scope x) (I:lI (.ListComp xz [⟨tg,iter,ifs,0⟩,⟨fJ,d6,gq,0⟩] sc ci) (S (.Name x pi)) eB.line X.env=pure true:=by rfl)
   (hs:∀x,jd iter X.env x=pure x:=by intro _;rfl) (PP:∀env x,jd d6 env x=pure x:=by intro _ _;rfl) (hf:X.fn x=true\/X.env.scope.names.lookup x=S .local:=by first|show .inl rfl|show .inr rfl|assumption) :
   PS X (.Assign [.Name x pi] (.ListComp xz [⟨tg,iter,ifs,0⟩,⟨fJ,d6,gq,0⟩] sc ci) eB) (qg (mZ ut (.lst []) wi g jp (λD=>B8 wi2 g2 Gc (cR te D))) (gK i)):=
 Qo V4 hc S8 wr hi (λs H C fp xe D=>⟨(hb s H C fp xe).1,(hb s H C fp xe).2.1,afe (X:=b8 X N' sc s H C fp xe) hc (hb s H C fp xe).2.2.1 (λO=>(hb s H C fp O).2.2.2) (PP _) D⟩) E1 hs (λz=>rfl) hN G hx I hf
end
end L2
namespace L3
open PySem PySem.Spec PyProof.Rows L2
section
variable{X:Cx}{xz tg iter fJ d6:Expr}{ifs gq:↥Expr}{sc:cG}{ci:Pos}{wi wi2:TI}{g g2:TG}{jp Gc:TT}{te:TE}
def agN {i:Nat}{x:Str}{pi eB:Pos}(ut:↥(Option Nat))(N':↥Str)(S8:ki sc X.env.scope)(O:jf sc ut N' X.N=true)(hi:SI X tg iter wi)
   (hb:∀s H C fp xe,SG (b8 X N' sc s H C fp xe) tg g/\sO (b8 X N' sc s H C fp xe) ifs jp/\SI (b8 X N' sc s H C fp xe) fJ d6 wi2/\SG (b8 X N' sc s H C fp xe) fJ g2/\sO (b8 X N' sc s H C fp xe) gq Gc/\SE (b8 X N' sc s H C fp xe) xz te) (hN:X.N.Nodup) (G:X.N[i]?=S x:=by rfl) (hx:Loc X.env.scope x:=by show Or.inl rfl)
   (I:lI (.ListComp xz [⟨tg,iter,ifs,0⟩,⟨fJ,d6,gq,0⟩] sc ci) (S (.Name x pi)) eB.line X.env=pure true:=by rfl) (hc:X.calm=true:=by rfl)
   (hs:∀x,jd iter X.env x=pure x:=by intro _;rfl) (PP:∀env x,jd d6 env x=pure x:=by intro _ _;rfl) (hf:X.fn x=true\/X.env.scope.names.lookup x=S .local:=by first|show .inl rfl|show .inr rfl) :
   SS X (.Assign [.Name x pi] (.ListComp xz [⟨tg,iter,ifs,0⟩,⟨fJ,d6,gq,0⟩] sc ci) eB) (qg (mZ ut (.lst []) wi g jp (λD=>B8 wi2 g2 Gc (cR te D))) (gK i)):=
 ⟨afs ut N' hc S8 O hi.h (λs H C fp xe=>⟨(hb s H C fp xe).1.h,(hb s H C fp xe).2.1.h,(hb s H C fp xe).2.2.1.h,(hb s H C fp xe).2.2.2.1.h,(hb s H C fp xe).2.2.2.2.1.h,(hb s H C fp xe).2.2.2.2.2.h⟩) hN G hx I hs PP hf⟩
end
end L3
namespace L2
open PySem PySem.Spec PyProof.Rows
theorem Nj {α β:Type}{f g:α->Option β}:∀{l:List α},(∀x∈l,f x=g x)->l.filterMap f=l.filterMap g
 | [],_=>rfl
 | x::r,h=>by rw[uI,uI,h x oK,Nj λy hy=>h y (List.mem_cons.mpr (.inr hy))]
def RZ (G:↥ae):uO G.toArray Z Z (S (-1))=G.reverse.toArray:=by
 have hb:nC Z Z (S (-1)) G.toArray.size=(((G.length:Nat):Int)-1,-1,-1):=by
   simp[nC]
 have I:xp (((G.length:Nat):Int)-1) (-1) (-1)=(cj G.length).map λk=>G.length-1-k:=by
   unfold xp
   have h1:¬ ((-1:Int) > 0):=by left
   simp only[h1,if_false]
   have hc:(if((G.length:Nat):Int)-1 > -1 then(((G.length:Nat):Int)-1 - -1 - -1-1)/(- -1)else 0).toNat=G.length:=by
     simp only[Int.neg_neg,DO]
     split<;>lia
   rw[hc]
   show DZ λk hk=>?_
   have:=List.mem_range.mp hk
   lia
 unfold uO
 rw[hb]
 change((xp (((G.length:Nat):Int)-1) (-1) (-1)).filterMap (G.toArray[·]?)).toArray=_
 rw[I,K0]
 have e:(cj G.length).filterMap ((λx=>G.toArray[x]?) ∘ λk=>G.length-1-k)=((cj G.length).map (0+·)).filterMap (G.reverse.toArray[·]?):=by
   rw[K0]
   show Nj λk hk=>?_
   have O:=List.mem_range.mp hk
   change G.toArray[G.length-1-k]?=G.reverse.toArray[0+k]?
   rw[Nat.zero_add,Uy,Uy,Ux O]
 rw[e,pick_run,wU,nj (by simp)]
def Tj (K:av)(te G:TE):TE:=λσ H Q=>te σ H λx H1=>G σ H1 λy H2=>y=.int (-1)/\∃a xs,x=.ref a/\af K H2 a xs/\∀p,H2 p=Z->Q (.ref p) (upd H2 p (.lst xs.reverse))
def aeP {X:Cx}{e st:Expr}{te qi:TE}{p2 ci:Pos}(he:PE X e te)(O:PE X st qi):PE X (.Subscript e (.Slice Z Z (S st) p2) ci) (Tj X.K te qi):=by
 intro pins s σ H Q I h
 show Ao (aO (he pins s σ H _ I h) λv s1 h9=>?_)
 obtain⟨x,H1,I1,r1,q1⟩:=h9
 show wpAny_Slice ?_
 rw[Eh]
 show aS (aS ?_)
 rw[evalPart_some]
 show aO (O pins s1 σ H1 _ I1 q1) λvs G h9=>?_
 obtain⟨y,H3,I3,ry,hy,a,xs,hx,hs,q⟩:=h9
 subst hy hx
 obtain⟨t,rfl⟩:=ry
 cases r1
 have I4:Inv X pins σ H3 {G with heap:=G.heap.push {cls:=.type "slice",data:=.fields #[.none,.none,.int (-1) t]} }:=I3.kept (t':=G.toks) λb ob q=>di _ q
 obtain⟨dL,r,ht,hz⟩:=I4.list hs
 have mo:=↑r
 change aD (aI X.prog X.w) X.A (Av e (.Slice Z Z (S st) p2) (.ref a) (.ref G.heap.objs.size)) (EP X pins σ Q) X.xe {G with heap:=G.heap.push {cls:=.type "slice",data:=.fields #[.none,.none,.int (-1) t]} }
 show tail_any (ops:=[.ref a,.ref G.heap.objs.size]) ht.isList.typeIs slot_list_getitem.lookup ?_ (by with_unfolding_all rfl)
 show LH ht.isList (Heap.IsSliceOf.new ..) .none .none (.int (-1) t) (by simp) ?_ (by rw[eM]<;>lia)
 rw[RZ]
 show⟨.ref (G.heap.push {cls:=.type "slice",data:=.fields #[.none,.none,.int (-1) t]}).objs.size,_,I4.laid (t':=G.toks) (o:=.lst xs.reverse) (λb ob q=>di _ q) (aK _) ?_,U,q _ (I4.hok.fresh (aK _))⟩
 show⟨by rw[K7];show hz,_,0,r.reverse,hG _ rfl⟩
end L2
namespace L3
open PySem PySem.Spec PyProof.Rows L2
def agI {X:Cx}{a b:Expr}{ta tb:TE}{KK:av}{p2 ci:Pos}(ha:SE X a ta)(hb:SE X b tb)(G:X.K=KK:=by first|show L3.dF|show L3.dE|rfl):SE X (.Subscript a (.Slice Z Z (S b) p2) ci) (Tj KK ta tb):=by
 subst G
 show⟨aeP ha.h hb.h⟩
end L3
namespace TW
end TW
namespace L3
open PySem PySem.Spec PyProof.Rows L2
section
variable{X:Cx}{a b o i value:Expr}{ta tb td ty tv:TE}{ci:Pos}
def dput {pi:Pos}(hu:X.A.units+1<dC)(G:SE X o td)(hi:SE X i ty)(hv:SE X value tv)(I:lI value (S (.Subscript o i pi)) ci.line X.env=pure false:=by rfl):SS X (.Assign [.Subscript o i pi] value ci) (Q3 td ty tv):=⟨afm hu G.h hi.h hv.h I⟩
end
end L3
namespace L2
open PySem PySem.Spec PyProof.Rows
def slicePick_all (G:↥ae):uO G.toArray Z Z (S 1)=G.toArray:=by
 have hb:nC Z Z (S 1) G.toArray.size=(0,(G.length:Int),1):=by
   simp[nC]
 have I:xp 0 (G.length:Int) 1=(cj G.length).map (0+·):=by
   unfold xp
   have h1:((1:Int) > 0):=by left
   simp only[h1,if_true]
   have hc:(if(G.length:Int) > 0 then((G.length:Int)-0+1-1)/1 else 0).toNat=G.length:=by
     simp only[DO]
     split<;>lia
   rw[hc]
   show DZ λk hk=>?_
   have:=List.mem_range.mp hk
   lia
 unfold uO
 rw[hb]
 change((xp 0 (G.length:Int) 1).filterMap (G.toArray[·]?)).toArray=_
 rw[I,pick_run,wU,nj (by simp)]
def jI (n:Int)(xs:↥V):↥V:=if n=1 then xs else xs.reverse
def agX {n:Int}{xs:↥V}:↑(jI n xs)=↑xs:=by unfold jI;split<;>simp
def Tn (K:av)(te G:TE):TE:=λσ H Q=>te σ H λx H1=>G σ H1 λy H2=>∃n,y=.int n/\(n=1\/n=-1)/\∃a xs,x=.ref a/\af K H2 a xs/\∀p,H2 p=Z->Q (.ref p) (upd H2 p (.lst (jI n xs)))
def aeQ {X:Cx}{e st:Expr}{te qi:TE}{p2 ci:Pos}(he:PE X e te)(hst:PE X st qi):PE X (.Subscript e (.Slice Z Z (S st) p2) ci) (Tn X.K te qi):=by
 intro pins s σ H Q I h
 show Ao (aO (he pins s σ H _ I h) λv s1 h9=>?_)
 obtain⟨x,H1,I1,r1,q1⟩:=h9
 show wpAny_Slice ?_
 rw[Eh]
 show aS (aS ?_)
 rw[evalPart_some]
 show aO (hst pins s1 σ H1 _ I1 q1) λvs G h9=>?_
 obtain⟨y,H3,I3,ry,n,hy,hn,a,xs,hx,hs,q⟩:=h9
 subst hy hx
 obtain⟨t,rfl⟩:=ry
 cases r1
 have I4:Inv X pins σ H3 {G with heap:=G.heap.push {cls:=.type "slice",data:=.fields #[.none,.none,.int n t]} }:=I3.kept (t':=G.toks) λb ob q=>di _ q
 obtain⟨O,r,ht,hz⟩:=I4.list hs
 have mo:=↑r
 change aD (aI X.prog X.w) X.A (Av e (.Slice Z Z (S st) p2) (.ref a) (.ref G.heap.objs.size)) (EP X pins σ Q) X.xe {G with heap:=G.heap.push {cls:=.type "slice",data:=.fields #[.none,.none,.int n t]} }
 show tail_any (ops:=[.ref a,.ref G.heap.objs.size]) ht.isList.typeIs slot_list_getitem.lookup ?_ (by with_unfolding_all rfl)
 show LH ht.isList (Heap.IsSliceOf.new ..) .none .none (.int n t) (by rcases hn with rfl|rfl<;>simp) ?_ (by rw[eM]<;>lia)
 have key:∃jY:↥ae,uO O.toArray Z Z (S n)=jY.toArray/\Vals (jI n xs) jY:=by
   rcases hn with rfl|rfl
   . show⟨O,slicePick_all O,r⟩
   . show⟨O.reverse,RZ O,r.reverse⟩
 obtain⟨jY,e2,r2⟩:=key
 rw[e2]
 show⟨.ref (G.heap.push {cls:=.type "slice",data:=.fields #[.none,.none,.int n t]}).objs.size,_,I4.laid (t':=G.toks) (o:=.lst (jI n xs)) (λb ob q=>di _ q) (aK _) ?_,U,q _ (I4.hok.fresh (aK _))⟩
 show⟨by rw[agX];show hz,_,0,r2,hG _ rfl⟩
def Qw:R2:=λx y H Q=>∃a b:Str,x=.str a/\y=.str b/\↑a+↑b<=sizeLine/\Q (.str (a++b)) H
def adn {X:Cx}:dZ X (f7 .Add) Qw:=by
 intro pins s σ H x y u v Q I G O h
 obtain⟨a,b,rfl,rfl,hl,q⟩:=h
 obtain⟨t,rfl⟩:=G
 obtain⟨t2,rfl⟩:=O
 show PyProof.Rows.add_str (λt' tk=>⟨.str (a++b),H,I.tok _,⟨_,U⟩,q⟩) hl
def QB (K:av):V->↥V->Hp->VK->Prop:=λx vs H Q=>∃(l:J) (xs:↥Int) (y:Int) (j:Nat),x=.ref l/\vs=[.int y]/\af K H l (xs.map V.int)/\xs[j]?=S y/\(∀m,m<j->xs[m]?≠S y)/\↑xs<=1000/\Q (.int j) H
theorem OO:∀{xs:↥Int} {G:↥ae} {i:Nat} {a:ae},Vals (xs.map V.int) G->G[i]?=S a->∃t,a=.int (xs.getD i 0) t
 | [],_,_,_,.nil,h=>by simp at h
 | x::xs,_,0,a,.cons r _,h=>by
   obtain⟨t,e⟩:=r
   simp at h
   subst h
   show⟨t,e⟩
 | x::xs,_,i+1,a,.cons _ q,h=>by
   obtain⟨t,e⟩:=OO (i:=i) q (by simpa using h)
   show⟨t,by simpa using e⟩
def abo {X:Cx}:AO X "list.index" (QB X.K):=by
 intro pins s σ H x vs v us Q I rx rv h
 obtain⟨l,xs,y,j,rfl,rfl,hq,hj,ik,NG,q⟩:=h
 cases rx
 obtain⟨u,rfl,ru⟩:=rv.one
 obtain⟨dL,rl,pl,hz⟩:=I.list hq
 have mo:=↑rl
 rw[aA]at mo
 have vH:j<↑xs:=(List.getElem?_eq_some_iff.mp hj).1
 obtain⟨o,ho,nX,n,hd⟩:=pl.isList
 obtain⟨oc,od,oda,ZB⟩:=o
 simp only at nX hd
 subst nX
 subst hd
 have tx:∀m (G:m<dL.toArray.size),∃t,dL.toArray[m]=rR (xs[m]'(by simp at G;lia)) t:=λm G=>by
   have pL:m<↑xs:=by simp at G;lia
   obtain⟨t,e⟩:=OO (xs:=xs) (i:=m) rl (show dL[m]?=S (dL.toArray[m])by simp at G ⊢)
   show⟨t,e.trans ?_⟩
   rw[eR,bB pL]
   rfl
 let e:ae->Bool:=λa=>match a with|.int z _=>decide (z=y)|_=>false
 show rT F.slot_list_index ⟨_,ho,U⟩ F.entry_list_index (F.args_list_index_2 _ _) (SeqAt.list_indexAt l dL.toArray n od ZB u e j (by simp;lia) ⋯ ?hit ?no) ⟨ho,?eqs,?fin⟩
 case hit=>
   obtain⟨t,O⟩:=tx j (by simp;lia)
   rw[O]
   change decide (_=y)=true
   rw[(List.getElem?_eq_some_iff.mp hj).2]
   simp
 case no=>
   intro m G ZE
   obtain⟨t,O⟩:=tx m G
   rw[O]
   change decide (_=y)=false
   have pL:m<↑xs:=by simp at G;lia
   have:=ik m ZE
   rw[bB pL]at this
   simpa using this
 case eqs=>
   intro a ha
   obtain⟨m,G,em⟩:=Array.getElem_of_mem ha
   obtain⟨t,O⟩:=tx m G
   rw[em]at O
   have r1:RelV (V.int (xs[m]'(by simp at G;lia))) a:=⟨t,O⟩
   have h1:=FG (A:=X.A.in1) (s:=s) r1 ru rfl rfl
   have h2:eK (V.int (xs[m]'(by simp at G;lia))) (.int y)=e a:=by
     rw[O]
     change decide (xs[m]'(by simp at G;lia)=y)=decide (_=y)
     rfl
   rw[h2]at h1
   show h1
 case fin=>show⟨.int j,H,I.tok _,⟨_,rfl⟩,q⟩
end L2
namespace L3
open PySem PySem.Spec PyProof.Rows L2
section
variable{X:Cx}{a b c e o:Expr}{es:↥Expr}{ta tb tc te:TE}{t:TA}{ci:Pos}
def RX {KK:av}{p2 ci:Pos}(ha:SE X a ta)(hb:SE X b tb)(G:X.K=KK:=by first|show L3.dF|show L3.dE|rfl):SE X (.Subscript a (.Slice Z Z (S b) p2) ci) (Tn KK ta tb):=by
 subst G
 show⟨aeQ ha.h hb.h⟩
def RV {KK:av}{p2:Pos}(ha:SE X a ta)(hb:SE X b tb)(hc:SE X c tc)(G:X.K=KK:=by first|show L3.dF|show L3.dE|rfl):SE X (.Subscript a (.Slice (S b) (S c) Z p2) ci) (zJ (Cv KK) ta (wM tb) (wM tc)):=by
 subst G
 show⟨Cp JF ha.h (zp hb.h) (zp hc.h)⟩
def acb:SO X (f7 .Add) Qw:=⟨adn⟩
def Fw:SE X (.Dict [] [] ci) SQ:=⟨aew⟩
def Fx:SE X (.Dict [] [] ci) SR:=⟨aex⟩
def iR2 {tg:Expr}{p:Pos}(G:Gl X "range")(I:X.mg "range"=Z)(ha:SA X [a,b] t)(hb:fN b:=by first|show ub|show uc|show ua|show Ci|show Io):SI X tg (.Call (.Name "range" p) [a,b] [] ci) (OJ t):=
 ⟨ae3 G I ha.h.pa (by rw[(ha.h.ns a [b] rfl).1.h [b] X.env,hb.h [] X.env];rfl) (by rw[hb.h [] X.env];rfl)⟩
def G6 {lv:Pos}{KK:av}(G:SE X o ta)(ha:SA X [e] t)(I:nA o "index" X.env (eval o X.env)=eval o X.env:=by rfl)(O:(lv.endLine==ci.line)=true:=by rfl)(hK:X.K=KK:=by first|show L3.dF|show L3.dE|rfl) :
   SE X (.Call (.Attribute o "index" lv) [e] [] ci) (ur KK "list" (QB KK) ta t):=by
 subst hK
 show Fd D8 PySem.F.slot_list_index PySem.F.type_list_index ⟨abo⟩ G ha I O
end
end L3
namespace L2
open PySem PySem.Spec PyProof.Rows
end L2
namespace L3
open PySem PySem.Spec PyProof.Rows L2
end L3
namespace PySem
open Sem (wp)
end PySem
namespace PySem
open Sem (wp)
open AutoSeq1 (wpAny_loadPart')
end PySem
namespace L2
open PySem PySem.Spec PyProof.Rows
end L2
namespace L3
open PySem PySem.Spec PyProof.Rows L2
end L3
namespace L2
open PySem PySem.Spec PyProof.Rows
section
variable{X:Cx}{ci:Pos}
def Tf (i j:Nat)(ta:TA):TS:=λD σ H=>ta σ H λvs H1=>∃u v,vs=[u,v]/\D.nx ((σ.set i (S u)).set j (S v)) H1
def aft {i j:Nat}{x y:Str}{a b:Expr}{ta:TA}{O py pt:Pos}{kt k2 i7}(hc:X.calm=true)(hN:X.N.Nodup)(hi:X.N[i]?=S x)(hj:X.N[j]?=S y)(hij:i≠j)
   (hx:X.env.scope.names.lookup x=S .local) (hy:X.env.scope.names.lookup y=S .local) (ha:PA X [a,b] ta)
   (hw:xq [.Tuple [.Name x O,.Name y py] kt pt] (.Tuple [a,b] k2 i7) X.env=pure (S [x,y]))
   (hs:xr [.Tuple [.Name x O,.Name y py] kt pt] (.Tuple [a,b] k2 i7) ci.line X.env=pure false:=by rfl) :
   PS X (.Assign [.Tuple [.Name x O,.Name y py] kt pt] (.Tuple [a,b] k2 i7) ci) (Tf i j ta):=by
 intro pins s σ H D I h
 rw[exec_Assign_arm]
 show aq (qw ?_)
 rw[hs]
 show aq (aS ?_)
 rw[az ∅]
 show aq (Tuple_ (aO (ha _ pins s σ H _ I h) λus G h9=>?_))
 obtain⟨vs,H1,I1,r1,q1⟩:=h9
 obtain⟨u,v,e1,q1⟩:=q1
 subst e1
 obtain⟨u1,u2,rfl,ru,rv⟩:=Vals.two r1
 show rY ?_ alK
 have I2:Inv X pins σ H1 {G with heap:=G.heap.push {cls:=.type "tuple",data:=.seq [u1,u2].toArray} }:=I1.kept (t':=G.toks) λb o e=>di _ e
 rw[hw]
 show aq (aS ?_)
 change aD (aI X.prog X.w) X.A (do rule "assign.swapped-stores";let items←unpackItems (.ref G.heap.objs.size) 2 Z;As [λv=>oS X.env y v,λv=>oS X.env x v] items.reverse;pure Flow.next) _ _ _
 show aq (nE (aq (unpackItems_tuple (items:=#[u1,u2]) (I.ok.hd hc) (IsTup.new G.heap _) λh' qV=>?_)))
 have I3:=I2.kept (h':=h') (t':=G.toks) λb o e=>qV b o (eV (bX e)) e
 change aD _ _ (As [λv=>oS X.env y v,λv=>oS X.env x v] [u2,u1]>>=λz=>pure Flow.next) _ _ _
 show aq (xi (Ax (rA I3 hN hj (.inl hy) rv (λs2 I4=>?_) (.inr hy))))
 show xi (Ax (rA I4 hN hi (.inl hx) ru (λs3 I5=>Ly (aS ?_)) (.inr hx)))
 rw[D2 _ _ hij.symm]at I5
 show⟨_,H1,I5,q1⟩
end
end L2
namespace L3
open PySem PySem.Spec PyProof.Rows L2
section
variable{X:Cx}{a b c e o:Expr}{es:↥Expr}{ta tb tc te:TE}{t:TA}{ci:Pos}
def IB (i j:Nat){x y:Str}{G I pt:Pos}{O k2 i7}(hN:X.N.Nodup)(ha:SA X [a,b] t)(hi:X.N[i]?=S x:=by rfl)(hj:X.N[j]?=S y:=by rfl)(hij:i≠j:=by left)
   (hx:X.env.scope.names.lookup x=S .local:=by rfl) (hy:X.env.scope.names.lookup y=S .local:=by rfl)
   (hw:xq [.Tuple [.Name x G,.Name y I] O pt] (.Tuple [a,b] k2 i7) X.env=pure (S [x,y]):=by rfl)
   (hs:xr [.Tuple [.Name x G,.Name y I] O pt] (.Tuple [a,b] k2 i7) ci.line X.env=pure false:=by rfl) (hc:X.calm=true:=by rfl) :
   SS X (.Assign [.Tuple [.Name x G,.Name y I] O pt] (.Tuple [a,b] k2 i7) ci) (Tf i j t):=⟨aft hc hN hi hj hij hx hy ha.h.pa hw hs⟩
end
end L3
namespace TW
end TW
namespace L2
open PySem PySem.Spec PyProof.Rows SeqAt
def all_ints {xs ys:↥Int}(h:↑xs=↑ys):(cj ↑xs).all (λj=>eK (.int (xs.getD j 0)) (.int (ys.getD j 0)))=decide (xs=ys):=by
 have G:(∀j,j<↑xs->xs.getD j 0=ys.getD j 0)↔xs=ys:=by
   constructor
   . intro k
     show List.ext_getElem h λj h1 h2=>?_
     have:=k j h1
     rw[eR,eR,bB h1,bB h2]at this
     show this
   . intro e j _
     rw[e]
 by_cases e:xs=ys
 . rw[bS e,wR]
   intro j I
   change decide (xs.getD j 0=ys.getD j 0)=true
   show bS (G.mpr e j (List.mem_range.mp I))
 . rw[fU e]
   rw[Bool.eq_false_iff]
   intro z
   rw[wR]at z
   show e (G.mp λj I=>bw (show decide (xs.getD j 0=ys.getD j 0)=true from z j (List.mem_range.mpr I)))
def aaD {K:av}{H:Hp}{n:Nat}{xs ys:↥Int}:∀(j:Nat) (x y:V),(xs.map V.int)[j]?=S x->(ys.map V.int)[j]?=S y->EB K H n x y (eK (.int (xs.getD j 0)) (.int (ys.getD j 0))):=λj x y hx hy=>by
 rw[eI]at hx hy
 obtain⟨a,ha,rfl⟩:=Option.map_eq_some_iff.mp hx
 obtain⟨b,hb,rfl⟩:=Option.map_eq_some_iff.mp hy
 rw[eR,eR,ha,hb]
 show EB.flat rfl rfl
def RB.ints {K:av}{H:Hp}{n:Nat}{a b:J}{xs ys:↥Int}(ha:H a=S (.lst (xs.map V.int)))(hb:H b=S (.lst (ys.map V.int))):RB K H n (.ref a) (.ref b) (decide (xs=ys)):=by
 by_cases G:↑xs=↑ys
 . show⟨a,b,aw U U (.inl ⟨_,af.of ha,af.of hb,by rw[aA,aA];show G,aaD,?_⟩)⟩
   rw[aA,all_ints G]
 . show⟨a,b,aw U U (.inr (.inl ⟨af.of ha,af.of hb,by rw[aA,aA];show G,fU λz=>G (by rw[z])⟩))⟩
end L2
namespace L3
open PySem PySem.Spec PyProof.Rows L2
end L3
namespace TW
end TW
namespace TW
end TW
namespace L2
open PySem PySem.Spec PyProof.Rows
section
variable{X:Cx}
theorem Mm:∀{bs:↥Bool} {us:↥ae},Vals (bs.map V.bl) us->us=bs.map qv
 | [],_,.nil=>rfl
 | b::bs,_,.cons r q=>by
   cases r
   rw[Mm q]
   rfl
def VO (hc:X.calm=true):jO X (.builtin "all") (λxs H Q=>∃(l:J) (bs:↥Bool),xs=[.ref l]/\af X.K H l (bs.map V.bl)/\Q (.bl (bs.all id)) H):=by
 intro pins s σ H xs us Q I r h
 obtain⟨l,bs,rfl,hq,q⟩:=h
 obtain⟨u,rfl,ru⟩:=vals1 r
 obtain rfl:u=bU l:=ru
 obtain⟨dL,rv,pl,_⟩:=I.list hq
 have e1:=Mm rv
 subst e1
 have O:=pl.isList
 have cE:l<s.heap.objs.size:=by obtain⟨_,e,_⟩:=O;show bX e
 show call_all_walk (xw O ?_)
 show⟨_,_,_,_,_,_,λi=>bs.getD i true,U,Walks.list (A:=X.A.in1) (show X.A.in1.handled=Z from I.ok.hd hc) s.heap.objs.size l (eV cE) (bs.map qv).toArray,⟨⟨_,hG _ rfl,U,U⟩,O.push _⟩,?_,λh' tk hk=>?_⟩
 . intro i v s' Q' E' hP Yj
   have hv:bs[i]?.map qv=S v:=by simpa using hP
   obtain⟨b,hb,rfl⟩:=Option.map_eq_some_iff.mp hv
   have NW:Q' (bs.getD i true) s':=Yj
   rw[eR,hb]at NW
   show r6 NW
 . have kk:∀b o,s.heap.get? b=S o->h'.get? b=S o:=old_kept hk
   show⟨.bl (bs.all id),H,I.kept kk,?_,q⟩
   have e:(cj (bs.map qv).toArray.size).all (λi=>bs.getD i true)=bs.all id:=by
     rw[show(bs.map qv).toArray.size=↑bs by simp]
     have G:(∀i,i<↑bs->bs.getD i true=true)↔∀b∈bs,b=true:=by
       constructor
       . intro k b hb
         obtain⟨i,hi,e⟩:=Af hb
         have:=k i hi
         rw[eR,bB hi]at this
         rw[← e]
         show this
       . intro k i hi
         rw[eR,bB hi]
         show k _ (K6 hi)
     rw[qk,wR,wR]
     show⟨λk b hb=>G.mp (λi hi=>k i (List.mem_range.mpr hi)) b hb,λk i hi=>G.mpr (λb hb=>k b hb) i (List.mem_range.mp hi)⟩
   rw[e]
   rfl
end
end L2
namespace L3
open PySem PySem.Spec PyProof.Rows L2
def Mv {X:Cx}{KK:av}(hc:X.calm=true:=by rfl)(G:X.K=KK:=by first|show L3.dF|show L3.dE|rfl):SC X (.builtin "all") (λxs H Q=>∃(l:J) (bs:↥Bool),xs=[.ref l]/\af KK H l (bs.map V.bl)/\Q (.bl (bs.all id)) H):=by
 subst G
 show⟨VO hc⟩
end L3
namespace L2
open PySem PySem.Spec PyProof.Rows SeqAt
section
variable{K:av}{H:Hp}{α:Type}[DecidableEq α]{At:V->α->Prop}{n:Nat}
theorem zg:∀{vx G:↥V} {xs ys:List α},Paired At vx xs->Paired At G ys->↑vx=G.length->(∀u v x y,At u x->At v y->EB K H n u v (decide (x=y))) ->
   ∃e:Nat->Bool,(∀j x y,vx[j]?=S x->G[j]?=S y->EB K H n x y (e j))/\(cj ↑vx).all e=decide (xs=ys)
 | [],[],_,_,.nil,.nil,_,_=>⟨λz=>true,(λj x y h=>by cases j<;>cases h),rfl⟩
 | u::vx,v::G,x::xs,y::ys,.cons h1 I,.cons h2 O,hl,k=>by
   obtain⟨e,he,ha⟩:=zg I O (by simpa using hl) k
   show⟨λj=>match j with|0=>decide (x=y)|j+1=>e j,λj a b hx hy=>?_,?_⟩
   . cases j with
     | zero=>
       cases hx
       cases hy
       show k u v x y h1 h2
     | succ j=>show he j a b hx hy
   . rw[gF,List.range_succ_eq_map,DP,List.all_map]
     change(decide (x=y)&&(cj ↑vx).all e)=_
     rw[ha]
     by_cases c:x=y<;>by_cases d:xs=ys<;>simp[c,d]
def RB.told {a b:J}{vx I:↥V}{xs ys:List α}(ha:H a=S (.lst vx))(hb:H b=S (.lst I))(O:Paired At vx xs)(py:Paired At I ys)(k:∀u v x y,At u x->At v y->EB K H n u v (decide (x=y))):RB K H n (.ref a) (.ref b) (decide (xs=ys)):=by
 have lx:=Paired.length O
 have ly:=Paired.length py
 by_cases G:↑vx=I.length
 . obtain⟨e,h1,h2⟩:=zg O py G k
   show⟨a,b,aw U U (.inl ⟨e,af.of ha,af.of hb,G,h1,h2.symm⟩)⟩
 . show⟨a,b,aw U U (.inr (.inl ⟨af.of ha,af.of hb,G,fU λz=>G (by rw[lx,ly,z])⟩))⟩
end
theorem zh {α:Type}(c:α->V):∀xs:List α,Paired (λv x=>v=c x) (xs.map c) xs
 | []=>.nil
 | _::r=>.cons rfl (zh c r)
def RB.strs {K:av}{H:Hp}{n:Nat}{a b:J}{xs ys:↥Str}(ha:H a=S (.lst (xs.map V.str)))(hb:H b=S (.lst (ys.map V.str))):RB K H n (.ref a) (.ref b) (decide (xs=ys)):=
 RB.told ha hb (zh V.str xs) (zh V.str ys) λu v x y h1 h2=>by
   subst h1
   subst h2
   have e:eK (.str x) (.str y)=decide (x=y):=by
     change(x==y)=_
     rw[qk,beq_iff_eq,decide_eq_true_iff]
   rw[← e]
   show EB.flat rfl rfl
def RB.VE {K:av}{H:Hp}{n:Nat}{a b:J}{xs ys:↥Bool}(ha:H a=S (.lst (xs.map V.bl)))(hb:H b=S (.lst (ys.map V.bl))):RB K H n (.ref a) (.ref b) (decide (xs=ys)):=
 RB.told ha hb (zh V.bl xs) (zh V.bl ys) λu v x y h1 h2=>by
   subst h1
   subst h2
   have e:eK (.bl x) (.bl y)=decide (x=y):=by
     cases x<;>cases y<;>rfl
   rw[← e]
   show EB.flat rfl rfl
structure xI (k:Nat)(A:bD):Prop where
 dp:A.depth+3*k+5<LD
 un:A.units+16*k+200<dC
def cX.h {k:Nat}{A:bD}(r:cX k A)(e:Option ae):xI k (A.mark e):=⟨r.dp,r.un⟩
abbrev Fu (P:bo)(w:aY)(K:av)(mg:Str->Option ae)(base:Heap)(N:↥Str)(qual:Str)(f8:cG)(f:J)(cd:ae)(A:bD)(outer:↥Env)(s:aj)(H:Hp)(E:XK):Cx:=
 {gV bj P w K mg base N qual f8 f cd A outer s H E with calm:=false,xe:=λ_ _=>False}
structure r8 (P:bo)(w:aY)(K:av)(mg:Str->Option ae)(base:Heap)(k:Nat)(f:J)(fd:ba)(ps:↥Str)(sp:Sp):Prop where
 len:∀vs H Q E,sp vs H Q E->↑vs=↑ps
 run:∀(A:bD) (outer:↥Env) (s:aj) (H:Hp) (args:Args) (us:↥ae) (vs:↥V) (Q:VK) (E:XK),xI k A->oT P w K mg base A outer s H->uG s fd args (ps.zip us)->Vals vs us->sp vs H Q E ->
   hU (aI P w) A (.call (.ref f) args) (CR bj outer P w H s Q E) s
def r8.mono {P:bo}{w:aY}{K:av}{mg:Str->Option ae}{base:Heap}{j k:Nat}{f:J}{fd:ba}{ps:↥Str}{sp:Sp}(F:r8 P w K mg base j f fd ps sp)(h:j<=k):r8 P w K mg base k f fd ps sp:=
 ⟨F.len,λA outer s H args us vs Q E G=>F.run A outer s H args us vs Q E ⟨by have:=G.dp;lia,by have:=G.un;lia⟩⟩
section
variable{P:bo}{w:aY}{K:av}{mg:Str->Option ae}{base:Heap}
def bq.okH {x qual:Str}{st:Stmt}{f:J}{fd:ba}{N ps:↥Str}{k:Nat}{sp:Sp}(F:bq K x qual st f fd)(S8:bE N ps (aV st))(len:∀vs H Q E,sp vs H Q E->↑vs=↑ps)
   (Fa:∀(im:ae) (A:bD) (outer:↥Env) (s:aj) (H:Hp) (vs:↥V) (Q:VK) (E:XK),xI k (A.deeper (fM qual (aV st) s.heap.objs.size f im))->sp vs H Q E ->
     ∃t,fR (Fu P w K mg base N qual (aV st) f im A outer s H E) (jg st) t/\t {nx:=λp H'=>Q .aM H',rt:=Q} (start N vs) H):r8 P w K mg base (k+1) f fd ps sp:=by
 obtain⟨oc,od,kV,doc,pm,an,im,ct,ZB,rfl,lk,wS⟩:=F.ex
 show⟨len,λA outer s H args us vs Q E hr O hb r hsp=>?_⟩
 have hl:=len _ _ _ _ hsp
 have kb:=λb o e=>(O.bs b o e).1
 have KX:K.In s.heap:=O.mod.kin.keeps kb
 have lim:s.heap.NoLimit:=O.mod.nolimit.keeps kb
 have hk:∀y∈ps.zip us,(aV st).names.lookup y.1=S .local\/((aV st).names.lookup y.1=S .cell/\((cellsFrom (s.heap.objs.size+1) (aV st).names []).lookup y.1).isSome=true):=λ⟨n,v⟩ hy=>
   (S8.par n (rN hy).1).elim .inl λq=>.inr ⟨q,Ln _ _ _ (.inl q)⟩
 show codeAny_call_function (by have:=hr.dp;lia) (KX _ _ lk) rfl S8.co S8.gen rfl (UI KX wS) (hb _ _ _ _ (UT S8.kind hk λenv he s1 z=>?_))
 subst he
 show⟨lim.keeps z.toInCall.keep,codeAny_func ?_⟩
 obtain⟨t,ht,hq⟩:=Fa im A outer s H vs Q E ⟨by have:=hr.dp;change A.depth+1+3*k+5<_;lia,by have:=hr.un;change A.units+3+16*k+200<_;lia⟩ hsp
 have e1:oT P w K mg base ({A with handled:=Z}:bD) outer s H:=⟨O.frames,O.mod,O.bs,O.bsz,O.ij,O.frf,O.hok,O.bare⟩
 have G:=OP (CX:=bj) (qual:=qual) (f:=f) (cd:=im) (E:=E) S8 (show({A with handled:=Z}:bD).handled=Z from rfl) e1 hl r z
 have I:Inv (Fu P w K mg base N qual (aV st) f im A outer s H E) [] (start N vs) H s1:=
   ⟨⟨G.ok.mod,G.ok.kind,G.ok.glob,G.ok.blt,G.ok.above,G.ok.inj,G.ok.has,G.ok.cab,(λz=>nomatch z),Ue O.frames,G.ok.stk,G.ok.exf,G.ok.bs,G.ok.bsz,G.ok.noex,G.ok.exfs,G.ok.ij,G.ok.frf⟩,G.os,G.bare,G.base,G.loc,G.cell,G.free,G.freeC,G.pin,G.hok,G.len⟩
 show kh (ht [] s1 (start N vs) H _ I hq) (λfl s' hs=>?_) λe s' hs=>hs.elim
 have fin:∀{σ':St} {H':Hp} {v:V} {u:ae},Inv (Fu P w K mg base N qual (aV st) f im A outer s H E) [] σ' H' s'->RelV v u->Q v H'->CE outer P w H s Q u s':=
   λ{σ' H' v u} J8 rv q=>⟨v,H',J8.os,J8.bare,J8.base,J8.hok,rv,q⟩
 cases fl with
 | ret u=>
   obtain⟨v,σ',H',J8,rv,q⟩:=hs
   show fin J8 rv q
 | next=>
   obtain⟨σ',H',J8,q⟩:=hs
   show fin (v:=V.aM) (u:=Aq) J8 rfl q
 | brk=>obtain⟨_,_,_,q⟩:=hs;show q.elim
 | cont=>obtain⟨_,_,_,q⟩:=hs;show q.elim
end
section
variable{X:Cx}{k:Nat}{f:J}{fd:ba}{ps:↥Str}{sp:Sp}{x:Str}{p ci:Pos}{e:Expr}{es:↥Expr}{t:TA}
def aen (F:r8 X.prog X.w X.K X.mg X.base k f fd ps sp)(hr:xI k X.A)(hg:Gl X x)(hm:X.mg x=S (.ref f))(hk:lC X.K (.ref f)=true)(hb:Binds X.K fd ps [])
   (ha:PA X (e::es) t) (IN:(x==("__debug__":Str))=false:=by left) (he:cM (e::es) X.env=(false,eval e X.env)::cM es X.env:=by rfl) (Ev:(iB ci (cM es X.env)).any (·.1)=false:=by rfl) :
   PE X (.Call (.Name x p) (e::es) [] ci) (uv sp [] E0 t):=by
 intro pins s σ H Q I h
 show nD (vV I hg hm ?_ IN)
 show D9 (h₀:=X.base) I.ok.mod.kin hk (aO (ha ci pins s σ H _ I h) λus O g9=>?_) he Ev
 obtain⟨vs,H1,G,r,q⟩:=g9
 show⟨G.dQ,?_⟩
 have q':sp vs H1 Q E0:=by have z:sp (vs++[]) H1 Q E0:=q;rw[jJ]at z;show z
 have hl:↑us=↑ps:=by rw[← ↑r];show F.len _ _ _ _ q'
 have Bv:=hb O us G.dQ (by rw[jJ];show hl)
 rw[jJ]at Bv
 show Ay (xl (F.run X.A X.stack O H1 ⟨us,[]⟩ us vs Q E0 hr G.FE Bv r q') λr s' hq=>?_)
 cases r with
 | error e=>show gD hq
 | ok fl=>
   cases fl with
   | ret u=>show G.after hq
   | next=>show gD hq
   | brk=>show gD hq
   | cont=>show gD hq
end
def To (K:av)(mg:Str->Option ae)(T:J)(n G:Nat)(tb:XK->TS)(th:TS):TS:=λD σ H=>tb (λcls z H2=>∃C tl x,cls=.ref C/\Xc K mg x C tl/\(bU C::tl).contains (.ref T)=true/\∀ea,H2 ea=Z->th {nx:=λσ8 I=>D.nx (σ8.set G Z) I,rt:=λz z=>False} ((fQ n Z).set G (S (.ref ea))) (upd H2 ea (qH ea C))) D σ H
def afy {X:Cx}{tn en:Str}{T:J}{ie:Nat}{body qS:↥Stmt}{O:Stmt}{tb:XK->TS}{th:TS}{np hp ci:Pos}(hst:X.stack=X.env::X.outer)(hex:X.ex=[])(hfr:X.env.frame=S X.env.locals)(hN:X.N.Nodup)(hie:X.N[ie]?=S en)
   (hle:X.env.scope.names.lookup en=S .local) (cT:Xc X.K X.mg tn T vE) (hg:Gl X tn)
   (hb:∀(W:ae->aj->Prop) (pn:↥(J×Obj)) (Ex:XK),Passes (ib X.prog X.w X.base) {X with xe:=W,pn:=pn} Ex->fR {X with xe:=W,pn:=pn} body (tb Ex))
   (hh:∀ea:J,fR {X with A:=X.A.mark (S (.ref ea)),calm:=false,xe:=λt t=>False} (O::qS) th) (hdt:(tn==("__debug__":Str))=false) :
   PS X (.Try body [.ExceptHandler (S (.Name tn np)) (S en) (O::qS) hp] [] [] ci) (To X.K X.mg T X.N.length ie tb th):=by
 intro pins s σ H D I h
 let Hd:↥ExceptHandler:=[.ExceptHandler (S (.Name tn np)) (S en) (O::qS) hp]
 let W:ae->aj->Prop:=λe s1=>aD (aI X.prog X.w) X.A (noteFrame e X.env) (λt s2=>aD (aI X.prog X.w) X.A (setFlight e Z) (λt s3=>aD (aI X.prog X.w) X.A (handleBy e X.env Hd) (SP X pins D) X.xe s3) X.xe s2) X.xe s1
 have ag7:∀p∈(X.pn++pins)++[],p∈X.pn++pins:=λp hp=>by rw[jJ]at hp;show hp
 have back:∀{σ1:St} {H1:Hp} {s1:aj} {Qk:↥(J×Obj)},Inv {X with xe:=W,pn:=X.pn++pins} Qk σ1 H1 s1->Inv X pins σ1 H1 s1:=λJ8=>J8.back λp hp=>Lb _ hp
 show wpAny_Try_except (kh (hb W (X.pn++pins) _ ?_ [] s σ H D (I.other ag7) h) (λf s1 hs=>?_) (λe s1 he=>he))
 . -- an exception of a callee
   intro Qk σ1 H1 s1 e s2 J8 cx
   obtain⟨ea,cls,a0,B,H2,rfl,Iy,E7,m9,Gz,Dd,mH,inB,kY,Cb,C,tl,x,rfl,xc,hup,q⟩:=cx
   have J0:=back J8
   have aai:({X with xe:=W,pn:=X.pn++pins}:Cx).stack=X.env::X.outer:=hst
   rw[aai]at m9 mH inB
   have vm:=mH.2.2.1
   have at_:∀h3:Heap,B.StaysIn h3->s2.heap.UpToSlots h3->Inv X pins σ1 H2 {s2 with heap:=h3}:=λh3 s3 up=>by
     show J0.Mz (s':={s2 with heap:=h3}) (ch:=[]) Iy ?_ (Kf Gz kY mH.1 s3) E7 (λb z=>nomatch z)
     rw[hst]
     show ahx m9 mH.1 s3 inB (agR vm up)
   have n2:H2 ea=Z:=by
     cases z:H2 ea with
     | none=>rfl
     | some u=>
       obtain⟨o,ho⟩:=kY ea u z
       rw[mH.2.1]at ho
       cases ho
   change aD (aI X.prog X.w) X.A (noteFrame (.ref ea) X.env) _ _ _
   have Br:X.A.frames=S (X.env::X.outer):=by rw[← hst];show I.ok.frames
   show wpAny_looks_onW Br hfr mH λh4 Y2 up4=>wpAny_landsW Y2 λh5 FH up5=>?_
   have Tt:=up4.trans up5
   have I5:=at_ h5 FH.1 Tt
   show wpAny_handleBy_cons (codeAny_handlers_test (vV (I5.mark (e:=S (.ref ea))) hg cT.m ?_ hdt)) (by intro z;cases z)
   obtain⟨N1,a1,a2,a3,a4,a5,a6,a7,a8,a9,b0,b1,b2,b3,b5,m1,hC,_,_,_⟩:=xc.obj I5.dQ
   obtain⟨N2,c1,c2,c3,c4,c5,c6,c7,c8,c9,d0,d1,d2,d3,d5,m2,hT,_,_,_⟩:=cT.obj I5.dQ
   obtain⟨ob,ZR,ZS⟩:=FH.there
   show abh hC hT ZR ZS hup rfl (codeAny_handlers_suite_as (lands_againW FH λh6 Ni up6=>?_))
   have I6:=at_ h6 Ni.1 (Tt.trans up6)
   have WS:lK ea C h6:=Ni.there
   have G:∀b o,s1.heap.get? b=S o->b≠ea:=λb o hb z=>by rw[z,Cb]at hb;cases hb
   have U6:=I6.ahf n2 WS (by
     cases z:X.s₀.heap.get? ea with
     | none=>rfl
     | some o=>
       by_cases hx:ea∈X.ex
       . rw[hex]at hx
         show nomatch hx
       . obtain⟨o',e1⟩:=J0.base.there ea o z hx
         rw[Cb]at e1
         cases e1) (by
     obtain⟨m,⟨o,_,_,ho,_⟩,_⟩:=J0.loc
     show(G _ o ho).symm) (λy c e=>by
     obtain⟨v,o,ho,_⟩:=J0.cell y c e
     show G c o ho) (λp hp=>G p.1 p.2 (J0.pin p hp).1)
   show rA U6 hN hie (.inl hle) (v:=.ref ea) rfl (λs7 I7=>?_) (.inr hle)
   have hlenσ:σ1.length=X.N.length:=J0.len
   have Gi:ie<σ1.length:=by rw[hlenσ];show(List.getElem?_eq_some_iff.mp hie).1
   have U7:=I7.weak (σ':=(fQ X.N.length Z).set ie (S (.ref ea))) (by rw[uK,uK,wW,hlenσ]) (λi v e=>by
     by_cases hi:i=ie
     . subst hi
       rw[Ae (by rw[wW,← hlenσ];show Gi)]at e
       rw[Ae Gi]
       show e
     . rw[DW (mw hi),K5]at e
       split at e<;>cases e)
   show kh (hh ea pins s7 _ _ _ (U7.mark (e:=S (.ref ea))) (q ea n2)) (λf s8 hs=>?_) (λt t z=>z.elim)
   cases f with
   | next=>
     obtain⟨σ8,H8,I8,z8⟩:=hs
     have Ez:=I6.unmark I8
     obtain⟨m8,ZH,Zl⟩:=id Ez.loc
     show wpAny_nameGoes_keeps (by show hle) ZH (by rw[I.ok.kind];rfl) λh9 v9 ZI hs9=>⟨_,_,Ez.forget (σ':=σ8.set ie Z) Zl ZI hs9 (by rw[uK]) (λi v e=>?_),z8⟩
     have l8:σ8.length=X.N.length:=Ez.len
     by_cases hi:i=ie
     . subst hi
       rw[Ae (by rw[l8,← hlenσ];show Gi)]at e
       cases e
     . rw[DW (mw hi)]at e
       show⟨e,λz=>hi ?_⟩
       obtain⟨h1,e1⟩:=List.getElem?_eq_some_iff.mp z
       obtain⟨h2,e2⟩:=List.getElem?_eq_some_iff.mp hie
       rcases Nat.lt_trichotomy i ie with c|c|c
       . show ao (e1.trans e2.symm) (List.pairwise_iff_getElem.mp hN i ie h1 h2 c)
       . show c
       . show ao (e2.trans e1.symm) (List.pairwise_iff_getElem.mp hN ie i h2 h1 c)
   | brk=>obtain⟨_,_,_,z⟩:=hs;show z.elim
   | cont=>obtain⟨_,_,_,z⟩:=hs;show z.elim
   | ret u=>obtain⟨_,_,_,_,_,z⟩:=hs;show z.elim
 . cases f with
   | next=>
     obtain⟨σ',H',J8,z⟩:=hs
     show Em ⟨σ',H',back J8,z⟩
   | brk=>obtain⟨σ',H',J8,z⟩:=hs;show⟨σ',H',back J8,z⟩
   | cont=>obtain⟨σ',H',J8,z⟩:=hs;show⟨σ',H',back J8,z⟩
   | ret u=>obtain⟨v,σ',H',J8,r,z⟩:=hs;show⟨v,σ',H',back J8,r,z⟩
end L2
namespace TW
open PySem L2
def uV (P:bo)(w:aY)(K:av)(mg:Str->Option ae)(base:Heap)(x:Str)(ps:↥Str)(k:Nat)(sp:Sp):Prop:=
 ∃f fd,r8 P w K mg base k f fd ps sp/\lC K (.ref f)=true/\Binds K fd ps []/\mg x=S (.ref f)
def uV.mono {P:bo}{w:aY}{K:av}{mg:Str->Option ae}{base:Heap}{x:Str}{ps:↥Str}{j k:Nat}{sp:Sp}(h:uV P w K mg base x ps j sp)(hk:j<=k):uV P w K mg base x ps k sp:=
 let⟨f,fd,a,b,c,d⟩:=h;⟨f,fd,a.mono hk,b,c,d⟩
end TW
namespace L3
open PySem L2
section
variable{X:Cx}{e:Expr}{es:↥Expr}{t:TA}{ci:Pos}
def adQ {x:Str}{p:Pos}{ps:↥Str}{kk:Nat}{sp:Sp}(D:TW.uV X.prog X.w X.K X.mg X.base x ps kk sp)(I:xI kk X.A)(O:Gl X x)(ha:SA X (e::es) t)(IN:(x==("__debug__":Str))=false:=by left) :
   SE X (.Call (.Name x p) (e::es) [] ci) (uv sp [] E0 t):=by
 obtain⟨_,_,G,kp,b,m⟩:=D
 show⟨aen G I O m kp b ha.h.pa IN ((ha.h.ns e es rfl).1.h es X.env) ((ha.h.ns e es rfl).2 ci X.env)⟩
def ahg {tn en:Str}{T:J}(ie:Nat){body qS:↥Stmt}{G:Stmt}{I:XK->TS}{th:TS}{np hp:Pos}{KK:av}{mg:Str->Option ae}{NN:Nat}(hN:X.N.Nodup)(cT:Xc X.K X.mg tn T vE)(hg:Gl X tn)
   (hb:∀(W:ae->aj->Prop) (pn:↥(J×Obj)) (O:XK),Passes (ib X.prog X.w X.base) {X with xe:=W,pn:=pn} O->SL {X with xe:=W,pn:=pn} body (I O))
   (hh:∀ea:J,SL {X with A:=X.A.mark (S (.ref ea)),calm:=false,xe:=λz z=>False} (G::qS) th)
   (hie:X.N[ie]?=S en:=by rfl) (hle:X.env.scope.names.lookup en=S .local:=by rfl)
   (hst:X.stack=X.env::X.outer:=by rfl) (hex:X.ex=[]:=by rfl) (hfr:X.env.frame=S X.env.locals:=by rfl) (hK:X.K=KK:=by rfl) (hm:X.mg=mg:=by rfl) (hNN:X.N.length=NN:=by rfl)
   (hdt:(tn==("__debug__":Str))=false:=by left) :
   SS X (.Try body [.ExceptHandler (S (.Name tn np)) (S en) (G::qS) hp] [] [] ci) (To KK mg T NN ie I th):=by
 subst hK hm hNN
 show⟨afy hst hex hfr hN hie hle cT hg (λW pn O pP=>(hb W pn O pP).h) (λea=>(hh ea).h) hdt⟩
def MC {a b c:Expr}{ta tb tc:TE}{op G:CmpOp}{r I:R2}(O:SO X (dD op) r)(Ps:SO X (dD G) I)(ha:SE X a ta)(hb:SE X b tb)(hc:SE X c tc)(hm:lastMarks [op,G] [b,c]=false:=by with_unfolding_all rfl):SE X (.Compare a [op,G] [b,c] ci) (SF r I ta tb tc):=⟨aep O.h Ps.h ha.h hb.h hc.h hm⟩
end
end L3
namespace L2
open PySem PySem.Spec PyProof.Rows SeqAt
end L2
namespace L3
open PySem PySem.Spec PyProof.Rows L2
end L3
namespace PySem
open Sem (wp)
abbrev km (h:Heap)(T:J)(a b c:ae):Prop:=h.get? T=S {cls:=.type "tuple",data:=.seq #[a,b,c]}
def F.ahu (a b c:ae):checkTypeCall "zip" ⟨[a,b,c],[]⟩=pure ():=by kernel_rfl
def F.abC (a b c:ae):LA "zip.__new__" ⟨[.type "zip",a,b,c],[]⟩=pure ():=by kernel_rfl
def F.Vw (a b c d:ae):argsOk "object.__init__" ⟨[a,b,c,d],[]⟩:=by
 unfold argsOk;rw[signature?_of (id:="object.__init__") (n:=['_','_','t','i','n','i','_','_']) (o:=['t','c','e','j','b','o']) (by kernel_rfl) F.owner_object];kernel_rfl
structure Z3 (h:Heap)(n l1 l2 l3:J)(i:Nat):Prop where
 z:mv h (n+5) (n+3) (n+4) .none
 ti:km h (n+3) (.ref n) (.ref (n+1)) (.ref (n+2))
 to:∃a b c,km h (n+4) a b c
 i1:h.IsListIter n l1 i
 i2:h.IsListIter (n+1) l2 i
 i3:h.IsListIter (n+2) l3 i
section
variable{prog:bo}{w:aY}{A:bD}{E:ae->aj->Prop}{s:aj}{n l1 l2 l3:Nat}{i:Nat}{xs ys zs:Array ae}{x y u:ae}
def Ko {T:J}{a b c v:ae}{k:Nat}{Q:Unit->aj->Prop}(G:km s.heap T a b c)
   (h:∀g,g.get? T=S {cls:=.type "tuple",data:=.seq ((#[a,b,c]:Array ae).setIfInBounds k v)}->lj T s.heap g->Q () {s with heap:=g}):aD (aI prog w) A (updateSeq T (·.setIfInBounds k v)) Q E s:=by
 show wpAny_updateSeq G rfl (h _ ?_ (DM ..))
 rw[KU _ G rfl]
 simp[xg]
def ah3 {Q:ae->aj->Prop}(n1:l1<n)(n2:l2<n)(n3:l3<n)(Z8:Z3 s.heap n l1 l2 l3 i)(h1:s.heap.IsList l1 xs)(h2:s.heap.IsList l2 ys)(h3:s.heap.IsList l3 zs)(hx:xs[i]?=S x)(hy:ys[i]?=S y)(hu:zs[i]?=S u)
   (hQ:∀g,mv g (n+5) (n+3) (n+4) (rawInt s.heap.objs.size)->km g (n+4) x y u->g.IsListIter n l1 (i+1)->g.IsListIter (n+1) l2 (i+1)->g.IsListIter (n+2) l3 (i+1)->km g s.heap.objs.size x y u ->
     (∀c o,c∉([n+5,n+4,n,n+1,n+2]:↥J)->s.heap.get? c=S o->g.get? c=S o)->Q (.ref s.heap.objs.size) {s with heap:=g}) :
   aD (aI prog w) A (gZ.«zip.__next__» ⟨[.ref (n+5)],[]⟩) (λfin s'=>∃v,fin=.done (.ret v)/\Q v s') E s:=by
 obtain⟨zr,ti,⟨a,b,c,to⟩,j1,j2,j3⟩:=Z8
 change aD _ _ (field (.ref (n+5)) 2>>=_) _ _ _
 show aq (hV zr rfl (x:=.bool false) rfl ?_)
 change aD _ _ (field (.ref (n+5)) 3>>=_) _ _ _
 show aq (hV zr rfl (x:=.ref (n+3)) rfl (aq (rZ ti rfl ?_)))
 change aD _ _ (rK (.ref (n+5))>>=_) _ _ _
 show aq ?_
 unfold rK
 show aq (hV zr rfl (x:=.none) rfl (aS ?_))
 simp only[if_true]
 show aq (nE (aq (hV zr rfl (x:=.ref (n+4)) rfl (aq (uQ zr (by simp) λg1 uF e1=>?_)))))
 replace uF:mv g1 (n+5) (n+3) (n+4) .ellipsis:=uF
 show aq ?_
 simp only[List.zipIdx_cons,List.zipIdx_nil,Ac,DU]
 show aq (aq (Ep ?_))
 change aD _ _ (rJ (.ref n)>>=_) _ _ _
 show aq (xu (j1.extBut e1.extBut (show @Ne Nat _ _ by lia)) (h1.extBut e1.extBut (show @Ne Nat _ _ by lia)) hx λg2 k1 e2=>aS ?_)
 have t2:km g2 (n+4) a b c:=e2.extBut _ _ (show @Ne Nat _ _ by lia) (e1.extBut _ _ (show @Ne Nat _ _ by lia) to)
 show aq (rZ t2 rfl (aq (Ko t2 λg3 t3 e3=>?_)))
 replace t3:km g3 (n+4) x b c:=t3
 show aq (wpAny_letGo (aS ?_))
 have c3:∀d o,d≠n+5->d≠n+4->d≠n->s.heap.get? d=S o->g3.get? d=S o:=λd o I O d3 e=>e3.extBut _ _ O (e2.extBut _ _ d3 (e1.extBut _ _ I e))
 show aq (aq (Ep ?_))
 change aD _ _ (rJ (.ref (n+1))>>=_) _ _ _
 show aq (xu (j2.at λo e=>c3 _ o (show @Ne Nat _ _ by lia) (show @Ne Nat _ _ by lia) (show @Ne Nat _ _ by lia) e) (h2.at λo e=>c3 _ o (show @Ne Nat _ _ by lia) (show @Ne Nat _ _ by lia) (show @Ne Nat _ _ by lia) e) hy λg4 k2 e4=>aS ?_)
 have t4:km g4 (n+4) x b c:=e4.extBut _ _ (show @Ne Nat _ _ by lia) t3
 show aq (rZ t4 rfl (aq (Ko t4 λg5 t5 e5=>?_)))
 replace t5:km g5 (n+4) x y c:=t5
 show aq (wpAny_letGo (aS ?_))
 have c5:∀d o,d≠n+5->d≠n+4->d≠n->d≠n+1->s.heap.get? d=S o->g5.get? d=S o:=λd o I O d3 d4 e=>e5.extBut _ _ O (e4.extBut _ _ d4 (c3 d o I O d3 e))
 show aq (aq (Ep ?_))
 change aD _ _ (rJ (.ref (n+2))>>=_) _ _ _
 show aq (xu (j3.at λo e=>c5 _ o (show @Ne Nat _ _ by lia) (show @Ne Nat _ _ by lia) (show @Ne Nat _ _ by lia) (show @Ne Nat _ _ by lia) e) (h3.at λo e=>c5 _ o (show @Ne Nat _ _ by lia) (show @Ne Nat _ _ by lia) (show @Ne Nat _ _ by lia) (show @Ne Nat _ _ by lia) e) hu λg6 k3 e6=>aS ?_)
 have t6:km g6 (n+4) x y c:=e6.extBut _ _ (show @Ne Nat _ _ by lia) t5
 show aq (rZ t6 rfl (aq (Ko t6 λG t7 e7=>?_)))
 replace t7:km G (n+4) x y u:=t7
 show aq (wpAny_letGo (aS (aS (aq (rZ t7 rfl (aq (wpAny_newTuple ?_)))))))
 have sz:G.objs.size=s.heap.objs.size:=by rw[e7.1,e6.1,e5.1,e4.1,e3.1,e2.1,e1.1]
 have Ud:mv G (n+5) (n+3) (n+4) .ellipsis:=e7.extBut _ _ (show @Ne Nat _ _ by lia) (e6.extBut _ _ (show @Ne Nat _ _ by lia) (e5.extBut _ _ (show @Ne Nat _ _ by lia) (e4.extBut _ _ (show @Ne Nat _ _ by lia) (e3.extBut _ _ (show @Ne Nat _ _ by lia) (e2.extBut _ _ (show @Ne Nat _ _ by lia) uF)))))
 have c7:∀d o,d≠n+5->d≠n+4->d≠n->d≠n+1->d≠n+2->s.heap.get? d=S o->G.get? d=S o:=λd o I O d3 d4 d5 e=>e7.extBut _ _ O (e6.extBut _ _ d5 (c5 d o I O d3 d4 e))
 have m1:G.IsListIter n l1 (i+1):=k1.at λo e=>e7.extBut _ _ (show @Ne Nat _ _ by lia) (e6.extBut _ _ (show @Ne Nat _ _ by lia) (e5.extBut _ _ (show @Ne Nat _ _ by lia) (e4.extBut _ _ (show @Ne Nat _ _ by lia) (e3.extBut _ _ (show @Ne Nat _ _ by lia) e))))
 have m2:G.IsListIter (n+1) l2 (i+1):=k2.at λo e=>e7.extBut _ _ (show @Ne Nat _ _ by lia) (e6.extBut _ _ (show @Ne Nat _ _ by lia) (e5.extBut _ _ (show @Ne Nat _ _ by lia) e))
 have m3:G.IsListIter (n+2) l3 (i+1):=k3.at λo e=>e7.extBut _ _ (show @Ne Nat _ _ by lia) e
 have Ua:n+5<G.objs.size:=bX Ud
 change aD _ _ (Uo (.ref (n+5)) (.ref G.objs.size)>>=_) _ _ _
 show aq ?_
 unfold Uo
 have zr8:mv (G.push {cls:=.type "tuple",data:=.seq #[x,y,u]}) (n+5) (n+3) (n+4) .ellipsis:=di _ Ud
 show aq (uQ zr8 (by simp) λg9 KG e9=>?_)
 replace KG:mv g9 (n+5) (n+3) (n+4) (rawInt G.objs.size):=KG
 show uQ KG (by simp) λgA DA eA=>?_
 replace DA:mv gA (n+5) (n+3) (n+4) (rawInt G.objs.size):=DA
 have up:∀d o,d≠n+5->G.get? d=S o->gA.get? d=S o:=λd o I e=>eA.extBut _ _ I (e9.extBut _ _ I (di _ e))
 have tA:km gA G.objs.size x y u:=eA.extBut _ _ (xf Ua) (e9.extBut _ _ (xf Ua) (hG _ rfl))
 rw[sz]at DA tA
 show aS (aa U ?_)
 change Q (.ref G.objs.size) _
 rw[sz]
 show hQ gA DA (up _ _ (show @Ne Nat _ _ by lia) t7) (m1.at λo e=>up _ o (show @Ne Nat _ _ by lia) e) (m2.at λo e=>up _ o (show @Ne Nat _ _ by lia) e) (m3.at λo e=>up _ o (show @Ne Nat _ _ by lia) e) tA λd o hd e=>?_
 simp only[fz,fA,or_false,not_or]at hd
 show up d o hd.1 (c7 d o hd.1 hd.2.1 hd.2.2.1 hd.2.2.2.1 hd.2.2.2.2 e)
def ah2 {Q:Fin->aj->Prop}(hh:A.handled=Z)(n1:l1<n)(Z8:Z3 s.heap n l1 l2 l3 i)(h1:s.heap.IsList l1 xs)(hx:xs[i]?=Z)
   (hE:∀g e,(∀c o,c∉([n+5,n+4,n,n+1,n+2]:↥J)->s.heap.get? c=S o->g.get? c=S o)->(∃o,g.get? e=S o/\o.cls=.type "StopIteration")->E (.ref e) {s with heap:=g}) :
   aD (aI prog w) A (gZ.«zip.__next__» ⟨[.ref (n+5)],[]⟩) Q E s:=by
 obtain⟨G,ti,⟨a,b,c,to⟩,j1,j2,j3⟩:=Z8
 change aD _ _ (field (.ref (n+5)) 2>>=_) _ _ _
 show aq (hV G rfl (x:=.bool false) rfl ?_)
 change aD _ _ (field (.ref (n+5)) 3>>=_) _ _ _
 show aq (hV G rfl (x:=.ref (n+3)) rfl (aq (rZ ti rfl ?_)))
 change aD _ _ (rK (.ref (n+5))>>=_) _ _ _
 show aq ?_
 unfold rK
 show aq (hV G rfl (x:=.none) rfl (aS ?_))
 simp only[if_true]
 show aq (nE (aq (hV G rfl (x:=.ref (n+4)) rfl (aq (uQ G (by simp) λg1 O e1=>?_)))))
 replace O:mv g1 (n+5) (n+3) (n+4) .ellipsis:=O
 show aq ?_
 simp only[List.zipIdx_cons,List.zipIdx_nil,Ac,DU]
 show aq (aq (Ep ?_))
 change aD _ _ (rJ (.ref n)>>=_) _ _ _
 show aq (LI hh (j1.extBut e1.extBut (show @Ne Nat _ _ by lia)) (h1.extBut e1.extBut (show @Ne Nat _ _ by lia)) hx λg2 e e2 he=>?_)
 obtain⟨oe,Gy,jj⟩:=he
 have Uc:mv g2 (n+5) (n+3) (n+4) .ellipsis:=e2 _ _ (show @Ne Nat _ _ by lia) O
 have Y3:e≠n+5:=λq=>by subst q;rw[Uc]at Gy;cases Gy;simp at jj
 show uQ Uc (by simp) λg3 z e3=>hE g3 e (λd o I q=>?_) ⟨oe,e3.extBut _ _ Y3 Gy,jj⟩
 simp only[fz,fA,or_false,not_or]at I
 show e3.extBut _ _ I.1 (e2 _ _ I.2.2.1 (e1.extBut _ _ I.1 q))
end
abbrev uE (h:Heap)(l1 l2 l3:J):Heap:=((h.push {cls:=.type "list_iterator",data:=.fields #[.ref l1,.int 0 0]}).push {cls:=.type "list_iterator",data:=.fields #[.ref l2,.int 0 0]}).push {cls:=.type "list_iterator",data:=.fields #[.ref l3,.int 0 0]}
abbrev T7 (h:Heap)(l1 l2 l3:J):Heap:=(((uE h l1 l2 l3).push {cls:=.type "tuple",data:=.seq #[.ref h.objs.size,.ref (h.objs.size+1),.ref (h.objs.size+2)]}).push {cls:=.type "tuple",data:=.seq #[.none,.none,.none]}).push
 {cls:=.type "zip",data:=.fields #[.none,.bool false,.bool false,.ref (h.objs.size+3),.ref (h.objs.size+4)]}
def abi (l1 l2 l3:J)(xs ys zs:Array ae) :
   Meets (gZ.«zip.__new__» ⟨[.type "zip",.ref l1,.ref l2,.ref l3],[]⟩) (λz R s=>s.heap.IsList l1 xs/\s.heap.IsList l2 ys/\s.heap.IsList l3 zs/\R (.ok (.ret (.ref (s.heap.objs.size+5)))) {s with heap:=T7 s.heap l1 l2 l3}):=
 .of_wp λprog w A R s h=>by
   obtain⟨G,g,d,tk,os⟩:=s;obtain⟨I,O,q3,h⟩:=h
   have ai6:=sub_zip
   have L1:Heap.IsList (Shared.heap ⟨G,g,d,tk,os⟩) l1 xs:=I
   have L2:Heap.IsList (Shared.heap ⟨G.push {cls:=.type "list_iterator",data:=.fields #[.ref l1,.int 0 0]},g,d,tk,os⟩) l2 ys:=Heap.IsList.push O _
   have L3:Heap.IsList (Shared.heap ⟨(G.push {cls:=.type "list_iterator",data:=.fields #[.ref l1,.int 0 0]}).push {cls:=.type "list_iterator",data:=.fields #[.ref l2,.int 0 0]},g,d,tk,os⟩) l3 zs:=Heap.IsList.push (Heap.IsList.push q3 _) _
   wp_walk using xw L1,xw L2,xw L3
   show aa U ?_
   simp only[rL]at h ⊢
   show h
end PySem
namespace PySem
section
variable{prog:bo}{w:aY}{A:bD}{E:ae->aj->Prop}{s:aj}
def VX {l1 l2 l3:Nat}{xs ys zs:Array ae}{Q:ae->aj->Prop}(q1:s.heap.IsList l1 xs)(q2:s.heap.IsList l2 ys)(q3:s.heap.IsList l3 zs)
   (h:∀g,Z3 g s.heap.objs.size l1 l2 l3 0->(∀c o,s.heap.get? c=S o->g.get? c=S o)->Q (.ref (s.heap.objs.size+5)) {s with heap:=g}) :
   aD (aI prog w) A (call (.type "zip") [.ref l1,.ref l2,.ref l3]) Q E s:=by
 show callType_new F.called_zip ∅ (F.ahu _ _ _) (F.abC _ _ _) (λobj=>F.Vw obj _ _ _) F.entry_zip_new (abi l1 l2 l3 xs ys zs) ⟨q1,q2,q3,?_⟩
 have G:∀(h:Heap) (o:Obj),o.isFreed=false->(h.push o).get? h.objs.size=S o:=λh o f=>hG h f
 have O:(s.heap.push {cls:=.type "list_iterator",data:=.fields #[.ref l1,.int 0 0]}).objs.size=s.heap.objs.size+1:=rL ..
 have z2:((s.heap.push {cls:=.type "list_iterator",data:=.fields #[.ref l1,.int 0 0]}).push {cls:=.type "list_iterator",data:=.fields #[.ref l2,.int 0 0]}).objs.size=s.heap.objs.size+2:=by rw[rL,O]
 have z3:(uE s.heap l1 l2 l3).objs.size=s.heap.objs.size+3:=by rw[rL,z2]
 have z4:((uE s.heap l1 l2 l3).push {cls:=.type "tuple",data:=.seq #[.ref s.heap.objs.size,.ref (s.heap.objs.size+1),.ref (s.heap.objs.size+2)]}).objs.size=s.heap.objs.size+4:=by rw[rL,z3]
 have z5:(((uE s.heap l1 l2 l3).push {cls:=.type "tuple",data:=.seq #[.ref s.heap.objs.size,.ref (s.heap.objs.size+1),.ref (s.heap.objs.size+2)]}).push {cls:=.type "tuple",data:=.seq #[.none,.none,.none]}).objs.size=s.heap.objs.size+5:=by rw[rL,z4]
 have up:∀{h:Heap} {c:J} {o o':Obj},h.get? c=S o->(h.push o').get? c=S o:=λe=>di _ e
 have g1:=up (o':={cls:=.type "zip",data:=.fields #[.none,.bool false,.bool false,.ref (s.heap.objs.size+3),.ref (s.heap.objs.size+4)]}) (up (o':={cls:=.type "tuple",data:=.seq #[.none,.none,.none]}) (up (o':={cls:=.type "tuple",data:=.seq #[.ref s.heap.objs.size,.ref (s.heap.objs.size+1),.ref (s.heap.objs.size+2)]}) (up (o':={cls:=.type "list_iterator",data:=.fields #[.ref l3,.int 0 0]}) (up (o':={cls:=.type "list_iterator",data:=.fields #[.ref l2,.int 0 0]}) (G s.heap {cls:=.type "list_iterator",data:=.fields #[.ref l1,.int 0 0]} rfl)))))
 have g2:=up (o':={cls:=.type "zip",data:=.fields #[.none,.bool false,.bool false,.ref (s.heap.objs.size+3),.ref (s.heap.objs.size+4)]}) (up (o':={cls:=.type "tuple",data:=.seq #[.none,.none,.none]}) (up (o':={cls:=.type "tuple",data:=.seq #[.ref s.heap.objs.size,.ref (s.heap.objs.size+1),.ref (s.heap.objs.size+2)]}) (up (o':={cls:=.type "list_iterator",data:=.fields #[.ref l3,.int 0 0]}) (G (s.heap.push {cls:=.type "list_iterator",data:=.fields #[.ref l1,.int 0 0]}) {cls:=.type "list_iterator",data:=.fields #[.ref l2,.int 0 0]} rfl))))
 have g3:=up (o':={cls:=.type "zip",data:=.fields #[.none,.bool false,.bool false,.ref (s.heap.objs.size+3),.ref (s.heap.objs.size+4)]}) (up (o':={cls:=.type "tuple",data:=.seq #[.none,.none,.none]}) (up (o':={cls:=.type "tuple",data:=.seq #[.ref s.heap.objs.size,.ref (s.heap.objs.size+1),.ref (s.heap.objs.size+2)]}) (G ((s.heap.push {cls:=.type "list_iterator",data:=.fields #[.ref l1,.int 0 0]}).push {cls:=.type "list_iterator",data:=.fields #[.ref l2,.int 0 0]}) {cls:=.type "list_iterator",data:=.fields #[.ref l3,.int 0 0]} rfl)))
 have g4:=up (o':={cls:=.type "zip",data:=.fields #[.none,.bool false,.bool false,.ref (s.heap.objs.size+3),.ref (s.heap.objs.size+4)]}) (up (o':={cls:=.type "tuple",data:=.seq #[.none,.none,.none]}) (G (uE s.heap l1 l2 l3) {cls:=.type "tuple",data:=.seq #[.ref s.heap.objs.size,.ref (s.heap.objs.size+1),.ref (s.heap.objs.size+2)]} rfl))
 have g5:=up (o':={cls:=.type "zip",data:=.fields #[.none,.bool false,.bool false,.ref (s.heap.objs.size+3),.ref (s.heap.objs.size+4)]}) (G ((uE s.heap l1 l2 l3).push {cls:=.type "tuple",data:=.seq #[.ref s.heap.objs.size,.ref (s.heap.objs.size+1),.ref (s.heap.objs.size+2)]}) {cls:=.type "tuple",data:=.seq #[.none,.none,.none]} rfl)
 have I:=G (((uE s.heap l1 l2 l3).push {cls:=.type "tuple",data:=.seq #[.ref s.heap.objs.size,.ref (s.heap.objs.size+1),.ref (s.heap.objs.size+2)]}).push {cls:=.type "tuple",data:=.seq #[.none,.none,.none]}) {cls:=.type "zip",data:=.fields #[.none,.bool false,.bool false,.ref (s.heap.objs.size+3),.ref (s.heap.objs.size+4)]} rfl
 rw[O]at g2
 rw[z2]at g3
 rw[z3]at g4
 rw[z4]at g5
 rw[z5]at I
 show⟨⟨_,I,U⟩,h (T7 s.heap l1 l2 l3) ⟨I,g4,⟨_,_,_,g5⟩,⟨_,g1,U,U⟩,⟨_,g2,U,U⟩,⟨_,g3,U,U⟩⟩ λc o e=>up (up (up (up (up (up e)))))⟩
end
end PySem
namespace L2
open PySem PySem.Spec PyProof.Rows
def su (K:av)(a b c:J):It:=
 ⟨λi H=>∃xs ys zs x y u,af K H a xs/\af K H b ys/\af K H c zs/\xs[i]?=S x/\ys[i]?=S y/\zs[i]?=S u,
  λi H v H'=>∃p x y u,H p=Z/\v=.ref p/\H'=upd H p (.tup [x,y,u])/\∀xs ys zs,af K H a xs->af K H b ys->af K H c zs->xs[i]?=S x/\ys[i]?=S y/\zs[i]?=S u,
  λi H=>∃xs,af K H a xs/\↑xs<=i⟩
def ahs {P:bo}{w:aY}{K:av}{AT:↥Expr}{x1:Nat}{tp:Pos}{a b c n:Nat}(na:a<n)(nb:b<n)(nc:c<n) :
   Turn P w K (.Tuple AT x1 tp) (su K a b c) [n+5,n+3,n+4,n,n+1,n+2] (n+5) (λi h=>Z3 h n a b c i) where
 mem:=by simp
 obj:=λi h st d hd=>by
   obtain⟨zr,ti,⟨x,y,u,to⟩,⟨o1,e1,c1,d1⟩,⟨o2,e2,c2,d2⟩,⟨o3,e3,c3,d3⟩⟩:=st
   simp only[fz,fA,or_false]at hd
   rcases hd with rfl|rfl|rfl|rfl|rfl|rfl
   . show⟨_,zr,λv q=>nomatch q⟩
   . show⟨_,ti,λv q=>nomatch q⟩
   . show⟨_,to,λv q=>nomatch q⟩
   . show⟨_,e1,λv q=>by rw[d1]at q;cases q⟩
   . show⟨_,e2,λv q=>by rw[d2]at q;cases q⟩
   . show⟨_,e3,λv q=>by rw[d3]at q;cases q⟩
 keep:=λi h h' st k=>by
   obtain⟨zr,ti,⟨x,y,u,to⟩,h1,h2,h3⟩:=st
   show⟨k _ (by simp) _ zr,k _ (by simp) _ ti,⟨x,y,u,k _ (by simp) _ to⟩,h1.at λo e=>k _ (by simp) o e,h2.at λo e=>k _ (by simp) o e,h3.at λo e=>k _ (by simp) o e⟩
 item:=by
   intro X hP hw hK hc i pins s σ H E I hf st hg
   subst hP hw hK
   obtain⟨xs,ys,zs,x,y,u,eS,iW,qR,hx,hy,hu⟩:=hg
   obtain⟨oi,gO,p1,_⟩:=I.list eS
   obtain⟨jY,kU,p2,_⟩:=I.list iW
   obtain⟨aaG,QQ,p3,_⟩:=I.list qR
   obtain⟨ux,gx,rx⟩:=gO.get hx
   obtain⟨uy,gy,ry⟩:=kU.get hy
   obtain⟨uu,gu,ru⟩:=QQ.get hu
   have lt:∀d∈([n+5,n+3,n+4,n,n+1,n+2]:↥J),d<s.heap.objs.size:=λd hd=>by
     have lz:=bX st.z
     simp only[fz,fA,or_false]at hd
     have lz' : @LT.lt Nat _ (n+5) s.heap.objs.size:=lz
     rcases hd with rfl|rfl|rfl|rfl|rfl|rfl<;>(show @LT.lt Nat _ _ _;lia)
   have hT:s.TypeIs (.ref (n+5)) "zip":=⟨_,st.z,rfl⟩
   unfold lF
   show aq (rX (AA (name:=An "__next__") hT F.slot_zip_next (AB F.slot_zip_next hT F.entry_zip_next
     (ah3 na nb nc st p1.isList p2.isList p3.isList (x:=ux) (y:=uy) (u:=uu) (by simpa using gx) (by simpa using gy) (by simpa using gu) λg a1 a2 a3 a4 a5 a6 hk=>aS ?_) (F.args_zip_next_1 _))))
   show aa U (US (s:={s with heap:=g}) a1 λg2 z2 e2=>?_)
   have n0:H s.heap.objs.size=Z:=I.hok.fresh (aK _)
   have kk:∀d o,d∉([n+5,n+4,n,n+1,n+2]:↥J)->s.heap.get? d=S o->g2.get? d=S o:=λd o hd e=>e2.extBut _ _ (λz=>hd (by rw[z];simp)) (hk d o hd e)
   have t2:km g2 s.heap.objs.size ux uy uu:=e2.extBut _ _ (xf (lt _ (by simp))) a6
   have I1:Inv X pins σ (upd H s.heap.objs.size (.tup [x,y,u])) {s with heap:=g2,toks:=s.toks}:=I.many (ch:=[n+5,n+4,n,n+1,n+2]) (λd hd=>hf d (by simp only[fz,fA,or_false]at hd ⊢;rcases hd with r|r|r|r|r<;>simp[r])) kk (aK _)
     ⟨by change 3<=sizeLine;decide,[ux,uy,uu],.cons rx (.cons ry (.cons ru .nil)),_,t2,rfl,_,rfl⟩
   show⟨.ref s.heap.objs.size,_,I1,U,⟨_,x,y,u,n0,U,U,λrG zR zs' q1 q2 q3=>?_⟩,?_,λd hd=>?_⟩
   . rw[I.tZ q1 eS,I.tZ q2 iW,I.tZ q3 qR];show⟨hx,hy,hu⟩
   . show⟨z2,kk _ _ (by simp) st.ti,⟨_,_,_,e2.extBut _ _ (show @Ne Nat _ _ by lia) a2⟩,a3.at λo e=>e2.extBut _ _ (show @Ne Nat _ _ by lia) e,a4.at λo e=>e2.extBut _ _ (show @Ne Nat _ _ by lia) e,a5.at λo e=>e2.extBut _ _ (show @Ne Nat _ _ by lia) e⟩
   . rw[aC (eV (lt d hd))]
     show(hf d hd).1
 done:=by
   intro X hP hw hK hc i pins s σ H E I hf st hg
   subst hP hw hK
   obtain⟨xs,eS,hend⟩:=hg
   obtain⟨oi,gO,p1,_⟩:=I.list eS
   have l1:=↑gO
   have hT:s.TypeIs (.ref (n+5)) "zip":=⟨_,st.z,rfl⟩
   unfold lF
   show aq (rX (AA (name:=An "__next__") hT F.slot_zip_next (AB F.slot_zip_next hT F.entry_zip_next (ah2 (I.ok.hd hc) na st p1.isList (by simp;lia) λg e hk he=>?_) (F.args_zip_next_1 _))))
   obtain⟨o,ho,nX⟩:=he
   show aq (Eo (T:="StopIteration") (b:=true) ⟨o,ho,nX⟩ isSubtype_stop (aS ⟨U,I.yQ (t':=s.toks) (ch:=[n+5,n+4,n,n+1,n+2]) (λd hd=>hf d (by simp only[fz,fA,or_false]at hd ⊢;rcases hd with r|r|r|r|r<;>simp[r])) hk⟩))
 self:=λt t t t t st h=>AE st.z h
def OL (K:av)(ta:TA):TI:=λσ H R=>ta σ H λvs H1=>∃a b c,vs=[.ref a,.ref b,.ref c]/\(∃xs,af K H1 a xs)/\(∃ys,af K H1 b ys)/\(∃zs,af K H1 c zs)/\R (su K a b c) H1
section
variable{X:Cx}
def ae6 {a b c:Expr}{ta:TA}{p ci tp:Pos}{AT:↥Expr}{x1:Nat}(hg:Gl X "zip")(hm:X.mg "zip"=Z)(ha:iF X [a,b,c] ta)(hv:jc "zip"=S (.type "zip"):=by first|rfl|decide +kernel) :
   PI X (.Tuple AT x1 tp) (.Call (.Name "zip" p) [a,b,c] [] ci) (OL X.K ta):=by
 intro pins s σ H R I h
 show nD (md I hg hm hv ?_ ∅ ∅)
 show oO (aO (ha.pa ci pins s σ H _ I h) λus G h9=>?_) ((ha.ns a [b,c] rfl).1.h [b,c] X.env) ((ha.ns a [b,c] rfl).2 ci X.env)
 obtain⟨vs,H1,O,r1,q1⟩:=h9
 obtain⟨l1,l2,l3,e,⟨xs,eS⟩,⟨ys,iW⟩,⟨zs,qR⟩,q⟩:=q1
 subst e
 cases r1 with
 | cons r1 r2=>
 cases r2 with
 | cons r2 r3=>
 cases r3 with
 | cons r3 r4=>
 cases r4
 cases r1
 cases r2
 cases r3
 obtain⟨oi,gO,p1,_⟩:=O.list eS
 obtain⟨jY,kU,p2,_⟩:=O.list iW
 obtain⟨aaG,QQ,p3,_⟩:=O.list qR
 have yM:l1<G.heap.objs.size:=by obtain⟨_,_,e,_⟩:=p1;show bX e
 have yN:l2<G.heap.objs.size:=by obtain⟨_,_,e,_⟩:=p2;show bX e
 have lt3:l3<G.heap.objs.size:=by obtain⟨_,_,e,_⟩:=p3;show bX e
 show VX p1.isList p2.isList p3.isList λg st hk=>AE st.z ?_
 have I2:Inv X pins σ H1 {G with heap:=g}:=O.kept (t':=G.toks) hk
 show⟨_,_,_,_,H1,U,I2,ahs yM yN lt3,st,λc hc=>?_,q⟩
 simp only[fz,fA,or_false]at hc
 have up:∀k,fC X pins H1 (G.heap.objs.size+k):=λk=>O.nU (rO _ _) (O.hok.fresh (rO _ _))
 rcases hc with rfl|rfl|rfl|rfl|rfl|rfl
 . show up 5
 . show up 3
 . show up 4
 . show up 0
 . show up 1
 . show up 2
end
def Wi {K:av}{a b c:J}{xs ys zs:↥V}{g:TG}{jp:TT}{tm:TM}{σ0:St}{Z8:Hp->Prop}{H:Hp}(l1:↑ys=↑xs)(l2:↑zs=↑xs)(Pv:Nat->Hp->Prop)(h0:Pv 0 H)(O:∀i H,i<=↑xs->Pv i H->af K H a xs/\af K H b ys/\af K H c zs)
   (G:∀i x y u p H,xs[i]?=S x->ys[i]?=S y->zs[i]?=S u->Pv i H->H p=Z->g (.ref p) σ0 (upd H p (.tup [x,y,u])) λσ2 H2=>jp σ2 H2 λb H3=>
     if b=true then tm σ2 H3 λH4=>eJ σ0 σ2/\∃I,I<↑xs-i/\(I=↑xs-(i+1)/\i+1<=↑xs/\Pv (i+1) H4)else eJ σ0 σ2/\∃I,I<↑xs-i/\(I=↑xs-(i+1)/\i+1<=↑xs/\Pv (i+1) H3))
   (hZ:∀H,Pv ↑xs H->Z8 H):mn (su K a b c) σ0 g jp tm Z8 H:=by
 show vh ↑xs Pv h0 (λi H hi p=>?_) (λH p=>⟨xs,(O _ H (aK _) p).1,aK _⟩) (λi H hi p x H' y=>?_) hZ
 . obtain⟨q1,q2,q3⟩:=O i H (jq hi) p
   show⟨xs,ys,zs,xs[i],ys[i]'(l1▸hi),zs[i]'(l2▸hi),q1,q2,q3,by simp[hi],by simp[l1,hi],by simp[l2,hi]⟩
 . obtain⟨q1,q2,q3⟩:=O i H (jq hi) p
   obtain⟨pp,x1,y1,u1,hn,rfl,rfl,k⟩:=y
   obtain⟨k1,k2,k3⟩:=k xs ys zs q1 q2 q3
   show G i x1 y1 u1 pp H k1 k2 k3 p hn
end L2
namespace L3
open PySem PySem.Spec PyProof.Rows L2
def G4 {X:Cx}{a b c:Expr}{t:TA}{KK:av}{p ci G:Pos}{I:↥Expr}{O:Nat}(hg:Gl X "zip")(hm:X.mg "zip"=Z)(ha:SA X [a,b,c] t)(hK:X.K=KK:=by first|show L3.dF|show L3.dE|rfl) :
   SI X (.Tuple I O G) (.Call (.Name "zip" p) [a,b,c] [] ci) (OL KK t):=by
 subst hK
 show⟨ae6 hg hm ha.h⟩
end L3
namespace L2
open PySem PySem.Spec PyProof.Rows
def uW (K:av)(a:J):It:=
 ⟨λi H=>∃xs x,af K H a xs/\xs[i]?=S x,
  λi H v H'=>∃p x,H p=Z/\v=.ref p/\H'=upd H p (.tup [.int (i:Nat),x])/\∀xs,af K H a xs->xs[i]?=S x,
  λi H=>∃xs,af K H a xs/\↑xs<=i⟩
def ahl {P:bo}{w:aY}{K:av}{AT:↥Expr}{x1:Nat}{tp:Pos}{a n:J} :
   Turn P w K (.Tuple AT x1 tp) (uW K a) [n+1,n] (n+1) (λi h=>(∃old,IsEnum h (n+1) n (i:Nat) old)/\h.IsListIter n a i) where
 mem:=by simp
 obj:=λi h st d hd=>by
   obtain⟨⟨old,he⟩,⟨o1,e1,c1,d1⟩⟩:=st
   simp only[fz,fA,or_false]at hd
   rcases hd with rfl|rfl
   . show⟨_,he,λv q=>nomatch q⟩
   . show⟨_,e1,λv q=>by rw[d1]at q;cases q⟩
 keep:=λi h h' st k=>by
   obtain⟨⟨old,he⟩,h1⟩:=st
   show⟨⟨old,k _ (by simp) _ he⟩,h1.at λo e=>k _ (by simp) o e⟩
 item:=by
   intro X hP hw hK hc i pins s σ H E I hf st hg
   subst hP hw hK
   obtain⟨xs,x,eS,hx⟩:=hg
   obtain⟨oi,gO,p1,_⟩:=I.list eS
   obtain⟨ux,gx,rx⟩:=gO.get hx
   obtain⟨⟨old,he⟩,h1⟩:=st
   have ne:(n+1:J)≠n:=Nat.succ_ne_self n
   show wpAny_pyNext_enum_item he h1 p1.isList (x:=ux) (by simpa using gx) ne λg a1 a2 a3 a4 hk=>aa U (wpAny_letOwnedTupleGo_enum (s:={s with heap:=g,toks:=s.toks+1}) a1 λg2 yh e2=>?_)
   have n0:H s.heap.objs.size=Z:=I.hok.fresh (aK _)
   have Ie:n+1<s.heap.objs.size:=bX he
   have oZ:lj (n+1) g g2:=e2
   have kk:∀d o,d∉([n+1,n]:↥J)->s.heap.get? d=S o->g2.get? d=S o:=λd o hd e=>by
     simp only[fz,fA,or_false,not_or]at hd
     show oZ.extBut _ _ hd.1 (hk d o hd.1 hd.2 e)
   have t2:ja g2 s.heap.objs.size (.int i s.toks) ux:=oZ.extBut _ _ (xf Ie) a3
   have I1:Inv X pins σ (upd H s.heap.objs.size (.tup [.int (i:Nat),x])) {s with heap:=g2,toks:=s.toks+1}:=I.many (ch:=[n+1,n]) hf kk (aK _)
     ⟨by change 2<=sizeLine;decide,[.int i s.toks,ux],.cons ⟨_,rfl⟩ (.cons rx .nil),_,t2,rfl,_,rfl⟩
   show⟨.ref s.heap.objs.size,_,I1,U,⟨_,x,n0,U,U,λrG q1=>?_⟩,⟨⟨_,by simpa using yh⟩,a2.at λo e=>oZ.extBut _ _ ne.symm e⟩,λd hd=>?_⟩
   . rw[I.tZ q1 eS];show hx
   . have lt:d<s.heap.objs.size:=by
       simp only[fz,fA,or_false]at hd
       rcases hd with rfl|rfl
       . show Ie
       . show Nat.lt_of_succ_lt Ie
     rw[aC (eV lt)]
     show(hf d hd).1
 done:=by
   intro X hP hw hK hc i pins s σ H E I hf st hg
   subst hP hw hK
   obtain⟨xs,eS,hend⟩:=hg
   obtain⟨oi,gO,p1,_⟩:=I.list eS
   have l1:=↑gO
   obtain⟨⟨old,he⟩,h1⟩:=st
   show wpAny_pyNext_enum_end (I.ok.hd hc) he h1 p1.isList (by simp;lia) λg hk=>⟨U,I.yQ (t':=s.toks) (ch:=[n]) (λd hd=>hf d (by rw[List.mem_singleton.mp hd];simp)) λd o hd e=>hk d o (λz=>hd (by rw[z];simp)) e⟩
 self:=λy y y y y st h=>by
   obtain⟨⟨old,he⟩,_⟩:=st
   show wpAny_pyIter_enum he h
def OH (K:av)(ta:TA):TI:=λσ H R=>ta σ H λvs H1=>∃a,vs=[.ref a]/\(∃xs,af K H1 a xs)/\R (uW K a) H1
def ae0 {X:Cx}{a:Expr}{ta:TA}{p ci tp:Pos}{AT:↥Expr}{x1:Nat}(hg:Gl X "enumerate")(hm:X.mg "enumerate"=Z)(ha:iF X [a] ta)(hv:jc "enumerate"=S (.type "enumerate"):=by first|rfl|decide +kernel) :
   PI X (.Tuple AT x1 tp) (.Call (.Name "enumerate" p) [a] [] ci) (OH X.K ta):=by
 intro pins s σ H R I h
 show nD (md I hg hm hv ?_ ∅ ∅)
 show oO (aO (ha.pa ci pins s σ H _ I h) λus O h9=>?_) ((ha.ns a [] rfl).1.h [] X.env) ((ha.ns a [] rfl).2 ci X.env)
 obtain⟨vs,H1,G,r1,q1⟩:=h9
 obtain⟨l1,e,⟨xs,eS⟩,q⟩:=q1
 subst e
 cases r1 with
 | cons r1 r2=>
 cases r2
 cases r1
 obtain⟨oi,gO,p1,_⟩:=G.list eS
 show call_enumerate_list p1.isList λg he hi z hk=>wpAny_pyIter_enum he ?_
 have I2:Inv X pins σ H1 {O with heap:=g}:=G.kept (t':=O.toks) hk
 show⟨_,_,_,_,H1,U,I2,ahl,⟨⟨_,he⟩,hi⟩,λc hc=>?_,q⟩
 simp only[fz,fA,or_false]at hc
 have up:∀k,fC X pins H1 (O.heap.objs.size+k):=λk=>G.nU (rO _ _) (G.hok.fresh (rO _ _))
 rcases hc with rfl|rfl
 . show up 1
 . show up 0
section
variable{K:av}{a:J}{xs:↥V}{g:TG}
def Nk {tb:TS}{D:Ends}{σ:St}{H:Hp}(Pv:Nat->St->Hp->Prop)(h0:Pv 0 σ H)(hl:∀i σ H,i<=↑xs->Pv i σ H->af K H a xs)
   (hs:∀i x p σ H,xs[i]?=S x->Pv i σ H->H p=Z->g (.ref p) σ (upd H p (.tup [.int (i:Nat),x])) λσ2 H2=>tb {D with nx:=Pv (i+1),ct:=Pv (i+1),bk:=D.nx} σ2 H2) (hd:∀σ H,Pv ↑xs σ H->D.nx σ H) :
   ∃W:Nat->Nat->St->Hp->Prop,(∃m,W 0 m σ H)/\∀i m σ H,W i m σ H ->
     ((uW K a).stop i H/\D.nx σ H)\/((uW K a).go i H/\∃N:St->Hp->Prop,(∀σ' H',N σ' H'->∃I,I<m/\W (i+1) I σ' H')/\∀x H',(uW K a).yld i H x H'->g x σ H' λσ2 H2=>tb {D with nx:=N,ct:=N,bk:=D.nx} σ2 H2):=by
 show⟨λi m σ H=>m=↑xs-i/\i<=↑xs/\Pv i σ H,⟨↑xs,by simp,fL _,h0⟩,?_⟩
 rintro i m σ H ⟨rfl,hi,p⟩
 have G:=hl i σ H hi p
 by_cases O:i<↑xs
 . show .inr ⟨⟨xs,xs[i],G,by simp[O]⟩,Pv (i+1),λσ' H' p'=>⟨↑xs-(i+1),⋯,U,O,p'⟩,λx H' y=>?_⟩
   obtain⟨pp,x1,hn,rfl,rfl,k⟩:=y
   show hs i x1 pp σ H (k xs G) p hn
 . have e:i=↑xs:=⋯
   subst e
   show .inl ⟨⟨xs,G,aK _⟩,hd σ H p⟩
def Wd {jp:TT}{tm:TM}{σ0:St}{Z8:Hp->Prop}{H:Hp}(Pv:Nat->Hp->Prop)(h0:Pv 0 H)(O:∀i H,i<=↑xs->Pv i H->af K H a xs)
   (G:∀i x p H,xs[i]?=S x->Pv i H->H p=Z->g (.ref p) σ0 (upd H p (.tup [.int (i:Nat),x])) λσ2 H2=>jp σ2 H2 λb H3=>
     if b=true then tm σ2 H3 λH4=>eJ σ0 σ2/\∃I,I<↑xs-i/\(I=↑xs-(i+1)/\i+1<=↑xs/\Pv (i+1) H4)else eJ σ0 σ2/\∃I,I<↑xs-i/\(I=↑xs-(i+1)/\i+1<=↑xs/\Pv (i+1) H3))
   (hZ:∀H,Pv ↑xs H->Z8 H):mn (uW K a) σ0 g jp tm Z8 H:=by
 show vh ↑xs Pv h0 (λi H hi p=>⟨xs,xs[i],O i H (jq hi) p,by simp[hi]⟩) (λH p=>⟨xs,O _ H (aK _) p,aK _⟩) (λi H hi p x H' y=>?_) hZ
 obtain⟨pp,x1,hn,rfl,rfl,k⟩:=y
 show G i x1 pp H (k xs (O i H (jq hi) p)) p hn
end
end L2
namespace L3
open PySem PySem.Spec PyProof.Rows L2
def iE {X:Cx}{a:Expr}{t:TA}{KK:av}{p ci G:Pos}{I:↥Expr}{O:Nat}(hg:Gl X "enumerate")(hm:X.mg "enumerate"=Z)(ha:SA X [a] t)(hK:X.K=KK:=by first|show L3.dF|show L3.dE|rfl) :
   SI X (.Tuple I O G) (.Call (.Name "enumerate" p) [a] [] ci) (OH KK t):=by
 subst hK
 show⟨ae0 hg hm ha.h⟩
section
variable{X:Cx}{a o e:Expr}{es:↥Expr}{ta tv:TE}{t:TA}{ci pi lv:Pos}{f m:Str}
def fld {KK:av}(ha:SE X a ta)(hb:nA a f X.env (eval a X.env)=eval a X.env:=by rfl)(G:X.K=KK:=by first|show L3.dF|show L3.dE|rfl):SE X (.Attribute a f ci) (S3 KK ta f):=by
 subst G
 show⟨aez ha.h hb⟩
def jm {KK:av}(ha:SE X a ta)(hv:SE X e tv)(G:lI e (S (.Attribute a f pi)) ci.line X.env=pure false:=by rfl)(I:X.K=KK:=by first|show L3.dF|show L3.dE|rfl):SS X (.Assign [.Attribute a f pi] e ci) (Q7 KK ta tv f):=by
 subst I
 show⟨afo ha.h hv.h G⟩
end
end L3
namespace TW
open PySem L2
def gG (P:bo)(w:aY)(K:av)(mg:Str->Option ae)(base:Heap)(C:J)(m:Str)(ps:↥Str)(k:Nat)(sp:Sp):Prop:=
 ∃f fd,aU P w K mg base bj k f fd ps sp/\Binds K fd ps []/\Meth K C m f
def nH (P:bo)(w:aY)(K:av)(mg:Str->Option ae)(base:Heap)(x:Str)(C:J)(ps:↥Str)(k:Nat)(sp:Sp):Prop:=
 ∃f fd,aU P w K mg base bj k f fd ps sp/\Binds K fd ps []/\Mk K C f/\mg x=S (.ref C)
end TW
namespace L2
open PySem PySem.Spec PyProof.Rows
section
variable{X:Cx}
def abj (G:↥Int)(k:Int):(firstMet (λi=>G.getD i 0) G.length).any (·==k)=G.contains k:=by
 rw[firstMet_any]
 have e:(cj G.length).map (λi=>G.getD i 0)=G:=by
   apply List.ext_getElem
   . simp
   . intro i h1 h2
     simp[eR,h2]
 rw[e,qk,List.any_eq_true,DR]
 constructor
 . rintro⟨x,hx,e⟩
   rw[← beq_iff_eq.mp e]
   show hx
 . show λh=>⟨k,h,by simp⟩
def VV (hc:X.calm=true):jO X (.type "set") (λxs H Q=>∃(l:J) (G:↥Int),xs=[.ref l]/\af X.K H l (G.map V.int)/\G.length<4000/\∀z n,H z=Z->Q (.ref z) (upd H z (.set (λk=>G.contains k) n))):=by
 intro pins s σ H xs us Q I r h
 obtain⟨l,G,rfl,hq,hn,q⟩:=h
 obtain⟨u,rfl,ru⟩:=vals1 r
 obtain rfl:u=bU l:=ru
 obtain⟨O,rv,pl,_⟩:=I.list hq
 have hi:=intsAre_of rv
 have le:O.length=G.length:=by have:=↑rv;rw[aA]at this;show this.symm
 show call_set_list (I.ok.hd hc) pl.isList (by simpa using hi) (by simp;change O.length+1<4096;lia) λg tk so kp=>?_
 have so2:g.SetOf (intKind X.prog X.w) s.heap.objs.size (λk=>G.contains k) _:=SetOf_congr so (λk=>by rw[show O.toArray.size=G.length by simpa using le];show abj G k) rfl
 show⟨.ref s.heap.objs.size,_,I.laid (o:=.set (λk=>G.contains k) ↑(firstMet (λi=>G.getD i 0) O.toArray.size)) (λb o e=>kp b o (bX e) e) (aK _) so2,U,q _ _ (I.hok.fresh (aK _))⟩
def adD:dZ X (dD .NotIn) (λx y H Q=>∃i a S8 n,x=.int i/\y=.ref a/\H a=S (.set S8 n)/\Q (.bl (!S8 i)) H):=by
 intro pins s σ H x y v u Q I G O h
 obtain⟨i,a,S8,n,rfl,rfl,ha,q⟩:=h
 obtain⟨t,rfl⟩:=(show ∃t,v=rR i t from G)
 cases O
 have so:s.heap.SetOf (intKind X.prog X.w) a S8 n:=I.hok a _ ha
 show wpAny_notInSet_of (knd:=intKind X.prog X.w) (intKind_is _ _ _ _) rfl so ⟨.bl _,H,I.tok _,U,q⟩
end
end L2
namespace L3
open PySem PySem.Spec PyProof.Rows L2
section
variable{X:Cx}{a o e:Expr}{es:↥Expr}{ta tv:TE}{t:TA}{p ci pi lv:Pos}{x m:Str}{C:J}{ps:↥Str}{kk:Nat}{sp:Sp}
def VN {KK:av}(hc:X.calm=true:=by rfl)(I:X.K=KK:=by first|show L3.dF|show L3.dE|rfl):SC X (.type "set") (λxs H Q=>∃(l:J) (G:↥Int),xs=[.ref l]/\af KK H l (G.map V.int)/\G.length<4000/\∀z n,H z=Z->Q (.ref z) (upd H z (.set (λk=>G.contains k) n))):=by
 subst I
 show⟨VV hc⟩
def ace:SO X (dD .NotIn) (λx y H Q=>∃i a S8 n,x=.int i/\y=.ref a/\H a=S (.set S8 n)/\Q (.bl (!S8 i)) H):=⟨adD⟩
def make (D:TW.nH X.prog X.w X.K X.mg X.base x C ps kk sp)(I:cX (kk+1) X.A)(O:Gl X x)(ha:SA X (e::es) t)(IN:(x==("__debug__":Str))=false:=by left):SE X (.Call (.Name x p) (e::es) [] ci) (S8 C sp [] E0 t):=by
 obtain⟨_,_,G,b,M8,m⟩:=D
 show⟨aeH M8 G I O m b .nil zi ha.h.pa IN ((ha.h.ns e es rfl).1.h es X.env) ((ha.h.ns e es rfl).2 ci X.env)⟩
def dJ {pl:Sem Bool}(O:SE X o ta)(c:fB X.K C)(D:TW.gG X.prog X.w X.K X.mg X.base C m ps kk sp)(hr:cX kk X.A)(ha:SA X (e::es) t)
   (ht:eval (.Call (.Attribute o m lv) (e::es) [] ci) X.env=(do
     let I←eval o X.env
     lH lv.atName
     let(f,first)←jr [I] (xn I m pl)
     callWith ci f first (iB ci (cM (e::es) X.env)) (xj ci (xo [] X.env))):=by rfl):SE X (.Call (.Attribute o m lv) (e::es) [] ci) (Dn C m sp [] E0 ta t):=by
 obtain⟨_,_,G,b,hm⟩:=D
 show⟨aeI O.h c hm G hr b .nil zi ha.h.pa ((ha.h.ns e es rfl).1.h es X.env) ((ha.h.ns e es rfl).2 ci X.env) ht⟩
end
end L3
namespace L3
open PySem PySem.Spec PyProof.Rows L2
section
variable{X:Cx}{a b:Expr}{ta tb:TE}{ci:Pos}
def Bi (hu:X.A.units+1<dC)(hi:SE X a ta)(G:SE X b tb)(h1:oR .NotIn b=false:=by first|show I _ ∅ (∅)|rfl):ST X (.Compare a [.NotIn] [b] ci) (tB (SU ta tb)):=⟨afG (aee hu hi.h G.h) h1⟩
end
end L3
namespace L2
open PySem PySem.Spec PyProof.Rows
section
variable{prog:bo}{w:aY}{K:Type}[DecidableEq K]{knd:HeapKind prog w K}{A:bD}{E:ae->aj->Prop}{s:aj}
def agC {d a:J}{xs:↥(K×J×ae)}{k:K}{v:ae}{Q:ae->aj->Prop}(hu:knd.room A)(G:knd.is s.heap k a)(hm:s.heap.DictOfH knd d xs)(hsz:↑xs<=sizeLine)
   (h1:∀u,(kf xs k).map (·.2)=S u->Q u {s with toks:=s.toks+knd.draws k})
   (h2:(kf xs k).map (·.2)=Z->∀h',h'.DictOfH knd d (storedH xs k a v)->lj d s.heap h'->Q v {s with heap:=h',toks:=s.toks+knd.draws k}) :
   aD (aI prog w) A (LC d (.ref a) v) Q E s:=by
 obtain⟨o,es,ep,O,hc,I,he,his,hn⟩:=hm
 unfold LC
 try with_reducible show hW ?_
 show aq (knd.pyHash hu G (aq (wpAny_dictFind_heap (s:={s with toks:=s.toks+knd.draws k}) hu G O I he his hn (λik=>?_) (λj p hj=>?_))))
 . have hk:kf xs k=Z:=atKey_none_of_get ik
   have ZJ:k∉xs.map (·.1):=not_mem_keys_of_get ik
   have new:=storedH_new (a:=a) (v:=v) hk
   show aq (nE (aq (wpAny_updateDictKeys (hz:=by have e:=size_of_entries he;lia) (s:={s with toks:=s.toks+knd.draws k}) O I (aS (h2 (by rw[hk];rfl) _ ⟨_,_,ep+1,KU _ O (Obj.isFreed_of_dict (Obj.data_mapDictKeys I _)),hc.mapDictKeys _,Obj.data_mapDictKeys I _,?_,λx hx=>?_,?_⟩ (DM ..))))))
   . rw[new]
     simp[he,entryOfKey]
   . rw[new]at hx
     rcases List.mem_append.mp hx with z|z
     . show knd.keeps (his x z) O I (DM ..)
     . rw[List.mem_singleton.mp z]
       show knd.keeps G O I (DM ..)
   . rw[new,cq]
     show Py hn ZJ
 . show aq (wpAny_dictEntries (s:={s with toks:=s.toks+knd.draws k}) O I ?_)
   rw[entry_at he j,hj]
   show aq (nE (aS (h1 _ (by rw[atKey_of_get hn hj];rfl))))
end
section
variable{X:Cx}{pins:↥(J×Obj)}{σ:St}{H:Hp}{s:aj}{E:ae->aj->Prop}
def Ww {d b:J}{kvs:↥(↥Key×V)}{k:↥Key}{v:V}{r:ae}{Q:ae->aj->Prop}(hu:X.A.units+1<dC)(I:Inv X pins σ H s)(e:H d=S (.dT kvs))(eb:H b=S (.tup (k.map kV)))(l:↑kvs<sizeLine)(rv:RelV v r)
   (h1:∀x,bu kvs k=S x->∀u s',Inv X pins σ H s'->RelV x u->Q u s') (h2:bu kvs k=Z->∀s',Inv X pins σ (upd H d (.dT (putK kvs k v))) s'->Q r s') :
   aD (aI X.prog X.w) X.A (call (.builtin "dict.setdefault") [.ref d,.ref b,r]) Q E s:=by
 obtain⟨z,hd,xs,G,dd⟩:=Fz I.hok e
 have hz:↑xs<=sizeLine:=by rw[← Paired.length G];show z
 have M8:MeetsIn X.prog X.w (gZ.«dict.setdefault» ⟨[.ref d,.ref b,r],[]⟩) (λB R s=>(lJ (eU X.prog X.w)).room B.in1/\(lJ (eU X.prog X.w)).is s.heap k b/\s.heap.DictOfH (lJ (eU X.prog X.w)) d xs /\
     (∀u,(kf xs k).map (·.2)=S u->R (.ok (.ret u)) {s with toks:=s.toks+(lJ (eU X.prog X.w)).draws k}) /\
     ((kf xs k).map (·.2)=Z->∀h',h'.DictOfH (lJ (eU X.prog X.w)) d (storedH xs k b r)->lj d s.heap h'->R (.ok (.ret r)) {s with heap:=h',toks:=s.toks+(lJ (eU X.prog X.w)).draws k})):=
   .of_wp λA R s ⟨hr,hk,hm,g1,g2⟩=>by
     unfold gZ.«dict.setdefault»
     show aq ?_
     unfold Builtin.Dict.keyAndDefault
     show aq (LJ hm.typeIs ?_)
     change aD _ _ (pure (d,bU b,S r)) _ _ s
     show aS ?_
     change aD _ _ (if(d==mx)=true then _ else(LC d (.ref b) r>>=_)) _ _ s
     rw[az (by rw[hd];show fK)]
     show aq (agC hr hk hm hz (λu hu=>aS ⟨u,U,g1 u hu⟩) λO h' pL l9=>aS ⟨r,U,g2 O h' pL l9⟩)
 have hl:↑(putK kvs k v)<=sizeLine:=by have:=pS kvs k v;lia
 have val:=G.val k
 show call_meetsIn UH dd.typeIs PySem.F.entry_dict_setdefault (PySem.F.args_dict_setdefault_3 _ _ _) M8 ⟨xt hu,qY I.hok eb,dd,λu OD=>?_,λO h' gW hs=>?_⟩
 . cases hv:bu kvs k with
   | none=>rw[hv,OD]at val;show ao val (λz=>z)
   | some x=>rw[hv,OD]at val;show h1 x hv _ _ (I.tok _) val
 . have hv:bu kvs k=Z:=by
     cases hv:bu kvs k with
     | none=>rfl
     | some x=>rw[hv,O]at val;show ao val (λz=>z)
   show h2 hv _ ?_
   obtain⟨q,es,ep,hq,g2,g3,g4,_,g5⟩:=gW
   show sY I (by rw[e];show bK) hs ⟨q,hq⟩ ⟨hl,hd,_,(G.put k eb rv).keeps λc ys ec=>?_,q,es,ep,hq,g2,g3,g4,g5⟩
   rw[aC (i6 ec e (λz=>nomatch z))]
   show ec
def SV (td ty tx:TE):TE:=λσ H Q=>td σ H λx H1=>∃a,x=.ref a/\EC H1 a/\ty σ H1 λy H2=>tx σ H2 λz G=>∃kvs k b,y=.ref b/\G a=S (.dT kvs)/\G b=S (.tup (k.map kV))/\↑kvs<sizeLine/\(∀v,bu kvs k=S v->Q v G)/\(bu kvs k=Z->Q z (upd G a (.dT (putK kvs k z))))
def aey {o e f:Expr}{lv v4:Pos}{td ty tx:TE}(hu:X.A.units+1<dC)(ho:PE X o td)(he:PE X e ty)(hf:PE X f tx)(m:M2 X o "setdefault" lv e f v4):PE X (.Call (.Attribute o "setdefault" lv) [e,f] [] v4) (SV td ty tx):=by
 intro pins s σ H Q I h
 show wpAny_Call_method m.base m.cC m.line UG UH PySem.F.type_dict_setdefault (aO (ho pins s σ H _ I h) λu s1 h9=>?_)
 obtain⟨x,H1,O,rx,a,ex,d,q1⟩:=h9
 subst ex
 obtain rfl:u=bU a:=rx
 obtain⟨t1,t2,_⟩:=OQ O d
 show⟨t1,t2,?_⟩
 rw[m.trees]
 show KR rfl (DL (uH (aO (he pins s1 σ H1 _ O q1) λiv s2 ⟨y,H2,I2,ry,q2⟩=>
   uH (aO (hf pins s2 σ H2 _ I2 q2) λfv s3 ⟨z,H3,I3,rz,kvs,k,b,ey,e1,e2,l,g1,g2⟩=>zT ?_))))
 subst ey
 obtain rfl:iv=bU b:=ry
 show Ww hu I3 e1 e2 l rz (λx hx u s' G ru=>⟨_,H3,G,ru,g1 x hx⟩) λhn s' G=>⟨_,_,G,rz,g2 hn⟩
end
end L2
namespace L3
open PySem PySem.Spec PyProof.Rows L2
section
variable{X:Cx}{o e f:Expr}{ta te tf:TE}{lv ci:Pos}
def WD (hu:X.A.units+1<dC)(G:SE X o ta)(I:SE X e te)(hf:SE X f tf)(m:M2 X o "setdefault" lv e f ci:=by show⟨rfl,rfl,rfl,rfl⟩):SE X (.Call (.Attribute o "setdefault" lv) [e,f] [] ci) (SV ta te tf):=⟨aey hu G.h I.h hf.h m⟩
end
end L3
namespace L2
open PySem PySem.Spec PyProof.Rows
def Xe {K:av}{a b c:J}{xs ys zs:↥V}{g:TG}{tb:TS}{D:Ends}{σ:St}{H:Hp}(l1:↑ys=↑xs)(l2:↑zs=↑xs)(Pv:Nat->St->Hp->Prop)(h0:Pv 0 σ H)(hl:∀i σ H,i<=↑xs->Pv i σ H->af K H a xs/\af K H b ys/\af K H c zs)
   (hs:∀i x y u p σ H,xs[i]?=S x->ys[i]?=S y->zs[i]?=S u->Pv i σ H->H p=Z->g (.ref p) σ (upd H p (.tup [x,y,u])) λσ2 H2=>tb {D with nx:=Pv (i+1),ct:=Pv (i+1),bk:=D.nx} σ2 H2) (hd:∀σ H,Pv ↑xs σ H->D.nx σ H) :
   ∃W:Nat->Nat->St->Hp->Prop,(∃m,W 0 m σ H)/\∀i m σ H,W i m σ H ->
     ((su K a b c).stop i H/\D.nx σ H)\/((su K a b c).go i H/\∃N:St->Hp->Prop,(∀σ' H',N σ' H'->∃O,O<m/\W (i+1) O σ' H')/\∀x H',(su K a b c).yld i H x H'->g x σ H' λσ2 H2=>tb {D with nx:=N,ct:=N,bk:=D.nx} σ2 H2):=by
 show⟨λi m σ H=>m=↑xs-i/\i<=↑xs/\Pv i σ H,⟨↑xs,by simp,fL _,h0⟩,?_⟩
 rintro i m σ H ⟨rfl,hi,p⟩
 obtain⟨I,q2,q3⟩:=hl i σ H hi p
 by_cases G:i<↑xs
 . show .inr ⟨⟨xs,ys,zs,xs[i],ys[i]'(l1▸G),zs[i]'(l2▸G),I,q2,q3,by simp[G],by simp[l1,G],by simp[l2,G]⟩,Pv (i+1),λσ' H' p'=>⟨↑xs-(i+1),⋯,U,G,p'⟩,λx H' y=>?_⟩
   obtain⟨pp,x1,y1,u1,hn,rfl,rfl,k⟩:=y
   obtain⟨k1,k2,k3⟩:=k xs ys zs I q2 q3
   show hs i x1 y1 u1 pp σ H k1 k2 k3 p hn
 . have e:i=↑xs:=⋯
   subst e
   show .inl ⟨⟨xs,I,aK _⟩,hd σ H p⟩
end L2
namespace L3
open PySem PySem.Spec PyProof.Rows L2
def abk {X:Cx}{o:Expr}{ta:TE}{ci lv:Pos}{m:Str}{C:J}{ps:↥Str}{kk:Nat}{sp:Sp}{pl:Sem Bool}(O:SE X o ta)(c:fB X.K C)(D:TW.gG X.prog X.w X.K X.mg X.base C m ps kk sp)(hr:cX kk X.A)
   (ht:eval (.Call (.Attribute o m lv) [] [] ci) X.env=(do
     let I←eval o X.env
     lH lv.atName
     let(f,first)←jr [I] (xn I m pl)
     callWith ci f first (iB ci (cM [] X.env)) (xj ci (xo [] X.env))):=by rfl):SE X (.Call (.Attribute o m lv) [] [] ci) (Dn C m sp [] E0 ta zI):=by
 obtain⟨_,_,G,b,hm⟩:=D
 show⟨aeJ O.h c hm G hr b .nil zi ht⟩
end L3
namespace L3
open PySem PySem.Spec PyProof.Rows L2
end L3
open L3 renaming v->Y,k->L,n->M,int->ajF,ix->ajG,cons->ajH,one->ajI,op->ajJ,gn->ajK,str->ajL,aQ->ajM,ret->ajN,tup->ajO,aW->ajP,aZ->ajQ,own->ajR,cmp->ajS,set->ajT,ifs->ajU,nil->ajV,lst->ajW,fld->ajX,bV->ajY,cg->ajZ,cS->aj0,cZ->aj1,cY->aj2,dI->aj3,iL->aj4,ee->aj5,lc->aj6,fP->aj7,gh->aj8,bl->aj9,gJ->aka,ex->akb,gU->akc,ir->akd,glob->ake,run->akf,jm->akg,jG->akh,jF->aki,jZ->akj,jR->akk,kO->akl,tw->akm,append->akn,asg->ako,m7->akp,dJ->akq,iR->akr,oo->aks,pY->akt,q9->aku,rm->akv,nt->akw,iZ->akx,qF->aky,ud->akz,sX->akA,aM->akB,dput->akC,neg->akH,make->akM
namespace TW
open PySem L2
section
variable{P:bo}{w:aY}{K:av}{mg:Str->Option ae}{base:Heap}
def oj {us:↥ae}{n:Nat}(h:↑us=n+1):∃a t,us=a::t/\↑t=n:=by
 cases us with
 | nil=>cases h
 | cons a t=>show⟨a,t,rfl,Nat.succ.inj h⟩
def Fe {x qual:Str}{st:Stmt}{f:J}{fd:ba}{p0:Str}(F:bq K x qual st f fd)(h:∀(kV doc I:ae) (an:Option J) (O ct G:ae),xk (lB x qual (mG st) (jg st) (aV st) .none kV doc I an O ct) ⟨[G],[]⟩=pure (([p0]:↥Str).zip [G])):Binds K fd [p0] []:=F.binds λkV doc I an O ct us hl=>by
 obtain⟨G,uC,rfl,h1⟩:=oj hl
 cases List.length_eq_zero_iff.mp h1
 show h kV doc I an O ct G
def je {x qual:Str}{st:Stmt}{f:J}{fd:ba}{p0 p1:Str}(F:bq K x qual st f fd)(h:∀(kV doc I:ae) (an:Option J) (O ct G u1:ae),xk (lB x qual (mG st) (jg st) (aV st) .none kV doc I an O ct) ⟨[G,u1],[]⟩=pure (([p0,p1]:↥Str).zip [G,u1])):Binds K fd [p0,p1] []:=F.binds λkV doc I an O ct us hl=>by
 obtain⟨G,uC,rfl,h1⟩:=oj hl
 obtain⟨u1,Tv,rfl,h2⟩:=oj h1
 cases List.length_eq_zero_iff.mp h2
 show h kV doc I an O ct G u1
def sQ {x qual:Str}{st:Stmt}{f:J}{fd:ba}{p0 p1 p2:Str}(F:bq K x qual st f fd)(h:∀(kV doc I:ae) (an:Option J) (O ct G u1 u2:ae),xk (lB x qual (mG st) (jg st) (aV st) .none kV doc I an O ct) ⟨[G,u1,u2],[]⟩=pure (([p0,p1,p2]:↥Str).zip [G,u1,u2])):Binds K fd [p0,p1,p2] []:=F.binds λkV doc I an O ct us hl=>by
 obtain⟨G,uC,rfl,h1⟩:=oj hl
 obtain⟨u1,Tv,rfl,h2⟩:=oj h1
 obtain⟨u2,us2,rfl,h3⟩:=oj h2
 cases List.length_eq_zero_iff.mp h3
 show h kV doc I an O ct G u1 u2
def sR {x qual:Str}{st:Stmt}{f:J}{fd:ba}{p0 p1 p2 p3:Str}(F:bq K x qual st f fd)(h:∀(kV doc O:ae) (an:Option J) (im ct G u1 u2 I:ae),xk (lB x qual (mG st) (jg st) (aV st) .none kV doc O an im ct) ⟨[G,u1,u2,I],[]⟩=pure (([p0,p1,p2,p3]:↥Str).zip [G,u1,u2,I])):Binds K fd [p0,p1,p2,p3] []:=F.binds λkV doc O an im ct us hl=>by
 obtain⟨G,uC,rfl,h1⟩:=oj hl
 obtain⟨u1,Tv,rfl,h2⟩:=oj h1
 obtain⟨u2,us2,rfl,h3⟩:=oj h2
 obtain⟨I,us3,rfl,h4⟩:=oj h3
 cases List.length_eq_zero_iff.mp h4
 show h kV doc O an im ct G u1 u2 I
def top (i:Nat):Stmt:=PySem.Challenge.pw_twinwalk_k20_papers_of_none.main.body.getD i (.Pass ⟨0,0,0,0⟩)
abbrev Q0:Stmt:=top 52
abbrev Rl:Stmt:=top 53
def TK.lst {H:Hp}{a:J}{xs:↥V}{o:HO}(h:H a=S (.lst xs)):TK H (upd H a o):=λb ys e=>by rw[aC (i6 e h (λz=>nomatch z))];show e
theorem Pg {α β:Type}(f:α->β):∀(l:List α) (i:Nat),(l.eraseIdx i).map f=(l.map f).eraseIdx i
 | [],_=>rfl
 | _::_,0=>rfl
 | a::r,i+1=>by simp only[Uv,jb,Pg f r i]
theorem Paired.get {α β:Type}{F:α->β->Prop}:∀{l₁:List α} {l₂:List β} {i:Nat} {x:α},Paired F l₁ l₂->l₁[i]?=S x->∃y,l₂[i]?=S y/\F x y
 | _,_,_,_,.nil,e=>by simp at e
 | _,_,0,_,.cons r _,e=>by simp at e;subst e;show⟨_,rfl,r⟩
 | _,_,i+1,x,.cons _ t,e=>by
   obtain⟨u,h1,h2⟩:=Paired.get (i:=i) (x:=x) t (by simpa using e)
   show⟨u,by simpa using h1,h2⟩
def dW {σ:L2.St}{H:Hp}{A B:Hp->Prop}(h:A H):Dm σ H (λb G=>if b=true then A G else B G):=oh (A:=A H) (B:=B H) h
def bO {i:Nat}{v:V}{σ:L2.St}{H:Hp}{Q:L2.St->Hp->Prop}(h:Q (σ.set i (S v)) H):gK i v σ H Q:=h
def eX.ref {H:Hp}{v:V}{b:Str×Int}(h:eX H v b):∃p,v=.ref p:=by obtain⟨p,e,_⟩:=h;show⟨p,e⟩
def ah {A B C:Hp}(a:ag A B)(b:ag B C):ag A C:=λp o h=>b p o (a p o h)
def same_refl (A:Hp):ag A A:=λz z h=>h
def aT {H:Hp}{p:J}(h:H p=Z)(o:HO):∃H1,ag H H1/\H1 p=S o/\upd H p o=H1:=⟨_,aH h o,ai,rfl⟩
def OZ {H:Hp}{p q:J}{o:HO}(h:H p=Z)(k:upd H p o q=Z)(G:HO):∃H1,ag H H1/\H1 p=S o/\H1 q=S G/\upd (upd H p o) q G=H1:=⟨_,λb u e=>aH k G b u (aH h o b u e),by rw[aC (aR ai k)];show ai,ai,rfl⟩
abbrev GLB (s:Stmt)(x:Str):Prop:=(aV s).names.lookup x=S .globalImplicit
def dq (s:Stmt){sc:cG}(a:sc.kind=.function:=by rfl)(b:∀y∈sc.names,y.2≠.cell:=by right)(c:∀x∈sc.names,x.2=.local->sc.names.lookup x.1=S .local:=by right)(d:∀x∈sc.names,x.2=.free->(aV s).names.lookup x.1=S .cell\/(aV s).names.lookup x.1=S .free:=by right):ki sc (aV s):=⟨a,b,c,d⟩
def bM (l:↥Str)(h:l.Nodup:=by right):l.Nodup:=h
def bt {α:Type}{l:List α}{i:Nat}{a:α}(h:l[i]?=S a):i<↑l:=(List.getElem?_eq_some_iff.mp h).1
def dG {α:Type}{a b:α}{l:List α}(h:a∈b::l):a=b\/a∈l:=List.mem_cons.mp h
def dS {α:Type}{a b:α}{l:List α}(h:a=b\/a∈l):a∈b::l:=List.mem_cons.mpr h
def dv {α:Type}{a b:α}(h:a∈[b]):a=b:=List.mem_singleton.mp h
def du {α β:Type}{f:α->β}{b:β}{l:List α}(h:b∈l.map f):∃a,a∈l/\f a=b:=List.mem_map.mp h
def d7 {α β:Type}{f:α->β}{b:β}{l:List α}(h:∃a,a∈l/\f a=b):b∈l.map f:=List.mem_map.mpr h
def eT {α:Type}{a:α}{l m:List α}(h:a∈l++m):a∈l\/a∈m:=List.mem_append.mp h
def i5 {α:Type}{a:α}{l m:List α}(h:a∈l\/a∈m):a∈l++m:=List.mem_append.mpr h
def b9 {H H':Hp}{a:J}(s:ag H H')(h:H' a=Z):H a=Z:=by
 match e:H a with
 | none=>rfl
 | some o=>rw[s _ _ e]at h;cases h
def cD {H H':Hp}{a:J}{o:HO}(s:ag H H')(h:H a=Z):ag H (upd H' a o):=λb u e=>by rw[aC (aR e h)];show s b u e
def bR {H H':Hp}{a:J}{o:HO}(s:ag H H')(h:H' a=Z):ag H (upd H' a o):=cD s (b9 s h)
def mF {α:Type}(f:α->V)(xs:List α){r:Int}(I:0<=r)(h1:r<(↑xs:Int)):∃x,xs[r.toNat]?=S x/\x∈xs/\de (xs.map f) r=S (f x):=by
 have G:r.toNat<↑xs:=⋯
 have e:r=((r.toNat:Nat):Int):=⋯
 have q:de (xs.map f) ((r.toNat:Nat):Int)=S (f xs[r.toNat]):=gH (by rw[eI,bB G];rfl)
 rw[← e]at q
 show⟨xs[r.toNat],bB G,K6 G,q⟩
def AZ {xs:↥V}{r:Int}(I:0<=r)(h1:r<(↑xs:Int)):∃x,xs[r.toNat]?=S x/\de xs r=S x:=by
 have G:r.toNat<↑xs:=⋯
 have e:r=((r.toNat:Nat):Int):=⋯
 have q:de xs ((r.toNat:Nat):Int)=S xs[r.toNat]:=gH (bB G)
 rw[← e]at q
 show⟨xs[r.toNat],bB G,q⟩
structure Row (b:Int)(rc:↥Int)(n:Nat):Prop where
 len:↑rc=n
 all:∀x∈rc,0<=x/\x<b
def Row.at {b:Int}{G:↥Int}{n:Nat}(h:Row b G n){i:Int}(I:0<=i)(h1:i<n):∃x,de (G.map V.int) i=S (.int x)/\0<=x/\x<b:=by
 obtain⟨x,_,hx,e⟩:=mF V.int G (r:=i) I (by rw[h.len];show h1)
 show⟨x,e,h.all x hx⟩
def C4 (K:av):Sp:=λvs H Q z=>∃(a:J) (G:↥Int) (k:Int),vs=[.ref a,.int k]/\af K H a (G.map V.int)/\0<=k/\∀c:Int,Q (.int c) H
def agj:bE ["script","k"] ["script","k"] (aV Q0):=bP
def aF {K:av}{H:Hp}{p:J}{xs:↥V}{k:Int}{z:V}{R:V->Prop}(hq:H p=S (.tup xs))(O:de xs k=S z)(q:R z):∃G I j z,V.ref p=.ref G/\V.int k=.int j/\bQ K H G I/\de I j=S z/\R z:=⟨p,xs,k,z,rfl,rfl,bQ.of hq,O,q⟩
def aX {K:av}{H:Hp}{p:J}{xs:↥V}{k:Int}{z:V}{R:V->Prop}(hq:H p=S (.lst xs))(O:de xs k=S z)(q:R z):∃G I j z,V.ref p=.ref G/\V.int k=.int j/\af K H G I/\de I j=S z/\R z:=⟨p,xs,k,z,rfl,rfl,af.of hq,O,q⟩
def gC {K:av}{H:Hp}{σ:L2.St}{Q:L2.St->Hp->Prop}{a:J}{x y:V}{i j:Nat}(h:H a=S (.tup [x,y]))(q:Q ((σ.set i (S x)).set j (S y)) H):vp K 2 (lS (gK i) (lS (gK j) vo)) (.ref a) σ H Q:=⟨a,_,rfl,bQ.of h,rfl,_,_,rfl,_,_,rfl,rfl,q⟩
def uA {K:av}{H:Hp}{σ:L2.St}{Q:L2.St->Hp->Prop}{a:J}{x y z:V}{i j k:Nat}(h:H a=S (.tup [x,y,z]))(q:Q (((σ.set i (S x)).set j (S y)).set k (S z)) H):vp K 3 (lS (gK i) (lS (gK j) (lS (gK k) vo))) (.ref a) σ H Q:=⟨a,_,rfl,bQ.of h,rfl,_,_,rfl,_,_,rfl,_,_,rfl,rfl,q⟩
def bY {K:av}{H:Hp}{a C dx:J}{fs:↥(Str×V)}{f:Str}{v:V}{R:V->Prop}(h:H a=S (.ins C dx fs))(c:fB K C)(n:jP K C f)(l:fs.lookup f=S v)(q:R v):∃I G O fs' v,V.ref a=.ref I/\H I=S (.ins G O fs')/\fB K G/\jP K G f/\fs'.lookup f=S v/\R v:=⟨a,C,dx,fs,v,rfl,h,c,n,l,q⟩
def acw {f:J}{fd:ba}(F:bq K "_law_cell_at" "_law_cell_at" Q0 f fd)(G:mg "len"=Z):aU P w K mg base bj 1 f fd ["script","k"] (C4 K):=by
 show F.bZ agj λim A outer s H vs Q E hr h=>?_
 obtain⟨a,I,k,rfl,O,h0,q⟩:=h
 show⟨_,akf (ajH (ajU (ajS akh (Y 1) (aj0 aj5 U G eE (L (Y 0) M))) (ajI (ajN (ajG ajP (Y 0) (Y 1)))) ajV)
   (ajI (ajN ajF))),?_⟩
 show aa U (aa U ⟨a,aa U ⟨.inl O,aw U U (aa U (aG (λc=>?_) (λz=>q 0)))⟩⟩)
 have hk:k<(↑(I.map V.int):Int):=bw c
 rw[aA]at hk
 obtain⟨x,_,_,eL⟩:=mF V.int I h0 hk
 show aa U (aa U ⟨a,_,aw U U ⟨O,eL,q x⟩⟩)
def C9:Sp:=λvs H Q z=>∃(c many bs:Int),vs=[.int c,.int many,.int bs]/\0<=many/\many<=900/\0<bs/\bs<2^30/\∀l G,H l=Z->Row bs G many.toNat->Q (.ref l) (upd H l (.lst (G.map V.int)))
def oz:bE ["cell","many","base","row","rest","k","stir"] ["cell","many","base"] (aV Rl):=bP
def acT {f:J}{fd:ba}(F:bq K "_law_numbers" "_law_numbers" Rl f fd)(G:mg "range"=Z):aU P w K mg base bj 1 f fd ["cell","many","base"] C9:=by
 show F.bZ oz λim A outer s H vs Q E hr h=>?_
 obtain⟨c,many,bs,rfl,mM,hm1,pq,x9,q⟩:=h
 show⟨_,akf (ajH (ajT 0 oz.nd (ajJ ajY (Y 0) (ajJ L3.acd (ajJ akz ajF ajF) (ajJ akz ajF ajF))))
   (ajH (ajT 3 oz.nd (ajW M))
   (ajH (ajT 4 oz.nd (ajJ aku (Y 0) (ajJ akz ajF ajF)))
   (ajH (aj8 (akr U G (L (Y 1) M)) (ajK 5 oz.nd) (ajH (ajT 6 oz.nd (ajJ ajY (ajJ akd (ajJ aj7 (ajJ aj7 (Y 0) (ajJ akd ajF (Y 5))) ajF) ajF) ajF))
   (ajH (ajT 6 oz.nd (ajJ ajY (ajJ akd (Y 6) (Y 6)) ajF))
   (ajH (ajT 6 oz.nd (ajJ aki (ajJ ajY (ajJ akd (ajJ aj7 (Y 6) (ajJ akd ajF (ajJ aj7 (Y 5) ajF))) ajF) ajF) ajF))
   (ajH (ajU (ajS L3.zb (Y 0) (ajJ akz ajF ajF)) (ajH (ajT 6 oz.nd (Y 4))
   (ajI (ajT 4 oz.nd (ajJ aki (Y 4) (Y 2))))) ajV)
   (ajI (akb (akn (Y 3) (L (ajJ ajY (Y 6) (Y 2)) M)))))))))
   (ajI (ajN (Y 3))))))),?_⟩
 have p90:(0:Int)<10^(45:Int).toNat*10^(45:Int).toNat:=by right
 have Mc:((10:Int)^(45:Int).toNat).natAbs<2^150:=by right
 show aa U (bF U U ⟨∅,∅,∅⟩ (bF U U ⟨∅,∅,∅⟩ (aw U U ⟨⟨gQ Mc (Nat.pow_le_pow_right ∅ ∅),gQ Mc (Nat.pow_le_pow_right ∅ ∅)⟩,aw U U ⟨p90,alI,λl hl=>aa U (bF U U ⟨∅,∅,∅⟩ (aw U U (aa U ⟨many,U,⋯,⋯,xU (lo:=0) (n:=many.toNat) (λi σ H2=>∃(c ms:Int) (kv sv:Option V) (I:↥Int),σ=[S (.int c),S (.int many),S (.int bs),S (.ref l),S (.int ms),kv,sv]/\H2=upd H l (.lst (I.map V.int))/\Row bs I i) ?_ ?_ ?_⟩)))⟩⟩)))
 . show⟨_,_,Z,Z,[],U,U,⟨U,λx hx=>nomatch hx⟩⟩
 . rintro i σ H2 hi ⟨c,ms,kv,sv,I,rfl,rfl,O⟩
   show aa U (aa U (bF U U (.inl ⟨∅,∅⟩) (aw U U (aw U U (bF U U (.inr ⟨∅,∅⟩) (bF U U (by change(0:Int)<2147483647;decide) ?_))))))
   have s1:∀n:Int,0<=n%2147483647/\n%2147483647<2147483647:=λn=>⟨hJ _ ∅,iz _ ∅⟩
   show aa U (aa U (bF U U (.inr ⟨by have:=s1 ((c+977*(0+(i:Int))+1)*48271);lia,by have:=s1 ((c+977*(0+(i:Int))+1)*48271);lia⟩) (bF U U (by change(0:Int)<2147483629;decide) (aa U (aa U (aw U U (bF U U (.inl ⟨∅,∅⟩) (aw U U (bF U U (.inr ⟨∅,∅⟩) (bF U U (by change(0:Int)<2147483563;decide) (aw U U ⟨⟨(by change(0:Int)<8;decide),(by change(8:Int)<2^1000;decide +kernel)⟩,?_⟩)))))))))))
   have hd:I.length<=1000:=by have:=O.len;lia
   show aa U (bF U U ⟨∅,∅,∅⟩ (aw U U (aa U (aG (λc1=>?_) (λc1=>?_)))))
   . show aa U (aa U (aa U (aw U U ⟨⟨pq,Int.lt_trans x9 (by right)⟩,aa U ⟨.inl ⟨U,_,af.of ai⟩,aa U (aa U (aw U U ⟨pq,l,aw U U ⟨ai,by rw[aA];show da hd,_,_,_,_,I++[_],U,by rw[kZ,cq];rfl,⟨by rw[cJ,O.len];rfl,λx hx=>?_⟩⟩⟩))⟩⟩)))
     rcases eT hx with z|z
     . show O.all x z
     . have e:=dv z
       rw[e]
       show⟨hJ _ ⋯,iz _ pq⟩
   . show aa U ⟨.inl ⟨U,_,af.of ai⟩,aa U (aa U (aw U U ⟨pq,l,aw U U ⟨ai,by rw[aA];show da hd,_,_,_,_,I++[_],U,by rw[kZ,cq];rfl,⟨by rw[cJ,O.len];rfl,λx hx=>?_⟩⟩⟩))⟩
     rcases eT hx with z|z
     . show O.all x z
     . have e:=dv z
       rw[e]
       show⟨hJ _ ⋯,iz _ pq⟩
 . rintro σ H2 ⟨c,ms,kv,sv,I,rfl,rfl,O⟩
   show aa U (q l I hl O)
abbrev Jo:Stmt:=top 54
abbrev Q1:Stmt:=top 55
def Row.mono {b c:Int}{G:↥Int}{n:Nat}(h:Row b G n)(hb:b<=c):Row c G n:=⟨h.len,λx hx=>⟨(h.all x hx).1,KY (h.all x hx).2 hb⟩⟩
abbrev yZ (names:↥Str):Str->Str->Prop:=λt y=>t="box"/\y∈names
def Dc:Sp:=λvs H Q z=>∃(r G:J) (I:↥Int) (n:Nat) (names:↥Str),vs=[.ref r,.ref G]/\H r=S (.lst (I.map V.int))/\Row (2^40) I n/\3<=n/\H G=S (.lst (names.map V.str))/\↑names<=900 /\
 ∀(v:V) (H':Hp) (e:E),ag H H'->bL H' v e->e.dP->e.okIn (yZ names)->e.dep<=2->Q v H'
def wJ:bE ["row","names","number","some","one","other","way"] ["row","names"] (aV Jo):=bP
def adb {f:J}{fd:ba}(F:bq K "_law_sum" "_law_sum" Jo f fd)(m_len:mg "len"=Z):aU P w K mg base bj 1 f fd ["row","names"] Dc:=by
 show F.bZ wJ λim A outer s H vs Q E hr h=>?_
 obtain⟨r,na,rc,n,names,rfl,jD,hR,ZG,e8,eO,q⟩:=h
 show⟨_,akf (ajH (ajT 2 wJ.nd (ajG ajP (ajW (L (ajJ ajY (ajG ajP (Y 0) ajF) ajF) (L (ajJ ajY (ajG ajP (Y 0) ajF) ajF) (L (ajJ aj7 (ajJ akz ajF ajF) (ajG ajP (Y 0) ajF)) M)))) (ajJ aki (ajJ ajY (ajG ajP (Y 0) ajF) ajF) ajF)))
   (ajH (ajT 3 wJ.nd (ajJ akl (ajW (L (ajO (L ajL (L (Y 2) M))) M)) (aj6 [Z] ["name"] (dq Jo) U (aj4 (Y 1)) (λu u u u u=>⟨(ajK 0 (bM ["name"])),aj3,(ajO (L ajL (L (Y 0) M)))⟩))))
   (ajH (ajT 4 wJ.nd (ajG ajP (Y 3) (ajJ ajY (ajJ aki (ajG ajP (Y 0) ajF) ajF) (aj0 aj5 U m_len eE (L (Y 3) M)))))
   (ajH (ajT 5 wJ.nd (ajG ajP (Y 3) (ajJ ajY (ajJ aki (ajG ajP (Y 0) ajF) ajF) (aj0 aj5 U m_len eE (L (Y 3) M)))))
   (ajH (ajT 6 wJ.nd (ajJ ajY (ajG ajP (Y 0) ajF) ajF))
   (ajH (ajU (ajS akh (Y 6) ajF) (ajI (ajN (Y 4))) ajV)
   (ajH (ajU (ajS ajZ (Y 6) ajF) (ajI (ajN (ajO (L ajL (L (Y 4) (L (Y 5) M)))))) ajV)
   (ajH (ajU (ajS ajZ (Y 6) ajF) (ajI (ajN (ajO (L ajL (L (ajO (L ajL (L (Y 5) (L (ajO (L ajL (L (ajJ ajY (ajG ajP (Y 0) ajF) ajF) M))) M)))) (L (Y 4) M)))))) ajV)
   (ajI (ajN (ajO (L ajL (L (Y 4) (L (ajO (L ajL (L (ajJ ajY (ajG ajP (Y 0) ajF) ajF) M))) M)))))))))))))),?_⟩
 obtain⟨x0,a0,Dx,Kv⟩:=hR.at (i:=0) ∅ ⋯
 obtain⟨I,a1,Kw,Kx⟩:=hR.at (i:=1) ∅ ⋯
 obtain⟨x2,a2,T3,T4⟩:=hR.at (i:=2) ∅ ⋯
 have pick:∃num:Int,de ([.int (I%3),.int (I%7),.int (10^(20:Int).toNat+I)]:↥V) (x2%12/5)=S (.int num)/\num.natAbs<2^100:=by
   have WG:(10:Int)^(20:Int).toNat=100000000000000000000:=by right
   rw[WG]
   rcases(show x2%12/5=0\/x2%12/5=1\/x2%12/5=2 by lia)with e|e|e<;>rw[e]
   . show aa U ⋯
   . show aa U ⋯
   . show aa U ⋯
 obtain⟨num,eL,ZL⟩:=pick
 show aa U (aX jD a1 (bF U U (by change(0:Int)<3;decide) (aa U (aX jD a1 (bF U U (by change(0:Int)<7;decide) (bF U U ⟨∅,∅,∅⟩ (aa U (aX jD a1 (aw U U ⟨alL,λl hl=>?_⟩)))))))))
 have s1:ag H (upd H l (.lst [.int (I%3),.int (I%7),.int (10^(20:Int).toNat+I)])):=aH hl _
 show aa U (aX (s1 _ _ jD) a2 (bF U U (by change(0:Int)<12;decide) (aw U U ⟨⟨(by change(0:Int)<5;decide),(by change(5:Int)<2^1000;decide +kernel)⟩,aX ai eL ?_⟩)))
 generalize(upd H l (.lst [.int (I%3),.int (I%7),.int (10^(20:Int).toNat+I)]))=H1 at s1 ⊢
 show aL U alK (λp hp=>⟨alJ,λl1 EQ=>?_⟩)
 have s2:ag H (upd (upd H1 p (.tup [.str "number",.int num])) l1 (.lst [.ref p])):=bR (bR s1 hp) EQ
 have M8:bL (upd (upd H1 p (.tup [.str "number",.int num])) l1 (.lst [.ref p])) (.ref p) (.num num):=⟨p,rfl,by rw[aC (aR ai EQ),ai]⟩
 have wP:(upd (upd H1 p (.tup [.str "number",.int num])) l1 (.lst [.ref p])) l1=S (.lst [.ref p]):=ai
 generalize(upd (upd H1 p (.tup [.str "number",.int num])) l1 (.lst [.ref p]))=H2 at s2 M8 wP ⊢
 have BF:=s2 _ _ e8
 show aa U (aL U ⟨_,af.of BF⟩ (λnb fH=>fT (xs:=names.map V.str) (λi O=>∃G:↥V,ag H2 O/\O nb=S (.lst G)/\G.length=i/\Paired (bL O) G ((names.take i).map (TW.E.box "box"))) ⟨[],aH fH _,ai,U,.nil⟩ (λi O u z=>af.of (z.choose_spec.1 _ _ BF)) (λi x O hx z=>?_) (λO z=>?_)))
 . obtain⟨G,s3,mJ,gY,pb⟩:=z
   obtain⟨nm,lW,rfl⟩ : ∃nm,names[i]?=S nm/\x=V.str nm:=by
     rw[eI]at hx
     obtain⟨y,h1,h2⟩:=Option.map_eq_some_iff.mp hx
     show⟨y,h1,h2.symm⟩
   have bC:i<↑names:=(bt lW)
   show bO (dW (A:=λO=>cR _ nb _ O _) (aL U alK (λp2 bp=>⟨G,?_,da ⋯,cO (Pv:=λi O=>∃G:↥V,ag H2 O/\O nb=S (.lst G)/\G.length=i/\Paired (bL O) G ((names.take i).map (TW.E.box "box"))) (by repeat' constructor) (by rw[aA];show bC) ?_⟩)))
   . rw[aC (aR mJ bp)];show mJ
   . have vB:(upd O p2 (.tup [.str "box",.str nm])) nb=S (.lst G):=by rw[aC (aR mJ bp)];show mJ
     have t4:TK O (upd (upd O p2 (.tup [.str "box",.str nm])) nb (.lst (G++[.ref p2]))):=(bN bp _).trans (TK.lst vB)
     show⟨G++[.ref p2],cD (bR s3 bp) fH,ai,by rw[cJ,gY];rfl,?_⟩
     rw[cV,lW,cq]
     show Paired.snoc (Paired.bc pb λa b h=>h.keep t4) ⟨p2,U,by rw[aC (aR mJ bp).symm];show ai⟩
 . obtain⟨G,s3,mJ,gY,pb⟩:=z
   rw[aA]at gY pb
   rw[cL]at pb
   show⟨l1,nb,aw U U ⟨s3 _ _ wP,mJ,small (show 1+G.length<=1000 by lia),λso GL=>?_⟩⟩
   have s4:=bR (o:=.lst ([.ref p]++G)) (ah s2 s3) GL
   have all:∀(j:Int) (H4:Hp),ag (upd O so (.lst ([V.ref p]++G))) H4->0<=j->∃v e,de ([V.ref p]++G) (j%(↑([V.ref p]++G):Int))=S v/\bL H4 v e/\e.dP/\e.okIn (yZ names)/\e.dep=0:=λj H4 s5 hj=>by
     have mR:(0:Int)<(↑([V.ref p]++G):Int):=by rw[cJ];change(0:Int)<((1+G.length:Nat):Int);lia
     obtain⟨v,h1,h2⟩:=AZ (xs:=[V.ref p]++G) (r:=j%(↑([V.ref p]++G):Int)) (hJ _ ⋯) (iz _ mR)
     have pa:Paired (bL (upd O so (.lst ([V.ref p]++G)))) ([V.ref p]++G) (TW.E.num num::names.map (TW.E.box "box")):=.cons ((M8.keep (ag.tk s3)).keep (bN GL _)) (Paired.bc pb λa b h=>h.keep (bN GL _))
     obtain⟨e,h3,h4⟩:=Paired.get pa h1
     show⟨v,e,h2,h4.keep (ag.tk s5),?_⟩
     rcases dG (bI h3)with z|z
     . subst z
       show⟨bK,ZL,U⟩
     . obtain⟨y,hy,rfl⟩:=du z
       show⟨bK,⟨U,hy⟩,U⟩
   have vQ:(upd O so (.lst ([V.ref p]++G))) so=S (.lst ([.ref p]++G)):=ai
   have tR:=s4 _ _ jD
   have jU:(0:Int)<(↑([V.ref p]++G):Int):=by rw[cJ];change(0:Int)<((1+G.length:Nat):Int);lia
   generalize([V.ref p]++G)=sv at all vQ s4 tR jU ⊢
   generalize(upd O so (.lst sv))=H4 at all vQ s4 tR ⊢
   have d8:(8:Int)<2^1000:=by right
   have Wo:(12:Int)<2^1000:=by right
   obtain⟨v1,e1,Vy,fF,ff,dU,lQ⟩:=all (x0/8) H4 (same_refl _) ⋯
   obtain⟨v2,e2,at2,qG,qX,om,WC⟩:=all (x2/12) H4 (same_refl _) ⋯
   show aa U (aa U (aX tR a0 (aw U U ⟨⟨(by change(0:Int)<8;decide),d8⟩,aa U (aw U (.inl (af.of vQ)) (aw U U ⟨jU,aX vQ Vy (aa U (aa U (aX tR a2 (aw U U ⟨⟨(by change(0:Int)<12;decide),Wo⟩,aa U (aw U (.inl (af.of vQ)) (aw U U ⟨jU,aX vQ at2 (aa U (aX tR a0 (bF U U (by change(0:Int)<8;decide) (aa U (aw U U (aa U (aG (λu=>(aa U (q v1 H4 e1 s4 fF ff dU ⋯))) (λu=>aa U (aN U U (aG (λu=>?_) (λu=>?_)))))))))))⟩))⟩))))⟩))⟩)))
   . show aa U (aL U alL (λp5 lX=>q (.ref p5) _ (.two .less e1 e2) (bR s4 lX) ⟨v1,v2,⟨p5,U,ai⟩,fF.keep (bN lX _),qG.keep (bN lX _)⟩ ⟨ff,qX⟩ ⟨dU,om⟩ (by change max e1.dep e2.dep+1<=2;lia)))
   show aa U (aN U U (aG (λu=>?_) (λu=>?_)))
   . show aa U (aa U (aX tR a1 (bF U U (by change(0:Int)<5;decide) ⟨alK,λp5 lX=>⟨alL,λp6 mO=>(aL U alL (λp7 GC=>?_))⟩⟩)))
     have k5:bL (upd H4 p5 (.tup [.str "number",.int (I%5)])) (.ref p5) (.num (I%5)):=⟨p5,rfl,ai⟩
     have k6:bL (upd (upd H4 p5 (.tup [.str "number",.int (I%5)])) p6 (.tup [.str "less",v2,.ref p5])) (.ref p6) (.two .less e2 (.num (I%5))):=⟨v2,.ref p5,⟨p6,rfl,ai⟩,(qG.keep (bN lX _)).keep (bN mO _),k5.keep (bN mO _)⟩
     show q (.ref p7) _ (.two .plus (.two .less e2 (.num (I%5))) e1) (bR (bR (bR s4 lX) mO) GC) ⟨.ref p6,v1,⟨p7,U,ai⟩,k6.keep (bN GC _),((fF.keep (bN lX _)).keep (bN mO _)).keep (bN GC _)⟩ ⟨⟨qX,bK⟩,ff⟩ ⟨⟨om,?_⟩,dU⟩ (by change max (max e2.dep 0+1) e1.dep+1<=2;lia)
     change(I%5).natAbs<2^100
     lia
   . show aa U (aa U (aX tR a1 (bF U U (by change(0:Int)<4;decide) ⟨alK,λp5 lX=>⟨alL,λp6 mO=>?_⟩⟩)))
     have k5:bL (upd H4 p5 (.tup [.str "number",.int (I%4)])) (.ref p5) (.num (I%4)):=⟨p5,rfl,ai⟩
     show q (.ref p6) _ (.two .plus e1 (.num (I%4))) (bR (bR s4 lX) mO) ⟨v1,.ref p5,⟨p6,U,ai⟩,(fF.keep (bN lX _)).keep (bN mO _),k5.keep (bN mO _)⟩ ⟨ff,bK⟩ ⟨dU,?_⟩ (by change max e1.dep 0+1<=2;lia)
     change(I%4).natAbs<2^100
     lia
def R5:Sp:=λvs H Q z=>∃(r G:J) (I:↥Int) (n:Nat) (names:↥Str),vs=[.ref r,.ref G]/\H r=S (.lst (I.map V.int))/\Row (2^30) I n/\4<=n/\H G=S (.lst (names.map V.str))/\↑names<=900 /\
 ∀(v:V) (H':Hp) (e:E),ag H H'->bL H' v e->e.fj->e.okIn (yZ names)->e.dep<=5->Q v H'
def CQ:bE ["row","names","one","other","way"] ["row","names"] (aV Q1):=bP
def acx {f:J}{fd:ba}(F:bq K "_law_condition" "_law_condition" Q1 f fd)(S8:aP P w K mg base "_law_sum" ["row","names"] 1 Dc):aU P w K mg base bj 2 f fd ["row","names"] R5:=by
 show F.bZ CQ λim A outer s H vs Q E hr h=>?_
 obtain⟨r,na,rc,n,names,rfl,jD,hR,ZG,e8,eO,q⟩:=h
 show⟨_,akf (ajH (ajT 2 CQ.nd (ajR S8 hr U (L (ajW (L (ajJ akd ajF (ajG ajP (Y 0) ajF)) (L (ajG ajP (Y 0) ajF) (L (ajG ajP (Y 0) ajF) M)))) (L (Y 1) M))))
   (ajH (ajT 3 CQ.nd (ajR S8 hr U (L (ajW (L (ajJ aki (ajG ajP (Y 0) ajF) ajF) (L (ajG ajP (Y 0) ajF) (L (ajG ajP (Y 0) ajF) M)))) (L (Y 1) M))))
   (ajH (ajT 4 CQ.nd (ajJ ajY (ajG ajP (Y 0) ajF) ajF))
   (ajH (ajU (ajS ajZ (Y 4) ajF) (ajI (ajN (ajO (L ajL M)))) ajV)
   (ajH (ajU (ajS ajZ (Y 4) ajF) (ajI (ajN (ajO (L ajL (L (ajO (L ajL (L (Y 2) (L (Y 3) M)))) M))))) ajV)
   (ajH (ajU (ajS ajZ (Y 4) ajF) (ajI (ajN (ajO (L ajL (L (ajO (L ajL (L (Y 2) (L (Y 3) M)))) (L (ajO (L ajL (L (ajO (L ajL (L (Y 3) (L (Y 2) M)))) M))) M)))))) ajV)
   (ajI (ajN (ajG ajP (ajW (L (ajO (L ajL (L (Y 2) (L (Y 3) M)))) (L (ajO (L ajL (L (Y 2) (L (Y 3) M)))) M))) (ajJ ajY (Y 4) ajF)))))))))),?_⟩
 obtain⟨x0,a0,Dx,Kv⟩:=hR.at (i:=0) ∅ ⋯
 obtain⟨x1,a1,Kw,Kx⟩:=hR.at (i:=1) ∅ ⋯
 obtain⟨x2,a2,T3,T4⟩:=hR.at (i:=2) ∅ ⋯
 obtain⟨x3,a3,x30,x31⟩:=hR.at (i:=3) ∅ ⋯
 have QR:∀a b c:Int,0<=a->a<2^40->0<=b->b<2^40->0<=c->c<2^40->Row (2^40) [a,b,c] 3:=λa b c h1 h2 h3 h4 h5 h6=>⟨rfl,λx hx=>by
   rcases dG hx with e|hx
   . rw[e];show⟨h1,h2⟩
   rcases dG hx with e|hx
   . rw[e];show⟨h3,h4⟩
   rw[dv hx];show⟨h5,h6⟩⟩
 show aa U (aX jD a3 (bF U U (.inl ⟨∅,∅⟩) (aa U (aX jD a1 (aa U (aX jD a2 ⟨alL,λl hl=>aa U ⟨l,na,[8*x3,x1,x2],3,names,U,ai,QR _ _ _ ⋯ ⋯ ⋯ ⋯ ⋯ ⋯,aK _,by rw[aC (aR e8 hl)];show e8,eO,λv1 H1 I s1 fF ff dU lQ=>?_⟩⟩))))))
 have s1:=ah (aH hl _) s1
 have jX:=s1 _ _ jD
 have d8:(8:Int)<2^1000:=by right
 show aa U (aX jX a0 (aw U U ⟨⟨(by change(0:Int)<8;decide),d8⟩,aa U (aX jX a2 (aa U (aX jX a1 ⟨alL,λl2 wP=>?_⟩)))⟩))
 have jT:=s1 _ _ e8
 show aa U ⟨l2,na,[x0/8,x2,x1],3,names,U,ai,QR _ _ _ ⋯ ⋯ ⋯ ⋯ ⋯ ⋯,aK _,by rw[aC (aR jT wP)];show jT,eO,λv2 H2 O s2 qG qX om WC=>?_⟩
 have Go:ag H1 H2:=ah (aH wP _) s2
 have fF:=fF.keep (ag.tk Go)
 have s2:=ah s1 Go
 have aad:=s2 _ _ jD
 show aa U (aX aad a0 (bF U U (by change(0:Int)<8;decide) (aa U (aN U U (aG (λz=>?_) (λz=>?_))))))
 . show⟨alJ,λp G=>q (.ref p) _ .yes (bR s2 G) ⟨p,U,ai⟩ bK bK (by change 0<=5;lia)⟩
 show aa U (aN U U (aG (λz=>?_) (λz=>?_)))
 . show aa U (aL U alL (λp G=>⟨alK,λp2 bp=>?_⟩))
   have k1:bL (upd H2 p (.tup [.str "same",v1,v2])) (.ref p) (.two .same I O):=⟨v1,v2,⟨p,rfl,ai⟩,fF.keep (bN G _),qG.keep (bN G _)⟩
   show q (.ref p2) _ (.nt (.two .same I O)) (bR (bR s2 G) bp) ⟨.ref p,⟨p2,U,ai⟩,k1.keep (bN bp _)⟩ ⟨ff,qX⟩ ⟨dU,om⟩ (by change max I.dep O.dep+1+1<=5;lia)
 show aa U (aN U U (aG (λz=>?_) (λz=>?_)))
 . show aa U (aL U alL (λp G=>(aa U (aL U alL (λp2 bp=>⟨alK,λp3 yu=>⟨alL,λp4 jU=>?_⟩⟩)))))
   have k1:bL (upd H2 p (.tup [.str "under",v1,v2])) (.ref p) (.two .under I O):=⟨v1,v2,⟨p,rfl,ai⟩,fF.keep (bN G _),qG.keep (bN G _)⟩
   have k2:bL (upd (upd H2 p (.tup [.str "under",v1,v2])) p2 (.tup [.str "under",v2,v1])) (.ref p2) (.two .under O I):=⟨v2,v1,⟨p2,rfl,ai⟩,(qG.keep (bN G _)).keep (bN bp _),(fF.keep (bN G _)).keep (bN bp _)⟩
   have k3:bL (upd (upd (upd H2 p (.tup [.str "under",v1,v2])) p2 (.tup [.str "under",v2,v1])) p3 (.tup [.str "not",.ref p2])) (.ref p3) (.nt (.two .under O I)):=⟨.ref p2,⟨p3,rfl,ai⟩,k2.keep (bN yu _)⟩
   show q (.ref p4) _ (.two .both (.two .under I O) (.nt (.two .under O I))) (bR (bR (bR (bR s2 G) bp) yu) jU) ⟨.ref p,.ref p3,⟨p4,U,ai⟩,((k1.keep (bN bp _)).keep (bN yu _)).keep (bN jU _),k3.keep (bN jU _)⟩ ⟨⟨ff,qX⟩,⟨qX,ff⟩⟩ ⟨⟨dU,om⟩,⟨om,dU⟩⟩
     (by change max (max I.dep O.dep+1) (max O.dep I.dep+1+1)+1<=5;lia)
 . show aa U (aL U alL (λp G=>(aa U (aL U alL (λp2 bp=>⟨alK,λl3 mL=>?_⟩)))))
   have k1:bL (upd H2 p (.tup [.str "same",v1,v2])) (.ref p) (.two .same I O):=⟨v1,v2,⟨p,rfl,ai⟩,fF.keep (bN G _),qG.keep (bN G _)⟩
   have k2:bL (upd (upd H2 p (.tup [.str "same",v1,v2])) p2 (.tup [.str "under",v1,v2])) (.ref p2) (.two .under I O):=⟨v1,v2,⟨p2,rfl,ai⟩,(fF.keep (bN G _)).keep (bN bp _),(qG.keep (bN G _)).keep (bN bp _)⟩
   have last:∀X:Int,X=x0%8%2->∃(v:V) (e:TW.E),de [V.ref p,V.ref p2] X=S v/\bL (upd (upd H2 p (.tup [.str "same",v1,v2])) p2 (.tup [.str "under",v1,v2])) v e/\e.fj/\e.okIn (yZ names)/\e.dep<=5:=λX hX=>by
     rcases(show X=0\/X=1 by lia)with rfl|rfl
     . show⟨_,aa U ⟨k1.keep (bN bp _),⟨ff,qX⟩,⟨dU,om⟩,(by change max I.dep O.dep+1<=5;lia)⟩⟩
     . show⟨_,aa U ⟨k2,⟨ff,qX⟩,⟨dU,om⟩,(by change max I.dep O.dep+1<=5;lia)⟩⟩
   obtain⟨v,e,eL,ke,h1,h2,h3⟩:=last _ rfl
   show aa U (bF U U (by change(0:Int)<2;decide) (aX ai eL (q v _ e (bR (bR (bR s2 G) bp) mL) (ke.keep (bN mL _)) h1 h2 h3)))
abbrev Rg:Stmt:=top 56
def Sa:Sp:=λvs H Q z=>∃(r G:J) (I:↥Int) (n:Nat) (names:↥Str) (many:Int),vs=[.ref r,.ref G,.int many]/\H r=S (.lst (I.map V.int))/\Row (2^30) I n/\7<=n/\H G=S (.lst (names.map V.str))/\↑names<=900/\0<many/\many<2^30 /\
 ∀(v:V) (H':Hp) (e:Nd),ag H H'->cB H' v e->e.good (·∈names) many 5->Q v H'
def Jw:bE ["row","names","many","after","way"] ["row","names","many"] (aV Rg):=bP
def acQ {f:J}{fd:ba}(F:bq K "_law_node" "_law_node" Rg f fd)(m_len:mg "len"=Z)(S8:aP P w K mg base "_law_sum" ["row","names"] 1 Dc)(C:aP P w K mg base "_law_condition" ["row","names"] 2 R5):aU P w K mg base bj 3 f fd ["row","names","many"] Sa:=by
 show F.bZ Jw λim A outer s H vs Q E hr h=>?_
 obtain⟨r,na,rc,n,names,many,rfl,jD,hR,hn7,e8,eO,mM,hm1,q⟩:=h
 have S1:=S8.mono (show 1<=2 by left)
 show⟨_,akf (ajH (ajT 3 Jw.nd (ajJ ajY (ajG ajP (Y 0) ajF) (Y 2)))
   (ajH (ajT 4 Jw.nd (ajJ ajY (ajG ajP (Y 0) ajF) ajF))
   (ajH (ajU (akm (akj (ajS ajZ (Y 4) ajF) (aks (akm (L3.E3 (ajS (L3.za (m:=0) (cI hr _ ∅)) (Y 1) (ajW M)) (L3.E2 (ajS akh (Y 4) ajF))))))) (ajI (ajN (ajO (L ajL M)))) ajV)
   (ajH (ajU (ajS akh (Y 4) ajF) (ajI (ajN (ajO (L ajL (L (ajG ajP (Y 1) (ajJ ajY (ajG ajP (Y 0) ajF) (aj0 aj5 U m_len eE (L (Y 1) M)))) (L (ajR S1 hr U (L (Y 0) (L (Y 1) M))) (L (Y 3) M))))))) ajV)
   (ajH (ajU (ajS akh (Y 4) ajF) (ajI (ajN (ajO (L ajL (L (ajR S1 hr U (L (Y 0) (L (Y 1) M))) (L (Y 3) M)))))) ajV)
   (ajI (ajN (ajO (L ajL (L (ajR C hr U (L (Y 0) (L (Y 1) M))) (L (Y 3) (L (ajJ ajY (ajG ajP (Y 0) ajF) (Y 2)) M)))))))))))),?_⟩
 obtain⟨I,a4,zQ,x41⟩:=hR.at (i:=4) ∅ ⋯
 obtain⟨x5,a5,x50,x51⟩:=hR.at (i:=5) ∅ ⋯
 obtain⟨x6,a6,x60,x61⟩:=hR.at (i:=6) ∅ ⋯
 have O:∀x:Int,0<=x%many/\x%many<many:=λx=>⟨hJ _ ⋯,iz _ mM⟩
 show aa U (aX jD a4 (aa U (aw U U ⟨mM,aa U (aX jD a5 (bF U U (by change(0:Int)<8;decide) (aa U (aN U U (aG (λc1=>?_) (λc1=>?_))))))⟩)))
 . show oh ⟨alJ,λp G=>q (.ref p) _ .fin (aH G _) ⟨p,U,ai⟩ bK⟩
 show aL U alI (λlz qO=>?_)
 obtain⟨H1,s1,hz1,zz⟩:=aT qO (.lst [])
 rw[zz];clear zz
 have jX:=s1 _ _ jD
 have jT:=s1 _ _ e8
 show⟨_,RB.nil (af.of jT) (af.of hz1),aa U (aG (λc2=>?_) (λc2=>?_))⟩
 . show aa U (aw U U (aa U (aG (λc3=>?_) (λc3=>?_))))
   . show⟨alJ,λp G=>q (.ref p) _ .fin (bR s1 G) ⟨p,U,ai⟩ bK⟩
   . have hz:names≠[]\/¬ x5%8<3:=.inr λz=>c3 (bS z)
     show aa U (aw U U (aa U (aG (λc4=>?_) (λc4=>?_))))
     . have hw:x5%8<3:=bw c4
       have mR:0<↑names:=by
         rcases hz with z|z
         . show List.length_pos_iff.mpr z
         . show ao hw z
       have yC:(0:Int)<(↑(names.map V.str):Int):=by rw[aA];lia
       have cE:=iz x6 yC
       obtain⟨y,_,hy,eL⟩:=mF V.str names (r:=x6%(↑(names.map V.str):Int)) (hJ _ ⋯) (by rw[aA]at cE ⊢;show cE)
       show aa U (aa U (aX jX a6 (aa U (aw U (.inl (af.of jT)) (aw U U ⟨yC,aX jT eL (aa U (aa U ⟨r,na,rc,n,names,U,jX,hR.mono ∅,⋯,jT,eO,λv1 H2 e1 s2 fF ff dU lQ=>aL U alM (λp G=>q (.ref p) _ (.put y e1 (I%many)) (bR (ah s1 s2) G) ⟨v1,⟨p,U,ai⟩,fF.keep (bN G _)⟩ ⟨hy,ff,dU,⋯,(O I).1,(O I).2⟩)⟩))⟩)))))
     show aa U (aw U U (aa U (aG (λc5=>?_) (λc5=>?_))))
     . show aa U (aa U ⟨r,na,rc,n,names,U,jX,hR.mono ∅,⋯,jT,eO,λv1 H2 e1 s2 fF ff dU lQ=>aL U alL (λp G=>q (.ref p) _ (.say e1 (I%many)) (bR (ah s1 s2) G) ⟨v1,⟨p,U,ai⟩,fF.keep (bN G _)⟩ ⟨ff,dU,⋯,(O I).1,(O I).2⟩)⟩)
     . show aa U (aa U ⟨r,na,rc,n,names,U,jX,hR,⋯,jT,eO,λv1 H2 e1 s2 fF ff dU lQ=>aa U (aa U (aX (s2 _ _ jX) a6 (aa U (aw U U ⟨mM,alM,λp G=>q (.ref p) _ (.test e1 (I%many) (x6%many)) (bR (ah s1 s2) G) ⟨v1,⟨p,U,ai⟩,fF.keep (bN G _)⟩ ⟨ff,dU,lQ,(O I).1,(O I).2,(O x6).1,(O x6).2⟩⟩))))⟩)
 . show mV ?_
   have hz:names≠[]\/¬ x5%8<3:=.inl λz=>c2 (by rw[z];rfl)
   show aa U (aw U U (aa U (aG (λc4=>?_) (λc4=>?_))))
   . have hw:x5%8<3:=bw c4
     have mR:0<↑names:=by
       rcases hz with z|z
       . show List.length_pos_iff.mpr z
       . show ao hw z
     have yC:(0:Int)<(↑(names.map V.str):Int):=by rw[aA];lia
     have cE:=iz x6 yC
     obtain⟨y,_,hy,eL⟩:=mF V.str names (r:=x6%(↑(names.map V.str):Int)) (hJ _ ⋯) (by rw[aA]at cE ⊢;show cE)
     show aa U (aa U (aX jX a6 (aa U (aw U (.inl (af.of jT)) (aw U U ⟨yC,aX jT eL (aa U (aa U ⟨r,na,rc,n,names,U,jX,hR.mono ∅,⋯,jT,eO,λv1 H2 e1 s2 fF ff dU lQ=>aL U alM (λp G=>q (.ref p) _ (.put y e1 (I%many)) (bR (ah s1 s2) G) ⟨v1,⟨p,U,ai⟩,fF.keep (bN G _)⟩ ⟨hy,ff,dU,⋯,(O I).1,(O I).2⟩)⟩))⟩)))))
   show aa U (aw U U (aa U (aG (λc5=>?_) (λc5=>?_))))
   . show aa U (aa U ⟨r,na,rc,n,names,U,jX,hR.mono ∅,⋯,jT,eO,λv1 H2 e1 s2 fF ff dU lQ=>aL U alL (λp G=>q (.ref p) _ (.say e1 (I%many)) (bR (ah s1 s2) G) ⟨v1,⟨p,U,ai⟩,fF.keep (bN G _)⟩ ⟨ff,dU,⋯,(O I).1,(O I).2⟩)⟩)
   . show aa U (aa U ⟨r,na,rc,n,names,U,jX,hR,⋯,jT,eO,λv1 H2 e1 s2 fF ff dU lQ=>aa U (aa U (aX (s2 _ _ jX) a6 (aa U (aw U U ⟨mM,alM,λp G=>q (.ref p) _ (.test e1 (I%many) (x6%many)) (bR (ah s1 s2) G) ⟨v1,⟨p,U,ai⟩,fF.keep (bN G _)⟩ ⟨ff,dU,lQ,(O I).1,(O I).2,(O x6).1,(O x6).2⟩⟩))))⟩)
def cK {X:Cx}{I:↥Stmt}{G:TS->Prop}(h:∃t,L3.SL X I t/\G t):∃t,fR X I t/\G t:=by obtain⟨t,a,b⟩:=h;show⟨t,a.h,b⟩
def lP {α:Type}(xs:List α)(lo hi:Option Int):List α:=(xs.drop (HT.bH ↑xs 0 lo)).take (HT.bH ↑xs ↑xs hi-HT.bH ↑xs 0 lo)
def Bf {α:Type}(f:α->V)(xs:List α)(lo hi:Option Int):kC (xs.map f) lo hi=(lP xs lo hi).map f:=by
 unfold kC lP
 rw[aA,← List.map_drop,← K9]
def Wm {α:Type}(xs:List α)(lo hi:Option Int):(lP xs lo hi).Sublist xs:=(D3 _ _).trans (List.drop_sublist _ _)
def Wn {α:Type}(xs:List α)(n:Nat):lP xs Z (S (n:Int))=xs.take n:=by
 unfold lP
 rw[HT.uh,HT.aga,wU,Nat.sub_zero]
 by_cases h:n<=↑xs
 . rw[Aj h]
 . rw[Nat.min_eq_right ⋯,cL,nj ⋯]
def Wl {α:Type}(xs:List α)(m n:Nat)(h:n<=↑xs)(G:m<=n):lP xs (S (m:Int)) (S (n:Int))=(xs.drop m).take (n-m):=by
 unfold lP
 rw[HT.uh,HT.uh,Aj h,Aj ⋯]
def bT {α:Type}(n:Int)(xs:List α):List α:=if n=1 then xs else xs.reverse
def agY {α:Type}(f:α->V)(n:Int)(xs:List α):jI n (xs.map f)=(bT n xs).map f:=by
 unfold jI bT
 split
 . rfl
 . rw[D1]
def zH {α:Type}{n:Int}{xs:List α}{x:α}:x∈bT n xs↔x∈xs:=by
 unfold bT
 split
 . show Iff.rfl
 . show List.mem_reverse
def Kg {α:Type}{n:Int}{xs:List α}(h:xs.Nodup):(bT n xs).Nodup:=by
 unfold bT
 split
 . show h
 . show(List.Perm.nodup_iff (List.reverse_perm xs)).mpr h
abbrev Je:Stmt:=top 57
def uZ (nm:↥Str):Prop:=nm=(["a","ab"]:↥Str)\/nm=(["x","a"]:↥Str)\/nm=(["boxes","box"]:↥Str)
structure mz (bs:ak)(ins:↥Str):Prop where
 nm:∃nm re,uZ nm/\↑re<=2/\(∀s∈re,(1:Int)<=s/\s<=5)/\bs=nm.zip re
 ind:ins.Nodup
 insub:∀x∈ins,x∈bs.map (·.1)
def uZ.len {nm:↥Str}(h:uZ nm):↑nm=2:=by rcases h with rfl|rfl|rfl<;>rfl
def uZ.nd {nm:↥Str}(h:uZ nm):nm.Nodup:=by rcases h with rfl|rfl|rfl<;>decide +kernel
theorem KD {α β:Type}:∀(xs:List α) (ys:List β),↑ys<=↑xs->(xs.zip ys).map (·.1)=xs.take ↑ys
 | [],[],_=>rfl
 | _::_,[],_=>rfl
 | [],_::_,h=>by simp at h
 | x::xs,y::ys,h=>by
   change x::(xs.zip ys).map (·.1)=x::xs.take ↑ys
   rw[KD xs ys (by simpa using h)]
def mz.nd {bs:ak}{ins:↥Str}(h:mz bs ins):(bs.map (·.1)).Nodup:=by
 obtain⟨nm,G,h1,h2,_,rfl⟩:=h.nm
 rw[KD _ _ (by rw[h1.len];show h2)]
 show h1.nd.sublist (D3 _ _)
def mz.len {bs:ak}{ins:↥Str}(h:mz bs ins):↑bs<=2:=by
 obtain⟨nm,G,h1,h2,_,rfl⟩:=h.nm
 rw[List.length_zip]
 lia
def mz.sz {bs:ak}{ins:↥Str}(h:mz bs ins):∀b∈bs,1<=b.2/\b.2<=5:=λb hb=>by
 obtain⟨nm,I,h1,h2,G,rfl⟩:=h.nm
 show G _ (rN (a:=b.1) (b:=b.2) hb).2
def JP:Sp:=λvs H Q z=>∃(n:Int),vs=[.int n]/\0<=n/\∀(p B I:J) (H':Hp) (G:↥V) (bs:ak) (ins:↥Str),ag H H'->H' p=S (.tup [.ref B,.ref I])->H' B=S (.lst G)->Paired (eX H') G bs->H' I=S (.lst (ins.map V.str))->mz bs ins->Q (.ref p) H'
def zD:bE ["number","sizes","names","boxes","inputs"] ["number"] (aV Je):=bP
def acv {f:J}{fd:ba}(F:bq K "_law_boxes" "_law_boxes" Je f fd)(m_len:mg "len"=Z)(m_range:mg "range"=Z)(m_int:mg "int"=Z):aU P w K mg base bj 1 f fd ["number"] JP:=by
 show F.bZ zD λim A outer s H vs Q E hr h=>?_
 obtain⟨n,rfl,ZF,q⟩:=h
 show cK ⟨_,(ajH (ajT 1 zD.nd (ajG ajP (ajW (L (ajW (L ajF M)) (L (ajW (L ajF (L ajF M))) (L (ajW M) (L (ajW (L ajF M)) (L (ajW (L ajF (L ajF M))) (L (ajW (L ajF M)) (L (ajW (L ajF (L ajF M))) (L (ajW (L ajF M)) M))))))))) (ajJ ajY (Y 0) ajF)))
   (ajH (ajT 2 zD.nd (ajG ajP (ajW (L (ajW (L ajL (L ajL M))) (L (ajW (L ajL (L ajL M))) (L (ajW (L ajL (L ajL M))) M)))) (ajJ ajY (ajJ aki (Y 0) ajF) ajF)))
   (ajH (akv (i:=3) [Z,S 2,S 1] ["k","names","sizes"] (dq Je) U (akr U m_range (L (aj0 aj5 U m_len eE (L (Y 1) M)) M)) (λv v v v v=>⟨(ajK 0 (bM ["k","names","sizes"])),aj3,(ajO (L (ajG ajP (Y 1) (Y 0)) (L (ajG ajP (Y 2) (Y 0)) M)))⟩) zD.nd)
   (ajH (ajT 4 zD.nd (L3.JD (L3.JE (Y 2) (aj0 aj5 U m_len eE (L (Y 1) M))) (ajJ akd (ajJ ajY (ajJ aki (Y 0) ajF) ajF) (aka akA U m_int (by right) (L (akc akh (ajJ ajY (ajJ aki (Y 0) ajF) ajF) ajF) M)))))
   (ajI (ajN (ajO (L (Y 3) (L (L3.RX (Y 4) (ajJ aku ajF (ajJ akd ajF (ajJ ajY (ajJ aki (Y 0) ajF) ajF)))) M))))))))),?_⟩
 show⟨alJ,λHs Zm=>?_⟩
 obtain⟨A0,sA0,Xy,G⟩:=aT Zm (.lst [.int 2])
 rw[G];clear G
 show⟨alK,λHt Zn=>?_⟩
 obtain⟨A1,sA1,Xz,G⟩:=aT Zn (.lst [.int 2,.int 3])
 rw[G];clear G
 show⟨alI,λHw Zo=>?_⟩
 obtain⟨A2,sA2,XA,G⟩:=aT Zo (.lst [])
 rw[G];clear G
 show⟨alJ,λHI Zp=>?_⟩
 obtain⟨A3,sA3,XB,G⟩:=aT Zp (.lst [.int 3])
 rw[G];clear G
 show⟨alK,λHJ Zq=>?_⟩
 obtain⟨A4,sA4,XC,G⟩:=aT Zq (.lst [.int 2,.int 2])
 rw[G];clear G
 show⟨alJ,λHK Zr=>?_⟩
 obtain⟨A5,sA5,XD,G⟩:=aT Zr (.lst [.int 5])
 rw[G];clear G
 show⟨alK,λHL Zs=>?_⟩
 obtain⟨A6,sA6,XE,G⟩:=aT Zs (.lst [.int 1,.int 3])
 rw[G];clear G
 show⟨alJ,λHM Zt=>?_⟩
 obtain⟨A7,O,XF,G⟩:=aT Zt (.lst [.int 4])
 rw[G];clear G
 show⟨alP,λlAz Zu=>?_⟩
 obtain⟨Az,I,XG,G⟩:=aT Zu (.lst [.ref Hs,.ref Ht,.ref Hw,.ref HI,.ref HJ,.ref HK,.ref HL,.ref HM])
 rw[G];clear G
 have WY:=(I _ _ (O _ _ (sA6 _ _ (sA5 _ _ (sA4 _ _ (sA3 _ _ (sA2 _ _ (sA1 _ _ Xy))))))))
 have WZ:=(I _ _ (O _ _ (sA6 _ _ (sA5 _ _ (sA4 _ _ (sA3 _ _ (sA2 _ _ Xz)))))))
 have W0:=(I _ _ (O _ _ (sA6 _ _ (sA5 _ _ (sA4 _ _ (sA3 _ _ XA))))))
 have W2:=(I _ _ (O _ _ (sA6 _ _ (sA5 _ _ (sA4 _ _ XB)))))
 have W3:=(I _ _ (O _ _ (sA6 _ _ (sA5 _ _ XC))))
 have W4:=(I _ _ (O _ _ (sA6 _ _ XD)))
 have W5:=(I _ _ (O _ _ XE))
 have W6:=(I _ _ XF)
 have kA:ag H Az:=(ah (ah (ah (ah (ah (ah (ah (ah (ah (same_refl _) sA0) sA1) sA2) sA3) sA4) sA5) sA6) O) I)
 have pA:∃(sa:J) (re:↥Int),de ([.ref Hs,.ref Ht,.ref Hw,.ref HI,.ref HJ,.ref HK,.ref HL,.ref HM]:↥V) (n%8)=S (.ref sa)/\Az sa=S (.lst (re.map V.int))/\↑re<=2/\∀s∈re,(1:Int)<=s/\s<=5:=by
   rcases(show n%8=0\/n%8=1\/n%8=2\/n%8=3\/n%8=4\/n%8=5\/n%8=6\/n%8=7 by lia)with e|e|e|e|e|e|e|e<;>rw[e]
   . show⟨Hs,[2],U,WY,∅,∅⟩
   . show⟨Ht,[2,3],U,WZ,∅,∅⟩
   . show⟨Hw,[],U,W0,∅,∅⟩
   . show⟨HI,[3],U,W2,∅,∅⟩
   . show⟨HJ,[2,2],U,W3,∅,∅⟩
   . show⟨HK,[5],U,W4,∅,∅⟩
   . show⟨HL,[1,3],U,W5,∅,∅⟩
   . show⟨HM,[4],U,W6,∅,∅⟩
 obtain⟨sa,re,YI,qT,PP,hs5⟩:=pA
 show aa U (bF U U (by change(0:Int)<8;decide) (aX XG YI ⟨alK,λHN Zv=>?_⟩))
 obtain⟨B0,sB0,XH,G⟩:=aT Zv (.lst [.str "a",.str "ab"])
 rw[G];clear G
 show⟨alK,λHP Zw=>?_⟩
 obtain⟨B1,sB1,XI,G⟩:=aT Zw (.lst [.str "x",.str "a"])
 rw[G];clear G
 show⟨alK,λHQ Zx=>?_⟩
 obtain⟨B2,sB2,XJ,G⟩:=aT Zx (.lst [.str "boxes",.str "box"])
 rw[G];clear G
 show⟨alL,λlBz Zy=>?_⟩
 obtain⟨Bz,sBz,XM,G⟩:=aT Zy (.lst [.ref HN,.ref HP,.ref HQ])
 rw[G];clear G
 have W7:=(sBz _ _ (sB2 _ _ (sB1 _ _ XH)))
 have W8:=(sBz _ _ (sB2 _ _ XI))
 have W9:=(sBz _ _ XJ)
 have kB:ag Az Bz:=(ah (ah (ah (ah (same_refl _) sB0) sB1) sB2) sBz)
 have pB:∃(na:J) (nm:↥Str),de ([.ref HN,.ref HP,.ref HQ]:↥V) (n/8%3)=S (.ref na)/\Bz na=S (.lst (nm.map V.str))/\uZ nm:=by
   rcases(show n/8%3=0\/n/8%3=1\/n/8%3=2 by lia)with e|e|e<;>rw[e]
   . show⟨HN,["a","ab"],U,W7,.inl rfl⟩
   . show⟨HP,["x","a"],U,W8,.inr (.inl rfl)⟩
   . show⟨HQ,["boxes","box"],U,W9,.inr (.inr rfl)⟩
 obtain⟨na,nm,YJ,e8,yq⟩:=pB
 have d8:(8:Int)<2^1000:=by right
 have MU:(24:Int)<2^1000:=by right
 have Wq:(72:Int)<2^1000:=by right
 show aa U (aw U U ⟨⟨(by change(0:Int)<8;decide),d8⟩,bF U U (by change(0:Int)<3;decide) (aX XM YJ ?_)⟩)
 have qT:=kB _ _ qT
 have k0:=ah kA kB
 have PK:=yq.len
 have qO:↑(nm.zip re)=↑re:=by rw[List.length_zip];lia
 show aa U (aw U (.inl (af.of qT)) (aa U ⟨by rw[aA];lia,by rw[aA];lia,λnb fH=>?_⟩))
 rw[aA]
 show vj (lo:=0) (n:=((↑re:Nat):Int).toNat) (λi H2=>∃vb:↥V,ag Bz H2/\H2 nb=S (.lst vb)/\↑vb=i/\Paired (eX H2) vb ((nm.zip re).take i)) ⟨[],aH fH _,ai,U,.nil⟩ (λi H2 hi z=>?_) (λH2 z=>?_)
 . obtain⟨vb,s2,kH,gY,pb⟩:=z
   have lU:i<↑re:=⋯
   have kJ:i<↑nm:=⋯
   have e0:((0:Int)+(i:Int)).toNat=i:=⋯
   obtain⟨y,gy,_,YL⟩:=mF V.str nm (r:=0+(i:Int)) ⋯ ⋯
   obtain⟨z,gz,_,YM⟩:=mF V.int re (r:=0+(i:Int)) ⋯ ⋯
   rw[e0]at gy gz
   show bO (dW (A:=λH3=>cR _ nb _ H3 _) (aa U (aa U (aX (s2 _ _ e8) YL (aa U (aa U (aX (s2 _ _ qT) YM ⟨alK,λp2 bp=>⟨vb,?_,da ⋯,cO (Pv:=λi H2=>∃vb:↥V,ag Bz H2/\H2 nb=S (.lst vb)/\↑vb=i/\Paired (eX H2) vb ((nm.zip re).take i)) (by repeat' constructor) hi ?_⟩⟩)))))))
   . rw[aC (aR kH bp)];show kH
   . have vB:(upd H2 p2 (.tup [.str y,.int z])) nb=S (.lst vb):=by rw[aC (aR kH bp)];show kH
     have t4:TK H2 (upd (upd H2 p2 (.tup [.str y,.int z])) nb (.lst (vb++[.ref p2]))):=(bN bp _).trans (TK.lst vB)
     show⟨vb++[.ref p2],cD (bR s2 bp) fH,ai,by rw[cJ,gY];rfl,?_⟩
     have ez:(nm.zip re)[i]?=S (y,z):=by rw[Uz];show⟨gy,gz⟩
     rw[cV,ez]
     show Paired.snoc (Paired.bc pb λa b h=>Tp.keep t4 h) ⟨p2,U,by rw[aC (aR kH bp).symm];show ai⟩
 . obtain⟨vb,s2,kH,gY,pb⟩:=z
   rw[gE,← qO,cL]at pb
   have k2:=ah k0 s2
   have BF:=s2 _ _ e8
   have aag:=s2 _ _ qT
   show aa U (aa U (aw U (.inl (af.of aag)) (aa U (aw U (af.of BF) (λp3 yu=>?_)))))
   rw[aA,Bf,Wn]
   have cl:∀c:Bool,(-(2^64):Int)<(if c=true then 1 else 0)/\(if c=true then(1:Int)else 0)<2^64:=by left
   show aa U (aw U U ⟨⟨(by change(0:Int)<24;decide),MU⟩,bF U U (by change(0:Int)<3;decide) (aa U (aw U U ⟨⟨(by change(0:Int)<24;decide),MU⟩,bF U U (by change(0:Int)<3;decide) (aw U U (.inr (aa U (aw U U ⟨.inr (cl _),aa U (aw U (af.of ai) (λp4 jU=>?_))⟩))))⟩))⟩)
   rw[Bf]
   have sub:=(Wm (nm.take ↑re) (S (n/24%3*if decide (n/24%3<2)=true then 1 else 0)) Z)
   generalize lP (nm.take ↑re) (S (n/24%3*if decide (n/24%3<2)=true then 1 else 0)) Z=G7 at sub ⊢
   show aa U (aa U (aa U (aw U U ⟨⟨(by change(0:Int)<72;decide),Wq⟩,bF U U (by change(0:Int)<2;decide) (bF U U (.inl ⟨∅,∅⟩) (aw U U (aa U ⟨?_,aw U (af.of ai) (λp5 lX=>⟨alK,λp6 mO=>?_⟩)⟩)))⟩)))
   . have:=hJ (n/72) (show(2:Int)≠0 by left)
     have:=iz (n/72) (show(0:Int)<2 by left)
     lia
   have k6:=bR (o:=.tup [.ref nb,.ref p5]) (bR (o:=.lst (jI (1-2*(n/72%2)) (G7.map V.str))) (bR (o:=.lst (G7.map V.str)) (bR (o:=.lst ((nm.take ↑re).map V.str)) (same_refl H2) yu) jU) lX) mO
   show q p6 nb p5 _ vb (nm.zip re) (bT (1-2*(n/72%2)) G7) (ah k2 k6) ai (k6 _ _ kH) (Paired.bc pb λa b h=>Tp.keep (ag.tk k6) h) ?_ ⟨⟨nm,re,yq,PP,hs5,U⟩,?_,λx hx=>?_⟩
   . rw[aC (aR ai mO),ai,agY]
   . show Kg ((yq.nd.sublist (D3 _ _)).sublist sub)
   . rw[KD _ _ ⋯]
     show sub.mem (zH.mp hx)
def Wk {α:Type}(xs:List α)(m n:Nat):↑(lP xs (S (m:Int)) (S (n:Int)))<=n-m:=by
 unfold lP
 rw[HT.uh,HT.uh,cp]
 omega
abbrev CK:Stmt:=top 58
structure L7 (bs:ak)(ins:↥Str)(cr:↥Nd)(Ch:Int):Prop where
 bx:mz bs ins
 one:1<=↑cr
 cC:(↑cr:Int)<=Ch
 good:∀e∈cr,e.good (·∈bs.map (·.1)) ↑cr 5
def Se (K:av):Sp:=λvs H Q z=>∃(a:J) (I:↥Int) (G:Int),vs=[.ref a,.int G]/\af K H a (I.map V.int)/\0<G/\G<=100/\∀(v:V) (H':Hp) (bs:ak) (ins:↥Str) (cr:↥Nd),ag H H'->cu H' v bs ins cr->L7 bs ins cr G->Q v H'
def oA:bE ["script","most","head","boxes","inputs","names","cells","far","nodes","cell"] ["script","most"] (aV CK):=bP
def acX {f:J}{fd:ba}(F:bq K "_law_program" "_law_program" CK f fd)(m_len:mg "len"=Z)(m_range:mg "range"=Z)(CE:aP P w K mg base "_law_cell_at" ["script","k"] 1 (C4 K))(NU:aP P w K mg base "_law_numbers" ["cell","many","base"] 1 C9)
    (BX:aP P w K mg base "_law_boxes" ["number"] 1 JP) (ND:aP P w K mg base "_law_node" ["row","names","many"] 3 Sa):aU P w K mg base bj 4 f fd ["script","most"] (Se K):=by
 show F.bZ oA λim A outer s H vs Q E hr h=>?_
 obtain⟨a,ns,Ch,rfl,hS,mM,hm1,q⟩:=h
 have LO:=CE.mono (show 1<=3 by left)
 have LZ:=NU.mono (show 1<=3 by left)
 have UX:=BX.mono (show 1<=3 by left)
 show cK ⟨_,(ajH (ajT 2 oA.nd (ajR LZ hr U (L (ajR LO hr U (L (Y 0) (L ajF M))) (L ajF (L ajF M)))))
   (ajH (ako (ajR UX hr U (L (ajG ajP (Y 2) ajF) M)) (aj1 2 (ajQ (ajK 3 oA.nd) (ajQ (ajK 4 oA.nd) aj2))))
   (ajH (akv (i:=5) [Z,Z] ["name","size"] (dq CK) U (aj4 (Y 3)) (λu u u u u=>⟨(aj1 2 (ajQ (ajK 0 (bM ["name","size"])) (ajQ (ajK 1 (bM ["name","size"])) aj2))),aj3,(Y 0)⟩) oA.nd)
   (ajH (ajT 6 oA.nd (L3.RV (Y 0) ajF (ajJ aj7 ajF (Y 1))))
   (ajH (ajU (ajS (L3.za (m:=0) (cI hr _ ∅)) (Y 6) (ajW M)) (ajH (ajT 7 oA.nd (ajJ ajY (ajR LO hr U (L (Y 0) (L ajF M))) (ajJ akz ajF ajF)))
   (ajI (akv (i:=6) [Z,S 7] ["k","far"] (dq CK) U (akr U m_range (L (ajJ aj7 ajF (ajJ ajY (ajG ajP (Y 2) ajF) (Y 1))) M)) (λu u u u u=>⟨(ajK 0 (bM ["k","far"])),aj3,(ajJ aj7 (Y 1) (ajJ akd ajF (Y 0)))⟩) oA.nd))) ajV)
   (ajH (ajT 8 oA.nd (ajW M))
   (ajH (aj8 (aj4 (Y 6)) (ajK 9 oA.nd) (ajI (akb (akn (Y 8) (L (ajR ND hr U (L (ajR LZ hr U (L (Y 9) (L ajF (L ajF M)))) (L (Y 5) (L (aj0 aj5 U m_len eE (L (Y 6) M)) M)))) M)))))
   (ajI (ajN (ajO (L (Y 3) (L (Y 4) (L (Y 8) M))))))))))))),?_⟩
 show aa U ⟨a,ns,0,U,hS,zW _,λc=>⟨c,2,5040,U,∅,∅,∅,∅,λhd rc Zb hR=>?_⟩⟩
 obtain⟨H1,s1,h1,zz⟩:=aT Zb (.lst (rc.map V.int))
 rw[zz];clear zz
 obtain⟨x0,a0,Dx,Kv⟩:=hR.at (i:=0) ∅ ∅
 obtain⟨x1,a1,Kw,Kx⟩:=hR.at (i:=1) ∅ ∅
 show aa U (aX h1 a0 ⟨x0,U,Dx,λp B I H2 vb bs ins s2 hp hB pb hI Ff=>?_⟩)
 have k2:=ah s1 s2
 have gY:↑vb=↑bs:=Paired.length pb
 have kH:=Ff.len
 show gC hp (aa U (aL U ⟨_,af.of hB⟩ (λna e8=>?_)))
 have yU:B≠na:=aR hB e8
 show fT (xs:=vb) (λi H3=>H3=upd H2 na (.lst ((bs.take i).map λb=>V.str b.1))) rfl (λi H3 u e=>?_) (λi x H3 hx e=>?_) (λH3 e=>?_)
 . subst e
   show af.of (by rw[aC yU];show hB)
 . subst e
   obtain⟨b,dt,p,rfl,hp⟩:=Paired.get pb hx
   have bC:i<↑vb:=(bt hx)
   show gC (by rw[aC (aR hp e8)];show hp) (dW (A:=λH3=>cR (qh 0) na _ H3 _) (aa U ⟨_,ai,da (by rw[aA,cp];lia),cO (Pv:=λi H3=>H3=upd H2 na (.lst ((bs.take i).map λb=>V.str b.1))) (by repeat' constructor) bC ?_⟩))
   rw[kZ]
   congr 2
   rw[cV,dt,cq]
   rfl
 subst e
 have et:(bs.take ↑vb).map (λb=>V.str b.1)=(bs.map (·.1)).map V.str:=by rw[gY,cL,jK];rfl
 rw[et]
 obtain⟨H3,s3,e8,zz⟩:=aT e8 (.lst ((bs.map (·.1)).map V.str))
 rw[zz];clear zz
 have k3:=ah k2 s3
 have Yl:=ag.seq k3 hS
 have hB:=s3 _ _ hB
 have hI:=s3 _ _ hI
 have pb:Paired (eX H3) vb bs:=Paired.bc pb λa b h=>Tp.keep (ag.tk s3) h
 show aa U (aa U (aa U (aw U U (aa U ⟨a,aa U ⟨Yl,λce jj=>?_⟩⟩))))
 have e2:(2+Ch:Int)=((2+Ch.toNat:Nat):Int):=⋯
 rw[Bf]
 have MB:↑(lP ns (S 2) (S (2+Ch)))<=Ch.toNat:=by
   have:=Wk ns 2 (2+Ch.toNat)
   rw[← e2]at this
   show ck this ⋯
 generalize lP ns (S 2) (S (2+Ch))=cs at MB ⊢
 obtain⟨H4,s4,jj,zz⟩:=aT jj (.lst (cs.map V.int))
 rw[zz];clear zz
 show aL U alI (λlz qO=>?_)
 have s4:=ah s4 (aH qO (.lst []))
 have jj:=aH qO (.lst []) _ _ jj
 have hz:(upd H4 lz (.lst [])) lz=S (.lst []):=ai
 generalize upd H4 lz (.lst [])=H4 at s4 jj hz ⊢
 have k4:=ah k3 s4
 have e8:=s4 _ _ e8
 have hB:=s4 _ _ hB
 have hI:=s4 _ _ hI
 have pb:Paired (eX H4) vb bs:=Paired.bc pb λa b h=>Tp.keep (ag.tk s4) h
 show⟨_,RB.nil (af.of jj) (af.of hz),aa U (aG (λcc=>?_) (λcc=>?_))⟩
 . have Yf:=s4 _ _ (s3 _ _ (s2 _ _ h1))
   show aa U ⟨a,ns,0,U,ag.seq k4 hS,zW _,λc2=>(bF U U ⟨∅,∅,∅⟩ (aw U U ⟨(show(0:Int)<10^(17:Int).toNat by right),aa U (aX Yf a1 (aa U (aw U U ⟨mM,aw U U (aa U ⟨?_,?_,λBb YV=>?_⟩)⟩)))⟩))⟩
   . have:=hJ x1 (show Ch≠0 by lia);lia
   . have:=iz x1 mM;lia
   have hmn:=hJ x1 (show Ch≠0 by lia)
   have hml:=iz x1 mM
   show vj (lo:=0) (n:=(1+x1%Ch).toNat) (λi G=>∃cs:↥Int,G=upd H4 Bb (.lst (cs.map V.int))/\↑cs=i) ⟨[],U,U⟩ (λi G hi z=>?_) (λG z=>?_)
   . obtain⟨cs,rfl,nX⟩:=z
     show bO (dW (A:=λH3=>cR _ Bb _ H3 _) (aa U (aa U (bF U U (.inl ⟨∅,∅⟩) (aw U U ⟨_,ai,da (by rw[aA];lia),cO (Pv:=λi G=>∃cs:↥Int,G=upd H4 Bb (.lst (cs.map V.int))/\↑cs=i) (by repeat' constructor) hi ⟨cs++[c2%10^(17:Int).toNat+211*(0+(i:Int))],?_,by rw[cJ,nX];rfl⟩⟩)))))
     rw[kZ,cq]
     rfl
   . obtain⟨nQ,rfl,nX⟩:=z
     obtain⟨HH,s5,jj,zz⟩:=aT YV (.lst (nQ.map V.int))
     rw[zz];clear zz
     have Ra:=ah k4 s5
     have e8:=s5 _ _ e8
     have hB:=s5 _ _ hB
     have hI:=s5 _ _ hI
     have pb:Paired (eX HH) vb bs:=Paired.bc pb λa b h=>Tp.keep (ag.tk s5) h
     have kr:nQ≠[]:=λz=>by rw[z]at nX;simp at nX;lia
     have MB:↑nQ<=Ch.toNat:=⋯
     show⟨alI,λnb fH=>?_⟩
     have cl:0<↑nQ:=List.length_pos_iff.mpr kr
     have tL:(↑(nQ.map V.int):Int)=(↑nQ:Int):=by rw[aA]
     show aa U (aL U ⟨_,af.of (aH fH _ _ _ jj)⟩ (nS (xs:=nQ.map V.int) (λi σ G=>(∃cv,σ=[S (.ref a),S (.int Ch),S (.ref hd),S (.ref B),S (.ref I),S (.ref na),S (.ref Bb),S (.int (c2%10^(17:Int).toNat)),S (.ref nb),cv])/\∃(O:↥V) (cr:↥Nd),ag HH G/\G nb=S (.lst O)/\Paired (cB G) O cr/\↑cr=i/\∀e∈cr,e.good (·∈bs.map (·.1)) ↑nQ 5) ⟨⟨_,U⟩,[],[],aH fH _,ai,.nil,U,λe he=>nomatch he⟩ (λi σ G u z=>?_) (λi x σ G hx z=>?_) (λσ G z=>?_)))
     . obtain⟨_,O,cr,s5,_⟩:=z
       show af.of (s5 _ _ jj)
     . obtain⟨⟨cv,rfl⟩,O,cr,s5,pM,pn,eO,gd⟩:=z
       obtain⟨c3,vC,rfl⟩ : ∃c,nQ[i]?=S c/\x=V.int c:=by
         rw[eI]at hx
         obtain⟨y,h1,h2⟩:=Option.map_eq_some_iff.mp hx
         show⟨y,h1,h2.symm⟩
       have bC:i<↑nQ:=(bt vC)
       have OE:O.length=↑cr:=Paired.length pn
       show aa U ⟨.inl ⟨U,_,af.of pM⟩,aa U ⟨c3,7,720,U,∅,∅,∅,∅,λl rc hl hR=>?_⟩⟩
       have s6:=ah s5 (aH hl (.lst (rc.map V.int)))
       show aa U (aa U (aw U (.inl (af.of (s6 _ _ jj))) ⟨l,na,rc,7,bs.map (·.1),aa U ⟨ai,hR.mono ∅,aK _,s6 _ _ e8,by rw[aA];lia,by rw[tL];lia,by rw[tL];lia,λv H7 e s7 ea ge=>?_⟩⟩))
       rw[tL]at ge
       have tP:H7 nb=S (.lst O):=s7 _ _ (aH hl _ _ _ pM)
       show⟨nb,O,v,U,U,tP,da ⋯,⟨_,U⟩,?_⟩
       have t8:TK G (upd H7 nb (.lst (O++[v]))):=((bN hl _).trans (ag.tk s7)).trans (TK.lst tP)
       show⟨O++[v],cr++[e],cD (ah s6 s7) fH,ai,Paired.snoc (Paired.bc pn λa b h=>cB.keep t8 h) (cB.keep (TK.lst tP) ea),by rw[cJ,eO];rfl,λx hx=>?_⟩
       rcases eT hx with y|y
       . show gd x y
       . rw[dv y]
         show ge
     . obtain⟨⟨cv,rfl⟩,O,cr,s5,pM,pn,eO,gd⟩:=z
       rw[aA]at eO
       show aa U (aa U (aL U alL (λp9 yv=>?_)))
       have s9:=bR (o:=.tup [.ref B,.ref I,.ref nb]) s5 yv
       have zx:ag G (upd G p9 (.tup [.ref B,.ref I,.ref nb])):=aH yv _
       show q (.ref p9) _ bs ins cr (ah Ra s9) ⟨p9,B,I,nb,vb,O,U,ai,s9 _ _ hB,s9 _ _ hI,zx _ _ pM,Paired.bc pb λa b h=>Tp.keep (ag.tk s9) h,Paired.bc pn λa b h=>cB.keep (ag.tk zx) h⟩ ⟨Ff,⋯,⋯,by rw[eO];show gd⟩
 . have kr:cs≠[]:=λz=>cc (by rw[z];rfl)
   have Ra:=k4
   show⟨alI,λnb fH=>?_⟩
   have cl:0<↑cs:=List.length_pos_iff.mpr kr
   have tL:(↑(cs.map V.int):Int)=(↑cs:Int):=by rw[aA]
   show aa U (aL U ⟨_,af.of (aH fH _ _ _ jj)⟩ (nS (xs:=cs.map V.int) (λi σ G=>(∃cv,σ=[S (.ref a),S (.int Ch),S (.ref hd),S (.ref B),S (.ref I),S (.ref na),S (.ref ce),Z,S (.ref nb),cv])/\∃(O:↥V) (cr:↥Nd),ag H4 G/\G nb=S (.lst O)/\Paired (cB G) O cr/\↑cr=i/\∀e∈cr,e.good (·∈bs.map (·.1)) ↑cs 5) ⟨⟨_,U⟩,[],[],aH fH _,ai,.nil,U,λe he=>nomatch he⟩ (λi σ G u z=>?_) (λi x σ G hx z=>?_) (λσ G z=>?_)))
   . obtain⟨_,O,cr,s5,_⟩:=z
     show af.of (s5 _ _ jj)
   . obtain⟨⟨cv,rfl⟩,O,cr,s5,pM,pn,eO,gd⟩:=z
     obtain⟨c3,vC,rfl⟩ : ∃c,cs[i]?=S c/\x=V.int c:=by
       rw[eI]at hx
       obtain⟨y,h1,h2⟩:=Option.map_eq_some_iff.mp hx
       show⟨y,h1,h2.symm⟩
     have bC:i<↑cs:=(bt vC)
     have OE:O.length=↑cr:=Paired.length pn
     show aa U ⟨.inl ⟨U,_,af.of pM⟩,aa U ⟨c3,7,720,U,∅,∅,∅,∅,λl rc hl hR=>?_⟩⟩
     have s6:=ah s5 (aH hl (.lst (rc.map V.int)))
     show aa U (aa U (aw U (.inl (af.of (s6 _ _ jj))) ⟨l,na,rc,7,bs.map (·.1),aa U ⟨ai,hR.mono ∅,aK _,s6 _ _ e8,by rw[aA];lia,by rw[tL];lia,by rw[tL];lia,λv H7 e s7 ea ge=>?_⟩⟩))
     rw[tL]at ge
     have tP:H7 nb=S (.lst O):=s7 _ _ (aH hl _ _ _ pM)
     show⟨nb,O,v,U,U,tP,da ⋯,⟨_,U⟩,?_⟩
     have t8:TK G (upd H7 nb (.lst (O++[v]))):=((bN hl _).trans (ag.tk s7)).trans (TK.lst tP)
     show⟨O++[v],cr++[e],cD (ah s6 s7) fH,ai,Paired.snoc (Paired.bc pn λa b h=>cB.keep t8 h) (cB.keep (TK.lst tP) ea),by rw[cJ,eO];rfl,λx hx=>?_⟩
     rcases eT hx with y|y
     . show gd x y
     . rw[dv y]
       show ge
   . obtain⟨⟨cv,rfl⟩,O,cr,s5,pM,pn,eO,gd⟩:=z
     rw[aA]at eO
     show aa U (aa U (aL U alL (λp9 yv=>?_)))
     have s9:=bR (o:=.tup [.ref B,.ref I,.ref nb]) s5 yv
     have zx:ag G (upd G p9 (.tup [.ref B,.ref I,.ref nb])):=aH yv _
     show q (.ref p9) _ bs ins cr (ah k4 s9) ⟨p9,B,I,nb,vb,O,U,ai,s9 _ _ hB,s9 _ _ hI,zx _ _ pM,Paired.bc pb λa b h=>Tp.keep (ag.tk s9) h,Paired.bc pn λa b h=>cB.keep (ag.tk zx) h⟩ ⟨Ff,⋯,⋯,by rw[eO];show gd⟩
end
end TW
namespace TW
open PySem L2
structure AL (K:av)(x qual:Str)(st:Stmt)(dV:ae)(f:J)(fd:ba):Prop where
 ex:∃(oc:ae) (od:Option J) (kV doc pm:ae) (an:Option J) (im ct:ae) (ZB:Array (Option ae)),
   fd=lB x qual (mG st) (jg st) (aV st) dV kV doc pm an im ct/\K.lookup f=S ⟨oc,od,.func fd,ZB⟩/\xh K im qual=true
 kp:lC K (.ref f)=true
section
variable{P:bo}{w:aY}{K:av}{mg:Str->Option ae}{base:Heap}
def AL.ok {x qual:Str}{st:Stmt}{O:ae}{f:J}{fd:ba}{N ps:↥Str}{k:Nat}{sp:Sp}(F:AL K x qual st O f fd)(S8:bE N ps (aV st))(len:∀vs H Q E,sp vs H Q E->↑vs=↑ps)
   (Fa:∀(G:ae) (A:bD) (outer:↥Env) (s:aj) (H:Hp) (vs:↥V) (Q:VK) (E:XK),cX k (A.deeper (PyProof.Rows.envOfC qual (aV st) s.heap.objs.size f G))->sp vs H Q E ->
     ∃t,fR (gV bj P w K mg base N qual (aV st) f G A outer s H E).pX (jg st) t/\t {nx:=λz H'=>Q .aM H',rt:=Q} (start N vs) H):aU P w K mg base bj (k+1) f fd ps sp:=by
 obtain⟨oc,od,kV,doc,pm,an,G,ct,ZB,rfl,lk,wS⟩:=F.ex
 show FI lk wS S8 len λA outer s H vs Q E hr I=>?_
 obtain⟨t,h,q⟩:=Fa G A outer s H vs Q E hr I
 show⟨t,h.pX,q⟩
end
def ER (K:av)(mg:Str->Option ae)(x:Str)(st:Stmt)(d:Str):Prop:=
 ∃f fd T tk G I n O,AL K x x st (.ref T) f fd/\mg x=S (.ref f)/\K.lookup T=S ⟨G,I,.seq #[.str d tk] n,O⟩
def mC (K:av)(mg:Str->Option ae)(x:Str)(xs:↥Str):Prop:=∃t,mg x=S (.ref t)/\∀H:Hp,bQ K H t (xs.map V.str)
def V8 {K:av}{C:J}{cd:ClassData}{l:↥ae}(h:Ea K C=S cd)(m:cd.mro=l):Bd K C=S l:=by
 unfold Ea at h
 unfold Bd
 split at h
 . rename_i e
   cases h
   rw[e,← m]
 . cases h
structure AU (K:av)(mg:Str->Option ae)(T eN fE fD iJ iK iM iN iO iP iQ iS:J):Prop where
 t:Xc K mg "TwinError" T vE
 x_NoPair:Xc K mg "NoPair" eN (.ref T::vE)
 k_NoPair:sP K eN
 o_NoPair:Am K (.ref eN) [.ref iJ,.ref iK,.ref iM,.ref iN,.ref iO,.ref iP,.ref iQ,.ref iS]=S false
 v_NoPair:fZ K (.ref eN) (.type "ValueError")=S true
 i_NoPair_NoPair:fZ K (.ref eN) (.ref eN)=S true
 i_NoPair_NoWorths:fZ K (.ref eN) (.ref fE)=S false
 i_NoPair_NoProgram:fZ K (.ref eN) (.ref fD)=S false
 x_NoWorths:Xc K mg "NoWorths" fE (.ref T::vE)
 k_NoWorths:sP K fE
 o_NoWorths:Am K (.ref fE) [.ref iJ,.ref iK,.ref iM,.ref iN,.ref iO,.ref iP,.ref iQ,.ref iS]=S false
 v_NoWorths:fZ K (.ref fE) (.type "ValueError")=S true
 i_NoWorths_NoPair:fZ K (.ref fE) (.ref eN)=S false
 i_NoWorths_NoWorths:fZ K (.ref fE) (.ref fE)=S true
 i_NoWorths_NoProgram:fZ K (.ref fE) (.ref fD)=S false
 x_NoProgram:Xc K mg "NoProgram" fD (.ref T::vE)
 k_NoProgram:sP K fD
 o_NoProgram:Am K (.ref fD) [.ref iJ,.ref iK,.ref iM,.ref iN,.ref iO,.ref iP,.ref iQ,.ref iS]=S false
 v_NoProgram:fZ K (.ref fD) (.type "ValueError")=S true
 i_NoProgram_NoPair:fZ K (.ref fD) (.ref eN)=S false
 i_NoProgram_NoWorths:fZ K (.ref fD) (.ref fE)=S false
 i_NoProgram_NoProgram:fZ K (.ref fD) (.ref fD)=S true
 m_NoChange:mg "NoChange"=S (.ref iJ)
 m_NoForm:mg "NoForm"=S (.ref iK)
 m_NoNode:mg "NoNode"=S (.ref iM)
 m_NoPaper:mg "NoPaper"=S (.ref iN)
 m_NoPicks:mg "NoPicks"=S (.ref iO)
 m_NoRow:mg "NoRow"=S (.ref iP)
 m_NoneYet:mg "NoneYet"=S (.ref iQ)
 m_TooMany:mg "TooMany"=S (.ref iS)
def Dy {K:av}{h:Heap}{mg:Str->Option ae}{x:Str}{C:J}{cd:ClassData}{tl:↥ae}(X:K.In h)(G:h.Ns iC mg)(a:Ec K iC x=S (S (.ref C)))(e:Lo K C vE "ValueError.__new__"=true)(l:Ea K C=S cd)(m:cd.mro=.ref C::tl):Xc K mg x C tl:=⟨jL X G a,e,V8 l m⟩
def Ky {K:av}{C:J}{cd:ClassData}(I:lA K (.ref C) "__getattribute__"=S (S (.builtin "BaseException.__getattribute__")))(gn:lA K (.ref C) "__getattr__"=S Z)(ha:lA K (.ref C) "__class__"=S (S (.builtin "object.__class__")))(O:UP K (.builtin "object.__class__") "__get__"=S (S (.builtin "getset_descriptor.__get__")))(G:PySem.W.takesIn K (.builtin "object.__class__")=S true)(hm:Ls K C (.type "object")=S true)(hb:Ls K C (.type "BaseException")=S true)(l:Ea K C=S cd):sP K C:=⟨I,gn,ha,O,G,hm,hb,by rw[l];rfl⟩
def Dr {K:av}{h:Heap}{mg:Str->Option ae}{x:Str}{t:J}{I:Option J}{O:Array (Option ae)}{n:Nat}{us:Array ae}{xs:↥Str}(X:K.In h)(G:h.Ns iC mg)(a:Ec K iC x=S (S (.ref t)))(l:K.lookup t=S ⟨.type "tuple",I,.seq us n,O⟩)(b:us.size<=sizeLine)(e:↑us.toList=↑xs)(r:Vals (xs.map V.str) us.toList):mC K mg x xs:=⟨_,jL X G a,λz=>.inr ⟨_,_,_,l,rfl,rfl,b,r⟩⟩
def cy {K:av}{h:Heap}{mg:Str->Option ae}{x:Str}{st:Stmt}{I an:Option J}{O:Array (Option ae)}{oc kV dc pm cd ct:ae}{f:J}(X:K.In h)(G:h.Ns iC mg)(a:Ec K iC x=S (S (.ref f)))
   (l:K.lookup f=S ⟨oc,I,.func (lB x x (mG st) (jg st) (aV st) .none kV dc pm an cd ct),O⟩) (c:xh K cd x=true) (k:lC K (.ref f)=true):Src K mg x st:=⟨_,_,lR l c k,jL X G a⟩
def agU {K:av}{h:Heap}{mg:Str->Option ae}{x d:Str}{st:Stmt}{od an bw:Option J}{sl I:Array (Option ae)}{oc kV dc pm cd ct O:ae}{f T:J}{tk:Tok}{nT:Nat}(X:K.In h)(G:h.Ns iC mg)(a:Ec K iC x=S (S (.ref f)))
   (l:K.lookup f=S ⟨oc,od,.func (lB x x (mG st) (jg st) (aV st) (.ref T) kV dc pm an cd ct),sl⟩) (c:xh K cd x=true) (k:lC K (.ref f)=true) (lT:K.lookup T=S ⟨O,bw,.seq #[.str d tk] nT,I⟩):ER K mg x st d:=⟨_,_,_,_,_,_,_,_,⟨⟨_,_,_,_,_,_,_,_,_,rfl,l,c⟩,k⟩,jL X G a,lT⟩
def V7 (s:Stmt):↥Stmt:=match s with
 | .ClassDef _ _ _ b _ _ _ _ _ _ _=>b
 | _=>[]
def dJ (i j:Nat):Stmt:=(V7 (top i)).getD j (.Pass ⟨0,0,0,0⟩)
def qC (K:av)(C:J):↥Str->Prop
 | []=>True
 | f::fs=>jP K C f/\qC K C fs
theorem qC.get {K:av}{C:J}:∀{fs:↥Str} {f:Str},qC K C fs->f∈fs->jP K C f
 | g::fs,f,h,hf=>by
   rcases dG hf with rfl|hf
   . show h.1
   . show qC.get h.2 hf
structure uR (K:av)(mg:Str->Option ae)(x:Str)(C:J)(fs:↥Str):Prop where
 m:mg x=S (.ref C)
 c:fB K C
 na:qC K C fs
def EA (K:av)(C:J)(q:Str)(st:Stmt):Prop:=∃f fd,bq K "__init__" q st f fd/\Mk K C f
def qB (K:av)(C:J)(x q:Str)(st:Stmt):Prop:=∃f fd,bq K x q st f fd/\Meth K C x f
structure L9 (K:av)(mg:Str->Option ae):Prop where
 s_all_known:Src K mg "all_known" (top 16)
 s_refuse_worths:Src K mg "refuse_worths" (top 17)
 s_box_sizes:Src K mg "box_sizes" (top 18)
 s_worth_by:Src K mg "worth_by" (top 20)
 s_holds_by:Src K mg "holds_by" (top 21)
 s_step_at:Src K mg "step_at" (top 23)
 s_worths_put:Src K mg "worths_put" (top 24)
 s_input_sizes:Src K mg "input_sizes" (top 25)
 s_beginning_of:Src K mg "beginning_of" (top 26)
 s_every_input:Src K mg "every_input" (top 27)
 s_every_worths:Src K mg "every_worths" (top 28)
 s_refuse_no_pair:Src K mg "refuse_no_pair" (top 30)
 s_worths_along:Src K mg "worths_along" (top 36)
 s_rows_where:Src K mg "rows_where" (top 37)
 s_rows_without:Src K mg "rows_without" (top 38)
 s_rows_counted:Src K mg "rows_counted" (top 39)
 s_told_by_places:Src K mg "told_by_places" (top 40)
 s_worths_by_places:Src K mg "worths_by_places" (top 41)
 s_entry_fits:Src K mg "entry_fits" (top 42)
 s_turn_fits:Src K mg "turn_fits" (top 43)
 s_entry_well:Src K mg "entry_well" (top 45)
 s_begins_well:Src K mg "begins_well" (top 46)
 s_all_fit:Src K mg "all_fit" (top 47)
 s_all_well:Src K mg "all_well" (top 48)
 s_paper_shows:Src K mg "paper_shows" (top 49)
 s_entry_worths:Src K mg "entry_worths" (top 50)
 s_law_cell_at:Src K mg "_law_cell_at" (top 52)
 s_law_numbers:Src K mg "_law_numbers" (top 53)
 s_law_sum:Src K mg "_law_sum" (top 54)
 s_law_condition:Src K mg "_law_condition" (top 55)
 s_law_node:Src K mg "_law_node" (top 56)
 s_law_boxes:Src K mg "_law_boxes" (top 57)
 s_law_program:Src K mg "_law_program" (top 58)
 s_law_renamed:Src K mg "_law_renamed" (top 59)
 s_law_node_as:Src K mg "_law_node_as" (top 60)
 s_law_made_over:Src K mg "_law_made_over" (top 61)
 s_law_skip:Src K mg "_law_skip" (top 62)
 s_law_all_same:Src K mg "_law_all_same" (top 63)
 s_law_good_paper:Src K mg "_law_good_paper" (top 64)
 s_law_copied:Src K mg "_law_copied" (top 65)
 s_law_kinds:Src K mg "_law_kinds" (top 66)
 s_law_refused:Src K mg "_law_refused" (top 67)
 s_law_entry:Src K mg "_law_entry" (top 68)
 s_law_strangers:Src K mg "_law_strangers" (top 69)
 s_law:Src K mg "law" (top 70)
 s_known_worths:ER K mg "known_worths" (top 19) "box"
 c_PARTED:mC K mg "PARTED" ["plus","less","same","under","not","both"]
 c_NAMELESS:mC K mg "NAMELESS" ["number","yes"]
 c_TURNS:mC K mg "TURNS" ["mine","yours","both","end"]
 c_QUIET:mC K mg "QUIET" ["put","test"]
 k_Side:∃C,uR K mg "Side" C ["program","worths","numbers","steps","stays"]/\EA K C "Side.__init__" (dJ 34 0)/\qB K C "number_of" "Side.number_of" (dJ 34 1)/\qB K C "kind_at" "Side.kind_at" (dJ 34 2)/\qB K C "steps_at" "Side.steps_at" (dJ 34 3)/\qB K C "stays_at" "Side.stays_at" (dJ 34 4)
 k_Ground:∃C,uR K mg "Ground" C ["mine","yours","width","rows","columns"]/\EA K C "Ground.__init__" (dJ 35 0)/\qB K C "row_of" "Ground.row_of" (dJ 35 1)/\qB K C "worths_of" "Ground.worths_of" (dJ 35 2)/\qB K C "beginnings" "Ground.beginnings" (dJ 35 3)
 k_Turn:∃C,uR K mg "Turn" C ["width","waits","here","alone","first","second"]/\EA K C "Turn.__init__" (dJ 44 0)/\qB K C "behind" "Turn.behind" (dJ 44 1)
 cl:∃T eN fE fD iJ iK iM iN iO iP iQ iS,AU K mg T eN fE fD iJ iK iM iN iO iP iQ iS
 m_len:mg "len"=Z
 m_list:mg "list"=Z
 m_range:mg "range"=Z
 m_zip:mg "zip"=Z
 m_dict:mg "dict"=Z
 m_int:mg "int"=Z
 m_isinstance:mg "isinstance"=Z
 m_bool:mg "bool"=Z
 m_set:mg "set"=Z
 m_tuple:mg "tuple"=Z
 m_enumerate:mg "enumerate"=Z
 m_all:mg "all"=Z
 m_ValueError:mg "ValueError"=Z
end TW
namespace TW
open PySem L2
section
variable{P:bo}{w:aY}{K:av}{mg:Str->Option ae}{base:Heap}
abbrev Jr:Stmt:=top 20
def qA (H:Hp)(a:J)(P:Str->Str->Prop)(W:Str->Str->Int):Prop:=∃kvs,H a=S (.dT kvs)/\∀t x,P t x->bu kvs [.inr t,.inr x]=S (.int (W t x))
def EY (P:Str->Str->Prop):Prop:=∀t x,P t x->t="box"\/t="mine"\/t="yours"
def oC (n:Nat):Sp:=λvs H Q z=>∃(a:J) (v:V) (e:E) (G:Str->Str->Prop) (W:Str->Str->Int),vs=[.ref a,v]/\qA H a G W/\EY G/\bL H v e/\e.dP/\e.okIn G/\e.dep<n/\Q (.int (e.worth W)) H
def agz:bE ["known","sum_told"] ["known","sum_told"] (aV Jr):=bP
def adk {n:Nat}{f:J}{fd:ba}(F:bq K "worth_by" "worth_by" Jr f fd)(G:aP P w K mg base "worth_by" ["known","sum_told"] (n+1) (oC n)) :
    aU P w K mg base bj (n+2) f fd ["known","sum_told"] (oC (n+1)):=by
 show F.bZ agz λim A outer s H vs Q E O h=>?_
 obtain⟨a,v,e,Pb,W,rfl,kn,tg,ev,es,ok,hd,q⟩:=h
 show⟨_,akf (ajH (ajU (ajS ajZ (ajG ajM (Y 1) ajF) ajL) (ajI (ajN (ajG ajM (Y 1) ajF))) ajV)
   (ajH (ajU (ajS ajZ (ajG ajM (Y 1) ajF) ajL) (ajI (ajN (ajJ aj7 (ajR G O U (L (Y 0) (L (ajG ajM (Y 1) ajF) M))) (ajR G O U (L (Y 0) (L (ajG ajM (Y 1) ajF) M)))))) ajV)
   (ajH (ajU (ajS ajZ (ajG ajM (Y 1) ajF) ajL) (ajI (ajN (ajJ aku (ajR G O U (L (Y 0) (L (ajG ajM (Y 1) ajF) M))) (ajR G O U (L (Y 0) (L (ajG ajM (Y 1) ajF) M)))))) ajV)
   (ajI (ajN (akk (cI O _ ∅) (Y 0) (Y 1))))))),?_⟩
 cases e with
 | num m=>
   obtain⟨p,rfl,I⟩:=ev
   show aa U (aF I U (aN U U (aG (λu=>?_) (λc=>ao (bS rfl) c))))
   show aa U (aF I U q)
 | box t x=>
   obtain⟨p,rfl,I⟩:=ev
   obtain⟨kvs,hk,hv⟩:=kn
   have ht:=tg t x ok
   show aa U (aF I U (aN U U (aG (λc=>?_) (λu=>?_))))
   . have:=bw c
     injection this with z
     subst z
     show ao ht ∅
   show aa U (aF I U (aN U U (aG (λc=>?_) (λu=>?_))))
   . have:=bw c
     injection this with z
     subst z
     show ao ht ∅
   show aa U (aF I U (aN U U (aG (λc=>?_) (λu=>?_))))
   . have:=bw c
     injection this with z
     subst z
     show ao ht ∅
   show aa U (aa U ⟨a,aa U ⟨?_,q⟩⟩)
   have g:=dN.t (k:=[.inr t,.inr x]) hk I
   rw[hv t x ok]at g
   show g
 | yes=>show es.elim
 | nt a=>show es.elim
 | two k e1 e2=>
   obtain⟨x,y,⟨p,rfl,I⟩,ax,ay⟩:=ev
   have iV:max e1.dep e2.dep+1<n+1:=hd
   cases k with
   | plus=>
     show aa U (aF I U (aN U U (aG (λc=>ao (bw c) ∅) (λu=>aa U (aF I U (aN U U (aG (λu=>?_) (λc=>ao (bS rfl) c))))))))
     show aa U (aa U (aF I U ⟨a,x,e1,Pb,W,U,kn,tg,ax,es.1,ok.1,⋯,aa U (aa U (aF I U ⟨a,y,e2,Pb,W,U,kn,tg,ay,es.2,ok.2,⋯,aw U U q⟩))⟩))
   | less=>
     show aa U (aF I U (aN U U (aG (λc=>ao (bw c) ∅) (λu=>aa U (aF I U (aN U U (aG (λc=>ao (bw c) ∅) (λu=>aa U (aF I U (aN U U (aG (λu=>?_) (λc=>ao (bS rfl) c))))))))))))
     show aa U (aa U (aF I U ⟨a,x,e1,Pb,W,U,kn,tg,ax,es.1,ok.1,⋯,aa U (aa U (aF I U ⟨a,y,e2,Pb,W,U,kn,tg,ay,es.2,ok.2,⋯,aw U U q⟩))⟩))
   | same=>show es.elim
   | under=>show es.elim
   | both=>show es.elim
def abT {f:J}{fd:ba}:aU P w K mg base bj 1 f fd ["known","sum_told"] (oC 0):=by
 have no:∀vs H Q E,¬ oC 0 vs H Q E:=λvs H Q E h=>by
   obtain⟨_,_,_,_,_,_,_,_,_,_,_,h1,_⟩:=h
   lia
 show⟨λvs H Q E h=>ao h (no vs H Q E),λA outer s H args us vs Q E z z z z h=>ao h (no vs H Q E)⟩
def YE (s:Src K mg "worth_by" Jr):∀n:Nat,aP P w K mg base "worth_by" ["known","sum_told"] (n+1) (oC n):=by
 obtain⟨f,fd,F,m⟩:=s
 have b:Binds K fd ["known","sum_told"] []:=je F λz z z z z z z z=>rfl
 intro n
 have all:aU P w K mg base bj (n+1) f fd ["known","sum_told"] (oC n):=by
   induction n with
   | zero=>show abT
   | succ n G=>show adk F ⟨f,fd,G,F.kp,b,m⟩
 show⟨f,fd,all,F.kp,b,m⟩
def qA.same {H H':Hp}{a:J}{G:Str->Str->Prop}{W:Str->Str->Int}(h:qA H a G W)(s:ag H H'):qA H' a G W:=by obtain⟨kvs,e,v⟩:=h;show⟨kvs,s _ _ e,v⟩
def bL.same {H H':Hp}{v:V}{e:E}(h:bL H v e)(s:ag H H'):bL H' v e:=bL.keep (ag.tk s) h
abbrev I9:Stmt:=top 16
def E.dR (f:Str->Str->Bool):E->Bool
 | .num _=>true|.box t x=>f t x|.yes=>true|.nt a=>a.dR f|.two _ a b=>a.dR f&&b.dR f
def fW (kvs:↥(↥Key×V))(t x:Str):Bool:=(bu kvs [.inr t,.inr x]).isSome
abbrev mq:Str->Str->Prop:=λt _=>t="box"\/t="mine"\/t="yours"
def rn (n:Nat):Sp:=λvs H Q z=>∃(a:J) (v:V) (e:E) (kvs:↥(↥Key×V)),vs=[.ref a,v]/\H a=S (.dT kvs)/\bL H v e/\e.okIn mq/\e.dep<n/\∀H',ag H H'->Q (.bl (e.dR (fW kvs))) H'
def Ry:bE ["known","told","part"] ["known","told"] (aV I9):=bP
def acL {n:Nat}{f:J}{fd:ba}(F:bq K "all_known" "all_known" I9 f fd)(N:mC K mg "NAMELESS" ["number","yes"])(PT:mC K mg "PARTED" ["plus","less","same","under","not","both"])
    (G:aP P w K mg base "all_known" ["known","told"] (n+1) (rn n)):aU P w K mg base bj (n+2) f fd ["known","told"] (rn (n+1)):=by
 obtain⟨tn,mN,cN⟩:=N
 obtain⟨tp,mP,cP⟩:=PT
 show F.bZ Ry λim A outer s H vs Q E hr h=>?_
 obtain⟨a,v,e,kvs,rfl,hk,ev,ok,hd,q⟩:=h
 show⟨_,akf (ajH (ajU (ajS akt (ajG ajM (Y 1) ajF) (ake (w:=.ref tn) U mN rfl) U) (ajI (ajN aj9)) ajV)
   (ajH (ajU (ajS L3.Iq (ajG ajM (Y 1) ajF) (ake (w:=.ref tp) U mP rfl) U) (ajI (ajN (L3.WA (cI hr _ ∅) (Y 1) (Y 0)))) ajV)
   (ajH (aj8 (L3.iT (L3.agK (Y 1) ajF)) (ajK 2 Ry.nd) (ajI (ajU (akw (akp (ajR G hr U (L (Y 0) (L (Y 2) M))))) (ajI (ajN aj9)) ajV)))
   (ajI (ajN aj9))))),?_⟩
 cases e with
 | num m=>
   obtain⟨p,rfl,O⟩:=ev
   show aa U (aF O U ⟨tn,aa U ⟨.inr (cN _),U,aN U U ?_⟩⟩)
   show aG (λu=>?_) (λc=>ao (show iX (.str "number") _=true by left) c)
   show q _ (same_refl _)
 | yes=>
   obtain⟨p,rfl,O⟩:=ev
   show aa U (aF O U ⟨tn,aa U ⟨.inr (cN _),U,aN U U ?_⟩⟩)
   show aG (λu=>?_) (λc=>ao (show iX (.str "yes") _=true by left) c)
   show q _ (same_refl _)
 | box t x=>
   obtain⟨p,rfl,O⟩:=ev
   have ht:t="box"\/t="mine"\/t="yours":=ok
   have g:=dN.t (k:=[.inr t,.inr x]) hk O
   show aa U (aF O U ⟨tn,aa U ⟨.inr (cN _),U,aN U U (aG (λc=>ao c (by rcases ht with rfl|rfl|rfl<;>decide)) (λu=>aa U (aF O U ⟨tp,aa U ⟨.inr (cP _),U,aN U U ?_⟩⟩)))⟩⟩)
   show aG (λu=>?_) (λc=>ao (show(!iX (.str t) _)=true by rcases ht with rfl|rfl|rfl<;>decide) c)
   show aa U (aa U ⟨a,aa U ⟨g,q _ (same_refl _)⟩⟩)
 | nt I=>
   obtain⟨x,⟨p,rfl,O⟩,ax⟩:=ev
   have iV:I.dep+1<n+1:=hd
   have dU:I.okIn mq:=ok
   show aa U (aF O U ⟨tn,aa U ⟨.inr (cN _),U,aN U U (aG (λc=>ao c ∅) (λu=>aa U (aF O U ⟨tp,aa U ⟨.inr (cP _),U,aN U U (aG (λc=>ao c ∅) (λu=>?_))⟩⟩)))⟩⟩)
   show aa U (aa U (aw U (bQ.of O) ⟨(λz=>ao z.1 (show ¬ HT.bH 2 0 (S 1)=0 by left)),λl hl=>⟨l,U,⟨_,bQ.of ai⟩,Nl (xs:=[x]) (λi σ H2=>(∃pv,σ=[S (.ref a),S (.ref p),pv])/\ag (upd H l (.tup [x])) H2/\(1<=i->I.dR (fW kvs)=true)) ⟨⟨_,U⟩,same_refl _,λz=>ao z ∅⟩ (λi σ H2 u z=>bQ.of (z.2.1 _ _ ai)) (λi x0 σ H2 hx z=>?_) (λσ H2 z=>?_)⟩⟩))
   . obtain⟨⟨pv,rfl⟩,z,_⟩:=z
     have s2:=ah (aH hl _) z
     have qW:x0=x:=by
       match i,hx with
       | 0,hx=>show(dX hx).symm
     subst qW
     show aa U (aa U ⟨a,x0,I,kvs,U,s2 _ _ hk,ax.same s2,dU,⋯,λH3 s3=>(aa U (aG (λc=>?_) (λc=>?_)))⟩)
     . have c':I.dR (fW kvs)=false:=by cases zz:I.dR (fW kvs)<;>simp_all
       have q':=q H3 (ah s2 s3)
       rw[show(TW.E.nt I).dR (fW kvs)=false from c']at q'
       show q'
     . have c':I.dR (fW kvs)=true:=by cases zz:I.dR (fW kvs)<;>simp_all
       show⟨⟨_,U⟩,ah z s3,λu=>c'⟩
   . have q':=q H2 (ah (aH hl _) z.2.1)
     rw[show(TW.E.nt I).dR (fW kvs)=true from z.2.2 (by change 1<=1;decide)]at q'
     show q'
 | two k I e2=>
   obtain⟨x,y,⟨p,rfl,O⟩,ax,ay⟩:=ev
   have iV:max I.dep e2.dep+1<n+1:=hd
   have dU:I.okIn mq:=ok.1
   have om:e2.okIn mq:=ok.2
   show aa U (aF O U ⟨tn,aa U ⟨.inr (cN _),U,aN U U (aG (λc=>ao c (by cases k<;>decide)) (λu=>aa U (aF O U ⟨tp,aa U ⟨.inr (cP _),U,aN U U (aG (λc=>ao c (by cases k<;>decide)) (λu=>?_))⟩⟩)))⟩⟩)
   show aa U (aa U (aw U (bQ.of O) ⟨(λz=>ao z.1 (show ¬ HT.bH 3 0 (S 1)=0 by left)),λl hl=>⟨l,U,⟨_,bQ.of ai⟩,Nl (xs:=[x,y]) (λi σ H2=>(∃pv,σ=[S (.ref a),S (.ref p),pv])/\ag (upd H l (.tup [x,y])) H2/\(1<=i->I.dR (fW kvs)=true)/\(2<=i->e2.dR (fW kvs)=true)) ⟨⟨_,U⟩,same_refl _,(λz=>ao z ∅),λz=>ao z ∅⟩ (λi σ H2 u z=>bQ.of (z.2.1 _ _ ai)) (λi x0 σ H2 hx z=>?_) (λσ H2 z=>?_)⟩⟩))
   . obtain⟨⟨pv,rfl⟩,z,z1,z2⟩:=z
     have s2:=ah (aH hl _) z
     have qW:∃e0,bL H x0 e0/\e0.okIn mq/\e0.dep<n/\(e0.dR (fW kvs)=false->(TW.E.two k I e2).dR (fW kvs)=false)/\(e0.dR (fW kvs)=true->(1<=i+1->I.dR (fW kvs)=true)/\(2<=i+1->e2.dR (fW kvs)=true)):=by
       match i,hx,z1 with
       | 0,hx,_=>show⟨I,(dX hx)▸ax,dU,⋯,λc=>by change(I.dR _&&e2.dR _)=false;rw[c];rfl,λc=>⟨λu=>c,λz=>ao z ∅⟩⟩
       | 1,hx,z1=>show⟨e2,(dX hx)▸ay,om,⋯,λc=>by change(I.dR _&&e2.dR _)=false;rw[c,zS],λc=>⟨λu=>z1 ∅,λu=>c⟩⟩
     obtain⟨e0,a0,o0,d0,f0,t0⟩:=qW
     show aa U (aa U ⟨a,x0,e0,kvs,U,s2 _ _ hk,a0.same s2,o0,d0,λH3 s3=>(aa U (aG (λc=>?_) (λc=>?_)))⟩)
     . have c':e0.dR (fW kvs)=false:=by cases zz:e0.dR (fW kvs)<;>simp_all
       have q':=q H3 (ah s2 s3)
       rw[f0 c']at q'
       show q'
     . have c':e0.dR (fW kvs)=true:=by cases zz:e0.dR (fW kvs)<;>simp_all
       show⟨⟨_,U⟩,ah z s3,t0 c'⟩
   . have q':=q H2 (ah (aH hl _) z.2.1)
     rw[show(TW.E.two k I e2).dR (fW kvs)=true by change(I.dR _&&e2.dR _)=true;rw[z.2.2.1 (by change 1<=2;decide),z.2.2.2 (by change 2<=2;decide)];rfl]at q'
     show q'
def abP {f:J}{fd:ba}:aU P w K mg base bj 1 f fd ["known","told"] (rn 0):=by
 have no:∀vs H Q E,¬ rn 0 vs H Q E:=λvs H Q E h=>by
   obtain⟨_,_,_,_,_,_,_,_,h1,_⟩:=h
   lia
 show⟨λvs H Q E h=>ao h (no vs H Q E),λA outer s H args us vs Q E z z z z h=>ao h (no vs H Q E)⟩
def Yx (s:Src K mg "all_known" I9)(N:mC K mg "NAMELESS" ["number","yes"])(PT:mC K mg "PARTED" ["plus","less","same","under","not","both"]):∀n:Nat,aP P w K mg base "all_known" ["known","told"] (n+1) (rn n):=by
 obtain⟨f,fd,F,m⟩:=s
 have b:Binds K fd ["known","told"] []:=je F λz z z z z z z z=>rfl
 intro n
 have all:aU P w K mg base bj (n+1) f fd ["known","told"] (rn n):=by
   induction n with
   | zero=>show abP
   | succ n G=>show acL F N PT ⟨f,fd,G,F.kp,b,m⟩
 show⟨f,fd,all,F.kp,b,m⟩
theorem BZ {f:Str->Str->Bool}{G:Str->Str->Prop}(h:∀t x,f t x=true↔G t x):∀e:E,e.okIn mq->(e.dR f=true↔e.okIn G)
 | .num _,o=>⟨λz=>o,λz=>rfl⟩
 | .box t x,_=>h t x
 | .yes,_=>⟨λz=>bK,λz=>rfl⟩
 | .nt a,o=>BZ h a o
 | .two _ a b,o=>by
   change(a.dR f&&b.dR f)=true↔_
   rw[j8,BZ h a o.1,BZ h b o.2]
   rfl
abbrev Rn:Stmt:=top 17
def Paired.Nw {α β:Type}{F:α->β->Prop}{l₁:List α}{l₂:List β}{i:Nat}{x:α}{y:β}(h:Paired F l₁ l₂)(G:l₁[i]?=S x)(I:l₂[i]?=S y):F x y:=by
 obtain⟨z,h1,h2⟩:=Paired.get h G
 rw[I]at h1
 cases h1
 show h2
def eh {α β:Type}{f:α->β}{l:List α}{i:Nat}{y:β}(h:(l.map f)[i]?=S y):∃x,l[i]?=S x/\y=f x:=by
 rw[eI]at h
 obtain⟨x,h1,h2⟩:=Option.map_eq_some_iff.mp h
 show⟨x,h1,h2.symm⟩
def Within (s w:Int):Prop:=0<=w/\w<s
def J2:Sp:=λvs H Q z=>∃(G I:J) (O ws:↥Int),vs=[.ref G,.ref I]/\H G=S (.lst (O.map V.int))/\H I=S (.lst (ws.map V.int))/\Paired Within O ws/\∀H',ag H H'->Q .aM H'
def Jx:bE ["sizes","worths","size","worth"] ["sizes","worths"] (aV Rn):=bP
def ac1 {f:J}{fd:ba}(F:bq K "refuse_worths" "refuse_worths" Rn f fd)(G:mg "len"=Z)(I:mg "zip"=Z):aU P w K mg base bj 1 f fd ["sizes","worths"] J2:=by
 show F.bZ Jx λim A outer s H vs Q E hr h=>?_
 obtain⟨sa,wa,O,ws,rfl,hs,hw,pw,q⟩:=h
 show⟨_,akf (ajH (ajU (ajS L3.Ip (aj0 aj5 U G eE (L (Y 1) M)) (aj0 aj5 U G eE (L (Y 0) M))) L3.never ajV)
   (ajI (aj8 (akx U I (L (Y 0) (L (Y 1) M))) (aj1 2 (ajQ (ajK 2 Jx.nd) (ajQ (ajK 3 Jx.nd) aj2))) (ajI (ajU (akm (akj (ajS akh (Y 3) ajF) (aks (ajS L3.zb (Y 3) (Y 2))))) L3.never ajV))))),?_⟩
 have hl:O.length=↑ws:=Paired.length pw
 have vL:↑(O.map V.int)=↑(ws.map V.int):=by rw[aA,aA];show hl
 show aa U (aw U (.inl (af.of hw)) (aa U (aw U (.inl (af.of hs)) (aN U U (aG (λc=>?_) (λv=>?_))))))
 . rw[vL,bS rfl]at c
   show ao c ∅
 show aa U (aa U ⟨sa,aL U ⟨_,af.of hs⟩ ⟨⟨_,af.of hw⟩,FK (xs:=O.map V.int) (ys:=ws.map V.int) vL (λi σ H2=>(∃v1 v2,σ=[S (.ref sa),S (.ref wa),v1,v2])/\ag H H2) ⟨⟨_,_,U⟩,same_refl _⟩ (λi σ H2 v z=>⟨af.of (z.2 _ _ hs),af.of (z.2 _ _ hw)⟩) (λi x y p σ H2 hx hy z hp=>?_) (λσ H2 z=>?_)⟩⟩)
 . obtain⟨⟨v1,v2,rfl⟩,z⟩:=z
   obtain⟨s0,e1,rfl⟩:=eh hx
   obtain⟨w0,e2,rfl⟩:=eh hy
   obtain⟨g0,g1⟩:=Paired.Nw pw e1 e2
   show gC ai (aa U (aw U U (aa U (aG (λc=>ao (bw c) ⋯) (λv=>aa U (aa U (aw U U (aa U (aG (λc=>ao (bw c) ⋯) (λv=>⟨⟨_,_,U⟩,ah z (aH hp _)⟩))))))))))
 . show q _ z.2
def jN (H:Hp)(v:V)(bs:ak):Prop:=∃p B I N G,v=.ref p/\H p=S (.tup [.ref B,I,N])/\H B=S (.lst G)/\Paired (eX H) G bs
def jN.same {H H':Hp}{v:V}{bs:ak}(h:jN H v bs)(s:ag H H'):jN H' v bs:=
 let⟨p,B,I,N,G,e,h1,h2,O⟩:=h;⟨p,B,I,N,G,e,s _ _ h1,s _ _ h2,Paired.bc O λy y z=>Tp.keep (ag.tk s) z⟩
abbrev CH:Stmt:=top 19
def b7:ak->↥Int->Str->Int
 | b::bs,w::ws,x=>if b.1=x then w else b7 bs ws x
 | _,_,_=>0
def i4 (G:Str):ak->↥Int->↥(↥Key×V)
 | b::bs,w::ws=>([.inr G,.inr b.1],.int w)::i4 G bs ws
 | _,_=>[]
theorem OT (G:Str):∀(bs:ak) (ws:↥Int),↑(i4 G bs ws)<=↑bs
 | [],_=>by simp[i4]
 | _::_,[]=>by simp[i4]
 | _::bs,_::ws=>by simp[i4];show OT G bs ws
theorem BY (G:Str):∀(bs:ak) (ws:↥Int) (x:Str),↑bs=↑ws->x∈bs.map (·.1)->bu (i4 G bs ws) [.inr G,.inr x]=S (.int (b7 bs ws x))
 | [],_,_,_,h=>by simp at h
 | _::_,[],_,h,_=>by simp at h
 | b::bs,w::ws,x,I,hx=>by
   change bu (([.inr G,.inr b.1],V.int w)::i4 G bs ws) _=S (.int (if b.1=x then w else b7 bs ws x))
   by_cases e:b.1=x
   . rw[aB e,mr (p:=(([.inr G,.inr b.1]:↥Key),V.int w)) (by rw[← e])]
   . rw[az e,k9 (p:=(([.inr G,.inr b.1]:↥Key),V.int w)) (λz=>by injection z with _ z;injection z with z _;injection z with z;show e z)]
     show BY G bs ws x (by simpa using I) ?_
     rcases dG hx with z|z
     . show ao z.symm e
     . show z
theorem OU (G:Str):∀(bs:ak) (ws:↥Int) (s x:Str),(s=G->x∉bs.map (·.1))->bu (i4 G bs ws) [.inr s,.inr x]=Z
 | [],_,_,_,_=>rfl
 | _::_,[],_,_,_=>rfl
 | b::bs,w::ws,s,x,h=>by
   change bu (([.inr G,.inr b.1],V.int w)::i4 G bs ws) _=Z
   rw[k9 (p:=(([.inr G,.inr b.1]:↥Key),V.int w)) (λz=>by injection z with I z;injection I with I;injection z with z _;injection z with z;show h I.symm (dS (.inl z.symm)))]
   show OU G bs ws s x λe z=>h e (dS (.inr z))
def Qp {κ:Type}[DecidableEq κ]{kvs:↥(κ×V)}{k:κ}{v:V}(h:bu kvs k=Z):putK kvs k v=kvs++[(k,v)]:=by
 unfold putK
 rw[wN,h]
 rfl
theorem OW (G:Str):∀(bs:ak) (ws:↥Int) (b:Str×Int) (w:Int),↑bs=↑ws->i4 G (bs++[b]) (ws++[w])=i4 G bs ws++[([.inr G,.inr b.1],.int w)]
 | [],[],_,_,_=>rfl
 | [],_::_,_,_,h=>by simp at h
 | _::_,[],_,_,h=>by simp at h
 | b::bs,w::ws,c,v,h=>by
   change _::i4 G (bs++[c]) (ws++[v])=_
   rw[OW G bs ws c v (by simpa using h)]
   rfl
def abB {bs:ak}(nd:(bs.map (·.1)).Nodup){i:Nat}{b:Str×Int}(h:bs[i]?=S b):b.1∉(bs.take i).map (·.1):=by
 intro z
 have hi:i<↑bs:=(bt h)
 have e:bs[i]=b:=(List.getElem?_eq_some_iff.mp h).2
 obtain⟨c,hc,I⟩:=du z
 obtain⟨j,O,G⟩:=Af hc
 have pD:j<i:=by rw[cp]at O;lia
 rw[List.getElem_take]at G
 have k1:(bs.map (·.1))[j]'(by rw[aA];lia)=(bs.map (·.1))[i]'(by rw[aA];lia):=by
   rw[List.getElem_map,List.getElem_map,G,e,I]
 show(List.pairwise_iff_getElem.mp nd) j i _ _ pD k1
def C6:Sp:=λvs H Q z=>∃(v:V) (G:J) (I:Str) (bs:ak) (ws:↥Int),vs=[v,.ref G,.str I]/\jN H v bs/\(bs.map (·.1)).Nodup/\↑bs<=900/\H G=S (.lst (ws.map V.int))/\↑bs=↑ws /\
 ∀D H',H D=Z->ag H H'->H' D=S (.dT (i4 I bs ws))->Q (.ref D) H'
def agp:bE ["program","worths","side"] ["program","worths","side"] (aV CH):=bP
def acM {f:J}{fd:ba}{dV:ae}(F:AL K "known_worths" "known_worths" CH dV f fd)(O:mg "zip"=Z):aU P w K mg base bj 1 f fd ["program","worths","side"] C6:=by
 show F.ok agp (λvs H Q E h=>?_) (λim A outer s H vs Q E hr h=>?_)
 . obtain⟨v,wa,G,bs,ws,rfl,_⟩:=h
   rfl
 obtain⟨v,wa,G,bs,ws,rfl,⟨p,B,I,N,vb,rfl,hp,hB,pb⟩,nd,vB,hw,mo,q⟩:=h
 show⟨_,akf (ajI (ajN (L3.MV [Z,Z,Z,S 2] ["name","size","worth","side"] (cI hr _ ∅) (dq CH) U (akx U O (L (ajG ajM (Y 0) ajF) (L (Y 1) M))) (λu u u u u=>⟨(aj1 2 (ajQ (aj1 2 (ajQ (ajK 0 (bM ["name","size","worth","side"])) (ajQ (ajK 1 (bM ["name","size","worth","side"])) aj2))) (ajQ (ajK 2 (bM ["name","size","worth","side"])) aj2))),aj3,(ajO (L (Y 3) (L (Y 0) M))),(Y 2)⟩)))),?_⟩
 have gY:↑vb=↑bs:=Paired.length pb
 have vL:↑vb=↑(ws.map V.int):=by rw[aA];lia
 show aa U (aF hp U (aa U ⟨B,aL U ⟨_,af.of hB⟩ ⟨⟨_,af.of hw⟩,λD hD=>?_⟩⟩))
 have nB:B≠D:=aR hB hD
 have nw:wa≠D:=aR hw hD
 show Be (xs:=vb) (ys:=ws.map V.int) vL (λi H2=>(∀b o,H b=S o->H2 b=S o)/\H2 D=S (.dT (i4 G (bs.take i) (ws.take i)))) ⟨aH hD _,ai⟩ (λi H2 u z=>⟨af.of (z.1 _ _ hB),af.of (z.1 _ _ hw)⟩) (λi x y pr H2 hx hy z lY=>?_) (λH2 z=>?_)
 . obtain⟨z,kF⟩:=z
   obtain⟨b,dt,pp,rfl,pP⟩:=Paired.get pb hx
   obtain⟨w0,G1,rfl⟩:=eh hy
   have bC:i<↑vb:=(bt hx)
   have yD:=z _ _ pP
   show aw U (bQ.of ai) ⟨U,_,aa U (aw U (bQ.of (by rw[aC (aR yD lY)];show yD)) ⟨U,_,aa U (aw U U (aw U U (dW (A:=λH3=>yP _ _ D _ H3 _) (aa U (aL U alK (λkp pE=>(aa U ?_)))))))⟩)⟩
   have nkp:D≠kp:=aR (show(upd H2 pr _) D=S _ by rw[aC (aR kF lY)];show kF) pE
   have Bt:(upd (upd H2 pr (.tup [.ref pp,.int w0])) kp (.tup [.str G,.str b.1])) D=S (.dT (i4 G (bs.take i) (ws.take i))):=by
     rw[aC nkp,aC (aR kF lY)];show kF
   have pJ:=OT G (bs.take i) (ws.take i)
   have hl5:↑(bs.take i)<=↑bs:=by rw[cp];lia
   show⟨_,iD.t (k:=[.inr G,.inr b.1]) Bt ai (da ⋯),cO (Pv:=λi H2=>(∀b o,H b=S o->H2 b=S o)/\H2 D=S (.dT (i4 G (bs.take i) (ws.take i)))) (by repeat' constructor) bC ⟨λc o hc=>?_,?_⟩⟩
   . have qM:=z c o hc
     have n1:c≠D:=aR hc hD
     have vC:(upd H2 pr (.tup [.ref pp,.int w0])) c=S o:=by rw[aC (aR qM lY)];show qM
     rw[aC n1,aC (aR vC pE)]
     show vC
   . rw[ai,Qp (OU G _ _ _ _ λu=>abB nd dt),cV,cV,dt,G1]
     change _=S (HO.dT (i4 G (bs.take i++[b]) (ws.take i++[w0])))
     rw[OW G _ _ b w0 (by rw[cp,cp];lia)]
 . obtain⟨z,kF⟩:=z
   rw[gY,cL,mo,cL]at kF
   show q D H2 hD z kF
def sq (P:bo)(w:aY)(K:av)(mg:Str->Option ae)(base:Heap)(x:Str)(ps:↥Str)(k:Nat)(sp:Sp)(d:Str):Prop:=
 ∃f fd tk,aU P w K mg base bj k f fd ps sp/\lC K (.ref f)=true/\Binds K fd ps [.str d tk]/\mg x=S (.ref f)
def Yy (s:ER K mg "known_worths" CH "box")(G:mg "zip"=Z):sq P w K mg base "known_worths" ["program","worths","side"] 1 C6 "box":=by
 obtain⟨f,fd,T,tk,O,od,n,sl,F,m,lT⟩:=s
 show⟨f,fd,tk,acM F G,F.kp,?_,m⟩
 obtain⟨O,od,kV,doc,pm,an,im,ct,ZB,rfl,lk,wS⟩:=F.ex
 intro s us I hl
 have h2:↑us=2:=by simpa using hl
 match us,h2 with
 | [u1,u2],_=>show BindsTo.of_defaults rfl (I _ _ lT) rfl rfl rfl
def sq.mono {x:Str}{ps:↥Str}{j k:Nat}{sp:Sp}{d:Str}(h:sq P w K mg base x ps j sp d)(hk:j<=k):sq P w K mg base x ps k sp d:=
 let⟨f,fd,tk,a,b,c,e⟩:=h;⟨f,fd,tk,a.mono hk,b,c,e⟩
def adP {X:Cx}{x:Str}{d:Str}{p ci:Pos}{ps:↥Str}{kk:Nat}{sp:Sp}{e:Expr}{es:↥Expr}{t:TA}(D:sq X.prog X.w X.K X.mg X.base x ps kk sp d)(I:cX kk X.A)(O:Gl X x)(ha:L3.SA X (e::es) t)(IN:(x==("__debug__":Str))=false:=by left) :
   L3.SE X (.Call (.Name x p) (e::es) [] ci) (uv sp [.str d] E0 t):=by
 obtain⟨_,_,tk,G,kp,b,m⟩:=D
 show⟨IF G I O m kp b (.cons ⟨tk,U⟩ .nil) zi ha.h.pa IN ((ha.h.ns e es rfl).1.h es X.env) ((ha.h.ns e es rfl).2 ci X.env)⟩
abbrev A9 (bs:ak):Str->Str->Prop:=λt y=>t="box"/\y∈bs.map (·.1)
def Fg (bs:ak):EY (A9 bs):=λt z h=>.inl h.1
abbrev Jh:Stmt:=top 21
def uk (n:Nat):Sp:=λvs H Q z=>∃(a:J) (v:V) (e:E) (G:Str->Str->Prop) (W:Str->Str->Int),vs=[.ref a,v]/\qA H a G W/\EY G/\bL H v e/\e.fj/\e.okIn G/\e.dep<n/\Q (.bl (e.holds W)) H
def agn:bE ["known","condition"] ["known","condition"] (aV Jh):=bP
def acH {n:Nat}{f:J}{fd:ba}(F:bq K "holds_by" "holds_by" Jh f fd)(WB:∀n,aP P w K mg base "worth_by" ["known","sum_told"] (n+1) (oC n))(G:aP P w K mg base "holds_by" ["known","condition"] (n+2) (uk n)) :
    aU P w K mg base bj (n+3) f fd ["known","condition"] (uk (n+1)):=by
 show F.bZ agn λim A outer s H vs Q E hr h=>?_
 obtain⟨a,v,e,Pb,W,rfl,kn,tg,ev,es,ok,hd,q⟩:=h
 have W1:=(WB n).mono (show n+1<=n+2 by lia)
 show⟨_,akf (ajH (ajU (ajS ajZ (ajG ajM (Y 1) ajF) ajL) (ajI (ajN aj9)) ajV)
   (ajH (ajU (ajS ajZ (ajG ajM (Y 1) ajF) ajL) (ajI (ajN (akc ajZ (ajR W1 hr U (L (Y 0) (L (ajG ajM (Y 1) ajF) M))) (ajR W1 hr U (L (Y 0) (L (ajG ajM (Y 1) ajF) M)))))) ajV)
   (ajH (ajU (ajS ajZ (ajG ajM (Y 1) ajF) ajL) (ajI (ajN (akc akh (ajR W1 hr U (L (Y 0) (L (ajG ajM (Y 1) ajF) M))) (ajR W1 hr U (L (Y 0) (L (ajG ajM (Y 1) ajF) M)))))) ajV)
   (ajH (ajU (ajS ajZ (ajG ajM (Y 1) ajF) ajL) (ajI (ajN (L3.ntE (ajR G hr U (L (Y 0) (L (ajG ajM (Y 1) ajF) M)))))) ajV)
   (ajI (ajN (L3.AY (ajR G hr U (L (Y 0) (L (ajG ajM (Y 1) ajF) M))) (L3.Ck (ajR G hr U (L (Y 0) (L (ajG ajM (Y 1) ajF) M))))))))))),?_⟩
 cases e with
 | num m=>show es.elim
 | box t x=>show es.elim
 | yes=>
   obtain⟨p,rfl,I⟩:=ev
   show aa U (aF I U (aN U U (aG (λu=>?_) (λc=>ao (bS rfl) c))))
   show q
 | nt O=>
   obtain⟨x,⟨p,rfl,I⟩,ax⟩:=ev
   have iV:O.dep+1<n+1:=hd
   show aa U (aF I U (aN U U (aG (λc=>ao (bw c) ∅) (λu=>aa U (aF I U (aN U U (aG (λc=>ao (bw c) ∅) (λu=>aa U (aF I U (aN U U (aG (λc=>ao (bw c) ∅) (λu=>aa U (aF I U (aN U U (aG (λu=>?_) (λc=>ao (bS rfl) c))))))))))))))))
   show aa U (aa U (aF I U ⟨a,x,O,Pb,W,U,kn,tg,ax,es,ok,⋯,aa U q⟩))
 | two k O e2=>
   obtain⟨x,y,⟨p,rfl,I⟩,ax,ay⟩:=ev
   have iV:max O.dep e2.dep+1<n+1:=hd
   cases k with
   | plus=>show es.elim
   | less=>show es.elim
   | same=>
     show aa U (aF I U (aN U U (aG (λc=>ao (bw c) ∅) (λu=>aa U (aF I U (aN U U (aG (λu=>?_) (λc=>ao (bS rfl) c))))))))
     show aa U (aa U (aF I U ⟨a,x,O,Pb,W,U,kn,tg,ax,es.1,ok.1,⋯,aa U (aa U (aF I U ⟨a,y,e2,Pb,W,U,kn,tg,ay,es.2,ok.2,⋯,?_⟩))⟩))
     have eq:decide (V.int (O.worth W)=V.int (e2.worth W))=decide (O.worth W=e2.worth W):=decide_eq_decide.mpr ⟨λz=>by injection z,λz=>by rw[z]⟩
     show⟨U,?_⟩
     rw[eq]
     show q
   | under=>
     show aa U (aF I U (aN U U (aG (λc=>ao (bw c) ∅) (λu=>aa U (aF I U (aN U U (aG (λc=>ao (bw c) ∅) (λu=>aa U (aF I U (aN U U (aG (λu=>?_) (λc=>ao (bS rfl) c))))))))))))
     show aa U (aa U (aF I U ⟨a,x,O,Pb,W,U,kn,tg,ax,es.1,ok.1,⋯,aa U (aa U (aF I U ⟨a,y,e2,Pb,W,U,kn,tg,ay,es.2,ok.2,⋯,aw U U q⟩))⟩))
   | both=>
     show aa U (aF I U (aN U U (aG (λc=>ao (bw c) ∅) (λu=>aa U (aF I U (aN U U (aG (λc=>ao (bw c) ∅) (λu=>aa U (aF I U (aN U U (aG (λc=>ao (bw c) ∅) (λu=>aa U (aF I U (aN U U (aG (λc=>ao (bw c) ∅) (λu=>aa U (aa U (aF I U ⟨a,x,O,Pb,W,U,kn,tg,ax,es.1,ok.1,⋯,aa U ?_⟩))))))))))))))))))
     have q':Q (.bl (O.holds W&&e2.holds W)) H:=q
     show aG (λc=>?_) (λc=>?_)
     . show aa U (aa U (aF I U ⟨a,y,e2,Pb,W,U,kn,tg,ay,es.2,ok.2,⋯,?_⟩))
       rw[c,DF]at q'
       show q'
     . rw[Bool.eq_false_iff.mpr c,wO]at q'
       show q'
def abO {f:J}{fd:ba}:aU P w K mg base bj 2 f fd ["known","condition"] (uk 0):=by
 have no:∀vs H Q E,¬ uk 0 vs H Q E:=λvs H Q E h=>by
   obtain⟨_,_,_,_,_,_,_,_,_,_,_,h1,_⟩:=h
   lia
 show⟨λvs H Q E h=>ao h (no vs H Q E),λA outer s H args us vs Q E z z z z h=>ao h (no vs H Q E)⟩
def Yv (s:Src K mg "holds_by" Jh)(G:∀n,aP P w K mg base "worth_by" ["known","sum_told"] (n+1) (oC n)):∀n:Nat,aP P w K mg base "holds_by" ["known","condition"] (n+2) (uk n):=by
 obtain⟨f,fd,F,m⟩:=s
 have b:Binds K fd ["known","condition"] []:=je F λz z z z z z z z=>rfl
 intro n
 have all:aU P w K mg base bj (n+2) f fd ["known","condition"] (uk n):=by
   induction n with
   | zero=>show abO
   | succ n I=>show acH F G ⟨f,fd,I,F.kp,b,m⟩
 show⟨f,fd,all,F.kp,b,m⟩
abbrev Jq:Stmt:=top 24
abbrev Rr:Stmt:=top 23
def eC (bs:ak)(ws:↥Int)(x:Str)(t:Int):↥Int:=List.zipWith (λb w=>if b.1=x then t%b.2 else w) bs ws
def afK {bs:ak}{ws:↥Int}{x:Str}{t:Int}{i:Nat}{b:Str×Int}{w:Int}(h1:bs[i]?=S b)(h2:ws[i]?=S w):(eC bs ws x t)[i]?=S (if b.1=x then t%b.2 else w):=by
 unfold eC
 rw[DX,h1,h2]
def Qq {bs:ak}{ws:↥Int}{x:Str}{t:Int}(h:↑bs=↑ws):↑(eC bs ws x t)=↑bs:=by
 unfold eC
 rw[List.length_zipWith]
 lia
def Kd:Sp:=λvs H Q z=>∃(v:V) (G:J) (x:Str) (t:Int) (bs:ak) (ws:↥Int),vs=[v,.ref G,.str x,.int t]/\jN H v bs/\↑bs<=900/\(∀b∈bs,1<=b.2)/\H G=S (.lst (ws.map V.int))/\↑bs=↑ws /\
 ∀l H',H l=Z->ag H H'->H' l=S (.lst ((eC bs ws x t).map V.int))->Q (.ref l) H'
def agy:bE ["program","worths","put_name","told"] ["program","worths","put_name","told"] (aV Jq):=bP
def adj {f:J}{fd:ba}(F:bq K "worths_put" "worths_put" Jq f fd)(G:mg "zip"=Z):aU P w K mg base bj 1 f fd ["program","worths","put_name","told"] Kd:=by
 show F.bZ agy λim A outer s H vs Q E hr h=>?_
 obtain⟨v,wa,x,t,bs,ws,rfl,⟨p,B,I,N,O,rfl,hp,hB,pb⟩,vB,sz,hw,mo,q⟩:=h
 show⟨_,akf (ajI (ajN (aj6 [Z,Z,Z,S 2,S 3] ["name","size","worth","put_name","told"] (dq Jq) U (akx U G (L (ajG ajM (Y 0) ajF) (L (Y 1) M))) (λy y y y y=>⟨(aj1 2 (ajQ (aj1 2 (ajQ (ajK 0 (bM ["name","size","worth","put_name","told"])) (ajQ (ajK 1 (bM ["name","size","worth","put_name","told"])) aj2))) (ajQ (ajK 2 (bM ["name","size","worth","put_name","told"])) aj2))),aj3,(L3.BP (ajS ajZ (Y 0) (Y 3)) (ajJ ajY (Y 4) (Y 1)) (Y 2))⟩)))),?_⟩
 have gY:O.length=↑bs:=Paired.length pb
 have vL:O.length=↑(ws.map V.int):=by rw[aA];lia
 show aa U (aF hp U (aa U ⟨B,aL U ⟨_,af.of hB⟩ ⟨⟨_,af.of hw⟩,λD hD=>Be (xs:=O) (ys:=ws.map V.int) vL (λi H2=>(∀b o,H b=S o->H2 b=S o)/\H2 D=S (.lst (((eC bs ws x t).take i).map V.int))) ⟨aH hD _,ai⟩ (λi H2 y z=>⟨af.of (z.1 _ _ hB),af.of (z.1 _ _ hw)⟩) (λi x0 y0 pr H2 hx hy z lY=>?_) (λH2 z=>?_)⟩⟩))
 . obtain⟨z,kF⟩:=z
   obtain⟨b,dt,pp,rfl,pP⟩:=Paired.get pb hx
   obtain⟨w0,G1,rfl⟩:=eh hy
   have bC:i<O.length:=(bt hx)
   have yD:=z _ _ pP
   have mR:=sz b (bI dt)
   have hg:=afK (x:=x) (t:=t) dt G1
   have Ol:↑((eC bs ws x t).take i)<=900:=by rw[cp,Qq mo];lia
   have Bt:(upd H2 pr (.tup [.ref pp,.int w0])) D=S (.lst (((eC bs ws x t).take i).map V.int)):=by rw[aC (aR kF lY)];show kF
   have keep:∀u,∀c o,H c=S o->(upd (upd H2 pr (.tup [.ref pp,.int w0])) D u) c=S o:=λu c o hc=>by
     have qM:=z c o hc
     rw[aC (aR hc hD),aC (aR qM lY)]
     show qM
   show aw U (bQ.of ai) ⟨U,_,aa U (aw U (bQ.of (by rw[aC (aR yD lY)];show yD)) ⟨U,_,aa U (aw U U (aw U U (dW (A:=λH3=>cR _ D _ H3 _) (aa U (aa U (aN U U (aG (λc=>?_) (λc=>?_))))))))⟩)⟩
   . have c':b.1=x:=by have:=bw c;injection this
     show aa U (aa U (bF U U (by change(0:Int)<b.2;lia) ⟨_,Bt,da (by rw[aA];lia),cO (Pv:=λi H2=>(∀b o,H b=S o->H2 b=S o)/\H2 D=S (.lst (((eC bs ws x t).take i).map V.int))) (by repeat' constructor) bC ⟨keep _,?_⟩⟩))
     rw[ai,cV,hg,aB c',cq]
     rfl
   . have c':¬ b.1=x:=λz=>c (bS (by rw[z]))
     show aa U ⟨_,Bt,da (by rw[aA];lia),cO (Pv:=λi H2=>(∀b o,H b=S o->H2 b=S o)/\H2 D=S (.lst (((eC bs ws x t).take i).map V.int))) (by repeat' constructor) bC ⟨keep _,?_⟩⟩
     rw[ai,cV,hg,az c',cq]
     rfl
 . obtain⟨z,kF⟩:=z
   have et:(eC bs ws x t).take O.length=eC bs ws x t:=by rw[gY,← Qq (x:=x) (t:=t) mo,cL]
   rw[et]at kF
   show q D H2 hD z kF
def iy (bs:ak)(ws:↥Int):Nd->Option (↥Int×Int×↥Int)
 | .fin=>Z
 | .put x s n=>S ([],n,eC bs ws x (s.worth λz y=>b7 bs ws y))
 | .say s n=>S ([s.worth λz y=>b7 bs ws y],n,ws)
 | .test c n o=>S ([],if(c.holds λz y=>b7 bs ws y)=true then n else o,ws)
structure EU (H:Hp)(v:V)(wa:J)(bs:ak)(ws:↥Int)(ins:↥Str)(cr:↥Nd)(pl:Int)(nd:Nd)(m:Int):Prop where
 pa:cu H v bs ins cr
 ndn:(bs.map (·.1)).Nodup
 len:↑bs<=900
 sz:∀b∈bs,1<=b.2
 wl:H wa=S (.lst (ws.map V.int))
 pw:Paired Within (bs.map (·.2)) ws
 p0:0<=pl
 here:cr[pl.toNat]?=S nd
 gd:nd.good (·∈bs.map (·.1)) m 19
def cu.same {H H':Hp}{v:V}{bs:ak}{ins:↥Str}{cr:↥Nd}(h:cu H v bs ins cr)(s:ag H H'):cu H' v bs ins cr:=by
 obtain⟨p,B,I,N,G,O,rfl,hp,hB,hI,hN,pb,pn⟩:=h
 show⟨p,B,I,N,G,O,U,s _ _ hp,s _ _ hB,s _ _ hI,s _ _ hN,Paired.bc pb λy y z=>Tp.keep (ag.tk s) z,Paired.bc pn λy y z=>cB.keep (ag.tk s) z⟩
def EU.ll {H:Hp}{v:V}{G:J}{bs:ak}{ws:↥Int}{ins:↥Str}{cr:↥Nd}{pl:Int}{nd:Nd}{m:Int}(h:EU H v G bs ws ins cr pl nd m):↑bs=↑ws:=by
 have:=Paired.length h.pw
 rw[aA]at this
 show this
structure Told (H H':Hp)(r l1 l2:J)(wn:↥Int)(n:Int)(ws':↥Int):Prop where
 s:ag H H'
 hr:H r=Z
 h1:H l1=Z
 h2:H l2=Z
 er:H' r=S (.tup [.ref l1,.int n,.ref l2])
 e1:H' l1=S (.lst (wn.map V.int))
 e2:H' l2=S (.lst (ws'.map V.int))
 ne:l1≠l2
def Sg:Sp:=λvs H Q z=>∃(v:V) (pl:Int) (I:J) (bs:ak) (ws:↥Int) (ins:↥Str) (cr:↥Nd) (nd:Nd) (m:Int),vs=[v,.int pl,.ref I]/\EU H v I bs ws ins cr pl nd m /\
 (iy bs ws nd=Z->∀H',ag H H'->Q .aM H')/\∀O n G,iy bs ws nd=S (O,n,G)->∀r l1 l2 H',Told H H' r l1 l2 O n G->Q (.ref r) H'
def Jy:bE ["program","place","worths","node","known"] ["program","place","worths"] (aV Rr):=bP
def ac8 {f:J}{fd:ba}(F:bq K "step_at" "step_at" Rr f fd)(G:mg "list"=Z)(KW:sq P w K mg base "known_worths" ["program","worths","side"] 24 C6 "box")(WP:aP P w K mg base "worths_put" ["program","worths","put_name","told"] 24 Kd)
    (WB:aP P w K mg base "worth_by" ["known","sum_told"] 24 (oC 20)) (HB:aP P w K mg base "holds_by" ["known","condition"] 24 (uk 20)):aU P w K mg base bj 25 f fd ["program","place","worths"] Sg:=by
 show F.bZ Jy λim A outer s H vs Q E hr h=>?_
 obtain⟨v,pl,wa,bs,ws,ins,cr,nd,m,rfl,pre,qn,qs⟩:=h
 show⟨_,akf (ajH (ajT 3 Jy.nd (ajG ajP (ajG ajM (Y 0) ajF) (Y 1)))
   (ajH (ajU (ajS ajZ (ajG ajM (Y 3) ajF) ajL) (ajI (ajN akB)) ajV)
   (ajH (ajT 4 Jy.nd (adP KW hr U (L (Y 0) (L (Y 2) M))))
   (ajH (ajU (ajS ajZ (ajG ajM (Y 3) ajF) ajL) (ajI (ajN (ajO (L (ajW M) (L (ajG ajM (Y 3) ajF) (L (ajR WP hr U (L (Y 0) (L (Y 2) (L (ajG ajM (Y 3) ajF) (L (ajR WB hr U (L (Y 4) (L (ajG ajM (Y 3) ajF) M))) M))))) M)))))) ajV)
   (ajH (ajU (ajS ajZ (ajG ajM (Y 3) ajF) ajL) (ajI (ajN (ajO (L (ajW (L (ajR WB hr U (L (Y 4) (L (ajG ajM (Y 3) ajF) M))) M)) (L (ajG ajM (Y 3) ajF) (L (aka aky U G (by right) (L (Y 2) M)) M)))))) ajV)
   (ajH (ajU (akp (ajR HB hr U (L (Y 4) (L (ajG ajM (Y 3) ajF) M)))) (ajI (ajN (ajO (L (ajW M) (L (ajG ajM (Y 3) ajF) (L (aka aky U G (by right) (L (Y 2) M)) M)))))) ajV)
   (ajI (ajN (ajO (L (ajW M) (L (ajG ajM (Y 3) ajF) (L (aka aky U G (by right) (L (Y 2) M)) M)))))))))))),?_⟩
 obtain⟨p,B,I,N,vb,vn,rfl,hp,hB,hI,hN,pb,pn⟩:=pre.pa
 have bC:pl.toNat<↑cr:=(bt pre.here)
 have OE:↑vn=↑cr:=Paired.length pn
 obtain⟨x0,qW⟩ : ∃x0,vn[pl.toNat]?=S x0:=⟨vn[pl.toNat]'⋯,bB ⋯⟩
 have eL:de vn pl=S x0:=by
   have:=gH qW
   rw[zY pre.p0]at this
   show this
 have pN:=Paired.Nw pn qW pre.here
 have gd:=pre.gd
 show aa U (aF hp U (aa U (aX hN eL ?_)))
 cases nd with
 | fin=>
   obtain⟨x,rfl,hx⟩:=pN
   show aa U (aF hx U (aN U U (aG (λq=>?_) (λc=>ao (bS rfl) c))))
   show qn rfl _ (same_refl _)
 | put nm e n=>
   obtain⟨u,⟨x,rfl,hx⟩,eu⟩:=pN
   obtain⟨g1,g2,g3,g4,g5,g6⟩:=gd
   show aa U (aF hx U (aN U U (aG (λc=>ao (bw c) ∅) (λq=>aa U (aa U ⟨.ref p,wa,"box",bs,ws,U,⟨p,B,_,_,vb,U,hp,hB,pb⟩,pre.ndn,pre.len,pre.wl,pre.ll,λD H1 hD s1 hk=>?_⟩)))))
   have kn:qA H1 D (A9 bs) (λq y=>b7 bs ws y):=⟨_,hk,λt x h=>by rw[h.1];show BY "box" bs ws x pre.ll h.2⟩
   have fe:=s1 _ _ hx
   have zP:=s1 _ _ pre.wl
   show aa U (aF fe U (aN U U (aG (λq=>?_) (λc=>ao (bS rfl) c))))
   show⟨alI,λl1 EQ=>?_⟩
   have O:=aH EQ (.lst [])
   have e1:(upd H1 l1 (.lst [])) l1=S (.lst []):=ai
   generalize upd H1 l1 (.lst [])=H2 at O e1 ⊢
   have NE:=ah s1 O
   have tU:=O _ _ fe
   show aa U (aF tU U (aa U (aa U (aa U (aF tU U (aa U (aa U (aF tU U ⟨D,u,e,_,aa U ⟨kn.same O,Fg bs,eu.same NE,g2,g3,⋯,.ref p,wa,nm,_,bs,ws,U,⟨p,B,_,_,vb,U,NE _ _ hp,NE _ _ hB,Paired.bc pb λq q z=>Tp.keep (ag.tk NE) z⟩,pre.len,pre.sz,NE _ _ pre.wl,pre.ll,λl2 H3 wP s3 e2=>⟨alL,λr bJ=>?_⟩⟩⟩))))))))
   have s4:=aH bJ (.tup [.ref l1,.int n,.ref l2])
   have Db:=ah NE s3
   show qs _ _ _ rfl r l1 l2 _ ⟨ah Db s4,b9 Db bJ,b9 s1 EQ,b9 NE wP,ai,s4 _ _ (s3 _ _ e1),s4 _ _ e2,aR e1 wP⟩
 | say e n=>
   obtain⟨u,⟨x,rfl,hx⟩,eu⟩:=pN
   obtain⟨g2,g3,g4,g5,g6⟩:=gd
   show aa U (aF hx U (aN U U (aG (λc=>ao (bw c) ∅) (λq=>aa U (aa U ⟨.ref p,wa,"box",bs,ws,U,⟨p,B,_,_,vb,U,hp,hB,pb⟩,pre.ndn,pre.len,pre.wl,pre.ll,λD H1 hD s1 hk=>?_⟩)))))
   have kn:qA H1 D (A9 bs) (λq y=>b7 bs ws y):=⟨_,hk,λt x h=>by rw[h.1];show BY "box" bs ws x pre.ll h.2⟩
   have fe:=s1 _ _ hx
   have zP:=s1 _ _ pre.wl
   show aa U (aF fe U (aN U U (aG (λc=>ao (bw c) ∅) (λq=>aa U (aF fe U (aN U U (aG (λq=>?_) (λc=>ao (bS rfl) c))))))))
   show aa U (aa U (aF fe U ⟨D,u,e,_,aa U ⟨kn,Fg bs,eu.same s1,g2,g3,⋯,alJ,λl1 EQ=>?_⟩⟩))
   have O:=aH EQ (.lst [.int (e.worth λq y=>b7 bs ws y)])
   have e1:(upd H1 l1 (.lst [.int (e.worth λq y=>b7 bs ws y)])) l1=S _:=ai
   generalize upd H1 l1 (.lst [.int (e.worth λq y=>b7 bs ws y)])=H2 at O e1 ⊢
   have NE:=ah s1 O
   show aa U (aF (O _ _ fe) U (aa U (aw U (.inl (af.of (O _ _ zP))) (λl2 wP=>⟨alL,λr bJ=>?_⟩))))
   have s3:=aH wP (.lst (ws.map V.int))
   have s4:=aH bJ (.tup [.ref l1,.int n,.ref l2])
   have Db:=ah NE s3
   show qs _ _ _ rfl r l1 l2 _ ⟨ah Db s4,b9 Db bJ,b9 s1 EQ,b9 NE wP,ai,s4 _ _ (s3 _ _ e1),s4 _ _ ai,aR e1 wP⟩
 | test c n o=>
   obtain⟨u,⟨x,rfl,hx⟩,eu⟩:=pN
   obtain⟨g2,g3,g4,g5,g6⟩:=gd
   show aa U (aF hx U (aN U U (aG (λc=>ao (bw c) ∅) (λq=>aa U (aa U ⟨.ref p,wa,"box",bs,ws,U,⟨p,B,_,_,vb,U,hp,hB,pb⟩,pre.ndn,pre.len,pre.wl,pre.ll,λD H1 hD s1 hk=>?_⟩)))))
   have kn:qA H1 D (A9 bs) (λq y=>b7 bs ws y):=⟨_,hk,λt x h=>by rw[h.1];show BY "box" bs ws x pre.ll h.2⟩
   have fe:=s1 _ _ hx
   have zP:=s1 _ _ pre.wl
   show aa U (aF fe U (aN U U (aG (λc=>ao (bw c) ∅) (λq=>aa U (aF fe U (aN U U (aG (λc=>ao (bw c) ∅) (λq=>aa U (aa U (aF fe U ⟨D,u,c,_,aa U ⟨kn,Fg bs,eu.same s1,g2,g3,⋯,aa U (aG (λhc=>?_) (λhc=>?_))⟩⟩))))))))))
   . show⟨alI,λl1 EQ=>?_⟩
     have O:=aH EQ (.lst [])
     have e1:(upd H1 l1 (.lst [])) l1=S (.lst []):=ai
     generalize upd H1 l1 (.lst [])=H2 at O e1 ⊢
     have NE:=ah s1 O
     show aa U (aF (O _ _ fe) U (aa U (aw U (.inl (af.of (O _ _ zP))) (λl2 wP=>⟨alL,λr bJ=>?_⟩))))
     have s3:=aH wP (.lst (ws.map V.int))
     have s4:=aH bJ (.tup [.ref l1,.int n,.ref l2])
     have Db:=ah NE s3
     show qs [] n ws (by change S _=S _;rw[aB hc]) r l1 l2 _ ⟨ah Db s4,b9 Db bJ,b9 s1 EQ,b9 NE wP,ai,s4 _ _ (s3 _ _ e1),s4 _ _ ai,aR e1 wP⟩
   . show⟨alI,λl1 EQ=>?_⟩
     have O:=aH EQ (.lst [])
     have e1:(upd H1 l1 (.lst [])) l1=S (.lst []):=ai
     generalize upd H1 l1 (.lst [])=H2 at O e1 ⊢
     have NE:=ah s1 O
     show aa U (aF (O _ _ fe) U (aa U (aw U (.inl (af.of (O _ _ zP))) (λl2 wP=>⟨alL,λr bJ=>?_⟩))))
     have s3:=aH wP (.lst (ws.map V.int))
     have s4:=aH bJ (.tup [.ref l1,.int o,.ref l2])
     have Db:=ah NE s3
     show qs [] o ws (by change S _=S _;rw[az hc]) r l1 l2 _ ⟨ah Db s4,b9 Db bJ,b9 s1 EQ,b9 NE wP,ai,s4 _ _ (s3 _ _ e1),s4 _ _ ai,aR e1 wP⟩
def iY:ak->↥Int->↥(Key×V)
 | b::bs,w::ws=>(.inr b.1,.int w)::iY bs ws
 | _,_=>[]
theorem Ho:∀(bs:ak) (ws:↥Int) (k:Key),k∈(iY bs ws).map (·.1)->∃x∈bs.map (·.1),k=.inr x
 | [],_,_,h=>by simp[iY]at h
 | _::_,[],_,h=>by simp[iY]at h
 | b::bs,w::ws,k,h=>by
   rcases dG h with z|z
   . show⟨b.1,dS (.inl rfl),z⟩
   . obtain⟨x,hx,e⟩:=Ho bs ws k z
     show⟨x,dS (.inr hx),e⟩
theorem IL:∀(kvs d:↥(Key×V)) (k:Key),k∉kvs.map (·.1)->bu (putAll d kvs) k=bu d k
 | [],_,_,_=>rfl
 | p::r,d,k,h=>by
   change bu (putAll (putK d p.1 p.2) r) k=_
   rw[IL r _ k (λz=>h (dS (.inr z))),j7,az (λz=>h (dS (.inl z)))]
theorem IM:∀(bs:ak) (ws:↥Int) (d:↥(Key×V)) (x:Str),↑bs=↑ws->(bs.map (·.1)).Nodup->x∈bs.map (·.1)->bu (putAll d (iY bs ws)) (.inr x)=S (.int (b7 bs ws x))
 | [],_,_,_,_,_,h=>by simp at h
 | _::_,[],_,_,h,_,_=>by simp at h
 | b::bs,w::ws,d,x,I,nd,hx=>by
   rw[jb,Ah]at nd
   change bu (putAll (putK d (.inr b.1) (.int w)) (iY bs ws)) (.inr x)=S (.int (if b.1=x then w else b7 bs ws x))
   by_cases e:b.1=x
   . rw[aB e,IL _ _ _ (λz=>by
       obtain⟨y,hy,G⟩:=Ho bs ws _ z
       injection G with G
       subst G
       show nd.1 (e▸hy)),j7,aB (by rw[e])]
   . rw[az e]
     show IM bs ws _ x (by simpa using I) nd.2 ?_
     rcases dG hx with z|z
     . show ao z.symm e
     . show z
abbrev Ji:Stmt:=top 25
abbrev Jc:Stmt:=top 26
def cb (bs:ak)(x:Str):Int:=b7 bs (bs.map (·.2)) x
def tY (bs:ak):↥(Key×V):=iY bs (bs.map (·.2))
theorem Qa {H:Hp}:∀{G:↥V} {bs:ak},Paired (eX H) G bs->Paired (EJ H) G (tY bs)
 | _,_,.nil=>.nil
 | _,_,.cons ⟨p,e,h⟩ r=>.cons ⟨p,e,h⟩ (Qa r)
def jl (ins:↥Str):ak:=ins.map λx=>(x,0)
def tX (ins:↥Str):(jl ins).map (·.1)=ins:=by
 unfold jl
 rw[jK]
 show List.map_id _
def jz (ins:↥Str)(G:↥Int)(y:Str):Int:=b7 (jl ins) G y
theorem T9:∀(ins:↥Str) (G:↥Int),(ins.map (kc:Str->Key)).zip (G.map V.int)=iY (jl ins) G
 | [],_=>by simp[jl,iY]
 | _::_,[]=>by simp[jl,iY]
 | x::ins,w::G=>by
   change(kc x,V.int w)::(ins.map (kc:Str->Key)).zip (G.map V.int)=(kc x,V.int w)::iY (jl ins) G
   rw[T9 ins G]
theorem zM:∀{bs:ak} {ws:↥Int} {x:Str},x∉bs.map (·.1)->b7 bs ws x=0
 | [],_,_,_=>rfl
 | _::_,[],_,_=>rfl
 | b::bs,w::ws,x,h=>by
   change(if b.1=x then w else b7 bs ws x)=0
   rw[az (λe=>h (dS (.inl e.symm)))]
   show zM λz=>h (dS (.inr z))
def gI (bs:ak)(ins:↥Str)(G:↥Int):↥Int:=bs.map λb=>jz ins G b.1
theorem rB:∀{bs:ak} {b:Str×Int},(bs.map (·.1)).Nodup->b∈bs->cb bs b.1=b.2
 | [],_,_,h=>nomatch h
 | c::bs,b,nd,h=>by
   rw[jb,Ah]at nd
   change(if c.1=b.1 then c.2 else b7 bs (bs.map (·.2)) b.1)=b.2
   rcases dG h with rfl|h
   . rw[aB rfl]
   . rw[az (λe:c.1=b.1=>nd.1 (by rw[e];show d7 ⟨b,h,rfl⟩))]
     show rB nd.2 h
theorem Nq {sz:Str->Int}:∀{ins:↥Str} {G:↥Int} {y:Str},Paired Within (ins.map sz) G->y∈ins->0<=jz ins G y/\jz ins G y<sz y
 | [],_,_,_,h=>nomatch h
 | x::ins,[],_,h,_=>nomatch h
 | x::ins,w::G,y,.cons r t,h=>by
   change 0<=(if x=y then w else jz ins G y)/\(if x=y then w else jz ins G y)<sz y
   by_cases e:x=y
   . rw[aB e,← e]
     show r
   . rw[az e]
     rcases dG h with z|z
     . show ao z.symm e
     . show Nq t z
def A8 {bs:ak}{ins:↥Str}{I:↥Int}(nd:(bs.map (·.1)).Nodup)(sz:∀b∈bs,1<=b.2)(pw:Paired Within (ins.map (cb bs)) I):Paired Within (bs.map (·.2)) (gI bs ins I):=by
 have go:∀G:ak,(∀c∈G,c∈bs)->Paired Within (G.map (·.2)) (G.map λb=>jz ins I b.1):=λG=>by
   induction G with
   | nil=>show λz=>.nil
   | cons c G ih=>
     intro h
     show .cons ?_ (ih λd hd=>h d (dS (.inr hd)))
     have hc:=h c (dS (.inl rfl))
     have h1:=sz c hc
     by_cases m:c.1∈ins
     . obtain⟨a1,O⟩:=Nq pw m
       rw[rB nd hc]at O
       show⟨a1,O⟩
     . have e:jz ins I c.1=0:=zM (by rw[tX];show m)
       change Within c.2 (jz ins I c.1)
       rw[e]
       show⟨zW 0,⋯⟩
 show go bs λz h=>h
structure Fits (bs:ak)(ins:↥Str):Prop where
 nd:(bs.map (·.1)).Nodup
 len:↑bs<=900
 sz:∀b∈bs,1<=b.2
 ind:ins.Nodup
 sub:∀x∈ins,x∈bs.map (·.1)
 ilen:↑ins<=900
def um:Sp:=λvs H Q z=>∃(v:V) (bs:ak) (ins:↥Str) (cr:↥Nd),vs=[v]/\cu H v bs ins cr/\Fits bs ins/\∀l H',H l=Z->ag H H'->H' l=S (.lst ((ins.map (cb bs)).map V.int))->Q (.ref l) H'
def RA:bE ["program","sizes"] ["program"] (aV Ji):=bP
def acI {f:J}{fd:ba}(F:bq K "input_sizes" "input_sizes" Ji f fd)(G:mg "dict"=Z):aU P w K mg base bj 1 f fd ["program"] um:=by
 show F.bZ RA λim A outer s H vs Q E hr h=>?_
 obtain⟨v,bs,ins,cr,rfl,pa,ft,q⟩:=h
 show⟨_,akf (ajH (ajT 1 RA.nd (aka L3.VM U G (by right) (L (ajG ajM (Y 0) ajF) M)))
   (ajI (ajN (aj6 [Z,S 1] ["name","sizes"] (dq Ji) U (aj4 (ajG ajM (Y 0) ajF)) (λy y y y y=>⟨(ajK 0 (bM ["name","sizes"])),aj3,(akk (cI hr _ ∅) (Y 1) (Y 0))⟩))))),?_⟩
 obtain⟨p,B,I,N,vb,vn,rfl,hp,hB,hI,hN,pb,pn⟩:=pa
 have ilen:=ft.ilen
 show aa U (aF hp U ⟨B,vb,tY bs,U,hB,Qa pb,λD hD=>?_⟩)
 have s1:=aH hD (.dK (putAll [] (tY bs)))
 have eD:(upd H D (.dK (putAll [] (tY bs)))) D=S (.dK (putAll [] (tY bs))):=ai
 generalize upd H D (.dK (putAll [] (tY bs)))=H2 at s1 eD ⊢
 have pj:=s1 _ _ hI
 show aa U (aF (s1 _ _ hp) U (aL U ⟨_,af.of pj⟩ (λl hl=>fT (xs:=ins.map V.str) (λi O=>(∀b o,H2 b=S o->O b=S o)/\O l=S (.lst (((ins.map (cb bs)).take i).map V.int))) ⟨aH hl _,ai⟩ (λi O y z=>af.of (z.1 _ _ pj)) (λi x0 O hx z=>?_) (λO z=>?_))))
 . obtain⟨z,mL⟩:=z
   have bC:=(bt hx)
   obtain⟨x,tV,rfl⟩:=eh hx
   have hv:=IM bs (bs.map (·.2)) [] x (by rw[aA]) ft.nd (ft.sub x (bI tV))
   have g:=dN.k (k:=.inr x) (z _ _ eD)
   rw[show bu (putAll [] (tY bs)) (.inr x)=S (.int (cb bs x))from hv]at g
   show bO (dW (A:=λH4=>cR _ l _ H4 _) (aa U (aa U ⟨D,aa U ⟨g,_,mL,da (by rw[aA,cp,aA];lia),cO (Pv:=λi O=>(∀b o,H2 b=S o->O b=S o)/\O l=S (.lst (((ins.map (cb bs)).take i).map V.int))) (by repeat' constructor) bC ⟨λc o hc=>?_,?_⟩⟩⟩)))
   . rw[aC (aR hc hl)]
     show z c o hc
   . rw[ai,cV,eI,tV,cq]
     rfl
 . obtain⟨z,mL⟩:=z
   have et:(ins.map (cb bs)).take ↑(ins.map V.str)=ins.map (cb bs):=by rw[aA,← aA (f:=cb bs) (as:=ins),cL]
   rw[et]at mL
   show q l O (b9 s1 hl) (ah s1 z) mL
def R4:Sp:=λvs H Q z=>∃(v:V) (I:J) (bs:ak) (ins:↥Str) (cr:↥Nd) (G:↥Int),vs=[v,.ref I]/\cu H v bs ins cr/\Fits bs ins/\H I=S (.lst (G.map V.int))/\Paired Within (ins.map (cb bs)) G/\∀l H',H l=Z->ag H H'->H' l=S (.lst ((gI bs ins G).map V.int))->Q (.ref l) H'
def Rz:bE ["program","inputs","given"] ["program","inputs"] (aV Jc):=bP
def acr {f:J}{fd:ba}(F:bq K "beginning_of" "beginning_of" Jc f fd)(O:mg "dict"=Z)(m_zip:mg "zip"=Z)(RW:aP P w K mg base "refuse_worths" ["sizes","worths"] 1 J2)(IS:aP P w K mg base "input_sizes" ["program"] 1 um):aU P w K mg base bj 2 f fd ["program","inputs"] R4:=by
 show F.bZ Rz λim A outer s H vs Q E hr h=>?_
 obtain⟨v,ia,bs,ins,cr,G,rfl,pa,ft,hw,pw,q⟩:=h
 show⟨_,akf (ajH (akb (ajR RW hr U (L (ajR IS hr U (L (Y 0) M)) (L (Y 1) M))))
   (ajH (ajT 2 Rz.nd (L3.Wz U O U m_zip (L (ajG ajM (Y 0) ajF) (L (Y 1) M))))
   (ajI (ajN (aj6 [Z,Z,S 2] ["name","size","given"] (dq Jc) U (aj4 (ajG ajM (Y 0) ajF)) (λx x x x x=>⟨(aj1 2 (ajQ (ajK 0 (bM ["name","size","given"])) (ajQ (ajK 1 (bM ["name","size","given"])) aj2))),aj3,(L3.M0 (cI hr _ ∅) (Y 2) (Y 0) ajF)⟩)))))),?_⟩
 have mo:↑ins=G.length:=by have:=Paired.length pw;rw[aA]at this;show this
 have ilen:=ft.ilen
 have aiH:=ft.len
 show aa U ⟨v,bs,ins,cr,U,pa,ft,λsl Ha BK sa ea=>aa U ⟨sl,ia,ins.map (cb bs),G,U,ea,sa _ _ hw,pw,λH1 sb=>?_⟩⟩
 have s1:=ah sa sb
 obtain⟨p,B,I,N,vb,vn,rfl,hp,hB,hI,hN,pb,pn⟩:=pa.same s1
 have gY:↑vb=↑bs:=Paired.length pb
 have G0:=s1 _ _ hw
 have ZD:(ins.map V.str)=(ins.map (kc:Str->Key)).map kV:=by rw[jK];rfl
 show aa U (aF hp U (aa U ⟨I,ia,ins.map kc,G.map V.int,U,by rw[← ZD];show af.of hI,af.of G0,by rw[aA,aA];show mo,by rw[aA];lia,λD hD=>?_⟩))
 rw[T9]
 have s2:=aH hD (.dK (putAll [] (iY (jl ins) G)))
 have eD:(upd H1 D (.dK (putAll [] (iY (jl ins) G)))) D=S (.dK (putAll [] (iY (jl ins) G))):=ai
 generalize upd H1 D (.dK (putAll [] (iY (jl ins) G)))=H3 at s2 eD ⊢
 have NI:=s2 _ _ hB
 have pb3:Paired (eX H3) vb bs:=Paired.bc pb λx x z=>Tp.keep (ag.tk s2) z
 show aa U (aF (s2 _ _ hp) U (aL U ⟨_,af.of NI⟩ (λl hl=>fT (xs:=vb) (λi H4=>(∀b o,H3 b=S o->H4 b=S o)/\H4 l=S (.lst (((gI bs ins G).take i).map V.int))) ⟨aH hl _,ai⟩ (λi H4 x z=>af.of (z.1 _ _ NI)) (λi x0 H4 hx z=>?_) (λH4 z=>?_))))
 . obtain⟨z,pJ⟩:=z
   obtain⟨b,dt,pp,rfl,pP⟩:=Paired.get pb3 hx
   have bC:i<↑vb:=(bt hx)
   have aao:(bu (putAll [] (iY (jl ins) G)) (.inr b.1)).getD (.int 0)=V.int (jz ins G b.1):=by
     by_cases m:b.1∈ins
     . have hv:=IM (jl ins) G [] b.1 (by unfold jl;rw[aA];show mo) (by rw[tX];show ft.ind) (by rw[tX];show m)
       rw[hv]
       rfl
     . have hv:bu (putAll [] (iY (jl ins) G)) (.inr b.1)=Z:=by
         rw[IL _ _ _ (λzz=>by
           obtain⟨y,hy,e2⟩:=Ho (jl ins) G _ zz
           injection e2 with e2
           rw[tX]at hy
           show m (e2▸hy))]
         rfl
       rw[hv,show jz ins G b.1=0 from zM (by rw[tX];show m)]
       rfl
   show gC (z _ _ pP) (dW (A:=λH5=>cR _ l _ H5 _) (aa U ⟨D,U,.inl ⟨_,.inl (z _ _ eD)⟩,aa U ⟨_,dN.k (k:=.inr b.1) (z _ _ eD),?_⟩⟩))
   rw[aao]
   show⟨_,pJ,da (by rw[aA,cp];unfold gI;rw[aA];lia),cO (Pv:=λi H4=>(∀b o,H3 b=S o->H4 b=S o)/\H4 l=S (.lst (((gI bs ins G).take i).map V.int))) (by repeat' constructor) bC ⟨λc o hc=>?_,?_⟩⟩
   . rw[aC (aR hc hl)]
     show z c o hc
   . rw[ai,cV,show(gI bs ins G)[i]?=S (jz ins G b.1)by unfold gI;rw[eI,dt];rfl,cq]
     rfl
 . obtain⟨z,pJ⟩:=z
   have et:(gI bs ins G).take ↑vb=gI bs ins G:=by
     have:↑vb=↑(gI bs ins G):=by unfold gI;rw[aA];show gY
     rw[this,cL]
   rw[et]at pJ
   show q l H4 (b9 (ah s1 s2) hl) (ah s1 (ah s2 z)) pJ
abbrev Jd:Stmt:=top 18
def JO:Sp:=λvs H Q z=>∃(v:V) (bs:ak),vs=[v]/\jN H v bs/\↑bs<=900/\∀l,H l=Z->Q (.ref l) (upd H l (.lst ((bs.map (·.2)).map V.int)))
def agi:bE ["program"] ["program"] (aV Jd):=bP
def acu {f:J}{fd:ba}(F:bq K "box_sizes" "box_sizes" Jd f fd):aU P w K mg base bj 1 f fd ["program"] JO:=by
 show F.bZ agi λim A outer s H vs Q E hr h=>?_
 obtain⟨v,bs,rfl,⟨p,B,I,N,O,rfl,hp,hB,pb⟩,vB,q⟩:=h
 show⟨_,akf (ajI (ajN (aj6 [Z,Z] ["name","size"] (dq Jd) U (aj4 (ajG ajM (Y 0) ajF)) (λz z z z z=>⟨(aj1 2 (ajQ (ajK 0 (bM ["name","size"])) (ajQ (ajK 1 (bM ["name","size"])) aj2))),aj3,(Y 1)⟩)))),?_⟩
 have gY:O.length=↑bs:=Paired.length pb
 show aa U (aF hp U (aL U ⟨_,af.of hB⟩ (λG e8=>?_)))
 have yU:B≠G:=aR hB e8
 show fT (xs:=O) (λi H2=>H2=upd H G (.lst ((bs.take i).map λb=>V.int b.2))) rfl (λi H2 z e=>?_) (λi x H2 hx e=>?_) (λH2 e=>?_)
 . subst e
   show af.of (by rw[aC yU];show hB)
 . subst e
   obtain⟨b,dt,p,rfl,hp⟩:=Paired.get pb hx
   have bC:i<O.length:=(bt hx)
   show gC (by rw[aC (aR hp e8)];show hp) (dW (A:=λH3=>cR (qh 1) G _ H3 _) (aa U ⟨_,ai,da (by rw[aA,cp];lia),cO (Pv:=λi H2=>H2=upd H G (.lst ((bs.take i).map λb=>V.int b.2))) (by repeat' constructor) bC ?_⟩))
   rw[kZ]
   congr 2
   rw[cV,dt,cq]
   rfl
 . subst e
   have et:(bs.take O.length).map (λb=>V.int b.2)=(bs.map (·.2)).map V.int:=by rw[gY,cL,jK];rfl
   rw[et]
   show q G e8
abbrev iH (b1 b2:ak):Str->Str->Prop:=λt x=>(t="mine"/\x∈b1.map (·.1))\/(t="yours"/\x∈b2.map (·.1))
def eY (b1:ak)(G:↥Int)(b2:ak)(I:↥Int):Str->Str->Int:=λt x=>if t="mine" then b7 b1 G x else b7 b2 I x
def cu.bx {H:Hp}{v:V}{bs:ak}{ins:↥Str}{cr:↥Nd}(h:cu H v bs ins cr):jN H v bs:=by
 obtain⟨p,B,I,N,G,vn,e,h1,h2,h3,h4,O,h6⟩:=h
 show⟨p,B,_,_,G,e,h1,h2,O⟩
abbrev Rf:Stmt:=top 30
structure L6 (H:Hp)(v1 v2:V)(b1 b2:ak)(ins:↥Str)(n1 n2:↥Nd):Prop where
 p1:cu H v1 b1 ins n1
 p2:cu H v2 b2 ins n2
 f1:Fits b1 ins
 f2:Fits b2 ins
 sz:ins.map (cb b1)=ins.map (cb b2)
def R9:Sp:=λvs H Q z=>∃(v1 v2:V) (b1 b2:ak) (ins:↥Str) (n1 n2:↥Nd),vs=[v1,v2]/\L6 H v1 v2 b1 b2 ins n1 n2/\∀H',ag H H'->Q .aM H'
def agq:bE ["one","other"] ["one","other"] (aV Rf):=bP
def acO {f:J}{fd:ba}(F:bq K "refuse_no_pair" "refuse_no_pair" Rf f fd)(O:aP P w K mg base "input_sizes" ["program"] 1 um):aU P w K mg base bj 2 f fd ["one","other"] R9:=by
 show F.bZ agq λim A outer s H vs Q E G h=>?_
 obtain⟨v1,v2,b1,b2,ins,n1,n2,rfl,T,q⟩:=h
 show cK ⟨_,(ajI (ajU (akm (akj (ajS (L3.v5 (m:=0) (cI G _ ∅)) (ajG ajM (Y 0) ajF) (ajG ajM (Y 1) ajF)) (aks (ajS (L3.v5 (m:=0) (cI G _ ∅)) (ajR O G U (L (Y 0) M)) (ajR O G U (L (Y 1) M)))))) L3.never ajV)),?_⟩
 obtain⟨p,B,I,N,vb,vn,rfl,hp,hB,hI,hN,pb,pn⟩:=T.p1
 obtain⟨p',B',I',N',TH,Kq,rfl,jk,NH,Bu,F6,Qe,II⟩:=T.p2
 have eqs:∀{H:Hp} {n:Nat} {xs:↥V},(∀x∈xs,fG x=true)->∀(j:Nat) (x y:V),xs[j]?=S x->xs[j]?=S y->ET K H n x y:=λhf j x y hx hy=>by
   rw[hx]at hy
   cases hy
   show ET.refl (.inl (hf x (bI hx)))
 have fs:∀x∈ins.map V.str,fG x=true:=λx hx=>by obtain⟨z,_,rfl⟩:=du hx;rfl
 have fi:∀(l:↥Int),∀x∈l.map V.int,fG x=true:=λl x hx=>by obtain⟨z,_,rfl⟩:=du hx;rfl
 show aa U (aF hp U (aa U (aF jk U ⟨true,RB.lst (af.of hI) (af.of Bu) rfl (eqs fs),aa U (aG (λc=>ao c ∅) (λv=>aa U ⟨_,b1,ins,n1,U,T.p1,T.f1,λl1 H1 EQ s1 g1=>aa U ⟨_,b2,ins,n2,U,T.p2.same s1,T.f2,λl2 H2 wP s2 g2=>?_⟩⟩))⟩)))
 rw[← T.sz]at g2
 show⟨true,RB.lst (af.of (s2 _ _ g1)) (af.of g2) rfl (eqs (fi _)),aa U (aG (λc=>ao c ∅) (λv=>q _ (ah s1 s2)))⟩
abbrev Jg:Stmt:=top 28
def ext (n:Nat)(r:↥Int):↥(↥Int):=(cj n).map λw=>r++[((w:Nat):Int)]
def cm:↥Int->↥(↥Int)
 | []=>[[]]
 | s::G=>(cj s.toNat).flatMap λw=>(cm G).map λr=>((w:Nat):Int)::r
theorem NC:∀(G:↥Int) (s:Int),cm (G++[s])=(cm G).flatMap (ext s.toNat)
 | [],s=>by
   change(cj s.toNat).flatMap (λw=>[[((w:Nat):Int)]])=[[]].flatMap (ext s.toNat)
   rw[Aa,K3,jJ]
   change _=(cj s.toNat).map λw=>[]++[((w:Nat):Int)]
   generalize cj s.toNat=l
   induction l with
   | nil=>rfl
   | cons x l I=>rw[Aa,I];rfl
 | a::G,s=>by
   change(cj a.toNat).flatMap (λw=>(cm (G++[s])).map λr=>((w:Nat):Int)::r)=((cj a.toNat).flatMap λw=>(cm G).map λr=>((w:Nat):Int)::r).flatMap (ext s.toNat)
   rw[List.flatMap_assoc]
   congr 1
   funext w
   rw[NC G s,List.map_flatMap,List.flatMap_map]
   congr 1
   funext r
   unfold ext
   rw[jK]
   rfl
theorem tG:∀(G:↥Int) (r:↥Int),r∈cm G->↑r=G.length
 | [],r,h=>by rw[dv h]
 | s::G,r,h=>by
   obtain⟨w,_,h⟩:=List.mem_flatMap.mp h
   obtain⟨q,hq,rfl⟩:=du h
   rw[gF,gF,tG G q hq]
theorem HR (n:Nat):∀G:↥(↥Int),↑(G.flatMap (ext n))=G.length*n
 | []=>by simp
 | r::G=>by
   rw[Aa,cJ,HR n G,gF]
   unfold ext
   rw[aA,lp,uL,Lj]
def EM (H:Hp)(a:J)(r:↥Int):Prop:=H a=S (.lst (r.map V.int))
structure Own (H H2:Hp)(l:J)(as:↥J)(bi:↥(↥Int)):Prop where
 s:ag H H2
 nl:H l=Z
 na:∀a∈as,H a=Z
 e:H2 l=S (.lst (as.map V.ref))
 p:Paired (EM H2) as bi
 nd:as.Nodup
 nin:l∉as
theorem Paired.Pf {α β:Type}{F G:α->β->Prop}:∀{l₁:List α} {l₂:List β},Paired F l₁ l₂->(∀a b,a∈l₁->F a b->G a b)->Paired G l₁ l₂
 | _,_,.nil,_=>.nil
 | _,_,.cons h r,f=>.cons (f _ _ oK h) (Paired.Pf r λa b ha=>f a b (dS (.inr ha)))
def Own.from {H0 H H2:Hp}{l:J}{as:↥J}{G:↥(↥Int)}(h:Own H H2 l as G)(s:ag H0 H):Own H0 H2 l as G:=
 ⟨ah s h.s,b9 s h.nl,λa ha=>b9 s (h.na a ha),h.e,h.p,h.nd,h.nin⟩
def Own.more {H H2:Hp}{l:J}{as:↥J}{I:↥(↥Int)}(h:Own H H2 l as I){b:J}{r:↥Int}(hb:H2 b=Z)(G:Hp)(O:ag H2 G)(e3:G b=S (.lst (r.map V.int))) :
   Own H (upd G l (.lst ((as++[b]).map V.ref))) l (as++[b]) (I++[r]):=by
 have nb:b≠l:=λz=>by rw[z,h.e]at hb;cases hb
 have yU:b∉as:=λz=>by
   obtain⟨i,hi⟩:=j9 z
   obtain⟨q,_,hq⟩:=Paired.get h.p hi
   rw[show H2 b=S (.lst (q.map V.int))from hq]at hb
   cases hb
 have YO:H b=Z:=b9 h.s hb
 show⟨λc o hc=>?_,h.nl,λa ha=>?_,ai,Paired.snoc ?_ ?_,?_,λz=>?_⟩
 . rw[aC (aR hc h.nl)]
   show O _ _ (h.s _ _ hc)
 . rcases eT ha with ha|ha
   . show h.na a ha
   . rw[dv ha];show YO
 . show Paired.Pf h.p λa r ha z=>?_
   change upd G l _ a=_
   rw[aC (λe:a=l=>h.nin (e▸ha))]
   show O _ _ z
 . change upd G l _ b=_
   rw[aC nb]
   show e3
 . rw[Lf]
   show⟨h.nd,by simp,λx hx y hy e=>yU (by rw[dv hy]at e;show e▸hx)⟩
 . rcases eT z with z|z
   . show h.nin z
   . show nb (dv z).symm
def C5:Sp:=λvs H Q z=>∃(I:J) (G:↥Int),vs=[.ref I]/\H I=S (.lst (G.map V.int))/\(∀s∈G,0<=s/\s<=900)/\G.length<=900/\(∀i,↑(cm (G.take i))<=900)/\∀l as H',Own H H' l as (cm G)->Q (.ref l) H'
def CU:bE ["sizes","rows","size"] ["sizes"] (aV Jg):=bP
def acE {f:J}{fd:ba}(F:bq K "every_worths" "every_worths" Jg f fd)(m_range:mg "range"=Z):aU P w K mg base bj 1 f fd ["sizes"] C5:=by
 show F.bZ CU λim A outer s H vs Q E hr h=>?_
 obtain⟨sa,I,rfl,qT,hsz,aiR,hg,q⟩:=h
 show⟨_,akf (ajH (ajT 1 CU.nd (ajW (L (ajW M) M)))
   (ajH (aj8 (aj4 (Y 0)) (ajK 2 CU.nd) (ajI (L3.agN (i:=1) [Z,Z,S 2] ["row","worth","size"] (dq Jg) U (aj4 (Y 1)) (λy y y y y=>⟨(ajK 0 (bM ["row","worth","size"])),aj3,(akr U m_range (L (Y 2) M)),(ajK 1 (bM ["row","worth","size"])),aj3,(ajJ akl (Y 0) (ajW (L (Y 1) M)))⟩) CU.nd)))
   (ajI (ajN (Y 1))))),?_⟩
 show⟨alI,λe0 N9=>⟨alJ,λr0 gM=>?_⟩⟩
 have s1:=aH N9 (.lst [])
 have e1:(upd H e0 (.lst [])) e0=S (.lst []):=ai
 generalize upd H e0 (.lst [])=Ha at s1 e1 gM ⊢
 have s2:=aH gM (.lst [.ref e0])
 have e2:(upd Ha r0 (.lst [.ref e0])) r0=S (.lst [.ref e0]):=ai
 generalize upd Ha r0 (.lst [.ref e0])=H1 at s2 e2 ⊢
 have Go:=ah s1 s2
 have O1:Own H H1 r0 [e0] (cm (I.take 0)):=⟨Go,b9 s1 gM,λa ha=>by rw[dv ha];show N9,e2,.cons (s2 _ _ e1) .nil,by simp,λz=>by rw[dv z,e1]at gM;cases gM⟩
 show aa U (aL U ⟨_,af.of (Go _ _ qT)⟩ (nS (xs:=I.map V.int) (λi σ H2=>∃(l:J) (as:↥J) (o2:Option V),σ=[S (.ref sa),S (.ref l),o2]/\Own H H2 l as (cm (I.take i))) ⟨_,_,aa U O1⟩ (λi σ H2 y z=>?_) (λi x0 σ H2 hx z=>?_) (λσ H2 z=>?_)))
 . obtain⟨l,as,o2,rfl,O⟩:=z
   show af.of (O.s _ _ qT)
 . obtain⟨l,as,o2,rfl,O⟩:=z
   obtain⟨G,GH,rfl⟩:=eh hx
   obtain⟨z0,z9⟩:=hsz G (bI GH)
   have hi:i<I.length:=(bt GH)
   have Om:cm (I.take (i+1))=(cm (I.take i)).flatMap (ext G.toNat):=by
     rw[cV,GH]
     show NC _ _
   have ai8:↑(cm (I.take i))*G.toNat<=900:=by
     have:=hg (i+1)
     rw[Om,HR]at this
     show this
   have tJ:↑as=↑(cm (I.take i)):=Paired.length O.p
   show aa U (aL U ⟨_,af.of O.e⟩ (λD hD=>fT (xs:=as.map V.ref) (λj H3=>∃bs,Own H2 H3 D bs (((cm (I.take i)).take j).flatMap (ext G.toNat))) ⟨[],aH hD _,hD,(λa ha=>nomatch ha),ai,.nil,List.nodup_nil,(λz=>nomatch z)⟩ (λj H3 y z=>?_) (λj x H3 hx z=>?_) (λH3 z=>?_)))
   . obtain⟨bs,O3⟩:=z
     show af.of (O3.s _ _ O.e)
   . obtain⟨bs,O3⟩:=z
     obtain⟨a,ha,rfl⟩:=eh hx
     have vH:j<↑as:=(bt ha)
     have Zi:j<↑(as.map V.ref):=by rw[aA];show vH
     obtain⟨r,bJ,jS⟩:=Paired.get O.p ha
     have mS:↑r<=900:=by
       have:=tG _ _ (bI bJ)
       rw[cp]at this
       lia
     show bO (dW (A:=λH4=>B8 _ _ _ (cR _ D) _ H4 _) (aa U ⟨G,U,⋯,⋯,?_⟩))
     show vj (lo:=0) (n:=G.toNat) (λk H4=>∃bs,Own H2 H4 D bs (((cm (I.take i)).take j).flatMap (ext G.toNat)++(ext G.toNat r).take k)) ⟨bs,by rw[wZ,jJ];show O3⟩ (λk H4 hk z=>?_) (λH4 z=>?_)
     . obtain⟨cs,O4⟩:=z
       have nX:↑cs=j*G.toNat+k:=by
         have:=Paired.length O4.p
         rw[cJ,HR,cp,cp]at this
         unfold ext at this
         rw[aA,lp]at this
         rw[this,Aj ⋯,Aj ⋯]
       have Ga:↑cs<901:=by
         have h1:(j+1)*G.toNat<=↑(cm (I.take i))*G.toNat:=D7 _ ⋯
         rw[uL]at h1
         lia
       show bO (dW (A:=λH5=>cR _ D _ H5 _) (aa U (aL U alJ (λwl hwl=>?_))))
       have t1:=aH hwl (.lst [.int (0+(k:Int))])
       have u1:(upd H4 wl (.lst [.int (0+(k:Int))])) wl=S (.lst [.int (0+(k:Int))]):=ai
       generalize upd H4 wl (.lst [.int (0+(k:Int))])=H5 at t1 u1 ⊢
       have Yt:H4 a=S (.lst (r.map V.int)):=O4.s _ _ jS
       show⟨a,wl,aw U U ⟨t1 _ _ Yt,u1,small (by simp;lia),λnb fH=>?_⟩⟩
       have t2:=aH fH (.lst (r.map V.int++[.int (0+(k:Int))]))
       have u2:(upd H5 nb (.lst (r.map V.int++[.int (0+(k:Int))]))) nb=S (.lst ((r++[(k:Int)]).map V.int)):=by
         rw[ai,cq,zZ]
         rfl
       generalize upd H5 nb (.lst (r.map V.int++[.int (0+(k:Int))]))=H6 at t2 u2 ⊢
       have Sw:=ah t1 t2
       show⟨_,Sw _ _ O4.e,da (by rw[aA];lia),cO (Pv:=λk H4=>∃bs,Own H2 H4 D bs (((cm (I.take i)).take j).flatMap (ext G.toNat)++(ext G.toNat r).take k)) (by repeat' constructor) hk ⟨cs++[nb],?_⟩⟩
       have O5:=O4.more (b9 t1 fH) H6 Sw u2
       rw[cq]at O5
       have er:(ext G.toNat r).take (k+1)=(ext G.toNat r).take k++[r++[(k:Int)]]:=by
         rw[cV]
         congr 1
         unfold ext
         rw[eI,uJ hk]
         rfl
       rw[er,← z7]
       show O5
     . obtain⟨cs,O4⟩:=z
       show cO (Pv:=λj H3=>∃bs,Own H2 H3 D bs (((cm (I.take i)).take j).flatMap (ext G.toNat))) (by repeat' constructor) Zi ⟨cs,?_⟩
       have e1:(ext G.toNat r).take G.toNat=ext G.toNat r:=nj (by unfold ext;rw[aA,lp];show aK _)
       rw[e1]at O4
       rw[cV,bJ,List.flatMap_append]
       change Own H2 H4 D cs (_++[r].flatMap (ext G.toNat))
       rw[Aa,K3,jJ]
       show O4
   . obtain⟨bs,O3⟩:=z
     rw[aA,tJ,cL,← Om]at O3
     show⟨D,bs,aa U (O3.from O.s)⟩
 . obtain⟨l,as,o2,rfl,O⟩:=z
   rw[aA,cL]at O
   show aa U (q l as H2 O)
def E.dB (f:Str->Str):E->E
 | .num n=>.num n|.box t x=>.box t (f x)|.yes=>.yes|.nt a=>.nt (a.dB f)|.two k a b=>.two k (a.dB f) (b.dB f)
def Nd.as (f:Str->Str)(g:Int->Int):Nd->Nd
 | .put x s n=>.put (f x) (s.dB f) (g n)|.say s n=>.say (s.dB f) (g n)|.test c n o=>.test (c.dB f) (g n) (g o)|.fin=>.fin
def jt (H:Hp)(c:J)(G:↥Str)(f:Str->Str):Prop:=∃kvs,H c=S (.dK kvs)/\∀x∈G,bu kvs (.inr x)=S (.str (f x))
def jt.same {H H':Hp}{c:J}{G:↥Str}{f:Str->Str}(h:jt H c G f)(s:ag H H'):jt H' c G f:=by obtain⟨kvs,e,v⟩:=h;show⟨kvs,s _ _ e,v⟩
def jt.get {H:Hp}{c:J}{G:↥Str}{f:Str->Str}(h:jt H c G f){x:Str}(hx:x∈G):dN H c (.str x) (S (.str (f x))):=by
 obtain⟨kvs,e,v⟩:=h
 have g:=dN.k (k:=.inr x) e
 rw[v x hx]at g
 show g
inductive Pt where
 | plain (v:V)|tree (e:E)
def Pt.isAt (H:Hp):V->Pt->Prop
 | v,.plain u=>v=u/\((∃s,u=.str s)\/∃i,u=.int i)
 | v,.tree e=>bL H v e
def Pt.pZ (g:E->E)(H:Hp):V->Pt->Prop
 | v,.plain u=>v=u
 | v,.tree e=>bL H v (g e)
theorem Pt.pZ.keep {g:E->E}{H H':Hp}(k:TK H H'):∀{pt:Pt} {v:V},Pt.pZ g H v pt->Pt.pZ g H' v pt
 | .plain _,_,h=>h
 | .tree _,_,h=>bL.keep k h
def Pt.v8 (P:Str->Str->Prop)(n:Nat):Pt->Prop
 | .plain _=>True
 | .tree e=>e.okIn P/\e.dep<n
structure Mp (g:E->E):Prop where
 num:∀m,g (.num m)=.num m
 yes:g .yes=.yes
 nt:∀a,g (.nt a)=.nt (g a)
 two:∀k a b,g (.two k a b)=.two k (g a) (g b)
def ad3 {H:Hp}{v:V}{e:E}{P:Str->Str->Prop}{n:Nat}{g:E->E}(mp:Mp g)(ev:bL H v e)(ok:e.okIn P)(hd:e.dep<n+1):(∃t x,e=.box t x/\P t x)\/∃(p:J) (xs:↥V) (pts:↥Pt) (s0:Str),v=.ref p/\H p=S (.tup xs)/\Paired (Pt.isAt H) xs pts/\de xs 0=S (.str s0)/\(s0≠"box"/\s0≠"mine"/\s0≠"yours")/\(∀pt∈pts,pt.v8 P n)/\↑xs<=4 /\
   ∀(O:J) (ys:↥V) (H':Hp),H' O=S (.tup ys)->Paired (Pt.pZ g H') ys pts->bL H' (.ref O) (g e):=by
 have one:∀{a:Pt},a.v8 P n->∀pt∈[a],pt.v8 P n:=λh pt I=>by rw[dv I];show h
 have more:∀{a:Pt} {l:↥Pt},a.v8 P n->(∀pt∈l,pt.v8 P n)->∀pt∈a::l,pt.v8 P n:=λh k pt I=>(dG I).elim (λz=>z▸h) (k pt)
 cases e with
 | num m=>
   obtain⟨p,rfl,I⟩:=ev
   show .inr ⟨p,_,[.plain (.str "number"),.plain (.int m)],"number",U,I,.cons ⟨U,.inl ⟨_,U⟩⟩ (.cons ⟨U,.inr ⟨_,U⟩⟩ .nil),U,∅,more trivial (one trivial),by change 2<=4;decide,λO ys H' jk G=>?_⟩
   rw[mp.num]
   cases G with
   | cons h1 G=>cases G with
     | cons h2 G=>cases G;cases h1;cases h2;show⟨O,rfl,jk⟩
 | box t x=>show .inl ⟨t,x,rfl,ok⟩
 | yes=>
   obtain⟨p,rfl,I⟩:=ev
   show .inr ⟨p,_,[.plain (.str "yes")],"yes",U,I,.cons ⟨U,.inl ⟨_,U⟩⟩ .nil,U,∅,one trivial,by change 1<=4;decide,λO ys H' jk G=>?_⟩
   rw[mp.yes]
   cases G with
   | cons h1 G=>cases G;cases h1;show⟨O,rfl,jk⟩
 | nt a=>
   obtain⟨x,⟨p,rfl,I⟩,ax⟩:=ev
   have iV:a.dep+1<n+1:=hd
   show .inr ⟨p,_,[.plain (.str "not"),.tree a],"not",U,I,.cons ⟨U,.inl ⟨_,U⟩⟩ (.cons ax .nil),U,∅,more trivial (one ⟨ok,⋯⟩),by change 2<=4;decide,λO ys H' jk G=>?_⟩
   rw[mp.nt]
   cases G with
   | cons h1 G=>cases G with
     | cons h2 G=>cases G;cases h1;show⟨_,⟨O,rfl,jk⟩,h2⟩
 | two k a b=>
   obtain⟨x,y,⟨p,rfl,I⟩,ax,ay⟩:=ev
   have iV:max a.dep b.dep+1<n+1:=hd
   show .inr ⟨p,_,[.plain (.str k.str),.tree a,.tree b],k.str,U,I,.cons ⟨U,.inl ⟨_,U⟩⟩ (.cons ax (.cons ay .nil)),U,by cases k<;>decide,more trivial (more ⟨ok.1,⋯⟩ (one ⟨ok.2,⋯⟩)),by change 3<=4;decide,λO ys H' jk G=>?_⟩
   rw[mp.two]
   cases G with
   | cons h1 G=>cases G with
     | cons h2 G=>cases G with
       | cons h3 G=>cases G;cases h1;show⟨_,_,⟨O,rfl,jk⟩,h2,h3⟩
abbrev CL:Stmt:=top 59
def rp (n:Nat):Sp:=λvs H Q z=>∃(v:V) (c:J) (e:E) (G:↥Str) (f:Str->Str),vs=[v,.ref c]/\bL H v e/\e.okIn (yZ G)/\jt H c G f/\e.dep<n/\∀(I:V) (H':Hp),ag H H'->bL H' I (e.dB f)->Q I H'
def agu:bE ["thing","called"] ["thing","called"] (aV CL):=bP
def ac3 {n:Nat}{f:J}{fd:ba}(F:bq K "_law_renamed" "_law_renamed" CL f fd)(O:mg "tuple"=Z)(I:mg "isinstance"=Z)(G:aP P w K mg base "_law_renamed" ["thing","called"] (n+1) (rp n)):aU P w K mg base bj (n+2) f fd ["thing","called"] (rp (n+1)):=by
 show F.bZ agu λim A outer s H vs Q E hr h=>?_
 obtain⟨v,c,e,XV,g,rfl,ev,ok,ca,hd,q⟩:=h
 show cK ⟨_,(ajH (ajU (ajS ajZ (ajG ajM (Y 0) ajF) ajL) (ajI (ajN (ajO (L ajL (L (akk (cI hr _ ∅) (Y 1) (ajG ajM (Y 0) ajF)) M))))) ajV)
   (ajI (ajN (aka L3.Fm U O (by right) (L (aj6 [Z,S 1] ["part","called"] (dq CL) U (L3.iT (Y 0)) (λr r r r r=>⟨(ajK 0 (bM ["part","called"])),aj3,(L3.BP (akp (aj0 L3.Mw U I (by right) (L (Y 0) (L (L3.E9 (w:=.ty "tuple") U O (by right) rfl) M)))) (ajR G hr U (L (Y 0) (L (Y 1) M))) (Y 0))⟩)) M))))),?_⟩
 have mp:Mp (TW.E.dB g):=⟨λr=>rfl,rfl,λr=>rfl,λr r r=>rfl⟩
 rcases ad3 mp ev ok hd with⟨_,x,rfl,rfl,hx⟩|⟨p,xs,pts,s0,rfl,hp,pp,h0,pO,okp,pJ,fin⟩
 . obtain⟨p,rfl,hp⟩:=ev
   show aa U (aF hp U (aN U U (aG (λr=>?_) (λc=>ao (bS rfl) c))))
   show aa U (aa U (aF hp U ⟨c,aa U ⟨ca.get hx,alK,λp2 bp=>q _ _ (aH bp _) ⟨p2,U,ai⟩⟩⟩))
 . show aa U (aF hp h0 (aN U U (aG (λc=>ao (bw c) (λz=>pO.1 (by injection z))) (λr=>aa U ⟨p,U,⟨_,bQ.of hp⟩,λnb fH=>Wh (xs:=xs) (λi H2=>∃ys:↥V,ag H H2/\H2 nb=S (.lst ys)/\↑ys=i/\Paired (Pt.pZ (TW.E.dB g) H2) ys (pts.take i)) ⟨[],aH fH _,ai,U,.nil⟩ (λi H2 r z=>bQ.of (z.choose_spec.1 _ _ hp)) (λi x H2 hx z=>?_) (λH2 z=>?_)⟩))))
   . obtain⟨ys,s2,kH,OG,py⟩:=z
     obtain⟨pt,Ov,eL⟩:=Paired.get pp hx
     have bC:i<↑xs:=(bt hx)
     have P7:=okp pt (bI Ov)
     show bO (dW (A:=λH3=>cR _ nb _ H3 _) ?_)
     have Nh:∀(v:V) (H3:Hp),ag H2 H3->Pt.pZ (TW.E.dB g) H3 v pt->∃ys,H3 nb=S (.lst ys)/\↑ys<sizeLine/\∃zR,ag H (upd H3 nb (.lst (ys++[v])))/\(upd H3 nb (.lst (ys++[v]))) nb=S (.lst zR)/\↑zR=i+1/\Paired (Pt.pZ (TW.E.dB g) (upd H3 nb (.lst (ys++[v])))) zR (pts.take (i+1)):=λv H3 s3 ho=>by
       have mJ:=s3 _ _ kH
       show⟨ys,mJ,da ⋯,ys++[v],cD (ah s2 s3) fH,ai,by rw[cJ,OG];rfl,?_⟩
       rw[cV,Ov]
       show Paired.snoc (Paired.bc py λa b h=>h.keep ((ag.tk s3).trans (TK.lst mJ))) (ho.keep (TK.lst mJ))
     cases pt with
     | plain u=>
       obtain⟨rfl,hu⟩:=eL
       have hty:∃T:String,jv K H2 x (.type T)/\fZ K (.type T) (.type "tuple")=S false:=by
         rcases hu with⟨s,rfl⟩|⟨i,rfl⟩
         . show⟨"str",.str s,U⟩
         . show⟨"int",.int i,U⟩
       obtain⟨T,ty,kit⟩:=hty
       obtain⟨KC,g1,g2,g3⟩:=Nh x H2 (same_refl _) rfl
       show aa U ⟨x,"tuple",_,false,U,ty,kit,aa U (mV (aa U ⟨KC,g1,g2,cO (Pv:=λi H2=>∃ys:↥V,ag H H2/\H2 nb=S (.lst ys)/\↑ys=i/\Paired (Pt.pZ (TW.E.dB g) H2) ys (pts.take i)) (by repeat' constructor) bC g3⟩))⟩
     | tree e1=>
       obtain⟨px,ex,hpx⟩ : ∃px,x=.ref px/\∃us,H px=S (.tup us):=by
         have x8:bL H x e1:=eL
         cases e1 with
         | num m=>obtain⟨p,e,h⟩:=x8;show⟨p,e,_,h⟩
         | box t y=>obtain⟨p,e,h⟩:=x8;show⟨p,e,_,h⟩
         | yes=>obtain⟨p,e,h⟩:=x8;show⟨p,e,_,h⟩
         | nt a=>obtain⟨_,⟨p,e,h⟩,_⟩:=x8;show⟨p,e,_,h⟩
         | two k a b=>obtain⟨_,_,⟨p,e,h⟩,_,_⟩:=x8;show⟨p,e,_,h⟩
       obtain⟨us,BO⟩:=hpx
       subst ex
       show aa U ⟨.ref px,"tuple",_,true,U,.tup (s2 _ _ BO),aN U U (oh (aa U (aa U ⟨.ref px,c,e1,XV,g,U,bL.keep (ag.tk s2) eL,P7.1,ca.same s2,P7.2,λv' H3 s3 WR=>?_⟩)))⟩
       obtain⟨KC,g1,g2,g3⟩:=Nh v' H3 s3 WR
       show⟨KC,g1,g2,cO (Pv:=λi H2=>∃ys:↥V,ag H H2/\H2 nb=S (.lst ys)/\↑ys=i/\Paired (Pt.pZ (TW.E.dB g) H2) ys (pts.take i)) (by repeat' constructor) bC g3⟩
   . obtain⟨ys,s2,kH,OG,py⟩:=z
     rw[Paired.length pp,cL]at py
     show aw U (af.of kH) (λp' jk=>q _ _ (bR s2 jk) (fin p' ys _ ai (Paired.bc py λa b h=>h.keep (bN jk _))))
def abR {f:J}{fd:ba}:aU P w K mg base bj 1 f fd ["thing","called"] (rp 0):=by
 have no:∀vs H Q E,¬ rp 0 vs H Q E:=λvs H Q E h=>by
   obtain⟨_,_,_,_,_,_,_,_,_,h1,_⟩:=h
   lia
 show⟨λvs H Q E h=>ao h (no vs H Q E),λA outer s H args us vs Q E z z z z h=>ao h (no vs H Q E)⟩
def YC (s:Src K mg "_law_renamed" CL)(I:mg "tuple"=Z)(G:mg "isinstance"=Z):∀n:Nat,aP P w K mg base "_law_renamed" ["thing","called"] (n+1) (rp n):=by
 obtain⟨f,fd,F,m⟩:=s
 have b:Binds K fd ["thing","called"] []:=je F λz z z z z z z z=>rfl
 intro n
 have all:aU P w K mg base bj (n+1) f fd ["thing","called"] (rp n):=by
   induction n with
   | zero=>show abR
   | succ n O=>show ac3 F I G ⟨f,fd,O,F.kp,b,m⟩
 show⟨f,fd,all,F.kp,b,m⟩
abbrev Rh:Stmt:=top 60
abbrev Rq:Stmt:=top 62
def eG (ps:↥Int)(n:Int):Int:=ps.getD n.toNat 0
def zo {ps:↥Int}{n:Int}(G:0<=n)(h1:n<(↑ps:Int)):de (ps.map V.int) n=S (.int (eG ps n)):=by
 obtain⟨x,g,_,e⟩:=mF V.int ps G h1
 rw[e]
 unfold eG
 rw[eR,g]
 rfl
def Sb:Sp:=λvs H Q z=>∃(v:V) (c pl:J) (e:Nd) (G:↥Str) (f:Str->Str) (ps:↥Int),vs=[v,.ref c,.ref pl]/\cB H v e/\e.good (·∈G) ↑ps 5/\jt H c G f/\H pl=S (.lst (ps.map V.int))/\∀(I:V) (H':Hp),ag H H'->cB H' I (e.as f (eG ps))->Q I H'
def ags:bE ["node","called","places"] ["node","called","places"] (aV Rh):=bP
def acR {f:J}{fd:ba}(F:bq K "_law_node_as" "_law_node_as" Rh f fd)(R:aP P w K mg base "_law_renamed" ["thing","called"] 7 (rp 6)):aU P w K mg base bj 8 f fd ["node","called","places"] Sb:=by
 show F.bZ ags λim A outer s H vs Q E hr h=>?_
 obtain⟨v,c,pl,e,XV,g,ps,rfl,ev,gd,ca,Ev,q⟩:=h
 show cK ⟨_,(ajH (ajU (ajS ajZ (ajG ajM (Y 0) ajF) ajL) (ajI (ajN (ajO (L ajL (L (akk (cI hr _ ∅) (Y 1) (ajG ajM (Y 0) ajF)) (L (ajR R hr U (L (ajG ajM (Y 0) ajF) (L (Y 1) M))) (L (ajG ajP (Y 2) (ajG ajM (Y 0) ajF)) M))))))) ajV)
   (ajH (ajU (ajS ajZ (ajG ajM (Y 0) ajF) ajL) (ajI (ajN (ajO (L ajL (L (ajR R hr U (L (ajG ajM (Y 0) ajF) (L (Y 1) M))) (L (ajG ajP (Y 2) (ajG ajM (Y 0) ajF)) M)))))) ajV)
   (ajH (ajU (ajS ajZ (ajG ajM (Y 0) ajF) ajL) (ajI (ajN (ajO (L ajL (L (ajR R hr U (L (ajG ajM (Y 0) ajF) (L (Y 1) M))) (L (ajG ajP (Y 2) (ajG ajM (Y 0) ajF)) (L (ajG ajP (Y 2) (ajG ajM (Y 0) ajF)) M))))))) ajV)
   (ajI (ajN (Y 0)))))),?_⟩
 cases e with
 | put x s1 n1=>
   obtain⟨u,⟨p,rfl,G⟩,au⟩:=ev
   obtain⟨hx,ff,dU,lQ,n0,nl⟩:=gd
   show aa U (aF G U (aN U U (aG (λz=>?_) (λc=>ao (bS rfl) c))))
   show aa U (aa U (aF G U ⟨c,aa U ⟨ca.get hx,aa U (aF G U (aa U ⟨u,c,s1,XV,g,U,au,dU,ca,⋯,λv' H2 I a2=>aa U (aa U (aF (I _ _ G) U (aX (I _ _ Ev) (zo n0 nl) ⟨alM,λp2 O=>q _ _ (bR I O) ⟨v',⟨p2,U,ai⟩,a2.keep (bN O _)⟩⟩)))⟩))⟩⟩))
 | say s1 n1=>
   obtain⟨u,⟨p,rfl,G⟩,au⟩:=ev
   obtain⟨ff,dU,lQ,n0,nl⟩:=gd
   show aa U (aF G U (aN U U (aG (λc=>ao (bw c) ∅) (λz=>aa U (aF G U (aN U U (aG (λz=>?_) (λc=>ao (bS rfl) c))))))))
   show aa U (aF G U (aa U ⟨u,c,s1,XV,g,U,au,dU,ca,⋯,λv' H2 I a2=>aa U (aa U (aF (I _ _ G) U (aX (I _ _ Ev) (zo n0 nl) ⟨alL,λp2 O=>q _ _ (bR I O) ⟨v',⟨p2,U,ai⟩,a2.keep (bN O _)⟩⟩)))⟩))
 | test s1 n1 n2=>
   obtain⟨u,⟨p,rfl,G⟩,au⟩:=ev
   obtain⟨ff,dU,lQ,n0,nl,m0,ml⟩:=gd
   show aa U (aF G U (aN U U (aG (λc=>ao (bw c) ∅) (λz=>aa U (aF G U (aN U U (aG (λc=>ao (bw c) ∅) (λz=>aa U (aF G U (aN U U (aG (λz=>?_) (λc=>ao (bS rfl) c))))))))))))
   show aa U (aF G U (aa U ⟨u,c,s1,XV,g,U,au,dU,ca,⋯,λv' H2 I a2=>aa U (aa U (aF (I _ _ G) U (aX (I _ _ Ev) (zo n0 nl) (aa U (aa U (aF (I _ _ G) U (aX (I _ _ Ev) (zo m0 ml) ⟨alM,λp2 O=>q _ _ (bR I O) ⟨v',⟨p2,U,ai⟩,a2.keep (bN O _)⟩⟩)))))))⟩))
 | fin=>
   obtain⟨p,rfl,G⟩:=ev
   show aa U (aF G U (aN U U (aG (λc=>ao (bw c) ∅) (λz=>aa U (aF G U (aN U U (aG (λc=>ao (bw c) ∅) (λz=>aa U (aF G U (aN U U (aG (λc=>ao (bw c) ∅) (λz=>aa U (q _ _ (same_refl _) ⟨p,U,G⟩)))))))))))))
def u7 (bs:ak)(f:Str->Str)(after:Int)(e:Nd):Prop:=(∃o,0<=o/\o<=after/\e=.test .yes after o)\/∃x∈bs.map (·.1),e=.put (f x) (.box "box" (f x)) after
def J5:Sp:=λvs H Q z=>∃(B c:J) (G:↥V) (bs:ak) (f:Str->Str) (n after:Int),vs=[.ref B,.ref c,.int n,.int after]/\H B=S (.lst G)/\Paired (eX H) G bs/\jt H c (bs.map (·.1)) f/\0<=n/\0<=after/\∀(I:V) (H':Hp) (e:Nd),ag H H'->cB H' I e->u7 bs f after e->Q I H'
def RH:bE ["boxes","called","number","after","name"] ["boxes","called","number","after"] (aV Rq):=bP
def ac6 {f:J}{fd:ba}(F:bq K "_law_skip" "_law_skip" Rq f fd)(I:mg "len"=Z):aU P w K mg base bj 1 f fd ["boxes","called","number","after"] J5:=by
 show F.bZ RH λim A outer s H vs Q E hr h=>?_
 obtain⟨B,c,vb,bs,g,n,after,rfl,hB,pb,ca,ZF,vA,q⟩:=h
 show cK ⟨_,(ajH (ajU (akm (akj (ajS (L3.za (m:=0) (cI hr _ ∅)) (Y 0) (ajW M)) (aks (ajS ajZ (ajJ ajY (Y 2) ajF) ajF)))) (ajI (ajN (ajO (L ajL (L (ajO (L ajL M)) (L (Y 3) (L (ajJ ajY (ajJ aki (Y 2) ajF) (ajJ aj7 (Y 3) ajF)) M))))))) ajV)
   (ajH (ajT 4 RH.nd (akk (cI hr _ ∅) (Y 1) (ajG ajM (ajG ajP (Y 0) (ajJ ajY (ajJ aki (Y 2) ajF) (aj0 aj5 U I eE (L (Y 0) M)))) ajF)))
   (ajI (ajN (ajO (L ajL (L (Y 4) (L (ajO (L ajL (L (Y 4) M))) (L (Y 3) M))))))))),?_⟩
 have d2:(2:Int)<2^1000:=by right
 have gY:↑vb=↑bs:=Paired.length pb
 show aL U alI (λlz qO=>?_)
 obtain⟨H1,O,hz,zz⟩:=aT qO (.lst [])
 rw[zz];clear zz
 have jB:=O _ _ hB
 show⟨_,RB.nil (af.of jB) (af.of hz),aa U (aG (λc1=>?_) (λc1=>?_))⟩
 . show oh ⟨alJ,λp1 iq=>(aa U (aa U (aw U U ⟨⟨(by change(0:Int)<2;decide),d2⟩,aa U (aw U U (bF U U (by change(0:Int)<after+1;lia) ⟨alM,λp2 G=>?_⟩))⟩)))⟩
   have k1:bL (upd H1 p1 (.tup [.str "yes"])) (.ref p1) .yes:=⟨p1,rfl,ai⟩
   show q _ _ (.test .yes after (n/2%(after+1))) (bR (bR O iq) G) ⟨.ref p1,⟨p2,U,ai⟩,k1.keep (bN G _)⟩ (.inl ⟨_,hJ _ ⋯,by have:=iz (n/2) (show 0<after+1 by lia);lia,U⟩)
 show aa U (bF U U (by change(0:Int)<2;decide) (aN U U (aG (λc2=>?_) (λc2=>?_))))
 . show⟨alJ,λp1 iq=>(aa U (aa U (aw U U ⟨⟨(by change(0:Int)<2;decide),d2⟩,aa U (aw U U (bF U U (by change(0:Int)<after+1;lia) ⟨alM,λp2 G=>?_⟩))⟩)))⟩
   have k1:bL (upd H1 p1 (.tup [.str "yes"])) (.ref p1) .yes:=⟨p1,rfl,ai⟩
   show q _ _ (.test .yes after (n/2%(after+1))) (bR (bR O iq) G) ⟨.ref p1,⟨p2,U,ai⟩,k1.keep (bN G _)⟩ (.inl ⟨_,hJ _ ⋯,by have:=iz (n/2) (show 0<after+1 by lia);lia,U⟩)
 have mR:(0:Int)<(↑vb:Int):=by
   cases vb with
   | nil=>show ao rfl c1
   | cons x r=>simp only[gF];lia
 obtain⟨x,gx,eL⟩:=AZ (xs:=vb) (r:=n/2%(↑vb:Int)) (hJ _ ⋯) (iz _ mR)
 obtain⟨b,gb,p,rfl,hp⟩:=Paired.get pb gx
 have hx:b.1∈bs.map (·.1):=d7 ⟨b,bI gb,rfl⟩
 show aa U (aa U (aa U (aw U U ⟨⟨(by change(0:Int)<2;decide),d2⟩,aa U (aw U (.inl (af.of jB)) (aw U U ⟨mR,aX jB eL (aF (O _ _ hp) U ⟨c,aa U ⟨(ca.same O).get hx,aa U (aL U alK (λp1 iq=>(aL U alM (λp2 G=>?_))))⟩⟩)⟩))⟩)))
 have k1:bL (upd H1 p1 (.tup [.str "box",.str (g b.1)])) (.ref p1) (.box "box" (g b.1)):=⟨p1,rfl,ai⟩
 show q _ _ (.put (g b.1) (.box "box" (g b.1)) after) (bR (bR O iq) G) ⟨.ref p1,⟨p2,U,ai⟩,k1.keep (bN G _)⟩ (.inr ⟨b.1,hx,U⟩)
abbrev zA:Stmt:=top 61
theorem ON (x:Str):∀(ins:↥Str),iX (.str x) (ins.map V.str)=decide (x∈ins)
 | []=>rfl
 | y::r=>by
   change(eK (.str y) (.str x) || iX (.str x) (r.map V.str))=_
   rw[ON x r]
   change((y==x) || decide (x∈r))=_
   by_cases h:y=x
   . subst h
     simp
   . have h1:(y==x)=false:=beq_eq_false_iff_ne.mpr h
     have h2:¬ x=y:=λz=>h z.symm
     rw[h1,DD]
     by_cases G:x∈r<;>simp[h2,G]
def Xd (ins:↥Str):(ins.map V.str).all fG=true:=by
 rw[List.all_map]
 show List.all_eq_true.mpr λx z=>rfl
theorem Bq {α:Type}[DecidableEq α]{y:α}:∀{xs:List α},y∈xs->∃j:Nat,xs[j]?=S y/\∀m,m<j->xs[m]?≠S y
 | x::r,h=>by
   by_cases e:x=y
   . show⟨0,by rw[e];rfl,λm G=>ao G (oM _)⟩
   . obtain⟨j,h1,h2⟩:=Bq (xs:=r) ((dG h).resolve_left λz=>e z.symm)
     show⟨j+1,by simpa using h1,λm G=>?_⟩
     cases m with
     | zero=>intro z;simp at z;show e z
     | succ m=>simpa using h2 m ⋯
theorem Ph {α:Type}:∀{l:List α} {i:Nat} (h:i<↑l) {x:α},x∈l->x=l[i]\/x∈l.eraseIdx i
 | a::r,0,_,x,hx=>by
   rcases dG hx with z|z
   . show .inl z
   . show .inr (by rw[List.eraseIdx_cons_zero];show z)
 | a::r,i+1,h,x,hx=>by
   have h':i<↑r:=by simpa using h
   rw[Uv]
   rcases dG hx with z|z
   . show .inr (dS (.inl z))
   . rcases Ph h' z with y|y
     . show .inl y
     . show .inr (dS (.inr y))
def bA (ins:↥Str)(c:Bool)(x:Str):Str:=if x∈ins then x else if c=true then x++"z" else x
structure nK (bs:ak)(ins:↥Str)(c:Bool)(st:Int)(bs':ak):Prop where
 bx:bs'=bT st (bs.map λb=>(bA ins c b.1,b.2))
 st:st=1\/st=-1
def adY {α β:Type}{R:α->β->Prop}{xs:List α}{ys:List β}(h:Paired R xs ys):Paired R xs.reverse ys.reverse:=by
 induction h with
 | nil=>show .nil
 | @cons a b as bs r t G=>rw[Ai,Ai];show Paired.snoc G r
def adZ {β:Type}{R:V->β->Prop}{n:Int}{xs:↥V}{ys:List β}(h:Paired R xs ys):Paired R (jI n xs) (bT n ys):=by
 unfold jI bT
 by_cases e:n=1
 . rw[aB e,aB e];show h
 . rw[az e,az e];show adY h
def RS {Pm:Hp->↥Int->Prop}{G:Hp->Prop}{M8:Prop}(I:(∀H l,Pm H l->G H)->M8)(ms:∀H l,Pm H l->G H):M8:=I ms
def u6 (ord ps:↥Int):Prop:=∀(k:Nat) (x:Int),ps[k]?=S x->∃j:Nat,x=(j:Int)/\ord[j]?=S (k:Int)/\∀m,m<j->ord[m]?≠S (k:Int)
def afk {ord ps:↥Int}{j:Nat}(h:u6 ord ps)(I:ord[j]?=S ((↑ps:Nat):Int))(O:∀m,m<j->ord[m]?≠S ((↑ps:Nat):Int)):u6 ord (ps++[(j:Int)]):=λk x hx=>by
 by_cases hk:k<↑ps
 . rw[Ad hk]at hx
   show h k x hx
 . have G:=(bt hx)
   rw[cJ]at G
   have e:k=↑ps:=by simp at G;lia
   subst e
   rw[K4 (aK _),Nat.sub_self]at hx
   cases hx
   show⟨j,U,I,O⟩
def Qn {ord ps:↥Int}(h:u6 ord ps)(I:ord[0]?=S 0)(G:0<↑ps):ps[0]?=S 0:=by
 obtain⟨j,e,hj,O⟩:=h 0 ps[0] (bB G)
 have mK:j=0:=by
   by_cases z:j=0
   . show z
   . show ao I (O 0 ⋯)
 rw[bB G,e,mK]
 rfl
def AH (ord:↥Int)(many:Int)(ps aJ:↥Int)(G:Nat):Prop:=∀(k:Nat) (x:Int),aJ[k]?=S x->ps[k]?=S x\/(k=G/\∃j:Nat,x=(j:Int)/\ord[j]?=S many)
def AQ (bs:ak)(f:Str->Str)(cr:↥Nd)(ord ps aJ:↥Int)(I:Int)(ii:↥Nd):Prop:=∀(j:Nat) (G:Nd),ii[j]?=S G->∃k:Int,ord[j]?=S k/\((∃e,0<=k/\cr[k.toNat]?=S e/\G=e.as f (eG aJ))\/(k=(↑cr:Int)/\I<(↑cr:Int)/\u7 bs f (eG ps I) G))
def PB {bs:ak}{f:Str->Str}{cr:↥Nd}{ord ps aJ:↥Int}{I:Int}{ii:↥Nd}{e:Nd}(h:AQ bs f cr ord ps aJ I ii)(hn:∃k:Int,ord[↑ii]?=S k/\((∃O,0<=k/\cr[k.toNat]?=S O/\e=O.as f (eG aJ))\/(k=(↑cr:Int)/\I<(↑cr:Int)/\u7 bs f (eG ps I) e))):AQ bs f cr ord ps aJ I (ii++[e]):=λj e' G=>by
 by_cases hk:j<↑ii
 . rw[Ad hk]at G
   show h j e' G
 . have hl:=(bt G)
   rw[cJ]at hl
   have O:j=↑ii:=by simp at hl;lia
   subst O
   rw[K4 (aK _),Nat.sub_self]at G
   cases G
   show hn
structure sH (bs:ak)(f:Str->Str)(cr ii:↥Nd)(ps aJ:↥Int):Prop where
 pl:↑ps=↑cr
 bl:↑aJ=↑cr
 all:∀(k:Nat) (e:Nd),cr[k]?=S e->∃p b:Nat,ps[k]?=S (p:Int)/\aJ[k]?=S (b:Int)/\p<↑ii/\b<↑ii/\ii[p]?=S (e.as f (eG aJ))/\(b=p\/∃e',ii[b]?=S e'/\u7 bs f (p:Int) e')
 only:∀(j:Nat) (e':Nd),ii[j]?=S e'->(∃e∈cr,e'=e.as f (eG aJ))\/∃p:Nat,p<↑ii/\u7 bs f (p:Int) e'
 zero:aJ[0]?=S 0
def abA {bs:ak}{f:Str->Str}{cr ii:↥Nd}{ord ps aJ:↥Int}{sk:Int}(pl:↑ps=↑cr)(bl:↑aJ=↑cr)(hp:u6 ord ps)(hb:AH ord (↑cr:Int) ps aJ sk.toNat)(hn:AQ bs f cr ord ps aJ sk ii)(hl:↑ii=↑ord)(zero:aJ[0]?=S 0):sH bs f cr ii ps aJ:=by
 have pat:∀(k:Nat),k<↑cr->∃p:Nat,ps[k]?=S (p:Int)/\ord[p]?=S (k:Int)/\p<↑ii:=λk hk=>by
   have pE:k<↑ps:=⋯
   obtain⟨j,e,hj,_⟩:=hp k ps[k] (bB pE)
   have:=(bt hj)
   show⟨j,by rw[bB pE,e],hj,⋯⟩
 have psk:∀{k p:Nat},ps[k]?=S (p:Int)->eG ps (k:Int)=(p:Int):=λh=>by
   unfold eG
   rw[eR,gE,h]
   rfl
 show⟨pl,bl,λk e he=>?_,λj e' hj=>?_,zero⟩
 . have hk:k<↑cr:=(bt he)
   obtain⟨p,h1,h2,h3⟩:=pat k hk
   have Gk:k<↑aJ:=⋯
   have bp:ii[p]?=S (e.as f (eG aJ)):=by
     obtain⟨k',I,h5⟩:=hn p ii[p] (bB h3)
     rw[h2]at I
     cases I
     rcases h5 with⟨e1,_,G,O⟩|⟨G,_⟩
     . rw[gE,he]at G
       cases G
       rw[bB h3,O]
     . lia
   rcases hb k aJ[k] (bB Gk)with I|⟨I,j,h5,G⟩
   . have e1:aJ[k]=(p:Int):=by
       rw[h1]at I
       show(dX I).symm
     show⟨p,p,h1,by rw[bB Gk,e1],h3,h3,bp,.inl rfl⟩
   . have vH:=(bt G)
     have Gj:j<↑ii:=⋯
     obtain⟨k',O,h8⟩:=hn j ii[j] (bB Gj)
     rw[G]at O
     cases O
     show⟨p,j,h1,by rw[bB Gk,h5],h3,Gj,bp,.inr ⟨_,bB Gj,?_⟩⟩
     rcases h8 with⟨e1,_,h9,_⟩|⟨_,h9,ph⟩
     . have:=(bt h9)
       lia
     . have kL:eG ps sk=(p:Int):=by
         have h11:eG ps sk=eG ps (k:Int):=by unfold eG;rw[I,gE]
         rw[h11,psk h1]
       rw[← kL]
       show ph
 . obtain⟨k',I,h5⟩:=hn j e' hj
   rcases h5 with⟨e1,_,G,O⟩|⟨_,G,O⟩
   . show .inl ⟨e1,bI G,O⟩
   . have hk:sk.toNat<↑cr:=by
       have:=UA (bI (show aJ[0]?=S 0 from zero))
       lia
     obtain⟨p,h1,h2,h3⟩:=pat sk.toNat hk
     show .inr ⟨p,h3,?_⟩
     have e1:eG ps sk=(p:Int):=by
       unfold eG
       rw[eR,h1]
       rfl
     rw[← e1]
     show O
structure Vb (bs:ak)(cr:↥Nd):Prop where
 l2:↑bs<=2
 sh:∀b∈bs,↑b.1<=20
 one:1<=↑cr
 cC:(↑cr:Int)<=100
 good:∀e∈cr,e.good (·∈bs.map (·.1)) ↑cr 5
def Sd:Sp:=λvs H Q z=>∃(v:V) (r:J) (bs:ak) (ins:↥Str) (cr:↥Nd) (I:↥Int) (n:Nat),vs=[v,.ref r]/\cu H v bs ins cr/\Vb bs cr/\H r=S (.lst (I.map V.int))/\Row (2^30) I n/\6<=n /\
 ∀(p q T O N2 c pl bh:J) (H':Hp) (vt Ix:↥V) (G:ak) (ii:↥Nd) (cz:Bool) (st:Int),ag H H'->H' p=S (.tup [.ref q,.ref c,.ref pl,.ref bh])->H' q=S (.tup [.ref T,.ref O,.ref N2])->H' T=S (.lst vt)->Paired (eX H') vt G->H' O=S (.lst (ins.map V.str))->H' N2=S (.lst Ix)->Paired (cB H') Ix ii->↑ii<=↑cr+1 ->
   jt H' c (bs.map (·.1)) (bA ins cz)->nK bs ins cz st G->∀(ps aJ:↥Int),H' pl=S (.lst (ps.map V.int))->H' bh=S (.lst (aJ.map V.int))->sH bs (bA ins cz) cr ii ps aJ->Q (.ref p) H'
def bW {u1 u2:TS}{D:L2.Ends}{σ:L2.St}{H:Hp}(h:∀R:L2.St->Hp->Prop,(∀σ H,u2 D σ H->R σ H)->u1 {D with nx:=R} σ H):kX u1 u2 D σ H:=h _ λy y z=>z
def Wj {u1 u2 G:TS}{D:L2.Ends}{σ:L2.St}{H:Hp}(h:∀R:L2.St->Hp->Prop,(∀σ H,G D σ H->R σ H)->kX u1 (kX u2 λy=>R) D σ H):kX u1 (kX u2 G) D σ H:=h (G D) λy y z=>z
def Ft {u1 u2 I G:TS}{D:L2.Ends}{σ:L2.St}{H:Hp}(h:∀R:L2.St->Hp->Prop,(∀σ H,G D σ H->R σ H)->kX u1 (kX u2 (kX I λy=>R)) D σ H):kX u1 (kX u2 (kX I G)) D σ H:=h (G D) λy y z=>z
def i8:bE ["program","row","boxes","inputs","nodes","called","name","size","many","skipped","left","order","k","places","behind","found","turned"] ["program","row"] (aV zA):=bP
def acU {f:J}{fd:ba}(F:bq K "_law_made_over" "_law_made_over" zA f fd)(m_len:mg "len"=Z)(m_range:mg "range"=Z)(m_int:mg "int"=Z)(m_list:mg "list"=Z)(NA:aP P w K mg base "_law_node_as" ["node","called","places"] 8 Sb)(SK:aP P w K mg base "_law_skip" ["boxes","called","number","after"] 1 J5):aU P w K mg base bj 9 f fd ["program","row"] Sd:=by
 show F.bZ i8 λim A outer s H vs Q E hr h=>?_
 obtain⟨v,r,bs,ins,cr,rc,n,rfl,⟨p,B,I,N,vb,G,rfl,hp,hB,hI,hN,pb,pn⟩,qa,gM,hR,hn6,q⟩:=h
 have U9:=NA
 have Vg:=SK.mono (show 1<=8 by left)
 show cK ⟨_,(ajH (ako (Y 0) (aj1 3 (ajQ (ajK 2 i8.nd) (ajQ (ajK 3 i8.nd) (ajQ (ajK 4 i8.nd) aj2)))))
   (ajH (ajT 5 i8.nd L3.Fw)
   (ajH (aj8 (aj4 (Y 2)) (aj1 2 (ajQ (ajK 6 i8.nd) (ajQ (ajK 7 i8.nd) aj2))) (ajH (akC (cI hr _ ∅) (Y 5) (Y 6) (Y 6))
   (ajI (ajU (akm (L3.E3 (ajS L3.Iq (Y 6) (Y 3) U) (L3.E2 (ajS ajZ (ajJ ajY (ajG ajP (Y 1) ajF) ajF) ajF)))) (ajI (akC (cI hr _ ∅) (Y 5) (Y 6) (ajJ L3.acb (Y 6) ajL))) ajV))))
   (ajH (ajT 8 i8.nd (aj0 aj5 U m_len eE (L (Y 4) M)))
   (ajH (ajT 9 i8.nd (ajJ ajY (ajG ajP (Y 1) ajF) (ajJ akd ajF (Y 8))))
   (ajH (akv (i:=10) [Z] ["k"] (dq zA) U (L3.iR2 U m_range (L ajF (L (Y 8) M))) (λu u u u u=>⟨(ajK 0 (bM ["k"])),aj3,(Y 0)⟩) i8.nd)
   (ajH (ajT 11 i8.nd (ajW (L ajF M)))
   (ajH (aj8 (akr U m_range (L (ajJ aku (Y 8) ajF) M)) (ajK 12 i8.nd) (ajI (akb (akn (Y 11) (L (L3.afg (Y 10) (L (ajJ ajY (ajJ aki (ajG ajP (Y 1) ajF) (ajJ aj7 (Y 12) ajF)) (aj0 aj5 U m_len eE (L (Y 10) M))) M)) M)))))
   (ajH (ajU (ajS akh (Y 9) (Y 8)) (ajI (akb (L3.insert (Y 11) (L (ajJ aj7 (L3.G6 (Y 11) (L (Y 9) M)) (ajJ akd (ajJ ajY (ajG ajP (Y 1) ajF) ajF) (aka akA U m_int (by right) (L (akc L3.Cj (Y 9) ajF) M)))) (L (Y 8) M))))) ajV)
   (ajH (akv (i:=13) [Z,S 11] ["k","order"] (dq zA) U (akr U m_range (L (Y 8) M)) (λu u u u u=>⟨(ajK 0 (bM ["k","order"])),aj3,(L3.G6 (Y 1) (L (Y 0) M))⟩) i8.nd)
   (ajH (ajT 14 i8.nd (aka aky U m_list (by right) (L (Y 13) M)))
   (ajH (ajU (ajS akh (Y 9) (Y 8)) (ajI (ako (L3.G6 (Y 11) (L (Y 8) M)) (L3.NF (Y 14) (Y 9)))) ajV)
   (ajH (ajT 15 i8.nd (ajW M))
   (ajH (aj8 (aj4 (Y 11)) (ajK 12 i8.nd) (ajI (ajU (ajS akh (Y 12) (Y 8)) (ajI (akb (akn (Y 15) (L (ajR U9 hr U (L (ajG ajP (Y 4) (Y 12)) (L (Y 5) (L (Y 14) M)))) M)))) (ajI (akb (akn (Y 15) (L (ajR Vg hr U (L (Y 2) (L (Y 5) (L (ajG ajP (Y 1) ajF) (L (ajG ajP (Y 13) (Y 9)) M))))) M)))))))
   (ajH (ajT 16 i8.nd (L3.RX (aj6 [Z,Z,S 5] ["name","size","called"] (dq zA) U (aj4 (Y 2)) (λu u u u u=>⟨(aj1 2 (ajQ (ajK 0 (bM ["name","size","called"])) (ajQ (ajK 1 (bM ["name","size","called"])) aj2))),aj3,(ajO (L (akk (cI hr _ ∅) (Y 2) (Y 0)) (L (Y 1) M)))⟩)) (ajJ aku ajF (ajJ akd ajF (ajJ ajY (ajG ajP (Y 1) ajF) ajF)))))
   (ajI (ajN (ajO (L (ajO (L (Y 16) (L (aka aky U m_list (by right) (L (Y 3) M)) (L (Y 15) M)))) (L (Y 5) (L (Y 13) (L (Y 14) M)))))))))))))))))))))),?_⟩
 show Ft λRk kR=>?_
 obtain⟨x0,a0,Dx,Kv⟩:=hR.at (i:=0) ∅ ⋯
 obtain⟨x1,a1,Kw,Kx⟩:=hR.at (i:=1) ∅ ⋯
 obtain⟨x2,a2,T3,T4⟩:=hR.at (i:=2) ∅ ⋯
 obtain⟨x3,a3,x30,x31⟩:=hR.at (i:=3) ∅ ⋯
 obtain⟨x4,a4,zQ,x41⟩:=hR.at (i:=4) ∅ ⋯
 obtain⟨x5,a5,x50,x51⟩:=hR.at (i:=5) ∅ ⋯
 have gY:↑vb=↑bs:=Paired.length pb
 have kH:=qa.l2
 have eO:G.length=↑cr:=Paired.length pn
 have one:=qa.one
 have cC:=qa.cC
 show aa U (uA hp (λc hc=>aa U (aL U ⟨_,af.of (aH hc _ _ _ hB)⟩ ?_)))
 have hI1:=λkvs=>aH hc (.dK kvs) _ _ hI
 have hr1:=λkvs=>aH hc (.dK kvs) _ _ gM
 show nS (xs:=vb) (λi σ H2=>(∃nv sv,σ=[S (.ref p),S (.ref r),S (.ref B),S (.ref I),S (.ref N),S (.ref c),nv,sv,Z,Z,Z,Z,Z,Z,Z,Z,Z])/\∃kvs:↥(Key×V),H2=upd H c (.dK kvs)/\↑kvs<=2*i/\∀x∈(bs.take i).map (·.1),bu kvs (.inr x)=S (.str (bA ins (decide (x0%2=1)) x))) ⟨⟨_,_,U⟩,[],U,aK _,λx hx=>nomatch hx⟩ (λi σ H2 u z=>?_) (λi x σ H2 hx z=>?_) (λσ H2 z=>?_)
 . obtain⟨_,kvs,rfl,_⟩:=z
   show af.of (aH hc _ _ _ hB)
 . obtain⟨⟨nv,sv,rfl⟩,kvs,rfl,tN,vJ⟩:=z
   obtain⟨b,dt,jH,rfl,gX⟩:=Paired.get pb hx
   have bC:i<↑vb:=(bt hx)
   have F8:b∈bs:=bI dt
   have Oz:=qa.sh b F8
   have EQ:=pS kvs (.inr b.1) (V.str b.1)
   show gC (aH hc _ _ _ gX) (aa U (aa U (aa U ⟨c,aa U ⟨iD.k (k:=.inr b.1) ai (da ⋯),?_⟩⟩)))
   rw[kZ]
   have keep:∀(w:Str) (kvs':↥(Key×V)),(∀j:Key,bu kvs' j=if j=.inr b.1 then S (.str w)else bu kvs j)->w=bA ins (decide (x0%2=1)) b.1->∀x∈(bs.take (i+1)).map (·.1),bu kvs' (.inr x)=S (.str (bA ins (decide (x0%2=1)) x)):=λw kvs' hv hw x hx=>by
     rw[hv]
     by_cases e:(kc x:Key)=.inr b.1
     . rw[aB e,hw]
       injection e with e
       rw[e]
     . rw[az e]
       show vJ x ?_
       rw[cV,dt,cq]at hx
       rcases eT hx with z|z
       . show z
       . show ao (by rw[dv z]) e
   show aa U (aa U (aw U (.inl (af.of (hI1 _))) ⟨U,Xd ins,aa U ?_⟩))
   rw[aB rfl,ON]
   show aG (λc1=>?_) (λc1=>?_)
   . have lW:b.1∉ins:=λz=>by rw[bS z]at c1;show ao c1 ∅
     show aa U (aX (hr1 _) a0 (bF U U (by change(0:Int)<2;decide) (aN U U (aG (λc2=>?_) (λc2=>?_)))))
     . have e2:x0%2=1:=by have:=bw c2;injection this
       have wP:=pS (putK kvs (.inr b.1) (V.str b.1)) (.inr b.1) (V.str (b.1++"z"))
       show aa U (aw U U ⟨small (show _<=1000 by have:Str.length ("z":Str)=1:=(by right);lia),aa U (aa U ⟨c,aa U ⟨iD.k (k:=.inr b.1) ai (da ⋯),?_⟩⟩)⟩)
       rw[kZ]
       show⟨⟨_,_,U⟩,aa U ⟨⋯,keep (b.1++"z") _ (λj=>?_) ?_⟩⟩
       . rw[j7,j7]
         by_cases e:j=(.inr b.1:Key)
         . rw[aB e,aB e]
         . rw[az e,az e,az e]
       . unfold bA
         rw[az lW,aB (bS e2)]
     . have e2:¬ x0%2=1:=λz=>c2 (bS (show V.int (x0%2)=V.int 1 by rw[z]))
       show⟨⟨_,_,U⟩,aa U ⟨⋯,keep b.1 _ (λj=>j7 _ _ _ _) ?_⟩⟩
       unfold bA
       rw[az lW,az (λz=>e2 (bw z))]
   . show mV ⟨⟨_,_,U⟩,aa U ⟨⋯,keep b.1 _ (λj=>j7 _ _ _ _) ?_⟩⟩
     have lW:b.1∈ins:=Classical.byContradiction λz=>c1 (by rw[fU z];rfl)
     unfold bA
     rw[aB lW]
 obtain⟨⟨nv,sv,rfl⟩,kvs,rfl,tN,vJ⟩:=z
 rw[gY,cL]at vJ
 have s1:ag H (upd H c (.dK kvs)):=aH hc _
 have ca:jt (upd H c (.dK kvs)) c (bs.map (·.1)) (bA ins (decide (x0%2=1))):=⟨kvs,ai,vJ⟩
 generalize upd H c (.dK kvs)=H1 at s1 ca ⊢
 have qK:=s1 _ _ hN
 have hr1:=s1 _ _ gM
 show kR _ _ (Ft λRk kR=>aa U (aw U (.inl (af.of qK)) ?_))
 have mM:(0:Int)<2*(G.length:Int):=⋯
 show aa U (aX hr1 a1 (aa U (bF U U (.inl ⟨∅,∅⟩) (aw U U ⟨mM,?_⟩))))
 have zF:0<=x1%(2*(G.length:Int)):=hJ _ ⋯
 obtain⟨O,kL⟩ : ∃O:Int,O=x1%(2*(G.length:Int)):=⟨_,rfl⟩
 rw[← kL]at zF
 show aa U ⟨_,aa U ⟨⟨∅,∅,⋯,⋯⟩,λla vK=>vj (lo:=1) (n:=((G.length:Int)-1).toNat) (λi H2=>H2=upd H1 la (.lst (((cj i).map λj:Nat=>(1:Int)+(j:Int)).map V.int))) rfl (λi H2 hi z=>?_) (λH2 z=>?_)⟩⟩
 . subst z
   show bO (dW (A:=λH3=>cR _ la _ H3 _) (aa U ⟨_,ai,da (by rw[aA,aA,lp];lia),cO (Pv:=λi H2=>H2=upd H1 la (.lst (((cj i).map λj:Nat=>(1:Int)+(j:Int)).map V.int))) (by repeat' constructor) hi ?_⟩))
   rw[kZ,Lg,cq,cq]
   rfl
 subst z
 show kR _ _ (Wj λRk kR=>⟨alJ,λoa Gu=>?_⟩)
 have Ce:la≠oa:=aR ai Gu
 have Gv:H1 oa=Z:=by rw[aC Ce.symm]at Gu;show Gu
 show aa U (aw U U (aa U ⟨⋯,⋯,xU (lo:=0) (n:=((G.length:Int)-1).toNat) (λi σ H2=>∃(kv:Option V) (ord left:↥Int),σ=[S (.ref p),S (.ref r),S (.ref B),S (.ref I),S (.ref N),S (.ref c),nv,sv,S (.int (G.length:Int)),S (.int (x1%(2*(G.length:Int)))),S (.ref la),S (.ref oa),kv,Z,Z,Z,Z]/\ag H1 H2/\H2 la=S (.lst (left.map V.int))/\H2 oa=S (.lst (ord.map V.int))/\↑ord=i+1/\↑left+i+1=G.length/\(∀x∈ord,0<=x/\x<(G.length:Int))/\(∀x∈left,0<=x/\x<(G.length:Int))/\(∀x:Int,0<=x->x<(G.length:Int)->x∈ord\/x∈left)/\ord[0]?=S 0) ?_ ?_ ?_⟩))
 . show⟨Z,[0],(cj ((G.length:Int)-1).toNat).map λj:Nat=>(1:Int)+(j:Int),U,cD (aH vK _) Gv,?_,ai,U,?_,?_,?_,?_,U⟩
   . rw[aC Ce];show ai
   . rw[aA,lp];lia
   . intro x hx
     rw[dv hx]
     lia
   . intro x hx
     obtain⟨j,hj,rfl⟩:=du hx
     have:=List.mem_range.mp hj
     lia
   . intro x h0 h1
     by_cases e:x=0
     . show .inl (List.mem_singleton.mpr e)
     . show .inr (d7 ⟨(x-1).toNat,List.mem_range.mpr ⋯,⋯⟩)
 . rintro i σ H2 hi ⟨kv,ord,left,rfl,s2,BA,qQ,BI,Ol,ho,hl,cov,we⟩
   have jW:=s2 _ _ hr1
   have mR:(0:Int)<(↑(left.map V.int):Int):=by rw[aA];lia
   have d0:(0:Int)+(i:Int)+1<2^1000:=Int.lt_of_le_of_lt (show _<=(2^40:Int)by lia) (by right)
   show aa U ⟨.inl ⟨U,_,af.of qQ⟩,aa U ⟨.inl ⟨U,_,af.of BA⟩,aa U (aX jW a2 (aa U (aw U U (aw U U ⟨⟨(by change(0:Int)<0+(i:Int)+1;lia),d0⟩,aa U (aw U (.inl (af.of BA)) (aw U U ⟨mR,?_⟩))⟩))))⟩⟩
   have r0:=hJ (x2/(0+(i:Int)+1)) (show(↑(left.map V.int):Int)≠0 by lia)
   have rl:=iz (x2/(0+(i:Int)+1)) mR
   obtain⟨rr,Oy⟩ : ∃rr:Int,rr=x2/(0+(i:Int)+1)%(↑(left.map V.int):Int):=⟨_,rfl⟩
   rw[← Oy]at r0 rl
   rw[aA]at rl
   have BJ:rr.toNat<↑left:=⋯
   have hix:kN ↑(left.map V.int) rr=S rr.toNat:=by rw[aA];unfold kN;rw[aB r0,aB rl]
   have Y7:(left.map V.int)[rr.toNat]?=S (V.int left[rr.toNat]):=by rw[eI,bB BJ];rfl
   have n8:(upd H2 la (.lst ((left.eraseIdx rr.toNat).map V.int))) oa=S (.lst (ord.map V.int)):=by rw[aC Ce.symm];show qQ
   show⟨la,_,rr,rr.toNat,aa U ⟨(by subst Oy;rfl),BA,⋯,⋯,(G8 hix).1,Y7,?_⟩⟩
   rw[(Pg V.int left rr.toNat).symm]
   show⟨oa,aw U U ⟨n8,da (by rw[aA];lia),?_⟩⟩
   have hle:=List.length_eraseIdx_of_lt BJ
   show⟨_,ord++[left[rr.toNat]],left.eraseIdx rr.toNat,U,cD (cD s2 vK) Gv,?_,?_,?_,?_,?_,?_,?_,by rw[Ad ⋯];show we⟩
   . rw[aC Ce];show ai
   . rw[ai,cq];rfl
   . rw[cJ,BI];rfl
   . lia
   . intro x hx
     rcases eT hx with z|z
     . show ho x z
     . rw[dv z]
       show hl _ (K6 BJ)
   . show λx hx=>hl x ((List.eraseIdx_sublist _ _).mem hx)
   . intro x h0 h1
     rcases cov x h0 h1 with z|z
     . show .inl (i5 (.inl z))
     . rcases Ph BJ z with y|y
       . show .inl (i5 (.inr (List.mem_singleton.mpr y)))
       . show .inr y
 rintro σ H2 ⟨kv,ord,left,rfl,s2,BA,qQ,BI,Ol,ho,hl,cov,we⟩
 have aa5:left=[]:=List.length_eq_zero_iff.mp ⋯
 have cov:∀x:Int,0<=x->x<(G.length:Int)->x∈ord:=λx h0 h1=>(cov x h0 h1).resolve_right λz=>by rw[aa5]at z;show nomatch z
 have jW:=s2 _ _ hr1
 have cl:∀c:Bool,(-(2^64):Int)<(if c=true then 1 else 0)/\(if c=true then(1:Int)else 0)<2^64:=by left
 show kR _ _ (aa U (aa U (aw U U (aa U ?_))))
 have factB:¬ decide (x1%(2*(G.length:Int))<(G.length:Int))=true->ag H1 H2/\H2 oa=S (.lst (ord.map V.int))/\(∀x∈ord,0<=x/\(x<(G.length:Int)\/(x=(G.length:Int)/\O<(G.length:Int))))/\(∀x:Int,0<=x->x<(G.length:Int)->x∈ord)/\↑ord<=G.length+1/\(O<(G.length:Int)->(G.length:Int)∈ord)/\(O=0/\O<(G.length:Int)->ord[0]?=S (G.length:Int))/\(¬ (O=0/\O<(G.length:Int))->ord[0]?=S 0):=λc1=>by
   have mh:¬ O<(G.length:Int):=λz=>c1 (bS (by rw[← kL];show z))
   show⟨s2,qQ,λx hx=>⟨(ho x hx).1,.inl (ho x hx).2⟩,λx h0 h1=>cov x h0 h1,⋯,λz=>ao z mh,λz=>ao z.2 mh,λu=>we⟩
 show RS (Pm:=λH3 dA=>ag H1 H3/\H3 oa=S (.lst (dA.map V.int))/\(∀x∈dA,0<=x/\(x<(G.length:Int)\/(x=(G.length:Int)/\O<(G.length:Int))))/\(∀x:Int,0<=x->x<(G.length:Int)->x∈dA)/\↑dA<=G.length+1/\(O<(G.length:Int)->(G.length:Int)∈dA)/\(O=0/\O<(G.length:Int)->dA[0]?=S (G.length:Int))/\(¬ (O=0/\O<(G.length:Int))->dA[0]?=S 0)) (λms=>aG (λc1=>?brA) (λc1=>ms H2 ord (factB c1))) ?rest1
 case brA=>
   have mh:O<(G.length:Int):=by rw[kL];show bw c1
   obtain⟨j,hj,Wp⟩:=Bq (cov O zF mh)
   have vH:j<↑ord:=(bt hj)
   have x3m:=hJ x3 (show(2:Int)≠0 by left)
   have x3l:=iz x3 (show(0:Int)<2 by left)
   have VF:∀b:Bool,0<=x3%2*(if b=true then 1 else 0)/\x3%2*(if b=true then 1 else 0)<=1:=λb=>by cases b<;>simp<;>lia
   have b1:=VF (decide (0<x1%(2*(G.length:Int))))
   obtain⟨ix,Og⟩ : ∃ix:Int,ix=(j:Int)+x3%2*(if decide (0<x1%(2*(G.length:Int)))=true then 1 else 0):=⟨_,rfl⟩
   show aa U ⟨.inl ⟨U,_,af.of qQ⟩,aa U ⟨.inl ⟨U,_,af.of qQ⟩,aa U ⟨oa,ord,O,j,U,(by rw[kL]),af.of qQ,hj,Wp,⋯,aa U (aX jW a3 (bF U U (by change(0:Int)<2;decide) (aa U (aw U U (.inr (aa U (aw U U ⟨.inr (cl _),aw U U (aa U ⟨oa,_,_,ix,U,(by subst Og;rfl),qQ,⋯,by rw[aA];lia,by rw[aA];lia,?_⟩)⟩)))))))⟩⟩⟩
   obtain⟨dA,ip⟩ : ∃dA:↥Int,dA=ord.take ix.toNat++(G.length:Int)::ord.drop ix.toNat:=⟨_,rfl⟩
   have eo:(ord.map V.int).take ix.toNat++V.int (G.length:Int)::(ord.map V.int).drop ix.toNat=dA.map V.int:=by rw[ip,cq,jb,K9,List.map_drop]
   have F1:∀x∈dA,0<=x/\(x<(G.length:Int)\/(x=(G.length:Int)/\O<(G.length:Int))):=λx hx=>by
     rw[ip]at hx
     rcases eT hx with z|z
     . show⟨(ho x (rM z)).1,.inl (ho x (rM z)).2⟩
     . rcases dG z with z|z
       . show⟨⋯,.inr ⟨z,mh⟩⟩
       . show⟨(ho x (wX z)).1,.inl (ho x (wX z)).2⟩
   have F2:∀x:Int,0<=x->x<(G.length:Int)->x∈dA:=λx h0 h1=>by
     have:=cov x h0 h1
     rw[← Lh ix.toNat ord]at this
     rw[ip]
     rcases eT this with z|z
     . show i5 (.inl z)
     . show i5 (.inr (dS (.inr z)))
   have F3:↑dA<=G.length+1:=by
     rw[ip,cJ,gF,cp,oI]
     lia
   have F4:(G.length:Int)∈dA:=by
     rw[ip]
     show i5 (.inr (dS (.inl rfl)))
   rw[eo]
   have s3:ag H1 (upd H2 oa (.lst (dA.map V.int))):=cD s2 Gv
   have n8:(upd H2 oa (.lst (dA.map V.int))) oa=S (.lst (dA.map V.int)):=ai
   generalize upd H2 oa (.lst (dA.map V.int))=H3 at s3 n8 ⊢
   show ms H3 dA ⟨s3,n8,F1,F2,F3,λu=>F4,λe=>?_,λe=>?_⟩
   . have ei:ix.toNat=0:=by
       have mK:j=0:=by
         by_cases mK:j=0
         . show mK
         . show ao (by rw[e.1];show we) (Wp 0 ⋯)
       rw[Og,← kL,e.1,mK,show decide ((0:Int)<0)=false from rfl]
       simp
     rw[ip,ei]
     rfl
   . have aiU:0<j:=by
       by_cases mK:j=0
       . subst mK
         rw[we]at hj
         show ao ⟨(dX hj).symm,mh⟩ e
       . lia
     have Zf:0<ix.toNat:=⋯
     rw[ip,Ad (by rw[cp];lia),List.getElem?_take,aB Zf]
     show we
 case rest1=>
   rintro H3 dA ⟨s3,n8,F1,F2,F3,F4,Z1,Z2⟩
   have Db:=ah s1 s3
   show aa U (aa U ⟨⋯,⋯,λpa jV=>?_⟩)
   have npo:oa≠pa:=aR n8 jV
   show vj (lo:=0) (n:=(G.length:Int).toNat) (λi H4=>∃ps:↥Int,H4=upd H3 pa (.lst (ps.map V.int))/\↑ps=i/\(∀x∈ps,0<=x)/\u6 dA ps) ⟨[],U,U,(λx hx=>nomatch hx),λk x hx=>by simp at hx⟩ (λi H4 hi z=>?_) (λH4 z=>?_)
   . obtain⟨ps,rfl,Ev,GB,yB⟩:=z
     obtain⟨j,hj,Wp⟩:=Bq (F2 (0+(i:Int)) ⋯ ⋯)
     have Oq:(upd H3 pa (.lst (ps.map V.int))) oa=S (.lst (dA.map V.int)):=by rw[aC npo];show n8
     show bO (dW (A:=λH3=>cR _ pa _ H3 _) (aa U ⟨.inl ⟨U,_,af.of Oq⟩,aa U ⟨oa,dA,0+(i:Int),j,U,U,af.of Oq,hj,Wp,⋯,_,ai,da (by rw[aA];lia),cO (Pv:=λi H4=>∃ps:↥Int,H4=upd H3 pa (.lst (ps.map V.int))/\↑ps=i/\(∀x∈ps,0<=x)/\u6 dA ps) (by repeat' constructor) hi ⟨ps++[(j:Int)],?_,by rw[cJ,Ev];rfl,λx hx=>?_,afk yB (by rw[Ev,← zZ (i:Int)];show hj) (by rw[Ev,← zZ (i:Int)];show Wp)⟩⟩⟩))
     . rw[kZ,cq]
       rfl
     . rcases eT hx with z|z
       . show GB x z
       . rw[dv z];lia
   obtain⟨ps,rfl,Ev,GB,yB⟩:=z
   rw[gE]at Ev
   have s4:ag H3 (upd H3 pa (.lst (ps.map V.int))):=aH jV _
   have yw:(upd H3 pa (.lst (ps.map V.int))) pa=S (.lst (ps.map V.int)):=ai
   have ai3:H pa=Z:=b9 Db jV
   generalize upd H3 pa (.lst (ps.map V.int))=H4 at s4 yw ⊢
   show aa U (aw U (.inl (af.of yw)) (λbh nW=>?_))
   obtain⟨H5,s5,N0,zz⟩:=aT nW (.lst (ps.map V.int))
   rw[zz];clear zz
   have s05:=ah (ah Db s4) s5
   have YN:H bh=Z:=b9 (ah Db s4) nW
   show aa U (aa U (aw U U (aa U ?_)))
   have factC:¬ decide (x1%(2*(G.length:Int))<(G.length:Int))=true->ag H H5/\H5 oa=S (.lst (dA.map V.int))/\H5 pa=S (.lst (ps.map V.int))/\jt H5 c (bs.map (·.1)) (bA ins (decide (x0%2=1)))/\H5 bh=S (.lst (ps.map V.int))/\↑ps=G.length/\AH dA (G.length:Int) ps ps O.toNat/\ps[0]?=S 0:=λz=>by
     have mh:¬ O<(G.length:Int):=λy=>z (bS (by rw[← kL];show y))
     show⟨s05,s5 _ _ (s4 _ _ n8),s5 _ _ yw,ca.same (ah (ah s3 s4) s5),N0,Ev,λk x hx=>.inl hx,Qn yB (Z2 λe=>mh e.2) ⋯⟩
   show RS (Pm:=λH6 aJ=>ag H H6/\H6 oa=S (.lst (dA.map V.int))/\H6 pa=S (.lst (ps.map V.int))/\jt H6 c (bs.map (·.1)) (bA ins (decide (x0%2=1)))/\H6 bh=S (.lst (aJ.map V.int))/\↑aJ=G.length/\AH dA (G.length:Int) ps aJ O.toNat/\aJ[0]?=S 0) (λms=>aG (λc2=>?brC) (λc2=>ms H5 ps (factC c2))) ?rest2
   case brC=>
     have mh:O<(G.length:Int):=by rw[kL];show bw c2
     have F4:=F4 mh
     have Gw:=s5 _ _ (s4 _ _ n8)
     obtain⟨j2,Oi,hj2n⟩:=Bq F4
     have Zh:kN ↑(ps.map V.int) O=S O.toNat:=by rw[aA,Ev];unfold kN;rw[aB zF,aB mh]
     show aa U ⟨.inl ⟨U,_,af.of Gw⟩,aa U ⟨oa,dA,_,j2,U,U,af.of Gw,Oi,hj2n,⋯,aa U (aa U ⟨bh,_,O,O.toNat,U,(by rw[kL]),N0,Zh,?_⟩)⟩⟩
     obtain⟨aJ,Bw⟩ : ∃aJ:↥Int,aJ=ps.set O.toNat (j2:Int):=⟨_,rfl⟩
     have eb:(ps.map V.int).set O.toNat (V.int (j2:Int))=aJ.map V.int:=by rw[Bw,List.map_set]
     have qL:↑aJ=G.length:=by rw[Bw,uK];show Ev
     have F9:AH dA (G.length:Int) ps aJ O.toNat:=λk x hx=>by
       rw[Bw,DV]at hx
       by_cases e:O.toNat=k
       . rw[aB e]at hx
         by_cases e2:O.toNat<↑ps
         . rw[aB e2]at hx
           cases hx
           show .inr ⟨e.symm,j2,U,Oi⟩
         . rw[az e2]at hx
           cases hx
       . rw[az e]at hx
         show .inl hx
     have pq:aJ[0]?=S 0:=by
       rw[Bw]
       by_cases e:O=0
       . have h2:=Z1 ⟨e,mh⟩
         have mK:j2=0:=by
           by_cases mK:j2=0
           . show mK
           . show ao h2 (hj2n 0 ⋯)
         rw[e,mK]
         have:0<↑ps:=⋯
         rw[DV]
         simp[this]
       . rw[DV,az ⋯]
         show Qn yB (Z2 λz=>e z.1) ⋯
     rw[eb]
     have ZV:=s5 _ _ yw
     have npb:pa≠bh:=aR yw nW
     have rh:ag H (upd H5 bh (.lst (aJ.map V.int))):=cD s05 YN
     have yr:(upd H5 bh (.lst (aJ.map V.int))) oa=S (.lst (dA.map V.int)):=by rw[aC (aR (s4 _ _ n8) nW)];show Gw
     have yx:(upd H5 bh (.lst (aJ.map V.int))) pa=S (.lst (ps.map V.int)):=by rw[aC npb];show ZV
     have ve:jt (upd H5 bh (.lst (aJ.map V.int))) c (bs.map (·.1)) (bA ins (decide (x0%2=1))):=by
       obtain⟨kvs,hk,hv⟩:=ca
       show⟨kvs,by rw[aC (aR (s4 _ _ (s3 _ _ hk)) nW)];show s5 _ _ (s4 _ _ (s3 _ _ hk)),hv⟩
     have ya:(upd H5 bh (.lst (aJ.map V.int))) bh=S (.lst (aJ.map V.int)):=ai
     generalize upd H5 bh (.lst (aJ.map V.int))=H6 at rh yr yx ve ya ⊢
     show ms H6 aJ ⟨rh,yr,yx,ve,ya,qL,F9,pq⟩
   case rest2=>
     rintro H6 aJ ⟨rh,yr,yx,ve,ya,qL,F9,pq⟩
     show⟨alI,λfa hfa=>aa U (aL U ⟨_,af.of (aH hfa _ _ _ yr)⟩ ?_)⟩
     show nS (xs:=dA.map V.int) (λi σ H7=>(∃kv,σ=[S (.ref p),S (.ref r),S (.ref B),S (.ref I),S (.ref N),S (.ref c),nv,sv,S (.int (G.length:Int)),S (.int (x1%(2*(G.length:Int)))),S (.ref la),S (.ref oa),kv,S (.ref pa),S (.ref bh),S (.ref fa),Z])/\∃(Ix:↥V) (ii:↥Nd),ag H6 H7/\H7 fa=S (.lst Ix)/\Paired (cB H7) Ix ii/\↑ii=i/\AQ bs (bA ins (decide (x0%2=1))) cr dA ps aJ O ii) ⟨⟨_,U⟩,[],[],aH hfa _,ai,.nil,U,λj e hj=>by simp at hj⟩ (λi σ H7 u z=>?_) (λi x σ H7 hx z=>?_) (λσ H7 z=>?_)
     . obtain⟨_,Ix,ii,s7,_⟩:=z
       show af.of (s7 _ _ yr)
     . obtain⟨⟨kv,rfl⟩,Ix,ii,s7,yj,wj,hn2,ik⟩:=z
       obtain⟨k,hk,rfl⟩ : ∃k,dA[i]?=S k/\x=V.int k:=by
         rw[eI]at hx
         obtain⟨y,h1,h2⟩:=Option.map_eq_some_iff.mp hx
         show⟨y,h1,h2.symm⟩
       have bC:i<↑dA:=(bt hk)
       obtain⟨k0,k1⟩:=F1 k (bI hk)
       have s07:=ah rh s7
       have ai9:Ix.length=↑ii:=Paired.length wj
       have app:∀(v':V) (H8:Hp) (e':Nd),ag H7 H8->cB H8 v' e'->H8 fa=S (.lst Ix)/\ag H6 (upd H8 fa (.lst (Ix++[v'])))/\Paired (cB (upd H8 fa (.lst (Ix++[v'])))) (Ix++[v']) (ii++[e']):=λv' H8 e' s8 yX=>by
         have h8:=s8 _ _ yj
         show⟨h8,cD (ah s7 s8) hfa,Paired.snoc (Paired.bc wj λa b h=>cB.keep ((ag.tk s8).trans (TK.lst h8)) h) (cB.keep (TK.lst h8) yX)⟩
       show aa U (aa U (aw U U (aa U (aG (λc5=>?_) (λc5=>?_)))))
       . have vI:k<(G.length:Int):=bw c5
         obtain⟨v9,g9,YH⟩:=AZ (xs:=G) (r:=k) k0 vI
         obtain⟨e9,Nv,nd9⟩:=Paired.get pn g9
         have Nu:=qa.good e9 (bI Nv)
         rw[← eO,← qL]at Nu
         show aa U ⟨.inl ⟨U,_,af.of yj⟩,aa U (aa U (aX (s07 _ _ hN) YH (aa U (aa U ⟨v9,c,bh,e9,bs.map (·.1),_,aJ,U,cB.keep (ag.tk s07) nd9,Nu,ve.same s7,s7 _ _ ya,λv' H8 s8 yX=>?_⟩))))⟩
         obtain⟨z1,z2,z3⟩:=app v' H8 _ s8 yX
         show⟨fa,Ix,v',U,U,z1,da ⋯,⟨_,U⟩,_,_,z2,ai,z3,by rw[cJ,hn2];rfl,PB ik ⟨k,by rw[hn2];show hk,.inl ⟨e9,k0,Nv,U⟩⟩⟩
       . have vI:k=(G.length:Int)/\O<(G.length:Int):=k1.resolve_left λz=>c5 (bS z)
         have GG:=zo (ps:=ps) zF (by rw[Ev];show vI.2)
         rw[kL]at GG
         have Z9:0<=eG ps (x1%(2*(G.length:Int))):=by
           obtain⟨y,_,hy,e⟩:=mF V.int ps (r:=O) zF (by rw[Ev];show vI.2)
           rw[kL,GG]at e
           injection e with e
           injection e with e
           rw[e]
           show GB y hy
         show aa U ⟨.inl ⟨U,_,af.of yj⟩,aa U (aa U (aa U (aX (s07 _ _ gM) a4 (aa U (aa U (aX (s7 _ _ yx) GG ⟨B,c,vb,bs,_,x4,aa U ⟨s07 _ _ hB,Paired.bc pb (λa b h=>Tp.keep (ag.tk s07) h),ve.same s7,zQ,Z9,λv' H8 e' s8 yX hsd=>?_⟩⟩))))))⟩
         obtain⟨z1,z2,z3⟩:=app v' H8 e' s8 yX
         show⟨fa,Ix,v',U,U,z1,da ⋯,⟨_,U⟩,_,_,z2,ai,z3,by rw[cJ,hn2];rfl,PB ik ⟨k,by rw[hn2];show hk,.inr ⟨by rw[vI.1,eO],by rw[← eO];show vI.2,by rw[kL];show hsd⟩⟩⟩
     obtain⟨⟨kv,rfl⟩,Ix,ii,s7,yj,wj,hn2,ik⟩:=z
     rw[aA]at hn2
     have NO:sH bs (bA ins (decide (x0%2=1))) cr ii ps aJ:=abA (by rw[Ev];show eO) (by rw[qL];show eO) yB (by rw[← eO];show F9) ik hn2 pq
     have s07:=ah rh s7
     have NJ:=s07 _ _ hB
     have nP:=ve.same s7
     show aa U (aL U ⟨_,af.of NJ⟩ (λta qU=>fT (xs:=vb) (λi H8=>∃vt:↥V,ag H7 H8/\H8 ta=S (.lst vt)/\↑vt=i/\Paired (eX H8) vt ((bs.map λb=>(bA ins (decide (x0%2=1)) b.1,b.2)).take i)) ⟨[],aH qU _,ai,U,.nil⟩ (λi H8 u z=>af.of (z.choose_spec.1 _ _ NJ)) (λi x H8 hx z=>?_) (λH8 z=>?_)))
     . obtain⟨vt,s8,tS,OF,pt⟩:=z
       obtain⟨b,dt,jH,rfl,gX⟩:=Paired.get pb hx
       have bC:i<↑vb:=(bt hx)
       have fe:b.1∈bs.map (·.1):=d7 ⟨b,bI dt,rfl⟩
       show gC (s8 _ _ (s07 _ _ gX)) (dW (A:=λH3=>cR _ ta _ H3 _) (aa U (aa U ⟨c,aa U ⟨(nP.same s8).get fe,aL U alK (λp2 bp=>⟨vt,?_,da ⋯,cO (Pv:=λi H8=>∃vt:↥V,ag H7 H8/\H8 ta=S (.lst vt)/\↑vt=i/\Paired (eX H8) vt ((bs.map λb=>(bA ins (decide (x0%2=1)) b.1,b.2)).take i)) (by repeat' constructor) bC ?_⟩)⟩⟩)))
       . rw[aC (aR tS bp)];show tS
       . have h4:(upd H8 p2 (.tup [.str (bA ins (decide (x0%2=1)) b.1),.int b.2])) ta=S (.lst vt):=by rw[aC (aR tS bp)];show tS
         show⟨vt++[.ref p2],cD (bR s8 bp) qU,ai,by rw[cJ,OF];rfl,?_⟩
         have eg:(bs.map λb=>(bA ins (decide (x0%2=1)) b.1,b.2))[i]?=S (bA ins (decide (x0%2=1)) b.1,b.2):=by rw[eI,dt];rfl
         rw[cV,eg]
         show Paired.snoc (Paired.bc pt λa b h=>Tp.keep ((bN bp _).trans (TK.lst h4)) h) ⟨p2,U,by rw[aC (aR tS bp).symm];show ai⟩
     obtain⟨vt,s8,tS,OF,pt⟩:=z
     have WQ:(bs.map λb=>(bA ins (decide (x0%2=1)) b.1,b.2)).take ↑vb=bs.map λb=>(bA ins (decide (x0%2=1)) b.1,b.2):=nj (by rw[aA];lia)
     rw[WQ]at pt
     have s08:=ah s07 s8
     have Sk:1-2*(x5%2)=1\/1-2*(x5%2)=-1:=by
       have:=hJ x5 (show(2:Int)≠0 by left)
       have:=iz x5 (show(0:Int)<2 by left)
       lia
     show aa U (aX (s08 _ _ gM) a5 (bF U U (by change(0:Int)<2;decide) (bF U U (.inl ⟨∅,∅⟩) (aw U U (aa U ⟨Sk,aw U (af.of tS) (λtu OC=>aa U (aa U (aw U (.inl (af.of (aH OC _ _ _ (s08 _ _ hI)))) (λi2 kJ=>(aL U alL (λq3 qR=>(aa U (aa U (aL U alM (λp4 jU=>?_))))))))))⟩)))))
     have t1:ag H8 (upd H8 tu (.lst (jI (1-2*(x5%2)) vt))):=aH OC _
     have g1:(upd H8 tu (.lst (jI (1-2*(x5%2)) vt))) tu=S (.lst (jI (1-2*(x5%2)) vt)):=ai
     generalize upd H8 tu (.lst (jI (1-2*(x5%2)) vt))=H9 at t1 g1 kJ qR jU ⊢
     have t2:ag H9 (upd H9 i2 (.lst (ins.map V.str))):=aH kJ _
     have g2:(upd H9 i2 (.lst (ins.map V.str))) i2=S (.lst (ins.map V.str)):=ai
     generalize upd H9 i2 (.lst (ins.map V.str))=HA at t2 g2 qR jU ⊢
     have t3:ag HA (upd HA q3 (.tup [.ref tu,.ref i2,.ref fa])):=aH qR _
     have g3:(upd HA q3 (.tup [.ref tu,.ref i2,.ref fa])) q3=S (.tup [.ref tu,.ref i2,.ref fa]):=ai
     generalize upd HA q3 (.tup [.ref tu,.ref i2,.ref fa])=HB at t3 g3 jU ⊢
     have t4:ag HB (upd HB p4 (.tup [.ref q3,.ref c,.ref pa,.ref bh])):=aH jU _
     have t78:=ah s8 (ah t1 (ah t2 (ah t3 t4)))
     have t8:=ah t1 (ah t2 (ah t3 t4))
     show q p4 q3 tu i2 fa c pa bh _ (jI (1-2*(x5%2)) vt) Ix (bT (1-2*(x5%2)) (bs.map λb=>(bA ins (decide (x0%2=1)) b.1,b.2))) ii (decide (x0%2=1)) (1-2*(x5%2)) (ah s08 t8) ai (t4 _ _ g3) (t4 _ _ (t3 _ _ (t2 _ _ g1))) ?_ (t4 _ _ (t3 _ _ g2)) (t78 _ _ yj) (Paired.bc wj λa b h=>cB.keep (ag.tk t78) h) ⋯ (nP.same t78) ⟨U,Sk⟩ ps aJ (t78 _ _ (s7 _ _ yx)) (t78 _ _ (s7 _ _ ya)) NO
     show adZ (Paired.bc pt λa b h=>Tp.keep (ag.tk t8) h)
abbrev Jm:Stmt:=dJ 34 0
abbrev CG:Stmt:=dJ 35 0
def gP {n:Nat}(h:n<=9000):n<sizeLine:=Nat.lt_of_le_of_lt h ∅
abbrev lk (fs:↥(Str×V))(f:Str):Option V:=fs.lookup f
def ji {fs:↥(Str×V)}(f:Str)(v:V){k:Nat}(h:↑fs<=k):∃fs',gN f v fs=fs'/\↑fs'<=k+1/\lk fs' f=S v/\∀g,g≠f->lk fs' g=lk fs g:=
 ⟨_,rfl,by have:=HU f v fs;lia,by change qr _ _=_;rw[B6,aB rfl],λg G=>by change qr _ _=_;rw[B6,az G]⟩
def zq {κ:Type}[DecidableEq κ](kvs:↥(κ×V))(k:κ)(v:V):↑(putK kvs k v)<=↑kvs+1:=by
 unfold putK
 split
 . rw[aA];lia
 . rw[cJ];show aK _
def Kp.tk {x C dx:J}{fs:↥(Str×V)}{H H':Hp}(k:Kp x H H')(h:H x=S (.ins C dx fs)):TK H H':=λb xs e=>k b _ e λz=>by rw[z,h]at e;cases e
structure gR (K:av)(H:Hp)(a:J)(W:↥(↥Int)):Prop where
 ex:∃(C dx:J) (fs:↥(Str×V)) (lw:J) (as:↥J),fB K C/\jP K C "worths"/\H a=S (.ins C dx fs)/\lk fs "worths"=S (.ref lw)/\H lw=S (.lst (as.map V.ref))/\Paired (EM H) as W
def gR.keep {K:av}{H H':Hp}{a g C dx:J}{fs:↥(Str×V)}{W:↥(↥Int)}(h:gR K H a W)(k:Kp g H H')(O:H g=S (.ins C dx fs))(ne:a≠g):gR K H' a W:=by
 obtain⟨C1,kD,kE,lw,as,c,n,ha,l,G,p⟩:=h
 have I:∀{b:J} {xs:↥V},H b=S (.lst xs)->b≠g:=λe z=>by rw[z,O]at e;cases e
 show⟨C1,kD,kE,lw,as,c,n,k _ _ ha ne,l,k _ _ G (I G),Paired.bc p λy y z=>k _ _ z (I z)⟩
def gR.same {K:av}{H H':Hp}{a:J}{W:↥(↥Int)}(h:gR K H a W)(s:ag H H'):gR K H' a W:=by
 obtain⟨G,I,O,lw,as,c,n,ha,l,hl,p⟩:=h
 show⟨G,I,O,lw,as,c,n,s _ _ ha,l,s _ _ hl,Paired.bc p λy y z=>s _ _ z⟩
structure uU (re:↥Int):Prop where
 sz:∀s∈re,0<=s/\s<=900
 len:↑re<=400
 gr:∀i,↑(cm (re.take i))<=900
abbrev aE (bs:ak):↥(↥Int):=cm (bs.map (·.2))
theorem xX:∀G:↥Int,(cm G).Nodup
 | []=>Ur (λv h=>nomatch h) Ut
 | s::G=>by
   change((cj s.toNat).flatMap λw=>(cm G).map λr=>((w:Nat):Int)::r).Nodup
   show List.pairwise_flatMap.mpr ⟨λa v=>List.pairwise_map.mpr ((xX G).imp λh z=>h (List.cons.inj z).2),List.Pairwise.imp (λ{a b} h x hx y hy z=>?_) (List.nodup_range (n:=s.toNat))⟩
   obtain⟨r,_,rfl⟩:=du hx
   obtain⟨I,_,rfl⟩:=du hy
   show h (zX (List.cons.inj z).1)
def Cf {α:Type}{l:List α}(h:l.Nodup){i j:Nat}{x:α}(h1:l[i]?=S x)(h2:l[j]?=S x):i=j:=by
 obtain⟨G,I⟩:=List.getElem?_eq_some_iff.mp h1
 obtain⟨O,e2⟩:=List.getElem?_eq_some_iff.mp h2
 rcases Nat.lt_trichotomy i j with z|z|z
 . show ao (I.trans e2.symm) (List.pairwise_iff_getElem.mp h i j G O z)
 . show z
 . show ao (e2.trans I.symm) (List.pairwise_iff_getElem.mp h j i O G z)
abbrev EG (W:↥(↥Int))(kvs:↥(↥Key×V))(n:Nat):Prop:=∀j r,j<n->W[j]?=S r->bu kvs (r.map jM)=S (.int (j:Nat))
structure gS (K:av)(C:J)(H:Hp)(a:J)(v:V)(W:↥(↥Int))(st sy:J):Prop where
 cl:fB K C
 na:qC K C ["program","worths","numbers","steps","stays"]
 ex:∃(dx:J) (fs:↥(Str×V)) (nb:J) (kvs:↥(↥Key×V)),H a=S (.ins C dx fs)/\lk fs "program"=S v/\lk fs "numbers"=S (.ref nb)/\lk fs "steps"=S (.ref st)/\lk fs "stays"=S (.ref sy)/\H nb=S (.dT kvs)/\EG W kvs W.length/\∀f,f∉(["program","worths","numbers","steps","stays"]:↥Str)->lk fs f=Z
def gS.keep {K:av}{C:J}{H H':Hp}{a d st G:J}{v:V}{W:↥(↥Int)}(h:gS K C H a v W st G)(k:Kp d H H')(O:a≠d)(nd:∀b kvs,H b=S (.dT kvs)->b≠d):gS K C H' a v W st G:=by
 obtain⟨cl,n,dx,fs,nb,kvs,h1,h2,h3,h4,h5,I,h7⟩:=h
 show⟨cl,n,dx,fs,nb,kvs,k _ _ h1 O,h2,h3,h4,h5,k _ _ I (nd _ _ I),h7⟩
def gS.same {K:av}{C:J}{H H':Hp}{a st G:J}{v:V}{W:↥(↥Int)}(h:gS K C H a v W st G)(s:ag H H'):gS K C H' a v W st G:=by
 obtain⟨I,n,dx,fs,O,kvs,h1,h2,h3,h4,h5,h6,h7⟩:=h
 show⟨I,n,dx,fs,O,kvs,s _ _ h1,h2,h3,h4,h5,s _ _ h6,h7⟩
def J4 (K:av)(C:J):Sp:=λvs H Q z=>∃(x dx:J) (v:V) (bs:ak),vs=[.ref x,v]/\H x=S (.ins C dx [])/\jN H v bs/\uU (bs.map (·.2)) /\
 ∀(H':Hp) (st G:J),Kp x H H'->(∃fs,H' x=S (.ins C dx fs))->gR K H' x (aE bs)->gS K C H' x v (aE bs) st G->H st=Z->H G=Z->st≠G->H' st=S (.dK [])->H' G=S (.dK [])->Q .aM H'
def agw:bE ["self","program"] ["self","program"] (aV Jm):=bP
def jN.kp {x C dx:J}{fs:↥(Str×V)}{H H':Hp}{v:V}{bs:ak}(h:jN H v bs)(k:Kp x H H')(hx:H x=S (.ins C dx fs)):jN H' v bs:=
 let⟨p,B,I,N,G,e,h1,h2,O⟩:=h
 ⟨p,B,I,N,G,e,k.tk hx _ _ h1,k _ _ h2 (λz=>by rw[z,hx]at h2;cases h2),Paired.bc O λy y z=>Tp.keep (k.tk hx) z⟩
def ac5 {C:J}{f:J}{fd:ba}(F:bq K "__init__" "Side.__init__" Jm f fd)(cs:uR K mg "Side" C ["program","worths","numbers","steps","stays"])(EW:aP P w K mg base "every_worths" ["sizes"] 1 C5)(BS:aP P w K mg base "box_sizes" ["program"] 1 JO)(m_tuple:mg "tuple"=Z)(G:mg "enumerate"=Z):aU P w K mg base bj 2 f fd ["self","program"] (J4 K C):=by
 show F.bZ agw λim A outer s H vs Q E hr h=>?_
 obtain⟨x,dx,v,bs,rfl,hx,hb,fw,q⟩:=h
 show cK ⟨_,(ajH (akg (Y 0) (Y 1))
   (ajH (akg (Y 0) (ajR EW hr U (L (ajR BS hr U (L (Y 1) M)) M)))
   (ajH (akg (Y 0) (L3.MV [Z,Z] ["number","worths"] (cI hr _ ∅) (dq Jm) U (L3.iE U G (L (ajX (Y 0)) M)) (λu u u u u=>⟨(aj1 2 (ajQ (ajK 0 (bM ["number","worths"])) (ajQ (ajK 1 (bM ["number","worths"])) aj2))),aj3,(aka L3.Fm U m_tuple (by right) (L (Y 1) M)),(Y 0)⟩)))
   (ajH (akg (Y 0) L3.Fw)
   (ajI (akg (Y 0) L3.Fw)))))),?_⟩
 have cl:=cs.c
 have na:∀f,f∈(["program","worths","numbers","steps","stays"]:↥Str)->jP K C f:=λf hf=>cs.na.get hf
 show aa U (aa U ⟨x,C,dx,[],U,hx,cl,na _ ∅,∅,?_⟩)
 obtain⟨f1,e1,l1,Cq,k1⟩:=ji "program" v (fs:=[]) (aK 0)
 rw[e1]
 have Hr:Kp x H (upd H x (.ins C dx f1)):=(Kp.refl H).self
 have x1:(upd H x (.ins C dx f1)) x=S (.ins C dx f1):=ai
 generalize upd H x (.ins C dx f1)=H1 at Hr x1 ⊢
 have x9:jN H1 v bs:=hb.kp Hr hx
 have qL:↑bs<=900:=by have:=fw.len;rw[aA]at this;lia
 show aa U ⟨v,bs,U,x9,qL,λl hl=>⟨l,aa U ⟨ai,fw.sz,ck fw.len ∅,fw.gr,λlw as H3 O=>?_⟩⟩⟩
 have s3:ag H1 H3:=ah (aH hl _) O.s
 have x3:=s3 _ _ x1
 show aa U ⟨x,C,dx,f1,U,x3,cl,na _ ∅,⋯,?_⟩
 obtain⟨f2,e2,l2,w2,k2⟩:=ji "worths" (.ref lw) l1
 rw[e2]
 have kp4:Kp x H (upd H3 x (.ins C dx f2)):=(Hr.same s3).self
 have nl:∀{b:J} {xs:↥V},H3 b=S (.lst xs)->b≠x:=λe z=>by rw[z,x3]at e;cases e
 have yO:(upd H3 x (.ins C dx f2)) lw=S (.lst (as.map V.ref)):=by rw[aC (nl O.e)];show O.e
 have p4:Paired (EM (upd H3 x (.ins C dx f2))) as (cm (bs.map (·.2))):=Paired.bc O.p λa r z=>by change upd H3 x _ a=_;rw[aC (nl z)];show z
 have x4:(upd H3 x (.ins C dx f2)) x=S (.ins C dx f2):=ai
 generalize upd H3 x (.ins C dx f2)=H4 at kp4 yO p4 x4 ⊢
 have tJ:=Paired.length p4
 have Y5:=fw.gr ↑(bs.map (·.2))
 rw[cL]at Y5
 show aa U (bY x4 cl (na _ ∅) w2 (aL U ⟨_,af.of yO⟩ (λD hD=>Wd (xs:=as.map V.ref) (λi H2=>ag H4 H2/\∃kvs,H2 D=S (.dT kvs)/\↑kvs<=i/\EG (aE bs) kvs i) ⟨aH hD _,_,ai,aK _,λj r h u=>ao h (oM _)⟩ (λi H2 u z=>af.of (z.1 _ _ yO)) (λi y p H2 hy z hp=>?_) (λH5 z=>?_))))
 . obtain⟨s5,kvs,vz,hk,ik⟩:=z
   obtain⟨a,ha,rfl⟩:=eh hy
   obtain⟨r,bJ,jS⟩:=Paired.get p4 ha
   have bC:i<↑(as.map V.ref):=(bt hy)
   have kJ:i<900:=by rw[aA]at bC;lia
   obtain⟨H6,s6,g6,zz⟩:=aT hp (.tup [.int (i:Nat),.ref a])
   rw[zz];clear zz
   show gC g6 (dW (A:=λH3=>yP _ _ D _ H3 _) (aa U (aw U (af.of (s6 _ _ (s5 _ _ jS))) (λtk htk=>(aa U ⟨_,iD.t (k:=r.map jM) (kvs:=kvs) ?_ ?_ (da ⋯),cO (Pv:=λi H2=>ag H4 H2/\∃kvs,H2 D=S (.dT kvs)/\↑kvs<=i/\EG (aE bs) kvs i) (by repeat' constructor) bC ⟨?_,_,ai,by have:=zq kvs (r.map jM) (.int (i:Nat));lia,λj r2 hj jW=>?_⟩⟩)))))
   . rw[aC (aR (s6 _ _ vz) htk)];show s6 _ _ vz
   . rw[ai,jK];rfl
   . show cD (bR (ah s5 s6) htk) hD
   . rw[j7]
     by_cases ej:j=i
     . subst ej
       rw[bJ]at jW
       cases jW
       rw[aB rfl]
     . rw[az λz=>ej (Cf (xX _) jW (by rw[(List.map_inj_right (λa b h=>Ap h)).mp z];show bJ))]
       show ik j r2 ⋯ jW
 obtain⟨s5,kvs,vz,_,ik⟩:=z
 rw[aA,tJ]at ik
 have D0:∀{b:J},H5 b=Z->H b=Z:=λ{b} h=>by
   match e:H b with
   | none=>rfl
   | some o=>
     by_cases z:b=x
     . rw[z,s5 _ _ x4]at h;cases h
     . rw[s5 _ _ (kp4 _ _ e z)]at h;cases h
 have nDx:D≠x:=λz=>by rw[z,s5 _ _ x4]at vz;cases vz
 have x5:=s5 _ _ x4
 show aa U ⟨x,C,dx,f2,U,x5,cl,na _ ∅,⋯,?_⟩
 obtain⟨f3,e3,l3,nu3,k3⟩:=ji "numbers" (.ref D) l2
 rw[e3]
 have w3:lk f3 "worths"=S (.ref lw):=by rw[k3 _ ∅];show w2
 show λd1 ye=>?_
 have n1:d1≠x:=λz=>by rw[z,ai]at ye;cases ye
 have Yg:H5 d1=Z:=by rw[aC n1]at ye;show ye
 have x6:(upd (upd H5 x (.ins C dx f3)) d1 (.dK [])) x=S (.ins C dx f3):=by rw[aC n1.symm];show ai
 show aa U ⟨x,C,dx,f3,U,x6,cl,na _ ∅,⋯,?_⟩
 obtain⟨f4,e4,l4,rq,k4⟩:=ji "steps" (.ref d1) l3
 rw[e4]
 have w4:lk f4 "worths"=S (.ref lw):=by rw[k4 _ ∅];show w3
 show λd2 I=>?_
 have n2:d2≠x:=λz=>by rw[z,ai]at I;cases I
 have Ii:d1≠d2:=λz=>by rw[← z,aC n1,ai]at I;cases I
 have Yh:H5 d2=Z:=by rw[aC n2,aC Ii.symm,aC n2]at I;show I
 have x7:(upd (upd (upd (upd H5 x (.ins C dx f3)) d1 (.dK [])) x (.ins C dx f4)) d2 (.dK [])) x=S (.ins C dx f4):=by rw[aC n2.symm];show ai
 show aa U ⟨x,C,dx,f4,U,x7,cl,na _ ∅,⋯,?_⟩
 obtain⟨f5,e5,l5,sy5,k5⟩:=ji "stays" (.ref d2) l4
 rw[e5]
 have w5:lk f5 "worths"=S (.ref lw):=by rw[k5 _ ∅];show w4
 have mj:lk f5 "steps"=S (.ref d1):=by rw[k5 _ ∅];show rq
 have nu5:lk f5 "numbers"=S (.ref D):=by rw[k5 _ ∅,k4 _ ∅];show nu3
 have pr5:lk f5 "program"=S v:=by rw[k5 _ ∅,k4 _ ∅,k3 _ ∅,k2 _ ∅];show Cq
 have B4:Kp x H5 (upd (upd (upd (upd (upd H5 x (.ins C dx f3)) d1 (.dK [])) x (.ins C dx f4)) d2 (.dK [])) x (.ins C dx f5)):=((((Kp.refl H5).self).new ye).self).new I |>.self
 have nl4:∀{b:J} {xs:↥V},H4 b=S (.lst xs)->b≠x:=λe z=>by rw[z,x4]at e;cases e
 show q _ d1 d2 ((kp4.same s5).trans B4) ⟨_,ai⟩ ⟨C,dx,f5,lw,as,cl,na _ ∅,ai,w5,B4 _ _ (s5 _ _ yO) (nl4 yO),Paired.bc p4 λu u z=>B4 _ _ (s5 _ _ z) (nl4 z)⟩ ⟨cl,cs.na,dx,f5,D,kvs,ai,pr5,nu5,mj,sy5,B4 _ _ vz nDx,ik,λf hf=>by rw[k5 _ (λz=>hf (by rw[z];simp)),k4 _ (λz=>hf (by rw[z];simp)),k3 _ (λz=>hf (by rw[z];simp)),k2 _ (λz=>hf (by rw[z];simp)),k1 _ (λz=>hf (by rw[z];simp))];rfl⟩ (D0 Yg) (D0 Yh) Ii ?_ ?_
 . rw[aC n1,aC Ii,aC n1];show ai
 . rw[aC n2];show ai
theorem uD:∀{bs:ak} {ws:↥Int} {i:Nat} {b:Str×Int} {w:Int},(bs.map (·.1)).Nodup->bs[i]?=S b->ws[i]?=S w->b7 bs ws b.1=w
 | [],_,_,_,_,_,h,_=>by simp at h
 | _::_,[],_,_,_,_,_,h=>by simp at h
 | c::bs,v::ws,0,b,w,_,h,g=>by
   simp at h g
   subst h g
   change(if c.1=c.1 then v else b7 bs ws c.1)=v
   rw[aB rfl]
 | c::bs,v::ws,i+1,b,w,nd,h,g=>by
   rw[jb,Ah]at nd
   have h':bs[i]?=S b:=by simpa using h
   change(if c.1=b.1 then v else b7 bs ws b.1)=w
   rw[az (λe:c.1=b.1=>nd.1 (by rw[e];show d7 ⟨b,bI h',rfl⟩))]
   show uD nd.2 h' (by simpa using g)
def made {H H1:Hp}{x dx:J}{o:HO}(n1:H x=Z)(n2:H dx=Z)(k:Kp x (upd (upd H dx (.own x)) x o) H1):ag H H1:=λb u e=>by
 show k b u ?_ (aR e n1)
 rw[aC (aR e n1),aC (aR e n2)]
 show e
abbrev nR (b1 b2:ak):Nat:=↑(aE b1)*↑(aE b2)
def wA (W:↥(↥Int))(i:Nat):↥Int:=W.getD i []
def lh {W:↥(↥Int)}{i:Nat}{r:↥Int}(h:W[i]?=S r):wA W i=r:=by
 unfold wA
 rw[eR,h]
 rfl
def dM (b1 b2:ak)(r:Nat):Str->Str->Int:=eY b1 (wA (aE b1) (r/↑(aE b2))) b2 (wA (aE b2) (r%↑(aE b2)))
abbrev vg (b1 b2:ak)(t x:Str):↥V:=(cj (nR b1 b2)).map λr:Nat=>V.int (dM b1 b2 r t x)
def nF (b1 b2:ak)(H:Hp)(kvs:↥(↥Key×V))(G:Str->Str->Prop):Prop:=∀t x,(G t x->∃col,bu kvs [.inr t,.inr x]=S (.ref col)/\H col=S (.lst (vg b1 b2 t x)))/\((bu kvs [.inr t,.inr x]).isSome=true->G t x)
def nF.put {b1 b2:ak}{H H':Hp}{kvs:↥(↥Key×V)}{Pc Pd:Str->Str->Prop}{I y:Str}{l:J}(h:nF b1 b2 H kvs Pc)(k:∀b xs,H b=S (.lst xs)->H' b=S (.lst xs))(hl:H' l=S (.lst (vg b1 b2 I y)))
   (O:∀t x,Pd t x↔Pc t x\/(t=I/\x=y)):nF b1 b2 H' (putK kvs [.inr I,.inr y] (.ref l)) Pd:=λt x=>by
 rw[j7]
 by_cases e:([.inr t,.inr x]:↥Key)=[.inr I,.inr y]
 . rw[aB e]
   injection e with e1 G
   injection e1 with e1
   injection G with G _
   injection G with G
   subst e1 G
   show⟨λw=>⟨l,U,hl⟩,λw=>(O _ _).mpr (.inr ⟨U,U⟩)⟩
 . rw[az e]
   show⟨λhx=>?_,λhx=>(O t x).mpr (.inl ((h t x).2 hx))⟩
   rcases(O t x).mp hx with z|⟨rfl,rfl⟩
   . obtain⟨col,h1,h2⟩:=(h t x).1 z
     show⟨col,h1,k _ _ h2⟩
   . show ao rfl e
structure oV (K:av)(C:J)(H:Hp)(g:J)(b1 b2:ak):Prop where
 cl:fB K C
 na:qC K C ["mine","yours","width","rows","columns"]
 ex:∃(dx:J) (fs:↥(Str×V)) (m y rl cd:J) (kvs:↥(↥Key×V)),H g=S (.ins C dx fs)/\lk fs "mine"=S (.ref m)/\lk fs "yours"=S (.ref y)/\lk fs "width"=S (.int (↑(aE b2):Nat))/\lk fs "rows"=S (.ref rl)/\lk fs "columns"=S (.ref cd) /\
   gR K H m (aE b1)/\gR K H y (aE b2)/\H rl=S (.lst ((cj (nR b1 b2)).map λi:Nat=>V.int i))/\H cd=S (.dT kvs)/\nF b1 b2 H kvs (iH b1 b2)/\∀f,f∉(["mine","yours","width","rows","columns"]:↥Str)->lk fs f=Z
def oV.same {K:av}{C:J}{H H':Hp}{g:J}{b1 b2:ak}(h:oV K C H g b1 b2)(s:ag H H'):oV K C H' g b1 b2:=by
 obtain⟨I,O,dx,fs,m,y,rl,cd,kvs,h1,h2,h3,h4,h5,h6,h7,h8,h9,ph,G,xZ⟩:=h
 show⟨I,O,dx,fs,m,y,rl,cd,kvs,s _ _ h1,h2,h3,h4,h5,h6,h7.same s,h8.same s,s _ _ h9,s _ _ ph,λt x=>⟨λhx=>?_,(G t x).2⟩,xZ⟩
 obtain⟨col,k1,k2⟩:=(G t x).1 hx
 show⟨col,k1,s _ _ k2⟩
structure Ca where
 s1:J
 t1:J
 s2:J
 t2:J
structure Ca.Nd (c:Ca):Prop where
 n1:c.s1≠c.t1
 n2:c.s1≠c.s2
 n3:c.s1≠c.t2
 n4:c.t1≠c.s2
 n5:c.t1≠c.t2
 n6:c.s2≠c.t2
structure Ca.Va (c:Ca)(H:Hp):Prop where
 n1:H c.s1=Z
 n2:H c.t1=Z
 n3:H c.s2=Z
 n4:H c.t2=Z
structure LU (K:av)(C CS:J)(H:Hp)(g:J)(v1 v2:V)(b1 b2:ak)(c:Ca):Prop where
 ex:∃(dx:J) (fs:↥(Str×V)) (m y:J),H g=S (.ins C dx fs)/\lk fs "mine"=S (.ref m)/\lk fs "yours"=S (.ref y)/\gS K CS H m v1 (aE b1) c.s1 c.t1/\gS K CS H y v2 (aE b2) c.s2 c.t2
structure ju (K:av)(C:J)(H:Hp)(o:J)(v:V)(b:ak)(st sy:J):Prop where
 a:gR K H o (aE b)
 m:gS K C H o v (aE b) st sy
 s:H st=S (.dK [])
 y:H sy=S (.dK [])
def ju.keep {K:av}{CS:J}{H H':Hp}{a g C dx st I:J}{fs:↥(Str×V)}{v:V}{b:ak}(h:ju K CS H a v b st I)(k:Kp g H H')(G:H g=S (.ins C dx fs))(O:a≠g):ju K CS H' a v b st I:=
 have nk:∀{b:J} {kvs:↥(Key×V)},H b=S (.dK kvs)->b≠g:=λe z=>by rw[z,G]at e;cases e
 ⟨h.a.keep k G O,h.m.keep k O (λx x e z=>by rw[z,G]at e;cases e),k _ _ h.s (nk h.s),k _ _ h.y (nk h.y)⟩
def ju.same {K:av}{CS:J}{H H':Hp}{a st G:J}{v:V}{b:ak}(h:ju K CS H a v b st G)(s:ag H H'):ju K CS H' a v b st G:=⟨h.a.same s,h.m.same s,s _ _ h.s,s _ _ h.y⟩
def JV (K:av)(C CS:J):Sp:=λvs H Q z=>∃(x dx:J) (v1 v2:V) (b1 b2:ak),vs=[.ref x,v1,v2]/\H x=S (.ins C dx [])/\jN H v1 b1/\jN H v2 b2/\(b1.map (·.1)).Nodup/\(b2.map (·.1)).Nodup/\uU (b1.map (·.2))/\uU (b2.map (·.2))/\nR b1 b2<=3000 /\
 ∀(H':Hp) (c:Ca),Kp x H H'->oV K C H' x b1 b2->LU K C CS H' x v1 v2 b1 b2 c->c.Nd->c.Va H->H' c.s1=S (.dK [])->H' c.t1=S (.dK [])->H' c.s2=S (.dK [])->H' c.t2=S (.dK [])->Q .aM H'
def ui:bE ["self","one","other","at","name","size"] ["self","one","other"] (aV CG):=bP
def acG {C CS:J}{f:J}{fd:ba}(F:bq K "__init__" "Ground.__init__" CG f fd)(cs:uR K mg "Ground" C ["mine","yours","width","rows","columns"])(SD:nH P w K mg base "Side" CS ["self","program"] 2 (J4 K CS))(m_len:mg "len"=Z)(m_list:mg "list"=Z)(m_range:mg "range"=Z)(O:mg "enumerate"=Z):aU P w K mg base bj 4 f fd ["self","one","other"] (JV K C CS):=by
 show F.bZ ui λim A outer s H vs Q E hr h=>?_
 obtain⟨x,dx,v1,v2,b1,b2,rfl,hx,Mq,Mt,sK,bG,fw1,fw2,hn,q⟩:=h
 show cK ⟨_,(ajH (akg (Y 0) (akM SD hr U (L (Y 1) M)))
   (ajH (akg (Y 0) (akM SD hr U (L (Y 2) M)))
   (ajH (akg (Y 0) (aj0 aj5 U m_len eE (L (ajX (ajX (Y 0))) M)))
   (ajH (akg (Y 0) (L3.aa8 U m_list U m_range (L (ajJ akd (aj0 aj5 U m_len eE (L (ajX (ajX (Y 0))) M)) (ajX (Y 0))) M)))
   (ajH (akg (Y 0) L3.Fx)
   (ajH (aj8 (L3.iE U O (L (ajG ajM (Y 1) ajF) M)) (aj1 2 (ajQ (ajK 3 ui.nd) (ajQ (aj1 2 (ajQ (ajK 4 ui.nd) (ajQ (ajK 5 ui.nd) aj2))) aj2))) (ajI (akC (cI hr _ ∅) (ajX (Y 0)) (ajO (L ajL (L (Y 4) M))) (aj6 [Z,S 3,S 0] ["row","at","self"] (dq CG) U (aj4 (ajX (Y 0))) (λv v v v v=>⟨(ajK 0 (bM ["row","at","self"])),aj3,(ajG ajP (ajG ajP (ajX (ajX (Y 2))) (ajJ aki (Y 0) (ajX (Y 2)))) (Y 1))⟩)))))
   (ajI (aj8 (L3.iE U O (L (ajG ajM (Y 2) ajF) M)) (aj1 2 (ajQ (ajK 3 ui.nd) (ajQ (aj1 2 (ajQ (ajK 4 ui.nd) (ajQ (ajK 5 ui.nd) aj2))) aj2))) (ajI (akC (cI hr _ ∅) (ajX (Y 0)) (ajO (L ajL (L (Y 4) M))) (aj6 [Z,S 3,S 0] ["row","at","self"] (dq CG) U (aj4 (ajX (Y 0))) (λv v v v v=>⟨(ajK 0 (bM ["row","at","self"])),aj3,(ajG ajP (ajG ajP (ajX (ajX (Y 2))) (ajJ ajY (Y 0) (ajX (Y 2)))) (Y 1))⟩)))))))))))),?_⟩
 have cl:=cs.c
 have na:∀f,f∈(["mine","yours","width","rows","columns"]:↥Str)->jP K C f:=λf hf=>cs.na.get hf
 obtain⟨p1,B1,I1,N1,qj,rfl,iq,jB,jH⟩:=id Mq
 obtain⟨p2,B2,I2,N2,zL,rfl,bp,tH,zj⟩:=id Mt
 have nl:∀{b:J} {xs:↥V},H b=S (.lst xs)->b≠x:=λe z=>by rw[z,hx]at e;cases e
 have Pp:=nl jB
 have nB2:=nl tH
 show bW λRk kR=>aa U (λsm sdx m1 m2 m3=>⟨sm,sdx,_,b1,U,ai,Mq.same (ah (aH m2 _) (aH (by rw[aC m3.symm];show m1) _)),fw1,λG jn rC ka xa sa sb n1 n2 n3 n4 n5=>⟨U,?_⟩⟩)
 have s0a:=made m1 m2 ka
 replace sa:ju K CS G sm (.ref p1) b1 jn rC:=⟨sa,sb,n4,n5⟩
 have Xf:H jn=Z:=b9 (ah (aH m2 _) (aH (by rw[aC m3.symm];show m1) _)) n1
 have vm:H rC=Z:=b9 (ah (aH m2 _) (aH (by rw[aC m3.symm];show m1) _)) n2
 have qZ:sm≠x:=λz=>by rw[z,hx]at m1;cases m1
 have xa:=s0a _ _ hx
 show aa U ⟨x,C,dx,[],U,xa,cl,na _ ∅,∅,?_⟩
 obtain⟨f1,e1,l1,abl,q1⟩:=ji "mine" (.ref sm) (fs:=[]) (aK 0)
 rw[e1]
 have BV:Kp x H (upd G x (.ins C dx f1)):=((Kp.refl H).same s0a).self
 have x1:(upd G x (.ins C dx f1)) x=S (.ins C dx f1):=ai
 have ed:ju K CS (upd G x (.ins C dx f1)) sm (.ref p1) b1 jn rC:=sa.keep (Kp.refl G).self xa qZ
 generalize upd G x (.ins C dx f1)=H1 at BV x1 ed ⊢
 show kR _ _ (bW λRk kR=>aa U (λjo JA m4 m5 m6=>⟨jo,JA,_,b2,U,ai,(Mt.kp BV hx).same (ah (aH m5 _) (aH (by rw[aC m6.symm];show m4) _)),fw2,λG fY uz ka xa sa sb w1 w2 w3 w4 w5=>⟨U,?_⟩⟩))
 have IX:=made m4 m5 ka
 replace sa:ju K CS G jo (.ref p2) b2 fY uz:=⟨sa,sb,w4,w5⟩
 have old:∀{b d:J} {kvs:↥(Key×V)},(upd (upd H1 JA (.own jo)) jo (.ins CS JA [])) d=Z->H1 b=S (.dK kvs)->b≠d:=λh e z=>by
   rw[← z]at h
   rw[ah (aH m5 _) (aH (by rw[aC m6.symm];show m4) _) _ _ e]at h
   cases h
 have V9:Ca.Nd ⟨jn,rC,fY,uz⟩:=⟨n3,old w1 ed.s,old w2 ed.s,old w1 ed.y,old w2 ed.y,w3⟩
 have low:∀{d:J},H1 d=Z->H d=Z:=λ{d} h=>by
   match e:H d with
   | none=>rfl
   | some o=>
     by_cases z:d=x
     . rw[z,x1]at h;cases h
     . rw[BV _ _ e z]at h;cases h
 have qI:H fY=Z:=low (b9 (ah (aH m5 _) (aH (by rw[aC m6.symm];show m4) _)) w1)
 have Xg:H uz=Z:=low (b9 (ah (aH m5 _) (aH (by rw[aC m6.symm];show m4) _)) w2)
 have y9:jo≠x:=λz=>by rw[z,x1]at m4;cases m4
 have xa:=IX _ _ x1
 show aa U ⟨x,C,dx,f1,U,xa,cl,na _ ∅,⋯,?_⟩
 obtain⟨f2,e2,l2,T6,q2⟩:=ji "yours" (.ref jo) l1
 rw[e2]
 have OS:Kp x H (upd G x (.ins C dx f2)):=(BV.same IX).self
 have x2:(upd G x (.ins C dx f2)) x=S (.ins C dx f2):=ai
 have fI:ju K CS (upd G x (.ins C dx f2)) jo (.ref p2) b2 fY uz:=sa.keep (Kp.refl G).self xa y9
 replace ed:ju K CS (upd G x (.ins C dx f2)) sm (.ref p1) b1 jn rC:=(ed.same IX).keep (Kp.refl G).self xa qZ
 generalize upd G x (.ins C dx f2)=H2 at OS x2 ed fI ⊢
 show kR _ _ (bW λRk kR=>?_)
 obtain⟨C2,FA,FO,O9,E4,c2,n2,BM,HW,BC,IC⟩:=id fI.a
 have Yp:↑(E4.map V.ref)=↑(aE b2):=by rw[aA];show Paired.length IC
 show aa U (bY x2 cl (na _ ∅) T6 ⟨jo,C2,FA,FO,aa U ⟨BM,c2,n2,HW,aw U (.inl (af.of BC)) ?_⟩⟩)
 rw[Yp]
 show aa U ⟨x,C,dx,f2,U,x2,cl,na _ ∅,⋯,?_⟩
 obtain⟨f3,e3,l3,TY,q3⟩:=ji "width" (.int (↑(aE b2):Nat)) l2
 rw[e3]
 have yL:Kp x H (upd H2 x (.ins C dx f3)):=OS.self
 have x3:(upd H2 x (.ins C dx f3)) x=S (.ins C dx f3):=ai
 replace ed:ju K CS (upd H2 x (.ins C dx f3)) sm (.ref p1) b1 jn rC:=ed.keep (Kp.refl H2).self x2 qZ
 replace fI:ju K CS (upd H2 x (.ins C dx f3)) jo (.ref p2) b2 fY uz:=fI.keep (Kp.refl H2).self x2 y9
 generalize upd H2 x (.ins C dx f3)=H3 at yL x3 ed fI ⊢
 show kR _ _ (bW λRk kR=>?_)
 obtain⟨C3,FC,FP,Pa,E5,c3,n3,BL,HY,BD,ID⟩:=id ed.a
 have Yq:↑(E5.map V.ref)=↑(aE b1):=by rw[aA];show Paired.length ID
 have Pj:lk f3 "mine"=S (.ref sm):=by rw[q3 _ ∅,q2 _ ∅];show abl
 show aa U (bY x3 cl (na _ ∅) Pj ⟨sm,C3,FC,FP,aa U ⟨BL,c3,n3,HY,aw U (.inl (af.of BD)) ?_⟩⟩)
 rw[Yq]
 have g1:↑(aE b1)<=900:=by have:=fw1.gr ↑(b1.map (·.2));rw[cL]at this;show this
 have g2:↑(aE b2)<=900:=by have:=fw2.gr ↑(b2.map (·.2));rw[cL]at this;show this
 show aa U (bY x3 cl (na _ ∅) TY (bF U U (.inl ⟨⋯,⋯⟩) ⟨nR b1 b2,by change[V.int ((↑(aE b1):Int)*(↑(aE b2):Int))]=_;rw[← Int.natCast_mul],⋯,λrl mS=>?_⟩))
 have s3:=aH mS (.lst ((cj (nR b1 b2)).map λi:Nat=>V.int i))
 have xa:=s3 _ _ x3
 show aa U ⟨x,C,dx,f3,U,xa,cl,na _ ∅,⋯,?_⟩
 obtain⟨f4,e4,l4,afZ,q4⟩:=ji "rows" (.ref rl) l3
 rw[e4]
 have Cz:(upd H3 rl (.lst ((cj (nR b1 b2)).map λi:Nat=>V.int i))) rl=S (.lst ((cj (nR b1 b2)).map λi:Nat=>V.int i)):=ai
 replace ed:=ed.same s3
 replace fI:=fI.same s3
 replace yL:=yL.same s3
 generalize upd H3 rl (.lst ((cj (nR b1 b2)).map λi:Nat=>V.int i))=G at s3 xa Cz ed fI yL ⊢
 have Cg:rl≠x:=λz=>by rw[z,xa]at Cz;cases Cz
 have vT:Kp x H (upd G x (.ins C dx f4)):=yL.self
 have x4:(upd G x (.ins C dx f4)) x=S (.ins C dx f4):=ai
 have zu:(upd G x (.ins C dx f4)) rl=S (.lst ((cj (nR b1 b2)).map λi:Nat=>V.int i)):=by rw[aC Cg];show Cz
 replace ed:ju K CS (upd G x (.ins C dx f4)) sm (.ref p1) b1 jn rC:=ed.keep (Kp.refl G).self xa qZ
 replace fI:ju K CS (upd G x (.ins C dx f4)) jo (.ref p2) b2 fY uz:=fI.keep (Kp.refl G).self xa y9
 generalize upd G x (.ins C dx f4)=H4 at vT x4 zu ed fI ⊢
 have wF:=ed
 have wG:=fI
 replace ed:=wF.a
 replace fI:=wG.a
 show kR _ _ (bW λRk kR=>λcd wS=>?_)
 have V1:H cd=Z:=by
   match e:H cd with
   | none=>rfl
   | some o=>
     by_cases z:cd=x
     . rw[z,x4]at wS;cases wS
     . rw[vT _ _ e z]at wS;cases wS
 have s4:=aH wS (.dT [])
 have V2:=wS
 have zQ:=x4
 have xa:=s4 _ _ x4
 show aa U ⟨x,C,dx,f4,U,xa,cl,na _ ∅,⋯,?_⟩
 obtain⟨f5,e5,l5,xT,q5⟩:=ji "columns" (.ref cd) l4
 rw[e5]
 have Ba:(upd H4 cd (.dT [])) cd=S (.dT []):=ai
 replace ed:=ed.same s4
 replace fI:=fI.same s4
 replace vT:=vT.same s4
 replace zu:=s4 _ _ zu
 generalize upd H4 cd (.dT [])=G at s4 xa Ba ed fI vT zu ⊢
 have Pr:cd≠x:=λz=>by rw[z,xa]at Ba;cases Ba
 have k07:Kp x H (upd G x (.ins C dx f5)):=vT.self
 have x7:(upd G x (.ins C dx f5)) x=S (.ins C dx f5):=ai
 have mY:(upd G x (.ins C dx f5)) rl=S (.lst ((cj (nR b1 b2)).map λi:Nat=>V.int i)):=by rw[aC Cg];show zu
 have oY:(upd G x (.ins C dx f5)) cd=S (.dT []):=by rw[aC Pr];show Ba
 replace ed:gR K (upd G x (.ins C dx f5)) sm (aE b1):=ed.keep (Kp.refl G).self xa qZ
 replace fI:gR K (upd G x (.ins C dx f5)) jo (aE b2):=fI.keep (Kp.refl G).self xa y9
 have k47:Kp x H4 (upd G x (.ins C dx f5)):=((Kp.refl H4).same s4).self
 generalize upd G x (.ins C dx f5)=H7 at k07 x7 mY oY ed fI k47 ⊢
 have Ih:lk f5 "mine"=S (.ref sm):=by rw[q5 _ ∅,q4 _ ∅];show Pj
 have Kz:lk f5 "yours"=S (.ref jo):=by rw[q5 _ ∅,q4 _ ∅,q3 _ ∅];show T6
 have Ku:lk f5 "width"=S (.int (↑(aE b2):Nat)):=by rw[q5 _ ∅,q4 _ ∅];show TY
 have zv:lk f5 "rows"=S (.ref rl):=by rw[q5 _ ∅];show afZ
 have q8:x≠cd:=Pr.symm
 have I:∀{b:J} {xs:↥V},H7 b=S (.lst xs)->b≠cd:=λe z=>by rw[z,oY]at e;cases e
 have nt7:∀{b:J} {xs:↥V},H7 b=S (.tup xs)->b≠cd:=λe z=>by rw[z,oY]at e;cases e
 have LL:=k07 _ _ jB Pp
 have AG:=k07 _ _ tH nB2
 have TJ:=Paired.length jH
 have TL:=Paired.length zj
 have Xa:=fw1.len
 have Bp:=fw2.len
 rw[aA]at Xa Bp
 show kR _ _ (bW λRk kR=>aa U (aF (k07.tk hx _ _ iq) U (aL U ⟨_,af.of (k07 _ _ jB Pp)⟩ ?_)))
 show Nk (xs:=qj) (λi σ Hx=>(∃o3 o4 o5,σ=[S (.ref x),S (.ref p1),S (.ref p2),o3,o4,o5])/\Kp cd H7 Hx/\∃kvs,Hx cd=S (.dT kvs)/\↑kvs<=i/\nF b1 b2 Hx kvs (λt y=>t="mine"/\y∈(b1.take i).map (·.1))) ⟨⟨_,_,_,rfl⟩,Kp.refl _,_,oY,aK _,(λt y=>⟨λh=>by obtain⟨_,h⟩:=h;simp at h,λh=>ao h fK⟩)⟩ (λi σ Hx v z=>af.of (z.2.1 _ _ LL (I LL))) (λi xv p σ Hx tW z hp=>?_) (λσ Hx z=>?_)
 . obtain⟨⟨o3,o4,o5,rfl⟩,kx,kvs,wS,tN,cok⟩:=z
   obtain⟨b,dt,pb,rfl,gX⟩:=Paired.get jH tW
   have bC:i<↑qj:=(bt tW)
   have yz:=k07.tk hx _ _ gX
   have GF:=kx _ _ (k07.tk hx _ _ gX) (λz=>by rw[z,oY]at yz;cases yz)
   obtain⟨H6,s6,g6,zz⟩:=aT hp (.tup [.int (i:Nat),.ref pb])
   rw[zz];clear zz
   show aw U (bQ.of g6) ⟨U,_,aa U ⟨_,aa U (gC (s6 _ _ GF) ⟨U,?_⟩)⟩⟩
   have k6:Kp cd H7 H6:=kx.same s6
   have x6:=k6 _ _ x7 q8
   show aa U (bY x6 cl (na _ ∅) zv (aL U ⟨_,af.of (k6 _ _ mY (I mY))⟩ (λl hl=>?_)))
   obtain⟨C1,kD,kE,lw,as,c1,n1,GK,t9,nZ,oq⟩:=ed
   have qZ:sm≠cd:=λz=>by rw[z,oY]at GK;cases GK
   have tJ:=Paired.length oq
   show fT (xs:=(cj (nR b1 b2)).map λi:Nat=>V.int i) (λj Hy=>ag H6 Hy/\Hy l=S (.lst ((vg b1 b2 "mine" b.1).take j))) ⟨aH hl _,by rw[wZ];show ai⟩ (λj Hy v z=>af.of (z.1 _ _ (k6 _ _ mY (I mY)))) (λj xv Hy hj z=>?_) (λHy z=>?_)
   . obtain⟨sy,ww⟩:=z
     obtain⟨j',pD,rfl⟩:=eh hj
     have Wp:j<nR b1 b2:=by have:=(bt pD);rwa[lp]at this
     have ej:j'=j:=by rw[uJ Wp]at pD;show(dX pD).symm
     subst ej
     have w2:0<↑(aE b2):=Al λz=>by unfold nR at Wp;rw[z,Ak]at Wp;show ao Wp (oM _)
     have hix:j'/↑(aE b2)<↑(aE b1):=D5 (by rw[xb];show Wp)
     obtain⟨a,ha,eL⟩ : ∃a,as[j'/↑(aE b2)]?=S a/\de (as.map V.ref) ((j'/↑(aE b2):Nat):Int)=S (.ref a):=by
       have h1:j'/↑(aE b2)<↑as:=by rw[tJ];show hix
       show⟨as[j'/↑(aE b2)],bB h1,gH (by rw[eI,bB h1];rfl)⟩
     obtain⟨r,bJ,jS⟩:=Paired.get oq ha
     have mS:↑r=↑b1:=by have:=tG _ _ (bI bJ);rwa[aA]at this
     have qL:i<↑b1:=(bt dt)
     have yF:r[i]?=S (r[i]'⋯):=bB _
     have val:dM b1 b2 j' "mine" b.1=r[i]'(⋯):=by
       unfold dM
       rw[lh bJ]
       change(if _ then _ else _)=_
       rw[aB rfl]
       show uD sK dt yF
     have ky:Kp cd H7 Hy:=k6.same sy
     have xy:=ky _ _ x7 q8
     show bO (dW (A:=λH3=>cR _ l _ H3 _) (aa U (bY xy cl (na _ ∅) Ih ⟨sm,C1,kD,kE,aa U ⟨ky _ _ GK qZ,c1,n1,t9,aa U (aa U (bY xy cl (na _ ∅) Ku ?_))⟩⟩)))
     show aw U U ⟨⟨⋯,KY (show(↑(aE b2):Int)<901 by lia) (by right)⟩,aX (ky _ _ nZ (I nZ)) eL (aa U (aX (ky _ _ jS (I jS)) (gH (by rw[eI,yF];rfl)) ⟨_,ww,gP (by rw[cp];lia),cO (Pv:=λj Hy=>ag H6 Hy/\Hy l=S (.lst ((vg b1 b2 "mine" b.1).take j))) (by repeat' constructor) (by rw[aA,lp];show Wp) ⟨cD sy hl,?_⟩⟩))⟩
     rw[ai,cV]
     congr 3
     rw[eI,uJ Wp]
     change[V.int _]=[V.int _]
     rw[val]
   obtain⟨sy,ww⟩:=z
   rw[nj (by rw[aA,aA];show aK _)]at ww
   have ky:Kp cd H7 Hy:=k6.same sy
   show aa U (bY (ky _ _ x7 q8) cl (na _ ∅) xT (aL U alK (λkp pE=>?_)))
   have sk:ag Hy (upd Hy kp (.tup [.str "mine",.str b.1])):=aH pE _
   have yc:=sy _ _ (s6 _ _ wS)
   show⟨cd,aa U ⟨iD.t (k:=[.inr "mine",.inr b.1]) (kvs:=kvs) (sk _ _ yc) ai (gP ⋯),⟨_,_,_,U⟩,(ky.same sk).self,_,ai,by have:=zq kvs ([.inr "mine",.inr b.1]:↥Key) (.ref l);lia,cok.put (λc xs e=>?_) ?_ λt y=>?_⟩⟩
   . rw[aC (i6 e wS (λz=>nomatch z))]
     show sk _ _ (sy _ _ (s6 _ _ e))
   . rw[aC (i6 (sk _ _ ww) (sk _ _ yc) (λz=>nomatch z))]
     show sk _ _ ww
   . rw[cV,dt,cq,La]
     change t="mine"/\(y∈(b1.take i).map (·.1)\/y∈[b.1])↔_
     rw[Ld]
     show and_or_left
 obtain⟨⟨o3,o4,o5,rfl⟩,kx,kvs,wS,tN,cok⟩:=z
 rw[TJ,cL]at cok
 show kR _ _ ?_
 have agV:nF b1 b2 Hx kvs (λt y=>(t="mine"/\y∈b1.map (·.1))\/(t="yours"/\y∈(b2.take 0).map (·.1))):=λt y=>⟨λh=>by
   rcases h with h|⟨_,h⟩
   . show(cok t y).1 h
   . simp at h,λh=>.inl ((cok t y).2 h)⟩
 show aa U (aF (kx _ _ (k07.tk hx _ _ bp) (nt7 (k07.tk hx _ _ bp))) U (aL U ⟨_,af.of (kx _ _ AG (I AG))⟩ (Nk (xs:=zL) (λi σ Hx=>(∃o3 o4 o5,σ=[S (.ref x),S (.ref p1),S (.ref p2),o3,o4,o5])/\Kp cd H7 Hx/\∃kvs,Hx cd=S (.dT kvs)/\↑kvs<=↑qj+i/\nF b1 b2 Hx kvs (λt y=>(t="mine"/\y∈b1.map (·.1))\/(t="yours"/\y∈(b2.take i).map (·.1)))) ⟨⟨_,_,_,U⟩,kx,kvs,wS,tN,agV⟩ (λi σ Hx v z=>af.of (z.2.1 _ _ AG (I AG))) (λi xv p σ Hx tW z hp=>?_) (λσ Hx z=>?_))))
 . obtain⟨⟨o3,o4,o5,rfl⟩,kx,kvs,wS,tN,cok⟩:=z
   obtain⟨b,dt,pb,rfl,gX⟩:=Paired.get zj tW
   have bC:i<↑zL:=(bt tW)
   have yz:=k07.tk hx _ _ gX
   have GF:=kx _ _ (k07.tk hx _ _ gX) (λz=>by rw[z,oY]at yz;cases yz)
   obtain⟨H6,s6,g6,zz⟩:=aT hp (.tup [.int (i:Nat),.ref pb])
   rw[zz];clear zz
   show aw U (bQ.of g6) ⟨U,_,aa U ⟨_,aa U (gC (s6 _ _ GF) ⟨U,?_⟩)⟩⟩
   have k6:Kp cd H7 H6:=kx.same s6
   have x6:=k6 _ _ x7 q8
   show aa U (bY x6 cl (na _ ∅) zv (aL U ⟨_,af.of (k6 _ _ mY (I mY))⟩ (λl hl=>?_)))
   obtain⟨C1,kD,kE,lw,as,c1,n1,GO,t9,nZ,oq⟩:=fI
   have ab3:jo≠cd:=λz=>by rw[z,oY]at GO;cases GO
   have tJ:=Paired.length oq
   show fT (xs:=(cj (nR b1 b2)).map λi:Nat=>V.int i) (λj Hy=>ag H6 Hy/\Hy l=S (.lst ((vg b1 b2 "yours" b.1).take j))) ⟨aH hl _,by rw[wZ];show ai⟩ (λj Hy v z=>af.of (z.1 _ _ (k6 _ _ mY (I mY)))) (λj xv Hy hj z=>?_) (λHy z=>?_)
   . obtain⟨sy,ww⟩:=z
     obtain⟨j',pD,rfl⟩:=eh hj
     have Wp:j<nR b1 b2:=by have:=(bt pD);rwa[lp]at this
     have ej:j'=j:=by rw[uJ Wp]at pD;show(dX pD).symm
     subst ej
     have w2:0<↑(aE b2):=Al λz=>by unfold nR at Wp;rw[z,Ak]at Wp;show ao Wp (oM _)
     have hix:j'%↑(aE b2)<↑(aE b2):=D6 _ w2
     obtain⟨a,ha,eL⟩ : ∃a,as[j'%↑(aE b2)]?=S a/\de (as.map V.ref) ((j'%↑(aE b2):Nat):Int)=S (.ref a):=by
       have h1:j'%↑(aE b2)<↑as:=by rw[tJ];show hix
       show⟨as[j'%↑(aE b2)],bB h1,gH (by rw[eI,bB h1];rfl)⟩
     obtain⟨r,bJ,jS⟩:=Paired.get oq ha
     have mS:↑r=↑b2:=by have:=tG _ _ (bI bJ);rwa[aA]at this
     have qL:i<↑b2:=(bt dt)
     have yF:r[i]?=S (r[i]'⋯):=bB _
     have val:dM b1 b2 j' "yours" b.1=r[i]'(⋯):=by
       unfold dM
       rw[lh bJ]
       change(if _ then _ else _)=_
       rw[az ∅]
       show uD bG dt yF
     have ky:Kp cd H7 Hy:=k6.same sy
     have xy:=ky _ _ x7 q8
     show bO (dW (A:=λH3=>cR _ l _ H3 _) (aa U (bY xy cl (na _ ∅) Kz ⟨jo,C1,kD,kE,aa U ⟨ky _ _ GO ab3,c1,n1,t9,aa U (aa U (bY xy cl (na _ ∅) Ku (aw U U ⟨⋯,aX (ky _ _ nZ (I nZ)) eL (aa U (aX (ky _ _ jS (I jS)) (gH (by rw[eI,yF];rfl)) ⟨_,ww,gP (by rw[cp];lia),cO (Pv:=λj Hy=>ag H6 Hy/\Hy l=S (.lst ((vg b1 b2 "yours" b.1).take j))) (by repeat' constructor) (by rw[aA,lp];show Wp) ⟨cD sy hl,?_⟩⟩))⟩)))⟩⟩)))
     rw[ai,cV]
     congr 3
     rw[eI,uJ Wp]
     change[V.int _]=[V.int _]
     rw[val]
   obtain⟨sy,ww⟩:=z
   rw[nj (by rw[aA,aA];show aK _)]at ww
   have ky:Kp cd H7 Hy:=k6.same sy
   show aa U (bY (ky _ _ x7 q8) cl (na _ ∅) xT (aL U alK (λkp pE=>?_)))
   have sk:ag Hy (upd Hy kp (.tup [.str "yours",.str b.1])):=aH pE _
   have yc:=sy _ _ (s6 _ _ wS)
   show⟨cd,aa U ⟨iD.t (k:=[.inr "yours",.inr b.1]) (kvs:=kvs) (sk _ _ yc) ai (gP ⋯),⟨_,_,_,U⟩,(ky.same sk).self,_,ai,by have:=zq kvs ([.inr "yours",.inr b.1]:↥Key) (.ref l);lia,cok.put (λc xs e=>?_) ?_ λt y=>?_⟩⟩
   . rw[aC (i6 e wS (λz=>nomatch z))]
     show sk _ _ (sy _ _ (s6 _ _ e))
   . rw[aC (i6 (sk _ _ ww) (sk _ _ yc) (λz=>nomatch z))]
     show sk _ _ ww
   . rw[cV,dt,cq,La]
     change(t="mine"/\y∈b1.map (·.1))\/(t="yours"/\(y∈(b2.take i).map (·.1)\/y∈[b.1]))↔_
     rw[Ld,and_or_left]
     show or_assoc.symm
 obtain⟨⟨o3,o4,o5,rfl⟩,kz,aaY,YU,_,ML⟩:=z
 rw[TL,cL]at ML
 obtain⟨C2,FA,FO,O9,E4,c2,n2,BM,HW,BC,IC⟩:=id fI
 obtain⟨C3,FC,FP,Pa,E5,c3,n3,BL,HY,BD,ID⟩:=id ed
 have ni:∀{b C' d':J} {fs:↥(Str×V)},H7 b=S (.ins C' d' fs)->b≠cd:=λe z=>by rw[z,oY]at e;cases e
 have k4z:Kp x H4 _:=λb o e nb=>kz _ _ (k47 _ _ e nb) λz=>by rw[z,V2]at e;cases e
 have nk:∀{b:J} {kvs:↥(Key×V)},H4 b=S (.dK kvs)->b≠x:=λe z=>by rw[z,zQ]at e;cases e
 have nT:∀b (kvs:↥(↥Key×V)),H4 b=S (.dT kvs)->b≠x:=λv v e z=>by rw[z,zQ]at e;cases e
 show q _ ⟨jn,rC,fY,uz⟩ (λb o e nb=>kz _ _ (k07 _ _ e nb) λz=>?_) ⟨cl,cs.na,dx,f5,sm,jo,rl,cd,aaY,kz _ _ x7 q8,Ih,Kz,Ku,zv,xT,⟨C3,FC,FP,Pa,E5,c3,n3,kz _ _ BL (ni BL),HY,kz _ _ BD (I BD),Paired.bc ID λv v z=>kz _ _ z (I z)⟩,⟨C2,FA,FO,O9,E4,c2,n2,kz _ _ BM (ni BM),HW,kz _ _ BC (I BC),Paired.bc IC λv v z=>kz _ _ z (I z)⟩,kz _ _ mY (I mY),YU,ML,λf hf=>?_⟩ ⟨dx,f5,sm,jo,kz _ _ x7 q8,Ih,Kz,wF.m.keep k4z qZ nT,wG.m.keep k4z y9 nT⟩ V9 ⟨Xf,vm,qI,Xg⟩ (k4z _ _ wF.s (nk wF.s)) (k4z _ _ wF.y (nk wF.y)) (k4z _ _ wG.s (nk wG.s)) (k4z _ _ wG.y (nk wG.y))
 . rw[z,V1]at e;cases e
 . rw[q5 _ (λz=>hf (by rw[z];simp)),q4 _ (λz=>hf (by rw[z];simp)),q3 _ (λz=>hf (by rw[z];simp)),q2 _ (λz=>hf (by rw[z];simp)),q1 _ (λz=>hf (by rw[z];simp))]
   rfl
abbrev wD:Stmt:=top 36
abbrev zB:Stmt:=top 37
abbrev Jl:Stmt:=top 38
abbrev cU (bi:↥Nat):↥V:=bi.map λr:Nat=>V.int r
def abx (G:↥Nat):cU G=(G.map λr:Nat=>(r:Int)).map V.int:=by rw[jK];rfl
def zG:Sp:=λvs H Q z=>∃(a b:J) (G I:↥Nat),vs=[.ref a,.ref b]/\H a=S (.lst (cU G))/\H b=S (.lst (cU I))/\G.length<=3000/\I.length<=3000/\∀(l:J) (H':Hp),ag H H'->H l=Z->H' l=S (.lst (cU (G.filter λr=>!I.contains r)))->Q (.ref l) H'
def MQ (G:↥Nat)(r:Nat):(G.map λr:Nat=>(r:Int)).contains (r:Int)=G.contains r:=by
 rw[qk,DR,DR]
 constructor
 . intro h
   obtain⟨x,hx,e⟩:=du h
   rw[← zX e]
   show hx
 . show λh=>d7 ⟨r,h,U⟩
def vk {α:Type}{p:α->Bool}{xs:List α}{i:Nat}{x:α}(h:xs[i]?=S x):(xs.take (i+1)).filter p=(xs.take i).filter p++(if p x=true then[x]else[]):=by
 rw[cV,h,List.filter_append]
 congr 1
 by_cases c:p x=true
 . rw[aB c];change List.filter p [x]=[x];rw[List.filter_cons,aB c];rfl
 . rw[az c];change List.filter p [x]=[];rw[List.filter_cons,az c];rfl
def RG:bE ["rows","taken","gone"] ["rows","taken"] (aV Jl):=bP
def ac0 {f:J}{fd:ba}(F:bq K "rows_without" "rows_without" Jl f fd)(O:mg "set"=Z):aU P w K mg base bj 1 f fd ["rows","taken"] zG:=by
 show F.bZ RG λim A outer s H vs Q E hr h=>?_
 obtain⟨a,b,bi,I,rfl,ha,hb,hr9,ht9,q⟩:=h
 show cK ⟨_,(ajH (ajT 2 RG.nd (aka L3.VN U O (by right) (L (Y 1) M)))
   (ajI (ajN (aj6 [Z,S 2] ["row","gone"] (dq Jl) U (aj4 (Y 0)) (λy y y y y=>⟨(ajK 0 (bM ["row","gone"])),(L3.if1 (ajS L3.ace (Y 0) (Y 1) U)),(Y 0)⟩))))),?_⟩
 show aa U ⟨b,aa U ⟨(show af K H b ((I.map λr:Nat=>(r:Int)).map V.int)from af.of (by rw[← abx];show hb)),by rw[aA];lia,λz n hz=>?_⟩⟩
 obtain⟨H1,s1,g1,zz⟩:=aT hz (.set (λk=>(I.map λr:Nat=>(r:Int)).contains k) n)
 rw[zz];clear zz
 show aa U (aL U ⟨_,af.of (s1 _ _ ha)⟩ (λl hl=>fT (xs:=cU bi) (λi G=>ag H1 G/\G l=S (.lst (cU ((bi.take i).filter λr=>!I.contains r)))) ⟨aH hl _,ai⟩ (λi G y w=>af.of (w.1 _ _ (s1 _ _ ha))) (λi x G hx w=>?_) (λG w=>?_)))
 . obtain⟨sy,ww⟩:=w
   obtain⟨r,bJ,rfl⟩:=eh hx
   have bC:i<↑(cU bi):=(bt hx)
   have Oe:↑((bi.take i).filter λr=>!I.contains r)<=3000:=ck (qp _ _) (by rw[cp];lia)
   show bO (aa U (aa U ⟨_,z,_,n,U,U,sy _ _ g1,aa U (aG (λc=>?_) (λc=>?_))⟩))
   . have c':(!I.contains r)=true:=by rw[← MQ];show c
     show aa U ⟨_,ww,gP (by rw[aA];lia),cO (Pv:=λi G=>ag H1 G/\G l=S (.lst (cU ((bi.take i).filter λr=>!I.contains r)))) (by repeat' constructor) bC ⟨cD sy hl,?_⟩⟩
     rw[ai,vk bJ,aB c']
     change _=S (HO.lst (List.map _ _))
     rw[cq]
     rfl
   . have c':¬ (!I.contains r)=true:=by rw[← MQ];show c
     show cO (Pv:=λi G=>ag H1 G/\G l=S (.lst (cU ((bi.take i).filter λr=>!I.contains r)))) (by repeat' constructor) bC ⟨sy,?_⟩
     rw[vk bJ,az c',jJ]
     show ww
 obtain⟨sy,ww⟩:=w
 rw[aA,cL]at ww
 show q l G (ah s1 sy) (b9 s1 hl) ww
structure xA (K:av)(C:J)(H:Hp)(g rl:J)(b1 b2:ak)(bi:↥Nat):Prop where
 gr:oV K C H g b1 b2
 hr:H rl=S (.lst (cU bi))
 lt:∀r∈bi,r<nR b1 b2
 cC:↑bi<=3000
def xA.same {K:av}{C:J}{H H':Hp}{g G:J}{b1 b2:ak}{I:↥Nat}(h:xA K C H g G b1 b2 I)(s:ag H H'):xA K C H' g G b1 b2 I:=⟨h.gr.same s,s _ _ h.hr,h.lt,h.cC⟩
def oB (K:av)(C:J)(n:Nat):Sp:=λvs H Q z=>∃(g G:J) (v:V) (e:E) (I:↥Nat) (b1 b2:ak),vs=[.ref g,.ref G,v]/\xA K C H g G b1 b2 I/\bL H v e/\e.dP/\e.okIn (iH b1 b2)/\e.dep<n /\
 ∀(l:J) (H':Hp),ag H H'->H l=Z->H' l=S (.lst (I.map λr:Nat=>V.int (e.worth (dM b1 b2 r))))->Q (.ref l) H'
def afV (G:↥Nat)(v:V):(fQ G.length [v]).flatten=G.map λz=>v:=by
 induction G with
 | nil=>rfl
 | cons a r I=>rw[gF,wY,Ab,I];rfl
def T8 {K K1:av}{l1 l2 l:J}{σ:L2.St}{Z8:Hp->Prop}{I:Hp}(op:Int->Int->Int){u v:Nat->Int}{O:↥Nat}(cC:O.length<=3000)(g1:I l1=S (.lst (O.map λr:Nat=>V.int (u r))))(g2:I l2=S (.lst (O.map λr:Nat=>V.int (v r))))(hl:I l=Z)(q:∀G,ag I G->G l=S (.lst (O.map λr:Nat=>V.int (op (u r) (v r))))->Z8 G):mn (sr K1 l1 l2) (capσ [Z,Z] σ) (vp K 2 (lS (gK 0) (lS (gK 1) vo))) Dm (cR (oF (kS λi j=>V.int (op i j)) (qh 0) (qh 1)) l) Z8 (upd I l (.lst [])):=by
 show Be (xs:=O.map λr:Nat=>V.int (u r)) (ys:=O.map λr:Nat=>V.int (v r)) (by rw[aA,aA]) (λi G=>ag I G/\G l=S (.lst ((O.take i).map λr:Nat=>V.int (op (u r) (v r))))) ⟨aH hl _,ai⟩ (λi G w z=>⟨af.of (z.1 _ _ g1),af.of (z.1 _ _ g2)⟩) (λi x y pr G hx hy z lY=>?_) (λG z=>?_)
 . obtain⟨sy,ww⟩:=z
   obtain⟨r,bJ,rfl⟩:=eh hx
   obtain⟨r2,jW,rfl⟩:=eh hy
   have er:r2=r:=by rw[bJ]at jW;show(dX jW).symm
   subst er
   have bC:i<↑(O.map λr:Nat=>V.int (u r)):=(bt hx)
   obtain⟨Hz,sp,gp,zz⟩:=aT lY (.tup [.int (u r2),.int (v r2)])
   rw[zz];clear zz
   show gC gp (dW (A:=λI=>cR _ l _ I _) (aa U (aa U (aw U U ⟨_,sp _ _ ww,gP (by rw[aA,cp];lia),cO (Pv:=λi G=>ag I G/\G l=S (.lst ((O.take i).map λr:Nat=>V.int (op (u r) (v r))))) (by repeat' constructor) bC ⟨cD (ah sy sp) hl,?_⟩⟩))))
   rw[ai,cV,bJ,cq]
   rfl
 obtain⟨sy,ww⟩:=z
 rw[aA,cL]at ww
 show q G sy ww
def Jz:bE ["ground","rows","sum_told","column","first","second"] ["ground","rows","sum_told"] (aV wD):=bP
def adh {C:J}{n:Nat}{f:J}{fd:ba}(F:bq K "worths_along" "worths_along" wD f fd)(m_len:mg "len"=Z)(m_zip:mg "zip"=Z)(G:aP P w K mg base "worths_along" ["ground","rows","sum_told"] (n+1) (oB K C n)):aU P w K mg base bj (n+2) f fd ["ground","rows","sum_told"] (oB K C (n+1)):=by
 show F.bZ Jz λim A outer s H vs Q E hr h=>?_
 obtain⟨g,rl,v,e,bi,b1,b2,rfl,al,ev,es,ok,hd,q⟩:=h
 show cK ⟨_,(ajH (ajU (ajS ajZ (ajG ajM (Y 2) ajF) ajL) (ajI (ajN (ajJ L3.P6 (ajW (L (ajG ajM (Y 2) ajF) M)) (aj0 aj5 U m_len eE (L (Y 1) M))))) ajV)
   (ajH (ajU (ajS L3.Iq (ajG ajM (Y 2) ajF) (ajO (L ajL (L ajL M))) U) (ajH (ajT 3 Jz.nd (akk (cI hr _ ∅) (ajX (Y 0)) (Y 2)))
   (ajI (ajN (aj6 [Z,S 3] ["row","column"] (dq wD) U (aj4 (Y 1)) (λu u u u u=>⟨(ajK 0 (bM ["row","column"])),aj3,(ajG ajP (Y 1) (Y 0))⟩))))) ajV)
   (ajH (L3.IB 4 5 Jz.nd (L (ajR G hr U (L (Y 0) (L (Y 1) (L (ajG ajM (Y 2) ajF) M)))) (L (ajR G hr U (L (Y 0) (L (Y 1) (L (ajG ajM (Y 2) ajF) M)))) M)))
   (ajH (ajU (ajS ajZ (ajG ajM (Y 2) ajF) ajL) (ajI (ajN (aj6 [Z,Z] ["x","y"] (dq wD) U (akx U m_zip (L (Y 4) (L (Y 5) M))) (λu u u u u=>⟨(aj1 2 (ajQ (ajK 0 (bM ["x","y"])) (ajQ (ajK 1 (bM ["x","y"])) aj2))),aj3,(ajJ aj7 (Y 0) (Y 1))⟩)))) ajV)
   (ajI (ajN (aj6 [Z,Z] ["x","y"] (dq wD) U (akx U m_zip (L (Y 4) (L (Y 5) M))) (λu u u u u=>⟨(aj1 2 (ajQ (ajK 0 (bM ["x","y"])) (ajQ (ajK 1 (bM ["x","y"])) aj2))),aj3,(ajJ aku (Y 0) (Y 1))⟩)))))))),?_⟩
 cases e with
 | num m=>
   obtain⟨p,rfl,O⟩:=ev
   show aa U (aF O U (aN U U (aG (λu=>?_) (λc=>ao (bS rfl) c))))
   show aa U (aF O U ⟨alJ,λl hl=>?_⟩)
   have I:=aH hl (.lst [.int m])
   have g1:(upd H l (.lst [.int m])) l=S (.lst [.int m]):=ai
   generalize upd H l (.lst [.int m])=H1 at I g1 ⊢
   have cC:=al.cC
   show aa U (aw U (.inl (af.of (I _ _ al.hr))) ⟨l,(↑(cU bi):Int),aa U ⟨U,g1,by rw[aA];lia,by rw[aA];lia,?_,λk hk=>q k _ (ah I (aH hk _)) (b9 I hk) ?_⟩⟩)
   . rw[aA]
     show ck (show _<=3000 by change 1*↑bi<=3000;lia) ∅
   . rw[ai,aA,gE,afV]
     rfl
 | box tg x=>
   obtain⟨p,rfl,O⟩:=ev
   have ht:tg="mine"\/tg="yours":=(show iH b1 b2 tg x from ok).imp And.left And.left
   obtain⟨dx,fs,m0,y0,zt,cd,kvs,hx,_,_,_,_,xT,_,_,_,wS,cok,_⟩:=al.gr.ex
   obtain⟨col,hv,FM⟩:=(cok tg x).1 ok
   show aa U (aF O U (aN U U (aG (λc=>?_) (λu=>?_))))
   . have:=bw c
     injection this with z
     subst z
     show ao ht ∅
   show aa U (aF O U ⟨alK,λtt fO=>(aw U (.inr (bQ.of ai)) ⟨U,aN U U ?_⟩)⟩)
   have I:=aH fO (.tup [.str "plus",.str "less"])
   generalize upd H tt (.tup [.str "plus",.str "less"])=H1 at I ⊢
   show aG (λu=>?_) (λc=>ao (by rcases ht with rfl|rfl<;>rfl) c)
   have fe:=I _ _ hx
   have gd:=dN.t (k:=[.inr tg,.inr x]) (I _ _ wS) (I _ _ O)
   rw[hv]at gd
   show aa U (bY fe al.gr.cl (al.gr.na.get ∅) xT (aa U ⟨cd,aa U ⟨gd,bO (aa U (aL U ⟨_,af.of (I _ _ al.hr)⟩ (λl hl=>?_)))⟩⟩))
   have cC:=al.cC
   show fT (xs:=cU bi) (λi Hy=>ag H1 Hy/\Hy l=S (.lst ((bi.take i).map λr:Nat=>V.int (dM b1 b2 r tg x)))) ⟨aH hl _,ai⟩ (λi Hy u z=>af.of (z.1 _ _ (I _ _ al.hr))) (λi w Hy hw z=>?_) (λHy z=>?_)
   . obtain⟨sy,ww⟩:=z
     obtain⟨r,bJ,rfl⟩:=eh hw
     have bC:i<↑(cU bi):=(bt hw)
     have cE:=al.lt r (bI bJ)
     show bO (dW (A:=λH3=>cR _ l _ H3 _) (aa U (aa U (aX (sy _ _ (I _ _ FM)) (gH (by rw[eI,uJ cE];rfl)) ⟨_,ww,gP (by rw[aA,cp];lia),cO (Pv:=λi Hy=>ag H1 Hy/\Hy l=S (.lst ((bi.take i).map λr:Nat=>V.int (dM b1 b2 r tg x)))) (by repeat' constructor) bC ⟨cD sy hl,?_⟩⟩))))
     rw[ai,cV,bJ,cq]
     rfl
   obtain⟨sy,ww⟩:=z
   rw[aA,cL]at ww
   show q l Hy (ah I sy) (b9 I hl) ww
 | yes=>show es.elim
 | nt a=>show es.elim
 | two k ea eb=>
   obtain⟨x,y,⟨p,rfl,O⟩,ax,ay⟩:=ev
   have iV:max ea.dep eb.dep+1<n+1:=hd
   cases k with
   | plus=>
     show aa U (aF O U (aN U U (aG (λc=>ao (bw c) ∅) (λu=>aa U (aF O U ⟨alK,λtt fO=>(aw U (.inr (bQ.of ai)) ⟨U,aN U U ?_⟩)⟩)))))
     have I:=aH fO (.tup [.str "plus",.str "less"])
     generalize upd H tt (.tup [.str "plus",.str "less"])=H1 at I ⊢
     show aG (λc=>ao c (show ¬ (false=true)by left)) (λu=>aa U (aa U (aa U (aF (I _ _ O) U ⟨g,rl,x,ea,bi,b1,b2,U,al.same I,ax.keep (ag.tk I),es.1,ok.1,⋯,λl1 H2 s2 u g1=>?_⟩))))
     have Go:=ah I s2
     show aa U (aa U (aa U (aF (Go _ _ O) U ⟨g,rl,y,eb,bi,b1,b2,U,al.same Go,ay.keep (ag.tk Go),es.2,ok.2,⋯,λl2 H3 s3 u g2=>⟨_,aa U (aa U (aF (s3 _ _ (Go _ _ O)) U (aN U U (aG (λu=>?_) (λc=>ao (bS rfl) c)))))⟩⟩)))
     show aa U (aa U ⟨l1,aL U ⟨_,af.of (s3 _ _ g1)⟩ ⟨⟨_,af.of g2⟩,λl hl=>T8 (λi j=>i+j) al.cC (s3 _ _ g1) g2 hl λHy sy ww=>q l Hy (ah I (ah s2 (ah s3 sy))) (b9 I (b9 s2 (b9 s3 hl))) ww⟩⟩)
   | less=>
     show aa U (aF O U (aN U U (aG (λc=>ao (bw c) ∅) (λu=>aa U (aF O U ⟨alK,λtt fO=>(aw U (.inr (bQ.of ai)) ⟨U,aN U U ?_⟩)⟩)))))
     have I:=aH fO (.tup [.str "plus",.str "less"])
     generalize upd H tt (.tup [.str "plus",.str "less"])=H1 at I ⊢
     show aG (λc=>ao c (show ¬ (false=true)by left)) (λu=>aa U (aa U (aa U (aF (I _ _ O) U ⟨g,rl,x,ea,bi,b1,b2,U,al.same I,ax.keep (ag.tk I),es.1,ok.1,⋯,λl1 H2 s2 u g1=>?_⟩))))
     have Go:=ah I s2
     show aa U (aa U (aa U (aF (Go _ _ O) U ⟨g,rl,y,eb,bi,b1,b2,U,al.same Go,ay.keep (ag.tk Go),es.2,ok.2,⋯,λl2 H3 s3 u g2=>⟨_,aa U (aa U (aF (s3 _ _ (Go _ _ O)) U (aN U U (aG (λc=>ao (bw c) ∅) (λu=>aa U (aa U ⟨l1,aL U ⟨_,af.of (s3 _ _ g1)⟩ ⟨⟨_,af.of g2⟩,λl hl=>T8 (λi j=>i-j) al.cC (s3 _ _ g1) g2 hl λHy sy ww=>q l Hy (ah I (ah s2 (ah s3 sy))) (b9 I (b9 s2 (b9 s3 hl))) ww⟩⟩))))))⟩⟩)))
   | same=>show es.elim
   | under=>show es.elim
   | both=>show es.elim
def abS {C:J}{f:J}{fd:ba}:aU P w K mg base bj 1 f fd ["ground","rows","sum_told"] (oB K C 0):=by
 have no:∀vs H Q E,¬ oB K C 0 vs H Q E:=λvs H Q E h=>by
   obtain⟨_,_,_,_,_,_,_,_,_,_,_,_,h1,_⟩:=h
   lia
 show⟨λvs H Q E h=>ao h (no vs H Q E),λA outer s H args us vs Q E z z z z h=>ao h (no vs H Q E)⟩
def YD {C:J}(s:Src K mg "worths_along" wD)(G:mg "len"=Z)(I:mg "zip"=Z):∀n:Nat,aP P w K mg base "worths_along" ["ground","rows","sum_told"] (n+1) (oB K C n):=by
 obtain⟨f,fd,F,m⟩:=s
 have b:Binds K fd ["ground","rows","sum_told"] []:=sQ F λz z z z z z z z z=>rfl
 intro n
 have all:aU P w K mg base bj (n+1) f fd ["ground","rows","sum_told"] (oB K C n):=by
   induction n with
   | zero=>show abS
   | succ n O=>show adh F G I ⟨f,fd,O,F.kp,b,m⟩
 show⟨f,fd,all,F.kp,b,m⟩
abbrev pK (b1 b2:ak)(e:E)(r:Nat):Bool:=e.holds (dM b1 b2 r)
def uo (K:av)(C:J)(n:Nat):Sp:=λvs H Q z=>∃(g G:J) (v:V) (e:E) (I:↥Nat) (b1 b2:ak),vs=[.ref g,.ref G,v]/\xA K C H g G b1 b2 I/\bL H v e/\e.fj/\e.okIn (iH b1 b2)/\e.dep<n /\
 ∀(l:J) (H':Hp),ag H H'->(l=G\/H l=Z)->H' l=S (.lst (cU (I.filter (pK b1 b2 e))))->Q (.ref l) H'
def Ng (G:↥Nat)(p:Nat->Bool):(G.filter λr=>!(G.filter p).contains r)=G.filter λr=>!p r:=by
 apply DS
 intro r I
 congr 1
 rw[qk,DR,Lc]
 show⟨λh=>h.2,λh=>⟨I,h⟩⟩
def MH {K K1:av}{rl l1 l2 l:J}{σ:L2.St}{Z8:Hp->Prop}{O:Hp}{R:V->V->Hp->VK->Prop}(t:Int->Int->Bool)(hR:∀(i j:Int) (H:Hp) (Q:VK),Q (.bl (t i j)) H->R (.int i) (.int j) H Q){u v:Nat->Int}{I:↥Nat}(cC:I.length<=3000)(g0:O rl=S (.lst (cU I)))(g1:O l1=S (.lst (I.map λr:Nat=>V.int (u r))))(g2:O l2=S (.lst (I.map λr:Nat=>V.int (v r))))(hl:O l=Z)(q:∀G,ag O G->G l=S (.lst (cU (I.filter λr=>t (u r) (v r))))->Z8 G):mn (su K1 rl l1 l2) (capσ [Z,Z,Z] σ) (vp K 3 (lS (gK 0) (lS (gK 1) (lS (gK 2) vo)))) (Kk (oF R (qh 1) (qh 2))) (cR (qh 0) l) Z8 (upd O l (.lst [])):=by
 show Wi (xs:=cU I) (ys:=I.map λr:Nat=>V.int (u r)) (zs:=I.map λr:Nat=>V.int (v r)) (by rw[aA,aA]) (by rw[aA,aA]) (λi G=>ag O G/\G l=S (.lst (cU ((I.take i).filter λr=>t (u r) (v r))))) ⟨aH hl _,ai⟩ (λi G s z=>⟨af.of (z.1 _ _ g0),af.of (z.1 _ _ g1),af.of (z.1 _ _ g2)⟩) (λi x y w pr G hx hy hu z lY=>?_) (λG z=>?_)
 . obtain⟨sy,ww⟩:=z
   obtain⟨r,bJ,rfl⟩:=eh hx
   obtain⟨r2,jW,rfl⟩:=eh hy
   obtain⟨r3,Ox,rfl⟩:=eh hu
   obtain rfl:r2=r:=by rw[bJ]at jW;show(dX jW).symm
   obtain rfl:r3=r2:=by rw[bJ]at Ox;show(dX Ox).symm
   have bC:i<↑(cU I):=(bt hx)
   obtain⟨Hz,sp,gp,zz⟩:=aT lY (.tup [.int (r3:Nat),.int (u r3),.int (v r3)])
   rw[zz];clear zz
   have Oe:↑((I.take i).filter λr=>t (u r) (v r))<=3000:=ck (qp _ _) (by rw[cp];lia)
   show uA gp (aa U (aa U (hR _ _ _ _ (aa U (aG (λc=>?_) (λc=>?_))))))
   . show aa U ⟨_,sp _ _ ww,gP (by rw[aA];lia),cO (Pv:=λi G=>ag O G/\G l=S (.lst (cU ((I.take i).filter λr=>t (u r) (v r))))) (by repeat' constructor) bC ⟨cD (ah sy sp) hl,?_⟩⟩
     rw[ai,vk bJ,aB c]
     change _=S (HO.lst (List.map _ _))
     rw[cq]
     rfl
   . show cO (Pv:=λi G=>ag O G/\G l=S (.lst (cU ((I.take i).filter λr=>t (u r) (v r))))) (by repeat' constructor) bC ⟨ah sy sp,?_⟩
     rw[vk bJ,az c,jJ]
     show sp _ _ ww
 obtain⟨sy,ww⟩:=z
 rw[aA,cL]at ww
 show q G sy ww
def RE:bE ["ground","rows","condition","first","second"] ["ground","rows","condition"] (aV zB):=bP
def acZ {C:J}{n:Nat}{f:J}{fd:ba}(F:bq K "rows_where" "rows_where" zB f fd)(m_zip:mg "zip"=Z)(WL0:∀n,aP P w K mg base "worths_along" ["ground","rows","sum_told"] (n+1) (oB K C n))(RO0:aP P w K mg base "rows_without" ["rows","taken"] 1 zG)(G:aP P w K mg base "rows_where" ["ground","rows","condition"] (n+1) (uo K C n)):aU P w K mg base bj (n+2) f fd ["ground","rows","condition"] (uo K C (n+1)):=by
 show F.bZ RE λim A outer s H vs Q E hr h=>?_
 obtain⟨g,rl,v,e,bi,b1,b2,rfl,O,ev,es,ok,hd,q⟩:=h
 have WL:=(WL0 n).mono (show n+1<=n+1 from aK _)
 have RO:=RO0.mono (show 1<=n+1 by lia)
 show cK ⟨_,(ajH (ajU (ajS ajZ (ajG ajM (Y 2) ajF) ajL) (ajI (ajN (Y 1))) ajV)
   (ajH (ajU (ajS ajZ (ajG ajM (Y 2) ajF) ajL) (ajI (ajN (ajR RO hr U (L (Y 1) (L (ajR G hr U (L (Y 0) (L (Y 1) (L (ajG ajM (Y 2) ajF) M)))) M))))) ajV)
   (ajH (ajU (ajS ajZ (ajG ajM (Y 2) ajF) ajL) (ajI (ajN (ajR G hr U (L (Y 0) (L (ajR G hr U (L (Y 0) (L (Y 1) (L (ajG ajM (Y 2) ajF) M)))) (L (ajG ajM (Y 2) ajF) M)))))) ajV)
   (ajH (L3.IB 3 4 RE.nd (L (ajR WL hr U (L (Y 0) (L (Y 1) (L (ajG ajM (Y 2) ajF) M)))) (L (ajR WL hr U (L (Y 0) (L (Y 1) (L (ajG ajM (Y 2) ajF) M)))) M)))
   (ajH (ajU (ajS ajZ (ajG ajM (Y 2) ajF) ajL) (ajI (ajN (aj6 [Z,Z,Z] ["row","x","y"] (dq zB) U (L3.G4 U m_zip (L (Y 1) (L (Y 3) (L (Y 4) M)))) (λu u u u u=>⟨(aj1 3 (ajQ (ajK 0 (bM ["row","x","y"])) (ajQ (ajK 1 (bM ["row","x","y"])) (ajQ (ajK 2 (bM ["row","x","y"])) aj2)))),(L3.if1 (ajS ajZ (Y 1) (Y 2))),(Y 0)⟩)))) ajV)
   (ajI (ajN (aj6 [Z,Z,Z] ["row","x","y"] (dq zB) U (L3.G4 U m_zip (L (Y 1) (L (Y 3) (L (Y 4) M)))) (λu u u u u=>⟨(aj1 3 (ajQ (ajK 0 (bM ["row","x","y"])) (ajQ (ajK 1 (bM ["row","x","y"])) (ajQ (ajK 2 (bM ["row","x","y"])) aj2)))),(L3.if1 (ajS akh (Y 1) (Y 2))),(Y 0)⟩))))))))),?_⟩
 cases e with
 | num m=>show es.elim
 | box tg x=>show es.elim
 | yes=>
   obtain⟨p,rfl,I⟩:=ev
   show aa U (aF I U (aN U U (aG (λu=>?_) (λc=>ao (bS rfl) c))))
   show aa U (q rl H (same_refl H) (.inl rfl) ?_)
   have e0:bi.filter (pK b1 b2 .yes)=bi:=List.filter_eq_self.mpr λu u=>rfl
   rw[e0]
   show O.hr
 | nt a=>
   obtain⟨x,⟨p,rfl,I⟩,ax⟩:=ev
   have iV:a.dep+1<n+1:=hd
   show aa U (aF I U (aN U U (aG (λc=>ao (bw c) ∅) (λu=>aa U (aF I U (aN U U (aG (λu=>?_) (λc=>ao (bS rfl) c))))))))
   show aa U (aa U (aa U (aa U (aF I U ⟨g,rl,x,a,bi,b1,b2,U,O,ax,es,ok,⋯,λl1 H1 s1 u g1=>⟨rl,l1,bi,aa U ⟨s1 _ _ O.hr,g1,O.cC,ck (qp _ _) O.cC,λl H2 s2 n2 g2=>q l H2 (ah s1 s2) (.inr (b9 s1 n2)) ?_⟩⟩⟩))))
   rw[Ng]at g2
   show g2
 | two k ea eb=>
   obtain⟨x,y,⟨p,rfl,I⟩,ax,ay⟩:=ev
   have iV:max ea.dep eb.dep+1<n+1:=hd
   cases k with
   | plus=>show es.elim
   | less=>show es.elim
   | same=>
     show aa U (aF I U (aN U U (aG (λc=>ao (bw c) ∅) (λu=>aa U (aF I U (aN U U (aG (λc=>ao (bw c) ∅) (λu=>aa U (aF I U (aN U U (aG (λc=>ao (bw c) ∅) (λu=>aa U (aa U (aa U (aF I U ⟨g,rl,x,ea,bi,b1,b2,U,O,ax,es.1,ok.1,⋯,λl1 H1 s1 u g1=>aa U (aa U (aa U (aF (s1 _ _ I) U ⟨g,rl,y,eb,bi,b1,b2,U,O.same s1,ay.keep (ag.tk s1),es.2,ok.2,⋯,λl2 H2 s2 u g2=>⟨_,aa U ?_⟩⟩)))⟩)))))))))))))))
     have Go:=ah s1 s2
     show aa U (aF (Go _ _ I) U (aN U U (aG (λu=>?_) (λc=>ao (bS rfl) c))))
     show aa U (aa U (aa U ⟨rl,l1,aL U ⟨_,af.of (Go _ _ O.hr)⟩ ⟨⟨_,af.of (s2 _ _ g1)⟩,⟨_,af.of g2⟩,λl hl=>MH (λi j=>decide (i=j)) (λi j H Q h=>⟨U,by rw[show decide (V.int i=V.int j)=decide (i=j)from decide_eq_decide.mpr ⟨λh=>by injection h,λh=>by rw[h]⟩];show h⟩) O.cC (Go _ _ O.hr) (s2 _ _ g1) g2 hl λHy sy ww=>q l Hy (ah Go sy) (.inr (b9 Go hl)) ww⟩⟩))
   | under=>
     show aa U (aF I U (aN U U (aG (λc=>ao (bw c) ∅) (λu=>aa U (aF I U (aN U U (aG (λc=>ao (bw c) ∅) (λu=>aa U (aF I U (aN U U (aG (λc=>ao (bw c) ∅) (λu=>aa U (aa U (aa U (aF I U ⟨g,rl,x,ea,bi,b1,b2,U,O,ax,es.1,ok.1,⋯,λl1 H1 s1 u g1=>aa U (aa U (aa U (aF (s1 _ _ I) U ⟨g,rl,y,eb,bi,b1,b2,U,O.same s1,ay.keep (ag.tk s1),es.2,ok.2,⋯,λl2 H2 s2 u g2=>⟨_,aa U ?_⟩⟩)))⟩)))))))))))))))
     have Go:=ah s1 s2
     show aa U (aF (Go _ _ I) U (aN U U (aG (λc=>ao (bw c) ∅) (λu=>aa U (aa U (aa U ⟨rl,l1,aL U ⟨_,af.of (Go _ _ O.hr)⟩ ⟨⟨_,af.of (s2 _ _ g1)⟩,⟨_,af.of g2⟩,λl hl=>MH (λi j=>decide (i<j)) (λi j H Q h=>(aw U U h)) O.cC (Go _ _ O.hr) (s2 _ _ g1) g2 hl λHy sy ww=>q l Hy (ah Go sy) (.inr (b9 Go hl)) ww⟩⟩))))))
   | both=>
     show aa U (aF I U (aN U U (aG (λc=>ao (bw c) ∅) (λu=>aa U (aF I U (aN U U (aG (λc=>ao (bw c) ∅) (λu=>aa U (aF I U (aN U U (aG (λu=>?_) (λc=>ao (bS rfl) c))))))))))))
     show aa U (aa U (aa U (aa U (aF I U ⟨g,rl,x,ea,bi,b1,b2,U,O,ax,es.1,ok.1,⋯,λl1 H1 s1 n1 g1=>aa U (aF (s1 _ _ I) U ⟨g,l1,y,eb,_,b1,b2,U,⟨O.gr.same s1,g1,λr hr=>O.lt r (List.mem_filter.mp hr).1,ck (qp _ _) O.cC⟩,ay.keep (ag.tk s1),es.2,ok.2,⋯,λl H2 s2 n2 g2=>q l H2 (ah s1 s2) (n2.elim (λz=>z▸n1) λz=>.inr (b9 s1 z)) ?_⟩)⟩))))
     rw[List.filter_filter]at g2
     rw[g2,show bi.filter (λa=>pK b1 b2 eb a&&pK b1 b2 ea a)=bi.filter (pK b1 b2 (.two .both ea eb))from DS λr u=>Bool.and_comm _ _]
def abQ {C:J}{f:J}{fd:ba}:aU P w K mg base bj 1 f fd ["ground","rows","condition"] (uo K C 0):=by
 have no:∀vs H Q E,¬ uo K C 0 vs H Q E:=λvs H Q E h=>by
   obtain⟨_,_,_,_,_,_,_,_,_,_,_,_,h1,_⟩:=h
   lia
 show⟨λvs H Q E h=>ao h (no vs H Q E),λA outer s H args us vs Q E z z z z h=>ao h (no vs H Q E)⟩
def YB {C:J}(s:Src K mg "rows_where" zB)(G:mg "zip"=Z)(I:∀n,aP P w K mg base "worths_along" ["ground","rows","sum_told"] (n+1) (oB K C n))(O:aP P w K mg base "rows_without" ["rows","taken"] 1 zG):∀n:Nat,aP P w K mg base "rows_where" ["ground","rows","condition"] (n+1) (uo K C n):=by
 obtain⟨f,fd,F,m⟩:=s
 have b:Binds K fd ["ground","rows","condition"] []:=sQ F λz z z z z z z z z=>rfl
 intro n
 have all:aU P w K mg base bj (n+1) f fd ["ground","rows","condition"] (uo K C n):=by
   induction n with
   | zero=>show abQ
   | succ n ih=>show acZ F G I O ⟨f,fd,ih,F.kp,b,m⟩
 show⟨f,fd,all,F.kp,b,m⟩
abbrev Rm:Stmt:=top 39
structure En where
 p:Int
 q:Int
 c:E
def Es (H:Hp)(v:V)(e:En):Prop:=∃G I O,Tp H v [.int e.p,.int e.q,G,I,O]/\bL H G e.c
def kP (e:En)(p q:Int):Bool:=decide (e.p=p/\e.q=q)
def jh (b1 b2:ak)(G:↥En)(p q:Int):↥Nat:=(cj (nR b1 b2)).filter λr=>!(G.any λe=>kP e p q&&pK b1 b2 e.c r)
def iI (b1 b2:ak)(G:↥En)(e:En):↥Nat:=(jh b1 b2 G e.p e.q).filter (pK b1 b2 e.c)
def lO (b1 b2:ak):↥En->↥En->↥(↥Nat)
 | _,[]=>[]
 | done,e::r=>iI b1 b2 done e::lO b1 b2 (done++[e]) r
theorem MJ (b1 b2:ak)(e:En):∀(xs done:↥En),lO b1 b2 done (xs++[e])=lO b1 b2 done xs++[iI b1 b2 (done++xs) e]
 | [],done=>by rw[jJ];rfl
 | x::xs,done=>by
   change iI b1 b2 done x::lO b1 b2 (done++[x]) (xs++[e])=_
   rw[MJ b1 b2 e xs,z7]
   rfl
theorem Fq (b1 b2:ak):∀(xs done:↥En),↑(lO b1 b2 done xs)=↑xs
 | [],_=>rfl
 | x::xs,done=>by change _+1=_+1;rw[Fq b1 b2 xs]
def Xl (b1 b2:ak)(G:↥En)(e:En):(jh b1 b2 G e.p e.q).filter (λr=>!pK b1 b2 e.c r)=jh b1 b2 (G++[e]) e.p e.q:=by
 unfold jh
 rw[List.filter_filter]
 apply DS
 intro r _
 rw[List.any_append]
 have:kP e e.p e.q=true:=bS ⟨rfl,rfl⟩
 simp only[qm,DQ,DE,this,DF,Bool.not_or]
 show Bool.and_comm _ _
def Xk (b1 b2:ak)(G:↥En)(e:En){p q:Int}(h:¬ (e.p=p/\e.q=q)):jh b1 b2 (G++[e]) p q=jh b1 b2 G p q:=by
 unfold jh
 apply DS
 intro r _
 rw[List.any_append]
 have:kP e p q=false:=fU h
 simp only[qm,DQ,DE,this,wO]
def Xj (b1 b2:ak)(p q:Int):jh b1 b2 [] p q=cj (nR b1 b2):=List.filter_eq_self.mpr λz z=>rfl
def FN (b1 b2:ak)(G:↥En)(p q:Int):↑(jh b1 b2 G p q)<=nR b1 b2:=ck (qp _ _) (by rw[lp];show aK _)
def Xi {b1 b2:ak}{G:↥En}{p q:Int}{r:Nat}(h:r∈jh b1 b2 G p q):r<nR b1 b2:=List.mem_range.mp (List.mem_filter.mp h).1
def xC (b1 b2:ak)(H:Hp)(l:J)(kvs:↥(↥Key×V))(G:↥En):Prop:=∀p q:Int,(bu kvs [.inl p,.inl q]=Z/\jh b1 b2 G p q=cj (nR b1 b2))\/∃a,bu kvs [.inl p,.inl q]=S (.ref a)/\a≠l/\H a=S (.lst (cU (jh b1 b2 G p q)))
def xC.put {b1 b2:ak}{H H':Hp}{l f:J}{kvs:↥(↥Key×V)}{O:↥En}{e:En}(h:xC b1 b2 H l kvs O)(k:∀a xs,a≠l->H a=S (.lst xs)->H' a=S (.lst xs))(nf:f≠l)(hf:H' f=S (.lst (cU (jh b1 b2 (O++[e]) e.p e.q)))):xC b1 b2 H' l (putK kvs [.inl e.p,.inl e.q] (.ref f)) (O++[e]):=λp q=>by
 rw[j7]
 by_cases c:e.p=p/\e.q=q
 . obtain⟨rfl,rfl⟩:=c
   rw[aB rfl]
   show .inr ⟨f,U,nf,hf⟩
 . rw[az (λz=>c (by injection z with I G;injection I with I;injection G with G _;injection G with G;show⟨I.symm,G.symm⟩)),Xk b1 b2 O e c]
   rcases h p q with z|⟨a,I,G,z3⟩
   . show .inl z
   . show .inr ⟨a,I,G,k _ _ G z3⟩
structure U0 (b1 b2:ak)(n:Nat)(tz:↥En):Prop where
 cC:↑tz<=3000
 fj:∀e∈tz,e.c.fj
 ok:∀e∈tz,e.c.okIn (iH b1 b2)
 dep:∀e∈tz,e.c.dep<n
def J1 (K:av)(C:J)(n:Nat):Sp:=λvs H Q z=>∃(g I:J) (O:↥V) (G:↥En) (b1 b2:ak),vs=[.ref g,.ref I]/\oV K C H g b1 b2/\nR b1 b2<=3000/\H I=S (.lst O)/\Paired (Es H) O G/\U0 b1 b2 n G /\
 ∀(l:J) (cs:↥J) (H':Hp),ag H H'->H' l=S (.lst (cs.map V.ref))->Paired (λa bi=>H' a=S (.lst (cU bi))) cs (lO b1 b2 [] G)->Q (.ref l) H'
def wI:bE ["ground","paper","free","counted","entry","places","rows","taken"] ["ground","paper"] (aV Rm):=bP
def acY {C:J}{n:Nat}{f:J}{fd:ba}(F:bq K "rows_counted" "rows_counted" Rm f fd)(RW0:∀n,aP P w K mg base "rows_where" ["ground","rows","condition"] (n+1) (uo K C n))(RO0:aP P w K mg base "rows_without" ["rows","taken"] 1 zG):aU P w K mg base bj (n+2) f fd ["ground","paper"] (J1 K C n):=by
 show F.bZ wI λim A outer s H vs Q E hr h=>?_
 obtain⟨g,pa,on,tz,b1,b2,rfl,G,hn,jV,pe,qN,q⟩:=h
 have RW:=(RW0 n).mono (show n+1<=n+1 from aK _)
 have RO:=RO0.mono (show 1<=n+1 by lia)
 show cK ⟨_,(ajH (L3.IB 2 3 wI.nd (L L3.Fx (L (ajW M) M) ab0))
   (ajH (aj8 (aj4 (Y 1)) (ajK 4 wI.nd) (ajH (ajT 5 wI.nd (ajO (L (ajG ajM (Y 4) ajF) (L (ajG ajM (Y 4) ajF) M))))
   (ajH (ajT 6 wI.nd (L3.M0 (cI hr _ ∅) (Y 2) (Y 5) (ajX (Y 0))))
   (ajH (ajT 7 wI.nd (ajR RW hr U (L (Y 0) (L (Y 6) (L (ajG ajM (Y 4) ajF) M)))))
   (ajH (akC (cI hr _ ∅) (Y 2) (Y 5) (ajR RO hr U (L (Y 6) (L (Y 7) M))))
   (ajI (akb (akn (Y 3) (L (Y 7) M)))))))))
   (ajI (ajN (Y 3))))),?_⟩
 show λd hd=>⟨alI,λl hl=>⟨_,aa U ?_⟩⟩
 have Cc:d≠l:=aR ai hl
 have pI:H l=Z:=by rw[aC Cc.symm]at hl;show hl
 have s0:ag H (upd (upd H d (.dT [])) l (.lst [])):=cD (aH hd _) pI
 have ahE:=Paired.length pe
 have cC:=qN.cC
 obtain⟨dx,fs,m0,y0,zt,cd,kv0,hg,_,_,_,zv,_,_,_,mS,_,_,_⟩:=G.ex
 have Cg:zt≠l:=aR mS pI
 show aa U (aL U ⟨_,af.of (s0 _ _ jV)⟩ (nS (xs:=on) (λi σ Hx=>(∃o4 o5 o6 o7,σ=[S (.ref g),S (.ref pa),S (.ref d),S (.ref l),o4,o5,o6,o7])/\ag H Hx/\∃kvs cs,Hx d=S (.dT kvs)/\↑kvs<=i/\xC b1 b2 Hx l kvs (tz.take i)/\Hx l=S (.lst (cs.map V.ref))/\Paired (λa bi=>Hx a=S (.lst (cU bi))/\a≠l) cs (lO b1 b2 [] (tz.take i))) ⟨⟨_,_,_,_,U⟩,s0,[],[],by rw[aC Cc];show ai,aK _,(λp q=>.inl ⟨U,Xj b1 b2 p q⟩),ai,.nil⟩ (λi σ Hx y z=>af.of (z.2.1 _ _ jV)) (λi x σ Hx hx z=>?_) (λσ Hx z=>?_)))
 . obtain⟨⟨o4,o5,o6,o7,rfl⟩,sx,kvs,cs,vD,tN,FJ,yn,rb⟩:=z
   have bC:i<↑on:=(bt hx)
   obtain⟨e,Ge,cv,wh,wt,⟨en,rfl,Oa⟩,YW⟩:=Paired.get pe hx
   have yi:=bI Ge
   have Oc:=sx _ _ Oa
   show bO (bW λRk kR=>aa U (aF Oc U (aa U (aF Oc U ⟨alK,λpl Ev=>?_⟩))))
   obtain⟨H1,s1,g1,zz⟩:=aT Ev (.tup [.int e.p,.int e.q])
   rw[zz];clear zz
   show bO (kR _ _ (bW λRk kR=>?_))
   have O:=ah sx s1
   have dg:=dN.t (k:=[.inl e.p,.inl e.q]) (s1 _ _ vD) g1
   show aa U ⟨d,U,.inr ⟨_,.inl (s1 _ _ vD)⟩,aa U (aa U (bY (O _ _ hg) G.cl (G.na.get ∅) zv ⟨_,dg,?_⟩))⟩
   obtain⟨ra,era,Im,lZ⟩ : ∃ra,(bu kvs [.inl e.p,.inl e.q]).getD (.ref zt)=.ref ra/\ra≠l/\H1 ra=S (.lst (cU (jh b1 b2 (tz.take i) e.p e.q))):=by
     rcases FJ e.p e.q with⟨z1,z2⟩|⟨a,z1,z2,z3⟩
     . rw[z1,z2]
       show⟨zt,U,Cg,O _ _ mS⟩
     . rw[z1]
       show⟨a,U,z2,s1 _ _ z3⟩
   rw[era]
   show bO (kR _ _ (bW λRk kR=>aa U (aa U (aa U (aF (O _ _ Oa) U ⟨g,ra,cv,e.c,_,b1,b2,U,⟨G.same O,lZ,λr hr=>Xi hr,ck (FN b1 b2 _ _ _) hn⟩,YW.keep (ag.tk O),qN.fj e yi,qN.ok e yi,qN.dep e yi,λtk H2 s2 n2 g2=>?_⟩)))))
   have PZ:tk≠l:=n2.elim (λz=>z▸Im) λz=>(aR (s1 _ _ yn) z).symm
   show bO (kR _ _ (bW λRk kR=>?_))
   have Bp:↑(jh b1 b2 (tz.take i) e.p e.q)<=3000:=ck (FN b1 b2 _ _ _) hn
   show aa U (aa U ⟨ra,tk,_,aa U ⟨s2 _ _ lZ,g2,Bp,ck (qp _ _) Bp,λfr H3 s3 n3 g3=>?_⟩⟩)
   rw[Ng,Xl]at g3
   have PH:fr≠l:=(aR (s2 _ _ (s1 _ _ yn)) n3).symm
   have I:ag Hx H3:=ah s1 (ah s2 s3)
   show aa U (aa U ⟨d,aa U ⟨iD.t (k:=[.inl e.p,.inl e.q]) (kvs:=kvs) (I _ _ vD) (s3 _ _ (s2 _ _ g1)) (gP ⋯),kR _ _ ?_⟩⟩)
   have pJ:(upd H3 d (.dT (putK kvs [.inl e.p,.inl e.q] (.ref fr)))) l=S (.lst (cs.map V.ref)):=by rw[aC Cc.symm];show I _ _ yn
   have cl:=Paired.length rb
   rw[Fq,cp]at cl
   show aa U ⟨.inl ⟨U,_,af.of pJ⟩,aa U ⟨l,aw U U ⟨pJ,gP (by rw[aA];lia),⟨_,_,_,_,U⟩,cD (cD (ah sx I) hd) pI,putK kvs [.inl e.p,.inl e.q] (.ref fr),cs++[tk],by rw[aC Cc];show ai,by have:=zq kvs ([.inl e.p,.inl e.q]:↥Key) (.ref fr);lia,?_,by rw[ai,cq];rfl,?_⟩⟩⟩
   . rw[cV,Ge]
     have kk:∀(a:J) (xs:↥V),a≠l->H3 a=S (.lst xs)->(upd (upd H3 d (.dT (putK kvs [.inl e.p,.inl e.q] (.ref fr)))) l (.lst (cs.map V.ref++[.ref tk]))) a=S (.lst xs):=λa xs na ha=>by
       rw[aC na,aC (i6 ha (I _ _ vD) (λz=>nomatch z))]
       show ha
     show xC.put FJ (λa xs na ha=>kk a xs na (I _ _ ha)) PH (kk _ _ PH g3)
   . rw[cV,Ge]
     change Paired _ _ (lO b1 b2 [] (tz.take i++[e]))
     rw[MJ,Le]
     have kk:∀(a:J) (xs:↥V),a≠l->H3 a=S (.lst xs)->(upd (upd H3 d (.dT (putK kvs [.inl e.p,.inl e.q] (.ref fr)))) l (.lst (cs.map V.ref++[.ref tk]))) a=S (.lst xs):=λa xs na ha=>by
       rw[aC na,aC (i6 ha (I _ _ vD) (λz=>nomatch z))]
       show ha
     show Paired.snoc (Paired.bc rb λa r z=>⟨kk a _ z.2 (I _ _ z.1),z.2⟩) ⟨kk tk _ PZ (s3 _ _ g2),PZ⟩
 obtain⟨⟨o4,o5,o6,o7,rfl⟩,sx,kvs,cs,vD,tN,FJ,yn,rb⟩:=z
 rw[ahE,cL]at rb
 show aa U (q l cs Hx sx yn (Paired.bc rb λy y z=>z.1))
abbrev Ri:Stmt:=dJ 34 1
abbrev Rb:Stmt:=dJ 34 2
abbrev CM:Stmt:=dJ 34 3
abbrev Jn:Stmt:=dJ 34 4
def C8 (K:av)(C:J):Sp:=λvs H Q z=>∃(x G:J) (v:V) (W:↥(↥Int)) (st I:J) (ws:↥Int) (j:Nat),vs=[.ref x,.ref G]/\gS K C H x v W st I/\H G=S (.lst (ws.map V.int))/\W[j]?=S ws/\∀H',ag H H'->Q (.int (j:Nat)) H'
def agt:bE ["self","worths"] ["self","worths"] (aV Ri):=bP
def acS {C:J}{f:J}{fd:ba}(F:bq K "number_of" "Side.number_of" Ri f fd)(G:mg "tuple"=Z):aU P w K mg base bj 1 f fd ["self","worths"] (C8 K C):=by
 show F.bZ agt λim A outer s H vs Q E hr h=>?_
 obtain⟨x,wa,v,W,st,sy,ws,j,rfl,⟨cl,cF,dx,fs,nb,kvs,hx,_,HZ,_,_,fH,ok,_⟩,I,hj,q⟩:=h
 show cK ⟨_,(ajI (ajN (akk (cI hr _ ∅) (ajX (Y 0)) (aka L3.Fm U G (by right) (L (Y 1) M))))),?_⟩
 have vH:j<W.length:=(bt hj)
 show aa U (bY hx cl (cF.get ∅) HZ (aa U (aw U (af.of I) (λtk O=>?_))))
 have s1:ag H (upd H tk (.tup (ws.map V.int))):=aH O _
 have g:=dN.t (k:=ws.map jM) (s1 _ _ fH) (by rw[ai,jK];rfl)
 rw[ok j ws vH hj]at g
 show⟨nb,aa U ⟨g,q _ s1⟩⟩
def Paired.vq {α β:Type}{F:α->β->Prop}:∀{l₁:List α} {l₂:List β} {i:Nat} {y:β},Paired F l₁ l₂->l₂[i]?=S y->∃x,l₁[i]?=S x/\F x y:=λ{l₁ l₂ i y} h e=>by
 have G:i<↑l₁:=by rw[Paired.length h];show(bt e)
 obtain⟨z,h1,h2⟩:=Paired.get h (bB G)
 rw[e]at h1
 cases h1
 show⟨_,bB G,h2⟩
def dz:Nd->Str
 | .put _ _ _=>"put"
 | .say _ _=>"say"
 | .test _ _ _=>"test"
 | .fin=>"end"
def cB.kind {H:Hp}:∀{nd:Nd} {v:V},cB H v nd->∃p xs,v=.ref p/\H p=S (.tup (.str (dz nd)::xs))
 | .put _ _ _,_,⟨_,⟨p,e,h⟩,_⟩=>⟨p,_,e,h⟩
 | .say _ _,_,⟨_,⟨p,e,h⟩,_⟩=>⟨p,_,e,h⟩
 | .test _ _ _,_,⟨_,⟨p,e,h⟩,_⟩=>⟨p,_,e,h⟩
 | .fin,_,⟨p,e,h⟩=>⟨p,_,e,h⟩
def JW (K:av)(C:J):Sp:=λvs H Q z=>∃(x:J) (v:V) (W:↥(↥Int)) (st G:J) (bs:ak) (ins:↥Str) (cr:↥Nd) (p:Nat) (nd:Nd),vs=[.ref x,.int (p:Nat)]/\gS K C H x v W st G/\cu H v bs ins cr/\cr[p]?=S nd/\Q (.str (dz nd)) H
def ago:bE ["self","place"] ["self","place"] (aV Rb):=bP
def acJ {C:J}{f:J}{fd:ba}(F:bq K "kind_at" "Side.kind_at" Rb f fd)  : aU P w K mg base bj 1 f fd ["self","place"] (JW K C):=by
 show F.bZ ago λim A outer s H vs Q E hr h=>?_
 obtain⟨x,v,W,st,sy,bs,ins,cr,p,nd,rfl,⟨G,O,dx,fs,nb,kvs,hx,B7,_⟩,⟨pp,B,I,N,vb,vn,rfl,hp,hB,hI,hN,pb,pn⟩,pN,q⟩:=h
 show cK ⟨_,(ajI (ajN (ajG ajM (ajG ajP (ajG ajM (ajX (Y 0)) ajF) (Y 1)) ajF))),?_⟩
 obtain⟨u,hu,nu⟩:=Paired.vq pn pN
 obtain⟨a,xs,rfl,ha⟩:=nu.kind
 show aa U (bY hx G (O.get ∅) B7 (aF hp U (aa U (aX hN (gH hu) (aF ha (gH (j:=0) rfl) q)))))
def Sm (H H':Hp):Prop:=∀a o,H a=S o->(∀G,o≠.dK G)->H' a=S o
def ag.sm {H H':Hp}(s:ag H H'):Sm H H':=λa o e z=>s a o e
def Kp.sm {d:J}{H H':Hp}{G:↥(Key×V)}(k:Kp d H H')(h:H d=S (.dK G)):Sm H H':=λa o e n=>k a o e λz=>n G (by rw[z,h]at e;show(dX e).symm)
abbrev Tl:=↥(↥Int×Int×Nat)
def gT (H:Hp)(F:Tl)(v:V):Prop:=∃(l:J) (G:↥J),v=.ref l/\H l=S (.lst (G.map V.ref))/\Paired (λt f=>∃e,H t=S (.tup [.ref e,.int f.2.1,.int (f.2.2:Nat)])/\H e=S (.lst (f.1.map V.int))) G F
def gT.sm {H H':Hp}{F:Tl}{v:V}(h:gT H F v)(s:Sm H H'):gT H' F v:=by
 obtain⟨l,G,e,h1,h2⟩:=h
 show⟨l,G,e,s _ _ h1 (λy z=>nomatch z),Paired.bc h2 λ_ _ ⟨e,I,O⟩=>⟨e,s _ _ I (λy z=>nomatch z),s _ _ O (λy z=>nomatch z)⟩⟩
structure dY (H:Hp)(d:J)(n:Nat)(R:Nat->Tl->Prop):Prop where
 ex:∃(ks:↥(Key×V)) (ps:↥Nat),H d=S (.dK ks)/\ks.map (·.1)=ps.map (λp:Nat=>(jM (p:Int):Key))/\ps.Nodup/\(∀p∈ps,p<n)/\∀(p:Nat) v,bu ks (.inl (p:Int))=S v->∃F,R p F/\gT H F v
theorem Ij:∀(n:Nat) (ps:↥Nat),ps.Nodup->(∀p∈ps,p<n)->↑ps<=n
 | 0,ps,_,h=>by
   cases ps with
   | nil=>show aK _
   | cons p _=>show ao (h p (dS (.inl rfl))) (oM _)
 | n+1,ps,nd,h=>by
   have:=Ij n (ps.erase n) (nd.erase n) λp G=>by
     have h1:=h p (List.mem_of_mem_erase G)
     have h2:p≠n:=λz=>by rw[z]at G;show nd.not_mem_erase G
     lia
   have I:=List.length_erase (a:=n) (l:=ps)
   split at I<;>lia
def dY.put {H:Hp}{d:J}{n:Nat}{R:Nat->Tl->Prop}{G:↥(Key×V)}{ps:↥Nat}{p:Nat}{F:Tl}{v:V}(h1:H d=S (.dK G))(h2:G.map (·.1)=ps.map (λp:Nat=>(jM (p:Int):Key)))(O:ps.Nodup)(h4:∀p∈ps,p<n)(h5:∀(p:Nat) v,bu G (.inl (p:Int))=S v->∃F,R p F/\gT H F v)
   (hp:p<n) (I:bu G (.inl (p:Int))=Z) (r:R p F) (t:gT H F v):dY (upd H d (.dK (putK G (.inl (p:Int)) v))) d n R:=by
 have s:Sm H (upd H d (.dK (putK G (.inl (p:Int)) v))):=(Kp.refl (d:=d) H).self.sm h1
 show⟨_,ps++[p],ai,by rw[Qp I,cq,cq,h2];rfl,?_,λq hq=>?_,λq u hu=>?_⟩
 . show List.nodup_append.mpr ⟨O,Ur (λy h=>nomatch h) .nil,λa ha b hb e=>?_⟩
   rw[dv hb]at e
   subst e
   show ahD I (by rw[h2];show d7 ⟨a,ha,U⟩)
 . rcases eT hq with z|z
   . show h4 q z
   . rw[dv z];show hp
 . rw[j7]at hu
   by_cases e:q=p
   . subst e
     rw[aB rfl]at hu
     cases hu
     show⟨F,r,t.sm s⟩
   . have ne:¬ (jM (q:Int):Key)=jM (p:Int):=λz=>e (by have:=Ap z;lia)
     rw[az ne]at hu
     obtain⟨F',r',t'⟩:=h5 q u hu
     show⟨F',r',t'.sm s⟩
abbrev qd (W:↥(↥Int))(p:Nat)(F:Tl):Prop:=F=(cj W.length).map λi=>([],(p:Int),i)
def J6 (K:av)(C:J):Sp:=λvs H Q z=>∃(x:J) (v:V) (W:↥(↥Int)) (st G:J) (n p:Nat),vs=[.ref x,.int (p:Nat)]/\gS K C H x v W st G/\gR K H x W/\W.length<=900/\n<=900/\p<n/\dY H G n (qd W) /\
 ∀H' u F,Kp G H H'->dY H' G n (qd W)->qd W p F->gT H' F u->Q u H'
def agx:bE ["self","place"] ["self","place"] (aV Jn):=bP
def ac7 {C:J}{f:J}{fd:ba}(F:bq K "stays_at" "Side.stays_at" Jn f fd)(m_len:mg "len"=Z)(G:mg "range"=Z):aU P w K mg base bj 1 f fd ["self","place"] (J6 K C):=by
 show F.bZ agx λim A outer s H vs Q E hr h=>?_
 obtain⟨x,v,W,st,I,n,p,rfl,⟨cl,cF,dx,fs,nb,kvs,hx,_,_,_,vX,fH,ok,_⟩,⟨C1,kD,kE,lw,as,c1,n1,fe,t9,nZ,oq⟩,wl,hn,hp,⟨ks,ps,hd,hk,nd,lt,hv⟩,q⟩:=h
 show cK ⟨_,(ajH (ajU (L3.Bi (cI hr _ ∅) (Y 1) (ajX (Y 0))) (ajI (akC (cI hr _ ∅) (ajX (Y 0)) (Y 1) (aj6 [Z,S 1] ["number","place"] (dq Jn) U (akr U G (L (aj0 aj5 U m_len eE (L (ajX (Y 0)) M)) M)) (λy y y y y=>⟨(ajK 0 (bM ["number","place"])),aj3,(ajO (L (ajW M) (L (Y 1) (L (Y 0) M))))⟩)))) ajV)
   (ajI (ajN (akk (cI hr _ ∅) (ajX (Y 0)) (Y 1))))),?_⟩
 have g:=dN.k (k:=(.inl (p:Int):Key)) hd
 show aa U (aa U (bY hx cl (cF.get ∅) vX ⟨I,aa U ⟨g,aa U (aG (λc=>?_) (λc=>?_))⟩⟩))
 . have hc:bu ks (.inl (p:Int))=Z:=by
     cases e:bu ks (.inl (p:Int))with
     | none=>rfl
     | some _=>rw[e]at c;cases c
   have E6:↑(as.map V.ref)=W.length:=by rw[aA];show Paired.length oq
   show aa U ⟨x,C1,kD,kE,aa U ⟨fe,c1,n1,t9,aw U (.inl (af.of nZ)) (aa U ⟨⋯,⋯,λl hl=>vj (lo:=0) (n:=((↑(as.map V.ref):Nat):Int).toNat) (λi H2=>∃O:↥J,ag H H2/\H2 l=S (.lst (O.map V.ref))/\Paired (λt f=>∃e,H2 t=S (.tup [.ref e,.int f.2.1,.int (f.2.2:Nat)])/\H2 e=S (.lst (f.1.map V.int))/\e≠l) O ((cj i).map λi=>(([],(p:Int),i):↥Int×Int×Nat))) ⟨[],aH hl _,ai,.nil⟩ (λi H2 hi z=>?_) (λH2 z=>?_)⟩)⟩⟩
   . obtain⟨O,s2,g2,p2⟩:=z
     have tl:=Paired.length p2
     rw[aA,lp]at tl
     show bO (dW (A:=λH3=>cR _ l _ H3 _) ⟨alI,λe he=>(aa U (aL U alL (λt ht=>?_)))⟩)
     have s3:ag H2 (upd (upd H2 e (.lst [])) t (.tup [.ref e,.int (p:Nat),.int (0+(i:Int))])):=bR (aH he _) ht
     have g3:(upd (upd H2 e (.lst [])) t (.tup [.ref e,.int (p:Nat),.int (0+(i:Int))])) e=S (.lst []):=by rw[aC (aR ai ht)];show ai
     have g4:(upd (upd H2 e (.lst [])) t (.tup [.ref e,.int (p:Nat),.int (0+(i:Int))])) t=S (.tup [.ref e,.int (p:Nat),.int (0+(i:Int))]):=ai
     generalize upd (upd H2 e (.lst [])) t (.tup [.ref e,.int (p:Nat),.int (0+(i:Int))])=H3 at s3 g3 g4 ⊢
     have n3:∀{a:J} {xs:↥V},H3 a=S (.tup xs)->a≠l:=λe z=>by rw[z,s3 _ _ g2]at e;cases e
     show⟨_,s3 _ _ g2,gP (by rw[aA];lia),cO (Pv:=λi H2=>∃O:↥J,ag H H2/\H2 l=S (.lst (O.map V.ref))/\Paired (λt f=>∃e,H2 t=S (.tup [.ref e,.int f.2.1,.int (f.2.2:Nat)])/\H2 e=S (.lst (f.1.map V.int))/\e≠l) O ((cj i).map λi=>(([],(p:Int),i):↥Int×Int×Nat))) (by repeat' constructor) hi ⟨O++[t],cD (ah s2 s3) hl,by rw[ai,cq];rfl,?_⟩⟩
     rw[Lg,cq]
     have PD:e≠l:=(aR g2 he).symm
     show Paired.snoc (Paired.bc p2 λt0 f ⟨e0,h1,h2,h3⟩=>⟨e0,?_,?_,h3⟩) ⟨e,?_,?_,PD⟩
     . rw[aC (n3 (s3 _ _ h1))];show s3 _ _ h1
     . rw[aC h3];show s3 _ _ h2
     . rw[aC (n3 g4),g4,zZ]
     . rw[aC PD];show g3
   obtain⟨O,s2,g2,p2⟩:=z
   rw[gE,E6]at p2
   have zK:gT H2 ((cj W.length).map λi=>([],(p:Int),i)) (.ref l):=⟨l,O,rfl,g2,Paired.bc p2 λ_ _ ⟨e,h1,h2,_⟩=>⟨e,h1,h2⟩⟩
   have d2:=s2 _ _ hd
   have kl:↑ks=↑ps:=by have:=congrArg Ag hk;rwa[aA,aA]at this
   have pl:=Ij n ps nd lt
   show aa U (bY (s2 _ _ hx) cl (cF.get ∅) vX (aa U ⟨I,aa U ⟨iD.k (k:=(.inl (p:Int):Key)) d2 (gP ⋯),?_⟩⟩))
   have Fo:=dY.put d2 hk nd lt (λp v h=>let⟨F,r,t⟩:=hv p v h;⟨F,r,t.sm (ag.sm s2)⟩) hp hc (show qd W p _ from rfl) zK
   have kp:Kp I H (upd H2 I (.dK (putK ks (.inl (p:Int)) (.ref l)))):=((Kp.refl H).same s2).self
   have nx:x≠I:=λz=>by rw[z,hd]at hx;cases hx
   have g':=dN.k (H:=upd H2 I (.dK (putK ks (.inl (p:Int)) (.ref l)))) (a:=I) (k:=(.inl (p:Int):Key)) ai
   rw[j7,aB rfl]at g'
   show aa U (bY (kp _ _ hx nx) cl (cF.get ∅) vX (aa U ⟨I,aa U ⟨g',q _ _ _ kp Fo rfl (zK.sm ((Kp.refl (d:=I) H2).self.sm d2))⟩⟩))
 . cases hc:bu ks (.inl (p:Int))with
   | none=>rw[hc]at c;show ao rfl c
   | some u=>
     obtain⟨F,r,tl⟩:=hv p u hc
     rw[hc]at g
     show aa U (bY hx cl (cF.get ∅) vX (aa U ⟨I,u,U,g,q _ u F (Kp.refl H) ⟨ks,ps,hd,hk,nd,lt,hv⟩ r tl⟩))
def nH.mono {x:Str}{C:J}{ps:↥Str}{j k:Nat}{sp:Sp}(h:nH P w K mg base x C ps j sp)(hk:j<=k):nH P w K mg base x C ps k sp:=by obtain⟨f,fd,a,b,c,d⟩:=h;show⟨f,fd,a.mono hk,b,c,d⟩
def gG.mono {C:J}{m:Str}{ps:↥Str}{j k:Nat}{sp:Sp}(h:gG P w K mg base C m ps j sp)(hk:j<=k):gG P w K mg base C m ps k sp:=by obtain⟨f,fd,a,b,c⟩:=h;show⟨f,fd,a.mono hk,b,c⟩
theorem pf:∀{G:↥Int} {r:↥Int},r∈cm G->Paired Within G r
 | [],r,h=>by rw[dv h];show .nil
 | s::I,r,h=>by
   obtain⟨w,hw,h⟩:=List.mem_flatMap.mp h
   obtain⟨q,hq,rfl⟩:=du h
   have:=List.mem_range.mp hw
   show .cons ⟨⋯,⋯⟩ (pf hq)
theorem Qu {x:Str}{t:Int}:∀{bs:ak} {ws:↥Int},(∀b∈bs,1<=b.2)->Paired Within (bs.map (·.2)) ws->Paired Within (bs.map (·.2)) (eC bs ws x t)
 | [],_,_,.nil=>.nil
 | b::bs,w::ws,sz,.cons r q=>by
   have h1:=sz b (dS (.inl rfl))
   show .cons ?_ (Qu (λc hc=>sz c (dS (.inr hc))) q)
   change Within b.2 (if b.1=x then t%b.2 else w)
   by_cases e:b.1=x
   . rw[aB e]
     show⟨hJ _ ⋯,iz _ ⋯⟩
   . rw[az e]
     show r
def Dg {bs:ak}{ws:↥Int}{nd:Nd}{m:Int}{d:Nat}{r:↥Int×Int×↥Int}(sz:∀b∈bs,1<=b.2)(I:Paired Within (bs.map (·.2)) ws)(G:nd.good (·∈bs.map (·.1)) m d)(h:iy bs ws nd=S r):0<=r.2.1/\r.2.1<m/\Paired Within (bs.map (·.2)) r.2.2/\↑r.1<=1:=by
 cases nd with
 | fin=>cases h
 | put x s n=>
   cases h
   show⟨G.2.2.2.2.1,G.2.2.2.2.2,Qu sz I,fL _⟩
 | say s n=>
   cases h
   show⟨G.2.2.2.1,G.2.2.2.2,I,aK _⟩
 | test c n o=>
   cases h
   show⟨?_,?_,I,fL _⟩
   . change 0<=(if _ then n else o)
     split
     . show G.2.2.2.1
     . show G.2.2.2.2.2.1
   . change(if _ then n else o)<m
     split
     . show G.2.2.2.2.1
     . show G.2.2.2.2.2.2
theorem og:∀{G ws:↥Int},Paired Within G ws->ws∈cm G
 | [],_,.nil=>List.mem_singleton.mpr rfl
 | s::I,w::ws,.cons h r=>List.mem_flatMap.mpr ⟨w.toNat,List.mem_range.mpr (by have:=h.1;have:=h.2;lia),d7 ⟨ws,og r,by rw[zY h.1]⟩⟩
structure ES (H:Hp)(v:V)(bs:ak)(ins:↥Str)(cr:↥Nd)(p:Nat)(nd:Nd)(m:Int):Prop where
 pa:cu H v bs ins cr
 ndn:(bs.map (·.1)).Nodup
 len:↑bs<=900
 sz:∀b∈bs,1<=b.2
 here:cr[p]?=S nd
 gd:nd.good (·∈bs.map (·.1)) m 19
 nf:nd≠.fin
def qe (bs:ak)(cr:↥Nd)(p:Nat)(F:Tl):Prop:=∃nd,cr[p]?=S nd/\Paired (λr f=>∃ws,iy bs r nd=S (f.1,f.2.1,ws)/\(aE bs)[f.2.2]?=S ws) (aE bs) F
def J7 (K:av)(C:J):Sp:=λvs H Q z=>∃(x:J) (v:V) (st G:J) (bs:ak) (ins:↥Str) (cr:↥Nd) (n p:Nat) (nd:Nd) (m:Int),vs=[.ref x,.int (p:Nat)]/\gS K C H x v (aE bs) st G/\gR K H x (aE bs)/\↑(aE bs)<=900/\n<=900/\p<n/\ES H v bs ins cr p nd m/\dY H st n (qe bs cr) /\
 ∀H' u F,Kp st H H'->dY H' st n (qe bs cr)->qe bs cr p F->gT H' F u->Q u H'
def RI:bE ["self","place","told"] ["self","place"] (aV CM):=bP
def ac9 {C:J}{f:J}{fd:ba}(F:bq K "steps_at" "Side.steps_at" CM f fd)(SA:aP P w K mg base "step_at" ["program","place","worths"] 25 Sg)(NO0:gG P w K mg base C "number_of" ["self","worths"] 1 (C8 K C)):aU P w K mg base bj 26 f fd ["self","place"] (J7 K C):=by
 show F.bZ RI λim A outer s H vs Q E hr h=>?_
 obtain⟨x,v,st,sy,bs,ins,cr,n,p,nd,m,rfl,⟨cl,cF,dx,fs,nb,kvs,hx,B7,HZ,lst,vX,fH,ok,pW⟩,⟨C1,kD,kE,lw,as,c1,n1,fe,t9,nZ,oq⟩,wl,hn,hp,pre,⟨ks,ps,hd,hk,Ik,lt,hv⟩,q⟩:=h
 have NO:=NO0.mono (show 1<=25 by left)
 show cK ⟨_,(ajH (ajU (L3.Bi (cI hr _ ∅) (Y 1) (ajX (Y 0))) (ajH (akv (i:=2) [Z,S 1,S 0] ["worths","place","self"] (dq CM) U (aj4 (ajX (Y 0))) (λy y y y y=>⟨(ajK 0 (bM ["worths","place","self"])),aj3,(ajR SA hr U (L (ajX (Y 2)) (L (Y 1) (L (Y 0) M))))⟩) RI.nd)
   (ajI (akC (cI hr _ ∅) (ajX (Y 0)) (Y 1) (aj6 [Z,Z,Z,S 0] ["said","to","worths","self"] (dq CM) U (aj4 (Y 2)) (λy y y y y=>⟨(aj1 3 (ajQ (ajK 0 (bM ["said","to","worths","self"])) (ajQ (ajK 1 (bM ["said","to","worths","self"])) (ajQ (ajK 2 (bM ["said","to","worths","self"])) aj2)))),aj3,(ajO (L (Y 0) (L (Y 1) (L (akq (Y 3) cl NO hr (L (Y 2) M)) M))))⟩))))) ajV)
   (ajI (ajN (akk (cI hr _ ∅) (ajX (Y 0)) (Y 1))))),?_⟩
 have g:=dN.k (k:=(.inl (p:Int):Key)) hd
 show aa U (aa U (bY hx cl (cF.get ∅) lst ⟨st,aa U ⟨g,aa U (aG (λc=>?_) (λc=>?_))⟩⟩))
 . have hc:bu ks (.inl (p:Int))=Z:=by
     cases e:bu ks (.inl (p:Int))with
     | none=>rfl
     | some _=>rw[e]at c;cases c
   have E6:=Paired.length oq
   show aa U ⟨x,C1,kD,kE,aa U ⟨fe,c1,n1,t9,aL U ⟨_,af.of nZ⟩ (λl hl=>fT (xs:=as.map V.ref) (λi H2=>∃O:↥J,ag H H2/\H2 l=S (.lst (O.map V.ref))/\Paired (λt r=>∃wn to ws l1 l2,iy bs r nd=S (wn,to,ws)/\H2 t=S (.tup [.ref l1,.int to,.ref l2])/\H2 l1=S (.lst (wn.map V.int))/\H2 l2=S (.lst (ws.map V.int))/\t≠l/\l1≠l/\l2≠l) O ((aE bs).take i)) ⟨[],aH hl _,ai,.nil⟩ (λi H2 y z=>af.of (z.choose_spec.1 _ _ nZ)) (λi a0 H2 vA z=>?_) (λH2 z=>?_))⟩⟩
   . obtain⟨O,s2,g2,p2⟩:=z
     obtain⟨a,ha,rfl⟩:=eh vA
     obtain⟨r,bJ,jS⟩:=Paired.get oq ha
     have bC:i<↑(as.map V.ref):=(bt vA)
     have tl:=Paired.length p2
     rw[cp]at tl
     show bO (dW (A:=λG=>cR _ l _ G _) (aa U (bY (s2 _ _ hx) cl (cF.get ∅) B7 (aa U (aa U ⟨v,(p:Int),a,bs,r,ins,cr,nd,m,U,⟨pre.pa.same s2,pre.ndn,pre.len,pre.sz,s2 _ _ jS,pf (bI bJ),⋯,by rw[gE];show pre.here,pre.gd⟩,(λe=>?_),λwn to ws e t l1 l2 G T=>?_⟩)))))
     . cases nd with
       | fin=>show ao rfl pre.nf
       | put _ _ _=>cases e
       | say _ _=>cases e
       | test _ _ _=>cases e
     have nn:∀{b:J},H2 b=Z->b≠l:=λh z=>by rw[z,g2]at h;cases h
     show⟨_,T.s _ _ g2,gP (by rw[aA];lia),cO (Pv:=λi H2=>∃O:↥J,ag H H2/\H2 l=S (.lst (O.map V.ref))/\Paired (λt r=>∃wn to ws l1 l2,iy bs r nd=S (wn,to,ws)/\H2 t=S (.tup [.ref l1,.int to,.ref l2])/\H2 l1=S (.lst (wn.map V.int))/\H2 l2=S (.lst (ws.map V.int))/\t≠l/\l1≠l/\l2≠l) O ((aE bs).take i)) (by repeat' constructor) bC ⟨O++[t],cD (ah s2 T.s) hl,by rw[ai,cq];rfl,?_⟩⟩
     rw[cV,bJ]
     show Paired.snoc (Paired.bc p2 λt0 r0 ⟨f1,f2,f3,d1,d2,h0,h1,h2,h3,h4,h5,h6⟩=>⟨f1,f2,f3,d1,d2,h0,?_,?_,?_,h4,h5,h6⟩) ⟨wn,to,ws,l1,l2,e,?_,?_,?_,nn T.hr,nn T.h1,nn T.h2⟩
     . rw[aC h4];show T.s _ _ h1
     . rw[aC h5];show T.s _ _ h2
     . rw[aC h6];show T.s _ _ h3
     . rw[aC (nn T.hr)];show T.er
     . rw[aC (nn T.h1)];show T.e1
     . rw[aC (nn T.h2)];show T.e2
   obtain⟨O,s2,g2,p2⟩:=z
   rw[aA,E6,cL]at p2
   have tsl:=Paired.length p2
   show aa U (aL U ⟨_,af.of g2⟩ (λl3 mL=>fT (xs:=O.map V.ref) (λi G=>∃(us:↥J) (F:Tl),ag H2 G/\G l3=S (.lst (us.map V.ref))/\Paired (λt f=>∃e,G t=S (.tup [.ref e,.int f.2.1,.int (f.2.2:Nat)])/\G e=S (.lst (f.1.map V.int))/\e≠l3) us F/\Paired (λr f=>∃ws,iy bs r nd=S (f.1,f.2.1,ws)/\(aE bs)[f.2.2]?=S ws) ((aE bs).take i) F) ⟨[],[],aH mL _,ai,.nil,.nil⟩ (λi G y z=>af.of (z.choose_spec.choose_spec.1 _ _ g2)) (λi t0 G OA z=>?_) (λG z=>?_)))
   . obtain⟨us,F,s3,g3,p3,pF⟩:=z
     obtain⟨tt,fO,rfl⟩:=eh OA
     obtain⟨r,bJ,wn,to,ws,l1,l2,es,h1,h2,h3,_⟩:=Paired.get p2 fO
     have bC:i<↑(O.map V.ref):=(bt OA)
     have hw:=(Dg pre.sz (pf (bI bJ)) pre.gd es).2.2.1
     obtain⟨j,hj⟩:=j9 (og hw)
     have usl:=Paired.length p3
     have Fl:=Paired.length pF
     rw[cp]at Fl
     show uA (s3 _ _ h1) (dW (A:=λG=>cR _ l3 _ G _) ?_)
     have I:=ah s2 s3
     show aa U (aa U (aa U ⟨x,dx,fs,U,I _ _ hx,pW _ ∅,aa U ⟨x,l2,v,aE bs,st,sy,ws,j,U,⟨cl,cF,dx,fs,nb,kvs,I _ _ hx,B7,HZ,lst,vX,I _ _ fH,ok,pW⟩,s3 _ _ h3,hj,λH4 s4=>⟨alL,λt ht=>?_⟩⟩⟩))
     have s5:ag G (upd H4 t (.tup [.ref l1,.int to,.int (j:Nat)])):=ah s4 (aH ht _)
     have g5:(upd H4 t (.tup [.ref l1,.int to,.int (j:Nat)])) t=S (.tup [.ref l1,.int to,.int (j:Nat)]):=ai
     generalize upd H4 t (.tup [.ref l1,.int to,.int (j:Nat)])=H5 at s5 g5 ⊢
     have nt:∀{a:J} {xs:↥V},H5 a=S (.tup xs)->a≠l3:=λe z=>by rw[z,s5 _ _ g3]at e;cases e
     have n2:∀{a:J} {o:HO},H2 a=S o->a≠l3:=λe z=>by rw[z,mL]at e;cases e
     show⟨_,s5 _ _ g3,gP (by rw[aA];lia),cO (Pv:=λi G=>∃(us:↥J) (F:Tl),ag H2 G/\G l3=S (.lst (us.map V.ref))/\Paired (λt f=>∃e,G t=S (.tup [.ref e,.int f.2.1,.int (f.2.2:Nat)])/\G e=S (.lst (f.1.map V.int))/\e≠l3) us F/\Paired (λr f=>∃ws,iy bs r nd=S (f.1,f.2.1,ws)/\(aE bs)[f.2.2]?=S ws) ((aE bs).take i) F) (by repeat' constructor) bC ⟨us++[t],F++[(wn,to,j)],cD (ah s3 s5) mL,by rw[ai,cq];rfl,?_,?_⟩⟩
     . show Paired.snoc (Paired.bc p3 λt0 f ⟨e0,h1,h2,h3⟩=>⟨e0,?_,?_,h3⟩) ⟨l1,?_,?_,n2 h2⟩
       . rw[aC (nt (s5 _ _ h1))];show s5 _ _ h1
       . rw[aC h3];show s5 _ _ h2
       . rw[aC (nt g5)];show g5
       . rw[aC (n2 h2)];show s5 _ _ (s3 _ _ h2)
     . rw[cV,bJ]
       show Paired.snoc pF ⟨ws,es,hj⟩
   obtain⟨us,F,s3,g3,p3,pF⟩:=z
   rw[aA,tsl,cL]at pF
   have I:=ah s2 s3
   have zK:gT G F (.ref l3):=⟨l3,us,rfl,g3,Paired.bc p3 λ_ _ ⟨e,h1,h2,_⟩=>⟨e,h1,h2⟩⟩
   have d2:=I _ _ hd
   have kl:↑ks=↑ps:=by have:=congrArg Ag hk;rwa[aA,aA]at this
   have pl:=Ij n ps Ik lt
   have rF:qe bs cr p F:=⟨nd,pre.here,pF⟩
   show aa U (bY (I _ _ hx) cl (cF.get ∅) lst (aa U ⟨st,aa U ⟨iD.k (k:=(.inl (p:Int):Key)) d2 (gP ⋯),?_⟩⟩))
   have Fo:=dY.put d2 hk Ik lt (λp v h=>let⟨F,r,t⟩:=hv p v h;⟨F,r,t.sm (ag.sm I)⟩) hp hc rF zK
   have kp:Kp st H (upd G st (.dK (putK ks (.inl (p:Int)) (.ref l3)))):=((Kp.refl H).same I).self
   have nx:x≠st:=λz=>by rw[z,hd]at hx;cases hx
   have g':=dN.k (H:=upd G st (.dK (putK ks (.inl (p:Int)) (.ref l3)))) (a:=st) (k:=(.inl (p:Int):Key)) ai
   rw[j7,aB rfl]at g'
   show aa U (bY (kp _ _ hx nx) cl (cF.get ∅) lst (aa U ⟨st,aa U ⟨g',q _ _ _ kp Fo rF (zK.sm ((Kp.refl (d:=st) G).self.sm d2))⟩⟩))
 . cases hc:bu ks (.inl (p:Int))with
   | none=>rw[hc]at c;show ao rfl c
   | some u=>
     obtain⟨F,r,tl⟩:=hv p u hc
     rw[hc]at g
     show aa U (bY hx cl (cF.get ∅) lst (aa U ⟨st,u,U,g,q _ u F (Kp.refl H) ⟨ks,ps,hd,hk,Ik,lt,hv⟩ r tl⟩))
abbrev Rp:Stmt:=dJ 35 1
abbrev Jb:Stmt:=dJ 35 3
abbrev Q6:Stmt:=top 27
def gR.sm {K:av}{H H':Hp}{a:J}{W:↥(↥Int)}(h:gR K H a W)(s:Sm H H'):gR K H' a W:=by
 obtain⟨G,I,O,lw,as,c,n,ha,l,hl,p⟩:=h
 show⟨G,I,O,lw,as,c,n,s _ _ ha (λy z=>nomatch z),l,s _ _ hl (λy z=>nomatch z),Paired.bc p λy y z=>s _ _ z (λy z=>nomatch z)⟩
def gS.sm {K:av}{C:J}{H H':Hp}{a st G:J}{v:V}{W:↥(↥Int)}(h:gS K C H a v W st G)(s:Sm H H'):gS K C H' a v W st G:=by
 obtain⟨I,n,dx,fs,O,kvs,h1,h2,h3,h4,h5,h6,h7⟩:=h
 show⟨I,n,dx,fs,O,kvs,s _ _ h1 (λy z=>nomatch z),h2,h3,h4,h5,s _ _ h6 (λy z=>nomatch z),h7⟩
structure Gr (K:av)(C CS:J)(H:Hp)(g:J)(v1 v2:V)(b1 b2:ak)(c:Ca):Prop where
 a:oV K C H g b1 b2
 m:LU K C CS H g v1 v2 b1 b2 c
section
variable{C CS:J}{H H':Hp}{g:J}{v1 v2:V}{b1 b2:ak}{c:Ca}
def Gr.sm (h:Gr K C CS H g v1 v2 b1 b2 c)(s:Sm H H'):Gr K C CS H' g v1 v2 b1 b2 c:=by
 obtain⟨⟨I,O,dx,fs,m,y,rl,cd,kvs,h1,h2,h3,h4,h5,h6,h7,h8,h9,ph,G,xZ⟩,Bj,fs',m',y',k1,k2,k3,k4,k5⟩:=h
 show⟨⟨I,O,dx,fs,m,y,rl,cd,kvs,s _ _ h1 (λw z=>nomatch z),h2,h3,h4,h5,h6,h7.sm s,h8.sm s,s _ _ h9 (λw z=>nomatch z),s _ _ ph (λw z=>nomatch z),λt x=>⟨λhx=>?_,(G t x).2⟩,xZ⟩,Bj,fs',m',y',s _ _ k1 (λw z=>nomatch z),k2,k3,k4.sm s,k5.sm s⟩
 obtain⟨col,e1,e2⟩:=(G t x).1 hx
 show⟨col,e1,s _ _ e2 (λw z=>nomatch z)⟩
def Gr.same (h:Gr K C CS H g v1 v2 b1 b2 c)(s:ag H H'):Gr K C CS H' g v1 v2 b1 b2 c:=h.sm (ag.sm s)
def Gr.view (h:Gr K C CS H g v1 v2 b1 b2 c):∃(dx:J) (fs:↥(Str×V)) (m y G cd:J) (kvs:↥(↥Key×V)),H g=S (.ins C dx fs)/\lk fs "mine"=S (.ref m)/\lk fs "yours"=S (.ref y)/\lk fs "width"=S (.int (↑(aE b2):Nat))/\lk fs "rows"=S (.ref G)/\lk fs "columns"=S (.ref cd) /\
   gR K H m (aE b1)/\gR K H y (aE b2)/\H G=S (.lst ((cj (nR b1 b2)).map λi:Nat=>V.int i))/\H cd=S (.dT kvs)/\nF b1 b2 H kvs (iH b1 b2)/\(∀f,f∉(["mine","yours","width","rows","columns"]:↥Str)->lk fs f=Z)/\gS K CS H m v1 (aE b1) c.s1 c.t1/\gS K CS H y v2 (aE b2) c.s2 c.t2:=by
 obtain⟨⟨cl,na,dx,fs,m,y,G,cd,kvs,h1,h2,O,h4,h5,h6,h7,h8,h9,ph,I,xZ⟩,Bj,fs',m',y',k1,k2,k3,k4,k5⟩:=h
 rw[h1]at k1
 cases k1
 rw[h2]at k2
 cases k2
 rw[O]at k3
 cases k3
 show⟨dx,fs,m,y,G,cd,kvs,h1,h2,O,h4,h5,h6,h7,h8,h9,ph,I,xZ,k4,k5⟩
end
def J3 (K:av)(C CS:J):Sp:=λvs H Q z=>∃(g a b:J) (v1 v2:V) (b1 b2:ak) (c:Ca) (G I:↥Int) (i j:Nat),vs=[.ref g,.ref a,.ref b]/\Gr K C CS H g v1 v2 b1 b2 c/\H a=S (.lst (G.map V.int))/\H b=S (.lst (I.map V.int))/\(aE b1)[i]?=S G/\(aE b2)[j]?=S I/\↑(aE b1)<=900/\↑(aE b2)<=900/\∀H',ag H H'->Q (.int ((i*↑(aE b2)+j:Nat):Int)) H'
def agv:bE ["self","mine","yours"] ["self","mine","yours"] (aV Rp):=bP
def ac4 {C CS:J}{f:J}{fd:ba}(F:bq K "row_of" "Ground.row_of" Rp f fd)(cs:fB K CS)(NO:gG P w K mg base CS "number_of" ["self","worths"] 1 (C8 K CS)):aU P w K mg base bj 2 f fd ["self","mine","yours"] (J3 K C CS):=by
 show F.bZ agv λim A outer s H vs Q E hr h=>?_
 obtain⟨g,a,b,v1,v2,b1,b2,c,w1,w2,i,j,rfl,I,ha,hb,hi,hj,l1,l2,q⟩:=h
 show cK ⟨_,(ajI (ajN (ajJ aj7 (ajJ akd (akq (ajX (Y 0)) cs NO hr (L (Y 1) M)) (ajX (Y 0))) (akq (ajX (Y 0)) cs NO hr (L (Y 2) M))))),?_⟩
 have O:=I.a.cl
 have cF:=I.a.na
 obtain⟨dx,fs,m,y,rl,cd,kvs,hg,lm,ly,vY,_,_,_,_,_,_,_,_,sm,sy⟩:=I.view
 obtain⟨_,_,dm,fm,_,_,hm,_,_,_,_,_,_,nm⟩:=id sm
 obtain⟨_,_,dy,fy,_,_,hy,_,_,_,_,_,_,ny⟩:=id sy
 have il:=(bt hi)
 show aa U (bY hg O (cF.get ∅) lm ⟨m,dm,fm,U,hm,nm _ ∅,aa U ⟨m,a,v1,_,_,_,w1,i,U,sm,ha,hi,λH1 G=>aa U (bY (G _ _ hg) O (cF.get ∅) vY (bF U U (.inl ⟨⋯,⋯⟩) (aa U (bY (G _ _ hg) O (cF.get ∅) ly ⟨y,dy,fy,U,G _ _ hy,ny _ ∅,aa U ⟨y,b,v2,_,_,_,w2,j,U,sy.same G,G _ _ hb,hj,λH2 s2=>(aw U U ?_)⟩⟩))))⟩⟩)
 rw[Int.natCast_add,Int.natCast_mul]at q
 show q H2 (ah G s2)
def R6:Sp:=λvs H Q z=>∃(v:V) (bs:ak) (ins:↥Str) (cr:↥Nd),vs=[v]/\cu H v bs ins cr/\Fits bs ins/\(∀s∈ins.map (cb bs),0<=s/\s<=900)/\(∀i,↑(cm ((ins.map (cb bs)).take i))<=900)/\∀l as H',Own H H' l as (cm (ins.map (cb bs)))->Q (.ref l) H'
def agm:bE ["program"] ["program"] (aV Q6):=bP
def acD {f:J}{fd:ba}(F:bq K "every_input" "every_input" Q6 f fd)(EW:aP P w K mg base "every_worths" ["sizes"] 1 C5)(IS:aP P w K mg base "input_sizes" ["program"] 1 um):aU P w K mg base bj 2 f fd ["program"] R6:=by
 show F.bZ agm λim A outer s H vs Q E G h=>?_
 obtain⟨v,bs,ins,cr,rfl,pa,I,h1,h2,q⟩:=h
 show⟨_,akf (ajI (ajN (ajR EW G U (L (ajR IS G U (L (Y 0) M)) M)))),aa U ⟨v,bs,ins,cr,U,pa,I,λl H1 hl s1 e1=>⟨l,aa U ⟨e1,h1,by rw[aA];show I.ilen,h2,λl2 as H2 O=>q l2 as H2 (O.from s1)⟩⟩⟩⟩
def aby (G:↥Nat)(k:Nat):cU (G++[k])=cU G++[V.int (k:Nat)]:=cq
def my (b1 b2:ak)(ins:↥Str)(r:↥Int)(k:Nat):Prop:=∃i j,(aE b1)[i]?=S (gI b1 ins r)/\(aE b2)[j]?=S (gI b2 ins r)/\k=i*↑(aE b2)+j
structure u5 (H:Hp)(v1 v2:V)(b1 b2:ak)(ins:↥Str)(n1 n2:↥Nd):Prop where
 p:L6 H v1 v2 b1 b2 ins n1 n2
 l1:↑(aE b1)<=900
 l2:↑(aE b2)<=900
 si:∀s∈ins.map (cb b1),0<=s/\s<=900
 li:∀i,↑(cm ((ins.map (cb b1)).take i))<=900
def JM (K:av)(C CS:J):Sp:=λvs H Q z=>∃(g:J) (v1 v2:V) (b1 b2:ak) (c:Ca) (ins:↥Str) (n1 n2:↥Nd),vs=[.ref g]/\Gr K C CS H g v1 v2 b1 b2 c/\u5 H v1 v2 b1 b2 ins n1 n2 /\
 ∀(l:J) (G:↥Nat) (H':Hp),ag H H'->H l=Z->H' l=S (.lst (cU G))->Paired (my b1 b2 ins) (cm (ins.map (cb b1))) G->Q (.ref l) H'
def Ju:bE ["self","one","other"] ["self"] (aV Jb):=bP
def acq {C CS:J}{f:J}{fd:ba}(F:bq K "beginnings" "Ground.beginnings" Jb f fd)(EI:aP P w K mg base "every_input" ["program"] 2 R6)(BG0:aP P w K mg base "beginning_of" ["program","inputs"] 2 R4)(RO0:gG P w K mg base C "row_of" ["self","mine","yours"] 2 (J3 K C CS)):aU P w K mg base bj 3 f fd ["self"] (JM K C CS):=by
 show F.bZ Ju λim A outer s H vs Q E hr h=>?_
 obtain⟨g,v1,v2,b1,b2,c,ins,n1,n2,rfl,gr,G,q⟩:=h
 have BG:=BG0
 have RO:=RO0
 have cl:=gr.a.cl
 show cK ⟨_,(ajH (ako (ajO (L (ajX (ajX (Y 0))) (L (ajX (ajX (Y 0))) M))) (aj1 2 (ajQ (ajK 1 Ju.nd) (ajQ (ajK 2 Ju.nd) aj2))))
   (ajI (ajN (aj6 [Z,S 0,S 1,S 2] ["inputs","self","one","other"] (dq Jb) U (aj4 (ajR EI hr U (L (Y 1) M))) (λx x x x x=>⟨(ajK 0 (bM ["inputs","self","one","other"])),aj3,(akq (Y 1) cl RO hr (L (ajR BG hr U (L (Y 2) (L (Y 0) M))) (L (ajR BG hr U (L (Y 3) (L (Y 0) M))) M)))⟩))))),?_⟩
 have cF:=gr.a.na
 obtain⟨dx,fs,m,y,rl,cd,kvs,hg,lm,ly,vY,_,_,_,_,_,_,_,pW,sm,sy⟩:=gr.view
 obtain⟨cs,yT,dm,fm,_,_,hm,Ia,_⟩:=id sm
 obtain⟨_,_,dy,fy,_,_,hy,Ib,_⟩:=id sy
 show aa U (bY hg cl (cF.get ∅) lm (bY hm cs (yT.get ∅) Ia (aa U (bY hg cl (cF.get ∅) ly (bY hy cs (yT.get ∅) Ib ⟨alK,λtp yH=>?_⟩)))))
 obtain⟨H0,s0,g0,zz⟩:=aT yH (.tup [v1,v2])
 rw[zz];clear zz
 show gC g0 (aa U ⟨v1,b1,ins,n1,U,G.p.p1.same s0,G.p.f1,G.si,G.li,λl as H1 O=>(aL U ⟨_,af.of O.e⟩ (λlr vM=>fT (xs:=as.map V.ref) (λi H2=>∃I:↥Nat,ag H1 H2/\H2 lr=S (.lst (cU I))/\Paired (my b1 b2 ins) ((cm (ins.map (cb b1))).take i) I) ⟨[],aH vM _,ai,.nil⟩ (λi H2 x z=>af.of (z.choose_spec.1 _ _ O.e)) (λi a0 H2 vA z=>?_) (λH2 z=>?_)))⟩)
 . obtain⟨I,s2,g2,p2⟩:=z
   obtain⟨a,ha,rfl⟩:=eh vA
   obtain⟨r,bJ,jS⟩:=Paired.get O.p ha
   have bC:i<↑(as.map V.ref):=(bt vA)
   have rl':=Paired.length p2
   rw[cp]at rl'
   have gl:=G.li ↑(ins.map (cb b1))
   rw[cL]at gl
   have NE:ag H H2:=ah s0 (ah O.s s2)
   have wo:=pf (bI bJ)
   have Cs:Paired Within (ins.map (cb b2)) r:=by rw[← G.p.sz];show wo
   obtain⟨i1,lU⟩:=j9 (og (A8 G.p.f1.nd G.p.f1.sz wo))
   obtain⟨j1,Oh⟩:=j9 (og (A8 G.p.f2.nd G.p.f2.sz Cs))
   show bO (dW (A:=λH3=>cR _ lr _ H3 _) (aa U ⟨g,dx,fs,U,NE _ _ hg,pW _ ∅,aa U (aa U ⟨v1,a,b1,ins,n1,r,U,G.p.p1.same NE,G.p.f1,s2 _ _ jS,wo,λla H3 vK s3 FR=>?_⟩)⟩))
   have Db:=ah NE s3
   show aa U (aa U ⟨v2,a,b2,ins,n2,r,U,G.p.p2.same Db,G.p.f2,s3 _ _ (s2 _ _ jS),Cs,λlb H4 Gp s4 FU=>?_⟩)
   have s04:=ah Db s4
   show⟨g,la,lb,v1,v2,b1,b2,c,_,_,i1,j1,U,gr.same s04,s4 _ _ FR,FU,lU,Oh,G.l1,G.l2,λH5 s5=>?_⟩
   have zw:=ah s3 (ah s4 s5)
   show⟨_,zw _ _ g2,gP (by rw[aA];lia),cO (Pv:=λi H2=>∃I:↥Nat,ag H1 H2/\H2 lr=S (.lst (cU I))/\Paired (my b1 b2 ins) ((cm (ins.map (cb b1))).take i) I) (by repeat' constructor) bC ⟨I++[i1*↑(aE b2)+j1],cD (ah s2 zw) vM,by rw[ai,aby],?_⟩⟩
   rw[cV,bJ]
   show Paired.snoc p2 ⟨i1,j1,lU,Oh,U⟩
 obtain⟨I,s2,g2,p2⟩:=z
 rw[aA,Paired.length O.p,cL]at p2
 show q lr I H2 (ah s0 (ah O.s s2)) (b9 s0 (b9 O.s vM)) g2 p2
abbrev Ru:Stmt:=top 43
abbrev Q4:Stmt:=top 42
structure Ef where
 e:En
 who:Str
 wait:E
def f9 (H:Hp)(v:V)(f:Ef):Prop:=∃G I,Tp H v [.int f.e.p,.int f.e.q,G,.str f.who,I]/\bL H G f.e.c/\bL H I f.wait
def f9.en {H:Hp}{v:V}{f:Ef}(h:f9 H v f):Es H v f.e:=by obtain⟨G,I,h1,h2,_⟩:=h;show⟨G,_,I,h1,h2⟩
def f9.keep {H H':Hp}{v:V}{f:Ef}(h:f9 H v f)(k:TK H H'):f9 H' v f:=by obtain⟨G,I,h1,h2,O⟩:=h;show⟨G,I,h1.keep k,h2.keep k,O.keep k⟩
abbrev qb (a:Str):Bool:=iX (.str a) [.str "put",.str "test"]
def i9 (a b w:Str):Bool:=if w="mine" then qb a else if w="yours" then qb b else if w="both" then(decide (a=b)&&decide (b="say")) || (qb a&&qb b)else decide (a=b)&&decide (b="end")
def Ka (K:av)(C CS:J):Sp:=λvs H Q z=>∃(g:J) (G v1 v2:V) (b1 b2:ak) (c:Ca) (ins:↥Str) (n1 n2:↥Nd) (f:Ef) (p q:Nat) (I O:Nd),vs=[.ref g,G]/\Gr K C CS H g v1 v2 b1 b2 c/\cu H v1 b1 ins n1/\cu H v2 b2 ins n2/\f9 H G f/\f.e.p=(p:Nat)/\f.e.q=(q:Nat)/\n1[p]?=S I/\n2[q]?=S O/\Q (.bl (i9 (dz I) (dz O) f.who)) H
def RJ:bE ["ground","entry","first","second","who"] ["ground","entry"] (aV Ru):=bP
def adf {C CS:J}{f:J}{fd:ba}(F:bq K "turn_fits" "turn_fits" Ru f fd)(cs:fB K CS)(KA:gG P w K mg base CS "kind_at" ["self","place"] 1 (JW K CS))(QT:mC K mg "QUIET" ["put","test"]):aU P w K mg base bj 2 f fd ["ground","entry"] (Ka K C CS):=by
 show F.bZ RJ λim A outer s H vs Q E hr h=>?_
 obtain⟨g,ev,v1,v2,b1,b2,c,ins,n1,n2,⟨⟨fp,fq,fc⟩,G,fw⟩,p,q',sK,bG,rfl,gr,uf,zf,⟨cv,wv,⟨a,rfl,ha⟩,_,_⟩,ep,eq,h1,h2,q⟩:=h
 obtain⟨I,mQ,cQ⟩:=QT
 show cK ⟨_,(ajH (L3.Qc 2 3 4 RJ.nd (L (akq (ajX (Y 0)) cs KA hr (L (ajG ajM (Y 1) ajF) M)) (L (akq (ajX (Y 0)) cs KA hr (L (ajG ajM (Y 1) ajF) M)) (L (ajG ajM (Y 1) ajF) M))))
   (ajH (ajU (ajS ajZ (Y 4) ajL) (ajI (ajN (akc akt (Y 2) (ake (w:=.ref I) U mQ rfl) U))) ajV)
   (ajH (ajU (ajS ajZ (Y 4) ajL) (ajI (ajN (akc akt (Y 3) (ake (w:=.ref I) U mQ rfl) U))) ajV)
   (ajH (ajU (ajS ajZ (Y 4) ajL) (ajI (ajN (L3.adJ (L3.MC ajZ ajZ (Y 2) (Y 3) ajL) (L3.Ck (L3.AY (akc akt (Y 2) (ake (w:=.ref I) U mQ rfl) U) (L3.Ck (akc akt (Y 3) (ake (w:=.ref I) U mQ rfl) U))))))) ajV)
   (ajI (ajN (L3.MC ajZ ajZ (Y 2) (Y 3) ajL))))))),?_⟩
 have ep:fp=(p:Int):=ep
 have eq:fq=(q':Int):=eq
 subst ep eq
 have cl:=gr.a.cl
 have cF:=gr.a.na
 obtain⟨dx,fs,m,y,rl,cd,kvs,hg,lm,ly,vY,_,_,_,_,_,_,_,pW,sm,sy⟩:=gr.view
 obtain⟨_,_,dm,fm,_,_,hm,_,_,_,_,_,_,nm⟩:=id sm
 obtain⟨_,_,dy,fy,_,_,hy,_,_,_,_,_,_,ny⟩:=id sy
 show aa U (bY hg cl (cF.get ∅) lm ⟨m,dm,fm,U,hm,nm _ ∅,aa U (aF ha U ⟨m,v1,_,_,_,b1,ins,n1,p,sK,U,sm,uf,h1,aa U (bY hg cl (cF.get ∅) ly ⟨y,dy,fy,U,hy,ny _ ∅,aa U (aF ha U ⟨y,v2,_,_,_,b2,ins,n2,q',bG,U,sy,zf,h2,aa U (aF ha U ?_)⟩)⟩)⟩)⟩)
 generalize dz sK=k1 at q ⊢
 generalize dz bG=k2 at q ⊢
 have q:Q (.bl (i9 k1 k2 G)) H:=q
 unfold i9 at q
 show⟨_,_,aa U (aa U (aN U U (aG (λc=>?_) (λc=>?_))))⟩
 . have e:G="mine":=by simpa[eK]using c
   rw[aB e]at q
   show aa U ⟨I,aa U ⟨.inr (cQ _),U,U,q⟩⟩
 rw[az (show ¬ G="mine" from λe=>c (by simp[eK,e]))]at q
 show aa U (aN U U (aG (λc=>?_) (λc=>?_)))
 . have e:G="yours":=by simpa[eK]using c
   rw[aB e]at q
   show aa U ⟨I,aa U ⟨.inr (cQ _),U,U,q⟩⟩
 rw[az (show ¬ G="yours" from λe=>c (by simp[eK,e]))]at q
 show aa U (aN U U (aG (λc=>?_) (λc=>?_)))
 . have e:G="both":=by simpa[eK]using c
   rw[aB e]at q
   show aa U (aa U (aN U U (aG (λO=>?_) (λO=>?_))))
   . have e1:k1=k2:=by simpa using O
     show aN U U (aG (λc2=>?_) (λc2=>?_))
     . have e2:k2="say":=by simpa using c2
       rw[show(decide (k1=k2)&&decide (k2="say"))=true by simp[e1,e2],Bool.true_or]at q
       show q
     . rw[show(decide (k1=k2)&&decide (k2="say"))=false by
         have:¬ k2="say":=λe=>c2 (by simp[e])
         simp[this],DD]at q
       show aa U ⟨I,aa U ⟨.inr (cQ _),U,aN U U (aG (λc3=>?_) (λc3=>?_))⟩⟩
       . have sU:qb k1=true:=c3
         rw[sU,DF]at q
         show aa U ⟨I,aa U ⟨.inr (cQ _),U,U,q⟩⟩
       . have sU:qb k1=false:=Bool.eq_false_iff.mpr c3
         rw[sU,wO]at q
         show q
   . rw[show(decide (k1=k2)&&decide (k2="say"))=false by
       have:¬ k1=k2:=λe=>O (by simp[e])
       simp[this],DD]at q
     show aa U (mV (aa U ⟨I,aa U ⟨.inr (cQ _),U,aN U U (aG (λc3=>?_) (λc3=>?_))⟩⟩))
     . have sU:qb k1=true:=c3
       rw[sU,DF]at q
       show aa U ⟨I,aa U ⟨.inr (cQ _),U,U,q⟩⟩
     . have sU:qb k1=false:=Bool.eq_false_iff.mpr c3
       rw[sU,wO]at q
       show q
 rw[az (show ¬ G="both" from λe=>c (by simp[eK,e]))]at q
 show aa U (aa U (aN U U (aG (λO=>?_) (λO=>?_))))
 . have e1:k1=k2:=by simpa using O
   show⟨U,?_⟩
   rw[show(decide (k1=k2)&&decide (k2="end"))=decide (V.str k2=V.str "end")by simp[e1]]at q
   show q
 . rw[show(decide (k1=k2)&&decide (k2="end"))=false by
     have:¬ k1=k2:=λe=>O (by simp[e])
     simp[this]]at q
   show q
structure xB (b1 b2:ak)(n1 n2:↥Nd)(f:Ef)(p q n:Nat):Prop where
 ep:f.e.p=(p:Nat)
 eq:f.e.q=(q:Nat)
 pl:p<↑n1
 ql:q<↑n2
 who:iX (.str f.who) [.str "mine",.str "yours",.str "both",.str "end"]=true
 ok:f.e.c.okIn (iH b1 b2)
 dp:f.e.c.dep<n
 okw:f.wait.okIn (iH b1 b2)
 dw:f.wait.dep<n
abbrev oU (b1 b2:ak)(n1 n2:↥Nd)(f:Ef)(n:Nat):Prop:=∃p q,xB b1 b2 n1 n2 f p q n
structure uT (f:Ef)(n:Nat):Prop where
 oc:f.e.c.okIn mq
 dc:f.e.c.dep<n
 ow:f.wait.okIn mq
 dw:f.wait.dep<n
def nF.kn {b1 b2:ak}{H:Hp}{kvs:↥(↥Key×V)}(h:nF b1 b2 H kvs (iH b1 b2))(t x:Str):fW kvs t x=true↔iH b1 b2 t x:=⟨(h t x).2,λz=>let⟨_,e,_⟩:=(h t x).1 z;by unfold fW;rw[e];rfl⟩
def JR (K:av)(C CS:J)(n:Nat):Sp:=λvs H Q z=>∃(g:J) (G v1 v2:V) (b1 b2:ak) (c:Ca) (ins:↥Str) (n1 n2:↥Nd) (f:Ef),vs=[.ref g,G]/\Gr K C CS H g v1 v2 b1 b2 c/\cu H v1 b1 ins n1/\cu H v2 b2 ins n2/\f9 H G f/\uT f n/\∀(b:Bool) (H':Hp),ag H H'->(b=true↔oU b1 b2 n1 n2 f n)->Q (.bl b) H'
def wH:bE ["ground","entry","p","q","condition","who","wait"] ["ground","entry"] (aV Q4):=bP
def acz {C CS:J}{n:Nat}{f:J}{fd:ba}(F:bq K "entry_fits" "entry_fits" Q4 f fd)(G:mg "len"=Z)(AK:aP P w K mg base "all_known" ["known","told"] (n+1) (rn n))(TT:mC K mg "TURNS" ["mine","yours","both","end"]):aU P w K mg base bj (n+2) f fd ["ground","entry"] (JR K C CS n):=by
 show F.bZ wH λim A outer s H vs Q E hr h=>?_
 obtain⟨g,ev,v1,v2,b1,b2,c,ins,n1,n2,⟨⟨fp,fq,fc⟩,who,fw⟩,rfl,gr,⟨pp,B,I,N,vb,vn,rfl,hp,hB,hI,hN,pb,pn⟩,⟨pp',B',I',N',TH,Kq,rfl,jk,NH,Bu,F6,Qe,II⟩,⟨cv,wv,⟨a,rfl,ha⟩,ec,ew⟩,⟨oc,dc,ow,dw⟩,q⟩:=h
 obtain⟨tt,mT,cT⟩:=TT
 show cK ⟨_,(ajH (ako (Y 1) (aj1 5 (ajQ (ajK 2 wH.nd) (ajQ (ajK 3 wH.nd) (ajQ (ajK 4 wH.nd) (ajQ (ajK 5 wH.nd) (ajQ (ajK 6 wH.nd) aj2)))))))
   (ajH (ajU (akm (akj (ajS akh (Y 2) ajF) (akj (ajS L3.zb (Y 2) (aj0 aj5 U G eE (L (ajG ajM (ajX (ajX (Y 0))) ajF) M))) (akj (ajS akh (Y 3) ajF) (aks (ajS L3.zb (Y 3) (aj0 aj5 U G eE (L (ajG ajM (ajX (ajX (Y 0))) ajF) M)))))))) (ajI (ajN aj9)) ajV)
   (ajI (ajN (L3.AY (akc akt (Y 5) (ake (w:=.ref tt) U mT rfl) U) (L3.AY (ajR AK hr U (L (ajX (Y 0)) (L (Y 4) M))) (L3.Ck (ajR AK hr U (L (ajX (Y 0)) (L (Y 6) M)))))))))),?_⟩
 have ha:H a=S (.tup [.int fp,.int fq,cv,.str who,wv]):=ha
 have cl:=gr.a.cl
 have cF:=gr.a.na
 obtain⟨dx,fs,m,y,rl,cd,kvs,hg,lm,ly,vY,_,O0,_,_,_,wS,col,pW,sm,sy⟩:=gr.view
 obtain⟨cs,yT,dm,fm,_,_,hm,Ia,_⟩:=id sm
 obtain⟨_,_,dy,fy,_,_,hy,Ib,_⟩:=id sy
 have vl:=Paired.length pn
 have vl':=Paired.length II
 have no:∀{H':Hp},ag H H'->¬ oU b1 b2 n1 n2 ⟨⟨fp,fq,fc⟩,who,fw⟩ n->Q (.bl false) H':=λs h=>q false _ s ⟨(λz=>nomatch z),λz=>ao z h⟩
 show aa U (aw U (bQ.of ha) ⟨U,_,aa U ⟨_,aa U ⟨_,aa U ⟨_,aa U (aw U U (aa U (aw U U (aa U (aG (λc=>?_) (λc1=>?_))))))⟩⟩⟩⟩)
 . show no (same_refl _) λO=>?_
   obtain⟨p,q,z⟩:=O
   have h1:=bw c
   have h2:fp=(p:Int):=z.ep
   lia
 show aa U (aa U (bY hg cl (cF.get ∅) lm (bY hm cs (yT.get ∅) Ia (aF hp U (aw U (.inl (af.of hN)) (aw U U (aa U (aG (λc=>?_) (λc2=>?_)))))))))
 . show no (same_refl _) λO=>?_
   obtain⟨p,q,z⟩:=O
   have h1:=bw c
   have h2:fp=(p:Int):=z.ep
   have h3:=z.pl
   lia
 show aa U (aw U U (aa U (aG (λc=>?_) (λc3=>?_))))
 . show no (same_refl _) λO=>?_
   obtain⟨p,q,z⟩:=O
   have h1:=bw c
   have h2:fq=(q:Int):=z.eq
   lia
 show aa U (aa U (bY hg cl (cF.get ∅) ly (bY hy cs (yT.get ∅) Ib (aF jk U (aw U (.inl (af.of F6)) (aw U U (aa U (aG (λc=>?_) (λc4=>?_)))))))))
 . show no (same_refl _) λO=>?_
   obtain⟨p,q,z⟩:=O
   have h1:=bw c
   have h2:fq=(q:Int):=z.eq
   have h3:=z.ql
   lia
 have c1:¬ fp<0:=λz=>c1 (bS z)
 have c2:¬ ((↑vn:Nat):Int)<=fp:=λz=>c2 (bS z)
 have c3:¬ fq<0:=λz=>c3 (bS z)
 have c4:¬ ((Kq.length:Nat):Int)<=fq:=λz=>c4 (bS z)
 show aa U ⟨tt,aa U ⟨.inr (cT _),U,aN U U (aG (λhw=>?_) (λc=>no (same_refl _) λ⟨p,q,z⟩=>c z.who))⟩⟩
 have kn:=BZ col.kn
 show aa U (bY hg cl (cF.get ∅) O0 (aa U ⟨cd,cv,fc,kvs,U,wS,ec,oc,dc,λH1 s1=>(aa U (aG (λk1=>?_) (λc=>?_)))⟩))
 . show aa U (bY (s1 _ _ hg) cl (cF.get ∅) O0 (aa U ⟨cd,wv,fw,kvs,U,s1 _ _ wS,bL.same ew s1,ow,dw,λH2 s2=>q _ H2 (ah s1 s2) ?_⟩))
   rw[kn fw ow]
   show⟨λz=>⟨fp.toNat,fq.toNat,(zY (Int.not_lt.mp c1)).symm,(zY (Int.not_lt.mp c3)).symm,⋯,⋯,hw,(kn fc oc).mp k1,dc,z,dw⟩,λ⟨p,q,z⟩=>z.okw⟩
 . show no s1 λO=>?_
   obtain⟨p,q,z⟩:=O
   show c ((kn fc oc).mpr z.ok)
abbrev IZ:Stmt:=top 47
theorem zg {α:Type}{R:α->Prop}:∀{bs:↥Bool} {es:List α},Paired (λb f=>b=true↔R f) bs es->(bs.all id=true↔∀f∈es,R f)
 | _,_,.nil=>⟨λz z h=>ao h fA,λz=>rfl⟩
 | _,_,.cons h r=>by
   rw[DP,j8,zg r,List.forall_mem_cons]
   show and_congr h Iff.rfl
def JJ (K:av)(C CS:J)(n:Nat):Sp:=λvs H Q z=>∃(g G:J) (v1 v2:V) (b1 b2:ak) (c:Ca) (ins:↥Str) (n1 n2:↥Nd) (I:↥V) (es:↥Ef),vs=[.ref g,.ref G]/\Gr K C CS H g v1 v2 b1 b2 c/\cu H v1 b1 ins n1/\cu H v2 b2 ins n2/\H G=S (.lst I)/\Paired (f9 H) I es/\↑es<=900/\(∀f∈es,uT f n)/\∀(b:Bool) (H':Hp),ag H H'->(b=true↔∀f∈es,oU b1 b2 n1 n2 f n)->Q (.bl b) H'
def agg:bE ["ground","paper"] ["ground","paper"] (aV IZ):=bP
def acm {C CS:J}{n:Nat}{f:J}{fd:ba}(F:bq K "all_fit" "all_fit" IZ f fd)(G:mg "all"=Z)(EF:aP P w K mg base "entry_fits" ["ground","entry"] (n+2) (JR K C CS n)):aU P w K mg base bj (n+3) f fd ["ground","paper"] (JJ K C CS n):=by
 show F.bZ agg λim A outer s H vs Q E hr h=>?_
 obtain⟨g,pa,v1,v2,b1,b2,c,ins,n1,n2,on,es,rfl,gr,uf,zf,jV,Qh,le,fit,q⟩:=h
 show cK ⟨_,(ajI (ajN (aj0 L3.Mv U G (by right) (L (aj6 [Z,S 0] ["entry","ground"] (dq IZ) U (aj4 (Y 1)) (λy y y y y=>⟨(ajK 0 (bM ["entry","ground"])),aj3,(ajR EF hr U (L (Y 1) (L (Y 0) M)))⟩)) M)))),?_⟩
 have vl:=Paired.length Qh
 show aa U (aL U ⟨_,af.of jV⟩ (λl hl=>fT (xs:=on) (λi H2=>ag H H2/\∃bs:↥Bool,H2 l=S (.lst (bs.map V.bl))/\Paired (λ(b:Bool) f=>b=true↔oU b1 b2 n1 n2 f n) bs (es.take i)) ⟨aH hl _,[],ai,.nil⟩ (λi H2 y z=>af.of (z.1 _ _ jV)) (λi x0 H2 hx z=>?_) (λH2 z=>?_)))
 . obtain⟨I,bs,g2,O⟩:=z
   obtain⟨f,hf,ef⟩:=Paired.get Qh hx
   have bC:i<↑on:=(bt hx)
   have bl:=Paired.length O
   rw[cp]at bl
   show bO (dW (A:=λH3=>cR _ l _ H3 _) (aa U (aa U ⟨g,x0,v1,v2,b1,b2,c,ins,n1,n2,f,U,gr.same I,uf.same I,zf.same I,ef.keep (ag.tk I),fit f (bI hf),λb H3 s3 hb=>⟨_,s3 _ _ g2,gP (by rw[aA];lia),cO (Pv:=λi H2=>ag H H2/\∃bs:↥Bool,H2 l=S (.lst (bs.map V.bl))/\Paired (λ(b:Bool) f=>b=true↔oU b1 b2 n1 n2 f n) bs (es.take i)) (by repeat' constructor) bC ⟨cD (ah I s3) hl,bs++[b],?_,?_⟩⟩⟩)))
   . rw[ai,cq]
     rfl
   . rw[cV,hf]
     show Paired.snoc O hb
 obtain⟨I,bs,g2,O⟩:=z
 rw[vl,cL]at O
 show⟨l,bs,U,af.of g2,q _ H2 I (zg O)⟩
abbrev Ja:Stmt:=top 46
def nO (H:Hp)(G:J)(n:Nat)(f:Int->Int->Option (↥V)):Prop:=∃kvs,H G=S (.dT kvs)/\∀p q:Int,(f p q=Z->bu kvs [.inl p,.inl q]=Z)/\∀col,f p q=S col->↑col=n/\∃c,bu kvs [.inl p,.inl q]=S (.ref c)/\H c=S (.lst col)
def nO.sm {H H':Hp}{G:J}{n:Nat}{f:Int->Int->Option (↥V)}(h:nO H G n f)(s:Sm H H'):nO H' G n f:=by
 obtain⟨kvs,h1,h2⟩:=h
 show⟨kvs,s _ _ h1 (λy z=>nomatch z),λp q=>⟨(h2 p q).1,λcol e=>let⟨l,c,I,O⟩:=(h2 p q).2 col e;⟨l,c,I,s _ _ O (λy z=>nomatch z)⟩⟩⟩
def VD {b1 b2:ak}{ins:↥Str}{r:↥Int}{k:Nat}(h:my b1 b2 ins r k):k<nR b1 b2:=by
 obtain⟨i,j,hi,G,rfl⟩:=h
 have h1:=(bt hi)
 have h2:=(bt G)
 have I:(i+1)*↑(aE b2)<=↑(aE b1)*↑(aE b2):=D7 _ h1
 rw[uL]at I
 change _<↑(aE b1)*↑(aE b2)
 lia
def C0 (K:av)(C CS:J):Sp:=λvs H Q z=>∃(g G:J) (v1 v2:V) (b1 b2:ak) (c:Ca) (ins:↥Str) (n1 n2:↥Nd) (f:Int->Int->Option (↥V)),vs=[.ref g,.ref G]/\Gr K C CS H g v1 v2 b1 b2 c/\u5 H v1 v2 b1 b2 ins n1 n2/\nO H G (nR b1 b2) f /\
 (f 0 0=Z->∀H',ag H H'->Q (.bl false) H')/\∀col,f 0 0=S col->∀(I:↥Nat) (H':Hp),ag H H'->Paired (my b1 b2 ins) (cm (ins.map (cb b1))) I->Q (.bl ((I.map λr=>!decide (col.getD r .aM=.aM)).all id)) H'
def agh:bE ["ground","waits"] ["ground","waits"] (aV Ja):=bP
def acp {C CS:J}{f:J}{fd:ba}(F:bq K "begins_well" "begins_well" Ja f fd)(O:mg "all"=Z)(BG:gG P w K mg base C "beginnings" ["self"] 3 (JM K C CS)):aU P w K mg base bj 4 f fd ["ground","waits"] (C0 K C CS):=by
 show F.bZ agh λim A outer s H vs Q E hr h=>?_
 obtain⟨g,wd,v1,v2,b1,b2,ca,ins,n1,n2,f,rfl,gr,G,⟨kvs,mU,hf⟩,q0,q1⟩:=h
 have cl:=gr.a.cl
 show cK ⟨_,(ajH (ajU (L3.Bi (cI hr _ ∅) (ajO (L ajF (L ajF M))) (Y 1)) (ajI (ajN aj9)) ajV)
   (ajI (ajN (aj0 L3.Mv U O (by right) (L (aj6 [Z,S 1] ["row","waits"] (dq Ja) U (aj4 (L3.abk (Y 0) cl BG hr)) (λy y y y y=>⟨(ajK 0 (bM ["row","waits"])),aj3,(akc L3.acf (ajG ajP (akk (cI hr _ ∅) (Y 1) (ajO (L ajF (L ajF M)))) (Y 0)) akB)⟩)) M))))),?_⟩
 show⟨alK,λkt tO=>?_⟩
 have I:ag H (upd H kt (.tup [.int 0,.int 0])):=aH tO _
 have g0:=dN.t (k:=([.inl 0,.inl 0]:↥Key)) (I _ _ mU) ai
 show aa U ⟨wd,aa U ⟨g0,aa U (aG (λc=>?_) (λc=>?_))⟩⟩
 . cases e:f 0 0 with
   | none=>show q0 e _ I
   | some col=>
     obtain⟨_,cc,hc,_⟩:=(hf 0 0).2 col e
     rw[hc]at c
     cases c
 cases e:f 0 0 with
 | none=>rw[(hf 0 0).1 e]at c;show ao rfl c
 | some col=>
   obtain⟨V5,cc,hc,kI⟩:=(hf 0 0).2 col e
   obtain⟨dx,fs,_,_,_,_,_,hg,_,_,_,_,_,_,_,_,_,_,pW,_⟩:=gr.view
   generalize upd H kt (.tup [.int 0,.int 0])=H0 at I ⊢
   have pr0:u5 H0 v1 v2 b1 b2 ins n1 n2:=⟨⟨G.p.p1.same I,G.p.p2.same I,G.p.f1,G.p.f2,G.p.sz⟩,G.l1,G.l2,G.si,G.li⟩
   show aa U ⟨g,dx,fs,U,I _ _ hg,pW _ ∅,g,v1,v2,b1,b2,ca,ins,n1,n2,U,gr.same I,pr0,λl bi H1 s1 hl gl pb=>(aL U ⟨_,af.of gl⟩ (λlr vM=>?_))⟩
   have s01:=ah I s1
   have pbl:=Paired.length pb
   have X4:=G.li ↑(ins.map (cb b1))
   rw[cL]at X4
   show fT (xs:=cU bi) (λi H2=>ag H1 H2/\H2 lr=S (.lst (((bi.take i).map λr=>!decide (col.getD r .aM=.aM)).map V.bl))) ⟨aH vM _,ai⟩ (λi H2 y z=>af.of (z.1 _ _ gl)) (λi x0 H2 hx z=>?_) (λH2 z=>?_)
   . obtain⟨s2,g2⟩:=z
     obtain⟨r,bJ,rfl⟩:=eh hx
     have bC:i<↑(cU bi):=(bt hx)
     obtain⟨_,_,br⟩:=Paired.vq pb bJ
     have mS:r<↑col:=by rw[V5];show VD br
     have eL:col[r]?=S (col.getD r .aM):=by rw[eR,bB mS];rfl
     have NE:=ah s01 s2
     show bO (dW (A:=λH3=>cR _ lr _ H3 _) (aL U alK (λk2 nY=>?_)))
     have s3:ag H2 (upd H2 k2 (.tup [.int 0,.int 0])):=aH nY _
     have g3:=dN.t (k:=([.inl 0,.inl 0]:↥Key)) (s3 _ _ (NE _ _ mU)) ai
     rw[hc]at g3
     have s4:=ah s2 s3
     show⟨wd,aa U ⟨g3,aa U (aX (s3 _ _ (NE _ _ kI)) (gH eL) ⟨U,_,s3 _ _ g2,gP (by rw[aA,aA,cp];lia),cO (Pv:=λi H2=>ag H1 H2/\H2 lr=S (.lst (((bi.take i).map λr=>!decide (col.getD r .aM=.aM)).map V.bl))) (by repeat' constructor) bC ⟨cD s4 vM,?_⟩⟩)⟩⟩
     rw[ai,cV,bJ,cq,cq]
     rfl
   obtain⟨s2,g2⟩:=z
   rw[nj (by rw[aA];show aK _)]at g2
   show aw U (af.of g2) (q1 col e bi H2 (ah s01 s2) pb)
abbrev Rt:Stmt:=top 40
abbrev nG:=Int->Int->Option (↥V)
def kQ (col:↥V)(G:↥Nat)(th:↥V):↥V:=(G.zip th).foldl (λc x=>c.set x.1 x.2) col
def IP (col:↥V)(G:↥Nat)(th:↥V):↑(kQ col G th)=↑col:=by
 unfold kQ
 generalize G.zip th=l
 induction l generalizing col with
 | nil=>rfl
 | cons a r I=>rw[List.foldl_cons,I,uK]
def afM {col:↥V}{G:↥Nat}{th:↥V}{k r:Nat}{v:V}(h1:G[k]?=S r)(h2:th[k]?=S v):kQ col (G.take (k+1)) (th.take (k+1))=(kQ col (G.take k) (th.take k)).set r v:=by
 unfold kQ
 have l1:=(bt h1)
 have l2:=(bt h2)
 rw[cV,cV,h1,h2,List.zip_append (by rw[cp,cp];lia),List.foldl_append]
 rfl
def fS (n:Nat)(f:nG)(p q:Int)(O:↥Nat)(th:↥V):nG:=λG I=>if G=p/\I=q then S (kQ ((f p q).getD (fQ n .aM)) O th)else f G I
def jx (n:Nat)(G:↥En)(cnt:↥(↥Nat))(I:↥(↥V)):Nat->nG
 | 0=>λz z=>Z
 | i+1=>match G[i]?,cnt[i]?,I[i]? with
   | some e,S O,S th=>fS n (jx n G cnt I i) e.p e.q O th
   | _,_,_=>jx n G cnt I i
structure mD (H H2:Hp)(kvs:↥(↥Key×V))(f:nG)(n:Nat):Prop where
 no:∀p q:Int,f p q=Z->bu kvs [.inl p,.inl q]=Z
 yes:∀(p q:Int) col,f p q=S col->↑col=n/\∃c,bu kvs [.inl p,.inl q]=S (.ref c)/\H2 c=S (.lst col)/\H c=Z
 inj:∀(p q p' q':Int) c,bu kvs [.inl p,.inl q]=S (.ref c)->bu kvs [.inl p',.inl q']=S (.ref c)->p=p'/\q=q'
def aaK {p q G I:Int}(h:([.inl p,.inl q]:↥Key)=[.inl G,.inl I]):p=G/\q=I:=by
 injection h with h1 h2
 injection h2 with h2 _
 show⟨Ap h1,Ap h2⟩
def mD.same {H H2 G:Hp}{kvs:↥(↥Key×V)}{f:nG}{n:Nat}(h:mD H H2 kvs f n)(s:ag H2 G):mD H G kvs f n:=⟨h.no,λp q col e=>let⟨l,c,h1,h2,I⟩:=h.yes p q col e;⟨l,c,h1,s _ _ h2,I⟩,h.inj⟩
def mD.put {H H2 O:Hp}{kvs:↥(↥Key×V)}{f:nG}{n:Nat}{p q:Int}{bi:↥Nat}{th:↥V}{c:J}{col:↥V}(h:mD H H2 kvs f n)(hc:(f p q).getD (fQ n .aM)=col)(hl:↑col=n)(e:bu kvs [.inl p,.inl q]=S (.ref c))(nc:H c=Z)(k:Kp c H2 O)(g:O c=S (.lst (kQ col bi th)))  : mD H O kvs (fS n f p q bi th) n:=by
 show⟨λG I z=>?_,λG I xS z=>?_,h.inj⟩
 . unfold fS at z
   split at z
   . cases z
   . show h.no G I z
 . unfold fS at z
   split at z
   . rename_i w
     obtain⟨rfl,rfl⟩:=w
     cases z
     rw[hc]
     show⟨by rw[IP];show hl,c,e,g,nc⟩
   . rename_i w
     obtain⟨l,c',h1,h2,h3⟩:=h.yes G I xS z
     show⟨l,c',h1,k _ _ h2 λz=>w (h.inj G I p q c (z▸h1) e),h3⟩
def MM {n:Nat}{f:nG}{p q:Int}{col:↥V}(h:f p q=S col):fS n f p q [] []=f:=by
 funext G I
 unfold fS
 split
 . rename_i w
   obtain⟨rfl,rfl⟩:=w
   rw[h]
   rfl
 . rfl
def Wb {n:Nat}{f:nG}{p q:Int}{G:↥Nat}{th:↥V}:fS n (fS n f p q [] []) p q G th=fS n f p q G th:=by
 funext I O
 by_cases w:I=p/\O=q
 . obtain⟨rfl,rfl⟩:=w
   simp[fS,kQ]
 . simp[fS,w]
def mD.new {H H2 H3:Hp}{kvs:↥(↥Key×V)}{f:nG}{n:Nat}{p q:Int}{c:J}(h:mD H H2 kvs f n)(hn:f p q=Z)(fresh:H2 c=Z)(nc:H c=Z)(g:H3 c=S (.lst (fQ n .aM)))(s:∀a xs,H2 a=S (.lst xs)->H3 a=S (.lst xs)):mD H H3 (putK kvs [.inl p,.inl q] (.ref c)) (fS n f p q [] []) n:=by
 have old:∀G I:Int,¬ bu kvs [.inl G,.inl I]=S (.ref c):=λG I z=>by
   cases e:f G I with
   | none=>rw[h.no G I e]at z;cases z
   | some col=>
     obtain⟨_,c',h1,h2,_⟩:=h.yes G I col e
     rw[h1]at z
     cases z
     rw[fresh]at h2
     cases h2
 have val:∀G I:Int,bu (putK kvs [.inl p,.inl q] (.ref c)) [.inl G,.inl I]=if G=p/\I=q then S (.ref c)else bu kvs [.inl G,.inl I]:=λG I=>by
   rw[j7]
   by_cases w:G=p/\I=q
   . rw[aB w,aB (by rw[w.1,w.2])]
   . rw[az w,az λz=>w (aaK z)]
 show⟨λG I z=>?_,λG I col z=>?_,λp1 q1 p2 q2 c' z1 O=>?_⟩
 . unfold fS at z
   rw[val]
   split at z
   . cases z
   . rename_i w
     rw[az w]
     show h.no G I z
 . unfold fS at z
   rw[val]
   split at z
   . rename_i w
     rw[hn]at z
     cases z
     rw[aB w]
     show⟨wW,c,U,g,nc⟩
   . rename_i w
     rw[az w]
     obtain⟨l,c',h1,h2,h3⟩:=h.yes G I col z
     show⟨l,c',h1,s _ _ h2,h3⟩
 . rw[val]at z1 O
   by_cases w1:p1=p/\q1=q
   . by_cases w2:p2=p/\q2=q
     . show⟨w1.1.trans w2.1.symm,w1.2.trans w2.2.symm⟩
     . rw[aB w1]at z1
       rw[az w2]at O
       cases z1
       show ao O (old _ _)
   . rw[az w1]at z1
     by_cases w2:p2=p/\q2=q
     . rw[aB w2]at O
       cases O
       show ao z1 (old _ _)
     . rw[az w2]at O
       show h.inj _ _ _ _ _ z1 O
def aaH {n r:Nat}(h:r<n):kN n (r:Int)=S r:=by
 unfold kN
 simp[h]
structure Vh (K:av)(C:J)(H:Hp)(g pa ca ta:J)(b1 b2:ak)(on:↥V)(tz:↥En)(UF:↥J)(cnt:↥(↥Nat))(tas:↥J)(TD:↥(↥V)):Prop where
 gr:oV K C H g b1 b2
 hp:H pa=S (.lst on)
 pe:Paired (Es H) on tz
 hc:H ca=S (.lst (UF.map V.ref))
 pc:Paired (λa bi=>H a=S (.lst (cU bi))) UF cnt
 ht:H ta=S (.lst (tas.map V.ref))
 pt:Paired (λa th=>H a=S (.lst th)) tas TD
 l1:↑cnt=↑tz
 l2:TD.length=↑tz
 ll:∀(i:Nat) bi th,cnt[i]?=S bi->TD[i]?=S th->↑bi=↑th
 lt:∀bi∈cnt,∀r∈bi,r<nR b1 b2
 le:↑tz<=900
 nr:nR b1 b2<=3000
def J9 (K:av)(C:J):Sp:=λvs H Q z=>∃(g pa ca ta:J) (b1 b2:ak) (on:↥V) (G:↥En) (UF:↥J) (cnt:↥(↥Nat)) (I:↥J) (TD:↥(↥V)),vs=[.ref g,.ref pa,.ref ca,.ref ta]/\Vh K C H g pa ca ta b1 b2 on G UF cnt I TD /\
 ∀(O:J) (H':Hp),ag H H'->H O=Z->nO H' O (nR b1 b2) (jx (nR b1 b2) G cnt TD G.length)->Q (.ref O) H'
def rj:bE ["ground","paper","counted","told","columns","entry","rows","things","column","row","thing"] ["ground","paper","counted","told"] (aV Rt):=bP
def ade {C:J}{f:J}{fd:ba}(F:bq K "told_by_places" "told_by_places" Rt f fd)(m_len:mg "len"=Z)(m_zip:mg "zip"=Z):aU P w K mg base bj 1 f fd ["ground","paper","counted","told"] (J9 K C):=by
 show F.bZ rj λim A outer s H vs Q E hr h=>?_
 obtain⟨g,pa,ca,ta,b1,b2,on,tz,UF,cnt,tas,TD,rfl,T,q⟩:=h
 show cK ⟨_,(ajH (ajT 4 rj.nd L3.Fx)
   (ajH (aj8 (L3.G4 U m_zip (L (Y 1) (L (Y 2) (L (Y 3) M)))) (aj1 3 (ajQ (ajK 5 rj.nd) (ajQ (ajK 6 rj.nd) (ajQ (ajK 7 rj.nd) aj2)))) (ajH (ajT 8 rj.nd (L3.WD (cI hr _ ∅) (Y 4) (ajO (L (ajG ajM (Y 5) ajF) (L (ajG ajM (Y 5) ajF) M))) (ajJ L3.P6 (ajW (L akB M)) (aj0 aj5 U m_len eE (L (ajX (Y 0)) M)))))
   (ajI (aj8 (akx U m_zip (L (Y 6) (L (Y 7) M))) (aj1 2 (ajQ (ajK 9 rj.nd) (ajQ (ajK 10 rj.nd) aj2))) (ajI (ako (Y 10) (L3.NF (Y 8) (Y 9))))))))
   (ajI (ajN (Y 4))))),?_⟩
 have vl:=Paired.length T.pe
 have vf:=Paired.length T.pc
 have Kn:=Paired.length T.pt
 have e1:=T.l1
 have e2:=T.l2
 show λwd mU=>?_
 obtain⟨H0,s0,g0,G⟩:=aT mU (.dT [])
 rw[G];clear G
 show bO (aa U (aa U (aa U ⟨pa,ca,aL U ⟨_,af.of (s0 _ _ T.hp)⟩ ⟨⟨_,af.of (s0 _ _ T.hc)⟩,⟨_,af.of (s0 _ _ T.ht)⟩,?_⟩⟩)))
 show Xe (xs:=on) (ys:=UF.map V.ref) (zs:=tas.map V.ref) (by rw[aA];lia) (by rw[aA];lia) (λi σ H2=>(∃o5 o6 o7 o8 o9 v3,σ=[S (.ref g),S (.ref pa),S (.ref ca),S (.ref ta),S (.ref wd),o5,o6,o7,o8,o9,v3])/\ag H H2/\∃kvs,H2 wd=S (.dT kvs)/\↑kvs<=i/\mD H H2 kvs (jx (nR b1 b2) tz cnt TD i) (nR b1 b2)) ⟨⟨_,_,_,_,_,_,U⟩,s0,[],g0,aK _,⟨λt t t=>rfl,(λt t t z=>nomatch z),(λt t t t t z=>nomatch z)⟩⟩ (λi σ H2 t z=>⟨af.of (z.2.1 _ _ T.hp),af.of (z.2.1 _ _ T.hc),af.of (z.2.1 _ _ T.ht)⟩) (λi x y u p σ H2 hx hy hu z yA=>?_) (λσ H2 z=>?_)
 . obtain⟨⟨o5,o6,o7,o8,o9,v3,rfl⟩,s2,kvs,nY,kl,wk⟩:=z
   obtain⟨e,he,cv,wh,wt,⟨en,rfl,qN⟩,_⟩:=Paired.get T.pe hx
   obtain⟨ra,lZ,rfl⟩:=eh hy
   obtain⟨bi,kK,tQ⟩:=Paired.get T.pc lZ
   obtain⟨Dq,aan,rfl⟩:=eh hu
   obtain⟨th,OB,GV⟩:=Paired.get T.pt aan
   have ie:i<↑tz:=(bt he)
   have le:=T.le
   have step:jx (nR b1 b2) tz cnt TD (i+1)=fS (nR b1 b2) (jx (nR b1 b2) tz cnt TD i) e.p e.q bi th:=by
     change(match tz[i]?,cnt[i]?,TD[i]? with|some e,S bi,S th=>fS (nR b1 b2) (jx (nR b1 b2) tz cnt TD i) e.p e.q bi th|_,_,_=>jx (nR b1 b2) tz cnt TD i)=_
     rw[he,kK,OB]
   have rl:=T.ll i bi th kK OB
   have wx:=T.lt bi (bI kK)
   obtain⟨H3,s3,g3,G⟩:=aT yA (.tup [.ref en,.ref ra,.ref Dq])
   rw[G];clear G
   show uA g3 ?_
   replace wk:=wk.same s3
   have Db:=ah s2 s3
   show bW λRk kR=>?_
   have go:∀(H7:Hp) (O:↥(↥Key×V)) (I:J) (col:↥V),ag H H7->H7 wd=S (.dT O)->O.length<=i+1->mD H H7 O (fS (nR b1 b2) (jx (nR b1 b2) tz cnt TD i) e.p e.q [] []) (nR b1 b2)->bu O [.inl e.p,.inl e.q]=S (.ref I)->H I=Z->H7 I=S (.lst col)->(fS (nR b1 b2) (jx (nR b1 b2) tz cnt TD i) e.p e.q [] []) e.p e.q=S col->↑col=nR b1 b2->Rk [S (.ref g),S (.ref pa),S (.ref ca),S (.ref ta),S (.ref wd),S (.ref en),S (.ref ra),S (.ref Dq),S (.ref I),o9,v3] H7:=λH7 O I col s7 w7 k7 wk7 v7 nc g7 fc Bc=>by
     show kR _ _ (aa U (aa U ⟨ra,aL U ⟨_,af.of (s7 _ _ tQ)⟩ ⟨⟨_,af.of (s7 _ _ GV)⟩,?_⟩⟩))
     have Im:ra≠I:=aR tQ nc
     have nth:Dq≠I:=aR GV nc
     show FK (xs:=cU bi) (ys:=th) (by rw[aA];show rl) (λk σ H8=>(∃o9 v3,σ=[S (.ref g),S (.ref pa),S (.ref ca),S (.ref ta),S (.ref wd),S (.ref en),S (.ref ra),S (.ref Dq),S (.ref I),o9,v3])/\Kp I H7 H8/\H8 I=S (.lst (kQ col (bi.take k) (th.take k)))) ⟨⟨_,_,U⟩,Kp.refl _,g7⟩ (λk σ H8 t z=>⟨af.of (z.2.1 _ _ (s7 _ _ tQ) Im),af.of (z.2.1 _ _ (s7 _ _ GV) nth)⟩) (λk x y p σ H8 hx hy z hp=>?_) (λσ H8 z=>?_)
     . obtain⟨⟨p9,p10,rfl⟩,k8,g8⟩:=z
       obtain⟨r,bJ,rfl⟩:=eh hx
       obtain⟨H9,s9,g9,G⟩:=aT hp (.tup [.int (r:Nat),y])
       rw[G];clear G
       show gC g9 ?_
       have lr:r<↑(kQ col (bi.take k) (th.take k)):=by rw[IP,Bc];show wx r (bI bJ)
       show aa U (aa U (aa U ⟨I,_,_,r,U,U,s9 _ _ g8,aaH lr,⟨_,_,U⟩,(k8.same s9).self,?_⟩))
       rw[ai,afM bJ hy]
     . obtain⟨⟨p9,p10,rfl⟩,k8,g8⟩:=z
       rw[aA,cL,rl,cL]at g8
       show⟨⟨_,_,_,_,_,_,U⟩,λa o ea=>k8 _ _ (s7 _ _ ea) λz=>?_,O,k8 _ _ w7 (i6 w7 g7 (λz=>nomatch z)),k7,?_⟩
       . rw[z,nc]at ea;cases ea
       rw[step,← Wb]
       show wk7.put (by rw[fc];rfl) Bc v7 nc k8 g8
   obtain⟨cl,cF,dx,fs,m0,y0,zt,cd,ajc,hg,_,_,_,aba,_,_,_,mS,_,_,_⟩:=id T.gr
   have nr:=T.nr
   show aa U ⟨wd,U,.inr ⟨kvs,.inl (s3 _ _ nY)⟩,?_⟩
   have Ob:=Db _ _ qN
   show aa U (aF Ob U (aa U (aF Ob U ⟨alK,λkt tO=>?_⟩)))
   obtain⟨H4,s4,g4,G⟩:=aT tO (.tup [.int e.p,.int e.q])
   rw[G];clear G
   show⟨alJ,λl0 pI=>?_⟩
   obtain⟨H5,s5,g5,G⟩:=aT pI (.lst [.aM])
   rw[G];clear G
   have IY:=ah s4 s5
   have s05:=ah Db IY
   have ln:↑((cj (nR b1 b2)).map λi:Nat=>V.int i)=nR b1 b2:=by rw[aA,lp]
   show aa U (bY (s05 _ _ hg) cl (cF.get ∅) aba (aw U (.inl (af.of (s05 _ _ mS))) ⟨l0,aw U U ⟨g5,by rw[ln];lia,by rw[ln];lia,?_,λlc BB=>?_⟩⟩))
   . rw[ln]
     show ck (show _<=3000 by change 1*nR b1 b2<=3000;lia) ∅
   rw[ln,gE,List.flatten_replicate_singleton]
   obtain⟨H6,s6,g6,G⟩:=aT BB (.lst (fQ (nR b1 b2) .aM))
   rw[G];clear G
   have s36:=ah IY s6
   have rh:=ah Db s36
   have w6:=s36 _ _ (s3 _ _ nY)
   show⟨kvs,[.inl e.p,.inl e.q],kt,U,w6,s6 _ _ (s5 _ _ g4),gP ⋯,λv hv=>?_,λhv=>?_⟩
   . cases ef:jx (nR b1 b2) tz cnt TD i e.p e.q with
     | none=>rw[wk.no _ _ ef]at hv;cases hv
     | some col=>
       obtain⟨Bc,I,h1,h2,h3⟩:=wk.yes _ _ col ef
       rw[h1]at hv
       cases hv
       show go H6 kvs I col rh w6 ⋯ (by rw[MM ef];show wk.same s36) h1 h3 (s36 _ _ h2) (by rw[MM ef];show ef) Bc
   . have ef:jx (nR b1 b2) tz cnt TD i e.p e.q=Z:=by
       cases ef:jx (nR b1 b2) tz cnt TD i e.p e.q with
       | none=>rfl
       | some col=>
         obtain⟨_,I,h1,_⟩:=wk.yes _ _ col ef
         rw[h1]at hv
         cases hv
     have nw:lc≠wd:=λz=>by rw[z,w6]at g6;cases g6
     have gl:(upd H6 wd (.dT (putK kvs [.inl e.p,.inl e.q] (.ref lc)))) lc=S (.lst (fQ (nR b1 b2) .aM)):=by rw[aC nw];show g6
     show go _ _ lc _ (cD rh mU) ai (by have:=zq kvs ([.inl e.p,.inl e.q]:↥Key) (.ref lc);lia) (wk.new ef (b9 IY BB) (b9 s05 BB) gl λa xs ea=>?_) (by rw[j7,aB rfl]) (b9 s05 BB) gl (by unfold fS;rw[aB ⟨U,U⟩,ef];rfl) wW
     have FD:=s36 _ _ ea
     rw[aC λz=>by rw[z,w6]at FD;cases FD]
     show FD
 obtain⟨⟨o5,o6,o7,o8,o9,v3,rfl⟩,s2,kvs,nY,kl,wk⟩:=z
 rw[vl]at wk
 show aa U (q wd H2 s2 mU ⟨kvs,nY,λp q=>⟨wk.no p q,λcol e=>?_⟩⟩)
 obtain⟨l,c,h1,h2,_⟩:=wk.yes p q col e
 show⟨l,c,h1,h2⟩
abbrev Jp:Stmt:=top 41
abbrev zN (b1 b2:ak)(f:Ef)(bi:↥Nat):↥V:=bi.map λr:Nat=>V.int (f.wait.worth (dM b1 b2 r))
abbrev rE (b1 b2:ak)(es:↥Ef)(cnt:↥(↥Nat)):↥(↥V):=List.zipWith (zN b1 b2) es cnt
structure Vj (K:av)(C:J)(n:Nat)(H:Hp)(g pa ca:J)(b1 b2:ak)(on:↥V)(es:↥Ef)(UF:↥J)(cnt:↥(↥Nat)):Prop where
 gr:oV K C H g b1 b2
 hp:H pa=S (.lst on)
 pe:Paired (f9 H) on es
 hc:H ca=S (.lst (UF.map V.ref))
 pc:Paired (λa bi=>H a=S (.lst (cU bi))) UF cnt
 l1:↑cnt=↑es
 lt:∀bi∈cnt,∀r∈bi,r<nR b1 b2
 cC:∀bi∈cnt,↑bi<=3000
 le:↑es<=900
 nr:nR b1 b2<=3000
 wt:∀f∈es,f.wait.dP/\f.wait.okIn (iH b1 b2)/\f.wait.dep<n
def Kc (K:av)(C:J)(n:Nat):Sp:=λvs H Q z=>∃(g I O:J) (b1 b2:ak) (on:↥V) (es:↥Ef) (UF:↥J) (cnt:↥(↥Nat)),vs=[.ref g,.ref I,.ref O,.int 4]/\Vj K C n H g I O b1 b2 on es UF cnt /\
 ∀(G:J) (H':Hp),ag H H'->H G=Z->nO H' G (nR b1 b2) (jx (nR b1 b2) (es.map (·.e)) cnt (rE b1 b2 es cnt) ↑es)->Q (.ref G) H'
theorem Paired.mapR {α β γ:Type}{F:α->β->Prop}{G:α->γ->Prop}(k:β->γ)(h:∀a b,F a b->G a (k b)):∀{l₁:List α} {l₂:List β},Paired F l₁ l₂->Paired G l₁ (l₂.map k)
 | _,_,.nil=>.nil
 | _,_,.cons a r=>.cons (h _ _ a) (Paired.mapR k h r)
def RL:bE ["ground","paper","counted","part","told"] ["ground","paper","counted","part"] (aV Jp):=bP
def adi {C:J}{n:Nat}{f:J}{fd:ba}(F:bq K "worths_by_places" "worths_by_places" Jp f fd)(O:mg "zip"=Z)(WL:aP P w K mg base "worths_along" ["ground","rows","sum_told"] (n+1) (oB K C n))(TB0:aP P w K mg base "told_by_places" ["ground","paper","counted","told"] 1 (J9 K C)):aU P w K mg base bj (n+2) f fd ["ground","paper","counted","part"] (Kc K C n):=by
 show F.bZ RL λim A outer s H vs Q E hr h=>?_
 obtain⟨g,pa,ca,b1,b2,on,es,UF,cnt,rfl,T,q⟩:=h
 have TB:=TB0.mono (show 1<=n+1 by lia)
 show cK ⟨_,(ajH (akv (i:=4) [Z,Z,S 0,S 3] ["entry","rows","ground","part"] (dq Jp) U (akx U O (L (Y 1) (L (Y 2) M))) (λv v v v v=>⟨(aj1 2 (ajQ (ajK 0 (bM ["entry","rows","ground","part"])) (ajQ (ajK 1 (bM ["entry","rows","ground","part"])) aj2))),aj3,(ajR WL hr U (L (Y 2) (L (Y 1) (L (ajG ajM (Y 0) (Y 3)) M))))⟩) RL.nd)
   (ajI (ajN (ajR TB hr U (L (Y 0) (L (Y 1) (L (Y 2) (L (Y 4) M)))))))),?_⟩
 have vl:=Paired.length T.pe
 have vf:=Paired.length T.pc
 have e1:=T.l1
 have le:=T.le
 show aa U (aa U ⟨pa,aL U ⟨_,af.of T.hp⟩ ⟨⟨_,af.of T.hc⟩,λl hl=>Be (xs:=on) (ys:=UF.map V.ref) (by rw[aA];lia) (λi H2=>∃G:↥J,ag H H2/\H2 l=S (.lst (G.map V.ref))/\Paired (λa th=>H2 a=S (.lst th)/\a≠l) G ((rE b1 b2 es cnt).take i)) ⟨[],aH hl _,ai,.nil⟩ (λi H2 v z=>⟨af.of (z.choose_spec.1 _ _ T.hp),af.of (z.choose_spec.1 _ _ T.hc)⟩) (λi x y p H2 hx hy z yA=>?_) (λH2 z=>?_)⟩⟩)
 . obtain⟨G,I,g2,p2⟩:=z
   obtain⟨f,hf,cv,wv,⟨en,rfl,qN⟩,_,vR⟩:=Paired.get T.pe hx
   obtain⟨ra,lZ,rfl⟩:=eh hy
   obtain⟨bi,kK,tQ⟩:=Paired.get T.pc lZ
   have bC:i<↑on:=(bt hx)
   have tl:=Paired.length p2
   rw[cp]at tl
   obtain⟨H3,s3,g3,zz⟩:=aT yA (.tup [.ref en,.ref ra])
   rw[zz];clear zz
   have Db:=ah I s3
   obtain⟨w1,w2,w3⟩:=T.wt f (bI hf)
   show gC g3 (dW (A:=λH3=>cR _ l _ H3 _) (aa U (aa U (aa U (aa U (aF (Db _ _ qN) U ⟨g,ra,wv,f.wait,bi,b1,b2,U,⟨T.gr.same Db,Db _ _ tQ,T.lt bi (bI kK),T.cC bi (bI kK)⟩,vR.keep (ag.tk Db),w1,w2,w3,λKn H4 s4 n4 g4=>?_⟩))))))
   have wy:=ah s3 s4
   have P0:Kn≠l:=λz=>by rw[z,s3 _ _ g2]at n4;cases n4
   show⟨_,wy _ _ g2,gP (by rw[aA];lia),cO (Pv:=λi H2=>∃G:↥J,ag H H2/\H2 l=S (.lst (G.map V.ref))/\Paired (λa th=>H2 a=S (.lst th)/\a≠l) G ((rE b1 b2 es cnt).take i)) (by repeat' constructor) bC ⟨G++[Kn],cD (ah I wy) hl,by rw[ai,cq];rfl,?_⟩⟩
   have hz:(rE b1 b2 es cnt)[i]?=S (zN b1 b2 f bi):=by rw[DX,hf,kK]
   rw[cV,hz]
   show Paired.snoc (Paired.bc p2 λa th ⟨h1,h2⟩=>⟨?_,h2⟩) ⟨?_,P0⟩
   . rw[aC h2];show wy _ _ h1
   . rw[aC P0];show g4
 obtain⟨G,I,g2,p2⟩:=z
 have zl:↑(rE b1 b2 es cnt)=↑es:=by rw[List.length_zipWith];lia
 rw[nj ⋯]at p2
 show aa U (aa U (aa U (aa U ⟨g,pa,ca,l,b1,b2,on,es.map (·.e),UF,cnt,G,rE b1 b2 es cnt,U,⟨T.gr.same I,I _ _ T.hp,Paired.mapR (·.e) (λv v z=>z) (Paired.bc T.pe λv v z=>(z.keep (ag.tk I)).en),I _ _ T.hc,Paired.bc T.pc λv v z=>I _ _ z,g2,Paired.bc p2 λv v z=>z.1,by rw[aA];show e1,by rw[aA];show zl,λi bi th h1 h2=>?_,T.lt,by rw[aA];show le,T.nr⟩,λwd H' s' nw wa=>q wd H' (ah I s') (b9 I nw) ?_⟩)))
 . rw[DX,h1]at h2
   cases ei:es[i]? with
   | none=>rw[ei]at h2;cases h2
   | some f=>rw[ei]at h2;cases h2;rw[aA]
 . rw[aA]at wa
   show wa
abbrev Rv:Stmt:=dJ 44 0
abbrev QZ:Stmt:=dJ 44 1
section
variable{H H' H0:Hp}{d x:J}{n:Nat}{R:Nat->Tl->Prop}{F:Tl}{v:V}
def gT.gB (h:gT H F v)(k:Kp x H H')(G:∀xs,H x≠S (.lst xs))(nt:∀xs,H x≠S (.tup xs)):gT H' F v:=by
 obtain⟨l,ts,e,h1,h2⟩:=h
 show⟨l,ts,e,k _ _ h1 (λz=>G _ (z▸h1)),Paired.bc h2 λ_ _ ⟨e,I,O⟩=>⟨e,k _ _ I (λz=>nt _ (z▸I)),k _ _ O (λz=>G _ (z▸O))⟩⟩
def dY.gB (h:dY H d n R)(k:Kp x H H')(G:d≠x)(I:∀xs,H x≠S (.lst xs))(nt:∀xs,H x≠S (.tup xs)):dY H' d n R:=by
 obtain⟨O,ps,h1,h2,h3,h4,h5⟩:=h
 show⟨O,ps,k _ _ h1 G,h2,h3,h4,λp v hv=>let⟨F,r,t⟩:=h5 p v hv;⟨F,r,t.gB k I nt⟩⟩
def dY.same (h:dY H d n R)(s:ag H H'):dY H' d n R:=by
 obtain⟨G,ps,h1,h2,I,O,h5⟩:=h
 show⟨G,ps,s _ _ h1,h2,I,O,λp v hv=>let⟨F,r,t⟩:=h5 p v hv;⟨F,r,t.sm (ag.sm s)⟩⟩
def dY.none (h:H d=S (.dK [])):dY H d n R:=⟨[],[],h,rfl,.nil,(λy z=>nomatch z),(λy y z=>nomatch z)⟩
def Sc (c:Ca)(H H':Hp):Prop:=∀a o,H a=S o->a≠c.s1->a≠c.t1->a≠c.s2->a≠c.t2->H' a=S o
def ag.sc {c:Ca}(s:ag H H'):Sc c H H':=λa o e z z z z=>s a o e
def Sc.same {c:Ca}(s:Sc c H0 H)(z:ag H H'):Sc c H0 H':=λa o e n1 n2 n3 G=>z a o (s a o e n1 n2 n3 G)
def Sc.trans {c:Ca}(s:Sc c H0 H)(z:Sc c H H'):Sc c H0 H':=λa o e n1 n2 n3 G=>z a o (s a o e n1 n2 n3 G) n1 n2 n3 G
def Sc.put {c:Ca}{o:HO}(s:Sc c H0 H)(h:H0 x=Z):Sc c H0 (upd H x o):=λa u e n1 n2 n3 G=>by rw[aC (aR e h)];show s a u e n1 n2 n3 G
def Sc.k1 {c:Ca}(s:Sc c H0 H)(k:Kp c.s1 H H'):Sc c H0 H':=λa u e n1 n2 n3 G=>k a u (s a u e n1 n2 n3 G) n1
def Sc.k2 {c:Ca}(s:Sc c H0 H)(k:Kp c.t1 H H'):Sc c H0 H':=λa u e n1 n2 n3 G=>k a u (s a u e n1 n2 n3 G) n2
def Sc.k3 {c:Ca}(s:Sc c H0 H)(k:Kp c.s2 H H'):Sc c H0 H':=λa u e n1 n2 n3 G=>k a u (s a u e n1 n2 n3 G) n3
def Sc.k4 {c:Ca}(s:Sc c H0 H)(k:Kp c.t2 H H'):Sc c H0 H':=λa u e n1 n2 n3 G=>k a u (s a u e n1 n2 n3 G) G
def cu.sm {bs:ak}{ins:↥Str}{cr:↥Nd}(h:cu H v bs ins cr)(s:Sm H H'):cu H' v bs ins cr:=by
 obtain⟨p,B,I,N,G,O,e,hp,hB,hI,hN,pb,pn⟩:=h
 have tk:TK H H':=λb xs e=>s _ _ e (λy z=>nomatch z)
 show⟨p,B,I,N,G,O,e,s _ _ hp (λy z=>nomatch z),s _ _ hB (λy z=>nomatch z),s _ _ hI (λy z=>nomatch z),s _ _ hN (λy z=>nomatch z),Paired.bc pb λy y z=>Tp.keep tk z,Paired.bc pn λy y z=>cB.keep tk z⟩
end
structure cH (H:Hp)(c:Ca)(b1 b2:ak)(n1 n2:↥Nd):Prop where
 nd:c.Nd
 s1:dY H c.s1 ↑n1 (qe b1 n1)
 t1:dY H c.t1 ↑n1 (qd (aE b1))
 s2:dY H c.s2 ↑n2 (qe b2 n2)
 t2:dY H c.t2 ↑n2 (qd (aE b2))
section
variable{H H':Hp}{c:Ca}{b1 b2:ak}{n1 n2:↥Nd}
def cH.same (h:cH H c b1 b2 n1 n2)(s:ag H H'):cH H' c b1 b2 n1 n2:=⟨h.nd,h.s1.same s,h.t1.same s,h.s2.same s,h.t2.same s⟩
def cH.put {C dx x:J}{fs:↥(Str×V)}{o:HO}(h:cH H c b1 b2 n1 n2)(hx:H x=S (.ins C dx fs)):cH (upd H x o) c b1 b2 n1 n2:=by
 have k:Kp x H (upd H x o):=(Kp.refl H).self
 have G:∀xs,H x≠S (.lst xs):=λxs z=>by rw[hx]at z;cases z
 have nt:∀xs,H x≠S (.tup xs):=λxs z=>by rw[hx]at z;cases z
 have I:∀{d:J} {n:Nat} {R:Nat->Tl->Prop},dY H d n R->d≠x:=λ⟨O,_,e,_⟩ z=>by rw[z,hx]at e;cases e
 show⟨h.nd,h.s1.gB k (I h.s1) G nt,h.t1.gB k (I h.t1) G nt,h.s2.gB k (I h.s2) G nt,h.t2.gB k (I h.t2) G nt⟩
def cH.k {d:J}{n:Nat}{R:Nat->Tl->Prop}(h:dY H d n R):∃G,H d=S (.dK G):=by obtain⟨G,_,e,_⟩:=h;show⟨G,e⟩
def cH.ks1 (h:cH H c b1 b2 n1 n2)(k:Kp c.s1 H H')(z:dY H' c.s1 ↑n1 (qe b1 n1)):cH H' c b1 b2 n1 n2:=by
 obtain⟨I,e⟩:=cH.k h.s1
 have G:∀xs,H c.s1≠S (.lst xs):=λxs z=>by rw[e]at z;cases z
 have nt:∀xs,H c.s1≠S (.tup xs):=λxs z=>by rw[e]at z;cases z
 show⟨h.nd,z,h.t1.gB k h.nd.n1.symm G nt,h.s2.gB k h.nd.n2.symm G nt,h.t2.gB k h.nd.n3.symm G nt⟩
def cH.kt1 (h:cH H c b1 b2 n1 n2)(k:Kp c.t1 H H')(z:dY H' c.t1 ↑n1 (qd (aE b1))):cH H' c b1 b2 n1 n2:=by
 obtain⟨I,e⟩:=cH.k h.t1
 have G:∀xs,H c.t1≠S (.lst xs):=λxs z=>by rw[e]at z;cases z
 have nt:∀xs,H c.t1≠S (.tup xs):=λxs z=>by rw[e]at z;cases z
 show⟨h.nd,h.s1.gB k h.nd.n1 G nt,z,h.s2.gB k h.nd.n4.symm G nt,h.t2.gB k h.nd.n5.symm G nt⟩
def cH.ks2 (h:cH H c b1 b2 n1 n2)(k:Kp c.s2 H H')(z:dY H' c.s2 ↑n2 (qe b2 n2)):cH H' c b1 b2 n1 n2:=by
 obtain⟨I,e⟩:=cH.k h.s2
 have G:∀xs,H c.s2≠S (.lst xs):=λxs z=>by rw[e]at z;cases z
 have nt:∀xs,H c.s2≠S (.tup xs):=λxs z=>by rw[e]at z;cases z
 show⟨h.nd,h.s1.gB k h.nd.n2 G nt,h.t1.gB k h.nd.n4 G nt,z,h.t2.gB k h.nd.n6.symm G nt⟩
def cH.kt2 (h:cH H c b1 b2 n1 n2)(k:Kp c.t2 H H')(z:dY H' c.t2 ↑n2 (qd (aE b2))):cH H' c b1 b2 n1 n2:=by
 obtain⟨I,e⟩:=cH.k h.t2
 have G:∀xs,H c.t2≠S (.lst xs):=λxs z=>by rw[e]at z;cases z
 have nt:∀xs,H c.t2≠S (.tup xs):=λxs z=>by rw[e]at z;cases z
 show⟨h.nd,h.s1.gB k h.nd.n3 G nt,h.t1.gB k h.nd.n5 G nt,h.s2.gB k h.nd.n6 G nt,z⟩
end
def Sc.sm {H H':Hp}{c:Ca}{b1 b2:ak}{n1 n2:↥Nd}(s:Sc c H H')(h:cH H c b1 b2 n1 n2):Sm H H':=λa o e n=>by
 have no:∀{d:J} {m:Nat} {R:Nat->Tl->Prop},dY H d m R->a≠d:=λ⟨G,_,I,_⟩ z=>by rw[z,I]at e;show n G (dX e).symm
 show s a o e (no h.s1) (no h.t1) (no h.s2) (no h.t2)
structure xJ (K:av)(CT:J)(H:Hp)(x wd hc:J)(FS:Nat)(al:Bool)(F1 F2:Tl):Prop where
 cl:fB K CT
 na:qC K CT ["width","waits","here","alone","first","second"]
 ex:∃(dx:J) (fs:↥(Str×V)) (v1 v2:V),H x=S (.ins CT dx fs)/\lk fs "width"=S (.int (FS:Nat))/\lk fs "waits"=S (.ref wd)/\lk fs "here"=S (.ref hc)/\lk fs "alone"=S (.bl al)/\lk fs "first"=S v1/\lk fs "second"=S v2/\gT H F1 v1/\gT H F2 v2/\∀f,f∉(["width","waits","here","alone","first","second"]:↥Str)->lk fs f=Z
def xJ.same {G:J}{H H':Hp}{x I hc:J}{O:Nat}{al:Bool}{F1 F2:Tl}(h:xJ K G H x I hc O al F1 F2)(s:ag H H'):xJ K G H' x I hc O al F1 F2:=by
 obtain⟨cl,na,dx,fs,v1,v2,h1,h2,h3,h4,h5,h6,h7,h8,h9,ph⟩:=h
 show⟨cl,na,dx,fs,v1,v2,s _ _ h1,h2,h3,h4,h5,h6,h7,h8.sm (ag.sm s),h9.sm (ag.sm s),ph⟩
abbrev d9 (w:Str)(a b:Str):Bool:=iX (.str w) [.str a,.str b]
def mI (st:Bool)(bs:ak)(cr:↥Nd)(p:Nat)(F:Tl):Prop:=if st=true then qe bs cr p F else qd (aE bs) p F
structure Vi (K:av)(C CS:J)(H:Hp)(g:J)(wd:J)(ev v1 v2:V)(b1 b2:ak)(c:Ca)(ins:↥Str)(n1 n2:↥Nd)(f:Ef)(p q:Nat)(sK bG:Nd)(m1 m2:Int)(wf:Int->Int->Option (↥V))(col:↥V):Prop where
 gr:Gr K C CS H g v1 v2 b1 b2 c
 ca:cH H c b1 b2 n1 n2
 p1:cu H v1 b1 ins n1
 p2:cu H v2 b2 ins n2
 ev:f9 H ev f
 ep:f.e.p=(p:Nat)
 eq:f.e.q=(q:Nat)
 h1:n1[p]?=S sK
 h2:n2[q]?=S bG
 l1:↑n1<=900
 l2:↑n2<=900
 g1:↑(aE b1)<=900
 g2:↑(aE b2)<=900
 s1:d9 f.who "mine" "both"=true->ES H v1 b1 ins n1 p sK m1
 s2:d9 f.who "yours" "both"=true->ES H v2 b2 ins n2 q bG m2
 wa:nO H wd (nR b1 b2) wf
 wc:wf p q=S col
def Kb (K:av)(C CS I:J):Sp:=λvs H Q z=>∃(x dx:J) (H0:Hp) (g G:J) (O v1 v2:V) (b1 b2:ak) (c:Ca) (ins:↥Str) (n1 n2:↥Nd) (f:Ef) (p q:Nat) (sK bG:Nd) (m1 m2:Int) (wf:Int->Int->Option (↥V)) (col:↥V),vs=[.ref x,.ref g,.ref G,O]/\ag H0 H/\H0 x=Z/\H x=S (.ins I dx [])/\Vi K C CS H0 g G O v1 v2 b1 b2 c ins n1 n2 f p q sK bG m1 m2 wf col /\
 ∀(H':Hp) (hc:J) (F1 F2:Tl),Sc c H0 H'->H' hc=S (.lst col)->cH H' c b1 b2 n1 n2->mI (d9 f.who "mine" "both") b1 n1 p F1->mI (d9 f.who "yours" "both") b2 n2 q F2->xJ K I H' x G hc ↑(aE b2) (d9 f.who "mine" "yours") F1 F2->Q .aM H'
def RK:bE ["self","ground","waits","entry","p","q","who"] ["self","ground","waits","entry"] (aV Rv):=bP
def adg {C CS G:J}{f:J}{fd:ba}(F:bq K "__init__" "Turn.__init__" Rv f fd)(ct:uR K mg "Turn" G ["width","waits","here","alone","first","second"])(cs:fB K CS)(SA:gG P w K mg base CS "steps_at" ["self","place"] 26 (J7 K CS))(SY0:gG P w K mg base CS "stays_at" ["self","place"] 1 (J6 K CS)):aU P w K mg base bj 27 f fd ["self","ground","waits","entry"] (Kb K C CS G):=by
 show F.bZ RK λim A outer s H vs Q E hr h=>?_
 obtain⟨x,dx,H0,g,wd,ev,v1,v2,b1,b2,c,ins,n1,n2,⟨⟨fp,fq,fc⟩,I,fw⟩,p,q',sK,bG,m1,m2,wf,col,rfl,s0,nx,hx,T,q⟩:=h
 obtain⟨cv,wv,⟨a,rfl,ha⟩,_,_⟩:=id T.ev
 have ep:fp=(p:Int):=T.ep
 have eq:fq=(q':Int):=T.eq
 subst ep eq
 have ha:H0 a=S (.tup [.int (p:Nat),.int (q':Nat),cv,.str I,wv]):=ha
 have cl:=ct.c
 have na:∀f,f∈(["width","waits","here","alone","first","second"]:↥Str)->jP K G f:=λf hf=>ct.na.get hf
 have SY:=SY0.mono (show 1<=26 by left)
 show cK ⟨_,(ajH (L3.Qc 4 5 6 RK.nd (L (ajG ajM (Y 3) ajF) (L (ajG ajM (Y 3) ajF) (L (ajG ajM (Y 3) ajF) M))))
   (ajH (akg (Y 0) (ajX (Y 1)))
   (ajH (akg (Y 0) (Y 2))
   (ajH (akg (Y 0) (akk (cI hr _ ∅) (Y 2) (ajO (L (Y 4) (L (Y 5) M)))))
   (ajH (akg (Y 0) (akc akt (Y 6) (ajO (L ajL (L ajL M))) U))
   (ajH (akg (Y 0) (L3.BP (ajS akt (Y 6) (ajO (L ajL (L ajL M))) U) (akq (ajX (Y 1)) cs SA hr (L (Y 4) M)) (akq (ajX (Y 1)) cs SY hr (L (Y 4) M))))
   (ajI (akg (Y 0) (L3.BP (ajS akt (Y 6) (ajO (L ajL (L ajL M))) U) (akq (ajX (Y 1)) cs SA hr (L (Y 5) M)) (akq (ajX (Y 1)) cs SY hr (L (Y 5) M))))))))))),?_⟩
 have xP:=T.gr.a.cl
 have yS:=T.gr.a.na
 obtain⟨dg,fg,m,y,rl,cd,kvs,hg,lm,ly,vY,_,_,am,ay,_,_,_,pW,sm,sy⟩:=T.gr.view
 obtain⟨_,_,dm,fm,_,_,hm,_,_,_,_,_,_,nm⟩:=id sm
 obtain⟨_,_,dy,fy,_,_,hy,_,_,_,_,_,_,ny⟩:=id sy
 have IG:p<↑n1:=(bt T.h1)
 have IQ:q'<↑n2:=(bt T.h2)
 have y0:Sc c H0 H:=ag.sc s0
 have z0:=y0.sm T.ca
 have c0:=T.ca.same s0
 show aa U (aF (s0 _ _ ha) U (aa U (aF (s0 _ _ ha) U (aa U (aF (s0 _ _ ha) U ⟨_,_,aa U ?_⟩)))))
 dsimp only
 show bW λRk kR=>aa U (bY (s0 _ _ hg) xP (yS.get ∅) vY (aa U ⟨x,G,dx,[],U,hx,cl,na _ ∅,∅,?_⟩))
 obtain⟨f1,e1,l1,w1,k1⟩:=ji "width" (.int (↑(aE b2):Nat)) (fs:=[]) (aK 0)
 rw[e1]
 have y1:Sc c H0 (upd H x (.ins G dx f1)):=y0.put nx
 have c1:cH (upd H x (.ins G dx f1)) c b1 b2 n1 n2:=c0.put hx
 have x1:(upd H x (.ins G dx f1)) x=S (.ins G dx f1):=ai
 generalize upd H x (.ins G dx f1)=H1 at y1 c1 x1 ⊢
 have z1:=y1.sm T.ca
 show kR _ _ (bW λRk kR=>aa U (aa U ⟨x,G,dx,f1,U,x1,cl,na _ ∅,⋯,?_⟩))
 obtain⟨f2,e2,l2,w2,k2⟩:=ji "waits" (.ref wd) l1
 rw[e2]
 have y2:Sc c H0 (upd H1 x (.ins G dx f2)):=y1.put nx
 have c2:cH (upd H1 x (.ins G dx f2)) c b1 b2 n1 n2:=c1.put x1
 have x2:(upd H1 x (.ins G dx f2)) x=S (.ins G dx f2):=ai
 generalize upd H1 x (.ins G dx f2)=H2 at y2 c2 x2 ⊢
 have z2:=y2.sm T.ca
 show kR _ _ (bW λRk kR=>?_)
 obtain⟨kw,mU,wok⟩:=id T.wa
 obtain⟨_,hc,hv,FM⟩:=(wok (p:Int) (q':Int)).2 col T.wc
 show aa U (aa U (aL U alK (λkt tO=>?_)))
 have s3:ag H2 (upd H2 kt (.tup [.int (p:Nat),.int (q':Nat)])):=aH tO _
 have g3:=dN.t (k:=([.inl (p:Int),.inl (q':Int)]:↥Key)) (s3 _ _ (z2 _ _ mU (λv z=>nomatch z))) ai
 rw[hv]at g3
 replace x2:=s3 _ _ x2
 replace y2:=y2.same s3
 replace c2:=c2.same s3
 show⟨wd,aa U ⟨g3,?_⟩⟩
 generalize upd H2 kt (.tup [.int (p:Nat),.int (q':Nat)])=AM at x2 y2 c2 s3 ⊢
 have z2:=y2.sm T.ca
 show aa U ⟨x,G,dx,f2,U,x2,cl,na _ ∅,⋯,?_⟩
 obtain⟨f3,e3,l3,w3,k3⟩:=ji "here" (.ref hc) l2
 rw[e3]
 have y3:Sc c H0 (upd AM x (.ins G dx f3)):=y2.put nx
 have c3:cH (upd AM x (.ins G dx f3)) c b1 b2 n1 n2:=c2.put x2
 have x3:(upd AM x (.ins G dx f3)) x=S (.ins G dx f3):=ai
 generalize upd AM x (.ins G dx f3)=H3 at y3 c3 x3 ⊢
 have z3:=y3.sm T.ca
 show kR _ _ (bW λRk kR=>aL U alK (λtt fO=>(aw U (.inr (bQ.of ai)) ⟨U,U,?_⟩)))
 have s4:=aH fO (.tup [.str "mine",.str "yours"])
 replace x3:=s4 _ _ x3
 replace y3:=y3.same s4
 replace c3:=c3.same s4
 generalize upd H3 tt (.tup [.str "mine",.str "yours"])=xD at x3 y3 c3 s4 ⊢
 have z3:=y3.sm T.ca
 show aa U ⟨x,G,dx,f3,U,x3,cl,na _ ∅,⋯,?_⟩
 obtain⟨f4,e4,l4,w4,k4⟩:=ji "alone" (.bl (d9 I "mine" "yours")) l3
 change Rk _ (upd xD x (.ins G dx (gN "alone" (.bl (d9 I "mine" "yours")) f3)))
 rw[e4]
 have y4:Sc c H0 (upd xD x (.ins G dx f4)):=y3.put nx
 have c4:cH (upd xD x (.ins G dx f4)) c b1 b2 n1 n2:=c3.put x3
 have x4:(upd xD x (.ins G dx f4)) x=S (.ins G dx f4):=ai
 generalize upd xD x (.ins G dx f4)=H4 at y4 c4 x4 ⊢
 have z4:=y4.sm T.ca
 show kR _ _ (bW λRk kR=>?_)
 have Nz:∀(H5:Hp) (F1:Tl) (u1:V),Sc c H0 H5->cH H5 c b1 b2 n1 n2->H5 x=S (.ins G dx f4)->mI (d9 I "mine" "both") b1 n1 p F1->gT H5 F1 u1->Rk [S (.ref x),S (.ref g),S (.ref wd),S (.ref a),S (.int (p:Nat)),S (.int (q':Nat)),S (.str I)] (upd H5 x (.ins G dx (gN "first" u1 f4))):=λH5 F1 u1 y5 c5 x5 r1 t1=>by
   obtain⟨f5,e5,l5,w5,k5⟩:=ji "first" u1 l4
   rw[e5]
   show kR _ _ ?_
   have t6:gT (upd H5 x (.ins G dx f5)) F1 u1:=t1.gB (x:=x) (Kp.refl H5).self (λv z=>by rw[x5]at z;cases z) (λv z=>by rw[x5]at z;cases z)
   have y6:Sc c H0 (upd H5 x (.ins G dx f5)):=y5.put nx
   have c6:cH (upd H5 x (.ins G dx f5)) c b1 b2 n1 n2:=c5.put x5
   have x6:(upd H5 x (.ins G dx f5)) x=S (.ins G dx f5):=ai
   generalize upd H5 x (.ins G dx f5)=H6 at y6 c6 x6 t6 ⊢
   have z6:=y6.sm T.ca
   have go2:∀(O:Hp) (F2:Tl) (u2:V),Sc c H0 O->cH O c b1 b2 n1 n2->O x=S (.ins G dx f5)->mI (d9 I "yours" "both") b2 n2 q' F2->gT O F1 u1->gT O F2 u2->Q .aM (upd O x (.ins G dx (gN "second" u2 f5))):=λO F2 u2 y7 c7 x7 r2 t7 t8=>by
     obtain⟨f6,e6,l6,w6,k6⟩:=ji "second" u2 l5
     rw[e6]
     have nl:∀xs,O x≠S (.lst xs):=λv z=>by rw[x7]at z;cases z
     have nt:∀xs,O x≠S (.tup xs):=λv z=>by rw[x7]at z;cases z
     have y8:Sc c H0 (upd O x (.ins G dx f6)):=y7.put nx
     show q _ hc F1 F2 y8 (y8.sm T.ca _ _ FM (λv z=>nomatch z)) (c7.put x7) r1 r2 ⟨cl,ct.na,dx,f6,u1,u2,ai,?_,?_,?_,?_,?_,w6,t7.gB (x:=x) (Kp.refl O).self nl nt,t8.gB (x:=x) (Kp.refl O).self nl nt,λf hf=>?_⟩
     . rw[k6 _ ∅,k5 _ ∅,k4 _ ∅,k3 _ ∅,k2 _ ∅];show w1
     . rw[k6 _ ∅,k5 _ ∅,k4 _ ∅,k3 _ ∅];show w2
     . rw[k6 _ ∅,k5 _ ∅,k4 _ ∅];show w3
     . rw[k6 _ ∅,k5 _ ∅];show w4
     . rw[k6 _ ∅];show w5
     . rw[k6 _ (λz=>hf (by rw[z];simp)),k5 _ (λz=>hf (by rw[z];simp)),k4 _ (λz=>hf (by rw[z];simp)),k3 _ (λz=>hf (by rw[z];simp)),k2 _ (λz=>hf (by rw[z];simp)),k1 _ (λz=>hf (by rw[z];simp))];rfl
   show aL U alK (λtt fO=>(aw U (.inr (bQ.of ai)) ⟨U,aN U U ?_⟩))
   have s6:=aH fO (.tup [.str "yours",.str "both"])
   replace x6:=s6 _ _ x6
   replace y6:=y6.same s6
   replace c6:=c6.same s6
   replace t6:=t6.sm (ag.sm s6)
   generalize upd H6 tt (.tup [.str "yours",.str "both"])=LW at x6 y6 c6 t6 s6 ⊢
   have z6:=y6.sm T.ca
   show aG (λe=>?_) (λe=>?_)
   . replace e:d9 I "yours" "both"=true:=e
     have sp:=T.s2 e
     have kk:∃ks,LW c.s2=S (.dK ks):=cH.k c6.s2
     obtain⟨ks,pH⟩:=kk
     show aa U ⟨g,C,dg,fg,aa U ⟨z6 _ _ hg (λv z=>nomatch z),xP,yS.get ∅,ly,y,dy,fy,U,z6 _ _ hy (λv z=>nomatch z),ny _ ∅,aa U ⟨y,v2,c.s2,c.t2,b2,ins,n2,↑n2,q',bG,m2,U,sy.sm z6,ay.sm z6,T.g2,T.l2,IQ,⟨sp.pa.sm z6,sp.ndn,sp.len,sp.sz,sp.here,sp.gd,sp.nf⟩,c6.s2,λO u2 F2 k7 nP r7 uw=>?_⟩⟩⟩
     have x7:=k7 _ _ x6 (λz=>by rw[z,pH]at x6;cases x6)
     show aa U ⟨x,G,dx,f5,U,x7,cl,na _ ∅,⋯,go2 O F2 u2 (y6.k3 k7) (c6.ks2 k7 nP) x7 (by unfold mI;rw[aB e];show r7) (t6.sm (k7.sm pH)) uw⟩
   . replace e:¬ d9 I "yours" "both"=true:=e
     have kk:∃ks,LW c.t2=S (.dK ks):=cH.k c6.t2
     obtain⟨ks,pH⟩:=kk
     show aa U ⟨g,C,dg,fg,aa U ⟨z6 _ _ hg (λv z=>nomatch z),xP,yS.get ∅,ly,y,dy,fy,U,z6 _ _ hy (λv z=>nomatch z),ny _ ∅,aa U ⟨y,v2,aE b2,c.s2,c.t2,↑n2,q',U,sy.sm z6,ay.sm z6,T.g2,T.l2,IQ,c6.t2,λO u2 F2 k7 nP r7 uw=>?_⟩⟩⟩
     have x7:=k7 _ _ x6 (λz=>by rw[z,pH]at x6;cases x6)
     show aa U ⟨x,G,dx,f5,U,x7,cl,na _ ∅,⋯,go2 O F2 u2 (y6.k4 k7) (c6.kt2 k7 nP) x7 (by unfold mI;rw[az e];show r7) (t6.sm (k7.sm pH)) uw⟩
 show aL U alK (λtt fO=>(aw U (.inr (bQ.of ai)) ⟨U,aN U U ?_⟩))
 have s6:=aH fO (.tup [.str "mine",.str "both"])
 replace x4:=s6 _ _ x4
 replace y4:=y4.same s6
 replace c4:=c4.same s6
 generalize upd H4 tt (.tup [.str "mine",.str "both"])=LV at x4 y4 c4 s6 ⊢
 have z4:=y4.sm T.ca
 show aG (λe=>?_) (λe=>?_)
 . replace e:d9 I "mine" "both"=true:=e
   have sp:=T.s1 e
   have kk:∃ks,LV c.s1=S (.dK ks):=cH.k c4.s1
   obtain⟨ks,pH⟩:=kk
   show aa U ⟨g,C,dg,fg,aa U ⟨z4 _ _ hg (λv z=>nomatch z),xP,yS.get ∅,lm,m,dm,fm,U,z4 _ _ hm (λv z=>nomatch z),nm _ ∅,aa U ⟨m,v1,c.s1,c.t1,b1,ins,n1,↑n1,p,sK,m1,U,sm.sm z4,am.sm z4,T.g1,T.l1,IG,⟨sp.pa.sm z4,sp.ndn,sp.len,sp.sz,sp.here,sp.gd,sp.nf⟩,c4.s1,λO u2 F2 k7 nP r7 uw=>?_⟩⟩⟩
   have x7:=k7 _ _ x4 (λz=>by rw[z,pH]at x4;cases x4)
   show aa U ⟨x,G,dx,f4,U,x7,cl,na _ ∅,⋯,Nz O F2 u2 (y4.k1 k7) (c4.ks1 k7 nP) x7 (by unfold mI;rw[aB e];show r7) uw⟩
 . replace e:¬ d9 I "mine" "both"=true:=e
   have kk:∃ks,LV c.t1=S (.dK ks):=cH.k c4.t1
   obtain⟨ks,pH⟩:=kk
   show aa U ⟨g,C,dg,fg,aa U ⟨z4 _ _ hg (λv z=>nomatch z),xP,yS.get ∅,lm,m,dm,fm,U,z4 _ _ hm (λv z=>nomatch z),nm _ ∅,aa U ⟨m,v1,aE b1,c.s1,c.t1,↑n1,p,U,sm.sm z4,am.sm z4,T.g1,T.l1,IG,c4.t1,λO u2 F2 k7 nP r7 uw=>?_⟩⟩⟩
   have x7:=k7 _ _ x4 (λz=>by rw[z,pH]at x4;cases x4)
   show aa U ⟨x,G,dx,f4,U,x7,cl,na _ ∅,⋯,Nz O F2 u2 (y4.k2 k7) (c4.kt1 k7 nP) x7 (by unfold mI;rw[az e];show r7) uw⟩
def vc (wf:Int->Int->Option (↥V))(O:Nat)(al:Bool)(h:Int)(G I:↥Int×Int×Nat):Option (Int×Int×Nat):=
 if h<0 then Z else if G.1=I.1 then
   match wf G.2.1 I.2.1 with
   | none=>Z
   | some col=>match col.getD (G.2.2*O+I.2.2) .aM with
     | .int w=>if al=true/\h<=w then Z else S (G.2.1,I.2.1,G.2.2*O+I.2.2)
     | _=>Z
 else Z
def NumV (wf:Int->Int->Option (↥V)):Prop:=∀p q col,wf p q=S col->∀v∈col,v=.aM\/∃w,v=.int w
def JN (K:av)(CT:J):Sp:=λvs H Q z=>∃(x wd hc:J) (O G n:Nat) (al:Bool) (F1 F2:Tl) (wf:Int->Int->Option (↥V)) (col:↥V) (h:Int) (I x2:↥Int×Int×Nat),vs=[.ref x,.int (O:Nat)]/\xJ K CT H x wd hc G al F1 F2/\nO H wd n wf/\NumV wf/\H hc=S (.lst col)/\col[O]?=S (.int h)/\F1[O/G]?=S I/\F2[O%G]?=S x2/\0<G/\G<=900/\I.2.2<=900/\I.2.2*G+x2.2.2<n /\
 (vc wf G al h I x2=Z->∀H',ag H H'->Q .aM H')/\∀p q r,vc wf G al h I x2=S (p,q,r)->∀(H':Hp) (t k:J),ag H H'->H' t=S (.tup [.ref k,.int (r:Nat)])->H' k=S (.tup [.int p,.int q])->Q (.ref t) H'
def qc:bE ["self","row","said","p","mine_number","heard","q","yours_number","there","wait"] ["self","row"] (aV QZ):=bP
def acs {CT:J}{f:J}{fd:ba}(F:bq K "behind" "Turn.behind" QZ f fd)  : aU P w K mg base bj 1 f fd ["self","row"] (JN K CT):=by
 show F.bZ qc λim A outer s H vs Q E hr h=>?_
 obtain⟨x,wd,hc,rc,O,n,al,F1,F2,wf,col,h0,x1,x2,rfl,⟨cl,cF,dx,fs,v1,v2,hx,Ig,Pe,O6,lal,lf,ls,⟨l1,ts1,rfl,EQ,pt1⟩,⟨l2,ts2,rfl,wP,i7⟩,_⟩,⟨kvs,mU,wok⟩,nv,Of,l7,fe,tU,w0,w9,T2,hin,I,q1⟩:=h
 obtain⟨wn,p,i1⟩:=x1
 obtain⟨Gd,G,j1⟩:=x2
 obtain⟨t1,GQ,e1,GR,yf⟩:=Paired.vq pt1 fe
 obtain⟨t2,GS,e2,GU,yh⟩:=Paired.vq i7 tU
 replace T2:i1<=900:=T2
 replace GR:H t1=S (.tup [.ref e1,.int p,.int (i1:Nat)]):=GR
 replace GU:H t2=S (.tup [.ref e2,.int G,.int (j1:Nat)]):=GU
 replace yf:H e1=S (.lst (wn.map V.int)):=yf
 replace yh:H e2=S (.lst (Gd.map V.int)):=yh
 replace hin:i1*O+j1<n:=hin
 show cK ⟨_,(ajH (ako (ajG ajP (ajX (Y 0)) (ajJ aki (Y 1) (ajX (Y 0)))) (aj1 3 (ajQ (ajK 2 qc.nd) (ajQ (ajK 3 qc.nd) (ajQ (ajK 4 qc.nd) aj2)))))
   (ajH (ako (ajG ajP (ajX (Y 0)) (ajJ ajY (Y 1) (ajX (Y 0)))) (aj1 3 (ajQ (ajK 5 qc.nd) (ajQ (ajK 6 qc.nd) (ajQ (ajK 7 qc.nd) aj2)))))
   (ajH (ajU (akm (akj (ajS akh (ajG ajP (ajX (Y 0)) (Y 1)) ajF) (akj (ajS (L3.v5 (m:=2) (cI hr _ ∅)) (Y 2) (Y 5)) (aks (L3.Bi (cI hr _ ∅) (ajO (L (Y 3) (L (Y 6) M))) (ajX (Y 0))))))) (ajI (ajN akB)) ajV)
   (ajH (ajT 8 qc.nd (ajJ aj7 (ajJ akd (Y 4) (ajX (Y 0))) (Y 7)))
   (ajH (ajT 9 qc.nd (ajG ajP (akk (cI hr _ ∅) (ajX (Y 0)) (ajO (L (Y 3) (L (Y 6) M)))) (Y 8)))
   (ajH (ajU (akm (akj (ajS L3.P5 (Y 9) akB) (aks (akm (L3.E3 (akp (ajX (Y 0))) (L3.E2 (ajS L3.zb (Y 9) (ajG ajP (ajX (Y 0)) (Y 1))))))))) (ajI (ajN akB)) ajV)
   (ajI (ajN (ajO (L (ajO (L (Y 3) (L (Y 6) M))) (L (Y 8) M))))))))))),?_⟩
 have w9':((O:Nat):Int)<=900:=⋯
 have YF:de (ts1.map V.ref) ((rc/O:Nat):Int)=S (.ref t1):=gH (by rw[eI,GQ];rfl)
 have YG:de (ts2.map V.ref) ((rc%O:Nat):Int)=S (.ref t2):=gH (by rw[eI,GS];rfl)
 show aa U (bY hx cl (cF.get ∅) lf (aa U (aa U (bY hx cl (cF.get ∅) Ig ?_))))
 show aw U U ⟨⟨⋯,KY (show((O:Nat):Int)<901 by lia) (by right)⟩,aX EQ YF (uA GR (aa U (bY hx cl (cF.get ∅) ls (aa U (aa U (bY hx cl (cF.get ∅) Ig (aw U U ⟨⋯,aX wP YG (uA GU ?_)⟩)))))))⟩
 unfold vc at I q1
 show aa U (bY hx cl (cF.get ∅) O6 (aa U (aX Of (gH l7) (aw U U (aa U (aG (λc=>?_) (λc=>?_)))))))
 . have c':h0<0:=bw c
   rw[aB c']at I
   show oh (I rfl H (same_refl H))
 have c':¬ h0<0:=λz=>c (bS z)
 rw[az c']at I q1
 show aa U (aa U ⟨_,RB.ints yf yh,aa U (aG (λc=>?_) (λc=>?_))⟩)
 . have cs:¬ wn=Gd:=by simpa using c
   rw[az cs]at I
   show oh (I rfl H (same_refl H))
 have cs:wn=Gd:=by simpa using c
 rw[aB cs]at I q1
 show aa U (aL U alK (λkt tO=>?_))
 have s3:ag H (upd H kt (.tup [.int p,.int G])):=aH tO _
 have g3:=dN.t (k:=([.inl p,.inl G]:↥Key)) (s3 _ _ mU) ai
 show aa U (bY (s3 _ _ hx) cl (cF.get ∅) Pe ⟨wd,aa U ⟨g3,aa U ?_⟩⟩)
 generalize upd H kt (.tup [.int p,.int G])=H3 at s3 ⊢
 cases ef:wf p G with
 | none=>
   rw[(wok p G).1 ef]
   show oh ?_
   have I:=I (by change(match wf p G with|none=>Z|some col=>_)=Z;rw[ef])
   show I _ s3
 | some c0=>
   obtain⟨lc0,cc,hv,kI⟩:=(wok p G).2 c0 ef
   rw[hv]
   show mV ?_
   have eb:(match wf p G with
     | none=>Z
     | some col=>match col.getD (i1*O+j1) .aM with
       | .int w=>if al=true/\h0<=w then Z else S (p,G,i1*O+j1)
       | _=>Z:Option (Int×Int×Nat))=(match c0.getD (i1*O+j1) .aM with
       | .int w=>if al=true/\h0<=w then Z else S (p,G,i1*O+j1)
       | _=>Z):=by rw[ef]
   replace I:=λz=>I (eb.trans z)
   replace q1:=λa b c z=>q1 a b c (eb.trans z)
   have eL:c0[i1*O+j1]?=S (c0.getD (i1*O+j1) .aM):=by rw[eR,bB ⋯];rfl
   show aa U (aa U (bY (s3 _ _ hx) cl (cF.get ∅) Ig (bF U U (.inl ⟨⋯,⋯⟩) (aa U (aw U U (bO (aa U (bY (s3 _ _ hx) cl (cF.get ∅) Pe (aa U (aL U alK (λk2 nY=>?_)))))))))))
   have s4:ag H3 (upd H3 k2 (.tup [.int p,.int G])):=aH nY _
   have g4:=dN.t (k:=([.inl p,.inl G]:↥Key)) (s4 _ _ (s3 _ _ mU)) ai
   rw[hv]at g4
   show⟨wd,aa U ⟨g4,aa U ?_⟩⟩
   show aX (s4 _ _ (s3 _ _ kI)) (show de c0 ((i1*O+j1:Nat):Int)=_ from gH eL) ?_
   generalize upd H3 k2 (.tup [.int p,.int G])=H4 at s4 ⊢
   have s04:=ah s3 s4
   show bO ?_
   rcases nv p G c0 ef _ (bI eL)with ev|⟨w0,ev⟩
   . rw[ev]at I ⊢
     show aa U (aN U U (oh (oh (I rfl _ s04))))
   . rw[ev]at I q1 ⊢
     show aa U (aN U U (mV ?_))
     replace I:=λ(z:al=true/\h0<=w0)=>I (show(if al=true/\h0<=w0 then Z else S (p,G,i1*O+j1))=Z from aB z)
     replace q1:=λ(z:¬ (al=true/\h0<=w0))=>q1 p G (i1*O+j1) (show(if al=true/\h0<=w0 then Z else S (p,G,i1*O+j1))=S (p,G,i1*O+j1)from az z)
     show aa U (bY (s04 _ _ hx) cl (cF.get ∅) lal (aa U (aG (λc=>?_) (λc=>?_))))
     . show aa U (aa U (bY (s04 _ _ hx) cl (cF.get ∅) O6 (aa U (aX (s04 _ _ Of) (gH l7) (aw U U (aa U (aG (λd=>?_) (λd=>?_))))))))
       . show I ⟨c,bw d⟩ _ s04
       . show aa U (aL U alK (λkk Gn=>(aL U alK (λtt fO=>q1 (λz=>d (bS z.2)) _ tt kk (ah s04 (bR (aH Gn _) fO)) ai (by rw[aC (aR ai fO)];show ai)))))
     . show aa U (aL U alK (λkk Gn=>(aL U alK (λtt fO=>q1 (λz=>c z.1) _ tt kk (ah s04 (bR (aH Gn _) fO)) ai (by rw[aC (aR ai fO)];show ai)))))
abbrev Q5:Stmt:=top 45
abbrev QX:Stmt:=top 48
structure lL (bs:ak)(cr:↥Nd)(m:Int):Prop where
 nd:(bs.map (·.1)).Nodup
 len:↑bs<=900
 sz:∀b∈bs,1<=b.2
 gd:∀nd∈cr,nd.good (·∈bs.map (·.1)) m 19
 nl:↑cr<=900
 gl:↑(aE bs)<=900
structure xH (K:av)(C CS:J)(H:Hp)(g wd:J)(v1 v2:V)(b1 b2:ak)(c:Ca)(ins:↥Str)(n1 n2:↥Nd)(m1 m2:Int)(wf:Int->Int->Option (↥V)):Prop where
 gr:Gr K C CS H g v1 v2 b1 b2 c
 ca:cH H c b1 b2 n1 n2
 p1:cu H v1 b1 ins n1
 p2:cu H v2 b2 ins n2
 o1:lL b1 n1 m1
 o2:lL b2 n2 m2
 wa:nO H wd (nR b1 b2) wf
 nv:NumV wf
def xH.sc {C CS:J}{H H':Hp}{g G:J}{v1 v2:V}{b1 b2:ak}{c:Ca}{ins:↥Str}{n1 n2:↥Nd}{I O:Int}{wf:Int->Int->Option (↥V)}(h:xH K C CS H g G v1 v2 b1 b2 c ins n1 n2 I O wf)(s:Sc c H H')(ca:cH H' c b1 b2 n1 n2):xH K C CS H' g G v1 v2 b1 b2 c ins n1 n2 I O wf:=
 have z:=s.sm h.ca
 ⟨h.gr.sm z,ca,h.p1.sm z,h.p2.sm z,h.o1,h.o2,h.wa.sm z,h.nv⟩
def pd (st:Bool)(bs:ak)(nd:Nd)(p i:Nat)(x:↥Int×Int×Nat):Prop:=if st=true then ∃ws,iy bs (wA (aE bs) i) nd=S (x.1,x.2.1,ws)/\(aE bs)[x.2.2]?=S ws else x=([],(p:Int),i)
def pd.uniq {st:Bool}{bs:ak}{nd:Nd}{p i:Nat}{x y:↥Int×Int×Nat}(h:pd st bs nd p i x)(k:pd st bs nd p i y):x=y:=by
 unfold pd at h k
 by_cases e:st=true
 . rw[aB e]at h k
   obtain⟨ws,h1,h2⟩:=h
   obtain⟨G,k1,k2⟩:=k
   rw[h1]at k1
   injection k1 with k1
   injection k1 with I k1
   injection k1 with O a3
   subst a3
   obtain⟨x1,x2,x3⟩:=x
   obtain⟨y1,y2,y3⟩:=y
   have e3:x3=y3:=Cf (xX _) h2 k2
   have e1:x1=y1:=I
   have e2:x2=y2:=O
   rw[e1,e2,e3]
 . rw[az e]at h k
   rw[h,k]
def mI.at {st:Bool}{bs:ak}{cr:↥Nd}{nd:Nd}{p i:Nat}{F:Tl}(h:mI st bs cr p F)(O:cr[p]?=S nd)(hi:i<↑(aE bs)):∃x,F[i]?=S x/\pd st bs nd p i x/\x.2.2<↑(aE bs):=by
 unfold mI at h
 unfold pd
 by_cases e:st=true
 . rw[aB e]at h
   obtain⟨nd',G,pr⟩:=h
   rw[O]at G
   cases G
   have I:(aE bs)[i]?=S (aE bs)[i]:=bB hi
   obtain⟨x,hx,ws,h1,h2⟩:=Paired.get pr I
   show⟨x,hx,?_,(bt h2)⟩
   rw[aB e,lh I]
   show⟨ws,h1,h2⟩
 . rw[az e]at h
   have h:F=_:=h
   subst h
   show⟨([],(p:Int),i),by rw[eI,uJ hi];rfl,?_,hi⟩
   rw[az e]
def xK (b1 b2:ak)(wf:Int->Int->Option (↥V))(f:Ef)(p q:Nat)(G I:Nd)(col:↥V)(r:Nat):Prop:=i9 (dz G) (dz I) f.who=true/\∃O x2 h,pd (d9 f.who "mine" "both") b1 G p (r/↑(aE b2)) O/\pd (d9 f.who "yours" "both") b2 I q (r%↑(aE b2)) x2/\col[r]?=S (.int h)/\(vc wf ↑(aE b2) (d9 f.who "mine" "yours") h O x2).isSome=true
def Pn {w a b:Str}:d9 w a b=true↔w=a\/w=b:=by
 change iX (.str w) [.str a,.str b]=true↔_
 simp only[iX,qm,DQ,DE,Bool.or_eq_true]
 have e:∀x:Str,eK (.str x) (.str w)=true↔w=x:=λx=>⟨λh=>(show x=w by simpa[eK]using h).symm,λh=>by subst h;simp[eK]⟩
 rw[e,e]
def Pu (nd:Nd):dz nd="put"\/dz nd="say"\/dz nd="test"\/dz nd="end":=by
 cases nd
 . show .inl rfl
 . show .inr (.inl rfl)
 . show .inr (.inr (.inl rfl))
 . show .inr (.inr (.inr rfl))
def ahn {I G:Nd}{w:Str}(h:i9 (dz I) (dz G) w=true)(m:d9 w "mine" "both"=true):I≠.fin:=λe=>by
 subst e
 have h:i9 "end" (dz G) w=true:=h
 rcases Pn.mp m with rfl|rfl<;>rcases Pu G with e|e|e|e<;>rw[e]at h<;>revert h<;>decide
def aho {G I:Nd}{w:Str}(h:i9 (dz G) (dz I) w=true)(m:d9 w "yours" "both"=true):I≠.fin:=λe=>by
 subst e
 have h:i9 (dz G) "end" w=true:=h
 rcases Pn.mp m with rfl|rfl<;>rcases Pu G with e|e|e|e<;>rw[e]at h<;>revert h<;>decide
def JS (K:av)(C CS:J):Sp:=λvs H Q z=>∃(g I O:J) (ev v1 v2:V) (b1 b2:ak) (c:Ca) (ins:↥Str) (n1 n2:↥Nd) (m1 m2:Int) (wf:Int->Int->Option (↥V)) (f:Ef) (p q:Nat) (sK bG:Nd) (col:↥V) (G:↥Nat),vs=[.ref g,.ref I,ev,.ref O]/\xH K C CS H g I v1 v2 b1 b2 c ins n1 n2 m1 m2 wf/\f9 H ev f/\f.e.p=(p:Nat)/\f.e.q=(q:Nat)/\n1[p]?=S sK/\n2[q]?=S bG/\wf p q=S col/\H O=S (.lst (cU G))/\(∀r∈G,r<nR b1 b2/\∃h,col[r]?=S (.int h)) /\
 ∀(b:Bool) (H':Hp),Sc c H H'->cH H' c b1 b2 n1 n2->(b=true↔∀r∈G,xK b1 b2 wf f p q sK bG col r)->Q (.bl b) H'
def Jv:bE ["ground","waits","entry","rows","turn","row"] ["ground","waits","entry","rows"] (aV Q5):=bP
def acA {C CS CT:J}{f:J}{fd:ba}(F:bq K "entry_well" "entry_well" Q5 f fd)(ct:fB K CT)(O:mg "len"=Z)(FT0:aP P w K mg base "turn_fits" ["ground","entry"] 2 (Ka K C CS))(TU:nH P w K mg base "Turn" CT ["self","ground","waits","entry"] 27 (Kb K C CS CT))(BH0:gG P w K mg base CT "behind" ["self","row"] 1 (JN K CT)):aU P w K mg base bj 29 f fd ["ground","waits","entry","rows"] (JS K C CS):=by
 show F.bZ Jv λim A outer s H vs Q E G h=>?_
 obtain⟨g,wd,ra,ev,v1,v2,b1,b2,c,ins,n1,n2,m1,m2,wf,f,p,q',sK,bG,col,bi,rfl,T,Od,ep,eq,h1,h2,hwf,lZ,kK,q⟩:=h
 have FT:=FT0.mono (show 2<=28 by left)
 have BH:=BH0.mono (show 1<=28 by left)
 show cK ⟨_,(ajH (ajU (ajS ajZ (aj0 aj5 U O eE (L (Y 3) M)) ajF) (ajI (ajN aj9)) ajV)
   (ajH (ajU (akw (akp (ajR FT G U (L (Y 0) (L (Y 2) M))))) (ajI (ajN aj9)) ajV)
   (ajH (ajT 4 Jv.nd (akM TU G U (L (Y 0) (L (Y 1) (L (Y 2) M)))))
   (ajH (aj8 (aj4 (Y 3)) (ajK 5 Jv.nd) (ajI (ajU (ajS L3.P5 (akq (Y 4) ct BH G (L (Y 5) M)) akB) (ajI (ajN aj9)) ajV)))
   (ajI (ajN aj9)))))),?_⟩
 show aa U (aw U (.inl (af.of lZ)) (aN U U (aG (λe=>?_) (λe=>?_))))
 . have e0:bi=[]:=by
     rw[aA]at e
     simpa using e
   subst e0
   show q true H (ag.sc (same_refl H)) T.ca ⟨λy r G=>(nomatch G),λy=>rfl⟩
 show aa U (aa U ⟨g,ev,v1,v2,b1,b2,c,ins,n1,n2,f,p,q',sK,bG,U,T.gr,T.p1,T.p2,Od,ep,eq,h1,h2,aa U (aG (λe2=>?_) (λe2=>?_))⟩)
 . have oZ:¬ i9 (dz sK) (dz bG) f.who=true:=by simpa using e2
   show q false H (ag.sc (same_refl H)) T.ca ⟨λz=>(nomatch z),λall=>?_⟩
   cases bi with
   | nil=>show ao U e
   | cons r rs=>show ao (all r oK).1 oZ
 have oZ:i9 (dz sK) (dz bG) f.who=true:=by simpa using e2
 have IG:p<↑n1:=(bt h1)
 have IQ:q'<↑n2:=(bt h2)
 show aa U (aa U (aa U (λx dx nx vZ ne=>⟨x,dx,H,g,wd,ev,v1,v2,b1,b2,c,ins,n1,n2,f,p,q',sK,bG,m1,m2,wf,col,U,cD (aH vZ _) nx,nx,ai,⟨T.gr,T.ca,T.p1,T.p2,Od,ep,eq,h1,h2,T.o1.nl,T.o2.nl,T.o1.gl,T.o2.gl,(λm=>⟨T.p1,T.o1.nd,T.o1.len,T.o1.sz,h1,T.o1.gd _ (bI h1),ahn oZ m⟩),(λm=>⟨T.p2,T.o2.nd,T.o2.len,T.o2.sz,h2,T.o2.gd _ (bI h2),aho oZ m⟩),T.wa,hwf⟩,λH' hc F1 F2 y' FM Mx r1 r2 tu=>⟨U,bO ?_⟩⟩)))
 have z':=y'.sm T.ca
 have wa':=T.wa.sm z'
 show aa U (aL U ⟨_,af.of (z' _ _ lZ (λy z=>nomatch z))⟩ ?_)
 show nS (xs:=cU bi) (λi σ H2=>(∃o,σ=[S (.ref g),S (.ref wd),S ev,S (.ref ra),S (.ref x),o])/\ag H' H2/\∀r∈bi.take i,xK b1 b2 wf f p q' sK bG col r) ⟨⟨_,U⟩,same_refl _,(λr G=>by rw[wZ]at G;cases G)⟩ (λi σ H2 y z=>af.of (z.2.1 _ _ (z' _ _ lZ (λy z=>nomatch z)))) (λi x0 σ H2 qW z=>?_) (λσ H2 z=>?_)
 . obtain⟨⟨o,rfl⟩,I,ok⟩:=z
   obtain⟨r,bJ,rfl⟩:=eh qW
   obtain⟨wx,h0,Gh⟩:=kK r (bI bJ)
   have w2:0<↑(aE b2):=Al λz=>by unfold nR at wx;rw[z,Ak]at wx;show ao wx (oM _)
   obtain⟨x1,fe,g1,l1⟩:=r1.at h1 (show r/↑(aE b2)<↑(aE b1) from D5 (by rw[xb];show wx))
   obtain⟨x2,tU,g2,l2⟩:=r2.at h2 (D6 r w2)
   have gl1:=T.o1.gl
   have X3:=T.o2.gl
   have Tr:=tu.same I
   obtain⟨_,_,WE,Xm,_,_,hxx,_,_,_,_,_,_,_,_,nn⟩:=id Tr
   have inn:x1.2.2*↑(aE b2)+x2.2.2<nR b1 b2:=by
     have h3:(x1.2.2+1)*↑(aE b2)<=↑(aE b1)*↑(aE b2):=D7 _ l1
     rw[uL]at h3
     change _<↑(aE b1)*↑(aE b2)
     lia
   show bO (aa U ⟨x,WE,Xm,U,hxx,nn _ ∅,aa U ⟨x,wd,hc,r,↑(aE b2),nR b1 b2,_,F1,F2,wf,col,h0,x1,x2,U,Tr,wa'.sm (ag.sm I),T.nv,I _ _ FM,Gh,fe,tU,w2,X3,⋯,inn,λe H3 s3=>(aN U U ?_),λpp qq rr e H3 tt kk s3 y y=>(aN U U ?_)⟩⟩)
   . show aG (λy=>?_) (λc=>ao (bS rfl) c)
     have s23:=ah I s3
     show q false H3 (y'.same s23) (Mx.same s23) ⟨λz=>(nomatch z),λall=>?_⟩
     obtain⟨_,y1,y2,h3,k1,k2,k3,k4⟩:=all r (bI bJ)
     rw[k1.uniq g1,k2.uniq g2]at k4
     rw[Gh]at k3
     cases k3
     rw[e]at k4
     cases k4
   . show aG (λc=>ao (bw c) (λz=>nomatch z)) (λy=>⟨⟨_,U⟩,ah I s3,λr0 gM=>?_⟩)
     rw[cV,bJ]at gM
     rcases eT gM with z|z
     . show ok r0 z
     . rw[dv z]
       show⟨oZ,x1,x2,h0,g1,g2,Gh,by rw[e];rfl⟩
 . obtain⟨⟨o,rfl⟩,I,ok⟩:=z
   rw[aA,cL]at ok
   show q true H2 (y'.same I) (Mx.same I) ⟨λy=>ok,λy=>rfl⟩
def my.uniq {b1 b2:ak}{ins:↥Str}{r:↥Int}{k G:Nat}(h:my b1 b2 ins r k)(h':my b1 b2 ins r G):k=G:=by
 obtain⟨i,j,h1,h2,rfl⟩:=h
 obtain⟨i',j',I,O,rfl⟩:=h'
 rw[Cf (xX _) h1 I,Cf (xX _) h2 O]
def LM (b1 b2:ak)(ins:↥Str)(wf:Int->Int->Option (↥V)):Prop:=∃col,wf 0 0=S col/\∀ws∈cm (ins.map (cb b1)),∀k,my b1 b2 ins ws k->col.getD k .aM≠.aM
def VC {b1 b2:ak}{ins:↥Str}{O:↥Nat}{col:↥V}(p:Paired (my b1 b2 ins) (cm (ins.map (cb b1))) O):((O.map λr=>!decide (col.getD r .aM=.aM)).all id)=true↔∀ws∈cm (ins.map (cb b1)),∀k,my b1 b2 ins ws k->col.getD k .aM≠.aM:=by
 rw[wR]
 constructor
 . intro h ws G k hk
   obtain⟨i,hi⟩:=j9 G
   obtain⟨k',ym,I⟩:=Paired.get p hi
   rw[hk.uniq I]
   have:=h _ (d7 ⟨k',bI ym,rfl⟩)
   simpa using this
 . intro h x hx
   obtain⟨r,hr,rfl⟩:=du hx
   obtain⟨i,hi⟩:=j9 hr
   obtain⟨ws,G,I⟩:=Paired.vq p hi
   have:=h ws (bI G) r I
   simpa using this
def LS (b1 b2:ak)(n1 n2:↥Nd)(wf:Int->Int->Option (↥V))(f:Ef)(G:↥Nat):Prop:=∃p q I O col,f.e.p=((p:Nat):Int)/\f.e.q=((q:Nat):Int)/\n1[p]?=S I/\n2[q]?=S O/\wf p q=S col/\∀r∈G,r<nR b1 b2/\∃h,col[r]?=S (.int h)
def AJ (b1 b2:ak)(n1 n2:↥Nd)(wf:Int->Int->Option (↥V))(f:Ef)(O:↥Nat):Prop:=∀p q G I col,f.e.p=((p:Nat):Int)->f.e.q=((q:Nat):Int)->n1[p]?=S G->n2[q]?=S I->wf p q=S col->∀r∈O,xK b1 b2 wf f p q G I col r
def R3 (K:av)(C CS:J):Sp:=λvs H Q z=>∃(g G:J) (v1 v2:V) (b1 b2:ak) (c:Ca) (ins:↥Str) (n1 n2:↥Nd) (f:Int->Int->Option (↥V)),vs=[.ref g,.ref G]/\Gr K C CS H g v1 v2 b1 b2 c/\u5 H v1 v2 b1 b2 ins n1 n2/\nO H G (nR b1 b2) f/\∀(b:Bool) (H':Hp),ag H H'->(b=true↔LM b1 b2 ins f)->Q (.bl b) H'
def VI {C CS:J}{vs:↥V}{H:Hp}{Q:VK}{E:XK}(h:R3 K C CS vs H Q E):C0 K C CS vs H Q E:=by
 obtain⟨g,O,v1,v2,b1,b2,c,ins,n1,n2,f,rfl,gr,pr,wa,q⟩:=h
 show⟨g,O,v1,v2,b1,b2,c,ins,n1,n2,f,U,gr,pr,wa,λe H1 I=>q false H1 I ⟨λz=>(nomatch z),λ⟨col,G,_⟩=>by rw[e]at G;cases G⟩,λcol e bi H1 I pb=>q _ H1 I ((VC pb).trans ⟨λh=>⟨col,e,h⟩,λ⟨xS,G,h⟩=>by rw[e]at G;cases G;show h⟩)⟩
structure UU (K:av)(C CS:J)(H:Hp)(g pa ca wd:J)(v1 v2:V)(b1 b2:ak)(c:Ca)(ins:↥Str)(n1 n2:↥Nd)(m1 m2:Int)(wf:Int->Int->Option (↥V))(on:↥V)(es:↥Ef)(UF:↥J)(cnt:↥(↥Nat)):Prop where
 p:xH K C CS H g wd v1 v2 b1 b2 c ins n1 n2 m1 m2 wf
 r:u5 H v1 v2 b1 b2 ins n1 n2
 hp:H pa=S (.lst on)
 pe:Paired (f9 H) on es
 hc:H ca=S (.lst (UF.map V.ref))
 pc:Paired (λa bi=>H a=S (.lst (cU bi))) UF cnt
 l1:↑cnt=↑es
 ef:∀(i:Nat) f bi,es[i]?=S f->cnt[i]?=S bi->LS b1 b2 n1 n2 wf f bi
def LX (b1 b2:ak)(ins:↥Str)(n1 n2:↥Nd)(wf:Int->Int->Option (↥V))(es:↥Ef)(cnt:↥(↥Nat)):Prop:=LM b1 b2 ins wf/\∀(i:Nat) f G,es[i]?=S f->cnt[i]?=S G->AJ b1 b2 n1 n2 wf f G
def JK (K:av)(C CS:J):Sp:=λvs H Q z=>∃(g G I O:J) (v1 v2:V) (b1 b2:ak) (c:Ca) (ins:↥Str) (n1 n2:↥Nd) (m1 m2:Int) (wf:Int->Int->Option (↥V)) (on:↥V) (es:↥Ef) (UF:↥J) (cnt:↥(↥Nat)),vs=[.ref g,.ref G,.ref I,.ref O]/\UU K C CS H g G I O v1 v2 b1 b2 c ins n1 n2 m1 m2 wf on es UF cnt /\
 ∀(b:Bool) (H':Hp),Sc c H H'->(b=true↔LX b1 b2 ins n1 n2 wf es cnt)->Q (.bl b) H'
def Jt:bE ["ground","paper","counted","waits","entry","rows"] ["ground","paper","counted","waits"] (aV QX):=bP
def acn {C CS:J}{f:J}{fd:ba}(F:bq K "all_well" "all_well" QX f fd)(I:mg "zip"=Z)(BW0:aP P w K mg base "begins_well" ["ground","waits"] 4 (C0 K C CS))(EW:aP P w K mg base "entry_well" ["ground","waits","entry","rows"] 29 (JS K C CS)):aU P w K mg base bj 30 f fd ["ground","paper","counted","waits"] (JK K C CS):=by
 show F.bZ Jt λim A outer s H vs Q E hr h=>?_
 obtain⟨g,pa,ca,wd,v1,v2,b1,b2,c,ins,n1,n2,m1,m2,wf,on,es,UF,cnt,rfl,T,q⟩:=h
 have BW:=(BW0.imp (sp':=R3 K C CS) λv v v v h=>VI h).mono (show 4<=29 by left)
 show cK ⟨_,(ajH (ajU (akw (akp (ajR BW hr U (L (Y 0) (L (Y 3) M))))) (ajI (ajN aj9)) ajV)
   (ajH (aj8 (akx U I (L (Y 1) (L (Y 2) M))) (aj1 2 (ajQ (ajK 4 Jt.nd) (ajQ (ajK 5 Jt.nd) aj2))) (ajI (ajU (akw (akp (ajR EW hr U (L (Y 0) (L (Y 3) (L (Y 4) (L (Y 5) M))))))) (ajI (ajN aj9)) ajV)))
   (ajI (ajN aj9)))),?_⟩
 have vl:=Paired.length T.pe
 have vf:=Paired.length T.pc
 have e1:=T.l1
 show aa U (aa U ⟨g,wd,v1,v2,b1,b2,c,ins,n1,n2,wf,U,T.p.gr,T.r,T.p.wa,λbb H1 s1 eb=>(aa U (aG (λO=>?_) (λO=>?_)))⟩)
 . have nb:¬ bb=true:=by simpa using O
   show q false H1 (ag.sc s1) ⟨λz=>(nomatch z),λz=>ao (eb.mpr z.1) nb⟩
 have yb:bb=true:=by simpa using O
 show aa U (aa U ⟨pa,aL U ⟨_,af.of (s1 _ _ T.hp)⟩ ⟨⟨_,af.of (s1 _ _ T.hc)⟩,FK (xs:=on) (ys:=UF.map V.ref) (by rw[aA];lia) (λi σ H2=>(∃o4 o5,σ=[S (.ref g),S (.ref pa),S (.ref ca),S (.ref wd),o4,o5])/\Sc c H H2/\cH H2 c b1 b2 n1 n2/\∀k,k<i->∀f G,es[k]?=S f->cnt[k]?=S G->AJ b1 b2 n1 n2 wf f G) ⟨⟨_,_,U⟩,ag.sc s1,T.p.ca.same s1,λk hk=>ao hk (oM _)⟩ (λi σ H2 v z=>⟨af.of (z.2.1.sm T.p.ca _ _ T.hp (λv z=>nomatch z)),af.of (z.2.1.sm T.p.ca _ _ T.hc (λv z=>nomatch z))⟩) (λi x y p σ H2 hx hy z yA=>?_) (λσ H2 z=>?_)⟩⟩)
 . obtain⟨⟨o4,o5,rfl⟩,y2,c2,ok⟩:=z
   obtain⟨f,hf,Y1⟩:=Paired.get T.pe hx
   obtain⟨ra,lZ,rfl⟩:=eh hy
   obtain⟨G,kK,tQ⟩:=Paired.get T.pc lZ
   obtain⟨pp,qq,sK,bG,col,ep,eq,h1,h2,hw,bJ⟩:=T.ef i f G hf kK
   obtain⟨H3,s3,g3,zz⟩:=aT yA (.tup [x,.ref ra])
   rw[zz];clear zz
   have y3:=y2.same s3
   have c3:=c2.same s3
   have z3:=y3.sm T.p.ca
   show gC g3 (aa U (aa U (aa U (aa U ⟨g,wd,ra,x,v1,v2,b1,b2,c,ins,n1,n2,m1,m2,wf,f,pp,qq,sK,bG,col,G,U,T.p.sc y3 c3,Y1.keep (λb xs e=>z3 _ _ e (λv z=>nomatch z)),ep,eq,h1,h2,hw,z3 _ _ tQ (λv z=>nomatch z),bJ,λb H4 y4 c4 WH=>(aa U ?_)⟩))))
   have ew:b=true↔AJ b1 b2 n1 n2 wf f G:=WH.trans ⟨λh p' q' d1 d2 cl a1 a2 a3 a4 a5 r hr=>by
     rw[ep]at a1
     rw[eq]at a2
     obtain rfl:pp=p':=zX a1
     obtain rfl:qq=q':=zX a2
     rw[h1]at a3
     rw[h2]at a4
     rw[hw]at a5
     cases a3
     cases a4
     cases a5
     show h r hr,λh=>h pp qq sK bG col ep eq h1 h2 hw⟩
   show aG (λO=>?_) (λO=>?_)
   . have nb:¬ b=true:=by simpa using O
     show q false H4 (y3.trans y4) ⟨λz=>(nomatch z),λz=>ao (ew.mpr (z.2 i f G hf kK)) nb⟩
   . have yb:b=true:=by simpa using O
     show⟨⟨_,_,U⟩,y3.trans y4,c4,λk hk f' afY Gf gM=>?_⟩
     by_cases ek:k=i
     . subst ek
       rw[hf]at Gf
       rw[kK]at gM
       cases Gf
       cases gM
       show ew.mp yb
     . show ok k ⋯ f' afY Gf gM
 . obtain⟨⟨o4,o5,rfl⟩,y2,c2,ok⟩:=z
   show q true H2 y2 ⟨λv=>⟨eb.mp yb,λi f G hf gM=>ok i (by rw[vl];show(bt hf)) f G hf gM⟩,λv=>rfl⟩
def df (es:↥Ef)(W:Str->Str->Int)(p q:Int):Option Ef:=es.find? λf=>kP f.e p q&&f.e.c.holds W
def Mu (es:↥Ef)(f:Ef)(W:Str->Str->Int)(p q:Int):df (es++[f]) W p q=match df es W p q with
   | some g=>S g
   | none=>if(kP f.e p q&&f.e.c.holds W)=true then S f else Z:=by
 unfold df
 rw[DT]
 cases es.find? (λf=>kP f.e p q&&f.e.c.holds W)with
 | some g=>rfl
 | none=>
   rw[Option.none_or,qo]
   cases(kP f.e p q&&f.e.c.holds W)<;>rfl
theorem Qv (g:Nat->V):∀(G:↥Nat) (col:↥V) (r:Nat),r<↑col->(kQ col G (G.map g))[r]?=if r∈G then S (g r)else col[r]?
 | [],col,r,_=>by rw[az (λh=>nomatch h)];rfl
 | a::G,col,r,h=>by
   change(kQ (col.set a (g a)) G (G.map g))[r]?=_
   rw[Qv g G (col.set a (g a)) r (by rw[uK];show h)]
   by_cases m:r∈G
   . rw[aB m,aB (dS (.inr m))]
   . rw[az m,DV]
     by_cases e:a=r
     . subst e
       rw[aB rfl,aB oK,aB h]
     . rw[az e,az λz=>(dG z).elim (λz=>e z.symm) m]
def wV (b1 b2:ak)(es:↥Ef)(p q:Int)(r:Nat):V:=match df es (dM b1 b2 r) p q with
 | some f=>.int (f.wait.worth (dM b1 b2 r))
 | none=>.aM
def xR {b1 b2:ak}{es:↥Ef}{f:Ef}{r:Nat}:r∈iI b1 b2 (es.map (·.e)) f.e↔r<nR b1 b2/\df es (dM b1 b2 r) f.e.p f.e.q=Z/\f.e.c.holds (dM b1 b2 r)=true:=by
 unfold iI jh df
 rw[Lc,Lc,List.mem_range,List.find?_eq_none]
 constructor
 . rintro⟨⟨h1,h2⟩,G⟩
   show⟨h1,λg I z=>?_,G⟩
   have:((es.map (·.e)).any λe=>kP e f.e.p f.e.q&&pK b1 b2 e.c r)=true:=List.any_eq_true.mpr ⟨g.e,d7 ⟨g,I,rfl⟩,z⟩
   rw[this]at h2
   cases h2
 . rintro⟨h1,h2,G⟩
   show⟨⟨h1,?_⟩,G⟩
   rw[Bool.not_eq_true']
   show Bool.eq_false_iff.mpr λz=>?_
   obtain⟨e,O,z⟩:=List.any_eq_true.mp z
   obtain⟨g,I,rfl⟩:=du O
   show h2 g I z
theorem MI (b1 b2:ak):∀(xs done:↥En) (i:Nat) (e:En),xs[i]?=S e->(lO b1 b2 done xs)[i]?=S (iI b1 b2 (done++xs.take i) e)
 | [],_,i,e,h=>by cases h
 | x::xs,done,0,e,h=>by
   cases h
   change S (iI b1 b2 done x)=_
   rw[wZ,jJ]
 | x::xs,done,i+1,e,h=>by
   change(lO b1 b2 (done++[x]) xs)[i]?=_
   rw[MI b1 b2 xs _ i e h,List.take_succ_cons,z7]
   rfl
abbrev ku (b1 b2:ak)(es:↥Ef):↥(↥Nat):=lO b1 b2 [] (es.map (·.e))
def xQ {b1 b2:ak}{es:↥Ef}{i:Nat}{f:Ef}(h:es[i]?=S f):(ku b1 b2 es)[i]?=S (iI b1 b2 ((es.take i).map (·.e)) f.e):=by
 rw[show ku b1 b2 es=lO b1 b2 [] (es.map (·.e))from rfl,MI b1 b2 _ _ i f.e (by rw[eI,h];rfl),Le,K9]
abbrev fu (b1 b2:ak)(es:↥Ef)(i:Nat):nG:=jx (nR b1 b2) (es.map (·.e)) (ku b1 b2 es) (rE b1 b2 es (ku b1 b2 es)) i
def ahJ {b1 b2:ak}{es:↥Ef}{i:Nat}{f:Ef}(h:es[i]?=S f):fu b1 b2 es (i+1)=fS (nR b1 b2) (fu b1 b2 es i) f.e.p f.e.q (iI b1 b2 ((es.take i).map (·.e)) f.e) (zN b1 b2 f (iI b1 b2 ((es.take i).map (·.e)) f.e)):=by
 change(match(es.map (·.e))[i]?,(ku b1 b2 es)[i]?,(rE b1 b2 es (ku b1 b2 es))[i]? with
   | some e,S G,S th=>fS (nR b1 b2) (fu b1 b2 es i) e.p e.q G th
   | _,_,_=>fu b1 b2 es i)=_
 rw[DX,xQ h,eI,h]
 rfl
theorem TV (b1 b2:ak)(es:↥Ef)(p q:Int):∀i,i<=↑es->((∀f∈es.take i,¬ (f.e.p=p/\f.e.q=q))/\fu b1 b2 es i p q=Z)\/((∃f∈es.take i,f.e.p=p/\f.e.q=q)/\∃col,fu b1 b2 es i p q=S col/\↑col=nR b1 b2/\∀r,r<nR b1 b2->col[r]?=S (wV b1 b2 (es.take i) p q r))
 | 0,_=>.inl ⟨λf hf=>by rw[wZ]at hf;(cases hf),rfl⟩
 | i+1,h=>by
   have hi:es[i]?=S es[i]:=bB h
   have et:es.take (i+1)=es.take i++[es[i]]:=by rw[cV,hi];rfl
   generalize es[i]=f at hi et
   rw[ahJ hi]
   have ih:=TV b1 b2 es p q i ⋯
   have Wa:fS (nR b1 b2) (fu b1 b2 es i) f.e.p f.e.q (iI b1 b2 ((es.take i).map (·.e)) f.e) (zN b1 b2 f (iI b1 b2 ((es.take i).map (·.e)) f.e)) p q=if p=f.e.p/\q=f.e.q then S (kQ ((fu b1 b2 es i f.e.p f.e.q).getD (fQ (nR b1 b2) .aM)) (iI b1 b2 ((es.take i).map (·.e)) f.e) (zN b1 b2 f (iI b1 b2 ((es.take i).map (·.e)) f.e)))else fu b1 b2 es i p q:=rfl
   rw[Wa,et]
   by_cases c:p=f.e.p/\q=f.e.q
   . rw[aB c]
     obtain⟨rfl,rfl⟩:=c
     show .inr ⟨⟨f,i5 (.inr (List.mem_singleton.mpr rfl)),U,U⟩,aa U ?_⟩
     have old:∃col,(fu b1 b2 es i f.e.p f.e.q).getD (fQ (nR b1 b2) .aM)=col/\↑col=nR b1 b2/\∀r,r<nR b1 b2->col[r]?=S (wV b1 b2 (es.take i) f.e.p f.e.q r):=by
       rcases ih with⟨no,e⟩|⟨_,col,e,l,G⟩
       . show⟨_,by rw[e];rfl,wW,λr I=>?_⟩
         have:df (es.take i) (dM b1 b2 r) f.e.p f.e.q=Z:=List.find?_eq_none.mpr λg O z=>by
           rw[j8]at z
           show no g O (bw z.1)
         unfold wV
         rw[this,K5,aB I]
       . show⟨col,by rw[e];rfl,l,G⟩
     obtain⟨col,e,l,G⟩:=old
     rw[e]
     show⟨by rw[IP,l],λr I=>?_⟩
     rw[Qv (λr=>V.int (f.wait.worth (dM b1 b2 r))) _ col r (by rw[l];show I)]
     unfold wV
     rw[Mu]
     by_cases m:r∈iI b1 b2 ((es.take i).map (·.e)) f.e
     . rw[aB m]
       obtain⟨_,h2,h3⟩:=xR.mp m
       rw[h2]
       change _=S (match(if(kP f.e f.e.p f.e.q&&f.e.c.holds (dM b1 b2 r))=true then S f else Z)with
         | some f=>V.int (f.wait.worth (dM b1 b2 r))
         | none=>V.aM)
       rw[h3,aB (by rw[Bool.and_true];show bS ⟨rfl,rfl⟩)]
     . rw[az m,G r I]
       unfold wV
       cases e2:df (es.take i) (dM b1 b2 r) f.e.p f.e.q with
       | some g=>rfl
       | none=>
         have h3:f.e.c.holds (dM b1 b2 r)=false:=by
           cases h3:f.e.c.holds (dM b1 b2 r)with
           | false=>rfl
           | true=>show ao (xR.mpr ⟨I,e2,h3⟩) m
         change _=S (match(if(kP f.e f.e.p f.e.q&&f.e.c.holds (dM b1 b2 r))=true then S f else Z)with
           | some f=>V.int (f.wait.worth (dM b1 b2 r))
           | none=>V.aM)
         rw[h3,zS,az ∅]
   . rw[az c]
     have c':¬ (f.e.p=p/\f.e.q=q):=λz=>c ⟨z.1.symm,z.2.symm⟩
     have same:∀r,wV b1 b2 (es.take i++[f]) p q r=wV b1 b2 (es.take i) p q r:=λr=>by
       unfold wV
       rw[Mu]
       cases df (es.take i) (dM b1 b2 r) p q with
       | some g=>rfl
       | none=>
         have:kP f.e p q=false:=fU c'
         rw[this,wO,az ∅]
     rcases ih with⟨no,e⟩|⟨⟨g,O,eg⟩,col,e,l,G⟩
     . show .inl ⟨λg O=>?_,e⟩
       rcases eT O with z|z
       . show no g z
       . rw[dv z];show c'
     . show .inr ⟨⟨g,i5 (.inl O),eg⟩,col,e,l,λr I=>by rw[same];show G r I⟩
def Ks (b1 b2:ak)(es:↥Ef)(p q:Int):((∀f∈es,¬ (f.e.p=p/\f.e.q=q))/\fu b1 b2 es ↑es p q=Z)\/((∃f∈es,f.e.p=p/\f.e.q=q)/\∃col,fu b1 b2 es ↑es p q=S col/\↑col=nR b1 b2/\∀r,r<nR b1 b2->col[r]?=S (wV b1 b2 es p q r)):=by
 have:=TV b1 b2 es p q ↑es (aK _)
 rw[cL]at this
 show this
def ahI {b1 b2:ak}{es:↥Ef}{p q:Int}(h:fu b1 b2 es ↑es p q=Z)(W:Str->Str->Int):df es W p q=Z:=by
 rcases Ks b1 b2 es p q with⟨no,_⟩|⟨_,col,e,_⟩
 . show List.find?_eq_none.mpr λg G z=>?_
   rw[j8]at z
   show no g G (bw z.1)
 . rw[h]at e;cases e
def zO {b1 b2:ak}{es:↥Ef}{p q:Int}{col:↥V}(h:fu b1 b2 es ↑es p q=S col):↑col=nR b1 b2/\∀r,r<nR b1 b2->col[r]?=S (wV b1 b2 es p q r):=by
 rcases Ks b1 b2 es p q with⟨_,e⟩|⟨_,G,e,l⟩
 . rw[h]at e;cases e
 . rw[h]at e;cases e;show l
def Kt {b1 b2:ak}{es:↥Ef}{f:Ef}(h:f∈es):∃col,fu b1 b2 es ↑es f.e.p f.e.q=S col:=by
 rcases Ks b1 b2 es f.e.p f.e.q with⟨no,_⟩|⟨_,col,e,_⟩
 . show ao ⟨U,U⟩ (no f h)
 . show⟨col,e⟩
def ab9 (b1 b2:ak)(es:↥Ef):NumV (fu b1 b2 es ↑es):=λp q col e v hv=>by
 obtain⟨l,G⟩:=zO e
 obtain⟨r,I⟩:=j9 hv
 have:=G r (by rw[← l];show(bt I))
 rw[I]at this
 unfold wV at this
 cases O:df es (dM b1 b2 r) p q with
 | some f=>rw[O]at this;show .inr ⟨_,dX this⟩
 | none=>rw[O]at this;show .inl (dX this)
def xN {es:↥Ef}{W:Str->Str->Int}{p q:Int}{f:Ef}(h:df es W p q=S f):f.e.p=p/\f.e.q=q/\f∈es/\∃i,es[i]?=S f/\f.e.c.holds W=true/\df (es.take i) W p q=Z:=by
 unfold df at h
 obtain⟨G,as,bs,e,no⟩:=List.find?_eq_some_iff_append.mp h
 rw[j8]at G
 obtain⟨a,b⟩:=bw (show decide (f.e.p=p/\f.e.q=q)=true from G.1)
 show⟨a,b,by rw[e];simp,↑as,by rw[e];simp,G.2,?_⟩
 unfold df
 rw[List.find?_eq_none,e]
 intro x hx
 rw[List.take_left'  rfl]at hx
 have:=no x hx
 intro z
 rw[z]at this
 cases this
def MK {b1 b2:ak}{es:↥Ef}{i:Nat}{f:Ef}{r:Nat}(h:es[i]?=S f)(G:r∈iI b1 b2 ((es.take i).map (·.e)) f.e):r<nR b1 b2/\df es (dM b1 b2 r) f.e.p f.e.q=S f:=by
 obtain⟨h1,h2,I⟩:=xR.mp G
 show⟨h1,?_⟩
 have e:es=es.take i++(f::es.drop (i+1)):=by
   obtain⟨O,hf⟩:=List.getElem?_eq_some_iff.mp h
   rw[← hf,List.getElem_cons_drop,Lh]
 unfold df at h2 ⊢
 rw[e,DT,h2]
 rw[Option.none_or,qo,show kP f.e f.e.p f.e.q=true from bS ⟨rfl,rfl⟩,I]
 rfl
def j6 (b:ak)(mm:Bool)(p:Int)(m:↥Int)(nd:Nd):Option (↥Int×Int×↥Int):=if mm=true then S ([],p,m)else iy b m nd
def oW (b1 b2:ak)(n1 n2:↥Nd)(es:↥Ef)(f:Ef)(m y:↥Int):Prop:=0<=f.wait.worth (eY b1 m b2 y)/\∃G I,n1[f.e.p.toNat]?=S G/\n2[f.e.q.toNat]?=S I /\
 if f.who="end" then G=.fin/\I=.fin else ∃wn p' O q' y' f',j6 b1 (decide (f.who="yours")) f.e.p m G=S (wn,p',O)/\j6 b2 (decide (f.who="mine")) f.e.q y I=S (wn,q',y')/\df es (eY b1 O b2 y') p' q'=S f'/\(f.who="both"\/f'.wait.worth (eY b1 O b2 y')<f.wait.worth (eY b1 m b2 y))
def Good (b1 b2:ak)(ins:↥Str)(n1 n2:↥Nd)(es:↥Ef):Prop:=(∀ws∈cm (ins.map (cb b1)),∃f,df es (eY b1 (gI b1 ins ws) b2 (gI b2 ins ws)) 0 0=S f)/\∀m∈aE b1,∀y∈aE b2,∀p q f,df es (eY b1 m b2 y) p q=S f->oW b1 b2 n1 n2 es f m y
def IU {b1 b2:ak}{i j:Nat}(hi:i<↑(aE b1))(I:j<↑(aE b2)):i*↑(aE b2)+j<nR b1 b2:=by
 have G:(i+1)*↑(aE b2)<=↑(aE b1)*↑(aE b2):=D7 _ hi
 rw[uL]at G
 change _<↑(aE b1)*↑(aE b2)
 lia
def QP {w i j:Nat}(G:j<w):(i*w+j)/w=i/\(i*w+j)%w=j:=by
 rw[Lj,Nat.add_mul_div_right _ _ ⋯,Nat.add_mul_mod_self_right,Nat.div_eq_of_lt G,Nat.mod_eq_of_lt G,Nat.zero_add]
 show⟨U,U⟩
def CA {b1 b2:ak}{i j:Nat}{m y:↥Int}(hi:(aE b1)[i]?=S m)(G:(aE b2)[j]?=S y):dM b1 b2 (i*↑(aE b2)+j)=eY b1 m b2 y:=by
 obtain⟨h1,h2⟩:=QP (i:=i) (bt G)
 unfold dM
 rw[h1,h2,lh hi,lh G]
def qE {b1 b2:ak}{es:↥Ef}{i j:Nat}{m y I O:↥Int}{p q h:Int}{G:Bool}(hm:(aE b1)[i]?=S m)(hy:(aE b2)[j]?=S y):(vc (fu b1 b2 es ↑es) ↑(aE b2) G h (I,p,i) (O,q,j)).isSome=true↔0<=h/\I=O/\∃f,df es (eY b1 m b2 y) p q=S f/\¬ (G=true/\h<=f.wait.worth (eY b1 m b2 y)):=by
 have rl:=IU (b1:=b1) (b2:=b2) (bt hm) (bt hy)
 have rw_:=CA hm hy
 unfold vc
 by_cases c:h<0
 . rw[aB c]
   show⟨λz=>(nomatch z),λz=>ao z.1 ⋯⟩
 rw[az c]
 by_cases d:I=O
 . rw[aB d]
   cases e:fu b1 b2 es ↑es p q with
   | none=>
     have:=ahI e (eY b1 m b2 y)
     show⟨λz=>(nomatch z),λ⟨_,_,f,hf,_⟩=>by rw[this]at hf;cases hf⟩
   | some col=>
     obtain⟨l,at_⟩:=zO e
     have eL:=at_ _ rl
     have hg:col.getD (i*↑(aE b2)+j) .aM=wV b1 b2 es p q (i*↑(aE b2)+j):=by rw[eR,eL];rfl
     change(match col.getD (i*↑(aE b2)+j) .aM with
         | .int w=>if G=true/\h<=w then Z else S (p,q,i*↑(aE b2)+j)
         | _=>Z:Option (Int×Int×Nat)).isSome=true↔_
     rw[hg]
     unfold wV
     rw[rw_]
     cases e2:df es (eY b1 m b2 y) p q with
     | none=>show⟨λz=>(nomatch z),λ⟨_,_,f,hf,_⟩=>(nomatch hf)⟩
     | some f=>
       change(if G=true/\h<=f.wait.worth (eY b1 m b2 y)then Z else S (p,q,i*↑(aE b2)+j)).isSome=true↔_
       by_cases g:G=true/\h<=f.wait.worth (eY b1 m b2 y)
       . rw[aB g]
         show⟨λz=>(nomatch z),λ⟨_,_,f',hf,hg⟩=>by cases hf;show ao g hg⟩
       . rw[az g]
         show⟨λx=>⟨⋯,d,f,U,g⟩,λx=>rfl⟩
 . rw[az d]
   show⟨λz=>(nomatch z),λz=>ao z.2.1 d⟩
def Ct {b:ak}{m:↥Int}{nd:Nd}{G:Int}{I:↥Int}(h:iy b m nd=S ([],G,I)):qb (dz nd)=true:=by
 cases nd with
 | put _ _ _=>rfl
 | test _ _ _=>rfl
 | say _ _=>cases h
 | fin=>cases h
def VG {b1 b2:ak}{m y:↥Int}{G I:Nd}{s:↥Int}{O q':Int}{m' y':↥Int}(h1:iy b1 m G=S (s,O,m'))(h2:iy b2 y I=S (s,q',y')):i9 (dz G) (dz I) "both"=true:=by
 cases G with
 | fin=>cases h1
 | put _ _ _=>
   cases h1
   have:=Ct h2
   unfold i9
   rw[az ∅,az ∅,aB rfl,this]
   show KL _
 | test _ _ _=>
   cases h1
   have:=Ct h2
   unfold i9
   rw[az ∅,az ∅,aB rfl,this]
   show KL _
 | say _ _=>
   cases I with
   | fin=>cases h2
   | put _ _ _=>cases h1;cases h2
   | test _ _ _=>cases h1;cases h2
   | say _ _=>rfl
def De {b:ak}{cr:↥Nd}{k:Int}{m:↥Int}{nd:Nd}{s:↥Int}{I:Int}{G:↥Int}(o:lL b cr k)(O:m∈aE b)(hn:nd∈cr)(h:iy b m nd=S (s,I,G)):∃i:Nat,(aE b)[i]?=S G:=j9 (og (Dg o.sz (pf O) (o.gd nd hn) h).2.2.1)
def TR {b1 b2:ak}{n1 n2:↥Nd}{k1 k2:Int}{es:↥Ef}{f:Ef}{p q r:Nat}{O bG:Nd}{col:↥V}(o1:lL b1 n1 k1)(o2:lL b2 n2 k2)(hw:f.who="mine"\/f.who="yours"\/f.who="both"\/f.who="end")(ep:f.e.p=(p:Nat))(eq:f.e.q=(q:Nat))(h1:n1[p]?=S O)(h2:n2[q]?=S bG)(hr:r<nR b1 b2)(hc:df es (dM b1 b2 r) p q=S f)(FM:fu b1 b2 es ↑es p q=S col):xK b1 b2 (fu b1 b2 es ↑es) f p q O bG col r↔oW b1 b2 n1 n2 es f (wA (aE b1) (r/↑(aE b2))) (wA (aE b2) (r%↑(aE b2))):=by
 have hh:col[r]?=S (.int (f.wait.worth (dM b1 b2 r))):=by rw[(zO FM).2 r hr];unfold wV;rw[hc]
 have w2:0<↑(aE b2):=Al λz=>by unfold nR at hr;rw[z,Ak]at hr;show ao hr (oM _)
 have i1:r/↑(aE b2)<↑(aE b1):=D5 (by rw[xb];show hr)
 obtain⟨m,hm⟩ : ∃m,(aE b1)[r/↑(aE b2)]?=S m:=⟨_,bB i1⟩
 obtain⟨y,hy⟩ : ∃y,(aE b2)[r%↑(aE b2)]?=S y:=⟨_,bB (D6 r w2)⟩
 have er:r/↑(aE b2)*↑(aE b2)+r%↑(aE b2)=r:=by rw[xb];show Nat.div_add_mod r _
 have eW:=CA hm hy
 rw[er]at eW
 rw[eW]at hh hc
 have pU:n1[f.e.p.toNat]?=S O:=by rw[ep,gE];show h1
 have pV:n2[f.e.q.toNat]?=S bG:=by rw[eq,gE];show h2
 unfold xK oW
 simp only[pd,lh hm,lh hy]
 have mg:=bI hm
 have yg:=bI hy
 have rr:col[r]?=S (V.int (f.wait.worth (eY b1 m b2 y))):=hh
 have fin:∀{X:Prop},(∃yV yW,n1[f.e.p.toNat]?=S yV/\n2[f.e.q.toNat]?=S yW/\X)↔X:=λ{X}=>⟨λ⟨_,_,_,_,x⟩=>x,λx=>⟨O,bG,pU,pV,x⟩⟩
 rcases hw with e|e|e|e
 . have a1:d9 f.who "mine" "both"=true:=by rw[e];decide
   have a2:¬ d9 f.who "yours" "both"=true:=by rw[e];decide
   have a3:d9 f.who "mine" "yours"=true:=by rw[e];decide
   have ne:¬ f.who="end":=by rw[e];decide
   constructor
   . rintro⟨_,⟨s1,p1,i⟩,x2,h',G,g2,a,be⟩
     rw[aB a1]at G
     rw[az a2]at g2
     obtain⟨ws,G,gw⟩:=G
     subst g2
     rw[rr]at a
     cases a
     obtain⟨I,z2,f',z3,z4⟩:=(qE gw hy).mp be
     show⟨I,O,bG,pU,pV,?_⟩
     rw[az ne]
     show⟨s1,p1,ws,(q:Int),y,f',?_,?_,z3,.inr (Int.not_le.mp λz=>z4 ⟨a3,z⟩)⟩
     . unfold j6;rw[fU (by rw[e];decide),az ∅];show G
     . unfold j6;rw[bS e,aB rfl,eq,z2]
   . rintro⟨I,yV,yW,e1,e2,z⟩
     rw[pU]at e1
     rw[pV]at e2
     cases e1
     cases e2
     rw[az ne]at z
     obtain⟨s,p1,m',q1,y',f',u1,u2,u3,u4⟩:=z
     unfold j6 at u1 u2
     rw[fU (by rw[e];decide),az ∅]at u1
     rw[bS e,aB rfl]at u2
     cases u2
     obtain⟨i,hi⟩:=De o1 mg (bI h1) u1
     show⟨by unfold i9;rw[aB e];show Ct u1,([],p1,i),([],(q:Int),r%↑(aE b2)),_,by rw[aB a1];show⟨m',u1,hi⟩,by rw[az a2],rr,?_⟩
     rw[eq]at u3
     show(qE hi hy).mpr ⟨I,U,f',u3,λz=>u4.elim (λz2=>ao (e.symm.trans z2) ∅) λz2=>by lia⟩
 . have a1:¬ d9 f.who "mine" "both"=true:=by rw[e];decide
   have a2:d9 f.who "yours" "both"=true:=by rw[e];decide
   have a3:d9 f.who "mine" "yours"=true:=by rw[e];decide
   have ne:¬ f.who="end":=by rw[e];decide
   constructor
   . rintro⟨_,x1,⟨s2,q1,j⟩,h',G,g2,a,be⟩
     rw[az a1]at G
     rw[aB a2]at g2
     obtain⟨ws,g2,gw⟩:=g2
     subst G
     rw[rr]at a
     cases a
     obtain⟨I,z2,f',z3,z4⟩:=(qE hm gw).mp be
     show⟨I,O,bG,pU,pV,?_⟩
     rw[az ne]
     show⟨s2,(p:Int),m,q1,ws,f',?_,?_,z3,.inr (Int.not_le.mp λz=>z4 ⟨a3,z⟩)⟩
     . unfold j6;rw[bS e,aB rfl,ep,z2]
     . unfold j6;rw[fU (by rw[e];decide),az ∅];show g2
   . rintro⟨I,yV,yW,e1,e2,z⟩
     rw[pU]at e1
     rw[pV]at e2
     cases e1
     cases e2
     rw[az ne]at z
     obtain⟨s,p1,m',q1,y',f',u1,u2,u3,u4⟩:=z
     unfold j6 at u1 u2
     rw[bS e,aB rfl]at u1
     rw[fU (by rw[e];decide),az ∅]at u2
     cases u1
     obtain⟨j,hj⟩:=De o2 yg (bI h2) u2
     show⟨by unfold i9;rw[az (by rw[e];decide),aB e];show Ct u2,([],(p:Int),r/↑(aE b2)),([],q1,j),_,by rw[az a1],by rw[aB a2];show⟨y',u2,hj⟩,rr,?_⟩
     rw[ep]at u3
     show(qE hm hj).mpr ⟨I,U,f',u3,λz=>u4.elim (λz2=>ao (e.symm.trans z2) ∅) λz2=>by lia⟩
 . have a1:d9 f.who "mine" "both"=true:=by rw[e];decide
   have a2:d9 f.who "yours" "both"=true:=by rw[e];decide
   have a3:¬ d9 f.who "mine" "yours"=true:=by rw[e];decide
   have ne:¬ f.who="end":=by rw[e];decide
   constructor
   . rintro⟨_,⟨s1,p1,i⟩,⟨s2,q1,j⟩,h',G,g2,a,be⟩
     rw[aB a1]at G
     rw[aB a2]at g2
     obtain⟨ws,G,gw⟩:=G
     obtain⟨ws2,g2,F5⟩:=g2
     rw[rr]at a
     cases a
     obtain⟨I,z2,f',z3,z4⟩:=(qE gw F5).mp be
     show⟨I,O,bG,pU,pV,?_⟩
     rw[az ne]
     show⟨s1,p1,ws,q1,ws2,f',?_,?_,z3,.inl e⟩
     . unfold j6;rw[fU (by rw[e];decide),az ∅];show G
     . unfold j6;rw[fU (by rw[e];decide),az ∅,z2];show g2
   . rintro⟨I,yV,yW,e1,e2,z⟩
     rw[pU]at e1
     rw[pV]at e2
     cases e1
     cases e2
     rw[az ne]at z
     obtain⟨s,p1,m',q1,y',f',u1,u2,u3,u4⟩:=z
     unfold j6 at u1 u2
     rw[fU (by rw[e];decide),az ∅]at u1 u2
     obtain⟨i,hi⟩:=De o1 mg (bI h1) u1
     obtain⟨j,hj⟩:=De o2 yg (bI h2) u2
     show⟨by rw[e];show VG u1 u2,(s,p1,i),(s,q1,j),_,by rw[aB a1];show⟨m',u1,hi⟩,by rw[aB a2];show⟨y',u2,hj⟩,rr,(qE hi hj).mpr ⟨I,U,f',u3,λz=>a3 z.1⟩⟩
 . have a1:¬ d9 f.who "mine" "both"=true:=by rw[e];decide
   have a2:¬ d9 f.who "yours" "both"=true:=by rw[e];decide
   have a3:¬ d9 f.who "mine" "yours"=true:=by rw[e];decide
   have tE:i9 (dz O) (dz bG) f.who=true↔O=.fin/\bG=.fin:=by
     unfold i9
     rw[az (by rw[e];decide),az (by rw[e];decide),az (by rw[e];decide),j8,decide_eq_true_iff,decide_eq_true_iff]
     constructor
     . rintro⟨k1,k2⟩
       rw[k2]at k1
       show⟨?_,?_⟩
       . cases O with
         | fin=>rfl
         | put _ _ _=>show ao k1 (by change ¬ (("put":Str)="end");decide)
         | say _ _=>show ao k1 (by change ¬ (("say":Str)="end");decide)
         | test _ _ _=>show ao k1 (by change ¬ (("test":Str)="end");decide)
       . cases bG with
         | fin=>rfl
         | put _ _ _=>show ao k2 (by change ¬ (("put":Str)="end");decide)
         | say _ _=>show ao k2 (by change ¬ (("say":Str)="end");decide)
         | test _ _ _=>show ao k2 (by change ¬ (("test":Str)="end");decide)
     . rintro⟨rfl,rfl⟩
       show⟨U,U⟩
   constructor
   . rintro⟨tb,x1,x2,h',G,g2,a,be⟩
     rw[az a1]at G
     rw[az a2]at g2
     subst G
     subst g2
     rw[rr]at a
     cases a
     obtain⟨I,_⟩:=(qE hm hy).mp be
     show⟨I,O,bG,pU,pV,?_⟩
     rw[aB e]
     show tE.mp tb
   . rintro⟨I,yV,yW,e1,e2,z⟩
     rw[pU]at e1
     rw[pV]at e2
     cases e1
     cases e2
     rw[aB e]at z
     show⟨tE.mpr z,([],(p:Int),r/↑(aE b2)),([],(q:Int),r%↑(aE b2)),_,by rw[az a1],by rw[az a2],rr,(qE hm hy).mpr ⟨I,U,f,hc,λz=>a3 z.1⟩⟩
abbrev CJ:Stmt:=top 49
def TX {w:Str}(h:iX (.str w) [.str "mine",.str "yours",.str "both",.str "end"]=true):w="mine"\/w="yours"\/w="both"\/w="end":=by
 simp only[iX,qm,DQ,DE,Bool.or_eq_true]at h
 have e:∀x:Str,eK (.str x) (.str w)=true->w=x:=λx h=>(show x=w by simpa[eK]using h).symm
 rcases h with h|h|h|h
 . show .inl (e _ h)
 . show .inr (.inl (e _ h))
 . show .inr (.inr (.inl (e _ h)))
 . show .inr (.inr (.inr (e _ h)))
def WJ {b1 b2:ak}{n1 n2:↥Nd}{es:↥Ef}{i n:Nat}{f:Ef}{O:↥Nat}(I:∃p q,xB b1 b2 n1 n2 f p q n)(h:es[i]?=S f)(hc:(ku b1 b2 es)[i]?=S O):LS b1 b2 n1 n2 (fu b1 b2 es ↑es) f O:=by
 obtain⟨p,q,G⟩:=I
 obtain⟨col,FM⟩:=Kt (b1:=b1) (b2:=b2) (bI h)
 rw[xQ h]at hc
 cases hc
 show⟨p,q,_,_,col,G.ep,G.eq,bB G.pl,bB G.ql,by rw[← G.ep,← G.eq];show FM,λr hr=>?_⟩
 obtain⟨rl,yd⟩:=MK h hr
 show⟨rl,f.wait.worth (dM b1 b2 r),?_⟩
 rw[(zO FM).2 r rl]
 unfold wV
 rw[yd]
def Vq {b1 b2:ak}{n1 n2:↥Nd}{k1 k2:Int}{es:↥Ef}{n:Nat}(o1:lL b1 n1 k1)(o2:lL b2 n2 k2)(O:∀f∈es,∃p q,xB b1 b2 n1 n2 f p q n):(∀(i:Nat) f bi,es[i]?=S f->(ku b1 b2 es)[i]?=S bi->AJ b1 b2 n1 n2 (fu b1 b2 es ↑es) f bi)↔∀m∈aE b1,∀y∈aE b2,∀p q f,df es (eY b1 m b2 y) p q=S f->oW b1 b2 n1 n2 es f m y:=by
 constructor
 . intro h m hm y hy p q f hf
   obtain⟨i,hi⟩:=j9 hm
   obtain⟨j,hj⟩:=j9 hy
   have I:=IU (b1:=b1) (b2:=b2) (bt hi) (bt hj)
   obtain⟨d1,d2⟩:=QP (i:=i) (bt hj)
   have eW:=CA hi hj
   rw[← eW]at hf
   obtain⟨rfl,rfl,lV,k,hk,BI,ik⟩:=xN hf
   obtain⟨p,q,G⟩:=O f lV
   obtain⟨col,FM⟩:=Kt (b1:=b1) (b2:=b2) lV
   have l7:i*↑(aE b2)+j∈iI b1 b2 ((es.take k).map (·.e)) f.e:=xR.mpr ⟨I,ik,BI⟩
   rw[G.ep,G.eq]at FM hf
   have hp:=bB G.pl
   have hq:=bB G.ql
   have wp:=h k f _ hk (xQ hk) p q _ _ col G.ep G.eq hp hq FM _ l7
   have:=(TR o1 o2 (TX G.who) G.ep G.eq hp hq I hf FM).mp wp
   rw[d1,d2,lh hi,lh hj]at this
   show this
 . intro h i f bi hf hr p q sK bG col ep eq h1 h2 FM r bJ
   rw[xQ hf]at hr
   cases hr
   obtain⟨I,yd⟩:=MK hf bJ
   have lV:=bI hf
   obtain⟨p',q',G⟩:=O f lV
   have w2:0<↑(aE b2):=Al λz=>by unfold nR at I;rw[z,Ak]at I;show ao I (oM _)
   obtain⟨m,hm⟩ : ∃m,(aE b1)[r/↑(aE b2)]?=S m:=⟨_,bB (D5 (by rw[xb];show I))⟩
   obtain⟨y,hy⟩ : ∃y,(aE b2)[r%↑(aE b2)]?=S y:=⟨_,bB (D6 r w2)⟩
   have N7:=yd
   rw[show dM b1 b2 r=eY b1 m b2 y from by unfold dM;rw[lh hm,lh hy]]at N7
   have wa:=h m (bI hm) y (bI hy) _ _ f N7
   rw[ep,eq]at yd
   show(TR o1 o2 (TX G.who) ep eq h1 h2 I yd FM).mpr ?_
   rw[lh hm,lh hy]
   show wa
def aha {bs:ak}{ins:↥Str}(F:Fits bs ins):∀s∈ins.map (cb bs),1<=s:=λs G=>by
 obtain⟨x,hx,rfl⟩:=du G
 obtain⟨b,hb,rfl⟩:=du (F.sub x hx)
 rw[rB F.nd hb]
 show F.sz b hb
def Ya:∀{G:↥Int},(∀s∈G,1<=s)->∃ws,ws∈cm G:=λ{G} h=>⟨G.map λz=>0,og (by
 induction G with
 | nil=>show .nil
 | cons s G I=>show .cons ⟨zW _,by have:=h s oK;change(0:Int)<s;lia⟩ (I λx hx=>h x (dS (.inr hx))))⟩
def Me {b1 b2:ak}{ins:↥Str}{ws:↥Int}(G:Fits b1 ins)(I:Fits b2 ins)(sz:ins.map (cb b1)=ins.map (cb b2))(h:ws∈cm (ins.map (cb b1))):∃i j:Nat,(aE b1)[i]?=S (gI b1 ins ws)/\(aE b2)[j]?=S (gI b2 ins ws):=by
 have O:=pf h
 have Cs:Paired Within (ins.map (cb b2)) ws:=by rw[← sz];show O
 obtain⟨i,hi⟩:=j9 (og (A8 G.nd G.sz O))
 obtain⟨j,hj⟩:=j9 (og (A8 I.nd I.sz Cs))
 show⟨i,j,hi,hj⟩
def TQ {b1 b2:ak}{es:↥Ef}{p q:Int}{i j:Nat}{m y:↥Int}{col:↥V}(h:fu b1 b2 es ↑es p q=S col)(hi:(aE b1)[i]?=S m)(G:(aE b2)[j]?=S y):col.getD (i*↑(aE b2)+j) .aM≠.aM↔∃f,df es (eY b1 m b2 y) p q=S f:=by
 rw[eR,(zO h).2 _ (IU (bt hi) (bt G))]
 unfold wV
 rw[CA hi G]
 cases df es (eY b1 m b2 y) p q with
 | none=>show⟨λz=>ao rfl z,λ⟨_,z⟩=>(nomatch z)⟩
 | some f=>show⟨λx=>⟨f,rfl⟩,λx z=>(nomatch z)⟩
def aa7 {b1 b2:ak}{ins:↥Str}{n1 n2:↥Nd}{k1 k2:Int}{es:↥Ef}{n:Nat}(o1:lL b1 n1 k1)(o2:lL b2 n2 k2)(F1:Fits b1 ins)(F2:Fits b2 ins)(sz:ins.map (cb b1)=ins.map (cb b2))(O:∀f∈es,∃p q,xB b1 b2 n1 n2 f p q n):LX b1 b2 ins n1 n2 (fu b1 b2 es ↑es) es (ku b1 b2 es)↔Good b1 b2 ins n1 n2 es:=by
 show and_congr ?_ (Vq o1 o2 O)
 constructor
 . rintro⟨col,e,h⟩ ws G
   obtain⟨i,j,hi,I⟩:=Me F1 F2 sz G
   show(TQ e hi I).mp (h ws G _ ⟨i,j,hi,I,U⟩)
 . intro h
   obtain⟨w0,hw0⟩:=Ya (aha F1)
   obtain⟨f0,vF⟩:=h w0 hw0
   obtain⟨ep,eq,lV,_⟩:=xN vF
   obtain⟨col,e⟩:=Kt (b1:=b1) (b2:=b2) lV
   rw[ep,eq]at e
   show⟨col,e,λws G k hk=>?_⟩
   obtain⟨i,j,hi,I,rfl⟩:=hk
   show(TQ e hi I).mpr (h ws G)
structure L8 (n:Nat)(H:Hp)(v1 v2:V)(pa:J)(b1 b2:ak)(ins:↥Str)(n1 n2:↥Nd)(m1 m2:Int)(es:↥Ef):Prop where
 r:u5 H v1 v2 b1 b2 ins n1 n2
 o1:lL b1 n1 m1
 o2:lL b2 n2 m2
 fw1:uU (b1.map (·.2))
 fw2:uU (b2.map (·.2))
 cC:nR b1 b2<=3000
 hp:∃on,H pa=S (.lst on)/\Paired (f9 H) on es
 le:↑es<=900
 pr:∀f∈es,uT f n
 fj:∀f∈es,f.e.c.fj/\f.wait.dP
def JY (n:Nat):Sp:=λvs H Q z=>∃(v1 v2:V) (G:J) (b1 b2:ak) (ins:↥Str) (n1 n2:↥Nd) (I O:Int) (es:↥Ef),vs=[v1,v2,.ref G]/\L8 n H v1 v2 G b1 b2 ins n1 n2 I O es /\
 ∀(b:Bool) (H':Hp),ag H H'->(b=true↔(∀f∈es,oU b1 b2 n1 n2 f n)/\Good b1 b2 ins n1 n2 es)->Q (.bl b) H'
def CV:bE ["one","other","paper","ground","counted"] ["one","other","paper"] (aV CJ):=bP
def acV {C CS:J}{n:Nat}{f:J}{fd:ba}(F:bq K "paper_shows" "paper_shows" CJ f fd)(cl:fB K C)(NP0:aP P w K mg base "refuse_no_pair" ["one","other"] 2 R9)(GD0:nH P w K mg base "Ground" C ["self","one","other"] 4 (JV K C CS))(AF0:aP P w K mg base "all_fit" ["ground","paper"] (n+3) (JJ K C CS n))(RC0:aP P w K mg base "rows_counted" ["ground","paper"] (n+2) (J1 K C n))(WB0:aP P w K mg base "worths_by_places" ["ground","paper","counted","part"] (n+2) (Kc K C n))(AW0:aP P w K mg base "all_well" ["ground","paper","counted","waits"] 30 (JK K C CS)):aU P w K mg base bj (n+31) f fd ["one","other","paper"] (JY n):=by
 show F.bZ CV λim A outer s H vs Q E I h=>?_
 obtain⟨v1,v2,pa,b1,b2,ins,n1,n2,m1,m2,es,rfl,T,q⟩:=h
 have NP:=NP0.mono (show 2<=n+30 by lia)
 have GD:=GD0.mono (show 4<=n+29 by lia)
 have AF:=AF0.mono (show n+3<=n+30 by lia)
 have RC:=RC0.mono (show n+2<=n+30 by lia)
 have WB:=WB0.mono (show n+2<=n+30 by lia)
 have AW:=AW0.mono (show 30<=n+30 by lia)
 show cK ⟨_,(ajH (akb (ajR NP I U (L (Y 0) (L (Y 1) M))))
   (ajH (ajT 3 CV.nd (akM GD I U (L (Y 0) (L (Y 1) M))))
   (ajH (ajU (akw (akp (ajR AF I U (L (Y 3) (L (Y 2) M))))) (ajI (ajN aj9)) ajV)
   (ajH (ajT 4 CV.nd (ajR RC I U (L (Y 3) (L (Y 2) M))))
   (ajI (ajN (ajR AW I U (L (Y 3) (L (Y 2) (L (Y 4) (L (ajR WB I U (L (Y 3) (L (Y 2) (L (Y 4) (L ajF M))))) M))))))))))),?_⟩
 obtain⟨on,jV,pe⟩:=T.hp
 show bW λRk kR=>aa U (aa U ⟨v1,v2,b1,b2,ins,n1,n2,U,T.r.p,λH1 s1=>kR _ _ (bW λRk kR=>?_)⟩)
 have P1:=T.r.p.p1.same s1
 have P2:=T.r.p.p2.same s1
 show aa U (aa U (λx dx nx vZ ne=>⟨x,dx,v1,v2,b1,b2,U,ai,P1.bx.same (cD (aH vZ _) nx),P2.bx.same (cD (aH vZ _) nx),T.o1.nd,T.o2.nd,T.fw1,T.fw2,T.cC,λH2 c k2 ga gm cn cw d1 d2 d3 d4=>⟨U,?_⟩⟩))
 have Go:ag H1 H2:=made nx vZ k2
 have s2:=ah s1 Go
 have gr:Gr K C CS H2 x v1 v2 b1 b2 c:=⟨ga,gm⟩
 have ca:cH H2 c b1 b2 n1 n2:=⟨cn,dY.none d1,dY.none d2,dY.none d3,dY.none d4⟩
 have up:∀{d:J},(upd (upd H1 dx (.own x)) x (.ins C dx [])) d=Z->H d=Z:=λh=>b9 s1 (b9 (cD (aH vZ _) nx) h)
 show bO (kR _ _ (bW λRk kR=>aa U (aa U ⟨x,pa,v1,v2,b1,b2,c,ins,n1,n2,on,es,U,gr,P1.same Go,P2.same Go,s2 _ _ jV,Paired.bc pe λy y z=>z.keep (ag.tk s2),T.le,T.pr,λbf H3 s3 hb=>(aa U (aG (λcc=>?_) (λcc=>?_)))⟩)))
 . have cc:bf=false:=by simpa using cc
   show q false H3 (ah s2 s3) ⟨(λz=>nomatch z),λz=>by have:=hb.mpr z.1;rw[cc]at this;cases this⟩
 have G:=hb.mp (by simpa using cc)
 show kR _ _ (bW λRk kR=>?_)
 have Db:=ah s2 s3
 have pe3:Paired (f9 H3) on es:=Paired.bc pe λy y z=>z.keep (ag.tk Db)
 have el:=T.le
 show aa U (aa U ⟨x,pa,on,es.map (·.e),b1,b2,U,(gr.same s3).a,T.cC,Db _ _ jV,Paired.mapR (·.e) (λy y z=>z) (Paired.bc pe3 λy y z=>z.en),⟨by rw[aA];lia,λe he=>?_,λe he=>?_,λe he=>?_⟩,λl cs H4 s4 hl rb=>?_⟩)
 . obtain⟨f,hf,rfl⟩:=du he
   show(T.fj f hf).1
 . obtain⟨f,hf,rfl⟩:=du he
   obtain⟨p,q,ft⟩:=G f hf
   show ft.ok
 . obtain⟨f,hf,rfl⟩:=du he
   obtain⟨p,q,ft⟩:=G f hf
   show ft.dp
 show bO (kR _ _ ?_)
 have wy:=ah s3 s4
 have s04:=ah Db s4
 have pe4:Paired (f9 H4) on es:=Paired.bc pe λy y z=>z.keep (ag.tk s04)
 have vf:↑(ku b1 b2 es)=↑es:=by rw[Fq,aA]
 have inn:∀bi∈ku b1 b2 es,(∀r∈bi,r<nR b1 b2)/\↑bi<=3000:=λbi I=>by
   obtain⟨i,hi⟩:=j9 I
   have il:=(bt hi)
   rw[vf]at il
   rw[xQ (bB il)]at hi
   cases hi
   show⟨λr I=>(xR.mp I).1,?_⟩
   have:=T.cC
   show ck (qp _ _) (ck (FN b1 b2 _ _ _) this)
 show aa U (aa U (aa U (aa U (aa U (aa U ⟨x,pa,l,b1,b2,on,es,cs,ku b1 b2 es,U,⟨(gr.same wy).a,s04 _ _ jV,pe4,hl,rb,vf,λbi I=>(inn bi I).1,λbi I=>(inn bi I).2,el,T.cC,λf hf=>?_⟩,λwd H5 s5 nw wa=>?_⟩)))))
 . obtain⟨p,q,ft⟩:=G f hf
   show⟨(T.fj f hf).2,ft.okw,ft.dw⟩
 have zw:=ah wy s5
 have O:=ah s04 s5
 show⟨x,pa,l,wd,v1,v2,b1,b2,c,ins,n1,n2,m1,m2,fu b1 b2 es ↑es,on,es,cs,ku b1 b2 es,U,⟨⟨gr.same zw,ca.same zw,T.r.p.p1.same O,T.r.p.p2.same O,T.o1,T.o2,wa,ab9 b1 b2 es⟩,⟨⟨T.r.p.p1.same O,T.r.p.p2.same O,T.r.p.f1,T.r.p.f2,T.r.p.sz⟩,T.r.l1,T.r.l2,T.r.si,T.r.li⟩,O _ _ jV,Paired.bc pe λy y z=>z.keep (ag.tk O),s5 _ _ hl,Paired.bc rb λy y z=>s5 _ _ z,vf,λi f bi hf I=>WJ (G f (bI hf)) hf I⟩,λb H6 y6 eb=>q b H6 (λa o e=>y6 a o (O a o e) ?_ ?_ ?_ ?_) ((eb.trans (aa7 T.o1 T.o2 T.r.p.f1 T.r.p.f2 T.r.p.sz G)).trans ⟨λz=>⟨G,z⟩,λz=>z.2⟩)⟩
 . show aR e (up cw.n1)
 . show aR e (up cw.n2)
 . show aR e (up cw.n3)
 . show aR e (up cw.n4)
theorem sub_len {α:Type}[DecidableEq α]:∀{xs ys:List α},xs.Nodup->(∀x∈xs,x∈ys)->↑xs<=↑ys
 | [],_,_,_=>fL _
 | x::r,ys,nd,h=>by
   rw[Ah]at nd
   have hx:x∈ys:=h x (dS (.inl rfl))
   have G:=sub_len (xs:=r) (ys:=ys.erase x) nd.2 λy hy=>(List.mem_erase_of_ne (a:=y) (b:=x) (λe:y=x=>nd.1 (e▸hy))).mpr (h y (dS (.inr hy)))
   have I:=List.length_erase_of_mem hx
   have O:0<↑ys:=UA hx
   rw[gF]
   lia
def Si {α β:Type}(f:α->β)(n:Int)(xs:List α):(bT n xs).map f=bT n (xs.map f):=by
 unfold bT
 split
 . rfl
 . rw[D1]
def Xb {bs:ak}{ins:↥Str}(h:mz bs ins):Fits bs ins:=by
 have l2:=h.len
 have G:↑ins<=900:=by
   have:=sub_len h.ind h.insub
   rw[aA]at this
   lia
 show⟨h.nd,⋯,λb hb=>(h.sz b hb).1,h.ind,h.insub,G⟩
theorem E.wq (f:Str->Str):∀e:E,(e.dB f).dep=e.dep
 | .num _=>rfl
 | .box _ _=>rfl
 | .yes=>rfl
 | .nt a=>by change(a.dB f).dep+1=a.dep+1;rw[E.wq f a]
 | .two _ a b=>by change max (a.dB f).dep (b.dB f).dep+1=max a.dep b.dep+1;rw[E.wq f a,E.wq f b]
theorem E.ou (f:Str->Str):∀e:E,e.dP->(e.dB f).dP
 | .num _,_=>bK
 | .box _ _,_=>bK
 | .two .plus a b,h=>⟨E.ou f a h.1,E.ou f b h.2⟩
 | .two .less a b,h=>⟨E.ou f a h.1,E.ou f b h.2⟩
theorem E.Cy (f:Str->Str):∀e:E,e.fj->(e.dB f).fj
 | .yes,_=>bK
 | .nt a,h=>E.Cy f a h
 | .two .same a b,h=>⟨E.ou f a h.1,E.ou f b h.2⟩
 | .two .under a b,h=>⟨E.ou f a h.1,E.ou f b h.2⟩
 | .two .both a b,h=>⟨E.Cy f a h.1,E.Cy f b h.2⟩
theorem E.wu {f:Str->Str}{A B:Str->Prop}(hf:∀x,A x->B (f x)):∀e:E,e.okIn (λt y=>t="box"/\A y)->(e.dB f).okIn (λt y=>t="box"/\B y)
 | .num _,h=>h
 | .box _ _,h=>⟨h.1,hf _ h.2⟩
 | .yes,_=>bK
 | .nt a,h=>E.wu hf a h
 | .two _ a b,h=>⟨E.wu hf a h.1,E.wu hf b h.2⟩
theorem Nd.good.imp {A B:Str->Prop}{m:Int}{d d':Nat}(hf:∀x,A x->B x)(G:d<=d'):∀{e:Nd},e.good A m d->e.good B m d'
 | .put x s n,h=>⟨hf x h.1,h.2.1,E.okIn.imp (λt y z=>⟨z.1,hf y z.2⟩) h.2.2.1,ck h.2.2.2.1 G,h.2.2.2.2.1,h.2.2.2.2.2⟩
 | .say s n,h=>⟨h.1,E.okIn.imp (λt y z=>⟨z.1,hf y z.2⟩) h.2.1,ck h.2.2.1 G,h.2.2.2.1,h.2.2.2.2⟩
 | .test c n o,h=>⟨h.1,E.okIn.imp (λt y z=>⟨z.1,hf y z.2⟩) h.2.1,ck h.2.2.1 G,h.2.2.2.1,h.2.2.2.2.1,h.2.2.2.2.2.1,h.2.2.2.2.2.2⟩
 | .fin,_=>bK
def Nd.Vx {f:Str->Str}{g:Int->Int}{A B:Str->Prop}{m I:Int}{d:Nat}(hf:∀x,A x->B (f x))(G:∀n,0<=n->n<m->0<=g n/\g n<I):∀{e:Nd},e.good A m d->(e.as f g).good B I d
 | .put x s n,h=>⟨hf x h.1,E.ou f s h.2.1,E.wu hf s h.2.2.1,by rw[E.wq];show h.2.2.2.1,G n h.2.2.2.2.1 h.2.2.2.2.2⟩
 | .say s n,h=>⟨E.ou f s h.1,E.wu hf s h.2.1,by rw[E.wq];show h.2.2.1,G n h.2.2.2.1 h.2.2.2.2⟩
 | .test c n o,h=>⟨E.Cy f c h.1,E.wu hf c h.2.1,by rw[E.wq];show h.2.2.1,(G n h.2.2.2.1 h.2.2.2.2.1).1,(G n h.2.2.2.1 h.2.2.2.2.1).2,(G o h.2.2.2.2.2.1 h.2.2.2.2.2.2).1,(G o h.2.2.2.2.2.1 h.2.2.2.2.2.2).2⟩
 | .fin,_=>bK
def adO {bs b':ak}{f:Str->Str}{cr ii:↥Nd}{ps aJ:↥Int}(no:sH bs f cr ii ps aJ)(hf:∀x∈bs.map (·.1),f x∈b'.map (·.1))(good:∀e∈cr,e.good (·∈bs.map (·.1)) ↑cr 5):∀e∈ii,e.good (·∈b'.map (·.1)) ↑ii 5:=λI O=>by
 obtain⟨j,hj⟩:=List.mem_iff_getElem?.mp O
 rcases no.only j I hj with⟨e,yi,rfl⟩|⟨p,hp,hs⟩
 . show Nd.Vx (A:=(·∈bs.map (·.1))) hf (λn G h1=>?_) (good e yi)
   have hn:n.toNat<↑cr:=⋯
   obtain⟨p,b,h2,h3,h4,h5,_⟩:=no.all n.toNat cr[n.toNat] (bB hn)
   have:eG aJ n=(b:Int):=by
     unfold eG
     rw[eR,h3]
     rfl
   rw[this]
   lia
 . rcases hs with⟨o,G,h1,rfl⟩|⟨x,hx,rfl⟩
   . show⟨bK,bK,fL _,⋯,⋯,G,⋯⟩
   . show⟨hf x hx,bK,⟨U,hf x hx⟩,fL _,⋯,⋯⟩
def ag0 {x y z:Str}(h:x++z=y++z):x=y:=by
 have h1:x.cps++z.cps=y.cps++z.cps:=congrArg Str.cps h
 have h2:=congrArg KI h1
 rw[Uh,Uh]at h2
 have G:=List.append_cancel_right h2
 obtain⟨x⟩:=x
 obtain⟨y⟩:=y
 have:x=y:=Array.toList_inj.mp G
 rw[this]
structure mE (bs:ak)(ins:↥Str):Prop where
 nd:(bs.map (·.1)).Nodup
 z1:∀x∈bs.map (·.1),x∉ins->∀y∈bs.map (·.1),x++"z"≠y
 sub:∀x∈ins,x∈bs.map (·.1)
def Dz {bs:ak}{ins:↥Str}(h:mE bs ins)(cz:Bool){x y:Str}(hx:x∈bs.map (·.1))(hy:y∈bs.map (·.1))(e:bA ins cz x=bA ins cz y):x=y:=by
 unfold bA at e
 by_cases h1:x∈ins
 . rw[aB h1]at e
   by_cases h2:y∈ins
   . rw[aB h2]at e
     show e
   . rw[az h2]at e
     cases cz with
     | true=>rw[aB rfl]at e;show ao e.symm (h.z1 y hy h2 x hx)
     | false=>show e
 . rw[az h1]at e
   by_cases h2:y∈ins
   . rw[aB h2]at e
     cases cz with
     | true=>rw[aB rfl]at e;show ao e (h.z1 x hx h1 y hy)
     | false=>show e
   . rw[az h2]at e
     cases cz with
     | true=>rw[aB rfl,aB rfl]at e;show ag0 e
     | false=>show e
def ah1 {bs:ak}{ins:↥Str}(h:mE bs ins)(cz:Bool){x:Str}(hx:x∈bs.map (·.1)):bA ins cz x∈ins↔x∈ins:=by
 unfold bA
 by_cases h1:x∈ins
 . rw[aB h1]
 . rw[az h1]
   cases cz with
   | false=>show Iff.rfl
   | true=>
     rw[aB rfl]
     show⟨λz=>ao rfl (h.z1 x hx h1 _ (h.sub _ z)),λz=>ao z h1⟩
theorem TN {bs:ak}{f:Str->Str}:∀{G:ak} {ws:↥Int} {x:Str},(∀b∈G,f b.1=f x->b.1=x)->b7 (G.map λb=>(f b.1,b.2)) ws (f x)=b7 G ws x
 | [],_,_,_=>rfl
 | _::_,[],_,_=>rfl
 | c::G,v::ws,x,h=>by
   change(if f c.1=f x then v else b7 (G.map λb=>(f b.1,b.2)) ws (f x))=if c.1=x then v else b7 G ws x
   rw[TN (bs:=bs) λb hb=>h b (dS (.inr hb))]
   by_cases e:c.1=x
   . rw[aB e,aB (by rw[e])]
   . rw[az e,az λz=>e (h c (dS (.inl rfl)) z)]
def QO {α:Type}{l:List α}{i:Nat}{a:α}(h:l[i]?=S a):l.reverse[↑l-1-i]?=S a:=by
 have hi:=(bt h)
 rw[Ux ⋯,show ↑l-1-(↑l-1-i)=i by lia]
 show h
def ahF {bs:ak}{ws:↥Int}{st:Int}{x:Str}(nd:(bs.map (·.1)).Nodup)(I:↑bs=↑ws)(hx:x∈bs.map (·.1)):b7 (bT st bs) (bT st ws) x=b7 bs ws x:=by
 unfold bT
 by_cases e:st=1
 . rw[aB e,aB e]
 . rw[az e,az e]
   obtain⟨b,hb,rfl⟩:=du hx
   obtain⟨i,hi⟩:=List.mem_iff_getElem?.mp hb
   have O:=(bt hi)
   obtain⟨G,hw⟩ : ∃G,ws[i]?=S G:=⟨ws[i]'⋯,bB ⋯⟩
   have h1:=QO hi
   have h2:=QO hw
   rw[← I]at h2
   rw[uD nd hi hw,uD (by rw[D1];have:=Kg (n:=0) nd;unfold bT at this;rw[az ∅]at this;show this) h1 h2]
theorem Qs {bs:ak}{f:Str->Str}{t:Int}:∀{G:ak} {ws:↥Int} {x:Str},(∀b∈G,f b.1=f x->b.1=x)->eC (G.map λb=>(f b.1,b.2)) ws (f x) t=eC G ws x t
 | [],_,_,_=>rfl
 | _::_,[],_,_=>rfl
 | c::G,v::ws,x,h=>by
   change(if f c.1=f x then t%c.2 else v)::eC (G.map λb=>(f b.1,b.2)) ws (f x) t=(if c.1=x then t%c.2 else v)::eC G ws x t
   rw[Qs (bs:=bs) λb hb=>h b (dS (.inr hb))]
   by_cases e:c.1=x
   . rw[aB e,aB (by rw[e])]
   . rw[az e,az λz=>e (h c (dS (.inl rfl)) z)]
def afL {bs:ak}{ws:↥Int}{st:Int}{x:Str}{t:Int}(G:↑bs=↑ws):eC (bT st bs) (bT st ws) x t=bT st (eC bs ws x t):=by
 unfold bT
 by_cases e:st=1
 . rw[aB e,aB e,aB e]
 . rw[az e,az e,az e]
   unfold eC
   rw[List.reverse_zipWith G]
theorem Qr {x:Str}{t:Int}:∀{bs:ak} {ws:↥Int},↑bs=↑ws->x∉bs.map (·.1)->eC bs ws x t=ws
 | [],[],_,_=>rfl
 | [],_::_,h,_=>by simp at h
 | _::_,[],h,_=>by simp at h
 | b::bs,w::ws,h,hx=>by
   change(if b.1=x then t%b.2 else w)::eC bs ws x t=w::ws
   rw[az (λe=>hx (dS (.inl e.symm))),Qr (by simpa using h) λz=>hx (dS (.inr z))]
theorem Qt {x:Str}:∀{bs:ak} {ws:↥Int},(bs.map (·.1)).Nodup->Paired Within (bs.map (·.2)) ws->eC bs ws x (b7 bs ws x)=ws
 | [],_,_,.nil=>rfl
 | b::bs,w::ws,nd,.cons r q=>by
   rw[jb,Ah]at nd
   have G:↑bs=↑ws:=by have:=Paired.length q;rwa[aA]at this
   change(if b.1=x then(if b.1=x then w else b7 bs ws x)%b.2 else w)::eC bs ws x (if b.1=x then w else b7 bs ws x)=w::ws
   by_cases e:b.1=x
   . rw[aB e,aB e,Int.emod_eq_of_lt r.1 r.2,Qr G (by rw[← e];show nd.1)]
   . rw[az e,az e,Qt nd.2 q]
theorem E.oy {f:Str->Str}{A:Str->Prop}{W W':Str->Int}(h:∀x,A x->W' (f x)=W x):∀e:E,e.okIn (λt y=>t="box"/\A y)->(e.dB f).worth (λz y=>W' y)=e.worth (λz y=>W y)
 | .num _,_=>rfl
 | .box _ x,k=>h x k.2
 | .yes,_=>rfl
 | .nt _,_=>rfl
 | .two .plus a b,k=>by change(a.dB f).worth _+(b.dB f).worth _=a.worth _+b.worth _;rw[E.oy h a k.1,E.oy h b k.2]
 | .two .less a b,k=>by change(a.dB f).worth _-(b.dB f).worth _=a.worth _-b.worth _;rw[E.oy h a k.1,E.oy h b k.2]
 | .two .same _ _,_=>rfl
 | .two .under _ _,_=>rfl
 | .two .both _ _,_=>rfl
theorem E.Cw {f:Str->Str}{A:Str->Prop}{W W':Str->Int}(h:∀x,A x->W' (f x)=W x):∀e:E,e.okIn (λt y=>t="box"/\A y)->(e.dB f).holds (λz y=>W' y)=e.holds (λz y=>W y)
 | .num _,_=>rfl
 | .box _ _,_=>rfl
 | .yes,_=>rfl
 | .nt a,k=>by change(!(a.dB f).holds _)=!a.holds _;rw[E.Cw h a k]
 | .two .plus _ _,_=>rfl
 | .two .less _ _,_=>rfl
 | .two .same a b,k=>by change decide ((a.dB f).worth _=(b.dB f).worth _)=decide (a.worth _=b.worth _);rw[E.oy h a k.1,E.oy h b k.2]
 | .two .under a b,k=>by change decide ((a.dB f).worth _<(b.dB f).worth _)=decide (a.worth _<b.worth _);rw[E.oy h a k.1,E.oy h b k.2]
 | .two .both a b,k=>by change((a.dB f).holds _&&(b.dB f).holds _)=(a.holds _&&b.holds _);rw[E.Cw h a k.1,E.Cw h b k.2]
section
variable{bs b':ak}{ins:↥Str}{cz:Bool}{st:Int}{ws:↥Int}
def Cm (G:mE bs ins)(o:nK bs ins cz st b')(I:↑bs=↑ws){x:Str}(hx:x∈bs.map (·.1)):b7 b' (bT st ws) (bA ins cz x)=b7 bs ws x:=by
 have inj:∀b∈bs,bA ins cz b.1=bA ins cz x->b.1=x:=λb hb e=>Dz G cz (d7 ⟨b,hb,rfl⟩) hx e
 have nd:((bs.map λb=>(bA ins cz b.1,b.2)).map (·.1)).Nodup:=by
   rw[jK]
   show List.pairwise_map.mpr (Us ?_ (List.pairwise_map.mp G.nd))
   intro a b ha hb O e
   show O (Dz G cz (d7 ⟨a,ha,U⟩) (d7 ⟨b,hb,U⟩) e)
 obtain⟨b,hb,rfl⟩:=du hx
 rw[o.bx,ahF nd (by rw[aA];show I) (by rw[jK];show d7 ⟨b,hb,rfl⟩),TN (bs:=bs) inj]
def P9 (G:mE bs ins)(o:nK bs ins cz st b')(I:↑bs=↑ws){x:Str}(hx:x∈bs.map (·.1)){t:Int}:eC b' (bT st ws) (bA ins cz x) t=bT st (eC bs ws x t):=by
 rw[o.bx,afL (by rw[aA];show I),Qs (bs:=bs) λb hb e=>Dz G cz (d7 ⟨b,hb,rfl⟩) hx e]
def adN (I:mE bs ins)(o:nK bs ins cz st b')(O:↑bs=↑ws){g:Int->Int}{m:Int}{d:Nat}{nd:Nd}(G:nd.good (·∈bs.map (·.1)) m d):iy b' (bT st ws) (nd.as (bA ins cz) g)=(iy bs ws nd).map λr=>(r.1,g r.2.1,bT st r.2.2):=by
 have hw:∀x,x∈bs.map (·.1)->b7 b' (bT st ws) (bA ins cz x)=b7 bs ws x:=λx hx=>Cm I o O hx
 cases nd with
 | fin=>rfl
 | put x s n=>
   change S ([],g n,eC b' (bT st ws) (bA ins cz x) ((s.dB (bA ins cz)).worth λw y=>b7 b' (bT st ws) y))=S ([],g n,bT st (eC bs ws x (s.worth λw y=>b7 bs ws y)))
   rw[E.oy (W':=b7 b' (bT st ws)) hw s G.2.2.1,P9 I o O G.1]
 | say s n=>
   change S ([(s.dB (bA ins cz)).worth λw y=>b7 b' (bT st ws) y],g n,bT st ws)=S ([s.worth λw y=>b7 bs ws y],g n,bT st ws)
   rw[E.oy (W':=b7 b' (bT st ws)) hw s G.2.1]
 | test c n k=>
   change S ([],(if((c.dB (bA ins cz)).holds λw y=>b7 b' (bT st ws) y)=true then g n else g k),bT st ws)=S ([],g (if(c.holds λw y=>b7 bs ws y)=true then n else k),bT st ws)
   rw[E.Cw (W':=b7 b' (bT st ws)) hw c G.2.1]
   by_cases z:(c.holds λw y=>b7 bs ws y)=true
   . rw[aB z,aB z]
   . rw[az z,az z]
def adM (G:mE bs ins)(o:nK bs ins cz st b')(I:Paired Within (bs.map (·.2)) ws){p:Int}{e:Nd}(h:u7 bs (bA ins cz) p e):iy b' (bT st ws) e=S ([],p,bT st ws):=by
 have O:↑bs=↑ws:=by have:=Paired.length I;rwa[aA]at this
 rcases h with⟨q,_,_,rfl⟩|⟨x,hx,rfl⟩
 . rfl
 . change S ([],p,eC b' (bT st ws) (bA ins cz x) (b7 b' (bT st ws) (bA ins cz x)))=_
   rw[Cm G o O hx,P9 G o O hx,Qt G.nd I]
def adL {G:↥Int}(I:mE bs ins)(o:nK bs ins cz st b'):gI b' ins G=bT st (gI bs ins G):=by
 have e:∀x∈bs.map (·.1),jz ins G (bA ins cz x)=jz ins G x:=λx hx=>by
   by_cases h1:x∈ins
   . unfold bA
     rw[aB h1]
   . have h2:bA ins cz x∉ins:=λz=>h1 ((ah1 I cz hx).mp z)
     rw[show jz ins G x=0 from zM (by rw[tX];show h1),show jz ins G (bA ins cz x)=0 from zM (by rw[tX];show h2)]
 unfold gI
 rw[o.bx,Si,jK]
 congr 1
 show DZ λb hb=>e b.1 (d7 ⟨b,hb,U⟩)
end
structure Vk (bs:ak)(ins:↥Str):Prop where
 zk:mE bs ins
 z2:∀x∈bs.map (·.1),x∉ins->∀y∈bs.map (·.1),x++"z"++"z"≠y
def aid {bs:ak}{ins:↥Str}(h:mz bs ins):Vk bs ins:=by
 obtain⟨nm,O,h1,h2,_,e⟩:=id h.nm
 have sub:∀x∈bs.map (·.1),x∈nm:=λx hx=>by
   obtain⟨b,hb,rfl⟩:=du hx
   rw[e]at hb
   show(rN (a:=b.1) (b:=b.2) hb).1
 have G:∀x∈nm,∀y∈nm,x++"z"≠y:=by rcases h1 with rfl|rfl|rfl<;>decide +kernel
 have I:∀x∈nm,∀y∈nm,x++"z"++"z"≠y:=by rcases h1 with rfl|rfl|rfl<;>decide +kernel
 show⟨⟨h.nd,λx hx w y hy=>G x (sub x hx) y (sub y hy),h.insub⟩,λx hx w y hy=>I x (sub x hx) y (sub y hy)⟩
abbrev Q8:Stmt:=top 64
abbrev QY:Stmt:=top 63
def eQ (f:Str->Str)(bs:ak):E:=bs.foldl (λe b=>.two .both (.two .same (.box "mine" b.1) (.box "yours" (f b.1))) e) .yes
def Js (f:Str->Str)(bs:ak)(b:Str×Int):eQ f (bs++[b])=.two .both (.two .same (.box "mine" b.1) (.box "yours" (f b.1))) (eQ f bs):=by
 unfold eQ
 rw[List.foldl_append]
 rfl
def R1 {α:Type}{P:List α->Prop}(G:P [])(h1:∀l a,P l->P (l++[a]))(l:List α):P l:=by
 have:∀m:List α,P m.reverse:=λm=>by
   induction m with
   | nil=>show G
   | cons a m I=>rw[Ai];show h1 _ _ I
 rw[← List.reverse_reverse l]
 show this _
def agf (f:Str->Str)(b1 b2:ak)(bs:ak)(h1:∀b∈bs,b.1∈b1.map (·.1))(h2:∀b∈bs,f b.1∈b2.map (·.1)):(eQ f bs).fj/\(eQ f bs).okIn (iH b1 b2)/\(eQ f bs).dep<=↑bs+1:=by
 revert h1 h2
 show R1 (P:=λbs=>(∀b∈bs,b.1∈b1.map (·.1))->(∀b∈bs,f b.1∈b2.map (·.1))->(eQ f bs).fj/\(eQ f bs).okIn (iH b1 b2)/\(eQ f bs).dep<=↑bs+1) ?_ (λl b G h1 h2=>?_) bs
 . show λz z=>⟨bK,bK,fL _⟩
 . obtain⟨I,O,i3⟩:=G (λb hb=>h1 b (i5 (.inl hb))) (λb hb=>h2 b (i5 (.inl hb)))
   have hb:b∈l++[b]:=i5 (.inr (List.mem_singleton.mpr rfl))
   rw[Js]
   show⟨⟨⟨bK,bK⟩,I⟩,⟨⟨.inl ⟨U,h1 b hb⟩,.inr ⟨U,h2 b hb⟩⟩,O⟩,?_⟩
   rw[cJ]
   change max (max 0 0+1) (eQ f l).dep+1<=↑l+1+1
   lia
def age (f:Str->Str)(W:Str->Str->Int)(bs:ak):(eQ f bs).holds W=true↔∀b∈bs,W "mine" b.1=W "yours" (f b.1):=by
 show R1 (P:=λbs=>(eQ f bs).holds W=true↔∀b∈bs,W "mine" b.1=W "yours" (f b.1)) ?_ (λl b G=>?_) bs
 . show⟨λy b hb=>(nomatch hb),λy=>rfl⟩
 . rw[Js]
   change(decide (W "mine" b.1=W "yours" (f b.1))&&(eQ f l).holds W)=true↔_
   rw[j8,decide_eq_true_iff,G]
   constructor
   . rintro⟨h1,h2⟩ c hc
     rcases eT hc with z|z
     . show h2 c z
     . rw[dv z];show h1
   . show λh=>⟨h b (i5 (.inr (List.mem_singleton.mpr rfl))),λc hc=>h c (i5 (.inl hc))⟩
def JL:Sp:=λvs H Q z=>∃(B c:J) (G:↥V) (bs:ak) (f:Str->Str),vs=[.ref B,.ref c]/\H B=S (.lst G)/\Paired (eX H) G bs/\jt H c (bs.map (·.1)) f /\
 ∀(v:V) (H':Hp),ag H H'->bL H' v (eQ f bs)->Q v H'
def zC:bE ["boxes","called","found","name","size"] ["boxes","called"] (aV QY):=bP
def aco {f:J}{fd:ba}(F:bq K "_law_all_same" "_law_all_same" QY f fd)  : aU P w K mg base bj 1 f fd ["boxes","called"] JL:=by
 show F.bZ zC λim A outer s H vs Q E hr h=>?_
 obtain⟨B,c,vb,bs,f,rfl,hB,pb,hc,q⟩:=h
 show cK ⟨_,(ajH (ajT 2 zC.nd (ajO (L ajL M)))
   (ajH (aj8 (aj4 (Y 0)) (aj1 2 (ajQ (ajK 3 zC.nd) (ajQ (ajK 4 zC.nd) aj2))) (ajI (ajT 2 zC.nd (ajO (L ajL (L (ajO (L ajL (L (ajO (L ajL (L (Y 3) M))) (L (ajO (L ajL (L (akk (cI hr _ ∅) (Y 1) (Y 3)) M))) M)))) (L (Y 2) M)))))))
   (ajI (ajN (Y 2))))),?_⟩
 show⟨alJ,λy0 hy0=>?_⟩
 obtain⟨H1,s0,g0,G⟩:=aT hy0 (.tup [.str "yes"])
 rw[G];clear G
 have vl:=Paired.length pb
 show aa U (aL U ⟨_,af.of (s0 _ _ hB)⟩ (nS (xs:=vb) (λi σ H2=>∃(v:V) (o3 o4:Option V),σ=[S (.ref B),S (.ref c),S v,o3,o4]/\ag H H2/\bL H2 v (eQ f (bs.take i))) ⟨_,_,aa U ⟨s0,⟨y0,U,g0⟩⟩⟩ (λi σ H2 y z=>?_) (λi x σ H2 hx z=>?_) (λσ H2 z=>?_)))
 . obtain⟨v,o3,o4,rfl,I,_⟩:=z
   show af.of (I _ _ hB)
 . obtain⟨v,o3,o4,rfl,I,ev⟩:=z
   obtain⟨b,dt,jH,rfl,gX⟩:=Paired.get pb hx
   have F8:b.1∈bs.map (·.1):=d7 ⟨b,bI dt,rfl⟩
   show gC (I _ _ gX) (aL U alK (λt1 h1=>?_))
   obtain⟨H3,s3,g1,G⟩:=aT h1 (.tup [.str "mine",.str b.1])
   rw[G];clear G
   obtain⟨kvs,hk,hv⟩:=hc.same (ah I s3)
   have dg:=dN.k (k:=.inr b.1) hk
   rw[hv _ F8]at dg
   show aa U (aa U ⟨c,aa U ⟨dg,alK,λt2 h2=>?_⟩⟩)
   obtain⟨H4,s4,g2,G⟩:=aT h2 (.tup [.str "yours",.str (f b.1)])
   rw[G];clear G
   show⟨alL,λt3 h3=>?_⟩
   obtain⟨H5,s5,g3,G⟩:=aT h3 (.tup [.str "same",.ref t1,.ref t2])
   rw[G];clear G
   show aL U alL (λt4 h4=>?_)
   obtain⟨H6,s6,g4,G⟩:=aT h4 (.tup [.str "both",.ref t3,v])
   rw[G];clear G
   have O:=ah s3 (ah s4 (ah s5 s6))
   show⟨.ref t4,_,aa U ⟨ah I O,?_⟩⟩
   rw[cV,dt]
   change bL H6 _ (eQ f (bs.take i++[b]))
   rw[Js]
   show⟨_,_,⟨t4,U,g4⟩,⟨_,_,⟨t3,U,s6 _ _ g3⟩,⟨t1,U,s6 _ _ (s5 _ _ (s4 _ _ g1))⟩,⟨t2,U,s6 _ _ (s5 _ _ g2)⟩⟩,ev.keep (ag.tk O)⟩
 obtain⟨v,o3,o4,rfl,I,ev⟩:=z
 rw[vl,cL]at ev
 show aa U (q v H2 I ev)
def nV (cr:↥Nd)(ps aJ:↥Int)(c:E)(p:Nat):↥Ef:=⟨⟨(p:Int),ps.getD p 0,c⟩,if dz (cr.getD p .fin)="end" then "end" else "both",.num 0⟩::if aJ.getD p 0=ps.getD p 0 then[]else[⟨⟨(p:Int),aJ.getD p 0,c⟩,"yours",.num 1⟩]
def jA (cr:↥Nd)(ps aJ:↥Int)(c:E):Nat->↥Ef
 | 0=>[]
 | n+1=>jA cr ps aJ c n++nV cr ps aJ c n
def X8 (cr:↥Nd)(ps aJ:↥Int)(c:E)(p:Nat):↑(nV cr ps aJ c p)<=2:=by
 unfold nV
 rw[gF]
 by_cases e:aJ.getD p 0=ps.getD p 0
 . rw[aB e];show Nat.succ_le_succ (fL _)
 . rw[az e];show aK _
theorem FY (cr:↥Nd)(ps aJ:↥Int)(c:E):∀n,↑(jA cr ps aJ c n)<=2*n
 | 0=>aK _
 | n+1=>by
   change(jA cr ps aJ c n++nV cr ps aJ c n).length<=_
   rw[cJ]
   have h1:=FY cr ps aJ c n
   have h2:=X8 cr ps aJ c n
   lia
structure sN (H:Hp)(l:J)(es:↥Ef):Prop where
 ex:∃on,H l=S (.lst on)/\Paired (f9 H) on es
def sN.snoc {H:Hp}{l t:J}{G:↥V}{es:↥Ef}{f:Ef}(h1:H l=S (.lst G))(h2:Paired (f9 H) G es)(I:f9 H (.ref t) f):sN (upd H l (.lst (G++[.ref t]))) l (es++[f]):=by
 have kk:TK H (upd H l (.lst (G++[.ref t]))):=λd xs z=>by rw[aC (i6 z h1 (λz=>nomatch z))];show z
 show⟨_,ai,Paired.snoc (Paired.bc h2 λy y z=>z.keep kk) (I.keep kk)⟩
def R8:Sp:=λvs H Q z=>∃(v:V) (c pl G:J) (bs:ak) (ins:↥Str) (cr:↥Nd) (f:Str->Str) (ps aJ:↥Int),vs=[v,.ref c,.ref pl,.ref G]/\cu H v bs ins cr/\jt H c (bs.map (·.1)) f/\H pl=S (.lst (ps.map V.int))/\H G=S (.lst (aJ.map V.int))/\↑ps=↑cr/\↑aJ=↑cr/\↑cr<=100 /\
 ∀(l:J) (H':Hp),ag H H'->H l=Z->sN H' l (jA cr ps aJ (eQ f bs) ↑cr)->Q (.ref l) H'
def zE:bE ["program","called","places","behind","same","found","p","who"] ["program","called","places","behind"] (aV Q8):=bP
def acF {f:J}{fd:ba}(F:bq K "_law_good_paper" "_law_good_paper" Q8 f fd)(m_len:mg "len"=Z)(O:mg "range"=Z)(m_int:mg "int"=Z)(AS:aP P w K mg base "_law_all_same" ["boxes","called"] 1 JL):aU P w K mg base bj 2 f fd ["program","called","places","behind"] R8:=by
 show F.bZ zE λim A outer s H vs Q E hr h=>?_
 obtain⟨v,c,pl,bh,bs,ins,cr,f,ps,aJ,rfl,⟨p0,B,I,N,vb,vn,rfl,hp,hB,hI,hN,pb,pn⟩,hc,Ev,nW,pll,bll,cC,q⟩:=h
 show cK ⟨_,(ajH (ajT 4 zE.nd (ajR AS hr U (L (ajG ajM (Y 0) ajF) (L (Y 1) M))))
   (ajH (ajT 5 zE.nd (ajW M))
   (ajH (aj8 (akr U O (L (aj0 aj5 U m_len eE (L (Y 2) M)) M)) (ajK 6 zE.nd) (ajH (ajT 7 zE.nd (ajG ajP (ajW (L ajL (L ajL M))) (aka akA U m_int (by right) (L (akc ajZ (ajG ajM (ajG ajP (ajG ajM (Y 0) ajF) (Y 6)) ajF) ajL) M))))
   (ajH (akb (akn (Y 5) (L (ajO (L (Y 6) (L (ajG ajP (Y 2) (Y 6)) (L (Y 4) (L (Y 7) (L (ajO (L ajL (L ajF M))) M)))))) M)))
   (ajI (ajU (ajS L3.Ip (ajG ajP (Y 3) (Y 6)) (ajG ajP (Y 2) (Y 6))) (ajI (akb (akn (Y 5) (L (ajO (L (Y 6) (L (ajG ajP (Y 3) (Y 6)) (L (Y 4) (L ajL (L (ajO (L ajL (L ajF M))) M)))))) M)))) ajV)))))
   (ajI (ajN (Y 5)))))),?_⟩
 have vnl:=Paired.length pn
 show bW λRk kR=>aa U (aF hp U (aa U ⟨B,c,vb,bs,f,U,hB,pb,hc,λsv H1 s1 ev=>?_⟩))
 generalize eQ f bs=cs at ev q
 show bO (kR _ _ (bW λRk kR=>⟨alI,λl hl=>?_⟩))
 have s2:=ah s1 (aH hl (.lst []))
 show bO (kR _ _ (aa U (aw U (.inl (af.of (s2 _ _ Ev))) (aa U ⟨by rw[aA];lia,by rw[aA];lia,xU (lo:=0) (n:=(↑(ps.map V.int):Int).toNat) (λi σ H2=>(∃o6 o7,σ=[S (.ref p0),S (.ref c),S (.ref pl),S (.ref bh),S sv,S (.ref l),o6,o7])/\ag H1 H2/\sN H2 l (jA cr ps aJ cs i)) ⟨⟨_,_,U⟩,aH hl _,[],ai,.nil⟩ (λi σ H2 hi z=>?_) (λσ H2 z=>?_)⟩))))
 . obtain⟨⟨o6,o7,rfl⟩,sx,on,GZ,G⟩:=z
   rw[aA,gE]at hi
   have hin:i<↑cr:=⋯
   have NE:=ah s1 sx
   have pN:cr[i]?=S (cr.getD i .fin):=by rw[eR,bB hin];rfl
   have Ow:ps[i]?=S (ps.getD i 0):=by rw[eR,bB ⋯];rfl
   have N4:aJ[i]?=S (aJ.getD i 0):=by rw[eR,bB ⋯];rfl
   have gs:jA cr ps aJ cs (i+1)=jA cr ps aJ cs i++nV cr ps aJ cs i:=rfl
   unfold nV at gs
   have fw:=FY cr ps aJ cs i
   generalize cr.getD i .fin=nd at pN gs
   generalize ps.getD i 0=pz at Ow gs
   generalize aJ.getD i 0=bz at N4 gs
   generalize jA cr ps aJ cs i=es at G gs fw
   have i0:0+(i:Int)=(i:Nat):=zZ _
   obtain⟨nv,ZM,ZN⟩:=Paired.vq pn pN
   obtain⟨np,nx,rfl,Oo⟩:=ZN.kind
   generalize dz nd=kd at gs Oo
   have YK:de vn (0+(i:Int))=S (.ref np):=by rw[i0];show gH ZM
   have NZ:de (ps.map V.int) (0+(i:Int))=S (.int pz):=by rw[i0];show gH (by rw[eI,Ow];rfl)
   have NY:de (aJ.map V.int) (0+(i:Int))=S (.int bz):=by rw[i0];show gH (by rw[eI,N4];rfl)
   have pvl:=Paired.length G
   show bO (bW λRk kR=>⟨alK,λwl hwl=>?_⟩)
   obtain⟨H3,s3,g3,zz⟩:=aT hwl (.lst [.str "both",.str "end"])
   rw[zz];clear zz
   have vR:de ([V.str "both",V.str "end"]:↥V) (if decide (V.str kd=V.str "end")=true then 1 else 0)=S (.str (if kd="end" then "end" else "both")):=by
     by_cases cc:kd="end"
     . rw[aB cc,aB (bS (by rw[cc]))];rfl
     . rw[az cc,az (λz=>cc (by have:=bw z;injection this))];rfl
   generalize(if kd="end" then("end":Str)else "both")=wh at vR gs
   have Db:=ah NE s3
   show aa U (aF (Db _ _ hp) U (aa U (aX (Db _ _ hN) YK ?_)))
   show aF (Db _ _ Oo) (show de _ ((0:Nat):Int)=_ from gH rfl) ?_
   show⟨U,.inr (aa U ⟨wl,_,aw U U ⟨af.of g3,vR,bO (kR _ _ (bW λRk kR=>aa U ⟨.inl ⟨U,_,af.of (s3 _ _ GZ)⟩,aa U (aa U (aa U (aX (Db _ _ Ev) NZ (aa U (aL U alK (λu1 jE=>⟨alO,λu2 n9=>?_⟩))))))⟩))⟩⟩)⟩
   obtain⟨H4,s4,Xt,g4,zz⟩:=OZ jE n9 (.tup [.int (0+(i:Int)),.int pz,sv,.str wh,.ref u1])
   rw[zz];clear zz
   rw[i0]at g4
   have s34:=ah s3 s4
   show⟨l,aw U U ⟨s34 _ _ GZ,da ⋯,?_⟩⟩
   have IA:=sN.snoc (f:=⟨⟨(i:Nat),pz,cs⟩,wh,.num 0⟩) (s34 _ _ GZ) (Paired.bc G λy y z=>z.keep (ag.tk s34)) ⟨sv,.ref u1,⟨u2,rfl,g4⟩,ev.keep (ag.tk (ah sx s34)),⟨u1,rfl,Xt⟩⟩
   have sA:ag H1 (upd H4 l (.lst (on++[.ref u2]))):=cD (ah sx s34) hl
   generalize upd H4 l (.lst (on++[.ref u2]))=HA at IA sA ⊢
   show kR _ _ ?_
   have s0A:=ah s1 sA
   show aa U (aa U (aX (s0A _ _ nW) NY (aa U (aa U (aX (s0A _ _ Ev) NZ (aN U U (aG (λcc=>?_) (λcc=>⟨⟨_,_,U⟩,sA,?_⟩))))))))
   . have ne:¬ bz=pz:=by simpa using cc
     rw[az ne]at gs
     obtain⟨vpA,hA,pA⟩:=IA
     have pvA:=Paired.length pA
     rw[cJ,UB]at pvA
     show aa U ⟨.inl ⟨U,_,af.of hA⟩,aa U (aa U (aa U (aX (s0A _ _ nW) NY (aL U alK (λu3 tT=>⟨alO,λu4 yI=>?_⟩)))))⟩
     obtain⟨H5,s5,Xw,g5,zz⟩:=OZ tT yI (.tup [.int (0+(i:Int)),.int bz,sv,.str "yours",.ref u3])
     rw[zz];clear zz
     rw[i0]at g5
     show⟨l,aw U U ⟨s5 _ _ hA,da ⋯,⟨_,_,U⟩,cD (ah sA s5) hl,?_⟩⟩
     have Qb:=sN.snoc (f:=⟨⟨(i:Nat),bz,cs⟩,"yours",.num 1⟩) (s5 _ _ hA) (Paired.bc pA λy y z=>z.keep (ag.tk s5)) ⟨sv,.ref u3,⟨u4,rfl,g5⟩,ev.keep (ag.tk (ah sA s5)),⟨u3,rfl,Xw⟩⟩
     rw[gs]
     rw[z7]at Qb
     show Qb
   . have e:bz=pz:=by simpa using cc
     rw[gs,aB e]
     show IA
 obtain⟨⟨o6,o7,rfl⟩,sx,G⟩:=z
 rw[aA,gE,pll]at G
 show aa U (q l H2 (ah s1 sx) (b9 s1 hl) G)
def Fi {es:↥Ef}{W:Str->Str->Int}{p q:Int}{f:Ef}(hf:f∈es)(G:f.e.p=p)(hq:f.e.q=q)(hc:f.e.c.holds W=true):∃g,df es W p q=S g:=by
 cases e:df es W p q with
 | some g=>show⟨g,rfl⟩
 | none=>
   have:=List.find?_eq_none.mp e f hf
   show ao (show(kP f.e p q&&f.e.c.holds W)=true by rw[hc,Bool.and_true];show bS ⟨G,hq⟩) this
def VL {es:↥Ef}{W:Str->Str->Int}{p q:Int}{f:Ef}(h:df es W p q=S f):f.e.c.holds W=true:=let⟨_,_,_,_,_,k,_⟩:=xN h;k
theorem qJ {cr:↥Nd}{ps aJ:↥Int}{c:E}{f:Ef}:∀{n:Nat},f∈jA cr ps aJ c n↔∃p,p<n/\f∈nV cr ps aJ c p
 | 0=>⟨λh=>(nomatch h),λ⟨_,h,_⟩=>ao h (oM _)⟩
 | n+1=>by
   change f∈jA cr ps aJ c n++nV cr ps aJ c n↔_
   rw[La,qJ]
   constructor
   . rintro(⟨p,h1,h2⟩|h)
     . show⟨p,⋯,h2⟩
     . show⟨n,⋯,h⟩
   . rintro⟨p,h1,h2⟩
     by_cases e:p=n
     . subst e;show .inr h2
     . show .inl ⟨p,⋯,h2⟩
def tF {cr:↥Nd}{ps aJ:↥Int}{c:E}{p:Nat}{f:Ef}:f∈nV cr ps aJ c p↔f=⟨⟨(p:Int),ps.getD p 0,c⟩,if dz (cr.getD p .fin)="end" then "end" else "both",.num 0⟩ \/ (aJ.getD p 0≠ps.getD p 0/\f=⟨⟨(p:Int),aJ.getD p 0,c⟩,"yours",.num 1⟩):=by
 unfold nV
 rw[fz]
 by_cases e:aJ.getD p 0=ps.getD p 0
 . rw[aB e]
   show⟨λh=>h.elim .inl (λh=>(nomatch h)),λh=>h.elim .inl (λh=>ao e h.1)⟩
 . rw[az e,Ld]
   show⟨λh=>h.elim .inl (λh=>.inr ⟨e,h⟩),λh=>h.elim .inl (λh=>.inr h.2)⟩
def X9 {cr:↥Nd}{ps aJ:↥Int}{c:E}{n:Nat}{f:Ef}(h:f∈jA cr ps aJ c n):f.e.c=c:=by
 obtain⟨p,_,h⟩:=qJ.mp h
 rcases tF.mp h with rfl|⟨_,rfl⟩<;>rfl
def Df {α:Type}(n:Int)(xs:List α):↑(bT n xs)=↑xs:=by
 unfold bT
 split
 . rfl
 . show K7
section
variable{bs b':ak}{ins:↥Str}{cz:Bool}{st:Int}{cr ii:↥Nd}{ps aJ:↥Int}
def same_iff (I:mE bs ins)(G:(b'.map (·.1)).Nodup)(o:nK bs ins cz st b'){m y:↥Int}(hm:m∈aE bs)(hy:y∈aE b'):(eQ (bA ins cz) bs).holds (eY bs m b' y)=true↔y=bT st m:=by
 have O:↑bs=↑m:=by have:=tG _ _ hm;rw[aA]at this;show this.symm
 have ly:↑b'=↑y:=by have:=tG _ _ hy;rw[aA]at this;show this.symm
 have lb:↑b'=↑bs:=by rw[o.bx,Df,aA]
 rw[age]
 have mi:∀x,eY bs m b' y "mine" x=b7 bs m x:=λx=>aB rfl
 have yo:∀x,eY bs m b' y "yours" x=b7 b' y x:=λx=>az ∅
 constructor
 . intro h
   apply List.ext_getElem?
   intro i
   by_cases hi:i<↑y
   . have kJ:i<↑(bT st m):=by rw[Df];lia
     obtain⟨b,hb⟩ : ∃b,b'[i]?=S b:=⟨_,bB ⋯⟩
     rw[bB hi,bB kJ]
     have e1:=uD G hb (bB hi)
     have e2:=uD G hb (bB kJ)
     have lV:=bI hb
     rw[o.bx]at lV
     obtain⟨a,ha,rfl⟩:=du (zH.mp lV)
     have e3:=h a ha
     rw[mi,yo]at e3
     have e4:=Cm I o O (d7 ⟨a,ha,rfl⟩)
     rw[← e1,← e2]
     change S (b7 b' y (bA ins cz a.1))=S (b7 b' (bT st m) (bA ins cz a.1))
     rw[← e3,e4]
   . rw[Uw ⋯,Uw (by rw[Df];lia)]
 . rintro rfl b hb
   rw[mi,yo]
   show(Cm I o O (d7 ⟨b,hb,U⟩)).symm
def X7 (zk:mE bs ins)(I:(b'.map (·.1)).Nodup)(F1:Fits bs ins)(F2:Fits b' ins)(sz:ins.map (cb bs)=ins.map (cb b'))(o:nK bs ins cz st b')(no:sH bs (bA ins cz) cr ii ps aJ)(good:∀e∈cr,e.good (·∈bs.map (·.1)) ↑cr 5)(O:∀e∈ii,e.good (·∈b'.map (·.1)) ↑ii 5)(one:1<=↑cr):Good bs b' ins cr ii (jA cr ps aJ (eQ (bA ins cz) bs) ↑cr):=by
 have pG:∀{k b:Nat},aJ[k]?=S (b:Int)->eG aJ (k:Int)=(b:Int)/\aJ.getD k 0=(b:Int):=λh=>by
   unfold eG
   rw[eR,eR,gE,h]
   show⟨U,U⟩
 have G:∀{k:Nat} {m y:↥Int},k<↑cr->m∈aE bs->y∈aE b'->y=bT st m->∃g,df (jA cr ps aJ (eQ (bA ins cz) bs) ↑cr) (eY bs m b' y) (k:Int) (eG aJ (k:Int))=S g:=λ{k m y} hk hm hy e=>by
   obtain⟨p,b,h1,h2,_⟩:=no.all k cr[k] (bB hk)
   obtain⟨g1,g2⟩:=pG h2
   have hh:=(same_iff zk I o hm hy).mpr e
   by_cases eb:aJ.getD k 0=ps.getD k 0
   . show Fi (qJ.mpr ⟨k,hk,tF.mpr (.inl rfl)⟩) rfl (by change ps.getD k 0=_;rw[← eb,g1,g2]) hh
   . show Fi (qJ.mpr ⟨k,hk,tF.mpr (.inr ⟨eb,U⟩)⟩) rfl (by change aJ.getD k 0=_;rw[g1,g2]) hh
 show⟨λws ma=>?_,λm hm y hy p q f hf=>?_⟩
 . obtain⟨i,j,hi,hj⟩:=Me F1 F2 sz ma
   have:=G (k:=0) one (bI hi) (bI hj) (adL zk o)
   have z:eG aJ ((0:Nat):Int)=0:=(pG (k:=0) (b:=0) no.zero).1
   rw[z]at this
   show this
 . obtain⟨rfl,rfl,lV,_⟩:=xN hf
   have hc:=VL hf
   rw[X9 lV]at hc
   have ey:=(same_iff zk I o hm hy).mp hc
   obtain⟨k,hk,nY⟩:=qJ.mp lV
   have vO:cr[k]?=S cr[k]:=bB hk
   obtain⟨p,b,h1,h2,h3,h4,h5,h6⟩:=no.all k cr[k] vO
   have gp:ps.getD k 0=(p:Int):=by rw[eR,h1];rfl
   obtain⟨Nt,Bs⟩:=pG h2
   have Ny:cr.getD k .fin=cr[k]:=by rw[eR,vO];rfl
   have lm:↑bs=↑m:=by have:=tG _ _ hm;rw[aA]at this;show this.symm
   have gd:=good _ (bI vO)
   generalize cr[k]=e at vO h5 h6 Ny gd
   rcases tF.mp nY with rfl|⟨ne,rfl⟩
   . show⟨zW _,e,e.as (bA ins cz) (eG aJ),by change cr[((k:Nat):Int).toNat]?=_;rw[gE];show vO,by change ii[(ps.getD k 0).toNat]?=_;rw[gp,gE];show h5,?_⟩
     change if(if dz (cr.getD k .fin)="end" then("end":Str)else "both")="end" then _ else _
     rw[Ny]
     by_cases ef:e=.fin
     . subst ef
       rw[aB (show(if dz Nd.fin="end" then("end":Str)else "both")="end" from aB rfl)]
       show⟨U,U⟩
     . have kn:¬ dz e="end":=by
         cases e with
         | fin=>show ao rfl ef
         | put _ _ _=>change ¬ (("put":Str)="end");decide
         | say _ _=>change ¬ (("say":Str)="end");decide
         | test _ _ _=>change ¬ (("test":Str)="end");decide
       have wb:(if dz e="end" then("end":Str)else "both")="both":=az kn
       rw[az (by rw[wb];decide)]
       obtain⟨⟨wn,to,m'⟩,hs⟩ : ∃r,iy bs m e=S r:=by
         cases e with
         | fin=>show ao rfl ef
         | put _ _ _=>show⟨_,rfl⟩
         | say _ _=>show⟨_,rfl⟩
         | test _ _ _=>show⟨_,rfl⟩
       have PP:=adN zk o lm (g:=eG aJ) gd
       rw[hs]at PP
       obtain⟨t0,t1,pw,_⟩:=Dg F1.sz (pf hm) gd hs
       have pL:m'∈aE bs:=og pw
       obtain⟨i2,kJ⟩ : ∃i,(aE b')[i]?=S (bT st m'):=by
         show j9 (og (Dg F2.sz (pf hy) (O _ (bI h5)) (r:=(wn,eG aJ to,bT st m')) ?_).2.2.1)
         rw[ey,PP]
         rfl
       obtain⟨tn,rfl⟩ : ∃tn:Nat,to=(tn:Int):=⟨to.toNat,by rw[zY t0]⟩
       obtain⟨g,hg⟩:=G (k:=tn) (by have t1':(tn:Int)<↑cr:=t1;lia) pL (bI kJ) rfl
       show⟨wn,(tn:Int),m',eG aJ (tn:Int),bT st m',g,?_,?_,hg,.inl wb⟩
       . change j6 bs (decide ((if dz e="end" then("end":Str)else "both")="yours")) _ m e=_
         rw[wb]
         show hs
       . change j6 b' (decide ((if dz e="end" then("end":Str)else "both")="mine")) _ y _=_
         rw[wb,ey]
         show PP
   . rw[gp,Bs]at ne
     rcases h6 with rfl|⟨e',h7,h8⟩
     . show ao rfl ne
     have hh:=(same_iff zk I o hm hy).mpr ey
     obtain⟨g,hg⟩:=Fi (W:=eY bs m b' y) (qJ.mpr ⟨k,hk,tF.mpr (.inl rfl)⟩) rfl rfl (show(eQ (bA ins cz) bs).holds (eY bs m b' y)=true from hh)
     show⟨show(0:Int)<=1 by left,e,e',by change cr[((k:Nat):Int).toNat]?=_;rw[gE];show vO,by change ii[(aJ.getD k 0).toNat]?=_;rw[Bs,gE];show h7,?_⟩
     rw[az (show ¬ ("yours":Str)="end" by left)]
     show⟨[],(k:Int),m,(p:Int),bT st m,g,?_,?_,?_,.inr ?_⟩
     . rfl
     . change j6 b' (decide (("yours":Str)="mine")) _ y e'=_
       rw[ey]
       show adM zk o (pf hm) h8
     . rw[← ey,← gp]
       show hg
     . obtain⟨q1,q2,q3,_⟩:=xN hg
       obtain⟨k2,aiV,By⟩:=qJ.mp q3
       rcases tF.mp By with rfl|⟨ne2,rfl⟩
       . change(0:Int)<1
         decide
       . have ek:k2=k:=zX q1
         subst ek
         show ao q2 ne2
end
def oW.congr {b1 b2:ak}{n1 n2:↥Nd}{es G:↥Ef}{f:Ef}{m y:↥Int}(h:∀W p q,df G W p q=df es W p q)(w:oW b1 b2 n1 n2 es f m y):oW b1 b2 n1 n2 G f m y:=by
 have:df G=df es:=funext λW=>funext λp=>funext λq=>h W p q
 unfold oW at w ⊢
 rw[this]
 show w
abbrev Jk:Stmt:=top 30
def agr:bE ["one","other"] ["one","other"] (aV Jk):=bP
structure qD (H:Hp)(v1 v2:V)(b1 b2:ak)(i1 i2:↥Str)(n1 n2:↥Nd):Prop where
 p1:cu H v1 b1 i1 n1
 p2:cu H v2 b2 i2 n2
 f1:Fits b1 i1
 f2:Fits b2 i2
def qD.same {H H':Hp}{v1 v2:V}{b1 b2:ak}{G I:↥Str}{n1 n2:↥Nd}(h:qD H v1 v2 b1 b2 G I n1 n2)(s:ag H H'):qD H' v1 v2 b1 b2 G I n1 n2:=⟨h.p1.same s,h.p2.same s,h.f1,h.f2⟩
abbrev r9 (b1 b2:ak)(i1 i2:↥Str):Prop:=i1=i2/\i1.map (cb b1)=i2.map (cb b2)
def wK (C:J):Sp:=λvs H Q X=>∃(v1 v2:V) (b1 b2:ak) (G I:↥Str) (n1 n2:↥Nd),vs=[v1,v2]/\qD H v1 v2 b1 b2 G I n1 n2/\(r9 b1 b2 G I->∀H',ag H H'->Q .aM H')/\(¬ r9 b1 b2 G I->∀H',ag H H'->X (.ref C) Z H')
def Pz {p:Prop}[Decidable p](c:(!decide p)=true):¬ p:=λh=>by rw[bS h]at c;cases c
def Px {p:Prop}[Decidable p](c:¬ (!decide p)=true):p:=by
 by_cases h:p
 . show h
 . rw[fU h]at c
   show ao rfl c
def acP {C T:J}{f:J}{fd:ba}(F:bq K "refuse_no_pair" "refuse_no_pair" Jk f fd)(cN:Xc K mg "NoPair" C (.ref T::vE))(IS:aP P w K mg base "input_sizes" ["program"] 1 um):aU P w K mg base (ib P w base) 2 f fd ["one","other"] (wK C):=by
 show F.Iv agr (λvs H Q E h=>?_) (λim A outer s H vs Q E G h=>?_)
 . obtain⟨v1,v2,b1,b2,i1,i2,n1,n2,rfl,_⟩:=h
   rfl
 . obtain⟨v1,v2,b1,b2,i1,i2,n1,n2,rfl,T,q,qx⟩:=h
   show cK ⟨_,(ajI (ajU (akm (akj (ajS (L3.v5 (m:=0) (cI G _ ∅)) (ajG ajM (Y 0) ajF) (ajG ajM (Y 1) ajF)) (aks (ajS (L3.v5 (m:=0) (cI G _ ∅)) (ajR IS G U (L (Y 0) M)) (ajR IS G U (L (Y 1) M)))))) (ajI (L3.afT afU cN U U (L ajL M))) ajV)),?_⟩
   obtain⟨p,B,I,N,vb,vn,rfl,hp,hB,hI,hN,pb,pn⟩:=T.p1
   obtain⟨p',B',I',N',TH,Kq,rfl,jk,NH,Bu,F6,Qe,II⟩:=T.p2
   show aa U (aF hp U (aa U (aF jk U ⟨_,RB.strs hI Bu,aa U (aG (λc=>oh ?_) (λc=>?_))⟩)))
   . show aa U (qx (λz=>Pz c z.1) _ (same_refl _))
   have ei:=Px c
   show aa U ⟨_,b1,i1,n1,U,T.p1,T.f1,λl1 H1 EQ O g1=>aa U ⟨_,b2,i2,n2,U,T.p2.same O,T.f2,λl2 H2 wP s2 g2=>⟨_,RB.ints (s2 _ _ g1) g2,aa U (aG (λc=>?_) (λc=>?_))⟩⟩⟩
   . show aa U (qx (λz=>Pz c z.2) _ (ah O s2))
   . show q ⟨ei,Px c⟩ _ (ah O s2)
def Yz {C T:J}(s:Src K mg "refuse_no_pair" Jk)(G:Xc K mg "NoPair" C (.ref T::vE))(I:aP P w K mg base "input_sizes" ["program"] 1 um):nJ P w K mg base "refuse_no_pair" ["one","other"] 2 (wK C):=
 let⟨f,fd,F,m⟩:=s
 ⟨f,fd,acP F G I,F.kp,je F λz z z z z z z z=>rfl,m⟩
def JZ (C:J):Sp:=λvs H Q X=>∃(v1 v2 O:V) (b1 b2:ak) (G I:↥Str) (n1 n2:↥Nd),vs=[v1,v2,O]/\qD H v1 v2 b1 b2 G I n1 n2/\¬ r9 b1 b2 G I/\∀H',ag H H'->X (.ref C) Z H'
def JT (C:J):Sp:=λvs H Q X=>∃(v1 v2 O kv:V) (b1 b2:ak) (G I:↥Str) (n1 n2:↥Nd),vs=[v1,v2,O,kv]/\qD H v1 v2 b1 b2 G I n1 n2/\¬ r9 b1 b2 G I/\∀H',ag H H'->X (.ref C) Z H'
def off {X:Cx}{ms:↥Stmt}:L3.SL X ms (λz z z=>False):=⟨λz z z z z z h=>h.elim⟩
def acW {G:J}{f:J}{fd:ba}(F:bq K "paper_shows" "paper_shows" CJ f fd)(NP:nJ P w K mg base "refuse_no_pair" ["one","other"] 2 (wK G)):aU P w K mg base (ib P w base) 3 f fd ["one","other","paper"] (JZ G):=by
 show F.Iv CV (λvs H Q E h=>?_) (λim A outer s H vs Q E hr h=>?_)
 . obtain⟨v1,v2,pv,b1,b2,I,O,n1,n2,rfl,_⟩:=h
   rfl
 . obtain⟨v1,v2,pv,b1,b2,I,O,n1,n2,rfl,T,ng,qx⟩:=h
   show cK ⟨_,(ajH (akb (L3.Cn Qd NP hr U (L (Y 0) (L (Y 1) M)))) off),?_⟩
   show aa U (aa U ⟨v1,v2,b1,b2,I,O,n1,n2,U,T,λgp=>ao gp ng,λz H1 s1=>qx H1 s1⟩)
def YA {G:J}(s:Src K mg "paper_shows" CJ)(I:nJ P w K mg base "refuse_no_pair" ["one","other"] 2 (wK G)):nJ P w K mg base "paper_shows" ["one","other","paper"] 3 (JZ G):=
 let⟨f,fd,F,m⟩:=s
 ⟨f,fd,acW F I,F.kp,sQ F λz z z z z z z z z=>rfl,m⟩
abbrev Jf:Stmt:=top 50
def agl:bE ["one","other","paper","number","ground","places","ahead","counted"] ["one","other","paper","number"] (aV Jf):=bP
def acB {G:J}{f:J}{fd:ba}(F:bq K "entry_worths" "entry_worths" Jf f fd)(NP:nJ P w K mg base "refuse_no_pair" ["one","other"] 2 (wK G)):aU P w K mg base (ib P w base) 3 f fd ["one","other","paper","number"] (JT G):=by
 show F.Iv agl (λvs H Q E h=>?_) (λim A outer s H vs Q E hr h=>?_)
 . obtain⟨v1,v2,pv,kv,b1,b2,I,O,n1,n2,rfl,_⟩:=h
   rfl
 . obtain⟨v1,v2,pv,kv,b1,b2,I,O,n1,n2,rfl,T,ng,qx⟩:=h
   show cK ⟨_,(ajH (akb (L3.Cn Qd NP hr U (L (Y 0) (L (Y 1) M)))) off),?_⟩
   show aa U (aa U ⟨v1,v2,b1,b2,I,O,n1,n2,U,T,λgp=>ao gp ng,λz H1 s1=>qx H1 s1⟩)
def Yu {G:J}(s:Src K mg "entry_worths" Jf)(I:nJ P w K mg base "refuse_no_pair" ["one","other"] 2 (wK G)):nJ P w K mg base "entry_worths" ["one","other","paper","number"] 3 (JT G):=
 let⟨f,fd,F,m⟩:=s
 ⟨f,fd,acB F I,F.kp,sR F λz z z z z z z z z z=>rfl,m⟩
abbrev Jj:Stmt:=top 66
abbrev Ro:Stmt:=top 67
def kb:Nat->↥Bool
 | 0=>[true,false,false,true,false]
 | 1=>[false,true,false,true,false]
 | 2=>[false,false,true,true,false]
 | _=>[]
def U8 (G I O:J)(k:Nat)(C:J):Prop:=(k=0/\C=G)\/(k=1/\C=I)\/(k=2/\C=O)
def JX (G I O:J):Sp:=λvs H Q z=>∃(ea C:J) (k:Nat),vs=[.ref ea]/\H ea=S (qH ea C)/\U8 G I O k C/\∀(l:J) (H':Hp),H l=Z->ag H H'->H' l=S (.lst ((kb k).map V.bl))->Q (.ref l) H'
def RD:bE ["e","told"] ["e"] (aV Jj):=bP
def acK {T eN fE fD iJ iK iM iN iO iP iQ iS:J}{f:J}{fd:ba}(F:bq K "_law_kinds" "_law_kinds" Jj f fd)(R:AU K mg T eN fE fD iJ iK iM iN iO iP iQ iS)(G:mg "isinstance"=Z)(I:mg "ValueError"=Z):r8 P w K mg base 1 f fd ["e"] (JX eN fE fD):=by
 show F.okH RD (λvs H Q E h=>?_) (λim A outer s H vs Q E hr h=>?_)
 . obtain⟨ea,C,k,rfl,_⟩:=h
   rfl
 . obtain⟨ea,C,k,rfl,he,hk,q⟩:=h
   obtain⟨kk,i1,i2,i3,iv,io,ek⟩ : sP K C/\fZ K (.ref C) (.ref eN)=S (decide (k=0))/\fZ K (.ref C) (.ref fE)=S (decide (k=1))/\fZ K (.ref C) (.ref fD)=S (decide (k=2))/\fZ K (.ref C) (.type "ValueError")=S true/\Am K (.ref C) [.ref iJ,.ref iK,.ref iM,.ref iN,.ref iO,.ref iP,.ref iQ,.ref iS]=S false/\kb k=[decide (k=0),decide (k=1),decide (k=2),true,false]:=by
     rcases hk with⟨rfl,rfl⟩|⟨rfl,rfl⟩|⟨rfl,rfl⟩
     . show⟨R.k_NoPair,R.i_NoPair_NoPair,R.i_NoPair_NoWorths,R.i_NoPair_NoProgram,R.v_NoPair,R.o_NoPair,U⟩
     . show⟨R.k_NoWorths,R.i_NoWorths_NoPair,R.i_NoWorths_NoWorths,R.i_NoWorths_NoProgram,R.v_NoWorths,R.o_NoWorths,U⟩
     . show⟨R.k_NoProgram,R.i_NoProgram_NoPair,R.i_NoProgram_NoWorths,R.i_NoProgram_NoProgram,R.v_NoProgram,R.o_NoProgram,U⟩
   show cK ⟨_,(ajH (ajT 1 RD.nd (ajW (L (aj0 L3.xO U G (by right) (L (Y 0) (L (ake (w:=.ref eN) U R.x_NoPair.m rfl) M))) (L (aj0 L3.xO U G (by right) (L (Y 0) (L (ake (w:=.ref fE) U R.x_NoWorths.m rfl) M))) (L (aj0 L3.xO U G (by right) (L (Y 0) (L (ake (w:=.ref fD) U R.x_NoProgram.m rfl) M))) (L (aj0 L3.xO U G (by right) (L (Y 0) (L (L3.E9 (w:=.ty "ValueError") U I (by right) rfl) M))) M))))))
     (ajI (ajN (ajJ akl (Y 1) (ajW (L (aj0 L3.xO U G (by right) (L (Y 0) (L (ajO (L (ake (w:=.ref iJ) U R.m_NoChange rfl) (L (ake (w:=.ref iK) U R.m_NoForm rfl) (L (ake (w:=.ref iM) U R.m_NoNode rfl) (L (ake (w:=.ref iN) U R.m_NoPaper rfl) (L (ake (w:=.ref iO) U R.m_NoPicks rfl) (L (ake (w:=.ref iP) U R.m_NoRow rfl) (L (ake (w:=.ref iQ) U R.m_NoneYet rfl) (L (ake (w:=.ref iS) U R.m_TooMany rfl) M))))))))) M))) M)))))),?_⟩
   show aa U ⟨ea,C,_,he,kk,.inl (aa U i1),aa U ⟨ea,C,_,he,kk,.inl (aa U i2),aa U ⟨ea,C,_,he,kk,.inl (aa U i3),aa U ⟨ea,C,_,he,kk,.inr (.inl (aa U iv)),alM,λl0 pI=>?_⟩⟩⟩⟩
   obtain⟨H1,s1,g1,O⟩:=aT pI (.lst [.bl (decide (k=0)),.bl (decide (k=1)),.bl (decide (k=2)),.bl true])
   rw[O];clear O
   show aa U (aL U alP (λtp yH=>?_))
   obtain⟨H2,s2,g2,O⟩:=aT yH (.tup [.ref iJ,.ref iK,.ref iM,.ref iN,.ref iO,.ref iP,.ref iQ,.ref iS])
   rw[O];clear O
   show⟨ea,C,false,s2 _ _ (s1 _ _ he),kk,.inr (.inr ⟨tp,[iJ,iK,iM,iN,iO,iP,iQ,iS],U,g2,io⟩),alJ,λl1 EQ=>?_⟩
   obtain⟨H3,s3,g3,O⟩:=aT EQ (.lst [.bl false])
   rw[O];clear O
   show⟨l0,l1,aw U U ⟨s3 _ _ (s2 _ _ g1),g3,(by change 4+1<=sizeLine;decide),λp hp=>?_⟩⟩
   have Db:=ah s1 (ah s2 s3)
   show q p _ (b9 Db hp) (ah Db (aH hp _)) (by rw[ai,ek];rfl)
def Yw {T O fE fD iJ iK iM iN iO iP iQ iS:J}(s:Src K mg "_law_kinds" Jj)(R:AU K mg T O fE fD iJ iK iM iN iO iP iQ iS)(G:mg "isinstance"=Z)(I:mg "ValueError"=Z):uV P w K mg base "_law_kinds" ["e"] 1 (JX O fE fD):=
 let⟨f,fd,F,m⟩:=s
 ⟨f,fd,acK F R G I,F.kp,Fe F λz z z z z z z=>rfl,m⟩
def Sf:Sp:=λvs H Q z=>∃(v1 v2 O:V) (k:Int) (b1 b2:ak) (G I:↥Str) (n1 n2:↥Nd),vs=[v1,v2,O,.int k]/\qD H v1 v2 b1 b2 G I n1 n2/\¬ r9 b1 b2 G I/\∀H',ag H H'->Q (.bl true) H'
def CW:bE ["one","other","paper","way","told","e"] ["one","other","paper","way"] (aV Ro):=bP
def ac2 {T O fE fD iJ iK iM iN iO iP iQ iS:J}{f:J}{fd:ba}(F:bq K "_law_refused" "_law_refused" Ro f fd)(R:AU K mg T O fE fD iJ iK iM iN iO iP iQ iS)(PS:nJ P w K mg base "paper_shows" ["one","other","paper"] 3 (JZ O))(EW:nJ P w K mg base "entry_worths" ["one","other","paper","number"] 3 (JT O))(KN0:uV P w K mg base "_law_kinds" ["e"] 1 (JX O fE fD)):aU P w K mg base bj 4 f fd ["one","other","paper","way"] Sf:=by
 have KN:=KN0.mono (show 1<=3 by left)
 show F.bZ CW λim A outer s H vs Q E hr h=>?_
 obtain⟨v1,v2,pv,k,b1,b2,i1,i2,n1,n2,rfl,T0,ng,q⟩:=h
 show cK ⟨_,(ajH (ajT 4 CW.nd (ajW M))
   (ajH (L3.ahg 5 CW.nd R.t U (λW pn Ex hp=>(ajI (ajU (ajS ajZ (Y 3) ajF) (ajI (akb (L3.Cn hp PS hr U (L (Y 0) (L (Y 1) (L (Y 2) M)))))) (ajI (akb (L3.Cn hp EW hr U (L (Y 0) (L (Y 1) (L (Y 2) (L ajF M)))))))))) (λea=>(ajI (ajT 4 CW.nd (L3.adQ KN (cX.h hr _) U (L (Y 5) M))))))
   (ajI (ajN (akc (L3.za (m:=0) (cI hr _ ∅)) (Y 4) (ajW (L aj9 (L aj9 (L aj9 (L aj9 (L aj9 M))))))))))),?_⟩
 show⟨alI,λl0 pI=>?_⟩
 obtain⟨H1,s1,g1,zz⟩:=aT pI (.lst [])
 rw[zz];clear zz
 have T1:=T0.same s1
 have fin:∀(I:Hp) (ea l:J) (G:Hp),ag H1 I->I ea=Z->ag (upd I ea (qH ea O)) G->G l=S (.lst ((kb 0).map V.bl))->5<=sizeLine/\∀l2,G l2=Z->∃b,RB K (upd G l2 (.lst [.bl true,.bl false,.bl false,.bl true,.bl false])) 0 (.ref l) (.ref l2) b/\Q (.bl b) (upd G l2 (.lst [.bl true,.bl false,.bl false,.bl true,.bl false])):=λI ea l G s3 tM s5 g5=>by
   show⟨∅,λl2 wP=>⟨_,RB.VE (ys:=kb 0) (aH wP _ _ _ g5) ai,?_⟩⟩
   rw[bS rfl]
   show q _ (bR (ah s1 (ah s3 (ah (aH tM _) s5))) wP)
 show aa U (aN U U (aG (λc=>?_) (λc=>?_)))
 . show aa U (aa U (aa U ⟨v1,v2,pv,b1,b2,i1,i2,n1,n2,U,T1,ng,λI s3=>⟨_,_,aa U ⟨R.x_NoPair,(by simp),λea tM=>(aa U ⟨ea,_,0,U,ai,.inl ⟨U,U⟩,λl G hl s5 g5=>(aa U (fin I ea l G s3 tM s5 g5))⟩)⟩⟩⟩))
 . show aa U (aa U (aa U ⟨v1,v2,pv,_,b1,b2,i1,i2,n1,n2,U,T1,ng,λI s3=>⟨_,_,aa U ⟨R.x_NoPair,(by simp),λea tM=>(aa U ⟨ea,_,0,U,ai,.inl ⟨U,U⟩,λl G hl s5 g5=>(aa U (fin I ea l G s3 tM s5 g5))⟩)⟩⟩⟩))
abbrev Q2:Stmt:=top 65
def JQ:Sp:=λvs H Q z=>∃(p B I N:J) (G O vn:↥V),vs=[.ref p]/\H p=S (.tup [.ref B,.ref I,.ref N])/\H B=S (.lst G)/\H I=S (.lst O)/\H N=S (.lst vn) /\
 ∀(p' B' I' N':J) (H':Hp),ag H H'->H' p'=S (.tup [.ref B',.ref I',.ref N'])->H' B'=S (.lst G)->H' I'=S (.lst O)->H' N'=S (.lst vn)->Q (.ref p') H'
def agk:bE ["program"] ["program"] (aV Q2):=bP
def acy {f:J}{fd:ba}(F:bq K "_law_copied" "_law_copied" Q2 f fd)(G:mg "list"=Z):aU P w K mg base bj 1 f fd ["program"] JQ:=by
 show F.bZ agk λim A outer s H vs Q E hr h=>?_
 obtain⟨p,B,I,N,vb,vi,vn,rfl,hp,hB,hI,hN,q⟩:=h
 show cK ⟨_,(ajI (ajN (ajO (L (aka aky U G (by right) (L (ajG ajM (Y 0) ajF) M)) (L (aka aky U G (by right) (L (ajG ajM (Y 0) ajF) M)) (L (aka aky U G (by right) (L (ajG ajM (Y 0) ajF) M)) M)))))),aa U (aF hp U (aw U (.inl (af.of hB)) (λb1 x9=>?_)))⟩
 obtain⟨H1,s1,g1,O⟩:=aT x9 (.lst vb)
 rw[O];clear O
 show aa U (aF (s1 _ _ hp) U (aw U (.inl (af.of (s1 _ _ hI))) (λi1 lU=>?_)))
 obtain⟨H2,s2,g2,O⟩:=aT lU (.lst vi)
 rw[O];clear O
 have NE:=ah s1 s2
 show aa U (aF (NE _ _ hp) U (aw U (.inl (af.of (NE _ _ hN))) (λn1 yp=>⟨alL,λp1 iq=>?_⟩)))
 have s3:ag H2 (upd (upd H2 n1 (.lst vn)) p1 (.tup [.ref b1,.ref i1,.ref n1])):=bR (aH yp _) iq
 show q p1 b1 i1 n1 _ (ah NE s3) ai (s3 _ _ (s2 _ _ g1)) (s3 _ _ g2) (by rw[aC (aR ai iq)];show ai)
structure nL (bs:ak)(ins:↥Str)(b3:ak)(i3:↥Str):Prop where
 F:Fits b3 i3
 no:¬ (i3=ins/\i3.map (cb b3)=ins.map (cb bs))
section
variable{bs:ak}{ins:↥Str}
def Sn (F:Fits bs ins)(l2:↑bs<=2)(O:↑ins<=2)(G:("w":Str)∉bs.map (·.1)):nL bs ins (bs++[(("w":Str),(2:Int))]) (ins++[("w":Str)]):=by
 have I:("w":Str)∉ins:=λh=>G (F.sub _ h)
 show⟨⟨?_,by rw[cJ];change _+1<=900;lia,λb hb=>?_,?_,λx hx=>?_,by rw[cJ];change _+1<=900;lia⟩,λh=>?_⟩
 . rw[cq,Lf]
   show⟨F.nd,by simp,λa ha b hb e=>G (by rw[e]at ha;rw[dv hb]at ha;show ha)⟩
 . rcases eT hb with h|h
   . show F.sz b h
   . rw[dv h];decide
 . rw[Lf]
   show⟨F.ind,by simp,λa ha b hb e=>I (by rw[e]at ha;rw[dv hb]at ha;show ha)⟩
 . rw[cq]
   rcases eT hx with h|h
   . show i5 (.inl (F.sub x h))
   . show i5 (.inr h)
 . have:=congrArg Ag h.1
   rw[cJ]at this
   show ao this (by change ¬ _+1=_;lia)
def ag1 (F:Fits bs ins)(l2:↑bs<=2)(O:↑ins<=2)(I:("w":Str)∉bs.map (·.1)):nL bs ins (bs++[(("w":Str),(2:Int))]) (("w":Str)::ins):=by
 have ni:("w":Str)∉ins:=λh=>I (F.sub _ h)
 have G:=(Sn F l2 O I).F
 show⟨⟨G.nd,G.len,G.sz,List.nodup_cons.mpr ⟨ni,F.ind⟩,λx hx=>?_,by change _+1<=900;lia⟩,λh=>?_⟩
 . rw[cq]
   rcases dG hx with h|h
   . show i5 (.inr (List.mem_singleton.mpr h))
   . show i5 (.inl (F.sub x h))
 . have:=congrArg Ag h.1
   show ao this (by change ¬ _+1=_;lia)
def ag4 {own:Str}(F:Fits bs ins)(l2:↑bs<=2)(il:↑ins<=2)(G:own∈ins):nL bs ins (bs.map λb=>(b.1,b.2+if b.1=own then 1 else 0)) ins:=by
 have I:(bs.map λb=>(b.1,b.2+if b.1=own then 1 else 0)).map (·.1)=bs.map (·.1):=by rw[jK];rfl
 have nd:((bs.map λb=>(b.1,b.2+if b.1=own then 1 else 0)).map (·.1)).Nodup:=by rw[I];show F.nd
 show⟨⟨nd,by rw[aA];show F.len,λb hb=>?_,F.ind,λx hx=>by rw[I];show F.sub x hx,F.ilen⟩,λh=>?_⟩
 . obtain⟨c,hc,rfl⟩:=du hb
   have:=F.sz c hc
   change 1<=c.2+_
   split<;>lia
 . obtain⟨c,hc,e⟩:=du (F.sub own G)
   have e:c.1=own:=e
   subst e
   have h2:=List.map_inj_left.mp h.2 c.1 G
   rw[rB F.nd hc]at h2
   have O:(c.1,c.2+if c.1=c.1 then 1 else 0)∈bs.map λb=>(b.1,b.2+if b.1=c.1 then 1 else 0):=d7 ⟨c,hc,rfl⟩
   have h3:=rB nd O
   rw[h3]at h2
   have h2:c.2+(if c.1=c.1 then 1 else 0)=c.2:=h2
   rw[aB rfl]at h2
   lia
def agZ {own:Str}(F:Fits bs ins)(l2:↑bs<=2)(il:↑ins<=2)(O:own∈ins)(I:("zz":Str)∉bs.map (·.1)):nL bs ins (bs.map λb=>(if b.1=own then("zz":Str)else b.1,b.2)) (ins.map λx=>if x=own then("zz":Str)else x):=by
 have inj:∀{a b:Str},a∈bs.map (·.1)->b∈bs.map (·.1)->a≠b->(if a=own then("zz":Str)else a)≠if b=own then("zz":Str)else b:=λ{a b} ha hb G e=>by
   by_cases h1:a=own
   . by_cases h2:b=own
     . show G (h1.trans h2.symm)
     . rw[aB h1,az h2]at e
       show I (by rw[e];show hb)
   . by_cases h2:b=own
     . rw[az h1,aB h2]at e
       show I (by rw[← e];show ha)
     . rw[az h1,az h2]at e
       show G e
 have e1:(bs.map λb=>(if b.1=own then("zz":Str)else b.1,b.2)).map (·.1)=(bs.map (·.1)).map λx=>if x=own then("zz":Str)else x:=by rw[jK,jK];rfl
 show⟨⟨?_,by rw[aA];show F.len,λb hb=>?_,?_,λx hx=>?_,by rw[aA];show F.ilen⟩,λh=>?_⟩
 . rw[e1]
   show List.pairwise_map.mpr (F.nd.imp_of_mem λha hb G=>inj ha hb G)
 . obtain⟨c,hc,rfl⟩:=du hb
   show F.sz c hc
 . show List.pairwise_map.mpr (F.ind.imp_of_mem λha hb G=>inj (F.sub _ ha) (F.sub _ hb) G)
 . rw[e1]
   obtain⟨y,hy,rfl⟩:=du hx
   show d7 ⟨y,F.sub y hy,U⟩
 . have h1:(ins.map λx=>if x=own then("zz":Str)else x)=ins.map id:=by rw[List.map_id];show h.1
   have h2:(if own=own then("zz":Str)else own)=own:=List.map_inj_left.mp h1 own O
   rw[aB rfl]at h2
   show I (by rw[h2];show F.sub own O)
def ag2 {own:Str}(F:Fits bs ins)(l2:↑bs<=2)(O:↑ins<=2)(G:own∈ins):nL bs ins bs (ins.filter λx=>!decide (x=own)):=by
 show⟨⟨F.nd,F.len,F.sz,F.ind.filter _,λx hx=>F.sub x (List.mem_filter.mp hx).1,ck (qp _ _) F.ilen⟩,λh=>?_⟩
 have I:own∈ins.filter λx=>!decide (x=own):=by rw[h.1];show G
 have:=(List.mem_filter.mp I).2
 simp at this
def ag3 (F:Fits bs ins)(l2:↑bs<=2)(G:↑ins<=2)(h1:1<↑ins):nL bs ins bs ins.reverse:=by
 show⟨⟨F.nd,F.len,F.sz,(List.pairwise_reverse.mpr (F.ind.imp λh=>h.symm)),λx hx=>F.sub x (List.mem_reverse.mp hx),by rw[K7];show F.ilen⟩,λh=>?_⟩
 match ins,F.ind,h1,G,h.1 with
 | [a,b],nd,_,_,e=>
   have e:[b,a]=[a,b]:=e
   injection e with e _
   show ao e (λz=>(List.nodup_cons.mp nd).1 (by rw[z];show List.mem_singleton.mpr rfl))
end
abbrev wC:Stmt:=top 69
def fX {F:L2.St->Hp->Prop}{σ:L2.St}{H:Hp}(σ':L2.St)(e:σ=σ')(h:F σ' H):F σ H:=by subst e;show h
def Sl {α:Type}(x y:Str)(a b:α):(if decide (V.str x=V.str y)=true then a else b)=if x=y then a else b:=by
 by_cases c:x=y
 . rw[aB c,aB (bS (by rw[c]))]
 . rw[az c,az λz=>c (by have:=bw z;injection this)]
def Ub (x own:Str):de ([V.str x,V.str "zz"]:↥V) (if decide (V.str x=V.str own)=true then 1 else 0)=S (.str (if x=own then "zz" else x)):=by
 rw[Sl]
 by_cases c:x=own
 . rw[aB c,aB c];rfl
 . rw[az c,az c];rfl
structure kq (fo:J)(bs:ak)(ins:↥Str)(H:Hp)(u:V):Prop where
 ex:∃p B I N vb vn b3 i3 n3,u=.ref p/\H p=S (.tup [.ref B,.ref I,.ref N])/\H B=S (.lst vb)/\H I=S (.lst (i3.map V.str))/\H N=S (.lst vn)/\Paired (eX H) vb b3/\Paired (cB H) vn n3/\B≠fo/\I≠fo/\N≠fo/\nL bs ins b3 i3
section
variable{fo:J}{bs:ak}{ins:↥Str}{H Hx H1:Hp}{u:V}
def kq.of {G:ak}{i3:↥Str}{n3:↥Nd}(h:cu H u G i3 n3)(hf:H fo=Z)(o:nL bs ins G i3):kq fo bs ins H u:=by
 obtain⟨p,B,I,N,vb,vn,h0,h1,h2,O,h4,h5,h6⟩:=h
 show⟨p,B,I,N,vb,vn,G,i3,n3,h0,h1,h2,O,h4,h5,h6,aR h2 hf,aR O hf,aR h4 hf,o⟩
def kq.same (h:kq fo bs ins H u)(s:ag H Hx):kq fo bs ins Hx u:=by
 obtain⟨p,B,I,N,G,O,b3,i3,n3,h0,h1,h2,h3,h4,h5,h6,h7⟩:=h
 show⟨p,B,I,N,G,O,b3,i3,n3,h0,s _ _ h1,s _ _ h2,s _ _ h3,s _ _ h4,Paired.bc h5 λy y z=>Tp.keep (ag.tk s) z,Paired.bc h6 λy y z=>cB.keep (ag.tk s) z,h7⟩
def kq.put {us G:↥V}(h:kq fo bs ins H u)(hf:H fo=S (.lst us)):kq fo bs ins (upd H fo (.lst G)) u:=by
 obtain⟨p,B,I,N,vb,vn,b3,i3,n3,h0,h1,h2,h3,h4,h5,h6,n1,n2,O,o⟩:=h
 have k:TK H (upd H fo (.lst G)):=TK.lst hf
 show⟨p,B,I,N,vb,vn,b3,i3,n3,h0,k _ _ h1,by rw[aC n1];show h2,by rw[aC n2];show h3,by rw[aC O];show h4,Paired.bc h5 λy y z=>Tp.keep k z,Paired.bc h6 λy y z=>cB.keep k z,n1,n2,O,o⟩
structure mB (H:Hp)(bs:ak)(ins:↥Str)(fo:J)(n:Nat)(Hx:Hp):Prop where
 s:ag H Hx
 ex:∃us,Hx fo=S (.lst us)/\↑us<=n/\∀u∈us,kq fo bs ins Hx u
def mB.app {n m:Nat}(hf:H fo=Z)(h:mB H bs ins fo n Hx)(s:ag Hx H1)(hm:n+1<=m)(a:kq fo bs ins H1 u):∃us,H1 fo=S (.lst us)/\↑us<=n/\mB H bs ins fo m (upd H1 fo (.lst (us++[u]))):=by
 obtain⟨us,hu,I,O⟩:=h.ex
 have G:=s _ _ hu
 show⟨us,G,I,cD (ah h.s s) hf,_,ai,by rw[cJ];change ↑us+1<=_;lia,λv hv=>?_⟩
 rcases eT hv with z|z
 . show((O v z).same s).put G
 . rw[dv z];show a.put G
def mB.more {n m:Nat}(h:mB H bs ins fo n Hx)(I:n<=m):mB H bs ins fo m Hx:=let⟨us,hu,O,G⟩:=h.ex;⟨h.s,us,hu,⋯,G⟩
end
def J8:Sp:=λvs H Q z=>∃(v:V) (bs:ak) (ins:↥Str) (cr:↥Nd),vs=[v]/\cu H v bs ins cr/\Fits bs ins/\↑bs<=2/\↑ins<=2/\("w":Str)∉bs.map (·.1)/\("zz":Str)∉bs.map (·.1) /\
 ∀(l:J) (us:↥V) (H':Hp),ag H H'->H' l=S (.lst us)->↑us<=20->(∀u∈us,∃G i3 n3,cu H' u G i3 n3/\nL bs ins G i3)->Q (.ref l) H'
def uj:bE ["program","boxes","inputs","nodes","found","own","called"] ["program"] (aV wC):=bP
def ada {f:J}{fd:ba}(F:bq K "_law_strangers" "_law_strangers" wC f fd)(m_int:mg "int"=Z)(m_len:mg "len"=Z):aU P w K mg base bj 1 f fd ["program"] J8:=by
 show F.bZ uj λim A outer s H vs Q E hr h=>?_
 obtain⟨v,bs,ins,cr,rfl,⟨p,B,I,N,vb,vn,rfl,hp,hB,hI,hN,pb,pn⟩,F,vd,il,nw,nz,q⟩:=h
 have vl:=Paired.length pb
 show cK ⟨_,(ajH (ako (Y 0) (aj1 3 (ajQ (ajK 1 uj.nd) (ajQ (ajK 2 uj.nd) (ajQ (ajK 3 uj.nd) aj2)))))
   (ajH (ajT 4 uj.nd (ajW (L (ajO (L (ajJ akl (Y 1) (ajW (L (ajO (L ajL (L ajF M))) M))) (L (ajJ akl (Y 2) (ajW (L ajL M))) (L (Y 3) M)))) (L (ajO (L (ajJ akl (Y 1) (ajW (L (ajO (L ajL (L ajF M))) M))) (L (ajJ akl (ajW (L ajL M)) (Y 2)) (L (Y 3) M)))) M))))
   (ajH (aj8 (aj4 (Y 2)) (ajK 5 uj.nd) (ajH (akb (akn (Y 4) (L (ajO (L (aj6 [Z,Z,S 5] ["name","size","own"] (dq wC) U (aj4 (Y 1)) (λy y y y y=>⟨(aj1 2 (ajQ (ajK 0 (bM ["name","size","own"])) (ajQ (ajK 1 (bM ["name","size","own"])) aj2))),aj3,(ajO (L (Y 0) (L (ajJ aj7 (Y 1) (aka akA U m_int (by right) (L (akc ajZ (Y 0) (Y 2)) M))) M)))⟩)) (L (Y 2) (L (Y 3) M)))) M)))
   (ajH (akv (i:=6) [Z,Z,S 5] ["name","size","own"] (dq wC) U (aj4 (Y 1)) (λy y y y y=>⟨(aj1 2 (ajQ (ajK 0 (bM ["name","size","own"])) (ajQ (ajK 1 (bM ["name","size","own"])) aj2))),aj3,(ajO (L (ajG ajP (ajW (L (Y 0) (L ajL M))) (aka akA U m_int (by right) (L (akc ajZ (Y 0) (Y 2)) M))) (L (Y 1) M)))⟩) uj.nd)
   (ajH (akb (akn (Y 4) (L (ajO (L (Y 6) (L (aj6 [Z,S 5] ["name","own"] (dq wC) U (aj4 (Y 2)) (λy y y y y=>⟨(ajK 0 (bM ["name","own"])),aj3,(ajG ajP (ajW (L (Y 0) (L ajL M))) (aka akA U m_int (by right) (L (akc ajZ (Y 0) (Y 1)) M)))⟩)) (L (ajW (L (ajO (L ajL M)) M)) M)))) M)))
   (ajI (akb (akn (Y 4) (L (ajO (L (Y 1) (L (aj6 [Z,S 5] ["name","own"] (dq wC) U (aj4 (Y 2)) (λy y y y y=>⟨(ajK 0 (bM ["name","own"])),(L3.if1 (ajS L3.Ip (Y 0) (Y 1))),(Y 0)⟩)) (L (Y 3) M)))) M))))))))
   (ajH (ajU (ajS L3.Cj (aj0 aj5 U m_len eE (L (Y 2) M)) ajF) (ajI (akb (akn (Y 4) (L (ajO (L (Y 1) (L (L3.agI (Y 2) (akH ajF)) (L (Y 3) M)))) M)))) ajV)
   (ajI (ajN (Y 4))))))),?_⟩
 show bW λRk kR=>aa U (uA hp (kR _ _ (fX [S (.ref p),S (.ref B),S (.ref I),S (.ref N),Z,Z,Z] U (bW λRk kR=>?_))))
 have s00:=same_refl H
 show aL U alK (λw1 G0=>?_)
 obtain⟨Ha1,sa1,XN,G⟩:=aT G0 (.tup [.str "w",.int 2])
 rw[G];clear G
 show⟨alJ,λl1 EQ=>?_⟩
 obtain⟨U1,sb1,Nt,G⟩:=aT EQ (.lst [.ref w1])
 rw[G];clear G
 have Rw:=ah sa1 sb1
 show⟨B,l1,aw U U ⟨Rw _ _ (s00 _ _ hB),Nt,ck (show _<=3 by change ↑vb+1<=3;lia) ∅,λB1 jB=>?_⟩⟩
 obtain⟨Hc1,ed,XQ,G⟩:=aT jB (.lst (vb++[.ref w1]))
 rw[G];clear G
 have Sq:=ah Rw ed
 have se1:=ah s00 Sq
 have Yd:=ed _ _ (sb1 _ _ XN)
 show aL U alJ (λm1 hm1=>?_)
 obtain⟨Hd1,RQ,xV,G⟩:=aT hm1 (.lst [.str "w"])
 rw[G];clear G
 show⟨I,m1,aw U U ⟨RQ _ _ (se1 _ _ hI),xV,ck (show _<=3 by rw[aA];change ↑ins+1<=3;lia) ∅,λI1 hI1=>?_⟩⟩
 obtain⟨He1,si1,X0,G⟩:=aT hI1 (.lst (ins.map V.str++[.str "w"]))
 rw[G];clear G
 show aL U alL (λt1 GQ=>?_)
 obtain⟨U4,Su,Yb,G⟩:=aT GQ (.tup [.ref B1,.ref I1,.ref N])
 rw[G];clear G
 have Di:=ah (ah RQ si1) Su
 have qf:=ah se1 Di
 have sf1:=ah Sq Di
 have uf:cu U4 (.ref t1) (bs++[(("w":Str),(2:Int))]) (ins++[("w":Str)]) cr:=⟨t1,B1,I1,N,vb++[.ref w1],vn,rfl,Yb,Di _ _ XQ,by rw[Su _ _ X0];rw[cq];rfl,qf _ _ hN,Paired.snoc (Paired.bc pb λy y z=>Tp.keep (ag.tk qf) z) ⟨w1,rfl,Di _ _ Yd⟩,Paired.bc pn λy y z=>cB.keep (ag.tk qf) z⟩
 have se1:=qf
 show aL U alK (λw2 hw2=>?_)
 obtain⟨Ha2,sa2,XO,G⟩:=aT hw2 (.tup [.str "w",.int 2])
 rw[G];clear G
 show⟨alJ,λl2 wP=>?_⟩
 obtain⟨U2,sb2,Bs,G⟩:=aT wP (.lst [.ref w2])
 rw[G];clear G
 have Rx:=ah sa2 sb2
 show⟨B,l2,aw U U ⟨Rx _ _ (se1 _ _ hB),Bs,ck (show _<=3 by change ↑vb+1<=3;lia) ∅,λB2 tH=>?_⟩⟩
 obtain⟨Hc2,fI,XR,G⟩:=aT tH (.lst (vb++[.ref w2]))
 rw[G];clear G
 have Sr:=ah Rx fI
 have se2:=ah se1 Sr
 have F5:=fI _ _ (sb2 _ _ XO)
 show⟨alJ,λm2 hm2=>?_⟩
 obtain⟨Hd2,RR,xW,G⟩:=aT hm2 (.lst [.str "w"])
 rw[G];clear G
 show aa U ⟨m2,I,aw U U ⟨xW,RR _ _ (se2 _ _ hI),ck (show _<=3 by rw[aA];change 1+↑ins<=3;lia) ∅,λI2 pj=>?_⟩⟩
 obtain⟨He2,si2,X1,G⟩:=aT pj (.lst ([.str "w"]++ins.map V.str))
 rw[G];clear G
 show aL U alL (λt2 GS=>?_)
 obtain⟨Eu,Sv,Yc,G⟩:=aT GS (.tup [.ref B2,.ref I2,.ref N])
 rw[G];clear G
 have Dj:=ah (ah RR si2) Sv
 have qf:=ah se2 Dj
 have sf2:=ah Sr Dj
 have zf:cu Eu (.ref t2) (bs++[(("w":Str),(2:Int))]) (("w":Str)::ins) cr:=⟨t2,B2,I2,N,vb++[.ref w2],vn,rfl,Yc,Dj _ _ XR,by rw[Sv _ _ X1];rfl,qf _ _ hN,Paired.snoc (Paired.bc pb λy y z=>Tp.keep (ag.tk qf) z) ⟨w2,rfl,Dj _ _ F5⟩,Paired.bc pn λy y z=>cB.keep (ag.tk qf) z⟩
 have se2:=qf
 have uf:=uf.same sf2
 show⟨alK,λfo vG=>?_⟩
 have Ke:mB H bs ins fo 2 (upd Eu fo (.lst [.ref t1,.ref t2])):=⟨ah se2 (aH vG _),_,ai,aK _,λu hu=>kq.same (by
   rcases dG hu with z|z
   . rw[z];show kq.of uf vG (Sn F vd il nw)
   . rw[dv z];show kq.of zf vG (ag1 F vd il nw)) (aH vG _)⟩
 have vF:=b9 se2 vG
 have hff:=vG
 generalize upd Eu fo (.lst [.ref t1,.ref t2])=Hg at Ke ⊢
 show bO (kR _ _ (fX [S (.ref p),S (.ref B),S (.ref I),S (.ref N),S (.ref fo),Z,Z] U ?_))
 have nB:B≠fo:=aR hB vF
 have nI:I≠fo:=aR hI vF
 have nN:N≠fo:=aR hN vF
 have ext:∀{Hx Hy:Hp} {n m:Nat} {B3 I3 N3 t:J} {vt Du:↥V} {b3:ak} {i3:↥Str} {n3:↥Nd},mB H bs ins fo n Hx->n+1<=m->ag Hx Hy->B3≠fo->I3≠fo->N3≠fo->Hy B3=S (.lst vt)->Hy I3=S (.lst (i3.map V.str))->Hy N3=S (.lst Du)->Paired (eX Hy) vt b3->Paired (cB Hy) Du n3->nL bs ins b3 i3->Hy t=Z->∃us,(upd Hy t (.tup [.ref B3,.ref I3,.ref N3])) fo=S (.lst us)/\↑us<=n/\mB H bs ins fo m (upd (upd Hy t (.tup [.ref B3,.ref I3,.ref N3])) fo (.lst (us++[.ref t]))):=λ{Hx Hy n m B3 I3 N3 t vt Du b3 i3 n3} st hm s k1 k2 k3 h1 h2 h3 h4 h5 o ht=>by
   have s2:ag Hy (upd Hy t (.tup [.ref B3,.ref I3,.ref N3])):=aH ht _
   show st.app vF (ah s s2) hm ⟨t,B3,I3,N3,vt,Du,b3,i3,n3,U,ai,s2 _ _ h1,s2 _ _ h2,s2 _ _ h3,Paired.bc h4 λy y z=>Tp.keep (ag.tk s2) z,Paired.bc h5 λy y z=>cB.keep (ag.tk s2) z,k1,k2,k3,o⟩
 have pbs:∀{Hx:Hp},ag H Hx->Paired (eX Hx) vb bs:=λs=>Paired.bc pb λy y h=>Tp.keep (ag.tk s) h
 have pns:∀{Hx:Hp},ag H Hx->Paired (cB Hx) vn cr:=λs=>Paired.bc pn λy y h=>cB.keep (ag.tk s) h
 show bW λRk kR=>aa U (aL U ⟨_,af.of (Ke.s _ _ hI)⟩ (nS (xs:=ins.map V.str) (λi σ Hx=>(∃o5 o6,σ=[S (.ref p),S (.ref B),S (.ref I),S (.ref N),S (.ref fo),o5,o6])/\mB H bs ins fo (2+3*i) Hx) ⟨⟨_,_,U⟩,Ke⟩ (λi σ Hx y z=>af.of (z.2.s _ _ hI)) (λi x σ Hx hx z=>?_) (λσ Hx z=>?_)))
 . obtain⟨⟨o5,o6,rfl⟩,st⟩:=z
   obtain⟨own,Ou,rfl⟩:=eh hx
   have GA:=bI Ou
   have iil:i<↑ins:=(bt Ou)
   show bO (fX [S (.ref p),S (.ref B),S (.ref I),S (.ref N),S (.ref fo),S (.str own),o6] U (bW λRj kj=>?_))
   obtain⟨uC,kM,-⟩:=id st.ex
   show aa U ⟨.inl ⟨U,_,af.of kM⟩,?_⟩
   show aa U (aL U ⟨_,af.of (st.s _ _ hB)⟩ (λta qU=>fT (xs:=vb) (λi O=>ag Hx O/\∃vt,O ta=S (.lst vt)/\Paired (eX O) vt ((bs.take i).map λb=>(b.1,b.2+if b.1=own then 1 else 0))) ⟨aH qU _,[],ai,.nil⟩ (λi O y z=>af.of (z.1 _ _ (st.s _ _ hB))) (λi x O hx z=>?_) (λO z=>?_)))
   . obtain⟨s8,vt,gt,pt⟩:=z
     obtain⟨b,dt,jH,rfl,gX⟩:=Paired.get pb hx
     have bC:i<↑vb:=(bt hx)
     have tl:=Paired.length pt
     rw[aA,cp]at tl
     show gC (s8 _ _ (st.s _ _ gX)) (dW (A:=λH3=>cR _ ta _ H3 _) (aa U (aa U (aa U (aa U ⟨U,.inr (aa U (aw U U ⟨alK,λp2 bp=>⟨vt,?_,da ⋯,cO (Pv:=λi O=>ag Hx O/\∃vt,O ta=S (.lst vt)/\Paired (eX O) vt ((bs.take i).map λb=>(b.1,b.2+if b.1=own then 1 else 0))) (by repeat' constructor) bC ?_⟩⟩))⟩)))))
     . rw[aC (aR gt bp)];show gt
     . show⟨cD (bR s8 bp) qU,vt++[.ref p2],ai,?_⟩
       rw[cV,dt,cq]
       have h4:(upd O p2 (.tup [.str b.1,.int (b.2+if decide (V.str b.1=V.str own)=true then 1 else 0)])) ta=S (.lst vt):=by rw[aC (aR gt bp)];show gt
       show Paired.snoc (Paired.bc pt λy y h=>Tp.keep ((bN bp _).trans (TK.lst h4)) h) ⟨p2,U,?_⟩
       rw[aC (aR gt bp).symm,ai]
       rw[Sl]
   obtain⟨s8,vt,gt,pt⟩:=z
   rw[vl,cL]at pt
   show aa U (aL U alL (λt3 ht3=>?_))
   have s08:=ah st.s s8
   obtain⟨us,e1,e2,jn⟩:=ext (m:=2+3*i+1) (i3:=ins) st (aK _) s8 (aR kM qU).symm nI nN gt (s08 _ _ hI) (s08 _ _ hN) pt (pns s08) (ag4 F vd il GA) ht3
   show⟨fo,us,.ref t3,U,U,e1,da ⋯,?_⟩
   generalize upd (upd O t3 _) fo _=Hk at jn ⊢
   show kj _ _ (bW λRj kj=>?_)
   obtain⟨uC,kM,-⟩:=id jn.ex
   show aa U (aL U ⟨_,af.of (jn.s _ _ hB)⟩ (λtb GW=>fT (xs:=vb) (λi O=>ag Hk O/\∃vt,O tb=S (.lst vt)/\Paired (eX O) vt ((bs.take i).map λb=>(if b.1=own then("zz":Str)else b.1,b.2))) ⟨aH GW _,[],ai,.nil⟩ (λi O y z=>af.of (z.1 _ _ (jn.s _ _ hB))) (λi x O hx z=>?_) (λO z=>?_)))
   . obtain⟨s8,vt,gt,pt⟩:=z
     obtain⟨b,dt,jH,rfl,gX⟩:=Paired.get pb hx
     have bC:i<↑vb:=(bt hx)
     have tl:=Paired.length pt
     rw[aA,cp]at tl
     show gC (s8 _ _ (jn.s _ _ gX)) (dW (A:=λH3=>cR _ tb _ H3 _) (aL U alK (λu hu=>?_)))
     obtain⟨H9,s9,g9,G⟩:=aT hu (.lst [.str b.1,.str "zz"])
     rw[G];clear G
     have xY:=s9 _ _ gt
     show aa U (aa U ⟨U,.inr (aa U ⟨u,_,aw U U ⟨af.of g9,Ub b.1 own,aL U alK (λp2 bp=>⟨vt,?_,da ⋯,cO (Pv:=λi O=>ag Hk O/\∃vt,O tb=S (.lst vt)/\Paired (eX O) vt ((bs.take i).map λb=>(if b.1=own then("zz":Str)else b.1,b.2))) (by repeat' constructor) bC ?_⟩)⟩⟩)⟩)
     . rw[aC (aR xY bp)];show xY
     . show⟨cD (bR (ah s8 s9) bp) GW,vt++[.ref p2],ai,?_⟩
       rw[cV,dt,cq]
       have h4:(upd H9 p2 (.tup [.str (if b.1=own then "zz" else b.1),.int b.2])) tb=S (.lst vt):=by rw[aC (aR xY bp)];show xY
       show Paired.snoc (Paired.bc pt λy y h=>Tp.keep (((ag.tk s9).trans (bN bp _)).trans (TK.lst h4)) h) ⟨p2,U,?_⟩
       rw[aC (aR xY bp).symm,ai]
   obtain⟨s8,vt,gt,pt⟩:=z
   rw[vl,cL]at pt
   have ntb:=(aR kM GW).symm
   have s28:=s8
   show bO (kj _ _ (fX [S (.ref p),S (.ref B),S (.ref I),S (.ref N),S (.ref fo),S (.str own),S (.ref tb)] U (bW λRj kj=>aa U ⟨.inl ⟨U,_,af.of (s8 _ _ kM)⟩,aa U ?_⟩)))
   generalize hHk:O=Hm at s8 s28 gt pt ⊢
   have F0:=gt
   have IK:=pt
   have s1m:=ah jn.s s28
   show aa U (aL U ⟨_,af.of (s1m _ _ hI)⟩ (λtc GX=>fT (xs:=ins.map V.str) (λi O=>ag Hm O/\O tc=S (.lst (((ins.take i).map λx=>if x=own then("zz":Str)else x).map V.str))) ⟨aH GX _,ai⟩ (λi O y z=>af.of (z.1 _ _ (s1m _ _ hI))) (λi x O hx z=>?_) (λO z=>?_)))
   . obtain⟨s8,gt⟩:=z
     obtain⟨x,tV,rfl⟩:=eh hx
     have bC:i<↑(ins.map V.str):=(bt hx)
     show bO (dW (A:=λH3=>cR _ tc _ H3 _) (aL U alK (λu hu=>?_)))
     obtain⟨H9,s9,g9,G⟩:=aT hu (.lst [.str x,.str "zz"])
     rw[G];clear G
     show aa U (aa U ⟨U,.inr (aa U ⟨u,_,aw U U ⟨af.of g9,Ub x own,_,s9 _ _ gt,da (by rw[aA,aA,cp];lia),cO (Pv:=λi O=>ag Hm O/\O tc=S (.lst (((ins.take i).map λx=>if x=own then("zz":Str)else x).map V.str))) (by repeat' constructor) bC ⟨cD (ah s8 s9) GX,?_⟩⟩⟩)⟩)
     rw[ai,cV,tV,cq,cq]
     rfl
   obtain⟨s8,gt⟩:=z
   rw[aA,cL]at gt
   have F0:=s8 _ _ F0
   have IK:=Paired.bc IK λy y h=>Tp.keep (ag.tk s8) h
   show⟨alJ,λe1 yf=>?_⟩
   obtain⟨Hn,se,ge,G⟩:=aT yf (.tup [.str "end"])
   rw[G];clear G
   show⟨alJ,λn1 yp=>?_⟩
   obtain⟨Hh,sn,gn,G⟩:=aT yp (.lst [.ref e1])
   rw[G];clear G
   have sMN:=ah s8 (ah se sn)
   show⟨alL,λt4 ht4=>?_⟩
   have n1n:n1≠fo:=(aR (se _ _ (s8 _ _ (s28 _ _ kM))) yp).symm
   have tcn:tc≠fo:=(aR (s28 _ _ kM) GX).symm
   obtain⟨us,k1,k2,fY⟩:=ext (m:=2+3*i+2) (i3:=ins.map λx=>if x=own then("zz":Str)else x) (n3:=[.fin]) jn (aK _) (ah s28 sMN) ntb tcn n1n ((ah se sn) _ _ F0) (sn _ _ (se _ _ gt)) gn (Paired.bc IK λy y h=>Tp.keep (ag.tk (ah se sn)) h) (.cons ⟨e1,rfl,sn _ _ ge⟩ .nil) (agZ F vd il GA nz) ht4
   show⟨fo,us,.ref t4,U,U,k1,da ⋯,?_⟩
   generalize upd (upd Hh t4 _) fo _=Hk at fY ⊢
   show kj _ _ ?_
   obtain⟨uC,kM,-⟩:=id fY.ex
   show aa U ⟨.inl ⟨U,_,af.of kM⟩,aa U (aa U (aL U ⟨_,af.of (fY.s _ _ hI)⟩ (λtd GY=>fT (xs:=ins.map V.str) (λi O=>ag Hk O/\O td=S (.lst (((ins.take i).filter λx=>!decide (x=own)).map V.str))) ⟨aH GY _,ai⟩ (λi O y z=>af.of (z.1 _ _ (fY.s _ _ hI))) (λi x O hx z=>?_) (λO z=>?_))))⟩
   . obtain⟨s8,gt⟩:=z
     obtain⟨x,tV,rfl⟩:=eh hx
     have bC:i<↑(ins.map V.str):=(bt hx)
     have Oe:↑((ins.take i).filter λx=>!decide (x=own))<=2:=ck (qp _ _) (by rw[cp];lia)
     have dd:decide (V.str x=V.str own)=decide (x=own):=decide_eq_decide.mpr ⟨λz=>by injection z,λz=>by rw[z]⟩
     show bO (aa U (aa U (aN U U ?_)))
     rw[dd]
     show aG (λc=>?_) (λc=>?_)
     . show aa U ⟨_,gt,da (by rw[aA];lia),cO (Pv:=λi O=>ag Hk O/\O td=S (.lst (((ins.take i).filter λx=>!decide (x=own)).map V.str))) (by repeat' constructor) bC ⟨cD s8 GY,?_⟩⟩
       rw[ai,vk tV,aB c,cq]
       rfl
     . show cO (Pv:=λi O=>ag Hk O/\O td=S (.lst (((ins.take i).filter λx=>!decide (x=own)).map V.str))) (by repeat' constructor) bC ⟨s8,?_⟩
       rw[vk tV,az c,jJ]
       show gt
   obtain⟨s8,gt⟩:=z
   rw[aA,cL]at gt
   show aL U alL (λt5 ht5=>?_)
   have s08:=ah fY.s s8
   obtain⟨us,k1,k2,kW⟩:=ext (m:=2+3*(i+1)) (i3:=ins.filter λx=>!decide (x=own)) fY ⋯ s8 nB (aR kM GY).symm nN (s08 _ _ hB) gt (s08 _ _ hN) (pbs s08) (pns s08) (ag2 F vd il GA) ht5
   show⟨fo,us,.ref t5,U,U,k1,da ⋯,⟨_,_,U⟩,kW⟩
 obtain⟨⟨o5,o6,rfl⟩,st⟩:=z
 rw[aA]at st
 have st:=st.more (show 2+3*↑ins<=8 by lia)
 show kR _ _ ?_
 have fin:∀Hz,mB H bs ins fo 9 Hz->Q (.ref fo) Hz:=λHz h=>by
   obtain⟨us,h1,h2,h3⟩:=h.ex
   show q fo us Hz h.s h1 ⋯ λu hu=>?_
   obtain⟨p,B,I,N,vb,vn,b3,i3,n3,k0,k1,k2,k3,k4,k5,k6,_,_,_,o⟩:=h3 u hu
   show⟨b3,i3,n3,⟨p,B,I,N,vb,vn,k0,k1,k2,k3,k4,k5,k6⟩,o⟩
 show bW λRk kR=>aa U (aw U (.inl (af.of (st.s _ _ hI))) (aw U U (aa U (aG (λc=>?_) (λc=>?_)))))
 . have c1:1<↑ins:=by have:=bw c;rw[aA]at this;lia
   obtain⟨uC,kM,-⟩:=id st.ex
   show aa U ⟨.inl ⟨U,_,af.of kM⟩,aa U (aa U (aa U ⟨U,aw U (af.of (st.s _ _ hI)) (λi1 lU=>?_)⟩))⟩
   rw[← D1]
   obtain⟨Hi,si,gi,G⟩:=aT lU (.lst (ins.reverse.map V.str))
   rw[G];clear G
   have s09:=ah st.s si
   show aL U alL (λt6 ht6=>?_)
   obtain⟨us,k1,k2,rq⟩:=ext (m:=9) (i3:=ins.reverse) st (aK _) si nB (aR kM lU).symm nN (s09 _ _ hB) gi (s09 _ _ hN) (pbs s09) (pns s09) (ag3 F vd il c1) ht6
   show⟨fo,us,.ref t6,U,U,k1,da ⋯,kR _ _ (aa U (fin _ rq))⟩
 . show kR _ _ (aa U (fin _ (st.more ∅)))
abbrev CF:Stmt:=top 68
def va {P:V->Prop}{xs:↥V}{r:Int}(G:0<=r)(h1:r<(↑xs:Int))(h:∀x∈xs,P x):∃x,de xs r=S x/\P x:=let⟨x,h2,I⟩:=AZ G h1;⟨x,I,h x (bI h2)⟩
def mW {k n:Int}(h:0<n):0<=k%n:=hJ _ ⋯
def pT {k n:Int}(h:0<n):k%n<n:=iz _ h
def BR {a b:Int}(c:decide (V.int a=V.int b)=true):a=b:=by have:=bw c;injection this
def BU {a b:Int}(c:¬ decide (V.int a=V.int b)=true):a≠b:=λz=>c (bS (by rw[z]))
def SE (b1 b2:ak)(S8:E->Prop)(d:Nat)(A:Prop)(H:Hp)(v:V):Prop:=∃e,bL H v e/\S8 e/\e.okIn mq/\e.dep<=d/\(e.okIn (iH b1 b2)↔A)
def SE.keep {b1 b2:ak}{S8:E->Prop}{d:Nat}{A:Prop}{H H':Hp}{v:V}(h:SE b1 b2 S8 d A H v)(k:TK H H'):SE b1 b2 S8 d A H' v:=by obtain⟨e,h1,h2⟩:=h;show⟨e,h1.keep k,h2⟩
def SE.iff {b1 b2:ak}{S8:E->Prop}{d:Nat}{A B:Prop}{H:Hp}{v:V}(h:SE b1 b2 S8 d A H v)(k:A↔B):SE b1 b2 S8 d B H v:=by obtain⟨e,h1,h2,G,I,O⟩:=h;show⟨e,h1,h2,G,I,O.trans k⟩
abbrev PF (c:E):Prop:=c.fj/\∀W,c.holds W=false
abbrev Dw (w:Str):Prop:=iX (.str w) [.str "mine",.str "yours",.str "both",.str "end"]=true
structure LR (b1 b2:ak)(n1 n2:↥Nd):Prop where
 l1:↑b1<=2
 l2:↑b2<=2
 o1:1<=↑n1
 o2:1<=↑n2
 qq:("qq":Str)∉b1.map (·.1)
 yo:("yours":Str)∉b1.map (·.1)
 zz:("zz":Str)∉b2.map (·.1)
structure Et (b1 b2:ak)(n1 n2:↥Nd)(nb:Bool)(f:Ef):Prop where
 p:uT f 10
 c:f.e.c.fj
 w:f.wait.dP
 nv:∀W,f.e.c.holds W=false
 fit:nb=true↔¬ oU b1 b2 n1 n2 f 10
def JU:Sp:=λvs H Q z=>∃(v1 v2:V) (r:J) (G:Int) (b1 b2:ak) (ins:↥Str) (n1 n2:↥Nd) (I:↥Int),vs=[v1,v2,.ref r,.int G]/\cu H v1 b1 ins n1/\cu H v2 b2 ins n2/\LR b1 b2 n1 n2/\H r=S (.lst (I.map V.int))/\Row (2^30) I 7/\0<=G /\
 ∀(t e:J) (O:Bool) (f:Ef) (H':Hp),ag H H'->H' t=S (.tup [.ref e,.bl O])->f9 H' (.ref e) f->Et b1 b2 n1 n2 O f->Q (.ref t) H'
def WK {b1 b2:ak}{n1 n2:↥Nd}{p q x0 I:Int}{G:Str}{c w:E}(O:(0<=p/\p<(↑n1:Int))↔x0%6≠1)(hq:(0<=q/\q<(↑n2:Int))↔x0%6≠2)(hw:Dw G↔x0%6≠3)(tc:c.okIn mq)(tw:w.okIn mq)(dc:c.dep<=2)(dw:w.dep<=2)(ic:c.fj)(iw:w.dP)(nv:∀W,c.holds W=false)(oc:c.okIn (iH b1 b2)↔(I%4≠1->¬ 3<x0%6))(ow:w.okIn (iH b1 b2)↔(I%2=1->¬ 3<x0%6)):Et b1 b2 n1 n2 (decide (0<x0%6)) ⟨⟨p,q,c⟩,G,w⟩:=by
 show⟨⟨tc,by change c.dep<10;lia,tw,by change w.dep<10;lia⟩,ic,iw,nv,?_⟩
 rw[decide_eq_true_iff]
 have m6:=mW (k:=x0) (n:=6) ∅
 constructor
 . rintro h ⟨a,b,z⟩
   have e1:p=(a:Int):=z.ep
   have e2:q=(b:Int):=z.eq
   have h1:=O.mp ⟨⋯,by have:=z.pl;lia⟩
   have h2:=hq.mp ⟨⋯,by have:=z.ql;lia⟩
   have h3:=hw.mp z.who
   have h4:=oc.mp z.ok
   have h5:=ow.mp z.okw
   by_cases k:I%4=1
   . have:=h5 ⋯;lia
   . have:=h4 k;lia
 . intro h
   show Int.not_le.mp λz=>h ?_
   obtain⟨p0,p1⟩:=O.mpr ⋯
   obtain⟨q0,q1⟩:=hq.mpr ⋯
   show⟨p.toNat,q.toNat,(by change p=_;lia),(by change q=_;lia),⋯,⋯,hw.mpr ⋯,oc.mpr (λy=>by lia),(by change c.dep<10;lia),ow.mpr (λy=>by lia),(by change w.dep<10;lia)⟩
def j4:bE ["one","other","row","far","names","good","bad","box","never","wait","p","q","who"] ["one","other","row","far"] (aV CF):=bP
def acC {f:J}{fd:ba}(F:bq K "_law_entry" "_law_entry" CF f fd)(m_int:mg "int"=Z)(I:mg "len"=Z):aU P w K mg base bj 1 f fd ["one","other","row","far"] JU:=by
 show F.ok j4 (λvs H Q Ex h=>?_) (λim A outer s H vs Q Ex gM h=>?_)
 . obtain⟨v1,v2,r,O,b1,b2,ins,n1,n2,rc,rfl,_⟩:=h
   rfl
 . obtain⟨v1,v2,r,O,b1,b2,ins,n1,n2,rc,rfl,⟨p1,B1,I1,N1,qj,lg,rfl,iq,jB,hI1,qK,jH,wg⟩,⟨p2,B2,I2,N2,zL,Ix,rfl,bp,tH,pj,tI,zj,wj⟩,pre,hr,hR,f0,q⟩:=h
   obtain⟨x0,a0,_⟩:=hR.at (i:=0) ∅ ∅
   obtain⟨x1,a1,_⟩:=hR.at (i:=1) ∅ ∅
   obtain⟨x2,a2,_⟩:=hR.at (i:=2) ∅ ∅
   obtain⟨x3,a3,_⟩:=hR.at (i:=3) ∅ ∅
   obtain⟨x4,a4,_⟩:=hR.at (i:=4) ∅ ∅
   obtain⟨x5,a5,_⟩:=hR.at (i:=5) ∅ ∅
   have l1:=pre.l1
   have l2:=pre.l2
   have o1:=pre.o1
   have o2:=pre.o2
   have TJ:=Paired.length jH
   have TL:=Paired.length zj
   have nl1:=Paired.length wg
   have nl2:=Paired.length wj
   show cK ⟨_,(ajH (ajT 4 j4.nd (ajJ akl (aj6 [Z,Z] ["name","size"] (dq CF) U (aj4 (ajG ajM (Y 0) ajF)) (λy y y y y=>⟨(aj1 2 (ajQ (ajK 0 (bM ["name","size"])) (ajQ (ajK 1 (bM ["name","size"])) aj2))),aj3,(ajO (L ajL (L (Y 0) M)))⟩)) (aj6 [Z,Z] ["name","size"] (dq CF) U (aj4 (ajG ajM (Y 1) ajF)) (λy y y y y=>⟨(aj1 2 (ajQ (ajK 0 (bM ["name","size"])) (ajQ (ajK 1 (bM ["name","size"])) aj2))),aj3,(ajO (L ajL (L (Y 0) M)))⟩))))
     (ajH (ajT 5 j4.nd (ajG ajP (ajJ akl (Y 4) (ajW (L (ajO (L ajL (L ajF M))) M))) (ajJ ajY (ajG ajP (Y 2) ajF) (ajJ aj7 (aj0 aj5 U I eE (L (Y 4) M)) ajF))))
     (ajH (ajT 6 j4.nd (ajG ajP (ajW (L (ajO (L ajL (L ajL M))) (L (ajO (L ajL (L ajL M))) (L (ajO (L ajL (L ajL M))) M)))) (ajJ ajY (ajG ajP (Y 2) ajF) ajF)))
     (ajH (ajT 7 j4.nd (ajG ajP (ajW (L (Y 5) (L (Y 6) M))) (aka akA U m_int (by right) (L (akc L3.Cj (ajJ ajY (ajG ajP (Y 2) ajF) ajF) ajF) M))))
     (ajH (ajT 8 j4.nd (ajO (L ajL (L (ajO (L ajL (L (Y 7) (L (Y 5) M)))) (L (ajO (L ajL (L (ajO (L ajL M)) M))) M)))))
     (ajH (ajT 9 j4.nd (ajG ajP (ajW (L (ajO (L ajL (L ajF M))) (L (ajO (L ajL (L (ajO (L ajL (L (ajO (L ajL (L ajF M))) (L (Y 7) M)))) (L (Y 5) M)))) M))) (ajJ ajY (ajG ajP (Y 2) ajF) ajF)))
     (ajH (ajU (ajS ajZ (ajJ ajY (ajG ajP (Y 2) ajF) ajF) ajF) (ajI (ajT 8 j4.nd (ajO (L ajL (L (ajO (L ajL M)) M))))) ajV)
     (ajH (ajT 10 j4.nd (ajJ ajY (ajG ajP (Y 2) ajF) (aj0 aj5 U I eE (L (ajG ajM (Y 0) ajF) M))))
     (ajH (ajT 11 j4.nd (ajJ ajY (ajG ajP (Y 2) ajF) (aj0 aj5 U I eE (L (ajG ajM (Y 1) ajF) M))))
     (ajH (ajT 12 j4.nd (ajG ajP (ajW (L ajL (L ajL (L ajL (L ajL M))))) (ajJ ajY (ajG ajP (Y 2) ajF) ajF)))
     (ajH (ajU (ajS ajZ (ajJ ajY (ajG ajP (Y 2) ajF) ajF) ajF) (ajI (ajT 10 j4.nd (ajG ajP (ajW (L (ajJ aku (akH ajF) (Y 3)) (L (ajJ aj7 (aj0 aj5 U I eE (L (ajG ajM (Y 0) ajF) M)) (Y 3)) (L (akH ajF) (L (aj0 aj5 U I eE (L (ajG ajM (Y 0) ajF) M)) M))))) (ajJ ajY (ajG ajP (Y 2) ajF) ajF)))) ajV)
     (ajH (ajU (ajS ajZ (ajJ ajY (ajG ajP (Y 2) ajF) ajF) ajF) (ajI (ajT 11 j4.nd (ajG ajP (ajW (L (ajJ aku (akH ajF) (Y 3)) (L (ajJ aj7 (aj0 aj5 U I eE (L (ajG ajM (Y 1) ajF) M)) (Y 3)) (L (akH ajF) (L (aj0 aj5 U I eE (L (ajG ajM (Y 1) ajF) M)) M))))) (ajJ ajY (ajG ajP (Y 2) ajF) ajF)))) ajV)
     (ajH (ajU (ajS ajZ (ajJ ajY (ajG ajP (Y 2) ajF) ajF) ajF) (ajI (ajT 12 j4.nd (ajG ajP (ajW (L ajL (L ajL (L ajL (L ajL (L ajL M)))))) (ajJ ajY (ajG ajP (Y 2) ajF) ajF)))) ajV)
     (ajI (ajN (ajO (L (ajO (L (Y 10) (L (Y 11) (L (Y 8) (L (Y 12) (L (Y 9) M)))))) (L (akc L3.Cj (ajJ ajY (ajG ajP (Y 2) ajF) ajF) ajF) M)))))))))))))))))),?_⟩
   show bW λRk kR=>?_
   have s00:=same_refl H
   show aa U (aF (s00 _ _ iq) U (aL U ⟨_,af.of (s00 _ _ jB)⟩ (λla vK=>fT (xs:=qj) (λi H8=>ag H H8/\∃vt,H8 la=S (.lst vt)/\↑vt<=i/\∀v∈vt,SE b1 b2 E.dP 0 True H8 v) ⟨aH vK _,[],ai,fL _,λv hv=>(nomatch hv)⟩ (λi H8 y z=>af.of (z.1 _ _ (s00 _ _ jB))) (λi x H8 hx z=>?_) (λHa z=>?_))))
   . obtain⟨s8,vt,gt,tl,al⟩:=z
     obtain⟨b,dt,pb0,rfl,gX⟩:=Paired.get jH hx
     have bC:i<↑qj:=(bt hx)
     show gC (s8 _ _ (s00 _ _ gX)) (dW (A:=λH3=>cR _ la _ H3 _) (aL U alK (λu hu=>⟨vt,?_,da ⋯,cO (Pv:=λi H8=>ag H H8/\∃vt,H8 la=S (.lst vt)/\↑vt<=i/\∀v∈vt,SE b1 b2 E.dP 0 True H8 v) (by repeat' constructor) bC ?_⟩)))
     . rw[aC (aR gt hu)];show gt
     . have h4:(upd H8 u (.tup [.str "mine",.str b.1])) la=S (.lst vt):=by rw[aC (aR gt hu)];show gt
       have tk:=(bN hu (.tup [.str "mine",.str b.1])).trans (TK.lst (o:=.lst (vt++[.ref u])) h4)
       show⟨cD (bR s8 hu) vK,_,ai,by rw[cJ];change ↑vt+1<=_;lia,λv hv=>?_⟩
       rcases eT hv with z|z
       . show(al v z).keep tk
       . rw[dv z]
         show⟨.box "mine" b.1,⟨u,U,by rw[aC (aR gt hu).symm];show ai⟩,bK,.inr (.inl rfl),aK _,⟨λy=>bK,λy=>.inl ⟨U,d7 ⟨b,bI dt,U⟩⟩⟩⟩
   obtain⟨sla,vtla,FR,ajn,alla⟩:=z
   have s0a:=ah s00 sla
   show aa U (aF (s0a _ _ bp) U (aL U ⟨_,af.of (s0a _ _ tH)⟩ (λlb Gp=>fT (xs:=zL) (λi H8=>ag Ha H8/\∃vt,H8 lb=S (.lst vt)/\↑vt<=i/\∀v∈vt,SE b1 b2 E.dP 0 True H8 v) ⟨aH Gp _,[],ai,fL _,λv hv=>(nomatch hv)⟩ (λi H8 y z=>af.of (z.1 _ _ (s0a _ _ tH))) (λi x H8 hx z=>?_) (λHb z=>?_))))
   . obtain⟨s8,vt,gt,tl,al⟩:=z
     obtain⟨b,dt,pb0,rfl,gX⟩:=Paired.get zj hx
     have bC:i<↑zL:=(bt hx)
     show gC (s8 _ _ (s0a _ _ gX)) (dW (A:=λH3=>cR _ lb _ H3 _) (aL U alK (λu hu=>⟨vt,?_,da ⋯,cO (Pv:=λi H8=>ag Ha H8/\∃vt,H8 lb=S (.lst vt)/\↑vt<=i/\∀v∈vt,SE b1 b2 E.dP 0 True H8 v) (by repeat' constructor) bC ?_⟩)))
     . rw[aC (aR gt hu)];show gt
     . have h4:(upd H8 u (.tup [.str "yours",.str b.1])) lb=S (.lst vt):=by rw[aC (aR gt hu)];show gt
       have tk:=(bN hu (.tup [.str "yours",.str b.1])).trans (TK.lst (o:=.lst (vt++[.ref u])) h4)
       show⟨cD (bR s8 hu) Gp,_,ai,by rw[cJ];change ↑vt+1<=_;lia,λv hv=>?_⟩
       rcases eT hv with z|z
       . show(al v z).keep tk
       . rw[dv z]
         show⟨.box "yours" b.1,⟨u,U,by rw[aC (aR gt hu).symm];show ai⟩,bK,.inr (.inr rfl),aK _,⟨λy=>bK,λy=>.inr ⟨U,d7 ⟨b,bI dt,U⟩⟩⟩⟩
   obtain⟨JG,Dv,FU,ajo,allb⟩:=z
   show⟨la,lb,aw U U ⟨JG _ _ FR,FU,ck (show _<=4 by lia) ∅,λnm yq=>?_⟩⟩
   obtain⟨Hc,sc,gc,G⟩:=aT yq (.lst (vtla++Dv))
   rw[G];clear G
   have alN:∀v∈vtla++Dv,SE b1 b2 E.dP 0 True Hc v:=λv hv=>by
     rcases eT hv with z|z
     . show(alla v z).keep ((ag.tk JG).trans (ag.tk sc))
     . show(allb v z).keep (ag.tk sc)
   have lN:↑(vtla++Dv)<=4:=by rw[cJ];lia
   generalize vtla++Dv=vN at alN lN gc
   have sc:=ah s0a (ah JG sc)
   show bO (kR _ _ (fX [S (.ref p1),S (.ref p2),S (.ref r),S (.int O),S (.ref nm),Z,Z,Z,Z,Z,Z,Z,Z] U (bW λRk kR=>aL U alK (λu hu=>?_))))
   obtain⟨Hd,sd,gd,G⟩:=aT hu (.tup [.str "number",.int 2])
   rw[G];clear G
   show⟨alJ,λl hl=>?_⟩
   obtain⟨He,se,ge,G⟩:=aT hl (.lst [.ref u])
   rw[G];clear G
   show⟨nm,l,aw U U ⟨se _ _ (sd _ _ gc),ge,ck (show _<=5 by change ↑vN+1<=5;lia) ∅,λL8 hL=>?_⟩⟩
   obtain⟨Hf,sf,gf,G⟩:=aT hL (.lst (vN++[.ref u]))
   rw[G];clear G
   have scf:=ah sd (ah se sf)
   obtain⟨gv,Y6,vw⟩:=va (P:=SE b1 b2 E.dP 0 True Hf) (xs:=vN++[.ref u]) (r:=x1%((↑vN:Int)+1)) (mW ⋯) (by rw[cJ];show pT ⋯) (λv hv=>by
     rcases eT hv with z|z
     . show(alN v z).keep (ag.tk scf)
     . rw[dv z]
       show⟨.num 2,⟨u,U,sf _ _ (se _ _ gd)⟩,bK,(by change(2:Int).natAbs<2^100;decide),aK _,⟨λy=>bK,λy=>(by change(2:Int).natAbs<2^100;decide)⟩⟩)
   have sF:=ah sc scf
   show aa U (aX (sF _ _ hr) a1 (aa U (aw U (.inl (af.of (scf _ _ gc))) (aw U U (bF U U (by change(0:Int)<(↑vN:Int)+1;lia) (aX gf Y6 (bO (kR _ _ (fX [S (.ref p1),S (.ref p2),S (.ref r),S (.int O),S (.ref nm),S (gv),Z,Z,Z,Z,Z,Z,Z] U (bW λRk kR=>⟨alK,λu1 jE=>?_⟩))))))))))
   obtain⟨U1,se1,ge1,G⟩:=aT jE (.tup [.str "mine",.str "qq"])
   rw[G];clear G
   show⟨alK,λu2 n9=>?_⟩
   obtain⟨U2,se2,XS,G⟩:=aT n9 (.tup [.str "yours",.str "zz"])
   rw[G];clear G
   show⟨alK,λu3 tT=>?_⟩
   obtain⟨Hb3,se3,XT,G⟩:=aT tT (.tup [.str "mine",.str "yours"])
   rw[G];clear G
   show⟨alL,λL8 hL=>?_⟩
   obtain⟨U3,CY,XU,G⟩:=aT hL (.lst [.ref u1,.ref u2,.ref u3])
   rw[G];clear G
   have RP:=ah se1 (ah se2 (ah se3 CY))
   obtain⟨bv,YQ,VH⟩:=va (P:=SE b1 b2 E.dP 0 False U3) (xs:=[.ref u1,.ref u2,.ref u3]) (r:=x2%3) (mW ∅) (pT ∅) (λv hv=>by
     rcases dG hv with e|hv
     . rw[e];show⟨.box "mine" "qq",⟨u1,rfl,CY _ _ (se3 _ _ (se2 _ _ ge1))⟩,bK,.inr (.inl rfl),aK _,⟨λh=>h.elim (λz=>pre.qq z.2) (λz=>ao z.1 ∅),gD⟩⟩
     rcases dG hv with e|hv
     . rw[e];show⟨.box "yours" "zz",⟨u2,rfl,CY _ _ (se3 _ _ XS)⟩,bK,.inr (.inr rfl),aK _,⟨λh=>h.elim (λz=>ao z.1 ∅) (λz=>pre.zz z.2),gD⟩⟩
     . rw[dv hv];show⟨.box "mine" "yours",⟨u3,rfl,CY _ _ XT⟩,bK,.inr (.inl rfl),aK _,⟨λh=>h.elim (λz=>pre.yo z.2) (λz=>ao z.1 ∅),gD⟩⟩)
   have sB:=ah sF RP
   have vw:=vw.keep (ag.tk RP)
   show aa U (aX (sB _ _ hr) a2 (bF U U (by change(0:Int)<3;decide) (aX XU YQ (bO (kR _ _ (fX [S (.ref p1),S (.ref p2),S (.ref r),S (.int O),S (.ref nm),S (gv),S (bv),Z,Z,Z,Z,Z,Z] U (bW λRk kR=>aa U (aL U alK (λL8 hL=>?_)))))))))
   obtain⟨Hg,sg,gg,G⟩:=aT hL (.lst [gv,bv])
   rw[G];clear G
   obtain⟨xv,tW,xvA⟩ : ∃xv,de [gv,bv] (if decide (3<x0%6)=true then 1 else 0)=S xv/\SE b1 b2 E.dP 0 (¬ 3<x0%6) Hg xv:=by
     by_cases c:3<x0%6
     . rw[aB (bS c)];show⟨bv,rfl,(VH.keep (ag.tk sg)).iff ⟨gD,λz=>z c⟩⟩
     . rw[az λz=>c (bw z)];show⟨gv,rfl,(vw.keep (ag.tk sg)).iff ⟨λy=>c,λy=>bK⟩⟩
   have sG:=ah sB sg
   have vw:=vw.keep (ag.tk sg)
   show aa U (aX (sG _ _ hr) a0 (bF U U (by change(0:Int)<6;decide) (aw U U (.inr (aa U ⟨L8,_,aw U U ⟨af.of gg,tW,bO (kR _ _ (fX [S (.ref p1),S (.ref p2),S (.ref r),S (.int O),S (.ref nm),S (gv),S (bv),S (xv),Z,Z,Z,Z,Z] U ?_))⟩⟩)))))
   obtain⟨eg,Bk,M6,M7,eg4,Bl⟩:=vw
   obtain⟨ex,Bn,Nc,Nf,ex4,Bo⟩:=xvA
   have Bl:=Bl.mpr bK
   show bW λRk kR=>aa U (aL U alL (λu1 jE=>?_))
   obtain⟨Hm1,JH,xV,G⟩:=aT jE (.tup [.str "under",xv,gv])
   rw[G];clear G
   show⟨alJ,λu2 n9=>?_⟩
   obtain⟨Hm2,JI,xW,G⟩:=aT n9 (.tup [.str "yes"])
   rw[G];clear G
   show⟨alK,λu3 tT=>?_⟩
   obtain⟨Hm3,sm3,FV,G⟩:=aT tT (.tup [.str "not",.ref u2])
   rw[G];clear G
   show⟨alL,λu4 yI=>?_⟩
   obtain⟨U5,sm4,FW,G⟩:=aT yI (.tup [.str "both",.ref u1,.ref u3])
   rw[G];clear G
   have t2:=ah JI (ah sm3 sm4)
   have tA:=ah JH t2
   have kA:=ag.tk tA
   have jQ:SE b1 b2 PF 2 (¬ 3<x0%6) U5 (.ref u4):=⟨.two .both (.two .under ex eg) (.nt .yes),⟨_,_,⟨u4,rfl,FW⟩,⟨_,_,⟨u1,rfl,t2 _ _ xV⟩,Bn.keep kA,Bk.keep kA⟩,⟨_,⟨u3,rfl,sm4 _ _ FV⟩,⟨u2,rfl,sm4 _ _ (sm3 _ _ xW)⟩⟩⟩,⟨⟨⟨Nc,M6⟩,bK⟩,λW=>zS _⟩,⟨⟨Nf,M7⟩,bK⟩,(by change max (max ex.dep eg.dep+1) 1+1<=2;lia),⟨λz=>Bo.mp z.1.1,λz=>⟨⟨Bo.mpr z,Bl⟩,bK⟩⟩⟩
   have sM:=ah sG tA
   have Bk:=Bk.keep kA
   have Bn:=Bn.keep kA
   show bO (kR _ _ ?_)
   generalize V.ref u4=cv at jQ ⊢
   show fX [S (.ref p1),S (.ref p2),S (.ref r),S (.int O),S (.ref nm),S (gv),S (bv),S (xv),S (cv),Z,Z,Z,Z] U (bW λRk kR=>⟨alK,λu1 jE=>?_⟩)
   obtain⟨Hw1,JH,xV,G⟩:=aT jE (.tup [.str "number",.int 1])
   rw[G];clear G
   show⟨alK,λu2 n9=>?_⟩
   obtain⟨Hw2,JI,xW,G⟩:=aT n9 (.tup [.str "number",.int 1])
   rw[G];clear G
   show aL U alL (λu3 tT=>?_)
   obtain⟨Hw3,sm3,FV,G⟩:=aT tT (.tup [.str "less",.ref u2,xv])
   rw[G];clear G
   show aL U alL (λu4 yI=>?_)
   obtain⟨Hw4,sm4,FW,G⟩:=aT yI (.tup [.str "plus",.ref u3,gv])
   rw[G];clear G
   show⟨alK,λL8 hL=>?_⟩
   obtain⟨Ew,CZ,X5,G⟩:=aT hL (.lst [.ref u1,.ref u4])
   rw[G];clear G
   have t2:=ah JI (ah sm3 (ah sm4 CZ))
   have tA:=ah JH t2
   have kA:=ag.tk tA
   obtain⟨wv,vR,nh⟩ : ∃wv,de [.ref u1,.ref u4] (x3%2)=S wv/\SE b1 b2 E.dP 2 (x3%2=1->¬ 3<x0%6) Ew wv:=by
     rcases Int.emod_two_eq x3 with c|c<;>rw[c]
     . show aa U ⟨.num 1,⟨u1,U,t2 _ _ xV⟩,bK,(by change(1:Int).natAbs<2^100;decide),fL _,⟨λy h=>ao h ∅,λy=>(by change(1:Int).natAbs<2^100;decide)⟩⟩
     . show aa U ⟨.two .plus (.two .less (.num 1) ex) eg,⟨_,_,⟨u4,U,CZ _ _ FW⟩,⟨_,_,⟨u3,U,CZ _ _ (sm4 _ _ FV)⟩,⟨u2,U,CZ _ _ (sm4 _ _ (sm3 _ _ xW))⟩,Bn.keep kA⟩,Bk.keep kA⟩,⟨⟨bK,Nc⟩,M6⟩,⟨⟨(by change(1:Int).natAbs<2^100;decide),Nf⟩,M7⟩,(by change max (max 0 ex.dep+1) eg.dep+1<=2;lia),⟨λz y=>Bo.mp z.1.2,λz=>⟨⟨(by change(1:Int).natAbs<2^100;decide),Bo.mpr (z rfl)⟩,Bl⟩⟩⟩
   show aa U (aX ((ah sM tA) _ _ hr) a3 (bF U U (by change(0:Int)<2;decide) (aX X5 vR ?_)))
   have sW:=ah sM tA
   have jQ:=jQ.keep kA
   show bO (kR _ _ (fX [S (.ref p1),S (.ref p2),S (.ref r),S (.int O),S (.ref nm),S (gv),S (bv),S (xv),S (cv),S (wv),Z,Z,Z] U (bW λRk kR=>?_)))
   suffices hs:∀(cv:V) (Hy:Hp),ag Ew Hy->SE b1 b2 PF 2 (x3%4≠1->¬ 3<x0%6) Hy cv->Rk [S (.ref p1),S (.ref p2),S (.ref r),S (.int O),S (.ref nm),S (gv),S (bv),S (xv),S (cv),S (wv),Z,Z,Z] Hy by
     show aa U (aX (sW _ _ hr) a3 (bF U U (by change(0:Int)<4;decide) (aN U U (aG (λc=>?_) (λc=>?_)))))
     . show⟨alJ,λu1 jE=>⟨alK,λu2 n9=>?_⟩⟩
       have g1:=aH n9 (.tup [.str "not",.ref u1]) _ _ (ai (H:=Ew) (a:=u1) (o:=.tup [.str "yes"]))
       show hs _ _ (bR (aH jE _) n9) ⟨.nt .yes,⟨_,⟨u2,U,ai⟩,⟨u1,U,g1⟩⟩,⟨bK,λW=>rfl⟩,bK,(by change 1<=2;decide),⟨λy h=>ao (BR c) h,λy=>bK⟩⟩
     . show hs cv _ (same_refl _) (jQ.iff ⟨λz y=>z,λz=>z (BU c)⟩)
   intro cv Hy Ss jQ
   show kR _ _ ?_
   have sy:=ah sW Ss
   have nh:=nh.keep (ag.tk Ss)
   show bW λRk kR=>aa U (aX (sy _ _ hr) a4 (aa U (aF (sy _ _ iq) U (aw U (.inl (af.of (sy _ _ qK))) (bF U U (by change(0:Int)<(↑lg:Int);lia) ?_)))))
   obtain⟨pz,M9⟩ : ∃pz,pz=x4%(↑lg:Int):=⟨_,rfl⟩
   have Vu:0<=pz/\pz<(↑n1:Int):=by rw[M9,← nl1];show⟨mW ⋯,pT ⋯⟩
   show bO (kR _ _ (fX [S (.ref p1),S (.ref p2),S (.ref r),S (.int O),S (.ref nm),S (gv),S (bv),S (xv),S (cv),S (wv),S (.int pz),Z,Z] (by subst M9;rfl) (bW λRk kR=>aa U (aX (sy _ _ hr) a5 (aa U (aF (sy _ _ bp) U (aw U (.inl (af.of (sy _ _ tI))) (bF U U (by change(0:Int)<(Ix.length:Int);lia) ?_))))))))
   obtain⟨qz,Nb⟩ : ∃qz,qz=x5%(Ix.length:Int):=⟨_,rfl⟩
   have Vv:0<=qz/\qz<(↑n2:Int):=by rw[Nb,← nl2];show⟨mW ⋯,pT ⋯⟩
   show bO (kR _ _ (fX [S (.ref p1),S (.ref p2),S (.ref r),S (.int O),S (.ref nm),S (gv),S (bv),S (xv),S (cv),S (wv),S (.int pz),S (.int qz),Z] (by subst Nb;rfl) (bW λRk kR=>⟨alM,λL8 hL=>?_⟩)))
   obtain⟨Hj,sj,gj,G⟩:=aT hL (.lst [.str "mine",.str "yours",.str "both",.str "end"])
   rw[G];clear G
   obtain⟨_,hz,wh,rfl,hwh⟩:=va (P:=λv=>∃w,v=.str w/\Dw w) (xs:=[.str "mine",.str "yours",.str "both",.str "end"]) (r:=x1%4) (mW ∅) (pT ∅) (λx hx=>by
     rcases dG hx with e|hx
     . show⟨_,e,U⟩
     rcases dG hx with e|hx
     . show⟨_,e,U⟩
     rcases dG hx with e|hx
     . show⟨_,e,U⟩
     . show⟨_,dv hx,U⟩)
   have sy':=ah sy sj
   show aa U (aX (sy' _ _ hr) a1 (bF U U (by change(0:Int)<4;decide) (aX gj hz ?_)))
   have jQ:=jQ.keep (ag.tk sj)
   have nh:=nh.keep (ag.tk sj)
   have sy:=sy'
   show bO (kR _ _ (fX [S (.ref p1),S (.ref p2),S (.ref r),S (.int O),S (.ref nm),S (gv),S (bv),S (xv),S (cv),S (wv),S (.int pz),S (.int qz),S (.str wh)] U (bW λRk kR=>?_)))
   suffices hs:∀(pz:Int) (Hq:Hp),ag Hj Hq->((0<=pz/\pz<(↑n1:Int))↔x0%6≠1)->Rk [S (.ref p1),S (.ref p2),S (.ref r),S (.int O),S (.ref nm),S (gv),S (bv),S (xv),S (cv),S (wv),S (.int pz),S (.int qz),S (.str wh)] Hq by
     show aa U (aX (sy _ _ hr) a0 (bF U U (by change(0:Int)<6;decide) (aN U U (aG (λc=>?_) (λc=>?_)))))
     . show aa U (aa U (aw U U (aa U (aF (sy _ _ iq) U (aw U (.inl (af.of (sy _ _ qK))) (aa U (aw U U (aa U (aa U (aF (sy _ _ iq) U (aw U (.inl (af.of (sy _ _ qK))) ⟨alM,λL8 hL=>?_⟩)))))))))))
       have sL:=aH hL (.lst [.int (-1-O),.int ((↑lg:Int)+O),.int (-1),.int (↑lg:Int)])
       have gL:(upd Hj L8 (.lst [.int (-1-O),.int ((↑lg:Int)+O),.int (-1),.int (↑lg:Int)])) L8=S (.lst [.int (-1-O),.int ((↑lg:Int)+O),.int (-1),.int (↑lg:Int)]):=ai
       obtain⟨_,hz,pv,rfl,aaA⟩:=va (P:=λv=>∃k:Int,v=.int k/\¬ (0<=k/\k<(↑n1:Int))) (xs:=[.int (-1-O),.int ((↑lg:Int)+O),.int (-1),.int (↑lg:Int)]) (r:=x2%4) (mW ∅) (pT ∅) (λx hx=>by
         rcases dG hx with e|hx
         . show⟨_,e,⋯⟩
         rcases dG hx with e|hx
         . show⟨_,e,⋯⟩
         rcases dG hx with e|hx
         . show⟨_,e,⋯⟩
         . show⟨_,dv hx,⋯⟩)
       show aa U (aX ((ah sy sL) _ _ hr) a2 (bF U U (by change(0:Int)<4;decide) (aX gL hz (hs pv _ sL ⟨λh=>ao h aaA,λh=>ao (BR c) h⟩))))
     . show hs _ Hj (same_refl _) ⟨λy=>BU c,λy=>Vu⟩
   intro pz Hq uq Vs
   show kR _ _ ?_
   have jQ:=jQ.keep (ag.tk uq)
   have nh:=nh.keep (ag.tk uq)
   have sy':=ah sy uq
   have sy:=sy'
   show bW λRk kR=>?_
   suffices hs:∀(qz:Int) (Hu:Hp),ag Hq Hu->((0<=qz/\qz<(↑n2:Int))↔x0%6≠2)->Rk [S (.ref p1),S (.ref p2),S (.ref r),S (.int O),S (.ref nm),S (gv),S (bv),S (xv),S (cv),S (wv),S (.int pz),S (.int qz),S (.str wh)] Hu by
     show aa U (aX (sy _ _ hr) a0 (bF U U (by change(0:Int)<6;decide) (aN U U (aG (λc=>?_) (λc=>?_)))))
     . show aa U (aa U (aw U U (aa U (aF (sy _ _ bp) U (aw U (.inl (af.of (sy _ _ tI))) (aa U (aw U U (aa U (aa U (aF (sy _ _ bp) U (aw U (.inl (af.of (sy _ _ tI))) ⟨alM,λL8 hL=>?_⟩)))))))))))
       have sL:=aH hL (.lst [.int (-1-O),.int ((Ix.length:Int)+O),.int (-1),.int (Ix.length:Int)])
       have gL:(upd Hq L8 (.lst [.int (-1-O),.int ((Ix.length:Int)+O),.int (-1),.int (Ix.length:Int)])) L8=S (.lst [.int (-1-O),.int ((Ix.length:Int)+O),.int (-1),.int (Ix.length:Int)]):=ai
       obtain⟨_,hz,pv,rfl,hqz⟩:=va (P:=λv=>∃k:Int,v=.int k/\¬ (0<=k/\k<(↑n2:Int))) (xs:=[.int (-1-O),.int ((Ix.length:Int)+O),.int (-1),.int (Ix.length:Int)]) (r:=x2%4) (mW ∅) (pT ∅) (λx hx=>by
         rcases dG hx with e|hx
         . show⟨_,e,⋯⟩
         rcases dG hx with e|hx
         . show⟨_,e,⋯⟩
         rcases dG hx with e|hx
         . show⟨_,e,⋯⟩
         . show⟨_,dv hx,⋯⟩)
       show aa U (aX ((ah sy sL) _ _ hr) a2 (bF U U (by change(0:Int)<4;decide) (aX gL hz (hs pv _ sL ⟨λh=>ao h hqz,λh=>ao (BR c) h⟩))))
     . show hs _ Hq (same_refl _) ⟨λy=>BU c,λy=>Vv⟩
   intro qz Hu uq Vt
   show kR _ _ ?_
   have jQ:=jQ.keep (ag.tk uq)
   have nh:=nh.keep (ag.tk uq)
   have sy':=ah sy uq
   have sy:=sy'
   show bW λRk kR=>?_
   suffices hs:∀(wh:Str) (Hv:Hp),ag Hu Hv->(Dw wh↔x0%6≠3)->Rk [S (.ref p1),S (.ref p2),S (.ref r),S (.int O),S (.ref nm),S (gv),S (bv),S (xv),S (cv),S (wv),S (.int pz),S (.int qz),S (.str wh)] Hv by
     show aa U (aX (sy _ _ hr) a0 (bF U U (by change(0:Int)<6;decide) (aN U U (aG (λc=>?_) (λc=>?_)))))
     . show⟨alO,λL8 hL=>?_⟩
       have sL:=aH hL (.lst [.str "",.str "Mine",.str "none",.str "yes",.str "ends"])
       have gL:(upd Hu L8 (.lst [.str "",.str "Mine",.str "none",.str "yes",.str "ends"])) L8=S (.lst [.str "",.str "Mine",.str "none",.str "yes",.str "ends"]):=ai
       obtain⟨_,hz,w3,rfl,hw3⟩:=va (P:=λv=>∃w,v=.str w/\¬ Dw w) (xs:=[.str "",.str "Mine",.str "none",.str "yes",.str "ends"]) (r:=x2%5) (mW ∅) (pT ∅) (λx hx=>by
         rcases dG hx with e|hx
         . show⟨_,e,∅⟩
         rcases dG hx with e|hx
         . show⟨_,e,∅⟩
         rcases dG hx with e|hx
         . show⟨_,e,∅⟩
         rcases dG hx with e|hx
         . show⟨_,e,∅⟩
         . show⟨_,dv hx,∅⟩)
       show aa U (aX ((ah sy sL) _ _ hr) a2 (bF U U (by change(0:Int)<5;decide) (aX gL hz (hs w3 _ sL ⟨λh=>ao h hw3,λh=>ao (BR c) h⟩))))
     . show hs wh _ (same_refl _) ⟨λy=>BU c,λy=>hwh⟩
   intro wh Hv sv VB
   show kR _ _ ?_
   have jQ:=jQ.keep (ag.tk sv)
   have nh:=nh.keep (ag.tk sv)
   have sV:=ah sy sv
   show aa U (aa U (aa U (aa U (aL U alO (λe he=>?_)))))
   obtain⟨Hk,sk,gk,G⟩:=aT he (.tup [.int pz,.int qz,cv,.str wh,wv])
   rw[G];clear G
   show aa U (aX ((ah sV sk) _ _ hr) a0 (bF U U (by change(0:Int)<6;decide) (aw U U ⟨alK,λtt fO=>?_⟩)))
   have sT:=aH fO (.tup [.ref e,.bl (decide (0<x0%6))])
   obtain⟨c,c1,⟨c2,VJ⟩,c3,c4,c5⟩:=jQ
   obtain⟨w,w1,w2,w3,w4,w5⟩:=nh
   have kT:=ag.tk (ah sk sT)
   show q tt e _ ⟨⟨pz,qz,c⟩,wh,w⟩ _ (ah sV (ah sk sT)) ai ⟨cv,wv,⟨e,U,sT _ _ gk⟩,c1.keep kT,w1.keep kT⟩ (WK Vs Vt VB c3 w3 c4 w4 c2 w2 VJ c5 w5)
def FZ (s:Int)(G:↥Int):↑(cm (s::G))=s.toNat*↑(cm G):=by
 change((cj s.toNat).flatMap λw=>(cm G).map λr=>((w:Nat):Int)::r).length=_
 generalize s.toNat=n
 induction n with
 | zero=>rw[Nat.zero_mul];rfl
 | succ n I=>rw[Lg,List.flatMap_append,cJ,I,Aa,K3,jJ,aA,uL]
def NB:∀{G:↥Int},G.length<=2->(∀s∈G,1<=s/\s<=5)->↑(cm G)<=32
 | [],_,_=>by left
 | [s],_,h=>by
   have:=h s (dS (.inl rfl))
   rw[FZ]
   change s.toNat*1<=32
   lia
 | [s,u],_,h=>by
   have h1:=h s (dS (.inl rfl))
   have h2:=h u (dS (.inr (dS (.inl rfl))))
   rw[FZ,FZ]
   change s.toNat*(u.toNat*1)<=32
   rw[Nat.mul_one]
   show ck (Nat.mul_le_mul (show s.toNat<=5 by lia) (show u.toNat<=5 by lia)) ∅
 | _::_::_::_,h,_=>by simp at h
structure u9 (bs:ak)(ins:↥Str):Prop where
 F:Fits bs ins
 l2:↑bs<=2
 sz:∀b∈bs,1<=b.2/\b.2<=16
 gl:∀i,↑(cm ((bs.map (·.2)).take i))<=32
 gi:∀i,↑(cm ((ins.map (cb bs)).take i))<=32
 si:∀s∈ins.map (cb bs),0<=s/\s<=16
structure Pk (bs:ak)(ins:↥Str)(cr:↥Nd)(N:Nat):Prop where
 F:Fits bs ins
 s5:∀b∈bs,1<=b.2/\b.2<=5
 l2:↑bs<=2
 sh:∀b∈bs,↑b.1<=N
 one:1<=↑cr
 cC:↑cr<=N
 good:∀e∈cr,e.good (·∈bs.map (·.1)) ↑cr 5
def ahb {bs:ak}{ins:↥Str}{B:Int}(F:Fits bs ins)(G:∀b∈bs,1<=b.2/\b.2<=B):∀s∈ins.map (cb bs),1<=s/\s<=B:=λs I=>by
 obtain⟨x,hx,rfl⟩:=du I
 obtain⟨b,hb,rfl⟩:=du (F.sub x hx)
 rw[rB F.nd hb]
 show G b hb
def Pk.R0 {bs:ak}{ins:↥Str}{cr:↥Nd}{N:Nat}(h:Pk bs ins cr N):u9 bs ins:=by
 have O:↑(ins.map (cb bs))<=2:=by
   have:=sub_len h.F.ind h.F.sub
   rw[aA]at this ⊢
   have:=h.l2
   lia
 have I:=ahb h.F h.s5
 have bl:↑(bs.map (·.2))<=2:=by rw[aA];show h.l2
 show⟨h.F,h.l2,λb hb=>by have:=h.s5 b hb;lia,λi=>NB (by rw[cp];lia) λs G=>?_,λi=>NB (by rw[cp];lia) λs G=>I s (rM G),λs G=>by have:=I s G;lia⟩
 obtain⟨b,hb,rfl⟩:=du (rM G)
 show h.s5 b hb
def afa {bs:ak}{ins:↥Str}{cr:↥Nd}(h:L7 bs ins cr 4):Pk bs ins cr 8:=by
 have cC:=h.cC
 show⟨Xb h.bx,h.bx.sz,h.bx.len,λb hb=>?_,h.one,⋯,h.good⟩
 obtain⟨nm,G,h1,h2,_,rfl⟩:=h.bx.nm
 have:=(rN (a:=b.1) (b:=b.2) hb).1
 generalize b.1=x at this
 have all:∀x∈nm,↑x<=8:=by rcases h1 with rfl|rfl|rfl<;>decide
 show all x this
def afb {bs b':ak}{ins:↥Str}{cz:Bool}{st:Int}{cr ii:↥Nd}{ps aJ:↥Int}{N:Nat}(h:Pk bs ins cr N)(zk:mE bs ins)(o:nK bs ins cz st b')(no:sH bs (bA ins cz) cr ii ps aJ)(nl:↑ii<=↑cr+1):Pk b' ins ii (N+1)/\ins.map (cb bs)=ins.map (cb b')/\∀x∈bs.map (·.1),bA ins cz x∈b'.map (·.1):=by
 have hl:↑b'=↑bs:=by rw[o.bx,Df,aA]
 have nd:(b'.map (·.1)).Nodup:=by
   rw[o.bx,Si]
   show Kg ?_
   rw[jK]
   show List.pairwise_map.mpr (Us ?_ (List.pairwise_map.mp zk.nd))
   intro a b ha hb ne e
   show ne (Dz zk cz (d7 ⟨a,ha,U⟩) (d7 ⟨b,hb,U⟩) e)
 have G:∀b∈bs,(bA ins cz b.1,b.2)∈b':=λb hb=>by
   rw[o.bx]
   show zH.mpr (d7 ⟨b,hb,U⟩)
 have Br:∀c∈b',∃b∈bs,c=(bA ins cz b.1,b.2):=λc hc=>by
   rw[o.bx]at hc
   obtain⟨b,hb,rfl⟩:=du (zH.mp hc)
   show⟨b,hb,U⟩
 have re:∀c∈b',1<=c.2/\c.2<=5:=λc hc=>by
   obtain⟨b,hb,rfl⟩:=Br c hc
   show h.s5 b hb
 have I:∀x∈ins,∃b∈bs,b.1=x/\(x,b.2)∈b':=λx hx=>by
   obtain⟨b,hb,e⟩:=du (h.F.sub x hx)
   show⟨b,hb,e,?_⟩
   have:=G b hb
   rw[show bA ins cz b.1=x by unfold bA;rw[e,aB hx]]at this
   show this
 have nm:∀x∈bs.map (·.1),bA ins cz x∈b'.map (·.1):=λx hx=>by
   obtain⟨b,hb,rfl⟩:=du hx
   show d7 ⟨_,G b hb,U⟩
 have l2:=h.l2
 show⟨⟨⟨nd,⋯,λc hc=>(re c hc).1,h.F.ind,λx hx=>?_,h.F.ilen⟩,re,⋯,λc hc=>?_,?_,?_,adO no nm h.good⟩,DZ λx hx=>?_,nm⟩
 . obtain⟨b,hb,e,O⟩:=I x hx
   show d7 ⟨_,O,U⟩
 . obtain⟨b,hb,rfl⟩:=Br c hc
   have hs:=h.sh b hb
   change(bA ins cz b.1).length<=N+1
   unfold bA
   split
   . lia
   . split
     . rw[Str.length_append]
       change ↑b.1+1<=N+1
       lia
     . lia
 . obtain⟨p,b,h1,h2,h3,_⟩:=no.all 0 (cr[0]'h.one) (bB h.one)
   lia
 . have:=h.cC
   lia
 . obtain⟨b,hb,e,O⟩:=I x hx
   have e1:=rB h.F.nd hb
   have e2:=rB nd O
   rw[e]at e1
   rw[e1]
   show e2.symm
def EK (b1 b2:ak)(n1 n2:↥Nd)(n:Nat)(es:↥Ef):Prop:=∀f∈es,(∃p q,xB b1 b2 n1 n2 f p q n)/\f.e.c.fj/\f.wait.dP
def AR (n:Nat)(es:↥Ef):Prop:=∀f∈es,uT f n/\f.e.c.fj/\f.wait.dP
def RT {bs:ak}{ins:↥Str}{cr:↥Nd}(s:u9 bs ins)(cC:↑cr<=50)(good:∀e∈cr,e.good (·∈bs.map (·.1)) ↑cr 5):lL bs cr ↑cr:=by
 have G:=s.gl ↑(bs.map (·.2))
 rw[cL]at G
 have l2:=s.l2
 show⟨s.F.nd,⋯,s.F.sz,λe I=>(good e I).imp (λy z=>z) ∅,⋯,by change(cm (bs.map (·.2))).length<=900;lia⟩
def u9.cC {bs:ak}{ins:↥Str}(s:u9 bs ins):uU (bs.map (·.2)):=by
 have l2:=s.l2
 show⟨λx hx=>?_,by rw[aA];lia,λi=>ck (s.gl i) ∅⟩
 obtain⟨b,hb,rfl⟩:=du hx
 have:=s.sz b hb
 lia
def afA {n:Nat}{H:Hp}{v1 v2:V}{O:J}{b1 b2:ak}{ins:↥Str}{n1 n2:↥Nd}{es:↥Ef}(G:u9 b1 ins)(I:u9 b2 ins)(sz:ins.map (cb b1)=ins.map (cb b2))(f1:↑n1<=50)(f2:↑n2<=50)(g1:∀e∈n1,e.good (·∈b1.map (·.1)) ↑n1 5)(g2:∀e∈n2,e.good (·∈b2.map (·.1)) ↑n2 5)(p1:cu H v1 b1 ins n1)(p2:cu H v2 b2 ins n2)(pp:sN H O es)(le:↑es<=900)(ok:AR n es):L8 n H v1 v2 O b1 b2 ins n1 n2 ↑n1 ↑n2 es:=by
 have a1:=RT G f1 g1
 have a2:=RT I f2 g2
 have x1:=G.gl ↑(b1.map (·.2))
 have x2:=I.gl ↑(b2.map (·.2))
 rw[cL]at x1 x2
 show⟨⟨⟨p1,p2,G.F,I.F,sz⟩,a1.gl,a2.gl,λs hs=>by have:=G.si s hs;lia,λi=>ck (G.gi i) ∅⟩,a1,a2,G.cC,I.cC,ck (Nat.mul_le_mul x1 x2) ∅,pp.ex,le,λf hf=>(ok f hf).1,λf hf=>(ok f hf).2⟩
def ad0 {bs b':ak}{f:Str->Str}{cr ii:↥Nd}{ps aJ:↥Int}(no:sH bs f cr ii ps aJ)(nm:∀x∈bs.map (·.1),f x∈b'.map (·.1))(l2:↑bs<=2):EK bs b' cr ii 10 (jA cr ps aJ (eQ f bs) ↑cr):=λe O=>by
 obtain⟨k,hk,h⟩:=qJ.mp O
 obtain⟨p,b,h1,h2,h3,h4,_⟩:=no.all k cr[k] (bB hk)
 have gp:ps.getD k 0=(p:Int):=by rw[eR,h1];rfl
 have gb:aJ.getD k 0=(b:Int):=by rw[eR,h2];rfl
 obtain⟨G,I,c3⟩:=agf f bs b' bs (λb hb=>d7 ⟨b,hb,rfl⟩) (λb hb=>nm _ (d7 ⟨b,hb,rfl⟩))
 rcases tF.mp h with rfl|⟨_,rfl⟩
 . show⟨⟨k,p,U,gp,hk,h3,?_,I,by change(eQ f bs).dep<10;lia,(by change(0:Int).natAbs<2^100;decide),(by change 0<10;decide)⟩,G,bK⟩
   change iX (.str (if _ then _ else _)) _=true
   split<;>decide
 . show⟨⟨k,b,U,gb,hk,h4,(by change iX (.str "yours") _=true;decide),I,by change(eQ f bs).dep<10;lia,(by change(1:Int).natAbs<2^100;decide),(by change 0<10;decide)⟩,G,bK⟩
def Fj {es fs:↥Ef}{f:Ef}{W:Str->Str->Int}{p q:Int}(h:f.e.c.holds W=false):df (es++f::fs) W p q=df (es++fs) W p q:=by
 unfold df
 rw[DT,DT,qo,h,zS]
def X6 {b1 b2:ak}{ins:↥Str}{n1 n2:↥Nd}{es fs:↥Ef}{f:Ef}(h:∀W,f.e.c.holds W=false)(g:Good b1 b2 ins n1 n2 (es++fs)):Good b1 b2 ins n1 n2 (es++f::fs):=by
 show⟨λws I=>?_,λm O y hy p q e G=>?_⟩
 . rw[Fj (h _)];show g.1 ws I
 . rw[Fj (h _)]at G
   show oW.congr (λW p q=>Fj (h W)) (g.2 m O y hy p q e G)
def ad2 {b1 b2:ak}{n1 n2:↥Nd}{n:Nat}{es:↥Ef}(h:EK b1 b2 n1 n2 n es):AR n es:=λf hf=>by
 obtain⟨⟨p,q,z⟩,c,w⟩:=h f hf
 have k:∀t x,iH b1 b2 t x->mq t x:=λt x z=>.inr (z.elim (λz=>.inl z.1) λz=>.inr z.1)
 show⟨⟨z.ok.imp k,z.dp,z.okw.imp k,z.dw⟩,c,w⟩
def aaC {b1 b2:ak}{ins:↥Str}{n1 n2:↥Nd}{es:↥Ef}{f:Ef}{G b:Bool}{a:Nat}(g:Good b1 b2 ins n1 n2 es)(ok:EK b1 b2 n1 n2 10 es)(o:Et b1 b2 n1 n2 G f)(eb:b=true↔(∀g∈es.take a++f::es.drop a,oU b1 b2 n1 n2 g 10)/\Good b1 b2 ins n1 n2 (es.take a++f::es.drop a)):b=!G:=by
 have gd:=X6 (es:=es.take a) (fs:=es.drop a) o.nv (by rw[Lh];show g)
 have I:b=true↔oU b1 b2 n1 n2 f 10:=by
   rw[eb]
   show⟨λz=>z.1 f (i5 (.inr oK)),λz=>⟨λk hk=>?_,gd⟩⟩
   rcases eT hk with h|h
   . show(ok k (rM h)).1
   . rcases dG h with h|h
     . rw[h];show z
     . show(ok k (wX h)).1
 have O:=o.fit
 cases b<;>cases G
 . show ao (I.mpr (Classical.byContradiction λz=>ao (O.mpr z) ∅)) ∅
 . rfl
 . rfl
 . show ao (I.mp rfl) (O.mp rfl)
def ad1 {n:Nat}{es:↥Ef}{f:Ef}{a:Nat}(h:AR n es)(p:uT f n/\f.e.c.fj/\f.wait.dP):AR n (es.take a++f::es.drop a):=λk hk=>by
 rcases eT hk with z|z
 . show h k (rM z)
 . rcases dG z with z|z
   . rw[z];show p
   . show h k (wX z)
def adX {α β:Type}{R:α->β->Prop}{xs:List α}{ys:List β}{x:α}{y:β}(h:Paired R xs ys)(k:R x y)(a:Nat):Paired R (xs.take a++[x]++xs.drop a) (ys.take a++y::ys.drop a):=by
 induction h generalizing a with
 | nil=>
   rw[List.take_nil,List.drop_nil,List.take_nil,List.drop_nil]
   show .cons k .nil
 | cons h r G=>
   cases a with
   | zero=>show .cons k (.cons h r)
   | succ a=>show .cons h (G a)
def abw {bs b':ak}{ins:↥Str}{cz:Bool}{st:Int}(h:mz bs ins)(o:nK bs ins cz st b'):(("qq":Str)∉bs.map (·.1)/\("yours":Str)∉bs.map (·.1))/\("w":Str)∉b'.map (·.1)/\("zz":Str)∉b'.map (·.1):=by
 obtain⟨nm,O,h1,h2,_,e⟩:=id h.nm
 have sub:∀x∈bs.map (·.1),x∈nm:=λx hx=>by
   obtain⟨b,hb,rfl⟩:=du hx
   rw[e]at hb
   show(rN (a:=b.1) (b:=b.2) hb).1
 have I:∀x∈b'.map (·.1),∃y∈nm,x=y\/x=y++"z":=λx hx=>by
   obtain⟨c,hc,rfl⟩:=du hx
   rw[o.bx]at hc
   obtain⟨b,hb,rfl⟩:=du (zH.mp hc)
   show⟨b.1,sub _ (d7 ⟨b,hb,U⟩),?_⟩
   change bA ins cz b.1=_\/bA ins cz b.1=_
   unfold bA
   split
   . show .inl rfl
   . split
     . show .inr rfl
     . show .inl rfl
 have G:("qq":Str)∉nm/\("yours":Str)∉nm/\∀y∈nm,("w":Str)≠y/\("w":Str)≠y++"z"/\("zz":Str)≠y/\("zz":Str)≠y++"z":=by rcases h1 with rfl|rfl|rfl<;>decide +kernel
 show⟨⟨λz=>G.1 (sub _ z),λz=>G.2.1 (sub _ z)⟩,λz=>?_,λz=>?_⟩
 . obtain⟨y,hy,e⟩:=I _ z
   show e.elim (G.2.2 y hy).1 (G.2.2 y hy).2.1
 . obtain⟨y,hy,e⟩:=I _ z
   show e.elim (G.2.2 y hy).2.2.1 (G.2.2 y hy).2.2.2
abbrev Rc:Stmt:=top 70
def C7 (K:av):Sp:=λvs H Q z=>∃(a:J) (G:↥Int),vs=[.ref a]/\af K H a (G.map V.int)/\G.length<=63/\∀H',Q (.bl true) H'
def MS (xs:↥V){k:Nat}(h:k<=↑xs):kC xs (S (k:Int)) Z=xs.drop k:=by
 unfold kC
 have G:HT.bH ↑xs 0 (S (k:Int))=k:=by rw[HT.uh];lia
 have I:HT.bH ↑xs ↑xs Z=↑xs:=rfl
 rw[G,I]
 show nj (by rw[oI];show aK _)
def MT (xs:↥V){k:Nat}(h:k<=↑xs):kC xs Z (S (k:Int))=xs.take k:=by
 unfold kC
 have G:HT.bH ↑xs 0 Z=0:=rfl
 have I:HT.bH ↑xs ↑xs (S (k:Int))=k:=by rw[HT.uh];lia
 rw[G,I,wU,Nat.sub_zero]
def afX {G:↥Int}{i:Nat}(h:Row (2^30) G 30)(hi:i<3):∃I,kC (G.map V.int) (S (7+7*(0+(i:Int)))) (S (14+7*(0+(i:Int))))=I.map V.int/\Row (2^30) I 7:=by
 have O:=h.len
 show⟨(G.drop (7+7*i)).take (14+7*i-(7+7*i)),?_,?_,λx hx=>h.all x (wX (rM hx))⟩
 . rw[show(7:Int)+7*(0+(i:Int))=((7+7*i:Nat):Int)by lia,show(14:Int)+7*(0+(i:Int))=((14+7*i:Nat):Int)by lia,Bf,Wl _ _ _ ⋯ ⋯]
 . rw[cp,oI]
   lia
def iu:bE ["script","one","row","far","other","called","places","behind","good","handed","k","entry","none","at","paper","found","third","way"] ["script"] (aV Rc):=bP
def acN {f:J}{fd:ba}(F:bq K "law" "law" Rc f fd)(m_len:mg "len"=Z)(m_range:mg "range"=Z)(m_isinstance:mg "isinstance"=Z)(m_bool:mg "bool"=Z)(PR:aP P w K mg base "_law_program" ["script","most"] 64 (Se K))(NU:aP P w K mg base "_law_numbers" ["cell","many","base"] 64 C9)(CE:aP P w K mg base "_law_cell_at" ["script","k"] 64 (C4 K))(OV:aP P w K mg base "_law_made_over" ["program","row"] 64 Sd)(GP:aP P w K mg base "_law_good_paper" ["program","called","places","behind"] 64 R8)(CP:aP P w K mg base "_law_copied" ["program"] 64 JQ)(EN:aP P w K mg base "_law_entry" ["one","other","row","far"] 64 JU)(PS:aP P w K mg base "paper_shows" ["one","other","paper"] 64 (JY 10))(ST:aP P w K mg base "_law_strangers" ["program"] 64 J8)(RF:aP P w K mg base "_law_refused" ["one","other","paper","way"] 64 Sf):aU P w K mg base bj 65 f fd ["script"] (C7 K):=by
 show F.bZ iu λim A outer s H vs Q E jC h=>?_
 obtain⟨a,ns,rfl,hS,h63,q⟩:=h
 show cK ⟨_,(ajH (ajT 1 iu.nd (ajR PR jC U (L (Y 0) (L ajF M))))
   (ajH (ajT 2 iu.nd (ajR NU jC U (L (ajR CE jC U (L (Y 0) (L ajF M))) (L ajF (L ajF M)))))
   (ajH (ajT 3 iu.nd (ajJ ajY (ajR CE jC U (L (Y 0) (L ajF M))) (ajJ akz ajF ajF)))
   (ajH (ako (ajR OV jC U (L (Y 1) (L (Y 2) M))) (aj1 4 (ajQ (ajK 4 iu.nd) (ajQ (ajK 5 iu.nd) (ajQ (ajK 6 iu.nd) (ajQ (ajK 7 iu.nd) aj2))))))
   (ajH (ajT 8 iu.nd (ajR GP jC U (L (Y 1) (L (Y 5) (L (Y 6) (L (Y 7) M))))))
   (ajH (ajT 9 iu.nd (ajW (L (ajR CP jC U (L (Y 1) M)) (L (ajR CP jC U (L (Y 4) M)) M))))
   (ajH (aj8 (akr U m_range (L ajF M)) (ajK 10 iu.nd) (ajH (ako (ajR EN jC U (L (Y 1) (L (Y 4) (L (L3.RV (Y 2) (ajJ aj7 ajF (ajJ akd ajF (Y 10))) (ajJ aj7 ajF (ajJ akd ajF (Y 10)))) (L (Y 3) M))))) (aj1 2 (ajQ (ajK 11 iu.nd) (ajQ (ajK 12 iu.nd) aj2))))
   (ajH (ajT 13 iu.nd (ajJ ajY (ajG ajP (Y 2) (ajJ aj7 ajF (ajJ akd ajF (Y 10)))) (ajJ aj7 (aj0 aj5 U m_len eE (L (Y 8) M)) ajF)))
   (ajH (ajT 14 iu.nd (ajJ akl (ajJ akl (L3.JE (Y 8) (Y 13)) (ajW (L (Y 11) M))) (L3.JD (Y 8) (Y 13))))
   (ajH (ajT 15 iu.nd (ajR PS jC U (L (ajG ajP (Y 9) ajF) (L (ajG ajP (Y 9) ajF) (L (Y 14) M)))))
   (ajI (ajU (akm (akj (akw (akp (aj0 L3.Mw U m_isinstance (by right) (L (Y 15) (L (L3.E9 (w:=.ty "bool") U m_bool (by right) rfl) M))))) (akj (ajS ajZ (Y 15) (Y 12)) (aks (ajS (L3.v5 (m:=2) (cI jC _ ∅)) (Y 14) (ajJ akl (ajJ akl (L3.JE (Y 8) (Y 13)) (ajW (L (Y 11) M))) (L3.JD (Y 8) (Y 13)))))))) (ajI (ajN aj9)) ajV)))))))
   (ajH (aj8 (aj4 (ajR ST jC U (L (Y 4) M))) (ajK 16 iu.nd) (ajI (aj8 (akr U m_range (L ajF M)) (ajK 17 iu.nd) (ajI (ajU (akm (akj (akw (akp (ajR RF jC U (L (Y 1) (L (Y 16) (L (Y 8) (L (Y 17) M))))))) (aks (akw (akp (ajR RF jC U (L (Y 16) (L (Y 1) (L (Y 8) (L (Y 17) M)))))))))) (ajI (ajN aj9)) ajV)))))
   (ajI (ajN (akc (L3.za (m:=2) (cI jC _ ∅)) (Y 9) (ajW (L (Y 1) (L (Y 4) M)))))))))))))),?_⟩
 show Ft λRk kR=>aa U ⟨a,ns,4,U,hS,∅,∅,λv1 HA bs ins cr sA Iz qa=>?_⟩
 obtain⟨p1,B1,I1,N1,qj,lg,rfl,iq,jB,hI1,qK,jH,wg⟩:=id Iz
 show aa U ⟨a,ns,1,U,ag.seq sA hS,∅,λcc=>⟨cc,30,840,U,∅,∅,∅,∅,λr rc hr Yk=>?_⟩⟩
 obtain⟨HB,sB,gr,G⟩:=aT hr (.lst (rc.map V.int))
 rw[G];clear G
 have hR:Row (2^30) rc 30:=Yk.mono ∅
 show aa U ⟨a,ns,1,U,ag.seq (ah sA sB) hS,∅,λcf=>(bF U U ⟨∅,∅,∅⟩ (bF U U (by change(0:Int)<10^Int.toNat 20;decide) ?_))⟩
 obtain⟨v0,M5⟩ : ∃v0,v0=cf%(10^Int.toNat 20):=⟨_,rfl⟩
 have f0:0<=v0:=by rw[M5];show mW ∅
 have pk:=afa qa
 have cC:=pk.cC
 have z2:=aid qa.bx
 have Co:=Iz.same sB
 show bO (kR _ _ (fX [S (.ref a),S (.ref p1),S (.ref r),S (.int v0),Z,Z,Z,Z,Z,Z,Z,Z,Z,Z,Z,Z,Z,Z] (by subst M5;rfl) (bW λRk kR=>aa U (aa U ⟨.ref p1,r,bs,ins,cr,rc,30,U,Co,⟨pk.l2,λb hb=>by have:=pk.sh b hb;lia,pk.one,⋯,pk.good⟩,gr,hR,∅,λpp p2 T0 I2 N2 cA mf lM HC Kr Ix b' ii cz st sC pP bp F7 ze pj tI zd n2l YT ov ps aJ Ev nW yY=>aw U (bQ.of pP) ⟨U,_,aa U ⟨_,aa U ⟨_,aa U (aw U U (kR _ _ (fX [S (.ref a),S (.ref p1),S (.ref r),S (.int v0),S (.ref p2),S (.ref cA),S (.ref mf),S (.ref lM),Z,Z,Z,Z,Z,Z,Z,Z,Z,Z] U ?_)))⟩⟩⟩⟩))))
 obtain⟨p8,Dk,PK⟩:=afb pk z2.zk ov yY n2l
 obtain⟨⟨nqq,nyo⟩,nw,P4⟩:=abw qa.bx ov
 have gd:=X7 z2.zk p8.F.nd pk.F p8.F Dk ov yY pk.good p8.good pk.one
 have Iu:=ad0 yY PK pk.l2
 have lG:=FY cr ps aJ (eQ (bA ins cz) bs) ↑cr
 have WM:LR bs b' cr ii:=⟨pk.l2,p8.l2,pk.one,p8.one,nqq,nyo,P4⟩
 show bW λRk kR=>aa U (aa U (aa U (aa U ⟨.ref p1,cA,mf,lM,bs,ins,cr,bA ins cz,ps,aJ,U,Co.same sC,YT,Ev,nW,yY.pl,yY.bl,⋯,λl HD sD nl pap=>?_⟩)))
 obtain⟨O,hl,wm⟩:=pap.ex
 generalize jA cr ps aJ (eQ (bA ins cz) bs) ↑cr=es at gd Iu lG wm
 have vpl:=Paired.length wm
 have ajt:O.length<=16:=⋯
 show bO (kR _ _ (fX [S (.ref a),S (.ref p1),S (.ref r),S (.int v0),S (.ref p2),S (.ref cA),S (.ref mf),S (.ref lM),S (.ref l),Z,Z,Z,Z,Z,Z,Z,Z,Z] U (bW λRk kR=>?_)))
 have zy:=ah sB (ah sC sD)
 show aa U ⟨p1,B1,I1,N1,qj,_,lg,U,zy _ _ iq,zy _ _ jB,zy _ _ hI1,zy _ _ qK,λc1 CB CI CN HE sE N5 NK NL NM=>?_⟩
 have CC:=ah sD sE
 show aa U ⟨p2,T0,I2,N2,Kr,_,Ix,U,CC _ _ bp,CC _ _ F7,CC _ _ pj,CC _ _ tI,λc2 DB DI DN HF sF qM NQ NR NS=>⟨alK,λha Y9=>?_⟩⟩
 obtain⟨HG,sG,FQ,G⟩:=aT Y9 (.lst [.ref c1,.ref c2])
 rw[G];clear G
 have wB:=ah sF sG
 have CD:=ah sE wB
 have ug:=ah sD CD
 have wz:=ah zy CD
 show bO (kR _ _ (fX [S (.ref a),S (.ref p1),S (.ref r),S (.int v0),S (.ref p2),S (.ref cA),S (.ref mf),S (.ref lM),S (.ref l),S (.ref ha),Z,Z,Z,Z,Z,Z,Z,Z] U ?_))
 have Qi:cu HG (.ref p1) bs ins cr:=Iz.same wz
 have Qj:cu HG (.ref p2) b' ins ii:=cu.same ⟨p2,T0,I2,N2,Kr,Ix,rfl,bp,F7,pj,tI,ze,zd⟩ ug
 have pc1:cu HG (.ref c1) bs ins cr:=⟨c1,CB,CI,CN,qj,lg,rfl,wB _ _ N5,wB _ _ NK,wB _ _ NL,wB _ _ NM,Paired.bc jH λv v z=>Tp.keep (ag.tk wz) z,Paired.bc wg λv v z=>cB.keep (ag.tk wz) z⟩
 have pc2:cu HG (.ref c2) b' ins ii:=⟨c2,DB,DI,DN,Kr,Ix,rfl,sG _ _ qM,sG _ _ NQ,sG _ _ NR,sG _ _ NS,Paired.bc ze λv v z=>Tp.keep (ag.tk ug) z,Paired.bc zd λv v z=>cB.keep (ag.tk ug) z⟩
 have gr:=(ah sC ug) _ _ gr
 have hl:=CD _ _ hl
 have wm:=Paired.bc wm λv v z=>f9.keep z (ag.tk CD)
 have jH:=Paired.bc jH λv v z=>Tp.keep (ag.tk wz) z
 have wg:=Paired.bc wg λv v z=>cB.keep (ag.tk wz) z
 have ze:=Paired.bc ze λv v z=>Tp.keep (ag.tk ug) z
 have zd:=Paired.bc zd λv v z=>cB.keep (ag.tk ug) z
 have fv:∀x∈O,∃a,x=.ref a:=λx hx=>by
   obtain⟨j,hj,ej⟩:=Af hx
   obtain⟨f,_,cv,wv,⟨p,hp,_⟩,_⟩:=Paired.get wm (bB hj)
   show⟨p,ej.symm.trans hp⟩
 show bW λRk kR=>aa U ⟨∅,∅,xU (lo:=0) (n:=(3:Int).toNat) (λi σ Hx=>(∃o1 o2 o3 o4 o5 o6,σ=[S (.ref a),S (.ref p1),S (.ref r),S (.int v0),S (.ref p2),S (.ref cA),S (.ref mf),S (.ref lM),S (.ref l),S (.ref ha),o1,o2,o3,o4,o5,o6,Z,Z])/\ag HG Hx) ⟨⟨_,_,_,_,_,_,U⟩,same_refl _⟩ (λi σ Hx hi z=>?_) (λσ Hx z=>?_)⟩
 . obtain⟨⟨o1,o2,o3,o4,o5,o6,rfl⟩,sx⟩:=z
   have Zc:i<3:=hi
   show bO (fX [S (.ref a),S (.ref p1),S (.ref r),S (.int v0),S (.ref p2),S (.ref cA),S (.ref mf),S (.ref lM),S (.ref l),S (.ref ha),S (.int (0+(i:Int))),o2,o3,o4,o5,o6,Z,Z] U ?_)
   obtain⟨rk,WO,R7⟩:=afX hR Zc
   obtain⟨x13,Vl,_⟩:=hR.at (i:=13+7*(0+(i:Int))) ⋯ ⋯
   show bW λRj kj=>aa U (aa U (aa U (aa U (bF U U (.inl ⟨∅,∅⟩) (aw U U (aa U (aa U (bF U U (.inl ⟨∅,∅⟩) (aw U U (aa U (aw U (af.of (sx _ _ gr)) (λsl BK=>?_))))))))))))
   rw[WO]
   obtain⟨H1,s1,g1,G⟩:=aT BK (.lst (rk.map V.int))
   rw[G];clear G
   have t1:=ah sx s1
   show aa U ⟨.ref p1,.ref p2,sl,v0,bs,b',ins,cr,ii,rk,U,Qi.same t1,Qj.same t1,WM,g1,R7,f0,λtt e nb f H2 s2 fO ef eo=>gC fO (kj _ _ (fX [S (.ref a),S (.ref p1),S (.ref r),S (.int v0),S (.ref p2),S (.ref cA),S (.ref mf),S (.ref lM),S (.ref l),S (.ref ha),S (.int (0+(i:Int))),S (.ref e),S (.bl nb),o4,o5,o6,Z,Z] U ?_))⟩
   have t2:=ah t1 s2
   show bW λRj kj=>aa U (aa U (bF U U (.inl ⟨∅,∅⟩) (aw U U (aX (t2 _ _ gr) Vl (aa U (aw U (.inl (af.of (t2 _ _ hl))) (aw U U (bF U U (by change(0:Int)<(O.length:Int)+1;lia) ?_))))))))
   obtain⟨n,en,Cd⟩ : ∃n:Nat,(n:Int)=x13%((O.length:Int)+1)/\n<=O.length:=by
     have h0:=mW (k:=x13) (n:=(O.length:Int)+1) ⋯
     have h1:=pT (k:=x13) (n:=(O.length:Int)+1) ⋯
     show⟨(x13%((O.length:Int)+1)).toNat,⋯,⋯⟩
   show bO (kj _ _ (fX [S (.ref a),S (.ref p1),S (.ref r),S (.int v0),S (.ref p2),S (.ref cA),S (.ref mf),S (.ref lM),S (.ref l),S (.ref ha),S (.int (0+(i:Int))),S (.ref e),S (.bl nb),S (.int (n:Int)),o5,o6,Z,Z] (by rw[en];rfl) (bW λRj kj=>aa U (aa U (aa U (aw U (af.of (t2 _ _ hl)) (λpaA ZW=>?_)))))))
   rw[MT O Cd]
   obtain⟨H1A,s1A,Xn,G⟩:=aT ZW (.lst (O.take n))
   rw[G];clear G
   show aL U alJ (λpbA ZY=>?_)
   obtain⟨H2A,QS,Xp,G⟩:=aT ZY (.lst [.ref e])
   rw[G];clear G
   show⟨paA,pbA,aw U U ⟨QS _ _ Xn,Xp,ck (show _<=100 by rw[cp];change _+1<=100;lia) ∅,λpcA Z0=>?_⟩⟩
   obtain⟨H3A,s3A,Xr,G⟩:=aT Z0 (.lst (O.take n++[.ref e]))
   rw[G];clear G
   have t3A:=ah s1A (ah QS s3A)
   show aa U (aa U (aa U (aw U (af.of (t3A _ _ (t2 _ _ hl))) (λpdA Z5=>?_))))
   rw[MS O Cd]
   obtain⟨H4A,QV,Xu,G⟩:=aT Z5 (.lst (O.drop n))
   rw[G];clear G
   show⟨pcA,pdA,aw U U ⟨QV _ _ Xr,Xu,ck (show _<=100 by rw[cJ,cp,oI];change _+1+_<=100;lia) ∅,λIE Z7=>?_⟩⟩
   obtain⟨H5A,s5A,Np,G⟩:=aT Z7 (.lst (O.take n++[.ref e]++O.drop n))
   rw[G];clear G
   have Sx:=ah t3A (ah QV s5A)
   show bO (kj _ _ (fX [S (.ref a),S (.ref p1),S (.ref r),S (.int v0),S (.ref p2),S (.ref cA),S (.ref mf),S (.ref lM),S (.ref l),S (.ref ha),S (.int (0+(i:Int))),S (.ref e),S (.bl nb),S (.int (n:Int)),S (.ref IE),o6,Z,Z] U ?_))
   have t3:=ah t2 Sx
   show bW λRj kj=>aa U (aX (t3 _ _ FQ) U (aa U (aX (t3 _ _ FQ) U (aa U ⟨.ref c1,.ref c2,IE,bs,b',ins,cr,ii,_,_,es.take n++f::es.drop n,U,afA pk.R0 p8.R0 Dk ⋯ ⋯ pk.good p8.good (pc1.same t3) (pc2.same t3) ⟨_,Np,adX (Paired.bc wm λv v z=>f9.keep z (ag.tk t3)) (ef.keep (ag.tk Sx)) n⟩ (by rw[cJ,gF,cp,oI];lia) (ad1 (ad2 Iu) ⟨eo.p,eo.c,eo.w⟩),λb H6 s6 eb=>?_⟩))))
   have WI:=aaC gd Iu eo eb
   show bO (kj _ _ (fX [S (.ref a),S (.ref p1),S (.ref r),S (.int v0),S (.ref p2),S (.ref cA),S (.ref mf),S (.ref lM),S (.ref l),S (.ref ha),S (.int (0+(i:Int))),S (.ref e),S (.bl nb),S (.int (n:Int)),S (.ref IE),S (.bl b),Z,Z] U ?_))
   have t6:=ah t3 s6
   show aa U ⟨_,"bool",_,true,U,.bl _,U,true,U,mV ?_⟩
   have dn:decide (V.bl b=V.bl nb)=false:=by rw[WI];cases nb<;>decide
   show aa U (aa U (aN U U ?_))
   rw[dn]
   show mV (aa U (aa U (aa U (aa U (aw U (af.of (t6 _ _ hl)) (λCo ZX=>?_))))))
   rw[MT O Cd]
   obtain⟨H1B,s1B,Xo,G⟩:=aT ZX (.lst (O.take n))
   rw[G];clear G
   show aL U alJ (λpbB ZZ=>?_)
   obtain⟨H2B,QU,Xq,G⟩:=aT ZZ (.lst [.ref e])
   rw[G];clear G
   show⟨Co,pbB,aw U U ⟨QU _ _ Xo,Xq,ck (show _<=100 by rw[cp];change _+1<=100;lia) ∅,λpcB Z4=>?_⟩⟩
   obtain⟨H3B,s3B,Xs,G⟩:=aT Z4 (.lst (O.take n++[.ref e]))
   rw[G];clear G
   have t3B:=ah s1B (ah QU s3B)
   show aa U (aa U (aa U (aw U (af.of (t3B _ _ (t6 _ _ hl))) (λpdB Z6=>?_))))
   rw[MS O Cd]
   obtain⟨H4B,QW,Xv,G⟩:=aT Z6 (.lst (O.drop n))
   rw[G];clear G
   show⟨pcB,pdB,aw U U ⟨QW _ _ Xs,Xv,ck (show _<=100 by rw[cJ,cp,oI];change _+1+_<=100;lia) ∅,λpeB Z8=>?_⟩⟩
   obtain⟨H5B,s5B,Xx,G⟩:=aT Z8 (.lst (O.take n++[.ref e]++O.drop n))
   rw[G];clear G
   have t5B:=ah t3B (ah QW s5B)
   show⟨true,RB.lst (af.of (t5B _ _ (s6 _ _ Np))) (af.of Xx) rfl (λj x y hx hy=>?_),aa U ?_⟩
   . rw[hx]at hy
     cases hy
     show ET.refl (.inr ?_)
     have hm:=bI hx
     rcases eT hm with z|z
     . rcases eT z with z|z
       . show fv x (rM z)
       . show⟨_,dv z⟩
     . show fv x (wX z)
   . show mV ⟨⟨_,_,_,_,_,_,U⟩,ah t6 t5B⟩
 obtain⟨⟨o1,o2,o3,o4,o5,o6,rfl⟩,sx⟩:=z
 show kR _ _ ?_
 have il:↑ins<=2:=by
   have:=sub_len pk.F.ind pk.F.sub
   rw[aA]at this
   have:=pk.l2
   lia
 show bW λRk kR=>aa U ⟨.ref p2,b',ins,ii,U,Qj.same sx,p8.F,p8.l2,il,nw,P4,λlu us HS sS BO ul al=>?_⟩
 have Q9:=ah sx sS
 show aL U ⟨_,af.of BO⟩ (nS (xs:=us) (λi σ Hx=>(∃o7 o8,σ=[S (.ref a),S (.ref p1),S (.ref r),S (.int v0),S (.ref p2),S (.ref cA),S (.ref mf),S (.ref lM),S (.ref l),S (.ref ha),o1,o2,o3,o4,o5,o6,o7,o8])/\ag HS Hx) ⟨⟨_,_,U⟩,same_refl _⟩ (λi σ Hx v z=>af.of (z.2 _ _ BO)) (λi u σ Hx hu z=>?_) (λσ HX z=>?_))
 . obtain⟨⟨o7,o8,rfl⟩,sy⟩:=z
   obtain⟨b3,i3,n3,pu,so⟩:=al u (bI hu)
   have ng1:¬ r9 bs b3 ins i3:=λg=>so.no ⟨g.1.symm,g.2.symm.trans Dk⟩
   have ng2:¬ r9 b3 bs i3 ins:=λg=>so.no ⟨g.1,g.2.trans Dk⟩
   show bO (aa U ⟨∅,∅,xU (lo:=0) (n:=(2:Int).toNat) (λj σ Hy=>(∃o8,σ=[S (.ref a),S (.ref p1),S (.ref r),S (.int v0),S (.ref p2),S (.ref cA),S (.ref mf),S (.ref lM),S (.ref l),S (.ref ha),o1,o2,o3,o4,o5,o6,S (u),o8])/\ag HS Hy) ⟨⟨_,U⟩,sy⟩ (λj σ Hy hj z=>?_) (λσ Hy z=>?_)⟩)
   . obtain⟨⟨o8,rfl⟩,sw⟩:=z
     have Cq:qD Hy (.ref p1) u bs b3 ins i3 cr n3:=⟨Qi.same (ah Q9 sw),pu.same sw,pk.F,so.F⟩
     show bO (aa U (aa U (aa U (aa U ⟨.ref p1,u,.ref l,_,bs,b3,ins,i3,cr,n3,U,Cq,ng1,λH1 s1=>(aa U (mV ?_))⟩))))
     have Cr:=Cq.same s1
     show aa U (aa U (aa U (aa U ⟨u,.ref p1,.ref l,_,b3,bs,i3,ins,n3,cr,U,⟨Cr.p2,Cr.p1,Cr.f2,Cr.f1⟩,ng2,λH2 s2=>(aa U (mV ⟨⟨_,U⟩,ah sw (ah s1 s2)⟩))⟩)))
   . obtain⟨⟨o8,rfl⟩,sw⟩:=z
     show⟨⟨_,_,U⟩,sw⟩
 obtain⟨⟨o7,o8,rfl⟩,sy⟩:=z
 show kR _ _ (aa U (aa U (aL U alK (λhb Za=>?_))))
 obtain⟨HV,sV,XZ,G⟩:=aT Za (.lst [.ref p1,.ref p2])
 rw[G];clear G
 have sGV:=ah Q9 (ah sy sV)
 have sAGV:=ah wz sGV
 have sCGV:=ah ug sGV
 have sFGV:=ah wB sGV
 have sGVV:=ah sG sGV
 have rf:∀{n:Nat} {xs:↥V},(∀x∈xs,fG x=true\/∃a,x=.ref a)->∀(j:Nat) (x y:V),xs[j]?=S x->xs[j]?=S y->ET K HV n x y:=λhf j x y hx hy=>by
   rw[hx]at hy
   cases hy
   show ET.refl (hf x (bI hx))
 have fs':∀l:↥Str,∀x∈l.map V.str,fG x=true\/∃a,x=.ref a:=λl x hx=>by obtain⟨z,_,rfl⟩:=du hx;show .inl rfl
 have fb:∀{vb:↥V} {bs:ak},Paired (eX HG) vb bs->∀x∈vb,fG x=true\/∃a,x=.ref a:=λpb x hx=>by
   obtain⟨j,hj,ej⟩:=Af hx
   obtain⟨b,_,hb⟩:=Paired.get pb (bB hj)
   rw[ej]at hb
   show .inr hb.ref
 have fn:∀{vn:↥V} {cr:↥Nd},Paired (cB HG) vn cr->∀x∈vn,fG x=true\/∃a,x=.ref a:=λpn x hx=>by
   obtain⟨j,hj,ej⟩:=Af hx
   obtain⟨b,_,hb⟩:=Paired.get pn (bB hj)
   rw[ej]at hb
   show .inr hb.ref
 have Qm:∀{p p' B B' I I' N N':J} {vb vi vn:↥V},HV p=S (.tup [.ref B,.ref I,.ref N])->HV p'=S (.tup [.ref B',.ref I',.ref N'])->HV B=S (.lst vb)->HV B'=S (.lst vb)->HV I=S (.lst vi)->HV I'=S (.lst vi)->HV N=S (.lst vn)->HV N'=S (.lst vn)->(∀x∈vb,fG x=true\/∃a,x=.ref a)->(∀x∈vi,fG x=true\/∃a,x=.ref a)->(∀x∈vn,fG x=true\/∃a,x=.ref a)->ET K HV 2 (.ref p) (.ref p'):=λh1 h2 h3 h4 h5 h6 h7 h8 g1 g2 g3=>ET.tup (bQ.of h1) (bQ.of h2) rfl λj x y hx hy=>by
   match j,hx,hy with
   | 0,hx,hy=>cases hx;cases hy;show ET.lst (af.of h3) (af.of h4) rfl (rf g1)
   | 1,hx,hy=>cases hx;cases hy;show ET.lst (af.of h5) (af.of h6) rfl (rf g2)
   | 2,hx,hy=>cases hx;cases hy;show ET.lst (af.of h7) (af.of h8) rfl (rf g3)
 show⟨true,RB.lst (af.of (sGV _ _ FQ)) (af.of XZ) rfl (λj x y hx hy=>?_),q _⟩
 match j,hx,hy with
 | 0,hx,hy=>cases hx;cases hy;show Qm (sFGV _ _ N5) (sAGV _ _ iq) (sFGV _ _ NK) (sAGV _ _ jB) (sFGV _ _ NL) (sAGV _ _ hI1) (sFGV _ _ NM) (sAGV _ _ qK) (fb jH) (fs' _) (fn wg)
 | 1,hx,hy=>cases hx;cases hy;show Qm (sGVV _ _ qM) (sCGV _ _ bp) (sGVV _ _ NQ) (sCGV _ _ F7) (sGVV _ _ NR) (sCGV _ _ pj) (sGVV _ _ NS) (sCGV _ _ tI) (fb ze) (fs' _) (fn zd)
end
end TW
namespace TW
open PySem L2
def eP {x:Str}{st:Stmt}{ps:↥Str}{k:Nat}{sp:Sp}{P:bo}{w:aY}{K:av}{mg:Str->Option ae}{base:Heap}(s:Src K mg x st)(h:∀{f fd},bq K x x st f fd->aU P w K mg base bj k f fd ps sp)(b:∀{f fd},bq K x x st f fd->Binds K fd ps []:=by intro f fd F;first|show je F λz z z z z z z z=>rfl|show Fe F λz z z z z z z=>rfl|show sQ F λz z z z z z z z z=>rfl|show sR F λz z z z z z z z z z=>rfl):aP P w K mg base x ps k sp:=let⟨f,fd,F,m⟩:=s;⟨f,fd,h F,F.kp,b F,m⟩
def Vr {P:bo}{w:aY}{K:av}{mg:Str->Option ae}{fa:J}(hfa:mg "law"=S (.ref fa))(t:L9 K mg) :
   ∃fd:ba,(∀(s:aj) (u:ae),uG s fd ⟨[u],[]⟩ [("script",u)])/\∀base:Heap,K.In base->base.Ns iC mg->aU P w K mg base bj 65 fa fd ["script"] (C7 K):=by
 obtain⟨f,fd,F,m⟩:=t.s_law
 have e:=hfa.symm.trans m
 cases e
 show⟨fd,λs u=>?_,λbase z z=>?_⟩
 . obtain⟨oc,od,kV,doc,pm,an,im,ct,ZB,rfl,lk,wS⟩:=F.ex
   show .of_eq rfl
 obtain⟨T,eN,fE,fD,iJ,iK,iM,iN,iO,iP,iQ,iS,R⟩:=t.cl
 have CE:aP P w K mg base "_law_cell_at" ["script","k"] 1 (C4 K):=eP t.s_law_cell_at λF=>acw F t.m_len
 have NU:aP P w K mg base "_law_numbers" ["cell","many","base"] 1 C9:=eP t.s_law_numbers λF=>acT F t.m_range
 have SM:aP P w K mg base "_law_sum" ["row","names"] 1 Dc:=eP t.s_law_sum λF=>adb F t.m_len
 have CO:=eP (P:=P) (w:=w) (base:=base) t.s_law_condition λF=>acx F SM
 have ND:=eP (P:=P) (w:=w) (base:=base) t.s_law_node λF=>acQ F t.m_len SM CO
 have BX:aP P w K mg base "_law_boxes" ["number"] 1 JP:=eP t.s_law_boxes λF=>acv F t.m_len t.m_range t.m_int
 have PR:=eP (P:=P) (w:=w) (base:=base) t.s_law_program λF=>acX F t.m_len t.m_range CE NU BX ND
 have RN:aP P w K mg base "_law_renamed" ["thing","called"] 7 (rp 6):=YC t.s_law_renamed t.m_tuple t.m_isinstance 6
 have NA:=eP (P:=P) (w:=w) (base:=base) t.s_law_node_as λF=>acR F RN
 have SK:aP P w K mg base "_law_skip" ["boxes","called","number","after"] 1 J5:=eP t.s_law_skip λF=>ac6 F t.m_len
 have OV:=eP (P:=P) (w:=w) (base:=base) t.s_law_made_over λF=>acU F t.m_len t.m_range t.m_int t.m_list NA SK
 have AS:aP P w K mg base "_law_all_same" ["boxes","called"] 1 JL:=eP t.s_law_all_same λF=>aco F
 have GP:=eP (P:=P) (w:=w) (base:=base) t.s_law_good_paper λF=>acF F t.m_len t.m_range t.m_int AS
 have BS:aP P w K mg base "box_sizes" ["program"] 1 JO:=eP t.s_box_sizes λF=>acu F
 have O:aP P w K mg base "input_sizes" ["program"] 1 um:=eP t.s_input_sizes λF=>acI F t.m_dict
 have NP:=eP (P:=P) (w:=w) (base:=base) t.s_refuse_no_pair λF=>acO F O
 have EV:aP P w K mg base "every_worths" ["sizes"] 1 C5:=eP t.s_every_worths λF=>acE F t.m_range
 have EI:=eP (P:=P) (w:=w) (base:=base) t.s_every_input λF=>acD F EV O
 have G:∀n,aP P w K mg base "worth_by" ["known","sum_told"] (n+1) (oC n):=YE t.s_worth_by
 have HB0:=Yv t.s_holds_by G
 have KW:sq P w K mg base "known_worths" ["program","worths","side"] 1 C6 "box":=Yy t.s_known_worths t.m_zip
 have Vd:aP P w K mg base "refuse_worths" ["sizes","worths"] 1 J2:=eP t.s_refuse_worths λF=>ac1 F t.m_len t.m_zip
 have UW:=eP (P:=P) (w:=w) (base:=base) t.s_beginning_of λF=>acr F t.m_dict t.m_zip Vd O
 have PW:aP P w K mg base "worths_put" ["program","worths","put_name","told"] 1 Kd:=eP t.s_worths_put λF=>adj F t.m_zip
 have Vf:=eP (P:=P) (w:=w) (base:=base) t.s_step_at λF=>ac8 F t.m_list (KW.mono ∅) (PW.mono ∅) ((G 20).mono ∅) ((HB0 20).mono ∅)
 have AK:aP P w K mg base "all_known" ["known","told"] 11 (rn 10):=Yx t.s_all_known t.c_NAMELESS t.c_PARTED 10
 obtain⟨CS,I,⟨f1,d1,F1,M1⟩,⟨fn,dn,Fn,Mn⟩,⟨fk,dk,Fk,Mk⟩,⟨fs,ds,Fs,Ms⟩,fy,dy,Fy,My⟩:=t.k_Side
 obtain⟨C,c2,⟨f2,d2,F2,M2⟩,⟨fr,dr,Fr,Mr⟩,_,fb,db,Fb,Mb⟩:=t.k_Ground
 obtain⟨CT,c3,⟨f3,d3,F3,M3⟩,fh,dh,Fh,Mh⟩:=t.k_Turn
 have SD:nH P w K mg base "Side" CS ["self","program"] 2 (J4 K CS):=⟨f1,d1,ac5 F1 I EV BS t.m_tuple t.m_enumerate,je F1 λz z z z z z z z=>rfl,M1,I.m⟩
 have NO:gG P w K mg base CS "number_of" ["self","worths"] 1 (C8 K CS):=⟨fn,dn,acS Fn t.m_tuple,je Fn λz z z z z z z z=>rfl,Mn⟩
 have KA:gG P w K mg base CS "kind_at" ["self","place"] 1 (JW K CS):=⟨fk,dk,acJ Fk,je Fk λz z z z z z z z=>rfl,Mk⟩
 have ST:gG P w K mg base CS "steps_at" ["self","place"] 26 (J7 K CS):=⟨fs,ds,ac9 Fs Vf NO,je Fs λz z z z z z z z=>rfl,Ms⟩
 have SY:gG P w K mg base CS "stays_at" ["self","place"] 1 (J6 K CS):=⟨fy,dy,ac7 Fy t.m_len t.m_range,je Fy λz z z z z z z z=>rfl,My⟩
 have GD:nH P w K mg base "Ground" C ["self","one","other"] 4 (JV K C CS):=⟨f2,d2,acG F2 c2 SD t.m_len t.m_list t.m_range t.m_enumerate,sQ F2 λz z z z z z z z z=>rfl,M2,c2.m⟩
 have Ve:gG P w K mg base C "row_of" ["self","mine","yours"] 2 (J3 K C CS):=⟨fr,dr,ac4 Fr I.c NO,sQ Fr λz z z z z z z z z=>rfl,Mr⟩
 have BE:gG P w K mg base C "beginnings" ["self"] 3 (JM K C CS):=⟨fb,db,acq Fb EI UW Ve,Fe Fb λz z z z z z z=>rfl,Mb⟩
 have WL:∀n,aP P w K mg base "worths_along" ["ground","rows","sum_told"] (n+1) (oB K C n):=YD t.s_worths_along t.m_len t.m_zip
 have RO:aP P w K mg base "rows_without" ["rows","taken"] 1 zG:=eP t.s_rows_without λF=>ac0 F t.m_set
 have RW:=YB t.s_rows_where t.m_zip WL RO
 have RC:aP P w K mg base "rows_counted" ["ground","paper"] 12 (J1 K C 10):=eP t.s_rows_counted λF=>acY F RW RO
 have EF:aP P w K mg base "entry_fits" ["ground","entry"] 12 (JR K C CS 10):=by obtain⟨f,fd,F,m⟩:=t.s_entry_fits;show⟨f,fd,acz F t.m_len AK t.c_TURNS,F.kp,je F λz z z z z z z z=>rfl,m⟩
 have AF:aP P w K mg base "all_fit" ["ground","paper"] 13 (JJ K C CS 10):=by obtain⟨f,fd,F,m⟩:=t.s_all_fit;show⟨f,fd,acm F t.m_all EF,F.kp,je F λz z z z z z z z=>rfl,m⟩
 have TF:aP P w K mg base "turn_fits" ["ground","entry"] 2 (Ka K C CS):=by obtain⟨f,fd,F,m⟩:=t.s_turn_fits;show⟨f,fd,adf F I.c KA t.c_QUIET,F.kp,je F λz z z z z z z z=>rfl,m⟩
 have BW:aP P w K mg base "begins_well" ["ground","waits"] 4 (C0 K C CS):=by obtain⟨f,fd,F,m⟩:=t.s_begins_well;show⟨f,fd,acp F t.m_all BE,F.kp,je F λz z z z z z z z=>rfl,m⟩
 have TB:aP P w K mg base "told_by_places" ["ground","paper","counted","told"] 1 (J9 K C):=by obtain⟨f,fd,F,m⟩:=t.s_told_by_places;show⟨f,fd,ade F t.m_len t.m_zip,F.kp,sR F λz z z z z z z z z z=>rfl,m⟩
 have WB:aP P w K mg base "worths_by_places" ["ground","paper","counted","part"] 12 (Kc K C 10):=by obtain⟨f,fd,F,m⟩:=t.s_worths_by_places;show⟨f,fd,adi F t.m_zip (WL 10) TB,F.kp,sR F λz z z z z z z z z z=>rfl,m⟩
 have TU:nH P w K mg base "Turn" CT ["self","ground","waits","entry"] 27 (Kb K C CS CT):=⟨f3,d3,adg F3 c3 I.c ST SY,sR F3 λz z z z z z z z z z=>rfl,M3,c3.m⟩
 have BH:gG P w K mg base CT "behind" ["self","row"] 1 (JN K CT):=⟨fh,dh,acs Fh,je Fh λz z z z z z z z=>rfl,Mh⟩
 have UY:aP P w K mg base "entry_well" ["ground","waits","entry","rows"] 29 (JS K C CS):=by obtain⟨f,fd,F,m⟩:=t.s_entry_well;show⟨f,fd,acA F c3.c t.m_len TF TU BH,F.kp,sR F λz z z z z z z z z z=>rfl,m⟩
 have AW:aP P w K mg base "all_well" ["ground","paper","counted","waits"] 30 (JK K C CS):=by obtain⟨f,fd,F,m⟩:=t.s_all_well;show⟨f,fd,acn F t.m_zip BW UY,F.kp,sR F λz z z z z z z z z z=>rfl,m⟩
 have PS:aP P w K mg base "paper_shows" ["one","other","paper"] 41 (JY 10):=by obtain⟨f,fd,F,m⟩:=t.s_paper_shows;show⟨f,fd,acV F c2.c NP GD AF RC WB AW,F.kp,sQ F λz z z z z z z z z=>rfl,m⟩
 have LY:=Yz t.s_refuse_no_pair R.x_NoPair O
 have Vc:=YA t.s_paper_shows LY
 have UZ:=Yu t.s_entry_worths LY
 have KN:=Yw (P:=P) (w:=w) (base:=base) t.s_law_kinds R t.m_isinstance t.m_ValueError
 have RF:=eP (P:=P) (w:=w) (base:=base) t.s_law_refused λF=>ac2 F R Vc UZ KN
 have CP:aP P w K mg base "_law_copied" ["program"] 1 JQ:=eP t.s_law_copied λF=>acy F t.m_list
 have ST:aP P w K mg base "_law_strangers" ["program"] 1 J8:=eP t.s_law_strangers λF=>ada F t.m_int t.m_len
 have EN:aP P w K mg base "_law_entry" ["one","other","row","far"] 1 JU:=eP t.s_law_entry λF=>acC F t.m_int t.m_len
 show acN F t.m_len t.m_range t.m_isinstance t.m_bool (PR.mono ∅) (NU.mono ∅) (CE.mono ∅) (OV.mono ∅) (GP.mono ∅) (CP.mono ∅) (EN.mono ∅) (PS.mono ∅) (ST.mono ∅) (RF.mono ∅)
end TW
namespace TW
open PySem L2
def walk {l:PySem.W.OpenLaw}{q:bo}{UV:↥Str}{XP:(Str->Option ae)->Heap->Prop}{I:aY->Heap->Prop}{d:DefRec}{K:Params->av}(hn:l.most=S 63)(G:d.params.defaults=[])
   (hY:∀(w:aY) (h:Heap),I w h->(K w.params).In h)
   (F:∀(w:aY) (mg:Str->Option ae) (O:J) (h:Heap),(K w.params).In h->h.Ns iC mg->mg d.name=S (.ref O) ->
     ∃fd:ba,(∀(s:aj) (u:ae),uG s fd ⟨[u],[]⟩ [("script",u)])/\∀base:Heap,(K w.params).In base->base.Ns iC mg->aU l.prog w (K w.params) mg base bj 65 O fd ["script"] (C7 (K w.params))) :
   PySem.W.WalkO q UV XP I l.row.toRowW d [] (λf vs=>PySem.call f vs):=
 L2.ahH (n:=63) (k:=65) (x:="script") (CX:=λy=>bj) (sp:=λw=>C7 (K w.params)) hn ∅ G ⟨rfl,∅,∅⟩ hY F (λy y a ns hl y hS=>⟨a,ns,rfl,hS,hl,λy=>rfl⟩) λy y y y y z=>z
end TW
namespace PySem.W.Fast
def tw10062782187509569481:=0
def tw10127826384669305981:=0
def tw10142082979488656216:=0
def tw10150027618576767712:=0
def tw10158132694138807767:=0
def tw10182405291403876734:=0
def tw10205083989924786681:=0
def tw10229345077192456999:=0
def tw10237849036018980938:=0
def tw10243434982099664568:=0
def tw10259577246368419204:=0
def tw10325053858364389797:=0
def tw10368999357138463407:=0
def tw10371084479969959442:=0
def tw10399045198262393926:=0
def tw10446263525512052969:=0
def tw10471746998181461603:=0
def tw1050361504440100531:=0
def tw10538890702424268957:=0
def tw10554552907696374548:=0
def tw10566810970724771445:=0
def tw10589008640591458836:=0
def tw1064552063475158270:=0
def tw10670922233703877210:=0
def tw10687109334125944809:=0
def tw10738039184991161092:=0
def tw1076465478564134816:=0
def tw1086575977822718600:=0
def tw10878362360947592376:=0
def tw10884865558157914900:=0
def tw10910048383130322859:=0
def tw10914850848744884375:=0
def tw1093841388447158271:=0
def tw10971675984971659851:=0
def tw10973400733325581041:=0
def tw10992729846244817773:=0
def tw10999516586766645647:=0
def tw11016371294675501125:=0
def tw11090231347648453038:=0
def tw11130367701342316074:=0
def tw1115045391328289248:=0
def tw11299001214333870942:=0
def tw11299586560584098959:=0
def tw11312046850824196670:=0
def tw11344614809434745982:=0
def tw11350143962378297626:=0
def tw11357074853635434926:=0
def tw11366057612281640664:=0
def tw11410019014241576047:=0
def tw11445569669514101991:=0
def tw11498744601303007368:=0
def tw11508469118143107288:=0
def tw11527469252667292376:=0
def tw11546000211819677097:=0
def tw11575662960405759162:=0
def tw11592436136431934368:=0
def tw11605652744580867747:=0
def tw11632492386332219972:=0
def tw1165257828954525111:=0
def tw1168868555124066136:=0
def tw1169233412408527481:=0
def tw11702797699311577909:=0
def tw11729203783818822:=0
def tw11760005004960545856:=0
def tw11774142721921208903:=0
def tw11810828334496878877:=0
def tw11885214011996021196:=0
def tw11903374942397232706:=0
def tw11910603112446748822:=0
def tw11944068477545399187:=0
def tw11965112463726263324:=0
def tw12001194714417324091:=0
def tw12037112414334321347:=0
def tw1209418557919592249:=0
def tw1211392063728204930:=0
def tw12129009961105166618:=0
def tw12177490768159064797:=0
def tw12229123419266571262:=0
def tw12235845903482410253:=0
def tw12319694747986264292:=0
def tw12326444540762653735:=0
def tw12339062590129057815:=0
def tw12381609196045625257:=0
def tw1241728161989705437:=0
def tw12441666048438329840:=0
def tw12496722976116297928:=0
def tw12530531191302102609:=0
def tw12553913235375461557:=0
def tw12558279154587844503:=0
def tw12647244783119415760:=0
def tw12704065193178411694:=0
def tw12750435860391057032:=0
def tw12854646403533283638:=0
def tw1287186093043139109:=0
def tw12913412911049368937:=0
def tw13001303386714025053:=0
def tw13001578482848648574:=0
def tw13003727098794403975:=0
def tw13010516457471810168:=0
def tw13043450725905498613:=0
def tw13065639898265432333:=0
def tw13085019748608189577:=0
def tw13109331829259011729:=0
def tw13127578029050412922:=0
def tw1314961063658884207:=0
def tw131687656306843815:=0
def tw13181108717451531842:=0
def tw13183530786833526576:=0
def tw13200654899134004706:=0
def tw13261510713199598728:=0
def tw13285552082943730376:=0
def tw13301377839717274270:=0
def tw13317744639283184346:=0
def tw13324647570241395028:=0
def tw13370235594063649255:=0
def tw13388077009212037688:=0
def tw1339145137803575844:=0
def tw13410571454822910136:=0
def tw1341295813904997169:=0
def tw13423839722040388436:=0
def tw13432615928520231893:=0
def tw13456741969596709561:=0
def tw13482508917241457940:=0
def tw13511058851780935476:=0
def tw13529646695530060125:=0
def tw13550466867223170639:=0
def tw13556658953801775751:=0
def tw13682756134153200623:=0
def tw13685636043949169531:=0
def tw13751708258105834217:=0
def tw13762724126792772257:=0
def tw13767108159668125078:=0
def tw13823517214570132253:=0
def tw13832996088704721870:=0
def tw13833066312336156195:=0
def tw13854039207755796827:=0
def tw13859861927390819745:=0
def tw13899527061300044212:=0
def tw13950654888080839626:=0
def tw13992970474833171812:=0
def tw14050548849576796273:=0
def tw1406668302544513680:=0
def tw14147995303110205790:=0
def tw14179726136424522328:=0
def tw14200672820826549610:=0
def tw14220223810020051207:=0
def tw14268812632693278192:=0
def tw14329797971342337035:=0
def tw14333821785348211503:=0
def tw14355243572944645598:=0
def tw14412109237614523836:=0
def tw1443944580471776128:=0
def tw14446884431947340096:=0
def tw14453160711309385344:=0
def tw14470524967652408361:=0
def tw14494970462937001178:=0
def tw14518619539747738918:=0
def tw14554244467919299602:=0
def tw14575399937431437690:=0
def tw14594054244873390883:=0
def tw14639892923354011672:=0
def tw14640833619353597631:=0
def tw14644874480849284886:=0
def tw14653666833281885663:=0
def tw14798747368403617776:=0
def tw14826076700919957539:=0
def tw14837303208884391214:=0
def tw14858803678977991974:=0
def tw14866788181805714280:=0
def tw14918559740765696000:=0
def tw14949973204105666497:=0
def tw14971802617935428954:=0
def tw14982750578680260705:=0
def tw15023300222820790288:=0
def tw15024024004144751580:=0
def tw15024732443059633710:=0
def tw15046559431336455675:=0
def tw15144375811283918359:=0
def tw15164433450945602356:=0
def tw15169246689442273914:=0
def tw15189275375042967689:=0
def tw15190066184240576042:=0
def tw15204939220220777826:=0
def tw15205764139025871668:=0
def tw15208287983112423660:=0
def tw15239475439844402350:=0
def tw15284366511949033732:=0
def tw15296843327440169687:=0
def tw1529771754530425852:=0
def tw15305270601216217199:=0
def tw15346751025227821791:=0
def tw15384234893318969995:=0
def tw15397880819634815415:=0
def tw15452515033646308879:=0
def tw15476466749447301135:=0
def tw15484990920229792906:=0
def tw15513410585976995641:=0
def tw15522189859600285057:=0
def tw15577168640860373346:=0
def tw15676449245163313395:=0
def tw15699264995271926286:=0
def tw15709018884419196717:=0
def tw157098827774235755:=0
def tw1572596022588694:=0
def tw15728415564632779005:=0
def tw157828874030806470:=0
def tw15783294883209163144:=0
def tw159326535377231569:=0
def tw1599132753660007647:=0
def tw16044498531400650655:=0
def tw16079368351016561202:=0
def tw16123236280376673337:=0
def tw16172538046091339692:=0
def tw16184413677314729575:=0
def tw16293474262772949158:=0
def tw16318528801719590911:=0
def tw16384429496482671629:=0
def tw16400264403864656047:=0
def tw16415957074732969103:=0
def tw16416733290250173036:=0
def tw16419546547086662510:=0
def tw16430488665224587036:=0
def tw16431026403722044249:=0
def tw16435269730974088109:=0
def tw16495892969709070697:=0
def tw1650707844752063854:=0
def tw16509351982443115811:=0
def tw16528886446509423360:=0
def tw16535482376694988082:=0
def tw16554896424131782945:=0
def tw16615987539676053413:=0
def tw16630761765165120584:=0
def tw16671734676162265145:=0
def tw16693316653792071289:=0
def tw16718414301565024503:=0
def tw16772388098585040842:=0
def tw16782381509590055381:=0
def tw16821159969964237615:=0
def tw16852503951766420757:=0
def tw16892279657917223441:=0
def tw16899462307822685783:=0
def tw17002249361002930626:=0
def tw17030012865256162222:=0
def tw17075190770849098503:=0
def tw17078449111433886873:=0
def tw17169055457975619723:=0
def tw17252790944447242992:=0
def tw17267338113655120547:=0
def tw1728249581845029159:=0
def tw17288150566221183271:=0
def tw17298219518535906979:=0
def tw17350752945194851962:=0
def tw17362416838300356814:=0
def tw174011842082670754:=0
def tw1748147771356233568:=0
def tw17536157506906825733:=0
def tw17617356155765602452:=0
def tw17619539362566377290:=0
def tw17672028038443400757:=0
def tw17718207402682952483:=0
def tw17718687148498604701:=0
def tw17722624525201620199:=0
def tw17797449636879377478:=0
def tw1781880532996238825:=0
def tw17858222074673869050:=0
def tw17868963073185438780:=0
def tw17871253791879970502:=0
def tw17889577806483448591:=0
def tw17922501913698858486:=0
def tw17942569216029203527:=0
def tw17978231571661820646:=0
def tw18004054087169051563:=0
def tw18010298700021314776:=0
def tw18027630924442339493:=0
def tw18053019482304376324:=0
def tw18067427923992286750:=0
def tw18126067460939883695:=0
def tw18127837318468152409:=0
def tw18153316254937285494:=0
def tw18154594934832147537:=0
def tw18206484890662540433:=0
def tw18220026675304474043:=0
def tw18332273047321737102:=0
def tw18351796584754081530:=0
def tw18352801800039330073:=0
def tw18396938606488438203:=0
def tw18404009248687199599:=0
def tw1881507884481714504:=0
def tw1904023836026213145:=0
def tw1950103324221708861:=0
def tw1995790843051882724:=0
def tw2034812292561213731:=0
def tw2043456574630963033:=0
def tw2219947840952128076:=0
def tw2233455286987182330:=0
def tw2264537545943914548:=0
def tw2362764698701834590:=0
def tw2377920738757564713:=0
def tw2436168602544039352:=0
def tw2518547014507257485:=0
def tw2519454888649598810:=0
def tw2576101034542670484:=0
def tw2628784936346198727:=0
def tw2644333282912716017:=0
def tw2687916406832267780:=0
def tw2703417765911387141:=0
def tw2708622913931609855:=0
def tw2784420023431527883:=0
def tw2880427634300890996:=0
def tw2888839792937481605:=0
def tw2893577830939742936:=0
def tw2898529944806094287:=0
def tw2927609792383887868:=0
def tw2969488723173248204:=0
def tw301861029723063031:=0
def tw3037206786645743332:=0
def tw3051294608004419671:=0
def tw3087613194023989212:=0
def tw3142265122145111684:=0
def tw3172440841105534820:=0
def tw3194681713572641937:=0
def tw3195318400325843444:=0
def tw3205050641224001962:=0
def tw3234833582280006979:=0
def tw3243932852480933842:=0
def tw3244486456006850941:=0
def tw3283760936137025603:=0
def tw3357651093497981832:=0
def tw3446286210684846842:=0
def tw358267275838710313:=0
def tw3593478570981661910:=0
def tw3646965714762613247:=0
def tw3712952855515985755:=0
def tw3718467150409563151:=0
def tw3731958174346396462:=0
def tw3775910815161646557:=0
def tw3779148119095212601:=0
def tw3789585788807447726:=0
def tw3822756398946976193:=0
def tw3831649792487886008:=0
def tw385006389525332938:=0
def tw3873177332096445428:=0
def tw3874268481211314647:=0
def tw3963737093263305347:=0
def tw3970783573409824173:=0
def tw4002548984637186372:=0
def tw4108297862749611006:=0
def tw4119421485124806529:=0
def tw4127848138544601999:=0
def tw4159910293883395944:=0
def tw426874836173477570:=0
def tw4290188981959947465:=0
def tw4295539109927948982:=0
def tw4348380861222501143:=0
def tw435150036145283484:=0
def tw4372170692176338484:=0
def tw4436045438535324665:=0
def tw4460150265506279978:=0
def tw4477027156626275023:=0
def tw4570207267727206869:=0
def tw4617160129243546003:=0
def tw4692141744338909996:=0
def tw4760352913566481610:=0
def tw4822573933012617962:=0
def tw48226385749839339:=0
def tw4827893591966747623:=0
def tw4841199624208703294:=0
def tw4851239918127056260:=0
def tw488120549668040300:=0
def tw4891877317064909401:=0
def tw4895070619363087305:=0
def tw490495306079647312:=0
def tw4926047515772494424:=0
def tw4932249159092954312:=0
def tw4940662035802528147:=0
def tw4970893553420851519:=0
def tw4977337121929983107:=0
def tw4999882161063148192:=0
def tw5012335241086590040:=0
def tw5056796028576172346:=0
def tw5071053941793316022:=0
def tw5175669924963163163:=0
def tw5192147904289297693:=0
def tw5205342481257732082:=0
def tw5249783077151757821:=0
def tw5283224346561323893:=0
def tw5298829017876267817:=0
def tw5336054943185594922:=0
def tw5346885181737602781:=0
def tw5381236723602844102:=0
def tw5405040263876225884:=0
def tw5445180317115476922:=0
def tw5481386123795961491:=0
def tw5530324014081480894:=0
def tw5560210204838824402:=0
def tw5603532680586378123:=0
def tw562132996098428597:=0
def tw5628785517670317086:=0
def tw5633927521372896878:=0
def tw5638640814001904711:=0
def tw5656670750268636756:=0
def tw5771706428073211449:=0
def tw5781790890058603270:=0
def tw5822047182645204905:=0
def tw5833272242427585244:=0
def tw5847786391127784265:=0
def tw5884913338259536843:=0
def tw5925446939594733604:=0
def tw5935989322321949353:=0
def tw5939111672802227271:=0
def tw5953319597162311205:=0
def tw5954061067702481682:=0
def tw5985952502143229386:=0
def tw5987074903641803347:=0
def tw605509175077904322:=0
def tw6090983944844866796:=0
def tw6143310343066216931:=0
def tw621475401174291323:=0
def tw6222531388916610527:=0
def tw6233449069757144573:=0
def tw6276144730765718765:=0
def tw6359569877803727103:=0
def tw6391688051297376544:=0
def tw6408172529496198544:=0
def tw6420691230902699776:=0
def tw6457856433302746295:=0
def tw6472182705808853472:=0
def tw6516813821526864713:=0
def tw6555325658006219928:=0
def tw6558356969275893407:=0
def tw6574582829735083642:=0
def tw6578165848654110418:=0
def tw6609450744271079601:=0
def tw6645109164171567402:=0
def tw670747712720322529:=0
def tw6761600532364851791:=0
def tw6828623696898493884:=0
def tw6829833258320087606:=0
def tw6990486866593763365:=0
def tw6996431386134241588:=0
def tw700828860981562641:=0
def tw7026200246737347707:=0
def tw7041972166853365594:=0
def tw707210434884153827:=0
def tw708190674697640134:=0
def tw7103687904344448768:=0
def tw7106882197631879502:=0
def tw7124689812935416518:=0
def tw7125612858754567290:=0
def tw7134077731858736397:=0
def tw7185458071689544766:=0
def tw7218709847405968442:=0
def tw7223901264377064316:=0
def tw7276317272193900389:=0
def tw7334495250577058867:=0
def tw7335376326686746671:=0
def tw7417476827544307660:=0
def tw7429712931990850086:=0
def tw7450629875572502947:=0
def tw747492357118935513:=0
def tw7479523425515635886:=0
def tw7481906638527981422:=0
def tw7482479843505766447:=0
def tw7493511043938471999:=0
def tw7525799210611154972:=0
def tw7571914362369192807:=0
def tw7619583915823069327:=0
def tw7619763813888738663:=0
def tw763161607232857981:=0
def tw7644503387953891089:=0
def tw7662648929654007810:=0
def tw7711950170616971546:=0
def tw7730595082036379752:=0
def tw7738658204702659012:=0
def tw7750947552015381458:=0
def tw7762921081574952311:=0
def tw7783850543831377935:=0
def tw7825296387039593950:=0
def tw7873040157740753975:=0
def tw7873910539504940101:=0
def tw789764808660365371:=0
def tw7902594679665021325:=0
def tw790956189687288434:=0
def tw7910296868881707426:=0
def tw7938120999044376264:=0
def tw7973979920481470881:=0
def tw7977605403664186352:=0
def tw7998387329333208353:=0
def tw8006747104381541937:=0
def tw8012629972726914322:=0
def tw8015015543945591940:=0
def tw8051800760282072668:=0
def tw8065639830031305922:=0
def tw8346942779506640794:=0
def tw8387219573762160138:=0
def tw8421580266038215366:=0
def tw8464207190237043302:=0
def tw8478576018397448789:=0
def tw8557038825704159677:=0
def tw8598471318341258986:=0
def tw8649089635641425817:=0
def tw8668323727344072957:=0
def tw8745200266427893008:=0
def tw8767726419548000575:=0
def tw8780531268881542072:=0
def tw8986570264797341943:=0
def tw900248902840433937:=0
def tw9029048967564669691:=0
def tw9032719004107460471:=0
def tw9116744895343570793:=0
def tw9129513448846346820:=0
def tw9164931790884142914:=0
def tw9184897633159302902:=0
def tw9260432957651665676:=0
def tw9267421803358181931:=0
def tw9278053037262261470:=0
def tw9299206148214585953:=0
def tw9329129966884392227:=0
def tw934384338857447135:=0
def tw9381646880800015459:=0
def tw9389533720401399621:=0
def tw9415525536823131856:=0
def tw9483946707584784026:=0
def tw9543012047814564680:=0
def tw9570473051578520291:=0
def tw9594089757883240301:=0
def tw9598184230329566786:=0
def tw9599167478290905995:=0
def tw9628229177361846977:=0
def tw965831030071212878:=0
def tw9662040488082799274:=0
def tw9664052683206043753:=0
def tw9664162377434765244:=0
def tw9674794695166261349:=0
def tw9685795835643461387:=0
def tw9691374622516501126:=0
def tw9708129180241546793:=0
def tw9715622522735585313:=0
def tw9818584256205752690:=0
def tw9823606089606966882:=0
def tw9854460578952857020:=0
def tw986842142977053450:=0
def tw9892831914836978304:=0
def tw9915292888876034098:=0
def tw9924315858885867341:=0
def tw992608161287502738:=0
def tw9934330237446679574:=0
def tw9986887306696109194:=0
end PySem.W.Fast
open PySem PySem.W PyProof.Rows TW
set_option maxHeartbeats 0 in
theorem PySem.Challenge.cw_twinwalk_k20_papers_of_none_holds : PySem.Challenge.rw_twinwalk_k20_papers_of_none.Holds := by
 w_on;o_law;k_head;(case hw=>w_witness2)
 k_fill
 show walk (l:=PySem.Challenge.rw_twinwalk_k20_papers_of_none) rfl rfl (fun w h Y8=>PySem.W.kIn_of Y8) ?F
 case F=>
   intro w mg fa h x G hmg
   show Vr hmg ?_
   refine' (⟨cy x G _ _ _ _,cy x G _ _ _ _,cy x G _ _ _ _,cy x G _ _ _ _,cy x G _ _ _ _,cy x G _ _ _ _,cy x G _ _ _ _,cy x G _ _ _ _,cy x G _ _ _ _,cy x G _ _ _ _,cy x G _ _ _ _,cy x G _ _ _ _,cy x G _ _ _ _,cy x G _ _ _ _,cy x G _ _ _ _,cy x G _ _ _ _,cy x G _ _ _ _,cy x G _ _ _ _,cy x G _ _ _ _,cy x G _ _ _ _,cy x G _ _ _ _,cy x G _ _ _ _,cy x G _ _ _ _,cy x G _ _ _ _,cy x G _ _ _ _,cy x G _ _ _ _,cy x G _ _ _ _,cy x G _ _ _ _,cy x G _ _ _ _,cy x G _ _ _ _,cy x G _ _ _ _,cy x G _ _ _ _,cy x G _ _ _ _,cy x G _ _ _ _,cy x G _ _ _ _,cy x G _ _ _ _,cy x G _ _ _ _,cy x G _ _ _ _,cy x G _ _ _ _,cy x G _ _ _ _,cy x G _ _ _ _,cy x G _ _ _ _,cy x G _ _ _ _,cy x G _ _ _ _,cy x G _ _ _ _,agU x G _ _ _ _ _,Dr x G _ _ _ _ _,Dr x G _ _ _ _ _,Dr x G _ _ _ _ _,Dr x G _ _ _ _ _,⟨_,⟨jL x G _,⟨_,_,_,_⟩,⟨_,_,_,_,_,trivial⟩⟩,⟨_,_,L2.lR _ _ _,⟨_,_,_,_⟩⟩,⟨_,_,L2.lR _ _ _,⟨_,_,_⟩⟩,⟨_,_,L2.lR _ _ _,⟨_,_,_⟩⟩,⟨_,_,L2.lR _ _ _,⟨_,_,_⟩⟩,⟨_,_,L2.lR _ _ _,⟨_,_,_⟩⟩⟩,⟨_,⟨jL x G _,⟨_,_,_,_⟩,⟨_,_,_,_,_,trivial⟩⟩,⟨_,_,L2.lR _ _ _,⟨_,_,_,_⟩⟩,⟨_,_,L2.lR _ _ _,⟨_,_,_⟩⟩,⟨_,_,L2.lR _ _ _,⟨_,_,_⟩⟩,⟨_,_,L2.lR _ _ _,⟨_,_,_⟩⟩⟩,⟨_,⟨jL x G _,⟨_,_,_,_⟩,⟨_,_,_,_,_,_,trivial⟩⟩,⟨_,_,L2.lR _ _ _,⟨_,_,_,_⟩⟩,⟨_,_,L2.lR _ _ _,⟨_,_,_⟩⟩⟩,⟨_,_,_,_,_,_,_,_,_,_,_,_,Dy x G _ _ _ _,Dy x G _ _ ?v2 _,Ky _ _ _ ?v4 ?v3 _ _ ?v2,_,_,_,_,_,Dy x G _ _ ?v1 _,Ky _ _ _ ?v4 ?v3 _ _ ?v1,_,_,_,_,_,Dy x G _ _ ?v0 _,Ky _ _ _ ?v4 ?v3 _ _ ?v0,_,_,_,_,_,jL x G _,jL x G _,jL x G _,jL x G _,jL x G _,jL x G _,jL x G _,jL x G _⟩,lE x G _,lE x G _,lE x G _,lE x G _,lE x G _,lE x G _,lE x G _,lE x G _,lE x G _,lE x G _,lE x G _,lE x G _,lE x G _⟩ : L9 _ _)
   any_goals first|k_is|k_exc|rfl
   any_goals first|k_is|k_exc|rfl
   all_goals first|kit_is|decide|(repeat' constructor)
