import PyProof.Rows.All
import Wide.All
import OpenK.AllK
import Wide.FinOn
import Lean
import PyProof.EqAt
import PyProof.EqKinds
import PyProof.TupleCall
import PySem.Challenge.RW_twinwalk_k72_rows_of_no_form
open PySem.W renaming Frag->FX,kitOne->FY,mg_none_of->GB,mg_of->GO,kitAny->GV,findIn->GW,hideAll->GX,emptyDict->G0,fnOf->HB,instObj->HI,keepIn->HL,plainGet->IM,lookIn->Jc,codeIn->Jd,plainGet_of->Jj,hideAll_get->Jk,of_hideAll->Jq,clsIn->Jr,callWith_K->Js,methodObj->Jv,hasDictIn->Jw,takerIn->JD,excIn->JS,cellsFrom_some->JZ,nsIn->J9,methodCall_KW->Ka,isFn->Kb,hideAll_none->Kf,plainOver->Kr
open List renaming length_append->FZ,length_map->F0,mem_cons_self->F4,length_cons->F5,mem_cons_of_mem->F7,map_append->F9,getElem?_eq_getElem->Gb,size_toArray->Ge,length_take->Gh,map_cons->Gi,mem_append_right->Gj,length_singleton->Gp,not_mem_nil->Gv,mem_of_getElem? -> Gx,reverse_cons->Gy,length_drop->GA,mem_cons->GG,append_nil->GH,getElem?_map->GI,lookup_cons->GL,sum_cons->GN,length_nil->GP,takeWhile_cons->GR,append_assoc->GU,mem_append_left->GY,getElem?_append_right->G6,mem_or_eq_of_mem_set->G8,map_nil->Hf,length_set->Hg,mem_of_mem_take->Hi,take_add_one->Ho,getElem?_set_self->HA,take_length->HC,sum_nil->HG,map_take->HH,range->HN,map_set->HR,mem_map_of_mem->HY,length_reverse->HZ,length->Ia,filterMap_cons->Ib,map_map->Ic,map_drop->Il,find?_cons->Im,take_append_drop->Iv,cons_append->Iw,mem_of_mem_drop->Iy,getElem?_set_ne->Iz,dropLast_concat_getLast->IA,lookup->IB,getElem?_append_left->IF,count_append->IP,getElem_mem->IW,take_of_length_le->I9,length_replicate->Je,forIn_cons->Jf,dropLast_concat->Jo,count_cons_self->Jp,replicate->Jt,any_cons->Jy,all_cons->Jz,eraseIdxIfInBounds_toArray->JC,eq_nil_of_length_eq_zero->JJ,count_eq_zero_of_not_mem->JK,of_mem_zip->JP,isPrefixOf_iff_prefix->JV,drop_zero->J4,getElem?_take_of_lt->Ke,take_nil->Kg,getElem?_replicate->Kh,eraseIdx_cons_succ->Ki,set_append_right->Kn
open PySem.Str renaming ofString->F1,join->HK,empty->HS
open Nat renaming le_trans->F2,le_refl->F8,lt_of_lt_of_le->Gk,zero_le->Gs,ne_of_lt->Gw,lt_of_le_of_lt->GK,lt_irrefl->He,le_of_lt->Hn,lt_succ_self->HF,le_succ_of_le->HU,succ_pos->Ig,lt_trans->Ih,toDigits_of_lt_base->IV,le_add_right->IZ,toDigits->Jl,sub_self->Jm,ne_of_gt->Jn,one_le_two_pow->JB,toDigits_append_toDigits->JN,sub_zero->Ku,pow_succ->Kv
open PySem renaming Spec->F3,boot_len->Gd,mem_of_lookup->GF,wpAny_passesOwn->HW,wpAny_callSpecial?_slot->Ir,ofString_length->Iu,seqIndex? -> JL,Within->Kl
open PySem.Heap renaming get?_push_of_some->F6,lt_size->Ga,get?_push_size->Gn,SameBut->Hl,get?_update_other->Iq,get?_update_self->Jg,size_push->Ju,FlyingW->Ko
open Bool renaming false_ne_true->Gf,and_eq_true->HE,eq_iff_iff->Ji,false_eq_true->JA,false_and->J6
open PySem.Txt renaming join->Gg,split->Gr,slice->GJ,upper->Hs,slice_le->JH,contains->JI
open Option.some renaming inj->Gm
open PySem.Value renaming ref->Gq,none->Hj,isStrOf->Ii,bool->IG,int->Ja,str->Kk
open PySem.Builtin.SmallTypes renaming nextOf->Gu,ownedTupleIsFree->G9,ownedTupleHandOut->IC
open PySem.NameKind renaming free->Gz,cell->JO
open True renaming intro->GD
open PySem.PassesOwn renaming leaving->GQ,never->Ks
open PySem.Builtin.Str renaming glued->GZ,strSliceIndices->Hh,occurrences->JG,tooLong->JX,strKind->JY
open PySem.F renaming slot_dict_get->G7,slot_str_split->Ij,entry_dict_get->Ik,slot_zip_next->Ip,args_str_split_2->ID,plainAttrs_list->IH,plainAttrs_dict->II,entry_str_split->IJ,args_dict_get_3->IK,plainAttrs_str->IQ,type_dict_get->IT,args_tuple_add_2->JM,entry_tuple_add->JT,args_zip_next_1->JU,slot_tuple_add->J1,slot_str_upper->J2,entry_zip_next->J3,type_list_pop->Kc,slot_list_pop->Kd
open PyProof.Rows renaming slot_tupleiter_next->Ht,callWith_type1->HM,entry_tupleiter_next->IY,args_tupleiter_next->Jb
open False renaming elim->HJ
open PySem.Calls renaming callWith_builtin->HP,spliced_cons->HQ,evalArgs_plain->HV,spliced_nil->IL,Name_function_global->JR
open ForInStep renaming yield->HX
open Option renaming map_some->Ie
open Int renaming eq_ofNat_of_zero_le->Io,toNat_natCast->JF,ediv_nonneg->JW,fdiv_eq_ediv_of_nonneg->J5
open PySem.Obj renaming data_mapFields->IE,mapFields->IU,mapSeq->JE,isFreed_of_fields->Kt
open PySem.Code renaming compLoop->IS,isFrame->Kq
open PySem.Builtin.ObjectAttr renaming bindTo->Jh
open Array renaming append_assoc->Jx,getElem?_toList->Km,length_toList->Kw
open PySem.Heap.SameBut renaming update->JQ
open PySem.SeqAt.EqAt renaming str_int->J7,int_str->J8
open PySem.Around renaming under->Kj
set_option Elab.async false
set_option linter.all false
set_option maxRecDepth 100000
/-! THE Fj EF,for ints,bools,texts,own classes,EG and tuples (index,slices,in,append,pop ..),calls,loops. EI it whole ahead of Df own text; what Df proof does not reach may be deleted. -/
theorem M3:0<=PySem.sizeLine:=by decide
theorem M4:1<=PySem.sizeLine:=by decide
theorem M5:2<=PySem.sizeLine:=by decide
theorem M6:3<=PySem.sizeLine:=by decide
theorem M7:4<=PySem.sizeLine:=by decide
theorem M8:5<=PySem.sizeLine:=by decide
theorem M9:6<=PySem.sizeLine:=by decide
theorem Na:7<=PySem.sizeLine:=by decide
theorem Nb:8<=PySem.sizeLine:=by decide
theorem Nc:9<=PySem.sizeLine:=by decide
theorem Nd:10<=PySem.sizeLine:=by decide
theorem Nf:12<=PySem.sizeLine:=by decide
theorem Ng:14<=PySem.sizeLine:=by decide
theorem Nh:24<=PySem.sizeLine:=by decide
namespace L2
open PySem PySem.Spec PyProof.Rows

/-- a key: an int or a str -/
abbrev Key:=Sum Int Str
def j6:Key->Value->Bool
 | .inl k,v=>Value.isInt k v
 | .inr x,v=>Ii x v
def Eg (w:World):Key->Int
 | .inl k=>hashInt k
 | .inr x=>hashStr w x
theorem ba:∀{k:Key} {v:Value},j6 k v=true->(∃i t,k=Sum.inl i/\v=Ja i t)\/(∃x t,k=Sum.inr x/\v=Kk x t)
 | .inl i,v,h=>by
   obtain ⟨t,e⟩:=Value.isInt_shape (k:=i) (v:=v) h
   exact .inl ⟨i,t,rfl,e⟩
 | .inr x,v,h=>by
   obtain ⟨t,e⟩:=Value.isStrOf_shape (x:=x) (v:=v) h
   exact .inr ⟨x,t,rfl,e⟩
theorem qD (i:Int)(t:Tok):j6 (.inl i) (.int i t)=true:=by simp [j6,Value.isInt]
theorem qE (x:Str)(t:Tok):j6 (.inr x) (.str x t)=true:=by simp [j6,Ii]
theorem zB (a b:Int):decide ((Sum.inl a:Key)=Sum.inl b)=(a == b):=by
 by_cases e:a=b
 · subst e; simp
 · have h:¬ (Sum.inl a:Key)=Sum.inl b:=fun q=>e (Sum.inl.inj q)
   rw [decide_eq_false h]
   exact (beq_eq_false_iff_ne.mpr e).symm
theorem zE (a b:Str):decide ((Sum.inr a:Key)=Sum.inr b)=decide (a=b):=by
 by_cases e:a=b
 · subst e; simp
 · have h:¬ (Sum.inr a:Key)=Sum.inr b:=fun q=>e (Sum.inr.inj q)
   rw [decide_eq_false h,decide_eq_false e]
theorem zC (a:Int)(b:Str):decide ((Sum.inl a:Key)=Sum.inr b)=false:=decide_eq_false (fun q=>nomatch q)
theorem zD (a:Str)(b:Int):decide ((Sum.inr a:Key)=Sum.inl b)=false:=decide_eq_false (fun q=>nomatch q)

def bf (prog:Program)(w:World):PySem.KeyKind prog w Key where
 is:=j6
 hash:=Eg w
 inj:=fun v a b ha hb=>by
   rcases ba ha with ⟨i,t,rfl,rfl⟩ | ⟨x,t,rfl,rfl⟩
   · rcases ba hb with ⟨j,u,rfl,e⟩ | ⟨y,u,rfl,e⟩
     · injection e with e1 _; rw [e1]
     · exact nomatch e
   · rcases ba hb with ⟨j,u,rfl,e⟩ | ⟨y,u,rfl,e⟩
     · exact nomatch e
     · injection e with e1 _; rw [e1]
 byValue:=fun k v h=>by
   rcases ba h with ⟨i,t,rfl,rfl⟩ | ⟨x,t,rfl,rfl⟩ <;> rfl
 pyHash:=fun hv h=>by
   rcases ba hv with ⟨i,t,rfl,rfl⟩ | ⟨x,t,rfl,rfl⟩
   · exact wpAny_pyHash_int h
   · exact wpAny_pyHash_str h
 eqBool:=fun hu hv h=>by
   rcases ba hu with ⟨i,t,rfl,rfl⟩ | ⟨x,t,rfl,rfl⟩
   · rcases ba hv with ⟨j,u,rfl,rfl⟩ | ⟨y,u,rfl,rfl⟩
     · rw [zB] at h; exact wpAny_eqBool_int h
     · rw [zC] at h; exact J8 i t y u _ _ _ _ h
   · rcases ba hv with ⟨j,u,rfl,rfl⟩ | ⟨y,u,rfl,rfl⟩
     · rw [zD] at h; exact J7 x t j u _ _ _ _ h
     · rw [zE] at h; exact wpAny_eqBool_str h
 «strs»:=fun k x t v h=>by
   rcases ba h with ⟨i,u,rfl,e⟩ | ⟨y,u,rfl,e⟩
   · exact nomatch e
   · injection e with e1 _
     subst e1
     cases v <;> rfl

theorem mB (prog:Program)(w:World)(i:Int)(t:Tok):(bf prog w).is (.inl i) (.int i t)=true:=qD i t
theorem mC (prog:Program)(w:World)(x:Str)(t:Tok):(bf prog w).is (.inr x) (.str x t)=true:=qE x t
end L2

namespace L2
open PySem PySem.Spec PyProof.Rows

/-- a value,without the heap -/
inductive V where
 | bq | bl (b:Bool) | int (i:Int) | str (x:Str) | byt (b:Array UInt8) | flt (b:UInt64) | ref (a:Addr) | ty (n:String)
 deriving DecidableEq

def RelV:V->Value->Prop
 | .bq,u=>u=Hj
 | .bl b,u=>u=IG b
 | .int i,u=>∃t,u=Ja i t
 | .str x,u=>∃t,u=Kk x t
 | .byt b,u=>∃t,u=Value.bytes b t
 | .flt b,u=>∃t,u=Value.float b t
 | .ref a,u=>u=Gq a
 | .ty n,u=>u=Value.type n

abbrev Vals:List V->List Value->Prop:=Paired RelV
theorem Vals.length {xs:List V}{us:List Value}(r:Vals xs us):xs.length=us.length:=Paired.length r
theorem Vals.get:∀{xs:List V} {us:List Value} {i:Nat} {x:V},Vals xs us->xs[i]? = some x->∃u,us[i]? = some u/\RelV x u
 | _,_,_,_,.nil,e=>by simp at e
 | _,_,0,_,.cons r _,e=>by simp at e; subst e; exact ⟨_,rfl,r⟩
 | _,_,i + 1,x,.cons _ t,e=>by
   obtain ⟨u,h1,h2⟩:=Vals.get (i:=i) (x:=x) t (by simpa using e)
   exact ⟨u,by simpa using h1,h2⟩
theorem Vals.set {x:V}{u:Value}(r:RelV x u):∀{xs:List V} {us:List Value} (i:Nat),Vals xs us->Vals (xs.set i x) (us.set i u)
 | _,_,_,.nil=>.nil
 | _,_,0,.cons _ t=>.cons r t
 | _,_,i + 1,.cons q t=>.cons q (Vals.set r i t)
theorem Vals.append:∀{xs ys:List V} {us ws:List Value},Vals xs us->Vals ys ws->Vals (xs++ys) (us++ws)
 | _,_,_,_,.nil,s=>s
 | _,_,_,_,.cons r t,s=>.cons r (Vals.append t s)
theorem Vals.take:∀{xs:List V} {us:List Value} (n:Nat),Vals xs us->Vals (xs.take n) (us.take n)
 | _,_,0,_=>.nil
 | _,_,_ + 1,.nil=>.nil
 | _,_,n + 1,.cons r t=>.cons r (Vals.take n t)
theorem Vals.drop:∀{xs:List V} {us:List Value} (n:Nat),Vals xs us->Vals (xs.drop n) (us.drop n)
 | _,_,0,r=>r
 | _,_,_ + 1,.nil=>.nil
 | _,_,n + 1,.cons _ t=>Vals.drop n t
def dw:Option V->Option Value->Prop
 | some v,some u=>RelV v u
 | none,none=>True
 | _,_=>False
def KV {κ:Type}:List (κ×V)->List (κ×Value)->Prop:=Paired fun (p:κ×V) (q:κ×Value)=>p.1=q.1/\RelV p.2 q.2

/-- a key of a dict (00Fp): an int or a text -/
def kV:Key->V
 | .inl i=>.int i
 | .inr x=>.str x

/-- what stands at a tracked address -/
inductive HO where
 /-- a list -/
 | lst (xs:List V)
 /-- a tuple (never changes) -/
 | tup (xs:List V)
 /-- a dict whose keys are ints and texts; one whose keys are tuples of ints and texts (the empty one is both) -/
 | dK (kvs:List (Key×V)) | dT (kvs:List (List Key×V))
 /-- a set of ints: its members,its size -/
 | set (S:Int->Bool) (n:Nat)
 /-- an instance of the class at C,its dict at dx,its attributes -/
 | ins (C dx:Addr) (fs:List (Str×V))
 /-- the dict of the instance at x -/
 | own (x:Addr)
 /-- the dict of an exception -/
 | xd (fs:List (Str×V))
 /-- a bound method,f of x -/
 | met (f x:Addr)
 /-- a range object lo,lo + 1,.. below hi -/
 | rng (lo hi:Int)
 /-- a Dc that is known to the object (the lD; a dict while a loop walks it): read,never written while it is so -/
 | frz (o:Obj) (u:HO)
 /-- a code uc table -/
 | tbl (ps:Array Value)
 /-- any other Dc,by what is true of its one object (a def of E5 own: Fo a S n:=HO.ext fun h=>..) -/
 | ext (φ:Heap->Prop)

abbrev Hp:=Addr->Option HO
def upd (H:Hp)(a:Addr)(o:HO):Hp:=fun b=>if b=a then some o else H b
theorem aa {H:Hp}{a:Addr}{o:HO}:upd H a o a=some o:=by unfold upd; rw [if_pos rfl]
theorem ai {H:Hp}{a b:Addr}{o:HO}(h:b≠a):upd H a o b=H b:=by unfold upd; rw [if_neg h]
theorem pQ {H:Hp}{a:Addr}{o u:HO}:upd (upd H a o) a u=upd H a u:=by
 funext b; unfold upd; split <;> rfl
/-- two objects of Bf content stand apart -/
theorem B6 {H:Hp}{a b:Addr}{o u:HO}(h:H a=some o)(h':H b=some u)(d:o≠u):a≠b:=by
 intro e; subst e; rw [h] at h'; exact d (Gm h')
theorem aq {H:Hp}{a b:Addr}{o:HO}(h:H a=some o)(h':H b=none):a≠b:=by
 intro e; subst e; rw [h] at h'; cases h'

section
variable (P:Program)(w:World)
def aZ (H:Hp)(h:Heap)(a:Addr):HO->Prop
 | .lst xs=>xs.length<=sizeLine/\∃(its:List Value) (n:Nat),Vals xs its/\h.get? a=some { cls:=.type "list",data:=.seq its.toArray n }
 | .tup xs=>xs.length<=sizeLine/\∃its:List Value,Vals xs its/\IsTup h a its.toArray
 | .dK kvs=>kvs.length<=sizeLine/\(a == sysModules)=false/\∃vs,KV kvs vs/\h.DictOf (bf P w) a vs
 | .dT kvs=>kvs.length<=sizeLine/\(a == sysModules)=false/\∃xs:List (List Key×Addr×Value),
     Paired (fun (p:List Key×V) (q:List Key×Addr×Value)=>p.1=q.1/\H q.2.1=some (.tup (p.1.map kV))/\RelV p.2 q.2.2) kvs xs /\
     ∃o es ep,h.get? a=some o/\o.ExactDict/\o.data=.dict es ep/\es.toList=xs.map (entryOfKey (tupleKind (bf P w)))/\(xs.map (·.1)).Nodup
 | .set S n=>h.SetOf (intKind P w) a S n
 | .ins C dx fs=>H dx=some (.own a)/\fs.length<=1000/\dx≠a/\h.get? a=some (HI C dx) /\
     ∃mA,h.Ns1 dx mA/\(∀f,dw (fs.lookup f) (mA f))/\Kl mA (fs.map (·.1))
 | .own _=>∃o,h.get? a=some o
 | .xd fs=>∃mA,h.Ns1 a mA/\∀f,dw (fs.lookup f) (mA f)
 | .rng lo hi=>∃t u v,h.get? a=some { cls:=.type "range",data:=.fields #[.int lo t,.int hi u,.int 1 v] }
 | .frz o u=>h.get? a=some o/\aZ H h a u
 | .tbl ps=>h.get? a=some { cls:=.none,data:=.fields ps }
 | .met f x=>h.get? a=some (Jv (.ref f) (.ref x))
 | .ext φ=>φ h/\(∃o,h.get? a=some o)/\∀h1 h2:Heap,φ h1->(∀o,h1.get? a=some o->h2.get? a=some o)->φ h2
/-- the abstract heap is held -/
def eN (H:Hp)(h:Heap):Prop:=∀a o,H a=some o->aZ P w H h a o
end

section
variable {P:Program}{w:World}{H H':Hp}{h h':Heap}{a:Addr}{o:HO}
theorem aZ.lt (x:aZ P w H h a o):a < h.objs.size:=by
 cases o with
 | lst xs=>obtain ⟨_,_,_,_,e⟩:=x; exact Ga e
 | tup xs=>obtain ⟨_,_,_,p⟩:=x; exact p.lt
 | dK kvs=>obtain ⟨_,_,_,_,o,_,_,e,_⟩:=x; exact Ga e
 | dT kvs=>obtain ⟨_,_,_,_,o,_,_,e,_⟩:=x; exact Ga e
 | set S n=>obtain ⟨o,_,_,_,e,_⟩:=x; exact Ga e
 | ins C dx fs=>obtain ⟨_,_,_,e,_⟩:=x; exact Ga e
 | own y=>obtain ⟨_,e⟩:=x; exact Ga e
 | xd fs=>obtain ⟨_,⟨_,_,_,e,_⟩,_⟩:=x; exact Ga e
 | rng lo hi=>obtain ⟨_,_,_,e⟩:=x; exact Ga e
 | frz ob u=>obtain ⟨e,_⟩:=x; exact Ga e
 | tbl ps=>exact Ga (show h.get? a=some _ from x)
 | met f y=>exact Ga (show h.get? a=some _ from x)
 | ext φ=>obtain ⟨_,⟨_,e⟩,_⟩:=x; exact Ga e
theorem Paired.mapP {α β:Type}{F G:α->β->Prop}:∀{l₁:List α} {l₂:List β},Paired F l₁ l₂->(∀a b,F a b->G a b)->Paired G l₁ l₂
 | _,_,.nil,_=>.nil
 | _,_,.cons r t,f=>.cons (f _ _ r) (Paired.mapP t f)
/-- what an uc description EV on: its own object,its own dict,the tuples -/
theorem aZ.stay (x:aZ P w H h a o)(k:∀b u,(b=a\/H b=some (.own a))->h.get? b=some u->h'.get? b=some u)
   (ho:∀b,H b=some (.own a)->H' b=some (.own a)) (ht:∀b xs,H b=some (.tup xs)->H' b=some (.tup xs)):aZ P w H' h' a o:=by
 induction o with
 | lst xs=>obtain ⟨z,its,n,r,e⟩:=x; exact ⟨z,its,n,r,k _ _ (.inl rfl) e⟩
 | tup xs=>obtain ⟨z,its,r,ob,e,c⟩:=x; exact ⟨z,its,r,ob,k _ _ (.inl rfl) e,c⟩
 | dK kvs=>obtain ⟨z,y,vs,r,ob,es,ep,e,c⟩:=x; exact ⟨z,y,vs,r,ob,es,ep,k _ _ (.inl rfl) e,c⟩
 | dT kvs=>
   obtain ⟨z,y,xs,r,ob,es,ep,e,c⟩:=x
   exact ⟨z,y,xs,Paired.mapP r fun p q z=>⟨z.1,ht _ _ z.2.1,z.2.2⟩,ob,es,ep,k _ _ (.inl rfl) e,c⟩
 | set S n=>obtain ⟨ob,es,ep,t,e,c⟩:=x; exact ⟨ob,es,ep,t,k _ _ (.inl rfl) e,c⟩
 | ins C dx fs=>
   obtain ⟨d,z,ne,e,mA,⟨od,es,ep,e2,c⟩,r⟩:=x
   exact ⟨ho _ d,z,ne,k _ _ (.inl rfl) e,mA,⟨od,es,ep,k _ _ (.inr d) e2,c⟩,r⟩
 | own y=>obtain ⟨ob,e⟩:=x; exact ⟨ob,k _ _ (.inl rfl) e⟩
 | xd fs=>obtain ⟨mA,⟨od,es,ep,e,c⟩,r⟩:=x; exact ⟨mA,⟨od,es,ep,k _ _ (.inl rfl) e,c⟩,r⟩
 | rng lo hi=>obtain ⟨t,u,v,e⟩:=x; exact ⟨t,u,v,k _ _ (.inl rfl) e⟩
 | frz ob u ih=>obtain ⟨e,q⟩:=x; exact ⟨k _ _ (.inl rfl) e,ih q⟩
 | tbl ps=>
   have e:h.get? a=some { cls:=.none,data:=.fields ps }:=x
   show h'.get? a=some { cls:=.none,data:=.fields ps }
   exact k a _ (.inl rfl) e
 | met f y=>
   have e:h.get? a=some (Jv (.ref f) (.ref y)):=x
   show h'.get? a=some (Jv (.ref f) (.ref y))
   exact k a _ (.inl rfl) e
 | ext φ=>obtain ⟨p,⟨o,e⟩,st⟩:=x; exact ⟨st _ _ p fun o q=>k _ _ (.inl rfl) q,⟨o,k _ _ (.inl rfl) e⟩,st⟩
theorem eN.lt (x:eN P w H h)(e:H a=some o):a < h.objs.size:=(x a o e).lt
theorem eN.fresh (x:eN P w H h)(e:h.objs.size<=a):H a=none:=by
 cases q:H a with
 | none=>rfl
 | some u=>exact absurd (Gk (x.lt q) e) (He _)
/-- oS object of the heap is kept -/
theorem eN.kept (x:eN P w H h)(k:∀b u,h.get? b=some u->h'.get? b=some u):eN P w H h':=fun a o e=>
 (x a o e).stay (fun b u _ q=>k b u q) (fun _ q=>q) fun _ _ q=>q
/-- a new object is laid and tracked -/
theorem eN.laid (x:eN P w H h)(k:∀b u,h.get? b=some u->h'.get? b=some u)(hp:h.objs.size<=a)(new:aZ P w (upd H a o) h' a o):eN P w (upd H a o) h':=fun b u e=>by
 have hn:=x.fresh hp
 by_cases hb:b=a
 · subst hb; rw [aa] at e; cases e; exact new
 · rw [ai hb] at e
   exact (x b u e).stay (fun c v _ q=>k c v q) (fun c q=>by rw [ai (aq q hn)]; exact q) fun c xs q=>by rw [ai (aq q hn)]; exact q
end

/-- what may be read as u: it is u,or a known u -/
def Rd (H:Hp)(a:Addr)(u:HO):Prop:=H a=some u\/∃o,H a=some (.frz o u)
theorem Rd.ok {P:Program}{w:World}{H:Hp}{h:Heap}{a:Addr}{u:HO}(r:Rd H a u)(x:eN P w H h):aZ P w H h a u:=by
 rcases r with r | ⟨o,r⟩
 · exact x a u r
 · obtain ⟨_,q⟩:=x a _ r
   exact q
/-- what may be written -/
def Bt:Option HO->Prop
 | some (.lst _)=>True
 | some (.dK _)=>True
 | some (.dT _)=>True
 | some (.set _ _)=>True
 | some (.ins _ _ _)=>True
 | some (.ext _)=>True
 | _=>False
section
variable {P:Program}{w:World}{H:Hp}{h h':Heap}{x e:Addr}{o':HO}
/-- the object at e is changed: x itself,or the dict of the instance x -/
theorem eN.write (ok:eN P w H h)(mu:Bt (H x))(he:e=x\/H e=some (.own x))(k:∀b u,b≠e->h.get? b=some u->h'.get? b=some u)(heo:∃u,h'.get? e=some u)
   (new:aZ P w (upd H x o') h' x o'):eN P w (upd H x o') h':=fun b u q=>by
 have nown:∀c y,H c=some (.own y)->c≠x:=fun c y r z=>by subst z; rw [r] at mu; exact mu
 have ntup:∀c xs,H c=some (.tup xs)->c≠x:=fun c xs r z=>by subst z; rw [r] at mu; exact mu
 by_cases hb:b=x
 · subst hb; rw [aa] at q; cases q; exact new
 · rw [ai hb] at q
   by_cases zm:b=e
   · have q':H b=some (.own x):=by
       rcases he with z | z
       · exact absurd (zm.trans z) hb
       · rw [zm]; exact z
     rw [q] at q'; cases q'
     obtain ⟨v,hv⟩:=heo
     exact ⟨v,by rw [zm]; exact hv⟩
   · refine (ok b u q).stay (fun c v hc r=>k c v ?_ r) (fun c r=>by rw [ai (nown c b r)]; exact r) fun c xs r=>by rw [ai (ntup c xs r)]; exact r
     rcases hc with rfl | hc
     · exact zm
     · rintro rfl
       rcases he with z | z
       · exact nown c b hc z
       · rw [hc] at z; cases z; exact hb rfl
end

/-! ### kept unless tracked; of the frames at fs (the iF) the slots may change (an exception that passes writes there); of the records at ex (iterators) nothing is said -/
structure Un (fs ex:List Addr)(H H':Hp)(h h':Heap):Prop where
 keep:∀b o,h.get? b=some o->H b=none->b ∉ fs->b ∉ ex->h'.get? b=some o
 slot:∀b o,h.get? b=some o->H b=none->b∈fs->b ∉ ex->∃sl,h'.get? b=some { o with slots:=sl }
 free:∀b o,h.get? b=some o->H b=none->b ∉ ex->H' b=none
 there:∀b o,h.get? b=some o->b ∉ ex->∃o',h'.get? b=some o'
 tups:∀b xs,H b=some (.tup xs)->H' b=some (.tup xs)
 frzs:∀b o u,H b=some (.frz o u)->H' b=some (.frz o u)
 tbls:∀b ps,H b=some (.tbl ps)->∃more,H' b=some (.tbl (ps++more))
section
variable {fs Bg ex FU:List Addr}{H H1 H2:Hp}{h h1 h2 h':Heap}{a x e:Addr}{o:HO}
theorem Un.any (u:Un fs ex H H1 h h1){b:Addr}{ob:Obj}(q:h.get? b=some ob)(n:H b=none)(hx:b ∉ ex):∃sl,h1.get? b=some { ob with slots:=sl }:=by
 by_cases hb:b∈fs
 · exact u.slot b ob q n hb hx
 · exact ⟨ob.slots,u.keep b ob q n hb hx⟩
theorem Un.kept (k:∀b u,h.get? b=some u->h'.get? b=some u):Un fs ex H H h h':=
 ⟨fun b ob q _ _ _=>k b ob q,fun b ob q _ _ _=>⟨ob.slots,k b ob q⟩,fun _ _ _ n _=>n,fun b ob q _=>⟨ob,k b ob q⟩,fun _ _ q=>q,fun _ _ _ q=>q,fun _ ps q=>⟨#[],by rw [q]; simp⟩⟩
theorem Un.refl:Un fs ex H H h h:=Un.kept fun _ _ q=>q
theorem Un.laid (k:∀b u,h.get? b=some u->h'.get? b=some u)(hp:h.objs.size<=a)(hn:H a=none):Un fs ex H (upd H a o) h h' where
 keep:=fun b u q _ _ _=>k b u q
 slot:=fun b u q _ _ _=>⟨u.slots,k b u q⟩
 free:=fun b u q n _=>by rw [ai (Gw (Gk (Ga q) hp))]; exact n
 there:=fun b u q _=>⟨u,k b u q⟩
 tups:=fun b xs q=>by rw [ai (aq q hn)]; exact q
 frzs:=fun b u xs q=>by rw [ai (aq q hn)]; exact q
 tbls:=fun b ps q=>⟨#[],by rw [ai (aq q hn),q]; simp⟩
theorem Un.write (mu:Bt (H x))(he:e=x\/H e=some (.own x))(k:∀b u,b≠e->h.get? b=some u->h'.get? b=some u)(heo:∃u,h'.get? e=some u):Un fs ex H (upd H x o) h h':=by
 have hx:∀b,H b=none->b≠x:=fun b n z=>by subst z; rw [n] at mu; exact mu
 have hb:∀b,H b=none->b≠e:=fun b n z=>by
   subst z
   rcases he with r | r
   · exact hx b n r
   · rw [n] at r; cases r
 have hm:∀b u,H b=some u->¬ Bt (some u)->b≠x:=fun b u q nm z=>by subst z; rw [q] at mu; exact nm mu
 refine ⟨fun b u q n _ _=>k b u (hb b n) q,fun b u q n _ _=>⟨u.slots,k b u (hb b n) q⟩,fun b u q n _=>by rw [ai (hx b n)]; exact n,fun b u q _=>?_,
   fun b xs q=>by rw [ai (hm b _ q fun z=>z)]; exact q,fun b u xs q=>by rw [ai (hm b _ q fun z=>z)]; exact q,fun b ps q=>⟨#[],by rw [ai (hm b _ q fun z=>z),q]; simp⟩⟩
 by_cases zm:b=e
 · subst zm; exact heo
 · exact ⟨u,k b u zm q⟩
end

/-! ### the heap without what is tracked -/
def lN (h:Heap)(H:Hp):List Addr:=(HN h.objs.size).filter fun a=>(H a).isSome
def kZ (h:Heap)(H:Hp):Heap:=GX h (lN h H)
theorem qB (h:Heap)(H:Hp):(kZ h H).objs.size=h.objs.size:=PySem.W.hideAll_size _ _
theorem sU {h:Heap}{H:Hp}{b:Addr}{o:Obj}(e:h.get? b=some o)(n:H b=none):(kZ h H).get? b=some o:=
 Jk _ e fun hm=>by
   have q:(H b).isSome=true:=(List.mem_filter.mp hm).2
   rw [n] at q; simp at q
theorem wR {h:Heap}{H:Hp}{b:Addr}{o:Obj}(e:(kZ h H).get? b=some o):h.get? b=some o/\H b=none:=by
 have e':h.get? b=some o:=Jq (lN h H) e
 refine ⟨e',?_⟩
 cases q:H b with
 | none=>rfl
 | some x=>
   have hm:b∈lN h H:=List.mem_filter.mpr ⟨List.mem_range.mpr (Ga e'),by simp [q]⟩
   have z:(kZ h H).get? b=none:=Kf (lN h H) hm
   rw [z] at e; cases e

/-! ### Dg ledger,filled with oS new object but one -/
end L2

namespace L2
open PySem PySem.Spec PyProof.Rows

/-- the i5 facts,over the base: the heap at the law's entry without what is tracked there -/
structure Mod (K:FX)(mg:Str->Option Value)(base:Heap):Prop where
 kin:K.In base
 glob:base.Ns mainGlobals mg
 blt:∃mb,base.Ns builtinsNs mb/\∀x:Str,x≠"__name__"->mb x=bootBuiltins x
 nolimit:base.NoLimit

/-- the context: a def's body (or a comprehension's block) running. base: fixed through the whole law; s₀,H₀: the entry; outer: the frames whose slots others may change (a def's Dk); stack: all frames that run;
  ex: iterators that were made ahead of the entry and are walked here (a comprehension's); fn: the names whose cells were made at the entry (a def: all; a comprehension's block: its own); calm: not within an except suite; pn: pins that oS state bears; xe: what is wanted of an exception that leaves the code -/
structure Cx where
 prog:Program
 w:World
 K:FX
 mg:Str->Option Value
 base:Heap
 A:Around
 N:List Str
 s₀:Shared
 H₀:Hp
 env:Env
 outer:List Env
 stack:List Env
 ex:List Addr
 fn:Str->Bool
 calm:Bool
 pn:List (Addr×Obj)
 xe:Value->Shared->Prop
/-- the iF frames -/
def cm (l:List Env):List Addr:=l.filterMap (·.frame)
abbrev Cx.fs (X:Cx):List Addr:=cm X.outer

def Di (sc:Scope)(x:Str):Prop:=sc.names.lookup x=some .local\/sc.names.lookup x=some .cell\/sc.names.lookup x=some .free
def Loc (sc:Scope)(x:Str):Prop:=sc.names.lookup x=some .local\/sc.names.lookup x=some .cell
def Look (env:Env)(h:Heap)(m:Str->Option Value)(x:Str)(u:Value):Prop:=
 (env.kindOf x=some .local/\m x=some u)\/((env.kindOf x=some .cell\/env.kindOf x=some .free)/\∃c,env.cells.lookup x=some c/\h.IsCell c (some u))

structure Cx.Ok (X:Cx):Prop where
 mod:Mod X.K X.mg X.base
 kind:X.env.scope.kind=.function
 glob:X.env.globals=mainGlobals
 blt:X.env.builtins=builtinsNs
 above:X.s₀.heap.objs.size<=X.env.locals
 inj:∀x y c,X.env.cells.lookup x=some c->X.env.cells.lookup y=some c->x=y
 has:∀x,(X.env.kindOf x=some .cell\/X.env.kindOf x=some .free)->∃c,X.env.cells.lookup x=some c
 cab:∀x c,X.fn x=true->X.env.cells.lookup x=some c->X.s₀.heap.objs.size<=c
 hd:X.calm=true->X.A.handled=none
 frames:X.A.frames=some X.stack
 stk:X.stack=X.outer\/(X.stack=X.env :: X.outer/\X.env.frame=some X.env.locals)
 exf:∀b∈X.ex,b≠X.env.locals/\∀x c,X.env.cells.lookup x=some c->c≠b
 bs:∀b o,X.base.get? b=some o->X.s₀.heap.get? b=some o/\X.H₀ b=none
 bsz:X.base.objs.size<=X.s₀.heap.objs.size
 noex:∀b o,X.base.get? b=some o->b ∉ X.ex
 exfs:∀b∈X.ex,b ∉ X.fs
 funs:X.s₀.heap.FunFrames X.base X.outer
 frf:∀b∈X.fs,X.H₀ b=none

structure Inv (X:Cx)(pins:List (Addr×Obj))(σ:List (Option V))(H:Hp)(s:Shared):Prop where
 ok:X.Ok
 os:s.os=X.s₀.os
 bare:AllBare s.gens
 base:Un X.fs X.ex X.H₀ H X.s₀.heap s.heap
 loc:∃m,s.heap.Ns X.env.locals m/\∀(i:Nat) (x:Str) (v:V),X.N[i]? = some x->σ[i]? = some (some v)->Di X.env.scope x->∃u,RelV v u/\Look X.env s.heap m x u
 cell:∀x c,X.env.cells.lookup x=some c->∃v,s.heap.IsCell c v
 free:H X.env.locals=none
 freeC:∀x c,X.env.cells.lookup x=some c->H c=none
 pin:∀p∈X.pn++pins,s.heap.get? p.1=some p.2/\H p.1=none/\p.1≠X.env.locals/\p.1 ∉ X.fs/\∀v,p.2.data≠.cell v
 hok:eN X.prog X.w H s.heap
 len:σ.length=X.N.length

section
variable {X:Cx}{pins:List (Addr×Obj)}{σ:List (Option V)}{H H':Hp}{s:Shared}{h':Heap}

theorem Cx.Ok.Ek (ok:X.Ok){b:Addr}{o:Obj}(e:X.base.get? b=some o):b ∉ X.fs:=fun hb=>by
 have:=(ok.funs.mem hb).1
 rw [e] at this; cases this
theorem Inv.bs (I:Inv X pins σ H s):∀b o,X.base.get? b=some o->s.heap.get? b=some o/\H b=none:=fun b o e=>
 ⟨I.base.keep b o (I.ok.bs b o e).1 (I.ok.bs b o e).2 (I.ok.Ek e) (I.ok.noex b o e),I.base.free b o (I.ok.bs b o e).1 (I.ok.bs b o e).2 (I.ok.noex b o e)⟩
theorem Inv.bk (I:Inv X pins σ H s):∀b o,X.base.get? b=some o->s.heap.get? b=some o:=fun b o e=>(I.bs b o e).1
theorem Inv.mod (I:Inv X pins σ H s):Mod X.K X.mg X.base:=I.ok.mod
theorem Inv.kIn (I:Inv X pins σ H s):X.K.In s.heap:=I.ok.mod.kin.keeps I.bk
theorem Inv.lt (I:Inv X pins σ H s):X.env.locals < s.heap.objs.size:=let ⟨_,hn,_⟩:=I.loc; hn.lt
theorem Inv.sz (I:Inv X pins σ H s):X.s₀.heap.objs.size<=s.heap.objs.size:=F2 I.ok.above (Hn I.lt)
theorem Inv.El (I:Inv X pins σ H s){a:Addr}(h:s.heap.objs.size<=a):a ∉ X.fs:=fun hb=>by
 obtain ⟨_,o,ho,_⟩:=I.ok.funs.mem hb
 exact absurd (Gk (Ga ho) (F2 I.sz h)) (He _)
theorem Inv.cne (I:Inv X pins σ H s):∀x c,X.env.cells.lookup x=some c->c≠X.env.locals:=fun x c e z=>by
 obtain ⟨v,o,ho,hd⟩:=I.cell x c e
 obtain ⟨m,⟨o',es,ep,ho',Ea,_⟩,_⟩:=I.loc
 rw [z,ho'] at ho; cases ho; rw [Ea] at hd; cases hd
theorem Inv.funs (I:Inv X pins σ H s):s.heap.FunFrames X.base X.outer:=by
 have all:∀(l:List Env),(∀b∈cm l,b∈X.fs)->X.s₀.heap.FunFrames X.base l->s.heap.FunFrames X.base l:=by
   intro l
   induction l with
   | nil=>intro _ _; trivial
   | cons env r ih=>
     intro hs hl
     obtain ⟨hk,⟨L,o,hf,hn,ho,hd⟩,hr⟩:=hl
     have hL:L∈X.fs:=hs L (by unfold cm; rw [Ib,hf]; exact F4)
     obtain ⟨sl,e⟩:=I.base.slot L o ho (I.ok.frf L hL) hL fun z=>I.ok.exfs L z hL
     exact ⟨hk,⟨L,_,hf,hn,e,hd⟩,ih (fun b hb=>hs b (by unfold cm; rw [Ib,hf]; exact F7 _ hb)) hr⟩
 exact all X.outer (fun _ hb=>hb) I.ok.funs

/-- the frames that run,for a call -/
theorem Inv.stack (I:Inv X pins σ H s):s.heap.FunFrames X.base X.stack:=by
 rcases I.ok.stk with e | ⟨e,hf⟩
 · rw [e]; exact I.funs
 · rw [e]
   obtain ⟨m,hn,_⟩:=I.loc
   refine .cons (by rw [I.ok.kind]; decide) hf hn ?_ I.funs
   exact Heap.get?_none_of_le (F2 I.ok.bsz I.ok.above)
theorem Inv.stkSub (I:Inv X pins σ H s):∀b∈cm X.stack,b∈X.env.locals :: X.fs:=fun b hb=>by
 rcases I.ok.stk with e | ⟨e,hf⟩
 · rw [e] at hb; exact F7 _ hb
 · rw [e] at hb
   unfold cm at hb
   rw [Ib,hf] at hb
   exact hb
theorem Inv.stkFree (I:Inv X pins σ H s):∀b∈cm X.stack,H b=none:=fun b hb=>by
 rcases List.mem_cons.mp (I.stkSub b hb) with e | hb
 · rw [e]; exact I.free
 · obtain ⟨_,o,ho,_⟩:=I.ok.funs.mem hb
   exact I.base.free b o ho (I.ok.frf b hb) fun z=>I.ok.exfs b z hb

/-- THE Fn: the rN objects but the frame and the records at ch are kept (the iF frames up to slots),the oU map is kept,the new abstract heap is held -/
theorem Inv.step {g':Array GenState}{t':Nat}{d':Drawn}{ch:List Addr}(I:Inv X pins σ H s)
   (hch:∀b∈ch,(b∈X.ex\/X.s₀.heap.objs.size<=b)/\b≠X.env.locals/\(∀x c,X.env.cells.lookup x=some c->c≠b)/\∀p∈X.pn++pins,p.1≠b)
   (keep:∀b o,b≠X.env.locals->b ∉ X.fs->b ∉ ch->s.heap.get? b=some o->H b=none->h'.get? b=some o)
   (slot:∀b o,b≠X.env.locals->b∈X.fs->b ∉ ch->s.heap.get? b=some o->H b=none->∃sl,h'.get? b=some { o with slots:=sl }) (free:∀b o,b ∉ ch->s.heap.get? b=some o->H b=none->H' b=none)
   (there:∀b o,b ∉ ch->s.heap.get? b=some o->∃o',h'.get? b=some o')
   (tups:∀b xs,H b=some (.tup xs)->H' b=some (.tup xs)) (frzs:∀b o u,H b=some (.frz o u)->H' b=some (.frz o u)) (tbls:∀b ps,H b=some (.tbl ps)->∃more,H' b=some (.tbl (ps++more)))
   (ns:∀m,s.heap.Ns X.env.locals m->h'.Ns X.env.locals m) (hok:eN X.prog X.w H' h') (hg:AllBare g') :
   Inv X pins σ H' { s with heap:=h',gens:=g',drawn:=d',toks:=t' }:=by
 have neL:∀b o,X.s₀.heap.get? b=some o->b≠X.env.locals:=fun b o e=>Gw (Gk (Ga e) I.ok.above)
 have neC:∀b o,X.s₀.heap.get? b=some o->b ∉ X.ex->b ∉ ch:=fun b o e hx hb=>by
   rcases (hch b hb).1 with z | z
   · exact hx z
   · exact absurd (Gk (Ga e) z) (He _)
 have cellK:∀x c,X.env.cells.lookup x=some c->∀v,s.heap.IsCell c v->h'.IsCell c v:=fun x c e v ⟨o,ho,hd⟩=>by
   have nch:c ∉ ch:=fun z=>(hch c z).2.2.1 x c e rfl
   by_cases hc:c∈X.fs
   · obtain ⟨sl,q⟩:=slot c o (I.cne x c e) hc nch ho (I.freeC x c e)
     exact ⟨_,q,hd⟩
   · exact ⟨o,keep c o (I.cne x c e) hc nch ho (I.freeC x c e),hd⟩
 refine ⟨I.ok,I.os,hg,⟨fun b o e n hb hx=>?_,fun b o e n hb hx=>?_,fun b o e n hx=>?_,fun b o e hx=>?_,fun b xs e=>tups b xs (I.base.tups b xs e),fun b o xs e=>frzs b o xs (I.base.frzs b o xs e),fun b ps e=>?_⟩,?_,fun x c e=>?_,?_,fun x c e=>?_,fun p hp=>?_,hok,I.len⟩
 · exact keep b o (neL b o e) hb (neC b o e hx) (I.base.keep b o e n hb hx) (I.base.free b o e n hx)
 · obtain ⟨sl,e1⟩:=I.base.slot b o e n hb hx
   obtain ⟨sl',e2⟩:=slot b _ (neL b o e) hb (neC b o e hx) e1 (I.base.free b o e n hx)
   exact ⟨sl',e2⟩
 · obtain ⟨o',e1⟩:=I.base.there b o e hx
   exact free b o' (neC b o e hx) e1 (I.base.free b o e n hx)
 · obtain ⟨o',e1⟩:=I.base.there b o e hx
   exact there b o' (neC b o e hx) e1
 · obtain ⟨m1,e1⟩:=I.base.tbls b ps e
   obtain ⟨m2,e2⟩:=tbls b _ e1
   exact ⟨m1++m2,by rw [e2,Jx]⟩
 · obtain ⟨m,hn,hl⟩:=I.loc
   refine ⟨m,ns m hn,fun i x v e1 e2 e3=>?_⟩
   obtain ⟨u,r,l⟩:=hl i x v e1 e2 e3
   refine ⟨u,r,?_⟩
   rcases l with l | ⟨k,c,e,z⟩
   · exact .inl l
   · exact .inr ⟨k,c,e,cellK x c e _ z⟩
 · obtain ⟨v,z⟩:=I.cell x c e
   exact ⟨v,cellK x c e v z⟩
 · obtain ⟨m,⟨o,_,_,ho,_⟩,_⟩:=I.loc
   exact free _ o (fun z=>(hch _ z).2.1 rfl) ho I.free
 · obtain ⟨v,o,ho,hd⟩:=I.cell x c e
   exact free c o (fun z=>(hch c z).2.2.1 x c e rfl) ho (I.freeC x c e)
 · obtain ⟨e,n,ne,nf,d⟩:=I.pin p hp
   have nch:p.1 ∉ ch:=fun z=>(hch p.1 z).2.2.2 p hp rfl
   exact ⟨keep p.1 p.2 ne nf nch e n,free p.1 p.2 nch e n,ne,nf,d⟩
/-- .. where the oU own object is kept too -/
theorem Inv.un {t':Nat}(I:Inv X pins σ H s)(u:Un X.fs [] H H' s.heap h')(hok:eN X.prog X.w H' h'):Inv X pins σ H' { s with heap:=h',toks:=t' }:=by
 obtain ⟨m,⟨o,es,ep,ho,r⟩,_⟩:=id I.loc
 obtain ⟨sl,hL⟩:=u.any ho I.free (by simp)
 exact I.step (g':=s.gens) (d':=s.drawn) (ch:=[]) (fun _ z=>nomatch z) (fun b o _ hb _ e n=>u.keep b o e n hb (by simp)) (fun b o _ hb _ e n=>u.slot b o e n hb (by simp)) (fun b o _ e n=>u.free b o e n (by simp)) (fun b o _ e=>u.there b o e (by simp)) u.tups u.frzs u.tbls (fun m' hm=>by
   obtain ⟨o',D7,D6,ho',r'⟩:=hm
   rw [ho] at ho'; cases ho'
   exact ⟨_,D7,D6,hL,r'⟩) hok I.bare
/-- behind a call (or a comprehension's block): the slots of this frame may have changed too,the records at ch may have turned -/
theorem Inv.call {g':Array GenState}{t':Nat}{d':Drawn}{ch:List Addr}(I:Inv X pins σ H s)(u:Un (cm X.stack) ch H H' s.heap h')(hok:eN X.prog X.w H' h')(hg:AllBare g')
   (hch:∀b∈ch,(b∈X.ex\/X.s₀.heap.objs.size<=b)/\b≠X.env.locals/\(∀x c,X.env.cells.lookup x=some c->c≠b)/\∀p∈X.pn++pins,p.1≠b) :
   Inv X pins σ H' { s with heap:=h',gens:=g',drawn:=d',toks:=t' }:=by
 obtain ⟨m,⟨o,es,ep,ho,r⟩,_⟩:=id I.loc
 obtain ⟨sl,hL⟩:=u.any ho I.free fun z=>(hch _ z).2.1 rfl
 exact I.step (ch:=ch) hch (fun b o hL hb hc e n=>u.keep b o e n (fun z=>(List.mem_cons.mp (I.stkSub b z)).elim hL hb) hc) (fun b o _ _ hc e n=>u.any e n hc) (fun b o hc e n=>u.free b o e n hc) (fun b o hc e=>u.there b o e hc) u.tups u.frzs u.tbls (fun m' hm=>by
   obtain ⟨o',D7,D6,ho',r'⟩:=hm
   rw [ho] at ho'; cases ho'
   exact ⟨_,D7,D6,hL,r'⟩) hok hg
/-- an rN record of ours (an iterator) has turned -/
theorem Inv.turned {t':Nat}{it:Addr}(I:Inv X pins σ H s)(k:∀b o,b≠it->s.heap.get? b=some o->h'.get? b=some o)(hn:H it=none)(hL:it≠X.env.locals)
   (h1:it∈X.ex\/X.s₀.heap.objs.size<=it) (h2:∀x c,X.env.cells.lookup x=some c->c≠it) (h3:∀p∈X.pn++pins,p.1≠it):Inv X pins σ H { s with heap:=h',toks:=t' }:=by
 have EY:∀b u,H b=some u->b≠it:=fun b u e z=>by rw [z,hn] at e; cases e
 refine I.step (g':=s.gens) (d':=s.drawn) (ch:=[it]) (fun b hb=>?_) (fun b o _ _ hc e _=>k b o (fun z=>hc (by simp [z])) e) (fun b o _ _ hc e _=>⟨o.slots,k b o (fun z=>hc (by simp [z])) e⟩) (fun _ _ _ _ n=>n)
   (fun b o hc e=>⟨o,k b o (fun z=>hc (by simp [z])) e⟩) (fun _ _ e=>e) (fun _ _ _ e=>e) (fun b ps e=>⟨#[],by rw [e]; simp⟩) (fun m hm=>?_) (fun b u e=>?_) I.bare
 · have e:b=it:=by simpa using hb
   subst e
   exact ⟨h1,hL,h2,h3⟩
 · obtain ⟨o,es,ep,ho,r⟩:=hm
   exact ⟨o,es,ep,k _ o (Ne.symm hL) ho,r⟩
 · refine (I.hok b u e).stay (fun c v hc q=>k c v ?_ q) (fun _ q=>q) fun _ _ q=>q
   rcases hc with z | z
   · rw [z]; exact EY b u e
   · exact EY c _ z
theorem Inv.tok (I:Inv X pins σ H s)(t:Nat):Inv X pins σ H { s with toks:=t }:=I.un (h':=s.heap) (t':=t) Un.refl I.hok
/-- all objects kept -/
theorem Inv.kept {t':Nat}(I:Inv X pins σ H s)(k:∀b u,s.heap.get? b=some u->h'.get? b=some u):Inv X pins σ H { s with heap:=h',toks:=t' }:=I.un (Un.kept k) (I.hok.kept k)
/-- a new object laid and tracked -/
theorem Inv.laid {a:Addr}{o:HO}{t':Nat}(I:Inv X pins σ H s)(k:∀b u,s.heap.get? b=some u->h'.get? b=some u)(hp:s.heap.objs.size<=a)(new:aZ X.prog X.w (upd H a o) h' a o) :
   Inv X pins σ (upd H a o) { s with heap:=h',toks:=t' }:=I.un (Un.laid k hp (I.hok.fresh hp)) (I.hok.laid k hp new)
/-- an object written -/
theorem Inv.write {x e:Addr}{o:HO}{t':Nat}(I:Inv X pins σ H s)(mu:Bt (H x))(he:e=x\/H e=some (.own x))(k:∀b u,b≠e->s.heap.get? b=some u->h'.get? b=some u)(heo:∃u,h'.get? e=some u)
   (new:aZ X.prog X.w (upd H x o) h' x o):Inv X pins σ (upd H x o) { s with heap:=h',toks:=t' }:=I.un (Un.write mu he k heo) (I.hok.write mu he k heo new)
/-- zf slots,pins -/
theorem Inv.weak {σ':List (Option V)}(I:Inv X pins σ H s)(hl:σ'.length=σ.length)(w:∀(i:Nat) v,σ'[i]? = some (some v)->σ[i]? = some (some v)):Inv X pins σ' H s:=
 ⟨I.ok,I.os,I.bare,I.base,let ⟨m,hn,Fx⟩:=I.loc; ⟨m,hn,fun i x v e1 e2 e3=>Fx i x v e1 (w i v e2) e3⟩,I.cell,I.free,I.freeC,I.pin,I.hok,hl.trans I.len⟩
theorem Inv.pins_of {pins':List (Addr×Obj)}(I:Inv X pins σ H s)(h:∀p∈pins',s.heap.get? p.1=some p.2/\H p.1=none/\p.1≠X.env.locals/\p.1 ∉ X.fs/\∀v,p.2.data≠.cell v):Inv X pins' σ H s:=
 ⟨I.ok,I.os,I.bare,I.base,I.loc,I.cell,I.free,I.freeC,fun p hp=>(List.mem_append.mp hp).elim (fun z=>I.pin p (GY _ z)) (h p),I.hok,I.len⟩

theorem mG {N:List Str}(hN:N.Nodup){i j:Nat}{x:Str}(a:N[i]? = some x)(b:N[j]? = some x):i=j:=by
 obtain ⟨h1,e1⟩:=List.getElem?_eq_some_iff.mp a
 obtain ⟨h2,e2⟩:=List.getElem?_eq_some_iff.mp b
 exact (List.getElem_inj hN).mp (e1.trans e2.symm)

/-- a name is stored; what changed -/
theorem kq {M:Model}{A:Around}{E:Value->Shared->Prop}{i:Nat}{x:Str}{v:V}{u:Value}{Q:Unit->Shared->Prop}(I:Inv X pins σ H s)(hN:X.N.Nodup)(hi:X.N[i]? = some x)(hx:Loc X.env.scope x)(r:RelV v u)
   (h:∀s',Inv X pins (σ.set i (some v)) H s'->(∃a,Hl a s.heap s'.heap/\(a=X.env.locals\/X.env.cells.lookup x=some a))->Q () s') (hf:X.fn x=true\/X.env.scope.names.lookup x=some .local:=by first | exact .inl rfl | exact .inr rfl | assumption):wpAny M A (storeName X.env x u) Q E s:=by
 obtain ⟨m,hn,hl⟩:=id I.loc
 have hcls:(X.env.scope.kind == .class || (X.env.scope.kind == .module && X.env.locals != X.env.globals))=false:=by rw [I.ok.kind]; rfl
 have hiσ:i < σ.length:=by rw [I.len]; exact (List.getElem?_eq_some_iff.mp hi).1
 have cne:=I.cne
 have tracked:∀{a:Addr} {h':Heap},(∃o,s.heap.get? a=some o/\H a=none)->Hl a s.heap h'->eN X.prog X.w H h':=fun {a h'} ha hs b ob e=>by
   obtain ⟨_,_,hfree⟩:=ha
   refine (I.hok b ob e).stay (fun c w' hc q=>(hs.2 c ?_).trans q) (fun _ q=>q) fun _ _ q=>q
   rintro rfl
   rcases hc with rfl | hc
   · rw [hfree] at e; cases e
   · rw [hfree] at hc; cases hc
 rcases hx with hk | hk
 · refine wpAny_storeName_local hk hn (fun h' hn' hs=>?_) hcls
   obtain ⟨oL,_,_,FA,_⟩:=id hn
   refine h _ ⟨I.ok,I.os,I.bare,⟨fun b o e n hb hx=>?_,fun b o e n hb hx=>?_,I.base.free,fun b o e hx=>?_,I.base.tups,I.base.frzs,I.base.tbls⟩,⟨_,hn',fun j y v' e1 e2 e3=>?_⟩,fun y c e=>?_,I.free,I.freeC,fun p hp=>?_,tracked ⟨oL,FA,I.free⟩ hs,by simpa using I.len⟩ ⟨_,hs,.inl rfl⟩
   · exact (hs.2 b (Gw (Gk (Ga e) I.ok.above))).trans (I.base.keep b o e n hb hx)
   · obtain ⟨sl,e1⟩:=I.base.slot b o e n hb hx
     exact ⟨sl,(hs.2 b (Gw (Gk (Ga e) I.ok.above))).trans e1⟩
   · obtain ⟨o',e1⟩:=I.base.there b o e hx
     exact ⟨o',(hs.2 b (Gw (Gk (Ga e) I.ok.above))).trans e1⟩
   · by_cases hj:j=i
     · subst hj
       rw [hi] at e1; cases e1
       rw [HA hiσ] at e2
       cases e2
       exact ⟨u,r,.inl ⟨hk,by simp⟩⟩
     · rw [Iz (Ne.symm hj)] at e2
       obtain ⟨u',r',q⟩:=hl j y v' e1 e2 e3
       refine ⟨u',r',?_⟩
       rcases q with ⟨k,e⟩ | ⟨k,c,e,z⟩
       · refine .inl ⟨k,?_⟩
         have:y≠x:=fun e=>hj (mG hN e1 (e ▸ hi))
         simp [this,e]
       · exact .inr ⟨k,c,e,z.sameBut hs (cne y c e)⟩
   · obtain ⟨w',z⟩:=I.cell y c e
     exact ⟨w',z.sameBut hs (cne y c e)⟩
   · obtain ⟨e,n,ne,nf,d⟩:=I.pin p hp
     exact ⟨(hs.2 p.1 ne).trans e,n,ne,nf,d⟩
 · have hfn:X.fn x=true:=by
     rcases hf with z | z
     · exact z
     · rw [z] at hk; cases hk
   obtain ⟨c,hc⟩:=I.ok.has x (.inl hk)
   obtain ⟨w',z⟩:=I.cell x c hc
   refine wpAny_storeName_cell I.ok.kind hk hc z (fun h' hc' hs=>?_)
   obtain ⟨oc,hoc,Ec⟩:=id z
   refine h { s with heap:=h' } ⟨I.ok,I.os,I.bare,⟨fun b o e n hb hx=>?_,fun b o e n hb hx=>?_,I.base.free,fun b o e hx=>?_,I.base.tups,I.base.frzs,I.base.tbls⟩,⟨m,hn.sameBut hs (Ne.symm (cne x c hc)),fun j y v' e1 e2 e3=>?_⟩,fun y c' e=>?_,I.free,I.freeC,fun p hp=>?_,tracked ⟨oc,hoc,I.freeC x c hc⟩ hs,by simpa using I.len⟩ ⟨c,hs,.inr hc⟩
   · exact (hs.2 b (Gw (Gk (Ga e) (I.ok.cab x c hfn hc)))).trans (I.base.keep b o e n hb hx)
   · obtain ⟨sl,e1⟩:=I.base.slot b o e n hb hx
     exact ⟨sl,(hs.2 b (Gw (Gk (Ga e) (I.ok.cab x c hfn hc)))).trans e1⟩
   · obtain ⟨o',e1⟩:=I.base.there b o e hx
     exact ⟨o',(hs.2 b (Gw (Gk (Ga e) (I.ok.cab x c hfn hc)))).trans e1⟩
   · by_cases hj:j=i
     · subst hj
       rw [hi] at e1; cases e1
       rw [HA hiσ] at e2
       cases e2
       exact ⟨u,r,.inr ⟨.inl hk,c,hc,hc'⟩⟩
     · rw [Iz (Ne.symm hj)] at e2
       obtain ⟨u',r',q⟩:=hl j y v' e1 e2 e3
       refine ⟨u',r',?_⟩
       rcases q with q | ⟨k,c',e,z'⟩
       · exact .inl q
       · refine .inr ⟨k,c',e,z'.sameBut hs ?_⟩
         rintro rfl
         exact hj (mG hN e1 (I.ok.inj _ _ _ e hc ▸ hi))
   · by_cases EO:c'=c
     · subst EO; exact ⟨_,hc'⟩
     · obtain ⟨w2,z2⟩:=I.cell y c' e
       exact ⟨w2,z2.sameBut hs EO⟩
   · obtain ⟨e,n,ne,nf,d⟩:=I.pin p hp
     refine ⟨(hs.2 p.1 ?_).trans e,n,ne,nf,d⟩
     intro q
     rw [q,hoc] at e
     have q':oc=p.2:=Gm e
     exact d w' (by rw [← q']; exact Ec)
theorem jk {M:Model}{A:Around}{E:Value->Shared->Prop}{i:Nat}{x:Str}{v:V}{u:Value}{Q:Unit->Shared->Prop}(I:Inv X pins σ H s)(hN:X.N.Nodup)(hi:X.N[i]? = some x)(hx:Loc X.env.scope x)(r:RelV v u)
   (h:∀s',Inv X pins (σ.set i (some v)) H s'->Q () s') (hf:X.fn x=true\/X.env.scope.names.lookup x=some .local:=by first | exact .inl rfl | exact .inr rfl | assumption):wpAny M A (storeName X.env x u) Q E s:=
 kq I hN hi hx r (fun s' I' _=>h s' I') hf
/-- behind a call or a block,the state as it is -/
theorem Inv.call' {s':Shared}{ch:List Addr}(I:Inv X pins σ H s)(ho:s'.os=s.os)(u:Un (cm X.stack) ch H H' s.heap s'.heap)(hok:eN X.prog X.w H' s'.heap)(hg:AllBare s'.gens)
   (hch:∀b∈ch,(b∈X.ex\/X.s₀.heap.objs.size<=b)/\b≠X.env.locals/\(∀x c,X.env.cells.lookup x=some c->c≠b)/\∀p∈X.pn++pins,p.1≠b):Inv X pins σ H' s':=by
 obtain ⟨h',g',d',t',o'⟩:=s'
 have e:o'=s.os:=ho
 subst e
 exact I.call (g':=g') (t':=t') (d':=d') u hok hg hch
end

/-! ### the zA -/
/-- an exception: its class,its own dict's address (where it has one),the abstract heap behind it -/
abbrev XK:=Value->Option Addr->Hp->Prop
abbrev St:=List (Option V)
abbrev VK:=V->Hp->Prop
/-- an vS reading; a Er; an argument zG -/
abbrev TE:=St->Hp->VK->Prop
abbrev TT:=St->Hp->(Bool->Hp->Prop)->Prop
abbrev TA:=St->Hp->(List V->Hp->Prop)->Prop
/-- what is wanted behind a Bm -/
structure Ends where
 nx:St->Hp->Prop
 rt:VK
 bk:St->Hp->Prop:=fun _ _=>False
 ct:St->Hp->Prop:=fun _ _=>False
abbrev TS:=Ends->St->Hp->Prop

def EP (X:Cx)(pins:List (Addr×Obj))(σ:St)(Q:VK)(u:Value)(s':Shared):Prop:=∃v H',Inv X pins σ H' s'/\RelV v u/\Q v H'
def TP (X:Cx)(pins:List (Addr×Obj))(σ:St)(Q:Bool->Hp->Prop)(b:Bool)(s':Shared):Prop:=∃H',Inv X pins σ H' s'/\Q b H'
def AP (X:Cx)(pins:List (Addr×Obj))(σ:St)(Q:List V->Hp->Prop)(us:List Value)(s':Shared):Prop:=∃vs H',Inv X pins σ H' s'/\Vals vs us/\Q vs H'
def SP (X:Cx)(pins:List (Addr×Obj))(D:Ends)(f:Flow)(s':Shared):Prop:=
 match f with
 | .next=>∃σ' H',Inv X pins σ' H' s'/\D.nx σ' H'
 | .brk=>∃σ' H',Inv X pins σ' H' s'/\D.bk σ' H'
 | .cont=>∃σ' H',Inv X pins σ' H' s'/\D.ct σ' H'
 | .ret u=>∃v σ' H',Inv X pins σ' H' s'/\RelV v u/\D.rt v H'

def PE (X:Cx)(e:Expr)(t:TE):Prop:=
 ∀(pins:List (Addr×Obj)) (s:Shared) (σ:St) (H:Hp) (Q:VK),Inv X pins σ H s->t σ H Q->wpAny (model X.prog X.w) X.A (eval e X.env) (EP X pins σ Q) X.xe s
def PT (X:Cx)(e:Expr)(t:TT):Prop:=
 ∀(pins:List (Addr×Obj)) (s:Shared) (σ:St) (H:Hp) (Q:Bool->Hp->Prop),Inv X pins σ H s->t σ H Q->wpAny (model X.prog X.w) X.A (isTrue e X.env (eval e X.env)) (TP X pins σ Q) X.xe s
/-- a test whatever its 'Ew is (and,or) -/
def PW (X:Cx)(e:Expr)(t:TT):Prop:=
 ∀(whole:Sem Value) (pins:List (Addr×Obj)) (s:Shared) (σ:St) (H:Hp) (Q:Bool->Hp->Prop),Inv X pins σ H s->t σ H Q->wpAny (model X.prog X.w) X.A (isTrue e X.env whole) (TP X pins σ Q) X.xe s
theorem PW.pt {X:Cx}{e:Expr}{t:TT}(h:PW X e t):PT X e t:=h _
/-- an argument list (no star),from the left -/
def PA (X:Cx)(es:List Expr)(t:TA):Prop:=
 ∀(pos:Pos) (pins:List (Addr×Obj)) (s:Shared) (σ:St) (H:Hp) (Q:List V->Hp->Prop),Inv X pins σ H s->t σ H Q->wpAny (model X.prog X.w) X.A (spliced (backTo pos (starEach es X.env))) (AP X pins σ Q) X.xe s
def PS (X:Cx)(st:Stmt)(t:TS):Prop:=
 ∀(pins:List (Addr×Obj)) (s:Shared) (σ:St) (H:Hp) (D:Ends),Inv X pins σ H s->t D σ H->wpAny (model X.prog X.w) X.A (exec st X.env) (SP X pins D) X.xe s
def jI (X:Cx)(st:List Stmt)(t:TS):Prop:=
 ∀(pins:List (Addr×Obj)) (s:Shared) (σ:St) (H:Hp) (D:Ends),Inv X pins σ H s->t D σ H->wpAny (model X.prog X.w) X.A (execs st X.env) (SP X pins D) X.xe s
/-- weaken the end -/
theorem aV {α:Type}{t:Sem α}{Q Q':α->Shared->Prop}{M:Model}{A:Around}{E:Value->Shared->Prop}{s:Shared}(h:wpAny M A t Q E s)(hQ:∀a s,Q a s->Q' a s):wpAny M A t Q' E s:=wpAny_mono h hQ fun _ _ x=>x
end L2

namespace L2
open PySem PySem.Spec PyProof.Rows
section
variable {X:Cx}

/-! ### names and constants -/
def C8 (i:Nat):TE:=fun σ H Q=>∃v,σ[i]? = some (some v)/\Q v H
def tC (v:V):TE:=fun _ H Q=>Q v H
theorem Au {i:Nat}{x:Str}{pos:Pos}(hN:X.N[i]? = some x)(hv:Di X.env.scope x)(hd:(x == ("__debug__":Str))=false:=by decide)(hcd:(x == ("__classdict__":Str))=false:=by decide):PE X (.Name x pos) (C8 i):=by
 intro pins s σ H Q I h
 obtain ⟨v,e,h⟩:=h
 obtain ⟨m,hn,hl⟩:=I.loc
 obtain ⟨u,r,l⟩:=hl i x v hN e hv
 have fin:EP X pins σ Q u s:=⟨v,H,I,r,h⟩
 rcases l with ⟨hk,hm⟩ | ⟨hk,c,hc,hcell⟩
 · exact wpAny_Name (wpAny_loadName_local I.ok.kind hk hn hm fin) hd
 · rcases hk with hk | hk
   · exact wpAny_Name (wpAny_loadName_cell I.ok.kind hk hc hcell fin) hd
   · exact wpAny_Name (wpAny_loadName_free I.ok.kind hk hc hcell fin hcd) hd
theorem Al {i j pos}:PE X (.Constant (.int i) j pos) (tC (.int i)):=fun _ _ _ H _ I h=>wpAny_Constant_int ⟨.int i,H,I.tok _,⟨_,rfl⟩,h⟩
theorem Cr {b j pos}:PE X (.Constant (.bool b) j pos) (tC (.bl b)):=fun _ _ _ H _ I h=>Constant_bool ⟨.bl b,H,I,rfl,h⟩
theorem Aq {j pos}:PE X (.Constant .none j pos) (tC .bq):=fun _ _ _ H _ I h=>Constant_none ⟨.bq,H,I,rfl,h⟩
theorem uy {x j pos}:PE X (.Constant (.str x) j pos) (tC (.str x)):=fun _ _ _ H _ I h=>Calls.Constant_str ⟨.str x,H,I.tok _,⟨_,rfl⟩,h⟩

/-- a global name of the def -/
def Gl (X:Cx)(x:Str):Prop:=X.env.kindOf x=some .globalImplicit
theorem fO {E:Value->Shared->Prop}{pins:List (Addr×Obj)}{s:Shared}{σ:St}{H:Hp}{x:Str}{u:Value}{pos:Pos}{Q:Value->Shared->Prop}(I:Inv X pins σ H s)(hg:Gl X x)(hm:X.mg x=some u)(h:Q u s)
   (hd:(x == ("__debug__":Str))=false:=by decide):wpAny (model X.prog X.w) X.A (eval (.Name x pos) X.env) Q E s:=
 JR I.ok.kind hg (Calls.loadGlobal_global (by rw [I.ok.glob]; exact I.mod.glob.keeps I.bk) hm h) hd
theorem gC {E:Value->Shared->Prop}{pins:List (Addr×Obj)}{s:Shared}{σ:St}{H:Hp}{x:Str}{u:Value}{pos:Pos}{Q:Value->Shared->Prop}(I:Inv X pins σ H s)(hg:Gl X x)(hm:X.mg x=none)(hv:bootBuiltins x=some u)(h:Q u s)
   (hn:x≠"__name__":=by decide) (hd:(x == ("__debug__":Str))=false:=by decide):wpAny (model X.prog X.w) X.A (eval (.Name x pos) X.env) Q E s:=by
 obtain ⟨mb,h1,h2⟩:=I.mod.blt
 exact JR I.ok.kind hg (Calls.loadGlobal_builtin (by rw [I.ok.glob]; exact I.mod.glob.keeps I.bk) hm (by rw [I.ok.blt]; exact h1.keeps I.bk) ((h2 x hn).trans hv) h) hd
/-- a i5 constant,a class,a function,as a value -/
theorem xq {x:Str}{v:V}{u:Value}{pos:Pos}(hg:Gl X x)(hm:X.mg x=some u)(r:RelV v u)(hd:(x == ("__debug__":Str))=false:=by decide):PE X (.Name x pos) (tC v):=
 fun _ _ _ H _ I h=>fO I hg hm ⟨v,H,I,r,h⟩ hd
theorem xj {x:Str}{v:V}{u:Value}{pos:Pos}(hg:Gl X x)(hm:X.mg x=none)(hv:bootBuiltins x=some u)(r:RelV v u)(hn:x≠"__name__":=by decide)(hd:(x == ("__debug__":Str))=false:=by decide):PE X (.Name x pos) (tC v):=
 fun _ _ _ H _ I h=>gC I hg hm hv ⟨v,H,I,r,h⟩ hn hd

/-! ### yV -/
variable {a b:Expr}{ta tb:TE}{pos:Pos}
/-! ### comparisons -/
/-- a ng as a value,as a test -/
def tB (t:TE):TT:=fun σ H Q=>t σ H fun x H1=>∃c,x=.bl c/\Q c H1
/-- an expression whose value is a bool,as a test -/
theorem AI {e:Expr}{t:TE}(h:PE X e t)(he:∀whole,isTrue e X.env whole=(do let v ← whole; standAt e.pos; holding [v] (truthy v)):=by intro _; rfl):PT X e (tB t):=by
 intro pins s σ H Q I hw
 refine isTrue_plain (aV (h pins s σ H _ I hw) fun v s1 ⟨x,H1,I1,r1,q1⟩=>?_) (he _)
 obtain ⟨d,rfl,q⟩:=q1
 cases r1
 exact wpAny_truthy_bool ⟨H1,I1,q⟩

/-! ### and,or,not -/
variable {tA Dt:TT}{rest:List Expr}
def C1 (t u:TT):TT:=fun σ H Q=>t σ H fun c H1=>if c=true then u σ H1 Q else Q false H1
def Fe (t u:TT):TT:=fun σ H Q=>t σ H fun c H1=>if c=true then Q true H1 else u σ H1 Q
def C6 (t:TT):TT:=fun σ H Q=>t σ H fun c H1=>Q (!c) H1
theorem xH (ha:PT X a tA):PW X (.BoolOp .And [a] pos) tA:=by
 intro wh pins s σ H Q I h
 refine isTrue_and (aV (ha pins s σ H Q I h) fun c s1 e=>?_)
 cases c with
 | true=>exact isTrue_and_nil e
 | false=>exact e
theorem AK (ha:PT X a tA):PW X (.BoolOp .Or [a] pos) tA:=by
 intro wh pins s σ H Q I h
 refine isTrue_or (aV (ha pins s σ H Q I h) fun c s1 e=>?_)
 cases c with
 | false=>exact isTrue_or_nil e
 | true=>exact e
theorem AJ (ha:PT X a tA)(hb:PW X (.BoolOp .And (b :: rest) pos) Dt):PW X (.BoolOp .And (a :: b :: rest) pos) (C1 tA Dt):=by
 intro wh pins s σ H Q I h
 refine isTrue_and (aV (ha pins s σ H _ I h) fun c s1 ⟨H1,I1,q1⟩=>?_)
 cases c with
 | true=>exact hb wh pins s1 σ H1 Q I1 q1
 | false=>exact ⟨H1,I1,q1⟩
theorem CD (ha:PT X a tA)(hb:PW X (.BoolOp .Or (b :: rest) pos) Dt):PW X (.BoolOp .Or (a :: b :: rest) pos) (Fe tA Dt):=by
 intro wh pins s σ H Q I h
 refine isTrue_or (aV (ha pins s σ H _ I h) fun c s1 ⟨H1,I1,q1⟩=>?_)
 cases c with
 | true=>exact ⟨H1,I1,q1⟩
 | false=>exact hb wh pins s1 σ H1 Q I1 q1
theorem AH (ha:PT X a tA):PT X (.UnaryOp .Not a pos) (C6 tA):=by
 intro pins s σ H Q I h
 exact isTrue_not (ha pins s σ H (fun c H1=>Q (!c) H1) I h)
def yI (ta:TE):TE:=fun σ H Q=>ta σ H fun x H1=>∃c,x=.bl c/\Q (.bl (!c)) H1
theorem Ar (ha:PE X a ta):PE X (.UnaryOp .Not a pos) (yI ta):=by
 intro pins s σ H Q I h
 refine UnaryOp_ (aV (ha pins s σ H _ I h) fun v s1 ⟨x,H1,I1,r1,q1⟩=>?_)
 obtain ⟨c,rfl,q1⟩:=q1
 cases r1
 exact not_of (wpAny_truthy_bool ⟨.bl (!c),H1,I1,rfl,q1⟩)
/-- a if t else b -/
def Fb (t:TT)(ta tb:TE):TE:=fun σ H Q=>t σ H fun c H1=>if c=true then ta σ H1 Q else tb σ H1 Q
theorem uw {c:Expr}(hc:PT X c tA)(ha:PE X a ta)(hb:PE X b tb):PE X (.IfExp c a b pos) (Fb tA ta tb):=by
 intro pins s σ H Q I h
 refine wpAny_IfExp (aV (hc pins s σ H _ I h) fun d s1 ⟨H1,I1,q1⟩=>?_)
 cases d with
 | true=>exact ha pins s1 σ H1 Q I1 q1
 | false=>exact hb pins s1 σ H1 Q I1 q1
end
end L2

namespace L2
open PySem PySem.Spec PyProof.Rows

/-! ### a list,a tuple that is read: tracked,frozen,or an object of the module -/
def aw (K:FX)(H:Hp)(a:Addr)(xs:List V):Prop:=
 Rd H a (.lst xs) \/
   ∃(o:Obj) (its:Array Value) (n:Nat),K.lookup a=some o/\o.cls=.type "list"/\o.dict=none/\o.data=.seq its n/\its.size<=sizeLine/\Vals xs its.toList
def bc (K:FX)(H:Hp)(a:Addr)(xs:List V):Prop:=
 Rd H a (.tup xs) \/
   ∃(o:Obj) (its:Array Value) (n:Nat),K.lookup a=some o/\o.cls=.type "tuple"/\o.data=.seq its n/\its.size<=sizeLine/\Vals xs its.toList
def DI:Value->Option V
 | .none=>some .bq
 | .bool b=>some (.bl b)
 | .int i _=>some (.int i)
 | .str x _=>some (.str x)
 | .bytes b _=>some (.byt b)
 | .float b _=>some (.flt b)
 | .ref a=>some (.ref a)
 | .type n=>some (.ty n)
 | _=>none
theorem RelV.abs {x:V}{u:Value}(r:RelV x u):DI u=some x:=by
 cases x with
 | bq=>cases r; rfl
 | bl _=>cases r; rfl
 | int _=>obtain ⟨t,rfl⟩:=r; rfl
 | str _=>obtain ⟨t,rfl⟩:=r; rfl
 | byt _=>obtain ⟨t,rfl⟩:=r; rfl
 | flt _=>obtain ⟨t,rfl⟩:=r; rfl
 | ref _=>cases r; rfl
 | ty _=>cases r; rfl
theorem RelV.inj {x y:V}{u:Value}(r:RelV x u)(q:RelV y u):x=y:=Gm (r.abs.symm.trans q.abs)
theorem Vals.inj:∀{xs ys:List V} {us:List Value},Vals xs us->Vals ys us->xs=ys
 | _,_,_,.nil,.nil=>rfl
 | _,_,_,.cons r t,.cons r' t'=>by rw [r.inj r',Vals.inj t t']
section
variable {X:Cx}{pins:List (Addr×Obj)}{σ:St}{H:Hp}{s:Shared}{a:Addr}{xs ys:List V}
theorem aw.of {K:FX}(h:H a=some (.lst xs)):aw K H a xs:=.inl (.inl h)
theorem bc.of {K:FX}(h:H a=some (.tup xs)):bc K H a xs:=.inl (.inl h)
theorem Inv.list (I:Inv X pins σ H s)(h:aw X.K H a xs):∃its:List Value,Vals xs its/\PlainL s.heap a its.toArray/\xs.length<=sizeLine:=by
 rcases h with h | ⟨o,its,n,hk,hc,hd,hs,hz,r⟩
 · obtain ⟨z,its,n,r,e⟩:=h.ok I.hok
   exact ⟨its,r,⟨_,n,e,rfl,rfl,rfl⟩,z⟩
 · refine ⟨its.toList,r,⟨o,n,I.kIn a o hk,hc,hd,by simpa using hs⟩,?_⟩
   have e:=r.length
   simp only [Kw] at e
   omega
theorem Inv.tuple (I:Inv X pins σ H s)(h:bc X.K H a xs):∃its:List Value,Vals xs its/\IsTup s.heap a its.toArray/\xs.length<=sizeLine:=by
 rcases h with h | ⟨o,its,n,hk,hc,hs,hz,r⟩
 · obtain ⟨z,its,r,p⟩:=h.ok I.hok
   exact ⟨its,r,p,z⟩
 · refine ⟨its.toList,r,⟨o,I.kIn a o hk,hc,n,by simpa using hs⟩,?_⟩
   have e:=r.length
   simp only [Kw] at e
   omega
theorem Inv.list_inj (I:Inv X pins σ H s)(h:aw X.K H a xs)(h':aw X.K H a ys):xs=ys:=by
 obtain ⟨its,r,⟨o,n,e,_,_,d⟩,_⟩:=I.list h
 obtain ⟨its',r',⟨o',n',e',_,_,d'⟩,_⟩:=I.list h'
 rw [e] at e'; cases e'
 rw [d] at d'
 injection d' with d1 _
 have:its=its':=by simpa using congrArg Array.toList d1
 subst this
 exact r.inj r'
theorem Inv.tuple_inj (I:Inv X pins σ H s)(h:bc X.K H a xs)(h':bc X.K H a ys):xs=ys:=by
 obtain ⟨its,r,⟨o,e,_,n,d⟩,_⟩:=I.tuple h
 obtain ⟨its',r',⟨o',e',_,n',d'⟩,_⟩:=I.tuple h'
 rw [e] at e'; cases e'
 rw [d] at d'
 injection d' with d1 _
 have:its=its':=by simpa using congrArg Array.toList d1
 subst this
 exact r.inj r'
end

/-! ### another ib about exceptions -/
abbrev Cx.ib (X:Cx)(E:Value->Shared->Prop):Cx:={ X with xe:=E }
/-- no exception leaves -/
abbrev Cx.nox (X:Cx):Cx:=X.ib fun _ _=>False
theorem Cx.Ok.ib {X:Cx}(ok:X.Ok)(E:Value->Shared->Prop):(X.ib E).Ok:=
 ⟨ok.mod,ok.kind,ok.glob,ok.blt,ok.above,ok.inj,ok.has,ok.cab,ok.hd,ok.frames,ok.stk,ok.exf,ok.bs,ok.bsz,ok.noex,ok.exfs,ok.funs,ok.frf⟩
theorem Cx.Ok.eF {X:Cx}{E:Value->Shared->Prop}(ok:(X.ib E).Ok):X.Ok:=
 ⟨ok.mod,ok.kind,ok.glob,ok.blt,ok.above,ok.inj,ok.has,ok.cab,ok.hd,ok.frames,ok.stk,ok.exf,ok.bs,ok.bsz,ok.noex,ok.exfs,ok.funs,ok.frf⟩
section
variable {X:Cx}{pins:List (Addr×Obj)}{σ:St}{H:Hp}{s:Shared}{E:Value->Shared->Prop}
theorem Inv.ib (I:Inv X pins σ H s)(E:Value->Shared->Prop):Inv (X.ib E) pins σ H s:=⟨I.ok.ib E,I.os,I.bare,I.base,I.loc,I.cell,I.free,I.freeC,I.pin,I.hok,I.len⟩
theorem Inv.eF (I:Inv (X.ib E) pins σ H s):Inv X pins σ H s:=⟨I.ok.eF,I.os,I.bare,I.base,I.loc,I.cell,I.free,I.freeC,I.pin,I.hok,I.len⟩
theorem SP.eF {D:Ends}{f:Flow}{s':Shared}(h:SP (X.ib E) pins D f s'):SP X pins D f s':=by
 cases f with
 | next=>obtain ⟨σ',H',I,q⟩:=h; exact ⟨σ',H',I.eF,q⟩
 | brk=>obtain ⟨σ',H',I,q⟩:=h; exact ⟨σ',H',I.eF,q⟩
 | cont=>obtain ⟨σ',H',I,q⟩:=h; exact ⟨σ',H',I.eF,q⟩
 | ret u=>obtain ⟨v,σ',H',I,r,q⟩:=h; exact ⟨v,σ',H',I.eF,r,q⟩
theorem jI.nox {st:List Stmt}{t:TS}(h:jI X.nox st t):jI X st t:=fun pins s σ H D I hw=>
 wpAny_mono (h pins s σ H D (I.ib _) hw) (fun _ _ q=>q.eF) fun _ _ z=>HJ z
end

/-! ### blocks and small statements -/
section
variable {X:Cx}{st:Stmt}{rest:List Stmt}{t u:TS}{e:Expr}{te:TE}{pos:Pos}
def yH:TS:=fun D σ H=>D.nx σ H
def gK (t u:TS):TS:=fun D σ H=>t { D with nx:=u D } σ H
theorem xD:jI X [] yH:=fun _ _ σ H _ I h=>wpAny_execs_nil ⟨σ,H,I,h⟩
theorem uH (h1:PS X st t)(h2:jI X rest u):jI X (st :: rest) (gK t u):=by
 intro pins s σ H D I h
 refine wpAny_execs_cons (aV (h1 pins s σ H { D with nx:=u D } I h) fun f s1 q=>?_)
 cases f with
 | next=>
   obtain ⟨σ',H',I',q⟩:=q
   exact h2 pins s1 σ' H' D I' q
 | ret v=>exact q
 | brk=>exact q
 | cont=>exact q
theorem xE (h1:PS X st t):jI X [st] t:=by
 intro pins s σ H D I h
 refine wpAny_execs_cons (aV (h1 pins s σ H D I h) fun f s1 q=>?_)
 cases f with
 | next=>exact wpAny_execs_nil q
 | ret v=>exact q
 | brk=>exact q
 | cont=>exact q
/-- in a def's body nothing is shown -/
theorem Inv.quiet {pins:List (Addr×Obj)}{σ:St}{H:Hp}{s:Shared}(I:Inv X pins σ H s):interactive X.env=false:=by simp [interactive,I.ok.kind]
/-- an expression whose value is dropped -/
def yF (te:TE):TS:=fun D σ H=>te σ H fun _ H1=>D.nx σ H1
theorem xB (he:PE X e te)(hs:swapsWith e none pos.line X.env=pure false:=by rfl):PS X (.Expr e pos) (yF te):=by
 intro pins s σ H D I h
 exact wpAny_Expr_any (aV (he pins s σ H _ I h) fun v s1 ⟨x,H1,I1,r1,q1⟩=>⟨σ,H1,I1,q1⟩) I.quiet hs
def C7 (te:TE):TS:=fun D σ H=>te σ H D.rt
theorem AF (he:PE X e te):PS X (.Return (some e) pos) (C7 te):=by
 intro pins s σ H D I h
 exact wpAny_Return_some (aV (he pins s σ H _ I h) fun v s1 ⟨x,H1,I1,r1,q1⟩=>⟨x,σ,H1,I1,r1,q1⟩)
def A2 (c:TT)(t u:TS):TS:=fun D σ H=>c σ H fun b H1=>if b=true then t D σ H1 else u D σ H1
theorem CB {c:Expr}{a b:List Stmt}{tc:TT}(hc:PT X c tc)(ha:jI X a t)(hb:jI X b u):PS X (.If c a b pos) (A2 tc t u):=by
 intro pins s σ H D I h
 refine wpAny_If (aV (hc pins s σ H _ I h) fun d s1 ⟨H1,I1,q1⟩=>?_)
 cases d with
 | true=>exact ha pins s1 σ H1 D I1 q1
 | false=>exact hb pins s1 σ H1 D I1 q1
/-- code that the proof never comes to -/
def vg:TS:=fun _ _ _=>False
theorem rp {FL:List Stmt}:jI X FL vg:=fun _ _ _ _ _ _ h=>h.elim
end

/-! ### targets -/
abbrev TG:=V->St->Hp->(St->Hp->Prop)->Prop
abbrev TGs:=List V->St->Hp->(St->Hp->Prop)->Prop
def PG (X:Cx)(target:Expr)(t:TG):Prop:=
 ∀(pins:List (Addr×Obj)) (s:Shared) (σ:St) (H:Hp) (v:V) (u:Value) (Q:St->Hp->Prop),Inv X pins σ H s->RelV v u->t v σ H Q ->
   wpAny (model X.prog X.w) X.A (assign target X.env u) (fun _ s'=>∃σ' H',Inv X pins σ' H' s'/\Q σ' H') X.xe s
/-- Dr targets,one after another -/
def Bb (X:Cx)(ts:List Expr)(t:TGs):Prop:=
 ∀(pins:List (Addr×Obj)) (s:Shared) (σ:St) (H:Hp) (vs:List V) (us:List Value) (Q:St->Hp->Prop),Inv X pins σ H s->Vals vs us->t vs σ H Q ->
   wpAny (model X.prog X.w) X.A (assignInOrder ((assignEach ts X.env).map (·.2)) us) (fun _ s'=>∃σ' H',Inv X pins σ' H' s'/\Q σ' H') X.xe s
/-- o[i]=v,by values -/
abbrev yR:=V->V->V->Hp->(Hp->Prop)->Prop
def Bv (X:Cx)(t:yR):Prop:=
 ∀(pins:List (Addr×Obj)) (s:Shared) (σ:St) (H:Hp) (o i v:V) (ov iv u:Value) (Q:Hp->Prop),Inv X pins σ H s->RelV o ov->RelV i iv->RelV v u->t o i v H Q ->
   wpAny (model X.prog X.w) X.A (setItem ov iv u) (fun _ s'=>∃H',Inv X pins σ H' s'/\Q H') X.xe s
section
variable {X:Cx}{pos:Pos}
def fJ (i:Nat):TG:=fun v σ H Q=>Q (σ.set i (some v)) H
theorem xt {i:Nat}{x:Str}(hN:X.N.Nodup)(hi:X.N[i]? = some x)(hx:Loc X.env.scope x)(hf:X.fn x=true\/X.env.scope.names.lookup x=some .local:=by first | exact .inl rfl | exact .inr rfl | assumption):PG X (.Name x pos) (fJ i):=by
 intro pins s σ H v u Q I r h
 exact wpAny_assign_Name (jk I hN hi hx r (fun s' I'=>⟨_,H,I',h⟩) hf)
def BV:TGs:=fun vs σ H Q=>vs=[]/\Q σ H
def yh (t:TG)(u:TGs):TGs:=fun vs σ H Q=>∃v r,vs=v :: r/\t v σ H fun σ' H'=>u r σ' H' Q
theorem xu:Bb X [] BV:=by
 intro pins s σ H vs us Q I r h
 obtain ⟨e,h⟩:=h
 subst e
 cases r
 exact assignInOrder_nil ⟨σ,H,I,h⟩
theorem uz {e:Expr}{es:List Expr}{t:TG}{u:TGs}(h1:PG X e t)(h2:Bb X es u)
   (hs:(assignEach (e :: es) X.env).map (·.2)=assign e X.env :: (assignEach es X.env).map (·.2):=by rfl):Bb X (e :: es) (yh t u):=by
 intro pins s σ H vs us Q I r h
 obtain ⟨v,vr,e1,h⟩:=h
 subst e1
 cases r with
 | cons r rr=>
   rw [hs]
   refine assignInOrder_cons (aV (h1 pins s σ H _ _ _ I r h) fun _ s1 ⟨σ1,H1,I1,q1⟩=>?_)
   exact h2 pins s1 σ1 H1 _ _ Q I1 rr q1
/-- (a,b,..)=a tuple of that length -/
def BW (K:FX)(n:Nat)(t:TGs):TG:=fun v σ H Q=>∃a xs,v=.ref a/\bc K H a xs/\xs.length=n/\t xs σ H Q
theorem Az {es:List Expr}{k:Nat}{t:TGs}{n:Nat}(hc:X.calm=true)(h:Bb X es t)
   (hn:(assignEach es X.env).length=n:=by rfl) (hst:(assignEach es X.env).findIdx? (·.1)=none:=by rfl):PG X (.Tuple es k pos) (BW X.K n t):=by
 intro pins s σ H v u Q I r hw
 obtain ⟨a,xs,e1,hq,hl,hw⟩:=hw
 subst e1
 cases r
 obtain ⟨its,rv,ht,hz⟩:=I.tuple hq
 refine assign_Tuple_tuple (I.ok.hd hc) ht (by simp [hn,← hl,rv.length]) hst fun h' hx=>?_
 have I1:Inv X pins σ H { s with heap:=h' }:=I.kept (t':=s.toks) fun b o e=>hx b o (Gw (Ga e)) e
 exact h pins _ σ H xs _ Q I1 (by simpa using rv) hw
/-- o[i]=.. -/
def sE (to ti:TE)(t:yR):TG:=fun v σ H Q=>to σ H fun o H1=>ti σ H1 fun i H2=>t o i v H2 fun H3=>Q σ H3
theorem lz {o i:Expr}{to ti:TE}{t:yR}(ho:PE X o to)(hi:PE X i ti)(hs:Bv X t)
   (ha:∀v,assign (.Subscript o i pos) X.env v=(do
     let ov ← holding [v] (eval o X.env)
     let iv ← holding [v,ov] (eval i X.env)
     standAt pos
     holding [v,ov,iv] (setItem ov iv v)
     release [v,ov,iv] []):=by intro _; rfl):PG X (.Subscript o i pos) (sE to ti t):=by
 intro pins s σ H v u Q I r h
 rw [ha]
 refine wpAny_bind (wpAny_holding (aV (ho pins s σ H _ I h) fun ov s1 ⟨x,H1,I1,r1,q1⟩=>?_))
 refine wpAny_bind (wpAny_holding (aV (hi pins s1 σ H1 _ I1 q1) fun iv s2 ⟨y,H2,I2,r2,q2⟩=>?_))
 refine wpAny_bind (wpAny_standAt (wpAny_bind (wpAny_holding (aV (hs pins s2 σ H2 x y v ov iv u _ I2 r1 r2 r q2) fun _ s3 ⟨H3,I3,q3⟩=>?_))))
 exact wpAny_release ⟨σ,H3,I3,q3⟩
/-- target=value -/
def oB (te:TE)(g:TG):TS:=fun D σ H=>te σ H fun x H1=>g x σ H1 D.nx
theorem AB {tg e:Expr}{te:TE}{g:TG}(he:PE X e te)(hg:PG X tg g)(hs:swapsWithSole [tg] e pos.line X.env=pure false:=by rfl)(hw:swappedStores [tg] e X.env=pure none:=by rfl)
   (h1:(assignEach [tg] X.env).map (·.2)=[assign tg X.env]:=by rfl):PS X (.Assign [tg] e pos) (oB te g):=by
 intro pins s σ H D I h
 refine wpAny_Assign_stores (aV (he pins s σ H _ I h) fun v s1 ⟨x,H1,I1,r1,q1⟩=>?_) hs hw
 rw [h1]
 exact aV (hg pins s1 σ H1 x v _ I1 r1 q1) fun _ s2 q=>q
/-- name=value -/
theorem AG {i:Nat}{x:Str}{e:Expr}{te:TE}{pos':Pos}(hN:X.N.Nodup)(hi:X.N[i]? = some x)(hx:Loc X.env.scope x)(he:PE X e te)(hs:swapsWith e (some (.Name x pos')) pos.line X.env=pure false:=by rfl)(hf:X.fn x=true\/X.env.scope.names.lookup x=some .local:=by first | exact .inl rfl | exact .inr rfl | assumption) :
   PS X (.Assign [.Name x pos'] e pos) (oB te (fJ i)):=by
 intro pins s σ H D I h
 refine wpAny_Assign_Name (aV (he pins s σ H _ I h) fun v s1 ⟨y,H1,I1,r1,q1⟩=>?_) hs
 exact jk I1 hN hi hx r1 (fun s2 I2=>⟨_,H1,I2,q1⟩) hf
end

/-! ### while -/
section
variable {X:Cx}{pos:Pos}
/-- the invariant W with its measure -/
def vj (c:TT)(tb:TS):TS:=fun D σ H=>∃W:Nat->St->Hp->Prop,(∃m,W m σ H)/\∀m σ H,W m σ H ->
 c σ H fun b H1=>if b=true then ∃N:St->Hp->Prop,(∀σ' H',N σ' H'->∃m',m' < m/\W m' σ' H')/\tb { D with nx:=N,ct:=N,bk:=D.nx } σ H1 else D.nx σ H1
theorem uG {c:Expr}{body:List Stmt}{tc:TT}{tb:TS}(hp:PassesOwn (model X.prog X.w) X.A X.env X.xe)(hc:PT X c tc)(hb:jI X body tb):PS X (.While c body [] pos) (vj tc tb):=by
 intro pins s σ H D I h
 obtain ⟨W,⟨m0,w0⟩,turn⟩:=h
 refine wpAny_While (codeAny_whileLoop (fun n s'=>∃σ' H',Inv X pins σ' H' s'/\W n σ' H') ?_ m0 ⟨σ,H,I,w0⟩)
 rintro n s1 ⟨σ1,H1,I1,w1⟩
 refine HW hp (aV (hc pins s1 σ1 H1 _ I1 (turn n σ1 H1 w1)) fun b s2 ⟨H2,I2,q2⟩=>?_)
 cases b with
 | true=>
   obtain ⟨N,hN,q2⟩:=q2
   rw [if_pos rfl]
   refine HW hp (aV (hb pins s2 σ1 H2 _ I2 q2) fun f s3 q3=>?_)
   cases f with
   | next=>
     obtain ⟨σ3,H3,I3,n3⟩:=q3
     obtain ⟨m',hm,w3⟩:=hN σ3 H3 n3
     exact ⟨m',hm,σ3,H3,I3,w3⟩
   | cont=>
     obtain ⟨σ3,H3,I3,n3⟩:=q3
     obtain ⟨m',hm,w3⟩:=hN σ3 H3 n3
     exact ⟨m',hm,σ3,H3,I3,w3⟩
   | brk=>exact q3
   | ret v=>exact q3
 | false=>
   rw [if_neg Gf]
   exact wpAny_execs_nil ⟨σ1,H2,I2,q2⟩
end

/-! ### what a loop or a comprehension walks -/
/-- at turn i: it yields x (the heap may grow),or it E9 -/
structure It where
 go:Nat->Hp->Prop
 yld:Nat->Hp->V->Hp->Prop
 stop:Nat->Hp->Prop
/-- the nP own objects may turn: they are not the oU,not pinned,Dv FN the entry (or a comprehension's own) -/
def cU (X:Cx)(pins:List (Addr×Obj))(H:Hp)(b:Addr):Prop:=
 H b=none/\b≠X.env.locals/\b ∉ X.fs/\(b∈X.ex\/X.s₀.heap.objs.size<=b)/\(∀x c,X.env.cells.lookup x=some c->c≠b)/\∀p∈X.pn++pins,p.1≠b
theorem Inv.fpOk {X:Cx}{pins:List (Addr×Obj)}{σ:St}{H H':Hp}{s:Shared}{b:Addr}(I:Inv X pins σ H s)(hb:s.heap.objs.size<=b)(hn:H' b=none):cU X pins H' b:=by
 refine ⟨hn,Jn (Gk I.lt hb),I.El hb,.inr (F2 I.sz hb),fun x c e z=>?_,fun p hp z=>?_⟩
 · obtain ⟨v,q⟩:=I.cell x c e
   exact absurd (Gk q.lt (by rw [z]; exact hb)) (He _)
 · exact absurd (Gk (Ga (I.pin p hp).1) (by rw [z]; exact hb)) (He _)
structure Turn (P:Program)(w:World)(K:FX)(tg:Expr)(J:It)(fp:List Addr)(it:Addr)(tn:Nat->Heap->Prop):Prop where
 mem:it∈fp
 obj:∀i h,tn i h->∀b∈fp,∃o,h.get? b=some o/\∀v,o.data≠.cell v
 keep:∀i h h',tn i h->(∀b∈fp,∀o,h.get? b=some o->h'.get? b=some o)->tn i h'
 item:∀(X:Cx),X.prog=P->X.w=w->X.K=K->X.calm=true->∀(i:Nat) (pins:List (Addr×Obj)) (s:Shared) (σ:St) (H:Hp) (E:Value->Shared->Prop),Inv X pins σ H s->(∀b∈fp,cU X pins H b)->tn i s.heap->J.go i H ->
   wpAny (model P w) X.A (pyNext (.ref it)) (fun r s1=>∃u,r=some u /\
     wpAny (model P w) X.A (letOwnedTupleGo tg (.ref it) u) (fun _ s2=>∃x H',Inv X pins σ H' s2/\RelV x u/\J.yld i H x H'/\tn (i + 1) s2.heap/\∀b∈fp,H' b=none) E s1) E s
 done:∀(X:Cx),X.prog=P->X.w=w->X.K=K->X.calm=true->∀(i:Nat) (pins:List (Addr×Obj)) (s:Shared) (σ:St) (H:Hp) (E:Value->Shared->Prop),Inv X pins σ H s->(∀b∈fp,cU X pins H b)->tn i s.heap->J.stop i H ->
   wpAny (model P w) X.A (pyNext (.ref it)) (fun r s1=>r=none/\Inv X pins σ H s1) E s
 self:∀(A:Around) (i:Nat) (s:Shared) (Q:Value->Shared->Prop) (E:Value->Shared->Prop),tn i s.heap->Q (.ref it) s->wpAny (model P w) A (pyIter (.ref it)) Q E s
abbrev TI:=St->Hp->(It->Hp->Prop)->Prop
/-- an iterator has Ft -/
def EH (X:Cx)(pins:List (Addr×Obj))(σ:St)(tg:Expr)(R:It->Hp->Prop)(itv:Value)(s2:Shared):Prop:=
 ∃(it:Addr) (fp:List Addr) (tn:Nat->Heap->Prop) (J:It) (H':Hp),itv=.ref it/\Inv X pins σ H' s2/\Turn X.prog X.w X.K tg J fp it tn/\tn 0 s2.heap/\(∀b∈fp,cU X pins H' b)/\R J H'
def PI (X:Cx)(tg iter:Expr)(wi:TI):Prop:=
 ∀(pins:List (Addr×Obj)) (s:Shared) (σ:St) (H:Hp) (R:It->Hp->Prop),Inv X pins σ H s->wi σ H R ->
   wpAny (model X.prog X.w) X.A (eval iter X.env) (fun v s1=>wpAny (model X.prog X.w) X.A (pyIter v) (EH X pins σ tg R) X.xe s1) X.xe s

/-- the step ahead of the store is nothing for an iterator that keeps no tuple -/
theorem yi {M:Model}{A:Around}{E:Value->Shared->Prop}{s:Shared}{tg:Expr}{it:Addr}{u:Value}{o:Obj}{n:String}{vs:Array Value}{Q:Unit->Shared->Prop}(ho:s.heap.get? it=some o)(hc:o.cls=.type n)(hd:o.data=.fields vs)
   (hn:["enumerate","zip","dict_itemiterator","dict_reverseitemiterator","odict_iterator","itertools.zip_longest","itertools.pairwise"].contains n=false) (hQ:Q () s):wpAny M A (letOwnedTupleGo tg (.ref it) u) Q E s:=by
 unfold letOwnedTupleGo
 cases tg <;> first
   | exact wpAny_pure hQ
   | (cases u <;> first
       | exact wpAny_pure hQ
       | (refine wpAny_bind (wpAny_load ho ?_)
          rw [hc,hd]
          show wpAny M A (if (["enumerate","zip","dict_itemiterator","dict_reverseitemiterator","odict_iterator","itertools.zip_longest","itertools.pairwise"].contains n && vs[0]? == some (rawInt _))=true then _ else _) Q E s
          rw [if_neg (by intro h; rw [hn,J6] at h; cases h)]
          exact wpAny_pure hQ))

/-- the list at a,as it stands at each turn (a loop may append to it) -/
def Ba (K:FX)(a:Addr):It:=
 ⟨fun i H=>∃xs x,aw K H a xs/\xs[i]? = some x,fun i H x H'=>H'=H/\∀xs,aw K H a xs->xs[i]? = some x,fun i H=>∃xs,aw K H a xs/\xs.length<=i⟩
/-- lo,lo + 1,.. (n of them) -/
def yN (lo:Int)(n:Nat):It:=⟨fun i _=>i < n,fun i H x H'=>H'=H/\x=.int (lo + i),fun i _=>n<=i⟩
theorem rL {P:Program}{w:World}{K:FX}{tg:Expr}(a it:Addr):Turn P w K tg (Ba K a) [it] it (fun i h=>h.IsListIter it a i) where
 mem:=by simp
 obj:=fun i h st b hb=>by
   have e:b=it:=by simpa using hb
   subst e
   obtain ⟨o,e,c,d⟩:=st
   exact ⟨o,e,fun v z=>by rw [d] at z; cases z⟩
 keep:=fun i h h' st k=>st.at fun o e=>k it (by simp) o e
 item:=by
   intro X hP hw hK hc i pins s σ H E I hf st hg
   subst hP hw hK
   obtain ⟨xs,x,hq,hx⟩:=hg
   obtain ⟨its,rv,p,hz⟩:=I.list hq
   obtain ⟨u,hu,ru⟩:=rv.get hx
   obtain ⟨f0,f1,f2,f3,f4,f5⟩:=hf it (by simp)
   refine wpAny_pyNext_list_item st p.isList (x:=u) (by simpa using hu) fun h' CZ sb=>?_
   have I1:Inv X pins σ H { s with heap:=h' }:=I.turned (t':=s.toks) (fun b o hb e=>(sb.2 b hb).trans e) f0 f1 f3 f4 f5
   obtain ⟨o,e,c,d⟩:=id CZ
   exact ⟨u,rfl,yi (s:={ s with heap:=h' }) e c d (by decide) ⟨x,H,I1,ru,⟨rfl,fun ys hy=>by rw [I.list_inj hy hq]; exact hx⟩,CZ,fun b hb=>(hf b hb).1⟩⟩
 done:=by
   intro X hP hw hK hc i pins s σ H E I hf st hg
   subst hP hw hK
   obtain ⟨xs,hq,hx⟩:=hg
   obtain ⟨its,rv,p,hz⟩:=I.list hq
   obtain ⟨f0,f1,f2,f3,f4,f5⟩:=hf it (by simp)
   have hl:=rv.length
   exact wpAny_pyNext_list_end (I.ok.hd hc) st p.isList (by simp; omega) fun h' eb=>⟨rfl,I.turned (t':=s.toks) (fun b o hb e=>eb b o hb e) f0 f1 f3 f4 f5⟩
 self:=fun _ _ _ _ _ st h=>wpAny_pyIter_listiter st h
theorem oG {P:Program}{w:World}{K:FX}{tg:Expr}(it:Addr)(lo:Int)(n:Nat):Turn P w K tg (yN lo n) [it] it (fun i h=>IsRangeIter h it (lo + (i:Nat) * 1) ((n:Int) - (i:Nat)) 1) where
 mem:=by simp
 obj:=fun i h st b hb=>by
   have e:b=it:=by simpa using hb
   subst e
   exact ⟨_,st,fun v z=>by
     have z':Data.fields _=Data.cell v:=z
     cases z'⟩
 keep:=fun i h h' st k=>k it (by simp) _ st
 item:=by
   intro X hP hw hK hc i pins s σ H E I hf st hg
   subst hP hw hK
   obtain ⟨f0,f1,f2,f3,f4,f5⟩:=hf it (by simp)
   have W:=Walks.range (prog:=X.prog) (w:=X.w) (I.ok.hd hc) it lo 1 n
   refine W.item i s _ _ hg st fun v h' tk hv CZ kk=>?_
   obtain ⟨t,rfl⟩:=hv
   have I1:Inv X pins σ H { s with heap:=h',toks:=tk }:=I.turned (fun b o hb e=>kk b o (by simpa using hb) e) f0 f1 f3 f4 f5
   refine ⟨_,rfl,yi (s:={ s with heap:=h',toks:=tk }) (n:="range_iterator") CZ rfl rfl (by decide) ⟨.int (lo + i),H,I1,⟨t,?_⟩,⟨rfl,rfl⟩,CZ,fun b hb=>(hf b hb).1⟩⟩
   rw [Int.mul_one]
 done:=by
   intro X hP hw hK hc i pins s σ H E I hf st hg
   subst hP hw hK
   obtain ⟨f0,f1,f2,f3,f4,f5⟩:=hf it (by simp)
   exact wpAny_pyNext_range_end (I.ok.hd hc) st (by have:n<=i:=hg; omega) fun h' eb=>⟨rfl,I.turned (t':=s.toks) (fun b o hb e=>eb b o hb e) f0 f1 f3 f4 f5⟩
 self:=fun _ _ _ _ _ st h=>wpAny_pyIter_rangeiter st h
end L2

namespace L2
open PySem PySem.Spec PyProof.Rows
section
variable {X:Cx}{tg:Expr}
def yn (K:FX)(tl:TE):TI:=fun σ H R=>tl σ H fun x H1=>∃a,x=.ref a/\(∃xs,aw K H1 a xs)/\R (Ba K a) H1
theorem xw {l:Expr}{tl:TE}(hl:PE X l tl):PI X tg l (yn X.K tl):=by
 intro pins s σ H R I h
 refine aV (hl pins s σ H _ I h) fun v s1 ⟨x,H1,I1,r1,q1⟩=>?_
 obtain ⟨a,e,⟨xs,hq⟩,q⟩:=q1
 subst e
 cases r1
 obtain ⟨its,rv,p,hz⟩:=I1.list hq
 refine wpAny_pyIter_list p.isList ?_
 refine ⟨s1.heap.objs.size,[s1.heap.objs.size],_,_,H1,rfl,I1.kept (t':=s1.toks) fun b o e=>F6 _ e,rL a _,⟨_,Gn _ rfl,rfl,rfl⟩,fun b hb=>?_,q⟩
 have e:b=s1.heap.objs.size:=by simpa using hb
 subst e
 exact I1.fpOk (F8 _) (I1.hok.fresh (F8 _))
/-- a range object just made,walked -/
theorem uL {pins:List (Addr×Obj)}{σ:St}{H:Hp}{s:Shared}{R:It->Hp->Prop}{E:Value->Shared->Prop}{lo hi:Int}{t u v:Tok}{tk:Nat}(I:Inv X pins σ H s)(h1 : -(2 ^ 62)<=lo)(h2:lo < 2 ^ 62)(h3 : -(2 ^ 62)<=hi)(h4:hi < 2 ^ 62)
   (q:R (yN lo (hi - lo).toNat) H):wpAny (model X.prog X.w) X.A (pyIter (.ref s.heap.objs.size)) (EH X pins σ tg R) E { s with heap:=s.heap.push { cls:=.type "range",data:=.fields #[.int lo t,.int hi u,.int 1 v] },toks:=tk }:=by
 refine wpAny_pyIter_range (IsRange.new ..) (small_one h1 h2 h3 h4) ?_
 have I1:Inv X pins σ H { s with heap:=s.heap.push { cls:=.type "range",data:=.fields #[.int lo t,.int hi u,.int 1 v] },toks:=tk }:=I.kept fun b o e=>F6 _ e
 refine ⟨(s.heap.push { cls:=.type "range",data:=.fields #[.int lo t,.int hi u,.int 1 v] }).objs.size,[(s.heap.push { cls:=.type "range",data:=.fields #[.int lo t,.int hi u,.int 1 v] }).objs.size],_,_,H,rfl,
   I1.kept (t':=tk) fun b o e=>F6 _ e,oG _ lo (hi - lo).toNat,?_,fun b hb=>?_,q⟩
 · have e1:lo + ((0:Nat):Int) * 1=lo:=by simp
   have e2:(((hi - lo).toNat:Nat):Int) - ((0:Nat):Int)=Builtin.Range.rangeSize lo hi 1:=by rw [rangeSize_one]; split <;> omega
   show IsRangeIter _ _ (lo + ((0:Nat):Int) * 1) ((((hi - lo).toNat:Nat):Int) - ((0:Nat):Int)) 1
   rw [e1,e2]
   exact Gn _ rfl
 · have e:b=(s.heap.push { cls:=.type "range",data:=.fields #[.int lo t,.int hi u,.int 1 v] }).objs.size:=by simpa using hb
   subst e
   exact I1.fpOk (F8 _) (I1.hok.fresh (F8 _))
def sV (ta:TA):TI:=fun σ H R=>ta σ H fun vs H1=>∃j:Int,vs=[.int j] /\ -(2 ^ 62)<=j/\j < 2 ^ 62/\R (yN 0 j.toNat) H1
theorem rh {a:Expr}{ta:TA}{p pos:Pos}(hg:Gl X "range")(hm:X.mg "range"=none)(ha:PA X [a] ta)(hs:starEach [a] X.env=[(false,eval a X.env)]:=by rfl):PI X tg (.Call (.Name "range" p) [a] [] pos) (sV ta):=by
 intro pins s σ H R I h
 refine Call_ (gC I hg hm boot_range (HM (aV (ha pos pins s σ H _ I h) fun us s1 ⟨vs,H1,I1,r1,q1⟩=>?_) hs rfl))
 obtain ⟨j,e,q1,q2,q⟩:=q1
 subst e
 cases r1 with
 | cons r rr=>
   cases rr
   obtain ⟨t,rfl⟩:=r
   exact call_range_1 (uL I1 (by omega) (by omega) q1 q2 (by simpa using q))
/-! ### for -/
/-- W: the invariant by the turn and a measure; N: what the body is to reach -/
def C3 (wi:TI)(g:TG)(tb:TS):TS:=fun D σ H=>wi σ H fun J H1=>∃W:Nat->Nat->St->Hp->Prop,(∃m,W 0 m σ H1)/\∀i m σ H,W i m σ H ->
 (J.stop i H/\D.nx σ H)\/(J.go i H/\∃N:St->Hp->Prop,(∀σ' H',N σ' H'->∃m',m' < m/\W (i + 1) m' σ' H')/\∀x H',J.yld i H x H'->g x σ H' fun σ2 H2=>tb { D with nx:=N,ct:=N,bk:=D.nx } σ2 H2)
/-- the records at fp as they stand -/
def jd (fp:List Addr)(h:Heap):List (Addr×Obj):=fp.filterMap fun b=>(h.get? b).map fun o=>(b,o)
theorem dA {fp:List Addr}{h:Heap}{b:Addr}{o:Obj}(hb:b∈fp)(e:h.get? b=some o):(b,o)∈jd fp h:=List.mem_filterMap.mpr ⟨b,hb,by rw [e]; rfl⟩
theorem qS {fp:List Addr}{h:Heap}{p:Addr×Obj}(hp:p∈jd fp h):p.1∈fp/\h.get? p.1=some p.2:=by
 obtain ⟨b,hb,e⟩:=List.mem_filterMap.mp hp
 cases q:h.get? b with
 | none=>rw [q] at e; cases e
 | some o=>
   rw [q] at e
   have e':(b,o)=p:=Gm e
   subst e'
   exact ⟨hb,q⟩
theorem Inv.pinned {pins:List (Addr×Obj)}{σ:St}{H:Hp}{s:Shared}{fp:List Addr}(I:Inv X pins σ H s)(hf:∀b∈fp,cU X pins H b)(ho:∀b∈fp,∃o,s.heap.get? b=some o/\∀v,o.data≠.cell v):Inv X (pins++jd fp s.heap) σ H s:=
 I.pins_of fun p hp=>(List.mem_append.mp hp).elim (fun z=>I.pin p (Gj _ z)) fun z=>by
   obtain ⟨hb,e⟩:=qS z
   obtain ⟨f0,f1,f2,_⟩:=hf p.1 hb
   obtain ⟨o,e',d⟩:=ho p.1 hb
   rw [e] at e'; cases e'
   exact ⟨e,f0,f1,f2,d⟩
theorem Inv.unpinned {pins pl:List (Addr×Obj)}{σ:St}{H:Hp}{s:Shared}(I:Inv X (pins++pl) σ H s):Inv X pins σ H s:=I.pins_of fun p hp=>I.pin p (Gj _ (GY _ hp))
theorem AE {iter:Expr}{body:List Stmt}{wi:TI}{g:TG}{tb:TS}{pos:Pos}(hp:PassesOwn (model X.prog X.w) X.A X.env X.xe)(hc:X.calm=true)(hi:PI X tg iter wi)(hg:PG X tg g)(hb:jI X body tb)
   (hs:∀x,foldedSetIterable iter X.env x=pure x:=by intro _; rfl):PS X (.For tg iter body [] pos) (C3 wi g tb):=by
 intro pins s σ H D I h
 refine wpAny_For (aV (hi pins s σ H _ I h) fun v s1 h1=>aV h1 fun itv s2 h2=>?_) hs
 obtain ⟨it,fp,tn,J,H2,e,I2,T,st2,f2,W,⟨m0,w0⟩,turn⟩:=h2
 subst e
 -- what stays true of the nP objects through the loop
 have stat:∀{H':Hp},(∀b∈fp,H' b=none)->∀b∈fp,cU X pins H' b:=fun hn b hb=>⟨hn b hb,(f2 b hb).2⟩
 refine codeAny_forLoop_any (fun n s'=>∃i σ' H',Inv X pins σ' H' s'/\tn i s'.heap/\(∀b∈fp,H' b=none)/\W i n σ' H') ?_ m0 ⟨0,σ,H2,I2,st2,fun b hb=>(f2 b hb).1,w0⟩
 rintro n s3 ⟨i,σ3,H3,I3,st3,fr3,w3⟩
 rcases turn i n σ3 H3 w3 with ⟨stop,qn⟩ | ⟨go,N,hN,step⟩
 · refine HW hp (aV (T.done X rfl rfl rfl hc i pins s3 σ3 H3 X.xe I3 (stat fr3) st3 stop) fun r s4 ⟨hr,I4⟩=>?_)
   subst hr
   exact wpAny_execs_nil ⟨σ3,H3,I4,qn⟩
 · refine HW hp (aV (T.item X rfl rfl rfl hc i pins s3 σ3 H3 X.xe I3 (stat fr3) st3 go) fun r s4 ⟨u,hr,h4⟩=>?_)
   subst hr
   refine HW hp (aV h4 fun _ s5 ⟨x,H5,I5,r5,y5,st5,fr5⟩=>?_)
   have I5':=I5.pinned (stat fr5) (T.obj _ _ st5)
   refine HW hp (aV (hg _ s5 σ3 H5 x u _ I5' r5 (step x H5 y5)) fun _ s6 ⟨σ6,H6,I6,q6⟩=>?_)
   refine HW hp (aV (hb _ s6 σ6 H6 _ I6 q6) fun f s7 q7=>?_)
   have again:∀{σ7:St} {H7:Hp},Inv X (pins++jd fp s5.heap) σ7 H7 s7->N σ7 H7->∃m,m < n/\∃i σ' H',Inv X pins σ' H' s7/\tn i s7.heap/\(∀b∈fp,H' b=none)/\W i m σ' H':=fun {σ7 H7} I7 n7=>by
     obtain ⟨m',hm,w7⟩:=hN σ7 H7 n7
     refine ⟨m',hm,i + 1,σ7,H7,I7.unpinned,T.keep _ _ _ st5 fun b hb o e=>(I7.pin (b,o) (Gj _ (Gj _ (dA hb e)))).1,fun b hb=>?_,w7⟩
     obtain ⟨o,e,d⟩:=T.obj _ _ st5 b hb
     exact (I7.pin (b,o) (Gj _ (Gj _ (dA hb e)))).2.1
   cases f with
   | next=>obtain ⟨σ7,H7,I7,n7⟩:=q7; exact again I7 n7
   | cont=>obtain ⟨σ7,H7,I7,n7⟩:=q7; exact again I7 n7
   | brk=>obtain ⟨σ7,H7,I7,q7⟩:=q7; exact ⟨σ7,H7,I7.unpinned,q7⟩
   | ret v=>obtain ⟨x7,σ7,H7,I7,r7,q7⟩:=q7; exact ⟨x7,σ7,H7,I7.unpinned,r7,q7⟩
end

/-! ### the forms one uses -/
/-- over a list that the body leaves as it is -/
theorem sk {K:FX}{a:Addr}{xs:List V}{g:TG}{tb:TS}{D:Ends}{σ:St}{H:Hp}(Pv:Nat->St->Hp->Prop)(h0:Pv 0 σ H)(hl:∀i σ H,i<=xs.length->Pv i σ H->aw K H a xs)
   (hs:∀i x σ H,xs[i]? = some x->Pv i σ H->g x σ H fun σ2 H2=>tb { D with nx:=Pv (i + 1),ct:=Pv (i + 1),bk:=D.nx } σ2 H2) (hd:∀σ H,Pv xs.length σ H->D.nx σ H) :
   ∃W:Nat->Nat->St->Hp->Prop,(∃m,W 0 m σ H)/\∀i m σ H,W i m σ H ->
     ((Ba K a).stop i H/\D.nx σ H)\/((Ba K a).go i H/\∃N:St->Hp->Prop,(∀σ' H',N σ' H'->∃m',m' < m/\W (i + 1) m' σ' H')/\∀x H',(Ba K a).yld i H x H'->g x σ H' fun σ2 H2=>tb { D with nx:=N,ct:=N,bk:=D.nx } σ2 H2):=by
 refine ⟨fun i m σ H=>m=xs.length - i/\i<=xs.length/\Pv i σ H,⟨xs.length,by simp,Gs _,h0⟩,?_⟩
 rintro i m σ H ⟨rfl,hi,p⟩
 have q:=hl i σ H hi p
 by_cases hlt:i < xs.length
 · refine .inr ⟨⟨xs,xs[i],q,by simp [hlt]⟩,Pv (i + 1),fun σ' H' p'=>⟨xs.length - (i + 1),by omega,rfl,hlt,p'⟩,fun x H' y=>?_⟩
   obtain ⟨e,y⟩:=y
   subst e
   exact hs i x σ _ (y xs q) p
 · have e:i=xs.length:=by omega
   subst e
   exact .inl ⟨⟨xs,q,F8 _⟩,hd σ H p⟩
theorem eJ {lo:Int}{n:Nat}{g:TG}{tb:TS}{D:Ends}{σ:St}{H:Hp}(Pv:Nat->St->Hp->Prop)(h0:Pv 0 σ H)
   (hs:∀i σ H,i < n->Pv i σ H->g (.int (lo + i)) σ H fun σ2 H2=>tb { D with nx:=Pv (i + 1),ct:=Pv (i + 1),bk:=D.nx } σ2 H2) (hd:∀σ H,Pv n σ H->D.nx σ H) :
   ∃W:Nat->Nat->St->Hp->Prop,(∃m,W 0 m σ H)/\∀i m σ H,W i m σ H ->
     ((yN lo n).stop i H/\D.nx σ H)\/((yN lo n).go i H/\∃N:St->Hp->Prop,(∀σ' H',N σ' H'->∃m',m' < m/\W (i + 1) m' σ' H')/\∀x H',(yN lo n).yld i H x H'->g x σ H' fun σ2 H2=>tb { D with nx:=N,ct:=N,bk:=D.nx } σ2 H2):=by
 refine ⟨fun i m σ H=>m=n - i/\i<=n/\Pv i σ H,⟨n,by simp,Gs _,h0⟩,?_⟩
 rintro i m σ H ⟨rfl,hi,p⟩
 by_cases hlt:i < n
 · refine .inr ⟨hlt,Pv (i + 1),fun σ' H' p'=>⟨n - (i + 1),by omega,rfl,hlt,p'⟩,fun x H' y=>?_⟩
   obtain ⟨e,y⟩:=y
   subst e y
   exact hs i σ _ hlt p
 · have e:i=n:=by omega
   subst e
   exact .inl ⟨F8 _,hd σ H p⟩
end L2

namespace L2
open PySem PySem.Spec PyProof.Rows

abbrev R2:=V->V->Hp->VK->Prop
/-- a two-place operation on values: f is binaryOp op,inplaceOp op or compareOp op -/
def eO (X:Cx)(f:Value->Value->Sem Value)(r:R2):Prop:=
 ∀(pins:List (Addr×Obj)) (s:Shared) (σ:St) (H:Hp) (x y:V) (v u:Value) (Q:VK),Inv X pins σ H s->RelV x v->RelV y u->r x y H Q ->
   wpAny (model X.prog X.w) X.A (f v u) (EP X pins σ Q) X.xe s
/-- a one-place operation -/
def DF (X:Cx)(f:Value->Sem Value)(r:V->Hp->VK->Prop):Prop:=
 ∀(pins:List (Addr×Obj)) (s:Shared) (σ:St) (H:Hp) (x:V) (v:Value) (Q:VK),Inv X pins σ H s->RelV x v->r x H Q ->
   wpAny (model X.prog X.w) X.A (f v) (EP X pins σ Q) X.xe s
/-- a call of a value that is known (a builtin,a type) with values -/
def bY (X:Cx)(f:Value)(r:List V->Hp->VK->Prop):Prop:=
 ∀(pins:List (Addr×Obj)) (s:Shared) (σ:St) (H:Hp) (xs:List V) (us:List Value) (Q:VK),Inv X pins σ H s->Vals xs us->r xs H Q ->
   wpAny (model X.prog X.w) X.A (call f us) (EP X pins σ Q) X.xe s
def yJ (r:R2)(ta tb:TE):TE:=fun σ H Q=>ta σ H fun x H1=>tb σ H1 fun y H2=>r x y H2 Q
def Ff (r:V->Hp->VK->Prop)(ta:TE):TE:=fun σ H Q=>ta σ H fun x H1=>r x H1 Q
/-- ints in,under C,and a value out -/
def rI (C:Int->Int->Prop)(g:Int->Int->V):R2:=fun x y H Q=>∃i j,x=.int i/\y=.int j/\C i j/\Q (g i j) H
def rQ (g:Int->Int->V):R2:=fun x y H Q=>∃i j,x=.int i/\y=.int j/\Q (g i j) H
def rU (g:Int->V):V->Hp->VK->Prop:=fun x H Q=>∃i,x=.int i/\Q (g i) H

section
variable {X:Cx}{a b c:Expr}{ta tb tc:TE}{pos:Pos}

theorem yY (ha:PE X a ta)(hb:PE X b tb){pins:List (Addr×Obj)}{s:Shared}{σ:St}{H:Hp}{R:V->V->Hp->Prop}(I:Inv X pins σ H s)
   (h:ta σ H fun x H1=>tb σ H1 fun y H2=>R x y H2) {Q:Value->Shared->Prop} {f:Value->Value->Sem Value}
   (hf:∀v u s2 x y H2,Inv X pins σ H2 s2->RelV x v->RelV y u->R x y H2->wpAny (model X.prog X.w) X.A (f v u) Q X.xe s2) :
   wpAny (model X.prog X.w) X.A (eval a X.env) (fun v s₁=>wpAny (model X.prog X.w) X.A (eval b X.env) (fun u s₂=>wpAny (model X.prog X.w) X.A (f v u) Q X.xe s₂) X.xe s₁) X.xe s:=by
 refine aV (ha pins s σ H _ I h) fun v s1 ⟨x,H1,I1,r1,q1⟩=>?_
 refine aV (hb pins s1 σ H1 _ I1 q1) fun u s2 ⟨y,H2,I2,r2,q2⟩=>?_
 exact hf v u s2 x y H2 I2 r1 r2 q2

theorem Cw {op:Operator}{r:R2}(ho:eO X (binaryOp op) r)(ha:PE X a ta)(hb:PE X b tb):PE X (.BinOp a op b pos) (yJ r ta tb):=by
 intro pins s σ H Q I h
 exact wpAny_BinOp (yY ha hb I h fun v u s2 x y H2 I2 rx ry q=>ho pins s2 σ H2 x y v u Q I2 rx ry q)
theorem Cy {op:UnaryOp}{r:V->Hp->VK->Prop}(ho:DF X (unaryOp op) r)(ha:PE X a ta):PE X (.UnaryOp op a pos) (Ff r ta):=by
 intro pins s σ H Q I h
 exact UnaryOp_ (aV (ha pins s σ H _ I h) fun v s1 ⟨x,H1,I1,r1,q1⟩=>ho pins s1 σ H1 x v Q I1 r1 q1)
/-! ### ints -/
theorem Cg {f:Value->Value->Sem Value}{C:Int->Int->Prop}{g:Int->Int->Int}
   (rule:∀(i j:Int) (t u:Tok) (s:Shared) (Q:Value->Shared->Prop) (E:Value->Shared->Prop),C i j->Q (.int (g i j) s.toks) { s with toks:=s.toks + 1 }->wpAny (model X.prog X.w) X.A (f (.int i t) (.int j u)) Q E s) :
   eO X f (rI C fun i j=>.int (g i j)):=by
 intro pins s σ H x y v u Q I rx ry h
 obtain ⟨i,j,rfl,rfl,hc,q⟩:=h
 obtain ⟨t,rfl⟩:=rx
 obtain ⟨t',rfl⟩:=ry
 exact rule i j t t' s _ _ hc ⟨.int (g i j),H,I.tok _,⟨_,rfl⟩,q⟩
theorem Ci {f:Value->Value->Sem Value}{g:Int->Int->Int}
   (rule:∀(i j:Int) (t u:Tok) (s:Shared) (Q:Value->Shared->Prop) (E:Value->Shared->Prop),Q (.int (g i j) s.toks) { s with toks:=s.toks + 1 }->wpAny (model X.prog X.w) X.A (f (.int i t) (.int j u)) Q E s) :
   eO X f (rQ fun i j=>.int (g i j)):=by
 intro pins s σ H x y v u Q I rx ry h
 obtain ⟨i,j,rfl,rfl,q⟩:=h
 obtain ⟨t,rfl⟩:=rx
 obtain ⟨t',rfl⟩:=ry
 exact rule i j t t' s _ _ ⟨.int (g i j),H,I.tok _,⟨_,rfl⟩,q⟩
theorem zW {f:Value->Value->Sem Value}{g:Int->Int->Bool}
   (rule:∀(i j:Int) (t u:Tok) (s:Shared) (Q:Value->Shared->Prop) (E:Value->Shared->Prop),Q (.bool (g i j)) s->wpAny (model X.prog X.w) X.A (f (.int i t) (.int j u)) Q E s) :
   eO X f (rQ fun i j=>.bl (g i j)):=by
 intro pins s σ H x y v u Q I rx ry h
 obtain ⟨i,j,rfl,rfl,q⟩:=h
 obtain ⟨t,rfl⟩:=rx
 obtain ⟨t',rfl⟩:=ry
 exact rule i j t t' s _ _ ⟨.bl (g i j),H,I,rfl,q⟩

def Bo (i j:Int):Prop:=0<=j/\j<=1000000/\i.natAbs < 2 ^ 64
def vC (i j:Int):Prop:=(-(2 ^ 64) < i/\i < 2 ^ 64)\/(-(2 ^ 64) < j/\j < 2 ^ 64)
theorem vC.ok {i j:Int}(h:vC i j):IntMulOk i j:=by
 rcases h with ⟨h1,h2⟩ | ⟨h1,h2⟩
 · exact .of_left (intBits_le_64 h1 h2)
 · exact .of_right (intBits_le_64 h1 h2)
theorem two_pow_nn (k:Nat):(0:Int)<=2 ^ k:=by
 rw [two_pow_cast]
 exact Int.natCast_nonneg _

theorem zX:eO X (binaryOp .Add) (rQ fun i j=>.int (i + j)):=Ci fun _ _ _ _ _ _ _ q=>add_int q
theorem Af:eO X (binaryOp .Sub) (rQ fun i j=>.int (i - j)):=Ci fun _ _ _ _ _ _ _ q=>sub_int q
theorem z9:eO X (binaryOp .Mult) (rI vC fun i j=>.int (i * j)):=Cg fun _ _ _ _ _ _ _ hc q=>mul_int q hc.ok
/-- % by a positive Dl of any size -/
theorem z7:eO X (binaryOp .Mod) (rI (fun _ j=>0 < j) fun i j=>.int (i % j)):=Cg fun i j _ _ _ _ _ hc q=>by
 have h1:(0:Int) < j:=hc
 exact mod_int' (by omega) (by rw [Int.fmod_eq_emod_of_nonneg i (by omega)]; exact q)
theorem Ad:eO X (binaryOp .Pow) (rI Bo fun i j=>.int (i ^ j.toNat)):=Cg fun _ _ _ _ _ _ _ hc q=>pow_int_small hc.1 hc.2.1 hc.2.2 q
theorem Ae:eO X (binaryOp .RShift) (rI (fun _ j=>0<=j) fun i j=>.int (i / 2 ^ j.toNat)):=Cg fun i j _ _ _ _ _ hc q=>
 rshift_int hc (by rw [J5 i (two_pow_nn _)]; exact q)
theorem FO {f:Value->Sem Value}{g:Int->Int}
   (rule:∀(i:Int) (t:Tok) (s:Shared) (Q:Value->Shared->Prop) (E:Value->Shared->Prop),Q (.int (g i) s.toks) { s with toks:=s.toks + 1 }->wpAny (model X.prog X.w) X.A (f (.int i t)) Q E s) :
   DF X f (rU fun i=>.int (g i)):=by
 intro pins s σ H x v Q I rx h
 obtain ⟨i,rfl,q⟩:=h
 obtain ⟨t,rfl⟩:=rx
 exact rule i t s _ _ ⟨.int (g i),H,I.tok _,⟨_,rfl⟩,q⟩
theorem A6:DF X (unaryOp .USub) (rU fun i=>.int (-i)):=FO fun _ _ _ _ _ q=>neg_int q
/-! ### bools among ints: n += (a < b) -/
end

/-! ### comparisons -/
/-- the Dq that == tells apart as data does -/
def CT:V->V->Bool
 | .bq,.bq=>true | .bq,.int _=>true | .int _,.bq=>true | .bq,.bl _=>true | .bl _,.bq=>true | .bq,.str _=>true | .str _,.bq=>true
 | .int _,.int _=>true | .bl _,.bl _=>true | .str _,.str _=>true | .byt _,.byt _=>true
 | .int _,.str _=>true | .str _,.int _=>true | .bl _,.str _=>true | .str _,.bl _=>true
 | _,_=>false
def E6:R2:=fun x y H Q=>CT x y=true/\Q (.bl (decide (x=y))) H
def E7:R2:=fun x y H Q=>CT x y=true/\Q (.bl (!decide (x=y))) H

theorem oO {i j:Int}:decide (V.int i=V.int j)=(i == j):=by
 rw [Ji]
 simp
theorem sd {i j:Bool}:decide (V.bl i=V.bl j)=(i == j):=by
 rw [Ji]
 simp
theorem oP {i j:Str}:decide (V.str i=V.str j)=(i == j):=by
 rw [Ji]
 simp
theorem oN {i j:Array UInt8}:decide (V.byt i=V.byt j)=(i.toList == j.toList):=by
 rw [Ji]
 cases i
 cases j
 simp

section
variable {X:Cx}{a b c:Expr}{ta tb tc:TE}{pos:Pos}
theorem aJ {pins:List (Addr×Obj)}{σ:St}{H:Hp}{s:Shared}{Q:VK}{k k':Bool}(I:Inv X pins σ H s)(q:Q (.bl k) H)(e:k=k'):EP X pins σ Q (.bool k') s:=by
 subst e
 exact ⟨.bl k,H,I,rfl,q⟩
theorem Cj:eO X (compareOp .Eq) E6:=by
 intro pins s σ H x y v u Q I rx ry h
 obtain ⟨hs,q⟩:=h
 cases x with
 | bq=>
   cases rx
   cases y with
   | bq=>cases ry; exact PySem.EqNone.eq_none_none (aJ I q (by simp))
   | bl j=>cases ry; exact PySem.EqNone.eq_none_bool (aJ I q (by simp))
   | int j=>obtain ⟨t',rfl⟩:=ry; exact PySem.EqNone.eq_none_int (aJ I q (by simp))
   | str j=>obtain ⟨t',rfl⟩:=ry; exact PySem.EqNone.eq_none_str (aJ I q (by simp))
   | _=>exact absurd (show false=true from hs) Gf
 | bl i=>
   cases rx
   cases y with
   | bq=>cases ry; exact PySem.EqNone.eq_bool_none (aJ I q (by simp))
   | bl j=>cases ry; exact eq_bool (aJ I q sd)
   | str j=>obtain ⟨t',rfl⟩:=ry; exact PySem.EqMixed.eq_bool_str (aJ I q (by simp))
   | _=>exact absurd (show false=true from hs) Gf
 | int i=>
   obtain ⟨t,rfl⟩:=rx
   cases y with
   | bq=>cases ry; exact PySem.EqNone.eq_int_none (aJ I q (by simp))
   | int j=>obtain ⟨t',rfl⟩:=ry; exact eq_int (aJ I q oO)
   | str j=>obtain ⟨t',rfl⟩:=ry; exact PySem.EqMixed.eq_int_str (aJ I q (by simp))
   | _=>exact absurd (show false=true from hs) Gf
 | str i=>
   obtain ⟨t,rfl⟩:=rx
   cases y with
   | bq=>cases ry; exact PySem.EqNone.eq_str_none (aJ I q (by simp))
   | bl j=>cases ry; exact PySem.EqMixed.eq_str_bool (aJ I q (by simp))
   | int j=>obtain ⟨t',rfl⟩:=ry; exact PySem.EqMixed.eq_str_int (aJ I q (by simp))
   | str j=>obtain ⟨t',rfl⟩:=ry; exact eq_str (aJ I q oP)
   | _=>exact absurd (show false=true from hs) Gf
 | byt i=>
   obtain ⟨t,rfl⟩:=rx
   cases y with
   | byt j=>obtain ⟨t',rfl⟩:=ry; exact PySem.W.eq_bytes (aJ I q oN)
   | _=>exact absurd (show false=true from hs) Gf
 | _=>cases y <;> exact absurd (show false=true from hs) Gf
theorem Co:eO X (compareOp .NotEq) E7:=by
 intro pins s σ H x y v u Q I rx ry h
 obtain ⟨hs,q⟩:=h
 cases x with
 | bq=>
   cases rx
   cases y with
   | bq=>cases ry; exact PySem.EqNone.ne_none_none (aJ I q (by simp))
   | bl j=>cases ry; exact PySem.EqNone.ne_none_bool (aJ I q (by simp))
   | int j=>obtain ⟨t',rfl⟩:=ry; exact PySem.EqNone.ne_none_int (aJ I q (by simp))
   | str j=>obtain ⟨t',rfl⟩:=ry; exact PySem.EqNone.ne_none_str (aJ I q (by simp))
   | _=>exact absurd (show false=true from hs) Gf
 | bl i=>
   cases rx
   cases y with
   | bq=>cases ry; exact PySem.EqNone.ne_bool_none (aJ I q (by simp))
   | bl j=>cases ry; exact ne_bool (aJ I q (congrArg not sd))
   | str j=>obtain ⟨t',rfl⟩:=ry; exact PySem.EqMixed.ne_bool_str (aJ I q (by simp))
   | _=>exact absurd (show false=true from hs) Gf
 | int i=>
   obtain ⟨t,rfl⟩:=rx
   cases y with
   | bq=>cases ry; exact PySem.EqNone.ne_int_none (aJ I q (by simp))
   | int j=>obtain ⟨t',rfl⟩:=ry; exact ne_int (aJ I q (congrArg not oO))
   | str j=>obtain ⟨t',rfl⟩:=ry; exact PySem.EqMixed.ne_int_str (aJ I q (by simp))
   | _=>exact absurd (show false=true from hs) Gf
 | str i=>
   obtain ⟨t,rfl⟩:=rx
   cases y with
   | bq=>cases ry; exact PySem.EqNone.ne_str_none (aJ I q (by simp))
   | bl j=>cases ry; exact PySem.EqMixed.ne_str_bool (aJ I q (by simp))
   | int j=>obtain ⟨t',rfl⟩:=ry; exact PySem.EqMixed.ne_str_int (aJ I q (by simp))
   | str j=>obtain ⟨t',rfl⟩:=ry; exact ne_str (aJ I q (congrArg not oP))
   | _=>exact absurd (show false=true from hs) Gf
 | byt i=>
   obtain ⟨t,rfl⟩:=rx
   cases y with
   | byt j=>obtain ⟨t',rfl⟩:=ry; exact PySem.W.ne_bytes (aJ I q (congrArg not oN))
   | _=>exact absurd (show false=true from hs) Gf
 | _=>cases y <;> exact absurd (show false=true from hs) Gf

theorem Cn:eO X (compareOp .Lt) (rQ fun i j=>.bl (decide (i < j))):=zW fun _ _ _ _ _ _ _ q=>lt_int q
theorem Cm:eO X (compareOp .Gt) (rQ fun i j=>.bl (decide (j < i))):=zW fun _ _ _ _ _ _ _ q=>gt_int q
theorem Ck:eO X (compareOp .GtE) (rQ fun i j=>.bl (decide (j<=i))):=zW fun _ _ _ _ _ _ _ q=>ge_int q
/-- is None,is not None: the right side a value none -/
theorem z5:eO X (compareOp .Is) (fun x y H Q=>y=.bq/\Q (.bl (decide (x=.bq))) H):=by
 intro pins s σ H x y v u Q I rx ry h
 obtain ⟨rfl,q⟩:=h
 cases ry
 refine is_none_gen (aJ I q ?_)
 cases x <;> first
   | (cases rx; rfl)
   | (obtain ⟨t,rfl⟩:=rx; rfl)
theorem xh:eO X (compareOp .IsNot) (fun x y H Q=>y=.bq/\Q (.bl (!decide (x=.bq))) H):=by
 intro pins s σ H x y v u Q I rx ry h
 obtain ⟨rfl,q⟩:=h
 cases ry
 refine isnot_none_gen (aJ I q ?_)
 cases x <;> first
   | (cases rx; rfl)
   | (obtain ⟨t,rfl⟩:=rx; rfl)

theorem n9 (b:Expr){op:CmpOp}(h:op≠.In:=by decide)(h2:op≠.NotIn:=by decide):behindInMarks op b=false:=by
 have e1:(op == CmpOp.In)=false:=by cases op <;> first | rfl | exact absurd rfl h
 have e2:(op == CmpOp.NotIn)=false:=by cases op <;> first | rfl | exact absurd rfl h2
 cases b <;> simp [behindInMarks,e1,e2]
/-- a ng as a value; hm: n9 b,or (for in,not in) by with_unfolding_all rfl -/
theorem xk {op:CmpOp}{r:R2}(ho:eO X (compareOp op) r)(ha:PE X a ta)(hb:PE X b tb)(hm:behindInMarks op b=false):PE X (.Compare a [op] [b] pos) (yJ r ta tb):=by
 intro pins s σ H Q I h
 exact wpAny_Compare1 (yY ha hb I h fun v u s2 x y H2 I2 rx ry q=>ho pins s2 σ H2 x y v u Q I2 rx ry q) hm
/-- a reading of a value as a test -/
def yK (t:TE):TT:=fun σ H Q=>t σ H fun x H'=>∃k,x=.bl k/\Q k H'
theorem xF {op:CmpOp}{r:R2}(ho:eO X (compareOp op) r)(ha:PE X a ta)(hb:PE X b tb)(hm:behindInMarks op b=false):PT X (.Compare a [op] [b] pos) (yK (yJ r ta tb)):=by
 intro pins s σ H Q I h
 refine wpAny_isTrue_Compare1 (aV (ha pins s σ H _ I h) fun v s1 ⟨x,H1,I1,r1,q1⟩=>aV (hb pins s1 σ H1 _ I1 q1) fun u s2 ⟨y,H2,I2,r2,q2⟩=>
   aV (ho pins s2 σ H2 x y v u _ I2 r1 r2 q2) fun c s3 ⟨z,H3,I3,r3,k,e,q3⟩=>?_) hm
 subst e
 cases r3
 exact wpAny_truthy_bool ⟨H3,I3,q3⟩
/-! ### truth -/
theorem gF:(sizeLine:Nat) < 2 ^ 63:=by rw [sizeLine_eq]; decide
/-! ### strs and bytes -/
/-! ### scalar builtins,by bY -/
theorem vals1 {x:V}{us:List Value}(r:Vals [x] us):∃u,us=[u]/\RelV x u:=by
 cases r with
 | cons r1 r2=>cases r2; exact ⟨_,rfl,r1⟩
theorem pY:bY X (.type "int") (fun xs H Q=>(∃i,xs=[.int i]/\Q (.int i) H)\/∃k,xs=[.bl k]/\Q (.int (if k then 1 else 0)) H):=by
 intro pins s σ H xs us Q I r h
 rcases h with ⟨i,rfl,q⟩ | ⟨k,rfl,q⟩
 · obtain ⟨u,rfl,t,rfl⟩:=vals1 r
   exact call_int_int ⟨.int i,H,I,⟨_,rfl⟩,q⟩
 · obtain ⟨u,rfl,r1⟩:=vals1 r
   cases r1
   exact call_int_bool ⟨.int (if k then 1 else 0),H,I.tok _,⟨_,rfl⟩,q⟩
theorem kK:bY X (.type "str") (fun xs H Q=>∃i,xs=[.int i]/\i.natAbs.log2 < 1920/\Q (.str (toString i)) H):=by
 intro pins s σ H xs us Q I r h
 obtain ⟨i,rfl,hz,q⟩:=h
 obtain ⟨u,rfl,t,rfl⟩:=vals1 r
 exact PySem.P.str_of_int hz ⟨.str _,H,I.tok _,⟨_,rfl⟩,q⟩
end
end L2

namespace L2
open PySem PySem.Spec PyProof.Rows

/-! ### an instance,its attributes a map -/
structure m6 (h:Heap)(x dx C:Addr)(mA:Str->Option Value):Prop where
 obj:h.get? x=some (HI C dx)
 ns:h.Ns1 dx mA
 ne:dx≠x

theorem qG {h:Heap}{dx:Addr}{mA:Str->Option Value}(n:h.Ns1 dx mA):∃od,h.get? dx=some od/\∀name,Jc name od=some (mA name):=by
 obtain ⟨o,es,ep,ho,hd,hk,_,hm⟩:=n
 refine ⟨o,ho,fun name=>?_⟩
 have e:=hm name
 unfold nsFind findBy at e
 rw [← Array.find?_toList] at e
 unfold Jc
 rw [hd]
 dsimp only
 split
 · rename_i y q
   rw [q] at e
   exact congrArg some e
 · rename_i q
   rw [q] at e
   have a:es.toList.any (·.refKey)=false:=by
     rw [List.any_eq_false]
     intro y hy
     obtain ⟨z,t,Eb⟩:=hk y (Array.mem_toList_iff.mp hy)
     simp [DictEntry.refKey,Eb]
   have a':¬ es.toList.any (·.refKey)=true:=by rw [a]; exact Gf
   rw [if_neg a']
   exact congrArg some e

theorem m6.look {h:Heap}{x dx C:Addr}{mA:Str->Option Value}(I:m6 h x dx C mA):∃od,PySem.W.InstAt h x (HI C dx) C (some od)/\∀name,Jc name od=some (mA name):=
 let ⟨od,ho,hl⟩:=qG I.ns
 ⟨od,⟨I.obj,rfl,rfl,ho⟩,hl⟩

section
variable {prog:Program}{w:World}{A:Around}{E:Value->Shared->Prop}{s:Shared}{K:FX}{x dx C f:Addr}{mA:Str->Option Value}{name:Str}{v:Value}

theorem get_map {expr:Bool}{Q:Value->Shared->Prop}(X:K.In s.heap)(I:m6 s.heap x dx C mA)(hg:IM K C name=true)(hh:Jw K C=true)
   (ha:GW K (.ref C) name=some none) (hv:mA name=some v) (hv':PySem.W.handedIn v=true) (h:Q v { s with toks:=s.toks + 1 }) :
   wpAny (model prog w) A (getAttr (.ref x) name expr) Q E s:=by
 obtain ⟨od,J,hl⟩:=I.look
 exact PySem.W.get_value X J (Jj hg).1 (PySem.W.findObj_own hh ha rfl (by rw [hl,hv])) hv' h

theorem sH {pl:Sem Bool}{Q:Value×List Value->Shared->Prop}(X:K.In s.heap)(I:m6 s.heap x dx C mA)(hg:IM K C name=true)
   (hf:GW K (.ref C) name=some (some (.ref f))) (ht:Kb K (.ref f)=true) (hv:mA name=none) (h:Q (.ref f,[.ref x]) s) :
   wpAny (model prog w) A (getMethod (.ref x) name pl) Q E s:=by
 obtain ⟨od,J,hl⟩:=I.look
 exact PySem.W.method_fn X J (Jj hg).1 (Jj hg).2 hf (beq_iff_eq.mp ht) (by show (Jc name od).map (·.isSome)=some false; rw [hl,hv]; rfl) h

theorem xR {ns:List Str}{Q:Unit->Shared->Prop}(X:K.In s.heap)(I:m6 s.heap x dx C mA)
   (hs:GW K (.ref C) "__setattr__"=some (some (.builtin "object.__setattr__"))) (hp:Kr K C=true) (ht:JD K C name=some none) (hh:Jw K C=true)
   (hw:Kl mA ns) (hsz:ns.length<=sizeLine)
   (h:∀h',m6 h' x dx C (fun y=>if y=name then some v else mA y)->Hl dx s.heap h'->Q () { s with heap:=h',toks:=s.toks + 2 }) :
   wpAny (model prog w) A (setAttr (.ref x) name v) Q E s:=by
 obtain ⟨od,J,hl⟩:=I.look
 refine PySem.W.set_plain X J hs (PySem.W.osa_open (s:={ s with toks:=s.toks + 1 }) (r:=none) X J hp ht fun b=>?_)
 obtain ⟨cd,hc,Ea⟩:=PySem.W.any_some hh
 have hx:s.heap.get? x=some ⟨.ref C,some dx,.plain,#[]⟩:=I.obj
 refine wpAny_bind (wpAny_pure (wpAny_bind (wpAny_bind (wpAny_loadPart hx (wpAny_bind (PySem.W.Looks.here (s:={ s with toks:=s.toks + 1 }) (PySem.W.looks_clsIn X hc) ?_))))))
 rw [Ea]
 refine wpAny_pure (a:=some dx) (wpAny_bind (wpAny_pure (wpAny_bind ?_)))
 refine wpAny_nsSet1 (s:={ s with toks:=s.toks + 1 }) I.ns fun h' hn2 hs2=>?_
 obtain ⟨oD,FT,FR,Fz,Fw,Fv⟩:=hn2.count (PySem.Within.cons name v hw)
 refine wpAny_bind (wpAny_lookBehind Fz (by rw [Fw]; exact pastItsLine_dict (F2 Fv (by rw [F5]; omega))) ?_)
 exact wpAny_pure (h _ ⟨(hs2.2 _ (Ne.symm I.ne)).trans I.obj,hn2,I.ne⟩ hs2)

/-- C(..): the dict at the heap's end,the instance behind it; then its rV -/
theorem tH {R:Result->Shared->Prop}{vs:List Value}{kw:List (Str×Value)}(X:K.In s.heap)(hm:PySem.W.makesIn K C=true)
   (hi:GW K (.ref C) "__init__"=some (some (.ref f))) (hf:PySem.W.typeIn K (.ref f)=some (.type "function"))
   (h:codeAny (model prog w) (A.under (.builtin "type.__call__" ⟨.ref C :: vs,kw⟩)) (.call (.ref f) ⟨.ref (s.heap.objs.size + 1) :: vs,kw⟩) (PySem.W.InitBack (s.heap.objs.size + 1) R)
     { s with heap:=(s.heap.push G0).push (HI C s.heap.objs.size) }) :
   codeAny (model prog w) A (.call (.ref C) ⟨vs,kw⟩) R s:=by
 obtain ⟨hh,g,d,t,os⟩:=s
 exact PySem.W.make_core (PySem.W.makes_of X hm) (PySem.W.looks_findIn X hi) (fun self=>PySem.W.bind_fn X self hf) (.inl rfl) h
end

/-! ### the attributes as a list of pairs -/
def eg (f:Str)(v:V):List (Str×V)->List (Str×V)
 | []=>[(f,v)]
 | (g,x) :: r=>if g=f then (g,v) :: r else (g,x) :: eg f v r
theorem gS (f g:Str)(v:V):∀fs:List (Str×V),(eg f v fs).lookup g=if g=f then some v else fs.lookup g
 | []=>by
   show IB g [(f,v)]=_
   by_cases h:g=f
   · have hb:(g == f)=true:=beq_iff_eq.mpr h
     simp only [IB,hb,if_pos h]
   · have hb:(g == f)=false:=beq_eq_false_iff_ne.mpr h
     simp only [IB,hb,if_neg h]
 | (k,x) :: r=>by
   have ih:=gS f g v r
   rw [show eg f v ((k,x) :: r)=(if k=f then (k,v) :: r else (k,x) :: eg f v r) from rfl]
   by_cases hk:k=f
   · rw [if_pos hk]
     by_cases h:g=k
     · have hb:(g == k)=true:=beq_iff_eq.mpr h
       simp only [IB,hb,if_pos (h.trans hk)]
     · have hb:(g == k)=false:=beq_eq_false_iff_ne.mpr h
       simp only [IB,hb,if_neg (fun e:g=f=>h (e.trans hk.symm))]
   · rw [if_neg hk]
     by_cases h:g=k
     · have hb:(g == k)=true:=beq_iff_eq.mpr h
       simp only [IB,hb,if_neg (fun e:g=f=>hk (h.symm.trans e))]
     · have hb:(g == k)=false:=beq_eq_false_iff_ne.mpr h
       simp only [IB,hb]
       exact ih
theorem gw (f:Str)(v:V):∀fs:List (Str×V),f∈(eg f v fs).map (·.1)/\∀g,g∈fs.map (·.1)->g∈(eg f v fs).map (·.1)
 | []=>⟨by simp [eg],fun g h=>by simp at h⟩
 | (k,x) :: r=>by
   obtain ⟨i1,i2⟩:=gw f v r
   rw [show eg f v ((k,x) :: r)=(if k=f then (k,v) :: r else (k,x) :: eg f v r) from rfl]
   by_cases hk:k=f
   · rw [if_pos hk]
     subst hk
     exact ⟨by simp,fun g h=>by simpa using h⟩
   · rw [if_neg hk]
     refine ⟨?_,fun g h=>?_⟩
     · rw [Gi]
       exact F7 _ i1
     · rw [Gi] at h ⊢
       rcases List.mem_cons.mp h with e | e
       · exact List.mem_cons.mpr (.inl e)
       · exact F7 _ (i2 g e)
theorem gQ (f:Str)(v:V):∀fs:List (Str×V),(eg f v fs).length<=fs.length + 1
 | []=>by simp [eg]
 | (k,x) :: r=>by
   have ih:=gQ f v r
   rw [show eg f v ((k,x) :: r)=(if k=f then (k,v) :: r else (k,x) :: eg f v r) from rfl]
   by_cases hk:k=f
   · rw [if_pos hk,F5,F5]; omega
   · rw [if_neg hk,F5,F5]; omega

theorem dw.some_of {v:V}{o:Option Value}(r:dw (some v) o):∃u,o=some u/\RelV v u:=by
 cases o with
 | none=>exact (show False from r).elim
 | some u=>exact ⟨u,rfl,r⟩
theorem dw.none_of {o:Option Value}(r:dw none o):o=none:=by
 cases o with
 | none=>rfl
 | some u=>exact (show False from r).elim
theorem qt {v:V}{u:Value}(r:RelV v u):PySem.W.handedIn u=true:=by
 cases v with
 | bq=>cases (show u=Hj from r); rfl
 | bl b=>cases (show u=IG b from r); rfl
 | int i=>obtain ⟨t,e⟩:=(show ∃t,u=Ja i t from r); cases e; rfl
 | str x=>obtain ⟨t,e⟩:=(show ∃t,u=Kk x t from r); cases e; rfl
 | byt b=>obtain ⟨t,e⟩:=(show ∃t,u=Value.bytes b t from r); cases e; rfl
 | flt b=>obtain ⟨t,e⟩:=(show ∃t,u=Value.float b t from r); cases e; rfl
 | ref a=>cases (show u=Gq a from r); rfl
 | ty n=>cases (show u=Value.type n from r); rfl

section
variable {P:Program}{w:World}{H H':Hp}{h h':Heap}{a C dx:Addr}{fs Bg:List (Str×V)}
theorem k4 (hok:eN P w H h)(e:H a=some (.ins C dx fs)):∃mA,m6 h a dx C mA/\(∀f,dw (fs.lookup f) (mA f))/\Kl mA (fs.map (·.1))/\fs.length<=1000/\H dx=some (.own a):=by
 obtain ⟨d,z,ne,ob,mA,n,r,q⟩:=(show aZ P w H h a (.ins C dx fs) from hok a _ e)
 exact ⟨mA,⟨ob,n,ne⟩,r,q,z,d⟩
end

/-! ### what of the text a class must have -/
structure mX (K:FX)(C:Addr):Prop where
 pg:IM K C HS=true
 hd:Jw K C=true
 po:Kr K C=true
 sa:GW K (.ref C) "__setattr__"=some (some (.builtin "object.__setattr__"))
theorem mX.get {K:FX}{C:Addr}(c:mX K C)(f:Str):IM K C f=true:=c.pg
/-- no class of it has the name -/
def cj (K:FX)(C:Addr)(f:Str):Prop:=GW K (.ref C) f=some none
theorem cj.C9 {K:FX}{C:Addr}{f:Str}(n:cj K C f):JD K C f=some none:=by
 unfold JD
 rw [show GW K (.ref C) f=some none from n]
 rfl
/-- a method: a plain def of the class or of one above it -/
structure Meth (K:FX)(C:Addr)(m:Str)(f:Addr):Prop where
 at_:GW K (.ref C) m=some (some (.ref f))
 fn:Kb K (.ref f)=true
 kp:HL K (.ref f)=true

section
variable {X:Cx}{pins:List (Addr×Obj)}{σ:St}{H:Hp}{s:Shared}{a C dx:Addr}{fs:List (Str×V)}{f:Str}{v:V}{A:Around}{E:Value->Shared->Prop}

theorem iY {b:Bool}{Q:Value->Shared->Prop}(I:Inv X pins σ H s)(e:H a=some (.ins C dx fs))(c:mX X.K C)(n:cj X.K C f)(l:fs.lookup f=some v)
   (h:∀u s',Inv X pins σ H s'->RelV v u->Q u s'):wpAny (model X.prog X.w) A (getAttr (.ref a) f b) Q E s:=by
 obtain ⟨mA,O,r,_,_,_⟩:=k4 I.hok e
 obtain ⟨u,hu,ru⟩:=dw.some_of (v:=v) (o:=mA f) (by rw [← l]; exact r f)
 exact get_map I.kIn O (c.get f) c.hd n hu (qt ru) (h u _ (I.tok _) ru)

theorem iZ {m:Str}{g:Addr}{pl:Sem Bool}{Q:Value×List Value->Shared->Prop}(I:Inv X pins σ H s)(e:H a=some (.ins C dx fs))(c:mX X.K C)(k:Meth X.K C m g)(l:fs.lookup m=none)
   (h:Q (.ref g,[.ref a]) s):wpAny (model X.prog X.w) A (getMethod (.ref a) m pl) Q E s:=by
 obtain ⟨mA,O,r,_,_,_⟩:=k4 I.hok e
 have hn:mA m=none:=dw.none_of (by rw [← l]; exact r m)
 exact sH I.kIn O (c.get m) k.at_ k.fn hn h

theorem jg {y:V}{u:Value}{Q:Unit->Shared->Prop}(I:Inv X pins σ H s)(e:H a=some (.ins C dx fs))(c:mX X.K C)(n:cj X.K C f)(hl:fs.length < 1000)(ry:RelV y u)
   (h:∀s',Inv X pins σ (upd H a (.ins C dx (eg f y fs))) s'->Q () s'):wpAny (model X.prog X.w) A (setAttr (.ref a) f u) Q E s:=by
 obtain ⟨mA,O,r,wi,_,ho⟩:=k4 I.hok e
 have hz:(fs.map (·.1)).length<=sizeLine:=by rw [F0,sizeLine_eq]; omega
 refine xR I.kIn O c.sa c.po n.C9 c.hd wi hz fun h' O' sb=>h _ ?_
 have hd:∃o,h'.get? dx=some o:=let ⟨o,_,_,e',_⟩:=O'.ns; ⟨o,e'⟩
 refine I.write (x:=a) (e:=dx) (by rw [e]; exact GD) (.inr ho) (fun b q hb z=>(sb.2 b hb).trans z) hd ?_
 refine ⟨by rw [ai O.ne]; exact ho,?_,O.ne,O'.obj,_,O'.ns,fun g=>?_,fun g hg=>?_⟩
 · have:=gQ f y fs; omega
 · show dw ((eg f y fs).lookup g) (if g=f then some u else mA g)
   rw [gS]
   by_cases q:g=f
   · rw [if_pos q,if_pos q]; exact ry
   · rw [if_neg q,if_neg q]; exact r g
 · by_cases q:g=f
   · rw [q]; exact (gw f y fs).1
   · refine (gw f y fs).2 g (wi g fun z=>hg ?_)
     show (if g=f then some u else mA g)=none
     rw [if_neg q]; exact z

/-- a new instance,tracked,without attributes -/
theorem Inv.made (I:Inv X pins σ H s):Inv X pins σ (upd (upd H s.heap.objs.size (.own (s.heap.objs.size + 1))) (s.heap.objs.size + 1) (.ins C s.heap.objs.size []))
   { s with heap:=(s.heap.push G0).push (HI C s.heap.objs.size) }:=by
 have e1:(s.heap.push G0).get? s.heap.objs.size=some G0:=Gn s.heap rfl
 have e2:((s.heap.push G0).push (HI C s.heap.objs.size)).get? (s.heap.objs.size + 1)=some (HI C s.heap.objs.size):=by
   have:=Gn (s.heap.push G0) (o:=HI C s.heap.objs.size) rfl
   rwa [Ju] at this
 have e3:(s.heap.push G0).Ns s.heap.objs.size (fun _=>none):=⟨G0,#[],_,e1,rfl,(fun e he=>absurd he (by simp)),fun _=>rfl⟩
 have I1:=I.laid (a:=s.heap.objs.size) (o:=.own (s.heap.objs.size + 1)) (h':=s.heap.push G0) (t':=s.toks) (fun b u q=>F6 _ q) (F8 _) ⟨_,e1⟩
 refine I1.laid (a:=s.heap.objs.size + 1) (o:=.ins C s.heap.objs.size []) (t':=s.toks) (fun b u q=>F6 _ q) (Nat.le_of_eq (Ju _ _)) ?_
 have ne:s.heap.objs.size≠s.heap.objs.size + 1:=Gw (HF _)
 refine ⟨by rw [ai ne,aa],Gs _,ne,e2,fun _=>none,(Heap.Ns1.of_empty e3).at fun o q=>F6 _ q,fun _=>GD,fun y hy=>absurd rfl hy⟩

/-- e.f where nothing but the object is asked: through attributeBase (super) and the last hold -/
theorem vH {prog:Program}{w:World}{env:Env}{e:Expr}{f:Str}{pos:Pos}{s:Shared}{Q:Value->Shared->Prop}(hb:attributeBase e f env (eval e env)=eval e env)
   (h:wpAny (model prog w) A (eval e env) (fun o s₁=>wpAny (model prog w) A (getAttr o f true) Q E s₁) E s):wpAny (model prog w) A (eval (.Attribute e f pos) env) Q E s:=
 Attribute_any_ h (by rw [arm_eval_Attribute,hb])
end

/-! ### readings and rules -/
/-- e.f,an attribute of the instance -/
def C2 (K:FX)(ta:TE)(f:Str):TE:=fun σ H Q=>ta σ H fun x H1=>∃a C dx fs v,x=.ref a/\H1 a=some (.ins C dx fs)/\mX K C/\cj K C f/\fs.lookup f=some v/\Q v H1
/-- e.f=value -/
def CS (K:FX)(ta tv:TE)(f:Str):TS:=fun D σ H=>tv σ H fun y H1=>ta σ H1 fun x H2=>∃a C dx fs,x=.ref a/\H2 a=some (.ins C dx fs)/\mX K C/\cj K C f/\fs.length < 1000 /\
 D.nx σ (upd H2 a (.ins C dx (eg f y fs)))
/-- an Bd operator on two values -/
def Bq (X:Cx)(op:Operator)(rd:V->V->Hp->VK->Prop):Prop:=
 ∀(pins:List (Addr×Obj)) (s:Shared) (σ:St) (H:Hp) (x y:V) (u v:Value) (Q:VK),Inv X pins σ H s->RelV x u->RelV y v->rd x y H Q->wpAny (model X.prog X.w) X.A (inplaceOp op u v) (EP X pins σ Q) X.xe s
/-- e.f op= value -/
def pH (K:FX)(ta tv:TE)(rd:V->V->Hp->VK->Prop)(f:Str):TS:=fun D σ H=>ta σ H fun x H1=>∃a C dx fs v,x=.ref a/\H1 a=some (.ins C dx fs)/\mX K C/\cj K C f/\fs.lookup f=some v /\
 tv σ H1 fun y H2=>rd v y H2 fun z H3=>∃D4 Bg,H3 a=some (.ins C D4 Bg)/\Bg.length < 1000/\D.nx σ (upd H3 a (.ins C D4 (eg f z Bg)))

section
variable {X:Cx}{o e value:Expr}{f:Str}{pos pos' tpos:Pos}{ta tv:TE}
theorem Ak (he:PE X e ta)(hb:attributeBase e f X.env (eval e X.env)=eval e X.env):PE X (.Attribute e f pos) (C2 X.K ta f):=by
 intro pins s σ H Q I h
 refine vH hb (aV (he pins s σ H _ I h) fun u s1 ⟨x,H1,I1,rx,a,C,dx,fs,v,ex,ea,c,n,l,q⟩=>?_)
 subst ex
 obtain rfl:u=Gq a:=rx
 exact iY I1 ea c n l fun u' s2 I2 ru=>⟨v,H1,I2,ru,q⟩
theorem AD (ha:PE X o ta)(hv:PE X value tv)(hs:swapsWith value (some (.Attribute o f pos')) pos.line X.env=pure false):PS X (.Assign [.Attribute o f pos'] value pos) (CS X.K ta tv f):=by
 intro pins s σ H D I h
 refine plainObj_wpAny_Assign_Attribute (aV (hv pins s σ H _ I h) fun u s1 ⟨y,H1,I1,ry,q⟩=>aV (ha pins s1 σ H1 _ I1 q) fun ov s2 ⟨x,H2,I2,rx,a,C,dx,fs,ex,ea,c,n,l,q2⟩=>?_) hs
 subst ex
 obtain rfl:ov=Gq a:=rx
 exact jg I2 ea c n l ry fun s3 I3=>⟨σ,_,I3,q2⟩
theorem rn {op:Operator}{rd:V->V->Hp->VK->Prop}(ha:PE X o ta)(hv:PE X value tv)(hop:Bq X op rd):PS X (.AugAssign (.Attribute o f tpos) op value pos) (pH X.K ta tv rd f):=by
 intro pins s σ H D I h
 refine wpAny_AugAssign_AttributeAny (aV (ha pins s σ H _ I h) fun ov s1 ⟨x,H1,I1,rx,a,C,dx,fs,v,ex,ea,c,n,l,q⟩=>?_)
 subst ex
 obtain rfl:ov=Gq a:=rx
 refine iY I1 ea c n l fun u s2 I2 ru=>aV (hv pins s2 σ H1 _ I2 q) fun w3 s3 ⟨y,H2,I3,ry,q3⟩=>aV (hop pins s3 σ H2 v y u w3 _ I3 ru ry q3) fun w4 s4 ⟨z,H3,I4,rz,D4,Bg,Fu,l',q4⟩=>?_
 exact jg I4 Fu c n l' rz fun s5 I5=>⟨σ,_,I5,q4⟩
def CF:V->V->Hp->VK->Prop:=fun x y H Q=>∃i j,x=.int i/\y=.int j/\Q (.int (i + j)) H
theorem zp:Bq X .Add CF:=by
 rintro pins s σ H x y u v Q I rx ry ⟨i,j,rfl,rfl,q⟩
 obtain ⟨t,rfl⟩:=(show ∃t,u=Ja i t from rx)
 obtain ⟨t',rfl⟩:=(show ∃t',v=Ja j t' from ry)
 exact PyProof.Rows.iadd_int ⟨.int (i + j),H,I.tok _,⟨_,rfl⟩,q⟩
end

/-! ### isinstance -/
end L2

namespace L2
open PySem PySem.Spec PyProof.Rows

/-! ### room -/
structure bw (k:Nat)(A:Around):Prop where
 hd:A.handled=none
 dp:A.depth + 3 * k + 5 < recursionLimit
 un:A.units + 16 * k + 200 < cLine
theorem bw.mono {j k:Nat}{A:Around}(r:bw k A)(h:j<=k):bw j A:=⟨r.hd,by have:=r.dp; omega,by have:=r.un; omega⟩
theorem bw.deeper {k:Nat}{A:Around}(r:bw (k + 1) A)(env:Env):bw k (A.deeper env):=
 ⟨r.hd,by have:=r.dp; show A.depth + 1 + 3 * k + 5 < _; omega,by have:=r.un; show A.units + 3 + 16 * k + 200 < _; omega⟩
theorem nU {A:Around}{C:Addr}{us:List Value}{kw:List (Str×Value)}:(A.under (.builtin "type.__call__" ⟨.ref C :: us,kw⟩)).depth=A.depth + 1:=by
 first | rfl | simp [Kj,Code.weight,Code.isCreation,Code.isGuard,Code.isCaller,Code.frames,Kq,guardIds]
theorem nV {A:Around}{C:Addr}{us:List Value}{kw:List (Str×Value)}:(A.under (.builtin "type.__call__" ⟨.ref C :: us,kw⟩)).units=A.units + 1:=by
 first | rfl | simp [Kj,Code.cUnits,Code.frames,Kq]
theorem bw.make {k:Nat}{A:Around}(r:bw (k + 1) A)(C:Addr)(us:List Value)(kw:List (Str×Value)):bw k (A.under (.builtin "type.__call__" ⟨.ref C :: us,kw⟩)):=
 ⟨r.hd,by have:=r.dp; rw [nU]; omega,by have:=r.un; rw [nV]; omega⟩
theorem bw.depth {k:Nat}{A:Around}(r:bw k A):A.depth < recursionLimit:=by have:=r.dp; omega
theorem bw.units {k:Nat}{A:Around}(r:bw k A):A.units + 64 < cLine:=by have:=r.un; omega
/-! ### argument lists and displays -/
def rG:TA:=fun _ H Q=>Q [] H
def ve (ta:TE)(tr:TA):TA:=fun σ H Q=>ta σ H fun x H1=>tr σ H1 fun xs H2=>Q (x :: xs) H2
section
variable {X:Cx}{e:Expr}{es:List Expr}{te:TE}{t:TA}{pos:Pos}
theorem Ai:PA X [] rG:=fun _ _ _ _ H Q I h=>IL ⟨[],H,I,.nil,h⟩
theorem xi (ha:PE X e te)(hr:PA X es t)(hs:starEach (e :: es) X.env=(false,eval e X.env) :: starEach es X.env:=by rfl):PA X (e :: es) (ve te t):=by
 intro pos pins s σ H Q I h
 rw [hs]
 show wpAny _ _ (spliced ((false,eval e X.env) :: backTo pos (starEach es X.env))) _ _ s
 refine HQ (aV (ha pins s σ H _ I h) fun u s1 ⟨x,H1,I1,r1,q1⟩=>?_)
 exact aV (hr pos pins s1 σ H1 _ I1 q1) fun us s2 ⟨xs,H2,I2,r2,q2⟩=>⟨x :: xs,H2,I2,.cons r1 r2,q2⟩

/-- a tuple,a list of written items -/
def A5 (t:TA):TE:=fun σ H Q=>t σ H fun xs H1=>xs.length<=sizeLine/\∀p,H1 p=none->Q (.ref p) (upd H1 p (.tup xs))
def A3 (t:TA):TE:=fun σ H Q=>t σ H fun xs H1=>xs.length<=sizeLine/\∀p,H1 p=none->Q (.ref p) (upd H1 p (.lst xs))
theorem As {x1}(h:PA X es t):PE X (.Tuple es x1 pos) (A5 t):=by
 intro pins s σ H Q I hq
 refine wpAny_Tuple_spliced (aV (h pos pins s σ H _ I hq) fun us s1 ⟨xs,H1,I1,r,z,q⟩=>⟨by rw [← r.length]; exact z,?_⟩)
 have hf:H1 s1.heap.objs.size=none:=I1.hok.fresh (F8 _)
 refine ⟨.ref s1.heap.objs.size,upd H1 s1.heap.objs.size (.tup xs),I1.laid (t':=s1.toks) (fun b u e=>F6 _ e) (F8 _) ?_,rfl,q _ hf⟩
 exact ⟨z,us,r,⟨_,Gn _ rfl,rfl,_,rfl⟩⟩
theorem Ap (h:PA X es t):PE X (.List es pos) (A3 t):=by
 intro pins s σ H Q I hq
 refine wpAny_List_spliced (aV (h pos pins s σ H _ I hq) fun us s1 ⟨xs,H1,I1,r,z,q⟩=>⟨by rw [← r.length]; exact z,?_⟩)
 have hf:H1 s1.heap.objs.size=none:=I1.hok.fresh (F8 _)
 refine ⟨.ref s1.heap.objs.size,upd H1 s1.heap.objs.size (.lst xs),I1.laid (t':=s1.toks) (fun b u e=>F6 _ e) (F8 _) ?_,rfl,q _ hf⟩
 exact ⟨z,us,0,r,Gn _ rfl⟩
end

/-! ### what a def promises -/
/-- a def's promise: the bound arguments in the mL order,the heap,the wanted end,the wanted exception -/
abbrev Sp:=List V->Hp->VK->XK->Prop
/-- how an exception lies behind a call (file 08 gives it): the iF frames,abstract heap and state ahead of the call,the ib,the exception,the state -/
abbrev CXT:=List Env->Hp->Shared->XK->Value->Shared->Prop

/-- the state at a call -/
structure mY (P:Program)(w:World)(K:FX)(mg:Str->Option Value)(base:Heap)(A:Around)(outer:List Env)(s:Shared)(H:Hp):Prop where
 frames:A.frames=some outer
 mod:Mod K mg base
 bs:∀b o,base.get? b=some o->s.heap.get? b=some o/\H b=none
 bsz:base.objs.size<=s.heap.objs.size
 funs:s.heap.FunFrames base outer
 frf:∀b∈cm outer,H b=none
 hok:eN P w H s.heap
 bare:AllBare s.gens
/-- a DW end -/
def CE (outer:List Env)(P:Program)(w:World)(H:Hp)(s:Shared)(Q:VK)(u:Value)(s':Shared):Prop:=
 ∃v H',s'.os=s.os/\AllBare s'.gens/\Un (cm outer) [] H H' s.heap s'.heap/\eN P w H' s'.heap/\RelV v u/\Q v H'
def CR (CX:CXT)(outer:List Env)(P:Program)(w:World)(H:Hp)(s:Shared)(Q:VK)(E:XK)(r:Result)(s':Shared):Prop:=
 match r with
 | .ok (.ret u)=>CE outer P w H s Q u s'
 | .ok _=>False
 | .error e=>CX outer H s E e s'
structure aN (P:Program)(w:World)(K:FX)(mg:Str->Option Value)(base:Heap)(CX:CXT)(k:Nat)(f:Addr)(fd:FuncData)(ps:List Str)(sp:Sp):Prop where
 len:∀vs H Q E,sp vs H Q E->vs.length=ps.length
 run:∀(A:Around) (outer:List Env) (s:Shared) (H:Hp) (args:Args) (us:List Value) (vs:List V) (Q:VK) (E:XK),bw k A->mY P w K mg base A outer s H->BindsTo s fd args (ps.zip us)->Vals vs us->sp vs H Q E ->
   codeAny (model P w) A (.call (.ref f) args) (CR CX outer P w H s Q E) s
theorem aN.mono {P:Program}{w:World}{K:FX}{mg:Str->Option Value}{base:Heap}{CX:CXT}{j k:Nat}{f:Addr}{fd:FuncData}{ps:List Str}{sp:Sp}(F:aN P w K mg base CX j f fd ps sp)(h:j<=k) :
   aN P w K mg base CX k f fd ps sp:=⟨F.len,fun A outer s H args us vs Q E hr=>F.run A outer s H args us vs Q E (hr.mono h)⟩
theorem mY.make {P:Program}{w:World}{K:FX}{mg:Str->Option Value}{base:Heap}{A:Around}{outer:List Env}{s:Shared}{H:Hp}(e:mY P w K mg base A outer s H)(C:Addr)(us:List Value)(kw:List (Str×Value)) :
   mY P w K mg base (A.under (.builtin "type.__call__" ⟨.ref C :: us,kw⟩)) outer s H:=⟨by first | exact e.frames | (simpa [Kj,Code.envs,Kq,pushEnvs] using e.frames),e.mod,e.bs,e.bsz,e.funs,e.frf,e.hok,e.bare⟩
section
variable {X:Cx}{pins:List (Addr×Obj)}{σ:St}{H:Hp}{s s':Shared}
/-- from a body: what a callee wants -/
theorem Inv.BS (I:Inv X pins σ H s):mY X.prog X.w X.K X.mg X.base X.A X.stack s H:=
 ⟨I.ok.frames,I.ok.mod,I.bs,F2 I.ok.bsz I.sz,I.stack,I.stkFree,I.hok,I.bare⟩
/-- behind a call -/
theorem Inv.after {Q:VK}{u:Value}(I:Inv X pins σ H s)(h:CE X.stack X.prog X.w H s Q u s'):EP X pins σ Q u s':=by
 obtain ⟨v,H',os,bare,un,hok,r,q⟩:=h
 obtain ⟨hh,g,d,t,FK⟩:=s'
 obtain rfl:FK=s.os:=os
 exact ⟨v,H',I.call (h':=hh) (g':=g) (d':=d) (t':=t) (ch:=[]) un hok bare (fun b z=>absurd z (by simp)),r,q⟩
end

/-! ### calls -/
/-- f(..): the written arguments,then the defaults dvs; E: what is wanted of an exception -/
def pO (sp:Sp)(dvs:List V)(E:XK)(t:TA):TE:=fun σ H Q=>t σ H fun vs H1=>sp (vs++dvs) H1 Q E
/-- o.m(..) of an instance of the class at C -/
def ky (C:Addr)(m:Str)(sp:Sp)(dvs:List V)(E:XK)(ta:TE)(t:TA):TE:=fun σ H Q=>ta σ H fun x H1=>∃a dx fs,x=.ref a/\H1 a=some (.ins C dx fs)/\fs.lookup m=none /\
 t σ H1 fun vs H2=>sp (x :: (vs++dvs)) H2 Q E
/-- C(..): a new instance and its dict,then rV -/
def yG (C:Addr)(sp:Sp)(dvs:List V)(E:XK)(t:TA):TE:=fun σ H Q=>t σ H fun vs H1=>∀x dx,H1 x=none->H1 dx=none->dx≠x ->
 sp (.ref x :: (vs++dvs)) (upd (upd H1 dx (.own x)) x (.ins C dx [])) (fun v H2=>v=.bq/\Q (.ref x) H2) E

/-- how the parameters are bound: us the positional arguments,kw the Bi values by name,ds the defaults that fill up -/
def Binds (K:FX)(fd:FuncData)(ps:List Str)(ds:List Value):Prop:=
 ∀(s:Shared) (us:List Value),K.In s.heap->(us++ds).length=ps.length->BindsTo s fd ⟨us,[]⟩ (ps.zip (us++ds))
/-- oS parameter is given -/
theorem Binds.all {K:FX}{fd:FuncData}{ps:List Str}(h:∀us:List Value,us.length=ps.length->bindArgs fd ⟨us,[]⟩ = pure (ps.zip us)):Binds K fd ps []:=fun s us _ hl=>by
 rw [GH] at hl ⊢
 exact .of_eq (h us hl)

/-- an exception of a callee Dp what this body wants of exceptions -/
def Passes (CX:CXT)(X:Cx)(E:XK):Prop:=∀(pins:List (Addr×Obj)) (σ:St) (H:Hp) (s:Shared) (e:Value) (s':Shared),Inv X pins σ H s->CX X.stack H s E e s'->X.xe e s'

section
variable {X:Cx}{CX:CXT}{k:Nat}{f C:Addr}{fd:FuncData}{ps:List Str}{sp:Sp}{dvs:List V}{ds:List Value}{E:XK}{x m:Str}{p pos apos:Pos}{e o:Expr}{es:List Expr}{ta:TE}{t:TA}

/-- the callee runs -/
theorem om {pins:List (Addr×Obj)}{σ:St}{H:Hp}{s:Shared}{Q:VK}{us:List Value}{vs:List V}(F:aN X.prog X.w X.K X.mg X.base CX k f fd ps sp)(hr:bw k X.A)(hb:Binds X.K fd ps ds)(hd:Vals dvs ds)(hx:Passes CX X E)
   (I:Inv X pins σ H s) (r:Vals vs us) (h:sp (vs++dvs) H Q E):wpAny (model X.prog X.w) X.A (call (.ref f) us) (EP X pins σ Q) X.xe s:=by
 have r2:Vals (vs++dvs) (us++ds):=r.append hd
 have hl:(us++ds).length=ps.length:=by rw [← r2.length]; exact F.len _ _ _ _ h
 refine wpAny_call (codeAny_mono (F.run X.A X.stack s H ⟨us,[]⟩ (us++ds) (vs++dvs) Q E hr I.BS (hb s us I.kIn hl) r2 h) fun r s' hq=>?_)
 cases r with
 | error e=>exact hx pins σ H s e s' I hq
 | ok fl=>
   cases fl with
   | ret u=>exact I.after hq
   | next=>exact HJ hq
   | brk=>exact HJ hq
   | cont=>exact HJ hq

theorem pB (F:aN X.prog X.w X.K X.mg X.base CX k f fd ps sp)(hr:bw k X.A)(hg:Gl X x)(hm:X.mg x=some (.ref f))(hk:HL X.K (.ref f)=true)(hb:Binds X.K fd ps ds)(hd:Vals dvs ds)(hx:Passes CX X E)
   (ha:PA X (e :: es) t) (hdb:(x == ("__debug__":Str))=false:=by decide) (he:starEach (e :: es) X.env=(false,eval e X.env) :: starEach es X.env:=by rfl) (hpl:(backTo pos (starEach es X.env)).any (·.1)=false:=by rfl) :
   PE X (.Call (.Name x p) (e :: es) [] pos) (pO sp dvs E t):=by
 intro pins s σ H Q I h
 refine wpAny_Call_Name_kw (fO I hg hm ?_ hdb)
 refine Js (h₀:=X.base) I.ok.mod.kin hk (aV (ha pos pins s σ H _ I h) fun us s1 ⟨vs,H1,I1,r,q⟩=>⟨I1.kIn,?_⟩) he hpl
 exact om F hr hb hd hx I1 r q
/-- o.m(e,..) -/
theorem pD {pl:Sem Bool}(he:PE X o ta)(c:mX X.K C)(hm:Meth X.K C m f)(F:aN X.prog X.w X.K X.mg X.base CX k f fd ps sp)(hr:bw k X.A)(hb:Binds X.K fd ps ds)(hd:Vals dvs ds)(hx:Passes CX X E)(ha:PA X (e :: es) t)
   (hst:starEach (e :: es) X.env=(false,eval e X.env) :: starEach es X.env:=by rfl) (hpl:(backTo pos (starEach es X.env)).any (·.1)=false:=by rfl)
   (ht:eval (.Call (.Attribute o m apos) (e :: es) [] pos) X.env=(do
     let ov ← eval o X.env
     standAt apos.atName
     let (f,first) ← holding [ov] (getMethod ov m pl)
     callWith pos f first (backTo pos (starEach (e :: es) X.env)) (backToKw pos (keywordEach [] X.env))):=by rfl) :
   PE X (.Call (.Attribute o m apos) (e :: es) [] pos) (ky C m sp dvs E ta t):=by
 intro pins s σ H Q I h
 refine Ka (pl:=pl) (aV (he pins s σ H _ I h) fun u s1 ⟨x,H1,I1,rx,a,dx,fs,ex,ea,l,q⟩=>?_) ht
 subst ex
 obtain rfl:u=Gq a:=rx
 refine iZ I1 ea c hm l ?_
 refine Js (first:=[.ref a]) (h₀:=X.base) I.ok.mod.kin hm.kp (aV (ha pos pins s1 σ H1 _ I1 q) fun us s2 ⟨vs,H2,I2,r,q2⟩=>⟨I2.kIn,?_⟩) hst hpl
 exact om (us:=.ref a :: us) (vs:=.ref a :: vs) F hr hb hd hx I2 (.cons rfl r) q2
/-- o.m() -/
theorem mM {pl:Sem Bool}(he:PE X o ta)(c:mX X.K C)(hm:Meth X.K C m f)(F:aN X.prog X.w X.K X.mg X.base CX k f fd ps sp)(hr:bw k X.A)(hb:Binds X.K fd ps ds)(hd:Vals dvs ds)(hx:Passes CX X E)
   (ht:eval (.Call (.Attribute o m apos) [] [] pos) X.env=(do
     let ov ← eval o X.env
     standAt apos.atName
     let (f,first) ← holding [ov] (getMethod ov m pl)
     callWith pos f first (backTo pos (starEach [] X.env)) (backToKw pos (keywordEach [] X.env))):=by rfl) :
   PE X (.Call (.Attribute o m apos) [] [] pos) (ky C m sp dvs E ta rG):=by
 intro pins s σ H Q I h
 refine Ka (pl:=pl) (aV (he pins s σ H _ I h) fun u s1 ⟨x,H1,I1,rx,a,dx,fs,ex,ea,l,q⟩=>?_) ht
 subst ex
 obtain rfl:u=Gq a:=rx
 refine iZ I1 ea c hm l ?_
 exact PySem.W.callWith_K0 (first:=[.ref a]) I1.kIn hm.kp (om (us:=[.ref a]) (vs:=[.ref a]) F hr hb hd hx I1 (.cons rfl .nil) q)

/-- what a class must have to be made -/
structure Mk (K:FX)(C f:Addr):Prop where
 makes:PySem.W.makesIn K C=true
 init:GW K (.ref C) "__init__"=some (some (.ref f))
 fn:Kb K (.ref f)=true
 kp:HL K (.ref C)=true

theorem uR {pins:List (Addr×Obj)}{σ:St}{H:Hp}{s:Shared}{Q:VK}{us:List Value}{vs:List V}(M:Mk X.K C f)(F:aN X.prog X.w X.K X.mg X.base CX k f fd ps sp)(hr:bw (k + 1) X.A)(hb:Binds X.K fd ps ds)(hd:Vals dvs ds)
   (hx:Passes CX X E) (I:Inv X pins σ H s) (r:Vals vs us)
   (h:∀x dx,H x=none->H dx=none->dx≠x->sp (.ref x :: (vs++dvs)) (upd (upd H dx (.own x)) x (.ins C dx [])) (fun v H2=>v=.bq/\Q (.ref x) H2) E) :
   wpAny (model X.prog X.w) X.A (call (.ref C) us) (EP X pins σ Q) X.xe s:=by
 have hq:=h (s.heap.objs.size + 1) s.heap.objs.size (I.hok.fresh (Nat.le_succ _)) (I.hok.fresh (F8 _)) (Gw (HF _))
 have I2:=Inv.made (C:=C) I
 have r2:Vals (V.ref (s.heap.objs.size + 1) :: (vs++dvs)) (Gq (s.heap.objs.size + 1) :: (us++ds)):=.cons rfl (r.append hd)
 have hl:(Gq (s.heap.objs.size + 1) :: us++ds).length=ps.length:=by
   have e:=r2.length
   rw [F.len _ _ _ _ hq] at e
   exact e.symm
 refine wpAny_call (tH (f:=f) I.kIn M.makes M.init (beq_iff_eq.mp M.fn) (codeAny_mono (F.run _ X.stack _ _ ⟨Gq (s.heap.objs.size + 1) :: us,[]⟩ (Gq (s.heap.objs.size + 1) :: (us++ds)) _ _ E (hr.make C us [])
   (I2.BS.make C us []) (hb _ (Gq (s.heap.objs.size + 1) :: us) I2.kIn hl) r2 hq) fun r s' BZ=>?_))
 cases r with
 | error e=>exact hx pins σ _ _ e s' I2 BZ
 | ok fl=>
   cases fl with
   | ret u=>
     obtain ⟨v,H',I3,rv,ev,q3⟩:=I2.after BZ
     subst ev
     exact ⟨rv,⟨V.ref (s.heap.objs.size + 1),H',I3,rfl,q3⟩⟩
   | next=>exact HJ BZ
   | brk=>exact HJ BZ
   | cont=>exact HJ BZ
theorem xr (M:Mk X.K C f)(F:aN X.prog X.w X.K X.mg X.base CX k f fd ps sp)(hr:bw (k + 1) X.A)(hg:Gl X x)(hm:X.mg x=some (.ref C))(hb:Binds X.K fd ps ds)(hd:Vals dvs ds)(hx:Passes CX X E)
   (ha:PA X (e :: es) t) (hdb:(x == ("__debug__":Str))=false:=by decide) (he:starEach (e :: es) X.env=(false,eval e X.env) :: starEach es X.env:=by rfl) (hpl:(backTo pos (starEach es X.env)).any (·.1)=false:=by rfl) :
   PE X (.Call (.Name x p) (e :: es) [] pos) (yG C sp dvs E t):=by
 intro pins s σ H Q I h
 refine wpAny_Call_Name_kw (fO I hg hm ?_ hdb)
 refine Js (h₀:=X.base) I.ok.mod.kin M.kp (aV (ha pos pins s σ H _ I h) fun us s1 ⟨vs,H1,I1,r,q⟩=>⟨I1.kIn,?_⟩) he hpl
 exact uR M F hr hb hd hx I1 r q
end

/-! ### keywords -/

/-! ### a def's body keeps its promise -/
/-- names: the parameters first -/
structure ay (N P:List Str)(sc:Scope):Prop where
 kind:sc.kind=.function
 co:sc.isCoroutine=false
 gen:sc.isGenerator=false
 nd:N.Nodup
 pre:N.take P.length=P
 par:∀x∈P,sc.names.lookup x=some .local\/sc.names.lookup x=some .cell
 nofree:∀y∈sc.names,y.2≠.free

theorem jN {kindOf:Str->Option NameKind}{x:Str}:∀{binds:List (Str×Value)} {m:Str->Option Value},(∀v,(x,v) ∉ binds)->bindL kindOf binds m x=m x
 | [],_,_=>rfl
 | (n,v) :: r,m,h=>by
   unfold bindL
   rw [jN fun w hw=>h w (F7 _ hw)]
   split
   · have:x≠n:=by rintro rfl; exact h v F4
     simp [this]
   · rfl
theorem jL {kindOf:Str->Option NameKind}{x:Str}:∀{binds:List (Str×Value)} {m:Str->Option Value},(∀v,(x,v) ∉ binds)->bindC kindOf binds m x=m x
 | [],_,_=>rfl
 | (n,v) :: r,m,h=>by
   unfold bindC
   rw [jL fun w hw=>h w (F7 _ hw)]
   split
   · rfl
   · have:x≠n:=by rintro rfl; exact h v F4
     simp [this]
theorem jM {kindOf:Str->Option NameKind}{x:Str}{v:Value}:∀{P:List Str} {vs:List Value} {i:Nat} {m:Str->Option Value},P.Nodup->P[i]? = some x->vs[i]? = some v->kindOf x=some .local ->
   bindL kindOf (P.zip vs) m x=some v
 | [],_,_,_,_,h,_,_=>by simp at h
 | _ :: _,[],_,_,_,_,h,_=>by simp at h
 | p :: P,w :: vs,0,m,nd,h1,h2,hk=>by
   simp at h1 h2; subst h1; subst h2
   show bindL kindOf ((p,w) :: P.zip vs) m p=_
   unfold bindL
   rw [jN fun v hv=>(List.nodup_cons.mp nd).1 (JP hv).1,if_pos hk]
   simp
 | p :: P,w :: vs,i + 1,m,nd,h1,h2,hk=>by
   show bindL kindOf ((p,w) :: P.zip vs) m x=_
   unfold bindL
   exact jM (i:=i) (List.nodup_cons.mp nd).2 (by simpa using h1) (by simpa using h2) hk
theorem jK {kindOf:Str->Option NameKind}{x:Str}{v:Value}:∀{P:List Str} {vs:List Value} {i:Nat} {m:Str->Option Value},P.Nodup->P[i]? = some x->vs[i]? = some v->kindOf x≠some .local ->
   bindC kindOf (P.zip vs) m x=some v
 | [],_,_,_,_,h,_,_=>by simp at h
 | _ :: _,[],_,_,_,_,h,_=>by simp at h
 | p :: P,w :: vs,0,m,nd,h1,h2,hk=>by
   simp at h1 h2; subst h1; subst h2
   show bindC kindOf ((p,w) :: P.zip vs) m p=_
   unfold bindC
   rw [jL fun v hv=>(List.nodup_cons.mp nd).1 (JP hv).1,if_neg hk]
   simp
 | p :: P,w :: vs,i + 1,m,nd,h1,h2,hk=>by
   show bindC kindOf ((p,w) :: P.zip vs) m x=_
   unfold bindC
   exact jK (i:=i) (List.nodup_cons.mp nd).2 (by simpa using h1) (by simpa using h2) hk

/-- the Ej values at the entry -/
def start (N:List Str)(vs:List V):St:=vs.map some++Jt (N.length - vs.length) none

/-- the context of a def's body,at its entry; an exception leaves the frame,then lies as CX says -/
def bX (CX:CXT)(P:Program)(w:World)(K:FX)(mg:Str->Option Value)(base:Heap)(N:List Str)(qual:Str)(scope:Scope)(f:Addr)(cd:Value)(A:Around)(outer:List Env)(s:Shared)(H:Hp)(E:XK):Cx where
 prog:=P
 w:=w
 K:=K
 mg:=mg
 base:=base
 A:=A.deeper (envOfC qual scope s.heap.objs.size f cd)
 N:=N
 s₀:=s
 H₀:=H
 env:=envOfC qual scope s.heap.objs.size f cd
 outer:=outer
 stack:=envOfC qual scope s.heap.objs.size f cd :: outer
 ex:=[]
 calm:=true
 fn:=fun _=>true
 pn:=[]
 xe:=fun e s'=>wpAny (model P w) (A.deeper (envOfC qual scope s.heap.objs.size f cd)) (leaving (envOfC qual scope s.heap.objs.size f cd) e) (fun _ Ep=>CX outer H s E e Ep) (fun e' Ep=>CX outer H s E e' Ep) s'

theorem lV {sc:Scope}{n:Nat}{x:Str}(h:sc.names.lookup x=some .cell):∃c,(cellsFrom n sc.names []).lookup x=some c:=by
 have q:=JZ sc.names n [] (.inl h)
 exact Option.isSome_iff_exists.mp q

theorem qC {CX:CXT}{P:Program}{w:World}{K:FX}{mg:Str->Option Value}{base:Heap}{N ps:List Str}{qual:Str}{scope:Scope}{f:Addr}{cd:Value}{A:Around}{outer:List Env}{s s1:Shared}{H:Hp}{E:XK}{us:List Value}{vs:List V}
   (S:ay N ps scope) (hd:A.handled=none) (e0:mY P w K mg base A outer s H) (hl:vs.length=ps.length) (r:Vals vs us)
   (x:InCallC s s.heap.objs.size (bindL (envOfC qual scope s.heap.objs.size f cd).kindOf (ps.zip us) fun _=>none) (cellsFrom (s.heap.objs.size + 1) scope.names []) (bindC (envOfC qual scope s.heap.objs.size f cd).kindOf (ps.zip us) fun _=>none) s1) :
   Inv (bX CX P w K mg base N qual scope f cd A outer s H E) [] (start N vs) H s1:=by
 have hpl:ps.length<=N.length:=by have:=congrArg Ia S.pre; rw [Gh] at this; omega
 obtain ⟨h1,tk,rfl,hk⟩:=x.done
 have noA:∀b:Addr,b ∉ (bX CX P w K mg base N qual scope f cd A outer s H E).ex:=fun b z=>absurd (show b∈([]:List Addr) from z) (by simp)
 refine ⟨⟨e0.mod,S.kind,rfl,rfl,F8 _,fun y z c h1 h2=>?_,fun y hy=>?_,fun y c _ h=>?_,fun _=>hd,Around.frames_deeper e0.frames,.inr ⟨rfl,rfl⟩,fun b z=>absurd z (noA b),e0.bs,e0.bsz,fun b _ _=>noA b,fun b z=>absurd z (noA b),e0.funs,e0.frf⟩,
   rfl,e0.bare,Un.kept hk,⟨_,x.toInCall.ns,fun i y v h1 h2 h3=>?_⟩,fun y c h=>⟨_,x.cell y c h⟩,e0.hok.fresh (F8 _),fun y c h=>?_,fun p hp=>absurd (show p∈([]:List (Addr×Obj)) from hp) (by simp),e0.hok.kept hk,?_⟩
 · exact name_of_addr x.apart (GF h1) (GF h2)
 · have hy:scope.names.lookup y=some .cell\/scope.names.lookup y=some .free:=hy
   rcases hy with hy | hy
   · exact lV hy
   · exact absurd rfl (S.nofree _ (GF hy))
 · exact Hn (x.above y c (GF h))
 · have hi:i < vs.length:=by
     unfold start at h2
     by_cases hi:i < vs.length
     · exact hi
     · rw [G6 (by simpa using hi)] at h2
       rw [Kh] at h2
       split at h2 <;> cases h2
   have ha:vs[i]? = some v:=by
     unfold start at h2
     rw [IF (by simpa using hi),GI] at h2
     cases e:vs[i]? with
     | none=>rw [e] at h2; cases h2
     | some a=>rw [e] at h2; cases h2; rfl
   obtain ⟨u,hu,rv⟩:=r.get ha
   have hp:ps[i]? = some y:=by
     rw [← S.pre,Ke (by omega)]; exact h1
   have EW:ps.Nodup:=by rw [← S.pre]; exact S.nd.sublist (List.take_sublist _ _)
   refine ⟨u,rv,?_⟩
   rcases S.par y (Gx hp) with k | k
   · exact .inl ⟨k,jM EW hp hu k⟩
   · obtain ⟨c,e⟩:=lV (n:=s.heap.objs.size + 1) k
     refine .inr ⟨.inl k,c,e,?_⟩
     have q:=x.cell y c e
     rw [jK EW hp hu (by show scope.names.lookup y≠_; rw [k]; decide)] at q
     exact q
 · exact e0.hok.fresh (Hn (x.above y c (GF h)))
 · unfold start
   show _=N.length
   rw [FZ,F0,Je]
   omega

/-- THE RULE: a def (or a method) of the text,by its body. FQ DV reading t is DX for each entry; it is run at the mL values -/
theorem yg {CX:CXT}{P:Program}{w:World}{K:FX}{mg:Str->Option Value}{base:Heap}{k:Nat}{f:Addr}{name qual:Str}{params:Arguments}{body:List Stmt}{scope:Scope}{dV kV doc pm cdv ct oc:Value}{an od:Option Addr}
   {osl:Array (Option Value)} {N ps:List Str} {sp:Sp} (lk:K.lookup f=some ⟨oc,od,.func (HB name qual params body scope dV kV doc pm an cdv ct),osl⟩) (hcd:Jd K cdv qual=true) (S:ay N ps scope)
   (len:∀vs H Q E,sp vs H Q E->vs.length=ps.length)
   (hbody:∀(A:Around) (outer:List Env) (s:Shared) (H:Hp) (vs:List V) (Q:VK) (E:XK),bw k (A.deeper (envOfC qual scope s.heap.objs.size f cdv))->sp vs H Q E ->
     ∃t,jI (bX CX P w K mg base N qual scope f cdv A outer s H E) body t/\t { nx:=fun _ H'=>Q .bq H',rt:=Q } (start N vs) H) :
   aN P w K mg base CX (k + 1) f (HB name qual params body scope dV kV doc pm an cdv ct) ps sp:=by
 refine ⟨len,fun A outer s H args us vs Q E hr e0 hb r hsp=>?_⟩
 have hl:=len _ _ _ _ hsp
 have KX:K.In s.heap:=e0.mod.kin.keeps fun b o e=>(e0.bs b o e).1
 have lim:s.heap.NoLimit:=e0.mod.nolimit.keeps fun b o e=>(e0.bs b o e).1
 have BY:∀y∈ps.zip us,scope.names.lookup y.1=some .local\/(scope.names.lookup y.1=some .cell/\((cellsFrom (s.heap.objs.size + 1) scope.names []).lookup y.1).isSome=true):=fun ⟨n,v⟩ hy=>by
   rcases S.par n (JP hy).1 with q | q
   · exact .inl q
   · exact .inr ⟨q,JZ _ _ _ (.inl q)⟩
 refine codeAny_call_function hr.depth (KX _ _ lk) rfl S.co S.gen rfl (PySem.W.codeRec_of KX hcd) (hb _ _ _ _ ?_)
 refine wpAny_newFunctionEnv_cells S.kind BY fun env he s1 x=>?_
 subst he
 refine ⟨lim.keeps x.toInCall.keep,codeAny_func ?_⟩
 obtain ⟨t,ht,hq⟩:=hbody A outer s H vs Q E (hr.deeper _) hsp
 have I:Inv (bX CX P w K mg base N qual scope f cdv A outer s H E) [] (start N vs) H s1:=qC S hr.hd e0 hl r x
 refine wpAny_mono (ht [] s1 (start N vs) H _ I hq) (fun fl s' hs=>?_) fun e s' hs=>hs
 have fin:∀{σ':St} {H':Hp} {v:V} {u:Value},Inv (bX CX P w K mg base N qual scope f cdv A outer s H E) [] σ' H' s'->RelV v u->Q v H'->CE outer P w H s Q u s':=
   fun {σ' H' v u} J rv q=>⟨v,H',J.os,J.bare,J.base,J.hok,rv,q⟩
 cases fl with
 | ret u=>
   obtain ⟨v,σ',H',J,rv,q⟩:=hs
   exact fin J rv q
 | next=>
   obtain ⟨σ',H',J,q⟩:=hs
   exact fin (v:=V.bq) (u:=Hj) J rfl q
 | brk=>
   obtain ⟨_,_,_,q⟩:=hs
   exact HJ q
 | cont=>
   obtain ⟨_,_,_,q⟩:=hs
   exact HJ q
end L2

namespace L2
open PySem PySem.Spec PyProof.Rows
section
variable {X:Cx}{x:Str}{p pos:Pos}{e:Expr}{es:List Expr}{t:TA}{id T:String}{r:List V->Hp->VK->Prop}

def Bn (r:List V->Hp->VK->Prop)(t:TA):TE:=fun σ H Q=>t σ H fun vs H1=>r vs H1 Q
/-- f(e,..),f a built-in function -/
theorem uq (hc:bY X (.builtin id) r)(hg:Gl X x)(hm:X.mg x=none)(hv:bootBuiltins x=some (.builtin id))(ha:PA X (e :: es) t)(hn:x≠"__name__":=by decide)(hdb:(x == ("__debug__":Str))=false:=by decide)
   (he:starEach (e :: es) X.env=(false,eval e X.env) :: starEach es X.env:=by rfl) (hpl:(backTo pos (starEach es X.env)).any (·.1)=false:=by rfl):PE X (.Call (.Name x p) (e :: es) [] pos) (Bn r t):=by
 intro pins s σ H Q I h
 refine wpAny_Call_Name_kw (gC I hg hm hv ?_ hn hdb)
 exact PyProof.Rows.callWith_builtin1 (aV (ha pos pins s σ H _ I h) fun us s1 ⟨vs,H1,I1,r1,q1⟩=>hc pins s1 σ H1 vs us Q I1 r1 q1) he hpl
/-- T(e,..),T a built-in type -/
theorem rf (hc:bY X (.type T) r)(hg:Gl X x)(hm:X.mg x=none)(hv:bootBuiltins x=some (.type T))(ha:PA X (e :: es) t)(hn:x≠"__name__":=by decide)(hdb:(x == ("__debug__":Str))=false:=by decide)
   (he:starEach (e :: es) X.env=(false,eval e X.env) :: starEach es X.env:=by rfl) (hpl:(backTo pos (starEach es X.env)).any (·.1)=false:=by rfl):PE X (.Call (.Name x p) (e :: es) [] pos) (Bn r t):=by
 intro pins s σ H Q I h
 refine wpAny_Call_Name_kw (gC I hg hm hv ?_ hn hdb)
 exact HM (aV (ha pos pins s σ H _ I h) fun us s1 ⟨vs,H1,I1,r1,q1⟩=>hc pins s1 σ H1 vs us Q I1 r1 q1) he hpl
end
end L2

namespace HT
open PySem PyProof.Rows


section
variable {prog:Program}{w:World}{A:Around}{E:Value->Shared->Prop}{s:Shared}

/-- t + u,t not empty -/
theorem vM {t b:Addr}{vs ws:List Value}{Q:Value->Shared->Prop}(ht:IsTup s.heap t vs.toArray)(hb:IsTup s.heap b ws.toArray)(hv:vs≠[])
   (h1:ws=[]->Q (.ref t) s) (h2:ws≠[]->Q (.ref s.heap.objs.size) { s with heap:=s.heap.push { cls:=.type "tuple",data:=.seq (vs++ws).toArray } })
   (hsz:vs.length + ws.length<=sizeLine):wpAny (model prog w) A (binaryOp .Add (.ref t) (.ref b)) Q E s:=by
 obtain ⟨⟨cls,dd,data,sl⟩,ho,hc,n,hd⟩:=id ht
 obtain ⟨⟨Fs,EK,data2,sl2⟩,ho2,hc2,n2,hd2⟩:=id hb
 simp only at hc hd hc2 hd2
 subst hc hd hc2 hd2
 have e:vs.toArray++ws.toArray=(vs++ws).toArray:=by simp
 by_cases hw:ws=[]
 · exact concat_meets ⟨_,ho,rfl⟩ ⟨_,ho2,rfl⟩ noFill_tuple_add seq_tuple_add J1 JT (JM _ _)
     (tuple_addW1 t b vs.toArray ws.toArray n n2 dd EK sl sl2 (by simpa using hv) (by simp [hw])) ⟨ho,ho2,h1 hw⟩
 · refine concat_meets ⟨_,ho,rfl⟩ ⟨_,ho2,rfl⟩ noFill_tuple_add seq_tuple_add J1 JT (JM _ _)
     (tuple_addW2 t b vs.toArray ws.toArray n n2 dd EK sl sl2 (by simpa using hv) (by simpa using hw) (by rw [Ge,Ge]; exact hsz)) ⟨ho,ho2,?_⟩
   rw [e]
   exact h2 hw

/-! ### t[a:b],not the whole -/
/-- a xT bound as a place among n (d where it is left out) -/
def fm (n d:Nat):Option Int->Nat
 | none=>d
 | some v=>if v < 0 then (v + (n:Int)).toNat else min v.toNat n
theorem mR (n d:Nat):fm n d none=d:=rfl
theorem cS (n d k:Nat):fm n d (some (k:Int))=min k n:=by
 show (if (k:Int) < 0 then ((k:Int) + (n:Int)).toNat else min (k:Int).toNat n)=min k n
 rw [if_neg (by omega),JF]
end
end HT

namespace L2
open PySem PySem.Spec PyProof.Rows

/-! ### the parts of a slice -/
abbrev TO:=St->Hp->(Option Int->Hp->Prop)->Prop
/-- a xT part (left out,or an int) -/
def PO (X:Cx)(e:Option Expr)(t:TO):Prop:=
 ∀(pins:List (Addr×Obj)) (s:Shared) (σ:St) (H:Hp) (Q:Option Int->Hp->Prop),Inv X pins σ H s->t σ H Q ->
   wpAny (model X.prog X.w) X.A (evalPart e X.env) (fun u s'=>∃o H',Inv X pins σ H' s'/\IsPart u o/\Q o H') X.xe s
def fY:TO:=fun _ H Q=>Q none H
def fZ (t:TE):TO:=fun σ H Q=>t σ H fun x H1=>∃i,x=.int i/\Q (some i) H1

section
variable {X:Cx}{e:Expr}{te:TE}{lo hi:Option Expr}{tl th:TO}{pos p2:Pos}

theorem iq:PO X none fY:=by
 intro pins s σ H Q I h
 rw [evalPart_none]
 exact wpAny_pure ⟨none,H,I,.none,h⟩
theorem cP (h:PE X e te):PO X (some e) (fZ te):=by
 intro pins s σ H Q I hw
 rw [evalPart_some]
 refine aV (h pins s σ H _ I hw) fun u s1 ⟨x,H1,I1,r1,q1⟩=>?_
 obtain ⟨i,rfl,q⟩:=q1
 obtain ⟨t,rfl⟩:=r1
 exact ⟨some i,H1,I1,.int i t,q⟩

/-- what a slice of a value is,by values: the slice object stands at sl -/
def DE (X:Cx)(r:V->Option Int->Option Int->Hp->VK->Prop):Prop:=
 ∀(pins:List (Addr×Obj)) (s:Shared) (σ:St) (H:Hp) (x:V) (v vl vu:Value) (lo hi:Option Int) (sl:Addr) (Q:VK),Inv X pins σ H s->RelV x v->s.heap.IsSliceOf sl vl vu .none->IsPart vl lo->IsPart vu hi->r x lo hi H Q ->
   ∃T id,typeLookup (.type T) "__getitem__"=pure (some (.builtin id))/\s.TypeIs v T/\wpAny (model X.prog X.w) X.A (getItem v (.ref sl)) (EP X pins σ Q) X.xe s
def A4 (r:V->Option Int->Option Int->Hp->VK->Prop)(te:TE)(tl th:TO):TE:=fun σ H Q=>te σ H fun x H1=>tl σ H1 fun l H2=>th σ H2 fun u H3=>r x l u H3 Q
/-- a[lo:hi],any a -/
theorem dj {r:V->Option Int->Option Int->Hp->VK->Prop}(hr:DE X r)(he:PE X e te)(hl:PO X lo tl)(hu:PO X hi th):PE X (.Subscript e (.Slice lo hi none p2) pos) (A4 r te tl th):=by
 intro pins s σ H Q I h
 refine Subscript_ (aV (he pins s σ H _ I h) fun v s1 ⟨x,H1,I1,r1,q1⟩=>?_)
 refine wpAny_Slice (aV (hl pins s1 σ H1 _ I1 q1) fun vl s2 ⟨l,H2,I2,pl,q2⟩=>aV (hu pins s2 σ H2 _ I2 q2) fun vu s3 ⟨u,H3,I3,pu,q3⟩=>?_)
 rw [evalPart_none]
 refine wpAny_pure ?_
 have I4:Inv X pins σ H3 { s3 with heap:=s3.heap.push { cls:=.type "slice",data:=.fields #[vl,vu,.none] } }:=I3.kept (t':=s3.toks) fun b ob q=>F6 _ q
 obtain ⟨T,id,hT,ht,hg⟩:=hr pins { s3 with heap:=s3.heap.push { cls:=.type "slice",data:=.fields #[vl,vu,.none] } } σ H3 x v vl vu l u s3.heap.objs.size Q I4 r1 (Heap.IsSliceOf.new ..) pl pu q3
 show wpAny (model X.prog X.w) X.A (subscriptTail e (.Slice lo hi none p2) v (.ref s3.heap.objs.size)) (EP X pins σ Q) X.xe { s3 with heap:=s3.heap.push { cls:=.type "slice",data:=.fields #[vl,vu,.none] } }
 exact tail_any (ops:=[.ref s3.heap.objs.size,v]) ht hT hg (by with_unfolding_all rfl)

/-- the items of xs[lo:hi] -/
def dO (xs:List V)(lo hi:Option Int):List V:=(xs.drop (HT.fm xs.length 0 lo)).take (HT.fm xs.length xs.length hi - HT.fm xs.length 0 lo)
theorem lY (xs:List V)(lo hi:Option Int):(dO xs lo hi).length<=xs.length:=by
 unfold dO
 rw [Gh,GA]
 omega
/-! ### t < u,t + u -/
/-- t + u,t not empty: u empty gives t itself -/
def yy (K:FX):R2:=fun x y H Q=>∃a b xs ys,x=.ref a/\y=.ref b/\bc K H a xs/\bc K H b ys/\xs≠[]/\xs.length + ys.length<=sizeLine /\
 (ys=[]->Q (.ref a) H)/\(ys≠[]->∀p,H p=none->Q (.ref p) (upd H p (.tup (xs++ys))))
theorem Vals.lg {xs:List V}{us:List Value}(r:Vals xs us):us=[]↔xs=[]:=by
 cases r with
 | nil=>simp
 | cons _ _=>simp
theorem xb:eO X (binaryOp .Add) (yy X.K):=by
 intro pins s σ H x y v u Q I rx ry h
 obtain ⟨a,b,xs,ys,rfl,rfl,ha,hb,hx,hz,q1,q2⟩:=h
 cases rx
 cases ry
 obtain ⟨its,r1,p1,_⟩:=I.tuple ha
 obtain ⟨its2,r2,p2,_⟩:=I.tuple hb
 refine HT.vM p1 p2 (fun z=>hx (r1.lg.mp z)) (fun z=>⟨.ref a,H,I,rfl,q1 (r2.lg.mp z)⟩) (fun z=>?_) (by rw [← r1.length,← r2.length]; exact hz)
 refine ⟨.ref s.heap.objs.size,_,I.laid (t':=s.toks) (o:=.tup (xs++ys)) (fun b ob q=>F6 _ q) (F8 _) ?_,rfl,q2 (fun w=>z (r2.lg.mpr w)) _ (I.hok.fresh (F8 _))⟩
 exact ⟨by rw [FZ]; exact hz,_,r1.append r2,IsTup.new _ _⟩
end
end L2

namespace L2
open PySem PySem.Spec PyProof.Rows

/-! ### places -/
/-- the place that an index of any sign means -/
def mr (n:Nat)(i:Int):Option Nat:=if 0<=i then (if i < n then some i.toNat else none) else if -(n:Int)<=i then some (i + n).toNat else none
def jo {α:Type}(xs:List α)(i:Int):Option α:=(mr xs.length i).bind fun j=>xs[j]?
theorem oY {n:Nat}{i:Int}{j:Nat}(h:mr n i=some j):JL i n=some j/\j < n /\ -(n:Int)<=i/\i < n:=by
 unfold mr at h
 by_cases h0:0<=i
 · rw [if_pos h0] at h
   by_cases h1:i < n
   · rw [if_pos h1] at h
     have e:i.toNat=j:=Gm h
     exact ⟨by rw [seqIndex_of h0 h1,e],by omega,by omega,h1⟩
   · rw [if_neg h1] at h; cases h
 · rw [if_neg h0] at h
   by_cases h1 : -(n:Int)<=i
   · rw [if_pos h1] at h
     have e:(i + n).toNat=j:=Gm h
     exact ⟨by rw [seqIndex_neg (by omega) h1,e],by omega,h1,by omega⟩
   · rw [if_neg h1] at h; cases h
theorem bo {α:Type}{xs:List α}{i:Int}{v:α}(h:jo xs i=some v):∃j,JL i xs.length=some j/\xs[j]? = some v/\j < xs.length /\ -(xs.length:Int)<=i/\i < xs.length:=by
 unfold jo at h
 cases e:mr xs.length i with
 | none=>rw [e] at h; cases h
 | some j=>
   rw [e] at h
   obtain ⟨h1,h2,h3,h4⟩:=oY e
   exact ⟨j,h1,h,h2,h3,h4⟩
theorem eI {α:Type}{xs:List α}{j:Nat}{v:α}(h:xs[j]? = some v):jo xs (j:Int)=some v:=by
 have hj:j < xs.length:=(List.getElem?_eq_some_iff.mp h).1
 have e:mr xs.length (j:Int)=some j:=by
   unfold mr
   rw [if_pos (by omega),if_pos (by omega)]; simp
 unfold jo; rw [e]; exact h
theorem ck {α:Type}(xs:List α)(v:α):jo (xs++[v]) (-1)=some v:=by
 have hl:(xs++[v]).length=xs.length + 1:=by simp
 have e:mr (xs++[v]).length (-1)=some xs.length:=by
   unfold mr
   rw [hl,if_neg (by decide),if_pos (by omega)]
   congr 1
   omega
 unfold jo
 rw [e]
 show (xs++[v])[xs.length]? = some v
 simp

/-! ### what may be subscripted -/
/-- what stands as an index of a plain subscript -/
def oI (b:Expr):Prop:=∀o i,subscripted b false o i=operate [o,i] (getItem o i)
/-- a subscript by values -/
def Bs (X:Cx)(r:R2):Prop:=
 ∀(value slice:Expr) (pins:List (Addr×Obj)) (s:Shared) (σ:St) (H:Hp) (x y:V) (v u:Value) (Q:VK),Inv X pins σ H s->RelV x v->RelV y u->r x y H Q ->
   subscripted slice false v u=operate [v,u] (getItem v u)->wpAny (model X.prog X.w) X.A (subscriptTail value slice v u) (EP X pins σ Q) X.xe s
/-- a call of a builtin's method by values: the receiver,the arguments -/
def yb (X:Cx)(id:String)(r:V->List V->Hp->VK->Prop):Prop:=
 ∀(pins:List (Addr×Obj)) (s:Shared) (σ:St) (H:Hp) (x:V) (xs:List V) (v:Value) (us:List Value) (Q:VK),Inv X pins σ H s->RelV x v->Vals xs us->r x xs H Q ->
   wpAny (model X.prog X.w) X.A (call (.builtin id) (v :: us)) (EP X pins σ Q) X.xe s
section
variable {X:Cx}{a b:Expr}{ta tb:TE}{pos:Pos}
/-- a[b] -/
theorem Ct {r:R2}(hr:Bs X r)(ha:PE X a ta)(hb:PE X b tb)(hs:oI b):PE X (.Subscript a b pos) (yJ r ta tb):=by
 intro pins s σ H Q I h
 exact Subscript_ (yY ha hb I h fun v u s2 x y H2 I2 rx ry q=>hr a b pins s2 σ H2 x y v u Q I2 rx ry q (hs _ _))

def CJ (K:FX):R2:=fun x y H Q=>∃p xs i v,x=.ref p/\y=.int i/\aw K H p xs/\jo xs i=some v/\Q v H
def CL (K:FX):R2:=fun x y H Q=>∃p xs i v,x=.ref p/\y=.int i/\bc K H p xs/\jo xs i=some v/\Q v H
def CK:R2:=fun x y H Q=>∃z i c,x=.str z/\y=.int i/\z.length<=sizeLine/\jo z.cps.toList i=some c/\Q (.str ⟨#[c]⟩) H
theorem wz:Bs X (CJ X.K):=by
 intro value slice pins s σ H x y v u Q I rx ry h hs
 obtain ⟨p,xs,i,z,rfl,rfl,hq,he,q⟩:=h
 cases rx
 obtain ⟨t,rfl⟩:=ry
 obtain ⟨its,r,pl,hz⟩:=I.list hq
 obtain ⟨j,h1,h2,h3,h4,h5⟩:=bo he
 obtain ⟨w,ew,rw'⟩:=r.get h2
 have hl:=r.length
 have hn:=gF
 have fin:EP X pins σ Q w s:=⟨z,H,I,rw',q⟩
 by_cases h0:0<=i
 · have hj:i.toNat=j:=by
     rw [seqIndex_of h0 h5] at h1
     exact Gm h1
   exact item_listR pl.isList h0 (by omega) (by rw [hj]; simpa using ew) fin hs
 · have hj:(i + (its.toArray.size:Int)).toNat=j:=by
     rw [seqIndex_neg (by omega) h4] at h1
     rw [Ge,← hl]
     exact Gm h1
   exact subscriptTail_builtinR (x:=w) pl.isList.typeIs slot_list_getitem.lookup
     (wpAny_getItem_list_neg (Q:=fun r s'=>r=w/\EP X pins σ Q r s') pl.isList (by omega) (by rw [Ge] <;> omega) (by omega) (by rw [hj]; simpa using ew) ⟨rfl,fin⟩) hs
theorem zx:Bs X (CL X.K):=by
 intro value slice pins s σ H x y v u Q I rx ry h hs
 obtain ⟨p,xs,i,z,rfl,rfl,hq,he,q⟩:=h
 cases rx
 obtain ⟨t,rfl⟩:=ry
 obtain ⟨its,r,pl,hz⟩:=I.tuple hq
 obtain ⟨j,h1,h2,h3,h4,h5⟩:=bo he
 obtain ⟨w,ew,rw'⟩:=r.get h2
 have hl:=r.length
 have hn:=gF
 have fin:EP X pins σ Q w s:=⟨z,H,I,rw',q⟩
 exact subscriptTail_builtinR (x:=w) pl.typeIs slot_tuple_getitem.lookup
   (getItem_tuple (j:=j) (Q:=fun r s'=>r=w/\EP X pins σ Q r s') pl (by omega) (by omega) (by rw [Ge,← hl]; exact h1) (by simpa using ew) ⟨rfl,fin⟩) hs
theorem zw:Bs X CK:=by
 intro value slice pins s σ H x y v u Q I rx ry h hs
 obtain ⟨z,i,c,rfl,rfl,hz,he,q⟩:=h
 obtain ⟨t,rfl⟩:=rx
 obtain ⟨t',rfl⟩:=ry
 obtain ⟨j,h1,h2,h3,h4,h5⟩:=bo he
 have hl:z.cps.toList.length=z.length:=by simp [Str.length]
 rw [hl] at h1 h4 h5
 have hn:=gF
 exact tail_any (typeIs_str s z t) slot_str_getitem.lookup (getItem_str (c:=c) (by
   have e1:decide (i < -(2 ^ 63:Int))=false:=decide_eq_false (by omega)
   have e2:decide (i ≥ 2 ^ 63)=false:=decide_eq_false (by omega)
   rw [e1,e2,Bool.or_false]) (by rw [h1]; simpa using h2) ⟨.str ⟨#[c]⟩,H,I.tok _,⟨_,rfl⟩,q⟩) hs
/-! ### xs[i]=v,any sign -/
/-- the zG object behind a store -/
theorem nW (its:List Value)(n j:Nat)(u:Value):JE (·.setIfInBounds j u) { cls:=.type "list",data:=.seq its.toArray n }={ cls:=.type "list",data:=.seq (its.set j u).toArray n }:=by
 simp [JE]
theorem Inv.lst {pins:List (Addr×Obj)}{σ:St}{H:Hp}{s:Shared}{p:Addr}{xs:List V}(I:Inv X pins σ H s)(h:H p=some (.lst xs)) :
   ∃(its:List Value) (n:Nat),Vals xs its/\s.heap.get? p=some { cls:=.type "list",data:=.seq its.toArray n }/\xs.length<=sizeLine:=by
 obtain ⟨z,its,n,r,e⟩:=I.hok p _ h
 exact ⟨its,n,r,e,z⟩
/-- the list at p is written by an update of its object -/
theorem Inv.zJ {pins:List (Addr×Obj)}{σ:St}{H:Hp}{s:Shared}{p:Addr}{xs ys:List V}{its its':List Value}{n n':Nat}{f:Obj->Obj}(I:Inv X pins σ H s)(h:H p=some (.lst xs))
   (ho:s.heap.get? p=some { cls:=.type "list",data:=.seq its.toArray n }) (hf:f { cls:=.type "list",data:=.seq its.toArray n }={ cls:=.type "list",data:=.seq its'.toArray n' }) (r:Vals ys its') (hz:ys.length<=sizeLine) (t:Nat) :
   Inv X pins σ (upd H p (.lst ys)) { s with heap:=s.heap.update p f,toks:=t }:=by
 have e:(s.heap.update p f).get? p=some { cls:=.type "list",data:=.seq its'.toArray n' }:=by
   rw [Jg f ho (by rw [hf] <;> rfl),hf]
 refine I.write (x:=p) (e:=p) (by rw [h]; trivial) (.inl rfl) (fun b u hb q=>(Iq _ _ (Ne.symm hb)).trans q) ⟨_,e⟩ ?_
 exact ⟨hz,its',n',r,e⟩
def mQ:V->V->V->Hp->(Hp->Prop)->Prop:=fun o i v H Q=>∃p xs k j,o=.ref p/\i=.int k/\H p=some (.lst xs)/\mr xs.length k=some j/\Q (upd H p (.lst (xs.set j v)))
theorem set_list:Bv X mQ:=by
 intro pins s σ H o i v ov iv u Q I ro ri rv h
 obtain ⟨p,xs,k,j,rfl,rfl,hp,hj,q⟩:=h
 cases ro
 obtain ⟨t,rfl⟩:=ri
 obtain ⟨its,n,r,ho,hz⟩:=I.lst hp
 obtain ⟨h1,h2,h3,h4⟩:=oY hj
 have hl:=r.length
 have hn:=gF
 have I':Inv X pins σ (upd H p (.lst (xs.set j v))) { s with heap:=s.heap.update p (JE (·.setIfInBounds j u)) }:=
   I.zJ hp ho (nW its n j u) (r.set rv j) (by rw [Hg]; exact hz) s.toks
 by_cases h0:0<=k
 · have hk:k.toNat=j:=by
     rw [seqIndex_of h0 h4] at h1
     exact Gm h1
   exact PySem.W.ki_setAt ho h0 (by omega) (by rw [Ge,← hl]; exact h4) (by rw [hk]; exact ⟨_,I',q⟩)
 · have hk:(k + (its.toArray.size:Int)).toNat=j:=by
     rw [seqIndex_neg (by omega) h3] at h1
     rw [Ge,← hl]
     exact Gm h1
   exact PySem.W.ki_setBack ho (by omega) (by rw [Ge,← hl]; exact h3) (by omega) (by rw [hk]; exact ⟨_,I',q⟩)

/-! ### slices -/
theorem lG (lo hi:Option Int)(n:Nat):(sliceBounds lo hi none n).1=((HT.fm n 0 lo:Nat):Int)/\(sliceBounds lo hi none n).2.1=((HT.fm n n hi:Nat):Int)/\(sliceBounds lo hi none n).2.2=1:=by
 refine ⟨?_,?_,rfl⟩
 · cases lo with
   | none=>simp [sliceBounds,HT.fm]
   | some i=>
     simp only [sliceBounds,HT.fm,Option.getD_none,show (1:Int) > 0 by decide,if_true]
     by_cases h:i < 0
     · simp only [h,if_true] <;> omega
     · simp only [h,if_false] <;> omega
 · cases hi with
   | none=>simp [sliceBounds,HT.fm]
   | some i=>
     simp only [sliceBounds,HT.fm,Option.getD_none,show (1:Int) > 0 by decide,if_true]
     by_cases h:i < 0
     · simp only [h,if_true] <;> omega
     · simp only [h,if_false] <;> omega
theorem jE (its:List Value)(lo hi:Option Int):slicePick its.toArray lo hi none=((its.drop (HT.fm its.length 0 lo)).take (HT.fm its.length its.length hi - HT.fm its.length 0 lo)).toArray:=by
 obtain ⟨h1,h2,h3⟩:=lG lo hi its.toArray.size
 unfold slicePick
 rw [h1,h2,h3]
 simp only [sliceRange_one,pick_run,Ge] <;> rfl
/-- xs[lo:hi] of a list: a new list -/
def xJ (K:FX):V->Option Int->Option Int->Hp->VK->Prop:=fun x lo hi H Q=>∃a xs,x=.ref a/\aw K H a xs/\∀p,H p=none->Q (.ref p) (upd H p (.lst (dO xs lo hi)))
theorem lF:DE X (xJ X.K):=by
 intro pins s σ H x v vl vu lo hi sl Q I rx hs pl pu h
 obtain ⟨a,xs,rfl,hx,q⟩:=h
 cases rx
 obtain ⟨its,r,ht,hz⟩:=I.list hx
 have hlen:=r.length
 refine ⟨"list",_,slot_list_getitem.lookup,ht.isList.typeIs,?_⟩
 refine wpAny_getItem_list_slice ht.isList hs pl pu .none (by simp) ?_ (by rw [Ge] <;> omega)
 rw [jE,← hlen]
 refine ⟨.ref s.heap.objs.size,_,I.laid (t':=s.toks) (o:=.lst (dO xs lo hi)) (fun b ob q=>F6 _ q) (F8 _) ?_,rfl,q _ (I.hok.fresh (F8 _))⟩
 exact ⟨F2 (lY xs lo hi) hz,_,0,(r.drop (HT.fm xs.length 0 lo)).take (HT.fm xs.length xs.length hi - HT.fm xs.length 0 lo),Gn _ rfl⟩

/-! ### in,not in: flat items -/
def de:V->Bool
 | .bq=>true
 | .bl _=>true
 | .int _=>true
 | .str _=>true
 | _=>false
/-- == of flat values -/
def l7:V->V->Bool
 | .bq,.bq=>true
 | .bl a,.bl b=>a == b
 | .bl a,.int b=>(if a then 1 else 0) == b
 | .int a,.bl b=>a == (if b then 1 else 0)
 | .int a,.int b=>a == b
 | .str a,.str b=>a == b
 | _,_=>false
theorem nh {A:Around}{s:Shared}{y x:V}{u v:Value}(ry:RelV y u)(rx:RelV x v)(fy:de y=true)(fx:de x=true):SeqAt.EqAt A s u v (l7 y x):=by
 cases y with
 | bq=>
   cases ry
   cases x with
   | bq=>cases rx; exact SeqAt.EqAt.same _
   | bl b=>cases rx; exact SeqAt.EqAt.none_bool b
   | int b=>obtain ⟨t,rfl⟩:=rx; exact SeqAt.EqAt.none_int b t
   | str b=>obtain ⟨t,rfl⟩:=rx; exact SeqAt.EqAt.none_str b t
   | _=>exact absurd (show false=true from fx) Gf
 | bl a=>
   cases ry
   cases x with
   | bq=>cases rx; exact SeqAt.EqAt.bool_none a
   | bl b=>cases rx; exact SeqAt.EqAt.bool_bool a b
   | int b=>obtain ⟨t,rfl⟩:=rx; exact SeqAt.EqAt.bool_int a b t
   | str b=>obtain ⟨t,rfl⟩:=rx; exact SeqAt.EqAt.bool_str a b t
   | _=>exact absurd (show false=true from fx) Gf
 | int a=>
   obtain ⟨t',rfl⟩:=ry
   cases x with
   | bq=>cases rx; exact SeqAt.EqAt.int_none a t'
   | bl b=>cases rx; exact SeqAt.EqAt.int_bool a t' b
   | int b=>obtain ⟨t,rfl⟩:=rx; exact SeqAt.EqAt.int_int a t' b t
   | str b=>obtain ⟨t,rfl⟩:=rx; exact J8 a t' b t
   | _=>exact absurd (show false=true from fx) Gf
 | str a=>
   obtain ⟨t',rfl⟩:=ry
   cases x with
   | bq=>cases rx; exact SeqAt.EqAt.str_none a t'
   | bl b=>cases rx; exact SeqAt.EqAt.str_bool a t' b
   | int b=>obtain ⟨t,rfl⟩:=rx; exact J7 a t' b t
   | str b=>obtain ⟨t,rfl⟩:=rx; exact SeqAt.EqAt.str_str a t' b t
   | _=>exact absurd (show false=true from fx) Gf
 | _=>exact absurd (show false=true from fy) Gf
/-- the Ee answers,read off the values (a Du own answer does not lean on its token) -/
def ni (x:V)(u:Value):Bool:=match u with
 | .none=>l7 .bq x
 | .bool b=>l7 (.bl b) x
 | .int i _=>l7 (.int i) x
 | .str z _=>l7 (.str z) x
 | _=>false
theorem sf {x y:V}{u:Value}(r:RelV y u)(f:de y=true):ni x u=l7 y x:=by
 cases y with
 | bq=>cases r; rfl
 | bl b=>cases r; rfl
 | int i=>obtain ⟨t,rfl⟩:=r; rfl
 | str z=>obtain ⟨t,rfl⟩:=r; rfl
 | _=>exact absurd (show false=true from f) Gf
theorem fw {x:V}:∀{xs:List V} {us:List Value},Vals xs us->xs.all de=true->us.any (ni x)=xs.any fun y=>l7 y x
 | _,_,.nil,_=>rfl
 | y :: xs,u :: us,.cons r t,f=>by
   rw [Jz,HE] at f
   rw [Jy,Jy,sf r f.1,fw t f.2]
theorem d7 {A:Around}{s:Shared}{x:V}{v:Value}(rx:RelV x v)(fx:de x=true):∀{xs:List V} {us:List Value},Vals xs us->xs.all de=true->∀u∈us,SeqAt.EqAt A s u v (ni x u)
 | _,_,.nil,_=>fun u hu=>by cases hu
 | y :: xs,u :: us,.cons r t,f=>fun u' hu=>by
   rw [Jz,HE] at f
   rcases List.mem_cons.mp hu with rfl | hu
   · rw [sf r f.1]; exact nh r rx f.1 fx
   · exact d7 rx fx t f.2 u' hu
def wk (x:V)(xs:List V):Bool:=xs.any fun y=>l7 y x
/-- x in a list or tuple of flat items -/
def Dn (K:FX)(neg:Bool):R2:=fun x y H Q=>∃p xs,y=.ref p/\(aw K H p xs\/bc K H p xs)/\de x=true/\xs.all de=true/\Q (.bl (if neg then !wk x xs else wk x xs)) H
theorem q9:eO X (compareOp .In) (Dn X.K false):=by
 intro pins s σ H x y v u Q I rx ry h
 obtain ⟨p,xs,rfl,hq,fx,fs,q⟩:=h
 cases ry
 rcases hq with hq | hq
 · obtain ⟨its,r,pl,hz⟩:=I.list hq
   refine SeqAt.in_listAt (ni x) pl.isList (fun w hw=>d7 rx fx r fs w (by simpa using hw)) ⟨.bl _,H,I,rfl,?_⟩
   rw [show its.toArray.any (ni x)=its.any (ni x) by simp,fw r fs]
   exact q
 · obtain ⟨its,r,pl,hz⟩:=I.tuple hq
   refine SeqAt.in_tupleAt (ni x) pl (fun w hw=>d7 rx fx r fs w (by simpa using hw)) ⟨.bl _,H,I,rfl,?_⟩
   rw [show its.toArray.any (ni x)=its.any (ni x) by simp,fw r fs]
   exact q
theorem lr:eO X (compareOp .NotIn) (Dn X.K true):=by
 intro pins s σ H x y v u Q I rx ry h
 obtain ⟨p,xs,rfl,hq,fx,fs,q⟩:=h
 cases ry
 rcases hq with hq | hq
 · obtain ⟨its,r,pl,hz⟩:=I.list hq
   refine SeqAt.notIn_listAt (ni x) pl.isList (fun w hw=>d7 rx fx r fs w (by simpa using hw)) ⟨.bl _,H,I,rfl,?_⟩
   rw [show its.toArray.any (ni x)=its.any (ni x) by simp,fw r fs]
   exact q
 · obtain ⟨its,r,pl,hz⟩:=I.tuple hq
   refine SeqAt.notIn_tupleAt (ni x) pl (fun w hw=>d7 rx fx r fs w (by simpa using hw)) ⟨.bl _,H,I,rfl,?_⟩
   rw [show its.toArray.any (ni x)=its.any (ni x) by simp,fw r fs]
   exact q
/-! ### len,list(x),tuple(x) of any list or tuple that is read -/
theorem kH:bY X (.builtin "len") (fun xs H Q=>∃p ys,xs=[.ref p]/\(aw X.K H p ys\/bc X.K H p ys)/\Q (.int ys.length) H):=by
 intro pins s σ H xs us Q I r h
 obtain ⟨p,ys,rfl,hq,q⟩:=h
 obtain ⟨u,rfl,rx⟩:=vals1 r
 cases rx
 have hn:=gF
 rcases hq with hq | hq
 · obtain ⟨its,r',pl,hz⟩:=I.list hq
   have hlen:=r'.length
   exact Calls.call_len_list pl.isList (by simp only [Ge] <;> omega) ⟨.int ys.length,H,I.tok _,⟨s.toks + 1,by rw [Ge,hlen]⟩,q⟩
 · obtain ⟨its,r',pl,hz⟩:=I.tuple hq
   have hlen:=r'.length
   exact len_tuple pl (by simp only [Ge] <;> omega) ⟨.int ys.length,H,I.tok _,⟨s.toks + 1,by rw [Ge,hlen]⟩,q⟩
theorem kI:bY X (.builtin "len") (fun xs H Q=>∃z,xs=[.str z]/\z.length<=sizeLine/\Q (.int z.length) H):=by
 intro pins s σ H xs us Q I r h
 obtain ⟨z,rfl,hz,q⟩:=h
 obtain ⟨u,rfl,t,rfl⟩:=vals1 r
 have hn:=gF
 exact len_str (by omega) ⟨.int z.length,H,I.tok _,⟨_,rfl⟩,q⟩
theorem kJ:bY X (.type "list") (fun xs H Q=>∃p ys,xs=[.ref p]/\(aw X.K H p ys\/bc X.K H p ys)/\∀l,H l=none->Q (.ref l) (upd H l (.lst ys))):=by
 intro pins s σ H xs us Q I r h
 obtain ⟨p,ys,rfl,hq,q⟩:=h
 obtain ⟨u,rfl,rx⟩:=vals1 r
 cases rx
 have fin:∀(its:List Value),Vals ys its->ys.length<=sizeLine->∀(h':Heap) (c':Nat),(∀b o',s.heap.get? b=some o'->h'.get? b=some o') ->
     h'.get? s.heap.objs.size=some { cls:=.type "list",dict:=none,data:=.seq its.toArray c',slots:=#[] }->EP X pins σ Q (.ref s.heap.objs.size) { s with heap:=h' }:=fun its r' hz h' c' kp e=>
   ⟨.ref s.heap.objs.size,_,I.laid (t':=s.toks) kp (F8 _) (show aZ X.prog X.w _ h' _ (.lst ys) from ⟨hz,its,c',r',e⟩),rfl,q _ (I.hok.fresh (F8 _))⟩
 rcases hq with hq | hq
 · obtain ⟨its,r',pl,hz⟩:=I.list hq
   have hlen:=r'.length
   obtain ⟨o,ho,hc,n,hd⟩:=pl.isList
   exact call_list_seq p (.inl rfl) ho hc hd (fun h' c' kp e=>fin its r' hz h' c' kp e) (by simp only [Ge] <;> omega)
 · obtain ⟨its,r',pl,hz⟩:=I.tuple hq
   have hlen:=r'.length
   obtain ⟨o,ho,hc,n,hd⟩:=pl
   exact call_list_seq p (.inr rfl) ho hc hd (fun h' c' kp e=>fin its r' hz h' c' kp e) (by simp only [Ge] <;> omega)
theorem js:bY X (.type "tuple") (fun xs H Q=>∃p ys,xs=[.ref p]/\((aw X.K H p ys/\∀l,H l=none->Q (.ref l) (upd H l (.tup ys)))\/(bc X.K H p ys/\Q (.ref p) H))):=by
 intro pins s σ H xs us Q I r h
 obtain ⟨p,ys,rfl,h⟩:=h
 obtain ⟨u,rfl,rx⟩:=vals1 r
 cases rx
 rcases h with ⟨hq,q⟩ | ⟨hq,q⟩
 · obtain ⟨its,r',pl,hz⟩:=I.list hq
   have hlen:=r'.length
   refine call_tuple_list pl.isList (fun h' kp=>?_) (by simp only [Ge] <;> omega)
   have I1:Inv X pins σ H { s with heap:=h' }:=I.kept (t':=s.toks) kp
   have I2:Inv X pins σ (upd H h'.objs.size (.tup ys)) { s with heap:=h'.push { cls:=.type "tuple",data:=.seq its.toArray } }:=
     I1.laid (t':=s.toks) (fun b o e=>F6 _ e) (F8 _) (show aZ X.prog X.w _ _ _ (.tup ys) from ⟨hz,its,r',IsTup.new _ _⟩)
   exact ⟨.ref h'.objs.size,_,I2,rfl,q _ (I1.hok.fresh (F8 _))⟩
 · obtain ⟨its,r',pl,hz⟩:=I.tuple hq
   exact call_tuple_same pl ⟨.ref p,H,I,rfl,q⟩

/-! ### the call of a builtin's method: o.m(..) -/
/-- the value is of that builtin type -/
def Et (K:FX)(T:String)(x:V)(H:Hp):Prop:=match x with
 | .str _=>T="str"
 | .int _=>T="int"
 | .ref p=>(T="list"/\∃xs,aw K H p xs)\/(T="tuple"/\∃o,K.lookup p=some o/\o.cls=.type "tuple"/\o.dict=none) \/
     (T="dict"/\((∃kvs,H p=some (.dK kvs))\/∃kvs,H p=some (.dT kvs)))\/(T="set"/\∃S n,H p=some (.set S n))
 | _=>False
theorem vo {pins:List (Addr×Obj)}{σ:St}{H:Hp}{s:Shared}{T:String}{x:V}{v:Value}(I:Inv X pins σ H s)(r:RelV x v)(ty:Et X.K T x H) :
   s.TypeIs v T/\∀a,v=.ref a->∃ob,s.heap.get? a=some ob/\ob.dict=none:=by
 cases x with
 | str z=>
   obtain ⟨t,rfl⟩:=r
   cases (show T="str" from ty)
   exact ⟨typeIs_str s z t,fun _ e=>nomatch e⟩
 | int i=>
   obtain ⟨t,rfl⟩:=r
   cases (show T="int" from ty)
   exact ⟨typeIs_int s i t,fun _ e=>nomatch e⟩
 | ref p=>
   cases r
   rcases ty with ⟨rfl,xs,hq⟩ | ⟨rfl,o,hk,hc,hd⟩ | ⟨rfl,hk⟩ | ⟨rfl,S,n,hk⟩
   · obtain ⟨its,_,pl,_⟩:=I.list hq
     refine ⟨pl.isList.typeIs,fun a e=>?_⟩
     cases e
     obtain ⟨o,n,e,c,hd,_⟩:=pl
     exact ⟨o,e,hd⟩
   · refine ⟨⟨o,I.kIn p o hk,hc⟩,fun a e=>?_⟩
     cases e
     exact ⟨o,I.kIn _ o hk,hd⟩
   · have z:∃o,s.heap.get? p=some o/\o.ExactDict:=by
       rcases hk with ⟨kvs,hk⟩ | ⟨kvs,hk⟩
       · obtain ⟨_,_,_,_,o,_,_,e,ex,_⟩:=I.hok p _ hk
         exact ⟨o,e,ex⟩
       · obtain ⟨_,_,_,_,o,_,_,e,ex,_⟩:=I.hok p _ hk
         exact ⟨o,e,ex⟩
     obtain ⟨o,e,ex⟩:=z
     refine ⟨⟨o,e,ex.1⟩,fun a e2=>?_⟩
     cases e2
     exact ⟨o,e,ex.2.1⟩
   · obtain ⟨o,_,_,_,e,ex,_⟩:=I.hok p _ hk
     refine ⟨⟨o,e,ex.1⟩,fun a e2=>?_⟩
     cases e2
     exact ⟨o,e,ex.2.1⟩
 | _=>exact HJ ty
def A0 (K:FX)(T:String)(r:V->List V->Hp->VK->Prop)(to:TE):TE:=fun σ H Q=>to σ H fun x H1=>Et K T x H1/\r x [] H1 Q
def AZ (K:FX)(T:String)(r:V->List V->Hp->VK->Prop)(to:TE)(t:TA):TE:=fun σ H Q=>to σ H fun x H1=>Et K T x H1/\t σ H1 fun xs H2=>r x xs H2 Q
variable {o e:Expr}{es:List Expr}{to:TE}{t:TA}{name:Str}{apos cpos:Pos}{T id:String}{r:V->List V->Hp->VK->Prop}
theorem uo (pa:PlainAttrs T)(slot:Slot T name id)(hty:typeOf (.builtin id)=pure (.type "method_descriptor"))(hm:yb X id r)(ho:PE X o to)
   (hbase:attributeBase o name X.env (eval o X.env)=eval o X.env:=by rfl) (hline:(apos.endLine == cpos.line)=true:=by rfl):PE X (.Call (.Attribute o name apos) [] [] cpos) (A0 X.K T r to):=by
 intro pins s σ H Q I h
 refine wpAny_Call_method0_late hbase hline (aV (ho pins s σ H _ I h) fun v s1 ⟨x,H1,I1,r1,ty,q1⟩=>?_)
 obtain ⟨h1,h2⟩:=vo I1 r1 ty
 exact ⟨T,id,pa,slot,hty,h1,h2,HP rfl (PySem.evalArgs_none (hm pins s1 σ H1 x [] v [] Q I1 r1 .nil q1))⟩
theorem Cs (pa:PlainAttrs T)(slot:Slot T name id)(hty:typeOf (.builtin id)=pure (.type "method_descriptor"))(hm:yb X id r)(ho:PE X o to)(ha:PA X (e :: es) t)
   (hbase:attributeBase o name X.env (eval o X.env)=eval o X.env:=by rfl)
   (hfew:((backTo cpos (starEach (e :: es) X.env)).all (fun x=>!x.1) && (backToKw cpos (keywordEach [] X.env)).all (fun x=>x.1.isSome)
     && decide ((e :: es).length + ([]:List Keyword).length + (if ([]:List Keyword).isEmpty then 0 else 1) < 30))=true:=by rfl)
   (hline:(apos.endLine == cpos.line)=true:=by rfl) (hs:starEach (e :: es) X.env=(false,eval e X.env) :: starEach es X.env:=by rfl) (hplain:(backTo cpos (starEach es X.env)).any (·.1)=false:=by rfl) :
   PE X (.Call (.Attribute o name apos) (e :: es) [] cpos) (AZ X.K T r to t):=by
 intro pins s σ H Q I h
 refine wpAny_Call_method_late hbase hfew hline rfl (aV (ho pins s σ H _ I h) fun v s1 ⟨x,H1,I1,r1,ty,q1⟩=>?_)
 obtain ⟨h1,h2⟩:=vo I1 r1 ty
 refine ⟨T,id,pa,slot,hty,h1,h2,?_⟩
 have hA:=ha cpos pins s1 σ H1 _ I1 q1
 rw [hs] at hA ⊢
 refine HP (by show (false || (backTo cpos (starEach es X.env)).any (·.1))=false; rw [hplain] <;> rfl) (HV ?_)
 exact aV hA fun us s2 ⟨vs,H2,I2,r2,q2⟩=>hm pins s2 σ H2 x vs v us Q I2 r1 r2 q2
/- xs.append(e),list.index on a i5 tuple .. are yb facts of 06m -/
end
end L2

namespace L2
open PySem PySem.Spec PyProof.Rows

def DC (X:Cx)(id:String)(r:V->List V->Hp->VK->Prop):Prop:=
 ∀(pins:List (Addr×Obj)) (s:Shared) (σ:St) (H:Hp) (x:V) (xs:List V) (v:Value) (us:List Value) (Q:VK),Inv X pins σ H s->RelV x v->Vals xs us->r x xs H Q ->
   wpAny (model X.prog X.w) X.A (call (.builtin id) (v :: us)) (EP X pins σ Q) X.xe s

/-! ### lists of values -/
theorem Vals.one:∀{x:V} {us:List Value},Vals [x] us->∃u,us=[u]/\RelV x u
 | _,_,.cons r .nil=>⟨_,rfl,r⟩
theorem Vals.two:∀{x y:V} {us:List Value},Vals [x,y] us->∃u v,us=[u,v]/\RelV x u/\RelV y v
 | _,_,_,.cons r (.cons q .nil)=>⟨_,_,rfl,r,q⟩
theorem Vals.zero:∀{us:List Value},Vals [] us->us=[]
 | _,.nil=>rfl
theorem Vals.dropLast {xs:List V}{us:List Value}(h:Vals xs us):Vals xs.dropLast us.dropLast:=by
 induction h with
 | nil=>exact .nil
 | cons r t ih=>
   cases t with
   | nil=>exact .nil
   | cons q t'=>exact .cons r ih
theorem Vals.eraseIdx:∀{xs:List V} {us:List Value} (i:Nat),Vals xs us->Vals (xs.eraseIdx i) (us.eraseIdx i)
 | _,_,_,.nil=>.nil
 | _,_,0,.cons _ t=>t
 | _,_,i + 1,.cons r t=>.cons r (Vals.eraseIdx i t)
theorem nj {α:Type}(l:List α):l.eraseIdx (l.length - 1)=l.dropLast:=by
 induction l with
 | nil=>rfl
 | cons a r ih=>
   cases r with
   | nil=>rfl
   | cons b r=>
     have e:(a :: b :: r).length - 1=((b :: r).length - 1) + 1:=by
       have h1:(a :: b :: r).length=r.length + 2:=rfl
       have h2:(b :: r).length=r.length + 1:=rfl
       omega
     rw [e,Ki,ih]
     all_goals rfl
theorem j7 {α:Type}:∀(l:List α) (i:Nat),(l.eraseIdx i).length<=l.length
 | [],_=>F8 _
 | _ :: _,0=>Nat.le_succ _
 | _ :: r,i + 1=>Nat.succ_le_succ (j7 r i)
section
variable {X:Cx}{pins:List (Addr×Obj)}{σ:St}{H:Hp}{s:Shared}{l b:Addr}{xs ys zs:List V}

/-! ### the two steps: a tracked list is Bl,a new list is laid -/
theorem Inv.zI {its its':List Value}{n:Nat}{f:Array Value->Array Value}{t':Nat}(I:Inv X pins σ H s)(hH:H l=some (.lst xs))
   (e:s.heap.get? l=some { cls:=.type "list",data:=.seq its.toArray n }) (hf:f its.toArray=its'.toArray) (hv:Vals ys its') (hz:ys.length<=sizeLine) :
   Inv X pins σ (upd H l (.lst ys)) { s with heap:=s.heap.update l (JE f),toks:=t' }:=by
 have q:=PySem.IsL.update e f
 rw [hf] at q
 refine I.write (x:=l) (e:=l) (by rw [hH]; exact trivial) (.inl rfl) (fun b' u hb hu=>(Iq s.heap (JE f) (Ne.symm hb)).trans hu) ⟨_,q⟩ ?_
 exact ⟨hz,its',_,hv,q⟩
theorem Inv.Ei {its:List Value}{t':Nat}(I:Inv X pins σ H s)(hv:Vals ys its)(hz:ys.length<=sizeLine) :
   Inv X pins σ (upd H s.heap.objs.size (.lst ys)) { s with heap:=s.heap.push { cls:=.type "list",data:=.seq its.toArray },toks:=t' }:=
 I.laid (fun _ _ q=>F6 _ q) (F8 _) ⟨hz,its,0,hv,Gn _ rfl⟩
theorem Inv.fresh (I:Inv X pins σ H s):H s.heap.objs.size=none:=I.hok.fresh (F8 _)
theorem Inv.tG (I:Inv X pins σ H s)(hH:H l=some (.lst xs)):xs.length<=sizeLine/\∃(its:List Value) (n:Nat),Vals xs its/\xs.length=its.length/\s.heap.get? l=some { cls:=.type "list",data:=.seq its.toArray n }:=by
 obtain ⟨z,its,n,r,e⟩:=I.hok l _ hH
 exact ⟨z,its,n,r,r.length,e⟩

end

section
variable {X:Cx}

/-! ### methods -/
def pG:V->List V->Hp->VK->Prop:=fun x vs H Q=>∃l xs y,x=.ref l/\vs=[y]/\H l=some (.lst xs)/\xs.length < sizeLine/\Q .bq (upd H l (.lst (xs++[y])))
theorem j9:DC X "list.append" pG:=by
 intro pins s σ H x vs v us Q I rx rv h
 obtain ⟨l,xs,y,rfl,rfl,hH,hz,q⟩:=h
 cases rx
 obtain ⟨u,rfl,ru⟩:=rv.one
 obtain ⟨z,its,n,r,hl,e⟩:=I.tG hH
 refine call_meets F.slot_list_append ⟨_,e,rfl⟩ F.entry_list_append (F.args_list_append_2 _ _) (PySem.list_append l its.toArray n u (by rw [Ge]; omega)) ⟨e,?_⟩
 refine ⟨.bq,_,I.zI (its':=its++[u]) hH e (by simp) (r.append (.cons ru .nil)) ?_,rfl,q⟩
 rw [FZ,Gp]
 omega

def CM:V->List V->Hp->VK->Prop:=fun x vs H Q=>∃l xs y,x=.ref l/\vs=[]/\H l=some (.lst xs)/\xs[xs.length - 1]? = some y/\Q y (upd H l (.lst xs.dropLast))
theorem zK:DC X "list.pop" CM:=by
 intro pins s σ H x vs v us Q I rx rv h
 obtain ⟨l,xs,y,rfl,rfl,hH,hy,q⟩:=h
 cases rx
 have FD:=rv.zero
 subst FD
 obtain ⟨z,its,n,r,hl,e⟩:=I.tG hH
 obtain ⟨u,hu,ru⟩:=r.get hy
 have FE:its.toArray[its.toArray.size - 1]? = some u:=by
   show its.toArray[its.length - 1]? = some u
   rw [← Km,← hl]
   exact hu
 refine call_meets F.slot_list_pop ⟨_,e,rfl⟩ F.entry_list_pop (F.args_list_pop_1 _) (MeetsSeq.list_pop_last l its.toArray n u FE (by rw [Ge]; omega)) ⟨e,?_⟩
 refine ⟨y,_,I.zI (its':=its.dropLast) hH e ?_ r.dropLast ?_,ru,q⟩
 · show its.toArray.eraseIdxIfInBounds (its.toArray.size - 1)=its.dropLast.toArray
   rw [Ge,JC,nj]
 · rw [List.length_dropLast]
   omega

def uI:V->List V->Hp->VK->Prop:=fun x vs H Q=>∃l xs i k y,x=.ref l/\vs=[.int i]/\H l=some (.lst xs) /\ -(2 ^ 63)<=i/\i < 2 ^ 63/\JL i xs.length=some k/\xs[k]? = some y/\Q y (upd H l (.lst (xs.eraseIdx k)))
theorem tK:DC X "list.pop" uI:=by
 intro pins s σ H x vs v us Q I rx rv h
 obtain ⟨l,xs,i,k,y,rfl,rfl,hH,h1,h2,hk,hy,q⟩:=h
 cases rx
 obtain ⟨u,rfl,ru⟩:=rv.one
 obtain ⟨t,rfl⟩:=ru
 obtain ⟨z,its,n,r,hl,e⟩:=I.tG hH
 obtain ⟨w,hw,rw'⟩:=r.get hy
 refine call_meets F.slot_list_pop ⟨_,e,rfl⟩ F.entry_list_pop (F.args_list_pop_2 _ _)
   (MeetsSeq.list_pop_at l its.toArray n i t k w (fitsIndex_both h1 h2) (by rw [Ge,← hl]; exact hk) (by rw [← Km]; exact hw) (by rw [Ge]; omega)) ⟨e,?_⟩
 refine ⟨y,_,I.zI (its':=its.eraseIdx k) hH e ?_ (r.eraseIdx k) ?_,rw',q⟩
 · show its.toArray.eraseIdxIfInBounds k=(its.eraseIdx k).toArray
   rw [JC]
 · have:=j7 xs k
   omega

/-! ### list + list,list += list,list * int -/
def CG:R2:=fun x y H Q=>∃l b xs zs,x=.ref l/\y=.ref b/\H l=some (.lst xs)/\H b=some (.lst zs)/\xs.length + zs.length<=sizeLine/\∀p,H p=none->Q (.ref p) (upd H p (.lst (xs++zs)))
theorem zY:eO X (binaryOp .Add) CG:=by
 intro pins s σ H x y v u Q I rx ry h
 obtain ⟨l,b,xs,zs,rfl,rfl,hH,hB,hz,q⟩:=h
 cases rx
 cases ry
 obtain ⟨z,its,n,r,hl,e⟩:=I.tG hH
 obtain ⟨z2,its2,n2,r2,hl2,e2⟩:=I.tG hB
 refine PySem.P.add_list e e2 ?_ (by rw [Ge,Ge]; omega)
 have ea:its.toArray++its2.toArray=(its++its2).toArray:=by simp
 rw [ea]
 exact ⟨.ref _,_,I.Ei (t':=s.toks) (r.append r2) (by rw [FZ]; omega),rfl,q _ I.fresh⟩
/-! ### del xs[i] -/
end

/-! ### xs[a:b]=ys -/

end L2

namespace ED
open PySem PySem.W PySem.Calls PyProof.Rows

/-! ### the lD -/
theorem ia {P:Params}{h:Heap}:∀(ns:List Int) (vs:List Value),WellAll P h vs (ns.map WData.int)->IntsAre vs ns:=by
 intro ns
 induction ns with
 | nil=>
   intro vs w
   rw [Hf] at w
   cases w
   exact .nil
 | cons n ns ih=>
   intro vs w
   rw [Gi] at w
   cases w with
   | cons a b=>
     cases a
     exact .cons _ _ (ih _ b)

theorem rC {l:OpenLaw}{n:Nat}(hn:l.most=some n){P:Params}{h:Heap}{args:List WData}{vals:List Value}
   (hpre:l.row.toRowW.claim.pre args=true) (hwl:WellAll P h vals args) :
   ∃a vs ns,vals=[Gq a]/\args=[WData.list (ns.map WData.int)]/\h.get? a=some { cls:=.type "list",data:=.seq vs.toArray }/\IntsAre vs ns/\ns.length<=n:=by
 have FC:WShape.hasAll [] args [.list .int]=true:=(pre_splitW hpre).1
 have hc:l.pre.holds [] { args:=args }=true:=(pre_splitW hpre).2
 obtain ⟨d,r,rfl,h1,h2⟩:=hasAllW_cons FC
 obtain rfl:=hasAllW_nil h2
 obtain ⟨xs,rfl,h3⟩:=hasW_list h1
 obtain ⟨ns,rfl⟩:=items_int h3
 have hlen:ns.length<=n:=by
   unfold OpenLaw.pre at hc
   have h4:(WTm.not (.lt (.lit (.int (n:Int))) (.len (.arg 0)))).holds [] { args:=[.list (ns.map .int)] }=true:=by
     have h4:=(holds_andW hc).1
     rw [hn] at h4
     exact h4
   have h5:=condW_of h4 (w_not (w_lt w_lit (w_len_list (w_arg rfl))))
   rw [F0] at h5
   refine Nat.le_of_not_lt fun q=>?_
   have q':(n:Int) < ((ns.length:Nat):Int):=by omega
   first
     | (rw [decide_eq_true q'] at h5; exact absurd h5 (by decide))
     | (simp at h5; omega)
 cases hwl with
 | cons w1 w2=>
   cases w2
   cases w1 with
   | list ho hall=>exact ⟨_,_,ns,rfl,rfl,ho,ia ns _ hall,hlen⟩

theorem rm (l:OpenLaw)(args:List WData):l.row.toRowW.claim.post args (.bool true) args=true:=
 postW_of (r:=l.row.toRowW) (X:=(true == true))
   (show WShape.has [] (.bool true) .bool=true by first | rfl | decide | simp [WShape.has,WShape.arms,WShape.armsAll])
   (show (WTm.eq .res (.lit (.bool true))).value [] { args:=args,res:=some (.bool true),after:=args }=some (.bool (true == true)) from w_eq_bool (w_res rfl) w_lit) rfl

/-! ### the yW: wj last Dm (the goal 'hc' behind k_head) from a wpAny of the law's body -/
/-- the same from a codeAny of the Fi (for a layer whose function Be E8 of calls) -/
theorem lU {l:OpenLaw}{n:Nat}{q:Program}{loose:List Str}{XP:(Str->Option Value)->Heap->Prop}{YP:World->Heap->Prop}{d:DefRec}
   (hn:l.most=some n) (hdf:d.params.defaults=[])
   (call:∀(w:World) (s₀ s₁:Shared) (mg mb:Str->Option Value) (fa:Addr) (o:Obj) (pm cd doc:Value) (a:Addr) (vs:List Value) (ns:List Int),
     Ground q loose [] XP w s₀ mg mb s₁.heap->YP w s₁.heap ->
     s₁.heap.get? fa=some o->o.data=.func (docDef d.name d.params d.body d.scope pm cd doc)->s₁.heap.CodeRec cd d.name->mg d.name=some (.ref fa) ->
     s₁.heap.get? a=some { cls:=.type "list",data:=.seq vs.toArray }->IntsAre vs ns->ns.length<=n->s₁.gens = #[] ->
     codeAny (model l.prog w) callerA (.call (.ref fa) ⟨[.ref a],[]⟩) (fun r s'=>r=.ok (.ret (.bool true))/\OldK s₁.heap s'.heap/\s'.os=s₁.os/\AllBare s'.gens) s₁) :
   WalkO q loose XP YP l.row.toRowW d [] (fun f vs=>PySem.call f vs):=by
 intro w s₀ s₁ mg mb G Y fa o pm cd doc dV kV ho hd hcd hD hmg hg args vals as hpre Fy FW hwl FV
 obtain rfl:dV=.none:=Dflts.none hD hdf
 obtain rfl:kV=.none:=Dflts.noKw hD
 obtain ⟨a,vs,ns,rfl,rfl,zo,hints,hlen⟩:=rC hn hpre hwl
 refine enter_call (codeAny_mono (call w s₀ s₁ mg mb fa o pm cd doc a vs ns G Y ho (fd_plain hd) hcd hmg zo hints hlen hg) fun r s' hq=>?_)
 obtain ⟨rfl,h2,h3,h4⟩:=hq
 exact ⟨.inl ⟨.bool true,.bool true,[],rfl,fun _=>rfl,.bool true,rm l _,fun _=>⟨List.Pairwise.nil,fun _ hm=>(nomatch hm)⟩⟩,h2,h3,h4⟩

/-! ### rules over ANY heap (no ledger) from facts about the written part K: the Bj own take a ledger (News) for what they write -/
end ED

namespace L2
open PySem PySem.Spec PyProof.Rows

theorem kz:∀{vs:List Value} {ns:List Int},IntsAre vs ns->Vals (ns.map V.int) vs
 | _,_,.nil=>.nil
 | _,_,.cons n t h=>.cons ⟨t,rfl⟩ (kz h)

/-- nothing is tracked but the lD,known to the object (or it is an object of the module) -/
def yP (H:Hp):Prop:=∀b,H b=none\/∃o xs,H b=some (.frz o (.lst xs))

/-- THE Fl: the law's promise,at the heap behind the top. F,the promise of the law's def,may use that base is part of the heap (so K.In base,base.Ns mainGlobals mg stand in Mod) -/
theorem tE {P:Program}{w:World}{K:FX}{mg mb:Str->Option Value}{CX:CXT}{k:Nat}{fa a:Addr}{fd:FuncData}{x:Str}{sp:Sp}{s₁:Shared}{vs:List Value}{ns:List Int}
   (KX:K.In s₁.heap) (hns:s₁.heap.Ns mainGlobals mg) (hb:s₁.heap.Ns builtinsNs mb) (hbb:∀x:Str,x≠"__name__"->mb x=bootBuiltins x) (hlim:s₁.heap.NoLimit) (hg:s₁.gens = #[])
   (ha:s₁.heap.get? a=some { cls:=.type "list",data:=.seq vs.toArray }) (hi:IntsAre vs ns) (hl:ns.length<=sizeLine) (hr:bw k callerA)
   (F:∀base:Heap,K.In base->base.Ns mainGlobals mg->aN P w K mg base CX k fa fd [x] sp) (hbind:∀(s:Shared) (u:Value),BindsTo s fd ⟨[u],[]⟩ [(x,u)])
   (hsp:∀H:Hp,yP H->aw K H a (ns.map V.int)->sp [.ref a] H (fun v _=>v=.bl true) fun _ _ _=>False)
   (hCX:∀H e s',CX [] H s₁ (fun _ _ _=>False) e s'->False) :
   codeAny (model P w) callerA (.call (.ref fa) ⟨[.ref a],[]⟩) (fun r s'=>r=.ok (.ret (.bool true))/\OldK s₁.heap s'.heap/\s'.os=s₁.os/\AllBare s'.gens) s₁:=by
 have rv:=kz hi
 have Eh:=hi.length
 -- from an abstract heap in Fg nothing but the lD may be tracked
 have core:∀H:Hp,yP H->aw K H a (ns.map V.int)->eN P w H s₁.heap->(∀b,H b≠none->b=a)->(H a≠none->K.lookup a=none) ->
     codeAny (model P w) callerA (.call (.ref fa) ⟨[.ref a],[]⟩) (fun r s'=>r=.ok (.ret (.bool true))/\OldK s₁.heap s'.heap/\s'.os=s₁.os/\AllBare s'.gens) s₁:=by
   intro H hO hS hok hA hK
   have oM:∀{b:Addr} {o:Obj},s₁.heap.get? b=some o->H b=none->(kZ s₁.heap H).get? b=some o:=fun e n=>sU e n
   have noA:∀{b:Addr} {o:Obj} {es:Array DictEntry} {ep:Nat},s₁.heap.get? b=some o->o.data=.dict es ep->H b=none:=fun {b o es ep} e d=>by
     cases q:H b with
     | none=>rfl
     | some u=>
       have e':b=a:=hA b (by rw [q]; simp)
       subst e'
       rw [ha] at e; cases e
       have d':Data.seq vs.toArray _=Data.dict es ep:=d
       cases d'
   have nsK:∀{b:Addr} {m:Str->Option Value},s₁.heap.Ns b m->(kZ s₁.heap H).Ns b m:=fun {b m} ⟨o,es,ep,e,d,r⟩=>⟨o,es,ep,oM e (noA e d),d,r⟩
   have EN:K.In (kZ s₁.heap H):=fun b o e=>oM (KX b o e) (by
     cases q:H b with
     | none=>rfl
     | some u=>
       have e':b=a:=hA b (by rw [q]; simp)
       subst e'
       rw [hK (by rw [q]; simp)] at e; cases e)
   have hM:Mod K mg (kZ s₁.heap H):=⟨EN,nsK hns,⟨mb,nsK hb,hbb⟩,let ⟨mc,h1,h2⟩:=hlim; ⟨mc,nsK h1,h2⟩⟩
   have e0:mY P w K mg (kZ s₁.heap H) callerA [] s₁ H:=⟨rfl,hM,fun b o e=>wR e,Nat.le_of_eq (qB _ _),trivial,fun b hb=>absurd (show b∈([]:List Addr) from hb) (by simp),hok,.of_eq hg⟩
   refine codeAny_mono ((F _ EN (nsK hns)).run callerA [] s₁ H ⟨[.ref a],[]⟩ [.ref a] [.ref a] _ _ hr e0 (hbind s₁ (.ref a)) (.cons rfl .nil) (hsp H hO hS)) fun r s' h=>?_
   cases r with
   | error e=>exact (hCX H e s' h).elim
   | ok fl=>
     cases fl with
     | next=>exact HJ h
     | brk=>exact HJ h
     | cont=>exact HJ h
     | ret u=>
       obtain ⟨v,H',os,bare,un,Ed,r',q⟩:=h
       have q':v=.bl true:=q
       subst q'
       obtain rfl:u=IG true:=r'
       refine ⟨rfl,OldK.of_keep fun b o e=>?_,os,bare⟩
       cases q:H b with
       | none=>exact un.keep b o e q (by intro z; exact absurd (show b∈([]:List Addr) from z) (by simp)) (by simp)
       | some u=>
         rcases hO b with z | ⟨ob,xs,z⟩
         · rw [q] at z; cases z
         · have z2:=un.frzs b ob _ z
           obtain ⟨e1,_⟩:=hok b _ z
           obtain ⟨e2,_⟩:=Ed b _ z2
           rw [e] at e1; cases e1
           exact e2
 cases hk:K.lookup a with
 | some o=>
   -- the lD is one of the i5 own objects
   have e:=KX a o hk
   rw [ha] at e
   cases e
   refine core (fun _=>none) (fun _=>.inl rfl) (.inr ⟨_,vs.toArray,_,hk,rfl,rfl,rfl,by rw [Ge,Eh]; exact hl,by simpa using rv⟩) (fun b u z=>by have z':(none:Option HO)=some u:=z; cases z') (fun b z=>absurd rfl z) fun z=>absurd rfl z
 | none=>
   refine core (fun b=>if b=a then some (.frz { cls:=.type "list",data:=.seq vs.toArray } (.lst (ns.map V.int))) else none) (fun b=>?_) (.inl (.inr ⟨{ cls:=.type "list",data:=.seq vs.toArray },if_pos rfl⟩)) (fun b u z=>?_) (fun b z=>?_) fun _=>hk
   · by_cases hb:b=a
     · exact .inr ⟨_,_,if_pos hb⟩
     · exact .inl (if_neg hb)
   · by_cases hb:b=a
     · have z':=(if_pos hb).symm.trans z
       cases z'
       subst hb
       exact ⟨ha,by rw [F0]; exact hl,vs,_,rv,ha⟩
     · have z':=(if_neg hb).symm.trans z
       cases z'
   · by_cases hb:b=a
     · exact hb
     · exact absurd (if_neg hb) z
end L2

namespace L2
open PySem PySem.Spec PyProof.Rows

/-- the goal that k_head leaves (case hc),from the law's promise. F gives the function object fd (K's own) once,then the promise over oS base -/
theorem walk_of {l:PySem.W.OpenLaw}{n k:Nat}{q:Program}{loose:List Str}{XP:(Str->Option Value)->Heap->Prop}{YP:World->Heap->Prop}{d:DefRec}{K:Params->FX}{CX:World->CXT}{sp:World->Sp}{x:Str}
   (hn:l.most=some n) (hn2:n<=sizeLine) (hdf:d.params.defaults=[]) (hr:bw k callerA)
   (hY:∀(w:World) (h:Heap),YP w h->(K w.params).In h)
   (F:∀(w:World) (mg:Str->Option Value) (fa:Addr) (h:Heap),(K w.params).In h->h.Ns mainGlobals mg->mg d.name=some (.ref fa) ->
     ∃fd:FuncData,(∀(s:Shared) (u:Value),BindsTo s fd ⟨[u],[]⟩ [(x,u)]) /\
       ∀base:Heap,(K w.params).In base->base.Ns mainGlobals mg->aN l.prog w (K w.params) mg base (CX w) k fa fd [x] (sp w))
   (hsp:∀(w:World) (H:Hp) (a:Addr) (ns:List Int),ns.length<=n->yP H->aw (K w.params) H a (ns.map V.int)->sp w [.ref a] H (fun v _=>v=.bl true) fun _ _ _=>False)
   (hCX:∀(w:World) (H:Hp) (s:Shared) (e:Value) (s':Shared),CX w [] H s (fun _ _ _=>False) e s'->False) :
   PySem.W.WalkO q loose XP YP l.row.toRowW d [] (fun f vs=>PySem.call f vs):=by
 refine ED.lU hn hdf fun w s₀ s₁ mg mb fa o pm cd doc a vs ns G Y ho hd hcd hmg zo hints hlen hg=>?_
 have KX:=hY w _ Y
 obtain ⟨fd,hb,hF⟩:=F w mg fa _ KX G.T.g hmg
 exact tE KX G.T.g G.T.b G.T.builtins G.T.nolimit hg zo hints (F2 hlen hn2) hr hF hb (fun H hO hS=>hsp w H a ns hlen hO hS) fun H e s'=>hCX w H s₁ e s'
end L2

/- THE Fm Dh (shape; LID,My.* are Fh):
  My.FP: a structure of the addresses that Df layer names (classes,Bh); My.Txt K t: a structure (Prop) of the equations over K;
  My.txt_mk:{K} {implicit addresses ..} (e1:nsIn K mainGlobals "law"=some (some (.ref f))) (e2:K.lookup f=some ⟨oc,od,.func (fnOf "law" "law" params body scope dV kV doc pm an cdv ct),sl⟩) (e3:codeIn K cdv "law"=true) .. : ∃t,My.Txt K t

set_option maxRecDepth 100000 in
set_option maxHeartbeats 0 in
theorem PySem.Challenge.cw_LID_holds : PySem.Challenge.rw_LID.Holds := by
 w_on; o_law; k_head; (case hw=>w_witness2)
 k_fill
 refine L2.walk_of (l:=PySem.Challenge.rw_LID) (n:=63) (k:=40) (x:="script") (CX:=fun w=>..) (sp:=fun _=>My.sp_law) rfl (by decide) rfl ⟨rfl,by decide,by decide⟩ (fun w h Y=>PySem.W.kIn_of Y) ?F ?S ?C
 case F=>
   intro w mg fa h KX G hmg
   have T:∃t,My.Txt (L2.KOf KX) t:=by
     dsimp only [L2.KOf]                          -- K must stand as «<heap const> w.params» for k_is
     refine' My.txt_mk ?e1 ?e2 ?e3 ..
     (case e1=>PySem.W.k_is)                    -- in the order: a name -> its address -> its object -> its parts
     (case e2=>PySem.W.k_is)
     ..
   obtain ⟨t,T⟩:=T
   have e0:=hmg.symm.trans (GO KX G T.law)
   cases e0                                       -- fa is the law's own address
   exact ⟨_,fun s u=>.of_eq rfl,fun base kb nb=>My.law_fn T kb nb⟩     -- if «.of_eq rfl» comes too early: refine' ⟨_,?b,fun base kb nb=>My.law_fn T kb nb⟩; exact fun s u=>.of_eq rfl
 case S=>exact fun w H a ns hl hO hS=>..
 case C=>exact ..
(the tactic k_is has no namespace: write k_is) -/

/-! SHORT WORDS over the layer: a def of the text,its body,what a loop and a test want. -/
namespace L2
open PySem PySem.Spec PyProof.Rows

/-! ### the text by places -/
def b7 (s:Stmt):Arguments:=match s with
 | .FunctionDef _ a _ _ _ _ _ _ _ _=>a
 | _=>{ posonlyargs:=[],args:=[],vararg:=none,kwonlyargs:=[],kw_defaults:=[],kwarg:=none,defaults:=[] }
def bN (s:Stmt):List Stmt:=match s with
 | .FunctionDef _ _ b _ _ _ _ _ _ _=>b
 | _=>[]
def ag (s:Stmt):Scope:=match s with
 | .FunctionDef _ _ _ _ _ _ sc _ _ _=>sc
 | _=>{ kind:=.function,names:=[],isGenerator:=false,isCoroutine:=false }

/-! ### no exception leaves a def -/
abbrev CX0:CXT:=fun _ _ _ _ _ _=>False
abbrev E0:XK:=fun _ _ _=>False
theorem pz {X:Cx}:Passes CX0 X E0:=fun _ _ _ _ _ _ _ h=>h.elim

/-! ### a def (or method) of the text as it stands behind the top -/
structure cf (K:FX)(x qual:Str)(st:Stmt)(f:Addr)(fd:FuncData):Prop where
 ex:∃(oc:Value) (od:Option Addr) (kV doc pm:Value) (an:Option Addr) (cdv ct:Value) (osl:Array (Option Value)),
   fd=HB x qual (b7 st) (bN st) (ag st) .none kV doc pm an cdv ct/\K.lookup f=some ⟨oc,od,.func fd,osl⟩ /\ Jd K cdv qual=true
 kp:HL K (.ref f)=true
section
variable {P:Program}{w:World}{K:FX}{mg:Str->Option Value}{base:Heap}
/-- THE RULE for a def: its body as a term of rules,and the reading of that term -/
theorem cf.ok {x qual:Str}{st:Stmt}{f:Addr}{fd:FuncData}{N ps:List Str}{k:Nat}{sp:Sp}(F:cf K x qual st f fd)(S:ay N ps (ag st))(len:∀vs H Q E,sp vs H Q E->vs.length=ps.length)
   (hbody:∀(cdv:Value) (A:Around) (outer:List Env) (s:Shared) (H:Hp) (vs:List V) (Q:VK) (E:XK),bw k (A.deeper (envOfC qual (ag st) s.heap.objs.size f cdv))->sp vs H Q E ->
     ∃t,jI (bX CX0 P w K mg base N qual (ag st) f cdv A outer s H E).nox (bN st) t/\t { nx:=fun _ H'=>Q .bq H',rt:=Q } (start N vs) H):aN P w K mg base CX0 (k + 1) f fd ps sp:=by
 obtain ⟨oc,od,kV,doc,pm,an,cdv,ct,osl,rfl,lk,hcd⟩:=F.ex
 refine yg lk hcd S len fun A outer s H vs Q E hr hsp=>?_
 obtain ⟨t,h,q⟩:=hbody cdv A outer s H vs Q E hr hsp
 exact ⟨t,h.nox,q⟩
/-- how its arguments bind (no defaults): h is «fun _ _ _ _ _ _ us hl=>match us,hl with | [_,_],_=>rfl»,one _ a parameter -/
theorem cf.binds {x qual:Str}{st:Stmt}{f:Addr}{fd:FuncData}{ps:List Str}(F:cf K x qual st f fd)
   (h:∀(kV doc pm:Value) (an:Option Addr) (cdv ct:Value) (us:List Value),us.length=ps.length->bindArgs (HB x qual (b7 st) (bN st) (ag st) .none kV doc pm an cdv ct) ⟨us,[]⟩ = pure (ps.zip us)):Binds K fd ps []:=by
 obtain ⟨oc,od,kV,doc,pm,an,cdv,ct,osl,rfl,lk,hcd⟩:=F.ex
 exact .all (h kV doc pm an cdv ct)
theorem dZ {x qual:Str}{st:Stmt}{f:Addr}{oc:Value}{od an:Option Addr}{osl:Array (Option Value)}{kV doc pm cdv ct:Value}(l:K.lookup f=some ⟨oc,od,.func (HB x qual (b7 st) (bN st) (ag st) .none kV doc pm an cdv ct),osl⟩)
   (c:Jd K cdv qual=true) (k:HL K (.ref f)=true):cf K x qual st f (HB x qual (b7 st) (bN st) (ag st) .none kV doc pm an cdv ct):=⟨⟨oc,od,kV,doc,pm,an,cdv,ct,osl,rfl,l,c⟩,k⟩
end
theorem aW {n:Nat}(h:n<=1000):n < sizeLine:=GK h (by decide)

/-! ### expressions in short: the name that stands in the i-th slot -/

/-! ### tests -/
theorem bD {A B:Prop}(h:B):if false=true then A else B:=by
 rw [if_neg Gf]
 exact h
theorem bE {A B:Prop}(h:A):if true=true then A else B:=by
 rw [if_pos rfl]
 exact h
theorem aE {c A B:Prop}[Decidable c](h1:c->A)(h2:¬ c->B):if c then A else B:=by
 by_cases h:c
 · rw [if_pos h]
   exact h1 h
 · rw [if_neg h]
   exact h2 h
/-! ### heaps -/
/-- all that was tracked is as it was -/
def ak (H H':Hp):Prop:=∀b o,H b=some o->H' b=some o
theorem ak.seq {K:FX}{H H':Hp}{a:Addr}{xs:List V}(e:ak H H')(h:aw K H a xs):aw K H' a xs:=by
 rcases h with (h | ⟨o,h⟩) | h
 · exact .inl (.inl (e _ _ h))
 · exact .inl (.inr ⟨o,e _ _ h⟩)
 · exact .inr h

end L2
set_option Elab.async false
set_option linter.all false
set_option maxRecDepth 100000
namespace L2
open PySem PySem.Spec PyProof.Rows

/-! ### lists of pairs as tables -/
section
variable {κ:Type}[DecidableEq κ]
def gO (kvs:List (κ×V))(k:κ):Option V:=(kvs.find? fun kv=>decide (kv.1=k)).map (·.2)
/-- in its place,or at the end -/
def putK (kvs:List (κ×V))(k:κ)(v:V):List (κ×V):=
 if (kvs.any fun kv=>decide (kv.1=k))=true then kvs.map (fun kv=>if kv.1=k then (kv.1,v) else kv) else kvs++[(k,v)]
theorem mW {p:κ×V}{r:List (κ×V)}{k:κ}(e:p.1=k):gO (p :: r) k=some p.2:=by simp [gO,Im,e]
theorem mV {p:κ×V}{r:List (κ×V)}{k:κ}(e:¬ p.1=k):gO (p :: r) k=gO r k:=by simp [gO,Im,e]
theorem my (kvs:List (κ×V))(k:κ)(v:V):(putK kvs k v).length<=kvs.length + 1:=by
 unfold putK
 split
 · rw [F0]; omega
 · rw [FZ,F5,GP]; omega
theorem dw.getD {o:Option V}{u:Option Value}{d:V}{d':Value}(r:dw o u)(rd:RelV d d'):RelV (o.getD d) (u.getD d'):=by
 cases o with
 | none=>cases u with
   | none=>exact rd
   | some _=>exact (show False from r).elim
 | some _=>cases u with
   | none=>exact (show False from r).elim
   | some _=>exact r

/-- raw tables of the same keys -/
theorem KV.val {kvs:List (κ×V)}{vs:List (κ×Value)}(r:KV kvs vs)(k:κ):dw (gO kvs k) (valueAt vs k):=by
 unfold KV at r
 induction r with
 | nil=>exact GD
 | @cons p q ps qs h t ih=>
   obtain ⟨h1,h2⟩:=h
   by_cases e:p.1=k
   · have e':q.1=k:=h1.symm.trans e
     have b:valueAt (q :: qs) k=some q.2:=by simp [valueAt,Im,e']
     rw [mW e,b]; exact h2
   · have e':¬ q.1=k:=fun z=>e (h1.trans z)
     have b:valueAt (q :: qs) k=valueAt qs k:=by simp [valueAt,Im,e']
     rw [mV e,b]; exact ih
theorem KV.any {kvs:List (κ×V)}{vs:List (κ×Value)}(r:KV kvs vs)(k:κ):(kvs.any fun kv=>decide (kv.1=k))=vs.any fun kv=>decide (kv.1=k):=by
 unfold KV at r
 induction r with
 | nil=>rfl
 | cons h t ih=>rw [Jy,Jy,ih,h.1]
theorem KV.repl {kvs:List (κ×V)}{vs:List (κ×Value)}(r:KV kvs vs)(k:κ){y:V}{u:Value}(ry:RelV y u) :
   KV (kvs.map fun kv=>if kv.1=k then (kv.1,y) else kv) (vs.map fun kv=>if kv.1=k then (kv.1,u) else kv):=by
 unfold KV at r ⊢
 induction r with
 | nil=>exact .nil
 | @cons p q ps qs h t ih=>
   rw [Gi,Gi]
   refine .cons ?_ ih
   obtain ⟨h1,h2⟩:=h
   by_cases e:p.1=k
   · rw [if_pos e,if_pos (h1.symm.trans e)]; exact ⟨h1,ry⟩
   · rw [if_neg e,if_neg (fun z=>e (h1.trans z))]; exact ⟨h1,h2⟩
theorem KV.put {kvs:List (κ×V)}{vs:List (κ×Value)}(r:KV kvs vs)(k:κ){y:V}{u:Value}(ry:RelV y u):KV (putK kvs k y) (stored vs k u):=by
 unfold putK stored
 rw [r.any k]
 by_cases e:(vs.any fun kv=>decide (kv.1=k))=true
 · rw [if_pos e,if_pos e]; exact r.repl k ry
 · rw [if_neg e,if_neg e]; exact Paired.snoc r ⟨rfl,ry⟩
end


/-! ### a tracked dict,its keys ints and texts or tuples of these -/
theorem ph {P:Program}{w:World}{k:Key}{u:Value}(r:RelV (kV k) u):(bf P w).is k u=true:=by
 cases k with
 | inl i=>obtain ⟨t,e⟩:=(show ∃t,u=Ja i t from r); subst e; exact mB P w i t
 | inr x=>obtain ⟨t,e⟩:=(show ∃t,u=Kk x t from r); subst e; exact mC P w x t
theorem j4 {P:Program}{w:World}:∀{ks:List Key} {us:List Value},Vals (ks.map kV) us->ItemsAre (bf P w) ks us
 | [],_,r=>by rw [Hf] at r; cases r; exact .nil
 | k :: ks,_,r=>by
   rw [Gi] at r
   cases r with
   | cons h t=>exact .cons (ph h) (j4 t)

/-- raw entries of a dict with tuple keys -/
abbrev KT (H:Hp):List (List Key×V)->List (List Key×Addr×Value)->Prop:=Paired fun p q=>p.1=q.1/\H q.2.1=some (.tup (p.1.map kV))/\RelV p.2 q.2.2
theorem KT.val {H:Hp}{kvs:List (List Key×V)}{xs:List (List Key×Addr×Value)}(r:KT H kvs xs)(k:List Key):dw (gO kvs k) ((atKey xs k).map (·.2)):=by
 induction r with
 | nil=>exact GD
 | @cons p q ps qs h t ih=>
   obtain ⟨h1,_,h2⟩:=h
   by_cases e:p.1=k
   · have e':q.1=k:=h1.symm.trans e
     have b:atKey (q :: qs) k=some q.2:=by simp [atKey,Im,e']
     rw [mW e,b]; exact h2
   · have e':¬ q.1=k:=fun z=>e (h1.trans z)
     have b:atKey (q :: qs) k=atKey qs k:=by simp [atKey,Im,e']
     rw [mV e,b]; exact ih
section
variable {P:Program}{w:World}{H:Hp}{h:Heap}{a:Addr}
theorem yA {u:HO}(ok:eN P w H h)(e:Rd H a u):aZ P w H h a u:=e.ok ok
theorem l6 {kvs:List (Key×V)}(ok:eN P w H h)(e:Rd H a (.dK kvs)):kvs.length<=sizeLine/\(a == sysModules)=false/\∃vs,KV kvs vs/\h.DictOf (bf P w) a vs:=
 show aZ P w H h a (.dK kvs) from yA ok e
theorem BR {kvs:List (Key×V)}(ok:eN P w H h)(e:H a=some (.dK kvs)):kvs.length<=sizeLine/\(a == sysModules)=false/\∃vs,KV kvs vs/\h.DictOf (bf P w) a vs:=l6 ok (.inl e)
/-- a tracked tuple of ints and texts is a key -/
theorem nR {ks:List Key}(ok:eN P w H h)(e:H a=some (.tup (ks.map kV))):(tupleKind (bf P w)).is h ks a:=by
 obtain ⟨_,its,r,o,h1,h2,n,h3⟩:=(show aZ P w H h a (.tup (ks.map kV)) from ok a _ e)
 exact ⟨o,its.toArray,n,h1,h2,h3,by simpa using j4 r⟩
theorem oR {kvs:List (List Key×V)}(ok:eN P w H h)(e:Rd H a (.dT kvs)):kvs.length<=sizeLine/\(a == sysModules)=false /\
   ∃xs,KT H kvs xs/\h.DictOfH (tupleKind (bf P w)) a xs:=by
 obtain ⟨z,y,xs,r,o,es,ep,h1,h2,h3,h4,h5⟩:=(show aZ P w H h a (.dT kvs) from yA ok e)
 refine ⟨z,y,xs,r,o,es,ep,h1,h2,h3,h4,fun x hx=>?_,h5⟩
 have all:∀{l:List (List Key×V)} {m:List (List Key×Addr×Value)},KT H l m->∀x∈m,(tupleKind (bf P w)).is h x.1 x.2.1:=by
   intro l m q
   induction q with
   | nil=>intro x hx; exact nomatch hx
   | @cons p q ps qs hq t ih=>
     intro x hx
     rcases List.mem_cons.mp hx with e | hx
     · subst e
       exact nR ok (by rw [← hq.1]; exact hq.2.1)
     · exact ih x hx
 exact all r x hx
end

/-- what the dict at a holds at the key y -/
def jq (H:Hp)(a:Addr)(y:V)(r:Option V):Prop:=
 (∃kvs k,Rd H a (.dK kvs)/\y=kV k/\r=gO kvs k)\/∃kvs k b,Rd H a (.dT kvs)/\y=.ref b/\H b=some (.tup (k.map kV))/\r=gO kvs k
theorem jq.k {H:Hp}{a:Addr}{kvs:List (Key×V)}{k:Key}(e:H a=some (.dK kvs)):jq H a (kV k) (gO kvs k):=.inl ⟨kvs,k,.inl e,rfl,rfl⟩
section
variable {X:Cx}{pins:List (Addr×Obj)}{σ:St}{H:Hp}{s:Shared}{a:Addr}{y v:V}{u r:Value}{o:Option V}{A:Around}{E:Value->Shared->Prop}

theorem Inv.big (I:Inv X pins σ H s):sysModules < s.heap.objs.size:=by
 have h:mainGlobals < s.heap.objs.size:=(I.mod.glob.keeps I.bk).lt
 exact Ih (by decide) h

/-- d[y],there -/
theorem qc {Q:Value->Shared->Prop}(hu:A.units + 1 < cLine)(I:Inv X pins σ H s)(g:jq H a y (some v))(ry:RelV y u)(h:∀w' s',Inv X pins σ H s'->RelV v w'->Q w' s') :
   wpAny (model X.prog X.w) A (getItem (.ref a) u) Q E s:=by
 rcases g with ⟨kvs,k,e,ey,l⟩ | ⟨kvs,k,b,e,ey,eb,l⟩
 · subst ey
   obtain ⟨z,hd,vs,rel,dd⟩:=l6 I.hok e
   obtain ⟨w',hw,rw'⟩:=dw.some_of (v:=v) (o:=valueAt vs k) (by rw [l]; exact rel.val k)
   exact wpAny_getItem_of (ph ry) dd.mapOf hw (h w' _ (I.tok _) rw')
 · subst ey
   cases (show u=Gq b from ry)
   obtain ⟨z,hd,xs,rel,dd⟩:=oR I.hok e
   obtain ⟨w',hw,rw'⟩:=dw.some_of (v:=v) (o:=(atKey xs k).map (·.2)) (by rw [l]; exact rel.val k)
   obtain ⟨p,hp,hp2⟩:=Option.map_eq_some_iff.mp hw
   refine wpAny_getItem_heap (tupleKind_room_in1 hu) (nR I.hok eb) dd hp ?_
   rw [hp2]
   exact h w' _ (I.tok _) rw'
/-- a dict's object is replaced -/
theorem vP {h':Heap}{t':Nat}{ob:HO}(I:Inv X pins σ H s)(mu:Bt (H a))(hs:Hl a s.heap h')(he:∃q,h'.get? a=some q)(new:aZ X.prog X.w (upd H a ob) h' a ob) :
   Inv X pins σ (upd H a ob) { s with heap:=h',toks:=t' }:=
 I.write (x:=a) (e:=a) mu (.inl rfl) (fun b q hb z=>(hs.2 b hb).trans z) he new
theorem zb {P:Program}{w:World}{H':Hp}{h':Heap}{kvs:List (Key×V)}{vs:List (Key×Value)}(z:kvs.length<=sizeLine)(hd:(a == sysModules)=false)(rel:KV kvs vs)(dd:h'.DictOf (bf P w) a vs) :
   aZ P w H' h' a (.dK kvs):=⟨z,hd,vs,rel,dd⟩
end



/-! ### readings and rules -/
/-- the element of a subscription,not a slice -/
def rR (i:Expr):Prop:=∀ov iv,subscripted i false ov iv=operate [ov,iv] (getItem ov iv)
theorem pN {prog:Program}{w:World}{A:Around}{E:Value->Shared->Prop}{s:Shared}{env:Env}{value slice:Expr}{pos:Pos}{T id:String}{Q:Value->Shared->Prop}
   (hl:typeLookup (.type T) "__getitem__"=pure (some (.builtin id))) (hs:rR slice)
   (h:wpAny (model prog w) A (eval value env) (fun o s₁=>wpAny (model prog w) A (eval slice env) (fun i s₂=>s₂.TypeIs o T/\wpAny (model prog w) A (getItem o i) Q E s₂) E s₁) E s) :
   wpAny (model prog w) A (eval (.Subscript value slice pos) env) Q E s:=by
 refine Subscript_ (wpAny_mono h (fun o s₁ h₁=>wpAny_mono h₁ (fun i s₂ h₂=>?_) fun _ _ x=>x) fun _ _ x=>x)
 obtain ⟨hT,h₂⟩:=h₂
 unfold subscriptTail
 refine wpAny_bind ?_
 rw [getitemInPython_of_ne hT.not_modules]
 refine wpAny_bind (wpAny_specialOf hT hl ?_)
 have fin:wpAny (model prog w) A (subscripted slice false o i) (fun r s₃=>wpAny (model prog w) A (letTemporaryGo value o r >>= fun _=>pure r) Q E s₃) E s₂:=by
   rw [hs o i]
   exact wpAny_operating (wpAny_mono h₂ (fun r s₃ h₃=>wpAny_bind (wpAny_letTemporaryGo (wpAny_pure h₃))) fun _ _ x=>x)
 first
   | exact wpAny_pure (wpAny_bind fin)
   | exact wpAny_bind (wpAny_pure (wpAny_bind fin))
   | exact wpAny_bind fin

theorem lZ {X:Cx}{pins:List (Addr×Obj)}{σ:St}{H:Hp}{s:Shared}{a:Addr}{y:V}{o:Option V}(I:Inv X pins σ H s)(g:jq H a y o):s.TypeIs (.ref a) "dict":=by
 rcases g with ⟨kvs,k,e,_,_⟩ | ⟨kvs,k,b,e,_,_,_⟩
 · obtain ⟨_,_,vs,_,dd⟩:=l6 I.hok e
   exact dd.typeIs
 · obtain ⟨_,_,xs,_,dd⟩:=oR I.hok e
   exact dd.typeIs
/-- d[y] -/
def yD (td ty:TE):TE:=fun σ H Q=>td σ H fun x H1=>ty σ H1 fun y H2=>∃a v,x=.ref a/\jq H2 a y (some v)/\Q v H2
section
variable {X:Cx}{o i e value:Expr}{pos pos' tpos:Pos}{td ty tv:TE}
theorem xn (hu:X.A.units + 1 < cLine)(ho:PE X o td)(hi:PE X i ty)(hs:rR i):PE X (.Subscript o i pos) (yD td ty):=by
 intro pins s σ H Q I h
 refine pN PySem.F.slot_dict_getitem.lookup hs (aV (ho pins s σ H _ I h) fun u s1 ⟨x,H1,I1,rx,q1⟩=>aV (hi pins s1 σ H1 _ I1 q1) fun iv s2 ⟨y,H2,I2,ry,a,v,ex,g,q2⟩=>?_)
 subst ex
 obtain rfl:u=Gq a:=rx
 exact ⟨lZ I2 g,qc hu I2 g ry fun w' s3 I3 rw'=>⟨v,H2,I3,rw',q2⟩⟩
end


/-! ### displays -/
theorem se {P:Program}{w:World}{H:Hp}(h:Heap)(hb:sysModules < h.objs.size):aZ P w H (h.push { cls:=.type "dict",data:=.dict #[] }) h.objs.size (.dK []):=
 ⟨Gs _,beq_eq_false_iff_ne.mpr (Ne.symm (Gw hb)),[],.nil,Heap.DictOf.new h⟩

/-- the pairs of a display,from the left -/
def oE:List (TE×TE)->St->Hp->(List (V×V)->Hp->Prop)->Prop
 | [],_,H,Q=>Q [] H
 | (tk,tv) :: r,σ,H,Q=>tk σ H fun x H1=>tv σ H1 fun y H2=>oE r σ H2 fun ps H3=>Q ((x,y) :: ps) H3
abbrev VV:List (V×V)->List (Value×Value)->Prop:=Paired fun p q=>RelV p.1 q.1/\RelV p.2 q.2
def Bu (X:Cx)(pos:Pos)(keys:List (Option Expr))(values:List Expr)(trs:List (TE×TE)):Prop:=
 ∀(pins:List (Addr×Obj)) (s:Shared) (σ:St) (H:Hp) (Q:List (V×V)->Hp->Prop),Inv X pins σ H s->oE trs σ H Q ->
   wpAny (model X.prog X.w) X.A (evalPairs (pairTrees keys values X.env pos)) (fun vs s'=>∃ps H',Inv X pins σ H' s'/\VV ps vs/\Q ps H') X.xe s
theorem xy {X:Cx}{pos:Pos}:Bu X pos [] [] []:=fun pins s σ H Q I h=>pairTrees_nil_walk ⟨[],H,I,.nil,h⟩
theorem uD {X:Cx}{pos:Pos}{k v:Expr}{ks:List (Option Expr)}{vs:List Expr}{tk tv:TE}{trs:List (TE×TE)}(hk:PE X k tk)(hv:PE X v tv)(hr:Bu X pos ks vs trs) :
   Bu X pos (some k :: ks) (v :: vs) ((tk,tv) :: trs):=fun pins s σ H Q I h=>
 pairTrees_cons_walk (aV (hk pins s σ H _ I h) fun u s1 ⟨x,H1,I1,rx,q1⟩=>aV (hv pins s1 σ H1 _ I1 q1) fun w2 s2 ⟨y,H2,I2,ry,q2⟩=>
   aV (hr pins s2 σ H2 _ I2 q2) fun ws s3 ⟨ps,H3,I3,rel,q3⟩=>⟨(x,y) :: ps,H3,I3,.cons ⟨rx,ry⟩ rel,q3⟩)

def aU (kvs more:List (Key×V)):List (Key×V):=more.foldl (fun acc kv=>putK acc kv.1 kv.2) kvs
theorem KV.merge:∀{more:List (Key×V)} {rs:List (Key×Value)} {kvs:List (Key×V)} {vs:List (Key×Value)},KV more rs->KV kvs vs->KV (aU kvs more) (merged vs rs):=by
 intro more rs kvs vs r
 unfold KV at r
 induction r generalizing kvs vs with
 | nil=>intro q; exact q
 | @cons p q ps qs h t ih=>
   intro r0
   have e:KV (putK kvs p.1 p.2) (stored vs q.1 q.2):=by
     have:=r0.put p.1 h.2
     rw [← h.1]; exact this
   exact ih e
theorem eW:∀(more kvs:List (Key×V)),(aU kvs more).length<=kvs.length + more.length
 | [],kvs=>by show kvs.length<=kvs.length + 0; omega
 | p :: r,kvs=>by
   have h1:=eW r (putK kvs p.1 p.2)
   have h2:=my kvs p.1 p.2
   show (aU (putK kvs p.1 p.2) r).length<=_
   rw [F5]; omega
theorem iG {P:Program}{w:World}:∀{kvs:List (Key×V)} {ws:List (Value×Value)},VV (kvs.map fun kv=>(kV kv.1,kv.2)) ws->∃rs,Carries (bf P w) ws rs/\KV kvs rs
 | [],_,r=>by rw [Hf] at r; cases r; exact ⟨[],GD,.nil⟩
 | p :: kvs,_,r=>by
   rw [Gi] at r
   cases r with
   | @cons a b as bs h t=>
     obtain ⟨rs,c,q⟩:=iG (P:=P) (w:=w) t
     obtain ⟨b1,b2⟩:=b
     exact ⟨(p.1,b2) :: rs,⟨ph h.1,rfl,c⟩,.cons ⟨rfl,h.2⟩ q⟩
/-- {k: v,..} with keys ints and texts; the new dict stands empty while the pairs are made -/
def yE (trs:List (TE×TE)):TE:=fun σ H Q=>∀p,H p=none->oE trs σ (upd H p (.dK [])) fun ps H2=>H2 p=some (.dK [])/\∃kvs:List (Key×V),ps=kvs.map (fun kv=>(kV kv.1,kv.2))/\kvs.length<=15/\Q (.ref p) (upd H2 p (.dK (aU [] kvs)))
theorem xo {X:Cx}{pos:Pos}{keys:List (Option Expr)}{values:List Expr}{trs:List (TE×TE)}(h:Bu X pos keys values trs)(hall:keys.all (·.isSome)=true)(hl:keys.length=values.length)(h0:keys≠[])
   (h15:keys.length<=15):PE X (.Dict keys values pos) (yE trs):=by
 intro pins s σ H Q I q
 have hn:=I.hok.fresh (F8 s.heap.objs.size)
 have I1:=I.laid (a:=s.heap.objs.size) (o:=.dK []) (h':=s.heap.push { cls:=.type "dict",data:=.dict #[] }) (t':=s.toks) (fun _ _ q=>F6 _ q) (F8 _) (se s.heap I.big)
 refine wpAny_Dict_walk (knd:=bf X.prog X.w) hall hl h0 h15 (aV (h pins _ σ _ _ I1 (q _ hn)) fun ws s2 ⟨ps,H2,I2,rel,e,kvs,ep,lk,q2⟩=>?_)
 subst ep
 obtain ⟨rs,c,rk⟩:=iG (P:=X.prog) (w:=X.w) rel
 obtain ⟨z,hd,vs0,r0,dd⟩:=BR I2.hok e
 cases r0
 refine ⟨rs,c,dd,fun h' dd' hs=>⟨.ref s.heap.objs.size,_,?_,rfl,q2⟩⟩
 have hz:(aU [] kvs).length<=sizeLine:=by
   have h1:=eW kvs []
   rw [GP] at h1
   rw [sizeLine_eq]; omega
 have he:∃q,h'.get? s.heap.objs.size=some q:=let ⟨q,_,_,hq,_⟩:=dd'; ⟨q,hq⟩
 exact vP I2 (by rw [e]; exact GD) hs he (zb hz hd (rk.merge .nil) dd')


/-! ### methods -/
/-- a method call o.m(e) of a built-in,with one argument: what must be seen of the text -/
structure M1 (X:Cx)(o:Expr)(m:Str)(apos:Pos)(e:Expr)(cpos:Pos):Prop where
 base:attributeBase o m X.env (eval o X.env)=eval o X.env
 few:((backTo cpos (starEach [e] X.env)).all (fun x=>!x.1) && (backToKw cpos (keywordEach [] X.env)).all (fun x=>x.1.isSome)
   && decide (([e]:List Expr).length + ([]:List Keyword).length + (if ([]:List Keyword).isEmpty then 0 else 1) < 30))=true
 line:(apos.endLine == cpos.line)=true
 trees:backTo cpos (starEach [e] X.env)=[(false,eval e X.env)]
structure M2 (X:Cx)(o:Expr)(m:Str)(apos:Pos)(e f:Expr)(cpos:Pos):Prop where
 base:attributeBase o m X.env (eval o X.env)=eval o X.env
 few:((backTo cpos (starEach [e,f] X.env)).all (fun x=>!x.1) && (backToKw cpos (keywordEach [] X.env)).all (fun x=>x.1.isSome)
   && decide (([e,f]:List Expr).length + ([]:List Keyword).length + (if ([]:List Keyword).isEmpty then 0 else 1) < 30))=true
 line:(apos.endLine == cpos.line)=true
 trees:backTo cpos (starEach [e,f] X.env)=[(false,eval e X.env),(false,eval f X.env)]

/-- a is a dict,whatever its keys -/
def EE (H:Hp)(a:Addr):Prop:=(∃kvs,Rd H a (.dK kvs))\/∃kvs,Rd H a (.dT kvs)
theorem zu {X:Cx}{pins:List (Addr×Obj)}{σ:St}{H:Hp}{s:Shared}{a:Addr}(I:Inv X pins σ H s)(d:EE H a) :
   s.TypeIs (.ref a) "dict"/\(∀b,Gq a=.ref b->∃ob,s.heap.get? b=some ob/\ob.dict=none)/\(a == sysModules)=false:=by
 rcases d with ⟨kvs,e⟩ | ⟨kvs,e⟩
 · obtain ⟨_,hd,vs,_,dd⟩:=l6 I.hok e
   refine ⟨dd.typeIs,fun b q=>?_,hd⟩
   cases q
   obtain ⟨ob,_,_,h1,h2,_⟩:=dd
   exact ⟨ob,h1,h2.2.1⟩
 · obtain ⟨_,hd,xs,_,dd⟩:=oR I.hok e
   refine ⟨dd.typeIs,fun b q=>?_,hd⟩
   cases q
   obtain ⟨ob,_,_,h1,h2,_⟩:=dd
   exact ⟨ob,h1,h2.2.1⟩

section
variable {X:Cx}{pins:List (Addr×Obj)}{σ:St}{H:Hp}{s:Shared}{a:Addr}{y d:V}{u r:Value}{o:Option V}{A:Around}{E:Value->Shared->Prop}
/-- d.get(y,x) -/
theorem y9 {Q:Value->Shared->Prop}(hu:A.units + 1 < cLine)(I:Inv X pins σ H s)(g:jq H a y o)(ry:RelV y u)(rd:RelV d r)(h:∀w' s',Inv X pins σ H s'->RelV (o.getD d) w'->Q w' s') :
   wpAny (model X.prog X.w) A (call (.builtin "dict.get") [.ref a,u,r]) Q E s:=by
 rcases g with ⟨kvs,k,e,ey,l⟩ | ⟨kvs,k,b,e,ey,eb,l⟩
 · subst ey
   obtain ⟨z,hd,vs,rel,dd⟩:=l6 I.hok e
   refine call_meetsIn G7 dd.typeIs Ik (IK _ _ _) (meets_dict_get_default (bf X.prog X.w) a (ph ry) hd r) ⟨_,dd.mapOf,h _ _ (I.tok _) ?_⟩
   rw [l]
   exact (rel.val k).getD rd
 · subst ey
   cases (show u=Gq b from ry)
   obtain ⟨z,hd,xs,rel,dd⟩:=oR I.hok e
   refine call_meetsIn G7 dd.typeIs Ik (IK _ _ _) (meetsH_dict_get_default (tupleKind (bf X.prog X.w)) a b hd r) ⟨tupleKind_room_in1 hu,k,xs,nR I.hok eb,dd,h _ _ (I.tok _) ?_⟩
   rw [l]
   exact (rel.val k).getD rd
end

def vf (td ty tx:TE):TE:=fun σ H Q=>td σ H fun x H1=>∃a,x=.ref a/\EE H1 a/\ty σ H1 fun y H2=>tx σ H2 fun z H3=>∃o,jq H3 a y o/\Q (o.getD z) H3
section
variable {X:Cx}{o e f:Expr}{apos cpos:Pos}{td ty tx:TE}
theorem uv (hu:X.A.units + 1 < cLine)(ho:PE X o td)(he:PE X e ty)(hf:PE X f tx)(m:M2 X o "get" apos e f cpos):PE X (.Call (.Attribute o "get" apos) [e,f] [] cpos) (vf td ty tx):=by
 intro pins s σ H Q I h
 refine wpAny_Call_method m.base m.few m.line II G7 IT (aV (ho pins s σ H _ I h) fun u s1 ⟨x,H1,I1,rx,a,ex,d,q1⟩=>?_)
 subst ex
 obtain rfl:u=Gq a:=rx
 obtain ⟨t1,t2,_⟩:=zu I1 d
 refine ⟨t1,t2,?_⟩
 rw [m.trees]
 refine HP rfl (HV (HQ (aV (he pins s1 σ H1 _ I1 q1) fun iv s2 ⟨y,H2,I2,ry,q2⟩=>
   HQ (aV (hf pins s2 σ H2 _ I2 q2) fun fv s3 ⟨z,H3,I3,rz,ov,g,q3⟩=>IL ?_))))
 exact y9 hu I3 g ry rz fun w' s4 I4 rw'=>⟨_,H3,I4,rw',q3⟩
end

/-! ### dict(d): a copy -/


/-! ### a dict's pairs: keys that differ -/
end L2
set_option Elab.async false
set_option linter.all false
set_option maxRecDepth 100000
namespace L2
open PySem PySem.Spec PyProof.Rows

/-! ### a comprehension's block: its context -/
def dN (scope:Scope)(env:Env):List (Str×Addr):=
 (scope.names.filterMap fun (p:Str×NameKind)=>if p.2 == .free then (env.cells.lookup p.1).map fun c=>(p.1,c) else none).reverse
theorem iH (env:Env):∀(l:List (Str×NameKind)) (acc:List (Str×Addr)),(∀p∈l,p.2=.free->∃c,env.cells.lookup p.1=some c) ->
   (forIn l acc fun (x:Str×NameKind) (r:List (Str×Addr))=>if (x.2 == Gz)=true then do let c ← cellOf env x.1; pure (HX ((x.1,c) :: r)) else pure (HX r):Sem (List (Str×Addr))) =
     pure ((l.filterMap fun (p:Str×NameKind)=>if p.2 == .free then (env.cells.lookup p.1).map fun c=>(p.1,c) else none).reverse++acc)
 | [],acc,_=>rfl
 | p :: l,acc,h=>by
   have ih:=fun acc=>iH env l acc fun q hq=>h q (F7 _ hq)
   rw [Jf]
   by_cases hp:p.2=.free
   · obtain ⟨c,hc⟩:=h p F4 hp
     have e:(p.2 == Gz)=true:=by rw [hp]; rfl
     rw [if_pos e]
     have ec:cellOf env p.1=pure c:=by unfold cellOf; rw [hc]
     rw [ec,Ib,if_pos e,hc]
     show (forIn l ((p.1,c) :: acc) _:Sem _)=_
     rw [ih]
     simp
   · have e:¬ (p.2 == Gz)=true:=by intro z; exact hp (by simpa using z)
     rw [if_neg e,Ib,if_neg e]
     show (forIn l acc _:Sem _)=_
     rw [ih]
theorem iI {scope:Scope}{env:Env}(h:∀p∈scope.names,p.2=.free->∃c,env.cells.lookup p.1=some c):closureFor scope env=pure (dN scope env):=by
 have e:=iH env scope.names [] h
 rw [GH] at e
 show ((forIn scope.names [] fun (x:Str×NameKind) (r:List (Str×Addr))=>if (x.2 == Gz)=true then do let c ← cellOf env x.1; pure (HX ((x.1,c) :: r)) else pure (HX r)) >>= fun cs=>pure cs:Sem (List (Str×Addr)))=_
 rw [e]
 rfl
theorem kM {scope:Scope}{env:Env}{x:Str}{c:Addr}(h:(x,c)∈dN scope env):(x,Gz)∈scope.names/\env.cells.lookup x=some c:=by
 unfold dN at h
 obtain ⟨p,hp,e⟩:=List.mem_filterMap.mp (List.mem_reverse.mp h)
 obtain ⟨n,k⟩:=p
 dsimp only at e
 by_cases hk:(k == Gz)=true
 · rw [if_pos hk] at e
   have hk':k=.free:=by simpa using hk
   subst hk'
   cases q:env.cells.lookup n with
   | none=>rw [q] at e; cases e
   | some c'=>rw [q] at e; cases e; exact ⟨hp,q⟩
 · rw [if_neg hk] at e; cases e
theorem jO {scope:Scope}{env:Env}{x:Str}{c:Addr}(hm:(x,Gz)∈scope.names)(hc:env.cells.lookup x=some c):(dN scope env).lookup x=some c:=by
 have hin:(x,c)∈dN scope env:=by
   unfold dN
   refine List.mem_reverse.mpr (List.mem_filterMap.mpr ⟨(x,.free),hm,?_⟩)
   simp [hc]
 cases q:(dN scope env).lookup x with
 | none=>
   have:=List.lookup_eq_none_iff.mp q (x,c) hin
   simp at this
 | some c'=>
   obtain ⟨_,e⟩:=kM (GF q)
   rw [hc] at e
   exact e.symm

/-- what of a comprehension's scope must be true (all of it by looking) -/
structure aC (sc:Scope)(env:Scope):Prop where
 kind:sc.kind=.function
 cell:∀y∈sc.names,y.2≠.cell
 names:∀x∈sc.names,x.2=.local->sc.names.lookup x.1=some .local
 free:∀x∈sc.names,x.2=.free->env.names.lookup x.1=some .cell\/env.names.lookup x.1=some .free
/-- the names of the block: the own ones,then those that are read from around,by their slots there -/
def bB (sc:Scope)(src:List (Option Nat))(N' N:List Str):Bool:=
 src.length == N'.length && (src.zip N').all fun p=>match p.1 with
   | none=>true
   | some j=>N[j]? == some p.2 && sc.names.lookup p.2 == some .free
def capσ (src:List (Option Nat))(σ:St):St:=src.map fun o=>match o with
 | none=>none
 | some j=>match σ[j]? with
   | some v=>v
   | none=>none
theorem vL {sc:Scope}{N N':List Str}{src:List (Option Nat)}(h:bB sc src N' N=true){i:Nat}{x:Str}{j:Nat}(h1:src[i]? = some (some j))(h2:N'[i]? = some x):N[j]? = some x/\sc.names.lookup x=some .free:=by
 unfold bB at h
 have h':=(HE _ _ ▸ h).2
 have hz:(src.zip N')[i]? = some (some j,x):=by rw [List.getElem?_zip_eq_some]; exact ⟨h1,h2⟩
 have q:=List.all_eq_true.mp h' _ (Gx hz)
 simpa using q
theorem rY {sc:Scope}{N N':List Str}{src:List (Option Nat)}(h:bB sc src N' N=true):src.length=N'.length:=by
 unfold bB at h
 have h':=(HE _ _ ▸ h).1
 simpa using h'

/-- the context of a comprehension's block -/
def b6 (X:Cx)(N':List Str)(sc:Scope)(s:Shared)(H:Hp)(C:Addr)(fp:List Addr)(xe:Value->Shared->Prop):Cx where
 prog:=X.prog
 w:=X.w
 K:=X.K
 mg:=X.mg
 base:=X.base
 A:=X.A
 N:=N'
 s₀:=s
 H₀:=H
 env:=compEnvC sc (dN sc X.env) C X.env
 outer:=X.stack
 stack:=X.stack
 ex:=fp
 fn:=fun _=>false
 calm:=X.calm
 pn:=[]
 xe:=xe

theorem eo {sc:Scope}{env:Env}{x:Str}:∀{names:List (Str×NameKind)},
   (names.map fun (p:Str×NameKind)=>if (p.2 == Gz && env.scope.kind == .function && env.kindOf p.1 == some .cell) then (p.1,JO) else (p.1,p.2)).lookup x =
     (names.lookup x).map fun k=>if (k == Gz && env.scope.kind == .function && env.kindOf x == some .cell) then JO else k
 | []=>rfl
 | (n,k) :: r=>by
   have ih:=@eo sc env x r
   rw [Gi]
   cases hx:x == n with
   | true=>
     have e:x=n:=by simpa using hx
     subst e
     by_cases hc:(k == Gz && env.scope.kind == .function && env.kindOf x == some .cell)=true
     · simp only [hc,if_true,GL,hx,Ie]
     · simp only [hc,if_false,GL,hx,Ie,JA]
   | false=>
     by_cases hc:(k == Gz && env.scope.kind == .function && env.kindOf n == some .cell)=true
     · simp only [hc,if_true,GL,hx]; exact ih
     · simp only [hc,if_false,GL,hx,JA]; exact ih
theorem jQ {sc:Scope}{env:Env}{cl:List (Str×Addr)}{C:Addr}(x:Str):(compEnvC sc cl C env).kindOf x =
   (sc.names.lookup x).map fun k=>if (k == Gz && env.scope.kind == .function && env.kindOf x == some .cell) then JO else k:=
 eo (sc:=sc) (env:=env)

section
variable {X:Cx}{pins:List (Addr×Obj)}{σ:St}{H:Hp}{s:Shared}{N':List Str}{sc:Scope}{src:List (Option Nat)}{fp:List Addr}{xe:Value->Shared->Prop}
/-- entered: the block's namespace has just been laid at the heap's end -/
theorem iJ (I:Inv X pins σ H s)(S:aC sc X.env.scope)(hc:bB sc src N' X.N=true)(hf:∀b∈fp,cU X pins H b)(ho:∀b∈fp,∃o,s.heap.get? b=some o){h₁:Heap}{tk:Nat}
   (hn:h₁.Ns s.heap.objs.size (fun _=>none)) (hk:∀b o,s.heap.get? b=some o->h₁.get? b=some o) :
   Inv (b6 X N' sc s H s.heap.objs.size fp xe) [] (capσ src σ) H { s with heap:=h₁,toks:=tk }:=by
 have cellmem:∀x c,(dN sc X.env).lookup x=some c->X.env.cells.lookup x=some c:=fun x c e=>(kM (GF e)).2
 have isfree:∀x,((compEnvC sc (dN sc X.env) s.heap.objs.size X.env).kindOf x=some .cell\/(compEnvC sc (dN sc X.env) s.heap.objs.size X.env).kindOf x=some .free)->(x,Gz)∈sc.names:=fun x hx=>by
   rw [jQ] at hx
   cases q:sc.names.lookup x with
   | none=>rw [q] at hx; simp at hx
   | some k=>
     have hm:=GF q
     by_cases hkf:k=.free
     · subst hkf; exact hm
     · have:(k == Gz)=false:=by simpa using hkf
       have e2:(k == Gz && X.env.scope.kind == .function && X.env.kindOf x == some .cell)=false:=by rw [this]; rfl
       rw [q,Ie,e2] at hx
       have hx':(some k:Option NameKind)=some .cell\/(some k:Option NameKind)=some .free:=hx
       rcases hx' with hx | hx
       · exact absurd (Gm hx) (S.cell _ hm)
       · exact absurd (Gm hx) hkf
 have has:∀x,(x,Gz)∈sc.names->∃c,X.env.cells.lookup x=some c:=fun x hm=>I.ok.has x (S.free _ hm rfl)
 refine ⟨⟨I.ok.mod,S.kind,I.ok.glob,I.ok.blt,F8 _,fun x y c h1 h2=>I.ok.inj x y c (cellmem x c h1) (cellmem y c h2),fun x hx=>?_,fun x c hfn _=>?_,I.ok.hd,I.ok.frames,.inl rfl,fun b hb=>⟨?_,fun x c e=>?_⟩,I.bs,F2 I.ok.bsz I.sz,fun b o e hb=>?_,fun b hb hs=>?_,I.stack,I.stkFree⟩,
   rfl,I.bare,Un.kept hk,⟨_,hn,fun i x v h1 h2 h3=>?_⟩,fun x c e=>?_,I.hok.fresh (F8 _),fun x c e=>I.freeC x c (cellmem x c e),fun p hp=>absurd (show p∈([]:List (Addr×Obj)) from hp) (by simp),I.hok.kept hk,?_⟩
 · obtain ⟨c,e⟩:=has x (isfree x hx)
   exact ⟨c,jO (isfree x hx) e⟩
 · exact absurd (show false=true from hfn) (by simp)
 · obtain ⟨o,e⟩:=ho b hb
   exact Gw (Ga e)
 · exact (hf b hb).2.2.2.2.1 x c (cellmem x c e)
 · rcases (hf b hb).2.2.2.1 with z | z
   · exact I.ok.noex b o e z
   · exact absurd (Gk (Ga e) (F2 I.ok.bsz z)) (He _)
 · rcases List.mem_cons.mp (I.stkSub b hs) with z | z
   · exact (hf b hb).2.1 z
   · exact (hf b hb).2.2.1 z
 · -- a captured name
   have h2':(capσ src σ)[i]? = some (some v):=h2
   unfold capσ at h2'
   rw [GI] at h2'
   cases q:src[i]? with
   | none=>rw [q] at h2'; cases h2'
   | some o=>
     rw [q] at h2'
     cases o with
     | none=>simp at h2'
     | some j=>
       obtain ⟨hj,hfr⟩:=vL hc q h1
       have hσ:σ[j]? = some (some v):=by
         simp only [Ie,Option.some.injEq] at h2'
         cases r:σ[j]? with
         | none=>rw [r] at h2'; cases h2'
         | some w=>rw [r] at h2'; rw [← h2']
       have hm:=GF hfr
       have hout:=S.free _ hm rfl
       obtain ⟨m,_,hl⟩:=I.loc
       obtain ⟨u,ru,lk⟩:=hl j x v hj hσ (Or.inr hout)
       refine ⟨u,ru,.inr ⟨?_,?_⟩⟩
       · show (compEnvC sc (dN sc X.env) s.heap.objs.size X.env).kindOf x=some .cell\/(compEnvC sc (dN sc X.env) s.heap.objs.size X.env).kindOf x=some .free
         rw [jQ,hfr]
         by_cases z:(Gz == Gz && X.env.scope.kind == .function && X.env.kindOf x == some .cell)=true
         · exact .inl (by simp only [Ie,z,if_true])
         · exact .inr (by simp only [Ie,z,if_false,JA])
       · rcases lk with ⟨z,_⟩ | ⟨_,c,e,z⟩
         · have z':X.env.scope.names.lookup x=some .local:=z
           rcases hout with y | y <;> (rw [z'] at y; cases y)
         · obtain ⟨oc,hoc,hd⟩:=z
           exact ⟨c,jO hm e,oc,hk c oc hoc,hd⟩
 · obtain ⟨v,oc,hoc,hd⟩:=I.cell x c (cellmem x c e)
   exact ⟨v,oc,hk c oc hoc,hd⟩
 · show (capσ src σ).length=N'.length
   unfold capσ
   rw [F0]
   exact rY hc
/-- left: the block's end is a state of the def's body again; the namespace may still be changed -/
theorem fb {H':Hp}{σ':St}{s':Shared}(I:Inv X pins σ H s)(hf:∀b∈fp,cU X pins H b)(I':Inv (b6 X N' sc s H s.heap.objs.size fp xe) [] σ' H' s'):Inv X pins σ H' s':=
 I.call' I'.os I'.base I'.hok I'.bare fun b hb=>⟨(hf b hb).2.2.2.1,(hf b hb).2.1,(hf b hb).2.2.2.2.1,(hf b hb).2.2.2.2.2⟩
theorem kO {H':Hp}{σ':St}{s':Shared}(I':Inv (b6 X N' sc s H s.heap.objs.size fp xe) [] σ' H' s'):∃m,s'.heap.Ns s.heap.objs.size m:=let ⟨m,hn,_⟩:=I'.loc; ⟨m,hn⟩
theorem jP {H1:Hp}{σ1:St}{s1:Shared}{h':Heap}(I:Inv X pins σ H s)(I1:Inv X pins σ1 H1 s1)(hn:H1 s.heap.objs.size=none)(hs:Hl s.heap.objs.size s1.heap h'):Inv X pins σ1 H1 { s1 with heap:=h' }:=by
 obtain ⟨f0,f1,f2,f3,f4,f5⟩:=I.fpOk (H':=H1) (F8 _) hn
 exact I1.turned (t':=s1.toks) (fun b o hb e=>(hs.2 b hb).trans e) f0 f1 f3 f4 f5
end
end L2
set_option Elab.async false
set_option linter.all false
set_option maxRecDepth 100000
namespace L2
open PySem PySem.Spec PyProof.Rows

/-! ### a comprehension's loop -/
/-- what a turn gives over: the values of the second where the first one has any -/
def aT:St->St->Prop
 | [],[]=>True
 | none :: r,_ :: r'=>aT r r'
 | some v :: r,u :: r'=>u=some v/\aT r r'
 | _,_=>False
theorem aT.len:∀{a b:St},aT a b->a.length=b.length
 | [],[],_=>rfl
 | [],_ :: _,h=>h.elim
 | none :: _,[],h=>h.elim
 | some _ :: _,[],h=>h.elim
 | none :: r,_ :: r',h=>by
   have h':aT r r':=h
   rw [F5,F5,h'.len]
 | some v :: r,u :: r',h=>by
   have h':u=some v/\aT r r':=h
   rw [F5,F5,h'.2.len]
theorem aT.get:∀{a b:St},aT a b->∀(i:Nat) (v:V),a[i]? = some (some v)->b[i]? = some (some v)
 | [],[],_,i,v,e=>by simp at e
 | [],_ :: _,h,_,_,_=>h.elim
 | none :: _,[],h,_,_,_=>h.elim
 | some _ :: _,[],h,_,_,_=>h.elim
 | none :: r,_ :: r',h,0,v,e=>by simp at e
 | none :: r,_ :: r',h,i + 1,v,e=>by
   have h':aT r r':=h
   simpa using h'.get i v (by simpa using e)
 | some w :: r,u :: r',h,0,v,e=>by
   have h':u=some w/\aT r r':=h
   simp at e
   subst e
   simp [h'.1]
 | some w :: r,u :: r',h,i + 1,v,e=>by
   have h':u=some w/\aT r r':=h
   simpa using h'.2.get i v (by simpa using e)

/-- the tests of a clause -/
def gV (X:Cx)(cs:List Expr)(t:TT):Prop:=
 ∀(pins:List (Addr×Obj)) (s:Shared) (σ:St) (H:Hp) (Q:Bool->Hp->Prop),Inv X pins σ H s->t σ H Q ->
   wpAny (model X.prog X.w) X.A (forIn cs true fun c r=>if r=true then do let ok ← isTrue c X.env (eval c X.env); pure (HX ok) else pure (HX r)) (TP X pins σ Q) X.xe s
def A1:TT:=fun _ H Q=>Q true H
theorem En {X:Cx}:gV X [] A1:=fun _ _ _ H _ I h=>wpAny_tests_nil ⟨H,I,h⟩
theorem Eo {X:Cx}{c:Expr}{t:TT}(h:PT X c t):gV X [c] t:=fun pins s σ H Q I q=>wpAny_tests_one (h pins s σ H Q I q)
/-- what a turn does with what it has made -/
abbrev TM:=St->Hp->(Hp->Prop)->Prop
def yQ (X:Cx)(m:Sem Unit)(t:TM):Prop:=
 ∀(pins:List (Addr×Obj)) (s:Shared) (σ:St) (H:Hp) (Q:Hp->Prop),Inv X pins σ H s->t σ H Q ->
   wpAny (model X.prog X.w) X.A m (fun _ s'=>∃H',Inv X pins σ H' s'/\Q H') X.xe s
/-- one turn -/
def oF (tg:Expr)(ipos:Pos)(ifs:List Expr)(it:Value)(env:Env)(cont:Sem Unit)(more:Sem Fin):Sem Fin:=do
 standAt ipos
 match ← pyNext it with
 | none=>pure (.done .next)
 | some v=>
   letOwnedTupleGo tg it v
   assign tg env v
   let mut ok:=true
   for c in ifs do
     if ok then ok ← isTrue c env (eval c env)
   if ok then cont
   more
/-- W: by the turn and a measure; σ0: what each turn begins with -/
def jm (J:It)(σ0:St)(g:TG)(tifs:TT)(tm:TM)(Z:Hp->Prop)(H:Hp):Prop:=
 ∃W:Nat->Nat->Hp->Prop,(∃m,W 0 m H)/\∀i m H,W i m H->(J.stop i H/\Z H) \/
   (J.go i H/\∀x H',J.yld i H x H'->g x σ0 H' fun σ2 H2=>tifs σ2 H2 fun b H3=>
     if b=true then tm σ2 H3 fun H4=>aT σ0 σ2/\∃m',m' < m/\W (i + 1) m' H4 else aT σ0 σ2/\∃m',m' < m/\W (i + 1) m' H3)

section
variable {X:Cx}{e tg:Expr}{ipos:Pos}{ifs:List Expr}{depth:Nat}{acc:Value}{cont:Sem Unit}{it:Addr}{fp:List Addr}{tn:Nat->Heap->Prop}{J:It}{g:TG}{tifs:TT}{tm:TM}{σ0:St}{Z:Hp->Prop}{R:Result->Shared->Prop}
theorem jR (hX:X.xe=notedBy (model X.prog X.w) X.A X.env fun e s'=>R (.error e) s')
   (heq:compTurn e depth (.ref it) acc X.env=oF tg ipos ifs (.ref it) X.env cont (again (.compLoop e depth (.ref it) acc X.env)))
   (hq:(IS e depth (.ref it) acc X.env).quiet=true) (hA:X.A.under (.compLoop e depth (.ref it) acc X.env)=X.A) (hF:(IS e depth (.ref it) acc X.env).isFrame=false)
   (hc:X.calm=true) (T:Turn X.prog X.w X.K tg J fp it tn) (hg:PG X tg g) (hif:gV X ifs tifs) (hm:yQ X cont tm)
   {pins:List (Addr×Obj)} {H:Hp} {s:Shared} (hf:∀b∈fp,cU X pins H b) (I:Inv X pins σ0 H s) (st:tn 0 s.heap)
   (hZ:∀H' s',Inv X pins σ0 H' s'->(∀b∈fp,H' b=none)->Z H'->R (.ok .next) s') (h:jm J σ0 g tifs tm Z H) :
   codeAny (model X.prog X.w) X.A (.compLoop e depth (.ref it) acc X.env) R s:=by
 obtain ⟨W,⟨m0,w0⟩,turn⟩:=h
 have stat:∀{H':Hp},(∀b∈fp,H' b=none)->∀b∈fp,cU X pins H' b:=fun hn b hb=>⟨hn b hb,(hf b hb).2⟩
 refine codeAny_loop hq (fun n s'=>∃i H',Inv X pins σ0 H' s'/\tn i s'.heap/\(∀b∈fp,H' b=none)/\W i n H') ?_ m0 ⟨0,H,I,st,fun b hb=>(hf b hb).1,w0⟩
 rintro n s3 ⟨i,H3,I3,st3,fr3,w3⟩
 rw [hA]
 have hden:(model X.prog X.w).den (.compLoop e depth (.ref it) acc X.env)=(compTurn e depth (.ref it) acc X.env).onRaise (fun x=>do noteFrame x X.env; theTreesLotGoes x):=by
   show (if (IS e depth (.ref it) acc X.env).isFrame then _ else _)=_
   rw [if_neg (by rw [hF]; decide)]
 rw [hden]
 refine wpAny_noted ?_
 rw [← hX,heq]
 unfold oF
 refine wpAny_bind (wpAny_standAt ?_)
 have again':∀{σ7:St} {H7:Hp} {s5 s7:Shared},tn (i + 1) s5.heap->Inv X (pins++jd fp s5.heap) σ7 H7 s7->aT σ0 σ7->(∃m',m' < n/\W (i + 1) m' H7) ->
     ∃m,m < n/\∃i H',Inv X pins σ0 H' s7/\tn i s7.heap/\(∀b∈fp,H' b=none)/\W i m H':=fun {σ7 H7 s5 s7} st5 I7 k7 ⟨m',hm',w7⟩=>by
   refine ⟨m',hm',i + 1,H7,I7.unpinned.weak k7.len k7.get,T.keep _ _ _ st5 fun b hb o e=>(I7.pin (b,o) (Gj _ (Gj _ (dA hb e)))).1,fun b hb=>?_,w7⟩
   obtain ⟨o,e,d⟩:=T.obj _ _ st5 b hb
   exact (I7.pin (b,o) (Gj _ (Gj _ (dA hb e)))).2.1
 rcases turn i n H3 w3 with ⟨stop,qn⟩ | ⟨go,step⟩
 · refine wpAny_bind (aV (T.done X rfl rfl rfl hc i pins s3 σ0 H3 X.xe I3 (stat fr3) st3 stop) fun r s4 ⟨hr,I4⟩=>?_)
   subst hr
   exact wpAny_pure (hZ H3 s4 I4 fr3 qn)
 · refine wpAny_bind (aV (T.item X rfl rfl rfl hc i pins s3 σ0 H3 X.xe I3 (stat fr3) st3 go) fun r s4 ⟨u,hr,h4⟩=>?_)
   subst hr
   refine wpAny_bind (aV h4 fun _ s5 ⟨x,H5,I5,r5,y5,st5,fr5⟩=>?_)
   have I5':=I5.pinned (stat fr5) (T.obj _ _ st5)
   refine wpAny_bind (aV (hg _ s5 σ0 H5 x u _ I5' r5 (step x H5 y5)) fun _ s6 ⟨σ6,H6,I6,q6⟩=>?_)
   refine wpAny_bind (aV (hif _ s6 σ6 H6 _ I6 q6) fun b s7 ⟨H7,I7,q7⟩=>?_)
   cases b with
   | false=>
     obtain ⟨k7,w7⟩:=q7
     exact wpAny_pure ⟨rfl,again' st5 I7 k7 w7⟩
   | true=>
     refine wpAny_bind (aV (hm _ s7 σ6 H7 _ I7 q7) fun _ s8 ⟨H8,I8,k8,w8⟩=>?_)
     exact wpAny_pure ⟨rfl,again' st5 I8 k8 w8⟩
end
end L2
set_option Elab.async false
set_option linter.all false
set_option maxRecDepth 100000
namespace L2
open PySem PySem.Spec PyProof.Rows

/-- what a comprehension needs of its kind: its loop's turn and its start -/
structure cY (P:Program)(w:World)(A:Around)(e:Expr)(tg iter:Expr)(ifs:List Expr)(emit:Addr->Env->Sem Unit):Prop where
 cl:clausesOf e=[⟨tg,iter,ifs,0⟩]
 turn:∀it D env,compTurn e 0 (.ref it) (.ref D) env=oF tg iter.pos ifs (.ref it) env (emit D env) (again (.compLoop e 0 (.ref it) (.ref D) env))
 start:∀(R:Result->Shared->Prop) (s:Shared) (it acc:Value) (env:Env),codeAny (model P w) A (.compLoop e 0 it acc env) R s ->
   wpAny (model P w) A (pyIter it) (fun it' s'=>codeAny (model P w) A (.compLoop e 0 it' acc env) R s') (notedBy (model P w) A env fun x s'=>R (.error x) s') s->codeAny (model P w) A (.compStart e 0 it acc env) R s
 quiet:∀it acc env,(IS e 0 it acc env).quiet=true
 under:∀it acc env,A.under (.compLoop e 0 it acc env)=A
 frame:∀it acc env,(IS e 0 it acc env).isFrame=false

theorem kL {P:Program}{w:World}{A:Around}{elt tg iter:Expr}{ifs:List Expr}{sc:Scope}{pos:Pos} :
   cY P w A (.ListComp elt [⟨tg,iter,ifs,0⟩] sc pos) tg iter ifs (fun D env=>do let _ ← call (.builtin "list.append") [.ref D,← eval elt env]) where
 cl:=rfl
 turn:=fun it D env=>by rw [compTurn_list]; rfl
 start:=fun R s it acc env h0 h=>codeAny_compStart_list h0 h
 quiet:=fun _ _ _=>rfl
 under:=fun _ _ _=>rfl
 frame:=fun _ _ _=>rfl
section
variable {X:Cx}{e tg iter:Expr}{ifs:List Expr}{emit:Addr->Env->Sem Unit}{sc:Scope}{pos:Pos}{wi:TI}{N':List Str}{src:List (Option Nat)}{g:TG}{tifs:TT}{tm:Addr->TM}{newAcc:Sem Value}{ob:Obj}{accO:HO}
/-- a comprehension: the accumulator at D (it begins as accO) -/
def cv (src:List (Option Nat))(accO:HO)(wi:TI)(g:TG)(tifs:TT)(tm:Addr->TM):TE:=
 fun σ H Q=>wi σ H fun J H1=>∀D,H1 D=none->jm J (capσ src σ) g tifs (tm D) (fun H'=>Q (.ref D) H') (upd H1 D accO)
/-- the accumulator that is laid -/
structure f6 (X:Cx)(newAcc:Sem Value)(ob:Obj)(accO:HO):Prop where
 new:∀(s:Shared) (Q:Value->Shared->Prop) (E:Value->Shared->Prop),Q (.ref s.heap.objs.size) { s with heap:=s.heap.push ob }->wpAny (model X.prog X.w) X.A newAcc Q E s
 live:ob.isFreed=false
 ok:∀(pins:List (Addr×Obj)) (σ:St) (H:Hp) (s:Shared),Inv X pins σ H s->aZ X.prog X.w (upd H s.heap.objs.size accO) (s.heap.push ob) s.heap.objs.size accO

theorem lW {use:Option (Value->Sem Unit)}{Q':Value->Shared->Prop}(K:cY X.prog X.w X.A e tg iter ifs emit)(hc:X.calm=true)(S:aC sc X.env.scope)(hcap:bB sc src N' X.N=true)(hi:PI X tg iter wi)
   (hb:∀s H C fp xe D,PG (b6 X N' sc s H C fp xe) tg g/\gV (b6 X N' sc s H C fp xe) ifs tifs/\yQ (b6 X N' sc s H C fp xe) (emit D (b6 X N' sc s H C fp xe).env) (tm D)) (N:f6 X newAcc ob accO)
   (hs:∀x,foldedSetIterable iter X.env x=pure x)
   {pins:List (Addr×Obj)} {s:Shared} {σ:St} {H:Hp} {Q:VK} (I:Inv X pins σ H s) (h:cv src accO wi g tifs tm σ H Q)
   (hQ:∀(C D:Addr) (H':Hp) (s':Shared),Inv X pins σ H' s'->Q (.ref D) H'->H' C=none->(∃m,s'.heap.Ns C m)->(∀(σ1:St) (H1:Hp) (s1:Shared) (h':Heap),Inv X pins σ1 H1 s1->H1 C=none->Hl C s1.heap h'->Inv X pins σ1 H1 { s1 with heap:=h' }) ->
     (C≠X.env.locals/\∀x c,X.env.cells.lookup x=some c->c≠C)->compPost (model X.prog X.w) X.A X.xe use Q' (.ref D) C (.ok .next) s') :
   wpAny (model X.prog X.w) X.A (comprehension e sc X.env pos newAcc false (eval iter X.env) use) Q' X.xe s:=by
 refine wpAny_comprehension_free (g:=⟨tg,iter,ifs,0⟩) (gs:=[]) K.cl hs (iI fun p hp hf=>I.ok.has p.1 (S.free p hp hf)) S.kind S.names ?_
 refine aV (hi pins s σ H _ I h) fun v s1 h1=>aV h1 fun itv s2 h2=>?_
 obtain ⟨it,fp,tn,J,H2,e1,I2,T,st2,f2,q2⟩:=h2
 subst e1
 refine N.new s2 _ _ ?_
 have hD:H2 s2.heap.objs.size=none:=I2.hok.fresh (F8 _)
 have hk3:∀b o,s2.heap.get? b=some o->(s2.heap.push ob).get? b=some o:=fun b o e=>F6 _ e
 have I3:Inv X pins σ (upd H2 s2.heap.objs.size accO) { s2 with heap:=s2.heap.push ob }:=I2.laid (t':=s2.toks) hk3 (F8 _) (N.ok pins σ H2 s2 I2)
 have st3:tn 0 (s2.heap.push ob):=T.keep _ _ _ st2 fun b _ o e=>hk3 b o e
 have ob3:∀b∈fp,∃o,(s2.heap.push ob).get? b=some o:=fun b hb=>let ⟨o,e,_⟩:=T.obj _ _ st3 b hb; ⟨o,e⟩
 have f3:∀b∈fp,cU X pins (upd H2 s2.heap.objs.size accO) b:=fun b hb=>by
   refine ⟨?_,(f2 b hb).2⟩
   obtain ⟨o,e,_⟩:=T.obj _ _ st2 b hb
   rw [ai (Gw (Ga e))]
   exact (f2 b hb).1
 have qq:=q2 s2.heap.objs.size hD
 generalize hs3:({ s2 with heap:=s2.heap.push ob }:Shared)=s3 at I3 ⊢
 have hh3:s2.heap.push ob=s3.heap:=by rw [← hs3]
 rw [hh3] at st3 ob3
 generalize s2.heap.objs.size=D at I3 f3 qq hD ⊢
 refine wpAny_newFunctionEnv S.cell (by intro y hy; simp at hy) (fun h₁ hns hsb=>?_) S.kind
 have hns':h₁.Ns s3.heap.objs.size (fun _=>none):=hns
 have hk4:∀b o,s3.heap.get? b=some o->h₁.get? b=some o:=fun b o e=>hsb.extBut b o (Gw (Ga e)) (F6 _ e)
 -- the block
 let R:Result->Shared->Prop:=compPost (model X.prog X.w) X.A X.xe use Q' (.ref D) s3.heap.objs.size
 let X':Cx:=b6 X N' sc s3 (upd H2 D accO) s3.heap.objs.size fp (notedBy (model X.prog X.w) X.A (compEnvC sc (dN sc X.env) s3.heap.objs.size X.env) fun e s'=>R (.error e) s')
 have I4:Inv X' [] (capσ src σ) (upd H2 D accO) { s3 with heap:=h₁,toks:=s3.toks + ([]:List (Str×Value)).length }:=iJ I3 S hcap f3 ob3 hns' hk4
 have st4:tn 0 h₁:=T.keep _ _ _ st3 fun b _ o e=>hk4 b o e
 obtain ⟨hg,hif,hm⟩:=hb s3 (upd H2 D accO) s3.heap.objs.size fp (notedBy (model X.prog X.w) X.A (compEnvC sc (dN sc X.env) s3.heap.objs.size X.env) fun e s'=>R (.error e) s') D
 have f4:∀b∈fp,cU X' [] (upd H2 D accO) b:=fun b hb=>by
   obtain ⟨g0,g1,g2,g3,g4,g5⟩:=f3 b hb
   refine ⟨g0,?_,?_,.inl hb,fun x c e=>?_,fun p hp=>absurd (show p∈([]:List (Addr×Obj)) from hp) (by simp)⟩
   · obtain ⟨o,e⟩:=ob3 b hb
     exact Gw (Ga e)
   · intro z
     rcases List.mem_cons.mp (I3.stkSub b z) with y | y
     · exact g1 y
     · exact g2 y
   · exact g4 x c (kM (GF e)).2
 have fpC:cU X pins (upd H2 D accO) s3.heap.objs.size:=I3.fpOk (F8 _) (I3.hok.fresh (F8 _))
 have loop:∀s4:Shared,s4={ s3 with heap:=h₁,toks:=s3.toks + ([]:List (Str×Value)).length }->codeAny (model X.prog X.w) X.A (.compLoop e 0 (.ref it) (.ref D) X'.env) R s4:=by
   rintro s4 rfl
   refine jR (X:=X') (Z:=fun H'=>Q (.ref D) H') rfl (K.turn it D X'.env) (K.quiet _ _ _) (K.under _ _ _) (K.frame _ _ _) hc T hg hif hm f4 I4 st4 (fun H' s' I' _ z=>?_) qq
   refine hQ s3.heap.objs.size D H' s' (fb I3 f3 I') z I'.free (kO I') (fun σ1 H1 s1 h' I1 n1 hs1=>jP I3 I1 n1 hs1) ⟨fpC.2.1,fun x c e=>fpC.2.2.2.2.1 x c e⟩
 exact K.start R _ (.ref it) (.ref D) X'.env (loop _ rfl) (T.self X.A 0 _ _ _ st4 (loop _ rfl))

/-- as an expression -/
theorem xm (K:cY X.prog X.w X.A e tg iter ifs emit)(hc:X.calm=true)(S:aC sc X.env.scope)(hcap:bB sc src N' X.N=true)(hi:PI X tg iter wi)
   (hb:∀s H C fp xe D,PG (b6 X N' sc s H C fp xe) tg g/\gV (b6 X N' sc s H C fp xe) ifs tifs/\yQ (b6 X N' sc s H C fp xe) (emit D (b6 X N' sc s H C fp xe).env) (tm D)) (N:f6 X newAcc ob accO)
   (hs:∀x,foldedSetIterable iter X.env x=pure x) (he:eval e X.env=comprehension e sc X.env pos newAcc false (eval iter X.env)):PE X e (cv src accO wi g tifs tm):=by
 intro pins s σ H Q I h
 rw [he]
 refine lW (use:=none) (Q:=Q) K hc S hcap hi hb N hs I h fun C D H' s' I' q hn ⟨m,hm⟩ gone _=>?_
 exact ⟨m,hm,fun h' hs'=>⟨.ref D,H',gone σ H' s' h' I' hn hs',rfl,q⟩⟩
/-- as name=[..],where the store comes ahead of the variables' end -/
theorem xA {i:Nat}{x:Str}{pos' pos2:Pos}(K:cY X.prog X.w X.A e tg iter ifs emit)(hc:X.calm=true)(S:aC sc X.env.scope)(hcap:bB sc src N' X.N=true)(hi:PI X tg iter wi)
   (hb:∀s H C fp xe D,PG (b6 X N' sc s H C fp xe) tg g/\gV (b6 X N' sc s H C fp xe) ifs tifs/\yQ (b6 X N' sc s H C fp xe) (emit D (b6 X N' sc s H C fp xe).env) (tm D)) (N:f6 X newAcc ob accO)
   (hs:∀x,foldedSetIterable iter X.env x=pure x) (he:∀u,evalThenUse e X.env u=(do let _ ← comprehension e sc X.env pos newAcc false (eval iter X.env) (some u)))
   (hN:X.N.Nodup) (hix:X.N[i]? = some x) (hx:Loc X.env.scope x) (hsw:swapsWith e (some (.Name x pos')) pos2.line X.env=pure true)
   (hf:X.fn x=true\/X.env.scope.names.lookup x=some .local:=by first | exact .inl rfl | exact .inr rfl | assumption) :
   PS X (.Assign [.Name x pos'] e pos2) (oB (cv src accO wi g tifs tm) (fJ i)):=by
 intro pins s σ H D0 I h
 rw [exec_Assign_Name_used x pos' e pos2 hsw,he]
 refine wpAny_bind (wpAny_standAt (wpAny_bind (wpAny_bind ?_)))
 refine lW (use:=some (assign (.Name x pos') X.env)) (Q:=fun v H'=>D0.nx (σ.set i (some v)) H') (Q':=fun _ s'=>wpAny _ _ _ _ _ s') K hc S hcap hi hb N hs I h fun C D H' s' I' q hn ⟨m,hm⟩ gone ⟨hCL,hCc⟩=>?_
 refine wpAny_assign_Name (kq (v:=.ref D) I' hN hix hx rfl (fun s2 I2 hch=>?_) hf)
 obtain ⟨a,hsb,ha⟩:=hch
 have hne:C≠a:=by
   rcases ha with z | z
   · rw [z]; exact hCL
   · exact (hCc x a z).symm
 refine ⟨m,hm.sameBut hsb hne,fun h' hs'=>?_⟩
 exact wpAny_pure (wpAny_pure ⟨_,H',gone _ H' s2 h' I2 hn hs',q⟩)
end

section
variable {X:Cx}{elt kx vx:Expr}{te tk tv:TE}
/-- the element is put behind the list at D -/
def dQ (te:TE)(D:Addr):TM:=fun σ H K=>te σ H fun y H1=>∃ys,H1 D=some (.lst ys)/\ys.length < sizeLine/\K (upd H1 D (.lst (ys++[y])))
theorem oi (h:PE X elt te)(D:Addr):yQ X (do let _ ← call (.builtin "list.append") [.ref D,← eval elt X.env]) (dQ te D):=by
 intro pins s σ H Q I q
 refine wpAny_bind (aV (h pins s σ H _ I q) fun u s1 ⟨y,H1,I1,ru,ys,e,z,k⟩=>?_)
 refine wpAny_bind (aV (j9 pins s1 σ H1 (.ref D) [y] (.ref D) [u] (fun _ H'=>Q H') I1 rfl (.cons ru .nil) ⟨D,ys,y,rfl,rfl,e,z,k⟩) fun r s2 ⟨v,H2,I2,_,k2⟩=>?_)
 exact wpAny_pure ⟨H2,I2,k2⟩
theorem iB:f6 X (newList []) { cls:=.type "list",data:=.seq #[] } (.lst []) where
 new:=fun s Q E h=>wpAny_newObj_type h
 live:=rfl
 ok:=fun pins σ H s I=>⟨Gs _,[],0,.nil,Gn _ rfl⟩
end

/-! ### the rules one uses -/
section
variable {X:Cx}{elt kx vx tg iter:Expr}{ifs:List Expr}{sc:Scope}{pos:Pos}{wi:TI}{N':List Str}{src:List (Option Nat)}{g:TG}{tifs:TT}{te tk tv:TE}
/-- [elt for tg in iter if ..] -/
theorem Cv (src:List (Option Nat))(N':List Str)(hc:X.calm=true)(S:aC sc X.env.scope)(hcap:bB sc src N' X.N=true)(hi:PI X tg iter wi)
   (hb:∀s H C fp xe,PG (b6 X N' sc s H C fp xe) tg g/\gV (b6 X N' sc s H C fp xe) ifs tifs/\PE (b6 X N' sc s H C fp xe) elt te)
   (hs:∀x,foldedSetIterable iter X.env x=pure x:=by intro _; rfl):PE X (.ListComp elt [⟨tg,iter,ifs,0⟩] sc pos) (cv src (.lst []) wi g tifs (dQ te)):=
 xm kL hc S hcap hi (fun s H C fp xe D=>⟨(hb s H C fp xe).1,(hb s H C fp xe).2.1,oi (hb s H C fp xe).2.2 D⟩) iB hs rfl
/-- x=[elt for tg in iter if ..] on one row,x a plain local -/
theorem CC {i:Nat}{x:Str}{pos' pos2:Pos}(src:List (Option Nat))(N':List Str)(hc:X.calm=true)(S:aC sc X.env.scope)(hcap:bB sc src N' X.N=true)(hi:PI X tg iter wi)
   (hb:∀s H C fp xe,PG (b6 X N' sc s H C fp xe) tg g/\gV (b6 X N' sc s H C fp xe) ifs tifs/\PE (b6 X N' sc s H C fp xe) elt te)
   (hN:X.N.Nodup) (hix:X.N[i]? = some x) (hx:Loc X.env.scope x) (hsw:swapsWith (.ListComp elt [⟨tg,iter,ifs,0⟩] sc pos) (some (.Name x pos')) pos2.line X.env=pure true:=by rfl)
   (hs:∀x,foldedSetIterable iter X.env x=pure x:=by intro _; rfl) (hf:X.fn x=true\/X.env.scope.names.lookup x=some .local:=by first | exact .inl rfl | exact .inr rfl | assumption) :
   PS X (.Assign [.Name x pos'] (.ListComp elt [⟨tg,iter,ifs,0⟩] sc pos) pos2) (oB (cv src (.lst []) wi g tifs (dQ te)) (fJ i)):=
 xA kL hc S hcap hi (fun s H C fp xe D=>⟨(hb s H C fp xe).1,(hb s H C fp xe).2.1,oi (hb s H C fp xe).2.2 D⟩) iB hs (fun _=>rfl) hN hix hx hsw hf
end

/-! ### the forms one uses: Pv D i H,by the turn -/
section
variable {K:FX}{a:Addr}{xs:List V}{g:TG}{tifs:TT}{tm:TM}{σ0:St}{Z:Hp->Prop}{H:Hp}
theorem ig (n:Nat){J:It}(Pv:Nat->Hp->Prop)(h0:Pv 0 H)(hgo:∀i H,i < n->Pv i H->J.go i H)(hst:∀H,Pv n H->J.stop n H)
   (turn:∀i H,i < n->Pv i H->∀x H',J.yld i H x H'->g x σ0 H' fun σ2 H2=>tifs σ2 H2 fun b H3=>
     if b=true then tm σ2 H3 fun H4=>aT σ0 σ2/\∃m',m' < n - i/\(m'=n - (i + 1)/\i + 1<=n/\Pv (i + 1) H4) else aT σ0 σ2/\∃m',m' < n - i/\(m'=n - (i + 1)/\i + 1<=n/\Pv (i + 1) H3))
   (hZ:∀H,Pv n H->Z H):jm J σ0 g tifs tm Z H:=by
 refine ⟨fun i m H=>m=n - i/\i<=n/\Pv i H,⟨n,by simp,Gs _,h0⟩,?_⟩
 rintro i m H ⟨rfl,hi,p⟩
 by_cases hlt:i < n
 · exact .inr ⟨hgo i H hlt p,turn i H hlt p⟩
 · have e:i=n:=by omega
   subst e
   exact .inl ⟨hst H p,hZ H p⟩
/-- over a list that stays -/
theorem bK (Pv:Nat->Hp->Prop)(h0:Pv 0 H)(hl:∀i H,i<=xs.length->Pv i H->aw K H a xs)
   (turn:∀i x H,xs[i]? = some x->Pv i H->g x σ0 H fun σ2 H2=>tifs σ2 H2 fun b H3=>
     if b=true then tm σ2 H3 fun H4=>aT σ0 σ2/\∃m',m' < xs.length - i/\(m'=xs.length - (i + 1)/\i + 1<=xs.length/\Pv (i + 1) H4) else aT σ0 σ2/\∃m',m' < xs.length - i/\(m'=xs.length - (i + 1)/\i + 1<=xs.length/\Pv (i + 1) H3))
   (hZ:∀H,Pv xs.length H->Z H):jm (Ba K a) σ0 g tifs tm Z H:=by
 refine ig xs.length Pv h0 (fun i H hi p=>⟨xs,xs[i],hl i H (Hn hi) p,by simp [hi]⟩) (fun H p=>⟨xs,hl _ H (F8 _) p,F8 _⟩) (fun i H hi p x H' y=>?_) hZ
 obtain ⟨e,y⟩:=y
 subst e
 exact turn i x _ (y xs (hl i _ (Hn hi) p)) p
theorem iK {lo:Int}{n:Nat}(Pv:Nat->Hp->Prop)(h0:Pv 0 H)
   (turn:∀i H,i < n->Pv i H->g (.int (lo + i)) σ0 H fun σ2 H2=>tifs σ2 H2 fun b H3=>
     if b=true then tm σ2 H3 fun H4=>aT σ0 σ2/\∃m',m' < n - i/\(m'=n - (i + 1)/\i + 1<=n/\Pv (i + 1) H4) else aT σ0 σ2/\∃m',m' < n - i/\(m'=n - (i + 1)/\i + 1<=n/\Pv (i + 1) H3))
   (hZ:∀H,Pv n H->Z H):jm (yN lo n) σ0 g tifs tm Z H:=by
 refine ig n Pv h0 (fun i H hi p=>hi) (fun H p=>F8 _) (fun i H hi p x H' y=>?_) hZ
 obtain ⟨e,y⟩:=y
 subst e y
 exact turn i _ hi p
/-- a turn's end -/
theorem bh {n i:Nat}{P:Prop}{Pv:Nat->Hp->Prop}{H:Hp}(k:P)(hi:i < n)(p:Pv (i + 1) H):P/\∃m',m' < n - i/\(m'=n - (i + 1)/\i + 1<=n/\Pv (i + 1) H):=⟨k,_,by omega,rfl,hi,p⟩
end
end L2
set_option Elab.async false
set_option linter.all false
set_option maxRecDepth 100000
namespace L2
open PySem PySem.Spec PyProof.Rows

section
variable {X:Cx}{pins:List (Addr×Obj)}{σ:St}{H:Hp}{s:Shared}{h':Heap}{ch:List Addr}{a:Addr}{o:HO}
/-- records of ours have turned,and a new object is laid and tracked -/
theorem Inv.many {t':Nat}(I:Inv X pins σ H s)(hch:∀b∈ch,cU X pins H b)(k:∀b ob,b ∉ ch->s.heap.get? b=some ob->h'.get? b=some ob)(hp:s.heap.objs.size<=a)(new:aZ X.prog X.w (upd H a o) h' a o) :
   Inv X pins σ (upd H a o) { s with heap:=h',toks:=t' }:=by
 have hn:H a=none:=I.hok.fresh hp
 have na:∀b ob,s.heap.get? b=some ob->b≠a:=fun b ob e=>Gw (Gk (Ga e) hp)
 have nch:∀b u,H b=some u->b ∉ ch:=fun b u e z=>by rw [(hch b z).1] at e; cases e
 refine I.step (g':=s.gens) (d':=s.drawn) (ch:=ch) (fun b hb=>⟨(hch b hb).2.2.2.1,(hch b hb).2.1,(hch b hb).2.2.2.2.1,(hch b hb).2.2.2.2.2⟩) (fun b ob _ _ hc e _=>k b ob hc e) (fun b ob _ _ hc e _=>⟨ob.slots,k b ob hc e⟩)
   (fun b ob _ e n=>by rw [ai (na b ob e)]; exact n) (fun b ob hc e=>⟨ob,k b ob hc e⟩) (fun b xs e=>by rw [ai (aq e hn)]; exact e) (fun b ob u e=>by rw [ai (aq e hn)]; exact e)
   (fun b ps e=>⟨#[],by rw [ai (aq e hn),e]; simp⟩) (fun m hm=>?_) (fun b u e=>?_) I.bare
 · obtain ⟨ob,es,ep,ho,r⟩:=hm
   exact ⟨ob,es,ep,k _ ob (fun z=>(hch _ z).2.1 rfl) ho,r⟩
 · by_cases hb:b=a
   · subst hb; rw [aa] at e; cases e; exact new
   · rw [ai hb] at e
     refine (I.hok b u e).stay (fun c v hc q=>k c v ?_ q) (fun c q=>by rw [ai (aq q hn)]; exact q) fun c xs q=>by rw [ai (aq q hn)]; exact q
     rcases hc with z | z
     · subst z; exact nch c u e
     · exact nch c _ z
theorem Inv.many0 {t':Nat}(I:Inv X pins σ H s)(hch:∀b∈ch,cU X pins H b)(k:∀b ob,b ∉ ch->s.heap.get? b=some ob->h'.get? b=some ob) :
   Inv X pins σ H { s with heap:=h',toks:=t' }:=by
 have nch:∀b u,H b=some u->b ∉ ch:=fun b u e z=>by rw [(hch b z).1] at e; cases e
 refine I.step (g':=s.gens) (d':=s.drawn) (ch:=ch) (fun b hb=>⟨(hch b hb).2.2.2.1,(hch b hb).2.1,(hch b hb).2.2.2.2.1,(hch b hb).2.2.2.2.2⟩) (fun b ob _ _ hc e _=>k b ob hc e) (fun b ob _ _ hc e _=>⟨ob.slots,k b ob hc e⟩)
   (fun b ob _ e n=>n) (fun b ob hc e=>⟨ob,k b ob hc e⟩) (fun b xs e=>e) (fun b ob u e=>e)
   (fun b ps e=>⟨#[],by rw [e]; simp⟩) (fun m hm=>?_) (fun b u e=>?_) I.bare
 · obtain ⟨ob,es,ep,ho,r⟩:=hm
   exact ⟨ob,es,ep,k _ ob (fun z=>(hch _ z).2.1 rfl) ho,r⟩
 · refine (I.hok b u e).stay (fun c v hc q=>k c v ?_ q) (fun c q=>q) fun c xs q=>q
   rcases hc with z | z
   · subst z; exact nch c u e
   · exact nch c _ z
end

/-! ### zip of two lists,walked by a tuple of names -/
end L2
set_option Elab.async false
set_option linter.all false
set_option maxRecDepth 100000
namespace PySem
end PySem
set_option Elab.async false
set_option linter.all false
set_option maxRecDepth 100000
namespace L2
open PySem PySem.Spec PyProof.Rows
end L2
set_option Elab.async false
set_option linter.all false
set_option maxRecDepth 100000
namespace L2
open PySem PySem.Spec PyProof.Rows SeqAt

/-! ### equality,to any depth -/
inductive EB (K:FX) (H:Hp):Nat->V->V->Bool->Prop where
 | flat {n:Nat} {x y:V}:de x=true->de y=true->EB K H n x y (l7 x y)
 | same {n:Nat} {a:Addr}:EB K H n (.ref a) (.ref a) true
 | lst {n:Nat} {a b:Addr} {xs ys:List V} {e:Nat->Bool}:a≠b->aw K H a xs->aw K H b ys->xs.length=ys.length->(∀j x y,xs[j]? = some x->ys[j]? = some y->EB K H n x y (e j)) ->
     EB K H (n + 1) (.ref a) (.ref b) ((HN xs.length).all e)
 | len {n:Nat} {a b:Addr} {xs ys:List V}:a≠b->aw K H a xs->aw K H b ys->xs.length≠ys.length->EB K H n (.ref a) (.ref b) false
 | tup {n:Nat} {a b:Addr} {xs ys:List V} {e:Nat->Bool}:a≠b->bc K H a xs->bc K H b ys->(∀j x y,xs[j]? = some x->ys[j]? = some y->EB K H n x y (e j)) ->
     EB K H (n + 1) (.ref a) (.ref b) ((HN (min xs.length ys.length)).all e && xs.length == ys.length)
section
variable {X:Cx}{pins:List (Addr×Obj)}{σ:St}{H:Hp}{s:Shared}
theorem cu {K:FX}{n:Nat}{A:Around}{xs ys:List V}{us vs:List Value}{e:Nat->Bool}(rv:Vals xs us)(rw':Vals ys vs)
   (h:∀j x y,xs[j]? = some x->ys[j]? = some y->∀(A:Around) (u v:Value),RelV x u->RelV y v->A.units + n < cLine->EqAt A s u v (e j)) (hu:A.units + (n + 1) < cLine) :
   ∀j (h1:j < us.toArray.size) (h2:j < vs.toArray.size),EqAt A.in1 s us.toArray[j] vs.toArray[j] (e j):=fun j h1 h2=>by
 have l1:=rv.length
 have l2:=rw'.length
 have h1':j < us.length:=by simpa using h1
 have h2':j < vs.length:=by simpa using h2
 have hx:xs[j]? = some (xs[j]'(by omega)):=Gb _
 have hy:ys[j]? = some (ys[j]'(by omega)):=Gb _
 obtain ⟨u,hu1,ru⟩:=rv.get hx
 obtain ⟨v,hv1,rv1⟩:=rw'.get hy
 have eu:us[j]=u:=by have:=Gb h1'; rw [hu1] at this; exact (Gm this).symm
 have ev:vs[j]=v:=by have:=Gb h2'; rw [hv1] at this; exact (Gm this).symm
 have q:=h j _ _ hx hy A.in1 u v ru rv1 (by show A.units + 1 + n < cLine; omega)
 simpa [eu,ev] using q
theorem EB.at (I:Inv X pins σ H s){n:Nat}{x y:V}{b:Bool}(q:EB X.K H n x y b):∀(A:Around) (u v:Value),RelV x u->RelV y v->A.units + n < cLine->EqAt A s u v b:=by
 induction q with
 | flat h1 h2=>exact fun A u v ru rv _=>nh ru rv h1 h2
 | same=>intro A u v ru rv _; cases ru; cases rv; exact EqAt.same _
 | @lst n a b xs ys e hne ha hb hl _ ih=>
   intro A u v ru rv hu
   cases ru; cases rv
   obtain ⟨us,r1,p1,_⟩:=I.list ha
   obtain ⟨vs,r2,p2,_⟩:=I.list hb
   have l1:=r1.length
   have l2:=r2.length
   have q:=RcAt.lists (A:=A) p1.isList p2.isList (by simp; omega) (by omega) (cu (K:=X.K) r1 r2 ih hu)
   rw [show us.toArray.size=xs.length by simp [l1]] at q
   exact EqAt.of_refs hne q
 | @len n a b xs ys hne ha hb hl=>
   intro A u v ru rv hu
   cases ru; cases rv
   obtain ⟨us,r1,p1,_⟩:=I.list ha
   obtain ⟨vs,r2,p2,_⟩:=I.list hb
   have l1:=r1.length
   have l2:=r2.length
   exact EqAt.of_refs hne (RcAt.lists_lengths p1.isList p2.isList (by simp; omega) (by omega))
 | @tup n a b xs ys e hne ha hb _ ih=>
   intro A u v ru rv hu
   cases ru; cases rv
   obtain ⟨us,r1,p1,_⟩:=I.tuple ha
   obtain ⟨vs,r2,p2,_⟩:=I.tuple hb
   have l1:=r1.length
   have l2:=r2.length
   have q:=RcAt.tuples (A:=A) (show s.heap.IsTuple a us.toArray from p1) (show s.heap.IsTuple b vs.toArray from p2) (by omega) (cu (K:=X.K) r1 r2 ih hu)
   rw [show us.toArray.size=xs.length by simp [l1],show vs.toArray.size=ys.length by simp [l2]] at q
   exact EqAt.of_refs hne q
end
/-- == of two lists,or of two tuples (at the top no look at whether they are one) -/
def RB (K:FX)(H:Hp)(n:Nat)(x y:V)(b:Bool):Prop:=∃a c xs ys,x=.ref a/\y=.ref c /\
 ((∃e:Nat->Bool,aw K H a xs/\aw K H c ys/\xs.length=ys.length/\(∀j x y,xs[j]? = some x->ys[j]? = some y->EB K H n x y (e j))/\b=(HN xs.length).all e) \/
  (aw K H a xs/\aw K H c ys/\xs.length≠ys.length/\b=false) \/
  (∃e:Nat->Bool,bc K H a xs/\bc K H c ys/\(∀j x y,xs[j]? = some x->ys[j]? = some y->EB K H n x y (e j))/\b=((HN (min xs.length ys.length)).all e && xs.length == ys.length)))
section
variable {X:Cx}
theorem zZ {m:Nat}(hu:X.A.units + (m + 1) < cLine):eO X (compareOp .Eq) (fun x y H Q=>∃b,RB X.K H m x y b/\Q (.bl b) H):=by
 intro pins s σ H x y v u Q I rx ry h
 obtain ⟨b,⟨a,c,xs,ys,rfl,rfl,q⟩,k⟩:=h
 cases rx; cases ry
 rcases q with ⟨e,ha,hb,hl,he,rfl⟩ | ⟨ha,hb,hl,rfl⟩ | ⟨e,ha,hb,he,rfl⟩
 · obtain ⟨us,r1,p1,_⟩:=I.list ha
   obtain ⟨vs,r2,p2,_⟩:=I.list hb
   have l1:=r1.length
   have l2:=r2.length
   refine eq_listAt p1.isList p2.isList (by simp; omega) (by omega) (cu (K:=X.K) r1 r2 (fun j x y h1 h2=>(he j x y h1 h2).at I) hu) ?_
   rw [show us.toArray.size=xs.length by simp [l1]]
   exact ⟨.bl _,H,I,rfl,k⟩
 · obtain ⟨us,r1,p1,_⟩:=I.list ha
   obtain ⟨vs,r2,p2,_⟩:=I.list hb
   have l1:=r1.length
   have l2:=r2.length
   exact eq_list_lengthsAt p1.isList p2.isList (by simp; omega) (by omega) ⟨.bl _,H,I,rfl,k⟩
 · obtain ⟨us,r1,p1,_⟩:=I.tuple ha
   obtain ⟨vs,r2,p2,_⟩:=I.tuple hb
   have l1:=r1.length
   have l2:=r2.length
   refine eq_tupleAt (show s.heap.IsTuple a us.toArray from p1) (show s.heap.IsTuple c vs.toArray from p2) (by omega) (cu (K:=X.K) r1 r2 (fun j x y h1 h2=>(he j x y h1 h2).at I) hu) ?_
   rw [show us.toArray.size=xs.length by simp [l1],show vs.toArray.size=ys.length by simp [l2]]
   exact ⟨.bl _,H,I,rfl,k⟩
theorem Aa {m:Nat}(hu:X.A.units + (m + 1) < cLine):eO X (compareOp .NotEq) (fun x y H Q=>∃b,RB X.K H m x y b/\Q (.bl (!b)) H):=by
 intro pins s σ H x y v u Q I rx ry h
 obtain ⟨b,⟨a,c,xs,ys,rfl,rfl,q⟩,k⟩:=h
 cases rx; cases ry
 rcases q with ⟨e,ha,hb,hl,he,rfl⟩ | ⟨ha,hb,hl,rfl⟩ | ⟨e,ha,hb,he,rfl⟩
 · obtain ⟨us,r1,p1,_⟩:=I.list ha
   obtain ⟨vs,r2,p2,_⟩:=I.list hb
   have l1:=r1.length
   have l2:=r2.length
   refine RcNeAt.lists p1.isList p2.isList (by simp; omega) (by omega) (cu (K:=X.K) r1 r2 (fun j x y h1 h2=>(he j x y h1 h2).at I) hu) X.prog X.w X.xe _ ?_
   rw [show us.toArray.size=xs.length by simp [l1]]
   exact ⟨.bl _,H,I,rfl,k⟩
 · obtain ⟨us,r1,p1,_⟩:=I.list ha
   obtain ⟨vs,r2,p2,_⟩:=I.list hb
   have l1:=r1.length
   have l2:=r2.length
   exact RcNeAt.lists_lengths p1.isList p2.isList (by simp; omega) (by omega) X.prog X.w X.xe _ ⟨.bl _,H,I,rfl,k⟩
 · obtain ⟨us,r1,p1,_⟩:=I.tuple ha
   obtain ⟨vs,r2,p2,_⟩:=I.tuple hb
   have l1:=r1.length
   have l2:=r2.length
   refine RcNeAt.tuples (show s.heap.IsTuple a us.toArray from p1) (show s.heap.IsTuple c vs.toArray from p2) (by omega) (cu (K:=X.K) r1 r2 (fun j x y h1 h2=>(he j x y h1 h2).at I) hu) X.prog X.w X.xe _ ?_
   rw [show us.toArray.size=xs.length by simp [l1],show vs.toArray.size=ys.length by simp [l2]]
   exact ⟨.bl _,H,I,rfl,k⟩
end
/-- the true case -/
def ET (K:FX)(H:Hp)(n:Nat)(x y:V):Prop:=EB K H n x y true
theorem all_true {n:Nat}:(HN n).all (fun _=>true)=true:=by rw [List.all_eq_true]; intro _ _; rfl
theorem RB.lst {K:FX}{H:Hp}{n:Nat}{a b:Addr}{xs ys:List V}(ha:aw K H a xs)(hb:aw K H b ys)(hl:xs.length=ys.length)(h:∀(j:Nat) (x y:V),xs[j]? = some x->ys[j]? = some y->ET K H n x y):RB K H n (.ref a) (.ref b) true:=
 ⟨a,b,xs,ys,rfl,rfl,.inl ⟨fun _=>true,ha,hb,hl,h,all_true.symm⟩⟩
/-- xs == [] -/
theorem RB.nil {K:FX}{H:Hp}{n:Nat}{a b:Addr}{xs:List V}(ha:aw K H a xs)(hb:aw K H b []):RB K H n (.ref a) (.ref b) xs.isEmpty:=by
 cases xs with
 | nil=>exact RB.lst ha hb rfl (fun j x y h=>by simp at h)
 | cons x r=>exact ⟨a,b,_,[],rfl,rfl,.inr (.inl ⟨ha,hb,by simp,rfl⟩)⟩

section
variable {X:Cx}{pos:Pos}
/-! ### (a,b,..)=a list of that length -/
def BU (K:FX)(n:Nat)(t:TGs):TG:=fun v σ H Q=>∃a xs,v=.ref a/\aw K H a xs/\xs.length=n/\t xs σ H Q
theorem Ay {es:List Expr}{k:Nat}{t:TGs}{n:Nat}(hc:X.calm=true)(h:Bb X es t)
   (hn:(assignEach es X.env).length=n:=by rfl) (hst:(assignEach es X.env).findIdx? (·.1)=none:=by rfl):PG X (.Tuple es k pos) (BU X.K n t):=by
 intro pins s σ H v u Q I r hw
 obtain ⟨a,xs,e1,hq,hl,hw⟩:=hw
 subst e1
 cases r
 obtain ⟨its,rv,ht,hz⟩:=I.list hq
 have hlen:=rv.length
 rw [assign_Tuple]
 refine wpAny_bind (wpAny_standAt ?_)
 unfold unpack
 rw [show (assignEach es X.env).length=its.toArray.size by simp [hn,← hl,hlen],hst]
 refine wpAny_bind (wpAny_holding (PySem.W.kun_itemsOf (I.ok.hd hc) ht.isList fun h' hx=>?_))
 have I1:Inv X pins σ H { s with heap:=h' }:=I.kept (t':=s.toks) fun b o e=>hx b o (Gw (Ga e)) e
 exact h pins _ σ H xs _ Q I1 (by simpa using rv) hw
/-! ### greater numbers -/
def ya (i j:Int):Prop:=0 < j/\j < 2 ^ 1000
theorem uk:eO X (binaryOp .FloorDiv) (rI ya fun i j=>.int (i / j)):=Cg fun i j _ _ _ _ _ hc q=>by
 have h1:(0:Int) < j:=hc.1
 have h2:j < 2 ^ 1000:=hc.2
 have h3:j.natAbs < 2 ^ 1000:=by omega
 exact floordiv_int (by omega) (by rw [J5 i (by omega)]; exact q) (.inl (PyProof.noPylong_of_log2 (Gk ((Nat.log2_lt (by omega)).mpr h3) (by decide))))
/-! ### isinstance(x,T),T a built-in type -/
end
end L2
set_option Elab.async false
set_option linter.all false
set_option maxRecDepth 100000
namespace TW
open PySem L2

/-! ### sums and conditions,as data and in the heap -/
inductive K2 where
 | plus | less | same | under | both
def K2.str:K2->Str
 | .plus=>"plus" | .less=>"less" | .same=>"same" | .under=>"under" | .both=>"both"
inductive E where
 | num (n:Int) | box (tag x:Str) | yes | nt (a:E) | two (k:K2) (a b:E)
def Tp (H:Hp)(v:V)(xs:List V):Prop:=∃p,v=.ref p/\H p=some (.tup xs)
def eT (H:Hp):V->E->Prop
 | v,.num n=>Tp H v [.str "number",.int n]
 | v,.box t x=>Tp H v [.str t,.str x]
 | v,.yes=>Tp H v [.str "yes"]
 | v,.nt a=>∃x,Tp H v [.str "not",x]/\eT H x a
 | v,.two k a b=>∃x y,Tp H v [.str k.str,x,y]/\eT H x a/\eT H y b
/-- tuples stay -/
def TK (H H':Hp):Prop:=∀b xs,H b=some (.tup xs)->H' b=some (.tup xs)
theorem TK.trans {A B C:Hp}(a:TK A B)(b:TK B C):TK A C:=fun c o h=>b c o (a c o h)
theorem Tp.keep {H H':Hp}{v:V}{xs:List V}(k:TK H H')(h:Tp H v xs):Tp H' v xs:=let ⟨p,e,q⟩:=h; ⟨p,e,k p xs q⟩
theorem eT.keep {H H':Hp}(k:TK H H'):∀{e:E} {v:V},eT H v e->eT H' v e
 | .num _,_,h=>Tp.keep k h
 | .box _ _,_,h=>Tp.keep k h
 | .yes,_,h=>Tp.keep k h
 | .nt _,_,⟨x,h,a⟩=>⟨x,h.keep k,eT.keep k a⟩
 | .two _ _ _,_,⟨x,y,h,a,b⟩=>⟨x,y,h.keep k,eT.keep k a,eT.keep k b⟩
def E.dep:E->Nat
 | .num _=>0 | .box _ _=>0 | .yes=>0 | .nt a=>a.dep + 1 | .two _ a b=>max a.dep b.dep + 1
/-- a sum,a condition -/
def E.isS:E->Prop
 | .num _=>True
 | .box _ _=>True
 | .two .plus a b=>a.isS/\b.isS
 | .two .less a b=>a.isS/\b.isS
 | _=>False
def E.isC:E->Prop
 | .yes=>True
 | .nt a=>a.isC
 | .two .same a b=>a.isS/\b.isS
 | .two .under a b=>a.isS/\b.isS
 | .two .both a b=>a.isC/\b.isC
 | _=>False
/-- each box is one of these -/
def E.okIn (P:Str->Str->Prop):E->Prop
 | .num n=>n.natAbs < 2 ^ 100 | .box t x=>P t x | .yes=>True | .nt a=>a.okIn P | .two _ a b=>a.okIn P/\b.okIn P
/-! ### nodes -/
/-! ### the deck,and what stays -/
def Kp (d:Addr)(H H':Hp):Prop:=∀b o,H b=some o->b≠d->H' b=some o
theorem Kp.refl {d:Addr}(H:Hp):Kp d H H:=fun _ _ h _=>h
theorem Kp.trans {d:Addr}{A B C:Hp}(a:Kp d A B)(b:Kp d B C):Kp d A C:=fun c o h n=>b c o (a c o h n) n
theorem Kp.new {d:Addr}{H H':Hp}{p:Addr}{o:HO}(k:Kp d H H')(h:H' p=none):Kp d H (upd H' p o):=fun b u e n=>by
 rw [ai (aq (k b u e n) h)]; exact k b u e n
theorem Kp.self {d:Addr}{H H':Hp}{o:HO}(k:Kp d H H'):Kp d H (upd H' d o):=fun b u e n=>by rw [ai n]; exact k b u e n
theorem Kp.same {d:Addr}{H H1 H2:Hp}(k:Kp d H H1)(s:ak H1 H2):Kp d H H2:=fun b u e n=>s b u (k b u e n)
theorem af {H:Hp}{p:Addr}(h:H p=none)(o:HO):ak H (upd H p o):=fun b u q=>by rw [ai (aq q h)]; exact q
theorem ak.tk {H H':Hp}(s:ak H H'):TK H H':=fun b xs h=>s b _ h
theorem jn {H:Hp}{p:Addr}(h:H p=none)(o:HO):TK H (upd H p o):=ak.tk (af h o)
theorem small {n:Nat}(h:n<=1000):n<=sizeLine:=Hn (aW h)

/-! ### programs -/
def iy (H:Hp)(v:V)(b:Str×Int):Prop:=Tp H v [.str b.1,.int b.2]
/-- boxes as the law draws them -/
structure vB (bs:List (Str×Int)):Prop where
 nd:(bs.map (·.1)).Nodup
 sz:∀b∈bs,1<=b.2/\b.2<=16
 len:bs.length<=4
end TW
set_option Elab.async false
set_option linter.all false
set_option maxRecDepth 100000
set_option exponentiation.threshold 4000
namespace TW
open PySem L2
/-! ### defs of the text,with their promises -/
def Src (K:FX)(mg:Str->Option Value)(x:Str)(st:Stmt):Prop:=∃f fd,cf K x x st f fd/\mg x=some (.ref f)
def aY (P:Program)(w:World)(K:FX)(mg:Str->Option Value)(base:Heap)(x:Str)(ps:List Str)(k:Nat)(sp:Sp):Prop:=
 ∃f fd,aN P w K mg base CX0 k f fd ps sp/\HL K (.ref f)=true/\Binds K fd ps []/\mg x=some (.ref f)
theorem aY.mono {P:Program}{w:World}{K:FX}{mg:Str->Option Value}{base:Heap}{x:Str}{ps:List Str}{j k:Nat}{sp:Sp}(h:aY P w K mg base x ps j sp)(hk:j<=k):aY P w K mg base x ps k sp:=
 let ⟨f,fd,a,b,c,d⟩:=h; ⟨f,fd,a.mono hk,b,c,d⟩
/-! ### small facts -/
theorem eH {α:Type}(f:α->V)(xs:List α){r:Int}(h0:0<=r)(h1:r < (xs.length:Int)):∃x∈xs,jo (xs.map f) r=some (f x):=by
 have hr:r.toNat < xs.length:=by omega
 have e:r=((r.toNat:Nat):Int):=by omega
 have q:jo (xs.map f) ((r.toNat:Nat):Int)=some (f xs[r.toNat]):=eI (by rw [GI,Gb hr]; rfl)
 rw [← e] at q
 exact ⟨xs[r.toNat],IW hr,q⟩
theorem cy {A:Around}{k:Nat}(hr:bw k A)(m:Nat)(hm:m<=64):A.units + m < cLine:=by have:=hr.units; omega
end TW
set_option Elab.async false
set_option linter.all false
set_option maxRecDepth 100000
namespace L2
open PySem PySem.Spec PyProof.Rows
/-! ### arguments: that none is starred,once for each kind of expression -/
structure br (e:Expr):Prop where
 h:∀(es:List Expr) (env:Env),starEach (e :: es) env=(false,eval e env) :: starEach es env
theorem d9 {e:Expr}(h:∀x p,e≠.Starred x p):br e:=⟨fun es env=>by
 cases e <;> first | rfl | exact absurd rfl (h _ _)⟩
theorem mI {c k p}:br (.Constant c k p):=d9 fun _ _ z=>nomatch z
theorem lj {x p}:br (.Name x p):=d9 fun _ _ z=>nomatch z
theorem lh {f a k p}:br (.Call f a k p):=d9 fun _ _ z=>nomatch z
theorem tQ {a o b p}:br (.BinOp a o b p):=d9 fun _ _ z=>nomatch z
theorem oa {a b p}:br (.Subscript a b p):=d9 fun _ _ z=>nomatch z
theorem tV {a b p}:br (.Tuple a b p):=d9 fun _ _ z=>nomatch z
theorem tU {a p}:br (.List a p):=d9 fun _ _ z=>nomatch z
theorem tS {a b c p}:br (.Compare a b c p):=d9 fun _ _ z=>nomatch z
theorem yt {a b c p}:br (.ListComp a b c p):=d9 fun _ _ z=>nomatch z
theorem yu {a b p}:br (.UnaryOp a b p):=d9 fun _ _ z=>nomatch z
def ft (es:List Expr):Prop:=∀(pos:Pos) (env:Env),(backTo pos (starEach es env)).any (·.1)=false
theorem wK:ft []:=fun _ _=>rfl
theorem tW {e:Expr}{es:List Expr}(h:br e)(hs:ft es):ft (e :: es):=fun pos env=>by
 rw [h.h es env]
 exact hs pos env
structure pV (X:Cx)(es:List Expr)(t:TA):Prop where
 pa:PA X es t
 ns:∀e r,es=e :: r->br e/\ft r
 nss:ft es
section
variable {X:Cx}{e:Expr}{es:List Expr}{te:TE}{t:TA}{pos:Pos}
theorem an:pV X [] rG:=⟨Ai,(fun _ _ z=>nomatch z),wK⟩
theorem ac (ha:PE X e te)(hr:pV X es t)
   (hs:br e:=by first | exact mI | exact lj | exact lh | exact tQ | exact oa | exact tV | exact tU | exact tS | exact yt | exact ns_dc | exact yu | exact ns_bool | exact ns_attr):pV X (e :: es) (ve te t):=
 ⟨xi ha hr.pa (hs.h es X.env),fun e' r z=>by injection z with z1 z2; subst z1 z2; exact ⟨hs,hr.nss⟩,tW hs hr.nss⟩
theorem EC {x1}(h:pV X es t):PE X (.Tuple es x1 pos) (A5 t):=As h.pa
theorem Ez (h:pV X es t):PE X (.List es pos) (A3 t):=Ap h.pa
theorem A7 {x:Str}{p:Pos}{id:String}{r:List V->Hp->VK->Prop}(hc:bY X (.builtin id) r)(hg:Gl X x)(hm:X.mg x=none)(hv:bootBuiltins x=some (.builtin id))(ha:pV X (e :: es) t)(hn:x≠"__name__":=by decide)(hdb:(x == ("__debug__":Str))=false:=by decide) :
   PE X (.Call (.Name x p) (e :: es) [] pos) (Bn r t):=uq hc hg hm hv ha.pa hn hdb ((ha.ns e es rfl).1.h es X.env) ((ha.ns e es rfl).2 pos X.env)
theorem A8 {x:Str}{p:Pos}{T:String}{r:List V->Hp->VK->Prop}(hc:bY X (.type T) r)(hg:Gl X x)(hm:X.mg x=none)(hv:bootBuiltins x=some (.type T))(ha:pV X (e :: es) t)(hn:x≠"__name__":=by decide)(hdb:(x == ("__debug__":Str))=false:=by decide) :
   PE X (.Call (.Name x p) (e :: es) [] pos) (Bn r t):=rf hc hg hm hv ha.pa hn hdb ((ha.ns e es rfl).1.h es X.env) ((ha.ns e es rfl).2 pos X.env)
theorem EA {x:Str}{p:Pos}{ps:List Str}{k:Nat}{sp:Sp}(D:TW.aY X.prog X.w X.K X.mg X.base x ps k sp)(hr:bw k X.A)(hg:Gl X x)(ha:pV X (e :: es) t)(hdb:(x == ("__debug__":Str))=false:=by decide) :
   PE X (.Call (.Name x p) (e :: es) [] pos) (pO sp [] E0 t):=
 let ⟨_,_,G,kp,b,m⟩:=D
 pB G hr hg m kp b .nil pz ha.pa hdb ((ha.ns e es rfl).1.h es X.env) ((ha.ns e es rfl).2 pos X.env)
theorem x6 {tg a:Expr}{ta:TA}{p:Pos}(hg:Gl X "range")(hm:X.mg "range"=none)(ha:pV X [a] ta):PI X tg (.Call (.Name "range" p) [a] [] pos) (sV ta):=
 rh hg hm ha.pa ((ha.ns a [] rfl).1.h [] X.env)
/-- o.m(e),a builtin's method -/
theorem Ey {o:Expr}{name:Str}{apos:Pos}{T id:String}{r:V->List V->Hp->VK->Prop}{to:TE}(pa:PlainAttrs T)(slot:Slot T name id)(hty:typeOf (.builtin id)=pure (.type "method_descriptor"))(hm:yb X id r)(ho:PE X o to)(ha:pV X [e] t)
   (hbase:attributeBase o name X.env (eval o X.env)=eval o X.env:=by rfl) (hline:(apos.endLine == pos.line)=true:=by rfl):PE X (.Call (.Attribute o name apos) [e] [] pos) (AZ X.K T r to t):=
 Cs pa slot hty hm ho ha.pa hbase (by rw [(ha.ns e [] rfl).1.h [] X.env]; rfl) hline ((ha.ns e [] rfl).1.h [] X.env) ((ha.ns e [] rfl).2 pos X.env)
end
end L2
set_option Elab.async false
set_option linter.all false
set_option maxRecDepth 100000
/-! THE SEALED JUDGEMENTS: as the layer's,but nothing looks into them while a term of rules is read (an elaborator that opens PE runs the model). -/
namespace L3
open PySem PySem.Spec PyProof.Rows L2
structure SE (X:Cx)(e:Expr)(t:TE):Prop where
 h:PE X e t
structure ST (X:Cx)(e:Expr)(t:TT):Prop where
 h:PT X e t
structure SW (X:Cx)(e:Expr)(t:TT):Prop where
 h:PW X e t
structure SA (X:Cx)(es:List Expr)(t:TA):Prop where
 h:pV X es t
structure SS (X:Cx)(s:Stmt)(t:TS):Prop where
 h:PS X s t
structure SL (X:Cx)(ss:List Stmt)(t:TS):Prop where
 h:jI X ss t
structure SG (X:Cx)(e:Expr)(t:TG):Prop where
 h:PG X e t
structure Bx (X:Cx)(es:List Expr)(t:TGs):Prop where
 h:Bb X es t
structure SI (X:Cx)(tg iter:Expr)(t:TI):Prop where
 h:PI X tg iter t
structure By (X:Cx)(cs:List Expr)(t:TT):Prop where
 h:gV X cs t
structure SO (X:Cx)(f:Value->Value->Sem Value)(r:R2):Prop where
 h:eO X f r
structure SX (X:Cx)(r:R2):Prop where
 h:Bs X r
structure SC (X:Cx)(f:Value)(r:List V->Hp->VK->Prop):Prop where
 h:bY X f r
structure SM (X:Cx)(id:String)(r:V->List V->Hp->VK->Prop):Prop where
 h:yb X id r
section
variable {X:Cx}{a b c e o:Expr}{es:List Expr}{ta tb tc te:TE}{t:TA}{tA uB:TT}{pos:Pos}{r:R2}
/-! names,constants -/
theorem v (i:Nat){x:Str}(hN:X.N[i]? = some x:=by rfl)(hv:Di X.env.scope x:=by first | exact Or.inl rfl | exact Or.inr (Or.inl rfl) | exact Or.inr (Or.inr rfl))(hd:(x == ("__debug__":Str))=false:=by decide)
   (hcd:(x == ("__classdict__":Str))=false:=by decide):SE X (.Name x pos) (C8 i):=⟨Au hN hv hd hcd⟩
theorem int {i j}:SE X (.Constant (.int i) j pos) (tC (.int i)):=⟨Al⟩
theorem bl {k j}:SE X (.Constant (.bool k) j pos) (tC (.bl k)):=⟨Cr⟩
theorem bq {j}:SE X (.Constant .none j pos) (tC .bq):=⟨Aq⟩
theorem str {x j}:SE X (.Constant (.str x) j pos) (tC (.str x)):=⟨uy⟩
theorem glob {x:Str}{w:V}{u:Value}(hg:Gl X x)(hm:X.mg x=some u)(r:RelV w u)(hd:(x == ("__debug__":Str))=false:=by decide):SE X (.Name x pos) (tC w):=⟨xq hg hm r hd⟩
theorem DT {x:Str}{w:V}{u:Value}(hg:Gl X x)(hm:X.mg x=none)(hv:bootBuiltins x=some u)(r:RelV w u)(hn:x≠"__name__":=by decide)(hd:(x == ("__debug__":Str))=false:=by decide):SE X (.Name x pos) (tC w):=⟨xj hg hm hv r hn hd⟩
/-! operations -/
theorem op {k:Operator}(ho:SO X (binaryOp k) r)(ha:SE X a ta)(hb:SE X b tb):SE X (.BinOp a k b pos) (yJ r ta tb):=⟨Cw ho.h ha.h hb.h⟩
theorem cmp {k:CmpOp}(ho:SO X (compareOp k) r)(ha:SE X a ta)(hb:SE X b tb)(hm:behindInMarks k b=false:=by exact n9 _):ST X (.Compare a [k] [b] pos) (yK (yJ r ta tb)):=⟨xF ho.h ha.h hb.h hm⟩
theorem y7 {k:CmpOp}(ho:SO X (compareOp k) r)(ha:SE X a ta)(hb:SE X b tb)(hm:behindInMarks k b=false:=by exact n9 _):SE X (.Compare a [k] [b] pos) (yJ r ta tb):=⟨xk ho.h ha.h hb.h hm⟩
theorem aL:SO X (binaryOp .Add) (rQ fun i j=>.int (i + j)):=⟨zX⟩
theorem fP:SO X (binaryOp .Sub) (rQ fun i j=>.int (i - j)):=⟨Af⟩
theorem bZ:SO X (binaryOp .Mult) (rI vC fun i j=>.int (i * j)):=⟨z9⟩
theorem aA:SO X (binaryOp .Mod) (rI (fun _ j=>0 < j) fun i j=>.int (i % j)):=⟨z7⟩
theorem bj:SO X (binaryOp .FloorDiv) (rI ya fun i j=>.int (i / j)):=⟨uk⟩
theorem jb:SO X (binaryOp .Pow) (rI Bo fun i j=>.int (i ^ j.toNat)):=⟨Ad⟩
theorem aS:SO X (binaryOp .Add) CG:=⟨zY⟩
theorem bu:SO X (compareOp .Eq) E6:=⟨Cj⟩
theorem qR:SO X (compareOp .NotEq) E7:=⟨Co⟩
theorem lp:SO X (compareOp .Lt) (rQ fun i j=>.bl (decide (i < j))):=⟨Cn⟩
theorem mK:SO X (compareOp .Gt) (rQ fun i j=>.bl (decide (j < i))):=⟨Cm⟩
theorem Em:SO X (compareOp .GtE) (rQ fun i j=>.bl (decide (j<=i))):=⟨Ck⟩
theorem tZ {KK:FX}{m:Nat}(hu:X.A.units + (m + 1) < cLine)(hK:X.K=KK:=by first | exact cxC_K | rfl):SO X (compareOp .Eq) (fun x y H Q=>∃b,RB KK H m x y b/\Q (.bl b) H):=by
 subst hK
 exact ⟨zZ hu⟩
theorem ja {KK:FX}{m:Nat}(hu:X.A.units + (m + 1) < cLine)(hK:X.K=KK:=by first | exact cxC_K | rfl):SO X (compareOp .NotEq) (fun x y H Q=>∃b,RB KK H m x y b/\Q (.bl (!b)) H):=by
 subst hK
 exact ⟨Aa hu⟩
theorem zL {KK:FX}(hK:X.K=KK:=by first | exact cxC_K | rfl):SO X (compareOp .In) (Dn KK false):=by
 subst hK
 exact ⟨q9⟩
theorem pw {KK:FX}(hK:X.K=KK:=by first | exact cxC_K | rfl):SO X (compareOp .NotIn) (Dn KK true):=by
 subst hK
 exact ⟨lr⟩
theorem B8:SO X (compareOp .Is) (fun x y H Q=>y=.bq/\Q (.bl (decide (x=.bq))) H):=⟨z5⟩
/-! and,or,not -/
theorem Bk {rest:List Expr}(ha:ST X a tA)(hb:SW X (.BoolOp .Or (b :: rest) pos) uB):SW X (.BoolOp .Or (a :: b :: rest) pos) (Fe tA uB):=⟨CD ha.h hb.h⟩
theorem Cp (ha:ST X a tA):SW X (.BoolOp .Or [a] pos) tA:=⟨AK ha.h⟩
theorem eQ {rest:List Expr}(ha:ST X a tA)(hb:SW X (.BoolOp .And (b :: rest) pos) uB):SW X (.BoolOp .And (a :: b :: rest) pos) (C1 tA uB):=⟨AJ ha.h hb.h⟩
theorem eP (ha:ST X a tA):SW X (.BoolOp .And [a] pos) tA:=⟨xH ha.h⟩
theorem tw (h:SW X e tA):ST X e tA:=⟨h.h.pt⟩
theorem nt (ha:ST X a tA):ST X (.UnaryOp .Not a pos) (C6 tA):=⟨AH ha.h⟩
theorem x5 (h:SE X e te)(he:∀whole,isTrue e X.env whole=(do let v ← whole; standAt e.pos; holding [v] (truthy v)):=by intro _; rfl):ST X e (tB te):=⟨AI h.h he⟩
/-! items,slices,displays -/
theorem ix (hr:SX X r)(ha:SE X a ta)(hb:SE X b tb)(hs:oI b:=by exact fun _ _=>rfl):SE X (.Subscript a b pos) (yJ r ta tb):=⟨Ct hr.h ha.h hb.h hs⟩
theorem cC {KK:FX}(hK:X.K=KK:=by first | exact cxC_K | rfl):SX X (CJ KK):=by
 subst hK
 exact ⟨wz⟩
theorem jD {KK:FX}(hK:X.K=KK:=by first | exact cxC_K | rfl):SX X (CL KK):=by
 subst hK
 exact ⟨zx⟩
theorem DZ (hu:X.A.units + 1 < cLine)(ho:SE X a ta)(hi:SE X b tb)(hs:rR b:=by exact fun _ _=>rfl):SE X (.Subscript a b pos) (yD ta tb):=⟨xn hu ho.h hi.h hs⟩
theorem rE {KK:FX}{p2:Pos}(ha:SE X a ta)(hb:SE X b tb)(hK:X.K=KK:=by first | exact cxC_K | rfl):SE X (.Subscript a (.Slice none (some b) none p2) pos) (A4 (xJ KK) ta fY (fZ tb)):=by
 subst hK
 exact ⟨dj lF ha.h iq (cP hb.h)⟩
theorem n:SA X [] rG:=⟨an⟩
theorem k (ha:SE X e te)(hr:SA X es t)(hs:br e:=by first | exact mI | exact lj | exact lh | exact tQ | exact oa | exact tV | exact tU | exact tS | exact yt | exact ns_dc | exact yu | exact ns_bool | exact ns_attr) :
   SA X (e :: es) (ve te t):=⟨ac ha.h hr.h hs⟩
theorem tup {x1}(h:SA X es t):SE X (.Tuple es x1 pos) (A5 t):=⟨EC h.h⟩
theorem lst (h:SA X es t):SE X (.List es pos) (A3 t):=⟨Ez h.h⟩
/-! calls -/
theorem aI {x:Str}{p:Pos}{id:String}{rr:List V->Hp->VK->Prop}(hc:SC X (.builtin id) rr)(hg:Gl X x)(hm:X.mg x=none)(hv:bootBuiltins x=some (.builtin id))(ha:SA X (e :: es) t)(hn:x≠"__name__":=by decide)(hdb:(x == ("__debug__":Str))=false:=by decide) :
   SE X (.Call (.Name x p) (e :: es) [] pos) (Bn rr t):=⟨A7 hc.h hg hm hv ha.h hn hdb⟩
theorem dY {x:Str}{p:Pos}{T:String}{rr:List V->Hp->VK->Prop}(hc:SC X (.type T) rr)(hg:Gl X x)(hm:X.mg x=none)(hv:bootBuiltins x=some (.type T))(ha:SA X (e :: es) t)(hn:x≠"__name__":=by decide)(hdb:(x == ("__debug__":Str))=false:=by decide) :
   SE X (.Call (.Name x p) (e :: es) [] pos) (Bn rr t):=⟨A8 hc.h hg hm hv ha.h hn hdb⟩
theorem own {x:Str}{p:Pos}{ps:List Str}{kk:Nat}{sp:Sp}(D:TW.aY X.prog X.w X.K X.mg X.base x ps kk sp)(hr:bw kk X.A)(hg:Gl X x)(ha:SA X (e :: es) t)(hdb:(x == ("__debug__":Str))=false:=by decide) :
   SE X (.Call (.Name x p) (e :: es) [] pos) (pO sp [] E0 t):=⟨EA D hr hg ha.h hdb⟩
theorem Dj {KK:FX}{name:Str}{apos:Pos}{T id:String}{rr:V->List V->Hp->VK->Prop}(pa:PlainAttrs T)(slot:Slot T name id)(hty:typeOf (.builtin id)=pure (.type "method_descriptor"))(hm:SM X id rr)(ho:SE X o ta)(ha:SA X [e] t)
   (hbase:attributeBase o name X.env (eval o X.env)=eval o X.env:=by rfl) (hline:(apos.endLine == pos.line)=true:=by rfl) (hK:X.K=KK:=by first | exact cxC_K | rfl):SE X (.Call (.Attribute o name apos) [e] [] pos) (AZ KK T rr ta t):=by
 subst hK
 exact ⟨Ey pa slot hty hm.h ho.h ha.h hbase hline⟩
theorem append {KK:FX}{apos:Pos}(ho:SE X o ta)(ha:SA X [e] t)(hbase:attributeBase o "append" X.env (eval o X.env)=eval o X.env:=by rfl)(hline:(apos.endLine == pos.line)=true:=by rfl)(hK:X.K=KK:=by first | exact cxC_K | rfl):SE X (.Call (.Attribute o "append" apos) [e] [] pos) (AZ KK "list" pG ta t):=by
 subst hK
 exact Dj IH PySem.F.slot_list_append PySem.F.type_list_append ⟨j9⟩ ho ha hbase hline
theorem CA {KK:FX}{apos:Pos}(ho:SE X o ta)(ha:SA X [e] t)(hbase:attributeBase o "pop" X.env (eval o X.env)=eval o X.env:=by rfl)(hline:(apos.endLine == pos.line)=true:=by rfl)(hK:X.K=KK:=by first | exact cxC_K | rfl):SE X (.Call (.Attribute o "pop" apos) [e] [] pos) (AZ KK "list" uI ta t):=by
 subst hK
 exact Dj IH Kd Kc ⟨tK⟩ ho ha hbase hline
theorem bb {KK:FX}(hK:X.K=KK:=by first | exact cxC_K | rfl):SC X (.builtin "len") (fun xs H Q=>∃p ys,xs=[.ref p]/\(aw KK H p ys\/bc KK H p ys)/\Q (.int ys.length) H):=by
 subst hK
 exact ⟨kH⟩
theorem y6 {KK:FX}(hK:X.K=KK:=by first | exact cxC_K | rfl):SC X (.type "list") (fun xs H Q=>∃p ys,xs=[.ref p]/\(aw KK H p ys\/bc KK H p ys)/\∀l,H l=none->Q (.ref l) (upd H l (.lst ys))):=by
 subst hK
 exact ⟨kJ⟩
theorem BP:SC X (.type "int") (fun xs H Q=>(∃i,xs=[.int i]/\Q (.int i) H)\/∃k,xs=[.bl k]/\Q (.int (if k then 1 else 0)) H):=⟨pY⟩
/-! targets -/
theorem gn (i:Nat){x:Str}(hN:X.N.Nodup)(hi:X.N[i]? = some x:=by rfl)(hx:Loc X.env.scope x:=by first | exact Or.inl rfl | exact Or.inr rfl)(hf:X.fn x=true\/X.env.scope.names.lookup x=some .local:=by first | exact .inl rfl | exact .inr rfl):SG X (.Name x pos) (fJ i):=⟨xt hN hi hx hf⟩
theorem ym:Bx X [] BV:=⟨xu⟩
theorem lM {t:TG}{u:TGs}(h1:SG X e t)(h2:Bx X es u)(hs:(assignEach (e :: es) X.env).map (·.2)=assign e X.env :: (assignEach es X.env).map (·.2):=by rfl):Bx X (e :: es) (yh t u):=⟨uz h1.h h2.h hs⟩
theorem vX {KK:FX}{kk:Nat}{t:TGs}(m:Nat)(h:Bx X es t)(hc:X.calm=true:=by rfl)(hn:(assignEach es X.env).length=m:=by rfl)(hst:(assignEach es X.env).findIdx? (·.1)=none:=by rfl)(hK:X.K=KK:=by first | exact cxC_K | rfl):SG X (.Tuple es kk pos) (BW KK m t):=by
 subst hK
 exact ⟨Az hc h.h hn hst⟩
theorem vW {KK:FX}{kk:Nat}{t:TGs}(m:Nat)(h:Bx X es t)(hc:X.calm=true:=by rfl)(hn:(assignEach es X.env).length=m:=by rfl)(hst:(assignEach es X.env).findIdx? (·.1)=none:=by rfl)(hK:X.K=KK:=by first | exact cxC_K | rfl):SG X (.Tuple es kk pos) (BU KK m t):=by
 subst hK
 exact ⟨Ay hc h.h hn hst⟩
theorem D9 {cc:Const}{j:Nat}{p:Pos}(ho:SE X a ta)(hi:SE X (.Constant cc j p) tb):SG X (.Subscript a (.Constant cc j p) pos) (sE ta tb mQ):=⟨lz ho.h hi.h set_list (fun _=>rfl)⟩
/-! what is walked -/
theorem iL {KK:FX}{tg:Expr}(h:SE X a ta)(hK:X.K=KK:=by first | exact cxC_K | rfl):SI X tg a (yn KK ta):=by
 subst hK
 exact ⟨xw h.h⟩
theorem iR {tg:Expr}{p:Pos}(hg:Gl X "range")(hm:X.mg "range"=none)(ha:SA X [a] t):SI X tg (.Call (.Name "range" p) [a] [] pos) (sV t):=⟨x6 hg hm ha.h⟩
theorem sW:By X [] A1:=⟨En⟩
theorem if1 (h:ST X a tA):By X [a] tA:=⟨Eo h.h⟩
/-! comprehensions -/
theorem lc {tg iter elt:Expr}{ifs:List Expr}{sc:Scope}{wi:TI}{g:TG}{tifs:TT}(src:List (Option Nat))(N':List Str)(S:aC sc X.env.scope)(hcap:bB sc src N' X.N=true)(hi:SI X tg iter wi)
   (hb:∀s H C fp xe,SG (b6 X N' sc s H C fp xe) tg g/\By (b6 X N' sc s H C fp xe) ifs tifs/\SE (b6 X N' sc s H C fp xe) elt te) (hc:X.calm=true:=by rfl)
   (hs:∀x,foldedSetIterable iter X.env x=pure x:=by intro _; rfl):SE X (.ListComp elt [⟨tg,iter,ifs,0⟩] sc pos) (cv src (.lst []) wi g tifs (dQ te)):=
 ⟨Cv src N' hc S hcap hi.h (fun s H C fp xe=>⟨(hb s H C fp xe).1.h,(hb s H C fp xe).2.1.h,(hb s H C fp xe).2.2.h⟩) hs⟩
theorem Ds {tg iter elt:Expr}{ifs:List Expr}{sc:Scope}{wi:TI}{g:TG}{tifs:TT}{i:Nat}{x:Str}{pos' pos2:Pos}(src:List (Option Nat))(N':List Str)(S:aC sc X.env.scope)(hcap:bB sc src N' X.N=true)(hi:SI X tg iter wi)
   (hb:∀s H C fp xe,SG (b6 X N' sc s H C fp xe) tg g/\By (b6 X N' sc s H C fp xe) ifs tifs/\SE (b6 X N' sc s H C fp xe) elt te) (hN:X.N.Nodup) (hix:X.N[i]? = some x:=by rfl) (hx:Loc X.env.scope x:=by exact Or.inl rfl)
   (hsw:swapsWith (.ListComp elt [⟨tg,iter,ifs,0⟩] sc pos) (some (.Name x pos')) pos2.line X.env=pure true:=by rfl) (hc:X.calm=true:=by rfl)
   (hs:∀x,foldedSetIterable iter X.env x=pure x:=by intro _; rfl) (hf:X.fn x=true\/X.env.scope.names.lookup x=some .local:=by first | exact .inl rfl | exact .inr rfl) :
   SS X (.Assign [.Name x pos'] (.ListComp elt [⟨tg,iter,ifs,0⟩] sc pos) pos2) (oB (cv src (.lst []) wi g tifs (dQ te)) (fJ i)):=
 ⟨CC src N' hc S hcap hi.h (fun s H C fp xe=>⟨(hb s H C fp xe).1.h,(hb s H C fp xe).2.1.h,(hb s H C fp xe).2.2.h⟩) hN hix hx hsw hs hf⟩
/-! statements -/
variable {st:Stmt}{rest:List Stmt}{u1 u2:TS}
theorem nil:SL X [] yH:=⟨xD⟩
theorem cons (h1:SS X st u1)(h2:SL X rest u2):SL X (st :: rest) (gK u1 u2):=⟨uH h1.h h2.h⟩
theorem one (h1:SS X st u1):SL X [st] u1:=⟨xE h1.h⟩
theorem never:SL X rest vg:=⟨rp⟩
theorem ret (he:SE X e te):SS X (.Return (some e) pos) (C7 te):=⟨AF he.h⟩
theorem ex (he:SE X e te)(hs:swapsWith e none pos.line X.env=pure false:=by rfl):SS X (.Expr e pos) (yF te):=⟨xB he.h hs⟩
theorem ifs {tc:TT}{x y:List Stmt}(hc:ST X c tc)(ha:SL X x u1)(hb:SL X y u2):SS X (.If c x y pos) (A2 tc u1 u2):=⟨CB hc.h ha.h hb.h⟩
theorem set (i:Nat){x:Str}{pos':Pos}(hN:X.N.Nodup)(he:SE X e te)(hi:X.N[i]? = some x:=by rfl)(hx:Loc X.env.scope x:=by first | exact Or.inl rfl | exact Or.inr rfl)(hs:swapsWith e (some (.Name x pos')) pos.line X.env=pure false:=by rfl)(hf:X.fn x=true\/X.env.scope.names.lookup x=some .local:=by first | exact .inl rfl | exact .inr rfl) :
   SS X (.Assign [.Name x pos'] e pos) (oB te (fJ i)):=⟨AG hN hi hx he.h hs hf⟩
theorem asg {tg:Expr}{g:TG}(he:SE X e te)(hg:SG X tg g)(hs:swapsWithSole [tg] e pos.line X.env=pure false:=by rfl)(hw:swappedStores [tg] e X.env=pure none:=by rfl)
   (h1:(assignEach [tg] X.env).map (·.2)=[assign tg X.env]:=by rfl):SS X (.Assign [tg] e pos) (oB te g):=⟨AB he.h hg.h hs hw h1⟩
theorem sj {tg iter:Expr}{body:List Stmt}{wi:TI}{g:TG}(hi:SI X tg iter wi)(hg:SG X tg g)(hb:SL X body u1)(hp:PassesOwn (model X.prog X.w) X.A X.env X.xe:=by exact Ks)(hc:X.calm=true:=by rfl)
   (hs:∀x,foldedSetIterable iter X.env x=pure x:=by intro _; rfl):SS X (.For tg iter body [] pos) (C3 wi g u1):=⟨AE hp hc hi.h hg.h hb.h hs⟩
theorem run {ss:List Stmt}{u:TS}(h:SL X ss u):jI X ss u:=h.h
end
end L3
set_option Elab.async false
set_option linter.all false
set_option maxRecDepth 100000
namespace L3
open PySem PySem.Spec PyProof.Rows L2
section
variable {X:Cx}{a b c e o:Expr}{es:List Expr}{ta tb tc te:TE}{t:TA}{tA uB:TT}{pos:Pos}{r:R2}
theorem neg (ha:SE X a ta):SE X (.UnaryOp .USub a pos) (Ff (rU fun i=>.int (-i)) ta):=⟨Cy A6 ha.h⟩
theorem FJ (ha:SE X a ta):SE X (.UnaryOp .Not a pos) (yI ta):=⟨Ar ha.h⟩
theorem ES (hc:ST X c tA)(ha:SE X a ta)(hb:SE X b tb):SE X (.IfExp c a b pos) (Fb tA ta tb):=⟨uw hc.h ha.h hb.h⟩
theorem ub:SO X (compareOp .IsNot) (fun x y H Q=>y=.bq/\Q (.bl (!decide (x=.bq))) H):=⟨xh⟩
theorem oV {x:Str}{p:Pos}(ho:SE X a ta)(hi:SE X (.Name x p) tb):SG X (.Subscript a (.Name x p) pos) (sE ta tb mQ):=⟨lz ho.h hi.h set_list (fun _=>rfl)⟩
end
end L3
set_option Elab.async false
set_option linter.all false
set_option maxRecDepth 100000
namespace L2
open PySem PySem.Spec PyProof.Rows
/-! ### len(set(xs)),xs a list of unlike texts -/
end L2
set_option Elab.async false
set_option linter.all false
set_option maxRecDepth 100000
namespace L2
open PySem PySem.Spec PyProof.Rows
end L2
namespace L3
open PySem PySem.Spec PyProof.Rows L2
end L3
set_option Elab.async false
set_option linter.all false
set_option maxRecDepth 100000
namespace PySem
open Sem (wp)
/-! ### a zip whose tuple is handed out -/
end PySem
set_option Elab.async false
set_option linter.all false
set_option maxRecDepth 100000
namespace PySem
end PySem
set_option Elab.async false
set_option linter.all false
set_option maxRecDepth 100000
namespace L2
open PySem PySem.Spec PyProof.Rows
/-! ### dict(zip(a,b)),two lists of one length,the first of keys -/
end L2
set_option Elab.async false
set_option linter.all false
set_option maxRecDepth 100000
namespace L2
open PySem PySem.Spec PyProof.Rows
end L2
namespace L3
open PySem PySem.Spec PyProof.Rows L2
end L3
set_option Elab.async false
set_option linter.all false
set_option maxRecDepth 100000
namespace L2
open PySem PySem.Spec PyProof.Rows
end L2
namespace L3
open PySem PySem.Spec PyProof.Rows L2
section
variable {X:Cx}{a b c e o:Expr}{es:List Expr}{ta tb tc te:TE}{t:TA}{pos:Pos}
theorem yd {f:Expr}{tf:TE}{apos:Pos}(hu:X.A.units + 1 < cLine)(ho:SE X o ta)(he:SE X e te)(hf:SE X f tf)(m:M2 X o "get" apos e f pos:=by exact ⟨rfl,rfl,rfl,rfl⟩):SE X (.Call (.Attribute o "get" apos) [e,f] [] pos) (vf ta te tf):=⟨uv hu ho.h he.h hf.h m⟩
theorem eG {cnd:Expr}{body:List Stmt}{tcn:TT}{u1:TS}(hcn:ST X cnd tcn)(hb:SL X body u1)(hp:PassesOwn (model X.prog X.w) X.A X.env X.xe:=by exact Ks):SS X (.While cnd body [] pos) (vj tcn u1):=⟨uG hp hcn.h hb.h⟩
end
end L3
set_option Elab.async false
set_option linter.all false
set_option maxRecDepth 100000
/-! ### keys that are tuples with tuples within -/
namespace L2
open PySem PySem.Spec PyProof.Rows
end L2
set_option Elab.async false
set_option linter.all false
set_option maxRecDepth 100000
/-! ### a dict whose keys are tuples with tuples within -/
namespace L2
open PySem PySem.Spec PyProof.Rows
end L2
namespace L3
open PySem PySem.Spec PyProof.Rows L2
section
variable {X:Cx}{a b c e o:Expr}{es:List Expr}{ta tb tc te:TE}{t:TA}{pos pos':Pos}{P:Program}{w:World}
theorem vK {KK:FX}(hK:X.K=KK:=by first | exact cxC_K | rfl):SC X (.type "tuple") (fun xs H Q=>∃p ys,xs=[.ref p]/\aw KK H p ys/\∀l,H l=none->Q (.ref l) (upd H l (.tup ys))):=by
 subst hK
 refine ⟨fun pins s σ H xs us Q I r h=>?_⟩
 obtain ⟨p,ys,e,hq,q⟩:=h
 exact js pins s σ H xs us Q I r ⟨p,ys,e,.inl ⟨hq,q⟩⟩
end
end L3
set_option Elab.async false
set_option linter.all false
set_option maxRecDepth 100000
namespace L2
open PySem PySem.Spec PyProof.Rows
end L2
namespace L3
open PySem PySem.Spec PyProof.Rows L2
section
variable {X:Cx}{a b c e o:Expr}{es:List Expr}{ta tb tc te:TE}{t:TA}{pos:Pos}
theorem rD {KK:FX}{p2:Pos}(ha:SE X a ta)(hb:SE X b tb)(hK:X.K=KK:=by first | exact cxC_K | rfl):SE X (.Subscript a (.Slice (some b) none none p2) pos) (A4 (xJ KK) ta (fZ tb) fY):=by
 subst hK
 exact ⟨dj lF ha.h (cP hb.h) iq⟩
end
end L3
set_option Elab.async false
set_option linter.all false
/-! ### runs of a step function -/
namespace TW
end TW
set_option Elab.async false
set_option linter.all false
set_option maxRecDepth 100000
namespace L2
open PySem PySem.Spec PyProof.Rows
end L2
namespace L3
open PySem PySem.Spec PyProof.Rows L2
end L3
set_option Elab.async false
set_option linter.all false
set_option maxRecDepth 100000
namespace L2
open PySem PySem.Spec PyProof.Rows SeqAt
end L2
namespace L3
open PySem PySem.Spec PyProof.Rows L2
end L3
set_option Elab.async false
set_option linter.all false
set_option maxRecDepth 100000
/-! ### exceptions: how one lies behind a call -/
namespace L2
open PySem PySem.Spec PyProof.Rows
theorem aZ.ex {P:Program}{w:World}{H:Hp}{h:Heap}{a:Addr}{o:HO}(x:aZ P w H h a o):∃ob,h.get? a=some ob:=by
 cases o with
 | lst xs=>obtain ⟨_,_,_,_,e⟩:=x; exact ⟨_,e⟩
 | tup xs=>obtain ⟨_,_,_,ob,e,_⟩:=x; exact ⟨ob,e⟩
 | dK kvs=>obtain ⟨_,_,_,_,o,_,_,e,_⟩:=x; exact ⟨o,e⟩
 | dT kvs=>obtain ⟨_,_,_,_,o,_,_,e,_⟩:=x; exact ⟨o,e⟩
 | set S n=>obtain ⟨o,_,_,_,e,_⟩:=x; exact ⟨o,e⟩
 | ins C dx fs=>obtain ⟨_,_,_,e,_⟩:=x; exact ⟨_,e⟩
 | own y=>obtain ⟨ob,e⟩:=x; exact ⟨ob,e⟩
 | xd fs=>obtain ⟨_,⟨ob,_,_,e,_⟩,_⟩:=x; exact ⟨ob,e⟩
 | rng lo hi=>obtain ⟨_,_,_,e⟩:=x; exact ⟨_,e⟩
 | frz ob u=>obtain ⟨e,_⟩:=x; exact ⟨ob,e⟩
 | tbl ps=>exact ⟨_,(show h.get? a=some _ from x)⟩
 | met f y=>exact ⟨_,(show h.get? a=some _ from x)⟩
 | ext φ=>obtain ⟨_,⟨ob,e⟩,_⟩:=x; exact ⟨ob,e⟩
/-- an exception in flight: its class,what of the heap stands fast (all but the frames that run),the abstract heap behind it -/
def cE (P:Program)(w:World)(base:Heap):CXT:=fun outer H s E e s'=>∃(ea:Addr) (cls a0:Value) (B:Heap) (H':Hp),e=.ref ea/\s'.os=s.os/\AllBare s'.gens/\Un (cm outer) [] H H' s.heap s'.heap/\eN P w H' s'.heap /\
 base.StaysIn B/\Ko B outer ea cls a0 s'.heap/\(∀b o,s.heap.get? b=some o->b ∉ cm outer->∃o',B.get? b=some o')/\(∀b u,H' b=some u->∃o,B.get? b=some o)/\s.heap.get? ea=none/\E cls none H'
section
variable {P:Program}{w:World}{K:FX}{mg:Str->Option Value}{base:Heap}{N:List Str}{qual:Str}{scope:Scope}{f:Addr}{cd:Value}{A:Around}{outer:List Env}{s:Shared}{H:Hp}{E:XK}
theorem du {H1:Hp}{h B g:Heap}(ok:eN P w H1 h)(inB:∀b u,H1 b=some u->∃o,B.get? b=some o)(sb:B.StaysIn h)(sg:B.StaysIn g):eN P w H1 g:=fun a u e=>by
 refine (ok a u e).stay (fun b o hb q=>?_) (fun _ q=>q) (fun _ _ q=>q)
 have hb':∃v,H1 b=some v:=by
   rcases hb with rfl | hb
   · exact ⟨u,e⟩
   · exact ⟨_,hb⟩
 obtain ⟨v,hv⟩:=hb'
 obtain ⟨o',ho'⟩:=inB b v hv
 have:=sb b o' ho'
 rw [q] at this
 cases this
 exact sg b o ho'
/-- an exception that was made here leaves the frame -/
theorem nS {pins:List (Addr×Obj)}{σ:St}{H1:Hp}{s1:Shared}{h':Heap}{e:Addr}{cls:Value}{args:List Value}(I:Inv (bX (cE P w base) P w K mg base N qual scope f cd A outer s H E) pins σ H1 s1)(hx:Heap.MadeExcOf s1.heap h' e cls args)(q:E cls none H1) :
   (bX (cE P w base) P w K mg base N qual scope f cd A outer s H E).xe (.ref e) { s1 with heap:=h' }:=by
 have hstk:(bX (cE P w base) P w K mg base N qual scope f cd A outer s H E).stack=envOfC qual scope s.heap.objs.size f cd :: outer:=rfl
 have fr:s1.heap.FunFrames base (envOfC qual scope s.heap.objs.size f cd :: outer):=I.stack
 have frf:=I.stkFree
 rw [hstk] at frf
 have hbase:∀b o,base.get? b=some o->s1.heap.get? b=some o:=I.bk
 have hun:Un (cm outer) [] H H1 s.heap s1.heap:=I.base
 have hex:∀b:Addr,b ∉ ([]:List Addr):=fun b z=>nomatch z
 have hloc:∀b o,s.heap.get? b=some o->b ∉ cm outer->b ∉ cm (envOfC qual scope s.heap.objs.size f cd :: outer):=fun b o hb hn hm=>by
   rcases List.mem_cons.mp (show b∈s.heap.objs.size :: cm outer from hm) with z | z
   · exact absurd (Ga hb) (by rw [z]; exact He _)
   · exact hn z
 let B:=GX s1.heap (cm (envOfC qual scope s.heap.objs.size f cd :: outer))
 have bget:∀b o,s1.heap.get? b=some o->b ∉ cm (envOfC qual scope s.heap.objs.size f cd :: outer)->B.get? b=some o:=fun b o hb hn=>Jk _ hb hn
 have bs1:B.StaysIn s1.heap:=fun b o hb=>Jq _ hb
 have stB:base.StaysIn B:=fun b o hb=>bget b o (hbase b o hb) fun hm=>by
   have:=(fr.mem hm).1
   rw [hb] at this
   cases this
 have frB:s1.heap.FunFrames B (envOfC qual scope s.heap.objs.size f cd :: outer):=PySem.W.funFrames_hide fr fun env he a ha=>List.mem_filterMap.mpr ⟨env,he,ha⟩
 have lN:∀b u,H1 b=some u->∃o,B.get? b=some o:=fun b u hu=>by
   obtain ⟨o,ho⟩:=(I.hok b u hu).ex
   refine ⟨o,bget b o ho fun hm=>?_⟩
   rw [frf b hm] at hu
   cases hu
 refine wpAny_leaves_madeW (base:=B) (h:=s1.heap) (args:=args) I.ok.frames rfl bs1 frB hx fun h2 t x1 x2 x3 x4=>?_
 refine ⟨e,cls,.ref t,B,H1,rfl,I.os,I.bare,⟨fun b o hb n hf _=>?_,fun b o hb n hf _=>?_,fun b o hb n _=>hun.free b o hb n (hex b),fun b o hb _=>?_,hun.tups,hun.frzs,hun.tbls⟩,du I.hok lN bs1 x1.1,stB,x1,fun b o hb hf=>?_,lN,?_,q⟩
 · exact x1.1 b o (bget b o (hun.keep b o hb n hf (hex b)) (hloc b o hb hf))
 · obtain ⟨sl,e1⟩:=hun.slot b o hb n hf (hex b)
   obtain ⟨_,o2,ho2,hd2⟩:=fr.mem (show b∈cm (envOfC qual scope s.heap.objs.size f cd :: outer) from F7 _ hf)
   rw [e1] at ho2
   cases ho2
   obtain ⟨sl2,e2⟩:=x4 b _ (hx.keeps b _ e1) hd2
   exact ⟨sl2,e2⟩
 · obtain ⟨o1,e1⟩:=hun.there b o hb (hex b)
   by_cases hm:b∈cm (envOfC qual scope s.heap.objs.size f cd :: outer)
   · obtain ⟨_,o2,ho2,hd2⟩:=fr.mem hm
     obtain ⟨sl2,e2⟩:=x4 b _ (hx.keeps b _ ho2) hd2
     exact ⟨_,e2⟩
   · exact ⟨o1,x1.1 b o1 (bget b o1 e1 hm)⟩
 · obtain ⟨o1,e1⟩:=hun.there b o hb (hex b)
   exact ⟨o1,bget b o1 e1 (hloc b o hb hf)⟩
 · cases z:s.heap.get? e with
   | none=>rfl
   | some o=>
     obtain ⟨o1,e1⟩:=hun.there e o z (hex e)
     rw [hx.new] at e1
     cases e1
/-- an exception of a callee leaves the frame -/
theorem Cq {E':XK}(hE:∀c d H2,E' c d H2->E c d H2):Passes (cE P w base) (bX (cE P w base) P w K mg base N qual scope f cd A outer s H E) E':=by
 intro pins σ H1 s1 e s2 I cx
 obtain ⟨ea,cls,a0,B,H2,rfl,os2,bare2,un2,hok2,stB,fly,inB,lN,nea,q⟩:=cx
 have hun:Un (cm outer) [] H H1 s.heap s1.heap:=I.base
 have hex:∀b:Addr,b ∉ ([]:List Addr):=fun b z=>nomatch z
 have hstk:(bX (cE P w base) P w K mg base N qual scope f cd A outer s H E).stack=envOfC qual scope s.heap.objs.size f cd :: outer:=rfl
 rw [hstk] at fly un2 inB
 have hloc:∀b o,s.heap.get? b=some o->b ∉ cm outer->b ∉ cm (envOfC qual scope s.heap.objs.size f cd :: outer):=fun b o hb hn hm=>by
   rcases List.mem_cons.mp (show b∈s.heap.objs.size :: cm outer from hm) with z | z
   · exact absurd (Ga hb) (by rw [z]; exact He _)
   · exact hn z
 have fr2:=fly.2.2.1
 have sB2:=fly.1
 refine wpAny_leaves_onW I.ok.frames rfl fly fun h3 x1 x2=>?_
 have inB0:∀b o,s.heap.get? b=some o->b ∉ cm outer->∃o',B.get? b=some o':=fun b o hb hf=>by
   obtain ⟨o1,e1⟩:=hun.there b o hb (hex b)
   exact inB b o1 e1 (hloc b o hb hf)
 refine ⟨ea,cls,a0,B,H2,rfl,os2.trans I.os,bare2,⟨fun b o hb n hf _=>?_,fun b o hb n hf _=>?_,fun b o hb n _=>?_,fun b o hb _=>?_,fun b xs h=>un2.tups b xs (hun.tups b xs h),fun b o u h=>un2.frzs b o u (hun.frzs b o u h),fun b ps h=>?_⟩,du hok2 lN sB2 x1.1,stB,x1,inB0,lN,?_,hE _ _ _ q⟩
 · have e1:=hun.keep b o hb n hf (hex b)
   have n1:=hun.free b o hb n (hex b)
   have e2:=un2.keep b o e1 n1 (hloc b o hb hf) (hex b)
   obtain ⟨o',ho'⟩:=inB0 b o hb hf
   have e3:=sB2 b o' ho'
   rw [e2] at e3
   cases e3
   exact x1.1 b o ho'
 · obtain ⟨sl,e1⟩:=hun.slot b o hb n hf (hex b)
   have n1:=hun.free b o hb n (hex b)
   obtain ⟨sl2,e2⟩:=un2.any e1 n1 (hex b)
   obtain ⟨_,o2,ho2,hd2⟩:=fr2.mem (show b∈cm (envOfC qual scope s.heap.objs.size f cd :: outer) from F7 _ hf)
   rw [e2] at ho2
   cases ho2
   obtain ⟨sl3,e3⟩:=x2 b _ e2 hd2
   exact ⟨sl3,e3⟩
 · obtain ⟨o1,e1⟩:=hun.there b o hb (hex b)
   exact un2.free b o1 e1 (hun.free b o hb n (hex b)) (hex b)
 · obtain ⟨o1,e1⟩:=hun.there b o hb (hex b)
   obtain ⟨o2,e2⟩:=un2.there b o1 e1 (hex b)
   by_cases hm:b∈cm (envOfC qual scope s.heap.objs.size f cd :: outer)
   · obtain ⟨_,o3,ho3,hd3⟩:=fr2.mem hm
     obtain ⟨sl3,e3⟩:=x2 b _ ho3 hd3
     exact ⟨_,e3⟩
   · obtain ⟨o',ho'⟩:=inB b o1 e1 hm
     exact ⟨o',x1.1 b o' ho'⟩
 · obtain ⟨m1,e1⟩:=hun.tbls b ps h
   obtain ⟨m2,e2⟩:=un2.tbls b _ e1
   exact ⟨m1++m2,by rw [e2,Jx]⟩
 · cases z:s.heap.get? ea with
   | none=>rfl
   | some o=>
     obtain ⟨o1,e1⟩:=hun.there ea o z (hex ea)
     rw [nea] at e1
     cases e1
end
end L2
set_option Elab.async false
set_option linter.all false
set_option maxRecDepth 100000
/-! ### own refusals: their classes,texts with parts,raise -/
namespace L2
open PySem PySem.Spec PyProof.Rows
abbrev vE:List Value:=[.type "ValueError",.type "Exception",.type "BaseException",.type "object"]
def kN (K:FX)(C:Addr):Option (List Value):=match K.lookup C with
 | some ⟨_,_,.cls cd,_⟩=>some cd.mro
 | _=>none
/-- the class at C,named x,its line of classes behind itself -/
structure Xc (K:FX)(mg:Str->Option Value)(x:Str)(C:Addr)(tl:List Value):Prop where
 m:mg x=some (.ref C)
 ex:JS K C vE "ValueError.__new__"=true
 mro:kN K C=some (.ref C :: tl)
theorem Xc.obj {K:FX}{mg:Str->Option Value}{x:Str}{C:Addr}{tl:List Value}{h:Heap}(c:Xc K mg x C tl)(hk:K.In h) :
   ∃N nm q bs hdct sn sub ab col dd k0 k1 k2 k3 k5 mN,h.get? C=some (excClassObj nm q C N bs tl hdct sn sub ab col dd k0 k1 k2 k3 k5 "ValueError.__new__")/\h.Ns N mN/\mN "__init__"=none/\OwnTail h vE tl:=by
 have q:=c.ex
 have m:=c.mro
 unfold JS at q
 unfold kN at m
 split at q
 · rename_i od cd sl look
   rw [look] at m
   split at q
   · rename_i C' bm k0 k1 k2 k3 n k5 hm hs
     simp only [HE,beq_iff_eq,Bool.not_eq_true'] at q
     obtain ⟨⟨⟨⟨⟨z1,z2⟩,hdel⟩,ht⟩,hok⟩,hni⟩:=q
     subst z1 z2
     have m2:cd.mro=.ref C' :: tl:=by injection m
     rw [hm] at m2
     have e1:bm=tl:=by injection m2
     subst e1
     obtain ⟨nm,bs,mro,ns,qn,hd,sn,sub,ab,col,del⟩:=cd
     dsimp only at hm hdel hok hni
     subst hm hdel
     have hsl:sl = #[k0,k1,k2,k3,some (.builtin "ValueError.__new__"),k5]:=by
       obtain ⟨l⟩:=sl
       simp only at hs
       rw [hs]
     subst hsl
     exact ⟨ns,nm,qn,bs,hd,sn,sub,ab,col,od,k0,k1,k2,k3,k5,_,hk _ _ look,.of_isNs (PySem.W.isNs_of_in hk hok),PySem.W.nsMap_none_of_in hk hok hni,PySem.W.tail_of_in hk ht⟩
   · cases q
 · cases q
/-! texts with parts -/
abbrev TF:=St->Hp->(Hp->Prop)->Prop
def PF (X:Cx)(parts:List Expr)(n:Nat)(t:TF):Prop:=∀(pins:List (Addr×Obj)) (s:Shared) (σ:St) (H:Hp) (acc:Str) (k:Hp->Prop),Inv X pins σ H s->t σ H k->acc.length + n * 2000<=sizeLine ->
 Joins (model X.prog X.w) X.A X.xe (evalEach parts X.env) acc (fun out s1=>out.length<=sizeLine/\∃H',Inv X pins σ H' s1/\k H') s
/-- a part: a whole number that is not too long,or a text -/
def EL (x:V):Prop:=(∃i,x=.int i/\i.natAbs.log2 < 1920)\/∃y:Str,x=.str y/\y.length<=2000
section
variable {X:Cx}{a:Expr}{ps:List Expr}{n:Nat}{t:TF}{te:TE}{pos:Pos}
theorem Av:PF X [] 0 (fun _ H k=>k H):=fun pins s σ H acc k I h hl=>⟨by omega,H,I,h⟩
theorem Aw {x:Str}{j}(hx:x.length<=2000)(hr:PF X ps n t):PF X (.Constant (.str x) j pos :: ps) (n + 1) t:=by
 intro pins s σ H acc k I h hl
 have hp:=uy (X:=X) (x:=x) (j:=j) (pos:=pos) pins s σ H (fun v H1=>v=.str x/\H1=H) I ⟨rfl,rfl⟩
 refine aV hp fun u s1 ⟨v,H1,I1,rv,e1,e2⟩=>?_
 subst e1 e2
 obtain ⟨tk,rfl⟩:=rv
 have hlen:(acc++x).length=acc.length + x.length:=strLen_append ..
 exact ⟨x,tk,rfl,by omega,hr pins s1 σ H1 (acc++x) k I1 h (by omega)⟩
theorem Ax (ha:PE X a te)(hr:PF X ps n t):PF X (.FormattedValue a (-1) none pos :: ps) (n + 1) (fun σ H k=>te σ H fun x H1=>EL x/\t σ H1 k):=by
 intro pins s σ H acc k I h hl
 refine FormattedValue_plain (aV (ha pins s σ H _ I h) fun u s1 ⟨v,H1,I1,rv,fo,q⟩=>?_)
 rcases fo with ⟨i,rfl,hi⟩ | ⟨y,rfl,hy⟩
 · obtain ⟨tk,rfl⟩:=rv
   refine formatField_int_small hi ?_
   have h1:=int_text_length_le (k:=1920) (by decide) hi
   have h2:(F1 (toString i)).length<=1921:=by rw [Iu]; exact h1
   have hlen:(acc++F1 (toString i)).length=acc.length + (F1 (toString i)).length:=strLen_append ..
   exact ⟨F1 (toString i),_,rfl,by omega,hr pins _ σ H1 _ k ((I1.tok _).tok _) q (by omega)⟩
 · obtain ⟨tk,rfl⟩:=rv
   refine formatField_str (fun t' tk'=>?_) (F2 hy (by decide))
   have hlen:(acc++y).length=acc.length + y.length:=strLen_append ..
   exact ⟨y,_,rfl,by omega,hr pins _ σ H1 _ k (I1.tok _) q (by omega)⟩
theorem xp {v1 v2:Expr}(h:PF X (v1 :: v2 :: ps) n t)(hn:n<=1000):PE X (.JoinedStr (v1 :: v2 :: ps) pos) (fun σ H Q=>t σ H fun H1=>∀x,Q (.str x) H1):=by
 intro pins s σ H Q I hq
 refine PySem.wpAny_JoinedStr ?_
 have hz:(HS:Str).length + n * 2000<=sizeLine:=by
   have:(HS:Str).length=0:=rfl
   have:(2000000:Nat)<=sizeLine:=by decide
   omega
 have j:=h pins s σ H HS _ I hq hz
 have go:∀(l:List (Sem Value)) (acc:Str) (s:Shared),Joins (model X.prog X.w) X.A X.xe l acc (fun out s1=>out.length<=sizeLine/\∃H',Inv X pins σ H' s1/\∀x,Q (.str x) H') s->Joins (model X.prog X.w) X.A X.xe l acc (fun out s1=>out.length<=sizeLine/\EP X pins σ Q (.str out s1.toks) { s1 with toks:=s1.toks + 1 }) s:=by
   intro l
   induction l with
   | nil=>
     rintro acc s ⟨h1,H',I',q⟩
     exact ⟨h1,.str acc,H',I'.tok _,⟨_,rfl⟩,q acc⟩
   | cons x l ih=>
     intro acc s hj
     exact aV hj fun u s1 ⟨y,tk,e,hl,r⟩=>⟨y,tk,e,hl,ih _ _ r⟩
 exact go _ _ _ j
/-! raise C(a) -/
def vh (Ex:XK)(C:Addr)(ta:TA):TS:=fun _ σ H=>ta σ H fun vs H1=>∃v,vs=[v]/\Ex (.ref C) none H1
def iz (X:Cx)(Ex:XK):Prop:=∀{pins:List (Addr×Obj)} {σ:St} {H:Hp} {s:Shared} {h':Heap} {e:Addr} {cls:Value} {args:List Value},Inv X pins σ H s->Heap.MadeExcOf s.heap h' e cls args->Ex cls none H->X.xe (.ref e) { s with heap:=h' }
theorem uF {x:Str}{C:Addr}{tl:List Value}{Ex:XK}{ta:TA}{np cpos:Pos}(hx:iz X Ex)(c:Xc X.K X.mg x C tl)(hb:tl.contains (.type "BaseException")=true)(hg:Gl X x)(hc:X.calm=true)(ha:pV X [a] ta)(hd:(x == ("__debug__":Str))=false:=by decide) :
   PS X (.Raise (some (.Call (.Name x np) [a] [] cpos)) none pos) (vh Ex C ta):=by
 intro pins s σ H D I h
 obtain ⟨N,nm,q,bs,hdct,sn,sub,ab,col,dd,k0,k1,k2,k3,k5,mN,hC,hN,hni,T⟩:=c.obj I.ok.mod.kin
 refine wpAny_Raise_call_subT (C:=C) (nm:=nm) (q:=q) (N:=N) (bs:=bs) (bm:=tl) (hdct:=hdct) (sn:=sn) (sub:=sub) (ab:=ab) (col:=col) (dd:=dd) (k0:=k0) (k1:=k1) (k2:=k2) (k3:=k3) (k5:=k5) PySem.F.excBase_ValueError (mN:=mN) hb (I.ok.hd hc)
   (by rw [(ha.ns a [] rfl).1.h [] X.env]; exact (ha.ns a [] rfl).2 cpos X.env) hni (fO I hg c.m ⟨rfl,?_⟩ hd)
 have he:=(ha.ns a [] rfl).1.h [] X.env
 have h2:=ha.pa cpos pins s σ H _ I h
 rw [he] at h2 ⊢
 refine HV (aV h2 fun us s2 ⟨vs,H1,I1,r,v,ev,q1⟩=>⟨rfl,?_,I1.bk _ _ hC,hN.keeps I1.bk,T.keeps I1.bk,fun h' e hm=>hx I1 hm q1⟩)
 have h1:=r.length
 rw [ev] at h1
 show us.length<=sizeLine
 rw [← h1]
 exact (by decide:1<=sizeLine)
end
end L2
set_option Elab.async false
set_option linter.all false
set_option maxRecDepth 100000
namespace L2
open PySem PySem.Spec PyProof.Rows PySem.W PySem.Builtin PySem.Builtin.ObjectAttr PySem.Builtin.Getset_descriptor
section
variable {prog:Program}{w:World}{A:Around}{E:Value->Shared->Prop}{s:Shared}{K:Frag}{x C:Addr}{ox:Obj}
def gU (x C:Addr)(h:Heap):Prop:=∃o,h.get? x=some o/\o.cls=.ref C
theorem gU.ty {x C:Addr}{h:Heap}{M:Model}(p:gU x C h):Looks M h (typeOf (.ref x)) (.ref C):=by
 obtain ⟨o,h1,h2⟩:=p
 exact h2 ▸ (Looks.ld h1).andThen .now
theorem vR {R:Result->Shared->Prop}{tp:Value}(X:K.In s.heap)(I:gU x C s.heap)(hm:mroIn K C (.type "object")=some true)
   (h:R (.ok (.ret (.ref C))) s):codeAny (model prog w) A (.call (.builtin "getset_descriptor.__get__") ⟨[.builtin "object.__class__",.ref x,tp],[]⟩) R s:=by
 obtain ⟨hh,g,dr,t,os⟩:=s
 have q0:=I.ty (M:=model prog w)
 have q1:=looks_mroIn (M:=model prog w) X hm
 refine codeAny_call_builtin KF.slot_gs.plain KF.entry_gs (KF.slot_gs.check _ _ _ _ _ _ _ _ KF.type_class (KF.args_gs _ _ _) ?_)
 unfold Builtin.«getset_descriptor.__get__» descrGet
 rw [dga_obj]
 refine wpAny_bind (wpAny_pure ?_)
 unfold descrGetter descrCheckInstance descrNameAndClass isInstance
 simp only [KF.owner_class]
 repeat lk
 refine ⟨Code.quiet_builtin _ (by decide +kernel),codeAny_builtin KF.entry_class ?_⟩
 unfold Builtin.«object.__class__» shownTypeOf
 repeat lk
 exact h
theorem qf {tk:Tok}{P:Value->Shared->Prop}(X:K.In s.heap)(I:gU x C s.heap)(ha:findIn K (.ref C) "__class__"=some (some (.builtin "object.__class__")))(hn:specialIn K (.builtin "object.__class__") "__get__"=some (some (.builtin "getset_descriptor.__get__")))
   (htk:takesIn K (.builtin "object.__class__")=some true) (hm:mroIn K C (.type "object")=some true) (h:P (.ref C) s) :
   wpAny (model prog w) A (Builtin.«object.__getattribute__» ⟨[.ref x,.str "__class__" tk],[]⟩) (fun fin s'=>∃v,fin=.done (.ret v)/\P v s') E s:=by
 obtain ⟨hh,g,d,t,os⟩:=s
 have l0:=I.ty (M:=model prog w)
 have l1:=looks_findIn (M:=model prog w) X ha
 have l2:=looks_specialIn (M:=model prog w) X hn
 have l3:=looks_takesIn (M:=model prog w) X htk
 unfold Builtin.«object.__getattribute__»
 refine wpAny_bind (wpAny_pure ?_)
 dsimp only
 refine wpAny_bind (wpAny_pure ?_)
 refine wpAny_bind (l0.at ?_)
 refine wpAny_bind ?_
 unfold Builtin.ObjectAttr.find
 refine wpAny_bind (l1.at ?_)
 refine wpAny_bind (l2.at ?_)
 refine wpAny_bind (wpAny_bind (l3.at ?_))
 rw [if_pos rfl]
 refine wpAny_pure ?_
 refine wpAny_bind (wpAny_rule (wpAny_pure ?_))
 show wpAny _ _ (Jh (.builtin "getset_descriptor.__get__") (.builtin "object.__class__") (.ref x) (.ref C)) _ _ _
 unfold Jh
 dsimp only
 refine wpAny_bind (wpAny_holding (wpAny_call (vR X I hm ?_)))
 exact wpAny_pure ⟨_,rfl,h⟩
theorem qd {M:Model}{nameV:Value}{Q:Unit->Shared->Prop}(X:K.In s.heap)(I:gU x C s.heap)(hb:mroIn K C (.type "BaseException")=some true)(h:Q () s) :
   wpAny M A (checkBuiltinCall "BaseException.__getattribute__" ⟨[.ref x,nameV],[]⟩) Q E s:=by
 obtain ⟨hh,g,d,t,os⟩:=s
 have l0:=I.ty (M:=M)
 have l1:=looks_mroIn (M:=M) X hb
 have kd:builtinKind "BaseException.__getattribute__"=some .slot:=by decide +kernel
 have sp:splitId "BaseException.__getattribute__"=some ("BaseException","__getattribute__"):=by decide +kernel
 have ar:=F.args_bexc_ga (.ref x) nameV
 simp only [checkBuiltinCall,kd,sp]
 unfold isInstance
 refine wpAny_bind (wpAny_bind (l0.at (l1.at ?_)))
 repeat (first | exact h | assumption | wp_step)
theorem qe {Q:Option Value->Shared->Prop}(X:K.In s.heap)(I:gU x C s.heap)(hga:findIn K (.ref C) "__getattribute__"=some (some (.builtin "BaseException.__getattribute__")))(hgn:findIn K (.ref C) "__getattr__"=some none)
   (ha:findIn K (.ref C) "__class__"=some (some (.builtin "object.__class__"))) (hn:specialIn K (.builtin "object.__class__") "__get__"=some (some (.builtin "getset_descriptor.__get__"))) (htk:takesIn K (.builtin "object.__class__")=some true)
   (hm:mroIn K C (.type "object")=some true) (hb:mroIn K C (.type "BaseException")=some true) (h:Q (some (.ref C)) { s with toks:=s.toks + 1 }) :
   wpAny (model prog w) A (getAttr? (.ref x) "__class__") Q E s:=by
 obtain ⟨hh,g,d,t,os⟩:=s
 have l0:=I.ty (M:=model prog w)
 have l1:=looks_findIn (M:=model prog w) X hga
 have l2:=looks_findIn (M:=model prog w) X hgn
 unfold getAttr? getAttrBy? getAttrBy
 refine wpAny_bind (wpAny_mkText (wpAny_bind (wpAny_attempt (wpAny_holding (wpAny_bind (l0.at (wpAny_bind (l1.at ?_))))))))
 dsimp only
 rw [if_neg (fun z=>by rw [show (Value.builtin "BaseException.__getattribute__" == Value.builtin "object.__getattribute__")=false by decide +kernel,Bool.and_false] at z; cases z)]
 unfold getAttrByItsOwn hookBefore
 rw [if_pos (show onTheHeap (Gq C)=true by rfl)]
 refine wpAny_bind (l2.at ?_)
 refine wpAny_bind (wpAny_attempt (wpAny_holding ?_))
 show wpAny _ _ (boundAndCalled (.builtin "BaseException.__getattribute__") (.ref x) (.str "__class__" t)) _ _ _
 unfold boundAndCalled
 rw [F.attr_ValueError.ga.bind (.ref x)]
 refine wpAny_bind (wpAny_pure ?_)
 refine wpAny_call (codeAny_call_builtin F.attr_ValueError.ga.plain F.entry_bexc_ga (qd (s:=⟨hh,g,d,t + 1,os⟩) X I hb ?_))
 refine wpAny_mono (qf (s:=⟨hh,g,d,t + 1,os⟩) X I ha hn htk hm (P:=fun v s'=>v=.ref C/\s'=⟨hh,g,d,t + 1,os⟩) ⟨rfl,rfl⟩) (fun fin s' z=>?_) fun _ _ z=>z
 obtain ⟨v,rfl,rfl,rfl⟩:=z
 show wpAny (model prog w) A (handedOut (.ref C)) _ _ _
 exact handed_on rfl (wpAny_pure h)
/-- what must be known of the class of a refusal that is asked for its class -/
structure oJ (K:Frag)(C:Addr):Prop where
 ga:findIn K (.ref C) "__getattribute__"=some (some (.builtin "BaseException.__getattribute__"))
 gn:findIn K (.ref C) "__getattr__"=some none
 ha:findIn K (.ref C) "__class__"=some (some (.builtin "object.__class__"))
 hn:specialIn K (.builtin "object.__class__") "__get__"=some (some (.builtin "getset_descriptor.__get__"))
 htk:takesIn K (.builtin "object.__class__")=some true
 hm:mroIn K C (.type "object")=some true
 hb:mroIn K C (.type "BaseException")=some true
 hc:(clsIn K C).isSome=true
theorem i4 (k:oJ K C):KitX K (.ref x) (.ref C) (gU x C) where
 ty:=fun _ _ _ I=>I.ty
 it:=fun _ _ X _=>by
   obtain ⟨cd,e⟩:=Option.isSome_iff_exists.mp k.hc
   unfold clsIn at e
   split at e
   · rename_i c' d' cd' sl' look
     intro A' Q' E' s' st q
     unfold isType loadHead
     exact wpAny_bind (wpAny_loadPart (st _ _ (X _ _ look)) (wpAny_pure q))
   · cases e
 ne:=fun h tp dd its n sl X htp=>by
   obtain ⟨cd,e⟩:=Option.isSome_iff_exists.mp k.hc
   refine Bool.eq_false_iff.mpr fun q=>?_
   have z:C=tp:=Value.ref.inj (beq_iff_eq.mp q)
   subst z
   unfold clsIn at e
   split at e
   · rename_i c' d' cd' sl' look
     have y:=(X _ _ look).symm.trans htp
     cases y
   · cases e
 ca:=fun X I q=>qe X I k.ga k.gn k.ha k.hn k.htk k.hm k.hb q
end
end L2
set_option Elab.async false
set_option linter.all false
set_option maxRecDepth 100000
/-! ### an exception is caught -/
namespace L2
open PySem PySem.Spec PyProof.Rows
theorem vp {fs:List Addr}{H1 H2:Hp}{h1 h2 h3 B:Heap}(u:Un fs [] H1 H2 h1 h2)(s2:B.StaysIn h2)(s3:B.StaysIn h3)(inB:∀b o,h1.get? b=some o->b ∉ fs->∃o',B.get? b=some o')
   (sl:∀b o,b∈fs->h2.get? b=some o->∃x,h3.get? b=some { o with slots:=x }):Un fs [] H1 H2 h1 h3:=by
 have hex:∀b:Addr,b ∉ ([]:List Addr):=fun b z=>nomatch z
 refine ⟨fun b o hb n hf _=>?_,fun b o hb n hf _=>?_,fun b o hb n _=>u.free b o hb n (hex b),fun b o hb _=>?_,u.tups,u.frzs,u.tbls⟩
 · have e2:=u.keep b o hb n hf (hex b)
   obtain ⟨o',ho'⟩:=inB b o hb hf
   have e3:=s2 b o' ho'
   rw [e2] at e3
   cases e3
   exact s3 b o ho'
 · obtain ⟨x,e2⟩:=u.slot b o hb n hf (hex b)
   obtain ⟨y,e3⟩:=sl b _ hf e2
   exact ⟨y,e3⟩
 · by_cases hm:b∈fs
   · obtain ⟨o2,e2⟩:=u.there b o hb (hex b)
     obtain ⟨y,e3⟩:=sl b _ hm e2
     exact ⟨_,e3⟩
   · obtain ⟨o',ho'⟩:=inB b o hb hm
     exact ⟨o',s3 b o' ho'⟩
theorem uY {h2 h3 B:Heap}{l:List Env}(fr:h2.FunFrames B l)(x:h2.UpToSlots h3):∀b o,b∈cm l->h2.get? b=some o->∃y,h3.get? b=some { o with slots:=y }:=fun b o hm ho=>by
 obtain ⟨_,o2,ho2,hd2⟩:=fr.mem hm
 rw [ho] at ho2
 cases ho2
 exact x b o ho hd2
/-- the refusal at ea,of the class at C -/
def yf (ea C:Addr):HO:=.ext (gU ea C)
theorem zc {P:Program}{w:World}{H:Hp}{h:Heap}{ea C:Addr}(x:gU ea C h):aZ P w H h ea (yf ea C):=by
 obtain ⟨o,h1,h2⟩:=id x
 exact ⟨x,⟨o,h1⟩,fun g1 g2 ⟨o',a,b⟩ k=>⟨o',k _ a,b⟩⟩
section
variable {X:Cx}{pins:List (Addr×Obj)}{σ:St}{H:Hp}{s:Shared}{ea C:Addr}
/-- the caught refusal is tracked -/
theorem Inv.track (I:Inv X pins σ H s)(n:H ea=none)(x:gU ea C s.heap)(n0:X.s₀.heap.get? ea=none)(nl:ea≠X.env.locals)(nc:∀y c,X.env.cells.lookup y=some c->c≠ea)(np:∀p∈X.pn++pins,p.1≠ea):Inv X pins σ (upd H ea (yf ea C)) s:=by
 have ne:∀b u,H b=some u->b≠ea:=fun b u e z=>by rw [z,n] at e; cases e
 have k:∀b u,H b=some u->(upd H ea (yf ea C)) b=some u:=fun b u e=>by rw [ai (ne b u e)]; exact e
 refine ⟨I.ok,I.os,I.bare,⟨I.base.keep,I.base.slot,fun b o e m hx=>?_,I.base.there,fun b xs e=>k _ _ (I.base.tups b xs e),fun b o u e=>k _ _ (I.base.frzs b o u e),fun b ps e=>?_⟩,I.loc,I.cell,?_,fun y c e=>?_,fun p hp=>?_,fun b u e=>?_,I.len⟩
 · rw [ai (fun z=>by rw [z,n0] at e; cases e)]
   exact I.base.free b o e m hx
 · obtain ⟨more,e1⟩:=I.base.tbls b ps e
   exact ⟨more,k _ _ e1⟩
 · rw [ai (Ne.symm nl)]
   exact I.free
 · rw [ai (nc y c e)]
   exact I.freeC y c e
 · obtain ⟨a1,a2,a3,a4,a5⟩:=I.pin p hp
   exact ⟨a1,by rw [ai (np p hp)]; exact a2,a3,a4,a5⟩
 · by_cases hb:b=ea
   · subst hb
     rw [aa] at e
     cases e
     exact zc x
   · rw [ai hb] at e
     exact (I.hok b u e).stay (fun c v _ q=>q) (fun c q=>k _ _ q) fun c xs q=>k _ _ q
end
section
variable {M:Model}{A:Around}{E:Value->Shared->Prop}{s:Shared}{nm q:Str}{C N:Addr}{bs bm:List Value}{hdct:Bool}{sn:List Str}{sub:List Value}{ab:Bool}{col:Option Bool}{dd:Option Addr}{k0 k1 k2 k3 k5:Option Value}{newId:String}
 {nm' q':Str} {T N':Addr} {bs' bm':List Value} {hdct':Bool} {sn':List Str} {sub':List Value} {ab':Bool} {col':Option Bool} {dd':Option Addr} {j0 j1 j2 j3 j5:Option Value} {newId':String}
/-- except T: one of a class below T -/
theorem nX {h:Heap}{g:Array GenState}{d:Drawn}{t:Nat}{os:OsState}{e:Addr}{oe:Obj}{Q:Bool->Shared->Prop}(hC:h.get? C=some (excClassObj nm q C N bs bm hdct sn sub ab col dd k0 k1 k2 k3 k5 newId))(hT:h.get? T=some (excClassObj nm' q' T N' bs' bm' hdct' sn' sub' ab' col' dd' j0 j1 j2 j3 j5 newId'))
   (he:h.get? e=some oe) (hcls:oe.cls=.ref C) (hup:(Gq C :: bm).contains (.ref T)=true) (hbase:bm'.contains (.type "BaseException")=true) (hq:Q true ⟨h,g,d,t,os⟩):wpAny M A (excMatches (.ref e) (.ref T)) Q E ⟨h,g,d,t,os⟩:=by
 have hcB:(Gq T :: bm').contains (.type "BaseException")=true:=by rw [List.contains_cons,hbase,Bool.or_true]
 have f:=tc_notTuple
 unfold excMatches
 repeat (first | (with_reducible refine wpAny_loadPart_at he ?_; rw [hcls]) | with_reducible refine wpAny_loadPart_at hT ?_ | (with_reducible refine wpAny_isSubtype_exc hT ?_; rw [hcB]) | (with_reducible refine wpAny_isSubtype_exc hC ?_; rw [hup]) | wp_step)
 exact hq
end
end L2
set_option Elab.async false
set_option linter.all false
set_option maxRecDepth 100000
/-! ### try .. except T as e: c=e -/
namespace L2
open PySem PySem.Spec PyProof.Rows
section
variable {X:Cx}{pins:List (Addr×Obj)}{σ:St}{H:Hp}{s:Shared}
theorem Inv.forget {σ':St}{h':Heap}{t':Nat}{m:Str->Option Value}{en:Str}{v:Option Value}(I:Inv X pins σ H s)(hm:∀(i:Nat) (x:Str) (v:V),X.N[i]? = some x->σ[i]? = some (some v)->Di X.env.scope x->∃u,RelV v u/\Look X.env s.heap m x u)
   (hn':h'.Ns X.env.locals (fun x=>if x=en then v else m x)) (hs:Hl X.env.locals s.heap h') (hl:σ'.length=σ.length) (hw:∀(i:Nat) v,σ'[i]? = some (some v)->σ[i]? = some (some v)/\X.N[i]? ≠ some en):Inv X pins σ' H { s with heap:=h',toks:=t' }:=by
 have neL:∀b o,X.s₀.heap.get? b=some o->b≠X.env.locals:=fun b o e=>Gw (Gk (Ga e) I.ok.above)
 refine ⟨I.ok,I.os,I.bare,⟨fun b o e n hb hx=>?_,fun b o e n hb hx=>?_,I.base.free,fun b o e hx=>?_,I.base.tups,I.base.frzs,I.base.tbls⟩,⟨_,hn',fun j y v' e1 e2 e3=>?_⟩,fun y c e=>?_,I.free,I.freeC,fun p hp=>?_,fun b u e=>?_,hl.trans I.len⟩
 · exact (hs.2 b (neL b o e)).trans (I.base.keep b o e n hb hx)
 · obtain ⟨sl,e1⟩:=I.base.slot b o e n hb hx
   exact ⟨sl,(hs.2 b (neL b o e)).trans e1⟩
 · obtain ⟨o',e1⟩:=I.base.there b o e hx
   exact ⟨o',(hs.2 b (neL b o e)).trans e1⟩
 · obtain ⟨w1,w2⟩:=hw j v' e2
   obtain ⟨u,r,l⟩:=hm j y v' e1 w1 e3
   refine ⟨u,r,?_⟩
   rcases l with ⟨k,e⟩ | ⟨k,c,e,z⟩
   · refine .inl ⟨k,?_⟩
     have:y≠en:=fun z=>w2 (by rw [e1,z])
     show (if y=en then v else m y)=some u
     rw [if_neg this]
     exact e
   · exact .inr ⟨k,c,e,z.sameBut hs (I.cne y c e)⟩
 · obtain ⟨w',z⟩:=I.cell y c e
   exact ⟨w',z.sameBut hs (I.cne y c e)⟩
 · obtain ⟨e,n,ne,nf,d⟩:=I.pin p hp
   exact ⟨(hs.2 p.1 ne).trans e,n,ne,nf,d⟩
 · have hfree:=I.free
   refine (I.hok b u e).stay (fun c w' hc q=>(hs.2 c ?_).trans q) (fun _ q=>q) fun _ _ q=>q
   intro z
   rcases hc with hc | hc
   · rw [hc] at z
     rw [z,hfree] at e
     cases e
   · rw [z,hfree] at hc
     cases hc
/-- the same state seen from a context that has other wishes -/
theorem Inv.other {W:Value->Shared->Prop}{pn pins':List (Addr×Obj)}(I:Inv X pins σ H s)(h:∀p∈pn++pins',p∈X.pn++pins):Inv { X with xe:=W,pn:=pn } pins' σ H s:=
 ⟨⟨I.ok.mod,I.ok.kind,I.ok.glob,I.ok.blt,I.ok.above,I.ok.inj,I.ok.has,I.ok.cab,I.ok.hd,I.ok.frames,I.ok.stk,I.ok.exf,I.ok.bs,I.ok.bsz,I.ok.noex,I.ok.exfs,I.ok.funs,I.ok.frf⟩,I.os,I.bare,I.base,I.loc,I.cell,I.free,I.freeC,fun p hp=>I.pin p (h p hp),I.hok,I.len⟩
theorem Inv.back {W:Value->Shared->Prop}{pn pins':List (Addr×Obj)}(I:Inv { X with xe:=W,pn:=pn } pins' σ H s)(h:∀p∈X.pn++pins,p∈pn++pins'):Inv X pins σ H s:=
 ⟨⟨I.ok.mod,I.ok.kind,I.ok.glob,I.ok.blt,I.ok.above,I.ok.inj,I.ok.has,I.ok.cab,I.ok.hd,I.ok.frames,I.ok.stk,I.ok.exf,I.ok.bs,I.ok.bsz,I.ok.noex,I.ok.exfs,I.ok.funs,I.ok.frf⟩,I.os,I.bare,I.base,I.loc,I.cell,I.free,I.freeC,fun p hp=>I.pin p (h p hp),I.hok,I.len⟩
theorem Inv.mark {e:Option Value}(I:Inv X pins σ H s):Inv { X with A:=X.A.mark e,calm:=false,xe:=fun _ _=>False } pins σ H s:=
 ⟨⟨I.ok.mod,I.ok.kind,I.ok.glob,I.ok.blt,I.ok.above,I.ok.inj,I.ok.has,I.ok.cab,(fun z=>nomatch z),I.ok.frames,I.ok.stk,I.ok.exf,I.ok.bs,I.ok.bsz,I.ok.noex,I.ok.exfs,I.ok.funs,I.ok.frf⟩,I.os,I.bare,I.base,I.loc,I.cell,I.free,I.freeC,I.pin,I.hok,I.len⟩
theorem Inv.unmark {e:Option Value}{σ':St}{H':Hp}{s':Shared}(I0:Inv X pins σ H s)(I:Inv { X with A:=X.A.mark e,calm:=false,xe:=fun _ _=>False } pins σ' H' s'):Inv X pins σ' H' s':=
 ⟨I0.ok,I.os,I.bare,I.base,I.loc,I.cell,I.free,I.freeC,I.pin,I.hok,I.len⟩
end
end L2
set_option Elab.async false
set_option linter.all false
set_option maxRecDepth 100000
/-! ### defs that may refuse -/
namespace L2
open PySem PySem.Spec PyProof.Rows
section
variable {P:Program}{w:World}{K:FX}{mg:Str->Option Value}{base:Heap}
theorem cf.okX {x qual:Str}{st:Stmt}{f:Addr}{fd:FuncData}{N ps:List Str}{k:Nat}{sp:Sp}(F:cf K x qual st f fd)(S:ay N ps (ag st))(len:∀vs H Q E,sp vs H Q E->vs.length=ps.length)
   (hbody:∀(cdv:Value) (A:Around) (outer:List Env) (s:Shared) (H:Hp) (vs:List V) (Q:VK) (E:XK),bw k (A.deeper (envOfC qual (ag st) s.heap.objs.size f cdv))->sp vs H Q E ->
     ∃t,jI (bX (cE P w base) P w K mg base N qual (ag st) f cdv A outer s H E) (bN st) t/\t { nx:=fun _ H'=>Q .bq H',rt:=Q } (start N vs) H):aN P w K mg base (cE P w base) (k + 1) f fd ps sp:=by
 obtain ⟨oc,od,kV,doc,pm,an,cdv,ct,osl,rfl,lk,hcd⟩:=F.ex
 exact yg lk hcd S len fun A outer s H vs Q E hr hsp=>hbody cdv A outer s H vs Q E hr hsp
theorem cQ {N:List Str}{qual:Str}{scope:Scope}{f:Addr}{cd:Value}{A:Around}{outer:List Env}{s:Shared}{H:Hp}{E:XK}:iz (bX (cE P w base) P w K mg base N qual scope f cd A outer s H E) E:=fun I hm q=>nS I hm q
theorem cO {N:List Str}{qual:Str}{scope:Scope}{f:Addr}{cd:Value}{A:Around}{outer:List Env}{s:Shared}{H:Hp}{E:XK}:Passes (cE P w base) (bX (cE P w base) P w K mg base N qual scope f cd A outer s H E) E:=Cq fun _ _ _ h=>h
end
/-- isinstance of a caught refusal -/
def CI (K:FX):List V->Hp->VK->Prop:=fun xs H Q=>∃ea C b,H ea=some (yf ea C)/\oJ K C/\((∃D,xs=[.ref ea,.ref D]/\FY K (.ref C) (.ref D)=some b)\/(∃n,xs=[.ref ea,.ty n]/\FY K (.ref C) (.type n)=some b) \/
 (∃(t:Addr) (ds:List Addr),xs=[.ref ea,.ref t]/\H t=some (.tup (ds.map V.ref))/\GV K (.ref C) (ds.map Gq)=some b))/\Q (.bl b) H
theorem kA:∀{ds:List Addr} {its:List Value},Vals (ds.map V.ref) its->its=ds.map Gq
 | [],_,.nil=>rfl
 | d :: ds,_,.cons r t=>by rw [kA t,show _=Gq d from r]; rfl
section
variable {X:Cx}
theorem rX:bY X (.builtin "isinstance") (CI X.K):=by
 intro pins s σ H xs us Q I r h
 obtain ⟨ea,C,b,hea,k,cs,q⟩:=h
 have ex:gU ea C s.heap:=(show aZ X.prog X.w H s.heap ea (yf ea C) from I.hok ea _ hea).1
 rcases cs with ⟨D,rfl,e⟩ | ⟨n,rfl,e⟩ | ⟨t,ds,rfl,ht,e⟩
 · obtain ⟨u,v,rfl,ru,rv⟩:=Vals.two r
   obtain rfl:u=Gq ea:=ru
   obtain rfl:v=Gq D:=rv
   exact PySem.W.kia_one (i4 k) I.kIn ex e (fun z=>nomatch z) fun tk=>⟨.bl b,H,I.tok tk,rfl,q⟩
 · obtain ⟨u,v,rfl,ru,rv⟩:=Vals.two r
   obtain rfl:u=Gq ea:=ru
   obtain rfl:v=Value.type n:=rv
   exact PySem.W.kia_one (i4 k) I.kIn ex e (fun z=>nomatch z) fun tk=>⟨.bl b,H,I.tok tk,rfl,q⟩
 · obtain ⟨u,v,rfl,ru,rv⟩:=Vals.two r
   obtain rfl:u=Gq ea:=ru
   obtain rfl:v=Gq t:=rv
   obtain ⟨_,its,rl,o,h1,h2,n,h3⟩:=(show aZ X.prog X.w H s.heap t (.tup (ds.map V.ref)) from I.hok t _ ht)
   rw [kA rl] at h3
   obtain ⟨oc,od,oda,osl⟩:=o
   simp only at h2 h3
   subst h2 h3
   exact PySem.W.kia_tup (i4 k) I.kIn ex h1 e (fun z=>nomatch z) fun tk=>⟨.bl b,H,I.tok tk,rfl,q⟩
end
theorem qO {a p}:br (.JoinedStr a p):=d9 fun _ _ z=>nomatch z
end L2
namespace TW
open PySem L2
def bR (P:Program)(w:World)(K:FX)(mg:Str->Option Value)(base:Heap)(x:Str)(ps:List Str)(k:Nat)(sp:Sp):Prop:=
 ∃f fd,aN P w K mg base (cE P w base) k f fd ps sp/\HL K (.ref f)=true/\Binds K fd ps []/\mg x=some (.ref f)
theorem bR.mono {P:Program}{w:World}{K:FX}{mg:Str->Option Value}{base:Heap}{x:Str}{ps:List Str}{j k:Nat}{sp:Sp}(h:bR P w K mg base x ps j sp)(hk:j<=k):bR P w K mg base x ps k sp:=
 let ⟨f,fd,a,b,c,d⟩:=h; ⟨f,fd,a.mono hk,b,c,d⟩
end TW
namespace L3
open PySem PySem.Spec PyProof.Rows L2
structure Bc (X:Cx)(ps:List Expr)(n:Nat)(t:TF):Prop where
 h:PF X ps n t
section
variable {X:Cx}{a b c e o:Expr}{es:List Expr}{ta tb tc te:TE}{t:TA}{tf:TF}{pos:Pos}{n:Nat}
theorem fn:Bc X [] 0 (fun _ H k=>k H):=⟨Av⟩
theorem fs {x:Str}{j}(hr:Bc X es n tf)(hx:x.length<=2000:=by decide):Bc X (.Constant (.str x) j pos :: es) (n + 1) tf:=⟨Aw hx hr.h⟩
theorem fv (ha:SE X a ta)(hr:Bc X es n tf):Bc X (.FormattedValue a (-1) none pos :: es) (n + 1) (fun σ H k=>ta σ H fun x H1=>EL x/\tf σ H1 k):=⟨Ax ha.h hr.h⟩
theorem D8 (h:Bc X (a :: b :: es) n tf)(hn:n<=1000:=by decide):SE X (.JoinedStr (a :: b :: es) pos) (fun σ H Q=>tf σ H fun H1=>∀x,Q (.str x) H1):=⟨xp h.h hn⟩
theorem ei {x:Str}{C:Addr}{tl:List Value}{Ex:XK}{np cpos:Pos}(hx:iz X Ex)(cc:Xc X.K X.mg x C tl)(hb:tl.contains (.type "BaseException")=true)(hg:Gl X x)(ha:SA X [a] t)(hc:X.calm=true:=by rfl)(hd:(x == ("__debug__":Str))=false:=by decide) :
   SS X (.Raise (some (.Call (.Name x np) [a] [] cpos)) none pos) (vh Ex C t):=⟨uF hx cc hb hg hc ha.h hd⟩
theorem lu {x:Str}{p:Pos}{ps:List Str}{kk:Nat}{sp:Sp}{Ex:XK}(hp:Passes (cE X.prog X.w X.base) X Ex)(D:TW.bR X.prog X.w X.K X.mg X.base x ps kk sp)(hr:bw kk X.A)(hg:Gl X x)(ha:SA X (e :: es) t)(hdb:(x == ("__debug__":Str))=false:=by decide) :
   SE X (.Call (.Name x p) (e :: es) [] pos) (pO sp [] Ex t):=
 let ⟨_,_,G,kp,b,m⟩:=D
 ⟨pB G hr hg m kp b .nil hp ha.h.pa hdb ((ha.h.ns e es rfl).1.h es X.env) ((ha.h.ns e es rfl).2 pos X.env)⟩
theorem dD {KK:FX}(hK:X.K=KK:=by first | exact cxC_K | rfl):SC X (.builtin "isinstance") (CI KK):=by
 subst hK
 exact ⟨rX⟩
end
end L3
set_option Elab.async false
set_option linter.all false
set_option maxRecDepth 100000
/-! ### count and index in a list of truths -/
namespace L2
open PySem PySem.Spec PyProof.Rows
end L2
namespace L3
open PySem PySem.Spec PyProof.Rows L2
end L3
set_option Elab.async false
set_option linter.all false
set_option maxRecDepth 100000
namespace L2
open PySem PySem.Spec PyProof.Rows
/-! ### len(set(xs)),xs a list of texts,some of them perhaps alike -/
end L2
namespace L3
open PySem PySem.Spec PyProof.Rows L2
end L3
set_option Elab.async false
set_option linter.all false
set_option maxRecDepth 100000
namespace L2
open PySem PySem.Spec PyProof.Rows
/-! ### a comprehension of two clauses -/
end L2
namespace L3
open PySem PySem.Spec PyProof.Rows L2
end L3
set_option Elab.async false
set_option linter.all false
set_option maxRecDepth 100000
namespace L2
open PySem PySem.Spec PyProof.Rows
/-! ### xs[::-1] -/
end L2
namespace L3
open PySem PySem.Spec PyProof.Rows L2
end L3
set_option Elab.async false
set_option linter.all false
/-! ### runs of one step function by those of another one -/
namespace TW
end TW
set_option Elab.async false
set_option linter.all false
set_option maxRecDepth 100000
namespace L3
open PySem PySem.Spec PyProof.Rows L2
section
variable {X:Cx}{a b o i value:Expr}{ta tb td ty tv:TE}{pos:Pos}
theorem oh {KK:FX}(hK:X.K=KK:=by first | exact cxC_K | rfl):SO X (binaryOp .Add) (yy KK):=by
 subst hK
 exact ⟨xb⟩
end
end L3
set_option Elab.async false
set_option linter.all false
set_option maxRecDepth 100000
namespace L2
open PySem PySem.Spec PyProof.Rows
/-! ### xs[::n],n one or minus one -/
/-! ### a text and a text -/
def yx:R2:=fun x y H Q=>∃a b:Str,x=.str a/\y=.str b/\a.length + b.length<=sizeLine/\Q (.str (a++b)) H
theorem xa {X:Cx}:eO X (binaryOp .Add) yx:=by
 intro pins s σ H x y u v Q I rx ry h
 obtain ⟨a,b,rfl,rfl,hl,q⟩:=h
 obtain ⟨t,rfl⟩:=rx
 obtain ⟨t2,rfl⟩:=ry
 exact PyProof.Rows.add_str (fun t' tk=>⟨.str (a++b),H,I.tok _,⟨_,rfl⟩,q⟩) hl
/-! ### xs.index(n),a list of whole numbers -/
end L2
namespace L3
open PySem PySem.Spec PyProof.Rows L2
section
variable {X:Cx}{a b c e o:Expr}{es:List Expr}{ta tb tc te:TE}{t:TA}{pos:Pos}
theorem yB {KK:FX}{p2:Pos}(ha:SE X a ta)(hb:SE X b tb)(hc:SE X c tc)(hK:X.K=KK:=by first | exact cxC_K | rfl):SE X (.Subscript a (.Slice (some b) (some c) none p2) pos) (A4 (xJ KK) ta (fZ tb) (fZ tc)):=by
 subst hK
 exact ⟨dj lF ha.h (cP hb.h) (cP hc.h)⟩
theorem bt:SO X (binaryOp .Add) yx:=⟨xa⟩
end
end L3
set_option Elab.async false
set_option linter.all false
set_option maxRecDepth 100000
/-! ### d.update(e),both dicts of tuples -/
namespace L2
open PySem PySem.Spec PyProof.Rows
end L2
namespace L3
open PySem PySem.Spec PyProof.Rows L2
end L3
set_option Elab.async false
set_option linter.all false
set_option maxRecDepth 100000
namespace PySem
open Sem (wp)
/-! ### a zip whose own tuple is free,out,or gone -/
end PySem
set_option Elab.async false
set_option linter.all false
set_option maxRecDepth 100000
namespace PySem
open Sem (wp)
open AutoSeq1 (wpAny_loadPart')
end PySem
namespace L2
open PySem PySem.Spec PyProof.Rows
end L2
namespace L3
open PySem PySem.Spec PyProof.Rows L2
end L3
set_option Elab.async false
set_option linter.all false
set_option maxRecDepth 100000
namespace L2
open PySem PySem.Spec PyProof.Rows
section
variable {X:Cx}{pos:Pos}
theorem oX:∀{ns:List Int} {us:List Value},Vals (ns.map V.int) us->∃l:List (Int×Tok),us=l.map (fun p=>Ja p.1 p.2)/\l.map (·.1)=ns
 | [],_,.nil=>⟨[],rfl,rfl⟩
 | n :: ns,_,.cons r q=>by
   obtain ⟨t,rfl⟩:=r
   obtain ⟨l,rfl,rfl⟩:=oX q
   exact ⟨(n,t) :: l,rfl,rfl⟩
theorem p5 (hc:X.calm=true):bY X (.builtin "sum") (fun xs H Q=>∃(l:Addr) (ns:List Int),xs=[.ref l]/\aw X.K H l (ns.map V.int)/\Q (.int ns.sum) H):=by
 intro pins s σ H xs us Q I r h
 obtain ⟨l,ns,rfl,hq,q⟩:=h
 obtain ⟨u,rfl,ru⟩:=vals1 r
 obtain rfl:u=Gq l:=ru
 obtain ⟨its,rv,pl,_⟩:=I.list hq
 obtain ⟨ps,e1,e2⟩:=oX rv
 have hl:s.heap.IsList l (intItems ps.toArray):=by
   have:=pl.isList
   rw [e1] at this
   simpa [intItems] using this
 refine sum_intListG (I.ok.hd hc) hl fun h' tk t' k=>⟨.int ns.sum,H,I.kept k,⟨t',?_⟩,q⟩
 have e3:preSum (numAt ps.toArray) ps.toArray.size=ns.sum:=by
   rw [preSum_eq,I9 (by simp),← e2]
 rw [e3]
end
end L2
namespace L3
open PySem PySem.Spec PyProof.Rows L2
section
variable {X:Cx}{a b c e o:Expr}{es:List Expr}{ta tb tc te:TE}{t:TA}{pos:Pos}
theorem BQ {KK:FX}(hc:X.calm=true:=by rfl)(hK:X.K=KK:=by first | exact cxC_K | rfl):SC X (.builtin "sum") (fun xs H Q=>∃(l:Addr) (ns:List Int),xs=[.ref l]/\aw KK H l (ns.map V.int)/\Q (.int ns.sum) H):=by
 subst hK
 exact ⟨p5 hc⟩
end
end L3
set_option Elab.async false
set_option linter.all false
/-! ### what is said for ever: the i-th number of a run -/
namespace TW
end TW
set_option Elab.async false
set_option linter.all false
set_option maxRecDepth 100000
namespace L2
open PySem PySem.Spec PyProof.Rows SeqAt
/-! ### lists of whole numbers,alike or not; tuples of lists and None -/
end L2
namespace L3
open PySem PySem.Spec PyProof.Rows L2
end L3
namespace TW
/-! ### what is alike,by the law's own look -/
end TW
set_option Elab.async false
set_option linter.all false
/-! ### runs walked side by side -/
namespace TW
/-! ### each number said one more -/
end TW
set_option Elab.async false
set_option linter.all false
set_option maxRecDepth 100000
namespace L2
open PySem PySem.Spec PyProof.Rows
end L2
namespace L3
open PySem PySem.Spec PyProof.Rows L2
end L3
set_option Elab.async false
set_option linter.all false
set_option maxRecDepth 100000
namespace L2
open PySem PySem.Spec PyProof.Rows SeqAt
/-! ### two promises of one def; lists of anything told,alike or not -/
section
variable {K:FX}{H:Hp}{α:Type}[DecidableEq α]{At:V->α->Prop}{n:Nat}
theorem jc:∀{vx vy:List V} {xs ys:List α},Paired At vx xs->Paired At vy ys->vx.length=vy.length->(∀u v x y,At u x->At v y->EB K H n u v (decide (x=y))) ->
   ∃e:Nat->Bool,(∀j x y,vx[j]? = some x->vy[j]? = some y->EB K H n x y (e j))/\(HN vx.length).all e=decide (xs=ys)
 | [],[],_,_,.nil,.nil,_,_=>⟨fun _=>true,(fun j x y h=>by cases j <;> cases h),rfl⟩
 | u :: vx,v :: vy,x :: xs,y :: ys,.cons h1 r1,.cons h2 r2,hl,k=>by
   obtain ⟨e,he,ha⟩:=jc r1 r2 (by simpa using hl) k
   refine ⟨fun j=>match j with | 0=>decide (x=y) | j + 1=>e j,fun j a b hx hy=>?_,?_⟩
   · cases j with
     | zero=>
       cases hx
       cases hy
       exact k u v x y h1 h2
     | succ j=>exact he j a b hx hy
   · rw [F5,List.range_succ_eq_map,Jz,List.all_map]
     show (decide (x=y) && (HN vx.length).all e)=_
     rw [ha]
     by_cases c:x=y <;> by_cases d:xs=ys <;> simp [c,d]
theorem RB.told {a b:Addr}{vx vy:List V}{xs ys:List α}(ha:H a=some (.lst vx))(hb:H b=some (.lst vy))(px:Paired At vx xs)(py:Paired At vy ys)(k:∀u v x y,At u x->At v y->EB K H n u v (decide (x=y))):RB K H n (.ref a) (.ref b) (decide (xs=ys)):=by
 have lx:=Paired.length px
 have ly:=Paired.length py
 by_cases hl:vx.length=vy.length
 · obtain ⟨e,h1,h2⟩:=jc px py hl k
   exact ⟨a,b,_,_,rfl,rfl,.inl ⟨e,aw.of ha,aw.of hb,hl,h1,h2.symm⟩⟩
 · exact ⟨a,b,_,_,rfl,rfl,.inr (.inl ⟨aw.of ha,aw.of hb,hl,decide_eq_false fun z=>hl (by rw [lx,ly,z])⟩)⟩
end
theorem ef {α:Type}(c:α->V):∀xs:List α,Paired (fun v x=>v=c x) (xs.map c) xs
 | []=>.nil
 | _ :: r=>.cons rfl (ef c r)
theorem RB.bls {K:FX}{H:Hp}{n:Nat}{a b:Addr}{xs ys:List Bool}(ha:H a=some (.lst (xs.map V.bl)))(hb:H b=some (.lst (ys.map V.bl))):RB K H n (.ref a) (.ref b) (decide (xs=ys)):=
 RB.told ha hb (ef V.bl xs) (ef V.bl ys) fun u v x y h1 h2=>by
   subst h1
   subst h2
   have e:l7 (.bl x) (.bl y)=decide (x=y):=by
     cases x <;> cases y <;> rfl
   rw [← e]
   exact EB.flat rfl rfl
end L2
set_option Elab.async false
set_option linter.all false
set_option maxRecDepth 100000
/-! ### a def that is called within an except suite; try .. except T as e: any rows -/
namespace L2
open PySem PySem.Spec PyProof.Rows
def yL (K:FX)(mg:Str->Option Value)(T:Addr)(n ie:Nat)(tb:XK->TS)(th:TS):TS:=fun D σ H=>tb (fun cls _ H2=>∃C tl x,cls=.ref C/\Xc K mg x C tl/\(Gq C :: tl).contains (.ref T)=true/\∀ea,H2 ea=none->th { nx:=fun σ8 H8=>D.nx (σ8.set ie none) H8,rt:=fun _ _=>False } ((Jt n none).set ie (some (.ref ea))) (upd H2 ea (yf ea C))) D σ H
theorem xC {X:Cx}{tn en:Str}{T:Addr}{ie:Nat}{body hrest:List Stmt}{hst0:Stmt}{tb:XK->TS}{th:TS}{np hp pos:Pos}(hst:X.stack=X.env :: X.outer)(hex:X.ex=[])(hfr:X.env.frame=some X.env.locals)(hN:X.N.Nodup)(hie:X.N[ie]? = some en)
   (hle:X.env.scope.names.lookup en=some .local) (cT:Xc X.K X.mg tn T vE) (hg:Gl X tn)
   (hb:∀(W:Value->Shared->Prop) (pn:List (Addr×Obj)) (Ex:XK),Passes (cE X.prog X.w X.base) { X with xe:=W,pn:=pn } Ex->jI { X with xe:=W,pn:=pn } body (tb Ex))
   (hh:∀ea:Addr,jI { X with A:=X.A.mark (some (.ref ea)),calm:=false,xe:=fun _ _=>False } (hst0 :: hrest) th) (hdt:(tn == ("__debug__":Str))=false) :
   PS X (.Try body [.ExceptHandler (some (.Name tn np)) (some en) (hst0 :: hrest) hp] [] [] pos) (yL X.K X.mg T X.N.length ie tb th):=by
 intro pins s σ H D I h
 let Hd:List ExceptHandler:=[.ExceptHandler (some (.Name tn np)) (some en) (hst0 :: hrest) hp]
 let W:Value->Shared->Prop:=fun e s1=>wpAny (model X.prog X.w) X.A (noteFrame e X.env) (fun _ s2=>wpAny (model X.prog X.w) X.A (setFlight e none) (fun _ s3=>wpAny (model X.prog X.w) X.A (handleBy e X.env Hd) (SP X pins D) X.xe s3) X.xe s2) X.xe s1
 have sub1:∀p∈(X.pn++pins)++[],p∈X.pn++pins:=fun p hp=>by rw [GH] at hp; exact hp
 have back:∀{σ1:St} {H1:Hp} {s1:Shared} {pins1:List (Addr×Obj)},Inv { X with xe:=W,pn:=X.pn++pins } pins1 σ1 H1 s1->Inv X pins σ1 H1 s1:=fun J=>J.back fun p hp=>GY _ hp
 refine wpAny_Try_except ?_
 refine wpAny_mono (hb W (X.pn++pins) _ ?_ [] s σ H D (I.other sub1) h) (fun f s1 hs=>?_) (fun e s1 he=>he)
 · -- an exception of a callee
   intro pins1 σ1 H1 s1 e s2 J cx
   obtain ⟨ea,cls,a0,B,H2,rfl,os2,bare2,un2,hok2,stB,fly,inB,lN,nea,C,tl,x,rfl,xc,hup,q⟩:=cx
   have J0:=back J
   have hst':({ X with xe:=W,pn:=X.pn++pins }:Cx).stack=X.env :: X.outer:=hst
   rw [hst'] at un2 fly inB
   have fr2:=fly.2.2.1
   have at_:∀h3:Heap,B.StaysIn h3->s2.heap.UpToSlots h3->Inv X pins σ1 H2 { s2 with heap:=h3 }:=fun h3 s3 up=>by
     refine J0.call' (s':={ s2 with heap:=h3 }) (ch:=[]) os2 ?_ (du hok2 lN fly.1 s3) bare2 (fun b z=>nomatch z)
     rw [hst]
     exact vp un2 fly.1 s3 inB (uY fr2 up)
   have n2:H2 ea=none:=by
     cases z:H2 ea with
     | none=>rfl
     | some u=>
       obtain ⟨o,ho⟩:=lN ea u z
       rw [fly.2.1] at ho
       cases ho
   show wpAny (model X.prog X.w) X.A (noteFrame (.ref ea) X.env) _ _ _
   have frm:X.A.frames=some (X.env :: X.outer):=by rw [← hst]; exact I.ok.frames
   refine wpAny_looks_onW frm hfr fly fun h4 held4 up4=>?_
   refine wpAny_landsW held4 fun h5 fly5 up5=>?_
   have up25:=up4.trans up5
   have I5:=at_ h5 fly5.1 up25
   refine wpAny_handleBy_cons (codeAny_handlers_test (fO (I5.mark (e:=some (.ref ea))) hg cT.m ?_ hdt)) (by intro z; cases z)
   obtain ⟨N1,a1,a2,a3,a4,a5,a6,a7,a8,a9,b0,b1,b2,b3,b5,m1,hC,_,_,_⟩:=xc.obj I5.kIn
   obtain ⟨N2,c1,c2,c3,c4,c5,c6,c7,c8,c9,d0,d1,d2,d3,d5,m2,hT,_,_,_⟩:=cT.obj I5.kIn
   obtain ⟨ob,hob,hobc⟩:=fly5.there
   refine nX hC hT hob hobc hup rfl (codeAny_handlers_suite_as ?_)
   refine lands_againW fly5 fun h6 fly6 up6=>?_
   have I6:=at_ h6 fly6.1 (up25.trans up6)
   have ex6:gU ea C h6:=fly6.there
   have ne_of1:∀b o,s1.heap.get? b=some o->b≠ea:=fun b o hb z=>by rw [z,nea] at hb; cases hb
   have I6t:=I6.track n2 ex6 (by
     cases z:X.s₀.heap.get? ea with
     | none=>rfl
     | some o=>
       by_cases hx:ea∈X.ex
       · rw [hex] at hx
         exact nomatch hx
       · obtain ⟨o',e1⟩:=J0.base.there ea o z hx
         rw [nea] at e1
         cases e1) (by
     obtain ⟨m,⟨o,_,_,ho,_⟩,_⟩:=J0.loc
     exact (ne_of1 _ o ho).symm) (fun y c e=>by
     obtain ⟨v,o,ho,_⟩:=J0.cell y c e
     exact ne_of1 c o ho) (fun p hp=>ne_of1 p.1 p.2 (J0.pin p hp).1)
   refine jk I6t hN hie (.inl hle) (v:=.ref ea) rfl (fun s7 I7=>?_) (.inr hle)
   have hlenσ:σ1.length=X.N.length:=J0.len
   have hieL:ie < σ1.length:=by rw [hlenσ]; exact (List.getElem?_eq_some_iff.mp hie).1
   have I7w:=I7.weak (σ':=(Jt X.N.length none).set ie (some (.ref ea))) (by rw [Hg,Hg,Je,hlenσ]) (fun i v e=>by
     by_cases hi:i=ie
     · subst hi
       rw [HA (by rw [Je,← hlenσ]; exact hieL)] at e
       rw [HA hieL]
       exact e
     · rw [Iz (Ne.symm hi),Kh] at e
       split at e <;> cases e)
   refine wpAny_mono (hh ea pins s7 _ _ _ (I7w.mark (e:=some (.ref ea))) (q ea n2)) (fun f s8 hs=>?_) (fun _ _ z=>z.elim)
   cases f with
   | next=>
     obtain ⟨σ8,H8,I8,z8⟩:=hs
     have I8x:=I6.unmark I8
     obtain ⟨m8,hn8,hl8⟩:=id I8x.loc
     refine wpAny_nameGoes_keeps (by exact hle) hn8 (by rw [I.ok.kind]; rfl) fun h9 v9 hn9 hs9=>?_
     refine ⟨_,_,I8x.forget (σ':=σ8.set ie none) hl8 hn9 hs9 (by rw [Hg]) (fun i v e=>?_),z8⟩
     have l8:σ8.length=X.N.length:=I8x.len
     by_cases hi:i=ie
     · subst hi
       rw [HA (by rw [l8,← hlenσ]; exact hieL)] at e
       cases e
     · rw [Iz (Ne.symm hi)] at e
       refine ⟨e,fun z=>hi ?_⟩
       obtain ⟨h1,e1⟩:=List.getElem?_eq_some_iff.mp z
       obtain ⟨h2,e2⟩:=List.getElem?_eq_some_iff.mp hie
       rcases Nat.lt_trichotomy i ie with c | c | c
       · exact absurd (e1.trans e2.symm) (List.pairwise_iff_getElem.mp hN i ie h1 h2 c)
       · exact c
       · exact absurd (e2.trans e1.symm) (List.pairwise_iff_getElem.mp hN ie i h2 h1 c)
   | brk=>obtain ⟨_,_,_,z⟩:=hs; exact z.elim
   | cont=>obtain ⟨_,_,_,z⟩:=hs; exact z.elim
   | ret u=>obtain ⟨_,_,_,_,_,z⟩:=hs; exact z.elim
 · cases f with
   | next=>
     obtain ⟨σ',H',J,z⟩:=hs
     exact wpAny_execs_nil ⟨σ',H',back J,z⟩
   | brk=>obtain ⟨σ',H',J,z⟩:=hs; exact ⟨σ',H',back J,z⟩
   | cont=>obtain ⟨σ',H',J,z⟩:=hs; exact ⟨σ',H',back J,z⟩
   | ret u=>obtain ⟨v,σ',H',J,r,z⟩:=hs; exact ⟨v,σ',H',back J,r,z⟩
end L2
namespace TW
open PySem L2
end TW
namespace L3
open PySem L2
section
variable {X:Cx}{e:Expr}{es:List Expr}{t:TA}{pos:Pos}
theorem Es {tn en:Str}{T:Addr}(ie:Nat){body hrest:List Stmt}{hst0:Stmt}{tbb:XK->TS}{th:TS}{np hp:Pos}{KK:FX}{mg:Str->Option Value}{NN:Nat}(hN:X.N.Nodup)(cT:Xc X.K X.mg tn T vE)(hg:Gl X tn)
   (hb:∀(W:Value->Shared->Prop) (pn:List (Addr×Obj)) (Ex:XK),Passes (cE X.prog X.w X.base) { X with xe:=W,pn:=pn } Ex->SL { X with xe:=W,pn:=pn } body (tbb Ex))
   (hh:∀ea:Addr,SL { X with A:=X.A.mark (some (.ref ea)),calm:=false,xe:=fun _ _=>False } (hst0 :: hrest) th)
   (hie:X.N[ie]? = some en:=by rfl) (hle:X.env.scope.names.lookup en=some .local:=by rfl)
   (hst:X.stack=X.env :: X.outer:=by rfl) (hex:X.ex=[]:=by rfl) (hfr:X.env.frame=some X.env.locals:=by rfl) (hK:X.K=KK:=by rfl) (hm:X.mg=mg:=by rfl) (hNN:X.N.length=NN:=by rfl)
   (hdt:(tn == ("__debug__":Str))=false:=by decide) :
   SS X (.Try body [.ExceptHandler (some (.Name tn np)) (some en) (hst0 :: hrest) hp] [] [] pos) (yL KK mg T NN ie tbb th):=by
 subst hK hm hNN
 exact ⟨xC hst hex hfr hN hie hle cT hg (fun W pn Ex hpp=>(hb W pn Ex hpp).h) (fun ea=>(hh ea).h) hdt⟩
end
end L3
set_option Elab.async false
set_option linter.all false
set_option maxRecDepth 100000
namespace L2
open PySem PySem.Spec PyProof.Rows SeqAt
end L2
namespace L3
open PySem PySem.Spec PyProof.Rows L2
end L3
set_option Elab.async false
set_option linter.all false
set_option maxRecDepth 100000
/-! zip of three lists of one length,walked by a tuple of names -/
namespace PySem
open Sem (wp)
end PySem
set_option Elab.async false
set_option linter.all false
set_option maxRecDepth 100000
namespace PySem
end PySem
namespace L2
open PySem PySem.Spec PyProof.Rows
end L2
namespace L3
open PySem PySem.Spec PyProof.Rows L2
end L3
set_option Elab.async false
set_option linter.all false
set_option maxRecDepth 100000
namespace L2
open PySem PySem.Spec PyProof.Rows
/-! enumerate of a list,walked by a tuple of names -/
def Dy (K:FX)(a:Addr):It:=
 ⟨fun i H=>∃xs x,aw K H a xs/\xs[i]? = some x,
  fun i H v H'=>∃p x,H p=none/\v=.ref p/\H'=upd H p (.tup [.int (i:Nat),x])/\∀xs,aw K H a xs->xs[i]? = some x,
  fun i H=>∃xs,aw K H a xs/\xs.length<=i⟩
theorem rK {P:Program}{w:World}{K:FX}{elts:List Expr}{x1:Nat}{tp:Pos}{a n:Addr} :
   Turn P w K (.Tuple elts x1 tp) (Dy K a) [n + 1,n] (n + 1) (fun i h=>(∃old,IsEnum h (n + 1) n (i:Nat) old)/\h.IsListIter n a i) where
 mem:=by simp
 obj:=fun i h st d hd=>by
   obtain ⟨⟨old,he⟩,⟨o1,e1,c1,d1⟩⟩:=st
   simp only [GG,Gv,or_false] at hd
   rcases hd with rfl | rfl
   · exact ⟨_,he,fun v q=>nomatch q⟩
   · exact ⟨_,e1,fun v q=>by rw [d1] at q; cases q⟩
 keep:=fun i h h' st k=>by
   obtain ⟨⟨old,he⟩,h1⟩:=st
   exact ⟨⟨old,k _ (by simp) _ he⟩,h1.at fun o e=>k _ (by simp) o e⟩
 item:=by
   intro X hP hw hK hc i pins s σ H E I hf st hg
   subst hP hw hK
   obtain ⟨xs,x,hq1,hx⟩:=hg
   obtain ⟨its1,rv1,p1,_⟩:=I.list hq1
   obtain ⟨ux,gx,rx⟩:=rv1.get hx
   obtain ⟨⟨old,he⟩,h1⟩:=st
   have ne:(n + 1:Addr)≠n:=Nat.succ_ne_self n
   refine wpAny_pyNext_enum_item he h1 p1.isList (x:=ux) (by simpa using gx) ne fun g a1 a2 a3 a4 hk=>?_
   refine ⟨_,rfl,wpAny_letOwnedTupleGo_enum (s:={ s with heap:=g,toks:=s.toks + 1 }) a1 fun g2 he2 e2=>?_⟩
   have n0:H s.heap.objs.size=none:=I.hok.fresh (F8 _)
   have lte:n + 1 < s.heap.objs.size:=Ga he
   have e2':Hl (n + 1) g g2:=e2
   have kk:∀d o,d ∉ ([n + 1,n]:List Addr)->s.heap.get? d=some o->g2.get? d=some o:=fun d o hd e=>by
     simp only [GG,Gv,or_false,not_or] at hd
     exact e2'.extBut _ _ hd.1 (hk d o hd.1 hd.2 e)
   have t2:IsPair g2 s.heap.objs.size (.int i s.toks) ux:=e2'.extBut _ _ (Jn lte) a3
   have I1:Inv X pins σ (upd H s.heap.objs.size (.tup [.int (i:Nat),x])) { s with heap:=g2,toks:=s.toks + 1 }:=I.many (ch:=[n + 1,n]) hf kk (F8 _)
     ⟨by show 2<=sizeLine; decide,[.int i s.toks,ux],.cons ⟨_,rfl⟩ (.cons rx .nil),_,t2,rfl,_,rfl⟩
   refine ⟨.ref s.heap.objs.size,_,I1,rfl,⟨_,x,n0,rfl,rfl,fun xs' q1=>?_⟩,⟨⟨_,by simpa using he2⟩,a2.at fun o e=>e2'.extBut _ _ ne.symm e⟩,fun d hd=>?_⟩
   · rw [I.list_inj q1 hq1]; exact hx
   · have lt:d < s.heap.objs.size:=by
       simp only [GG,Gv,or_false] at hd
       rcases hd with rfl | rfl
       · exact lte
       · exact Nat.lt_of_succ_lt lte
     rw [ai (Gw lt)]
     exact (hf d hd).1
 done:=by
   intro X hP hw hK hc i pins s σ H E I hf st hg
   subst hP hw hK
   obtain ⟨xs,hq1,hend⟩:=hg
   obtain ⟨its1,rv1,p1,_⟩:=I.list hq1
   have l1:=rv1.length
   obtain ⟨⟨old,he⟩,h1⟩:=st
   refine wpAny_pyNext_enum_end (I.ok.hd hc) he h1 p1.isList (by simp; omega) fun g hk=>⟨rfl,?_⟩
   exact I.many0 (t':=s.toks) (ch:=[n]) (fun d hd=>hf d (by rw [List.mem_singleton.mp hd]; simp)) fun d o hd e=>hk d o (fun z=>hd (by rw [z]; simp)) e
 self:=fun _ _ _ _ _ st h=>by
   obtain ⟨⟨old,he⟩,_⟩:=st
   exact wpAny_pyIter_enum he h
def B0 (K:FX)(ta:TA):TI:=fun σ H R=>ta σ H fun vs H1=>∃a,vs=[.ref a]/\(∃xs,aw K H1 a xs)/\R (Dy K a) H1
theorem xv {X:Cx}{a:Expr}{ta:TA}{p pos tp:Pos}{elts:List Expr}{x1:Nat}(hg:Gl X "enumerate")(hm:X.mg "enumerate"=none)(ha:pV X [a] ta)(hv:bootBuiltins "enumerate"=some (.type "enumerate"):=by first | rfl | decide +kernel) :
   PI X (.Tuple elts x1 tp) (.Call (.Name "enumerate" p) [a] [] pos) (B0 X.K ta):=by
 intro pins s σ H R I h
 refine wpAny_Call_Name_kw (gC I hg hm hv ?_ (by decide) (by decide))
 refine HM (aV (ha.pa pos pins s σ H _ I h) fun us s1 ⟨vs,H1,I1,r1,q1⟩=>?_) ((ha.ns a [] rfl).1.h [] X.env) ((ha.ns a [] rfl).2 pos X.env)
 obtain ⟨l1,e,⟨xs,hq1⟩,q⟩:=q1
 subst e
 cases r1 with
 | cons r1 r2=>
 cases r2
 cases r1
 obtain ⟨its1,rv1,p1,_⟩:=I1.list hq1
 refine call_enumerate_list p1.isList fun g he hi _ hk=>?_
 refine wpAny_pyIter_enum he ?_
 have I2:Inv X pins σ H1 { s1 with heap:=g }:=I1.kept (t':=s1.toks) hk
 refine ⟨_,_,_,_,H1,rfl,I2,rK,⟨⟨_,he⟩,hi⟩,fun c hc=>?_,q⟩
 simp only [GG,Gv,or_false] at hc
 have up:∀k,cU X pins H1 (s1.heap.objs.size + k):=fun k=>I1.fpOk (IZ _ _) (I1.hok.fresh (IZ _ _))
 rcases hc with rfl | rfl
 · exact up 1
 · exact up 0
section
variable {K:FX}{a:Addr}{xs:List V}{g:TG}
theorem p8 {tifs:TT}{tm:TM}{σ0:St}{Z:Hp->Prop}{H:Hp}(Pv:Nat->Hp->Prop)(h0:Pv 0 H)(hl:∀i H,i<=xs.length->Pv i H->aw K H a xs)
   (turn:∀i x p H,xs[i]? = some x->Pv i H->H p=none->g (.ref p) σ0 (upd H p (.tup [.int (i:Nat),x])) fun σ2 H2=>tifs σ2 H2 fun b H3=>
     if b=true then tm σ2 H3 fun H4=>aT σ0 σ2/\∃m',m' < xs.length - i/\(m'=xs.length - (i + 1)/\i + 1<=xs.length/\Pv (i + 1) H4) else aT σ0 σ2/\∃m',m' < xs.length - i/\(m'=xs.length - (i + 1)/\i + 1<=xs.length/\Pv (i + 1) H3))
   (hZ:∀H,Pv xs.length H->Z H):jm (Dy K a) σ0 g tifs tm Z H:=by
 refine ig xs.length Pv h0 (fun i H hi p=>⟨xs,xs[i],hl i H (Hn hi) p,by simp [hi]⟩) (fun H p=>⟨xs,hl _ H (F8 _) p,F8 _⟩) (fun i H hi p x H' y=>?_) hZ
 obtain ⟨pp,x1,hn,rfl,rfl,k⟩:=y
 exact turn i x1 pp H (k xs (hl i H (Hn hi) p)) p hn
end
end L2
namespace L3
open PySem PySem.Spec PyProof.Rows L2
theorem iE {X:Cx}{a:Expr}{t:TA}{KK:FX}{p pos tp:Pos}{elts:List Expr}{x1:Nat}(hg:Gl X "enumerate")(hm:X.mg "enumerate"=none)(ha:SA X [a] t)(hK:X.K=KK:=by first | exact cxC_K | rfl) :
   SI X (.Tuple elts x1 tp) (.Call (.Name "enumerate" p) [a] [] pos) (B0 KK t):=by
 subst hK
 exact ⟨xv hg hm ha.h⟩
/-! attributes,instances,methods -/
section
variable {X:Cx}{a o e:Expr}{es:List Expr}{ta tv:TE}{t:TA}{pos pos' apos:Pos}{f m:Str}
theorem fld {KK:FX}(ha:SE X a ta)(hb:attributeBase a f X.env (eval a X.env)=eval a X.env:=by rfl)(hK:X.K=KK:=by first | exact cxC_K | rfl):SE X (.Attribute a f pos) (C2 KK ta f):=by
 subst hK
 exact ⟨Ak ha.h hb⟩
theorem CU {KK:FX}(ha:SE X a ta)(hv:SE X e tv)(hs:swapsWith e (some (.Attribute a f pos')) pos.line X.env=pure false:=by rfl)(hK:X.K=KK:=by first | exact cxC_K | rfl):SS X (.Assign [.Attribute a f pos'] e pos) (CS KK ta tv f):=by
 subst hK
 exact ⟨AD ha.h hv.h hs⟩
end
end L3
set_option Elab.async false
set_option linter.all false
set_option maxRecDepth 100000
namespace TW
open PySem L2
/-- a method of the class at C; an own class that is made by its name -/
def bL (P:Program)(w:World)(K:FX)(mg:Str->Option Value)(base:Heap)(C:Addr)(m:Str)(ps:List Str)(k:Nat)(sp:Sp):Prop:=
 ∃f fd,aN P w K mg base CX0 k f fd ps sp/\Binds K fd ps []/\Meth K C m f
def lO (P:Program)(w:World)(K:FX)(mg:Str->Option Value)(base:Heap)(x:Str)(C:Addr)(ps:List Str)(k:Nat)(sp:Sp):Prop:=
 ∃f fd,aN P w K mg base CX0 k f fd ps sp/\Binds K fd ps []/\Mk K C f/\mg x=some (.ref C)
end TW
namespace L2
open PySem PySem.Spec PyProof.Rows
end L2
namespace L3
open PySem PySem.Spec PyProof.Rows L2
section
variable {X:Cx}{a o e:Expr}{es:List Expr}{ta tv:TE}{t:TA}{p pos pos' apos:Pos}{x m:Str}{C:Addr}{ps:List Str}{kk:Nat}{sp:Sp}
theorem make (D:TW.lO X.prog X.w X.K X.mg X.base x C ps kk sp)(hr:bw (kk + 1) X.A)(hg:Gl X x)(ha:SA X (e :: es) t)(hdb:(x == ("__debug__":Str))=false:=by decide):SE X (.Call (.Name x p) (e :: es) [] pos) (yG C sp [] E0 t):=
 let ⟨_,_,G,b,M,m⟩:=D
 ⟨xr M G hr hg m b .nil pz ha.h.pa hdb ((ha.h.ns e es rfl).1.h es X.env) ((ha.h.ns e es rfl).2 pos X.env)⟩
theorem dB {pl:Sem Bool}(ho:SE X o ta)(c:mX X.K C)(D:TW.bL X.prog X.w X.K X.mg X.base C m ps kk sp)(hr:bw kk X.A)(ha:SA X (e :: es) t)
   (ht:eval (.Call (.Attribute o m apos) (e :: es) [] pos) X.env=(do
     let ov ← eval o X.env
     standAt apos.atName
     let (f,first) ← holding [ov] (getMethod ov m pl)
     callWith pos f first (backTo pos (starEach (e :: es) X.env)) (backToKw pos (keywordEach [] X.env))):=by rfl):SE X (.Call (.Attribute o m apos) (e :: es) [] pos) (ky C m sp [] E0 ta t):=
 let ⟨_,_,G,b,hm⟩:=D
 ⟨pD ho.h c hm G hr b .nil pz ha.h.pa ((ha.h.ns e es rfl).1.h es X.env) ((ha.h.ns e es rfl).2 pos X.env) ht⟩
end
end L3
set_option Elab.async false
set_option linter.all false
set_option maxRecDepth 100000
namespace L3
open PySem PySem.Spec PyProof.Rows L2
end L3
set_option Elab.async false
set_option linter.all false
set_option maxRecDepth 100000
/-! ### d.setdefault(k,v),a dict of tuples -/
namespace L2
open PySem PySem.Spec PyProof.Rows
end L2
namespace L3
open PySem PySem.Spec PyProof.Rows L2
end L3
namespace L2
open PySem PySem.Spec PyProof.Rows
end L2
namespace L3
open PySem PySem.Spec PyProof.Rows L2
theorem d8 {X:Cx}{o:Expr}{ta:TE}{pos apos:Pos}{m:Str}{C:Addr}{ps:List Str}{kk:Nat}{sp:Sp}{pl:Sem Bool}(ho:SE X o ta)(c:mX X.K C)(D:TW.bL X.prog X.w X.K X.mg X.base C m ps kk sp)(hr:bw kk X.A)
   (ht:eval (.Call (.Attribute o m apos) [] [] pos) X.env=(do
     let ov ← eval o X.env
     standAt apos.atName
     let (f,first) ← holding [ov] (getMethod ov m pl)
     callWith pos f first (backTo pos (starEach [] X.env)) (backToKw pos (keywordEach [] X.env))):=by rfl):SE X (.Call (.Attribute o m apos) [] [] pos) (ky C m sp [] E0 ta rG):=
 let ⟨_,_,G,b,hm⟩:=D
 ⟨mM ho.h c hm G hr b .nil pz ht⟩
end L3
set_option Elab.async false
set_option linter.all false
set_option maxRecDepth 100000
namespace L3
open PySem PySem.Spec PyProof.Rows L2
/-- the pairs of a dict's display -/
structure SP (X:Cx)(pos:Pos)(keys:List (Option Expr))(values:List Expr)(trs:List (TE×TE)):Prop where
 h:Bu X pos keys values trs
section
variable {X:Cx}{pos:Pos}{k v:Expr}{ks:List (Option Expr)}{vs:List Expr}{tk tv:TE}{trs:List (TE×TE)}
theorem D3:SP X pos [] [] []:=⟨xy⟩
theorem oQ (hk:SE X k tk)(hv:SE X v tv)(hr:SP X pos ks vs trs):SP X pos (some k :: ks) (v :: vs) ((tk,tv) :: trs):=⟨uD hk.h hv.h hr.h⟩
theorem za (h:SP X pos (some k :: ks) vs trs)(hall:(some k :: ks).all (·.isSome)=true:=by rfl)(hl:(some k :: ks).length=vs.length:=by rfl)(h15:(some k :: ks).length<=15:=by decide):SE X (.Dict (some k :: ks) vs pos) (yE trs):=⟨xo h.h hall hl (fun z=>nomatch z) h15⟩
end
end L3
set_option Elab.async false
set_option linter.all false
set_option maxRecDepth 100000
namespace L2
open PySem PySem.Spec PyProof.Rows
section
variable {X:Cx}
/-! ### texts: a slice,find -/
def xK:V->Option Int->Option Int->Hp->VK->Prop:=fun x lo hi H Q=>∃z,x=.str z/\z.length<=sizeLine/\Q (.str (GJ z lo hi)) H
theorem ot:DE X xK:=by
 intro pins s σ H x v vl vu lo hi sl Q I rx hs pl pu h
 obtain ⟨z,rfl,hz,q⟩:=h
 obtain ⟨t,rfl⟩:=rx
 refine ⟨"str",_,F.slot_str_getitem.lookup,typeIs_str _ _ _,?_⟩
 cases pl with
 | none=>
   cases pu with
   | none=>exact wpAny_getItem_str_slice (l:=none) (u:=none) (st:=none) hs rfl (post_val_or_str ⟨F2 (JH z _ _) hz,fun t' k=>⟨.str _,H,I.tok _,⟨_,rfl⟩,q⟩⟩)
   | int j u=>exact wpAny_getItem_str_slice (l:=none) (u:=some (j,u)) (st:=none) hs rfl (post_val_or_str ⟨F2 (JH z _ _) hz,fun t' k=>⟨.str _,H,I.tok _,⟨_,rfl⟩,q⟩⟩)
 | int i t'=>
   cases pu with
   | none=>exact wpAny_getItem_str_slice (l:=some (i,t')) (u:=none) (st:=none) hs rfl (post_val_or_str ⟨F2 (JH z _ _) hz,fun t' k=>⟨.str _,H,I.tok _,⟨_,rfl⟩,q⟩⟩)
   | int j u=>exact wpAny_getItem_str_slice (l:=some (i,t')) (u:=some (j,u)) (st:=none) hs rfl (post_val_or_str ⟨F2 (JH z _ _) hz,fun t' k=>⟨.str _,H,I.tok _,⟨_,rfl⟩,q⟩⟩)
end
end L2
namespace L3
open PySem PySem.Spec PyProof.Rows L2
section
variable {X:Cx}{a b c e o:Expr}{es:List Expr}{ta tb tc te:TE}{t:TA}{pos:Pos}
theorem Ef:SX X CK:=⟨zw⟩
theorem CW {p2:Pos}(ha:SE X a ta)(hb:SE X b tb):SE X (.Subscript a (.Slice none (some b) none p2) pos) (A4 xK ta fY (fZ tb)):=⟨dj ot ha.h iq (cP hb.h)⟩
end
end L3
set_option Elab.async false
set_option linter.all false
set_option maxRecDepth 100000
/-! zip of two,each a list or a tuple,walked by a tuple of names -/
namespace PySem
open Sem (wp)
open PyProof.Rows (IsTup IsTupIter)
def eZ (tp:Bool)(h:Heap)(it a:Addr)(i:Nat):Prop:=if tp then IsTupIter h it a i else h.IsListIter it a i
def cZ (tp:Bool)(h:Heap)(a:Addr)(xs:Array Value):Prop:=if tp then IsTup h a xs else h.IsList a xs
def zv (tp:Bool):String:=if tp then "tuple_iterator" else "list_iterator"
abbrev itObj (tp:Bool)(a:Addr):Obj:={ cls:=.type (zv tp),data:=.fields #[.ref a,.int 0 0] }
section
variable {tp:Bool}{h h':Heap}{it a:Addr}{i:Nat}{xs:Array Value}
theorem eZ.stay (x:eZ tp h it a i)(e:∀o,h.get? it=some o->h'.get? it=some o):eZ tp h' it a i:=by
 cases tp
 · exact Heap.IsListIter.at (show h.IsListIter it a i from x) e
 · obtain ⟨o,ho,r⟩:=(show IsTupIter h it a i from x)
   exact (⟨o,e _ ho,r⟩ : IsTupIter h' it a i)
theorem eZ.obj (x:eZ tp h it a i):∃o,h.get? it=some o/\∀v,o.data≠.cell v:=by
 cases tp
 · obtain ⟨o,ho,_,d⟩:=(show h.IsListIter it a i from x)
   exact ⟨o,ho,fun v q=>by rw [d] at q; cases q⟩
 · obtain ⟨o,ho,_,d⟩:=(show IsTupIter h it a i from x)
   exact ⟨o,ho,fun v q=>by rw [d] at q; cases q⟩
theorem cZ.stay (x:cZ tp h a xs)(e:∀o,h.get? a=some o->h'.get? a=some o):cZ tp h' a xs:=by
 cases tp
 · exact Heap.IsList.at (show h.IsList a xs from x) e
 · obtain ⟨o,ho,r⟩:=(show IsTup h a xs from x)
   exact (⟨o,e _ ho,r⟩ : IsTup h' a xs)
theorem cZ.lt (x:cZ tp h a xs):a < h.objs.size:=by
 cases tp
 · obtain ⟨o,ho,_⟩:=(show h.IsList a xs from x)
   exact Ga ho
 · exact IsTup.lt (show IsTup h a xs from x)
end
section
variable {prog:Program}{w:World}{A:Around}{E:Value->Shared->Prop}{s:Shared}{tp t1 t2:Bool}{it a:Addr}{i:Nat}{xs ys:Array Value}{x y:Value}
theorem n5 {Q:Value->Shared->Prop}(hit:IsTupIter s.heap it a i)(hl:IsTup s.heap a xs)(hx:xs[i]? = some x)(hQ:∀g,IsTupIter g it a (i + 1)->Hl it s.heap g->Q x { s with heap:=g }) :
   wpAny (model prog w) A (Gu (.ref it)) Q E s:=by
 obtain ⟨o,ho,hc,hd⟩:=id hit
 obtain ⟨o2,ho2,_,n2,hd2⟩:=hl
 unfold Gu
 refine wpAny_bind (Ir (name:=F1 "__next__") hit.typeIs Ht (wpAny_call_entry Ht hit.typeIs IY ?_ (Jb _)))
 show wpAny _ _ (field (.ref it) 0 >>= _) _ _ _
 refine wpAny_bind (wpAny_field ho hd (x:=.ref a) rfl ?_)
 show wpAny _ _ (if (Gq a == Hj)=true then _ else _) _ _ s
 rw [if_neg (show ¬ ((Gq a == Hj)=true) from Gf)]
 show wpAny _ _ (field (.ref it) 1 >>= _) _ _ _
 refine wpAny_bind (wpAny_field ho hd (x:=.int i 0) rfl ?_)
 show wpAny _ _ (seqItems? (.ref a) >>= _) _ _ _
 refine wpAny_bind (wpAny_seqItems ho2 hd2 ?_)
 simp only [JF,hx]
 refine wpAny_bind (wpAny_setField ho hd (by simp) (wpAny_pure ⟨x,rfl,wpAny_pure (hQ _ ?_ (JQ ..))⟩))
 exact ⟨_,Jg _ ho (Kt (IE hd _)),(Obj.cls_mapFields ..).trans hc,by rw [IE hd]; simp [rawInt]⟩
theorem qM {Q:Value->Shared->Prop}(hh:A.handled=none)(hit:IsTupIter s.heap it a i)(hl:IsTup s.heap a xs)(hx:xs[i]? = none)
   (hE:∀g e,Heap.ExtBut it s.heap g->(∃o,g.get? e=some o/\o.cls=.type "StopIteration")->E (.ref e) { s with heap:=g }):wpAny (model prog w) A (Gu (.ref it)) Q E s:=by
 obtain ⟨o,ho,hc,hd⟩:=id hit
 obtain ⟨o2,ho2,_,n2,hd2⟩:=hl
 unfold Gu
 refine wpAny_bind (Ir (name:=F1 "__next__") hit.typeIs Ht (wpAny_call_entry Ht hit.typeIs IY ?_ (Jb _)))
 show wpAny _ _ (field (.ref it) 0 >>= _) _ _ _
 refine wpAny_bind (wpAny_field ho hd (x:=.ref a) rfl ?_)
 show wpAny _ _ (if (Gq a == Hj)=true then _ else _) _ _ s
 rw [if_neg (show ¬ ((Gq a == Hj)=true) from Gf)]
 show wpAny _ _ (field (.ref it) 1 >>= _) _ _ _
 refine wpAny_bind (wpAny_field ho hd (x:=.int i 0) rfl ?_)
 show wpAny _ _ (seqItems? (.ref a) >>= _) _ _ _
 refine wpAny_bind (wpAny_seqItems ho2 hd2 ?_)
 simp only [JF,hx]
 refine wpAny_bind (wpAny_rule (wpAny_bind (wpAny_setField ho hd (by simp) ?_)))
 show wpAny _ _ (newExc (.type "StopIteration") [] >>= _) _ _ _
 refine wpAny_bind ?_
 simp only [newExc,newTuple]
 refine wpAny_bind (wpAny_newObj_type ?_ (by size_fits))
 refine wpAny_bind (m:=firstArgMember _ _) (wpAny_of_eq (a:=Hj) (by first | rfl | (simp only [firstArgMember]; rfl)) ?_)
 refine wpAny_newObj_type ?_ (by size_fits)
 simp only [raiseNew]
 refine wpAny_bind (wpAny_handled ?_)
 first | rw [show A.in1.handled=none from hh] | rw [hh]
 refine wpAny_bind (wpAny_pure (wpAny_throw ?_))
 exact hE _ _ (((JQ ..).extBut.push _).push _) ⟨_,Gn _ rfl,rfl⟩
theorem fh {Q:Value->Shared->Prop}(hit:eZ tp s.heap it a i)(hl:cZ tp s.heap a xs)(hx:xs[i]? = some x)(hQ:∀g,eZ tp g it a (i + 1)->Hl it s.heap g->Q x { s with heap:=g }) :
   wpAny (model prog w) A (Gu (.ref it)) Q E s:=by
 cases tp
 · exact wpAny_nextOf_list_item (show s.heap.IsListIter it a i from hit) (show s.heap.IsList a xs from hl) hx hQ
 · exact n5 (show IsTupIter s.heap it a i from hit) (show IsTup s.heap a xs from hl) hx hQ
theorem ke {Q:Value->Shared->Prop}(hh:A.handled=none)(hit:eZ tp s.heap it a i)(hl:cZ tp s.heap a xs)(hx:xs[i]? = none)
   (hE:∀g e,Heap.ExtBut it s.heap g->(∃o,g.get? e=some o/\o.cls=.type "StopIteration")->E (.ref e) { s with heap:=g }):wpAny (model prog w) A (Gu (.ref it)) Q E s:=by
 cases tp
 · exact wpAny_nextOf_list_end hh (show s.heap.IsListIter it a i from hit) (show s.heap.IsList a xs from hl) hx hE
 · exact qM hh (show IsTupIter s.heap it a i from hit) (show IsTup s.heap a xs from hl) hx hE
/-- a zip of two that was made when the heap had n objects,i items drawn -/
structure Z2 (t1 t2:Bool)(h:Heap)(n l1 l2:Addr)(i:Nat):Prop where
 z:IsZip h (n + 4) (n + 2) (n + 3) .none
 ti:IsPair h (n + 2) (.ref n) (.ref (n + 1))
 to:∃a b,IsPair h (n + 3) a b
 i1:eZ t1 h n l1 i
 i2:eZ t2 h (n + 1) l2 i
theorem rO {n l1 l2:Nat}{Q:Value->Shared->Prop}(n1:l1 < n)(n2:l2 < n)(Z:Z2 t1 t2 s.heap n l1 l2 i)(h1:cZ t1 s.heap l1 xs)(h2:cZ t2 s.heap l2 ys)(hx:xs[i]? = some x)(hy:ys[i]? = some y)
   (hQ:∀g,IsZip g (n + 4) (n + 2) (n + 3) (rawInt s.heap.objs.size)->IsPair g (n + 3) x y->eZ t1 g n l1 (i + 1)->eZ t2 g (n + 1) l2 (i + 1)->IsPair g s.heap.objs.size x y ->
     (∀c o,c ∉ ([n + 4,n + 3,n,n + 1]:List Addr)->s.heap.get? c=some o->g.get? c=some o)->Q (.ref s.heap.objs.size) { s with heap:=g }) :
   wpAny (model prog w) A (Builtin.«zip.__next__» ⟨[.ref (n + 4)],[]⟩) (fun fin s'=>∃v,fin=.done (.ret v)/\Q v s') E s:=by
 obtain ⟨zr,ti,⟨a,b,to⟩,j1,j2⟩:=Z
 show wpAny _ _ (field (.ref (n + 4)) 2 >>= _) _ _ _
 refine wpAny_bind (wpAny_field zr rfl (x:=.bool false) rfl ?_)
 show wpAny _ _ (field (.ref (n + 4)) 3 >>= _) _ _ _
 refine wpAny_bind (wpAny_field zr rfl (x:=.ref (n + 2)) rfl ?_)
 refine wpAny_bind (wpAny_seqItems ti rfl ?_)
 show wpAny _ _ (G9 (.ref (n + 4)) >>= _) _ _ _
 refine wpAny_bind ?_
 unfold G9
 refine wpAny_bind (wpAny_field zr rfl (x:=.none) rfl (wpAny_pure ?_))
 simp only [if_true]
 refine wpAny_bind (wpAny_rule ?_)
 refine wpAny_bind (wpAny_field zr rfl (x:=.ref (n + 3)) rfl ?_)
 refine wpAny_bind (wpAny_setField_rec zr (by simp) fun g1 zr1 e1=>?_)
 replace zr1:IsZip g1 (n + 4) (n + 2) (n + 3) .ellipsis:=zr1
 refine wpAny_bind ?_
 simp only [List.zipIdx_cons,List.zipIdx_nil,Jf,List.forIn_nil]
 refine wpAny_bind (wpAny_bind (wpAny_onRaise ?_))
 show wpAny _ _ (Gu (.ref n) >>= _) _ _ _
 refine wpAny_bind (fh (j1.stay fun o e=>e1.extBut _ _ (show @Ne Nat _ _ by omega) e) (h1.stay fun o e=>e1.extBut _ _ (show @Ne Nat _ _ by omega) e) hx fun g2 k1 e2=>wpAny_pure ?_)
 have t2':IsPair g2 (n + 3) a b:=e2.extBut _ _ (show @Ne Nat _ _ by omega) (e1.extBut _ _ (show @Ne Nat _ _ by omega) to)
 refine wpAny_bind (wpAny_seqItems t2' rfl ?_)
 refine wpAny_bind (wpAny_updateSeq_pair t2' fun g3 t3 e3=>?_)
 replace t3:IsPair g3 (n + 3) x b:=t3
 refine wpAny_bind (wpAny_letGo (wpAny_pure ?_))
 have c3:∀d o,d≠n + 4->d≠n + 3->d≠n->s.heap.get? d=some o->g3.get? d=some o:=fun d o d1 d2 d3 e=>e3.extBut _ _ d2 (e2.extBut _ _ d3 (e1.extBut _ _ d1 e))
 refine wpAny_bind (wpAny_bind (wpAny_onRaise ?_))
 show wpAny _ _ (Gu (.ref (n + 1)) >>= _) _ _ _
 refine wpAny_bind (fh (j2.stay fun o e=>c3 _ o (show @Ne Nat _ _ by omega) (show @Ne Nat _ _ by omega) (show @Ne Nat _ _ by omega) e) (h2.stay fun o e=>c3 _ o (show @Ne Nat _ _ by omega) (show @Ne Nat _ _ by omega) (show @Ne Nat _ _ by omega) e) hy fun g4 k2 e4=>wpAny_pure ?_)
 have t4:IsPair g4 (n + 3) x b:=e4.extBut _ _ (show @Ne Nat _ _ by omega) t3
 refine wpAny_bind (wpAny_seqItems t4 rfl ?_)
 refine wpAny_bind (wpAny_updateSeq_pair t4 fun g5 t5 e5=>?_)
 replace t5:IsPair g5 (n + 3) x y:=t5
 refine wpAny_bind (wpAny_letGo (wpAny_pure (wpAny_pure ?_)))
 refine wpAny_bind (wpAny_seqItems t5 rfl ?_)
 refine wpAny_bind (wpAny_newTuple ?_)
 have sz:g5.objs.size=s.heap.objs.size:=by rw [e5.1,e4.1,e3.1,e2.1,e1.1]
 have zr5:IsZip g5 (n + 4) (n + 2) (n + 3) .ellipsis:=e5.extBut _ _ (show @Ne Nat _ _ by omega) (e4.extBut _ _ (show @Ne Nat _ _ by omega) (e3.extBut _ _ (show @Ne Nat _ _ by omega) (e2.extBut _ _ (show @Ne Nat _ _ by omega) zr1)))
 have c5:∀d o,d≠n + 4->d≠n + 3->d≠n->d≠n + 1->s.heap.get? d=some o->g5.get? d=some o:=fun d o d1 d2 d3 d4 e=>e5.extBut _ _ d2 (e4.extBut _ _ d4 (c3 d o d1 d2 d3 e))
 have m1:eZ t1 g5 n l1 (i + 1):=k1.stay fun o e=>e5.extBut _ _ (show @Ne Nat _ _ by omega) (e4.extBut _ _ (show @Ne Nat _ _ by omega) (e3.extBut _ _ (show @Ne Nat _ _ by omega) e))
 have m2:eZ t2 g5 (n + 1) l2 (i + 1):=k2.stay fun o e=>e5.extBut _ _ (show @Ne Nat _ _ by omega) e
 have zlt:n + 4 < g5.objs.size:=Ga zr5
 show wpAny _ _ (IC (.ref (n + 4)) (.ref g5.objs.size) >>= _) _ _ _
 refine wpAny_bind ?_
 unfold IC
 have zr6:IsZip (g5.push { cls:=.type "tuple",data:=.seq #[x,y] }) (n + 4) (n + 2) (n + 3) .ellipsis:=F6 _ zr5
 refine wpAny_bind (wpAny_setField_rec zr6 (by simp) fun g9 zr9 e9=>?_)
 replace zr9:IsZip g9 (n + 4) (n + 2) (n + 3) (rawInt g5.objs.size):=zr9
 refine wpAny_setField_rec zr9 (by simp) fun gA zrA eA=>?_
 replace zrA:IsZip gA (n + 4) (n + 2) (n + 3) (rawInt g5.objs.size):=zrA
 have up:∀d o,d≠n + 4->g5.get? d=some o->gA.get? d=some o:=fun d o d1 e=>eA.extBut _ _ d1 (e9.extBut _ _ d1 (F6 _ e))
 have tA:IsPair gA g5.objs.size x y:=eA.extBut _ _ (Jn zlt) (e9.extBut _ _ (Jn zlt) (Gn _ rfl))
 rw [sz] at zrA tA
 refine wpAny_pure ⟨_,rfl,?_⟩
 show Q (.ref g5.objs.size) _
 rw [sz]
 refine hQ gA zrA (up _ _ (show @Ne Nat _ _ by omega) t5) (m1.stay fun o e=>up _ o (show @Ne Nat _ _ by omega) e) (m2.stay fun o e=>up _ o (show @Ne Nat _ _ by omega) e) tA fun d o hd e=>?_
 simp only [GG,Gv,or_false,not_or] at hd
 exact up d o hd.1 (c5 d o hd.1 hd.2.1 hd.2.2.1 hd.2.2.2 e)
/-- one of both is at its end -/
theorem vv {n l1 l2:Nat}{Q:Fin->Shared->Prop}(hh:A.handled=none)(n1:l1 < n)(n2:l2 < n)(Z:Z2 t1 t2 s.heap n l1 l2 i)(h1:cZ t1 s.heap l1 xs)(h2:cZ t2 s.heap l2 ys)(hx:xs[i]? = none\/ys[i]? = none)
   (hE:∀g e,(∀c o,c ∉ ([n + 4,n + 3,n,n + 1]:List Addr)->s.heap.get? c=some o->g.get? c=some o)->(∃o,g.get? e=some o/\o.cls=.type "StopIteration")->E (.ref e) { s with heap:=g }) :
   wpAny (model prog w) A (Builtin.«zip.__next__» ⟨[.ref (n + 4)],[]⟩) Q E s:=by
 obtain ⟨zr,ti,⟨a,b,to⟩,j1,j2⟩:=Z
 show wpAny _ _ (field (.ref (n + 4)) 2 >>= _) _ _ _
 refine wpAny_bind (wpAny_field zr rfl (x:=.bool false) rfl ?_)
 show wpAny _ _ (field (.ref (n + 4)) 3 >>= _) _ _ _
 refine wpAny_bind (wpAny_field zr rfl (x:=.ref (n + 2)) rfl ?_)
 refine wpAny_bind (wpAny_seqItems ti rfl ?_)
 show wpAny _ _ (G9 (.ref (n + 4)) >>= _) _ _ _
 refine wpAny_bind ?_
 unfold G9
 refine wpAny_bind (wpAny_field zr rfl (x:=.none) rfl (wpAny_pure ?_))
 simp only [if_true]
 refine wpAny_bind (wpAny_rule ?_)
 refine wpAny_bind (wpAny_field zr rfl (x:=.ref (n + 3)) rfl ?_)
 refine wpAny_bind (wpAny_setField_rec zr (by simp) fun g1 zr1 e1=>?_)
 replace zr1:IsZip g1 (n + 4) (n + 2) (n + 3) .ellipsis:=zr1
 refine wpAny_bind ?_
 simp only [List.zipIdx_cons,List.zipIdx_nil,Jf,List.forIn_nil]
 refine wpAny_bind (wpAny_bind (wpAny_onRaise ?_))
 show wpAny _ _ (Gu (.ref n) >>= _) _ _ _
 cases q:xs[i]? with
 | none=>
   refine wpAny_bind (ke hh (j1.stay fun o e=>e1.extBut _ _ (show @Ne Nat _ _ by omega) e) (h1.stay fun o e=>e1.extBut _ _ (show @Ne Nat _ _ by omega) e) q fun g2 e e2 he=>?_)
   obtain ⟨oe,hoe,hce⟩:=he
   have zr2:IsZip g2 (n + 4) (n + 2) (n + 3) .ellipsis:=e2 _ _ (show @Ne Nat _ _ by omega) zr1
   have hez:e≠n + 4:=fun q=>by subst q; rw [zr2] at hoe; cases hoe; simp at hce
   refine wpAny_setField_rec zr2 (by simp) fun g3 _ e3=>hE g3 e (fun d o hd q=>?_) ⟨oe,e3.extBut _ _ hez hoe,hce⟩
   simp only [GG,Gv,or_false,not_or] at hd
   exact e3.extBut _ _ hd.1 (e2 _ _ hd.2.2.1 (e1.extBut _ _ hd.1 q))
 | some x=>
   have hy:ys[i]? = none:=hx.resolve_left (by rw [q]; exact fun z=>nomatch z)
   refine wpAny_bind (fh (j1.stay fun o e=>e1.extBut _ _ (show @Ne Nat _ _ by omega) e) (h1.stay fun o e=>e1.extBut _ _ (show @Ne Nat _ _ by omega) e) q fun g2 k1 e2=>wpAny_pure ?_)
   have t2':IsPair g2 (n + 3) a b:=e2.extBut _ _ (show @Ne Nat _ _ by omega) (e1.extBut _ _ (show @Ne Nat _ _ by omega) to)
   refine wpAny_bind (wpAny_seqItems t2' rfl ?_)
   refine wpAny_bind (wpAny_updateSeq_pair t2' fun g3 t3 e3=>?_)
   refine wpAny_bind (wpAny_letGo (wpAny_pure ?_))
   have c3:∀d o,d≠n + 4->d≠n + 3->d≠n->s.heap.get? d=some o->g3.get? d=some o:=fun d o d1 d2 d3 e=>e3.extBut _ _ d2 (e2.extBut _ _ d3 (e1.extBut _ _ d1 e))
   refine wpAny_bind (wpAny_bind (wpAny_onRaise ?_))
   show wpAny _ _ (Gu (.ref (n + 1)) >>= _) _ _ _
   refine wpAny_bind (ke hh (j2.stay fun o e=>c3 _ o (show @Ne Nat _ _ by omega) (show @Ne Nat _ _ by omega) (show @Ne Nat _ _ by omega) e) (h2.stay fun o e=>c3 _ o (show @Ne Nat _ _ by omega) (show @Ne Nat _ _ by omega) (show @Ne Nat _ _ by omega) e) hy fun g4 e e4 he=>?_)
   obtain ⟨oe,hoe,hce⟩:=he
   have zr4:IsZip g4 (n + 4) (n + 2) (n + 3) .ellipsis:=e4 _ _ (show @Ne Nat _ _ by omega) (e3.extBut _ _ (show @Ne Nat _ _ by omega) (e2.extBut _ _ (show @Ne Nat _ _ by omega) zr1))
   have hez:e≠n + 4:=fun q=>by subst q; rw [zr4] at hoe; cases hoe; simp at hce
   refine wpAny_setField_rec zr4 (by simp) fun g5 _ e5=>hE g5 e (fun d o hd q=>?_) ⟨oe,e5.extBut _ _ hez hoe,hce⟩
   simp only [GG,Gv,or_false,not_or] at hd
   exact e5.extBut _ _ hd.1 (e4 _ _ hd.2.2.2 (c3 d o hd.1 hd.2.1 hd.2.2.1 q))
end
abbrev z2H2 (t1 t2:Bool)(h:Heap)(l1 l2:Addr):Heap:=(h.push (itObj t1 l1)).push (itObj t2 l2)
abbrev z2H (t1 t2:Bool)(h:Heap)(l1 l2:Addr):Heap:=(((z2H2 t1 t2 h l1 l2).push { cls:=.type "tuple",data:=.seq #[.ref h.objs.size,.ref (h.objs.size + 1)] }).push { cls:=.type "tuple",data:=.seq #[.none,.none] }).push
 { cls:=.type "zip",data:=.fields #[.none,.bool false,.bool false,.ref (h.objs.size + 2),.ref (h.objs.size + 3)] }
theorem yp {prog:Program}{w:World}{A:Around}{E:Value->Shared->Prop}{s:Shared}{tp:Bool}{a:Addr}{xs:Array Value}{Q:Value->Shared->Prop}(hl:cZ tp s.heap a xs)(hQ:Q (.ref s.heap.objs.size) { s with heap:=s.heap.push (itObj tp a) }):wpAny (model prog w) A (pyIter (.ref a)) Q E s:=by
 cases tp
 · exact wpAny_pyIter_list (show s.heap.IsList a xs from hl) hQ
 · exact PyProof.Rows.iter_tuple (show IsTup s.heap a xs from hl) hQ
theorem nY (t1 t2:Bool)(l1 l2:Addr)(xs ys:Array Value) :
   Meets (Builtin.«zip.__new__» ⟨[.type "zip",.ref l1,.ref l2],[]⟩) (fun _ R s=>cZ t1 s.heap l1 xs/\cZ t2 s.heap l2 ys/\R (.ok (.ret (.ref (s.heap.objs.size + 4)))) { s with heap:=z2H t1 t2 s.heap l1 l2 }):=
 .of_wp fun prog w A R s h=>by
   obtain ⟨hp,g,d,tk,os⟩:=s; obtain ⟨q1,q2,h⟩:=h
   have hsub:=sub_zip
   have L1:cZ t1 (Shared.heap ⟨hp,g,d,tk,os⟩) l1 xs:=q1
   have L2:cZ t2 (Shared.heap ⟨hp.push (itObj t1 l1),g,d,tk,os⟩) l2 ys:=cZ.stay q2 fun o e=>F6 _ e
   wp_walk using yp L1,yp L2
   refine ⟨_,rfl,?_⟩
   simp only [Ju] at h ⊢
   exact h
theorem p6 {prog:Program}{w:World}{A:Around}{E:Value->Shared->Prop}{s:Shared}{t1 t2:Bool}{l1 l2:Addr}{xs ys:Array Value}{Q:Value->Shared->Prop}(q1:cZ t1 s.heap l1 xs)(q2:cZ t2 s.heap l2 ys)
   (h:∀g,Z2 t1 t2 g s.heap.objs.size l1 l2 0->(∀c o,s.heap.get? c=some o->g.get? c=some o)->Q (.ref (s.heap.objs.size + 4)) { s with heap:=g }) :
   wpAny (model prog w) A (call (.type "zip") [.ref l1,.ref l2]) Q E s:=by
 refine callType_new F.called_zip (by decide) (F.typeCall_zip_2 _ _) (F.newCall_zip_2 _ _) (fun obj=>F.args_object_init_3 obj _ _) F.entry_zip_new (nY t1 t2 l1 l2 xs ys) ⟨q1,q2,?_⟩
 have sz:∀(hh:Heap) (o:Obj),(hh.push o).objs.size=hh.objs.size + 1:=fun hh o=>Ju hh o
 have e1:(z2H2 t1 t2 s.heap l1 l2).objs.size=s.heap.objs.size + 2:=by rw [sz,sz]
 have g4:(z2H t1 t2 s.heap l1 l2).get? (s.heap.objs.size + 4)=some { cls:=.type "zip",data:=.fields #[.none,.bool false,.bool false,.ref (s.heap.objs.size + 2),.ref (s.heap.objs.size + 3)] }:=by
   have:=Gn (((z2H2 t1 t2 s.heap l1 l2).push { cls:=.type "tuple",data:=.seq #[.ref s.heap.objs.size,.ref (s.heap.objs.size + 1)] }).push { cls:=.type "tuple",data:=.seq #[.none,.none] }) (o:={ cls:=.type "zip",data:=.fields #[.none,.bool false,.bool false,.ref (s.heap.objs.size + 2),.ref (s.heap.objs.size + 3)] }) rfl
   rw [sz,sz,e1] at this
   exact this
 have g3:IsPair (z2H t1 t2 s.heap l1 l2) (s.heap.objs.size + 3) .none .none:=by
   have:=Gn ((z2H2 t1 t2 s.heap l1 l2).push { cls:=.type "tuple",data:=.seq #[.ref s.heap.objs.size,.ref (s.heap.objs.size + 1)] }) (o:={ cls:=.type "tuple",data:=.seq #[.none,.none] }) rfl
   rw [sz,e1] at this
   exact F6 _ this
 have g2:IsPair (z2H t1 t2 s.heap l1 l2) (s.heap.objs.size + 2) (.ref s.heap.objs.size) (.ref (s.heap.objs.size + 1)):=by
   have:=Gn (z2H2 t1 t2 s.heap l1 l2) (o:={ cls:=.type "tuple",data:=.seq #[.ref s.heap.objs.size,.ref (s.heap.objs.size + 1)] }) rfl
   rw [e1] at this
   exact F6 _ (F6 _ this)
 have free:∀(tp:Bool) (a:Addr),(itObj tp a).isFreed=false:=fun tp a=>rfl
 have g1:(z2H t1 t2 s.heap l1 l2).get? (s.heap.objs.size + 1)=some (itObj t2 l2):=by
   have:=Gn (s.heap.push (itObj t1 l1)) (o:=itObj t2 l2) (free _ _)
   rw [sz] at this
   exact F6 _ (F6 _ (F6 _ this))
 have g0:(z2H t1 t2 s.heap l1 l2).get? s.heap.objs.size=some (itObj t1 l1):=
   F6 _ (F6 _ (F6 _ (F6 _ (Gn _ (free _ _)))))
 have mk:∀(tp:Bool) (b a:Addr) (hh:Heap),hh.get? b=some (itObj tp a)->eZ tp hh b a 0:=fun tp b a hh e=>by
   cases tp
   · exact (⟨_,e,rfl,rfl⟩ : hh.IsListIter b a 0)
   · exact (⟨_,e,rfl,rfl⟩ : IsTupIter hh b a 0)
 show _/\_
 exact ⟨⟨_,g4,rfl⟩,h _ ⟨g4,g2,⟨_,_,g3⟩,mk _ _ _ _ g0,mk _ _ _ _ g1⟩ fun c o x=>
   F6 _ (F6 _ (F6 _ (F6 _ (F6 _ x))))⟩
end PySem
set_option Elab.async false
set_option linter.all false
set_option maxRecDepth 100000
/-! zip of two,each a list or a tuple: its rules -/
namespace L2
open PySem PySem.Spec PyProof.Rows
def Sq (tp:Bool)(K:FX)(H:Hp)(a:Addr)(xs:List V):Prop:=if tp then bc K H a xs else aw K H a xs
section
variable {X:Cx}{pins:List (Addr×Obj)}{σ:St}{H:Hp}{s:Shared}{tp t1 t2:Bool}{a b:Addr}{xs ys:List V}
theorem Inv.sq (I:Inv X pins σ H s)(h:Sq tp X.K H a xs):∃its:List Value,Vals xs its/\cZ tp s.heap a its.toArray/\xs.length<=sizeLine:=by
 cases tp
 · obtain ⟨its,r,p,z⟩:=I.list (show aw X.K H a xs from h)
   exact ⟨its,r,p.isList,z⟩
 · exact I.tuple (show bc X.K H a xs from h)
theorem Inv.sq_inj (I:Inv X pins σ H s)(h:Sq tp X.K H a xs)(h':Sq tp X.K H a ys):xs=ys:=by
 cases tp
 · exact I.list_inj (show aw X.K H a xs from h) h'
 · exact I.tuple_inj (show bc X.K H a xs from h) h'
def yO (t1 t2:Bool)(K:FX)(a b:Addr):It:=
 ⟨fun i H=>∃xs ys x y,Sq t1 K H a xs/\Sq t2 K H b ys/\xs[i]? = some x/\ys[i]? = some y,
  fun i H v H'=>∃p x y,H p=none/\v=.ref p/\H'=upd H p (.tup [x,y])/\∀xs ys,Sq t1 K H a xs->Sq t2 K H b ys->xs[i]? = some x/\ys[i]? = some y,
  fun i H=>∃xs ys,Sq t1 K H a xs/\Sq t2 K H b ys/\(xs.length<=i\/ys.length<=i)⟩
theorem rM {P:Program}{w:World}{K:FX}{elts:List Expr}{x1:Nat}{q:Pos}{n:Nat}{a b:Nat}(n1:a < n)(n2:b < n) :
   Turn P w K (.Tuple elts x1 q) (yO t1 t2 K a b) [n + 4,n + 2,n + 3,n,n + 1] (n + 4) (fun i h=>Z2 t1 t2 h n a b i) where
 mem:=by simp
 obj:=fun i h Z c hc=>by
   obtain ⟨z,ti,⟨x,y,to⟩,i1,i2⟩:=Z
   simp only [GG,Gv,or_false] at hc
   rcases hc with rfl | rfl | rfl | rfl | rfl
   · exact ⟨_,z,fun v q=>nomatch q⟩
   · exact ⟨_,ti,fun v q=>nomatch q⟩
   · exact ⟨_,to,fun v q=>nomatch q⟩
   · exact i1.obj
   · exact i2.obj
 keep:=fun i h h' Z k=>by
   obtain ⟨z,ti,⟨x,y,to⟩,i1,i2⟩:=Z
   exact ⟨k _ (by simp) _ z,k _ (by simp) _ ti,⟨x,y,k _ (by simp) _ to⟩,i1.stay fun o e=>k _ (by simp) o e,i2.stay fun o e=>k _ (by simp) o e⟩
 item:=by
   intro X hP hw hK hc i pins s σ H E I hf Z hg
   subst hP hw hK
   obtain ⟨xs,ys,x,y,q1,q2,hx,hy⟩:=hg
   obtain ⟨its1,r1,p1,_⟩:=I.sq q1
   obtain ⟨its2,r2,p2,_⟩:=I.sq q2
   obtain ⟨u,hu,ru⟩:=r1.get hx
   obtain ⟨v,hv,rv⟩:=r2.get hy
   have hT:s.TypeIs (.ref (n + 4)) "zip":=⟨_,Z.z,rfl⟩
   unfold pyNext
   refine wpAny_bind (wpAny_attempt (Ir (name:=F1 "__next__") hT Ip (wpAny_call_entry Ip hT J3
     (rO n1 n2 Z p1 p2 (x:=u) (y:=v) (by simpa using hu) (by simpa using hv) fun g a1 a2 a3 a4 a5 hk=>wpAny_pure ?_) (JU _))))
   refine ⟨_,rfl,wpAny_letOwnedTupleGo_zip (s:={ s with heap:=g }) a1 fun g2 z2 e2=>?_⟩
   have hN:H s.heap.objs.size=none:=I.hok.fresh (F8 _)
   have ltz:n + 4 < s.heap.objs.size:=Ga Z.z
   have kk:∀c o,c ∉ ([n + 4,n + 3,n,n + 1]:List Addr)->s.heap.get? c=some o->g2.get? c=some o:=fun c o hc' e=>
     e2.extBut _ _ (fun z=>hc' (by rw [z]; simp)) (hk c o hc' e)
   have hT2:IsPair g2 s.heap.objs.size u v:=e2.extBut _ _ (Jn ltz) a5
   have I1:Inv X pins σ (upd H s.heap.objs.size (.tup [x,y])) { s with heap:=g2,toks:=s.toks }:=I.many (ch:=[n + 4,n + 3,n,n + 1]) (fun c hc'=>hf c (by simp only [GG,Gv,or_false] at hc' ⊢; rcases hc' with r | r | r | r <;> simp [r])) kk (F8 _)
     ⟨by show 2<=sizeLine; decide,[u,v],.cons ru (.cons rv .nil),_,hT2,rfl,_,rfl⟩
   refine ⟨.ref s.heap.objs.size,_,I1,rfl,⟨_,x,y,hN,rfl,rfl,fun xs' ys' w1 w2=>?_⟩,?_,fun c hc'=>?_⟩
   · rw [I.sq_inj w1 q1,I.sq_inj w2 q2]; exact ⟨hx,hy⟩
   · exact ⟨z2,e2.extBut _ _ (show @Ne Nat _ _ by omega) (hk _ _ (by simp only [GG,Gv,or_false,not_or]; exact ⟨show @Ne Nat _ _ by omega,show @Ne Nat _ _ by omega,show @Ne Nat _ _ by omega,show @Ne Nat _ _ by omega⟩) Z.ti),⟨_,_,e2.extBut _ _ (show @Ne Nat _ _ by omega) a2⟩,a3.stay fun o e=>e2.extBut _ _ (show @Ne Nat _ _ by omega) e,a4.stay fun o e=>e2.extBut _ _ (show @Ne Nat _ _ by omega) e⟩
   · have lt:c < s.heap.objs.size:=by
       have:c<=n + 4:=by
         simp only [GG,Gv,or_false] at hc'
         have:=hc'
         have h2 : @Eq Nat c (n + 4) \/ @Eq Nat c (n + 2) \/ @Eq Nat c (n + 3) \/ @Eq Nat c n \/ @Eq Nat c (n + 1):=hc'
         show @LE.le Nat _ c (n + 4)
         omega
       exact GK this ltz
     rw [ai (Gw lt)]
     exact (hf c hc').1
 done:=by
   intro X hP hw hK hc i pins s σ H E I hf Z hg
   subst hP hw hK
   obtain ⟨xs,ys,q1,q2,hend⟩:=hg
   obtain ⟨its1,r1,p1,_⟩:=I.sq q1
   obtain ⟨its2,r2,p2,_⟩:=I.sq q2
   have l1:=r1.length
   have l2:=r2.length
   have hT:s.TypeIs (.ref (n + 4)) "zip":=⟨_,Z.z,rfl⟩
   unfold pyNext
   refine wpAny_bind (wpAny_attempt (Ir (name:=F1 "__next__") hT Ip (wpAny_call_entry Ip hT J3
     (vv (I.ok.hd hc) n1 n2 Z p1 p2 ?_ fun g e hk he=>?_) (JU _))))
   · rcases hend with q | q
     · exact .inl (by simp; omega)
     · exact .inr (by simp; omega)
   · obtain ⟨o,ho,hcl⟩:=he
     refine wpAny_bind (wpAny_isInstance (T:="StopIteration") (b:=true) ⟨o,ho,hcl⟩ isSubtype_stop (wpAny_pure ⟨rfl,?_⟩))
     exact I.many0 (t':=s.toks) (ch:=[n + 4,n + 3,n,n + 1]) (fun c hc'=>hf c (by simp only [GG,Gv,or_false] at hc' ⊢; rcases hc' with r | r | r | r <;> simp [r])) hk
 self:=fun _ _ _ _ _ Z h=>wpAny_pyIter_zip Z.z h
def yo (t1 t2:Bool)(K:FX)(ta:TA):TI:=fun σ H R=>ta σ H fun vs H1=>∃a b,vs=[.ref a,.ref b]/\(∃xs,Sq t1 K H1 a xs)/\(∃ys,Sq t2 K H1 b ys)/\R (yO t1 t2 K a b) H1
theorem xx {e f:Expr}{ta:TA}{p pos q:Pos}{elts:List Expr}{x1:Nat}(hg:Gl X "zip")(hm:X.mg "zip"=none)(ha:PA X [e,f] ta)(hs:starEach [e,f] X.env=[(false,eval e X.env),(false,eval f X.env)]:=by rfl)(hs2:starEach [f] X.env=[(false,eval f X.env)]:=by rfl)
   (hb:bootBuiltins "zip"=some (.type "zip"):=by first | rfl | decide +kernel):PI X (.Tuple elts x1 q) (.Call (.Name "zip" p) [e,f] [] pos) (yo t1 t2 X.K ta):=by
 intro pins s σ H R I h
 refine Call_ (gC I hg hm hb (HM (aV (ha pos pins s σ H _ I h) fun us s1 ⟨vs,H1,I1,r1,w⟩=>?_) (by rw [hs,hs2]) (by rw [hs2]; rfl)))
 obtain ⟨l1,l2,e,⟨xs,q1⟩,⟨ys,q2⟩,w⟩:=w
 subst e
 obtain ⟨u,v,rfl,ru,rv⟩:=Vals.two r1
 obtain rfl:u=Gq l1:=ru
 obtain rfl:v=Gq l2:=rv
 obtain ⟨its1,rv1,p1,_⟩:=I1.sq q1
 obtain ⟨its2,rv2,p2,_⟩:=I1.sq q2
 refine p6 p1 p2 fun g Z hk=>?_
 refine wpAny_pyIter_zip Z.z ?_
 have I2:Inv X pins σ H1 { s1 with heap:=g }:=I1.kept (t':=s1.toks) hk
 refine ⟨_,_,_,_,H1,rfl,I2,rM p1.lt p2.lt,Z,fun c hc=>?_,w⟩
 simp only [GG,Gv,or_false] at hc
 have up:∀k,cU X pins H1 (s1.heap.objs.size + k):=fun k=>I1.fpOk (IZ _ _) (I1.hok.fresh (IZ _ _))
 rcases hc with rfl | rfl | rfl | rfl | rfl
 · exact up 4
 · exact up 2
 · exact up 3
 · exact up 0
 · exact up 1
end
section
variable {K:FX}{a b:Addr}{xs ys:List V}{g:TG}{t1 t2:Bool}
theorem qb {tifs:TT}{tm:TM}{σ0:St}{Z:Hp->Prop}{H:Hp}(hlen:xs.length=ys.length)(Pv:Nat->Hp->Prop)(h0:Pv 0 H)(hl:∀i H,i<=xs.length->Pv i H->Sq t1 K H a xs/\Sq t2 K H b ys)
   (turn:∀i x y p H,xs[i]? = some x->ys[i]? = some y->Pv i H->H p=none->g (.ref p) σ0 (upd H p (.tup [x,y])) fun σ2 H2=>tifs σ2 H2 fun b H3=>
     if b=true then tm σ2 H3 fun H4=>aT σ0 σ2/\∃m',m' < xs.length - i/\(m'=xs.length - (i + 1)/\i + 1<=xs.length/\Pv (i + 1) H4) else aT σ0 σ2/\∃m',m' < xs.length - i/\(m'=xs.length - (i + 1)/\i + 1<=xs.length/\Pv (i + 1) H3))
   (hZ:∀H,Pv xs.length H->Z H):jm (yO t1 t2 K a b) σ0 g tifs tm Z H:=by
 refine ig xs.length Pv h0 (fun i H hi p=>⟨xs,ys,xs[i],ys[i]'(hlen ▸ hi),(hl i H (Hn hi) p).1,(hl i H (Hn hi) p).2,by simp [hi],by simp [hlen ▸ hi]⟩) (fun H p=>⟨xs,ys,(hl _ H (F8 _) p).1,(hl _ H (F8 _) p).2,.inl (F8 _)⟩) (fun i H hi p x H' y=>?_) hZ
 obtain ⟨pp,x1,y1,hn,rfl,rfl,k⟩:=y
 obtain ⟨k1,k2⟩:=k xs ys (hl i H (Hn hi) p).1 (hl i H (Hn hi) p).2
 exact turn i x1 y1 pp H k1 k2 p hn
end
end L2
namespace L3
open PySem PySem.Spec PyProof.Rows L2
section
variable {X:Cx}{a b c e o:Expr}{es:List Expr}{ta tb tc te:TE}{t:TA}{pos:Pos}
theorem FF (t1 t2:Bool){KK:FX}{p q:Pos}{elts:List Expr}{x1:Nat}(hg:Gl X "zip")(hm:X.mg "zip"=none)(ha:SA X [a,b] t)(hb:br b:=by first | exact lj | exact oa | exact lh)(hK:X.K=KK:=by first | exact cxC_K | rfl):SI X (.Tuple elts x1 q) (.Call (.Name "zip" p) [a,b] [] pos) (yo t1 t2 KK t):=by
 subst hK
 exact ⟨xx hg hm ha.h.pa (by rw [(ha.h.ns a [b] rfl).1.h [b] X.env,hb.h [] X.env]; rfl) (by rw [hb.h [] X.env]; rfl)⟩
end
end L3
set_option Elab.async false
set_option linter.all false
set_option maxRecDepth 100000
/-! texts: str(..),join,parts told exactly,a text in a text,>>; a dict of texts that the text's top level keeps -/
namespace L2
open PySem PySem.Spec PyProof.Rows
section
variable {X:Cx}
theorem kB:∀{ts:List Str} {us:List Value},Vals (ts.map V.str) us->∃l:List (Str×Tok),us=strValues l/\l.map (·.1)=ts
 | [],_,.nil=>⟨[],rfl,rfl⟩
 | t :: ts,_,.cons h r=>by
   obtain ⟨k,rfl⟩:=h
   obtain ⟨l,rfl,e⟩:=kB r
   exact ⟨(t,k) :: l,rfl,by rw [Gi,e]⟩
def rJoin (K:FX):V->List V->Hp->VK->Prop:=fun x xs H Q=>∃(z:Str) (l:Addr) (ts:List Str),x=.str z/\xs=[.ref l]/\aw K H l (ts.map V.str)/\JoinOk z ts=true/\Q (.str (Gg z ts)) H
theorem wC:yb X "str.join" (rJoin X.K):=by
 intro pins s σ H x xs v us Q I rx rs h
 obtain ⟨z,l,ts,rfl,rfl,hl,hj,q⟩:=h
 obtain ⟨t,rfl⟩:=rx
 obtain ⟨u,rfl,ru⟩:=vals1 rs
 obtain rfl:u=Gq l:=ru
 obtain ⟨its,r,p,_⟩:=I.list hl
 obtain ⟨ps,rfl,e⟩:=kB r
 exact SC.join p.isList e hj fun t' k=>⟨.str _,H,I.tok _,⟨_,rfl⟩,q⟩
theorem p4:bY X (.type "str") (fun xs H Q=>(∃i:Int,xs=[.int i]/\i.natAbs.log2 < 1920/\Q (.str (toString i)) H)\/∃y,xs=[.str y]/\Q (.str y) H):=by
 intro pins s σ H xs us Q I r h
 rcases h with h | ⟨y,rfl,q⟩
 · exact kK pins s σ H xs us Q I r h
 · obtain ⟨u,rfl,t,rfl⟩:=vals1 r
   exact PySem.P.str_of_str ⟨.str y,H,I,⟨_,rfl⟩,q⟩
theorem z4:eO X (compareOp .In) (fun x y H Q=>∃a b:Str,x=.str a/\y=.str b/\Q (.bl (JI b a)) H):=by
 intro pins s σ H x y v u Q I rx ry h
 obtain ⟨a,b,rfl,rfl,q⟩:=h
 obtain ⟨t,rfl⟩:=rx
 obtain ⟨t2,rfl⟩:=ry
 exact SB.contains ⟨.bl _,H,I,rfl,q⟩
/-! parts of a text,told exactly -/
variable {a:Expr}{ps:List Expr}{t:TF2}{te:TE}{pos:Pos}
/-! a dict of the text's top level: its keys are texts -/
end
end L2
namespace L3
open PySem PySem.Spec PyProof.Rows L2
section
variable {X:Cx}{a b c e o:Expr}{es:List Expr}{ta tb tc te:TE}{t:TA}{tf:TF2}{pos:Pos}
theorem fR {KK:FX}{apos:Pos}(ho:SE X o ta)(ha:SA X [e] t)(hbase:attributeBase o "join" X.env (eval o X.env)=eval o X.env:=by rfl)(hline:(apos.endLine == pos.line)=true:=by rfl)(hK:X.K=KK:=by first | exact cxC_K | rfl):SE X (.Call (.Attribute o "join" apos) [e] [] pos) (AZ KK "str" (rJoin KK) ta t):=by
 subst hK
 exact Dj IQ PySem.F.slot_str_join PySem.F.type_str_join ⟨wC⟩ ho ha hbase hline
theorem iD:SC X (.type "str") (fun xs H Q=>(∃i:Int,xs=[.int i]/\i.natAbs.log2 < 1920/\Q (.str (toString i)) H)\/∃y,xs=[.str y]/\Q (.str y) H):=⟨p4⟩
theorem iC:SC X (.builtin "len") (fun xs H Q=>∃z,xs=[.str z]/\z.length<=sizeLine/\Q (.int z.length) H):=⟨kI⟩
theorem t6:SO X (compareOp .In) (fun x y H Q=>∃a b:Str,x=.str a/\y=.str b/\Q (.bl (JI b a)) H):=⟨z4⟩
theorem Ca:SO X (binaryOp .RShift) (rI (fun _ j=>0<=j) fun i j=>.int (i / 2 ^ j.toNat)):=⟨Ae⟩
end
end L3
set_option Elab.async false
set_option linter.all false
set_option maxRecDepth 100000
/-! texts: split,int(text),parts; x in a dict of the top level,its get; pop(),x.f += y -/
namespace PySem.StrLaws
open Builtin Builtin.Str
theorem lq (s sub:Str)(hi limit:Nat):∀(l:List Nat) (st:Array Nat×Nat),st.fst.size<=limit->(forIn l st (occBody s sub hi limit)).run.fst.size<=limit
 | [],_,h=>h
 | a :: l,st,h=>by
   rw [Jf]
   unfold occBody
   split
   · rename_i hc
     refine lq s sub hi limit l _ ?_
     show (st.fst.push a).size<=limit
     rw [Array.size_push]
     have:=hc.1.1.1
     omega
   · exact lq s sub hi limit l _ h
theorem wQ (x y:Str)(limit:Nat):(occurrences x y 0 x.length limit).length<=limit:=by
 rw [occ_eq]
 have:=lq x y x.length limit (List.range' 0 (x.length + 1 - 0)) (#[],0) (Gs _)
 simpa using this
theorem rb (x y:Str):(partsBetween x (occurrences x y 0 x.length (x.length + 1)) y.length).length<=x.length + 2:=by
 have:=wQ x y (x.length + 1)
 unfold partsBetween
 simp
 omega
end PySem.StrLaws
namespace L2
open PySem PySem.Spec PyProof.Rows
section
variable {X:Cx}
def uJ:V->List V->Hp->VK->Prop:=fun x xs H Q=>∃(z y:Str),x=.str z/\xs=[.str y]/\(y.length == 0)=false/\z.length + 2<=sizeLine/\(Gr z y).length<=sizeLine/\∀l,H l=none->Q (.ref l) (upd H l (.lst ((Gr z y).map V.str)))
theorem kr:∀(l:List (Str×Tok)),Vals ((l.map (·.1)).map V.str) (strValues l)
 | []=>.nil
 | p :: l=>.cons ⟨p.2,rfl⟩ (kr l)
theorem tM:yb X "str.split" uJ:=by
 intro pins s σ H x xs v us Q I rx rs h
 obtain ⟨z,y,rfl,rfl,hy,hz,hl,q⟩:=h
 obtain ⟨t,rfl⟩:=rx
 obtain ⟨u,rfl,ru⟩:=vals1 rs
 obtain ⟨t2,rfl⟩:=ru
 have fin:∀(l:List (Str×Tok)) (tk:Nat),l.map (·.1)=Gr z y->EP X pins σ Q (.ref s.heap.objs.size) { s with toks:=tk,heap:=s.heap.push { cls:=.type "list",data:=.seq (strValues l).toArray } }:=fun l tk e=>
   ⟨.ref s.heap.objs.size,_,I.laid (a:=s.heap.objs.size) (o:=.lst ((Gr z y).map V.str)) (t':=tk) (fun _ _ q=>F6 _ q) (F8 _) ⟨by rw [F0]; exact hl,strValues l,0,by rw [← e]; exact kr l,Gn _ rfl⟩,rfl,q _ (I.hok.fresh (F8 _))⟩
 cases h1:(decide (z.length < y.length) || decide (JY z < JY y))
 · cases hf:(JG z y 0 z.length (z.length + 1)).isEmpty
   · refine call_meets Ij (typeIs_str _ _ _) IJ (ID _ _) (meets_str_split_sep z y t t2 h1 hy hf (by omega) (F2 (StrLaws.rb z y) hz)) ?_
     show wants _ _ _ { s with toks:=_,heap:=s.heap.push { cls:=.type "list",data:=.seq (strsFrom s.toks (Builtin.Str.partsBetween z (JG z y 0 z.length (z.length + 1)) y.length)).toArray } }
     rw [strsFrom_eq]
     exact fin (numbered s.toks _) _ ((numbered_texts _ _).trans ((if_neg (ne_true_of_eq_false h1)).trans (if_neg (ne_true_of_eq_false hf))).symm)
   · exact call_meets Ij (typeIs_str _ _ _) IJ (ID _ _) (meets_str_split_not_found z y t t2 h1 hy hf) (fin [(z,t)] _ ((if_neg (ne_true_of_eq_false h1)).trans (if_pos hf)).symm)
 · exact call_meets Ij (typeIs_str _ _ _) IJ (ID _ _) (meets_str_split_cannot_occur z y t t2 h1) (fin [(z,t)] _ (if_pos h1).symm)
theorem pZ:bY X (.type "int") (fun xs H Q=>∃(x:Str) (n:Int),xs=[.str x]/\PySem.intText? x=some n/\x.length<=640/\Q (.int n) H):=by
 intro pins s σ H xs us Q I r h
 obtain ⟨x,n,rfl,hn,hl,q⟩:=h
 obtain ⟨u,rfl,t,rfl⟩:=vals1 r
 exact PySem.W.KIN.call_text hn hl ⟨.int n,H,I.tok _,⟨_,rfl⟩,q⟩
/-! a dict of the text's top level,whole -/
def dM (w:World)(K:FX)(a:Addr)(kvs:List (Str×V)):Prop:=
 ∃(es:Array DictEntry) (n:Nat),K.lookup a=some ⟨.type "dict",none,.dict es n,#[]⟩ /\ PySem.W.KeysLit w.params es.toList/\(a == sysModules)=false/\Paired (fun (e:DictEntry) (q:Str×V)=>(∃t,e.key=.str q.1 t)/\RelV q.2 e.val) es.toList kvs
theorem dM.find {w:World}{K:FX}{a:Addr}{es:List DictEntry}{kvs:List (Str×V)}(h:Paired (fun (e:DictEntry) (q:Str×V)=>(∃t,e.key=.str q.1 t)/\RelV q.2 e.val) es kvs)(k:Str) :
   dw (kvs.lookup k) ((es.find? fun e=>Ii k e.key).map (·.val)):=by
 induction h with
 | nil=>exact GD
 | @cons e q l l' r _ ih=>
   obtain ⟨⟨t,ek⟩,rv⟩:=r
   obtain ⟨qk,qv⟩:=q
   by_cases hk:k=qk
   · subst hk
     have e1:Ii k e.key=true:=by rw [ek]; simp [Ii]
     rw [List.find?_cons_of_pos (by exact e1),List.lookup_cons_self]
     exact rv
   · have e1:¬ Ii k e.key=true:=by rw [ek]; simp [Ii]; exact fun z=>hk (by first | exact z | exact z.symm)
     rw [List.find?_cons_of_neg (by exact e1),GL,beq_eq_false_iff_ne.mpr hk]
     exact ih
theorem dM.map {X:Cx}{pins:List (Addr×Obj)}{σ:St}{H:Hp}{s:Shared}{a:Addr}{kvs:List (Str×V)}(I:Inv X pins σ H s)(d:dM X.w X.K a kvs):∃f,s.heap.MapOf (strKind X.prog X.w) a f/\(a == sysModules)=false/\(∀k,dw (kvs.lookup k) (f k))/\∃ob,s.heap.get? a=some ob/\ob.dict=none:=by
 obtain ⟨es,n,hl,hk,hs,hp⟩:=d
 refine ⟨_,PySem.W.mapOf_K (prog:=X.prog) (w:=X.w) (h:=s.heap) I.kIn hl hk,hs,fun k=>?_,_,I.kIn _ _ hl,rfl⟩
 have:=dM.find hp k (w:=X.w) (K:=X.K) (a:=a)
 obtain ⟨l⟩:=es
 unfold findBy
 rw [List.find?_toArray]
 exact this
def xI:Bool->World->FX->R2:=fun neg w K x y H Q=>∃k a kvs,x=.str k/\y=.ref a/\dM w K a kvs/\Q (.bl (if neg then !(kvs.lookup k).isSome else (kvs.lookup k).isSome)) H
theorem ki {a:Option V}{b:Option Value}(h:dw a b):a.isSome=b.isSome:=by
 cases a <;> cases b <;> first | rfl | exact h.elim
theorem z6:eO X (compareOp .In) (xI false X.w X.K):=by
 intro pins s σ H x y v u Q I rx ry h
 obtain ⟨k,a,kvs,rfl,rfl,d,q⟩:=h
 obtain ⟨t,rfl⟩:=rx
 cases ry
 obtain ⟨f,hm,hs,hf,_⟩:=d.map I
 refine wpAny_in_of (strKind_is X.prog X.w k t) hs hm ⟨.bl _,H,I.tok _,?_,q⟩
 show IG (f k).isSome=IG _
 rw [← ki (hf k)]
 rfl
theorem xf:eO X (compareOp .NotIn) (xI true X.w X.K):=by
 intro pins s σ H x y v u Q I rx ry h
 obtain ⟨k,a,kvs,rfl,rfl,d,q⟩:=h
 obtain ⟨t,rfl⟩:=rx
 cases ry
 obtain ⟨f,hm,hs,hf,_⟩:=d.map I
 refine wpAny_notIn_of (strKind_is X.prog X.w k t) hs hm ⟨.bl _,H,I.tok _,?_,q⟩
 show IG (!(f k).isSome)=IG _
 rw [← ki (hf k)]
 rfl
variable {o e f:Expr}{td ty tx:TE}{apos cpos pos:Pos}
def Fc (w:World)(K:FX)(td ty:TE):TE:=fun σ H Q=>td σ H fun x H1=>ty σ H1 fun y H2=>∃a k v kvs,x=.ref a/\y=.str k/\dM w K a kvs/\kvs.lookup k=some v/\Q v H2
theorem Cu (ho:PE X o td)(hi:PE X e ty)(hs:rR e):PE X (.Subscript o e pos) (Fc X.w X.K td ty):=by
 intro pins s σ H Q I h
 refine pN PySem.F.slot_dict_getitem.lookup hs (aV (ho pins s σ H _ I h) fun u s1 ⟨x,H1,I1,rx,q1⟩=>aV (hi pins s1 σ H1 _ I1 q1) fun iv s2 ⟨y,H2,I2,ry,a,k,v,kvs,ex,ey,d,l,q2⟩=>?_)
 subst ex ey
 obtain rfl:u=Gq a:=rx
 obtain ⟨t,rfl⟩:=ry
 obtain ⟨f,hm,hs,hf,_⟩:=d.map I2
 have hk:=hf k
 rw [l] at hk
 cases e2:f k with
 | none=>rw [e2] at hk; exact hk.elim
 | some z=>rw [e2] at hk; exact ⟨hm.typeIs,wpAny_getItem_of (strKind_is X.prog X.w k t) hm e2 ⟨v,H2,I2.tok _,hk,q2⟩⟩
def C4 (w:World)(K:FX)(td ty:TE):TE:=fun σ H Q=>td σ H fun x H1=>∃a kvs,x=.ref a/\dM w K a kvs/\ty σ H1 fun y H2=>∃k,y=.str k/\Q ((kvs.lookup k).getD .bq) H2
theorem Am (ho:PE X o td)(he:PE X e ty)(m:M1 X o "get" apos e cpos):PE X (.Call (.Attribute o "get" apos) [e] [] cpos) (C4 X.w X.K td ty):=by
 intro pins s σ H Q I h
 refine wpAny_Call_method m.base m.few m.line II G7 IT (aV (ho pins s σ H _ I h) fun u s1 ⟨x,H1,I1,rx,a,kvs,ex,d,q1⟩=>?_)
 subst ex
 obtain rfl:u=Gq a:=rx
 obtain ⟨f1,hm1,_,_,ob1,o1,o2⟩:=d.map I1
 refine ⟨hm1.typeIs,(fun b z=>by cases z; exact ⟨ob1,o1,o2⟩),?_⟩
 rw [m.trees]
 refine HP rfl (HV (HQ (aV (he pins s1 σ H1 _ I1 q1) fun iv s2 ⟨y,H2,I2,ry,k,ek,q2⟩=>IL ?_)))
 subst ek
 obtain ⟨t,rfl⟩:=ry
 obtain ⟨f,hm,hs,hf,_⟩:=d.map I2
 exact call_meetsIn G7 hm.typeIs Ik (PySem.F.args_dict_get_2 _ _) (meets_dict_get (strKind X.prog X.w) a (strKind_is X.prog X.w k t) hs) ⟨_,hm,_,H2,I2.tok _,(hf k).getD (show RelV V.bq Hj from rfl),q2⟩
def C5 (w:World)(K:FX)(td ty tx:TE):TE:=fun σ H Q=>td σ H fun x H1=>∃a kvs,x=.ref a/\dM w K a kvs/\ty σ H1 fun y H2=>tx σ H2 fun z H3=>∃k,y=.str k/\Q ((kvs.lookup k).getD z) H3
theorem An (ho:PE X o td)(he:PE X e ty)(hf:PE X f tx)(m:M2 X o "get" apos e f cpos):PE X (.Call (.Attribute o "get" apos) [e,f] [] cpos) (C5 X.w X.K td ty tx):=by
 intro pins s σ H Q I h
 refine wpAny_Call_method m.base m.few m.line II G7 IT (aV (ho pins s σ H _ I h) fun u s1 ⟨x,H1,I1,rx,a,kvs,ex,d,q1⟩=>?_)
 subst ex
 obtain rfl:u=Gq a:=rx
 obtain ⟨f1,hm1,_,_,ob1,o1,o2⟩:=d.map I1
 refine ⟨hm1.typeIs,(fun b z=>by cases z; exact ⟨ob1,o1,o2⟩),?_⟩
 rw [m.trees]
 refine HP rfl (HV (HQ (aV (he pins s1 σ H1 _ I1 q1) fun iv s2 ⟨y,H2,I2,ry,q2⟩=>HQ (aV (hf pins s2 σ H2 _ I2 q2) fun fv s3 ⟨z,H3,I3,rz,k,ek,q3⟩=>IL ?_))))
 subst ek
 obtain ⟨t,rfl⟩:=ry
 obtain ⟨g,hm,hs,hg,_⟩:=d.map I3
 exact call_meetsIn G7 hm.typeIs Ik (IK _ _ _) (meets_dict_get_default (strKind X.prog X.w) a (strKind_is X.prog X.w k t) hs _) ⟨_,hm,_,H3,I3.tok _,(hg k).getD rz,q3⟩
end
end L2
namespace L3
open PySem PySem.Spec PyProof.Rows L2
section
variable {X:Cx}{a b c e o f:Expr}{es:List Expr}{ta tb tc te tf:TE}{t:TA}{pos:Pos}
theorem lJ {KK:FX}{apos:Pos}(ho:SE X o ta)(ha:SA X [e] t)(hbase:attributeBase o "split" X.env (eval o X.env)=eval o X.env:=by rfl)(hline:(apos.endLine == pos.line)=true:=by rfl)(hK:X.K=KK:=by first | exact cxC_K | rfl):SE X (.Call (.Attribute o "split" apos) [e] [] pos) (AZ KK "str" uJ ta t):=by
 subst hK
 exact Dj IQ Ij PySem.F.type_str_split ⟨tM⟩ ho ha hbase hline
theorem y0:SC X (.type "int") (fun xs H Q=>∃(x:Str) (n:Int),xs=[.str x]/\PySem.intText? x=some n/\x.length<=640/\Q (.int n) H):=⟨pZ⟩
theorem yC {p2:Pos}(ha:SE X a ta)(hb:SE X b tb)(hc:SE X c tc):SE X (.Subscript a (.Slice (some b) (some c) none p2) pos) (A4 xK ta (fZ tb) (fZ tc)):=⟨dj ot ha.h (cP hb.h) (cP hc.h)⟩
theorem B9 {KK:FX}{ww:World}(hK:X.K=KK:=by first | exact cxC_K | rfl)(hw:X.w=ww:=by rfl):SO X (compareOp .In) (xI false ww KK):=by
 subst hK hw
 exact ⟨z6⟩
theorem zM {KK:FX}{ww:World}(hK:X.K=KK:=by first | exact cxC_K | rfl)(hw:X.w=ww:=by rfl):SO X (compareOp .NotIn) (xI true ww KK):=by
 subst hK hw
 exact ⟨xf⟩
theorem kg {KK:FX}{ww:World}(ho:SE X a ta)(hi:SE X b tb)(hs:rR b:=by exact fun _ _=>rfl)(hK:X.K=KK:=by first | exact cxC_K | rfl)(hw:X.w=ww:=by rfl):SE X (.Subscript a b pos) (Fc ww KK ta tb):=by
 subst hK hw
 exact ⟨Cu ho.h hi.h hs⟩
theorem FG {KK:FX}{ww:World}{apos:Pos}(ho:SE X o ta)(he:SE X e te)(m:M1 X o "get" apos e pos:=by exact ⟨rfl,rfl,rfl,rfl⟩)(hK:X.K=KK:=by first | exact cxC_K | rfl)(hw:X.w=ww:=by rfl):SE X (.Call (.Attribute o "get" apos) [e] [] pos) (C4 ww KK ta te):=by
 subst hK hw
 exact ⟨Am ho.h he.h m⟩
theorem FH {KK:FX}{ww:World}{apos:Pos}(ho:SE X o ta)(he:SE X e te)(hf:SE X f tf)(m:M2 X o "get" apos e f pos:=by exact ⟨rfl,rfl,rfl,rfl⟩)(hK:X.K=KK:=by first | exact cxC_K | rfl)(hw:X.w=ww:=by rfl):SE X (.Call (.Attribute o "get" apos) [e,f] [] pos) (C5 ww KK ta te tf):=by
 subst hK hw
 exact ⟨An ho.h he.h hf.h m⟩
theorem Cz {KK:FX}{apos:Pos}(ho:SE X o ta)(hbase:attributeBase o "pop" X.env (eval o X.env)=eval o X.env:=by rfl)(hline:(apos.endLine == pos.line)=true:=by rfl)(hK:X.K=KK:=by first | exact cxC_K | rfl):SE X (.Call (.Attribute o "pop" apos) [] [] pos) (A0 KK "list" CM ta):=by
 subst hK
 exact ⟨uo IH Kd Kc zK ho.h hbase hline⟩
theorem rW {KK:FX}{x:Str}{tpos:Pos}(ha:SE X a ta)(hv:SE X e te)(hK:X.K=KK:=by first | exact cxC_K | rfl):SS X (.AugAssign (.Attribute a x tpos) .Add e pos) (pH KK ta te CF x):=by
 subst hK
 exact ⟨rn ha.h hv.h zp⟩
theorem yk {x:Expr}{op:UnaryOp}{p:Pos}(ho:SE X a ta)(hi:SE X (.UnaryOp op x p) tb):SG X (.Subscript a (.UnaryOp op x p) pos) (sE ta tb mQ):=⟨lz ho.h hi.h set_list (fun _=>rfl)⟩
end
end L3
set_option Elab.async false
set_option linter.all false
set_option maxRecDepth 100000
/-! t[:k] that may be the whole of t -/
namespace HT
open PySem PySem.Spec PyProof.Rows
end HT
namespace L2
open PySem PySem.Spec PyProof.Rows
end L2
namespace L3
open PySem PySem.Spec PyProof.Rows L2
end L3
set_option Elab.async false
set_option linter.all false
set_option maxRecDepth 100000
/-! an exception that leaves a comprehension -/
namespace L2
open PySem PySem.Spec PyProof.Rows
section
variable {M:Model}{A:Around}{E:Value->Shared->Prop}{s:Shared}{B:Heap}{e:Addr}{cls a0 fl:Value}
/-- on its way,with any mark of flight -/
structure Way (B:Heap)(l:List Env)(e:Addr)(cls a0 fl:Value)(h:Heap):Prop where
 st:B.StaysIn h
 no:B.get? e=none
 fr:h.FunFrames B l
 tr:h.TracedAtW B e cls a0 fl
/-- the mark of flight is set,whatever it was -/
theorem eY {l:List Env}{o:Option Addr}{Q:Unit->Shared->Prop}(x:Way B l e cls a0 fl s.heap)
   (h:∀h',Way B l e cls a0 (o.elim Hj fun f=>rawInt f) h'->s.heap.UpToSlots h'->Q () { s with heap:=h' }):wpAny M A (setFlight (.ref e) o) Q E s:=by
 obtain ⟨x1,x2,x3,oe,vs,T,oT,ts,ze,hcl,zd,z1,hnT,hTe,zT,zdT,z3⟩:=x
 have big:3 < ts.size:=(Array.getElem?_eq_some_iff.mp z3).1
 have oth:∀b,b≠T->(s.heap.update T (IU (·.setIfInBounds 3 (o.elim Hj fun f=>rawInt f)))).get? b=s.heap.get? b:=fun b nb=>Iq _ _ nb.symm
 have rec_:∀b ob,s.heap.get? b=some ob->(∀vs,ob.data≠.fields vs)->b≠T:=fun b ob hb nf z=>by
   subst z
   rw [zT] at hb
   cases hb
   exact nf ts zdT
 have inB:∀b ob,B.get? b=some ob->b≠T:=fun b ob hb z=>by
   subst z
   rw [hnT] at hb
   cases hb
 unfold setFlight
 refine wpAny_bind (wpAny_field ze zd z1 ?_)
 rw [if_pos (by simp)]
 refine wpAny_setField zT zdT big (h _ ⟨fun b ob hb=>?_,x2,x3.of_keeps fun b ob hb nf=>?_,?_⟩ fun b ob hb nf=>?_)
 · rw [oth b (inB b ob hb)]; exact x1 b ob hb
 · exact ⟨ob,by rw [oth b (rec_ b ob hb nf)]; exact hb,rfl⟩
 · refine ⟨oe,vs,T,_,_,by rw [oth e hTe.symm]; exact ze,hcl,zd,z1,hnT,hTe,Jg _ zT (Kt (IE zdT _)),IE zdT _,?_⟩
   simp [big]
 · exact ⟨ob.slots,by rw [oth b (rec_ b ob hb nf)]; exact hb⟩
/-- it leaves its frame,whatever its mark was -/
theorem mx {env:Env}{outer:List Env}{L:Addr}{Q:Unit->Shared->Prop}(hfr:A.frames=some (env :: outer))(hf:env.frame=some L)(x:Way B (env :: outer) e cls a0 fl s.heap)
   (h:∀h',Ko B outer e cls a0 h'->s.heap.UpToSlots h'->Q () { s with heap:=h' }):wpAny M A (leaving env (.ref e)) Q E s:=by
 by_cases hz:fl=rawInt L
 · subst hz
   unfold leaving
   refine wpAny_bind (wpAny_noteFrame_againW hf x.tr (eY x fun h' w u=>?_))
   exact h h' ⟨w.st,w.no,w.fr.2.2,w.tr⟩ u
 · obtain ⟨x1,x2,x3,oe,vs,T,oT,ts,ze,⟨hcl,h0⟩,zd,z1,hnT,hTe,zT,zdT,z3⟩:=x
   subst hcl
   have oth:∀b,b≠T->(s.heap.update T (IU (·.setIfInBounds 3 Hj))).get? b=s.heap.get? b:=fun b nb=>Iq _ _ nb.symm
   have rec_:∀b ob,s.heap.get? b=some ob->(∀vs,ob.data≠.fields vs)->b≠T:=fun b ob hb nf z=>by
     subst z
     rw [zT] at hb
     cases hb
     exact nf ts zdT
   have inB:∀b ob,B.get? b=some ob->b≠T:=fun b ob hb z=>by
     subst z
     rw [hnT] at hb
     cases hb
   unfold leaving noteFrame
   simp only [hf]
   refine wpAny_bind (wpAny_bind (wpAny_field ze zd z1 ?_))
   rw [if_pos (by simp)]
   refine wpAny_bind (wpAny_field zT zdT z3 ?_)
   rw [if_neg (fun z=>hz (eq_of_beq z))]
   refine wpAny_bind (wpAny_setField zT zdT (Array.getElem?_eq_some_iff.mp z3).1 ?_)
   have g1:B.StaysIn (s.heap.update T (IU (·.setIfInBounds 3 Hj))):=fun b ob hb=>by rw [oth b (inB b ob hb)]; exact x1 b ob hb
   have g2:(s.heap.update T (IU (·.setIfInBounds 3 Hj))).FunFrames B (env :: outer):=x3.of_keeps fun b ob hb nf=>⟨ob,by rw [oth b (rec_ b ob hb nf)]; exact hb,rfl⟩
   have g3:(s.heap.update T (IU (·.setIfInBounds 3 Hj))).get? e=some oe:=by rw [oth e hTe.symm]; exact ze
   refine wpAny_newEntryW hfr g2 hf g3 g1 x2 zd (Array.getElem?_eq_some_iff.mp z1).1 h0 fun h' y=>?_
   obtain ⟨y1,y2,y3,y4⟩:=y
   exact h h' ⟨y1,x2,y2.2.2,y3⟩ fun b ob hb nf=>y4 b ob (by rw [oth b (rec_ b ob hb nf)]; exact hb) nf
end
/-- what goes on its way out of X,by facts about X's start alone -/
def lQ (X:Cx)(E:XK):Prop:=∀(ea:Addr) (cls a0 fl:Value) (B:Heap) (H':Hp) (s':Shared),s'.os=X.s₀.os->AllBare s'.gens->Un (cm X.outer) [] X.H₀ H' X.s₀.heap s'.heap->eN X.prog X.w H' s'.heap->X.base.StaysIn B->Way B X.stack ea cls a0 fl s'.heap ->
 (∀b o,X.s₀.heap.get? b=some o->b ∉ cm X.outer->∃o',B.get? b=some o')->(∀b u,H' b=some u->∃o,B.get? b=some o)->X.s₀.heap.get? ea=none->E cls none H'->X.A.frames=some X.stack->X.xe (.ref ea) s'
section
variable {P:Program}{w:World}{K:FX}{mg:Str->Option Value}{base:Heap}{N:List Str}{qual:Str}{scope:Scope}{f:Addr}{cd:Value}{A:Around}{outer:List Env}{s:Shared}{H:Hp}{E:XK}
theorem Aj {E':XK}(hE:∀c d H2,E' c d H2->E c d H2):lQ (bX (cE P w base) P w K mg base N qual scope f cd A outer s H E) E':=by
 intro ea cls a0 fl B H2 s2 os2 bare2 un2 hok2 stB way inB lN nea q hfr
 have hstk:(bX (cE P w base) P w K mg base N qual scope f cd A outer s H E).stack=envOfC qual scope s.heap.objs.size f cd :: outer:=rfl
 rw [hstk] at way hfr
 have fr2:=way.fr
 have un2:Un (cm outer) [] H H2 s.heap s2.heap:=un2
 have inB:∀b o,s.heap.get? b=some o->b ∉ cm outer->∃o',B.get? b=some o':=inB
 refine mx hfr rfl way fun h3 x1 x2=>?_
 refine ⟨ea,cls,a0,B,H2,rfl,os2,bare2,⟨fun b o hb n hf hx=>?_,fun b o hb n hf hx=>?_,un2.free,fun b o hb hx=>?_,un2.tups,un2.frzs,un2.tbls⟩,du hok2 lN way.st x1.1,stB,x1,inB,lN,nea,hE _ _ _ q⟩
 · have e2:=un2.keep b o hb n hf hx
   obtain ⟨o',ho'⟩:=inB b o hb hf
   have e3:=way.st b o' ho'
   rw [e2] at e3
   cases e3
   exact x1.1 b o ho'
 · obtain ⟨sl,e1⟩:=un2.slot b o hb n hf hx
   obtain ⟨_,o2,ho2,hd2⟩:=fr2.mem (show b∈cm (envOfC qual scope s.heap.objs.size f cd :: outer) from F7 _ hf)
   rw [e1] at ho2
   cases ho2
   obtain ⟨sl3,e3⟩:=x2 b _ e1 hd2
   exact ⟨sl3,e3⟩
 · by_cases hm:b∈cm outer
   · obtain ⟨_,o3,ho3,hd3⟩:=fr2.mem (show b∈cm (envOfC qual scope s.heap.objs.size f cd :: outer) from F7 _ hm)
     obtain ⟨sl3,e3⟩:=x2 b _ ho3 hd3
     exact ⟨_,e3⟩
   · obtain ⟨o',ho'⟩:=inB b o hb hm
     exact ⟨o',x1.1 b o' ho'⟩
end
section
variable {X:Cx}{N':List Str}{sc:Scope}{pins:List (Addr×Obj)}{σ:St}{H:Hp}{s:Shared}{fp:List Addr}{Ex:XK}{xe:Value->Shared->Prop}{use:Option (Value->Sem Unit)}{Q':Value->Shared->Prop}{acc:Value}{L:Addr}
theorem jV {h h' B B':Heap}:∀{l:List Env},(∀b∈cm l,h'.get? b=h.get? b)->(∀b o,B'.get? b=some o->B.get? b=some o)->h.FunFrames B l->h'.FunFrames B' l
 | [],_,_,_=>trivial
 | en :: l,k,hb,⟨x1,⟨L,o,f1,f2,f3,f4⟩,x3⟩=>by
   refine ⟨x1,⟨L,o,f1,?_,?_,f4⟩,jV (fun b h=>k b ?_) hb x3⟩
   · cases z:B'.get? L with
     | none=>rfl
     | some o=>have:=hb _ _ z; rw [f2] at this; cases this
   · rw [k L (List.mem_filterMap.mpr ⟨en,F4,f1⟩)]; exact f3
   · obtain ⟨e2,h1,h2⟩:=List.mem_filterMap.mp h
     exact List.mem_filterMap.mpr ⟨e2,F7 _ h1,h2⟩
theorem p9 (hPA:lQ X Ex)(hst:X.stack=X.env :: X.outer)(hex:X.ex=[])(hL:X.env.frame=some L)(hL0:X.s₀.heap.get? L=none)(I:Inv X pins σ H s)(hf:∀b∈fp,cU X pins H b)
   (hxe:xe=notedBy (model X.prog X.w) X.A (compEnvC sc (dN sc X.env) s.heap.objs.size X.env) fun e s'=>compPost (model X.prog X.w) X.A X.xe use Q' acc s.heap.objs.size (.error e) s') :
   Passes (cE X.prog X.w X.base) (b6 X N' sc s H s.heap.objs.size fp xe) Ex:=by
 intro pins' σ' H4 s4 e s5 I4 cx
 obtain ⟨ea,cls,a0,B,H5,rfl,os2,bare2,un2,hok2,stB,fly,inB,lN,nea,q⟩:=cx
 have I4':Inv (b6 X N' sc s H s.heap.objs.size fp xe) [] σ' H4 s4:=I4.pins_of fun p hp=>nomatch hp
 have IX:Inv X pins σ H4 s4:=fb I hf I4'
 have fly:Ko B (X.env :: X.outer) ea cls a0 s5.heap:=by rw [← hst]; exact fly
 have un2:Un (cm X.stack) [] H4 H5 s4.heap s5.heap:=un2
 have inB:∀b o,s4.heap.get? b=some o->b ∉ cm X.stack->∃o',B.get? b=some o':=inB
 have hfr:X.A.frames=some (X.env :: X.outer):=by rw [← hst]; exact I.ok.frames
 show xe (.ref ea) s5
 rw [hxe]
 show wpAny (model X.prog X.w) X.A (noteFrame (.ref ea) X.env) _ _ s5
 refine wpAny_looks_onW hfr hL fly fun h6 held ups=>?_
 obtain ⟨m,hn⟩:=kO I4'
 have hC4:H4 s.heap.objs.size=none:=I4'.free
 have nC:s.heap.objs.size ∉ cm X.stack:=fun hm=>by
   obtain ⟨_,o,ho,_⟩:=I.stack.mem hm
   exact absurd (Ga ho) (He _)
 have nox:∀b:Addr,b ∉ ([]:List Addr):=fun b z=>nomatch z
 obtain ⟨oC,es,ep,ho,hdC,r⟩:=hn
 have e5:=un2.keep _ oC ho hC4 nC (nox _)
 have eB:B.get? s.heap.objs.size=some oC:=by
   obtain ⟨o',h'⟩:=inB _ oC ho nC
   have:=fly.1 _ o' h'
   rw [e5] at this
   cases this
   exact h'
 have e6:=held.1 _ _ eB
 have main:∃m,h6.Ns s.heap.objs.size m/\∀h',Hl s.heap.objs.size h6 h'->∀cenv:Env,cenv.locals=s.heap.objs.size->wpAny (model X.prog X.w) X.A (PySem.passOn "comprehension.variables-let-go" (.ref ea) cenv:Sem Value) (fun _ _=>False) X.xe { s5 with heap:=h' }:=by
   refine ⟨m,⟨oC,es,ep,e6,hdC,r⟩,fun h7 sb cenv _=>?_⟩
   have hun:Un (cm X.outer) [] X.H₀ H4 X.s₀.heap s4.heap:=by have:=IX.base; rw [hex] at this; exact this
   have small:∀b o,X.s₀.heap.get? b=some o->b≠s.heap.objs.size:=fun b o hb z=>by
     have:=Ga hb
     have h2:=I.sz
     rw [z] at this
     exact absurd (Gk this h2) (He _)
   obtain ⟨x1,x2,x3,oe,vs,T,oT,ts,he,hcl,hd,h1,hnT,hTe,hT,hdT,h3⟩:=held
   have nea':ea≠s.heap.objs.size:=fun z=>by rw [z,eB] at x2; cases x2
   have nT:T≠s.heap.objs.size:=fun z=>by rw [z,eB] at hnT; cases hnT
   have bget:∀b o,B.get? b=some o->b≠s.heap.objs.size->(GX B [s.heap.objs.size]).get? b=some o:=fun b o hb nb=>Jk _ hb (by simpa using nb)
   have bof:∀b o,(GX B [s.heap.objs.size]).get? b=some o->B.get? b=some o:=fun b o hb=>Jq _ hb
   have bne:∀b o,(GX B [s.heap.objs.size]).get? b=some o->b≠s.heap.objs.size:=fun b o hb z=>by rw [z,Kf _ (List.mem_singleton.mpr rfl)] at hb; cases hb
   have way7:Way (GX B [s.heap.objs.size]) X.stack ea cls a0 (rawInt L) h7:=by
     refine ⟨fun b o hb=>?_,?_,?_,oe,vs,T,oT,ts,?_,hcl,hd,h1,?_,hTe,?_,hdT,h3⟩
     · rw [sb.2 b (bne b o hb)]; exact x1 b o (bof b o hb)
     · cases z:(GX B [s.heap.objs.size]).get? ea with
       | none=>rfl
       | some o=>have:=bof _ _ z; rw [x2] at this; cases this
     · rw [← hst] at x3
       exact jV (fun b hb=>sb.2 b (fun z=>nC (z ▸ hb))) bof x3
     · rw [sb.2 _ nea']; exact he
     · cases z:(GX B [s.heap.objs.size]).get? T with
       | none=>rfl
       | some o=>have:=bof _ _ z; rw [hnT] at this; cases this
     · rw [sb.2 _ nT]; exact hT
   have he7:h7.get? ea=some oe:=by rw [sb.2 _ nea']; exact he
   have fin:wpAny (model X.prog X.w) X.A (do setFlight (.ref ea) cenv.frame; throw (Gq ea):Sem Value) (fun _ _=>False) X.xe { s5 with heap:=h7 }:=by
     refine wpAny_bind (eY (s:={ s5 with heap:=h7 }) way7 fun h8 w8 u8=>wpAny_throw ?_)
     have hloc:∀b o,X.s₀.heap.get? b=some o->b ∉ cm X.outer->b ∉ cm X.stack:=fun b o hb nb hm=>by
       rw [hst] at hm
       rcases List.mem_filterMap.mp hm with ⟨en,h1,h2⟩
       rcases List.mem_cons.mp h1 with z | z
       · rw [z,hL] at h2
         cases h2
         rw [hL0] at hb
         cases hb
       · exact nb (List.mem_filterMap.mpr ⟨en,z,h2⟩)
     have inB7:∀b o,X.s₀.heap.get? b=some o->b ∉ cm X.outer->∃o',(GX B [s.heap.objs.size]).get? b=some o':=fun b o hb nb=>by
       obtain ⟨o4,e4⟩:=hun.there b o hb (nox b)
       obtain ⟨o',h'⟩:=inB b o4 e4 (hloc b o hb nb)
       exact ⟨o',bget b o' h' (small b o hb)⟩
     have trk7:∀b u,H5 b=some u->∃o,(GX B [s.heap.objs.size]).get? b=some o:=fun b u hb=>by
       obtain ⟨o,ho'⟩:=lN b u hb
       refine ⟨o,bget b o ho' fun z=>?_⟩
       rw [z,un2.free _ oC ho hC4 (nox _)] at hb
       cases hb
     refine hPA ea cls a0 _ (GX B [s.heap.objs.size]) H5 { s5 with heap:=h8 } (os2.trans IX.os) bare2 ⟨fun b o hb n nf _=>?_,fun b o hb n hm _=>?_,fun b o hb n _=>?_,fun b o hb _=>?_,fun b xs h=>un2.tups b xs (hun.tups b xs h),fun b o u h=>un2.frzs b o u (hun.frzs b o u h),fun b ps h=>?_⟩ ?_ ?_ w8 inB7 trk7 ?_ q I.ok.frames
     · have q4:=hun.keep b o hb n nf (nox b)
       have q5:=un2.keep b o q4 (hun.free b o hb n (nox b)) (hloc b o hb nf) (nox b)
       obtain ⟨o',h'⟩:=inB7 b o hb nf
       have q6:=fly.1 b o' (bof _ _ h')
       rw [q5] at q6
       cases q6
       exact w8.st b o h'
     · obtain ⟨sl,q4⟩:=hun.slot b o hb n hm (nox b)
       obtain ⟨sl2,q5⟩:=un2.any q4 (hun.free b o hb n (nox b)) (nox b)
       have hm':b∈cm (X.env :: X.outer):=by
         obtain ⟨en,h1,h2⟩:=List.mem_filterMap.mp hm
         exact List.mem_filterMap.mpr ⟨en,F7 _ h1,h2⟩
       obtain ⟨_,o2,ho2,hd2⟩:=fly.2.2.1.mem hm'
       rw [q5] at ho2
       cases ho2
       obtain ⟨sl3,q6⟩:=ups b _ q5 hd2
       have q7:h7.get? b=_:=(sb.2 b (small b o hb)).trans q6
       obtain ⟨sl4,q8⟩:=u8 b _ q7 hd2
       exact ⟨sl4,q8⟩
     · obtain ⟨o1,q4⟩:=hun.there b o hb (nox b)
       exact un2.free b o1 q4 (hun.free b o hb n (nox b)) (nox b)
     · by_cases hm:b∈cm X.outer
       · have hm':b∈cm X.stack:=by
           rw [hst]
           obtain ⟨en,h1,h2⟩:=List.mem_filterMap.mp hm
           exact List.mem_filterMap.mpr ⟨en,F7 _ h1,h2⟩
         obtain ⟨_,o2,ho2,_⟩:=w8.fr.mem hm'
         exact ⟨o2,ho2⟩
       · obtain ⟨o',h'⟩:=inB7 b o hb hm
         exact ⟨o',w8.st b o' h'⟩
     · obtain ⟨m1,q1⟩:=hun.tbls b ps h
       obtain ⟨m2,q2⟩:=un2.tbls b _ q1
       exact ⟨m1++m2,by rw [q2,Jx]⟩
     · exact du hok2 trk7 (fun b o hb=>fly.1 b o (bof _ _ hb)) w8.st
     · intro b o hb
       refine bget b o (stB b o hb) fun z=>?_
       have:=Ga (I.bk b o hb)
       rw [z] at this
       exact He _ this
     · cases z:X.s₀.heap.get? ea with
       | none=>rfl
       | some o=>
         obtain ⟨o1,q4⟩:=hun.there ea o z (nox ea)
         rw [nea] at q4
         cases q4
   unfold PySem.passOn
   refine wpAny_bind (wpAny_field he7 hd h1 ?_)
   rw [if_neg (by simp)]
   first
     | exact fin
     | exact wpAny_bind (wpAny_pure fin)
 cases use <;> exact main
end
section
variable {X:Cx}{e tg iter:Expr}{ifs:List Expr}{emit:Addr->Env->Sem Unit}{sc:Scope}{pos:Pos}{wi:TI}{N':List Str}{src:List (Option Nat)}{g:TG}{tifs:TT}{tm:Addr->TM}{newAcc:Sem Value}{ob:Obj}{accO:HO}{Ex:XK}{L:Addr}
theorem qa {use:Option (Value->Sem Unit)}{Q':Value->Shared->Prop}(hPA:lQ X Ex)(hst:X.stack=X.env :: X.outer)(hex:X.ex=[])(hL:X.env.frame=some L)(hL0:X.s₀.heap.get? L=none)(K:cY X.prog X.w X.A e tg iter ifs emit)(hc:X.calm=true)(S:aC sc X.env.scope)(hcap:bB sc src N' X.N=true)(hi:PI X tg iter wi)
   (hb:∀s H C fp xe D,Passes (cE X.prog X.w X.base) (b6 X N' sc s H C fp xe) Ex->PG (b6 X N' sc s H C fp xe) tg g/\gV (b6 X N' sc s H C fp xe) ifs tifs/\yQ (b6 X N' sc s H C fp xe) (emit D (b6 X N' sc s H C fp xe).env) (tm D)) (N:f6 X newAcc ob accO)
   (hs:∀x,foldedSetIterable iter X.env x=pure x)
   {pins:List (Addr×Obj)} {s:Shared} {σ:St} {H:Hp} {Q:VK} (I:Inv X pins σ H s) (h:cv src accO wi g tifs tm σ H Q)
   (hQ:∀(C D:Addr) (H':Hp) (s':Shared),Inv X pins σ H' s'->Q (.ref D) H'->H' C=none->(∃m,s'.heap.Ns C m)->(∀(σ1:St) (H1:Hp) (s1:Shared) (h':Heap),Inv X pins σ1 H1 s1->H1 C=none->Hl C s1.heap h'->Inv X pins σ1 H1 { s1 with heap:=h' }) ->
     (C≠X.env.locals/\∀x c,X.env.cells.lookup x=some c->c≠C)->compPost (model X.prog X.w) X.A X.xe use Q' (.ref D) C (.ok .next) s') :
   wpAny (model X.prog X.w) X.A (comprehension e sc X.env pos newAcc false (eval iter X.env) use) Q' X.xe s:=by
 refine wpAny_comprehension_free (g:=⟨tg,iter,ifs,0⟩) (gs:=[]) K.cl hs (iI fun p hp hf=>I.ok.has p.1 (S.free p hp hf)) S.kind S.names ?_
 refine aV (hi pins s σ H _ I h) fun v s1 h1=>aV h1 fun itv s2 h2=>?_
 obtain ⟨it,fp,tn,J,H2,e1,I2,T,st2,f2,q2⟩:=h2
 subst e1
 refine N.new s2 _ _ ?_
 have hD:H2 s2.heap.objs.size=none:=I2.hok.fresh (F8 _)
 have hk3:∀b o,s2.heap.get? b=some o->(s2.heap.push ob).get? b=some o:=fun b o e=>F6 _ e
 have I3:Inv X pins σ (upd H2 s2.heap.objs.size accO) { s2 with heap:=s2.heap.push ob }:=I2.laid (t':=s2.toks) hk3 (F8 _) (N.ok pins σ H2 s2 I2)
 have st3:tn 0 (s2.heap.push ob):=T.keep _ _ _ st2 fun b _ o e=>hk3 b o e
 have ob3:∀b∈fp,∃o,(s2.heap.push ob).get? b=some o:=fun b hb=>let ⟨o,e,_⟩:=T.obj _ _ st3 b hb; ⟨o,e⟩
 have f3:∀b∈fp,cU X pins (upd H2 s2.heap.objs.size accO) b:=fun b hb=>by
   refine ⟨?_,(f2 b hb).2⟩
   obtain ⟨o,e,_⟩:=T.obj _ _ st2 b hb
   rw [ai (Gw (Ga e))]
   exact (f2 b hb).1
 have qq:=q2 s2.heap.objs.size hD
 generalize hs3:({ s2 with heap:=s2.heap.push ob }:Shared)=s3 at I3 ⊢
 have hh3:s2.heap.push ob=s3.heap:=by rw [← hs3]
 rw [hh3] at st3 ob3
 generalize s2.heap.objs.size=D at I3 f3 qq hD ⊢
 refine wpAny_newFunctionEnv S.cell (by intro y hy; simp at hy) (fun h₁ hns hsb=>?_) S.kind
 have hns':h₁.Ns s3.heap.objs.size (fun _=>none):=hns
 have hk4:∀b o,s3.heap.get? b=some o->h₁.get? b=some o:=fun b o e=>hsb.extBut b o (Gw (Ga e)) (F6 _ e)
 -- the block
 let R:Result->Shared->Prop:=compPost (model X.prog X.w) X.A X.xe use Q' (.ref D) s3.heap.objs.size
 let X':Cx:=b6 X N' sc s3 (upd H2 D accO) s3.heap.objs.size fp (notedBy (model X.prog X.w) X.A (compEnvC sc (dN sc X.env) s3.heap.objs.size X.env) fun e s'=>R (.error e) s')
 have I4:Inv X' [] (capσ src σ) (upd H2 D accO) { s3 with heap:=h₁,toks:=s3.toks + ([]:List (Str×Value)).length }:=iJ I3 S hcap f3 ob3 hns' hk4
 have st4:tn 0 h₁:=T.keep _ _ _ st3 fun b _ o e=>hk4 b o e
 obtain ⟨hg,hif,hm⟩:=hb s3 (upd H2 D accO) s3.heap.objs.size fp (notedBy (model X.prog X.w) X.A (compEnvC sc (dN sc X.env) s3.heap.objs.size X.env) fun e s'=>R (.error e) s') D (p9 hPA hst hex hL hL0 I3 f3 rfl)
 have f4:∀b∈fp,cU X' [] (upd H2 D accO) b:=fun b hb=>by
   obtain ⟨g0,g1,g2,g3,g4,g5⟩:=f3 b hb
   refine ⟨g0,?_,?_,.inl hb,fun x c e=>?_,fun p hp=>absurd (show p∈([]:List (Addr×Obj)) from hp) (by simp)⟩
   · obtain ⟨o,e⟩:=ob3 b hb
     exact Gw (Ga e)
   · intro z
     rcases List.mem_cons.mp (I3.stkSub b z) with y | y
     · exact g1 y
     · exact g2 y
   · exact g4 x c (kM (GF e)).2
 have fpC:cU X pins (upd H2 D accO) s3.heap.objs.size:=I3.fpOk (F8 _) (I3.hok.fresh (F8 _))
 have loop:∀s4:Shared,s4={ s3 with heap:=h₁,toks:=s3.toks + ([]:List (Str×Value)).length }->codeAny (model X.prog X.w) X.A (.compLoop e 0 (.ref it) (.ref D) X'.env) R s4:=by
   rintro s4 rfl
   refine jR (X:=X') (Z:=fun H'=>Q (.ref D) H') rfl (K.turn it D X'.env) (K.quiet _ _ _) (K.under _ _ _) (K.frame _ _ _) hc T hg hif hm f4 I4 st4 (fun H' s' I' _ z=>?_) qq
   refine hQ s3.heap.objs.size D H' s' (fb I3 f3 I') z I'.free (kO I') (fun σ1 H1 s1 h' I1 n1 hs1=>jP I3 I1 n1 hs1) ⟨fpC.2.1,fun x c e=>fpC.2.2.2.2.1 x c e⟩
 exact K.start R _ (.ref it) (.ref D) X'.env (loop _ rfl) (T.self X.A 0 _ _ _ st4 (loop _ rfl))

theorem ur (hPA:lQ X Ex)(hst:X.stack=X.env :: X.outer)(hex:X.ex=[])(hL:X.env.frame=some L)(hL0:X.s₀.heap.get? L=none)(K:cY X.prog X.w X.A e tg iter ifs emit)(hc:X.calm=true)(S:aC sc X.env.scope)(hcap:bB sc src N' X.N=true)(hi:PI X tg iter wi)
   (hb:∀s H C fp xe D,Passes (cE X.prog X.w X.base) (b6 X N' sc s H C fp xe) Ex->PG (b6 X N' sc s H C fp xe) tg g/\gV (b6 X N' sc s H C fp xe) ifs tifs/\yQ (b6 X N' sc s H C fp xe) (emit D (b6 X N' sc s H C fp xe).env) (tm D)) (N:f6 X newAcc ob accO)
   (hs:∀x,foldedSetIterable iter X.env x=pure x) (he:eval e X.env=comprehension e sc X.env pos newAcc false (eval iter X.env)):PE X e (cv src accO wi g tifs tm):=by
 intro pins s σ H Q I h
 rw [he]
 refine qa (use:=none) hPA hst hex hL hL0 (Q:=Q) K hc S hcap hi hb N hs I h fun C D H' s' I' q hn ⟨m,hm⟩ gone _=>?_
 exact ⟨m,hm,fun h' hs'=>⟨.ref D,H',gone σ H' s' h' I' hn hs',rfl,q⟩⟩
theorem Ao {elt:Expr}{te:TE}(src:List (Option Nat))(N':List Str)(hPA:lQ X Ex)(hst:X.stack=X.env :: X.outer)(hex:X.ex=[])(hL:X.env.frame=some L)(hL0:X.s₀.heap.get? L=none)(hc:X.calm=true)(S:aC sc X.env.scope)(hcap:bB sc src N' X.N=true)(hi:PI X tg iter wi)
   (hb:∀s H C fp xe,Passes (cE X.prog X.w X.base) (b6 X N' sc s H C fp xe) Ex->PG (b6 X N' sc s H C fp xe) tg g/\gV (b6 X N' sc s H C fp xe) ifs tifs/\PE (b6 X N' sc s H C fp xe) elt te)
   (hs:∀x,foldedSetIterable iter X.env x=pure x:=by intro _; rfl):PE X (.ListComp elt [⟨tg,iter,ifs,0⟩] sc pos) (cv src (.lst []) wi g tifs (dQ te)):=
 ur hPA hst hex hL hL0 kL hc S hcap hi (fun s H C fp xe D hp=>⟨(hb s H C fp xe hp).1,(hb s H C fp xe hp).2.1,oi (hb s H C fp xe hp).2.2 D⟩) iB hs rfl
end
end L2
namespace L3
open PySem PySem.Spec PyProof.Rows L2
section
variable {P:Program}{w:World}{K:FX}{mg:Str->Option Value}{base:Heap}{N:List Str}{qual:Str}{scope:Scope}{f:Addr}{cd:Value}{A:Around}{outer:List Env}{s:Shared}{H:Hp}{E:XK}
theorem zg (h:Heap):h.get? h.objs.size=none:=by
 cases z:h.get? h.objs.size with
 | none=>rfl
 | some o=>exact absurd (Ga z) (He _)
/-- [elt for tg in iter if ..],the element may raise -/
theorem FI {tg iter elt:Expr}{ifs:List Expr}{sc:Scope}{pos:Pos}{wi:TI}{g:TG}{tifs:TT}{te:TE}(src:List (Option Nat))(N':List Str)(S:aC sc (bX (cE P w base) P w K mg base N qual scope f cd A outer s H E).env.scope)(hcap:bB sc src N' (bX (cE P w base) P w K mg base N qual scope f cd A outer s H E).N=true)(hi:SI (bX (cE P w base) P w K mg base N qual scope f cd A outer s H E) tg iter wi)
   (hb:∀s' H' C fp xe,Passes (cE P w base) (b6 (bX (cE P w base) P w K mg base N qual scope f cd A outer s H E) N' sc s' H' C fp xe) E->SG (b6 (bX (cE P w base) P w K mg base N qual scope f cd A outer s H E) N' sc s' H' C fp xe) tg g/\By (b6 (bX (cE P w base) P w K mg base N qual scope f cd A outer s H E) N' sc s' H' C fp xe) ifs tifs/\SE (b6 (bX (cE P w base) P w K mg base N qual scope f cd A outer s H E) N' sc s' H' C fp xe) elt te)
   (hs:∀x,foldedSetIterable iter (bX (cE P w base) P w K mg base N qual scope f cd A outer s H E).env x=pure x:=by intro _; rfl):SE (bX (cE P w base) P w K mg base N qual scope f cd A outer s H E) (.ListComp elt [⟨tg,iter,ifs,0⟩] sc pos) (cv src (.lst []) wi g tifs (dQ te)):=
 ⟨Ao src N' (Aj fun _ _ _ h=>h) rfl rfl rfl (zg _) rfl S hcap hi.h (fun s' H' C fp xe hp=>⟨(hb s' H' C fp xe hp).1.h,(hb s' H' C fp xe hp).2.1.h,(hb s' H' C fp xe hp).2.2.h⟩) hs⟩
end
end L3
set_option Elab.async false
set_option linter.all false
set_option maxRecDepth 100000
/-! tokens: what is below a number,a list that is held as it lies,statements from where on so many tokens are taken; text.replace(a,b) -/
namespace L2
open PySem PySem.Spec PyProof.Rows
/-! ### y=[x for x in [texts] if x not in z]: the tokens of what is picked -/
theorem gg:∀xs:List Str,(xs.map V.str).all de=true
 | []=>rfl
 | _ :: xs=>gg xs
/-! ### text.replace(y,l[i]) where l is held -/
end L2
namespace L3
open PySem PySem.Spec PyProof.Rows L2
section
variable {X:Cx}{st:Stmt}{rest:List Stmt}{u1 u2:TS}{N:Nat}
theorem CV {p2 pos:Pos}{a b:Expr}{ta tb:TE}(ha:SE X a ta)(hb:SE X b tb):SE X (.Subscript a (.Slice (some b) none none p2) pos) (A4 xK ta (fZ tb) fY):=⟨dj ot ha.h (cP hb.h) iq⟩
end
end L3
set_option Elab.async false
set_option linter.all false
set_option maxRecDepth 100000
/-! dict(xs),xs a list of pairs whose first parts are tuples -/
namespace L2
open PySem PySem.Spec PyProof.Rows
end L2
namespace L3
open PySem PySem.Spec PyProof.Rows L2
end L3
set_option Elab.async false
set_option linter.all false
set_option maxRecDepth 100000
/-! ### t + u,t empty or not -/
namespace L2
open PySem PySem.Spec PyProof.Rows
end L2
namespace L3
open PySem L2
end L3
set_option Elab.async false
set_option linter.all false
set_option maxRecDepth 100000
/-! ### sort of few items,whatever the comparisons say: the same items in some order -/
namespace L2
open PySem PySem.Spec PyProof.Rows
end L2
set_option Elab.async false
set_option linter.all false
set_option maxRecDepth 100000
/-! ### sorted(d): the keys of a dict,tuples of two whole numbers,in some order -/
namespace L2
open PySem PySem.Spec PyProof.Rows
end L2
set_option Elab.async false
set_option linter.all false
set_option maxRecDepth 100000
/-! ### the keys of a dict,one by one,whatever they are -/
namespace L2
open PySem PySem.Spec PyProof.Rows
end L2
set_option Elab.async false
set_option linter.all false
set_option maxRecDepth 100000
/-! ### sorted(d) -/
namespace L2
open PySem PySem.Spec PyProof.Rows
end L2
set_option Elab.async false
set_option linter.all false
set_option maxRecDepth 100000
/-! ### sorted(d),as a rule -/
namespace L2
open PySem PySem.Spec PyProof.Rows
end L2
namespace L3
open PySem L2
end L3
set_option Elab.async false
set_option linter.all false
set_option maxRecDepth 100000
/-! ### a comprehension within one; a dict comprehension with plain keys; a tuple of anything == a tuple of texts -/
namespace L2
open PySem PySem.Spec PyProof.Rows SeqAt
/-- items of two tuples: plain ones,or a tuple and a text -/
inductive EM (K:FX) (H:Hp):V->V->Bool->Prop where
 | flat {x y:V}:de x=true->de y=true->EM K H x y (l7 x y)
 | text {a:Addr} {zs:List V} {t:Str}:bc K H a zs->EM K H (.ref a) (.str t) false
def CH (K:FX):R2:=fun x y H Q=>∃a c xs ys,∃e:Nat->Bool,x=.ref a/\y=.ref c/\bc K H a xs/\bc K H c ys/\(∀j x y,xs[j]? = some x->ys[j]? = some y->EM K H x y (e j))/\Q (.bl ((HN (min xs.length ys.length)).all e && xs.length == ys.length)) H
end L2
namespace L3
open PySem PySem.Spec PyProof.Rows L2
end L3
set_option Elab.async false
set_option linter.all false
set_option maxRecDepth 100000
/-! ### d.items(),walked by a tuple of names -/
namespace L2
open PySem PySem.Spec PyProof.Rows
/-! ### list(d),a dict of plain keys -/
/-! ### a=b=value -/
end L2
namespace L3
open PySem PySem.Spec PyProof.Rows L2
end L3
set_option Elab.async false
set_option linter.all false
set_option maxRecDepth 100000
/-! ### try .. except T,without a name: any rows -/
namespace L2
open PySem PySem.Spec PyProof.Rows
end L2
namespace L3
open PySem L2
end L3
set_option Elab.async false
set_option linter.all false
set_option maxRecDepth 100000
/-! ### try: x=f(..)[i]; except T: the locals are known at the handler -/
namespace L2
open PySem PySem.Spec PyProof.Rows
end L2
namespace L3
open PySem L2
end L3
set_option Elab.async false
set_option linter.all false
set_option maxRecDepth 100000
namespace L2
open PySem PySem.Spec PyProof.Rows
/-! ### t[::-1],t a tuple -/
end L2
namespace L3
open PySem PySem.Spec PyProof.Rows L2
end L3
set_option Elab.async false
set_option linter.all false
set_option maxRecDepth 100000
/-! ### methods that may refuse; a tuple of anything != a tuple of texts -/
namespace TW
open PySem L2
def bJ (P:Program)(w:World)(K:FX)(mg:Str->Option Value)(base:Heap)(C:Addr)(m:Str)(ps:List Str)(k:Nat)(sp:Sp):Prop:=
 ∃f fd,aN P w K mg base (cE P w base) k f fd ps sp/\Binds K fd ps []/\Meth K C m f
theorem bJ.mono {P:Program}{w:World}{K:FX}{mg:Str->Option Value}{base:Heap}{C:Addr}{m:Str}{ps:List Str}{j k:Nat}{sp:Sp}(h:bJ P w K mg base C m ps j sp)(hk:j<=k):bJ P w K mg base C m ps k sp:=let ⟨f,fd,a,b,c⟩:=h; ⟨f,fd,a.mono hk,b,c⟩
end TW
namespace L2
open PySem PySem.Spec PyProof.Rows SeqAt
section
variable {X:Cx}
theorem Ac (hu:X.A.units + (0 + 1) < cLine):eO X (compareOp .NotEq) (fun x y H Q=>CH X.K x y H fun v H'=>∃b,v=.bl b/\Q (.bl (!b)) H'):=by
 intro pins s σ H x y v u Q I rx ry h
 obtain ⟨a,c,xs,ys,e,rfl,rfl,ha,hb,he,b,eb,k⟩:=h
 cases rx; cases ry
 obtain ⟨us,r1,p1,_⟩:=I.tuple ha
 obtain ⟨vs,r2,p2,_⟩:=I.tuple hb
 have l1:=r1.length
 have l2:=r2.length
 refine RcNeAt.tuples (show s.heap.IsTuple a us.toArray from p1) (show s.heap.IsTuple c vs.toArray from p2) (by omega) (cu (K:=X.K) (e:=e) r1 r2 (fun j x y h1 h2=>?_) hu) X.prog X.w X.xe _ ?_
 · intro A u v ru rv hu
   have q:=he j x y h1 h2
   generalize e j=b at q ⊢
   cases q with
   | flat f1 f2=>exact nh ru rv f1 f2
   | text hz=>
     obtain ⟨ws,_,p3,_⟩:=I.tuple hz
     cases ru
     obtain ⟨tk,rfl⟩:=rv
     exact EqAt.tuple_str _ _ p3 (by omega)
 · rw [show us.toArray.size=xs.length by simp [l1],show vs.toArray.size=ys.length by simp [l2]]
   injection eb with eb
   rw [eb]
   exact ⟨.bl _,H,I,rfl,k⟩
end
end L2
namespace L3
open PySem PySem.Spec PyProof.Rows L2
theorem yv {X:Cx}{KK:FX}(hu:X.A.units + (0 + 1) < cLine)(hK:X.K=KK:=by first | exact cxC_K | rfl):SO X (compareOp .NotEq) (fun x y H Q=>CH KK x y H fun v H'=>∃b,v=.bl b/\Q (.bl (!b)) H'):=by
 subst hK
 exact ⟨Ac hu⟩
section
variable {X:Cx}{o e:Expr}{es:List Expr}{ta:TE}{t:TA}{pos apos:Pos}{m:Str}{C:Addr}{ps:List Str}{kk:Nat}{sp:Sp}{Ex:XK}
theorem tJ {pl:Sem Bool}(hp:Passes (cE X.prog X.w X.base) X Ex)(ho:SE X o ta)(c:mX X.K C)(D:TW.bJ X.prog X.w X.K X.mg X.base C m ps kk sp)(hr:bw kk X.A)(ha:SA X (e :: es) t)
   (ht:eval (.Call (.Attribute o m apos) (e :: es) [] pos) X.env=(do
     let ov ← eval o X.env
     standAt apos.atName
     let (f,first) ← holding [ov] (getMethod ov m pl)
     callWith pos f first (backTo pos (starEach (e :: es) X.env)) (backToKw pos (keywordEach [] X.env))):=by rfl):SE X (.Call (.Attribute o m apos) (e :: es) [] pos) (ky C m sp [] Ex ta t):=
 let ⟨_,_,G,b,hm⟩:=D
 ⟨pD ho.h c hm G hr b .nil hp ha.h.pa ((ha.h.ns e es rfl).1.h es X.env) ((ha.h.ns e es rfl).2 pos X.env) ht⟩
theorem la {pl:Sem Bool}(hp:Passes (cE X.prog X.w X.base) X Ex)(ho:SE X o ta)(c:mX X.K C)(D:TW.bJ X.prog X.w X.K X.mg X.base C m ps kk sp)(hr:bw kk X.A)
   (ht:eval (.Call (.Attribute o m apos) [] [] pos) X.env=(do
     let ov ← eval o X.env
     standAt apos.atName
     let (f,first) ← holding [ov] (getMethod ov m pl)
     callWith pos f first (backTo pos (starEach [] X.env)) (backToKw pos (keywordEach [] X.env))):=by rfl):SE X (.Call (.Attribute o m apos) [] [] pos) (ky C m sp [] Ex ta rG):=
 let ⟨_,_,G,b,hm⟩:=D
 ⟨mM ho.h c hm G hr b .nil hp ht⟩
end
end L3
set_option Elab.async false
set_option linter.all false
set_option maxRecDepth 100000
/-! ### text.upper(),text * number -/
namespace L2
open PySem PySem.Spec PyProof.Rows PySem.Builtin.Str
section
variable {X:Cx}
def uK:V->List V->Hp->VK->Prop:=fun x xs H Q=>∃z:Str,x=.str z/\xs=[]/\tooLong (Hs z).length=false/\Q (.str (Hs z)) H
theorem tN:yb X "str.upper" uK:=by
 intro pins s σ H x xs v us Q I rx rs h
 obtain ⟨z,rfl,rfl,hl,q⟩:=h
 obtain ⟨t,rfl⟩:=rx
 cases rs
 exact call_gives J2 (typeIs_str _ _ _) PySem.F.entry_str_upper (PySem.F.args_str_upper_1 _) (gives_str_upper z t hl) ⟨fit_le hl,.str _,H,I.tok _,⟨_,rfl⟩,q⟩
/-- z,n times -/
def lL (z:Str)(n:Nat):Str:=⟨(Jt n z.cps).foldl (· ++ ·) #[]⟩
def yz:R2:=fun x y H Q=>∃(z:Str) (n:Int),x=.str z/\y=.int n/\(decide (n < -(2 ^ 63:Int)) || decide (n ≥ 2 ^ 63))=false/\¬ n < 1/\(n == 1 || z.length == 0)=false/\¬ ((z.length:Int) > (2 ^ 63 - 1) / n)/\tooLong (z.length * n.toNat)=false/\(lL z n.toNat).length<=sizeLine/\Q (.str (lL z n.toNat)) H
theorem xg:eO X (binaryOp .Mult) yz:=by
 intro pins s σ H x y u v Q I rx ry h
 obtain ⟨z,n,rfl,rfl,hr,h1,h2,hb,hl,hs,q⟩:=h
 obtain ⟨t,rfl⟩:=rx
 obtain ⟨t2,rfl⟩:=ry
 refine PySem.P.mul_str hr (fun _ _=>hb) (fun _ _=>hl) ?_
 rw [if_neg h1,if_neg (by rw [h2]; decide)]
 exact ⟨hs,.str _,H,I.tok _,⟨_,rfl⟩,q⟩
end
end L2
namespace L3
open PySem PySem.Spec PyProof.Rows L2
theorem ua {X:Cx}:SO X (binaryOp .Mult) yz:=⟨xg⟩
theorem yj {X:Cx}{a b i:Expr}{ta tb:TE}{p pos:Pos}(ho:SE X a ta)(hi:SE X (.Subscript b i p) tb):SG X (.Subscript a (.Subscript b i p) pos) (sE ta tb mQ):=⟨lz ho.h hi.h set_list (fun _=>rfl)⟩
theorem upper {X:Cx}{o:Expr}{ta:TE}{apos pos:Pos}{KK:FX}(ho:SE X o ta)(hbase:attributeBase o "upper" X.env (eval o X.env)=eval o X.env:=by rfl)(hline:(apos.endLine == pos.line)=true:=by rfl)(hK:X.K=KK:=by first | exact cxC_K | rfl) :
   SE X (.Call (.Attribute o "upper" apos) [] [] pos) (A0 KK "str" uK ta):=by
 subst hK
 exact ⟨uo IQ J2 PySem.F.type_str_upper tN ho.h hbase hline⟩
end L3
open L3 renaming k->Kx,v->Ky,n->Kz,str->KA,int->KC,op->KD,cons->KG,set->KH,one->KI,lst->KJ,cmp->KL,ix->KN,own->KO,aA->KP,ret->KQ,ifs->KR,tup->KS,aI->KU,cC->KW,nil->KY,aL->KZ,bu->K0,aS->K1,gn->K3,bb->K4,bj->K5,glob->K6,tw->K7,jD->K8,lM->K9,bt->La,bZ->Lb,eQ->Lc,eP->Ld,oQ->Le,dD->Lf,d8->Lg,dY->Lh,ex->Li,asg->Lj,sW->Lk,lp->Ll,fP->Lm,lu->Ln,iL->Lo,fR->Lp,eG->Lq,ei->Lr,mK->Ls,ym->Lu,jb->Lv,fld->Lw,append->Lx,ja->Ly,iD->Lz,lc->LA,qR->LC,Bk->LD,rD->LF,iR->LG,rE->LH,rW->LJ,iC->LK,Cp->LL,bq->LM,neg->LO,sj->LP
set_option Elab.async false
set_option linter.all false
set_option maxRecDepth 100000
set_option exponentiation.threshold 4000
set_option maxHeartbeats 1000000
namespace TW
open PySem L2
section
variable {P:Program}{w:World}{K:FX}{mg:Str->Option Value}{base:Heap}
theorem gf {x qual:Str}{st:Stmt}{f:Addr}{fd:FuncData}{p0:Str}(F:cf K x qual st f fd)(h:∀(kV doc pm:Value) (an:Option Addr) (cdv ct u0:Value),bindArgs (HB x qual (b7 st) (bN st) (ag st) .none kV doc pm an cdv ct) ⟨[u0],[]⟩ = pure (([p0]:List Str).zip [u0])):Binds K fd [p0] []:=F.binds fun kV doc pm an cdv ct us hl=>match us,hl with | [u0],_=>h kV doc pm an cdv ct u0
theorem jr {x qual:Str}{st:Stmt}{f:Addr}{fd:FuncData}{p0 p1:Str}(F:cf K x qual st f fd)(h:∀(kV doc pm:Value) (an:Option Addr) (cdv ct u0 u1:Value),bindArgs (HB x qual (b7 st) (bN st) (ag st) .none kV doc pm an cdv ct) ⟨[u0,u1],[]⟩ = pure (([p0,p1]:List Str).zip [u0,u1])):Binds K fd [p0,p1] []:=F.binds fun kV doc pm an cdv ct us hl=>match us,hl with | [u0,u1],_=>h kV doc pm an cdv ct u0 u1
theorem pX {x qual:Str}{st:Stmt}{f:Addr}{fd:FuncData}{p0 p1 p2:Str}(F:cf K x qual st f fd)(h:∀(kV doc pm:Value) (an:Option Addr) (cdv ct u0 u1 u2:Value),bindArgs (HB x qual (b7 st) (bN st) (ag st) .none kV doc pm an cdv ct) ⟨[u0,u1,u2],[]⟩ = pure (([p0,p1,p2]:List Str).zip [u0,u1,u2])):Binds K fd [p0,p1,p2] []:=F.binds fun kV doc pm an cdv ct us hl=>match us,hl with | [u0,u1,u2],_=>h kV doc pm an cdv ct u0 u1 u2
theorem yZ {x qual:Str}{st:Stmt}{f:Addr}{fd:FuncData}{p0 p1 p2 p3:Str}(F:cf K x qual st f fd)(h:∀(kV doc pm:Value) (an:Option Addr) (cdv ct u0 u1 u2 u3:Value),bindArgs (HB x qual (b7 st) (bN st) (ag st) .none kV doc pm an cdv ct) ⟨[u0,u1,u2,u3],[]⟩ = pure (([p0,p1,p2,p3]:List Str).zip [u0,u1,u2,u3])):Binds K fd [p0,p1,p2,p3] []:=F.binds fun kV doc pm an cdv ct us hl=>match us,hl with | [u0,u1,u2,u3],_=>h kV doc pm an cdv ct u0 u1 u2 u3
def top (i:Nat):Stmt:=PySem.Challenge.pw_twinwalk_k72_rows_of_no_form.main.body.getD i (.Pass ⟨0,0,0,0⟩)
abbrev sCell:Stmt:=top 45
theorem TK.lst {H:Hp}{a:Addr}{xs:List V}{o:HO}(h:H a=some (.lst xs)):TK H (upd H a o):=fun b ys e=>by rw [ai (B6 e h (fun z=>nomatch z))]; exact e
theorem j8 {α β:Type}(f:α->β):∀(l:List α) (i:Nat),(l.eraseIdx i).map f=(l.map f).eraseIdx i
 | [],_=>rfl
 | _ :: _,0=>rfl
 | a :: r,i + 1=>by simp only [Ki,Gi,j8 f r i]
theorem Paired.get {α β:Type}{F:α->β->Prop}:∀{l₁:List α} {l₂:List β} {i:Nat} {x:α},Paired F l₁ l₂->l₁[i]? = some x->∃y,l₂[i]? = some y/\F x y
 | _,_,_,_,.nil,e=>by simp at e
 | _,_,0,_,.cons r _,e=>by simp at e; subst e; exact ⟨_,rfl,r⟩
 | _,_,i + 1,x,.cons _ t,e=>by
   obtain ⟨u,h1,h2⟩:=Paired.get (i:=i) (x:=x) t (by simpa using e)
   exact ⟨u,by simpa using h1,h2⟩
theorem eE {σ:L2.St}{H:Hp}{A B:Hp->Prop}(h:A H):A1 σ H (fun b H3=>if b=true then A H3 else B H3):=bE (A:=A H) (B:=B H) h
theorem ah {i:Nat}{v:V}{σ:L2.St}{H:Hp}{Q:L2.St->Hp->Prop}(h:Q (σ.set i (some v)) H):fJ i v σ H Q:=h
theorem ae {A B C:Hp}(a:ak A B)(b:ak B C):ak A C:=fun p o h=>b p o (a p o h)
theorem same_refl (A:Hp):ak A A:=fun _ _ h=>h
theorem aO {H H':Hp}{a:Addr}(s:ak H H')(h:H' a=none):H a=none:=by
 match e:H a with
 | none=>rfl
 | some o=>rw [s _ _ e] at h; cases h
/-- a list that was laid since: it may be replaced -/
theorem aG {H H':Hp}{a:Addr}{o:HO}(s:ak H H')(h:H a=none):ak H (upd H' a o):=fun b u e=>by rw [ai (aq e h)]; exact s b u e
theorem av {H H':Hp}{a:Addr}{o:HO}(s:ak H H')(h:H' a=none):ak H (upd H' a o):=aG s (aO s h)
theorem bo {α:Type}(f:α->V)(xs:List α){r:Int}(h0:0<=r)(h1:r < (xs.length:Int)):∃x,xs[r.toNat]? = some x/\x∈xs/\jo (xs.map f) r=some (f x):=by
 have hr:r.toNat < xs.length:=by omega
 have e:r=((r.toNat:Nat):Int):=by omega
 have q:jo (xs.map f) ((r.toNat:Nat):Int)=some (f xs[r.toNat]):=eI (by rw [GI,Gb hr]; rfl)
 rw [← e] at q
 exact ⟨xs[r.toNat],Gb hr,IW hr,q⟩
theorem BC {xs:List V}{r:Int}(h0:0<=r)(h1:r < (xs.length:Int)):∃x,xs[r.toNat]? = some x/\jo xs r=some x:=by
 have hr:r.toNat < xs.length:=by omega
 have e:r=((r.toNat:Nat):Int):=by omega
 have q:jo xs ((r.toNat:Nat):Int)=some xs[r.toNat]:=eI (Gb hr)
 rw [← e] at q
 exact ⟨xs[r.toNat],Gb hr,q⟩
/-! ### _law_cell_at -/
def gH (K:FX):Sp:=fun vs H Q _=>∃(a:Addr) (ns:List Int) (k:Int),vs=[.ref a,.int k]/\aw K H a (ns.map V.int)/\0<=k/\∀c:Int,Q (.int c) H
theorem AR:ay ["script","k"] ["script","k"] (ag sCell):=⟨rfl,rfl,rfl,by decide +kernel,rfl,by decide +kernel,by decide +kernel⟩
theorem qh:(ag sCell).names.lookup (F1 "len")=some .globalImplicit:=by decide +kernel
theorem wU {f:Addr}{fd:FuncData}(F:cf K "_law_cell_at" "_law_cell_at" sCell f fd)(m_len:mg "len"=none):aN P w K mg base CX0 1 f fd ["script","k"] (gH K):=by
 refine F.ok AR (fun vs H Q E h=>?_) (fun cdv A outer s H vs Q E hr h=>?_)
 · obtain ⟨a,ns,k,rfl,_⟩:=h
   rfl
 · obtain ⟨a,ns,k,rfl,hs,h0,q⟩:=h
   refine ⟨_,L3.run (KG (KR (KL Ll (Ky 1) (KU K4 qh m_len Gd (Kx (Ky 0) Kz))) (KI (KQ (KN KW (Ky 0) (Ky 1)))) KY)
     (KI (KQ KC))),?_⟩
   refine ⟨_,rfl,_,rfl,a,_,rfl,.inl hs,_,_,rfl,rfl,_,rfl,?_⟩
   refine aE (fun c=>?_) (fun _=>q 0)
   have hk:k < ((ns.map V.int).length:Int):=of_decide_eq_true c
   rw [F0] at hk
   obtain ⟨x,_,_,hat⟩:=bo V.int ns h0 hk
   exact ⟨_,rfl,_,rfl,a,_,_,_,rfl,rfl,hs,hat,q x⟩
theorem sJ (s:Src K mg "_law_cell_at" sCell)(m_len:mg "len"=none):aY P w K mg base "_law_cell_at" ["script","k"] 1 (gH K):=
 let ⟨f,fd,F,m⟩:=s
 ⟨f,fd,wU F m_len,F.kp,jr F fun _ _ _ _ _ _ _ _=>rfl,m⟩
theorem ao {u1 u2:TS}{D:L2.Ends}{σ:L2.St}{H:Hp}(h:∀R:L2.St->Hp->Prop,(∀σ H,u2 D σ H->R σ H)->u1 { D with nx:=R } σ H):gK u1 u2 D σ H:=h _ fun _ _ z=>z
theorem r6 {u1 u2 u3:TS}{D:L2.Ends}{σ:L2.St}{H:Hp}(h:∀R:L2.St->Hp->Prop,(∀σ H,u3 D σ H->R σ H)->gK u1 (gK u2 fun _=>R) D σ H):gK u1 (gK u2 u3) D σ H:=h (u3 D) fun _ _ z=>z
theorem DY {u1 u2 u3 u4:TS}{D:L2.Ends}{σ:L2.St}{H:Hp}(h:∀R:L2.St->Hp->Prop,(∀σ H,u4 D σ H->R σ H)->gK u1 (gK u2 (gK u3 fun _=>R)) D σ H):gK u1 (gK u2 (gK u3 u4)) D σ H:=h (u4 D) fun _ _ z=>z
theorem eV {X:Cx}{ss:List Stmt}{G:TS->Prop}(h:∃t,L3.SL X ss t/\G t):∃t,jI X ss t/\G t:=let ⟨t,a,b⟩:=h; ⟨t,a.h,b⟩
theorem au {F:L2.St->Hp->Prop}{σ:L2.St}{H:Hp}(σ':L2.St)(e:σ=σ')(h:F σ' H):F σ H:=by subst e; exact h
theorem pq {F:L2.St->Hp->Prop}{σ:L2.St}{H:Hp}(H':Hp)(e:H=H')(h:F σ H'):F σ H:=by subst e; exact h
theorem ax {k n:Int}(h:0 < n):0<=k % n:=Int.emod_nonneg _ (by omega)
theorem az {k n:Int}(h:0 < n):k % n < n:=Int.emod_lt_of_pos _ h
theorem zt {a b:Int}(c:decide (V.int a=V.int b)=true):a=b:=by have:=of_decide_eq_true c; injection this
theorem nO {a b:Int}(c:¬ decide (V.int a=V.int b)=true):a≠b:=fun z=>c (decide_eq_true (by rw [z]))
theorem vG {P:V->Prop}{xs:List V}{r:Int}(h0:0<=r)(h1:r < (xs.length:Int))(h:∀x∈xs,P x):∃x,jo xs r=some x/\P x:=let ⟨x,h2,h3⟩:=BC h0 h1; ⟨x,h3,h x (Gx h2)⟩
/-! ### nodes with picks -/
inductive Np where
 | put (x:Str) (s:E) (n:Int) | say (s:E) (n:Int) | test (c:E) (n o:Int) | pick (x:Str) (n:Int) | fin
def dW (H:Hp):V->Np->Prop
 | v,.put x s n=>∃u,Tp H v [.str "put",.str x,u,.int n]/\eT H u s
 | v,.say s n=>∃u,Tp H v [.str "say",u,.int n]/\eT H u s
 | v,.test c n o=>∃u,Tp H v [.str "test",u,.int n,.int o]/\eT H u c
 | v,.pick x n=>Tp H v [.str "pick",.str x,.int n]
 | v,.fin=>Tp H v [.str "end"]
theorem dW.keep {H H':Hp}(k:TK H H'):∀{e:Np} {v:V},dW H v e->dW H' v e
 | .put _ _ _,_,⟨u,h,a⟩=>⟨u,h.keep k,a.keep k⟩
 | .say _ _,_,⟨u,h,a⟩=>⟨u,h.keep k,a.keep k⟩
 | .test _ _ _,_,⟨u,h,a⟩=>⟨u,h.keep k,a.keep k⟩
 | .pick _ _,_,h=>Tp.keep k h
 | .fin,_,h=>Tp.keep k h
theorem cJ {α β:Type}{f:α->β}{l:List α}{i:Nat}{y:β}(h:(l.map f)[i]? = some y):∃x,l[i]? = some x/\y=f x:=by
 rw [GI] at h
 obtain ⟨x,h1,h2⟩:=Option.map_eq_some_iff.mp h
 exact ⟨x,h1,h2.symm⟩
abbrev sStir:Stmt:=top 46
/-! ### _law_stir -/
def aP:Sp:=fun vs H Q _=>∃c k:Int,vs=[.int c,.int k]/\0<=k/\k < 2 ^ 40/\∀r:Int,0<=r->r < 268435456->Q (.int r) H
theorem oq:ay ["cell","k","number"] ["cell","k"] (ag sStir):=⟨rfl,rfl,rfl,by decide +kernel,rfl,by decide +kernel,by decide +kernel⟩
theorem w6 {f:Addr}{fd:FuncData}(F:cf K "_law_stir" "_law_stir" sStir f fd):aN P w K mg base CX0 1 f fd ["cell","k"] aP:=by
 refine F.ok oq (fun vs H Q E h=>?_) (fun cdv A outer s H vs Q E hr h=>?_)
 · obtain ⟨c,k,rfl,_⟩:=h
   rfl
 · obtain ⟨c,k,rfl,k0,k1,q⟩:=h
   refine eV ⟨_,(KG (KR (KL L3.Em (Ky 0) (KD Lv KC KC)) (KI (KQ (KD KP (KD L3.Ca (KD Lm (Ky 0) (KD Lv KC KC)) (KD Lb KC (Ky 1))) (KD Lv KC KC)))) KY)
     (KG (KH 2 oq.nd (KD KP (KD Lb (KD KZ (KD KZ (Ky 0) (KD Lb KC (Ky 1))) KC) KC) KC))
     (KG (KH 2 oq.nd (KD KP (KD Lb (Ky 2) (Ky 2)) KC))
     (KI (KQ (KD K5 (KD KP (KD Lb (Ky 2) KC) KC) KC)))))),?_⟩
   refine ao fun Rk kR=>?_
   refine ⟨_,rfl,_,_,rfl,rfl,⟨by decide,by decide,by decide⟩,_,_,rfl,rfl,_,rfl,?_⟩
   refine aE (fun _=>?_) (fun _=>?_)
   · refine ⟨_,rfl,_,_,rfl,rfl,⟨by decide,by decide,by decide⟩,_,_,rfl,rfl,_,rfl,_,_,rfl,rfl,.inr ⟨by omega,by omega⟩,_,_,rfl,rfl,(by show 0<=28 * k; omega),?_⟩
     refine ⟨_,_,rfl,rfl,⟨by decide,by decide,by decide⟩,_,_,rfl,rfl,(by show (0:Int) < 2 ^ 28; decide),?_⟩
     exact q _ (ax (by decide)) (az (by decide))
   refine kR _ _ ?_
   refine ao fun Rk kR=>?_
   refine ⟨_,rfl,_,rfl,_,_,rfl,rfl,.inr ⟨by omega,by omega⟩,_,_,rfl,rfl,_,_,rfl,rfl,_,_,rfl,rfl,.inr ⟨by decide,by decide⟩,_,_,rfl,rfl,(by show (0:Int) < 2147483647; decide),?_⟩
   obtain ⟨b,eb,b0,b1⟩ : ∃b,b=(c + 1013 * k + 1) * 16807 % 2147483647/\0<=b/\b < 2147483647:=⟨_,rfl,ax (by decide),az (by decide)⟩
   refine ah ?_
   refine kR _ _ ?_
   refine au [some (.int c),some (.int k),some (.int b)] (by subst eb; rfl) ?_
   clear eb
   refine ao fun Rk kR=>?_
   refine ⟨_,rfl,_,rfl,_,_,rfl,rfl,.inl ⟨by omega,by omega⟩,_,_,rfl,rfl,(by show (0:Int) < 2147483629; decide),?_⟩
   refine ah ?_
   refine kR _ _ ?_
   refine ⟨_,rfl,_,_,rfl,rfl,.inr ⟨by decide,by decide⟩,_,_,rfl,rfl,(by show (0:Int) < 2147483587; decide),_,_,rfl,rfl,⟨by decide,by decide +kernel⟩,?_⟩
   obtain ⟨a,ea,a0,a1⟩ : ∃a,a=b * b % 2147483629 * 39373 % 2147483587/\0<=a/\a < 2147483587:=⟨_,rfl,ax (by decide),az (by decide)⟩
   refine q (b * b % 2147483629 * 39373 % 2147483587 / 8) ?_ ?_ <;> rw [← ea] <;> omega
theorem sT (s:Src K mg "_law_stir" sStir)  : aY P w K mg base "_law_stir" ["cell","k"] 1 aP:=
 let ⟨f,fd,F,m⟩:=s
 ⟨f,fd,w6 F ,F.kp,jr F fun _ _ _ _ _ _ _ _=>rfl,m⟩
end
end TW
set_option Elab.async false
set_option linter.all false
set_option maxRecDepth 100000
namespace TW
open PySem L2
/-! ### a def with defaults: dV is the tuple of them -/
/-- a tuple of texts at the top -/
def yS (K:FX)(mg:Str->Option Value)(x:Str)(xs:List Str):Prop:=∃t,mg x=some (.ref t)/\∀H:Hp,bc K H t (xs.map V.str)
theorem p7 {K:FX}{C:Addr}{cd:ClassData}{l:List Value}(h:Jr K C=some cd)(m:cd.mro=l):kN K C=some l:=by
 unfold Jr at h
 unfold kN
 split at h
 · rename_i e
   cases h
   rw [e,← m]
 · cases h
structure DD (K:FX)(mg:Str->Option Value)(T cNoPair cNoPaper cTooMany cNoRow cNoProgram cNoWorths cNoNode cNoChange cNoForm cNoneYet cNoPicks:Addr):Prop where
 t:Xc K mg "TwinError" T vE
 x_NoPair:Xc K mg "NoPair" cNoPair (.ref T :: vE)
 k_NoPair:oJ K cNoPair
 o_NoPair:GV K (.ref cNoPair) []=some false
 v_NoPair:FY K (.ref cNoPair) (.type "ValueError")=some true
 i_NoPair_NoPair:FY K (.ref cNoPair) (.ref cNoPair)=some true
 i_NoPair_NoPaper:FY K (.ref cNoPair) (.ref cNoPaper)=some false
 i_NoPair_TooMany:FY K (.ref cNoPair) (.ref cTooMany)=some false
 i_NoPair_NoRow:FY K (.ref cNoPair) (.ref cNoRow)=some false
 i_NoPair_NoProgram:FY K (.ref cNoPair) (.ref cNoProgram)=some false
 i_NoPair_NoWorths:FY K (.ref cNoPair) (.ref cNoWorths)=some false
 i_NoPair_NoNode:FY K (.ref cNoPair) (.ref cNoNode)=some false
 i_NoPair_NoChange:FY K (.ref cNoPair) (.ref cNoChange)=some false
 i_NoPair_NoForm:FY K (.ref cNoPair) (.ref cNoForm)=some false
 i_NoPair_NoneYet:FY K (.ref cNoPair) (.ref cNoneYet)=some false
 i_NoPair_NoPicks:FY K (.ref cNoPair) (.ref cNoPicks)=some false
 x_NoPaper:Xc K mg "NoPaper" cNoPaper (.ref T :: vE)
 k_NoPaper:oJ K cNoPaper
 o_NoPaper:GV K (.ref cNoPaper) []=some false
 v_NoPaper:FY K (.ref cNoPaper) (.type "ValueError")=some true
 i_NoPaper_NoPair:FY K (.ref cNoPaper) (.ref cNoPair)=some false
 i_NoPaper_NoPaper:FY K (.ref cNoPaper) (.ref cNoPaper)=some true
 i_NoPaper_TooMany:FY K (.ref cNoPaper) (.ref cTooMany)=some false
 i_NoPaper_NoRow:FY K (.ref cNoPaper) (.ref cNoRow)=some false
 i_NoPaper_NoProgram:FY K (.ref cNoPaper) (.ref cNoProgram)=some false
 i_NoPaper_NoWorths:FY K (.ref cNoPaper) (.ref cNoWorths)=some false
 i_NoPaper_NoNode:FY K (.ref cNoPaper) (.ref cNoNode)=some false
 i_NoPaper_NoChange:FY K (.ref cNoPaper) (.ref cNoChange)=some false
 i_NoPaper_NoForm:FY K (.ref cNoPaper) (.ref cNoForm)=some false
 i_NoPaper_NoneYet:FY K (.ref cNoPaper) (.ref cNoneYet)=some false
 i_NoPaper_NoPicks:FY K (.ref cNoPaper) (.ref cNoPicks)=some false
 x_TooMany:Xc K mg "TooMany" cTooMany (.ref T :: vE)
 k_TooMany:oJ K cTooMany
 o_TooMany:GV K (.ref cTooMany) []=some false
 v_TooMany:FY K (.ref cTooMany) (.type "ValueError")=some true
 i_TooMany_NoPair:FY K (.ref cTooMany) (.ref cNoPair)=some false
 i_TooMany_NoPaper:FY K (.ref cTooMany) (.ref cNoPaper)=some false
 i_TooMany_TooMany:FY K (.ref cTooMany) (.ref cTooMany)=some true
 i_TooMany_NoRow:FY K (.ref cTooMany) (.ref cNoRow)=some false
 i_TooMany_NoProgram:FY K (.ref cTooMany) (.ref cNoProgram)=some false
 i_TooMany_NoWorths:FY K (.ref cTooMany) (.ref cNoWorths)=some false
 i_TooMany_NoNode:FY K (.ref cTooMany) (.ref cNoNode)=some false
 i_TooMany_NoChange:FY K (.ref cTooMany) (.ref cNoChange)=some false
 i_TooMany_NoForm:FY K (.ref cTooMany) (.ref cNoForm)=some false
 i_TooMany_NoneYet:FY K (.ref cTooMany) (.ref cNoneYet)=some false
 i_TooMany_NoPicks:FY K (.ref cTooMany) (.ref cNoPicks)=some false
 x_NoRow:Xc K mg "NoRow" cNoRow (.ref T :: vE)
 k_NoRow:oJ K cNoRow
 o_NoRow:GV K (.ref cNoRow) []=some false
 v_NoRow:FY K (.ref cNoRow) (.type "ValueError")=some true
 i_NoRow_NoPair:FY K (.ref cNoRow) (.ref cNoPair)=some false
 i_NoRow_NoPaper:FY K (.ref cNoRow) (.ref cNoPaper)=some false
 i_NoRow_TooMany:FY K (.ref cNoRow) (.ref cTooMany)=some false
 i_NoRow_NoRow:FY K (.ref cNoRow) (.ref cNoRow)=some true
 i_NoRow_NoProgram:FY K (.ref cNoRow) (.ref cNoProgram)=some false
 i_NoRow_NoWorths:FY K (.ref cNoRow) (.ref cNoWorths)=some false
 i_NoRow_NoNode:FY K (.ref cNoRow) (.ref cNoNode)=some false
 i_NoRow_NoChange:FY K (.ref cNoRow) (.ref cNoChange)=some false
 i_NoRow_NoForm:FY K (.ref cNoRow) (.ref cNoForm)=some false
 i_NoRow_NoneYet:FY K (.ref cNoRow) (.ref cNoneYet)=some false
 i_NoRow_NoPicks:FY K (.ref cNoRow) (.ref cNoPicks)=some false
 x_NoProgram:Xc K mg "NoProgram" cNoProgram (.ref T :: vE)
 k_NoProgram:oJ K cNoProgram
 o_NoProgram:GV K (.ref cNoProgram) []=some false
 v_NoProgram:FY K (.ref cNoProgram) (.type "ValueError")=some true
 i_NoProgram_NoPair:FY K (.ref cNoProgram) (.ref cNoPair)=some false
 i_NoProgram_NoPaper:FY K (.ref cNoProgram) (.ref cNoPaper)=some false
 i_NoProgram_TooMany:FY K (.ref cNoProgram) (.ref cTooMany)=some false
 i_NoProgram_NoRow:FY K (.ref cNoProgram) (.ref cNoRow)=some false
 i_NoProgram_NoProgram:FY K (.ref cNoProgram) (.ref cNoProgram)=some true
 i_NoProgram_NoWorths:FY K (.ref cNoProgram) (.ref cNoWorths)=some false
 i_NoProgram_NoNode:FY K (.ref cNoProgram) (.ref cNoNode)=some false
 i_NoProgram_NoChange:FY K (.ref cNoProgram) (.ref cNoChange)=some false
 i_NoProgram_NoForm:FY K (.ref cNoProgram) (.ref cNoForm)=some false
 i_NoProgram_NoneYet:FY K (.ref cNoProgram) (.ref cNoneYet)=some false
 i_NoProgram_NoPicks:FY K (.ref cNoProgram) (.ref cNoPicks)=some false
 x_NoWorths:Xc K mg "NoWorths" cNoWorths (.ref T :: vE)
 k_NoWorths:oJ K cNoWorths
 o_NoWorths:GV K (.ref cNoWorths) []=some false
 v_NoWorths:FY K (.ref cNoWorths) (.type "ValueError")=some true
 i_NoWorths_NoPair:FY K (.ref cNoWorths) (.ref cNoPair)=some false
 i_NoWorths_NoPaper:FY K (.ref cNoWorths) (.ref cNoPaper)=some false
 i_NoWorths_TooMany:FY K (.ref cNoWorths) (.ref cTooMany)=some false
 i_NoWorths_NoRow:FY K (.ref cNoWorths) (.ref cNoRow)=some false
 i_NoWorths_NoProgram:FY K (.ref cNoWorths) (.ref cNoProgram)=some false
 i_NoWorths_NoWorths:FY K (.ref cNoWorths) (.ref cNoWorths)=some true
 i_NoWorths_NoNode:FY K (.ref cNoWorths) (.ref cNoNode)=some false
 i_NoWorths_NoChange:FY K (.ref cNoWorths) (.ref cNoChange)=some false
 i_NoWorths_NoForm:FY K (.ref cNoWorths) (.ref cNoForm)=some false
 i_NoWorths_NoneYet:FY K (.ref cNoWorths) (.ref cNoneYet)=some false
 i_NoWorths_NoPicks:FY K (.ref cNoWorths) (.ref cNoPicks)=some false
 x_NoNode:Xc K mg "NoNode" cNoNode (.ref T :: vE)
 k_NoNode:oJ K cNoNode
 o_NoNode:GV K (.ref cNoNode) []=some false
 v_NoNode:FY K (.ref cNoNode) (.type "ValueError")=some true
 i_NoNode_NoPair:FY K (.ref cNoNode) (.ref cNoPair)=some false
 i_NoNode_NoPaper:FY K (.ref cNoNode) (.ref cNoPaper)=some false
 i_NoNode_TooMany:FY K (.ref cNoNode) (.ref cTooMany)=some false
 i_NoNode_NoRow:FY K (.ref cNoNode) (.ref cNoRow)=some false
 i_NoNode_NoProgram:FY K (.ref cNoNode) (.ref cNoProgram)=some false
 i_NoNode_NoWorths:FY K (.ref cNoNode) (.ref cNoWorths)=some false
 i_NoNode_NoNode:FY K (.ref cNoNode) (.ref cNoNode)=some true
 i_NoNode_NoChange:FY K (.ref cNoNode) (.ref cNoChange)=some false
 i_NoNode_NoForm:FY K (.ref cNoNode) (.ref cNoForm)=some false
 i_NoNode_NoneYet:FY K (.ref cNoNode) (.ref cNoneYet)=some false
 i_NoNode_NoPicks:FY K (.ref cNoNode) (.ref cNoPicks)=some false
 x_NoChange:Xc K mg "NoChange" cNoChange (.ref T :: vE)
 k_NoChange:oJ K cNoChange
 o_NoChange:GV K (.ref cNoChange) []=some false
 v_NoChange:FY K (.ref cNoChange) (.type "ValueError")=some true
 i_NoChange_NoPair:FY K (.ref cNoChange) (.ref cNoPair)=some false
 i_NoChange_NoPaper:FY K (.ref cNoChange) (.ref cNoPaper)=some false
 i_NoChange_TooMany:FY K (.ref cNoChange) (.ref cTooMany)=some false
 i_NoChange_NoRow:FY K (.ref cNoChange) (.ref cNoRow)=some false
 i_NoChange_NoProgram:FY K (.ref cNoChange) (.ref cNoProgram)=some false
 i_NoChange_NoWorths:FY K (.ref cNoChange) (.ref cNoWorths)=some false
 i_NoChange_NoNode:FY K (.ref cNoChange) (.ref cNoNode)=some false
 i_NoChange_NoChange:FY K (.ref cNoChange) (.ref cNoChange)=some true
 i_NoChange_NoForm:FY K (.ref cNoChange) (.ref cNoForm)=some false
 i_NoChange_NoneYet:FY K (.ref cNoChange) (.ref cNoneYet)=some false
 i_NoChange_NoPicks:FY K (.ref cNoChange) (.ref cNoPicks)=some false
 x_NoForm:Xc K mg "NoForm" cNoForm (.ref T :: vE)
 k_NoForm:oJ K cNoForm
 o_NoForm:GV K (.ref cNoForm) []=some false
 v_NoForm:FY K (.ref cNoForm) (.type "ValueError")=some true
 i_NoForm_NoPair:FY K (.ref cNoForm) (.ref cNoPair)=some false
 i_NoForm_NoPaper:FY K (.ref cNoForm) (.ref cNoPaper)=some false
 i_NoForm_TooMany:FY K (.ref cNoForm) (.ref cTooMany)=some false
 i_NoForm_NoRow:FY K (.ref cNoForm) (.ref cNoRow)=some false
 i_NoForm_NoProgram:FY K (.ref cNoForm) (.ref cNoProgram)=some false
 i_NoForm_NoWorths:FY K (.ref cNoForm) (.ref cNoWorths)=some false
 i_NoForm_NoNode:FY K (.ref cNoForm) (.ref cNoNode)=some false
 i_NoForm_NoChange:FY K (.ref cNoForm) (.ref cNoChange)=some false
 i_NoForm_NoForm:FY K (.ref cNoForm) (.ref cNoForm)=some true
 i_NoForm_NoneYet:FY K (.ref cNoForm) (.ref cNoneYet)=some false
 i_NoForm_NoPicks:FY K (.ref cNoForm) (.ref cNoPicks)=some false
 x_NoneYet:Xc K mg "NoneYet" cNoneYet (.ref T :: vE)
 k_NoneYet:oJ K cNoneYet
 o_NoneYet:GV K (.ref cNoneYet) []=some false
 v_NoneYet:FY K (.ref cNoneYet) (.type "ValueError")=some true
 i_NoneYet_NoPair:FY K (.ref cNoneYet) (.ref cNoPair)=some false
 i_NoneYet_NoPaper:FY K (.ref cNoneYet) (.ref cNoPaper)=some false
 i_NoneYet_TooMany:FY K (.ref cNoneYet) (.ref cTooMany)=some false
 i_NoneYet_NoRow:FY K (.ref cNoneYet) (.ref cNoRow)=some false
 i_NoneYet_NoProgram:FY K (.ref cNoneYet) (.ref cNoProgram)=some false
 i_NoneYet_NoWorths:FY K (.ref cNoneYet) (.ref cNoWorths)=some false
 i_NoneYet_NoNode:FY K (.ref cNoneYet) (.ref cNoNode)=some false
 i_NoneYet_NoChange:FY K (.ref cNoneYet) (.ref cNoChange)=some false
 i_NoneYet_NoForm:FY K (.ref cNoneYet) (.ref cNoForm)=some false
 i_NoneYet_NoneYet:FY K (.ref cNoneYet) (.ref cNoneYet)=some true
 i_NoneYet_NoPicks:FY K (.ref cNoneYet) (.ref cNoPicks)=some false
 x_NoPicks:Xc K mg "NoPicks" cNoPicks (.ref T :: vE)
 k_NoPicks:oJ K cNoPicks
 o_NoPicks:GV K (.ref cNoPicks) []=some false
 v_NoPicks:FY K (.ref cNoPicks) (.type "ValueError")=some true
 i_NoPicks_NoPair:FY K (.ref cNoPicks) (.ref cNoPair)=some false
 i_NoPicks_NoPaper:FY K (.ref cNoPicks) (.ref cNoPaper)=some false
 i_NoPicks_TooMany:FY K (.ref cNoPicks) (.ref cTooMany)=some false
 i_NoPicks_NoRow:FY K (.ref cNoPicks) (.ref cNoRow)=some false
 i_NoPicks_NoProgram:FY K (.ref cNoPicks) (.ref cNoProgram)=some false
 i_NoPicks_NoWorths:FY K (.ref cNoPicks) (.ref cNoWorths)=some false
 i_NoPicks_NoNode:FY K (.ref cNoPicks) (.ref cNoNode)=some false
 i_NoPicks_NoChange:FY K (.ref cNoPicks) (.ref cNoChange)=some false
 i_NoPicks_NoForm:FY K (.ref cNoPicks) (.ref cNoForm)=some false
 i_NoPicks_NoneYet:FY K (.ref cNoPicks) (.ref cNoneYet)=some false
 i_NoPicks_NoPicks:FY K (.ref cNoPicks) (.ref cNoPicks)=some true
theorem dJ {K:FX}{h:Heap}{mg:Str->Option Value}{x:Str}{C:Addr}{cd:ClassData}{tl:List Value}(X:K.In h)(G:h.Ns mainGlobals mg)(a:J9 K mainGlobals x=some (some (.ref C)))(e:JS K C vE "ValueError.__new__"=true)(l:Jr K C=some cd)(m:cd.mro=.ref C :: tl):Xc K mg x C tl:=⟨GO X G a,e,p7 l m⟩
theorem cA {K:FX}{C:Addr}{cd:ClassData}(ga:GW K (.ref C) "__getattribute__"=some (some (.builtin "BaseException.__getattribute__")))(gn:GW K (.ref C) "__getattr__"=some none)(ha:GW K (.ref C) "__class__"=some (some (.builtin "object.__class__")))(hn:PySem.W.specialIn K (.builtin "object.__class__") "__get__"=some (some (.builtin "getset_descriptor.__get__")))(htk:PySem.W.takesIn K (.builtin "object.__class__")=some true)(hm:PySem.W.mroIn K C (.type "object")=some true)(hb:PySem.W.mroIn K C (.type "BaseException")=some true)(l:Jr K C=some cd):oJ K C:=⟨ga,gn,ha,hn,htk,hm,hb,by rw [l]; rfl⟩
theorem pP {K:FX}{h:Heap}{mg:Str->Option Value}{x:Str}{t:Addr}{od:Option Addr}{sl:Array (Option Value)}{n:Nat}{us:Array Value}{xs:List Str}(X:K.In h)(G:h.Ns mainGlobals mg)(a:J9 K mainGlobals x=some (some (.ref t)))(l:K.lookup t=some ⟨.type "tuple",od,.seq us n,sl⟩)(b:us.size<=sizeLine)(e:us.toList.length=xs.length)(r:Vals (xs.map V.str) us.toList):yS K mg x xs:=⟨_,GO X G a,fun _=>.inr ⟨_,_,_,l,rfl,rfl,b,r⟩⟩
theorem aH {K:FX}{h:Heap}{mg:Str->Option Value}{x:Str}{st:Stmt}{od an:Option Addr}{sl:Array (Option Value)}{oc kV dc pm cd ct:Value}{f:Addr}(X:K.In h)(G:h.Ns mainGlobals mg)(a:J9 K mainGlobals x=some (some (.ref f)))
   (l:K.lookup f=some ⟨oc,od,.func (HB x x (b7 st) (bN st) (ag st) .none kV dc pm an cd ct),sl⟩) (c:Jd K cd x=true) (k:HL K (.ref f)=true):Src K mg x st:=⟨_,_,dZ l c k,GO X G a⟩
theorem pj {w:World}{K:FX}{a:Addr}{kvs:List (Str×V)}{es:Array DictEntry}{n:Nat}(l:K.lookup a=some ⟨.type "dict",none,.dict es n,#[]⟩)(hk:PySem.W.KeysLit w.params es.toList)(hs:(a == sysModules)=false)(p:Paired (fun (e:DictEntry) (q:Str×V)=>(∃t,e.key=.str q.1 t)/\RelV q.2 e.val) es.toList kvs):dM w K a kvs:=⟨es,n,l,hk,hs,p⟩
theorem tw_mk {K:FX}{t:Addr}{vs:List V}{n2:Nat}{od:Option Addr}{sl:Array (Option Value)}{us:Array Value}(lt:K.lookup t=some ⟨.type "tuple",od,.seq us n2,sl⟩)(b:us.size<=sizeLine)(r:Vals vs us.toList):∀H:Hp,bc K H t vs:=fun _=>.inr ⟨_,_,_,lt,rfl,rfl,b,r⟩
theorem uE:Paired (fun (e:DictEntry) (q:Str×V)=>(∃t,e.key=.str q.1 t)/\RelV q.2 e.val) [] []:=.nil
theorem pE {e:DictEntry}{q:Str×V}{l:List DictEntry}{l2:List (Str×V)}(h1:∃t,e.key=.str q.1 t)(h2:RelV q.2 e.val)(t:Paired (fun (e:DictEntry) (q:Str×V)=>(∃t,e.key=.str q.1 t)/\RelV q.2 e.val) l l2):Paired (fun (e:DictEntry) (q:Str×V)=>(∃t,e.key=.str q.1 t)/\RelV q.2 e.val) (e :: l) (q :: l2):=.cons ⟨h1,h2⟩ t
def DA (w:World)(K:FX)(mg:Str->Option Value)(x:Str)(kvs:List (Str×V)):Prop:=∃a,mg x=some (.ref a)/\dM w K a kvs
def Dw (w:World)(K:FX)(mg:Str->Option Value)(x:Str)(kvs:List (Str×List Str)):Prop:=∃a ts,mg x=some (.ref a)/\dM w K a ((kvs.map (·.1)).zip (ts.map V.ref))/\Paired (fun (t:Addr) (q:Str×List Str)=>∀H:Hp,bc K H t (q.2.map V.str)) ts kvs
def lT (mg:Str->Option Value)(x s:Str):Prop:=∃t,mg x=some (.str s t)
def kD (mg:Str->Option Value)(x:Str)(n:Int):Prop:=∃t,mg x=some (.int n t)
def vN (s:Stmt):List Stmt:=match s with
 | .ClassDef _ _ _ b _ _ _ _ _ _ _=>b
 | _=>[]
def dB (i j:Nat):Stmt:=(vN (top i)).getD j (.Pass ⟨0,0,0,0⟩)
def fq (K:FX)(C:Addr):List Str->Prop
 | []=>True
 | f :: fs=>cj K C f/\fq K C fs
theorem fq.get {K:FX}{C:Addr}:∀{fs:List Str} {f:Str},fq K C fs->f∈fs->cj K C f
 | g :: fs,f,h,hf=>by
   rcases List.mem_cons.mp hf with rfl | hf
   · exact h.1
   · exact fq.get h.2 hf
structure kC (K:FX)(mg:Str->Option Value)(x:Str)(C:Addr)(fs:List Str):Prop where
 m:mg x=some (.ref C)
 c:mX K C
 na:fq K C fs
def oH (K:FX)(C:Addr)(q:Str)(st:Stmt):Prop:=∃f fd,cf K "__init__" q st f fd/\Mk K C f
def bG (K:FX)(C:Addr)(x q:Str)(st:Stmt):Prop:=∃f fd,cf K x q st f fd/\Meth K C x f
structure Bz (w:World)(K:FX)(mg:Str->Option Value):Prop where
 s_program_of:Src K mg "program_of" (top 16)
 s_refuse_boxes:Src K mg "refuse_boxes" (top 17)
 s_refuse_inputs:Src K mg "refuse_inputs" (top 18)
 s_refuse_nodes:Src K mg "refuse_nodes" (top 19)
 s_leads_of:Src K mg "leads_of" (top 20)
 s_told_by:Src K mg "told_by" (top 21)
 s_refuse_unknown:Src K mg "refuse_unknown" (top 22)
 s_all_known:Src K mg "all_known" (top 23)
 s_picked_program:Src K mg "picked_program" (top 25)
 s_read_atom:Src K mg "read_atom" (top 37)
 s_read_sum:Src K mg "read_sum" (top 38)
 s_read_test:Src K mg "read_test" (top 39)
 s_read_condition:Src K mg "read_condition" (top 40)
 s_read_word:Src K mg "read_word" (top 41)
 s_read_row:Src K mg "read_row" (top 42)
 s_read_program:Src K mg "read_program" (top 43)
 s_law_cell_at:Src K mg "_law_cell_at" (top 45)
 s_law_stir:Src K mg "_law_stir" (top 46)
 s_law_names:Src K mg "_law_names" (top 47)
 s_law_number:Src K mg "_law_number" (top 48)
 s_law_sum:Src K mg "_law_sum" (top 49)
 s_law_condition:Src K mg "_law_condition" (top 50)
 s_law_grown_sum:Src K mg "_law_grown_sum" (top 51)
 s_law_grown_condition:Src K mg "_law_grown_condition" (top 52)
 s_law_word:Src K mg "_law_word" (top 53)
 s_law_any_sum:Src K mg "_law_any_sum" (top 54)
 s_law_any_condition:Src K mg "_law_any_condition" (top 55)
 s_law_node:Src K mg "_law_node" (top 56)
 s_law_program:Src K mg "_law_program" (top 57)
 s_law_bad:Src K mg "_law_bad" (top 58)
 s_law_refused:Src K mg "_law_refused" (top 59)
 s_law_spoilt:Src K mg "_law_spoilt" (top 60)
 s_law_exchanged:Src K mg "_law_exchanged" (top 61)
 s_law_moved:Src K mg "_law_moved" (top 62)
 s_law:Src K mg "law" (top 63)
 c_PARTED:yS K mg "PARTED" ["plus","less","same","under","not","both"]
 c_NAMELESS:yS K mg "NAMELESS" ["number","yes"]
 c_LETTERS:lT mg "LETTERS" "abcdefghijklmnopqrstuvwxyz"
 c_FIGURES:lT mg "FIGURES" "0123456789"
 c_MOST_FIGURES:kD mg "MOST_FIGURES" 30
 c_MOST_LETTERS:kD mg "MOST_LETTERS" 8
 c_SIGN_SUMS:DA w K mg "SIGN_SUMS" [("+",.str "plus"),("-",.str "less")]
 c_SIGN_TESTS:DA w K mg "SIGN_TESTS" [("=",.str "same"),("<",.str "under")]
 c_FORMS:Dw w K mg "FORMS" [("box",["name","number"]),("input",["name"]),("put",["name","sum","number"]),("say",["sum","number"]),("test",["condition","number","number"]),("pick",["name","number"]),("end",[])]
 c_RANKS:DA w K mg "RANKS" [("box",.int 0),("input",.int 1)]
 c_NODE_RANK:kD mg "NODE_RANK" 2
 k_Reader:∃C,kC K mg "Reader" C ["word","place"]/\oH K C "Reader.__init__" (dB 36 0)/\bG K C "sign" "Reader.sign" (dB 36 1)/\bG K C "taken" "Reader.taken" (dB 36 2)/\bG K C "due" "Reader.due" (dB 36 3)/\bG K C "stretch" "Reader.stretch" (dB 36 4)/\bG K C "number" "Reader.number" (dB 36 5)/\bG K C "name" "Reader.name" (dB 36 6)
 cl:∃T cNoPair cNoPaper cTooMany cNoRow cNoProgram cNoWorths cNoNode cNoChange cNoForm cNoneYet cNoPicks,DD K mg T cNoPair cNoPaper cTooMany cNoRow cNoProgram cNoWorths cNoNode cNoChange cNoForm cNoneYet cNoPicks
 m_len:mg "len"=none
 m_list:mg "list"=none
 m_range:mg "range"=none
 m_zip:mg "zip"=none
 m_int:mg "int"=none
 m_isinstance:mg "isinstance"=none
 m_set:mg "set"=none
 m_tuple:mg "tuple"=none
 m_sum:mg "sum"=none
 m_enumerate:mg "enumerate"=none
 m_str:mg "str"=none
 m_ValueError:mg "ValueError"=none
end TW
set_option Elab.async false
set_option linter.all false
set_option maxRecDepth 100000
set_option exponentiation.threshold 4000
set_option maxHeartbeats 1000000
namespace TW
open PySem L2
section
variable {P:Program}{w:World}{K:FX}{mg:Str->Option Value}{base:Heap}
/-! ### sums and conditions as texts -/
def K2.sign:K2->Str
 | .plus=>"+" | .less=>"-" | .same=>"=" | .under=>"<" | .both=>"&"
def E.txt:E->Str
 | .num n=>F1 (toString n)
 | .box _ x=>x
 | .yes=>"yes"
 | .nt a=>"!"++a.txt
 | .two .plus a b=>"("++(a.txt++K2.sign .plus++b.txt)++")"
 | .two .less a b=>"("++(a.txt++K2.sign .less++b.txt)++")"
 | .two .same a b=>a.txt++K2.sign .same++b.txt
 | .two .under a b=>a.txt++K2.sign .under++b.txt
 | .two .both a b=>"{"++(a.txt++K2.sign .both++b.txt)++"}"
def E.sz:E->Nat
 | .num _=>31 | .box _ _=>8 | .yes=>3 | .nt a=>a.sz + 1 | .two _ a b=>a.sz + b.sz + 3
/-- a name: letters -/
structure dU (x:Str):Prop where
 l1:1<=x.length
 l8:x.length<=8
 lt:∀c∈x.cps.toList,97<=c/\c < 123
/-- numbers that can be written and read,boxes of these names -/
def E.okN (P:Str->Prop):E->Prop
 | .num n=>0<=n/\n < 10 ^ 30 | .box t x=>t="box"/\P x | .yes=>True | .nt a=>a.okN P | .two _ a b=>a.okN P/\b.okN P
theorem E.okN.imp {P Q:Str->Prop}(f:∀x,P x->Q x):∀{e:E},e.okN P->e.okN Q
 | .num _,h=>h | .box t x,h=>⟨h.1,f x h.2⟩ | .yes,_=>GD | .nt a,h=>E.okN.imp f (e:=a) h | .two _ a b,h=>⟨E.okN.imp f (e:=a) h.1,E.okN.imp f (e:=b) h.2⟩
theorem nZ {n:Int}(h:0<=n/\n < 10 ^ 30):n.natAbs < 2 ^ 100:=by
 have:n < 1000000000000000000000000000000:=h.2
 have h0:=h.1
 omega
theorem d6 {n:Int}(h:n.natAbs < 2 ^ 100):n.natAbs.log2 < 100:=by
 by_cases z:n.natAbs=0
 · rw [z]; decide
 · exact (Nat.log2_lt z).mpr h
theorem wN {n:Int}(h:n.natAbs < 2 ^ 100):(F1 (toString n)).length<=101:=by
 rw [Iu]
 exact int_text_length_le (by decide) (d6 h)
theorem aQ {n:Int}(h:0<=n/\n < 10 ^ 30):(F1 (toString n)).length<=31:=by
 rw [Iu]
 refine int_text_length_le10 (k:=30) (by decide) ?_
 have:n < 1000000000000000000000000000000:=h.2
 have h0:=h.1
 omega
theorem E.txt_len:∀{e:E},e.okN dU->e.txt.length<=e.sz
 | .num n,h=>aQ h
 | .box _ x,h=>h.2.l8
 | .yes,_=>(by decide:3<=3)
 | .nt a,h=>by
   have:=E.txt_len (e:=a) h
   show ("!"++a.txt).length<=a.sz + 1
   rw [strLen_append,show (("!":Str)).length=1 from rfl]
   omega
 | .two k a b,h=>by
   have h1:=E.txt_len (e:=a) h.1
   have h2:=E.txt_len (e:=b) h.2
   have h3:(E.two k a b).txt.length<=a.txt.length + b.txt.length + 3:=by
     have e1:(("(":Str)).length=1:=rfl
     have e2:((")":Str)).length=1:=rfl
     have e3:(K2.sign .plus).length=1:=rfl
     have e4:(K2.sign .less).length=1:=rfl
     have e5:(K2.sign .same).length=1:=rfl
     have e6:(K2.sign .under).length=1:=rfl
     have e7:(K2.sign .both).length=1:=rfl
     have e8:(("{":Str)).length=1:=rfl
     have e9:(("}":Str)).length=1:=rfl
     cases k <;> simp only [E.txt,strLen_append] <;> omega
   show _<=a.sz + b.sz + 3
   omega
/-- a sum that can be written -/
structure rT (n:Nat)(e:E):Prop where
 is:e.isS
 ok:e.okN dU
 sz:e.sz<=4000
 dp:e.dep < n
structure rS (n:Nat)(e:E):Prop where
 is:e.isC
 ok:e.okN dU
 sz:e.sz<=4000
 dp:e.dep < n
theorem rT.len {n:Nat}{e:E}(h:rT n e):e.txt.length<=4000:=F2 (E.txt_len h.ok) h.sz
theorem rS.len {n:Nat}{e:E}(h:rS n e):e.txt.length<=4000:=F2 (E.txt_len h.ok) h.sz
theorem fit {n:Nat}(h:n<=600000):n<=sizeLine:=F2 h (by decide)
/-! ### words -/
def yc (H:Hp)(kind:Str)(v:V)(x:Str):Prop:=
 (kind="sum"/\∃e,eT H v e/\rT 30 e/\x=e.txt)\/(kind="condition"/\∃e,eT H v e/\rS 30 e/\x=e.txt)\/(kind="name"/\v=.str x/\dU x)\/(kind="number"/\∃i:Int,v=.int i/\(0<=i/\i < 10 ^ 30)/\x=F1 (toString i))
theorem yc.len {H:Hp}{kind x:Str}{v:V}(h:yc H kind v x):x.length<=4000:=by
 rcases h with ⟨_,e,_,h,rfl⟩ | ⟨_,e,_,h,rfl⟩ | ⟨_,_,h⟩ | ⟨_,i,_,h,rfl⟩
 · exact h.len
 · exact h.len
 · exact F2 h.l8 (by decide)
 · exact F2 (aQ h) (by decide)
end
end TW
set_option Elab.async false
set_option linter.all false
set_option maxRecDepth 100000
set_option exponentiation.threshold 4000
set_option maxHeartbeats 1000000
namespace TW
open PySem L2
section
variable {P:Program}{w:World}{K:FX}{mg:Str->Option Value}{base:Heap}
/-! ### rows -/
abbrev formsL:List (Str×List Str):=[("box",["name","number"]),("input",["name"]),("put",["name","sum","number"]),("say",["sum","number"]),("test",["condition","number","number"]),("pick",["name","number"]),("end",[])]
structure W3 (H:Hp)(ks:List Str)(vs:List V)(xs:List Str):Prop where
 l1:ks.length=vs.length
 l2:ks.length=xs.length
 at_:∀(i:Nat) (k x:Str) (v:V),ks[i]? = some k->vs[i]? = some v->xs[i]? = some x->yc H k v x
theorem W3.nil {H:Hp}:W3 H [] [] []:=⟨rfl,rfl,fun i _ _ _ h=>by simp at h⟩
theorem W3.cons {H:Hp}{k x:Str}{v:V}{ks xs:List Str}{vs:List V}(a:yc H k v x)(h:W3 H ks vs xs):W3 H (k :: ks) (v :: vs) (x :: xs):=⟨by simp [h.l1],by simp [h.l2],fun i a' b' c' h1 h2 h3=>by
 match i,h1,h2,h3 with
 | 0,h1,h2,h3=>
   simp at h1 h2 h3
   subst h1 h2 h3
   exact a
 | i + 1,h1,h2,h3=>exact h.at_ i a' b' c' (by simpa using h1) (by simpa using h2) (by simpa using h3)⟩
/-- a tuple that is a row of these words -/
structure lR (H:Hp)(v:V)(head:Str)(xs:List Str):Prop where
 ex:∃(ks:List Str) (vals:List V),Tp H v (.str head :: vals)/\(head,ks)∈formsL/\W3 H ks vals xs
theorem lR.len {H:Hp}{v:V}{head:Str}{xs:List Str}(h:lR H v head xs):xs.length<=3/\head.length<=5/\∀x∈xs,x.length<=4000:=by
 obtain ⟨ks,vals,a,b,c⟩:=h.ex
 have all:∀q∈formsL,q.2.length<=3/\q.1.length<=5:=by decide +kernel
 have h3:=all _ b
 refine ⟨by rw [← c.l2]; exact h3.1,h3.2,fun x hx=>?_⟩
 obtain ⟨i,hi,e⟩:=List.getElem_of_mem hx
 have e1:xs[i]? = some x:=by rw [Gb hi,e]
 have hk:i < ks.length:=by rw [c.l2]; exact hi
 have hv:i < vals.length:=by rw [← c.l1]; exact hk
 exact (c.at_ i _ _ _ (Gb hk) (Gb hv) e1).len
theorem dz {z:Str}{ts:List Str}(B:Nat)(hB:∀y∈ts,y.length<=B)(h:ts.length * B + ts.length * z.length<=16777216):JoinOk z ts=true:=by
 unfold JoinOk
 rw [StrLaws.joinFits hB h]
 rfl
theorem AN {H:Hp}{v:V}{head:Str}{xs:List Str}(h:lR H v head xs):JoinOk " " (head :: xs)=true:=by
 obtain ⟨h3,h5,hl⟩:=h.len
 refine dz 4000 (fun y hy=>?_) ?_
 · rcases List.mem_cons.mp hy with e | e
   · rw [e]; omega
   · exact hl y e
 · rw [F5,show ((" ":Str)).length=1 from rfl]
   omega
theorem lA {H:Hp}{v:V}{head:Str}{xs:List Str}(h:lR H v head xs):(Gg " " (head :: xs)).length<=12100:=by
 obtain ⟨h3,h5,hl⟩:=h.len
 show (GZ " " (head :: xs)).length<=_
 rw [StrLaws.glued_eq_join]
 refine F2 (StrLaws.join_length_le _ _) ?_
 have e:∀(l:List Str),(∀x∈l,x.length<=4000)->(l.map (·.length)).sum<=l.length * 4000:=by
   intro l
   induction l with
   | nil=>intro _; exact F8 _
   | cons a l ih=>
     intro h
     have h1:=ih fun x hx=>h x (F7 _ hx)
     have h2:=h a F4
     rw [Gi,GN,F5]
     omega
 have:=e xs hl
 rw [Gi,GN,F5,show ((" ":Str)).length=1 from rfl]
 omega
theorem r9 (a:V)(r:List V):dO (a :: r) (some 1) none=r:=by
 unfold dO
 have e1:HT.fm (a :: r).length 0 (some ((1:Nat):Int))=min 1 (a :: r).length:=HT.cS _ _ _
 rw [show ((1:Int))=((1:Nat):Int) from rfl,e1,HT.mR,F5,Nat.min_eq_left (by omega)]
 simp
theorem oK {a:V}{r:List V}:jo (a :: r) 0=some a:=eI (xs:=a :: r) (j:=0) rfl
/-! ### the whole text -/
def kF (b:Str×Int):List Str:=["box",b.1,F1 (toString b.2)]
def wq (x:Str):List Str:=["input",x]
def Np.ws:Np->List Str
 | .put x s n=>["put",x,s.txt,F1 (toString n)]
 | .say s n=>["say",s.txt,F1 (toString n)]
 | .test c n o=>["test",c.txt,F1 (toString n),F1 (toString o)]
 | .pick x n=>["pick",x,F1 (toString n)]
 | .fin=>["end"]
/-- a node that can be written -/
def Np.wr:Np->Prop
 | .put x s n=>dU x/\rT 30 s/\0<=n/\n < 10 ^ 30
 | .say s n=>rT 30 s/\0<=n/\n < 10 ^ 30
 | .test c n o=>rS 30 c/\(0<=n/\n < 10 ^ 30)/\0<=o/\o < 10 ^ 30
 | .pick x n=>dU x/\0<=n/\n < 10 ^ 30
 | .fin=>True
theorem yc.nm {H:Hp}{x:Str}(h:dU x):yc H "name" (.str x) x:=.inr (.inr (.inl ⟨rfl,rfl,h⟩))
theorem yc.no {H:Hp}{n:Int}(h:0<=n/\n < 10 ^ 30):yc H "number" (.int n) (F1 (toString n)):=.inr (.inr (.inr ⟨rfl,n,rfl,h,rfl⟩))
theorem Np.rowAt {H:Hp}:∀{e:Np} {v:V},dW H v e->e.wr->∃hd xs,lR H v hd xs/\e.ws=hd :: xs
 | .put x s n,v,⟨u,h,a⟩,⟨w1,w2,w3⟩=>⟨_,_,⟨_,_,h,by decide,.cons (.nm w1) (.cons (.inl ⟨rfl,s,a,w2,rfl⟩) (.cons (.no w3) .nil))⟩,rfl⟩
 | .say s n,v,⟨u,h,a⟩,⟨w2,w3⟩=>⟨_,_,⟨_,_,h,by decide,.cons (.inl ⟨rfl,s,a,w2,rfl⟩) (.cons (.no w3) .nil)⟩,rfl⟩
 | .test c n o,v,⟨u,h,a⟩,⟨w2,w3,w4⟩=>⟨_,_,⟨_,_,h,by decide,.cons (.inr (.inl ⟨rfl,c,a,w2,rfl⟩)) (.cons (.no w3) (.cons (.no w4) .nil))⟩,rfl⟩
 | .pick x n,v,h,⟨w1,w3⟩=>⟨_,_,⟨_,_,h,by decide,.cons (.nm w1) (.cons (.no w3) .nil)⟩,rfl⟩
 | .fin,v,h,_=>⟨_,_,⟨_,_,h,by decide,.nil⟩,rfl⟩
abbrev sp1:Str:=" "
def textOf (bs:List (Str×Int))(ins:List Str)(nds:List Np):List Str:=bs.map (fun b=>Gg sp1 (kF b))++ins.map (fun x=>Gg sp1 (wq x))++nds.map (fun e=>Gg sp1 e.ws)
structure DH (bs:List (Str×Int))(ins:List Str)(nds:List Np):Prop where
 b:∀x∈bs,dU x.1/\0<=x.2/\x.2 < 10 ^ 30
 i:∀x∈ins,dU x
 n:∀x∈nds,x.wr
 lb:bs.length<=4
 li:ins.length<=4
 ln:nds.length<=400
structure Bw (H:Hp)(B I N:Addr)(vb vn:List V)(bs:List (Str×Int))(ins:List Str)(nds:List Np):Prop where
 hB:H B=some (.lst vb)
 hI:H I=some (.lst (ins.map V.str))
 hN:H N=some (.lst vn)
 pb:Paired (iy H) vb bs
 pn:Paired (dW H) vn nds
end
end TW
set_option Elab.async false
set_option linter.all false
set_option maxRecDepth 100000
set_option exponentiation.threshold 4000
set_option maxHeartbeats 1000000
namespace TW
open PySem L2
section
variable {P:Program}{w:World}{K:FX}{mg:Str->Option Value}{base:Heap}
abbrev sRInit:Stmt:=dB 36 0
abbrev sRSign:Stmt:=dB 36 1
abbrev sRTaken:Stmt:=dB 36 2
abbrev sRDue:Stmt:=dB 36 3
abbrev sRStr:Stmt:=dB 36 4
abbrev sRNum:Stmt:=dB 36 5
abbrev sRName:Stmt:=dB 36 6
/-! ### signs of a text -/
def SN (l:List Nat):Str:=⟨l.toArray⟩
theorem bM (l:List Nat):(SN l).cps.toList=l:=by simp [SN]
theorem jJ (x:Str):SN x.cps.toList=x:=by cases x; simp [SN]
theorem bW (l:List Nat):(SN l).length=l.length:=by show l.toArray.size=_; simp
theorem cV {a b:List Nat}(h:SN a=SN b):a=b:=by
 have:=congrArg (fun s:Str=>s.cps.toList) h
 simpa [SN] using this
theorem aD (x:Str):x.cps.toList.length=x.length:=by simp [Str.length]
theorem ez (x:Str){a b:Nat}(hab:a<=b)(hb:b<=x.length):GJ x (some (a:Int)) (some (b:Int))=SN ((x.cps.toList.drop a).take (b - a)):=by
 unfold GJ
 rw [StrLaws.sliced_plain x hab hb]
 split
 · rename_i h
   rw [StrLaws.strSliceIndices_plain hab hb] at h
   simp at h
   have h1:a=0:=by omega
   have h2:b=x.length:=by omega
   subst h1 h2
   rw [J4,Ku,← aD,HC,jJ]
 · rfl
theorem ou (x:Str){i:Nat}(h:i<=x.length):GJ x (some (i:Int)) (some ((i:Int) + 1))=SN ((x.cps.toList.drop i).take 1):=by
 by_cases hi:i < x.length
 · have:=ez x (a:=i) (b:=i + 1) (by omega) (by omega)
   rw [show i + 1 - i=1 by omega] at this
   exact this
 · have hi:i=x.length:=by omega
   have e:Hh (some (i:Int)) (some ((i:Int) + 1)) 1 x.length=Hh (some (i:Int)) (some (i:Int)) 1 x.length:=by
     have h2:¬ ((i:Int) + 1 < 0):=by omega
     have h1:¬ ((i:Int) < 0):=by omega
     have e1:min ((i:Int) + 1) (x.length:Int)=min (i:Int) (x.length:Int):=by omega
     simp only [Hh,h1,h2,if_false,e1,show ((1:Int) > 0)=True from by simp,if_true]
   have:=ez x (a:=i) (b:=i) (by omega) (by omega)
   unfold GJ at this ⊢
   rw [e,this,Jm,List.take_zero,List.drop_eq_nil_of_le (by rw [aD]; omega),Kg]
/-! ### the reader -/
abbrev rdO (C dx:Addr)(w:Str)(i:Nat):HO:=.ins C dx [("word",.str w),("place",.int (i:Int))]
structure ic (K:FX)(C:Addr):Prop where
 c:mX K C
 w:cj K C "word"
 p:cj K C "place"
theorem kC.rd {K:FX}{mg:Str->Option Value}{C:Addr}(s:kC K mg "Reader" C ["word","place"]):ic K C:=⟨s.c,s.na.get (by decide),s.na.get (by decide)⟩
theorem Kp.rd {r:Addr}{H H':Hp}{C dx:Addr}{w:Str}{i:Nat}(k:Kp r H H')(h:H r=some (rdO C dx w i)):TK H H':=fun b xs e=>k b _ e fun z=>by rw [z,h] at e; cases e
/-- what is still to be read -/
def aj (w:Str)(i:Nat):List Nat:=w.cps.toList.drop i
theorem er (w:Str)(i:Nat):(aj w i).length=w.length - i:=by unfold aj; rw [GA,aD]
theorem bA {w:Str}{i:Nat}{c:Nat}{r:List Nat}(h:aj w i=c :: r):aj w (i + 1)=r/\i < w.length:=by
 have hl:(aj w i).length=r.length + 1:=by rw [h]; rfl
 rw [er] at hl
 unfold aj at h ⊢
 rw [← List.drop_drop,h]
 exact ⟨rfl,by omega⟩
theorem b9 {w:Str}{i:Nat}{a r:List Nat}(h:aj w i=a++r)(hi:i<=w.length):aj w (i + a.length)=r/\i + a.length<=w.length:=by
 have hl:(aj w i).length=a.length + r.length:=by rw [h,FZ]
 rw [er] at hl
 unfold aj at h ⊢
 rw [← List.drop_drop,h,List.drop_left]
 exact ⟨rfl,by omega⟩
def fU (C:Addr):Sp:=fun vs H Q _=>∃(r dx:Addr) (w:Str),vs=[.ref r,.str w]/\H r=some (.ins C dx [])/\Q .bq (upd H r (rdO C dx w 0))
theorem xP:ay ["self","word"] ["self","word"] (ag sRInit):=⟨rfl,rfl,rfl,by decide +kernel,rfl,by decide +kernel,by decide +kernel⟩
theorem tP (F:Hp->Prop){H:Hp}(H':Hp)(e:H=H')(h:F H'):F H:=by subst e; exact h
theorem uf {C:Addr}{f:Addr}{fd:FuncData}(F:cf K "__init__" "Reader.__init__" sRInit f fd)(R5:ic K C):aN P w K mg base CX0 1 f fd ["self","word"] (fU C):=by
 refine F.ok xP (fun vs H Q E h=>?_) (fun cdv A outer s H vs Q E hr h=>?_)
 · obtain ⟨r,dx,w,rfl,_⟩:=h
   rfl
 · obtain ⟨r,dx,w,rfl,hr0,q⟩:=h
   refine eV ⟨_,(KG (L3.CU (Ky 0) (Ky 1))
     (KI (L3.CU (Ky 0) KC))),?_⟩
   refine ⟨_,rfl,_,rfl,r,C,dx,_,rfl,hr0,R5.c,R5.w,(by show 0 < 1000; decide),?_⟩
   refine ⟨_,rfl,r,C,dx,_,rfl,aa,R5.c,R5.p,(by show 1 < 1000; decide),?_⟩
   refine tP (fun H'=>Q .bq H') (upd H r (rdO C dx w 0)) ?_ q
   rw [pQ]
   rfl
theorem nK {C:Addr}(c:kC K mg "Reader" C ["word","place"])(s:oH K C "Reader.__init__" sRInit):lO P w K mg base "Reader" C ["self","word"] 1 (fU C):=
 let ⟨f,fd,F,m⟩:=s
 ⟨f,fd,uf F c.rd,jr F fun _ _ _ _ _ _ _ _=>rfl,m,c.m⟩
def bp (C:Addr):Sp:=fun vs H Q _=>∃(r dx:Addr) (w:Str) (i:Nat),vs=[.ref r]/\H r=some (rdO C dx w i)/\i<=w.length/\w.length<=sizeLine/\Q (.str (SN ((aj w i).take 1))) H
theorem xQ:ay ["self"] ["self"] (ag sRSign):=⟨rfl,rfl,rfl,by decide +kernel,rfl,by decide +kernel,by decide +kernel⟩
theorem ui {C:Addr}{f:Addr}{fd:FuncData}(F:cf K "sign" "Reader.sign" sRSign f fd)(R5:ic K C):aN P w K mg base CX0 1 f fd ["self"] (bp C):=by
 refine F.ok xQ (fun vs H Q E h=>?_) (fun cdv A outer s H vs Q E hr h=>?_)
 · obtain ⟨r,dx,w,i,rfl,_⟩:=h
   rfl
 · obtain ⟨r,dx,w,i,rfl,hr0,hi,hw,q⟩:=h
   refine eV ⟨_,(KI (KQ (L3.yC (Lw (Ky 0)) (Lw (Ky 0)) (KD KZ (Lw (Ky 0)) KC)))),?_⟩
   refine ⟨_,rfl,r,C,dx,_,_,rfl,hr0,R5.c,R5.w,rfl,_,rfl,r,C,dx,_,_,rfl,hr0,R5.c,R5.p,rfl,_,rfl,_,rfl,r,C,dx,_,_,rfl,hr0,R5.c,R5.p,rfl,_,_,rfl,rfl,_,rfl,w,rfl,hw,?_⟩
   rw [ou w hi]
   exact q
theorem qz {C:Addr}(s:bG K C "sign" "Reader.sign" sRSign)(R5:ic K C):bL P w K mg base C "sign" ["self"] 1 (bp C):=
 let ⟨f,fd,F,m⟩:=s
 ⟨f,fd,ui F R5,gf F fun _ _ _ _ _ _ _=>rfl,m⟩
end
end TW
set_option Elab.async false
set_option linter.all false
set_option maxRecDepth 100000
set_option exponentiation.threshold 4000
set_option maxHeartbeats 1000000
namespace TW
open PySem L2
section
variable {P:Program}{w:World}{K:FX}{mg:Str->Option Value}{base:Heap}
/-! ### taken,due -/
theorem zV {c:Nat}{r:List Nat}(h:r.head? ≠ some c):V.str (SN (r.take 1))≠V.str (SN [c]):=fun z=>by
 injection z with z
 have z:=cV z
 cases r with
 | nil=>cases z
 | cons a l=>
   rw [List.take_succ_cons,List.take_zero] at z
   injection z with z _
   exact h (by rw [z]; rfl)
def dt (C:Addr):Sp:=fun vs H Q _=>∃(r dx:Addr) (w:Str) (i c:Nat),vs=[.ref r,.str (SN [c])]/\H r=some (rdO C dx w i)/\i<=w.length/\w.length<=sizeLine/\((∃l,aj w i=c :: l/\Q (.bl true) (upd H r (rdO C dx w (i + 1))))\/((aj w i).head? ≠ some c/\Q (.bl false) H))
theorem uV:ay ["self","sign"] ["self","sign"] (ag sRTaken):=⟨rfl,rfl,rfl,by decide +kernel,rfl,by decide +kernel,by decide +kernel⟩
theorem iteF' {c:Bool}{A B:Prop}(h:c=false)(b:B):if c=true then A else B:=by rw [h]; exact b
theorem qX {C:Addr}{f:Addr}{fd:FuncData}(F:cf K "taken" "Reader.taken" sRTaken f fd)(R5:ic K C)(SI:bL P w K mg base C "sign" ["self"] 1 (bp C)):aN P w K mg base CX0 2 f fd ["self","sign"] (dt C):=by
 refine F.ok uV (fun vs H Q E h=>?_) (fun cdv A outer s H vs Q E hr h=>?_)
 · obtain ⟨r,dx,w,i,c,rfl,_⟩:=h
   rfl
 · obtain ⟨r,dx,w,i,c,rfl,hr0,hi,hw,cs⟩:=h
   refine eV ⟨_,(KG (KR (KL LC (Lg (Ky 0) R5.c SI hr) (Ky 1)) (KI (KQ L3.bl)) KY)
     (KG (LJ (Ky 0) KC)
     (KI (KQ L3.bl)))),?_⟩
   refine ao fun Rk kR=>?_
   refine ⟨_,rfl,r,dx,_,rfl,hr0,rfl,r,dx,w,i,rfl,hr0,hi,hw,_,rfl,rfl,_,rfl,?_⟩
   rcases cs with ⟨l,hl,q⟩ | ⟨hn,q⟩
   · rw [hl]
     refine iteF' (by simp) ?_
     refine kR _ _ ?_
     refine ⟨_,rfl,r,C,dx,_,_,rfl,hr0,R5.c,R5.p,rfl,_,_,rfl,rfl,dx,_,hr0,(by show 2 < 1000; decide),?_⟩
     exact q
   · refine aE (fun _=>q) (fun z=>absurd (by simp [zV hn]) z)
theorem nG {C:Addr}(s:bG K C "taken" "Reader.taken" sRTaken)(R5:ic K C)(SI:bL P w K mg base C "sign" ["self"] 1 (bp C)):bL P w K mg base C "taken" ["self","sign"] 2 (dt C):=
 let ⟨f,fd,F,m⟩:=s
 ⟨f,fd,qX F R5 SI,jr F fun _ _ _ _ _ _ _ _=>rfl,m⟩
theorem AV:ay ["self","sign"] ["self","sign"] (ag sRDue):=⟨rfl,rfl,rfl,by decide +kernel,rfl,by decide +kernel,by decide +kernel⟩
/-! ### stretch -/
def gJ (C:Addr):Sp:=fun vs H Q _=>∃(r dx:Addr) (w S:Str) (i:Nat) (a l:List Nat),vs=[.ref r,.str S]/\H r=some (rdO C dx w i)/\i<=w.length/\w.length<=sizeLine/\aj w i=a++l/\(∀c∈a,c∈S.cps.toList)/\(∀c,l.head? = some c->c ∉ S.cps.toList)/\Q (.str (SN a)) (upd H r (rdO C dx w (i + a.length)))
theorem sZ (S:Str)(c:Nat):JI S (SN [c])=decide (c∈S.cps.toList):=StrLaws.found_one S c
theorem pW {l:List Nat}(h:l≠[]):V.str (SN l)≠V.str "":=fun z=>by
 injection z with z
 exact h (cV (z.trans (show ("":Str)=SN [] by decide +kernel)))
theorem uU:ay ["self","signs","begun"] ["self","signs"] (ag sRStr):=⟨rfl,rfl,rfl,by decide +kernel,rfl,by decide +kernel,by decide +kernel⟩
theorem vq {H:Hp}{r:Addr}{o:HO}(h:H r=some o):H=upd H r o:=by
 funext b
 by_cases e:b=r
 · rw [e,aa,h]
 · rw [ai e]
theorem wY {C:Addr}{f:Addr}{fd:FuncData}(F:cf K "stretch" "Reader.stretch" sRStr f fd)(R5:ic K C)(SI:bL P w K mg base C "sign" ["self"] 1 (bp C)):aN P w K mg base CX0 2 f fd ["self","signs"] (gJ C):=by
 refine F.ok uU (fun vs H Q E h=>?_) (fun cdv A outer s H vs Q E hr h=>?_)
 · obtain ⟨r,dx,w,S,i,a,l,rfl,_⟩:=h
   rfl
 · obtain ⟨r,dx,w,S,i,a,l,rfl,hr0,hi,hw,hal,ha,hl,q⟩:=h
   obtain ⟨hl2,hle⟩:=b9 hal hi
   refine eV ⟨_,(KG (KH 2 uU.nd (Lw (Ky 0)))
     (KG (Lq (K7 (Lc (KL LC (Lg (Ky 0) R5.c SI hr) KA) (Ld (KL L3.t6 (Lg (Ky 0) R5.c SI hr) (Ky 1) (by rfl))))) (KI (LJ (Ky 0) KC)))
     (KI (KQ (L3.yC (Lw (Ky 0)) (Ky 2) (Lw (Ky 0))))))),?_⟩
   refine ao fun Rk kR=>?_
   refine ⟨_,rfl,r,C,dx,_,_,rfl,hr0,R5.c,R5.p,rfl,?_⟩
   refine ah ?_
   refine kR _ _ ?_
   refine au [some (.ref r),some (.str S),some (.int (i:Int))] rfl ?_
   refine ao fun Rk kR=>?_
   refine ⟨fun d σ Hx=>∃k b,σ=[some (.ref r),some (.str S),some (.int (i:Int))]/\Hx=upd H r (rdO C dx w (i + k))/\d=b.length/\aj w (i + k)=b++l/\k + b.length=a.length/\∀c∈b,c∈S.cps.toList,⟨a.length,0,a,rfl,vq hr0,rfl,hal,Nat.zero_add _,ha⟩,fun d σ Hx z=>?_⟩
   obtain ⟨k,b,rfl,rfl,rfl,hb,kb,hbS⟩:=z
   have hik:i + k<=w.length:=by omega
   have hrk:(upd H r (rdO C dx w (i + k))) r=some (rdO C dx w (i + k)):=aa
   generalize hHk:upd H r (rdO C dx w (i + k))=Hk at hrk ⊢
   have fin:b=[]->Rk [some (.ref r),some (.str S),some (.int (i:Int))] Hk:=fun hb0=>by
     have k0:k=a.length:=by rw [hb0] at kb; simpa using kb
     refine kR _ _ ?_
     refine ⟨_,rfl,r,C,dx,_,_,rfl,hrk,R5.c,R5.w,rfl,_,rfl,_,rfl,_,rfl,r,C,dx,_,_,rfl,hrk,R5.c,R5.p,rfl,_,rfl,w,rfl,hw,?_⟩
     rw [ez w (by omega) hik,show i + k - i=a.length by omega,show (w.cps.toList.drop i)=a++l from hal,List.take_left,← hHk,k0]
     exact q
   refine ⟨_,rfl,r,dx,_,rfl,hrk,rfl,r,dx,w,i + k,rfl,hrk,hik,hw,rfl,_,rfl,?_⟩
   cases b with
   | nil=>
     rw [hb]
     cases l with
     | nil=>exact iteF' (by decide +kernel) (bD (fin rfl))
     | cons c l'=>
       refine aE (fun _=>?_) (fun _=>bD (fin rfl))
       refine ⟨_,rfl,r,dx,_,rfl,hrk,rfl,r,dx,w,i + k,rfl,hrk,hik,hw,_,rfl,_,_,rfl,rfl,_,rfl,?_⟩
       rw [hb]
       refine iteF' ?_ (fin rfl)
       rw [show (([]:List Nat)++c :: l').take 1=[c] from rfl,sZ]
       exact decide_eq_false (hl c rfl)
   | cons c b'=>
     obtain ⟨hn,hlt⟩:=bA hb
     refine aE (fun _=>?_) (fun z=>absurd ?_ z)
     · refine ⟨_,rfl,r,dx,_,rfl,hrk,rfl,r,dx,w,i + k,rfl,hrk,hik,hw,_,rfl,_,_,rfl,rfl,_,rfl,?_⟩
       rw [hb]
       refine aE (fun _=>?_) (fun z=>absurd ?_ z)
       · refine ⟨fun σ' H'=>∃k b,σ'=[some (.ref r),some (.str S),some (.int (i:Int))]/\H'=upd H r (rdO C dx w (i + k))/\b'.length=b.length/\aj w (i + k)=b++l/\k + b.length=a.length/\∀c∈b,c∈S.cps.toList,fun σ' H' z=>⟨b'.length,HF _,z⟩,?_⟩
         refine ⟨_,rfl,r,C,dx,_,_,rfl,hrk,R5.c,R5.p,rfl,_,_,rfl,rfl,dx,_,hrk,(by show 2 < 1000; decide),?_⟩
         refine ⟨k + 1,b',rfl,?_,rfl,by rw [← Nat.add_assoc]; exact hn,by have:k + (b'.length + 1)=a.length:=kb; omega,fun c hc=>hbS c (F7 _ hc)⟩
         rw [← hHk,pQ,← Nat.add_assoc]
         rfl
       · rw [show ((c :: b')++l).take 1=[c] from rfl,sZ]
         exact decide_eq_true (hbS c F4)
     · rw [hb]
       rw [decide_eq_false (pW (show ((c :: b')++l).take 1≠[] from fun z=>nomatch z))]
       rfl
theorem sQ {C:Addr}(s:bG K C "stretch" "Reader.stretch" sRStr)(R5:ic K C)(SI:bL P w K mg base C "sign" ["self"] 1 (bp C)):bL P w K mg base C "stretch" ["self","signs"] 2 (gJ C):=
 let ⟨f,fd,F,m⟩:=s
 ⟨f,fd,wY F R5 SI,jr F fun _ _ _ _ _ _ _ _=>rfl,m⟩
end
end TW
set_option Elab.async false
set_option linter.all false
set_option maxRecDepth 100000
set_option exponentiation.threshold 4000
set_option maxHeartbeats 1000000
namespace TW
open PySem L2
section
variable {P:Program}{w:World}{K:FX}{mg:Str->Option Value}{base:Heap}
/-! ### what a word may be -/
structure m5 (l:List Nat):Prop where
 ne:l≠[]
 len:l.length<=30
 dg:∀c∈l,48<=c/\c<=57
 hd:∀r,l=48 :: r->r=[]
structure lP (l:List Nat):Prop where
 ne:l≠[]
 len:l.length<=8
 lt:∀c∈l,97<=c/\c < 123
inductive da:List Nat->Prop
 | num {l:List Nat}:m5 l->da l
 | name {l:List Nat}:lP l->da l
 | two {a b:List Nat} {s:Nat}:da a->da b->(s=43\/s=45)->da (40 :: (a++s :: (b++[41])))
inductive dv:List Nat->Prop
 | yes:dv [121,101,115]
 | cmp {a b:List Nat} {s:Nat}:da a->da b->(s=61\/s=60)->dv (a++s :: b)
 | nt {a:List Nat}:dv a->dv (33 :: a)
 | both {a b:List Nat}:dv a->dv b->dv (123 :: (a++38 :: (b++[125])))
theorem u9 (p:Nat->Bool):∀xs:List Nat,∃a l,xs=a++l/\(∀c∈a,p c=true)/\∀c,l.head? = some c->p c=false
 | []=>⟨[],[],rfl,(fun c hc=>nomatch hc),(fun c hc=>nomatch hc)⟩
 | x :: xs=>by
   cases h:p x with
   | false=>exact ⟨[],x :: xs,rfl,(fun c hc=>nomatch hc),fun c hc=>by injection hc with hc; rw [← hc]; exact h⟩
   | true=>
     obtain ⟨a,l,e,h1,h2⟩:=u9 p xs
     exact ⟨x :: a,l,by rw [e]; rfl,fun c hc=>by rcases List.mem_cons.mp hc with rfl | hc; exact h; exact h1 c hc,h2⟩
abbrev figs:Str:="0123456789"
abbrev letrs:Str:="abcdefghijklmnopqrstuvwxyz"
theorem tI {c:Nat}:c∈figs.cps.toList↔48<=c/\c<=57:=by
 rw [show figs.cps.toList=List.range' 48 10 by decide +kernel,List.mem_range'_1]
 omega
theorem qI {c:Nat}:c∈letrs.cps.toList↔97<=c/\c < 123:=by
 rw [show letrs.cps.toList=List.range' 97 26 by decide +kernel,List.mem_range'_1]
/-! ### due,number,name -/
def eK (C cNR:Addr):Sp:=fun vs H Q E=>∃(r dx:Addr) (w:Str) (i c:Nat),vs=[.ref r,.str (SN [c])]/\H r=some (rdO C dx w i)/\i<=w.length/\w.length<=sizeLine/\(∀l,aj w i=c :: l->Q .bq (upd H r (rdO C dx w (i + 1))))/\E (.ref cNR) none H
theorem me:(ag sRDue).names.lookup (F1 "NoRow")=some .globalImplicit:=by decide +kernel
theorem ue {C cNR TE:Addr}{f:Addr}{fd:FuncData}(F:cf K "due" "Reader.due" sRDue f fd)(cN:Xc K mg "NoRow" cNR (.ref TE :: vE))(R5:ic K C)(TA:bL P w K mg base C "taken" ["self","sign"] 2 (dt C)):aN P w K mg base (cE P w base) 3 f fd ["self","sign"] (eK C cNR):=by
 refine F.okX AV (fun vs H Q E h=>?_) (fun cdv A outer s H vs Q E hr h=>?_)
 · obtain ⟨r,dx,w,i,c,rfl,_⟩:=h
   rfl
 · obtain ⟨r,dx,w,i,c,rfl,hr0,hi,hw,q,ex⟩:=h
   refine eV ⟨_,(KI (KR (L3.nt (L3.x5 (L3.dB (Ky 0) R5.c TA hr (Kx (Ky 1) Kz)))) (KI (Lr cQ cN (by rfl) me (Kx (L3.D8 (L3.fs (L3.fv (Ky 1) (L3.fs L3.fn)))) Kz qO))) KY)),?_⟩
   refine ⟨_,rfl,r,dx,_,rfl,hr0,rfl,_,rfl,r,dx,w,i,c,rfl,hr0,hi,hw,?_⟩
   cases e:aj w i with
   | nil=>
     refine .inr ⟨by simp,_,rfl,bE ?_⟩
     refine ⟨_,rfl,.inr ⟨_,rfl,by rw [bW]; show 1<=2000; decide⟩,fun x=>⟨_,rfl,ex⟩⟩
   | cons y l=>
     by_cases hy:y=c
     · subst hy
       exact .inl ⟨l,rfl,_,rfl,bD (q l e)⟩
     · refine .inr ⟨by simpa using hy,_,rfl,bE ?_⟩
       refine ⟨_,rfl,.inr ⟨_,rfl,by rw [bW]; show 1<=2000; decide⟩,fun x=>⟨_,rfl,ex⟩⟩
theorem qw {C cNR TE:Addr}(s:bG K C "due" "Reader.due" sRDue)(cN:Xc K mg "NoRow" cNR (.ref TE :: vE))(R5:ic K C)(TA:bL P w K mg base C "taken" ["self","sign"] 2 (dt C)):bJ P w K mg base C "due" ["self","sign"] 3 (eK C cNR):=
 let ⟨f,fd,F,m⟩:=s
 ⟨f,fd,ue F cN R5 TA,jr F fun _ _ _ _ _ _ _ _=>rfl,m⟩
def eL (C cNR:Addr):Sp:=fun vs H Q E=>∃(r dx:Addr) (w:Str) (i:Nat),vs=[.ref r]/\H r=some (rdO C dx w i)/\i<=w.length/\w.length<=13000/\(∀(n:Int) (a l:List Nat),aj w i=a++l->m5 a->Q (.int n) (upd H r (rdO C dx w (i + a.length))))/\(∀o,E (.ref cNR) none (upd H r o))
theorem uT:ay ["self","figures"] ["self"] (ag sRNum):=⟨rfl,rfl,rfl,by decide +kernel,rfl,by decide +kernel,by decide +kernel⟩
theorem jw:(ag sRNum).names.lookup (F1 "FIGURES")=some .globalImplicit:=by decide +kernel
theorem fe:(ag sRNum).names.lookup (F1 "MOST_FIGURES")=some .globalImplicit:=by decide +kernel
theorem mf:(ag sRNum).names.lookup (F1 "NoRow")=some .globalImplicit:=by decide +kernel
theorem qm:(ag sRNum).names.lookup (F1 "int")=some .globalImplicit:=by decide +kernel
theorem qo:(ag sRNum).names.lookup (F1 "len")=some .globalImplicit:=by decide +kernel
theorem ug {C cNR TE:Addr}{f:Addr}{fd:FuncData}(F:cf K "number" "Reader.number" sRNum f fd)(cN:Xc K mg "NoRow" cNR (.ref TE :: vE))(R5:ic K C)(m_len:mg "len"=none)(m_int:mg "int"=none)(cF:lT mg "FIGURES" figs)(cM:kD mg "MOST_FIGURES" 30)(ST:bL P w K mg base C "stretch" ["self","signs"] 2 (gJ C)):aN P w K mg base (cE P w base) 3 f fd ["self"] (eL C cNR):=by
 refine F.okX uT (fun vs H Q E h=>?_) (fun cdv A outer s H vs Q E hr h=>?_)
 · obtain ⟨r,dx,w,i,rfl,_⟩:=h
   rfl
 · obtain ⟨r,dx,w,i,rfl,hr0,hi,hw13,q,ex⟩:=h
   have hw:w.length<=sizeLine:=F2 hw13 (by decide)
   obtain ⟨a,l,hal,ha,hl⟩:=u9 (fun c=>decide (c∈figs.cps.toList)) (aj w i)
   have ha:∀c∈a,c∈figs.cps.toList:=fun c hc=>of_decide_eq_true (ha c hc)
   have hl:∀c,l.head? = some c->c ∉ figs.cps.toList:=fun c hc=>of_decide_eq_false (hl c hc)
   have alen:a.length<=13000:=by have:=(b9 hal hi).2; omega
   refine eV ⟨_,(KG (KH 1 uT.nd (L3.dB (Ky 0) R5.c ST hr (Kx (K6 (w:=.str figs) jw cF.choose_spec ⟨_,rfl⟩) Kz)))
     (KG (KR (K7 (LD (KL K0 (Ky 1) KA) (LD (KL Ls (KU LK qo m_len Gd (Kx (Ky 1) Kz)) (K6 (w:=.int 30) fe cM.choose_spec ⟨_,rfl⟩)) (LL (K7 (Lc (KL K0 (KN L3.Ef (Ky 1) KC) KA) (Ld (KL LC (Ky 1) KA)))))))) (KI (Lr cQ cN (by rfl) mf (Kx KA Kz))) KY)
     (KI (KQ (Lh L3.y0 qm m_int (by decide +kernel) (Kx (Ky 1) Kz)))))),?_⟩
   refine ao fun Rk kR=>?_
   refine ⟨_,rfl,r,dx,_,rfl,hr0,rfl,r,dx,w,figs,i,a,l,rfl,hr0,hi,hw,hal,ha,hl,?_⟩
   refine ah ?_
   refine kR _ _ ?_
   refine au [some (.ref r),some (.str (SN a))] rfl ?_
   clear kR
   refine ao fun Rk kR=>?_
   have no:∀x:String,True:=fun _=>trivial
   refine ⟨_,rfl,rfl,_,rfl,?_⟩
   refine aE (fun _=>bE ⟨_,rfl,ex _⟩) (fun c1=>?_)
   have hne:a≠[]:=fun z=>c1 (by rw [z]; decide +kernel)
   have sl:(SN a).length<=13000:=by rw [bW]; exact alen
   refine ⟨_,rfl,_,rfl,F2 sl (by decide),_,_,rfl,rfl,_,rfl,?_⟩
   refine aE (fun _=>bE ⟨_,rfl,ex _⟩) (fun c2=>?_)
   have l30:a.length<=30:=by
     have:¬ ((SN a).length:Int) > 30:=fun z=>c2 (decide_eq_true z)
     rw [bW] at this
     omega
   have dg:∀c∈a,48<=c/\c<=57:=fun c hc=>tI.mp (ha c hc)
   have goN:(∀r,a=48 :: r->r=[])->Rk [some (.ref r),some (.str (SN a))] (upd H r (rdO C dx w (i + a.length))):=fun hd=>by
     refine kR _ _ ?_
     have ne2:(SN a).cps.toList≠[]:=by rw [bM]; exact hne
     exact ⟨_,rfl,_,_,rfl,PySem.intText_digits (x:=SN a) (by rw [bM]; exact dg) ne2 (by rw [bW]; omega),F2 (show _<=30 by rw [bW]; exact l30) (by decide),q _ a l hal ⟨hne,l30,dg,hd⟩⟩
   match a,hne,goN,sl,ex with
   | c :: a',_,goN,sl,ex=>
     refine ⟨_,rfl,SN (c :: a'),0,c,rfl,rfl,F2 sl (by decide),by rw [bM]; exact eI (xs:=c :: a') (j:=0) rfl,rfl,_,rfl,?_⟩
     refine aE (fun z=>?_) (fun z=>bD (goN fun r hr=>absurd (by injection hr with hr _; rw [hr]; decide +kernel) z))
     refine ⟨_,rfl,rfl,_,rfl,?_⟩
     refine aE (fun _=>⟨_,rfl,ex _⟩) (fun z2=>goN fun r hr=>?_)
     have e:SN (c :: a')=("0":Str):=by
       by_cases y:SN (c :: a')=("0":Str)
       · exact y
       · exact absurd (by rw [decide_eq_false fun u=>y (by injection u)]; rfl) z2
     have:=cV (e.trans (show ("0":Str)=SN [48] by decide +kernel))
     rw [hr] at this
     injection this
theorem qx {C cNR TE:Addr}(s:bG K C "number" "Reader.number" sRNum)(cN:Xc K mg "NoRow" cNR (.ref TE :: vE))(R5:ic K C)(m_len:mg "len"=none)(m_int:mg "int"=none)(cF:lT mg "FIGURES" figs)(cM:kD mg "MOST_FIGURES" 30)(ST:bL P w K mg base C "stretch" ["self","signs"] 2 (gJ C)):bJ P w K mg base C "number" ["self"] 3 (eL C cNR):=
 let ⟨f,fd,F,m⟩:=s
 ⟨f,fd,ug F cN R5 m_len m_int cF cM ST,gf F fun _ _ _ _ _ _ _=>rfl,m⟩
def dq (C cNR:Addr):Sp:=fun vs H Q E=>∃(r dx:Addr) (w:Str) (i:Nat),vs=[.ref r]/\H r=some (rdO C dx w i)/\i<=w.length/\w.length<=13000/\(∀(a l:List Nat),aj w i=a++l->lP a->Q (.str (SN a)) (upd H r (rdO C dx w (i + a.length))))/\(∀o,E (.ref cNR) none (upd H r o))
theorem pJ:ay ["self","letters"] ["self"] (ag sRName):=⟨rfl,rfl,rfl,by decide +kernel,rfl,by decide +kernel,by decide +kernel⟩
theorem iU:(ag sRName).names.lookup (F1 "LETTERS")=some .globalImplicit:=by decide +kernel
theorem eR:(ag sRName).names.lookup (F1 "MOST_LETTERS")=some .globalImplicit:=by decide +kernel
theorem kP:(ag sRName).names.lookup (F1 "NoRow")=some .globalImplicit:=by decide +kernel
theorem nu:(ag sRName).names.lookup (F1 "len")=some .globalImplicit:=by decide +kernel
theorem qV {C cNR TE:Addr}{f:Addr}{fd:FuncData}(F:cf K "name" "Reader.name" sRName f fd)(cN:Xc K mg "NoRow" cNR (.ref TE :: vE))(R5:ic K C)(m_len:mg "len"=none)(cL:lT mg "LETTERS" letrs)(cM:kD mg "MOST_LETTERS" 8)(ST:bL P w K mg base C "stretch" ["self","signs"] 2 (gJ C)):aN P w K mg base (cE P w base) 3 f fd ["self"] (dq C cNR):=by
 refine F.okX pJ (fun vs H Q E h=>?_) (fun cdv A outer s H vs Q E hr h=>?_)
 · obtain ⟨r,dx,w,i,rfl,_⟩:=h
   rfl
 · obtain ⟨r,dx,w,i,rfl,hr0,hi,hw13,q,ex⟩:=h
   have hw:w.length<=sizeLine:=F2 hw13 (by decide)
   obtain ⟨a,l,hal,ha,hl⟩:=u9 (fun c=>decide (c∈letrs.cps.toList)) (aj w i)
   have ha:∀c∈a,c∈letrs.cps.toList:=fun c hc=>of_decide_eq_true (ha c hc)
   have hl:∀c,l.head? = some c->c ∉ letrs.cps.toList:=fun c hc=>of_decide_eq_false (hl c hc)
   have alen:a.length<=13000:=by have:=(b9 hal hi).2; omega
   refine eV ⟨_,(KG (KH 1 pJ.nd (L3.dB (Ky 0) R5.c ST hr (Kx (K6 (w:=.str letrs) iU cL.choose_spec ⟨_,rfl⟩) Kz)))
     (KG (KR (K7 (LD (KL K0 (Ky 1) KA) (LL (KL Ls (KU LK nu m_len Gd (Kx (Ky 1) Kz)) (K6 (w:=.int 8) eR cM.choose_spec ⟨_,rfl⟩))))) (KI (Lr cQ cN (by rfl) kP (Kx KA Kz))) KY)
     (KI (KQ (Ky 1))))),?_⟩
   refine ao fun Rk kR=>?_
   refine ⟨_,rfl,r,dx,_,rfl,hr0,rfl,r,dx,w,letrs,i,a,l,rfl,hr0,hi,hw,hal,ha,hl,?_⟩
   refine ah ?_
   refine kR _ _ ?_
   refine au [some (.ref r),some (.str (SN a))] rfl ?_
   clear kR
   refine ao fun Rk kR=>?_
   refine ⟨_,rfl,rfl,_,rfl,?_⟩
   refine aE (fun _=>bE ⟨_,rfl,ex _⟩) (fun c1=>?_)
   have hne:a≠[]:=fun z=>c1 (by rw [z]; decide +kernel)
   have sl:(SN a).length<=13000:=by rw [bW]; exact alen
   refine ⟨_,rfl,_,rfl,F2 sl (by decide),_,_,rfl,rfl,_,rfl,?_⟩
   refine aE (fun _=>⟨_,rfl,ex _⟩) (fun c2=>?_)
   have l8:a.length<=8:=by
     have:¬ ((SN a).length:Int) > 8:=fun z=>c2 (decide_eq_true z)
     rw [bW] at this
     omega
   exact kR _ _ ⟨_,rfl,q a l hal ⟨hne,l8,fun c hc=>qI.mp (ha c hc)⟩⟩
theorem nE {C cNR TE:Addr}(s:bG K C "name" "Reader.name" sRName)(cN:Xc K mg "NoRow" cNR (.ref TE :: vE))(R5:ic K C)(m_len:mg "len"=none)(cL:lT mg "LETTERS" letrs)(cM:kD mg "MOST_LETTERS" 8)(ST:bL P w K mg base C "stretch" ["self","signs"] 2 (gJ C)):bJ P w K mg base C "name" ["self"] 3 (dq C cNR):=
 let ⟨f,fd,F,m⟩:=s
 ⟨f,fd,qV F cN R5 m_len cL cM ST,gf F fun _ _ _ _ _ _ _=>rfl,m⟩
end
end TW
set_option Elab.async false
set_option linter.all false
set_option maxRecDepth 100000
set_option exponentiation.threshold 4000
set_option maxHeartbeats 1000000
namespace TW
open PySem L2
section
variable {P:Program}{w:World}{K:FX}{mg:Str->Option Value}{base:Heap}
abbrev sRAtom:Stmt:=top 37
abbrev sRSum:Stmt:=top 38
theorem bL.mono {C:Addr}{m:Str}{ps:List Str}{j k:Nat}{sp:Sp}(h:bL P w K mg base C m ps j sp)(hk:j<=k):bL P w K mg base C m ps k sp:=let ⟨f,fd,a,b,c⟩:=h; ⟨f,fd,a.mono hk,b,c⟩
theorem mv {α:Type}(xs:List α)(v:α):mr (xs++[v]).length (-1)=some xs.length:=by
 rw [FZ,Gp]
 unfold mr
 rw [if_neg (by decide),if_pos (by omega)]
 congr 1
 omega
theorem mT {α:Type}(xs:List α)(v y:α):(xs++[v]).set xs.length y=xs++[y]:=by
 rw [Kn _ _ (F8 _),Jm]
 rfl
theorem iX {α:Type}(xs:List α)(v:α):(xs++[v])[(xs++[v]).length - 1]? = some v:=by
 rw [FZ,Gp,Nat.add_sub_cancel,G6 (F8 _),Jm]
 rfl
theorem Paired.imp {α β:Type}{F G:α->β->Prop}(k:∀x y,F x y->G x y):∀{a:List α} {b:List β},Paired F a b->Paired G a b
 | _,_,.nil=>.nil
 | _,_,.cons r t=>.cons (k _ _ r) (Paired.imp k t)
theorem bI {H:Hp}{B:Addr}{o o2:HO}(h:H B=some o)(n:∀xs,o≠.tup xs):TK H (upd H B o2):=fun b xs e=>by
 rw [ai (fun z=>by rw [z,h] at e; exact n xs (Gm e))]
 exact e
theorem zH:("(":Str)=SN [40]:=by decide +kernel
theorem AO:(")":Str)=SN [41]:=by decide +kernel
abbrev ssL:List (Str×V):=[("+",.str "plus"),("-",.str "less")]
theorem CY {l:List Nat}{v:V}(h:ssL.lookup (SN l)=some v):(l=[43]/\v=.str "plus")\/(l=[45]/\v=.str "less"):=by
 by_cases e1:SN l=("+":Str)
 · have:=cV (e1.trans (show ("+":Str)=SN [43] by decide +kernel))
   subst this
   rw [show ssL.lookup (SN [43])=some (.str "plus") by decide +kernel] at h
   exact .inl ⟨rfl,(Gm h).symm⟩
 · by_cases e2:SN l=("-":Str)
   · have:=cV (e2.trans (show ("-":Str)=SN [45] by decide +kernel))
     subst this
     rw [show ssL.lookup (SN [45])=some (.str "less") by decide +kernel] at h
     exact .inr ⟨rfl,(Gm h).symm⟩
   · have h1:(SN l == ("+":Str))=false:=beq_eq_false_iff_ne.mpr e1
     have h2:(SN l == ("-":Str))=false:=beq_eq_false_iff_ne.mpr e2
     rw [GL,h1,GL,h2] at h
     cases h
/-- a sum's tuple,and the text that it was read from -/
def vA (H:Hp)(v:V)(a:List Nat):Prop:=∃p xs,v=.ref p/\H p=some (.tup xs)/\da a/\(xs=[.str "box",.str (SN a)]\/(∃n,xs=[.str "number",.int n])\/∃k y zs z,xs=[.str k,.ref y,z]/\H y=some (.tup zs))
theorem vA.keep {H H':Hp}{v:V}{a:List Nat}(k:TK H H')(h:vA H v a):vA H' v a:=by
 obtain ⟨p,xs,e,g,s,c⟩:=h
 refine ⟨p,xs,e,k _ _ g,s,?_⟩
 rcases c with c | c | ⟨x,y,zs,z,c,d⟩
 · exact .inl c
 · exact .inr (.inl c)
 · exact .inr (.inr ⟨x,y,zs,z,c,k _ _ d⟩)
theorem vA.ref {H:Hp}{v:V}{a:List Nat}(h:vA H v a):∃p zs,v=.ref p/\H p=some (.tup zs):=let ⟨p,xs,e,g,_⟩:=h; ⟨p,xs,e,g⟩
def fS (C cNR:Addr):Sp:=fun vs H Q E=>∃(r dx:Addr) (w:Str) (i:Nat),vs=[.ref r]/\H r=some (rdO C dx w i)/\i<=w.length/\w.length<=13000/\(∀(v:V) (a l:List Nat) (H':Hp),aj w i=a++l->a≠[]->Kp r H H'->H' r=some (rdO C dx w (i + a.length))->vA H' v a->Q v H')/\(∀H':Hp,Kp r H H'->E (.ref cNR) none H')
theorem xO:ay ["reader"] ["reader"] (ag sRAtom):=⟨rfl,rfl,rfl,by decide +kernel,rfl,by decide +kernel,by decide +kernel⟩
theorem iS:(ag sRAtom).names.lookup (F1 "FIGURES")=some .globalImplicit:=by decide +kernel
theorem qT {C cNR:Addr}{f:Addr}{fd:FuncData}(F:cf K "read_atom" "read_atom" sRAtom f fd)(R5:ic K C)(cF:lT mg "FIGURES" figs)(SI0:bL P w K mg base C "sign" ["self"] 1 (bp C))(NU0:bJ P w K mg base C "number" ["self"] 3 (eL C cNR))(NA0:bJ P w K mg base C "name" ["self"] 3 (dq C cNR)):aN P w K mg base (cE P w base) 4 f fd ["reader"] (fS C cNR):=by
 refine F.okX xO (fun vs H Q E h=>?_) (fun cdv A outer s H vs Q E hr h=>?_)
 · obtain ⟨r,dx,w,i,rfl,_⟩:=h
   rfl
 · obtain ⟨r,dx,w,i,rfl,hr0,hi,hw13,q,ex⟩:=h
   have hw:w.length<=sizeLine:=F2 hw13 (by decide)
   have SI:=SI0.mono (show 1<=3 by decide)
   have NU:=NU0
   have NA:=NA0
   refine eV ⟨_,(KG (KR (K7 (Lc (KL LC (Lg (Ky 0) R5.c SI hr) KA) (Ld (KL L3.t6 (Lg (Ky 0) R5.c SI hr) (K6 (w:=.str figs) iS cF.choose_spec ⟨_,rfl⟩) (by rfl))))) (KI (KQ (KS (Kx KA (Kx (L3.la cO (Ky 0) R5.c NU hr) Kz))))) KY)
     (KI (KQ (KS (Kx KA (Kx (L3.la cO (Ky 0) R5.c NA hr) Kz)))))),?_⟩
   refine ao fun Rk kR=>?_
   have go:Rk [some (.ref r)] H:=by
     refine kR _ _ ?_
     refine ⟨_,rfl,r,dx,_,rfl,hr0,rfl,r,dx,w,i,rfl,hr0,hi,hw13,fun a l hal nt=>⟨M5,fun p hp=>?_⟩,fun o=>ex _ (Kp.refl H).self⟩
     have pr:p≠r:=fun z=>by rw [z,aa] at hp; cases hp
     exact q (.ref p) a l _ hal nt.ne ((Kp.refl H).self.new hp) (by rw [ai pr.symm,aa]) ⟨p,_,rfl,aa,.name nt,.inl rfl⟩
   refine ⟨_,rfl,r,dx,_,rfl,hr0,rfl,r,dx,w,i,rfl,hr0,hi,hw,rfl,_,rfl,?_⟩
   refine aE (fun c1=>?_) (fun _=>bD go)
   refine ⟨_,rfl,r,dx,_,rfl,hr0,rfl,r,dx,w,i,rfl,hr0,hi,hw,_,_,rfl,rfl,_,rfl,?_⟩
   refine aE (fun _=>?_) (fun _=>go)
   refine ⟨_,rfl,r,dx,_,rfl,hr0,rfl,r,dx,w,i,rfl,hr0,hi,hw13,fun n a l hal nt=>⟨M5,fun p hp=>?_⟩,fun o=>ex _ (Kp.refl H).self⟩
   have pr:p≠r:=fun z=>by rw [z,aa] at hp; cases hp
   exact q (.ref p) a l _ hal nt.ne ((Kp.refl H).self.new hp) (by rw [ai pr.symm,aa]) ⟨p,_,rfl,aa,.num nt,.inr (.inl ⟨n,rfl⟩)⟩
theorem nA {C cNR:Addr}(s:Src K mg "read_atom" sRAtom)(R5:ic K C)(cF:lT mg "FIGURES" figs)(SI0:bL P w K mg base C "sign" ["self"] 1 (bp C))(NU0:bJ P w K mg base C "number" ["self"] 3 (eL C cNR))(NA0:bJ P w K mg base C "name" ["self"] 3 (dq C cNR)):bR P w K mg base "read_atom" ["reader"] 4 (fS C cNR):=
 let ⟨f,fd,F,m⟩:=s
 ⟨f,fd,qT F R5 cF SI0 NU0 NA0,F.kp,gf F fun _ _ _ _ _ _ _=>rfl,m⟩
/-! ### read_sum: the frames,and the text that they were read from -/
inductive Fq where
 | op | bi (k:Str) (s:Nat) (a:List Nat)
def Fq.txt:Fq->List Nat
 | .op=>[40]
 | .bi _ s a=>40 :: (a++[s])
def Fq.At (H:Hp):Fq->V->Prop
 | .op,u=>u=.bq
 | .bi k s a,u=>∃p x,u=.ref p/\H p=some (.tup [.str k,x])/\vA H x a/\(s=43\/s=45)
theorem Fq.At.keep {H H':Hp}(t:TK H H'):∀{f:Fq} {u:V},f.At H u->f.At H' u
 | .op,_,h=>h
 | .bi _ _ _,_,⟨p,x,e,g,s,c⟩=>⟨p,x,e,t _ _ g,s.keep t,c⟩
def fi:List Fq->List Nat
 | []=>[]
 | f :: fs=>fi fs++f.txt
theorem mP:∀fs:List Fq,fs.length<=(fi fs).length
 | []=>F8 _
 | f :: fs=>by
   have:=mP fs
   have h:1<=f.txt.length:=by cases f <;> simp [Fq.txt]
   show fs.length + 1<=(fi fs++f.txt).length
   rw [FZ]
   omega
def eM (C cNR:Addr):Sp:=fun vs H Q E=>∃(r dx:Addr) (w:Str) (i:Nat),vs=[.ref r]/\H r=some (rdO C dx w i)/\i<=w.length/\w.length<=13000/\(∀(v:V) (a:List Nat) (j:Nat) (H':Hp),aj w i=a++aj w j->j<=w.length->i < j->Kp r H H'->H' r=some (rdO C dx w j)->vA H' v a->Q v H')/\(∀H':Hp,Kp r H H'->E (.ref cNR) none H')
structure m7 (C r dx B:Addr)(w:Str)(i:Nat)(H:Hp)(Hx:Hp)(j:Nat)(fs:List Fq)(us:List V):Prop where
 rd:Hx r=some (rdO C dx w j)
 jl:j<=w.length
 bg:Hx B=some (.lst us.reverse)
 pr:Paired (fun f u=>Fq.At Hx f u) fs us
 kp:Kp r H Hx
 ij:i<=j
theorem rq {w:Str}{i j:Nat}{a b l:List Nat}(h:aj w i=a++aj w j)(hj:aj w j=b++l)(hl:j<=w.length):aj w i=(a++b)++aj w (j + b.length)/\j + b.length<=w.length:=by
 obtain ⟨h1,h2⟩:=b9 hj hl
 exact ⟨by rw [h,hj,h1,GU],h2⟩
theorem lB:ay ["reader","begun","told"] ["reader"] (ag sRSum):=⟨rfl,rfl,rfl,by decide +kernel,rfl,by decide +kernel,by decide +kernel⟩
theorem mm:(ag sRSum).names.lookup (F1 "NoRow")=some .globalImplicit:=by decide +kernel
theorem dG:(ag sRSum).names.lookup (F1 "SIGN_SUMS")=some .globalImplicit:=by decide +kernel
theorem jY:(ag sRSum).names.lookup (F1 "len")=some .globalImplicit:=by decide +kernel
theorem g6:(ag sRSum).names.lookup (F1 "read_atom")=some .globalImplicit:=by decide +kernel
theorem uj {C aSS cNR TE:Addr}{f:Addr}{fd:FuncData}(F:cf K "read_sum" "read_sum" sRSum f fd)(cN:Xc K mg "NoRow" cNR (.ref TE :: vE))(R5:ic K C)(m_len:mg "len"=none)(hSS:mg "SIGN_SUMS"=some (.ref aSS))(dSS:dM w K aSS ssL)(SI0:bL P w K mg base C "sign" ["self"] 1 (bp C))(TA0:bL P w K mg base C "taken" ["self","sign"] 2 (dt C))(DU0:bJ P w K mg base C "due" ["self","sign"] 3 (eK C cNR))(RA0:bR P w K mg base "read_atom" ["reader"] 4 (fS C cNR)):aN P w K mg base (cE P w base) 6 f fd ["reader"] (eM C cNR):=by
 refine F.okX lB (fun vs H Q E h=>?_) (fun cdv A outer s H vs Q E hr h=>?_)
 · obtain ⟨r,dx,w,i,rfl,_⟩:=h
   rfl
 · obtain ⟨r,dx,w,i,rfl,hr0,hi,hw13,q,ex⟩:=h
   have hw:w.length<=sizeLine:=F2 hw13 (by decide)
   have SI:=SI0.mono (show 1<=5 by decide)
   have TA:=TA0.mono (show 2<=5 by decide)
   have DU:=DU0.mono (show 3<=5 by decide)
   have RA:=RA0.mono (show 4<=5 by decide)
   refine eV ⟨_,(KG (KH 1 lB.nd (KJ Kz))
     (KI (Lq (L3.x5 L3.bl) (KG (Lq (L3.x5 (L3.dB (Ky 0) R5.c TA hr (Kx KA Kz))) (KI (Li (Lx (Ky 1) (Kx LM Kz)))) (hp:=GQ))
     (KG (KH 2 lB.nd (Ln cO RA hr g6 (Kx (Ky 0) Kz)))
     (KG (Lq (K7 (Lc (KL Ls (KU K4 jY m_len Gd (Kx (Ky 1) Kz)) KC) (Ld (KL L3.ub (KN KW (Ky 1) (LO KC)) LM)))) (KG (Li (L3.tJ cO (Ky 0) R5.c DU hr (Kx KA Kz)))
     (KI (KH 2 lB.nd (KD L3.oh (L3.Cz (Ky 1)) (KS (Kx (Ky 2) Kz)))))) (hp:=GQ))
     (KG (KR (KL K0 (KU K4 jY m_len Gd (Kx (Ky 1) Kz)) KC) (KI (KQ (Ky 2))) KY)
     (KG (KR (KL L3.zM (Lg (Ky 0) R5.c SI hr) (K6 (w:=.ref aSS) dG hSS rfl) (by rfl)) (KI (Lr cQ cN (by rfl) mm (Kx KA Kz))) KY)
     (KG (Lj (KS (Kx (L3.kg (K6 (w:=.ref aSS) dG hSS rfl) (Lg (Ky 0) R5.c SI hr)) (Kx (Ky 2) Kz))) (L3.yk (Ky 1) (LO KC)))
     (KI (LJ (Ky 0) KC)))))))) (hp:=GQ)))),?_⟩
   refine ao fun Rk kR=>?_
   refine ⟨M3,fun B hB=>?_⟩
   have Br:B≠r:=fun z=>by rw [z,hr0] at hB; cases hB
   refine ah ?_
   refine kR _ _ ?_
   have nfl:∀{fs:List Fq} {j:Nat},aj w i=fi fs++aj w j->fs.length<=13000:=fun {fs j} h=>by
     have h1:=congrArg Ia h
     rw [er,FZ] at h1
     have:=mP fs
     omega
   refine ⟨fun (d:Nat) (σ:L2.St) (Hx:Hp)=>∃(o2:Option V) (j:Nat) (fs:List Fq) (us:List V),σ=[some (.ref r),some (.ref B),o2]/\d=w.length - j/\m7 C r dx B w i H Hx j fs us/\aj w i=fi fs++aj w j,⟨w.length - i,none,i,[],[],rfl,rfl,⟨by rw [ai Br.symm]; exact hr0,hi,aa,.nil,(Kp.refl H).new hB,F8 _⟩,rfl⟩,fun d σ Hx z=>?_⟩
   obtain ⟨o2,j1,fs,us,rfl,rfl,S,hrest⟩:=z
   have ij1:=S.ij
   refine ⟨_,rfl,bE ⟨fun σ' H'=>∃d',d' < w.length - j1/\(fun (d:Nat) (σ:L2.St) (Hx:Hp)=>∃(o2:Option V) (j:Nat) (fs:List Fq) (us:List V),σ=[some (.ref r),some (.ref B),o2]/\d=w.length - j/\m7 C r dx B w i H Hx j fs us/\aj w i=fi fs++aj w j) d' σ' H',fun σ' H' z=>z,?_⟩⟩
   refine ao fun Rk kR=>?_
   refine ⟨fun (d:Nat) (σ:L2.St) (Hx:Hp)=>∃(o2:Option V) (j:Nat) (fs:List Fq) (us:List V),σ=[some (.ref r),some (.ref B),o2]/\d=w.length - j/\j1<=j/\m7 C r dx B w i H Hx j fs us/\aj w i=fi fs++aj w j,⟨w.length - j1,o2,j1,fs,us,rfl,rfl,F8 _,S,hrest⟩,fun d σ Hy z=>?_⟩
   clear S hrest
   obtain ⟨o2,j,fs,us,rfl,rfl,jj,S,hrest⟩:=z
   have ul:=Paired.length S.pr
   have flen:=nfl hrest
   refine ⟨_,rfl,r,dx,_,rfl,S.rd,rfl,r,dx,w,j,40,congrArg (fun z=>[V.ref r,V.str z]) zH,S.rd,S.jl,hw,?_⟩
   by_cases hd:(aj w j).head? = some 40
   · obtain ⟨l,hl⟩ : ∃l,aj w j=40 :: l:=by
       cases e:aj w j with
       | nil=>rw [e] at hd; cases hd
       | cons c l=>rw [e] at hd; exact ⟨l,by injection hd with hd; rw [hd]⟩
     obtain ⟨hr3,hlt3⟩:=bA hl
     refine .inl ⟨l,hl,_,rfl,bE ⟨fun σ' H'=>∃d',d' < w.length - j/\(fun (d:Nat) (σ:L2.St) (Hx:Hp)=>∃(o2:Option V) (j:Nat) (fs:List Fq) (us:List V),σ=[some (.ref r),some (.ref B),o2]/\d=w.length - j/\j1<=j/\m7 C r dx B w i H Hx j fs us/\aj w i=fi fs++aj w j) d' σ' H',fun σ' H' z=>z,?_⟩⟩
     have tk1:TK Hy (upd Hy r (rdO C dx w (j + 1))):=bI S.rd (fun _ z=>nomatch z)
     have bg1:(upd Hy r (rdO C dx w (j + 1))) B=some (.lst us.reverse):=by rw [ai Br]; exact S.bg
     have rd1:(upd Hy r (rdO C dx w (j + 1))) r=some (rdO C dx w (j + 1)):=aa
     have kp1:Kp r H (upd Hy r (rdO C dx w (j + 1))):=S.kp.self
     generalize upd Hy r (rdO C dx w (j + 1))=H3 at tk1 bg1 rd1 kp1 ⊢
     have tk2:TK H3 (upd H3 B (.lst (us.reverse++[.bq]))):=bI bg1 (fun _ z=>nomatch z)
     refine ⟨_,rfl,.inl ⟨rfl,_,aw.of bg1⟩,B,_,_,rfl,rfl,bg1,GK (show _<=13000 by rw [HZ]; omega) (by decide),?_⟩
     refine ⟨w.length - (j + 1),by omega,o2,j + 1,.op :: fs,.bq :: us,rfl,rfl,by omega,⟨(ai Br.symm).trans rd1,by omega,?_,.cons rfl (Paired.imp (fun f u z=>Fq.At.keep (tk1.trans tk2) z) S.pr),fun b o hb nb=>by rw [ai (aq hb hB)]; exact kp1 b o hb nb,by have:=S.ij; omega⟩,?_⟩
     · rw [Gy]
       exact aa
     · show aj w i=(fi fs++[40])++aj w (j + 1)
       rw [hrest,hl,hr3,GU]
       rfl
   refine .inr ⟨hd,_,rfl,bD ?_⟩
   refine kR _ _ ?_
   clear kR
   refine ao fun Rk kR=>?_
   refine ⟨_,rfl,r,dx,w,j,rfl,S.rd,S.jl,hw13,fun v a l Ha hal ane ka ra sv=>?_,fun H' k=>ex H' (S.kp.trans k)⟩
   obtain ⟨hm1,hm2⟩:=rq hrest hal S.jl
   have alen:0 < a.length:=List.length_pos_iff.mpr ane
   refine ah ?_
   refine kR _ _ ?_
   refine au [some (.ref r),some (.ref B),some v] rfl ?_
   clear kR
   have SA:m7 C r dx B w i H Ha (j + a.length) fs us:=⟨ra,hm2,ka _ _ S.bg Br,Paired.imp (fun f u z=>Fq.At.keep (Kp.rd ka S.rd) z) S.pr,S.kp.trans ka,by have:=S.ij; omega⟩
   refine ao fun Rk kR=>?_
   refine ⟨fun (d:Nat) (σ:L2.St) (Hx:Hp)=>∃(v:V) (a:List Nat) (j:Nat) (fs:List Fq) (us:List V),σ=[some (.ref r),some (.ref B),some v]/\d=fs.length/\m7 C r dx B w i H Hx j fs us/\aj w i=(fi fs++a)++aj w j/\vA Hx v a/\j1 < j,⟨fs.length,v,a,_,fs,us,rfl,rfl,SA,hm1,sv,by omega⟩,fun d σ Hz z=>?_⟩
   clear ul flen hrest S hd SA sv ra ka hm1 hm2 alen hal ane
   obtain ⟨v,a,j2,fs,us,rfl,rfl,S,hrest,sv,jlt⟩:=z
   have ul:=Paired.length S.pr
   have lrev:us.reverse.length=fs.length:=by rw [HZ,← ul]
   refine ⟨_,rfl,B,_,rfl,.inl (aw.of S.bg),_,_,rfl,rfl,_,rfl,?_⟩
   match fs,us,S,hrest,ul,lrev with
   | [],[],S,hrest,ul,lrev=>
     refine iteF' (by decide) (bD ?_)
     refine kR _ _ ?_
     refine ao fun Rk kR=>?_
     refine ⟨_,rfl,B,_,rfl,.inl (aw.of S.bg),rfl,_,rfl,?_⟩
     refine bE ?_
     have hrest:aj w i=a++aj w j2:=hrest
     have:i < j2:=by omega
     exact ⟨_,rfl,q v a j2 Hz hrest S.jl this S.kp S.rd sv⟩
   | .bi k s b :: fs,u :: us,S,hrest,ul,lrev=>
     obtain ⟨pa,va,rfl,hpa,sva,hs⟩ : Fq.At Hz (.bi k s b) u:=by cases S.pr with | cons h _=>exact h
     have pr2:Paired (fun f u=>Fq.At Hz f u) fs us:=by cases S.pr with | cons _ h=>exact h
     have bg:=S.bg
     rw [Gy] at bg
     rw [Gy]
     refine aE (fun _=>?_) (fun z=>absurd (decide_eq_true (by rw [FZ,Gp]; omega)) z)
     refine ⟨_,rfl,_,rfl,B,_,_,_,rfl,rfl,aw.of bg,ck _ _,rfl,_,rfl,?_⟩
     refine aE (fun _=>?_) (fun z=>absurd (by rfl) z)
     refine ⟨fun σ' H'=>∃d',d' < fs.length + 1/\(fun (d:Nat) (σ:L2.St) (Hx:Hp)=>∃(v:V) (a:List Nat) (j:Nat) (fs:List Fq) (us:List V),σ=[some (.ref r),some (.ref B),some v]/\d=fs.length/\m7 C r dx B w i H Hx j fs us/\aj w i=(fi fs++a)++aj w j/\vA Hx v a/\j1 < j) d' σ' H',fun σ' H' z=>z,?_⟩
     refine ao fun Rk2 kR2=>?_
     refine ⟨_,rfl,r,dx,_,rfl,S.rd,rfl,r,dx,w,j2,41,congrArg (fun z=>[V.ref r,V.str z]) AO,S.rd,S.jl,hw,fun l hl=>?_,ex Hz S.kp⟩
     obtain ⟨hr3,hlt3⟩:=bA hl
     have tk1:TK Hz (upd Hz r (rdO C dx w (j2 + 1))):=bI S.rd (fun _ z=>nomatch z)
     have bg1:(upd Hz r (rdO C dx w (j2 + 1))) B=some (.lst (us.reverse++[.ref pa])):=by rw [ai Br]; exact bg
     have rd1:(upd Hz r (rdO C dx w (j2 + 1))) r=some (rdO C dx w (j2 + 1)):=aa
     have kp1:Kp r H (upd Hz r (rdO C dx w (j2 + 1))):=S.kp.self
     generalize upd Hz r (rdO C dx w (j2 + 1))=H3 at tk1 bg1 rd1 kp1 ⊢
     refine kR2 _ _ ?_
     refine ⟨_,rfl,.inl ⟨rfl,_,aw.of bg1⟩,B,_,_,rfl,rfl,bg1,iX _ _,_,rfl,M4,fun q1 hq1=>?_⟩
     rw [Jo] at hq1 ⊢
     have tk2:TK H3 (upd H3 B (.lst us.reverse)):=bI bg1 (fun _ z=>nomatch z)
     have rd2:(upd H3 B (.lst us.reverse)) r=some (rdO C dx w (j2 + 1)):=by rw [ai Br.symm]; exact rd1
     have bg2:(upd H3 B (.lst us.reverse)) B=some (.lst us.reverse):=aa
     have kp2:Kp r H (upd H3 B (.lst us.reverse)):=fun b o hb nb=>by rw [ai (aq hb hB)]; exact kp1 b o hb nb
     generalize upd H3 B (.lst us.reverse)=H4 at tk2 rd2 bg2 kp2 hq1 ⊢
     have s5:=af hq1 (.tup [v])
     have g5:(upd H4 q1 (.tup [v])) q1=some (.tup [v]):=aa
     generalize upd H4 q1 (.tup [v])=H5 at s5 g5 ⊢
     have tk5:=(tk1.trans tk2).trans (ak.tk s5)
     refine ⟨pa,q1,_,_,rfl,rfl,bc.of (tk5 _ _ hpa),bc.of g5,(fun z=>nomatch z),M6,(fun z=>nomatch z),fun _ p hp=>?_⟩
     have s6:=af hp (.tup [.str k,va,v])
     have tk6:=tk5.trans (ak.tk s6)
     refine ah ?_
     obtain ⟨py,zy,rfl,hpy⟩:=sva.ref
     have sb:da b:=let ⟨_,_,_,_,z,_⟩:=sva; z
     have sa:da a:=let ⟨_,_,_,_,z,_⟩:=sv; z
     refine ⟨fs.length,HF _,.ref p,40 :: (b++s :: (a++[41])),j2 + 1,fs,us,rfl,rfl,⟨s6 _ _ (s5 _ _ rd2),by omega,s6 _ _ (s5 _ _ bg2),Paired.imp (fun f u z=>Fq.At.keep tk6 z) pr2,(kp2.same s5).same s6,by have:=S.ij; omega⟩,?_,⟨p,_,rfl,aa,.two sb sa hs,.inr (.inr ⟨k,py,zy,v,rfl,tk6 _ _ hpy⟩)⟩,by omega⟩
     rw [hrest,hl,hr3]
     show (fi fs++40 :: (b++[s])++a)++41 :: l=(fi fs++40 :: (b++s :: (a++[41])))++l
     simp
   | .op :: fs,u :: us,S,hrest,ul,lrev=>
     have hu:u=.bq:=by cases S.pr with | cons h _=>exact h
     have pr2:Paired (fun f u=>Fq.At Hz f u) fs us:=by cases S.pr with | cons _ h=>exact h
     have bg:=S.bg
     rw [Gy] at bg
     rw [Gy]
     refine aE (fun _=>?_) (fun z=>absurd (decide_eq_true (by rw [FZ,Gp]; omega)) z)
     refine ⟨_,rfl,_,rfl,B,_,_,_,rfl,rfl,aw.of bg,ck _ _,rfl,_,rfl,?_⟩
     rw [hu]
     refine iteF' (by decide) ?_
     refine kR _ _ ?_
     refine ao fun Rk kR=>?_
     rw [hu] at bg
     refine ⟨_,rfl,B,_,rfl,.inl (aw.of bg),rfl,_,rfl,?_⟩
     refine iteF' (decide_eq_false (fun z=>by injection z with z; rw [FZ,Gp] at z; omega)) ?_
     refine kR _ _ ?_
     refine ao fun Rk kR=>?_
     refine ⟨_,rfl,r,dx,_,rfl,S.rd,rfl,r,dx,w,j2,rfl,S.rd,S.jl,hw,_,aSS,ssL,rfl,rfl,dSS,_,rfl,?_⟩
     cases elk:ssL.lookup (SN ((aj w j2).take 1)) with
     | none=>exact bE ⟨_,rfl,ex Hz S.kp⟩
     | some vk=>
       refine iteF' rfl ?_
       obtain ⟨k,s,ht,hvk,hs⟩ : ∃(k:Str) (s:Nat),(aj w j2).take 1=[s]/\vk=.str k/\(s=43\/s=45):=by
         rcases CY elk with ⟨h1,h2⟩ | ⟨h1,h2⟩
         · exact ⟨_,_,h1,h2,.inl rfl⟩
         · exact ⟨_,_,h1,h2,.inr rfl⟩
       subst hvk
       obtain ⟨l,hl⟩ : ∃l,aj w j2=s :: l:=by
         cases e:aj w j2 with
         | nil=>rw [e] at ht; cases ht
         | cons c l=>rw [e] at ht; injection ht with ht _; exact ⟨l,by rw [ht]⟩
       obtain ⟨hr3,hlt3⟩:=bA hl
       refine kR _ _ ?_
       refine ao fun Rk kR=>?_
       refine ⟨_,rfl,r,dx,_,rfl,S.rd,rfl,r,dx,w,j2,rfl,S.rd,S.jl,hw,aSS,_,.str k,ssL,rfl,rfl,dSS,elk,_,rfl,M5,fun q1 hq1=>?_⟩
       have s5:=af hq1 (.tup [.str k,v])
       have g5:(upd Hz q1 (.tup [.str k,v])) q1=some (.tup [.str k,v]):=aa
       generalize upd Hz q1 (.tup [.str k,v])=H5 at s5 g5 ⊢
       have bg5:=s5 _ _ bg
       refine ⟨_,rfl,_,rfl,B,_,_,_,rfl,rfl,bg5,mv _ _,?_⟩
       rw [mT]
       have tk6:TK H5 (upd H5 B (.lst (us.reverse++[.ref q1]))):=bI bg5 (fun _ z=>nomatch z)
       have rd6:(upd H5 B (.lst (us.reverse++[.ref q1]))) r=some (rdO C dx w j2):=by rw [ai Br.symm]; exact s5 _ _ S.rd
       have bg6:(upd H5 B (.lst (us.reverse++[.ref q1]))) B=some (.lst (us.reverse++[.ref q1])):=aa
       have kp6:Kp r H (upd H5 B (.lst (us.reverse++[.ref q1]))):=fun b o hb nb=>by rw [ai (aq hb hB)]; exact s5 _ _ (S.kp b o hb nb)
       generalize upd H5 B (.lst (us.reverse++[.ref q1]))=H6 at tk6 rd6 bg6 kp6 ⊢
       refine kR _ _ ?_
       refine ⟨_,rfl,r,C,dx,_,_,rfl,rd6,R5.c,R5.p,rfl,_,_,rfl,rfl,dx,_,rd6,(by show 2 < 1000; decide),?_⟩
       have tk7:TK H6 (upd H6 r (rdO C dx w (j2 + 1))):=bI rd6 (fun _ z=>nomatch z)
       have tk:=((ak.tk s5).trans tk6).trans tk7
       have tk67:=tk6.trans tk7
       refine ⟨w.length - (j2 + 1),by omega,some v,j2 + 1,.bi k s a :: fs,.ref q1 :: us,rfl,rfl,⟨aa,by omega,?_,?_,kp6.self,by have:=S.ij; omega⟩,?_⟩
       · rw [Gy]
         exact (ai Br).trans bg6
       · exact .cons ⟨q1,v,rfl,tk67 _ _ g5,sv.keep tk,hs⟩ (Paired.imp (fun f u z=>Fq.At.keep tk z) pr2)
       · rw [hrest,hl,hr3]
         show (fi fs++[40]++a)++s :: l=(fi fs++40 :: (a++[s]))++l
         simp
theorem qA {C aSS cNR TE:Addr}(s:Src K mg "read_sum" sRSum)(cN:Xc K mg "NoRow" cNR (.ref TE :: vE))(R5:ic K C)(m_len:mg "len"=none)(hSS:mg "SIGN_SUMS"=some (.ref aSS))(dSS:dM w K aSS ssL)(SI0:bL P w K mg base C "sign" ["self"] 1 (bp C))(TA0:bL P w K mg base C "taken" ["self","sign"] 2 (dt C))(DU0:bJ P w K mg base C "due" ["self","sign"] 3 (eK C cNR))(RA0:bR P w K mg base "read_atom" ["reader"] 4 (fS C cNR)):bR P w K mg base "read_sum" ["reader"] 6 (eM C cNR):=
 let ⟨f,fd,F,m⟩:=s
 ⟨f,fd,uj F cN R5 m_len hSS dSS SI0 TA0 DU0 RA0,F.kp,gf F fun _ _ _ _ _ _ _=>rfl,m⟩
end
end TW
set_option Elab.async false
set_option linter.all false
set_option maxRecDepth 100000
set_option exponentiation.threshold 4000
set_option maxHeartbeats 1000000
namespace TW
open PySem L2
section
variable {P:Program}{w:World}{K:FX}{mg:Str->Option Value}{base:Heap}
abbrev sRTest:Stmt:=top 39
abbrev sRCond:Stmt:=top 40
theorem tT {a b c:Expr}{p:Pos}:br (.IfExp a b c p):=⟨fun _ _=>rfl⟩
theorem n6:("!":Str)=SN [33]:=by decide +kernel
theorem zF:("{":Str)=SN [123]:=by decide +kernel
theorem AL:("}":Str)=SN [125]:=by decide +kernel
theorem yU:("&":Str)=SN [38]:=by decide +kernel
theorem sY {c:Nat}:wk (.str (SN [c])) [.str "!",.str "{"]=(decide (c=33) || decide (c=123)):=by
 show ((("!":Str) == SN [c]) || ((("{":Str) == SN [c]) || false))=_
 rw [n6,zF,Bool.or_false]
 have h:∀d:Nat,(SN [d] == SN [c])=decide (c=d):=fun d=>by
   by_cases z:c=d
   · rw [z,beq_self_eq_true,decide_eq_true rfl]
   · rw [beq_eq_false_iff_ne.mpr (fun k=>z (by injection cV k with k _; exact k.symm)),decide_eq_false z]
 rw [h,h]
abbrev stL:List (Str×V):=[("=",.str "same"),("<",.str "under")]
theorem C0 {l:List Nat}{v:V}(h:stL.lookup (SN l)=some v):∃(k:Str) (s:Nat),l=[s]/\v=.str k/\(s=61\/s=60):=by
 by_cases e1:SN l=("=":Str)
 · have:=cV (e1.trans (show ("=":Str)=SN [61] by decide +kernel))
   subst this
   rw [show stL.lookup (SN [61])=some (.str "same") by decide +kernel] at h
   exact ⟨_,_,rfl,(Gm h).symm,.inl rfl⟩
 · by_cases e2:SN l=("<":Str)
   · have:=cV (e2.trans (show ("<":Str)=SN [60] by decide +kernel))
     subst this
     rw [show stL.lookup (SN [60])=some (.str "under") by decide +kernel] at h
     exact ⟨_,_,rfl,(Gm h).symm,.inr rfl⟩
   · have h1:(SN l == ("=":Str))=false:=beq_eq_false_iff_ne.mpr e1
     have h2:(SN l == ("<":Str))=false:=beq_eq_false_iff_ne.mpr e2
     rw [GL,h1,GL,h2] at h
     cases h
theorem sX (l:List Nat):(∃r,l=33 :: r)\/(∃r,l=123 :: r)\/wk (.str (SN (l.take 1))) [.str "!",.str "{"]=false:=by
 cases l with
 | nil=>exact .inr (.inr (by decide +kernel))
 | cons c r=>
   by_cases h1:c=33
   · exact .inl ⟨r,by rw [h1]⟩
   · by_cases h2:c=123
     · exact .inr (.inl ⟨r,by rw [h2]⟩)
     · refine .inr (.inr ?_)
       rw [show (c :: r).take 1=[c] from rfl,sY,decide_eq_false h1,decide_eq_false h2]
       rfl
theorem A9 {K:FX}{H:Hp}{xs:List V}{a:List Nat}(hc:xs=[.str "box",.str (SN a)]\/(∃n,xs=[.str "number",.int n])\/∃k y zs z,xs=[.str k,.ref y,z]/\H y=some (.tup zs)) :
   ∃e:Nat->Bool,(∀j x y,xs[j]? = some x->[V.str "box",.str "yes"][j]? = some y->EM K H x y (e j))/\(((HN (min xs.length [V.str "box",.str "yes"].length)).all e && xs.length == [V.str "box",.str "yes"].length)=true->a=[121,101,115]):=by
 rcases hc with rfl | ⟨n,rfl⟩ | ⟨k,y,zs,z,rfl,hy⟩
 · refine ⟨fun j=>match j with | 0=>true | _=>l7 (.str (SN a)) (.str "yes"),fun j x y hx hy=>?_,fun h=>?_⟩
   · match j,hx,hy with
     | 0,hx,hy=>cases hx; cases hy; exact EM.flat (x:=.str "box") (y:=.str "box") rfl rfl
     | 1,hx,hy=>cases hx; cases hy; exact EM.flat rfl rfl
   · have h:(true && ((SN a == ("yes":Str)) && true) && true)=true:=h
     rw [Bool.and_true,Bool.and_true,Bool.true_and] at h
     exact cV ((beq_iff_eq.mp h).trans (show ("yes":Str)=SN [121,101,115] by decide +kernel))
 · refine ⟨fun j=>match j with | 0=>false | _=>l7 (.int n) (.str "yes"),fun j x y hx hy=>?_,fun h=>?_⟩
   · match j,hx,hy with
     | 0,hx,hy=>cases hx; cases hy; exact EM.flat (x:=.str "number") (y:=.str "box") rfl rfl
     | 1,hx,hy=>cases hx; cases hy; exact EM.flat rfl rfl
   · have h:(false && (l7 (.int n) (.str "yes") && true) && true)=true:=h
     rw [J6,J6] at h
     cases h
 · refine ⟨fun j=>match j with | 0=>l7 (.str k) (.str "box") | _=>false,fun j x y hx hy=>?_,fun h=>?_⟩
   · match j,hx,hy with
     | 0,hx,hy=>cases hx; cases hy; exact EM.flat rfl rfl
     | 1,hx,hy=>cases hx; cases hy; exact EM.text (bc.of ‹_›)
   · have h:=((HE _ _).mp h).2
     cases h
/-! ### read_test -/
def fW (C cNR:Addr):Sp:=fun vs H Q E=>∃(r dx:Addr) (w:Str) (i:Nat),vs=[.ref r]/\H r=some (rdO C dx w i)/\i<=w.length/\w.length<=13000/\(∀(v:V) (a:List Nat) (j:Nat) (H':Hp),aj w i=a++aj w j->j<=w.length->i < j->Kp r H H'->H' r=some (rdO C dx w j)->dv a->Q v H')/\(∀H':Hp,Kp r H H'->E (.ref cNR) none H')
theorem lC:ay ["reader","told","kind"] ["reader"] (ag sRTest):=⟨rfl,rfl,rfl,by decide +kernel,rfl,by decide +kernel,by decide +kernel⟩
theorem kT:(ag sRTest).names.lookup (F1 "NoRow")=some .globalImplicit:=by decide +kernel
theorem cI:(ag sRTest).names.lookup (F1 "SIGN_TESTS")=some .globalImplicit:=by decide +kernel
theorem dH:(ag sRTest).names.lookup (F1 "read_sum")=some .globalImplicit:=by decide +kernel
theorem qY {C aST cNR TE:Addr}{f:Addr}{fd:FuncData}(F:cf K "read_test" "read_test" sRTest f fd)(cN:Xc K mg "NoRow" cNR (.ref TE :: vE))(R5:ic K C)(hST:mg "SIGN_TESTS"=some (.ref aST))(dST:dM w K aST stL)(SI0:bL P w K mg base C "sign" ["self"] 1 (bp C))(RS0:bR P w K mg base "read_sum" ["reader"] 6 (eM C cNR)):aN P w K mg base (cE P w base) 7 f fd ["reader"] (fW C cNR):=by
 refine F.okX lC (fun vs H Q E h=>?_) (fun cdv A outer s H vs Q E hr h=>?_)
 · obtain ⟨r,dx,w,i,rfl,_⟩:=h
   rfl
 · obtain ⟨r,dx,w,i,rfl,hr0,hi,hw13,q,ex⟩:=h
   have hw:w.length<=sizeLine:=F2 hw13 (by decide)
   have SI:=SI0.mono (show 1<=6 by decide)
   have RS:=RS0
   refine eV ⟨_,(KG (KH 1 lC.nd (Ln cO RS hr dH (Kx (Ky 0) Kz)))
     (KG (KR (KL L3.B9 (Lg (Ky 0) R5.c SI hr) (K6 (w:=.ref aST) cI hST rfl) (by rfl)) (KG (KH 2 lC.nd (L3.kg (K6 (w:=.ref aST) cI hST rfl) (Lg (Ky 0) R5.c SI hr)))
     (KG (LJ (Ky 0) KC)
     (KI (KQ (KS (Kx (Ky 2) (Kx (Ky 1) (Kx (Ln cO RS hr dH (Kx (Ky 0) Kz)) Kz)))))))) KY)
     (KG (KR (KL (L3.yv (cy hr _ (by decide))) (Ky 1) (KS (Kx KA (Kx KA Kz)))) (KI (Lr cQ cN (by rfl) kT (Kx KA Kz))) KY)
     (KI (KQ (KS (Kx KA Kz))))))),?_⟩
   refine ao fun Rk kR=>?_
   refine ⟨_,rfl,r,dx,w,i,rfl,hr0,hi,hw13,fun v1 a j H1 hal hj ij k1 r1 sv=>?_,fun H' k=>ex H' k⟩
   refine ah ?_
   refine kR _ _ ?_
   refine au [some (.ref r),some v1,none] rfl ?_
   clear kR
   refine ao fun Rk kR=>?_
   refine ⟨_,rfl,r,dx,_,rfl,r1,rfl,r,dx,w,j,rfl,r1,hj,hw,_,aST,stL,rfl,rfl,dST,_,rfl,?_⟩
   cases elk:stL.lookup (SN ((aj w j).take 1)) with
   | none=>
     refine iteF' rfl ?_
     refine kR _ _ ?_
     obtain ⟨p1,xs,rfl,hp1,sa,hc⟩:=sv
     refine ao fun Rk kR=>?_
     refine ⟨_,rfl,M5,fun p hp=>?_⟩
     have s2:=af hp (.tup [.str "box",.str "yes"])
     have g2:(upd H1 p (.tup [.str "box",.str "yes"])) p=some (.tup [.str "box",.str "yes"]):=aa
     have kp2:=k1.new (o:=.tup [.str "box",.str "yes"]) hp
     generalize upd H1 p (.tup [.str "box",.str "yes"])=H2 at s2 g2 kp2 ⊢
     have hc2:xs=[.str "box",.str (SN a)]\/(∃n,xs=[.str "number",.int n])\/∃k y zs z,xs=[.str k,.ref y,z]/\H2 y=some (.tup zs):=by
       rcases hc with c | c | ⟨k,y,zs,z,c,d⟩
       · exact .inl c
       · exact .inr (.inl c)
       · exact .inr (.inr ⟨k,y,zs,z,c,s2 _ _ d⟩)
     obtain ⟨e,he,hb⟩:=A9 (K:=K) hc2
     refine ⟨p1,p,xs,_,e,rfl,rfl,bc.of (s2 _ _ hp1),bc.of g2,he,_,rfl,_,rfl,?_⟩
     refine aE (fun _=>⟨_,rfl,ex _ kp2⟩) (fun c=>?_)
     have ey:=hb (by
       generalize ((HN (min xs.length [V.str "box",.str "yes"].length)).all e && xs.length == [V.str "box",.str "yes"].length)=b at c ⊢
       cases b with
       | true=>rfl
       | false=>exact absurd rfl c)
     subst ey
     refine kR _ _ ?_
     refine ⟨M4,fun p3 hp3=>?_⟩
     refine q (.ref p3) _ j _ hal hj ij (kp2.new hp3) ?_ .yes
     rw [ai (fun z=>by rw [← z,s2 _ _ r1] at hp3; cases hp3)]
     exact s2 _ _ r1
   | some vk=>
     obtain ⟨k,s,ht,rfl,hs⟩:=C0 elk
     obtain ⟨l,hl⟩ : ∃l,aj w j=s :: l:=by
       cases e:aj w j with
       | nil=>rw [e] at ht; cases ht
       | cons c l=>rw [e] at ht; injection ht with ht _; exact ⟨l,by rw [ht]⟩
     obtain ⟨hr3,hlt3⟩:=bA hl
     refine bE ?_
     refine ao fun Rk2 kR2=>?_
     refine ⟨_,rfl,r,dx,_,rfl,r1,rfl,r,dx,w,j,rfl,r1,hj,hw,aST,_,.str k,stL,rfl,rfl,dST,elk,?_⟩
     refine ah ?_
     refine kR2 _ _ ?_
     refine au [some (.ref r),some v1,some (.str k)] rfl ?_
     refine ao fun Rk3 kR3=>?_
     refine ⟨_,rfl,r,C,dx,_,_,rfl,r1,R5.c,R5.p,rfl,_,_,rfl,rfl,dx,_,r1,(by show 2 < 1000; decide),?_⟩
     have r2:(upd H1 r (rdO C dx w (j + 1))) r=some (rdO C dx w (j + 1)):=aa
     have k2:Kp r H (upd H1 r (rdO C dx w (j + 1))):=k1.self
     refine kR3 _ (upd H1 r (rdO C dx w (j + 1))) ?_
     generalize upd H1 r (rdO C dx w (j + 1))=H2 at r2 k2 ⊢
     refine ⟨_,rfl,_,rfl,_,rfl,r,dx,w,j + 1,rfl,r2,by omega,hw13,fun v2 b j3 H3 hbl hj3 ij3 k3 r3 sv2=>?_,fun H' k'=>ex H' (k2.trans k')⟩
     refine ⟨M6,fun p hp=>?_⟩
     have sa:da a:=let ⟨_,_,_,_,z,_⟩:=sv; z
     have sb:da b:=let ⟨_,_,_,_,z,_⟩:=sv2; z
     refine q (.ref p) (a++s :: b) j3 _ ?_ hj3 (by omega) ((k2.trans k3).new hp) ?_ (.cmp sa sb hs)
     · rw [hal,hl,← hr3,hbl]
       simp
     · rw [ai (fun z=>by rw [← z,r3] at hp; cases hp)]
       exact r3
theorem nH {C aST cNR TE:Addr}(s:Src K mg "read_test" sRTest)(cN:Xc K mg "NoRow" cNR (.ref TE :: vE))(R5:ic K C)(hST:mg "SIGN_TESTS"=some (.ref aST))(dST:dM w K aST stL)(SI0:bL P w K mg base C "sign" ["self"] 1 (bp C))(RS0:bR P w K mg base "read_sum" ["reader"] 6 (eM C cNR)):bR P w K mg base "read_test" ["reader"] 7 (fW C cNR):=
 let ⟨f,fd,F,m⟩:=s
 ⟨f,fd,qY F cN R5 hST dST SI0 RS0,F.kp,gf F fun _ _ _ _ _ _ _=>rfl,m⟩
/-! ### read_condition -/
inductive Fd where
 | N | L | R (a:List Nat)
def Fd.txt:Fd->List Nat
 | .N=>[33]
 | .L=>[123]
 | .R a=>123 :: (a++[38])
def Fd.At (H:Hp):Fd->V->Prop
 | .N,u=>∃p,u=.ref p/\H p=some (.tup [.str "not"])
 | .L,u=>u=.bq
 | .R a,u=>∃p x,u=.ref p/\H p=some (.tup [.str "both",x])/\dv a
theorem Fd.At.keep {H H':Hp}(t:TK H H'):∀{f:Fd} {u:V},f.At H u->f.At H' u
 | .N,_,⟨p,e,g⟩=>⟨p,e,t _ _ g⟩
 | .L,_,h=>h
 | .R _,_,⟨p,x,e,g,c⟩=>⟨p,x,e,t _ _ g,c⟩
def cD:List Fd->List Nat
 | []=>[]
 | f :: fs=>cD fs++f.txt
theorem mO:∀fs:List Fd,fs.length<=(cD fs).length
 | []=>F8 _
 | f :: fs=>by
   have:=mO fs
   have h:1<=f.txt.length:=by cases f <;> simp [Fd.txt]
   show fs.length + 1<=(cD fs++f.txt).length
   rw [FZ]
   omega
def fT (C cNR:Addr):Sp:=fun vs H Q E=>∃(r dx:Addr) (w:Str) (i:Nat),vs=[.ref r]/\H r=some (rdO C dx w i)/\i<=w.length/\w.length<=13000/\(∀(v:V) (a:List Nat) (j:Nat) (H':Hp),aj w i=a++aj w j->j<=w.length->i < j->Kp r H H'->H' r=some (rdO C dx w j)->dv a->Q v H')/\(∀H':Hp,Kp r H H'->E (.ref cNR) none H')
structure gT (C r dx B:Addr)(w:Str)(i:Nat)(H:Hp)(Hx:Hp)(j:Nat)(fs:List Fd)(us:List V):Prop where
 rd:Hx r=some (rdO C dx w j)
 jl:j<=w.length
 bg:Hx B=some (.lst us.reverse)
 pr:Paired (fun f u=>Fd.At Hx f u) fs us
 kp:Kp r H Hx
 ij:i<=j
theorem gT.same {C r dx B:Addr}{w:Str}{i:Nat}{H:Hp}{Hx Hy:Hp}{j:Nat}{fs:List Fd}{us:List V}(h:gT C r dx B w i H Hx j fs us)(s:ak Hx Hy):gT C r dx B w i H Hy j fs us:=⟨s _ _ h.rd,h.jl,s _ _ h.bg,Paired.imp (fun f u z=>Fd.At.keep (ak.tk s) z) h.pr,h.kp.same s,h.ij⟩
theorem ir:ay ["reader","begun","told"] ["reader"] (ag sRCond):=⟨rfl,rfl,rfl,by decide +kernel,rfl,by decide +kernel,by decide +kernel⟩
theorem iT:(ag sRCond).names.lookup (F1 "len")=some .globalImplicit:=by decide +kernel
theorem gr:(ag sRCond).names.lookup (F1 "read_test")=some .globalImplicit:=by decide +kernel
theorem qU {C cNR:Addr}{f:Addr}{fd:FuncData}(F:cf K "read_condition" "read_condition" sRCond f fd)(R5:ic K C)(m_len:mg "len"=none)(SI0:bL P w K mg base C "sign" ["self"] 1 (bp C))(DU0:bJ P w K mg base C "due" ["self","sign"] 3 (eK C cNR))(RT0:bR P w K mg base "read_test" ["reader"] 7 (fW C cNR)):aN P w K mg base (cE P w base) 8 f fd ["reader"] (fT C cNR):=by
 refine F.okX ir (fun vs H Q E h=>?_) (fun cdv A outer s H vs Q E hr h=>?_)
 · obtain ⟨r,dx,w,i,rfl,_⟩:=h
   rfl
 · obtain ⟨r,dx,w,i,rfl,hr0,hi,hw13,q,ex⟩:=h
   have hw:w.length<=sizeLine:=F2 hw13 (by decide)
   have SI:=SI0.mono (show 1<=7 by decide)
   have DU:=DU0.mono (show 3<=7 by decide)
   have RT:=RT0
   refine eV ⟨_,(KG (KH 1 ir.nd (KJ Kz))
     (KI (Lq (L3.x5 L3.bl) (KG (Lq (KL L3.zL (Lg (Ky 0) R5.c SI hr) (KS (Kx KA (Kx KA Kz))) (by rfl)) (KG (Li (Lx (Ky 1) (Kx (L3.ES (KL K0 (Lg (Ky 0) R5.c SI hr) KA) (KS (Kx KA Kz)) LM) Kz tT)))
     (KI (LJ (Ky 0) KC))) (hp:=GQ))
     (KG (KH 2 ir.nd (Ln cO RT hr gr (Kx (Ky 0) Kz)))
     (KG (Lq (K7 (Lc (KL Ls (KU K4 iT m_len Gd (Kx (Ky 1) Kz)) KC) (Ld (KL L3.ub (KN KW (Ky 1) (LO KC)) LM)))) (KG (KR (KL (L3.yv (cy hr _ (by decide))) (KN KW (Ky 1) (LO KC)) (KS (Kx KA Kz))) (KI (Li (L3.tJ cO (Ky 0) R5.c DU hr (Kx KA Kz)))) KY)
     (KI (KH 2 ir.nd (KD L3.oh (L3.Cz (Ky 1)) (KS (Kx (Ky 2) Kz)))))) (hp:=GQ))
     (KG (KR (KL K0 (KU K4 iT m_len Gd (Kx (Ky 1) Kz)) KC) (KI (KQ (Ky 2))) KY)
     (KG (Li (L3.tJ cO (Ky 0) R5.c DU hr (Kx KA Kz)))
     (KI (Lj (KS (Kx KA (Kx (Ky 2) Kz))) (L3.yk (Ky 1) (LO KC))))))))) (hp:=GQ)))),?_⟩
   refine ao fun Rk kR=>?_
   refine ⟨M3,fun B hB=>?_⟩
   have Br:B≠r:=fun z=>by rw [z,hr0] at hB; cases hB
   refine ah ?_
   refine kR _ _ ?_
   have nfl:∀{fs:List Fd} {j:Nat},aj w i=cD fs++aj w j->fs.length<=13000:=fun {fs j} h=>by
     have h1:=congrArg Ia h
     rw [er,FZ] at h1
     have:=mO fs
     omega
   refine ⟨fun (d:Nat) (σ:L2.St) (Hx:Hp)=>∃(o2:Option V) (j:Nat) (fs:List Fd) (us:List V),σ=[some (.ref r),some (.ref B),o2]/\d=w.length - j/\gT C r dx B w i H Hx j fs us/\aj w i=cD fs++aj w j,⟨w.length - i,none,i,[],[],rfl,rfl,⟨by rw [ai Br.symm]; exact hr0,hi,aa,.nil,(Kp.refl H).new hB,F8 _⟩,rfl⟩,fun d σ Hx z=>?_⟩
   obtain ⟨o2,j1,fs,us,rfl,rfl,S,hrest⟩:=z
   have ij1:=S.ij
   refine ⟨_,rfl,bE ⟨fun σ' H'=>∃d',d' < w.length - j1/\(fun (d:Nat) (σ:L2.St) (Hx:Hp)=>∃(o2:Option V) (j:Nat) (fs:List Fd) (us:List V),σ=[some (.ref r),some (.ref B),o2]/\d=w.length - j/\gT C r dx B w i H Hx j fs us/\aj w i=cD fs++aj w j) d' σ' H',fun σ' H' z=>z,?_⟩⟩
   refine ao fun Rk kR=>?_
   refine ⟨fun (d:Nat) (σ:L2.St) (Hx:Hp)=>∃(o2:Option V) (j:Nat) (fs:List Fd) (us:List V),σ=[some (.ref r),some (.ref B),o2]/\d=w.length - j/\j1<=j/\gT C r dx B w i H Hx j fs us/\aj w i=cD fs++aj w j,⟨w.length - j1,o2,j1,fs,us,rfl,rfl,F8 _,S,hrest⟩,fun d σ Hy z=>?_⟩
   clear S hrest
   obtain ⟨o2,j,fs,us,rfl,rfl,jj,S,hrest⟩:=z
   have ul:=Paired.length S.pr
   have flen:=nfl hrest
   refine ⟨_,rfl,r,dx,_,rfl,S.rd,rfl,r,dx,w,j,rfl,S.rd,S.jl,hw,?_⟩
   refine ⟨M5,fun t0 ht0=>?_⟩
   have st0:=af ht0 (.tup [.str "!",.str "{"])
   have gt0:(upd Hy t0 (.tup [.str "!",.str "{"])) t0=some (.tup [.str "!",.str "{"]):=aa
   generalize upd Hy t0 (.tup [.str "!",.str "{"])=Hy' at st0 gt0 ⊢
   replace S:=S.same st0
   clear ht0 st0
   refine ⟨t0,_,rfl,.inr (bc.of gt0),rfl,rfl,_,rfl,?_⟩
   clear gt0
   rcases sX (aj w j) with ⟨l,hl⟩ | ⟨l,hl⟩ | hf
   · obtain ⟨hr3,hlt3⟩:=bA hl
     have h1:(aj w j).take 1=[33]:=by rw [hl]; rfl
     rw [h1,sY]
     refine bE ⟨fun σ' H'=>∃d',d' < w.length - j/\(fun (d:Nat) (σ:L2.St) (Hx:Hp)=>∃(o2:Option V) (j:Nat) (fs:List Fd) (us:List V),σ=[some (.ref r),some (.ref B),o2]/\d=w.length - j/\j1<=j/\gT C r dx B w i H Hx j fs us/\aj w i=cD fs++aj w j) d' σ' H',fun σ' H' z=>z,?_⟩
     refine ao fun Rk kR=>?_
     refine ⟨_,rfl,.inl ⟨rfl,_,aw.of S.bg⟩,_,rfl,r,dx,_,rfl,S.rd,rfl,r,dx,w,j,rfl,S.rd,S.jl,hw,rfl,_,rfl,?_⟩
     rw [h1]
     refine aE (fun _=>?_) (fun z=>absurd (by rw [n6]; exact decide_eq_true rfl) z)
     refine ⟨M4,fun t1 ht1=>?_⟩
     have st1:=af ht1 (.tup [.str "not"])
     have gt1:(upd Hy' t1 (.tup [.str "not"])) t1=some (.tup [.str "not"]):=aa
     generalize upd Hy' t1 (.tup [.str "not"])=H3 at st1 gt1 ⊢
     have bg1:=st1 _ _ S.bg
     have rd1:=st1 _ _ S.rd
     have kp1:=S.kp.same st1
     refine ⟨B,_,_,rfl,rfl,bg1,GK (show _<=13000 by rw [HZ]; omega) (by decide),?_⟩
     have tk3:TK H3 (upd H3 B (.lst (us.reverse++[V.ref t1]))):=bI bg1 (fun _ z=>nomatch z)
     have rd3:(upd H3 B (.lst (us.reverse++[V.ref t1]))) r=some (rdO C dx w j):=by rw [ai Br.symm]; exact rd1
     have bg3:(upd H3 B (.lst (us.reverse++[V.ref t1]))) B=some (.lst (us.reverse++[V.ref t1])):=aa
     have kp3:Kp r H (upd H3 B (.lst (us.reverse++[V.ref t1]))):=fun b o hb nb=>by rw [ai (aq hb hB)]; exact kp1 b o hb nb
     refine kR _ (upd H3 B (.lst (us.reverse++[V.ref t1]))) ?_
     generalize upd H3 B (.lst (us.reverse++[V.ref t1]))=H4 at tk3 rd3 bg3 kp3 ⊢
     refine ⟨_,rfl,r,C,dx,_,_,rfl,rd3,R5.c,R5.p,rfl,_,_,rfl,rfl,dx,_,rd3,(by show 2 < 1000; decide),?_⟩
     have tk4:TK H4 (upd H4 r (rdO C dx w (j + 1))):=bI rd3 (fun _ z=>nomatch z)
     have kp4:Kp r H (upd H4 r (rdO C dx w (j + 1))):=kp3.self
     refine ⟨w.length - (j + 1),by omega,o2,j + 1,.N :: fs,V.ref t1 :: us,rfl,rfl,by omega,⟨aa,by omega,by rw [Gy]; exact (ai Br).trans bg3,.cons ⟨t1,rfl,tk4 _ _ (tk3 _ _ gt1)⟩ (Paired.imp (fun f u z=>Fd.At.keep (((ak.tk st1).trans tk3).trans tk4) z) S.pr),kp4,by have:=S.ij; omega⟩,?_⟩
     rw [hrest,hl,hr3]
     show cD fs++33 :: l=(cD fs++[33])++l
     simp
   · obtain ⟨hr3,hlt3⟩:=bA hl
     have h1:(aj w j).take 1=[123]:=by rw [hl]; rfl
     rw [h1,sY]
     refine bE ⟨fun σ' H'=>∃d',d' < w.length - j/\(fun (d:Nat) (σ:L2.St) (Hx:Hp)=>∃(o2:Option V) (j:Nat) (fs:List Fd) (us:List V),σ=[some (.ref r),some (.ref B),o2]/\d=w.length - j/\j1<=j/\gT C r dx B w i H Hx j fs us/\aj w i=cD fs++aj w j) d' σ' H',fun σ' H' z=>z,?_⟩
     refine ao fun Rk kR=>?_
     refine ⟨_,rfl,.inl ⟨rfl,_,aw.of S.bg⟩,_,rfl,r,dx,_,rfl,S.rd,rfl,r,dx,w,j,rfl,S.rd,S.jl,hw,rfl,_,rfl,?_⟩
     rw [h1]
     refine iteF' (decide_eq_false (fun z=>by injection z with z; rw [n6] at z; have z:=cV z; cases z)) ?_
     obtain ⟨H3,eH3⟩ : ∃x,x=Hy':=⟨_,rfl⟩
     have bg1:=S.bg
     have rd1:=S.rd
     have kp1:=S.kp
     have st1:ak Hy' H3:=by rw [eH3]; exact fun _ _ z=>z
     rw [← eH3] at bg1 rd1 kp1 ⊢
     refine ⟨B,_,_,rfl,rfl,bg1,GK (show _<=13000 by rw [HZ]; omega) (by decide),?_⟩
     have tk3:TK H3 (upd H3 B (.lst (us.reverse++[V.bq]))):=bI bg1 (fun _ z=>nomatch z)
     have rd3:(upd H3 B (.lst (us.reverse++[V.bq]))) r=some (rdO C dx w j):=by rw [ai Br.symm]; exact rd1
     have bg3:(upd H3 B (.lst (us.reverse++[V.bq]))) B=some (.lst (us.reverse++[V.bq])):=aa
     have kp3:Kp r H (upd H3 B (.lst (us.reverse++[V.bq]))):=fun b o hb nb=>by rw [ai (aq hb hB)]; exact kp1 b o hb nb
     refine kR _ (upd H3 B (.lst (us.reverse++[V.bq]))) ?_
     generalize upd H3 B (.lst (us.reverse++[V.bq]))=H4 at tk3 rd3 bg3 kp3 ⊢
     refine ⟨_,rfl,r,C,dx,_,_,rfl,rd3,R5.c,R5.p,rfl,_,_,rfl,rfl,dx,_,rd3,(by show 2 < 1000; decide),?_⟩
     have tk4:TK H4 (upd H4 r (rdO C dx w (j + 1))):=bI rd3 (fun _ z=>nomatch z)
     have kp4:Kp r H (upd H4 r (rdO C dx w (j + 1))):=kp3.self
     refine ⟨w.length - (j + 1),by omega,o2,j + 1,.L :: fs,V.bq :: us,rfl,rfl,by omega,⟨aa,by omega,by rw [Gy]; exact (ai Br).trans bg3,.cons rfl (Paired.imp (fun f u z=>Fd.At.keep (((ak.tk st1).trans tk3).trans tk4) z) S.pr),kp4,by have:=S.ij; omega⟩,?_⟩
     rw [hrest,hl,hr3]
     show cD fs++123 :: l=(cD fs++[123])++l
     simp
   rw [hf]
   refine iteF' rfl ?_
   refine kR _ _ ?_
   clear kR
   refine ao fun Rk kR=>?_
   refine ⟨_,rfl,r,dx,w,j,rfl,S.rd,S.jl,hw13,fun v a j2 Ha hal hj2 ij2 ka ra sv=>?_,fun H' k=>ex H' (S.kp.trans k)⟩
   refine ah ?_
   refine kR _ _ ?_
   refine au [some (.ref r),some (.ref B),some v] rfl ?_
   clear kR
   have SA:gT C r dx B w i H Ha j2 fs us:=⟨ra,hj2,ka _ _ S.bg Br,Paired.imp (fun f u z=>Fd.At.keep (Kp.rd ka S.rd) z) S.pr,S.kp.trans ka,by have:=S.ij; omega⟩
   refine ao fun Rk kR=>?_
   refine ⟨fun (d:Nat) (σ:L2.St) (Hx:Hp)=>∃(v:V) (a:List Nat) (j:Nat) (fs:List Fd) (us:List V),σ=[some (.ref r),some (.ref B),some v]/\d=fs.length/\gT C r dx B w i H Hx j fs us/\aj w i=(cD fs++a)++aj w j/\dv a/\j1 < j,⟨fs.length,v,a,_,fs,us,rfl,rfl,SA,by rw [hrest,hal,GU],sv,by omega⟩,fun d σ Hz z=>?_⟩
   clear ul flen hrest S SA sv ra ka hal hf hj2 ij2
   obtain ⟨v,a,j2,fs,us,rfl,rfl,S,hrest,sv,jlt⟩:=z
   have ul:=Paired.length S.pr
   have lrev:us.reverse.length=fs.length:=by rw [HZ,← ul]
   refine ⟨_,rfl,B,_,rfl,.inl (aw.of S.bg),_,_,rfl,rfl,_,rfl,?_⟩
   match fs,us,S,hrest,ul,lrev with
   | [],[],S,hrest,ul,lrev=>
     refine iteF' (by decide) (bD ?_)
     refine kR _ _ ?_
     refine ao fun Rk kR=>?_
     refine ⟨_,rfl,B,_,rfl,.inl (aw.of S.bg),rfl,_,rfl,?_⟩
     refine bE ?_
     have hrest:aj w i=a++aj w j2:=hrest
     have:i < j2:=by omega
     exact ⟨_,rfl,q v a j2 Hz hrest S.jl this S.kp S.rd sv⟩
   | .N :: fs,u :: us,S,hrest,ul,lrev=>
     obtain ⟨pa,rfl,hpa⟩ : Fd.At Hz .N u:=by cases S.pr with | cons h _=>exact h
     have pr2:Paired (fun f u=>Fd.At Hz f u) fs us:=by cases S.pr with | cons _ h=>exact h
     have bg:=S.bg
     rw [Gy] at bg
     rw [Gy]
     refine aE (fun _=>?_) (fun z=>absurd (decide_eq_true (by rw [FZ,Gp]; omega)) z)
     refine ⟨_,rfl,_,rfl,B,_,_,_,rfl,rfl,aw.of bg,ck _ _,rfl,_,rfl,?_⟩
     refine aE (fun _=>?_) (fun z=>absurd (by rfl) z)
     refine ⟨fun σ' H'=>∃d',d' < fs.length + 1/\(fun (d:Nat) (σ:L2.St) (Hx:Hp)=>∃(v:V) (a:List Nat) (j:Nat) (fs:List Fd) (us:List V),σ=[some (.ref r),some (.ref B),some v]/\d=fs.length/\gT C r dx B w i H Hx j fs us/\aj w i=(cD fs++a)++aj w j/\dv a/\j1 < j) d' σ' H',fun σ' H' z=>z,?_⟩
     refine ao fun Rk2 kR2=>?_
     refine ⟨_,rfl,_,rfl,B,_,_,_,rfl,rfl,aw.of bg,ck _ _,M4,fun t1 ht1=>?_⟩
     have st1:=af ht1 (.tup [.str "not"])
     have gt1:(upd Hz t1 (.tup [.str "not"])) t1=some (.tup [.str "not"]):=aa
     generalize upd Hz t1 (.tup [.str "not"])=H3 at st1 gt1 ⊢
     have S1:=S.same st1
     refine ⟨pa,t1,_,_,fun _=>true,rfl,rfl,bc.of (st1 _ _ hpa),bc.of gt1,(fun j x y hx hy=>?_),_,rfl,_,rfl,iteF' rfl ?_⟩
     · match j,hx,hy with
       | 0,hx,hy=>cases hx; cases hy; exact EM.flat (x:=.str "not") (y:=.str "not") rfl rfl
     have bg1:=st1 _ _ bg
     have rd1:=S1.rd
     have kp1:=S1.kp
     have tk1:=ak.tk st1
     refine kR2 _ _ ?_
     refine ⟨_,rfl,.inl ⟨rfl,_,aw.of bg1⟩,B,_,_,rfl,rfl,bg1,iX _ _,_,rfl,M4,fun q1 hq1=>?_⟩
     rw [Jo] at hq1 ⊢
     have tk2:TK H3 (upd H3 B (.lst us.reverse)):=bI bg1 (fun _ z=>nomatch z)
     have rd2:(upd H3 B (.lst us.reverse)) r=some (rdO C dx w j2):=by rw [ai Br.symm]; exact rd1
     have bg2:(upd H3 B (.lst us.reverse)) B=some (.lst us.reverse):=aa
     have kp2:Kp r H (upd H3 B (.lst us.reverse)):=fun b o hb nb=>by rw [ai (aq hb hB)]; exact kp1 b o hb nb
     generalize upd H3 B (.lst us.reverse)=H4 at tk2 rd2 bg2 kp2 hq1 ⊢
     have s5:=af hq1 (.tup [v])
     have g5:(upd H4 q1 (.tup [v])) q1=some (.tup [v]):=aa
     generalize upd H4 q1 (.tup [v])=H5 at s5 g5 ⊢
     have tk5:=(tk1.trans tk2).trans (ak.tk s5)
     refine ⟨pa,q1,_,_,rfl,rfl,bc.of (tk5 _ _ hpa),bc.of g5,(fun z=>nomatch z),M5,(fun z=>nomatch z),fun _ p hp=>?_⟩
     have s6:=af hp (.tup [.str "not",v])
     have tk6:=tk5.trans (ak.tk s6)
     refine ah ?_
     refine ⟨fs.length,HF _,.ref p,33 :: a,j2,fs,us,rfl,rfl,⟨s6 _ _ (s5 _ _ rd2),S.jl,s6 _ _ (s5 _ _ bg2),Paired.imp (fun f u z=>Fd.At.keep tk6 z) pr2,(kp2.same s5).same s6,by have:=S.ij; omega⟩,?_,.nt sv,by omega⟩
     rw [hrest]
     show (cD fs++[33]++a)++aj w j2=(cD fs++33 :: a)++aj w j2
     simp
   | .R b :: fs,u :: us,S,hrest,ul,lrev=>
     obtain ⟨pa,va,rfl,hpa,cb⟩ : Fd.At Hz (.R b) u:=by cases S.pr with | cons h _=>exact h
     have pr2:Paired (fun f u=>Fd.At Hz f u) fs us:=by cases S.pr with | cons _ h=>exact h
     have bg:=S.bg
     rw [Gy] at bg
     rw [Gy]
     refine aE (fun _=>?_) (fun z=>absurd (decide_eq_true (by rw [FZ,Gp]; omega)) z)
     refine ⟨_,rfl,_,rfl,B,_,_,_,rfl,rfl,aw.of bg,ck _ _,rfl,_,rfl,?_⟩
     refine aE (fun _=>?_) (fun z=>absurd (by rfl) z)
     refine ⟨fun σ' H'=>∃d',d' < fs.length + 1/\(fun (d:Nat) (σ:L2.St) (Hx:Hp)=>∃(v:V) (a:List Nat) (j:Nat) (fs:List Fd) (us:List V),σ=[some (.ref r),some (.ref B),some v]/\d=fs.length/\gT C r dx B w i H Hx j fs us/\aj w i=(cD fs++a)++aj w j/\dv a/\j1 < j) d' σ' H',fun σ' H' z=>z,?_⟩
     refine ao fun Rk2 kR2=>?_
     refine ⟨_,rfl,_,rfl,B,_,_,_,rfl,rfl,aw.of bg,ck _ _,M4,fun t1 ht1=>?_⟩
     have st1:=af ht1 (.tup [.str "not"])
     have gt1:(upd Hz t1 (.tup [.str "not"])) t1=some (.tup [.str "not"]):=aa
     generalize upd Hz t1 (.tup [.str "not"])=Hw at st1 gt1 ⊢
     have S1:=S.same st1
     refine ⟨pa,t1,_,_,fun _=>false,rfl,rfl,bc.of (st1 _ _ hpa),bc.of gt1,(fun j x y hx hy=>?_),_,rfl,_,rfl,bE ?_⟩
     · match j,hx,hy with
       | 0,hx,hy=>cases hx; cases hy; exact EM.flat (x:=.str "both") (y:=.str "not") rfl rfl
     refine ⟨_,rfl,r,dx,_,rfl,S1.rd,rfl,r,dx,w,j2,125,congrArg (fun z=>[V.ref r,V.str z]) AL,S1.rd,S1.jl,hw,fun l hl=>?_,ex Hw S1.kp⟩
     obtain ⟨hr3,hlt3⟩:=bA hl
     have bgw:=st1 _ _ bg
     have tk1:TK Hz (upd Hw r (rdO C dx w (j2 + 1))):=(ak.tk st1).trans (bI S1.rd (fun _ z=>nomatch z))
     have bg1:(upd Hw r (rdO C dx w (j2 + 1))) B=some (.lst (us.reverse++[.ref pa])):=by rw [ai Br]; exact bgw
     have rd1:(upd Hw r (rdO C dx w (j2 + 1))) r=some (rdO C dx w (j2 + 1)):=aa
     have kp1:Kp r H (upd Hw r (rdO C dx w (j2 + 1))):=S1.kp.self
     generalize upd Hw r (rdO C dx w (j2 + 1))=H3 at tk1 bg1 rd1 kp1 ⊢
     refine kR2 _ _ ?_
     refine ⟨_,rfl,.inl ⟨rfl,_,aw.of bg1⟩,B,_,_,rfl,rfl,bg1,iX _ _,_,rfl,M4,fun q1 hq1=>?_⟩
     rw [Jo] at hq1 ⊢
     have tk2:TK H3 (upd H3 B (.lst us.reverse)):=bI bg1 (fun _ z=>nomatch z)
     have rd2:(upd H3 B (.lst us.reverse)) r=some (rdO C dx w (j2 + 1)):=by rw [ai Br.symm]; exact rd1
     have bg2:(upd H3 B (.lst us.reverse)) B=some (.lst us.reverse):=aa
     have kp2:Kp r H (upd H3 B (.lst us.reverse)):=fun b o hb nb=>by rw [ai (aq hb hB)]; exact kp1 b o hb nb
     generalize upd H3 B (.lst us.reverse)=H4 at tk2 rd2 bg2 kp2 hq1 ⊢
     have s5:=af hq1 (.tup [v])
     have g5:(upd H4 q1 (.tup [v])) q1=some (.tup [v]):=aa
     generalize upd H4 q1 (.tup [v])=H5 at s5 g5 ⊢
     have tk5:=(tk1.trans tk2).trans (ak.tk s5)
     refine ⟨pa,q1,_,_,rfl,rfl,bc.of (tk5 _ _ hpa),bc.of g5,(fun z=>nomatch z),M6,(fun z=>nomatch z),fun _ p hp=>?_⟩
     have s6:=af hp (.tup [.str "both",va,v])
     have tk6:=tk5.trans (ak.tk s6)
     refine ah ?_
     refine ⟨fs.length,HF _,.ref p,123 :: (b++38 :: (a++[125])),(j2 + 1),fs,us,rfl,rfl,⟨s6 _ _ (s5 _ _ rd2),by omega,s6 _ _ (s5 _ _ bg2),Paired.imp (fun f u z=>Fd.At.keep tk6 z) pr2,(kp2.same s5).same s6,by have:=S.ij; omega⟩,?_,.both cb sv,by omega⟩
     rw [hrest,hl,hr3]
     show (cD fs++123 :: (b++[38])++a)++125 :: l=(cD fs++123 :: (b++38 :: (a++[125])))++l
     simp
   | .L :: fs,u :: us,S,hrest,ul,lrev=>
     have hu:u=.bq:=by cases S.pr with | cons h _=>exact h
     have pr2:Paired (fun f u=>Fd.At Hz f u) fs us:=by cases S.pr with | cons _ h=>exact h
     have bg:=S.bg
     rw [Gy] at bg
     rw [Gy]
     refine aE (fun _=>?_) (fun z=>absurd (decide_eq_true (by rw [FZ,Gp]; omega)) z)
     refine ⟨_,rfl,_,rfl,B,_,_,_,rfl,rfl,aw.of bg,ck _ _,rfl,_,rfl,?_⟩
     rw [hu]
     refine iteF' (by decide) ?_
     refine kR _ _ ?_
     refine ao fun Rk kR=>?_
     rw [hu] at bg
     refine ⟨_,rfl,B,_,rfl,.inl (aw.of bg),rfl,_,rfl,?_⟩
     refine iteF' (decide_eq_false (fun z=>by injection z with z; rw [FZ,Gp] at z; omega)) ?_
     refine kR _ _ ?_
     refine ao fun Rk kR=>?_
     refine ⟨_,rfl,r,dx,_,rfl,S.rd,rfl,r,dx,w,j2,38,congrArg (fun z=>[V.ref r,V.str z]) yU,S.rd,S.jl,hw,fun l hl=>?_,ex Hz S.kp⟩
     obtain ⟨hr3,hlt3⟩:=bA hl
     have tk1:TK Hz (upd Hz r (rdO C dx w (j2 + 1))):=bI S.rd (fun _ z=>nomatch z)
     have bg1:(upd Hz r (rdO C dx w (j2 + 1))) B=some (.lst (us.reverse++[.bq])):=by rw [ai Br]; exact bg
     have rd1:(upd Hz r (rdO C dx w (j2 + 1))) r=some (rdO C dx w (j2 + 1)):=aa
     have kp1:Kp r H (upd Hz r (rdO C dx w (j2 + 1))):=S.kp.self
     generalize upd Hz r (rdO C dx w (j2 + 1))=H3 at tk1 bg1 rd1 kp1 ⊢
     refine kR _ _ ?_
     refine ⟨_,rfl,M5,fun q1 hq1=>?_⟩
     have s5:=af hq1 (.tup [.str "both",v])
     have g5:(upd H3 q1 (.tup [.str "both",v])) q1=some (.tup [.str "both",v]):=aa
     generalize upd H3 q1 (.tup [.str "both",v])=H5 at s5 g5 ⊢
     have bg5:=s5 _ _ bg1
     refine ⟨_,rfl,_,rfl,B,_,_,_,rfl,rfl,bg5,mv _ _,?_⟩
     rw [mT]
     have tk6:TK H5 (upd H5 B (.lst (us.reverse++[.ref q1]))):=bI bg5 (fun _ z=>nomatch z)
     have rd6:(upd H5 B (.lst (us.reverse++[.ref q1]))) r=some (rdO C dx w (j2 + 1)):=by rw [ai Br.symm]; exact s5 _ _ rd1
     have bg6:(upd H5 B (.lst (us.reverse++[.ref q1]))) B=some (.lst (us.reverse++[.ref q1])):=aa
     have kp6:Kp r H (upd H5 B (.lst (us.reverse++[.ref q1]))):=fun b o hb nb=>by rw [ai (aq hb hB)]; exact s5 _ _ (kp1 b o hb nb)
     generalize upd H5 B (.lst (us.reverse++[.ref q1]))=H6 at tk6 rd6 bg6 kp6 ⊢
     have tk:=(tk1.trans (ak.tk s5)).trans tk6
     refine ⟨w.length - (j2 + 1),by omega,some v,j2 + 1,.R a :: fs,.ref q1 :: us,rfl,rfl,⟨rd6,by omega,by rw [Gy]; exact bg6,.cons ⟨q1,v,rfl,tk6 _ _ g5,sv⟩ (Paired.imp (fun f u z=>Fd.At.keep tk z) pr2),kp6,by have:=S.ij; omega⟩,?_⟩
     rw [hrest,hl,hr3]
     show (cD fs++[123]++a)++38 :: l=(cD fs++123 :: (a++[38]))++l
     simp
theorem nD {C cNR:Addr}(s:Src K mg "read_condition" sRCond)(R5:ic K C)(m_len:mg "len"=none)(SI0:bL P w K mg base C "sign" ["self"] 1 (bp C))(DU0:bJ P w K mg base C "due" ["self","sign"] 3 (eK C cNR))(RT0:bR P w K mg base "read_test" ["reader"] 7 (fW C cNR)):bR P w K mg base "read_condition" ["reader"] 8 (fT C cNR):=
 let ⟨f,fd,F,m⟩:=s
 ⟨f,fd,qU F R5 m_len SI0 DU0 RT0,F.kp,gf F fun _ _ _ _ _ _ _=>rfl,m⟩
end
end TW
set_option Elab.async false
set_option linter.all false
set_option maxRecDepth 100000
set_option exponentiation.threshold 4000
set_option maxHeartbeats 1000000
namespace TW
open PySem L2
section
variable {P:Program}{w:World}{K:FX}{mg:Str->Option Value}{base:Heap}
abbrev sRWord:Stmt:=top 41
abbrev sRRow:Stmt:=top 42
theorem lO.mono {C:Addr}{x:Str}{ps:List Str}{j k:Nat}{sp:Sp}(h:lO P w K mg base x C ps j sp)(hk:j<=k):lO P w K mg base x C ps k sp:=let ⟨f,fd,a,b,c⟩:=h; ⟨f,fd,a.mono hk,b,c⟩
theorem CP (w:Str):aj w 0=w.cps.toList:=rfl
theorem Kp.all {r:Addr}{H H1 H2:Hp}(s:ak H H1)(hr:H r=none)(k:Kp r H1 H2):ak H H2:=fun b o h=>k b o (s b o h) (aq h hr)
def jl (c:Nat):List (List Nat)->List Nat
 | []=>[]
 | [a]=>a
 | a :: b :: r=>a++c :: jl c (b :: r)
theorem aM (a b:Str):(a++b).cps.toList=a.cps.toList++b.cps.toList:=by
 show (a.cps++b.cps).toList=_
 simp
theorem bO (c:Nat):∀xs:List Str,(HK (SN [c]) xs).cps.toList=jl c (xs.map fun x=>x.cps.toList)
 | []=>rfl
 | [x]=>rfl
 | x :: y :: r=>by
   show ((x++SN [c])++HK (SN [c]) (y :: r)).cps.toList=_
   rw [aM,aM,bM,bO c (y :: r)]
   simp [jl]
theorem vc:(" ":Str)=SN [32]:=by decide +kernel
theorem EZ:("\n":Str)=SN [10]:=by decide +kernel
def fu (k:Str)(a:List Nat):Prop:=(k="name"/\lP a)\/(k="number"/\m5 a)\/(k="sum"/\da a)\/(k="condition"/\dv a)
theorem tj {c:Nat}:∀{xs:List (List Nat)},xs.length<=(jl c xs).length + 1/\∀a∈xs,a.length<=(jl c xs).length
 | []=>⟨Gs _,fun a h=>nomatch h⟩
 | [a]=>⟨Nat.le_add_left _ _,fun b h=>by rcases List.mem_cons.mp h with rfl | h; exact F8 _; cases h⟩
 | a :: b :: r=>by
   obtain ⟨h1,h2⟩:=tj (c:=c) (xs:=b :: r)
   have e:(jl c (a :: b :: r)).length=a.length + ((jl c (b :: r)).length + 1):=by
     show (a++c :: jl c (b :: r)).length=_
     rw [FZ,F5]
   rw [e]
   refine ⟨by rw [F5]; omega,fun x hx=>?_⟩
   rcases List.mem_cons.mp hx with rfl | hx
   · omega
   · have:=h2 x hx
     omega
theorem ji (x:Str)(c:Nat):x.cps.toList=jl c ((Gr x (SN [c])).map fun y=>y.cps.toList):=by
 rw [← bO,StrLaws.join_split]
theorem split_len (x:Str)(c:Nat):(Gr x (SN [c])).length<=x.length + 1/\∀y∈Gr x (SN [c]),y.length<=x.length:=by
 obtain ⟨h1,h2⟩:=tj (c:=c) (xs:=(Gr x (SN [c])).map fun y=>y.cps.toList)
 rw [← ji,aD] at h1
 rw [← ji,aD] at h2
 refine ⟨by rw [F0] at h1; exact h1,fun y hy=>?_⟩
 have:=h2 _ (HY hy)
 rwa [aD] at this
theorem oz {x y:Str}(h0:Gr "" y≠[]):∃a l,Gr x y=a :: l:=by
 cases e:Gr x y with
 | cons a l=>exact ⟨a,l,rfl⟩
 | nil=>
   have h:=StrLaws.join_split x y
   rw [e] at h
   have h:x="":=h.symm
   rw [h] at e
   exact absurd e h0
theorem vd (x:Str):∃a l,Gr x " "=a :: l:=oz (by decide +kernel)
/-! ### read_word -/
def fX (cNR:Addr):Sp:=fun vs H Q E=>∃(k x:Str),vs=[.str k,.str x]/\(k="name"\/k="number"\/k="sum"\/k="condition")/\x.length<=13000/\(∀(v:V) (H':Hp),ak H H'->fu k x.cps.toList->Q v H')/\(∀H':Hp,ak H H'->E (.ref cNR) none H')
theorem fQ:ay ["kind","word","reader","told"] ["kind","word"] (ag sRWord):=⟨rfl,rfl,rfl,by decide +kernel,rfl,by decide +kernel,by decide +kernel⟩
theorem kU:(ag sRWord).names.lookup (F1 "NoRow")=some .globalImplicit:=by decide +kernel
theorem jx:(ag sRWord).names.lookup (F1 "Reader")=some .globalImplicit:=by decide +kernel
theorem ny:(ag sRWord).names.lookup (F1 "len")=some .globalImplicit:=by decide +kernel
theorem dP:(ag sRWord).names.lookup (F1 "read_condition")=some .globalImplicit:=by decide +kernel
theorem g7:(ag sRWord).names.lookup (F1 "read_sum")=some .globalImplicit:=by decide +kernel
theorem qZ {C cNR TE:Addr}{f:Addr}{fd:FuncData}(F:cf K "read_word" "read_word" sRWord f fd)(R5:ic K C)(m_len:mg "len"=none)(cN:Xc K mg "NoRow" cNR (.ref TE :: vE))(RD0:lO P w K mg base "Reader" C ["self","word"] 1 (fU C))(NU0:bJ P w K mg base C "number" ["self"] 3 (eL C cNR))(NA0:bJ P w K mg base C "name" ["self"] 3 (dq C cNR))(RS0:bR P w K mg base "read_sum" ["reader"] 6 (eM C cNR))(RC0:bR P w K mg base "read_condition" ["reader"] 8 (fT C cNR)):aN P w K mg base (cE P w base) 10 f fd ["kind","word"] (fX cNR):=by
 refine F.okX fQ (fun vs H Q E h=>?_) (fun cdv A outer s H vs Q E hr h=>?_)
 · obtain ⟨k,x,rfl,_⟩:=h
   rfl
 · obtain ⟨k,x,rfl,hk,hx13,q,ex⟩:=h
   have RDR:=RD0.mono (show 1<=8 by decide)
   have NU:=NU0.mono (show 3<=9 by decide)
   have NA:=NA0.mono (show 3<=9 by decide)
   have RS:=RS0.mono (show 6<=9 by decide)
   have RCo:=RC0.mono (show 8<=9 by decide)
   refine eV ⟨_,(KG (KH 2 fQ.nd (L3.make RDR hr jx (Kx (Ky 1) Kz)))
     (KG (KR (KL K0 (Ky 0) KA) (KI (KH 3 fQ.nd (L3.la cO (Ky 2) R5.c NA hr))) (KI (KR (KL K0 (Ky 0) KA) (KI (KH 3 fQ.nd (L3.la cO (Ky 2) R5.c NU hr))) (KI (KH 3 fQ.nd (L3.ES (KL K0 (Ky 0) KA) (Ln cO RS hr g7 (Kx (Ky 2) Kz)) (Ln cO RCo hr dP (Kx (Ky 2) Kz))))))))
     (KG (KR (KL LC (Lw (Ky 2)) (KU LK ny m_len Gd (Kx (Ky 1) Kz))) (KI (Lr cQ cN (by rfl) kU (Kx KA Kz))) KY)
     (KI (KQ (Ky 3)))))),?_⟩
   refine ao fun Rk kR=>?_
   refine ⟨_,rfl,fun r dx hrn hdx hdr=>?_⟩
   refine ⟨r,dx,x,rfl,aa,rfl,?_⟩
   have s1:ak H (upd (upd (upd H dx (.own r)) r (.ins C dx [])) r (rdO C dx x 0)):=fun b o hb=>by
     rw [ai (aq hb hrn),ai (aq hb hrn),ai (aq hb hdx)]
     exact hb
   have r1:(upd (upd (upd H dx (.own r)) r (.ins C dx [])) r (rdO C dx x 0)) r=some (rdO C dx x 0):=aa
   generalize upd (upd (upd H dx (.own r)) r (.ins C dx [])) r (rdO C dx x 0)=H1 at s1 r1 ⊢
   refine ah ?_
   refine kR _ _ ?_
   refine au [some (.str k),some (.str x),some (.ref r),none] rfl ?_
   clear kR
   refine ao fun Rk kR=>?_
   have z0:=CP x
   have su:∀o,ak H (upd H1 r o):=fun o b y hb=>by rw [ai (aq hb hrn)]; exact s1 b y hb
   have fin:∀(v:V) (a:List Nat) (j:Nat) (H2:Hp),aj x 0=a++aj x j->j<=x.length->ak H H2->H2 r=some (rdO C dx x j)->fu k a->Rk [some (.str k),some (.str x),some (.ref r),some v] H2:=fun v a j H2 hal hj s2 r2 wo=>by
     refine kR _ _ ?_
     refine ao fun Rk kR=>?_
     refine ⟨_,rfl,r,C,dx,_,_,rfl,r2,R5.c,R5.p,rfl,_,rfl,_,rfl,F2 hx13 (by decide),rfl,_,rfl,?_⟩
     refine aE (fun _=>⟨_,rfl,ex _ s2⟩) (fun c=>?_)
     have ej:j=x.length:=by
       by_cases y:j=x.length
       · exact y
       · exact absurd (by simp; omega) c
     have e0:aj x j=[]:=JJ (by rw [er]; omega)
     rw [e0,GH,z0] at hal
     exact kR _ _ ⟨_,rfl,q v H2 s2 (by rw [hal]; exact wo)⟩
   rcases hk with rfl | rfl | rfl | rfl
   · refine ⟨_,rfl,rfl,_,rfl,bE ?_⟩
     refine ⟨_,rfl,r,dx,_,rfl,r1,rfl,r,dx,x,0,rfl,r1,Gs _,hx13,fun a l hal nt=>?_,fun o=>ex _ (su o)⟩
     obtain ⟨h1,h2⟩:=b9 hal (Gs _)
     exact ah (fin _ a _ _ (by rw [h1]; exact hal) h2 (su _) aa (.inl ⟨rfl,nt⟩))
   · refine ⟨_,rfl,rfl,_,rfl,bD ?_⟩
     refine ⟨_,rfl,rfl,_,rfl,bE ?_⟩
     refine ⟨_,rfl,r,dx,_,rfl,r1,rfl,r,dx,x,0,rfl,r1,Gs _,hx13,fun n a l hal nt=>?_,fun o=>ex _ (su o)⟩
     obtain ⟨h1,h2⟩:=b9 hal (Gs _)
     exact ah (fin _ a _ _ (by rw [h1]; exact hal) h2 (su _) aa (.inr (.inl ⟨rfl,nt⟩)))
   · refine ⟨_,rfl,rfl,_,rfl,bD ?_⟩
     refine ⟨_,rfl,rfl,_,rfl,bD ?_⟩
     refine ⟨_,rfl,rfl,_,rfl,bE ?_⟩
     refine ⟨_,rfl,r,dx,x,0,rfl,r1,Gs _,hx13,fun v a j H2 hal hj ij k2 r2 sv=>?_,fun H' k'=>ex H' (Kp.all s1 hrn k')⟩
     exact ah (fin v a j H2 hal hj (Kp.all s1 hrn k2) r2 (.inr (.inr (.inl ⟨rfl,let ⟨_,_,_,_,z,_⟩:=sv; z⟩))))
   · refine ⟨_,rfl,rfl,_,rfl,bD ?_⟩
     refine ⟨_,rfl,rfl,_,rfl,bD ?_⟩
     refine ⟨_,rfl,rfl,_,rfl,bD ?_⟩
     refine ⟨_,rfl,r,dx,x,0,rfl,r1,Gs _,hx13,fun v a j H2 hal hj ij k2 r2 sv=>?_,fun H' k'=>ex H' (Kp.all s1 hrn k')⟩
     exact ah (fin v a j H2 hal hj (Kp.all s1 hrn k2) r2 (.inr (.inr (.inr ⟨rfl,sv⟩))))
theorem nJ {C cNR TE:Addr}(s:Src K mg "read_word" sRWord)(R5:ic K C)(m_len:mg "len"=none)(cN:Xc K mg "NoRow" cNR (.ref TE :: vE))(RD0:lO P w K mg base "Reader" C ["self","word"] 1 (fU C))(NU0:bJ P w K mg base C "number" ["self"] 3 (eL C cNR))(NA0:bJ P w K mg base C "name" ["self"] 3 (dq C cNR))(RS0:bR P w K mg base "read_sum" ["reader"] 6 (eM C cNR))(RC0:bR P w K mg base "read_condition" ["reader"] 8 (fT C cNR)):bR P w K mg base "read_word" ["kind","word"] 10 (fX cNR):=
 let ⟨f,fd,F,m⟩:=s
 ⟨f,fd,qZ F R5 m_len cN RD0 NU0 NA0 RS0 RC0,F.kp,jr F fun _ _ _ _ _ _ _ _=>rfl,m⟩
/-! ### read_row -/
def mZ (w:World)(K:FX)(aF:Addr):Prop:=∃ts:List Addr,dM w K aF ((formsL.map (·.1)).zip (ts.map V.ref))/\Paired (fun (t:Addr) (q:Str×List Str)=>∀H:Hp,bc K H t (q.2.map V.str)) ts formsL
theorem vw {K:FX}:∀(L:List (Str×List Str)) (ts:List Addr),Paired (fun (t:Addr) (q:Str×List Str)=>∀H:Hp,bc K H t (q.2.map V.str)) ts L->∀{x:Str} {v:V},((L.map (·.1)).zip (ts.map V.ref)).lookup x=some v->∃t ks,v=.ref t/\(x,ks)∈L/\∀H:Hp,bc K H t (ks.map V.str)
 | [],[],.nil,x,v,h=>nomatch h
 | q :: L,t :: ts,.cons r p,x,v,h=>by
   have h:(((q.1,V.ref t) :: ((L.map (·.1)).zip (ts.map V.ref))):List (Str×V)).lookup x=some v:=h
   rw [GL] at h
   by_cases e:x=q.1
   · rw [beq_iff_eq.mpr e] at h
     have h:some (V.ref t)=some v:=h
     injection h with h
     exact ⟨t,q.2,h.symm,by rw [e]; exact F4,r⟩
   · rw [beq_eq_false_iff_ne.mpr e] at h
     obtain ⟨t',ks,h1,h2,h3⟩:=vw L ts p h
     exact ⟨t',ks,h1,F7 _ h2,h3⟩
theorem gh:∀q∈formsL,q.2.length<=3/\∀k∈q.2,k="name"\/k="number"\/k="sum"\/k="condition":=by decide +kernel
/-- a row of a form -/
structure dX (row head:Str)(ks:List Str):Prop where
 fr:(head,ks)∈formsL
 sp:∃ws,Gr row " "=head :: ws/\ws.length=ks.length/\∀(i:Nat) (k x:Str),ks[i]? = some k->ws[i]? = some x->fu k x.cps.toList
def iw (cNR:Addr):Sp:=fun vs H Q E=>∃row:Str,vs=[.str row]/\row.length<=12500/\(∀(head:Str) (ks:List Str) (p:Addr) (vals:List V) (H':Hp),ak H H'->dX row head ks->H' p=some (.tup (.str head :: vals))->vals.length=ks.length->Q (.ref p) H')/\(∀H':Hp,ak H H'->E (.ref cNR) none H')
theorem oo:ay ["row","words","kinds"] ["row"] (ag sRRow):=⟨rfl,rfl,rfl,by decide +kernel,rfl,by decide +kernel,by decide +kernel⟩
theorem mh:(ag sRRow).names.lookup (F1 "FORMS")=some .globalImplicit:=by decide +kernel
theorem mi:(ag sRRow).names.lookup (F1 "NoRow")=some .globalImplicit:=by decide +kernel
theorem jX:(ag sRRow).names.lookup (F1 "len")=some .globalImplicit:=by decide +kernel
theorem mj:(ag sRRow).names.lookup (F1 "tuple")=some .globalImplicit:=by decide +kernel
theorem qp:(ag sRRow).names.lookup (F1 "zip")=some .globalImplicit:=by decide +kernel
theorem uh {aF cNR TE:Addr}{f:Addr}{fd:FuncData}(F:cf K "read_row" "read_row" sRRow f fd)(m_len:mg "len"=none)(m_zip:mg "zip"=none)(m_tuple:mg "tuple"=none)(hF:mg "FORMS"=some (.ref aF))(dF:mZ w K aF)(cN:Xc K mg "NoRow" cNR (.ref TE :: vE))(RWd:bR P w K mg base "read_word" ["kind","word"] 10 (fX cNR)):aN P w K mg base (cE P w base) 11 f fd ["row"] (iw cNR):=by
 refine F.okX oo (fun vs H Q E h=>?_) (fun cdv A outer s H vs Q E hr h=>?_)
 · obtain ⟨row,rfl,_⟩:=h
   rfl
 · obtain ⟨row,rfl,hrow,q,ex⟩:=h
   obtain ⟨ts,kd,pF⟩:=dF
   have hsl:(Gr row " ").length<=12501:=by
     have:=(split_len row 32).1
     rw [← vc] at this
     omega
   have hwl:∀x∈Gr row " ",x.length<=13000:=fun x hx=>by
     rw [vc] at hx
     have:=(split_len row 32).2 x hx
     omega
   obtain ⟨head,ws,hsp⟩:=vd row
   refine eV ⟨_,(KG (KH 1 oo.nd (L3.lJ (Ky 0) (Kx KA Kz)))
     (KG (KH 2 oo.nd (L3.FG (K6 (w:=.ref aF) mh hF rfl) (KN KW (Ky 1) KC)))
     (KG (KR (K7 (LD (KL L3.B8 (Ky 2) LM) (LL (KL LC (KU K4 jX m_len Gd (Kx (Ky 1) Kz)) (KD KZ (KU K4 jX m_len Gd (Kx (Ky 2) Kz)) KC))))) (KI (Lr cQ cN (by rfl) mi (Kx KA Kz))) KY)
     (KI (KQ (KD L3.oh (KS (Kx (KN KW (Ky 1) KC) Kz)) (Lh L3.vK mj m_tuple (by decide +kernel) (Kx (L3.FI [none,none] ["kind","word"] (show aC _ (ag sRRow) from ⟨rfl,by decide +kernel,by decide +kernel,by decide +kernel⟩) (by rfl) (L3.FF true false qp m_zip (Kx (Ky 2) (Kx (LF (Ky 1) KC) Kz))) (fun _ _ _ _ _ hp=>⟨(L3.vX 2 (K9 (K3 0 (show (["kind","word"]:List Str).Nodup from by decide +kernel)) (K9 (K3 1 (show (["kind","word"]:List Str).Nodup from by decide +kernel)) Lu))),Lk,(Ln hp RWd hr (by rfl) (Kx (Ky 0) (Kx (Ky 1) Kz)))⟩)) Kz)))))))),?_⟩
   refine ao fun Rk kR=>?_
   refine ⟨_,rfl,rfl,_,_,rfl,rfl,rfl,F2 (show _<=20000 by omega) (by decide),F2 hsl (by decide),fun l1 hl1=>?_⟩
   rw [hsp] at hsl hwl ⊢
   have s1:=af hl1 (.lst ((head :: ws).map V.str))
   have g1:(upd H l1 (.lst ((head :: ws).map V.str))) l1=some (.lst ((head :: ws).map V.str)):=aa
   generalize upd H l1 (.lst ((head :: ws).map V.str))=H1 at s1 g1 ⊢
   refine ah ?_
   refine kR _ _ ?_
   refine au [some (.str row),some (.ref l1),none] rfl ?_
   clear kR
   refine ao fun Rk kR=>?_
   refine ⟨aF,_,rfl,kd,_,rfl,l1,_,_,_,rfl,rfl,aw.of g1,oK,head,rfl,?_⟩
   cases lk:((formsL.map (·.1)).zip (ts.map V.ref)).lookup head with
   | none=>
     refine ah ?_
     refine kR _ _ ?_
     refine au [some (.str row),some (.ref l1),some .bq] rfl ?_
     refine ao fun Rk kR=>?_
     refine ⟨_,rfl,rfl,_,rfl,bE (bE ?_)⟩
     exact ⟨_,rfl,ex _ s1⟩
   | some vF=>
     obtain ⟨tF,ks,rfl,hks,sq⟩:=vw _ _ pF lk
     obtain ⟨k3,kk⟩:=gh _ hks
     have k3:ks.length<=3:=k3
     refine ah ?_
     refine kR _ _ ?_
     refine au [some (.str row),some (.ref l1),some (.ref tF)] rfl ?_
     clear kR
     refine ao fun Rk kR=>?_
     refine ⟨_,rfl,rfl,_,rfl,iteF' rfl ?_⟩
     refine ⟨_,rfl,l1,_,rfl,.inl (aw.of g1),_,rfl,tF,_,rfl,.inr (sq _),_,_,rfl,rfl,rfl,_,rfl,?_⟩
     refine aE (fun _=>⟨_,rfl,ex _ s1⟩) (fun c=>?_)
     have hlen:ws.length=ks.length:=by
       by_cases y:ws.length=ks.length
       · exact y
       · exact absurd (by simp; omega) c
     refine kR _ _ ?_
     refine ⟨_,rfl,l1,_,_,_,rfl,rfl,aw.of g1,oK,M4,fun t1 ht1=>?_⟩
     have s2:=af ht1 (.tup [.str head])
     have g2:(upd H1 t1 (.tup [.str head])) t1=some (.tup [.str head]):=aa
     generalize upd H1 t1 (.tup [.str head])=H2 at s2 g2 ⊢
     refine ⟨_,rfl,_,rfl,_,rfl,l1,_,rfl,aw.of (s2 _ _ g1),fun l2 hl2=>?_⟩
     rw [Gi,r9]
     have s3:=af hl2 (.lst (ws.map V.str))
     have g3:(upd H2 l2 (.lst (ws.map V.str))) l2=some (.lst (ws.map V.str)):=aa
     generalize upd H2 l2 (.lst (ws.map V.str))=H3 at s3 g3 ⊢
     refine ⟨tF,l2,rfl,⟨_,sq _⟩,⟨_,aw.of g3⟩,fun D hD=>?_⟩
     have hlen2:(ks.map V.str).length=(ws.map V.str).length:=by simp [hlen]
     refine qb (xs:=ks.map V.str) (ys:=ws.map V.str) hlen2 (fun i Hx=>ak H3 Hx/\(∃vals,Hx D=some (.lst vals)/\vals.length=i)/\∀(j:Nat) (k x:Str),j < i->ks[j]? = some k->ws[j]? = some x->fu k x.cps.toList) ⟨af hD _,⟨[],aa,rfl⟩,fun j k x hj=>nomatch hj⟩ (fun i Hx _ z=>⟨sq _,aw.of (z.1 _ _ g3)⟩) (fun i k0 v0 pp Hx hk0 hv0 z hpp=>?_) (fun Hx z=>?_)
     · obtain ⟨sx,⟨vals,gD,lv⟩,wo⟩:=z
       obtain ⟨k,hk,rfl⟩:=cJ hk0
       obtain ⟨x,hx,rfl⟩:=cJ hv0
       have hil:i < (ks.map V.str).length:=(List.getElem?_eq_some_iff.mp hk0).1
       have hil2:i < ks.length:=by simpa using hil
       have sp:=af hpp (.tup [.str k,.str x])
       refine ⟨pp,_,rfl,bc.of aa,rfl,_,_,rfl,_,_,rfl,rfl,?_⟩
       refine eE (A:=fun H5=>dQ _ D _ H5 _) ?_
       refine ⟨_,rfl,_,rfl,k,x,rfl,kk k (Gx hk),hwl x (F7 _ (Gx hx)),fun v H' s' ok=>?_,fun H' s'=>ex _ (ae (ae (ae s1 s2) s3) (ae (ae sx sp) s'))⟩
       have sa:=ae sp s'
       refine ⟨_,sa _ _ gD,GK (show _<=1000 by omega) (by decide),bh (Pv:=fun i Hx=>ak H3 Hx/\(∃vals,Hx D=some (.lst vals)/\vals.length=i)/\∀(j:Nat) (k x:Str),j < i->ks[j]? = some k->ws[j]? = some x->fu k x.cps.toList) (by repeat' constructor) hil ⟨aG (ae sx sa) hD,⟨vals++[v],aa,by rw [FZ,lv]; rfl⟩,fun j k' x' hj hk' hx'=>?_⟩⟩
       by_cases e:j=i
       · subst e
         rw [hk] at hk'
         rw [hx] at hx'
         cases hk'
         cases hx'
         exact ok
       · exact wo j k' x' (by omega) hk' hx'
     obtain ⟨sx,⟨vals,gD,lv⟩,wo⟩:=z
     rw [F0] at lv wo
     refine ⟨D,_,rfl,aw.of gD,fun t2 ht2=>?_⟩
     have s4:=af ht2 (.tup vals)
     have g4:(upd Hx t2 (.tup vals)) t2=some (.tup vals):=aa
     generalize upd Hx t2 (.tup vals)=H5 at s4 g4 ⊢
     have sall:=ae (ae (ae (ae s1 s2) s3) sx) s4
     have ro:dX row head ks:=⟨hks,ws,hsp,hlen,fun i k x hk hx=>wo i k x (List.getElem?_eq_some_iff.mp hk).1 hk hx⟩
     refine ⟨t1,t2,_,_,rfl,rfl,bc.of (s4 _ _ (sx _ _ (s3 _ _ g2))),bc.of g4,(fun z=>nomatch z),F2 (show _<=1000 by rw [Gp]; omega) (by decide),(fun z=>?_),fun _ p hp=>?_⟩
     · subst z
       exact q head ks t1 [] _ sall ro (s4 _ _ (sx _ _ (s3 _ _ g2))) lv
     · exact q head ks p vals _ (av sall hp) ro aa lv
theorem qy {aF cNR TE:Addr}(s:Src K mg "read_row" sRRow)(m_len:mg "len"=none)(m_zip:mg "zip"=none)(m_tuple:mg "tuple"=none)(hF:mg "FORMS"=some (.ref aF))(dF:mZ w K aF)(cN:Xc K mg "NoRow" cNR (.ref TE :: vE))(RWd:bR P w K mg base "read_word" ["kind","word"] 10 (fX cNR)):bR P w K mg base "read_row" ["row"] 11 (iw cNR):=
 let ⟨f,fd,F,m⟩:=s
 ⟨f,fd,uh F m_len m_zip m_tuple hF dF cN RWd,F.kp,gf F fun _ _ _ _ _ _ _=>rfl,m⟩
end
end TW
set_option Elab.async false
set_option linter.all false
set_option maxRecDepth 100000
set_option exponentiation.threshold 4000
set_option maxHeartbeats 1000000
namespace TW
open PySem L2
section
variable {P:Program}{w:World}{K:FX}{mg:Str->Option Value}{base:Heap}
abbrev sRProg:Stmt:=top 43
def Np.leads:Np->List Int
 | .put _ _ n=>[n] | .say _ n=>[n] | .test _ n o=>[n,o] | .pick _ n=>[n] | .fin=>[]
def Np.tolds:Np->List E
 | .put x s _=>[.box "box" x,s] | .say s _=>[s] | .test c _ _=>[c] | .pick x _=>[.box "box" x] | .fin=>[]
abbrev bxP (bs:List (Str×Int)):Str->Str->Prop:=fun t y=>t="box"/\y∈bs.map (·.1)
structure Np.good (bs:List (Str×Int))(m:Nat)(nd:Np):Prop where
 ld:∀n∈nd.leads,0<=n/\n < (m:Int)
 kn:∀e∈nd.tolds,e.okIn (bxP bs)/\e.dep<=19
structure vz (bs:List (Str×Int))(ins:List Str)(nds:List Np):Prop where
 wr:DH bs ins nds
 bx:vB bs
 ind:ins.Nodup
 insub:∀x∈ins,x∈bs.map (·.1)
 one:1<=nds.length
 good:∀e∈nds,e.good bs nds.length
def eS (row:Str):Str:=((Gr row " ").head?).getD ""
def bQ (head:Str):Nat:=if head="box" then 0 else if head="input" then 1 else 2
abbrev rkL:List (Str×V):=[("box",.int 0),("input",.int 1)]
theorem uN (head:Str):(head="box"/\bQ head=0)\/(head="input"/\bQ head=1)\/bQ head=2:=by
 unfold bQ
 by_cases h:head="box"
 · exact .inl ⟨h,if_pos h⟩
 · by_cases h2:head="input"
   · exact .inr (.inl ⟨h2,by rw [if_neg h,if_pos h2]⟩)
   · exact .inr (.inr (by rw [if_neg h,if_neg h2]))
theorem xN (head:Str):(rkL.lookup head).getD (.int 2)=.int ((bQ head:Nat):Int):=by
 unfold bQ
 by_cases h:head="box"
 · rw [if_pos h,h]
   rfl
 · by_cases h2:head="input"
   · rw [if_neg h,if_pos h2,h2]
     rfl
   · rw [if_neg h,if_neg h2,GL,beq_eq_false_iff_ne.mpr h,GL,beq_eq_false_iff_ne.mpr h2]
     rfl
theorem qg:∀q∈formsL,(q.1="box"->q.2.length=2)/\(q.1="input"->q.2.length=1):=by decide +kernel
theorem dX.hd {row head:Str}{ks:List Str}(h:dX row head ks):eS row=head:=by
 obtain ⟨ws,e,_⟩:=h.sp
 unfold eS
 rw [e]
 rfl
structure bH (rows:List Str):Prop where
 ok:∀row∈rows,∃head ks,dX row head ks
 rk:rows.Pairwise fun a b=>bQ (eS a)<=bQ (eS b)
theorem bH.snoc {rows:List Str}{row head:Str}{ks:List Str}{n:Nat}(h:bH rows)(hn:∀r∈rows,bQ (eS r)<=n)(ro:dX row head ks)(le:n<=bQ head):bH (rows++[row])/\∀r∈rows++[row],bQ (eS r)<=bQ head:=by
 refine ⟨⟨fun r hr=>?_,List.pairwise_append.mpr ⟨h.rk,.cons (fun _ z=>nomatch z) .nil,fun a ha b hb=>?_⟩⟩,fun r hr=>?_⟩
 · rcases List.mem_append.mp hr with hr | hr
   · exact h.ok r hr
   · rw [List.mem_singleton.mp hr]
     exact ⟨head,ks,ro⟩
 · rw [List.mem_singleton.mp hb,ro.hd]
   exact F2 (hn a ha) le
 · rcases List.mem_append.mp hr with hr | hr
   · exact F2 (hn r hr) le
   · rw [List.mem_singleton.mp hr,ro.hd]
     exact F8 _
def fV (cNR:Addr):Sp:=fun vs H _ E=>∃tx:Str,vs=[.str tx]/\tx.length + 2<=sizeLine/\(Gr tx "\n").length<=900/\(∀r∈Gr tx "\n",r.length<=12500)/\¬ bH (Gr tx "\n")/\∀H':Hp,ak H H'->E (.ref cNR) none H'
theorem b8:ay ["text","boxes","inputs","nodes","least","row","told","rank"] ["text"] (ag sRProg):=⟨rfl,rfl,rfl,by decide +kernel,rfl,by decide +kernel,by decide +kernel⟩
theorem gu:(ag sRProg).names.lookup (F1 "NODE_RANK")=some .globalImplicit:=by decide +kernel
theorem kQ:(ag sRProg).names.lookup (F1 "NoRow")=some .globalImplicit:=by decide +kernel
theorem kS:(ag sRProg).names.lookup (F1 "RANKS")=some .globalImplicit:=by decide +kernel
theorem gZ:(ag sRProg).names.lookup (F1 "read_row")=some .globalImplicit:=by decide +kernel
theorem qW {aR cNR TE:Addr}{f:Addr}{fd:FuncData}(F:cf K "read_program" "read_program" sRProg f fd)(hR:mg "RANKS"=some (.ref aR))(dR:dM w K aR rkL)(cK:kD mg "NODE_RANK" 2)(cN:Xc K mg "NoRow" cNR (.ref TE :: vE))(RR0:bR P w K mg base "read_row" ["row"] 11 (iw cNR)):aN P w K mg base (cE P w base) 26 f fd ["text"] (fV cNR):=by
 refine F.okX b8 (fun vs H Q E h=>?_) (fun cdv A outer s H vs Q E hr h=>?_)
 · obtain ⟨tx,rfl,_⟩:=h
   rfl
 · obtain ⟨tx,rfl,htx,hrl,hrl2,bad,ex⟩:=h
   have RR:=RR0.mono (show 11<=25 by decide)
   generalize hsp:Gr tx "\n"=rows at hrl hrl2 bad
   refine eV ⟨_,(KG (Lj (KS (Kx (KJ Kz) (Kx (KJ Kz) (Kx (KJ Kz) (Kx KC Kz))))) (L3.vX 4 (K9 (K3 1 b8.nd) (K9 (K3 2 b8.nd) (K9 (K3 3 b8.nd) (K9 (K3 4 b8.nd) Lu))))))
     (KG (LP (Lo (L3.lJ (Ky 0) (Kx KA Kz))) (K3 5 b8.nd) (KG (KH 6 b8.nd (Ln cO RR hr gZ (Kx (Ky 5) Kz)))
     (KG (KH 7 b8.nd (L3.FH (K6 (w:=.ref aR) kS hR rfl) (KN K8 (Ky 6) KC) (K6 (w:=.int 2) gu cK.choose_spec ⟨_,rfl⟩)))
     (KG (KR (KL Ll (Ky 7) (Ky 4)) (KI (Lr cQ cN (by rfl) kQ (Kx KA Kz))) KY)
     (KG (KH 4 b8.nd (Ky 7))
     (KI (KR (KL K0 (Ky 7) KC) (KI (Li (Lx (Ky 1) (Kx (KS (Kx (KN K8 (Ky 6) KC) (Kx (KN K8 (Ky 6) KC) Kz))) Kz)))) (KI (KR (KL K0 (Ky 7) KC) (KI (Li (Lx (Ky 2) (Kx (KN K8 (Ky 6) KC) Kz)))) (KI (Li (Lx (Ky 3) (Kx (Ky 6) Kz)))))))))))) (hp:=GQ))
     L3.never)),?_⟩
   refine ao fun Rk kR=>?_
   refine ⟨M3,fun B hB=>?_⟩
   have sB:ak H (upd H B (.lst [])):=af hB _
   have gB:(upd H B (.lst [])) B=some (.lst []):=aa
   generalize upd H B (.lst [])=H1 at sB gB ⊢
   refine ⟨M3,fun I hI=>?_⟩
   have sI:ak H1 (upd H1 I (.lst [])):=af hI _
   have gI:(upd H1 I (.lst [])) I=some (.lst []):=aa
   generalize upd H1 I (.lst [])=H2 at sI gI ⊢
   refine ⟨M3,fun N hN=>?_⟩
   have sN:ak H2 (upd H2 N (.lst [])):=af hN _
   have gN:(upd H2 N (.lst [])) N=some (.lst []):=aa
   generalize upd H2 N (.lst [])=H3 at sN gN ⊢
   have BI:B≠I:=aq gB hI
   have IN:I≠N:=aq gI hN
   have BN:B≠N:=aq (sI _ _ gB) hN
   have nB:=hB
   have nI:=aO sB hI
   have nN:=aO (ae sB sI) hN
   refine ⟨M7,fun q4 hq4=>?_⟩
   have s4:=af hq4 (.tup [.ref B,.ref I,.ref N,.int 0])
   have g4:(upd H3 q4 (.tup [.ref B,.ref I,.ref N,.int 0])) q4=some (.tup [.ref B,.ref I,.ref N,.int 0]):=aa
   generalize upd H3 q4 (.tup [.ref B,.ref I,.ref N,.int 0])=H4 at s4 g4 ⊢
   refine ⟨q4,_,rfl,bc.of g4,rfl,_,_,rfl,_,_,rfl,_,_,rfl,_,_,rfl,rfl,?_⟩
   refine kR _ _ ?_
   have s04:=ae (ae (ae sB sI) sN) s4
   have hB4:=s4 _ _ (sN _ _ (sI _ _ gB))
   have hI4:=s4 _ _ (sN _ _ gI)
   have hN4:=s4 _ _ gN
   clear g4 s4 gN gI gB sN sI sB hq4
   refine au [some (.str tx),some (.ref B),some (.ref I),some (.ref N),some (.int 0),none,none,none] rfl ?_
   refine ao fun Rk kR=>?_
   refine ⟨_,rfl,rfl,_,_,rfl,rfl,rfl,htx,?_,fun L hL=>?_⟩
   · rw [hsp]
     exact F2 (show _<=1000 by omega) (by decide)
   rw [hsp]
   have nL:=aO s04 hL
   have sL:=af hL (.lst (rows.map V.str))
   have gL:(upd H4 L (.lst (rows.map V.str))) L=some (.lst (rows.map V.str)):=aa
   have LB:B≠L:=aq hB4 hL
   have LI:I≠L:=aq hI4 hL
   have LN:N≠L:=aq hN4 hL
   have hB5:=sL _ _ hB4
   have hI5:=sL _ _ hI4
   have hN5:=sL _ _ hN4
   have s05:=ae s04 sL
   refine ⟨L,rfl,⟨_,aw.of gL⟩,?_⟩
   refine sk (xs:=rows.map V.str) (fun (i:Nat) (σ:L2.St) (Hx:Hp)=>∃(o5 o6 o7:Option V) (lv:Nat) (vb vi vn:List V),σ=[some (.str tx),some (.ref B),some (.ref I),some (.ref N),some (.int (lv:Int)),o5,o6,o7]/\ak H Hx/\(Hx B=some (.lst vb)/\vb.length<=i)/\(Hx I=some (.lst vi)/\vi.length<=i)/\(Hx N=some (.lst vn)/\vn.length<=i)/\Hx L=some (.lst (rows.map V.str))/\bH (rows.take i)/\∀r∈rows.take i,bQ (eS r)<=lv) ⟨none,none,none,0,[],[],[],rfl,s05,⟨hB5,F8 _⟩,⟨hI5,F8 _⟩,⟨hN5,F8 _⟩,gL,⟨(fun r hr=>nomatch hr),.nil⟩,fun r hr=>nomatch hr⟩ (fun i σ Hx _ z=>?_) (fun i x0 σ Hx hx z=>?_) (fun σ Hx z=>?_)
   · obtain ⟨_,_,_,_,_,_,_,_,_,_,_,_,gL,_⟩:=z
     exact aw.of gL
   · obtain ⟨o5,o6,o7,lv,vb,vi,vn,rfl,s5,⟨hBx,lb⟩,⟨hIx,li⟩,⟨hNx,ln⟩,gLx,tok,hlv⟩:=z
     obtain ⟨row,hrow,rfl⟩:=cJ hx
     have hil:i < rows.length:=(List.getElem?_eq_some_iff.mp hrow).1
     have tkn:rows.take (i + 1)=rows.take i++[row]:=by rw [Ho,hrow]; rfl
     refine ah ?_
     refine au [some (.str tx),some (.ref B),some (.ref I),some (.ref N),some (.int (lv:Int)),some (.str row),o6,o7] rfl ?_
     refine ao fun Rk kR=>?_
     refine ⟨_,rfl,row,rfl,hrl2 row (Gx hrow),fun head ks p vals Hy sy ro hp hvl=>?_,fun H' s'=>ex _ (ae s5 s')⟩
     refine ah ?_
     refine kR _ _ ?_
     clear kR
     refine au [some (.str tx),some (.ref B),some (.ref I),some (.ref N),some (.int (lv:Int)),some (.str row),some (.ref p),o7] rfl ?_
     refine ao fun Rk kR=>?_
     refine ⟨aR,rkL,rfl,dR,_,rfl,p,_,_,_,rfl,rfl,bc.of hp,oK,head,rfl,?_⟩
     rw [xN]
     refine ah ?_
     refine kR _ _ ?_
     clear kR
     refine au [some (.str tx),some (.ref B),some (.ref I),some (.ref N),some (.int (lv:Int)),some (.str row),some (.ref p),some (.int (bQ head:Int))] rfl ?_
     refine ao fun Rk kR=>?_
     refine ⟨_,rfl,_,rfl,_,_,rfl,rfl,_,rfl,?_⟩
     refine aE (fun _=>⟨_,rfl,ex _ (ae s5 sy)⟩) (fun c=>?_)
     have le:lv<=bQ head:=by
       have:¬ ((bQ head:Int) < (lv:Int)):=fun z=>c (decide_eq_true z)
       omega
     obtain ⟨tk1,tk2⟩:=tok.snoc hlv ro le
     rw [← tkn] at tk1 tk2
     clear c le tok hlv tkn
     refine kR _ _ ?_
     clear kR
     refine ao fun Rk kR=>?_
     refine ⟨_,rfl,?_⟩
     refine ah ?_
     refine kR _ _ ?_
     clear kR
     refine au [some (.str tx),some (.ref B),some (.ref I),some (.ref N),some (.int (bQ head:Int)),some (.str row),some (.ref p),some (.int (bQ head:Int))] rfl ?_
     have hB6:=sy _ _ hBx
     have hI6:=sy _ _ hIx
     have hN6:=sy _ _ hNx
     have gLy:=sy _ _ gLx
     have f2:=qg _ ro.fr
     have h3:=uN head
     generalize bQ head=n at tk2 h3 ⊢
     rcases h3 with ⟨e,rfl⟩ | ⟨e,rfl⟩ | rfl
     · match vals,hp,(hvl.trans (f2.1 e):vals.length=2) with
       | [x1,x2],hp,_=>
         refine ⟨_,rfl,rfl,_,rfl,bE ?_⟩
         refine ⟨_,rfl,.inl ⟨rfl,_,aw.of hB6⟩,_,rfl,p,_,_,_,rfl,rfl,bc.of hp,rfl,_,rfl,p,_,_,_,rfl,rfl,bc.of hp,rfl,M5,fun pb hpb=>?_⟩
         have sb:=af hpb (.tup [x1,x2])
         generalize upd Hy pb (.tup [x1,x2])=Hz at sb ⊢
         have hB7:=sb _ _ hB6
         exact ⟨B,_,_,rfl,rfl,hB7,GK (show _<=1000 by omega) (by decide),_,_,_,0,_,vi,vn,rfl,fun c o hc=>by rw [ai (aq hc nB)]; exact sb _ _ (sy _ _ (s5 c o hc)),⟨aa,by rw [FZ,Gp]; omega⟩,⟨by rw [ai BI.symm]; exact sb _ _ hI6,HU li⟩,⟨by rw [ai BN.symm]; exact sb _ _ hN6,HU ln⟩,by rw [ai LB.symm]; exact sb _ _ gLy,tk1,tk2⟩
     · match vals,hp,(hvl.trans (f2.2 e):vals.length=1) with
       | [x1],hp,_=>
         refine ⟨_,rfl,rfl,_,rfl,bD ?_⟩
         refine ⟨_,rfl,rfl,_,rfl,bE ?_⟩
         exact ⟨_,rfl,.inl ⟨rfl,_,aw.of hI6⟩,_,rfl,p,_,_,_,rfl,rfl,bc.of hp,rfl,I,_,_,rfl,rfl,hI6,GK (show _<=1000 by omega) (by decide),_,_,_,1,vb,_,vn,rfl,fun c o hc=>by rw [ai (aq hc nI)]; exact sy _ _ (s5 c o hc),⟨by rw [ai BI]; exact hB6,HU lb⟩,⟨aa,by rw [FZ,Gp]; omega⟩,⟨by rw [ai IN.symm]; exact hN6,HU ln⟩,by rw [ai LI.symm]; exact gLy,tk1,tk2⟩
     · refine ⟨_,rfl,rfl,_,rfl,bD ?_⟩
       refine ⟨_,rfl,rfl,_,rfl,bD ?_⟩
       exact ⟨_,rfl,.inl ⟨rfl,_,aw.of hN6⟩,_,rfl,N,_,_,rfl,rfl,hN6,GK (show _<=1000 by omega) (by decide),_,_,_,2,vb,vi,_,rfl,fun c o hc=>by rw [ai (aq hc nN)]; exact sy _ _ (s5 c o hc),⟨by rw [ai BN]; exact hB6,HU lb⟩,⟨by rw [ai IN]; exact hI6,HU li⟩,⟨aa,by rw [FZ,Gp]; omega⟩,by rw [ai LN.symm]; exact gLy,tk1,tk2⟩
   obtain ⟨_,_,_,_,_,_,_,_,_,_,_,_,_,tok,_⟩:=z
   rw [F0,HC] at tok
   exact absurd tok bad
theorem nF {aR cNR TE:Addr}(s:Src K mg "read_program" sRProg)(hR:mg "RANKS"=some (.ref aR))(dR:dM w K aR rkL)(cK:kD mg "NODE_RANK" 2)(cN:Xc K mg "NoRow" cNR (.ref TE :: vE))(RR0:bR P w K mg base "read_row" ["row"] 11 (iw cNR)):bR P w K mg base "read_program" ["text"] 26 (fV cNR):=
 let ⟨f,fd,F,m⟩:=s
 ⟨f,fd,qW F hR dR cK cN RR0,F.kp,gf F fun _ _ _ _ _ _ _=>rfl,m⟩
end
end TW
set_option Elab.async false
set_option linter.all false
set_option maxRecDepth 100000
set_option exponentiation.threshold 4000
set_option maxHeartbeats 1000000
namespace TW
open PySem L2
section
variable {P:Program}{w:World}{K:FX}{mg:Str->Option Value}{base:Heap}
abbrev sNum:Stmt:=top 48
abbrev sSum:Stmt:=top 49
abbrev sCond:Stmt:=top 50
/-! ### drawn numbers,sums,conditions -/
structure Nm (H:Hp)(nl:Addr)(ns:List Str):Prop where
 hn:H nl=some (.lst (ns.map V.str))
 l4:ns.length<=4
theorem Nm.go {H H1:Hp}{nl:Addr}{ns:List Str}(d:Nm H nl ns)(s:ak H H1):Nm H1 nl ns:=⟨s _ _ d.hn,d.l4⟩
theorem qH {n:Int}(h:n < 1000):n < 10 ^ 30:=by
 have e:(10:Int) ^ 30=1000000000000000000000000000000:=by decide
 rw [e]
 omega
theorem qF {m:Nat}(n:Nat)(h:m<=34):m<=34 * 2 ^ n:=by
 have:1<=2 ^ n:=JB
 omega
def pM:Sp:=fun vs H Q _=>∃c k:Int,vs=[.int c,.int k]/\0<=k/\k < 2 ^ 36/\∀(n:Int) (H':Hp),(0<=n/\n < 10 ^ 30)->ak H H'->Q (.int n) H'
theorem pI:ay ["cell","k","number","far"] ["cell","k"] (ag sNum):=⟨rfl,rfl,rfl,by decide +kernel,rfl,by decide +kernel,by decide +kernel⟩
theorem bT:(ag sNum).names.lookup (F1 "_law_stir")=some .globalImplicit:=by decide +kernel
theorem zR {f:Addr}{fd:FuncData}(F:cf K "_law_number" "_law_number" sNum f fd)(ST:aY P w K mg base "_law_stir" ["cell","k"] 1 aP):aN P w K mg base CX0 2 f fd ["cell","k"] pM:=by
 refine F.ok pI (fun vs H Q E h=>?_) (fun cdv A outer s H vs Q E hr h=>?_)
 · obtain ⟨c,k,rfl,_⟩:=h
   rfl
 · obtain ⟨c,k,rfl,k0,k1,q⟩:=h
   refine eV ⟨_,(KG (KH 2 pI.nd (KO ST hr bT (Kx (Ky 0) (Kx (Ky 1) Kz))))
     (KG (KH 3 pI.nd (KD KZ (KD Lb (KO ST hr bT (Kx (Ky 0) (Kx (KD KZ (Ky 1) KC) Kz))) (KD Lv KC KC)) (KD Lb (KO ST hr bT (Kx (Ky 0) (Kx (KD KZ (Ky 1) KC) Kz))) (KD Lv KC KC))))
     (KG (KH 3 pI.nd (KD KZ (KD KZ (Ky 3) (KD Lb (KO ST hr bT (Kx (Ky 0) (Kx (KD KZ (Ky 1) KC) Kz))) (KD Lv KC KC))) (Ky 2)))
     (KI (KQ (KN KW (KJ (Kx KC (Kx (KD KP (KD K5 (Ky 2) KC) KC) (Kx (KD KP (KD K5 (Ky 2) KC) KC) (Kx (KD KP (Ky 3) (KD Lv KC KC)) Kz))))) (KD KP (Ky 2) KC))))))),?_⟩
   refine ao fun Rk kR=>?_
   refine ⟨_,rfl,_,rfl,c,k,rfl,k0,by omega,fun r r0 r1=>?_⟩
   refine ah ?_
   refine kR _ _ ?_
   refine au [some (.int c),some (.int k),some (.int r),none] rfl ?_
   refine ao fun Rk kR=>?_
   refine ⟨_,rfl,_,rfl,_,_,rfl,rfl,c,k + 700,rfl,by omega,by omega,fun a a0 a1=>?_⟩
   refine ⟨_,_,rfl,rfl,⟨by decide,by decide,by decide⟩,_,_,rfl,rfl,.inl ⟨by omega,by omega⟩,?_⟩
   refine ⟨_,rfl,_,rfl,_,_,rfl,rfl,c,k + 701,rfl,by omega,by omega,fun b b0 b1=>?_⟩
   refine ⟨_,_,rfl,rfl,⟨by decide,by decide,by decide⟩,_,_,rfl,rfl,.inl ⟨by omega,by omega⟩,_,_,rfl,rfl,?_⟩
   refine ah ?_
   refine kR _ _ ?_
   refine ao fun Rk kR=>?_
   refine ⟨_,rfl,_,rfl,_,rfl,_,_,rfl,rfl,c,k + 702,rfl,by omega,by omega,fun d d0 d1=>?_⟩
   refine ⟨_,_,rfl,rfl,⟨by decide,by decide,by decide⟩,_,_,rfl,rfl,.inl ⟨by omega,by omega⟩,_,_,rfl,rfl,_,rfl,_,_,rfl,rfl,?_⟩
   refine ah ?_
   refine kR _ _ ?_
   refine au [some (.int c),some (.int k),some (.int r),some (.int (a * 10 ^ (22:Int).toNat + b * 10 ^ (14:Int).toNat + d * 10 ^ (7:Int).toNat + r))] rfl ?_
   obtain ⟨far,hfar⟩ : ∃far,far=a * 10 ^ (22:Int).toNat + b * 10 ^ (14:Int).toNat + d * 10 ^ (7:Int).toNat + r:=⟨_,rfl⟩
   rw [← hfar]
   refine ⟨_,rfl,_,_,rfl,rfl,⟨by decide,by decide +kernel⟩,_,_,rfl,rfl,(by show (0:Int) < 10; decide),?_⟩
   refine ⟨_,rfl,_,_,rfl,rfl,⟨by decide,by decide +kernel⟩,_,_,rfl,rfl,(by show (0:Int) < 1000; decide),?_⟩
   refine ⟨_,rfl,_,_,rfl,rfl,⟨by decide,by decide,by decide⟩,_,_,rfl,rfl,(by show (0:Int) < 10 ^ 30; decide),M7,fun L hL=>?_⟩
   refine ⟨_,rfl,_,_,rfl,rfl,(by show (0:Int) < 4; decide),?_⟩
   obtain ⟨_,hat,n,rfl,n0,n1⟩:=vG (P:=fun v=>∃n:Int,v=.int n/\0<=n/\n < 10 ^ 30) (xs:=[.int 0,.int (r / 8 % 10),.int (r / 8 % 1000),.int (far % 10 ^ (30:Int).toNat)]) (r:=r % 4) (ax (by decide)) (az (by decide)) (fun x hx=>by
     rcases List.mem_cons.mp hx with e | hx
     · exact ⟨_,e,by decide,by decide⟩
     rcases List.mem_cons.mp hx with e | hx
     · refine ⟨_,e,ax (by decide),?_⟩
       have:=az (k:=r / 8) (n:=10) (by decide)
       exact qH (by omega)
     rcases List.mem_cons.mp hx with e | hx
     · refine ⟨_,e,ax (by decide),?_⟩
       have:=az (k:=r / 8) (n:=1000) (by decide)
       exact qH (by omega)
     · refine ⟨_,List.mem_singleton.mp hx,ax (by decide),?_⟩
       exact az (k:=far) (n:=10 ^ (30:Int).toNat) (by decide))
   exact ⟨L,_,_,_,rfl,rfl,aw.of aa,hat,q n _ ⟨n0,n1⟩ (af hL _)⟩
theorem wa (s:Src K mg "_law_number" sNum)(ST:aY P w K mg base "_law_stir" ["cell","k"] 1 aP):aY P w K mg base "_law_number" ["cell","k"] 2 pM:=
 let ⟨f,fd,F,m⟩:=s
 ⟨f,fd,zR F ST,F.kp,jr F fun _ _ _ _ _ _ _ _=>rfl,m⟩
def kb:Nat->Int
 | 0=>34359738368
 | n + 1=>(kb n - 2) / 2
theorem yq:∀n,kb n<=34359738368
 | 0=>by decide
 | n + 1=>by
   have:=yq n
   show (kb n - 2) / 2<=_
   omega
theorem B2 {n:Nat}{k:Int}(h:k < kb (n + 1)):2 * k + 2 < kb n:=by
 have:k < (kb n - 2) / 2:=h
 omega
structure jH (ns:List Str)(d s:Nat)(e:E):Prop where
 is:e.isS
 ok:e.okN (· ∈ ns)
 dp:e.dep<=d
 sz:e.sz + 3<=s
structure jG (ns:List Str)(d s:Nat)(e:E):Prop where
 is:e.isC
 ok:e.okN (· ∈ ns)
 dp:e.dep<=d
 sz:e.sz + 3<=s
theorem uA {k:Int}{a b:K2}(h0:0<=k)(h1:k < 2):∃kk:K2,jo ([.str a.str,.str b.str]:List V) k=some (.str kk.str)/\(kk=a\/kk=b):=by
 rcases (show k=0\/k=1 by omega) with rfl | rfl
 · exact ⟨a,rfl,.inl rfl⟩
 · exact ⟨b,rfl,.inr rfl⟩
def dI (n:Nat):Sp:=fun vs H Q _=>∃(c k:Int) (nl:Addr) (d:Int) (ns:List Str),vs=[.int c,.int k,.ref nl,.int d]/\Nm H nl ns/\0<=k/\k < kb n/\0<=d/\d < n/\∀(v:V) (e:E) (H':Hp),ak H H'->eT H' v e->jH ns d.toNat (34 * 2 ^ d.toNat) e->Q v H'
theorem tO {f:Addr}{fd:FuncData}:aN P w K mg base CX0 3 f fd ["cell","k","names","deep"] (dI 0):=by
 have no:∀vs H Q E,¬ dI 0 vs H Q E:=fun vs H Q E h=>by
   obtain ⟨c,k,nl,d,ns,_,_,_,_,d0,dn,_⟩:=h
   omega
 exact ⟨fun vs H Q E h=>absurd h (no vs H Q E),fun A outer s H args us vs Q E _ _ _ _ h=>absurd h (no vs H Q E)⟩
theorem uW:ay ["cell","k","names","deep","number","one"] ["cell","k","names","deep"] (ag sSum):=⟨rfl,rfl,rfl,by decide +kernel,rfl,by decide +kernel,by decide +kernel⟩
theorem hV:(ag sSum).names.lookup (F1 "_law_number")=some .globalImplicit:=by decide +kernel
theorem jC:(ag sSum).names.lookup (F1 "_law_stir")=some .globalImplicit:=by decide +kernel
theorem fN:(ag sSum).names.lookup (F1 "_law_sum")=some .globalImplicit:=by decide +kernel
theorem sF:(ag sSum).names.lookup (F1 "len")=some .globalImplicit:=by decide +kernel
theorem zU {n:Nat}{f:Addr}{fd:FuncData}(F:cf K "_law_sum" "_law_sum" sSum f fd)(m_len:mg "len"=none)(ST0:aY P w K mg base "_law_stir" ["cell","k"] 1 aP)(NU0:aY P w K mg base "_law_number" ["cell","k"] 2 pM)(G:aY P w K mg base "_law_sum" ["cell","k","names","deep"] (n + 3) (dI n)):aN P w K mg base CX0 (n + 1 + 3) f fd ["cell","k","names","deep"] (dI (n + 1)):=by
 refine F.ok uW (fun vs H Q E h=>?_) (fun cdv A outer s H vs Q E hr h=>?_)
 · obtain ⟨c,k,nl,d,ns,rfl,_⟩:=h
   rfl
 · obtain ⟨c,k,nl,d,ns,rfl,D,k0,k1,d0,dn,q⟩:=h
   have ST:=ST0.mono (show 1<=n + 3 by omega)
   have NU:=NU0.mono (show 2<=n + 3 by omega)
   have kl:=yq (n + 1)
   have ku:=B2 k1
   refine eV ⟨_,(KG (KH 4 uW.nd (KO ST hr jC (Kx (Ky 0) (Kx (Ky 1) Kz))))
     (KG (KR (K7 (LD (KL K0 (Ky 3) KC) (LL (KL K0 (KD KP (Ky 4) KC) KC)))) (KG (KR (K7 (LD (KL (L3.tZ (m:=2) (cy hr _ (by decide))) (Ky 2) (KJ Kz)) (LL (KL K0 (KD KP (KD K5 (Ky 4) KC) KC) KC)))) (KI (KQ (KS (Kx KA (Kx (KO NU hr hV (Kx (Ky 0) (Kx (KD KZ (Ky 1) KC) Kz))) Kz))))) KY)
     (KI (KQ (KS (Kx KA (Kx (KN KW (Ky 2) (KD KP (KD K5 (Ky 4) KC) (KU K4 sF m_len Gd (Kx (Ky 2) Kz)))) Kz)))))) KY)
     (KG (KH 5 uW.nd (KO G hr fN (Kx (Ky 0) (Kx (KD KZ (KD Lb KC (Ky 1)) KC) (Kx (Ky 2) (Kx (KD Lm (Ky 3) KC) Kz))))))
     (KI (KQ (KS (Kx (KN KW (KJ (Kx KA (Kx KA Kz))) (KD KP (KD K5 (Ky 4) KC) KC)) (Kx (Ky 5) (Kx (KO G hr fN (Kx (Ky 0) (Kx (KD KZ (KD Lb KC (Ky 1)) KC) (Kx (Ky 2) (Kx (KD Lm (Ky 3) KC) Kz))))) Kz))))))))),?_⟩
   refine ao fun Rk kR=>?_
   refine ⟨_,rfl,_,rfl,c,k,rfl,k0,by omega,fun r r0 r1=>?_⟩
   refine ah ?_
   refine kR _ _ ?_
   refine au [some (.int c),some (.int k),some (.ref nl),some (.int d),some (.int r),none] rfl ?_
   refine ao fun Rk kR=>?_
   refine ⟨_,rfl,rfl,_,rfl,?_⟩
   refine aE (fun cd=>?_) (fun cd=>?_)
   · refine bE ?_
     refine ao fun Rk2 kR2=>?_
     refine ⟨_,rfl,M3,fun z hz=>?_⟩
     have sz:ak H (upd H z (.lst [])):=af hz _
     have gz:(upd H z (.lst [])) z=some (.lst []):=aa
     generalize upd H z (.lst [])=Hz at sz gz ⊢
     have Dz:=D.go sz
     refine ⟨_,RB.nil (aw.of Dz.hn) (aw.of gz),_,rfl,?_⟩
     refine aE (fun c1=>?_) (fun c1=>?_)
     · refine bE ?_
       refine ⟨_,rfl,_,rfl,_,_,rfl,rfl,c,k + 1000,rfl,by omega,by omega,fun i H2 i1 s2=>⟨M5,fun p hp=>?_⟩⟩
       exact q (.ref p) (.num i) _ (av (ae sz s2) hp) ⟨p,rfl,aa⟩ ⟨GD,i1,Gs _,qF (m:=34) _ (by decide)⟩
     have hpos:0 < ns.length:=by
       cases ns with
       | nil=>exact absurd rfl c1
       | cons a l=>exact Ig _
     refine ⟨_,rfl,_,_,rfl,rfl,⟨by decide,by decide +kernel⟩,_,_,rfl,rfl,(by show (0:Int) < 3; decide),rfl,_,rfl,?_⟩
     refine aE (fun c2=>?_) (fun c2=>?_)
     · refine ⟨_,rfl,_,rfl,_,_,rfl,rfl,c,k + 1000,rfl,by omega,by omega,fun i H2 i1 s2=>⟨M5,fun p hp=>?_⟩⟩
       exact q (.ref p) (.num i) _ (av (ae sz s2) hp) ⟨p,rfl,aa⟩ ⟨GD,i1,Gs _,qF (m:=34) _ (by decide)⟩
     refine kR2 _ _ ?_
     refine ⟨_,rfl,_,rfl,_,_,rfl,rfl,⟨by decide,by decide +kernel⟩,_,rfl,nl,_,rfl,.inl (aw.of Dz.hn),_,_,rfl,rfl,(by rw [F0]; omega),?_⟩
     rw [F0]
     obtain ⟨x,hxm,hat⟩:=eH V.str ns (ax (k:=r / 9) (n:=(ns.length:Int)) (by omega)) (az (by omega))
     refine ⟨nl,_,_,_,rfl,rfl,aw.of Dz.hn,hat,M5,fun p hp=>?_⟩
     exact q (.ref p) (.box "box" x) _ (av sz hp) ⟨p,rfl,aa⟩ ⟨GD,⟨rfl,hxm⟩,Gs _,qF (m:=11) _ (by decide)⟩
   refine ⟨_,rfl,_,_,rfl,rfl,(by show (0:Int) < 3; decide),rfl,_,rfl,?_⟩
   refine aE (fun c3=>?_) (fun c3=>?_)
   · refine ao fun Rk2 kR2=>?_
     refine ⟨_,rfl,M3,fun z hz=>?_⟩
     have sz:ak H (upd H z (.lst [])):=af hz _
     have gz:(upd H z (.lst [])) z=some (.lst []):=aa
     generalize upd H z (.lst [])=Hz at sz gz ⊢
     have Dz:=D.go sz
     refine ⟨_,RB.nil (aw.of Dz.hn) (aw.of gz),_,rfl,?_⟩
     refine aE (fun c1=>?_) (fun c1=>?_)
     · refine bE ?_
       refine ⟨_,rfl,_,rfl,_,_,rfl,rfl,c,k + 1000,rfl,by omega,by omega,fun i H2 i1 s2=>⟨M5,fun p hp=>?_⟩⟩
       exact q (.ref p) (.num i) _ (av (ae sz s2) hp) ⟨p,rfl,aa⟩ ⟨GD,i1,Gs _,qF (m:=34) _ (by decide)⟩
     have hpos:0 < ns.length:=by
       cases ns with
       | nil=>exact absurd rfl c1
       | cons a l=>exact Ig _
     refine ⟨_,rfl,_,_,rfl,rfl,⟨by decide,by decide +kernel⟩,_,_,rfl,rfl,(by show (0:Int) < 3; decide),rfl,_,rfl,?_⟩
     refine aE (fun c2=>?_) (fun c2=>?_)
     · refine ⟨_,rfl,_,rfl,_,_,rfl,rfl,c,k + 1000,rfl,by omega,by omega,fun i H2 i1 s2=>⟨M5,fun p hp=>?_⟩⟩
       exact q (.ref p) (.num i) _ (av (ae sz s2) hp) ⟨p,rfl,aa⟩ ⟨GD,i1,Gs _,qF (m:=34) _ (by decide)⟩
     refine kR2 _ _ ?_
     refine ⟨_,rfl,_,rfl,_,_,rfl,rfl,⟨by decide,by decide +kernel⟩,_,rfl,nl,_,rfl,.inl (aw.of Dz.hn),_,_,rfl,rfl,(by rw [F0]; omega),?_⟩
     rw [F0]
     obtain ⟨x,hxm,hat⟩:=eH V.str ns (ax (k:=r / 9) (n:=(ns.length:Int)) (by omega)) (az (by omega))
     refine ⟨nl,_,_,_,rfl,rfl,aw.of Dz.hn,hat,M5,fun p hp=>?_⟩
     exact q (.ref p) (.box "box" x) _ (av sz hp) ⟨p,rfl,aa⟩ ⟨GD,⟨rfl,hxm⟩,Gs _,qF (m:=11) _ (by decide)⟩
   have d1:=nO cd
   refine kR _ _ ?_
   refine ao fun Rk kR=>?_
   refine ⟨_,rfl,_,rfl,_,_,rfl,rfl,.inr ⟨by omega,by omega⟩,_,_,rfl,rfl,_,rfl,_,rfl,_,_,rfl,rfl,c,2 * k + 1,nl,d - 1,ns,rfl,D,by omega,by omega,by omega,by omega,fun v e H2 s2 ev w1=>?_⟩
   refine ah ?_
   refine kR _ _ ?_
   refine au [some (.int c),some (.int k),some (.ref nl),some (.int d),some (.int r),some v] rfl ?_
   refine ⟨M5,fun L hL=>?_⟩
   have sL:ak H2 (upd H2 L (.lst [.str "plus",.str "less"])):=af hL _
   have gL:(upd H2 L (.lst [.str "plus",.str "less"])) L=some (.lst [.str "plus",.str "less"]):=aa
   generalize upd H2 L (.lst [.str "plus",.str "less"])=H3 at sL gL ⊢
   refine ⟨_,rfl,_,_,rfl,rfl,⟨by decide,by decide +kernel⟩,_,_,rfl,rfl,(by show (0:Int) < 2; decide),?_⟩
   obtain ⟨kk,hat,hkk⟩:=uA (a:=.plus) (b:=.less) (ax (k:=r / 3) (n:=2) (by decide)) (az (by decide))
   refine ⟨L,_,_,_,rfl,rfl,aw.of gL,hat,_,rfl,_,rfl,_,rfl,_,_,rfl,rfl,.inr ⟨by omega,by omega⟩,_,_,rfl,rfl,_,rfl,_,rfl,_,_,rfl,rfl,c,2 * k + 2,nl,d - 1,ns,rfl,D.go (ae s2 sL),by omega,by omega,by omega,by omega,fun v2 e2 H4 s4 ev2 w2=>⟨M6,fun p hp=>?_⟩⟩
   have s24:=av (ae sL s4) (o:=.tup [.str kk.str,v,v2]) hp
   refine q (.ref p) (.two kk e e2) _ (ae s2 s24) ⟨v,v2,⟨p,rfl,aa⟩,ev.keep (ak.tk s24),ev2.keep (jn hp _)⟩ ⟨?_,⟨w1.ok,w2.ok⟩,?_,?_⟩
   · rcases hkk with rfl | rfl <;> exact ⟨w1.is,w2.is⟩
   · have h1:=w1.dp
     have h2:=w2.dp
     show max e.dep e2.dep + 1<=d.toNat
     omega
   · have h1:=w1.sz
     have h2:=w2.sz
     have ed:d.toNat=(d - 1).toNat + 1:=by omega
     show e.sz + e2.sz + 3 + 3<=34 * 2 ^ d.toNat
     rw [ed,Kv]
     omega
theorem wg (s:Src K mg "_law_sum" sSum)(m_len:mg "len"=none)(ST0:aY P w K mg base "_law_stir" ["cell","k"] 1 aP)(NU0:aY P w K mg base "_law_number" ["cell","k"] 2 pM):∀n:Nat,aY P w K mg base "_law_sum" ["cell","k","names","deep"] (n + 3) (dI n):=by
 obtain ⟨f,fd,F,m⟩:=s
 have b:Binds K fd ["cell","k","names","deep"] []:=yZ F fun _ _ _ _ _ _ _ _ _ _=>rfl
 intro n
 have all:aN P w K mg base CX0 (n + 3) f fd ["cell","k","names","deep"] (dI n):=by
   induction n with
   | zero=>exact tO
   | succ n ih=>exact zU F m_len ST0 NU0 ⟨f,fd,ih,F.kp,b,m⟩
 exact ⟨f,fd,all,F.kp,b,m⟩
end
end TW
set_option Elab.async false
set_option linter.all false
set_option maxRecDepth 100000
set_option exponentiation.threshold 4000
set_option maxHeartbeats 1000000
namespace TW
open PySem L2
section
variable {P:Program}{w:World}{K:FX}{mg:Str->Option Value}{base:Heap}
abbrev sGS:Stmt:=top 51
abbrev sGC:Stmt:=top 52
def kc:Nat->Int
 | 0=>1073741824
 | n + 1=>(kc n - 2) / 3
theorem yr:∀n,kc n<=1073741824
 | 0=>by decide
 | n + 1=>by
   have:=yr n
   show (kc n - 2) / 3<=_
   omega
theorem B3 {n:Nat}{k:Int}(h:k < kc (n + 1)):3 * k + 2 < kc n:=by
 have:k < (kc n - 2) / 3:=h
 omega
theorem jh (n m:Nat)(h:m<=272):m<=272 * 2 ^ n:=by
 have:1<=2 ^ n:=JB
 omega
def eC (n:Nat):Sp:=fun vs H Q _=>∃(c k:Int) (nl:Addr) (d:Int) (ns:List Str),vs=[.int c,.int k,.ref nl,.int d]/\Nm H nl ns/\0<=k/\k < kc n/\0<=d/\d < n/\∀(v:V) (e:E) (H':Hp),ak H H'->eT H' v e->jG ns (d.toNat + 3) (272 * 2 ^ d.toNat) e->Q v H'
theorem qN {f:Addr}{fd:FuncData}:aN P w K mg base CX0 7 f fd ["cell","k","names","deep"] (eC 0):=by
 have no:∀vs H Q E,¬ eC 0 vs H Q E:=fun vs H Q E h=>by
   obtain ⟨c,k,nl,d,ns,_,_,_,_,d0,dn,_⟩:=h
   omega
 exact ⟨fun vs H Q E h=>absurd h (no vs H Q E),fun A outer s H args us vs Q E _ _ _ _ h=>absurd h (no vs H Q E)⟩
theorem je:ay ["cell","k","names","deep","number","kind","one"] ["cell","k","names","deep"] (ag sCond):=⟨rfl,rfl,rfl,by decide +kernel,rfl,by decide +kernel,by decide +kernel⟩
theorem bC:(ag sCond).names.lookup (F1 "_law_condition")=some .globalImplicit:=by decide +kernel
theorem iP:(ag sCond).names.lookup (F1 "_law_stir")=some .globalImplicit:=by decide +kernel
theorem eU:(ag sCond).names.lookup (F1 "_law_sum")=some .globalImplicit:=by decide +kernel
theorem Bp (n:Nat):1<=2 ^ n:=JB
theorem wV {n:Nat}{f:Addr}{fd:FuncData}(F:cf K "_law_condition" "_law_condition" sCond f fd)(ST0:aY P w K mg base "_law_stir" ["cell","k"] 1 aP)(SM0:aY P w K mg base "_law_sum" ["cell","k","names","deep"] 6 (dI 3))(G:aY P w K mg base "_law_condition" ["cell","k","names","deep"] (n + 7) (eC n)):aN P w K mg base CX0 (n + 1 + 7) f fd ["cell","k","names","deep"] (eC (n + 1)):=by
 refine F.ok je (fun vs H Q E h=>?_) (fun cdv A outer s H vs Q E hr h=>?_)
 · obtain ⟨c,k,nl,d,ns,rfl,_⟩:=h
   rfl
 · obtain ⟨c,k,nl,d,ns,rfl,D,k0,k1,d0,dn,q⟩:=h
   have ST:=ST0.mono (show 1<=n + 7 by omega)
   have SM:=SM0.mono (show 6<=n + 7 by omega)
   have kl:=yr (n + 1)
   have ku:=B3 k1
   have kb3:3500000000 < kb 3:=by decide
   refine eV ⟨_,(KG (KH 4 je.nd (KO ST hr iP (Kx (Ky 0) (Kx (Ky 1) Kz))))
     (KG (KH 5 je.nd (KD KP (Ky 4) KC))
     (KG (KR (KL K0 (Ky 5) KC) (KI (KQ (KS (Kx KA Kz)))) KY)
     (KG (KR (K7 (Lc (KL K0 (Ky 5) KC) (Ld (KL Ls (Ky 3) KC)))) (KI (KQ (KS (Kx KA (Kx (KO G hr bC (Kx (Ky 0) (Kx (KD KZ (KD Lb KC (Ky 1)) KC) (Kx (Ky 2) (Kx (KD Lm (Ky 3) KC) Kz))))) Kz))))) KY)
     (KG (KR (K7 (Lc (KL Ll (Ky 5) KC) (Ld (KL Ls (Ky 3) KC)))) (KG (KH 6 je.nd (KO G hr bC (Kx (Ky 0) (Kx (KD KZ (KD Lb KC (Ky 1)) KC) (Kx (Ky 2) (Kx (KD Lm (Ky 3) KC) Kz))))))
     (KI (KQ (KS (Kx KA (Kx (Ky 6) (Kx (KO G hr bC (Kx (Ky 0) (Kx (KD KZ (KD Lb KC (Ky 1)) KC) (Kx (Ky 2) (Kx (KD Lm (Ky 3) KC) Kz))))) Kz))))))) KY)
     (KG (KH 6 je.nd (KO SM hr eU (Kx (Ky 0) (Kx (KD KZ (KD Lb KC (Ky 1)) KC) (Kx (Ky 2) (Kx KC Kz))))))
     (KI (KQ (KS (Kx (KN KW (KJ (Kx KA (Kx KA Kz))) (KD KP (KD K5 (Ky 4) KC) KC)) (Kx (Ky 6) (Kx (KO SM hr eU (Kx (Ky 0) (Kx (KD KZ (KD Lb KC (Ky 1)) KC) (Kx (Ky 2) (Kx KC Kz))))) Kz)))))))))))),?_⟩
   refine r6 fun Rk kR=>?_
   refine ⟨_,rfl,_,rfl,c,k,rfl,k0,by omega,fun r r0 r1=>?_⟩
   refine ah ?_
   refine ⟨_,rfl,_,_,rfl,rfl,(by show (0:Int) < 6; decide),?_⟩
   refine ah ?_
   refine kR _ _ ?_
   refine au [some (.int c),some (.int k),some (.ref nl),some (.int d),some (.int r),some (.int (r % 6)),none] rfl ?_
   refine ao fun Rk kR=>?_
   refine ⟨_,rfl,rfl,_,rfl,?_⟩
   refine aE (fun cd=>?_) (fun cd=>?_)
   · refine ⟨M4,fun p hp=>?_⟩
     exact q (.ref p) .yes _ (af hp _) ⟨p,rfl,aa⟩ ⟨GD,GD,Gs _,jh _ _ (by decide)⟩
   refine kR _ _ ?_
   refine ao fun Rk kR=>?_
   refine ⟨_,rfl,rfl,_,rfl,?_⟩
   suffices hs:Rk [some (.int c),some (.int k),some (.ref nl),some (.int d),some (.int r),some (.int (r % 6)),none] H by
     refine aE (fun c1=>?_) (fun c1=>bD hs)
     refine ⟨_,rfl,_,_,rfl,rfl,_,rfl,?_⟩
     refine aE (fun c2=>?_) (fun c2=>hs)
     have dpos:0 < d:=of_decide_eq_true c2
     refine ⟨_,rfl,_,rfl,_,_,rfl,rfl,.inr ⟨by omega,by omega⟩,_,_,rfl,rfl,_,rfl,_,rfl,_,_,rfl,rfl,c,3 * k + 1,nl,d - 1,ns,rfl,D,by omega,by omega,by omega,by omega,fun v e H2 s2 ev w1=>?_⟩
     refine ⟨M5,fun p hp=>?_⟩
     refine q (.ref p) (.nt e) _ (av s2 hp) ⟨v,⟨p,rfl,aa⟩,ev.keep (jn hp _)⟩ ⟨w1.is,w1.ok,?_,?_⟩
     · have:=w1.dp
       show e.dep + 1<=d.toNat + 3
       omega
     · have h1:=w1.sz
       have ed:d.toNat=(d - 1).toNat + 1:=by omega
       show e.sz + 1 + 3<=272 * 2 ^ d.toNat
       have:=Bp (d - 1).toNat
       rw [ed,Kv]
       omega
   refine kR _ _ ?_
   refine ao fun Rk kR=>?_
   refine ⟨_,rfl,_,_,rfl,rfl,_,rfl,?_⟩
   suffices hs:Rk [some (.int c),some (.int k),some (.ref nl),some (.int d),some (.int r),some (.int (r % 6)),none] H by
     refine aE (fun c1=>?_) (fun c1=>bD hs)
     refine ⟨_,rfl,_,_,rfl,rfl,_,rfl,?_⟩
     refine aE (fun c2=>?_) (fun c2=>hs)
     have dpos:0 < d:=of_decide_eq_true c2
     refine ao fun Rk kR=>?_
     refine ⟨_,rfl,_,rfl,_,_,rfl,rfl,.inr ⟨by omega,by omega⟩,_,_,rfl,rfl,_,rfl,_,rfl,_,_,rfl,rfl,c,3 * k + 1,nl,d - 1,ns,rfl,D,by omega,by omega,by omega,by omega,fun v e H2 s2 ev w1=>?_⟩
     refine ah ?_
     refine kR _ _ ?_
     refine au [some (.int c),some (.int k),some (.ref nl),some (.int d),some (.int r),some (.int (r % 6)),some v] rfl ?_
     refine ⟨_,rfl,_,rfl,_,rfl,_,_,rfl,rfl,.inr ⟨by omega,by omega⟩,_,_,rfl,rfl,_,rfl,_,rfl,_,_,rfl,rfl,c,3 * k + 2,nl,d - 1,ns,rfl,D.go s2,by omega,by omega,by omega,by omega,fun v2 e2 H3 s3 ev2 w2=>?_⟩
     refine ⟨M6,fun p hp=>?_⟩
     have s3':=av s3 (o:=.tup [.str "both",v,v2]) hp
     refine q (.ref p) (.two .both e e2) _ (ae s2 s3') ⟨v,v2,⟨p,rfl,aa⟩,ev.keep (ak.tk s3'),ev2.keep (jn hp _)⟩ ⟨⟨w1.is,w2.is⟩,⟨w1.ok,w2.ok⟩,?_,?_⟩
     · have h1:=w1.dp
       have h2:=w2.dp
       show max e.dep e2.dep + 1<=d.toNat + 3
       omega
     · have h1:=w1.sz
       have h2:=w2.sz
       have ed:d.toNat=(d - 1).toNat + 1:=by omega
       show e.sz + e2.sz + 3 + 3<=272 * 2 ^ d.toNat
       rw [ed,Kv]
       omega
   refine kR _ _ ?_
   refine ao fun Rk kR=>?_
   refine ⟨_,rfl,_,rfl,_,_,rfl,rfl,.inr ⟨by omega,by omega⟩,_,_,rfl,rfl,_,rfl,c,3 * k + 3,nl,2,ns,rfl,D,by omega,by omega,by decide,by decide,fun v e H2 s2 ev w1=>?_⟩
   refine ah ?_
   refine kR _ _ ?_
   refine au [some (.int c),some (.int k),some (.ref nl),some (.int d),some (.int r),some (.int (r % 6)),some v] rfl ?_
   refine ⟨M5,fun L hL=>?_⟩
   have sL:ak H2 (upd H2 L (.lst [.str "same",.str "under"])):=af hL _
   have gL:(upd H2 L (.lst [.str "same",.str "under"])) L=some (.lst [.str "same",.str "under"]):=aa
   generalize upd H2 L (.lst [.str "same",.str "under"])=H3 at sL gL ⊢
   refine ⟨_,rfl,_,_,rfl,rfl,⟨by decide,by decide +kernel⟩,_,_,rfl,rfl,(by show (0:Int) < 2; decide),?_⟩
   obtain ⟨kk,hat,hkk⟩:=uA (a:=.same) (b:=.under) (ax (k:=r / 6) (n:=2) (by decide)) (az (by decide))
   refine ⟨L,_,_,_,rfl,rfl,aw.of gL,hat,_,rfl,_,rfl,_,rfl,_,_,rfl,rfl,.inr ⟨by omega,by omega⟩,_,_,rfl,rfl,_,rfl,c,3 * k + 200,nl,2,ns,rfl,D.go (ae s2 sL),by omega,by omega,by decide,by decide,fun v2 e2 H4 s4 ev2 w2=>⟨M6,fun p hp=>?_⟩⟩
   have s24:=av (ae sL s4) (o:=.tup [.str kk.str,v,v2]) hp
   refine q (.ref p) (.two kk e e2) _ (ae s2 s24) ⟨v,v2,⟨p,rfl,aa⟩,ev.keep (ak.tk s24),ev2.keep (jn hp _)⟩ ⟨?_,⟨w1.ok,w2.ok⟩,?_,jh _ _ ?_⟩
   · rcases hkk with rfl | rfl <;> exact ⟨w1.is,w2.is⟩
   · have h1:e.dep<=2:=w1.dp
     have h2:e2.dep<=2:=w2.dp
     show max e.dep e2.dep + 1<=d.toNat + 3
     omega
   · have h1:e.sz + 3<=136:=w1.sz
     have h2:e2.sz + 3<=136:=w2.sz
     show e.sz + e2.sz + 3 + 3<=272
     omega
theorem sM (s:Src K mg "_law_condition" sCond)(ST0:aY P w K mg base "_law_stir" ["cell","k"] 1 aP)(SM0:aY P w K mg base "_law_sum" ["cell","k","names","deep"] 6 (dI 3)):∀n:Nat,aY P w K mg base "_law_condition" ["cell","k","names","deep"] (n + 7) (eC n):=by
 obtain ⟨f,fd,F,m⟩:=s
 have b:Binds K fd ["cell","k","names","deep"] []:=yZ F fun _ _ _ _ _ _ _ _ _ _=>rfl
 intro n
 have all:aN P w K mg base CX0 (n + 7) f fd ["cell","k","names","deep"] (eC n):=by
   induction n with
   | zero=>exact qN
   | succ n ih=>exact wV F ST0 SM0 ⟨f,fd,ih,F.kp,b,m⟩
 exact ⟨f,fd,all,F.kp,b,m⟩
/-! ### grown ones -/
def rF:Sp:=fun vs H Q _=>∃(c:Int) (u:V) (nl:Addr) (ns:List Str) (e:E) (d s:Nat),vs=[.int c,u,.ref nl]/\Nm H nl ns/\eT H u e/\jH ns d s e/\∀(v:V) (e:E) (H':Hp),ak H H'->eT H' v e->jH ns (d + 15) (s + 510) e->Q v H'
theorem yw {k:Int}{xs:List V}(h0:0<=k)(h1:k < 4)(P:V->Prop){a b c d:V}(e:xs=[a,b,c,d])(ha:P a)(hb:P b)(hc:P c)(hd:P d):∃v,jo xs k=some v/\P v:=by
 subst e
 rcases (show k=0\/k=1\/k=2\/k=3 by omega) with rfl | rfl | rfl | rfl
 · exact ⟨a,rfl,ha⟩
 · exact ⟨b,rfl,hb⟩
 · exact ⟨c,rfl,hc⟩
 · exact ⟨d,rfl,hd⟩
theorem rB:ay ["cell","told","names","k","number","more"] ["cell","told","names"] (ag sGS):=⟨rfl,rfl,rfl,by decide +kernel,rfl,by decide +kernel,by decide +kernel⟩
theorem fG:(ag sGS).names.lookup (F1 "_law_stir")=some .globalImplicit:=by decide +kernel
theorem vT:(ag sGS).names.lookup (F1 "len")=some .globalImplicit:=by decide +kernel
theorem qj:(ag sGS).names.lookup (F1 "range")=some .globalImplicit:=by decide +kernel
theorem Ce {f:Addr}{fd:FuncData}(F:cf K "_law_grown_sum" "_law_grown_sum" sGS f fd)(m_len:mg "len"=none)(m_range:mg "range"=none)(ST:aY P w K mg base "_law_stir" ["cell","k"] 1 aP):aN P w K mg base CX0 2 f fd ["cell","told","names"] rF:=by
 refine F.ok rB (fun vs H Q E h=>?_) (fun cdv A outer s H vs Q E hr h=>?_)
 · obtain ⟨c,u,nl,ns,e,d,s0,rfl,_⟩:=h
   rfl
 · obtain ⟨c,u,nl,ns,e,d,s0,rfl,D,eu,wu,q⟩:=h
   refine eV ⟨_,(KG (LP (LG qj m_range (Kx (KD KZ KC (KD KP (KO ST hr fG (Kx (Ky 0) (Kx KC Kz))) KC)) Kz)) (K3 3 rB.nd) (KG (KH 4 rB.nd (KO ST hr fG (Kx (Ky 0) (Kx (KD KZ KC (Ky 3)) Kz))))
     (KG (KH 5 rB.nd (KS (Kx KA (Kx (KD KP (KD K5 (Ky 4) KC) KC) Kz))))
     (KG (KR (K7 (Lc (KL (Ly (m:=2) (cy hr _ (by decide))) (Ky 2) (KJ Kz)) (Ld (KL K0 (KD KP (KD K5 (Ky 4) KC) KC) KC)))) (KI (KH 5 rB.nd (KS (Kx KA (Kx (KN KW (Ky 2) (KD KP (KD K5 (Ky 4) KC) (KU K4 vT m_len Gd (Kx (Ky 2) Kz)))) Kz))))) KY)
     (KI (KH 1 rB.nd (KN KW (KJ (Kx (KS (Kx KA (Kx (Ky 1) (Kx (Ky 5) Kz)))) (Kx (KS (Kx KA (Kx (Ky 5) (Kx (Ky 1) Kz)))) (Kx (KS (Kx KA (Kx (Ky 1) (Kx (Ky 5) Kz)))) (Kx (KS (Kx KA (Kx (Ky 5) (Kx (Ky 1) Kz)))) Kz))))) (KD KP (Ky 4) KC))))))))
     (KI (KQ (Ky 1)))),?_⟩
   refine ao fun Rk kR=>?_
   refine ⟨_,rfl,c,3000,rfl,by decide,by decide,fun r r0 r1=>⟨_,_,rfl,rfl,(by show (0:Int) < 15; decide),_,_,rfl,rfl,1 + r % 15,rfl,?_⟩⟩
   have m0:=ax (k:=r) (n:=15) (by decide)
   have m1:=az (k:=r) (n:=15) (by decide)
   refine ⟨by omega,by omega,?_⟩
   refine eJ (lo:=0) (n:=(1 + r % 15).toNat) (fun i σ Hx=>ak H Hx/\∃v e o3 o4 o5,σ=[some (.int c),some v,some (.ref nl),o3,o4,o5]/\eT Hx v e/\jH ns (d + i) (s0 + 34 * i) e) ⟨same_refl _,u,e,_,_,_,rfl,eu,wu⟩ (fun i σ Hx hi z=>?_) (fun σ Hx z=>?_)
   · obtain ⟨sx,v,e,o3,o4,o5,rfl,ev,we⟩:=z
     have Dx:=D.go sx
     refine ah ?_
     refine au [some (.int c),some v,some (.ref nl),some (.int (0 + (i:Int))),o4,o5] rfl ?_
     refine ao fun Rj kj=>?_
     refine ⟨_,rfl,_,rfl,_,_,rfl,rfl,c,3001 + (0 + (i:Int)),rfl,by omega,by omega,fun k k0 k1=>?_⟩
     refine ah ?_
     refine kj _ _ ?_
     refine au [some (.int c),some v,some (.ref nl),some (.int (0 + (i:Int))),some (.int k),o5] rfl ?_
     refine ao fun Rj kj=>?_
     refine ⟨_,rfl,_,_,rfl,rfl,⟨by decide,by decide +kernel⟩,_,_,rfl,rfl,(by show (0:Int) < 100; decide),M5,fun p1 hp1=>?_⟩
     have h10:=ax (k:=k / 8) (n:=100) (by decide)
     have h11:=az (k:=k / 8) (n:=100) (by decide)
     obtain ⟨nn,enn⟩ : ∃nn,nn=k / 8 % 100:=⟨_,rfl⟩
     rw [← enn] at h10 h11
     refine pq (upd Hx p1 (.tup [.str "number",.int nn])) (by subst enn; rfl) ?_
     clear enn
     have s1:ak Hx (upd Hx p1 (.tup [.str "number",.int nn])):=af hp1 _
     have g1:(upd Hx p1 (.tup [.str "number",.int nn])) p1=some (.tup [.str "number",.int nn]):=aa
     generalize upd Hx p1 (.tup [.str "number",.int nn])=H1 at s1 g1 ⊢
     refine ah ?_
     refine kj _ _ ?_
     refine au [some (.int c),some v,some (.ref nl),some (.int (0 + (i:Int))),some (.int k),some (.ref p1)] rfl ?_
     refine ao fun Rj kj=>?_
     suffices hs:∀(m:V) (em:TW.E) (H5:Hp),ak H1 H5->eT H5 m em->jH ns 0 34 em->Rj [some (.int c),some v,some (.ref nl),some (.int (0 + (i:Int))),some (.int k),some m] H5 by
       have en:eT H1 (.ref p1) (.num nn):=⟨p1,rfl,g1⟩
       have dn:jH ns 0 34 (.num nn):=⟨GD,⟨h10,qH (by omega)⟩,F8 _,F8 _⟩
       refine ⟨_,rfl,M3,fun z hz=>?_⟩
       have sz:ak H1 (upd H1 z (.lst [])):=af hz _
       have gz:(upd H1 z (.lst [])) z=some (.lst []):=aa
       generalize upd H1 z (.lst [])=Hz at sz gz ⊢
       have Dz:=Dx.go (ae s1 sz)
       refine ⟨_,RB.nil (aw.of Dz.hn) (aw.of gz),_,rfl,?_⟩
       refine aE (fun c1=>?_) (fun c1=>bD (hs _ _ _ sz (en.keep (ak.tk sz)) dn))
       have hpos:0 < ns.length:=by
         cases ns with
         | nil=>exact absurd c1 (by decide)
         | cons a l=>exact Ig _
       refine ⟨_,rfl,_,_,rfl,rfl,⟨by decide,by decide +kernel⟩,_,_,rfl,rfl,(by show (0:Int) < 2; decide),rfl,_,rfl,?_⟩
       refine aE (fun c2=>?_) (fun c2=>hs _ _ _ sz (en.keep (ak.tk sz)) dn)
       refine ⟨_,rfl,_,rfl,_,_,rfl,rfl,⟨by decide,by decide +kernel⟩,_,rfl,nl,_,rfl,.inl (aw.of Dz.hn),_,_,rfl,rfl,(by rw [F0]; omega),?_⟩
       rw [F0]
       obtain ⟨x,hxm,hat⟩:=eH V.str ns (ax (k:=k / 8) (n:=(ns.length:Int)) (by omega)) (az (by omega))
       refine ⟨nl,_,_,_,rfl,rfl,aw.of Dz.hn,hat,M5,fun p hp=>?_⟩
       exact hs (.ref p) (.box "box" x) _ (av sz hp) ⟨p,rfl,aa⟩ ⟨GD,⟨rfl,hxm⟩,F8 _,(by show 8 + 3<=34; decide)⟩
     intro m em H5 s5 em5 wm
     have ev5:=ev.keep (ak.tk (ae s1 s5))
     refine kj _ _ ?_
     refine ⟨_,rfl,_,rfl,M6,fun a1 ha1=>⟨_,rfl,_,rfl,M6,fun a2 ha2=>⟨_,rfl,_,rfl,M6,fun a3 ha3=>⟨_,rfl,_,rfl,M6,fun a4 ha4=>⟨M7,fun L hL=>?_⟩⟩⟩⟩⟩
     have t1:=af ha1 (.tup [.str "plus",v,m])
     have t2:=af ha2 (.tup [.str "plus",m,v])
     have t3:=af ha3 (.tup [.str "less",v,m])
     have t4:=af ha4 (.tup [.str "less",m,v])
     have tL:=af hL (.lst [.ref a1,.ref a2,.ref a3,.ref a4])
     have y4:=ae t4 tL
     have y3:=ae t3 y4
     have y2:=ae t2 y3
     have y1:=ae t1 y2
     have g1:=y2 _ _ (aa (H:=H5) (a:=a1) (o:=.tup [.str "plus",v,m]))
     have g2:=y3 _ _ (aa (a:=a2) (o:=.tup [.str "plus",m,v]))
     have g3:=y4 _ _ (aa (a:=a3) (o:=.tup [.str "less",v,m]))
     have g4:=tL _ _ (aa (a:=a4) (o:=.tup [.str "less",m,v]))
     refine ⟨_,rfl,_,_,rfl,rfl,(by show (0:Int) < 4; decide),?_⟩
     have gL:=aa (H:=(upd (upd (upd (upd H5 a1 (.tup [.str "plus",v,m])) a2 (.tup [.str "plus",m,v])) a3 (.tup [.str "less",v,m])) a4 (.tup [.str "less",m,v]))) (a:=L) (o:=.lst [.ref a1,.ref a2,.ref a3,.ref a4])
     generalize (upd (upd (upd (upd (upd H5 a1 (.tup [.str "plus",v,m])) a2 (.tup [.str "plus",m,v])) a3 (.tup [.str "less",v,m])) a4 (.tup [.str "less",m,v])) L (.lst [.ref a1,.ref a2,.ref a3,.ref a4]))=H9 at g1 g2 g3 g4 gL y1 ⊢
     have ev9:=ev5.keep (ak.tk y1)
     have em9:=em5.keep (ak.tk y1)
     have szz:∀k,(k=K2.plus\/k=.less)->jH ns (d + (i + 1)) (s0 + 34 * (i + 1)) (.two k e em)/\jH ns (d + (i + 1)) (s0 + 34 * (i + 1)) (.two k em e):=fun k hk=>by
       have h1:=we.dp
       have h2:em.dep<=0:=wm.dp
       have h3:=we.sz
       have h4:em.sz + 3<=34:=wm.sz
       constructor
       · refine ⟨?_,⟨we.ok,wm.ok⟩,?_,?_⟩
         · rcases hk with rfl | rfl <;> exact ⟨we.is,wm.is⟩
         · show max e.dep em.dep + 1<=_
           omega
         · show e.sz + em.sz + 3 + 3<=_
           omega
       · refine ⟨?_,⟨wm.ok,we.ok⟩,?_,?_⟩
         · rcases hk with rfl | rfl <;> exact ⟨wm.is,we.is⟩
         · show max em.dep e.dep + 1<=_
           omega
         · show em.sz + e.sz + 3 + 3<=_
           omega
     obtain ⟨w9,hat,e9,ev',we'⟩:=yw (xs:=[.ref a1,.ref a2,.ref a3,.ref a4]) (ax (k:=k) (n:=4) (by decide)) (az (by decide)) (fun w=>∃e9:TW.E,eT H9 w e9/\jH ns (d + (i + 1)) (s0 + 34 * (i + 1)) e9) rfl
       ⟨.two .plus e em,⟨v,m,⟨a1,rfl,g1⟩,ev9,em9⟩,(szz .plus (.inl rfl)).1⟩ ⟨.two .plus em e,⟨m,v,⟨a2,rfl,g2⟩,em9,ev9⟩,(szz .plus (.inl rfl)).2⟩ ⟨.two .less e em,⟨v,m,⟨a3,rfl,g3⟩,ev9,em9⟩,(szz .less (.inr rfl)).1⟩ ⟨.two .less em e,⟨m,v,⟨a4,rfl,g4⟩,em9,ev9⟩,(szz .less (.inr rfl)).2⟩
     refine ⟨L,_,_,_,rfl,rfl,aw.of gL,hat,?_⟩
     exact ⟨ae (ae sx s1) (ae s5 y1),w9,e9,_,_,_,rfl,ev',we'⟩
   obtain ⟨sx,v,e,o3,o4,o5,rfl,ev,we⟩:=z
   refine kR _ _ ?_
   refine ⟨_,rfl,q v e Hx sx ev ⟨we.is,we.ok,?_,?_⟩⟩
   · have:=we.dp
     omega
   · have:=we.sz
     omega
theorem zk (s:Src K mg "_law_grown_sum" sGS)(m_len:mg "len"=none)(m_range:mg "range"=none)(ST:aY P w K mg base "_law_stir" ["cell","k"] 1 aP):aY P w K mg base "_law_grown_sum" ["cell","told","names"] 2 rF:=
 let ⟨f,fd,F,m⟩:=s
 ⟨f,fd,Ce F m_len m_range ST,F.kp,pX F fun _ _ _ _ _ _ _ _ _=>rfl,m⟩
end
end TW
set_option Elab.async false
set_option linter.all false
set_option maxRecDepth 100000
set_option exponentiation.threshold 4000
set_option maxHeartbeats 1000000
namespace TW
open PySem L2
section
variable {P:Program}{w:World}{K:FX}{mg:Str->Option Value}{base:Heap}
abbrev sLW:Stmt:=top 53
def xY:Sp:=fun vs H Q _=>∃(c:Int) (u:V) (ns:List Str) (e:E) (d s:Nat),vs=[.int c,u]/\eT H u e/\jG ns d s e/\1<=d/\∀(v:V) (e:E) (H':Hp),ak H H'->eT H' v e->jG ns (d + 12) (s + 816) e->Q v H'
theorem AA {k:Int}{xs:List V}(h0:0<=k)(h1:k < 2)(P:V->Prop){a b:V}(e:xs=[a,b])(ha:P a)(hb:P b):∃v,jo xs k=some v/\P v:=by
 subst e
 rcases (show k=0\/k=1 by omega) with rfl | rfl
 · exact ⟨a,rfl,ha⟩
 · exact ⟨b,rfl,hb⟩
theorem uS:ay ["cell","told","k","number","more"] ["cell","told"] (ag sGC):=⟨rfl,rfl,rfl,by decide +kernel,rfl,by decide +kernel,by decide +kernel⟩
theorem fF:(ag sGC).names.lookup (F1 "_law_stir")=some .globalImplicit:=by decide +kernel
theorem qi:(ag sGC).names.lookup (F1 "range")=some .globalImplicit:=by decide +kernel
theorem Cd {f:Addr}{fd:FuncData}(F:cf K "_law_grown_condition" "_law_grown_condition" sGC f fd)(m_range:mg "range"=none)(ST:aY P w K mg base "_law_stir" ["cell","k"] 1 aP):aN P w K mg base CX0 2 f fd ["cell","told"] xY:=by
 refine F.ok uS (fun vs H Q E h=>?_) (fun cdv A outer s H vs Q E hr h=>?_)
 · obtain ⟨c,u,ns,e,d,s0,rfl,_⟩:=h
   rfl
 · obtain ⟨c,u,ns,e,d,s0,rfl,eu,wu,hd,q⟩:=h
   refine eV ⟨_,(KG (LP (LG qi m_range (Kx (KD KZ KC (KD KP (KO ST hr fF (Kx (Ky 0) (Kx KC Kz))) KC)) Kz)) (K3 2 uS.nd) (KG (KH 3 uS.nd (KO ST hr fF (Kx (Ky 0) (Kx (KD KZ KC (Ky 2)) Kz))))
     (KG (KH 4 uS.nd (KN KW (KJ (Kx (KS (Kx KA Kz)) (Kx (KS (Kx KA (Kx (KS (Kx KA (Kx (KD KP (KD K5 (Ky 3) KC) KC) Kz))) (Kx (KS (Kx KA (Kx KC Kz))) Kz)))) Kz))) (KD KP (KD K5 (Ky 3) KC) KC)))
     (KI (KH 1 uS.nd (KN KW (KJ (Kx (KS (Kx KA (Kx (Ky 1) Kz))) (Kx (KS (Kx KA (Kx (Ky 1) (Kx (Ky 4) Kz)))) (Kx (KS (Kx KA (Kx (Ky 4) (Kx (Ky 1) Kz)))) (Kx (KS (Kx KA (Kx (Ky 1) Kz))) Kz))))) (KD KP (Ky 3) KC)))))))
     (KI (KQ (Ky 1)))),?_⟩
   refine ao fun Rk kR=>?_
   refine ⟨_,rfl,c,3020,rfl,by decide,by decide,fun r r0 r1=>⟨_,_,rfl,rfl,(by show (0:Int) < 12; decide),_,_,rfl,rfl,1 + r % 12,rfl,?_⟩⟩
   have m0:=ax (k:=r) (n:=12) (by decide)
   have m1:=az (k:=r) (n:=12) (by decide)
   refine ⟨by omega,by omega,?_⟩
   refine eJ (lo:=0) (n:=(1 + r % 12).toNat) (fun i σ Hx=>ak H Hx/\∃v e o3 o4 o5,σ=[some (.int c),some v,o3,o4,o5]/\eT Hx v e/\jG ns (d + i) (s0 + 68 * i) e) ⟨same_refl _,u,e,_,_,_,rfl,eu,wu⟩ (fun i σ Hx hi z=>?_) (fun σ Hx z=>?_)
   · obtain ⟨sx,v,e,o3,o4,o5,rfl,ev,we⟩:=z
     refine ah ?_
     refine au [some (.int c),some v,some (.int (0 + (i:Int))),o4,o5] rfl ?_
     refine ao fun Rj kj=>?_
     refine ⟨_,rfl,_,rfl,_,_,rfl,rfl,c,3021 + (0 + (i:Int)),rfl,by omega,by omega,fun k k0 k1=>?_⟩
     refine ah ?_
     refine kj _ _ ?_
     refine au [some (.int c),some v,some (.int (0 + (i:Int))),some (.int k),o5] rfl ?_
     refine ao fun Rj kj=>?_
     refine ⟨M4,fun b1 hb1=>?_⟩
     have t1:=af hb1 (.tup [.str "yes"])
     have g1:(upd Hx b1 (.tup [.str "yes"])) b1=some (.tup [.str "yes"]):=aa
     generalize upd Hx b1 (.tup [.str "yes"])=H1 at t1 g1 ⊢
     refine ⟨_,rfl,_,_,rfl,rfl,⟨by decide,by decide +kernel⟩,_,_,rfl,rfl,(by show (0:Int) < 9; decide),M5,fun b2 hb2=>?_⟩
     have h10:=ax (k:=k / 8) (n:=9) (by decide)
     have h11:=az (k:=k / 8) (n:=9) (by decide)
     obtain ⟨nn,enn⟩ : ∃nn,nn=k / 8 % 9:=⟨_,rfl⟩
     have enh:(upd H1 b2 (.tup [.str "number",.int (k / 8 % 9)]))=upd H1 b2 (.tup [.str "number",.int nn]):=by rw [enn]
     rw [← enn] at h10 h11
     have t2:=af hb2 (.tup [.str "number",.int (k / 8 % 9)])
     have g2:(upd H1 b2 (.tup [.str "number",.int (k / 8 % 9)])) b2=some (.tup [.str "number",.int nn]):=by rw [enh]; exact aa
     refine ⟨M5,fun b3 hb3=>?_⟩
     have t3:=af hb3 (.tup [.str "number",.int 4])
     have g3:=aa (H:=upd H1 b2 (.tup [.str "number",.int (k / 8 % 9)])) (a:=b3) (o:=.tup [.str "number",.int 4])
     have t23:=ae t2 t3
     have g2:=t3 _ _ g2
     generalize upd (upd H1 b2 (.tup [.str "number",.int (k / 8 % 9)])) b3 (.tup [.str "number",.int 4])=H3 at t23 g2 g3 ⊢
     clear t2 t3 enh
     refine ⟨M6,fun b4 hb4=>⟨M5,fun L hL=>?_⟩⟩
     have t4:=af hb4 (.tup [.str "under",.ref b2,.ref b3])
     have tL:=af hL (.lst [.ref b1,.ref b4])
     have g4:=tL _ _ (aa (H:=H3) (a:=b4) (o:=.tup [.str "under",.ref b2,.ref b3]))
     have gL:=aa (H:=upd H3 b4 (.tup [.str "under",.ref b2,.ref b3])) (a:=L) (o:=.lst [.ref b1,.ref b4])
     have t4L:=ae t4 tL
     generalize upd (upd H3 b4 (.tup [.str "under",.ref b2,.ref b3])) L (.lst [.ref b1,.ref b4])=H4 at t4L g4 gL ⊢
     clear t4 tL
     have g1:=t4L _ _ (t23 _ _ g1)
     have g2:=t4L _ _ g2
     have g3:=t4L _ _ g3
     have s4:=ae t1 (ae t23 t4L)
     refine ⟨_,rfl,_,_,rfl,rfl,⟨by decide,by decide +kernel⟩,_,_,rfl,rfl,(by show (0:Int) < 2; decide),?_⟩
     obtain ⟨m,hat,em,em5,wm⟩:=AA (xs:=[.ref b1,.ref b4]) (ax (k:=k / 4) (n:=2) (by decide)) (az (by decide)) (fun w=>∃e9:TW.E,eT H4 w e9/\jG ns 1 68 e9) rfl
       ⟨.yes,⟨b1,rfl,g1⟩,⟨GD,GD,Gs _,by decide⟩⟩ ⟨.two .under (.num nn) (.num 4),⟨_,_,⟨b4,rfl,g4⟩,⟨b2,rfl,g2⟩,⟨b3,rfl,g3⟩⟩,⟨⟨GD,GD⟩,⟨⟨h10,qH (by omega)⟩,⟨by decide,by decide⟩⟩,by show max 0 0 + 1<=1; decide,by show 31 + 31 + 3 + 3<=68; decide⟩⟩
     refine ⟨L,_,_,_,rfl,rfl,aw.of gL,hat,?_⟩
     refine ah ?_
     refine kj _ _ ?_
     refine au [some (.int c),some v,some (.int (0 + (i:Int))),some (.int k),some m] rfl ?_
     have ev5:=ev.keep (ak.tk s4)
     clear g1 g2 g3 g4 gL hat t1 t23 t4L hb1 hb2 hb3 hb4 hL
     refine ⟨_,rfl,M5,fun a1 ha1=>⟨_,rfl,_,rfl,M6,fun a2 ha2=>⟨_,rfl,_,rfl,M6,fun a3 ha3=>⟨_,rfl,M5,fun a4 ha4=>⟨M7,fun L hL=>?_⟩⟩⟩⟩⟩
     have t1:=af ha1 (.tup [.str "not",v])
     have t2:=af ha2 (.tup [.str "both",v,m])
     have t3:=af ha3 (.tup [.str "both",m,v])
     have t4:=af ha4 (.tup [.str "not",v])
     have tL:=af hL (.lst [.ref a1,.ref a2,.ref a3,.ref a4])
     have y4:=ae t4 tL
     have y3:=ae t3 y4
     have y2:=ae t2 y3
     have y1:=ae t1 y2
     have g1:=y2 _ _ (aa (H:=H4) (a:=a1) (o:=.tup [.str "not",v]))
     have g2:=y3 _ _ (aa (a:=a2) (o:=.tup [.str "both",v,m]))
     have g3:=y4 _ _ (aa (a:=a3) (o:=.tup [.str "both",m,v]))
     have g4:=tL _ _ (aa (a:=a4) (o:=.tup [.str "not",v]))
     refine ⟨_,rfl,_,_,rfl,rfl,(by show (0:Int) < 4; decide),?_⟩
     have gL:=aa (H:=(upd (upd (upd (upd H4 a1 (.tup [.str "not",v])) a2 (.tup [.str "both",v,m])) a3 (.tup [.str "both",m,v])) a4 (.tup [.str "not",v]))) (a:=L) (o:=.lst [.ref a1,.ref a2,.ref a3,.ref a4])
     generalize (upd (upd (upd (upd (upd H4 a1 (.tup [.str "not",v])) a2 (.tup [.str "both",v,m])) a3 (.tup [.str "both",m,v])) a4 (.tup [.str "not",v])) L (.lst [.ref a1,.ref a2,.ref a3,.ref a4]))=H9 at g1 g2 g3 g4 gL y1 ⊢
     have ev9:=ev5.keep (ak.tk y1)
     have em9:=em5.keep (ak.tk y1)
     have h1:=we.dp
     have h2:em.dep<=1:=wm.dp
     have h3:=we.sz
     have h4:em.sz + 3<=68:=wm.sz
     have z1:jG ns (d + (i + 1)) (s0 + 68 * (i + 1)) (.nt e):=⟨we.is,we.ok,by show e.dep + 1<=_; omega,by show e.sz + 1 + 3<=_; omega⟩
     have z2:jG ns (d + (i + 1)) (s0 + 68 * (i + 1)) (.two .both e em):=⟨⟨we.is,wm.is⟩,⟨we.ok,wm.ok⟩,by show max e.dep em.dep + 1<=_; omega,by show e.sz + em.sz + 3 + 3<=_; omega⟩
     have z3:jG ns (d + (i + 1)) (s0 + 68 * (i + 1)) (.two .both em e):=⟨⟨wm.is,we.is⟩,⟨wm.ok,we.ok⟩,by show max em.dep e.dep + 1<=_; omega,by show em.sz + e.sz + 3 + 3<=_; omega⟩
     obtain ⟨w9,hat,e9,ev',we'⟩:=yw (xs:=[.ref a1,.ref a2,.ref a3,.ref a4]) (ax (k:=k) (n:=4) (by decide)) (az (by decide)) (fun w=>∃e9:TW.E,eT H9 w e9/\jG ns (d + (i + 1)) (s0 + 68 * (i + 1)) e9) rfl
       ⟨.nt e,⟨v,⟨a1,rfl,g1⟩,ev9⟩,z1⟩ ⟨.two .both e em,⟨v,m,⟨a2,rfl,g2⟩,ev9,em9⟩,z2⟩ ⟨.two .both em e,⟨m,v,⟨a3,rfl,g3⟩,em9,ev9⟩,z3⟩ ⟨.nt e,⟨v,⟨a4,rfl,g4⟩,ev9⟩,z1⟩
     refine ⟨L,_,_,_,rfl,rfl,aw.of gL,hat,?_⟩
     exact ⟨ae sx (ae s4 y1),w9,e9,_,_,_,rfl,ev',we'⟩
   obtain ⟨sx,v,e,o3,o4,o5,rfl,ev,we⟩:=z
   refine kR _ _ ?_
   refine ⟨_,rfl,q v e Hx sx ev ⟨we.is,we.ok,?_,?_⟩⟩
   · have:=we.dp
     omega
   · have:=we.sz
     omega
theorem zj (s:Src K mg "_law_grown_condition" sGC)(m_range:mg "range"=none)(ST:aY P w K mg base "_law_stir" ["cell","k"] 1 aP):aY P w K mg base "_law_grown_condition" ["cell","told"] 2 xY:=
 let ⟨f,fd,F,m⟩:=s
 ⟨f,fd,Cd F m_range ST,F.kp,jr F fun _ _ _ _ _ _ _ _=>rfl,m⟩
abbrev dkL:List (Key×V):=[(.inr "plus",.str "+"),(.inr "less",.str "-"),(.inr "same",.str "="),(.inr "under",.str "<"),(.inr "both",.str "&")]
theorem sign_of (k:K2):gO dkL (.inr k.str)=some (.str k.sign):=by cases k <;> rfl
theorem B1 (k:K2):JI "+-" k.sign=(match k with | .plus=>true | .less=>true | _=>false):=by cases k <;> decide +kernel
def lH (n:Nat):Sp:=fun vs H Q _=>∃(v:V) (e:E),vs=[v]/\eT H v e/\(rT n e\/rS n e)/\∀H',ak H H'->Q (.str e.txt) H'
theorem wH {f:Addr}{fd:FuncData}:aN P w K mg base CX0 1 f fd ["thing"] (lH 0):=by
 have no:∀vs H Q E,¬ lH 0 vs H Q E:=fun vs H Q E h=>by
   obtain ⟨v,e,_,_,h,_⟩:=h
   rcases h with ⟨_,_,_,h⟩ | ⟨_,_,_,h⟩ <;> omega
 exact ⟨fun vs H Q E h=>absurd h (no vs H Q E),fun A outer s H args us vs Q E _ _ _ _ h=>absurd h (no vs H Q E)⟩
theorem AU:ay ["thing","sign","word"] ["thing"] (ag sLW):=⟨rfl,rfl,rfl,by decide +kernel,rfl,by decide +kernel,by decide +kernel⟩
theorem dy:(ag sLW).names.lookup (F1 "_law_word")=some .globalImplicit:=by decide +kernel
theorem vU:(ag sLW).names.lookup (F1 "int")=some .globalImplicit:=by decide +kernel
theorem vV:(ag sLW).names.lookup (F1 "str")=some .globalImplicit:=by decide +kernel
theorem Cf {n:Nat}{f:Addr}{fd:FuncData}(F:cf K "_law_word" "_law_word" sLW f fd)(m_str:mg "str"=none)(m_int:mg "int"=none)(G:aY P w K mg base "_law_word" ["thing"] (n + 1) (lH n)):aN P w K mg base CX0 (n + 1 + 1) f fd ["thing"] (lH (n + 1)):=by
 refine F.ok AU (fun vs H Q E h=>?_) (fun cdv A outer s H vs Q E hr h=>?_)
 · obtain ⟨v,e,rfl,_⟩:=h
   rfl
 · obtain ⟨v,e,rfl,ev,we,q⟩:=h
   refine eV ⟨_,(KG (KR (KL L3.zL (KN K8 (Ky 0) KC) (KS (Kx KA (Kx KA Kz))) (by rfl)) (KI (KQ (Lh Lz vV m_str (by decide +kernel) (Kx (KN K8 (Ky 0) KC) Kz)))) KY)
     (KG (KR (KL K0 (KN K8 (Ky 0) KC) KA) (KI (KQ KA)) KY)
     (KG (KR (KL K0 (KN K8 (Ky 0) KC) KA) (KI (KQ (KD La KA (KO G hr dy (Kx (KN K8 (Ky 0) KC) Kz))))) KY)
     (KG (KH 1 AU.nd (L3.DZ (cy hr _ (by decide)) (L3.za (Le KA KA (Le KA KA (Le KA KA (Le KA KA (Le KA KA L3.D3)))))) (KN K8 (Ky 0) KC)))
     (KG (KH 2 AU.nd (KD La (KD La (KO G hr dy (Kx (KN K8 (Ky 0) KC) Kz)) (Ky 1)) (KO G hr dy (Kx (KN K8 (Ky 0) KC) Kz))))
     (KG (KR (KL K0 (KN K8 (Ky 0) KC) KA) (KI (KQ (KD La (KD La KA (Ky 2)) KA))) KY)
     (KI (KQ (KN KW (KJ (Kx (Ky 2) (Kx (KD La (KD La KA (Ky 2)) KA) Kz))) (Lh L3.BP vU m_int (by decide +kernel) (Kx (L3.y7 L3.t6 (Ky 1) KA (by rfl)) Kz))))))))))),?_⟩
   match e,ev,we,q with
   | .num i,ev,we,q=>
     obtain ⟨p,rfl,hp⟩:=ev
     have ok:i.natAbs < 2 ^ 100:=by rcases we with ⟨_,h,_,_⟩ | ⟨_,h,_,_⟩ <;> exact nZ h
     refine ao fun Rk kR=>?_
     refine ⟨_,rfl,p,_,_,_,rfl,rfl,bc.of hp,rfl,M5,fun tt htt=>⟨tt,_,rfl,.inr (bc.of aa),rfl,rfl,_,rfl,bE ?_⟩⟩
     have s1:=af htt (.tup [.str "number",.str "box"])
     generalize upd H tt (.tup [.str "number",.str "box"])=H1 at s1 ⊢
     have hp1:=s1 _ _ hp
     exact ⟨_,rfl,p,_,_,_,rfl,rfl,bc.of hp1,rfl,.inl ⟨i,rfl,Ih (d6 ok) (by decide),q _ s1⟩⟩
   | .box tg x,ev,we,q=>
     obtain ⟨p,rfl,hp⟩:=ev
     obtain ⟨rfl,_⟩ : tg="box"/\dU x:=by rcases we with ⟨_,h,_,_⟩ | ⟨_,h,_,_⟩ <;> exact h
     refine ao fun Rk kR=>?_
     refine ⟨_,rfl,p,_,_,_,rfl,rfl,bc.of hp,rfl,M5,fun tt htt=>⟨tt,_,rfl,.inr (bc.of aa),rfl,rfl,_,rfl,bE ?_⟩⟩
     have s1:=af htt (.tup [.str "number",.str "box"])
     generalize upd H tt (.tup [.str "number",.str "box"])=H1 at s1 ⊢
     have hp1:=s1 _ _ hp
     exact ⟨_,rfl,p,_,_,_,rfl,rfl,bc.of hp1,rfl,.inr ⟨x,rfl,q _ s1⟩⟩
   | .yes,ev,we,q=>
     obtain ⟨p,rfl,hp⟩:=ev
     refine ao fun Rk kR=>?_
     refine ⟨_,rfl,p,_,_,_,rfl,rfl,bc.of hp,rfl,M5,fun tt htt=>⟨tt,_,rfl,.inr (bc.of aa),rfl,rfl,_,rfl,bD ?_⟩⟩
     have s1:=af htt (.tup [.str "number",.str "box"])
     generalize upd H tt (.tup [.str "number",.str "box"])=H1 at s1 ⊢
     have hp1:=s1 _ _ hp
     refine kR _ _ ?_
     refine ao fun Rk kR=>?_
     refine ⟨_,rfl,p,_,_,_,rfl,rfl,bc.of hp1,rfl,rfl,_,rfl,bE ?_⟩
     exact q _ s1
   | .nt a,ev,we,q=>
     obtain ⟨x,⟨p,rfl,hp⟩,ex⟩:=ev
     have wx:rS n a:=by
       rcases we with ⟨h,_,_,_⟩ | ⟨h1,h2,h3,h4⟩
       · exact h.elim
       · exact ⟨h1,h2,by have:a.sz + 1<=4000:=h3; omega,by have:a.dep + 1 < n + 1:=h4; omega⟩
     have lx:=wx.len
     refine ao fun Rk kR=>?_
     refine ⟨_,rfl,p,_,_,_,rfl,rfl,bc.of hp,rfl,M5,fun tt htt=>⟨tt,_,rfl,.inr (bc.of aa),rfl,rfl,_,rfl,bD ?_⟩⟩
     have s1:=af htt (.tup [.str "number",.str "box"])
     generalize upd H tt (.tup [.str "number",.str "box"])=H1 at s1 ⊢
     have hp1:=s1 _ _ hp
     refine kR _ _ ?_
     refine ao fun Rk kR=>?_
     refine ⟨_,rfl,p,_,_,_,rfl,rfl,bc.of hp1,rfl,rfl,_,rfl,bD ?_⟩
     refine kR _ _ ?_
     refine ao fun Rk kR=>?_
     refine ⟨_,rfl,p,_,_,_,rfl,rfl,bc.of hp1,rfl,rfl,_,rfl,bE ?_⟩
     refine ⟨_,rfl,p,_,_,_,rfl,rfl,bc.of hp1,rfl,x,a,rfl,ex.keep (ak.tk s1),.inr wx,fun H2 s2=>⟨"!",a.txt,rfl,rfl,fit (by have:(("!":Str)).length=1:=rfl; omega),?_⟩⟩
     exact q _ (ae s1 s2)
   | .two k a b,ev,we,q=>
     obtain ⟨x,y,⟨p,rfl,hp⟩,ex,ey⟩:=ev
     have wxy:(rT n a\/rS n a)/\(rT n b\/rS n b):=by
       rcases we with ⟨h1,h2,h3,h4⟩ | ⟨h1,h2,h3,h4⟩
       · have h3:a.sz + b.sz + 3<=4000:=h3
         have h4:max a.dep b.dep + 1 < n + 1:=h4
         cases k <;> first | exact h1.elim | exact ⟨.inl ⟨h1.1,h2.1,by omega,by omega⟩,.inl ⟨h1.2,h2.2,by omega,by omega⟩⟩
       · have h3:a.sz + b.sz + 3<=4000:=h3
         have h4:max a.dep b.dep + 1 < n + 1:=h4
         cases k <;> first | exact h1.elim | exact ⟨.inl ⟨h1.1,h2.1,by omega,by omega⟩,.inl ⟨h1.2,h2.2,by omega,by omega⟩⟩ | exact ⟨.inr ⟨h1.1,h2.1,by omega,by omega⟩,.inr ⟨h1.2,h2.2,by omega,by omega⟩⟩
     obtain ⟨wx,wy⟩:=wxy
     have lx:a.txt.length<=4000:=wx.elim (·.len) (·.len)
     have ly:b.txt.length<=4000:=wy.elim (·.len) (·.len)
     have lk:k.sign.length=1:=by cases k <;> rfl
     refine ao fun Rk kR=>?_
     refine ⟨_,rfl,p,_,_,_,rfl,rfl,bc.of hp,rfl,M5,fun tt htt=>⟨tt,_,rfl,.inr (bc.of aa),rfl,rfl,_,rfl,aE (fun c=>absurd c (by cases k <;> decide)) (fun _=>?_)⟩⟩
     have s1:=af htt (.tup [.str "number",.str "box"])
     generalize upd H tt (.tup [.str "number",.str "box"])=H1 at s1 ⊢
     have hp1:=s1 _ _ hp
     refine kR _ _ ?_
     refine ao fun Rk kR=>?_
     refine ⟨_,rfl,p,_,_,_,rfl,rfl,bc.of hp1,rfl,rfl,_,rfl,aE (fun c=>absurd c (by cases k <;> decide)) (fun _=>?_)⟩
     refine kR _ _ ?_
     refine ao fun Rk kR=>?_
     refine ⟨_,rfl,p,_,_,_,rfl,rfl,bc.of hp1,rfl,rfl,_,rfl,aE (fun c=>absurd c (by cases k <;> decide)) (fun _=>?_)⟩
     refine kR _ _ ?_
     refine ao fun Rk kR=>?_
     refine fun od hod=>⟨aa,[(.inr "plus",.str "+"),(.inr "less",.str "-"),(.inr "same",.str "="),(.inr "under",.str "<"),(.inr "both",.str "&")],rfl,(by show 5<=15; decide),?_⟩
     have s2:ak H1 (upd (upd H1 od (.dK [])) od (.dK (aU [] [(.inr "plus",.str "+"),(.inr "less",.str "-"),(.inr "same",.str "="),(.inr "under",.str "<"),(.inr "both",.str "&")]))):=aG (af hod _) hod
     have g2:(upd (upd H1 od (.dK [])) od (.dK (aU [] [(.inr "plus",.str "+"),(.inr "less",.str "-"),(.inr "same",.str "="),(.inr "under",.str "<"),(.inr "both",.str "&")]))) od=some (.dK [(.inr "plus",.str "+"),(.inr "less",.str "-"),(.inr "same",.str "="),(.inr "under",.str "<"),(.inr "both",.str "&")]):=aa
     generalize upd (upd H1 od (.dK [])) od (.dK (aU [] [(.inr "plus",.str "+"),(.inr "less",.str "-"),(.inr "same",.str "="),(.inr "under",.str "<"),(.inr "both",.str "&")]))=H2 at s2 g2 ⊢
     have hp2:=s2 _ _ hp1
     have gd:=jq.k (k:=.inr k.str) g2
     rw [sign_of k] at gd
     refine ⟨_,rfl,p,_,_,_,rfl,rfl,bc.of hp2,rfl,od,_,rfl,gd,?_⟩
     refine ah ?_
     refine kR _ _ ?_
     have s12:=ae s1 s2
     refine au [some (.ref p),some (.str k.sign),none] rfl ?_
     refine ao fun Rk kR=>?_
     refine ⟨_,rfl,p,_,_,_,rfl,rfl,bc.of hp2,rfl,x,a,rfl,ex.keep (ak.tk s12),wx,fun H3 s3=>⟨_,rfl,_,_,rfl,rfl,fit (by omega),?_⟩⟩
     have l1:(a.txt++k.sign).length<=38401:=by rw [strLen_append]; omega
     refine ⟨_,rfl,p,_,_,_,rfl,rfl,bc.of (s3 _ _ hp2),rfl,y,b,rfl,ey.keep (ak.tk (ae s12 s3)),wy,fun H4 s4=>⟨_,_,rfl,rfl,fit (by omega),?_⟩⟩
     have l2:(a.txt++k.sign++b.txt).length<=76801:=by rw [strLen_append]; omega
     refine ah ?_
     refine kR _ _ ?_
     refine au [some (.ref p),some (.str k.sign),some (.str (a.txt++k.sign++b.txt))] rfl ?_
     have s14:=ae s12 (ae s3 s4)
     have hp4:=s4 _ _ (s3 _ _ hp2)
     refine ao fun Rk kR=>?_
     refine ⟨_,rfl,p,_,_,_,rfl,rfl,bc.of hp4,rfl,rfl,_,rfl,?_⟩
     have e1:(("{":Str)).length=1:=rfl
     have e3:(("}":Str)).length=1:=rfl
     have e4:(("(":Str)).length=1:=rfl
     have e5:((")":Str)).length=1:=rfl
     have l3:("("++(a.txt++k.sign++b.txt)).length<=76802:=by rw [strLen_append]; omega
     have l4:("{"++(a.txt++k.sign++b.txt)).length<=76802:=by rw [strLen_append]; omega
     clear ex ey wx wy gd g2 hp hp1 hp2
     have hc:=B1 k
     cases k with
     | both=>
       refine bE ?_
       refine ⟨_,rfl,"{",_,rfl,rfl,fit (by omega),_,_,rfl,rfl,fit (by omega),?_⟩
       exact q _ s14
     | _=>
       refine bD ?_
       refine kR _ _ ?_
       refine ⟨_,rfl,_,rfl,"(",_,rfl,rfl,fit (by omega),_,_,rfl,rfl,fit (by omega),M5,fun L hL=>?_⟩
       refine ⟨_,rfl,_,"+-",rfl,rfl,.inr ⟨_,rfl,?_⟩⟩
       rw [hc]
       refine ⟨L,_,_,_,rfl,rfl,aw.of aa,rfl,?_⟩
       exact q _ (av s14 hL)
theorem zl (s:Src K mg "_law_word" sLW)(m_str:mg "str"=none)(m_int:mg "int"=none):∀n:Nat,aY P w K mg base "_law_word" ["thing"] (n + 1) (lH n):=by
 obtain ⟨f,fd,F,m⟩:=s
 have b:Binds K fd ["thing"] []:=gf F fun _ _ _ _ _ _ _=>rfl
 intro n
 have all:aN P w K mg base CX0 (n + 1) f fd ["thing"] (lH n):=by
   induction n with
   | zero=>exact wH
   | succ n ih=>exact Cf F m_str m_int ⟨f,fd,ih,F.kp,b,m⟩
 exact ⟨f,fd,all,F.kp,b,m⟩
end
end TW
set_option Elab.async false
set_option linter.all false
set_option maxRecDepth 100000
set_option exponentiation.threshold 4000
set_option maxHeartbeats 1000000
namespace TW
open PySem L2
section
variable {P:Program}{w:World}{K:FX}{mg:Str->Option Value}{base:Heap}
abbrev sAS:Stmt:=top 54
abbrev sAC:Stmt:=top 55
abbrev sNode:Stmt:=top 56
/-! ### any sum,any condition -/
theorem jH.up {ns:List Str}{d s d' s':Nat}{e:E}(h:jH ns d s e)(h1:d<=d')(h2:s<=s'):jH ns d' s' e:=⟨h.is,h.ok,F2 h.dp h1,F2 h.sz h2⟩
theorem jG.up {ns:List Str}{d s d' s':Nat}{e:E}(h:jG ns d s e)(h1:d<=d')(h2:s<=s'):jG ns d' s' e:=⟨h.is,h.ok,F2 h.dp h1,F2 h.sz h2⟩
theorem uC {a b:Nat}(h:a<=b):2 ^ a<=2 ^ b:=Nat.pow_le_pow_right (by decide) h
def xX:Sp:=fun vs H Q _=>∃(c:Int) (nl:Addr) (m:Int) (ns:List Str),vs=[.int c,.ref nl,.int m]/\Nm H nl ns/\0<=m/\∀(v:V) (e:E) (H':Hp),ak H H'->eT H' v e->jH ns 18 782 e->Q v H'
def xW:Sp:=fun vs H Q _=>∃(c:Int) (nl:Addr) (m:Int) (ns:List Str),vs=[.int c,.ref nl,.int m]/\Nm H nl ns/\0<=m/\∀(v:V) (e:E) (H':Hp),ak H H'->eT H' v e->jG ns 19 3000 e->Q v H'
theorem AQ:ay ["cell","names","number","told"] ["cell","names","number"] (ag sAS):=⟨rfl,rfl,rfl,by decide +kernel,rfl,by decide +kernel,by decide +kernel⟩
theorem fE:(ag sAS).names.lookup (F1 "_law_grown_sum")=some .globalImplicit:=by decide +kernel
theorem l9:(ag sAS).names.lookup (F1 "_law_sum")=some .globalImplicit:=by decide +kernel
theorem Cc {f:Addr}{fd:FuncData}(F:cf K "_law_any_sum" "_law_any_sum" sAS f fd)(SM:aY P w K mg base "_law_sum" ["cell","k","names","deep"] 7 (dI 4))(GS0:aY P w K mg base "_law_grown_sum" ["cell","told","names"] 2 rF):aN P w K mg base CX0 8 f fd ["cell","names","number"] xX:=by
 refine F.ok AQ (fun vs H Q E h=>?_) (fun cdv A outer s H vs Q E hr h=>?_)
 · obtain ⟨c,nl,m,ns,rfl,_⟩:=h
   rfl
 · obtain ⟨c,nl,m,ns,rfl,D,m0,q⟩:=h
   have GS:=GS0.mono (show 2<=7 by decide)
   refine eV ⟨_,(KG (KH 3 AQ.nd (KO SM hr l9 (Kx (Ky 0) (Kx KC (Kx (Ky 1) (Kx (KD KP (Ky 2) KC) Kz))))))
     (KG (KR (KL K0 (KD KP (KD K5 (Ky 2) KC) KC) KC) (KI (KH 3 AQ.nd (KO GS hr fE (Kx (Ky 0) (Kx (Ky 3) (Kx (Ky 1) Kz)))))) KY)
     (KI (KQ (Ky 3))))),?_⟩
   have d0:=ax (k:=m) (n:=4) (by decide)
   have d1:=az (k:=m) (n:=4) (by decide)
   refine ao fun Rk kR=>?_
   refine ⟨_,rfl,_,rfl,_,rfl,_,_,rfl,rfl,(by show (0:Int) < 4; decide),c,10,nl,m % 4,ns,rfl,D,by decide,by decide,d0,d1,fun v e H1 s1 ev we=>?_⟩
   have we:jH ns 3 272 e:=we.up (by omega) (Nat.mul_le_mul_left 34 (uC (b:=3) (by omega)))
   refine ah ?_
   refine kR _ _ ?_
   refine au [some (.int c),some (.ref nl),some (.int m),some v] rfl ?_
   refine ao fun Rk kR=>?_
   refine ⟨_,rfl,_,_,rfl,rfl,⟨by decide,by decide +kernel⟩,_,_,rfl,rfl,(by show (0:Int) < 4; decide),rfl,_,rfl,?_⟩
   refine aE (fun _=>?_) (fun _=>kR _ _ ?_)
   · refine ⟨_,rfl,_,rfl,_,rfl,c,v,nl,ns,e,3,272,rfl,D.go s1,ev,we,fun v2 e2 H2 s2 ev2 we2=>?_⟩
     refine ah ?_
     refine kR _ _ ?_
     exact ⟨_,rfl,q v2 e2 H2 (ae s1 s2) ev2 we2⟩
   exact ⟨_,rfl,q v e H1 s1 ev (we.up (by decide) (by decide))⟩
theorem zi (s:Src K mg "_law_any_sum" sAS)(SM:aY P w K mg base "_law_sum" ["cell","k","names","deep"] 7 (dI 4))(GS0:aY P w K mg base "_law_grown_sum" ["cell","told","names"] 2 rF):aY P w K mg base "_law_any_sum" ["cell","names","number"] 8 xX:=
 let ⟨f,fd,F,m⟩:=s
 ⟨f,fd,Cc F SM GS0,F.kp,pX F fun _ _ _ _ _ _ _ _ _=>rfl,m⟩
theorem rA:ay ["cell","names","number","told","one"] ["cell","names","number"] (ag sAC):=⟨rfl,rfl,rfl,by decide +kernel,rfl,by decide +kernel,by decide +kernel⟩
theorem fC:(ag sAC).names.lookup (F1 "_law_condition")=some .globalImplicit:=by decide +kernel
theorem df:(ag sAC).names.lookup (F1 "_law_grown_condition")=some .globalImplicit:=by decide +kernel
theorem fD:(ag sAC).names.lookup (F1 "_law_grown_sum")=some .globalImplicit:=by decide +kernel
theorem gP:(ag sAC).names.lookup (F1 "_law_sum")=some .globalImplicit:=by decide +kernel
theorem Cb {f:Addr}{fd:FuncData}(F:cf K "_law_any_condition" "_law_any_condition" sAC f fd)(SM0:aY P w K mg base "_law_sum" ["cell","k","names","deep"] 7 (dI 4))(GS0:aY P w K mg base "_law_grown_sum" ["cell","told","names"] 2 rF)(CO:aY P w K mg base "_law_condition" ["cell","k","names","deep"] 11 (eC 4))(GC0:aY P w K mg base "_law_grown_condition" ["cell","told"] 2 xY):aN P w K mg base CX0 12 f fd ["cell","names","number"] xW:=by
 refine F.ok rA (fun vs H Q E h=>?_) (fun cdv A outer s H vs Q E hr h=>?_)
 · obtain ⟨c,nl,m,ns,rfl,_⟩:=h
   rfl
 · obtain ⟨c,nl,m,ns,rfl,D,m0,q⟩:=h
   have GS:=GS0.mono (show 2<=11 by decide)
   have GC:=GC0.mono (show 2<=11 by decide)
   have SM:=SM0.mono (show 7<=11 by decide)
   refine eV ⟨_,(KG (KH 3 rA.nd (KO CO hr fC (Kx (Ky 0) (Kx KC (Kx (Ky 1) (Kx (KD KP (Ky 2) KC) Kz))))))
     (KG (KR (KL K0 (KD KP (KD K5 (Ky 2) KC) KC) KC) (KI (KH 3 rA.nd (KO GC hr df (Kx (Ky 0) (Kx (Ky 3) Kz))))) KY)
     (KG (KR (KL K0 (KD KP (KD K5 (Ky 2) KC) KC) KC) (KG (KH 4 rA.nd (KO GS hr fD (Kx (Ky 0) (Kx (KO SM hr gP (Kx (Ky 0) (Kx KC (Kx (Ky 1) (Kx KC Kz))))) (Kx (Ky 1) Kz)))))
     (KI (KH 3 rA.nd (KS (Kx (KN KW (KJ (Kx KA (Kx KA Kz))) (KD KP (KD K5 (Ky 2) KC) KC)) (Kx (Ky 4) (Kx (KO SM hr gP (Kx (Ky 0) (Kx KC (Kx (Ky 1) (Kx KC Kz))))) Kz))))))) KY)
     (KG (KR (KL K0 (KD KP (KD K5 (Ky 2) KC) KC) KC) (KI (KH 3 rA.nd (KS (Kx KA (Kx (KS (Kx (KN K8 (Ky 3) KC) (Kx (KN K8 (Ky 3) KC) (Kx (KN K8 (Ky 3) KC) Kz)))) Kz))))) KY)
     (KI (KQ (Ky 3))))))),?_⟩
   have d0:=ax (k:=m) (n:=4) (by decide)
   have d1:=az (k:=m) (n:=4) (by decide)
   refine ao fun Rk kR=>?_
   refine ⟨_,rfl,_,rfl,_,rfl,_,_,rfl,rfl,(by show (0:Int) < 4; decide),c,10,nl,m % 4,ns,rfl,D,by decide,by decide,d0,d1,fun v e H1 s1 ev we=>?_⟩
   have we:jG ns 6 2176 e:=we.up (by omega) (Nat.mul_le_mul_left 272 (uC (b:=3) (by omega)))
   refine ah ?_
   refine kR _ _ ?_
   refine au [some (.int c),some (.ref nl),some (.int m),some v,none] rfl ?_
   refine ao fun Rk kR=>?_
   refine ⟨_,rfl,_,_,rfl,rfl,⟨by decide,by decide +kernel⟩,_,_,rfl,rfl,(by show (0:Int) < 4; decide),rfl,_,rfl,?_⟩
   suffices hs:∀(v:V) (e:TW.E) (H1:Hp),ak H H1->eT H1 v e->jG ns 19 2992 e->Rk [some (.int c),some (.ref nl),some (.int m),some v,none] H1 by
     refine aE (fun _=>?_) (fun _=>hs v e H1 s1 ev (we.up (by decide) (by decide)))
     refine ⟨_,rfl,_,rfl,c,v,ns,e,6,2176,rfl,ev,we,by decide,fun v2 e2 H2 s2 ev2 we2=>?_⟩
     refine ah ?_
     exact hs v2 e2 H2 (ae s1 s2) ev2 (we2.up (by decide) (by decide))
   intro v e H1 s1 ev we
   refine kR _ _ ?_
   refine ao fun Rk kR=>?_
   refine ⟨_,rfl,_,_,rfl,rfl,⟨by decide,by decide +kernel⟩,_,_,rfl,rfl,(by show (0:Int) < 4; decide),rfl,_,rfl,?_⟩
   suffices hs:∀(v:V) (e:TW.E) (H1:Hp) (o4:Option V),ak H H1->eT H1 v e->jG ns 19 2992 e->(m / 4 % 4=1->∃k a b,e=.two k a b/\(k=.same\/k=.under)/\e.sz + 3<=782/\e.dep<=18)->Rk [some (.int c),some (.ref nl),some (.int m),some v,o4] H1 by
     refine aE (fun _=>?_) (fun cz=>hs v e H1 none s1 ev we (fun z=>absurd (decide_eq_true (congrArg V.int z)) cz))
     refine ao fun Rk kR=>?_
     refine ⟨_,rfl,_,rfl,_,rfl,c,500,nl,2,ns,rfl,D.go s1,by decide,by decide,by decide,by decide,fun v2 e2 H2 s2 ev2 w2=>?_⟩
     have w2:jH ns 2 136 e2:=w2
     refine ⟨_,rfl,c,v2,nl,ns,e2,2,136,rfl,D.go (ae s1 s2),ev2,w2,fun v3 e3 H3 s3 ev3 w3=>?_⟩
     refine ah ?_
     refine kR _ _ ?_
     refine au [some (.int c),some (.ref nl),some (.int m),some v,some v3] rfl ?_
     refine ⟨M5,fun L hL=>?_⟩
     have sL:ak H3 (upd H3 L (.lst [.str "same",.str "under"])):=af hL _
     have gL:(upd H3 L (.lst [.str "same",.str "under"])) L=some (.lst [.str "same",.str "under"]):=aa
     generalize upd H3 L (.lst [.str "same",.str "under"])=H4 at sL gL ⊢
     refine ⟨_,rfl,_,_,rfl,rfl,⟨by decide,by decide +kernel⟩,_,_,rfl,rfl,(by show (0:Int) < 2; decide),?_⟩
     obtain ⟨kk,hat,hkk⟩:=uA (a:=.same) (b:=.under) (ax (k:=m / 16) (n:=2) (by decide)) (az (by decide))
     refine ⟨L,_,_,_,rfl,rfl,aw.of gL,hat,_,rfl,_,rfl,_,rfl,c,600,nl,2,ns,rfl,D.go (ae s1 (ae s2 (ae s3 sL))),by decide,by decide,by decide,by decide,fun v5 e5 H5 s5 ev5 w5=>⟨M6,fun p hp=>?_⟩⟩
     have w5:jH ns 2 136 e5:=w5
     have sp:=av (ae sL s5) (o:=.tup [.str kk.str,v3,v5]) hp
     have x1:=w3.dp
     have x2:=w3.sz
     have x3:=w5.dp
     have x4:=w5.sz
     have xd:(TW.E.two kk e3 e5).dep<=18:=by show max e3.dep e5.dep + 1<=18; omega
     have xs:(TW.E.two kk e3 e5).sz + 3<=782:=by show e3.sz + e5.sz + 3 + 3<=782; omega
     refine ah ?_
     refine hs (.ref p) (.two kk e3 e5) _ (some v3) (ae (ae s1 (ae s2 s3)) sp) ⟨v3,v5,⟨p,rfl,aa⟩,ev3.keep (ak.tk sp),ev5.keep (jn hp _)⟩ ⟨?_,⟨w3.ok,w5.ok⟩,by omega,by omega⟩ (fun _=>⟨kk,e3,e5,rfl,hkk,xs,xd⟩)
     rcases hkk with rfl | rfl <;> exact ⟨w3.is,w5.is⟩
   intro v e H1 o4 s1 ev we hm
   refine kR _ _ ?_
   refine ao fun Rk kR=>?_
   refine ⟨_,rfl,_,_,rfl,rfl,⟨by decide,by decide +kernel⟩,_,_,rfl,rfl,(by show (0:Int) < 8; decide),rfl,_,rfl,?_⟩
   refine aE (fun c5=>?_) (fun _=>kR _ _ ⟨_,rfl,q v e H1 s1 ev (we.up (by decide) (by decide))⟩)
   have c5:=zt c5
   obtain ⟨k,a,b,rfl,hk,xs,xd⟩:=hm (by omega)
   obtain ⟨x,y,⟨p,rfl,hp⟩,ex,ey⟩:=ev
   refine ⟨_,rfl,p,_,_,_,rfl,rfl,bc.of hp,rfl,_,rfl,p,_,_,_,rfl,rfl,bc.of hp,rfl,_,rfl,p,_,_,_,rfl,rfl,bc.of hp,rfl,M6,fun p2 hp2=>⟨M5,fun p3 hp3=>?_⟩⟩
   have t2:=af hp2 (.tup [.str k.str,y,x])
   have t3:=af hp3 (.tup [.str "not",.ref p2])
   have t23:=ae t2 t3
   refine ah ?_
   refine kR _ _ ?_
   refine ⟨_,rfl,q (.ref p3) (.nt (.two k b a)) _ (ae s1 t23) ⟨.ref p2,⟨p3,rfl,aa⟩,y,x,⟨p2,rfl,t3 _ _ aa⟩,ey.keep (ak.tk t23),ex.keep (ak.tk t23)⟩ ⟨?_,⟨we.ok.2,we.ok.1⟩,?_,?_⟩⟩
   · have is:=we.is
     rcases hk with rfl | rfl <;> exact ⟨is.2,is.1⟩
   · have xd:max a.dep b.dep + 1<=18:=xd
     show max b.dep a.dep + 1 + 1<=19
     omega
   · have xs:a.sz + b.sz + 3 + 3<=782:=xs
     show b.sz + a.sz + 3 + 1 + 3<=3000
     omega
theorem zh (s:Src K mg "_law_any_condition" sAC)(SM0:aY P w K mg base "_law_sum" ["cell","k","names","deep"] 7 (dI 4))(GS0:aY P w K mg base "_law_grown_sum" ["cell","told","names"] 2 rF)(CO:aY P w K mg base "_law_condition" ["cell","k","names","deep"] 11 (eC 4))(GC0:aY P w K mg base "_law_grown_condition" ["cell","told"] 2 xY):aY P w K mg base "_law_any_condition" ["cell","names","number"] 12 xW:=
 let ⟨f,fd,F,m⟩:=s
 ⟨f,fd,Cb F SM0 GS0 CO GC0,F.kp,pX F fun _ _ _ _ _ _ _ _ _=>rfl,m⟩
end
end TW
set_option Elab.async false
set_option linter.all false
set_option maxRecDepth 100000
set_option exponentiation.threshold 4000
set_option maxHeartbeats 1000000
namespace TW
open PySem L2
section
variable {P:Program}{w:World}{K:FX}{mg:Str->Option Value}{base:Heap}
/-! ### _law_node -/
theorem jH.wr {ns:List Str}{d s:Nat}{e:E}(h:jH ns d s e)(l8:∀x∈ns,dU x)(hd:d < 30)(hs:s<=4001):rT 30 e:=⟨h.is,E.okN.imp l8 h.ok,by have:=h.sz; omega,by have:=h.dp; omega⟩
theorem jG.wr {ns:List Str}{d s:Nat}{e:E}(h:jG ns d s e)(l8:∀x∈ns,dU x)(hd:d < 30)(hs:s<=4001):rS 30 e:=⟨h.is,E.okN.imp l8 h.ok,by have:=h.sz; omega,by have:=h.dp; omega⟩
/-- what a drawn node is -/
structure pU (ns:List Str)(m:Int)(e:Np):Prop where
 w:e.wr
 ld:∀n∈e.leads,0<=n/\n < m
 kn:∀t∈e.tolds,t.okN (· ∈ ns)/\t.dep<=19
 lo:∀t∈e.tolds,t.txt.length<=3000
def lI:Sp:=fun vs H Q _=>∃(c:Int) (nl:Addr) (m:Int) (ns:List Str),vs=[.int c,.ref nl,.int m]/\Nm H nl ns/\(∀x∈ns,dU x)/\0 < m/\m<=63/\∀(L:Addr) (v:V) (e:Np) (H':Hp),H L=none->ak H H'->H' L=some (.lst [v,.str (Gg sp1 e.ws)])->dW H' v e->pU ns m e->Q (.ref L) H'
theorem vt {H:Hp}{v:V}{e:Np}(h:dW H v e)(w:e.wr):JoinOk " " e.ws=true:=by
 obtain ⟨hd,xs,ra,eq⟩:=Np.rowAt h w
 rw [eq]
 exact AN ra
theorem ER {m g:Int}(h0:0<=g)(h1:g < m)(h2:m<=63):0<=g/\g < 10 ^ 30:=⟨h0,qH (by omega)⟩
theorem jH.lo {ns:List Str}{d s:Nat}{e:E}(h:jH ns d s e)(l8:∀x∈ns,dU x)(hd:d<=19)(hs:s<=3003):(e.okN (· ∈ ns)/\e.dep<=19)/\e.txt.length<=3000:=⟨⟨h.ok,F2 h.dp hd⟩,F2 (E.txt_len (E.okN.imp l8 h.ok)) (by have:=h.sz; omega)⟩
theorem jG.lo {ns:List Str}{d s:Nat}{e:E}(h:jG ns d s e)(l8:∀x∈ns,dU x)(hd:d<=19)(hs:s<=3003):(e.okN (· ∈ ns)/\e.dep<=19)/\e.txt.length<=3000:=⟨⟨h.ok,F2 h.dp hd⟩,F2 (E.txt_len (E.okN.imp l8 h.ok)) (by have:=h.sz; omega)⟩
theorem kG {ns:List Str}{x:Str}(hx:x∈ns)(l8:∀x∈ns,dU x):((E.box "box" x).okN (· ∈ ns)/\(E.box "box" x).dep<=19)/\(E.box "box" x).txt.length<=3000:=⟨⟨⟨rfl,hx⟩,Gs _⟩,F2 (l8 x hx).l8 (by decide)⟩
theorem all1 {α:Type}{P:α->Prop}{a:α}(h:P a):∀x∈[a],P x:=fun x hx=>by rw [List.mem_singleton.mp hx]; exact h
theorem all2 {α:Type}{P:α->Prop}{a b:α}(h:P a)(h2:P b):∀x∈[a,b],P x:=fun x hx=>by
 rcases List.mem_cons.mp hx with e | hx
 · rw [e]; exact h
 · rw [List.mem_singleton.mp hx]; exact h2
theorem vQ:Gg sp1 (Np.ws .fin)="end":=by decide +kernel
theorem cX:ay ["cell","names","many","number","goals","kind","name","told","row"] ["cell","names","many"] (ag sNode):=⟨rfl,rfl,rfl,by decide +kernel,rfl,by decide +kernel,by decide +kernel⟩
theorem dh:(ag sNode).names.lookup (F1 "_law_any_condition")=some .globalImplicit:=by decide +kernel
theorem cH:(ag sNode).names.lookup (F1 "_law_any_sum")=some .globalImplicit:=by decide +kernel
theorem cn:(ag sNode).names.lookup (F1 "_law_stir")=some .globalImplicit:=by decide +kernel
theorem cp:(ag sNode).names.lookup (F1 "_law_word")=some .globalImplicit:=by decide +kernel
theorem jW:(ag sNode).names.lookup (F1 "len")=some .globalImplicit:=by decide +kernel
theorem di:(ag sNode).names.lookup (F1 "str")=some .globalImplicit:=by decide +kernel
theorem wW {f:Addr}{fd:FuncData}(F:cf K "_law_node" "_law_node" sNode f fd)(m_len:mg "len"=none)(m_str:mg "str"=none)(ST0:aY P w K mg base "_law_stir" ["cell","k"] 1 aP)(AS0:aY P w K mg base "_law_any_sum" ["cell","names","number"] 8 xX)(AC0:aY P w K mg base "_law_any_condition" ["cell","names","number"] 12 xW)(LW0:aY P w K mg base "_law_word" ["thing"] 31 (lH 30)):aN P w K mg base CX0 41 f fd ["cell","names","many"] lI:=by
 refine F.ok cX (fun vs H Q E h=>?_) (fun cdv A outer s H vs Q E hr h=>?_)
 · obtain ⟨c,nl,m,ns,rfl,_⟩:=h
   rfl
 · obtain ⟨c,nl,m,ns,rfl,D,l8,m0,m9,q⟩:=h
   have ST:=ST0.mono (show 1<=40 by decide)
   have AS:=AS0.mono (show 8<=40 by decide)
   have AC:=AC0.mono (show 12<=40 by decide)
   have LW:=LW0.mono (show 31<=40 by decide)
   refine eV ⟨_,(KG (KH 3 cX.nd (KO ST hr cn (Kx (Ky 0) (Kx KC Kz))))
     (KG (KH 4 cX.nd (KJ (Kx (KD KP (KO ST hr cn (Kx (Ky 0) (Kx KC Kz))) (Ky 2)) (Kx (KD KP (KO ST hr cn (Kx (Ky 0) (Kx KC Kz))) (Ky 2)) Kz))))
     (KG (KH 5 cX.nd (KD KP (Ky 3) KC))
     (KG (KR (K7 (Lc (KL Ll (Ky 5) KC) (Ld (KL (Ly (m:=2) (cy hr _ (by decide))) (Ky 1) (KJ Kz))))) (KG (KH 6 cX.nd (KN KW (Ky 1) (KD KP (KD K5 (Ky 3) KC) (KU K4 jW m_len Gd (Kx (Ky 1) Kz)))))
     (KG (KH 7 cX.nd (KO AS hr cH (Kx (Ky 0) (Kx (Ky 1) (Kx (KD K5 (Ky 3) KC) Kz)))))
     (KI (KQ (KJ (Kx (KS (Kx KA (Kx (Ky 6) (Kx (Ky 7) (Kx (KN KW (Ky 4) KC) Kz))))) (Kx (Lp KA (Kx (KJ (Kx KA (Kx (Ky 6) (Kx (KO LW hr cp (Kx (Ky 7) Kz)) (Kx (Lh Lz di m_str (by decide +kernel) (Kx (KN KW (Ky 4) KC) Kz)) Kz))))) Kz)) Kz))))))) KY)
     (KG (KR (KL Ll (Ky 5) KC) (KG (KH 7 cX.nd (KO AS hr cH (Kx (Ky 0) (Kx (Ky 1) (Kx (KD K5 (Ky 3) KC) Kz)))))
     (KI (KQ (KJ (Kx (KS (Kx KA (Kx (Ky 7) (Kx (KN KW (Ky 4) KC) Kz)))) (Kx (Lp KA (Kx (KJ (Kx KA (Kx (KO LW hr cp (Kx (Ky 7) Kz)) (Kx (Lh Lz di m_str (by decide +kernel) (Kx (KN KW (Ky 4) KC) Kz)) Kz)))) Kz)) Kz)))))) KY)
     (KG (KR (KL Ll (Ky 5) KC) (KG (KH 7 cX.nd (KO AC hr dh (Kx (Ky 0) (Kx (Ky 1) (Kx (KD K5 (Ky 3) KC) Kz)))))
     (KG (KH 8 cX.nd (Lp KA (Kx (KJ (Kx KA (Kx (KO LW hr cp (Kx (Ky 7) Kz)) (Kx (Lh Lz di m_str (by decide +kernel) (Kx (KN KW (Ky 4) KC) Kz)) (Kx (Lh Lz di m_str (by decide +kernel) (Kx (KN KW (Ky 4) KC) Kz)) Kz))))) Kz)))
     (KI (KQ (KJ (Kx (KS (Kx KA (Kx (Ky 7) (Kx (KN KW (Ky 4) KC) (Kx (KN KW (Ky 4) KC) Kz))))) (Kx (Ky 8) Kz))))))) KY)
     (KG (KR (K7 (Lc (KL K0 (Ky 5) KC) (Ld (KL (Ly (m:=2) (cy hr _ (by decide))) (Ky 1) (KJ Kz))))) (KG (KH 6 cX.nd (KN KW (Ky 1) (KD KP (KD K5 (Ky 3) KC) (KU K4 jW m_len Gd (Kx (Ky 1) Kz)))))
     (KI (KQ (KJ (Kx (KS (Kx KA (Kx (Ky 6) (Kx (KN KW (Ky 4) KC) Kz)))) (Kx (Lp KA (Kx (KJ (Kx KA (Kx (Ky 6) (Kx (Lh Lz di m_str (by decide +kernel) (Kx (KN KW (Ky 4) KC) Kz)) Kz)))) Kz)) Kz)))))) KY)
     (KI (KQ (KJ (Kx (KS (Kx KA Kz)) (Kx KA Kz)))))))))))),?_⟩
   refine DY fun Rk kR=>?_
   refine ⟨_,rfl,c,0,rfl,by decide,by decide,fun r r0 r1=>?_⟩
   refine ah ?_
   refine ⟨_,rfl,c,1,rfl,by decide,by decide,fun a a0 a1=>⟨_,rfl,_,_,rfl,rfl,m0,?_⟩⟩
   refine ⟨_,rfl,c,2,rfl,by decide,by decide,fun b b0 b1=>⟨_,rfl,_,_,rfl,rfl,m0,M5,fun G hG=>?_⟩⟩
   obtain ⟨g0,eg0,h00,h01⟩ : ∃g,g=a % m/\0<=g/\g < m:=⟨_,rfl,ax m0,az m0⟩
   obtain ⟨g1,eg1,h10,h11⟩ : ∃g,g=b % m/\0<=g/\g < m:=⟨_,rfl,ax m0,az m0⟩
   have n0:=ER h00 h01 m9
   have n1:=ER h10 h11 m9
   refine ah ?_
   refine ⟨_,rfl,_,_,rfl,rfl,(by show (0:Int) < 10; decide),?_⟩
   refine ah ?_
   refine kR _ _ ?_
   refine au [some (.int c),some (.ref nl),some (.int m),some (.int r),some (.ref G),some (.int (r % 10)),none,none,none] rfl ?_
   refine pq (upd H G (.lst [.int g0,.int g1])) (by subst eg0 eg1; rfl) ?_
   clear eg0 eg1
   have sG:ak H (upd H G (.lst [.int g0,.int g1])):=af hG _
   have gG:(upd H G (.lst [.int g0,.int g1])) G=some (.lst [.int g0,.int g1]):=aa
   generalize upd H G (.lst [.int g0,.int g1])=H1 at sG gG ⊢
   have DG:=D.go sG
   refine ao fun Rk kR=>?_
   refine ⟨_,rfl,_,_,rfl,rfl,_,rfl,?_⟩
   suffices hs:∀H2,ak H1 H2->Rk [some (.int c),some (.ref nl),some (.int m),some (.int r),some (.ref G),some (.int (r % 10)),none,none,none] H2 by
     refine aE (fun c3=>?_) (fun _=>bD (hs H1 (same_refl _)))
     refine ⟨_,rfl,M3,fun z hz=>?_⟩
     have sz:ak H1 (upd H1 z (.lst [])):=af hz _
     have gz:(upd H1 z (.lst [])) z=some (.lst []):=aa
     generalize upd H1 z (.lst [])=Hz at sz gz ⊢
     have Dz:=DG.go sz
     have sz2:=ae sG sz
     have gGz:=sz _ _ gG
     refine ⟨_,RB.nil (aw.of Dz.hn) (aw.of gz),_,rfl,?_⟩
     refine aE (fun c1=>?_) (fun _=>hs Hz sz)
     have hpos:0 < ns.length:=by
       cases ns with
       | nil=>exact absurd c1 (by decide)
       | cons a l=>exact Ig _
     refine ao fun Rk kR=>?_
     refine ⟨_,rfl,_,rfl,_,_,rfl,rfl,⟨by decide,by decide +kernel⟩,_,rfl,nl,_,rfl,.inl (aw.of Dz.hn),_,_,rfl,rfl,(by rw [F0]; omega),?_⟩
     rw [F0]
     obtain ⟨x,hxm,hat⟩:=eH V.str ns (ax (k:=r / 16) (n:=(ns.length:Int)) (by omega)) (az (by omega))
     refine ⟨nl,_,_,_,rfl,rfl,aw.of Dz.hn,hat,?_⟩
     refine ah ?_
     refine kR _ _ ?_
     refine au [some (.int c),some (.ref nl),some (.int m),some (.int r),some (.ref G),some (.int (r % 10)),some (.str x),none,none] rfl ?_
     refine ao fun Rk kR=>?_
     refine ⟨_,rfl,_,rfl,_,rfl,_,_,rfl,rfl,⟨by decide,by decide +kernel⟩,c,nl,_,ns,rfl,Dz,JW r0 (by decide),fun v e H3 s3 ev dr=>?_⟩
     have we:=dr.wr l8 (by decide) (by decide)
     have lo:=dr.lo l8 (by decide) (by decide)
     have sB:=ae sz2 s3
     have gGB:=s3 _ _ gGz
     refine ah ?_
     refine kR _ _ ?_
     refine au [some (.int c),some (.ref nl),some (.int m),some (.int r),some (.ref G),some (.int (r % 10)),some (.str x),some (v),none] rfl ?_
     refine ⟨_,rfl,_,rfl,_,rfl,G,_,_,_,rfl,rfl,aw.of gGB,rfl,M7,fun p hp=>?_⟩
     have sp:=av sB (o:=.tup [.str "put",.str x,v,.int g0]) hp
     have gp:=aa (H:=H3) (a:=p) (o:=.tup [.str "put",.str x,v,.int g0])
     have tp:=af hp (.tup [.str "put",.str x,v,.int g0])
     generalize upd H3 p (.tup [.str "put",.str x,v,.int g0])=H4 at sp gp tp ⊢
     have gG4:=tp _ _ gGB
     have ev4:=ev.keep (ak.tk tp)
     have nd:dW H4 (.ref p) (.put x e g0):=⟨v,⟨p,rfl,gp⟩,ev4⟩
     have wr:pU ns m (.put x e g0:Np):=⟨⟨l8 x hxm,we,n0⟩,all1 ⟨h00,h01⟩,all2 (kG hxm l8).1 lo.1,all2 (kG hxm l8).2 lo.2⟩
     refine ⟨rfl,_,rfl,_,rfl,v,e,rfl,ev4,.inl we,fun H5 s5=>?_⟩
     refine ⟨_,rfl,G,_,_,_,rfl,rfl,aw.of (s5 _ _ gG4),rfl,.inl ⟨g0,rfl,Ih (d6 (nZ n0)) (by decide),M7,fun l hl=>?_⟩⟩
     refine ⟨" ",l,["put",x,e.txt,F1 (toString g0)],rfl,rfl,aw.of aa,vt nd wr.w,M5,fun L hL=>?_⟩
     exact q L (.ref p) (.put x e g0) _ (aO (av (ae sp s5) hl) hL) (av (av (ae sp s5) hl) hL) aa (nd.keep (ak.tk (av (av s5 hl) hL))) wr
   intro H2 s2
   have D2:=DG.go s2
   have gG2:=s2 _ _ gG
   have sG2:=ae sG s2
   refine kR _ _ ?_
   refine ao fun Rk kR=>?_
   refine ⟨_,rfl,_,_,rfl,rfl,_,rfl,?_⟩
   refine aE (fun c5=>?_) (fun _=>?_)
   · refine ao fun Rk kR=>?_
     refine ⟨_,rfl,_,rfl,_,rfl,_,_,rfl,rfl,⟨by decide,by decide +kernel⟩,c,nl,_,ns,rfl,D2,JW r0 (by decide),fun v e H3 s3 ev dr=>?_⟩
     have we:=dr.wr l8 (by decide) (by decide)
     have lo:=dr.lo l8 (by decide) (by decide)
     have sB:=ae sG2 s3
     have gGB:=s3 _ _ gG2
     refine ah ?_
     refine kR _ _ ?_
     refine au [some (.int c),some (.ref nl),some (.int m),some (.int r),some (.ref G),some (.int (r % 10)),none,some (v),none] rfl ?_
     refine ⟨_,rfl,_,rfl,G,_,_,_,rfl,rfl,aw.of gGB,rfl,M6,fun p hp=>?_⟩
     have sp:=av sB (o:=.tup [.str "say",v,.int g0]) hp
     have gp:=aa (H:=H3) (a:=p) (o:=.tup [.str "say",v,.int g0])
     have tp:=af hp (.tup [.str "say",v,.int g0])
     generalize upd H3 p (.tup [.str "say",v,.int g0])=H4 at sp gp tp ⊢
     have gG4:=tp _ _ gGB
     have ev4:=ev.keep (ak.tk tp)
     have nd:dW H4 (.ref p) (.say e g0):=⟨v,⟨p,rfl,gp⟩,ev4⟩
     have wr:pU ns m (.say e g0:Np):=⟨⟨we,n0⟩,all1 ⟨h00,h01⟩,all1 lo.1,all1 lo.2⟩
     refine ⟨rfl,_,rfl,v,e,rfl,ev4,.inl we,fun H5 s5=>?_⟩
     refine ⟨_,rfl,G,_,_,_,rfl,rfl,aw.of (s5 _ _ gG4),rfl,.inl ⟨g0,rfl,Ih (d6 (nZ n0)) (by decide),M6,fun l hl=>?_⟩⟩
     refine ⟨" ",l,["say",e.txt,F1 (toString g0)],rfl,rfl,aw.of aa,vt nd wr.w,M5,fun L hL=>?_⟩
     exact q L (.ref p) (.say e g0) _ (aO (av (ae sp s5) hl) hL) (av (av (ae sp s5) hl) hL) aa (nd.keep (ak.tk (av (av s5 hl) hL))) wr
   refine kR _ _ ?_
   refine ao fun Rk kR=>?_
   refine ⟨_,rfl,_,_,rfl,rfl,_,rfl,?_⟩
   refine aE (fun c5=>?_) (fun _=>?_)
   · refine ao fun Rk kR=>?_
     refine ⟨_,rfl,_,rfl,_,rfl,_,_,rfl,rfl,⟨by decide,by decide +kernel⟩,c,nl,_,ns,rfl,D2,JW r0 (by decide),fun v e H3 s3 ev dr=>?_⟩
     have we:=dr.wr l8 (by decide) (by decide)
     have lo:=dr.lo l8 (by decide) (by decide)
     have sB:=ae sG2 s3
     have gGB:=s3 _ _ gG2
     refine ah ?_
     refine kR _ _ ?_
     refine au [some (.int c),some (.ref nl),some (.int m),some (.int r),some (.ref G),some (.int (r % 10)),none,some (v),none] rfl ?_
     refine ao fun Rk kR=>?_
     have wr:pU ns m (Np.test e g0 g1):=⟨⟨we,n0,n1⟩,all2 ⟨h00,h01⟩ ⟨h10,h11⟩,all1 lo.1,all1 lo.2⟩
     refine ⟨rfl,_,rfl,v,e,rfl,ev,.inr we,fun H5 s5=>?_⟩
     refine ⟨_,rfl,G,_,_,_,rfl,rfl,aw.of (s5 _ _ gGB),rfl,.inl ⟨g0,rfl,Ih (d6 (nZ n0)) (by decide),?_⟩⟩
     refine ⟨_,rfl,G,_,_,_,rfl,rfl,aw.of (s5 _ _ gGB),rfl,.inl ⟨g1,rfl,Ih (d6 (nZ n1)) (by decide),M7,fun l hl=>?_⟩⟩
     have hj:JoinOk " " ["test",e.txt,F1 (toString g0),F1 (toString g1)]=true:=by
       refine dz 4000 (fun y hy=>?_) (by show 4 * 4000 + 4 * 1<=16777216; decide)
       have a1:=aQ n0
       have a2:=aQ n1
       have a3:=we.len
       rcases List.mem_cons.mp hy with z | hy
       · rw [z]; decide
       rcases List.mem_cons.mp hy with z | hy
       · rw [z]; omega
       rcases List.mem_cons.mp hy with z | hy
       · rw [z]; omega
       · rw [List.mem_singleton.mp hy]; omega
     refine ⟨" ",l,["test",e.txt,F1 (toString g0),F1 (toString g1)],rfl,rfl,aw.of aa,hj,?_⟩
     have s6:=av s5 (o:=.lst [.str "test",.str e.txt,.str (F1 (toString g0)),.str (F1 (toString g1))]) hl
     refine ah ?_
     refine kR _ _ ?_
     refine pq (upd H5 l (.lst [.str "test",.str e.txt,.str (F1 (toString g0)),.str (F1 (toString g1))])) rfl ?_
     generalize upd H5 l (.lst [.str "test",.str e.txt,.str (F1 (toString g0)),.str (F1 (toString g1))])=H6 at s6 ⊢
     refine au [some (.int c),some (.ref nl),some (.int m),some (.int r),some (.ref G),some (.int (r % 10)),none,some (v),some (.str (Gg sp1 ["test",e.txt,F1 (toString g0),F1 (toString g1)]))] rfl ?_
     have gG6:=s6 _ _ gGB
     have ev6:=ev.keep (ak.tk s6)
     refine ⟨_,rfl,_,rfl,G,_,_,_,rfl,rfl,aw.of gG6,rfl,_,rfl,G,_,_,_,rfl,rfl,aw.of gG6,rfl,M7,fun p hp=>⟨_,rfl,M5,fun L hL=>?_⟩⟩
     have tp:=af hp (.tup [.str "test",v,.int g0,.int g1])
     have tL:=af hL (.lst [.ref p,.str (Gg sp1 ["test",e.txt,F1 (toString g0),F1 (toString g1)])])
     exact q L (.ref p) (.test e g0 g1) _ (aO (ae (ae sB s6) tp) hL) (ae (ae sB s6) (ae tp tL)) aa ⟨v,⟨p,rfl,tL _ _ aa⟩,ev6.keep (ak.tk (ae tp tL))⟩ wr
   refine kR _ _ ?_
   refine ao fun Rk kR=>?_
   refine ⟨_,rfl,rfl,_,rfl,?_⟩
   suffices hs:∀H3,ak H2 H3->Rk [some (.int c),some (.ref nl),some (.int m),some (.int r),some (.ref G),some (.int (r % 10)),none,none,none] H3 by
     refine aE (fun c8=>?_) (fun _=>bD (hs H2 (same_refl _)))
     refine ⟨_,rfl,M3,fun z hz=>?_⟩
     have sz:ak H2 (upd H2 z (.lst [])):=af hz _
     have gz:(upd H2 z (.lst [])) z=some (.lst []):=aa
     generalize upd H2 z (.lst [])=Hz at sz gz ⊢
     have Dz:=D2.go sz
     have sz2:=ae sG2 sz
     have gGz:=sz _ _ gG2
     refine ⟨_,RB.nil (aw.of Dz.hn) (aw.of gz),_,rfl,?_⟩
     refine aE (fun c1=>?_) (fun _=>hs Hz sz)
     have hpos:0 < ns.length:=by
       cases ns with
       | nil=>exact absurd c1 (by decide)
       | cons a l=>exact Ig _
     refine ao fun Rk kR=>?_
     refine ⟨_,rfl,_,rfl,_,_,rfl,rfl,⟨by decide,by decide +kernel⟩,_,rfl,nl,_,rfl,.inl (aw.of Dz.hn),_,_,rfl,rfl,(by rw [F0]; omega),?_⟩
     rw [F0]
     obtain ⟨x,hxm,hat⟩:=eH V.str ns (ax (k:=r / 16) (n:=(ns.length:Int)) (by omega)) (az (by omega))
     refine ⟨nl,_,_,_,rfl,rfl,aw.of Dz.hn,hat,?_⟩
     refine ah ?_
     refine kR _ _ ?_
     refine au [some (.int c),some (.ref nl),some (.int m),some (.int r),some (.ref G),some (.int (r % 10)),some (.str x),none,none] rfl ?_
     have sB:=sz2
     have gGB:=gGz
     refine ⟨_,rfl,_,rfl,G,_,_,_,rfl,rfl,aw.of gGB,rfl,M6,fun p hp=>?_⟩
     have sp:=av sB (o:=.tup [.str "pick",.str x,.int g0]) hp
     have gp:=aa (H:=Hz) (a:=p) (o:=.tup [.str "pick",.str x,.int g0])
     have tp:=af hp (.tup [.str "pick",.str x,.int g0])
     generalize upd Hz p (.tup [.str "pick",.str x,.int g0])=H4 at sp gp tp ⊢
     have gG4:=tp _ _ gGB
     have nd:dW H4 (.ref p) (.pick x g0):=⟨p,rfl,gp⟩
     have wr:pU ns m (.pick x g0:Np):=⟨⟨l8 x hxm,n0⟩,all1 ⟨h00,h01⟩,all1 (kG hxm l8).1,all1 (kG hxm l8).2⟩
     refine ⟨rfl,_,rfl,_,rfl,G,_,_,_,rfl,rfl,aw.of gG4,rfl,.inl ⟨g0,rfl,Ih (d6 (nZ n0)) (by decide),M6,fun l hl=>?_⟩⟩
     refine ⟨" ",l,["pick",x,F1 (toString g0)],rfl,rfl,aw.of aa,vt nd wr.w,M5,fun L hL=>?_⟩
     exact q L (.ref p) (.pick x g0) _ (aO (av sp hl) hL) (av (av sp hl) hL) aa (nd.keep (ak.tk (av (av (same_refl _) hl) hL))) wr
   intro H3 s3
   refine kR _ _ ?_
   refine ⟨M4,fun p hp=>⟨M5,fun L hL=>?_⟩⟩
   have tp:=af hp (.tup [.str "end"])
   have tL:=af hL (.lst [.ref p,.str "end"])
   exact q L (.ref p) .fin _ (aO (ae (ae sG2 s3) tp) hL) (ae (ae sG2 s3) (ae tp tL)) (by rw [vQ]; exact aa) ⟨p,rfl,tL _ _ aa⟩ ⟨GD,(fun _ z=>nomatch z),(fun _ z=>nomatch z),fun _ z=>nomatch z⟩
theorem sO (s:Src K mg "_law_node" sNode)(m_len:mg "len"=none)(m_str:mg "str"=none)(ST0:aY P w K mg base "_law_stir" ["cell","k"] 1 aP)(AS0:aY P w K mg base "_law_any_sum" ["cell","names","number"] 8 xX)(AC0:aY P w K mg base "_law_any_condition" ["cell","names","number"] 12 xW)(LW0:aY P w K mg base "_law_word" ["thing"] 31 (lH 30)):aY P w K mg base "_law_node" ["cell","names","many"] 41 lI:=
 let ⟨f,fd,F,m⟩:=s
 ⟨f,fd,wW F m_len m_str ST0 AS0 AC0 LW0,F.kp,pX F fun _ _ _ _ _ _ _ _ _=>rfl,m⟩
end
end TW
set_option Elab.async false
set_option linter.all false
set_option maxRecDepth 100000
set_option exponentiation.threshold 4000
set_option maxHeartbeats 1000000
namespace TW
open PySem L2
section
variable {P:Program}{w:World}{K:FX}{mg:Str->Option Value}{base:Heap}
abbrev sNames:Stmt:=top 47
theorem sub_len {α:Type}[DecidableEq α]:∀{xs ys:List α},xs.Nodup->(∀x∈xs,x∈ys)->xs.length<=ys.length
 | [],_,_,_=>Gs _
 | x :: r,ys,nd,h=>by
   rw [List.nodup_cons] at nd
   have hx:x∈ys:=h x (List.mem_cons.mpr (.inl rfl))
   have ih:=sub_len (xs:=r) (ys:=ys.erase x) nd.2 fun y hy=>(List.mem_erase_of_ne (a:=y) (b:=x) (fun e:y=x=>nd.1 (e ▸ hy))).mpr (h y (List.mem_cons.mpr (.inr hy)))
   have hl:=List.length_erase_of_mem hx
   have hpos:0 < ys.length:=List.length_pos_of_mem hx
   rw [F5]
   omega
/-! ### names -/
abbrev lets:Str:="abcdefghijklmnopqrstuvwxyz"
theorem wA {k:Int}(h0:0<=k)(h1:k < 26):jo lets.cps.toList k=some (97 + k.toNat):=by
 have all:∀n:Fin 26,jo lets.cps.toList (n.1:Int)=some (97 + n.1):=by decide +kernel
 have:=all ⟨k.toNat,by omega⟩
 rw [show ((k.toNat:Nat):Int)=k by omega] at this
 exact this
abbrev some24:List Str:=["a","yes","put","box","abcdefgh","end","ye","no","x","test","input","abcdefg","yess","say","pick","plus","less","same","number","under","both","not","yours","mine"]
theorem xV:some24.Nodup:=by decide +kernel
theorem xU:∀x∈some24,1<=x.length/\x.length<=8/\∀c∈x.cps.toList,97<=c/\c < 123:=by decide +kernel
theorem AY:∀x∈some24,dU x:=fun x hx=>let ⟨a,b,c⟩:=xU x hx; ⟨a,b,c⟩
theorem EU:∀ts:List Str,(HK "" ts).cps.toList=(ts.map fun x=>x.cps.toList).flatten
 | []=>rfl
 | [x]=>by show x.cps.toList=x.cps.toList++[]; rw [GH]
 | x :: y :: r=>by
   show ((x++"")++HK "" (y :: r)).cps.toList=_
   rw [aM,aM,EU (y :: r),show ("":Str).cps.toList=[] from rfl,GH]
   rfl
theorem tD {ts:List Str}(h:∀x∈ts,∃c,x.cps.toList=[c]/\97<=c/\c < 123)(h1:1<=ts.length)(h8:ts.length<=8):dU (Gg "" ts):=by
 have e:(Gg "" ts).cps.toList=(ts.map fun x=>x.cps.toList).flatten:=by
   show (GZ "" ts).cps.toList=_
   rw [StrLaws.glued_eq_join]
   exact EU ts
 have key:∀l:List Str,(∀x∈l,∃c,x.cps.toList=[c]/\97<=c/\c < 123)->(l.map fun x=>x.cps.toList).flatten.length=l.length/\∀c∈(l.map fun x=>x.cps.toList).flatten,97<=c/\c < 123:=by
   intro l
   induction l with
   | nil=>intro _; exact ⟨rfl,fun c hc=>nomatch hc⟩
   | cons a l ih=>
     intro hl
     obtain ⟨i1,i2⟩:=ih fun x hx=>hl x (F7 _ hx)
     obtain ⟨c0,e0,hc0⟩:=hl a F4
     rw [Gi,List.flatten_cons,e0]
     refine ⟨by rw [FZ,i1,Gp,F5]; omega,fun c hc=>?_⟩
     rcases List.mem_append.mp hc with z | z
     · rw [List.mem_singleton.mp z]; exact hc0
     · exact i2 c z
 obtain ⟨k1,k2⟩:=key ts h
 rw [← e] at k1 k2
 rw [aD] at k1
 exact ⟨by omega,by omega,k2⟩
theorem wG {fs:List Str}{y:Str}(h:fs.Nodup)(hy:y ∉ fs):(fs++[y]).Nodup:=by
 rw [List.nodup_append]
 refine ⟨h,by simp,fun a ha b hb=>?_⟩
 rw [List.mem_singleton.mp hb]
 exact fun z=>hy (z ▸ ha)
def freeOf (fs:List Str)(xs:List Str):List Str:=xs.filter fun x=>!decide (x∈fs)
theorem sr {fs:List Str}(h:fs.length<=4):0 < (freeOf fs some24).length:=by
 refine Nat.pos_of_ne_zero fun z=>?_
 have hn:=JJ z
 have hall:∀x∈some24,x∈fs:=fun x hx=>by
   by_cases hf:x∈fs
   · exact hf
   · have:x∈freeOf fs some24:=List.mem_filter.mpr ⟨hx,by simp [hf]⟩
     rw [hn] at this
     cases this
 have:=sub_len xV hall
 have e:some24.length=24:=rfl
 omega
theorem oW {xs:List Str}{x:Str}:wk (.str x) (xs.map V.str)=decide (x∈xs):=by
 unfold wk
 by_cases h:x∈xs
 · rw [decide_eq_true h,List.any_eq_true]
   exact ⟨.str x,List.mem_map.mpr ⟨x,h,rfl⟩,by simp [l7]⟩
 · rw [decide_eq_false h,List.any_eq_false]
   intro v hv
   obtain ⟨y,hy,rfl⟩:=List.mem_map.mp hv
   intro e
   have:y=x:=by simpa [l7] using e
   exact h (this ▸ hy)
def iu:Sp:=fun vs H Q _=>∃(c m:Int),vs=[.int c,.int m]/\0<=m/\m<=4/\∀(l:Addr) (ns:List Str) (H':Hp),ak H H'->H' l=some (.lst (ns.map V.str))->ns.length=m.toNat->(∀x∈ns,dU x)->ns.Nodup->Q (.ref l) H'
theorem bP:ay ["head","many","some","letters","found","k","number","left","name","word"] ["head","many"] (ag sNames):=⟨rfl,rfl,rfl,by decide +kernel,rfl,by decide +kernel,by decide +kernel⟩
theorem dE:(ag sNames).names.lookup (F1 "_law_stir")=some .globalImplicit:=by decide +kernel
theorem nq:(ag sNames).names.lookup (F1 "len")=some .globalImplicit:=by decide +kernel
theorem fK:(ag sNames).names.lookup (F1 "range")=some .globalImplicit:=by decide +kernel
theorem ud {f:Addr}{fd:FuncData}(F:cf K "_law_names" "_law_names" sNames f fd)(m_len:mg "len"=none)(m_range:mg "range"=none)(ST:aY P w K mg base "_law_stir" ["cell","k"] 1 aP):aN P w K mg base CX0 2 f fd ["head","many"] iu:=by
 refine F.ok bP (fun vs H Q E h=>?_) (fun cdv A outer s H vs Q E hr h=>?_)
 · obtain ⟨c,m,rfl,_⟩:=h
   rfl
 · obtain ⟨c,m,rfl,m0,m4,q⟩:=h
   refine eV ⟨_,(KG (KH 2 bP.nd (KJ (Kx KA (Kx KA (Kx KA (Kx KA (Kx KA (Kx KA (Kx KA (Kx KA (Kx KA (Kx KA (Kx KA (Kx KA (Kx KA (Kx KA Kz))))))))))))))))
     (KG (KH 2 bP.nd (KD K1 (Ky 2) (KJ (Kx KA (Kx KA (Kx KA (Kx KA (Kx KA (Kx KA (Kx KA (Kx KA (Kx KA (Kx KA Kz)))))))))))))
     (KG (KH 3 bP.nd KA)
     (KG (KH 4 bP.nd (KJ Kz))
     (KG (LP (LG fK m_range (Kx (Ky 1) Kz)) (K3 5 bP.nd) (KG (KH 6 bP.nd (KO ST hr dE (Kx (Ky 0) (Kx (KD KZ KC (Ky 5)) Kz))))
     (KG (L3.Ds (i:=7) [none,some 4] ["name","found"] (show aC _ (ag sNames) from ⟨rfl,by decide +kernel,by decide +kernel,by decide +kernel⟩) (by rfl) (Lo (Ky 2)) (fun _ _ _ _ _=>⟨(K3 0 (show (["name","found"]:List Str).Nodup from by decide +kernel)),(L3.if1 (KL L3.pw (Ky 0) (Ky 1) (by rfl))),(Ky 0)⟩) bP.nd)
     (KG (KH 8 bP.nd (KN KW (Ky 7) (KD KP (Ky 6) (KU K4 nq m_len Gd (Kx (Ky 7) Kz)))))
     (KG (KH 9 bP.nd (Lp KA (Kx (LA [none,some 3,some 0,some 5] ["j","letters","head","k"] (show aC _ (ag sNames) from ⟨rfl,by decide +kernel,by decide +kernel,by decide +kernel⟩) (by rfl) (LG fK m_range (Kx (KD KZ KC (KD KP (KD K5 (Ky 6) KC) KC)) Kz)) (fun _ _ _ _ _=>⟨(K3 0 (show (["j","letters","head","k"]:List Str).Nodup from by decide +kernel)),Lk,(KN L3.Ef (Ky 1) (KD KP (KO ST hr (by rfl) (Kx (Ky 2) (Kx (KD KZ (KD KZ KC (KD Lb KC (Ky 3))) (Ky 0)) Kz))) KC))⟩)) Kz)))
     (KG (KR (K7 (Lc (KL K0 (KD KP (KO ST hr dE (Kx (Ky 0) (Kx (KD KZ KC (Ky 5)) Kz))) KC) KC) (Ld (KL L3.pw (Ky 9) (Ky 4) (by rfl))))) (KI (KH 8 bP.nd (Ky 9))) KY)
     (KI (Li (Lx (Ky 4) (Kx (Ky 8) Kz))))))))))
     (KI (KQ (Ky 4)))))))),?_⟩
   refine r6 fun Rk kR=>?_
   refine ⟨Ng,fun s1 hs1=>?_⟩
   have sa:ak H (upd H s1 (.lst [.str "a",.str "yes",.str "put",.str "box",.str "abcdefgh",.str "end",.str "ye",.str "no",.str "x",.str "test",.str "input",.str "abcdefg",.str "yess",.str "say"])):=af hs1 _
   have ga:(upd H s1 (.lst [.str "a",.str "yes",.str "put",.str "box",.str "abcdefgh",.str "end",.str "ye",.str "no",.str "x",.str "test",.str "input",.str "abcdefg",.str "yess",.str "say"])) s1=some (.lst [.str "a",.str "yes",.str "put",.str "box",.str "abcdefgh",.str "end",.str "ye",.str "no",.str "x",.str "test",.str "input",.str "abcdefg",.str "yess",.str "say"]):=aa
   generalize upd H s1 (.lst [.str "a",.str "yes",.str "put",.str "box",.str "abcdefgh",.str "end",.str "ye",.str "no",.str "x",.str "test",.str "input",.str "abcdefg",.str "yess",.str "say"])=Ha at sa ga ⊢
   refine ah ?_
   refine ⟨_,rfl,Nd,fun s2 hs2=>?_⟩
   have sb:ak Ha (upd Ha s2 (.lst [.str "pick",.str "plus",.str "less",.str "same",.str "number",.str "under",.str "both",.str "not",.str "yours",.str "mine"])):=af hs2 _
   have gb:(upd Ha s2 (.lst [.str "pick",.str "plus",.str "less",.str "same",.str "number",.str "under",.str "both",.str "not",.str "yours",.str "mine"])) s2=some (.lst [.str "pick",.str "plus",.str "less",.str "same",.str "number",.str "under",.str "both",.str "not",.str "yours",.str "mine"]):=aa
   generalize upd Ha s2 (.lst [.str "pick",.str "plus",.str "less",.str "same",.str "number",.str "under",.str "both",.str "not",.str "yours",.str "mine"])=Hb at sb gb ⊢
   refine ⟨s1,s2,_,_,rfl,rfl,sb _ _ ga,gb,Nh,fun sm hsm=>?_⟩
   have sc:=av (ae sa sb) (o:=.lst (some24.map V.str)) hsm
   have gc:(upd Hb sm (.lst (some24.map V.str))) sm=some (.lst (some24.map V.str)):=aa
   refine ah ?_
   refine kR _ _ ?_
   refine pq (upd Hb sm (.lst (some24.map V.str))) rfl ?_
   generalize upd Hb sm (.lst (some24.map V.str))=Hc at sc gc ⊢
   refine r6 fun Rk kR=>?_
   refine ah ?_
   refine ⟨M3,fun ln hln=>?_⟩
   have hln0:=aO sc hln
   have sml:sm≠ln:=aq gc hln
   have g2:(upd Hc ln (.lst [])) ln=some (.lst (([]:List Str).map V.str)):=aa
   have s2:ak H (upd Hc ln (.lst [])):=av sc hln
   have gs:(upd Hc ln (.lst [])) sm=some (.lst (some24.map V.str)):=af hln _ _ _ gc
   generalize upd Hc ln (.lst [])=H2 at g2 s2 gs ⊢
   clear sa sb ga gb sc gc hln hsm
   refine ah ?_
   refine kR _ _ ?_
   refine au [some (.int c),some (.int m),some (.ref sm),some (.str lets),some (.ref ln),none,none,none,none,none] rfl ?_
   refine ao fun Rk kR=>?_
   refine ⟨_,rfl,m,rfl,by omega,by omega,?_⟩
   refine eJ (lo:=0) (n:=m.toNat) (fun i σ Hx=>(∃o5 o6 o7 o8 o9,σ=[some (.int c),some (.int m),some (.ref sm),some (.str lets),some (.ref ln),o5,o6,o7,o8,o9])/\ak H Hx/\Hx sm=some (.lst (some24.map V.str))/\∃fs:List Str,Hx ln=some (.lst (fs.map V.str))/\fs.length=i/\(∀x∈fs,dU x)/\fs.Nodup) ⟨⟨_,_,_,_,_,rfl⟩,s2,gs,[],g2,rfl,(fun x hx=>nomatch hx),List.nodup_nil⟩ (fun i σ Hx hi z=>?_) (fun σ Hx z=>?_)
   · obtain ⟨⟨o5,o6,o7,o8,o9,rfl⟩,sx,gm,fs,gl,fl,f8,fnd⟩:=z
     refine ah ?_
     refine au [some (.int c),some (.int m),some (.ref sm),some (.str lets),some (.ref ln),some (.int (0 + (i:Int))),o6,o7,o8,o9] rfl ?_
     refine ao fun Rj kj=>?_
     refine ⟨_,rfl,_,rfl,_,_,rfl,rfl,c,400 + (0 + (i:Int)),rfl,by omega,by omega,fun r r0 r1=>?_⟩
     refine ah ?_
     refine kj _ _ ?_
     refine au [some (.int c),some (.int m),some (.ref sm),some (.str lets),some (.ref ln),some (.int (0 + (i:Int))),some (.int r),o7,o8,o9] rfl ?_
     refine ao fun Rj kj=>?_
     refine ⟨_,rfl,sm,rfl,⟨_,aw.of gm⟩,fun D hD=>?_⟩
     refine bK (xs:=some24.map V.str) (fun j Hy=>ak Hx Hy/\Hy D=some (.lst ((freeOf fs (some24.take j)).map V.str))) ⟨af hD _,aa⟩ (fun j Hy _ z=>aw.of (z.1 _ _ gm)) (fun j x0 Hy hx z=>?_) (fun Hy z=>?_)
     · obtain ⟨sy,gD⟩:=z
       have hjl:=(List.getElem?_eq_some_iff.mp hx).1
       have j24:j < 24:=hjl
       obtain ⟨x,hxi,rfl⟩:=cJ hx
       refine ah ?_
       refine ⟨_,rfl,_,rfl,ln,_,rfl,.inl (aw.of (sy _ _ gl)),rfl,gg _,_,rfl,?_⟩
       have nxt:some24.take (j + 1)=some24.take j++[x]:=by rw [Ho,hxi]; rfl
       have hb:(if true=true then !wk (.str x) (fs.map V.str) else wk (.str x) (fs.map V.str)) = !decide (x∈fs):=by rw [oW]; rfl
       rw [hb]
       by_cases hf:x∈fs
       · rw [decide_eq_true hf]
         refine bD ?_
         refine bh (Pv:=fun j Hy=>ak Hx Hy/\Hy D=some (.lst ((freeOf fs (some24.take j)).map V.str))) (by repeat' constructor) hjl ⟨sy,?_⟩
         rw [gD,nxt]
         unfold freeOf
         rw [List.filter_append,List.filter_cons_of_neg (by simp [hf]),List.filter_nil,GH]
       · rw [decide_eq_false hf]
         refine bE ?_
         refine ⟨_,rfl,_,gD,GK (show _<=1000 from ?_) (by decide),bh (Pv:=fun j Hy=>ak Hx Hy/\Hy D=some (.lst ((freeOf fs (some24.take j)).map V.str))) (by repeat' constructor) hjl ⟨aG sy hD,?_⟩⟩
         · rw [F0]
           refine F2 (List.length_filter_le _ _) ?_
           rw [Gh]
           omega
         · rw [aa,nxt]
           unfold freeOf
           rw [List.filter_append,List.filter_cons_of_pos (by simp [hf]),List.filter_nil,F9]
           rfl
     obtain ⟨sy,gD⟩:=z
     rw [F0,HC] at gD
     have fp:=sr (fs:=fs) (by omega)
     have lm:((freeOf fs some24).map V.str).length=(freeOf fs some24).length:=F0 ..
     refine ah ?_
     refine kj _ _ ?_
     refine au [some (.int c),some (.int m),some (.ref sm),some (.str lets),some (.ref ln),some (.int (0 + (i:Int))),some (.int r),some (.ref D),o8,o9] rfl ?_
     refine ao fun Rj kj=>?_
     refine ⟨_,rfl,_,rfl,_,rfl,D,_,rfl,.inl (aw.of gD),_,_,rfl,rfl,(by rw [lm]; omega),?_⟩
     rw [lm]
     obtain ⟨x,hxm,hat⟩:=eH V.str (freeOf fs some24) (ax (k:=r) (n:=((freeOf fs some24).length:Int)) (by omega)) (az (by omega))
     refine ⟨D,_,_,_,rfl,rfl,aw.of gD,hat,?_⟩
     have x8:dU x:=AY x (List.mem_filter.mp hxm).1
     have xnf:x ∉ fs:=by simpa using (List.mem_filter.mp hxm).2
     refine ah ?_
     refine kj _ _ ?_
     refine au [some (.int c),some (.int m),some (.ref sm),some (.str lets),some (.ref ln),some (.int (0 + (i:Int))),some (.int r),some (.ref D),some (.str x),o9] rfl ?_
     have sx1:=ae sx sy
     have gm1:=sy _ _ gm
     have gl1:=sy _ _ gl
     clear gD hat lm fp sx sy gm gl
     refine ao fun Rj kj=>?_
     have w0:=ax (k:=r / 32) (n:=8) (by decide)
     have w1:=az (k:=r / 32) (n:=8) (by decide)
     refine ⟨rfl,_,rfl,_,_,rfl,rfl,⟨by decide,by decide +kernel⟩,_,_,rfl,rfl,(by show (0:Int) < 8; decide),_,_,rfl,rfl,1 + r / 32 % 8,rfl,by omega,by omega,fun D2 hD2=>?_⟩
     refine iK (lo:=0) (n:=(1 + r / 32 % 8).toNat) (fun j Hv=>ak Hy Hv/\∃ts:List Str,Hv D2=some (.lst (ts.map V.str))/\ts.length=j/\∀x∈ts,∃c,x.cps.toList=[c]/\97<=c/\c < 123) ⟨af hD2 _,[],aa,rfl,fun x hx=>nomatch hx⟩ (fun j Hz hj z=>?_) (fun Hz z=>?_)
     · obtain ⟨sz,ts,gD,tl,t1⟩:=z
       refine ah ?_
       refine eE (A:=fun H5=>dQ _ D2 _ H5 _) ?_
       refine ⟨_,rfl,_,rfl,_,rfl,_,_,rfl,rfl,.inr ⟨by omega,by omega⟩,_,_,rfl,rfl,_,rfl,_,_,rfl,rfl,c,450 + 8 * (0 + (i:Int)) + (0 + (j:Int)),rfl,by omega,by omega,fun a a0 a1=>⟨_,_,rfl,rfl,(by show (0:Int) < 26; decide),?_⟩⟩
       refine ⟨lets,_,_,rfl,rfl,by decide,wA (ax (by decide)) (az (by decide)),?_⟩
       refine ⟨_,gD,GK (show _<=1000 by rw [F0]; omega) (by decide),bh (Pv:=fun j Hv=>ak Hy Hv/\∃ts:List Str,Hv D2=some (.lst (ts.map V.str))/\ts.length=j/\∀x∈ts,∃c,x.cps.toList=[c]/\97<=c/\c < 123) (by repeat' constructor) hj ⟨aG sz hD2,ts++[⟨#[97 + (a % 26).toNat]⟩],by rw [aa,F9]; rfl,by rw [FZ,tl]; rfl,fun x hx=>?_⟩⟩
       rcases List.mem_append.mp hx with z | z
       · exact t1 x z
       · rw [List.mem_singleton.mp z]
         have a2:=az (k:=a) (n:=26) (by decide)
         have a3:=ax (k:=a) (n:=26) (by decide)
         exact ⟨97 + (a % 26).toNat,rfl,by omega,by omega⟩
     obtain ⟨sz,ts,gD,tl,t1⟩:=z
     refine ⟨"",D2,ts,rfl,rfl,aw.of gD,dz 1 (fun x hx=>by obtain ⟨c,e,_⟩:=t1 x hx; rw [← aD,e]; exact F8 _) (by rw [show (("":Str)).length=0 from rfl]; omega),?_⟩
     have w8:=tD t1 (by omega) (by omega)
     obtain ⟨wd,ewd⟩ : ∃wd,wd=Gg "" ts:=⟨_,rfl⟩
     refine ah ?_
     refine kj _ _ ?_
     refine au [some (.int c),some (.int m),some (.ref sm),some (.str lets),some (.ref ln),some (.int (0 + (i:Int))),some (.int r),some (.ref D),some (.str x),some (.str wd)] (by subst ewd; rfl) ?_
     rw [← ewd] at w8
     clear ewd gD
     have sx2:=ae sx1 sz
     have gm2:=sz _ _ gm1
     have gl2:=sz _ _ gl1
     refine ao fun Rj kj=>?_
     suffices hs:∀y:Str,dU y->y ∉ fs->Rj [some (.int c),some (.int m),some (.ref sm),some (.str lets),some (.ref ln),some (.int (0 + (i:Int))),some (.int r),some (.ref D),some (.str y),some (.str wd)] Hz by
       refine ⟨_,rfl,_,rfl,_,_,rfl,rfl,c,440 + (0 + (i:Int)),rfl,by omega,by omega,fun a a0 a1=>⟨_,_,rfl,rfl,(by show (0:Int) < 2; decide),rfl,_,rfl,?_⟩⟩
       refine aE (fun _=>?_) (fun _=>bD (hs x x8 xnf))
       refine ⟨_,rfl,_,rfl,ln,_,rfl,.inl (aw.of gl2),rfl,gg _,_,rfl,?_⟩
       refine aE (fun cw=>?_) (fun _=>hs x x8 xnf)
       have cw:(!wk (.str wd) (fs.map V.str))=true:=cw
       rw [oW] at cw
       refine ⟨_,rfl,?_⟩
       refine ah ?_
       exact hs wd w8 (by simpa using cw)
     intro y y8 ynf
     refine kj _ _ ?_
     refine ⟨_,rfl,.inl ⟨rfl,_,aw.of gl2⟩,_,rfl,ln,_,_,rfl,rfl,gl2,aW (by rw [F0]; omega),⟨_,_,_,_,_,rfl⟩,aG sx2 hln0,by rw [ai sml]; exact gm2,fs++[y],by rw [aa,F9]; rfl,by rw [FZ,fl]; rfl,fun z hz=>?_,wG fnd ynf⟩
     rcases List.mem_append.mp hz with e | e
     · exact f8 z e
     · rw [List.mem_singleton.mp e]; exact y8
   obtain ⟨⟨o5,o6,o7,o8,o9,rfl⟩,sx,gm,fs,gl,fl,f8,fnd⟩:=z
   refine kR _ _ ?_
   exact ⟨_,rfl,q ln fs Hx sx gl fl f8 fnd⟩
theorem qu (s:Src K mg "_law_names" sNames)(m_len:mg "len"=none)(m_range:mg "range"=none)(ST:aY P w K mg base "_law_stir" ["cell","k"] 1 aP):aY P w K mg base "_law_names" ["head","many"] 2 iu:=
 let ⟨f,fd,F,m⟩:=s
 ⟨f,fd,ud F m_len m_range ST,F.kp,jr F fun _ _ _ _ _ _ _ _=>rfl,m⟩
end
end TW
set_option Elab.async false
set_option linter.all false
set_option maxRecDepth 100000
set_option exponentiation.threshold 4000
set_option maxHeartbeats 1000000
namespace TW
open PySem L2
section
variable {P:Program}{w:World}{K:FX}{mg:Str->Option Value}{base:Heap}
abbrev sProg:Stmt:=top 57
theorem bS:ay ["script","head","names","boxes","left","inputs","k","cells","nodes","rows"] ["script"] (ag sProg):=⟨rfl,rfl,rfl,by decide +kernel,rfl,by decide +kernel,by decide +kernel⟩
theorem fL:(ag sProg).names.lookup (F1 "_law_cell_at")=some .globalImplicit:=by decide +kernel
theorem gY:(ag sProg).names.lookup (F1 "_law_names")=some .globalImplicit:=by decide +kernel
theorem cq:(ag sProg).names.lookup (F1 "_law_stir")=some .globalImplicit:=by decide +kernel
theorem gX:(ag sProg).names.lookup (F1 "enumerate")=some .globalImplicit:=by decide +kernel
theorem gq:(ag sProg).names.lookup (F1 "len")=some .globalImplicit:=by decide +kernel
theorem nr:(ag sProg).names.lookup (F1 "list")=some .globalImplicit:=by decide +kernel
theorem md:(ag sProg).names.lookup (F1 "range")=some .globalImplicit:=by decide +kernel
theorem ql:(ag sProg).names.lookup (F1 "sum")=some .globalImplicit:=by decide +kernel
/-! ### _law_program -/
/-- a node and its row,in a list -/
def cB (H:Hp)(v:V)(e:Np):Prop:=∃L nv,v=.ref L/\H L=some (.lst [nv,.str (Gg sp1 e.ws)])/\dW H nv e
theorem cB.same {H H':Hp}(s:ak H H'){v:V}{e:Np}(h:cB H v e):cB H' v e:=let ⟨L,nv,a,b,c⟩:=h; ⟨L,nv,a,s _ _ b,c.keep (ak.tk s)⟩
theorem vJ (n z:Str):"box "++n++" "++z=Gg sp1 ["box",n,z]:=by
 show _=GZ sp1 ["box",n,z]
 rw [StrLaws.glued_eq_join]
 show _="box"++sp1++(n++sp1++z)
 rw [show ("box ":Str)="box"++sp1 by decide +kernel]
 simp only [Str.append_assoc]
theorem zq (n:Str):"input "++n=Gg sp1 ["input",n]:=by
 show _=GZ sp1 ["input",n]
 rw [StrLaws.glued_eq_join]
 show _="input"++sp1++n
 rw [show ("input ":Str)="input"++sp1 by decide +kernel]
theorem uP {H:Hp}{v:V}{e:Np}(h:dW H v e)(w:e.wr):(Gg sp1 e.ws).length<=sizeLine:=by
 obtain ⟨hd,xs,ra,eq⟩:=Np.rowAt h w
 rw [eq]
 exact F2 (lA ra) (by decide)
theorem rZ (sc:List Int):∃cs:List Int,dO (sc.map V.int) (some 1) (some 41)=cs.map V.int/\cs.length<=40:=by
 have e1:HT.fm (sc.map V.int).length 0 (some ((1:Nat):Int))=min 1 (sc.map V.int).length:=HT.cS _ _ _
 have e2:HT.fm (sc.map V.int).length (sc.map V.int).length (some ((41:Nat):Int))=min 41 (sc.map V.int).length:=HT.cS _ _ _
 refine ⟨(sc.drop (HT.fm (sc.map V.int).length 0 (some ((1:Nat):Int)))).take (HT.fm (sc.map V.int).length (sc.map V.int).length (some ((41:Nat):Int)) - HT.fm (sc.map V.int).length 0 (some ((1:Nat):Int))),?_,?_⟩
 · rw [HH,Il]
   rfl
 · rw [Gh,GA,e1,e2,F0]
   omega
theorem vY (cs:List Int):∃ds:List Int,dO (cs.map V.int) none (some ((cs.length:Int) / 2))=ds.map V.int/\ds.length=cs.length / 2:=by
 have e0:(((cs.length / 2:Nat):Nat):Int)=(cs.length:Int) / 2:=by omega
 have e2:HT.fm (cs.map V.int).length (cs.map V.int).length (some ((cs.length / 2:Nat):Int))=min (cs.length / 2) (cs.map V.int).length:=HT.cS _ _ _
 refine ⟨cs.take (cs.length / 2),?_,by rw [Gh]; omega⟩
 unfold dO
 rw [← e0,e2,HT.mR,J4,F0,Ku,HH,Nat.min_eq_left (by omega)]
theorem AW {i:Int}{n:Nat}(h0:0<=i)(h1:i < (n:Int)):JL i n=some i.toNat:=by
 unfold JL
 simp only [if_neg (show ¬ i < 0 by omega)]
 rw [if_pos (by simp [h0,h1])]
theorem EJ {n:Int}(h:1<=n/\n<=16):n.natAbs < 2 ^ 100:=Gk (show n.natAbs < 64 by omega) (by decide)
theorem E.okN.inB {bs:List (Str×Int)}{ns:List Str}(h:bs.map (·.1)=ns):∀{e:E},e.okN (· ∈ ns)->e.okIn (bxP bs)
 | .num _,o=>nZ o
 | .box t x,o=>⟨o.1,by rw [h]; exact o.2⟩
 | .yes,_=>GD
 | .nt a,o=>E.okN.inB h (e:=a) o
 | .two _ a b,o=>⟨E.okN.inB h (e:=a) o.1,E.okN.inB h (e:=b) o.2⟩
theorem iN:∀{l:List Str} {j:Nat} {x:Str},l[j]? = some x->l.Perm (x :: l.eraseIdx j)
 | a :: l,0,x,h=>by
   have:a=x:=by simpa using h
   rw [this]
   exact .refl _
 | a :: l,j + 1,x,h=>by
   have h:l[j]? = some x:=by simpa using h
   exact ((iN h).cons a).trans (.swap x a _)
theorem pU.row {ns:List Str}{m:Int}{e:Np}(h:pU ns m e):(Gg sp1 e.ws).length<=3600:=by
 have key:∀(l:List Str),(∀x∈l,x.length<=31)->(l.map (·.length)).sum<=l.length * 31:=by
   intro l
   induction l with
   | nil=>intro _; exact F8 _
   | cons a l ih=>
     intro h
     have h1:=ih fun x hx=>h x (F7 _ hx)
     have h2:=h a F4
     rw [Gi,GN,F5]
     omega
 have lo:=h.lo
 have w:=h.w
 show (GZ sp1 e.ws).length<=_
 rw [StrLaws.glued_eq_join]
 refine F2 (StrLaws.join_length_le _ _) ?_
 rw [show (sp1:Str).length=1 from rfl]
 match e,lo,w with
 | .put x t n,lo,w=>
   have h1:=lo t (F7 _ F4)
   have h2:=w.1.l8
   have h3:=aQ w.2.2
   have h4:(("put":Str)).length=3:=rfl
   simp only [Np.ws,Gi,Hf,GN,HG,F5,GP]
   omega
 | .say t n,lo,w=>
   have h1:=lo t F4
   have h3:=aQ w.2
   have h4:(("say":Str)).length=3:=rfl
   simp only [Np.ws,Gi,Hf,GN,HG,F5,GP]
   omega
 | .test t n o,lo,w=>
   have h1:=lo t F4
   have h3:=aQ w.2.1
   have h5:=aQ w.2.2
   have h4:(("test":Str)).length=4:=rfl
   simp only [Np.ws,Gi,Hf,GN,HG,F5,GP]
   omega
 | .pick x n,lo,w=>
   have h2:=w.1.l8
   have h3:=aQ w.2
   have h4:(("pick":Str)).length=4:=rfl
   simp only [Np.ws,Gi,Hf,GN,HG,F5,GP]
   omega
 | .fin,_,_=>exact (by decide:3 + 0 + 1 * 1<=3600)
theorem cB.put {H:Hp}{N:Addr}{us us':List V}(gN:H N=some (.lst us)){v:V}{e:Np}(h:cB H v e/\v≠.ref N):cB (upd H N (.lst us')) v e/\v≠.ref N:=by
 obtain ⟨⟨L,nv,rfl,b,c⟩,n⟩:=h
 have ln:L≠N:=fun z=>n (by rw [z])
 exact ⟨⟨L,nv,rfl,by rw [ai ln]; exact b,c.keep (TW.TK.lst gN)⟩,n⟩
def ow (K:FX):Sp:=fun vs H Q _=>∃(a:Addr) (sc:List Int),vs=[.ref a]/\aw K H a (sc.map V.int)/\∀(L p R B I N:Addr) (vb vn:List V) (bs:List (Str×Int)) (ins:List Str) (nds:List Np) (H':Hp),ak H H'->H' L=some (.lst [.ref p,.ref R])->H' p=some (.tup [.ref B,.ref I,.ref N])->Bw H' B I N vb vn bs ins nds->vz bs ins nds->nds.length<=40->H' R=some (.lst ((textOf bs ins nds).map V.str))->Q (.ref L) H'
theorem wX {f:Addr}{fd:FuncData}(F:cf K "_law_program" "_law_program" sProg f fd)(m_len:mg "len"=none)(m_range:mg "range"=none)(m_list:mg "list"=none)(m_str:mg "str"=none)(m_sum:mg "sum"=none)(m_enumerate:mg "enumerate"=none)(CE:aY P w K mg base "_law_cell_at" ["script","k"] 41 (gH K))(NS:aY P w K mg base "_law_names" ["head","many"] 41 iu)(ST:aY P w K mg base "_law_stir" ["cell","k"] 41 aP)(NO:aY P w K mg base "_law_node" ["cell","names","many"] 41 lI):aN P w K mg base CX0 42 f fd ["script"] (ow K):=by
 refine F.ok bS (fun vs H Q E h=>?_) (fun cdv A outer s H vs Q E hr h=>?_)
 · obtain ⟨a,sc,rfl,_⟩:=h
   rfl
 · obtain ⟨a,sc,rfl,hs,q⟩:=h
   refine eV ⟨_,(KG (KH 1 bS.nd (KO CE hr fL (Kx (Ky 0) (Kx KC Kz))))
     (KG (KH 2 bS.nd (KO NS hr gY (Kx (Ky 1) (Kx (KD KP (KO ST hr cq (Kx (Ky 1) (Kx KC Kz))) KC) Kz))))
     (KG (L3.Ds (i:=3) [none,none,some 1] ["k","name","head"] (show aC _ (ag sProg) from ⟨rfl,by decide +kernel,by decide +kernel,by decide +kernel⟩) (by rfl) (L3.iE gX m_enumerate (Kx (Ky 2) Kz)) (fun _ _ _ _ _=>⟨(L3.vX 2 (K9 (K3 0 (show (["k","name","head"]:List Str).Nodup from by decide +kernel)) (K9 (K3 1 (show (["k","name","head"]:List Str).Nodup from by decide +kernel)) Lu))),Lk,(KS (Kx (Ky 1) (Kx (KD KZ KC (KD KP (KO ST hr (by rfl) (Kx (Ky 2) (Kx (KD KZ KC (Ky 0)) Kz))) KC)) Kz)))⟩) bS.nd)
     (KG (KH 4 bS.nd (Lh L3.y6 nr m_list (by decide +kernel) (Kx (Ky 2) Kz)))
     (KG (KH 5 bS.nd (KJ Kz))
     (KG (LP (LG md m_range (Kx (KD KP (KO ST hr cq (Kx (Ky 1) (Kx KC Kz))) (KD KZ (KU K4 gq m_len Gd (Kx (Ky 2) Kz)) KC)) Kz)) (K3 6 bS.nd) (KI (Li (Lx (Ky 5) (Kx (L3.CA (Ky 4) (Kx (KD KP (KO ST hr cq (Kx (Ky 1) (Kx (KD KZ KC (Ky 6)) Kz))) (KU K4 gq m_len Gd (Kx (Ky 4) Kz))) Kz)) Kz)))))
     (KG (KH 7 bS.nd (L3.yB (Ky 0) KC KC))
     (KG (KR (KL (L3.tZ (m:=2) (cy hr _ (by decide))) (Ky 7) (KJ Kz)) (KI (KH 7 bS.nd (KJ (Kx KC Kz)))) KY)
     (KG (L3.Ds (i:=8) [none,some 2,some 7] ["cell","names","cells"] (show aC _ (ag sProg) from ⟨rfl,by decide +kernel,by decide +kernel,by decide +kernel⟩) (by rfl) (Lo (Ky 7)) (fun _ _ _ _ _=>⟨(K3 0 (show (["cell","names","cells"]:List Str).Nodup from by decide +kernel)),Lk,(KO NO hr (by rfl) (Kx (Ky 0) (Kx (Ky 1) (Kx (KU K4 (by rfl) m_len Gd (Kx (Ky 2) Kz)) Kz))))⟩) bS.nd)
     (KG (Lq (KL Ls (KU L3.BQ ql m_sum (by decide +kernel) (Kx (LA [none,none] ["node","row"] (show aC _ (ag sProg) from ⟨rfl,by decide +kernel,by decide +kernel,by decide +kernel⟩) (by rfl) (Lo (Ky 8)) (fun _ _ _ _ _=>⟨(L3.vW 2 (K9 (K3 0 (show (["node","row"]:List Str).Nodup from by decide +kernel)) (K9 (K3 1 (show (["node","row"]:List Str).Nodup from by decide +kernel)) Lu))),Lk,(KD KZ (KU LK (by rfl) m_len Gd (Kx (Ky 1) Kz)) KC)⟩)) Kz)) KC) (KG (KH 7 bS.nd (LH (Ky 7) (KD K5 (KU K4 gq m_len Gd (Kx (Ky 7) Kz)) KC)))
     (KI (L3.Ds (i:=8) [none,some 2,some 7] ["cell","names","cells"] (show aC _ (ag sProg) from ⟨rfl,by decide +kernel,by decide +kernel,by decide +kernel⟩) (by rfl) (Lo (Ky 7)) (fun _ _ _ _ _=>⟨(K3 0 (show (["cell","names","cells"]:List Str).Nodup from by decide +kernel)),Lk,(KO NO hr (by rfl) (Kx (Ky 0) (Kx (Ky 1) (Kx (KU K4 (by rfl) m_len Gd (Kx (Ky 2) Kz)) Kz))))⟩) bS.nd))))
     (KG (KH 9 bS.nd (KD K1 (LA [none,none] ["name","size"] (show aC _ (ag sProg) from ⟨rfl,by decide +kernel,by decide +kernel,by decide +kernel⟩) (by rfl) (Lo (Ky 3)) (fun _ _ _ _ _=>⟨(L3.vX 2 (K9 (K3 0 (show (["name","size"]:List Str).Nodup from by decide +kernel)) (K9 (K3 1 (show (["name","size"]:List Str).Nodup from by decide +kernel)) Lu))),Lk,(KD La (KD La (KD La KA (Ky 0)) KA) (Lh Lz (by rfl) m_str (by decide +kernel) (Kx (Ky 1) Kz)))⟩)) (LA [none] ["name"] (show aC _ (ag sProg) from ⟨rfl,by decide +kernel,by decide +kernel,by decide +kernel⟩) (by rfl) (Lo (Ky 5)) (fun _ _ _ _ _=>⟨(K3 0 (show (["name"]:List Str).Nodup from by decide +kernel)),Lk,(KD La KA (Ky 0))⟩))))
     (KI (KQ (KJ (Kx (KS (Kx (Ky 3) (Kx (Ky 5) (Kx (LA [none,none] ["node","row"] (show aC _ (ag sProg) from ⟨rfl,by decide +kernel,by decide +kernel,by decide +kernel⟩) (by rfl) (Lo (Ky 8)) (fun _ _ _ _ _=>⟨(L3.vW 2 (K9 (K3 0 (show (["node","row"]:List Str).Nodup from by decide +kernel)) (K9 (K3 1 (show (["node","row"]:List Str).Nodup from by decide +kernel)) Lu))),Lk,(Ky 0)⟩)) Kz)))) (Kx (KD K1 (Ky 9) (LA [none,none] ["node","row"] (show aC _ (ag sProg) from ⟨rfl,by decide +kernel,by decide +kernel,by decide +kernel⟩) (by rfl) (Lo (Ky 8)) (fun _ _ _ _ _=>⟨(L3.vW 2 (K9 (K3 0 (show (["node","row"]:List Str).Nodup from by decide +kernel)) (K9 (K3 1 (show (["node","row"]:List Str).Nodup from by decide +kernel)) Lu))),Lk,(Ky 1)⟩))) Kz)))))))))))))))),?_⟩
   refine ao fun Rk kR=>?_
   refine ⟨_,rfl,a,sc,0,rfl,hs,by decide,fun c=>?_⟩
   refine ah ?_
   refine kR _ _ ?_
   refine au [some (.ref a),some (.int c),none,none,none,none,none,none,none,none] rfl ?_
   refine ao fun Rk kR=>?_
   refine ⟨_,rfl,_,rfl,c,420,rfl,by decide,by decide,fun r r0 r1=>⟨_,_,rfl,rfl,(by show (0:Int) < 5; decide),c,r % 5,rfl,ax (by decide),(by have:=az (k:=r) (n:=5) (by decide); omega),fun nl ns H1 s1 gn nlen n8 nnd=>?_⟩⟩
   have r5:=az (k:=r) (n:=5) (by decide)
   have r50:=ax (k:=r) (n:=5) (by decide)
   have D1:Nm H1 nl ns:=⟨gn,by omega⟩
   have n4:=D1.l4
   refine ah ?_
   refine kR _ _ ?_
   refine au [some (.ref a),some (.int c),some (.ref nl),none,none,none,none,none,none,none] rfl ?_
   refine ao fun Rk kR=>?_
   refine ⟨_,rfl,nl,rfl,⟨_,aw.of gn⟩,fun B hB=>?_⟩
   refine p8 (xs:=ns.map V.str) (fun i Hy=>ak H1 Hy/\∃us bs,Hy B=some (.lst us)/\us.length=i/\Paired (iy Hy) us bs/\bs.map (·.1)=ns.take i/\∀b∈bs,dU b.1/\1<=b.2/\b.2<=16) ⟨af hB _,[],[],aa,rfl,.nil,rfl,fun b hb=>nomatch hb⟩ (fun i Hy _ z=>aw.of (z.1 _ _ gn)) (fun i x0 pp Hy hx z hpp=>?_) (fun Hy z=>?_)
   · obtain ⟨sy,us,bs,gB,ul,pu,en,wu⟩:=z
     have hil:=(List.getElem?_eq_some_iff.mp hx).1
     have hil':i < ns.length:=by rw [F0] at hil; exact hil
     obtain ⟨x,hxi,rfl⟩:=cJ hx
     have sp:=af hpp (.tup [.int (i:Nat),.str x])
     have gp:(upd Hy pp (.tup [.int (i:Nat),.str x])) pp=some (.tup [.int (i:Nat),.str x]):=aa
     generalize upd Hy pp (.tup [.int (i:Nat),.str x])=Hz at sp gp ⊢
     refine ⟨pp,_,rfl,bc.of gp,rfl,_,_,rfl,_,_,rfl,rfl,?_⟩
     refine eE (A:=fun H5=>dQ _ B _ H5 _) ?_
     refine ⟨_,rfl,_,rfl,_,rfl,_,_,rfl,rfl,c,421 + (i:Int),rfl,by omega,by omega,fun k k0 k1=>⟨_,_,rfl,rfl,(by show (0:Int) < 16; decide),_,_,rfl,rfl,M5,fun q2 hq2=>?_⟩⟩
     have z0:=ax (k:=k) (n:=16) (by decide)
     have z1:=az (k:=k) (n:=16) (by decide)
     have tq:=af hq2 (.tup [.str x,.int (1 + k % 16)])
     have gBz:=tq _ _ (sp _ _ gB)
     refine ⟨us,gBz,aW (by omega),bh (Pv:=fun i Hy=>ak H1 Hy/\∃us bs,Hy B=some (.lst us)/\us.length=i/\Paired (iy Hy) us bs/\bs.map (·.1)=ns.take i/\∀b∈bs,dU b.1/\1<=b.2/\b.2<=16) (by repeat' constructor) hil ⟨aG (ae (ae sy sp) tq) hB,us++[.ref q2],bs++[(x,1 + k % 16)],aa,by rw [FZ,ul]; rfl,?_,?_,fun b hb=>?_⟩⟩
     · refine Paired.snoc (Paired.mapP pu fun _ _ z=>Tp.keep ((ak.tk (ae sp tq)).trans (TW.TK.lst gBz)) z) ⟨q2,rfl,TW.TK.lst gBz _ _ aa⟩
     · rw [F9,en,Ho,hxi]
       rfl
     · rcases List.mem_append.mp hb with z | z
       · exact wu b z
       · rw [List.mem_singleton.mp z]
         exact ⟨n8 x (Gx hxi),by show 1<=1 + k % 16; omega,by show 1 + k % 16<=16; omega⟩
   obtain ⟨sy,us,bs,gB,ul,pu,en,wb⟩:=z
   rw [F0] at ul
   rw [F0,HC] at en
   have bl:=Paired.length pu
   obtain ⟨H2,vb,s2,gB,pb,vl⟩ : ∃H2 vb,ak H1 H2/\H2 B=some (.lst vb)/\Paired (iy H2) vb bs/\H2=Hy/\vb=us:=⟨Hy,us,sy,gB,pu,rfl,rfl⟩
   obtain ⟨rfl,rfl⟩:=vl
   clear pu sy
   have D2:=D1.go s2
   refine ah ?_
   refine kR _ _ ?_
   refine au [some (.ref a),some (.int c),some (.ref nl),some (.ref B),none,none,none,none,none,none] rfl ?_
   refine r6 fun Rk kR=>?_
   refine ⟨_,rfl,nl,_,rfl,.inl (aw.of D2.hn),fun lf hlf=>?_⟩
   have sl:ak H2 (upd H2 lf (.lst (ns.map V.str))):=af hlf _
   have gl:(upd H2 lf (.lst (ns.map V.str))) lf=some (.lst (ns.map V.str)):=aa
   generalize upd H2 lf (.lst (ns.map V.str))=H3 at sl gl ⊢
   refine ah ?_
   refine ⟨M3,fun I hI=>?_⟩
   have lfI:lf≠I:=aq gl hI
   have si:ak H3 (upd H3 I (.lst [])):=af hI _
   have gi:(upd H3 I (.lst [])) I=some (.lst []):=aa
   generalize upd H3 I (.lst [])=H4 at si gi ⊢
   have gl:=si _ _ gl
   have s13:=ae s2 (ae sl si)
   refine ah ?_
   refine kR _ _ ?_
   refine au [some (.ref a),some (.int c),some (.ref nl),some (.ref B),some (.ref lf),some (.ref I),none,none,none,none] rfl ?_
   refine ao fun Rk kR=>?_
   refine ⟨_,rfl,c,430,rfl,by decide,by decide,fun u u0 u1=>⟨_,rfl,nl,_,rfl,.inl (aw.of (si _ _ (sl _ _ D2.hn))),_,_,rfl,rfl,_,_,rfl,rfl,(by show (0:Int) < ((ns.map V.str).length:Int) + 1; omega),u % (((ns.map V.str).length:Int) + 1),rfl,?_⟩⟩
   have j0:=ax (k:=u) (n:=((ns.map V.str).length:Int) + 1) (by omega)
   have j1:=az (k:=u) (n:=((ns.map V.str).length:Int) + 1) (by omega)
   rw [F0] at j0 j1 ⊢
   refine ⟨by omega,by omega,?_⟩
   have s24:=ae sl si
   refine eJ (lo:=0) (n:=(u % ((ns.length:Int) + 1)).toNat) (fun i σ Hx=>(∃o6,σ=[some (.ref a),some (.int c),some (.ref nl),some (.ref B),some (.ref lf),some (.ref I),o6,none,none,none])/\ak H2 Hx/\∃ls is:List Str,Hx lf=some (.lst (ls.map V.str))/\Hx I=some (.lst (is.map V.str))/\ls.length + i=ns.length/\is.length=i/\(is++ls).Perm ns) ⟨⟨_,rfl⟩,s24,ns,[],gl,gi,rfl,rfl,.refl _⟩ (fun i σ Hx hi z=>?_) (fun σ Hx z=>?_)
   · obtain ⟨⟨o6,rfl⟩,sx,ls,is,hl,hi',ll,il,pm⟩:=z
     refine ah ?_
     refine au [some (.ref a),some (.int c),some (.ref nl),some (.ref B),some (.ref lf),some (.ref I),some (.int (0 + (i:Int))),none,none,none] rfl ?_
     refine ⟨_,rfl,.inl ⟨rfl,_,aw.of hi'⟩,_,rfl,.inl ⟨rfl,_,aw.of hl⟩,_,rfl,_,rfl,_,_,rfl,rfl,c,431 + (0 + (i:Int)),rfl,by omega,by omega,fun k k0 k1=>⟨_,rfl,lf,_,rfl,.inl (aw.of hl),_,_,rfl,rfl,(by rw [F0]; omega),?_⟩⟩
     have m0:=ax (k:=k) (n:=((ls.map V.str).length:Int)) (by rw [F0]; omega)
     have m1:=az (k:=k) (n:=((ls.map V.str).length:Int)) (by rw [F0]; omega)
     have ml:(ls.map V.str).length=ls.length:=F0 ..
     obtain ⟨j,ej⟩ : ∃j,j=k % ((ls.map V.str).length:Int):=⟨_,rfl⟩
     rw [← ej] at m0 m1
     obtain ⟨x,gx,hxm,_⟩:=bo V.str ls m0 (by omega)
     refine ⟨lf,_,_,j.toNat,.str x,rfl,rfl,hl,?_,?_,?_,?_,?_⟩
     · show -(2 ^ 63)<=k % ((ls.map V.str).length:Int)
       rw [← ej]; omega
     · show k % ((ls.map V.str).length:Int) < 2 ^ 63
       rw [← ej]; omega
     · show JL (k % ((ls.map V.str).length:Int)) _=_
       rw [← ej]; exact AW m0 m1
     · rw [GI,gx]; rfl
     refine ⟨I,_,_,rfl,rfl,by rw [ai lfI.symm]; exact hi',aW (by rw [F0]; omega),⟨_,rfl⟩,aG (aG sx hlf) (aO sl hI),ls.eraseIdx j.toNat,is++[x],?_,by rw [aa,F9]; rfl,?_,by rw [FZ,il]; rfl,?_⟩
     · rw [ai lfI,aa,j8]
     · rw [List.length_eraseIdx,if_pos (by omega)]
       omega
     · rw [GU]
       exact ((iN gx).symm.append_left is).trans pm
   obtain ⟨⟨o6,rfl⟩,sx,ls,ins,_,gI,ll,il,pm⟩:=z
   have i8:∀x∈ins,dU x:=fun x hx=>n8 x (pm.mem_iff.mp (GY _ hx))
   have sB:=ae s1 (ae s2 sx)
   have gB:=sx _ _ gB
   have pb:Paired (iy Hx) vb bs:=Paired.mapP pb fun _ _ z=>Tp.keep (ak.tk sx) z
   have DB:=D2.go sx
   have insl:ins.length<=4:=by omega
   clear gl gi sl si s24 s13 s2 D2 hI hlf lfI hB
   refine kR _ _ ?_
   refine r6 fun Rk kR=>?_
   suffices hcell:∀(cl:Addr) (cs:List Int) (H5:Hp),ak Hx H5->H5 cl=some (.lst (cs.map V.int))->(1<=cs.length/\cs.length<=40)->Rk [some (.ref a),some (.int c),some (.ref nl),some (.ref B),some (.ref lf),some (.ref I),o6,some (.ref cl),none,none] H5 by
     obtain ⟨cs,ecs,c40⟩:=rZ sc
     refine ⟨_,rfl,_,rfl,_,rfl,a,_,rfl,ak.seq sB hs,fun cl hcl=>?_⟩
     rw [ecs]
     have sc1:ak Hx (upd Hx cl (.lst (cs.map V.int))):=af hcl _
     have gc:(upd Hx cl (.lst (cs.map V.int))) cl=some (.lst (cs.map V.int)):=aa
     generalize upd Hx cl (.lst (cs.map V.int))=Hc at sc1 gc ⊢
     refine ah ?_
     refine ⟨_,rfl,M3,fun z hz=>?_⟩
     have sz:ak Hc (upd Hc z (.lst [])):=af hz _
     have gz:(upd Hc z (.lst [])) z=some (.lst []):=aa
     generalize upd Hc z (.lst [])=Hz at sz gz ⊢
     refine ⟨_,RB.nil (aw.of (sz _ _ gc)) (aw.of gz),_,rfl,?_⟩
     refine aE (fun _=>?_) (fun cc=>?_)
     · refine ⟨M4,fun c2 hc2=>?_⟩
       refine ah ?_
       exact hcell c2 [0] _ (av (ae sc1 sz) hc2) aa (by decide)
     · exact hcell cl cs Hz (ae sc1 sz) (sz _ _ gc) ⟨by cases cs with | nil=>exact absurd rfl cc | cons a l=>exact Ig _,c40⟩
   intro cl cs H5 s5 hcl ⟨c1,c40⟩
   refine kR _ _ ?_
   refine ao fun Rk kR=>?_
   have D5:=DB.go s5
   refine ⟨_,rfl,cl,rfl,⟨_,aw.of hcl⟩,fun N hN=>?_⟩
   refine bK (xs:=cs.map V.int) (fun i Hy=>ak H5 Hy/\∃us es,Hy N=some (.lst us)/\us.length=i/\Paired (fun v e=>cB Hy v e/\v≠.ref N) us es/\∀e∈es,pU ns ((cs.map V.int).length:Int) e) ⟨af hN _,[],[],aa,rfl,.nil,fun e he=>nomatch he⟩ (fun i Hy _ z=>aw.of (z.1 _ _ hcl)) (fun i x0 Hy hx z=>?_) (fun Hy z=>?_)
   · obtain ⟨sy,us,es,gN,ul,pu,wu⟩:=z
     have hil:=(List.getElem?_eq_some_iff.mp hx).1
     have hil':i < cs.length:=by rw [F0] at hil; exact hil
     obtain ⟨cc,_,rfl⟩:=cJ hx
     refine ah ?_
     refine eE (A:=fun H5=>dQ _ N _ H5 _) ?_
     refine ⟨_,rfl,_,rfl,_,rfl,cl,_,rfl,.inl (aw.of (sy _ _ hcl)),cc,nl,_,ns,rfl,D5.go sy,n8,by rw [F0]; omega,by rw [F0]; omega,fun L v e Hz hL sz gL nd wr=>?_⟩
     have gNz:=sz _ _ gN
     have LN:L≠N:=(aq gN hL).symm
     refine ⟨us,gNz,aW (by omega),bh (Pv:=fun i Hy=>ak H5 Hy/\∃us es,Hy N=some (.lst us)/\us.length=i/\Paired (fun v e=>cB Hy v e/\v≠.ref N) us es/\∀e∈es,pU ns ((cs.map V.int).length:Int) e) (by repeat' constructor) hil ⟨aG (ae sy sz) hN,us++[.ref L],es++[e],aa,by rw [FZ,ul]; rfl,?_,fun e' he=>?_⟩⟩
     · refine Paired.snoc (Paired.mapP pu fun _ _ z=>cB.put gNz ⟨cB.same sz z.1,z.2⟩) (cB.put gNz ⟨⟨L,v,rfl,gL,nd⟩,fun z=>LN (by injection z)⟩)
     · rcases List.mem_append.mp he with z | z
       · exact wu e' z
       · rw [List.mem_singleton.mp z]; exact wr
   obtain ⟨sy,us,es,gN,ul,pu,wu⟩:=z
   rw [F0] at ul wu

   refine ah ?_
   refine kR _ _ ?_
   refine au [some (.ref a),some (.int c),some (.ref nl),some (.ref B),some (.ref lf),some (.ref I),o6,some (.ref cl),some (.ref N),none] rfl ?_
   refine ao fun Rk kR=>?_
   refine ⟨fun (d:Nat) (σ:L2.St) (Hy:Hp)=>∃(cl:Addr) (cs:List Int) (N:Addr) (us:List V) (es:List Np),σ=[some (.ref a),some (.int c),some (.ref nl),some (.ref B),some (.ref lf),some (.ref I),o6,some (.ref cl),some (.ref N),none]/\d=cs.length/\ak Hx Hy/\Hy cl=some (.lst (cs.map V.int))/\(1<=cs.length/\cs.length<=40)/\Hy N=some (.lst us)/\us.length=cs.length/\Paired (fun v e=>cB Hy v e/\v≠.ref N) us es/\∀e∈es,pU ns (cs.length:Int) e,⟨cs.length,cl,cs,N,us,es,rfl,rfl,ae s5 sy,sy _ _ hcl,⟨c1,c40⟩,gN,ul,pu,wu⟩,fun d σ Hz z=>?_⟩
   clear hcl s5 D5 gN sy pu wu ul hN H5 c1 c40
   obtain ⟨cl,cs,N,us,es,rfl,rfl,s5,hcl,⟨c1,c40⟩,gN,ul,pu,wu⟩:=z
   have el:=Paired.length pu
   refine ⟨_,rfl,N,rfl,⟨_,aw.of gN⟩,fun D hD=>?_⟩
   refine bK (xs:=us) (fun i Hy=>ak Hz Hy/\∃ks:List Int,Hy D=some (.lst (ks.map V.int))/\ks.length=i/\∀k∈ks,k<=3601) ⟨af hD _,[],aa,rfl,fun k hk=>nomatch hk⟩ (fun i Hy _ z=>aw.of (z.1 _ _ gN)) (fun i x0 Hy hx z=>?_) (fun Hy z=>?_)
   · obtain ⟨sy,ks,gD,kl,k3⟩:=z
     have hil:=(List.getElem?_eq_some_iff.mp hx).1
     obtain ⟨e,hei,⟨L,nv,rfl,gL,nd⟩,_⟩:=Paired.get pu hx
     refine ⟨L,_,rfl,aw.of (sy _ _ gL),rfl,_,_,rfl,_,_,rfl,rfl,?_⟩
     refine eE (A:=fun H5=>dQ _ D _ H5 _) ?_
     refine ⟨_,rfl,_,rfl,uP nd (wu e (Gx hei)).w,_,_,rfl,rfl,?_⟩
     refine ⟨_,gD,aW (by rw [F0]; omega),bh (Pv:=fun i Hy=>ak Hz Hy/\∃ks:List Int,Hy D=some (.lst (ks.map V.int))/\ks.length=i/\∀k∈ks,k<=3601) (by repeat' constructor) hil ⟨aG sy hD,ks++[((Gg sp1 e.ws).length:Int) + 1],by rw [aa,F9]; rfl,by rw [FZ,kl]; rfl,fun k hk=>?_⟩⟩
     rcases List.mem_append.mp hk with z | z
     · exact k3 k z
     · rw [List.mem_singleton.mp z]
       have:=(wu e (Gx hei)).row
       omega
   obtain ⟨sy,ks,gD,kl,k3⟩:=z
   refine ⟨D,ks,rfl,aw.of gD,_,_,rfl,rfl,_,rfl,?_⟩
   have s5:=ae s5 sy
   have hcl:=sy _ _ hcl
   have gN:=sy _ _ gN
   have pu:Paired (fun v e=>cB Hy v e/\v≠.ref N) us es:=Paired.mapP pu fun _ _ z=>⟨cB.same sy z.1,z.2⟩
   refine aE (fun cc=>?_) (fun _=>?_)
   · have cpos:2<=cs.length:=by
       refine Nat.lt_of_le_of_ne c1 fun z=>?_
       have kn:ks.length=1:=by omega
       have cc:=of_decide_eq_true cc
       match ks,kn,k3,cc with
       | [k],_,k3,cc=>
         have:=k3 k F4
         have cc:(3700:Int) < [k].sum:=cc
         simp only [GN,HG] at cc
         omega
     refine ⟨fun σ' H'=>∃d',d' < cs.length/\(fun (d:Nat) (σ:L2.St) (Hy:Hp)=>∃(cl:Addr) (cs:List Int) (N:Addr) (us:List V) (es:List Np),σ=[some (.ref a),some (.int c),some (.ref nl),some (.ref B),some (.ref lf),some (.ref I),o6,some (.ref cl),some (.ref N),none]/\d=cs.length/\ak Hx Hy/\Hy cl=some (.lst (cs.map V.int))/\(1<=cs.length/\cs.length<=40)/\Hy N=some (.lst us)/\us.length=cs.length/\Paired (fun v e=>cB Hy v e/\v≠.ref N) us es/\∀e∈es,pU ns (cs.length:Int) e) d' σ' H',fun σ' H' z=>z,?_⟩
     refine ao fun Rk2 kR2=>?_
     refine ⟨_,rfl,_,rfl,cl,_,rfl,.inl (aw.of hcl),_,_,rfl,rfl,⟨by decide,by decide +kernel⟩,_,rfl,cl,_,rfl,aw.of hcl,fun c2 hc2=>?_⟩
     obtain ⟨ds,eds,dl⟩:=vY cs
     refine tP (fun H'=>fJ 7 (.ref c2) [some (.ref a),some (.int c),some (.ref nl),some (.ref B),some (.ref lf),some (.ref I),o6,some (.ref cl),some (.ref N),none] H' _) (upd Hy c2 (.lst (ds.map V.int))) (by rw [F0]; show upd Hy c2 (.lst (dO (cs.map V.int) none (some ((cs.length:Int) / 2))))=_; rw [eds]) ?_
     have sc2:ak Hy (upd Hy c2 (.lst (ds.map V.int))):=af hc2 _
     have gc2:(upd Hy c2 (.lst (ds.map V.int))) c2=some (.lst (ds.map V.int)):=aa
     generalize upd Hy c2 (.lst (ds.map V.int))=Hc2 at sc2 gc2 ⊢
     refine ah ?_
     refine kR2 _ _ ?_
     refine au [some (.ref a),some (.int c),some (.ref nl),some (.ref B),some (.ref lf),some (.ref I),o6,some (.ref c2),some (.ref N),none] rfl ?_
     have D5:=DB.go (ae s5 sc2)
     refine ⟨_,rfl,c2,rfl,⟨_,aw.of gc2⟩,fun N hN=>?_⟩
     refine bK (xs:=ds.map V.int) (fun i Hw=>ak Hc2 Hw/\∃us es,Hw N=some (.lst us)/\us.length=i/\Paired (fun v e=>cB Hw v e/\v≠.ref N) us es/\∀e∈es,pU ns ((ds.map V.int).length:Int) e) ⟨af hN _,[],[],aa,rfl,.nil,fun e he=>nomatch he⟩ (fun i Hw _ z=>aw.of (z.1 _ _ gc2)) (fun i x0 Hw hx z=>?_) (fun Hw z=>?_)
     · obtain ⟨sy,us,es,gN,ul,pu,wu⟩:=z
       have hil:=(List.getElem?_eq_some_iff.mp hx).1
       have hil':i < ds.length:=by rw [F0] at hil; exact hil
       obtain ⟨cc,_,rfl⟩:=cJ hx
       refine ah ?_
       refine eE (A:=fun H5=>dQ _ N _ H5 _) ?_
       refine ⟨_,rfl,_,rfl,_,rfl,c2,_,rfl,.inl (aw.of (sy _ _ gc2)),cc,nl,_,ns,rfl,D5.go sy,n8,by rw [F0]; omega,by rw [F0]; omega,fun L v e Hr hL sz gL nd wr=>?_⟩
       have gNz:=sz _ _ gN
       have LN:L≠N:=(aq gN hL).symm
       refine ⟨us,gNz,aW (by omega),bh (Pv:=fun i Hw=>ak Hc2 Hw/\∃us es,Hw N=some (.lst us)/\us.length=i/\Paired (fun v e=>cB Hw v e/\v≠.ref N) us es/\∀e∈es,pU ns ((ds.map V.int).length:Int) e) (by repeat' constructor) hil ⟨aG (ae sy sz) hN,us++[.ref L],es++[e],aa,by rw [FZ,ul]; rfl,?_,fun e' he=>?_⟩⟩
       · refine Paired.snoc (Paired.mapP pu fun _ _ z=>cB.put gNz ⟨cB.same sz z.1,z.2⟩) (cB.put gNz ⟨⟨L,v,rfl,gL,nd⟩,fun z=>LN (by injection z)⟩)
       · rcases List.mem_append.mp he with z | z
         · exact wu e' z
         · rw [List.mem_singleton.mp z]; exact wr
     obtain ⟨sy,us,es,gN,ul,pu,wu⟩:=z
     rw [F0] at ul wu
     refine ah ?_
     exact ⟨ds.length,by omega,c2,ds,N,us,es,rfl,rfl,ae (ae s5 sc2) sy,sy _ _ gc2,⟨by omega,by omega⟩,gN,ul,pu,wu⟩
   have gB:=s5 _ _ gB
   have gI:=s5 _ _ gI
   have pb:Paired (iy Hy) vb bs:=Paired.mapP pb fun _ _ z=>Tp.keep (ak.tk s5) z
   have sB:=ae sB s5
   have bsl:bs.length<=4:=by omega
   clear hcl gD kl hD DB D1 gn hs
   refine kR _ _ ?_
   refine ao fun Rk kR=>?_
   refine ⟨_,rfl,B,rfl,⟨_,aw.of gB⟩,fun E1 hE1=>?_⟩
   refine bK (xs:=vb) (fun i Hv=>ak Hy Hv/\Hv E1=some (.lst ((bs.take i).map fun b=>V.str (Gg sp1 (kF b))))) ⟨af hE1 _,aa⟩ (fun i Hv _ z=>aw.of (z.1 _ _ gB)) (fun i x0 Hv hx z=>?_) (fun Hv z=>?_)
   · obtain ⟨sv,gE⟩:=z
     have hil:=(List.getElem?_eq_some_iff.mp hx).1
     obtain ⟨b,hbi,pp,rfl,hpp⟩:=Paired.get pb hx
     have w9:=wb b (Gx hbi)
     have w8:=w9.1.l8
     have n1:=wN (EJ w9.2)
     have e1:(("box ":Str)).length=4:=rfl
     have e2:((" ":Str)).length=1:=rfl
     refine ⟨pp,_,rfl,bc.of (sv _ _ hpp),rfl,_,_,rfl,_,_,rfl,rfl,?_⟩
     refine eE (A:=fun H5=>dQ _ E1 _ H5 _) ?_
     refine ⟨_,rfl,"box ",_,rfl,rfl,fit (by omega),_," ",rfl,rfl,fit (by rw [strLen_append]; omega),_,rfl,.inl ⟨_,rfl,Ih (d6 (EJ w9.2)) (by decide),_,_,rfl,rfl,fit (by rw [strLen_append,strLen_append]; omega),?_⟩⟩
     refine ⟨_,gE,aW (by rw [F0,Gh]; omega),bh (Pv:=fun i Hv=>ak Hy Hv/\Hv E1=some (.lst ((bs.take i).map fun b=>V.str (Gg sp1 (kF b))))) (by repeat' constructor) hil ⟨aG sv hE1,?_⟩⟩
     rw [aa,vJ,Ho,hbi,F9]
     rfl
   obtain ⟨sv,gE⟩:=z
   rw [show vb.length=bs.length from bl,HC] at gE
   have gI':=sv _ _ gI
   refine ⟨_,rfl,I,rfl,⟨_,aw.of gI'⟩,fun E2 hE2=>?_⟩
   refine bK (xs:=ins.map V.str) (fun i Hu=>ak Hv Hu/\Hu E2=some (.lst ((ins.take i).map fun x=>V.str (Gg sp1 (wq x))))) ⟨af hE2 _,aa⟩ (fun i Hu _ z=>aw.of (z.1 _ _ gI')) (fun i x0 Hu hx z=>?_) (fun Hu z=>?_)
   · obtain ⟨su,gE⟩:=z
     have hil:=(List.getElem?_eq_some_iff.mp hx).1
     have hil':i < ins.length:=by rw [F0] at hil; exact hil
     obtain ⟨x,hxi,rfl⟩:=cJ hx
     have w8:=(i8 x (Gx hxi)).l8
     have e1:(("input ":Str)).length=6:=rfl
     refine ah ?_
     refine eE (A:=fun H5=>dQ _ E2 _ H5 _) ?_
     refine ⟨_,rfl,"input ",_,rfl,rfl,fit (by omega),?_⟩
     refine ⟨_,gE,aW (by rw [F0,Gh]; omega),bh (Pv:=fun i Hu=>ak Hv Hu/\Hu E2=some (.lst ((ins.take i).map fun x=>V.str (Gg sp1 (wq x))))) (by repeat' constructor) hil ⟨aG su hE2,?_⟩⟩
     rw [aa,zq,Ho,hxi,F9]
     rfl
   obtain ⟨su,gE2⟩:=z
   rw [F0,HC] at gE2
   refine ⟨E1,E2,_,_,rfl,rfl,su _ _ gE,gE2,small (by rw [F0,F0]; omega),fun R0 hR0=>?_⟩
   have sR:=af hR0 (.lst (bs.map (fun b=>V.str (Gg sp1 (kF b)))++ins.map (fun x=>V.str (Gg sp1 (wq x)))))
   have gR:(upd Hu R0 (.lst (bs.map (fun b=>V.str (Gg sp1 (kF b)))++ins.map (fun x=>V.str (Gg sp1 (wq x)))))) R0=some (.lst (bs.map (fun b=>V.str (Gg sp1 (kF b)))++ins.map (fun x=>V.str (Gg sp1 (wq x))))):=aa
   generalize upd Hu R0 (.lst (bs.map (fun b=>V.str (Gg sp1 (kF b)))++ins.map (fun x=>V.str (Gg sp1 (wq x)))))=H7 at sR gR ⊢
   have s7:=ae (ae sv su) sR
   have gB:=s7 _ _ gB
   have gI:=s7 _ _ gI
   have gN:=s7 _ _ gN
   have pb:Paired (iy H7) vb bs:=Paired.mapP pb fun _ _ z=>Tp.keep (ak.tk s7) z
   have pu:Paired (fun v e=>cB H7 v e/\v≠.ref N) us es:=Paired.mapP pu fun _ _ z=>⟨cB.same s7 z.1,z.2⟩
   have sB:=ae sB s7
   clear gE gE2 hE1 hE2 sv su sR s7 gI'
   refine ah ?_
   refine kR _ _ ?_
   refine au [some (.ref a),some (.int c),some (.ref nl),some (.ref B),some (.ref lf),some (.ref I),o6,some (.ref cl),some (.ref N),some (.ref R0)] rfl ?_
   refine ⟨_,rfl,_,rfl,_,rfl,N,rfl,⟨_,aw.of gN⟩,fun E3 hE3=>?_⟩
   refine bK (xs:=us) (fun i Hv=>ak H7 Hv/\∃vn,Hv E3=some (.lst vn)/\vn.length=i/\Paired (dW Hv) vn (es.take i)) ⟨af hE3 _,[],aa,rfl,.nil⟩ (fun i Hv _ z=>aw.of (z.1 _ _ gN)) (fun i x0 Hv hx z=>?_) (fun Hv z=>?_)
   · obtain ⟨sv,vn,gE,vl,pn⟩:=z
     have hil:=(List.getElem?_eq_some_iff.mp hx).1
     obtain ⟨e,hei,⟨L,nv,rfl,gL,nd⟩,_⟩:=Paired.get pu hx
     refine ⟨L,_,rfl,aw.of (sv _ _ gL),rfl,_,_,rfl,_,_,rfl,rfl,?_⟩
     refine eE (A:=fun H5=>dQ _ E3 _ H5 _) ?_
     refine ⟨_,rfl,_,gE,aW (by omega),bh (Pv:=fun i Hv=>ak H7 Hv/\∃vn,Hv E3=some (.lst vn)/\vn.length=i/\Paired (dW Hv) vn (es.take i)) (by repeat' constructor) hil ⟨aG sv hE3,vn++[nv],aa,by rw [FZ,vl]; rfl,?_⟩⟩
     rw [Ho,hei]
     exact Paired.snoc (Paired.mapP pn fun _ _ z=>dW.keep (TW.TK.lst gE) z) ((nd.keep (ak.tk sv)).keep (TW.TK.lst gE))
   obtain ⟨sv,vn,gE3,vl,pn⟩:=z
   rw [el,HC] at pn
   refine ⟨M6,fun p hp=>?_⟩
   have sp:ak Hv (upd Hv p (.tup [.ref B,.ref I,.ref E3])):=af hp _
   have gp:(upd Hv p (.tup [.ref B,.ref I,.ref E3])) p=some (.tup [.ref B,.ref I,.ref E3]):=aa
   generalize upd Hv p (.tup [.ref B,.ref I,.ref E3])=H8 at sp gp ⊢
   refine ⟨_,rfl,_,rfl,N,rfl,⟨_,aw.of (sp _ _ (sv _ _ gN))⟩,fun E4 hE4=>?_⟩
   refine bK (xs:=us) (fun i Hu=>ak H8 Hu/\Hu E4=some (.lst ((es.take i).map fun e=>V.str (Gg sp1 e.ws)))) ⟨af hE4 _,aa⟩ (fun i Hu _ z=>aw.of (z.1 _ _ (sp _ _ (sv _ _ gN)))) (fun i x0 Hu hx z=>?_) (fun Hu z=>?_)
   · obtain ⟨su,gE⟩:=z
     have hil:=(List.getElem?_eq_some_iff.mp hx).1
     obtain ⟨e,hei,⟨L,nv,rfl,gL,nd⟩,_⟩:=Paired.get pu hx
     refine ⟨L,_,rfl,aw.of (su _ _ (sp _ _ (sv _ _ gL))),rfl,_,_,rfl,_,_,rfl,rfl,?_⟩
     refine eE (A:=fun H5=>dQ _ E4 _ H5 _) ?_
     refine ⟨_,rfl,_,gE,aW (by rw [F0,Gh]; omega),bh (Pv:=fun i Hu=>ak H8 Hu/\Hu E4=some (.lst ((es.take i).map fun e=>V.str (Gg sp1 e.ws)))) (by repeat' constructor) hil ⟨aG su hE4,?_⟩⟩
     rw [aa,Ho,hei,F9]
     rfl
   obtain ⟨su,gE4⟩:=z
   rw [el,HC] at gE4
   refine ⟨R0,E4,_,_,rfl,rfl,su _ _ (sp _ _ (sv _ _ gR)),gE4,small (by rw [FZ,F0,F0,F0]; omega),fun R hR=>⟨M5,fun L hL=>?_⟩⟩
   have tR:=af hR (.lst (bs.map (fun b=>V.str (Gg sp1 (kF b)))++ins.map (fun x=>V.str (Gg sp1 (wq x)))++es.map (fun e=>V.str (Gg sp1 e.ws))))
   have tL:=af hL (.lst [.ref p,.ref R])
   have t9:=ae tR tL
   have t8:=ae (ae sp su) t9
   have t7:=ae sv t8
   refine q L p R B I E3 vb vn bs ins es _ (ae sB t7) aa (t9 _ _ (su _ _ gp)) ⟨t7 _ _ gB,t7 _ _ gI,t8 _ _ gE3,Paired.mapP pb fun _ _ z=>Tp.keep (ak.tk t7) z,Paired.mapP pn fun _ _ z=>dW.keep (ak.tk t8) z⟩ ⟨⟨fun b hb=>⟨(wb b hb).1,by have:=(wb b hb).2.1; omega,qH (by have:=(wb b hb).2.2; omega)⟩,i8,fun e he=>(wu e he).w,bsl,insl,by omega⟩,⟨by rw [en]; exact nnd,fun b hb=>(wb b hb).2,bsl⟩,(List.nodup_append.mp (pm.nodup_iff.mpr nnd)).1,fun x hx=>by rw [en]; exact pm.mem_iff.mp (GY _ hx),by omega,fun e he=>⟨fun n hn=>by have:=(wu e he).ld n hn; omega,fun t ht=>⟨TW.E.okN.inB en ((wu e he).kn t ht).1,((wu e he).kn t ht).2⟩⟩⟩ (by omega) ?_
   have gR9:=tL _ _ (aa (H:=Hu) (a:=R) (o:=.lst (bs.map (fun b=>V.str (Gg sp1 (kF b)))++ins.map (fun x=>V.str (Gg sp1 (wq x)))++es.map (fun e=>V.str (Gg sp1 e.ws)))))
   refine gR9.trans ?_
   unfold textOf
   rw [F9,F9,Ic,Ic,Ic]
   rfl
theorem sP (s:Src K mg "_law_program" sProg)(m_len:mg "len"=none)(m_range:mg "range"=none)(m_list:mg "list"=none)(m_str:mg "str"=none)(m_sum:mg "sum"=none)(m_enumerate:mg "enumerate"=none)(CE:aY P w K mg base "_law_cell_at" ["script","k"] 41 (gH K))(NS:aY P w K mg base "_law_names" ["head","many"] 41 iu)(ST:aY P w K mg base "_law_stir" ["cell","k"] 41 aP)(NO:aY P w K mg base "_law_node" ["cell","names","many"] 41 lI):aY P w K mg base "_law_program" ["script"] 42 (ow K):=
 let ⟨f,fd,F,m⟩:=s
 ⟨f,fd,wX F m_len m_range m_list m_str m_sum m_enumerate CE NS ST NO,F.kp,gf F fun _ _ _ _ _ _ _=>rfl,m⟩
end
end TW
set_option Elab.async false
set_option linter.all false
set_option maxRecDepth 100000
set_option exponentiation.threshold 4000
set_option maxHeartbeats 1000000
namespace TW
open PySem L2
section
variable {P:Program}{w:World}{K:FX}{mg:Str->Option Value}{base:Heap}
abbrev sRefd:Stmt:=top 59
theorem fj:ay ["text","found","e"] ["text"] (ag sRefd):=⟨rfl,rfl,rfl,by decide +kernel,rfl,by decide +kernel,by decide +kernel⟩
theorem iV:(ag sRefd).names.lookup (F1 "NoChange")=some .globalImplicit:=by decide +kernel
theorem kW:(ag sRefd).names.lookup (F1 "NoForm")=some .globalImplicit:=by decide +kernel
theorem kX:(ag sRefd).names.lookup (F1 "NoNode")=some .globalImplicit:=by decide +kernel
theorem kY:(ag sRefd).names.lookup (F1 "NoPair")=some .globalImplicit:=by decide +kernel
theorem jy:(ag sRefd).names.lookup (F1 "NoPaper")=some .globalImplicit:=by decide +kernel
theorem jz:(ag sRefd).names.lookup (F1 "NoPicks")=some .globalImplicit:=by decide +kernel
theorem g8:(ag sRefd).names.lookup (F1 "NoProgram")=some .globalImplicit:=by decide +kernel
theorem mn:(ag sRefd).names.lookup (F1 "NoRow")=some .globalImplicit:=by decide +kernel
theorem iW:(ag sRefd).names.lookup (F1 "NoWorths")=some .globalImplicit:=by decide +kernel
theorem jA:(ag sRefd).names.lookup (F1 "NoneYet")=some .globalImplicit:=by decide +kernel
theorem jB:(ag sRefd).names.lookup (F1 "TooMany")=some .globalImplicit:=by decide +kernel
theorem hJ:(ag sRefd).names.lookup (F1 "TwinError")=some .globalImplicit:=by decide +kernel
theorem gv:(ag sRefd).names.lookup (F1 "ValueError")=some .globalImplicit:=by decide +kernel
theorem aB:(ag sRefd).names.lookup (F1 "isinstance")=some .globalImplicit:=by decide +kernel
theorem ff:(ag sRefd).names.lookup (F1 "read_program")=some .globalImplicit:=by decide +kernel
/-! ### _law_refused -/
abbrev flags (k:Nat):List Bool:=(HN 12).map (· == k)
def oy:Sp:=fun vs H Q _=>∃tx:Str,vs=[.str tx]/\tx.length + 2<=sizeLine/\(Gr tx "\n").length<=900/\(∀r∈Gr tx "\n",r.length<=12500)/\¬ bH (Gr tx "\n")/\∀(l:Addr) (H':Hp),ak H H'->H' l=some (.lst ((flags 3).map V.bl))->Q (.ref l) H'
theorem wZ {T cNoPair cNoPaper cTooMany cNoRow cNoProgram cNoWorths cNoNode cNoChange cNoForm cNoneYet cNoPicks:Addr}{f:Addr}{fd:FuncData}(F:cf K "_law_refused" "_law_refused" sRefd f fd)(R:DD K mg T cNoPair cNoPaper cTooMany cNoRow cNoProgram cNoWorths cNoNode cNoChange cNoForm cNoneYet cNoPicks)(m_isinstance:mg "isinstance"=none)(m_ValueError:mg "ValueError"=none)(RP:bR P w K mg base "read_program" ["text"] 26 (fV cNoRow)):aN P w K mg base CX0 27 f fd ["text"] oy:=by
 refine F.ok fj (fun vs H Q E h=>?_) (fun cdv A outer s H vs Q E hr h=>?_)
 · obtain ⟨tx,rfl,_⟩:=h
   rfl
 · obtain ⟨tx,rfl,htx,hrl,hrl2,bad,q⟩:=h
   refine eV ⟨_,(KG (KH 1 fj.nd (KJ Kz))
     (KG (L3.Es 2 fj.nd R.t hJ (fun W pn Ex hp=>(KI (Li (Ln hp RP hr ff (Kx (Ky 0) Kz))))) (fun ea=>(KG (KH 1 fj.nd (KJ (Kx (KU Lf aB m_isinstance (by decide +kernel) (Kx (Ky 2) (Kx (K6 (w:=.ref cNoPair) kY R.x_NoPair.m rfl) Kz))) (Kx (KU Lf aB m_isinstance (by decide +kernel) (Kx (Ky 2) (Kx (K6 (w:=.ref cNoPaper) jy R.x_NoPaper.m rfl) Kz))) (Kx (KU Lf aB m_isinstance (by decide +kernel) (Kx (Ky 2) (Kx (K6 (w:=.ref cTooMany) jB R.x_TooMany.m rfl) Kz))) (Kx (KU Lf aB m_isinstance (by decide +kernel) (Kx (Ky 2) (Kx (K6 (w:=.ref cNoRow) mn R.x_NoRow.m rfl) Kz))) Kz))))))
     (KG (KH 1 fj.nd (KD K1 (Ky 1) (KJ (Kx (KU Lf aB m_isinstance (by decide +kernel) (Kx (Ky 2) (Kx (K6 (w:=.ref cNoProgram) g8 R.x_NoProgram.m rfl) Kz))) (Kx (KU Lf aB m_isinstance (by decide +kernel) (Kx (Ky 2) (Kx (K6 (w:=.ref cNoWorths) iW R.x_NoWorths.m rfl) Kz))) (Kx (KU Lf aB m_isinstance (by decide +kernel) (Kx (Ky 2) (Kx (K6 (w:=.ref cNoNode) kX R.x_NoNode.m rfl) Kz))) Kz))))))
     (KG (KH 1 fj.nd (KD K1 (Ky 1) (KJ (Kx (KU Lf aB m_isinstance (by decide +kernel) (Kx (Ky 2) (Kx (K6 (w:=.ref cNoChange) iV R.x_NoChange.m rfl) Kz))) (Kx (KU Lf aB m_isinstance (by decide +kernel) (Kx (Ky 2) (Kx (K6 (w:=.ref cNoForm) kW R.x_NoForm.m rfl) Kz))) (Kx (KU Lf aB m_isinstance (by decide +kernel) (Kx (Ky 2) (Kx (K6 (w:=.ref cNoneYet) jA R.x_NoneYet.m rfl) Kz))) Kz))))))
     (KI (KH 1 fj.nd (KD K1 (Ky 1) (KJ (Kx (KU Lf aB m_isinstance (by decide +kernel) (Kx (Ky 2) (Kx (K6 (w:=.ref cNoPicks) jz R.x_NoPicks.m rfl) Kz))) (Kx (L3.FJ (KU Lf aB m_isinstance (by decide +kernel) (Kx (Ky 2) (Kx (L3.DT (w:=.ty "ValueError") gv m_ValueError (by decide +kernel) rfl) Kz)))) Kz)))))))))))
     (KI (KQ (Ky 1))))),?_⟩
   refine ao fun Rk0 kR0=>?_
   refine ⟨M3,fun l0' hl0'=>?_⟩
   have s1:ak H (upd H l0' (.lst [])):=af hl0' _
   have g1:(upd H l0' (.lst [])) l0'=some (.lst []):=aa
   generalize upd H l0' (.lst [])=H1 at s1 g1 ⊢
   refine ah ?_
   refine kR0 _ _ ?_
   refine ao fun Rk0 kR0=>?_
   refine ⟨_,rfl,?_⟩
   refine ⟨tx,rfl,htx,hrl,hrl2,bad,fun H3 s3=>?_⟩
   refine ⟨_,_,_,rfl,R.x_NoRow,(by simp),fun ea hea=>?_⟩
   obtain ⟨h0,eh0⟩ : ∃h0,h0=upd H3 ea (yf ea cNoRow):=⟨_,rfl⟩
   have H0:h0 ea=some (yf ea cNoRow):=by rw [eh0]; exact aa
   have sh0:ak H3 h0:=by rw [eh0]; exact af hea _
   rw [← eh0]
   refine au [none,none,some (.ref ea)] rfl ?_
   refine ao fun Rk kR=>?_
   refine ⟨_,rfl,ea,cNoRow,false,H0,R.k_NoRow,.inl ⟨_,rfl,R.i_NoRow_NoPair⟩,_,rfl,ea,cNoRow,false,H0,R.k_NoRow,.inl ⟨_,rfl,R.i_NoRow_NoPaper⟩,_,rfl,ea,cNoRow,false,H0,R.k_NoRow,.inl ⟨_,rfl,R.i_NoRow_TooMany⟩,_,rfl,ea,cNoRow,true,H0,R.k_NoRow,.inl ⟨_,rfl,R.i_NoRow_NoRow⟩,M7,fun l0 hl0=>?_⟩
   have sA0:ak h0 (upd h0 l0 (.lst [.bl false,.bl false,.bl false,.bl true])):=af hl0 _
   have gA0:(upd h0 l0 (.lst [.bl false,.bl false,.bl false,.bl true])) l0=some (.lst [.bl false,.bl false,.bl false,.bl true]):=aa
   generalize upd h0 l0 (.lst [.bl false,.bl false,.bl false,.bl true])=hA0 at sA0 gA0 ⊢
   have HA0:=sA0 _ _ H0
   refine ah ?_
   refine kR _ _ ?_
   refine au [none,some (.ref l0),some (.ref ea)] rfl ?_
   refine ao fun Rk kR=>?_
   refine ⟨_,rfl,_,rfl,ea,cNoRow,false,HA0,R.k_NoRow,.inl ⟨_,rfl,R.i_NoRow_NoProgram⟩,_,rfl,ea,cNoRow,false,HA0,R.k_NoRow,.inl ⟨_,rfl,R.i_NoRow_NoWorths⟩,_,rfl,ea,cNoRow,false,HA0,R.k_NoRow,.inl ⟨_,rfl,R.i_NoRow_NoNode⟩,M6,fun m1 hm1=>?_⟩
   have sB1:ak hA0 (upd hA0 m1 (.lst [.bl false,.bl false,.bl false])):=af hm1 _
   have gB1:(upd hA0 m1 (.lst [.bl false,.bl false,.bl false])) m1=some (.lst [.bl false,.bl false,.bl false]):=aa
   generalize upd hA0 m1 (.lst [.bl false,.bl false,.bl false])=hB1 at sB1 gB1 ⊢
   refine ⟨l0,m1,_,_,rfl,rfl,sB1 _ _ gA0,gB1,Na,fun l1 hl1=>?_⟩
   have sA1:ak hB1 (upd hB1 l1 (.lst ([.bl false,.bl false,.bl false,.bl true]++[.bl false,.bl false,.bl false]))):=af hl1 _
   have gA1:(upd hB1 l1 (.lst ([.bl false,.bl false,.bl false,.bl true]++[.bl false,.bl false,.bl false]))) l1=some (.lst ([.bl false,.bl false,.bl false,.bl true]++[.bl false,.bl false,.bl false])):=aa
   generalize upd hB1 l1 (.lst ([.bl false,.bl false,.bl false,.bl true]++[.bl false,.bl false,.bl false]))=hA1 at sA1 gA1 ⊢
   have HA1:=sA1 _ _ (sB1 _ _ HA0)
   refine ah ?_
   refine kR _ _ ?_
   refine au [none,some (.ref l1),some (.ref ea)] rfl ?_
   refine ao fun Rk kR=>?_
   refine ⟨_,rfl,_,rfl,ea,cNoRow,false,HA1,R.k_NoRow,.inl ⟨_,rfl,R.i_NoRow_NoChange⟩,_,rfl,ea,cNoRow,false,HA1,R.k_NoRow,.inl ⟨_,rfl,R.i_NoRow_NoForm⟩,_,rfl,ea,cNoRow,false,HA1,R.k_NoRow,.inl ⟨_,rfl,R.i_NoRow_NoneYet⟩,M6,fun m2 hm2=>?_⟩
   have sB2:ak hA1 (upd hA1 m2 (.lst [.bl false,.bl false,.bl false])):=af hm2 _
   have gB2:(upd hA1 m2 (.lst [.bl false,.bl false,.bl false])) m2=some (.lst [.bl false,.bl false,.bl false]):=aa
   generalize upd hA1 m2 (.lst [.bl false,.bl false,.bl false])=hB2 at sB2 gB2 ⊢
   refine ⟨l1,m2,_,_,rfl,rfl,sB2 _ _ gA1,gB2,Nd,fun l2 hl2=>?_⟩
   have sA2:ak hB2 (upd hB2 l2 (.lst (([.bl false,.bl false,.bl false,.bl true]++[.bl false,.bl false,.bl false])++[.bl false,.bl false,.bl false]))):=af hl2 _
   have gA2:(upd hB2 l2 (.lst (([.bl false,.bl false,.bl false,.bl true]++[.bl false,.bl false,.bl false])++[.bl false,.bl false,.bl false]))) l2=some (.lst (([.bl false,.bl false,.bl false,.bl true]++[.bl false,.bl false,.bl false])++[.bl false,.bl false,.bl false])):=aa
   generalize upd hB2 l2 (.lst (([.bl false,.bl false,.bl false,.bl true]++[.bl false,.bl false,.bl false])++[.bl false,.bl false,.bl false]))=hA2 at sA2 gA2 ⊢
   have HA2:=sA2 _ _ (sB2 _ _ HA1)
   refine ah ?_
   refine kR _ _ ?_
   refine au [none,some (.ref l2),some (.ref ea)] rfl ?_
   refine ⟨_,rfl,_,rfl,ea,cNoRow,false,HA2,R.k_NoRow,.inl ⟨_,rfl,R.i_NoRow_NoPicks⟩,_,rfl,ea,cNoRow,true,HA2,R.k_NoRow,.inr (.inl ⟨_,rfl,R.v_NoRow⟩),true,rfl,M5,fun m3 hm3=>?_⟩
   have sB3:ak hA2 (upd hA2 m3 (.lst [.bl false,.bl (!true)])):=af hm3 _
   have gB3:(upd hA2 m3 (.lst [.bl false,.bl (!true)])) m3=some (.lst [.bl false,.bl (!true)]):=aa
   generalize upd hA2 m3 (.lst [.bl false,.bl (!true)])=hB3 at sB3 gB3 ⊢
   refine ⟨l2,m3,_,_,rfl,rfl,sB3 _ _ gA2,gB3,Nf,fun l3 hl3=>?_⟩
   have sA3:ak hB3 (upd hB3 l3 (.lst ((([.bl false,.bl false,.bl false,.bl true]++[.bl false,.bl false,.bl false])++[.bl false,.bl false,.bl false])++[.bl false,.bl (!true)]))):=af hl3 _
   have gA3:(upd hB3 l3 (.lst ((([.bl false,.bl false,.bl false,.bl true]++[.bl false,.bl false,.bl false])++[.bl false,.bl false,.bl false])++[.bl false,.bl (!true)]))) l3=some (.lst ((([.bl false,.bl false,.bl false,.bl true]++[.bl false,.bl false,.bl false])++[.bl false,.bl false,.bl false])++[.bl false,.bl (!true)])):=aa
   generalize upd hB3 l3 (.lst ((([.bl false,.bl false,.bl false,.bl true]++[.bl false,.bl false,.bl false])++[.bl false,.bl false,.bl false])++[.bl false,.bl (!true)]))=hA3 at sA3 gA3 ⊢
   have HA3:=sA3 _ _ (sB3 _ _ HA2)
   refine ah ?_
   refine kR0 _ _ ?_
   exact ⟨_,rfl,q l3 _ (ae s1 (ae s3 (ae sh0 (ae (ae (ae (sA0) (ae sB1 sA1)) (ae sB2 sA2)) (ae sB3 sA3))))) gA3⟩
theorem sS {T cNoPair cNoPaper cTooMany cNoRow cNoProgram cNoWorths cNoNode cNoChange cNoForm cNoneYet cNoPicks:Addr}(s:Src K mg "_law_refused" sRefd)(R:DD K mg T cNoPair cNoPaper cTooMany cNoRow cNoProgram cNoWorths cNoNode cNoChange cNoForm cNoneYet cNoPicks)(m_isinstance:mg "isinstance"=none)(m_ValueError:mg "ValueError"=none)(RP:bR P w K mg base "read_program" ["text"] 26 (fV cNoRow)):aY P w K mg base "_law_refused" ["text"] 27 oy:=
 let ⟨f,fd,F,m⟩:=s
 ⟨f,fd,wZ F R m_isinstance m_ValueError RP,F.kp,gf F fun _ _ _ _ _ _ _=>rfl,m⟩
end
end TW
set_option Elab.async false
set_option linter.all false
set_option maxRecDepth 100000
set_option exponentiation.threshold 4000
set_option maxHeartbeats 1000000
namespace TW
open PySem L2
section
variable {P:Program}{w:World}{K:FX}{mg:Str->Option Value}{base:Heap}
def mJ (n:Int):List Nat:=(F1 (toString n)).cps.toList
theorem i9 (m:Nat):mJ (m:Int)=(Jl 10 m).map Char.toNat:=PySem.W.KIN.signs_num m
theorem i7 {n:Int}(h:0<=n):PySem.NumText.AllDigits (mJ n):=by
 obtain ⟨m,rfl⟩:=Io h
 intro c hc
 rw [i9] at hc
 obtain ⟨ch,hch,e⟩:=List.mem_map.mp hc
 rw [← e]
 exact PyProof.Rows.digit_range (Nat.isDigit_of_mem_toDigits (by decide) (by decide) hch)
theorem eD (m:Nat):Jl 10 m≠[]:=fun e=>by
 by_cases h:m < 10
 · rw [IV h] at e; cases e
 · have t:=JN (b:=10) (n:=m / 10) (d:=m % 10) (by decide) (by omega) (Nat.mod_lt m (by decide))
   rw [Nat.div_add_mod,e,IV (Nat.mod_lt m (by decide))] at t
   simp at t
theorem wL {n:Int}(h:0<=n):mJ n≠[]:=by
 obtain ⟨m,rfl⟩:=Io h
 rw [i9]
 exact fun e=>eD m (List.map_eq_nil_iff.mp e)
theorem tY {n:Int}(h:0<=n/\n < 10 ^ 30):(mJ n).length<=30:=by
 obtain ⟨m,rfl⟩:=Io h.1
 have hm:m < 10 ^ 30:=by
   have:=h.2
   have e:((10:Int) ^ 30)=((10 ^ 30:Nat):Int):=by decide +kernel
   omega
 rw [mJ,aD,Iu]
 exact (Nat.length_repr_le_iff (n:=m) (by decide)).mpr hm
theorem nM:∀m:Nat,0 < m->∀c l,Jl 10 m=c :: l->c ≠ '0':=by
 intro m
 induction m using Nat.strongRecOn with
 | _ m ih=>
   intro hm c l e
   by_cases h:m < 10
   · rw [IV h] at e
     injection e with e _
     rw [← e]
     have all:∀k:Fin 10,k.1≠0->Nat.digitChar k.1 ≠ '0':=by decide
     exact all ⟨m,h⟩ (by show m≠0; omega)
   · have t:=JN (b:=10) (n:=m / 10) (d:=m % 10) (by decide) (by omega) (Nat.mod_lt m (by decide))
     rw [Nat.div_add_mod,e] at t
     cases q:Jl 10 (m / 10) with
     | nil=>exact absurd q (eD _)
     | cons d l'=>
       rw [q] at t
       injection t with t _
       rw [← t]
       exact ih (m / 10) (by omega) (by omega) d l' q
theorem qQ {n:Int}(h:0<=n){l:List Nat}(e:mJ n=48 :: l):l=[]:=by
 obtain ⟨m,rfl⟩:=Io h
 by_cases hm:m=0
 · rw [hm] at e
   rw [show mJ ((0:Nat):Int)=[48] by decide +kernel] at e
   injection e with _ e
   exact e.symm
 · rw [i9] at e
   cases q:Jl 10 m with
   | nil=>exact absurd q (eD _)
   | cons c l'=>
     rw [q,Gi] at e
     injection e with e _
     have:=nM m (by omega) c l' q
     exact absurd (Char.toNat_inj.mp (e.trans (show (48:Nat) = '0'.toNat from rfl))) this
def E.cps (e:E):List Nat:=e.txt.cps.toList
def K2.sg:K2->Nat
 | .plus=>43 | .less=>45 | .same=>61 | .under=>60 | .both=>38
theorem K2.sign_sg (k:K2):k.sign=SN [k.sg]:=by cases k <;> decide +kernel
structure iA (e:E):Prop where
 is:e.isS
 ok:e.okN dU
theorem B5:("(":Str).cps.toList=[40]:=by decide +kernel
theorem CQ:(")":Str).cps.toList=[41]:=by decide +kernel
theorem ik {k:K2}{a b:E}(h:k=.plus\/k=.less):(E.two k a b).cps=40 :: (a.cps++(k.sg :: (b.cps++[41]))):=by
 have e:(E.two k a b).txt="("++(a.txt++k.sign++b.txt)++")":=by rcases h with rfl | rfl <;> rfl
 unfold E.cps
 rw [e,aM,aM,aM,aM,B5,CQ,k.sign_sg,bM]
 simp
structure jF (e:E):Prop where
 is:e.isC
 ok:e.okN dU
theorem wB:dU "yes":=⟨by decide,by decide,by decide +kernel⟩
theorem fz {k:K2}{a b:E}(h:k=.same\/k=.under):(E.two k a b).cps=a.cps++(k.sg :: b.cps):=by
 have e:(E.two k a b).txt=a.txt++k.sign++b.txt:=by rcases h with rfl | rfl <;> rfl
 unfold E.cps
 rw [e,aM,aM,k.sign_sg,bM]
 simp
theorem B7:("!":Str).cps.toList=[33]:=by decide +kernel
theorem B4:("{":Str).cps.toList=[123]:=by decide +kernel
theorem CN:("}":Str).cps.toList=[125]:=by decide +kernel
theorem BB:("&":Str).cps.toList=[38]:=by decide +kernel
theorem r4 {a:E}:(E.nt a).cps=33 :: a.cps:=by
 unfold E.cps
 rw [show (E.nt a).txt="!"++a.txt from rfl,aM,B7]
 rfl
theorem lX {a b:E}:(E.two .both a b).cps=123 :: (a.cps++(38 :: (b.cps++[125]))):=by
 have e:(E.two .both a b).txt="{"++(a.txt++"&"++b.txt)++"}":=rfl
 unfold E.cps
 rw [e,aM,aM,aM,aM,B4,CN,BB]
 simp
inductive Wd where
 | sum (e:E) | cond (e:E) | name (x:Str) | num (i:Int)
def Wd.kind:Wd->Str
 | .sum _=>"sum" | .cond _=>"condition" | .name _=>"name" | .num _=>"number"
def Wd.txt:Wd->Str
 | .sum e=>e.txt | .cond e=>e.txt | .name x=>x | .num i=>F1 (toString i)
def Wd.G:Wd->Prop
 | .sum e=>iA e/\e.txt.length<=4000 | .cond e=>jF e/\e.txt.length<=4000 | .name x=>dU x | .num i=>0<=i/\i < 10 ^ 30
theorem E.cps_ge:∀{e:E},e.okN dU->∀c∈e.cps,33<=c
 | .num n,h,c,hc=>by have:=i7 (n:=n) h.1 c hc; omega
 | .box _ x,h,c,hc=>by have:=h.2.lt c hc; omega
 | .yes,_,c,hc=>by have:=wB.lt c hc; omega
 | .nt a,h,c,hc=>by
   rw [r4] at hc
   rcases List.mem_cons.mp hc with rfl | hc
   · decide
   · exact E.cps_ge (e:=a) h c hc
 | .two k a b,h,c,hc=>by
   have ha:=E.cps_ge (e:=a) h.1 c
   have hb:=E.cps_ge (e:=b) h.2 c
   have key:∀k:K2,33<=k.sg:=fun k=>by cases k <;> decide
   have kk:=key k
   have:(E.two k a b).cps=40 :: (a.cps++(k.sg :: (b.cps++[41])))\/(E.two k a b).cps=a.cps++(k.sg :: b.cps)\/(E.two k a b).cps=123 :: (a.cps++(k.sg :: (b.cps++[125]))):=by
     cases k with
     | plus=>exact .inl (ik (.inl rfl))
     | less=>exact .inl (ik (.inr rfl))
     | same=>exact .inr (.inl (fz (.inl rfl)))
     | under=>exact .inr (.inl (fz (.inr rfl)))
     | both=>exact .inr (.inr lX)
   rcases this with e | e | e <;> rw [e] at hc <;> simp only [GG,List.mem_append,Gv,or_false] at hc
   · rcases hc with rfl | hc | rfl | hc | rfl
     · decide
     · exact ha hc
     · exact kk
     · exact hb hc
     · decide
   · rcases hc with hc | rfl | hc
     · exact ha hc
     · exact kk
     · exact hb hc
   · rcases hc with rfl | hc | rfl | hc | rfl
     · decide
     · exact ha hc
     · exact kk
     · exact hb hc
     · decide
theorem Wd.ge:∀{d:Wd},d.G->∀c∈d.txt.cps.toList,33<=c
 | .sum e,h,c,hc=>E.cps_ge h.1.ok c hc
 | .cond e,h,c,hc=>E.cps_ge h.1.ok c hc
 | .name x,h,c,hc=>by have:=dU.lt h c hc; omega
 | .num i,h,c,hc=>by have:=i7 (n:=i) h.1 c hc; omega
theorem fB {c:Nat}:∀{a b r s:List Nat},c ∉ a->c ∉ b->(r=[]\/r.head? = some c)->(s=[]\/s.head? = some c)->a++r=b++s->a=b/\r=s
 | [],[],_,_,_,_,_,_,h=>⟨rfl,h⟩
 | [],y :: b,r,s,_,hb,hr,_,h=>by
   have h:r=y :: (b++s):=h
   rcases hr with rfl | hr
   · cases h
   · rw [h] at hr
     have:some y=some c:=hr
     injection this with this
     exact absurd (by rw [this]; exact F4) hb
 | x :: a,[],r,s,ha,_,_,hs,h=>by
   have h:x :: (a++r)=s:=h
   rcases hs with rfl | hs
   · cases h
   · rw [← h] at hs
     have:some x=some c:=hs
     injection this with this
     exact absurd (by rw [this]; exact F4) ha
 | x :: a,y :: b,r,s,ha,hb,hr,hs,h=>by
   have h:x :: (a++r)=y :: (b++s):=h
   injection h with h1 h2
   obtain ⟨e1,e2⟩:=fB (fun z=>ha (F7 _ z)) (fun z=>hb (F7 _ z)) hr hs h2
   exact ⟨by rw [h1,e1],e2⟩
theorem s9 {c:Nat}:∀{xs ys:List (List Nat)},xs≠[]->ys≠[]->(∀x∈xs,c ∉ x)->(∀x∈ys,c ∉ x)->jl c xs=jl c ys->xs=ys
 | [],_,h,_,_,_,_=>absurd rfl h
 | _,[],_,h,_,_,_=>absurd rfl h
 | [a],[b],_,_,_,_,h=>by
   have:a=b:=h
   rw [this]
 | [a],b :: b2 :: s,_,_,ha,hb,h=>by
   have h:a++[]=b++c :: jl c (b2 :: s):=by rw [GH]; exact h
   have:=(fB (ha a F4) (hb b F4) (.inl rfl) (.inr rfl) h).2
   cases this
 | a :: a2 :: r,[b],_,_,ha,hb,h=>by
   have h:a++c :: jl c (a2 :: r)=b++[]:=by rw [GH]; exact h
   have:=(fB (ha a F4) (hb b F4) (.inr rfl) (.inl rfl) h).2
   cases this
 | a :: a2 :: r,b :: b2 :: s,_,_,ha,hb,h=>by
   have h:a++c :: jl c (a2 :: r)=b++c :: jl c (b2 :: s):=h
   obtain ⟨e1,e2⟩:=fB (ha a F4) (hb b F4) (.inr rfl) (.inr rfl) h
   injection e2 with _ e2
   rw [e1,s9 (xs:=a2 :: r) (ys:=b2 :: s) (fun z=>nomatch z) (fun z=>nomatch z) (fun x hx=>ha x (F7 _ hx)) (fun x hx=>hb x (F7 _ hx)) e2]
theorem fk {c:Nat}{xs:List Str}(hn:xs≠[])(h0:HK (SN [c]) xs≠HS)(hf:∀x∈xs,c ∉ x.cps.toList):Gr (Gg (SN [c]) xs) (SN [c])=xs:=by
 have ej:Gg (SN [c]) xs=HK (SN [c]) xs:=StrLaws.glued_eq_join _ _
 rw [ej]
 have h1:=StrLaws.join_split (HK (SN [c]) xs) (SN [c])
 have h2:=StrLaws.split_free (HK (SN [c]) xs) c
 have h2:∀p∈Gr (HK (SN [c]) xs) (SN [c]),c ∉ p.cps.toList:=h2
 generalize Gr (HK (SN [c]) xs) (SN [c])=ys at h1 h2
 have hy:ys≠[]:=fun z=>by rw [z] at h1; exact h0 h1.symm
 have h3:=congrArg (fun s:Str=>s.cps.toList) h1
 have h3:(HK (SN [c]) ys).cps.toList=(HK (SN [c]) xs).cps.toList:=h3
 rw [bO,bO] at h3
 have h4:=s9 (by simpa using hy) (by simpa using hn) (fun x hx=>by obtain ⟨y,hy,rfl⟩:=List.mem_map.mp hx; exact h2 y hy) (fun x hx=>by obtain ⟨y,hy,rfl⟩:=List.mem_map.mp hx; exact hf y hy) h3
 have h5:=congrArg (List.map SN) h4
 rw [Ic,Ic] at h5
 have key:∀l:List Str,l.map (SN ∘ fun x=>x.cps.toList)=l:=fun l=>by
   induction l with
   | nil=>rfl
   | cons a l ih=>rw [Gi,ih]; show SN a.cps.toList :: l=_; rw [jJ]
 rw [key,key] at h5
 exact h5
theorem pf {c:Nat}{x:Str}{xs:List Str}(h:x≠HS):HK (SN [c]) (x :: xs)≠HS:=fun z=>by
 have e:=congrArg (fun s:Str=>s.cps.toList) z
 have e:(HK (SN [c]) (x :: xs)).cps.toList=[]:=e
 rw [bO] at e
 have hx:x.cps.toList≠[]:=fun k=>h (by rw [← jJ x,k]; rfl)
 cases xs with
 | nil=>exact hx e
 | cons y r=>
   have e:x.cps.toList++c :: jl c ((y :: r).map fun x=>x.cps.toList)=[]:=e
   exact hx (List.append_eq_nil_iff.mp e).1
structure kE (head:Str)(ds:List Wd):Prop where
 fr:(head,ds.map Wd.kind)∈formsL
 g:∀d∈ds,d.G
abbrev rowT (head:Str)(ds:List Wd):Str:=Gg " " (head :: ds.map Wd.txt)
theorem jS:∀q∈formsL,q.2.length<=3/\q.1.length<=5/\q.1≠HS/\∀c∈q.1.cps.toList,33<=c:=by decide +kernel
theorem kE.ge {head:Str}{ds:List Wd}(h:kE head ds):∀x∈head :: ds.map Wd.txt,∀c∈x.cps.toList,33<=c:=fun x hx=>by
 rcases List.mem_cons.mp hx with rfl | hx
 · exact (jS _ h.fr).2.2.2
 · obtain ⟨d,hd,rfl⟩:=List.mem_map.mp hx
   exact Wd.ge (h.g d hd)
theorem kE.split {head:Str}{ds:List Wd}(h:kE head ds):Gr (rowT head ds) " "=head :: ds.map Wd.txt:=by
 rw [rowT,vc]
 exact fk (fun z=>nomatch z) (pf (jS _ h.fr).2.2.1) (fun x hx z=>by have:=h.ge x hx _ z; omega)
inductive Rw where
 | box (b:Str×Int) | inp (x:Str) | nd (e:Np)
def Np.hd:Np->Str
 | .put _ _ _=>"put" | .say _ _=>"say" | .test _ _ _=>"test" | .pick _ _=>"pick" | .fin=>"end"
def Np.wds:Np->List Wd
 | .put x s n=>[.name x,.sum s,.num n] | .say s n=>[.sum s,.num n] | .test c n o=>[.cond c,.num n,.num o] | .pick x n=>[.name x,.num n] | .fin=>[]
def Rw.hd:Rw->Str
 | .box _=>"box" | .inp _=>"input" | .nd e=>e.hd
def Rw.wds:Rw->List Wd
 | .box b=>[.name b.1,.num b.2] | .inp x=>[.name x] | .nd e=>e.wds
def Rw.rank:Rw->Nat
 | .box _=>0 | .inp _=>1 | .nd _=>2
def rowsOf (bs:List (Str×Int))(ins:List Str)(nds:List Np):List Rw:=bs.map .box++ins.map .inp++nds.map .nd
theorem Np.ws_eq:∀e:Np,e.ws=e.hd :: e.wds.map Wd.txt
 | .put _ _ _=>rfl | .say _ _=>rfl | .test _ _ _=>rfl | .pick _ _=>rfl | .fin=>rfl
theorem gM (bs:List (Str×Int))(ins:List Str)(nds:List Np):textOf bs ins nds=(rowsOf bs ins nds).map fun r=>rowT r.hd r.wds:=by
 unfold textOf rowsOf
 rw [F9,F9,Ic,Ic,Ic]
 congr 1
 refine List.map_congr_left fun e _=>?_
 show Gg sp1 e.ws=rowT e.hd e.wds
 rw [Np.ws_eq]
theorem rT.wd {e:E}(h:rT 30 e):(Wd.sum e).G:=⟨⟨h.is,h.ok⟩,h.len⟩
theorem rS.wd {e:E}(h:rS 30 e):(Wd.cond e).G:=⟨⟨h.is,h.ok⟩,h.len⟩
theorem DH.row {bs:List (Str×Int)}{ins:List Str}{nds:List Np}(h:DH bs ins nds):∀r∈rowsOf bs ins nds,kE r.hd r.wds:=by
 intro r hr
 rcases List.mem_append.mp hr with hr | hr
 · rcases List.mem_append.mp hr with hr | hr
   · obtain ⟨b,hb,rfl⟩:=List.mem_map.mp hr
     refine ⟨by show (("box":Str),(["name","number"]:List Str))∈formsL; decide,fun d hd=>?_⟩
     rcases List.mem_cons.mp hd with rfl | hd
     · exact (h.b b hb).1
     · rw [List.mem_singleton.mp hd]; exact (h.b b hb).2
   · obtain ⟨x,hx,rfl⟩:=List.mem_map.mp hr
     refine ⟨by show (("input":Str),(["name"]:List Str))∈formsL; decide,fun d hd=>?_⟩
     rw [List.mem_singleton.mp hd]
     exact h.i x hx
 · obtain ⟨e,he,rfl⟩:=List.mem_map.mp hr
   have we:=h.n e he
   match e,we with
   | .put x s n,we=>
     refine ⟨by show (("put":Str),(["name","sum","number"]:List Str))∈formsL; decide,fun d hd=>?_⟩
     rcases List.mem_cons.mp hd with rfl | hd
     · exact we.1
     rcases List.mem_cons.mp hd with rfl | hd
     · exact we.2.1.wd
     rw [List.mem_singleton.mp hd]
     exact we.2.2
   | .say s n,we=>
     refine ⟨by show (("say":Str),(["sum","number"]:List Str))∈formsL; decide,fun d hd=>?_⟩
     rcases List.mem_cons.mp hd with rfl | hd
     · exact we.1.wd
     rw [List.mem_singleton.mp hd]
     exact we.2
   | .test c n o,we=>
     refine ⟨by show (("test":Str),(["condition","number","number"]:List Str))∈formsL; decide,fun d hd=>?_⟩
     rcases List.mem_cons.mp hd with rfl | hd
     · exact we.1.wd
     rcases List.mem_cons.mp hd with rfl | hd
     · exact we.2.1
     rw [List.mem_singleton.mp hd]
     exact we.2.2
   | .pick x n,we=>
     refine ⟨by show (("pick":Str),(["name","number"]:List Str))∈formsL; decide,fun d hd=>?_⟩
     rcases List.mem_cons.mp hd with rfl | hd
     · exact we.1
     rw [List.mem_singleton.mp hd]
     exact we.2
   | .fin,_=>exact ⟨by show (("end":Str),([]:List Str))∈formsL; decide,fun d hd=>nomatch hd⟩
theorem AM {head:Str}{ds:List Wd}(h:kE head ds):∀c∈(rowT head ds).cps.toList,32<=c:=by
 have hg:=h.ge
 show ∀c∈(GZ " " (head :: ds.map Wd.txt)).cps.toList,32<=c
 rw [StrLaws.glued_eq_join,vc,bO]
 have key:∀l:List Str,(∀x∈l,∀c∈x.cps.toList,33<=c)->∀c∈jl 32 (l.map fun x=>x.cps.toList),32<=c:=by
   intro l
   induction l with
   | nil=>intro _ c hc; cases hc
   | cons a l ih=>
     intro hl c hc
     have ha:=hl a F4
     have ih:=ih fun x hx=>hl x (F7 _ hx)
     cases l with
     | nil=>have:=ha c hc; omega
     | cons b r=>
       have hc:c∈a.cps.toList++32 :: jl 32 ((b :: r).map fun x=>x.cps.toList):=hc
       rcases List.mem_append.mp hc with z | z
       · have:=ha c z; omega
       · rcases List.mem_cons.mp z with rfl | z
         · exact F8 _
         · exact ih c z
 exact key _ hg
/-! ### what is written is of the language -/
theorem tX {n:Int}(h:0<=n/\n < 10 ^ 30):m5 (mJ n):=⟨wL h.1,tY h,fun c hc=>by have:=i7 h.1 c hc; omega,fun r e=>qQ h.1 e⟩
theorem dU.T {x:Str}(h:dU x):lP x.cps.toList:=⟨fun z=>by have:=h.l1; rw [← aD,z] at this; exact absurd this (by decide),by rw [aD]; exact h.l8,fun c hc=>h.lt c hc⟩
theorem iA.T:∀{e:E},iA e->da e.cps
 | .num n,h=>.num (tX h.ok)
 | .box _ x,h=>.name (dU.T h.ok.2)
 | .yes,h=>h.is.elim
 | .nt _,h=>h.is.elim
 | .two .plus a b,h=>by
   rw [ik (.inl rfl)]
   exact .two (iA.T (e:=a) ⟨h.is.1,h.ok.1⟩) (iA.T (e:=b) ⟨h.is.2,h.ok.2⟩) (.inl rfl)
 | .two .less a b,h=>by
   rw [ik (.inr rfl)]
   exact .two (iA.T (e:=a) ⟨h.is.1,h.ok.1⟩) (iA.T (e:=b) ⟨h.is.2,h.ok.2⟩) (.inr rfl)
 | .two .same _ _,h=>h.is.elim
 | .two .under _ _,h=>h.is.elim
 | .two .both _ _,h=>h.is.elim
theorem jF.T:∀{e:E},jF e->dv e.cps
 | .num n,h=>h.is.elim
 | .box _ x,h=>h.is.elim
 | .yes,h=>by
   rw [show (E.yes).cps=[121,101,115] by decide +kernel]
   exact .yes
 | .nt a,h=>by
   rw [r4]
   exact .nt (jF.T (e:=a) ⟨h.is,h.ok⟩)
 | .two .plus a b,h=>h.is.elim
 | .two .less a b,h=>h.is.elim
 | .two .same a b,h=>by
   rw [fz (.inl rfl)]
   exact .cmp (iA.T (e:=a) ⟨h.is.1,h.ok.1⟩) (iA.T (e:=b) ⟨h.is.2,h.ok.2⟩) (.inl rfl)
 | .two .under a b,h=>by
   rw [fz (.inr rfl)]
   exact .cmp (iA.T (e:=a) ⟨h.is.1,h.ok.1⟩) (iA.T (e:=b) ⟨h.is.2,h.ok.2⟩) (.inr rfl)
 | .two .both a b,h=>by
   rw [lX]
   exact .both (jF.T (e:=a) ⟨h.is.1,h.ok.1⟩) (jF.T (e:=b) ⟨h.is.2,h.ok.2⟩)
theorem Wd.ok:∀{d:Wd},d.G->fu d.kind d.txt.cps.toList
 | .sum _,h=>.inr (.inr (.inl ⟨rfl,h.1.T⟩))
 | .cond _,h=>.inr (.inr (.inr ⟨rfl,h.1.T⟩))
 | .name _,h=>.inl ⟨rfl,dU.T h⟩
 | .num _,h=>.inr (.inl ⟨rfl,tX h⟩)
theorem kE.row {head:Str}{ds:List Wd}(h:kE head ds):dX (rowT head ds) head (ds.map Wd.kind):=by
 refine ⟨h.fr,ds.map Wd.txt,h.split,by rw [F0,F0],fun i k x hk hx=>?_⟩
 rw [GI] at hk hx
 obtain ⟨d,hd,rfl⟩:=Option.map_eq_some_iff.mp hk
 rw [hd] at hx
 obtain rfl:=Gm hx
 exact Wd.ok (h.g d (Gx hd))
/-! ### a recognizer -/
abbrev isDg (c:Nat):Bool:=decide (48<=c) && decide (c<=57)
abbrev isLt (c:Nat):Bool:=decide (97<=c) && decide (c < 123)
def rP (l:List Nat):Prop:=∀c,l.head? = some c->isDg c=false/\isLt c=false
def lS (l:List Nat):Prop:=∀c,l.head? = some c->isDg c=false/\isLt c=false/\c≠61/\c≠60
theorem tw_app (p:Nat->Bool):∀(a l:List Nat),(∀c∈a,p c=true)->(∀c,l.head? = some c->p c=false)->(a++l).takeWhile p=a/\(a++l).dropWhile p=l
 | [],l,_,h=>by
   cases l with
   | nil=>exact ⟨rfl,rfl⟩
   | cons c r=>
     have h:=h c rfl
     show (c :: r).takeWhile p=[]/\(c :: r).dropWhile p=c :: r
     rw [GR,List.dropWhile_cons,h]
     exact ⟨rfl,rfl⟩
 | x :: a,l,ha,h=>by
   obtain ⟨h1,h2⟩:=tw_app p a l (fun c hc=>ha c (F7 _ hc)) h
   have hx:=ha x F4
   rw [Iw,GR,List.dropWhile_cons,hx,if_pos rfl,if_pos rfl,h1,h2]
   exact ⟨rfl,rfl⟩
def qP (a:List Nat):Bool:=a.all isDg && decide (a≠[]) && decide (a.length<=30) && (decide (a.head? ≠ some 48) || decide (a.length=1))
def qK (a:List Nat):Bool:=a.all isLt && decide (a≠[]) && decide (a.length<=8)
theorem m5.b {a:List Nat}(h:m5 a):qP a=true:=by
 have h1:a.all isDg=true:=List.all_eq_true.mpr fun c hc=>by have:=h.dg c hc; simp [this.1,this.2]
 have h4:(decide (a.head? ≠ some 48) || decide (a.length=1))=true:=by
   cases a with
   | nil=>rfl
   | cons c r=>
     by_cases e:c=48
     · subst e
       rw [h.hd r rfl]
       rfl
     · have:decide ((c :: r).head? ≠ some 48)=true:=decide_eq_true fun z=>e (by injection z)
       rw [this]
       rfl
 unfold qP
 rw [h1,h4,decide_eq_true h.ne,decide_eq_true h.len]
 rfl
theorem lP.b {a:List Nat}(h:lP a):qK a=true:=by
 have h1:a.all isLt=true:=List.all_eq_true.mpr fun c hc=>by have:=h.lt c hc; simp [this.1,this.2]
 unfold qK
 rw [h1,decide_eq_true h.ne,decide_eq_true h.len]
 rfl
def pA (l:List Nat):Option (List Nat):=if qP (l.takeWhile isDg) then some (l.dropWhile isDg) else if qK (l.takeWhile isLt) then some (l.dropWhile isLt) else none
theorem Ah {a l:List Nat}(h:m5 a)(s:rP l):pA (a++l)=some l:=by
 obtain ⟨h1,h2⟩:=tw_app isDg a l (fun c hc=>by have:=h.dg c hc; simp [this.1,this.2]) fun c hc=>(s c hc).1
 unfold pA
 rw [h1,h2,h.b,if_pos rfl]
theorem Ag {a l:List Nat}(h:lP a)(s:rP l):pA (a++l)=some l:=by
 obtain ⟨h1,h2⟩:=tw_app isLt a l (fun c hc=>by have:=h.lt c hc; simp [this.1,this.2]) fun c hc=>(s c hc).2
 have h0:(a++l).takeWhile isDg=[]:=by
   cases a with
   | nil=>exact absurd rfl h.ne
   | cons c r=>
     have:=h.lt c F4
     rw [Iw,GR,show isDg c=false by simp; omega]
     rfl
 unfold pA
 rw [h0,h1,h2,h.b]
 rfl
def pS:Nat->List Nat->Option (List Nat)
 | 0,_=>none
 | n + 1,l=>if l.head? = some 40 then (match pS n l.tail with
     | some (s :: l2)=>if s=43\/s=45 then (match pS n l2 with
       | some (x :: l3)=>if x=41 then some l3 else none
       | _=>none) else none
     | _=>none) else pA l
theorem da.hd {a:List Nat}(h:da a):∃c r,a=c :: r/\(c=40\/isDg c=true\/isLt c=true):=by
 cases h with
 | num h=>
   cases a with
   | nil=>exact absurd rfl h.ne
   | cons c r=>have:=h.dg c F4; exact ⟨c,r,rfl,.inr (.inl (by simp [this.1,this.2]))⟩
 | name h=>
   cases a with
   | nil=>exact absurd rfl h.ne
   | cons c r=>have:=h.lt c F4; exact ⟨c,r,rfl,.inr (.inr (by simp [this.1,this.2]))⟩
 | two=>exact ⟨_,_,rfl,.inl rfl⟩
theorem rP.of {c:Nat}{l:List Nat}(h:isDg c=false/\isLt c=false):rP (c :: l):=fun d hd=>by
 have:c=d:=by injection hd
 rw [← this]
 exact h
theorem kh {a:List Nat}(h:da a):∀(n:Nat) (l:List Nat),rP l->a.length < n->pS n (a++l)=some l:=by
 induction h with
 | @num a h=>
   intro n l s hn
   match n,hn with
   | n + 1,hn=>
     have:(a++l).head? ≠ some 40:=by
       cases a with
       | nil=>exact absurd rfl h.ne
       | cons c r=>
         have:=h.dg c F4
         intro z
         have:c=40:=by injection z
         omega
     unfold pS
     rw [if_neg this]
     exact Ah h s
 | @name a h=>
   intro n l s hn
   match n,hn with
   | n + 1,hn=>
     have:(a++l).head? ≠ some 40:=by
       cases a with
       | nil=>exact absurd rfl h.ne
       | cons c r=>
         have:=h.lt c F4
         intro z
         have:c=40:=by injection z
         omega
     unfold pS
     rw [if_neg this]
     exact Ag h s
 | @two a b s ha hb hs iha ihb=>
   intro n l st hn
   match n,hn with
   | n + 1,hn=>
     rw [F5,FZ,F5,FZ] at hn
     have ss:isDg s=false/\isLt s=false:=by rcases hs with rfl | rfl <;> decide
     have h1:=iha n (s :: (b++41 :: l)) (rP.of ss) (by omega)
     have h2:=ihb n (41 :: l) (rP.of (by decide)) (by omega)
     have e:40 :: (a++s :: (b++[41]))++l=40 :: (a++s :: (b++41 :: l)):=by simp
     rw [e]
     unfold pS
     rw [if_pos (show (40 :: (a++s :: (b++41 :: l))).head? = some 40 from rfl),List.tail_cons,h1]
     show (if s=43\/s=45 then _ else _)=_
     rw [if_pos hs,h2]
     show (if 41=41 then some l else none)=some l
     rw [if_pos rfl]
def x9 (l:List Nat):Option (List Nat):=if l.takeWhile isLt=[121,101,115] then some (l.dropWhile isLt) else none
def pC:Nat->List Nat->Option (List Nat)
 | 0,_=>none
 | n + 1,l=>if l.head? = some 33 then pC n l.tail else if l.head? = some 123 then (match pC n l.tail with
     | some (s :: l2)=>if s=38 then (match pC n l2 with
       | some (x :: l3)=>if x=125 then some l3 else none
       | _=>none) else none
     | _=>none) else (match pS (n + 1) l with
     | some (s :: l2)=>if s=61\/s=60 then pS (n + 1) l2 else x9 l
     | some []=>x9 l
     | none=>none)
theorem lS.one {l:List Nat}(h:lS l):rP l:=fun c hc=>⟨(h c hc).1,(h c hc).2.1⟩
theorem lS.of {c:Nat}{l:List Nat}(h:isDg c=false/\isLt c=false/\c≠61/\c≠60):lS (c :: l):=fun d hd=>by
 have:c=d:=by injection hd
 rw [← this]
 exact h
theorem pR {l:List Nat}(h:rP l):x9 ([121,101,115]++l)=some l:=by
 obtain ⟨h1,h2⟩:=tw_app isLt [121,101,115] l (by decide) fun c hc=>(h c hc).2
 unfold x9
 rw [h1,h2,if_pos rfl]
theorem De:lP [121,101,115]:=⟨by decide,by decide,by decide⟩
theorem um {a:List Nat}(h:dv a):∀(n:Nat) (l:List Nat),lS l->a.length < n->pC n (a++l)=some l:=by
 induction h with
 | yes=>
   intro n l s hn
   match n,hn with
   | n + 1,hn=>
     have h1:=kh (.name De) (n + 1) l s.one hn
     unfold pC
     have n33:([121,101,115]++l:List Nat).head? ≠ some 33:=fun z=>absurd (show some 121=some 33 from z) (by decide)
     have n123:([121,101,115]++l:List Nat).head? ≠ some 123:=fun z=>absurd (show some 121=some 123 from z) (by decide)
     rw [if_neg n33,if_neg n123,h1]
     cases l with
     | nil=>exact pR s.one
     | cons c r=>
       show (if c=61\/c=60 then _ else _)=_
       rw [if_neg (by have:=s c rfl; omega)]
       exact pR s.one
 | @cmp a b s ha hb hs=>
   intro n l st hn
   match n,hn with
   | n + 1,hn=>
     rw [FZ,F5] at hn
     have ss:isDg s=false/\isLt s=false:=by rcases hs with rfl | rfl <;> decide
     have h1:=kh ha (n + 1) (s :: (b++l)) (rP.of ss) (by omega)
     have h2:=kh hb (n + 1) l st.one (by omega)
     obtain ⟨c,r,rfl,hc⟩:=ha.hd
     have e:(c :: r)++s :: b++l=(c :: r)++s :: (b++l):=by simp
     have n1:c≠33:=fun z=>by subst z; revert hc; decide
     have n2:c≠123:=fun z=>by subst z; revert hc; decide
     rw [e]
     unfold pC
     rw [if_neg (fun z=>n1 (by injection z)),if_neg (fun z=>n2 (by injection z)),h1]
     show (if s=61\/s=60 then _ else _)=_
     rw [if_pos hs]
     exact h2
 | @nt a ha ih=>
   intro n l st hn
   match n,hn with
   | n + 1,hn=>
     rw [F5] at hn
     unfold pC
     rw [if_pos (show (33 :: a++l).head? = some 33 from rfl)]
     exact ih n l st (by omega)
 | @both a b ha hb iha ihb=>
   intro n l st hn
   match n,hn with
   | n + 1,hn=>
     rw [F5,FZ,F5,FZ] at hn
     have h1:=iha n (38 :: (b++125 :: l)) (lS.of (by decide)) (by omega)
     have h2:=ihb n (125 :: l) (lS.of (by decide)) (by omega)
     have e:123 :: (a++38 :: (b++[125]))++l=123 :: (a++38 :: (b++125 :: l)):=by simp
     rw [e]
     unfold pC
     rw [if_neg (show (123 :: (a++38 :: (b++125 :: l))).head? ≠ some 33 from fun z=>absurd (show some 123=some 33 from z) (by decide)),if_pos (show (123 :: (a++38 :: (b++125 :: l))).head? = some 123 from rfl),List.tail_cons,h1]
     show (if 38=38 then _ else _)=_
     rw [if_pos rfl,h2]
     show (if 125=125 then some l else none)=some l
     rw [if_pos rfl]
def Eu (k:Str)(l:List Nat):Bool:=(decide (k="name") && qK l) || (decide (k="number") && qP l) || (decide (k="sum") && decide (pS (l.length + 1) l=some [])) || (decide (k="condition") && decide (pC (l.length + 1) l=some []))
theorem fu.b {k:Str}{l:List Nat}(h:fu k l):Eu k l=true:=by
 unfold Eu
 rcases h with ⟨h,a⟩ | ⟨h,a⟩ | ⟨h,a⟩ | ⟨h,a⟩
 · rw [decide_eq_true h,a.b]; rfl
 · rw [decide_eq_true h,a.b]; simp
 · have:=kh a (l.length + 1) [] (fun c hc=>nomatch hc) (HF _)
   rw [GH] at this
   rw [decide_eq_true h,decide_eq_true this]; simp
 · have:=um a (l.length + 1) [] (fun c hc=>nomatch hc) (HF _)
   rw [GH] at this
   rw [decide_eq_true h,decide_eq_true this]; simp
def uO (row:Str):Bool:=match Gr row " " with
 | []=>false
 | h :: ws=>formsL.any fun q=>decide (q.1=h) && decide (ws.length=q.2.length) && (q.2.zip ws).all fun y=>Eu y.1 y.2.cps.toList
theorem pT {p:Str×Str->Bool}:∀{ks ws:List Str},(∀(i:Nat) (k x:Str),ks[i]? = some k->ws[i]? = some x->p (k,x)=true)->(ks.zip ws).all p=true
 | [],_,_=>rfl
 | _ :: _,[],_=>rfl
 | k :: ks,x :: ws,h=>by
   rw [List.zip_cons_cons,Jz,h 0 k x rfl rfl,pT (ks:=ks) (ws:=ws) fun i k' x' h1 h2=>h (i + 1) k' x' h1 h2]
   rfl
theorem dX.b {row head:Str}{ks:List Str}(h:dX row head ks):uO row=true:=by
 obtain ⟨ws,e,hl,hw⟩:=h.sp
 unfold uO
 rw [e]
 refine List.any_eq_true.mpr ⟨(head,ks),h.fr,?_⟩
 rw [decide_eq_true rfl,decide_eq_true hl,pT fun i k x h1 h2=>(hw i k x h1 h2).b]
 rfl
def f7 (row:Str):Prop:=∀head ks,¬ dX row head ks
theorem yX {row:Str}(h:uO row=false):f7 row:=fun head ks r=>by rw [r.b] at h; cases h
theorem mH {rows:List Str}{row:Str}(h:row∈rows)(b:f7 row):¬ bH rows:=fun t=>let ⟨hd,ks,r⟩:=t.ok row h; b hd ks r
theorem bH.tail {row:Str}{rows:List Str}(h:bH (row :: rows)):bH rows:=⟨fun r hr=>h.ok r (F7 _ hr),(List.pairwise_cons.mp h.rk).2⟩
theorem kf {a b c:List Str}{x y:Str}(h:bQ (eS y) < bQ (eS x)):¬ bH (a++x :: (b++y :: c)):=fun t=>by
 have h1:=(List.pairwise_append.mp t.rk).2.1
 have h2:=(List.pairwise_cons.mp h1).1 y (Gj _ F4)
 omega
end
end TW
set_option Elab.async false
set_option linter.all false
set_option maxRecDepth 100000
set_option exponentiation.threshold 4000
set_option maxHeartbeats 1000000
namespace TW
open PySem L2
section
variable {P:Program}{w:World}{K:FX}{mg:Str->Option Value}{base:Heap}
abbrev sBad:Stmt:=top 58
theorem bF:ay ["cell","some"] ["cell"] (ag sBad):=⟨rfl,rfl,rfl,by decide +kernel,rfl,by decide +kernel,by decide +kernel⟩
theorem jt:(ag sBad).names.lookup (F1 "_law_stir")=some .globalImplicit:=by decide +kernel
theorem sA:(ag sBad).names.lookup (F1 "len")=some .globalImplicit:=by decide +kernel
/-! ### _law_bad -/
structure aX (x:Str):Prop where
 b:uO x=false
 l:x.length<=60
 n:10 ∉ x.cps.toList
def uZ:Sp:=fun vs H Q _=>∃c:Int,vs=[.int c]/\∀(x:Str) (H':Hp),ak H H'->aX x->Q (.str x) H'
theorem aK {l:List Str}(h:(l.all fun x=>!uO x && decide (x.length<=60) && decide (10 ∉ x.cps.toList))=true):∀x∈l,aX x:=fun x hx=>by
 have:=List.all_eq_true.mp h x hx
 rw [HE,HE] at this
 obtain ⟨⟨a,b⟩,c⟩:=this
 exact ⟨by simpa using a,of_decide_eq_true b,of_decide_eq_true c⟩
theorem DJ:∀x∈([""," ","box","box a","box a 3 4","box A 3","box a -1","box a 03","box a x"]:List Str),aX x:=aK (by decide +kernel)
theorem DK:∀x∈(["box abcdefghi 3","box a1 3","box 3 a","box  a 3","Box a 3","boxes a 3","box a 3 "]:List Str),aX x:=aK (by decide +kernel)
theorem DL:∀x∈([" box a 3","box a 1000000000000000000000000000000","box a +3","box a 3.","box a 1_0"]:List Str),aX x:=aK (by decide +kernel)
theorem DM:∀x∈(["input","input a b","input A","input 1","inputs a","input abcdefghi","input  a","put"]:List Str),aX x:=aK (by decide +kernel)
theorem DN:∀x∈(["put a","put a 1","put a 1 0 0","put A 1 0","put a 1 -1","put a 1 00","put a 1 x"]:List Str),aX x:=aK (by decide +kernel)
theorem DO:∀x∈(["put a -1 0","put a a+1 0","put a (a+1 0","put a a+1) 0","put a (a+1+1) 0"]:List Str),aX x:=aK (by decide +kernel)
theorem DP:∀x∈(["put a (a) 0","put a () 0","put a (a*1) 0","put a a=1 0","put a 01 0","put a (a-) 0"]:List Str),aX x:=aK (by decide +kernel)
theorem DQ:∀x∈(["put a (+a) 0","put a (a+-1) 0","put a ((a+1) 0","put a 1a 0","put a a1 0","put a A 0"]:List Str),aX x:=aK (by decide +kernel)
theorem DR:∀x∈(["put a  1 0","put 1 a 0","put a 1 0 ","say","say 1","say 1 0 0","say 1 a","say -1 0"]:List Str),aX x:=aK (by decide +kernel)
theorem DS:∀x∈(["say a=1 0","say !a 0","say (a+1)(a+1) 0","say a a","say (1+2 0","say abcdefghi 0"]:List Str),aX x:=aK (by decide +kernel)
theorem BD:∀x∈(["say 1000000000000000000000000000000 0","say 1 1000000000000000000000000000000"]:List Str),aX x:=aK (by decide +kernel)
theorem BE:∀x∈(["say {a+1} 0","say [a+1] 0","test","test yes","test yes 0","test yes 0 0 0"]:List Str),aX x:=aK (by decide +kernel)
theorem BF:∀x∈(["test yes 0 x","test a 0 0","test 1 0 0","test yess 0 0","test a== 0 0","test a==1 0 0"]:List Str),aX x:=aK (by decide +kernel)
theorem BG:∀x∈(["test a=1=1 0 0","test a<=1 0 0","test a>1 0 0","test a< 0 0","test =1 0 0"]:List Str),aX x:=aK (by decide +kernel)
theorem BH:∀x∈(["test !a 0 0","test a=!b 0 0","test {yes} 0 0","test {yes&} 0 0","test {yes&yes 0 0"]:List Str),aX x:=aK (by decide +kernel)
theorem BJ:∀x∈(["test yes&yes 0 0","test {yes&yes&yes} 0 0","test {yes|yes} 0 0","test (yes) 0 0"]:List Str),aX x:=aK (by decide +kernel)
theorem BK:∀x∈(["test (a=1) 0 0","test !! 0 0","test yes! 0 0","test {a&b} 0 0","test YES 0 0"]:List Str),aX x:=aK (by decide +kernel)
theorem BL:∀x∈(["test yes -1 0","test a=01 0 0","test (a+1)=(a+1 0 0","pick","pick a","pick a 0 0"]:List Str),aX x:=aK (by decide +kernel)
theorem BM:∀x∈(["pick A 0","pick a x","pick 0 a","pick a 00","picks a 0","end 0","end "," end","End"]:List Str),aX x:=aK (by decide +kernel)
theorem BO:∀x∈(["ends","go 0","stop","a","1","node end","# end","if yes 0 0"]:List Str),aX x:=aK (by decide +kernel)
theorem zN {f:Addr}{fd:FuncData}(F:cf K "_law_bad" "_law_bad" sBad f fd)(m_len:mg "len"=none)(ST:aY P w K mg base "_law_stir" ["cell","k"] 1 aP):aN P w K mg base CX0 2 f fd ["cell"] uZ:=by
 refine F.ok bF (fun vs H Q E h=>?_) (fun cdv A outer s H vs Q E hr h=>?_)
 · obtain ⟨c,rfl,_⟩:=h
   rfl
 · obtain ⟨c,rfl,q⟩:=h
   refine eV ⟨_,(KG (KH 1 bF.nd (KJ (Kx KA (Kx KA (Kx KA (Kx KA (Kx KA (Kx KA (Kx KA (Kx KA (Kx KA Kz)))))))))))
     (KG (KH 1 bF.nd (KD K1 (Ky 1) (KJ (Kx KA (Kx KA (Kx KA (Kx KA (Kx KA (Kx KA (Kx KA Kz))))))))))
     (KG (KH 1 bF.nd (KD K1 (Ky 1) (KJ (Kx KA (Kx KA (Kx KA (Kx KA (Kx KA Kz))))))))
     (KG (KH 1 bF.nd (KD K1 (Ky 1) (KJ (Kx KA (Kx KA (Kx KA (Kx KA (Kx KA (Kx KA (Kx KA (Kx KA Kz)))))))))))
     (KG (KH 1 bF.nd (KD K1 (Ky 1) (KJ (Kx KA (Kx KA (Kx KA (Kx KA (Kx KA (Kx KA (Kx KA Kz))))))))))
     (KG (KH 1 bF.nd (KD K1 (Ky 1) (KJ (Kx KA (Kx KA (Kx KA (Kx KA (Kx KA Kz))))))))
     (KG (KH 1 bF.nd (KD K1 (Ky 1) (KJ (Kx KA (Kx KA (Kx KA (Kx KA (Kx KA (Kx KA Kz)))))))))
     (KG (KH 1 bF.nd (KD K1 (Ky 1) (KJ (Kx KA (Kx KA (Kx KA (Kx KA (Kx KA (Kx KA Kz)))))))))
     (KG (KH 1 bF.nd (KD K1 (Ky 1) (KJ (Kx KA (Kx KA (Kx KA (Kx KA (Kx KA (Kx KA (Kx KA (Kx KA Kz)))))))))))
     (KG (KH 1 bF.nd (KD K1 (Ky 1) (KJ (Kx KA (Kx KA (Kx KA (Kx KA (Kx KA (Kx KA Kz)))))))))
     (KG (KH 1 bF.nd (KD K1 (Ky 1) (KJ (Kx KA (Kx KA Kz)))))
     (KG (KH 1 bF.nd (KD K1 (Ky 1) (KJ (Kx KA (Kx KA (Kx KA (Kx KA (Kx KA (Kx KA Kz)))))))))
     (KG (KH 1 bF.nd (KD K1 (Ky 1) (KJ (Kx KA (Kx KA (Kx KA (Kx KA (Kx KA (Kx KA Kz)))))))))
     (KG (KH 1 bF.nd (KD K1 (Ky 1) (KJ (Kx KA (Kx KA (Kx KA (Kx KA (Kx KA Kz))))))))
     (KG (KH 1 bF.nd (KD K1 (Ky 1) (KJ (Kx KA (Kx KA (Kx KA (Kx KA (Kx KA Kz))))))))
     (KG (KH 1 bF.nd (KD K1 (Ky 1) (KJ (Kx KA (Kx KA (Kx KA (Kx KA Kz)))))))
     (KG (KH 1 bF.nd (KD K1 (Ky 1) (KJ (Kx KA (Kx KA (Kx KA (Kx KA (Kx KA Kz))))))))
     (KG (KH 1 bF.nd (KD K1 (Ky 1) (KJ (Kx KA (Kx KA (Kx KA (Kx KA (Kx KA (Kx KA Kz)))))))))
     (KG (KH 1 bF.nd (KD K1 (Ky 1) (KJ (Kx KA (Kx KA (Kx KA (Kx KA (Kx KA (Kx KA (Kx KA (Kx KA (Kx KA Kz))))))))))))
     (KG (KH 1 bF.nd (KD K1 (Ky 1) (KJ (Kx KA (Kx KA (Kx KA (Kx KA (Kx KA (Kx KA (Kx KA (Kx KA Kz)))))))))))
     (KI (KQ (KN KW (Ky 1) (KD KP (KO ST hr jt (Kx (Ky 0) (Kx KC Kz))) (KU K4 sA m_len Gd (Kx (Ky 1) Kz)))))))))))))))))))))))))),?_⟩
   refine ao fun Rk kR=>?_
   refine ⟨Nc,fun p hp=>?_⟩
   have s1:=af hp (.lst [.str "",.str " ",.str "box",.str "box a",.str "box a 3 4",.str "box A 3",.str "box a -1",.str "box a 03",.str "box a x"])
   have g1:(upd H p (.lst [.str "",.str " ",.str "box",.str "box a",.str "box a 3 4",.str "box A 3",.str "box a -1",.str "box a 03",.str "box a x"])) p=some (.lst [.str "",.str " ",.str "box",.str "box a",.str "box a 3 4",.str "box A 3",.str "box a -1",.str "box a 03",.str "box a x"]):=aa
   generalize upd H p (.lst [.str "",.str " ",.str "box",.str "box a",.str "box a 3 4",.str "box A 3",.str "box a -1",.str "box a 03",.str "box a x"])=H1 at s1 g1 ⊢
   refine ah ?_
   refine kR _ _ ?_
   clear kR hp
   refine au [some (.int c),some (.ref p)] rfl ?_
   obtain ⟨ys,gy,ly,by0⟩ : ∃ys:List Str,H1 p=some (.lst (ys.map V.str))/\ys.length=9/\∀x∈ys,aX x:=⟨([""," ","box","box a","box a 3 4","box A 3","box a -1","box a 03","box a x"]:List Str),g1,rfl,DJ⟩
   clear g1
   refine ao fun Rk kR=>?_
   refine ⟨_,rfl,Na,fun a ha=>?_⟩
   have sa:=af ha (.lst [.str "box abcdefghi 3",.str "box a1 3",.str "box 3 a",.str "box  a 3",.str "Box a 3",.str "boxes a 3",.str "box a 3 "])
   have ga:(upd H1 a (.lst [.str "box abcdefghi 3",.str "box a1 3",.str "box 3 a",.str "box  a 3",.str "Box a 3",.str "boxes a 3",.str "box a 3 "])) a=some (.lst [.str "box abcdefghi 3",.str "box a1 3",.str "box 3 a",.str "box  a 3",.str "Box a 3",.str "boxes a 3",.str "box a 3 "]):=aa
   generalize upd H1 a (.lst [.str "box abcdefghi 3",.str "box a1 3",.str "box 3 a",.str "box  a 3",.str "Box a 3",.str "boxes a 3",.str "box a 3 "])=H2 at sa ga ⊢
   replace gy:=sa _ _ gy
   refine ⟨p,a,_,_,rfl,rfl,gy,ga,F2 (show _<=1000 by rw [F0,ly]; decide) (by decide),fun p2 hp2=>?_⟩
   have sp:=af hp2 (.lst (ys.map V.str++[.str "box abcdefghi 3",.str "box a1 3",.str "box 3 a",.str "box  a 3",.str "Box a 3",.str "boxes a 3",.str "box a 3 "]))
   have gp:(upd H2 p2 (.lst (ys.map V.str++[.str "box abcdefghi 3",.str "box a1 3",.str "box 3 a",.str "box  a 3",.str "Box a 3",.str "boxes a 3",.str "box a 3 "]))) p2=some (.lst (ys.map V.str++[.str "box abcdefghi 3",.str "box a1 3",.str "box 3 a",.str "box  a 3",.str "Box a 3",.str "boxes a 3",.str "box a 3 "])):=aa
   generalize upd H2 p2 (.lst (ys.map V.str++[.str "box abcdefghi 3",.str "box a1 3",.str "box 3 a",.str "box  a 3",.str "Box a 3",.str "boxes a 3",.str "box a 3 "]))=H3 at sp gp ⊢
   refine ah ?_
   refine kR _ _ ?_
   clear kR hp2 ha
   refine au [some (.int c),some (.ref p2)] rfl ?_
   replace s1:=ae (ae s1 sa) sp
   obtain ⟨ys2,gy2,ly2,by2⟩ : ∃ys:List Str,H3 p2=some (.lst (ys.map V.str))/\ys.length=16/\∀x∈ys,aX x:=⟨ys++(["box abcdefghi 3","box a1 3","box 3 a","box  a 3","Box a 3","boxes a 3","box a 3 "]:List Str),by rw [F9]; exact gp,by rw [FZ,ly]; rfl,fun x hx=>by rcases List.mem_append.mp hx with z | z; exact by0 x z; exact DK x z⟩
   clear gy ly by0 ga gp sa sp
   clear ys H2
   have gy:=gy2
   have ly:=ly2
   have by0:=by2
   clear gy2 ly2 by2
   revert s1 gy ly by0
   clear p H1
   intro s1 gy ly by0
   obtain ⟨p,ep⟩ : ∃x,x=p2:=⟨_,rfl⟩
   obtain ⟨ys,ey⟩ : ∃x,x=ys2:=⟨_,rfl⟩
   obtain ⟨H1,eh⟩ : ∃x,x=H3:=⟨_,rfl⟩
   rw [← ep,← eh,← ey] at gy
   rw [← ey] at ly by0
   rw [← eh] at s1
   rw [← ep,← eh]
   clear ep eh ey p2 ys2 H3
   refine ao fun Rk kR=>?_
   refine ⟨_,rfl,M8,fun a ha=>?_⟩
   have sa:=af ha (.lst [.str " box a 3",.str "box a 1000000000000000000000000000000",.str "box a +3",.str "box a 3.",.str "box a 1_0"])
   have ga:(upd H1 a (.lst [.str " box a 3",.str "box a 1000000000000000000000000000000",.str "box a +3",.str "box a 3.",.str "box a 1_0"])) a=some (.lst [.str " box a 3",.str "box a 1000000000000000000000000000000",.str "box a +3",.str "box a 3.",.str "box a 1_0"]):=aa
   generalize upd H1 a (.lst [.str " box a 3",.str "box a 1000000000000000000000000000000",.str "box a +3",.str "box a 3.",.str "box a 1_0"])=H2 at sa ga ⊢
   replace gy:=sa _ _ gy
   refine ⟨p,a,_,_,rfl,rfl,gy,ga,F2 (show _<=1000 by rw [F0,ly]; decide) (by decide),fun p2 hp2=>?_⟩
   have sp:=af hp2 (.lst (ys.map V.str++[.str " box a 3",.str "box a 1000000000000000000000000000000",.str "box a +3",.str "box a 3.",.str "box a 1_0"]))
   have gp:(upd H2 p2 (.lst (ys.map V.str++[.str " box a 3",.str "box a 1000000000000000000000000000000",.str "box a +3",.str "box a 3.",.str "box a 1_0"]))) p2=some (.lst (ys.map V.str++[.str " box a 3",.str "box a 1000000000000000000000000000000",.str "box a +3",.str "box a 3.",.str "box a 1_0"])):=aa
   generalize upd H2 p2 (.lst (ys.map V.str++[.str " box a 3",.str "box a 1000000000000000000000000000000",.str "box a +3",.str "box a 3.",.str "box a 1_0"]))=H3 at sp gp ⊢
   refine ah ?_
   refine kR _ _ ?_
   clear kR hp2 ha
   refine au [some (.int c),some (.ref p2)] rfl ?_
   replace s1:=ae (ae s1 sa) sp
   obtain ⟨ys2,gy2,ly2,by2⟩ : ∃ys:List Str,H3 p2=some (.lst (ys.map V.str))/\ys.length=21/\∀x∈ys,aX x:=⟨ys++([" box a 3","box a 1000000000000000000000000000000","box a +3","box a 3.","box a 1_0"]:List Str),by rw [F9]; exact gp,by rw [FZ,ly]; rfl,fun x hx=>by rcases List.mem_append.mp hx with z | z; exact by0 x z; exact DL x z⟩
   clear gy ly by0 ga gp sa sp
   clear ys H2
   have gy:=gy2
   have ly:=ly2
   have by0:=by2
   clear gy2 ly2 by2
   revert s1 gy ly by0
   clear p H1
   intro s1 gy ly by0
   obtain ⟨p,ep⟩ : ∃x,x=p2:=⟨_,rfl⟩
   obtain ⟨ys,ey⟩ : ∃x,x=ys2:=⟨_,rfl⟩
   obtain ⟨H1,eh⟩ : ∃x,x=H3:=⟨_,rfl⟩
   rw [← ep,← eh,← ey] at gy
   rw [← ey] at ly by0
   rw [← eh] at s1
   rw [← ep,← eh]
   clear ep eh ey p2 ys2 H3
   refine ao fun Rk kR=>?_
   refine ⟨_,rfl,Nb,fun a ha=>?_⟩
   have sa:=af ha (.lst [.str "input",.str "input a b",.str "input A",.str "input 1",.str "inputs a",.str "input abcdefghi",.str "input  a",.str "put"])
   have ga:(upd H1 a (.lst [.str "input",.str "input a b",.str "input A",.str "input 1",.str "inputs a",.str "input abcdefghi",.str "input  a",.str "put"])) a=some (.lst [.str "input",.str "input a b",.str "input A",.str "input 1",.str "inputs a",.str "input abcdefghi",.str "input  a",.str "put"]):=aa
   generalize upd H1 a (.lst [.str "input",.str "input a b",.str "input A",.str "input 1",.str "inputs a",.str "input abcdefghi",.str "input  a",.str "put"])=H2 at sa ga ⊢
   replace gy:=sa _ _ gy
   refine ⟨p,a,_,_,rfl,rfl,gy,ga,F2 (show _<=1000 by rw [F0,ly]; decide) (by decide),fun p2 hp2=>?_⟩
   have sp:=af hp2 (.lst (ys.map V.str++[.str "input",.str "input a b",.str "input A",.str "input 1",.str "inputs a",.str "input abcdefghi",.str "input  a",.str "put"]))
   have gp:(upd H2 p2 (.lst (ys.map V.str++[.str "input",.str "input a b",.str "input A",.str "input 1",.str "inputs a",.str "input abcdefghi",.str "input  a",.str "put"]))) p2=some (.lst (ys.map V.str++[.str "input",.str "input a b",.str "input A",.str "input 1",.str "inputs a",.str "input abcdefghi",.str "input  a",.str "put"])):=aa
   generalize upd H2 p2 (.lst (ys.map V.str++[.str "input",.str "input a b",.str "input A",.str "input 1",.str "inputs a",.str "input abcdefghi",.str "input  a",.str "put"]))=H3 at sp gp ⊢
   refine ah ?_
   refine kR _ _ ?_
   clear kR hp2 ha
   refine au [some (.int c),some (.ref p2)] rfl ?_
   replace s1:=ae (ae s1 sa) sp
   obtain ⟨ys2,gy2,ly2,by2⟩ : ∃ys:List Str,H3 p2=some (.lst (ys.map V.str))/\ys.length=29/\∀x∈ys,aX x:=⟨ys++(["input","input a b","input A","input 1","inputs a","input abcdefghi","input  a","put"]:List Str),by rw [F9]; exact gp,by rw [FZ,ly]; rfl,fun x hx=>by rcases List.mem_append.mp hx with z | z; exact by0 x z; exact DM x z⟩
   clear gy ly by0 ga gp sa sp
   clear ys H2
   have gy:=gy2
   have ly:=ly2
   have by0:=by2
   clear gy2 ly2 by2
   revert s1 gy ly by0
   clear p H1
   intro s1 gy ly by0
   obtain ⟨p,ep⟩ : ∃x,x=p2:=⟨_,rfl⟩
   obtain ⟨ys,ey⟩ : ∃x,x=ys2:=⟨_,rfl⟩
   obtain ⟨H1,eh⟩ : ∃x,x=H3:=⟨_,rfl⟩
   rw [← ep,← eh,← ey] at gy
   rw [← ey] at ly by0
   rw [← eh] at s1
   rw [← ep,← eh]
   clear ep eh ey p2 ys2 H3
   refine ao fun Rk kR=>?_
   refine ⟨_,rfl,Na,fun a ha=>?_⟩
   have sa:=af ha (.lst [.str "put a",.str "put a 1",.str "put a 1 0 0",.str "put A 1 0",.str "put a 1 -1",.str "put a 1 00",.str "put a 1 x"])
   have ga:(upd H1 a (.lst [.str "put a",.str "put a 1",.str "put a 1 0 0",.str "put A 1 0",.str "put a 1 -1",.str "put a 1 00",.str "put a 1 x"])) a=some (.lst [.str "put a",.str "put a 1",.str "put a 1 0 0",.str "put A 1 0",.str "put a 1 -1",.str "put a 1 00",.str "put a 1 x"]):=aa
   generalize upd H1 a (.lst [.str "put a",.str "put a 1",.str "put a 1 0 0",.str "put A 1 0",.str "put a 1 -1",.str "put a 1 00",.str "put a 1 x"])=H2 at sa ga ⊢
   replace gy:=sa _ _ gy
   refine ⟨p,a,_,_,rfl,rfl,gy,ga,F2 (show _<=1000 by rw [F0,ly]; decide) (by decide),fun p2 hp2=>?_⟩
   have sp:=af hp2 (.lst (ys.map V.str++[.str "put a",.str "put a 1",.str "put a 1 0 0",.str "put A 1 0",.str "put a 1 -1",.str "put a 1 00",.str "put a 1 x"]))
   have gp:(upd H2 p2 (.lst (ys.map V.str++[.str "put a",.str "put a 1",.str "put a 1 0 0",.str "put A 1 0",.str "put a 1 -1",.str "put a 1 00",.str "put a 1 x"]))) p2=some (.lst (ys.map V.str++[.str "put a",.str "put a 1",.str "put a 1 0 0",.str "put A 1 0",.str "put a 1 -1",.str "put a 1 00",.str "put a 1 x"])):=aa
   generalize upd H2 p2 (.lst (ys.map V.str++[.str "put a",.str "put a 1",.str "put a 1 0 0",.str "put A 1 0",.str "put a 1 -1",.str "put a 1 00",.str "put a 1 x"]))=H3 at sp gp ⊢
   refine ah ?_
   refine kR _ _ ?_
   clear kR hp2 ha
   refine au [some (.int c),some (.ref p2)] rfl ?_
   replace s1:=ae (ae s1 sa) sp
   obtain ⟨ys2,gy2,ly2,by2⟩ : ∃ys:List Str,H3 p2=some (.lst (ys.map V.str))/\ys.length=36/\∀x∈ys,aX x:=⟨ys++(["put a","put a 1","put a 1 0 0","put A 1 0","put a 1 -1","put a 1 00","put a 1 x"]:List Str),by rw [F9]; exact gp,by rw [FZ,ly]; rfl,fun x hx=>by rcases List.mem_append.mp hx with z | z; exact by0 x z; exact DN x z⟩
   clear gy ly by0 ga gp sa sp
   clear ys H2
   have gy:=gy2
   have ly:=ly2
   have by0:=by2
   clear gy2 ly2 by2
   revert s1 gy ly by0
   clear p H1
   intro s1 gy ly by0
   obtain ⟨p,ep⟩ : ∃x,x=p2:=⟨_,rfl⟩
   obtain ⟨ys,ey⟩ : ∃x,x=ys2:=⟨_,rfl⟩
   obtain ⟨H1,eh⟩ : ∃x,x=H3:=⟨_,rfl⟩
   rw [← ep,← eh,← ey] at gy
   rw [← ey] at ly by0
   rw [← eh] at s1
   rw [← ep,← eh]
   clear ep eh ey p2 ys2 H3
   refine ao fun Rk kR=>?_
   refine ⟨_,rfl,M8,fun a ha=>?_⟩
   have sa:=af ha (.lst [.str "put a -1 0",.str "put a a+1 0",.str "put a (a+1 0",.str "put a a+1) 0",.str "put a (a+1+1) 0"])
   have ga:(upd H1 a (.lst [.str "put a -1 0",.str "put a a+1 0",.str "put a (a+1 0",.str "put a a+1) 0",.str "put a (a+1+1) 0"])) a=some (.lst [.str "put a -1 0",.str "put a a+1 0",.str "put a (a+1 0",.str "put a a+1) 0",.str "put a (a+1+1) 0"]):=aa
   generalize upd H1 a (.lst [.str "put a -1 0",.str "put a a+1 0",.str "put a (a+1 0",.str "put a a+1) 0",.str "put a (a+1+1) 0"])=H2 at sa ga ⊢
   replace gy:=sa _ _ gy
   refine ⟨p,a,_,_,rfl,rfl,gy,ga,F2 (show _<=1000 by rw [F0,ly]; decide) (by decide),fun p2 hp2=>?_⟩
   have sp:=af hp2 (.lst (ys.map V.str++[.str "put a -1 0",.str "put a a+1 0",.str "put a (a+1 0",.str "put a a+1) 0",.str "put a (a+1+1) 0"]))
   have gp:(upd H2 p2 (.lst (ys.map V.str++[.str "put a -1 0",.str "put a a+1 0",.str "put a (a+1 0",.str "put a a+1) 0",.str "put a (a+1+1) 0"]))) p2=some (.lst (ys.map V.str++[.str "put a -1 0",.str "put a a+1 0",.str "put a (a+1 0",.str "put a a+1) 0",.str "put a (a+1+1) 0"])):=aa
   generalize upd H2 p2 (.lst (ys.map V.str++[.str "put a -1 0",.str "put a a+1 0",.str "put a (a+1 0",.str "put a a+1) 0",.str "put a (a+1+1) 0"]))=H3 at sp gp ⊢
   refine ah ?_
   refine kR _ _ ?_
   clear kR hp2 ha
   refine au [some (.int c),some (.ref p2)] rfl ?_
   replace s1:=ae (ae s1 sa) sp
   obtain ⟨ys2,gy2,ly2,by2⟩ : ∃ys:List Str,H3 p2=some (.lst (ys.map V.str))/\ys.length=41/\∀x∈ys,aX x:=⟨ys++(["put a -1 0","put a a+1 0","put a (a+1 0","put a a+1) 0","put a (a+1+1) 0"]:List Str),by rw [F9]; exact gp,by rw [FZ,ly]; rfl,fun x hx=>by rcases List.mem_append.mp hx with z | z; exact by0 x z; exact DO x z⟩
   clear gy ly by0 ga gp sa sp
   clear ys H2
   have gy:=gy2
   have ly:=ly2
   have by0:=by2
   clear gy2 ly2 by2
   revert s1 gy ly by0
   clear p H1
   intro s1 gy ly by0
   obtain ⟨p,ep⟩ : ∃x,x=p2:=⟨_,rfl⟩
   obtain ⟨ys,ey⟩ : ∃x,x=ys2:=⟨_,rfl⟩
   obtain ⟨H1,eh⟩ : ∃x,x=H3:=⟨_,rfl⟩
   rw [← ep,← eh,← ey] at gy
   rw [← ey] at ly by0
   rw [← eh] at s1
   rw [← ep,← eh]
   clear ep eh ey p2 ys2 H3
   refine ao fun Rk kR=>?_
   refine ⟨_,rfl,M9,fun a ha=>?_⟩
   have sa:=af ha (.lst [.str "put a (a) 0",.str "put a () 0",.str "put a (a*1) 0",.str "put a a=1 0",.str "put a 01 0",.str "put a (a-) 0"])
   have ga:(upd H1 a (.lst [.str "put a (a) 0",.str "put a () 0",.str "put a (a*1) 0",.str "put a a=1 0",.str "put a 01 0",.str "put a (a-) 0"])) a=some (.lst [.str "put a (a) 0",.str "put a () 0",.str "put a (a*1) 0",.str "put a a=1 0",.str "put a 01 0",.str "put a (a-) 0"]):=aa
   generalize upd H1 a (.lst [.str "put a (a) 0",.str "put a () 0",.str "put a (a*1) 0",.str "put a a=1 0",.str "put a 01 0",.str "put a (a-) 0"])=H2 at sa ga ⊢
   replace gy:=sa _ _ gy
   refine ⟨p,a,_,_,rfl,rfl,gy,ga,F2 (show _<=1000 by rw [F0,ly]; decide) (by decide),fun p2 hp2=>?_⟩
   have sp:=af hp2 (.lst (ys.map V.str++[.str "put a (a) 0",.str "put a () 0",.str "put a (a*1) 0",.str "put a a=1 0",.str "put a 01 0",.str "put a (a-) 0"]))
   have gp:(upd H2 p2 (.lst (ys.map V.str++[.str "put a (a) 0",.str "put a () 0",.str "put a (a*1) 0",.str "put a a=1 0",.str "put a 01 0",.str "put a (a-) 0"]))) p2=some (.lst (ys.map V.str++[.str "put a (a) 0",.str "put a () 0",.str "put a (a*1) 0",.str "put a a=1 0",.str "put a 01 0",.str "put a (a-) 0"])):=aa
   generalize upd H2 p2 (.lst (ys.map V.str++[.str "put a (a) 0",.str "put a () 0",.str "put a (a*1) 0",.str "put a a=1 0",.str "put a 01 0",.str "put a (a-) 0"]))=H3 at sp gp ⊢
   refine ah ?_
   refine kR _ _ ?_
   clear kR hp2 ha
   refine au [some (.int c),some (.ref p2)] rfl ?_
   replace s1:=ae (ae s1 sa) sp
   obtain ⟨ys2,gy2,ly2,by2⟩ : ∃ys:List Str,H3 p2=some (.lst (ys.map V.str))/\ys.length=47/\∀x∈ys,aX x:=⟨ys++(["put a (a) 0","put a () 0","put a (a*1) 0","put a a=1 0","put a 01 0","put a (a-) 0"]:List Str),by rw [F9]; exact gp,by rw [FZ,ly]; rfl,fun x hx=>by rcases List.mem_append.mp hx with z | z; exact by0 x z; exact DP x z⟩
   clear gy ly by0 ga gp sa sp
   clear ys H2
   have gy:=gy2
   have ly:=ly2
   have by0:=by2
   clear gy2 ly2 by2
   revert s1 gy ly by0
   clear p H1
   intro s1 gy ly by0
   obtain ⟨p,ep⟩ : ∃x,x=p2:=⟨_,rfl⟩
   obtain ⟨ys,ey⟩ : ∃x,x=ys2:=⟨_,rfl⟩
   obtain ⟨H1,eh⟩ : ∃x,x=H3:=⟨_,rfl⟩
   rw [← ep,← eh,← ey] at gy
   rw [← ey] at ly by0
   rw [← eh] at s1
   rw [← ep,← eh]
   clear ep eh ey p2 ys2 H3
   refine ao fun Rk kR=>?_
   refine ⟨_,rfl,M9,fun a ha=>?_⟩
   have sa:=af ha (.lst [.str "put a (+a) 0",.str "put a (a+-1) 0",.str "put a ((a+1) 0",.str "put a 1a 0",.str "put a a1 0",.str "put a A 0"])
   have ga:(upd H1 a (.lst [.str "put a (+a) 0",.str "put a (a+-1) 0",.str "put a ((a+1) 0",.str "put a 1a 0",.str "put a a1 0",.str "put a A 0"])) a=some (.lst [.str "put a (+a) 0",.str "put a (a+-1) 0",.str "put a ((a+1) 0",.str "put a 1a 0",.str "put a a1 0",.str "put a A 0"]):=aa
   generalize upd H1 a (.lst [.str "put a (+a) 0",.str "put a (a+-1) 0",.str "put a ((a+1) 0",.str "put a 1a 0",.str "put a a1 0",.str "put a A 0"])=H2 at sa ga ⊢
   replace gy:=sa _ _ gy
   refine ⟨p,a,_,_,rfl,rfl,gy,ga,F2 (show _<=1000 by rw [F0,ly]; decide) (by decide),fun p2 hp2=>?_⟩
   have sp:=af hp2 (.lst (ys.map V.str++[.str "put a (+a) 0",.str "put a (a+-1) 0",.str "put a ((a+1) 0",.str "put a 1a 0",.str "put a a1 0",.str "put a A 0"]))
   have gp:(upd H2 p2 (.lst (ys.map V.str++[.str "put a (+a) 0",.str "put a (a+-1) 0",.str "put a ((a+1) 0",.str "put a 1a 0",.str "put a a1 0",.str "put a A 0"]))) p2=some (.lst (ys.map V.str++[.str "put a (+a) 0",.str "put a (a+-1) 0",.str "put a ((a+1) 0",.str "put a 1a 0",.str "put a a1 0",.str "put a A 0"])):=aa
   generalize upd H2 p2 (.lst (ys.map V.str++[.str "put a (+a) 0",.str "put a (a+-1) 0",.str "put a ((a+1) 0",.str "put a 1a 0",.str "put a a1 0",.str "put a A 0"]))=H3 at sp gp ⊢
   refine ah ?_
   refine kR _ _ ?_
   clear kR hp2 ha
   refine au [some (.int c),some (.ref p2)] rfl ?_
   replace s1:=ae (ae s1 sa) sp
   obtain ⟨ys2,gy2,ly2,by2⟩ : ∃ys:List Str,H3 p2=some (.lst (ys.map V.str))/\ys.length=53/\∀x∈ys,aX x:=⟨ys++(["put a (+a) 0","put a (a+-1) 0","put a ((a+1) 0","put a 1a 0","put a a1 0","put a A 0"]:List Str),by rw [F9]; exact gp,by rw [FZ,ly]; rfl,fun x hx=>by rcases List.mem_append.mp hx with z | z; exact by0 x z; exact DQ x z⟩
   clear gy ly by0 ga gp sa sp
   clear ys H2
   have gy:=gy2
   have ly:=ly2
   have by0:=by2
   clear gy2 ly2 by2
   revert s1 gy ly by0
   clear p H1
   intro s1 gy ly by0
   obtain ⟨p,ep⟩ : ∃x,x=p2:=⟨_,rfl⟩
   obtain ⟨ys,ey⟩ : ∃x,x=ys2:=⟨_,rfl⟩
   obtain ⟨H1,eh⟩ : ∃x,x=H3:=⟨_,rfl⟩
   rw [← ep,← eh,← ey] at gy
   rw [← ey] at ly by0
   rw [← eh] at s1
   rw [← ep,← eh]
   clear ep eh ey p2 ys2 H3
   refine ao fun Rk kR=>?_
   refine ⟨_,rfl,Nb,fun a ha=>?_⟩
   have sa:=af ha (.lst [.str "put a  1 0",.str "put 1 a 0",.str "put a 1 0 ",.str "say",.str "say 1",.str "say 1 0 0",.str "say 1 a",.str "say -1 0"])
   have ga:(upd H1 a (.lst [.str "put a  1 0",.str "put 1 a 0",.str "put a 1 0 ",.str "say",.str "say 1",.str "say 1 0 0",.str "say 1 a",.str "say -1 0"])) a=some (.lst [.str "put a  1 0",.str "put 1 a 0",.str "put a 1 0 ",.str "say",.str "say 1",.str "say 1 0 0",.str "say 1 a",.str "say -1 0"]):=aa
   generalize upd H1 a (.lst [.str "put a  1 0",.str "put 1 a 0",.str "put a 1 0 ",.str "say",.str "say 1",.str "say 1 0 0",.str "say 1 a",.str "say -1 0"])=H2 at sa ga ⊢
   replace gy:=sa _ _ gy
   refine ⟨p,a,_,_,rfl,rfl,gy,ga,F2 (show _<=1000 by rw [F0,ly]; decide) (by decide),fun p2 hp2=>?_⟩
   have sp:=af hp2 (.lst (ys.map V.str++[.str "put a  1 0",.str "put 1 a 0",.str "put a 1 0 ",.str "say",.str "say 1",.str "say 1 0 0",.str "say 1 a",.str "say -1 0"]))
   have gp:(upd H2 p2 (.lst (ys.map V.str++[.str "put a  1 0",.str "put 1 a 0",.str "put a 1 0 ",.str "say",.str "say 1",.str "say 1 0 0",.str "say 1 a",.str "say -1 0"]))) p2=some (.lst (ys.map V.str++[.str "put a  1 0",.str "put 1 a 0",.str "put a 1 0 ",.str "say",.str "say 1",.str "say 1 0 0",.str "say 1 a",.str "say -1 0"])):=aa
   generalize upd H2 p2 (.lst (ys.map V.str++[.str "put a  1 0",.str "put 1 a 0",.str "put a 1 0 ",.str "say",.str "say 1",.str "say 1 0 0",.str "say 1 a",.str "say -1 0"]))=H3 at sp gp ⊢
   refine ah ?_
   refine kR _ _ ?_
   clear kR hp2 ha
   refine au [some (.int c),some (.ref p2)] rfl ?_
   replace s1:=ae (ae s1 sa) sp
   obtain ⟨ys2,gy2,ly2,by2⟩ : ∃ys:List Str,H3 p2=some (.lst (ys.map V.str))/\ys.length=61/\∀x∈ys,aX x:=⟨ys++(["put a  1 0","put 1 a 0","put a 1 0 ","say","say 1","say 1 0 0","say 1 a","say -1 0"]:List Str),by rw [F9]; exact gp,by rw [FZ,ly]; rfl,fun x hx=>by rcases List.mem_append.mp hx with z | z; exact by0 x z; exact DR x z⟩
   clear gy ly by0 ga gp sa sp
   clear ys H2
   have gy:=gy2
   have ly:=ly2
   have by0:=by2
   clear gy2 ly2 by2
   revert s1 gy ly by0
   clear p H1
   intro s1 gy ly by0
   obtain ⟨p,ep⟩ : ∃x,x=p2:=⟨_,rfl⟩
   obtain ⟨ys,ey⟩ : ∃x,x=ys2:=⟨_,rfl⟩
   obtain ⟨H1,eh⟩ : ∃x,x=H3:=⟨_,rfl⟩
   rw [← ep,← eh,← ey] at gy
   rw [← ey] at ly by0
   rw [← eh] at s1
   rw [← ep,← eh]
   clear ep eh ey p2 ys2 H3
   refine ao fun Rk kR=>?_
   refine ⟨_,rfl,M9,fun a ha=>?_⟩
   have sa:=af ha (.lst [.str "say a=1 0",.str "say !a 0",.str "say (a+1)(a+1) 0",.str "say a a",.str "say (1+2 0",.str "say abcdefghi 0"])
   have ga:(upd H1 a (.lst [.str "say a=1 0",.str "say !a 0",.str "say (a+1)(a+1) 0",.str "say a a",.str "say (1+2 0",.str "say abcdefghi 0"])) a=some (.lst [.str "say a=1 0",.str "say !a 0",.str "say (a+1)(a+1) 0",.str "say a a",.str "say (1+2 0",.str "say abcdefghi 0"]):=aa
   generalize upd H1 a (.lst [.str "say a=1 0",.str "say !a 0",.str "say (a+1)(a+1) 0",.str "say a a",.str "say (1+2 0",.str "say abcdefghi 0"])=H2 at sa ga ⊢
   replace gy:=sa _ _ gy
   refine ⟨p,a,_,_,rfl,rfl,gy,ga,F2 (show _<=1000 by rw [F0,ly]; decide) (by decide),fun p2 hp2=>?_⟩
   have sp:=af hp2 (.lst (ys.map V.str++[.str "say a=1 0",.str "say !a 0",.str "say (a+1)(a+1) 0",.str "say a a",.str "say (1+2 0",.str "say abcdefghi 0"]))
   have gp:(upd H2 p2 (.lst (ys.map V.str++[.str "say a=1 0",.str "say !a 0",.str "say (a+1)(a+1) 0",.str "say a a",.str "say (1+2 0",.str "say abcdefghi 0"]))) p2=some (.lst (ys.map V.str++[.str "say a=1 0",.str "say !a 0",.str "say (a+1)(a+1) 0",.str "say a a",.str "say (1+2 0",.str "say abcdefghi 0"])):=aa
   generalize upd H2 p2 (.lst (ys.map V.str++[.str "say a=1 0",.str "say !a 0",.str "say (a+1)(a+1) 0",.str "say a a",.str "say (1+2 0",.str "say abcdefghi 0"]))=H3 at sp gp ⊢
   refine ah ?_
   refine kR _ _ ?_
   clear kR hp2 ha
   refine au [some (.int c),some (.ref p2)] rfl ?_
   replace s1:=ae (ae s1 sa) sp
   obtain ⟨ys2,gy2,ly2,by2⟩ : ∃ys:List Str,H3 p2=some (.lst (ys.map V.str))/\ys.length=67/\∀x∈ys,aX x:=⟨ys++(["say a=1 0","say !a 0","say (a+1)(a+1) 0","say a a","say (1+2 0","say abcdefghi 0"]:List Str),by rw [F9]; exact gp,by rw [FZ,ly]; rfl,fun x hx=>by rcases List.mem_append.mp hx with z | z; exact by0 x z; exact DS x z⟩
   clear gy ly by0 ga gp sa sp
   clear ys H2
   have gy:=gy2
   have ly:=ly2
   have by0:=by2
   clear gy2 ly2 by2
   revert s1 gy ly by0
   clear p H1
   intro s1 gy ly by0
   obtain ⟨p,ep⟩ : ∃x,x=p2:=⟨_,rfl⟩
   obtain ⟨ys,ey⟩ : ∃x,x=ys2:=⟨_,rfl⟩
   obtain ⟨H1,eh⟩ : ∃x,x=H3:=⟨_,rfl⟩
   rw [← ep,← eh,← ey] at gy
   rw [← ey] at ly by0
   rw [← eh] at s1
   rw [← ep,← eh]
   clear ep eh ey p2 ys2 H3
   refine ao fun Rk kR=>?_
   refine ⟨_,rfl,M5,fun a ha=>?_⟩
   have sa:=af ha (.lst [.str "say 1000000000000000000000000000000 0",.str "say 1 1000000000000000000000000000000"])
   have ga:(upd H1 a (.lst [.str "say 1000000000000000000000000000000 0",.str "say 1 1000000000000000000000000000000"])) a=some (.lst [.str "say 1000000000000000000000000000000 0",.str "say 1 1000000000000000000000000000000"]):=aa
   generalize upd H1 a (.lst [.str "say 1000000000000000000000000000000 0",.str "say 1 1000000000000000000000000000000"])=H2 at sa ga ⊢
   replace gy:=sa _ _ gy
   refine ⟨p,a,_,_,rfl,rfl,gy,ga,F2 (show _<=1000 by rw [F0,ly]; decide) (by decide),fun p2 hp2=>?_⟩
   have sp:=af hp2 (.lst (ys.map V.str++[.str "say 1000000000000000000000000000000 0",.str "say 1 1000000000000000000000000000000"]))
   have gp:(upd H2 p2 (.lst (ys.map V.str++[.str "say 1000000000000000000000000000000 0",.str "say 1 1000000000000000000000000000000"]))) p2=some (.lst (ys.map V.str++[.str "say 1000000000000000000000000000000 0",.str "say 1 1000000000000000000000000000000"])):=aa
   generalize upd H2 p2 (.lst (ys.map V.str++[.str "say 1000000000000000000000000000000 0",.str "say 1 1000000000000000000000000000000"]))=H3 at sp gp ⊢
   refine ah ?_
   refine kR _ _ ?_
   clear kR hp2 ha
   refine au [some (.int c),some (.ref p2)] rfl ?_
   replace s1:=ae (ae s1 sa) sp
   obtain ⟨ys2,gy2,ly2,by2⟩ : ∃ys:List Str,H3 p2=some (.lst (ys.map V.str))/\ys.length=69/\∀x∈ys,aX x:=⟨ys++(["say 1000000000000000000000000000000 0","say 1 1000000000000000000000000000000"]:List Str),by rw [F9]; exact gp,by rw [FZ,ly]; rfl,fun x hx=>by rcases List.mem_append.mp hx with z | z; exact by0 x z; exact BD x z⟩
   clear gy ly by0 ga gp sa sp
   clear ys H2
   have gy:=gy2
   have ly:=ly2
   have by0:=by2
   clear gy2 ly2 by2
   revert s1 gy ly by0
   clear p H1
   intro s1 gy ly by0
   obtain ⟨p,ep⟩ : ∃x,x=p2:=⟨_,rfl⟩
   obtain ⟨ys,ey⟩ : ∃x,x=ys2:=⟨_,rfl⟩
   obtain ⟨H1,eh⟩ : ∃x,x=H3:=⟨_,rfl⟩
   rw [← ep,← eh,← ey] at gy
   rw [← ey] at ly by0
   rw [← eh] at s1
   rw [← ep,← eh]
   clear ep eh ey p2 ys2 H3
   refine ao fun Rk kR=>?_
   refine ⟨_,rfl,M9,fun a ha=>?_⟩
   have sa:=af ha (.lst [.str "say {a+1} 0",.str "say [a+1] 0",.str "test",.str "test yes",.str "test yes 0",.str "test yes 0 0 0"])
   have ga:(upd H1 a (.lst [.str "say {a+1} 0",.str "say [a+1] 0",.str "test",.str "test yes",.str "test yes 0",.str "test yes 0 0 0"])) a=some (.lst [.str "say {a+1} 0",.str "say [a+1] 0",.str "test",.str "test yes",.str "test yes 0",.str "test yes 0 0 0"]):=aa
   generalize upd H1 a (.lst [.str "say {a+1} 0",.str "say [a+1] 0",.str "test",.str "test yes",.str "test yes 0",.str "test yes 0 0 0"])=H2 at sa ga ⊢
   replace gy:=sa _ _ gy
   refine ⟨p,a,_,_,rfl,rfl,gy,ga,F2 (show _<=1000 by rw [F0,ly]; decide) (by decide),fun p2 hp2=>?_⟩
   have sp:=af hp2 (.lst (ys.map V.str++[.str "say {a+1} 0",.str "say [a+1] 0",.str "test",.str "test yes",.str "test yes 0",.str "test yes 0 0 0"]))
   have gp:(upd H2 p2 (.lst (ys.map V.str++[.str "say {a+1} 0",.str "say [a+1] 0",.str "test",.str "test yes",.str "test yes 0",.str "test yes 0 0 0"]))) p2=some (.lst (ys.map V.str++[.str "say {a+1} 0",.str "say [a+1] 0",.str "test",.str "test yes",.str "test yes 0",.str "test yes 0 0 0"])):=aa
   generalize upd H2 p2 (.lst (ys.map V.str++[.str "say {a+1} 0",.str "say [a+1] 0",.str "test",.str "test yes",.str "test yes 0",.str "test yes 0 0 0"]))=H3 at sp gp ⊢
   refine ah ?_
   refine kR _ _ ?_
   clear kR hp2 ha
   refine au [some (.int c),some (.ref p2)] rfl ?_
   replace s1:=ae (ae s1 sa) sp
   obtain ⟨ys2,gy2,ly2,by2⟩ : ∃ys:List Str,H3 p2=some (.lst (ys.map V.str))/\ys.length=75/\∀x∈ys,aX x:=⟨ys++(["say {a+1} 0","say [a+1] 0","test","test yes","test yes 0","test yes 0 0 0"]:List Str),by rw [F9]; exact gp,by rw [FZ,ly]; rfl,fun x hx=>by rcases List.mem_append.mp hx with z | z; exact by0 x z; exact BE x z⟩
   clear gy ly by0 ga gp sa sp
   clear ys H2
   have gy:=gy2
   have ly:=ly2
   have by0:=by2
   clear gy2 ly2 by2
   revert s1 gy ly by0
   clear p H1
   intro s1 gy ly by0
   obtain ⟨p,ep⟩ : ∃x,x=p2:=⟨_,rfl⟩
   obtain ⟨ys,ey⟩ : ∃x,x=ys2:=⟨_,rfl⟩
   obtain ⟨H1,eh⟩ : ∃x,x=H3:=⟨_,rfl⟩
   rw [← ep,← eh,← ey] at gy
   rw [← ey] at ly by0
   rw [← eh] at s1
   rw [← ep,← eh]
   clear ep eh ey p2 ys2 H3
   refine ao fun Rk kR=>?_
   refine ⟨_,rfl,M9,fun a ha=>?_⟩
   have sa:=af ha (.lst [.str "test yes 0 x",.str "test a 0 0",.str "test 1 0 0",.str "test yess 0 0",.str "test a== 0 0",.str "test a==1 0 0"])
   have ga:(upd H1 a (.lst [.str "test yes 0 x",.str "test a 0 0",.str "test 1 0 0",.str "test yess 0 0",.str "test a== 0 0",.str "test a==1 0 0"])) a=some (.lst [.str "test yes 0 x",.str "test a 0 0",.str "test 1 0 0",.str "test yess 0 0",.str "test a== 0 0",.str "test a==1 0 0"]):=aa
   generalize upd H1 a (.lst [.str "test yes 0 x",.str "test a 0 0",.str "test 1 0 0",.str "test yess 0 0",.str "test a== 0 0",.str "test a==1 0 0"])=H2 at sa ga ⊢
   replace gy:=sa _ _ gy
   refine ⟨p,a,_,_,rfl,rfl,gy,ga,F2 (show _<=1000 by rw [F0,ly]; decide) (by decide),fun p2 hp2=>?_⟩
   have sp:=af hp2 (.lst (ys.map V.str++[.str "test yes 0 x",.str "test a 0 0",.str "test 1 0 0",.str "test yess 0 0",.str "test a== 0 0",.str "test a==1 0 0"]))
   have gp:(upd H2 p2 (.lst (ys.map V.str++[.str "test yes 0 x",.str "test a 0 0",.str "test 1 0 0",.str "test yess 0 0",.str "test a== 0 0",.str "test a==1 0 0"]))) p2=some (.lst (ys.map V.str++[.str "test yes 0 x",.str "test a 0 0",.str "test 1 0 0",.str "test yess 0 0",.str "test a== 0 0",.str "test a==1 0 0"])):=aa
   generalize upd H2 p2 (.lst (ys.map V.str++[.str "test yes 0 x",.str "test a 0 0",.str "test 1 0 0",.str "test yess 0 0",.str "test a== 0 0",.str "test a==1 0 0"]))=H3 at sp gp ⊢
   refine ah ?_
   refine kR _ _ ?_
   clear kR hp2 ha
   refine au [some (.int c),some (.ref p2)] rfl ?_
   replace s1:=ae (ae s1 sa) sp
   obtain ⟨ys2,gy2,ly2,by2⟩ : ∃ys:List Str,H3 p2=some (.lst (ys.map V.str))/\ys.length=81/\∀x∈ys,aX x:=⟨ys++(["test yes 0 x","test a 0 0","test 1 0 0","test yess 0 0","test a== 0 0","test a==1 0 0"]:List Str),by rw [F9]; exact gp,by rw [FZ,ly]; rfl,fun x hx=>by rcases List.mem_append.mp hx with z | z; exact by0 x z; exact BF x z⟩
   clear gy ly by0 ga gp sa sp
   clear ys H2
   have gy:=gy2
   have ly:=ly2
   have by0:=by2
   clear gy2 ly2 by2
   revert s1 gy ly by0
   clear p H1
   intro s1 gy ly by0
   obtain ⟨p,ep⟩ : ∃x,x=p2:=⟨_,rfl⟩
   obtain ⟨ys,ey⟩ : ∃x,x=ys2:=⟨_,rfl⟩
   obtain ⟨H1,eh⟩ : ∃x,x=H3:=⟨_,rfl⟩
   rw [← ep,← eh,← ey] at gy
   rw [← ey] at ly by0
   rw [← eh] at s1
   rw [← ep,← eh]
   clear ep eh ey p2 ys2 H3
   refine ao fun Rk kR=>?_
   refine ⟨_,rfl,M8,fun a ha=>?_⟩
   have sa:=af ha (.lst [.str "test a=1=1 0 0",.str "test a<=1 0 0",.str "test a>1 0 0",.str "test a< 0 0",.str "test =1 0 0"])
   have ga:(upd H1 a (.lst [.str "test a=1=1 0 0",.str "test a<=1 0 0",.str "test a>1 0 0",.str "test a< 0 0",.str "test =1 0 0"])) a=some (.lst [.str "test a=1=1 0 0",.str "test a<=1 0 0",.str "test a>1 0 0",.str "test a< 0 0",.str "test =1 0 0"]):=aa
   generalize upd H1 a (.lst [.str "test a=1=1 0 0",.str "test a<=1 0 0",.str "test a>1 0 0",.str "test a< 0 0",.str "test =1 0 0"])=H2 at sa ga ⊢
   replace gy:=sa _ _ gy
   refine ⟨p,a,_,_,rfl,rfl,gy,ga,F2 (show _<=1000 by rw [F0,ly]; decide) (by decide),fun p2 hp2=>?_⟩
   have sp:=af hp2 (.lst (ys.map V.str++[.str "test a=1=1 0 0",.str "test a<=1 0 0",.str "test a>1 0 0",.str "test a< 0 0",.str "test =1 0 0"]))
   have gp:(upd H2 p2 (.lst (ys.map V.str++[.str "test a=1=1 0 0",.str "test a<=1 0 0",.str "test a>1 0 0",.str "test a< 0 0",.str "test =1 0 0"]))) p2=some (.lst (ys.map V.str++[.str "test a=1=1 0 0",.str "test a<=1 0 0",.str "test a>1 0 0",.str "test a< 0 0",.str "test =1 0 0"])):=aa
   generalize upd H2 p2 (.lst (ys.map V.str++[.str "test a=1=1 0 0",.str "test a<=1 0 0",.str "test a>1 0 0",.str "test a< 0 0",.str "test =1 0 0"]))=H3 at sp gp ⊢
   refine ah ?_
   refine kR _ _ ?_
   clear kR hp2 ha
   refine au [some (.int c),some (.ref p2)] rfl ?_
   replace s1:=ae (ae s1 sa) sp
   obtain ⟨ys2,gy2,ly2,by2⟩ : ∃ys:List Str,H3 p2=some (.lst (ys.map V.str))/\ys.length=86/\∀x∈ys,aX x:=⟨ys++(["test a=1=1 0 0","test a<=1 0 0","test a>1 0 0","test a< 0 0","test =1 0 0"]:List Str),by rw [F9]; exact gp,by rw [FZ,ly]; rfl,fun x hx=>by rcases List.mem_append.mp hx with z | z; exact by0 x z; exact BG x z⟩
   clear gy ly by0 ga gp sa sp
   clear ys H2
   have gy:=gy2
   have ly:=ly2
   have by0:=by2
   clear gy2 ly2 by2
   revert s1 gy ly by0
   clear p H1
   intro s1 gy ly by0
   obtain ⟨p,ep⟩ : ∃x,x=p2:=⟨_,rfl⟩
   obtain ⟨ys,ey⟩ : ∃x,x=ys2:=⟨_,rfl⟩
   obtain ⟨H1,eh⟩ : ∃x,x=H3:=⟨_,rfl⟩
   rw [← ep,← eh,← ey] at gy
   rw [← ey] at ly by0
   rw [← eh] at s1
   rw [← ep,← eh]
   clear ep eh ey p2 ys2 H3
   refine ao fun Rk kR=>?_
   refine ⟨_,rfl,M8,fun a ha=>?_⟩
   have sa:=af ha (.lst [.str "test !a 0 0",.str "test a=!b 0 0",.str "test {yes} 0 0",.str "test {yes&} 0 0",.str "test {yes&yes 0 0"])
   have ga:(upd H1 a (.lst [.str "test !a 0 0",.str "test a=!b 0 0",.str "test {yes} 0 0",.str "test {yes&} 0 0",.str "test {yes&yes 0 0"])) a=some (.lst [.str "test !a 0 0",.str "test a=!b 0 0",.str "test {yes} 0 0",.str "test {yes&} 0 0",.str "test {yes&yes 0 0"]):=aa
   generalize upd H1 a (.lst [.str "test !a 0 0",.str "test a=!b 0 0",.str "test {yes} 0 0",.str "test {yes&} 0 0",.str "test {yes&yes 0 0"])=H2 at sa ga ⊢
   replace gy:=sa _ _ gy
   refine ⟨p,a,_,_,rfl,rfl,gy,ga,F2 (show _<=1000 by rw [F0,ly]; decide) (by decide),fun p2 hp2=>?_⟩
   have sp:=af hp2 (.lst (ys.map V.str++[.str "test !a 0 0",.str "test a=!b 0 0",.str "test {yes} 0 0",.str "test {yes&} 0 0",.str "test {yes&yes 0 0"]))
   have gp:(upd H2 p2 (.lst (ys.map V.str++[.str "test !a 0 0",.str "test a=!b 0 0",.str "test {yes} 0 0",.str "test {yes&} 0 0",.str "test {yes&yes 0 0"]))) p2=some (.lst (ys.map V.str++[.str "test !a 0 0",.str "test a=!b 0 0",.str "test {yes} 0 0",.str "test {yes&} 0 0",.str "test {yes&yes 0 0"])):=aa
   generalize upd H2 p2 (.lst (ys.map V.str++[.str "test !a 0 0",.str "test a=!b 0 0",.str "test {yes} 0 0",.str "test {yes&} 0 0",.str "test {yes&yes 0 0"]))=H3 at sp gp ⊢
   refine ah ?_
   refine kR _ _ ?_
   clear kR hp2 ha
   refine au [some (.int c),some (.ref p2)] rfl ?_
   replace s1:=ae (ae s1 sa) sp
   obtain ⟨ys2,gy2,ly2,by2⟩ : ∃ys:List Str,H3 p2=some (.lst (ys.map V.str))/\ys.length=91/\∀x∈ys,aX x:=⟨ys++(["test !a 0 0","test a=!b 0 0","test {yes} 0 0","test {yes&} 0 0","test {yes&yes 0 0"]:List Str),by rw [F9]; exact gp,by rw [FZ,ly]; rfl,fun x hx=>by rcases List.mem_append.mp hx with z | z; exact by0 x z; exact BH x z⟩
   clear gy ly by0 ga gp sa sp
   clear ys H2
   have gy:=gy2
   have ly:=ly2
   have by0:=by2
   clear gy2 ly2 by2
   revert s1 gy ly by0
   clear p H1
   intro s1 gy ly by0
   obtain ⟨p,ep⟩ : ∃x,x=p2:=⟨_,rfl⟩
   obtain ⟨ys,ey⟩ : ∃x,x=ys2:=⟨_,rfl⟩
   obtain ⟨H1,eh⟩ : ∃x,x=H3:=⟨_,rfl⟩
   rw [← ep,← eh,← ey] at gy
   rw [← ey] at ly by0
   rw [← eh] at s1
   rw [← ep,← eh]
   clear ep eh ey p2 ys2 H3
   refine ao fun Rk kR=>?_
   refine ⟨_,rfl,M7,fun a ha=>?_⟩
   have sa:=af ha (.lst [.str "test yes&yes 0 0",.str "test {yes&yes&yes} 0 0",.str "test {yes|yes} 0 0",.str "test (yes) 0 0"])
   have ga:(upd H1 a (.lst [.str "test yes&yes 0 0",.str "test {yes&yes&yes} 0 0",.str "test {yes|yes} 0 0",.str "test (yes) 0 0"])) a=some (.lst [.str "test yes&yes 0 0",.str "test {yes&yes&yes} 0 0",.str "test {yes|yes} 0 0",.str "test (yes) 0 0"]):=aa
   generalize upd H1 a (.lst [.str "test yes&yes 0 0",.str "test {yes&yes&yes} 0 0",.str "test {yes|yes} 0 0",.str "test (yes) 0 0"])=H2 at sa ga ⊢
   replace gy:=sa _ _ gy
   refine ⟨p,a,_,_,rfl,rfl,gy,ga,F2 (show _<=1000 by rw [F0,ly]; decide) (by decide),fun p2 hp2=>?_⟩
   have sp:=af hp2 (.lst (ys.map V.str++[.str "test yes&yes 0 0",.str "test {yes&yes&yes} 0 0",.str "test {yes|yes} 0 0",.str "test (yes) 0 0"]))
   have gp:(upd H2 p2 (.lst (ys.map V.str++[.str "test yes&yes 0 0",.str "test {yes&yes&yes} 0 0",.str "test {yes|yes} 0 0",.str "test (yes) 0 0"]))) p2=some (.lst (ys.map V.str++[.str "test yes&yes 0 0",.str "test {yes&yes&yes} 0 0",.str "test {yes|yes} 0 0",.str "test (yes) 0 0"])):=aa
   generalize upd H2 p2 (.lst (ys.map V.str++[.str "test yes&yes 0 0",.str "test {yes&yes&yes} 0 0",.str "test {yes|yes} 0 0",.str "test (yes) 0 0"]))=H3 at sp gp ⊢
   refine ah ?_
   refine kR _ _ ?_
   clear kR hp2 ha
   refine au [some (.int c),some (.ref p2)] rfl ?_
   replace s1:=ae (ae s1 sa) sp
   obtain ⟨ys2,gy2,ly2,by2⟩ : ∃ys:List Str,H3 p2=some (.lst (ys.map V.str))/\ys.length=95/\∀x∈ys,aX x:=⟨ys++(["test yes&yes 0 0","test {yes&yes&yes} 0 0","test {yes|yes} 0 0","test (yes) 0 0"]:List Str),by rw [F9]; exact gp,by rw [FZ,ly]; rfl,fun x hx=>by rcases List.mem_append.mp hx with z | z; exact by0 x z; exact BJ x z⟩
   clear gy ly by0 ga gp sa sp
   clear ys H2
   have gy:=gy2
   have ly:=ly2
   have by0:=by2
   clear gy2 ly2 by2
   revert s1 gy ly by0
   clear p H1
   intro s1 gy ly by0
   obtain ⟨p,ep⟩ : ∃x,x=p2:=⟨_,rfl⟩
   obtain ⟨ys,ey⟩ : ∃x,x=ys2:=⟨_,rfl⟩
   obtain ⟨H1,eh⟩ : ∃x,x=H3:=⟨_,rfl⟩
   rw [← ep,← eh,← ey] at gy
   rw [← ey] at ly by0
   rw [← eh] at s1
   rw [← ep,← eh]
   clear ep eh ey p2 ys2 H3
   refine ao fun Rk kR=>?_
   refine ⟨_,rfl,M8,fun a ha=>?_⟩
   have sa:=af ha (.lst [.str "test (a=1) 0 0",.str "test !! 0 0",.str "test yes! 0 0",.str "test {a&b} 0 0",.str "test YES 0 0"])
   have ga:(upd H1 a (.lst [.str "test (a=1) 0 0",.str "test !! 0 0",.str "test yes! 0 0",.str "test {a&b} 0 0",.str "test YES 0 0"])) a=some (.lst [.str "test (a=1) 0 0",.str "test !! 0 0",.str "test yes! 0 0",.str "test {a&b} 0 0",.str "test YES 0 0"]):=aa
   generalize upd H1 a (.lst [.str "test (a=1) 0 0",.str "test !! 0 0",.str "test yes! 0 0",.str "test {a&b} 0 0",.str "test YES 0 0"])=H2 at sa ga ⊢
   replace gy:=sa _ _ gy
   refine ⟨p,a,_,_,rfl,rfl,gy,ga,F2 (show _<=1000 by rw [F0,ly]; decide) (by decide),fun p2 hp2=>?_⟩
   have sp:=af hp2 (.lst (ys.map V.str++[.str "test (a=1) 0 0",.str "test !! 0 0",.str "test yes! 0 0",.str "test {a&b} 0 0",.str "test YES 0 0"]))
   have gp:(upd H2 p2 (.lst (ys.map V.str++[.str "test (a=1) 0 0",.str "test !! 0 0",.str "test yes! 0 0",.str "test {a&b} 0 0",.str "test YES 0 0"]))) p2=some (.lst (ys.map V.str++[.str "test (a=1) 0 0",.str "test !! 0 0",.str "test yes! 0 0",.str "test {a&b} 0 0",.str "test YES 0 0"])):=aa
   generalize upd H2 p2 (.lst (ys.map V.str++[.str "test (a=1) 0 0",.str "test !! 0 0",.str "test yes! 0 0",.str "test {a&b} 0 0",.str "test YES 0 0"]))=H3 at sp gp ⊢
   refine ah ?_
   refine kR _ _ ?_
   clear kR hp2 ha
   refine au [some (.int c),some (.ref p2)] rfl ?_
   replace s1:=ae (ae s1 sa) sp
   obtain ⟨ys2,gy2,ly2,by2⟩ : ∃ys:List Str,H3 p2=some (.lst (ys.map V.str))/\ys.length=100/\∀x∈ys,aX x:=⟨ys++(["test (a=1) 0 0","test !! 0 0","test yes! 0 0","test {a&b} 0 0","test YES 0 0"]:List Str),by rw [F9]; exact gp,by rw [FZ,ly]; rfl,fun x hx=>by rcases List.mem_append.mp hx with z | z; exact by0 x z; exact BK x z⟩
   clear gy ly by0 ga gp sa sp
   clear ys H2
   have gy:=gy2
   have ly:=ly2
   have by0:=by2
   clear gy2 ly2 by2
   revert s1 gy ly by0
   clear p H1
   intro s1 gy ly by0
   obtain ⟨p,ep⟩ : ∃x,x=p2:=⟨_,rfl⟩
   obtain ⟨ys,ey⟩ : ∃x,x=ys2:=⟨_,rfl⟩
   obtain ⟨H1,eh⟩ : ∃x,x=H3:=⟨_,rfl⟩
   rw [← ep,← eh,← ey] at gy
   rw [← ey] at ly by0
   rw [← eh] at s1
   rw [← ep,← eh]
   clear ep eh ey p2 ys2 H3
   refine ao fun Rk kR=>?_
   refine ⟨_,rfl,M9,fun a ha=>?_⟩
   have sa:=af ha (.lst [.str "test yes -1 0",.str "test a=01 0 0",.str "test (a+1)=(a+1 0 0",.str "pick",.str "pick a",.str "pick a 0 0"])
   have ga:(upd H1 a (.lst [.str "test yes -1 0",.str "test a=01 0 0",.str "test (a+1)=(a+1 0 0",.str "pick",.str "pick a",.str "pick a 0 0"])) a=some (.lst [.str "test yes -1 0",.str "test a=01 0 0",.str "test (a+1)=(a+1 0 0",.str "pick",.str "pick a",.str "pick a 0 0"]):=aa
   generalize upd H1 a (.lst [.str "test yes -1 0",.str "test a=01 0 0",.str "test (a+1)=(a+1 0 0",.str "pick",.str "pick a",.str "pick a 0 0"])=H2 at sa ga ⊢
   replace gy:=sa _ _ gy
   refine ⟨p,a,_,_,rfl,rfl,gy,ga,F2 (show _<=1000 by rw [F0,ly]; decide) (by decide),fun p2 hp2=>?_⟩
   have sp:=af hp2 (.lst (ys.map V.str++[.str "test yes -1 0",.str "test a=01 0 0",.str "test (a+1)=(a+1 0 0",.str "pick",.str "pick a",.str "pick a 0 0"]))
   have gp:(upd H2 p2 (.lst (ys.map V.str++[.str "test yes -1 0",.str "test a=01 0 0",.str "test (a+1)=(a+1 0 0",.str "pick",.str "pick a",.str "pick a 0 0"]))) p2=some (.lst (ys.map V.str++[.str "test yes -1 0",.str "test a=01 0 0",.str "test (a+1)=(a+1 0 0",.str "pick",.str "pick a",.str "pick a 0 0"])):=aa
   generalize upd H2 p2 (.lst (ys.map V.str++[.str "test yes -1 0",.str "test a=01 0 0",.str "test (a+1)=(a+1 0 0",.str "pick",.str "pick a",.str "pick a 0 0"]))=H3 at sp gp ⊢
   refine ah ?_
   refine kR _ _ ?_
   clear kR hp2 ha
   refine au [some (.int c),some (.ref p2)] rfl ?_
   replace s1:=ae (ae s1 sa) sp
   obtain ⟨ys2,gy2,ly2,by2⟩ : ∃ys:List Str,H3 p2=some (.lst (ys.map V.str))/\ys.length=106/\∀x∈ys,aX x:=⟨ys++(["test yes -1 0","test a=01 0 0","test (a+1)=(a+1 0 0","pick","pick a","pick a 0 0"]:List Str),by rw [F9]; exact gp,by rw [FZ,ly]; rfl,fun x hx=>by rcases List.mem_append.mp hx with z | z; exact by0 x z; exact BL x z⟩
   clear gy ly by0 ga gp sa sp
   clear ys H2
   have gy:=gy2
   have ly:=ly2
   have by0:=by2
   clear gy2 ly2 by2
   revert s1 gy ly by0
   clear p H1
   intro s1 gy ly by0
   obtain ⟨p,ep⟩ : ∃x,x=p2:=⟨_,rfl⟩
   obtain ⟨ys,ey⟩ : ∃x,x=ys2:=⟨_,rfl⟩
   obtain ⟨H1,eh⟩ : ∃x,x=H3:=⟨_,rfl⟩
   rw [← ep,← eh,← ey] at gy
   rw [← ey] at ly by0
   rw [← eh] at s1
   rw [← ep,← eh]
   clear ep eh ey p2 ys2 H3
   refine ao fun Rk kR=>?_
   refine ⟨_,rfl,Nc,fun a ha=>?_⟩
   have sa:=af ha (.lst [.str "pick A 0",.str "pick a x",.str "pick 0 a",.str "pick a 00",.str "picks a 0",.str "end 0",.str "end ",.str " end",.str "End"])
   have ga:(upd H1 a (.lst [.str "pick A 0",.str "pick a x",.str "pick 0 a",.str "pick a 00",.str "picks a 0",.str "end 0",.str "end ",.str " end",.str "End"])) a=some (.lst [.str "pick A 0",.str "pick a x",.str "pick 0 a",.str "pick a 00",.str "picks a 0",.str "end 0",.str "end ",.str " end",.str "End"]):=aa
   generalize upd H1 a (.lst [.str "pick A 0",.str "pick a x",.str "pick 0 a",.str "pick a 00",.str "picks a 0",.str "end 0",.str "end ",.str " end",.str "End"])=H2 at sa ga ⊢
   replace gy:=sa _ _ gy
   refine ⟨p,a,_,_,rfl,rfl,gy,ga,F2 (show _<=1000 by rw [F0,ly]; decide) (by decide),fun p2 hp2=>?_⟩
   have sp:=af hp2 (.lst (ys.map V.str++[.str "pick A 0",.str "pick a x",.str "pick 0 a",.str "pick a 00",.str "picks a 0",.str "end 0",.str "end ",.str " end",.str "End"]))
   have gp:(upd H2 p2 (.lst (ys.map V.str++[.str "pick A 0",.str "pick a x",.str "pick 0 a",.str "pick a 00",.str "picks a 0",.str "end 0",.str "end ",.str " end",.str "End"]))) p2=some (.lst (ys.map V.str++[.str "pick A 0",.str "pick a x",.str "pick 0 a",.str "pick a 00",.str "picks a 0",.str "end 0",.str "end ",.str " end",.str "End"])):=aa
   generalize upd H2 p2 (.lst (ys.map V.str++[.str "pick A 0",.str "pick a x",.str "pick 0 a",.str "pick a 00",.str "picks a 0",.str "end 0",.str "end ",.str " end",.str "End"]))=H3 at sp gp ⊢
   refine ah ?_
   refine kR _ _ ?_
   clear kR hp2 ha
   refine au [some (.int c),some (.ref p2)] rfl ?_
   replace s1:=ae (ae s1 sa) sp
   obtain ⟨ys2,gy2,ly2,by2⟩ : ∃ys:List Str,H3 p2=some (.lst (ys.map V.str))/\ys.length=115/\∀x∈ys,aX x:=⟨ys++(["pick A 0","pick a x","pick 0 a","pick a 00","picks a 0","end 0","end "," end","End"]:List Str),by rw [F9]; exact gp,by rw [FZ,ly]; rfl,fun x hx=>by rcases List.mem_append.mp hx with z | z; exact by0 x z; exact BM x z⟩
   clear gy ly by0 ga gp sa sp
   clear ys H2
   have gy:=gy2
   have ly:=ly2
   have by0:=by2
   clear gy2 ly2 by2
   revert s1 gy ly by0
   clear p H1
   intro s1 gy ly by0
   obtain ⟨p,ep⟩ : ∃x,x=p2:=⟨_,rfl⟩
   obtain ⟨ys,ey⟩ : ∃x,x=ys2:=⟨_,rfl⟩
   obtain ⟨H1,eh⟩ : ∃x,x=H3:=⟨_,rfl⟩
   rw [← ep,← eh,← ey] at gy
   rw [← ey] at ly by0
   rw [← eh] at s1
   rw [← ep,← eh]
   clear ep eh ey p2 ys2 H3
   refine ao fun Rk kR=>?_
   refine ⟨_,rfl,Nb,fun a ha=>?_⟩
   have sa:=af ha (.lst [.str "ends",.str "go 0",.str "stop",.str "a",.str "1",.str "node end",.str "# end",.str "if yes 0 0"])
   have ga:(upd H1 a (.lst [.str "ends",.str "go 0",.str "stop",.str "a",.str "1",.str "node end",.str "# end",.str "if yes 0 0"])) a=some (.lst [.str "ends",.str "go 0",.str "stop",.str "a",.str "1",.str "node end",.str "# end",.str "if yes 0 0"]):=aa
   generalize upd H1 a (.lst [.str "ends",.str "go 0",.str "stop",.str "a",.str "1",.str "node end",.str "# end",.str "if yes 0 0"])=H2 at sa ga ⊢
   replace gy:=sa _ _ gy
   refine ⟨p,a,_,_,rfl,rfl,gy,ga,F2 (show _<=1000 by rw [F0,ly]; decide) (by decide),fun p2 hp2=>?_⟩
   have sp:=af hp2 (.lst (ys.map V.str++[.str "ends",.str "go 0",.str "stop",.str "a",.str "1",.str "node end",.str "# end",.str "if yes 0 0"]))
   have gp:(upd H2 p2 (.lst (ys.map V.str++[.str "ends",.str "go 0",.str "stop",.str "a",.str "1",.str "node end",.str "# end",.str "if yes 0 0"]))) p2=some (.lst (ys.map V.str++[.str "ends",.str "go 0",.str "stop",.str "a",.str "1",.str "node end",.str "# end",.str "if yes 0 0"])):=aa
   generalize upd H2 p2 (.lst (ys.map V.str++[.str "ends",.str "go 0",.str "stop",.str "a",.str "1",.str "node end",.str "# end",.str "if yes 0 0"]))=H3 at sp gp ⊢
   refine ah ?_
   refine kR _ _ ?_
   clear kR hp2 ha
   refine au [some (.int c),some (.ref p2)] rfl ?_
   replace s1:=ae (ae s1 sa) sp
   obtain ⟨ys2,gy2,ly2,by2⟩ : ∃ys:List Str,H3 p2=some (.lst (ys.map V.str))/\ys.length=123/\∀x∈ys,aX x:=⟨ys++(["ends","go 0","stop","a","1","node end","# end","if yes 0 0"]:List Str),by rw [F9]; exact gp,by rw [FZ,ly]; rfl,fun x hx=>by rcases List.mem_append.mp hx with z | z; exact by0 x z; exact BO x z⟩
   clear gy ly by0 ga gp sa sp
   clear ys H2
   have gy:=gy2
   have ly:=ly2
   have by0:=by2
   clear gy2 ly2 by2
   revert s1 gy ly by0
   clear p H1
   intro s1 gy ly by0
   obtain ⟨p,ep⟩ : ∃x,x=p2:=⟨_,rfl⟩
   obtain ⟨ys,ey⟩ : ∃x,x=ys2:=⟨_,rfl⟩
   obtain ⟨H1,eh⟩ : ∃x,x=H3:=⟨_,rfl⟩
   rw [← ep,← eh,← ey] at gy
   rw [← ey] at ly by0
   rw [← eh] at s1
   rw [← ep,← eh]
   clear ep eh ey p2 ys2 H3
   refine ⟨_,rfl,_,rfl,c,900,rfl,by decide,by decide,fun r r0 r1=>?_⟩
   obtain ⟨x,_,hxm,hat⟩:=bo V.str ys (ax (k:=r) (n:=((ys.map V.str).length:Int)) (by rw [F0,ly]; decide)) (by have:=az (k:=r) (n:=((ys.map V.str).length:Int)) (by rw [F0,ly]; decide); rw [F0] at this ⊢; exact this)
   exact ⟨_,rfl,p,_,rfl,.inl (aw.of gy),_,_,rfl,rfl,(show (0:Int) < ((ys.map V.str).length:Int) from by rw [F0,ly]; decide),p,_,_,_,rfl,rfl,aw.of gy,hat,q x _ s1 (by0 x hxm)⟩
theorem vZ (s:Src K mg "_law_bad" sBad)(m_len:mg "len"=none)(ST:aY P w K mg base "_law_stir" ["cell","k"] 1 aP):aY P w K mg base "_law_bad" ["cell"] 2 uZ:=
 let ⟨f,fd,F,m⟩:=s
 ⟨f,fd,zN F m_len ST,F.kp,gf F fun _ _ _ _ _ _ _=>rfl,m⟩
end
end TW
set_option Elab.async false
set_option linter.all false
set_option maxRecDepth 100000
set_option exponentiation.threshold 4000
set_option maxHeartbeats 1000000
namespace TW
open PySem L2
section
variable {P:Program}{w:World}{K:FX}{mg:Str->Option Value}{base:Heap}
/-! ### rows spoilt: what is left is of no form -/
theorem jT:∀p∈formsL,∀q∈formsL,p.1=q.1->p.2=q.2:=by decide +kernel
theorem jU:∀p∈formsL,∀q∈formsL,p.1.cps.toList.isPrefixOf q.1.cps.toList=true->p=q:=by decide +kernel
theorem iO:∀p∈formsL,p.1≠HS/\∀c∈p.1.cps.toList,isLt c=true:=by decide +kernel
theorem k9 {c:Nat}:∀{xs:List (List Nat)} {d:Nat},d∈jl c xs->d=c\/∃x∈xs,d∈x
 | [],_,h=>nomatch h
 | [a],_,h=>.inr ⟨a,F4,h⟩
 | a :: b :: r,d,h=>by
   have h:d∈a++c :: jl c (b :: r):=h
   rcases List.mem_append.mp h with h | h
   · exact .inr ⟨a,F4,h⟩
   · rcases List.mem_cons.mp h with rfl | h
     · exact .inl rfl
     · rcases k9 h with h | ⟨x,hx,h⟩
       · exact .inl h
       · exact .inr ⟨x,F7 _ hx,h⟩
theorem mw {c:Nat}:∀{xs:List (List Nat)} {x:List Nat} {d:Nat},x∈xs->d∈x->d∈jl c xs
 | [a],x,d,hx,h=>by rw [List.mem_singleton.mp hx] at h; exact h
 | a :: b :: r,x,d,hx,h=>by
   show d∈a++c :: jl c (b :: r)
   rcases List.mem_cons.mp hx with rfl | hx
   · exact GY _ h
   · exact Gj _ (F7 _ (mw hx h))
theorem nQ {c:Nat}:∀(xs:List (List Nat)) (i:Nat) (y:List Nat),(jl c (xs.set i y)).length<=(jl c xs).length + y.length
 | [],_,_=>Gs _
 | [a],0,y=>by show y.length<=a.length + y.length; omega
 | [a],i + 1,y=>by show a.length<=a.length + y.length; omega
 | a :: b :: r,0,y=>by
   show (y++c :: jl c (b :: r)).length<=(a++c :: jl c (b :: r)).length + y.length
   rw [FZ,FZ]
   omega
 | a :: b :: r,i + 1,y=>by
   have h:=nQ (c:=c) (b :: r) i y
   have e:∃b' r',(b :: r).set i y=b' :: r':=by cases i <;> exact ⟨_,_,rfl⟩
   obtain ⟨b',r',e⟩:=e
   have e2:(a :: b :: r).set (i + 1) y=a :: b' :: r':=by rw [← e]; rfl
   rw [e2]
   rw [e] at h
   show (a++c :: jl c (b' :: r')).length<=(a++c :: jl c (b :: r)).length + y.length
   rw [FZ,FZ,F5,F5]
   omega
theorem pe {c:Nat}:∀(xs:List (List Nat)) (n:Nat),(jl c (xs.take n)).length<=(jl c xs).length
 | [],n=>by rw [Kg]; exact F8 _
 | a :: r,0=>Gs _
 | [a],n + 1=>by rw [List.take_succ_cons,Kg]; exact F8 _
 | a :: b :: r,1=>by
   show a.length<=(a++c :: jl c (b :: r)).length
   rw [FZ]
   omega
 | a :: b :: r,n + 2=>by
   have h:=pe (c:=c) (b :: r) (n + 1)
   show (a++c :: jl c ((b :: r).take (n + 1))).length<=(a++c :: jl c (b :: r)).length
   rw [FZ,FZ,F5,F5]
   omega
theorem i3 {c:Nat}:∀{a:List Nat} {xs:List (List Nat)},(∀x∈a :: xs,c ∉ x)->(jl c (a :: xs)).count c=xs.length
 | a,[],h=>JK (h a F4)
 | a,b :: r,h=>by
   show (a++c :: jl c (b :: r)).count c=r.length + 1
   rw [IP,Jp,i3 fun x hx=>h x (F7 _ hx),JK (h a F4),Nat.zero_add]
theorem BX {c:Nat}{l:List Nat}:∀d,(c :: l).head? = some d->(d != c)=false:=fun d hd=>by
 have e:c=d:=by injection hd
 rw [e]
 simp
theorem oZ {c:Nat}:∀{a:List Nat} {xs:List (List Nat)},c ∉ a->(jl c (a :: xs)).takeWhile (fun d=>d != c)=a
 | a,[],h=>by
   have:=(tw_app (fun d=>d != c) a [] (fun d hd=>by have:d≠c:=fun z=>h (z ▸ hd); simpa using this) (fun d hd=>nomatch hd)).1
   rw [GH] at this
   exact this
 | a,b :: r,h=>(tw_app (fun d=>d != c) a (c :: jl c (b :: r)) (fun d hd=>by have:d≠c:=fun z=>h (z ▸ hd); simpa using this) BX).1
theorem tw_ins {c:Nat}:∀(a b:List Nat),∃r,(a++b).takeWhile (fun d=>d != c)=(a++c :: b).takeWhile (fun d=>d != c)++r
 | [],b=>⟨b.takeWhile fun d=>d != c,by
   show _=(c :: b).takeWhile (fun d=>d != c)++_
   rw [GR,show (c != c)=false by simp]
   rfl⟩
 | x :: a,b=>by
   obtain ⟨r,h⟩:=tw_ins (c:=c) a b
   rw [Iw,Iw,GR,GR]
   by_cases e:(x != c)=true
   · rw [if_pos e,if_pos e,h]
     exact ⟨r,rfl⟩
   · rw [if_neg e,if_neg e]
     exact ⟨[],rfl⟩
/-- a row of words is of no form -/
theorem f9 {hd:Str}{ws:List Str}(h0:hd≠HS)(hf:∀x∈hd :: ws,32 ∉ x.cps.toList)(hb:∀ks,(hd,ks)∈formsL->ws.length≠ks.length\/∃(i:Nat) (k x:Str),ks[i]? = some k/\ws[i]? = some x/\¬ fu k x.cps.toList):f7 (Gg " " (hd :: ws)):=fun h2 ks r=>by
 obtain ⟨ws2,e,hl,hw⟩:=r.sp
 have es:Gr (Gg " " (hd :: ws)) " "=hd :: ws:=by
   rw [vc]
   exact fk (fun z=>nomatch z) (pf h0) hf
 rw [es] at e
 injection e with e1 e2
 subst e1 e2
 rcases hb ks r.fr with h | ⟨i,k,x,hk,hx,h⟩
 · exact h hl
 · exact h (hw i k x hk hx)
theorem bV {row:Str}:∀x∈Gr row " ",32 ∉ x.cps.toList:=by
 rw [vc]
 exact StrLaws.split_free row 32
abbrev spoilL:List Nat:=[43,61,38,125,33,46,65,41]
abbrev spoilM:List Nat:=35 :: spoilL
theorem da.last {a:List Nat}(h:da a):∃b d,a=b++[d]/\d≠61:=by
 cases h with
 | num h=>
   refine ⟨a.dropLast,a.getLast h.ne,(IA h.ne).symm,fun z=>?_⟩
   have:=h.dg _ (List.getLast_mem h.ne)
   omega
 | name h=>
   refine ⟨a.dropLast,a.getLast h.ne,(IA h.ne).symm,fun z=>?_⟩
   have:=h.lt _ (List.getLast_mem h.ne)
   omega
 | @two a b s ha hb hs=>exact ⟨40 :: (a++s :: b),41,by simp,by decide⟩
theorem dv.last {a:List Nat}(h:dv a):∃b d,a=b++[d]/\d≠61:=by
 induction h with
 | yes=>exact ⟨[121,101],115,rfl,by decide⟩
 | @cmp a b s ha hb hs=>
   obtain ⟨b',d,rfl,hd⟩:=hb.last
   exact ⟨a++s :: b',d,by simp,hd⟩
 | @nt a ha ih=>
   obtain ⟨b',d,rfl,hd⟩:=ih
   exact ⟨33 :: b',d,rfl,hd⟩
 | @both a b ha hb _ _=>exact ⟨123 :: (a++38 :: b),125,by simp,by decide⟩
theorem oA {k:Str}{a:List Nat}{c:Nat}(h:fu k a)(hc:c∈spoilM):¬ fu k (a++[c]):=fun h2=>by
 have key:∀c∈spoilM,isDg c=false/\isLt c=false:=by decide
 obtain ⟨kd,kl⟩:=key c hc
 have stp:rP [c]:=rP.of ⟨kd,kl⟩
 rcases h2 with ⟨e,h2⟩ | ⟨e,h2⟩ | ⟨e,h2⟩ | ⟨e,h2⟩
 · have:=h2.lt c (Gj _ F4)
   simp at kl
   omega
 · have:=h2.dg c (Gj _ F4)
   simp at kd
   omega
 · have h:da a:=by
     rcases h with ⟨e2,h⟩ | ⟨e2,h⟩ | ⟨e2,h⟩ | ⟨e2,h⟩
     · exact absurd (e2.symm.trans e) (by decide)
     · exact absurd (e2.symm.trans e) (by decide)
     · exact h
     · exact absurd (e2.symm.trans e) (by decide)
   have h1:=kh h (a.length + 2) [c] stp (by omega)
   have h2:=kh h2 (a.length + 2) [] (fun _ hc=>nomatch hc) (by rw [FZ]; show a.length + 1 < _; omega)
   rw [GH,h1] at h2
   cases h2
 · have h:dv a:=by
     rcases h with ⟨e2,h⟩ | ⟨e2,h⟩ | ⟨e2,h⟩ | ⟨e2,h⟩
     · exact absurd (e2.symm.trans e) (by decide)
     · exact absurd (e2.symm.trans e) (by decide)
     · exact absurd (e2.symm.trans e) (by decide)
     · exact h
   by_cases hc61:c=61
   · obtain ⟨b,d,e,hd⟩:=h2.last
     have:=(List.append_inj_right' e rfl)
     injection this with this
     exact hd (by rw [← this,hc61])
   · have key2:∀c∈spoilM,c≠60:=by decide
     have h1:=um h (a.length + 2) [c] (lS.of ⟨kd,kl,hc61,key2 c hc⟩) (by omega)
     have h2:=um h2 (a.length + 2) [] (fun _ hc=>nomatch hc) (by rw [FZ]; show a.length + 1 < _; omega)
     rw [GH,h1] at h2
     cases h2
/-- what a law's row is: of no form,not too long,one row -/
structure dS (x:Str):Prop where
 b:f7 x
 l:x.length<=12300
 n:10 ∉ x.cps.toList
theorem aX.L {x:Str}(h:aX x):dS x:=⟨yX h.b,F2 h.l (by decide),h.n⟩
theorem fg {ws:List Str}:(Gg " " ws).length=(jl 32 (ws.map fun x=>x.cps.toList)).length/\(Gg " " ws).cps.toList=jl 32 (ws.map fun x=>x.cps.toList):=by
 have e:Gg " " ws=HK (SN [32]) ws:=by rw [← vc]; exact StrLaws.glued_eq_join _ _
 rw [e,← bO,aD]
 exact ⟨rfl,rfl⟩
structure cg (row head:Str)(ks:List Str):Prop where
 r:dX row head ks
 l:row.length<=4100
 n:10 ∉ row.cps.toList
theorem dC {row head:Str}{ws:List Str}(e:Gr row " "=head :: ws):row.cps.toList=jl 32 ((head :: ws).map fun x=>x.cps.toList):=by
 rw [← e,vc]
 exact ji row 32
/-- a word of a good row exchanged,at any place behind the head -/
theorem lE {row head:Str}{ks ws:List Str}(g:cg row head ks)(e:Gr row " "=head :: ws){i:Nat}{y k:Str}(hk:ks[i]? = some k)(hy:¬ fu k y.cps.toList)(h32:32 ∉ y.cps.toList)(h10:10 ∉ y.cps.toList)(hl:y.length<=8000):dS (Gg " " ((head :: ws).set (i + 1) y)):=by
 have fr:=bV (row:=row)
 rw [e] at fr
 have rj:=dC e
 obtain ⟨ws2,e2,wl,hw⟩:=g.r.sp
 rw [e] at e2
 injection e2 with _ e2
 subst e2
 have il:i < ws.length:=by rw [wl]; exact (List.getElem?_eq_some_iff.mp hk).1
 refine ⟨?_,?_,?_⟩
 · show f7 (Gg " " (head :: ws.set i y))
   refine f9 (iO _ g.r.fr).1 (fun x hx=>?_) (fun ks2 h2=>.inr ?_)
   · rcases List.mem_cons.mp hx with rfl | hx
     · exact fr _ F4
     · rcases G8 hx with hx | rfl
       · exact fr _ (F7 _ hx)
       · exact h32
   · have:ks=ks2:=jT _ g.r.fr _ h2 rfl
     subst this
     exact ⟨i,k,y,hk,by rw [HA il],hy⟩
 · rw [fg.1,HR]
   have h1:=nQ (c:=32) ((head :: ws).map fun x=>x.cps.toList) (i + 1) y.cps.toList
   rw [← rj,aD,aD] at h1
   have:=g.l
   omega
 · rw [fg.2]
   intro h
   rcases k9 h with h0 | ⟨x,hx,h0⟩
   · exact absurd h0 (by decide)
   · obtain ⟨x',hx',rfl⟩:=List.mem_map.mp hx
     rcases G8 hx' with hx' | rfl
     · exact g.n (by rw [rj]; exact mw (HY hx') h0)
     · exact h10 h0
/-- the head exchanged by what is no head -/
theorem mS {row head:Str}{ks ws:List Str}(g:cg row head ks)(e:Gr row " "=head :: ws){y:Str}(hy:y≠HS)(hy2:∀ks,(y,ks) ∉ formsL)(h32:32 ∉ y.cps.toList)(h10:10 ∉ y.cps.toList)(hl:y.length<=8000):dS (Gg " " ((head :: ws).set 0 y)):=by
 have fr:=bV (row:=row)
 rw [e] at fr
 have rj:=dC e
 refine ⟨?_,?_,?_⟩
 · show f7 (Gg " " (y :: ws))
   refine f9 hy (fun x hx=>?_) (fun ks2 h2=>absurd h2 (hy2 ks2))
   rcases List.mem_cons.mp hx with rfl | hx
   · exact h32
   · exact fr _ (F7 _ hx)
 · rw [fg.1,HR]
   have h1:=nQ (c:=32) ((head :: ws).map fun x=>x.cps.toList) 0 y.cps.toList
   rw [← rj,aD,aD] at h1
   have:=g.l
   omega
 · rw [fg.2]
   intro h
   rcases k9 h with h0 | ⟨x,hx,h0⟩
   · exact absurd h0 (by decide)
   · obtain ⟨x',hx',rfl⟩:=List.mem_map.mp hx
     rcases G8 hx' with hx' | rfl
     · exact g.n (by rw [rj]; exact mw (HY hx') h0)
     · exact h10 h0
theorem mU {row head:Str}{ks ws:List Str}(g:cg row head ks)(e:Gr row " "=head :: ws){i:Nat}{x:Str}{c:Nat}(hx:(head :: ws)[i]? = some x)(hc:c∈spoilM):dS (Gg " " ((head :: ws).set i (x++SN [c]))):=by
 have key:∀c∈spoilM,c≠32/\c≠10/\isLt c=false:=by decide
 obtain ⟨k1,k2,k3⟩:=key c hc
 have fr:=bV (row:=row)
 rw [e] at fr
 have rj:=dC e
 have hm:=Gx hx
 have xl:x.length<=4100:=by
   have:=(split_len row 32).2 x (by rw [← vc,e]; exact hm)
   have:=g.l
   omega
 have e2:(x++SN [c]).cps.toList=x.cps.toList++[c]:=by rw [aM,bM]
 have n32:32 ∉ (x++SN [c]).cps.toList:=fun z=>by
   rw [e2] at z
   rcases List.mem_append.mp z with z | z
   · exact fr x hm z
   · exact k1 (List.mem_singleton.mp z).symm
 have n10:10 ∉ (x++SN [c]).cps.toList:=fun z=>by
   rw [e2] at z
   rcases List.mem_append.mp z with z | z
   · exact g.n (by rw [rj]; exact mw (HY hm) z)
   · exact k2 (List.mem_singleton.mp z).symm
 have hl:(x++SN [c]).length<=8000:=by
   rw [← aD,e2,FZ,aD]
   show x.length + 1<=_
   omega
 obtain ⟨ws2,es,wl,hw⟩:=g.r.sp
 rw [e] at es
 injection es with _ es
 subst es
 cases i with
 | zero=>
   refine mS g e (fun z=>?_) (fun ks2 h2=>?_) n32 n10 hl
   · have:=congrArg (fun s:Str=>s.cps.toList) z
     rw [e2] at this
     exact absurd (List.append_eq_nil_iff.mp this).2 (by simp)
   · have:=(iO _ h2).2 c (by show c∈(x++SN [c]).cps.toList; rw [e2]; exact Gj _ F4)
     rw [k3] at this
     cases this
 | succ i=>
   have hx:ws[i]? = some x:=hx
   have il:i < ks.length:=by rw [← wl]; exact (List.getElem?_eq_some_iff.mp hx).1
   have hk:ks[i]? = some ks[i]:=Gb il
   exact lE g e hk (by rw [e2]; exact oA (hw i _ x hk hx) hc) n32 n10 hl
theorem vm {row head:Str}{ks ws:List Str}(g:cg row head ks)(e:Gr row " "=head :: ws){m:Nat}(hm:m < ws.length):dS (Gg " " ((head :: ws).take (1 + m))):=by
 have fr:=bV (row:=row)
 rw [e] at fr
 have rj:=dC e
 obtain ⟨ws2,es,wl,hw⟩:=g.r.sp
 rw [e] at es
 injection es with _ es
 subst es
 have et:(head :: ws).take (1 + m)=head :: ws.take m:=by rw [Nat.add_comm]; rfl
 refine ⟨?_,?_,?_⟩
 · rw [et]
   refine f9 (iO _ g.r.fr).1 (fun x hx=>?_) (fun ks2 h2=>.inl ?_)
   · rcases List.mem_cons.mp hx with rfl | hx
     · exact fr _ F4
     · exact fr _ (F7 _ (Hi hx))
   · have:ks=ks2:=jT _ g.r.fr _ h2 rfl
     subst this
     rw [Gh]
     omega
 · rw [fg.1,HH]
   have h1:=pe (c:=32) ((head :: ws).map fun x=>x.cps.toList) (1 + m)
   rw [← rj,aD] at h1
   have:=g.l
   omega
 · rw [fg.2]
   intro h
   rcases k9 h with h0 | ⟨x,hx,h0⟩
   · exact absurd h0 (by decide)
   · obtain ⟨x',hx',rfl⟩:=List.mem_map.mp hx
     exact g.n (by rw [rj]; exact mw (HY (Hi hx')) h0)
theorem wt {row head x:Str}{ks:List Str}{a b:List Nat}(g:cg row head ks)(hr:row.cps.toList=a++b)(hx:x.cps.toList=a++32 :: b):dS x:=by
 refine ⟨fun head2 ks2 r=>?_,?_,fun z=>?_⟩
 · obtain ⟨ws,e,wl,_⟩:=g.r.sp
   obtain ⟨ws2,e2,wl2,_⟩:=r.sp
   have fr:=bV (row:=row)
   have fr2:=bV (row:=x)
   rw [e] at fr
   rw [e2] at fr2
   have rj:=dC e
   have rj2:=dC e2
   rw [hr,Gi] at rj
   rw [hx,Gi] at rj2
   have f1:∀y∈head.cps.toList :: ws.map fun x=>x.cps.toList,32 ∉ y:=fun y hy=>by
     rcases List.mem_cons.mp hy with rfl | hy
     · exact fr _ F4
     · obtain ⟨z,hz,rfl⟩:=List.mem_map.mp hy
       exact fr _ (F7 _ hz)
   have f2:∀y∈head2.cps.toList :: ws2.map fun x=>x.cps.toList,32 ∉ y:=fun y hy=>by
     rcases List.mem_cons.mp hy with rfl | hy
     · exact fr2 _ F4
     · obtain ⟨z,hz,rfl⟩:=List.mem_map.mp hy
       exact fr2 _ (F7 _ hz)
   have c1:=i3 f1
   have c2:=i3 f2
   have h1:=oZ (xs:=ws.map fun x=>x.cps.toList) (f1 _ F4)
   have h2:=oZ (xs:=ws2.map fun x=>x.cps.toList) (f2 _ F4)
   rw [← rj,F0] at c1
   rw [← rj2,F0] at c2
   rw [← rj] at h1
   rw [← rj2] at h2
   obtain ⟨t,ht⟩:=tw_ins (c:=32) a b
   rw [h1,h2] at ht
   have pre:head2.cps.toList.isPrefixOf head.cps.toList=true:=by
     rw [JV,ht]
     exact List.prefix_append _ _
   have ee:=jU _ r.fr _ g.r.fr pre
   injection ee with _ ee
   subst ee
   rw [IP] at c1
   rw [IP,Jp] at c2
   omega
 · have h1:=congrArg Ia hr
   have h2:=congrArg Ia hx
   rw [aD,FZ] at h1
   rw [aD,FZ,F5] at h2
   have:=g.l
   omega
 · rw [hx] at z
   refine g.n ?_
   rw [hr]
   rcases List.mem_append.mp z with z | z
   · exact GY _ z
   · rcases List.mem_cons.mp z with z | z
     · exact absurd z (by decide)
     · exact Gj _ z
end
end TW
set_option Elab.async false
set_option linter.all false
set_option maxRecDepth 100000
set_option exponentiation.threshold 4000
set_option maxHeartbeats 1000000
namespace TW
open PySem L2
section
variable {P:Program}{w:World}{K:FX}{mg:Str->Option Value}{base:Heap}
abbrev sSpo:Stmt:=top 60
theorem pK:ay ["row","kind","cell","words","at"] ["row","kind","cell"] (ag sSpo):=⟨rfl,rfl,rfl,by decide +kernel,rfl,by decide +kernel,by decide +kernel⟩
theorem bU:(ag sSpo).names.lookup (F1 "_law_stir")=some .globalImplicit:=by decide +kernel
theorem fM:(ag sSpo).names.lookup (F1 "len")=some .globalImplicit:=by decide +kernel
/-! ### _law_spoilt -/
theorem xS (x:Str)(b:Option Int):GJ x none b=GJ x (some 0) b:=by
 unfold GJ Hh
 simp
 rw [show max 0 (min 0 (x.length:Int))=0 by omega]
theorem AX (x:Str){a:Nat}(h:a<=x.length):GJ x (some (a:Int)) none=GJ x (some (a:Int)) (some (x.length:Int)):=by
 unfold GJ Hh
 simp
 have n1:¬ ((x.length:Int) < 0):=by omega
 rw [if_neg n1,show max 0 (min (x.length:Int) (x.length:Int))=(x.length:Int) by omega]
theorem fA (xs:List V){k:Nat}(h:k<=xs.length):dO xs (some (k:Int)) none=xs.drop k:=by
 unfold dO
 have e0:HT.fm xs.length 0 (some (k:Int))=k:=by rw [HT.cS]; omega
 have e1:HT.fm xs.length xs.length none=xs.length:=rfl
 rw [e0,e1]
 exact I9 (by rw [GA]; exact F8 _)
theorem iM (xs:List V){k:Nat}(h:k<=xs.length):dO xs none (some (k:Int))=xs.take k:=by
 unfold dO
 have e0:HT.fm xs.length 0 none=0:=rfl
 have e1:HT.fm xs.length xs.length (some (k:Int))=k:=by rw [HT.cS]; omega
 rw [e0,e1,J4,Ku]
theorem vO (xs:List V){a b:Nat}(h:a<=b)(h2:b<=xs.length):dO xs (some (a:Int)) (some (b:Int))=(xs.drop a).take (b - a):=by
 unfold dO
 have e0:HT.fm xs.length 0 (some (a:Int))=a:=by rw [HT.cS]; omega
 have e1:HT.fm xs.length xs.length (some (b:Int))=b:=by rw [HT.cS]; omega
 rw [e0,e1]
theorem vD (a b:Str):(a++b).length=a.length + b.length:=Str.length_append _ _
theorem i0 {n:Nat}{i:Int}(h0:0<=i)(h1:i < (n:Int)):mr n i=some i.toNat:=by
 unfold mr
 rw [if_pos h0]
 exact if_pos h1
def u7:Sp:=fun vs H Q _=>∃(row:Str) (kd c:Int) (head:Str) (ks:List Str),vs=[.str row,.int kd,.int c]/\cg row head ks/\(kd=3\/kd=4\/kd=5)/\∀(x:Str) (H':Hp),ak H H'->dS x->Q (.str x) H'
theorem zS {f:Addr}{fd:FuncData}(F:cf K "_law_spoilt" "_law_spoilt" sSpo f fd)(m_len:mg "len"=none)(ST:aY P w K mg base "_law_stir" ["cell","k"] 1 aP):aN P w K mg base CX0 2 f fd ["row","kind","cell"] u7:=by
 refine F.ok pK (fun vs H Q E h=>?_) (fun cdv A outer s H vs Q E hr h=>?_)
 · obtain ⟨row,kd,c,head,ks,rfl,_⟩:=h
   rfl
 · obtain ⟨row,kd,c,head,ks,rfl,g,hk,q⟩:=h
   obtain ⟨ws,es,wl,hw⟩:=g.r.sp
   have k3:ks.length<=3:=(gh _ g.r.fr).1
   have fl:=g.l
   have wlen:∀x∈head :: ws,x.length<=4100:=fun x hx=>by
     have:=(split_len row 32).2 x (by rw [← vc,es]; exact hx)
     omega
   refine eV ⟨_,(KG (KH 3 pK.nd (L3.lJ (Ky 0) (Kx KA Kz)))
     (KG (KR (KL K0 (Ky 1) KC) (KG (KH 4 pK.nd (KD KP (KO ST hr bU (Kx (Ky 2) (Kx KC Kz))) (KU K4 fM m_len Gd (Kx (Ky 3) Kz))))
     (KG (Lj (KD La (KN KW (Ky 3) (Ky 4)) (KN L3.Ef KA (KD KP (KO ST hr bU (Kx (Ky 2) (Kx KC Kz))) KC))) (L3.oV (Ky 3) (Ky 4)))
     (KI (KQ (Lp KA (Kx (Ky 3) Kz)))))) KY)
     (KG (KR (K7 (Lc (KL K0 (Ky 1) KC) (Ld (KL Ls (KU K4 fM m_len Gd (Kx (Ky 3) Kz)) KC)))) (KI (KQ (Lp KA (Kx (LH (Ky 3) (KD KZ KC (KD KP (KO ST hr bU (Kx (Ky 2) (Kx KC Kz))) (KD Lm (KU K4 fM m_len Gd (Kx (Ky 3) Kz)) KC)))) Kz)))) KY)
     (KG (KH 4 pK.nd (KD KP (KO ST hr bU (Kx (Ky 2) (Kx KC Kz))) (KD KZ (KU LK fM m_len Gd (Kx (Ky 0) Kz)) KC)))
     (KI (KQ (KD La (KD La (L3.CW (Ky 0) (Ky 4)) KA) (L3.CV (Ky 0) (Ky 4))))))))),?_⟩
   refine ao fun Rk kR=>?_
   refine ⟨_,rfl,rfl,_,_,rfl,rfl,rfl,F2 (show _<=20000 by omega) (by decide),?_,fun W hW=>?_⟩
   · rw [es,F5]
     exact F2 (show _<=1000 by omega) (by decide)
   rw [es]
   have s1:=af hW (.lst ((head :: ws).map V.str))
   have g1:(upd H W (.lst ((head :: ws).map V.str))) W=some (.lst ((head :: ws).map V.str)):=aa
   generalize upd H W (.lst ((head :: ws).map V.str))=H1 at s1 g1 ⊢
   refine ah ?_
   refine kR _ _ ?_
   clear kR
   refine au [some (.str row),some (.int kd),some (.int c),some (.ref W),none] rfl ?_
   refine ao fun Rk kR=>?_
   have lens:((head :: ws).map V.str).length=ks.length + 1:=by rw [F0,F5,wl]
   rcases hk with rfl | hk
   · refine ⟨_,rfl,rfl,_,rfl,bE ?_⟩
     refine ao fun Rk kR=>?_
     refine ⟨_,rfl,c,901,rfl,by decide,by decide,fun r r0 r1=>?_⟩
     refine ⟨_,rfl,W,_,rfl,.inl (aw.of g1),_,_,rfl,rfl,(show (0:Int) < (((head :: ws).map V.str).length:Int) from by rw [lens]; omega),?_⟩
     obtain ⟨x,hxi,hxm,hat⟩:=bo V.str (head :: ws) (ax (k:=r) (n:=(((head :: ws).map V.str).length:Int)) (by rw [lens]; omega)) (by have:=az (k:=r) (n:=(((head :: ws).map V.str).length:Int)) (by rw [lens]; omega); rw [F0] at this ⊢; exact this)
     refine ah ?_
     refine kR _ _ ?_
     clear kR
     refine au [some (.str row),some (.int 3),some (.int c),some (.ref W),some (.int (r % (((head :: ws).map V.str).length:Int)))] rfl ?_
     generalize hat0:r % (((head :: ws).map V.str).length:Int)=oK at hxi hat ⊢
     refine ao fun Rk kR=>?_
     have a0:0<=oK:=by rw [← hat0]; exact ax (by rw [lens]; omega)
     have a1:oK < (((head :: ws).map V.str).length:Int):=by rw [← hat0]; exact az (by rw [lens]; omega)
     have xl:=wlen x hxm
     refine ⟨_,rfl,_,rfl,W,_,_,_,rfl,rfl,aw.of g1,hat,_,rfl,c,902,rfl,by decide,by decide,fun r2 r20 r21=>?_⟩
     obtain ⟨j,hj,ej⟩ : ∃j:Nat,j < 8/\r2 % 8=(j:Int):=⟨(r2 % 8).toNat,by omega,by omega⟩
     have hch:spoilL[j]? = some spoilL[j]:=Gb hj
     have hcm:spoilL[j]∈spoilL:=IW hj
     generalize spoilL[j]=ch at hch hcm
     refine ⟨_,_,rfl,rfl,(by show (0:Int) < 8; decide),?_⟩
     refine ⟨"+=&}!.A)",r2 % 8,ch,rfl,rfl,(by decide),by rw [ej]; exact eI hch,x,SN [ch],rfl,rfl,F2 (show _<=20000 by rw [bW]; show x.length + 1<=_; omega) (by decide),_,rfl,_,rfl,W,_,_,_,rfl,rfl,g1,i0 a0 a1,?_⟩
     have hset:((head :: ws).map V.str).set oK.toNat (.str (x++SN [ch]))=(((head :: ws).set oK.toNat (x++SN [ch])).map V.str):=by rw [HR]
     rw [hset]
     refine kR _ _ ?_
     refine ⟨rfl,_,rfl," ",W,_,rfl,rfl,aw.of aa,?_,q _ _ (aG s1 hW) (mU g es hxi (F7 _ hcm))⟩
     refine dz 4101 (fun y hy=>?_) ?_
     · rcases G8 hy with hy | rfl
       · have:=wlen y hy
         omega
       · show (x++SN [ch]).length<=_
         rw [← aD,aM,bM,FZ,aD]
         show x.length + 1<=_
         omega
     · rw [Hg,F5,show ((" ":Str)).length=1 from rfl]
       omega
   refine ⟨_,rfl,rfl,_,rfl,iteF' (decide_eq_false (fun z=>by injection z with z; omega)) ?_⟩
   refine kR _ _ ?_
   clear kR
   refine ao fun Rk kR=>?_
   have go:Rk [some (.str row),some (.int kd),some (.int c),some (.ref W),none] H1:=by
     refine kR _ _ ?_
     refine ao fun Rk kR=>?_
     refine ⟨_,rfl,c,904,rfl,by decide,by decide,fun r r0 r1=>?_⟩
     refine ⟨_,rfl,_,rfl,F2 (show _<=20000 by omega) (by decide),_,_,rfl,rfl,_,_,rfl,rfl,(show (0:Int) < (row.length:Int) + 1 from by omega),?_⟩
     obtain ⟨n,hn,en⟩ : ∃n:Nat,n<=row.length/\r % ((row.length:Int) + 1)=(n:Int):=⟨(r % ((row.length:Int) + 1)).toNat,by have:=az (k:=r) (n:=(row.length:Int) + 1) (by omega); have:=ax (k:=r) (n:=(row.length:Int) + 1) (by omega); omega,by have:=ax (k:=r) (n:=(row.length:Int) + 1) (by omega); omega⟩
     refine ah ?_
     refine kR _ _ ?_
     refine au [some (.str row),some (.int kd),some (.int c),some (.ref W),some (.int (r % ((row.length:Int) + 1)))] rfl ?_
     rw [en]
     have e1:GJ row none (some (n:Int))=SN (row.cps.toList.take n):=by
       rw [xS]
       exact ez row (a:=0) (b:=n) (Gs _) hn
     have e2:GJ row (some (n:Int)) none=SN (row.cps.toList.drop n):=by
       rw [AX row hn,ez row hn (F8 _),I9 (by rw [GA,aD]; exact F8 _)]
     refine ⟨_,rfl,_,rfl,_,rfl,row,rfl,F2 (show _<=20000 by omega) (by decide),?_⟩
     rw [e1]
     refine ⟨_,_,rfl,rfl,F2 (show _<=20000 by rw [bW,Gh,aD]; show min n row.length + 1<=_; omega) (by decide),_,rfl,_,rfl,_,rfl,row,rfl,F2 (show _<=20000 by omega) (by decide),?_⟩
     rw [e2]
     refine ⟨_,_,rfl,rfl,F2 (show _<=20000 by rw [vD,bW,bW,Gh,GA,aD]; show min n row.length + 1 + _<=_; omega) (by decide),q _ _ s1 (wt g (a:=row.cps.toList.take n) (b:=row.cps.toList.drop n) (Iv _ _).symm ?_)⟩
     rw [aM,aM,bM,bM,show (" ":Str).cps.toList=[32] by decide +kernel,GU]
     rfl
   refine ⟨_,rfl,rfl,_,rfl,aE (fun _=>?_) (fun _=>bD go)⟩
   refine ⟨_,rfl,W,_,rfl,.inl (aw.of g1),_,_,rfl,rfl,_,rfl,aE (fun c1=>?_) (fun _=>go)⟩
   have w1:1<=ws.length:=by
     have:(((head :: ws).map V.str).length:Int) > 1:=of_decide_eq_true c1
     rw [lens] at this
     omega
   refine ⟨rfl,_,rfl,_,rfl,c,903,rfl,by decide,by decide,fun r r0 r1=>?_⟩
   have dpos:(0:Int) < (((head :: ws).map V.str).length:Int) - 1:=by rw [lens]; omega
   refine ⟨_,rfl,W,_,rfl,.inl (aw.of g1),_,_,rfl,rfl,_,_,rfl,rfl,dpos,_,_,rfl,rfl,_,rfl,W,_,rfl,aw.of g1,fun l hl=>?_⟩
   obtain ⟨m,hm,em⟩ : ∃m:Nat,m < ws.length/\r % ((((head :: ws).map V.str).length:Int) - 1)=(m:Int):=⟨(r % ((((head :: ws).map V.str).length:Int) - 1)).toNat,by have:=az (k:=r) dpos; have:=ax (k:=r) dpos; rw [lens] at this ⊢; rw [lens] at *; omega,by have:=ax (k:=r) dpos; omega⟩
   rw [em,show (1:Int) + (m:Int)=((1 + m:Nat):Int) by omega,iM _ (by rw [lens]; omega),← HH]
   refine ⟨" ",l,_,rfl,rfl,aw.of aa,?_,q _ _ (av s1 hl) (vm g es hm)⟩
   refine dz 4101 (fun y hy=>?_) ?_
   · have:=wlen y (Hi hy)
     omega
   · rw [Gh,F5,show ((" ":Str)).length=1 from rfl]
     omega
theorem wc (s:Src K mg "_law_spoilt" sSpo)(m_len:mg "len"=none)(ST:aY P w K mg base "_law_stir" ["cell","k"] 1 aP):aY P w K mg base "_law_spoilt" ["row","kind","cell"] 2 u7:=
 let ⟨f,fd,F,m⟩:=s
 ⟨f,fd,zS F m_len ST,F.kp,pX F fun _ _ _ _ _ _ _ _ _=>rfl,m⟩
end
end TW
set_option Elab.async false
set_option linter.all false
set_option maxRecDepth 100000
set_option exponentiation.threshold 4000
set_option maxHeartbeats 1000000
namespace TW
open PySem L2
section
variable {P:Program}{w:World}{K:FX}{mg:Str->Option Value}{base:Heap}
abbrev sMov:Stmt:=top 62
theorem ko:ay ["program","rows","kind","cell","first","second","there","at","strange"] ["program","rows","kind","cell"] (ag sMov):=⟨rfl,rfl,rfl,by decide +kernel,rfl,by decide +kernel,by decide +kernel⟩
theorem cW:(ag sMov).names.lookup (F1 "_law_stir")=some .globalImplicit:=by decide +kernel
theorem fI:(ag sMov).names.lookup (F1 "len")=some .globalImplicit:=by decide +kernel
theorem Np.lA {e:Np}(w:e.wr):(Gg sp1 e.ws).length<=4100:=by
 have key:∀(l:List Str),(∀x∈l,x.length<=31)->(l.map (·.length)).sum<=l.length * 31:=by
   intro l
   induction l with
   | nil=>intro _; exact F8 _
   | cons a l ih=>
     intro h
     have h1:=ih fun x hx=>h x (F7 _ hx)
     have h2:=h a F4
     rw [Gi,GN,F5]
     omega
 show (GZ sp1 e.ws).length<=_
 rw [StrLaws.glued_eq_join]
 refine F2 (StrLaws.join_length_le _ _) ?_
 rw [show (sp1:Str).length=1 from rfl]
 match e,w with
 | .put x t n,w=>
   have h1:=w.2.1.len
   have h2:=w.1.l8
   have h3:=aQ w.2.2
   have h4:(("put":Str)).length=3:=rfl
   simp only [Np.ws,Gi,Hf,GN,HG,F5,GP]
   omega
 | .say t n,w=>
   have h1:=w.1.len
   have h3:=aQ w.2
   have h4:(("say":Str)).length=3:=rfl
   simp only [Np.ws,Gi,Hf,GN,HG,F5,GP]
   omega
 | .test t n o,w=>
   have h1:=w.1.len
   have h3:=aQ w.2.1
   have h5:=aQ w.2.2
   have h4:(("test":Str)).length=4:=rfl
   simp only [Np.ws,Gi,Hf,GN,HG,F5,GP]
   omega
 | .pick x n,w=>
   have h2:=w.1.l8
   have h3:=aQ w.2
   have h4:(("pick":Str)).length=4:=rfl
   simp only [Np.ws,Gi,Hf,GN,HG,F5,GP]
   omega
 | .fin,_=>exact (by decide:3 + 0 + 1 * 1<=4100)
theorem km {bs:List (Str×Int)}{ins:List Str}{nds:List Np}(pg:vz bs ins nds):∀r∈rowsOf bs ins nds,cg (rowT r.hd r.wds) r.hd (r.wds.map Wd.kind):=fun r hr=>by
 have rg:=pg.wr.row r hr
 refine ⟨rg.row,?_,fun z=>absurd (AM rg _ z) (by decide)⟩
 rcases List.mem_append.mp hr with hr | hr
 · rcases List.mem_append.mp hr with hr | hr
   · obtain ⟨b,hb,rfl⟩:=List.mem_map.mp hr
     have h1:=(pg.wr.b b hb).1.l8
     have h2:=aQ (pg.wr.b b hb).2
     show (GZ " " ["box",b.1,F1 (toString b.2)]).length<=_
     rw [StrLaws.glued_eq_join]
     refine F2 (StrLaws.join_length_le _ _) ?_
     simp only [Gi,Hf,GN,HG,F5,GP,show (("box":Str)).length=3 from rfl,show ((" ":Str)).length=1 from rfl]
     omega
   · obtain ⟨x,hx,rfl⟩:=List.mem_map.mp hr
     have h1:=(pg.wr.i x hx).l8
     show (GZ " " ["input",x]).length<=_
     rw [StrLaws.glued_eq_join]
     refine F2 (StrLaws.join_length_le _ _) ?_
     simp only [Gi,Hf,GN,HG,F5,GP,show (("input":Str)).length=5 from rfl,show ((" ":Str)).length=1 from rfl]
     omega
 · obtain ⟨e,he,rfl⟩:=List.mem_map.mp hr
   have:=Np.lA (pg.wr.n e he)
   show (Gg " " (e.hd :: e.wds.map Wd.txt)).length<=_
   rw [← Np.ws_eq]
   exact this
theorem xM:∀r:Rw,bQ r.hd=r.rank
 | .box _=>rfl | .inp _=>rfl | .nd (.put _ _ _)=>rfl | .nd (.say _ _)=>rfl | .nd (.test _ _ _)=>rfl | .nd (.pick _ _)=>rfl | .nd .fin=>rfl
theorem uM {head:Str}{ds:List Wd}(h:kE head ds):eS (rowT head ds)=head:=h.row.hd
/-- the rows that a law asks for: few,none too long,refused -/
structure cG (rows:List Str):Prop where
 ne:rows≠[]
 few:rows.length<=60
 ok:∀r∈rows,r.length<=12300/\10 ∉ r.cps.toList
 bad:¬ bH rows
theorem lK {rows:List Str}{k n:Nat}{x:Str}(h:rows[k]? = some x)(hn:k < n):∃a b,rows.take n=a++x :: b:=by
 have hx:(rows.take n)[k]? = some x:=by rw [Ke hn]; exact h
 obtain ⟨hk,e⟩:=List.getElem?_eq_some_iff.mp hx
 refine ⟨(rows.take n).take k,(rows.take n).drop (k + 1),?_⟩
 rw [← e,List.getElem_cons_drop,Iv]
theorem xG {rows:List Str}{k n:Nat}{x y:Str}(h:rows[k]? = some x)(hn:k < n)(hr:bQ (eS y) < bQ (eS x)):¬ bH (rows.take n++[y]++rows.drop n):=by
 obtain ⟨a,b,e⟩:=lK h hn
 rw [e,GU,GU]
 exact kf hr
section
variable {bs:List (Str×Int)}{ins:List Str}{nds:List Np}
theorem dk:(textOf bs ins nds).length=bs.length + ins.length + nds.length:=by
 unfold textOf
 rw [FZ,FZ,F0,F0,F0]
theorem dm (pg:vz bs ins nds):∀r∈textOf bs ins nds,r.length<=12300/\10 ∉ r.cps.toList:=fun r hr=>by
 rw [gM] at hr
 obtain ⟨y,hy,rfl⟩:=List.mem_map.mp hr
 have g:=km pg y hy
 exact ⟨F2 g.l (by decide),g.n⟩
theorem oj (pg:vz bs ins nds){k:Nat}(hk:k < bs.length + ins.length + nds.length):∃x,(textOf bs ins nds)[k]? = some x/\bQ (eS x)=(if k < bs.length then 0 else if k < bs.length + ins.length then 1 else 2):=by
 have hl:k < (rowsOf bs ins nds).length:=by unfold rowsOf; rw [FZ,FZ,F0,F0,F0]; exact hk
 have e:(rowsOf bs ins nds)[k]? = some (rowsOf bs ins nds)[k]:=Gb hl
 refine ⟨rowT (rowsOf bs ins nds)[k].hd (rowsOf bs ins nds)[k].wds,by rw [gM,GI,e]; rfl,?_⟩
 rw [uM (pg.wr.row _ (IW hl)),xM]
 by_cases h1:k < bs.length
 · rw [if_pos h1]
   have:(rowsOf bs ins nds)[k]? = some (.box bs[k]):=by
     unfold rowsOf
     rw [GU,IF (by rw [F0]; exact h1),GI,Gb h1]
     rfl
   rw [e] at this
   rw [Gm this]
   rfl
 · rw [if_neg h1]
   by_cases h2:k < bs.length + ins.length
   · rw [if_pos h2]
     have h3:k - bs.length < ins.length:=by omega
     have:(rowsOf bs ins nds)[k]? = some (.inp ins[k - bs.length]):=by
       unfold rowsOf
       rw [GU,G6 (by rw [F0]; omega),F0,IF (by rw [F0]; exact h3),GI,Gb h3]
       rfl
     rw [e] at this
     rw [Gm this]
     rfl
   · rw [if_neg h2]
     have h3:k - bs.length - ins.length < nds.length:=by omega
     have:(rowsOf bs ins nds)[k]? = some (.nd nds[k - bs.length - ins.length]):=by
       unfold rowsOf
       rw [GU,G6 (by rw [F0]; omega),F0,G6 (by rw [F0]; omega),F0,GI,Gb h3]
       rfl
     rw [e] at this
     rw [Gm this]
     rfl
theorem mD (pg:vz bs ins nds)(n40:nds.length<=40){k n:Nat}{y:Str}(hk:k < n)(hk2:k < bs.length + ins.length + nds.length)(hy:bQ (eS y) < (if k < bs.length then 0 else if k < bs.length + ins.length then 1 else 2))(yl:y.length<=12300/\10 ∉ y.cps.toList):cG ((textOf bs ins nds).take n++[y]++(textOf bs ins nds).drop n):=by
 obtain ⟨x,hx,rx⟩:=oj pg hk2
 refine ⟨fun z=>?_,?_,fun r hr=>?_,xG hx hk (by rw [rx]; exact hy)⟩
 · have:=congrArg Ia z
   rw [FZ,FZ] at this
   exact absurd this (by show ¬ _ + 1 + _=0; omega)
 · have h4:=pg.wr.lb
   have h5:=pg.wr.li
   have:((textOf bs ins nds).take n).length + ((textOf bs ins nds).drop n).length=(textOf bs ins nds).length:=by rw [← FZ,Iv]
   rw [dk] at this
   rw [FZ,FZ]
   show _ + 1 + _<=60
   omega
 · rcases List.mem_append.mp hr with hr | hr
   · rcases List.mem_append.mp hr with hr | hr
     · exact dm pg r (Hi hr)
     · rw [List.mem_singleton.mp hr]
       exact yl
   · exact dm pg r (Iy hr)
theorem qJ (pg:vz bs ins nds)(n40:nds.length<=40)(hi:ins≠[]):cG (((textOf bs ins nds).drop bs.length).take ins.length++(textOf bs ins nds).take bs.length++(textOf bs ins nds).drop (bs.length + ins.length)):=by
 have i1:0 < ins.length:=List.length_pos_iff.mpr hi
 have b1:0 < bs.length:=by
   cases ins with
   | nil=>exact absurd rfl hi
   | cons x l=>
     have:=pg.insub x F4
     cases bs with
     | nil=>cases this
     | cons b r=>exact Ig _
 obtain ⟨x,hx,rx⟩:=oj pg (k:=bs.length) (by omega)
 obtain ⟨y,hy,ry⟩:=oj pg (k:=0) (by omega)
 rw [if_neg (by omega),if_pos (by omega)] at rx
 rw [if_pos b1] at ry
 obtain ⟨a1,c1,e1⟩:=lK (rows:=(textOf bs ins nds).drop bs.length) (k:=0) (n:=ins.length) (x:=x) (by rw [List.getElem?_drop]; exact hx) i1
 obtain ⟨a2,c2,e2⟩:=lK hy b1
 have sub:∀r,r∈((textOf bs ins nds).drop bs.length).take ins.length++(textOf bs ins nds).take bs.length++(textOf bs ins nds).drop (bs.length + ins.length)->r∈textOf bs ins nds:=fun r hr=>by
   rcases List.mem_append.mp hr with hr | hr
   · rcases List.mem_append.mp hr with hr | hr
     · exact Iy (Hi hr)
     · exact Hi hr
   · exact Iy hr
 have h4:=pg.wr.lb
 have h5:=pg.wr.li
 refine ⟨fun z=>?_,?_,fun r hr=>dm pg r (sub r hr),?_⟩
 · rw [e1] at z
   simp at z
 · rw [FZ,FZ,Gh,Gh,GA,GA,dk]
   omega
 · rw [e1,e2]
   have:a1++x :: c1++(a2++y :: c2)++(textOf bs ins nds).drop (bs.length + ins.length)=a1++x :: ((c1++a2)++y :: (c2++(textOf bs ins nds).drop (bs.length + ins.length))):=by simp
   rw [this]
   exact kf (by omega)
end
def u6:Sp:=fun vs H Q _=>∃(p R:Addr) (kd c:Int) (B I N:Addr) (vb vn:List V) (bs:List (Str×Int)) (ins:List Str) (nds:List Np),vs=[.ref p,.ref R,.int kd,.int c]/\H p=some (.tup [.ref B,.ref I,.ref N])/\Bw H B I N vb vn bs ins nds/\vz bs ins nds/\nds.length<=40/\H R=some (.lst ((textOf bs ins nds).map V.str))/\∀(l:Addr) (rs:List Str) (H':Hp),ak H H'->H' l=some (.lst (rs.map V.str))->cG rs->Q (.ref l) H'
theorem ip {r n:Int}(h:0 < n):∃j:Nat,(j:Int) < n/\r % n=(j:Int):=⟨(r % n).toNat,by have:=az (k:=r) h; have:=ax (k:=r) h; omega,by have:=ax (k:=r) h; omega⟩
abbrev strL:List Str:=["box zz 2","input zz","box a 0"]
theorem xZ:∀y∈strL,bQ (eS y) < 2/\y.length<=12300/\10 ∉ y.cps.toList:=by decide +kernel
theorem yM:bQ (eS "box zz 2") < 1/\("box zz 2":Str).length<=12300/\10 ∉ ("box zz 2":Str).cps.toList:=by decide +kernel
theorem zQ {f:Addr}{fd:FuncData}(F:cf K "_law_moved" "_law_moved" sMov f fd)(m_len:mg "len"=none)(ST:aY P w K mg base "_law_stir" ["cell","k"] 1 aP):aN P w K mg base CX0 2 f fd ["program","rows","kind","cell"] u6:=by
 refine F.ok ko (fun vs H Q E h=>?_) (fun cdv A outer s H vs Q E hr h=>?_)
 · obtain ⟨p,R,kd,c,B,I,N,vb,vn,bs,ins,nds,rfl,_⟩:=h
   rfl
 · obtain ⟨p,R,kd,c,B,I,N,vb,vn,bs,ins,nds,rfl,hp,pt,pg,n40,hR,q⟩:=h
   have vbl:vb.length=bs.length:=Paired.length pt.pb
   have insl:(ins.map V.str).length=ins.length:=F0 ..
   have h4:=pg.wr.lb
   have h5:=pg.wr.li
   have h1:=pg.one
   have tl:((textOf bs ins nds).map V.str).length=bs.length + ins.length + nds.length:=by rw [F0,dk]
   have hI:=pt.hI
   refine eV ⟨_,(KG (KH 4 ko.nd (KU K4 fI m_len Gd (Kx (KN K8 (Ky 0) KC) Kz)))
     (KG (KH 5 ko.nd (KD KZ (Ky 4) (KU K4 fI m_len Gd (Kx (KN K8 (Ky 0) KC) Kz))))
     (KG (KR (K7 (Lc (KL K0 (Ky 2) KC) (Ld (KL (Ly (m:=2) (cy hr _ (by decide))) (KN K8 (Ky 0) KC) (KJ Kz))))) (KG (KH 6 ko.nd (KD KZ (KD KZ (Ky 4) KC) (KD KP (KO ST hr cW (Kx (Ky 3) (Kx KC Kz))) (KU K4 fI m_len Gd (Kx (KN K8 (Ky 0) KC) Kz)))))
     (KI (KQ (KD K1 (KD K1 (LH (Ky 1) (Ky 6)) (KJ (Kx KA Kz))) (LF (Ky 1) (Ky 6)))))) KY)
     (KG (KR (K7 (Lc (KL K0 (Ky 2) KC) (Ld (KL (Ly (m:=2) (cy hr _ (by decide))) (KN K8 (Ky 0) KC) (KJ Kz))))) (KI (KQ (KD K1 (KD K1 (L3.yB (Ky 1) (Ky 4) (Ky 5)) (LH (Ky 1) (Ky 4))) (LF (Ky 1) (Ky 5))))) KY)
     (KG (KH 7 ko.nd (KD KZ (Ky 5) (KD KP (KO ST hr cW (Kx (Ky 3) (Kx KC Kz))) (KD Lm (KU K4 fI m_len Gd (Kx (Ky 1) Kz)) (Ky 5)))))
     (KG (KH 8 ko.nd (KN KW (KJ (Kx KA (Kx KA (Kx KA Kz)))) (KD KP (KO ST hr cW (Kx (Ky 3) (Kx KC Kz))) KC)))
     (KI (KQ (KD K1 (KD K1 (LH (Ky 1) (KD KZ (Ky 7) KC)) (KJ (Kx (Ky 8) Kz))) (LF (Ky 1) (KD KZ (Ky 7) KC))))))))))),?_⟩
   refine ao fun Rk kR=>?_
   refine ⟨_,rfl,p,_,_,_,rfl,rfl,bc.of hp,rfl,B,_,rfl,.inl (aw.of pt.hB),?_⟩
   refine ah ?_
   refine kR _ _ ?_
   clear kR
   rw [vbl]
   refine au [some (.ref p),some (.ref R),some (.int kd),some (.int c),some (.int (bs.length:Int)),none,none,none,none] rfl ?_
   refine ao fun Rk kR=>?_
   refine ⟨_,rfl,_,rfl,p,_,_,_,rfl,rfl,bc.of hp,rfl,I,_,rfl,.inl (aw.of hI),_,_,rfl,rfl,?_⟩
   rw [insl]
   refine ah ?_
   refine kR _ _ ?_
   clear kR
   refine au [some (.ref p),some (.ref R),some (.int kd),some (.int c),some (.int (bs.length:Int)),some (.int ((bs.length:Int) + (ins.length:Int))),none,none,none] rfl ?_
   have isne:∀{b:Bool},(!(ins.map V.str).isEmpty)=true->ins≠[]:=fun h z=>by rw [z] at h; cases h
   refine ao fun Rk kR=>?_
   have go1:∀Hx,ak H Hx->Rk [some (.ref p),some (.ref R),some (.int kd),some (.int c),some (.int (bs.length:Int)),some (.int ((bs.length:Int) + (ins.length:Int))),none,none,none] Hx:=fun Hx sx=>by
     refine kR _ _ ?_
     clear kR
     refine ao fun Rk kR=>?_
     have go2:∀Hx,ak H Hx->Rk [some (.ref p),some (.ref R),some (.int kd),some (.int c),some (.int (bs.length:Int)),some (.int ((bs.length:Int) + (ins.length:Int))),none,none,none] Hx:=fun Hx sx=>by
       refine kR _ _ ?_
       clear kR
       refine ao fun Rk kR=>?_
       have dpos:(0:Int) < (((textOf bs ins nds).map V.str).length:Int) - ((bs.length:Int) + (ins.length:Int)):=by rw [tl]; omega
       refine ⟨_,rfl,_,rfl,c,909,rfl,by decide,by decide,fun r r0 r1=>?_⟩
       refine ⟨_,rfl,R,_,rfl,.inl (aw.of (sx _ _ hR)),_,rfl,_,_,rfl,rfl,_,_,rfl,rfl,dpos,_,_,rfl,rfl,?_⟩
       obtain ⟨j,hj,ej⟩:=ip (r:=r) dpos
       have hj:j < nds.length:=by rw [tl] at hj; omega
       have ee:(bs.length:Int) + (ins.length:Int) + (j:Int)=((bs.length + ins.length + j:Nat):Int):=by omega
       rw [ej]
       refine ah ?_
       refine kR _ _ ?_
       clear kR
       refine au [some (.ref p),some (.ref R),some (.int kd),some (.int c),some (.int (bs.length:Int)),some (.int ((bs.length:Int) + (ins.length:Int))),none,some (.int ((bs.length + ins.length + j:Nat):Int)),none] (by rw [← ee]; rfl) ?_
       refine ao fun Rk kR=>?_
       refine ⟨M6,fun m hm=>?_⟩
       have sm:=af hm (.lst [.str "box zz 2",.str "input zz",.str "box a 0"])
       have gm:(upd Hx m (.lst [.str "box zz 2",.str "input zz",.str "box a 0"])) m=some (.lst [.str "box zz 2",.str "input zz",.str "box a 0"]):=aa
       generalize upd Hx m (.lst [.str "box zz 2",.str "input zz",.str "box a 0"])=Hm at sm gm ⊢
       refine ⟨_,rfl,c,905,rfl,by decide,by decide,fun r2 r20 r21=>?_⟩
       obtain ⟨y,_,hym,hat⟩:=bo V.str strL (ax (k:=r2) (n:=3) (by decide)) (by have:=az (k:=r2) (n:=3) (by decide); exact this)
       refine ⟨_,_,rfl,rfl,(by show (0:Int) < 3; decide),m,_,_,_,rfl,rfl,aw.of gm,hat,?_⟩
       refine ah ?_
       refine kR _ _ ?_
       clear kR
       refine au [some (.ref p),some (.ref R),some (.int kd),some (.int c),some (.int (bs.length:Int)),some (.int ((bs.length:Int) + (ins.length:Int))),none,some (.int ((bs.length + ins.length + j:Nat):Int)),some (.str y)] rfl ?_
       have sm2:=ae sx sm
       obtain ⟨y1,y2⟩:=xZ y hym
       refine ⟨_,rfl,_,rfl,_,_,rfl,rfl,_,rfl,R,_,rfl,aw.of (sm2 _ _ hR),fun l1 hl1=>?_⟩
       rw [show ((bs.length + ins.length + j:Nat):Int) + 1=((bs.length + ins.length + j + 1:Nat):Int) by omega]
       rw [iM _ (show (bs.length + ins.length + j + 1)<=(((textOf bs ins nds).map V.str)).length by rw [tl]; omega)]
       have t1:=af hl1 (.lst (((textOf bs ins nds).map V.str).take (bs.length + ins.length + j + 1)))
       have u1:(upd Hm l1 (.lst (((textOf bs ins nds).map V.str).take (bs.length + ins.length + j + 1)))) l1=some (.lst (((textOf bs ins nds).map V.str).take (bs.length + ins.length + j + 1))):=aa
       generalize upd Hm l1 (.lst (((textOf bs ins nds).map V.str).take (bs.length + ins.length + j + 1)))=G1 at t1 u1 ⊢
       refine ⟨_,rfl,M4,fun l2 hl2=>?_⟩
       have t2:=af hl2 (.lst [.str y])
       have u2:(upd G1 l2 (.lst [.str y])) l2=some (.lst [.str y]):=aa
       generalize upd G1 l2 (.lst [.str y])=G2 at t2 u2 ⊢
       refine ⟨l1,l2,_,_,rfl,rfl,t2 _ _ u1,u2,F2 (show _<=1000 by rw [Gh]; show _ + 1<=1000; omega) (by decide),fun l3 hl3=>?_⟩
       have t3:=af hl3 (.lst (((textOf bs ins nds).map V.str).take (bs.length + ins.length + j + 1)++[.str y]))
       have u3:(upd G2 l3 (.lst (((textOf bs ins nds).map V.str).take (bs.length + ins.length + j + 1)++[.str y]))) l3=some (.lst (((textOf bs ins nds).map V.str).take (bs.length + ins.length + j + 1)++[.str y])):=aa
       generalize upd G2 l3 (.lst (((textOf bs ins nds).map V.str).take (bs.length + ins.length + j + 1)++[.str y]))=G3 at t3 u3 ⊢
       have t03:=ae sm2 (ae t1 (ae t2 t3))
       refine ⟨_,rfl,_,rfl,_,_,rfl,rfl,_,rfl,R,_,rfl,aw.of (t03 _ _ hR),fun l4 hl4=>?_⟩
       rw [show ((bs.length + ins.length + j:Nat):Int) + 1=((bs.length + ins.length + j + 1:Nat):Int) by omega]
       rw [fA _ (show (bs.length + ins.length + j + 1)<=(((textOf bs ins nds).map V.str)).length by rw [tl]; omega)]
       have t4:=af hl4 (.lst (((textOf bs ins nds).map V.str).drop (bs.length + ins.length + j + 1)))
       have u4:(upd G3 l4 (.lst (((textOf bs ins nds).map V.str).drop (bs.length + ins.length + j + 1)))) l4=some (.lst (((textOf bs ins nds).map V.str).drop (bs.length + ins.length + j + 1))):=aa
       generalize upd G3 l4 (.lst (((textOf bs ins nds).map V.str).drop (bs.length + ins.length + j + 1)))=G4 at t4 u4 ⊢
       refine ⟨l3,l4,_,_,rfl,rfl,t4 _ _ u3,u4,F2 (show _<=1000 by rw [FZ,Gh,GA,tl]; show _ + 1 + _<=1000; omega) (by decide),fun l5 hl5=>?_⟩
       refine q l5 ((textOf bs ins nds).take (bs.length + ins.length + j + 1)++[y]++(textOf bs ins nds).drop (bs.length + ins.length + j + 1)) _ (av (ae t03 t4) hl5) ?_ ?_
       · rw [aa,F9,F9,HH,Il]
         rfl
       · exact mD pg n40 (k:=bs.length + ins.length + j) (by omega) (by omega) (by rw [if_neg (by omega),if_neg (by omega)]; exact y1) y2
     refine ⟨_,rfl,rfl,_,rfl,aE (fun _=>?_) (fun _=>bD (go2 Hx sx))⟩
     refine ⟨_,rfl,p,_,_,_,rfl,rfl,bc.of (sx _ _ hp),rfl,M3,fun z hz=>?_⟩
     have sz:=af hz (.lst [])
     have gz:(upd Hx z (.lst [])) z=some (.lst []):=aa
     generalize upd Hx z (.lst [])=Hz at sz gz ⊢
     have s2:=ae sx sz
     refine ⟨_,RB.nil (aw.of (s2 _ _ hI)) (aw.of gz),_,rfl,aE (fun c1=>?_) (fun _=>go2 Hz s2)⟩
     have ine:ins≠[]:=isne (b:=true) c1
     refine ⟨_,rfl,_,rfl,_,rfl,_,rfl,_,rfl,R,_,rfl,aw.of (s2 _ _ hR),fun l1 hl1=>?_⟩
     rw [show (bs.length:Int) + (ins.length:Int)=((bs.length + ins.length:Nat):Int) by omega,vO _ (by omega) (by rw [tl]; omega),Nat.add_sub_cancel_left]
     have t1:=af hl1 (.lst ((((textOf bs ins nds).map V.str).drop bs.length).take ins.length))
     have u1:(upd Hz l1 (.lst ((((textOf bs ins nds).map V.str).drop bs.length).take ins.length))) l1=some (.lst ((((textOf bs ins nds).map V.str).drop bs.length).take ins.length)):=aa
     generalize upd Hz l1 (.lst ((((textOf bs ins nds).map V.str).drop bs.length).take ins.length))=G1 at t1 u1 ⊢
     refine ⟨_,rfl,_,rfl,_,rfl,R,_,rfl,aw.of (t1 _ _ (s2 _ _ hR)),fun l2 hl2=>?_⟩
     rw [iM _ (show bs.length<=((textOf bs ins nds).map V.str).length by rw [tl]; omega)]
     have t2:=af hl2 (.lst (((textOf bs ins nds).map V.str).take bs.length))
     have u2:(upd G1 l2 (.lst (((textOf bs ins nds).map V.str).take bs.length))) l2=some (.lst (((textOf bs ins nds).map V.str).take bs.length)):=aa
     generalize upd G1 l2 (.lst (((textOf bs ins nds).map V.str).take bs.length))=G2 at t2 u2 ⊢
     refine ⟨l1,l2,_,_,rfl,rfl,t2 _ _ u1,u2,F2 (show _<=1000 by rw [Gh,Gh,GA]; omega) (by decide),fun l3 hl3=>?_⟩
     have t3:=af hl3 (.lst ((((textOf bs ins nds).map V.str).drop bs.length).take ins.length++((textOf bs ins nds).map V.str).take bs.length))
     have u3:(upd G2 l3 (.lst ((((textOf bs ins nds).map V.str).drop bs.length).take ins.length++((textOf bs ins nds).map V.str).take bs.length))) l3=some (.lst ((((textOf bs ins nds).map V.str).drop bs.length).take ins.length++((textOf bs ins nds).map V.str).take bs.length)):=aa
     generalize upd G2 l3 (.lst ((((textOf bs ins nds).map V.str).drop bs.length).take ins.length++((textOf bs ins nds).map V.str).take bs.length))=G3 at t3 u3 ⊢
     have t03:=ae s2 (ae t1 (ae t2 t3))
     refine ⟨_,rfl,_,rfl,_,rfl,R,_,rfl,aw.of (t03 _ _ hR),fun l4 hl4=>?_⟩
     rw [fA _ (show bs.length + ins.length<=((textOf bs ins nds).map V.str).length by rw [tl]; omega)]
     have t4:=af hl4 (.lst (((textOf bs ins nds).map V.str).drop (bs.length + ins.length)))
     have u4:(upd G3 l4 (.lst (((textOf bs ins nds).map V.str).drop (bs.length + ins.length)))) l4=some (.lst (((textOf bs ins nds).map V.str).drop (bs.length + ins.length))):=aa
     generalize upd G3 l4 (.lst (((textOf bs ins nds).map V.str).drop (bs.length + ins.length)))=G4 at t4 u4 ⊢
     refine ⟨l3,l4,_,_,rfl,rfl,t4 _ _ u3,u4,F2 (show _<=1000 by rw [FZ,Gh,Gh,GA,GA,tl]; omega) (by decide),fun l5 hl5=>?_⟩
     refine q l5 _ _ (av (ae t03 t4) hl5) ?_ (qJ pg n40 ine)
     rw [aa,F9,F9,HH,HH,Il,Il]
   refine ⟨_,rfl,rfl,_,rfl,aE (fun _=>?_) (fun _=>bD (go1 H (same_refl _)))⟩
   refine ⟨_,rfl,p,_,_,_,rfl,rfl,bc.of (hp),rfl,M3,fun z hz=>?_⟩
   have sz:=af hz (.lst [])
   have gz:(upd H z (.lst [])) z=some (.lst []):=aa
   generalize upd H z (.lst [])=Hz at sz gz ⊢
   refine ⟨_,RB.nil (aw.of (sz _ _ hI)) (aw.of gz),_,rfl,aE (fun c1=>?_) (fun _=>go1 Hz sz)⟩
   have ine:ins≠[]:=isne (b:=true) c1
   have ipos:0 < ins.length:=List.length_pos_iff.mpr ine
   refine ao fun Rk kR=>?_
   refine ⟨_,rfl,_,_,rfl,rfl,_,rfl,c,906,rfl,by decide,by decide,fun r r0 r1=>?_⟩
   refine ⟨_,rfl,p,_,_,_,rfl,rfl,bc.of (sz _ _ hp),rfl,I,_,rfl,.inl (aw.of (sz _ _ hI)),_,_,rfl,rfl,(show (0:Int) < ((ins.map V.str).length:Int) from by rw [insl]; omega),_,_,rfl,rfl,?_⟩
   obtain ⟨j,hj,ej⟩:=ip (r:=r) (show (0:Int) < ((ins.map V.str).length:Int) from by rw [insl]; omega)
   have hj:j < ins.length:=by rw [insl] at hj; omega
   have ee:(bs.length:Int) + 1 + (j:Int)=((bs.length + 1 + j:Nat):Int):=by omega
   rw [ej]
   refine ah ?_
   refine kR _ _ ?_
   clear kR
   refine au [some (.ref p),some (.ref R),some (.int kd),some (.int c),some (.int (bs.length:Int)),some (.int ((bs.length:Int) + (ins.length:Int))),some (.int ((bs.length + 1 + j:Nat):Int)),none,none] (by rw [← ee]; rfl) ?_
   refine ⟨_,rfl,_,rfl,_,rfl,R,_,rfl,aw.of (sz _ _ hR),fun l1 hl1=>?_⟩
   rw [iM _ (show (bs.length + 1 + j)<=(((textOf bs ins nds).map V.str)).length by rw [tl]; omega)]
   have t1:=af hl1 (.lst (((textOf bs ins nds).map V.str).take (bs.length + 1 + j)))
   have u1:(upd Hz l1 (.lst (((textOf bs ins nds).map V.str).take (bs.length + 1 + j)))) l1=some (.lst (((textOf bs ins nds).map V.str).take (bs.length + 1 + j))):=aa
   generalize upd Hz l1 (.lst (((textOf bs ins nds).map V.str).take (bs.length + 1 + j)))=G1 at t1 u1 ⊢
   refine ⟨M4,fun l2 hl2=>?_⟩
   have t2:=af hl2 (.lst [.str ("box zz 2":Str)])
   have u2:(upd G1 l2 (.lst [.str ("box zz 2":Str)])) l2=some (.lst [.str ("box zz 2":Str)]):=aa
   generalize upd G1 l2 (.lst [.str ("box zz 2":Str)])=G2 at t2 u2 ⊢
   refine ⟨l1,l2,_,_,rfl,rfl,t2 _ _ u1,u2,F2 (show _<=1000 by rw [Gh]; show _ + 1<=1000; omega) (by decide),fun l3 hl3=>?_⟩
   have t3:=af hl3 (.lst (((textOf bs ins nds).map V.str).take (bs.length + 1 + j)++[.str ("box zz 2":Str)]))
   have u3:(upd G2 l3 (.lst (((textOf bs ins nds).map V.str).take (bs.length + 1 + j)++[.str ("box zz 2":Str)]))) l3=some (.lst (((textOf bs ins nds).map V.str).take (bs.length + 1 + j)++[.str ("box zz 2":Str)])):=aa
   generalize upd G2 l3 (.lst (((textOf bs ins nds).map V.str).take (bs.length + 1 + j)++[.str ("box zz 2":Str)]))=G3 at t3 u3 ⊢
   have t03:=ae sz (ae t1 (ae t2 t3))
   refine ⟨_,rfl,_,rfl,_,rfl,R,_,rfl,aw.of (t03 _ _ hR),fun l4 hl4=>?_⟩
   rw [fA _ (show (bs.length + 1 + j)<=(((textOf bs ins nds).map V.str)).length by rw [tl]; omega)]
   have t4:=af hl4 (.lst (((textOf bs ins nds).map V.str).drop (bs.length + 1 + j)))
   have u4:(upd G3 l4 (.lst (((textOf bs ins nds).map V.str).drop (bs.length + 1 + j)))) l4=some (.lst (((textOf bs ins nds).map V.str).drop (bs.length + 1 + j))):=aa
   generalize upd G3 l4 (.lst (((textOf bs ins nds).map V.str).drop (bs.length + 1 + j)))=G4 at t4 u4 ⊢
   refine ⟨l3,l4,_,_,rfl,rfl,t4 _ _ u3,u4,F2 (show _<=1000 by rw [FZ,Gh,GA,tl]; show _ + 1 + _<=1000; omega) (by decide),fun l5 hl5=>?_⟩
   refine q l5 ((textOf bs ins nds).take (bs.length + 1 + j)++[("box zz 2":Str)]++(textOf bs ins nds).drop (bs.length + 1 + j)) _ (av (ae t03 t4) hl5) ?_ ?_
   · rw [aa,F9,F9,HH,Il]
     rfl
   · exact mD pg n40 (k:=bs.length) (by omega) (by omega) (by rw [if_neg (by omega),if_pos (by omega)]; exact yM.1) yM.2
theorem v8 (s:Src K mg "_law_moved" sMov)(m_len:mg "len"=none)(ST:aY P w K mg base "_law_stir" ["cell","k"] 1 aP):aY P w K mg base "_law_moved" ["program","rows","kind","cell"] 2 u6:=
 let ⟨f,fd,F,m⟩:=s
 ⟨f,fd,zQ F m_len ST,F.kp,yZ F fun _ _ _ _ _ _ _ _ _ _=>rfl,m⟩
end
end TW
set_option Elab.async false
set_option linter.all false
set_option maxRecDepth 100000
set_option exponentiation.threshold 4000
set_option maxHeartbeats 1000000
namespace TW
open PySem L2
section
variable {P:Program}{w:World}{K:FX}{mg:Str->Option Value}{base:Heap}
abbrev sExc:Stmt:=top 61
theorem jf:ay ["row","kind","cell","words","numbers","names","number","some"] ["row","kind","cell"] (ag sExc):=⟨rfl,rfl,rfl,by decide +kernel,rfl,by decide +kernel,by decide +kernel⟩
theorem ju:(ag sExc).names.lookup (F1 "_law_stir")=some .globalImplicit:=by decide +kernel
theorem sC:(ag sExc).names.lookup (F1 "len")=some .globalImplicit:=by decide +kernel
/-! ### rows exchanged: pure -/
theorem tw_app2 {c:Nat}:∀(l t:List Nat),(l++c :: t).takeWhile (fun d=>d != c)=l.takeWhile (fun d=>d != c)
 | [],t=>by
   show (c :: t).takeWhile (fun d=>d != c)=[]
   rw [GR,show (c != c)=false by simp]
   rfl
 | x :: l,t=>by
   rw [Iw,GR,GR,tw_app2 l t]
theorem pd {c:Nat}:∀(xs:List (List Nat)) (a y:List Nat),jl c (xs++[a++y])=jl c (xs++[a])++y
 | [],a,y=>rfl
 | [x],a,y=>by
   show x++c :: (a++y)=(x++c :: a)++y
   simp
 | x :: x2 :: xs,a,y=>by
   have h:=pd (c:=c) (x2 :: xs) a y
   show x++c :: jl c ((x2 :: xs)++[a++y])=(x++c :: jl c ((x2 :: xs)++[a]))++y
   rw [h]
   simp
/-- a row with more words behind it -/
theorem i6 {row head x:Str}{ks:List Str}{t:List Nat}(g:cg row head ks)(hx:x.cps.toList=row.cps.toList++32 :: t)(ht:t.length<=100)(h10:10 ∉ t):dS x:=by
 refine ⟨fun head2 ks2 r=>?_,?_,fun z=>?_⟩
 · obtain ⟨ws,e,wl,_⟩:=g.r.sp
   obtain ⟨ws2,e2,wl2,_⟩:=r.sp
   have fr:=bV (row:=row)
   have fr2:=bV (row:=x)
   rw [e] at fr
   rw [e2] at fr2
   have rj:=dC e
   have rj2:=dC e2
   rw [Gi] at rj
   rw [hx,Gi] at rj2
   have f1:∀y∈head.cps.toList :: ws.map fun x=>x.cps.toList,32 ∉ y:=fun y hy=>by
     rcases List.mem_cons.mp hy with rfl | hy
     · exact fr _ F4
     · obtain ⟨z,hz,rfl⟩:=List.mem_map.mp hy
       exact fr _ (F7 _ hz)
   have f2:∀y∈head2.cps.toList :: ws2.map fun x=>x.cps.toList,32 ∉ y:=fun y hy=>by
     rcases List.mem_cons.mp hy with rfl | hy
     · exact fr2 _ F4
     · obtain ⟨z,hz,rfl⟩:=List.mem_map.mp hy
       exact fr2 _ (F7 _ hz)
   have c1:=i3 f1
   have c2:=i3 f2
   have h1:=oZ (xs:=ws.map fun x=>x.cps.toList) (f1 _ F4)
   have h2:=oZ (xs:=ws2.map fun x=>x.cps.toList) (f2 _ F4)
   rw [← rj,F0] at c1
   rw [← rj2,F0] at c2
   rw [← rj] at h1
   rw [← rj2,tw_app2,h1] at h2
   have pre:head2.cps.toList.isPrefixOf head.cps.toList=true:=by
     rw [JV,← h2]
     exact List.prefix_refl _
   have ee:=jU _ r.fr _ g.r.fr pre
   injection ee with _ ee
   subst ee
   rw [IP,Jp] at c2
   omega
 · have h2:=congrArg Ia hx
   rw [aD,FZ,F5,aD] at h2
   have:=g.l
   omega
 · rw [hx] at z
   rcases List.mem_append.mp z with z | z
   · exact g.n z
   · rcases List.mem_cons.mp z with z | z
     · exact absurd z (by decide)
     · exact h10 z
/-- a row with a sign behind it that ends no word -/
theorem uX {row head x:Str}{ks:List Str}{c:Nat}(g:cg row head ks)(hc:c∈spoilM)(hx:x.cps.toList=row.cps.toList++[c]):dS x:=by
 obtain ⟨ws,e,wl,_⟩:=g.r.sp
 have rj:=dC e
 obtain ⟨pre,l,el⟩ : ∃pre l,head :: ws=pre++[l]:=⟨(head :: ws).dropLast,(head :: ws).getLast (fun z=>nomatch z),(IA _).symm⟩
 have hl:(head :: ws)[pre.length]? = some l:=by rw [el,G6 (F8 _),Jm]; rfl
 have b:=mU g e hl hc
 have ex:Gg " " ((head :: ws).set pre.length (l++SN [c]))=x:=by
   have h1:(Gg " " ((head :: ws).set pre.length (l++SN [c]))).cps.toList=x.cps.toList:=by
     rw [fg.2,hx,rj,el,Kn _ _ (F8 _),Jm]
     show jl 32 ((pre++[l++SN [c]]).map fun x=>x.cps.toList)=_
     rw [F9,F9]
     show jl 32 (pre.map (fun x=>x.cps.toList)++[(l++SN [c]).cps.toList])=jl 32 (pre.map (fun x=>x.cps.toList)++[l.cps.toList])++[c]
     rw [aM,bM,pd]
   rw [← jJ (Gg " " _),h1,jJ]
 rwa [ex] at b
abbrev noNum:List Str:=["00","07","-1","-0","+1","1_0","1.","x","1000000000000000000000000000000","","0x1","1e1"]
abbrev noNam:List Str:=["A","abcdefghi","a1","1a","a_b","","1","Ab","(a)","aaaaaaaaaaaaaaaaaaaaaaaaaaaaaaaaaaaaaaaa"]
theorem mF:∀y∈noNum,qP y.cps.toList=false/\32 ∉ y.cps.toList/\10 ∉ y.cps.toList/\y.length<=8000:=by decide +kernel
theorem mE:∀y∈noNam,qK y.cps.toList=false/\32 ∉ y.cps.toList/\10 ∉ y.cps.toList/\y.length<=8000:=by decide +kernel
theorem wJ {a:List Nat}(h:qP a=false):¬ fu "number" a:=fun w=>by
 rcases w with ⟨e,_⟩ | ⟨_,w⟩ | ⟨e,_⟩ | ⟨e,_⟩
 · exact absurd e (by decide)
 · rw [w.b] at h; cases h
 · exact absurd e (by decide)
 · exact absurd e (by decide)
theorem wI {a:List Nat}(h:qK a=false):¬ fu "name" a:=fun w=>by
 rcases w with ⟨_,w⟩ | ⟨e,_⟩ | ⟨e,_⟩ | ⟨e,_⟩
 · rw [w.b] at h; cases h
 · exact absurd e (by decide)
 · exact absurd e (by decide)
 · exact absurd e (by decide)
def og (head:Str):List Nat:=([("box",[2]),("put",[3]),("say",[2]),("test",[2,3]),("pick",[2])]:List (Str×List Nat)).lookup head |>.getD []
def qL (head:Str):List Nat:=([("box",[1]),("input",[1]),("put",[1]),("pick",[1])]:List (Str×List Nat)).lookup head |>.getD []
theorem pv:∀q∈formsL,∀j∈og q.1,1<=j/\q.2[j - 1]? = some "number":=by decide +kernel
theorem pk:∀q∈formsL,∀j∈qL q.1,1<=j/\q.2[j - 1]? = some "name":=by decide +kernel
theorem wM {row head:Str}{ks ws:List Str}(g:cg row head ks)(e:Gr row " "=head :: ws){j:Nat}{y:Str}(hj:j∈og head)(hy:y∈noNum):dS (Gg " " ((head :: ws).set j y)):=by
 obtain ⟨j1,hk⟩:=pv _ g.r.fr j hj
 obtain ⟨h1,h2,h3,h4⟩:=mF y hy
 have b:=lE g e hk (wJ h1) h2 h3 h4
 rwa [show j - 1 + 1=j by omega] at b
theorem wD {row head:Str}{ks ws:List Str}(g:cg row head ks)(e:Gr row " "=head :: ws){j:Nat}{y:Str}(hj:j∈qL head)(hy:y∈noNam):dS (Gg " " ((head :: ws).set j y)):=by
 obtain ⟨j1,hk⟩:=pk _ g.r.fr j hj
 obtain ⟨h1,h2,h3,h4⟩:=mE y hy
 have b:=lE g e hk (wI h1) h2 h3 h4
 rwa [show j - 1 + 1=j by omega] at b
abbrev capS (x:Str):Str:=Hs (GJ x none (some 1))++GJ x (some 1) none
theorem mq:∀q∈formsL,∀y∈[Hs q.1,capS q.1],y.length<=8000/\y≠HS/\(∀p∈formsL,p.1≠y)/\32 ∉ y.cps.toList/\10 ∉ y.cps.toList:=by decide +kernel
theorem Dd:∀q∈formsL,JX (Hs q.1).length=false/\JX (Hs (GJ q.1 none (some 1))).length=false/\(Hs (GJ q.1 none (some 1))).length + (GJ q.1 (some 1) none).length<=1000:=by decide +kernel
theorem qr {row head:Str}{ks ws:List Str}(g:cg row head ks)(e:Gr row " "=head :: ws){y:Str}(hy:y∈[Hs head,capS head]):dS (Gg " " ((head :: ws).set 0 y)):=by
 obtain ⟨h1,h2,h3,h4,h5⟩:=mq _ g.r.fr y hy
 exact mS g e h2 (fun ks2 z=>h3 _ z rfl) h4 h5 h1
abbrev behL:List Str:=[" # a"," #"," // a","#"]
theorem vI {row head s:Str}{ks:List Str}(g:cg row head ks)(hs:s∈behL):dS (row++s):=by
 simp only [GG,Gv,or_false] at hs
 rcases hs with rfl | rfl | rfl | rfl
 · exact i6 g (t:=[35,32,97]) (by rw [aM,show (" # a":Str).cps.toList=[32,35,32,97] by decide +kernel]) (by decide) (by decide)
 · exact i6 g (t:=[35]) (by rw [aM,show (" #":Str).cps.toList=[32,35] by decide +kernel]) (by decide) (by decide)
 · exact i6 g (t:=[47,47,32,97]) (by rw [aM,show (" // a":Str).cps.toList=[32,47,47,32,97] by decide +kernel]) (by decide) (by decide)
 · exact uX g (c:=35) (by decide) (by rw [aM,show ("#":Str).cps.toList=[35] by decide +kernel])
theorem jZ {c:TT}{t u:TS}{D:L2.Ends}{σ:L2.St}{H:Hp}(h:∀T U:Hp->Prop,(∀H1,t D σ H1->T H1)->(∀H1,u D σ H1->U H1)->c σ H (fun b H1=>if b=true then T H1 else U H1)):A2 c t u D σ H:=h _ _ (fun _ z=>z) (fun _ z=>z)
theorem wO {head:Str}{ks:List Str}{H:Hp}{a1 a2 a3 a4 a5 z:Addr}(h:(head,ks)∈formsL)(g1:H a1=some (.lst [.int 2]))(g2:H a2=some (.lst [.int 3]))(g3:H a3=some (.lst [.int 2]))(g4:H a4=some (.lst [.int 2,.int 3]))(g5:H a5=some (.lst [.int 2]))(gz:H z=some (.lst [])):∃n,(gO ([(.inr "box",.ref a1),(.inr "put",.ref a2),(.inr "say",.ref a3),(.inr "test",.ref a4),(.inr "pick",.ref a5)]:List (Key×V)) (.inr head)).getD (.ref z)=.ref n/\H n=some (.lst ((og head).map fun (j:Nat)=>V.int (j:Int))):=by
 simp only [GG,Gv,or_false,Prod.mk.injEq] at h
 rcases h with ⟨rfl,_⟩ | ⟨rfl,_⟩ | ⟨rfl,_⟩ | ⟨rfl,_⟩ | ⟨rfl,_⟩ | ⟨rfl,_⟩ | ⟨rfl,_⟩
 · exact ⟨a1,rfl,g1⟩
 · exact ⟨z,rfl,gz⟩
 · exact ⟨a2,rfl,g2⟩
 · exact ⟨a3,rfl,g3⟩
 · exact ⟨a4,rfl,g4⟩
 · exact ⟨a5,rfl,g5⟩
 · exact ⟨z,rfl,gz⟩
theorem wF {head:Str}{ks:List Str}{H:Hp}{a1 a2 a3 a4 z:Addr}(h:(head,ks)∈formsL)(g1:H a1=some (.lst [.int 1]))(g2:H a2=some (.lst [.int 1]))(g3:H a3=some (.lst [.int 1]))(g4:H a4=some (.lst [.int 1]))(gz:H z=some (.lst [])):∃n,(gO ([(.inr "box",.ref a1),(.inr "input",.ref a2),(.inr "put",.ref a3),(.inr "pick",.ref a4)]:List (Key×V)) (.inr head)).getD (.ref z)=.ref n/\H n=some (.lst ((qL head).map fun (j:Nat)=>V.int (j:Int))):=by
 simp only [GG,Gv,or_false,Prod.mk.injEq] at h
 rcases h with ⟨rfl,_⟩ | ⟨rfl,_⟩ | ⟨rfl,_⟩ | ⟨rfl,_⟩ | ⟨rfl,_⟩ | ⟨rfl,_⟩ | ⟨rfl,_⟩
 · exact ⟨a1,rfl,g1⟩
 · exact ⟨a2,rfl,g2⟩
 · exact ⟨a3,rfl,g3⟩
 · exact ⟨z,rfl,gz⟩
 · exact ⟨z,rfl,gz⟩
 · exact ⟨a4,rfl,g4⟩
 · exact ⟨z,rfl,gz⟩
def u5:Sp:=fun vs H Q _=>∃(row:Str) (kd c:Int) (head:Str) (ks:List Str),vs=[.str row,.int kd,.int c]/\cg row head ks/\∀(x:Str) (H':Hp),ak H H'->dS x->Q (.str x) H'
theorem zO {f:Addr}{fd:FuncData}(F:cf K "_law_exchanged" "_law_exchanged" sExc f fd)(m_len:mg "len"=none)(ST:aY P w K mg base "_law_stir" ["cell","k"] 1 aP):aN P w K mg base CX0 2 f fd ["row","kind","cell"] u5:=by
 refine F.ok jf (fun vs H Q E h=>?_) (fun cdv A outer s H vs Q E hr h=>?_)
 · obtain ⟨row,kd,c,head,ks,rfl,_⟩:=h
   rfl
 · obtain ⟨row,kd,c,head,ks,rfl,g,q⟩:=h
   obtain ⟨ws,es,wl,hw⟩:=g.r.sp
   have k3:ks.length<=3:=(gh _ g.r.fr).1
   have fl:=g.l
   have wlen:∀x∈head :: ws,x.length<=4100:=fun x hx=>by
     have:=(split_len row 32).2 x (by rw [← vc,es]; exact hx)
     omega
   refine eV ⟨_,(KG (KH 3 jf.nd (L3.lJ (Ky 0) (Kx KA Kz)))
     (KG (KH 4 jf.nd (L3.yd (cy hr _ (by decide)) (L3.za (Le KA (KJ (Kx KC Kz)) (Le KA (KJ (Kx KC Kz)) (Le KA (KJ (Kx KC Kz)) (Le KA (KJ (Kx KC (Kx KC Kz))) (Le KA (KJ (Kx KC Kz)) L3.D3)))))) (KN KW (Ky 3) KC) (KJ Kz)))
     (KG (KH 5 jf.nd (L3.yd (cy hr _ (by decide)) (L3.za (Le KA (KJ (Kx KC Kz)) (Le KA (KJ (Kx KC Kz)) (Le KA (KJ (Kx KC Kz)) (Le KA (KJ (Kx KC Kz)) L3.D3))))) (KN KW (Ky 3) KC) (KJ Kz)))
     (KG (KH 6 jf.nd (KO ST hr ju (Kx (Ky 2) (Kx KC Kz))))
     (KG (KR (K7 (Lc (KL K0 (Ky 1) KC) (Ld (KL (Ly (m:=2) (cy hr _ (by decide))) (Ky 4) (KJ Kz))))) (KG (KH 7 jf.nd (KJ (Kx KA (Kx KA (Kx KA (Kx KA (Kx KA (Kx KA (Kx KA (Kx KA (Kx (KD La KA (KD L3.ua KA KC)) (Kx KA (Kx KA (Kx KA Kz))))))))))))))
     (KI (Lj (KN KW (Ky 7) (KD KP (KD K5 (Ky 6) KC) KC)) (L3.yj (Ky 3) (KN KW (Ky 4) (KD KP (Ky 6) (KU K4 sC m_len Gd (Kx (Ky 4) Kz)))))))) (KI (KR (K7 (Lc (KL Ll (Ky 1) KC) (Ld (KL (Ly (m:=2) (cy hr _ (by decide))) (Ky 5) (KJ Kz))))) (KG (KH 7 jf.nd (KJ (Kx KA (Kx KA (Kx KA (Kx KA (Kx KA (Kx KA (Kx KA (Kx KA (Kx KA (Kx (KD L3.ua KA KC) Kz))))))))))))
     (KI (Lj (KN KW (Ky 7) (KD KP (KD K5 (Ky 6) KC) KC)) (L3.yj (Ky 3) (KN KW (Ky 5) KC))))) (KI (KR (KL K0 (KD KP (Ky 6) KC) KC) (KI (KQ (KD La (Ky 0) (KN KW (KJ (Kx KA (Kx KA (Kx KA (Kx KA Kz))))) (KD KP (KD K5 (Ky 6) KC) KC))))) (KI (Lj (KN KW (KJ (Kx (L3.upper (KN KW (Ky 3) KC)) (Kx (KD La (L3.upper (L3.CW (KN KW (Ky 3) KC) KC)) (L3.CV (KN KW (Ky 3) KC) KC)) Kz))) (KD Lm (KD KP (Ky 6) KC) KC)) (L3.D9 (Ky 3) KC))))))))
     (KI (KQ (Lp KA (Kx (Ky 3) Kz))))))))),?_⟩
   refine ao fun Rk kR=>?_
   refine ⟨_,rfl,rfl,_,_,rfl,rfl,rfl,F2 (show _<=20000 by omega) (by decide),?_,fun W hW=>?_⟩
   · rw [es,F5]
     exact F2 (show _<=1000 by omega) (by decide)
   rw [es]
   have s1:=af hW (.lst ((head :: ws).map V.str))
   have g1:(upd H W (.lst ((head :: ws).map V.str))) W=some (.lst ((head :: ws).map V.str)):=aa
   generalize upd H W (.lst ((head :: ws).map V.str))=H1 at s1 g1 ⊢
   refine ah ?_
   refine kR _ _ ?_
   clear kR
   refine au [some (.str row),some (.int kd),some (.int c),some (.ref W),none,none,none,none] rfl ?_
   have lens:((head :: ws).map V.str).length=ks.length + 1:=by rw [F0,F5,wl]
   refine ao fun Rk kR=>?_
   refine fun np hnp=>?_
   have ns0:=af hnp (.dK [])
   have ng0:(upd H1 np (.dK [])) np=some (.dK []):=aa
   generalize upd H1 np (.dK [])=nH0 at ns0 ng0 ⊢
   refine ⟨M4,fun na1 hna1=>?_⟩
   have ns1:=af hna1 (.lst [.int 2])
   have ng1:(upd nH0 na1 (.lst [.int 2])) na1=some (.lst [.int 2]):=aa
   generalize upd nH0 na1 (.lst [.int 2])=nH1 at ns1 ng1 ⊢
   replace ng0:=ns1 _ _ ng0
   refine ⟨M4,fun na2 hna2=>?_⟩
   have ns2:=af hna2 (.lst [.int 3])
   have ng2:(upd nH1 na2 (.lst [.int 3])) na2=some (.lst [.int 3]):=aa
   generalize upd nH1 na2 (.lst [.int 3])=nH2 at ns2 ng2 ⊢
   replace ng0:=ns2 _ _ ng0
   replace ng1:=ns2 _ _ ng1
   refine ⟨M4,fun na3 hna3=>?_⟩
   have ns3:=af hna3 (.lst [.int 2])
   have ng3:(upd nH2 na3 (.lst [.int 2])) na3=some (.lst [.int 2]):=aa
   generalize upd nH2 na3 (.lst [.int 2])=nH3 at ns3 ng3 ⊢
   replace ng0:=ns3 _ _ ng0
   replace ng1:=ns3 _ _ ng1
   replace ng2:=ns3 _ _ ng2
   refine ⟨M5,fun na4 hna4=>?_⟩
   have ns4:=af hna4 (.lst [.int 2,.int 3])
   have ng4:(upd nH3 na4 (.lst [.int 2,.int 3])) na4=some (.lst [.int 2,.int 3]):=aa
   generalize upd nH3 na4 (.lst [.int 2,.int 3])=nH4 at ns4 ng4 ⊢
   replace ng0:=ns4 _ _ ng0
   replace ng1:=ns4 _ _ ng1
   replace ng2:=ns4 _ _ ng2
   replace ng3:=ns4 _ _ ng3
   refine ⟨M4,fun na5 hna5=>?_⟩
   have ns5:=af hna5 (.lst [.int 2])
   have ng5:(upd nH4 na5 (.lst [.int 2])) na5=some (.lst [.int 2]):=aa
   generalize upd nH4 na5 (.lst [.int 2])=nH5 at ns5 ng5 ⊢
   replace ng0:=ns5 _ _ ng0
   replace ng1:=ns5 _ _ ng1
   replace ng2:=ns5 _ _ ng2
   replace ng3:=ns5 _ _ ng3
   replace ng4:=ns5 _ _ ng4
   refine ⟨ng0,[(.inr "box",.ref na1),(.inr "put",.ref na2),(.inr "say",.ref na3),(.inr "test",.ref na4),(.inr "pick",.ref na5)],rfl,(by show 5<=15; decide),?_⟩
   have nst0:=ae ns0 (ae (ae (ae (ae ns1 ns2) ns3) ns4) ns5)
   have ndd:(upd nH5 np (.dK (aU [] [(.inr "box",.ref na1),(.inr "put",.ref na2),(.inr "say",.ref na3),(.inr "test",.ref na4),(.inr "pick",.ref na5)]))) np=some (.dK [(.inr "box",.ref na1),(.inr "put",.ref na2),(.inr "say",.ref na3),(.inr "test",.ref na4),(.inr "pick",.ref na5)]):=aa
   have nsD:ak H1 (upd nH5 np (.dK (aU [] [(.inr "box",.ref na1),(.inr "put",.ref na2),(.inr "say",.ref na3),(.inr "test",.ref na4),(.inr "pick",.ref na5)]))):=aG nst0 hnp
   have nk1:(upd nH5 np (.dK (aU [] [(.inr "box",.ref na1),(.inr "put",.ref na2),(.inr "say",.ref na3),(.inr "test",.ref na4),(.inr "pick",.ref na5)]))) na1=some (.lst [.int 2]):=by rw [ai (fun z=>by rw [z,ng0] at ng1; cases ng1)]; exact ng1
   have nk2:(upd nH5 np (.dK (aU [] [(.inr "box",.ref na1),(.inr "put",.ref na2),(.inr "say",.ref na3),(.inr "test",.ref na4),(.inr "pick",.ref na5)]))) na2=some (.lst [.int 3]):=by rw [ai (fun z=>by rw [z,ng0] at ng2; cases ng2)]; exact ng2
   have nk3:(upd nH5 np (.dK (aU [] [(.inr "box",.ref na1),(.inr "put",.ref na2),(.inr "say",.ref na3),(.inr "test",.ref na4),(.inr "pick",.ref na5)]))) na3=some (.lst [.int 2]):=by rw [ai (fun z=>by rw [z,ng0] at ng3; cases ng3)]; exact ng3
   have nk4:(upd nH5 np (.dK (aU [] [(.inr "box",.ref na1),(.inr "put",.ref na2),(.inr "say",.ref na3),(.inr "test",.ref na4),(.inr "pick",.ref na5)]))) na4=some (.lst [.int 2,.int 3]):=by rw [ai (fun z=>by rw [z,ng0] at ng4; cases ng4)]; exact ng4
   have nk5:(upd nH5 np (.dK (aU [] [(.inr "box",.ref na1),(.inr "put",.ref na2),(.inr "say",.ref na3),(.inr "test",.ref na4),(.inr "pick",.ref na5)]))) na5=some (.lst [.int 2]):=by rw [ai (fun z=>by rw [z,ng0] at ng5; cases ng5)]; exact ng5
   generalize upd nH5 np (.dK (aU [] [(.inr "box",.ref na1),(.inr "put",.ref na2),(.inr "say",.ref na3),(.inr "test",.ref na4),(.inr "pick",.ref na5)]))=nHd at ndd nsD nk1 nk2 nk3 nk4 nk5 ⊢
   refine ⟨np,rfl,.inl ⟨_,.inl ndd⟩,_,rfl,W,_,_,_,rfl,rfl,aw.of (nsD _ _ g1),oK,M3,fun nz hnz=>?_⟩
   have nse:=af hnz (.lst [])
   have ngz:(upd nHd nz (.lst [])) nz=some (.lst []):=aa
   generalize upd nHd nz (.lst [])=nHe at nse ngz ⊢
   have nge:=jq.k (k:=.inr head) (nse _ _ ndd)
   refine ⟨_,nge,?_⟩
   obtain ⟨n1,en,gn⟩:=wO g.r.fr (nse _ _ nk1) (nse _ _ nk2) (nse _ _ nk3) (nse _ _ nk4) (nse _ _ nk5) ngz
   rw [en]
   have nt:=ae nsD nse
   have s2:=ae s1 nt

   refine ah ?_
   refine kR _ _ ?_
   clear kR
   refine au [some (.str row),some (.int kd),some (.int c),some (.ref W),some (.ref n1),none,none,none] rfl ?_
   have gn1:=gn
   clear gn en
   have gW2:=nt _ _ g1
   refine ao fun Rk kR=>?_
   refine fun mp hmp=>?_
   have ms0:=af hmp (.dK [])
   have mg0:(upd nHe mp (.dK [])) mp=some (.dK []):=aa
   generalize upd nHe mp (.dK [])=mH0 at ms0 mg0 ⊢
   refine ⟨M4,fun ma1 hma1=>?_⟩
   have ms1:=af hma1 (.lst [.int 1])
   have mg1:(upd mH0 ma1 (.lst [.int 1])) ma1=some (.lst [.int 1]):=aa
   generalize upd mH0 ma1 (.lst [.int 1])=mH1 at ms1 mg1 ⊢
   replace mg0:=ms1 _ _ mg0
   refine ⟨M4,fun ma2 hma2=>?_⟩
   have ms2:=af hma2 (.lst [.int 1])
   have mg2:(upd mH1 ma2 (.lst [.int 1])) ma2=some (.lst [.int 1]):=aa
   generalize upd mH1 ma2 (.lst [.int 1])=mH2 at ms2 mg2 ⊢
   replace mg0:=ms2 _ _ mg0
   replace mg1:=ms2 _ _ mg1
   refine ⟨M4,fun ma3 hma3=>?_⟩
   have ms3:=af hma3 (.lst [.int 1])
   have mg3:(upd mH2 ma3 (.lst [.int 1])) ma3=some (.lst [.int 1]):=aa
   generalize upd mH2 ma3 (.lst [.int 1])=mH3 at ms3 mg3 ⊢
   replace mg0:=ms3 _ _ mg0
   replace mg1:=ms3 _ _ mg1
   replace mg2:=ms3 _ _ mg2
   refine ⟨M4,fun ma4 hma4=>?_⟩
   have ms4:=af hma4 (.lst [.int 1])
   have mg4:(upd mH3 ma4 (.lst [.int 1])) ma4=some (.lst [.int 1]):=aa
   generalize upd mH3 ma4 (.lst [.int 1])=mH4 at ms4 mg4 ⊢
   replace mg0:=ms4 _ _ mg0
   replace mg1:=ms4 _ _ mg1
   replace mg2:=ms4 _ _ mg2
   replace mg3:=ms4 _ _ mg3
   refine ⟨mg0,[(.inr "box",.ref ma1),(.inr "input",.ref ma2),(.inr "put",.ref ma3),(.inr "pick",.ref ma4)],rfl,(by show 4<=15; decide),?_⟩
   have mst0:=ae ms0 (ae (ae (ae ms1 ms2) ms3) ms4)
   have mdd:(upd mH4 mp (.dK (aU [] [(.inr "box",.ref ma1),(.inr "input",.ref ma2),(.inr "put",.ref ma3),(.inr "pick",.ref ma4)]))) mp=some (.dK [(.inr "box",.ref ma1),(.inr "input",.ref ma2),(.inr "put",.ref ma3),(.inr "pick",.ref ma4)]):=aa
   have msD:ak nHe (upd mH4 mp (.dK (aU [] [(.inr "box",.ref ma1),(.inr "input",.ref ma2),(.inr "put",.ref ma3),(.inr "pick",.ref ma4)]))):=aG mst0 hmp
   have mk1:(upd mH4 mp (.dK (aU [] [(.inr "box",.ref ma1),(.inr "input",.ref ma2),(.inr "put",.ref ma3),(.inr "pick",.ref ma4)]))) ma1=some (.lst [.int 1]):=by rw [ai (fun z=>by rw [z,mg0] at mg1; cases mg1)]; exact mg1
   have mk2:(upd mH4 mp (.dK (aU [] [(.inr "box",.ref ma1),(.inr "input",.ref ma2),(.inr "put",.ref ma3),(.inr "pick",.ref ma4)]))) ma2=some (.lst [.int 1]):=by rw [ai (fun z=>by rw [z,mg0] at mg2; cases mg2)]; exact mg2
   have mk3:(upd mH4 mp (.dK (aU [] [(.inr "box",.ref ma1),(.inr "input",.ref ma2),(.inr "put",.ref ma3),(.inr "pick",.ref ma4)]))) ma3=some (.lst [.int 1]):=by rw [ai (fun z=>by rw [z,mg0] at mg3; cases mg3)]; exact mg3
   have mk4:(upd mH4 mp (.dK (aU [] [(.inr "box",.ref ma1),(.inr "input",.ref ma2),(.inr "put",.ref ma3),(.inr "pick",.ref ma4)]))) ma4=some (.lst [.int 1]):=by rw [ai (fun z=>by rw [z,mg0] at mg4; cases mg4)]; exact mg4
   generalize upd mH4 mp (.dK (aU [] [(.inr "box",.ref ma1),(.inr "input",.ref ma2),(.inr "put",.ref ma3),(.inr "pick",.ref ma4)]))=mHd at mdd msD mk1 mk2 mk3 mk4 ⊢
   refine ⟨mp,rfl,.inl ⟨_,.inl mdd⟩,_,rfl,W,_,_,_,rfl,rfl,aw.of (msD _ _ gW2),oK,M3,fun mz hmz=>?_⟩
   have mse:=af hmz (.lst [])
   have mgz:(upd mHd mz (.lst [])) mz=some (.lst []):=aa
   generalize upd mHd mz (.lst [])=mHe at mse mgz ⊢
   have mge:=jq.k (k:=.inr head) (mse _ _ mdd)
   refine ⟨_,mge,?_⟩
   obtain ⟨n2,en,gn⟩:=wF g.r.fr (mse _ _ mk1) (mse _ _ mk2) (mse _ _ mk3) (mse _ _ mk4) mgz
   rw [en]
   have mt:=ae msD mse
   have s3:=ae s2 mt

   have gn2:=gn
   clear gn en
   replace gn1:=mt _ _ gn1
   have gW3:=mt _ _ gW2
   generalize mHe=Hc at gn1 gn2 gW3 s3 ⊢
   refine ah ?_
   refine kR _ _ ?_
   clear kR
   refine au [some (.str row),some (.int kd),some (.int c),some (.ref W),some (.ref n1),some (.ref n2),none,none] rfl ?_
   refine ao fun Rk kR=>?_
   refine ⟨_,rfl,c,908,rfl,by decide,by decide,fun r r0 r1=>?_⟩
   refine ah ?_
   refine kR _ _ ?_
   clear kR
   refine au [some (.str row),some (.int kd),some (.int c),some (.ref W),some (.ref n1),some (.ref n2),some (.int r),none] rfl ?_
   refine ao fun Rk kR=>?_
   have fin:∀(o7:Option V) (Hx:Hp) (rs:List Str),ak H Hx->Hx W=some (.lst (rs.map V.str))->rs.length<=4->(∀y∈rs,y.length<=8000)->dS (Gg " " rs)->Rk [some (.str row),some (.int kd),some (.int c),some (.ref W),some (.ref n1),some (.ref n2),some (.int r),o7] Hx:=fun o7 Hx rs sx gx rl ry bl=>by
     refine kR _ _ ?_
     exact ⟨rfl,_,rfl," ",W,rs,rfl,rfl,aw.of gx,dz 8000 ry (by rw [show ((" ":Str)).length=1 from rfl]; omega),q _ _ sx bl⟩
   have setl:∀(i:Nat) (y:Str),y.length<=8000->∀z∈(head :: ws).set i y,z.length<=8000:=fun i y hy z hz=>by
     rcases G8 hz with hz | rfl
     · have:=wlen z hz
       omega
     · exact hy
   refine jZ fun T U hT hU=>?_
   have uu:∀Hx,ak Hc Hx->U Hx:=fun Hx sx=>by
     refine hU _ ?_
     clear hT hU
     refine jZ fun T U hT hU=>?_
     have uu:∀Hx,ak Hc Hx->U Hx:=fun Hx sx=>by
       refine hU _ ?_
       clear hT hU
       have s4:=ae s3 sx
       have gWx:=sx _ _ gW3
       refine ⟨_,rfl,_,_,rfl,rfl,(by show (0:Int) < 3; decide),rfl,_,rfl,aE (fun _=>?_) (fun c3=>?_)⟩
       · refine ⟨_,rfl,M7,fun m hm=>?_⟩
         have ms:=af hm (.lst [.str " # a",.str " #",.str " // a",.str "#"])
         have mg1:(upd Hx m (.lst [.str " # a",.str " #",.str " // a",.str "#"])) m=some (.lst [.str " # a",.str " #",.str " // a",.str "#"]):=aa
         generalize upd Hx m (.lst [.str " # a",.str " #",.str " // a",.str "#"])=Hm at ms mg1 ⊢
         obtain ⟨y,_,hym,hat⟩:=bo V.str behL (ax (k:=r / 8) (n:=4) (by decide)) (by have:=az (k:=r / 8) (n:=4) (by decide); exact this)
         have yl:y.length<=5:=by
           have key:∀y∈behL,y.length<=5:=by decide +kernel
           exact key y hym
         exact ⟨_,rfl,_,_,rfl,rfl,⟨by decide,by decide +kernel⟩,_,_,rfl,rfl,(by show (0:Int) < 4; decide),m,_,_,_,rfl,rfl,aw.of mg1,hat,_,_,rfl,rfl,F2 (show _<=20000 by omega) (by decide),q _ _ (ae s4 ms) (vI g hym)⟩
       · have r3:r % 3≠0:=nO c3
         obtain ⟨u1,u2,u3⟩:=Dd _ g.r.fr
         have hl5:head.length<=sizeLine:=F2 (wlen head F4) (by decide)
         refine ⟨_,rfl,W,_,_,_,rfl,rfl,aw.of gWx,oK,rfl,head,rfl,rfl,u1,_,rfl,W,_,_,_,rfl,rfl,aw.of gWx,oK,_,rfl,head,rfl,hl5,rfl,_,rfl,rfl,u2,_,rfl,W,_,_,_,rfl,rfl,aw.of gWx,oK,_,rfl,head,rfl,hl5,_,_,rfl,rfl,F2 u3 (by decide),M5,fun m hm=>?_⟩
         have ms:=af hm (.lst [.str (Hs head),.str (Hs (GJ head none (some 1))++GJ head (some 1) none)])
         have mg1:(upd Hx m (.lst [.str (Hs head),.str (Hs (GJ head none (some 1))++GJ head (some 1) none)])) m=some (.lst [.str (Hs head),.str (Hs (GJ head none (some 1))++GJ head (some 1) none)]):=aa
         generalize upd Hx m (.lst [.str (Hs head),.str (Hs (GJ head none (some 1))++GJ head (some 1) none)])=Hm at ms mg1 ⊢
         obtain ⟨y,_,hym,hat⟩:=bo V.str [Hs head,capS head] (r:=r % 3 - 1) (by omega) (by show r % 3 - 1 < 2; omega)
         have gWm:=ms _ _ gWx
         refine ⟨_,rfl,_,_,rfl,rfl,(by show (0:Int) < 3; decide),_,_,rfl,rfl,m,_,_,_,rfl,rfl,aw.of mg1,hat,_,rfl,W,_,_,_,rfl,rfl,gWm,(show mr _ (0:Int)=some 0 from i0 (by decide) (by rw [lens]; omega)),?_⟩
         rw [← HR]
         exact fin _ _ _ (aG (ae s4 ms) hW) aa (by rw [Hg,F5]; omega) (setl _ _ (mq _ g.r.fr y hym).1) (qr g es hym)
     refine ⟨_,rfl,_,_,rfl,rfl,_,rfl,aE (fun _=>?_) (fun _=>bD (uu Hx sx))⟩
     refine ⟨_,rfl,M3,fun z1 hz1=>?_⟩
     have q1:=af hz1 (.lst [])
     have q2:(upd Hx z1 (.lst [])) z1=some (.lst []):=aa
     generalize upd Hx z1 (.lst [])=Hq at q1 q2 ⊢
     refine ⟨_,RB.nil (aw.of (q1 _ _ (sx _ _ gn2))) (aw.of q2),_,rfl,aE (fun c1=>?_) (fun _=>uu _ (ae sx q1))⟩
     refine hT _ ?_
     clear hT hU uu
     have gn2:=q1 _ _ (sx _ _ gn2)
     have gW3:=q1 _ _ (sx _ _ gW3)
     have s4:=ae s3 (ae sx q1)
     refine ao fun Rk2 kR2=>?_
     refine ⟨"a",40,rfl,rfl,by decide,by decide,by decide,by decide,by decide,(by decide +kernel),Nd,fun m hm=>?_⟩
     have e1:lL "a" (Int.toNat 40)="aaaaaaaaaaaaaaaaaaaaaaaaaaaaaaaaaaaaaaaa":=by decide +kernel
     rw [e1]
     have ms:=af hm (.lst [.str "A",.str "abcdefghi",.str "a1",.str "1a",.str "a_b",.str "",.str "1",.str "Ab",.str "(a)",.str "aaaaaaaaaaaaaaaaaaaaaaaaaaaaaaaaaaaaaaaa"])
     have mg1:(upd Hq m (.lst [.str "A",.str "abcdefghi",.str "a1",.str "1a",.str "a_b",.str "",.str "1",.str "Ab",.str "(a)",.str "aaaaaaaaaaaaaaaaaaaaaaaaaaaaaaaaaaaaaaaa"])) m=some (.lst [.str "A",.str "abcdefghi",.str "a1",.str "1a",.str "a_b",.str "",.str "1",.str "Ab",.str "(a)",.str "aaaaaaaaaaaaaaaaaaaaaaaaaaaaaaaaaaaaaaaa"]):=aa
     generalize upd Hq m (.lst [.str "A",.str "abcdefghi",.str "a1",.str "1a",.str "a_b",.str "",.str "1",.str "Ab",.str "(a)",.str "aaaaaaaaaaaaaaaaaaaaaaaaaaaaaaaaaaaaaaaa"])=Hm at ms mg1 ⊢
     refine ah ?_
     refine kR2 _ _ ?_
     refine au [some (.str row),some (.int kd),some (.int c),some (.ref W),some (.ref n1),some (.ref n2),some (.int r),some (.ref m)] rfl ?_
     obtain ⟨j,l,hjl⟩ : ∃j l,qL head=j :: l:=by
       cases hh:qL head with
       | nil=>rw [hh] at c1; exact absurd c1 (by decide)
       | cons a l=>exact ⟨a,l,rfl⟩
     have hjm:j∈qL head:=by rw [hjl]; exact F4
     obtain ⟨y,_,hym,hat⟩:=bo V.str noNam (ax (k:=r / 8) (n:=10) (by decide)) (by have:=az (k:=r / 8) (n:=10) (by decide); exact this)
     have hjw:j < ((head :: ws).map V.str).length:=by
       have:=(List.getElem?_eq_some_iff.mp (pk _ g.r.fr j hjm).2).1
       have this:j - 1 < ks.length:=this
       rw [lens]
       omega
     have gn2m:=ms _ _ gn2
     rw [hjl] at gn2m
     have gWm:=ms _ _ gW3
     refine ⟨_,rfl,_,rfl,_,_,rfl,rfl,⟨by decide,by decide +kernel⟩,_,_,rfl,rfl,(by show (0:Int) < 10; decide),m,_,_,_,rfl,rfl,aw.of mg1,hat,_,rfl,_,rfl,n2,_,_,_,rfl,rfl,aw.of gn2m,oK,W,_,_,_,rfl,rfl,gWm,(show mr _ (j:Int)=some j from i0 (by omega) (by omega)),?_⟩
     rw [← HR]
     exact fin _ _ _ (aG (ae s4 ms) hW) aa (by rw [Hg,F5]; omega) (setl _ _ (mE y hym).2.2.2) (wD g es hjm hym)
   refine ⟨_,rfl,rfl,_,rfl,aE (fun _=>?_) (fun _=>bD (uu Hc (same_refl _)))⟩
   refine ⟨_,rfl,M3,fun z1 hz1=>?_⟩
   have q1:=af hz1 (.lst [])
   have q2:(upd Hc z1 (.lst [])) z1=some (.lst []):=aa
   generalize upd Hc z1 (.lst [])=Hq at q1 q2 ⊢
   refine ⟨_,RB.nil (aw.of (q1 _ _ gn1)) (aw.of q2),_,rfl,aE (fun c1=>?_) (fun _=>uu _ q1)⟩
   refine hT _ ?_
   clear hT hU uu
   have gn1:=q1 _ _ gn1
   have gW3:=q1 _ _ gW3
   have s4:=ae s3 q1
   clear gn2 gW2
   refine ao fun Rk2 kR2=>?_
   refine ⟨"0",30,rfl,rfl,by decide,by decide,by decide,by decide,by decide,(by decide +kernel),_,_,rfl,rfl,(by decide +kernel),Nf,fun m hm=>?_⟩
   have e1:("1":Str)++lL "0" (Int.toNat 30)="1000000000000000000000000000000":=by decide +kernel
   rw [e1]
   have ms:=af hm (.lst [.str "00",.str "07",.str "-1",.str "-0",.str "+1",.str "1_0",.str "1.",.str "x",.str "1000000000000000000000000000000",.str "",.str "0x1",.str "1e1"])
   have mg1:(upd Hq m (.lst [.str "00",.str "07",.str "-1",.str "-0",.str "+1",.str "1_0",.str "1.",.str "x",.str "1000000000000000000000000000000",.str "",.str "0x1",.str "1e1"])) m=some (.lst [.str "00",.str "07",.str "-1",.str "-0",.str "+1",.str "1_0",.str "1.",.str "x",.str "1000000000000000000000000000000",.str "",.str "0x1",.str "1e1"]):=aa
   generalize upd Hq m (.lst [.str "00",.str "07",.str "-1",.str "-0",.str "+1",.str "1_0",.str "1.",.str "x",.str "1000000000000000000000000000000",.str "",.str "0x1",.str "1e1"])=Hm at ms mg1 ⊢
   refine ah ?_
   refine kR2 _ _ ?_
   refine au [some (.str row),some (.int kd),some (.int c),some (.ref W),some (.ref n1),some (.ref n2),some (.int r),some (.ref m)] rfl ?_
   have np:0 < (og head).length:=by
     cases hh:og head with
     | nil=>rw [hh] at c1; exact absurd c1 (by decide)
     | cons a l=>exact Ig _
   have lpos:(0:Int) < (((og head).map fun (j:Nat)=>V.int (j:Int)).length:Int):=by rw [F0]; omega
   obtain ⟨y,_,hym,hat⟩:=bo V.str noNum (ax (k:=r / 8) (n:=12) (by decide)) (by have:=az (k:=r / 8) (n:=12) (by decide); exact this)
   obtain ⟨j,_,hjm,hat2⟩:=bo (fun (j:Nat)=>V.int (j:Int)) (og head) (ax (k:=r) lpos) (by have:=az (k:=r) lpos; rw [F0] at this ⊢; exact this)
   have hjl:j < ((head :: ws).map V.str).length:=by
     have:=(List.getElem?_eq_some_iff.mp (pv _ g.r.fr j hjm).2).1
     have this:j - 1 < ks.length:=this
     rw [lens]
     omega
   have gn1m:=ms _ _ gn1
   have gWm:=ms _ _ gW3
   refine ⟨_,rfl,_,rfl,_,_,rfl,rfl,⟨by decide,by decide +kernel⟩,_,_,rfl,rfl,(by show (0:Int) < 12; decide),m,_,_,_,rfl,rfl,aw.of mg1,hat,_,rfl,_,rfl,_,rfl,_,rfl,n1,_,rfl,.inl (aw.of gn1m),_,_,rfl,rfl,lpos,n1,_,_,_,rfl,rfl,aw.of gn1m,hat2,W,_,_,_,rfl,rfl,gWm,(show mr _ (j:Int)=some j from i0 (by omega) (by omega)),?_⟩
   rw [← HR]
   exact fin _ _ _ (aG (ae s4 ms) hW) aa (by rw [Hg,F5]; omega) (setl _ _ (mF y hym).2.2.2) (wM g es hjm hym)
theorem v7 (s:Src K mg "_law_exchanged" sExc)(m_len:mg "len"=none)(ST:aY P w K mg base "_law_stir" ["cell","k"] 1 aP):aY P w K mg base "_law_exchanged" ["row","kind","cell"] 2 u5:=
 let ⟨f,fd,F,m⟩:=s
 ⟨f,fd,zO F m_len ST,F.kp,pX F fun _ _ _ _ _ _ _ _ _=>rfl,m⟩
end
end TW
set_option Elab.async false
set_option linter.all false
set_option maxRecDepth 100000
set_option exponentiation.threshold 4000
set_option maxHeartbeats 1000000
namespace TW
open PySem L2
section
variable {P:Program}{w:World}{K:FX}{mg:Str->Option Value}{base:Heap}
abbrev sLaw:Stmt:=top 63
theorem eX:ay ["script","program","rows","cell","kind","at"] ["script"] (ag sLaw):=⟨rfl,rfl,rfl,by decide +kernel,rfl,by decide +kernel,by decide +kernel⟩
theorem fH:(ag sLaw).names.lookup (F1 "_law_bad")=some .globalImplicit:=by decide +kernel
theorem bz:(ag sLaw).names.lookup (F1 "_law_cell_at")=some .globalImplicit:=by decide +kernel
theorem fc:(ag sLaw).names.lookup (F1 "_law_exchanged")=some .globalImplicit:=by decide +kernel
theorem iQ:(ag sLaw).names.lookup (F1 "_law_moved")=some .globalImplicit:=by decide +kernel
theorem gj:(ag sLaw).names.lookup (F1 "_law_program")=some .globalImplicit:=by decide +kernel
theorem gk:(ag sLaw).names.lookup (F1 "_law_refused")=some .globalImplicit:=by decide +kernel
theorem gW:(ag sLaw).names.lookup (F1 "_law_spoilt")=some .globalImplicit:=by decide +kernel
theorem jv:(ag sLaw).names.lookup (F1 "_law_stir")=some .globalImplicit:=by decide +kernel
theorem ma:(ag sLaw).names.lookup (F1 "len")=some .globalImplicit:=by decide +kernel
theorem nk:(ag sLaw).names.lookup (F1 "range")=some .globalImplicit:=by decide +kernel
/-! ### the law -/
def pL (K:FX):Sp:=fun vs H Q _=>∃(a:Addr) (ns:List Int),vs=[.ref a]/\aw K H a (ns.map V.int)/\ns.length<=63/\∀H',Q (.bl true) H'
theorem r8 (sc:List Int)(a b:Option Int):∃ys:List Int,dO (sc.map V.int) a b=ys.map V.int:=by
 unfold dO
 rw [← Il,← HH]
 exact ⟨_,rfl⟩
/-- what a text of rows is split into -/
theorem rJ {rows:List Str}(hn:rows≠[])(h:∀r∈rows,r.length<=12300/\10 ∉ r.cps.toList):Gr (Gg "\n" rows) "\n"=rows:=by
 by_cases h0:HK (SN [10]) rows=HS
 · have e:=congrArg (fun s:Str=>s.cps.toList) h0
   have e:(HK (SN [10]) rows).cps.toList=[]:=e
   rw [bO] at e
   match rows,hn,e,h0 with
   | [x],_,e,h0=>
     have hx:x="":=by
       have e:x.cps.toList=[]:=e
       rw [← jJ x,e]
       rfl
     subst hx
     decide +kernel
   | x :: y :: r,_,e,_=>
     have e:x.cps.toList++10 :: jl 10 ((y :: r).map fun x=>x.cps.toList)=[]:=e
     exact absurd (List.append_eq_nil_iff.mp e).2 (fun z=>nomatch z)
 · rw [EZ]
   exact fk hn h0 fun x hx=>(h x hx).2
theorem tu {c:Nat}{B:Nat}:∀{xs:List (List Nat)},(∀x∈xs,x.length<=B)->(jl c xs).length<=xs.length * (B + 1)
 | [],_=>Gs _
 | [a],h=>by
   have:=h a F4
   show a.length<=1 * (B + 1)
   omega
 | a :: b :: r,h=>by
   have h1:=h a F4
   have h2:=tu (c:=c) (xs:=b :: r) fun x hx=>h x (F7 _ hx)
   show (a++c :: jl c (b :: r)).length<=((b :: r).length + 1) * (B + 1)
   rw [FZ,F5,Nat.add_mul]
   omega
theorem rH {rows:List Str}(h:∀r∈rows,r.length<=12300/\10 ∉ r.cps.toList)(hl:rows.length<=62):(Gg "\n" rows).length + 2<=sizeLine:=by
 have e:(Gg "\n" rows).length=(jl 10 (rows.map fun x=>x.cps.toList)).length:=by
   have:Gg "\n" rows=HK (SN [10]) rows:=by rw [← EZ]; exact StrLaws.glued_eq_join _ _
   rw [this,← bO,aD]
 have:=tu (c:=10) (B:=12300) (xs:=rows.map fun x=>x.cps.toList) fun x hx=>by
   obtain ⟨y,hy,rfl⟩:=List.mem_map.mp hx
   rw [aD]
   exact (h y hy).1
 rw [F0] at this
 have h2:rows.length * (12300 + 1)<=62 * 12301:=Nat.mul_le_mul_right _ hl
 rw [e]
 exact F2 (show _<=62 * 12301 + 2 by omega) (by decide)
theorem cG.q {rows:List Str}(h:cG rows):(("box q 0":Str) :: rows).length<=61/\(∀r∈("box q 0":Str) :: rows,r.length<=12300/\10 ∉ r.cps.toList)/\¬ bH (("box q 0":Str) :: rows):=by
 refine ⟨by have:=h.few; rw [F5]; omega,fun r hr=>?_,fun z=>h.bad z.tail⟩
 rcases List.mem_cons.mp hr with rfl | hr
 · exact (by decide +kernel:("box q 0":Str).length<=12300/\10 ∉ ("box q 0":Str).cps.toList)
 · exact h.ok r hr
/-- a row put in,or put in the place of another -/
theorem cG.set {bs:List (Str×Int)}{ins:List Str}{nds:List Np}(pg:vz bs ins nds)(n40:nds.length<=40){i:Nat}{y:Str}(hi:i < (textOf bs ins nds).length)(hy:dS y):cG ((textOf bs ins nds).set i y):=by
 have h4:=pg.wr.lb
 have h5:=pg.wr.li
 refine ⟨fun z=>?_,by rw [Hg,dk]; omega,fun r hr=>?_,mH (List.mem_set hi y) hy.b⟩
 · have:=congrArg Ia z
   rw [Hg] at this
   exact absurd this (by show ¬ _=0; omega)
 · rcases G8 hr with hr | rfl
   · exact dm pg r hr
   · exact ⟨hy.l,hy.n⟩
theorem cG.put {bs:List (Str×Int)}{ins:List Str}{nds:List Np}(pg:vz bs ins nds)(n40:nds.length<=40){n:Nat}{y:Str}(hy:dS y):cG ((textOf bs ins nds).take n++[y]++(textOf bs ins nds).drop n):=by
 have h4:=pg.wr.lb
 have h5:=pg.wr.li
 refine ⟨fun z=>?_,?_,fun r hr=>?_,mH (row:=y) (GY _ (Gj _ F4)) hy.b⟩
 · have:=congrArg Ia z
   rw [FZ,FZ] at this
   exact absurd this (by show ¬ _ + 1 + _=0; omega)
 · have:((textOf bs ins nds).take n).length + ((textOf bs ins nds).drop n).length=(textOf bs ins nds).length:=by rw [← FZ,Iv]
   rw [dk] at this
   rw [FZ,FZ]
   show _ + 1 + _<=60
   omega
 · rcases List.mem_append.mp hr with hr | hr
   · rcases List.mem_append.mp hr with hr | hr
     · exact dm pg r (Hi hr)
     · rw [List.mem_singleton.mp hr]
       exact ⟨hy.l,hy.n⟩
   · exact dm pg r (Iy hr)
theorem uQ {bs:List (Str×Int)}{ins:List Str}{nds:List Np}(pg:vz bs ins nds){r:Str}(h:r∈textOf bs ins nds):∃head ks,cg r head ks:=by
 rw [gM] at h
 obtain ⟨y,hy,rfl⟩:=List.mem_map.mp h
 exact ⟨_,_,km pg y hy⟩
theorem sh (k:Nat)(kk:Int)(hk:kk=(k:Int))(i:Nat)(h:i < 12):(flags k).take (i + 1)=(flags k).take i++[decide (V.int (i:Int)=V.int kk)]:=by
 have e:(flags k)[i]? = some (i == k):=by
   unfold flags
   rw [GI,List.getElem?_range h]
   rfl
 rw [Ho,e]
 have:(i == k)=decide (V.int (i:Int)=V.int kk):=by
   subst hk
   by_cases z:i=k
   · subst z; simp
   · rw [beq_false_of_ne z,decide_eq_false (fun y=>by injection y with y; omega)]
 rw [this]
 rfl
theorem Bw.same {H H':Hp}{B I N:Addr}{vb vn:List V}{bs:List (Str×Int)}{ins:List Str}{nds:List Np}(h:Bw H B I N vb vn bs ins nds)(s:ak H H'):Bw H' B I N vb vn bs ins nds:=⟨s _ _ h.hB,s _ _ h.hI,s _ _ h.hN,Paired.mapP h.pb fun _ _ z=>Tp.keep (ak.tk s) z,Paired.mapP h.pn fun _ _ z=>dW.keep (ak.tk s) z⟩
theorem zP {f:Addr}{fd:FuncData}(F:cf K "law" "law" sLaw f fd)(m_len:mg "len"=none)(m_range:mg "range"=none)(PR:aY P w K mg base "_law_program" ["script"] 42 (ow K))(CE:aY P w K mg base "_law_cell_at" ["script","k"] 1 (gH K))(ST:aY P w K mg base "_law_stir" ["cell","k"] 1 aP)(BA:aY P w K mg base "_law_bad" ["cell"] 2 uZ)(SPO:aY P w K mg base "_law_spoilt" ["row","kind","cell"] 2 u7)(MV:aY P w K mg base "_law_moved" ["program","rows","kind","cell"] 2 u6)(EX:aY P w K mg base "_law_exchanged" ["row","kind","cell"] 2 u5)(RF:aY P w K mg base "_law_refused" ["text"] 27 oy):aN P w K mg base CX0 43 f fd ["script"] (pL K):=by
 refine F.ok eX (fun vs H Q E h=>?_) (fun cdv A outer s H vs Q E hr h=>?_)
 · obtain ⟨a,sc,rfl,_⟩:=h
   rfl
 · have PR:=PR.mono (show 42<=42 by decide)
   have CE:=CE.mono (show 1<=42 by decide)
   have ST:=ST.mono (show 1<=42 by decide)
   have BA:=BA.mono (show 2<=42 by decide)
   have SPO:=SPO.mono (show 2<=42 by decide)
   have MV:=MV.mono (show 2<=42 by decide)
   have EX:=EX.mono (show 2<=42 by decide)
   have RF:=RF.mono (show 27<=42 by decide)
   obtain ⟨a,sc,rfl,hS,h63,q⟩:=h
   refine eV ⟨_,(KG (Lj (KO PR hr gj (Kx (LF (Ky 0) KC) Kz)) (L3.vW 2 (K9 (K3 1 eX.nd) (K9 (K3 2 eX.nd) Lu))))
     (KG (KH 3 eX.nd (KO CE hr bz (Kx (Ky 0) (Kx KC Kz))))
     (KG (KH 4 eX.nd (KD KP (KO CE hr bz (Kx (Ky 0) (Kx KC Kz))) KC))
     (KG (KH 5 eX.nd (KD KP (KO CE hr bz (Kx (Ky 0) (Kx KC Kz))) (KU K4 ma m_len Gd (Kx (Ky 2) Kz))))
     (KG (KR (KL Ll (Ky 4) KC) (KG (KH 5 eX.nd (KD KP (KO CE hr bz (Kx (Ky 0) (Kx KC Kz))) (KD KZ (KU K4 ma m_len Gd (Kx (Ky 2) Kz)) KC)))
     (KI (KH 2 eX.nd (KD K1 (KD K1 (LH (Ky 2) (Ky 5)) (KJ (Kx (KO BA hr fH (Kx (Ky 3) Kz)) Kz))) (LF (Ky 2) (Ky 5)))))) (KI (KR (KL K0 (Ky 4) KC) (KI (Lj (KO BA hr fH (Kx (Ky 3) Kz)) (L3.oV (Ky 2) (Ky 5)))) (KI (KR (KL Ll (Ky 4) KC) (KI (Lj (KO SPO hr gW (Kx (KN KW (Ky 2) (Ky 5)) (Kx (Ky 4) (Kx (Ky 3) Kz)))) (L3.oV (Ky 2) (Ky 5)))) (KI (KR (KL L3.zL (Ky 4) (KJ (Kx KC (Kx KC (Kx KC Kz)))) (by rfl)) (KI (KH 2 eX.nd (KO MV hr iQ (Kx (Ky 1) (Kx (Ky 2) (Kx (Ky 4) (Kx (Ky 3) Kz))))))) (KI (Lj (KO EX hr fc (Kx (KN KW (Ky 2) (Ky 5)) (Kx (Ky 4) (Kx (Ky 3) Kz)))) (L3.oV (Ky 2) (Ky 5)))))))))))
     (KG (KR (KL K0 (KD KP (KO ST hr jv (Kx (Ky 3) (Kx KC Kz))) KC) KC) (KI (KH 2 eX.nd (KD K1 (KJ (Kx KA Kz)) (Ky 2)))) KY)
     (KI (KQ (L3.y7 (L3.tZ (m:=2) (cy hr _ (by decide))) (KO RF hr gk (Kx (Lp KA (Kx (Ky 2) Kz)) Kz)) (LA [none] ["k"] (show aC _ (ag sLaw) from ⟨rfl,by decide +kernel,by decide +kernel,by decide +kernel⟩) (by rfl) (LG nk m_range (Kx KC Kz)) (fun _ _ _ _ _=>⟨(K3 0 (show (["k"]:List Str).Nodup from by decide +kernel)),Lk,(L3.y7 K0 (Ky 0) KC)⟩))))))))))),?_⟩
   refine ao fun Rk kR=>?_
   refine ⟨_,rfl,_,rfl,a,_,rfl,hS,fun l0 hl0=>?_⟩
   obtain ⟨ys,ey⟩:=r8 sc (some 3) none
   rw [ey]
   have s0:=af hl0 (.lst (ys.map V.int))
   have g0:(upd H l0 (.lst (ys.map V.int))) l0=some (.lst (ys.map V.int)):=aa
   generalize upd H l0 (.lst (ys.map V.int))=H0 at s0 g0 ⊢
   refine ⟨l0,ys,rfl,aw.of g0,fun L p R B I N vb vn bs ins nds H1 s1 gL hp pt pg n40 gR=>?_⟩
   refine ⟨L,_,rfl,aw.of gL,rfl,_,_,rfl,_,_,rfl,rfl,?_⟩
   have hS1:=ak.seq (ae s0 s1) hS
   have h4:=pg.wr.lb
   have h5:=pg.wr.li
   have h1:=pg.one
   have tl:((textOf bs ins nds).map V.str).length=bs.length + ins.length + nds.length:=by rw [F0,dk]
   clear hS s0 s1 g0 hl0 gL ey
   refine kR _ _ ?_
   clear kR
   refine au [some (.ref a),some (.ref p),some (.ref R),none,none,none] rfl ?_
   refine ao fun Rk kR=>?_
   refine ⟨_,rfl,a,sc,2,rfl,hS1,by decide,fun c=>?_⟩
   refine ah ?_
   refine kR _ _ ?_
   clear kR
   refine au [some (.ref a),some (.ref p),some (.ref R),some (.int c),none,none] rfl ?_
   refine ao fun Rk kR=>?_
   refine ⟨_,rfl,a,sc,1,rfl,hS1,by decide,fun kd=>⟨_,_,rfl,rfl,(by show (0:Int) < 12; decide),?_⟩⟩
   refine ah ?_
   refine kR _ _ ?_
   clear kR
   refine au [some (.ref a),some (.ref p),some (.ref R),some (.int c),some (.int (kd % 12)),none] rfl ?_
   generalize kd % 12=k
   refine ao fun Rk kR=>?_
   have lpos:(0:Int) < (((textOf bs ins nds).map V.str).length:Int):=by rw [tl]; omega
   refine ⟨_,rfl,a,sc,0,rfl,hS1,by decide,fun u=>⟨_,rfl,R,_,rfl,.inl (aw.of gR),_,_,rfl,rfl,lpos,?_⟩⟩
   refine ah ?_
   refine kR _ _ ?_
   clear kR
   refine au [some (.ref a),some (.ref p),some (.ref R),some (.int c),some (.int k),some (.int (u % (((textOf bs ins nds).map V.str).length:Int)))] rfl ?_
   obtain ⟨n,hn,en⟩:=ip (r:=u) lpos
   rw [en]
   clear en
   have hn:n < ((textOf bs ins nds).map V.str).length:=by omega
   refine ao fun Rk kR=>?_
   have fin:∀(R2:Addr) (t2:Int) (rs:List Str) (Hx:Hp),Hx R2=some (.lst (rs.map V.str))->cG rs->Rk [some (.ref a),some (.ref p),some (.ref R2),some (.int c),some (.int k),some (.int t2)] Hx:=fun R2 t2 rs Hx gx rl=>by
     refine kR _ _ ?_
     clear kR
     refine ao fun Rk kR=>?_
     have last:∀(R3:Addr) (rs:List Str) (Hx:Hp),Hx R3=some (.lst (rs.map V.str))->rs≠[]->rs.length<=61->(∀r∈rs,r.length<=12300/\10 ∉ r.cps.toList)->¬ bH rs->Rk [some (.ref a),some (.ref p),some (.ref R3),some (.int c),some (.int k),some (.int t2)] Hx:=fun R3 rs Hx gx ne few ok bad=>by
       refine kR _ _ ?_
       have tr:=rJ ne ok
       refine ⟨rfl,_,rfl,"\n",R3,rs,rfl,rfl,aw.of gx,dz 12300 (fun y hy=>(ok y hy).1) (by rw [show (("\n":Str)).length=1 from rfl]; omega),?_⟩
       refine ⟨_,rfl,rH ok (by omega),by rw [tr]; omega,fun r hr=>?_,by rw [tr]; exact bad,fun fl HD sD gfl=>?_⟩
       · rw [tr] at hr
         have:=(ok r hr).1
         omega
       refine ⟨12,rfl,by decide,by decide,fun D hD=>?_⟩
       refine iK (lo:=0) (n:=12) (fun (i:Nat) Hx=>ak HD Hx/\Hx D=some (.lst (((flags 3).take i).map V.bl))) ⟨af hD _,aa⟩ (fun i Hx hil z=>?_) (fun Hx z=>?_)
       · obtain ⟨sx,gD⟩:=z
         refine ah ?_
         refine eE (A:=fun H5=>dQ _ D _ H5 _) ?_
         refine ⟨_,rfl,rfl,_,gD,aW (by rw [F0,Gh]; omega),bh (Pv:=fun (i:Nat) Hx=>ak HD Hx/\Hx D=some (.lst (((flags 3).take i).map V.bl))) (by repeat' constructor) hil ⟨aG sx hD,?_⟩⟩
         rw [aa,sh 3 3 rfl i hil,F9,Int.zero_add]
         rfl
       obtain ⟨sx,gD⟩:=z
       have gD:Hx D=some (.lst ((flags 3).map V.bl)):=gD
       refine ⟨_,RB.bls (sx _ _ gfl) gD,?_⟩
       rw [decide_eq_true rfl]
       exact q _
     refine ⟨_,rfl,c,907,rfl,by decide,by decide,fun j _ _=>⟨_,_,rfl,rfl,(by show (0:Int) < 3; decide),rfl,_,rfl,aE (fun _=>?_) (fun _=>last R2 rs Hx gx rl.ne (by have:=rl.few; omega) rl.ok rl.bad)⟩⟩
     refine ⟨M4,fun l1 hl1=>?_⟩
     have t1:=af hl1 (.lst [.str "box q 0"])
     have u1:(upd Hx l1 (.lst [.str "box q 0"])) l1=some (.lst [.str "box q 0"]):=aa
     generalize upd Hx l1 (.lst [.str "box q 0"])=G1 at t1 u1 ⊢
     refine ⟨_,rfl,l1,R2,_,_,rfl,rfl,u1,t1 _ _ gx,F2 (show _<=1000 by rw [F0]; have:=rl.few; show 1 + _<=1000; omega) (by decide),fun l2 hl2=>?_⟩
     refine ah ?_
     exact last l2 ("box q 0" :: rs) _ (by rw [aa]; rfl) (fun z=>nomatch z) rl.q.1 rl.q.2.1 rl.q.2.2
   have hnl:n < (textOf bs ins nds).length:=by rw [F0] at hn; exact hn
   obtain ⟨row,_,hrm,hat⟩:=bo V.str (textOf bs ins nds) (r:=(n:Int)) (by omega) (by omega)
   obtain ⟨head,ks,gd⟩:=uQ pg hrm
   have ixn:mr ((textOf bs ins nds).map V.str).length (n:Int)=some n:=i0 (by omega) (by omega)
   refine jZ fun T U hT hU=>?_
   refine ⟨_,rfl,_,_,rfl,rfl,_,rfl,aE (fun _=>hT _ ?_) (fun k1=>hU _ ?_)⟩
   · clear hT hU
     refine ao fun Rk2 kR2=>?_
     have lpos2:(0:Int) < (((textOf bs ins nds).map V.str).length:Int) + 1:=by omega
     refine ⟨_,rfl,a,sc,0,rfl,hS1,by decide,fun u2=>⟨_,rfl,R,_,rfl,.inl (aw.of gR),_,_,rfl,rfl,_,_,rfl,rfl,lpos2,?_⟩⟩
     refine ah ?_
     refine kR2 _ _ ?_
     refine au [some (.ref a),some (.ref p),some (.ref R),some (.int c),some (.int k),some (.int (u2 % (((textOf bs ins nds).map V.str).length + 1:Int)))] rfl ?_
     obtain ⟨m,hm,em⟩:=ip (r:=u2) lpos2
     rw [em]
     have hm:m<=((textOf bs ins nds).map V.str).length:=by omega
     refine ⟨_,rfl,_,rfl,_,rfl,R,_,rfl,aw.of gR,fun l1 hl1=>?_⟩
     rw [iM _ hm]
     have t1:=af hl1 (.lst (((textOf bs ins nds).map V.str).take m))
     have w1:(upd H1 l1 (.lst (((textOf bs ins nds).map V.str).take m))) l1=some (.lst (((textOf bs ins nds).map V.str).take m)):=aa
     generalize upd H1 l1 (.lst (((textOf bs ins nds).map V.str).take m))=G1 at t1 w1 ⊢
     refine ⟨_,rfl,c,rfl,fun y G2 t2 hy=>?_⟩
     refine ⟨M4,fun l2 hl2=>?_⟩
     have t3:=af hl2 (.lst [.str y])
     have w3:(upd G2 l2 (.lst [.str y])) l2=some (.lst [.str y]):=aa
     generalize upd G2 l2 (.lst [.str y])=G3 at t3 w3 ⊢
     refine ⟨l1,l2,_,_,rfl,rfl,t3 _ _ (t2 _ _ w1),w3,F2 (show _<=1000 by rw [Gh]; show _ + 1<=1000; omega) (by decide),fun l3 hl3=>?_⟩
     have t4:=af hl3 (.lst (((textOf bs ins nds).map V.str).take m++[.str y]))
     have w4:(upd G3 l3 (.lst (((textOf bs ins nds).map V.str).take m++[.str y]))) l3=some (.lst (((textOf bs ins nds).map V.str).take m++[.str y])):=aa
     generalize upd G3 l3 (.lst (((textOf bs ins nds).map V.str).take m++[.str y]))=G4 at t4 w4 ⊢
     have t04:=ae t1 (ae t2 (ae t3 t4))
     refine ⟨_,rfl,_,rfl,_,rfl,R,_,rfl,aw.of (t04 _ _ gR),fun l4 hl4=>?_⟩
     rw [fA _ hm]
     have t5:=af hl4 (.lst (((textOf bs ins nds).map V.str).drop m))
     have w5:(upd G4 l4 (.lst (((textOf bs ins nds).map V.str).drop m))) l4=some (.lst (((textOf bs ins nds).map V.str).drop m)):=aa
     generalize upd G4 l4 (.lst (((textOf bs ins nds).map V.str).drop m))=G5 at t5 w5 ⊢
     refine ⟨l3,l4,_,_,rfl,rfl,t5 _ _ w4,w5,F2 (show _<=1000 by rw [FZ,Gh,GA,tl]; show _ + 1 + _<=1000; omega) (by decide),fun l5 hl5=>?_⟩
     refine ah ?_
     exact fin l5 (m:Int) _ _ (by rw [aa,← HH,← Il]; show _=some (HO.lst (List.map V.str ((textOf bs ins nds).take m++[y]++(textOf bs ins nds).drop m))); rw [F9,F9]; rfl) (cG.put pg n40 hy.L)
   clear hT hU
   refine jZ fun T U hT hU=>?_
   refine ⟨_,rfl,rfl,_,rfl,aE (fun _=>hT _ ?_) (fun k2=>hU _ ?_)⟩
   · clear hT hU
     refine ⟨_,rfl,c,rfl,fun y G2 t2 hy=>⟨_,rfl,_,rfl,R,_,_,_,rfl,rfl,t2 _ _ gR,ixn,?_⟩⟩
     rw [← HR]
     exact fin R (n:Int) _ _ aa (cG.set pg n40 hnl hy.L)
   clear hT hU
   refine jZ fun T U hT hU=>?_
   refine ⟨_,rfl,_,_,rfl,rfl,_,rfl,aE (fun k3=>hT _ ?_) (fun _=>hU _ ?_)⟩
   · clear hT hU
     have k6:k < 6:=of_decide_eq_true k3
     have kn2:¬ k < 2:=fun z=>k1 (decide_eq_true z)
     have kn3:k≠2:=nO k2
     refine ⟨_,rfl,_,rfl,R,_,_,_,rfl,rfl,aw.of gR,hat,_,rfl,_,rfl,row,k,c,head,ks,rfl,gd,(by omega),fun y G2 t2 hy=>⟨_,rfl,_,rfl,R,_,_,_,rfl,rfl,t2 _ _ gR,ixn,?_⟩⟩
     rw [← HR]
     exact fin R (n:Int) _ _ aa (cG.set pg n40 hnl hy)
   clear hT hU
   refine jZ fun T U hT hU=>?_
   refine ⟨_,rfl,M6,fun m hm=>?_⟩
   have sm:=af hm (.lst [.int 6,.int 7,.int 11])
   have gm:(upd H1 m (.lst [.int 6,.int 7,.int 11])) m=some (.lst [.int 6,.int 7,.int 11]):=aa
   generalize upd H1 m (.lst [.int 6,.int 7,.int 11])=Hm at sm gm ⊢
   refine ⟨m,_,rfl,.inl (aw.of gm),rfl,rfl,_,rfl,aE (fun _=>hT _ ?_) (fun _=>hU _ ?_)⟩
   · clear hT hU
     refine ⟨_,rfl,_,rfl,_,rfl,_,rfl,p,R,k,c,B,I,N,vb,vn,bs,ins,nds,rfl,sm _ _ hp,pt.same sm,pg,n40,sm _ _ gR,fun l rs G2 t2 gl rl=>?_⟩
     refine ah ?_
     exact fin l (n:Int) rs _ gl rl
   clear hT hU
   refine ⟨_,rfl,_,rfl,R,_,_,_,rfl,rfl,aw.of (sm _ _ gR),hat,_,rfl,_,rfl,row,k,c,head,ks,rfl,gd,fun y G2 t2 hy=>⟨_,rfl,_,rfl,R,_,_,_,rfl,rfl,t2 _ _ (sm _ _ gR),ixn,?_⟩⟩
   rw [← HR]
   exact fin R (n:Int) _ _ aa (cG.set pg n40 hnl hy)
end
end TW
set_option Elab.async false
set_option linter.all false
set_option maxRecDepth 100000
namespace TW
open PySem L2
theorem yT {P:Program}{w:World}{K:FX}{mg:Str->Option Value}{fa:Addr}(hfa:mg "law"=some (.ref fa))(t:Bz w K mg) :
   ∃fd:FuncData,(∀(s:Shared) (u:Value),BindsTo s fd ⟨[u],[]⟩ [("script",u)])/\∀base:Heap,K.In base->base.Ns mainGlobals mg->aN P w K mg base CX0 65 fa fd ["script"] (pL K):=by
 obtain ⟨f,fd,F,m⟩:=t.s_law
 have e:=hfa.symm.trans m
 cases e
 refine ⟨fd,fun s u=>?_,fun base _ _=>?_⟩
 · obtain ⟨oc,od,kV,doc,pm,an,cdv,ct,osl,rfl,lk,hcd⟩:=F.ex
   exact .of_eq rfl
 obtain ⟨T,cNoPair,cNoPaper,cTooMany,cNoRow,cNoProgram,cNoWorths,cNoNode,cNoChange,cNoForm,cNoneYet,cNoPicks,R⟩:=t.cl
 obtain ⟨aSS,hSS,dSS⟩:=t.c_SIGN_SUMS
 obtain ⟨aST,hST,dST⟩:=t.c_SIGN_TESTS
 obtain ⟨aR,hR,dR⟩:=t.c_RANKS
 obtain ⟨aF,ts,hF,dF0,pF⟩:=t.c_FORMS
 have dF:mZ w K aF:=⟨ts,dF0,pF⟩
 have CE:aY P w K mg base "_law_cell_at" ["script","k"] 1 (gH K):=sJ t.s_law_cell_at t.m_len
 have ST:aY P w K mg base "_law_stir" ["cell","k"] 1 aP:=sT t.s_law_stir
 have NU:=wa t.s_law_number ST
 have SM:=wg t.s_law_sum t.m_len ST NU
 have CO:=sM t.s_law_condition ST (SM 3)
 have GS:=zk t.s_law_grown_sum t.m_len t.m_range ST
 have GC:=zj t.s_law_grown_condition t.m_range ST
 have LW:∀n,aY P w K mg base "_law_word" ["thing"] (n + 1) (lH n):=zl t.s_law_word t.m_str t.m_int
 have AS:=zi t.s_law_any_sum (SM 4) GS
 have AC:=zh t.s_law_any_condition (SM 4) GS (CO 4) GC
 have NO:=sO t.s_law_node t.m_len t.m_str ST AS AC (LW 30)
 have NS:=qu t.s_law_names t.m_len t.m_range ST
 have PR:=sP t.s_law_program t.m_len t.m_range t.m_list t.m_str t.m_sum t.m_enumerate (CE.mono (by decide)) (NS.mono (by decide)) (ST.mono (by decide)) NO
 obtain ⟨C,cR,iR,mSi,mTa,mDu,mSt,mNu,mNa⟩:=t.k_Reader
 have R5:=cR.rd
 have RDR:lO P w K mg base "Reader" C ["self","word"] 1 (fU C):=nK cR iR
 have SI:bL P w K mg base C "sign" ["self"] 1 (bp C):=qz mSi R5
 have TA:=nG mTa R5 SI
 have DU:=qw mDu R.x_NoRow R5 TA
 have STR:=sQ mSt R5 SI
 have RNu:=qx mNu R.x_NoRow R5 t.m_len t.m_int t.c_FIGURES t.c_MOST_FIGURES STR
 have RNa:=nE mNa R.x_NoRow R5 t.m_len t.c_LETTERS t.c_MOST_LETTERS STR
 have RAt:=nA t.s_read_atom R5 t.c_FIGURES SI RNu RNa
 have RSu:=qA t.s_read_sum R.x_NoRow R5 t.m_len hSS dSS SI TA DU RAt
 have RTe:=nH t.s_read_test R.x_NoRow R5 hST dST SI RSu
 have RCo:=nD t.s_read_condition R5 t.m_len SI DU RTe
 have RWo:=nJ t.s_read_word R5 t.m_len R.x_NoRow RDR RNu RNa RSu RCo
 have RRo:=qy t.s_read_row t.m_len t.m_zip t.m_tuple hF dF R.x_NoRow RWo
 have RP:=nF t.s_read_program hR dR t.c_NODE_RANK R.x_NoRow RRo
 have RF:=sS t.s_law_refused R t.m_isinstance t.m_ValueError RP
 have BA:=vZ t.s_law_bad t.m_len ST
 have SPO:=wc t.s_law_spoilt t.m_len ST
 have MV:=v8 t.s_law_moved t.m_len ST
 have EX:=v7 t.s_law_exchanged t.m_len ST
 exact (zP F t.m_len t.m_range PR CE ST BA SPO MV EX RF).mono (by decide)
end TW
set_option Elab.async false
set_option linter.all false
set_option maxRecDepth 100000
namespace TW
open PySem L2
theorem walk {l:PySem.W.OpenLaw}{q:Program}{loose:List Str}{XP:(Str->Option Value)->Heap->Prop}{YP:World->Heap->Prop}{d:DefRec}{K:Params->FX}(hn:l.most=some 63)(hdf:d.params.defaults=[])
   (hY:∀(w:World) (h:Heap),YP w h->(K w.params).In h)
   (F:∀(w:World) (mg:Str->Option Value) (fa:Addr) (h:Heap),(K w.params).In h->h.Ns mainGlobals mg->mg d.name=some (.ref fa) ->
     ∃fd:FuncData,(∀(s:Shared) (u:Value),BindsTo s fd ⟨[u],[]⟩ [("script",u)])/\∀base:Heap,(K w.params).In base->base.Ns mainGlobals mg->aN l.prog w (K w.params) mg base CX0 65 fa fd ["script"] (pL (K w.params))) :
   PySem.W.WalkO q loose XP YP l.row.toRowW d [] (fun f vs=>PySem.call f vs):=
 L2.walk_of (n:=63) (k:=65) (x:="script") (CX:=fun _=>CX0) (sp:=fun w=>pL (K w.params)) hn (by decide) hdf ⟨rfl,by decide,by decide⟩ hY F (fun _ _ a ns hl _ hS=>⟨a,ns,rfl,hS,hl,fun _=>rfl⟩) fun _ _ _ _ _ z=>z
end TW
def PySem.W.Fast.tw10002973034456568971:Nat:=0
def PySem.W.Fast.tw10014049690440857264:Nat:=0
def PySem.W.Fast.tw10116796304434339946:Nat:=0
def PySem.W.Fast.tw10128613311395433664:Nat:=0
def PySem.W.Fast.tw10166391285773854461:Nat:=0
def PySem.W.Fast.tw10181117778206321683:Nat:=0
def PySem.W.Fast.tw10219055359542175022:Nat:=0
def PySem.W.Fast.tw10220287413919208178:Nat:=0
def PySem.W.Fast.tw10233491296454000276:Nat:=0
def PySem.W.Fast.tw10234298777059169829:Nat:=0
def PySem.W.Fast.tw10345031389738266242:Nat:=0
def PySem.W.Fast.tw10377705658819554509:Nat:=0
def PySem.W.Fast.tw10391323666493929108:Nat:=0
def PySem.W.Fast.tw10408855351504606378:Nat:=0
def PySem.W.Fast.tw10441176551016243451:Nat:=0
def PySem.W.Fast.tw10446549715762904593:Nat:=0
def PySem.W.Fast.tw10453450387860046702:Nat:=0
def PySem.W.Fast.tw10474323700662506151:Nat:=0
def PySem.W.Fast.tw10493266286010431516:Nat:=0
def PySem.W.Fast.tw10502908800577177986:Nat:=0
def PySem.W.Fast.tw10528289352947891425:Nat:=0
def PySem.W.Fast.tw10529781271364831920:Nat:=0
def PySem.W.Fast.tw10540163846115343439:Nat:=0
def PySem.W.Fast.tw10572654810357880829:Nat:=0
def PySem.W.Fast.tw10637796478452175264:Nat:=0
def PySem.W.Fast.tw10774765725967702826:Nat:=0
def PySem.W.Fast.tw10775474183022960889:Nat:=0
def PySem.W.Fast.tw10815036100577740164:Nat:=0
def PySem.W.Fast.tw1082149626469914723:Nat:=0
def PySem.W.Fast.tw10841175720609711043:Nat:=0
def PySem.W.Fast.tw10879753706701482715:Nat:=0
def PySem.W.Fast.tw10911925364519388077:Nat:=0
def PySem.W.Fast.tw10937184376292391149:Nat:=0
def PySem.W.Fast.tw10938730446705395016:Nat:=0
def PySem.W.Fast.tw10957120165921683434:Nat:=0
def PySem.W.Fast.tw10977846586194323212:Nat:=0
def PySem.W.Fast.tw11138108495985788289:Nat:=0
def PySem.W.Fast.tw11271491154741743788:Nat:=0
def PySem.W.Fast.tw11292658326361398548:Nat:=0
def PySem.W.Fast.tw11294352406143786989:Nat:=0
def PySem.W.Fast.tw11295166475404116151:Nat:=0
def PySem.W.Fast.tw11330585862070211152:Nat:=0
def PySem.W.Fast.tw11349818561090962437:Nat:=0
def PySem.W.Fast.tw11407812700516303735:Nat:=0
def PySem.W.Fast.tw11417190895097672628:Nat:=0
def PySem.W.Fast.tw11456484533577089806:Nat:=0
def PySem.W.Fast.tw1148908238796304314:Nat:=0
def PySem.W.Fast.tw11536824190088279772:Nat:=0
def PySem.W.Fast.tw11595499893031099155:Nat:=0
def PySem.W.Fast.tw1169188946962106527:Nat:=0
def PySem.W.Fast.tw11848330797827985600:Nat:=0
def PySem.W.Fast.tw11851818384552643399:Nat:=0
def PySem.W.Fast.tw11865984276058599827:Nat:=0
def PySem.W.Fast.tw11888293740756765640:Nat:=0
def PySem.W.Fast.tw118933581699829087:Nat:=0
def PySem.W.Fast.tw11904090841522800107:Nat:=0
def PySem.W.Fast.tw11913304438593262980:Nat:=0
def PySem.W.Fast.tw1193660929153007277:Nat:=0
def PySem.W.Fast.tw12065197990023038173:Nat:=0
def PySem.W.Fast.tw12067581406234210840:Nat:=0
def PySem.W.Fast.tw12069797524263528537:Nat:=0
def PySem.W.Fast.tw12079141863560650397:Nat:=0
def PySem.W.Fast.tw12099288540834064112:Nat:=0
def PySem.W.Fast.tw12106380535295866813:Nat:=0
def PySem.W.Fast.tw12188983248746619333:Nat:=0
def PySem.W.Fast.tw12233063003037620039:Nat:=0
def PySem.W.Fast.tw12245734771586352438:Nat:=0
def PySem.W.Fast.tw1224802686437171975:Nat:=0
def PySem.W.Fast.tw12255696444183394436:Nat:=0
def PySem.W.Fast.tw12290636800859614850:Nat:=0
def PySem.W.Fast.tw12312277376594941551:Nat:=0
def PySem.W.Fast.tw123219930340917456:Nat:=0
def PySem.W.Fast.tw12332673746249805727:Nat:=0
def PySem.W.Fast.tw1235549071212346024:Nat:=0
def PySem.W.Fast.tw12368762307191222717:Nat:=0
def PySem.W.Fast.tw12370136870740891524:Nat:=0
def PySem.W.Fast.tw12417605363489659928:Nat:=0
def PySem.W.Fast.tw12421759180154935588:Nat:=0
def PySem.W.Fast.tw12423650635983107350:Nat:=0
def PySem.W.Fast.tw12460178422353957344:Nat:=0
def PySem.W.Fast.tw12486875191895630803:Nat:=0
def PySem.W.Fast.tw12502691052236673666:Nat:=0
def PySem.W.Fast.tw12575761191188479603:Nat:=0
def PySem.W.Fast.tw12582495798332586334:Nat:=0
def PySem.W.Fast.tw12612502496622758368:Nat:=0
def PySem.W.Fast.tw12679515879656066560:Nat:=0
def PySem.W.Fast.tw12722218081891063096:Nat:=0
def PySem.W.Fast.tw12751750519745907200:Nat:=0
def PySem.W.Fast.tw12787730181073060368:Nat:=0
def PySem.W.Fast.tw12789231192215305071:Nat:=0
def PySem.W.Fast.tw12803186069353740059:Nat:=0
def PySem.W.Fast.tw12832834828831214175:Nat:=0
def PySem.W.Fast.tw12840293162582712169:Nat:=0
def PySem.W.Fast.tw12840875573586214329:Nat:=0
def PySem.W.Fast.tw12846306886557376827:Nat:=0
def PySem.W.Fast.tw12883964564756833394:Nat:=0
def PySem.W.Fast.tw12914116261361997904:Nat:=0
def PySem.W.Fast.tw1291562235029231075:Nat:=0
def PySem.W.Fast.tw1296040324348557008:Nat:=0
def PySem.W.Fast.tw12981350400114456126:Nat:=0
def PySem.W.Fast.tw12985821877352175274:Nat:=0
def PySem.W.Fast.tw12986863441040174627:Nat:=0
def PySem.W.Fast.tw13007595938143251941:Nat:=0
def PySem.W.Fast.tw13013785555580443808:Nat:=0
def PySem.W.Fast.tw13021575411392490242:Nat:=0
def PySem.W.Fast.tw13110788501750075972:Nat:=0
def PySem.W.Fast.tw13151779933358392835:Nat:=0
def PySem.W.Fast.tw13189040722446148994:Nat:=0
def PySem.W.Fast.tw1320318270820469185:Nat:=0
def PySem.W.Fast.tw13254586234563689423:Nat:=0
def PySem.W.Fast.tw13290703534429939760:Nat:=0
def PySem.W.Fast.tw13329724796419765196:Nat:=0
def PySem.W.Fast.tw13380548753043228327:Nat:=0
def PySem.W.Fast.tw13435942527888230969:Nat:=0
def PySem.W.Fast.tw13449170511649773623:Nat:=0
def PySem.W.Fast.tw13515304814135892591:Nat:=0
def PySem.W.Fast.tw13515546732664971345:Nat:=0
def PySem.W.Fast.tw13525510351105158241:Nat:=0
def PySem.W.Fast.tw13660993561036448244:Nat:=0
def PySem.W.Fast.tw13721316943853854087:Nat:=0
def PySem.W.Fast.tw13727637113440750974:Nat:=0
def PySem.W.Fast.tw13823652399533143390:Nat:=0
def PySem.W.Fast.tw13830894158224371828:Nat:=0
def PySem.W.Fast.tw13854910763375129630:Nat:=0
def PySem.W.Fast.tw13859717188830288334:Nat:=0
def PySem.W.Fast.tw13867167932690873939:Nat:=0
def PySem.W.Fast.tw13881519138864797379:Nat:=0
def PySem.W.Fast.tw13937332330768134376:Nat:=0
def PySem.W.Fast.tw13995737833288283717:Nat:=0
def PySem.W.Fast.tw13998413399826410867:Nat:=0
def PySem.W.Fast.tw1403390022477804090:Nat:=0
def PySem.W.Fast.tw14095128321329165290:Nat:=0
def PySem.W.Fast.tw14100437458262742265:Nat:=0
def PySem.W.Fast.tw14122878987635140085:Nat:=0
def PySem.W.Fast.tw14149362392250294954:Nat:=0
def PySem.W.Fast.tw14152700577091431001:Nat:=0
def PySem.W.Fast.tw14203492486150853930:Nat:=0
def PySem.W.Fast.tw14244922331030781336:Nat:=0
def PySem.W.Fast.tw14283024962976664019:Nat:=0
def PySem.W.Fast.tw14297798753425074976:Nat:=0
def PySem.W.Fast.tw14320557784376126898:Nat:=0
def PySem.W.Fast.tw14409610163340947938:Nat:=0
def PySem.W.Fast.tw14481019853456575999:Nat:=0
def PySem.W.Fast.tw14513682636192433845:Nat:=0
def PySem.W.Fast.tw14567068805256788090:Nat:=0
def PySem.W.Fast.tw14773644177979401141:Nat:=0
def PySem.W.Fast.tw1478311828434522200:Nat:=0
def PySem.W.Fast.tw14847846448838490301:Nat:=0
def PySem.W.Fast.tw14868418199316662453:Nat:=0
def PySem.W.Fast.tw14896220820926632217:Nat:=0
def PySem.W.Fast.tw1499725790260786206:Nat:=0
def PySem.W.Fast.tw15027883471402740139:Nat:=0
def PySem.W.Fast.tw15114602890463461588:Nat:=0
def PySem.W.Fast.tw15117283019894030801:Nat:=0
def PySem.W.Fast.tw15119157453983414589:Nat:=0
def PySem.W.Fast.tw15149397448381421417:Nat:=0
def PySem.W.Fast.tw15222443816679523870:Nat:=0
def PySem.W.Fast.tw15244858314559466667:Nat:=0
def PySem.W.Fast.tw15303967658562839266:Nat:=0
def PySem.W.Fast.tw15307021211526846117:Nat:=0
def PySem.W.Fast.tw15328773295297185749:Nat:=0
def PySem.W.Fast.tw15364117995860559652:Nat:=0
def PySem.W.Fast.tw15435555659221427187:Nat:=0
def PySem.W.Fast.tw15436863605874644799:Nat:=0
def PySem.W.Fast.tw15437452690089963270:Nat:=0
def PySem.W.Fast.tw15642423415793753559:Nat:=0
def PySem.W.Fast.tw15670031645532276348:Nat:=0
def PySem.W.Fast.tw15674969080205484529:Nat:=0
def PySem.W.Fast.tw1575118107159764512:Nat:=0
def PySem.W.Fast.tw15784794396869936889:Nat:=0
def PySem.W.Fast.tw15791252114590062357:Nat:=0
def PySem.W.Fast.tw15810947105625354733:Nat:=0
def PySem.W.Fast.tw15822000769679508108:Nat:=0
def PySem.W.Fast.tw15865561330198764430:Nat:=0
def PySem.W.Fast.tw15897225761400421634:Nat:=0
def PySem.W.Fast.tw15962122672387415955:Nat:=0
def PySem.W.Fast.tw15980915327992479485:Nat:=0
def PySem.W.Fast.tw15986685994132865483:Nat:=0
def PySem.W.Fast.tw16072674342118195533:Nat:=0
def PySem.W.Fast.tw16081856665910769697:Nat:=0
def PySem.W.Fast.tw16134373825567654801:Nat:=0
def PySem.W.Fast.tw16150624610114936234:Nat:=0
def PySem.W.Fast.tw16168258550118515918:Nat:=0
def PySem.W.Fast.tw16272957052690623108:Nat:=0
def PySem.W.Fast.tw16297225434692849693:Nat:=0
def PySem.W.Fast.tw16326749034179283588:Nat:=0
def PySem.W.Fast.tw16401389704275547192:Nat:=0
def PySem.W.Fast.tw16460876635183785597:Nat:=0
def PySem.W.Fast.tw16464641399599690244:Nat:=0
def PySem.W.Fast.tw16488170247354227868:Nat:=0
def PySem.W.Fast.tw16505361873514436858:Nat:=0
def PySem.W.Fast.tw16507771808842844396:Nat:=0
def PySem.W.Fast.tw16558018777288823148:Nat:=0
def PySem.W.Fast.tw16560787713337059049:Nat:=0
def PySem.W.Fast.tw16574520925585889188:Nat:=0
def PySem.W.Fast.tw16576650359547060611:Nat:=0
def PySem.W.Fast.tw16663511974085991666:Nat:=0
def PySem.W.Fast.tw16665764646399152935:Nat:=0
def PySem.W.Fast.tw16744330549142471952:Nat:=0
def PySem.W.Fast.tw16774455675792989952:Nat:=0
def PySem.W.Fast.tw16783804060253169283:Nat:=0
def PySem.W.Fast.tw16785833698284479448:Nat:=0
def PySem.W.Fast.tw16790371918622036220:Nat:=0
def PySem.W.Fast.tw16878405230269605984:Nat:=0
def PySem.W.Fast.tw16884413170382155921:Nat:=0
def PySem.W.Fast.tw17132856833800447827:Nat:=0
def PySem.W.Fast.tw17137515565376906887:Nat:=0
def PySem.W.Fast.tw17216398701806575629:Nat:=0
def PySem.W.Fast.tw17248555465148172284:Nat:=0
def PySem.W.Fast.tw17251905108286813817:Nat:=0
def PySem.W.Fast.tw17253482469685213501:Nat:=0
def PySem.W.Fast.tw17278762184416665730:Nat:=0
def PySem.W.Fast.tw17322605868834822542:Nat:=0
def PySem.W.Fast.tw17393248274044542620:Nat:=0
def PySem.W.Fast.tw17405455153310845644:Nat:=0
def PySem.W.Fast.tw17430539762488783379:Nat:=0
def PySem.W.Fast.tw17575882160559159440:Nat:=0
def PySem.W.Fast.tw17626397084211432441:Nat:=0
def PySem.W.Fast.tw17640693434228144793:Nat:=0
def PySem.W.Fast.tw17644044511191452748:Nat:=0
def PySem.W.Fast.tw17660658982245109411:Nat:=0
def PySem.W.Fast.tw17671927656088277815:Nat:=0
def PySem.W.Fast.tw17685488963188147641:Nat:=0
def PySem.W.Fast.tw17720521606782029390:Nat:=0
def PySem.W.Fast.tw17748720470288040268:Nat:=0
def PySem.W.Fast.tw17759133880276126331:Nat:=0
def PySem.W.Fast.tw17759699114135167407:Nat:=0
def PySem.W.Fast.tw17781038281943438966:Nat:=0
def PySem.W.Fast.tw17855750685052489295:Nat:=0
def PySem.W.Fast.tw17861102968940171974:Nat:=0
def PySem.W.Fast.tw17871145264560360359:Nat:=0
def PySem.W.Fast.tw18101631227904089418:Nat:=0
def PySem.W.Fast.tw18156602023559751161:Nat:=0
def PySem.W.Fast.tw18159488571661367456:Nat:=0
def PySem.W.Fast.tw1822512746073031400:Nat:=0
def PySem.W.Fast.tw18264791522649492837:Nat:=0
def PySem.W.Fast.tw18268652149799118278:Nat:=0
def PySem.W.Fast.tw183095974943040882:Nat:=0
def PySem.W.Fast.tw18318816908051566343:Nat:=0
def PySem.W.Fast.tw18427316964360907597:Nat:=0
def PySem.W.Fast.tw1941976649017595088:Nat:=0
def PySem.W.Fast.tw1951694934257246342:Nat:=0
def PySem.W.Fast.tw1971585569184508455:Nat:=0
def PySem.W.Fast.tw2071231412588802373:Nat:=0
def PySem.W.Fast.tw2080468690707513155:Nat:=0
def PySem.W.Fast.tw2175718407186953040:Nat:=0
def PySem.W.Fast.tw2183061615724424020:Nat:=0
def PySem.W.Fast.tw222708847397336374:Nat:=0
def PySem.W.Fast.tw222980905642299198:Nat:=0
def PySem.W.Fast.tw2267374388219392827:Nat:=0
def PySem.W.Fast.tw228296249616072003:Nat:=0
def PySem.W.Fast.tw2283854205511376558:Nat:=0
def PySem.W.Fast.tw2296908073826296365:Nat:=0
def PySem.W.Fast.tw2311590896337281421:Nat:=0
def PySem.W.Fast.tw235559996764562321:Nat:=0
def PySem.W.Fast.tw2373389514540954458:Nat:=0
def PySem.W.Fast.tw2450535503667551671:Nat:=0
def PySem.W.Fast.tw2520093777550414136:Nat:=0
def PySem.W.Fast.tw2625737721396240854:Nat:=0
def PySem.W.Fast.tw2646019574311737132:Nat:=0
def PySem.W.Fast.tw2664221406760233209:Nat:=0
def PySem.W.Fast.tw2737989494554641389:Nat:=0
def PySem.W.Fast.tw2738064343911239354:Nat:=0
def PySem.W.Fast.tw2769557151814655373:Nat:=0
def PySem.W.Fast.tw2843011570982586394:Nat:=0
def PySem.W.Fast.tw2909490019644297366:Nat:=0
def PySem.W.Fast.tw3003940933462867413:Nat:=0
def PySem.W.Fast.tw3042247161335486557:Nat:=0
def PySem.W.Fast.tw3092496658297659568:Nat:=0
def PySem.W.Fast.tw312810282667197960:Nat:=0
def PySem.W.Fast.tw3143585472202756070:Nat:=0
def PySem.W.Fast.tw3151790826361741499:Nat:=0
def PySem.W.Fast.tw3170115369486620403:Nat:=0
def PySem.W.Fast.tw3197062611469758263:Nat:=0
def PySem.W.Fast.tw3217784583268082815:Nat:=0
def PySem.W.Fast.tw324920121666887750:Nat:=0
def PySem.W.Fast.tw3249604823792565671:Nat:=0
def PySem.W.Fast.tw3286841531245275563:Nat:=0
def PySem.W.Fast.tw3304361285392781224:Nat:=0
def PySem.W.Fast.tw354091614911861742:Nat:=0
def PySem.W.Fast.tw3571704412795682407:Nat:=0
def PySem.W.Fast.tw3576824573028045224:Nat:=0
def PySem.W.Fast.tw3582829202457833194:Nat:=0
def PySem.W.Fast.tw3659495385239654812:Nat:=0
def PySem.W.Fast.tw3720344900322809203:Nat:=0
def PySem.W.Fast.tw3729401862071826849:Nat:=0
def PySem.W.Fast.tw3789619150048842271:Nat:=0
def PySem.W.Fast.tw3823986681438843535:Nat:=0
def PySem.W.Fast.tw3828756130373095600:Nat:=0
def PySem.W.Fast.tw3829132525623120689:Nat:=0
def PySem.W.Fast.tw3859774877047856980:Nat:=0
def PySem.W.Fast.tw3871759963931329085:Nat:=0
def PySem.W.Fast.tw3881745142408537145:Nat:=0
def PySem.W.Fast.tw3885328992202482080:Nat:=0
def PySem.W.Fast.tw3891000040358138805:Nat:=0
def PySem.W.Fast.tw3924449818529739775:Nat:=0
def PySem.W.Fast.tw3950939460471337732:Nat:=0
def PySem.W.Fast.tw3970150601193185051:Nat:=0
def PySem.W.Fast.tw4003951442399725166:Nat:=0
def PySem.W.Fast.tw4128823764211810139:Nat:=0
def PySem.W.Fast.tw4134690873371893844:Nat:=0
def PySem.W.Fast.tw4191211046524525717:Nat:=0
def PySem.W.Fast.tw428017153356559818:Nat:=0
def PySem.W.Fast.tw4284188901353647139:Nat:=0
def PySem.W.Fast.tw4302516703817654071:Nat:=0
def PySem.W.Fast.tw4416359809751280229:Nat:=0
def PySem.W.Fast.tw4437394540320820423:Nat:=0
def PySem.W.Fast.tw4488503942416309766:Nat:=0
def PySem.W.Fast.tw4491567969377577995:Nat:=0
def PySem.W.Fast.tw4518354386492369204:Nat:=0
def PySem.W.Fast.tw4526452538848697760:Nat:=0
def PySem.W.Fast.tw4533859425717202711:Nat:=0
def PySem.W.Fast.tw4556735774590190712:Nat:=0
def PySem.W.Fast.tw4573312854625857250:Nat:=0
def PySem.W.Fast.tw4586217950491929717:Nat:=0
def PySem.W.Fast.tw4607736465713050088:Nat:=0
def PySem.W.Fast.tw4768626062822672971:Nat:=0
def PySem.W.Fast.tw4799885778116187708:Nat:=0
def PySem.W.Fast.tw4802756727276353225:Nat:=0
def PySem.W.Fast.tw4839473627763518993:Nat:=0
def PySem.W.Fast.tw4863526169834245323:Nat:=0
def PySem.W.Fast.tw4913814868110464150:Nat:=0
def PySem.W.Fast.tw4944398431091572892:Nat:=0
def PySem.W.Fast.tw5023480108488486347:Nat:=0
def PySem.W.Fast.tw5149518468933110021:Nat:=0
def PySem.W.Fast.tw5157200432090709034:Nat:=0
def PySem.W.Fast.tw5157860264847383230:Nat:=0
def PySem.W.Fast.tw5167496663827794982:Nat:=0
def PySem.W.Fast.tw5204624748676220174:Nat:=0
def PySem.W.Fast.tw5204975000432570044:Nat:=0
def PySem.W.Fast.tw5205773289780588718:Nat:=0
def PySem.W.Fast.tw5213699760613714441:Nat:=0
def PySem.W.Fast.tw5304533614509702898:Nat:=0
def PySem.W.Fast.tw5348550842361404595:Nat:=0
def PySem.W.Fast.tw5357284080020853051:Nat:=0
def PySem.W.Fast.tw5380075135313256135:Nat:=0
def PySem.W.Fast.tw5400416156614739482:Nat:=0
def PySem.W.Fast.tw5401026175869648233:Nat:=0
def PySem.W.Fast.tw5426879310289195193:Nat:=0
def PySem.W.Fast.tw5540580599501322975:Nat:=0
def PySem.W.Fast.tw5546963673674633061:Nat:=0
def PySem.W.Fast.tw5608344537079319134:Nat:=0
def PySem.W.Fast.tw5608483301791106589:Nat:=0
def PySem.W.Fast.tw5613553725513683275:Nat:=0
def PySem.W.Fast.tw5784186745082447385:Nat:=0
def PySem.W.Fast.tw5792544305283867431:Nat:=0
def PySem.W.Fast.tw579544605338334730:Nat:=0
def PySem.W.Fast.tw5822881637677040341:Nat:=0
def PySem.W.Fast.tw5995590757754240939:Nat:=0
def PySem.W.Fast.tw6031823473082030713:Nat:=0
def PySem.W.Fast.tw6110316824107149573:Nat:=0
def PySem.W.Fast.tw612567018011935743:Nat:=0
def PySem.W.Fast.tw6126208638521828972:Nat:=0
def PySem.W.Fast.tw6284322390090344026:Nat:=0
def PySem.W.Fast.tw6300721494146741523:Nat:=0
def PySem.W.Fast.tw6426812952867380566:Nat:=0
def PySem.W.Fast.tw6532720129555066258:Nat:=0
def PySem.W.Fast.tw6557335094836501582:Nat:=0
def PySem.W.Fast.tw6644991687214158803:Nat:=0
def PySem.W.Fast.tw6657049754715106620:Nat:=0
def PySem.W.Fast.tw6660815323125614388:Nat:=0
def PySem.W.Fast.tw667353053545843923:Nat:=0
def PySem.W.Fast.tw6759656494803989739:Nat:=0
def PySem.W.Fast.tw6800493715553579185:Nat:=0
def PySem.W.Fast.tw6804208116985393416:Nat:=0
def PySem.W.Fast.tw6829563309426871187:Nat:=0
def PySem.W.Fast.tw6830563412373887488:Nat:=0
def PySem.W.Fast.tw6831114953959956069:Nat:=0
def PySem.W.Fast.tw6845655686526405225:Nat:=0
def PySem.W.Fast.tw6888201971118349674:Nat:=0
def PySem.W.Fast.tw6945136809414369026:Nat:=0
def PySem.W.Fast.tw6979802650184333005:Nat:=0
def PySem.W.Fast.tw6982205604789870203:Nat:=0
def PySem.W.Fast.tw6994867672901592825:Nat:=0
def PySem.W.Fast.tw7029333128007815377:Nat:=0
def PySem.W.Fast.tw7055229851581338414:Nat:=0
def PySem.W.Fast.tw7132201733875146064:Nat:=0
def PySem.W.Fast.tw714260868381034093:Nat:=0
def PySem.W.Fast.tw7157704738803372061:Nat:=0
def PySem.W.Fast.tw7192152750113128343:Nat:=0
def PySem.W.Fast.tw7203682673159730725:Nat:=0
def PySem.W.Fast.tw7209693668618850608:Nat:=0
def PySem.W.Fast.tw7300954043669699422:Nat:=0
def PySem.W.Fast.tw731775482712834139:Nat:=0
def PySem.W.Fast.tw7320894787562929005:Nat:=0
def PySem.W.Fast.tw7406167433248899048:Nat:=0
def PySem.W.Fast.tw740987726918605026:Nat:=0
def PySem.W.Fast.tw7473020092805234695:Nat:=0
def PySem.W.Fast.tw7502726508474972520:Nat:=0
def PySem.W.Fast.tw7519805450874329675:Nat:=0
def PySem.W.Fast.tw7521012209181774316:Nat:=0
def PySem.W.Fast.tw7660330309124355047:Nat:=0
def PySem.W.Fast.tw7684456474433226284:Nat:=0
def PySem.W.Fast.tw7698943534362035624:Nat:=0
def PySem.W.Fast.tw7715505674021554502:Nat:=0
def PySem.W.Fast.tw7723307838107603344:Nat:=0
def PySem.W.Fast.tw7799667282694009621:Nat:=0
def PySem.W.Fast.tw7803226519191434849:Nat:=0
def PySem.W.Fast.tw782688340193145262:Nat:=0
def PySem.W.Fast.tw7839371898531879397:Nat:=0
def PySem.W.Fast.tw7898054733253470450:Nat:=0
def PySem.W.Fast.tw7901905068498682925:Nat:=0
def PySem.W.Fast.tw7913744822073921332:Nat:=0
def PySem.W.Fast.tw7933504504432780675:Nat:=0
def PySem.W.Fast.tw8017546901706152926:Nat:=0
def PySem.W.Fast.tw8036392445028371343:Nat:=0
def PySem.W.Fast.tw8106889267903505776:Nat:=0
def PySem.W.Fast.tw8114185360684843188:Nat:=0
def PySem.W.Fast.tw8239731294605418998:Nat:=0
def PySem.W.Fast.tw8260773849510860872:Nat:=0
def PySem.W.Fast.tw8269077387029689557:Nat:=0
def PySem.W.Fast.tw8283910656307160778:Nat:=0
def PySem.W.Fast.tw8323112413046801429:Nat:=0
def PySem.W.Fast.tw8359360245850988797:Nat:=0
def PySem.W.Fast.tw8361418178404370746:Nat:=0
def PySem.W.Fast.tw836292270771280886:Nat:=0
def PySem.W.Fast.tw840516122554204850:Nat:=0
def PySem.W.Fast.tw8406312340045114507:Nat:=0
def PySem.W.Fast.tw8419383812694187619:Nat:=0
def PySem.W.Fast.tw8464637488036911590:Nat:=0
def PySem.W.Fast.tw8478757308559610480:Nat:=0
def PySem.W.Fast.tw8485452436396073307:Nat:=0
def PySem.W.Fast.tw8557125629048427619:Nat:=0
def PySem.W.Fast.tw8592739139837255257:Nat:=0
def PySem.W.Fast.tw8596404017131578514:Nat:=0
def PySem.W.Fast.tw8619073292675697537:Nat:=0
def PySem.W.Fast.tw8633601662294540262:Nat:=0
def PySem.W.Fast.tw8662635065239361152:Nat:=0
def PySem.W.Fast.tw8687498225162882028:Nat:=0
def PySem.W.Fast.tw8693559020219499381:Nat:=0
def PySem.W.Fast.tw8729584047995989062:Nat:=0
def PySem.W.Fast.tw8738686436097001792:Nat:=0
def PySem.W.Fast.tw8753278592456979131:Nat:=0
def PySem.W.Fast.tw8756336345187723293:Nat:=0
def PySem.W.Fast.tw8783499100156936324:Nat:=0
def PySem.W.Fast.tw8818370922416857955:Nat:=0
def PySem.W.Fast.tw8898999494463360305:Nat:=0
def PySem.W.Fast.tw8926308124105838732:Nat:=0
def PySem.W.Fast.tw8927432968928679895:Nat:=0
def PySem.W.Fast.tw8935730030988635621:Nat:=0
def PySem.W.Fast.tw8937502423661674098:Nat:=0
def PySem.W.Fast.tw9147514913783186336:Nat:=0
def PySem.W.Fast.tw9204423885963971236:Nat:=0
def PySem.W.Fast.tw9235992163717707763:Nat:=0
def PySem.W.Fast.tw9305458345283320461:Nat:=0
def PySem.W.Fast.tw9331947269673862322:Nat:=0
def PySem.W.Fast.tw9422488854420136722:Nat:=0
def PySem.W.Fast.tw945766088025414072:Nat:=0
def PySem.W.Fast.tw9468504340054801678:Nat:=0
def PySem.W.Fast.tw9515796524562616878:Nat:=0
def PySem.W.Fast.tw954815823022334533:Nat:=0
def PySem.W.Fast.tw9560619317727509709:Nat:=0
def PySem.W.Fast.tw9568026818539486118:Nat:=0
def PySem.W.Fast.tw9568882809109319261:Nat:=0
def PySem.W.Fast.tw9616739896824753167:Nat:=0
def PySem.W.Fast.tw9659858694679349996:Nat:=0
def PySem.W.Fast.tw9665602175532950846:Nat:=0
def PySem.W.Fast.tw9677651638096657303:Nat:=0
def PySem.W.Fast.tw9696473024219287727:Nat:=0
def PySem.W.Fast.tw9699048614581648908:Nat:=0
def PySem.W.Fast.tw9739153136465900862:Nat:=0
def PySem.W.Fast.tw9789783781221354420:Nat:=0
def PySem.W.Fast.tw9804618443616741554:Nat:=0
def PySem.W.Fast.tw9815228909206694581:Nat:=0
def PySem.W.Fast.tw9828049136445350755:Nat:=0
def PySem.W.Fast.tw9871925106327464517:Nat:=0
def PySem.W.Fast.tw9877373627724435996:Nat:=0
def PySem.W.Fast.tw9880393951500854352:Nat:=0
def PySem.W.Fast.tw9903450696266530437:Nat:=0
def PySem.W.Fast.tw995805238144295525:Nat:=0
def PySem.W.Fast.tw9962157018123569235:Nat:=0
def PySem.W.Fast.tw9968600783360348793:Nat:=0
def PySem.W.Fast.tw9982402637119811612:Nat:=0
open PySem PySem.W PyProof.Rows
set_option maxRecDepth 100000 in
set_option maxHeartbeats 0 in
theorem PySem.Challenge.cw_twinwalk_k72_rows_of_no_form_holds : PySem.Challenge.rw_twinwalk_k72_rows_of_no_form.Holds := by
 w_on; o_law; k_head; (case hw=>w_witness2)
 k_fill
 refine TW.walk (l:=PySem.Challenge.rw_twinwalk_k72_rows_of_no_form) rfl rfl (fun w h Y=>PySem.W.kIn_of Y) ?F
 case F=>
   intro w mg fa h KX G hmg
   refine TW.yT hmg ?_
   refine' (⟨TW.aH KX G ?_ ?_ ?_ ?_,TW.aH KX G ?_ ?_ ?_ ?_,TW.aH KX G ?_ ?_ ?_ ?_,TW.aH KX G ?_ ?_ ?_ ?_,TW.aH KX G ?_ ?_ ?_ ?_,TW.aH KX G ?_ ?_ ?_ ?_,TW.aH KX G ?_ ?_ ?_ ?_,TW.aH KX G ?_ ?_ ?_ ?_,TW.aH KX G ?_ ?_ ?_ ?_,TW.aH KX G ?_ ?_ ?_ ?_,TW.aH KX G ?_ ?_ ?_ ?_,TW.aH KX G ?_ ?_ ?_ ?_,TW.aH KX G ?_ ?_ ?_ ?_,TW.aH KX G ?_ ?_ ?_ ?_,TW.aH KX G ?_ ?_ ?_ ?_,TW.aH KX G ?_ ?_ ?_ ?_,TW.aH KX G ?_ ?_ ?_ ?_,TW.aH KX G ?_ ?_ ?_ ?_,TW.aH KX G ?_ ?_ ?_ ?_,TW.aH KX G ?_ ?_ ?_ ?_,TW.aH KX G ?_ ?_ ?_ ?_,TW.aH KX G ?_ ?_ ?_ ?_,TW.aH KX G ?_ ?_ ?_ ?_,TW.aH KX G ?_ ?_ ?_ ?_,TW.aH KX G ?_ ?_ ?_ ?_,TW.aH KX G ?_ ?_ ?_ ?_,TW.aH KX G ?_ ?_ ?_ ?_,TW.aH KX G ?_ ?_ ?_ ?_,TW.aH KX G ?_ ?_ ?_ ?_,TW.aH KX G ?_ ?_ ?_ ?_,TW.aH KX G ?_ ?_ ?_ ?_,TW.aH KX G ?_ ?_ ?_ ?_,TW.aH KX G ?_ ?_ ?_ ?_,TW.aH KX G ?_ ?_ ?_ ?_,TW.aH KX G ?_ ?_ ?_ ?_,TW.pP KX G ?_ ?_ ?_ ?_ ?_,TW.pP KX G ?_ ?_ ?_ ?_ ?_,⟨_,GO KX G ?_⟩,⟨_,GO KX G ?_⟩,⟨_,GO KX G ?_⟩,⟨_,GO KX G ?_⟩,⟨_,GO KX G ?_,TW.pj ?_ ?_ ?_ ?_⟩,⟨_,GO KX G ?_,TW.pj ?_ ?_ ?_ ?_⟩,⟨_,[?_,?_,?_,?_,?_,?_,?_],GO KX G ?_,TW.pj ?_ ?_ ?_ ?_,(.cons (TW.tw_mk ?_ ?_ ?_) (.cons (TW.tw_mk ?_ ?_ ?_) (.cons (TW.tw_mk ?_ ?_ ?_) (.cons (TW.tw_mk ?_ ?_ ?_) (.cons (TW.tw_mk ?_ ?_ ?_) (.cons (TW.tw_mk ?_ ?_ ?_) (.cons (TW.tw_mk ?_ ?_ ?_) .nil)))))))⟩,⟨_,GO KX G ?_,TW.pj ?_ ?_ ?_ ?_⟩,⟨_,GO KX G ?_⟩,⟨_,⟨GO KX G ?_,⟨?_,?_,?_,?_⟩,⟨?_,?_,trivial⟩⟩,⟨_,_,L2.dZ ?_ ?_ ?_,⟨?_,?_,?_,?_⟩⟩,⟨_,_,L2.dZ ?_ ?_ ?_,⟨?_,?_,?_⟩⟩,⟨_,_,L2.dZ ?_ ?_ ?_,⟨?_,?_,?_⟩⟩,⟨_,_,L2.dZ ?_ ?_ ?_,⟨?_,?_,?_⟩⟩,⟨_,_,L2.dZ ?_ ?_ ?_,⟨?_,?_,?_⟩⟩,⟨_,_,L2.dZ ?_ ?_ ?_,⟨?_,?_,?_⟩⟩,⟨_,_,L2.dZ ?_ ?_ ?_,⟨?_,?_,?_⟩⟩⟩,⟨_,_,_,_,_,_,_,_,_,_,_,_,TW.dJ KX G ?_ ?_ ?_ ?_,TW.dJ KX G ?_ ?_ ?xl_NoPair ?_,TW.cA ?_ ?_ ?_ ?xhn ?xtk ?_ ?_ ?xl_NoPair,?_,?_,?_,?_,?_,?_,?_,?_,?_,?_,?_,?_,?_,TW.dJ KX G ?_ ?_ ?xl_NoPaper ?_,TW.cA ?_ ?_ ?_ ?xhn ?xtk ?_ ?_ ?xl_NoPaper,?_,?_,?_,?_,?_,?_,?_,?_,?_,?_,?_,?_,?_,TW.dJ KX G ?_ ?_ ?xl_TooMany ?_,TW.cA ?_ ?_ ?_ ?xhn ?xtk ?_ ?_ ?xl_TooMany,?_,?_,?_,?_,?_,?_,?_,?_,?_,?_,?_,?_,?_,TW.dJ KX G ?_ ?_ ?xl_NoRow ?_,TW.cA ?_ ?_ ?_ ?xhn ?xtk ?_ ?_ ?xl_NoRow,?_,?_,?_,?_,?_,?_,?_,?_,?_,?_,?_,?_,?_,TW.dJ KX G ?_ ?_ ?xl_NoProgram ?_,TW.cA ?_ ?_ ?_ ?xhn ?xtk ?_ ?_ ?xl_NoProgram,?_,?_,?_,?_,?_,?_,?_,?_,?_,?_,?_,?_,?_,TW.dJ KX G ?_ ?_ ?xl_NoWorths ?_,TW.cA ?_ ?_ ?_ ?xhn ?xtk ?_ ?_ ?xl_NoWorths,?_,?_,?_,?_,?_,?_,?_,?_,?_,?_,?_,?_,?_,TW.dJ KX G ?_ ?_ ?xl_NoNode ?_,TW.cA ?_ ?_ ?_ ?xhn ?xtk ?_ ?_ ?xl_NoNode,?_,?_,?_,?_,?_,?_,?_,?_,?_,?_,?_,?_,?_,TW.dJ KX G ?_ ?_ ?xl_NoChange ?_,TW.cA ?_ ?_ ?_ ?xhn ?xtk ?_ ?_ ?xl_NoChange,?_,?_,?_,?_,?_,?_,?_,?_,?_,?_,?_,?_,?_,TW.dJ KX G ?_ ?_ ?xl_NoForm ?_,TW.cA ?_ ?_ ?_ ?xhn ?xtk ?_ ?_ ?xl_NoForm,?_,?_,?_,?_,?_,?_,?_,?_,?_,?_,?_,?_,?_,TW.dJ KX G ?_ ?_ ?xl_NoneYet ?_,TW.cA ?_ ?_ ?_ ?xhn ?xtk ?_ ?_ ?xl_NoneYet,?_,?_,?_,?_,?_,?_,?_,?_,?_,?_,?_,?_,?_,TW.dJ KX G ?_ ?_ ?xl_NoPicks ?_,TW.cA ?_ ?_ ?_ ?xhn ?xtk ?_ ?_ ?xl_NoPicks,?_,?_,?_,?_,?_,?_,?_,?_,?_,?_,?_,?_,?_⟩,GB KX G ?_,GB KX G ?_,GB KX G ?_,GB KX G ?_,GB KX G ?_,GB KX G ?_,GB KX G ?_,GB KX G ?_,GB KX G ?_,GB KX G ?_,GB KX G ?_,GB KX G ?_⟩ : TW.Bz _ _ _)
   (try any_goals first | k_is | k_exc | rfl | ((repeat (first | exact TW.uE | refine TW.pE ⟨_,rfl⟩ rfl ?_ | refine TW.pE ⟨_,rfl⟩ ⟨_,rfl⟩ ?_)); done))
   (try any_goals first | k_is | k_exc | rfl | ((repeat (first | exact TW.uE | refine TW.pE ⟨_,rfl⟩ rfl ?_ | refine TW.pE ⟨_,rfl⟩ ⟨_,rfl⟩ ?_)); done))
   all_goals first | kit_is | decide | rfl | exact ⟨_,rfl⟩ | (k_keys; done) | (repeat' constructor)
